import PyProof.Rows.All
import Wide.All
import OpenK.AllK
import Wide.FinOn
import Lean
import PyProof.EqAt
import PyProof.EqKinds
import PyProof.TupleCall
import PySem.Challenge.RW_netfinder_k05_charts_refused
set_option hygiene false
local macro_rules
|`(tactic|simp?)=>`(tactic|simp only[pv,seval,op])
|`(tactic|simp?[$x,*])=>`(tactic|simp only[pv,seval,op,$x,*])
|`(tactic|simp?[$x,*]$l:location)=>`(tactic|simp only[pv,seval,op,$x,*]$l:location)
local macro_rules
|`(tactic|simp![$x,*])=>`(tactic|simp only[$x,*])
|`(tactic|simp![$x,*]$l:location)=>`(tactic|simp only[$x,*]$l:location)
set_option Elab.async false
set_option linter.all false
set_option maxRecDepth 100000
set_option compiler.extract_closed false
set_option bootstrap.genMatcherCode false
noncomputable section
abbrev Wp:=PySem.Value
abbrev WF:=PySem.Shared
abbrev WP:=PySem.Addr
abbrev W1:=PySem.Program
abbrev Uf:=PySem.Around
abbrev UF:=PySem.Heap
def ZB{a b:Prop}(x:a)(y:b):a∧b:=⟨x,y⟩
def ZH:=@PySem.wpAny_bind
def ZI:=@List.mem_cons_self
def ZJ:=@List.mem_cons
def ZK:=@List.mem_append_right
def ZL:=@PySem.Heap.get?_push_of_some
def ZM:=@PySem.wpAny_pure
def ZN:=@List.mem_cons_of_mem
def ZO:=@Nat.le_refl
def ZP:=@Bool.and_eq_true
def ZQ:=@PySem.Heap.lt_size
def ZR:=@List.length_cons
def ZT:=@List.length_map
def ZU:=@Bool.false_ne_true
def ZV:=@Nat.lt_of_lt_of_le
def ZW:=@List.getElem?_eq_getElem
def ZX:=@List.mem_append_left
def ZY:=@if_pos
def ZZ:=@List.size_toArray
def Z0:=@PySem.Heap.get?_push_size
def Z1:=@List.getElem?_eq_some_iff
def Z2:=@decide_eq_true_eq
def Z3:=@Bool.or_eq_true
def Z4:=@List.map_append
def Z5:=@Int.eq_ofNat_of_zero_le
def Z6:=@if_neg
def Z7:=@decide_eq_false
def Z8:=@List.length_take
def Z9:=@List.getElem?_map
def aaa:=@List.append_assoc
def aab:=@List.getD_eq_getElem?_getD
def aac:=@Nat.ne_of_lt
def aad:=@List.all_eq_true
def aae:=@List.map_cons
def aaf:=@PySem.wpAny_mono
def aag:=@List.mem_append
def aah:=@List.map_map
def aai:=@List.length_drop
def aaj:=@beq_eq_false_iff_ne
def aak:=@List.append_nil
def aal:=@List.length_range
def aam:=@List.getElem_mem
def aan:=@List.mem_singleton
def aao:=@decide_eq_true
def aap:=@List.nodup_append
def aaq:=@Bool.not_false
def aar:=@List.not_mem_nil
def aas:=@List.nodup_cons
def aat:=@PySem.wpAny_execs_cons
def aau:=@List.length_append
def aav:=@Bool.false_eq_true
def aaw:=@Nat.lt_succ_self
def aax:=@Option.some.inj
def aay:=@Bool.eq_iff_iff
def aaz:=@PySem.Heap.get?_update_other
def aaA:=@List.mem_of_getElem?
def aaB:=@Nat.zero_le
def aaC:=@List.eq_nil_of_length_eq_zero
def aaD:=@Bool.not_true
def aaE:=@Bool.true_and
def aaF:=@PySem.W.mg_none_of
def aaG:=@Bool.false_and
def aaH:=@Option.map_eq_some_iff
def aaI:=@PySem.wpAny_newObj_type
def aaJ:=@List.flatten_cons
def aaK:=@beq_iff_eq
def aaL:=@List.length_singleton
def aaM:=@List.getElem?_append_right
def aaN:=@PySem.wpAny_callSpecial?_slot
def aaO:=@List.mem_map
def aaP:=@Nat.le_trans
def aaQ:=@List.length_pos_iff
def aaR:=@decide_true
def aaS:=@beq_self_eq_true
def aaT:=@PySem.wpAny_field
def aaU:=@List.mem_of_mem_take
def aaV:=@PySem.wpAny_Call_Name_kw
def aaW:=@List.all_map
def aaX:=@decide_false
def aaY:=@List.mem_range
def aaZ:=@PySem.wpAny_passesOwn
def aa0:=@List.nodup_nil
def aa1:=@PySem.wpAny_holding
def aa2:=@PySem.wpAny_call_entry
def aa3:=@List.lookup_cons
def aa4:=@PySem.W.mg_of
def aa5:=@List.replicate_succ
def aa6:=@PySem.wpAny_truthy_bool
def aa7:=@Option.isSome_iff_exists
def aa8:=@of_decide_eq_true
def aa9:=@PySem.wpAny_seqItems
def aba:=@Nat.lt_irrefl
def abb:=@PyProof.Rows.callWith_type1
def abc:=@PySem.W.kia_one
def abd:=@List.pairwise_cons
def abe:=@PySem.PassesOwn.never
def abf:=@Int.emod_lt_of_pos
def abg:=@List.mem_of_mem_drop
def abh:=@List.getElem?_set_self
def abi:=@List.take_of_length_le
def abj:=@Int.toNat_natCast
def abk:=@PyProof.Rows.slot_tuple_getitem
def abl:=@List.mem_iff_getElem?
def abm:=@List.mem_filterMap
def abn:=@PySem.wpAny_typeNameOfWhole_keyiter
def abo:=@List.cons_append
def abp:=@Ne.symm
def abq:=@decide_eq_false_iff_not
def abr:=@PySem.F.slot_dict_keyiterator_next
def abt:=@Option.bind_eq_some_iff
def abu:=@Bool.and_false
def abv:=@List.filterMap_cons
def abw:=@PySem.mem_of_lookup
def abx:=@PyProof.Rows.KeyOrd.kle_refl
def aby:=@Int.emod_nonneg
def abz:=@PySem.F.slot_tuple_iterator_next
def abA:=@PySem.F.plain_max_loop
def abB:=@congrArg
def abC:=@PySem.wpAny_pyIter_tuple
def abD:=@List.length_replicate
def abE:=@PySem.Heap.get?_update_self
def abF:=@PySem.Obj.data_mapFields
def abG:=@PySem.wpAny_setField_rec
def abH:=@List.cons.inj
def abI:=@PySem.sizeLine_eq
def abJ:=@List.getElem?_append_left
def abK:=@PySem.Heap.size_push
def abL:=@PySem.wpAny_pyIter_list
def abM:=@PyProof.Rows.callWith_builtin1
def abN:=@PySem.W.hideAll_get
def abO:=@Array.length_toList
def abP:=@List.map_congr_left
def abQ:=@Int.le_refl
def abR:=@Array.append_assoc
def abS:=@PySem.wpAny_execs_nil
def abT:=@List.foldl_cons
def abU:=@Nat.le_succ
def abV:=@List.length_nil
def abW:=@List.length_set
def abX:=@List.map_drop
def abY:=@PySem.F.excBase_ValueError
def abZ:=@List.getElem?_set_ne
def ab0:=@List.drop_eq_getElem_cons
def ab1:=@List.take_length
def ab2:=@List.any_eq_true
def ab3:=@PySem.Heap.SameBut.update
def ab4:=@PySem.F.args_tuple_add_2
def ab5:=@List.map_nil
def ab6:=@PySem.F.slot_list_append
def ab7:=@PySem.F.type_list_append
def ab8:=@PySem.Calls.spliced_cons
def ab9:=@PySem.wpAny_standAt
def aca:=@PySem.F.entry_tuple_add
def acb:=@PySem.wpAny_attempt
def acd:=@List.getElem_range
def ace:=@PySem.F.plainAttrs_list
def acf:=@List.map_take
def acg:=@PySem.F.slot_tuple_add
def ach:=@List.drop_eq_nil_of_le
def aci:=@PySem.wpAny_letGo
def acj:=@PyProof.Rows.KeyOrd.kle_of_klt
def ack:=@List.ext_getElem?
def acm:=@PySem.wpAny_tryCatch
def acn:=@PySem.wpAny_setField
def aco:=@or_false
def acp:=@PySem.wpAny_isTrue_Compare1
def acq:=@PySem.wpAny_typeOf
def acr:=@PySem.Obj.isFreed_of_fields
def acs:=@PySem.F.args_dict_keyiterator_next_1
def acu:=@List.set_set
def acv:=@Array.getElem?_toList
def acw:=@PySem.F.slot_str_join
def acx:=@PySem.F.type_str_join
def acy:=@PySem.W.KIN.signs_num
def acz:=@if_true
def acA:=@Nat.le_of_not_lt
def acB:=@PyProof.Rows.KeyOrd.kle_trans
def acC:=@PySem.F.entry_dict_keyiterator_next
def acD:=@PySem.Around.under_plainId
def acE:=@PySem.codeAny_call_builtin
def acF:=@PySem.wpAny_updateSeq_pair
def acG:=@PySem.W.looks_findIn
def acH:=@PySem.F.args_tuple_iterator_next_1
def acI:=@Bool.and_self
def acJ:=@List.toList_toArray
def acK:=@List.forIn_cons
def acL:=@PySem.codeAny_builtin
def acM:=@PySem.F.entry_tuple_iterator_next
def acN:=@PySem.F.slot_zip_next
def acO:=@Array.getD_eq_getD_getElem?
def acP:=@List.find?_cons
def acQ:=@PySem.W.looks_mroIn
def acR:=@List.take_succ_cons
def acS:=@List.nil_append
def acU:=@Array.getElem?_eq_some_iff
def acV:=@PySem.W.of_hideAll
def acW:=@PySem.codeAny_mono
def acX:=@if_false
def acY:=@Nat.lt_of_le_of_lt
def acZ:=@List.zip_cons_cons
def ac0:=@Bool.or_true
def ac1:=@List.map_replicate
def ac2:=@List.mem_replicate
def ac3:=@List.getElem?_eq_none_iff
def ac4:=@List.drop_zero
def ac5:=@List.getElem?_zip_eq_some
def ac6:=@Array.getElem?_eq_getElem
def ac7:=@List.take_zero
def ac8:=@PySem.wpAny_Return_some
def ac9:=@PySem.wpAny_Assign_Name
def ada:=@PySem.typeIs_str
def adb:=@List.take_add_one
def ade:=@bne_self_eq_false
def adg:=@Nat.lt_succ_of_lt
def adh:=@PySem.wpAny_dictEntries
def adi:=@List.filterMap_cons_none
def adj:=@List.filterMap_cons_some
def adk:=@List.length_erase_of_mem
def adl:=@List.flatMap_cons
def adm:=@PySem.plainId_quiet
def adn:=@PySem.wpAny_onRaise
def ado:=@List.not_lt
def adp:=@List.all_cons
def adq:=@List.getElem?_cons_succ
def ads:=@PySem.noFill_tuple_add
def adt:=@Option.getD_none
def adu:=@PySem.F.entry_max_loop
def adv:=@List.flatten_nil
def adw:=@PySem.W.cellsFrom_some
def adz:=@List.Perm.append_right
def adA:=@PySem.F.slot_str_index
def adB:=@List.length_pos_of_mem
def adC:=@List.mem_filter
def adD:=@Nat.le_of_lt
def adE:=@Nat.ne_of_gt
def adF:=@List.of_mem_zip
def adG:=@PySem.concat_meets
def adH:=@Nat.le_of_eq
def adI:=@List.range_succ
def adJ:=@PySem.wpAny_updateSeq
def adK:=@Bool.true_or
def adL:=@PySem.wpAny_dictEpoch
def adN:=@List.Perm.append_left
def adO:=@List.perm_append_comm
def adP:=@List.any_map
def adQ:=@Nat.min_eq_left
def adR:=@Nat.not_lt_zero
def adS:=@List.getElem?_eq_none
def adT:=@Option.map_some
def adU:=@PySem.wpAny_rule
def ad0:=@List.forIn_nil
def ad4:=@PySem.wpAny_of_eq
def aee:=@List.any_cons
def aet:=@Nat.mul_comm
def aeu:=@Nat.sub_zero
def aev:=@Nat.sub_self
def aew:=@Int.lt_trans
namespace L2
open PySem PySem.Spec PyProof.Rows
def IsTupN(h:UF)(a:WP)(items:Array Wp):Prop:=∃o,h.get? a=some o/\o.cls=.type "tuple"/\(∃n,o.data=.seq items n)/\o.dict=none
variable{h:UF}{a:WP}
theorem IsTupN.tup{items:Array Wp}(p:IsTupN h a items):IsTup h a items:=by
 obtain⟨o,e,c,n,_⟩:=p;exact⟨o,e,c,n⟩
theorem IsTupN.new(h:UF)(items:Array Wp):IsTupN (h.push {cls:=.type "tuple",data:=.seq items}) h.objs.size items:=⟨_,Z0 _ rfl,rfl,⟨_,rfl⟩,rfl⟩
abbrev Key:=Sum Int Str
def qR:Key->Wp->Bool
 | .inl k,v=>Value.isInt k v
 | .inr x,v=>Value.isStrOf x v
def Kp(w:World):Key->Int
 | .inl k=>hashInt k
 | .inr x=>hashStr w x
theorem cI:∀{k:Key}{v:Wp},qR k v=true->(∃i t,k=Sum.inl i/\v=Value.int i t)\/(∃x t,k=Sum.inr x/\v=Value.str x t)
 | .inl i,v,h=>by
  obtain⟨t,e⟩:=Value.isInt_shape (k:=i) (v:=v) h;exact .inl ⟨i,t,rfl,e⟩
 | .inr x,v,h=>by
  obtain⟨t,e⟩:=Value.isStrOf_shape (x:=x) (v:=v) h;exact .inr ⟨x,t,rfl,e⟩
theorem vp(i:Int)(t:Tok):qR (.inl i) (.int i t)=true:=by simp[qR,Value.isInt]
theorem vq(x:Str)(t:Tok):qR (.inr x) (.str x t)=true:=by simp[qR,Value.isStrOf]
theorem Eh(a b:Int):decide ((Sum.inl a:Key)=Sum.inl b)=(a==b):=by
 by_cases e:a=b
 .subst e;simp
 .have h:¬ (Sum.inl a:Key)=Sum.inl b:=λq=>e (Sum.inl.inj q)
  rw[Z7 h];exact(aaj.mpr e).symm
theorem Ei(a b:Str):decide ((Sum.inr a:Key)=Sum.inr b)=decide (a=b):=by
 by_cases e:a=b
 .subst e;simp
 .have h:¬ (Sum.inr a:Key)=Sum.inr b:=λq=>e (Sum.inr.inj q)
  rw[Z7 h,Z7 e]
theorem Ej(a:Int)(b:Str):decide ((Sum.inl a:Key)=Sum.inr b)=false:=Z7 (λq=>nomatch q)
theorem Ek(a:Str)(b:Int):decide ((Sum.inr a:Key)=Sum.inl b)=false:=Z7 (λq=>nomatch q)
def mixKind(prog:W1)(w:World):PySem.KeyKind prog w Key where
 is:=qR
 hash:=Kp w
 inj:=λv a b ha hb=>by
  rcases cI ha with⟨i,t,rfl,rfl⟩|⟨x,t,rfl,rfl⟩
  .rcases cI hb with⟨j,u,rfl,e⟩|⟨y,u,rfl,e⟩
   .injection e with e1 _;rw[e1]
   .exact nomatch e
  .rcases cI hb with⟨j,u,rfl,e⟩|⟨y,u,rfl,e⟩
   .exact nomatch e
   .injection e with e1 _;rw[e1]
 byValue:=λk v h=>by
  rcases cI h with⟨i,t,rfl,rfl⟩|⟨x,t,rfl,rfl⟩ <;> rfl
 pyHash:=λhv h=>by
  rcases cI hv with⟨i,t,rfl,rfl⟩|⟨x,t,rfl,rfl⟩
  .exact wpAny_pyHash_int h
  .exact wpAny_pyHash_str h
 eqBool:=λhu hv h=>by
  rcases cI hu with⟨i,t,rfl,rfl⟩|⟨x,t,rfl,rfl⟩
  .rcases cI hv with⟨j,u,rfl,rfl⟩|⟨y,u,rfl,rfl⟩
   .rw[Eh]at h;exact wpAny_eqBool_int h
   .rw[Ej]at h;exact SeqAt.EqAt.int_str i t y u _ _ _ _ h
  .rcases cI hv with⟨j,u,rfl,rfl⟩|⟨y,u,rfl,rfl⟩
   .rw[Ek]at h;exact SeqAt.EqAt.str_int x t j u _ _ _ _ h
   .rw[Ei]at h;exact wpAny_eqBool_str h
 «strs»:=λk x t v h=>by
  rcases cI h with⟨i,u,rfl,e⟩|⟨y,u,rfl,e⟩
  .exact nomatch e
  .injection e with e1 _;subst e1;cases v <;> rfl
theorem uF(prog:W1)(w:World)(k:Key)(v:Wp):(mixKind prog w).is k v=qR k v:=rfl
theorem qS(prog:W1)(w:World)(i:Int)(t:Tok):(mixKind prog w).is (.inl i) (.int i t)=true:=vp i t
theorem qT(prog:W1)(w:World)(x:Str)(t:Tok):(mixKind prog w).is (.inr x) (.str x t)=true:=vq x t
inductive V where
 |non|bl (b:Bool)|int (i:Int)|str (x:Str)|byt (b:Array UInt8)|flt (b:UInt64)|ref (a:WP)|ty (n:String)
 deriving DecidableEq
def RelV:V->Wp->Prop
 | .non,u=>u=Value.none
 | .bl b,u=>u=Value.bool b
 | .int i,u=>∃t,u=Value.int i t
 | .str x,u=>∃t,u=Value.str x t
 | .byt b,u=>∃t,u=Value.bytes b t
 | .flt b,u=>∃t,u=Value.float b t
 | .ref a,u=>u=Value.ref a
 | .ty n,u=>u=Value.type n
abbrev Vals:List V->List Wp->Prop:=Paired RelV
theorem Vals.length{xs:List V}{us:List Wp}(r:Vals xs us):xs.length=us.length:=Paired.length r
theorem Vals.get:∀{xs:List V}{us:List Wp}{i:Nat}{x:V},Vals xs us->xs[i]?=some x->∃u,us[i]?=some u/\RelV x u
 |_,_,_,_,.nil,e=>by simp at e
 |_,_,0,_,.cons r _,e=>by simp at e;subst e;exact⟨_,rfl,r⟩
 |_,_,i+1,x,.cons _ t,e=>by
  obtain⟨u,h1,h2⟩:=Vals.get (i:=i) (x:=x) t (by simpa using e);exact⟨u,by simpa using h1,h2⟩
theorem Vals.append:∀{xs ys:List V}{us ws:List Wp},Vals xs us->Vals ys ws->Vals (xs++ys) (us++ws)
 |_,_,_,_,.nil,s=>s
 |_,_,_,_,.cons r t,s=>.cons r (Vals.append t s)
theorem Vals.take:∀{xs:List V}{us:List Wp}(n:Nat),Vals xs us->Vals (xs.take n) (us.take n)
 |_,_,0,_=>.nil
 |_,_,_+1,.nil=>.nil
 |_,_,n+1,.cons r t=>.cons r (Vals.take n t)
theorem Vals.drop:∀{xs:List V}{us:List Wp}(n:Nat),Vals xs us->Vals (xs.drop n) (us.drop n)
 |_,_,0,r=>r
 |_,_,_+1,.nil=>.nil
 |_,_,n+1,.cons _ t=>Vals.drop n t
theorem Vals.none_of:∀{xs:List V}{us:List Wp}{i:Nat},Vals xs us->xs[i]?=none->us[i]?=none:=λ{xs us i} r e=>by
 have h1:=r.length;have h2:xs.length<=i:=ac3.mp e;exact ac3.mpr (by lia)
def RelO:Option V->Option Wp->Prop
 |some v,some u=>RelV v u
 |none,none=>True
 |_,_=>False
def KV{κ:Type}:List (κ×V)->List (κ×Wp)->Prop:=Paired λ(p:κ×V) (q:κ×Wp)=>p.1=q.1/\RelV p.2 q.2
def kV:Key->V
 | .inl i=>.int i
 | .inr x=>.str x
inductive HO where
 |lst (xs:List V)
 |tup (xs:List V)
 |dK (kvs:List (Key×V))|dT (kvs:List (List Key×V))
 |set (S:Int->Bool) (n:Nat)
 |ins (C dx:WP) (fs:List (Str×V))
 |own (x:WP)
 |xd (fs:List (Str×V))
 |met (f x:WP)
 |rng (lo hi:Int)
 |frz (o:Obj) (u:HO)
 |tbl (ps:Array Wp)
 |ext (φ:UF->Prop)
abbrev Hp:=WP->Option HO
def upd(H:Hp)(a:WP)(o:HO):Hp:=λb=>if b=a then some o else H b
variable{H:Hp}{o:HO}
theorem bO:upd H a o a=some o:=by unfold upd;rw[ZY rfl]
variable{b:WP}
theorem aU(h:b≠a):upd H a o b=H b:=by unfold upd;rw[Z6 h]
theorem El{u:HO}(h:H a=some o)(h':H b=some u)(d:o≠u):a≠b:=by
 intro e;subst e;rw[h]at h';exact d (aax h')
theorem bL(h:H a=some o)(h':H b=none):a≠b:=by
 intro e;subst e;rw[h]at h';cases h'
section
variable(P:W1)(w:World)
def ObjOk(H:Hp)(h:UF)(a:WP):HO->Prop
 | .lst xs=>xs.length<=sizeLine/\∃(L8:List Wp) (n:Nat),Vals xs L8/\h.get? a=some {cls:=.type "list",data:=.seq L8.toArray n}
 | .tup xs=>xs.length<=sizeLine/\∃L8:List Wp,Vals xs L8/\IsTupN h a L8.toArray
 | .dK kvs=>kvs.length<=sizeLine/\(a==sysModules)=false/\∃vs,KV kvs vs/\h.DictOf (mixKind P w) a vs
 | .dT kvs=>kvs.length<=sizeLine/\(a==sysModules)=false/\∃xs:List (List Key×WP×Wp),
   Paired (λ(p:List Key×V) (q:List Key×WP×Wp)=>p.1=q.1/\H q.2.1=some (.tup (p.1.map kV))/\RelV p.2 q.2.2) kvs xs/\
   ∃o es ep,h.get? a=some o/\o.ExactDict/\o.data=.dict es ep/\es.toList=xs.map (entryOfKey (tupleKind (mixKind P w)))/\(xs.map (·.1)).Nodup
 | .set S n=>h.SetOf (intKind P w) a S n
 | .ins C dx fs=>H dx=some (.own a)/\fs.length<=1000/\dx≠a/\h.get? a=some (PySem.W.instObj C dx)/\
   ∃mA,h.Ns1 dx mA/\(∀f,RelO (fs.lookup f) (mA f))/\PySem.Within mA (fs.map (·.1))
 | .own _=>∃o,h.get? a=some o
 | .xd fs=>∃mA,h.Ns1 a mA/\∀f,RelO (fs.lookup f) (mA f)
 | .rng lo hi=>∃t u v,h.get? a=some {cls:=.type "range",data:=.fields #[.int lo t,.int hi u,.int 1 v]}
 | .frz o u=>h.get? a=some o/\ObjOk H h a u
 | .tbl ps=>h.get? a=some {cls:=.none,data:=.fields ps}
 | .met f x=>h.get? a=some (PySem.W.methodObj (.ref f) (.ref x))
 | .ext φ=>φ h/\(∃o,h.get? a=some o)/\∀h1 h2:UF,φ h1->(∀o,h1.get? a=some o->h2.get? a=some o)->φ h2
def HOk(H:Hp)(h:UF):Prop:=∀a o,H a=some o->ObjOk P w H h a o
end
variable{P:W1}{w:World}{H':Hp}{h':UF}
section
theorem ObjOk.lt(x:ObjOk P w H h a o):a<h.objs.size:=by
 cases o with
 |lst xs=>obtain⟨_,_,_,_,e⟩:=x;exact ZQ e
 |tup xs=>obtain⟨_,_,_,p⟩:=x;exact p.tup.lt
 |dK kvs=>obtain⟨_,_,_,_,o,_,_,e,_⟩:=x;exact ZQ e
 |dT kvs=>obtain⟨_,_,_,_,o,_,_,e,_⟩:=x;exact ZQ e
 |set S n=>obtain⟨o,_,_,_,e,_⟩:=x;exact ZQ e
 |ins C dx fs=>obtain⟨_,_,_,e,_⟩:=x;exact ZQ e
 |own y=>obtain⟨_,e⟩:=x;exact ZQ e
 |xd fs=>obtain⟨_,⟨_,_,_,e,_⟩,_⟩:=x;exact ZQ e
 |rng lo hi=>obtain⟨_,_,_,e⟩:=x;exact ZQ e
 |frz ob u=>obtain⟨e,_⟩:=x;exact ZQ e
 |tbl ps=>exact ZQ (show h.get? a=some _ from x)
 |met f y=>exact ZQ (show h.get? a=some _ from x)
 |ext φ=>obtain⟨_,⟨_,e⟩,_⟩:=x;exact ZQ e
theorem Paired.mapP{α β:Type}{F G:α->β->Prop}:∀{l₁:List α}{l₂:List β},Paired F l₁ l₂->(∀a b,F a b->G a b)->Paired G l₁ l₂
 |_,_,.nil,_=>.nil
 |_,_,.cons r t,f=>.cons (f _ _ r) (Paired.mapP t f)
theorem ObjOk.stay(x:ObjOk P w H h a o)(k:∀b u,(b=a\/H b=some (.own a))->h.get? b=some u->h'.get? b=some u)
  (ho:∀b,H b=some (.own a)->H' b=some (.own a)) (ht:∀b xs,H b=some (.tup xs)->H' b=some (.tup xs)):ObjOk P w H' h' a o:=by
 induction o with
 |lst xs=>obtain⟨z,L8,n,r,e⟩:=x;exact⟨z,L8,n,r,k _ _ (.inl rfl) e⟩
 |tup xs=>obtain⟨z,L8,r,ob,e,c⟩:=x;exact⟨z,L8,r,ob,k _ _ (.inl rfl) e,c⟩
 |dK kvs=>obtain⟨z,y,vs,r,ob,es,ep,e,c⟩:=x;exact⟨z,y,vs,r,ob,es,ep,k _ _ (.inl rfl) e,c⟩
 |dT kvs=>
  obtain⟨z,y,xs,r,ob,es,ep,e,c⟩:=x;exact⟨z,y,xs,Paired.mapP r λp q z=>⟨z.1,ht _ _ z.2.1,z.2.2⟩,ob,es,ep,k _ _ (.inl rfl) e,c⟩
 |set S n=>obtain⟨ob,es,ep,t,e,c⟩:=x;exact⟨ob,es,ep,t,k _ _ (.inl rfl) e,c⟩
 |ins C dx fs=>
  obtain⟨d,z,ne,e,mA,⟨od,es,ep,e2,c⟩,r⟩:=x;exact⟨ho _ d,z,ne,k _ _ (.inl rfl) e,mA,⟨od,es,ep,k _ _ (.inr d) e2,c⟩,r⟩
 |own y=>obtain⟨ob,e⟩:=x;exact⟨ob,k _ _ (.inl rfl) e⟩
 |xd fs=>obtain⟨mA,⟨od,es,ep,e,c⟩,r⟩:=x;exact⟨mA,⟨od,es,ep,k _ _ (.inl rfl) e,c⟩,r⟩
 |rng lo hi=>obtain⟨t,u,v,e⟩:=x;exact⟨t,u,v,k _ _ (.inl rfl) e⟩
 |frz ob u ih=>obtain⟨e,q⟩:=x;exact⟨k _ _ (.inl rfl) e,ih q⟩
 |tbl ps=>
  have e:h.get? a=some {cls:=.none,data:=.fields ps}:=x;show h'.get? a=some {cls:=.none,data:=.fields ps};exact k a _ (.inl rfl) e
 |met f y=>
  have e:h.get? a=some (PySem.W.methodObj (.ref f) (.ref y)):=x;show h'.get? a=some (PySem.W.methodObj (.ref f) (.ref y));exact k a _ (.inl rfl) e
 |ext φ=>obtain⟨p,⟨o,e⟩,st⟩:=x;exact⟨st _ _ p λo q=>k _ _ (.inl rfl) q,⟨o,k _ _ (.inl rfl) e⟩,st⟩
theorem HOk.lt(x:HOk P w H h)(e:H a=some o):a<h.objs.size:=(x a o e).lt
theorem HOk.fresh(x:HOk P w H h)(e:h.objs.size<=a):H a=none:=by
 cases q:H a with
 |none=>rfl
 |some u=>exact absurd (ZV (x.lt q) e) (aba _)
theorem HOk.kept(x:HOk P w H h)(k:∀b u,h.get? b=some u->h'.get? b=some u):HOk P w H h':=λa o e=>
 (x a o e).stay (λb u _ q=>k b u q) (λ_ q=>q) λ_ _ q=>q
theorem HOk.laid(x:HOk P w H h)(k:∀b u,h.get? b=some u->h'.get? b=some u)(hp:h.objs.size<=a)(new:ObjOk P w (upd H a o) h' a o):HOk P w (upd H a o) h':=λb u e=>by
 have hn:=x.fresh hp;by_cases hb:b=a
 .subst hb;rw[bO]at e;cases e;exact new
 .rw[aU hb]at e;exact(x b u e).stay (λc v _ q=>k c v q) (λc q=>by rw[aU (bL q hn)];exact q) λc xs q=>by rw[aU (bL q hn)];exact q
end
def Rd(H:Hp)(a:WP)(u:HO):Prop:=H a=some u\/∃o,H a=some (.frz o u)
theorem Rd.ok{u:HO}(r:Rd H a u)(x:HOk P w H h):ObjOk P w H h a u:=by
 rcases r with r|⟨o,r⟩
 .exact x a u r
 .obtain⟨_,q⟩:=x a _ r;exact q
def VX:Option HO->Prop
 |some (.lst _)=>True
 |some (.dK _)=>True
 |some (.dT _)=>True
 |some (.set _ _)=>True
 |some (.ins _ _ _)=>True
 |some (.ext _)=>True
 |_=>False
section
variable{x e:WP}{o':HO}
theorem HOk.write(ok:HOk P w H h)(mu:VX (H x))(he:e=x\/H e=some (.own x))(k:∀b u,b≠e->h.get? b=some u->h'.get? b=some u)(VD:∃u,h'.get? e=some u)
  (new:ObjOk P w (upd H x o') h' x o'):HOk P w (upd H x o') h':=λb u q=>by
 have Se:∀c y,H c=some (.own y)->c≠x:=λc y r z=>by subst z;rw[r]at mu;exact mu
 have ntup:∀c xs,H c=some (.tup xs)->c≠x:=λc xs r z=>by subst z;rw[r]at mu;exact mu
 by_cases hb:b=x
 .subst hb;rw[bO]at q;cases q;exact new
 .rw[aU hb]at q;by_cases hbe:b=e
  .have q':H b=some (.own x):=by
    rcases he with z|z
    .exact absurd (hbe.trans z) hb
    .rw[hbe];exact z
   rw[q]at q';cases q';obtain⟨v,hv⟩:=VD;exact⟨v,by rw[hbe];exact hv⟩
  .refine(ok b u q).stay (λc v hc r=>k c v ?_ r) (λc r=>by rw[aU (Se c b r)];exact r) λc xs r=>by rw[aU (ntup c xs r)];exact r
   rcases hc with rfl|hc
   .exact hbe
   .rintro rfl;rcases he with z|z
    .exact Se c b hc z
    .rw[hc]at z;cases z;exact hb rfl
end
structure Un(fs ex:List WP)(H H':Hp)(h h':UF):Prop where
 keep:∀b o,h.get? b=some o->H b=none->b∉fs->b∉ex->h'.get? b=some o
 slot:∀b o,h.get? b=some o->H b=none->b∈fs->b∉ex->∃sl,h'.get? b=some {o with slots:=sl}
 free:∀b o,h.get? b=some o->H b=none->b∉ex->H' b=none
 there:∀b o,h.get? b=some o->b∉ex->∃o',h'.get? b=some o'
 tups:∀b xs,H b=some (.tup xs)->H' b=some (.tup xs)
 frzs:∀b o u,H b=some (.frz o u)->H' b=some (.frz o u)
 tbls:∀b ps,H b=some (.tbl ps)->∃more,H' b=some (.tbl (ps++more))
section
variable{fs fs' ex ex':List WP}{H1 H2:Hp}{h1 h2:UF}{x e:WP}
theorem Un.any(u:Un fs ex H H1 h h1){ob:Obj}(q:h.get? b=some ob)(n:H b=none)(hx:b∉ex):∃sl,h1.get? b=some {ob with slots:=sl}:=by
 by_cases hb:b∈fs
 .exact u.slot b ob q n hb hx
 .exact⟨ob.slots,u.keep b ob q n hb hx⟩
theorem Un.kept(k:∀b u,h.get? b=some u->h'.get? b=some u):Un fs ex H H h h':=
 ⟨λb ob q _ _ _=>k b ob q,λb ob q _ _ _=>⟨ob.slots,k b ob q⟩,λ_ _ _ n _=>n,λb ob q _=>⟨ob,k b ob q⟩,λ_ _ q=>q,λ_ _ _ q=>q,λ_ ps q=>⟨#[],by rw[q];simp⟩⟩
theorem Un.refl:Un fs ex H H h h:=Un.kept λ_ _ q=>q
theorem Un.laid(k:∀b u,h.get? b=some u->h'.get? b=some u)(hp:h.objs.size<=a)(hn:H a=none):Un fs ex H (upd H a o) h h' where
 keep:=λb u q _ _ _=>k b u q
 slot:=λb u q _ _ _=>⟨u.slots,k b u q⟩
 free:=λb u q n _=>by rw[aU (aac (ZV (ZQ q) hp))];exact n
 there:=λb u q _=>⟨u,k b u q⟩
 tups:=λb xs q=>by rw[aU (bL q hn)];exact q
 frzs:=λb u xs q=>by rw[aU (bL q hn)];exact q
 tbls:=λb ps q=>⟨#[],by rw[aU (bL q hn),q];simp⟩
theorem Un.write(mu:VX (H x))(he:e=x\/H e=some (.own x))(k:∀b u,b≠e->h.get? b=some u->h'.get? b=some u)(VD:∃u,h'.get? e=some u):Un fs ex H (upd H x o) h h':=by
 have hx:∀b,H b=none->b≠x:=λb n z=>by subst z;rw[n]at mu;exact mu
 have hb:∀b,H b=none->b≠e:=λb n z=>by
  subst z;rcases he with r|r
  .exact hx b n r
  .rw[n]at r;cases r
 have hm:∀b u,H b=some u->¬ VX (some u)->b≠x:=λb u q nm z=>by subst z;rw[q]at mu;exact nm mu
 refine⟨λb u q n _ _=>k b u (hb b n) q,λb u q n _ _=>⟨u.slots,k b u (hb b n) q⟩,λb u q n _=>by rw[aU (hx b n)];exact n,λb u q _=>?_,
  λb xs q=>by rw[aU (hm b _ q λz=>z)];exact q,λb u xs q=>by rw[aU (hm b _ q λz=>z)];exact q,λb ps q=>⟨#[],by rw[aU (hm b _ q λz=>z),q];simp⟩⟩
 by_cases hbe:b=e
 .subst hbe;exact VD
 .exact⟨u,k b u hbe q⟩
end
def trk(h:UF)(H:Hp):List WP:=(List.range h.objs.size).filter λa=>(H a).isSome
def yz(h:UF)(H:Hp):UF:=PySem.W.hideAll h (trk h H)
theorem vv(h:UF)(H:Hp):(yz h H).objs.size=h.objs.size:=PySem.W.hideAll_size _ _
theorem yA{o:Obj}(e:h.get? b=some o)(n:H b=none):(yz h H).get? b=some o:=
 abN _ e λhm=>by
  have q:(H b).isSome=true:=(adC.mp hm).2;rw[n]at q;simp at q
theorem BI{o:Obj}(e:(yz h H).get? b=some o):h.get? b=some o/\H b=none:=by
 have e':h.get? b=some o:=acV (trk h H) e;refine⟨e',?_⟩;cases q:H b with
 |none=>rfl
 |some x=>
  have hm:b∈trk h H:=adC.mpr ⟨aaY.mpr (ZQ e'),by simp[q]⟩;have z:(yz h H).get? b=none:=PySem.W.hideAll_none (trk h H) hm;rw[z]at e;cases e
def BJ(g h:UF)(L:WP):List (WP×Obj):=(List.range h.objs.size).filterMap λa=>if a=L\/(g.get? a).isSome=true then none else(h.get? a).map λo=>(a,o)
def rest(g h:UF)(L d:WP):List (WP×Obj):=(BJ g h L).filter λp=>decide (p.1≠d)
structure Mod(K:W.Frag)(mg:Str->Option Wp)(base:UF):Prop where
 kin:K.In base
 glob:base.Ns mainGlobals mg
 blt:∃mb,base.Ns builtinsNs mb/\∀x:Str,x≠"__name__"->mb x=bootBuiltins x
 nolimit:base.NoLimit
structure Cx where
 prog:W1
 w:World
 K:W.Frag
 mg:Str->Option Wp
 base:UF
 A:Uf
 N:List Str
 s₀:WF
 H₀:Hp
 env:Env
 outer:List Env
 stack:List Env
 ex:List WP
 fn:Str->Bool
 calm:Bool
 pn:List (WP×Obj)
 xe:Wp->WF->Prop
def Na(l:List Env):List WP:=l.filterMap (·.frame)
abbrev Cx.fs(X:Cx):List WP:=Na X.outer
def XX(sc:Scope)(x:Str):Prop:=sc.names.lookup x=some .local\/sc.names.lookup x=some .cell\/sc.names.lookup x=some .free
def Loc(sc:Scope)(x:Str):Prop:=sc.names.lookup x=some .local\/sc.names.lookup x=some .cell
def J0(sc:Scope)(x:Str):Bool:=match sc.names.lookup x with
 |some .local=>true
 |some .cell=>true
 |_=>false
variable{sc:Scope}{x:Str}
theorem lo(h:J0 sc x=true):Loc sc x:=by
 unfold J0 at h;split at h
 .exact .inl (by assumption)
 .exact .inr (by assumption)
 .cases h

def Kq(env:Env)(h:UF)(m:Str->Option Wp)(x:Str)(u:Wp):Prop:=
 (env.kindOf x=some .local/\m x=some u)\/((env.kindOf x=some .cell\/env.kindOf x=some .free)/\∃c,env.cells.lookup x=some c/\h.IsCell c (some u))
structure Cx.Ok(X:Cx):Prop where
 mod:Mod X.K X.mg X.base
 kind:X.env.scope.kind=.function
 glob:X.env.globals=mainGlobals
 blt:X.env.builtins=builtinsNs
 above:X.s₀.heap.objs.size<=X.env.locals
 inj:∀x y c,X.env.cells.lookup x=some c->X.env.cells.lookup y=some c->x=y
 has:∀x,(X.env.kindOf x=some .cell\/X.env.kindOf x=some .free)->∃c,X.env.cells.lookup x=some c
 cab:∀x c,X.fn x=true->X.env.cells.lookup x=some c->X.s₀.heap.objs.size<=c
 hd:X.calm=true->X.A.handled=none
 frames:X.A.frames=some X.stack
 stk:X.stack=X.outer\/(X.stack=X.env::X.outer/\X.env.frame=some X.env.locals)
 exf:∀b∈X.ex,b≠X.env.locals/\∀x c,X.env.cells.lookup x=some c->c≠b
 bs:∀b o,X.base.get? b=some o->X.s₀.heap.get? b=some o/\X.H₀ b=none
 bsz:X.base.objs.size<=X.s₀.heap.objs.size
 noex:∀b o,X.base.get? b=some o->b∉X.ex
 exfs:∀b∈X.ex,b∉X.fs
 funs:X.s₀.heap.FunFrames X.base X.outer
 frf:∀b∈X.fs,X.H₀ b=none
structure Inv(X:Cx)(pr:List (WP×Obj))(σ:List (Option V))(H:Hp)(s:WF):Prop where
 ok:X.Ok
 os:s.os=X.s₀.os
 bare:AllBare s.gens
 base:Un X.fs X.ex X.H₀ H X.s₀.heap s.heap
 loc:∃m,s.heap.Ns X.env.locals m/\∀(i:Nat) (x:Str) (v:V),X.N[i]?=some x->σ[i]?=some (some v)->XX X.env.scope x->∃u,RelV v u/\Kq X.env s.heap m x u
 cell:∀x c,X.env.cells.lookup x=some c->∃v,s.heap.IsCell c v
 free:H X.env.locals=none
 freeC:∀x c,X.env.cells.lookup x=some c->H c=none
 pin:∀p∈X.pn++pr,s.heap.get? p.1=some p.2/\H p.1=none/\p.1≠X.env.locals/\p.1∉X.fs/\∀v,p.2.data≠.cell v
 hok:HOk X.prog X.w H s.heap
 len:σ.length=X.N.length
variable{X:Cx}{pr:List (WP×Obj)}{s s':WF}{ch:List WP}{N:List Str}{i:Nat}{v:V}{u:Wp}
section
variable{σ:List (Option V)}
theorem Cx.Ok.nofr(ok:X.Ok){o:Obj}(e:X.base.get? b=some o):b∉X.fs:=λhb=>by
 have:=(ok.funs.mem hb).1;rw[e]at this;cases this
theorem Inv.bs(I:Inv X pr σ H s):∀b o,X.base.get? b=some o->s.heap.get? b=some o/\H b=none:=λb o e=>
 ⟨I.base.keep b o (I.ok.bs b o e).1 (I.ok.bs b o e).2 (I.ok.nofr e) (I.ok.noex b o e),I.base.free b o (I.ok.bs b o e).1 (I.ok.bs b o e).2 (I.ok.noex b o e)⟩
theorem Inv.bk(I:Inv X pr σ H s):∀b o,X.base.get? b=some o->s.heap.get? b=some o:=λb o e=>(I.bs b o e).1
theorem Inv.mod(I:Inv X pr σ H s):Mod X.K X.mg X.base:=I.ok.mod
theorem Inv.kIn(I:Inv X pr σ H s):X.K.In s.heap:=I.ok.mod.kin.keeps I.bk
theorem Inv.lt(I:Inv X pr σ H s):X.env.locals<s.heap.objs.size:=let⟨_,hn,_⟩:=I.loc;hn.lt
theorem Inv.sz(I:Inv X pr σ H s):X.s₀.heap.objs.size<=s.heap.objs.size:=aaP I.ok.above (adD I.lt)
theorem Inv.nofs(I:Inv X pr σ H s)(h:s.heap.objs.size<=a):a∉X.fs:=λhb=>by
 obtain⟨_,o,ho,_⟩:=I.ok.funs.mem hb;exact absurd (ZV (ZQ ho) (aaP I.sz h)) (aba _)
theorem Inv.cne(I:Inv X pr σ H s):∀x c,X.env.cells.lookup x=some c->c≠X.env.locals:=λx c e z=>by
 obtain⟨v,o,ho,hd⟩:=I.cell x c e;obtain⟨m,⟨o',es,ep,Qx,Rw,_⟩,_⟩:=I.loc;rw[z,Qx]at ho;cases ho;rw[Rw]at hd;cases hd
theorem Inv.funs(I:Inv X pr σ H s):s.heap.FunFrames X.base X.outer:=by
 have all:∀(l:List Env),(∀b∈Na l,b∈X.fs)->X.s₀.heap.FunFrames X.base l->s.heap.FunFrames X.base l:=by
  intro l;induction l with
  |nil=>intro _ _;trivial
  |cons env r ih=>
   intro hs hl;obtain⟨hk,⟨L,o,hf,hn,ho,hd⟩,hr⟩:=hl;have hL:L∈X.fs:=hs L (by unfold Na;rw[abv,hf];exact ZI);obtain⟨sl,e⟩:=I.base.slot L o ho (I.ok.frf L hL) hL λz=>I.ok.exfs L z hL
   exact⟨hk,⟨L,_,hf,hn,e,hd⟩,ih (λb hb=>hs b (by unfold Na;rw[abv,hf];exact ZN _ hb)) hr⟩
 exact all X.outer (λ_ hb=>hb) I.ok.funs
theorem Inv.stack(I:Inv X pr σ H s):s.heap.FunFrames X.base X.stack:=by
 rcases I.ok.stk with e|⟨e,hf⟩
 .rw[e];exact I.funs
 .rw[e];obtain⟨m,hn,_⟩:=I.loc;refine .cons (by rw[I.ok.kind];decide) hf hn ?_ I.funs;exact Heap.get?_none_of_le (aaP I.ok.bsz I.ok.above)
theorem Inv.stkSub(I:Inv X pr σ H s):∀b∈Na X.stack,b∈X.env.locals::X.fs:=λb hb=>by
 rcases I.ok.stk with e|⟨e,hf⟩
 .rw[e]at hb;exact ZN _ hb
 .rw[e]at hb;unfold Na at hb;rw[abv,hf]at hb;exact hb
theorem Inv.stkFree(I:Inv X pr σ H s):∀b∈Na X.stack,H b=none:=λb hb=>by
 rcases ZJ.mp (I.stkSub b hb) with e|hb
 .rw[e];exact I.free
 .obtain⟨_,o,ho,_⟩:=I.ok.funs.mem hb;exact I.base.free b o ho (I.ok.frf b hb) λz=>I.ok.exfs b z hb
theorem Inv.step{g':Array GenState}{t':Nat}{d':Drawn}(I:Inv X pr σ H s)
  (Tg:∀b∈ch,(b∈X.ex\/X.s₀.heap.objs.size<=b)/\b≠X.env.locals/\(∀x c,X.env.cells.lookup x=some c->c≠b)/\∀p∈X.pn++pr,p.1≠b)
  (keep:∀b o,b≠X.env.locals->b∉X.fs->b∉ch->s.heap.get? b=some o->H b=none->h'.get? b=some o)
  (slot:∀b o,b≠X.env.locals->b∈X.fs->b∉ch->s.heap.get? b=some o->H b=none->∃sl,h'.get? b=some {o with slots:=sl}) (free:∀b o,b∉ch->s.heap.get? b=some o->H b=none->H' b=none)
  (there:∀b o,b∉ch->s.heap.get? b=some o->∃o',h'.get? b=some o')
  (tups:∀b xs,H b=some (.tup xs)->H' b=some (.tup xs)) (frzs:∀b o u,H b=some (.frz o u)->H' b=some (.frz o u)) (tbls:∀b ps,H b=some (.tbl ps)->∃more,H' b=some (.tbl (ps++more)))
  (ns:∀m,s.heap.Ns X.env.locals m->h'.Ns X.env.locals m) (hok:HOk X.prog X.w H' h') (hg:AllBare g'):
  Inv X pr σ H' {s with heap:=h',gens:=g',drawn:=d',toks:=t'}:=by
 have Y3:∀b o,X.s₀.heap.get? b=some o->b≠X.env.locals:=λb o e=>aac (ZV (ZQ e) I.ok.above)
 have Xm:∀b o,X.s₀.heap.get? b=some o->b∉X.ex->b∉ch:=λb o e hx hb=>by
  rcases(Tg b hb).1 with z|z
  .exact hx z
  .exact absurd (ZV (ZQ e) z) (aba _)
 have cellK:∀x c,X.env.cells.lookup x=some c->∀v,s.heap.IsCell c v->h'.IsCell c v:=λx c e v Mh=>by
  obtain⟨o,ho,hd⟩:=Mh;have VY:c∉ch:=λz=>(Tg c z).2.2.1 x c e rfl
  by_cases hc:c∈X.fs
  .obtain⟨sl,q⟩:=slot c o (I.cne x c e) hc VY ho (I.freeC x c e);exact⟨_,q,hd⟩
  .exact⟨o,keep c o (I.cne x c e) hc VY ho (I.freeC x c e),hd⟩
 refine⟨I.ok,I.os,hg,⟨λb o e n hb hx=>?_,λb o e n hb hx=>?_,λb o e n hx=>?_,λb o e hx=>?_,λb xs e=>tups b xs (I.base.tups b xs e),λb o xs e=>frzs b o xs (I.base.frzs b o xs e),λb ps e=>?_⟩,?_,λx c e=>?_,?_,λx c e=>?_,λp hp=>?_,hok,I.len⟩
 .exact keep b o (Y3 b o e) hb (Xm b o e hx) (I.base.keep b o e n hb hx) (I.base.free b o e n hx)
 .obtain⟨sl,e1⟩:=I.base.slot b o e n hb hx;obtain⟨Y4,e2⟩:=slot b _ (Y3 b o e) hb (Xm b o e hx) e1 (I.base.free b o e n hx);exact⟨Y4,e2⟩
 .obtain⟨o',e1⟩:=I.base.there b o e hx;exact free b o' (Xm b o e hx) e1 (I.base.free b o e n hx)
 .obtain⟨o',e1⟩:=I.base.there b o e hx;exact there b o' (Xm b o e hx) e1
 .obtain⟨m1,e1⟩:=I.base.tbls b ps e;obtain⟨m2,e2⟩:=tbls b _ e1;exact⟨m1++m2,by rw[e2,abR]⟩
 .obtain⟨m,hn,hl⟩:=I.loc;refine⟨m,ns m hn,λi x v e1 e2 e3=>?_⟩;obtain⟨u,r,l⟩:=hl i x v e1 e2 e3;refine⟨u,r,?_⟩;rcases l with l|⟨k,c,e,z⟩
  .exact .inl l
  .exact .inr ⟨k,c,e,cellK x c e _ z⟩
 .obtain⟨v,z⟩:=I.cell x c e;exact⟨v,cellK x c e v z⟩
 .obtain⟨m,⟨o,_,_,ho,_⟩,_⟩:=I.loc;exact free _ o (λz=>(Tg _ z).2.1 rfl) ho I.free
 .obtain⟨v,o,ho,hd⟩:=I.cell x c e;exact free c o (λz=>(Tg c z).2.2.1 x c e rfl) ho (I.freeC x c e)
 .obtain⟨e,n,ne,nf,d⟩:=I.pin p hp;have VY:p.1∉ch:=λz=>(Tg p.1 z).2.2.2 p hp rfl
  exact⟨keep p.1 p.2 ne nf VY e n,free p.1 p.2 VY e n,ne,nf,d⟩
theorem Inv.un{t':Nat}(I:Inv X pr σ H s)(u:Un X.fs [] H H' s.heap h')(hok:HOk X.prog X.w H' h'):Inv X pr σ H' {s with heap:=h',toks:=t'}:=by
 obtain⟨m,⟨o,es,ep,ho,r⟩,_⟩:=id I.loc;obtain⟨sl,hL⟩:=u.any ho I.free (by simp);exact I.step (g':=s.gens) (d':=s.drawn) (ch:=[]) (λ_ z=>nomatch z) (λb o _ hb _ e n=>u.keep b o e n hb (by simp)) (λb o _ hb _ e n=>u.slot b o e n hb (by simp)) (λb o _ e n=>u.free b o e n (by simp)) (λb o _ e=>u.there b o e (by simp)) u.tups u.frzs u.tbls (λm' hm=>by
  obtain⟨o',Qs,XY,Qx,r'⟩:=hm;rw[ho]at Qx;cases Qx;exact⟨_,Qs,XY,hL,r'⟩) hok I.bare
theorem Inv.call{g':Array GenState}{t':Nat}{d':Drawn}(I:Inv X pr σ H s)(u:Un (Na X.stack) ch H H' s.heap h')(hok:HOk X.prog X.w H' h')(hg:AllBare g')
  (Tg:∀b∈ch,(b∈X.ex\/X.s₀.heap.objs.size<=b)/\b≠X.env.locals/\(∀x c,X.env.cells.lookup x=some c->c≠b)/\∀p∈X.pn++pr,p.1≠b):
  Inv X pr σ H' {s with heap:=h',gens:=g',drawn:=d',toks:=t'}:=by
 obtain⟨m,⟨o,es,ep,ho,r⟩,_⟩:=id I.loc;obtain⟨sl,hL⟩:=u.any ho I.free λz=>(Tg _ z).2.1 rfl
 exact I.step (ch:=ch) Tg (λb o hL hb hc e n=>u.keep b o e n (λz=>(ZJ.mp (I.stkSub b z)).elim hL hb) hc) (λb o _ _ hc e n=>u.any e n hc) (λb o hc e n=>u.free b o e n hc) (λb o hc e=>u.there b o e hc) u.tups u.frzs u.tbls (λm' hm=>by
  obtain⟨o',Qs,XY,Qx,r'⟩:=hm;rw[ho]at Qx;cases Qx;exact⟨_,Qs,XY,hL,r'⟩) hok hg
theorem Inv.turned{t':Nat}{it:WP}(I:Inv X pr σ H s)(k:∀b o,b≠it->s.heap.get? b=some o->h'.get? b=some o)(hn:H it=none)(hL:it≠X.env.locals)
  (h1:it∈X.ex\/X.s₀.heap.objs.size<=it) (h2:∀x c,X.env.cells.lookup x=some c->c≠it) (h3:∀p∈X.pn++pr,p.1≠it):Inv X pr σ H {s with heap:=h',toks:=t'}:=by
 have Y5:∀b u,H b=some u->b≠it:=λb u e z=>by rw[z,hn]at e;cases e
 refine I.step (g':=s.gens) (d':=s.drawn) (ch:=[it]) (λb hb=>?_) (λb o _ _ hc e _=>k b o (λz=>hc (by simp[z])) e) (λb o _ _ hc e _=>⟨o.slots,k b o (λz=>hc (by simp[z])) e⟩) (λ_ _ _ _ n=>n)
  (λb o hc e=>⟨o,k b o (λz=>hc (by simp[z])) e⟩) (λ_ _ e=>e) (λ_ _ _ e=>e) (λb ps e=>⟨#[],by rw[e];simp⟩) (λm hm=>?_) (λb u e=>?_) I.bare
 .have e:b=it:=by simpa using hb
  subst e;exact⟨h1,hL,h2,h3⟩
 .obtain⟨o,es,ep,ho,r⟩:=hm;exact⟨o,es,ep,k _ o (abp hL) ho,r⟩
 .refine(I.hok b u e).stay (λc v hc q=>k c v ?_ q) (λ_ q=>q) λ_ _ q=>q
  rcases hc with z|z
  .rw[z];exact Y5 b u e
  .exact Y5 c _ z
theorem Inv.tok(I:Inv X pr σ H s)(t:Nat):Inv X pr σ H {s with toks:=t}:=I.un (h':=s.heap) (t':=t) Un.refl I.hok
theorem Inv.kept{t':Nat}(I:Inv X pr σ H s)(k:∀b u,s.heap.get? b=some u->h'.get? b=some u):Inv X pr σ H {s with heap:=h',toks:=t'}:=I.un (Un.kept k) (I.hok.kept k)
theorem Inv.laid{a:WP}{o:HO}{t':Nat}(I:Inv X pr σ H s)(k:∀b u,s.heap.get? b=some u->h'.get? b=some u)(hp:s.heap.objs.size<=a)(new:ObjOk X.prog X.w (upd H a o) h' a o):
  Inv X pr σ (upd H a o) {s with heap:=h',toks:=t'}:=I.un (Un.laid k hp (I.hok.fresh hp)) (I.hok.laid k hp new)
theorem Inv.write{x e:WP}{o:HO}{t':Nat}(I:Inv X pr σ H s)(mu:VX (H x))(he:e=x\/H e=some (.own x))(k:∀b u,b≠e->s.heap.get? b=some u->h'.get? b=some u)(VD:∃u,h'.get? e=some u)
  (new:ObjOk X.prog X.w (upd H x o) h' x o):Inv X pr σ (upd H x o) {s with heap:=h',toks:=t'}:=I.un (Un.write mu he k VD) (I.hok.write mu he k VD new)
theorem Inv.pins_of{RT:List (WP×Obj)}(I:Inv X pr σ H s)(h:∀p∈RT,s.heap.get? p.1=some p.2/\H p.1=none/\p.1≠X.env.locals/\p.1∉X.fs/\∀v,p.2.data≠.cell v):Inv X RT σ H s:=
 ⟨I.ok,I.os,I.bare,I.base,I.loc,I.cell,I.free,I.freeC,λp hp=>(aag.mp hp).elim (λz=>I.pin p (ZX _ z)) (h p),I.hok,I.len⟩
theorem nK(hN:N.Nodup){j:Nat}(a:N[i]?=some x)(b:N[j]?=some x):i=j:=by
 obtain⟨h1,e1⟩:=Z1.mp a;obtain⟨h2,e2⟩:=Z1.mp b;exact(List.getElem_inj hN).mp (e1.trans e2.symm)
theorem oY{M:Model}{A:Uf}{E:Wp->WF->Prop}{Q:Unit->WF->Prop}(I:Inv X pr σ H s)(hN:X.N.Nodup)(hi:X.N[i]?=some x)(hx:Loc X.env.scope x)(r:RelV v u)
  (h:∀s',Inv X pr (σ.set i (some v)) H s'->(∃a,Heap.SameBut a s.heap s'.heap/\(a=X.env.locals\/X.env.cells.lookup x=some a))->Q () s') (hf:X.fn x=true\/X.env.scope.names.lookup x=some .local:=by first|exact .inl rfl|exact .inr rfl|assumption):wpAny M A (storeName X.env x u) Q E s:=by
 obtain⟨m,hn,hl⟩:=id I.loc;have Rx:(X.env.scope.kind==.class||(X.env.scope.kind==.module&&X.env.locals != X.env.globals))=false:=by rw[I.ok.kind];rfl
 have hiσ:i<σ.length:=by rw[I.len];exact(Z1.mp hi).1
 have cne:=I.cne;have tracked:∀{a:WP}{h':UF},(∃o,s.heap.get? a=some o/\H a=none)->Heap.SameBut a s.heap h'->HOk X.prog X.w H h':=λ{a h'} ha hs b ob e=>by
  obtain⟨_,_,Uo⟩:=ha;refine(I.hok b ob e).stay (λc w' hc q=>(hs.2 c ?_).trans q) (λ_ q=>q) λ_ _ q=>q
  rintro rfl;rcases hc with rfl|hc
  .rw[Uo]at e;cases e
  .rw[Uo]at hc;cases hc
 rcases hx with hk|hk
 .refine wpAny_storeName_local hk hn (λh' UE hs=>?_) Rx;obtain⟨oL,_,_,hoL,_⟩:=id hn;refine h _ ⟨I.ok,I.os,I.bare,⟨λb o e n hb hx=>?_,λb o e n hb hx=>?_,I.base.free,λb o e hx=>?_,I.base.tups,I.base.frzs,I.base.tbls⟩,⟨_,UE,λj y v' e1 e2 e3=>?_⟩,λy c e=>?_,I.free,I.freeC,λp hp=>?_,tracked ⟨oL,hoL,I.free⟩ hs,by simpa using I.len⟩ ⟨_,hs,.inl rfl⟩
  .exact(hs.2 b (aac (ZV (ZQ e) I.ok.above))).trans (I.base.keep b o e n hb hx)
  .obtain⟨sl,e1⟩:=I.base.slot b o e n hb hx;exact⟨sl,(hs.2 b (aac (ZV (ZQ e) I.ok.above))).trans e1⟩
  .obtain⟨o',e1⟩:=I.base.there b o e hx;exact⟨o',(hs.2 b (aac (ZV (ZQ e) I.ok.above))).trans e1⟩
  .by_cases hj:j=i
   .subst hj;rw[hi]at e1;cases e1;rw[abh hiσ]at e2;cases e2;exact⟨u,r,.inl ⟨hk,by simp⟩⟩
   .rw[abZ (abp hj)]at e2;obtain⟨u',r',q⟩:=hl j y v' e1 e2 e3;refine⟨u',r',?_⟩;rcases q with⟨k,e⟩|⟨k,c,e,z⟩
    .refine .inl ⟨k,?_⟩;have:y≠x:=λe=>hj (nK hN e1 (e▸hi))
     simp[this,e]
    .exact .inr ⟨k,c,e,z.sameBut hs (cne y c e)⟩
  .obtain⟨w',z⟩:=I.cell y c e;exact⟨w',z.sameBut hs (cne y c e)⟩
  .obtain⟨e,n,ne,nf,d⟩:=I.pin p hp;exact⟨(hs.2 p.1 ne).trans e,n,ne,nf,d⟩
 .have Ry:X.fn x=true:=by
   rcases hf with z|z
   .exact z
   .rw[z]at hk;cases hk
  obtain⟨c,hc⟩:=I.ok.has x (.inl hk);obtain⟨w',z⟩:=I.cell x c hc;refine wpAny_storeName_cell I.ok.kind hk hc z (λh' Qi hs=>?_);obtain⟨oc,Y6,hocd⟩:=id z;refine h {s with heap:=h'} ⟨I.ok,I.os,I.bare,⟨λb o e n hb hx=>?_,λb o e n hb hx=>?_,I.base.free,λb o e hx=>?_,I.base.tups,I.base.frzs,I.base.tbls⟩,⟨m,hn.sameBut hs (abp (cne x c hc)),λj y v' e1 e2 e3=>?_⟩,λy c' e=>?_,I.free,I.freeC,λp hp=>?_,tracked ⟨oc,Y6,I.freeC x c hc⟩ hs,by simpa using I.len⟩ ⟨c,hs,.inr hc⟩
  .exact(hs.2 b (aac (ZV (ZQ e) (I.ok.cab x c Ry hc)))).trans (I.base.keep b o e n hb hx)
  .obtain⟨sl,e1⟩:=I.base.slot b o e n hb hx;exact⟨sl,(hs.2 b (aac (ZV (ZQ e) (I.ok.cab x c Ry hc)))).trans e1⟩
  .obtain⟨o',e1⟩:=I.base.there b o e hx;exact⟨o',(hs.2 b (aac (ZV (ZQ e) (I.ok.cab x c Ry hc)))).trans e1⟩
  .by_cases hj:j=i
   .subst hj;rw[hi]at e1;cases e1;rw[abh hiσ]at e2;cases e2;exact⟨u,r,.inr ⟨.inl hk,c,hc,Qi⟩⟩
   .rw[abZ (abp hj)]at e2;obtain⟨u',r',q⟩:=hl j y v' e1 e2 e3;refine⟨u',r',?_⟩;rcases q with q|⟨k,c',e,z'⟩
    .exact .inl q
    .refine .inr ⟨k,c',e,z'.sameBut hs ?_⟩;rintro rfl;exact hj (nK hN e1 (I.ok.inj _ _ _ e hc▸hi))
  .by_cases hcc:c'=c
   .subst hcc;exact⟨_,Qi⟩
   .obtain⟨w2,z2⟩:=I.cell y c' e;exact⟨w2,z2.sameBut hs hcc⟩
  .obtain⟨e,n,ne,nf,d⟩:=I.pin p hp;refine⟨(hs.2 p.1 ?_).trans e,n,ne,nf,d⟩;intro q;rw[q,Y6]at e;have q':oc=p.2:=aax e;exact d w' (by rw[<-q'];exact hocd)
theorem nL{M:Model}{A:Uf}{E:Wp->WF->Prop}{Q:Unit->WF->Prop}(I:Inv X pr σ H s)(hN:X.N.Nodup)(hi:X.N[i]?=some x)(hx:Loc X.env.scope x)(r:RelV v u)
  (h:∀s',Inv X pr (σ.set i (some v)) H s'->Q () s') (hf:X.fn x=true\/X.env.scope.names.lookup x=some .local:=by first|exact .inl rfl|exact .inr rfl|assumption):wpAny M A (storeName X.env x u) Q E s:=
 oY I hN hi hx r (λs' I' _=>h s' I') hf
theorem Inv.call'(I:Inv X pr σ H s)(ho:s'.os=s.os)(u:Un (Na X.stack) ch H H' s.heap s'.heap)(hok:HOk X.prog X.w H' s'.heap)(hg:AllBare s'.gens)
  (Tg:∀b∈ch,(b∈X.ex\/X.s₀.heap.objs.size<=b)/\b≠X.env.locals/\(∀x c,X.env.cells.lookup x=some c->c≠b)/\∀p∈X.pn++pr,p.1≠b):Inv X pr σ H' s':=by
 obtain⟨h',g',d',t',o'⟩:=s';have e:o'=s.os:=ho;subst e;exact I.call (g':=g') (t':=t') (d':=d') u hok hg Tg
end
abbrev XK:=Wp->Option WP->Hp->Prop
abbrev St:=List (Option V)
abbrev VK:=V->Hp->Prop
abbrev TE:=St->Hp->VK->Prop
abbrev TT:=St->Hp->(Bool->Hp->Prop)->Prop
abbrev TA:=St->Hp->(List V->Hp->Prop)->Prop
structure Ends where
 nx:St->Hp->Prop
 rt:VK
 bk:St->Hp->Prop:=λ_ _=>False
 ct:St->Hp->Prop:=λ_ _=>False
abbrev TS:=Ends->St->Hp->Prop
def EP(X:Cx)(pr:List (WP×Obj))(σ:St)(Q:VK)(u:Wp)(s':WF):Prop:=∃v H',Inv X pr σ H' s'/\RelV v u/\Q v H'
def TP(X:Cx)(pr:List (WP×Obj))(σ:St)(Q:Bool->Hp->Prop)(b:Bool)(s':WF):Prop:=∃H',Inv X pr σ H' s'/\Q b H'
def AP(X:Cx)(pr:List (WP×Obj))(σ:St)(Q:List V->Hp->Prop)(us:List Wp)(s':WF):Prop:=∃vs H',Inv X pr σ H' s'/\Vals vs us/\Q vs H'
def SP(X:Cx)(pr:List (WP×Obj))(D:Ends)(f:Flow)(s':WF):Prop:=
 match f with
 | .next=>∃σ' H',Inv X pr σ' H' s'/\D.nx σ' H'
 | .brk=>∃σ' H',Inv X pr σ' H' s'/\D.bk σ' H'
 | .cont=>∃σ' H',Inv X pr σ' H' s'/\D.ct σ' H'
 | .ret u=>∃v σ' H',Inv X pr σ' H' s'/\RelV v u/\D.rt v H'
def PE(X:Cx)(e:Expr)(t:TE):Prop:=
 ∀(pr:List (WP×Obj)) (s:WF) (σ:St) (H:Hp) (Q:VK),Inv X pr σ H s->t σ H Q->wpAny (model X.prog X.w) X.A (eval e X.env) (EP X pr σ Q) X.xe s
def PT(X:Cx)(e:Expr)(t:TT):Prop:=
 ∀(pr:List (WP×Obj)) (s:WF) (σ:St) (H:Hp) (Q:Bool->Hp->Prop),Inv X pr σ H s->t σ H Q->wpAny (model X.prog X.w) X.A (isTrue e X.env (eval e X.env)) (TP X pr σ Q) X.xe s
def PW(X:Cx)(e:Expr)(t:TT):Prop:=
 ∀(whole:Sem Wp) (pr:List (WP×Obj)) (s:WF) (σ:St) (H:Hp) (Q:Bool->Hp->Prop),Inv X pr σ H s->t σ H Q->wpAny (model X.prog X.w) X.A (isTrue e X.env whole) (TP X pr σ Q) X.xe s
variable{e:Expr}
theorem PW.pt{t:TT}(h:PW X e t):PT X e t:=h _
def PA(X:Cx)(es:List Expr)(t:TA):Prop:=
 ∀(pos:Pos) (pr:List (WP×Obj)) (s:WF) (σ:St) (H:Hp) (Q:List V->Hp->Prop),Inv X pr σ H s->t σ H Q->wpAny (model X.prog X.w) X.A (spliced (backTo pos (starEach es X.env))) (AP X pr σ Q) X.xe s
def PS(X:Cx)(st:Stmt)(t:TS):Prop:=
 ∀(pr:List (WP×Obj)) (s:WF) (σ:St) (H:Hp) (D:Ends),Inv X pr σ H s->t D σ H->wpAny (model X.prog X.w) X.A (exec st X.env) (SP X pr D) X.xe s
def PSs(X:Cx)(st:List Stmt)(t:TS):Prop:=
 ∀(pr:List (WP×Obj)) (s:WF) (σ:St) (H:Hp) (D:Ends),Inv X pr σ H s->t D σ H->wpAny (model X.prog X.w) X.A (execs st X.env) (SP X pr D) X.xe s
variable{α:Type}{A:Uf}{E:Wp->WF->Prop}
theorem Mz{t:Sem α}{Q Q':α->WF->Prop}{M:Model}(h:wpAny M A t Q E s)(hQ:∀a s,Q a s->Q' a s):wpAny M A t Q' E s:=aaf h hQ λ_ _ x=>x
variable{Q:Wp->WF->Prop}{ta:TE}{σ:St}{pos:Pos}
section
theorem bin{a b:Expr}{tb:TE}(ha:PE X a ta)(hb:PE X b tb){R:V->V->Hp->Prop}(I:Inv X pr σ H s)(h:ta σ H λx H1=>tb σ H1 λy H2=>R x y H2)
  {Q:α->WF->Prop}{f:Wp->Wp->Sem α}
  (hf:∀v u s2 x y H2,Inv X pr σ H2 s2->RelV x v->RelV y u->R x y H2->wpAny (model X.prog X.w) X.A (f v u) Q X.xe s2):
  wpAny (model X.prog X.w) X.A (eval a X.env) (λv s₁=>wpAny (model X.prog X.w) X.A (eval b X.env) (λu s₂=>wpAny (model X.prog X.w) X.A (f v u) Q X.xe s₂) X.xe s₁) X.xe s:=by
 refine Mz (ha pr s σ H _ I h) λv s1 MC=>?_
 obtain⟨x,H1,I1,r1,q1⟩:=MC;refine Mz (hb pr s1 σ H1 _ I1 q1) λu s2 MC=>?_
 obtain⟨y,H2,I2,r2,q2⟩:=MC;exact hf v u s2 x y H2 I2 r1 r2 q2
def qU(i:Nat):TE:=λσ H Q=>∃v,σ[i]?=some (some v)/\Q v H
def tC(v:V):TE:=λ_ H Q=>Q v H
theorem Ar{pos:Pos}(hN:X.N[i]?=some x)(hv:XX X.env.scope x)(hd:(x==("__debug__" : Str))=false:=by decide)(Q3:(x==("__classdict__" : Str))=false:=by decide):PE X (.Name x pos) (qU i):=by
 intro pr s σ H Q I h;obtain⟨v,e,h⟩:=h;obtain⟨m,hn,hl⟩:=I.loc;obtain⟨u,r,l⟩:=hl i x v hN e hv;have fin:EP X pr σ Q u s:=⟨v,H,I,r,h⟩
 rcases l with⟨hk,hm⟩|⟨hk,c,hc,M9⟩
 .exact wpAny_Name (wpAny_loadName_local I.ok.kind hk hn hm fin) hd
 .rcases hk with hk|hk
  .exact wpAny_Name (wpAny_loadName_cell I.ok.kind hk hc M9 fin) hd
  .exact wpAny_Name (wpAny_loadName_free I.ok.kind hk hc M9 fin Q3) hd
theorem As{i j pos}:PE X (.Constant (.int i) j pos) (tC (.int i)):=λ_ _ _ H _ I h=>wpAny_Constant_int ⟨.int i,H,I.tok _,⟨_,rfl⟩,h⟩
theorem HL{b j pos}:PE X (.Constant (.bool b) j pos) (tC (.bl b)):=λ_ _ _ H _ I h=>Constant_bool ⟨.bl b,H,I,rfl,h⟩
theorem Au{j pos}:PE X (.Constant .none j pos) (tC .non):=λ_ _ _ H _ I h=>Constant_none ⟨.non,H,I,rfl,h⟩
theorem Av{x j pos}:PE X (.Constant (.str x) j pos) (tC (.str x)):=λ_ _ _ H _ I h=>Calls.Constant_str ⟨.str x,H,I.tok _,⟨_,rfl⟩,h⟩
def Gl(X:Cx)(x:Str):Prop:=X.env.kindOf x=some .globalImplicit
theorem k8{E:Wp->WF->Prop}{pos:Pos}(I:Inv X pr σ H s)(hg:Gl X x)(hm:X.mg x=some u)(h:Q u s)
  (hd:(x==("__debug__" : Str))=false:=by decide):wpAny (model X.prog X.w) X.A (eval (.Name x pos) X.env) Q E s:=
 Calls.Name_function_global I.ok.kind hg (Calls.loadGlobal_global (by rw[I.ok.glob];exact I.mod.glob.keeps I.bk) hm h) hd
theorem iz{E:Wp->WF->Prop}{pos:Pos}(I:Inv X pr σ H s)(hg:Gl X x)(hm:X.mg x=none)(hv:bootBuiltins x=some u)(h:Q u s)
  (hn:x≠"__name__":=by decide) (hd:(x==("__debug__" : Str))=false:=by decide):wpAny (model X.prog X.w) X.A (eval (.Name x pos) X.env) Q E s:=by
 obtain⟨mb,h1,h2⟩:=I.mod.blt;exact Calls.Name_function_global I.ok.kind hg (Calls.loadGlobal_builtin (by rw[I.ok.glob];exact I.mod.glob.keeps I.bk) hm (by rw[I.ok.blt];exact h1.keeps I.bk) ((h2 x hn).trans hv) h) hd
theorem vz{pos:Pos}(hg:Gl X x)(hm:X.mg x=some u)(r:RelV v u)(hd:(x==("__debug__" : Str))=false:=by decide):PE X (.Name x pos) (tC v):=
 λ_ _ _ H _ I h=>k8 I hg hm ⟨v,H,I,r,h⟩ hd
theorem vA{pos:Pos}(hg:Gl X x)(hm:X.mg x=none)(hv:bootBuiltins x=some u)(r:RelV v u)(hn:x≠"__name__":=by decide)(hd:(x==("__debug__" : Str))=false:=by decide):PE X (.Name x pos) (tC v):=
 λ_ _ _ H _ I h=>iz I hg hm hv ⟨v,H,I,r,h⟩ hn hd
variable{a b:Expr}{tb:TE}
def PC(X:Cx)(op:CmpOp)(a b:Expr)(t:TE):Prop:=
 ∀(pr:List (WP×Obj)) (s:WF) (σ:St) (H:Hp) (Q:VK),Inv X pr σ H s->t σ H Q->
  wpAny (model X.prog X.w) X.A (eval a X.env) (λv s₁=>wpAny (model X.prog X.w) X.A (eval b X.env) (λu s₂=>wpAny (model X.prog X.w) X.A (compareOp op v u) (EP X pr σ Q) X.xe s₂) X.xe s₁) X.xe s
theorem yB(b:Expr){op:CmpOp}(h:op≠.In)(h2:op≠.NotIn):behindInMarks op b=false:=by
 have e1:(op==CmpOp.In)=false:=by cases op <;> first|rfl|exact absurd rfl h
 have e2:(op==CmpOp.NotIn)=false:=by cases op <;> first|rfl|exact absurd rfl h2
 cases b <;> simp[behindInMarks,e1,e2]
def Kr(ta:TE):TE:=λσ H Q=>ta σ H λx H1=>Q (.bl (decide (x=.non))) H1
theorem RelV.none_iff{x:V}{v:Wp}(r:RelV x v):(v==Value.none)=decide (x=.non):=by
 cases x with
 |non=>cases r;rfl
 |bl _=>cases r;rfl
 |int _=>obtain⟨t,rfl⟩:=r;rfl
 |str _=>obtain⟨t,rfl⟩:=r;rfl
 |byt _=>obtain⟨t,rfl⟩:=r;rfl
 |flt _=>obtain⟨t,rfl⟩:=r;rfl
 |ref _=>cases r;rfl
 |ty _=>cases r;rfl
theorem Em{j pos'}(ha:PE X a ta):PC X .Is a (.Constant .none j pos') (Kr ta):=by
 intro pr s σ H Q I h;refine Mz (ha pr s σ H _ I h) λv s1 MC=>?_
 obtain⟨x,H1,I1,r1,q1⟩:=MC;exact Constant_none (is_none_gen ⟨.bl _,H1,I1,by rw[r1.none_iff];rfl,q1⟩)
def tB(t:TE):TT:=λσ H Q=>t σ H λx H1=>∃c,x=.bl c/\Q c H1
theorem En{op:CmpOp}{t:TE}(h:PC X op a b t)(h1:behindInMarks op b=false:=by first|exact yB _ (by decide) (by decide)|rfl):PT X (.Compare a [op] [b] pos) (tB t):=by
 intro pr s σ H Q I hw;refine acp (Mz (h pr s σ H _ I hw) λv s1 h1=>Mz h1 λu s2 h2=>Mz h2 λc s3 ⟨x,H1,I1,r1,q1⟩=>?_) h1;obtain⟨d,rfl,q⟩:=q1;cases r1;exact aa6 ⟨H1,I1,q⟩
theorem Aw{t:TE}(h:PE X e t)(he:∀whole,isTrue e X.env whole=(do let v <-whole;standAt e.pos;holding [v] (truthy v)):=by intro _;rfl):PT X e (tB t):=by
 intro pr s σ H Q I hw;refine isTrue_plain (Mz (h pr s σ H _ I hw) λv s1 ⟨x,H1,I1,r1,q1⟩=>?_) (he _);obtain⟨d,rfl,q⟩:=q1;cases r1;exact aa6 ⟨H1,I1,q⟩
variable{tA Xn:TT}{rest:List Expr}
def Ks(t u:TT):TT:=λσ H Q=>t σ H λc H1=>if c=true then u σ H1 Q else Q false H1
def tOr(t u:TT):TT:=λσ H Q=>t σ H λc H1=>if c=true then Q true H1 else u σ H1 Q
def Kt(t:TT):TT:=λσ H Q=>t σ H λc H1=>Q (!c) H1
theorem BK(ha:PT X a tA):PW X (.BoolOp .And [a] pos) tA:=by
 intro wh pr s σ H Q I h;refine isTrue_and (Mz (ha pr s σ H Q I h) λc s1 e=>?_);cases c with
 |true=>exact isTrue_and_nil e
 |false=>exact e
theorem Ax(ha:PT X a tA):PW X (.BoolOp .Or [a] pos) tA:=by
 intro wh pr s σ H Q I h;refine isTrue_or (Mz (ha pr s σ H Q I h) λc s1 e=>?_);cases c with
 |false=>exact isTrue_or_nil e
 |true=>exact e
theorem Eo(ha:PT X a tA)(hb:PW X (.BoolOp .And (b::rest) pos) Xn):PW X (.BoolOp .And (a::b::rest) pos) (Ks tA Xn):=by
 intro wh pr s σ H Q I h;refine isTrue_and (Mz (ha pr s σ H _ I h) λc s1 MC=>?_);obtain⟨H1,I1,q1⟩:=MC;cases c with
 |true=>exact hb wh pr s1 σ H1 Q I1 q1
 |false=>exact⟨H1,I1,q1⟩
theorem Ep(ha:PT X a tA)(hb:PW X (.BoolOp .Or (b::rest) pos) Xn):PW X (.BoolOp .Or (a::b::rest) pos) (tOr tA Xn):=by
 intro wh pr s σ H Q I h;refine isTrue_or (Mz (ha pr s σ H _ I h) λc s1 MC=>?_);obtain⟨H1,I1,q1⟩:=MC;cases c with
 |true=>exact⟨H1,I1,q1⟩
 |false=>exact hb wh pr s1 σ H1 Q I1 q1
theorem Ay(ha:PT X a tA):PT X (.UnaryOp .Not a pos) (Kt tA):=by
 intro pr s σ H Q I h;exact isTrue_not (ha pr s σ H (λc H1=>Q (!c) H1) I h)
def HM(ta tb:TE):TE:=λσ H Q=>ta σ H λx H1=>∃c,x=.bl c/\if c=true then tb σ H1 Q else Q (.bl false) H1
theorem Er{op}{t:TE}(h:PE X a t):PE X (.BoolOp op [a] pos) t:=λpr s σ H Q I hw=>BoolOp_one (h pr s σ H Q I hw)
theorem Es(ha:PE X a ta)(hb:PE X (.BoolOp .And (b::rest) pos) tb):PE X (.BoolOp .And (a::b::rest) pos) (HM ta tb):=by
 intro pr s σ H Q I h;refine BoolOp_and (Mz (ha pr s σ H _ I h) λv s1 MC=>?_);obtain⟨x,H1,I1,r1,q1⟩:=MC;obtain⟨c,rfl,q1⟩:=q1;cases r1;refine aa6 ?_;cases c with
 |true=>exact hb pr s1 σ H1 Q I1 q1
 |false=>exact⟨.bl false,H1,I1,rfl,q1⟩
end
def SqL(K:W.Frag)(H:Hp)(a:WP)(xs:List V):Prop:=
 Rd H a (.lst xs)\/
  ∃(o:Obj) (L8:Array Wp) (n:Nat),K.lookup a=some o/\o.cls=.type "list"/\o.dict=none/\o.data=.seq L8 n/\L8.size<=sizeLine/\Vals xs L8.toList
def SqT(K:W.Frag)(H:Hp)(a:WP)(xs:List V):Prop:=
 Rd H a (.tup xs)\/
  ∃(o:Obj) (L8:Array Wp) (n:Nat),K.lookup a=some o/\o.cls=.type "tuple"/\o.dict=none/\o.data=.seq L8 n/\L8.size<=sizeLine/\Vals xs L8.toList
def Ku:Wp->Option V
 | .none=>some .non
 | .bool b=>some (.bl b)
 | .int i _=>some (.int i)
 | .str x _=>some (.str x)
 | .bytes b _=>some (.byt b)
 | .float b _=>some (.flt b)
 | .ref a=>some (.ref a)
 | .type n=>some (.ty n)
 |_=>none
theorem RelV.abs{x:V}(r:RelV x u):Ku u=some x:=by
 cases x with
 |non=>cases r;rfl
 |bl _=>cases r;rfl
 |int _=>obtain⟨t,rfl⟩:=r;rfl
 |str _=>obtain⟨t,rfl⟩:=r;rfl
 |byt _=>obtain⟨t,rfl⟩:=r;rfl
 |flt _=>obtain⟨t,rfl⟩:=r;rfl
 |ref _=>cases r;rfl
 |ty _=>cases r;rfl
theorem RelV.inj{x y:V}(r:RelV x u)(q:RelV y u):x=y:=aax (r.abs.symm.trans q.abs)
theorem Vals.inj:∀{xs ys:List V}{us:List Wp},Vals xs us->Vals ys us->xs=ys
 |_,_,_,.nil,.nil=>rfl
 |_,_,_,.cons r t,.cons r' t'=>by rw[r.inj r',Vals.inj t t']
variable{xs:List V}{K:W.Frag}
section
variable{ys:List V}
theorem SqL.of(h:H a=some (.lst xs)):SqL K H a xs:=.inl (.inl h)
theorem SqT.of(h:H a=some (.tup xs)):SqT K H a xs:=.inl (.inl h)
theorem Inv.list(I:Inv X pr σ H s)(h:SqL X.K H a xs):∃L8:List Wp,Vals xs L8/\PlainL s.heap a L8.toArray/\xs.length<=sizeLine:=by
 rcases h with h|⟨o,L8,n,hk,hc,hd,hs,hz,r⟩
 .obtain⟨z,L8,n,r,e⟩:=h.ok I.hok;exact⟨L8,r,⟨_,n,e,rfl,rfl,rfl⟩,z⟩
 .refine⟨L8.toList,r,⟨o,n,I.kIn a o hk,hc,hd,by simpa using hs⟩,?_⟩;have e:=r.length;simp![abO]at e;lia
theorem Inv.tupleN(I:Inv X pr σ H s)(h:SqT X.K H a xs):∃L8:List Wp,Vals xs L8/\IsTupN s.heap a L8.toArray/\xs.length<=sizeLine:=by
 rcases h with h|⟨o,L8,n,hk,hc,hdn,hs,hz,r⟩
 .obtain⟨z,L8,r,p⟩:=h.ok I.hok;exact⟨L8,r,p,z⟩
 .refine⟨L8.toList,r,⟨o,I.kIn a o hk,hc,⟨n,by simpa using hs⟩,hdn⟩,?_⟩;have e:=r.length;simp![abO]at e;lia
theorem Inv.tuple(I:Inv X pr σ H s)(h:SqT X.K H a xs):∃L8:List Wp,Vals xs L8/\IsTup s.heap a L8.toArray/\xs.length<=sizeLine:=by
 obtain⟨L8,r,p,z⟩:=I.tupleN h;exact⟨L8,r,p.tup,z⟩
theorem Inv.list_inj(I:Inv X pr σ H s)(h:SqL X.K H a xs)(h':SqL X.K H a ys):xs=ys:=by
 obtain⟨L8,r,⟨o,n,e,_,_,d⟩,_⟩:=I.list h;obtain⟨its',r',⟨o',n',e',_,_,d'⟩,_⟩:=I.list h';rw[e]at e';cases e';rw[d]at d';injection d' with d1 _;have:L8=its':=by simpa using abB Array.toList d1
 subst this;exact r.inj r'
theorem Inv.tuple_inj(I:Inv X pr σ H s)(h:SqT X.K H a xs)(h':SqT X.K H a ys):xs=ys:=by
 obtain⟨L8,r,⟨o,e,_,n,d⟩,_⟩:=I.tuple h;obtain⟨its',r',⟨o',e',_,n',d'⟩,_⟩:=I.tuple h';rw[e]at e';cases e';rw[d]at d';injection d' with d1 _;have:L8=its':=by simpa using abB Array.toList d1
 subst this;exact r.inj r'
end
abbrev Cx.wish(X:Cx)(E:Wp->WF->Prop):Cx:={X with xe:=E}
abbrev Cx.nox(X:Cx):Cx:=X.wish λ_ _=>False
theorem Cx.Ok.wish{X:Cx}(ok:X.Ok)(E:Wp->WF->Prop):(X.wish E).Ok:=
 ⟨ok.mod,ok.kind,ok.glob,ok.blt,ok.above,ok.inj,ok.has,ok.cab,ok.hd,ok.frames,ok.stk,ok.exf,ok.bs,ok.bsz,ok.noex,ok.exfs,ok.funs,ok.frf⟩
theorem Cx.Ok.unwish(ok:(X.wish E).Ok):X.Ok:=
 ⟨ok.mod,ok.kind,ok.glob,ok.blt,ok.above,ok.inj,ok.has,ok.cab,ok.hd,ok.frames,ok.stk,ok.exf,ok.bs,ok.bsz,ok.noex,ok.exfs,ok.funs,ok.frf⟩
section
theorem Inv.wish(I:Inv X pr σ H s)(E:Wp->WF->Prop):Inv (X.wish E) pr σ H s:=⟨I.ok.wish E,I.os,I.bare,I.base,I.loc,I.cell,I.free,I.freeC,I.pin,I.hok,I.len⟩
theorem Inv.unwish(I:Inv (X.wish E) pr σ H s):Inv X pr σ H s:=⟨I.ok.unwish,I.os,I.bare,I.base,I.loc,I.cell,I.free,I.freeC,I.pin,I.hok,I.len⟩
theorem SP.unwish{D:Ends}{f:Flow}{s':WF}(h:SP (X.wish E) pr D f s'):SP X pr D f s':=by
 cases f with
 |next=>obtain⟨σ',H',I,q⟩:=h;exact⟨σ',H',I.unwish,q⟩
 |brk=>obtain⟨σ',H',I,q⟩:=h;exact⟨σ',H',I.unwish,q⟩
 |cont=>obtain⟨σ',H',I,q⟩:=h;exact⟨σ',H',I.unwish,q⟩
 |ret u=>obtain⟨v,σ',H',I,r,q⟩:=h;exact⟨v,σ',H',I.unwish,r,q⟩
theorem PT.nox{t:TT}(h:PT X.nox e t):PT X e t:=λpr s σ H Q I hw=>
 aaf (h pr s σ H Q (I.wish _) hw) (λ_ _ ⟨H',I',q⟩=>⟨H',I'.unwish,q⟩) λ_ _ z=>False.elim z
theorem PSs.nox{st:List Stmt}{t:TS}(h:PSs X.nox st t):PSs X st t:=λpr s σ H D I hw=>
 aaf (h pr s σ H D (I.wish _) hw) (λ_ _ q=>q.unwish) λ_ _ z=>False.elim z
end
variable{te:TE}{c:Expr}{tc:TT}
section
variable{st:Stmt}{rest:List Stmt}{t u:TS}
def HN:TS:=λD σ H=>D.nx σ H
def Kv(t u:TS):TS:=λD σ H=>t {D with nx:=u D} σ H
theorem qV:PSs X [] HN:=λ_ _ σ H _ I h=>abS ⟨σ,H,I,h⟩
theorem kP(h1:PS X st t)(h2:PSs X rest u):PSs X (st::rest) (Kv t u):=by
 intro pr s σ H D I h;refine aat (Mz (h1 pr s σ H {D with nx:=u D} I h) λf s1 q=>?_);cases f with
 |next=>
  obtain⟨σ',H',I',q⟩:=q;exact h2 pr s1 σ' H' D I' q
 |ret v=>exact q
 |brk=>exact q
 |cont=>exact q
theorem BL(h1:PS X st t):PSs X [st] t:=by
 intro pr s σ H D I h;refine aat (Mz (h1 pr s σ H D I h) λf s1 q=>?_);cases f with
 |next=>exact abS q
 |ret v=>exact q
 |brk=>exact q
 |cont=>exact q
theorem Inv.quiet(I:Inv X pr σ H s):interactive X.env=false:=by simp[interactive,I.ok.kind]
def HP(te:TE):TS:=λD σ H=>te σ H λ_ H1=>D.nx σ H1
theorem BM(he:PE X e te)(hs:swapsWith e none pos.line X.env=pure false:=by rfl):PS X (.Expr e pos) (HP te):=by
 intro pr s σ H D I h;exact wpAny_Expr_any (Mz (he pr s σ H _ I h) λv s1 ⟨x,H1,I1,r1,q1⟩=>⟨σ,H1,I1,q1⟩) I.quiet hs
def Kw(te:TE):TS:=λD σ H=>te σ H D.rt
theorem Az(he:PE X e te):PS X (.Return (some e) pos) (Kw te):=by
 intro pr s σ H D I h;exact ac8 (Mz (he pr s σ H _ I h) λv s1 ⟨x,H1,I1,r1,q1⟩=>⟨x,σ,H1,I1,r1,q1⟩)
def Kx(c:TT)(t u:TS):TS:=λD σ H=>c σ H λb H1=>if b=true then t D σ H1 else u D σ H1
theorem HQ{a b:List Stmt}(hc:PT X c tc)(ha:PSs X a t)(hb:PSs X b u):PS X (.If c a b pos) (Kx tc t u):=by
 intro pr s σ H D I h;refine wpAny_If (Mz (hc pr s σ H _ I h) λd s1 MC=>?_);obtain⟨H1,I1,q1⟩:=MC;cases d with
 |true=>exact ha pr s1 σ H1 D I1 q1
 |false=>exact hb pr s1 σ H1 D I1 q1
def Et:TS:=λ_ _ _=>False
theorem yC:PS X st Et:=λ_ _ _ _ _ _ h=>h.elim
end
abbrev TG:=V->St->Hp->(St->Hp->Prop)->Prop
abbrev Up:=List V->St->Hp->(St->Hp->Prop)->Prop
def PG(X:Cx)(target:Expr)(t:TG):Prop:=
 ∀(pr:List (WP×Obj)) (s:WF) (σ:St) (H:Hp) (v:V) (u:Wp) (Q:St->Hp->Prop),Inv X pr σ H s->RelV v u->t v σ H Q->
  wpAny (model X.prog X.w) X.A (assign target X.env u) (λ_ s'=>∃σ' H',Inv X pr σ' H' s'/\Q σ' H') X.xe s
def UG(X:Cx)(ts:List Expr)(t:Up):Prop:=
 ∀(pr:List (WP×Obj)) (s:WF) (σ:St) (H:Hp) (vs:List V) (us:List Wp) (Q:St->Hp->Prop),Inv X pr σ H s->Vals vs us->t vs σ H Q->
  wpAny (model X.prog X.w) X.A (assignInOrder ((assignEach ts X.env).map (·.2)) us) (λ_ s'=>∃σ' H',Inv X pr σ' H' s'/\Q σ' H') X.xe s
variable{es:List Expr}{n:Nat}{tg:Expr}
section
def Eu(i:Nat):TG:=λv σ H Q=>Q (σ.set i (some v)) H
theorem BN(hN:X.N.Nodup)(hi:X.N[i]?=some x)(hx:Loc X.env.scope x)(hf:X.fn x=true\/X.env.scope.names.lookup x=some .local:=by first|exact .inl rfl|exact .inr rfl|assumption):PG X (.Name x pos) (Eu i):=by
 intro pr s σ H v u Q I r h;exact wpAny_assign_Name (nL I hN hi hx r (λs' I'=>⟨_,H,I',h⟩) hf)
def Ky:Up:=λvs σ H Q=>vs=[]/\Q σ H
def HR(t:TG)(u:Up):Up:=λvs σ H Q=>∃v r,vs=v::r/\t v σ H λσ' H'=>u r σ' H' Q
theorem BO:UG X [] Ky:=by
 intro pr s σ H vs us Q I r h;obtain⟨e,h⟩:=h;subst e;cases r;exact assignInOrder_nil ⟨σ,H,I,h⟩
theorem yD{t:TG}{u:Up}(h1:PG X e t)(h2:UG X es u)
  (hs:(assignEach (e::es) X.env).map (·.2)=assign e X.env::(assignEach es X.env).map (·.2):=by rfl):UG X (e::es) (HR t u):=by
 intro pr s σ H vs us Q I r h;obtain⟨v,vr,e1,h⟩:=h;subst e1;cases r with
 |cons r rr=>
  rw[hs];refine assignInOrder_cons (Mz (h1 pr s σ H _ _ _ I r h) λ_ s1 MC=>?_);obtain⟨σ1,H1,I1,q1⟩:=MC;exact h2 pr s1 σ1 H1 _ _ Q I1 rr q1
def Kz(K:W.Frag)(n:Nat)(t:Up):TG:=λv σ H Q=>∃a xs,v=.ref a/\SqT K H a xs/\xs.length=n/\t xs σ H Q
theorem Ew{k:Nat}{t:Up}(hc:X.calm=true)(h:UG X es t)
  (hn:(assignEach es X.env).length=n:=by rfl) (Oz:(assignEach es X.env).findIdx? (·.1)=none:=by rfl):PG X (.Tuple es k pos) (Kz X.K n t):=by
 intro pr s σ H v u Q I r hw;obtain⟨a,xs,e1,hq,hl,hw⟩:=hw;subst e1;cases r;obtain⟨L8,rv,ht,hz⟩:=I.tuple hq;refine assign_Tuple_tuple (I.ok.hd hc) ht (by simp[hn,<-hl,rv.length]) Oz λh' hx=>?_
 have I1:Inv X pr σ H {s with heap:=h'}:=I.kept (t':=s.toks) λb o e=>hx b o (aac (ZQ e)) e
 exact h pr _ σ H xs _ Q I1 (by simpa using rv) hw
def J2(te:TE)(g:TG):TS:=λD σ H=>te σ H λx H1=>g x σ H1 D.nx
theorem Ex{g:TG}(he:PE X e te)(hg:PG X tg g)(hs:swapsWithSole [tg] e pos.line X.env=pure false:=by rfl)(hw:swappedStores [tg] e X.env=pure none:=by rfl)
  (h1:(assignEach [tg] X.env).map (·.2)=[assign tg X.env]:=by rfl):PS X (.Assign [tg] e pos) (J2 te g):=by
 intro pr s σ H D I h;refine wpAny_Assign_stores (Mz (he pr s σ H _ I h) λv s1 ⟨x,H1,I1,r1,q1⟩=>?_) hs hw;rw[h1];exact Mz (hg pr s1 σ H1 x v _ I1 r1 q1) λ_ s2 q=>q
theorem vB{pos':Pos}(hN:X.N.Nodup)(hi:X.N[i]?=some x)(hx:Loc X.env.scope x)(he:PE X e te)(hs:swapsWith e (some (.Name x pos')) pos.line X.env=pure false:=by rfl)(hf:X.fn x=true\/X.env.scope.names.lookup x=some .local:=by first|exact .inl rfl|exact .inr rfl|assumption):
  PS X (.Assign [.Name x pos'] e pos) (J2 te (Eu i)):=by
 intro pr s σ H D I h;refine ac9 (Mz (he pr s σ H _ I h) λv s1 ⟨y,H1,I1,r1,q1⟩=>?_) hs;exact nL I1 hN hi hx r1 (λs2 I2=>⟨_,H1,I2,q1⟩) hf
end
variable{tb:TS}{body:List Stmt}
section
def Ey(c:TT)(tb:TS):TS:=λD σ H=>∃W:Nat->St->Hp->Prop,(∃m,W m σ H)/\∀m σ H,W m σ H->
 c σ H λb H1=>if b=true then ∃N:St->Hp->Prop,(∀σ' H',N σ' H'->∃m',m'<m/\W m' σ' H')/\tb {D with nx:=N,ct:=N,bk:=D.nx} σ H1 else D.nx σ H1
theorem yE(hp:PassesOwn (model X.prog X.w) X.A X.env X.xe)(hc:PT X c tc)(hb:PSs X body tb):PS X (.While c body [] pos) (Ey tc tb):=by
 intro pr s σ H D I h;obtain⟨W,⟨m0,w0⟩,turn⟩:=h;refine wpAny_While (codeAny_whileLoop (λn s'=>∃σ' H',Inv X pr σ' H' s'/\W n σ' H') ?_ m0 ⟨σ,H,I,w0⟩);rintro n s1 ⟨σ1,H1,I1,w1⟩;refine aaZ hp (Mz (hc pr s1 σ1 H1 _ I1 (turn n σ1 H1 w1)) λb s2 MC=>?_);obtain⟨H2,I2,q2⟩:=MC;cases b with
 |true=>
  obtain⟨N,hN,q2⟩:=q2;rw[ZY rfl];refine aaZ hp (Mz (hb pr s2 σ1 H2 _ I2 q2) λf s3 q3=>?_);cases f with
  |next=>
   obtain⟨σ3,H3,I3,n3⟩:=q3;obtain⟨m',hm,w3⟩:=hN σ3 H3 n3;exact⟨m',hm,σ3,H3,I3,w3⟩
  |cont=>
   obtain⟨σ3,H3,I3,n3⟩:=q3;obtain⟨m',hm,w3⟩:=hN σ3 H3 n3;exact⟨m',hm,σ3,H3,I3,w3⟩
  |brk=>exact q3
  |ret v=>exact q3
 |false=>
  rw[Z6 ZU];exact abS ⟨σ1,H2,I2,q2⟩
end
structure It where
 go:Nat->Hp->Prop
 yld:Nat->Hp->V->Hp->Prop
 stop:Nat->Hp->Prop
def qW(X:Cx)(pr:List (WP×Obj))(H:Hp)(b:WP):Prop:=
 H b=none/\b≠X.env.locals/\b∉X.fs/\(b∈X.ex\/X.s₀.heap.objs.size<=b)/\(∀x c,X.env.cells.lookup x=some c->c≠b)/\∀p∈X.pn++pr,p.1≠b
theorem Inv.fpOk(I:Inv X pr σ H s)(hb:s.heap.objs.size<=b)(hn:H' b=none):qW X pr H' b:=by
 refine⟨hn,adE (ZV I.lt hb),I.nofs hb,.inr (aaP I.sz hb),λx c e z=>?_,λp hp z=>?_⟩
 .obtain⟨v,q⟩:=I.cell x c e;exact absurd (ZV q.lt (by rw[z];exact hb)) (aba _)
 .exact absurd (ZV (ZQ (I.pin p hp).1) (by rw[z];exact hb)) (aba _)
structure Turn(P:W1)(w:World)(K:W.Frag)(tg:Expr)(J:It)(fp:List WP)(it:WP)(tn:Nat->UF->Prop):Prop where
 mem:it∈fp
 obj:∀i h,tn i h->∀b∈fp,∃o,h.get? b=some o/\∀v,o.data≠.cell v
 keep:∀i h h',tn i h->(∀b∈fp,∀o,h.get? b=some o->h'.get? b=some o)->tn i h'
 item:∀(X:Cx),X.prog=P->X.w=w->X.K=K->X.calm=true->∀(i:Nat) (pr:List (WP×Obj)) (s:WF) (σ:St) (H:Hp) (E:Wp->WF->Prop),Inv X pr σ H s->(∀b∈fp,qW X pr H b)->tn i s.heap->J.go i H->
  wpAny (model P w) X.A (pyNext (.ref it)) (λr s1=>∃u,r=some u/\
   wpAny (model P w) X.A (letOwnedTupleGo tg (.ref it) u) (λ_ s2=>∃x H',Inv X pr σ H' s2/\RelV x u/\J.yld i H x H'/\tn (i+1) s2.heap/\∀b∈fp,H' b=none) E s1) E s
 done:∀(X:Cx),X.prog=P->X.w=w->X.K=K->X.calm=true->∀(i:Nat) (pr:List (WP×Obj)) (s:WF) (σ:St) (H:Hp) (E:Wp->WF->Prop),Inv X pr σ H s->(∀b∈fp,qW X pr H b)->tn i s.heap->J.stop i H->
  wpAny (model P w) X.A (pyNext (.ref it)) (λr s1=>r=none/\Inv X pr σ H s1) E s
 self:∀(A:Uf) (i:Nat) (s:WF) (Q:Wp->WF->Prop) (E:Wp->WF->Prop),tn i s.heap->Q (.ref it) s->wpAny (model P w) A (pyIter (.ref it)) Q E s
abbrev TI:=St->Hp->(It->Hp->Prop)->Prop
def Y7(X:Cx)(pr:List (WP×Obj))(σ:St)(tg:Expr)(R:It->Hp->Prop)(VZ:Wp)(s2:WF):Prop:=
 ∃(it:WP) (fp:List WP) (tn:Nat->UF->Prop) (J:It) (H':Hp),VZ=.ref it/\Inv X pr σ H' s2/\Turn X.prog X.w X.K tg J fp it tn/\tn 0 s2.heap/\(∀b∈fp,qW X pr H' b)/\R J H'
def PI(X:Cx)(tg iter:Expr)(wi:TI):Prop:=
 ∀(pr:List (WP×Obj)) (s:WF) (σ:St) (H:Hp) (R:It->Hp->Prop),Inv X pr σ H s->wi σ H R->
  wpAny (model X.prog X.w) X.A (eval iter X.env) (λv s1=>wpAny (model X.prog X.w) X.A (pyIter v) (Y7 X pr σ tg R) X.xe s1) X.xe s
theorem yF {M : Model} {A : Uf} {E : Wp -> WF -> Prop} {s : WF} {tg : Expr} {it : WP} {u : Wp} {o : Obj} {n : String} {vs : Array Wp} {Q : Unit -> WF -> Prop} (ho : s.heap.get? it = some o) (hc : o.cls = .type n) (hd : o.data = .fields vs)
    (hn : ["enumerate", "zip", "dict_itemiterator", "dict_reverseitemiterator", "odict_iterator", "itertools.zip_longest", "itertools.pairwise"].contains n = false) (hQ : Q () s) : wpAny M A (letOwnedTupleGo tg (.ref it) u) Q E s := by
  unfold letOwnedTupleGo
  cases tg <;> first
    | exact ZM hQ
    | (cases u <;> first
        | exact ZM hQ
        | (refine ZH (wpAny_load ho ?_)
           rw [hc, hd]
           show wpAny M A (if (["enumerate", "zip", "dict_itemiterator", "dict_reverseitemiterator", "odict_iterator", "itertools.zip_longest", "itertools.pairwise"].contains n && vs[0]? == some (rawInt _)) = true then _ else _) Q E s
           rw [Z6 (by intro h; rw [hn, aaG] at h; cases h)]
           exact ZM hQ))
def VE(K:W.Frag)(a:WP):It:=
 ⟨λi H=>∃xs x,SqL K H a xs/\xs[i]?=some x,λi H x H'=>H'=H/\∀xs,SqL K H a xs->xs[i]?=some x,λi H=>∃xs,SqL K H a xs/\xs.length<=i⟩
def XZ(K:W.Frag)(a:WP):It:=
 ⟨λi H=>∃xs x,SqT K H a xs/\xs[i]?=some x,λi H x H'=>H'=H/\∀xs,SqT K H a xs->xs[i]?=some x,λi H=>∃xs,SqT K H a xs/\xs.length<=i⟩
def V0(lo:Int)(n:Nat):It:=⟨λi _=>i<n,λi H x H'=>H'=H/\x=.int (lo+i),λi _=>n<=i⟩
theorem vC(a it:WP):Turn P w K tg (VE K a) [it] it (λi h=>h.IsListIter it a i) where
 mem:=by simp
 obj:=λi h st b hb=>by
  have e:b=it:=by simpa using hb
  subst e;obtain⟨o,e,c,d⟩:=st;exact⟨o,e,λv z=>by rw[d]at z;cases z⟩
 keep:=λi h h' st k=>st.at λo e=>k it (by simp) o e
 item:=by
  intro X hP hw hK hc i pr s σ H E I hf st hg;subst hP hw hK;obtain⟨xs,x,hq,hx⟩:=hg;obtain⟨L8,rv,p,hz⟩:=I.list hq;obtain⟨u,hu,ru⟩:=rv.get hx;obtain⟨f0,f1,f2,f3,f4,f5⟩:=hf it (by simp);refine wpAny_pyNext_list_item st p.isList (x:=u) (by simpa using hu) λh' Pf sb=>?_
  have I1:Inv X pr σ H {s with heap:=h'}:=I.turned (t':=s.toks) (λb o hb e=>(sb.2 b hb).trans e) f0 f1 f3 f4 f5;obtain⟨o,e,c,d⟩:=id Pf;exact⟨u,rfl,yF (s:={s with heap:=h'}) e c d (by decide) ⟨x,H,I1,ru,⟨rfl,λys hy=>by rw[I.list_inj hy hq];exact hx⟩,Pf,λb hb=>(hf b hb).1⟩⟩
 done:=by
  intro X hP hw hK hc i pr s σ H E I hf st hg;subst hP hw hK;obtain⟨xs,hq,hx⟩:=hg;obtain⟨L8,rv,p,hz⟩:=I.list hq;obtain⟨f0,f1,f2,f3,f4,f5⟩:=hf it (by simp);have hl:=rv.length;exact wpAny_pyNext_list_end (I.ok.hd hc) st p.isList (by simp;lia) λh' eb=>⟨rfl,I.turned (t':=s.toks) (λb o hb e=>eb b o hb e) f0 f1 f3 f4 f5⟩
 self:=λ_ _ _ _ _ st h=>wpAny_pyIter_listiter st h
theorem uG(a it:WP):Turn P w K tg (XZ K a) [it] it (λi h=>h.IsTupleIter it a i) where
 mem:=by simp
 obj:=λi h st b hb=>by
  have e:b=it:=by simpa using hb
  subst e;obtain⟨o,e,c,d⟩:=st;exact⟨o,e,λv z=>by rw[d]at z;cases z⟩
 keep:=λi h h' st k=>st.at λo e=>k it (by simp) o e
 item:=by
  intro X hP hw hK hc i pr s σ H E I hf st hg;subst hP hw hK;obtain⟨xs,x,hq,hx⟩:=hg;obtain⟨L8,rv,p,hz⟩:=I.tuple hq;obtain⟨u,hu,ru⟩:=rv.get hx;obtain⟨f0,f1,f2,f3,f4,f5⟩:=hf it (by simp);refine wpAny_pyNext_tuple_item st (show s.heap.IsTuple a L8.toArray from p) (x:=u) (by simpa using hu) λh' Pf sb=>?_
  have I1:Inv X pr σ H {s with heap:=h'}:=I.turned (t':=s.toks) (λb o hb e=>(sb.2 b hb).trans e) f0 f1 f3 f4 f5;obtain⟨o,e,c,d⟩:=id Pf;exact⟨u,rfl,yF (s:={s with heap:=h'}) e c d (by decide) ⟨x,H,I1,ru,⟨rfl,λys hy=>by rw[I.tuple_inj hy hq];exact hx⟩,Pf,λb hb=>(hf b hb).1⟩⟩
 done:=by
  intro X hP hw hK hc i pr s σ H E I hf st hg;subst hP hw hK;obtain⟨xs,hq,hx⟩:=hg;obtain⟨L8,rv,p,hz⟩:=I.tuple hq;obtain⟨f0,f1,f2,f3,f4,f5⟩:=hf it (by simp);have hl:=rv.length;exact wpAny_pyNext_tuple_end (I.ok.hd hc) st (show s.heap.IsTuple a L8.toArray from p) (by simp;lia) λh' eb=>⟨rfl,I.turned (t':=s.toks) (λb o hb e=>eb b o hb e) f0 f1 f3 f4 f5⟩
 self:=λ_ _ _ _ _ st h=>wpAny_pyIter_tupleiter st h
theorem uH(it:WP)(lo:Int)(n:Nat):Turn P w K tg (V0 lo n) [it] it (λi h=>IsRangeIter h it (lo+(i:Nat)*1) ((n:Int)-(i:Nat)) 1) where
 mem:=by simp
 obj:=λi h st b hb=>by
  have e:b=it:=by simpa using hb
  subst e;exact⟨_,st,λv z=>by
   have z':Data.fields _=Data.cell v:=z;cases z'⟩
 keep:=λi h h' st k=>k it (by simp) _ st
 item:=by
  intro X hP hw hK hc i pr s σ H E I hf st hg;subst hP hw hK;obtain⟨f0,f1,f2,f3,f4,f5⟩:=hf it (by simp);have W:=Walks.range (prog:=X.prog) (w:=X.w) (I.ok.hd hc) it lo 1 n;refine W.item i s _ _ hg st λv h' tk hv Pf kk=>?_
  obtain⟨t,rfl⟩:=hv;have I1:Inv X pr σ H {s with heap:=h',toks:=tk}:=I.turned (λb o hb e=>kk b o (by simpa using hb) e) f0 f1 f3 f4 f5;refine⟨_,rfl,yF (s:={s with heap:=h',toks:=tk}) (n:="range_iterator") Pf rfl rfl (by decide) ⟨.int (lo+i),H,I1,⟨t,?_⟩,⟨rfl,rfl⟩,Pf,λb hb=>(hf b hb).1⟩⟩;rw[Int.mul_one]
 done:=by
  intro X hP hw hK hc i pr s σ H E I hf st hg;subst hP hw hK;obtain⟨f0,f1,f2,f3,f4,f5⟩:=hf it (by simp);exact wpAny_pyNext_range_end (I.ok.hd hc) st (by have:n<=i:=hg;lia) λh' eb=>⟨rfl,I.turned (t':=s.toks) (λb o hb e=>eb b o hb e) f0 f1 f3 f4 f5⟩
 self:=λ_ _ _ _ _ st h=>wpAny_pyIter_rangeiter st h
variable{l:Expr}{tl:TE}{fp:List WP}
section
def HS(K:W.Frag)(tl:TE):TI:=λσ H R=>tl σ H λx H1=>∃a,x=.ref a/\(∃xs,SqL K H1 a xs)/\R (VE K a) H1
def KA(K:W.Frag)(tl:TE):TI:=λσ H R=>tl σ H λx H1=>∃a,x=.ref a/\(∃xs,SqT K H1 a xs)/\R (XZ K a) H1
theorem vD(hl:PE X l tl):PI X tg l (HS X.K tl):=by
 intro pr s σ H R I h;refine Mz (hl pr s σ H _ I h) λv s1 MC=>?_
 obtain⟨x,H1,I1,r1,q1⟩:=MC;obtain⟨a,e,⟨xs,hq⟩,q⟩:=q1;subst e;cases r1;obtain⟨L8,rv,p,hz⟩:=I1.list hq;refine abL p.isList ?_;refine⟨s1.heap.objs.size,[s1.heap.objs.size],_,_,H1,rfl,I1.kept (t':=s1.toks) λb o e=>ZL _ e,vC a _,⟨_,Z0 _ rfl,rfl,rfl⟩,λb hb=>?_,q⟩;have e:b=s1.heap.objs.size:=by simpa using hb
 subst e;exact I1.fpOk (ZO _) (I1.hok.fresh (ZO _))
theorem Ez(hl:PE X l tl):PI X tg l (KA X.K tl):=by
 intro pr s σ H R I h;refine Mz (hl pr s σ H _ I h) λv s1 MC=>?_
 obtain⟨x,H1,I1,r1,q1⟩:=MC;obtain⟨a,e,⟨xs,hq⟩,q⟩:=q1;subst e;cases r1;obtain⟨L8,rv,p,hz⟩:=I1.tuple hq;refine abC (show s1.heap.IsTuple a L8.toArray from p) ?_;refine⟨s1.heap.objs.size,[s1.heap.objs.size],_,_,H1,rfl,I1.kept (t':=s1.toks) λb o e=>ZL _ e,uG a _,⟨_,Z0 _ rfl,rfl,rfl⟩,λb hb=>?_,q⟩;have e:b=s1.heap.objs.size:=by simpa using hb
 subst e;exact I1.fpOk (ZO _) (I1.hok.fresh (ZO _))
theorem sy{R:It->Hp->Prop}{lo hi:Int}{t u v:Tok}{tk:Nat}(I:Inv X pr σ H s)(h1:-(2 ^ 62)<=lo)(h2:lo<2 ^ 62)(h3:-(2 ^ 62)<=hi)(h4:hi<2 ^ 62)
  (q:R (V0 lo (hi-lo).toNat) H):wpAny (model X.prog X.w) X.A (pyIter (.ref s.heap.objs.size)) (Y7 X pr σ tg R) E {s with heap:=s.heap.push {cls:=.type "range",data:=.fields #[.int lo t,.int hi u,.int 1 v]},toks:=tk}:=by
 refine wpAny_pyIter_range (IsRange.new ..) (small_one h1 h2 h3 h4) ?_;have I1:Inv X pr σ H {s with heap:=s.heap.push {cls:=.type "range",data:=.fields #[.int lo t,.int hi u,.int 1 v]},toks:=tk}:=I.kept λb o e=>ZL _ e
 refine⟨(s.heap.push {cls:=.type "range",data:=.fields #[.int lo t,.int hi u,.int 1 v]}).objs.size,[(s.heap.push {cls:=.type "range",data:=.fields #[.int lo t,.int hi u,.int 1 v]}).objs.size],_,_,H,rfl,
  I1.kept (t':=tk) λb o e=>ZL _ e,uH _ lo (hi-lo).toNat,?_,λb hb=>?_,q⟩
 .have e1:lo+((0:Nat):Int)*1=lo:=by simp
  have e2:(((hi-lo).toNat:Nat):Int)-((0:Nat):Int)=Builtin.Range.rangeSize lo hi 1:=by rw[rangeSize_one];split <;> lia
  show IsRangeIter _ _ (lo+((0:Nat):Int)*1) ((((hi-lo).toNat:Nat):Int)-((0:Nat):Int)) 1;rw[e1,e2];exact Z0 _ rfl
 .have e:b=(s.heap.push {cls:=.type "range",data:=.fields #[.int lo t,.int hi u,.int 1 v]}).objs.size:=by simpa using hb
  subst e;exact I1.fpOk (ZO _) (I1.hok.fresh (ZO _))
def HU(ta:TA):TI:=λσ H R=>ta σ H λvs H1=>∃j:Int,vs=[.int j]/\-(2 ^ 62)<=j/\j<2 ^ 62/\R (V0 0 j.toNat) H1
def HV(ta:TA):TI:=λσ H R=>ta σ H λvs H1=>∃i j:Int,vs=[.int i,.int j]/\(-(2 ^ 62)<=i/\i<2 ^ 62/\-(2 ^ 62)<=j/\j<2 ^ 62)/\R (V0 i (j-i).toNat) H1
theorem vE{a:Expr}{ta:TA}{p pos:Pos}(hg:Gl X "range")(hm:X.mg "range" = none)(ha:PA X [a] ta)(hs:starEach [a] X.env=[(false,eval a X.env)]:=by rfl):PI X tg (.Call (.Name "range" p) [a] [] pos) (HU ta):=by
 intro pr s σ H R I h;refine Call_ (iz I hg hm boot_range (abb (Mz (ha pos pr s σ H _ I h) λus s1 ⟨vs,H1,I1,r1,q1⟩=>?_) hs rfl));obtain⟨j,e,q1,q2,q⟩:=q1;subst e;cases r1 with
 |cons r rr=>
  cases rr;obtain⟨t,rfl⟩:=r;exact call_range_1 (sy I1 (by lia) (by lia) q1 q2 (by simpa using q))
theorem vF{a b:Expr}{ta:TA}{p pos:Pos}(hg:Gl X "range")(hm:X.mg "range" = none)(ha:PA X [a,b] ta)(hs:starEach [a,b] X.env=[(false,eval a X.env),(false,eval b X.env)]:=by rfl)(Q4:starEach [b] X.env=[(false,eval b X.env)]:=by rfl):
  PI X tg (.Call (.Name "range" p) [a,b] [] pos) (HV ta):=by
 intro pr s σ H R I h;refine Call_ (iz I hg hm boot_range (abb (Mz (ha pos pr s σ H _ I h) λus s1 ⟨vs,H1,I1,r1,q1⟩=>?_) (by rw[hs,Q4]) (by rw[Q4];rfl)));obtain⟨i,j,e,⟨q1,q2,q3,q4⟩,q⟩:=q1;subst e;cases r1 with
 |cons r rr=>
  cases rr with
  |cons r' rr=>
   cases rr;obtain⟨t,rfl⟩:=r;obtain⟨t',rfl⟩:=r';exact call_range_2 (sy I1 q1 q2 q3 q4 q)
def KC(wi:TI)(g:TG)(tb:TS):TS:=λD σ H=>wi σ H λJ H1=>∃W:Nat->Nat->St->Hp->Prop,(∃m,W 0 m σ H1)/\∀i m σ H,W i m σ H->
 (J.stop i H/\D.nx σ H)\/(J.go i H/\∃N:St->Hp->Prop,(∀σ' H',N σ' H'->∃m',m'<m/\W (i+1) m' σ' H')/\∀x H',J.yld i H x H'->g x σ H' λσ2 H2=>tb {D with nx:=N,ct:=N,bk:=D.nx} σ2 H2)
def mO(fp:List WP)(h:UF):List (WP×Obj):=fp.filterMap λb=>(h.get? b).map λo=>(b,o)
theorem eT{o:Obj}(hb:b∈fp)(e:h.get? b=some o):(b,o)∈mO fp h:=abm.mpr ⟨b,hb,by rw[e];rfl⟩
theorem vG{p:WP×Obj}(hp:p∈mO fp h):p.1∈fp/\h.get? p.1=some p.2:=by
 obtain⟨b,hb,e⟩:=abm.mp hp;cases q:h.get? b with
 |none=>rw[q]at e;cases e
 |some o=>
  rw[q]at e;have e':(b,o)=p:=aax e;subst e';exact⟨hb,q⟩
theorem Inv.pinned(I:Inv X pr σ H s)(hf:∀b∈fp,qW X pr H b)(ho:∀b∈fp,∃o,s.heap.get? b=some o/\∀v,o.data≠.cell v):Inv X (pr++mO fp s.heap) σ H s:=
 I.pins_of λp hp=>(aag.mp hp).elim (λz=>I.pin p (ZK _ z)) λz=>by
  obtain⟨hb,e⟩:=vG z;obtain⟨f0,f1,f2,_⟩:=hf p.1 hb;obtain⟨o,e',d⟩:=ho p.1 hb;rw[e]at e';cases e';exact⟨e,f0,f1,f2,d⟩
theorem Inv.unpinned{pl:List (WP×Obj)}(I:Inv X (pr++pl) σ H s):Inv X pr σ H s:=I.pins_of λp hp=>I.pin p (ZK _ (ZX _ hp))
theorem EB{iter:Expr}{wi:TI}{g:TG}{pos:Pos}(hp:PassesOwn (model X.prog X.w) X.A X.env X.xe)(hc:X.calm=true)(hi:PI X tg iter wi)(hg:PG X tg g)(hb:PSs X body tb)
  (hs:∀x,foldedSetIterable iter X.env x=pure x:=by intro _;rfl):PS X (.For tg iter body [] pos) (KC wi g tb):=by
 intro pr s σ H D I h;refine wpAny_For (Mz (hi pr s σ H _ I h) λv s1 h1=>Mz h1 λVZ s2 h2=>?_) hs;obtain⟨it,fp,tn,J,H2,e,I2,T,Md,f2,W,⟨m0,w0⟩,turn⟩:=h2;subst e;have Qj:∀{H':Hp},(∀b∈fp,H' b=none)->∀b∈fp,qW X pr H' b:=λhn b hb=>⟨hn b hb,(f2 b hb).2⟩
 refine codeAny_forLoop_any (λn s'=>∃i σ' H',Inv X pr σ' H' s'/\tn i s'.heap/\(∀b∈fp,H' b=none)/\W i n σ' H') ?_ m0 ⟨0,σ,H2,I2,Md,λb hb=>(f2 b hb).1,w0⟩;rintro n s3 ⟨i,σ3,H3,I3,Nj,UH,w3⟩;rcases turn i n σ3 H3 w3 with⟨stop,qn⟩|⟨go,N,hN,step⟩
 .refine aaZ hp (Mz (T.done X rfl rfl rfl hc i pr s3 σ3 H3 X.xe I3 (Qj UH) Nj stop) λr s4 MC=>?_);obtain⟨hr,I4⟩:=MC;subst hr;exact abS ⟨σ3,H3,I4,qn⟩
 .refine aaZ hp (Mz (T.item X rfl rfl rfl hc i pr s3 σ3 H3 X.xe I3 (Qj UH) Nj go) λr s4 MC=>?_);obtain⟨u,hr,h4⟩:=MC;subst hr;refine aaZ hp (Mz h4 λ_ s5 MC=>?_);obtain⟨x,H5,I5,r5,y5,OR,V1⟩:=MC;have V2:=I5.pinned (Qj V1) (T.obj _ _ OR);refine aaZ hp (Mz (hg _ s5 σ3 H5 x u _ V2 r5 (step x H5 y5)) λ_ s6 MC=>?_);obtain⟨σ6,H6,I6,q6⟩:=MC;refine aaZ hp (Mz (hb _ s6 σ6 H6 _ I6 q6) λf s7 q7=>?_);have again:∀{σ7:St}{H7:Hp},Inv X (pr++mO fp s5.heap) σ7 H7 s7->N σ7 H7->∃m,m<n/\∃i σ' H',Inv X pr σ' H' s7/\tn i s7.heap/\(∀b∈fp,H' b=none)/\W i m σ' H':=λ{σ7 H7} I7 n7=>by
   obtain⟨m',hm,w7⟩:=hN σ7 H7 n7;refine⟨m',hm,i+1,σ7,H7,I7.unpinned,T.keep _ _ _ OR λb hb o e=>(I7.pin (b,o) (ZK _ (ZK _ (eT hb e)))).1,λb hb=>?_,w7⟩;obtain⟨o,e,d⟩:=T.obj _ _ OR b hb;exact(I7.pin (b,o) (ZK _ (ZK _ (eT hb e)))).2.1
  cases f with
  |next=>obtain⟨σ7,H7,I7,n7⟩:=q7;exact again I7 n7
  |cont=>obtain⟨σ7,H7,I7,n7⟩:=q7;exact again I7 n7
  |brk=>obtain⟨σ7,H7,I7,q7⟩:=q7;exact⟨σ7,H7,I7.unpinned,q7⟩
  |ret v=>obtain⟨x7,σ7,H7,I7,r7,q7⟩:=q7;exact⟨x7,σ7,H7,I7.unpinned,r7,q7⟩
end
theorem for_list{g:TG}{D:Ends}(Pv:Nat->St->Hp->Prop)(h0:Pv 0 σ H)(hl:∀i σ H,i<=xs.length->Pv i σ H->SqL K H a xs)
  (hs:∀i x σ H,xs[i]?=some x->Pv i σ H->g x σ H λσ2 H2=>tb {D with nx:=Pv (i+1),ct:=Pv (i+1),bk:=D.nx} σ2 H2) (hd:∀σ H,Pv xs.length σ H->D.nx σ H):
  ∃W:Nat->Nat->St->Hp->Prop,(∃m,W 0 m σ H)/\∀i m σ H,W i m σ H->
   ((VE K a).stop i H/\D.nx σ H)\/((VE K a).go i H/\∃N:St->Hp->Prop,(∀σ' H',N σ' H'->∃m',m'<m/\W (i+1) m' σ' H')/\∀x H',(VE K a).yld i H x H'->g x σ H' λσ2 H2=>tb {D with nx:=N,ct:=N,bk:=D.nx} σ2 H2):=by
 refine⟨λi m σ H=>m=xs.length-i/\i<=xs.length/\Pv i σ H,⟨xs.length,by simp,aaB _,h0⟩,?_⟩;rintro i m σ H ⟨rfl,hi,p⟩;have q:=hl i σ H hi p;by_cases NI:i<xs.length
 .refine .inr ⟨⟨xs,xs[i],q,by simp[NI]⟩,Pv (i+1),λσ' H' p'=>⟨xs.length-(i+1),by lia,rfl,NI,p'⟩,λx H' y=>?_⟩;obtain⟨e,y⟩:=y;subst e;exact hs i x σ _ (y xs q) p
 .have e:i=xs.length:=by lia
  subst e;exact .inl ⟨⟨xs,q,ZO _⟩,hd σ H p⟩
abbrev R2:=V->V->Hp->VK->Prop
def Nk(X:Cx)(f:Wp->Wp->Sem Wp)(r:R2):Prop:=
 ∀(pr:List (WP×Obj)) (s:WF) (σ:St) (H:Hp) (x y:V) (v u:Wp) (Q:VK),Inv X pr σ H s->RelV x v->RelV y u->r x y H Q->
  wpAny (model X.prog X.w) X.A (f v u) (EP X pr σ Q) X.xe s
def X0(X:Cx)(f:Wp->Sem Wp)(r:V->Hp->VK->Prop):Prop:=
 ∀(pr:List (WP×Obj)) (s:WF) (σ:St) (H:Hp) (x:V) (v:Wp) (Q:VK),Inv X pr σ H s->RelV x v->r x H Q->
  wpAny (model X.prog X.w) X.A (f v) (EP X pr σ Q) X.xe s
def dF(X:Cx)(f:Wp)(r:List V->Hp->VK->Prop):Prop:=
 ∀(pr:List (WP×Obj)) (s:WF) (σ:St) (H:Hp) (xs:List V) (us:List Wp) (Q:VK),Inv X pr σ H s->Vals xs us->r xs H Q->
  wpAny (model X.prog X.w) X.A (call f us) (EP X pr σ Q) X.xe s
def VF(r:R2)(ta tb:TE):TE:=λσ H Q=>ta σ H λx H1=>tb σ H1 λy H2=>r x y H2 Q
def tUn(r:V->Hp->VK->Prop)(ta:TE):TE:=λσ H Q=>ta σ H λx H1=>r x H1 Q
def rI(C:Int->Int->Prop)(g:Int->Int->V):R2:=λx y H Q=>∃i j,x=.int i/\y=.int j/\C i j/\Q (g i j) H
def UI(g:Int->Int->V):R2:=λx y H Q=>∃i j,x=.int i/\y=.int j/\Q (g i j) H
def rU(g:Int->V):V->Hp->VK->Prop:=λx H Q=>∃i,x=.int i/\Q (g i) H
variable{g:Int->Int->Int}{f:Wp->Wp->Sem Wp}{r:R2}
section
variable{a b:Expr}{tb tc:TE}
theorem HW(ha:PE X a ta)(hb:PE X b tb){R:V->V->Hp->Prop}(I:Inv X pr σ H s)
  (h:ta σ H λx H1=>tb σ H1 λy H2=>R x y H2) 
  (hf:∀v u s2 x y H2,Inv X pr σ H2 s2->RelV x v->RelV y u->R x y H2->wpAny (model X.prog X.w) X.A (f v u) Q X.xe s2):
  wpAny (model X.prog X.w) X.A (eval a X.env) (λv s₁=>wpAny (model X.prog X.w) X.A (eval b X.env) (λu s₂=>wpAny (model X.prog X.w) X.A (f v u) Q X.xe s₂) X.xe s₁) X.xe s:=by
 refine Mz (ha pr s σ H _ I h) λv s1 MC=>?_
 obtain⟨x,H1,I1,r1,q1⟩:=MC;refine Mz (hb pr s1 σ H1 _ I1 q1) λu s2 MC=>?_
 obtain⟨y,H2,I2,r2,q2⟩:=MC;exact hf v u s2 x y H2 I2 r1 r2 q2
theorem BP{op:Operator}(ho:Nk X (binaryOp op) r)(ha:PE X a ta)(hb:PE X b tb):PE X (.BinOp a op b pos) (VF r ta tb):=by
 intro pr s σ H Q I h;exact wpAny_BinOp (HW ha hb I h λv u s2 x y H2 I2 rx ry q=>ho pr s2 σ H2 x y v u Q I2 rx ry q)
theorem HX{op:UnaryOp}{r:V->Hp->VK->Prop}(ho:X0 X (unaryOp op) r)(ha:PE X a ta):PE X (.UnaryOp op a pos) (tUn r ta):=by
 intro pr s σ H Q I h;exact UnaryOp_ (Mz (ha pr s σ H _ I h) λv s1 ⟨x,H1,I1,r1,q1⟩=>ho pr s1 σ H1 x v Q I1 r1 q1)
theorem V3{f:Wp->Wp->Sem Wp}{C:Int->Int->Prop}
  (rule:∀(i j:Int) (t u:Tok) (s:WF) (Q:Wp->WF->Prop) (E:Wp->WF->Prop),C i j->Q (.int (g i j) s.toks) {s with toks:=s.toks+1}->wpAny (model X.prog X.w) X.A (f (.int i t) (.int j u)) Q E s):
  Nk X f (rI C λi j=>.int (g i j)):=by
 intro pr s σ H x y v u Q I rx ry h;obtain⟨i,j,rfl,rfl,hc,q⟩:=h;obtain⟨t,rfl⟩:=rx;obtain⟨t',rfl⟩:=ry;exact rule i j t t' s _ _ hc ⟨.int (g i j),H,I.tok _,⟨_,rfl⟩,q⟩
theorem J3{f:Wp->Wp->Sem Wp}
  (rule:∀(i j:Int) (t u:Tok) (s:WF) (Q:Wp->WF->Prop) (E:Wp->WF->Prop),Q (.int (g i j) s.toks) {s with toks:=s.toks+1}->wpAny (model X.prog X.w) X.A (f (.int i t) (.int j u)) Q E s):
  Nk X f (UI λi j=>.int (g i j)):=by
 intro pr s σ H x y v u Q I rx ry h;obtain⟨i,j,rfl,rfl,q⟩:=h;obtain⟨t,rfl⟩:=rx;obtain⟨t',rfl⟩:=ry;exact rule i j t t' s _ _ ⟨.int (g i j),H,I.tok _,⟨_,rfl⟩,q⟩
theorem HY{g:Int->Int->Bool}
  (rule:∀(i j:Int) (t u:Tok) (s:WF) (Q:Wp->WF->Prop) (E:Wp->WF->Prop),Q (.bool (g i j)) s->wpAny (model X.prog X.w) X.A (f (.int i t) (.int j u)) Q E s):
  Nk X f (UI λi j=>.bl (g i j)):=by
 intro pr s σ H x y v u Q I rx ry h;obtain⟨i,j,rfl,rfl,q⟩:=h;obtain⟨t,rfl⟩:=rx;obtain⟨t',rfl⟩:=ry;exact rule i j t t' s _ _ ⟨.bl (g i j),H,I,rfl,q⟩
def KD(i j:Int):Prop:=0<j/\j<1073741824
def KG(i j:Int):Prop:=0<=j/\j<=1000000/\i.natAbs<2 ^ 64
def CMul(i j:Int):Prop:=(-(2 ^ 64)<i/\i<2 ^ 64)\/(-(2 ^ 64)<j/\j<2 ^ 64)
theorem CMul.ok{i j:Int}(h:CMul i j):IntMulOk i j:=by
 rcases h with⟨h1,h2⟩|⟨h1,h2⟩
 .exact .of_left (intBits_le_64 h1 h2)
 .exact .of_right (intBits_le_64 h1 h2)
theorem EC:Nk X (binaryOp .Add) (UI λi j=>.int (i+j)):=J3 λ_ _ _ _ _ _ _ q=>add_int q
theorem ED:Nk X (binaryOp .Sub) (UI λi j=>.int (i-j)):=J3 λ_ _ _ _ _ _ _ q=>sub_int q
theorem EE:Nk X (binaryOp .Mult) (rI CMul λi j=>.int (i*j)):=V3 λ_ _ _ _ _ _ _ hc q=>mul_int q hc.ok
theorem BQ:Nk X (binaryOp .FloorDiv) (rI KD λi j=>.int (i / j)):=V3 λi j _ _ _ _ _ hc q=>by
 have h1:(0:Int)<j:=hc.1;have h2:j<1073741824:=hc.2;exact floordiv_int (by lia) (by rw[Int.fdiv_eq_ediv_of_nonneg i (by lia)];exact q) (.inl (PyProof.noPylong_small (by lia)))
theorem EF:Nk X (binaryOp .Mod) (rI (λ_ j=>0<j) λi j=>.int (i%j)):=V3 λi j _ _ _ _ _ hc q=>by
 have h1:(0:Int)<j:=hc;exact mod_int' (by lia) (by rw[Int.fmod_eq_emod_of_nonneg i (by lia)];exact q)
theorem EG:Nk X (binaryOp .Pow) (rI KG λi j=>.int (i ^ j.toNat)):=V3 λ_ _ _ _ _ _ _ hc q=>pow_int_small hc.1 hc.2.1 hc.2.2 q
theorem unI{f:Wp->Sem Wp}{g:Int->Int}
  (rule:∀(i:Int) (t:Tok) (s:WF) (Q:Wp->WF->Prop) (E:Wp->WF->Prop),Q (.int (g i) s.toks) {s with toks:=s.toks+1}->wpAny (model X.prog X.w) X.A (f (.int i t)) Q E s):
  X0 X f (rU λi=>.int (g i)):=by
 intro pr s σ H x v Q I rx h;obtain⟨i,rfl,q⟩:=h;obtain⟨t,rfl⟩:=rx;exact rule i t s _ _ ⟨.int (g i),H,I.tok _,⟨_,rfl⟩,q⟩
theorem EI:X0 X (unaryOp .USub) (rU λi=>.int (-i)):=unI λ_ _ _ _ _ q=>neg_int q
end
variable{us:List Wp}
section
variable{a b:Expr}{tb tc:TE}
theorem sH{Q:VK}{k k':Bool}(I:Inv X pr σ H s)(q:Q (.bl k) H)(e:k=k'):EP X pr σ Q (.bool k') s:=by
 subst e;exact⟨.bl k,H,I,rfl,q⟩
theorem HZ:Nk X (compareOp .Lt) (UI λi j=>.bl (decide (i<j))):=HY λ_ _ _ _ _ _ _ q=>lt_int q
theorem H0:Nk X (compareOp .LtE) (UI λi j=>.bl (decide (i<=j))):=HY λ_ _ _ _ _ _ _ q=>le_int q
theorem Ia:Nk X (compareOp .Gt) (UI λi j=>.bl (decide (j<i))):=HY λ_ _ _ _ _ _ _ q=>gt_int q
theorem vH:Nk X (compareOp .Lt) (λx y H Q=>∃i j,x=.str i/\y=.str j/\Q (.bl (decide (i.cps.toList<j.cps.toList))) H):=by
 intro pr s σ H x y v u Q I rx ry h;obtain⟨i,j,rfl,rfl,q⟩:=h;obtain⟨t,rfl⟩:=rx;obtain⟨t',rfl⟩:=ry;exact lt_str (sH I q rfl)
theorem vI:Nk X (compareOp .In) (λx y H Q=>∃i j,x=.str i/\y=.str j/\Q (.bl (!(Builtin.Str.occurrences j i 0 j.length 1).isEmpty)) H):=by
 intro pr s σ H x y v u Q I rx ry h;obtain⟨i,j,rfl,rfl,q⟩:=h;obtain⟨t,rfl⟩:=rx;obtain⟨t',rfl⟩:=ry;exact in_str (sH I q rfl)
theorem oZ:Nk X (compareOp .NotIn) (λx y H Q=>∃i j,x=.str i/\y=.str j/\Q (.bl (!(!(Builtin.Str.occurrences j i 0 j.length 1).isEmpty))) H):=by
 intro pr s σ H x y v u Q I rx ry h;obtain⟨i,j,rfl,rfl,q⟩:=h;obtain⟨t,rfl⟩:=rx;obtain⟨t',rfl⟩:=ry;exact notIn_str (sH I q rfl)
theorem aR(b:Expr){op:CmpOp}(h:op≠.In:=by decide)(h2:op≠.NotIn:=by decide):behindInMarks op b=false:=by
 have e1:(op==CmpOp.In)=false:=by cases op <;> first|rfl|exact absurd rfl h
 have e2:(op==CmpOp.NotIn)=false:=by cases op <;> first|rfl|exact absurd rfl h2
 cases b <;> simp[behindInMarks,e1,e2]
theorem vJ{op:CmpOp}(ho:Nk X (compareOp op) r)(ha:PE X a ta)(hb:PE X b tb)(hm:behindInMarks op b=false):PE X (.Compare a [op] [b] pos) (VF r ta tb):=by
 intro pr s σ H Q I h;exact wpAny_Compare1 (HW ha hb I h λv u s2 x y H2 I2 rx ry q=>ho pr s2 σ H2 x y v u Q I2 rx ry q) hm
def EJ(t:TE):TT:=λσ H Q=>t σ H λx H'=>∃k,x=.bl k/\Q k H'
theorem vK{op:CmpOp}(ho:Nk X (compareOp op) r)(ha:PE X a ta)(hb:PE X b tb)(hm:behindInMarks op b=false):PT X (.Compare a [op] [b] pos) (EJ (VF r ta tb)):=by
 intro pr s σ H Q I h;refine acp (Mz (ha pr s σ H _ I h) λv s1 ⟨x,H1,I1,r1,q1⟩=>Mz (hb pr s1 σ H1 _ I1 q1) λu s2 ⟨y,H2,I2,r2,q2⟩=>
  Mz (ho pr s2 σ H2 x y v u _ I2 r1 r2 q2) λc s3 ⟨z,H3,I3,r3,k,e,q3⟩=>?_) hm
 subst e;cases r3;exact aa6 ⟨H3,I3,q3⟩
def vL(r r':R2)(ta tb tc:TE):TE:=λσ H Q=>ta σ H λx H1=>tb σ H1 λy H2=>r x y H2 λz H3=>∃k,z=.bl k/\
 (if k=true then tc σ H3 λw' H4=>r' y w' H4 Q else Q (.bl false) H3)
theorem yG{op Q0:CmpOp}{r':R2}(ho:Nk X (compareOp op) r)(Qx:Nk X (compareOp Q0) r')(ha:PE X a ta)(hb:PE X b tb)(hc:PE X c tc)
  (hm:lastMarks [op,Q0] [b,c]=false:=by with_unfolding_all rfl):PE X (.Compare a [op,Q0] [b,c] pos) (vL r r' ta tb tc):=by
 intro pr s σ H Q I h;refine Compare_chain (Mz (ha pr s σ H _ I h) λv s1 ⟨x,H1,I1,r1,q1⟩=>chain_link (Mz (hb pr s1 σ H1 _ I1 q1) λu s2 ⟨y,H2,I2,r2,q2⟩=>
  Mz (ho pr s2 σ H2 x y v u _ I2 r1 r2 q2) λd s3 ⟨z,H3,I3,r3,k,e,q3⟩=>?_)) hm
 subst e;cases r3;refine aa6 ?_;cases k with
 |false=>exact ite_ff ⟨.bl false,H3,I3,rfl,q3⟩
 |true=>exact ite_tt (chain_last (Mz (hc pr s3 σ H3 _ I3 q3) λw' s4 ⟨z',H4,I4,r4,q4⟩=>Qx pr s4 σ H4 y z' u w' Q I4 r2 r4 q4))
theorem yH{op Q0:CmpOp}{r':R2}(ho:Nk X (compareOp op) r)(Qx:Nk X (compareOp Q0) r')(ha:PE X a ta)(hb:PE X b tb)(hc:PE X c tc)
  (hm:lastMarks [op,Q0] [b,c]=false:=by with_unfolding_all rfl):PT X (.Compare a [op,Q0] [b,c] pos) (EJ (vL r r' ta tb tc)):=by
 intro pr s σ H Q I h;refine isTrue_chain (Mz (ha pr s σ H _ I h) λv s1 ⟨x,H1,I1,r1,q1⟩=>test_link (Mz (hb pr s1 σ H1 _ I1 q1) λu s2 ⟨y,H2,I2,r2,q2⟩=>
  Mz (ho pr s2 σ H2 x y v u _ I2 r1 r2 q2) λd s3 ⟨z,H3,I3,r3,k,e,q3⟩=>?_)) hm
 subst e;cases r3;refine aa6 ?_;cases k with
 |false=>
  obtain⟨k',e',q'⟩:=q3;cases e';exact ite_ff ⟨H3,I3,q'⟩
 |true=>
  refine ite_tt (test_last (Mz (hc pr s3 σ H3 _ I3 q3) λw' s4 ⟨z',H4,I4,r4,q4⟩=>Mz (Qx pr s4 σ H4 y z' u w' _ I4 r2 r4 q4) λd' s5 MC=>?_));obtain⟨z2,H5,I5,r5,k2,e2,q5⟩:=MC;subst e2;cases r5;exact aa6 ⟨H5,I5,q5⟩
theorem o3:(sizeLine:Nat)<2 ^ 63:=by rw[abI];decide
theorem mP:Nk X (binaryOp .Add) (λx y H Q=>∃i j,x=.str i/\y=.str j/\i.length+j.length<=sizeLine/\Q (.str (i++j)) H):=by
 intro pr s σ H x y v u Q I rx ry h;obtain⟨i,j,rfl,rfl,hz,q⟩:=h;obtain⟨t,rfl⟩:=rx;obtain⟨t',rfl⟩:=ry;exact add_str (λt' tk=>⟨.str (i++j),H,I.tok _,⟨_,rfl⟩,q⟩) hz
theorem fV{x:V}(r:Vals [x] us):∃u,us=[u]/\RelV x u:=by
 cases r with
 |cons r1 r2=>cases r2;exact⟨_,rfl,r1⟩
theorem uI{x y:V}(r:Vals [x,y] us):∃u w',us=[u,w']/\RelV x u/\RelV y w':=by
 cases r with
 |cons r1 r2=>
  cases r2 with
  |cons r3 r4=>cases r4;exact⟨_,_,rfl,r1,r3⟩
end
variable{C:WP}
section
variable{prog:W1}{x dx f:WP}{mA:Str->Option Wp}{name:Str}{v:Wp}
end
theorem RelO.none_of{o:Option Wp}(r:RelO none o):o=none:=by
 cases o with
 |none=>rfl
 |some u=>exact(show False from r).elim
section
variable{dx:WP}{fs fs':List (Str×V)}
end
structure Cls(K:W.Frag)(C:WP):Prop where
 pg:PySem.W.plainGet K C Str.empty=true
 hd:PySem.W.hasDictIn K C=true
 po:PySem.W.plainOver K C=true
 sa:PySem.W.findIn K (.ref C) "__setattr__" = some (some (.builtin "object.__setattr__"))
theorem Cls.get(c:Cls K C)(f:Str):PySem.W.plainGet K C f=true:=c.pg
section
variable{dx:WP}{fs:List (Str×V)}{f:Str}
end
section
variable{o value:Expr}{f:Str}{pos' UJ:Pos}{tv:TE}
end
section
variable{c:Wp}{b:Bool}
end
structure Room(k:Nat)(A:Uf):Prop where
 hd:A.handled=none
 dp:A.depth+3*k+5<recursionLimit
 un:A.units+16*k+200<cLine
theorem Room.mono{j k:Nat}(r:Room k A)(h:j<=k):Room j A:=⟨r.hd,by have:=r.dp;lia,by have:=r.un;lia⟩
theorem Room.m{j k:Nat}(r:Room k A)(h:j<=k:=by decide):Room j A:=r.mono h
theorem Room.deeper{k:Nat}{A:Uf}(r:Room (k+1) A)(env:Env):Room k (A.deeper env):=
 ⟨r.hd,by have:=r.dp;show A.depth+1+3*k+5<_;lia,by have:=r.un;show A.units+3+16*k+200<_;lia⟩
theorem Room.depth{k:Nat}{A:Uf}(r:Room k A):A.depth<recursionLimit:=by have:=r.dp;lia
theorem Room.units{k:Nat}{A:Uf}(r:Room k A):A.units+64<cLine:=by have:=r.un;lia
theorem Room.units0{k:Nat}(r:Room k A):A.units<cLine:=by have:=r.un;lia
def Hz:TA:=λ_ H Q=>Q [] H
def yI(ta:TE)(tr:TA):TA:=λσ H Q=>ta σ H λx H1=>tr σ H1 λxs H2=>Q (x::xs) H2
section
variable{t:TA}
theorem gO:PA X [] Hz:=λ_ _ _ _ H Q I h=>Calls.spliced_nil ⟨[],H,I,.nil,h⟩
theorem di(ha:PE X e te)(hr:PA X es t)(hs:starEach (e::es) X.env=(false,eval e X.env)::starEach es X.env:=by rfl):PA X (e::es) (yI te t):=by
 intro pos pr s σ H Q I h;rw[hs];show wpAny _ _ (spliced ((false,eval e X.env)::backTo pos (starEach es X.env))) _ _ s;refine ab8 (Mz (ha pr s σ H _ I h) λu s1 MC=>?_);obtain⟨x,H1,I1,r1,q1⟩:=MC;exact Mz (hr pos pr s1 σ H1 _ I1 q1) λus s2 ⟨xs,H2,I2,r2,q2⟩=>⟨x::xs,H2,I2,.cons r1 r2,q2⟩
def KH(t:TA):TE:=λσ H Q=>t σ H λxs H1=>xs.length<=sizeLine/\∀p,H1 p=none->Q (.ref p) (upd H1 p (.tup xs))
def KI(t:TA):TE:=λσ H Q=>t σ H λxs H1=>xs.length<=sizeLine/\∀p,H1 p=none->Q (.ref p) (upd H1 p (.lst xs))
theorem AB{x1}(h:PA X es t):PE X (.Tuple es x1 pos) (KH t):=by
 intro pr s σ H Q I hq;refine wpAny_Tuple_spliced (Mz (h pos pr s σ H _ I hq) λus s1 ⟨xs,H1,I1,r,z,q⟩=>⟨by rw[<-r.length];exact z,?_⟩);have hf:H1 s1.heap.objs.size=none:=I1.hok.fresh (ZO _);refine⟨.ref s1.heap.objs.size,upd H1 s1.heap.objs.size (.tup xs),I1.laid (t':=s1.toks) (λb u e=>ZL _ e) (ZO _) ?_,rfl,q _ hf⟩;exact⟨z,us,r,⟨_,Z0 _ rfl,rfl,⟨_,rfl⟩,rfl⟩⟩
theorem AD(h:PA X es t):PE X (.List es pos) (KI t):=by
 intro pr s σ H Q I hq;refine wpAny_List_spliced (Mz (h pos pr s σ H _ I hq) λus s1 ⟨xs,H1,I1,r,z,q⟩=>⟨by rw[<-r.length];exact z,?_⟩);have hf:H1 s1.heap.objs.size=none:=I1.hok.fresh (ZO _);refine⟨.ref s1.heap.objs.size,upd H1 s1.heap.objs.size (.lst xs),I1.laid (t':=s1.toks) (λb u e=>ZL _ e) (ZO _) ?_,rfl,q _ hf⟩;exact⟨z,us,0,r,Z0 _ rfl⟩
end
abbrev Sp:=List V->Hp->VK->XK->Prop
abbrev Sg:=List Env->Hp->WF->XK->Wp->WF->Prop
structure Env0(P:W1)(w:World)(K:W.Frag)(mg:Str->Option Wp)(base:UF)(A:Uf)(outer:List Env)(s:WF)(H:Hp):Prop where
 frames:A.frames=some outer
 mod:Mod K mg base
 bs:∀b o,base.get? b=some o->s.heap.get? b=some o/\H b=none
 bsz:base.objs.size<=s.heap.objs.size
 funs:s.heap.FunFrames base outer
 frf:∀b∈Na outer,H b=none
 hok:HOk P w H s.heap
 bare:AllBare s.gens
def CE(outer:List Env)(P:W1)(w:World)(H:Hp)(s:WF)(Q:VK)(u:Wp)(s':WF):Prop:=
 ∃v H',s'.os=s.os/\AllBare s'.gens/\Un (Na outer) [] H H' s.heap s'.heap/\HOk P w H' s'.heap/\RelV v u/\Q v H'
def CR(CX:Sg)(outer:List Env)(P:W1)(w:World)(H:Hp)(s:WF)(Q:VK)(E:XK)(r:Result)(s':WF):Prop:=
 match r with
 | .ok (.ret u)=>CE outer P w H s Q u s'
 | .ok _=>False
 | .error e=>CX outer H s E e s'
structure FnOk(P:W1)(w:World)(K:W.Frag)(mg:Str->Option Wp)(base:UF)(CX:Sg)(k:Nat)(f:WP)(fd:FuncData)(ps:List Str)(sp:Sp):Prop where
 len:∀vs H Q E,sp vs H Q E->vs.length=ps.length
 run:∀(A:Uf) (outer:List Env) (s:WF) (H:Hp) (args:Args) (us:List Wp) (vs:List V) (Q:VK) (E:XK),Room k A->Env0 P w K mg base A outer s H->BindsTo s fd args (ps.zip us)->Vals vs us->sp vs H Q E->
  codeAny (model P w) A (.call (.ref f) args) (CR CX outer P w H s Q E) s
variable{mg:Str->Option Wp}{base:UF}{CX:Sg}{fd:FuncData}{ps:List Str}{sp:Sp}
theorem FnOk.imp{k:Nat}{f:WP}{Y8:Sp}(F:FnOk P w K mg base CX k f fd ps sp)
  (h:∀vs H Q E,Y8 vs H Q E->sp vs H Q E):FnOk P w K mg base CX k f fd ps Y8:=
 ⟨λvs H Q E q=>F.len vs H Q E (h _ _ _ _ q),λA outer s H args us vs Q E hr he hb hv hs=>F.run A outer s H args us vs Q E hr he hb hv (h _ _ _ _ hs)⟩
section
theorem Inv.env0(I:Inv X pr σ H s):Env0 X.prog X.w X.K X.mg X.base X.A X.stack s H:=
 ⟨I.ok.frames,I.ok.mod,I.bs,aaP I.ok.bsz I.sz,I.stack,I.stkFree,I.hok,I.bare⟩
theorem Inv.after{Q:VK}(I:Inv X pr σ H s)(h:CE X.stack X.prog X.w H s Q u s'):EP X pr σ Q u s':=by
 obtain⟨v,H',os,bare,un,hok,r,q⟩:=h;obtain⟨hh,g,d,t,os'⟩:=s';obtain rfl:os'=s.os:=os;exact⟨v,H',I.call (h':=hh) (g':=g) (d':=d) (t':=t) (ch:=[]) un hok bare (λb z=>absurd z (by simp)),r,q⟩
end
def tCall(sp:Sp)(Uq:List V)(E:XK)(t:TA):TE:=λσ H Q=>t σ H λvs H1=>sp (vs++Uq) H1 Q E
def Binds(K:W.Frag)(fd:FuncData)(ps:List Str)(ds:List Wp):Prop:=
 ∀(s:WF) (us:List Wp),K.In s.heap->(us++ds).length=ps.length->BindsTo s fd ⟨us,[]⟩ (ps.zip (us++ds))
theorem Binds.all(h:∀us:List Wp,us.length=ps.length->bindArgs fd ⟨us,[]⟩=pure (ps.zip us)):Binds K fd ps []:=λs us _ hl=>by
 rw[aak]at hl |-;exact .of_eq (h us hl)
def vM(CX:Sg)(X:Cx)(E:XK):Prop:=∀(pr:List (WP×Obj)) (σ:St) (H:Hp) (s:WF) (e:Wp) (s':WF),Inv X pr σ H s->CX X.stack H s E e s'->X.xe e s'
variable{p:Pos}{vs:List V}
section
variable{k:Nat}{f:WP}{Uq:List V}{ds:List Wp}{E:XK}{m:Str}{apos:Pos}{o:Expr}{t:TA}
theorem EK{Q:VK}(F:FnOk X.prog X.w X.K X.mg X.base CX k f fd ps sp)(hr:Room k X.A)(hb:Binds X.K fd ps ds)(hd:Vals Uq ds)(hx:vM CX X E)
  (I:Inv X pr σ H s) (r:Vals vs us) (h:sp (vs++Uq) H Q E):wpAny (model X.prog X.w) X.A (call (.ref f) us) (EP X pr σ Q) X.xe s:=by
 have r2:Vals (vs++Uq) (us++ds):=r.append hd;have hl:(us++ds).length=ps.length:=by rw[<-r2.length];exact F.len _ _ _ _ h
 refine wpAny_call (acW (F.run X.A X.stack s H ⟨us,[]⟩ (us++ds) (vs++Uq) Q E hr I.env0 (hb s us I.kIn hl) r2 h) λr s' hq=>?_);cases r with
 |error e=>exact hx pr σ H s e s' I hq
 |ok fl=>
  cases fl with
  |ret u=>exact I.after hq
  |next=>exact False.elim hq
  |brk=>exact False.elim hq
  |cont=>exact False.elim hq
theorem BR(F:FnOk X.prog X.w X.K X.mg X.base CX k f fd ps sp)(hr:Room k X.A)(hg:Gl X x)(hm:X.mg x=some (.ref f))(hk:PySem.W.keepIn X.K (.ref f)=true)(hb:Binds X.K fd ps ds)(hd:Vals Uq ds)(hx:vM CX X E)
  (ha:PA X (e::es) t) (NJ:(x==("__debug__" : Str))=false:=by decide) (he:starEach (e::es) X.env=(false,eval e X.env)::starEach es X.env:=by rfl) (Nu:(backTo pos (starEach es X.env)).any (·.1)=false:=by rfl):
  PE X (.Call (.Name x p) (e::es) [] pos) (tCall sp Uq E t):=by
 intro pr s σ H Q I h;refine aaV (k8 I hg hm ?_ NJ);refine PySem.W.callWith_K (h₀:=X.base) I.ok.mod.kin hk (Mz (ha pos pr s σ H _ I h) λus s1 ⟨vs,H1,I1,r,q⟩=>⟨I1.kIn,?_⟩) he Nu;exact EK F hr hb hd hx I1 r q
end
def PK(X:Cx)(V4:List Keyword)(t:TA):Prop:=
 ∀(pos:Pos) (pr:List (WP×Obj)) (s:WF) (σ:St) (H:Hp) (Q:List V->Hp->Prop),Inv X pr σ H s->t σ H Q->wpAny (model X.prog X.w) X.A (evalAll ((backToKw pos (keywordEach V4 X.env)).map (·.2))) (AP X pr σ Q) X.xe s
section
variable{k:Nat}{f:WP}{ks:List Str}{E:XK}{m:Str}{apos Sh:Pos}{o:Expr}{V4:List Keyword}{t tk:TA}{nm:Option Str}
theorem EL:PK X [] Hz:=λ_ _ _ _ H Q I h=>wpAny_evalAll_nil ⟨[],H,I,.nil,h⟩
theorem BS(ha:PE X e te)(hr:PK X V4 t):PK X (⟨nm,e,Sh⟩::V4) (yI te t):=by
 intro pos pr s σ H Q I h;show wpAny _ _ (evalAll ((do let v <-eval e X.env;standAt pos;pure v)::(backToKw pos (keywordEach V4 X.env)).map (·.2))) _ _ s;refine wpAny_evalAll_cons (ZH (Mz (ha pr s σ H _ I h) λu s1 ⟨x,H1,I1,r1,q1⟩=>ZH (ab9 (ZM ?_))));exact Mz (hr pos pr s1 σ H1 _ I1 q1) λus s2 ⟨xs,H2,I2,r2,q2⟩=>⟨x::xs,H2,I2,.cons r1 r2,q2⟩
variable{g:List Wp->List Wp->List Wp}{gV:List V->List V->List V}
end
structure FnScope(N P:List Str)(sc:Scope):Prop where
 kind:sc.kind=.function
 co:sc.isCoroutine=false
 gen:sc.isGenerator=false
 nd:N.Nodup
 pre:N.take P.length=P
 par:∀x∈P,sc.names.lookup x=some .local\/sc.names.lookup x=some .cell
 nofree:∀y∈sc.names,y.2≠.free
theorem fs{N P:List Str}(a:sc.kind=.function:=by rfl)(b:sc.isCoroutine=false:=by rfl)(c:sc.isGenerator=false:=by rfl)(d:N.Nodup:=by decide +kernel)(e:N.take P.length=P:=by rfl)(f:∀x∈P,sc.names.lookup x=some .local\/sc.names.lookup x=some .cell:=by decide +kernel)(g:∀y∈sc.names,y.2≠.free:=by decide +kernel):FnScope N P sc:=⟨a,b,c,d,e,f,g⟩
theorem o4{kindOf:Str->Option NameKind}{x:Str}:∀{binds:List (Str×Wp)}{m:Str->Option Wp},(∀v,(x,v)∉binds)->bindL kindOf binds m x=m x
 |[],_,_=>rfl
 |(n,v)::r,m,h=>by
  unfold bindL;rw[o4 λw hw=>h w (ZN _ hw)];split
  .have:x≠n:=by rintro rfl;exact h v ZI
   simp[this]
  .rfl
theorem o5{kindOf:Str->Option NameKind}{x:Str}:∀{binds:List (Str×Wp)}{m:Str->Option Wp},(∀v,(x,v)∉binds)->bindC kindOf binds m x=m x
 |[],_,_=>rfl
 |(n,v)::r,m,h=>by
  unfold bindC;rw[o5 λw hw=>h w (ZN _ hw)];split
  .rfl
  .have:x≠n:=by rintro rfl;exact h v ZI
   simp[this]
theorem o6{kindOf:Str->Option NameKind}{x:Str}{v:Wp}:∀{P:List Str}{vs:List Wp}{i:Nat}{m:Str->Option Wp},P.Nodup->P[i]?=some x->vs[i]?=some v->kindOf x=some .local->
  bindL kindOf (P.zip vs) m x=some v
 |[],_,_,_,_,h,_,_=>by simp at h
 |_::_,[],_,_,_,_,h,_=>by simp at h
 |p::P,w::vs,0,m,nd,h1,h2,hk=>by
  simp at h1 h2;subst h1;subst h2;show bindL kindOf ((p,w)::P.zip vs) m p=_;unfold bindL;rw[o4 λv hv=>(aas.mp nd).1 (adF hv).1,ZY hk];simp
 |p::P,w::vs,i+1,m,nd,h1,h2,hk=>by
  show bindL kindOf ((p,w)::P.zip vs) m x=_;unfold bindL;exact o6 (i:=i) (aas.mp nd).2 (by simpa using h1) (by simpa using h2) hk
theorem o7{kindOf:Str->Option NameKind}{x:Str}{v:Wp}:∀{P:List Str}{vs:List Wp}{i:Nat}{m:Str->Option Wp},P.Nodup->P[i]?=some x->vs[i]?=some v->kindOf x≠some .local->
  bindC kindOf (P.zip vs) m x=some v
 |[],_,_,_,_,h,_,_=>by simp at h
 |_::_,[],_,_,_,_,h,_=>by simp at h
 |p::P,w::vs,0,m,nd,h1,h2,hk=>by
  simp at h1 h2;subst h1;subst h2;show bindC kindOf ((p,w)::P.zip vs) m p=_;unfold bindC;rw[o5 λv hv=>(aas.mp nd).1 (adF hv).1,Z6 hk];simp
 |p::P,w::vs,i+1,m,nd,h1,h2,hk=>by
  show bindC kindOf ((p,w)::P.zip vs) m x=_;unfold bindC;exact o7 (i:=i) (aas.mp nd).2 (by simpa using h1) (by simpa using h2) hk
def start(N:List Str)(vs:List V):St:=vs.map some++List.replicate (N.length-vs.length) none
def qP(CX:Sg)(P:W1)(w:World)(K:W.Frag)(mg:Str->Option Wp)(base:UF)(N:List Str)(qual:Str)(scope:Scope)(f:WP)(cd:Wp)(A:Uf)(outer:List Env)(s:WF)(H:Hp)(E:XK):Cx where
 prog:=P
 w:=w
 K:=K
 mg:=mg
 base:=base
 A:=A.deeper (envOfC qual scope s.heap.objs.size f cd)
 N:=N
 s₀:=s
 H₀:=H
 env:=envOfC qual scope s.heap.objs.size f cd
 outer:=outer
 stack:=envOfC qual scope s.heap.objs.size f cd::outer
 ex:=[]
 calm:=true
 fn:=λ_=>true
 pn:=[]
 xe:=λe s'=>wpAny (model P w) (A.deeper (envOfC qual scope s.heap.objs.size f cd)) (leaving (envOfC qual scope s.heap.objs.size f cd) e) (λ_ X1=>CX outer H s E e X1) (λe' X1=>CX outer H s E e' X1) s'
theorem sI(h:sc.names.lookup x=some .cell):∃c,(cellsFrom n sc.names []).lookup x=some c:=by
 have q:=adw sc.names n [] (.inl h);exact aa7.mp q
variable{qual:Str}{scope:Scope}
theorem vN{f:WP}{cd:Wp}{outer:List Env}{s1:WF}{E:XK}
  (S:FnScope N ps scope) (hd:A.handled=none) (e0:Env0 P w K mg base A outer s H) (hl:vs.length=ps.length) (r:Vals vs us)
  (x:InCallC s s.heap.objs.size (bindL (envOfC qual scope s.heap.objs.size f cd).kindOf (ps.zip us) λ_=>none) (cellsFrom (s.heap.objs.size+1) scope.names []) (bindC (envOfC qual scope s.heap.objs.size f cd).kindOf (ps.zip us) λ_=>none) s1):
  Inv (qP CX P w K mg base N qual scope f cd A outer s H E) [] (start N vs) H s1:=by
 have Nu:ps.length<=N.length:=by have:=abB List.length S.pre;rw[Z8]at this;lia
 obtain⟨h1,tk,rfl,hk⟩:=x.done;have V5:∀b:WP,b∉(qP CX P w K mg base N qual scope f cd A outer s H E).ex:=λb z=>absurd (show b∈([]:List WP) from z) (by simp)
 refine⟨⟨e0.mod,S.kind,rfl,rfl,ZO _,λy z c h1 h2=>?_,λy hy=>?_,λy c _ h=>?_,λ_=>hd,Around.frames_deeper e0.frames,.inr ⟨rfl,rfl⟩,λb z=>absurd z (V5 b),e0.bs,e0.bsz,λb _ _=>V5 b,λb z=>absurd z (V5 b),e0.funs,e0.frf⟩,
  rfl,e0.bare,Un.kept hk,⟨_,x.toInCall.ns,λi y v h1 h2 h3=>?_⟩,λy c h=>⟨_,x.cell y c h⟩,e0.hok.fresh (ZO _),λy c h=>?_,λp hp=>absurd (show p∈([]:List (WP×Obj)) from hp) (by simp),e0.hok.kept hk,?_⟩
 .exact name_of_addr x.apart (abw h1) (abw h2)
 .have hy:scope.names.lookup y=some .cell\/scope.names.lookup y=some .free:=hy;rcases hy with hy|hy
  .exact sI hy
  .exact absurd rfl (S.nofree _ (abw hy))
 .exact adD (x.above y c (abw h))
 .have hi:i<vs.length:=by
   unfold start at h2;by_cases hi:i<vs.length
   .exact hi
   .rw[aaM (by simpa using hi)]at h2;rw[List.getElem?_replicate]at h2;split at h2 <;> cases h2
  have ha:vs[i]?=some v:=by
   unfold start at h2;rw[abJ (by simpa using hi),Z9]at h2;cases e:vs[i]? with
   |none=>rw[e]at h2;cases h2
   |some a=>rw[e]at h2;cases h2;rfl
  obtain⟨u,hu,rv⟩:=r.get ha;have hp:ps[i]?=some y:=by
   rw[<-S.pre,List.getElem?_take_of_lt (by lia)];exact h1
  have Y9:ps.Nodup:=by rw[<-S.pre];exact S.nd.sublist (List.take_sublist _ _)
  refine⟨u,rv,?_⟩;rcases S.par y (aaA hp) with k|k
  .exact .inl ⟨k,o6 Y9 hp hu k⟩
  .obtain⟨c,e⟩:=sI (n:=s.heap.objs.size+1) k;refine .inr ⟨.inl k,c,e,?_⟩;have q:=x.cell y c e;rw[o7 Y9 hp hu (by show scope.names.lookup y≠_;rw[k];decide)]at q;exact q
 .exact e0.hok.fresh (adD (x.above y c (abw h)))
 .unfold start;show _=N.length;rw[aau,ZT,abD];lia
theorem EM{k:Nat}{f:WP}{name:Str}{params:Arguments}{dV kV doc pm MA ct oc:Wp}{an od:Option WP}
  {SD:Array (Option Wp)}(lk:K.lookup f=some ⟨oc,od,.func (PySem.W.fnOf name qual params body scope dV kV doc pm an MA ct),SD⟩) (Q3:PySem.W.codeIn K MA qual=true) (S:FnScope N ps scope)
  (len:∀vs H Q E,sp vs H Q E->vs.length=ps.length)
  (Q5:∀(A:Uf) (outer:List Env) (s:WF) (H:Hp) (vs:List V) (Q:VK) (E:XK),Room k (A.deeper (envOfC qual scope s.heap.objs.size f MA))->sp vs H Q E->
   ∃t,PSs (qP CX P w K mg base N qual scope f MA A outer s H E) body t/\t {nx:=λ_ H'=>Q .non H',rt:=Q} (start N vs) H):
  FnOk P w K mg base CX (k+1) f (PySem.W.fnOf name qual params body scope dV kV doc pm an MA ct) ps sp:=by
 refine⟨len,λA outer s H args us vs Q E hr e0 hb r Ti=>?_⟩;have hl:=len _ _ _ _ Ti;have KX:K.In s.heap:=e0.mod.kin.keeps λb o e=>(e0.bs b o e).1
 have lim:s.heap.NoLimit:=e0.mod.nolimit.keeps λb o e=>(e0.bs b o e).1
 have PB:∀y∈ps.zip us,scope.names.lookup y.1=some .local\/(scope.names.lookup y.1=some .cell/\((cellsFrom (s.heap.objs.size+1) scope.names []).lookup y.1).isSome=true):=λMh hy=>by
  obtain⟨n,v⟩:=Mh;rcases S.par n (adF hy).1 with q|q
  .exact .inl q
  .exact .inr ⟨q,adw _ _ _ (.inl q)⟩
 refine codeAny_call_function hr.depth (KX _ _ lk) rfl S.co S.gen rfl (PySem.W.codeRec_of KX Q3) (hb _ _ _ _ ?_);refine wpAny_newFunctionEnv_cells S.kind PB λenv he s1 x=>?_
 subst he;refine⟨lim.keeps x.toInCall.keep,codeAny_func ?_⟩;obtain⟨t,ht,hq⟩:=Q5 A outer s H vs Q E (hr.deeper _) Ti;have I:Inv (qP CX P w K mg base N qual scope f MA A outer s H E) [] (start N vs) H s1:=vN S hr.hd e0 hl r x;refine aaf (ht [] s1 (start N vs) H _ I hq) (λfl s' hs=>?_) λe s' hs=>hs
 have fin:∀{σ':St}{H':Hp}{v:V}{u:Wp},Inv (qP CX P w K mg base N qual scope f MA A outer s H E) [] σ' H' s'->RelV v u->Q v H'->CE outer P w H s Q u s':=
  λ{σ' H' v u} J rv q=>⟨v,H',J.os,J.bare,J.base,J.hok,rv,q⟩
 cases fl with
 |ret u=>
  obtain⟨v,σ',H',J,rv,q⟩:=hs;exact fin J rv q
 |next=>
  obtain⟨σ',H',J,q⟩:=hs;exact fin (v:=V.non) (u:=Value.none) J rfl q
 |brk=>
  obtain⟨_,_,_,q⟩:=hs;exact False.elim q
 |cont=>
  obtain⟨_,_,_,q⟩:=hs;exact False.elim q
section
variable{t:TA}{id T:String}{r:List V->Hp->VK->Prop}
def X2(r:List V->Hp->VK->Prop)(t:TA):TE:=λσ H Q=>t σ H λvs H1=>r vs H1 Q
theorem kQ(hc:dF X (.builtin id) r)(hg:Gl X x)(hm:X.mg x=none)(hv:bootBuiltins x=some (.builtin id))(ha:PA X (e::es) t)(hn:x≠"__name__":=by decide)(NJ:(x==("__debug__" : Str))=false:=by decide)
  (he:starEach (e::es) X.env=(false,eval e X.env)::starEach es X.env:=by rfl) (Nu:(backTo pos (starEach es X.env)).any (·.1)=false:=by rfl):PE X (.Call (.Name x p) (e::es) [] pos) (X2 r t):=by
 intro pr s σ H Q I h;refine aaV (iz I hg hm hv ?_ hn NJ);exact abM (Mz (ha pos pr s σ H _ I h) λus s1 ⟨vs,H1,I1,r1,q1⟩=>hc pr s1 σ H1 vs us Q I1 r1 q1) he Nu
theorem pb(hc:dF X (.type T) r)(hg:Gl X x)(hm:X.mg x=none)(hv:bootBuiltins x=some (.type T))(ha:PA X (e::es) t)(hn:x≠"__name__":=by decide)(NJ:(x==("__debug__" : Str))=false:=by decide)
  (he:starEach (e::es) X.env=(false,eval e X.env)::starEach es X.env:=by rfl) (Nu:(backTo pos (starEach es X.env)).any (·.1)=false:=by rfl):PE X (.Call (.Name x p) (e::es) [] pos) (X2 r t):=by
 intro pr s σ H Q I h;refine aaV (iz I hg hm hv ?_ hn NJ);exact abb (Mz (ha pos pr s σ H _ I h) λus s1 ⟨vs,H1,I1,r1,q1⟩=>hc pr s1 σ H1 vs us Q I1 r1 q1) he Nu
end
end L2
namespace HT
open PySem PyProof.Rows
section
open PySem.SeqAt
open PySem.AutoSeq1 (wpAny_loadPart')
open PySem.MeetsSeq PySem.MeetsSeq2 PySem.MeetsSeq3
end
section
variable{prog:W1}{w:World}{A:Uf}{E:Wp->WF->Prop}{s:WF}
theorem BU{t b:WP}{vs ws:List Wp}{Q:Wp->WF->Prop}(ht:IsTup s.heap t vs.toArray)(hb:IsTup s.heap b ws.toArray)(hv:vs≠[])
  (h1:ws=[]->Q (.ref t) s) (h2:ws≠[]->Q (.ref s.heap.objs.size) {s with heap:=s.heap.push {cls:=.type "tuple",data:=.seq (vs++ws).toArray}})
  (hsz:vs.length+ws.length<=sizeLine):wpAny (model prog w) A (binaryOp .Add (.ref t) (.ref b)) Q E s:=by
 obtain⟨⟨cls,dd,data,sl⟩,ho,hc,n,hd⟩:=id ht;obtain⟨⟨UK,Tj,data2,Tn⟩,Q6,Si,n2,hd2⟩:=id hb;simp only at hc hd Si hd2;subst hc hd Si hd2;have e:vs.toArray++ws.toArray=(vs++ws).toArray:=by simp
 by_cases hw:ws=[]
 .exact adG ⟨_,ho,rfl⟩ ⟨_,Q6,rfl⟩ ads seq_tuple_add acg aca (ab4 _ _)
   (tuple_addW1 t b vs.toArray ws.toArray n n2 dd Tj sl Tn (by simpa using hv) (by simp[hw])) ⟨ho,Q6,h1 hw⟩
 .refine adG ⟨_,ho,rfl⟩ ⟨_,Q6,rfl⟩ ads seq_tuple_add acg aca (ab4 _ _)
   (tuple_addW2 t b vs.toArray ws.toArray n n2 dd Tj sl Tn (by simpa using hv) (by simpa using hw) (by rw[ZZ,ZZ];exact hsz)) ⟨ho,Q6,?_⟩
  rw[e];exact h2 hw
def sIx(n d:Nat):Option Int->Nat
 |none=>d
 |some v=>if v<0 then(v+(n:Int)).toNat else min v.toNat n
theorem nM(n d:Nat):sIx n d none=d:=rfl
theorem k9(n d k:Nat):sIx n d (some (k:Int))=min k n:=by
 show(if(k:Int)<0 then((k:Int)+(n:Int)).toNat else min (k:Int).toNat n)=min k n;rw[Z6 (by lia),abj]
theorem vO(n d:Nat)(hd:d<=n)(o:Option Int):sIx n d o<=n:=by
 cases o with
 |none=>exact hd
 |some v=>
  show(if v<0 then(v+(n:Int)).toNat else min v.toNat n)<=n;by_cases hv:v<0
  .rw[ZY hv];lia
  .rw[Z6 hv];exact Nat.min_le_right _ _
theorem vP(v:Int)(n d:Nat):(if v<0 then max (v+(n:Int)) 0 else min v (n:Int))=((sIx n d (some v):Nat):Int):=by
 show(if v<0 then max (v+(n:Int)) 0 else min v (n:Int))=(((if v<0 then(v+(n:Int)).toNat else min v.toNat n):Nat):Int)
 by_cases hv:v<0
 .simp![ZY hv];lia
 .simp![Z6 hv];lia
theorem uJ(lo hi:Option Int)(n:Nat):Builtin.Slice.sliceAdjust lo hi 1 (n:Int)=(((sIx n 0 lo:Nat):Int),((sIx n n hi:Nat):Int)):=by
 have h1:¬ ((1:Int)<0):=by lia
 unfold Builtin.Slice.sliceAdjust;simp![h1,acX];refine Prod.ext ?_ ?_
 .cases lo with
  |none=>rfl
  |some v=>exact vP v n 0
 .cases hi with
  |none=>rfl
  |some v=>exact vP v n n
theorem uK(i j:Nat):Builtin.Slice.slicePlaces (i:Int) (j:Int) 1=j-i:=by
 unfold Builtin.Slice.slicePlaces;have h1:(1:Int)>0:=by lia
 simp![h1,acz,Int.ediv_one];split <;> lia
theorem mQ{v:Wp}{o:Option Int}{Q:Option Int->WF->Prop}(p:IsPart v o)(h:Q o s):wpAny (model prog w) A (Builtin.Slice.slicePartIndex v) Q E s:=by
 cases p with
 |none=>exact slicePart_none h
 |int i t=>exact slicePart_int h
theorem gP{sl:WP}{vl vu:Wp}{lo hi:Option Int}{n:Nat}{Q:Int×Int×Nat->WF->Prop}(hs:s.heap.IsSliceOf sl vl vu .none)(pl:IsPart vl lo)(pu:IsPart vu hi)
  (h:Q (((sIx n 0 lo:Nat):Int),1,sIx n n hi-sIx n 0 lo) s):wpAny (model prog w) A (Builtin.Slice.sliceApplied (.ref sl) (pure (n:Int))) Q E s:=by
 obtain⟨os,TB,Xo,To⟩:=id hs;unfold Builtin.Slice.sliceApplied Builtin.Slice.sliceFields;refine ZH (ZH (aaT TB To (x:=vl) rfl (ZH (aaT TB To (x:=vu) rfl (ZH (aaT TB To (x:=.none) rfl (ZM ?_)))))));refine ZH (slicePart_none ?_);show wpAny _ _ (if((1:Int)==0)=true then _ else _) _ _ s;rw[Z6 (by decide)];refine ZH (mQ pl (ZH (mQ pu (ZH (ZM ?_)))));show wpAny _ _ (match Builtin.Slice.sliceAdjust lo hi 1 (n:Int) with|(lo,hi)=>pure (lo,(1:Int),Builtin.Slice.slicePlaces lo hi 1)) _ _ s;rw[uJ lo hi n];show wpAny _ _ (pure (((sIx n 0 lo:Nat):Int),(1:Int),Builtin.Slice.slicePlaces ((sIx n 0 lo:Nat):Int) ((sIx n n hi:Nat):Int) 1)) _ _ s;rw[uK];exact ZM h
theorem yJ(xs:Array Wp)(i k:Nat):((List.range k).filterMap λ(m:Nat)=>xs[((i:Int)+(m:Int)*1).toNat]?).toArray=((xs.toList.drop i).take k).toArray:=by
 have e:(λ(m:Nat)=>xs[((i:Int)+(m:Int)*1).toNat]?)=λm=>xs[i+m]?:=by
  funext m
  have:((i:Int)+(m:Int)*1).toNat=i+m:=by lia
  rw[this]
 rw[e];have:=pick_run xs i k;rw[List.filterMap_map]at this;have e2:((λx=>xs[x]?)∘λx=>i+x)=λm=>xs[i+m]?:=rfl
 rw[e2]at this;rw[this]
theorem jN{t sl:WP}{items:Array Wp}{vl vu:Wp}{lo hi:Option Int}{Q:Wp->WF->Prop}(ht:IsTup s.heap t items)(hs:s.heap.IsSliceOf sl vl vu .none)(pl:IsPart vl lo)(pu:IsPart vu hi)
  (hw:¬ (sIx items.size 0 lo=0/\sIx items.size items.size hi=items.size))
  (h:Q (.ref s.heap.objs.size) {s with heap:=s.heap.push {cls:=.type "tuple",data:=.seq ((items.toList.drop (sIx items.size 0 lo)).take (sIx items.size items.size hi-sIx items.size 0 lo)).toArray}})
  (hsz:items.size<=sizeLine):wpAny (model prog w) A (getItem (.ref t) (.ref sl)) Q E s:=by
 have RU:sizeOk (.seq ((items.toList.drop (sIx items.size 0 lo)).take (sIx items.size items.size hi-sIx items.size 0 lo)).toArray):=by
  show((items.toList.drop (sIx items.size 0 lo)).take (sIx items.size items.size hi-sIx items.size 0 lo)).toArray.size<=sizeLine;rw[ZZ,Z8,aai,abO];lia
 have hj:sIx items.size items.size hi<=items.size:=vO _ _ (ZO _) hi;obtain⟨os,TB,Xo,To⟩:=id hs;have X3:s.TypeIs (.ref sl) "slice":=⟨os,TB,Xo⟩
 unfold getItem;try with_reducible refine aa1 ?_
 first|refine ZH (ZM ?_)|skip
 refine ZH (wpAny_sequenceKey ht.typeIs (by decide) ?_);refine ZH (aaN (name:=Str.ofString "__getitem__") ht.typeIs abk
  (aa2 abk ht.typeIs entry_tuple_getitem ?_ (args_tuple_getitem _ _)))
 show wpAny _ _ (Builtin.Tuple.tupleItemsOf (.ref t) >>= _) _ _ s;refine ZH (tupleItemsOf_ ht ?_);refine ZH (acq X3 ?_);rw[ZY (by decide)];refine ZH (gP hs pl pu ?_);have VG:¬ ((((sIx items.size 0 lo:Nat):Int)==0&&(1:Int)==1&&(sIx items.size items.size hi-sIx items.size 0 lo)==items.size)=true):=by
  intro q;rw[ZP,ZP]at q;have q1:((sIx items.size 0 lo:Nat):Int)=0:=eq_of_beq q.1.1;have q2:sIx items.size items.size hi-sIx items.size 0 lo=items.size:=eq_of_beq q.2;exact hw ⟨by lia,by lia⟩
 show wpAny _ _ (if(((sIx items.size 0 lo:Nat):Int)==0&&(1:Int)==1&&(sIx items.size items.size hi-sIx items.size 0 lo)==items.size)=true then _ else _) _ _ s;rw[Z6 VG,yJ];first
  |exact ZH (m:=Builtin.Tuple.tupleExact _) (aaI (ZM ⟨_,rfl,ZM h⟩) RU)
  |exact ZH (m:=Builtin.Tuple.tupleExact _) (aaI (ZH (ZM (ZM ⟨_,rfl,ZM h⟩))) RU)
  |exact ZH (ZH (m:=Builtin.Tuple.tupleExact _) (aaI (ZM (ZM ⟨_,rfl,ZM h⟩)) RU))
  |exact ZH (ZH (m:=Builtin.Tuple.tupleExact _) (aaI (ZM ⟨_,rfl,ZM h⟩) RU))
end
end HT
namespace L2
open PySem PySem.Spec PyProof.Rows
abbrev TO:=St->Hp->(Option Int->Hp->Prop)->Prop
def PO(X:Cx)(e:Option Expr)(t:TO):Prop:=
 ∀(pr:List (WP×Obj)) (s:WF) (σ:St) (H:Hp) (Q:Option Int->Hp->Prop),Inv X pr σ H s->t σ H Q->
  wpAny (model X.prog X.w) X.A (evalPart e X.env) (λu s'=>∃o H',Inv X pr σ H' s'/\IsPart u o/\Q o H') X.xe s
def BV:TO:=λ_ H Q=>Q none H
def Ib(t:TE):TO:=λσ H Q=>t σ H λx H1=>∃i,x=.int i/\Q (some i) H1
variable{X:Cx}{pos:Pos}
section
variable{e:Expr}{te:TE}{lo hi:Option Expr}{tl th:TO}{p2:Pos}
theorem BX:PO X none BV:=by
 intro pr s σ H Q I h;rw[evalPart_none];exact ZM ⟨none,H,I,.none,h⟩
theorem BY(h:PE X e te):PO X (some e) (Ib te):=by
 intro pr s σ H Q I hw;rw[evalPart_some];refine Mz (h pr s σ H _ I hw) λu s1 MC=>?_
 obtain⟨x,H1,I1,r1,q1⟩:=MC;obtain⟨i,rfl,q⟩:=q1;obtain⟨t,rfl⟩:=r1;exact⟨some i,H1,I1,.int i t,q⟩
def UL(X:Cx)(r:V->Option Int->Option Int->Hp->VK->Prop):Prop:=
 ∀(pr:List (WP×Obj)) (s:WF) (σ:St) (H:Hp) (x:V) (v vl vu:Wp) (lo hi:Option Int) (sl:WP) (Q:VK),Inv X pr σ H s->RelV x v->s.heap.IsSliceOf sl vl vu .none->IsPart vl lo->IsPart vu hi->r x lo hi H Q->
  ∃T id,typeLookup (.type T) "__getitem__" = pure (some (.builtin id))/\s.TypeIs v T/\wpAny (model X.prog X.w) X.A (getItem v (.ref sl)) (EP X pr σ Q) X.xe s
def tSl(r:V->Option Int->Option Int->Hp->VK->Prop)(te:TE)(tl th:TO):TE:=λσ H Q=>te σ H λx H1=>tl σ H1 λl H2=>th σ H2 λu H3=>r x l u H3 Q
theorem yK{r:V->Option Int->Option Int->Hp->VK->Prop}(hr:UL X r)(he:PE X e te)(hl:PO X lo tl)(hu:PO X hi th):PE X (.Subscript e (.Slice lo hi none p2) pos) (tSl r te tl th):=by
 intro pr s σ H Q I h;refine Subscript_ (Mz (he pr s σ H _ I h) λv s1 MC=>?_);obtain⟨x,H1,I1,r1,q1⟩:=MC;refine wpAny_Slice (Mz (hl pr s1 σ H1 _ I1 q1) λvl s2 ⟨l,H2,I2,pl,q2⟩=>Mz (hu pr s2 σ H2 _ I2 q2) λvu s3 MC=>?_);obtain⟨u,H3,I3,pu,q3⟩:=MC;rw[evalPart_none];refine ZM ?_;have I4:Inv X pr σ H3 {s3 with heap:=s3.heap.push {cls:=.type "slice",data:=.fields #[vl,vu,.none]}}:=I3.kept (t':=s3.toks) λb ob q=>ZL _ q
 obtain⟨T,id,hT,ht,hg⟩:=hr pr {s3 with heap:=s3.heap.push {cls:=.type "slice",data:=.fields #[vl,vu,.none]}} σ H3 x v vl vu l u s3.heap.objs.size Q I4 r1 (Heap.IsSliceOf.new ..) pl pu q3;show wpAny (model X.prog X.w) X.A (subscriptTail e (.Slice lo hi none p2) v (.ref s3.heap.objs.size)) (EP X pr σ Q) X.xe {s3 with heap:=s3.heap.push {cls:=.type "slice",data:=.fields #[vl,vu,.none]}};exact tail_any (ops:=[.ref s3.heap.objs.size,v]) ht hT hg (by with_unfolding_all rfl)
def AE(xs:List V)(lo hi:Option Int):List V:=(xs.drop (HT.sIx xs.length 0 lo)).take (HT.sIx xs.length xs.length hi-HT.sIx xs.length 0 lo)
theorem lb(xs:List V)(lo hi:Option Int):(AE xs lo hi).length<=xs.length:=by
 unfold AE;rw[Z8,aai];lia
def KJ(K:W.Frag):V->Option Int->Option Int->Hp->VK->Prop:=λx lo hi H Q=>∃a xs,x=.ref a/\SqT K H a xs/\
 ¬ (HT.sIx xs.length 0 lo=0/\HT.sIx xs.length xs.length hi=xs.length)/\∀p,H p=none->Q (.ref p) (upd H p (.tup (AE xs lo hi)))
theorem EN:UL X (KJ X.K):=by
 intro pr s σ H x v vl vu lo hi sl Q I rx hs pl pu h;obtain⟨a,xs,rfl,hx,hw,q⟩:=h;cases rx;obtain⟨L8,r,ht,hz⟩:=I.tuple hx;have hlen:L8.toArray.size=xs.length:=by rw[ZZ];exact r.length.symm
 refine⟨"tuple",_,PyProof.Rows.slot_tuple_getitem.lookup,ht.typeIs,?_⟩;refine HT.jN ht hs pl pu (by rw[hlen];exact hw) ?_ (by rw[hlen];exact hz);rw[hlen];refine⟨.ref s.heap.objs.size,_,I.laid (t':=s.toks) (o:=.tup (AE xs lo hi)) (λb ob q=>ZL _ q) (ZO _) ?_,rfl,q _ (I.hok.fresh (ZO _))⟩;exact⟨aaP (lb xs lo hi) hz,_,(r.drop (HT.sIx xs.length 0 lo)).take (HT.sIx xs.length xs.length hi-HT.sIx xs.length 0 lo),IsTupN.new _ _⟩
def Ic(K:W.Frag):R2:=λx y H Q=>∃a b xs ys,x=.ref a/\y=.ref b/\SqT K H a xs/\SqT K H b ys/\xs≠[]/\xs.length+ys.length<=sizeLine/\
 (ys=[]->Q (.ref a) H)/\(ys≠[]->∀p,H p=none->Q (.ref p) (upd H p (.tup (xs++ys))))
theorem Vals.nil_iff{xs:List V}{us:List Wp}(r:Vals xs us):us=[]<->xs=[]:=by
 cases r with
 |nil=>simp
 |cons _ _=>simp
theorem BZ:Nk X (binaryOp .Add) (Ic X.K):=by
 intro pr s σ H x y v u Q I rx ry h;obtain⟨a,b,xs,ys,rfl,rfl,ha,hb,hx,hz,q1,q2⟩:=h;cases rx;cases ry;obtain⟨L8,r1,p1,_⟩:=I.tuple ha;obtain⟨Sj,r2,p2,_⟩:=I.tuple hb;refine HT.BU p1 p2 (λz=>hx (r1.nil_iff.mp z)) (λz=>⟨.ref a,H,I,rfl,q1 (r2.nil_iff.mp z)⟩) (λz=>?_) (by rw[<-r1.length,<-r2.length];exact hz);refine⟨.ref s.heap.objs.size,_,I.laid (t':=s.toks) (o:=.tup (xs++ys)) (λb ob q=>ZL _ q) (ZO _) ?_,rfl,q2 (λw=>z (r2.nil_iff.mpr w)) _ (I.hok.fresh (ZO _))⟩;exact⟨by rw[aau];exact hz,_,r1.append r2,IsTupN.new _ _⟩
end
def ixN(n:Nat)(i:Int):Option Nat:=if 0<=i then(if i<n then some i.toNat else none) else if -(n:Int)<=i then some (i+n).toNat else none
def Ow{α:Type}(xs:List α)(i:Int):Option α:=(ixN xs.length i).bind λj=>xs[j]?
variable{j n:Nat}{i:Int}
theorem B0(h:ixN n i=some j):seqIndex? i n=some j/\j<n/\-(n:Int)<=i/\i<n:=by
 unfold ixN at h;by_cases h0:0<=i
 .rw[ZY h0]at h;by_cases h1:i<n
  .rw[ZY h1]at h;have e:i.toNat=j:=aax h;exact⟨by rw[seqIndex_of h0 h1,e],by lia,by lia,h1⟩
  .rw[Z6 h1]at h;cases h
 .rw[Z6 h0]at h;by_cases h1:-(n:Int)<=i
  .rw[ZY h1]at h;have e:(i+n).toNat=j:=aax h;exact⟨by rw[seqIndex_neg (by lia) h1,e],by lia,h1,by lia⟩
  .rw[Z6 h1]at h;cases h
variable{α:Type}
theorem qX{xs:List α}{v:α}(h:Ow xs i=some v):∃j,seqIndex? i xs.length=some j/\xs[j]?=some v/\j<xs.length/\-(xs.length:Int)<=i/\i<xs.length:=by
 unfold Ow at h;cases e:ixN xs.length i with
 |none=>rw[e]at h;cases h
 |some j=>
  rw[e]at h;obtain⟨h1,h2,h3,h4⟩:=B0 e;exact⟨j,h1,h,h2,h3,h4⟩
theorem dw{xs:List α}{v:α}(h:xs[j]?=some v):Ow xs (j:Int)=some v:=by
 have hj:j<xs.length:=(Z1.mp h).1;have e:ixN xs.length (j:Int)=some j:=by
  unfold ixN;rw[ZY (by lia),ZY (by lia)];simp
 unfold Ow;rw[e];exact h
def qY(b:Expr):Prop:=∀o i,subscripted b false o i=operate [o,i] (getItem o i)
def V6(X:Cx)(r:R2):Prop:=
 ∀(value slice:Expr) (pr:List (WP×Obj)) (s:WF) (σ:St) (H:Hp) (x y:V) (v u:Wp) (Q:VK),Inv X pr σ H s->RelV x v->RelV y u->r x y H Q->
  subscripted slice false v u=operate [v,u] (getItem v u)->wpAny (model X.prog X.w) X.A (subscriptTail value slice v u) (EP X pr σ Q) X.xe s
def Xp(X:Cx)(id:String)(r:V->List V->Hp->VK->Prop):Prop:=
 ∀(pr:List (WP×Obj)) (s:WF) (σ:St) (H:Hp) (x:V) (xs:List V) (v:Wp) (us:List Wp) (Q:VK),Inv X pr σ H s->RelV x v->Vals xs us->r x xs H Q->
  wpAny (model X.prog X.w) X.A (call (.builtin id) (v::us)) (EP X pr σ Q) X.xe s
variable{A:Uf}{s:WF}{pr:List (WP×Obj)}{σ:St}{H:Hp}{T:String}
section
variable{a b:Expr}{ta tb:TE}
theorem EO{r:R2}(hr:V6 X r)(ha:PE X a ta)(hb:PE X b tb)(hs:qY b):PE X (.Subscript a b pos) (VF r ta tb):=by
 intro pr s σ H Q I h;exact Subscript_ (HW ha hb I h λv u s2 x y H2 I2 rx ry q=>hr a b pr s2 σ H2 x y v u Q I2 rx ry q (hs _ _))
def KL(K:W.Frag):R2:=λx y H Q=>∃p xs i v,x=.ref p/\y=.int i/\SqL K H p xs/\Ow xs i=some v/\Q v H
def KN(K:W.Frag):R2:=λx y H Q=>∃p xs i v,x=.ref p/\y=.int i/\SqT K H p xs/\Ow xs i=some v/\Q v H
def KO:R2:=λx y H Q=>∃z i c,x=.str z/\y=.int i/\z.length<=sizeLine/\Ow z.cps.toList i=some c/\Q (.str ⟨#[c]⟩) H
theorem vQ:V6 X (KL X.K):=by
 intro value slice pr s σ H x y v u Q I rx ry h hs;obtain⟨p,xs,i,z,rfl,rfl,hq,he,q⟩:=h;cases rx;obtain⟨t,rfl⟩:=ry;obtain⟨L8,r,pl,hz⟩:=I.list hq;obtain⟨j,h1,h2,h3,h4,h5⟩:=qX he;obtain⟨w,ew,UM⟩:=r.get h2;have hl:=r.length;have hn:=o3;have fin:EP X pr σ Q w s:=⟨z,H,I,UM,q⟩
 by_cases h0:0<=i
 .have hj:i.toNat=j:=by
   rw[seqIndex_of h0 h5]at h1;exact aax h1
  exact item_listR pl.isList h0 (by lia) (by rw[hj];simpa using ew) fin hs
 .have hj:(i+(L8.toArray.size:Int)).toNat=j:=by
   rw[seqIndex_neg (by lia) h4]at h1;rw[ZZ,<-hl];exact aax h1
  exact subscriptTail_builtinR (x:=w) pl.isList.typeIs slot_list_getitem.lookup
   (wpAny_getItem_list_neg (Q:=λr s'=>r=w/\EP X pr σ Q r s') pl.isList (by lia) (by rw[ZZ] <;> lia) (by lia) (by rw[hj];simpa using ew) ⟨rfl,fin⟩) hs
theorem ER:V6 X (KN X.K):=by
 intro value slice pr s σ H x y v u Q I rx ry h hs;obtain⟨p,xs,i,z,rfl,rfl,hq,he,q⟩:=h;cases rx;obtain⟨t,rfl⟩:=ry;obtain⟨L8,r,pl,hz⟩:=I.tuple hq;obtain⟨j,h1,h2,h3,h4,h5⟩:=qX he;obtain⟨w,ew,UM⟩:=r.get h2;have hl:=r.length;have hn:=o3;have fin:EP X pr σ Q w s:=⟨z,H,I,UM,q⟩
 exact subscriptTail_builtinR (x:=w) pl.typeIs slot_tuple_getitem.lookup
  (getItem_tuple (j:=j) (Q:=λr s'=>r=w/\EP X pr σ Q r s') pl (by lia) (by lia) (by rw[ZZ,<-hl];exact h1) (by simpa using ew) ⟨rfl,fin⟩) hs
theorem ES:V6 X KO:=by
 intro value slice pr s σ H x y v u Q I rx ry h hs;obtain⟨z,i,c,rfl,rfl,hz,he,q⟩:=h;obtain⟨t,rfl⟩:=rx;obtain⟨t',rfl⟩:=ry;obtain⟨j,h1,h2,h3,h4,h5⟩:=qX he;have hl:z.cps.toList.length=z.length:=by simp[Str.length]
 rw[hl]at h1 h4 h5;have hn:=o3;exact tail_any (ada s z t) slot_str_getitem.lookup (getItem_str (c:=c) (by
  have e1:decide (i < -(2 ^ 63:Int))=false:=Z7 (by lia);have e2:decide (i>=2 ^ 63)=false:=Z7 (by lia);rw[e1,e2,Bool.or_false]) (by rw[h1];simpa using h2) ⟨.str ⟨#[c]⟩,H,I.tok _,⟨_,rfl⟩,q⟩) hs
theorem pd(lo hi:Option Int)(n:Nat):(sliceBounds lo hi none n).1=((HT.sIx n 0 lo:Nat):Int)/\(sliceBounds lo hi none n).2.1=((HT.sIx n n hi:Nat):Int)/\(sliceBounds lo hi none n).2.2=1:=by
 refine⟨?_,?_,rfl⟩
 .cases lo with
  |none=>simp[sliceBounds,HT.sIx]
  |some i=>
   simp![sliceBounds,HT.sIx,adt,show(1:Int)>0 by decide,acz];by_cases h:i<0
   .simp![h,acz] <;> lia
   .simp![h,acX] <;> lia
 .cases hi with
  |none=>simp[sliceBounds,HT.sIx]
  |some i=>
   simp![sliceBounds,HT.sIx,adt,show(1:Int)>0 by decide,acz];by_cases h:i<0
   .simp![h,acz] <;> lia
   .simp![h,acX] <;> lia
theorem nN(L8:List Wp)(lo hi:Option Int):slicePick L8.toArray lo hi none=((L8.drop (HT.sIx L8.length 0 lo)).take (HT.sIx L8.length L8.length hi-HT.sIx L8.length 0 lo)).toArray:=by
 obtain⟨h1,h2,h3⟩:=pd lo hi L8.toArray.size;unfold slicePick;rw[h1,h2,h3];simp![sliceRange_one,pick_run,ZZ] <;> rfl
def KP(K:W.Frag):V->Option Int->Option Int->Hp->VK->Prop:=λx lo hi H Q=>∃a xs,x=.ref a/\SqL K H a xs/\∀p,H p=none->Q (.ref p) (upd H p (.lst (AE xs lo hi)))
theorem B1:UL X (KP X.K):=by
 intro pr s σ H x v vl vu lo hi sl Q I rx hs pl pu h;obtain⟨a,xs,rfl,hx,q⟩:=h;cases rx;obtain⟨L8,r,ht,hz⟩:=I.list hx;have hlen:=r.length;refine⟨"list",_,slot_list_getitem.lookup,ht.isList.typeIs,?_⟩;refine wpAny_getItem_list_slice ht.isList hs pl pu .none (by simp) ?_ (by rw[ZZ] <;> lia);rw[nN,<-hlen];refine⟨.ref s.heap.objs.size,_,I.laid (t':=s.toks) (o:=.lst (AE xs lo hi)) (λb ob q=>ZL _ q) (ZO _) ?_,rfl,q _ (I.hok.fresh (ZO _))⟩;exact⟨aaP (lb xs lo hi) hz,_,0,(r.drop (HT.sIx xs.length 0 lo)).take (HT.sIx xs.length xs.length hi-HT.sIx xs.length 0 lo),Z0 _ rfl⟩
def yL:V->Bool
 | .non=>true
 | .bl _=>true
 | .int _=>true
 | .str _=>true
 |_=>false
def X4:V->V->Bool
 | .non,.non=>true
 | .bl a,.bl b=>a==b
 | .bl a,.int b=>(if a then 1 else 0)==b
 | .int a,.bl b=>a==(if b then 1 else 0)
 | .int a,.int b=>a==b
 | .str a,.str b=>a==b
 |_,_=>false
theorem AF{y x:V}{u v:Wp}(ry:RelV y u)(rx:RelV x v)(fy:yL y=true)(fx:yL x=true):SeqAt.EqAt A s u v (X4 y x):=by
 cases y with
 |non=>
  cases ry;cases x with
  |non=>cases rx;exact SeqAt.EqAt.same _
  |bl b=>cases rx;exact SeqAt.EqAt.none_bool b
  |int b=>obtain⟨t,rfl⟩:=rx;exact SeqAt.EqAt.none_int b t
  |str b=>obtain⟨t,rfl⟩:=rx;exact SeqAt.EqAt.none_str b t
  |_=>exact absurd (show false=true from fx) ZU
 |bl a=>
  cases ry;cases x with
  |non=>cases rx;exact SeqAt.EqAt.bool_none a
  |bl b=>cases rx;exact SeqAt.EqAt.bool_bool a b
  |int b=>obtain⟨t,rfl⟩:=rx;exact SeqAt.EqAt.bool_int a b t
  |str b=>obtain⟨t,rfl⟩:=rx;exact SeqAt.EqAt.bool_str a b t
  |_=>exact absurd (show false=true from fx) ZU
 |int a=>
  obtain⟨t',rfl⟩:=ry;cases x with
  |non=>cases rx;exact SeqAt.EqAt.int_none a t'
  |bl b=>cases rx;exact SeqAt.EqAt.int_bool a t' b
  |int b=>obtain⟨t,rfl⟩:=rx;exact SeqAt.EqAt.int_int a t' b t
  |str b=>obtain⟨t,rfl⟩:=rx;exact SeqAt.EqAt.int_str a t' b t
  |_=>exact absurd (show false=true from fx) ZU
 |str a=>
  obtain⟨t',rfl⟩:=ry;cases x with
  |non=>cases rx;exact SeqAt.EqAt.str_none a t'
  |bl b=>cases rx;exact SeqAt.EqAt.str_bool a t' b
  |int b=>obtain⟨t,rfl⟩:=rx;exact SeqAt.EqAt.str_int a t' b t
  |str b=>obtain⟨t,rfl⟩:=rx;exact SeqAt.EqAt.str_str a t' b t
  |_=>exact absurd (show false=true from fx) ZU
 |_=>exact absurd (show false=true from fy) ZU
theorem j7:dF X (.builtin "len") (λxs H Q=>∃p ys,xs=[.ref p]/\(SqL X.K H p ys\/SqT X.K H p ys)/\Q (.int ys.length) H):=by
 intro pr s σ H xs us Q I r h;obtain⟨p,ys,rfl,hq,q⟩:=h;obtain⟨u,rfl,rx⟩:=fV r;cases rx;have hn:=o3;rcases hq with hq|hq
 .obtain⟨L8,r',pl,hz⟩:=I.list hq;have hlen:=r'.length;exact Calls.call_len_list pl.isList (by simp![ZZ] <;> lia) ⟨.int ys.length,H,I.tok _,⟨s.toks+1,by rw[ZZ,hlen]⟩,q⟩
 .obtain⟨L8,r',pl,hz⟩:=I.tuple hq;have hlen:=r'.length;exact len_tuple pl (by simp![ZZ] <;> lia) ⟨.int ys.length,H,I.tok _,⟨s.toks+1,by rw[ZZ,hlen]⟩,q⟩
theorem pe:dF X (.builtin "len") (λxs H Q=>∃z,xs=[.str z]/\z.length<=sizeLine/\Q (.int z.length) H):=by
 intro pr s σ H xs us Q I r h;obtain⟨z,rfl,hz,q⟩:=h;obtain⟨u,rfl,t,rfl⟩:=fV r;have hn:=o3;exact len_str (by lia) ⟨.int z.length,H,I.tok _,⟨_,rfl⟩,q⟩
theorem j8:dF X (.type "list") (λxs H Q=>∃p ys,xs=[.ref p]/\(SqL X.K H p ys\/SqT X.K H p ys)/\∀l,H l=none->Q (.ref l) (upd H l (.lst ys))):=by
 intro pr s σ H xs us Q I r h;obtain⟨p,ys,rfl,hq,q⟩:=h;obtain⟨u,rfl,rx⟩:=fV r;cases rx;have fin:∀(L8:List Wp),Vals ys L8->ys.length<=sizeLine->∀(h':UF) (c':Nat),(∀b o',s.heap.get? b=some o'->h'.get? b=some o')->
   h'.get? s.heap.objs.size=some {cls:=.type "list",dict:=none,data:=.seq L8.toArray c',slots:=#[]}->EP X pr σ Q (.ref s.heap.objs.size) {s with heap:=h'}:=λL8 r' hz h' c' kp e=>
  ⟨.ref s.heap.objs.size,_,I.laid (t':=s.toks) kp (ZO _) (show ObjOk X.prog X.w _ h' _ (.lst ys) from⟨hz,L8,c',r',e⟩),rfl,q _ (I.hok.fresh (ZO _))⟩
 rcases hq with hq|hq
 .obtain⟨L8,r',pl,hz⟩:=I.list hq;have hlen:=r'.length;obtain⟨o,ho,hc,n,hd⟩:=pl.isList;exact call_list_seq p (.inl rfl) ho hc hd (λh' c' kp e=>fin L8 r' hz h' c' kp e) (by simp![ZZ] <;> lia)
 .obtain⟨L8,r',pl,hz⟩:=I.tuple hq;have hlen:=r'.length;obtain⟨o,ho,hc,n,hd⟩:=pl;exact call_list_seq p (.inr rfl) ho hc hd (λh' c' kp e=>fin L8 r' hz h' c' kp e) (by simp![ZZ] <;> lia)
theorem jl:dF X (.type "tuple") (λxs H Q=>∃p ys,xs=[.ref p]/\((SqL X.K H p ys/\∀l,H l=none->Q (.ref l) (upd H l (.tup ys)))\/(SqT X.K H p ys/\Q (.ref p) H))):=by
 intro pr s σ H xs us Q I r h;obtain⟨p,ys,rfl,h⟩:=h;obtain⟨u,rfl,rx⟩:=fV r;cases rx;rcases h with⟨hq,q⟩|⟨hq,q⟩
 .obtain⟨L8,r',pl,hz⟩:=I.list hq;have hlen:=r'.length;refine call_tuple_list pl.isList (λh' kp=>?_) (by simp![ZZ] <;> lia);have I1:Inv X pr σ H {s with heap:=h'}:=I.kept (t':=s.toks) kp;have I2:Inv X pr σ (upd H h'.objs.size (.tup ys)) {s with heap:=h'.push {cls:=.type "tuple",data:=.seq L8.toArray}}:=
   I1.laid (t':=s.toks) (λb o e=>ZL _ e) (ZO _) (show ObjOk X.prog X.w _ _ _ (.tup ys) from⟨hz,L8,r',IsTupN.new _ _⟩)
  exact⟨.ref h'.objs.size,_,I2,rfl,q _ (I1.hok.fresh (ZO _))⟩
 .obtain⟨L8,r',pl,hz⟩:=I.tuple hq;exact call_tuple_same pl ⟨.ref p,H,I,rfl,q⟩
def X5(K:W.Frag)(T:String)(x:V)(H:Hp):Prop:=match x with
 | .str _=>T = "str"
 | .int _=>T = "int"
 | .ref p=>(T = "list"/\∃xs,SqL K H p xs)\/(T = "tuple"/\∃o,K.lookup p=some o/\o.cls=.type "tuple"/\o.dict=none)\/
   (T = "dict"/\((∃kvs,H p=some (.dK kvs))\/∃kvs,H p=some (.dT kvs)))\/(T = "set"/\∃S n,H p=some (.set S n))
 |_=>False
theorem EU{x:V}{v:Wp}(I:Inv X pr σ H s)(r:RelV x v)(ty:X5 X.K T x H):
  s.TypeIs v T/\∀a,v=.ref a->∃ob,s.heap.get? a=some ob/\ob.dict=none:=by
 cases x with
 |str z=>
  obtain⟨t,rfl⟩:=r;cases(show T = "str" from ty);exact⟨ada s z t,λ_ e=>nomatch e⟩
 |int i=>
  obtain⟨t,rfl⟩:=r;cases(show T = "int" from ty);exact⟨typeIs_int s i t,λ_ e=>nomatch e⟩
 |ref p=>
  cases r;rcases ty with⟨rfl,xs,hq⟩|⟨rfl,o,hk,hc,hd⟩|⟨rfl,hk⟩|⟨rfl,S,n,hk⟩
  .obtain⟨L8,_,pl,_⟩:=I.list hq;refine⟨pl.isList.typeIs,λa e=>?_⟩;cases e;obtain⟨o,n,e,c,hd,_⟩:=pl;exact⟨o,e,hd⟩
  .refine⟨⟨o,I.kIn p o hk,hc⟩,λa e=>?_⟩;cases e;exact⟨o,I.kIn _ o hk,hd⟩
  .have z:∃o,s.heap.get? p=some o/\o.ExactDict:=by
    rcases hk with⟨kvs,hk⟩|⟨kvs,hk⟩
    .obtain⟨_,_,_,_,o,_,_,e,ex,_⟩:=I.hok p _ hk;exact⟨o,e,ex⟩
    .obtain⟨_,_,_,_,o,_,_,e,ex,_⟩:=I.hok p _ hk;exact⟨o,e,ex⟩
   obtain⟨o,e,ex⟩:=z;refine⟨⟨o,e,ex.1⟩,λa e2=>?_⟩;cases e2;exact⟨o,e,ex.2.1⟩
  .obtain⟨o,_,_,_,e,ex,_⟩:=I.hok p _ hk;refine⟨⟨o,e,ex.1⟩,λa e2=>?_⟩;cases e2;exact⟨o,e,ex.2.1⟩
 |_=>exact False.elim ty
def tBM(K:W.Frag)(T:String)(r:V->List V->Hp->VK->Prop)(to:TE)(t:TA):TE:=λσ H Q=>to σ H λx H1=>X5 K T x H1/\t σ H1 λxs H2=>r x xs H2 Q
variable{o e:Expr}{es:List Expr}{to:TE}{t:TA}{name:Str}{apos Mu:Pos}{id:String}{r:V->List V->Hp->VK->Prop}
theorem yM(pa:PlainAttrs T)(slot:Slot T name id)(V7:typeOf (.builtin id)=pure (.type "method_descriptor"))(hm:Xp X id r)(ho:PE X o to)(ha:PA X (e::es) t)
  (Oe:attributeBase o name X.env (eval o X.env)=eval o X.env:=by rfl)
  (Qy:((backTo Mu (starEach (e::es) X.env)).all (λx=>!x.1)&&(backToKw Mu (keywordEach [] X.env)).all (λx=>x.1.isSome)
   && decide ((e::es).length+([]:List Keyword).length+(if([]:List Keyword).isEmpty then 0 else 1)<30))=true:=by rfl)
  (OU:(apos.endLine==Mu.line)=true:=by rfl) (hs:starEach (e::es) X.env=(false,eval e X.env)::starEach es X.env:=by rfl) (N2:(backTo Mu (starEach es X.env)).any (·.1)=false:=by rfl):
  PE X (.Call (.Attribute o name apos) (e::es) [] Mu) (tBM X.K T r to t):=by
 intro pr s σ H Q I h;refine wpAny_Call_method_late Oe Qy OU rfl (Mz (ho pr s σ H _ I h) λv s1 MC=>?_);obtain⟨x,H1,I1,r1,ty,q1⟩:=MC;obtain⟨h1,h2⟩:=EU I1 r1 ty;refine⟨T,id,pa,slot,V7,h1,h2,?_⟩;have hA:=ha Mu pr s1 σ H1 _ I1 q1;rw[hs]at hA |-;refine Calls.callWith_builtin (by show(false||(backTo Mu (starEach es X.env)).any (·.1))=false;rw[N2] <;> rfl) (Calls.evalArgs_plain ?_);exact Mz hA λus s2 ⟨vs,H2,I2,r2,q2⟩=>hm pr s2 σ H2 x vs v us Q I2 r1 r2 q2
end
def MtM(X:Cx)(id:String)(r:V->List V->Hp->VK->Prop):Prop:=
 ∀(pr:List (WP×Obj)) (s:WF) (σ:St) (H:Hp) (x:V) (xs:List V) (v:Wp) (us:List Wp) (Q:VK),Inv X pr σ H s->RelV x v->Vals xs us->r x xs H Q->
  wpAny (model X.prog X.w) X.A (call (.builtin id) (v::us)) (EP X pr σ Q) X.xe s
theorem Vals.one:∀{x:V}{us:List Wp},Vals [x] us->∃u,us=[u]/\RelV x u
 |_,_,.cons r .nil=>⟨_,rfl,r⟩
theorem Vals.rep{xs:List V}{us:List Wp}(h:Vals xs us):∀k:Nat,Vals (List.replicate k xs).flatten (List.replicate k us).flatten
 | 0=>.nil
 |k+1=>by
  rw[aa5,aa5,aaJ,aaJ];exact Vals.append h (Vals.rep h k)
theorem pf(L8:List Wp):∀(k:Nat) (acc:List Wp),
  List.foldl (λx1 x2=>x1++x2) acc.toArray (List.replicate k L8.toArray)=(acc++(List.replicate k L8).flatten).toArray
 | 0,acc=>by simp
 |k+1,acc=>by
  have e:acc.toArray++L8.toArray=(acc++L8).toArray:=by simp
  have e2:(acc++L8)++(List.replicate k L8).flatten=acc++(List.replicate (k+1) L8).flatten:=by
   rw[aa5,aaJ,aaa]
  rw[<-e2,<-pf L8 k (acc++L8),<-e,aa5,abT]
section
variable{l b:WP}{xs ys zs:List V}
theorem Inv.lset{L8 its':List Wp}{n:Nat}{f:Array Wp->Array Wp}{t':Nat}(I:Inv X pr σ H s)(hH:H l=some (.lst xs))
  (e:s.heap.get? l=some {cls:=.type "list",data:=.seq L8.toArray n}) (hf:f L8.toArray=its'.toArray) (hv:Vals ys its') (hz:ys.length<=sizeLine):
  Inv X pr σ (upd H l (.lst ys)) {s with heap:=s.heap.update l (Obj.mapSeq f),toks:=t'}:=by
 have q:=PySem.IsL.update e f;rw[hf]at q;refine I.write (x:=l) (e:=l) (by rw[hH];exact trivial) (.inl rfl) (λb' u hb hu=>(aaz s.heap (Obj.mapSeq f) (abp hb)).trans hu) ⟨_,q⟩ ?_;exact⟨hz,its',_,hv,q⟩
theorem Inv.lnew{L8:List Wp}{t':Nat}(I:Inv X pr σ H s)(hv:Vals ys L8)(hz:ys.length<=sizeLine):
  Inv X pr σ (upd H s.heap.objs.size (.lst ys)) {s with heap:=s.heap.push {cls:=.type "list",data:=.seq L8.toArray},toks:=t'}:=
 I.laid (λ_ _ q=>ZL _ q) (ZO _) ⟨hz,L8,0,hv,Z0 _ rfl⟩
theorem Inv.fresh(I:Inv X pr σ H s):H s.heap.objs.size=none:=I.hok.fresh (ZO _)
theorem Inv.lstM(I:Inv X pr σ H s)(hH:H l=some (.lst xs)):xs.length<=sizeLine/\∃(L8:List Wp) (n:Nat),Vals xs L8/\xs.length=L8.length/\s.heap.get? l=some {cls:=.type "list",data:=.seq L8.toArray n}:=by
 obtain⟨z,L8,n,r,e⟩:=I.hok l _ hH;exact⟨z,L8,n,r,r.length,e⟩
theorem yN(h:n<=sizeLine):Builtin.List.listTooLong n=false:=by
 unfold Builtin.List.listTooLong;exact Z7 (by lia)
end
section
def B2:V->List V->Hp->VK->Prop:=λx vs H Q=>∃l xs y,x=.ref l/\vs=[y]/\H l=some (.lst xs)/\xs.length<sizeLine/\Q .non (upd H l (.lst (xs++[y])))
theorem gW:MtM X "list.append" B2:=by
 intro pr s σ H x vs v us Q I rx rv h;obtain⟨l,xs,y,rfl,rfl,hH,hz,q⟩:=h;cases rx;obtain⟨u,rfl,ru⟩:=rv.one;obtain⟨z,L8,n,r,hl,e⟩:=I.lstM hH;refine call_meets F.slot_list_append ⟨_,e,rfl⟩ F.entry_list_append (F.args_list_append_2 _ _) (PySem.list_append l L8.toArray n u (by rw[ZZ];lia)) ⟨e,?_⟩;refine⟨.non,_,I.lset (its':=L8++[u]) hH e (by simp) (r.append (.cons ru .nil)) ?_,rfl,q⟩;rw[aau,aaL];lia
theorem nO(xs:List α)(k:Nat):(List.replicate k xs).flatten.length=k*xs.length:=by
 induction k with
 |zero=>simp
 |succ k ih=>rw[aa5,aaJ,aau,ih,Nat.succ_mul,Nat.add_comm]
end
section
variable{prog:W1}{w:World}{E:Wp->WF->Prop}
end
section
end
end L2
namespace Att
open PySem PySem.W PySem.Calls PyProof.Rows
def lg{P:Params}{h:UF}:∀(ns:List Int) (vs:List Wp),WellAll P h vs (ns.map WData.int)->IntsAre vs ns:=by
 intro ns;induction ns with
 |nil=>
  intro vs w;rw[ab5]at w;cases w;exact .nil
 |cons n ns ih=>
  intro vs w;rw[aae]at w;cases w with
  |cons a b=>
   cases a;exact .cons _ _ (ih _ b)
def vR{l:OpenLaw}{n:Nat}(hn:l.most=some n){P:Params}{h:UF}{args:List WData}{vals:List Wp}
  (TF:l.row.toRowW.claim.pre args=true) (X6:WellAll P h vals args):
  ∃a vs ns,vals=[Value.ref a]/\args=[WData.list (ns.map WData.int)]/\h.get? a=some {cls:=.type "list",data:=.seq vs.toArray}/\IntsAre vs ns/\ns.length<=n:=by
 have hsh:WShape.hasAll [] args [.list .int]=true:=(pre_splitW TF).1;have hc:l.pre.holds [] {args:=args}=true:=(pre_splitW TF).2;obtain⟨d,r,rfl,h1,h2⟩:=hasAllW_cons hsh;obtain rfl:=hasAllW_nil h2;obtain⟨xs,rfl,h3⟩:=hasW_list h1;obtain⟨ns,rfl⟩:=items_int h3;have hlen:ns.length<=n:=by
  unfold OpenLaw.pre at hc;have h4:(WTm.not (.lt (.lit (.int (n:Int))) (.len (.arg 0)))).holds [] {args:=[.list (ns.map .int)]}=true:=by
   have h4:=(holds_andW hc).1;rw[hn]at h4;exact h4
  have h5:=condW_of h4 (w_not (w_lt w_lit (w_len_list (w_arg rfl))));rw[ZT]at h5;refine acA λq=>?_
  have q':(n:Int)<((ns.length:Nat):Int):=by lia
  first
   |(rw[aao q']at h5;exact absurd h5 (by decide))
   |(simp at h5;lia)
 cases X6 with
 |cons w1 w2=>
  cases w2;cases w1 with
  |list ho Oa=>exact⟨_,_,ns,rfl,rfl,ho,lg ns _ Oa,hlen⟩
def vS(l:OpenLaw)(args:List WData):l.row.toRowW.claim.post args (.bool true) args=true:=
 postW_of (r:=l.row.toRowW) (X:=(true==true))
  (show WShape.has [] (.bool true) .bool=true by first|rfl|decide|simp[WShape.has,WShape.arms,WShape.armsAll])
  (show(WTm.eq .res (.lit (.bool true))).value [] {args:=args,res:=some (.bool true),after:=args}=some (.bool (true==true)) from w_eq_bool (w_res rfl) w_lit) rfl
def attach_call{l:OpenLaw}{n:Nat}{q:W1}{loose:List Str}{XP:(Str->Option Wp)->UF->Prop}{YP:World->UF->Prop}{d:DefRec}
  (hn:l.most=some n) (V8:d.params.defaults=[])
  (call:∀(w:World) (s₀ s₁:WF) (mg mb:Str->Option Wp) (fa:WP) (o:Obj) (pm cd doc:Wp) (a:WP) (vs:List Wp) (ns:List Int),
   Ground q loose [] XP w s₀ mg mb s₁.heap->YP w s₁.heap->
   s₁.heap.get? fa=some o->o.data=.func (docDef d.name d.params d.body d.scope pm cd doc)->s₁.heap.CodeRec cd d.name->mg d.name=some (.ref fa)->
   s₁.heap.get? a=some {cls:=.type "list",data:=.seq vs.toArray}->IntsAre vs ns->ns.length<=n->s₁.gens = #[]->
   codeAny (model l.prog w) callerA (.call (.ref fa) ⟨[.ref a],[]⟩) (λr s'=>r=.ok (.ret (.bool true))/\OldK s₁.heap s'.heap/\s'.os=s₁.os/\AllBare s'.gens) s₁):
  WalkO q loose XP YP l.row.toRowW d [] (λf vs=>PySem.call f vs):=by
 intro w s₀ s₁ mg mb G Y fa o pm cd doc dV kV ho hd Q3 hD V9 hg args vals as TF hlay hrd X6 Za;obtain rfl:dV=.none:=Dflts.none hD V8;obtain rfl:kV=.none:=Dflts.noKw hD;obtain⟨a,vs,ns,rfl,rfl,UN,hints,hlen⟩:=vR hn TF X6;refine enter_call (acW (call w s₀ s₁ mg mb fa o pm cd doc a vs ns G Y ho (fd_plain hd) Q3 V9 UN hints hlen hg) λr s' hq=>?_);obtain⟨rfl,h2,h3,h4⟩:=hq;exact⟨.inl ⟨.bool true,.bool true,[],rfl,λ_=>rfl,.bool true,vS l _,λ_=>⟨List.Pairwise.nil,λ_ hm=>(nomatch hm)⟩⟩,h2,h3,h4⟩
section
variable{prog:W1}{w:World}{A:Uf}{E:Wp->WF->Prop}{s:WF}{K:Frag}
end
end Att
namespace L2
open PySem PySem.Spec PyProof.Rows
theorem ph:∀{vs:List Wp}{ns:List Int},IntsAre vs ns->Vals (ns.map V.int) vs
 |_,_,.nil=>.nil
 |_,_,.cons n t h=>.cons ⟨t,rfl⟩ (ph h)
def Ie(H:Hp):Prop:=∀b,H b=none\/∃o xs,H b=some (.frz o (.lst xs))
variable{K:W.Frag}{mg:Str->Option Wp}{x:Str}
theorem yO{P:W1}{w:World}{mb:Str->Option Wp}{CX:Sg}{k:Nat}{fa a:WP}{fd:FuncData}{sp:Sp}{s₁:WF}{vs:List Wp}{ns:List Int}
  (KX:K.In s₁.heap) (Tp:s₁.heap.Ns mainGlobals mg) (hb:s₁.heap.Ns builtinsNs mb) (hbb:∀x:Str,x≠"__name__"->mb x=bootBuiltins x) (hlim:s₁.heap.NoLimit) (hg:s₁.gens = #[])
  (ha:s₁.heap.get? a=some {cls:=.type "list",data:=.seq vs.toArray}) (hi:IntsAre vs ns) (hl:ns.length<=sizeLine) (hr:Room k callerA)
  (F:∀base:UF,K.In base->base.Ns mainGlobals mg->FnOk P w K mg base CX k fa fd [x] sp) (Wa:∀(s:WF) (u:Wp),BindsTo s fd ⟨[u],[]⟩ [(x,u)])
  (Ti:∀H:Hp,Ie H->SqL K H a (ns.map V.int)->sp [.ref a] H (λv _=>v=.bl true) λ_ _ _=>False)
  (X7:∀H e s',CX [] H s₁ (λ_ _ _=>False) e s'->False):
  codeAny (model P w) callerA (.call (.ref fa) ⟨[.ref a],[]⟩) (λr s'=>r=.ok (.ret (.bool true))/\OldK s₁.heap s'.heap/\s'.os=s₁.os/\AllBare s'.gens) s₁:=by
 have rv:=ph hi;have lenV:=hi.length;have core:∀H:Hp,Ie H->SqL K H a (ns.map V.int)->HOk P w H s₁.heap->(∀b,H b≠none->b=a)->(H a≠none->K.lookup a=none)->
   codeAny (model P w) callerA (.call (.ref fa) ⟨[.ref a],[]⟩) (λr s'=>r=.ok (.ret (.bool true))/\OldK s₁.heap s'.heap/\s'.os=s₁.os/\AllBare s'.gens) s₁:=by
  intro H hO hS hok hA hK;have RV:∀{b:WP}{o:Obj},s₁.heap.get? b=some o->H b=none->(yz s₁.heap H).get? b=some o:=λe n=>yA e n
  have V5:∀{b:WP}{o:Obj}{es:Array DictEntry}{ep:Nat},s₁.heap.get? b=some o->o.data=.dict es ep->H b=none:=λ{b o es ep} e d=>by
   cases q:H b with
   |none=>rfl
   |some u=>
    have e':b=a:=hA b (by rw[q];simp);subst e';rw[ha]at e;cases e;have d':Data.seq vs.toArray _=Data.dict es ep:=d;cases d'
  have Xq:∀{b:WP}{m:Str->Option Wp},s₁.heap.Ns b m->(yz s₁.heap H).Ns b m:=λ{b m} ⟨o,es,ep,e,d,r⟩=>⟨o,es,ep,RV e (V5 e d),d,r⟩
  have Zb:K.In (yz s₁.heap H):=λb o e=>RV (KX b o e) (by
   cases q:H b with
   |none=>rfl
   |some u=>
    have e':b=a:=hA b (by rw[q];simp);subst e';rw[hK (by rw[q];simp)]at e;cases e)
  have hM:Mod K mg (yz s₁.heap H):=⟨Zb,Xq Tp,⟨mb,Xq hb,hbb⟩,let⟨mc,h1,h2⟩:=hlim;⟨mc,Xq h1,h2⟩⟩
  have e0:Env0 P w K mg (yz s₁.heap H) callerA [] s₁ H:=⟨rfl,hM,λb o e=>BI e,adH (vv _ _),trivial,λb hb=>absurd (show b∈([]:List WP) from hb) (by simp),hok,.of_eq hg⟩
  refine acW ((F _ Zb (Xq Tp)).run callerA [] s₁ H ⟨[.ref a],[]⟩ [.ref a] [.ref a] _ _ hr e0 (Wa s₁ (.ref a)) (.cons rfl .nil) (Ti H hO hS)) λr s' h=>?_
  cases r with
  |error e=>exact(X7 H e s' h).elim
  |ok fl=>
   cases fl with
   |next=>exact False.elim h
   |brk=>exact False.elim h
   |cont=>exact False.elim h
   |ret u=>
    obtain⟨v,H',os,bare,un,hok',r',q⟩:=h;have q':v=.bl true:=q;subst q';obtain rfl:u=Value.bool true:=r';refine⟨rfl,OldK.of_keep λb o e=>?_,os,bare⟩;cases q:H b with
    |none=>exact un.keep b o e q (by intro z;exact absurd (show b∈([]:List WP) from z) (by simp)) (by simp)
    |some u=>
     rcases hO b with z|⟨ob,xs,z⟩
     .rw[q]at z;cases z
     .have z2:=un.frzs b ob _ z;obtain⟨e1,_⟩:=hok b _ z;obtain⟨e2,_⟩:=hok' b _ z2;rw[e]at e1;cases e1;exact e2
 cases hk:K.lookup a with
 |some o=>
  have e:=KX a o hk;rw[ha]at e;cases e;refine core (λ_=>none) (λ_=>.inl rfl) (.inr ⟨_,vs.toArray,_,hk,rfl,rfl,rfl,by rw[ZZ,lenV];exact hl,by simpa using rv⟩) (λb u z=>by have z':(none:Option HO)=some u:=z;cases z') (λb z=>absurd rfl z) λz=>absurd rfl z
 |none=>
  refine core (λb=>if b=a then some (.frz {cls:=.type "list",data:=.seq vs.toArray} (.lst (ns.map V.int))) else none) (λb=>?_) (.inl (.inr ⟨{cls:=.type "list",data:=.seq vs.toArray},ZY rfl⟩)) (λb u z=>?_) (λb z=>?_) λ_=>hk
  .by_cases hb:b=a
   .exact .inr ⟨_,_,ZY hb⟩
   .exact .inl (Z6 hb)
  .by_cases hb:b=a
   .have z':=(ZY hb).symm.trans z;cases z';subst hb;exact⟨ha,by rw[ZT];exact hl,vs,_,rv,ha⟩
   .have z':=(Z6 hb).symm.trans z;cases z'
  .by_cases hb:b=a
   .exact hb
   .exact absurd (Z6 hb) z
theorem B3{l:PySem.W.OpenLaw}{n k:Nat}{q:W1}{loose:List Str}{XP:(Str->Option Wp)->UF->Prop}{YP:World->UF->Prop}{d:DefRec}{K:Params->W.Frag}{CX:World->Sg}{sp:World->Sp}
  (hn:l.most=some n) (VH:n<=sizeLine) (V8:d.params.defaults=[]) (hr:Room k callerA)
  (hY:∀(w:World) (h:UF),YP w h->(K w.params).In h)
  (F:∀(w:World) (mg:Str->Option Wp) (fa:WP) (h:UF),(K w.params).In h->h.Ns mainGlobals mg->mg d.name=some (.ref fa)->
   ∃fd:FuncData,(∀(s:WF) (u:Wp),BindsTo s fd ⟨[u],[]⟩ [(x,u)])/\
    ∀base:UF,(K w.params).In base->base.Ns mainGlobals mg->FnOk l.prog w (K w.params) mg base (CX w) k fa fd [x] (sp w))
  (Ti:∀(w:World) (H:Hp) (a:WP) (ns:List Int),ns.length<=n->Ie H->SqL (K w.params) H a (ns.map V.int)->sp w [.ref a] H (λv _=>v=.bl true) λ_ _ _=>False)
  (X7:∀(w:World) (H:Hp) (s:WF) (e:Wp) (s':WF),CX w [] H s (λ_ _ _=>False) e s'->False):
  PySem.W.WalkO q loose XP YP l.row.toRowW d [] (λf vs=>PySem.call f vs):=by
 refine Att.attach_call hn V8 λw s₀ s₁ mg mb fa o pm cd doc a vs ns G Y ho hd Q3 V9 UN hints hlen hg=>?_
 have KX:=hY w _ Y;obtain⟨fd,hb,hF⟩:=F w mg fa _ KX G.T.g V9;exact yO KX G.T.g G.T.b G.T.builtins G.T.nolimit hg UN hints (aaP hlen VH) hr hF hb (λH hO hS=>Ti w H a ns hlen hO hS) λH e s'=>X7 w H s₁ e s'
def fQ(s:Stmt):Arguments:=match s with
 | .FunctionDef _ a _ _ _ _ _ _ _ _=>a
 |_=>{posonlyargs:=[],args:=[],vararg:=none,kwonlyargs:=[],kw_defaults:=[],kwarg:=none,defaults:=[]}
def dj(s:Stmt):List Stmt:=match s with
 | .FunctionDef _ _ b _ _ _ _ _ _ _=>b
 |_=>[]
def defScope(s:Stmt):Scope:=match s with
 | .FunctionDef _ _ _ _ _ _ sc _ _ _=>sc
 |_=>{kind:=.function,names:=[],isGenerator:=false,isCoroutine:=false}
abbrev Sz:Sg:=λ_ _ _ _ _ _=>False
abbrev E0:XK:=λ_ _ _=>False
variable{X:Cx}
theorem Ig:vM Sz X E0:=λ_ _ _ _ _ _ _ h=>h.elim
structure Fun(K:W.Frag)(x qual:Str)(st:Stmt)(f:WP)(fd:FuncData):Prop where
 ex:∃(oc:Wp) (od:Option WP) (kV doc pm:Wp) (an:Option WP) (MA ct:Wp) (SD:Array (Option Wp)),
  fd=PySem.W.fnOf x qual (fQ st) (dj st) (defScope st) .none kV doc pm an MA ct/\K.lookup f=some ⟨oc,od,.func fd,SD⟩/\PySem.W.codeIn K MA qual=true
 kp:PySem.W.keepIn K (.ref f)=true
variable{qual:Str}{st:Stmt}{f:WP}{fd:FuncData}{ps:List Str}
section
variable{P:W1}{w:World}{base:UF}
theorem Fun.ok{N:List Str}{k:Nat}{sp:Sp}(F:Fun K x qual st f fd)(S:FnScope N ps (defScope st))(len:∀vs H Q E,sp vs H Q E->vs.length=ps.length)
  (Q5:∀(MA:Wp) (A:Uf) (outer:List Env) (s:WF) (H:Hp) (vs:List V) (Q:VK) (E:XK),Room k (A.deeper (envOfC qual (defScope st) s.heap.objs.size f MA))->sp vs H Q E->
   ∃t,PSs (qP Sz P w K mg base N qual (defScope st) f MA A outer s H E).nox (dj st) t/\t {nx:=λ_ H'=>Q .non H',rt:=Q} (start N vs) H):FnOk P w K mg base Sz (k+1) f fd ps sp:=by
 obtain⟨oc,od,kV,doc,pm,an,MA,ct,SD,rfl,lk,Q3⟩:=F.ex;refine EM lk Q3 S len λA outer s H vs Q E hr Ti=>?_
 obtain⟨t,h,q⟩:=Q5 MA A outer s H vs Q E hr Ti;exact⟨t,h.nox,q⟩
theorem Fun.binds(F:Fun K x qual st f fd)
  (h:∀(kV doc pm:Wp) (an:Option WP) (MA ct:Wp) (us:List Wp),us.length=ps.length->bindArgs (PySem.W.fnOf x qual (fQ st) (dj st) (defScope st) .none kV doc pm an MA ct) ⟨us,[]⟩=pure (ps.zip us)):Binds K fd ps []:=by
 obtain⟨oc,od,kV,doc,pm,an,MA,ct,SD,rfl,lk,Q3⟩:=F.ex;exact .all (h kV doc pm an MA ct)
theorem AG{oc:Wp}{od an:Option WP}{SD:Array (Option Wp)}{kV doc pm MA ct:Wp}(l:K.lookup f=some ⟨oc,od,.func (PySem.W.fnOf x qual (fQ st) (dj st) (defScope st) .none kV doc pm an MA ct),SD⟩)
  (c:PySem.W.codeIn K MA qual=true) (k:PySem.W.keepIn K (.ref f)=true):Fun K x qual st f (PySem.W.fnOf x qual (fQ st) (dj st) (defScope st) .none kV doc pm an MA ct):=⟨⟨oc,od,kV,doc,pm,an,MA,ct,SD,rfl,l,c⟩,k⟩
end
theorem hu_of{A:Uf}{k:Nat}(hr:Room k A):A.units+1<cLine:=acY (Nat.add_le_add_left (by decide:1<=64) _) hr.units
section
theorem pv(i:Nat){pos:Pos}(hN:X.N[i]?=some x:=by rfl)(hv:XX X.env.scope x:=by first|exact Or.inl rfl|exact Or.inr (Or.inl rfl)|exact Or.inr (Or.inr rfl))(hd:(x==("__debug__" : Str))=false:=by decide)
  (Q3:(x==("__classdict__" : Str))=false:=by decide):PE X (.Name x pos) (qU i):=Ar hN hv hd Q3
end
theorem iteF{A B:Prop}(h:B):if false=true then A else B:=by
 rw[Z6 ZU];exact h
theorem EV{A B:Prop}(h:A):if true=true then A else B:=by
 rw[ZY rfl];exact h
def Same(H H':Hp):Prop:=∀b o,H b=some o->H' b=some o
theorem Same.refl(H:Hp):Same H H:=λ_ _ h=>h
theorem Same.trans{H H1 H2:Hp}(a:Same H H1)(b:Same H1 H2):Same H H2:=λc o h=>b c o (a c o h)
end L2
set_option maxHeartbeats 4000000
namespace NX
open PySem PySem.Spec PyProof.Rows L2
variable{X:Cx}
section
theorem vT:Nk X (compareOp .LtE) (λx y H Q=>∃i j,x=.str i/\y=.str j/\Q (.bl (!decide (j.cps.toList<i.cps.toList))) H):=by
 intro pr s σ H x y v u Q I rx ry h;obtain⟨i,j,rfl,rfl,q⟩:=h;obtain⟨t,rfl⟩:=rx;obtain⟨t',rfl⟩:=ry;exact PySem.P.le_str (sH I q rfl)
theorem yP(v:Int)(n:Nat):max (0:Int) (min (if v<0 then v+(n:Int) else v) (n:Int))=((HT.sIx n 0 (some v):Nat):Int):=by
 show _=(((if v<0 then(v+(n:Int)).toNat else min v.toNat n):Nat):Int)
 split <;> lia
theorem EX(a b:Nat):sliceRange (a:Int) (b:Int) 1=(List.range (b-a)).map (λk=>a+k):=by
 unfold sliceRange;rw[ZY (by decide:(1:Int)>0)];by_cases NI:(a:Int)<b
 .have e3:(((b:Int)-a+1-1) / 1).toNat=b-a:=by first|lia|(simp;done)|(simp;lia)
  simp![NI,acz,e3];refine abP λk _=>?_
  lia
 .have:b-a=0:=by lia
  simp[NI,this]
theorem KQ(lo hi:Option Int)(n:Nat):Builtin.Str.strSliceIndices lo hi 1 n=(List.range (HT.sIx n n hi-HT.sIx n 0 lo)).map (λk=>HT.sIx n 0 lo+k):=by
 rw[<-EX];unfold Builtin.Str.strSliceIndices;simp![show(1:Int)>0 from by decide,acz];cases lo with
 |none=>
  cases hi with
  |none=>rfl
  |some v=>exact abB (λz=>sliceRange 0 z 1) (yP v n)
 |some u=>
  cases hi with
  |none=>exact abB (λz=>sliceRange z (n:Int) 1) (yP u n)
  |some v=>exact(abB (λz=>sliceRange z _ 1) (yP u n)).trans (abB (λz=>sliceRange _ z 1) (yP v n))
def EY(xs:List Nat)(lo hi:Option Int):List Nat:=(xs.drop (HT.sIx xs.length 0 lo)).take (HT.sIx xs.length xs.length hi-HT.sIx xs.length 0 lo)
theorem AH{α:Type}(l:List α):∀(n a:Nat),a+n<=l.length->((List.range n).map (λk=>a+k)).filterMap (l[·]?)=(l.drop a).take n
 | 0,_,_=>by simp
 |n+1,a,h=>by
  have NI:a+n<l.length:=by lia
  rw[adI,Z4,List.filterMap_append,AH l n a (by lia),adb,List.getElem?_drop];simp[ZW NI]
theorem vU(x:Str)(lo hi:Option Int):(Txt.slice x lo hi).cps.toList=EY x.cps.toList lo hi:=by
 have hl:x.cps.toList.length=x.length:=abO;have ha:=HT.vO x.length 0 (aaB _) lo;have hb:=HT.vO x.length x.length (ZO _) hi;unfold Txt.slice EY;rw[KQ,hl];split
 .rename_i h;have h2:HT.sIx x.length x.length hi-HT.sIx x.length 0 lo=x.length:=by simpa using h
  have ez:HT.sIx x.length 0 lo=0\/x.length=0:=by lia
  rcases ez with e|e
  .rw[h2,e,ac4,abi (by lia)]
  .have:x.cps.toList=[]:=aaC (by lia);rw[this];simp
 .have hk:∀(f:List Nat),f.filterMap (x.cps[·]?)=f.filterMap (x.cps.toList[·]?):=λf=>by
   congr 1
   funext i
   simp
  show(List.filterMap _ _).toArray.toList=_;rw[acJ,hk];by_cases hle:HT.sIx x.length 0 lo<=HT.sIx x.length x.length hi
  .rw[AH _ _ _ (by lia)]
  .have e0:HT.sIx x.length x.length hi-HT.sIx x.length 0 lo=0:=by lia
   rw[e0];rfl
abbrev S(l:List Nat):Str:=⟨l.toArray⟩
theorem lh(x:Str):S x.cps.toList=x:=by cases x;simp[S]
theorem S_inj{a b:List Nat}(h:S a=S b):a=b:=by
 have:=abB (λz:Str=>z.cps.toList) h;simpa[S] using this
theorem fR(l:List Nat):(S l).length=l.length:=by simp[S,Str.length]
theorem eF(l:List Nat):(S l).cps.toList=l:=by simp[S]
theorem B4(a b:List Nat):S a++S b=S (a++b):=by
 rw[<-lh (S a++S b),PySem.W.KT.app_list,eF,eF]
def KR:V->Option Int->Option Int->Hp->VK->Prop:=λx lo hi H Q=>∃l,x=.str (S l)/\l.length<=sizeLine/\Q (.str (S (EY l lo hi))) H
theorem EZ:UL X KR:=by
 intro pr s σ H x v vl vu lo hi sl Q I rx hs pl pu h;obtain⟨l,rfl,hz,q⟩:=h;obtain⟨t,rfl⟩:=rx;have Ur:(S l).length<=sizeLine:=by rw[fR];exact hz
 have e:∀t' k,EP X pr σ Q (.str (Txt.slice (S l) lo hi) t') {s with toks:=k}:=λt' k=>by
  refine⟨.str (S (EY l lo hi)),H,I.tok _,⟨t',?_⟩,q⟩;have e1:=vU (S l) lo hi;rw[eF]at e1;rw[<-e1,lh]
 refine⟨"str",_,PySem.F.slot_str_getitem.lookup,ada _ _ _,?_⟩;have key:∀(UO Xr:Option (Int×Tok)),partValue UO=vl->partValue Xr=vu->UO.map (·.1)=lo->Xr.map (·.1)=hi->
   wpAny (model X.prog X.w) X.A (getItem (.str (S l) t) (.ref sl)) (EP X pr σ Q) X.xe s:=by
  rintro UO Xr rfl rfl rfl rfl;exact wpAny_getItem_str_slice (l:=UO) (u:=Xr) (st:=none) hs rfl (post_val_or_str ⟨aaP (Txt.slice_le (S l) _ _) Ur,λt' k=>e t' k⟩)
 cases pl with
 |none=>
  cases pu with
  |none=>exact key none none rfl rfl rfl rfl
  |int j uj=>exact key none (some (j,uj)) rfl rfl rfl rfl
 |int i ui=>
  cases pu with
  |none=>exact key (some (i,ui)) none rfl rfl rfl rfl
  |int j uj=>exact key (some (i,ui)) (some (j,uj)) rfl rfl rfl rfl
theorem B5{xs:List V}{j:Nat}{x:V}(h:xs[j]?=some x):xs.getD j .non=x:=by rw[aab,h];rfl
end
def Def(K:W.Frag)(mg:Str->Option Wp)(x:Str)(st:Stmt):Prop:=∃f fd,Fun K x x st f fd/\mg x=some (.ref f)
def Ct(P:W1)(w:World)(K:W.Frag)(mg:Str->Option Wp)(base:UF)(x:Str)(k:Nat)(sp:Sp):Prop:=
 ∃f fd ps,FnOk P w K mg base Sz k f fd ps sp/\mg x=some (.ref f)/\PySem.W.keepIn K (.ref f)=true/\Binds K fd ps []
variable{e:Expr}{es:List Expr}{x:Str}{pos:Pos}
section
variable{t:TA}{p:Pos}{k:Nat}{sp:Sp}
theorem Ih(C:Ct X.prog X.w X.K X.mg X.base x k sp)(hr:Room k X.A)(hg:Gl X x)(ha:PA X (e::es) t)(NJ:(x==("__debug__" : Str))=false:=by decide)
  (he:starEach (e::es) X.env=(false,eval e X.env)::starEach es X.env:=by rfl) (Nu:(backTo pos (starEach es X.env)).any (·.1)=false:=by rfl):
  PE X (.Call (.Name x p) (e::es) [] pos) (tCall sp [] E0 t):=by
 obtain⟨f,fd,ps,G,m,kp,b⟩:=C;exact BR G hr hg m kp b .nil Ig ha NJ he Nu
def Gi(mg:Str->Option Wp)(x:Str)(n:Int):Prop:=∃t,mg x=some (.int n t)
theorem Ii{n:Int}(h:Gi X.mg x n)(hg:Gl X x)(hd:(x==("__debug__" : Str))=false:=by decide):PE X (.Name x p) (tC (.int n)):=by
 obtain⟨t,m⟩:=h;exact vz hg m ⟨t,rfl⟩ hd
end
theorem bt_len:bootBuiltins "len" = some (.builtin "len"):=by decide +kernel
theorem gF:bootBuiltins "isinstance" = some (.builtin "isinstance"):=by decide +kernel
theorem sJ:bootBuiltins "str" = some (.type "str"):=by decide +kernel
theorem B6:bootBuiltins "list" = some (.type "list"):=by decide +kernel
theorem AI:bootBuiltins "int" = some (.type "int"):=by decide +kernel
theorem kR:bootBuiltins "tuple" = some (.type "tuple"):=by decide +kernel
theorem line_eq:sizeLine=16777216:=abI
theorem lt1(c d:Nat):([c]<[d])<->c<d:=by
 rw[List.cons_lt_cons_iff];simp
theorem flat_strs(a:List (List Nat)):(a.map λl=>V.str (S l)).all yL=true:=by
 rw[aad];intro v hv;obtain⟨l,_,rfl⟩:=aaO.mp hv;rfl
section
variable{st:Stmt}
end
def clOf(scope:Scope)(env:Env):List (Str×WP):=scope.names.foldl (λcs y=>if y.2==NameKind.free then(y.1,(env.cells.lookup y.1).getD 0)::cs else cs) []
def gQ(scope:Scope)(env:Env):Bool:=scope.names.all λy=>y.2 != NameKind.free||env.kindOf y.1==some .cell||env.kindOf y.1==some .free
theorem fW(env:Env):∀(l:List (Str×NameKind)) (cs:List (Str×WP)),(∀y∈l,y.2=.free->∃c,env.cells.lookup y.1=some c)->
  (forIn l cs λ(y:Str×NameKind) (r:List (Str×WP))=>(do
   if y.2==NameKind.free then
    let a <-cellOf env y.1
    pure (ForInStep.yield ((y.1,a)::r))
   else pure (ForInStep.yield r):Sem (ForInStep (List (Str×WP)))))=pure (l.foldl (λcs y=>if y.2==NameKind.free then(y.1,(env.cells.lookup y.1).getD 0)::cs else cs) cs)
 |[],cs,_=>by simp
 |y::l,cs,h=>by
  rw[acK,abT];by_cases k:y.2=.free
  .obtain⟨c,e⟩:=h y ZI k;have e2:cellOf env y.1=pure c:=by unfold cellOf;rw[e]
   simp![k,aaS,acz,e2,e,Option.getD_some,pure_bind];exact fW env l _ λz hz=>h z (ZN _ hz)
  .have kb:(y.2==NameKind.free)=false:=by simpa using k
   simp![kb,aav,acX,pure_bind];exact fW env l _ λz hz=>h z (ZN _ hz)
theorem iA(env:Env)(x:Str)(c:WP):∀(l:List (Str×NameKind)) (cs:List (Str×WP)),(∀y∈l,y.2=.free->∃c,env.cells.lookup y.1=some c)->(cs.lookup x=some c->env.cells.lookup x=some c)->
  (l.foldl (λcs y=>if y.2==NameKind.free then(y.1,(env.cells.lookup y.1).getD 0)::cs else cs) cs).lookup x=some c->env.cells.lookup x=some c
 |[],_,_,h,e=>h e
 |y::l,cs,hf,h,e=>by
  rw[abT]at e;refine iA env x c l _ (λz hz=>hf z (ZN _ hz)) (λq=>?_) e;split at q
  .rename_i k;have k:y.2=.free:=by simpa using k
   obtain⟨d,ed⟩:=hf y ZI k;rw[aa3]at q;cases hx:x==y.1 with
   |true=>
    rw[hx]at q;have exy:x=y.1:=by simpa using hx
    rw[ed,Option.getD_some]at q;rw[exy,ed];exact q
   |false=>
    rw[hx]at q;exact h q
  .exact h q
theorem lj(env:Env)(x:Str):∀(l:List (Str×NameKind)) (cs:List (Str×WP)),((∃d,cs.lookup x=some d)\/(x,NameKind.free)∈l)->
  ∃d,(l.foldl (λcs y=>if y.2==NameKind.free then(y.1,(env.cells.lookup y.1).getD 0)::cs else cs) cs).lookup x=some d
 |[],_,h=>by
  rcases h with h|h
  .exact h
  .cases h
 |y::l,cs,h=>by
  rw[abT];refine lj env x l _ ?_;rcases h with⟨d,h⟩|h
  .refine .inl ?_;split
   .rw[aa3];cases hx:x==y.1 with
    |true=>exact⟨_,rfl⟩
    |false=>exact⟨d,h⟩
   .exact⟨d,h⟩
  .rcases ZJ.mp h with h|h
   .refine .inl ?_;rw[<-h];refine⟨(env.cells.lookup x).getD 0,?_⟩;show List.lookup x ((x,_)::cs)=_;rw[aa3,aaS]
   .exact .inr h
def bI(X:Cx)(scope:Scope)(N:List Str)(C:WP)(s:WF)(H:Hp)(fp:List WP)(pn:List (WP×Obj)):Cx:=
 {X with N:=N,s₀:=s,H₀:=H,env:=compEnvC scope (clOf scope X.env) C X.env,outer:=X.stack,ex:=fp,fn:=λ_=>false,pn:=pn,xe:=λ_ _=>False}
def j9(ix:List (Option Nat))(σ:L2.St):L2.St:=ix.map λi=>i.bind λi=>(σ[i]?).bind id
def B7(wi:TI)(ix:List (Option Nat))(g:TG)(tc:TT)(te:TE):TE:=λσ H Q=>wi σ H λJ H1=>∀D,H1 D=none->∃W:Nat->Nat->L2.St->Hp->Prop,(∃m,W 0 m (j9 ix σ) (upd H1 D (.lst [])))/\
 ∀i m σ1 H2,W i m σ1 H2->(J.stop i H2/\Q (.ref D) H2)\/(J.go i H2/\∀x H3,J.yld i H2 x H3->g x σ1 H3 λσ2 H4=>tc σ2 H4 λb H5=>if b=true then te σ2 H5 λv H6=>
  ∃ys,H6 D=some (.lst ys)/\ys.length<sizeLine/\∃m',m'<m/\W (i+1) m' σ2 (upd H6 D (.lst (ys++[v]))) else ∃m',m'<m/\W (i+1) m' σ2 H5)
abbrev RA:Wp->WF->Prop:=λ_ _=>False
variable{α:Type}{A:Uf}{E:Wp->WF->Prop}{s:WF}
theorem SF{M:Model}{t:Sem α}{Q Q':α->WF->Prop}(h:wpAny M A t Q RA s)(k:∀a s,Q a s->Q' a s):wpAny M A t Q' E s:=aaf h k λ_ _ z=>z.elim
variable{prog:W1}{w:World}{elt iter:Expr}{ifs:List Expr}{scope:Scope}{env:Env}
theorem vV{R:Result->WF->Prop}{target:Expr}{it acc:Wp}(I:Nat->WF->Prop)
  (turn:∀n s,I n s->wpAny (model prog w) A (pyNext it) (λr s₁=>match r with
   |none=>R (.ok .next) s₁
   |some v=>wpAny (model prog w) A (letOwnedTupleGo target it v) (λ_ s₂=>wpAny (model prog w) A (assign target env v) (λ_ s₃=>
     wpAny (model prog w) A (forIn ifs true λc r=>if r=true then do let ok <-isTrue c env (eval c env);pure (ForInStep.yield ok) else pure (ForInStep.yield r)) (λok s₄=>
      if ok=true then wpAny (model prog w) A (eval elt env) (λx s₅=>
       wpAny (model prog w) A (call (.builtin "list.append") [acc,x]) (λ_ s₆=>∃m,m<n/\I m s₆) RA s₅) RA s₄
      else ∃m,m<n/\I m s₄) RA s₃) RA s₂) RA s₁) RA s)
  (n:Nat) (h:I n s):codeAny (model prog w) A (.compLoop (.ListComp elt [⟨target,iter,ifs,0⟩] scope pos) 0 it acc env) R s:=by
 refine codeAny_loop rfl I (λn s hI=>?_) n h;show wpAny _ A ((compTurn (.ListComp elt [⟨target,iter,ifs,0⟩] scope pos) 0 it acc env).onRaise (λx=>do noteFrame x env;theTreesLotGoes x)) _ _ s;refine wpAny_noted ?_;rw[compTurn_list];refine ZH (ab9 (ZH (SF (turn n s hI) λr s₁ h₁=>?_)));cases r with
 |none=>exact ZM h₁
 |some v=>
  refine ZH (SF h₁ λ_ s₂ h₂=>ZH (SF h₂ λ_ s₃ h₃=>ZH (SF h₃ λok s₄ h₄=>?_)));cases ok with
  |false=>exact ZM ⟨rfl,h₄⟩
  |true=>exact ZH (ZH (SF h₄ λx s₅ h₅=>ZH (SF h₅ λ_ s₆ h₆=>ZM (ZM ⟨rfl,h₆⟩))))
def Wb(X:Cx)(ifs:List Expr)(t:TT):Prop:=
 ∀(pr:List (WP×Obj)) (s:WF) (σ:L2.St) (H:Hp) (Q:Bool->Hp->Prop),Inv X pr σ H s->t σ H Q->
  wpAny (model X.prog X.w) X.A (forIn ifs true λc r=>if r=true then do let ok <-isTrue c X.env (eval c X.env);pure (ForInStep.yield ok) else pure (ForInStep.yield r)) (TP X pr σ Q) X.xe s
def KS:TT:=λ_ H Q=>Q true H
theorem B8:Wb X [] KS:=λ_ _ _ H _ I h=>wpAny_tests_nil ⟨H,I,h⟩
def vW(X:Cx)(scope:Scope)(N:List Str)(ix:List (Option Nat)):Bool:=
 N.length==ix.length&&(N.zip ix).all λy=>match y.2 with
  |none=>true
  |some j=>X.N[j]?==some y.1&&scope.names.lookup y.1==some .free
theorem pj(h:scope.names.lookup x=some .free):(relabel scope env).names.lookup x=some .cell\/(relabel scope env).names.lookup x=some .free:=by
 unfold relabel;dsimp only;generalize scope.names=l at h;induction l with
 |nil=>cases h
 |cons y l ih=>
  obtain⟨n,k⟩:=y;rw[aa3]at h;rw[aae];cases hx:x==n with
  |true=>
   rw[hx]at h;have hk:k=.free:=aax h;subst hk;dsimp only;split
   .exact .inl (by rw[aa3,hx])
   .exact .inr (by rw[aa3,hx])
  |false=>
   rw[hx]at h;dsimp only;split
   .rw[aa3,hx];exact ih h
   .rw[aa3,hx];exact ih h
theorem pk(hc:∀y∈scope.names,y.2≠.cell)(h:(relabel scope env).names.lookup x=some .cell\/(relabel scope env).names.lookup x=some .free):(x,NameKind.free)∈scope.names:=by
 unfold relabel at h;dsimp only at h;generalize scope.names=l at h hc;induction l with
 |nil=>rcases h with h|h <;> cases h
 |cons y l ih=>
  obtain⟨n,k⟩:=y;rw[aae]at h;dsimp only at h;have nk:k≠.cell:=hc (n,k) ZI;have Zc:=ih (hc:=λz hz=>hc z (ZN _ hz));by_cases cnd:(k==NameKind.free&&env.scope.kind==.function&&env.kindOf n==some .cell)=true
  .rw[ZY cnd,aa3]at h;have kf:k=.free:=by
    have:(k==NameKind.free)=true:=by
     simp![ZP]at cnd;exact cnd.1.1
    simpa using this
   cases hx:x==n with
   |true=>
    have:x=n:=by simpa using hx
    rw[this,kf];exact ZI
   |false=>
    rw[hx]at h;exact ZN _ (Zc h)
  .rw[Z6 cnd,aa3]at h;cases hx:x==n with
   |true=>
    rw[hx]at h;have:x=n:=by simpa using hx
    rcases h with h|h
    .exact absurd (aax h) nk
    .rw[this,<-aax h];exact ZI
   |false=>
    rw[hx]at h;exact ZN _ (Zc h)
variable{pr:List (WP×Obj)}{σ:L2.St}{H:Hp}{N:List Str}{ix:List (Option Nat)}{fp:List WP}
section
theorem kS(ok:X.Ok)(hf:gQ scope X.env=true):∀y∈scope.names,y.2=.free->∃c,X.env.cells.lookup y.1=some c:=λy hy k=>by
 have:=aad.mp hf y hy;rw[k]at this;simp![ade,Bool.false_or,Z3,aaK]at this;exact ok.has y.1 this
theorem ka(ok:X.Ok)(hf:gQ scope X.env=true){c:WP}(h:(clOf scope X.env).lookup x=some c):X.env.cells.lookup x=some c:=
 iA X.env x c scope.names [] (kS ok hf) (λz=>nomatch z) h
theorem vX(ok:X.Ok)(hf:gQ scope X.env=true)(h:(x,NameKind.free)∈scope.names):∃c,(clOf scope X.env).lookup x=some c/\X.env.cells.lookup x=some c:=by
 obtain⟨c,e⟩:=lj X.env x scope.names [] (.inr h);exact⟨c,e,ka ok hf e⟩
theorem _root_.L2.Inv.block(I:Inv X pr σ H s)(hf:gQ scope X.env=true)(hk:scope.kind=.function)(M9:∀y∈scope.names,y.2≠.cell)(OD:vW X scope N ix=true)(fo:∀b∈fp,qW X pr H b)(fin:∀b∈fp,∃o,s.heap.get? b=some o)
  {h1:UF}{t1:Nat}{D C:WP}(hD:D=s.heap.objs.size) (hC:C=s.heap.objs.size+1) (old:∀b o,s.heap.get? b=some o->h1.get? b=some o) {n:Nat}(acc:h1.get? D=some {cls:=.type "list",data:=.seq #[] n})
  {m:Str->Option Wp}(ns:h1.Ns C m):Inv (bI X scope N C s H fp (X.pn++pr)) [] (j9 ix σ) (upd H D (.lst [])) {s with heap:=h1,toks:=t1}:=by
 have RB:s.heap.objs.size<=C:=by rw[hC];exact abU _
 have freshD:s.heap.objs.size<=D:=by rw[hD];exact ZO _
 have nD:H D=none:=I.hok.fresh freshD;have DC:D≠C:=by rw[hD,hC];exact aac (aaw _)
 have UP:∀b,H b=none->b≠D->upd H D (.lst []) b=none:=λb n z=>by rw[aU z];exact n
 have VI:∀b o,s.heap.get? b=some o->b≠D:=λb o e=>aac (ZV (ZQ e) freshD)
 have Rt:∀b o,s.heap.get? b=some o->b≠C:=λb o e=>aac (ZV (ZQ e) RB)
 have cellAt:∀x c,(clOf scope X.env).lookup x=some c->∃v o,s.heap.get? c=some o/\o.data=.cell v:=λx c e=>by
  obtain⟨v,o,ho,hd⟩:=I.cell x c (ka I.ok hf e);exact⟨v,o,ho,hd⟩
 have okY:(bI X scope N C s H fp (X.pn++pr)).Ok:=by
  refine⟨I.ok.mod,hk,I.ok.glob,I.ok.blt,RB,λx y c e1 e2=>?_,λx hx=>?_,λx c z _=>?_,I.ok.hd,I.ok.frames,.inl rfl,λb hb=>?_,I.bs,?_,λb o e hb=>?_,λb hb hs=>?_,I.stack,I.stkFree⟩
  .exact I.ok.inj x y c (ka I.ok hf e1) (ka I.ok hf e2)
  .obtain⟨c,e,_⟩:=vX I.ok hf (pk M9 hx);exact⟨c,e⟩
  .exact absurd (show false=true from z) ZU
  .obtain⟨f0,f1,f2,f3,f4,f5⟩:=fo b hb;refine⟨?_,λx c e=>f4 x c (ka I.ok hf e)⟩;intro z;have z:b=C:=z;obtain⟨o,ho⟩:=fin b hb;exact Rt b o ho z
  .exact aaP I.ok.bsz I.sz
  .obtain⟨f0,f1,f2,f3,f4,f5⟩:=fo b hb;rcases f3 with q|q
   .exact I.ok.noex b o e q
   .exact absurd (ZV (ZQ e) (aaP I.ok.bsz q)) (aba _)
  .obtain⟨f0,f1,f2,_⟩:=fo b hb;exact(ZJ.mp (I.stkSub b hs)).elim f1 f2
 refine⟨okY,rfl,I.bare,Un.laid old freshD nD,⟨m,ns,λi x v e1 e2 e3=>?_⟩,λx c e=>?_,?_,λx c e=>?_,λp hp=>?_,I.hok.laid old freshD ⟨aaB _,[],n,.nil,acc⟩,?_⟩
 ·
  have e2:(ix.map λi=>i.bind λi=>(σ[i]?).bind id)[i]?=some (some v):=e2;have e1:N[i]?=some x:=e1;unfold vW at OD;rw[ZP]at OD;rw[Z9]at e2;cases q:ix[i]? with
  |none=>rw[q]at e2;cases e2
  |some o=>
   rw[q]at e2;have e2:(o.bind λi=>(σ[i]?).bind id)=some v:=aax e2;cases o with
   |none=>cases e2
   |some j=>
    have e2:(σ[j]?).bind id=some v:=e2;have hσ:σ[j]?=some (some v):=by
     cases w':σ[j]? with
     |none=>rw[w']at e2;cases e2
     |some y=>rw[w']at e2;exact abB some e2
    have hz:(N.zip ix)[i]?=some (x,some j):=by
     rw[ac5];exact⟨e1,q⟩
    have hy:=aad.mp OD.2 _ (aaA hz);simp![ZP,aaK]at hy;have Tq:(x,NameKind.free)∈scope.names:=abw hy.2;obtain⟨c,c1,c2⟩:=vX I.ok hf Tq;have RC:X.env.kindOf x=some .cell\/X.env.kindOf x=some .free:=by
     have:=aad.mp hf _ Tq;simpa using this
    obtain⟨mo,VG,Za⟩:=I.loc;obtain⟨u,r,l⟩:=Za j x v hy.1 hσ (.inr RC);refine⟨u,r,.inr ⟨pj hy.2,c,c1,?_⟩⟩;rcases l with⟨k1,_⟩|⟨_,c',e',Qx⟩
    .rcases RC with k2|k2 <;> (rw[k1]at k2;cases k2)
    .rw[c2]at e';cases e';obtain⟨o,ho,hd⟩:=Qx;exact⟨o,old c o ho,hd⟩
 .obtain⟨v,o,ho,hd⟩:=cellAt x c e;exact⟨v,o,old c o ho,hd⟩
 .exact UP C (I.hok.fresh RB) (abp DC)
 .obtain⟨v,o,ho,hd⟩:=cellAt x c e;exact UP c (I.freeC x c (ka I.ok hf e)) (VI c o ho)
 .have hp:p∈X.pn++pr:=by
   have:p∈(X.pn++pr)++[]:=hp
   rwa [aak]at this
  obtain⟨e,nn,ne,nf,d⟩:=I.pin p hp;refine⟨old _ _ e,UP _ nn (VI _ _ e),Rt _ _ e,λz=>?_,d⟩;exact(ZJ.mp (I.stkSub p.1 z)).elim ne nf
 .unfold vW at OD;rw[ZP]at OD;have:N.length=ix.length:=by simpa using OD.1
  show(ix.map _).length=N.length;rw[ZT,this]
theorem _root_.L2.Inv.unblock{C:WP}{σ1:L2.St}{H1:Hp}{s1:WF}{h2:UF}(I:Inv X pr σ H s)(fo:∀b∈fp,qW X pr H b)(hC:s.heap.objs.size<=C)(J:Inv (bI X scope N C s H fp (X.pn++pr)) [] σ1 H1 s1)(hs:Heap.SameBut C s1.heap h2):
  Inv X pr σ H1 {s1 with heap:=h2}:=by
 have Rt:∀b o,s.heap.get? b=some o->b≠C:=λb o e=>aac (ZV (ZQ e) hC)
 have bb:Un (Na X.stack) fp H H1 s.heap s1.heap:=J.base;have jf:H1 C=none:=J.free;refine I.call' (s':={s1 with heap:=h2}) (ch:=fp) J.os ⟨λb o e n hb hx=>?_,λb o e n hb hx=>?_,bb.free,λb o e hx=>?_,bb.tups,bb.frzs,bb.tbls⟩ (λb ob e=>?_) J.bare λb hb=>?_
 .exact(hs.2 b (Rt b o e)).trans (bb.keep b o e n hb hx)
 .obtain⟨sl,q⟩:=bb.slot b o e n hb hx;exact⟨sl,(hs.2 b (Rt b o e)).trans q⟩
 .obtain⟨o',q⟩:=bb.there b o e hx;exact⟨o',(hs.2 b (Rt b o e)).trans q⟩
 .refine(J.hok b ob e).stay (λc w' hc q=>(hs.2 c ?_).trans q) (λ_ q=>q) λ_ _ q=>q
  rintro rfl;rcases hc with rfl|hc
  .rw[jf]at e;cases e
  .rw[jf]at hc;cases hc
 .obtain⟨f0,f1,f2,f3,f4,f5⟩:=fo b hb;exact⟨f3,f1,f4,f5⟩
end
variable{tg:Expr}{wi:TI}{g:TG}{tc:TT}{te:TE}{it:WP}
section
theorem mR{H2:Hp}{s2:WF}{J:It}{tn:Nat->UF->Prop}{Q:VK}{RR:Wp->WP->Result->WF->Prop}{E:Wp->WF->Prop}
  (hc:X.calm=true) (I2:Inv X pr σ H2 s2) (T:Turn X.prog X.w X.K tg J fp it tn) (Md:tn 0 s2.heap) (f2:∀b∈fp,qW X pr H2 b)
  (hg:∀C s H fp pn,PG (bI X scope N C s H fp pn) tg g) (ht:∀C s H fp pn,Wb (bI X scope N C s H fp pn) ifs tc) (he:∀C s H fp pn,PE (bI X scope N C s H fp pn) elt te)
  (hf:gQ scope X.env=true) (hk:scope.kind=.function) (M9:∀y∈scope.names,y.2≠.cell) (OD:vW X scope N ix=true)
  (q:∀D,H2 D=none->∃W:Nat->Nat->L2.St->Hp->Prop,(∃m,W 0 m (j9 ix σ) (upd H2 D (.lst [])))/\
   ∀i m σ1 H3,W i m σ1 H3->(J.stop i H3/\Q (.ref D) H3)\/(J.go i H3/\∀x H4,J.yld i H3 x H4->g x σ1 H4 λσ2 H5=>tc σ2 H5 λb H6=>if b=true then te σ2 H6 λv H7=>
    ∃ys,H7 D=some (.lst ys)/\ys.length<sizeLine/\∃m',m'<m/\W (i+1) m' σ2 (upd H7 D (.lst (ys++[v]))) else ∃m',m'<m/\W (i+1) m' σ2 H6))
  (hRR:∀(D C:WP) (σ1:L2.St) (H1:Hp) (s1:WF),s2.heap.objs.size<=C->Inv (bI X scope N C s2 H2 fp (X.pn++pr)) [] σ1 H1 s1->Q (.ref D) H1->RR (.ref D) C (.ok .next) s1):
  wpAny (model X.prog X.w) X.A (newList []) (λacc s₃=>wpAny (model X.prog X.w) X.A (newFunctionEnv scope X.env.globals (clOf scope X.env) [] X.env.qual none .none (some X.env)) (λcenv s₄=>
   codeAny (model X.prog X.w) X.A (.compStart (.ListComp elt [⟨tg,iter,ifs,0⟩] scope pos) 0 (.ref it) acc {cenv with scope:=relabel scope X.env}) (RR acc cenv.locals) s₄) E s₃) E s2:=by
 refine aaI (wpAny_newFunctionEnv M9 (by intro y hy;simp at hy) (λh₁ hns₁ hsb₁=>?_) hk);dsimp only at hns₁ hsb₁ |-;generalize hH2:s2.heap.push {cls:=.type "list",dict:=none,data:=.seq ([]:List Wp).toArray}=HH at hns₁ hsb₁ |-;have hC:HH.objs.size=s2.heap.objs.size+1:=by rw[<-hH2,abK]
 have X8:s2.heap.objs.size≠HH.objs.size:=by rw[hC];exact aac (aaw _)
 have SG:s2.heap.objs.size<=HH.objs.size:=by rw[hC];exact abU _
 have Rt:∀b o,s2.heap.get? b=some o->b≠HH.objs.size:=λb o e=>aac (ZV (ZQ e) SG)
 have old:∀b o,s2.heap.get? b=some o->h₁.get? b=some o:=λb o e=>hsb₁.extBut b o (Rt b o e) (ZL _ (hH2▸ZL _ e))
 have Qz:h₁.get? s2.heap.objs.size=some {cls:=.type "list",data:=.seq #[] 0}:=hsb₁.extBut _ _ X8 (ZL _ (hH2▸Z0 _ rfl));obtain⟨W,⟨m0,w0⟩,turn⟩:=q s2.heap.objs.size (I2.hok.fresh (ZO _));have fin:∀b∈fp,∃o,s2.heap.get? b=some o:=λb hb=>let⟨o,e,_⟩:=T.obj 0 _ Md b hb;⟨o,e⟩
 have Qj:∀{H':Hp},(∀b∈fp,H' b=none)->∀b∈fp,qW (bI X scope N HH.objs.size s2 H2 fp (X.pn++pr)) [] H' b:=λ{H'} hn b hb=>by
  obtain⟨f0,f1,ff,f3,f4,f5⟩:=f2 b hb;refine⟨hn b hb,?_,λz=>?_,.inl hb,λx c e=>f4 x c (ka I2.ok hf e),λp hp=>?_⟩
  .intro z;have z:b=HH.objs.size:=z;obtain⟨o,ho⟩:=fin b hb;exact Rt b o ho z
  .exact(ZJ.mp (I2.stkSub b z)).elim f1 ff
  .have hp:p∈X.pn++pr:=by
    have:p∈(X.pn++pr)++[]:=hp
    rwa [aak]at this
   exact f5 p hp
 have loop:∀s₃:WF,s₃={s2 with heap:=h₁,toks:=s2.toks+([]:List (Str×Wp)).length}->
   codeAny (model X.prog X.w) X.A (.compLoop (.ListComp elt [⟨tg,iter,ifs,0⟩] scope pos) 0 (.ref it) (.ref s2.heap.objs.size) (compEnvC scope (clOf scope X.env) HH.objs.size X.env)) (RR (.ref s2.heap.objs.size) HH.objs.size) s₃:=by
  rintro s₃ rfl;refine vV (λn s'=>∃i σ' H',Inv (bI X scope N HH.objs.size s2 H2 fp (X.pn++pr)) [] σ' H' s'/\tn i s'.heap/\(∀b∈fp,H' b=none)/\W i n σ' H') ?_ m0
   ⟨0,_,_,I2.block hf hk M9 OD f2 fin rfl hC old Qz hns₁,T.keep 0 _ _ Md λb _ o e=>old b o e,λb hb=>?_,w0⟩
  .rintro n s3 ⟨i,σ3,H3,I3,Nj,UH,w3⟩;rcases turn i n σ3 H3 w3 with⟨stop,qn⟩|⟨go,step⟩
   .refine Mz (T.done (bI X scope N HH.objs.size s2 H2 fp (X.pn++pr)) rfl rfl rfl hc i [] s3 σ3 H3 RA I3 (Qj UH) Nj stop) λr s4 MC=>?_
    obtain⟨hr,I4⟩:=MC;subst hr;exact hRR _ _ σ3 H3 s4 SG I4 qn
   .refine Mz (T.item (bI X scope N HH.objs.size s2 H2 fp (X.pn++pr)) rfl rfl rfl hc i [] s3 σ3 H3 RA I3 (Qj UH) Nj go) λr s4 MC=>?_
    obtain⟨u,hr,h4⟩:=MC;subst hr;refine Mz h4 λ_ s5 MC=>?_
    obtain⟨x,H5,I5,r5,y5,OR,V1⟩:=MC;have V2:=I5.pinned (Qj V1) (T.obj _ _ OR);refine Mz (hg _ _ _ _ _ _ s5 σ3 H5 x u _ V2 r5 (step x H5 y5)) λ_ s6 MC=>?_
    obtain⟨σ6,H6,I6,q6⟩:=MC;refine Mz (ht _ _ _ _ _ _ s6 σ6 H6 _ I6 q6) λok s7 MC=>?_
    obtain⟨H7,I7,q7⟩:=MC;have again:∀{H8:Hp}{s8:WF},Inv (bI X scope N HH.objs.size s2 H2 fp (X.pn++pr)) ([]++mO fp s5.heap) σ6 H8 s8->(∃m',m'<n/\W (i+1) m' σ6 H8)->
      ∃m,m<n/\∃i σ' H',Inv (bI X scope N HH.objs.size s2 H2 fp (X.pn++pr)) [] σ' H' s8/\tn i s8.heap/\(∀b∈fp,H' b=none)/\W i m σ' H':=λ{H8 s8} I8 ⟨m',hm,w8⟩=>by
     refine⟨m',hm,i+1,σ6,H8,I8.unpinned,T.keep _ _ _ OR λb hb o e=>(I8.pin (b,o) (ZK _ (ZK _ (eT hb e)))).1,λb hb=>?_,w8⟩;obtain⟨o,e,d⟩:=T.obj _ _ OR b hb;exact(I8.pin (b,o) (ZK _ (ZK _ (eT hb e)))).2.1
    cases ok with
    |false=>exact again I7 q7
    |true=>
     show wpAny _ _ _ _ _ _;refine Mz (he _ _ _ _ _ _ s7 σ6 H7 _ I7 q7) λx8 s8 MC=>?_
     obtain⟨v8,H8,I8,r8,ys,Wc,NI,q8⟩:=MC;refine Mz (gW _ s8 σ6 H8 (.ref s2.heap.objs.size) [v8] (.ref s2.heap.objs.size) [x8] (λ_ H9=>∃m',m'<n/\W (i+1) m' σ6 H9) I8 rfl (.cons r8 .nil) ⟨_,ys,v8,rfl,rfl,Wc,NI,q8⟩) λ_ s9 MC=>?_
     obtain⟨_,H9,I9,_,q9⟩:=MC;exact again I9 q9
  .rw[aU (λz=>by
    obtain⟨o,ho⟩:=fin b hb;exact absurd z (aac (ZQ ho)))]
   exact(f2 b hb).1
 exact codeAny_compStart_list (loop _ rfl) (T.self _ 0 _ _ _ (T.keep 0 _ _ Md λb _ o e=>old b o e) (loop _ rfl))
theorem B9(ix:List (Option Nat))(N:List Str)(hc:X.calm=true)(hi:PI X tg iter wi)(hg:∀C s H fp pn,PG (bI X scope N C s H fp pn) tg g)(ht:∀C s H fp pn,Wb (bI X scope N C s H fp pn) ifs tc)(he:∀C s H fp pn,PE (bI X scope N C s H fp pn) elt te)
  (hf:gQ scope X.env=true:=by rfl) (hk:scope.kind=.function:=by rfl) (M9:∀y∈scope.names,y.2≠.cell:=by decide +kernel) (Nf:∀y∈scope.names,y.2=.local->scope.names.lookup y.1=some .local:=by decide +kernel) (OD:vW X scope N ix=true:=by rfl)
  (hs:∀x,foldedSetIterable iter X.env x=pure x:=by intro _;rfl):PE X (.ListComp elt [⟨tg,iter,ifs,0⟩] scope pos) (B7 wi ix g tc te):=by
 intro pr s σ H Q I h;rw[eval_ListComp];have PD:closureFor scope X.env=pure (clOf scope X.env):=by
  unfold closureFor clOf;have:=fW X.env scope.names [] (kS I.ok hf);simpa using this
 refine wpAny_comprehension_free (use:=none) rfl hs PD hk Nf (Mz (hi pr s σ H _ I h) λv s1 h1=>Mz h1 λVZ s2 h2=>?_);obtain⟨it,fp,tn,J,H2,e,I2,T,Md,f2,q⟩:=h2;subst e;refine mR (RR:=λacc C=>compPost (model X.prog X.w) X.A X.xe none (EP X pr σ Q) acc C) (Q:=Q) (iter:=iter) hc I2 T Md f2 hg ht he hf hk M9 OD q λD C σ1 H1 s1 hC J1 q1=>?_
 obtain⟨m,ns,_⟩:=J1.loc;exact⟨m,ns,λh' Wd=>⟨.ref D,H1,I2.unblock f2 hC J1 Wd,rfl,q1⟩⟩
end
variable{i:Nat}
section
theorem Ca{y:Str}{py Qk:Pos}(ix:List (Option Nat))(N:List Str)(hN:X.N.Nodup)(X9:X.N[i]?=some y)(hy:Loc X.env.scope y)(hc:X.calm=true)(hi:PI X tg iter wi)(hg:∀C s H fp pn,PG (bI X scope N C s H fp pn) tg g)(ht:∀C s H fp pn,Wb (bI X scope N C s H fp pn) ifs tc)
  (he:∀C s H fp pn,PE (bI X scope N C s H fp pn) elt te) (UQ:swapsWith (.ListComp elt [⟨tg,iter,ifs,0⟩] scope pos) (some (.Name y py)) Qk.line X.env=pure true:=by rfl)
  (hf:gQ scope X.env=true:=by rfl) (hk:scope.kind=.function:=by rfl) (M9:∀y∈scope.names,y.2≠.cell:=by decide +kernel) (Nf:∀y∈scope.names,y.2=.local->scope.names.lookup y.1=some .local:=by decide +kernel) (OD:vW X scope N ix=true:=by rfl)
  (hs:∀x,foldedSetIterable iter X.env x=pure x:=by intro _;rfl) (Ry:X.fn y=true\/X.env.scope.names.lookup y=some .local:=by first|exact .inl rfl|exact .inr rfl):
  PS X (.Assign [.Name y py] (.ListComp elt [⟨tg,iter,ifs,0⟩] scope pos) Qk) (λD σ H=>B7 wi ix g tc te σ H λv H'=>D.nx (σ.set i (some v)) H'):=by
 intro pr s σ H Dd I h;rw[exec_Assign_Name_used _ _ _ _ UQ];have PD:closureFor scope X.env=pure (clOf scope X.env):=by
  unfold closureFor clOf;have:=fW X.env scope.names [] (kS I.ok hf);simpa using this
 refine ZH (ab9 (ZH ?_));show wpAny _ X.A (do let _ <-comprehension (.ListComp elt [⟨tg,iter,ifs,0⟩] scope pos) scope X.env _ (newList []) false (eval iter X.env) (some (assign (.Name y py) X.env))) _ _ s;refine ZH (aaf (wpAny_comprehension_free (use:=some (assign (.Name y py) X.env)) (Q:=λ_ s'=>SP X pr Dd .next s') rfl hs PD hk Nf
  (Mz (hi pr s σ H _ I h) λv s1 h1=>Mz h1 λVZ s2 h2=>?_)) (λ_ s' hq=>ZM (ZM hq)) λ_ _ e=>e)
 obtain⟨it,fp,tn,J,H2,e,I2,T,Md,f2,q⟩:=h2;subst e;refine mR (RR:=λacc C=>compPost (model X.prog X.w) X.A X.xe (some (assign (.Name y py) X.env)) (λ_ s'=>SP X pr Dd .next s') acc C) (Q:=λv H'=>Dd.nx (σ.set i (some v)) H') (iter:=iter) hc I2 T Md f2 hg ht he hf hk M9 OD q λD C σ1 H1 s1 hC J1 q1=>?_
 obtain⟨m,ns,_⟩:=id J1.loc;have ns:s1.heap.Ns C m:=ns;have I3:Inv X pr σ H1 s1:=I2.unblock f2 hC J1 (.refl ..);show wpAny _ X.A (assign (.Name y py) X.env (.ref D)) _ _ s1;refine wpAny_assign_Name (oY I3 hN X9 hy (v:=.ref D) rfl (λs4 I4 ⟨a,sb,ha⟩=>?_) Ry);have aC:C≠a:=by
  intro z;rcases ha with ha|ha
  .exact aac (ZV I2.lt hC) (ha▸z.symm)
  .obtain⟨v,o,ho,_⟩:=I2.cell y a ha;exact aac (ZV (ZQ ho) hC) z.symm
 refine⟨m,ns.sameBut sb aC,λh' Wd=>?_⟩;have jf:H1 C=none:=J1.free;have kk:∀b o,b≠C->s4.heap.get? b=some o->h'.get? b=some o:=λb o hb e=>(Wd.2 b hb).trans e
 refine⟨σ.set i (some (.ref D)),H1,?_,q1⟩;have z:=I4.turned (t':=s4.toks) kk jf (λz=>aac (ZV I2.lt hC) z.symm) (.inr (aaP I2.sz hC)) (λx c e z=>by
  obtain⟨v,o,ho,_⟩:=I2.cell x c e;exact aac (ZV (ZQ ho) hC) z) (λp hp z=>aac (ZV (ZQ (I2.pin p hp).1) hC) z)
 exact z
end
def Itv(val:Nat->V)(n:Nat):It:=⟨λi _=>i<n,λi H x H'=>H'=H/\x=val i,λi _=>i=n⟩
variable{P:W1}{K:W.Frag}
theorem sL(ty:String)(V7:["enumerate","zip","dict_itemiterator","dict_reverseitemiterator","odict_iterator","itertools.zip_longest","itertools.pairwise"].contains ty=false)(l:List Nat)(t:Tok)(it:WP)
  (Wk:∀A:Uf,A.handled=none->Walks P w A it [it] [it] (S l).cps.size (SignAt (S l)) (λi h=>h.IsStrIter it ty (S l) t i))
  (self:∀(A:Uf) (i:Nat) (s:WF) (Q:Wp->WF->Prop) (E:Wp->WF->Prop),s.heap.IsStrIter it ty (S l) t i->Q (.ref it) s->wpAny (model P w) A (pyIter (.ref it)) Q E s):
  Turn P w K tg (Itv (λi=>.str (S [l.getD i 0])) l.length) [it] it (λi h=>h.IsStrIter it ty (S l) t i) where
 mem:=by simp
 obj:=λi h st b hb=>by
  have e:b=it:=by simpa using hb
  subst e;obtain⟨o,e,c,d⟩:=st;exact⟨o,e,λv z=>by rw[d]at z;cases z⟩
 keep:=λi h h' st k=>by
  obtain⟨o,e,r⟩:=st;exact⟨o,k it (by simp) o e,r⟩
 item:=by
  intro X hP hw hK hc i pr s σ H E I hf st hg;subst hP hw hK;obtain⟨f0,f1,f2,f3,f4,f5⟩:=hf it (by simp);have hg:i<l.length:=hg;refine(Wk X.A (I.ok.hd hc)).item i s _ _ (by simpa[S] using hg) st λv h' tk hv Pf kk=>?_
  obtain⟨c,u,Qi,rfl⟩:=hv;have I1:Inv X pr σ H {s with heap:=h',toks:=tk}:=I.turned (λb o hb e=>kk b o (by simpa using hb) e) f0 f1 f3 f4 f5;obtain⟨o,e,cc,d⟩:=id Pf;have Ql:l.getD i 0=c:=by
   have:l[i]?=some c:=by simpa[S] using Qi
   rw[aab,this];rfl
  refine⟨_,rfl,yF (s:={s with heap:=h',toks:=tk}) e cc d V7 ⟨.str (S [l.getD i 0]),H,I1,⟨u,?_⟩,⟨rfl,rfl⟩,Pf,λb hb=>(hf b hb).1⟩⟩;rw[Ql]
 done:=by
  intro X hP hw hK hc i pr s σ H E I hf st hg;subst hP hw hK;obtain⟨f0,f1,f2,f3,f4,f5⟩:=hf it (by simp);have hg:i=l.length:=hg;have hn:(S l).cps.size=i:=by rw[hg];simp[S]
  refine(Wk X.A (I.ok.hd hc)).done s _ _ (by rw[hn];exact st) λh' tk kk=>⟨rfl,I.turned (λb o hb e=>kk b o (by simpa using hb) e) f0 f1 f3 f4 f5⟩
 self:=self
def KU(tl:TE):TI:=λσ H R=>tl σ H λx H1=>∃l,x=.str (S l)/\R (Itv (λi=>.str (S [l.getD i 0])) l.length) H1
variable{h':UF}{us:List Wp}{ns:List Int}
section
theorem E2{l:Expr}{tl:TE}(hl:PE X l tl):PI X tg l (KU tl):=by
 intro pr s σ H R I h;refine Mz (hl pr s σ H _ I h) λv s1 MC=>?_
 obtain⟨x,H1,I1,r1,l,e,q⟩:=MC;subst e;obtain⟨t,rfl⟩:=r1;cases ha:(S l).cps.all (·< 128)
 .refine wpAny_pyIter_wide ha ?_;refine⟨s1.heap.objs.size,[s1.heap.objs.size],_,_,H1,rfl,I1.kept (t':=s1.toks) λb o e=>ZL _ e,
   sL "str_iterator" (by decide) l t _ (λA hA=>Walks.strWide hA _ _ _) (λ_ _ _ _ _ st h=>wpAny_pyIter_striter_wide st h),⟨_,Z0 _ rfl,rfl,rfl⟩,λb hb=>?_,q⟩
  have e:b=s1.heap.objs.size:=by simpa using hb
  subst e;exact I1.fpOk (ZO _) (I1.hok.fresh (ZO _))
 .refine wpAny_pyIter_ascii ha ?_;refine⟨s1.heap.objs.size,[s1.heap.objs.size],_,_,H1,rfl,I1.kept (t':=s1.toks) λb o e=>ZL _ e,
   sL "str_ascii_iterator" (by decide) l t _ (λA hA=>Walks.strAscii hA _ _ _) (λ_ _ _ _ _ st h=>wpAny_pyIter_striter_ascii st h),⟨_,Z0 _ rfl,rfl,rfl⟩,λb hb=>?_,q⟩
  have e:b=s1.heap.objs.size:=by simpa using hb
  subst e;exact I1.fpOk (ZO _) (I1.hok.fresh (ZO _))
theorem nP{p:WP}{xs:List V}{E:Wp->WF->Prop}{R:Wp->WF->Prop}(hc:X.calm=true)(I:Inv X pr σ H s)(h:SqL X.K H p xs\/SqT X.K H p xs)
  (k:∀(it:WP) (fp:List WP) (o:Obj) (us:List Wp) (Sx:Nat->UF->Prop),Vals xs us->Walks X.prog X.w X.A.in1 it fp [it] us.length (λi v=>us[i]?=some v) Sx->Sx 0 (s.heap.push o)->(∀b∈fp,b<(s.heap.push o).objs.size)->it=s.heap.objs.size->R (.ref it) {s with heap:=s.heap.push o}):
  wpAny (model X.prog X.w) X.A.in1 (pyIter (.ref p)) R E s:=by
 have hh:X.A.in1.handled=none:=I.ok.hd hc;rcases h with h|h
 .obtain⟨us,r,pl,hz⟩:=I.list h;have NI:p<s.heap.objs.size:=by obtain⟨o,ho,_⟩:=pl.isList;exact ZQ ho
  refine abL pl.isList (k s.heap.objs.size [s.heap.objs.size,p] _ us (λi h=>h.IsListIter s.heap.objs.size p i/\h.IsList p us.toArray) r (by
   have W:=Walks.list (prog:=X.prog) (w:=X.w) hh s.heap.objs.size p (aac NI) us.toArray;simpa using W) ⟨⟨_,Z0 _ rfl,rfl,rfl⟩,pl.isList.at λo e=>ZL _ e⟩ (λb hb=>?_) rfl)
  rw[abK];rcases ZJ.mp hb with rfl|hb
  .exact aaw _
  .rw[aan]at hb;rw[hb];exact adg NI
 .obtain⟨us,r,pl,hz⟩:=I.tuple h;have UO:s.heap.IsTuple p us.toArray:=pl;have NI:p<s.heap.objs.size:=by obtain⟨o,ho,_⟩:=pl;exact ZQ ho
  refine abC UO (k s.heap.objs.size [s.heap.objs.size,p] _ us (λi h=>h.IsTupleIter s.heap.objs.size p i/\h.IsTuple p us.toArray) r (by
   have W:=Walks.tuple (prog:=X.prog) (w:=X.w) hh s.heap.objs.size p (aac NI) us.toArray;simpa using W) ⟨⟨_,Z0 _ rfl,rfl,rfl⟩,UO.at λo e=>ZL _ e⟩ (λb hb=>?_) rfl)
  rw[abK];rcases ZJ.mp hb with rfl|hb
  .exact aaw _
  .rw[aan]at hb;rw[hb];exact adg NI
theorem jO{o:Obj}{tk:Nat}(I:Inv X pr σ H s)(kk:∀b ob,b∉[s.heap.objs.size]->(s.heap.push o).get? b=some ob->h'.get? b=some ob):
  Inv X pr σ H {s with heap:=h',toks:=tk}:=I.kept λb ob e=>kk b ob (λz=>aac (ZQ e) (by simpa using z)) (ZL _ e)
theorem dy(l:List α)(i:Nat)(d:α)(h:i<l.length):l.getD i d=l[i]:=by
 rw[aab,ZW h];rfl
def E3:V->Bool
 | .bl b=>b
 |_=>false
def Ij:V->Bool
 | .bl _=>true
 |_=>false
theorem yQ{xs:List V}(r:Vals xs us)(hb:xs.all Ij=true):TruthOf X.prog X.w X.A.in1 (λi v=>us[i]?=some v) (λi=>E3 (xs.getD i .non)):=by
 intro i v s Q E hv q;have hl:=r.length;obtain⟨hi,_⟩:=Z1.mp hv;have e1:xs[i]?=some (xs[i]'(by lia)):=ZW _;obtain⟨u,hu,ru⟩:=r.get e1;rw[hv]at hu;cases hu;have q:Q (E3 (xs.getD i .non)) s:=q;rw[B5 e1]at q;have bl:=aad.mp hb _ (aaA e1);generalize xs[i]'(by lia)=x at ru q bl;cases x <;> first|(exact absurd (show false=true from bl) ZU)|skip
 cases ru;exact aa6 q
theorem vY{xs:List V}(f:V->Bool):(List.range xs.length).all (λi=>f (xs.getD i .non))=xs.all f:=by
 rw[aay,aad,aad];constructor
 .intro h x hx;obtain⟨i,hi,rfl⟩:=List.getElem_of_mem hx;have:=h i (aaY.mpr hi)
  rwa [dy _ _ _ hi]at this
 .intro h i hi;have hi:=aaY.mp hi;rw[dy _ _ _ hi];exact h _ (aam hi)
theorem yR(hc:X.calm=true):dF X (.builtin "all") (λvs H Q=>∃p xs,vs=[.ref p]/\(SqL X.K H p xs\/SqT X.K H p xs)/\xs.all Ij=true/\Q (.bl (xs.all E3)) H):=by
 intro pr s σ H vs us Q I r h;obtain⟨p,xs,rfl,hp,hb,q⟩:=h;obtain⟨u,rfl,r1⟩:=fV r;cases r1;refine call_all_walk (nP hc I hp λit fp o ws Sx rv W st hf hit=>⟨it,fp,[it],_,_,Sx,_,rfl,W,st,yQ rv hb,λh' tk kk=>?_⟩);subst hit;refine⟨.bl (xs.all E3),H,jO (s:=s) I kk,?_,q⟩;rw[<-rv.length,vY];rfl
theorem nQ(r:Vals (ns.map V.int) us){v:Wp}(h:us[i]?=some v):∃t,v=.int (ns.getD i 0) t:=by
 have hl:=r.length;rw[ZT]at hl;obtain⟨hi,_⟩:=Z1.mp h;have e1:(ns.map V.int)[i]?=some (.int (ns.getD i 0)):=by
  rw[Z9,ZW (by lia),dy _ _ _ (by lia)];rfl
 obtain⟨u,hu,t,rfl⟩:=r.get e1;rw[h]at hu;exact⟨t,aax hu⟩
theorem sM(r:Vals (ns.map V.int) us)(A:Uf):CmpOf X.prog X.w A .Gt (λi v=>us[i]?=some v) (λi j=>decide (ns.getD j 0<ns.getD i 0)):=by
 intro i j vi vj s Q E hi hj q;obtain⟨t,rfl⟩:=nQ r hi;obtain⟨t',rfl⟩:=nQ r hj;exact gt_int q
def qZ(ns:List Int):Int:=ns.foldl max (ns.headD 0)
def Ik(ns:List Int):Int:=ns.foldl min (ns.headD 0)
theorem nR(ns:List Int):∀k,k<ns.length->argBest (λi j=>decide (ns.getD j 0<ns.getD i 0)) k<ns.length/\ns.getD (argBest (λi j=>decide (ns.getD j 0<ns.getD i 0)) k) 0=(ns.take (k+1)).foldl max (ns.headD 0)
 | 0,h=>by
  refine⟨h,?_⟩;cases ns with
  |nil=>cases h
  |cons a l=>show a=max a a;lia
 |k+1,h=>by
  obtain⟨ih1,ih2⟩:=nR ns k (by lia);have et:ns.take (k+1+1)=ns.take (k+1)++[ns.getD (k+1) 0]:=by
   rw[adb,ZW h,dy _ _ _ h];rfl
  rw[et,List.foldl_append,<-ih2];show(if decide (ns.getD (argBest (λi j=>decide (ns.getD j 0<ns.getD i 0)) k) 0<ns.getD (k+1) 0)=true then k+1 else argBest (λi j=>decide (ns.getD j 0<ns.getD i 0)) k)<ns.length/\
   ns.getD (if decide (ns.getD (argBest (λi j=>decide (ns.getD j 0<ns.getD i 0)) k) 0<ns.getD (k+1) 0)=true then k+1 else argBest (λi j=>decide (ns.getD j 0<ns.getD i 0)) k) 0=max _ _
  split
  .rename_i hd;have:=aa8 hd;exact⟨h,by lia⟩
  .rename_i hd;rw[Z2]at hd;exact⟨ih1,by lia⟩
theorem vZ(hc:X.calm=true):dF X (.builtin "max") (λvs H Q=>∃(p:WP) (ns:List Int),vs=[.ref p]/\(SqL X.K H p (ns.map V.int)\/SqT X.K H p (ns.map V.int))/\ns≠[]/\Q (.int (qZ ns)) H):=by
 intro pr s σ H vs us Q I r h;obtain⟨p,ns,rfl,hp,Ox,q⟩:=h;obtain⟨u,rfl,r1⟩:=fV r;cases r1;have hn:0<ns.length:=by cases ns with|nil=>exact absurd rfl Ox|cons _ _=>simp
 refine call_max_walk (nP hc I hp λit fp o ws Sx rv W st hf hit=>?_);have hl:=rv.length;rw[ZT]at hl;refine⟨it,fp,[it],_,_,Sx,_,rfl,W,st,hf,by lia,sM rv _,λv h' tk hv kk=>?_⟩;subst hit;obtain⟨b1,b2⟩:=nR ns (ns.length-1) (by lia);rw[<-hl]at hv;obtain⟨t,rfl⟩:=nQ rv hv;refine⟨.int (qZ ns),H,jO (s:=s) I kk,⟨t,?_⟩,q⟩;rw[b2,show ns.length-1+1=ns.length by lia,ab1];rfl
end
variable{kw:List (Str×Wp)}
section
variable{R:Result->WF->Prop}{wr:List WP}{n:Nat}{Pv:Nat->Wp->Prop}{Sx:Nat->UF->Prop}
theorem nS:(toString "max"++toString ".loop" : String) = "max.loop":=by decide
theorem Il(Wk:Walks prog w A.in1 it fp wr n Pv Sx)(bt:Nat->Nat->Bool)(cm:CmpOf prog w A.in1 .Gt Pv bt)(T:WP)(nT:T∉fp):∀(k j:Nat) (s:WF) (vb:Wp) (c:Nat),n-(j+1)=k->j+1<=n->Sx (j+1) s.heap->Pv (argBest bt j) vb->
   s.heap.get? T=some {cls:=.type "list",dict:=none,data:=.seq #[vb,vb] c,slots:=#[]}->
   (∀v h' tk,Pv (argBest bt (n-1)) v->(∀b o,b∉wr->b≠T->s.heap.get? b=some o->h'.get? b=some o)->R (.ok (.ret v)) {s with heap:=h',toks:=tk})->codeAny (model prog w) A (.builtin "max.loop" ⟨[.ref it,.none,.ref T],kw⟩) R s:=by
 have Xs:T∉wr:=λz=>nT (Wk.sub _ z)
 intro k;induction k with
 |zero=>
  intro j s vb c hk hj st hp hT fin;have ej:j+1=n:=by lia
  refine acL adu ?_;rw[acD abA _];show wpAny _ A.in1 (seqItems? (.ref T) >>= _) _ _ s;refine ZH (aa9 hT rfl ?_);show wpAny _ A.in1 (tryCatch (pyNext (.ref it)) _ >>= _) _ _ s;refine ZH (acm (Wk.done s _ _ (ej▸st) λh' tk kk=>?_));have Us:=kk T _ Xs hT;show wpAny _ A.in1 (updateSeq T (λ_=>#[]) >>= _) _ _ _;refine ZH (adJ Us rfl (ZH (aci (ZM ?_))));exact fin vb _ tk (by rw[<-ej];exact hp) λb o bw bT e=>(aaz _ _ (abp bT)).trans (kk b o bw e)
 |succ k ih=>
  intro j s vb c hk hj st hp hT fin;have jn:j+1<n:=by lia
  refine acL adu ?_;rw[acD abA _];show wpAny _ A.in1 (seqItems? (.ref T) >>= _) _ _ s;refine ZH (aa9 hT rfl ?_);show wpAny _ A.in1 (tryCatch (pyNext (.ref it)) _ >>= _) _ _ s;refine ZH (acm (Wk.item (j+1) s _ _ jn st λv h' tk pv Pf kk=>?_));have Us:=kk T _ Xs hT;show wpAny _ A.in1 (tryCatch (holding [v,v] (richCompare .Gt v vb >>= _)) _ >>= _) _ _ _;refine ZH (acm (aa1 (ZH (cm (j+1) (argBest bt j) v vb _ _ _ pv hp (ZH (aa1 (aa6 (ZH (aci (ZM ?_))))))))));cases eb:bt (j+1) (argBest bt j) with
  |true=>
   rw[ZY rfl];refine ZH (adJ Us rfl (ZH (aci ?_)));rw[nS];refine ZM ⟨adm abA _,ih (j+1) _ v _ (by lia) jn (Wk.frame _ _ _ Pf λb bf o e=>?_) (by simp![argBest,eb,acz];exact pv) (abE _ Us rfl) λv2 h2 t2 p2 k2=>?_⟩
   .exact(aaz _ _ (λz:T=b=>nT (by rw[z];exact bf))).trans e
   .exact fin v2 h2 t2 p2 λb o bw bT e=>k2 b o bw bT ((aaz _ _ (abp bT)).trans (kk b o bw e))
  |false=>
   rw[Z6 ZU];refine ZH (aci ?_);rw[nS];refine ZM ⟨adm abA _,ih (j+1) _ vb c (by lia) jn Pf (by simp![argBest,eb,aav,acX];exact hp) Us λv2 h2 t2 p2 k2=>?_⟩;exact fin v2 h2 t2 p2 λb o bw bT e=>k2 b o bw bT (kk b o bw e)
theorem yS(Wk:Walks prog w A.in1 it fp wr n Pv Sx)(bt:Nat->Nat->Bool)(cm:CmpOf prog w A.in1 .Gt Pv bt)(T:WP)(nT:T∉fp){c:Nat}{d:Wp}(hkw:kw=[(Str.ofString "default",d)])(st:Sx 0 s.heap)
  (hT:s.heap.get? T=some {cls:=.type "list",dict:=none,data:=.seq #[] c,slots:=#[]}) (fin:∀v h' tk,(if n=0 then v=d else Pv (argBest bt (n-1)) v)->(∀b o,b∉wr->b≠T->s.heap.get? b=some o->h'.get? b=some o)->R (.ok (.ret v)) {s with heap:=h',toks:=tk}):
  codeAny (model prog w) A (.builtin "max.loop" ⟨[.ref it,.none,.ref T],kw⟩) R s:=by
 have Xs:T∉wr:=λz=>nT (Wk.sub _ z)
 refine acL adu ?_;rw[acD abA _];show wpAny _ A.in1 (seqItems? (.ref T) >>= _) _ _ s;refine ZH (aa9 hT rfl ?_);show wpAny _ A.in1 (tryCatch (pyNext (.ref it)) _ >>= _) _ _ s;by_cases hn:n=0
 .refine ZH (acm (Wk.done s _ _ (by rw[hn];exact st) λh' tk kk=>?_));subst hkw;refine ZH (adU (ZM ?_));exact fin d _ tk (by rw[ZY hn]) λb o bw bT e=>kk b o bw e
 .refine ZH (acm (Wk.item 0 s _ _ (by lia) st λv h' tk pv Pf kk=>?_));have Us:=kk T _ Xs hT;show wpAny _ A.in1 (updateSeq T (λ_=>#[v,v]) >>= _) _ _ _;refine ZH (adJ Us rfl ?_);rw[nS];refine ZM ⟨adm abA _,Il Wk bt cm T nT _ 0 _ v _ rfl (by lia) (Wk.frame _ _ _ Pf λb bf o e=>?_) pv (abE _ Us rfl) λv2 h2 t2 p2 k2=>?_⟩
  .exact(aaz _ _ (λz:T=b=>nT (by rw[z];exact bf))).trans e
  .exact fin v2 h2 t2 (by rw[Z6 hn];exact p2) λb o bw bT e=>k2 b o bw bT ((aaz _ _ (abp bT)).trans (kk b o bw e))
end
variable{Q:Wp->WF->Prop}
theorem tree_kw{id:String}{bf:Builtin}{args:List Wp}(hk:builtinKind id=none)(hp:plainId id=true)
  (hb:entryFor table id=some bf) (ha:argsOk id ⟨args,kw⟩)
  (hc:wpAny (model prog w) A.in1 (bf ⟨args,kw⟩) (λfin s'=>match fin with
   | .done f=>(match(Except.ok f:Result) with | .ok (.ret v)=>Q v s' | .ok _=>False | .error e=>E e s')
   | .again c'=>c'.quiet=true/\codeAny (model prog w) A c' (λr s'=>match r with | .ok (.ret v)=>Q v s' | .ok _=>False | .error e=>E e s') s') E s):wpAny (model prog w) A (call (.builtin id) args kw) Q E s:=by
 refine wpAny_call (acE hp hb ?_);simp![checkBuiltinCall,hk];cases hsig:Manifest.signature? id with
 |none=>exact ZM hc
 |some sig=>
  have We:Bind.checkArgs id sig ⟨args,kw⟩=pure ():=by simpa only[argsOk,hsig] using ha
  simp![We];exact ZM hc
theorem v7(a d:Wp):argsOk "max" ⟨[a],[(Str.ofString "default",d)]⟩:=by unfold argsOk;kernel_rfl
section
variable{k:Expr}{tk:TE}{p Sh:Pos}
def maxD(ns:List Int)(d:Int):Int:=if ns=[] then d else qZ ns
def Im(K:W.Frag)(te tk:TE):TE:=λσ H Q=>yI te Hz σ H λvs H1=>yI tk Hz σ H1 λks H2=>∃(a:WP) (ns:List Int) (d:Int),vs=[.ref a]/\ks=[.int d]/\(SqL K H2 a (ns.map V.int)\/SqT K H2 a (ns.map V.int))/\Q (.int (maxD ns d)) H2
theorem Cb(hc:X.calm=true)(hg:Gl X "max")(hm:X.mg "max" = none)(he:PE X e te)(hk:PE X k tk)(hs:starEach [e] X.env=[(false,eval e X.env)]:=by rfl):
  PE X (.Call (.Name "max" p) [e] [⟨some "default",k,Sh⟩] pos) (Im X.K te tk):=by
 intro pr s σ H Q I h;refine aaV (iz I hg hm (by decide +kernel:bootBuiltins "max" = some (.builtin "max")) ?_ (by decide) (by decide));refine callWith_kw (Mz (di he gO (hs:=hs) pos pr s σ H _ I h) λus s1 ⟨vs,H1,I1,r1,q1⟩=>?_) (by rw[hs];rfl) (by rw[hs];rfl);refine Mz (BS hk EL pos pr s1 σ H1 _ I1 q1) λws s2 MC=>?_
 obtain⟨ks,H2,I2,r2,a,ns,d,e1,e2,hp,q⟩:=MC;subst e1 e2;obtain⟨u,rfl,ru⟩:=fV r1;obtain⟨w',rfl,t,rfl⟩:=fV r2;cases ru;show wpAny _ _ (call (.builtin "max") [.ref a] [(Str.ofString "default",.int d t)]) _ _ s2;refine tree_kw F.kind_max F.plain_max F.entry_max (v7 _ _) ?_;show wpAny _ X.A.in1 (Builtin.Builtins.bindParams "max" ["key","default"] 0 ⟨[],[(Str.ofString "default",.int d t)]⟩ >>= _) _ _ s2;refine ZH (ad4 (show Builtin.Builtins.bindParams "max" ["key","default"] 0 ⟨[],[(Str.ofString "default",.int d t)]⟩=pure [none,some (.int d t)] from rfl) ?_);refine ZH (ZM ?_);refine ZH (nP hc I2 hp λit fp o ws Sx rv Wk st hf hit=>?_);have hl:=rv.length;rw[ZT]at hl;refine ZH (aaI ?_);have nT:(s2.heap.push o).objs.size∉fp:=λz=>aba _ (hf _ z)
 rw[nS];refine ZM ⟨adm abA _,yS Wk _ (sM rv _) (s2.heap.push o).objs.size nT rfl (Wk.frame _ _ _ st λb _ ob e=>ZL _ e) (Z0 _ rfl) λv h' tk' hv kk=>?_⟩;subst hit;have I3:Inv X pr σ H2 {s2 with heap:=h',toks:=tk'}:=jO (s:=s2) (o:=o) I2 λb ob nb e=>kk b ob nb (aac (ZQ e)) (ZL _ e)
 refine⟨.int (maxD ns d),H2,I3,?_,q⟩;unfold maxD;by_cases hn:ns=[]
 .rw[ZY (by rw[<-hl,hn];rfl)]at hv;rw[ZY hn,hv];exact⟨t,rfl⟩
 .have h0:0<ns.length:=aaQ.mpr hn;rw[Z6 (by lia)]at hv;rw[Z6 hn];obtain⟨b1,b2⟩:=nR ns (ns.length-1) (by lia);rw[<-hl]at hv;obtain⟨t2,rfl⟩:=nQ rv hv;refine⟨t2,?_⟩;rw[b2,show ns.length-1+1=ns.length by lia,ab1];rfl
end
variable{items xs ys:Array Wp}{h:UF}{l l1 l2:WP}{k1 k2:Bool}
section
theorem yT{t:WP}{x:Wp}(hi:s.heap.IsTupleIter it t i)(ht:s.heap.IsTuple t items)(hx:items[i]?=some x)
  (k:∀h',h'.IsTupleIter it t (i+1)->Heap.SameBut it s.heap h'->Q x {s with heap:=h'}):wpAny (model prog w) A (Builtin.SmallTypes.nextOf (.ref it)) Q E s:=by
 obtain⟨o,ho,oc,od⟩:=id hi;obtain⟨q,hq,_,n,qd⟩:=ht;unfold Builtin.SmallTypes.nextOf;refine ZH (aaN (name:=Str.ofString "__next__") hi.typeIs abz (aa2 abz hi.typeIs acM ?_ (acH _)));show wpAny _ _ (field (.ref it) 0 >>= _) _ _ s;refine ZH (aaT ho od (x:=.ref t) rfl ?_);show wpAny _ _ (if(Value.ref t==Value.none)=true then _ else _) _ _ s;rw[Z6 (λz:(Value.ref t==Value.none)=true=>ZU z)];show wpAny _ _ (field (.ref it) 1 >>= _) _ _ s;refine ZH (aaT ho od (x:=.int i 0) rfl (ZH (aa9 hq qd ?_)));simp![abj,hx];refine ZH (acn ho od (by simp) (ZM ⟨x,rfl,ZM (k _ ⟨_,abE _ ho (acr (abF od _)),(Obj.cls_mapFields ..).trans oc,?_⟩ (ab3 ..))⟩));rw[abF od];simp[rawInt]
theorem Cc{t:WP}{Q:Wp->WF->Prop}(hh:A.handled=none)(hi:s.heap.IsTupleIter it t i)(ht:s.heap.IsTuple t items)(hx:items[i]?=none)
  (k:∀h' e,Heap.ExtBut it s.heap h'->(∃o,h'.get? e=some o/\o.cls=.type "StopIteration")->E (.ref e) {s with heap:=h'}):wpAny (model prog w) A (Builtin.SmallTypes.nextOf (.ref it)) Q E s:=by
 obtain⟨o,ho,oc,od⟩:=id hi;obtain⟨q,hq,_,n,qd⟩:=ht;unfold Builtin.SmallTypes.nextOf;refine ZH (aaN (name:=Str.ofString "__next__") hi.typeIs abz (aa2 abz hi.typeIs acM ?_ (acH _)));show wpAny _ _ (field (.ref it) 0 >>= _) _ _ s;refine ZH (aaT ho od (x:=.ref t) rfl ?_);show wpAny _ _ (if(Value.ref t==Value.none)=true then _ else _) _ _ s;rw[Z6 (λz:(Value.ref t==Value.none)=true=>ZU z)];show wpAny _ _ (field (.ref it) 1 >>= _) _ _ s;refine ZH (aaT ho od (x:=.int i 0) rfl (ZH (aa9 hq qd ?_)));simp![abj,hx];refine ZH (adU (ZH (acn ho od (by simp) ?_)));show wpAny _ _ (newExc (.type "StopIteration") [] >>= _) _ _ _;refine ZH ?_;simp![newExc,newTuple];refine ZH (aaI (ZH (m:=firstArgMember _ _) (ad4 (a:=Value.none) (by first|rfl|(simp![firstArgMember];rfl)) (aaI ?_ (by size_fits)))) (by size_fits));simp![raiseNew];refine ZH (wpAny_handled ?_);first
  |rw[show A.in1.handled=none from hh]
  |rw[hh]
 exact ZH (ZM (wpAny_throw (k _ _ (((ab3 ..).extBut.push _).push _) ⟨_,Z0 _ rfl,rfl⟩)))
def IsIt(k:Bool)(h:UF)(it l:WP)(i:Nat):Prop:=match k with
 |true=>h.IsListIter it l i
 |false=>h.IsTupleIter it l i
def IsSq(k:Bool)(h:UF)(l:WP)(xs:Array Wp):Prop:=match k with
 |true=>h.IsList l xs
 |false=>h.IsTuple l xs
theorem IsIt.at{k:Bool}(x:IsIt k h it l i)(e:∀o,h.get? it=some o->h'.get? it=some o):IsIt k h' it l i:=by
 cases k with
 |true=>obtain⟨o,ho,r⟩:=(show h.IsListIter it l i from x);exact(show h'.IsListIter it l i from⟨o,e o ho,r⟩)
 |false=>obtain⟨o,ho,r⟩:=(show h.IsTupleIter it l i from x);exact(show h'.IsTupleIter it l i from⟨o,e o ho,r⟩)
theorem IsSq.at{k:Bool}(x:IsSq k h l xs)(e:∀o,h.get? l=some o->h'.get? l=some o):IsSq k h' l xs:=by
 cases k with
 |true=>obtain⟨o,ho,r⟩:=(show h.IsList l xs from x);exact(show h'.IsList l xs from⟨o,e o ho,r⟩)
 |false=>obtain⟨o,ho,r⟩:=(show h.IsTuple l xs from x);exact(show h'.IsTuple l xs from⟨o,e o ho,r⟩)
theorem IsIt.obj{k:Bool}(x:IsIt k h it l i):∃o,h.get? it=some o/\∀v,o.data≠.cell v:=by
 cases k with
 |true=>obtain⟨o,ho,_,d⟩:=(show h.IsListIter it l i from x);exact⟨o,ho,λv z=>by rw[d]at z;cases z⟩
 |false=>obtain⟨o,ho,_,d⟩:=(show h.IsTupleIter it l i from x);exact⟨o,ho,λv z=>by rw[d]at z;cases z⟩
theorem IsSq.get{k:Bool}{h:UF}{l:WP}{xs:Array Wp}(x:IsSq k h l xs):∃o,h.get? l=some o:=by
 cases k with
 |true=>obtain⟨o,ho,_⟩:=(show h.IsList l xs from x);exact⟨o,ho⟩
 |false=>obtain⟨o,ho,_⟩:=(show h.IsTuple l xs from x);exact⟨o,ho⟩
theorem rg{k:Bool}{x:Wp}(hi:IsIt k s.heap it l i)(hl:IsSq k s.heap l xs)(hx:xs[i]?=some x)
  (q:∀h',IsIt k h' it l (i+1)->Heap.SameBut it s.heap h'->Q x {s with heap:=h'}):wpAny (model prog w) A (Builtin.SmallTypes.nextOf (.ref it)) Q E s:=by
 cases k with
 |true=>exact wpAny_nextOf_list_item hi hl hx q
 |false=>exact yT hi hl hx q
theorem AJ{k:Bool}{Q:Wp->WF->Prop}(hh:A.handled=none)(hi:IsIt k s.heap it l i)(hl:IsSq k s.heap l xs)(hx:xs[i]?=none)
  (q:∀h' e,Heap.ExtBut it s.heap h'->(∃o,h'.get? e=some o/\o.cls=.type "StopIteration")->E (.ref e) {s with heap:=h'}):wpAny (model prog w) A (Builtin.SmallTypes.nextOf (.ref it)) Q E s:=by
 cases k with
 |true=>exact wpAny_nextOf_list_end hh hi hl hx q
 |false=>exact Cc hh hi hl hx q
theorem Cd{z TI TO i1 i2:WP}{x y a b:Wp}(D:ZipApart z TI TO i1 i2 l1 l2)(hz:IsZip s.heap z TI TO .none)(RD:IsPair s.heap TI (.ref i1) (.ref i2))(Sk:IsPair s.heap TO a b)
  (h1:IsIt k1 s.heap i1 l1 i) (h2:IsIt k2 s.heap i2 l2 i) (g1:IsSq k1 s.heap l1 xs) (g2:IsSq k2 s.heap l2 ys) (hx:xs[i]?=some x) (hy:ys[i]?=some y)
  (q:∀h',IsZip h' z TI TO (rawInt s.heap.objs.size)->IsPair h' TO x y->IsIt k1 h' i1 l1 (i+1)->IsIt k2 h' i2 l2 (i+1)->IsPair h' s.heap.objs.size x y->
   (∀c o,c≠z->c≠TO->c≠i1->c≠i2->s.heap.get? c=some o->h'.get? c=some o)->Q (.ref s.heap.objs.size) {s with heap:=h'}):
  wpAny (model prog w) A (Builtin.«zip.__next__» ⟨[.ref z],[]⟩) (λfin s'=>∃v,fin=.done (.ret v)/\Q v s') E s:=by
 show wpAny _ _ (field (.ref z) 2 >>= _) _ _ _;refine ZH (aaT hz rfl (x:=.bool false) rfl ?_);show wpAny _ _ (field (.ref z) 3 >>= _) _ _ _;refine ZH (aaT hz rfl (x:=.ref TI) rfl (ZH (aa9 RD rfl ?_)));show wpAny _ _ (Builtin.SmallTypes.ownedTupleIsFree (.ref z) >>= _) _ _ _;refine ZH ?_;unfold Builtin.SmallTypes.ownedTupleIsFree;refine ZH (aaT hz rfl (x:=.none) rfl (ZM ?_));rw[ZY (by rfl)];refine ZH (adU (ZH (aaT hz rfl (x:=.ref TO) rfl (ZH (abG hz (by simp) λhA zA sA=>?_)))));have zA:IsZip hA z TI TO .ellipsis:=zA;refine ZH ?_;simp![List.zipIdx_cons,List.zipIdx_nil,acK,ad0];refine ZH (ZH (adn ?_));show wpAny _ _ (Builtin.SmallTypes.nextOf (.ref i1) >>= _) _ _ _;refine ZH (rg (h1.at λo e=>sA.extBut _ _ D.i1z e) (g1.at λo e=>sA.extBut _ _ D.l1z e) hx λhB iB sB=>ZM ?_);have tB:IsPair hB TO a b:=sB.extBut _ _ D.TOi1 (sA.extBut _ _ D.TOz Sk);refine ZH (aa9 tB rfl (ZH (acF tB λhC tC sC=>ZH (aci (ZM ?_)))));have tC:IsPair hC TO x b:=tC;refine ZH (ZH (adn ?_));show wpAny _ _ (Builtin.SmallTypes.nextOf (.ref i2) >>= _) _ _ _;refine ZH (rg (h2.at λo e=>sC.extBut _ _ D.TOi2.symm (sB.extBut _ _ D.i12.symm (sA.extBut _ _ D.i2z e))) (g2.at λo e=>sC.extBut _ _ D.l2TO (sB.extBut _ _ D.l2i1 (sA.extBut _ _ D.l2z e))) hy λhD iD sD=>ZM ?_);have tD:IsPair hD TO x b:=sD.extBut _ _ D.TOi2 tC;refine ZH (aa9 tD rfl (ZH (acF tD λhE tE sE=>ZH (aci (ZM (ZM ?_))))));have tE:IsPair hE TO x y:=tE;refine ZH (aa9 tE rfl (ZH (wpAny_newTuple ?_)));have ez:hE.objs.size=s.heap.objs.size:=by rw[sE.1,sD.1,sC.1,sB.1,sA.1]
 have zE:IsZip hE z TI TO .ellipsis:=sE.extBut _ _ D.TOz.symm (sD.extBut _ _ D.i2z.symm (sC.extBut _ _ D.TOz.symm (sB.extBut _ _ D.i1z.symm zA)));have kE:∀c o,c≠z->c≠TO->c≠i1->c≠i2->s.heap.get? c=some o->hE.get? c=some o:=λc o c1 c2 c3 c4 e=>sE.extBut _ _ c2 (sD.extBut _ _ c4 (sC.extBut _ _ c2 (sB.extBut _ _ c3 (sA.extBut _ _ c1 e))))
 have i1E:IsIt k1 hE i1 l1 (i+1):=iB.at λo e=>sE.extBut _ _ D.TOi1.symm (sD.extBut _ _ D.i12 (sC.extBut _ _ D.TOi1.symm e))
 have i2E:IsIt k2 hE i2 l2 (i+1):=iD.at λo e=>sE.extBut _ _ D.TOi2.symm e
 show wpAny _ _ (Builtin.SmallTypes.ownedTupleHandOut (.ref z) (.ref hE.objs.size) >>= _) _ _ _;refine ZH ?_;unfold Builtin.SmallTypes.ownedTupleHandOut;have zF:IsZip (hE.push {cls:=.type "tuple",data:=.seq #[x,y]}) z TI TO .ellipsis:=ZL _ zE;refine ZH (abG zF (by simp) λhG zG sG=>?_);have zG:IsZip hG z TI TO (rawInt hE.objs.size):=zG;refine abG zG (by simp) λhK zK sK=>?_
 have zK:IsZip hK z TI TO (rawInt hE.objs.size):=zK;have up:∀c o,c≠z->hE.get? c=some o->hK.get? c=some o:=λc o c1 e=>sK.extBut _ _ c1 (sG.extBut _ _ c1 (ZL _ e))
 have nz:hE.objs.size≠z:=adE (ZQ zE);have tK:IsPair hK hE.objs.size x y:=sK.extBut _ _ nz (sG.extBut _ _ nz (Z0 _ rfl));rw[ez]at zK tK;refine ZM ⟨_,rfl,?_⟩;show Q (.ref hE.objs.size) _;rw[ez];exact q hK zK (up _ _ D.TOz tE) (i1E.at λo e=>up _ o D.i1z e) (i2E.at λo e=>up _ o D.i2z e) tK λc o c1 c2 c3 c4 e=>up c o c1 (kE c o c1 c2 c3 c4 e)
theorem E4{z TI TO i1 i2:WP}{a b:Wp}{Q:Fin->WF->Prop}(hh:A.handled=none)(D:ZipApart z TI TO i1 i2 l1 l2)(hz:IsZip s.heap z TI TO .none)(RD:IsPair s.heap TI (.ref i1) (.ref i2))(Sk:IsPair s.heap TO a b)
  (h1:IsIt k1 s.heap i1 l1 i) (h2:IsIt k2 s.heap i2 l2 i) (g1:IsSq k1 s.heap l1 xs) (g2:IsSq k2 s.heap l2 ys) (he:xs[i]?=none\/ys[i]?=none)
  (q:∀h' e,(∀c o,c≠z->c≠TO->c≠i1->c≠i2->s.heap.get? c=some o->h'.get? c=some o)->(∃o,h'.get? e=some o/\o.cls=.type "StopIteration")->E (.ref e) {s with heap:=h'}):
  wpAny (model prog w) A (Builtin.«zip.__next__» ⟨[.ref z],[]⟩) Q E s:=by
 show wpAny _ _ (field (.ref z) 2 >>= _) _ _ _;refine ZH (aaT hz rfl (x:=.bool false) rfl ?_);show wpAny _ _ (field (.ref z) 3 >>= _) _ _ _;refine ZH (aaT hz rfl (x:=.ref TI) rfl (ZH (aa9 RD rfl ?_)));show wpAny _ _ (Builtin.SmallTypes.ownedTupleIsFree (.ref z) >>= _) _ _ _;refine ZH ?_;unfold Builtin.SmallTypes.ownedTupleIsFree;refine ZH (aaT hz rfl (x:=.none) rfl (ZM ?_));rw[ZY (by rfl)];refine ZH (adU (ZH (aaT hz rfl (x:=.ref TO) rfl (ZH (abG hz (by simp) λhA zA sA=>?_)))));have zA:IsZip hA z TI TO .ellipsis:=zA;refine ZH ?_;simp![List.zipIdx_cons,List.zipIdx_nil,acK,ad0];refine ZH (ZH (adn ?_));show wpAny _ _ (Builtin.SmallTypes.nextOf (.ref i1) >>= _) _ _ _;cases hx:xs[i]? with
 |none=>
  refine ZH (AJ hh (h1.at λo e=>sA.extBut _ _ D.i1z e) (g1.at λo e=>sA.extBut _ _ D.l1z e) hx λhB e sB MC=>?_);obtain⟨oe,ge,ce⟩:=MC;have zB:IsZip hB z TI TO .ellipsis:=sB _ _ D.i1z.symm zA;have ne:e≠z:=λx=>by subst x;rw[zB]at ge;cases ge;simp at ce
  exact abG zB (by simp) λhC _ sC=>q hC e (λc o c1 _ c3 _ x=>sC.extBut _ _ c1 (sB _ _ c3 (sA.extBut _ _ c1 x))) ⟨oe,sC.extBut _ _ ne ge,ce⟩
 |some x=>
  have hy:ys[i]?=none:=by
   rcases he with z|z
   .rw[hx]at z;cases z
   .exact z
  refine ZH (rg (h1.at λo e=>sA.extBut _ _ D.i1z e) (g1.at λo e=>sA.extBut _ _ D.l1z e) hx λhB iB sB=>ZM ?_);have tB:IsPair hB TO a b:=sB.extBut _ _ D.TOi1 (sA.extBut _ _ D.TOz Sk);refine ZH (aa9 tB rfl (ZH (acF tB λhC tC sC=>ZH (aci (ZM ?_)))));refine ZH (ZH (adn ?_));show wpAny _ _ (Builtin.SmallTypes.nextOf (.ref i2) >>= _) _ _ _;refine ZH (AJ hh (h2.at λo e=>sC.extBut _ _ D.TOi2.symm (sB.extBut _ _ D.i12.symm (sA.extBut _ _ D.i2z e))) (g2.at λo e=>sC.extBut _ _ D.l2TO (sB.extBut _ _ D.l2i1 (sA.extBut _ _ D.l2z e))) hy λhD e sD MC=>?_);obtain⟨oe,ge,ce⟩:=MC;have zD:IsZip hD z TI TO .ellipsis:=sD _ _ D.i2z.symm (sC.extBut _ _ D.TOz.symm (sB.extBut _ _ D.i1z.symm zA));have ne:e≠z:=λx=>by subst x;rw[zD]at ge;cases ge;simp at ce
  exact abG zD (by simp) λhF _ sF=>q hF e (λc o c1 c2 c3 c4 x=>sF.extBut _ _ c1 (sD _ _ c4 (sC.extBut _ _ c2 (sB.extBut _ _ c3 (sA.extBut _ _ c1 x))))) ⟨oe,sF.extBut _ _ ne ge,ce⟩
end
def itObj(k:Bool)(l:WP):Obj:=match k with
 |true=>{cls:=.type "list_iterator",data:=.fields #[.ref l,.int 0 0]}
 |false=>{cls:=.type "tuple_iterator",data:=.fields #[.ref l,.int 0 0]}
theorem sN(k:Bool)(h:UF)(l:WP):IsIt k (h.push (itObj k l)) h.objs.size l 0:=by
 cases k with
 |true=>exact⟨_,Z0 _ rfl,rfl,rfl⟩
 |false=>exact⟨_,Z0 _ rfl,rfl,rfl⟩
abbrev zA(h:UF)(k1:Bool)(l1:WP):UF:=h.push (itObj k1 l1)
abbrev zB(h:UF)(k1 k2:Bool)(l1 l2:WP):UF:=(zA h k1 l1).push (itObj k2 l2)
abbrev zC(h:UF)(k1 k2:Bool)(l1 l2:WP):UF:=(zB h k1 k2 l1 l2).push {cls:=.type "tuple",data:=.seq #[.ref h.objs.size,.ref (zA h k1 l1).objs.size]}
abbrev zD(h:UF)(k1 k2:Bool)(l1 l2:WP):UF:=(zC h k1 k2 l1 l2).push {cls:=.type "tuple",data:=.seq #[.none,.none]}
abbrev zE(h:UF)(k1 k2:Bool)(l1 l2:WP):UF:=(zD h k1 k2 l1 l2).push {cls:=.type "zip",data:=.fields #[.none,.bool false,.bool false,.ref (zB h k1 k2 l1 l2).objs.size,.ref (zC h k1 k2 l1 l2).objs.size]}
set_option maxHeartbeats 8000000 in
theorem E5(k1 k2:Bool)(l1 l2:WP)(xs ys:Array Wp):
  Meets (Builtin.«zip.__new__» ⟨[.type "zip",.ref l1,.ref l2],[]⟩) (λ_ R s=>IsSq k1 s.heap l1 xs/\IsSq k2 s.heap l2 ys/\R (.ok (.ret (.ref (zD s.heap k1 k2 l1 l2).objs.size))) {s with heap:=zE s.heap k1 k2 l1 l2}):=
 .of_wp λprog w A R s h=>by
  obtain⟨hp,g,d,tk,os⟩:=s;obtain⟨g1,g2,q⟩:=h;have Sl:=sub_zip;cases k1 with
  |true=>
   have e1:Heap.IsList (Shared.heap ⟨hp,g,d,tk,os⟩) l1 xs:=g1;cases k2 with
   |true=>
    have e2:Heap.IsList (Shared.heap ⟨hp.push {cls:=.type "list_iterator",data:=.fields #[.ref l1,.int 0 0]},g,d,tk,os⟩) l2 ys:=Heap.IsList.push g2 _
    wp_walk using abL e1,abL e2
    exact⟨_,rfl,q⟩
   |false=>
    have e2:Heap.IsTuple (Shared.heap ⟨hp.push {cls:=.type "list_iterator",data:=.fields #[.ref l1,.int 0 0]},g,d,tk,os⟩) l2 ys:=Heap.IsTuple.push g2 _
    wp_walk using abL e1,abC e2
    exact⟨_,rfl,q⟩
  |false=>
   have e1:Heap.IsTuple (Shared.heap ⟨hp,g,d,tk,os⟩) l1 xs:=g1;cases k2 with
   |true=>
    have e2:Heap.IsList (Shared.heap ⟨hp.push {cls:=.type "tuple_iterator",data:=.fields #[.ref l1,.int 0 0]},g,d,tk,os⟩) l2 ys:=Heap.IsList.push g2 _
    wp_walk using abC e1,abL e2
    exact⟨_,rfl,q⟩
   |false=>
    have e2:Heap.IsTuple (Shared.heap ⟨hp.push {cls:=.type "tuple_iterator",data:=.fields #[.ref l1,.int 0 0]},g,d,tk,os⟩) l2 ys:=Heap.IsTuple.push g2 _
    wp_walk using abC e1,abC e2
    exact⟨_,rfl,q⟩
def ZS(k1 k2:Bool)(z TI TO i1 i2 l1 l2:WP)(i:Nat)(h:UF):Prop:=IsZip h z TI TO .none/\IsPair h TI (.ref i1) (.ref i2)/\(∃a b,IsPair h TO a b)/\IsIt k1 h i1 l1 i/\IsIt k2 h i2 l2 i
theorem Ce{prog:W1}{w:World}{A:Uf}{E:Wp->WF->Prop}(g1:IsSq k1 s.heap l1 xs)(g2:IsSq k2 s.heap l2 ys)
  (q:∀h',ZS k1 k2 (s.heap.objs.size+4) (s.heap.objs.size+2) (s.heap.objs.size+3) s.heap.objs.size (s.heap.objs.size+1) l1 l2 0 h'->(∀c o,s.heap.get? c=some o->h'.get? c=some o)->Q (.ref (s.heap.objs.size+4)) {s with heap:=h'}):
  wpAny (model prog w) A (call (.type "zip") [.ref l1,.ref l2]) Q E s:=by
 refine callType_new F.called_zip (by decide) (F.typeCall_zip_2 _ _) (F.newCall_zip_2 _ _) (λobj=>F.args_object_init_3 obj _ _) F.entry_zip_new (E5 k1 k2 l1 l2 xs ys) ⟨g1,g2,?_⟩;have nA:(zA s.heap k1 l1).objs.size=s.heap.objs.size+1:=abK ..;have nB:(zB s.heap k1 k2 l1 l2).objs.size=s.heap.objs.size+2:=by rw[abK,nA]
 have nC:(zC s.heap k1 k2 l1 l2).objs.size=s.heap.objs.size+3:=by rw[abK,nB]
 have nD:(zD s.heap k1 k2 l1 l2).objs.size=s.heap.objs.size+4:=by rw[abK,nC]
 have pu:∀{h:UF}{o:Obj}{c:WP}{v:Obj},h.get? c=some v->(h.push o).get? c=some v:=λe=>ZL _ e
 have gz:(zE s.heap k1 k2 l1 l2).get? (zD s.heap k1 k2 l1 l2).objs.size=some _:=Z0 _ rfl;have go:(zE s.heap k1 k2 l1 l2).get? (zC s.heap k1 k2 l1 l2).objs.size=some _:=pu (Z0 _ rfl);have gi:(zE s.heap k1 k2 l1 l2).get? (zB s.heap k1 k2 l1 l2).objs.size=some _:=pu (pu (Z0 _ rfl));have j2:IsIt k2 (zE s.heap k1 k2 l1 l2) (zA s.heap k1 l1).objs.size l2 0:=(sN k2 (zA s.heap k1 l1) l2).at λo e=>pu (pu (pu e))
 have j1:IsIt k1 (zE s.heap k1 k2 l1 l2) s.heap.objs.size l1 0:=(sN k1 s.heap l1).at λo e=>pu (pu (pu (pu e)))
 show _/\_;rw[nB,nC,nD]at gz;rw[nA,nB]at gi;rw[nC]at go;rw[nA]at j2;rw[nD];exact⟨⟨_,gz,rfl⟩,q _ ⟨gz,gi,⟨_,_,go⟩,j1,j2⟩ λc o x=>pu (pu (pu (pu (pu x))))⟩
def Ya(K:W.Frag)(k1 k2:Bool)(a b:WP):It:=
 ⟨λi H=>∃xs ys x y,(if k1 then SqL K H a xs else SqT K H a xs)/\(if k2 then SqL K H b ys else SqT K H b ys)/\xs[i]?=some x/\ys[i]?=some y,
  λi H v H'=>∃T,H T=none/\v=.ref T/\∀xs ys x y,(if k1 then SqL K H a xs else SqT K H a xs)->(if k2 then SqL K H b ys else SqT K H b ys)->xs[i]?=some x->ys[i]?=some y->H'=upd H T (.tup [x,y]),
  λi H=>∃xs ys,(if k1 then SqL K H a xs else SqT K H a xs)/\(if k2 then SqL K H b ys else SqT K H b ys)/\i=min xs.length ys.length⟩
variable{a:WP}
section
theorem uL(I:Inv X pr σ H s){k:Bool}{xs:List V}(h:if k then SqL X.K H a xs else SqT X.K H a xs):∃us:List Wp,Vals xs us/\IsSq k s.heap a us.toArray:=by
 cases k with
 |true=>
  obtain⟨us,r,p,_⟩:=I.list (show SqL X.K H a xs from h);exact⟨us,r,p.isList⟩
 |false=>
  obtain⟨us,r,p,_⟩:=I.tuple (show SqT X.K H a xs from h);exact⟨us,r,(show s.heap.IsTuple a us.toArray from p)⟩
theorem AK(I:Inv X pr σ H s){k:Bool}{xs ys:List V}(h:if k then SqL X.K H a xs else SqT X.K H a xs)(h':if k then SqL X.K H a ys else SqT X.K H a ys):xs=ys:=by
 cases k with
 |true=>exact I.list_inj (show SqL X.K H a xs from h) (show SqL X.K H a ys from h')
 |false=>exact I.tuple_inj (show SqT X.K H a xs from h) (show SqT X.K H a ys from h')
theorem iw(I:Inv X pr σ H s){k:Bool}{b:WP}{xs:List V}(h:if k then SqL X.K H a xs else SqT X.K H a xs)(f:qW X pr H b):a≠b:=by
 rintro rfl;obtain⟨f0,_,_,f3,_⟩:=f;have nb:∀o,X.K.lookup a=some o->False:=λo hk=>by
  have e:=I.ok.mod.kin a o hk;rcases f3 with z|z
  .exact I.ok.noex a o e z
  .exact absurd (ZV (ZQ e) (aaP I.ok.bsz z)) (aba _)
 cases k with
 |true=>
  rcases(show SqL X.K H a xs from h) with(h|⟨o,h⟩)|⟨o,L8,n,hk,_⟩
  .rw[f0]at h;cases h
  .rw[f0]at h;cases h
  .exact nb o hk
 |false=>
  rcases(show SqT X.K H a xs from h) with(h|⟨o,h⟩)|⟨o,L8,n,hk,_⟩
  .rw[f0]at h;cases h
  .rw[f0]at h;cases h
  .exact nb o hk
end
theorem nx_zip_item{prog:W1}{w:World}{A:Uf}{E:Wp->WF->Prop}{z TI TO i1 i2:WP}{x y:Wp}{Q:Option Wp->WF->Prop}(D:ZipApart z TI TO i1 i2 l1 l2)(st:ZS k1 k2 z TI TO i1 i2 l1 l2 i s.heap)
  (g1:IsSq k1 s.heap l1 xs) (g2:IsSq k2 s.heap l2 ys) (hx:xs[i]?=some x) (hy:ys[i]?=some y)
  (q:∀h',IsZip h' z TI TO (rawInt s.heap.objs.size)->IsPair h' TO x y->IsIt k1 h' i1 l1 (i+1)->IsIt k2 h' i2 l2 (i+1)->IsPair h' s.heap.objs.size x y->
   (∀c o,c≠z->c≠TO->c≠i1->c≠i2->s.heap.get? c=some o->h'.get? c=some o)->Q (some (.ref s.heap.objs.size)) {s with heap:=h'}):wpAny (model prog w) A (pyNext (.ref z)) Q E s:=by
 obtain⟨hz,RD,⟨a,b,Sk⟩,h1,h2⟩:=st;have ty:s.TypeIs (.ref z) "zip":=⟨_,hz,rfl⟩
 unfold pyNext;exact ZH (acb (aaN (name:=Str.ofString "__next__") ty acN (aa2 acN ty F.entry_zip_next (Cd D hz RD Sk h1 h2 g1 g2 hx hy λh' a1 a2 a3 a4 a5 a6=>ZM (q h' a1 a2 a3 a4 a5 a6)) (F.args_zip_next_1 _))))
theorem uM{prog:W1}{w:World}{E:Wp->WF->Prop}{z TI TO i1 i2:WP}{Q:Option Wp->WF->Prop}(hh:A.handled=none)(D:ZipApart z TI TO i1 i2 l1 l2)(st:ZS k1 k2 z TI TO i1 i2 l1 l2 i s.heap)
  (g1:IsSq k1 s.heap l1 xs) (g2:IsSq k2 s.heap l2 ys) (he:xs[i]?=none\/ys[i]?=none) (q:∀h',(∀c o,c≠z->c≠TO->c≠i1->c≠i2->s.heap.get? c=some o->h'.get? c=some o)->Q none {s with heap:=h'}):wpAny (model prog w) A (pyNext (.ref z)) Q E s:=by
 obtain⟨hz,RD,⟨a,b,Sk⟩,h1,h2⟩:=st;have ty:s.TypeIs (.ref z) "zip":=⟨_,hz,rfl⟩
 unfold pyNext;refine ZH (acb (aaN (name:=Str.ofString "__next__") ty acN (aa2 acN ty F.entry_zip_next (E4 hh D hz RD Sk h1 h2 g1 g2 he λh' e kk ⟨o,ho,oc⟩=>?_) (F.args_zip_next_1 _))));exact ZH (wpAny_isInstance (T:="StopIteration") (b:=true) ⟨o,ho,oc⟩ isSubtype_stop (ZM (q _ kk)))
variable{kt:Nat}
theorem yU{pt:Pos}(k1 k2:Bool)(a b z TI TO i1 i2:WP)(ne:z≠TI/\z≠TO/\z≠i1/\z≠i2/\TI≠TO/\TI≠i1/\TI≠i2/\TO≠i1/\TO≠i2/\i1≠i2):
  Turn P w K (.Tuple es kt pt) (Ya K k1 k2 a b) [z,TI,TO,i1,i2] z (ZS k1 k2 z TI TO i1 i2 a b) where
 mem:=by simp
 obj:=λi h st c hc=>by
  obtain⟨hz,RD,⟨x,y,Sk⟩,h1,h2⟩:=st;simp![ZJ,aar,aco]at hc;rcases hc with rfl|rfl|rfl|rfl|rfl
  .exact⟨_,hz,λv q=>by cases q⟩
  .exact⟨_,RD,λv q=>by cases q⟩
  .exact⟨_,Sk,λv q=>by cases q⟩
  .exact h1.obj
  .exact h2.obj
 keep:=λi h h' st k=>by
  obtain⟨hz,RD,⟨x,y,Sk⟩,h1,h2⟩:=st;exact⟨k z (by simp) _ hz,k TI (by simp) _ RD,⟨x,y,k TO (by simp) _ Sk⟩,h1.at λo e=>k i1 (by simp) o e,h2.at λo e=>k i2 (by simp) o e⟩
 item:=by
  intro X hP hw hK hc i pr s σ H E I hf st hg;subst hP hw hK;obtain⟨xs,ys,x,y,s1,s2,hx,hy⟩:=hg;obtain⟨us,r1,q1⟩:=uL I s1;obtain⟨ws,r2,q2⟩:=uL I s2;obtain⟨u,hu,ru⟩:=r1.get hx;obtain⟨v,hv,rv⟩:=r2.get hy;obtain⟨n1,n2,n3,n4,n5,n6,n7,n8,n9,Yb⟩:=ne;have f:=λc hc=>hf c hc
  have D:ZipApart z TI TO i1 i2 a b:=⟨n1.symm,n2.symm,n3.symm,n4.symm,n5,n6,n7,n8,n9,Yb,iw I s1 (f z (by simp)),iw I s1 (f TO (by simp)),iw I s1 (f i1 (by simp)),iw I s1 (f i2 (by simp)),
   iw I s2 (f z (by simp)),iw I s2 (f TO (by simp)),iw I s2 (f i1 (by simp)),iw I s2 (f i2 (by simp))⟩
  have RD:=st.2.1;refine nx_zip_item D st q1 q2 (by simpa using hu) (by simpa using hv) λh' z1 t1 j1 j2 tp kk=>⟨_,rfl,?_⟩
  refine wpAny_letOwnedTupleGo_zip z1 λh2 z2 sb=>?_
  have nT:H s.heap.objs.size=none:=I.hok.fresh (ZO _);have tT:s.heap.objs.size≠z:=adE (ZQ st.1);have all:∀c o,c≠z->c≠TO->c≠i1->c≠i2->s.heap.get? c=some o->h2.get? c=some o:=λc o c1 c2 c3 c4 e=>(sb.2 c c1).trans (kk c o c1 c2 c3 c4 e)
  have fz:=f z (by simp);have fo:=f TO (by simp);have f1:=f i1 (by simp);have f2:=f i2 (by simp);have UR:∀c ob,H c=some ob->c≠z/\c≠TO/\c≠i1/\c≠i2:=λc ob e=>⟨(λq=>by rw[q,fz.1]at e;cases e),(λq=>by rw[q,fo.1]at e;cases e),(λq=>by rw[q,f1.1]at e;cases e),(λq=>by rw[q,f2.1]at e;cases e)⟩
  refine⟨.ref s.heap.objs.size,upd H s.heap.objs.size (.tup [x,y]),?_,rfl,⟨_,nT,rfl,λOS ys' x' y' a1 a2 a3 a4=>?_⟩,⟨z2,?_,⟨u,v,(sb.2 TO n2.symm).trans t1⟩,j1.at λo e=>(sb.2 i1 n3.symm).trans e,j2.at λo e=>(sb.2 i2 n4.symm).trans e⟩,λc hc=>?_⟩
  .have tup2:h2.get? s.heap.objs.size=some {cls:=.type "tuple",data:=.seq #[u,v]}:=(sb.2 _ tT).trans tp;have S0:Inv X pr σ (upd H s.heap.objs.size (.tup [x,y])) {s with heap:=h2,gens:=s.gens,drawn:=s.drawn,toks:=s.toks}:=by
    refine I.step (ch:=[z,TO,i1,i2]) (λc hc=>?_) (λc o _ _ nc e _=>all c o (λq=>nc (by simp[q])) (λq=>nc (by simp[q])) (λq=>nc (by simp[q])) (λq=>nc (by simp[q])) e)
     (λc o _ _ nc e _=>⟨o.slots,all c o (λq=>nc (by simp[q])) (λq=>nc (by simp[q])) (λq=>nc (by simp[q])) (λq=>nc (by simp[q])) e⟩) (λc o _ e n=>by rw[aU (aac (ZQ e))];exact n)
     (λc o nc e=>⟨o,all c o (λq=>nc (by simp[q])) (λq=>nc (by simp[q])) (λq=>nc (by simp[q])) (λq=>nc (by simp[q])) e⟩) (λc l e=>by rw[aU (bL e nT)];exact e) (λc o u' e=>by rw[aU (bL e nT)];exact e)
     (λc ps e=>⟨#[],by rw[aU (bL e nT),e];simp⟩) (λm hm=>?_) (λc ob e=>?_) I.bare
    .simp![ZJ,aar,aco]at hc;rcases hc with rfl|rfl|rfl|rfl
     .exact⟨fz.2.2.2.1,fz.2.1,fz.2.2.2.2.1,fz.2.2.2.2.2⟩
     .exact⟨fo.2.2.2.1,fo.2.1,fo.2.2.2.2.1,fo.2.2.2.2.2⟩
     .exact⟨f1.2.2.2.1,f1.2.1,f1.2.2.2.2.1,f1.2.2.2.2.2⟩
     .exact⟨f2.2.2.2.1,f2.2.1,f2.2.2.2.2.1,f2.2.2.2.2.2⟩
    .obtain⟨o,es,ep,ho,r⟩:=hm;exact⟨o,es,ep,all _ o (abp fz.2.1) (abp fo.2.1) (abp f1.2.1) (abp f2.2.1) ho,r⟩
    .by_cases ec:c=s.heap.objs.size
     .subst ec;rw[bO]at e;cases e;exact⟨by simp![ZR,abV];rw[abI];decide,[u,v],.cons ru (.cons rv .nil),⟨_,tup2,rfl,⟨0,rfl⟩,rfl⟩⟩
     .rw[aU ec]at e;refine(I.hok c ob e).stay (λd w' hd q=>?_) (λd q=>by rw[aU (bL q nT)];exact q) λd l q=>by rw[aU (bL q nT)];exact q
      have Rw:∃oo,H d=some oo:=by
       rcases hd with rfl|hd
       .exact⟨_,e⟩
       .exact⟨_,hd⟩
      obtain⟨oo,Yc⟩:=Rw;obtain⟨m1,m2,m3,m4⟩:=UR d oo Yc;exact all d w' m1 m2 m3 m4 q
   exact S0
  .have e1:=AK I a1 s1;have e2:=AK I a2 s2;subst e1 e2;rw[hx]at a3;rw[hy]at a4;cases a3;cases a4;rfl
  .exact(sb.2 TI n1.symm).trans (kk TI _ n1.symm n5 n6 n7 RD)
  .have Zd:=(f c hc).1;have cs:c≠s.heap.objs.size:=by
    have:=(λi h st=>by
     exact(by
      obtain⟨hz,RD,⟨x,y,Sk⟩,h1,h2⟩:=st;simp![ZJ,aar,aco]at hc;rcases hc with rfl|rfl|rfl|rfl|rfl
      .exact⟨_,hz⟩
      .exact⟨_,RD⟩
      .exact⟨_,Sk⟩
      .obtain⟨o,e,_⟩:=h1.obj;exact⟨o,e⟩
      .obtain⟨o,e,_⟩:=h2.obj;exact⟨o,e⟩:∃o,h.get? c=some o):∀i h,ZS k1 k2 z TI TO i1 i2 a b i h->∃o,h.get? c=some o) i s.heap st
    obtain⟨o,e⟩:=this;exact aac (ZQ e)
   rw[aU cs];exact Zd
 done:=by
  intro X hP hw hK hc i pr s σ H E I hf st hg;subst hP hw hK;obtain⟨xs,ys,s1,s2,hi⟩:=hg;obtain⟨us,r1,q1⟩:=uL I s1;obtain⟨ws,r2,q2⟩:=uL I s2;have l1:=r1.length;have l2:=r2.length;obtain⟨n1,n2,n3,n4,n5,n6,n7,n8,n9,Yb⟩:=ne;have f:=λc hc=>hf c hc
  have D:ZipApart z TI TO i1 i2 a b:=⟨n1.symm,n2.symm,n3.symm,n4.symm,n5,n6,n7,n8,n9,Yb,iw I s1 (f z (by simp)),iw I s1 (f TO (by simp)),iw I s1 (f i1 (by simp)),iw I s1 (f i2 (by simp)),
   iw I s2 (f z (by simp)),iw I s2 (f TO (by simp)),iw I s2 (f i1 (by simp)),iw I s2 (f i2 (by simp))⟩
  have fz:=f z (by simp);have fo:=f TO (by simp);have f1:=f i1 (by simp);have f2:=f i2 (by simp);refine uM (I.ok.hd hc) D st q1 q2 (by
   rcases Nat.le_total us.length ws.length with q|q
   .exact .inl (by simp;lia)
   .exact .inr (by simp;lia)) λh' kk=>⟨rfl,?_⟩
  have UR:∀c ob,H c=some ob->c≠z/\c≠TO/\c≠i1/\c≠i2:=λc ob e=>⟨(λq=>by rw[q,fz.1]at e;cases e),(λq=>by rw[q,fo.1]at e;cases e),(λq=>by rw[q,f1.1]at e;cases e),(λq=>by rw[q,f2.1]at e;cases e)⟩
  have S0:Inv X pr σ H {s with heap:=h',gens:=s.gens,drawn:=s.drawn,toks:=s.toks}:=by
   refine I.step (ch:=[z,TO,i1,i2]) (λc hc=>?_) (λc o _ _ nc e _=>kk c o (λq=>nc (by simp[q])) (λq=>nc (by simp[q])) (λq=>nc (by simp[q])) (λq=>nc (by simp[q])) e)
    (λc o _ _ nc e _=>⟨o.slots,kk c o (λq=>nc (by simp[q])) (λq=>nc (by simp[q])) (λq=>nc (by simp[q])) (λq=>nc (by simp[q])) e⟩) (λc o _ e n=>n)
    (λc o nc e=>⟨o,kk c o (λq=>nc (by simp[q])) (λq=>nc (by simp[q])) (λq=>nc (by simp[q])) (λq=>nc (by simp[q])) e⟩) (λc l e=>e) (λc o u' e=>e)
    (λc ps e=>⟨#[],by rw[e];simp⟩) (λm hm=>?_) (λc ob e=>?_) I.bare
   .simp![ZJ,aar,aco]at hc;rcases hc with rfl|rfl|rfl|rfl
    .exact⟨fz.2.2.2.1,fz.2.1,fz.2.2.2.2.1,fz.2.2.2.2.2⟩
    .exact⟨fo.2.2.2.1,fo.2.1,fo.2.2.2.2.1,fo.2.2.2.2.2⟩
    .exact⟨f1.2.2.2.1,f1.2.1,f1.2.2.2.2.1,f1.2.2.2.2.2⟩
    .exact⟨f2.2.2.2.1,f2.2.1,f2.2.2.2.2.1,f2.2.2.2.2.2⟩
   .obtain⟨o,es,ep,ho,r⟩:=hm;exact⟨o,es,ep,kk _ o (abp fz.2.1) (abp fo.2.1) (abp f1.2.1) (abp f2.2.1) ho,r⟩
   .refine(I.hok c ob e).stay (λd w' hd q=>?_) (λd q=>q) λd l q=>q
    have Rw:∃oo,H d=some oo:=by
     rcases hd with rfl|hd
     .exact⟨_,e⟩
     .exact⟨_,hd⟩
    obtain⟨oo,Yc⟩:=Rw;obtain⟨m1,m2,m3,m4⟩:=UR d oo Yc;exact kk d w' m1 m2 m3 m4 q
  exact S0
 self:=λ_ _ _ _ _ st h=>wpAny_pyIter_zip st.1 h
section
variable{pt:Pos}
def KW(K:W.Frag)(k1 k2:Bool)(ta:TA):TI:=λσ H R=>ta σ H λvs H1=>∃a b xs ys,vs=[.ref a,.ref b]/\(if k1 then SqL K H1 a xs else SqT K H1 a xs)/\(if k2 then SqL K H1 b ys else SqT K H1 b ys)/\R (Ya K k1 k2 a b) H1
theorem E6(k1 k2:Bool){e1 e2:Expr}{ta:TA}{p pos:Pos}(hg:Gl X "zip")(hm:X.mg "zip" = none)(ha:PA X [e1,e2] ta)(he:starEach [e1,e2] X.env=(false,eval e1 X.env)::starEach [e2] X.env:=by rfl)(Nu:(backTo pos (starEach [e2] X.env)).any (·.1)=false:=by rfl):
  PI X (.Tuple es kt pt) (.Call (.Name "zip" p) [e1,e2] [] pos) (KW X.K k1 k2 ta):=by
 intro pr s σ H R I h;refine aaV (iz I hg hm (by decide +kernel:bootBuiltins "zip" = some (.type "zip")) ?_ (by decide) (by decide));refine abb (Mz (ha pos pr s σ H _ I h) λus s1 ⟨vs,H1,I1,r1,a,b,xs,ys,e,s1',s2',q⟩=>?_) he Nu;subst e;obtain⟨u,w',rfl,ra,rb⟩:=uI r1;cases ra;cases rb;obtain⟨us,v1,q1⟩:=uL I1 s1';obtain⟨ws,v2,q2⟩:=uL I1 s2';refine Ce q1 q2 λh' st kk=>?_
 refine wpAny_pyIter_zip st.1 ?_;have fr:∀j,qW X pr H1 (s1.heap.objs.size+j):=λj=>I1.fpOk (Nat.le_add_right _ _) (I1.hok.fresh (Nat.le_add_right _ _))
 have nn:∀i j:Nat,i≠j->s1.heap.objs.size+i≠s1.heap.objs.size+j:=λi j h z=>h (Nat.add_left_cancel z)
 refine⟨_,_,_,_,H1,rfl,I1.kept (t':=s1.toks) kk,yU k1 k2 a b (s1.heap.objs.size+4) (s1.heap.objs.size+2) (s1.heap.objs.size+3) (s1.heap.objs.size+0) (s1.heap.objs.size+1)
  ⟨nn 4 2 (by decide),nn 4 3 (by decide),nn 4 0 (by decide),nn 4 1 (by decide),nn 2 3 (by decide),nn 2 0 (by decide),nn 2 1 (by decide),nn 3 0 (by decide),nn 3 1 (by decide),nn 0 1 (by decide)⟩,st,λc hc=>?_,q⟩
 simp![ZJ,aar,aco]at hc;rcases hc with rfl|rfl|rfl|rfl|rfl
 .exact fr 4
 .exact fr 2
 .exact fr 3
 .exact fr 0
 .exact fr 1
end
end NX
namespace NX
open PySem PySem.W PyProof.Rows
variable{p:Array Nat}{Nn i:Nat}{Q:Nat×Array Nat->WF->Prop}{s:WF}
section
variable{n:Nat}{O:KeyOrd}{κ:Nat->O.α}{cmp:Nat->Nat->(Bool->WF->Prop)->WF->Prop}{Good:WF->Prop}
def kk(κ:Nat->O.α)(p:Array Nat)(i:Nat):O.α:=κ (p.getD i 0)
structure POk(n:Nat)(p:Array Nat):Prop where
 perm:p.toList.Perm (List.range n)
theorem POk.size{p:Array Nat}(h:POk n p):p.size=n:=by
 have:=h.perm.length_eq;simpa using this
theorem POk.lt(h:POk n p)(hi:i<n):p.getD i 0<n:=by
 have hs:=h.size;have US:i<p.size:=by lia
 have e:p.getD i 0=p[i]:=by simp[Array.getD,US]
 rw[e];exact aaY.mp (h.perm.mem_iff.mp (Array.getElem_mem_toList US))
theorem POk.of{q:Array Nat}(h:POk n p)(hq:q.Perm p):POk n q:=⟨(Array.perm_iff_toList_perm.mp hq).trans h.perm⟩
def cb(κ:Nat->O.α)(p:Array Nat)(m:Nat):Prop:=∀i j,i<=j->j<m->O.kle (kk κ p i) (kk κ p j)
def gG(κ:Nat->O.α)(p:Array Nat)(m:Nat):Prop:=∀i j,i<=j->j<m->O.kle (kk κ p j) (kk κ p i)
theorem fX{q:Array Nat}{j:Nat}(h:p[i]?=q[j]?):p.getD i 0=q.getD j 0:=by
 rw[acO,acO,h]
theorem sO{j:Nat}(hj:j<=p.size)(k:Nat):kk κ (kas_rev p i j) k=if i<=k/\k<j then kk κ p (i+j-1-k) else kk κ p k:=by
 have e:=getElem?_mirror_all (i:=i) hj k;unfold kk kas_rev;split
 .rename_i h;rw[ZY h]at e;rw[fX e]
 .rename_i h;rw[Z6 h]at e;rw[fX e]
theorem AM{src d:Nat}(hs:src<p.size)(hd:d<=src)(k:Nat):kk κ (bubble p src d) k=if k=src-d then kk κ p src else if src-d<k/\k<=src then kk κ p (k-1) else kk κ p k:=by
 have e:=getElem?_bubble hs d hd k;by_cases h:k=src-d
 .rw[ZY h]at e |-;exact abB κ (fX e)
 .rw[Z6 h]at e |-;by_cases h2:src-d<k/\k<=src
  .rw[ZY h2]at e |-;exact abB κ (fX e)
  .rw[Z6 h2]at e |-;exact abB κ (fX e)
theorem POk.rev(h:POk n p)(i j:Nat):POk n (kas_rev p i j):=h.of (mirror_perm _ _ _ _)
theorem POk.bub(h:POk n p)(i j:Nat):POk n (bubble p i j):=h.of (bubble_perm _ _ _)
theorem uN(p:Array Nat):cb κ p 1:=λi j a b=>by
 have e:i=j:=by lia
 rw[e];exact abx _
theorem rh{m:Nat}(h1:1<=m)(h:cb κ p m)(hm:O.kle (kk κ p (m-1)) (kk κ p m)):cb κ p (m+1):=by
 intro i j Tr hj;by_cases e:j=m
 .subst e;by_cases e2:i=j
  .subst e2;exact abx _
  .exact acB (h i (j-1) (by lia) (by lia)) hm
 .exact h i j Tr (by lia)
theorem fY{m:Nat}(h1:1<=m)(h:gG κ p m)(hm:O.kle (kk κ p m) (kk κ p (m-1))):gG κ p (m+1):=by
 intro i j Tr hj;by_cases e:j=m
 .subst e;by_cases e2:i=j
  .subst e2;exact abx _
  .exact acB hm (h i (j-1) (by lia) (by lia))
 .exact h i j Tr (by lia)
variable(hc:∀i j,i<n->j<n->∀(Q:Bool->WF->Prop) s,Good s->(∀s',Good s'->Q (O.blt (κ i) (κ j)) s')->cmp i j Q s)
include hc
theorem v9{p:Array Nat}(hp:POk n p){Nn:Nat}(hn:Nn<=n){Q:Nat->WF->Prop}:∀(f m:Nat) (s:WF),Good s->1<=m->m+f=Nn->cb κ p m->
  (∀r s',Good s'->m<=r->r<=Nn->cb κ p r->(r<Nn->O.klt (kk κ p r) (kk κ p (r-1)))->Q r s')->(kas_asc p f m).kasWp cmp Q s
 | 0,m,s,g,h1,hf,hs,k=>k m s g (ZO _) (by lia) hs (λz=>by lia)
 |f+1,m,s,g,h1,hf,hs,k=>by
  show cmp (p.getD m 0) (p.getD (m-1) 0) _ s;refine hc _ _ (hp.lt (by lia)) (hp.lt (by lia)) _ s g λs' g'=>?_
  cases e:O.blt (κ (p.getD m 0)) (κ (p.getD (m-1) 0)) with
  |true=>
   (try dsimp only)
   rw[ZY rfl];exact k m s' g' (ZO _) (by lia) hs λ_=>e
  |false=>
   (try dsimp only)
   rw[Z6 ZU];exact v9 hp hn f (m+1) s' g' (by lia) (by lia) (rh h1 hs e) λr s2 g2 a b c d=>k r s2 g2 (by lia) b c d
def Cf(κ:Nat->O.α)(p:Array Nat)(m q:Nat):Prop:=∀k,m-(q+1)<=k->k<m->kk κ p k=kk κ p (m-1)
omit hc in
theorem pq{m q:Nat}(hm:m<=p.size)(h:Cf κ p m q)(k:Nat):kk κ (kas_rev p (m-(q+1)) m) k=kk κ p k:=by
 rw[sO hm];split
 .rename_i hk;rw[h _ (by lia) (by lia),h k hk.1 hk.2]
 .rfl
omit hc in
theorem jP{p':Array Nat}{m:Nat}(e:∀k,kk κ p' k=kk κ p k)(h:gG κ p m):gG κ p' m:=λi j a b=>by rw[e,e];exact h i j a b
theorem nU{Nn:Nat}(hn:Nn<=n){Q:Array Nat×Nat×Nat->WF->Prop}:∀(f:Nat) (p:Array Nat) (m q:Nat) (s:WF),POk n p->Good s->1<=m->q+1<=m->m+f=Nn->gG κ p m->Cf κ p m q->
  (∀p' m' q' s',POk n p'->Good s'->m<=m'->m'<=Nn->q'+1<=m'->gG κ p' m'->Cf κ p' m' q'->Q (p',m',q') s')->(kas_desc f p m q).kasWp cmp Q s
 | 0,p,m,q,s,hp,g,h1,hq,hf,hs,ha,k=>k p m q s hp g (ZO _) (by lia) hq hs ha
 |f+1,p,m,q,s,hp,g,h1,hq,hf,hs,ha,k=>by
  show cmp (p.getD m 0) (p.getD (m-1) 0) _ s;refine hc _ _ (hp.lt (by lia)) (hp.lt (by lia)) _ s g λs' g'=>?_
  have hsz:=hp.size;cases e:O.blt (κ (p.getD m 0)) (κ (p.getD (m-1) 0)) with
  |true=>
   (try dsimp only)
   rw[ZY rfl];have le:O.kle (kk κ p m) (kk κ p (m-1)):=acj e;by_cases h0:q>0
   .rw[ZY h0];have same:=pq (κ:=κ) (p:=p) (m:=m) (q:=q) (by lia) ha;refine nU hn f _ (m+1) 0 s' (hp.rev _ _) g' (by lia) (by lia) (by lia) (fY h1 (jP same hs) (by rw[same,same];exact le)) ?_ λp' m' q' s2 a b c d e' f' g2=>k p' m' q' s2 a b (by lia) d e' f' g2
    intro k' a b;have:k'=m:=by lia
    rw[this];rfl
   .rw[Z6 h0];refine nU hn f p (m+1) 0 s' hp g' (by lia) (by lia) (by lia) (fY h1 hs le) ?_ λp' m' q' s2 a b c d e' f' g2=>k p' m' q' s2 a b (by lia) d e' f' g2
    intro k' a b;have:k'=m:=by lia
    rw[this];rfl
  |false=>
   (try dsimp only)
   rw[Z6 ZU];show cmp (p.getD (m-1) 0) (p.getD m 0) _ s';refine hc _ _ (hp.lt (by lia)) (hp.lt (by lia)) _ s' g' λs2 g2=>?_
   cases e2:O.blt (κ (p.getD (m-1) 0)) (κ (p.getD m 0)) with
   |true=>
    (try dsimp only)
    rw[ZY rfl];exact k p m q s2 hp g2 (ZO _) (by lia) hq hs ha
   |false=>
    (try dsimp only)
    rw[Z6 ZU];have eq:kk κ p (m-1)=kk κ p m:=KeyOrd.kle_antisymm (O:=O) e e2;refine nU hn f p (m+1) (q+1) s2 hp g2 (by lia) (by lia) (by lia) (fY h1 hs (by rw[eq];exact abx _)) ?_ λp' m' q' s3 a b c d e' f' g3=>k p' m' q' s3 a b (by lia) d e' f' g3
    intro k' a b;show kk κ p k'=kk κ p m;by_cases z:k'=m
    .rw[z]
    .rw[ha k' (by lia) (by lia),eq]
omit hc in
theorem uO{m:Nat}(hm:m<=p.size)(h:gG κ p m):cb κ (kas_rev p 0 m) m:=by
 intro i j a b;rw[sO hm,sO hm,ZY (by lia),ZY (by lia)];exact h _ _ (by lia) (by lia)
theorem wa(hp:POk n p){m:Nat}(hn:Nn<=n)(h1:1<=m)(hm:m<=Nn)(hs:gG κ p m)(g:Good s)
  (k:∀r p' s',POk n p'->Good s'->1<=r->r<=Nn->cb κ p' r->Q (r,p') s'):(kas_tail3 m Nn p).kasWp cmp Q s:=by
 unfold kas_tail3;rw[KasT.kasWp_bind];have hsz:=hp.size;refine v9 hc (hp.rev 0 m) hn (Nn-m) m s g h1 (by lia) (uO (by lia) hs) λr s' g' a b c _=>?_
 exact k r _ s' (hp.rev 0 m) g' (by lia) b c
theorem ll(hp:POk n p){m:Nat}(hn:Nn<=n)(h1:1<=m)(hm:m+1<=Nn)(hs:gG κ p (m+1))(g:Good s)
  (k:∀r p' s',POk n p'->Good s'->1<=r->r<=Nn->cb κ p' r->Q (r,p') s'):(kas_descPart m Nn p).kasWp cmp Q s:=by
 unfold kas_descPart;rw[KasT.kasWp_bind];refine nU hc hn (Nn-(m+1)) p (m+1) 0 s hp g (by lia) (by lia) (by lia) hs ?_ λp' m' q' s' a b c d e f g2=>?_
 .intro k' a b;have:k'=m:=by lia
  rw[this];rfl
 .have hsz:=a.size;dsimp only;split
  .have same:=pq (κ:=κ) (p:=p') (m:=m') (q:=q') (by lia) g2;exact wa hc (a.rev _ _) hn (by lia) d (jP same f) b k
  .exact wa hc a hn (by lia) d f b k
theorem yV(hp:POk n p)(hn:Nn<=n)(h1:1<=Nn)(g:Good s)
  (k:∀r p' s',POk n p'->Good s'->1<=r->r<=Nn->cb κ p' r->Q (r,p') s'):(kas_count Nn p).kasWp cmp Q s:=by
 unfold kas_count;rw[KasT.kasWp_bind];have hsz:=hp.size;refine v9 hc hp hn (Nn-1) 1 s g (ZO _) (by lia) (uN p) λm s' g' a b c d=>?_
 by_cases e:m=Nn
 .rw[ZY (by simpa using e)];exact k m p s' hp g' (by lia) (by lia) c
 .rw[Z6 (by simpa using e)];have dd:=d (by lia);by_cases h2:m>1
  .rw[ZY h2];show cmp (p.getD 0 0) (p.getD (m-1) 0) _ s';refine hc _ _ (hp.lt (by lia)) (hp.lt (by lia)) _ s' g' λs2 g2=>?_
   cases e2:O.blt (κ (p.getD 0 0)) (κ (p.getD (m-1) 0)) with
   |true=>
    (try dsimp only)
    rw[ZY rfl];exact k m p s2 hp g2 (by lia) b c
   |false=>
    (try dsimp only)
    rw[Z6 ZU];have eq:∀i,i<m->kk κ p i=kk κ p 0:=λi hi=>by
     have x1:=c 0 i (by lia) hi;have x2:=c i (m-1) (by lia) (by lia);exact KeyOrd.kle_antisymm (O:=O) (acB x2 e2) x1
    have same:∀i,kk κ (kas_rev p 0 m) i=kk κ p i:=λi=>by
     rw[sO (by lia)];split
     .rw[eq _ (by lia),eq i (by lia)]
     .rfl
    refine ll hc (hp.rev 0 m) hn (by lia) (by lia) ?_ g2 k;refine jP same (fY (by lia) (λi j x y=>?_) (acj dd));rw[eq i (by lia),eq j y];exact abx _
  .rw[Z6 h2];refine ll hc hp hn (by lia) (by lia) (fY (by lia) (λi j x y=>?_) (acj dd)) g' k;have:i=j:=by lia
   rw[this];exact abx _
theorem nV{p:Array Nat}(hp:POk n p){t:Nat}(ht:t<n)(hs:cb κ p t){Q:Nat->WF->Prop}:∀(f l r:Nat) (s:WF),Good s->l<=r->r<=t->r-l<=f->(∀i,i<l->O.kle (kk κ p i) (kk κ p t))->(∀i,r<=i->i<t->O.klt (kk κ p t) (kk κ p i))->
  (∀x s',Good s'->x<=t->(∀i,i<x->O.kle (kk κ p i) (kk κ p t))->(∀i,x<=i->i<t->O.klt (kk κ p t) (kk κ p i))->Q x s')->(kas_place p t f l r).kasWp cmp Q s
 | 0,l,r,s,g,h1,h2,h3,lo,hi,k=>k l s g (by lia) lo λi a b=>hi i (by lia) b
 |f+1,l,r,s,g,h1,h2,h3,lo,hi,k=>by
  unfold kas_place;by_cases e:l>=r
  .rw[ZY e];exact k l s g (by lia) lo λi a b=>hi i (by lia) b
  .rw[Z6 e];show cmp (p.getD t 0) (p.getD ((l+r) / 2) 0) _ s;refine hc _ _ (hp.lt ht) (hp.lt (by lia)) _ s g λs' g'=>?_
   cases e2:O.blt (κ (p.getD t 0)) (κ (p.getD ((l+r) / 2) 0)) with
   |true=>
    (try dsimp only)
    rw[ZY rfl];refine nV hp ht hs f l ((l+r) / 2) s' g' (by lia) (by lia) (by lia) lo (λi a b=>?_) k;exact KeyOrd.klt_of_klt_of_kle (O:=O) e2 (hs _ i a b)
   |false=>
    (try dsimp only)
    rw[Z6 ZU];refine nV hp ht hs f ((l+r) / 2+1) r s' g' (by lia) (by lia) (by lia) (λi a=>?_) hi k;exact acB (O:=O) (hs i ((l+r) / 2) (by lia) (by lia)) e2
theorem AN{Q:Array Nat->WF->Prop}:∀(f:Nat) (p:Array Nat) (t:Nat) (s:WF),POk n p->Good s->t+f=n->cb κ p t->(∀p' s',POk n p'->Good s'->cb κ p' n->Q p' s')->(kas_bin f p t).kasWp cmp Q s
 | 0,p,t,s,hp,g,hf,hs,k=>k p s hp g (by rw[show n=t by lia];exact hs)
 |f+1,p,t,s,hp,g,hf,hs,k=>by
  unfold kas_bin;rw[KasT.kasWp_bind];have hsz:=hp.size;refine nV hc hp (by lia) hs t 0 t s g (aaB _) (ZO _) (by lia) (λi a=>by lia) (λi a b=>by lia) λx s' g' hx lo hi=>?_
  refine AN f _ (t+1) s' (hp.bub _ _) g' (by lia) ?_ k;have ex:t-(t-x)=x:=by lia
  intro i j a b;rw[AM (by lia) (by lia),AM (by lia) (by lia),ex];have lo':=lo;by_cases i1:i=x
  .by_cases j1:j=x
   .rw[ZY i1,ZY j1];exact abx _
   .rw[ZY i1,Z6 j1,ZY (by lia)];exact acj (hi (j-1) (by lia) (by lia))
  .rw[Z6 i1];by_cases i2:x<i/\i<=t
   .rw[ZY i2,Z6 (by lia),ZY (by lia)];exact hs (i-1) (j-1) (by lia) (by lia)
   .rw[Z6 i2];by_cases j1:j=x
    .rw[ZY j1];exact lo i (by lia)
    .rw[Z6 j1];by_cases j2:x<j/\j<=t
     .rw[ZY j2];exact hs i (j-1) (by lia) (by lia)
     .rw[Z6 j2];exact hs i j a (by lia)
theorem Cg(h1:1<=n){Q:Array Nat->WF->Prop}(g:Good s)(k:∀p s',POk n p->Good s'->cb κ p n->Q p s'):(kas_sort n).kasWp cmp Q s:=by
 unfold kas_sort;rw[KasT.kasWp_bind];refine yV hc (p:=List.toArray (List.range n)) ⟨by simp⟩ (ZO _) h1 g λr p' s' hp g' a b c=>?_
 dsimp only;split
 .have e:max r 1=r:=by lia
  rw[e];exact AN hc (n-r) p' r s' hp g' (by lia) c k
 .exact k p' s' hp g' (by rw[show n=r by lia];exact c)
end
end NX
namespace NX
open PySem PySem.W PySem.Spec PyProof.Rows L2
variable{prog:W1}{w:World}{A:Uf}{s:WF}{a:WP}{vs:List Wp}
section
variable{E:Wp->WF->Prop}
theorem sP(n:Nat):POk n (List.toArray (List.range n)):=⟨by simp⟩
theorem nW{O:KeyOrd}{key:Nat->O.α}{kd:SortKind}{n:Nat}{P:PySem.Fin->WF->Prop}(ho:s.heap.get? a=some (seqObj "list" vs.toArray n))(VJ:vs.length<64)
  (PB:2<=vs.length->∀(h':UF),(∀b o,b≠a->s.heap.get? b=some o->h'.get? b=some o)->∀Q:SortKind->WF->Prop,Q kd {s with heap:=h'}->wpAny (model prog w) A (keyKind' vs.toArray) Q E {s with heap:=h'})
  (UT:∀i j,i<vs.length->j<vs.length->∀(h':UF),(∀b o,b≠a->s.heap.get? b=some o->h'.get? b=some o)->∀C:Bool->WF->Prop,C (O.blt (key i) (key j)) {s with heap:=h'}->kas_ask prog w A kd vs i j C {s with heap:=h'})
  (h:∀p h',POk vs.length p->cb key p vs.length->(∃e,h'.get? a=some (seqObj "list" (List.toArray (p.toList.map λi=>vs.getD i .none)) e))->(∀b o,b≠a->s.heap.get? b=some o->h'.get? b=some o)->P (.done (.ret .none)) {s with heap:=h'}):
  wpAny (model prog w) A (Builtin.«list.sort» ⟨[.ref a],[]⟩) P E s:=by
 rw[list_sort_plain];have la:a<s.heap.objs.size:=ZQ ho;have zs:vs.toArray.size=vs.length:=by simp
 refine ZH (listItems_at ho rfl (ZH (listUpdate_at ho rfl ?_ (by rw[zs,abI];lia) (aaB _))));obtain⟨e1,h1⟩:∃e1,(s.heap.update a (Obj.mapSeq λ_=>#[])).get? a=some (seqObj "list" #[] e1):=⟨_,get?_update_seq ho (λ_=>#[])⟩
 refine ZH (seqEpoch_at h1 rfl (ZH (wpAny_newTuple (ZH (wpAny_newList (aa1 ?_))) (by simp![acJ];rw[abI];lia))));generalize e6:((s.heap.update a (Obj.mapSeq λ_=>#[])).push {cls:=.type "tuple",data:=.seq vs.toArray.toList.toArray}).push {cls:=.type "list",data:=.seq ([]:List Wp).toArray}=h6;have k6:∀b o,b≠a->s.heap.get? b=some o->h6.get? b=some o:=λb o nb e=>by
  rw[<-e6];exact ZL _ (ZL _ ((aaz _ _ (abp nb)).trans e))
 have Wf:h6.get? a=some (seqObj "list" #[] e1):=by
  rw[<-e6];exact ZL _ (ZL _ h1)
 dsimp only;have fin:∀(p:Array Nat),POk vs.length p->cb key p vs.length->∀out:Array Wp,out=List.toArray (p.toList.map λi=>vs.getD i .none)->
   P (.done (.ret .none)) {s with heap:=h6.update a (Obj.mapSeq λ_=>out)}:=λp hp hs out eo=>by
  subst eo;exact h p _ hp hs ⟨_,get?_update_seq Wf _⟩ λb o nb e=>(aaz _ _ (abp nb)).trans (k6 b o nb e)
 have fits:∀{out:Array Wp}{p:Array Nat},POk vs.length p->out=List.toArray (p.toList.map λi=>vs.getD i .none)->out.size<=sizeLine+1:=λ{out p} hp e=>by
  rw[e,ZZ,ZT,hp.perm.length_eq,aal,abI];lia
 by_cases h2:vs.toArray.size<2
 .rw[ZY h2,ZY h2];refine ZH (ZM ?_);rw[StateT.run_pure];refine ZH (ZM ?_);dsimp only;have eo:(arrOf (SortSt.mk' general' (vs.toArray.zip vs.toArray) #[] 7 none)).map (·.2)=List.toArray ((List.toArray (List.range vs.length)).toList.map λi=>vs.getD i .none):=by
   show(vs.toArray.zip vs.toArray).map (·.2)=_;apply Array.toList_inj.mp;simp![Array.toList_map,Array.toList_zip,acJ];have a1:(vs.zip vs).map (·.2)=vs:=by
    rw[List.map_snd_zip];exact ZO _
   rw[a1];apply ack;intro i;by_cases hi:i<vs.length
   .simp[hi]
   .simp[hi]
  refine ZH (seqEpoch_at Wf rfl (ZH (listUpdate_at Wf rfl ?_ (aaB _) (fits (sP _) eo))));simp![ade,aav,acX];refine ZM (fin _ (sP _) ?_ _ eo);intro i j x y;have:i=j:=by lia
  rw[this];exact abx _
 .rw[Z6 h2,Z6 h2];have Ze:2<=vs.length:=by lia
  refine ZH (PB Ze h6 k6 _ ?_);refine ZH (aaf (kat_run (ks:=vs) (vs:=vs) (Q:=λPf s'=>∃p,POk vs.length p/\cb key p vs.length/\arrOf Pf=p.map (kas_item (vs.toArray.zip vs.toArray))/\failedOf Pf=none/\s'={s with heap:=h6})
   (G:=λp s'=>POk vs.length p/\cb key p vs.length/\s'={s with heap:=h6}) rfl Ze VJ (λp Pf s' hz Yd hf hg=>⟨p,hg.1,hg.2.1,Yd,hf,hg.2.2⟩)
   (Cg (n:=vs.length) (O:=O) (κ:=key) (Good:=λs'=>s'={s with heap:=h6}) (λi j hi hj Q s' g k=>?_) (by lia) rfl λp s' hp g hs=>⟨hp,hs,g⟩)) (λr s' hq=>?_) λ_ _ e=>e)
  .subst g;exact UT i j hi hj h6 k6 Q (k _ rfl)
  .obtain⟨p,hp,hs,Yd,hf,rfl⟩:=hq;have eo:=kat_snds (ks:=vs) (vs:=vs) rfl Yd;refine ZH (seqEpoch_at Wf rfl (ZH (listUpdate_at Wf rfl ?_ (aaB _) (fits hp eo))));rw[hf];simp![ade,aav,acX];exact ZM (fin p hp hs _ eo)
theorem mS{O:KeyOrd}{key:Nat->O.α}{kd:SortKind}{l:WP}{Q:Wp->WF->Prop}(hl:s.heap.IsList l vs.toArray)(VJ:vs.length<64)
  (PB:2<=vs.length->∀(A':Uf) (E':Wp->WF->Prop) (h':UF),(∀b o,s.heap.get? b=some o->h'.get? b=some o)->∀Q:SortKind->WF->Prop,Q kd {s with heap:=h'}->wpAny (model prog w) A' (keyKind' vs.toArray) Q E' {s with heap:=h'})
  (UT:∀i j,i<vs.length->j<vs.length->∀(h':UF),(∀b o,s.heap.get? b=some o->h'.get? b=some o)->∀C:Bool->WF->Prop,C (O.blt (key i) (key j)) {s with heap:=h'}->kas_ask prog w A.in1.in1 kd vs i j C {s with heap:=h'})
  (h:∀p h' e,POk vs.length p->cb key p vs.length->h'.get? (s.heap.objs.size+1)=some (seqObj "list" (List.toArray (p.toList.map λi=>vs.getD i .none)) e)->(∀b o,s.heap.get? b=some o->h'.get? b=some o)->Q (.ref (s.heap.objs.size+1)) {s with heap:=h'}):
  wpAny (model prog w) A (call (.builtin "sorted") [.ref l]) Q E s:=by
 refine Calls.call_function_entry kind_sorted plain_sorted entry_sorted (args_sorted1 _) ?_;unfold Builtin.«sorted»;refine ZH (m:=checkCount "sorted" 1 1 _) (ZM (ZH (collect_list hl (ZH (wpAny_newList ?_ (by rw[abI];lia))) (by rw[abI];lia))));have zz:((s.heap.push (seqObj "list" #[] 0)).update s.heap.objs.size (Obj.mapSeq (·++vs.toArray))).objs.size=s.heap.objs.size+1:=by rw[Heap.size_update,size_push']
 generalize e5:(s.heap.push (seqObj "list" #[] 0)).update s.heap.objs.size (Obj.mapSeq (·++vs.toArray))=h5 at zz |-;have k5:∀b o,s.heap.get? b=some o->(h5.push (seqObj "list" vs.toArray 0)).get? b=some o:=λb o e=>by
  rw[<-e5];exact ZL _ ((aaz _ _ (abp (aac (ZQ e)))).trans (ZL _ e))
 have hL:(h5.push (seqObj "list" vs.toArray 0)).get? (s.heap.objs.size+1)=some (seqObj "list" vs.toArray 0):=by
  rw[<-zz];exact Z0 _ rfl
 have ne:∀b o,s.heap.get? b=some o->b≠s.heap.objs.size+1:=λb o e=>aac (adg (ZQ e))
 show wpAny _ _ _ _ _ {s with heap:=h5.push (seqObj "list" vs.toArray 0)};rw[zz];refine ZH (aa1 (aa2 slot_list_sort ⟨_,hL,rfl⟩ entry_list_sort (nW (key:=key) (kd:=kd) hL VJ (λh2 h' kk Q' q=>PB h2 _ _ h' (λb o e=>kk b o (ne b o e) (k5 b o e)) Q' q)
  (λi j hi hj h' kk C q=>UT i j hi hj h' (λb o e=>kk b o (ne b o e) (k5 b o e)) C q) λp h' hp hs ⟨e,he⟩ kk=>⟨_,rfl,?_⟩) (args_list_sort _)))
 exact ZM ⟨_,rfl,h p h' e hp hs he λb o q=>kk b o (ne b o q) (k5 b o q)⟩
end
def intO:KeyOrd where
 α:=Int
 blt a b:=decide (a<b)
 irrefl a:=by simp
 trans a b c h1 h2:=by simp![Z2] at *;lia
 negTrans a b c h:=by simp![Z2] at *;lia
 total a b h1 h2:=by simp![abq] at *;lia
abbrev J4:KeyOrd:=strKind.toKeyOrd
def sQ:KeyOrd where
 α:=Key
 blt a b:=match a,b with
  | .inl i,.inl j=>decide (i<j)
  | .inr x,.inr y=>decide (x.cps.toList<y.cps.toList)
  | .inl _,.inr _=>true
  | .inr _,.inl _=>false
 irrefl a:=by
  cases a with
  |inl i=>simp
  |inr x=>simpa using List.lt_irrefl x.cps.toList
 trans a b c h1 h2:=by
  cases a <;> cases b <;> cases c <;> simp_all
  .lia
  .exact List.lt_trans h1 h2
 negTrans a b c h:=by
  cases a <;> cases b <;> cases c <;> simp_all
  .lia
  .rename_i x y z;by_cases q:x.cps.toList<y.cps.toList
   .exact .inl q
   .exact .inr (List.lt_of_le_of_lt (ado.mp q) h)
 total a b h1 h2:=by
  cases a <;> cases b <;> simp_all
  .lia
  .rename_i x y;have e:x.cps.toList=y.cps.toList:=List.le_antisymm (by first|exact h2|exact ado.mp h2) (by first|exact h1|exact ado.mp h1);rw[<-lh x,<-lh y,e]
def gE:List Key->List Key->Bool
 |[],[]=>false
 |[],_::_=>true
 |_::_,[]=>false
 |a::r,b::t=>if a=b then gE r t else sQ.blt a b
theorem iT:∀a:List Key,gE a a=false
 |[]=>rfl
 |a::r=>by
  show(if a=a then gE r r else _)=false;rw[ZY rfl];exact iT r
theorem Ci{a b:Key}(h:sQ.blt a b=true):a≠b:=by
 rintro rfl;have:=sQ.irrefl a;rw[h]at this;cases this
theorem ig:∀a b c:List Key,gE a b=true->gE b c=true->gE a c=true
 |[],[],_,h,_=>by cases h
 |[],_::_,[],_,h=>by cases h
 |[],_::_,_::_,_,_=>rfl
 |_::_,[],_,h,_=>by cases h
 |_::_,_::_,[],_,h=>by cases h
 |a::r,b::t,c::u,h1,h2=>by
  have h1:(if a=b then gE r t else sQ.blt a b)=true:=h1;have h2:(if b=c then gE t u else sQ.blt b c)=true:=h2;show(if a=c then gE r u else sQ.blt a c)=true;by_cases e1:a=b
  .by_cases e2:b=c
   .rw[ZY e1]at h1;rw[ZY e2]at h2;rw[ZY (e1.trans e2)];exact ig r t u h1 h2
   .rw[Z6 e2]at h2;rw[e1,Z6 e2];exact h2
  .rw[Z6 e1]at h1;by_cases e2:b=c
   .rw[<-e2,Z6 e1];exact h1
   .rw[Z6 e2]at h2;have h3:=sQ.trans a b c h1 h2;rw[Z6 (Ci h3)];exact h3
theorem ij:∀a b:List Key,gE a b=false->gE b a=false->a=b
 |[],[],_,_=>rfl
 |[],_::_,h,_=>by cases h
 |_::_,[],_,h=>by cases h
 |a::r,b::t,h1,h2=>by
  have h1:(if a=b then gE r t else sQ.blt a b)=false:=h1;have h2:(if b=a then gE t r else sQ.blt b a)=false:=h2;by_cases e:a=b
  .rw[ZY e]at h1;rw[ZY e.symm]at h2;rw[e,ij r t h1 h2]
  .rw[Z6 e]at h1;rw[Z6 (abp e)]at h2;exact absurd (sQ.total a b h1 h2) e
theorem yW(a b c:List Key)(h:gE a c=true):gE a b=true\/gE b c=true:=by
 cases e:gE a b with
 |true=>exact .inl rfl
 |false=>
  refine .inr ?_;cases e2:gE b a with
  |true=>exact ig b a c e2 h
  |false=>
   rw[<-ij a b e e2];exact h
def J5:KeyOrd where
 α:=List Key
 blt:=gE
 irrefl:=iT
 trans:=ig
 negTrans:=yW
 total:=ij
variable{α:Type}{p:Array Nat}{xs:List V}{us:List Wp}
section
variable{O:KeyOrd}
def Cj(p:Array Nat)(xs:List V):List V:=p.toList.map λi=>xs.getD i .non
theorem mG(xs:List α)(d:α):((List.range xs.length).map λi=>xs.getD i d)=xs:=by
 apply ack;intro i;by_cases hi:i<xs.length
 .simp[hi]
 .simp[hi]
theorem sR{xs:List α}(d:α)(hp:POk xs.length p):(p.toList.map λi=>xs.getD i d).Perm xs:=by
 have:=hp.perm.map (λi=>xs.getD i d)
 rwa [mG]at this
theorem mT{xs:List α}(d:α)(key:α->O.α)(hp:POk xs.length p)(hs:cb (O:=O) (λi=>key (xs.getD i d)) p xs.length):(p.toList.map λi=>xs.getD i d).Pairwise λa b=>O.kle (key a) (key b):=by
 rw[List.pairwise_iff_getElem];intro i j hi hj Tr;have hsz:=hp.size;have US:i<p.size:=by simpa using hi
 have Xt:j<p.size:=by simpa using hj
 have h:=hs i j (adD Tr) (by lia);unfold kk at h;simp![List.getElem_map,Array.getElem_toList];have e1:p.getD i 0=p[i]:=by simp[Array.getD,US]
 have e2:p.getD j 0=p[j]:=by simp[Array.getD,Xt]
 rw[e1,e2]at h;exact h
theorem vals_pick{xs:List V}{us:List Wp}(r:Vals xs us):∀l:List Nat,(∀i∈l,i<xs.length)->Vals (l.map λi=>xs.getD i .non) (l.map λi=>us.getD i .none)
 |[],_=>.nil
 |i::l,h=>by
  refine .cons ?_ (vals_pick r l λj hj=>h j (ZN _ hj));have hi:=h i ZI;have e1:xs[i]?=some (xs.getD i .non):=by rw[dy _ _ _ hi];exact ZW hi
  obtain⟨u,hu,ru⟩:=r.get e1;have e2:us.getD i .none=u:=by rw[aab,hu];rfl
  show L2.RelV (xs.getD i .non) (us.getD i .none);rw[e2];exact ru
theorem sS(r:Vals xs us)(hp:POk xs.length p):Vals (Cj p xs) (p.toList.map λi=>us.getD i .none):=
 vals_pick r _ λi hi=>aaY.mp (hp.perm.mem_iff.mp hi)
end
variable{X:Cx}{pr:List (WP×Obj)}{σ:L2.St}{H:Hp}{h':UF}{i:Nat}
section
theorem px{ys:List V}{e:Nat}{D:WP}(I:Inv X pr σ H s)(kk:∀b o,s.heap.get? b=some o->h'.get? b=some o)(hD:s.heap.objs.size<=D)
  (ho:h'.get? D=some (seqObj "list" (List.toArray us) e)) (r:Vals ys us) (hz:ys.length<=sizeLine):Inv X pr σ (upd H D (.lst ys)) {s with heap:=h'}:=
 I.laid (t':=s.toks) kk hD ⟨hz,us,e,r,ho⟩
theorem ri{ls:List (List Nat)}(r:Vals (ls.map λl=>V.str (S l)) us){v:Wp}(h:us[i]?=some v):∃t,v=.str (S (ls.getD i [])) t:=by
 have hl:=r.length;rw[ZT]at hl;obtain⟨hi,_⟩:=Z1.mp h;have e1:(ls.map λl=>V.str (S l))[i]?=some (.str (S (ls.getD i []))):=by
  rw[Z9,ZW (by lia),dy _ _ _ (by lia)];rfl
 obtain⟨u,hu,t,rfl⟩:=r.get e1;rw[h]at hu;exact⟨t,aax hu⟩
theorem ky(hc:X.calm=true):dF X (.builtin "sorted") (λvs H Q=>∃(p:WP) (ls:List (List Nat)),vs=[.ref p]/\SqL X.K H p (ls.map λl=>V.str (S l))/\ls.length<64/\∀(D:WP) (ms:List (List Nat)),H D=none->ms.Perm ls->ms.Pairwise (λa b=>¬ b<a)->Q (.ref D) (upd H D (.lst (ms.map λl=>V.str (S l))))):=by
 intro pr s σ H vs us Q I r h;obtain⟨p,ls,rfl,hp,VJ,q⟩:=h;obtain⟨u,rfl,r1⟩:=fV r;cases r1;obtain⟨ws,rv,pl,hz⟩:=I.list hp;have hl:=rv.length;rw[ZT]at hl;refine mS (O:=J4) (key:=λi=>ls.getD i []) (kd:=oneType') pl.isList (by lia) (λh2 A' E' h' kk Q' q'=>?_) (λi j hi hj h' kk C q'=>?_) λpp h' e Q7 hs he kk=>?_
 .refine kas_kind h2 (T:=.type "str") (λv hv=>?_) (by decide) (by decide) q';obtain⟨i,hi⟩:=abl.mp hv;obtain⟨t,rfl⟩:=ri rv hi;exact λA Q E s _ q=>acq (ada s _ t) q
 .unfold kas_ask;have e1:ws[i]?=some (ws.getD i .none):=by rw[dy _ _ _ hi];exact ZW hi
  have e2:ws[j]?=some (ws.getD j .none):=by rw[dy _ _ _ hj];exact ZW hj
  obtain⟨t,Xu⟩:=ri rv e1;obtain⟨t',e2'⟩:=ri rv e2;rw[Xu,e2'];refine kas_lt_str ?_;rw[eF,eF];exact q'
 .rw[<-hl]at Q7 hs;have Ye:POk (ls.map λl=>V.str (S l)).length pp:=by rw[ZT];exact Q7
  have eo:Cj pp (ls.map λl=>V.str (S l))=(pp.toList.map λi=>ls.getD i []).map λl=>V.str (S l):=by
   unfold Cj;rw[aah];refine abP λi hi=>?_
   have hi:=aaY.mp (Q7.perm.mem_iff.mp hi);show(ls.map λl=>V.str (S l)).getD i .non=V.str (S (ls.getD i []));rw[dy _ _ _ (by rw[ZT];exact hi),dy _ _ _ hi];simp
  have hn:H (s.heap.objs.size+1)=none:=I.hok.fresh (abU _);refine⟨.ref (s.heap.objs.size+1),_,px I kk (abU _) he (sS rv Ye) ?_,rfl,?_⟩
  .show(Cj pp (ls.map λl=>V.str (S l))).length<=sizeLine;rw[eo,ZT,ZT,Q7.perm.length_eq,aal,abI];lia
  .rw[eo];refine q _ _ hn (sR [] Q7) ?_;have:=mT (O:=J4) [] (λl:List Nat=>l) Q7 hs;refine this.imp λ{a b} VL=>?_
   have VL:decide (b<a)=false:=VL;exact of_decide_eq_false VL
end
def kinds(k:List Key):List Bool:=k.map λx=>x.isLeft
section
theorem wb(a b:Key):X4 (kV a) (kV b)=decide (a=b):=by
 cases a <;> cases b <;> (rw[aay];simp[kV,X4])
theorem kU(a:Key):yL (kV a)=true:=by cases a <;> rfl
theorem E7{a b:Key}{u v:Wp}{top:Bool}{Q:Bool->WF->Prop}(ra:L2.RelV (kV a) u)(rb:L2.RelV (kV b) v)(hk:a.isLeft=b.isLeft)(q:Q (sQ.blt a b) s):wpAny (model prog w) A (oneLt' top u v) Q (λ_ _=>False) s:=by
 cases a with
 |inl i=>
  cases b with
  |inr _=>cases hk
  |inl j=>
   obtain⟨t,rfl⟩:=ra;obtain⟨t',rfl⟩:=rb;cases top with
   |true=>exact kat_lt_int (E:=λ_ _=>False) q
   |false=>exact kat_one _ _ (lt_int q)
 |inr x=>
  cases b with
  |inl _=>cases hk
  |inr y=>
   obtain⟨t,rfl⟩:=ra;obtain⟨t',rfl⟩:=rb;cases top with
   |true=>exact oneLt_str q
   |false=>exact kat_one _ _ (lt_str q)
theorem pA{Q:Bool->WF->Prop}:∀(k1 k2:List Key) (us ws:List Wp) (i:Nat),Vals (k1.map kV) us->Vals (k2.map kV) ws->kinds k1=kinds k2->Q (gE k1 k2) s->KatLex prog w A true false Q (us.zip ws) i s
 |[],[],_,_,_,.nil,.nil,_,q=>q
 |[],_::_,_,_,_,_,_,h,_=>by cases h
 |_::_,[],_,_,_,_,_,h,_=>by cases h
 |a::r,b::t,u::us,v::ws,i,.cons ru rus,.cons rv rvs,h,q=>by
  have h1:a.isLeft=b.isLeft:=(abH h).1;have h2:kinds r=kinds t:=(abH h).2;have q:Q (if a=b then gE r t else sQ.blt a b) s:=q;refine kat_cons (AF (A:=A) (s:=s) ru rv (kU a) (kU b) prog w _ _ ?_);rw[wb];by_cases e:a=b
  .rw[ZY e]at q;rw[aao e];exact kat_yes (pA r t us ws (i+1) rus rvs h2 q)
  .rw[Z6 e]at q;rw[Z7 e];exact kat_no (E7 ru rv h1 q)
end
variable{al:List (WP×List Key)}
section
theorem wc(I:Inv X pr σ H s)(h:SqT X.K H a xs):∃(us:List Wp) (o:Obj) (n:Nat),Vals xs us/\s.heap.get? a=some o/\o.cls=.type "tuple"/\o.data=.seq us.toArray n:=by
 obtain⟨us,r,pl,_⟩:=I.tuple h;obtain⟨o,ho,oc,n,od⟩:=pl;exact⟨us,o,n,r,ho,oc,od⟩
theorem wd(r:Vals (al.map λa=>V.ref a.1) us)(h:i<al.length):us.getD i .none=.ref (al.getD i (0,[])).1:=by
 have e1:(al.map λa=>V.ref a.1)[i]?=some (.ref (al.getD i (0,[])).1):=by
  rw[Z9,ZW h,dy _ _ _ h];rfl
 obtain⟨u,hu,ru⟩:=r.get e1;rw[aab,hu];exact ru
theorem yX(I:Inv X pr σ H s)(kk:∀b o,s.heap.get? b=some o->h'.get? b=some o)(top:Bool):
  (r:Vals (al.map λa=>V.ref a.1) us)->(∀a∈al,SqT X.K H a.1 (a.2.map kV)/\∃t,kinds a.2=top::t)->∃fs:List Wp,KatTups h' us fs/\fs.length=al.length/\∀v∈fs,∀M:Model,Looks M h' (typeOf v) (.type (if top then "int" else "str")):=by
 induction al generalizing us with
 |nil=>
  intro r _;cases r;exact⟨[],trivial,rfl,λv hv=>by cases hv⟩
 |cons a al ih=>
  intro r h;cases r with
  |cons ra rs=>
   cases ra;obtain⟨fs,t1,t2,t3⟩:=ih rs λb hb=>h b (ZN _ hb)
   obtain⟨ha,kt,hk⟩:=h a ZI;obtain⟨ws,o,n,rv,ho,oc,od⟩:=wc I ha;cases e2:a.2 with
   |nil=>rw[e2]at hk;cases hk
   |cons k ks=>
    rw[e2]at rv hk;have Zf:k.isLeft=top:=(abH hk).1;cases rv with
    | @cons _ f _ fr rf rfs=>
     refine⟨f::fs,KatTups.cons (kk _ _ ho) oc od (by simp) t1,by simp[t2],λv hv M=>?_⟩;rcases ZJ.mp hv with rfl|hv
     .cases k with
      |inl i=>
       obtain⟨t,rfl⟩:=rf;have:top=true:=Zf.symm;subst this;exact λA Q E s _ q=>acq (typeIs_int s _ t) q
      |inr x=>
       obtain⟨t,rfl⟩:=rf;have:top=false:=Zf.symm;subst this;exact λA Q E s _ q=>acq (ada s _ t) q
     .exact t3 v hv M
end
section
theorem kz(hc:X.calm=true):dF X (.builtin "sorted") (λvs H Q=>∃(p:WP) (al:List (WP×List Key)) (top:Bool) (t:List Bool),vs=[.ref p]/\SqL X.K H p (al.map λa=>V.ref a.1)/\(∀a∈al,SqT X.K H a.1 (a.2.map kV)/\kinds a.2=top::t)/\al.length<64/\
  ∀(D:WP) (ms:List (WP×List Key)),H D=none->ms.Perm al->ms.Pairwise (λa b=>gE b.2 a.2=false)->Q (.ref D) (upd H D (.lst (ms.map λa=>V.ref a.1)))):=by
 intro pr s σ H vs us Q I r h;obtain⟨p,al,top,kt,rfl,hp,Pg,VJ,q⟩:=h;obtain⟨u,rfl,r1⟩:=fV r;cases r1;obtain⟨ws,rv,pl,hz⟩:=I.list hp;have hl:=rv.length;rw[ZT]at hl;refine mS (O:=J5) (key:=λi=>(al.getD i (0,[])).2) (kd:=tuples' true) pl.isList (by lia) (λh2 A' E' h' kk Q' q'=>?_) (λi j hi hj h' kk C q'=>?_) λpp h' e Q7 hs he kk=>?_
 .obtain⟨fs,t1,t2,t3⟩:=yX I kk top rv λa ha=>⟨(Pg a ha).1,kt,(Pg a ha).2⟩
  refine kat_kind (T:=.type (if top then "int" else "str")) t1 (by lia) (λv hv=>t3 v hv _) (by simp) ?_;have:((Value.type (if top then "int" else "str")) != Value.type "tuple")=true:=by cases top <;> decide
  rw[this];exact q'
 .unfold kas_ask;have US:i<al.length:=by lia
  have Xt:j<al.length:=by lia
  rw[wd rv US,wd rv Xt];have mi:al.getD i (0,[])∈al:=by rw[dy _ _ _ US];exact aam _
  have mj:al.getD j (0,[])∈al:=by rw[dy _ _ _ Xt];exact aam _
  obtain⟨u1,o1,n1,r1,g1,_,d1⟩:=wc I (Pg _ mi).1;obtain⟨u2,o2,n2,r2,g2,_,d2⟩:=wc I (Pg _ mj).1;have ek:kinds (al.getD i (0,[])).2=kinds (al.getD j (0,[])).2:=by rw[(Pg _ mi).2,(Pg _ mj).2]
  have el:u1.length=u2.length:=by
   have a1:=r1.length;have a2:=r2.length;have a3:=abB List.length ek;simp![kinds,ZT]at a1 a2 a3;lia
  refine kat_lt (kk _ _ g1) d1 (kk _ _ g2) d2 ?_;have ef:decide (u1.toArray.size<u2.toArray.size)=false:=by simp[el]
  rw[ef];exact pA _ _ _ _ 0 r1 r2 ek q'
 .rw[<-hl]at Q7 hs;have Ye:POk (al.map λa=>V.ref a.1).length pp:=by rw[ZT];exact Q7
  have eo:Cj pp (al.map λa=>V.ref a.1)=(pp.toList.map λi=>al.getD i (0,[])).map λa=>V.ref a.1:=by
   unfold Cj;rw[aah];refine abP λi hi=>?_
   have hi:=aaY.mp (Q7.perm.mem_iff.mp hi);show(al.map λa=>V.ref a.1).getD i .non=V.ref (al.getD i (0,[])).1;rw[dy _ _ _ (by rw[ZT];exact hi),dy _ _ _ hi];simp
  have hn:H (s.heap.objs.size+1)=none:=I.hok.fresh (abU _);refine⟨.ref (s.heap.objs.size+1),_,px I kk (abU _) he (sS rv Ye) ?_,rfl,?_⟩
  .show(Cj pp (al.map λa=>V.ref a.1)).length<=sizeLine;rw[eo,ZT,ZT,Q7.perm.length_eq,aal,abI];lia
  .rw[eo];refine q _ _ hn (sR (0,[]) Q7) ?_;exact mT (O:=J5) (0,[]) (λa:WP×List Key=>a.2) Q7 hs
end
end NX
namespace L2
open PySem PySem.Spec PyProof.Rows
variable{κ:Type}{o:Option V}{y:V}{u:Wp}
section
variable[DecidableEq κ]
def yu(kvs:List (κ×V))(k:κ):Option V:=(kvs.find? λkv=>decide (kv.1=k)).map (·.2)
def mH(kvs:List (κ×V))(k:κ)(v:V):List (κ×V):=
 if(kvs.any λkv=>decide (kv.1=k))=true then kvs.map (λkv=>if kv.1=k then(kv.1,v) else kv) else kvs++[(k,v)]
theorem sT{p:κ×V}{r:List (κ×V)}{k:κ}(e:p.1=k):yu (p::r) k=some p.2:=by simp[yu,acP,e]
theorem sU{p:κ×V}{r:List (κ×V)}{k:κ}(e:¬ p.1=k):yu (p::r) k=yu r k:=by simp[yu,acP,e]
theorem sV(k:κ):∀kvs:List (κ×V),(kvs.any λkv=>decide (kv.1=k))=(yu kvs k).isSome
 |[]=>rfl
 |p::r=>by
  rw[aee];by_cases e:p.1=k
  .simp![sT e,aao e,adK,Option.isSome_some]
  .rw[sU e,Z7 e,Bool.false_or];exact sV k r
theorem lp(kvs:List (κ×V))(k:κ)(v:V):(mH kvs k v).length<=kvs.length+1:=by
 unfold mH;split
 .rw[ZT];lia
 .rw[aau,ZR,abV];lia
theorem RelO.isSome_eq{u:Option Wp}(r:RelO o u):o.isSome=u.isSome:=by
 cases o with
 |none=>cases u with
  |none=>rfl
  |some _=>exact(show False from r).elim
 |some _=>cases u with
  |none=>exact(show False from r).elim
  |some _=>rfl
theorem KV.any{kvs:List (κ×V)}{vs:List (κ×Wp)}(r:KV kvs vs)(k:κ):(kvs.any λkv=>decide (kv.1=k))=vs.any λkv=>decide (kv.1=k):=by
 unfold KV at r;induction r with
 |nil=>rfl
 |cons h t ih=>rw[aee,aee,ih,h.1]
theorem KV.repl{kvs:List (κ×V)}{vs:List (κ×Wp)}(r:KV kvs vs)(k:κ)(ry:RelV y u):
  KV (kvs.map λkv=>if kv.1=k then(kv.1,y) else kv) (vs.map λkv=>if kv.1=k then(kv.1,u) else kv):=by
 unfold KV at r |-;induction r with
 |nil=>exact .nil
 | @cons p q ps qs h t ih=>
  rw[aae,aae];refine .cons ?_ ih;obtain⟨h1,h2⟩:=h;by_cases e:p.1=k
  .rw[ZY e,ZY (h1.symm.trans e)];exact⟨h1,ry⟩
  .rw[Z6 e,Z6 (λz=>e (h1.trans z))];exact⟨h1,h2⟩
theorem KV.put{kvs:List (κ×V)}{vs:List (κ×Wp)}(r:KV kvs vs)(k:κ)(ry:RelV y u):KV (mH kvs k y) (stored vs k u):=by
 unfold mH stored;rw[r.any k];by_cases e:(vs.any λkv=>decide (kv.1=k))=true
 .rw[ZY e,ZY e];exact r.repl k ry
 .rw[Z6 e,Z6 e];exact Paired.snoc r ⟨rfl,ry⟩
theorem KV.length{kvs:List (κ×V)}{vs:List (κ×Wp)}(r:KV kvs vs):kvs.length=vs.length:=Paired.length r
end
variable{P:W1}{w:World}
theorem kV_is{k:Key}(r:RelV (kV k) u):(mixKind P w).is k u=true:=by
 cases k with
 |inl i=>obtain⟨t,e⟩:=(show ∃t,u=Value.int i t from r);subst e;exact qS P w i t
 |inr x=>obtain⟨t,e⟩:=(show ∃t,u=Value.str x t from r);subst e;exact qT P w x t
theorem pB{P:W1}{w:World}:∀{ks:List Key}{us:List Wp},Vals (ks.map kV) us->ItemsAre (mixKind P w) ks us
 |[],_,r=>by rw[ab5]at r;cases r;exact .nil
 |k::ks,_,r=>by
  rw[aae]at r;cases r with
  |cons h t=>exact .cons (kV_is h) (pB t)
abbrev KT(H:Hp):List (List Key×V)->List (List Key×WP×Wp)->Prop:=Paired λp q=>p.1=q.1/\H q.2.1=some (.tup (p.1.map kV))/\RelV p.2 q.2.2
variable{H:Hp}{kvs:List (List Key×V)}{xs:List (List Key×WP×Wp)}
theorem KT.val(r:KT H kvs xs)(k:List Key):RelO (yu kvs k) ((atKey xs k).map (·.2)):=by
 induction r with
 |nil=>exact True.intro
 | @cons p q ps qs h t ih=>
  obtain⟨h1,_,h2⟩:=h;by_cases e:p.1=k
  .have e':q.1=k:=h1.symm.trans e;have b:atKey (q::qs) k=some q.2:=by simp[atKey,acP,e']
   rw[sT e,b];exact h2
  .have e':¬ q.1=k:=λz=>e (h1.trans z)
   have b:atKey (q::qs) k=atKey qs k:=by simp[atKey,acP,e']
   rw[sU e,b];exact ih
theorem KT.repl(r:KT H kvs xs)(k:List Key)(ry:RelV y u):
  KT H (kvs.map λkv=>if kv.1=k then(kv.1,y) else kv) (xs.map (putAt k u)):=by
 induction r with
 |nil=>exact .nil
 | @cons p q ps qs h t ih=>
  rw[aae,aae];refine .cons ?_ ih;obtain⟨h1,h2,h3⟩:=h;unfold putAt;by_cases e:p.1=k
  .rw[ZY e,ZY (h1.symm.trans e)];exact⟨h1,h2,ry⟩
  .rw[Z6 e,Z6 (λz=>e (h1.trans z))];exact⟨h1,h2,h3⟩
theorem KT.put(r:KT H kvs xs)(k:List Key){b:WP}(hb:H b=some (.tup (k.map kV)))(ry:RelV y u):
  KT H (mH kvs k y) (storedH xs k b u):=by
 have e:(kvs.any λkv=>decide (kv.1=k))=(atKey xs k).isSome:=by
  rw[sV,(r.val k).isSome_eq,Option.isSome_map]
 unfold mH storedH;rw[e];by_cases q:(atKey xs k).isSome=true
 .rw[ZY q,ZY q];exact r.repl k ry
 .rw[Z6 q,Z6 q];exact Paired.snoc r ⟨rfl,hb,ry⟩
variable{H':Hp}
theorem KT.keeps(r:KT H kvs xs)(ht:∀b ys,H b=some (.tup ys)->H' b=some (.tup ys)):KT H' kvs xs:=
 Paired.mapP r λ_ _ z=>⟨z.1,ht _ _ z.2.1,z.2.2⟩
variable{a:WP}
section
variable{h:UF}
theorem E8{u:HO}(ok:HOk P w H h)(e:Rd H a u):ObjOk P w H h a u:=e.ok ok
theorem E9{kvs:List (Key×V)}(ok:HOk P w H h)(e:Rd H a (.dK kvs)):kvs.length<=sizeLine/\(a==sysModules)=false/\∃vs,KV kvs vs/\h.DictOf (mixKind P w) a vs:=
 show ObjOk P w H h a (.dK kvs) from E8 ok e
theorem Io{kvs:List (Key×V)}(ok:HOk P w H h)(e:H a=some (.dK kvs)):kvs.length<=sizeLine/\(a==sysModules)=false/\∃vs,KV kvs vs/\h.DictOf (mixKind P w) a vs:=E9 ok (.inl e)
theorem we{ks:List Key}(ok:HOk P w H h)(e:H a=some (.tup (ks.map kV))):(tupleKind (mixKind P w)).is h ks a:=by
 obtain⟨_,L8,r,o,h1,h2,⟨n,h3⟩,_⟩:=(show ObjOk P w H h a (.tup (ks.map kV)) from ok a _ e)
 exact⟨o,L8.toArray,n,h1,h2,h3,by simpa using pB r⟩
theorem Fb(ok:HOk P w H h)(e:Rd H a (.dT kvs)):kvs.length<=sizeLine/\(a==sysModules)=false/\
  ∃xs,KT H kvs xs/\h.DictOfH (tupleKind (mixKind P w)) a xs:=by
 obtain⟨z,y,xs,r,o,es,ep,h1,h2,h3,h4,h5⟩:=(show ObjOk P w H h a (.dT kvs) from E8 ok e)
 refine⟨z,y,xs,r,o,es,ep,h1,h2,h3,h4,λx hx=>?_,h5⟩;have all:∀{l:List (List Key×V)}{m:List (List Key×WP×Wp)},KT H l m->∀x∈m,(tupleKind (mixKind P w)).is h x.1 x.2.1:=by
  intro l m q;induction q with
  |nil=>intro x hx;exact nomatch hx
  | @cons p q ps qs hq t ih=>
   intro x hx;rcases ZJ.mp hx with e|hx
   .subst e;exact we ok (by rw[<-hq.1];exact hq.2.1)
   .exact ih x hx
 exact all r x hx
theorem Fc(ok:HOk P w H h)(e:H a=some (.dT kvs)):kvs.length<=sizeLine/\(a==sysModules)=false/\
  ∃xs,KT H kvs xs/\h.DictOfH (tupleKind (mixKind P w)) a xs:=Fb ok (.inl e)
end
def DGet(H:Hp)(a:WP)(y:V)(r:Option V):Prop:=
 (∃kvs k,Rd H a (.dK kvs)/\y=kV k/\r=yu kvs k)\/∃kvs k b,Rd H a (.dT kvs)/\y=.ref b/\H b=some (.tup (k.map kV))/\r=yu kvs k
def DPut(H:Hp)(a:WP)(y v:V)(H':Hp):Prop:=
 (∃kvs k,H a=some (.dK kvs)/\y=kV k/\kvs.length<sizeLine/\H'=upd H a (.dK (mH kvs k v)))\/
 ∃kvs k b,H a=some (.dT kvs)/\y=.ref b/\H b=some (.tup (k.map kV))/\kvs.length<sizeLine/\H'=upd H a (.dT (mH kvs k v))
theorem DGet.k{H:Hp}{a:WP}{kvs:List (Key×V)}{k:Key}(e:H a=some (.dK kvs)):DGet H a (kV k) (yu kvs k):=.inl ⟨kvs,k,.inl e,rfl,rfl⟩
theorem DPut.k{H:Hp}{a:WP}{kvs:List (Key×V)}{k:Key}{v:V}(e:H a=some (.dK kvs))(hl:kvs.length<sizeLine):DPut H a (kV k) v (upd H a (.dK (mH kvs k v))):=.inl ⟨kvs,k,e,rfl,hl,rfl⟩
theorem DPut.t{b:WP}{k:List Key}{v:V}(e:H a=some (.dT kvs))(eb:H b=some (.tup (k.map kV)))(hl:kvs.length<sizeLine):
  DPut H a (.ref b) v (upd H a (.dT (mH kvs k v))):=.inr ⟨kvs,k,b,e,rfl,eb,hl,rfl⟩
variable{X:Cx}{pr:List (WP×Obj)}{σ:St}{s:WF}{A:Uf}{E:Wp->WF->Prop}{h':UF}
section
variable{v:V}{r:Wp}
theorem Inv.big(I:Inv X pr σ H s):sysModules<s.heap.objs.size:=by
 have h:mainGlobals<s.heap.objs.size:=(I.mod.glob.keeps I.bk).lt;exact Nat.lt_trans (by decide) h
theorem rj{t':Nat}{ob:HO}(I:Inv X pr σ H s)(mu:VX (H a))(hs:Heap.SameBut a s.heap h')(he:∃q,h'.get? a=some q)(new:ObjOk X.prog X.w (upd H a ob) h' a ob):
  Inv X pr σ (upd H a ob) {s with heap:=h',toks:=t'}:=
 I.write (x:=a) (e:=a) mu (.inl rfl) (λb q hb z=>(hs.2 b hb).trans z) he new
theorem Fe{kvs:List (Key×V)}{vs:List (Key×Wp)}(z:kvs.length<=sizeLine)(hd:(a==sysModules)=false)(rel:KV kvs vs)(dd:h'.DictOf (mixKind P w) a vs):
  ObjOk P w H' h' a (.dK kvs):=⟨z,hd,vs,rel,dd⟩
theorem wg{Q:Unit->WF->Prop}(hu:A.units+1<cLine)(I:Inv X pr σ H s)(g:DPut H a y v H')(ry:RelV y u)(rv:RelV v r)(h:∀s',Inv X pr σ H' s'->Q () s'):
  wpAny (model X.prog X.w) A (setItem (.ref a) u r) Q E s:=by
 rcases g with⟨kvs,k,e,ey,l,eH⟩|⟨kvs,k,b,e,ey,eb,l,eH⟩
 .subst ey eH;obtain⟨z,hd,vs,rel,dd⟩:=Io I.hok e;have hz:vs.length<=sizeLine:=by rw[<-rel.length];exact z
  have hl:(mH kvs k v).length<=sizeLine:=by have:=lp kvs k v;lia
  refine wpAny_setItem_pairs (hsz:=hz) (kV_is ry) dd λh' Ut hs=>h _ ?_
  have he:∃q,h'.get? a=some q:=let⟨q,_,_,hq,_⟩:=Ut;⟨q,hq⟩
  exact rj I (by rw[e];exact True.intro) hs he (Fe hl hd (rel.put k rv) Ut)
 .subst ey eH;cases(show u=Value.ref b from ry);obtain⟨z,hd,xs,rel,dd⟩:=Fc I.hok e;have hz:xs.length<=sizeLine:=by rw[<-Paired.length rel];exact z
  have hl:(mH kvs k v).length<=sizeLine:=by have:=lp kvs k v;lia
  refine wpAny_setItem_heap (hsz:=hz) (tupleKind_room_in1 hu) (we I.hok eb) dd λh' Ut hs=>h _ ?_
  obtain⟨q,es,ep,hq,h2,h3,h4,_,h5⟩:=Ut;refine rj I (by rw[e];exact True.intro) hs ⟨q,hq⟩ ⟨hl,hd,_,(rel.put k eb rv).keeps λc ys ec=>?_,q,es,ep,hq,h2,h3,h4,h5⟩;rw[aU (El ec e (λz=>nomatch z))];exact ec
end
section
variable{kvs:List (Key×V)}{k:Key}
end
def sDPut(td ty tv:TE):TS:=λD σ H=>tv σ H λv H1=>td σ H1 λx H2=>ty σ H2 λy H3=>∃a H4,x=.ref a/\DPut H3 a y v H4/\D.nx σ H4
variable{pos:Pos}
section
variable{o i e value:Expr}{pos' UJ:Pos}{td ty tv:TE}
theorem Ck(hu:X.A.units+1<cLine)(ho:PE X o td)(hi:PE X i ty)(hv:PE X value tv)(hs:swapsWith value (some (.Subscript o i pos')) pos.line X.env=pure false):
  PS X (.Assign [.Subscript o i pos'] value pos) (sDPut td ty tv):=by
 intro pr s σ H D I h;refine wpAny_Assign_Subscript (Mz (hv pr s σ H _ I h) λr s1 ⟨v,H1,I1,rv,q1⟩=>Mz (ho pr s1 σ H1 _ I1 q1) λu s2 ⟨x,H2,I2,rx,q2⟩=>Mz (hi pr s2 σ H2 _ I2 q2) λiv s3 ⟨y,H3,I3,ry,a,H4,ex,g,q3⟩=>?_) hs;subst ex;obtain rfl:u=Value.ref a:=rx;exact wg hu I3 g ry rv λs4 I4=>⟨σ,H4,I4,q3⟩
end
theorem dt_empty(h:UF)(hb:sysModules<h.objs.size):ObjOk P w H (h.push {cls:=.type "dict",data:=.dict #[]}) h.objs.size (.dT []):=
 ⟨aaB _,aaj.mpr (abp (aac hb)),[],.nil,_,#[],0,Z0 _ rfl,⟨rfl,rfl,rfl⟩,rfl,rfl,aa0⟩
section
end
def tPairs:List (TE×TE)->St->Hp->(List (V×V)->Hp->Prop)->Prop
 |[],_,H,Q=>Q [] H
 |(tk,tv)::r,σ,H,Q=>tk σ H λx H1=>tv σ H1 λy H2=>tPairs r σ H2 λps H3=>Q ((x,y)::ps) H3
abbrev VV:List (V×V)->List (Wp×Wp)->Prop:=Paired λp q=>RelV p.1 q.1/\RelV p.2 q.2
def Yf(X:Cx)(pos:Pos)(keys:List (Option Expr))(values:List Expr)(Xv:List (TE×TE)):Prop:=
 ∀(pr:List (WP×Obj)) (s:WF) (σ:St) (H:Hp) (Q:List (V×V)->Hp->Prop),Inv X pr σ H s->tPairs Xv σ H Q->
  wpAny (model X.prog X.w) X.A (evalPairs (pairTrees keys values X.env pos)) (λvs s'=>∃ps H',Inv X pr σ H' s'/\VV ps vs/\Q ps H') X.xe s
theorem Cm:Yf X pos [] [] []:=λpr s σ H Q I h=>pairTrees_nil_walk ⟨[],H,I,.nil,h⟩
theorem yY{k v:Expr}{ks:List (Option Expr)}{vs:List Expr}{tk tv:TE}{Xv:List (TE×TE)}(hk:PE X k tk)(hv:PE X v tv)(hr:Yf X pos ks vs Xv):
  Yf X pos (some k::ks) (v::vs) ((tk,tv)::Xv):=λpr s σ H Q I h=>
 pairTrees_cons_walk (Mz (hk pr s σ H _ I h) λu s1 ⟨x,H1,I1,rx,q1⟩=>Mz (hv pr s1 σ H1 _ I1 q1) λw2 s2 ⟨y,H2,I2,ry,q2⟩=>
  Mz (hr pr s2 σ H2 _ I2 q2) λws s3 ⟨ps,H3,I3,rel,q3⟩=>⟨(x,y)::ps,H3,I3,.cons ⟨rx,ry⟩ rel,q3⟩)
structure M2(X:Cx)(o:Expr)(m:Str)(apos:Pos)(e f:Expr)(Mu:Pos):Prop where
 base:attributeBase o m X.env (eval o X.env)=eval o X.env
 few:((backTo Mu (starEach [e,f] X.env)).all (λx=>!x.1)&&(backToKw Mu (keywordEach [] X.env)).all (λx=>x.1.isSome)
  && decide (([e,f]:List Expr).length+([]:List Keyword).length+(if([]:List Keyword).isEmpty then 0 else 1)<30))=true
 line:(apos.endLine==Mu.line)=true
 trees:backTo Mu (starEach [e,f] X.env)=[(false,eval e X.env),(false,eval f X.env)]
section
variable{d:V}{r:Wp}
end
section
variable{o e f:Expr}{apos Mu:Pos}{td ty tx:TE}
end
section
variable{kvs:List (Key×V)}
end
section
end
section
variable[DecidableEq κ]
end
end L2
namespace NX
open PySem PySem.Spec PyProof.Rows L2
def RawD(h:UF)(d:WP)(es:Array DictEntry)(ep:Nat):Prop:=∃o,h.get? d=some o/\o.ExactDict/\o.data=.dict es ep
def RawD.at{h h':UF}{d:WP}{es:Array DictEntry}{ep:Nat}(x:RawD h d es ep)(e:∀o,h.get? d=some o->h'.get? d=some o):RawD h' d es ep:=by
 obtain⟨o,g,r⟩:=x;exact⟨o,e o g,r⟩
section
variable{prog:W1}{w:World}{A:Uf}{E:Wp->WF->Prop}{s:WF}{d it:WP}{es:Array DictEntry}{ep i:Nat}
theorem nX(x:RawD s.heap d es ep):s.TypeIs (.ref d) "dict":=by
 obtain⟨o,g,ex,_⟩:=x;exact⟨o,g,ex.1⟩
theorem yZ{Q:Wp->WF->Prop}(nm:(d==sysModules)=false)(x:RawD s.heap d es ep)
  (q:Q (.ref s.heap.objs.size) {s with heap:=s.heap.push {cls:=.type "dict_keyiterator",data:=.fields #[.ref d,.int 0 0,.int es.size 0,.int ep 0]}}):wpAny (model prog w) A (pyIter (.ref d)) Q E s:=by
 have ty:=nX x;obtain⟨o,g,ex,dat⟩:=x;refine wpAny_pyIter_slot ty F.slot_dict_iter (aa2 F.slot_dict_iter ty F.entry_dict_iter (ZH ?_) (F.args_dict_iter_1 _));refine ZH (wpAny_notOrdered_dict ty (ZM ?_));show wpAny _ _ (Builtin.Dict.showsAll d >>= λ_=>_) _ _ s;have ns:Builtin.Dict.showsAll d=pure ():=by
  unfold Builtin.Dict.showsAll;rw[nm];rfl
 rw[ns];refine ZH (ZM (ZH (adh g dat (ZH (adL g dat (ZH (aaI (ZM ⟨_,rfl,"dict_keyiterator",_,⟨_,Z0 _ rfl,rfl⟩,F.slot_dict_keyiterator_next.lookup,?_⟩))))))));exact q
theorem y0{Q:Option Wp->WF->Prop}{e:DictEntry}(hit:s.heap.IsKeyIter it d i es.size ep)(x:RawD s.heap d es ep)(hx:es[i]?=some e)
  (q:∀h',h'.IsKeyIter it d (i+1) es.size ep->Heap.SameBut it s.heap h'->Q (some e.key) {s with heap:=h'}):wpAny (model prog w) A (pyNext (.ref it)) Q E s:=by
 have ti:=hit.typeIs;obtain⟨o,g,oc,od⟩:=hit;obtain⟨ob,gd,_,dat⟩:=x;have NI:i<es.size:=(acU.mp hx).1;unfold pyNext;refine ZH (acb (aaN (name:=Str.ofString "__next__") ti abr (aa2 abr ti acC
  (ZH (ZM (ZH (ZH ?_)))) (acs _))))
 refine ZH (abn ti (ZM (ZH (wpAny_fieldsOf g od ?_))));have Se:Builtin.Dict_items.ownsTuple "dict_keyiterator" = false:=by decide
 simp![Se,aav,acX];show wpAny _ _ (if(Value.ref d==Value.none)=true then _ else _) _ _ s;have nz:¬ ((Value.ref d==Value.none)=true):=ZU;rw[Z6 nz];refine ZH (ZM (ZH (adh gd dat ?_)));rw[Z6 (by simp)];refine ZH (ZM (ZH (adL gd dat ?_)));rw[Z6 (by simp)];refine ZM ?_;simp![Z6 (show ¬ ((i:Int)<0) by lia),abj,hx];refine ZH (ZH (abn ti (ZM (ZH (wpAny_isOneOf_keyiter ti ?_)))));show wpAny _ _ (setField (.ref it) 1 (rawInt ((i:Int)+1)) >>= λ_=>_) _ _ s;refine ZH (acn g od (by simp) ?_);have nx:(s.heap.update it (Obj.mapFields λy=>y.setIfInBounds 1 (rawInt ((i:Int)+1)))).IsKeyIter it d (i+1) es.size ep:=
  ⟨_,abE _ g (acr (abF od _)),(Obj.cls_mapFields ..).trans oc,(abF od _).trans (by simp[rawInt])⟩
 refine ZH (aa1 (ZH (wpAny_isOneOf_keyiter (s:={s with heap:=s.heap.update it (Obj.mapFields λy=>y.setIfInBounds 1 (rawInt ((i:Int)+1)))}) nx.typeIs ?_)));show wpAny _ _ (pure e.key) _ _ _;exact ZM (ZM ⟨_,rfl,ZM (q _ nx (ab3 ..))⟩)
theorem Cn{Q:Option Wp->WF->Prop}(hh:A.handled=none)(hit:s.heap.IsKeyIter it d i es.size ep)(x:RawD s.heap d es ep)(hx:es[i]?=none)
  (q:∀h',Heap.ExtBut it s.heap h'->Q none {s with heap:=h'}):wpAny (model prog w) A (pyNext (.ref it)) Q E s:=by
 have ti:=hit.typeIs;obtain⟨o,g,oc,od⟩:=hit;obtain⟨ob,gd,_,dat⟩:=x;unfold pyNext;refine ZH (acb (aaN (name:=Str.ofString "__next__") ti abr (aa2 abr ti acC
  (ZH (ZM (ZH (ZH ?_)))) (acs _))))
 refine ZH (abn ti (ZM (ZH (wpAny_fieldsOf g od ?_))));have Se:Builtin.Dict_items.ownsTuple "dict_keyiterator" = false:=by decide
 simp![Se,aav,acX];show wpAny _ _ (if(Value.ref d==Value.none)=true then _ else _) _ _ s;have nz:¬ ((Value.ref d==Value.none)=true):=ZU;rw[Z6 nz];refine ZH (ZM (ZH (adh gd dat ?_)));rw[Z6 (by simp)];refine ZH (ZM (ZH (adL gd dat ?_)));rw[Z6 (by simp)];refine ZM ?_;simp![Z6 (show ¬ ((i:Int)<0) by lia),abj,hx];refine ZH (ZH (abn ti (ZM ?_)));show wpAny _ _ (setField (.ref it) 0 .none >>= λ_=>_) _ _ s;refine ZH (acn g od (by simp) ?_);show wpAny _ _ (newExc (.type "StopIteration") [] >>= λ_=>_) _ _ _;refine ZH ?_;simp![newExc,newTuple];refine ZH (aaI (ZH (m:=firstArgMember _ _) (ad4 (a:=Value.none) (by first|rfl|(simp![firstArgMember];rfl)) (aaI ?_ (by size_fits)))) (by size_fits));simp![raiseNew];refine ZH (wpAny_handled ?_);rw[show A.in1.handled=none from hh];refine ZH (ZM (wpAny_throw ?_));refine ZH (wpAny_isInstance (b:=true) (T:="StopIteration") ⟨_,Z0 _ rfl,rfl⟩ isSubtype_stop ?_);exact ZM (q _ (((ab3 ..).extBut.push _).push _))
theorem wj(hh:A.handled=none)(I:WP)(ne:d≠I):Walks prog w A I [I,d] [I] es.size (λi v=>∃e,es[i]?=some e/\v=e.key) (λi h=>h.IsKeyIter I d i es.size ep/\RawD h d es ep) where
 sub:=λb hb=>by
  rw[aan]at hb;rw[hb];exact ZI
 frame:=λ_ _ _ st hk=>⟨st.1.at λo e=>hk I ZI o e,st.2.at λo e=>hk d (ZN _ ZI) o e⟩
 item:=λi s Q E hi st hQ=>by
  refine y0 st.1 st.2 (ac6 hi) λh' it' sb=>?_
  exact hQ _ h' s.toks ⟨_,ac6 hi,rfl⟩ ⟨it',st.2.at λo e=>sb.extBut d o ne e⟩ λb o hb e=>sb.extBut b o (λz=>hb (by rw[z];exact ZI)) e
 done:=λs Q E st hQ=>Cn hh st.1 st.2 (Array.getElem?_eq_none (ZO _)) λh' ext=>hQ h' s.toks λb o hb e=>ext b o (λz=>hb (by rw[z];exact ZI)) e
 self:=λ_ _ _ _ st hQ=>wpAny_pyIter_keyiter st.1 hQ
theorem Co(nm:(d==sysModules)=false):PySem.W.KdlSrc prog w "dict" d d es.size (λi v=>∃e,es[i]?=some e/\v=e.key) (λh=>RawD h d es ep) where
 type:=λ_ x=>nX x
 there:=λ_ x=>by
  obtain⟨o,g,_⟩:=x;exact⟨ZQ g,ZQ g⟩
 keep:=λ_ _ x hk=>x.at λo e=>hk d (.inl rfl) o e
 notList:=by decide
 notTuple:=by decide
 hint:=λ_ _ _ _ x q=>PySem.W.kdl_hint_dict (nX x) q
 iter:=λ_ s hh x=>⟨_,_,(λ_ _ q=>yZ nm x q),wj hh _ (by obtain⟨o,g,_⟩:=x;exact aac (ZQ g)),⟨⟨_,Z0 _ rfl,rfl,rfl⟩,x.at λo e=>ZL _ e⟩⟩
end
end NX
namespace NX
open PySem PySem.W PySem.Spec PyProof.Rows L2
section
variable{prog:W1}{w:World}{A:Uf}{E:Wp->WF->Prop}{s:WF}
end
section
variable{X:Cx}{pr:List (WP×Obj)}{σ:L2.St}{H:Hp}{s:WF}
theorem Cp{H:Hp}{kvs:List (List Key×V)}{xs:List (List Key×WP×Wp)}(r:KT H kvs xs):xs.map (·.1)=kvs.map (·.1):=by
 induction r with
 |nil=>rfl
 |cons hq _ ih=>rw[aae,aae,ih,hq.1]
theorem Ip{H:Hp}{kvs:List (List Key×V)}{xs:List (List Key×WP×Wp)}(r:KT H kvs xs):∀y∈xs,H y.2.1=some (.tup (y.1.map kV)):=by
 induction r with
 |nil=>exact λy hy=>nomatch hy
 |cons hq _ ih=>
  intro y hy;rcases ZJ.mp hy with rfl|hy
  .rw[<-hq.1];exact hq.2.1
  .exact ih y hy
theorem Cq(I:Inv X pr σ H s){a:WP}{kvs:List (List Key×V)}(h:Rd H a (.dT kvs)):(a==sysModules)=false/\∃(al:List (WP×List Key)) (es:Array DictEntry) (ep:Nat),
  RawD s.heap a es ep/\es.toList.map (·.key)=al.map (λx=>Value.ref x.1)/\al.map (·.2)=kvs.map (·.1)/\∀x∈al,H x.1=some (.tup (x.2.map kV)):=by
 obtain⟨_,nm,xs,r,o,es,ep,h1,h2,h3,h4,_⟩:=h.ok I.hok;refine⟨nm,xs.map λx=>(x.2.1,x.1),es,ep,⟨o,h1,h2,h3⟩,?_,?_,?_⟩
 .rw[h4,aah,aah];rfl
 .rw[aah];exact Cp r
 .intro x hx;obtain⟨y,hy,rfl⟩:=aaO.mp hx;exact Ip r y hy
end
end NX
namespace NX
open PySem PySem.Spec PyProof.Rows L2
variable{A:Uf}{s:WF}{prog:W1}{w:World}{E Q:Wp->WF->Prop}
section
open PySem.SeqAt
open PySem.AutoSeq1 (wpAny_loadPart')
open PySem.MeetsSeq PySem.MeetsSeq2 PySem.MeetsSeq3
theorem y4{a c:Key}{u v:Wp}(ra:RelV (kV a) u)(rc:RelV (kV c) v):EqAt A s u v (decide (a=c)):=by
 have h:=AF (A:=A) (s:=s) ra rc (kU a) (kU c);rw[wb]at h;exact h
theorem y6{a c:Key}{u v:Wp}(ra:RelV (kV a) u)(rc:RelV (kV c) v)(hk:a.isLeft=c.isLeft)(h:Q (.bool (sQ.blt a c)) s):
  wpAny (model prog w) A (richCompare .Lt u v) Q E s:=by
 cases a with
 |inl i=>
  cases c with
  |inr _=>cases hk
  |inl j=>
   obtain⟨t,rfl⟩:=ra;obtain⟨t',rfl⟩:=rc;exact(PyProof.Rows.lt_int h:wpAny (model prog w) A (compareOp .Lt (.int i t) (.int j t')) Q E s)
 |inr x=>
  cases c with
  |inl _=>cases hk
  |inr y=>
   obtain⟨t,rfl⟩:=ra;obtain⟨t',rfl⟩:=rc;exact(PyProof.Rows.lt_str h:wpAny (model prog w) A (compareOp .Lt (.str x t) (.str y t')) Q E s)
theorem wm(a c:Key)(r t:List Key):gE (a::r) (c::t)=if a=c then gE r t else sQ.blt a c:=rfl
theorem nZ(l b:WP)(items PF:Array Wp)(n n2:Nat)(dd Tj:Option WP)(sl Tn:Array (Option Wp))(ks js:List Key)(hi:Vals (ks.map kV) items.toList)(hj:Vals (js.map kV) PF.toList)(hk:kinds ks=kinds js):
  Meets (Builtin.«tuple.__lt__» ⟨[.ref l,.ref b],[]⟩)
   (λ_ R s=>s.heap.get? l=some {cls:=.type "tuple",dict:=dd,data:=.seq items n,slots:=sl}/\s.heap.get? b=some {cls:=.type "tuple",dict:=Tj,data:=.seq PF n2,slots:=Tn}/\R (.ok (.ret (.bool (gE ks js)))) s):=
 .of_wp λprog w A R s h=>by
  obtain⟨hp,g,d,tk,os⟩:=s;obtain⟨hl,hb,h⟩:=h;have f2:=AutoSeq1.sub_tuple_tuple;have z1:items.size=ks.length:=by have:=hi.length;simp at this;lia
  have z2:PF.size=js.length:=by have:=hj.length;simp at this;lia
  have z3:ks.length=js.length:=by have:=abB List.length hk;simpa[kinds] using this
  wp_walk using wpAny_loadPart' hl,wpAny_loadPart' hb,wpAny_forIn_list _ (λrest b s'=>b.1=none/\s'=⟨hp,g,d,tk,os⟩/\∃(vs ws:List Wp) (Ru Sm:List Key),rest=vs.zip ws/\
   Vals (Ru.map kV) vs/\Vals (Sm.map kV) ws/\kinds Ru=kinds Sm/\R (.ok (.ret (.bool (gE Ru Sm)))) ⟨hp,g,d,tk,os⟩) _
  case turn=>
   rintro⟨y,x⟩ rest b s' ⟨Yg,rfl,vs,ws,Ru,Sm,hz,Xw,Yh,VM,hR⟩;cases Ru with
   |nil=>
    cases Xw;rw[List.zip_nil_left]at hz;cases hz
   |cons a Ru=>
    cases Sm with
    |nil=>cases VM
    |cons c Sm=>
     cases Xw with
     | @cons _ va _ Qm ra hvi'=>
      cases Yh with
      | @cons _ vc _ Wg rc hwi'=>
       rw[acZ]at hz;injection hz with hyx SH;injection hyx with hy hx;subst hy hx;have Xx:a.isLeft=c.isLeft:=(abH VM).1;have Wh:kinds Ru=kinds Sm:=(abH VM).2;rw[wm]at hR;have he:=y4 (A:=A.in1) (s:=⟨hp,g,d,tk,os⟩) ra rc;refine ZH (he prog w _ _ ?_);by_cases hac:a=c
       .rw[ZY hac]at hR;rw[aao hac]
        wp_walk
        exact⟨rfl,rfl,_,_,_,_,SH,hvi',hwi',Wh,hR⟩
       .rw[Z6 hac]at hR;rw[Z7 hac];have hri:=λE Q=>y6 (prog:=prog) (w:=w) (A:=A.in1) (E:=E) (s:=⟨hp,g,d,tk,os⟩) (Q:=Q) ra rc Xx
        wp_walk using hri
        exact⟨_,rfl,by simpa using hR⟩
  case fin=>
   rintro⟨b1,b2⟩ s' ⟨Yg,rfl,vs,ws,Ru,Sm,hz,Xw,Yh,VM,hR⟩;simp only at Yg;subst Yg;have hv:gE Ru Sm=decide (items.size<PF.size):=by
    cases Ru with
    |nil=>
     cases Sm with
     |nil=>exact(Z7 (by lia)).symm
     |cons c Sm=>cases VM
    |cons a Ru=>
     cases Sm with
     |nil=>cases VM
     |cons c Sm=>
      cases Xw;cases Yh;rw[acZ]at hz;cases hz
   rw[hv]at hR
   wp_walk
   exact⟨_,rfl,by simpa[Builtin.Tuple.tupleCompareSizes] using hR⟩
  case h=>
   exact⟨rfl,rfl,items.toList,PF.toList,ks,js,rfl,hi,hj,hk,h⟩
end
variable{X:Cx}
section
def KY(K:W.Frag)(neg:Bool):R2:=λx y H Q=>∃a b ks js,x=.ref a/\y=.ref b/\SqT K H a (ks.map kV)/\SqT K H b (js.map kV)/\kinds ks=kinds js/\Q (.bl (if neg then !gE ks js else gE ks js)) H
theorem Ff(hu:X.A.units<cLine):Nk X (compareOp .Lt) (KY X.K false):=by
 intro pr s σ H x y v u Q I rx ry h;obtain⟨a,b,ks,js,rfl,rfl,ha,hb,hk,q⟩:=h;cases rx;cases ry;obtain⟨L8,r1,p1,_⟩:=I.tuple ha;obtain⟨Sj,r2,p2,_⟩:=I.tuple hb;obtain⟨⟨cls,dd,data,sl⟩,ho,hc,n,hd⟩:=id p1;obtain⟨⟨UK,Tj,data2,Tn⟩,Q6,Si,n2,hd2⟩:=id p2;simp only at hc hd Si hd2;subst hc hd Si hd2;exact richCompare_meets_room (op:=.Lt) ⟨_,ho,rfl⟩ ⟨_,Q6,rfl⟩ PySem.F.slot_tuple_lt PySem.F.entry_tuple_lt (PySem.F.args_tuple_lt_2 _ _) (nZ a b _ _ n n2 dd Tj sl Tn ks js (by simpa using r1) (by simpa using r2) hk)
  ⟨ho,Q6,show Value.bool (gE ks js)≠Value.notImplemented/\EP X pr σ Q (.bool (gE ks js)) s from⟨(λx=>nomatch x),⟨.bl (gE ks js),H,I,rfl,q⟩⟩⟩ hu
end
section
end
def tDisp1T(tk tv:TE):TE:=λσ H Q=>∀p,H p=none->tk σ (upd H p (.dT [])) λx H1=>tv σ H1 λy H2=>H2 p=some (.dT [])/\∃(ks:List Key) (b:WP),x=.ref b/\H2 b=some (.tup (ks.map kV))/\Q (.ref p) (upd H2 p (.dT [(ks,y)]))
variable{pos:Pos}
theorem wo{k v:Expr}{tk tv:TE}(hu:X.A.units+1<cLine)(hk:PE X k tk)(hv:PE X v tv):PE X (.Dict [some k] [v] pos) (tDisp1T tk tv):=by
 intro pr s σ H Q I q;have hn:=I.hok.fresh (ZO s.heap.objs.size);have I1:=I.laid (a:=s.heap.objs.size) (o:=.dT []) (h':=s.heap.push {cls:=.type "dict",data:=.dict #[]}) (t':=s.toks) (λ_ _ q=>ZL _ q) (ZO _) (dt_empty s.heap I.big);have hl:(pairTrees [some k] [v] X.env pos).length=1:=pairTrees_length [some k] [v] X.env pos rfl rfl;rw[arm_eval_Dict,zip_pairTrees [some k] [v] X.env pos rfl rfl,dictDisplay_pairs _ (λz=>by rw[z]at hl;cases hl) (by rw[hl];decide)];refine ZH (ab9 (ZH ?_));unfold subDict;refine ZH (wpAny_alloc (ZH (aa1 ?_)));rw[ZY (by rw[hl];decide)];refine ZH ?_;refine Mz (yY (pos:=pos) hk hv (Cm (X:=X)) pr _ σ _ (λps H2=>match ps with
  |[(x,y)]=>H2 s.heap.objs.size=some (.dT [])/\∃(ks:List Key) (b:WP),x=.ref b/\H2 b=some (.tup (ks.map kV))/\Q (.ref s.heap.objs.size) (upd H2 s.heap.objs.size (.dT [(ks,y)]))
  |_=>False) I1 (q _ hn)) λvs s2 hh=>?_
 obtain⟨ps,H2,I2,rel,q2⟩:=hh;match ps,rel,q2 with
 |[(x,y)],rel,⟨e,ks,b,ex,eb,q3⟩=>
  cases rel with
  | @cons p0 q0 as bs h0 t0=>
   cases t0;obtain⟨u,r⟩:=q0;obtain⟨rx,ry⟩:=h0;subst ex;cases(show u=Value.ref b from rx);obtain⟨z,hd,xs,rl,dd⟩:=Fc I2.hok e;cases rl;refine aa1 ?_;refine ZH ?_;rw[acK];refine ZH (ZH (wpAny_dictSet_heap (hsz:=aaB _) (knd:=tupleKind (mixKind X.prog X.w)) (acY (abU _) hu) (we I2.hok eb) dd λh' Ut hs=>ZM ?_));dsimp only;rw[ad0];refine ZM (ZM (ZM (ZM ⟨.ref s.heap.objs.size,_,?_,rfl,q3⟩)));obtain⟨q,es,ep,hq,h2,h3,h4,_,h5⟩:=Ut;refine rj I2 (by rw[e];exact True.intro) hs ⟨q,hq⟩ ⟨by rw[abI];exact(by decide:1<=16777216),hd,_,(KT.put (kvs:=[]) (xs:=[]) .nil ks eb ry).keeps λc ys ec=>?_,q,es,ep,hq,h2,h3,h4,h5⟩;rw[aU (El ec e (λz=>nomatch z))];exact ec
variable{pr:List (WP×Obj)}{σ:L2.St}{H:Hp}{scope:Scope}{N:List Str}{ix:List (Option Nat)}
section
variable{fp:List WP}
end
variable{tc:TT}
section
variable{tg iter elt:Expr}{ifs:List Expr}{wi:TI}{g:TG}{te:TE}
end
variable{P:W1}{h:UF}{a:WP}
theorem ook_get{o:HO}(x:ObjOk P w H h a o):∃u,h.get? a=some u:=by
 cases o with
 |lst xs=>obtain⟨_,_,_,_,e⟩:=x;exact⟨_,e⟩
 |tup xs=>obtain⟨_,_,_,_,e,_⟩:=x;exact⟨_,e⟩
 |dK kvs=>obtain⟨_,_,_,_,_,_,_,e,_⟩:=x;exact⟨_,e⟩
 |dT kvs=>obtain⟨_,_,_,_,_,_,_,e,_⟩:=x;exact⟨_,e⟩
 |set S n=>obtain⟨_,_,_,_,e,_⟩:=x;exact⟨_,e⟩
 |ins C dx fs=>obtain⟨_,_,_,e,_⟩:=x;exact⟨_,e⟩
 |own y=>exact x
 |xd fs=>obtain⟨_,⟨_,_,_,e,_⟩,_⟩:=x;exact⟨_,e⟩
 |rng lo hi=>obtain⟨_,_,_,e⟩:=x;exact⟨_,e⟩
 |frz ob u=>obtain⟨e,_⟩:=x;exact⟨_,e⟩
 |tbl ps=>exact⟨_,x⟩
 |met f y=>exact⟨_,x⟩
 |ext φ=>obtain⟨_,e,_⟩:=x;exact e
def XCl(mg:Str->Option Wp)(base:UF)(x:Str)(C:WP):Prop:=∃B newId initId bm,ExcBaseFacts B newId initId bm/\OwnCls x C bm newId mg base
variable{K:W.Frag}{mg:Str->Option Wp}{x:Str}{C:WP}
theorem wu{mB:List Wp}{nw:String}(X:K.In h)(G:h.Ns mainGlobals mg)(e:PySem.W.nsIn K mainGlobals x=some (some (.ref C)))(q:PySem.W.excIn K C mB nw=true):OwnCls x C mB nw mg h:=by
 refine⟨aa4 X G e,?_⟩;unfold PySem.W.excIn at q;split at q
 .rename_i zd cd sl ho;split at q
  .rename_i C' mro z0 z1 z2 z3 z4 z5 hm hs;rw[ZP,ZP,ZP,ZP,ZP]at q;obtain⟨⟨⟨⟨⟨q1,q2⟩,q3⟩,q4⟩,q5⟩,q6⟩:=q;have d1:=aaK.mp q1;have d2:=aaK.mp q2;have d6:=aaK.mp q6;have d3:cd.hasDel=false:=by revert q3;cases cd.hasDel <;> decide
   clear q1 q2 q3 q6;subst d1;subst d2;cases cd;dsimp only at hm d3 q5 d6;subst hm;subst d3;have ez:sl = #[z0,z1,z2,z3,some (.builtin z4),z5]:=by
    cases sl;dsimp only at hs;rw[hs]
   subst ez;exact⟨_,_,_,_,_,_,_,_,_,_,_,_,_,_,_,_,_,X _ _ ho,.of_isNs (PySem.W.isNs_of_in X q5),PySem.W.nsMap_none_of_in X q5 d6,PySem.W.tail_of_in X q4⟩
  .cases q
 .cases q
def Ts(P:W1)(w:World)(base:UF)(C:WP):Sg:=λouter H s E e s'=>
 ∃(a t:WP) (B:UF) (H':Hp),e=.ref a/\s'.os=s.os/\AllBare s'.gens/\Un (Na outer) [] H H' s.heap s'.heap/\HOk P w H' s'.heap/\Heap.FlyingW B outer a (.ref C) (.ref t) s'.heap/\
  (∀b u,s'.heap.get? b=some u->(H' b≠none\/∃o,s.heap.get? b=some o)->b∉Na outer->B.get? b=some u)/\E (.ref C) none H'
def Acc(X:Cx)(C:WP)(Ww:Hp->Prop):Prop:=∀(pr:List (WP×Obj)) (σ:L2.St) (H:Hp) (s:WF) (h':UF) (a:WP) (args:List Wp),Inv X pr σ H s->Ww H->Heap.MadeExcOf s.heap h' a (.ref C) args->X.xe (.ref a) {s with heap:=h'}
variable{base:UF}{qual:Str}
theorem gX{f:WP}{cd:Wp}{outer:List Env}{E:XK}:
  Acc (qP (Ts P w base C) P w K mg base N qual scope f cd A outer s H E) C (λH'=>E (.ref C) none H'):=by
 intro pr σ H1 s1 h' a args I hW hm;have Yi:∀b,b∈Na (envOfC qual scope s.heap.objs.size f cd::outer)->b∈s.heap.objs.size::Na outer:=I.stkSub;have nl:∀b o,s.heap.get? b=some o->b∉Na outer->b∉Na (envOfC qual scope s.heap.objs.size f cd::outer):=λb o e n z=>by
  rcases ZJ.mp (Yi b z) with r|r
  .exact absurd (ZQ e) (by rw[r];exact aba _)
  .exact n r
 have nt:∀b,H1 b≠none->b∉Na (envOfC qual scope s.heap.objs.size f cd::outer):=λb n z=>n (I.stkFree b z)
 refine wpAny_leaves_madeW (base:=PySem.W.hideAll s1.heap (Na (envOfC qual scope s.heap.objs.size f cd::outer))) (L:=s.heap.objs.size) I.ok.frames rfl (λb o q=>acV _ q) (PySem.W.funFrames_hide I.stack λenv he b hb=>abm.mpr ⟨env,he,hb⟩) hm λh2 t Rv _ _ sm=>?_
 have k:∀b u,s1.heap.get? b=some u->b∉Na (envOfC qual scope s.heap.objs.size f cd::outer)->h2.get? b=some u:=λb u q n=>Rv.1 b u (abN _ q n)
 have sl:∀b u,s1.heap.get? b=some u->b∈Na outer->∃z,h2.get? b=some {u with slots:=z}:=λb u q n=>by
  obtain⟨_,o,ho,hd⟩:=I.funs.mem n;rw[q]at ho;cases ho;exact sm b u (hm.keeps b u q) hd
 have there:∀b o,s.heap.get? b=some o->∃o',s1.heap.get? b=some o':=λb o q=>I.base.there b o q (λz=>nomatch z)
 refine⟨a,t,_,H1,rfl,I.os,I.bare,⟨λb o q n hb hx=>k b o (I.base.keep b o q n hb hx) (nl b o q hb),λb o q n hb hx=>?_,I.base.free,λb o q hx=>?_,I.base.tups,I.base.frzs,I.base.tbls⟩,λb o e=>?_,Rv,λb u q hb n=>?_,hW⟩
 .obtain⟨z,e⟩:=I.base.slot b o q n hb hx;obtain⟨z',e'⟩:=sl b _ e hb;exact⟨z',e'⟩
 .obtain⟨o',e⟩:=there b o q;by_cases hb:b∈Na outer
  .obtain⟨z,e'⟩:=sl b o' e hb;exact⟨_,e'⟩
  .exact⟨o',k b o' e (nl b o q hb)⟩
 .refine(I.hok b o e).stay (λc u hc q=>k c u q (nt c ?_)) (λ_ q=>q) λ_ _ q=>q
  rcases hc with rfl|hc
  .rw[e];exact λz=>nomatch z
  .rw[hc];exact λz=>nomatch z
 .have h1:∃u0,s1.heap.get? b=some u0/\b∉Na (envOfC qual scope s.heap.objs.size f cd::outer):=by
   rcases hb with hb|⟨o,ho⟩
   .cases hq:H1 b with
    |none=>exact absurd hq hb
    |some ho=>
     obtain⟨u0,e0⟩:=ook_get (I.hok b ho hq);exact⟨u0,e0,nt b hb⟩
   .obtain⟨o',e⟩:=there b o ho;exact⟨o',e,nl b o ho n⟩
  obtain⟨u0,e0,n0⟩:=h1;have:=k b u0 e0 n0;rw[show h2.get? b=some u from q]at this;cases this;exact abN _ e0 n0
def PX(X:Cx)(st:List Stmt)(t:L2.St->Hp->Prop):Prop:=
 ∀(pr:List (WP×Obj)) (s:WF) (σ:L2.St) (H:Hp),Inv X pr σ H s->t σ H->wpAny (model X.prog X.w) X.A (execs st X.env) (λ_ _=>False) X.xe s
variable{st:Stmt}{es:List Expr}
section
variable{rest:List Stmt}{t:TS}{u u':L2.St->Hp->Prop}{e:Expr}{Ww:Hp->Prop}{np Mu:Pos}
theorem y7{ta:TA}(O:XCl X.mg X.base x C)(acc:Acc X C Ww)(hc:X.calm=true)(hg:Gl X x)(ha:PA X (e::es) ta)(NJ:(x==("__debug__" : Str))=false:=by decide)
  (he:starEach (e::es) X.env=(false,eval e X.env)::starEach es X.env:=by rfl) (Nu:(backTo Mu (starEach es X.env)).any (·.1)=false:=by rfl):
  PX X (.Raise (some (.Call (.Name x np) (e::es) [] Mu)) none pos::rest) (λσ H=>ta σ H λvs H1=>vs.length<=sizeLine/\Ww H1):=by
 intro pr s σ H I h;obtain⟨B,nw,ini,bm,FB,O⟩:=O;obtain⟨tl,N,nm,q,bs,hdct,sn,sub,ab,col,dd,k0,k1,k2,k3,k5,mN,hC,hN,Zg,T⟩:=O.obj;refine aat (wpAny_Raise_call_subT (C:=C) (nm:=nm) (q:=q) (N:=N) (bs:=bs) (bm:=tl) (hdct:=hdct) (sn:=sn) (sub:=sub) (ab:=ab) (col:=col) (dd:=dd) (k0:=k0) (k1:=k1) (k2:=k2) (k3:=k3) (k5:=k5) FB (mN:=mN) (T.hasType FB.hasBase) (I.ok.hd hc) (by rw[he];show(false||(backTo Mu (starEach es X.env)).any (·.1))=false;rw[Nu];rfl) Zg (k8 I hg O.bound ⟨rfl,?_⟩ NJ));have z:=ha Mu pr s σ H _ I h;rw[he]at z |-;exact Calls.evalArgs_plain (aaf z (λus s2 ⟨vs,H1,I1,r,hl,hw⟩=>⟨rfl,by rw[<-r.length];exact hl,I1.bk _ _ hC,hN.keeps I1.bk,T.keeps I1.bk,λh' a hm=>acc pr σ H1 s2 h' a us I1 hw hm⟩) λ_ _ y=>y)
theorem Cr(h1:PS X st t)(h2:PX X rest u):PX X (st::rest) (λσ H=>t {nx:=u,rt:=λ_ _=>False} σ H):=by
 intro pr s σ H I h;refine aat (Mz (h1 pr s σ H _ I h) λf s1 q=>?_);cases f with
 |next=>
  obtain⟨σ',H',I',q⟩:=q;exact h2 pr s1 σ' H' I' q
 |ret v=>obtain⟨_,_,_,_,_,q⟩:=q;exact q
 |brk=>obtain⟨_,_,_,q⟩:=q;exact q
 |cont=>obtain⟨_,_,_,q⟩:=q;exact q
theorem Iq{c:Expr}{a b:List Stmt}(hc:PT X c tc)(ha:PX X a u):PX X (.If c a b pos::rest) (λσ H=>tc σ H λbb H1=>bb=true/\u σ H1):=by
 intro pr s σ H I h;refine aat (wpAny_If (Mz (hc pr s σ H _ I h) λd s1 MC=>?_));obtain⟨H1,I1,e,q⟩:=MC;subst e;exact aaf (ha pr s1 σ H1 I1 q) (λ_ _ z=>z.elim) λ_ _ z=>z
theorem Ir(h1:PX X rest u)(h2:PX X rest u'):PX X rest (λσ H=>u σ H\/u' σ H):=λpr s σ H I h=>h.elim (h1 pr s σ H I) (h2 pr s σ H I)
theorem jm(h:PX X rest u)(k:∀σ H,u' σ H->u σ H):PX X rest u':=λpr s σ H I z=>h pr s σ H I (k σ H z)
theorem Fg(h:PX X rest u):PSs X rest (λ_ σ H=>u σ H):=λpr s σ H _ I z=>aaf (h pr s σ H I z) (λ_ _ z=>z.elim) λ_ _ z=>z
theorem Fh(h:PS X.nox st t):PS X st t:=λpr s σ H D I hw=>aaf (h pr s σ H D (I.wish _) hw) (λ_ _ q=>q.unwish) λ_ _ z=>False.elim z
theorem Fi{t:TA}(h:PA X.nox es t):PA X es t:=λp pr s σ H Q I hw=>aaf (h p pr s σ H Q (I.wish _) hw) (λ_ _ ⟨v,H',I',r,q⟩=>⟨v,H',I'.unwish,r,q⟩) λ_ _ z=>False.elim z
end
def CtX(P:W1)(w:World)(K:W.Frag)(mg:Str->Option Wp)(base:UF)(x:Str)(k:Nat)(C:WP)(sp:Sp):Prop:=
 ∃f fd ps,FnOk P w K mg base (Ts P w base C) k f fd ps sp/\mg x=some (.ref f)/\PySem.W.keepIn K (.ref f)=true/\Binds K fd ps []
variable{sp:Sp}
theorem Cs{f:WP}{fd:FuncData}{ps:List Str}{k:Nat}(F:Fun K x qual st f fd)(S:FnScope N ps (defScope st))(len:∀vs H Q E,sp vs H Q E->vs.length=ps.length)
  (Q5:∀(MA:Wp) (A:Uf) (outer:List Env) (s:WF) (H:Hp) (vs:List V) (Q:VK) (E:XK),Room k (A.deeper (envOfC qual (defScope st) s.heap.objs.size f MA))->sp vs H Q E->
   ∃t,PX (qP (Ts P w base C) P w K mg base N qual (defScope st) f MA A outer s H E) (dj st) t/\t (start N vs) H):FnOk P w K mg base (Ts P w base C) (k+1) f fd ps sp:=by
 obtain⟨oc,od,kV,doc,pm,an,MA,ct,SD,rfl,lk,Q3⟩:=F.ex;refine EM lk Q3 S len λA outer s H vs Q E hr Ti=>?_
 obtain⟨t,h,q⟩:=Q5 MA A outer s H vs Q E hr Ti;exact⟨_,Fg h,q⟩
def XP(X:Cx)(pr:List (WP×Obj))(σ:L2.St)(C:WP)(Ww:Hp->Prop)(e:Wp)(s':WF):Prop:=∃(s1:WF) (H1:Hp),Inv X pr σ H1 s1/\Ts X.prog X.w X.base C X.stack H1 s1 (λ_ _ H'=>Ww H') e s'
abbrev TX:=L2.St->Hp->(Hp->Prop)->Prop
def RW(X:Cx)(e:Expr)(C:WP)(t:TX):Prop:=∀(pr:List (WP×Obj)) (s:WF) (σ:L2.St) (H:Hp) (Ww:Hp->Prop),Inv X pr σ H s->t σ H Ww->wpAny (model X.prog X.w) X.A (eval e X.env) (λ_ _=>False) (XP X pr σ C Ww) s
def PSX(X:Cx)(st:List Stmt)(C:WP)(t:TX):Prop:=∀(pr:List (WP×Obj)) (s:WF) (σ:L2.St) (H:Hp) (Ww:Hp->Prop),Inv X pr σ H s->t σ H Ww->wpAny (model X.prog X.w) X.A (execs st X.env) (λ_ _=>False) (XP X pr σ C Ww) s
section
variable{rest:List Stmt}{tx:TX}{e a b:Expr}{k:Nat}{p:Pos}
theorem sW{t:TA}(c:CtX X.prog X.w X.K X.mg X.base x k C sp)(hr:Room k X.A)(hg:Gl X x)(ha:PA X.nox (e::es) t)(NJ:(x==("__debug__" : Str))=false:=by decide)
  (he:starEach (e::es) X.env=(false,eval e X.env)::starEach es X.env:=by rfl) (Nu:(backTo pos (starEach es X.env)).any (·.1)=false:=by rfl):
  RW X (.Call (.Name x p) (e::es) [] pos) C (λσ H Ww=>t σ H λvs H1=>sp vs H1 (λ_ _=>False) λ_ _ H'=>Ww H'):=by
 intro pr s σ H Ww I h;obtain⟨f,fd,ps,F,m,kp,b⟩:=c;refine aaV (k8 I hg m ?_ NJ);refine PySem.W.callWith_K (h₀:=X.base) I.ok.mod.kin kp (aaf (ha pos pr s σ H _ (I.wish _) h) (λus s1 ⟨vs,H1,I1,r,q⟩=>⟨I1.kIn,?_⟩) λ_ _ z=>z.elim) he Nu;have I1:=I1.unwish;have hl:us.length=ps.length:=by rw[<-r.length];exact F.len _ _ _ _ q
 have hb:BindsTo s1 fd ⟨us,[]⟩ (ps.zip us):=by
  have:=b s1 us I1.kIn (by rw[aak];exact hl);rw[aak]at this;exact this
 refine wpAny_call (acW (F.run X.A X.stack s1 H1 ⟨us,[]⟩ us vs _ _ hr I1.env0 hb r q) λr s' hq=>?_);cases r with
 |error e=>exact⟨s1,H1,I1,hq⟩
 |ok fl=>
  cases fl with
  |ret u=>obtain⟨_,_,_,_,_,_,_,z⟩:=hq;exact z.elim
  |next=>exact False.elim hq
  |brk=>exact False.elim hq
  |cont=>exact False.elim hq
theorem y8(h:RW X e C tx)(hs:swapsWith e none pos.line X.env=pure false:=by rfl):PSX X (.Expr e pos::rest) C tx:=λpr s σ H Ww I z=>
 aat (wpAny_Expr_any (aaf (h pr s σ H Ww I z) (λ_ _ z=>z.elim) λ_ _ z=>z) I.quiet hs)
end
abbrev handX(X:Cx)(a:WP):Cx:={X with A:=X.A.mark (some (.ref a)),calm:=false,xe:=λ_ _=>False}
theorem y9(I:Inv X pr σ H s)(a:WP):Inv (handX X a) pr σ H s:=
 ⟨⟨I.ok.mod,I.ok.kind,I.ok.glob,I.ok.blt,I.ok.above,I.ok.inj,I.ok.has,I.ok.cab,(λz=>nomatch z),I.ok.frames,I.ok.stk,I.ok.exf,I.ok.bs,I.ok.bsz,I.ok.noex,I.ok.exfs,I.ok.funs,I.ok.frf⟩,I.os,I.bare,I.base,I.loc,I.cell,I.free,I.freeC,I.pin,I.hok,I.len⟩
open PySem.Builtin.ObjectAttr PySem.Builtin.Getset_descriptor
def ExAt(x D:WP)(h:UF):Prop:=∃o vs,h.get? x=some o/\o.cls=.ref D/\o.data=.fields vs
structure Asks(K:W.Frag)(D:WP):Prop where
 ga:PySem.W.findIn K (.ref D) "__getattribute__" = some (some (.builtin "BaseException.__getattribute__"))
 gn:PySem.W.findIn K (.ref D) "__getattr__" = some none
 hc:PySem.W.hasDictIn K D=true
 fi:PySem.W.findIn K (.ref D) "__class__" = some (some (.builtin "object.__class__"))
 sp:PySem.W.specialIn K (.builtin "object.__class__") "__get__" = some (some (.builtin "getset_descriptor.__get__"))
 tk:PySem.W.takesIn K (.builtin "object.__class__")=some true
 mo:PySem.W.mroIn K D (.type "object")=some true
 mb:PySem.W.mroIn K D (.type "BaseException")=some true
theorem Asks.cls{D:WP}(k:Asks K D):∃cd,PySem.W.clsIn K D=some cd:=by
 obtain⟨cd,e,_⟩:=PySem.W.any_some k.hc;exact⟨cd,e⟩
variable{M:Model}{tk:Tok}
section
variable{x D:WP}
theorem ExAt.ty(I:ExAt x D h):PySem.W.Looks M h (typeOf (.ref x)) (.ref D):=by
 obtain⟨o,vs,e,c,_⟩:=I;exact c▸(PySem.W.Looks.ld e).andThen .now
theorem za(k:Asks K D)(X:K.In h):PySem.W.Looks M h (find (.ref x) (.ref D) "__class__") (.bind (.builtin "getset_descriptor.__get__") (.builtin "object.__class__")):=by
 have T:=PySem.W.looks_takesIn (M:=M) X k.tk;have T':PySem.W.Looks M h (dataDescriptor? (some (.builtin "object.__class__")) (some (.builtin "getset_descriptor.__get__"))) (some (.builtin "getset_descriptor.__get__",.builtin "object.__class__")):=T.andThen .now;exact(acG X k.fi).andThen ((show PySem.W.Looks M h (getOf (some (.builtin "object.__class__"))) (some (.builtin "getset_descriptor.__get__")) from PySem.W.looks_specialIn X k.sp).andThen (T'.andThen (PySem.W.Looks.tag .now)))
theorem Cu{R:Result->WF->Prop}{tp:Wp}(k:Asks K D)(X:K.In s.heap)(I:ExAt x D s.heap)(h:R (.ok (.ret (.ref D))) s):
  codeAny (model prog w) A (.call (.builtin "getset_descriptor.__get__") ⟨[.builtin "object.__class__",.ref x,tp],[]⟩) R s:=by
 obtain⟨hp,gs,dr,tt,oo⟩:=s;have Ty:=I.ty (M:=model prog w);have Mo:=acQ (M:=model prog w) X k.mo;refine acE PySem.W.KF.slot_gs.plain PySem.W.KF.entry_gs (PySem.W.KF.slot_gs.check _ _ _ _ _ _ _ _ PySem.W.KF.type_class (PySem.W.KF.args_gs _ _ _) ?_);unfold Builtin.«getset_descriptor.__get__» descrGet;rw[PySem.W.dga_obj];refine ZH (ZM ?_);unfold descrGetter descrCheckInstance descrNameAndClass isInstance;simp![PySem.W.KF.owner_class];repeat lk
 refine⟨Code.quiet_builtin _ (by decide +kernel),acL PySem.W.KF.entry_class ?_⟩;unfold Builtin.«object.__class__» shownTypeOf;repeat lk
 exact h
theorem wx{Q:PySem.Fin->WF->Prop}(k:Asks K D)(X:K.In s.heap)(I:ExAt x D s.heap)(h:Q (.done (.ret (.ref D))) s):
  wpAny (model prog w) A (Builtin.«object.__getattribute__» ⟨[.ref x,.str "__class__" tk],[]⟩) Q E s:=by
 obtain⟨hp,gs,dr,tt,oo⟩:=s;have Ty:=I.ty (M:=model prog w);have Fd:=za (M:=model prog w) (x:=x) k X;unfold Builtin.«object.__getattribute__»;repeat (any_goals (first|assumption|with_reducible refine Ty.at ?_|with_reducible refine Fd.at ?_|wp_step))
 refine Cu k X I ?_;repeat (any_goals (first|assumption|wp_step))
theorem wy{nv:Wp}{Q:Unit->WF->Prop}(k:Asks K D)(X:K.In s.heap)(I:ExAt x D s.heap)(h:Q () s):wpAny M A (checkBuiltinCall "BaseException.__getattribute__" ⟨[.ref x,nv],[]⟩) Q E s:=by
 obtain⟨hp,gs,dr,tt,oo⟩:=s;have z1:builtinKind "BaseException.__getattribute__" = some .slot:=by decide +kernel
 have z2:splitId "BaseException.__getattribute__" = some ("BaseException","__getattribute__"):=by decide +kernel
 have z3:=F.args_bexc_ga (.ref x) nv;have Ty:=I.ty (M:=M);have Mb:=acQ (M:=M) X k.mb;simp![checkBuiltinCall,z1,z2];refine ZH ?_;unfold isInstance;repeat (any_goals (first|assumption|with_reducible refine Ty.at ?_|with_reducible refine Mb.at ?_|wp_step))
theorem Fj{fill ex:Bool}(k:Asks K D)(X:K.In s.heap)(I:ExAt x D s.heap)(h:Q (.ref D) s):wpAny (model prog w) A (getAttrBy (.ref x) (.str "__class__" tk) fill ex) Q E s:=by
 obtain⟨hp,gs,dr,tt,oo⟩:=s;have Ty:=I.ty (M:=model prog w);have G1:=acG (M:=model prog w) X k.ga;have G2:=acG (M:=model prog w) X k.gn;have z0:(ex&&onTheHeap (Value.builtin "BaseException.__getattribute__"))=false:=by cases ex <;> rfl
 have z2:(Value.builtin "BaseException.__getattribute__" == Value.builtin "object.__getattribute__")=false:=by decide +kernel
 have z1:(onTheHeap (Value.ref D)&&Value.builtin "BaseException.__getattribute__" == Value.builtin "object.__getattribute__")=false:=by rw[z2];rfl
 have z3:=F.attr_ValueError.ga.bind (.ref x);repeat (any_goals (first|assumption|with_reducible refine Ty.at ?_|with_reducible refine G1.at ?_|with_reducible refine G2.at ?_|wp_step))
 refine acE F.attr_ValueError.ga.plain F.entry_bexc_ga (wy k X I (wx k X I ?_));repeat (any_goals (first|assumption|wp_step))
theorem wz(k:Asks K D)(X:K.In s.heap)(I:ExAt x D s.heap){Q:Option Wp->WF->Prop}(h:Q (some (.ref D)) {s with toks:=s.toks+1}):wpAny (model prog w) A (getAttr? (.ref x) "__class__") Q E s:=by
 unfold getAttr? getAttrBy?;refine ZH (wpAny_mkText (ZH (acb (Fj (s:={s with toks:=s.toks+1}) k X I (ZM h)))))
theorem rm(k:Asks K D):PySem.W.KitX K (.ref x) (.ref D) (ExAt x D) where
 ty:=λ_ _ _ I=>I.ty
 it:=λM h X _=>by
  obtain⟨cd,e⟩:=k.cls;unfold PySem.W.clsIn at e;split at e
  .rename_i ho;intro A' Q' E' s' kk q;unfold isType loadHead;exact ZH (wpAny_loadPart (kk _ _ (X _ _ ho)) (ZM q))
  .cases e
 ne:=λh tp dd L8 n sl X htp=>by
  obtain⟨cd,e⟩:=k.cls;refine Bool.eq_false_iff.mpr λq=>?_
  cases Value.ref.inj (aaK.mp q);unfold PySem.W.clsIn at e;split at e
  .rename_i ho;cases(X _ _ ho).symm.trans htp
  .cases e
 ca:=λX I h=>wz k X I h
end
abbrev asX(X:Cx)(a:WP)(o:Obj):Cx:={X with A:=X.A.mark (some (.ref a)),calm:=false,xe:=λ_ _=>False,pn:=(a,o)::X.pn}
section
variable{o:Obj}
theorem Fl(I:Inv X pr σ H s)(h1:s.heap.get? a=some o)(h2:H a=none)(h3:a≠X.env.locals)(h4:a∉X.fs)(h5:∀v,o.data≠.cell v):Inv (asX X a o) pr σ H s:=
 ⟨⟨I.ok.mod,I.ok.kind,I.ok.glob,I.ok.blt,I.ok.above,I.ok.inj,I.ok.has,I.ok.cab,(λz=>nomatch z),I.ok.frames,I.ok.stk,I.ok.exf,I.ok.bs,I.ok.bsz,I.ok.noex,I.ok.exfs,I.ok.funs,I.ok.frf⟩,I.os,I.bare,I.base,I.loc,I.cell,I.free,I.freeC,λp hp=>by
  rcases ZJ.mp (show p∈(a,o)::(X.pn++pr) from hp) with rfl|hp
  .exact⟨h1,h2,h3,h4,h5⟩
  .exact I.pin p hp,I.hok,I.len⟩
theorem zb{i:Nat}{m:Str->Option Wp}{v:Option Wp}{h':UF}{t':Nat}(I:Inv X pr σ H s)(hN:X.N.Nodup)(hi:X.N[i]?=some x)(hm:s.heap.Ns X.env.locals m)
  (hn:h'.Ns X.env.locals (λy=>if y=x then v else m y)) (hs:Heap.SameBut X.env.locals s.heap h'):Inv X pr (σ.set i none) H {s with heap:=h',toks:=t'}:=by
 have Yj:∀b o,X.s₀.heap.get? b=some o->b≠X.env.locals:=λb o e=>aac (ZV (ZQ e) I.ok.above)
 have hl:i<σ.length:=by rw[I.len];exact(Z1.mp hi).1
 refine⟨I.ok,I.os,I.bare,⟨λb o e n hb hx=>?_,λb o e n hb hx=>?_,I.base.free,λb o e hx=>?_,I.base.tups,I.base.frzs,I.base.tbls⟩,⟨_,hn,λj y v' e1 e2 e3=>?_⟩,λy c e=>?_,I.free,I.freeC,λp hp=>?_,λb ob e=>?_,by rw[abW];exact I.len⟩
 .rw[hs.2 b (Yj b o e)];exact I.base.keep b o e n hb hx
 .rw[hs.2 b (Yj b o e)];exact I.base.slot b o e n hb hx
 .rw[hs.2 b (Yj b o e)];exact I.base.there b o e hx
 .have hj:j≠i:=λz=>by
   subst z;rw[abh hl]at e2;cases e2
  rw[abZ (abp hj)]at e2;obtain⟨m',hm',Xy⟩:=I.loc;obtain⟨u',r',q⟩:=Xy j y v' e1 e2 e3;refine⟨u',r',?_⟩;rcases q with⟨kk,e⟩|⟨kk,c,e,z⟩
  .refine .inl ⟨kk,?_⟩;have ne:y≠x:=λe=>hj (nK hN e1 (e▸hi))
   dsimp only;rw[Z6 ne];obtain⟨o1,Uu,Zh,a1,b1,c1,d1⟩:=hm;obtain⟨o2,TH,Zi,a2,b2,c2,d2⟩:=hm';rw[a1]at a2;cases a2;rw[b1]at b2;cases b2;rw[<-d1 y,d2 y];exact e
  .exact .inr ⟨kk,c,e,z.sameBut hs (I.cne y c e)⟩
 .obtain⟨w',z⟩:=I.cell y c e;exact⟨w',z.sameBut hs (I.cne y c e)⟩
 .obtain⟨e,n,ne,nf,d⟩:=I.pin p hp;exact⟨(hs.2 p.1 ne).trans e,n,ne,nf,d⟩
 .refine(I.hok b ob e).stay (λc w' hc q=>(hs.2 c ?_).trans q) (λ_ q=>q) λ_ _ q=>q
  rintro rfl;rcases hc with rfl|hc
  .rw[I.free]at e;cases e
  .rw[I.free]at hc;cases hc
end
end NX
namespace NX
open PySem PySem.W PySem.Spec PyProof.Rows L2
section
variable{prog:W1}{w:World}{A:Uf}{E:Wp->WF->Prop}{s:WF}
end
section
variable{X:Cx}
end
end NX
namespace NX
open PySem PySem.Spec PyProof.Rows L2
section
variable{X:Cx}{es:List Expr}{kt:Nat}{pt:Pos}
end
section
variable{X:Cx}{rest:List Stmt}{tx:TX}{e a b:Expr}{C:WP}{pos p:Pos}{Ww:Hp->Prop}
theorem Fo(acc:∀pr σ e s',XP X pr σ C Ww e s'->X.xe e s')(h:RW X e C tx):PX X (.Return (some e) pos::rest) (λσ H=>tx σ H Ww):=λpr s σ H I z=>
 aat (ac8 (aaf (h pr s σ H Ww I z) (λ_ _ z=>z.elim) λv s' z=>acc pr σ v s' z))
end
open PySem.Builtin.ObjectAttr PySem.Builtin.Getset_descriptor
section
variable{M:Model}{A:Uf}{E:Wp->WF->Prop}{K:W.Frag}{C P N ab:WP}
theorem zc{nm q bs bm hdct sn sub ab col dd k0 k1 k2 k3 k5 newId}{s:WF}{e:WP}{oe:Obj}{Q:Bool->WF->Prop}(X:K.In s.heap)(up:PySem.W.mroIn K C (.ref P)=some true)
  (hP:s.heap.get? P=some (excClassObj nm q P N bs bm hdct sn sub ab col dd k0 k1 k2 k3 k5 newId)) (he:s.heap.get? e=some oe) (Rx:oe.cls=.ref C) (Oe:bm.contains (.type "BaseException")=true)
  (hq:Q true s):wpAny M A (excMatches (.ref e) (.ref P)) Q E s:=by
 obtain⟨h,g,d,t,os⟩:=s;have Mp:=acQ (M:=M) X up;have hcB:(Value.ref P::bm).contains (.type "BaseException")=true:=by rw[List.contains_cons,Oe,ac0]
 have f:=tc_notTuple;unfold excMatches;repeat (first|(with_reducible refine wpAny_loadPart_at he ?_;rw[Rx])|with_reducible refine wpAny_loadPart_at hP ?_|(with_reducible refine wpAny_isSubtype_exc hP ?_;rw[hcB])|with_reducible refine Mp.at ?_|wp_step)
 exact hq
end
end NX
namespace PV
open PySem L2 NX
inductive D where
 |non|bl (b:Bool)|int (i:Int)|str (l:List Nat)|tup (ds:List D)|lst (ds:List D)|dct (tk:Bool) (ks vs:List D)
inductive O where
 |f|l (c:O)|t (cs:List O)|d|pin (p:WP) (c:O)
abbrev R:=O×D
abbrev Env:=List (Option R)
inductive Res(α:Type) where
 |ok (a:α)|exc (c:List Nat)|bad
def kD:Key->D
 | .inl i=>.int i
 | .inr x=>.str x.cps.toList
def isM:HO->Bool
 | .lst _=>true
 | .dK _=>true
 | .dT _=>true
 |_=>false
def UU:HO->Bool
 | .tup _=>true
 | .frz _ (.tup _)=>true
 |_=>false
def yv:Key->Prop
 | .inl _=>True
 | .inr x=>x.cps.toList.length<=sizeLine
def DictO(o:HO)(tk:Bool)(ks:List D)(xs:List V):Prop:=match tk with
 |true=>∃kvs:List (List Key×V),o=.dT kvs/\ks=kvs.map (λkv=>D.tup (kv.1.map kD))/\xs=kvs.map (·.2)/\∀kv∈kvs,∀k∈kv.1,yv k
 |false=>∃kvs:List (Key×V),o=.dK kvs/\ks=kvs.map (λkv=>kD kv.1)/\xs=kvs.map (·.2)/\∀kv∈kvs,yv kv.1
mutual
def Rep(K:W.Frag)(G:Hp):D->V->Prop
 | .non,v=>v=.non
 | .bl b,v=>v=.bl b
 | .int i,v=>v=.int i
 | .str l,v=>v=.str (S l)/\l.length<=sizeLine
 | .tup ds,v=>∃p xs,v=.ref p/\G p=some (.tup xs)/\Reps K G ds xs
 | .lst ds,v=>∃p xs,v=.ref p/\SqL K G p xs/\Reps K G ds xs
 | .dct tk ks vs,v=>∃p xs o,v=.ref p/\Rd G p o/\DictO o tk ks xs/\Reps K G vs xs
def Reps(K:W.Frag)(G:Hp):List D->List V->Prop
 |[],xs=>xs=[]
 |d::ds,xs=>∃y ys,xs=y::ys/\Rep K G d y/\Reps K G ds ys
end
def AllO(P:D->V->List WP->Prop):List D->List V->List WP->Prop
 |[],xs,fp=>xs=[]/\fp=[]
 |d::ds,xs,fp=>∃y ys a b,xs=y::ys/\fp=a++b/\P d y a/\AllO P ds ys b
mutual
def RepO(K:W.Frag)(G H:Hp):O->D->V->List WP->Prop
 | .f,d,v,fp=>Rep K G d v/\fp=[]
 | .l c,.lst ds,v,fp=>∃p xs L9,v=.ref p/\H p=some (.lst xs)/\fp=p::L9/\AllO (RepO K G H c) ds xs L9
 | .t cs,.tup ds,v,fp=>∃p xs,v=.ref p/\G p=some (.tup xs)/\RepT K G H cs ds xs fp
 | .d,.dct tk ks vs,v,fp=>∃p xs o,v=.ref p/\H p=some o/\DictO o tk ks xs/\fp=[p]/\Reps K G vs xs
 | .pin p c,d,v,fp=>v=.ref p/\RepO K G H c d v fp
 |_,_,_,_=>False
def RepT(K:W.Frag)(G H:Hp):List O->List D->List V->List WP->Prop
 |[],[],xs,fp=>xs=[]/\fp=[]
 |c::cs,d::ds,xs,fp=>∃y ys a b,xs=y::ys/\fp=a++b/\RepO K G H c d y a/\RepT K G H cs ds ys b
 |_,_,_,_=>False
end
variable{K:W.Frag}{p:WP}{u:HO}{xs:List V}{fp fq:List WP}{es:Env}{vs:List (Option V)}{r:R}{v:V}
section
variable{G G' H H':Hp}
theorem Rd.mono(h:Same G G')(r:Rd G p u):Rd G' p u:=by
 rcases r with r|⟨o,r⟩
 .exact .inl (h _ _ r)
 .exact .inr ⟨o,h _ _ r⟩
theorem ik(h:Same G G')(r:SqL K G p xs):SqL K G' p xs:=r.elim (λr=>.inl (Rd.mono h r)) .inr
theorem cE(h:Same G G')(r:SqT K G p xs):SqT K G' p xs:=r.elim (λr=>.inl (Rd.mono h r)) .inr
mutual
theorem Rep.mono(h:Same G G'):∀{d:D}{v:V},Rep K G d v->Rep K G' d v
 | .non,_,r=>by simpa only[Rep] using r
 | .bl _,_,r=>by simpa only[Rep] using r
 | .int _,_,r=>by simpa only[Rep] using r
 | .str _,_,r=>by simpa only[Rep] using r
 | .tup ds,_,r=>by
  simp![Rep]at r |-;obtain⟨p,xs,e,q,rs⟩:=r;exact⟨p,xs,e,h _ _ q,Reps.mono h rs⟩
 | .lst ds,_,r=>by
  simp![Rep]at r |-;obtain⟨p,xs,e,q,rs⟩:=r;exact⟨p,xs,e,ik h q,Reps.mono h rs⟩
 | .dct tk ks vs,_,r=>by
  simp![Rep]at r |-;obtain⟨p,xs,o,e,q,dd,rs⟩:=r;exact⟨p,xs,o,e,Rd.mono h q,dd,Reps.mono h rs⟩
theorem Reps.mono(h:Same G G'):∀{ds:List D}{xs:List V},Reps K G ds xs->Reps K G' ds xs
 |[],_,r=>by simpa only[Reps] using r
 |d::ds,_,r=>by
  simp![Reps]at r |-;obtain⟨y,ys,e,r1,r2⟩:=r;exact⟨y,ys,e,Rep.mono h r1,Reps.mono h r2⟩
end
theorem AllO.imp{P P':D->V->List WP->Prop}:∀{ds:List D}{xs:List V}{fp:List WP},(∀d v a,(∀p∈a,p∈fp)->P d v a->P' d v a)->AllO P ds xs fp->AllO P' ds xs fp
 |[],_,_,_,r=>r
 |d::ds,xs,fp,h,r=>by
  obtain⟨y,ys,a,b,e1,e2,p,q⟩:=r;subst e2;exact⟨y,ys,a,b,e1,rfl,h _ _ _ (λp hp=>ZX _ hp) p,AllO.imp (λd v c hc=>h d v c λp hp=>ZK _ (hc p hp)) q⟩
mutual
theorem RepO.step(h:Same G G'):∀{o:O}{d:D}{v:V}{fp:List WP},(∀p∈fp,H' p=H p)->RepO K G H o d v fp->RepO K G' H' o d v fp
 | .f,d,v,fp,hk,r=>by
  simp![RepO]at r |-;exact⟨Rep.mono h r.1,r.2⟩
 | .pin p c,d,v,fp,hk,r=>by
  simp![RepO]at r |-;exact⟨r.1,RepO.step h hk r.2⟩
 | .l c,.lst ds,v,fp,hk,r=>by
  simp![RepO]at r |-;obtain⟨p,xs,L9,e,q,e2,a⟩:=r;subst e2;exact⟨p,xs,L9,e,(hk p ZI).trans q,rfl,AllO.imp (λd v c hc=>RepO.step h λz hz=>hk z (ZN _ (hc z hz))) a⟩
 | .t cs,.tup ds,v,fp,hk,r=>by
  simp![RepO]at r |-;obtain⟨p,xs,e,q,a⟩:=r;exact⟨p,xs,e,h _ _ q,RepT.step h hk a⟩
 | .d,.dct tk ks vs,v,fp,hk,r=>by
  simp![RepO]at r |-;obtain⟨p,xs,o,e,q,dd,e2,rs⟩:=r;subst e2;exact⟨p,xs,o,e,(hk p ZI).trans q,dd,rfl,Reps.mono h rs⟩
 | .l _,.non,_,_,_,r | .l _,.bl _,_,_,_,r | .l _,.int _,_,_,_,r | .l _,.str _,_,_,_,r | .l _,.tup _,_,_,_,r | .l _,.dct _ _ _,_,_,_,r=>by simp![RepO]at r
 | .t _,.non,_,_,_,r | .t _,.bl _,_,_,_,r | .t _,.int _,_,_,_,r | .t _,.str _,_,_,_,r | .t _,.lst _,_,_,_,r | .t _,.dct _ _ _,_,_,_,r=>by simp![RepO]at r
 | .d,.non,_,_,_,r | .d,.bl _,_,_,_,r | .d,.int _,_,_,_,r | .d,.str _,_,_,_,r | .d,.tup _,_,_,_,r | .d,.lst _,_,_,_,r=>by simp![RepO]at r
theorem RepT.step(h:Same G G'):∀{cs:List O}{ds:List D}{xs:List V}{fp:List WP},(∀p∈fp,H' p=H p)->RepT K G H cs ds xs fp->RepT K G' H' cs ds xs fp
 |[],[],_,_,_,r=>by simpa only[RepT] using r
 |c::cs,d::ds,xs,fp,hk,r=>by
  simp![RepT]at r |-;obtain⟨y,ys,a,b,e1,e2,r1,r2⟩:=r;subst e2;exact⟨y,ys,a,b,e1,rfl,RepO.step h (λp hp=>hk p (ZX _ hp)) r1,RepT.step h (λp hp=>hk p (ZK _ hp)) r2⟩
 |[],_::_,_,_,_,r=>by simp![RepT]at r
 |_::_,[],_,_,_,r=>by simp![RepT]at r
end
theorem AllO.frozen{P:D->V->List WP->Prop}:∀{ds:List D}{xs:List V}{fp:List WP},(∀d v a,(∀p∈a,p∈fp)->P d v a->Rep K G' d v)->AllO P ds xs fp->Reps K G' ds xs
 |[],_,_,_,r=>by simp![Reps];exact r.1
 |d::ds,xs,fp,h,r=>by
  obtain⟨y,ys,a,b,e1,e2,p,q⟩:=r;subst e2;simp![Reps];exact⟨y,ys,e1,h _ _ _ (λp hp=>ZX _ hp) p,AllO.frozen (λd v c hc=>h d v c λp hp=>ZK _ (hc p hp)) q⟩
mutual
theorem RepO.frozen(h:Same G G'):∀{o:O}{d:D}{v:V}{fp:List WP},(∀p∈fp,∀u,H p=some u->G' p=some u)->RepO K G H o d v fp->Rep K G' d v
 | .f,d,v,fp,hk,r=>by
  simp![RepO]at r;exact Rep.mono h r.1
 | .pin p c,d,v,fp,hk,r=>by
  simp![RepO]at r;exact RepO.frozen h hk r.2
 | .l c,.lst ds,v,fp,hk,r=>by
  simp![RepO]at r;simp![Rep];obtain⟨p,xs,L9,e,q,e2,a⟩:=r;subst e2;exact⟨p,xs,e,SqL.of (hk p ZI _ q),AllO.frozen (λd v c hc=>RepO.frozen h λz hz=>hk z (ZN _ (hc z hz))) a⟩
 | .t cs,.tup ds,v,fp,hk,r=>by
  simp![RepO]at r;simp![Rep];obtain⟨p,xs,e,q,a⟩:=r;exact⟨p,xs,e,h _ _ q,RepT.frozen h hk a⟩
 | .d,.dct tk ks vs,v,fp,hk,r=>by
  simp![RepO]at r;simp![Rep];obtain⟨p,xs,o,e,q,dd,e2,rs⟩:=r;subst e2;exact⟨p,xs,o,e,.inl (hk p ZI _ q),dd,Reps.mono h rs⟩
 | .l _,.non,_,_,_,r | .l _,.bl _,_,_,_,r | .l _,.int _,_,_,_,r | .l _,.str _,_,_,_,r | .l _,.tup _,_,_,_,r | .l _,.dct _ _ _,_,_,_,r=>by simp![RepO]at r
 | .t _,.non,_,_,_,r | .t _,.bl _,_,_,_,r | .t _,.int _,_,_,_,r | .t _,.str _,_,_,_,r | .t _,.lst _,_,_,_,r | .t _,.dct _ _ _,_,_,_,r=>by simp![RepO]at r
 | .d,.non,_,_,_,r | .d,.bl _,_,_,_,r | .d,.int _,_,_,_,r | .d,.str _,_,_,_,r | .d,.tup _,_,_,_,r | .d,.lst _,_,_,_,r=>by simp![RepO]at r
theorem RepT.frozen(h:Same G G'):∀{cs:List O}{ds:List D}{xs:List V}{fp:List WP},(∀p∈fp,∀u,H p=some u->G' p=some u)->RepT K G H cs ds xs fp->Reps K G' ds xs
 |[],[],_,_,_,r=>by simp![RepT]at r;simp![Reps];exact r.1
 |c::cs,d::ds,xs,fp,hk,r=>by
  simp![RepT]at r;simp![Reps];obtain⟨y,ys,a,b,e1,e2,r1,r2⟩:=r;subst e2;exact⟨y,ys,e1,RepO.frozen h (λp hp=>hk p (ZX _ hp)) r1,RepT.frozen h (λp hp=>hk p (ZK _ hp)) r2⟩
 |[],_::_,_,_,_,r=>by simp![RepT]at r
 |_::_,[],_,_,_,r=>by simp![RepT]at r
end
theorem AllO.live{P:D->V->List WP->Prop}:∀{ds:List D}{xs:List V}{fp:List WP},(∀d v a,P d v a->∀p∈a,∃u,H p=some u)->AllO P ds xs fp->∀p∈fp,∃u,H p=some u
 |[],_,_,_,r=>by rw[r.2];intro p hp;cases hp
 |d::ds,xs,fp,h,r=>by
  obtain⟨y,ys,a,b,e1,e2,p,q⟩:=r;subst e2;intro z hz;rcases aag.mp hz with hz|hz
  .exact h _ _ _ p z hz
  .exact AllO.live h q z hz
mutual
theorem RepO.live:∀{o:O}{d:D}{v:V}{fp:List WP},RepO K G H o d v fp->∀p∈fp,∃u,H p=some u
 | .f,d,v,fp,r=>by
  simp![RepO]at r;rw[r.2];intro p hp;cases hp
 | .pin p c,d,v,fp,r=>by
  simp![RepO]at r;exact RepO.live r.2
 | .l c,.lst ds,v,fp,r=>by
  simp![RepO]at r;obtain⟨p,xs,L9,e,q,e2,a⟩:=r;subst e2;intro z hz;rcases ZJ.mp hz with rfl|hz
  .exact⟨_,q⟩
  .exact AllO.live (λd v a=>RepO.live) a z hz
 | .t cs,.tup ds,v,fp,r=>by
  simp![RepO]at r;obtain⟨p,xs,e,q,a⟩:=r;exact RepT.live a
 | .d,.dct tk ks vs,v,fp,r=>by
  simp![RepO]at r;obtain⟨p,xs,o,e,q,dd,e2,rs⟩:=r;subst e2;intro z hz;rw[aan]at hz;exact⟨_,hz▸q⟩
 | .l _,.non,_,_,r | .l _,.bl _,_,_,r | .l _,.int _,_,_,r | .l _,.str _,_,_,r | .l _,.tup _,_,_,r | .l _,.dct _ _ _,_,_,r=>by simp![RepO]at r
 | .t _,.non,_,_,r | .t _,.bl _,_,_,r | .t _,.int _,_,_,r | .t _,.str _,_,_,r | .t _,.lst _,_,_,r | .t _,.dct _ _ _,_,_,r=>by simp![RepO]at r
 | .d,.non,_,_,r | .d,.bl _,_,_,r | .d,.int _,_,_,r | .d,.str _,_,_,r | .d,.tup _,_,_,r | .d,.lst _,_,_,r=>by simp![RepO]at r
theorem RepT.live:∀{cs:List O}{ds:List D}{xs:List V}{fp:List WP},RepT K G H cs ds xs fp->∀p∈fp,∃u,H p=some u
 |[],[],_,_,r=>by
  simp![RepT]at r;rw[r.2];intro p hp;cases hp
 |c::cs,d::ds,xs,fp,r=>by
  simp![RepT]at r;obtain⟨y,ys,a,b,e1,e2,r1,r2⟩:=r;subst e2;intro z hz;rcases aag.mp hz with hz|hz
  .exact RepO.live r1 z hz
  .exact RepT.live r2 z hz
 |[],_::_,_,_,r=>by simp![RepT]at r
 |_::_,[],_,_,r=>by simp![RepT]at r
end
theorem DictO.isM{o:HO}{tk:Bool}{ks:List D}{xs:List V}(h:DictO o tk ks xs):PV.isM o=true:=by
 cases tk with
 |true=>
  obtain⟨kvs,e,_⟩:=h;rw[e];rfl
 |false=>
  obtain⟨kvs,e,_⟩:=h;rw[e];rfl
theorem AllO.mut{P:D->V->List WP->Prop}:∀{ds:List D}{xs:List V}{fp:List WP},(∀d v a,P d v a->∀p∈a,∃u,H p=some u/\isM u=true)->AllO P ds xs fp->∀p∈fp,∃u,H p=some u/\isM u=true
 |[],_,_,_,r=>by rw[r.2];intro p hp;cases hp
 |d::ds,xs,fp,h,r=>by
  obtain⟨y,ys,a,b,e1,e2,p,q⟩:=r;subst e2;intro z hz;rcases aag.mp hz with hz|hz
  .exact h _ _ _ p z hz
  .exact AllO.mut h q z hz
mutual
theorem RepO.mut:∀{o:O}{d:D}{v:V}{fp:List WP},RepO K G H o d v fp->∀p∈fp,∃u,H p=some u/\isM u=true
 | .f,d,v,fp,r=>by
  simp![RepO]at r;rw[r.2];intro p hp;cases hp
 | .pin p c,d,v,fp,r=>by
  simp![RepO]at r;exact RepO.mut r.2
 | .l c,.lst ds,v,fp,r=>by
  simp![RepO]at r;obtain⟨p,xs,L9,e,q,e2,a⟩:=r;subst e2;intro z hz;rcases ZJ.mp hz with rfl|hz
  .exact⟨_,q,rfl⟩
  .exact AllO.mut (λd v a=>RepO.mut) a z hz
 | .t cs,.tup ds,v,fp,r=>by
  simp![RepO]at r;obtain⟨p,xs,e,q,a⟩:=r;exact RepT.mut a
 | .d,.dct tk ks vs,v,fp,r=>by
  simp![RepO]at r;obtain⟨p,xs,o,e,q,dd,e2,rs⟩:=r;subst e2;intro z hz;rw[aan]at hz;exact⟨_,hz▸q,dd.isM⟩
 | .l _,.non,_,_,r | .l _,.bl _,_,_,r | .l _,.int _,_,_,r | .l _,.str _,_,_,r | .l _,.tup _,_,_,r | .l _,.dct _ _ _,_,_,r=>by simp![RepO]at r
 | .t _,.non,_,_,r | .t _,.bl _,_,_,r | .t _,.int _,_,_,r | .t _,.str _,_,_,r | .t _,.lst _,_,_,r | .t _,.dct _ _ _,_,_,r=>by simp![RepO]at r
 | .d,.non,_,_,r | .d,.bl _,_,_,r | .d,.int _,_,_,r | .d,.str _,_,_,r | .d,.tup _,_,_,r | .d,.lst _,_,_,r=>by simp![RepO]at r
theorem RepT.mut:∀{cs:List O}{ds:List D}{xs:List V}{fp:List WP},RepT K G H cs ds xs fp->∀p∈fp,∃u,H p=some u/\isM u=true
 |[],[],_,_,r=>by
  simp![RepT]at r;rw[r.2];intro p hp;cases hp
 |c::cs,d::ds,xs,fp,r=>by
  simp![RepT]at r;obtain⟨y,ys,a,b,e1,e2,r1,r2⟩:=r;subst e2;intro z hz;rcases aag.mp hz with hz|hz
  .exact RepO.mut r1 z hz
  .exact RepT.mut r2 z hz
 |[],_::_,_,_,r=>by simp![RepT]at r
 |_::_,[],_,_,r=>by simp![RepT]at r
end
def RepE(K:W.Frag)(G H:Hp):Env->List (Option V)->List WP->Prop
 |[],vs,fp=>vs=[]/\fp=[]
 |e::es,vs,fp=>∃y ys,vs=y::ys/\match e with
  |none=>RepE K G H es ys fp
  |some r=>∃v a b,y=some v/\fp=a++b/\RepO K G H r.1 r.2 v a/\RepE K G H es ys b
theorem RepE.step(h:Same G G'):∀{es:Env}{vs:List (Option V)}{fp:List WP},(∀p∈fp,H' p=H p)->RepE K G H es vs fp->RepE K G' H' es vs fp
 |[],_,_,_,r=>r
 |none::es,vs,fp,hk,r=>by
  obtain⟨y,ys,e,r⟩:=r;exact⟨y,ys,e,RepE.step h hk r⟩
 |some r::es,vs,fp,hk,q=>by
  obtain⟨y,ys,e,v,a,b,e1,e2,r1,r2⟩:=q;subst e2;exact⟨y,ys,e,v,a,b,e1,rfl,RepO.step h (λp hp=>hk p (ZX _ hp)) r1,RepE.step h (λp hp=>hk p (ZK _ hp)) r2⟩
theorem RepE.live:∀{es:Env}{vs:List (Option V)}{fp:List WP},RepE K G H es vs fp->∀p∈fp,∃u,H p=some u
 |[],_,_,r=>by
  rw[r.2];intro p hp;cases hp
 |none::es,vs,fp,r=>by
  obtain⟨y,ys,e,r⟩:=r;exact RepE.live r
 |some r::es,vs,fp,q=>by
  obtain⟨y,ys,e,v,a,b,e1,e2,r1,r2⟩:=q;subst e2;intro z hz;rcases aag.mp hz with hz|hz
  .exact r1.live z hz
  .exact RepE.live r2 z hz
theorem RepE.mut:∀{es:Env}{vs:List (Option V)}{fp:List WP},RepE K G H es vs fp->∀p∈fp,∃u,H p=some u/\isM u=true
 |[],_,_,r=>by
  rw[r.2];intro p hp;cases hp
 |none::es,vs,fp,r=>by
  obtain⟨y,ys,e,r⟩:=r;exact RepE.mut r
 |some r::es,vs,fp,q=>by
  obtain⟨y,ys,e,v,a,b,e1,e2,r1,r2⟩:=q;subst e2;intro z hz;rcases aag.mp hz with hz|hz
  .exact r1.mut z hz
  .exact RepE.mut r2 z hz
theorem RepE.length:∀{es:Env}{vs:List (Option V)}{fp:List WP},RepE K G H es vs fp->vs.length=es.length
 |[],_,_,r=>by rw[r.1];rfl
 |none::es,vs,fp,r=>by
  obtain⟨y,ys,e,r⟩:=r;rw[e,ZR,ZR,RepE.length r]
 |some r::es,vs,fp,q=>by
  obtain⟨y,ys,e,v,a,b,e1,e2,r1,r2⟩:=q;rw[e,ZR,ZR,RepE.length r2]
theorem RepE.take:∀{es:Env}{vs:List (Option V)}{fp:List WP}{i:Nat}{r:R},RepE K G H es vs fp->es[i]?=some (some r)->
  ∃v a b,vs[i]?=some (some v)/\RepO K G H r.1 r.2 v a/\RepE K G H (es.set i none) vs b/\fp.Perm (a++b)
 |[],_,_,_,_,_,e=>by simp at e
 |none::es,vs,fp,0,r,q,e=>by simp at e
 |some r'::es,vs,fp,0,r,q,e=>by
  obtain⟨y,ys,e0,v,a,b,e1,e2,r1,r2⟩:=q;simp at e;subst e;subst e0;subst e1;exact⟨v,a,b,rfl,r1,⟨some v,ys,rfl,r2⟩,by rw[e2]⟩
 |none::es,vs,fp,i+1,r,q,e=>by
  obtain⟨y,ys,e0,q⟩:=q;obtain⟨v,a,b,g1,g2,g3,g4⟩:=RepE.take q (i:=i) (r:=r) (by simpa using e);subst e0;exact⟨v,a,b,by simpa using g1,g2,⟨y,ys,rfl,g3⟩,g4⟩
 |some r'::es,vs,fp,i+1,r,q,e=>by
  obtain⟨y,ys,e0,v',a',b',e1,e2,r1,r2⟩:=q;obtain⟨v,a,b,g1,g2,g3,g4⟩:=RepE.take r2 (i:=i) (r:=r) (by simpa using e);subst e0;refine⟨v,a,a'++b,by simpa using g1,g2,⟨y,ys,rfl,v',a',b,e1,rfl,r1,g3⟩,?_⟩;rw[e2];refine(adN a' g4).trans ?_;rw[<-aaa,<-aaa];exact adz b adO
theorem RepE.put:∀{es:Env}{vs:List (Option V)}{b:List WP}{i:Nat}{r:R}{v:V}{a:List WP},RepE K G H es vs b->es[i]?=some none->RepO K G H r.1 r.2 v a->
  ∃fp,RepE K G H (es.set i (some r)) (vs.set i (some v)) fp/\fp.Perm (a++b)
 |[],_,_,_,_,_,_,_,e,_=>by simp at e
 |none::es,vs,b,0,r,v,a,q,e,ro=>by
  obtain⟨y,ys,e0,q⟩:=q;subst e0;exact⟨a++b,⟨some v,ys,rfl,v,a,b,rfl,rfl,ro,q⟩,.refl _⟩
 |some r'::es,vs,b,0,r,v,a,q,e,ro=>by simp at e
 |none::es,vs,b,i+1,r,v,a,q,e,ro=>by
  obtain⟨y,ys,e0,q⟩:=q;obtain⟨fp,g1,g2⟩:=RepE.put q (i:=i) (r:=r) (by simpa using e) ro;subst e0;exact⟨fp,⟨y,_,rfl,g1⟩,g2⟩
 |some r'::es,vs,b,i+1,r,v,a,q,e,ro=>by
  obtain⟨y,ys,e0,v',a',b',e1,e2,r1,r2⟩:=q;obtain⟨fp,g1,g2⟩:=RepE.put r2 (i:=i) (r:=r) (by simpa using e) ro;subst e0;refine⟨a'++fp,⟨y,_,rfl,v',a',fp,e1,rfl,r1,g1⟩,?_⟩;rw[e2];refine(adN a' g2).trans ?_;rw[<-aaa,<-aaa];exact adz b' adO
structure Rel(K:W.Frag)(G H:Hp)(es:Env)(vs:List (Option V))(fp:List WP):Prop where
 rep:RepE K G H es vs fp
 nd:fp.Nodup
 gn:∀p∈fp,G p=none
 gh:Same G H
structure Step(G H:Hp)(fp:List WP)(G' H':Hp)(L9:List WP):Prop where
 gg:Same G G'
 keep:∀q u,H q=some u->q∉fp->H' q=some u
 fpn:∀q∈L9,q∈fp\/H q=none
 gnew:∀q u,G' q=some u->G q=some u\/q∈fp\/H q=none\/UU u=true/\H q=some u
 there:∀q u,H q=some u->∃u',H' q=some u'
theorem Step.refl{fp:List WP}:Step G H fp G H fp:=⟨.refl _,λ_ _ h _=>h,λ_ h=>.inl h,λ_ _ h=>.inl h,λ_ u h=>⟨u,h⟩⟩
theorem Step.trans{G1 H1 G2 H2:Hp}{fp Mt NK:List WP}(a:Step G H fp G1 H1 Mt)(b:Step G1 H1 Mt G2 H2 NK):Step G H fp G2 H2 NK:=by
 refine⟨a.gg.trans b.gg,λq u h n=>?_,λq hq=>?_,λq u hq=>?_,λq u h=>?_⟩
 .refine b.keep q u (a.keep q u h n) λhq=>?_
  rcases a.fpn q hq with z|z
  .exact n z
  .rw[z]at h;cases h
 .rcases b.fpn q hq with z|z
  .exact a.fpn q z
  .cases e:H q with
   |none=>exact .inr rfl
   |some u=>
    obtain⟨u',e'⟩:=a.there q u e;rw[z]at e';cases e'
 .rcases b.gnew q u hq with z|z|z|⟨t,z⟩
  .exact a.gnew q u z
  .exact .inr ((a.fpn q z).imp_right .inl)
  .cases e:H q with
   |none=>exact .inr (.inr (.inl rfl))
   |some u=>
    obtain⟨u',e'⟩:=a.there q u e;rw[z]at e';cases e'
  .cases e:H q with
   |none=>exact .inr (.inr (.inl rfl))
   |some u2=>
    by_cases hf:q∈fp
    .exact .inr (.inl hf)
    .rw[a.keep q u2 e hf]at z;cases z;exact .inr (.inr (.inr ⟨t,rfl⟩))
 .obtain⟨u',h'⟩:=a.there q u h;exact b.there q u' h'
theorem Step.wide{L9 Zj:List WP}(a:Step G H fp G' H' L9)(h:∀q∈fp,q∈fq)(h':∀q∈Zj,q∈L9\/q∈fq):Step G H fq G' H' Zj:=
 ⟨a.gg,λq u e n=>a.keep q u e λz=>n (h q z),λq hq=>(h' q hq).elim (λz=>(a.fpn q z).imp_left (h q)) .inl,λq u e=>(a.gnew q u e).imp_right (Or.imp_left (h q)),a.there⟩
theorem Rel.perm(r:RepE K G H es vs fq)(nd:fp.Nodup)(gn:∀p∈fp,G p=none)(gh:Same G H)(h:fp.Perm fq):Rel K G H es vs fq:=
 ⟨r,h.nodup_iff.mp nd,λp hp=>gn p (h.mem_iff.mpr hp),gh⟩
theorem Rel.frame(q:Rel K G H (some r::es) (some v::vs) fp):
  ∃a b,fp=a++b/\RepO K G H r.1 r.2 v a/\Rel K G H es vs b/\∀(G' H':Hp) (Qs:Env) (Qm:List (Option V)) (b':List WP),Step G H b G' H' b'->Rel K G' H' Qs Qm b'->
   Rel K G' H' (some r::Qs) (some v::Qm) (a++b')/\Step G H (a++b) G' H' (a++b'):=by
 obtain⟨y,ys,e,v',a,b,e1,e2,r1,r2⟩:=q.rep;cases e;cases e1;subst e2;have nd:=aap.mp q.nd;refine⟨a,b,rfl,r1,⟨r2,nd.2.1,λp hp=>q.gn p (ZK _ hp),q.gh⟩,λG' H' Qs Qm b' st k=>?_⟩;have nb:∀p∈a,p∉b:=λp hp hb=>nd.2.2 p hp p hb rfl
 have same:∀p∈a,H' p=H p:=λp hp=>by
  obtain⟨u,hu⟩:=r1.live p hp;rw[hu];exact st.keep p u hu (nb p hp)
 refine⟨⟨⟨some v,Qm,rfl,v,a,b',rfl,rfl,r1.step st.gg same,k.rep⟩,?_,λp hp=>?_,k.gh⟩,st.wide (λp hp=>ZK _ hp) λp hp=>?_⟩
 .rw[aap];refine⟨nd.1,k.nd,λp hp z hz e=>?_⟩;subst e;obtain⟨u,hu⟩:=r1.live p hp;rcases st.fpn p hz with z|z
  .exact nb p hp z
  .rw[z]at hu;cases hu
 .rcases aag.mp hp with hp|hp
  .cases e:G' p with
   |none=>rfl
   |some u=>
    exfalso;obtain⟨u',hu⟩:=r1.live p hp;rcases st.gnew p u e with z|z|z|⟨t,z⟩
    .rw[q.gn p (ZX _ hp)]at z;cases z
    .exact nb p hp z
    .rw[z]at hu;cases hu
    .obtain⟨u2,h2,hm⟩:=r1.mut p hp;rw[z]at h2;cases h2;cases u with
     |tup _=>cases hm
     |frz _ _=>cases hm
     |_=>cases t
  .exact k.gn p hp
 .rcases aag.mp hp with hp|hp
  .exact .inr (ZX _ hp)
  .exact .inl hp
theorem Rel.freeze(q:Rel K G H (some r::es) (some v::vs) fp):
  ∃G' b,Rep K G' r.2 v/\Rel K G' H es vs b/\Step G H fp G' H b:=by
 obtain⟨y,ys,e,v',a,b,e1,e2,r1,r2⟩:=q.rep;cases e;cases e1;subst e2;have nd:=aap.mp q.nd;have nb:∀p∈a,p∉b:=λp hp hb=>nd.2.2 p hp p hb rfl
 have hg:Same G (λp=>if p∈a then H p else G p):=λp u e=>by
  show(if p∈a then H p else G p)=some u;by_cases hp:p∈a
  .rw[ZY hp];exact q.gh p u e
  .rw[Z6 hp];exact e
 refine⟨λp=>if p∈a then H p else G p,b,r1.frozen hg λp hp u e=>?_,⟨r2.step hg λ_ _=>rfl,nd.2.1,λp hp=>?_,λp u e=>?_⟩,⟨hg,λ_ _ e _=>e,λp hp=>.inl (ZK _ hp),λp u e=>?_,λ_ u e=>⟨u,e⟩⟩⟩
 .show(if p∈a then H p else G p)=some u;rw[ZY hp];exact e
 .show(if p∈a then H p else G p)=none;rw[Z6 (λz=>nb p z hp)];exact q.gn p (ZK _ hp)
 .have e:(if p∈a then H p else G p)=some u:=e;by_cases hp:p∈a
  .rw[ZY hp]at e;exact e
  .rw[Z6 hp]at e;exact q.gh p u e
 .have e:(if p∈a then H p else G p)=some u:=e;by_cases hp:p∈a
  .exact .inr (.inl (ZX _ hp))
  .rw[Z6 hp]at e;exact .inl e
end
variable{d:D}{a:List WP}{ds:List D}{i:Nat}
section
variable{G G' H H':Hp}
theorem sX:∀{ds:List D}{xs:List V}{fp:List WP},AllO (RepO K G H .f) ds xs fp<->Reps K G ds xs/\fp=[]
 |[],xs,fp=>by simp![AllO,Reps]
 |d::ds,xs,fp=>by
  simp![AllO,Reps,RepO];constructor
  .rintro⟨y,ys,a,b,e1,e2,⟨r,e3⟩,q⟩;obtain⟨q1,q2⟩:=sX.mp q;subst e3;subst q2;exact⟨⟨y,ys,e1,r,q1⟩,e2⟩
  .rintro⟨⟨y,ys,e1,r,q1⟩,e⟩;exact⟨y,ys,[],[],e1,e,⟨r,rfl⟩,sX.mpr ⟨q1,rfl⟩⟩
theorem jo:RepO K G H .f d v a<->Rep K G d v/\a=[]:=by simp![RepO]
theorem jQ:RepO K G H (.l .f) (.lst ds) v a<->∃p xs,v=.ref p/\H p=some (.lst xs)/\a=[p]/\Reps K G ds xs:=by
 rw[RepO];constructor
 .rintro⟨p,xs,b,e,q,e2,r⟩;obtain⟨r',eb⟩:=sX.mp r;subst eb;exact⟨p,xs,e,q,e2,r'⟩
 .rintro⟨p,xs,e,q,e2,r⟩;exact⟨p,xs,[],e,q,e2,sX.mpr ⟨r,rfl⟩⟩
theorem Reps.length:∀{ds:List D}{xs:List V},Reps K G ds xs->xs.length=ds.length
 |[],xs,r=>by simp![Reps]at r;rw[r];rfl
 |d::ds,xs,r=>by
  simp![Reps]at r;obtain⟨y,ys,e,_,q⟩:=r;rw[e,ZR,ZR,Reps.length q]
theorem Reps.get:∀{ds:List D}{xs:List V}{i:Nat}{d:D},Reps K G ds xs->ds[i]?=some d->∃v,xs[i]?=some v/\Rep K G d v
 |[],_,_,_,_,e=>by simp at e
 |d'::ds,xs,0,d,r,e=>by
  simp![Reps]at r;obtain⟨y,ys,e1,q,_⟩:=r;simp at e;subst e;exact⟨y,by rw[e1];rfl,q⟩
 |d'::ds,xs,i+1,d,r,e=>by
  simp![Reps]at r;obtain⟨y,ys,e1,_,q⟩:=r;obtain⟨v,a,b⟩:=Reps.get q (i:=i) (d:=d) (by simpa using e);exact⟨v,by rw[e1];simpa using a,b⟩
theorem Reps.app:∀{ds es:List D}{xs ys:List V},Reps K G ds xs->Reps K G es ys->Reps K G (ds++es) (xs++ys)
 |[],_,_,_,r,q=>by simp![Reps]at r;rw[r];exact q
 |d::ds,es,xs,ys,r,q=>by
  simp![Reps]at r;obtain⟨z,zs,e,r1,r2⟩:=r;rw[e];simp![abo,Reps];exact⟨z,_,rfl,r1,r2.app q⟩
theorem Reps.one(r:Rep K G d v):Reps K G [d] [v]:=by
 simp![Reps];exact⟨v,[],rfl,r,rfl⟩
theorem Reps.nil:Reps K G [] []:=by simp![Reps]
theorem Reps.cons(r:Rep K G d v)(q:Reps K G ds xs):Reps K G (d::ds) (v::xs):=by
 simp![Reps];exact⟨v,xs,rfl,r,q⟩
theorem Reps.cons_iff:Reps K G (d::ds) (v::xs)<->Rep K G d v/\Reps K G ds xs:=by
 simp![Reps];constructor
 .rintro⟨y,ys,e,r,q⟩;cases e;exact⟨r,q⟩
 .rintro⟨r,q⟩;exact⟨v,xs,rfl,r,q⟩
theorem Reps.take:∀{ds:List D}{xs:List V}(n:Nat),Reps K G ds xs->Reps K G (ds.take n) (xs.take n)
 |_,_,0,_=>by rw[ac7,ac7];exact Reps.nil
 |[],xs,n+1,r=>by simp![Reps]at r;rw[r];exact Reps.nil
 |d::ds,xs,n+1,r=>by
  simp![Reps]at r;obtain⟨y,ys,e,r1,r2⟩:=r;rw[e,acR,acR];exact .cons r1 (r2.take n)
theorem Reps.drop:∀{ds:List D}{xs:List V}(n:Nat),Reps K G ds xs->Reps K G (ds.drop n) (xs.drop n)
 |_,_,0,r=>r
 |[],xs,n+1,r=>by simp![Reps]at r;rw[r];exact Reps.nil
 |d::ds,xs,n+1,r=>by
  simp![Reps]at r;obtain⟨y,ys,e,r1,r2⟩:=r;rw[e,List.drop_succ_cons,List.drop_succ_cons];exact r2.drop n
theorem Reps.ofAll(hl:xs.length=ds.length)(h:∀(i:Nat) (d:D) (v:V),ds[i]?=some d->xs[i]?=some v->Rep K G d v):Reps K G ds xs:=by
 induction ds generalizing xs with
 |nil=>simp![Reps];exact aaC hl
 |cons d ds ih=>
  cases xs with
  |nil=>simp at hl
  |cons v xs=>exact .cons (h 0 d v rfl rfl) (ih (by simpa using hl) λi d v a b=>h (i+1) d v (by simpa using a) (by simpa using b))
theorem Step.cut(h:∀q∈fq,q∈fp):Step G H fp G H fq:=⟨.refl _,λ_ _ e _=>e,λq hq=>.inl (h q hq),λ_ _ e=>.inl e,λ_ u e=>⟨u,e⟩⟩
theorem Rel.drop{y:Option V}(q:Rel K G H (some r::es) (y::vs) fp):∃b,Rel K G H es vs b/\Step G H fp G H b:=by
 obtain⟨y,ys,e,v',a,b,e1,e2,r1,r2⟩:=q.rep;cases e;cases e1;subst e2;have nd:=aap.mp q.nd;exact⟨b,⟨r2,nd.2.1,λp hp=>q.gn p (ZK _ hp),q.gh⟩,Step.cut λp hp=>ZK _ hp⟩
theorem Rel.top(q:Rel K G H (some r::es) (some v::vs) fp):Rep K H r.2 v:=by
 obtain⟨y,ys,e,v',a,b,e1,e2,r1,r2⟩:=q.rep;cases e;cases e1;exact r1.frozen q.gh λp hp u e=>e
theorem Rel.out(q:Rel K G H es vs fp)(e:es[i]?=some (some r)):∃v fq,vs[i]?=some (some v)/\Rel K G H (some r::es.set i none) (some v::vs) fq/\Step G H fp G H fq/\Step G H fq G H fp:=by
 obtain⟨v,a,b,e1,r1,r2,pm⟩:=q.rep.take e;exact⟨v,a++b,e1,Rel.perm ⟨some v,vs,rfl,v,a,b,rfl,rfl,r1,r2⟩ q.nd q.gn q.gh pm,Step.cut λp hp=>pm.mem_iff.mpr hp,Step.cut λp hp=>pm.mem_iff.mp hp⟩
theorem Rel.view(q:Rel K G H es vs fp)(e:es[i]?=some (some r)):∃v,vs[i]?=some (some v)/\Rep K H r.2 v:=by
 obtain⟨v,fq,e1,r1,_⟩:=q.out e;exact⟨v,e1,r1.top⟩
theorem og{α:Type}{l:List α}{x:α}(h:l[i]?=some x):l.set i x=l:=by
 apply ack;intro j;by_cases e:i=j
 .subst e;rw[abh (Z1.mp h).1,h]
 .rw[abZ e]
theorem Rel.store(q:Rel K G H (some r::es) (some v::vs) fp)(hi:i<es.length):∃fq,Rel K G H (es.set i (some r)) (vs.set i (some v)) fq/\Step G H fp G H fq:=by
 obtain⟨y,ys,e,v',a,b,e1,e2,r1,r2⟩:=q.rep;cases e;cases e1;subst e2;obtain⟨c,hc⟩:∃c,es[i]?=some c:=⟨_,ZW hi⟩
 have nd:=aap.mp q.nd;have key:∃b',RepE K G H (es.set i none) vs b'/\(∀p∈b',p∈b)/\b'.Nodup:=by
  cases c with
  |none=>exact⟨b,by rw[og hc];exact r2,λ_ h=>h,nd.2.1⟩
  |some r'=>
   obtain⟨v2,a2,b2,_,_,g,pm⟩:=r2.take hc;refine⟨b2,g,λp hp=>pm.mem_iff.mpr (ZK _ hp),?_⟩;exact(aap.mp (pm.nodup_iff.mp nd.2.1)).2.1
 obtain⟨b',g,sub,ndb⟩:=key;obtain⟨fq,g2,pm⟩:=g.put (i:=i) (r:=r) (v:=v) (by rw[abh hi]) r1;rw[acu]at g2;have OT:(a++b').Nodup:=by
  rw[aap];exact⟨nd.1,ndb,λp hp z hz=>nd.2.2 p hp z (sub z hz)⟩
 refine⟨fq,Rel.perm g2 OT (λp hp=>?_) q.gh pm.symm,Step.cut λp hp=>?_⟩
 .refine q.gn p ?_;rcases aag.mp hp with hp|hp
  .exact ZX _ hp
  .exact ZK _ (sub p hp)
 .rcases aag.mp (pm.mem_iff.mp hp) with hp|hp
  .exact ZX _ hp
  .exact ZK _ (sub p hp)
theorem Rel.back(q:Rel K G H (some r::es) (some v::vs) fp)(hi:i<es.length)(hv:vs[i]?=some (some v)):∃fq,Rel K G H (es.set i (some r)) vs fq/\Step G H fp G H fq:=by
 obtain⟨fq,g,st⟩:=q.store hi;rw[og hv]at g;exact⟨fq,g,st⟩
theorem Rel.freezeAt(q:Rel K G H es vs fp)(e:es[i]?=some (some r)):∃v G' fq,vs[i]?=some (some v)/\Rep K G' r.2 v/\Rel K G' H (es.set i (some (.f,r.2))) vs fq/\Step G H fp G' H fq:=by
 obtain⟨v,fq,ev,g,st,_⟩:=q.out e;obtain⟨G',b,rv,g2,Md⟩:=g.freeze;have g3:Rel K G' H (some (.f,r.2)::es.set i none) (some v::vs) b:=by
  refine⟨⟨some v,vs,rfl,v,[],b,rfl,rfl,?_,g2.rep⟩,g2.nd,g2.gn,g2.gh⟩;exact jo.mpr ⟨rv,rfl⟩
 obtain⟨fz,g4,Oc⟩:=g3.back (i:=i) (by rw[abW];exact(Z1.mp e).1) ev;rw[acu]at g4;exact⟨v,G',fz,ev,rv,g4,st.trans (Md.trans Oc)⟩
theorem Rel.push(q:Rel K G H es vs fp)(r:Rep K G d v):Rel K G H (some (.f,d)::es) (some v::vs) fp:=by
 refine⟨⟨some v,vs,rfl,v,[],fp,rfl,rfl,?_,q.rep⟩,q.nd,q.gn,q.gh⟩;exact jo.mpr ⟨r,rfl⟩
theorem Rel.newF(q:Rel K G H es vs fp)(hp:H p=none):Rel K (upd G p u) (upd H p u) es vs fp/\Step G H fp (upd G p u) (upd H p u) fp:=by
 have gp:G p=none:=by
  cases e:G p with
  |none=>rfl
  |some o=>rw[q.gh p o e]at hp;cases hp
 have np:p∉fp:=λz=>by
  obtain⟨u,e⟩:=q.rep.live p z;rw[hp]at e;cases e
 have sg:Same G (upd G p u):=λb o e=>by rw[aU (bL e gp)];exact e
 have sh:Same H (upd H p u):=λb o e=>by rw[aU (bL e hp)];exact e
 refine⟨⟨q.rep.step sg λz hz=>aU λe=>np (e▸hz),q.nd,λz hz=>?_,λb o e=>?_⟩,⟨sg,λb o e _=>sh b o e,λ_ h=>.inl h,λb o e=>?_,λb o e=>⟨o,sh b o e⟩⟩⟩
 .have:z≠p:=λe=>np (e▸hz)
  rw[aU this];exact q.gn z hz
 .by_cases hb:b=p
  .subst hb;rw[bO]at e |-;exact e
  .rw[aU hb]at e |-;exact q.gh b o e
 .by_cases hb:b=p
  .subst hb;exact .inr (.inr (.inl hp))
  .rw[aU hb]at e;exact .inl e
theorem Rel.newL(q:Rel K G H es vs fp)(hp:H p=none)(r:Reps K G ds xs):
  Rel K G (upd H p (.lst xs)) (some (.l .f,.lst ds)::es) (some (.ref p)::vs) (p::fp)/\Step G H fp G (upd H p (.lst xs)) (p::fp):=by
 have gp:G p=none:=by
  cases e:G p with
  |none=>rfl
  |some o=>rw[q.gh p o e]at hp;cases hp
 have np:p∉fp:=λz=>by
  obtain⟨u,e⟩:=q.rep.live p z;rw[hp]at e;cases e
 have sh:Same H (upd H p (.lst xs)):=λb o e=>by rw[aU (bL e hp)];exact e
 refine⟨⟨⟨some (.ref p),vs,rfl,.ref p,[p],fp,rfl,rfl,jQ.mpr ⟨p,xs,rfl,bO,rfl,r⟩,q.rep.step (.refl _) λz hz=>aU λe=>np (e▸hz)⟩,aas.mpr ⟨np,q.nd⟩,λz hz=>?_,λb o e=>?_⟩,
  ⟨.refl _,λb o e _=>sh b o e,λb hb=>?_,λb o e=>.inl e,λb o e=>⟨o,sh b o e⟩⟩⟩
 .rcases ZJ.mp hz with rfl|hz
  .exact gp
  .exact q.gn z hz
 .exact sh b o (q.gh b o e)
 .rcases ZJ.mp hb with rfl|hb
  .exact .inr hp
  .exact .inl hb
theorem Rel.chg{ds':List D}(q:Rel K G H es vs fp)(e:es[i]?=some (some (.l .f,.lst ds))):∃p xs,vs[i]?=some (some (.ref p))/\H p=some (.lst xs)/\Reps K G ds xs/\
  ∀OS,Reps K G ds' OS->∃fq,Rel K G (upd H p (.lst OS)) (es.set i (some (.l .f,.lst ds'))) vs fq/\Step G H fp G (upd H p (.lst OS)) fq:=by
 obtain⟨v,fq,ev,g,st,Pf⟩:=q.out e;obtain⟨y,ys,e0,v',a,b,e1,e2,r1,r2⟩:=g.rep;cases e0;cases e1;obtain⟨p,xs,e3,hp,e4,rs⟩:=jQ.mp r1;subst e3;subst e4;subst e2;have nd:=aas.mp (show(p::b).Nodup from g.nd);refine⟨p,xs,ev,hp,rs,λOS Oy=>?_⟩;have g2:Rel K G (upd H p (.lst OS)) (some (.l .f,.lst ds')::es.set i none) (some (.ref p)::vs) (p::b):=by
  refine⟨⟨some (.ref p),vs,rfl,.ref p,[p],b,rfl,rfl,jQ.mpr ⟨p,OS,rfl,bO,rfl,Oy⟩,r2.step (.refl _) λz hz=>aU λe=>nd.1 (e▸hz)⟩,g.nd,g.gn,λz o ez=>?_⟩;have:z≠p:=λw=>by
   subst w;rw[g.gn z ZI]at ez;cases ez
  rw[aU this];exact g.gh z o ez
 have Wi:Step G H (p::b) G (upd H p (.lst OS)) (p::b):=by
  refine⟨.refl _,λz o ez nz=>?_,λz hz=>.inl hz,λz o ez=>.inl ez,λz o ez=>?_⟩
  .have:z≠p:=λw=>nz (by rw[w];exact ZI)
   rw[aU this];exact ez
  .by_cases w:z=p
   .subst w;exact⟨_,bO⟩
   .exact⟨o,by rw[aU w];exact ez⟩
 obtain⟨fz,g3,Nj⟩:=g2.back (i:=i) (by rw[abW];exact(Z1.mp e).1) ev;rw[acu]at g3;exact⟨fz,g3,st.trans (Wi.trans Nj)⟩
end
mutual
def fe:D->Bool
 | .tup ds=>flatDs ds
 | .lst _=>false
 | .dct _ _ _=>false
 |_=>true
def flatDs:List D->Bool
 |[]=>true
 |d::ds=>fe d&&flatDs ds
end
mutual
def cO:O->D->Bool
 | .f,d=>fe d
 | .l c,.lst ds=>ds.all (cO c)
 | .t cs,.tup ds=>sY cs ds
 | .d,.dct _ _ vs=>flatDs vs
 | .pin _ c,d=>cO c d
 |_,_=>false
def sY:List O->List D->Bool
 |[],[]=>true
 |c::cs,d::ds=>cO c d&&sY cs ds
 |_,_=>false
end
def frz:Option R->Option R:=Option.map λr=>(.f,r.2)
theorem eU:∀ds,flatDs ds=ds.all fe
 |[]=>rfl
 |d::ds=>by rw[flatDs,adp,eU ds]
section
variable{G G' G2 G3 H H' H2:Hp}
mutual
theorem Rep.flat(h:∀p u,UU u=true->G2 p=some u->G3 p=some u):∀{d:D}{v:V},fe d=true->Rep K G2 d v->Rep K G3 d v
 | .non,_,_,r=>by simpa only[Rep] using r
 | .bl _,_,_,r=>by simpa only[Rep] using r
 | .int _,_,_,r=>by simpa only[Rep] using r
 | .str _,_,_,r=>by simpa only[Rep] using r
 | .tup ds,_,e,r=>by
  simp![Rep]at r |-;simp![fe]at e;obtain⟨p,xs,ev,q,rs⟩:=r;exact⟨p,xs,ev,h _ _ rfl q,Reps.flat h e rs⟩
 | .lst ds,_,e,r=>by simp![fe]at e;cases e
 | .dct _ _ _,_,e,r=>by simp![fe]at e;cases e
theorem Reps.flat(h:∀p u,UU u=true->G2 p=some u->G3 p=some u):∀{ds:List D}{xs:List V},flatDs ds=true->Reps K G2 ds xs->Reps K G3 ds xs
 |[],_,_,r=>by simpa only[Reps] using r
 |d::ds,_,e,r=>by
  simp![Reps]at r |-;simp![flatDs,ZP]at e;obtain⟨y,ys,ev,r1,r2⟩:=r;exact⟨y,ys,ev,Rep.flat h e.1 r1,Reps.flat h e.2 r2⟩
end
theorem AllO.clean{P P':D->V->List WP->Prop}{c:D->Bool}:∀{ds:List D}{xs:List V}{fp:List WP},(∀d v a,c d=true->P d v a->P' d v a)->ds.all c=true->AllO P ds xs fp->AllO P' ds xs fp
 |[],_,_,_,_,r=>r
 |d::ds,xs,fp,h,e,r=>by
  obtain⟨y,ys,a,b,e1,e2,p,q⟩:=r;rw[adp,ZP]at e;exact⟨y,ys,a,b,e1,e2,h _ _ _ e.1 p,AllO.clean h e.2 q⟩
mutual
theorem RepO.clean(h:∀p u,UU u=true->G2 p=some u->G3 p=some u):∀{o:O}{d:D}{v:V}{fp:List WP},cO o d=true->RepO K G2 H o d v fp->RepO K G3 H o d v fp
 | .f,d,v,fp,e,r=>by
  simp![RepO]at r |-;simp![cO]at e;exact⟨r.1.flat h e,r.2⟩
 | .pin p c,d,v,fp,e,r=>by
  simp![RepO]at r |-;simp![cO]at e;exact⟨r.1,RepO.clean h e r.2⟩
 | .l c,.lst ds,v,fp,e,r=>by
  rw[RepO]at r |-;rw[cO]at e;obtain⟨p,xs,L9,ev,q,e2,a⟩:=r;exact⟨p,xs,L9,ev,q,e2,AllO.clean (λd v a=>RepO.clean h) e a⟩
 | .t cs,.tup ds,v,fp,e,r=>by
  rw[RepO]at r |-;rw[cO]at e;obtain⟨p,xs,ev,q,a⟩:=r;exact⟨p,xs,ev,h _ _ rfl q,RepT.clean h e a⟩
 | .d,.dct tk ks vs,v,fp,e,r=>by
  rw[RepO]at r |-;rw[cO]at e;obtain⟨p,xs,o,ev,q,dd,e2,rs⟩:=r;exact⟨p,xs,o,ev,q,dd,e2,rs.flat h e⟩
 | .l _,.non,_,_,_,r | .l _,.bl _,_,_,_,r | .l _,.int _,_,_,_,r | .l _,.str _,_,_,_,r | .l _,.tup _,_,_,_,r | .l _,.dct _ _ _,_,_,_,r=>by simp![RepO]at r
 | .t _,.non,_,_,_,r | .t _,.bl _,_,_,_,r | .t _,.int _,_,_,_,r | .t _,.str _,_,_,_,r | .t _,.lst _,_,_,_,r | .t _,.dct _ _ _,_,_,_,r=>by simp![RepO]at r
 | .d,.non,_,_,_,r | .d,.bl _,_,_,_,r | .d,.int _,_,_,_,r | .d,.str _,_,_,_,r | .d,.tup _,_,_,_,r | .d,.lst _,_,_,_,r=>by simp![RepO]at r
theorem RepT.clean(h:∀p u,UU u=true->G2 p=some u->G3 p=some u):∀{cs:List O}{ds:List D}{xs:List V}{fp:List WP},sY cs ds=true->RepT K G2 H cs ds xs fp->RepT K G3 H cs ds xs fp
 |[],[],_,_,_,r=>by simpa only[RepT] using r
 |c::cs,d::ds,xs,fp,e,r=>by
  rw[RepT]at r |-;rw[sY,ZP]at e;obtain⟨y,ys,a,b,e1,e2,r1,r2⟩:=r;exact⟨y,ys,a,b,e1,e2,RepO.clean h e.1 r1,RepT.clean h e.2 r2⟩
 |[],_::_,_,_,_,r=>by simp![RepT]at r
 |_::_,[],_,_,_,r=>by simp![RepT]at r
end
theorem RepE.frz(h:Same G G'):∀{es:Env}{vs:List (Option V)}{fp:List WP},(∀p∈fp,∀u,H p=some u->G' p=some u)->RepE K G H es vs fp->RepE K G' H' (es.map PV.frz) vs []
 |[],_,_,_,r=>⟨r.1,rfl⟩
 |none::es,vs,fp,hk,r=>by
  obtain⟨y,ys,e,r⟩:=r;exact⟨y,ys,e,RepE.frz h hk r⟩
 |some r::es,vs,fp,hk,q=>by
  obtain⟨y,ys,e,v,a,b,e1,e2,r1,r2⟩:=q;subst e2;exact⟨y,ys,e,v,[],[],e1,rfl,jo.mpr ⟨r1.frozen h (λp hp=>hk p (ZX _ hp)),rfl⟩,RepE.frz h (λp hp=>hk p (ZK _ hp)) r2⟩
theorem RepE.rep(h:Same G G'):∀{es:Env}{vs:List (Option V)}{fp:List WP}{i:Nat}{r:R}{v:V},(∀p∈fp,∀u,H p=some u->G' p=some u)->RepE K G H es vs fp->es[i]?=some (some r)->vs[i]?=some (some v)->Rep K G' r.2 v:=λ{es vs fp i r v} hk q e ev=>by
 obtain⟨v',a,b,e1,r1,_,pm⟩:=q.take e;rw[ev]at e1;cases e1;exact r1.frozen h λp hp=>hk p (pm.mem_iff.mpr (ZX _ hp))
theorem Rel.lend(q:Rel K G H es vs fp):∃G1,Same G G1/\Same G1 H/\(∀(i:Nat) (r:R) (v:V),es[i]?=some (some r)->vs[i]?=some (some v)->Rep K G1 r.2 v)/\
  RepE K G1 H (es.map PV.frz) vs []/\
  ∀(H2 G2:Hp) (NK:List WP) (r:R) (v:V),Step G1 H [] G2 H2 NK->Rel K G2 H2 [some r] [some v] NK->
   (cO r.1 r.2=true->∃G3 Qh,Step G H fp G3 H2 Qh/\Rel K G3 H2 (some r::es) (some v::vs) Qh)/\
   ∃G3 Qh,Step G H fp G3 H2 Qh/\Rel K G3 H2 (some r::es.map PV.frz) (some v::vs) Qh:=by
 have hg:Same G (λp=>if p∈fp then H p else G p):=λp u e=>by
  show(if p∈fp then H p else G p)=some u;by_cases hp:p∈fp
  .rw[ZY hp];exact q.gh p u e
  .rw[Z6 hp];exact e
 have hh:Same (λp=>if p∈fp then H p else G p) H:=λp u e=>by
  have e:(if p∈fp then H p else G p)=some u:=e;by_cases hp:p∈fp
  .rw[ZY hp]at e;exact e
  .rw[Z6 hp]at e;exact q.gh p u e
 have hk:∀p∈fp,∀u,H p=some u->(λp=>if p∈fp then H p else G p) p=some u:=λp hp u e=>by
  show(if p∈fp then H p else G p)=some u;rw[ZY hp];exact e
 refine⟨λp=>if p∈fp then H p else G p,hg,hh,λi r v e ev=>q.rep.rep hg hk e ev,q.rep.frz hg hk,λH2 G2 NK r v st k=>?_⟩;obtain⟨y,ys,e0,v',a,b,e1,e2,r1,r2⟩:=k.rep;cases e0;cases e1;obtain⟨_,e3⟩:=r2;subst e3;rw[aak]at e2;subst e2;have fresh:∀p∈NK,H p=none:=λp hp=>by
  rcases st.fpn p hp with z|z
  .cases z
  .exact z
 have kept:∀p∈fp,H2 p=H p:=λp hp=>by
  obtain⟨u,hu⟩:=q.rep.live p hp;rw[hu];exact st.keep p u hu (by simp)
 refine⟨λcl=>?_,⟨G2,NK,⟨hg.trans st.gg,λp u e n=>st.keep p u e (by simp),λp hp=>.inr (fresh p hp),λp u e=>?_,st.there⟩,?_⟩⟩
 .have apart:∀p∈NK,p∉fp:=λp hp hf=>by
   obtain⟨u,hu⟩:=q.rep.live p hf;rw[fresh p hp]at hu;cases hu
  have g3:Same G (λp=>if p∈fp then none else G2 p):=λp u e=>by
   show(if p∈fp then none else G2 p)=some u;rw[Z6 (λz=>by rw[q.gn p z]at e;cases e)];exact st.gg p u (hg p u e)
  refine⟨λp=>if p∈fp then none else G2 p,NK++fp,⟨g3,λp u e n=>st.keep p u e (by simp),λp hp=>?_,λp u e=>?_,st.there⟩,⟨⟨some v,vs,rfl,v,NK,fp,rfl,rfl,r1.clean (λp u t e=>?_) cl,q.rep.step g3 kept⟩,?_,λp hp=>?_,λp u e=>?_⟩⟩
  .rcases aag.mp hp with hp|hp
   .exact .inr (fresh p hp)
   .exact .inl hp
  .have e:(if p∈fp then none else G2 p)=some u:=e;by_cases hp:p∈fp
   .rw[ZY hp]at e;cases e
   .rw[Z6 hp]at e;rcases st.gnew p u e with z|z|z
    .have z:(if p∈fp then H p else G p)=some u:=z;rw[Z6 hp]at z;exact .inl z
    .cases z
    .exact .inr (.inr z)
  .show(if p∈fp then none else G2 p)=some u;by_cases hp:p∈fp
   .exfalso;obtain⟨u',hu,hm⟩:=q.rep.mut p hp;have:=st.gg p u' (hk p hp u' hu);rw[e]at this;cases this;cases u with
    |lst _=>cases t
    |dK _=>cases t
    |dT _=>cases t
    |_=>cases hm
   .rw[Z6 hp];exact e
  .rw[aap];exact⟨k.nd,q.nd,λp hp z hz e=>apart p hp (e▸hz)⟩
  .show(if p∈fp then none else G2 p)=none;by_cases hf:p∈fp
   .rw[ZY hf]
   .rw[Z6 hf];rcases aag.mp hp with hp|hp
    .exact k.gn p hp
    .exact absurd hp hf
  .have e:(if p∈fp then none else G2 p)=some u:=e;by_cases hp:p∈fp
   .rw[ZY hp]at e;cases e
   .rw[Z6 hp]at e;exact k.gh p u e
 .rcases st.gnew p u e with z|z|z
  .have z:(if p∈fp then H p else G p)=some u:=z;by_cases hp:p∈fp
   .exact .inr (.inl hp)
   .rw[Z6 hp]at z;exact .inl z
  .cases z
  .exact .inr (.inr z)
 .refine⟨⟨some v,vs,rfl,v,NK,[],rfl,(aak _).symm,r1,q.rep.frz (hg.trans st.gg) λp hp u e=>st.gg p u (hk p hp u e)⟩,k.nd,k.gn,k.gh⟩
end
end PV
open PySem PySem.Spec PyProof.Rows L2 NX
namespace PV
def Res.bind{α β:Type}:Res α->(α->Res β)->Res β
 | .ok a,f=>f a
 | .exc c,_=>.exc c
 | .bad,_=>.bad
inductive BindOk{α β:Type}(x:Res α)(f:α->Res β)(b:β):Prop
 |mk (a:α) (h:x=.ok a) (k:f a=.ok b):BindOk x f b
variable{α:Type}
theorem aB{β:Type}{x:Res α}{f:α->Res β}{b:β}(h:x.bind f=.ok b):BindOk x f b:=by
 cases x with
 |ok a=>exact⟨a,rfl,h⟩
 |exc c=>cases h
 |bad=>cases h
inductive Opd where
 |val (d:D)|var (i:Nat)
def OpdOk(K:W.Frag)(G:Hp)(σ:L2.St):Opd->V->Prop
 | .val d,v=>Rep K G d v
 | .var i,v=>σ[i]?=some (some v)
theorem OpdOk.mono{K:W.Frag}{G G':Hp}{σ:L2.St}{o:Opd}{v:V}(h:Same G G')(r:OpdOk K G σ o v):OpdOk K G' σ o v:=by
 cases o with
 |val d=>exact Rep.mono h r
 |var i=>exact r
def pC(K:W.Frag)(G:Hp)(σ:L2.St):List Opd->List V->Prop
 |[],vs=>vs=[]
 |o::os,vs=>∃y ys,vs=y::ys/\OpdOk K G σ o y/\pC K G σ os ys
def AO:O->Bool
 | .f=>true
 | .l .f=>true
 | .d=>true
 | .pin _ .f=>true
 | .pin _ (.l .f)=>true
 | .pin _ .d=>true
 |_=>false
def OA(env:PV.Env):Opd->Res D
 | .val d=>.ok d
 | .var i=>match env[i]? with
  |some (some r)=>if AO r.1 then .ok r.2 else .bad
  |_=>.bad
def uP(env:PV.Env):Opd->Res D
 | .val d=>.ok d
 | .var i=>match env[i]? with
  |some (some r)=>.ok r.2
  |_=>.bad
def sZ(env:PV.Env):List Opd->Res (List D)
 |[]=>.ok []
 |o::os=>(OA env o).bind λd=>(sZ env os).bind λds=>.ok (d::ds)
def kA(env:PV.Env):List Opd->Res (List D)
 |[]=>.ok []
 |o::os=>(uP env o).bind λd=>(kA env os).bind λds=>.ok (d::ds)
def Vw(K:W.Frag)(G H:Hp):D->V->Prop
 | .lst ds,v=>∃p xs,v=.ref p/\SqL K H p xs/\Reps K G ds xs
 | .dct tk ks vs,v=>∃p xs o,v=.ref p/\Rd H p o/\DictO o tk ks xs/\Reps K G vs xs
 |d,v=>Rep K G d v
def VN(K:W.Frag)(G H:Hp):List D->List V->Prop
 |[],vs=>vs=[]
 |d::ds,vs=>∃y ys,vs=y::ys/\Vw K G H d y/\VN K G H ds ys
variable{K:W.Frag}{G H:Hp}{es:PV.Env}{σ:L2.St}{a fp:List WP}{d:D}{v:V}
section
variable{G' H':Hp}
theorem Vw.of(gh:Same G H)(r:Rep K G d v):Vw K G H d v:=by
 cases d with
 |lst ds=>
  rw[Rep]at r;obtain⟨p,xs,e,q,rs⟩:=r;exact⟨p,xs,e,ik gh q,rs⟩
 |dct tk ks vs=>
  rw[Rep]at r;obtain⟨p,xs,o,e,q,dd,rs⟩:=r;exact⟨p,xs,o,e,PV.Rd.mono gh q,dd,rs⟩
 |_=>exact r
theorem Vw.rep(gh:Same G H)(r:Vw K G H d v):Rep K H d v:=by
 cases d with
 |lst ds=>
  obtain⟨p,xs,e,q,rs⟩:=r;rw[Rep];exact⟨p,xs,e,q,rs.mono gh⟩
 |dct tk ks vs=>
  obtain⟨p,xs,o,e,q,dd,rs⟩:=r;rw[Rep];exact⟨p,xs,o,e,q,dd,rs.mono gh⟩
 |non=>exact Rep.mono gh r
 |bl b=>exact Rep.mono gh r
 |int i=>exact Rep.mono gh r
 |str l=>exact Rep.mono gh r
 |tup ds=>exact Rep.mono gh r
theorem RepO.vw0{o:O}(gh:Same G H)(hs:o=.f\/o=.l .f\/o=.d)(r:RepO K G H o d v a):Vw K G H d v:=by
 rcases hs with rfl|rfl|rfl
 .exact Vw.of gh (jo.mp r).1
 .cases d with
  |lst ds=>
   obtain⟨p,xs,e,q,_,rs⟩:=jQ.mp r;exact⟨p,xs,e,SqL.of q,rs⟩
  |_=>simp![RepO]at r
 .cases d with
  |dct tk ks vs=>
   rw[RepO]at r;obtain⟨p,xs,o,e,q,dd,_,rs⟩:=r;exact⟨p,xs,o,e,.inl q,dd,rs⟩
  |_=>simp![RepO]at r
theorem RepO.vw{o:O}(gh:Same G H)(hs:AO o=true)(r:RepO K G H o d v a):Vw K G H d v:=by
 unfold AO at hs;split at hs
 .exact r.vw0 gh (.inl rfl)
 .exact r.vw0 gh (.inr (.inl rfl))
 .exact r.vw0 gh (.inr (.inr rfl))
 .rw[RepO]at r;exact r.2.vw0 gh (.inl rfl)
 .rw[RepO]at r;exact r.2.vw0 gh (.inr (.inl rfl))
 .rw[RepO]at r;exact r.2.vw0 gh (.inr (.inr rfl))
 .cases hs
theorem Rel.vw{o:Opd}{v:V}{d:D}(q:Rel K G H es σ fp)(k:OpdOk K G σ o v)(e:OA es o=.ok d):Vw K G H d v:=by
 cases o with
 |val d'=>
  cases e;exact Vw.of q.gh k
 |var i=>
  unfold OA at e;dsimp only at e;split at e
  .rename_i r hr;split at e
   .rename_i hs;cases e;obtain⟨v',a,b,ev,r1,_⟩:=q.rep.take hr;have k:σ[i]?=some (some v):=k;rw[k]at ev;cases ev;exact r1.vw q.gh hs
   .cases e
  .cases e
theorem Rel.vwA{o:Opd}(q:Rel K G H es σ fp)(k:OpdOk K G σ o v)(e:uP es o=.ok d):Rep K H d v:=by
 cases o with
 |val d'=>
  cases e;exact Rep.mono q.gh k
 |var i=>
  unfold uP at e;dsimp only at e;split at e
  .rename_i r hr;cases e;obtain⟨v',ev,r1⟩:=q.view hr;have k:σ[i]?=some (some v):=k;rw[k]at ev;cases ev;exact r1
  .cases e
theorem Rel.vws(q:Rel K G H es σ fp):∀{os:List Opd}{vs:List V}{ds:List D},pC K G σ os vs->sZ es os=.ok ds->VN K G H ds vs
 |[],_,_,k,e=>by
  cases e;exact k
 |o::os,_,_,⟨y,ys,e0,k1,k2⟩,e=>by
  unfold sZ at e;obtain⟨d,e1,e⟩:=aB e;obtain⟨ds,e2,e⟩:=aB e;cases e;exact⟨y,ys,e0,q.vw k1 e1,Rel.vws q k2 e2⟩
theorem lq{G1:Hp}(gg:Same G G1)(ht:∀(i:Nat) (r:R) (v:V),es[i]?=some (some r)->σ[i]?=some (some v)->Rep K G1 r.2 v):∀{os:List Opd}{vs:List V}{ds:List D},pC K G σ os vs->kA es os=.ok ds->Reps K G1 ds vs
 |[],_,_,k,e=>by
  cases e;have k:_=_:=k;rw[k];exact Reps.nil
 |o::os,_,_,⟨y,ys,e0,k1,k2⟩,e=>by
  unfold kA at e;obtain⟨d,e1,e⟩:=aB e;obtain⟨ds,e2,e⟩:=aB e;cases e;rw[e0];refine .cons ?_ (lq gg ht k2 e2);cases o with
  |val d'=>
   cases e1;exact Rep.mono gg k1
  |var i=>
   unfold uP at e1;dsimp only at e1;split at e1
   .rename_i r hr;cases e1;exact ht i r y hr k1
   .cases e1
end
abbrev FX:=PV.Env->Res (R×PV.Env)
abbrev FO:=PV.Env->Res (Opd×PV.Env)
abbrev Od:=PV.Env->Res (List Opd×PV.Env)
abbrev FT:=PV.Env->Res (Bool×PV.Env)
inductive Out where
 |nx (env:PV.Env)|rt (r:R)|bk (env:PV.Env)|ct (env:PV.Env)
abbrev FS:=PV.Env->Res Out
inductive tQ(K:W.Frag)(f:FX)(σ:L2.St)(H:Hp)(Q:VK):Prop
 |mk:∀G env fp r env',Rel K G H env σ fp->f env=.ok (r,env')->(∀v H' G' L9,Step G H fp G' H' L9->Rel K G' H' (some r::env') (some v::σ) L9->Q v H')->tQ K f σ H Q
inductive tO(K:W.Frag)(f:FO)(σ:L2.St)(H:Hp)(Q:VK):Prop
 |mk:∀G env fp o env',Rel K G H env σ fp->f env=.ok (o,env')->(∀v H' G' L9,Step G H fp G' H' L9->Rel K G' H' env' σ L9->OpdOk K G' σ o v->Q v H')->tO K f σ H Q
inductive tOs(K:W.Frag)(f:Od)(σ:L2.St)(H:Hp)(Q:List V->Hp->Prop):Prop
 |mk:∀G env fp o env',Rel K G H env σ fp->f env=.ok (o,env')->(∀v H' G' L9,Step G H fp G' H' L9->Rel K G' H' env' σ L9->pC K G' σ o v->Q v H')->tOs K f σ H Q
inductive tQT(K:W.Frag)(f:FT)(σ:L2.St)(H:Hp)(Q:Bool->Hp->Prop):Prop
 |mk:∀G env fp b env',Rel K G H env σ fp->f env=.ok (b,env')->(∀H' G' L9,Step G H fp G' H' L9->Rel K G' H' env' σ L9->Q b H')->tQT K f σ H Q
inductive Mode where
 |plain|mut
def KZ(md:Mode)(K:W.Frag)(G H:Hp)(r:R)(v:V)(fp:List WP):Prop:=match md with
 | .plain=>Rel K G H [some r] [some v] fp
 | .mut=>∃o d p c d0,r=(.t [o,.pin p c],.tup [d,d0])/\Rel K G H [some (o,d),some (.pin p c,d0)] [some v,some (.ref p)] fp
def OutOk{md:Mode}(K:W.Frag)(G H:Hp)(fp:List WP)(Dd:Ends):Res Out->Prop
 | .ok (.nx env')=>∀σ' H' G' L9,Step G H fp G' H' L9->Rel K G' H' env' σ' L9->Dd.nx σ' H'
 | .ok (.bk env')=>∀σ' H' G' L9,Step G H fp G' H' L9->Rel K G' H' env' σ' L9->Dd.bk σ' H'
 | .ok (.ct env')=>∀σ' H' G' L9,Step G H fp G' H' L9->Rel K G' H' env' σ' L9->Dd.ct σ' H'
 | .ok (.rt r)=>∀v H' G' L9,Step G H fp G' H' L9->KZ md K G' H' r v L9->Dd.rt v H'
 |_=>False
inductive tQS{md:Mode}(K:W.Frag)(g:FS)(Dd:Ends)(σ:L2.St)(H:Hp):Prop
 |mk:∀G env fp,Rel K G H env σ fp->OutOk (md:=md) K G H fp Dd (g env)->tQS (md:=md) K g Dd σ H
def QE(X:Cx)(e:Expr)(f:FX):Prop:=PE X e (tQ X.K f)
def QO(X:Cx)(e:Expr)(f:FO):Prop:=PE X e (tO X.K f)
def SI(X:Cx)(es:List Expr)(f:Od):Prop:=PA X es (tOs X.K f)
def QT(X:Cx)(e:Expr)(f:FT):Prop:=PT X e (tQT X.K f)
def QW(X:Cx)(e:Expr)(f:FT):Prop:=PW X e (tQT X.K f)
def QS{md:Mode}(X:Cx)(st:Stmt)(g:FS):Prop:=PS X st (tQS (md:=md) X.K g)
def Sn{md:Mode}(X:Cx)(st:List Stmt)(g:FS):Prop:=PSs X st (tQS (md:=md) X.K g)
variable{X:Cx}{e:Expr}
theorem bW{t t':TE}(h:PE X e t)(k:∀σ H Q,t' σ H Q->t σ H Q):PE X e t':=λpr s σ H Q I w=>h pr s σ H Q I (k σ H Q w)
theorem kc{t t':TT}(h:PT X e t)(k:∀σ H Q,t' σ H Q->t σ H Q):PT X e t':=λpr s σ H Q I w=>h pr s σ H Q I (k σ H Q w)
theorem wA{t t':TT}(h:PW X e t)(k:∀σ H Q,t' σ H Q->t σ H Q):PW X e t':=λwh pr s σ H Q I w=>h wh pr s σ H Q I (k σ H Q w)
theorem tf{e:List Expr}{t t':TA}(h:PA X e t)(k:∀σ H Q,t' σ H Q->t σ H Q):PA X e t':=λpos pr s σ H Q I w=>h pos pr s σ H Q I (k σ H Q w)
theorem iC{e:Stmt}{t t':TS}(h:PS X e t)(k:∀D σ H,t' D σ H->t D σ H):PS X e t':=λpr s σ H D I w=>h pr s σ H D I (k D σ H w)
theorem oh{e:List Stmt}{t t':TS}(h:PSs X e t)(k:∀D σ H,t' D σ H->t D σ H):PSs X e t':=λpr s σ H D I w=>h pr s σ H D I (k D σ H w)
variable{md:Mode}
theorem OutOk.imp{K:W.Frag}{G1 H1:Hp}{Mt:List WP}{Dd Wj:Ends}{r:Res Out}(st:Step G H fp G1 H1 Mt)(h:OutOk (md:=md) K G H fp Dd r)(n:∀σ H,Dd.nx σ H->Wj.nx σ H)(b:∀σ H,Dd.bk σ H->Wj.bk σ H)(c:∀σ H,Dd.ct σ H->Wj.ct σ H)(t:∀v H,Dd.rt v H->Wj.rt v H):OutOk (md:=md) K G1 H1 Mt Wj r:=by
 match r,h with
 | .ok (.nx env'),h=>exact λσ' H' G' L9 s q=>n _ _ (h σ' H' G' L9 (st.trans s) q)
 | .ok (.bk env'),h=>exact λσ' H' G' L9 s q=>b _ _ (h σ' H' G' L9 (st.trans s) q)
 | .ok (.ct env'),h=>exact λσ' H' G' L9 s q=>c _ _ (h σ' H' G' L9 (st.trans s) q)
 | .ok (.rt r),h=>exact λv H' G' L9 s q=>t _ _ (h v H' G' L9 (st.trans s) q)
theorem OutOk.after{K:W.Frag}{G1 H1:Hp}{Mt:List WP}{Dd:Ends}{r:Res Out}(st:Step G H fp G1 H1 Mt)(h:OutOk (md:=md) K G H fp Dd r):OutOk (md:=md) K G1 H1 Mt Dd r:=h.imp st (λ_ _ z=>z) (λ_ _ z=>z) (λ_ _ z=>z) λ_ _ z=>z
def aA(d:D):FX:=λenv=>.ok ((.f,d),env)
def fz:O->O
 | .pin p .f=>.pin p .f
 |_=>.f
def bq(i:Nat):FX:=λenv=>match env[i]? with
 |some (some r)=>.ok ((.f,r.2),env.set i (some (fz r.1,r.2)))
 |_=>.bad
def kB(i:Nat):FX:=λenv=>match env[i]? with
 |some (some r)=>.ok (r,env.set i none)
 |_=>.bad
def aq(f:FX):FO:=λenv=>(f env).bind λp=>.ok (.val p.1.2,p.2)
def ax(i:Nat):FO:=λenv=>match env[i]? with
 |some (some _)=>.ok (.var i,env)
 |_=>.bad
def ay:Od:=λenv=>.ok ([],env)
def ah(f:FO)(g:Od):Od:=λenv=>(f env).bind λp=>(g p.2).bind λq=>.ok (p.1::q.1,q.2)
variable{l:List D}{x:Str}{i:Nat}{b:Expr}{fa:FO}{pos:Pos}{Q:VK}{f:FX}{gg:List D->Res R}{T:String}
section
theorem pD(h:PE X e (tC v))(r:∀G,Rep X.K G d v):QE X e (aA d):=bW h λσ H Q Mh=>by
 obtain⟨G,env,fp,rr,env',rel,e,k⟩:=Mh;cases e;exact k v H G fp .refl (rel.push (r G))
theorem ao{i j pos}:QE X (.Constant (.int i) j pos) (aA (.int i)):=pD As λG=>by rw[Rep]
theorem rq{i j pos}:QE X (.Constant (.bool i) j pos) (aA (.bl i)):=pD HL λG=>by rw[Rep]
theorem AQ{j pos}:QE X (.Constant .none j pos) (aA .non):=pD Au λG=>by rw[Rep]
theorem aH{x j pos}{l:List Nat}(h:x=S l)(hl:l.length<=1000):QE X (.Constant (.str x) j pos) (aA (.str l)):=pD Av λG=>by
 rw[Rep,h];exact⟨rfl,by rw[line_eq];lia⟩
theorem jq{p:Pos}{n:Int}(h:Gi X.mg x n)(hg:Gl X x)(hd:(x==("__debug__" : Str))=false:=by decide):QE X (.Name x p) (aA (.int n)):=pD (Ii h hg hd) λG=>by rw[Rep]
theorem aN(h:PE X e (qU i)):QE X e (bq i):=bW h λσ H Q Mh=>by
 obtain⟨G,env,fp,rr,env',rel,e,k⟩:=Mh;unfold bq at e;split at e
 .rename_i r hr;cases e;by_cases hf:fz r.1=.f
  .obtain⟨v,G',fq,ev,rv,M1,st⟩:=rel.freezeAt hr;rw[hf]at k;exact⟨v,ev,k v H G' fq st (M1.push rv)⟩
  .have hp:∃p,r.1=.pin p .f:=by
    unfold fz at hf;split at hf
    .rename_i p hp;exact⟨p,hp⟩
    .exact absurd rfl hf
   obtain⟨p,hp⟩:=hp;obtain⟨v,a,b,ev,r1,_,_⟩:=rel.rep.take hr;rw[hp,RepO]at r1;have es:env.set i (some (fz r.1,r.2))=env:=by
    refine og ?_;rw[hr,hp];show some (some r)=some (some (.pin p .f,r.2));rw[<-hp]
   rw[es]at k;exact⟨v,ev,k v H G fp .refl (rel.push (jo.mp r1.2).1)⟩
 .cases e
theorem gH(h:PE X e (qU i)):QE X e (kB i):=bW h λσ H Q Mh=>by
 obtain⟨G,env,fp,rr,env',rel,e,k⟩:=Mh;unfold kB at e;split at e
 .rename_i r hr;cases e;obtain⟨v,fq,ev,M1,st,_⟩:=rel.out hr;exact⟨v,ev,k v H G fq st M1⟩
 .cases e
theorem aa{e:Expr}{f:FX}(h:QE X e f):QO X e (aq f):=bW h λσ H Q Mh=>by
 obtain⟨G,env,fp,o,env',rel,e,k⟩:=Mh;obtain⟨⟨r,L0⟩,e1,e⟩:=aB e;cases e;refine⟨G,env,fp,r,L0,rel,e1,λv H' G' L9 st M1=>?_⟩;obtain⟨G2,b,rv,L6,Md⟩:=M1.freeze;exact k v H' G2 b (st.trans Md) L6 rv
theorem af(h:PE X e (qU i)):QO X e (ax i):=bW h λσ H Q Mh=>by
 obtain⟨G,env,fp,o,env',rel,e,k⟩:=Mh;unfold ax at e;split at e
 .rename_i r hr;cases e;obtain⟨v,ev,_⟩:=rel.view hr;exact⟨v,ev,k v H G fp .refl rel ev⟩
 .cases e
theorem ai:SI X [] ay:=tf gO λσ H Q Mh=>by
 obtain⟨G,env,fp,o,env',rel,e,k⟩:=Mh;cases e;exact k [] H G fp .refl rel rfl
theorem ae{e:Expr}{es:List Expr}{f:FO}{g:Od}(h:QO X e f)(hs:SI X es g)(Oz:starEach (e::es) X.env=(false,eval e X.env)::starEach es X.env:=by rfl):SI X (e::es) (ah f g):=
 tf (di h hs Oz) λσ H Q Mh=>by
  obtain⟨G,env,fp,o,env',rel,e,k⟩:=Mh;obtain⟨⟨o1,L0⟩,e1,e⟩:=aB e;obtain⟨⟨os,Ml⟩,e2,e⟩:=aB e;cases e;exact⟨G,env,fp,o1,L0,rel,e1,λv H1 G1 Mt Mk L5 O6=>⟨G1,L0,Mt,os,Ml,L5,e2,λvs H2 G2 NK Md L6 Tt=>k _ H2 G2 NK (Mk.trans Md) L6 ⟨v,vs,rfl,O6.mono Md.gg,Tt⟩⟩⟩
def aF(g:D->D->Res R)(fa fb:FO):FX:=λenv=>(fa env).bind λp=>(fb p.2).bind λq=>(OA q.2 p.1).bind λa=>(OA q.2 q.1).bind λb=>(g a b).bind λr=>.ok (r,q.2)
def bu(g:D->D->Res R)(fa fb:FO):FX:=λenv=>(fa env).bind λp=>(fb p.2).bind λq=>(uP q.2 p.1).bind λa=>(uP q.2 q.1).bind λb=>(g a b).bind λr=>.ok (r,q.2)
structure Goes(K:W.Frag)(H:Hp)(G:Hp)(fp:List WP)(es:PV.Env)(vs:L2.St)(r:R)(Q:VK):Prop where
 rel:Rel K G H es vs fp
 Lc:∀v H' G' L9,Step G H fp G' H' L9->Rel K G' H' (some r::es) (some v::vs) L9->Q v H'
inductive rG(K:W.Frag)(g:D->D->Res R)(x:V)(y:V)(H:Hp)(Q:VK):Prop
 |mk:∀G fp es vs a b r,Goes K H G fp es vs r Q->Vw K G H a x->Vw K G H b y->g a b=.ok r->rG K g x y H Q
inductive rGA(K:W.Frag)(g:D->D->Res R)(x:V)(y:V)(H:Hp)(Q:VK):Prop
 |mk:∀G fp es vs a b r,Goes K H G fp es vs r Q->Rep K H a x->Rep K H b y->g a b=.ok r->rGA K g x y H Q
variable{a c:Expr}{fb fc:FO}{g g':D->D->Res R}
theorem tj(h:tQ X.K (aF g fa fb) σ H Q):VF (rG X.K g) (tO X.K fa) (tO X.K fb) σ H Q:=by
 obtain⟨G,env,fp,r,env',rel,e,k⟩:=h;obtain⟨⟨oa,e1⟩,ha,e⟩:=aB e;obtain⟨⟨ob,e2⟩,hb,e⟩:=aB e;obtain⟨da,Wl,e⟩:=aB e;obtain⟨db,NJ,e⟩:=aB e;obtain⟨r',hr,e⟩:=aB e;cases e;exact⟨G,env,fp,oa,e1,rel,ha,λx H1 G1 Mt Mk L5 O6=>⟨G1,e1,Mt,ob,e2,L5,hb,λy H2 G2 NK Md L6 Tt=>
  ⟨G2,NK,e2,σ,da,db,r,⟨L6,λv H' G' L9 st M1=>k v H' G' L9 (Mk.trans (Md.trans st)) M1⟩,L6.vw (O6.mono Md.gg) Wl,L6.vw Tt NJ,hr⟩⟩⟩
theorem wB(h:tQ X.K (bu g fa fb) σ H Q):VF (rGA X.K g) (tO X.K fa) (tO X.K fb) σ H Q:=by
 obtain⟨G,env,fp,r,env',rel,e,k⟩:=h;obtain⟨⟨oa,e1⟩,ha,e⟩:=aB e;obtain⟨⟨ob,e2⟩,hb,e⟩:=aB e;obtain⟨da,Wl,e⟩:=aB e;obtain⟨db,NJ,e⟩:=aB e;obtain⟨r',hr,e⟩:=aB e;cases e;exact⟨G,env,fp,oa,e1,rel,ha,λx H1 G1 Mt Mk L5 O6=>⟨G1,e1,Mt,ob,e2,L5,hb,λy H2 G2 NK Md L6 Tt=>
  ⟨G2,NK,e2,σ,da,db,r,⟨L6,λv H' G' L9 st M1=>k v H' G' L9 (Mk.trans (Md.trans st)) M1⟩,L6.vwA (O6.mono Md.gg) Wl,L6.vwA Tt NJ,hr⟩⟩⟩
theorem aI{op:Operator}(ho:Nk X (binaryOp op) (rG X.K g))(ha:QO X a fa)(hb:QO X b fb):QE X (.BinOp a op b pos) (aF g fa fb):=bW (BP ho ha hb) λ_ _ _=>tj
theorem AR{op:CmpOp}(ho:Nk X (compareOp op) (rG X.K g))(ha:QO X a fa)(hb:QO X b fb)(hm:behindInMarks op b=false):QE X (.Compare a [op] [b] pos) (aF g fa fb):=bW (vJ ho ha hb hm) λ_ _ _=>tj
theorem iU{op:CmpOp}(ho:Nk X (compareOp op) (rGA X.K g))(ha:QO X a fa)(hb:QO X b fb)(hm:behindInMarks op b=false):QE X (.Compare a [op] [b] pos) (bu g fa fb):=bW (vJ ho ha hb hm) λ_ _ _=>wB
def Mw(f:FX):FT:=λenv=>(f env).bind λp=>match p.1.2 with
 | .bl k=>.ok (k,p.2)
 |_=>.bad
theorem ze{Q:Bool->Hp->Prop}(h:tQT X.K (Mw f) σ H Q):tQ X.K f σ H λx H'=>∃k,x=.bl k/\Q k H':=by
 obtain⟨G,env,fp,k,env',rel,e,q⟩:=h;obtain⟨⟨⟨o,d⟩,L0⟩,e1,e⟩:=aB e;dsimp only at e;split at e
 .cases e;refine⟨G,env,fp,_,_,rel,e1,λv H' G' L9 st M1=>?_⟩;have hv:=M1.top;rw[show((o,D.bl k):R).2=D.bl k from rfl,Rep]at hv;obtain⟨b,L6,Md⟩:=M1.drop;exact⟨k,hv,q H' G' b (st.trans Md) L6⟩
 .cases e
theorem eO(h:QE X e f)(he:∀whole,isTrue e X.env whole=(do let v <-whole;standAt e.pos;holding [v] (truthy v)):=by intro _;rfl):QT X e (Mw f):=kc (Aw h he) λ_ _ _=>ze
theorem dD{op:CmpOp}(ho:Nk X (compareOp op) (rG X.K g))(ha:QO X a fa)(hb:QO X b fb)(hm:behindInMarks op b=false):QT X (.Compare a [op] [b] pos) (Mw (aF g fa fb)):=
 kc (vK ho ha hb hm) λ_ _ _ h=>tj (ze h)
theorem aT{op:CmpOp}(ho:Nk X (compareOp op) (rGA X.K g))(ha:QO X a fa)(hb:QO X b fb)(hm:behindInMarks op b=false):QT X (.Compare a [op] [b] pos) (Mw (bu g fa fb)):=
 kc (vK ho ha hb hm) λ_ _ _ h=>wB (ze h)
def AU(f g:FT):FT:=λenv=>(f env).bind λp=>if p.1 then g p.2 else .ok (false,p.2)
def Wm(f g:FT):FT:=λenv=>(f env).bind λp=>if p.1 then .ok (true,p.2) else g p.2
def rA(f:FT):FT:=λenv=>(f env).bind λp=>.ok (!p.1,p.2)
variable{ga gb:FT}{rest:List Expr}
theorem lr(h:QT X a ga):QW X (.BoolOp .And [a] pos) ga:=BK h
theorem wC(h:QT X a ga):QW X (.BoolOp .Or [a] pos) ga:=Ax h
theorem pE(h:QT X a ga)(h2:QW X (.BoolOp .And (b::rest) pos) gb):QW X (.BoolOp .And (a::b::rest) pos) (AU ga gb):=wA (Eo h h2) λσ H Q Mh=>by
 obtain⟨G,env,fp,k,env',rel,e,q⟩:=Mh;obtain⟨⟨k1,L0⟩,e1,e⟩:=aB e;refine⟨G,env,fp,k1,L0,rel,e1,λH1 G1 Mt Mk L5=>?_⟩;dsimp only at e;cases k1 with
 |true=>exact⟨G1,L0,Mt,k,env',L5,e,λH2 G2 NK Md L6=>q H2 G2 NK (Mk.trans Md) L6⟩
 |false=>
  cases e;exact q H1 G1 Mt Mk L5
theorem Cv(h:QT X a ga)(h2:QW X (.BoolOp .Or (b::rest) pos) gb):QW X (.BoolOp .Or (a::b::rest) pos) (Wm ga gb):=wA (Ep h h2) λσ H Q Mh=>by
 obtain⟨G,env,fp,k,env',rel,e,q⟩:=Mh;obtain⟨⟨k1,L0⟩,e1,e⟩:=aB e;refine⟨G,env,fp,k1,L0,rel,e1,λH1 G1 Mt Mk L5=>?_⟩;dsimp only at e;cases k1 with
 |false=>exact⟨G1,L0,Mt,k,env',L5,e,λH2 G2 NK Md L6=>q H2 G2 NK (Mk.trans Md) L6⟩
 |true=>
  cases e;exact q H1 G1 Mt Mk L5
theorem QW.qt{f:FT}(h:QW X e f):QT X e f:=h.pt
theorem fZ(h:QT X a ga):QT X (.UnaryOp .Not a pos) (rA ga):=kc (Ay h) λσ H Q Mh=>by
 obtain⟨G,env,fp,k,env',rel,e,q⟩:=Mh;obtain⟨⟨k1,L0⟩,e1,e⟩:=aB e;cases e;exact⟨G,env,fp,k1,L0,rel,e1,λH1 G1 Mt Mk L5=>q H1 G1 Mt Mk L5⟩
def AV(f g:FX):FX:=λenv=>(f env).bind λp=>match p.1.2 with
 | .bl true=>g p.2
 | .bl false=>.ok ((.f,.bl false),p.2)
 |_=>.bad
def eOr(f g:FX):FX:=λenv=>(f env).bind λp=>match p.1.2 with
 | .bl true=>.ok ((.f,.bl true),p.2)
 | .bl false=>g p.2
 |_=>.bad
def LN(f:FX):FX:=λenv=>(f env).bind λp=>match p.1.2 with
 | .bl k=>.ok ((.f,.bl (!k)),p.2)
 |_=>.bad
def eIf(c:FT)(f g:FX):FX:=λenv=>(c env).bind λp=>if p.1 then f p.2 else g p.2
variable{ea eb:FX}
theorem AX{op}(h:QE X a ea):QE X (.BoolOp op [a] pos) ea:=Er h
theorem dH(k:Bool):Rep K G (.bl k) (.bl k):=by rw[Rep]
theorem cC(k:Int):Rep K G (.int k) (.int k):=by rw[Rep]
theorem iV:Rep K G .non .non:=by rw[Rep]
theorem dI{l:List Nat}(h:l.length<=sizeLine):Rep K G (.str l) (.str (S l)):=by
 rw[Rep];exact⟨rfl,h⟩
theorem kC{k:Bool}(h:Rep K G (.bl k) v):v=.bl k:=by rw[Rep]at h;exact h
theorem iE{k:Int}(h:Rep K G (.int k) v):v=.int k:=by rw[Rep]at h;exact h
theorem pF(h:Rep K G .non v):v=.non:=by rw[Rep]at h;exact h
theorem eP{l:List Nat}(h:Rep K G (.str l) v):v=.str (S l)/\l.length<=sizeLine:=by rw[Rep]at h;exact h
inductive OfT(K:W.Frag)(G:Hp)(l:List D)(v:V):Prop
 |mk (p:WP) (xs:List V) (e:v=.ref p) (q:SqT K G p xs) (r:Reps K G l xs):OfT K G l v
inductive OfL(K:W.Frag)(G:Hp)(l:List D)(v:V):Prop
 |mk (p:WP) (xs:List V) (e:v=.ref p) (q:SqL K G p xs) (r:Reps K G l xs):OfL K G l v
theorem gR(h:Rep K G (.tup l) v):OfT K G l v:=by
 rw[Rep]at h;obtain⟨p,xs,e,q,r⟩:=h;exact⟨p,xs,e,SqT.of q,r⟩
theorem wD(h:Rep K G (.tup l) v):∃p xs,v=.ref p/\G p=some (.tup xs)/\Reps K G l xs:=by rw[Rep]at h;exact h
theorem gY(h:Rep K G (.lst l) v):OfL K G l v:=by
 rw[Rep]at h;obtain⟨p,xs,e,q,r⟩:=h;exact⟨p,xs,e,q,r⟩
theorem Iu{k:Bool}(h:Vw K G H (.bl k) v):v=.bl k:=kC (K:=K) (G:=G) h
theorem cf{k:Int}(h:Vw K G H (.int k) v):v=.int k:=iE (K:=K) (G:=G) h
theorem fH{l:List Nat}(h:Vw K G H (.str l) v):v=.str (S l)/\l.length<=sizeLine:=eP (K:=K) (G:=G) h
theorem iF(h:Vw K G H (.tup l) v):OfT K G l v:=gR (K:=K) (G:=G) h
theorem tm(h:QE X a ea)(h2:QE X (.BoolOp .And (b::rest) pos) eb):QE X (.BoolOp .And (a::b::rest) pos) (AV ea eb):=bW (Es h h2) λσ H Q Mh=>by
 obtain⟨G,env,fp,r,env',rel,e,q⟩:=Mh;obtain⟨⟨⟨o,d⟩,L0⟩,e1,e⟩:=aB e;refine⟨G,env,fp,_,L0,rel,e1,λv H1 G1 Mt Mk L5=>?_⟩;have hv:=L5.top;obtain⟨b',L6,Md⟩:=L5.drop;dsimp only at e hv;split at e
 .exact⟨true,kC hv,EV ⟨G1,L0,b',r,env',L6,e,λv H2 G2 NK Nj Nb=>q v H2 G2 NK (Mk.trans (Md.trans Nj)) Nb⟩⟩
 .cases e;exact⟨false,kC hv,iteF (q _ H1 G1 b' (Mk.trans Md) (L6.push (dH _)))⟩
 .cases e
def kg(g g':D->D->Res R)(fa fb fc:FO):FX:=λenv=>(fa env).bind λp=>(fb p.2).bind λq=>(OA q.2 p.1).bind λa=>(OA q.2 q.1).bind λb=>(g a b).bind λr=>match r with
 |(.f,.bl true)=>(fc q.2).bind λt=>(OA t.2 q.1).bind λb=>(OA t.2 t.1).bind λc=>(g' b c).bind λr=>.ok (r,t.2)
 |(.f,.bl false)=>.ok ((.f,.bl false),q.2)
 |_=>.bad
theorem tq(h:tQ X.K (kg g g' fa fb fc) σ H Q):vL (rG X.K g) (rG X.K g') (tO X.K fa) (tO X.K fb) (tO X.K fc) σ H Q:=by
 obtain⟨G,env,fp,r,env',rel,e,k⟩:=h;obtain⟨⟨oa,e1⟩,ha,e⟩:=aB e;obtain⟨⟨ob,e2⟩,hb,e⟩:=aB e;obtain⟨da,Wl,e⟩:=aB e;obtain⟨db,NJ,e⟩:=aB e;obtain⟨r',hr,e⟩:=aB e;refine⟨G,env,fp,oa,e1,rel,ha,λx H1 G1 Mt Mk L5 O6=>⟨G1,e1,Mt,ob,e2,L5,hb,λy H2 G2 NK Md L6 Tt=>
  ⟨G2,NK,e2,σ,da,db,r',⟨L6,λv H3 G3 Qh Nj Nb=>?_⟩,L6.vw (O6.mono Md.gg) Wl,L6.vw Tt NJ,hr⟩⟩⟩
 have hv:=Nb.top;obtain⟨b3,Nl,Oc⟩:=Nb.drop;split at e
 .refine⟨true,kC hv,EV ?_⟩;obtain⟨⟨oc,e3⟩,hc,e⟩:=aB e;obtain⟨db',hdb',e⟩:=aB e;obtain⟨dc,hdc,e⟩:=aB e;obtain⟨r2,Xz,e⟩:=aB e;cases e;exact⟨G3,e2,b3,oc,e3,Nl,hc,λz H5 G5 Tu OR Ob ok5=>⟨G5,Tu,e3,σ,db',dc,r,⟨Ob,λv H' G' L9 st M1=>k v H' G' L9 (Mk.trans (Md.trans (Nj.trans (Oc.trans (OR.trans st))))) M1⟩,
   Ob.vw ((Tt.mono Nj.gg).mono OR.gg) hdb',Ob.vw ok5 hdc,Xz⟩⟩
 .cases e;exact⟨false,kC hv,iteF (k _ H3 G3 b3 (Mk.trans (Md.trans (Nj.trans Oc))) (Nl.push (dH _)))⟩
 .cases e
theorem oi{op Q0:CmpOp}(ho:Nk X (compareOp op) (rG X.K g))(Qx:Nk X (compareOp Q0) (rG X.K g'))(ha:QO X a fa)(hb:QO X b fb)(hc:QO X c fc)(hm:lastMarks [op,Q0] [b,c]=false:=by with_unfolding_all rfl):
  QE X (.Compare a [op,Q0] [b,c] pos) (kg g g' fa fb fc):=bW (yG ho Qx ha hb hc hm) λ_ _ _=>tq
theorem zf{op Q0:CmpOp}(ho:Nk X (compareOp op) (rG X.K g))(Qx:Nk X (compareOp Q0) (rG X.K g'))(ha:QO X a fa)(hb:QO X b fb)(hc:QO X c fc)(hm:lastMarks [op,Q0] [b,c]=false:=by with_unfolding_all rfl):
  QT X (.Compare a [op,Q0] [b,c] pos) (Mw (kg g g' fa fb fc)):=kc (yH ho Qx ha hb hc hm) λ_ _ _ h=>tq (ze h)
inductive rC(K:W.Frag)(g:List D->Res R)(xs:List V)(H:Hp)(Q:VK):Prop
 |mk:∀G fp es vs ds r,Goes K H G fp es vs r Q->VN K G H ds xs->g ds=.ok r->rC K g xs H Q
def a9(g:List D->Res R)(fs:Od):FX:=λenv=>(fs env).bind λp=>(sZ p.2 p.1).bind λds=>(g ds).bind λr=>.ok (r,p.2)
theorem wF{fs:Od}(h:tQ X.K (a9 gg fs) σ H Q):X2 (rC X.K gg) (tOs X.K fs) σ H Q:=by
 obtain⟨G,env,fp,r,env',rel,e,k⟩:=h;obtain⟨⟨os,e1⟩,ha,e⟩:=aB e;obtain⟨ds,hd,e⟩:=aB e;obtain⟨r',hr,e⟩:=aB e;cases e;exact⟨G,env,fp,os,e1,rel,ha,λvs H1 G1 Mt Mk L5 O6=>⟨G1,Mt,e1,σ,ds,r,⟨L5,λv H' G' L9 st M1=>k v H' G' L9 (Mk.trans st) M1⟩,L5.vws O6 hd,hr⟩⟩
variable{p:Pos}{es:List Expr}{fs:Od}{id:String}
theorem aM(hc:dF X (.builtin id) (rC X.K gg))(hg:Gl X x)(hm:X.mg x=none)(hv:bootBuiltins x=some (.builtin id))(ha:SI X (e::es) fs)(hn:x≠"__name__":=by decide)(NJ:(x==("__debug__" : Str))=false:=by decide)
  (he:starEach (e::es) X.env=(false,eval e X.env)::starEach es X.env:=by rfl) (Nu:(backTo pos (starEach es X.env)).any (·.1)=false:=by rfl):QE X (.Call (.Name x p) (e::es) [] pos) (a9 gg fs):=
 bW (kQ hc hg hm hv ha hn NJ he Nu) λ_ _ _=>wF
theorem eG(hc:dF X (.type T) (rC X.K gg))(hg:Gl X x)(hm:X.mg x=none)(hv:bootBuiltins x=some (.type T))(ha:SI X (e::es) fs)(hn:x≠"__name__":=by decide)(NJ:(x==("__debug__" : Str))=false:=by decide)
  (he:starEach (e::es) X.env=(false,eval e X.env)::starEach es X.env:=by rfl) (Nu:(backTo pos (starEach es X.env)).any (·.1)=false:=by rfl):QE X (.Call (.Name x p) (e::es) [] pos) (a9 gg fs):=
 bW (pb hc hg hm hv ha hn NJ he Nu) λ_ _ _=>wF
inductive spF(K:W.Frag)(F:List D->Res R)(vs:List V)(H:Hp)(Q:VK)(zz:XK):Prop
 |mk:∀G ds r,Same G H->Reps K G ds vs->F ds=.ok r->(∀v H' G' L9,Step G H [] G' H' L9->Rel K G' H' [some r] [some v] L9->Q v H')->spF K F vs H Q zz
def bZ(F:List D->Res R)(fs:Od):FX:=λenv=>(fs env).bind λp=>(kA p.2 p.1).bind λds=>(F ds).bind λr=>.ok (r,if cO r.1 r.2 then p.2 else p.2.map frz)
theorem aJ{F:List D->Res R}{k:Nat}(C:Ct X.prog X.w X.K X.mg X.base x k (spF X.K F))(hr:Room k X.A)(hg:Gl X x)(ha:SI X (e::es) fs)(NJ:(x==("__debug__" : Str))=false:=by decide)
  (he:starEach (e::es) X.env=(false,eval e X.env)::starEach es X.env:=by rfl) (Nu:(backTo pos (starEach es X.env)).any (·.1)=false:=by rfl):QE X (.Call (.Name x p) (e::es) [] pos) (bZ F fs):=
 bW (Ih C hr hg ha NJ he Nu) λσ H Q Mh=>by
  obtain⟨G,env,fp,r,env',rel,e,k⟩:=Mh;obtain⟨⟨os,e1⟩,ha,e⟩:=aB e;obtain⟨ds,hd,e⟩:=aB e;obtain⟨r',hr,e⟩:=aB e;refine⟨G,env,fp,os,e1,rel,ha,λvs H1 G1 Mt Mk L5 O6=>?_⟩;show spF X.K F (vs++[]) H1 Q _;rw[aak];obtain⟨G2,UW,UX,Pw,_,PH⟩:=L5.lend;refine⟨G2,ds,r',UX,lq UW Pw O6 hd,hr,λv H' G' L9 st M1=>?_⟩;obtain⟨k1,k2⟩:=PH H' G' L9 r' v st M1;by_cases hc:cO r'.1 r'.2=true
  .rw[ZY hc]at e;cases e;obtain⟨G3,Qh,Nj,Nb⟩:=k1 hc;exact k v H' G3 Qh (Mk.trans Nj) Nb
  .rw[Z6 hc]at e;cases e;obtain⟨G3,Qh,Nj,Nb⟩:=k2;exact k v H' G3 Qh (Mk.trans Nj) Nb
end
def sSeq(g1 g2:FS):FS:=λenv=>(g1 env).bind λo=>match o with
 | .nx e=>g2 e
 |o=>.ok o
def br:FS:=λenv=>.ok (.nx env)
def cG:FS:=λ_=>.bad
def cy(i:Nat)(f:FX):FS:=λenv=>(f env).bind λp=>if i<p.2.length then .ok (.nx (p.2.set i (some p.1))) else .bad
def kF(f:FX):FS:=λenv=>(f env).bind λp=>.ok (.nx p.2)
def eI(f:FX):FS:=λenv=>(f env).bind λp=>.ok (.rt p.1)
def M4(c:FT)(g h:FS):FS:=λenv=>(c env).bind λp=>if p.1 then g p.2 else h p.2
variable{st:Stmt}{c:FT}{env:PV.Env}{vs:L2.St}{tg:Expr}{SJ:List Expr}{n:Nat}{xs:List V}{ds:List D}{p:WP}
section
variable{Tv:List Stmt}{g h:FS}
theorem aO:Sn (md:=md) X [] br:=oh qV λD σ H ⟨G,env,fp,rel,k⟩=>k σ H G fp .refl rel
theorem az(a:QS (md:=md) X st g):Sn (md:=md) X [st] g:=BL a
theorem au(a:QS (md:=md) X st g)(b:Sn (md:=md) X Tv h):Sn (md:=md) X (st::Tv) (sSeq g h):=oh (kP a b) λD σ H Mh=>by
 obtain⟨G,env,fp,rel,k⟩:=Mh;refine⟨G,env,fp,rel,?_⟩;have k:OutOk X.K G H fp D ((g env).bind λo=>match o with | .nx e=>h e|o=>.ok o):=k;match q:g env,k with
 | .ok (.nx L0),k=>exact λσ1 H1 G1 Mt Mk L5=>⟨G1,L0,Mt,L5,OutOk.after Mk k⟩
 | .ok (.bk L0),k=>exact k
 | .ok (.ct L0),k=>exact k
 | .ok (.rt r),k=>exact k
theorem bP:QS (md:=md) X st cG:=iC yC λD σ H ⟨G,env,fp,rel,k⟩=>k
theorem wG{D:Ends}{i:Nat}(rel:Rel K G H env σ fp)(k:OutOk (md:=md) K G H fp D (cy i f env)):tQ K f σ H λv H'=>D.nx (σ.set i (some v)) H':=by
 unfold cy at k;match q:f env,k with
 | .ok (r,L0),k=>
  have k:OutOk K G H fp D (if i<L0.length then .ok (.nx (L0.set i (some r))) else .bad):=k;by_cases hi:i<L0.length
  .rw[ZY hi]at k;refine⟨G,env,fp,r,L0,rel,q,λv H1 G1 Mt Mk L5=>?_⟩;obtain⟨fq,L6,Md⟩:=L5.store hi;exact k _ H1 G1 fq (Mk.trans Md) L6
  .rw[Z6 hi]at k;exact k.elim
theorem aK{i:Nat}{x:Str}{pos':Pos}(hN:X.N.Nodup)(hi:X.N[i]?=some x)(hx:Loc X.env.scope x)(he:QE X e f)(hs:swapsWith e (some (.Name x pos')) pos.line X.env=pure false:=by rfl)(hf:X.fn x=true\/X.env.scope.names.lookup x=some .local:=by first|exact .inl rfl|exact .inr rfl|assumption):
  QS (md:=md) X (.Assign [.Name x pos'] e pos) (cy i f):=iC (vB (i:=i) hN hi hx he hs hf) λD σ H ⟨G,env,fp,rel,k⟩=>wG rel k
theorem fg(he:QE X e f)(hs:swapsWith e none pos.line X.env=pure false:=by rfl):QS (md:=md) X (.Expr e pos) (kF f):=iC (BM he hs) λD σ H Mh=>by
 obtain⟨G,env,fp,rel,k⟩:=Mh;unfold kF at k;match q:f env,k with
 | .ok (r,L0),k=>
  refine⟨G,env,fp,r,L0,rel,q,λv H1 G1 Mt Mk L5=>?_⟩;obtain⟨b,L6,Md⟩:=L5.drop;exact k _ H1 G1 b (Mk.trans Md) L6
theorem Rel.only{r:R}(q:Rel K G H (some r::es) (some v::vs) fp):∃a,Rel K G H [some r] [some v] a/\Step G H fp G H a:=by
 obtain⟨y,ys,e,v',a,b,e1,e2,r1,r2⟩:=q.rep;cases e;cases e1;subst e2;have nd:=aap.mp q.nd;exact⟨a,⟨⟨some v,[],rfl,v,a,[],rfl,(aak _).symm,r1,rfl,rfl⟩,nd.1,λp hp=>q.gn p (ZX _ hp),q.gh⟩,Step.cut λp hp=>ZX _ hp⟩
theorem bg(he:QE X e f):QS (md:=.plain) X (.Return (some e) pos) (eI f):=iC (Az he) λD σ H Mh=>by
 obtain⟨G,env,fp,rel,k⟩:=Mh;unfold eI at k;match q:f env,k with
 | .ok (r,L0),k=>
  refine⟨G,env,fp,r,L0,rel,q,λv H1 G1 Mt Mk L5=>?_⟩;obtain⟨b,L6,Md⟩:=L5.only;exact k _ H1 G1 b (Mk.trans Md) L6
theorem Rel.nilF(q:Rel K G H es vs fp):Rel K G H [] [] []:=⟨⟨rfl,rfl⟩,aa0,(λ_ h=>nomatch h),q.gh⟩
theorem bH{a b:List Stmt}{ct:Expr}(hc:QT X ct c)(ha:Sn (md:=md) X a g)(hb:Sn (md:=md) X b h):QS (md:=md) X (.If ct a b pos) (M4 c g h):=iC (HQ hc ha hb) λD σ H Mh=>by
 obtain⟨G,env,fp,rel,k⟩:=Mh;unfold M4 at k;match q:c env,k with
 | .ok (true,L0),k=>exact⟨G,env,fp,true,L0,rel,q,λH1 G1 Mt Mk L5=>EV ⟨G1,L0,Mt,L5,OutOk.after Mk k⟩⟩
 | .ok (false,L0),k=>exact⟨G,env,fp,false,L0,rel,q,λH1 G1 Mt Mk L5=>iteF ⟨G1,L0,Mt,L5,OutOk.after Mk k⟩⟩
def ft(c:FT)(g:FS):Nat->FS
 | 0,_=>.bad
 |n+1,env=>(c env).bind λp=>if p.1 then(g p.2).bind λo=>match o with
  | .nx e=>ft c g n e
  | .ct e=>ft c g n e
  | .bk e=>.ok (.nx e)
  | .rt r=>.ok (.rt r)
  else .ok (.nx p.2)
theorem oj{ct:Expr}{body:List Stmt}(n:Nat)(hp:PassesOwn (model X.prog X.w) X.A X.env X.xe)(hc:QT X ct c)(hb:Sn (md:=md) X body g):QS (md:=md) X (.While ct body [] pos) (ft c g n):=
 iC (yE hp hc hb) λD σ H Mh=>by
  obtain⟨G,env,fp,rel,k⟩:=Mh;refine⟨λm σ' H'=>∃G' env' L9,Rel X.K G' H' env' σ' L9/\OutOk X.K G' H' L9 D (ft c g m env'),⟨n,G,env,fp,rel,k⟩,?_⟩;rintro m σ1 H1 ⟨G1,L0,Mt,L5,k1⟩;cases m with
  |zero=>exact k1.elim
  |succ m=>
   unfold ft at k1;match q:c L0,k1 with
   | .ok (false,Ml),k1=>exact⟨G1,L0,Mt,false,Ml,L5,q,λH2 G2 NK Md L6=>iteF (k1 _ H2 G2 NK Md L6)⟩
   | .ok (true,Ml),k1=>
    refine⟨G1,L0,Mt,true,Ml,L5,q,λH2 G2 NK Md L6=>EV ?_⟩;refine⟨λσ' H'=>∃G' env' L9,Rel X.K G' H' env' σ' L9/\OutOk X.K G' H' L9 D (ft c g m env'),λσ' H' z=>⟨m,aaw _,z⟩,G2,Ml,NK,L6,?_⟩;have k2:OutOk X.K G1 H1 Mt D ((g Ml).bind λo=>match o with | .nx e=>ft c g m e | .ct e=>ft c g m e | .bk e=>.ok (.nx e) | .rt r=>.ok (.rt r)):=k1;match q2:g Ml,k2 with
    | .ok (.nx e),k2=>exact λσ' H' G' L9 st rel=>⟨G',e,L9,rel,OutOk.after (Md.trans st) k2⟩
    | .ok (.ct e),k2=>exact λσ' H' G' L9 st rel=>⟨G',e,L9,rel,OutOk.after (Md.trans st) k2⟩
    | .ok (.bk e),k2=>exact λσ' H' G' L9 st rel=>k2 σ' H' G' L9 (Md.trans st) rel
    | .ok (.rt r),k2=>exact λv H' G' L9 st rel=>k2 v H' G' L9 (Md.trans st) rel
def Walk(K:W.Frag)(G:Hp)(J:It)(ds:List D):Prop:=∀G' H' es vs fp,Same G G'->Rel K G' H' es vs fp->∀i:Nat,
 (∀d,ds[i]?=some d->J.go i H'/\∀x H2,J.yld i H' x H2->∃G2,Rep K G2 d x/\Rel K G2 H2 es vs fp/\Step G' H' fp G2 H2 fp)/\(i=ds.length->J.stop i H')
abbrev FI:=PV.Env->Res (List D×PV.Env)
inductive tQI(K:W.Frag)(f:FI)(σ:L2.St)(H:Hp)(R:It->Hp->Prop):Prop
 |mk:∀G env fp ds env',Rel K G H env σ fp->f env=.ok (ds,env')->(∀J H' G' L9,Step G H fp G' H' L9->Rel K G' H' env' σ L9->Walk K G' J ds->R J H')->tQI K f σ H R
def QI(X:Cx)(tg e:Expr)(f:FI):Prop:=PI X tg e (tQI X.K f)
theorem kh{t t':TI}(h:PI X tg e t)(k:∀σ H R,t' σ H R->t σ H R):PI X tg e t':=λpr s σ H R I w=>h pr s σ H R I (k σ H R w)
abbrev FG:=D->PV.Env->Res PV.Env
inductive tQG(K:W.Frag)(a:FG)(v:V)(σ:L2.St)(H:Hp)(Q:L2.St->Hp->Prop):Prop
 |mk:∀G env fp d env',Rel K G H env σ fp->Rep K G d v->a d env=.ok env'->(∀σ' G' L9,Step G H fp G' H L9->Rel K G' H env' σ' L9->Q σ' H)->tQG K a v σ H Q
def QG(X:Cx)(tg:Expr)(a:FG):Prop:=PG X tg (tQG X.K a)
def bj(i:Nat):FG:=λd env=>if i<env.length then .ok (env.set i (some (.f,d))) else .bad
theorem AY{t t':TG}(h:PG X tg t)(k:∀v σ H Q,t' v σ H Q->t v σ H Q):PG X tg t':=λpr s σ H v u Q I r w=>h pr s σ H v u Q I r (k v σ H Q w)
theorem wH{tg:List Expr}{t t':Up}(h:UG X tg t)(k:∀v σ H Q,t' v σ H Q->t v σ H Q):UG X tg t':=λpr s σ H v u Q I r w=>h pr s σ H v u Q I r (k v σ H Q w)
theorem bB(hN:X.N.Nodup)(hi:X.N[i]?=some x)(hx:Loc X.env.scope x)(hf:X.fn x=true\/X.env.scope.names.lookup x=some .local:=by first|exact .inl rfl|exact .inr rfl|assumption):QG X (.Name x pos) (bj i):=
 AY (BN (i:=i) hN hi hx hf) λv σ H Q Mh=>by
  obtain⟨G,env,fp,d,env',rel,r,e,k⟩:=Mh;unfold bj at e;split at e
  .rename_i hl;cases e;obtain⟨fq,L6,Md⟩:=(rel.push r).store hl;exact k _ G fq Md L6
  .cases e
abbrev TJ:=List D->PV.Env->Res PV.Env
inductive tQGs(K:W.Frag)(a:TJ)(vs:List V)(σ:L2.St)(H:Hp)(Q:L2.St->Hp->Prop):Prop
 |mk:∀G env fp ds env',Rel K G H env σ fp->Reps K G ds vs->a ds env=.ok env'->(∀σ' G' L9,Step G H fp G' H L9->Rel K G' H env' σ' L9->Q σ' H)->tQGs K a vs σ H Q
def XA(X:Cx)(tg:List Expr)(a:TJ):Prop:=UG X tg (tQGs X.K a)
def jR:TJ:=λds env=>match ds with
 |[]=>.ok env
 |_=>.bad
def cn(a:FG)(b:TJ):TJ:=λds env=>match ds with
 |d::ds=>(a d env).bind λe=>b ds e
 |_=>.bad
theorem lu:XA X [] jR:=wH BO λvs σ H Q Mh=>by
 obtain⟨G,env,fp,ds,env',rel,r,e,k⟩:=Mh;cases ds with
 |nil=>
  cases e;rw[Reps]at r;exact⟨r,k σ G fp .refl rel⟩
 |cons d ds=>cases e
theorem cZ{a:FG}{b:TJ}(h1:QG X tg a)(h2:XA X SJ b)(hs:(assignEach (tg::SJ) X.env).map (·.2)=assign tg X.env::(assignEach SJ X.env).map (·.2):=by rfl):XA X (tg::SJ) (cn a b):=
 wH (yD h1 h2 hs) λvs σ H Q Mh=>by
  obtain⟨G,env,fp,ds,env',rel,r,e,k⟩:=Mh;cases ds with
  |nil=>cases e
  |cons d ds=>
   rw[Reps]at r;obtain⟨y,ys,ev,r1,r2⟩:=r;obtain⟨L0,e1,e2⟩:=aB e;exact⟨y,ys,ev,G,env,fp,d,L0,rel,r1,e1,λσ1 G1 Mt Mk L5=>⟨G1,L0,Mt,ds,env',L5,r2.mono Mk.gg,e2,λσ2 G2 NK Md L6=>k σ2 G2 NK (Mk.trans Md) L6⟩⟩
def tu(n:Nat)(a:TJ):FG:=λd env=>match d with
 | .tup ds=>if ds.length=n then a ds env else .bad
 |_=>.bad
theorem pG{k:Nat}{a:TJ}(hc:X.calm=true)(h:XA X SJ a)(hn:(assignEach SJ X.env).length=n:=by rfl)(Oz:(assignEach SJ X.env).findIdx? (·.1)=none:=by rfl):QG X (.Tuple SJ k pos) (tu n a):=
 AY (Ew hc h hn Oz) λv σ H Q Mh=>by
  obtain⟨G,env,fp,d,env',rel,r,e,k⟩:=Mh;unfold tu at e;split at e
  .rename_i ds;split at e
   .rename_i hl;obtain⟨p,xs,ev,sq,rs⟩:=gR r;exact⟨p,xs,ev,cE rel.gh sq,rs.length.trans hl,G,env,fp,ds,env',rel,rs,e,k⟩
   .cases e
  .cases e
def oX(a:FG)(g:FS):List D->FS
 |[],env=>.ok (.nx env)
 |d::ds,env=>(a d env).bind λe=>(g e).bind λo=>match o with
  | .nx e=>oX a g ds e
  | .ct e=>oX a g ds e
  | .bk e=>.ok (.nx e)
  | .rt r=>.ok (.rt r)
def yw(f:FI)(a:FG)(g:FS):FS:=λenv=>(f env).bind λp=>oX a g p.1 p.2
theorem ly{iter:Expr}{body:List Stmt}{fi:FI}{a:FG}(hp:PassesOwn (model X.prog X.w) X.A X.env X.xe)(hc:X.calm=true)(hi:QI X tg iter fi)(hg:QG X tg a)(hb:Sn (md:=md) X body g)(hs:∀x,foldedSetIterable iter X.env x=pure x:=by intro _;rfl):QS (md:=md) X (.For tg iter body [] pos) (yw fi a g):=
 iC (EB hp hc hi hg hb hs) λD σ H Mh=>by
  obtain⟨G,env,fp,rel,k⟩:=Mh;unfold yw at k;match q:fi env,k with
  | .ok (ds,L0),k=>
   refine⟨G,env,fp,ds,L0,rel,q,λJ H1 G1 Mt Mk L5 wk=>?_⟩;have k:OutOk X.K G H fp D (oX a g ds L0):=k;refine⟨λi m σ' H'=>m=ds.length-i/\i<=ds.length/\∃G' env' L9,Same G1 G'/\Rel X.K G' H' env' σ' L9/\OutOk X.K G' H' L9 D (oX a g (ds.drop i) env'),⟨_,rfl,aaB _,G1,L0,Mt,.refl _,L5,OutOk.after Mk k⟩,?_⟩;rintro i m σ2 H2 ⟨rfl,hi,G2,Ml,NK,gg,L6,k2⟩;obtain⟨w1,w2⟩:=wk G2 H2 _ _ _ gg L6 i;by_cases NI:i<ds.length
   .have hd:ds[i]?=some ds[i]:=ZW NI;obtain⟨go,yl⟩:=w1 _ hd;rw[ab0 NI]at k2;refine .inr ⟨go,λσ' H'=>∃G' env' L9,Same G1 G'/\Rel X.K G' H' env' σ' L9/\OutOk X.K G' H' L9 D (oX a g (ds.drop (i+1)) env'),λσ' H' z=>⟨ds.length-(i+1),by lia,rfl,NI,z⟩,λx H3 y=>?_⟩;obtain⟨G3,rx,Nb,Nj⟩:=yl x H3 y;unfold oX at k2;match q3:a ds[i] Ml,k2 with
    | .ok Px,k2=>
     refine⟨G3,Ml,NK,ds[i],Px,Nb,rx,q3,λσ4 G4 fp4 Oc Nl=>⟨G4,Px,fp4,Nl,?_⟩⟩;have k3:OutOk X.K G2 H2 NK D ((g Px).bind λo=>match o with | .nx e=>oX a g (ds.drop (i+1)) e | .ct e=>oX a g (ds.drop (i+1)) e | .bk e=>.ok (.nx e) | .rt r=>.ok (.rt r)):=k2;match q4:g Px,k3 with
     | .ok (.nx e),k3=>exact λσ' H' G' L9 st rel=>⟨G',e,L9,gg.trans (Nj.gg.trans (Oc.gg.trans st.gg)),rel,OutOk.after (Nj.trans (Oc.trans st)) k3⟩
     | .ok (.ct e),k3=>exact λσ' H' G' L9 st rel=>⟨G',e,L9,gg.trans (Nj.gg.trans (Oc.gg.trans st.gg)),rel,OutOk.after (Nj.trans (Oc.trans st)) k3⟩
     | .ok (.bk e),k3=>exact λσ' H' G' L9 st rel=>k3 σ' H' G' L9 (Nj.trans (Oc.trans st)) rel
     | .ok (.rt r),k3=>exact λv H' G' L9 st rel=>k3 v H' G' L9 (Nj.trans (Oc.trans st)) rel
   .have e:i=ds.length:=by lia
    subst e;rw[List.drop_length]at k2;exact .inl ⟨w2 rfl,k2 σ2 H2 G2 NK .refl L6⟩
def Fp(f:FX):FI:=λenv=>(f env).bind λp=>match p.1.2 with
 | .lst ds=>.ok (ds,p.2)
 |_=>.bad
def kG(f:FX):FI:=λenv=>(f env).bind λp=>match p.1.2 with
 | .tup ds=>.ok (ds,p.2)
 |_=>.bad
variable{l:Expr}
theorem pH{a:WP}(sq:SqL K G a xs)(rs:Reps K G ds xs):Walk K G (VE K a) ds:=by
 intro G' H' es vs fp gg rel i;have OV:SqL K H' a xs:=ik rel.gh (ik gg sq);refine⟨λd hd=>?_,λe=>⟨xs,OV,by rw[rs.length];lia⟩⟩;obtain⟨x,hx,rx⟩:=rs.get hd;refine⟨⟨xs,x,OV,hx⟩,λy H2 ⟨e,hy⟩=>?_⟩;subst e;have:=hy xs OV;rw[hx]at this;cases this;exact⟨G',Rep.mono gg rx,rel,.refl⟩
theorem zg{a:WP}(sq:SqT K G a xs)(rs:Reps K G ds xs):Walk K G (XZ K a) ds:=by
 intro G' H' es vs fp gg rel i;have OV:SqT K H' a xs:=cE rel.gh (cE gg sq);refine⟨λd hd=>?_,λe=>⟨xs,OV,by rw[rs.length];lia⟩⟩;obtain⟨x,hx,rx⟩:=rs.get hd;refine⟨⟨xs,x,OV,hx⟩,λy H2 ⟨e,hy⟩=>?_⟩;subst e;have:=hy xs OV;rw[hx]at this;cases this;exact⟨G',Rep.mono gg rx,rel,.refl⟩
theorem Cw(h:QE X l f):QI X tg l (Fp f):=kh (vD h) λσ H R Mh=>by
 obtain⟨G,env,fp,ds,env',rel,e,k⟩:=Mh;obtain⟨⟨⟨o,d⟩,L0⟩,e1,e⟩:=aB e;dsimp only at e;split at e
 .cases e;refine⟨G,env,fp,_,_,rel,e1,λv H1 G1 Mt Mk L5=>?_⟩;obtain⟨G2,b,rv,L6,Md⟩:=L5.freeze;obtain⟨p,xs,ev,sq,rs⟩:=gY rv;exact⟨p,ev,⟨xs,ik L6.gh sq⟩,k _ H1 G2 b (Mk.trans Md) L6 (pH sq rs)⟩
 .cases e
theorem mU(h:QE X l f):QI X tg l (kG f):=kh (Ez h) λσ H R Mh=>by
 obtain⟨G,env,fp,ds,env',rel,e,k⟩:=Mh;obtain⟨⟨⟨o,d⟩,L0⟩,e1,e⟩:=aB e;dsimp only at e;split at e
 .cases e;refine⟨G,env,fp,_,_,rel,e1,λv H1 G1 Mt Mk L5=>?_⟩;obtain⟨G2,b,rv,L6,Md⟩:=L5.freeze;obtain⟨p,xs,ev,sq,rs⟩:=gR rv;exact⟨p,ev,⟨xs,cE L6.gh sq⟩,k _ H1 G2 b (Mk.trans Md) L6 (zg sq rs)⟩
 .cases e
def kH(f:FX):FI:=λenv=>(f env).bind λp=>match p.1.2 with
 | .str l=>.ok (l.map λc=>.str [c],p.2)
 |_=>.bad
theorem mV(h:QE X l f):QI X tg l (kH f):=kh (E2 h) λσ H R Mh=>by
 obtain⟨G,env,fp,ds,env',rel,e,k⟩:=Mh;obtain⟨⟨⟨o,d⟩,L0⟩,e1,e⟩:=aB e;dsimp only at e;split at e
 .rename_i cs;cases e;refine⟨G,env,fp,_,_,rel,e1,λv H1 G1 Mt Mk L5=>?_⟩;obtain⟨G2,b,rv,L6,Md⟩:=L5.freeze;obtain⟨ev,hl⟩:=eP rv;refine⟨cs,ev,k _ H1 G2 b (Mk.trans Md) L6 λG' H' es vs L9 gg M1 i=>⟨λd hd=>?_,λe=>?_⟩⟩
  .rw[Z9]at hd;cases hc:cs[i]? with
   |none=>rw[hc]at hd;cases hd
   |some c=>
    rw[hc]at hd;cases hd;refine⟨(Z1.mp hc).1,λx H2 ⟨e1,e2⟩=>?_⟩;subst e1;refine⟨G',?_,M1,.refl⟩;rw[e2];show Rep X.K G' (.str [c]) (.str (S [cs.getD i 0]));rw[aab,hc];exact dI (by rw[line_eq];simp)
  .rw[ZT]at e;exact e
 .cases e
def dA(f:FO):FI:=λenv=>(f env).bind λp=>(OA p.2 p.1).bind λd=>match d with
 | .int j=>if -4611686018427387904<=j/\j<4611686018427387904 then .ok ((List.range j.toNat).map λ(k:Nat)=>D.int (k:Int),p.2) else .bad
 |_=>.bad
theorem mW(lo:Int)(n:Nat):Walk K G (V0 lo n) ((List.range n).map λ(k:Nat)=>D.int (lo+(k:Int))):=by
 intro G' H' es vs fp gg rel i;refine⟨λd hd=>?_,λe=>?_⟩
 .rw[Z9]at hd;cases hc:(List.range n)[i]? with
  |none=>rw[hc]at hd;cases hd
  |some c=>
   rw[hc]at hd;cases hd;obtain⟨h1,h2⟩:=Z1.mp hc;rw[aal]at h1;rw[acd]at h2;subst h2;refine⟨h1,λx H2 ⟨e1,e2⟩=>?_⟩;subst e1;exact⟨G',by rw[e2];exact cC _,rel,.refl⟩
 .rw[ZT,aal]at e;exact adH e.symm
theorem f9{a:Expr}{p pos:Pos}(hg:Gl X "range")(hm:X.mg "range" = none)(ha:QO X a fa)(hs:starEach [a] X.env=[(false,eval a X.env)]:=by rfl):QI X tg (.Call (.Name "range" p) [a] [] pos) (dA fa):=
 kh (vE hg hm (ae ha ai hs) hs) λσ H R Mh=>by
  obtain⟨G,env,fp,ds,env',rel,e,k⟩:=Mh;obtain⟨⟨o,L0⟩,e1,e⟩:=aB e;obtain⟨d,e2,e⟩:=aB e;dsimp only at e;split at e
  .rename_i j;split at e
   .rename_i hj;cases e;refine⟨G,env,fp,[o],_,rel,by show(fa env).bind _=_;rw[e1];rfl,λvs H1 G1 Mt Mk L5 O6=>?_⟩;obtain⟨y,ys,ev,k1,k2⟩:=O6;have k2:ys=[]:=k2;subst k2;have hv:=cf (L5.vw k1 e2);subst hv;refine⟨j,ev,by lia,by lia,k _ H1 G1 Mt Mk L5 ?_⟩;have w:=mW (K:=X.K) (G:=G1) 0 j.toNat
    simpa using w
   .cases e
  .cases e
def om(fs:Od):FI:=λenv=>(fs env).bind λp=>(sZ p.2 p.1).bind λd=>match d with
 |[.int i,.int j]=>if(-4611686018427387904<=i/\i<4611686018427387904)/\-4611686018427387904<=j/\j<4611686018427387904 then .ok ((List.range (j-i).toNat).map λ(k:Nat)=>D.int (i+(k:Int)),p.2) else .bad
 |_=>.bad
theorem wI{a:Expr}{fs:Od}{p pos:Pos}(hg:Gl X "range")(hm:X.mg "range" = none)(ha:SI X [a,b] fs)(hs:starEach [a,b] X.env=[(false,eval a X.env),(false,eval b X.env)]:=by rfl)(Q4:starEach [b] X.env=[(false,eval b X.env)]:=by rfl):
  QI X tg (.Call (.Name "range" p) [a,b] [] pos) (om fs):=
 kh (vF hg hm ha hs Q4) λσ H R Mh=>by
  obtain⟨G,env,fp,ds,env',rel,e,k⟩:=Mh;obtain⟨⟨o,L0⟩,e1,e⟩:=aB e;obtain⟨d,e2,e⟩:=aB e;dsimp only at e;split at e
  .rename_i i j;split at e
   .rename_i hj;cases e;refine⟨G,env,fp,o,_,rel,e1,λvs H1 G1 Mt Mk L5 O6=>?_⟩;obtain⟨y,ys,ev,v1,z,zs,Yk,v2,e3⟩:=L5.vws O6 e2;have e3:zs=[]:=e3;subst e3;have h1:=cf v1;have h2:=cf v2;subst h1;subst h2;subst Yk;exact⟨i,j,ev,⟨by lia,by lia,by lia,by lia⟩,k _ H1 G1 Mt Mk L5 (mW i _)⟩
   .cases e
  .cases e
def iW(k:Bool):D->Res (List D)
 | .lst ds=>if k then .ok ds else .bad
 | .tup ds=>if k then .bad else .ok ds
 |_=>.bad
def mI(k1 k2:Bool)(fs:Od):FI:=λenv=>(fs env).bind λp=>match p.1 with
 |[.val d1,.val d2]=>(iW k1 d1).bind λa=>(iW k2 d2).bind λb=>.ok ((a.zip b).map λz=>D.tup [z.1,z.2],p.2)
 |_=>.bad
theorem tF{k:Bool}(e:iW k d=.ok ds)(r:Rep K G d v):∃p xs,v=.ref p/\(if k then SqL K G p xs else SqT K G p xs)/\Reps K G ds xs:=by
 cases d with
 |lst es=>
  cases k with
  |true=>
   cases e;obtain⟨p,xs,e1,q,rs⟩:=gY r;exact⟨p,xs,e1,q,rs⟩
  |false=>cases e
 |tup es=>
  cases k with
  |true=>cases e
  |false=>
   cases e;obtain⟨p,xs,e1,q,rs⟩:=gR r;exact⟨p,xs,e1,q,rs⟩
 |_=>cases e
theorem oq{G':Hp}{k:Bool}(h:Same G G')(r:if k then SqL K G p xs else SqT K G p xs):if k then SqL K G' p xs else SqT K G' p xs:=by
 cases k with
 |true=>exact ik h r
 |false=>exact cE h r
theorem zh{k1 k2:Bool}{p1 p2:WP}{ys:List V}{as bs:List D}(s1:if k1 then SqL K G p1 xs else SqT K G p1 xs)(s2:if k2 then SqL K G p2 ys else SqT K G p2 ys)(r1:Reps K G as xs)(r2:Reps K G bs ys):
  Walk K G (Ya K k1 k2 p1 p2) ((as.zip bs).map λz=>D.tup [z.1,z.2]):=by
 intro G' H' es vs fp gg rel i;have g1:=oq (gg.trans rel.gh) s1;have g2:=oq (gg.trans rel.gh) s2;refine⟨λd hd=>?_,λe=>⟨xs,ys,g1,g2,?_⟩⟩
 .rw[Z9]at hd;cases hz:(as.zip bs)[i]? with
  |none=>rw[hz]at hd;cases hd
  |some z=>
   rw[hz]at hd;cases hd;obtain⟨h1,h2⟩:=ac5.mp hz;obtain⟨x,hx,rx⟩:=r1.get h1;obtain⟨y,hy,ry⟩:=r2.get h2;refine⟨⟨xs,ys,x,y,g1,g2,hx,hy⟩,λv H2 ⟨T,hT,ev,hh⟩=>?_⟩;have e2:=hh xs ys x y g1 g2 hx hy;subst e2;obtain⟨L6,Md⟩:=rel.newF (u:=.tup [x,y]) hT;refine⟨_,?_,L6,Md⟩;rw[Rep];exact⟨T,[x,y],ev,bO,.cons (Rep.mono (gg.trans Md.gg) rx) (.one (Rep.mono (gg.trans Md.gg) ry))⟩
 .rw[ZT,List.length_zip]at e;rw[r1.length,r2.length];exact e
theorem tG(k1 k2:Bool){SJ:List Expr}{kt:Nat}{pt:Pos}{e1 e2:Expr}{fs:Od}{p pos:Pos}(hg:Gl X "zip")(hm:X.mg "zip" = none)(ha:SI X [e1,e2] fs)(he:starEach [e1,e2] X.env=(false,eval e1 X.env)::starEach [e2] X.env:=by rfl)(Nu:(backTo pos (starEach [e2] X.env)).any (·.1)=false:=by rfl):
  QI X (.Tuple SJ kt pt) (.Call (.Name "zip" p) [e1,e2] [] pos) (mI k1 k2 fs):=
 kh (E6 k1 k2 hg hm ha he Nu) λσ H R Mh=>by
  obtain⟨G,env,fp,ds,env',rel,e,k⟩:=Mh;obtain⟨⟨o,L0⟩,e1,e⟩:=aB e;dsimp only at e;split at e
  .rename_i d1 d2;obtain⟨a,ea,e⟩:=aB e;obtain⟨b,eb,e⟩:=aB e;cases e;refine⟨G,env,fp,_,_,rel,e1,λvs H1 G1 Mt Mk L5 O6=>?_⟩;obtain⟨y,ys,ev,v1,z,zs,Yk,v2,e3⟩:=O6;have e3:zs=[]:=e3;subst e3;obtain⟨p1,xs1,Zh,q1,r1⟩:=tF ea v1;obtain⟨p2,UY,Zi,q2,r2⟩:=tF eb v2;subst Zh;subst Zi;subst Yk;exact⟨p1,p2,xs1,UY,ev,oq L5.gh q1,oq L5.gh q2,k _ H1 G1 Mt Mk L5 (zh q1 q2 r1 r2)⟩
  .cases e
end
def fBody(np nn:Nat)(g:FS):List D->Res R:=λds=>if ds.length=np then(g (ds.map (λd=>some (O.f,d))++List.replicate nn none)).bind λo=>match o with
 | .rt r=>.ok r
 | .nx _=>.ok (.f,.non)
 |_=>.bad
 else .bad
theorem jr{K:W.Frag}{G H:Hp}(n:Nat):∀{ds:List D}{vs:List V},Reps K G ds vs->RepE K G H (ds.map (λd=>some (O.f,d))++List.replicate n none) (vs.map some++List.replicate n none) []
 |[],vs,r=>by
  rw[Reps]at r;subst r;show RepE K G H (List.replicate n none) (List.replicate n none) [];induction n with
  |zero=>exact⟨rfl,rfl⟩
  |succ n ih=>exact⟨none,_,rfl,ih⟩
 |d::ds,vs,r=>by
  rw[Reps]at r;obtain⟨y,ys,e,r1,r2⟩:=r;subst e;exact⟨some y,_,rfl,y,[],[],rfl,rfl,jo.mpr ⟨r1,rfl⟩,jr n r2⟩
variable{N:List Str}
theorem dY{P:W1}{w:World}{mg:Str->Option Wp}{base:UF}{ps:List Str}{k:Nat}{g:FS}(Df:Def K mg x st)(sc:FnScope N ps (defScope st))
  (hb:∀(kV doc pm:Wp) (an:Option WP) (MA ct:Wp) (us:List Wp),us.length=ps.length->bindArgs (PySem.W.fnOf x x (fQ st) (dj st) (defScope st) .none kV doc pm an MA ct) ⟨us,[]⟩=pure (ps.zip us))
  (body:∀(f:WP) (MA:Wp) (A:Uf) (outer:List PySem.Env) (s:WF) (H:Hp) (E:XK),Room k (A.deeper (envOfC x (defScope st) s.heap.objs.size f MA))->Sn (md:=.plain) (qP Sz P w K mg base N x (defScope st) f MA A outer s H E).nox (dj st) g):
  Ct P w K mg base x (k+1) (spF K (fBody ps.length (N.length-ps.length) g)):=by
 obtain⟨f,fd,F,m⟩:=Df;refine⟨f,fd,ps,F.ok sc (λvs H Q E h=>?_) (λMA A outer s H vs Q E hr h=>?_),m,F.kp,F.binds hb⟩
 .obtain⟨G,ds,r,_,rs,e,_⟩:=h;unfold fBody at e;split at e
  .rename_i hl;rw[rs.length,hl]
  .cases e
 .obtain⟨G,ds,r,gh,rs,e,q⟩:=h;unfold fBody at e;split at e
  .rename_i hl;refine⟨_,body f MA A outer s H E hr,G,ds.map (λd=>some (O.f,d))++List.replicate (N.length-ps.length) none,[],⟨?_,aa0,(λ_ h=>nomatch h),gh⟩,?_⟩
   .have:=jr (K:=K) (G:=G) (H:=H) (N.length-ps.length) rs;unfold L2.start;rw[rs.length,hl];exact this
   .obtain⟨o,eo,e⟩:=aB e;rw[eo];cases o with
    |rt r'=>
     cases e;exact λv H' G' L9 st rel=>q v H' G' L9 st rel
    |nx env'=>
     cases e;exact λσ' H' G' L9 st rel=>q .non H' G' [] (st.trans (Step.cut λ_ h=>nomatch h)) (rel.nilF.push iV)
    |bk env'=>cases e
    |ct env'=>cases e
  .cases e
def dB(ix:List (Option Nat))(env:PV.Env):PV.Env:=ix.map λj=>j.bind λj=>match env[j]? with
 |some (some r)=>some (O.f,r.2)
 |_=>none
def jj:FT:=λenv=>.ok (true,env)
def fF(a:FG)(c:FT)(f:FX):List D->PV.Env->Res (List D)
 |[],_=>.ok []
 |d::ds,env=>(a d env).bind λe=>(c e).bind λp=>if p.1 then(f p.2).bind λq=>(fF a c f ds q.2).bind λrs=>.ok (q.1.2::rs) else fF a c f ds p.2
def gc(fi:FI)(ix:List (Option Nat))(a:FG)(c:FT)(f:FX):FX:=λenv=>(fi env).bind λp=>(fF a c f p.1 (dB ix p.2)).bind λds=>if ds.length<=sizeLine then .ok ((.l .f,.lst ds),if flatDs ds then p.2 else p.2.map frz) else .bad
theorem ou:∀ds,ds.all (cO .f)=flatDs ds
 |[]=>rfl
 |d::ds=>by rw[adp,flatDs,ou ds,cO]
theorem gf{K:W.Frag}{G1 H:Hp}{es:PV.Env}{σ:L2.St}(ht:∀(i:Nat) (r:R) (v:V),es[i]?=some (some r)->σ[i]?=some (some v)->Rep K G1 r.2 v)(hv:∀(i:Nat) (r:R),es[i]?=some (some r)->∃v,σ[i]?=some (some v)):
  ∀ix:List (Option Nat),RepE K G1 H (dB ix es) (j9 ix σ) []
 |[]=>⟨rfl,rfl⟩
 |none::ix=>⟨none,_,rfl,gf ht hv ix⟩
 |some j::ix=>by
  show RepE K G1 H ((match es[j]? with|some (some r)=>some (O.f,r.2)|_=>none)::dB ix es) ((σ[j]?).bind id::j9 ix σ) [];cases e:es[j]? with
  |none=>exact⟨_,_,rfl,gf ht hv ix⟩
  |some r=>
   cases r with
   |none=>exact⟨_,_,rfl,gf ht hv ix⟩
   |some r=>
    obtain⟨v,ev⟩:=hv j r e;refine⟨_,_,rfl,v,[],[],?_,rfl,jo.mpr ⟨ht j r v e ev,rfl⟩,gf ht hv ix⟩;rw[ev];rfl
variable{fi:FI}
section
variable{scope:Scope}{iter elt:Expr}{ifs:List Expr}{a:FG}
def Yl(X:Cx)(ifs:List Expr)(c:FT):Prop:=Wb X ifs (tQT X.K c)
theorem dJ:Yl X [] jj:=λpr s σ H Q I Mh=>by
 obtain⟨G,env,fp,b,env',rel,e,k⟩:=Mh;cases e;exact B8 pr s σ H Q I (k H G fp .refl rel)
end
section
inductive rCatS(K:W.Frag)(x:V)(y:V)(H:Hp)(Q:VK):Prop
 |mk:∀l b xs zs,x=.ref l->y=.ref b->SqL K H l xs->SqL K H b zs->xs.length+zs.length<=sizeLine->(∀p,H p=none->Q (.ref p) (upd H p (.lst (xs++zs))))->rCatS K x y H Q
theorem Cy:Nk X (binaryOp .Add) (rCatS X.K):=by
 intro pr s σ H x y v u Q I rx ry h;obtain⟨l,b,xs,zs,rfl,rfl,hH,hB,hz,q⟩:=h;cases rx;cases ry;obtain⟨L8,r1,p1,_⟩:=I.list hH;obtain⟨Sj,r2,p2,_⟩:=I.list hB;have l1:=r1.length;have l2:=r2.length;obtain⟨⟨cls,dd,data,sl⟩,ho,hc,n,hd⟩:=id p1.isList;obtain⟨⟨UK,Tj,data2,Tn⟩,Q6,Si,n2,hd2⟩:=id p2.isList;simp only at hc hd Si hd2;subst hc hd Si hd2;have e:L8.toArray++Sj.toArray=(L8++Sj).toArray:=by simp
 refine adG ⟨_,ho,rfl⟩ ⟨_,Q6,rfl⟩ noFill_list_add seq_list_add PySem.F.slot_list_add PySem.F.entry_list_add (PySem.F.args_list_add_2 _ _) (list_addW l b L8.toArray Sj.toArray n n2 dd Tj sl Tn (by rw[ZZ,ZZ];lia)) ⟨ho,Q6,?_⟩;rw[e];exact⟨.ref _,_,I.lnew (t':=s.toks) (r1.append r2) (by rw[aau];lia),rfl,q _ I.fresh⟩
end
def addD:D->D->Res R
 | .int i,.int j=>.ok (.f,.int (i+j))
 | .str a,.str b=>if a.length+b.length<=sizeLine then .ok (.f,.str (a++b)) else .bad
 | .lst a,.lst b=>if a.length+b.length<=sizeLine then .ok (.l .f,.lst (a++b)) else .bad
 | .tup a,.tup b=>if a≠[]/\a.length+b.length<=sizeLine then .ok (.f,.tup (a++b)) else .bad
 |_,_=>.bad
section
theorem ov(rel:Rel K G H es vs fp)(hp:H p=none)(r:Reps K G ds xs):
  ∃G',Rel K G' (upd H p (.tup xs)) (some (.f,.tup ds)::es) (some (.ref p)::vs) fp/\Step G H fp G' (upd H p (.tup xs)) fp:=by
 obtain⟨L6,Md⟩:=rel.newF (u:=.tup xs) hp;refine⟨_,L6.push ?_,Md⟩;rw[Rep];exact⟨p,xs,rfl,bO,r.mono Md.gg⟩
theorem aY:Nk X (binaryOp .Add) (rG X.K addD):=by
 rintro pr s σ H x y v u Q I rx ry ⟨G,fp,es,vs,a,b,r,⟨rel,k⟩,va,vb,e⟩;unfold addD at e;split at e
 .rename_i i j;cases e;cases cf va;cases cf vb;exact EC pr s σ H _ _ v u Q I rx ry ⟨i,j,rfl,rfl,k _ H G fp .refl (rel.push (cC _))⟩
 .rename_i i j;split at e
  .rename_i hl;cases e;obtain⟨e1,h1⟩:=fH va;obtain⟨e2,h2⟩:=fH vb;subst e1;subst e2;refine mP pr s σ H _ _ v u Q I rx ry ⟨_,_,rfl,rfl,by rw[fR,fR];exact hl,?_⟩;rw[B4];exact k _ H G fp .refl (rel.push (dI (by rw[aau];exact hl)))
  .cases e
 .rename_i i j;split at e
  .rename_i hl;cases e;obtain⟨p,xs,e1,h1,r1⟩:=va;obtain⟨p2,UY,e2,h2,r2⟩:=vb;subst e1;subst e2;refine Cy pr s σ H _ _ v u Q I rx ry ⟨p,p2,xs,UY,rfl,rfl,h1,h2,by rw[r1.length,r2.length];exact hl,λq hq=>?_⟩;obtain⟨L6,Md⟩:=rel.newL hq (r1.app r2);exact k _ _ G _ Md L6
  .cases e
 .rename_i i j;split at e
  .rename_i hl;cases e;obtain⟨p,xs,e1,h1,r1⟩:=iF va;obtain⟨p2,UY,e2,h2,r2⟩:=iF vb;subst e1;subst e2;have hx:xs≠[]:=λz=>hl.1 (aaC (by rw[<-r1.length,z];rfl))
   refine BZ pr s σ H _ _ v u Q I rx ry ⟨p,p2,xs,UY,rfl,rfl,cE rel.gh h1,cE rel.gh h2,hx,by rw[r1.length,r2.length];exact hl.2,λz=>?_,λz q hq=>?_⟩
   .have:j=[]:=aaC (by rw[<-r2.length,z];rfl);subst this;rw[aak]at k;exact k _ H G fp .refl (rel.push va)
   .obtain⟨G',L6,Md⟩:=ov rel hq (r1.app r2);exact k _ _ G' _ Md L6
  .cases e
 .cases e
def uQ:D->D->Res R
 | .int i,.int j=>.ok (.f,.int (i-j))
 |_,_=>.bad
theorem jt:Nk X (binaryOp .Sub) (rG X.K uQ):=by
 rintro pr s σ H x y v u Q I rx ry ⟨G,fp,es,vs,a,b,r,⟨rel,k⟩,va,vb,e⟩;unfold uQ at e;split at e
 .rename_i i j;cases e;cases cf va;cases cf vb;exact ED pr s σ H _ _ v u Q I rx ry ⟨i,j,rfl,rfl,k _ H G fp .refl (rel.push (cC _))⟩
 .cases e
def fI(i:Int):Bool:=decide (-(2 ^ 64)<i/\i<2 ^ 64)
def Iv:D->D->Res R
 | .int i,.int j=>if fI i||fI j then .ok (.f,.int (i*j)) else .bad
 |_,_=>.bad
theorem Fq:Nk X (binaryOp .Mult) (rG X.K Iv):=by
 rintro pr s σ H x y v u Q I rx ry ⟨G,fp,es,vs,a,b,r,⟨rel,k⟩,va,vb,e⟩;unfold Iv at e;split at e
 .rename_i i j;split at e
  .rename_i hc;cases e;cases cf va;cases cf vb;have hc:CMul i j:=by
    rw[Z3]at hc;exact hc.imp aa8 aa8
   exact EE pr s σ H _ _ v u Q I rx ry ⟨i,j,rfl,rfl,hc,k _ H G fp .refl (rel.push (cC _))⟩
  .cases e
 .cases e
def eQ:D->D->Res R
 | .int i,.int j=>if 0<j/\j<1073741824 then .ok (.f,.int (i / j)) else .bad
 |_,_=>.bad
theorem dZ:Nk X (binaryOp .FloorDiv) (rG X.K eQ):=by
 rintro pr s σ H x y v u Q I rx ry ⟨G,fp,es,vs,a,b,r,⟨rel,k⟩,va,vb,e⟩;unfold eQ at e;split at e
 .rename_i i j;split at e
  .rename_i hc;cases e;cases cf va;cases cf vb;exact BQ pr s σ H _ _ v u Q I rx ry ⟨i,j,rfl,rfl,hc,k _ H G fp .refl (rel.push (cC _))⟩
  .cases e
 .cases e
def dm:D->D->Res R
 | .int i,.int j=>if 0<j then .ok (.f,.int (i%j)) else .bad
 |_,_=>.bad
theorem bF:Nk X (binaryOp .Mod) (rG X.K dm):=by
 rintro pr s σ H x y v u Q I rx ry ⟨G,fp,es,vs,a,b,r,⟨rel,k⟩,va,vb,e⟩;unfold dm at e;split at e
 .rename_i i j;split at e
  .rename_i hc;cases e;cases cf va;cases cf vb;exact EF pr s σ H _ _ v u Q I rx ry ⟨i,j,rfl,rfl,hc,k _ H G fp .refl (rel.push (cC _))⟩
  .cases e
 .cases e
def wJ:D->D->Res R
 | .int i,.int j=>if 0<=j/\j<=1000000/\i.natAbs<2 ^ 64 then .ok (.f,.int (i ^ j.toNat)) else .bad
 |_,_=>.bad
theorem pI:Nk X (binaryOp .Pow) (rG X.K wJ):=by
 rintro pr s σ H x y v u Q I rx ry ⟨G,fp,es,vs,a,b,r,⟨rel,k⟩,va,vb,e⟩;unfold wJ at e;split at e
 .rename_i i j;split at e
  .rename_i hc;cases e;cases cf va;cases cf vb;exact EG pr s σ H _ _ v u Q I rx ry ⟨i,j,rfl,rfl,hc,k _ H G fp .refl (rel.push (cC _))⟩
  .cases e
 .cases e
def VI:D->D->Res R
 | .int i,.int j=>.ok (.f,.bl (decide (i<j)))
 | .str a,.str b=>.ok (.f,.bl (decide (a<b)))
 |_,_=>.bad
theorem Iw:Nk X (compareOp .Lt) (rG X.K VI):=by
 rintro pr s σ H x y v u Q I rx ry ⟨G,fp,es,vs,a,b,r,⟨rel,k⟩,va,vb,e⟩;unfold VI at e;split at e
 .rename_i i j;cases e;cases cf va;cases cf vb;exact HZ pr s σ H _ _ v u Q I rx ry ⟨i,j,rfl,rfl,k _ H G fp .refl (rel.push (dH _))⟩
 .rename_i i j;cases e;obtain⟨e1,h1⟩:=fH va;obtain⟨e2,h2⟩:=fH vb;subst e1;subst e2;refine vH pr s σ H _ _ v u Q I rx ry ⟨_,_,rfl,rfl,?_⟩;rw[eF,eF];exact k _ H G fp .refl (rel.push (dH _))
 .cases e
def SA:D->D->Res R
 | .int i,.int j=>.ok (.f,.bl (decide (i<=j)))
 | .str a,.str b=>.ok (.f,.bl (!decide (b<a)))
 |_,_=>.bad
theorem pJ:Nk X (compareOp .LtE) (rG X.K SA):=by
 rintro pr s σ H x y v u Q I rx ry ⟨G,fp,es,vs,a,b,r,⟨rel,k⟩,va,vb,e⟩;unfold SA at e;split at e
 .rename_i i j;cases e;cases cf va;cases cf vb;exact L2.H0 pr s σ H _ _ v u Q I rx ry ⟨i,j,rfl,rfl,k _ H G fp .refl (rel.push (dH _))⟩
 .rename_i i j;cases e;obtain⟨e1,h1⟩:=fH va;obtain⟨e2,h2⟩:=fH vb;subst e1;subst e2;refine vT pr s σ H _ _ v u Q I rx ry ⟨_,_,rfl,rfl,?_⟩;rw[eF,eF];exact k _ H G fp .refl (rel.push (dH _))
 .cases e
def Q8:D->D->Res R
 | .int i,.int j=>.ok (.f,.bl (decide (j<i)))
 |_,_=>.bad
theorem jS:Nk X (compareOp .Gt) (rG X.K Q8):=by
 rintro pr s σ H x y v u Q I rx ry ⟨G,fp,es,vs,a,b,r,⟨rel,k⟩,va,vb,e⟩;unfold Q8 at e;split at e
 .rename_i i j;cases e;cases cf va;cases cf vb;exact Ia pr s σ H _ _ v u Q I rx ry ⟨i,j,rfl,rfl,k _ H G fp .refl (rel.push (dH _))⟩
 .cases e
def geD:D->D->Res R
 | .int i,.int j=>.ok (.f,.bl (decide (j<=i)))
 |_,_=>.bad
end
abbrev FDs:=PV.Env->Res (List D×PV.Env)
inductive tDs(K:W.Frag)(f:FDs)(σ:L2.St)(H:Hp)(Q:List V->Hp->Prop):Prop
 |mk:∀G env fp ds env',Rel K G H env σ fp->f env=.ok (ds,env')->(∀vs H' G' L9,Step G H fp G' H' L9->Rel K G' H' env' σ L9->Reps K G' ds vs->Q vs H')->tDs K f σ H Q
def Wn(X:Cx)(es:List Expr)(f:FDs):Prop:=PA X es (tDs X.K f)
def aX:FDs:=λenv=>.ok ([],env)
def aw(f:FX)(g:FDs):FDs:=λenv=>(f env).bind λp=>(g p.2).bind λq=>.ok (p.1.2::q.1,q.2)
section
theorem aE:Wn X [] aX:=tf gO λσ H Q Mh=>by
 obtain⟨G,env,fp,o,env',rel,e,k⟩:=Mh;cases e;exact k [] H G fp .refl rel .nil
theorem aj{e:Expr}{es:List Expr}{f:FX}{g:FDs}(h:QE X e f)(hs:Wn X es g)(Oz:starEach (e::es) X.env=(false,eval e X.env)::starEach es X.env:=by rfl):Wn X (e::es) (aw f g):=
 tf (di h hs Oz) λσ H Q Mh=>by
  obtain⟨G,env,fp,o,env',rel,e,k⟩:=Mh;obtain⟨⟨r,L0⟩,e1,e⟩:=aB e;obtain⟨⟨ds,Ml⟩,e2,e⟩:=aB e;cases e;refine⟨G,env,fp,r,L0,rel,e1,λv H1 G1 Mt Mk L5=>?_⟩;obtain⟨G2,b,rv,L6,Md⟩:=L5.freeze;exact⟨G2,L0,b,ds,Ml,L6,e2,λvs H3 G3 Qh Nj Nb rs=>k _ H3 G3 Qh (Mk.trans (Md.trans Nj)) Nb (.cons (Rep.mono Nj.gg rv) rs)⟩
def iG(fs:FDs):FX:=λenv=>(fs env).bind λp=>if p.1.length<=1000 then .ok ((.f,.tup p.1),p.2) else .bad
def fG(fs:FDs):FX:=λenv=>(fs env).bind λp=>if p.1.length<=1000 then .ok ((.l .f,.lst p.1),p.2) else .bad
variable{es:List Expr}{fs:FDs}
theorem cP{x1}(h:Wn X es fs):QE X (.Tuple es x1 pos) (iG fs):=bW (AB h) λσ H Q Mh=>by
 obtain⟨G,env,fp,r,env',rel,e,k⟩:=Mh;obtain⟨⟨ds,L0⟩,e1,e⟩:=aB e;dsimp only at e;split at e
 .rename_i hl;cases e;refine⟨G,env,fp,ds,env',rel,e1,λvs H1 G1 Mt Mk L5 rs=>⟨by rw[rs.length,line_eq];lia,λp hp=>?_⟩⟩;obtain⟨G2,L6,Md⟩:=ov L5 hp rs;exact k _ _ G2 _ (Mk.trans Md) L6
 .cases e
theorem bC(h:Wn X es fs):QE X (.List es pos) (fG fs):=bW (AD h) λσ H Q Mh=>by
 obtain⟨G,env,fp,r,env',rel,e,k⟩:=Mh;obtain⟨⟨ds,L0⟩,e1,e⟩:=aB e;dsimp only at e;split at e
 .rename_i hl;cases e;refine⟨G,env,fp,ds,env',rel,e1,λvs H1 G1 Mt Mk L5 rs=>⟨by rw[rs.length,line_eq];lia,λp hp=>?_⟩⟩;obtain⟨L6,Md⟩:=L5.newL hp rs;exact k _ _ G1 _ (Mk.trans Md) L6
 .cases e
def Mg:D->D->Res R
 | .lst ds,.int i=>match Ow ds i with
  |some d=>.ok (.f,d)
  |none=>.bad
 | .tup ds,.int i=>match Ow ds i with
  |some d=>.ok (.f,d)
  |none=>.bad
 | .str l,.int i=>match Ow l i with
  |some c=>.ok (.f,.str [c])
  |none=>.bad
 |_,_=>.bad
theorem tH{i:Int}(r:Reps K G ds xs)(e:Ow ds i=some d):∃v,Ow xs i=some v/\Rep K G d v:=by
 unfold Ow at e |-;rw[r.length];cases hn:ixN ds.length i with
 |none=>rw[hn]at e;cases e
 |some j=>
  rw[hn]at e;exact r.get e
theorem Iy:V6 X (rG X.K Mg):=by
 rintro value slice pr s σ H x y v u Q I rx ry ⟨G,fp,es,vs,a,b,r,⟨rel,k⟩,va,vb,e⟩ hs;unfold Mg at e;split at e
 .rename_i ds i;split at e
  .rename_i d hd;cases e;obtain⟨p,xs,ev,sq,rs⟩:=va;subst ev;cases cf vb;obtain⟨w',hw,UM⟩:=tH rs hd;exact vQ value slice pr s σ H _ _ v u Q I rx ry ⟨p,xs,i,w',rfl,rfl,sq,hw,k _ H G fp .refl (rel.push UM)⟩ hs
  .cases e
 .rename_i ds i;split at e
  .rename_i d hd;cases e;obtain⟨p,xs,ev,sq,rs⟩:=iF va;subst ev;cases cf vb;obtain⟨w',hw,UM⟩:=tH rs hd;exact ER value slice pr s σ H _ _ v u Q I rx ry ⟨p,xs,i,w',rfl,rfl,cE rel.gh sq,hw,k _ H G fp .refl (rel.push UM)⟩ hs
  .cases e
 .rename_i l i;split at e
  .rename_i c hc;cases e;obtain⟨ev,hl⟩:=fH va;subst ev;cases cf vb;refine ES value slice pr s σ H _ _ v u Q I rx ry ⟨_,i,c,rfl,rfl,by rw[fR];exact hl,by rw[eF];exact hc,?_⟩ hs;exact k _ H G fp .refl (rel.push (dI (l:=[c]) (by rw[line_eq];simp)))
  .cases e
 .cases e
variable{a:Expr}{fb:FO}
theorem bz(ha:QO X a fa)(hb:QO X b fb)(hs:qY b:=by exact λ_ _=>rfl):QE X (.Subscript a b pos) (aF Mg fa fb):=bW (EO Iy ha hb hs) λ_ _ _=>tj
abbrev FP:=PV.Env->Res (Option Int×PV.Env)
inductive tQP(K:W.Frag)(f:FP)(σ:L2.St)(H:Hp)(Q:Option Int->Hp->Prop):Prop
 |mk:∀G env fp i env',Rel K G H env σ fp->f env=.ok (i,env')->(∀H' G' L9,Step G H fp G' H' L9->Rel K G' H' env' σ L9->Q i H')->tQP K f σ H Q
def QP(X:Cx)(e:Option Expr)(f:FP):Prop:=PO X e (tQP X.K f)
def dn:FP:=λenv=>.ok (none,env)
def cM(f:FX):FP:=λenv=>(f env).bind λp=>match p.1.2 with
 | .int i=>.ok (some i,p.2)
 |_=>.bad
theorem AZ{e:Option Expr}{t t':TO}(h:PO X e t)(k:∀σ H Q,t' σ H Q->t σ H Q):PO X e t':=λpr s σ H Q I w=>h pr s σ H Q I (k σ H Q w)
theorem bJ:QP X none dn:=AZ BX λσ H Q Mh=>by
 obtain⟨G,env,fp,i,env',rel,e,k⟩:=Mh;cases e;exact k H G fp .refl rel
theorem ba(h:QE X e f):QP X (some e) (cM f):=AZ (BY h) λσ H Q Mh=>by
 obtain⟨G,env,fp,i,env',rel,e,k⟩:=Mh;obtain⟨⟨⟨o,d⟩,L0⟩,e1,e⟩:=aB e;dsimp only at e;split at e
 .rename_i j;cases e;refine⟨G,env,fp,_,_,rel,e1,λv H1 G1 Mt Mk L5=>?_⟩;have hv:=L5.top;obtain⟨b,L6,Md⟩:=L5.drop;exact⟨j,iE hv,k H1 G1 b (Mk.trans Md) L6⟩
 .cases e
def eV{α:Type}(xs:List α)(lo hi:Option Int):List α:=(xs.drop (HT.sIx xs.length 0 lo)).take (HT.sIx xs.length xs.length hi-HT.sIx xs.length 0 lo)
def UZ(k:D)(lo hi:Option Int):Res R:=match k with
 | .lst ds=>.ok (.l .f,.lst (eV ds lo hi))
 | .tup ds=>if ¬ (HT.sIx ds.length 0 lo=0/\HT.sIx ds.length ds.length hi=ds.length) then .ok (.f,.tup (eV ds lo hi)) else .bad
 | .str l=>.ok (.f,.str (eV l lo hi))
 |_=>.bad
def eSl(fa:FO)(lo hi:FP):FX:=λenv=>(fa env).bind λp=>(lo p.2).bind λq=>(hi q.2).bind λt=>(OA t.2 p.1).bind λd=>(UZ d q.1 t.1).bind λr=>.ok (r,t.2)
theorem tI{lo hi:Option Int}(r:Reps K G ds xs):Reps K G (eV ds lo hi) (AE xs lo hi):=by
 unfold eV AE;rw[r.length];exact(r.drop _).take _
theorem Cz(xs:List α)(lo hi:Option Int):(eV xs lo hi).length<=xs.length:=by
 unfold eV;rw[Z8,aai];lia
inductive rSl(K:W.Frag)(x:V)(lo:Option Int)(hi:Option Int)(H:Hp)(Q:VK):Prop
 |mk:∀G fp es vs d r,Goes K H G fp es vs r Q->Vw K G H d x->UZ d lo hi=.ok r->rSl K x lo hi H Q
theorem Fs:UL X (rSl X.K):=by
 rintro pr s σ H x v vl vu lo hi sl Q I rx hs pl pu ⟨G,fp,es,vs,d,r,⟨rel,k⟩,vd,e⟩;unfold UZ at e;split at e
 .rename_i ds;cases e;obtain⟨p,xs,ev,sq,rs⟩:=vd;subst ev;refine B1 pr s σ H _ v vl vu lo hi sl Q I rx hs pl pu ⟨p,xs,rfl,sq,λq hq=>?_⟩;obtain⟨L6,Md⟩:=rel.newL hq (tI (lo:=lo) (hi:=hi) rs);exact k _ _ G _ Md L6
 .rename_i ds;split at e
  .rename_i hw;cases e;obtain⟨p,xs,ev,sq,rs⟩:=iF vd;subst ev;refine EN pr s σ H _ v vl vu lo hi sl Q I rx hs pl pu ⟨p,xs,rfl,cE rel.gh sq,by rw[rs.length];exact hw,λq hq=>?_⟩;obtain⟨G2,L6,Md⟩:=ov rel hq (tI (lo:=lo) (hi:=hi) rs);exact k _ _ G2 _ Md L6
  .cases e
 .rename_i l;cases e;obtain⟨ev,hl⟩:=fH vd;subst ev;exact EZ pr s σ H _ v vl vu lo hi sl Q I rx hs pl pu ⟨l,rfl,hl,k _ H G fp .refl (rel.push (dI (l:=EY l lo hi) (aaP (Cz l lo hi) hl)))⟩
 .cases e
def rB(env:PV.Env)(i:Nat):Bool:=match env[i]? with
 |some (some (_,.lst _))=>true
 |_=>false
theorem tJ{es:PV.Env}(rel:Rel K G H es σ fp)(h:rB es i=true):∃v,σ[i]?=some (some v)/\X5 K "list" v H:=by
 unfold rB at h;split at h
 .rename_i o ds hr;obtain⟨v,ev,rv⟩:=rel.view hr;obtain⟨p,xs,e,sq,_⟩:=gY rv;subst e;exact⟨_,ev,.inl ⟨rfl,xs,sq⟩⟩
 .cases h
def A3(i:Nat)(f:FX):FX:=λenv=>if rB env i then(f env).bind λp=>match p.2[i]? with
 |some (some (.l .f,.lst ds))=>if ds.length<sizeLine then .ok ((.f,.non),p.2.set i (some (.l .f,.lst (ds++[p.1.2])))) else .bad
 |_=>.bad
 else .bad
theorem gj{o:Expr}{apos Mu:Pos}(ho:PE X o (qU i))(he:QE X e f)
  (Oe:attributeBase o "append" X.env (eval o X.env)=eval o X.env:=by rfl)
  (Qy:((backTo Mu (starEach [e] X.env)).all (λx=>!x.1)&&(backToKw Mu (keywordEach [] X.env)).all (λx=>x.1.isSome)&&decide ([e].length+([]:List Keyword).length+(if([]:List Keyword).isEmpty then 0 else 1)<30))=true:=by rfl)
  (OU:(apos.endLine==Mu.line)=true:=by rfl) (hs:starEach [e] X.env=(false,eval e X.env)::starEach [] X.env:=by rfl) (N2:(backTo Mu (starEach [] X.env)).any (·.1)=false:=by rfl):
  QE X (.Call (.Attribute o "append" apos) [e] [] Mu) (A3 i f):=by
 refine bW (yM ace ab6 ab7 gW ho (aj he aE hs) Oe Qy OU hs N2) λσ H Q MC=>?_
 obtain⟨G,env,fp,r,env',rel,e,k⟩:=MC;unfold A3 at e;split at e
 .rename_i Wo;obtain⟨v,ev,ty⟩:=tJ rel Wo;obtain⟨⟨r1,L0⟩,e1,e⟩:=aB e;dsimp only at e;split at e
  .rename_i ds To;split at e
   .rename_i hl;cases e;refine⟨v,ev,ty,G,env,fp,[r1.2],L0,rel,by show(f env).bind _=_;rw[e1];rfl,λvs H1 G1 Mt Mk L5 rs=>?_⟩;rw[Reps]at rs;obtain⟨y,ys,eys,ry,rn⟩:=rs;rw[Reps]at rn;subst rn;obtain⟨p,xs,ep,hp,Uv,cg⟩:=L5.chg (ds':=ds++[r1.2]) To;rw[ev]at ep;cases ep;obtain⟨fq,L6,Md⟩:=cg (xs++[y]) (Uv.app (.one ry));exact⟨p,xs,y,rfl,eys,hp,by rw[Uv.length];exact hl,k _ _ G1 fq (Mk.trans Md) (L6.push iV)⟩
   .cases e
  .cases e
 .cases e
def Iz:List D->Res R
 |[.lst ds]=>.ok (.f,.int ds.length)
 |[.tup ds]=>.ok (.f,.int ds.length)
 |[.str l]=>.ok (.f,.int l.length)
 |_=>.bad
theorem mX(h:VN K G H [d] xs):∃v,xs=[v]/\Vw K G H d v:=by
 obtain⟨y,ys,e,v1,e2⟩:=h;have e2:ys=[]:=e2;subst e2;exact⟨y,e,v1⟩
theorem K0{d':D}(h:VN K G H [d,d'] xs):∃v w,xs=[v,w]/\Vw K G H d v/\Vw K G H d' w:=by
 obtain⟨y,ys,e,v1,h2⟩:=h;obtain⟨z,e2,v2⟩:=mX h2;subst e2;exact⟨y,z,e,v1,v2⟩
theorem Ft:dF X (.builtin "len") (rC X.K Iz):=by
 rintro pr s σ H xs us Q I rx ⟨G,fp,es,vs,ds,r,⟨rel,k⟩,vd,e⟩;unfold Iz at e;split at e
 .rename_i ds;cases e;obtain⟨v,ev,p,ys,ep,sq,rs⟩:=mX vd;subst ev;subst ep;refine j7 pr s σ H _ us Q I rx ⟨p,ys,rfl,.inl sq,?_⟩;rw[rs.length];exact k _ H G fp .refl (rel.push (cC _))
 .rename_i ds;cases e;obtain⟨v,ev,vt⟩:=mX vd;obtain⟨p,ys,ep,sq,rs⟩:=iF vt;subst ev;subst ep;refine j7 pr s σ H _ us Q I rx ⟨p,ys,rfl,.inr (cE rel.gh sq),?_⟩;rw[rs.length];exact k _ H G fp .refl (rel.push (cC _))
 .rename_i l;cases e;obtain⟨v,ev,vt⟩:=mX vd;obtain⟨ep,hl⟩:=fH vt;subst ev;subst ep;refine pe pr s σ H _ us Q I rx ⟨S l,rfl,by rw[fR];exact hl,?_⟩;rw[fR];exact k _ H G fp .refl (rel.push (cC _))
 .cases e
def CA:List D->Res R
 |[.lst ds]=>.ok (.l .f,.lst ds)
 |[.tup ds]=>.ok (.l .f,.lst ds)
 |_=>.bad
theorem CB:dF X (.type "list") (rC X.K CA):=by
 rintro pr s σ H xs us Q I rx ⟨G,fp,es,vs,ds,r,⟨rel,k⟩,vd,e⟩;unfold CA at e;split at e
 .rename_i ds;cases e;obtain⟨v,ev,p,ys,ep,sq,rs⟩:=mX vd;subst ev;subst ep;refine j8 pr s σ H _ us Q I rx ⟨p,ys,rfl,.inl sq,λq hq=>?_⟩;obtain⟨L6,Md⟩:=rel.newL hq rs;exact k _ _ G _ Md L6
 .rename_i ds;cases e;obtain⟨v,ev,vt⟩:=mX vd;obtain⟨p,ys,ep,sq,rs⟩:=iF vt;subst ev;subst ep;refine j8 pr s σ H _ us Q I rx ⟨p,ys,rfl,.inr (cE rel.gh sq),λq hq=>?_⟩;obtain⟨L6,Md⟩:=rel.newL hq rs;exact k _ _ G _ Md L6
 .cases e
def ki:List D->Res R
 |[.lst ds]=>.ok (.f,.tup ds)
 |[.tup ds]=>.ok (.f,.tup ds)
 |_=>.bad
theorem kX:dF X (.type "tuple") (rC X.K ki):=by
 rintro pr s σ H xs us Q I rx ⟨G,fp,es,vs,ds,r,⟨rel,k⟩,vd,e⟩;unfold ki at e;split at e
 .rename_i ds;cases e;obtain⟨v,ev,p,ys,ep,sq,rs⟩:=mX vd;subst ev;subst ep;refine jl pr s σ H _ us Q I rx ⟨p,ys,rfl,.inl ⟨sq,λq hq=>?_⟩⟩;obtain⟨G2,L6,Md⟩:=ov rel hq rs;exact k _ _ G2 _ Md L6
 .rename_i ds;cases e;obtain⟨v,ev,vt⟩:=mX vd;obtain⟨p,ys,ep,sq,rs⟩:=iF vt;subst ev;subst ep;exact jl pr s σ H _ us Q I rx ⟨p,ys,rfl,.inr ⟨cE rel.gh sq,k _ H G fp .refl (rel.push vt)⟩⟩
 .cases e
def pK:List D->Option (List Bool)
 |[]=>some []
 | .bl b::ds=>(pK ds).map (b:: ·)
 |_=>none
def gk:List D->Option (List Int)
 |[]=>some []
 | .int b::ds=>(gk ds).map (b:: ·)
 |_=>none
theorem mY{K:W.Frag}{G:Hp}:∀{ds:List D}{bs:List Bool}{xs:List V},pK ds=some bs->Reps K G ds xs->xs=bs.map V.bl
 |[],_,_,e,r=>by
  cases e;rw[Reps]at r;exact r
 | .bl b::ds,_,_,e,r=>by
  rw[pK,aaH]at e;obtain⟨bs,e1,e2⟩:=e;subst e2;rw[Reps]at r;obtain⟨y,ys,e3,r1,r2⟩:=r;rw[e3,kC r1,mY e1 r2];rfl
 | .non::_,_,_,e,_ | .int _::_,_,_,e,_ | .str _::_,_,_,e,_ | .tup _::_,_,_,e,_ | .lst _::_,_,_,e,_ | .dct _ _ _::_,_,_,e,_=>by simp[pK]at e
theorem lz{K:W.Frag}{G:Hp}:∀{ds:List D}{bs:List Int}{xs:List V},gk ds=some bs->Reps K G ds xs->xs=bs.map V.int
 |[],_,_,e,r=>by
  cases e;rw[Reps]at r;exact r
 | .int b::ds,_,_,e,r=>by
  rw[gk,aaH]at e;obtain⟨bs,e1,e2⟩:=e;subst e2;rw[Reps]at r;obtain⟨y,ys,e3,r1,r2⟩:=r;rw[e3,iE r1,lz e1 r2];rfl
 | .non::_,_,_,e,_ | .bl _::_,_,_,e,_ | .str _::_,_,_,e,_ | .tup _::_,_,_,e,_ | .lst _::_,_,_,e,_ | .dct _ _ _::_,_,_,e,_=>by simp[gk]at e
theorem uR(ns:List Int):gk (ns.map D.int)=some ns:=by
 induction ns with
 |nil=>rfl
 |cons n ns ih=>rw[aae,gk,ih];rfl
theorem wK(ns:List Bool):pK (ns.map D.bl)=some ns:=by
 induction ns with
 |nil=>rfl
 |cons n ns ih=>rw[aae,pK,ih];rfl
def tL:D->Option (List D)
 | .lst ds=>some ds
 | .tup ds=>some ds
 |_=>none
theorem wL(gh:Same G H)(e:tL d=some ds)(h:Vw K G H d v):∃p xs,v=.ref p/\(SqL K H p xs\/SqT K H p xs)/\Reps K G ds xs:=by
 cases d with
 |lst es=>
  cases e;obtain⟨p,xs,ev,sq,rs⟩:=h;exact⟨p,xs,ev,.inl sq,rs⟩
 |tup es=>
  cases e;obtain⟨p,xs,ev,sq,rs⟩:=gR h;exact⟨p,xs,ev,.inr (cE gh sq),rs⟩
 |_=>cases e
def A4:List D->Res R
 |[d]=>match(tL d).bind pK with
  |some bs=>.ok (.f,.bl (bs.all id))
  |none=>.bad
 |_=>.bad
theorem zi(bs:List Bool):(bs.map V.bl).all Ij=true:=by
 rw[aaW,aad];intro b _;rfl
theorem CD(bs:List Bool):(bs.map V.bl).all E3=bs.all id:=by
 rw[aaW];rfl
theorem tM(hc:X.calm=true):dF X (.builtin "all") (rC X.K A4):=by
 rintro pr s σ H xs us Q I rx ⟨G,fp,es,vs,ds,r,⟨rel,k⟩,vd,e⟩;unfold A4 at e;split at e
 .rename_i d;split at e
  .rename_i bs hb;cases e;obtain⟨l,hl,hb⟩:=abt.mp hb;obtain⟨v,ev,vt⟩:=mX vd;obtain⟨p,ys,ep,sq,rs⟩:=wL rel.gh hl vt;have:=mY hb rs;subst this;subst ev;subst ep;refine yR hc pr s σ H _ us Q I rx ⟨p,_,rfl,sq,zi bs,?_⟩;rw[CD];exact k _ H G fp .refl (rel.push (dH _))
  .cases e
 .cases e
def maxD:List D->Res R
 |[d]=>match(tL d).bind gk with
  |some (n::ns)=>.ok (.f,.int (qZ (n::ns)))
  |_=>.bad
 |[.int i,.int j]=>.ok (.f,.int (if i<j then j else i))
 |_=>.bad
theorem pL{ns:List Int}(gh:Same G H)(hb:(tL d).bind gk=some ns)(vt:Vw K G H d v):∃p,v=.ref p/\(SqL K H p (ns.map V.int)\/SqT K H p (ns.map V.int)):=by
 obtain⟨l,hl,hb⟩:=abt.mp hb;obtain⟨p,ys,ep,sq,rs⟩:=wL gh hl vt;have:=lz hb rs;subst this;exact⟨p,ep,sq⟩
end
mutual
def Mv:D->D->Bool
 | .non,.non=>true
 | .bl a,.bl b=>a==b
 | .bl a,.int j=>(if a then 1 else 0)==j
 | .int i,.bl b=>i==(if b then 1 else 0)
 | .int i,.int j=>i==j
 | .str a,.str b=>a==b
 | .tup a,.tup b=>kI a b
 | .lst a,.lst b=>kI a b
 |_,_=>false
def kI:List D->List D->Bool
 |[],[]=>true
 |a::as,b::bs=>Mv a b&&kI as bs
 |_,_=>false
end
mutual
def plainD:Nat->D->Bool
 |n+1,.tup ds=>plainDs n ds
 |n+1,.lst ds=>plainDs n ds
 | 0,.tup _=>false
 | 0,.lst _=>false
 |_,.dct _ _ _=>false
 |_,_=>true
def plainDs:Nat->List D->Bool
 |_,[]=>true
 |n,d::ds=>plainD n d&&plainDs n ds
end
theorem plainDs_mem:∀{n:Nat}{ds:List D},plainDs n ds=true->∀{i:Nat}{d:D},ds[i]?=some d->plainD n d=true
 |_,[],_,_,_,e=>by simp at e
 |n,a::ds,h,0,d,e=>by
  rw[plainDs,ZP]at h;simp at e;rw[<-e];exact h.1
 |n,a::ds,h,i+1,d,e=>by
  rw[plainDs,ZP]at h;exact plainDs_mem h.2 (i:=i) (by simpa using e)
theorem ow:∀{a b:List D},a.length≠b.length->kI a b=false
 |[],[],h=>absurd rfl h
 |[],_::_,_=>by simp![kI]
 |_::_,[],_=>by simp![kI]
 |x::xs,y::ys,h=>by
  rw[kI,ow (λe=>h (by simp[e])),abu]
theorem jT:∀{a b:List D},a.length=b.length->(List.range a.length).all (λj=>Mv (a.getD j .non) (b.getD j .non))=kI a b
 |[],[],_=>rfl
 |[],_::_,h=>by simp at h
 |_::_,[],h=>by simp at h
 |x::xs,y::ys,h=>by
  rw[kI,<-jT (a:=xs) (b:=ys) (by simpa using h),ZR,List.range_succ_eq_map,adp,aaW];rfl
variable{pr:List (WP×Obj)}{s:WF}{tk:Bool}{A:Uf}
section
theorem lA(I:Inv X pr σ H s){ys:List V}(h:SqL X.K H p xs)(h':SqT X.K H p ys):False:=by
 obtain⟨us,_,p1,_⟩:=I.list h;obtain⟨ws,_,p2,_⟩:=I.tuple h';exact SeqAt.ne_of_list_tuple p1.isList (show s.heap.IsTuple p ws.toArray from p2) rfl
theorem wM{ks vs:List D}(h:plainD n (.dct tk ks vs)=true):False:=by cases n <;> (simp![plainD]at h;cases h)
inductive Kd(X:Cx)(H:Hp)(s:WF):D->V->Wp->Prop
 |n:Kd X H s .non .non .none
 |b (b:Bool):Kd X H s (.bl b) (.bl b) (.bool b)
 |i (i:Int) (t:_):Kd X H s (.int i) (.int i) (.int i t)
 |s (l:List Nat) (z:Str) (t:_):z=S l->Kd X H s (.str l) (.str z) (.str z t)
 |t (l:List D) (p:WP) (xs:List V) (L8:List Wp):SqT X.K H p xs->Reps X.K H l xs->Vals xs L8->s.heap.IsTuple p L8.toArray->Kd X H s (.tup l) (.ref p) (.ref p)
 |l (l:List D) (p:WP) (xs:List V) (L8:List Wp):SqL X.K H p xs->Reps X.K H l xs->Vals xs L8->s.heap.IsList p L8.toArray->Kd X H s (.lst l) (.ref p) (.ref p)
theorem kd(I:Inv X pr σ H s){x:V}{v:Wp}(h:plainD n d=true)(r:Rep X.K H d x)(rx:L2.RelV x v):Kd X H s d x v:=by
 cases d with
 |non=>cases pF r;cases rx;exact .n
 |bl b=>cases kC r;cases rx;exact .b b
 |int i=>cases iE r;obtain⟨t,rfl⟩:=rx;exact .i i t
 |str l=>obtain⟨rfl,_⟩:=eP r;obtain⟨t,rfl⟩:=rx;exact .s l _ t rfl
 |tup l=>obtain⟨p,xs,rfl,sq,rs⟩:=gR r;cases rx;obtain⟨L8,vl,ip,_⟩:=I.tuple sq;exact .t l p xs L8 sq rs vl ip
 |lst l=>obtain⟨p,xs,rfl,sq,rs⟩:=gY r;cases rx;obtain⟨L8,vl,ip,_⟩:=I.list sq;exact .l l p xs L8 sq rs vl ip.isList
 |dct=>exact(wM h).elim
theorem Kd.ref{d:D}{x:V}{p:WP}(k:Kd X H s d x (.ref p)):x=.ref p:=by cases k <;> rfl
theorem K1(x:V):∃v,L2.RelV x v:=by cases x <;> first|exact⟨_,rfl⟩|exact⟨_,default,rfl⟩
theorem tN{l':List D}(rs:Reps X.K H l xs)(Oy:Reps X.K H l' xs)(h:∀a b y,a∈l->b∈l'->Rep X.K H a y->Rep X.K H b y->a=b):l=l':=by
 have l1:=rs.length;have l2:=Oy.length;refine List.ext_getElem (by lia) λj h1 h2=>?_
 obtain⟨y,hy,r1⟩:=rs.get (ZW h1);obtain⟨y',Zk,r2⟩:=Oy.get (ZW h2);rw[hy]at Zk;cases Zk;exact h _ _ y (aam h1) (aam h2) r1 r2
theorem cS(h:plainDs n ds=true)(hd:d∈ds):plainD n d=true:=by
 obtain⟨i,hi⟩:=abl.mp hd;exact plainDs_mem h hi
theorem ox(I:Inv X pr σ H s):∀(n:Nat) (d e:D) (x:V),plainD n d=true->plainD n e=true->Rep X.K H d x->Rep X.K H e x->d=e
 |n,d,e,x,h,h',r,q=>by
  obtain⟨v,rx⟩:=K1 x;cases kd I h r rx with
  |t l p xs L8 sq rs vl ip=>cases kd I h' q rx with
   |t l' _ _ _ OV Oy=>cases I.tuple_inj sq OV;cases n with
    |zero=>simp![plainD]at h;cases h
    |succ n=>simp![plainD]at h h';rw[tN rs Oy λa b y ha hb=>ox I n a b y (cS h ha) (cS h' hb)]
   |l l' _ _ _ OV=>exact(lA I OV sq).elim
  |l l p xs L8 sq rs vl ip=>cases kd I h' q rx with
   |l l' _ _ _ OV Oy=>cases I.list_inj sq OV;cases n with
    |zero=>simp![plainD]at h;cases h
    |succ n=>simp![plainD]at h h';rw[tN rs Oy λa b y ha hb=>ox I n a b y (cS h ha) (cS h' hb)]
   |t l' _ _ _ OV=>exact(lA I sq OV).elim
  |s l z t e=>cases kd I h' q rx with|s l' _ _ e'=>rw[S_inj (e.symm.trans e')]
  |_=>cases kd I h' q rx;rfl
mutual
theorem oy:∀(d:D) (n:Nat),plainD n d=true->Mv d d=true
 | .non,_,_=>by simp![Mv]
 | .bl _,_,_=>by simp![Mv,aaS]
 | .int _,_,_=>by simp![Mv,aaS]
 | .str _,_,_=>by simp![Mv,aaS]
 | .tup ds,0,h=>by simp![plainD]at h;cases h
 | .tup ds,n+1,h=>by simp![plainD]at h;simp![Mv];exact lB ds n h
 | .lst ds,0,h=>by simp![plainD]at h;cases h
 | .lst ds,n+1,h=>by simp![plainD]at h;simp![Mv];exact lB ds n h
 | .dct _ _ _,n,h=>by cases n <;> (simp![plainD]at h;cases h)
theorem lB:∀(ds:List D) (n:Nat),plainDs n ds=true->kI ds ds=true
 |[],_,_=>by simp![kI]
 |d::ds,n,h=>by
  rw[plainDs,ZP]at h;rw[kI,oy d n h.1,lB ds n h.2];rfl
end
open PySem.SeqAt
theorem Zl{l':List D}{OS:List V}{L8 its':List Wp}(rs:Reps X.K H l xs)(vl:Vals xs L8)(Oy:Reps X.K H l' OS)(Q1:Vals OS its')(f:∀(a b:D) (y z:V) (v u:Wp),a∈l->b∈l'->Rep X.K H a y->Rep X.K H b z->L2.RelV y v->L2.RelV z u->EqAt A s v u (Mv a b))(j:Nat)(h1:j<L8.toArray.size)(h2:j<its'.toArray.size):EqAt A s L8.toArray[j] its'.toArray[j] (Mv (l.getD j .non) (l'.getD j .non)):=by
 have l1:=vl.length;have l2:=Q1.length;have l3:=rs.length;have l4:=Oy.length;simp![ZZ]at h1 h2;have g1:l[j]?=some (l[j]'(by lia)):=ZW _;have g2:l'[j]?=some (l'[j]'(by lia)):=ZW _;obtain⟨w1,Tw,Wr⟩:=rs.get g1;obtain⟨w2,Ym,Yn⟩:=Oy.get g2;obtain⟨u1,Uw,Ws⟩:=vl.get Tw;obtain⟨u2,Wt,Yo⟩:=Q1.get Ym;have q1:L8.toArray[j]=u1:=by rw[ZW h1]at Uw;simpa using Uw
 have q2:its'.toArray[j]=u2:=by rw[ZW h2]at Wt;simpa using Wt
 rw[q1,q2,aab,aab,g1,g2];exact f _ _ w1 w2 u1 u2 (aam _) (aam _) Wr Yn Ws Yo
theorem XB(I:Inv X pr σ H s):∀(n:Nat) (d e:D) (x y:V) (v u:Wp) (A:Uf),plainD n d=true->plainD n e=true->A.units+n+1<cLine->Rep X.K H d x->Rep X.K H e y->L2.RelV x v->L2.RelV y u->EqAt A s v u (Mv d e)/\RcAt A s v u (Mv d e)/\RcNeAt A s v u (!Mv d e)
 |n,d,e,x,y,v,u,A,h,h',hu,r,q,rx,ry=>by
  have k1:=kd I h r rx;have k2:=kd I h' q ry;have key:∀p p',v=.ref p->u=.ref p'->RcAt A s v u (Mv d e)->EqAt A s v u (Mv d e):=λp p' e1 e2 k=>by
   subst e1 e2;by_cases hp:p=p'
   .subst hp;have e1:=k1.ref;have e2:=k2.ref;subst e1 e2;rw[<-ox I n d e _ h h' r q,oy d n h];exact .same _
   .exact .of_refs hp k
  cases k1 with
  |n=>cases k2 with
   |n=>simp![Mv];exact⟨.same _,.none_none,.none_none⟩
   |b b'=>simp![Mv];exact⟨.none_bool _,.none_bool _,.none_bool _⟩
   |i i' t'=>simp![Mv];exact⟨.none_int _ _,.none_int _ _,.none_int _ _⟩
   |s l' z' t' Ur=>simp![Mv];exact⟨.none_str _ _,.none_str _ _,.none_str _ _⟩
   |t l' p' OS its' OV Oy Q1 ip'=>simp![Mv];exact⟨.none_tuple ip' (by lia),.none_tuple ip' (by lia),.none_tuple ip' (by lia)⟩
   |l l' p' OS its' OV Oy Q1 ip'=>simp![Mv];exact⟨.none_list ip' (by lia),.none_list ip' (by lia),.none_list ip' (by lia)⟩
  |b b=>cases k2 with
   |n=>simp![Mv];exact⟨.bool_none _,.bool_none _,.bool_none _⟩
   |b b'=>simp![Mv];exact⟨.bool_bool _ _,.bool_bool _ _,.bool_bool _ _⟩
   |i i' t'=>simp![Mv];exact⟨.bool_int _ _ _,.bool_int _ _ _,.bool_int _ _ _⟩
   |s l' z' t' Ur=>simp![Mv];exact⟨.bool_str _ _ _,.bool_str _ _ _,.bool_str _ _ _⟩
   |t l' p' OS its' OV Oy Q1 ip'=>simp![Mv];exact⟨.bool_tuple _ ip' (by lia),.bool_tuple _ ip' (by lia),.bool_tuple _ ip' (by lia)⟩
   |l l' p' OS its' OV Oy Q1 ip'=>simp![Mv];exact⟨.bool_list _ ip' (by lia),.bool_list _ ip' (by lia),.bool_list _ ip' (by lia)⟩
  |i i t=>cases k2 with
   |n=>simp![Mv];exact⟨.int_none _ _,.int_none _ _,.int_none _ _⟩
   |b b'=>simp![Mv];exact⟨.int_bool _ _ _,.int_bool _ _ _,.int_bool _ _ _⟩
   |i i' t'=>simp![Mv];exact⟨.int_int _ _ _ _,.int_int _ _ _ _,.int_int _ _ _ _⟩
   |s l' z' t' Ur=>simp![Mv];exact⟨.int_str _ _ _ _,.int_str _ _ _ _,.int_str _ _ _ _⟩
   |t l' p' OS its' OV Oy Q1 ip'=>simp![Mv];exact⟨.int_tuple _ _ ip' (by lia),.int_tuple _ _ ip' (by lia),.int_tuple _ _ ip' (by lia)⟩
   |l l' p' OS its' OV Oy Q1 ip'=>simp![Mv];exact⟨.int_list _ _ ip' (by lia),.int_list _ _ ip' (by lia),.int_list _ _ ip' (by lia)⟩
  |s l z t hz=>cases k2 with
   |n=>simp![Mv];exact⟨.str_none _ _,.str_none _ _,.str_none _ _⟩
   |b b'=>simp![Mv];exact⟨.str_bool _ _ _,.str_bool _ _ _,.str_bool _ _ _⟩
   |i i' t'=>simp![Mv];exact⟨.str_int _ _ _ _,.str_int _ _ _ _,.str_int _ _ _ _⟩
   |s l' z' t' Ur=>
    have e1:(l==l')=(z==z'):=by
     rw[hz,Ur,aay,aaK,aaK];exact⟨λz=>by rw[z],S_inj⟩
    simp![Mv,e1];exact⟨.str_str _ _ _ _,.str_str _ _ _ _,.str_str _ _ _ _⟩
   |t l' p' OS its' OV Oy Q1 ip'=>simp![Mv];exact⟨.str_tuple _ _ ip' (by lia),.str_tuple _ _ ip' (by lia),.str_tuple _ _ ip' (by lia)⟩
   |l l' p' OS its' OV Oy Q1 ip'=>simp![Mv];exact⟨.str_list _ _ ip' (by lia),.str_list _ _ ip' (by lia),.str_list _ _ ip' (by lia)⟩
  |t l p xs L8 sq rs vl ip=>cases k2 with
   |n=>simp![Mv];exact⟨.tuple_none ip (by lia),.tuple_none ip (by lia),.tuple_none ip (by lia)⟩
   |b b'=>simp![Mv];exact⟨.tuple_bool _ ip (by lia),.tuple_bool _ ip (by lia),.tuple_bool _ ip (by lia)⟩
   |i i' t'=>simp![Mv];exact⟨.tuple_int _ _ ip (by lia),.tuple_int _ _ ip (by lia),.tuple_int _ _ ip (by lia)⟩
   |s l' z' t' Ur=>simp![Mv];exact⟨.tuple_str _ _ ip (by lia),.tuple_str _ _ ip (by lia),.tuple_str _ _ ip (by lia)⟩
   |t l' p' OS its' OV Oy Q1 ip'=>
    cases n with
    |zero=>simp![plainD]at h;cases h
    |succ n=>
     have hh:=h;have Wu:=h';simp![plainD]at hh Wu;have el:=Zl (A:=A.in1) rs vl Oy Q1 λa b y z v u ha hb ra rb rv ru=>(XB I n a b y z v u A.in1 (cS hh ha) (cS Wu hb) (by show A.units+1+n+1<cLine;lia) ra rb rv ru).1
     have l1:=vl.length;have l2:=Q1.length;have l3:=rs.length;have l4:=Oy.length;have fin:((List.range (min L8.toArray.size its'.toArray.size)).all (λj=>Mv (l.getD j .non) (l'.getD j .non))&&L8.toArray.size==its'.toArray.size)=Mv (.tup l) (.tup l'):=by
      simp![Mv,ZZ];by_cases hl:l.length=l'.length
      .rw[<-jT hl,show min L8.length its'.length=l.length by lia,show(L8.length==its'.length)=true by rw[aaK];lia,Bool.and_true]
      .rw[ow hl,show(L8.length==its'.length)=false by rw[aaj];lia,abu]
     have k:=RcAt.tuples (e:=λj=>Mv (l.getD j .non) (l'.getD j .non)) ip ip' (by lia) el;rw[fin]at k;refine⟨key p p' rfl rfl k,k,?_⟩;rw[<-fin];exact .tuples ip ip' (by lia) el
   |l l' p' OS its' OV Oy Q1 ip'=>simp![Mv];exact⟨.tuple_list ip ip' (by lia),.tuple_list ip ip' (by lia),.tuple_list ip ip' (by lia)⟩
  |l l p xs L8 sq rs vl ip=>cases k2 with
   |n=>simp![Mv];exact⟨.list_none ip (by lia),.list_none ip (by lia),.list_none ip (by lia)⟩
   |b b'=>simp![Mv];exact⟨.list_bool _ ip (by lia),.list_bool _ ip (by lia),.list_bool _ ip (by lia)⟩
   |i i' t'=>simp![Mv];exact⟨.list_int _ _ ip (by lia),.list_int _ _ ip (by lia),.list_int _ _ ip (by lia)⟩
   |s l' z' t' Ur=>simp![Mv];exact⟨.list_str _ _ ip (by lia),.list_str _ _ ip (by lia),.list_str _ _ ip (by lia)⟩
   |t l' p' OS its' OV Oy Q1 ip'=>simp![Mv];exact⟨.list_tuple ip ip' (by lia),.list_tuple ip ip' (by lia),.list_tuple ip ip' (by lia)⟩
   |l l' p' OS its' OV Oy Q1 ip'=>
    cases n with
    |zero=>simp![plainD]at h;cases h
    |succ n=>
     have hh:=h;have Wu:=h';simp![plainD]at hh Wu;have l1:=vl.length;have l2:=Q1.length;have l3:=rs.length;have l4:=Oy.length;have e0:Mv (.lst l) (.lst l')=kI l l':=by simp![Mv]
     have k:RcAt A s (.ref p) (.ref p') (Mv (.lst l) (.lst l'))/\RcNeAt A s (.ref p) (.ref p') (!Mv (.lst l) (.lst l')):=by
      rw[e0];by_cases hl:l.length=l'.length
      .have el:=Zl (A:=A.in1) rs vl Oy Q1 λa b y z v u ha hb ra rb rv ru=>(XB I n a b y z v u A.in1 (cS hh ha) (cS Wu hb) (by show A.units+1+n+1<cLine;lia) ra rb rv ru).1
       rw[<-jT hl,show l.length=L8.toArray.size by simp![ZZ];lia];exact⟨.lists (e:=λj=>Mv (l.getD j .non) (l'.getD j .non)) ip ip' (by simp![ZZ];lia) (by lia) el,.lists (e:=λj=>Mv (l.getD j .non) (l'.getD j .non)) ip ip' (by simp![ZZ];lia) (by lia) el⟩
      .rw[ow hl];exact⟨.lists_lengths ip ip' (by simp![ZZ,bne_iff_ne];lia) (by lia),.lists_lengths ip ip' (by simp![ZZ,bne_iff_ne];lia) (by lia)⟩
     exact⟨key p p' rfl rfl k.1,k⟩
theorem IA(I:Inv X pr σ H s)(d e:D)(x y:V)(v u:Wp)(A:Uf)(n:Nat)(h:plainD n d=true)(h':plainD n e=true)(hu:A.units+n+1<cLine)(r:Rep X.K H d x)(q:Rep X.K H e y)(rx:L2.RelV x v)(ry:L2.RelV y u):EqAt A s v u (Mv d e):=(XB I n d e x y v u A h h' hu r q rx ry).1
end
variable{y:V}
section
def Nr(a b:D):Res R:=if plainD 40 a&&plainD 40 b then .ok (.f,.bl (Mv a b)) else .bad
def OW(a b:D):Res R:=if plainD 40 a&&plainD 40 b then .ok (.f,.bl (!Mv a b)) else .bad
open PySem.SeqAt in
theorem Fu(I:Inv X pr σ H s){e:D}{x:V}{v u:Wp}(h:plainD 40 d=true)(h':plainD 40 e=true)(hu:A.units+64<cLine)(r:Rep X.K H d x)(q:Rep X.K H e y)(rx:RelV x v)(ry:RelV y u):
  RcAt A s v u (Mv d e)/\RcNeAt A s v u (!Mv d e):=(XB I 40 d e x y v u A h h' (by lia) r q rx ry).2
theorem cF(hu:X.A.units+64<cLine):Nk X (compareOp .Eq) (rGA X.K Nr):=by
 rintro pr s σ H x y v u Q I rx ry ⟨G,fp,es,vs,a,b,r,⟨rel,k⟩,va,vb,e⟩;unfold Nr at e;split at e
 .rename_i hp;cases e;rw[ZP]at hp;exact(Fu I hp.1 hp.2 hu va vb rx ry).1 _ _ _ _ ⟨.bl _,H,I,rfl,k _ H G fp .refl (rel.push (dH _))⟩
 .cases e
theorem kJ(hu:X.A.units+64<cLine):Nk X (compareOp .NotEq) (rGA X.K OW):=by
 rintro pr s σ H x y v u Q I rx ry ⟨G,fp,es,vs,a,b,r,⟨rel,k⟩,va,vb,e⟩;unfold OW at e;split at e
 .rename_i hp;cases e;rw[ZP]at hp;exact(Fu I hp.1 hp.2 hu va vb rx ry).2 _ _ _ _ ⟨.bl _,H,I,rfl,k _ H G fp .refl (rel.push (dH _))⟩
 .cases e
def A5(a:D)(ds:List D):Bool:=ds.any λd=>Mv d a
def SK(a b:D):Res R:=match b with
 | .lst ds=>if plainD 40 a&&plainDs 40 ds then .ok (.f,.bl (A5 a ds)) else .bad
 | .tup ds=>if plainD 40 a&&plainDs 40 ds then .ok (.f,.bl (A5 a ds)) else .bad
 | .str l=>match a with
  | .str [c]=>.ok (.f,.bl (decide (c∈l)))
  |_=>.bad
 |_=>.bad
def Ea(a b:D):Res R:=(SK a b).bind λr=>match r.2 with
 | .bl k=>.ok (.f,.bl (!k))
 |_=>.bad
open PySem.SeqAt in
theorem tR(I:Inv X pr σ H s){a:D}{x:V}{v:Wp}(h:plainD 40 a=true)(hu:A.units+64<cLine)(r:Rep X.K H a x)(rx:RelV x v):
  ∀(ds:List D) (xs:List V) (us:List Wp),plainDs 40 ds=true->Reps X.K H ds xs->Vals xs us->∃e:Wp->Bool,us.any e=A5 a ds/\∀u∈us,EqAt A s u v (e u):=by
 classical
 intro ds xs us hp rs vl;refine⟨λu=>decide (∃(j:Nat) (d:D),ds[j]?=some d/\us[j]?=some u/\Mv d a=true),?_,λu hu'=>?_⟩
 .rw[aay,ab2];unfold A5;rw[ab2];constructor
  .rintro⟨u,_,hd⟩;obtain⟨j,d,h1,_,h2⟩:=aa8 hd;exact⟨d,aaA h1,h2⟩
  .rintro⟨d,hd,h2⟩;obtain⟨j,hj⟩:=abl.mp hd;obtain⟨w1,Tw,Wr⟩:=rs.get hj;obtain⟨u1,Uw,Ws⟩:=vl.get Tw;exact⟨u1,aaA Uw,aao ⟨j,d,hj,Uw,h2⟩⟩
 .obtain⟨j,hj⟩:=abl.mp hu';have l1:=vl.length;have l2:=rs.length;have hjl:=(Z1.mp hj).1;have g1:ds[j]?=some (ds[j]'(by lia)):=ZW _;obtain⟨w1,Tw,Wr⟩:=rs.get g1;obtain⟨u1,Uw,Ws⟩:=vl.get Tw;rw[hj]at Uw;cases Uw;have z:=IA I _ _ w1 x u v A 40 (plainDs_mem hp g1) h (by lia) Wr r Ws rx;have e:decide (∃(j:Nat) (d:D),ds[j]?=some d/\us[j]?=some u/\Mv d a=true)=Mv (ds[j]'(by lia)) a:=by
   rw[aay,Z2];constructor
   .rintro⟨j2,d2,k1,k2,k3⟩;obtain⟨w2,Ym,Yn⟩:=rs.get k1;obtain⟨u2,Wt,Yo⟩:=vl.get Ym;rw[k2]at Wt;cases Wt;have:=Ws.inj Yo;subst this;rw[ox I 40 _ _ _ (plainDs_mem hp g1) (plainDs_mem hp k1) Wr Yn];exact k3
   .intro k3;exact⟨j,_,g1,hj,k3⟩
  show EqAt A s u v (decide (∃(j:Nat) (d:D),ds[j]?=some d/\us[j]?=some u/\Mv d a=true));rw[e];exact z
theorem pM(l:List Nat)(c:Nat):(!(Builtin.Str.occurrences (S l) (S [c]) 0 (S l).length 1).isEmpty)=decide (c∈l):=by
 have h:=PySem.StrLaws.found_one (S l) c;rw[eF]at h;exact h
theorem oz{e:Wp->Bool}(us:List Wp):us.toArray.any e=us.any e:=by simp
theorem IB(hu:X.A.units+65<cLine):Nk X (compareOp .In) (rGA X.K SK):=by
 rintro pr s σ H x y v u Q I rx ry ⟨G,fp,es,vs,a,b,r,⟨rel,k⟩,va,vb,e⟩;unfold SK at e;split at e
 .rename_i ds;split at e
  .rename_i hp;cases e;rw[ZP]at hp;obtain⟨p,xs,ev,sq,rs⟩:=gY vb;subst ev;cases ry;obtain⟨L8,vl,ip,_⟩:=I.list sq;obtain⟨ef,e1,e2⟩:=tR (A:=X.A.in1) I hp.1 (by show X.A.units+1+64<cLine;lia) va rx ds xs L8 hp.2 rs vl;refine SeqAt.in_listAt ef ip.isList (λz hz=>e2 z (by simpa using hz)) ?_;rw[oz,e1];exact⟨.bl _,H,I,rfl,k _ H G fp .refl (rel.push (dH _))⟩
  .cases e
 .rename_i ds;split at e
  .rename_i hp;cases e;rw[ZP]at hp;obtain⟨p,xs,ev,sq,rs⟩:=gR vb;subst ev;cases ry;obtain⟨L8,vl,ip,_⟩:=I.tuple sq;obtain⟨ef,e1,e2⟩:=tR (A:=X.A.in1) I hp.1 (by show X.A.units+1+64<cLine;lia) va rx ds xs L8 hp.2 rs vl;refine SeqAt.in_tupleAt ef (show s.heap.IsTuple p L8.toArray from ip) (λz hz=>e2 z (by simpa using hz)) ?_;rw[oz,e1];exact⟨.bl _,H,I,rfl,k _ H G fp .refl (rel.push (dH _))⟩
  .cases e
 .rename_i l;split at e
  .rename_i c;cases e;obtain⟨e1,h1⟩:=eP va;obtain⟨e2,h2⟩:=eP vb;subst e1;subst e2;refine vI pr s σ H _ _ v u Q I rx ry ⟨_,_,rfl,rfl,?_⟩;rw[pM];exact k _ H G fp .refl (rel.push (dH _))
  .cases e
 .cases e
theorem Fv(hu:X.A.units+65<cLine):Nk X (compareOp .NotIn) (rGA X.K Ea):=by
 rintro pr s σ H x y v u Q I rx ry ⟨G,fp,es,vs,a,b,r,⟨rel,k⟩,va,vb,e⟩;unfold Ea at e;obtain⟨r0,e0,e⟩:=aB e;unfold SK at e0;split at e0
 .rename_i ds;split at e0
  .rename_i hp;cases e0;cases e;rw[ZP]at hp;obtain⟨p,xs,ev,sq,rs⟩:=gY vb;subst ev;cases ry;obtain⟨L8,vl,ip,_⟩:=I.list sq;obtain⟨ef,e1,e2⟩:=tR (A:=X.A.in1) I hp.1 (by show X.A.units+1+64<cLine;lia) va rx ds xs L8 hp.2 rs vl;refine SeqAt.notIn_listAt ef ip.isList (λz hz=>e2 z (by simpa using hz)) ?_;rw[oz,e1];exact⟨.bl _,H,I,rfl,k _ H G fp .refl (rel.push (dH _))⟩
  .cases e0
 .rename_i ds;split at e0
  .rename_i hp;cases e0;cases e;rw[ZP]at hp;obtain⟨p,xs,ev,sq,rs⟩:=gR vb;subst ev;cases ry;obtain⟨L8,vl,ip,_⟩:=I.tuple sq;obtain⟨ef,e1,e2⟩:=tR (A:=X.A.in1) I hp.1 (by show X.A.units+1+64<cLine;lia) va rx ds xs L8 hp.2 rs vl;refine SeqAt.notIn_tupleAt ef (show s.heap.IsTuple p L8.toArray from ip) (λz hz=>e2 z (by simpa using hz)) ?_;rw[oz,e1];exact⟨.bl _,H,I,rfl,k _ H G fp .refl (rel.push (dH _))⟩
  .cases e0
 .rename_i l;split at e0
  .rename_i c;cases e0;cases e;obtain⟨e1,h1⟩:=eP va;obtain⟨e2,h2⟩:=eP vb;subst e1;subst e2;refine oZ pr s σ H _ _ v u Q I rx ry ⟨_,_,rfl,rfl,?_⟩;rw[pM];exact k _ H G fp .refl (rel.push (dH _))
  .cases e0
 .cases e0
def VO(a b:D):Res R:=match b with
 | .bl k=>.ok (.f,.bl (match a with | .bl j=>j==k|_=>false))
 | .non=>.ok (.f,.bl (match a with | .non=>true|_=>false))
 |_=>.bad
def LO(a b:D):Res R:=(VO a b).bind λr=>match r.2 with
 | .bl k=>.ok (.f,.bl (!k))
 |_=>.bad
theorem zj{a b:D}{x:V}{v u:Wp}{r:R}(va:Rep K H a x)(vb:Rep K H b y)(rx:RelV x v)(ry:RelV y u)(e:VO a b=.ok r):plainIs v u=true/\r=(.f,.bl (v==u)):=by
 unfold VO at e;split at e
 .rename_i k;cases e;cases kC vb;cases ry;cases a with
  |non=>cases pF va;cases rx;exact⟨rfl,rfl⟩
  |bl j=>cases kC va;cases rx;refine⟨rfl,?_⟩;cases j <;> cases k <;> rfl
  |int i=>cases iE va;obtain⟨t,rfl⟩:=rx;exact⟨rfl,rfl⟩
  |str l=>cases(eP va).1;obtain⟨t,rfl⟩:=rx;exact⟨rfl,rfl⟩
  |tup l=>obtain⟨p,xs,rfl,_⟩:=gR va;cases rx;exact⟨rfl,rfl⟩
  |lst l=>obtain⟨p,xs,rfl,_⟩:=gY va;cases rx;exact⟨rfl,rfl⟩
  |dct tk ks vs=>rw[Rep]at va;obtain⟨p,xs,o,rfl,_⟩:=va;cases rx;exact⟨rfl,rfl⟩
 .cases e;cases pF vb;cases ry;cases a with
  |non=>cases pF va;cases rx;exact⟨rfl,rfl⟩
  |bl j=>cases kC va;cases rx;exact⟨rfl,rfl⟩
  |int i=>cases iE va;obtain⟨t,rfl⟩:=rx;exact⟨rfl,rfl⟩
  |str l=>cases(eP va).1;obtain⟨t,rfl⟩:=rx;exact⟨rfl,rfl⟩
  |tup l=>obtain⟨p,xs,rfl,_⟩:=gR va;cases rx;exact⟨rfl,rfl⟩
  |lst l=>obtain⟨p,xs,rfl,_⟩:=gY va;cases rx;exact⟨rfl,rfl⟩
  |dct tk ks vs=>rw[Rep]at va;obtain⟨p,xs,o,rfl,_⟩:=va;cases rx;exact⟨rfl,rfl⟩
 .cases e
theorem IC:Nk X (compareOp .Is) (rGA X.K VO):=by
 rintro pr s σ H x y v u Q I rx ry ⟨G,fp,es,vs,a,b,r,⟨rel,k⟩,va,vb,e⟩;obtain⟨h1,h2⟩:=zj va vb rx ry e;subst h2;exact wpAny_is_plain h1 ⟨.bl _,H,I,rfl,k _ H G fp .refl (rel.push (dH _))⟩
end
section
theorem wN(hc:X.calm=true):dF X (.builtin "max") (rC X.K maxD):=by
 rintro pr s σ H xs us Q I rx ⟨G,fp,es,vs,ds,r,⟨rel,k⟩,vd,e⟩;unfold maxD at e;split at e
 .rename_i d;split at e
  .rename_i n ns hb;cases e;obtain⟨v,ev,vt⟩:=mX vd;obtain⟨p,ep,sq⟩:=pL rel.gh hb vt;subst ev;subst ep;exact vZ hc pr s σ H _ us Q I rx ⟨p,n::ns,rfl,sq,by simp,k _ H G fp .refl (rel.push (cC _))⟩
  .cases e
 .rename_i i j;cases e;obtain⟨v,w',ev,v1,v2⟩:=K0 vd;subst ev;cases cf v1;cases cf v2;obtain⟨u,u',rfl,⟨t,rfl⟩,t',rfl⟩:=uI rx;refine max_two_ints (I.ok.hd hc) λh' tk kk=>?_
  have I2:Inv X pr σ H {s with heap:=h',toks:=tk}:=I.kept kk;refine⟨.int (if i<j then j else i),H,I2,?_,k _ H G fp .refl (rel.push (cC _))⟩;by_cases Tr:i<j
  .rw[ZY Tr,ZY (show j>i from Tr)];exact⟨_,rfl⟩
  .rw[Z6 Tr,Z6 (show ¬ j>i from Tr)];exact⟨_,rfl⟩
 .cases e
def CF(f g:FX):FX:=λenv=>(f env).bind λp=>(g p.2).bind λq=>match(tL p.1.2).bind gk,q.1.2 with
 |some ns,.int d=>.ok ((.f,.int (NX.maxD ns d)),q.2)
 |_,_=>.bad
theorem CG{k:Expr}{g:FX}{p pos Sh:Pos}(hc:X.calm=true)(hg:Gl X "max")(hm:X.mg "max" = none)(he:QE X e f)(hk:QE X k g)(hs:starEach [e] X.env=[(false,eval e X.env)]:=by rfl):
  QE X (.Call (.Name "max" p) [e] [⟨some "default",k,Sh⟩] pos) (CF f g):=bW (Cb hc hg hm he hk hs) λσ H Q Mh=>by
 obtain⟨G,env,fp,r,env',rel,e,k⟩:=Mh;obtain⟨⟨r1,L0⟩,e1,e⟩:=aB e;obtain⟨⟨r2,Ml⟩,e2,e⟩:=aB e;dsimp only at e;split at e
 .rename_i ns d Tp hd;cases e;refine⟨G,env,fp,r1,L0,rel,e1,λv H1 G1 Mt Mk L5=>?_⟩;obtain⟨G2,b,rv,L6,Md⟩:=L5.freeze;refine⟨G2,L0,b,r2,_,L6,e2,λw' H3 G3 Qh Nj Nb=>?_⟩;have hw:=Nb.top;obtain⟨b3,Nl,Oc⟩:=Nb.drop;rw[hd]at hw;obtain⟨p',ep,sq⟩:=pL Nl.gh Tp (Vw.of Nl.gh (Rep.mono Nj.gg rv));subst ep;exact⟨p',ns,d,rfl,by rw[iE hw],sq,k _ H3 G3 b3 (Mk.trans (Md.trans (Nj.trans Oc))) (Nl.push (cC _))⟩
 .cases e
def Fw:List D->Res R
 |[.bl b]=>.ok (.f,.int (if b then 1 else 0))
 |[.int i]=>.ok (.f,.int i)
 |_=>.bad
theorem A6:dF X (.type "int") (rC X.K Fw):=by
 rintro pr s σ H xs us Q I rx ⟨G,fp,es,vs,ds,r,⟨rel,k⟩,vd,e⟩;unfold Fw at e;split at e
 .rename_i b;cases e;obtain⟨v,ev,v1⟩:=mX vd;subst ev;cases Iu v1;obtain⟨u,rfl,ru⟩:=fV rx;cases ru;exact call_int_bool ⟨.int _,H,I.tok _,⟨_,rfl⟩,k _ H G fp .refl (rel.push (cC _))⟩
 .rename_i i;cases e;obtain⟨v,ev,v1⟩:=mX vd;subst ev;cases cf v1;obtain⟨u,rfl,t,rfl⟩:=fV rx;first
   |exact PySem.call_int_int ⟨.int _,H,I.tok _,⟨_,rfl⟩,k _ H G fp .refl (rel.push (cC _))⟩
   |exact PySem.call_int_int ⟨.int _,H,I,⟨_,rfl⟩,k _ H G fp .refl (rel.push (cC _))⟩
 .cases e
def rD:D->String
 | .non=>"NoneType"
 | .bl _=>"bool"
 | .int _=>"int"
 | .str _=>"str"
 | .tup _=>"tuple"
 | .lst _=>"list"
 | .dct _ _ _=>"dict"
def A7(T:String)(d:D):Bool:=rD d==T||(rD d == "bool" && T == "int")
def Wv(T:String)(f:FO):FX:=λenv=>(f env).bind λp=>(uP p.2 p.1).bind λd=>.ok ((.f,.bl (A7 T d)),p.2)
theorem Fx(K:W.Frag)(d:D)(hT:T = "int"\/T = "bool"\/T = "str"\/T = "list"\/T = "tuple"\/T = "dict"):PySem.W.kitOne K (.type (rD d)) (.type T)=some (A7 T d):=by
 rcases hT with rfl|rfl|rfl|rfl|rfl|rfl <;> cases d <;> (unfold PySem.W.kitOne PySem.W.kitCls PySem.W.subIn;kernel_rfl)
theorem zk:dF X (.builtin "isinstance") (λxs H Q=>∃d x T,xs=[x,.ty T]/\Rep X.K H d x/\(T = "int"\/T = "bool"\/T = "str"\/T = "list"\/T = "tuple"\/T = "dict")/\Q (.bl (A7 T d)) H):=by
 intro pr s σ H xs us Q I r h;obtain⟨d,x,T,rfl,rd,hT,q⟩:=h;obtain⟨u,w',rfl,r1,r2⟩:=uI r;cases(show w'=Value.type T from r2);have e:=Fx X.K d hT;have fin:∀tk,EP X pr σ Q (.bool (A7 T d)) {s with toks:=tk}:=λtk=>⟨.bl (A7 T d),H,I.tok tk,rfl,q⟩
 cases d with
 |non=>cases pF rd;cases(show u=Value.none from r1);exact abc PySem.W.kitx_none I.kIn True.intro e (λz=>nomatch z) fin
 |bl y=>cases kC rd;cases(show u=Value.bool y from r1);exact abc PySem.W.kitx_bool I.kIn True.intro e (λz=>nomatch z) fin
 |int i=>cases iE rd;obtain⟨t,z⟩:=(show ∃t,u=Value.int i t from r1);cases z;exact abc PySem.W.kitx_int I.kIn True.intro e (λz=>nomatch z) fin
 |str l=>
  have hr:=(eP rd).1;subst hr;obtain⟨t,z⟩:=(show ∃t,u=Value.str (S l) t from r1)
  cases z;exact abc PySem.W.kitx_str I.kIn True.intro e (λz=>nomatch z) fin
 |lst l=>
  obtain⟨p,xs,ev,sq,_⟩:=gY rd;subst ev;cases(show u=Value.ref p from r1);obtain⟨L8,_,ip,_⟩:=I.list sq;obtain⟨o,ho,hc,_⟩:=ip.isList;exact abc PySem.W.kitx_list I.kIn ⟨o,ho,hc⟩ e (λz=>nomatch z) fin
 |tup l=>
  obtain⟨p,xs,ev,sq,_⟩:=gR rd;subst ev;cases(show u=Value.ref p from r1);obtain⟨L8,_,ip,_⟩:=I.tuple sq;obtain⟨o,ho,hc,_⟩:=ip;exact abc PySem.W.kitx_tuple I.kIn ⟨o,ho,hc⟩ e (λz=>nomatch z) fin
 |dct tk ks vs=>
  rw[Rep]at rd;obtain⟨p,xs,o,ev,hr,dd,_⟩:=rd;subst ev;cases(show u=Value.ref p from r1);have ok:=hr.ok I.hok;cases tk with
  |true=>
   obtain⟨kvs,eo,_⟩:=dd;subst eo;obtain⟨_,_,_,_,o2,_,_,Q6,ex,_⟩:=ok;exact abc PySem.W.kitx_dict I.kIn ⟨o2,Q6,ex.1⟩ e (λz=>nomatch z) fin
  |false=>
   obtain⟨kvs,eo,_⟩:=dd;subst eo;obtain⟨_,_,_,_,o2,_,_,Q6,ex,_⟩:=ok;exact abc PySem.W.kitx_dict I.kIn ⟨o2,Q6,ex.1⟩ e (λz=>nomatch z) fin
theorem CH{f:FO}{p q pos:Pos}(hT:T = "int"\/T = "bool"\/T = "str"\/T = "list"\/T = "tuple"\/T = "dict")(he:QO X e f)(hg:Gl X "isinstance")(hm:X.mg "isinstance" = none)(Wx:Gl X x)(SM:X.mg x=none)(Yp:bootBuiltins x=some (.type T))(hn:x≠"__name__":=by decide)(NJ:(x==("__debug__" : Str))=false:=by decide)
  (hs:starEach [e,.Name x q] X.env=(false,eval e X.env)::starEach [.Name x q] X.env:=by rfl) (Q4:starEach [.Name x q] X.env=(false,eval (.Name x q) X.env)::starEach [] X.env:=by rfl) (Nu:(backTo pos (starEach [.Name x q] X.env)).any (·.1)=false:=by rfl):
  QE X (.Call (.Name "isinstance" p) [e,.Name x q] [] pos) (Wv T f):=
 bW (kQ zk hg hm gF (di he (di (vA (v:=.ty T) Wx SM Yp rfl hn NJ) gO Q4) hs) (by decide) (by decide) hs Nu) λσ H Q Mh=>by
  obtain⟨G,env,fp,r,env',rel,e,k⟩:=Mh;obtain⟨⟨o,L0⟩,e1,e⟩:=aB e;obtain⟨d,e2,e⟩:=aB e;cases e;exact⟨G,env,fp,o,_,rel,e1,λv H1 G1 Mt Mk L5 O6=>⟨d,v,T,rfl,L5.vwA O6 e2,hT,k _ H1 G1 Mt Mk (L5.push (dH _))⟩⟩
def OB{α:Type}(f g:PV.Env->Res α):PV.Env->Res α:=λenv=>match f env with
 | .ok a=>.ok a
 |_=>g env
theorem A8{f g:PV.Env->Res α}{a:α}(h:OB f g env=.ok a):f env=.ok a\/g env=.ok a:=by
 unfold OB at h;split at h
 .rename_i b hb;cases h;exact .inl hb
 .exact .inr h
theorem wO{f g:FI}(h:QI X tg e f)(h2:QI X tg e g):QI X tg e (OB f g):=λpr s σ H R I Mh=>by
 obtain⟨G,env,fp,ds,env',rel,ee,k⟩:=Mh;rcases A8 ee with z|z
 .exact h pr s σ H R I ⟨G,env,fp,ds,env',rel,z,k⟩
 .exact h2 pr s σ H R I ⟨G,env,fp,ds,env',rel,z,k⟩
end
section
def ins(lt:α->α->Bool)(x:α):List α->List α
 |[]=>[x]
 |y::ys=>if lt y x then y::ins lt x ys else x::y::ys
def bQ(lt:α->α->Bool)(l:List α):List α:=l.foldr (ins lt) []
structure Ord(lt:α->α->Bool):Prop where
 irr:∀a,lt a a=false
 trans:∀a b c,lt a b=true->lt b c=true->lt a c=true
 tot:∀a b,lt a b=false->lt b a=false->a=b
theorem oA(lt:α->α->Bool)(x:α):∀l,(ins lt x l).Perm (x::l)
 |[]=>.refl _
 |y::ys=>by
  unfold ins;split
  .exact(List.Perm.cons y (oA lt x ys)).trans (List.Perm.swap x y ys)
  .exact .refl _
theorem eX(lt:α->α->Bool):∀l,(bQ lt l).Perm l
 |[]=>.refl _
 |x::l=>(oA lt x _).trans (List.Perm.cons x (eX lt l))
theorem mZ{lt:α->α->Bool}(o:Ord lt)(x:α):∀l:List α,l.Pairwise (λa b=>lt b a=false)->(ins lt x l).Pairwise (λa b=>lt b a=false)
 |[],_=>by simp[ins]
 |y::ys,h=>by
  rw[abd]at h;unfold ins;split
  .rename_i hy;rw[abd];refine⟨λz hz=>?_,mZ o x ys h.2⟩;rcases ZJ.mp ((oA lt x ys).mem_iff.mp hz) with rfl|hz
   .cases e:lt z y with
    |false=>rfl
    |true=>
     have:=o.trans y z y hy e;rw[o.irr]at this;cases this
   .exact h.1 z hz
  .rename_i hy;have hy:lt y x=false:=by simpa using hy
   rw[abd,abd];refine⟨λz hz=>?_,h⟩;rcases ZJ.mp hz with rfl|VP
   .exact hy
   .cases e:lt z x with
    |false=>rfl
    |true=>
     exfalso;cases e2:lt x y with
     |true=>
      have:=o.trans z x y e e2;rw[h.1 z VP]at this;cases this
     |false=>
      have hxy:=o.tot x y e2 hy;rw[hxy,h.1 z VP]at e;cases e
theorem gZ{lt:α->α->Bool}(o:Ord lt):∀l:List α,(bQ lt l).Pairwise (λa b=>lt b a=false)
 |[]=>.nil
 |x::l=>mZ o x _ (gZ o l)
theorem pN{lt:α->α->Bool}(o:Ord lt):∀{a b:List α},a.Perm b->a.Pairwise (λa b=>lt b a=false)->b.Pairwise (λa b=>lt b a=false)->a=b
 |[],_,p,_,_=>p.nil_eq
 |x::xs,[],p,_,_=>absurd p.length_eq (by simp)
 |x::xs,y::ys,p,ha,hb=>by
  rw[abd]at ha hb;have hx:x∈y::ys:=p.mem_iff.mp ZI;have hy:y∈x::xs:=p.mem_iff.mpr ZI;have e:x=y:=by
   rcases ZJ.mp hx with e|hx
   .exact e
   .rcases ZJ.mp hy with e|hy
    .exact e.symm
    .exact o.tot x y (hb.1 x hx) (ha.1 y hy)
  subst e;rw[pN o p.cons_inv ha.2 hb.2]
theorem pO{lt:α->α->Bool}(o:Ord lt){l ms:List α}(p:ms.Perm l)(h:ms.Pairwise (λa b=>lt b a=false)):ms=bQ lt l:=pN o (p.trans (eX lt l).symm) h (gZ o l)
end
def ltS(a b:List Nat):Bool:=decide (a<b)
theorem oB:Ord ltS:=by
 refine⟨λa=>?_,λa b c h1 h2=>?_,λa b h1 h2=>?_⟩
 .unfold ltS;rw[abq];exact List.lt_irrefl a
 .unfold ltS at *;rw[Z2] at *;exact List.lt_trans h1 h2
 .unfold ltS at *;rw[abq] at *;exact List.le_antisymm (ado.mp h2) (ado.mp h1)
theorem oD:Ord gE:=⟨iT,ig,ij⟩
def dM:List D->Option (List (List Nat))
 |[]=>some []
 | .str b::ds=>(dM ds).map (b:: ·)
 |_=>none
def pP:D->Option Key
 | .int i=>some (.inl i)
 | .str l=>some (.inr (S l))
 |_=>none
def gI:List D->Option (List Key)
 |[]=>some []
 |d::ds=>(pP d).bind λk=>(gI ds).map (k:: ·)
def iX:D->Option (List Key)
 | .tup ds=>gI ds
 |_=>none
def lC:List D->Option (List (List Key))
 |[]=>some []
 |d::ds=>(iX d).bind λk=>(lC ds).map (k:: ·)
def kT(k:List Key):D:=.tup (k.map kD)
section
theorem lD:∀{ds:List D}{bs:List (List Nat)}{xs:List V},dM ds=some bs->Reps K G ds xs->xs=bs.map (λl=>V.str (S l))/\∀l∈bs,l.length<=sizeLine
 |[],_,_,e,r=>by
  cases e;rw[Reps]at r;exact⟨r,λ_ h=>nomatch h⟩
 |d::ds,_,_,e,r=>by
  cases d with
  |str b=>
   rw[dM,aaH]at e;obtain⟨bs,e1,e2⟩:=e;subst e2;rw[Reps]at r;obtain⟨y,ys,e3,r1,r2⟩:=r;obtain⟨h1,h2⟩:=lD e1 r2;obtain⟨h3,h4⟩:=eP r1;subst h3;refine⟨by rw[e3,h1];rfl,λl hl=>?_⟩;rcases ZJ.mp hl with rfl|hl
   .exact h4
   .exact h2 l hl
  |_=>simp[dM]at e
theorem m5{k:Key}(e:pP d=some k)(r:Rep K G d v):v=kV k/\d=kD k:=by
 cases d with
 |int i=>
  cases e;exact⟨iE r,rfl⟩
 |str l=>
  cases e;refine⟨(eP r).1,?_⟩;show D.str l=D.str (S l).cps.toList;rw[eF]
 |_=>cases e
theorem kj:∀{ds:List D}{ks:List Key}{xs:List V},gI ds=some ks->Reps K G ds xs->xs=ks.map kV/\ds=ks.map kD
 |[],_,_,e,r=>by
  cases e;rw[Reps]at r;exact⟨r,rfl⟩
 |d::ds,_,_,e,r=>by
  rw[gI,abt]at e;obtain⟨k,e1,e⟩:=e;rw[aaH]at e;obtain⟨ks,e2,e3⟩:=e;subst e3;rw[Reps]at r;obtain⟨y,ys,e4,r1,r2⟩:=r;obtain⟨h1,h2⟩:=m5 e1 r1;obtain⟨h3,h4⟩:=kj e2 r2;rw[e4,h1,h2,h3,h4];exact⟨rfl,rfl⟩
theorem fu{ks:List Key}(e:iX d=some ks)(r:Rep K G d v):∃p,v=.ref p/\G p=some (.tup (ks.map kV))/\d=kT ks:=by
 cases d with
 |tup ds=>
  obtain⟨p,xs,ev,g,rs⟩:=wD r;obtain⟨h1,h2⟩:=kj e rs;subst h1;exact⟨p,ev,g,by rw[h2];rfl⟩
 |_=>cases e
theorem lE:∀{ds:List D}{Q2:List (List Key)}{xs:List V},lC ds=some Q2->Reps K G ds xs->∃al:List (WP×List Key),xs=al.map (λa=>V.ref a.1)/\Q2=al.map (·.2)/\ds=al.map (λa=>kT a.2)/\∀a∈al,G a.1=some (.tup (a.2.map kV))/\Rep K G (kT a.2) (.ref a.1)
 |[],_,_,e,r=>by
  cases e;rw[Reps]at r;exact⟨[],r,rfl,rfl,λ_ h=>nomatch h⟩
 |d::ds,_,_,e,r=>by
  rw[lC,abt]at e;obtain⟨k,e1,e⟩:=e;rw[aaH]at e;obtain⟨ks,e2,e3⟩:=e;subst e3;rw[Reps]at r;obtain⟨y,ys,e4,r1,r2⟩:=r;obtain⟨p,h1,h2,h5⟩:=fu e1 r1;obtain⟨al,h3,h4,h6,h7⟩:=lE e2 r2;subst h1;refine⟨(p,k)::al,by rw[e4,h3];rfl,by rw[h4];rfl,by rw[h5,h6];rfl,λa ha=>?_⟩;rcases ZJ.mp ha with rfl|ha
  .exact⟨h2,by rw[<-h5];exact r1⟩
  .exact h7 a ha
theorem il{α:Type}{f:α->D}{g:α->V}:∀{l:List α},(∀a∈l,Rep K G (f a) (g a))->Reps K G (l.map f) (l.map g)
 |[],_=>Reps.nil
 |a::l,h=>.cons (h a ZI) (il λb hb=>h b (ZN _ hb))
end
def sameKinds(k:List Key)(Q2:List (List Key)):Bool:=!k.isEmpty&&Q2.all λj=>kinds j==kinds k
def oE(ds:List D):Option (List D):=match dM ds with
 |some ls=>some ((bQ ltS ls).map D.str)
 |none=>match lC ds with
  |some (k::Q2)=>if sameKinds k Q2 then some ((bQ gE (k::Q2)).map kT) else none
  |_=>none
def dN:List D->Res R
 |[.lst ds]=>if ds.length<64 then match oE ds with
  |some l=>.ok (.l .f,.lst l)
  |none=>.bad
  else .bad
 |_=>.bad
theorem oF{k:List Key}{Q2:List (List Key)}(h:sameKinds k Q2=true):∃top t,∀j∈k::Q2,kinds j=top::t:=by
 unfold sameKinds at h;rw[ZP,aad]at h;cases k with
 |nil=>simp at h
 |cons a k=>
  refine⟨a.isLeft,kinds k,λj hj=>?_⟩;rcases ZJ.mp hj with rfl|hj
  .rfl
  .exact aaK.mp (h.2 j hj)
def kl(H G:Hp):Hp:=λp=>match H p with
 |some (HO.tup xs)=>some (HO.tup xs)
 |_=>G p
theorem uS(e:H p=some (.tup xs)):kl H G p=some (.tup xs):=by
 unfold kl;rw[e]
theorem lF{u:HO}(e:kl H G p=some u):G p=some u\/(UU u=true/\H p=some u):=by
 unfold kl at e;split at e
 .rename_i xs hx;cases e;exact .inr ⟨rfl,hx⟩
 .exact .inl e
theorem wQ(gh:Same G H):Same G (kl H G):=λp u e=>by
 unfold kl;rw[gh p u e];cases u with
 |tup xs=>rfl
 |_=>exact e
theorem Rel.addT(q:Rel K G H es vs fp):∃G',Rel K G' H es vs fp/\Step G H fp G' H fp/\∀p xs,H p=some (.tup xs)->G' p=some (.tup xs):=by
 have gg:=wQ q.gh;refine⟨kl H G,⟨q.rep.step gg λ_ _=>rfl,q.nd,λp hp=>?_,λp u e=>?_⟩,⟨gg,λ_ _ e _=>e,λ_ h=>.inl h,λp u e=>(lF e).imp_right λz=>.inr (.inr z),λ_ u e=>⟨u,e⟩⟩,λp xs e=>uS e⟩
 .cases e:kl H G p with
  |none=>rfl
  |some u=>
   exfalso;rcases lF e with z|⟨t,z⟩
   .rw[q.gn p hp]at z;cases z
   .obtain⟨u2,h2,hm⟩:=q.rep.mut p hp;rw[z]at h2;cases h2;cases u with
    |tup _=>cases hm
    |frz _ _=>cases hm
    |_=>cases t
 .rcases lF e with z|z
  .exact q.gh p u z
  .exact z.2
theorem Ba{k:Key}(h:yv k):Rep K G (kD k) (kV k):=by
 cases k with
 |inl i=>exact cC i
 |inr x=>
  have:=dI (K:=K) (G:=G) (l:=x.cps.toList) h;rw[lh]at this;exact this
theorem Fy(k:Key):pP (kD k)=some k:=by
 cases k with
 |inl i=>rfl
 |inr x=>
  show some (Sum.inr (S x.cps.toList))=_;rw[lh]
theorem lG:∀ks:List Key,gI (ks.map kD)=some ks
 |[]=>rfl
 |k::ks=>by
  rw[aae,gI,Fy,lG ks];rfl
theorem ng:∀Q2:List (List Key),lC (Q2.map kT)=some Q2
 |[]=>rfl
 |k::Q2=>by
  rw[aae,lC];show(gI (k.map kD)).bind _=_;rw[lG,ng Q2];rfl
section
theorem nlt{lt:α->α->Bool}{p:α->α->Prop}(h:∀a b,p a b->lt b a=false){l:List α}(q:l.Pairwise p):l.Pairwise (λa b=>lt b a=false):=q.imp (h _ _)
theorem gm(hc:X.calm=true):dF X (.builtin "sorted") (rC X.K dN):=by
 rintro pr s σ H xs us Q I rx ⟨G,fp,es,vs,ds,r,⟨rel,k⟩,vd,e⟩;unfold dN at e;split at e
 .rename_i ds;split at e
  .rename_i VJ;split at e
   .rename_i l hl;cases e;obtain⟨v,ev,p,ys,ep,sq,rs⟩:=mX vd;subst ev;subst ep;unfold oE at hl;split at hl
    .rename_i ls hls;cases hl;obtain⟨hy,hz⟩:=lD hls rs;subst hy;have hlen:ls.length<64:=by have:=rs.length;rw[ZT]at this;lia
     refine ky hc pr s σ H _ us Q I rx ⟨p,ls,rfl,sq,hlen,λq ms hq pm sm=>?_⟩;have em:=pO oB pm (nlt (λa b h=>by unfold ltS;rw[abq];exact h) sm);obtain⟨L6,Md⟩:=rel.newL hq (il (K:=X.K) (G:=G) (f:=D.str) (g:=λl=>V.str (S l)) (l:=ms) λa ha=>dI (hz a (pm.mem_iff.mp ha)));rw[<-em]at k;exact k _ _ G _ Md L6
    .split at hl
     .rename_i kk Q2 hk;split at hl
      .rename_i hsk;cases hl;obtain⟨al,h1,h2,h3,h4⟩:=lE hk rs;obtain⟨top,t,U0⟩:=oF hsk;subst h1;have hlen:al.length<64:=by have:=rs.length;rw[ZT]at this;lia
       refine kz hc pr s σ H _ us Q I rx ⟨p,al,top,t,rfl,sq,λa ha=>⟨SqT.of (rel.gh _ _ (h4 a ha).1),U0 a.2 (by rw[h2];exact aaO.mpr ⟨a,ha,rfl⟩)⟩,hlen,λq ms hq pm sm=>?_⟩;have em:ms.map (·.2)=bQ gE (kk::Q2):=by
        rw[h2];refine pO oD (pm.map _) ?_;rw[List.pairwise_map];exact sm
       obtain⟨L6,Md⟩:=rel.newL hq (il (K:=X.K) (G:=G) (f:=λa:WP×List Key=>kT a.2) (g:=λa=>V.ref a.1) (l:=ms) λa ha=>(h4 a (pm.mem_iff.mp ha)).2);have ek:ms.map (λa=>kT a.2)=(bQ gE (kk::Q2)).map kT:=by rw[<-em,aah];rfl
       rw[ek]at L6;exact k _ _ G _ Md L6
      .cases hl
     .cases hl
   .cases e
  .cases e
 .cases e
def PJ(a b:D):Res R:=match iX a,iX b with
 |some ks,some js=>if kinds ks==kinds js then .ok (.f,.bl (gE ks js)) else .bad
 |_,_=>VI a b
def geO(a b:D):Res R:=match iX a,iX b with
 |some ks,some js=>if kinds ks==kinds js then .ok (.f,.bl (!gE ks js)) else .bad
 |_,_=>match a,b with
  | .str a,.str b=>.ok (.f,.bl (!decide (a<b)))
  |a,b=>geD a b
theorem ju(hu:X.A.units<cLine):Nk X (compareOp .Lt) (rG X.K PJ):=by
 rintro pr s σ H x y v u Q I rx ry ⟨G,fp,es,vs,a,b,r,⟨rel,k⟩,va,vb,e⟩;unfold PJ at e;split at e
 .rename_i ks js h1 h2;split at e
  .rename_i hk;cases e;have ra:Rep X.K G a x:=by cases a <;> first|exact va|cases h1
   have rb:Rep X.K G b y:=by cases b <;> first|exact vb|cases h2
   obtain⟨p,e1,g1,_⟩:=fu h1 ra;obtain⟨p2,e2,g2,_⟩:=fu h2 rb;subst e1;subst e2;exact Ff hu pr s σ H _ _ v u Q I rx ry ⟨p,p2,ks,js,rfl,rfl,SqT.of (rel.gh _ _ g1),SqT.of (rel.gh _ _ g2),aaK.mp hk,k _ H G fp .refl (rel.push (dH _))⟩
  .cases e
 .exact Iw pr s σ H x y v u Q I rx ry ⟨G,fp,es,vs,a,b,r,⟨rel,k⟩,va,vb,e⟩
end
def eNewD(tk:Bool):FX:=λenv=>.ok ((.d,.dct tk [] []),env)
variable{κ:Type}
section
def tS(ks vs:List D)(k v:D):List D×List D:=if ks.any (Mv k) then(ks,(ks.zip vs).map λp=>if Mv k p.1 then v else p.2) else(ks++[k],vs++[v])
def iY(tk:Bool)(k:D):Bool:=if tk then(iX k).isSome else(pP k).isSome
def Fz(i:Nat)(fk fv:FX):FS:=λenv=>(fv env).bind λp=>(fk p.2).bind λq=>match p.2[i]?,q.2[i]? with
 |some (some _),some (some (.d,.dct tk ks vs))=>if iY tk q.1.2&&decide (ks.length<sizeLine) then .ok (.nx (q.2.set i (some (.d,.dct tk (tS ks vs q.1.2 p.1.2).1 (tS ks vs q.1.2 p.1.2).2)))) else .bad
 |_,_=>.bad
theorem Bb(a b:Key):Mv (kD a) (kD b)=decide (a=b):=by
 cases a with
 |inl i=>
  cases b with
  |inl j=>simp![kD,Mv];rw[aay];simp
  |inr y=>simp![kD,Mv];simp
 |inr x=>
  cases b with
  |inl j=>simp![kD,Mv];simp
  |inr y=>
   simp![kD,Mv];rw[aay];simp![aaK,Z2,Sum.inr.injEq];exact⟨λh=>by rw[<-lh x,<-lh y,h],λh=>by rw[h]⟩
theorem wR:∀a b:List Key,kI (a.map kD) (b.map kD)=decide (a=b)
 |[],[]=>by simp[kI]
 |[],_::_=>by simp[kI]
 |_::_,[]=>by simp[kI]
 |a::r,b::t=>by
  rw[aae,aae,kI,Bb,wR r t,aay];simp
theorem FA(a b:List Key):Mv (kT a) (kT b)=decide (a=b):=by
 unfold kT;rw[Mv];exact wR a b
theorem pQ[DecidableEq κ](f:κ->D)(hf:∀a b,Mv (f a) (f b)=decide (a=b)){kvs:List (κ×V)}{vs:List D}{k:κ}{v:D}(r:Reps K G vs (kvs.map (·.2)))(ry:Rep K G v y):
  (mH kvs k y).map (λkv=>f kv.1)=(tS (kvs.map λkv=>f kv.1) vs (f k) v).1/\Reps K G (tS (kvs.map λkv=>f kv.1) vs (f k) v).2 ((mH kvs k y).map (·.2)):=by
 have e:(kvs.map λkv=>f kv.1).any (Mv (f k))=kvs.any λkv=>decide (kv.1=k):=by
  rw[adP];congr 1
  funext kv
  show Mv (f k) (f kv.1)=_;rw[hf,aay];simp![Z2];exact⟨λz=>z.symm,λz=>z.symm⟩
 unfold tS mH;rw[e];split
 .refine⟨?_,?_⟩
  .rw[aah];refine abP λkv _=>?_
   show f (if kv.1=k then(kv.1,y) else kv).1=f kv.1;split <;> rfl
  .rename_i hany;clear e hany;induction kvs generalizing vs with
   |nil=>
    have:vs=[]:=aaC (by rw[<-r.length];rfl);subst this;exact Reps.nil
   |cons kv kvs ih=>
    cases vs with
    |nil=>have:=r.length;simp at this
    |cons d vs=>
     rw[aae,Reps.cons_iff]at r;rw[aae,acZ,aae,aae,aae];refine .cons ?_ (ih r.2);show Rep K G (if Mv (f k) (f kv.1)=true then v else d) (if kv.1=k then(kv.1,y) else kv).2;rw[hf];by_cases hk:kv.1=k
     .rw[ZY (by simp[hk]),ZY hk];exact ry
     .rw[Z6 (by simp;exact λz=>hk z.symm),Z6 hk];exact r.1
 .refine⟨?_,?_⟩
  .rw[Z4];rfl
  .rw[Z4];exact r.app (.one ry)
theorem Rel.chgD{ks ws:List D}(q:Rel K G H es vs fp)(e:es[i]?=some (some (.d,.dct tk ks ws))):∃p xs u,vs[i]?=some (some (.ref p))/\H p=some u/\DictO u tk ks xs/\Reps K G ws xs/\
  ∀u' Ru OS Wg,DictO u' tk Ru OS->Reps K G Wg OS->∃fq,Rel K G (upd H p u') (es.set i (some (.d,.dct tk Ru Wg))) vs fq/\Step G H fp G (upd H p u') fq:=by
 obtain⟨v,fq,ev,g,st,Pf⟩:=q.out e;obtain⟨y,ys,e0,v',a,b,e1,e2,r1,r2⟩:=g.rep;cases e0;cases e1;rw[RepO]at r1;obtain⟨p,xs,u,e3,hp,dd,e4,rs⟩:=r1;subst e3;subst e4;subst e2;have nd:=aas.mp (show(p::b).Nodup from g.nd);refine⟨p,xs,u,ev,hp,dd,rs,λu' Ru OS Wg Ut Oy=>?_⟩;have g2:Rel K G (upd H p u') (some (.d,.dct tk Ru Wg)::es.set i none) (some (.ref p)::vs) (p::b):=by
  refine⟨⟨some (.ref p),vs,rfl,.ref p,[p],b,rfl,rfl,?_,r2.step (.refl _) λz hz=>aU λe=>nd.1 (e▸hz)⟩,g.nd,g.gn,λz o ez=>?_⟩
  .rw[RepO];exact⟨p,OS,u',rfl,bO,Ut,rfl,Oy⟩
  .have:z≠p:=λw=>by
    subst w;rw[g.gn z ZI]at ez;cases ez
   rw[aU this];exact g.gh z o ez
 have Wi:Step G H (p::b) G (upd H p u') (p::b):=by
  refine⟨.refl _,λz o ez nz=>?_,λz hz=>.inl hz,λz o ez=>.inl ez,λz o ez=>?_⟩
  .have:z≠p:=λw=>nz (by rw[w];exact ZI)
   rw[aU this];exact ez
  .by_cases w:z=p
   .subst w;exact⟨_,bO⟩
   .exact⟨o,by rw[aU w];exact ez⟩
 obtain⟨fz,g3,Nj⟩:=g2.back (i:=i) (by rw[abW];exact(Z1.mp e).1) ev;rw[acu]at g3;exact⟨fz,g3,st.trans (Wi.trans Nj)⟩
theorem Bc{k:Key}(e:pP d=some k)(r:Rep K G d v):yv k:=by
 cases d with
 |int i=>cases e;trivial
 |str l=>
  cases e;show(S l).cps.toList.length<=sizeLine;rw[eF];exact(eP r).2
 |_=>cases e
theorem rE{K:W.Frag}{G:Hp}:∀{ds:List D}{ks:List Key}{xs:List V},gI ds=some ks->Reps K G ds xs->∀k∈ks,yv k
 |[],_,_,e,_=>by
  cases e;exact λ_ h=>nomatch h
 |d::ds,_,_,e,r=>by
  rw[gI,abt]at e;obtain⟨k,e1,e⟩:=e;rw[aaH]at e;obtain⟨ks,e2,e3⟩:=e;subst e3;rw[Reps]at r;obtain⟨y,ys,e4,r1,r2⟩:=r;intro z hz;rcases ZJ.mp hz with rfl|hz
  .exact Bc e1 r1
  .exact rE e2 r2 z hz
theorem tU[DecidableEq κ]{P:κ->Prop}{kvs:List (κ×V)}{k:κ}(h:∀kv∈kvs,P kv.1)(hk:P k):∀kv∈mH kvs k y,P kv.1:=by
 intro kv Qn;unfold mH at Qn;split at Qn
 .obtain⟨z,hz,e⟩:=aaO.mp Qn;rw[<-e];split
  .exact h z hz
  .exact h z hz
 .rcases aag.mp Qn with Qn|Qn
  .exact h kv Qn
  .rw[aan]at Qn;rw[Qn];exact hk
theorem Bd{o ix value:Expr}{fk fv:FX}{pos':Pos}(hu:X.A.units+1<cLine)(ho:PE X o (qU i))(hi:QE X ix fk)(hv:QE X value fv)(hs:swapsWith value (some (.Subscript o ix pos')) pos.line X.env=pure false:=by rfl):
  QS (md:=md) X (.Assign [.Subscript o ix pos'] value pos) (Fz i fk fv):=iC (Ck hu ho hi hv hs) λDd σ H Mh=>by
 obtain⟨G,env,fp,rel,k⟩:=Mh;unfold Fz at k;match q1:fv env,k with
 | .ok (r1,L0),k=>
  have k:OutOk X.K G H fp Dd ((fk L0).bind λq=>match L0[i]?,q.2[i]? with
   |some (some _),some (some (.d,.dct tk ks vs))=>if iY tk q.1.2&&decide (ks.length<sizeLine) then .ok (.nx (q.2.set i (some (.d,.dct tk (tS ks vs q.1.2 r1.2).1 (tS ks vs q.1.2 r1.2).2)))) else .bad
   |_,_=>.bad):=k
  match q2:fk L0,k with
  | .ok (r2,Ml),k=>
   have k:OutOk X.K G H fp Dd (match L0[i]?,Ml[i]? with
    |some (some _),some (some (.d,.dct tk ks vs))=>if iY tk r2.2&&decide (ks.length<sizeLine) then .ok (.nx (Ml.set i (some (.d,.dct tk (tS ks vs r2.2 r1.2).1 (tS ks vs r2.2 r1.2).2)))) else .bad
    |_,_=>.bad):=k
   split at k
   .rename_i rr tk ks ws h1 h2;split at k
    .rename_i hc;rw[ZP,Z2]at hc;refine⟨G,env,fp,r1,L0,rel,q1,λy H1 G1 Mt Mk L5=>?_⟩;obtain⟨G2,b,ry,L6,Md⟩:=L5.freeze;obtain⟨v0,Zm,_⟩:=L6.view h1;refine⟨v0,Zm,G2,L0,b,r2,Ml,L6,q2,λz H3 G3 Qh Nj Nb=>?_⟩;obtain⟨G4,b4,rz,Nl,Oc⟩:=Nb.freeze;obtain⟨p,xs,u,ep,hp,dd,rs,cg⟩:=Nl.chgD h2;rw[Zm]at ep;cases ep;have Zn:Rep X.K G4 r1.2 y:=Rep.mono (Nj.gg.trans Oc.gg) ry;cases tk with
     |true=>
      obtain⟨kvs,eu,ek,ex,RE⟩:=dd;subst eu;subst ex;have hk:=hc.1;unfold iY at hk;rw[ZY rfl,aa7]at hk;obtain⟨kk,hk⟩:=hk;obtain⟨pz,ez,gz,dz⟩:=fu hk rz;subst ez;obtain⟨t1,t2⟩:=pQ (K:=X.K) (G:=G4) kT FA (k:=kk) rs Zn;have ek:ks=kvs.map λkv=>kT kv.1:=ek
      rw[<-ek,<-dz]at t1 t2;have hfk:∀key∈kk,yv key:=by
       cases hd:r2.2 with
       |tup ds=>
        rw[hd]at hk rz;obtain⟨_,OS,_,_,Oy⟩:=wD rz;exact rE hk Oy
       |_=>rw[hd]at hk;cases hk
      obtain⟨fq,Ob,OR⟩:=cg (.dT (mH kvs kk y)) _ _ _ ⟨mH kvs kk y,rfl,t1.symm,rfl,tU (P:=λks=>∀k∈ks,yv k) RE hfk⟩ t2;have hlen:kvs.length<sizeLine:=by have:=hc.2;rw[ek,ZT]at this;exact this
      exact⟨p,_,rfl,DPut.t hp (Nl.gh _ _ gz) hlen,k _ _ G4 fq (Mk.trans (Md.trans (Nj.trans (Oc.trans OR)))) Ob⟩
     |false=>
      obtain⟨kvs,eu,ek,ex,RE⟩:=dd;subst eu;subst ex;have hk:=hc.1;unfold iY at hk;rw[Z6 ZU,aa7]at hk;obtain⟨kk,hk⟩:=hk;obtain⟨ez,dz⟩:=m5 hk rz;subst ez;obtain⟨t1,t2⟩:=pQ (K:=X.K) (G:=G4) kD Bb (k:=kk) rs Zn;rw[<-ek,<-dz]at t1 t2;obtain⟨fq,Ob,OR⟩:=cg (.dK (mH kvs kk y)) _ _ _ ⟨mH kvs kk y,rfl,t1.symm,rfl,tU (P:=yv) RE (Bc hk rz)⟩ t2;have hlen:kvs.length<sizeLine:=by have:=hc.2;rw[ek,ZT]at this;exact this
      exact⟨p,_,rfl,DPut.k hp hlen,k _ _ G4 fq (Mk.trans (Md.trans (Nj.trans (Oc.trans OR)))) Ob⟩
    .exact k.elim
   .exact k.elim
end
end PV
namespace NX
section
variable{prog:W1}{w:World}{A:Uf}{E:Wp->WF->Prop}{s:WF}{d:WP}{es:Array DictEntry}{ep:Nat}
end
end NX
namespace PV
variable{X:Cx}{e:Expr}{fa:FO}
section
def lenA(ds:List D):Res R:=Iz ds
theorem bo:dF X (.builtin "len") (rC X.K lenA):=Ft
def Eb(g:List Nat->List D->Res R)(fa:FO)(fs:Od):FX:=λenv=>(fa env).bind λp=>match OA p.2 p.1 with
 | .ok (.str l)=>(fs p.2).bind λq=>(sZ q.2 q.1).bind λds=>(g l ds).bind λr=>.ok (r,q.2)
 |_=>.bad
inductive rMtS(K:W.Frag)(g:List Nat->List D->Res R)(x:V)(xs:List V)(H:Hp)(Q:VK):Prop
 |mk:∀G fp es vs l ds r,Goes K H G fp es vs r Q->x=.str (S l)->l.length<=sizeLine->VN K G H ds xs->g l ds=.ok r->rMtS K g x xs H Q
theorem tV{g:List Nat->List D->Res R}{id:String}{name:Str}{o:Expr}{es:List Expr}{fs:Od}{apos Mu:Pos}(slot:Slot "str" name id)(V7:typeOf (.builtin id)=pure (.type "method_descriptor"))(hm:Xp X id (rMtS X.K g))(ho:QO X o fa)(ha:SI X (e::es) fs)
  (Oe:attributeBase o name X.env (eval o X.env)=eval o X.env:=by rfl)
  (Qy:((backTo Mu (starEach (e::es) X.env)).all (λx=>!x.1)&&(backToKw Mu (keywordEach [] X.env)).all (λx=>x.1.isSome)&&decide ((e::es).length+([]:List Keyword).length+(if([]:List Keyword).isEmpty then 0 else 1)<30))=true:=by rfl)
  (OU:(apos.endLine==Mu.line)=true:=by rfl) (hs:starEach (e::es) X.env=(false,eval e X.env)::starEach es X.env:=by rfl) (N2:(backTo Mu (starEach es X.env)).any (·.1)=false:=by rfl):
  QE X (.Call (.Attribute o name apos) (e::es) [] Mu) (Eb g fa fs):=by
 refine bW (yM PySem.F.plainAttrs_str slot V7 hm ho ha Oe Qy OU hs N2) λσ H Q MC=>?_
 obtain⟨G,env,fp,r,env',rel,e,k⟩:=MC;obtain⟨⟨oa,L0⟩,e1,e⟩:=aB e;dsimp only at e;split at e
 .rename_i l hl;obtain⟨⟨os,Ml⟩,e2,e⟩:=aB e;obtain⟨ds,e3,e⟩:=aB e;obtain⟨r',e4,e⟩:=aB e;cases e;refine⟨G,env,fp,oa,L0,rel,e1,λv H1 G1 Mt Mk L5 O6=>?_⟩;obtain⟨ev,hz⟩:=fH (L5.vw O6 hl);subst ev;exact⟨rfl,G1,L0,Mt,os,Ml,L5,e2,λvs H2 G2 NK Md L6 Tt=>⟨G2,NK,Ml,σ,l,ds,r,⟨L6,λv H' G' L9 st M1=>k v H' G' L9 (Mk.trans (Md.trans st)) M1⟩,rfl,hz,L6.vws Tt e3,e4⟩⟩
 .cases e
def wU(l:List Nat):List D->Res R
 |[.str c]=>match Builtin.Str.occurrences (S l) (S c) 0 (S l).length 1 with
  |i::_=>.ok (.f,.int i)
  |[]=>.bad
 |_=>.bad
theorem zl:Xp X "str.index" (rMtS X.K wU):=by
 rintro pr s σ H x xs v us Q I rx rv ⟨G,fp,es,vs,l,ds,r,⟨rel,k⟩,ex,hz,vd,e⟩;unfold wU at e;split at e
 .rename_i c;split at e
  .rename_i i rest ho;cases e;subst ex;obtain⟨w',ew,vc⟩:=mX vd;obtain⟨ev,_⟩:=fH vc;subst ew;subst ev;obtain⟨t,rfl⟩:=rx;obtain⟨u,rfl,t',rfl⟩:=fV rv;exact call_gives adA (ada _ _ _) PySem.F.entry_str_index (PySem.F.args_str_index_2 _ _) (gives_str_index (S l) (S c) t t' i rest ho) ⟨.int i,H,I.tok _,⟨_,rfl⟩,k _ H G fp .refl (rel.push (cC _))⟩
  .cases e
 .cases e
end
variable{K:W.Frag}{x:Str}{st:Stmt}{N:List Str}
theorem fnok_of{P:W1}{w:World}{mg:Str->Option Wp}{base:UF}{ps:List Str}{k:Nat}{g:FS}{f:WP}{fd:FuncData}(F:Fun K x x st f fd)(sc:FnScope N ps (defScope st))
  (body:∀(MA:Wp) (A:Uf) (outer:List PySem.Env) (s:WF) (H:Hp) (E:XK),Room k (A.deeper (envOfC x (defScope st) s.heap.objs.size f MA))->Sn (md:=.plain) (qP Sz P w K mg base N x (defScope st) f MA A outer s H E).nox (dj st) g):
  FnOk P w K mg base Sz (k+1) f fd ps (spF K (fBody ps.length (N.length-ps.length) g)):=by
 refine F.ok sc (λvs H Q E h=>?_) (λMA A outer s H vs Q E hr h=>?_)
 .obtain⟨G,ds,r,_,rs,e,_⟩:=h;unfold fBody at e;split at e
  .rename_i hl;rw[rs.length,hl]
  .cases e
 .obtain⟨G,ds,r,gh,rs,e,q⟩:=h;unfold fBody at e;split at e
  .rename_i hl;refine⟨_,body MA A outer s H E hr,G,ds.map (λd=>some (O.f,d))++List.replicate (N.length-ps.length) none,[],⟨?_,aa0,(λ_ h=>nomatch h),gh⟩,?_⟩
   .have:=jr (K:=K) (G:=G) (H:=H) (N.length-ps.length) rs;unfold L2.start;rw[rs.length,hl];exact this
   .obtain⟨o,eo,e⟩:=aB e;rw[eo];cases o with
    |rt r'=>
     cases e;exact λv H' G' L9 st rel=>q v H' G' L9 st rel
    |nx env'=>
     cases e;exact λσ' H' G' L9 st rel=>q .non H' G' [] (st.trans (Step.cut λ_ h=>nomatch h)) (rel.nilF.push iV)
    |bk env'=>cases e
    |ct env'=>cases e
  .cases e
def zm(K:W.Frag):Sp:=λvs H Q _=>∃(a:WP) (ns:List Int),vs=[.ref a]/\SqL K H a (ns.map V.int)/\ns.length<=63/\∀H',Q (.bl true) H'
theorem FC{F:List D->Res R}(h:∀ns:List Int,ns.length<=63->∃o,F [.lst (ns.map D.int)]=.ok (o,.bl true)):∀vs H Q E,zm K vs H Q E->spF K F vs H Q E:=by
 rintro vs H Q E ⟨a,ns,rfl,sq,hl,q⟩;obtain⟨o,e⟩:=h ns hl;refine⟨H,_,_,.refl _,?_,e,λv H' G' L9 st rel=>?_⟩
 .refine .one ?_;rw[Rep];exact⟨a,_,rfl,sq,il λn _=>cC n⟩
 .rw[kC rel.top];exact q H'
theorem _root_.L2.Room.u65{k:Nat}{A:Uf}(r:Room k A):A.units+65<cLine:=by have:=r.un;lia
def HA(f:FX)(a:FG):FS:=λenv=>(f env).bind λp=>(a p.1.2 p.2).bind λe=>.ok (.nx e)
variable{f:FX}{a:FG}{pos:Pos}
theorem FD{tg:Expr}(he:QE X e f)(hg:QG X tg a)(hs:swapsWithSole [tg] e pos.line X.env=pure false:=by rfl)(hw:swappedStores [tg] e X.env=pure none:=by rfl)
  (h1:(assignEach [tg] X.env).map (·.2)=[assign tg X.env]:=by rfl):QS (md:=md) X (.Assign [tg] e pos) (HA f a):=iC (Ex he hg hs hw h1) λDd σ H Mh=>by
 obtain⟨G,env,fp,rel,k⟩:=Mh;unfold HA at k;match q:f env,k with
 | .ok (r,L0),k=>
  have k:OutOk X.K G H fp Dd ((a r.2 L0).bind λe=>.ok (.nx e)):=k;match q2:a r.2 L0,k with
  | .ok Ml,k=>
   refine⟨G,env,fp,r,L0,rel,q,λv H1 G1 Mt Mk L5=>?_⟩;obtain⟨G2,b,rv,L6,Md⟩:=L5.freeze;exact⟨G2,L0,b,r.2,Ml,L6,rv,q2,λσ' G' L9 st M1=>k σ' H1 G' L9 (Mk.trans (Md.trans st)) M1⟩
theorem K2{l:PySem.W.OpenLaw}{q:W1}{loose:List Str}{XP:(Str->Option Wp)->UF->Prop}{YP:World->UF->Prop}{d:DefRec}{K:Params->W.Frag}{k:Nat}(hn:l.most=some 63)(V8:d.params.defaults=[])(hr:Room k PySem.callerA)
  (hY:∀(w:World) (h:UF),YP w h->(K w.params).In h)
  (F:∀(w:World) (mg:Str->Option Wp) (fa:WP) (h:UF),(K w.params).In h->h.Ns mainGlobals mg->mg d.name=some (.ref fa)->
   ∃fd:FuncData,(∀(s:WF) (u:Wp),BindsTo s fd ⟨[u],[]⟩ [(x,u)])/\∀base:UF,(K w.params).In base->base.Ns mainGlobals mg->FnOk l.prog w (K w.params) mg base Sz k fa fd [x] (zm (K w.params))):
  PySem.W.WalkO q loose XP YP l.row.toRowW d [] (λf vs=>PySem.call f vs):=
 L2.B3 (n:=63) (k:=k) (x:=x) (CX:=λ_=>Sz) (sp:=λw=>zm (K w.params)) hn (by decide) V8 hr hY F (λ_ _ a ns hl _ hS=>⟨a,ns,rfl,hS,hl,λ_=>rfl⟩) λ_ _ _ _ _ z=>z
theorem wV:bootBuiltins "max" = some (.builtin "max"):=by decide +kernel
theorem tW:bootBuiltins "all" = some (.builtin "all"):=by decide +kernel
theorem gq:bootBuiltins "sorted" = some (.builtin "sorted"):=by decide +kernel
variable{h:UF}{mg:Str->Option Wp}
theorem FE{f:WP}{oc:Wp}{od an:Option WP}{SD:Array (Option Wp)}{kV doc pm MA ct:Wp}(X:K.In h)(G:h.Ns mainGlobals mg)
  (a:PySem.W.nsIn K mainGlobals x=some (some (.ref f))) (l:K.lookup f=some ⟨oc,od,.func (PySem.W.fnOf x x (fQ st) (dj st) (defScope st) .none kV doc pm an MA ct),SD⟩)
  (c:PySem.W.codeIn K MA x=true) (k:PySem.W.keepIn K (.ref f)=true):Def K mg x st:=⟨f,_,AG l c k,aa4 X G a⟩
theorem wW{n:Int}{t:Tok}(X:K.In h)(G:h.Ns mainGlobals mg)(a:PySem.W.nsIn K mainGlobals x=some (some (.int n t))):Gi mg x n:=⟨t,aa4 X G a⟩
inductive tQL(K:W.Frag)(f:FI)(σ:L2.St)(H:Hp)(R:It->Hp->Prop):Prop
 |mk:∀G env fp ds env',Rel K G H env σ fp->f env=.ok (ds,env')->(∀J H' G' L9,Step G H fp G' H' L9->Rel K G' H' env' σ L9->(∀G2,Same G' G2->(∀(i:Nat) (r:PV.R) (v:V),env'[i]?=some (some r)->σ[i]?=some (some v)->Rep K G2 r.2 v)->Walk K G2 J ds)->R J H')->tQL K f σ H R
def U1(X:Cx)(tg e:Expr)(f:FI):Prop:=PI X tg e (tQL X.K f)
theorem Walk.mono{G G2:Hp}{J:It}{ds:List D}(w:Walk K G J ds)(gg:Same G G2):Walk K G2 J ds:=λG' H' es vs fp g rel=>w G' H' es vs fp (gg.trans g) rel
variable{fi:FI}{c:FT}
theorem Be{ix:List (Option Nat)}{σ:L2.St}{H:Hp}{Q:VK}(h:tQ K (gc fi ix a c f) σ H Q):B7 (tQL K fi) ix (tQG K a) (tQT K c) (tQ K f) σ H Q:=by
 obtain⟨G,env,fp,r,env',rel,e,k⟩:=h;obtain⟨⟨ds,L0⟩,e1,e⟩:=aB e;obtain⟨rs,e2,e⟩:=aB e;refine⟨G,env,fp,ds,L0,rel,e1,λJ H1 G1 Mt Mk L5 wk D hD=>?_⟩;dsimp only at e e2;split at e
 .rename_i hz;have er:r=(.l .f,.lst rs):=by cases e;rfl
  have ee:env'=if flatDs rs then L0 else L0.map frz:=by cases e;rfl
  subst er;obtain⟨G2,UW,UX,Pw,hrE,PH⟩:=L5.lend;have wk2:=wk G2 UW Pw;have L6:Rel K G2 H1 (dB ix L0) (j9 ix σ) []:=⟨gf Pw (λi r er=>let⟨v,ev,_⟩:=L5.view er;⟨v,ev⟩) ix,aa0,(λ_ h=>nomatch h),UX⟩
  obtain⟨Nb,Nj⟩:=L6.newL (ds:=[]) (xs:=[]) hD .nil;refine⟨λi m σ1 H2=>m=ds.length-i/\i<=ds.length/\∃G' es L9 acc rest,Step G2 H1 [] G' H2 L9/\Rel K G' H2 (some (.l .f,.lst acc)::es) (some (.ref D)::σ1) L9/\fF a c f (ds.drop i) es=.ok rest/\acc++rest=rs,
   ⟨_,rfl,aaB _,G2,dB ix L0,_,[],rs,Nj,Nb,e2,rfl⟩,?_⟩
  rintro i m σ1 H2 ⟨rfl,hi,G3,es,Qh,acc,rest,Oc,Nl,e4,RF⟩;obtain⟨w1,w2⟩:=wk2 G3 H2 _ _ _ Oc.gg Nl i;by_cases NI:i<ds.length
  .have hd:ds[i]?=some ds[i]:=ZW NI;obtain⟨go,yl⟩:=w1 _ hd;rw[ab0 NI]at e4;unfold fF at e4;obtain⟨Uu,h1,e4⟩:=aB e4;obtain⟨⟨b,TH⟩,h2,e4⟩:=aB e4;dsimp only at e4;refine .inr ⟨go,λx H3 y=>?_⟩;obtain⟨G4,rx,Ob,OR⟩:=yl x H3 y;obtain⟨fa,fb,U2,ra,SO,bk⟩:=Ob.frame;refine⟨G4,es,fb,ds[i],Uu,SO,rx,h1,λσ2 G5 Tu XC TK=>?_⟩;refine⟨G5,Uu,Tu,b,TH,TK,h2,λH6 G6 XD Yq TM=>?_⟩;have Wy:=XC.trans Yq;cases b with
   |false=>
    refine iteF ⟨ds.length-(i+1),by lia,rfl,NI,?_⟩;obtain⟨PL,RX⟩:=bk G6 H6 TH σ2 XD Wy TM;rw[<-U2]at RX;exact⟨G6,TH,_,acc,rest,Oc.trans (OR.trans RX),PL,e4,RF⟩
   |true=>
    have e4:((f TH).bind λq=>(fF a c f (ds.drop (i+1)) q.2).bind λrs=>.ok (q.1.2::rs))=.ok rest:=e4;obtain⟨⟨r,U3⟩,h3,e4⟩:=aB e4;obtain⟨Wz,h4,e4⟩:=aB e4;cases e4;refine EV ⟨G6,TH,XD,r,U3,TM,h3,λv H7 G7 fp7 Yr U4=>?_⟩;obtain⟨G8,Ys,rv,U5,Yt⟩:=U4.freeze;obtain⟨PL,RX⟩:=bk G8 H7 U3 σ2 Ys (Wy.trans (Yr.trans Yt)) U5;rw[<-U2]at RX;obtain⟨p,xs,ep,hp,Uv,cg⟩:=PL.chg (i:=0) (ds:=acc) (ds':=acc++[r.2]) rfl;have ep:some (some (V.ref D))=some (some (V.ref p)):=ep;cases ep;obtain⟨fq,U6,Yu⟩:=cg (xs++[v]) (Uv.app (.one rv));refine⟨xs,hp,?_,ds.length-(i+1),by lia,rfl,NI,G8,U3,fq,acc++[r.2],Wz,Oc.trans (OR.trans (RX.trans Yu)),U6,h4,?_⟩
    .rw[Uv.length];have:=abB List.length RF;rw[aau,ZR]at this;lia
    .rw[<-RF,aaa];rfl
  .have ei:i=ds.length:=by lia
   subst ei;rw[List.drop_length]at e4;cases e4;rw[aak]at RF;subst RF;refine .inl ⟨w2 rfl,?_⟩;obtain⟨fa,relo,sto⟩:=Nl.only;obtain⟨k1,k2⟩:=PH H2 G3 fa _ _ (Oc.trans sto) relo;rw[ee]at k;by_cases hc:flatDs acc=true
   .rw[ZY hc]at k;obtain⟨G5,Tu,OR,Ob⟩:=k1 (by rw[cO,ou];exact hc);exact k _ H2 G5 Tu (Mk.trans OR) Ob
   .rw[Z6 hc]at k;obtain⟨G5,Tu,OR,Ob⟩:=k2;exact k _ H2 G5 Tu (Mk.trans OR) Ob
 .cases e
variable{i:Nat}
section
variable{md:Mode}{scope:Scope}{tg iter elt:Expr}{ifs:List Expr}
variable{l:Expr}{g fj:FI}
theorem dO(h:QI X tg e fi):U1 X tg e fi:=kh h λσ H R ⟨G,env,fp,ds,env',rel,e,k⟩=>⟨G,env,fp,ds,env',rel,e,λJ H' G' L9 st M1 wk=>k J H' G' L9 st M1 λ_ gg _=>wk.mono gg⟩
theorem iH(h:U1 X tg e fi)(h2:U1 X tg e fj):U1 X tg e (OB fi fj):=λpr s σ H R I Mh=>by
 obtain⟨G,env,fp,ds,env',rel,ee,k⟩:=Mh;rcases A8 ee with z|z
 .exact h pr s σ H R I ⟨G,env,fp,ds,env',rel,z,k⟩
 .exact h2 pr s σ H R I ⟨G,env,fp,ds,env',rel,z,k⟩
def mJ(i:Nat):FI:=λenv=>match env[i]? with
 |some (some (_,.lst ds))=>.ok (ds,env)
 |_=>.bad
theorem lH(h:PE X l (qU i)):U1 X tg l (mJ i):=kh (vD h) λσ H R Mh=>by
 obtain⟨G,env,fp,ds,env',rel,e,k⟩:=Mh;unfold mJ at e;split at e
 .rename_i o ds hr;cases e;obtain⟨v,ev,rv⟩:=rel.view hr;obtain⟨p,xs,Zo,sq,rs⟩:=gY rv;refine⟨v,ev,p,Zo,⟨xs,sq⟩,k _ H G fp .refl rel λG2 gg Pw=>?_⟩;obtain⟨p',OS,WA,OV,Oy⟩:=gY (Pw i _ v hr ev);rw[Zo]at WA;cases WA;exact pH OV Oy
 .cases e
theorem c5(ix:List (Option Nat))(N:List Str)(hc:X.calm=true)(hi:U1 X tg iter fi)(hg:∀C s H fp pn,QG (bI X scope N C s H fp pn) tg a)(ht:∀C s H fp pn,Yl (bI X scope N C s H fp pn) ifs c)(he:∀C s H fp pn,QE (bI X scope N C s H fp pn) elt f)
  (hf:gQ scope X.env=true:=by rfl) (hk:scope.kind=.function:=by rfl) (M9:∀y∈scope.names,y.2≠.cell:=by decide +kernel) (Nf:∀y∈scope.names,y.2=.local->scope.names.lookup y.1=some .local:=by decide +kernel) (OD:vW X scope N ix=true:=by rfl)
  (hs:∀x,foldedSetIterable iter X.env x=pure x:=by intro _;rfl):QE X (.ListComp elt [⟨tg,iter,ifs,0⟩] scope pos) (gc fi ix a c f):=
 bW (B9 (g:=tQG X.K a) (tc:=tQT X.K c) (te:=tQ X.K f) ix N hc hi hg ht he hf hk M9 Nf OD hs) λ_ _ _=>Be
theorem zo{y:Str}{py Qk:Pos}(ix:List (Option Nat))(N:List Str)(hN:X.N.Nodup)(X9:X.N[i]?=some y)(hy:Loc X.env.scope y)(hc:X.calm=true)(hi:U1 X tg iter fi)(hg:∀C s H fp pn,QG (bI X scope N C s H fp pn) tg a)(ht:∀C s H fp pn,Yl (bI X scope N C s H fp pn) ifs c)
  (he:∀C s H fp pn,QE (bI X scope N C s H fp pn) elt f) (UQ:swapsWith (.ListComp elt [⟨tg,iter,ifs,0⟩] scope pos) (some (.Name y py)) Qk.line X.env=pure true:=by rfl)
  (hf:gQ scope X.env=true:=by rfl) (hk:scope.kind=.function:=by rfl) (M9:∀y∈scope.names,y.2≠.cell:=by decide +kernel) (Nf:∀y∈scope.names,y.2=.local->scope.names.lookup y.1=some .local:=by decide +kernel) (OD:vW X scope N ix=true:=by rfl)
  (hs:∀x,foldedSetIterable iter X.env x=pure x:=by intro _;rfl) (Ry:X.fn y=true\/X.env.scope.names.lookup y=some .local:=by first|exact .inl rfl|exact .inr rfl):
  QS (md:=md) X (.Assign [.Name y py] (.ListComp elt [⟨tg,iter,ifs,0⟩] scope pos) Qk) (cy i (gc fi ix a c f)):=
 iC (Ca (i:=i) (g:=tQG X.K a) (tc:=tQT X.K c) (te:=tQ X.K f) ix N hN X9 hy hc hi hg ht he UQ hf hk M9 Nf OD hs Ry) λD σ H ⟨G,env,fp,rel,k⟩=>Be (wG rel k)
end
section
variable{a:Expr}
def LP(fa:FO):FX:=λenv=>(fa env).bind λp=>(OA p.2 p.1).bind λd=>match d with
 | .int i=>.ok ((.f,.int (-i)),p.2)
 |_=>.bad
theorem wX{i:Int}(h:i.natAbs<2 ^ 1000):Builtin.Int.intBits i<=2 ^ 20:=by
 unfold Builtin.Int.intBits;split
 .exact aaB _
 .rename_i h0;have h1:i.natAbs≠0:=by
   intro e;rw[Int.natAbs_eq_zero]at e;exact h0 (by rw[e];rfl)
  have:=(Nat.log2_lt h1).mpr h;have e:(2:Nat) ^ 20=1048576:=by decide
  lia
theorem CI:Nk X (binaryOp .Mult) (rI (λi j=>i.natAbs<2 ^ 1000/\j.natAbs<2 ^ 1000) λi j=>.int (i*j)):=V3 λ_ _ _ _ _ _ _ hc q=>mul_int q (.of_bits (wX hc.1) (wX hc.2))
theorem pR{α:Type}:∀(ls:List (Array α)) (acc:Array α),(ls.foldl (·++·) acc).toList=acc.toList++(ls.map Array.toList).flatten
 |[],acc=>by simp
 |a::ls,acc=>by
  rw[abT,pR ls,Array.toList_append,aae,aaJ,aaa]
theorem ID(l:List Nat)(n:Nat):(⟨(List.replicate n (S l).cps).foldl (·++·) #[]⟩:Str)=S (List.replicate n l).flatten:=by
 have h:((List.replicate n (S l).cps).foldl (·++·) #[]).toList=(List.replicate n l).flatten:=by
  rw[pR,ac1];simp![eF,acS]
 show Str.mk _=Str.mk _;rw[<-h]
theorem CJ(a b:Int):Iv (.int a) (.int b)=if fI a||fI b then .ok (.f,.int (a*b)) else .bad:=rfl
def yx:D->D->Res R
 | .int i,.int j=>if fI i||fI j then .ok (.f,.int (i*j)) else if i.natAbs<2 ^ 1000/\j.natAbs<2 ^ 1000 then .ok (.f,.int (i*j)) else .bad
 | .str l,.int k=>if 2<=k/\k<=1000/\1<=l.length/\l.length<=1000 then .ok (.f,.str (List.replicate k.toNat l).flatten) else .bad
 |_,_=>.bad
theorem lI:Nk X (binaryOp .Mult) (rG X.K yx):=by
 rintro pr s σ H x y v u Q I rx ry ⟨G,fp,es,vs,a,b,r,⟨rel,k⟩,va,vb,e⟩;unfold yx at e;split at e
 .rename_i i j;split at e
  .rename_i hc;exact Fq pr s σ H x y v u Q I rx ry ⟨G,fp,es,vs,.int i,.int j,r,⟨rel,k⟩,va,vb,by rw[CJ,ZY hc];exact e⟩
  .split at e
   .rename_i hc;cases e;cases cf va;cases cf vb;exact CI pr s σ H _ _ v u Q I rx ry ⟨i,j,rfl,rfl,hc,k _ H G fp .refl (rel.push (cC _))⟩
   .cases e
 .rename_i l j;split at e
  .rename_i hc;cases e;obtain⟨ev,hl⟩:=fH va;subst ev;cases cf vb;obtain⟨t,rfl⟩:=rx;obtain⟨t',rfl⟩:=ry;have hlen:(S l).length=l.length:=fR l;have hz:(List.replicate j.toNat l).flatten.length<=1000000:=by
    rw[nO];exact Nat.mul_le_mul (by lia:j.toNat<=1000) hc.2.2.2
   have VP:(List.replicate j.toNat l).flatten.length<=sizeLine:=aaP hz (by decide);refine PySem.P.mul_str ?_ ?_ ?_ ?_
   .rw[Z7 (by lia),Z7 (by lia)];rfl
   .intro _ _;rw[hlen];have h1:1000<=(2 ^ 63-1) / j:=(Int.le_ediv_iff_mul_le (by lia)).mpr (by lia);lia
   .intro _ _;unfold Builtin.Str.tooLong;rw[abq,hlen,aet,<-nO];lia
   .rw[Z6 (by lia),Z6 (by rw[hlen,Z3,aaK,aaK];lia),ID];refine⟨?_,?_⟩
    .rw[fR];exact VP
    .exact⟨.str (S (List.replicate j.toNat l).flatten),H,I.tok _,⟨_,rfl⟩,k _ H G fp .refl (rel.push (dI VP))⟩
  .cases e
 .cases e
end
end PV
namespace HT
variable{prog:W1}{w:World}{A:Uf}{E:Wp->WF->Prop}{s:WF}
theorem jv{t sl:WP}{items:Array Wp}{vl vu:Wp}{lo hi:Option Int}{Q:Wp->WF->Prop}(ht:IsTup s.heap t items)(hs:s.heap.IsSliceOf sl vl vu .none)(pl:IsPart vl lo)(pu:IsPart vu hi)
  (hw:sIx items.size 0 lo=0/\sIx items.size items.size hi=items.size) (h:Q (.ref t) s):wpAny (model prog w) A (getItem (.ref t) (.ref sl)) Q E s:=by
 obtain⟨os,TB,Xo,To⟩:=id hs;have X3:s.TypeIs (.ref sl) "slice":=⟨os,TB,Xo⟩
 unfold getItem;try with_reducible refine aa1 ?_
 first|refine ZH (ZM ?_)|skip
 refine ZH (wpAny_sequenceKey ht.typeIs (by decide) ?_);refine ZH (aaN (name:=Str.ofString "__getitem__") ht.typeIs abk
  (aa2 abk ht.typeIs entry_tuple_getitem ?_ (args_tuple_getitem _ _)))
 show wpAny _ _ (Builtin.Tuple.tupleItemsOf (.ref t) >>= _) _ _ s;refine ZH (tupleItemsOf_ ht ?_);refine ZH (acq X3 ?_);rw[ZY (by decide)];refine ZH (gP hs pl pu ?_);have hyes:(((sIx items.size 0 lo:Nat):Int)==0&&(1:Int)==1&&(sIx items.size items.size hi-sIx items.size 0 lo)==items.size)=true:=by
  rw[hw.1,hw.2];simp
 show wpAny _ _ (if(((sIx items.size 0 lo:Nat):Int)==0&&(1:Int)==1&&(sIx items.size items.size hi-sIx items.size 0 lo)==items.size)=true then _ else _) _ _ s;rw[ZY hyes];refine ZH (m:=Builtin.Tuple.tupleIsExact _) ?_;unfold Builtin.Tuple.tupleIsExact;refine ZH (acq ht.typeIs (ZM ?_));rw[ZY (by decide)];exact ZH (adU (ZM ⟨_,rfl,ZM h⟩))
end HT
namespace PV
section
variable{X:Cx}{pos:Pos}{fa:FO}
theorem CK:UL X (λx lo hi H Q=>∃a xs,x=.ref a/\SqT X.K H a xs/\(HT.sIx xs.length 0 lo=0/\HT.sIx xs.length xs.length hi=xs.length)/\Q x H):=by
 intro pr s σ H x v vl vu lo hi sl Q I rx hs pl pu h;obtain⟨a,xs,rfl,hx,hw,q⟩:=h;cases rx;obtain⟨L8,r,ht,hz⟩:=I.tuple hx;have hlen:L8.toArray.size=xs.length:=by rw[ZZ];exact r.length.symm
 refine⟨"tuple",_,PyProof.Rows.slot_tuple_getitem.lookup,ht.typeIs,?_⟩;exact HT.jv ht hs pl pu (by rw[hlen];exact hw) ⟨.ref a,H,I,rfl,q⟩
def O7(k:D)(lo hi:Option Int):Res R:=match k with
 | .tup ds=>if HT.sIx ds.length 0 lo=0/\HT.sIx ds.length ds.length hi=ds.length then .ok (.f,.tup ds) else UZ k lo hi
 |_=>UZ k lo hi
def g0(fa:FO)(lo hi:FP):FX:=λenv=>(fa env).bind λp=>(lo p.2).bind λq=>(hi q.2).bind λt=>(OA t.2 p.1).bind λd=>(O7 d q.1 t.1).bind λr=>.ok (r,t.2)
inductive rSlW(K:W.Frag)(x:V)(lo:Option Int)(hi:Option Int)(H:Hp)(Q:VK):Prop
 |mk:∀G fp es vs d r,Goes K H G fp es vs r Q->Vw K G H d x->O7 d lo hi=.ok r->rSlW K x lo hi H Q
theorem FH:UL X (rSlW X.K):=by
 rintro pr s σ H x v vl vu lo hi sl Q I rx hs pl pu ⟨G,fp,es,vs,d,r,⟨rel,k⟩,vd,e⟩;unfold O7 at e;split at e
 .rename_i ds;split at e
  .rename_i hw;cases e;obtain⟨p,xs,ev,sq,rs⟩:=iF vd;subst ev;refine CK pr s σ H _ v vl vu lo hi sl Q I rx hs pl pu ⟨p,xs,rfl,cE rel.gh sq,by rw[rs.length];exact hw,?_⟩;exact k _ H G fp .refl (rel.push vd)
  .exact Fs pr s σ H x v vl vu lo hi sl Q I rx hs pl pu ⟨G,fp,es,vs,_,r,⟨rel,k⟩,vd,e⟩
 .exact Fs pr s σ H x v vl vu lo hi sl Q I rx hs pl pu ⟨G,fp,es,vs,_,r,⟨rel,k⟩,vd,e⟩
theorem bX{e:Expr}{lo hi:Option Expr}{p2:Pos}{fl fh:FP}(he:QO X e fa)(hl:QP X lo fl)(hh:QP X hi fh):QE X (.Subscript e (.Slice lo hi none p2) pos) (g0 fa fl fh):=
 bW (yK FH he hl hh) λσ H Q Mh=>by
  obtain⟨G,env,fp,r,env',rel,e,k⟩:=Mh;obtain⟨⟨o,L0⟩,e1,e⟩:=aB e;obtain⟨⟨i,Ml⟩,e2,e⟩:=aB e;obtain⟨⟨j,Px⟩,e3,e⟩:=aB e;obtain⟨d,e4,e⟩:=aB e;obtain⟨r',e5,e⟩:=aB e;cases e;exact⟨G,env,fp,o,L0,rel,e1,λv H1 G1 Mt Mk L5 O6=>⟨G1,L0,Mt,i,Ml,L5,e2,λH2 G2 NK Md L6=>⟨G2,Ml,NK,j,Px,L6,e3,λH3 G3 Qh Nj Nb=>
   ⟨G3,Qh,Px,σ,d,r,⟨Nb,λv H' G' L9 st M1=>k v H' G' L9 (Mk.trans (Md.trans (Nj.trans st))) M1⟩,Nb.vw ((O6.mono Md.gg).mono Nj.gg) e4,e5⟩⟩⟩⟩
end
end PV
namespace L2
section
variable{X:Cx}{tg:Expr}
def wY(i j c:Int):Prop:=(-1048576<=i/\i<=1048576)/\(-1048576<=j/\j<=1048576)/\(c = -1\/1<=c)/\c<=1048576
instance (i j c:Int):Decidable (wY i j c):=by unfold wY;infer_instance
end
end L2
namespace PV
section
variable{X:Cx}{tg:Expr}
def LQ:List D->Res R
 |[d]=>match(tL d).bind gk with
  |some (n::ns)=>.ok (.f,.int (Ik (n::ns)))
  |_=>.bad
 |[.int i,.int j]=>.ok (.f,.int (if j<i then j else i))
 |_=>.bad
def LR:List D->Res R
 |[.int i]=>.ok (.f,.int (if i<0 then -i else i))
 |_=>.bad
def IE(fs:Od):FI:=λenv=>(fs env).bind λp=>(sZ p.2 p.1).bind λd=>match d with
 |[.int i,.int j,.int c]=>if wY i j c then .ok ((List.range (Builtin.Range.rangeSize i j c).toNat).map λ(k:Nat)=>D.int (i+(k:Int)*c),p.2) else .bad
 |_=>.bad
end
end PV
namespace NX
section
open PySem.SeqAt
open PySem.AutoSeq1 (wpAny_loadPart')
end
end NX
namespace L2
section
variable{X:Cx}{o e:Expr}{es:List Expr}{to:TE}{t:TA}{name:Str}{apos Mu:Pos}{id:String}{r:V->List V->Hp->VK->Prop}
end
end L2
namespace PV
section
variable{X:Cx}
def LS(g:List D->List D->Res R)(fa:FO)(fs:Od):FX:=λenv=>(fa env).bind λp=>(OA p.2 p.1).bind λa=>match a with
 | .tup _=>(fs p.2).bind λq=>(OA q.2 p.1).bind λa2=>match a2 with
  | .tup l=>(sZ q.2 q.1).bind λds=>(g l ds).bind λr=>.ok (r,q.2)
  |_=>.bad
 |_=>.bad
def K3(l:List D):List D->Res R
 |[.str c]=>match dM l with
  |some bs=>if c∈bs then .ok (.f,.int (bs.idxOf c:Nat)) else .bad
  |none=>.bad
 |_=>.bad
def LU(a b:D):Res R:=match a,b with
 | .tup [],.tup l=>.ok (.f,.tup l)
 |a,b=>addD a b
def K4(fs:Od):FI:=OB (mI true true fs) (OB (mI true false fs) (OB (mI false true fs) (mI false false fs)))
end
end PV
namespace NX
section
open PySem.AutoSeq1 (wpAny_loadPart')
def pS(l:WP)(items:Array Wp)(n:Nat)(dd:Option WP)(sl:Array (Option Wp))(x:Int)(u:Tok)(h1:¬ (!Builtin.List.listFitsIndex x)=true)(h2:¬ items.size*x.toNat>(2 ^ 63-1) / 8)(h3:¬ Builtin.List.listTooLong (items.size*x.toNat)=true)(h4:(List.foldl (λx1 x2=>x1++x2) #[] (List.replicate (if items.isEmpty=true then 0 else x.toNat) items)).size<=sizeLine):
  Meets (Builtin.«list.__mul__» ⟨[.ref l,.int x u],[]⟩)
   (λ_ R s=>s.heap.get? l=some {cls:=.type "list",dict:=dd,data:=.seq items n,slots:=sl}/\R (.ok (.ret (.ref s.heap.objs.size))) {s with heap:=s.heap.push {cls:=.type "list",data:=.seq (List.foldl (λx1 x2=>x1++x2) #[] (List.replicate (if items.isEmpty=true then 0 else x.toNat) items))}}):=
 .of_wp λprog w A R s h=>by
  obtain⟨hp,g,d,tk,os⟩:=s;obtain⟨hl,h⟩:=h
  wp_walk using wpAny_loadPart' hl
  rw[Z6 (by lia)]
  wp_walk
  exact⟨_,rfl,h⟩
def pT(a:Int)(t:Tok)(l:WP)(T:String)(items:Array Wp)(n:Nat)(dd:Option WP)(sl:Array (Option Wp)):
  Meets (Builtin.«int.__rmul__» ⟨[.int a t,.ref l],[]⟩)
   (λ_ R s=>s.heap.get? l=some {cls:=.type "list",dict:=dd,data:=.seq items n,slots:=sl}/\R (.ok (.ret .notImplemented)) s):=
 .of_wp λprog w A R s h=>by
  obtain⟨hp,g,d,tk,os⟩:=s;obtain⟨hl,h⟩:=h
  wp_walk using wpAny_loadPart' hl
  exact⟨_,rfl,h⟩
end
end NX
namespace PV
variable{md:Mode}{X:Cx}
section
inductive rRepS(K:W.Frag)(x:V)(y:V)(H:Hp)(Q:VK):Prop
 |mk:∀l k xs,x=.ref l->y=.int k->SqL K H l xs->-(2 ^ 62)<=k->k<2 ^ 62->xs.length*k.toNat<=sizeLine->(∀p,H p=none->Q (.ref p) (upd H p (.lst (List.replicate k.toNat xs).flatten)))->rRepS K x y H Q
theorem CL:Nk X (binaryOp .Mult) (rRepS X.K):=by
 intro pr s σ H x y v u Q I rx ry h;obtain⟨l,k,xs,rfl,rfl,hH,h1,h2,hz,q⟩:=h;cases rx;obtain⟨t,rfl⟩:=ry;obtain⟨L8,r,p1,_⟩:=I.list hH;have hl:=r.length;obtain⟨⟨cls,dd,data,sl⟩,ho,hc,n,hd⟩:=id p1.isList;simp only at hc hd;subst hc hd;have hlen:L8.toArray.size*k.toNat<=sizeLine:=by rw[ZZ,<-hl];exact hz
 have hcap:¬ L8.toArray.size*k.toNat>(2 ^ 63-1) / 8:=by
  have:(sizeLine:Nat)<=(2 ^ 63-1) / 8:=by decide
  lia
 have RE:¬ (!Builtin.List.listFitsIndex k)=true:=by
  rw[fitsIndex_both (by lia) (by lia)];exact ZU
 have WB:¬ Builtin.List.listTooLong (L8.toArray.size*k.toNat)=true:=by
  rw[yN hlen];exact ZU
 have WC:List.foldl (λx1 x2=>x1++x2) #[] (List.replicate (if L8.toArray.isEmpty=true then 0 else k.toNat) L8.toArray)=(List.replicate k.toNat L8).flatten.toArray:=by
  have f0:∀m:Nat,List.foldl (λx1 x2=>x1++x2) #[] (List.replicate m L8.toArray)=(List.replicate m L8).flatten.toArray:=λm=>by
   have:=pf L8 m [];rw[acS]at this;exact this
  rw[f0];cases L8 with
  |nil=>simp
  |cons a r'=>rw[Z6 (by simp)]
 have hsz:(List.foldl (λx1 x2=>x1++x2) #[] (List.replicate (if L8.toArray.isEmpty=true then 0 else k.toNat) L8.toArray)).size<=sizeLine:=by
  rw[WC,ZZ,nO,aet];rw[ZZ]at hlen;exact hlen
 refine wpAny_binaryOp_repeat_ref (T:="list") (U:="int") (by decide) ⟨_,ho,rfl⟩ (λs'=>typeIs_int s' k t) noFill_list_mul F.fills_int_mul F.slot_int_rmul repeat_list F.slot_int_index.lookup
  (call_meets F.slot_int_rmul (typeIs_int s k t) F.entry_int_rmul (F.args_int_rmul_2 _ _) (pT k t l "" L8.toArray n dd sl)
   ⟨ho,rfl,⟨_,ho,rfl⟩,call_meets F.slot_list_mul ⟨_,ho,rfl⟩ F.entry_list_mul (F.args_list_mul_2 _ _) (pS l L8.toArray n dd sl k t RE hcap WB hsz) ⟨ho,?_⟩⟩)
 rw[WC];exact⟨.ref _,_,I.lnew (t':=s.toks) (r.rep k.toNat) (by rw[nO,aet];exact hz),rfl,q _ I.fresh⟩
theorem tY{K:W.Frag}{G:Hp}{ds:List D}{xs:List V}(r:Reps K G ds xs):∀n:Nat,Reps K G (List.replicate n ds).flatten (List.replicate n xs).flatten
 | 0=>.nil
 |n+1=>by
  rw[aa5,aa5,aaJ,aaJ];exact r.app (tY r n)
def Ec(a b:D):Res R:=match a,b with
 | .lst ds,.int k=>if 0<=k/\k<1000000/\ds.length*k.toNat<=sizeLine then .ok (.l .f,.lst (List.replicate k.toNat ds).flatten) else .bad
 |a,b=>yx a b
theorem wZ:Nk X (binaryOp .Mult) (rG X.K Ec):=by
 rintro pr s σ H x y v u Q I rx ry ⟨G,fp,es,vs,a,b,r,⟨rel,k⟩,va,vb,e⟩;unfold Ec at e;split at e
 .rename_i ds j;split at e
  .rename_i hj;cases e;obtain⟨p,xs,e1,h1,r1⟩:=va;subst e1;cases cf vb;refine CL pr s σ H _ _ v u Q I rx ry ⟨p,j,xs,rfl,rfl,h1,by lia,by lia,by rw[r1.length];exact hj.2.2,λq hq=>?_⟩;obtain⟨L6,Md⟩:=rel.newL hq (tY r1 j.toNat);exact k _ _ G _ Md L6
  .cases e
 .exact lI pr s σ H _ _ v u Q I rx ry ⟨G,fp,es,vs,a,b,r,⟨rel,k⟩,va,vb,e⟩
def K5(i:Nat)(fk fv:FX):FS:=λenv=>(fv env).bind λp=>(fk p.2).bind λq=>match p.2[i]?,q.2[i]? with
 |some (some _),some (some (.l .f,.lst ds))=>(match q.1.2 with
  | .int k=>(match ixN ds.length k with
   |some j=>.ok (.nx (q.2.set i (some (.l .f,.lst (ds.set j p.1.2)))))
   |none=>.bad)
  |_=>.bad)
 |_,_=>.bad
end
variable{K:W.Frag}{G H:Hp}{es:PV.Env}{vs:L2.St}{fp:List WP}{p:WP}{u:HO}
section
theorem Rel.own{tk:Bool}{ks ws:List D}{xs:List V}(q:Rel K G H es vs fp)(np:p∉fp)(gp:G p=none)(h:DictO u tk ks xs)(rs:Reps K G ws xs):
  Rel K G (upd H p u) (some (.d,.dct tk ks ws)::es) (some (.ref p)::vs) (p::fp):=by
 refine⟨⟨some (.ref p),vs,rfl,.ref p,[p],fp,rfl,rfl,?_,q.rep.step (.refl _) λz hz=>aU λe=>np (e▸hz)⟩,aas.mpr ⟨np,q.nd⟩,λz hz=>?_,λb o e=>?_⟩
 .rw[RepO];exact⟨p,xs,u,rfl,bO,h,rfl,rs⟩
 .rcases ZJ.mp hz with rfl|hz
  .exact gp
  .exact q.gn z hz
 .rw[aU λz=>by subst z;rw[gp]at e;cases e];exact q.gh b o e
theorem Rel.aside(q:Rel K G H es vs fp)(hp:H p=none):Rel K G (upd H p u) es vs fp:=by
 have np:p∉fp:=λz=>by
  obtain⟨u,e⟩:=q.rep.live p z;rw[hp]at e;cases e
 exact⟨q.rep.step (.refl _) λz hz=>aU λe=>np (e▸hz),q.nd,q.gn,λb o e=>by rw[aU (bL (q.gh b o e) hp)];exact q.gh b o e⟩
theorem Step.aside{G2 H2:Hp}{NK:List WP}{u2:HO}(q:Rel K G H es vs fp)(hp:H p=none)(hu:UU u=false)(st:Step G (upd H p u) fp G2 H2 NK):
  Step G H fp G2 (upd H2 p u2) (p::NK)/\p∉NK/\G2 p=none/\H2 p=some u:=by
 have np:p∉fp:=λz=>by
  obtain⟨u,e⟩:=q.rep.live p z;rw[hp]at e;cases e
 have ne:∀{b o},H b=some o->b≠p:=λe=>bL e hp
 refine⟨⟨st.gg,λb o e nb=>?_,λb hb=>?_,λb o e=>?_,λb o e=>?_⟩,λz=>?_,?_,st.keep p u bO np⟩
 .rw[aU (ne e)];exact st.keep b o (by rw[aU (ne e)];exact e) nb
 .rcases ZJ.mp hb with rfl|hb
  .exact .inr hp
  .rcases st.fpn b hb with h|h
   .exact .inl h
   .by_cases e:b=p
    .subst e;exact .inr hp
    .rw[aU e]at h;exact .inr h
 .rcases st.gnew b o e with h|h|h|⟨h1,h2⟩
  .exact .inl h
  .exact .inr (.inl h)
  .by_cases e:b=p
   .subst e;exact .inr (.inr (.inl hp))
   .rw[aU e]at h;exact .inr (.inr (.inl h))
  .by_cases e:b=p
   .subst e;exact .inr (.inr (.inl hp))
   .rw[aU e]at h2;exact .inr (.inr (.inr ⟨h1,h2⟩))
 .obtain⟨o',h⟩:=st.there b o (by rw[aU (ne e)];exact e);exact⟨o',by rw[aU (ne e)];exact h⟩
 .rcases st.fpn p z with h|h
  .exact np h
  .rw[bO]at h;cases h
 .cases e:G2 p with
  |none=>rfl
  |some o=>
   rcases st.gnew p o e with h|h|h|⟨h1,h2⟩
   .have:=q.gh p o h;rw[hp]at this;cases this
   .exact absurd h np
   .rw[bO]at h;cases h
   .rw[bO]at h2;cases h2;rw[hu]at h1;cases h1
def J6(fk fv:FX):FX:=λenv=>(fk env).bind λp=>(fv p.2).bind λq=>if iY false p.1.2 then .ok ((.d,.dct false [p.1.2] [q.1.2]),q.2) else .bad
def getD(ks vs:List D)(k:D):Option D:=((ks.zip vs).find? λp=>Mv k p.1).map (·.2)
def dgD(a b:D):Res R:=match a with
 | .dct tk ks vs=>if iY tk b then(match getD ks vs b with
  |some d=>.ok (.f,d)
  |none=>.bad) else .bad
 |_=>.bad
def inP(a b:D):Res R:=match b with
 | .dct tk ks vs=>if iY tk a then .ok (.f,.bl (getD ks vs a).isSome) else .bad
 |_=>SK a b
def LV(a b:D):Res R:=match b with
 | .dct tk ks vs=>if iY tk a then .ok (.f,.bl (!(getD ks vs a).isSome)) else .bad
 |_=>Ea a b
end
section
variable{G' H':Hp}
end
section
end
section
variable{x:Str}{p pos:Pos}{e:Expr}{es:List Expr}{fs:Od}
end
section
variable{G' H':Hp}
end
section
end
end PV
namespace NX
def IF{P:W1}{w:World}{k:Key}{u:Wp}(h:(mixKind P w).is k u=true):RelV (kV k) u:=by
 rw[uF]at h;cases k with
 |inl i=>
  have h:Value.isInt i u=true:=h;cases u with
  |int j t=>
   have e:(j==i)=true:=h;rw[aaK]at e;exact⟨t,by rw[e]⟩
  |_=>cases h
 |inr x=>
  obtain⟨t,e⟩:=Value.isStrOf_shape h;exact⟨t,e⟩
def IG{κ:Type}{kvs:List (κ×V)}{vs:List (κ×Wp)}(r:KV kvs vs):∀{i:Nat}{k:κ}{v:V},kvs[i]?=some (k,v)->∃u,vs[i]?=some (k,u)/\RelV v u:=by
 induction r with
 |nil=>intro i k v e;simp at e
 | @cons p q ps qs hq _ ih=>
  intro i k v e;cases i with
  |zero=>
   simp at e;subst e;obtain⟨qk,qv⟩:=q;obtain⟨e1,e2⟩:=hq;cases e1;exact⟨qv,rfl,e2⟩
  |succ i=>exact ih (by simpa using e)
end NX
namespace PV
def J7(f:FX):FI:=λenv=>(f env).bind λp=>match p.1 with
 |(.d,.dct false ks vs)=>.ok ((ks.zip vs).map λz=>D.tup [z.1,z.2],p.2)
 |_=>.bad
section
variable{X:Cx}
def CM(fa fb:FX):FX:=λenv=>(fa env).bind λp=>(fb p.2).bind λq=>.ok ((.t [.f,q.1.1],.tup [p.1.2,q.1.2]),q.2)
theorem CN{a b:Expr}{fa fb:FX}{x1}{pos:Pos}(ha:QE X a fa)(hb:QE X b fb)(h1:starEach [a,b] X.env=(false,eval a X.env)::starEach [b] X.env:=by rfl)(h2:starEach [b] X.env=(false,eval b X.env)::starEach [] X.env:=by rfl):
  QE X (.Tuple [a,b] x1 pos) (CM fa fb):=
 bW (AB (di ha (di hb gO h2) h1)) λσ H Q Mh=>by
  obtain⟨G,env,fp,r,env',rel,e,k⟩:=Mh;obtain⟨⟨r1,L0⟩,e1,e⟩:=aB e;obtain⟨⟨⟨o2,d2⟩,Ml⟩,e2,e⟩:=aB e;cases e;refine⟨G,env,fp,r1,L0,rel,e1,λv H1 G1 Mt Mk L5=>?_⟩;obtain⟨G2,b,rv,L6,Md⟩:=L5.freeze;refine⟨G2,L0,b,(o2,d2),Ml,L6,e2,λv2 H3 G3 Qh Nj Nb=>⟨by rw[line_eq];exact(by decide:2<=16777216),λp hp=>?_⟩⟩;obtain⟨Nl,Oc⟩:=Nb.newF (u:=.tup [v,v2]) hp;refine k _ _ _ Qh (Mk.trans (Md.trans (Nj.trans Oc))) ?_;obtain⟨y,ys,ey,v',a',b',ey2,ef,q1,q2⟩:=Nl.rep;cases ey;cases ey2;subst ef;refine⟨⟨some (.ref p),σ,rfl,.ref p,a',b',rfl,rfl,?_,q2⟩,Nl.nd,Nl.gn,Nl.gh⟩;show RepO X.K _ _ (.t [.f,o2]) (.tup [r1.2,d2]) (.ref p) a';rw[RepO];refine⟨p,[v,v2],rfl,bO,?_⟩;rw[RepT];refine⟨v,[v2],[],a',rfl,rfl,jo.mpr ⟨Rep.mono (Nj.gg.trans Oc.gg) rv,rfl⟩,?_⟩;rw[RepT];refine⟨v2,[],a',[],rfl,by rw[aak],q1,?_⟩;rw[RepT];exact⟨rfl,rfl⟩
def J8(i:Nat):FX:=λenv=>match env[i]? with
 |some (some (.t [.f,.l .f],.tup [a,.lst _]))=>.ok ((.f,.non),env.set i (some (.t [.f,.l .f],.tup [a,.lst []])))
 |_=>.bad
def CO:List D->Res R
 |[.dct false ks _]=>.ok (.l .f,.lst ks)
 |ds=>CA ds
theorem w4:∀{xs:List V}{us:List Wp},xs.length=us.length->(∀(i:Nat) (a:V) (b:Wp),xs[i]?=some a->us[i]?=some b->RelV a b)->Vals xs us
 |[],[],_,_=>.nil
 |x::xs,u::us,hl,h=>.cons (h 0 x u rfl rfl) (w4 (by simpa using hl) λi a b ha hb=>h (i+1) a b (by simpa using ha) (by simpa using hb))
 |[],_::_,hl,_=>by simp at hl
 |_::_,[],hl,_=>by simp at hl
theorem pU(hc:X.calm=true):dF X (.type "list") (λvs H Q=>∃p kvs,vs=[.ref p]/\Rd H p (.dK kvs)/\∀l,H l=none->Q (.ref l) (upd H l (.lst (kvs.map λkv=>kV kv.1)))):=by
 intro pr s σ H xs us Q I r h;obtain⟨p,kvs,rfl,hp,q⟩:=h;obtain⟨u,rfl,rx⟩:=fV r;cases rx;obtain⟨z,nm,vs,rr,hD⟩:=E9 I.hok hp;obtain⟨ep,NP⟩:=hD.dictAt;have hl:=rr.length;refine PySem.W.kdl_call (PySem.W.kdl_dict (knd:=mixKind X.prog X.w) (kvs:=vs) (ep:=ep) nm) (I.ok.hd hc) NP (by rw[<-hl];exact z) λh' tk WD c' hk hS Qz=>?_
 refine⟨.ref s.heap.objs.size,_,I.laid (o:=.lst (kvs.map λkv=>kV kv.1)) (t':=tk) hk (ZO _) ⟨by rw[ZT];exact z,WD.toList,c',?_,by rw[Array.toArray_toList];exact hS⟩,rfl,q _ (I.hok.fresh (ZO _))⟩;refine w4 (by rw[ZT,hl];exact(Qz.1.symm.trans (abO (xs:=WD)).symm)) λi a b ha hb=>?_
 rw[acv]at hb;obtain⟨k,x,e1,e2⟩:=Qz.2 i b hb;rw[Z9]at ha;cases Qn:kvs[i]? with
 |none=>rw[Qn]at ha;cases ha
 |some kv=>
  rw[Qn]at ha;obtain⟨k',v'⟩:=kv;obtain⟨u,hu,_⟩:=IG rr Qn;rw[e1]at hu;cases hu;cases ha;exact IF e2
theorem zp(hc:X.calm=true):dF X (.type "list") (rC X.K CO):=by
 rintro pr s σ H xs us Q I rx ⟨G,fp,es,vs,ds,r,⟨rel,k⟩,vd,e⟩;unfold CO at e;split at e
 .rename_i ks ws;cases e;obtain⟨v,ev,vt⟩:=mX vd;have rp:=vt.rep rel.gh;rw[Rep]at rp;obtain⟨p,ys,o,ep,rd,dd,rs⟩:=rp;obtain⟨kvs,eo,ek,ex,hf⟩:=(show ∃kvs:List (Key×V),o=.dK kvs/\ks=kvs.map (λkv=>kD kv.1)/\ys=kvs.map (·.2)/\∀kv∈kvs,yv kv.1 from dd)
  subst ev ep eo;refine pU hc pr s σ H _ us Q I rx ⟨p,kvs,rfl,rd,λq hq=>?_⟩;have rk:Reps X.K G ks (kvs.map λkv=>kV kv.1):=by
   rw[ek];refine Reps.ofAll (by rw[ZT,ZT]) λi d v hd hv=>?_
   rw[Z9]at hd hv;cases Qn:kvs[i]? with
   |none=>rw[Qn]at hd;cases hd
   |some kv=>
    rw[Qn]at hd hv;cases hd;cases hv;exact Ba (hf _ (aaA Qn))
  obtain⟨L6,Md⟩:=rel.newL hq rk;exact k _ _ G _ Md L6
 .exact CB pr s σ H xs us Q I rx ⟨G,fp,es,vs,ds,r,⟨rel,k⟩,vd,e⟩
end
end PV
namespace NX
section
variable{prog:W1}{w:World}{A:Uf}{E:Wp->WF->Prop}{s:WF}
end
section
variable{prog:W1}{w:World}{A:Uf}{E:Wp->WF->Prop}{s:WF}
end
section
variable{X:Cx}{e:Expr}{ta:TA}{p p2 pos WE:Pos}
end
end NX
namespace PV
section
variable{X:Cx}{e:Expr}{fs:Od}{p p2 pos WE:Pos}
end
end PV
namespace NX
section
open PySem.AutoSeq1 (wpAny_loadPart')
end
end NX
namespace PV
section
variable{X:Cx}
end
section
variable{md:Mode}{X:Cx}{scope:Scope}{N:List Str}{tg iter elt:Expr}{ifs:List Expr}{pos:Pos}{fi:FI}{a:FG}{c:FT}{f:FX}{j k0:Nat}
end
section
variable{X:Cx}{x:Str}{p pos:Pos}{e:Expr}{es:List Expr}{f0:FX}{fs:Od}
end
def joinL(sep:List Nat):List (List Nat)->List Nat
 |[]=>[]
 |[x]=>x
 |x::y::r=>x++sep++joinL sep (y::r)
def oG(sep:List Nat):List D->Res R
 |[.lst ds]=>match dM ds with
  |some ys=>if(ys.map List.length).sum+ys.length*sep.length<=16777216 then .ok (.f,.str (joinL sep ys)) else .bad
  |none=>.bad
 |_=>.bad
theorem w5(sep:List Nat):∀ys:List (List Nat),Str.join (S sep) (ys.map S)=S (joinL sep ys)
 |[]=>rfl
 |[x]=>rfl
 |x::y::r=>by
  have ih:=w5 sep (y::r);show S x++S sep++Str.join (S sep) ((y::r).map S)=S (x++sep++joinL sep (y::r));rw[ih];apply Str.ext';simp[Str.cps_append]
def FJ(sep:List Nat):∀ys:List (List Nat),Txt.join (S sep) (ys.map S)=S (joinL sep ys)
 |ys=>by
  show Builtin.Str.glued (S sep) (ys.map S)=_;rw[StrLaws.glued_eq_join];exact w5 sep ys
theorem pV(sep:List Nat):∀ys:List (List Nat),(joinL sep ys).length<=(ys.map List.length).sum+ys.length*sep.length
 |[]=>aaB _
 |[x]=>by
  show x.length<=_;rw[aae,List.sum_cons];lia
 |x::y::r=>by
  have ih:=pV sep (y::r);show(x++sep++joinL sep (y::r)).length<=_;rw[aau,aau,aae,List.sum_cons,ZR,Nat.add_mul];lia
theorem pW{K:W.Frag}{G:Hp}:∀{ds:List D}{ys:List (List Nat)}{xs:List V}{us:List Wp},dM ds=some ys->Reps K G ds xs->Vals xs us->StrsAre us (ys.map S)
 |[],ys,xs,us,e,r,v=>by
  cases e;rw[Reps]at r;subst r;cases v;exact .nil
 | .str b::ds,ys,xs,us,e,r,v=>by
  rw[Reps]at r;obtain⟨y,zs,ex,r1,r2⟩:=r;subst ex;cases v with
  |cons h t=>
   rw[dM,aaH]at e;obtain⟨ws,hw,rfl⟩:=e;rw[Rep]at r1;obtain⟨r1,_⟩:=r1;subst r1;obtain⟨tk,rfl⟩:=h;exact .cons _ tk (pW hw r2 t)
 | .non::_,_,_,_,e,_,_ | .bl _::_,_,_,_,e,_,_ | .int _::_,_,_,_,e,_,_ | .tup _::_,_,_,_,e,_,_ | .lst _::_,_,_,_,e,_,_ | .dct _ _ _::_,_,_,_,e,_,_=>by cases e
section
variable{X:Cx}
theorem rF:Xp X "str.join" (rMtS X.K oG):=by
 rintro pr s σ H x xs v us Q I rx rv ⟨G,fp,es,vs,l,ds,r,⟨rel,k⟩,ex,hz,vd,e⟩;unfold oG at e;split at e
 .rename_i ds;split at e
  .rename_i ys Wc;split at e
   .rename_i hb;cases e;subst ex;obtain⟨w',ew,p,zs,ep,sq,rs⟩:=mX vd;subst ew ep;obtain⟨t,rfl⟩:=rx;obtain⟨u,rfl,ru⟩:=fV rv;cases ru;obtain⟨L8,r',pl,VP⟩:=I.list sq;refine join_list pl.isList (ys:=ys.map S) (pW Wc rs r') ?_ λt' kk=>?_
    .rw[aah,ZT];have e1:((λx:Str=>x.length)∘S)=List.length:=by funext z;exact fR z
     rw[e1,fR];exact hb
    .rw[FJ];refine⟨.str (S (joinL l ys)),H,I.tok _,⟨_,rfl⟩,k _ H G fp .refl (rel.push ?_)⟩;rw[Rep];have:=pV l ys;exact⟨rfl,by rw[line_eq];lia⟩
   .cases e
  .cases e
 .cases e
end
end PV
namespace NX
section
variable{prog:W1}{w:World}{A:Uf}{R:Result->WF->Prop}{it:WP}{fp wr:List WP}{n:Nat}{Pv:Nat->Wp->Prop}{Sx:Nat->UF->Prop}{kw:List (Str×Wp)}
end
section
variable{X:Cx}{e k:Expr}{te tk:TE}{p pos Sh:Pos}
end
end NX
namespace PV
section
variable{X:Cx}
end
section
variable{X:Cx}
end
section
variable{K:W.Frag}{G G' H H':Hp}{es:PV.Env}{vs:L2.St}{fp:List WP}
end
section
variable{X:Cx}{x:Str}{p pos:Pos}{e:Expr}{es:List Expr}{f0:FX}{fs:Od}
end
theorem vals_pick{xs:List V}{us:List Wp}(r:Vals xs us):∀ix:List Nat,Vals (ix.filterMap λi=>xs[i]?) (ix.filterMap λi=>us[i]?)
 |[]=>.nil
 |i::ix=>by
  have ih:=vals_pick r ix;cases e:xs[i]? with
  |none=>
   rw[adi e,adi (r.none_of e)];exact ih
  |some d=>
   obtain⟨v,e2,rv⟩:=r.get e;rw[adj e,adj e2];exact .cons rv ih
section
variable{X:Cx}{pos:Pos}{fa:FO}
end
section
variable{X:Cx}
end
section
variable{X:Cx}{scope:Scope}{N:List Str}{tg iter elt:Expr}{ifs:List Expr}{pos:Pos}{fi:FI}{a:FG}{c:FT}{f:FX}
end
end PV
namespace L2
section
variable{X:Cx}{tg:Expr}
end
end L2
namespace PV
variable{X:Cx}{pos:Pos}
section
variable{tg:Expr}
def w6(fk fv:FX):FX:=λenv=>(fk env).bind λp=>(fv p.2).bind λq=>if iY true p.1.2 then .ok ((.d,.dct true [p.1.2] [q.1.2]),q.2) else .bad
theorem zq{k v:Expr}{fk fv:FX}(hu:X.A.units+1<cLine)(hk:QE X k fk)(hv:QE X v fv):QE X (.Dict [some k] [v] pos) (w6 fk fv):=
 bW (wo hu hk hv) λσ H Q hq p hp=>by
  obtain⟨G,env,fp,r,env',rel,e,kk⟩:=hq;obtain⟨⟨r1,L0⟩,e1,e⟩:=aB e;obtain⟨⟨r2,Ml⟩,e2,e⟩:=aB e;dsimp only at e;split at e
  .rename_i SQ;cases e;refine⟨G,env,fp,r1,L0,rel.aside hp,e1,λx H1 G1 Mt Mk L5=>?_⟩;obtain⟨G2,b,rx,L6,Md⟩:=L5.freeze;refine⟨G2,L0,b,r2,_,L6,e2,λy H3 G3 Qh Nj Nb=>?_⟩;obtain⟨G4,b4,ry,Nl,Oc⟩:=Nb.freeze;have Yv:Rep X.K G4 r1.2 x:=Rep.mono (Nj.gg.trans Oc.gg) rx;unfold iY at SQ;rw[ZY rfl,aa7]at SQ;obtain⟨kd,RC⟩:=SQ;obtain⟨b',ex,gb,dx⟩:=fu RC Yv;have fk:∀k∈kd,yv k:=by
    generalize r1.2=d at RC Yv;cases d with
    |tup ds=>
     obtain⟨_,xs,_,_,rs⟩:=gR Yv;exact rE RC rs
    |_=>cases RC
   obtain⟨st,np,gp,XE⟩:=Step.aside (u2:=.dT [(kd,y)]) rel hp rfl (Mk.trans (Md.trans (Nj.trans Oc)));exact⟨XE,kd,b',ex,Nl.gh _ _ gb,kk _ _ G4 _ st (Nl.own np gp ⟨[(kd,y)],rfl,by rw[dx];rfl,rfl,λkv Qn=>by rw[aan.mp Qn];exact fk⟩ (.one ry))⟩
  .cases e
end
abbrev FB:=PV.Env->Bool
def fw(g:FS)(x:FB):FB:=λenv=>match g env with
 | .ok (.nx e)=>x e
 |_=>false
def Py(c:FT)(x:FB):FB:=λenv=>match c env with
 | .ok (true,e)=>x e
 |_=>false
def fA(fs:Od):FB:=λenv=>match fs env with
 | .ok (os,_)=>decide (os.length<=3)
 |_=>false
inductive tX(K:W.Frag)(x:FB)(Ww:Hp->Prop)(σ:L2.St)(H:Hp):Prop
 |mk:∀G env fp,Rel K G H env σ fp->x env=true->(∀H' G' L9,Step G H fp G' H' L9->Rel K G' H' [] [] []->Ww H')->tX K x Ww σ H
def QX(X:Cx)(st:List Stmt)(x:FB)(Ww:Hp->Prop):Prop:=PX X st (tX X.K x Ww)
variable{st:Stmt}{e:Expr}{es:List Expr}{C:WP}
section
variable{Tv:List Stmt}{g:FS}{x:FB}{Ww:Hp->Prop}{c:FT}{np Mu:Pos}{fs:Od}{y:Str}
theorem bE(a:QS (md:=.plain) X.nox st g)(b:QX X Tv x Ww):QX X (st::Tv) (fw g x) Ww:=jm (Cr (Fh a) b) λσ H Mh=>by
 obtain⟨G,env,fp,rel,e,k⟩:=Mh;unfold fw at e;match q:g env,e with
 | .ok (.nx L0),e=>
  refine⟨G,env,fp,rel,?_⟩;rw[q];exact λσ1 H1 G1 Mt Mk L5=>⟨G1,L0,Mt,L5,e,λH' G' L9 st r=>k H' G' L9 (Mk.trans st) r⟩
theorem lJ{a b:List Stmt}{ct:Expr}(hc:QT X.nox ct c)(ha:QX X a x Ww):QX X (.If ct a b pos::Tv) (Py c x) Ww:=jm (Iq (PT.nox hc) ha) λσ H Mh=>by
 obtain⟨G,env,fp,rel,e,k⟩:=Mh;unfold Py at e;match q:c env,e with
 | .ok (true,L0),e=>exact⟨G,env,fp,true,L0,rel,q,λH1 G1 Mt Mk L5=>⟨rfl,G1,L0,Mt,L5,e,λH' G' L9 st r=>k H' G' L9 (Mk.trans st) r⟩⟩
theorem kK{x':FB}(a:QX X Tv x Ww)(b:QX X Tv x' Ww):QX X Tv (λenv=>x env||x' env) Ww:=jm (Ir a b) λσ H ⟨G,env,fp,rel,e,k⟩=>
 ((Z3 _ _).mp e).elim (λe=>.inl ⟨G,env,fp,rel,e,k⟩) λe=>.inr ⟨G,env,fp,rel,e,k⟩
theorem tZ{K:W.Frag}{G:Hp}{σ:L2.St}:∀{os:List Opd}{vs:List V},pC K G σ os vs->vs.length=os.length
 |[],_,r=>by have r:_=[]:=r;rw[r];rfl
 |_::_,_,⟨y,ys,e,_,q⟩=>by rw[e,ZR,ZR,tZ q]
theorem dP(O:XCl X.mg X.base y C)(acc:Acc X C Ww)(hc:X.calm=true)(hg:Gl X y)(ha:SI X.nox (e::es) fs)(NJ:(y==("__debug__" : Str))=false:=by decide)
  (he:starEach (e::es) X.env=(false,eval e X.env)::starEach es X.env:=by rfl) (Nu:(backTo Mu (starEach es X.env)).any (·.1)=false:=by rfl):
  QX X (.Raise (some (.Call (.Name y np) (e::es) [] Mu)) none pos::Tv) (fA fs) Ww:=jm (y7 O acc hc hg (Fi ha) NJ he Nu) λσ H Mh=>by
 obtain⟨G,env,fp,rel,e,k⟩:=Mh;unfold fA at e;match q:fs env,e with
 | .ok (os,L0),e=>
  refine⟨G,env,fp,os,L0,rel,q,λvs H1 G1 Mt Mk L5 O6=>⟨?_,k H1 G1 Mt Mk L5.nilF⟩⟩;rw[tZ O6];have e:decide (os.length<=3)=true:=e;have:=aa8 e;rw[line_eq];lia
end
inductive spX(K:W.Frag)(C:WP)(F:List D->Bool)(vs:List V)(H:Hp)(Q:VK)(E:XK):Prop
 |mk:∀G ds,Same G H->Reps K G ds vs->F ds=true->(∀H' G' L9,Step G H [] G' H' L9->Rel K G' H' [] [] []->E (.ref C) none H')->spX K C F vs H Q E
def gT(np nn:Nat)(x:FB):List D->Bool:=λds=>decide (ds.length=np)&&x (ds.map (λd=>some (O.f,d))++List.replicate nn none)
variable{x:Str}
theorem g5{P:W1}{w:World}{K:W.Frag}{mg:Str->Option Wp}{base:UF}{N ps:List Str}{k:Nat}{gx:FB}(Df:Def K mg x st)(sc:FnScope N ps (defScope st))
  (hb:∀(kV doc pm:Wp) (an:Option WP) (MA ct:Wp) (us:List Wp),us.length=ps.length->bindArgs (PySem.W.fnOf x x (fQ st) (dj st) (defScope st) .none kV doc pm an MA ct) ⟨us,[]⟩=pure (ps.zip us))
  (body:∀(f:WP) (MA:Wp) (A:Uf) (outer:List PySem.Env) (s:WF) (H:Hp) (E:XK),Room k (A.deeper (envOfC x (defScope st) s.heap.objs.size f MA))->QX (qP (Ts P w base C) P w K mg base N x (defScope st) f MA A outer s H E) (dj st) gx (λH'=>E (.ref C) none H')):
  CtX P w K mg base x (k+1) C (spX K C (gT ps.length (N.length-ps.length) gx)):=by
 obtain⟨f,fd,F,m⟩:=Df;refine⟨f,fd,ps,Cs F sc (λvs H Q E h=>?_) (λMA A outer s H vs Q E hr h=>?_),m,F.kp,F.binds hb⟩
 .obtain⟨G,ds,_,rs,e,_⟩:=h;unfold gT at e;have:=aa8 ((ZP _ _).mp e).1;rw[rs.length,this]
 .obtain⟨G,ds,gh,rs,e,q⟩:=h;unfold gT at e;have hl:=aa8 ((ZP _ _).mp e).1;have e:=((ZP _ _).mp e).2;refine⟨_,body f MA A outer s H E hr,G,ds.map (λd=>some (O.f,d))++List.replicate (N.length-ps.length) none,[],⟨?_,aa0,(λ_ h=>nomatch h),gh⟩,e,q⟩;have:=jr (K:=K) (G:=G) (H:=H) (N.length-ps.length) rs;unfold L2.start;rw[rs.length,hl];exact this
abbrev FXE:=PV.Env->Option PV.Env
inductive tQX(K:W.Frag)(x:FXE)(σ:L2.St)(H:Hp)(Ww:Hp->Prop):Prop
 |mk:∀G env fp env',Rel K G H env σ fp->x env=some env'->(∀H' G' L9,Step G H fp G' H' L9->Rel K G' H' env' σ L9->Ww H')->tQX K x σ H Ww
def oH(F:List D->Bool)(fs:Od):FXE:=λenv=>match fs env with
 | .ok (os,e)=>match kA e os with
  | .ok ds=>if F ds then some e else none
  |_=>none
 |_=>none
def SR(X:Cx)(e:Expr)(C:WP)(x:FXE):Prop:=RW X e C (tQX X.K x)
variable{p:Pos}
section
variable{md:Mode}{a b:Expr}{F:List D->Bool}{fs:Od}{k:Nat}{xe:FXE}{rest:List Stmt}
theorem eM(c:CtX X.prog X.w X.K X.mg X.base x k C (spX X.K C F))(hr:Room k X.A)(hg:Gl X x)(ha:SI X.nox (e::es) fs)(NJ:(x==("__debug__" : Str))=false:=by decide)
  (he:starEach (e::es) X.env=(false,eval e X.env)::starEach es X.env:=by rfl) (Nu:(backTo pos (starEach es X.env)).any (·.1)=false:=by rfl):SR X (.Call (.Name x p) (e::es) [] pos) C (oH F fs):=
 λpr s σ H Ww I ⟨G,env,fp,env',rel,e,kk⟩=>sW c hr hg ha NJ he Nu pr s σ H Ww I (by
  unfold oH at e;match q:fs env,e with
  | .ok (os,e1),e=>
   dsimp only at e;match q2:kA e1 os,e with
   | .ok ds,e=>
    dsimp only at e;split at e
    .rename_i hF;cases e;refine⟨G,env,fp,os,_,rel,q,λvs H1 G1 Mt Mk L5 O6=>?_⟩;obtain⟨G2,UW,UX,Pw,_,PH⟩:=L5.lend;refine⟨G2,ds,UX,lq UW Pw O6 q2,hF,λH' G' L9 st M1=>?_⟩;obtain⟨k1,_⟩:=PH H' G' [] (.f,.non) .non (st.trans (Step.cut λ_ h=>nomatch h)) (M1.push iV);obtain⟨G3,Qh,Nj,Nb⟩:=k1 rfl;obtain⟨fq,Nl,Oc⟩:=Nb.drop;exact kk H' G3 fq (Mk.trans (Nj.trans Oc)) Nl
    .cases e)
end
section
variable{fs:Od}
end
section
variable{f0:FX}{fs:Od}
end
end PV
namespace NX
end NX
namespace PV
section
variable{K:W.Frag}{G H:Hp}{es:PV.Env}{vs:L2.St}{fp:List WP}
end
section
variable{md:Mode}{X:Cx}
end
section
variable{X:Cx}
end
end PV
namespace NX
section
variable{X:Cx}
end
end NX
namespace PV
section
variable{X:Cx}
end
inductive Ext:Hp->Hp->Prop
 |refl {H:Hp}:Ext H H
 |new {H H1:Hp}{p:WP}{xs:List V}:Ext H H1->H1 p=none->Ext H (upd H1 p (.tup xs))
def Ext.trans{H H1 H2:Hp}(a:Ext H H1)(b:Ext H1 H2):Ext H H2:=by
 induction b with
 |refl=>exact a
 |new _ hp ih=>exact .new ih hp
def Ext.rel{K:W.Frag}{G H H':Hp}{env:PV.Env}{σ:L2.St}{fp:List WP}(e:Ext H H')(r:Rel K G H env σ fp):∃G',Rel K G' H' env σ fp/\Step G H fp G' H' fp:=by
 induction e with
 |refl=>exact⟨G,r,.refl⟩
 |new _ hp ih=>
  obtain⟨G1,r1,s1⟩:=ih;obtain⟨r2,s2⟩:=r1.newF hp;exact⟨_,r2,s1.trans s2⟩
inductive BExp where
 |con (b:Bool)|var (j:Nat)|not (x:BExp)|and (x y:BExp)
abbrev Kn:=List (Nat×Bool)
def XF(kn:Kn):BExp->Option Bool
 | .con b=>some b
 | .var j=>kn.lookup j
 | .not x=>(XF kn x).map (!·)
 | .and x y=>(XF kn x).bind λb=>if b=true then XF kn y else some false
def IH(kn:Kn)(σ:L2.St):Prop:=∀j b,kn.lookup j=some b->σ[j]?=some (some (.bl b))
inductive tBE(i:Nat)(a:WP)(x:BExp)(σ:L2.St)(H:Hp)(Q:VK):Prop
 |mk:∀kn b,σ[i]?=some (some (.ref a))->IH kn σ->XF kn x=some b->(∀H',Ext H H'->Q (.bl b) H')->tBE i a x σ H Q
def BE(X:Cx)(e:Expr)(i:Nat)(a:WP)(x:BExp):Prop:=PE X e (tBE i a x)
section
variable{X:Cx}{a:WP}{o:Obj}{i:Nat}{e b:Expr}{rest:List Expr}{x y:BExp}{pos p q:Pos}{n:Str}
theorem w9:∀{cs:List WP}{L8:List Wp},Vals (cs.map V.ref) L8->L8=cs.map Value.ref
 |[],_,.nil=>rfl
 |c::cs,_,.cons h r=>by rw[aae,w9 r,show _=Value.ref c from h]
theorem t7{C:WP}{vs:Array Wp}(hp:(a,o)∈X.pn)(hc:o.cls=.ref C)(hv:o.data=.fields vs)(k:Asks X.K C):dF X (.builtin "isinstance") (λxs H Q=>
  (∃c b,xs=[.ref a,.ref c]/\PySem.W.kitOne X.K (.ref C) (.ref c)=some b/\Q (.bl b) H)\/(∃T b,xs=[.ref a,.ty T]/\PySem.W.kitOne X.K (.ref C) (.type T)=some b/\Q (.bl b) H)\/
  ∃(tp:WP) (cs:List WP) (b:Bool),xs=[.ref a,.ref tp]/\H tp=some (.tup (cs.map V.ref))/\PySem.W.kitAny X.K (.ref C) (cs.map Value.ref)=some b/\Q (.bl b) H):=by
 intro pr s σ H xs us Q I r h;obtain⟨pa,_⟩:=I.pin (a,o) (ZX _ hp);have ex:ExAt a C s.heap:=⟨o,vs,pa,hc,hv⟩
 have fin:∀b,Q (.bl b) H->∀tk,EP X pr σ Q (.bool b) {s with toks:=tk}:=λb q tk=>⟨.bl b,H,I.tok tk,rfl,q⟩
 rcases h with⟨c,b,rfl,e,q⟩|⟨T,b,rfl,e,q⟩|⟨tp,cs,b,rfl,ht,e,q⟩
 .obtain⟨u,w',rfl,r1,r2⟩:=uI r;cases(show u=Value.ref a from r1);cases(show w'=Value.ref c from r2);exact abc (rm k) I.kIn ex e (λz=>nomatch z) (fin b q)
 .obtain⟨u,w',rfl,r1,r2⟩:=uI r;cases(show u=Value.ref a from r1);cases(show w'=Value.type T from r2);exact abc (rm k) I.kIn ex e (λz=>nomatch z) (fin b q)
 .obtain⟨u,w',rfl,r1,r2⟩:=uI r;cases(show u=Value.ref a from r1);cases(show w'=Value.ref tp from r2);obtain⟨_,L8,rv,ot,e1,e2,⟨n,e3⟩,_⟩:=I.hok tp _ ht;cases w9 rv;obtain⟨c',d',da',Y4⟩:=ot;dsimp only at e2 e3;subst e2;subst e3;exact PySem.W.kia_tup (rm k) I.kIn ex e1 e (λz=>nomatch z) (fin b q)
inductive Cls(mg:Str->Option Wp):List Expr->List WP->Prop
 |nil:Cls mg [] []
 |cons {x:Str}{p:Pos}{es:List Expr}{c:WP}{cs:List WP}:mg x=some (.ref c)->Cls mg es cs->Cls mg (.Name x p::es) (c::cs)
variable{C:WP}{vs:Array Wp}
theorem iy{x:Str}{c:WP}{b:Bool}(hp:(a,o)∈X.pn)(hc:o.cls=.ref C)(hv:o.data=.fields vs)(k:Asks X.K C)(he:PE X e (qU i))(hg:Gl X "isinstance")(hm:X.mg "isinstance" = none)(Wx:Gl X x)(SM:X.mg x=some (.ref c))(hb:PySem.W.kitOne X.K (.ref C) (.ref c)=some b)(NJ:(x==("__debug__" : Str))=false:=by decide)
  (hs:starEach [e,.Name x q] X.env=(false,eval e X.env)::starEach [.Name x q] X.env:=by rfl) (Q4:starEach [.Name x q] X.env=(false,eval (.Name x q) X.env)::starEach [] X.env:=by rfl) (Nu:(backTo pos (starEach [.Name x q] X.env)).any (·.1)=false:=by rfl):
  BE X (.Call (.Name "isinstance" p) [e,.Name x q] [] pos) i a (.con b):=
 bW (kQ (t7 hp hc hv k) hg hm gF (di he (di (vz (v:=.ref c) Wx SM rfl NJ) gO Q4) hs) (by decide) (by decide) hs Nu) λσ H Q Mh=>by
  obtain⟨kn,c',hi,hk,ev,kk⟩:=Mh;cases ev;exact⟨.ref a,hi,.inl ⟨c,b,rfl,hb,kk H .refl⟩⟩
theorem Bf{x:Str}{T:String}{b:Bool}(hp:(a,o)∈X.pn)(hc:o.cls=.ref C)(hv:o.data=.fields vs)(k:Asks X.K C)(he:PE X e (qU i))(hg:Gl X "isinstance")(hm:X.mg "isinstance" = none)(Wx:Gl X x)(SM:X.mg x=none)(Yp:bootBuiltins x=some (.type T))(hb:PySem.W.kitOne X.K (.ref C) (.type T)=some b)(hn:x≠"__name__":=by decide)(NJ:(x==("__debug__" : Str))=false:=by decide)
  (hs:starEach [e,.Name x q] X.env=(false,eval e X.env)::starEach [.Name x q] X.env:=by rfl) (Q4:starEach [.Name x q] X.env=(false,eval (.Name x q) X.env)::starEach [] X.env:=by rfl) (Nu:(backTo pos (starEach [.Name x q] X.env)).any (·.1)=false:=by rfl):
  BE X (.Call (.Name "isinstance" p) [e,.Name x q] [] pos) i a (.con b):=
 bW (kQ (t7 hp hc hv k) hg hm gF (di he (di (vA (v:=.ty T) Wx SM Yp rfl hn NJ) gO Q4) hs) (by decide) (by decide) hs Nu) λσ H Q Mh=>by
  obtain⟨kn,c',hi,hk,ev,kk⟩:=Mh;cases ev;exact⟨.ref a,hi,.inr (.inl ⟨T,b,rfl,hb,kk H .refl⟩)⟩
end
section
variable{md:Mode}{X:Cx}{x:Str}{pos:Pos}{C:WP}{xe:FXE}
end
end PV
namespace PV
section
variable{X:Cx}
end
end PV
namespace PV
variable{K:W.Frag}{G H:Hp}{p:WP}{u:HO}{fp:List WP}{vs:L2.St}{i:Nat}{env:PV.Env}
section
theorem AllO.app{P:D->V->List WP->Prop}{d:D}{v:V}{a:List WP}(q:P d v a):∀{ds:List D}{xs:List V}{fp:List WP},AllO P ds xs fp->AllO P (ds++[d]) (xs++[v]) (fp++a)
 |[],xs,fp,r=>by
  obtain⟨e1,e2⟩:=r;subst e1 e2;exact⟨v,[],a,[],rfl,by simp,q,rfl,rfl⟩
 |d'::ds,xs,fp,r=>by
  obtain⟨y,ys,a1,b1,e1,e2,p,r⟩:=r;subst e1 e2;exact⟨y,ys++[v],a1,b1++a,rfl,by rw[aaa],p,AllO.app q r⟩
theorem AllO.length{P:D->V->List WP->Prop}:∀{ds:List D}{xs:List V}{fp:List WP},AllO P ds xs fp->xs.length=ds.length
 |[],xs,fp,r=>by
  rw[r.1];rfl
 |d'::ds,xs,fp,r=>by
  obtain⟨y,ys,a1,b1,e1,e2,p,r⟩:=r;subst e1;rw[ZR,ZR,r.length]
theorem xa(gh:Same G H)(gp:G p=none):Same G (upd H p u):=λz o ez=>by
 have:z≠p:=λw=>by
  subst w;rw[gp]at ez;cases ez
 rw[aU this];exact gh z o ez
theorem t8(hp:p∈fp):Step G H fp G (upd H p u) fp:=by
 refine⟨.refl _,λz o ez nz=>?_,λz hz=>.inl hz,λz o ez=>.inl ez,λz o ez=>?_⟩
 .have:z≠p:=λw=>nz (w▸hp)
  rw[aU this];exact ez
 .by_cases w:z=p
  .subst w;exact⟨_,bO⟩
  .exact⟨o,by rw[aU w];exact ez⟩
theorem Rel.pushO{c:O}{acc:List D}{d v:_}{es:PV.Env}(q:Rel K G H (some (.l c,.lst acc)::some (c,d)::es) (some (.ref p)::some v::vs) fp):
  ∃xs,H p=some (.lst xs)/\xs.length=acc.length/\Rel K G (upd H p (.lst (xs++[v]))) (some (.l c,.lst (acc++[d]))::es) (some (.ref p)::vs) fp/\Step G H fp G (upd H p (.lst (xs++[v]))) fp:=by
 obtain⟨y,ys,e,v',a,b,e1,e2,r1,r2⟩:=q.rep;cases e;cases e1;have r1:RepO K G H (.l c) (.lst acc) (.ref p) a:=r1;rw[RepO]at r1;obtain⟨p',xs,fa,ep,hp,ea,al⟩:=r1;cases ep;subst ea;obtain⟨y,ys,e,v',a2,b2,e1,e3,r3,r4⟩:=r2;cases e;cases e1;subst e3;subst e2;have nd:=aas.mp (show(p::(fa++(a2++b2))).Nodup from q.nd);have out:∀z∈fa++(a2++b2),upd H p (.lst (xs++[v])) z=H z:=λz hz=>aU λe=>nd.1 (e▸hz)
 have r3:RepO K G (upd H p (.lst (xs++[v]))) c d v a2:=RepO.step (.refl _) (λz hz=>out z (by simp[hz])) r3;have al:AllO (RepO K G (upd H p (.lst (xs++[v]))) c) acc xs fa:=AllO.imp (λd v c hc=>RepO.step (.refl _) λz hz=>out z (ZX _ (hc z hz))) al;refine⟨xs,hp,al.length,⟨⟨some (.ref p),vs,rfl,.ref p,p::(fa++a2),b2,rfl,by simp,?_,r4.step (.refl _) λz hz=>out z (by simp[hz])⟩,q.nd,q.gn,xa q.gh (q.gn p (by simp))⟩,t8 (by simp)⟩;show RepO K G _ (.l c) (.lst (acc++[d])) (.ref p) _;rw[RepO];exact⟨p,xs++[v],fa++a2,rfl,bO,rfl,al.app r3⟩
theorem AllO.chg:∀{ds:List D}{xs:List V}{fp:List WP}{m:Nat}{es:List D},fp.Nodup->AllO (RepO K G H (.l .f)) ds xs fp->ds[m]?=some (.lst es)->∃l zs,xs[m]?=some (.ref l)/\l∈fp/\H l=some (.lst zs)/\Reps K G es zs/\
  ∀Qs RY,Reps K G Qs RY->AllO (RepO K G (upd H l (.lst RY)) (.l .f)) (ds.set m (.lst Qs)) xs fp
 |[],xs,fp,m,es,nd,r,e=>by rw[List.getElem?_nil]at e;cases e
 |d::ds,xs,fp,m,es,nd,r,e=>by
  obtain⟨y,ys,a,b,e1,e2,p,q⟩:=r;subst e1 e2;obtain⟨n1,n2,n3⟩:=aap.mp nd;cases m with
  |zero=>
   rw[List.getElem?_cons_zero]at e;cases e;obtain⟨l,zs,el,hl,ea,rz⟩:=jQ.mp p;subst el ea;refine⟨l,zs,rfl,by simp,hl,rz,λQs RY WG=>?_⟩;refine⟨.ref l,ys,[l],b,rfl,rfl,jQ.mpr ⟨l,RY,rfl,bO,rfl,WG⟩,AllO.imp (λd v c hc=>RepO.step (.refl _) λz hz=>aU λe=>?_) q⟩;subst e;exact n3 z (by simp) z (hc z hz) rfl
  |succ m=>
   rw[adq]at e;obtain⟨l,zs,el,ml,hl,rz,k⟩:=AllO.chg n2 q e;refine⟨l,zs,el,ZK _ ml,hl,rz,λQs RY WG=>?_⟩;refine⟨y,ys,a,b,rfl,rfl,RepO.step (.refl _) (λz hz=>aU λe=>?_) p,k Qs RY WG⟩;subst e;exact n3 z hz z ml rfl
theorem Rel.chgAt{m:Nat}{ds es:List D}(q:Rel K G H env vs fp)(e:env[i]?=some (some (.l (.l .f),.lst ds)))(em:ds[m]?=some (.lst es)):
  ∃p xs l zs,vs[i]?=some (some (.ref p))/\H p=some (.lst xs)/\xs.length=ds.length/\xs[m]?=some (.ref l)/\H l=some (.lst zs)/\Reps K G es zs/\
   ∀Qs RY,Reps K G Qs RY->∃fq,Rel K G (upd H l (.lst RY)) (env.set i (some (.l (.l .f),.lst (ds.set m (.lst Qs))))) vs fq/\Step G H fp G (upd H l (.lst RY)) fq:=by
 obtain⟨v,fq,ev,g,st,Pf⟩:=q.out e;obtain⟨y,ys,e0,v',a,b,e1,e2,r1,r2⟩:=g.rep;cases e0;cases e1;have r1:RepO K G H (.l (.l .f)) (.lst ds) v a:=r1;rw[RepO]at r1;obtain⟨p,xs,fa,ep,hp,ea,al⟩:=r1;subst ep ea e2;have nd0:(p::(fa++b)).Nodup:=g.nd;have nd:=aas.mp nd0;obtain⟨n1,n2,n3⟩:=aap.mp nd.2;obtain⟨l,zs,el,ml,hl,rz,k⟩:=AllO.chg n1 al em;refine⟨p,xs,l,zs,ev,hp,al.length,el,hl,rz,λQs RY WG=>?_⟩;have pl:p≠l:=λz=>nd.1 (by rw[z];exact ZX _ ml)
 have g2:Rel K G (upd H l (.lst RY)) (some (.l (.l .f),.lst (ds.set m (.lst Qs)))::env.set i none) (some (.ref p)::vs) (p::(fa++b)):=by
  refine⟨⟨some (.ref p),vs,rfl,.ref p,p::fa,b,rfl,rfl,?_,r2.step (.refl _) λz hz=>aU λe=>?_⟩,g.nd,g.gn,xa g.gh (g.gn l (by simp[ml]))⟩
  .show RepO K G _ (.l (.l .f)) (.lst (ds.set m (.lst Qs))) (.ref p) (p::fa);rw[RepO];exact⟨p,xs,fa,rfl,by rw[aU pl];exact hp,rfl,k Qs RY WG⟩
  .subst e;exact n3 z ml z hz rfl
 have Wi:Step G H (p::(fa++b)) G (upd H l (.lst RY)) (p::(fa++b)):=t8 (by simp[ml]);obtain⟨fz,g3,Nj⟩:=g2.back (i:=i) (by rw[abW];exact(Z1.mp e).1) ev;rw[acu]at g3;exact⟨fz,g3,st.trans (Wi.trans Nj)⟩
end
variable{md:Mode}{X:Cx}{scope:Scope}{N:List Str}{pos:Pos}{f:FX}{σ:L2.St}
section
variable{tg iter elt:Expr}{ifs:List Expr}{fi:FI}{a:FG}{c:FT}
theorem Rel.fz{d:D}(q:Rel K G H env σ fp)(e:env[i]?=some (some (.f,d))):∃v,σ[i]?=some (some v)/\Rep K G d v:=by
 obtain⟨v,fq,ev,g,_⟩:=q.out e;obtain⟨y,ys,e0,v',a,b,e1,e2,r1,r2⟩:=g.rep;cases e0;cases e1;exact⟨v,ev,(jo.mp r1).1⟩
end
variable{x:Str}{fb:FX}
section
variable{p UJ:Pos}{e1 e2 e3:Expr}{fo:FO}
end
variable{o:Expr}
section
variable{p p1 p2 q1 q2:Pos}{o':Expr}{j1 j2:_}
end
section
end
variable{a b:Expr}{fa:FX}
section
end
section
end
section
end
section
end
section
end
section
end
section
variable{UJ:Pos}
end
variable{C:WP}
section
variable{rest a b:List Stmt}{ct:Expr}
end
theorem acc_on{P:W1}{w:World}{mg:Str->Option Wp}{base:UF}{qual:Str}{f:WP}{cd:Wp}{A:Uf}{outer:List PySem.Env}{s:WF}{E:XK}
  (pr:List (WP×Obj)) (σ:L2.St) (e:Wp) (s':WF) (h:XP (qP (Ts P w base C) P w K mg base N qual scope f cd A outer s H E) pr σ C (λH'=>E (.ref C) none H') e s'):
  (qP (Ts P w base C) P w K mg base N qual scope f cd A outer s H E).xe e s':=by
 obtain⟨s1,H1,I,a,t,B,H',rfl,os,bare,U,hok,Rv,hB,hW⟩:=h;have Yi:∀b,b∈Na (envOfC qual scope s.heap.objs.size f cd::outer)->b∈s.heap.objs.size::Na outer:=I.stkSub;have up:∀b,b∈Na outer->b∈Na (envOfC qual scope s.heap.objs.size f cd::outer):=λb hb=>by
  obtain⟨en,he,hf⟩:=abm.mp hb;exact abm.mpr ⟨en,ZN _ he,hf⟩
 have nl:∀b o,s.heap.get? b=some o->b∉Na outer->b∉Na (envOfC qual scope s.heap.objs.size f cd::outer):=λb o e n z=>by
  rcases ZJ.mp (Yi b z) with r|r
  .exact absurd (ZQ e) (by rw[r];exact aba _)
  .exact n r
 have nt:∀b,H' b≠none->b∉Na (envOfC qual scope s.heap.objs.size f cd::outer):=λb n z=>by
  obtain⟨_,o,ho,_⟩:=I.stack.mem z;exact n (U.free b o ho (I.stkFree b z) (λz=>nomatch z))
 refine wpAny_leaves_onW (base:=B) (L:=s.heap.objs.size) I.ok.frames rfl Rv λh2 SU sm=>?_
 have k:∀b u,s'.heap.get? b=some u->(H' b≠none\/∃o,s1.heap.get? b=some o)->b∉Na (envOfC qual scope s.heap.objs.size f cd::outer)->h2.get? b=some u:=λb u q hh n=>SU.1 b u (hB b u q hh n)
 have sl:∀b u,s'.heap.get? b=some u->b∈Na outer->∃z,h2.get? b=some {u with slots:=z}:=λb u q n=>by
  obtain⟨_,o,ho,hd⟩:=Rv.2.2.1.mem (up b n);rw[q]at ho;cases ho;exact sm b u q hd
 have there:∀b o,s.heap.get? b=some o->∃o1 o2,s1.heap.get? b=some o1/\s'.heap.get? b=some o2:=λb o q=>by
  obtain⟨o1,e1⟩:=I.base.there b o q (λz=>nomatch z);obtain⟨o2,e2⟩:=U.there b o1 e1 (λz=>nomatch z);exact⟨o1,o2,e1,e2⟩
 refine⟨a,t,B,H',rfl,os.trans I.os,bare,⟨λb o q n hb hx=>?_,λb o q n hb hx=>?_,λb o q n hx=>?_,λb o q hx=>?_,λc xs q=>U.tups c xs (I.base.tups c xs q),λc ob xs q=>U.frzs c ob xs (I.base.frzs c ob xs q),λc ps q=>?_⟩,λb o e=>?_,SU,λb u q hb n=>?_,hW⟩
 .have e1:=I.base.keep b o q n hb hx;have nb:=nl b o q hb;exact k b o (U.keep b o e1 (I.base.free b o q n hx) nb (λz=>nomatch z)) (.inr ⟨o,e1⟩) nb
 .obtain⟨z,e1⟩:=I.base.slot b o q n hb hx;obtain⟨z2,e2⟩:=U.slot b _ e1 (I.base.free b o q n hx) (up b hb) (λz=>nomatch z);obtain⟨z3,e3⟩:=sl b _ e2 hb;exact⟨z3,e3⟩
 .obtain⟨o1,e1⟩:=I.base.there b o q hx;exact U.free b o1 e1 (I.base.free b o q n hx) (λz=>nomatch z)
 .obtain⟨o1,o2,e1,e2⟩:=there b o q;by_cases hb:b∈Na outer
  .obtain⟨z,e3⟩:=sl b o2 e2 hb;exact⟨_,e3⟩
  .exact⟨o2,k b o2 e2 (.inr ⟨o1,e1⟩) (nl b o q hb)⟩
 .obtain⟨m1,e1⟩:=I.base.tbls c ps q;obtain⟨m2,e2⟩:=U.tbls c _ e1;exact⟨m1++m2,by rw[e2,abR]⟩
 .refine(hok b o e).stay (λc u hc q=>?_) (λ_ q=>q) λ_ _ q=>q
  have hn:H' c≠none:=by
   rcases hc with rfl|hc
   .rw[e];exact λz=>nomatch z
   .rw[hc];exact λz=>nomatch z
  exact k c u q (.inl hn) (nt c hn)
 .have h1:∃u0,s'.heap.get? b=some u0/\(H' b≠none\/∃o,s1.heap.get? b=some o)/\b∉Na (envOfC qual scope s.heap.objs.size f cd::outer):=by
   rcases hb with hb|⟨o,ho⟩
   .cases hq:H' b with
    |none=>exact absurd hq hb
    |some ho=>
     obtain⟨u0,e0⟩:=ook_get (hok b ho hq);exact⟨u0,e0,.inl (λz=>nomatch z),nt b hb⟩
   .obtain⟨o1,o2,e1,e2⟩:=there b o ho;exact⟨o2,e2,.inr ⟨o1,e1⟩,nl b o ho n⟩
  obtain⟨u0,e0,hh,n0⟩:=h1;have:=k b u0 e0 hh n0;rw[show h2.get? b=some u from q]at this;cases this;exact hB b _ e0 hh n0
variable{es:List Expr}{e:Expr}{Ww:Hp->Prop}
section
variable{y:Str}{p pos' Mu:Pos}{F:List D->Bool}{fs:Od}{k:Nat}{rest:List Stmt}
end
section
variable{a:WP}{j jc:Nat}{x1 x2:BExp}{e1 e2 vc:Expr}{n nc:Str}{pos1 WE pos' pos'' bp p:Pos}
theorem xb:dF X (.type "int") (λxs H Q=>∃b:Bool,xs=[.bl b]/\Q (.int (if b=true then 1 else 0)) H):=by
 rintro pr s σ H xs us Q I rx ⟨b,ex,q⟩;subst ex;obtain⟨u,rfl,ru⟩:=fV rx;cases ru;exact call_int_bool ⟨.int _,H,I.tok _,⟨_,rfl⟩,q⟩
end
variable{xe:FXE}
section
end
def dg(i:Int):List Nat:=(Str.ofString (toString i)).cps.toList
theorem IJ(i:Int):S (dg i)=Str.ofString (toString i):=by
 apply Str.ext';unfold dg;simp[S]
theorem dg_len{i:Int}(h:i.natAbs.log2<1920):(dg i).length<=sizeLine:=by
 have h2:(Str.ofString (toString i)).length<=sizeLine:=int_text_fits h;rw[<-IJ,fR]at h2;exact h2
def FK:List D->Res R
 |[.int i]=>if i.natAbs.log2<1920 then .ok (.f,.str (dg i)) else .bad
 |_=>.bad
def FL:List D->Res R
 |[.str l]=>(match PySem.intText? (S l) with
  |some n=>if l.length<=640 then .ok (.f,.int n) else .bad
  |none=>.bad)
 |ds=>Fw ds
section
theorem FN:dF X (.type "str") (rC X.K FK):=by
 rintro pr s σ H xs us Q I rx ⟨G,fp,es,vs,ds,r,⟨rel,k⟩,vd,e⟩;unfold FK at e;split at e
 .rename_i i;split at e
  .rename_i hl;cases e;obtain⟨v,ev,v1⟩:=mX vd;subst ev;cases cf v1;obtain⟨u,rfl,t,rfl⟩:=fV rx;exact PySem.P.str_of_int hl ⟨.str (S (dg i)),H,I.tok _,⟨_,by rw[IJ]⟩,k _ H G fp .refl (rel.push (dI (dg_len hl)))⟩
  .cases e
 .cases e
theorem CP:dF X (.type "int") (rC X.K FL):=by
 rintro pr s σ H xs us Q I rx ⟨G,fp,es,vs,ds,r,⟨rel,k⟩,vd,e⟩;unfold FL at e;split at e
 .rename_i l;split at e
  .rename_i n hn;split at e
   .rename_i hl;cases e;obtain⟨v,ev,v1⟩:=mX vd;subst ev;obtain⟨ev,_⟩:=fH v1;subst ev;obtain⟨u,rfl,t,rfl⟩:=fV rx;exact PySem.W.KIN.call_text hn (by rw[fR];exact hl) ⟨.int n,H,I.tok _,⟨_,rfl⟩,k _ H G fp .refl (rel.push (cC _))⟩
   .cases e
  .cases e
 .exact A6 pr s σ H xs us Q I rx ⟨G,fp,es,vs,ds,r,⟨rel,k⟩,vd,e⟩
def K6(f:FX):FX:=λenv=>(f env).bind λp=>match p.1.2 with
 | .int i=>if i.natAbs.log2<1920 then .ok ((.f,.str (dg i)),p.2) else .bad
 | .str l=>.ok ((.f,.str l),p.2)
 |_=>.bad
theorem J9{v:Expr}(h:QE X v f):QE X (.FormattedValue v (-1) none pos) (K6 f):=λpr s σ H Q I Mh=>by
 obtain⟨G,env,fp,r,env',rel,e,k⟩:=Mh;obtain⟨⟨r1,L0⟩,e1,e⟩:=aB e;refine FormattedValue_plain (Mz (h pr s σ H (λx H1=>∃G1 Mt,Step G H fp G1 H1 Mt/\Rel X.K G1 H1 (some r1::L0) (some x::σ) Mt) I ⟨G,env,fp,r1,L0,rel,e1,λv H1 G1 Mt Mk L5=>⟨G1,Mt,Mk,L5⟩⟩) λu s1 MC=>?_);obtain⟨x,H1,I1,rx,G1,Mt,Mk,L5⟩:=MC;obtain⟨b,L6,Md⟩:=L5.drop;have rt:=L5.top;dsimp only at e;split at e
 .rename_i i hi;split at e
  .rename_i hl;cases e;rw[hi]at rt;cases iE rt;obtain⟨t,rfl⟩:=rx;exact wpAny_formatField_int hl ⟨.str (S (dg i)),H1,I1.tok _,⟨_,by rw[IJ]⟩,k _ H1 G1 b (Mk.trans Md) (L6.push (dI (dg_len hl)))⟩
  .cases e
 .rename_i l hi;cases e;rw[hi]at rt;obtain⟨ex,hz⟩:=eP rt;subst ex;obtain⟨t,rfl⟩:=rx;exact formatField_str (λt' tk=>⟨.str (S l),H1,I1.tok _,⟨_,rfl⟩,k _ H1 G1 b (Mk.trans Md) (L6.push (dI hz))⟩) (by rw[fR];exact hz)
 .cases e
def QJ(X:Cx)(es:List Expr)(fs:FDs):Prop:=∀(acc:List Nat) (pr:List (WP×Obj)) (s:WF) (σ:L2.St) (H:Hp) (Q:VK),Inv X pr σ H s->
 (∃G env fp ds env' ls,Rel X.K G H env σ fp/\fs env=.ok (ds,env')/\dM ds=some ls/\(acc++ls.flatten).length<=sizeLine/\∀H' G' L9,Step G H fp G' H' L9->Rel X.K G' H' env' σ L9->Q (.str (S (acc++ls.flatten))) H')->
 wpAny (model X.prog X.w) X.A (joinParts (S acc) (evalEach es X.env)) (EP X pr σ Q) X.xe s
theorem xc:QJ X [] aX:=λacc pr s σ H Q I Mh=>by
 obtain⟨G,env,fp,ds,env',ls,rel,e,hs,hl,k⟩:=Mh;cases e;cases hs;rw[adv,aak]at hl k;exact joinParts_nil ⟨.str (S acc),H,I.tok _,⟨_,rfl⟩,k H G fp .refl rel⟩ (by rw[fR];exact hl)
theorem jU{g:FDs}(h:QE X e f)(hs:QJ X es g)(he:evalEach (e::es) X.env=eval e X.env::evalEach es X.env:=by rfl):QJ X (e::es) (aw f g):=λacc pr s σ H Q I Mh=>by
 obtain⟨G,env,fp,ds,env',ls,rel,e0,Ux,hl,k⟩:=Mh;obtain⟨⟨r1,L0⟩,e1,e0⟩:=aB e0;obtain⟨⟨ds1,Ml⟩,e2,e0⟩:=aB e0;cases e0;rw[he];refine joinParts_cons (Mz (h pr s σ H (λx H1=>∃G1 Mt,Step G H fp G1 H1 Mt/\Rel X.K G1 H1 (some r1::L0) (some x::σ) Mt) I ⟨G,env,fp,r1,L0,rel,e1,λv H1 G1 Mt Mk L5=>⟨G1,Mt,Mk,L5⟩⟩) λu s1 MC=>?_);obtain⟨x,H1,I1,rx,G1,Mt,Mk,L5⟩:=MC;obtain⟨b,L6,Md⟩:=L5.drop;have rt:=L5.top;dsimp only at Ux;obtain⟨o1,d1⟩:=r1;cases d1 with
 |str l=>
  rw[dM,aaH]at Ux;obtain⟨ls1,SV,rfl⟩:=Ux;obtain⟨ex,hz⟩:=eP rt;subst ex;obtain⟨t,rfl⟩:=rx;rw[aaJ,<-aaa]at hl k;show(S acc++S l).length<=sizeLine/\wpAny _ _ (joinParts (S acc++S l) _) _ _ _;rw[B4];refine⟨?_,hs (acc++l) pr s1 σ H1 Q I1 ⟨G1,L0,b,ds1,Ml,ls1,L6,e2,SV,hl,λH' G' L9 st M1=>k H' G' L9 (Mk.trans (Md.trans st)) M1⟩⟩;rw[fR];rw[aau]at hl;lia
 |_=>cases Ux
def xf(fs:FDs):FX:=λenv=>(fs env).bind λp=>match dM p.1 with
 |some ls=>if ls.flatten.length<=sizeLine then .ok ((.f,.str ls.flatten),p.2) else .bad
 |none=>.bad
theorem rH{fs:FDs}(h:QJ X (a::b::es) fs):QE X (.JoinedStr (a::b::es) pos) (xf fs):=λpr s σ H Q I Mh=>by
 obtain⟨G,env,fp,r,env',rel,e,k⟩:=Mh;obtain⟨⟨ds,L0⟩,e1,e⟩:=aB e;dsimp only at e;split at e
 .rename_i ls hls;split at e
  .rename_i hl;cases e;exact JoinedStr_many (h [] pr s σ H Q I ⟨G,env,fp,ds,_,ls,rel,e1,hls,hl,λH' G' L9 st M1=>k _ H' G' L9 st (M1.push (dI hl))⟩)
  .cases e
 .cases e
def Bg(f:FX):FX:=λenv=>(f env).bind λp=>.ok ((.f,p.1.2),p.2)
theorem pX(h:QE X e f):QE X e (Bg f):=bW h λσ H Q Mh=>by
 obtain⟨G,env,fp,r,env',rel,e,k⟩:=Mh;obtain⟨⟨r1,L0⟩,e1,e⟩:=aB e;cases e;refine⟨G,env,fp,r1,_,rel,e1,λv H1 G1 Mt Mk L5=>?_⟩;obtain⟨G2,b,rv,L6,Md⟩:=L5.freeze;exact k v H1 G2 b (Mk.trans Md) (L6.push rv)
end
section
theorem Rel.newO1{c:O}{d1:D}{v1:V}{es:PV.Env}{t:WP}(q:Rel K G H (some (c,d1)::es) (some v1::vs) fp)(ht:H t=none):
  Rel K G (upd H t (.lst [v1])) (some (.l c,.lst [d1])::es) (some (.ref t)::vs) (t::fp)/\Step G H fp G (upd H t (.lst [v1])) (t::fp):=by
 have gt:G t=none:=by
  cases e:G t with
  |none=>rfl
  |some o=>rw[q.gh t o e]at ht;cases ht
 have nt:t∉fp:=λz=>by
  obtain⟨u,e⟩:=q.rep.live t z;rw[ht]at e;cases e
 have sh:Same H (upd H t (.lst [v1])):=λb o e=>by rw[aU (bL e ht)];exact e
 obtain⟨y,ys,e,v',a,b,e1,e2,r1,r2⟩:=q.rep;cases e;cases e1;subst e2;have out:∀z∈a++b,upd H t (.lst [v1]) z=H z:=λz hz=>aU λe=>nt (e▸hz)
 refine⟨⟨⟨some (.ref t),vs,rfl,.ref t,t::a,b,rfl,rfl,?_,r2.step (.refl _) λz hz=>out z (ZK _ hz)⟩,aas.mpr ⟨nt,q.nd⟩,λz hz=>?_,λb o e=>sh b o (q.gh b o e)⟩,
  ⟨.refl _,λb o e _=>sh b o e,λb hb=>?_,λb o e=>.inl e,λb o e=>⟨o,sh b o e⟩⟩⟩
 .show RepO K G _ (.l c) (.lst [d1]) (.ref t) _;rw[RepO];exact⟨t,[v1],a,rfl,bO,rfl,v1,[],a,[],rfl,(aak _).symm,RepO.step (.refl _) (λz hz=>out z (ZX _ hz)) r1,rfl,rfl⟩
 .rcases ZJ.mp hz with rfl|hz
  .exact gt
  .exact q.gn z hz
 .rcases ZJ.mp hb with rfl|hb
  .exact .inr ht
  .exact .inl hb
end
section
def zr(f:FX):FX:=λenv=>(f env).bind λp=>match p.1.1 with
 | .l .f=>.ok ((.l (.l .f),.lst [p.1.2]),p.2)
 |_=>.bad
theorem xg(ha:QE X a fa)(h1:starEach [a] X.env=(false,eval a X.env)::starEach [] X.env:=by rfl):QE X (.List [a] pos) (zr fa):=
 bW (AD (di ha gO h1)) λσ H Q Mh=>by
  obtain⟨G,env,fp,r,env',rel,e,k⟩:=Mh;obtain⟨⟨⟨o1,d1⟩,L0⟩,e1,e⟩:=aB e;dsimp only at e;split at e
  .cases e;refine⟨G,env,fp,_,_,rel,e1,λv H1 G1 Mt Mk L5=>⟨by rw[line_eq];exact(by decide:1<=16777216),λt ht=>?_⟩⟩;obtain⟨Nl,Oc⟩:=L5.newO1 ht;exact k _ _ G1 _ (Mk.trans Oc) Nl
  .cases e
def zt(i:Nat)(f:FX):FX:=λenv=>if rB env i then(f env).bind λp=>(match p.1.1,p.2[i]? with
 | .l .f,some (some (.l (.l .f),.lst ds))=>if ds.length<sizeLine then .ok ((.f,.non),p.2.set i (some (.l (.l .f),.lst (ds++[p.1.2])))) else .bad
 |_,_=>.bad)
 else .bad
theorem CQ{apos Mu:Pos}(ho:PE X o (qU i))(he:QE X e f)
  (Oe:attributeBase o "append" X.env (eval o X.env)=eval o X.env:=by rfl)
  (Qy:((backTo Mu (starEach [e] X.env)).all (λx=>!x.1)&&(backToKw Mu (keywordEach [] X.env)).all (λx=>x.1.isSome)&&decide ([e].length+([]:List Keyword).length+(if([]:List Keyword).isEmpty then 0 else 1)<30))=true:=by rfl)
  (OU:(apos.endLine==Mu.line)=true:=by rfl) (hs:starEach [e] X.env=(false,eval e X.env)::starEach [] X.env:=by rfl) (N2:(backTo Mu (starEach [] X.env)).any (·.1)=false:=by rfl):
  QE X (.Call (.Attribute o "append" apos) [e] [] Mu) (zt i f):=by
 refine bW (yM ace ab6 ab7 gW ho (di he gO hs) Oe Qy OU hs N2) λσ H Q MC=>?_
 obtain⟨G,env,fp,r,env',rel,e,k⟩:=MC;unfold zt at e;split at e
 .rename_i Wo;obtain⟨v,ev,ty⟩:=tJ rel Wo;obtain⟨⟨⟨o1,d1⟩,L0⟩,e1,e⟩:=aB e;dsimp only at e;split at e
  .rename_i ds To;split at e
   .rename_i hl;cases e;refine⟨v,ev,ty,G,env,fp,_,L0,rel,e1,λy H1 G1 Mt Mk L5=>?_⟩;obtain⟨fa,fb,U2,ra,SO,bk⟩:=L5.frame;obtain⟨w,fq,ew,g,st,Pf⟩:=SO.out To;rw[ev]at ew;cases ew;obtain⟨PL,RX⟩:=bk G1 H1 _ _ fq st g;rw[<-U2]at RX;obtain⟨z,zs,ez,v',a',b',ez1,Yw,XG,rz2⟩:=g.rep;cases ez;cases ez1;have XG:RepO X.K G1 H1 (.l (.l .f)) (.lst ds) v a':=XG;rw[RepO]at XG;obtain⟨p,xs,L9,ep,hp,ea,al⟩:=XG;subst ep;have relw:Rel X.K G1 H1 (some (.l (.l .f),.lst ds)::some (.l .f,d1)::L0.set i none) (some (.ref p)::some y::σ) ((a'++fa)++b'):=by
     refine⟨⟨some (.ref p),_,rfl,.ref p,a',fa++b',rfl,by rw[aaa],?_,some y,σ,rfl,y,fa,b',rfl,rfl,ra,rz2⟩,?_,λw hw=>?_,PL.gh⟩
     .rw[RepO];exact⟨p,xs,L9,rfl,hp,ea,al⟩
     .have nd:=PL.nd;rw[Yw]at nd;rw[aaa];have pm:(fa++(a'++b')).Perm (a'++(fa++b')):=by
       rw[<-aaa,<-aaa];exact List.perm_append_comm.append_right b'
      exact pm.nodup_iff.mp nd
     .refine PL.gn w ?_;rw[Yw];rcases aag.mp hw with hw|hw
      .rcases aag.mp hw with hw|hw
       .exact ZK _ (ZX _ hw)
       .exact ZX _ hw
      .exact ZK _ (ZK _ hw)
    obtain⟨UY,XE,lx,relp,stp⟩:=relw.pushO;rw[hp]at XE;cases XE;obtain⟨fz,Ob,OR⟩:=relp.back (i:=i) (by rw[abW];exact(Z1.mp To).1) ev;rw[acu]at Ob;have stw:Step G1 H1 (fa++fq) G1 H1 ((a'++fa)++b'):=Step.cut λw hw=>by
     rw[Yw];rcases aag.mp hw with hw|hw
     .rcases aag.mp hw with hw|hw
      .exact ZK _ (ZX _ hw)
      .exact ZX _ hw
     .exact ZK _ (ZK _ hw)
    exact⟨p,xs,y,rfl,rfl,hp,by rw[lx];exact hl,k _ _ G1 fz (Mk.trans (RX.trans (stw.trans (stp.trans OR)))) (Ob.push iV)⟩
   .cases e
  .cases e
 .cases e
def uT(i:Nat)(c:Int)(l:Nat):FX:=λenv=>match env[i]?,env[l]? with
 |some (some (.l (.l .f),.lst ds)),some (some (.f,d))=>(match ixN ds.length c with
  |some m=>(match ds[m]? with
   |some (.lst es)=>if es.length<sizeLine then .ok ((.f,.non),env.set i (some (.l (.l .f),.lst (ds.set m (.lst (es++[d])))))) else .bad
   |_=>.bad)
  |none=>.bad)
 |_,_=>.bad
theorem IK{j p q}:PE X (.UnaryOp .USub (.Constant (.int 1) j p) q) (tC (.int (-1))):=bW (HX EI As) λσ H Q h=>⟨1,rfl,h⟩
theorem CS{l:Nat}{c:Int}{ke:Expr}{Qk apos Mu:Pos}(ho:PE X o (qU i))(hk:PE X ke (tC (.int c)))(he:PE X e (qU l))(Nu:qY ke:=by exact λ_ _=>rfl)
  (Oe:attributeBase (.Subscript o ke Qk) "append" X.env (eval (.Subscript o ke Qk) X.env)=eval (.Subscript o ke Qk) X.env:=by rfl)
  (Qy:((backTo Mu (starEach [e] X.env)).all (λx=>!x.1)&&(backToKw Mu (keywordEach [] X.env)).all (λx=>x.1.isSome)&&decide ([e].length+([]:List Keyword).length+(if([]:List Keyword).isEmpty then 0 else 1)<30))=true:=by rfl)
  (OU:(apos.endLine==Mu.line)=true:=by rfl) (hs:starEach [e] X.env=(false,eval e X.env)::starEach [] X.env:=by rfl) (N2:(backTo Mu (starEach [] X.env)).any (·.1)=false:=by rfl):
  QE X (.Call (.Attribute (.Subscript o ke Qk) "append" apos) [e] [] Mu) (uT i c l):=by
 refine bW (yM ace ab6 ab7 gW (EO vQ ho hk Nu) (di he gO hs) Oe Qy OU hs N2) λσ H Q MC=>?_
 obtain⟨G,env,fp,r,env',rel,e,k⟩:=MC;unfold uT at e;split at e
 .rename_i ds d hi hl;split at e
  .rename_i m hm;split at e
   .rename_i es Yx;split at e
    .rename_i hz;cases e;obtain⟨p,xs,q,zs,ev,hp,lx,ex,hq,rz,kk⟩:=rel.chgAt hi Yx;obtain⟨vd,evd,rd⟩:=rel.fz hl;obtain⟨fq,L6,Md⟩:=kk (es++[d]) (zs++[vd]) (rz.app (.one rd));refine⟨.ref p,ev,p,xs,c,.ref q,rfl,rfl,SqL.of hp,?_,.inl ⟨rfl,zs,SqL.of hq⟩,vd,evd,q,zs,vd,rfl,rfl,hq,by rw[rz.length];exact hz,k _ _ G fq Md (L6.push iV)⟩;unfold Ow;rw[lx,hm];exact ex
    .cases e
   .cases e
  .cases e
 .cases e
end
def xOf(xe:FXE):FB:=λenv=>(xe env).isSome
section
variable{rest:List Stmt}{p:Pos}
theorem pY(h:tX X.K (xOf xe) Ww σ H):tQX X.K xe σ H Ww:=by
 obtain⟨G,env,fp,rel,e,k⟩:=h;obtain⟨env',e'⟩:=aa7.mp e;exact⟨G,env,fp,env',rel,e',λH' G' L9 st r=>k H' G' L9 st r.nilF⟩
theorem xh(acc:∀pr σ e s',XP X pr σ C Ww e s'->X.xe e s')(h:SR X e C xe):QX X (.Return (some e) pos::rest) (xOf xe) Ww:=jm (Fo acc h) λ_ _ z=>pY z
end
section
variable{a:WP}{j:Nat}{x:BExp}{xs:List BExp}{p q lpos:Pos}{n:Str}
end
section
end
end PV
namespace NX
section
variable{X:Cx}{rest a:List Stmt}{tx ta tb:TX}{tc:TT}{e ct:Expr}{C:WP}{pos p:Pos}{Ww:Hp->Prop}
theorem CT(acc:∀pr σ e s',XP X pr σ C Ww e s'->X.xe e s')(h:RW X e C tx)(hs:swapsWith e none pos.line X.env=pure false:=by rfl):PX X (.Expr e pos::rest) (λσ H=>tx σ H Ww):=λpr s σ H I z=>
 aat (wpAny_Expr_any (aaf (h pr s σ H Ww I z) (λ_ _ z=>z.elim) λv s' z=>acc pr σ v s' z) I.quiet hs)
end
end NX
namespace PV
section
variable{md:Mode}{X:Cx}{x:Str}{pos:Pos}{C:WP}{xe:FXE}{rest a:List Stmt}{e ct:Expr}{Ww:Hp->Prop}
theorem CU(acc:∀pr σ e s',XP X pr σ C Ww e s'->X.xe e s')(h:SR X e C xe)(hs:swapsWith e none pos.line X.env=pure false:=by rfl):QX X (.Expr e pos::rest) (xOf xe) Ww:=jm (CT acc h hs) λ_ _ z=>pY z
theorem CV{st:List Stmt}:Sn (md:=md) X st cG:=λpr s σ H D I ⟨G,env,fp,rel,kk⟩=>kk.elim
end
end PV
namespace NX
def WH(X:Cx)(e:Expr)(t:L2.St->Hp->Prop):Prop:=∀(pr:List (WP×Obj)) (s:WF) (σ:L2.St) (H:Hp),Inv X pr σ H s->t σ H->wpAny (model X.prog X.w) X.A (isTrue e X.env (eval e X.env)) (λ_ _=>False) X.xe s
def PWX(X:Cx)(e:Expr)(t:L2.St->Hp->Prop):Prop:=∀(whole:Sem Wp) (pr:List (WP×Obj)) (s:WF) (σ:L2.St) (H:Hp),Inv X pr σ H s->t σ H->wpAny (model X.prog X.w) X.A (isTrue e X.env whole) (λ_ _=>False) X.xe s
section
variable{X:Cx}{rest body:List Stmt}{tx:TX}{tc:TT}{tb:TS}{u ux:L2.St->Hp->Prop}{e a b c:Expr}{es:List Expr}{C:WP}{pos p:Pos}{Ww:Hp->Prop}
theorem PWX.pt(h:PWX X e u):WH X e u:=h _
theorem zu(ha:WH X a u):PWX X (.BoolOp .And [a] pos) u:=λwh pr s σ H I h=>isTrue_and (aaf (ha pr s σ H I h) (λ_ _ z=>z.elim) λ_ _ z=>z)
theorem CW(ha:PT X a tc)(hb:PWX X (.BoolOp .And (b::es) pos) u):PWX X (.BoolOp .And (a::b::es) pos) (λσ H=>tc σ H λd H1=>d=true/\u σ H1):=by
 intro wh pr s σ H I h;refine isTrue_and (Mz (ha pr s σ H _ I h) λd s1 MC=>?_);obtain⟨H1,I1,e,q⟩:=MC;subst e;exact hb wh pr s1 σ H1 I1 q
theorem CY{op:CmpOp}(acc:∀pr σ e s',XP X pr σ C Ww e s'->X.xe e s')(h:RW X a C tx)(hm:behindInMarks op b=false:=by with_unfolding_all rfl):WH X (.Compare a [op] [b] pos) (λσ H=>tx σ H Ww):=λpr s σ H I z=>
 acp (aaf (h pr s σ H Ww I z) (λ_ _ z=>z.elim) λv s' z=>acc pr σ v s' z) hm
theorem FQ{y:Str}{pos':Pos}(acc:∀pr σ e s',XP X pr σ C Ww e s'->X.xe e s')(h:RW X e C tx)(hs:swapsWith e (some (.Name y pos')) pos.line X.env=pure false:=by rfl):PX X (.Assign [.Name y pos'] e pos::rest) (λσ H=>tx σ H Ww):=λpr s σ H I z=>
 aat (ac9 (aaf (h pr s σ H Ww I z) (λ_ _ z=>z.elim) λv s' z=>acc pr σ v s' z) hs)
theorem FR{tg:Expr}(acc:∀pr σ e s',XP X pr σ C Ww e s'->X.xe e s')(h:RW X e C tx)(hs:∀x,foldedSetIterable e X.env x=pure x:=by intro _;rfl):PX X (.For tg e body [] pos::rest) (λσ H=>tx σ H Ww):=λpr s σ H I z=>
 aat (wpAny_For (aaf (h pr s σ H Ww I z) (λ_ _ z=>z.elim) λv s' z=>acc pr σ v s' z) hs)
theorem zv(hp:PassesOwn (model X.prog X.w) X.A X.env X.xe)(Yy:WH X c u)(hc:PT X c tc)(Yz:PX X body ux)(hb:PSs X body tb):
  PX X (.While c body [] pos::rest) (λσ H=>∃W:Nat->L2.St->Hp->Prop,(∃m,W m σ H)/\∀m σ H,W m σ H->u σ H\/tc σ H λd H1=>d=true/\(ux σ H1\/∃N:L2.St->Hp->Prop,(∀σ' H',N σ' H'->∃m',m'<m/\W m' σ' H')/\tb {nx:=N,rt:=λ_ _=>False} σ H1)):=by
 rintro pr s σ H I ⟨W,⟨m0,w0⟩,turn⟩;refine aat (aaf (Q:=λ_ _=>False) (wpAny_While (codeAny_whileLoop (λn s'=>∃σ' H',Inv X pr σ' H' s'/\W n σ' H') ?_ m0 ⟨σ,H,I,w0⟩)) (λ_ _ z=>z.elim) λ_ _ z=>z);rintro n s1 ⟨σ1,H1,I1,w1⟩;rcases turn n σ1 H1 w1 with q|q
 .exact aaZ hp (aaf (Yy pr s1 σ1 H1 I1 q) (λ_ _ z=>z.elim) λ_ _ z=>z)
 .refine aaZ hp (Mz (hc pr s1 σ1 H1 _ I1 q) λd s2 MC=>?_);obtain⟨H2,I2,e,q2⟩:=MC;subst e;rw[ZY rfl];rcases q2 with q2|⟨N,hN,q2⟩
  .exact aaZ hp (aaf (Yz pr s2 σ1 H2 I2 q2) (λ_ _ z=>z.elim) λ_ _ z=>z)
  .refine aaZ hp (Mz (hb pr s2 σ1 H2 _ I2 q2) λf s3 q3=>?_);cases f with
   |next=>
    obtain⟨σ3,H3,I3,n3⟩:=q3;obtain⟨m',hm,w3⟩:=hN σ3 H3 n3;exact⟨m',hm,σ3,H3,I3,w3⟩
   |cont=>obtain⟨_,_,_,z⟩:=q3;exact z.elim
   |brk=>obtain⟨_,_,_,z⟩:=q3;exact z.elim
   |ret v=>obtain⟨_,_,_,_,_,z⟩:=q3;exact z.elim
end
end NX
namespace PV
def XH(X:Cx)(e:Expr)(x:FB)(Ww:Hp->Prop):Prop:=WH X e (tX X.K x Ww)
def YA(X:Cx)(e:Expr)(x:FB)(Ww:Hp->Prop):Prop:=PWX X e (tX X.K x Ww)
def iI(cx:FB)(c:FT)(bx:FB)(g:FS):Nat->FB
 | 0,_=>false
 |n+1,env=>cx env||match c env with
  | .ok (true,e1)=>bx e1||match g e1 with
   | .ok (.nx e2)=>iI cx c bx g n e2
   |_=>false
  |_=>false
section
variable{X:Cx}{rest body:List Stmt}{xe:FXE}{x cx bx:FB}{c:FT}{g:FS}{e a b ct:Expr}{es:List Expr}{C:WP}{pos p:Pos}{Ww:Hp->Prop}
theorem zw(h:XH X a x Ww):YA X (.BoolOp .And [a] pos) x Ww:=zu h
theorem CZ(ha:QT X.nox a c)(hb:YA X (.BoolOp .And (b::es) pos) x Ww):YA X (.BoolOp .And (a::b::es) pos) (Py c x) Ww:=λwh pr s σ H I ⟨G,env,fp,rel,e,k⟩=>CW (PT.nox ha) hb wh pr s σ H I (by
 unfold Py at e;match q:c env,e with
 | .ok (true,L0),e=>exact⟨G,env,fp,true,L0,rel,q,λH1 G1 Mt Mk L5=>⟨rfl,G1,L0,Mt,L5,e,λH' G' L9 st r=>k H' G' L9 (Mk.trans st) r⟩⟩)
theorem C2{op:CmpOp}(acc:∀pr σ e s',XP X pr σ C Ww e s'->X.xe e s')(h:SR X a C xe)(hm:behindInMarks op b=false:=by with_unfolding_all rfl):XH X (.Compare a [op] [b] pos) (xOf xe) Ww:=λpr s σ H I z=>CY acc h hm pr s σ H I (pY z)
theorem t9{y:Str}{pos':Pos}(acc:∀pr σ e s',XP X pr σ C Ww e s'->X.xe e s')(h:SR X e C xe)(hs:swapsWith e (some (.Name y pos')) pos.line X.env=pure false:=by rfl):QX X (.Assign [.Name y pos'] e pos::rest) (xOf xe) Ww:=jm (FQ acc h hs) λ_ _ z=>pY z
theorem FU{tg:Expr}(acc:∀pr σ e s',XP X pr σ C Ww e s'->X.xe e s')(h:SR X e C xe)(hs:∀x,foldedSetIterable e X.env x=pure x:=by intro _;rfl):QX X (.For tg e body [] pos::rest) (xOf xe) Ww:=jm (FR acc h hs) λ_ _ z=>pY z
theorem IL:QX X rest (λ_=>false) Ww:=λ_ _ _ _ _ ⟨_,_,_,_,e,_⟩=>nomatch e
theorem FV:XH X e (λ_=>false) Ww:=λ_ _ _ _ _ ⟨_,_,_,_,e,_⟩=>nomatch e
theorem ua(n:Nat)(hp:PassesOwn (model X.prog X.w) X.A X.env X.xe)(Yy:XH X ct cx Ww)(hc:QT X.nox ct c)(Yz:QX X body bx Ww)(hb:Sn (md:=.plain) X.nox body g):QX X (.While ct body [] pos::rest) (iI cx c bx g n) Ww:=
 jm (zv hp Yy (PT.nox hc) Yz (PSs.nox hb)) λσ H Mh=>by
  obtain⟨G,env,fp,rel,e,k⟩:=Mh;refine⟨λm σ' H'=>tX X.K (iI cx c bx g m) Ww σ' H',⟨n,G,env,fp,rel,e,k⟩,?_⟩;rintro m σ1 H1 ⟨G1,L0,Mt,L5,e1,k1⟩;cases m with
  |zero=>cases e1
  |succ m=>
   unfold iI at e1;rcases(Z3 _ _).mp e1 with e1|e1
   .exact .inl ⟨G1,L0,Mt,L5,e1,k1⟩
   .match q:c L0,e1 with
    | .ok (true,Ml),e1=>
     dsimp only at e1;refine .inr ⟨G1,L0,Mt,true,Ml,L5,q,λH2 G2 NK Md L6=>⟨rfl,?_⟩⟩;rcases(Z3 _ _).mp e1 with e1|e1
     .exact .inl ⟨G2,Ml,NK,L6,e1,λH' G' L9 st r=>k1 H' G' L9 (Md.trans st) r⟩
     .match q2:g Ml,e1 with
      | .ok (.nx e),e1=>
       refine .inr ⟨λσ' H'=>tX X.K (iI cx c bx g m) Ww σ' H',λσ' H' z=>⟨m,aaw _,z⟩,G2,Ml,NK,L6,?_⟩;rw[q2];exact λσ' H' G' L9 st rel=>⟨G',e,L9,rel,e1,λH' G' L9 Pf r=>k1 H' G' L9 (Md.trans (st.trans Pf)) r⟩
end
end PV
namespace NX
abbrev Ed(X:Cx)(a:WP)(o:Obj):Cx:={X with pn:=(a,o)::X.pn}
variable{X:Cx}
section
variable{pr:List (WP×Obj)}{σ:L2.St}{H:Hp}{s:WF}{a:WP}{o:Obj}
theorem C3(ok:X.Ok)(I:Inv (asX X a o) pr σ H s):Inv (Ed X a o) pr σ H s:=
 ⟨⟨ok.mod,ok.kind,ok.glob,ok.blt,ok.above,ok.inj,ok.has,ok.cab,ok.hd,ok.frames,ok.stk,ok.exf,ok.bs,ok.bsz,ok.noex,ok.exfs,ok.funs,ok.frf⟩,I.os,I.bare,I.base,I.loc,I.cell,I.free,I.freeC,I.pin,I.hok,I.len⟩
theorem jw(ok:X.Ok)(I:Inv (Ed X a o) pr σ H s):Inv X pr σ H s:=⟨ok,I.os,I.bare,I.base,I.loc,I.cell,I.free,I.freeC,λp hp=>I.pin p (ZN _ hp),I.hok,I.len⟩
end
theorem pss_keep{body rest:List Stmt}{x n y:Str}{i j:Nat}{C P:WP}{np SW pos p1 p2 p3:Pos}{tx:TX}{tr:WP->TS}(O:XCl X.mg X.base x P)(up:PySem.W.mroIn X.K C (.ref P)=some true)(hg:Gl X x)(hx:PSX X body C tx)
  (hr:∀a o vs,o.cls=.ref C->o.data=.fields vs->PSs (Ed X a o) rest (tr a)) (hN:X.N.Nodup) (hi:X.N[i]?=some n) (hl:X.env.kindOf n=some .local) (WI:X.env.scope.names.lookup n=some .local) (hj:X.N[j]?=some y) (hy:X.env.scope.names.lookup y=some .local)
  (hd:(n==("__debug__" : Str))=false:=by decide) (Q3:(n==("__classdict__" : Str))=false:=by decide) (UQ:swapsWith (.Name n p2) (some (.Name y p1)) p3.line X.env=pure false:=by rfl)
  (hs:X.stack=X.env::X.outer:=by rfl) (hf:X.env.frame=some X.env.locals:=by rfl) (NJ:(x==("__debug__" : Str))=false:=by decide):
  PSs X (.Try body [.ExceptHandler (some (.Name x np)) (some n) [.Assign [.Name y p1] (.Name n p2) p3] SW] [] [] pos::rest) (λD σ H=>tx σ H λH'=>∀a,tr a D (((σ.set i (some (.ref a))).set j (some (.ref a))).set i none) H'):=by
 intro pr s σ H D I h;refine aat (wpAny_Try_except (aaf (hx pr s σ H _ I h) (λ_ _ z=>z.elim) λe s1 z=>?_));obtain⟨s0,H1,I1,a,tt,B,H',rfl,TB,hgen,un,hok,Rv,Tx,hW⟩:=z;have nt:∀b,H' b≠none->b∉Na X.stack:=λb n z=>by
  obtain⟨_,o,ho,_⟩:=I1.stack.mem z;exact n (un.free b o ho (I1.stkFree b z) λz=>nomatch z)
 have key:∀h6:UF,Heap.FlyingW B X.stack a (.ref C) (.ref tt) h6->s1.heap.UpToSlots h6->Inv X pr σ H' {s1 with heap:=h6}:=λh6 f6 sm=>by
  have sl:∀b u,s1.heap.get? b=some u->b∈Na X.stack->∃z,h6.get? b=some {u with slots:=z}:=λb u q n=>by
   obtain⟨_,o,ho,hd⟩:=Rv.2.2.1.mem n;rw[q]at ho;cases ho;exact sm b u q hd
  refine I1.call' (ch:=[]) TB ⟨λb o q n hb hx=>?_,λb o q n hb hx=>?_,un.free,λb o q hx=>?_,un.tups,un.frzs,un.tbls⟩ (λb o e=>?_) hgen λb z=>nomatch z
  .have:=un.keep b o q n hb hx;exact f6.1 b o (Tx b o this (.inr ⟨o,q⟩) hb)
  .obtain⟨z,e⟩:=un.slot b o q n hb hx;obtain⟨z',e'⟩:=sl b _ e hb;exact⟨z',e'⟩
  .obtain⟨o',e⟩:=un.there b o q hx;by_cases hb:b∈Na X.stack
   .obtain⟨z,e'⟩:=sl b o' e hb;exact⟨_,e'⟩
   .exact⟨o',f6.1 b o' (Tx b o' e (.inr ⟨o,q⟩) hb)⟩
  .refine(hok b o e).stay (λc u hc q=>?_) (λ_ q=>q) λ_ _ q=>q
   have hc:H' c≠none:=by
    rcases hc with rfl|hc
    .rw[e];exact λz=>nomatch z
    .rw[hc];exact λz=>nomatch z
   exact f6.1 c u (Tx c u q (.inl hc) (nt c hc))
 have YB:a∉Na X.stack:=λz=>by
  obtain⟨_,o,ho,hd⟩:=Rv.2.2.1.mem z;obtain⟨_,_,_,oe,vs,T,oT,ts,he,_,hv,_⟩:=Rv;rw[he]at ho;cases ho;exact hd vs hv
 have naH:H' a=none:=by
  cases hq:H' a with
  |none=>rfl
  |some u=>
   exfalso;obtain⟨ob,e⟩:=ook_get (hok a u hq);have:=Tx a ob e (.inl (by rw[hq];exact λz=>nomatch z)) YB;rw[Rv.2.1]at this;cases this
 have naL:a≠X.env.locals:=λz=>YB (by
  unfold Na;rw[hs,abv,hf,z];exact ZI)
 have naF:a∉X.fs:=λz=>YB (by
  have z:a∈X.outer.filterMap (·.frame):=z;unfold Na;rw[hs,abv,hf];exact ZN _ z)
 have fl:Heap.FlyingW B (X.env::X.outer) a (.ref C) (.ref tt) s1.heap:=by rw[<-hs];exact Rv
 refine wpAny_looks_onW (by rw[<-hs];exact I1.ok.frames) hf fl λh4 Q9 XI=>?_
 refine wpAny_landsW Q9 λh5 U7 sm5=>?_
 have WJ:=XI.trans sm5;have I5:=y9 (key h5 (by rw[hs];exact U7) WJ) a;obtain⟨ob,hob,hobc⟩:=U7.there;refine wpAny_handleBy_cons (codeAny_handlers_test (k8 I5 hg (show(handX X a).mg x=some (.ref P) from by obtain⟨_,_,_,_,_,O⟩:=O;exact O.bound) ?_ NJ)) (by intro q;cases q);obtain⟨_,_,_,bm,FB,O⟩:=O;obtain⟨tl,N,nm,q,bs,hdct,sn,sub,ab,col,dd,k0,k1,k2,k3,k5,mN,hC,hNN,Zg,T⟩:=O.obj;refine zc I5.kIn up (I5.bk _ _ hC) hob hobc (T.hasType FB.hasBase) (codeAny_handlers_suite_as ?_);refine lands_againW U7 λh6 WK sm6=>?_
 have I6:=key h6 (by rw[hs];exact WK) (WJ.trans sm6);obtain⟨_,_,_,oe,vs,_,_,_,he,Ql,hv,_⟩:=id WK;have I7:=Fl (a:=a) (o:=oe) I6 he naH naL naF λv z=>by rw[hv]at z;cases z
 have Wo:i<σ.length:=by rw[I.len];exact(Z1.mp hi).1
 refine nL (X:=asX X a oe) (x:=n) (i:=i) (v:=.ref a) I7 hN hi (.inl WI) rfl (λs2 I2=>?_) (.inr WI);have WL:PSs (asX X a oe) [.Assign [.Name y p1] (.Name n p2) p3] _:=kP (vB (X:=asX X a oe) (i:=j) hN hj (.inl hy) (Ar (X:=asX X a oe) hi (.inl WI) hd Q3) UQ (.inr hy)) qV;refine aaf (WL pr s2 _ H' {nx:=λσ' RG=>σ'=(σ.set i (some (.ref a))).set j (some (.ref a))/\RG=H',rt:=λ_ _=>False} I2 ⟨.ref a,abh Wo,rfl,rfl⟩) (λf s3 q=>?_) λ_ _ z=>z.elim
 have go:∀{σ':L2.St}{RG:Hp},Inv (asX X a oe) pr σ' RG s3->∀{Q:Unit->WF->Prop}{A':Uf}{E':Wp->WF->Prop},(∀s4,Inv (Ed X a oe) pr (σ'.set i none) RG s4->Q () s4)->wpAny (model X.prog X.w) A' (do bindName X.env n .none;unbindBehindTheSuite X.env n SW) Q E' s3:=λ{σ' RG} I8 {Q A' E'} kk=>by
  have I9:=C3 I6.ok I8;obtain⟨m,hm,_⟩:=id I9.loc;exact wpAny_nameGoes_keeps hl hm (by rw[I9.ok.kind];rfl) λh' v UE sb=>kk _ (zb (X:=Ed X a oe) I9 hN hi hm UE sb)
 cases f with
 |next=>
  obtain⟨σ',RG,I8,rfl,rfl⟩:=q;refine go I8 λs4 I9=>Mz (hr a oe vs Ql.1 hv pr s4 _ _ D I9 (hW a)) λf s5 q=>?_
  cases f with
  |next=>obtain⟨σ',RG,I,q⟩:=q;exact⟨_,_,jw I6.ok I,q⟩
  |brk=>obtain⟨σ',RG,I,q⟩:=q;exact⟨_,_,jw I6.ok I,q⟩
  |cont=>obtain⟨σ',RG,I,q⟩:=q;exact⟨_,_,jw I6.ok I,q⟩
  |ret u=>obtain⟨v,σ',RG,I,r,q⟩:=q;exact⟨v,_,_,jw I6.ok I,r,q⟩
 |brk=>obtain⟨_,_,_,z⟩:=q;exact z.elim
 |cont=>obtain⟨_,_,_,z⟩:=q;exact z.elim
 |ret u=>obtain⟨_,_,_,_,_,z⟩:=q;exact z.elim
section
variable{e:Expr}{es:List Expr}{x y:Str}{C:WP}{k i:Nat}{sp:Sp}{p pos:Pos}
end
end NX
namespace PV
inductive tBT(i:Nat)(a:WP)(b:Bool)(σ:L2.St)(H:Hp)(Q:Bool->Hp->Prop):Prop
 |mk:σ[i]?=some (some (.ref a))->(∀H',Ext H H'->Q b H')->tBT i a b σ H Q
def BT(X:Cx)(e:Expr)(i:Nat)(a:WP)(b:Bool):Prop:=PT X e (tBT i a b)
def BW(X:Cx)(e:Expr)(i:Nat)(a:WP)(b:Bool):Prop:=PW X e (tBT i a b)
section
variable{X:Cx}{a:WP}{i:Nat}{e d ct:Expr}{es:List Expr}{b c:Bool}{pos:Pos}{rest sb:List Stmt}{t:TS}
theorem jx(h:BE X e i a (.con b))(he:∀whole,isTrue e X.env whole=(do let v <-whole;standAt e.pos;holding [v] (truthy v)):=by intro _;rfl):BT X e i a b:=kc (Aw h he) λσ H Q ⟨hi,k⟩=>⟨[],b,hi,(λj b z=>by cases z),rfl,λH' x=>⟨b,rfl,k H' x⟩⟩
theorem Bh(h:BT X e i a b):BT X (.UnaryOp .Not e pos) i a (!b):=kc (Ay h) λσ H Q ⟨hi,k⟩=>⟨hi,k⟩
theorem ub(h:BT X e i a b):BW X (.BoolOp .Or [e] pos) i a b:=Ax h
theorem pZ(h:BT X e i a false)(h2:BW X (.BoolOp .Or (d::es) pos) i a b):BW X (.BoolOp .Or (e::d::es) pos) i a b:=wA (Ep h h2) λσ H Q ⟨hi,k⟩=>⟨hi,λH1 x1=>iteF ⟨hi,λH2 x2=>k H2 (x1.trans x2)⟩⟩
theorem HB(h:BW X e i a b):BT X e i a b:=h.pt
end
section
variable{X:Cx}
def rp(l:List Nat):List Nat:=(reprText (S l)).cps.toList
def xi(f:FX):FX:=λenv=>(f env).bind λp=>match p.1.2 with
 | .str l=>if(rp l).length<=sizeLine then .ok ((.f,.str (rp l)),p.2) else .bad
 |_=>.bad
theorem rJ{v:Expr}{f:FX}{pos:Pos}(h:QE X v f):QE X (.FormattedValue v 114 none pos) (xi f):=λpr s σ H Q I Mh=>by
 obtain⟨G,env,fp,r,env',rel,e,k⟩:=Mh;obtain⟨⟨r1,L0⟩,e1,e⟩:=aB e;refine wpAny_FormattedValue_repr (Mz (h pr s σ H (λx H1=>∃G1 Mt,Step G H fp G1 H1 Mt/\Rel X.K G1 H1 (some r1::L0) (some x::σ) Mt) I ⟨G,env,fp,r1,L0,rel,e1,λv H1 G1 Mt Mk L5=>⟨G1,Mt,Mk,L5⟩⟩) λu s1 MC=>?_);obtain⟨x,H1,I1,rx,G1,Mt,Mk,L5⟩:=MC;obtain⟨b,L6,Md⟩:=L5.drop;have rt:=L5.top;dsimp only at e;split at e
 .rename_i l hi;split at e
  .rename_i hl;cases e;rw[hi]at rt;obtain⟨ex,hz⟩:=eP rt;subst ex;obtain⟨t,rfl⟩:=rx;have Xy:(reprText (S l)).length<=sizeLine:=by
    rw[<-lh (reprText (S l)),fR];exact hl
   refine wpAny_pyReprObj_str ?_ Xy;exact formatField_str (λt' tk=>⟨.str (S (rp l)),H1,I1.tok _,⟨_,by unfold rp;rw[lh]⟩,k _ H1 G1 b (Mk.trans Md) (L6.push (dI hl))⟩) Xy
  .cases e
 .cases e
end
end PV
namespace NX
def U8(X:Cx)(es:List Expr)(C:WP)(t:TX):Prop:=∀(pos:Pos) (pr:List (WP×Obj)) (s:WF) (σ:L2.St) (H:Hp) (Ww:Hp->Prop),Inv X pr σ H s->t σ H Ww->wpAny (model X.prog X.w) X.A (spliced (backTo pos (starEach es X.env))) (λ_ _=>False) (XP X pr σ C Ww) s
section
variable{X:Cx}{rest body:List Stmt}{tx:TX}{te to:TE}{tb:TS}{ux:L2.St->Hp->Prop}{e o:Expr}{es:List Expr}{x:Str}{C:WP}{pos p apos Mu:Pos}{Ww:Hp->Prop}{T id:String}{name:Str}
theorem zx(h:RW X e C tx)(hs:starEach (e::es) X.env=(false,eval e X.env)::starEach es X.env:=by rfl):U8 X (e::es) C tx:=by
 intro pos pr s σ H Ww I z;rw[hs];show wpAny _ _ (spliced ((false,eval e X.env)::backTo pos (starEach es X.env))) _ _ s;exact ab8 (aaf (h pr s σ H Ww I z) (λ_ _ z=>z.elim) λ_ _ z=>z)
theorem zy(ha:PE X.nox e te)(h:U8 X es C tx)(hs:starEach (e::es) X.env=(false,eval e X.env)::starEach es X.env:=by rfl):U8 X (e::es) C (λσ H Ww=>te σ H λ_ H1=>tx σ H1 Ww):=by
 intro pos pr s σ H Ww I z;rw[hs];show wpAny _ _ (spliced ((false,eval e X.env)::backTo pos (starEach es X.env))) _ _ s;refine ab8 (aaf (ha pr s σ H _ (I.wish _) z) (λu s1 ⟨v,H1,I1,r1,q1⟩=>?_) λ_ _ z=>z.elim);exact aaf (h pos pr s1 σ H1 Ww I1.unwish q1) (λ_ _ z=>z.elim) λ_ _ z=>z
theorem C4{x1}(h:U8 X es C tx):RW X (.Tuple es x1 pos) C tx:=λpr s σ H Ww I z=>wpAny_Tuple_spliced (aaf (h pos pr s σ H Ww I z) (λ_ _ z=>z.elim) λ_ _ z=>z)
theorem xj(hg:Gl X x)(hm:X.mg x=none)(hv:bootBuiltins x=some (.builtin id))(h:U8 X (e::es) C tx)(hn:x≠"__name__":=by decide)(NJ:(x==("__debug__" : Str))=false:=by decide)
  (he:starEach (e::es) X.env=(false,eval e X.env)::starEach es X.env:=by rfl) (Nu:(backTo pos (starEach es X.env)).any (·.1)=false:=by rfl):RW X (.Call (.Name x p) (e::es) [] pos) C tx:=λpr s σ H Ww I z=>
 aaV (iz I hg hm hv (abM (aaf (h pos pr s σ H Ww I z) (λ_ _ z=>z.elim) λ_ _ z=>z) he Nu) hn NJ)
theorem uU(hg:Gl X x)(hm:X.mg x=none)(hv:bootBuiltins x=some (.type T))(h:U8 X (e::es) C tx)(hn:x≠"__name__":=by decide)(NJ:(x==("__debug__" : Str))=false:=by decide)
  (he:starEach (e::es) X.env=(false,eval e X.env)::starEach es X.env:=by rfl) (Nu:(backTo pos (starEach es X.env)).any (·.1)=false:=by rfl):RW X (.Call (.Name x p) (e::es) [] pos) C tx:=λpr s σ H Ww I z=>
 aaV (iz I hg hm hv (abb (aaf (h pos pr s σ H Ww I z) (λ_ _ z=>z.elim) λ_ _ z=>z) he Nu) hn NJ)
end
end NX
namespace PV
def VQ(X:Cx)(es:List Expr)(C:WP)(x:FXE):Prop:=U8 X es C (tQX X.K x)
def rK(f:FX)(x:FXE):FXE:=λenv=>match f env with
 | .ok (_,e)=>x e
 |_=>none
section
variable{X:Cx}{rest body:List Stmt}{xe:FXE}{x bx:FB}{f:FX}{g:FS}{a:FG}{fi:FI}{e o tg iter:Expr}{es:List Expr}{y:Str}{C:WP}{pos p apos Mu:Pos}{Ww:Hp->Prop}{T id:String}
theorem jy(h:SR X e C xe)(hs:starEach (e::es) X.env=(false,eval e X.env)::starEach es X.env:=by rfl):VQ X (e::es) C xe:=zx h hs
theorem oI(ha:QE X.nox e f)(h:VQ X es C xe)(hs:starEach (e::es) X.env=(false,eval e X.env)::starEach es X.env:=by rfl):VQ X (e::es) C (rK f xe):=λpos pr s σ H Ww I ⟨G,env,fp,env',rel,ee,kk⟩=>zy ha h hs pos pr s σ H Ww I (by
 unfold rK at ee;match q:f env,ee with
 | .ok (r,e1),ee=>
  refine⟨G,env,fp,r,e1,rel,q,λv H1 G1 Mt Mk L5=>?_⟩;obtain⟨b,L6,Md⟩:=L5.drop;exact⟨G1,e1,b,env',L6,ee,λH' G' L9 st r=>kk H' G' L9 (Mk.trans (Md.trans st)) r⟩)
theorem rL{x1}(h:VQ X es C xe):SR X (.Tuple es x1 pos) C xe:=C4 h
theorem xk(hg:Gl X y)(hm:X.mg y=none)(hv:bootBuiltins y=some (.builtin id))(h:VQ X (e::es) C xe)(hn:y≠"__name__":=by decide)(NJ:(y==("__debug__" : Str))=false:=by decide)
  (he:starEach (e::es) X.env=(false,eval e X.env)::starEach es X.env:=by rfl) (Nu:(backTo pos (starEach es X.env)).any (·.1)=false:=by rfl):SR X (.Call (.Name y p) (e::es) [] pos) C xe:=xj hg hm hv h hn NJ he Nu
theorem uV(hg:Gl X y)(hm:X.mg y=none)(hv:bootBuiltins y=some (.type T))(h:VQ X (e::es) C xe)(hn:y≠"__name__":=by decide)(NJ:(y==("__debug__" : Str))=false:=by decide)
  (he:starEach (e::es) X.env=(false,eval e X.env)::starEach es X.env:=by rfl) (Nu:(backTo pos (starEach es X.env)).any (·.1)=false:=by rfl):SR X (.Call (.Name y p) (e::es) [] pos) C xe:=uU hg hm hv h hn NJ he Nu
end
end PV
namespace NX
variable{M:Model}{A:Uf}{E:Wp->WF->Prop}{env:Env}{s:WF}{scope:Scope}
section
def IM(M:Model)(A:Uf)(E:Wp->WF->Prop)(cenv:Env)(r:Result)(s':WF):Prop:=match r with
 | .ok _=>False
 | .error x=>∃m,s'.heap.Ns cenv.locals m/\∀h',Heap.SameBut cenv.locals s'.heap h'->wpAny M A (passOn "comprehension.variables-let-go" x cenv:Sem Wp) (λ_ _=>False) E {s' with heap:=h'}
theorem same{B:Type}{t:Sem B}{Q Q':B->WF->Prop}(h:wpAny M A t Q E s)(k:∀b s,Q b s->Q' b s):wpAny M A t Q' E s:=aaf h k λ_ _ z=>z
theorem xl{e:Expr}{pos:Pos}{SX first:Sem Wp}{g:Comprehension}{gs:List Comprehension}{cl:List (Str×WP)}{use:Option (Wp->Sem Unit)}
  (Ql:clausesOf e=g::gs) (hs:∀x,foldedSetIterable g.iter env x=pure x) (PD:closureFor scope env=pure cl) (PB:scope.kind=.function) (Nf:∀x∈scope.names,x.2=.local->scope.names.lookup x.1=some .local)
  (h:wpAny M A first (λx s₁=>wpAny M A (pyIter x) (λit s₂=>wpAny M A SX (λacc s₃=>wpAny M A (newFunctionEnv scope env.globals cl [] env.qual none .none (some env)) (λcenv s₄=>
   codeAny M A (.compStart e 0 it acc {cenv with scope:=relabel scope env}) (IM M A E {cenv with scope:=relabel scope env}) s₄) E s₃) E s₂) E s₁) E s):
  wpAny M A (comprehension e scope env pos SX false first use) (λ_ _=>False) E s:=by
 unfold comprehension;rw[PD,Ql];refine ZH (same h λx s₁ h₁=>ZH (ab9 (ZH (ad4 (hs x) (ZH (aa1 (same h₁ λit s₂ h₂=>?_)))))));refine wpAny_standIf (ZH (same h₂ λacc s₃ h₃=>ZH (ZM (ZH (same h₃ λcenv s₄ h₄=>?_)))));dsimp only;refine aa1 (ZH (acb (aa1 (wpAny_run (acW h₄ λr s' hr=>?_)))));cases r with
 |ok f=>exact False.elim hr
 |error x=>
  obtain⟨m,hn,hr⟩:=hr;refine ZH (aa1 (wpAny_comp_letGo (cenv:={cenv with scope:=relabel scope env}) PB _ s' m (λy hy hl=>?_) hn λh' m' _ Wd=>hr h' Wd));exact lookup_relabel_local (Nf y (adC.mp (List.mem_reverse.mp hy)).1 hl)
end
variable{w:World}{elt iter:Expr}{pos:Pos}
theorem comp_loopX{prog:W1}{R:Result->WF->Prop}{target:Expr}{ifs:List Expr}{it acc:Wp}(I:Nat->WF->Prop)
  (turn:∀n s,I n s->wpAny (model prog w) A (pyNext it) (λr s₁=>match r with
   |none=>False
   |some v=>wpAny (model prog w) A (letOwnedTupleGo target it v) (λ_ s₂=>wpAny (model prog w) A (assign target env v) (λ_ s₃=>
     wpAny (model prog w) A (forIn ifs true λc r=>if r=true then do let ok <-isTrue c env (eval c env);pure (ForInStep.yield ok) else pure (ForInStep.yield r)) (λok s₄=>
      if ok=true then wpAny (model prog w) A (eval elt env) (λx s₅=>
       wpAny (model prog w) A (call (.builtin "list.append") [acc,x]) (λ_ s₆=>∃m,m<n/\I m s₆) RA s₅) (notedBy (model prog w) A env λe s'=>R (.error e) s') s₄
      else ∃m,m<n/\I m s₄) RA s₃) RA s₂) RA s₁) RA s)
  (n:Nat) (h:I n s):codeAny (model prog w) A (.compLoop (.ListComp elt [⟨target,iter,ifs,0⟩] scope pos) 0 it acc env) R s:=by
 refine codeAny_loop rfl I (λn s hI=>?_) n h;show wpAny _ A ((compTurn (.ListComp elt [⟨target,iter,ifs,0⟩] scope pos) 0 it acc env).onRaise (λx=>do noteFrame x env;theTreesLotGoes x)) _ _ s;refine wpAny_noted ?_;rw[compTurn_list];refine ZH (ab9 (ZH (SF (turn n s hI) λr s₁ h₁=>?_)));cases r with
 |none=>exact False.elim h₁
 |some v=>
  refine ZH (SF h₁ λ_ s₂ h₂=>ZH (SF h₂ λ_ s₃ h₃=>ZH (SF h₃ λok s₄ h₄=>?_)));cases ok with
  |false=>exact ZM ⟨rfl,h₄⟩
  |true=>exact ZH (ZH (aaf h₄ (λx s₅ h₅=>ZH (SF h₅ λ_ s₆ h₆=>ZM (ZM ⟨rfl,h₆⟩))) λ_ _ z=>z))
variable{e:Wp}{α:Type}{base:UF}{L:WP}
section
theorem xm{env':Env}(h:env.frame=env'.frame):noteFrame e env=noteFrame e env':=by
 unfold noteFrame PySem.frameOf;rw[h]
theorem xn{TN:String}{env':Env}(h:env.frame=env'.frame):(passOn TN e env:Sem α)=passOn TN e env':=by
 unfold PySem.passOn;rw[h]
theorem rM{outer:List Env}{e:WP}{cls a0:Wp}{Q:Unit->WF->Prop}(hf:env.frame=some L)(hh:Heap.HeldW base (env::outer) e cls a0 L s.heap)
  (hQ:∀h',Heap.FlyingW base outer e cls a0 h'->s.heap.UpToSlots h'->Q () {s with heap:=h'}):wpAny M A (leaving env (.ref e)) Q E s:=by
 unfold leaving;refine ZH (wpAny_noteFrame_againW hf hh.2.2.2 ?_);exact wpAny_landsW hh λh' fl up=>hQ h' ⟨fl.1,fl.2.1,fl.2.2.1.2.2,fl.2.2.2⟩ up
theorem xo{l:List Env}{e:WP}{cls a0:Wp}{TN:String}{Q:α->WF->Prop}(hf:env.frame=some L)(hh:Heap.HeldW base l e cls a0 L s.heap)
  (hE:∀h',Heap.HeldW base l e cls a0 L h'->(∀b o,s.heap.get? b=some o->(∀vs,o.data≠.fields vs)->h'.get? b=some o)->E (.ref e) {s with heap:=h'}):wpAny M A (passOn TN (.ref e) env:Sem α) Q E s:=by
 obtain⟨hkb,XJ,hl,oe,vs,T,oT,ts,he,Rx,hd,h1,VR,XM,hT,VS,h3⟩:=hh;have WM:3<ts.size:=(acU.mp h3).1;have other:∀b,b≠T->(s.heap.update T (Obj.mapFields (·.setIfInBounds 3 ((some L).elim Value.none λf=>rawInt f)))).get? b=s.heap.get? b:=λb hb=>aaz _ _ (abp hb)
 have Zp:∀b o,s.heap.get? b=some o->(∀vs,o.data≠.fields vs)->b≠T:=λb o hb U9 q=>by
  rw[q,hT]at hb;injection hb with hb;subst hb;exact U9 ts VS
 unfold PySem.passOn;refine ZH (aaT he hd h1 ?_);rw[Z6 (by simp)];refine ZH ?_;unfold setFlight;rw[hf];refine ZH (aaT he hd h1 ?_);rw[ZY (show(Value.ref T != Value.none)=true from by simp)];refine acn hT VS WM (wpAny_throw (hE _ ⟨λb o YC=>(other b λq=>by rw[q,VR]at YC;cases YC).trans (hkb b o YC),XJ,hl.of_keeps λb o hb U9=>⟨o,(other b (Zp b o hb U9)).trans hb,rfl⟩,?_⟩ λb o hb U9=>(other b (Zp b o hb U9)).trans hb));exact⟨oe,vs,T,_,_,(other e (abp XM)).trans he,Rx,hd,h1,VR,XM,abE _ hT (acr (abF VS _)),abF VS _,by simp[WM]⟩
end
def XPF(X:Cx)(C:WP)(Ww:Hp->Prop)(e:Wp)(s':WF):Prop:=∃(a t:WP) (B:UF) (H':Hp) (L:WP),X.env.frame=some L/\e=.ref a/\s'.os=X.s₀.os/\AllBare s'.gens/\Un X.fs X.ex X.H₀ H' X.s₀.heap s'.heap/\HOk X.prog X.w H' s'.heap/\
 Heap.HeldW B X.stack a (.ref C) (.ref t) L s'.heap/\(∀b u,s'.heap.get? b=some u->(H' b≠none\/∃o,X.s₀.heap.get? b=some o/\b∉X.ex)->b∉Na X.stack->B.get? b=some u)/\(∀b,H' b≠none->b∉Na X.stack)/\Ww H'
def K7(X:Cx)(e:Expr)(C:WP)(t:TX):Prop:=∀(pr:List (WP×Obj)) (s:WF) (σ:L2.St) (H:Hp) (Ww:Hp->Prop),Inv X pr σ H s->t σ H Ww->wpAny (model X.prog X.w) X.A (eval e X.env) (λ_ _=>False) (XPF X C Ww) s
variable{N:List Str}{C:WP}{H:Hp}
theorem FW{P:W1}{K:W.Frag}{mg:Str->Option Wp}{qual:Str}{f:WP}{cd:Wp}{outer:List PySem.Env}{E:XK}
  (e:Wp) (s':WF) (h:XPF (qP (Ts P w base C) P w K mg base N qual scope f cd A outer s H E) C (λH'=>E (.ref C) none H') e s'):(qP (Ts P w base C) P w K mg base N qual scope f cd A outer s H E).xe e s':=by
 obtain⟨a,t,B,H',L,hL,rfl,os,bare,U,hok,held,hB,nt,hW⟩:=h;have U:Un (Na outer) [] H H' s.heap s'.heap:=U;have held:Heap.HeldW B (envOfC qual scope s.heap.objs.size f cd::outer) a (.ref C) (.ref t) L s'.heap:=held;have hB:∀b u,s'.heap.get? b=some u->(H' b≠none\/∃o,s.heap.get? b=some o)->b∉Na (envOfC qual scope s.heap.objs.size f cd::outer)->B.get? b=some u:=λb u q hh n=>hB b u q (hh.imp id λ⟨o,e⟩=>⟨o,e,λz=>nomatch z⟩) n
 have nt:∀b,H' b≠none->b∉Na (envOfC qual scope s.heap.objs.size f cd::outer):=nt;have up:∀b,b∈Na outer->b∈Na (envOfC qual scope s.heap.objs.size f cd::outer):=λb hb=>by
  obtain⟨en,he,hf⟩:=abm.mp hb;exact abm.mpr ⟨en,ZN _ he,hf⟩
 have nl:∀b o,s.heap.get? b=some o->b∉Na outer->b∉Na (envOfC qual scope s.heap.objs.size f cd::outer):=λb o e n z=>by
  have z:b∈s.heap.objs.size::Na outer:=z;rcases ZJ.mp z with r|r
  .exact absurd (ZQ e) (by rw[r];exact aba _)
  .exact n r
 refine rM hL held λh2 SU sm=>?_
 have k:∀b u,s'.heap.get? b=some u->(H' b≠none\/∃o,s.heap.get? b=some o)->b∉Na (envOfC qual scope s.heap.objs.size f cd::outer)->h2.get? b=some u:=λb u q hh n=>SU.1 b u (hB b u q hh n)
 have sl:∀b u,s'.heap.get? b=some u->b∈Na outer->∃z,h2.get? b=some {u with slots:=z}:=λb u q n=>by
  obtain⟨_,o,ho,hd⟩:=held.2.2.1.mem (up b n);rw[q]at ho;cases ho;exact sm b u q hd
 refine⟨a,t,B,H',rfl,os,bare,⟨λb o q n hb hx=>?_,λb o q n hb hx=>?_,U.free,λb o q hx=>?_,U.tups,U.frzs,U.tbls⟩,λb o e=>?_,SU,λb u q hb n=>?_,hW⟩
 .exact k b o (U.keep b o q n hb hx) (.inr ⟨o,q⟩) (nl b o q hb)
 .obtain⟨z,e1⟩:=U.slot b o q n hb hx;obtain⟨z3,e3⟩:=sl b _ e1 hb;exact⟨z3,e3⟩
 .obtain⟨o2,e2⟩:=U.there b o q hx;by_cases hb:b∈Na outer
  .obtain⟨z,e3⟩:=sl b o2 e2 hb;exact⟨_,e3⟩
  .exact⟨o2,k b o2 e2 (.inr ⟨o,q⟩) (nl b o q hb)⟩
 .refine(hok b o e).stay (λc u hc q=>?_) (λ_ q=>q) λ_ _ q=>q
  have hn:H' c≠none:=by
   rcases hc with rfl|hc
   .rw[e];exact λz=>nomatch z
   .rw[hc];exact λz=>nomatch z
  exact k c u q (.inl hn) (nt c hn)
 .have h1:∃u0,s'.heap.get? b=some u0/\(H' b≠none\/∃o,s.heap.get? b=some o)/\b∉Na (envOfC qual scope s.heap.objs.size f cd::outer):=by
   rcases hb with hb|⟨o,ho⟩
   .cases hq:H' b with
    |none=>exact absurd hq hb
    |some ho=>
     obtain⟨u0,e0⟩:=ook_get (hok b ho hq);exact⟨u0,e0,.inl (λz=>nomatch z),nt b hb⟩
   .obtain⟨o2,e2⟩:=U.there b o ho (λz=>nomatch z);exact⟨o2,e2,.inr ⟨o,ho⟩,nl b o ho n⟩
  obtain⟨u0,e0,hh,n0⟩:=h1;have:=k b u0 e0 hh n0;rw[show h2.get? b=some u from q]at this;cases this;exact hB b _ e0 hh n0
variable{X:Cx}{wi:TI}{g:TG}{te:TE}{Cl:WP}{pr:List (WP×Obj)}{σ:L2.St}{Ww:Hp->Prop}
section
variable{tg:Expr}{tx:TX}
theorem zH{RT:List (WP×Obj)}{σ6:L2.St}{H2:Hp}{s2 s9:WF}{fp:List WP}(I2:Inv X pr σ H2 s2)(f2:∀b∈fp,qW X pr H2 b)(hC:s2.heap.objs.size<=C)
  (hs:X.stack=X.env::X.outer) (hf:X.env.frame=some L) (xp:XP (bI X scope N C s2 H2 fp (X.pn++pr)) RT σ6 Cl Ww e s9):
  notedBy (model X.prog X.w) X.A (compEnvC scope (clOf scope X.env) C X.env) (λe s'=>IM (model X.prog X.w) X.A (XPF X Cl Ww) (compEnvC scope (clOf scope X.env) C X.env) (.error e) s') e s9:=by
 obtain⟨s8,H8,I8,a,t,B,H',rfl,os,bare,U,hok,Rv,Tx,hW⟩:=xp;have So:Un (Na X.stack) fp H2 H8 s2.heap s8.heap:=I8.base;have YD:H8 C=none:=I8.free;have os8:s8.os=s2.os:=I8.os;have U:Un (Na X.stack) [] H8 H' s8.heap s9.heap:=U;have Rv:Heap.FlyingW B X.stack a (.ref Cl) (.ref t) s9.heap:=Rv;have Tx:∀b u,s9.heap.get? b=some u->(H' b≠none\/∃o,s8.heap.get? b=some o)->b∉Na X.stack->B.get? b=some u:=Tx;have hok:HOk X.prog X.w H' s9.heap:=hok;obtain⟨m,Tp,_⟩:=I8.loc;have Tp:s8.heap.Ns C m:=Tp;obtain⟨oC,es,ep,XN,hdC,hrC⟩:=id Tp;have stk:∀b,b∈Na X.stack->∃o,s2.heap.get? b=some o:=λb z=>by
  obtain⟨_,o,ho,_⟩:=I2.stack.mem z;exact⟨o,ho⟩
 have nC:C∉Na X.stack:=λz=>by
  obtain⟨o,ho⟩:=stk C z;exact absurd (ZQ ho) (Nat.not_lt.mpr hC)
 have Zq:s9.heap.get? C=some oC:=U.keep C oC XN YD nC (λz=>nomatch z);have nt:∀b,H' b≠none->b∉Na X.stack:=λb n z=>by
  obtain⟨o,ho⟩:=stk b z;have f1:=I2.stkFree b z;have Uy:b∉fp:=λhb=>by
   have:=(f2 b hb).2.2.1;have h2:=(f2 b hb).2.1;exact(ZJ.mp (I2.stkSub b z)).elim h2 this
  obtain⟨o1,e1⟩:=So.there b o ho Uy;exact n (U.free b o1 e1 (So.free b o ho f1 Uy) (λz=>nomatch z))
 unfold notedBy;rw[xm (env:=compEnvC scope (clOf scope X.env) C X.env) (env':=X.env) rfl];have fl:Heap.FlyingW B (X.env::X.outer) a (.ref Cl) (.ref t) s9.heap:=by rw[<-hs];exact Rv
 refine wpAny_looks_onW (by rw[<-hs];exact I2.ok.frames) hf fl λh4 Q9 XI=>?_
 have Q9:Heap.HeldW B X.stack a (.ref Cl) (.ref t) L h4:=by rw[hs];exact Q9
 refine⟨m,XI.ns ⟨oC,es,ep,Zq,hdC,hrC⟩,λh5 sb=>?_⟩;rw[xn (env:=compEnvC scope (clOf scope X.env) C X.env) (env':=X.env) rfl];have Zr:∀b o,(PySem.W.hideAll B [C]).get? b=some o->B.get? b=some o/\b≠C:=λb o q=>⟨acV _ q,λz=>by
  rw[z,PySem.W.hideAll_none [C] ZI]at q;cases q⟩
 have YE:∀b,B.get? b=none->(PySem.W.hideAll B [C]).get? b=none:=λb q=>by
  cases z:(PySem.W.hideAll B [C]).get? b with
  |none=>rfl
  |some o=>
   have:=(Zr b o z).1;rw[q]at this;cases this
 have YF:B.get? C=some oC:=Tx C oC Zq (.inr ⟨oC,XN⟩) nC;have ne5:∀b,b≠C->h5.get? b=h4.get? b:=λb hb=>sb.2 b hb
 have ff:∀{l:List Env},h4.FunFrames B l->h5.FunFrames (PySem.W.hideAll B [C]) l:=λ{l}=>by
  induction l with
  |nil=>exact λ_=>trivial
  |cons en l ih=>
   rintro⟨hk,⟨L',o,hf',UE,Qx,Rw⟩,hr⟩;exact⟨hk,⟨L',o,hf',YE _ UE,(ne5 L' λz=>by rw[z,YF]at UE;cases UE).trans Qx,Rw⟩,ih hr⟩
 have WN:Heap.HeldW (PySem.W.hideAll B [C]) X.stack a (.ref Cl) (.ref t) L h5:=by
  obtain⟨k1,k2,k3,oe,vs,T,oT,ts,he,Rx,hd,h1,VR,XM,hT,VS,h3⟩:=Q9;have aC:a≠C:=λz=>by rw[z,YF]at k2;cases k2
  have TC:T≠C:=λz=>by rw[z,YF]at VR;cases VR
  refine⟨λb o q=>?_,YE _ k2,ff k3,oe,vs,T,oT,ts,(ne5 a aC).trans he,Rx,hd,h1,YE _ VR,XM,(ne5 T TC).trans hT,VS,h3⟩;obtain⟨q1,q2⟩:=Zr b o q;exact(ne5 b q2).trans (k1 b o q1)
 refine xo (s:={s9 with heap:=h5}) hf WN λh6 Uz k6=>?_
 have RZ:∀b u,s9.heap.get? b=some u->(H' b≠none\/∃o,s8.heap.get? b=some o)->b∉Na X.stack->b≠C->h6.get? b=some u:=λb u q hh n hb=>Uz.1 b u (abN [C] (Tx b u q hh n) (by
  intro z;exact hb (aan.mp z)))
 have Zs:∀b u,s9.heap.get? b=some u->b∈Na X.stack->∃z,h6.get? b=some {u with slots:=z}:=λb u q n=>by
  obtain⟨_,o,ho,hd⟩:=Rv.2.2.1.mem n;rw[q]at ho;cases ho;obtain⟨z,e4⟩:=XI b u q hd;exact⟨z,k6 b _ ((ne5 b λzz=>nC (zz▸n)).trans e4) hd⟩
 have Rt:∀b o,X.s₀.heap.get? b=some o->b≠C:=λb o e z=>by
  have:=ZQ e;have h2:=I2.sz;rw[z]at this;lia
 have Uy:∀b o,X.s₀.heap.get? b=some o->b∉X.ex->b∉fp:=λb o e hx hb=>by
  rcases(f2 b hb).2.2.2.1 with z|z
  .exact hx z
  .exact absurd (ZQ e) (Nat.not_lt.mpr z)
 have Va:∀b,b∈X.fs->b∈Na X.stack:=λb hb=>by
  have hb:b∈X.outer.filterMap (·.frame):=hb;unfold Na;rw[hs,abv,hf];exact ZN _ hb
 have nst:∀b o,X.s₀.heap.get? b=some o->b∉X.fs->b∉Na X.stack:=λb o e n z=>(ZJ.mp (I2.stkSub b z)).elim (λr=>by
  have:=ZQ e;have h2:=I2.ok.above;rw[r]at this;lia) n
 refine⟨a,t,_,H',L,hf,rfl,os.trans (os8.trans I2.os),bare,⟨λb o q n hb hx=>?_,λb o q n hb hx=>?_,λb o q n hx=>?_,λb o q hx=>?_,λc xs q=>U.tups c xs (So.tups c xs (I2.base.tups c xs q)),λc ob xs q=>U.frzs c ob xs (So.frzs c ob xs (I2.base.frzs c ob xs q)),λc ps q=>?_⟩,λb o e=>?_,Uz,λb u q hb n=>?_,nt,hW⟩
 .have e2:=I2.base.keep b o q n hb hx;have n2:=I2.base.free b o q n hx;have nf:=Uy b o q hx;have ns:=nst b o q hb;have e8:=So.keep b o e2 n2 ns nf;have e9:=U.keep b o e8 (So.free b o e2 n2 nf) ns (λz=>nomatch z);exact RZ b o e9 (.inr ⟨o,e8⟩) ns (Rt b o q)
 .obtain⟨z2,e2⟩:=I2.base.slot b o q n hb hx;have n2:=I2.base.free b o q n hx;have nf:=Uy b o q hx;obtain⟨z8,e8⟩:=So.slot b _ e2 n2 (Va b hb) nf;obtain⟨z9,e9⟩:=U.slot b _ e8 (So.free b _ e2 n2 nf) (Va b hb) (λz=>nomatch z);obtain⟨z6,e6⟩:=Zs b _ e9 (Va b hb);exact⟨z6,e6⟩
 .obtain⟨o2,e2⟩:=I2.base.there b o q hx;have n2:=I2.base.free b o q n hx;have nf:=Uy b o q hx;obtain⟨o8,e8⟩:=So.there b o2 e2 nf;exact U.free b o8 e8 (So.free b o2 e2 n2 nf) (λz=>nomatch z)
 .obtain⟨o2,e2⟩:=I2.base.there b o q hx;have nf:=Uy b o q hx;obtain⟨o8,e8⟩:=So.there b o2 e2 nf;obtain⟨o9,e9⟩:=U.there b o8 e8 (λz=>nomatch z);by_cases hb:b∈Na X.stack
  .obtain⟨z,e6⟩:=Zs b o9 e9 hb;exact⟨_,e6⟩
  .exact⟨o9,RZ b o9 e9 (.inr ⟨o8,e8⟩) hb (Rt b o q)⟩
 .obtain⟨m0,e0⟩:=I2.base.tbls c ps q;obtain⟨m1,e1⟩:=So.tbls c _ e0;obtain⟨m2,e2⟩:=U.tbls c _ e1;exact⟨m0++m1++m2,by rw[e2,abR,abR,abR]⟩
 .refine(hok b o e).stay (λc u hc q=>?_) (λ_ q=>q) λ_ _ q=>q
  have hn:H' c≠none:=by
   rcases hc with rfl|hc
   .rw[e];exact λz=>nomatch z
   .rw[hc];exact λz=>nomatch z
  exact RZ c u q (.inl hn) (nt c hn) λz=>hn (by rw[z];exact U.free C oC XN YD (λz=>nomatch z))
 .have Zt:b≠C:=by
   rcases hb with hb|⟨o,ho,_⟩
   .exact λz=>hb (by rw[z];exact U.free C oC XN YD (λz=>nomatch z))
   .exact Rt b o ho
  have h1:∃u0,s9.heap.get? b=some u0/\(H' b≠none\/∃o,s8.heap.get? b=some o):=by
   rcases hb with hb|⟨o,ho,hx⟩
   .cases hq:H' b with
    |none=>exact absurd hq hb
    |some ho=>
     obtain⟨u0,e0⟩:=ook_get (hok b ho hq);exact⟨u0,e0,.inl (λz=>nomatch z)⟩
   .obtain⟨o2,e2⟩:=I2.base.there b o ho hx;obtain⟨o8,e8⟩:=So.there b o2 e2 (Uy b o ho hx);obtain⟨o9,e9⟩:=U.there b o8 e8 (λz=>nomatch z);exact⟨o9,e9,.inr ⟨o8,e8⟩⟩
  obtain⟨u0,e0,hh⟩:=h1;have:=RZ b u0 e0 hh n Zt;rw[show h6.get? b=some u from q]at this;cases this;exact abN [C] (Tx b _ e0 hh n) (λz=>Zt (aan.mp z))
end
section
variable{tg:Expr}{tx:TX}
def xq(wi:TI)(ix:List (Option Nat))(g:TG)(te:TE)(tx:TX):TX:=λσ H Ww=>wi σ H λJ H1=>∀D,H1 D=none->∃W:Nat->Nat->L2.St->Hp->Prop,(∃m,W 0 m (j9 ix σ) (upd H1 D (.lst [])))/\
 ∀i m σ1 H2,W i m σ1 H2->J.go i H2/\∀x H3,J.yld i H2 x H3->g x σ1 H3 λσ2 H4=>tx σ2 H4 Ww\/te σ2 H4 λv H6=>
  ∃ys,H6 D=some (.lst ys)/\ys.length<sizeLine/\∃m',m'<m/\W (i+1) m' σ2 (upd H6 D (.lst (ys++[v])))
theorem xr{use:Option (Wp->Sem Unit)}{Mu:Pos}(ix:List (Option Nat))(N:List Str)(hc:X.calm=true)(hi:PI X.nox tg iter wi)(hg:∀C s H fp pn,PG (bI X scope N C s H fp pn) tg g)(he:∀C s H fp pn,PE (bI X scope N C s H fp pn) elt te)(hx:∀C s H fp pn,RW (bI X scope N C s H fp pn) elt Cl tx)
  (SY:X.stack=X.env::X.outer) (Tq:X.env.frame=some X.env.locals) (hf:gQ scope X.env=true) (hk:scope.kind=.function) (M9:∀y∈scope.names,y.2≠.cell) (Nf:∀y∈scope.names,y.2=.local->scope.names.lookup y.1=some .local) (OD:vW X scope N ix=true)
  (hs:∀x,foldedSetIterable iter X.env x=pure x) (I:Inv X pr σ H s) (h:xq wi ix g te tx σ H Ww):
  wpAny (model X.prog X.w) X.A (comprehension (.ListComp elt [⟨tg,iter,[],0⟩] scope pos) scope X.env Mu (newList []) false (eval iter X.env) use) (λ_ _=>False) (XPF X Cl Ww) s:=by
 have PD:closureFor scope X.env=pure (clOf scope X.env):=by
  unfold closureFor clOf;have:=fW X.env scope.names [] (kS I.ok hf);simpa using this
 refine xl rfl hs PD hk Nf (aaf (hi pr s σ H _ (I.wish _) h) (λv s1 h1=>aaf h1 (λVZ s2 h2=>?_) λ_ _ z=>z.elim) λ_ _ z=>z.elim);obtain⟨it,fp,tn,J,H2,e,I2,T,Md,f2,q⟩:=h2;subst e;have I2:Inv X pr σ H2 s2:=I2.unwish;have f2:∀b∈fp,qW X pr H2 b:=f2;have T:Turn X.prog X.w X.K tg J fp it tn:=T;refine aaI (wpAny_newFunctionEnv M9 (by intro y hy;simp at hy) (λh₁ hns₁ hsb₁=>?_) hk);dsimp only at hns₁ hsb₁ |-;generalize hH2:s2.heap.push {cls:=.type "list",dict:=none,data:=.seq ([]:List Wp).toArray}=HH at hns₁ hsb₁ |-;have hC:HH.objs.size=s2.heap.objs.size+1:=by rw[<-hH2,abK]
 have X8:s2.heap.objs.size≠HH.objs.size:=by rw[hC];exact aac (aaw _)
 have SG:s2.heap.objs.size<=HH.objs.size:=by rw[hC];exact abU _
 have Rt:∀b o,s2.heap.get? b=some o->b≠HH.objs.size:=λb o e=>aac (ZV (ZQ e) SG)
 have old:∀b o,s2.heap.get? b=some o->h₁.get? b=some o:=λb o e=>hsb₁.extBut b o (Rt b o e) (ZL _ (hH2▸ZL _ e))
 have Qz:h₁.get? s2.heap.objs.size=some {cls:=.type "list",data:=.seq #[] 0}:=hsb₁.extBut _ _ X8 (ZL _ (hH2▸Z0 _ rfl));obtain⟨W,⟨m0,w0⟩,turn⟩:=q s2.heap.objs.size (I2.hok.fresh (ZO _));have fin:∀b∈fp,∃o,s2.heap.get? b=some o:=λb hb=>let⟨o,e,_⟩:=T.obj 0 _ Md b hb;⟨o,e⟩
 have Qj:∀{H':Hp},(∀b∈fp,H' b=none)->∀b∈fp,qW (bI X scope N HH.objs.size s2 H2 fp (X.pn++pr)) [] H' b:=λ{H'} hn b hb=>by
  obtain⟨f0,f1,ff,f3,f4,f5⟩:=f2 b hb;refine⟨hn b hb,?_,λz=>?_,.inl hb,λx c e=>f4 x c (ka I2.ok hf e),λp hp=>?_⟩
  .intro z;have z:b=HH.objs.size:=z;obtain⟨o,ho⟩:=fin b hb;exact Rt b o ho z
  .exact(ZJ.mp (I2.stkSub b z)).elim f1 ff
  .have hp:p∈X.pn++pr:=by
    have:p∈(X.pn++pr)++[]:=hp
    rwa [aak]at this
   exact f5 p hp
 have loop:∀s₃:WF,s₃={s2 with heap:=h₁,toks:=s2.toks+([]:List (Str×Wp)).length}->
   codeAny (model X.prog X.w) X.A (.compLoop (.ListComp elt [⟨tg,iter,[],0⟩] scope pos) 0 (.ref it) (.ref s2.heap.objs.size) (compEnvC scope (clOf scope X.env) HH.objs.size X.env)) (IM (model X.prog X.w) X.A (XPF X Cl Ww) (compEnvC scope (clOf scope X.env) HH.objs.size X.env)) s₃:=by
  rintro s₃ rfl;refine comp_loopX (λn s'=>∃i σ' H',Inv (bI X scope N HH.objs.size s2 H2 fp (X.pn++pr)) [] σ' H' s'/\tn i s'.heap/\(∀b∈fp,H' b=none)/\W i n σ' H') ?_ m0
   ⟨0,_,_,I2.block hf hk M9 OD f2 fin rfl hC old Qz hns₁,T.keep 0 _ _ Md λb _ o e=>old b o e,λb hb=>?_,w0⟩
  .rintro n s3 ⟨i,σ3,H3,I3,Nj,UH,w3⟩;obtain⟨go,step⟩:=turn i n σ3 H3 w3;refine Mz (T.item (bI X scope N HH.objs.size s2 H2 fp (X.pn++pr)) rfl rfl rfl hc i [] s3 σ3 H3 RA I3 (Qj UH) Nj go) λr s4 MC=>?_
   obtain⟨u,hr,h4⟩:=MC;subst hr;refine Mz h4 λ_ s5 MC=>?_
   obtain⟨x,H5,I5,r5,y5,OR,V1⟩:=MC;have V2:=I5.pinned (Qj V1) (T.obj _ _ OR);refine Mz (hg _ _ _ _ _ _ s5 σ3 H5 x u _ V2 r5 (step x H5 y5)) λ_ s6 MC=>?_
   obtain⟨σ6,H6,I6,q6⟩:=MC;refine wpAny_tests_nil ?_;rw[ZY rfl];have again:∀{H8:Hp}{s8:WF},Inv (bI X scope N HH.objs.size s2 H2 fp (X.pn++pr)) ([]++mO fp s5.heap) σ6 H8 s8->(∃m',m'<n/\W (i+1) m' σ6 H8)->
     ∃m,m<n/\∃i σ' H',Inv (bI X scope N HH.objs.size s2 H2 fp (X.pn++pr)) [] σ' H' s8/\tn i s8.heap/\(∀b∈fp,H' b=none)/\W i m σ' H':=λ{H8 s8} I8 ⟨m',hm,w8⟩=>by
    refine⟨m',hm,i+1,σ6,H8,I8.unpinned,T.keep _ _ _ OR λb hb o e=>(I8.pin (b,o) (ZK _ (ZK _ (eT hb e)))).1,λb hb=>?_,w8⟩;obtain⟨o,e,d⟩:=T.obj _ _ OR b hb;exact(I8.pin (b,o) (ZK _ (ZK _ (eT hb e)))).2.1
   rcases q6 with q6|q6
   .exact aaf (hx _ _ _ _ _ _ s6 σ6 H6 Ww I6 q6) (λ_ _ z=>z.elim) λe s9 xp=>zH I2 f2 SG SY Tq xp
   .refine aaf (he _ _ _ _ _ _ s6 σ6 H6 _ I6 q6) (λx8 s8 ⟨v8,H8,I8,r8,ys,Wc,NI,q8⟩=>?_) λ_ _ z=>z.elim
    refine Mz (gW _ s8 σ6 H8 (.ref s2.heap.objs.size) [v8] (.ref s2.heap.objs.size) [x8] (λ_ H9=>∃m',m'<n/\W (i+1) m' σ6 H9) I8 rfl (.cons r8 .nil) ⟨_,ys,v8,rfl,rfl,Wc,NI,q8⟩) λ_ s9 MC=>?_
    obtain⟨_,H9,I9,_,q9⟩:=MC;exact again I9 q9
  .rw[aU (λz=>by
    obtain⟨o,ho⟩:=fin b hb;exact absurd z (aac (ZQ ho)))]
   exact(f2 b hb).1
 exact codeAny_compStart_list (loop _ rfl) (T.self _ 0 _ _ _ (T.keep 0 _ _ Md λb _ o e=>old b o e) (loop _ rfl))
theorem xt(ix:List (Option Nat))(N:List Str)(hc:X.calm=true)(hi:PI X.nox tg iter wi)(hg:∀C s H fp pn,PG (bI X scope N C s H fp pn) tg g)(he:∀C s H fp pn,PE (bI X scope N C s H fp pn) elt te)(hx:∀C s H fp pn,RW (bI X scope N C s H fp pn) elt Cl tx)
  (SY:X.stack=X.env::X.outer:=by rfl) (Tq:X.env.frame=some X.env.locals:=by rfl)
  (hf:gQ scope X.env=true:=by rfl) (hk:scope.kind=.function:=by rfl) (M9:∀y∈scope.names,y.2≠.cell:=by decide +kernel) (Nf:∀y∈scope.names,y.2=.local->scope.names.lookup y.1=some .local:=by decide +kernel) (OD:vW X scope N ix=true:=by rfl)
  (hs:∀x,foldedSetIterable iter X.env x=pure x:=by intro _;rfl):K7 X (.ListComp elt [⟨tg,iter,[],0⟩] scope pos) Cl (xq wi ix g te tx):=by
 intro pr s σ H Ww I h;rw[eval_ListComp];exact xr ix N hc hi hg he hx SY Tq hf hk M9 Nf OD hs I h
end
section
variable{tx:TX}{e:Expr}{es:List Expr}{x:Str}{p:Pos}{T id:String}
end
end NX
namespace PV
def jz(a:FG)(f:FX)(x:FXE):List D->FB
 |[],_=>false
 |d::ds,env=>match a d env with
  | .ok e1=>(x e1).isSome||match f e1 with
   | .ok (_,e2)=>jz a f x ds e2
   |_=>false
  |_=>false
def rN(fi:FI)(ix:List (Option Nat))(a:FG)(f:FX)(x:FXE):FB:=λenv=>match fi env with
 | .ok (ds,e)=>decide (ds.length<=1000)&&jz a f x ds (dB ix e)
 |_=>false
variable{fi:FI}{a:FG}{f:FX}{x:FXE}{Ww:Hp->Prop}
theorem C5{K:W.Frag}{ix:List (Option Nat)}{σ:L2.St}{H:Hp}(h:tX K (rN fi ix a f x) Ww σ H):xq (tQI K fi) ix (tQG K a) (tQ K f) (tQX K x) σ H Ww:=by
 obtain⟨G,env,fp,rel,e,k⟩:=h;unfold rN at e;match q:fi env,e with
 | .ok (ds,L0),e=>
  obtain⟨hz,e2⟩:=(ZP _ _).mp e;have hz:=aa8 hz;refine⟨G,env,fp,ds,L0,rel,q,λJ H1 G1 Mt Mk L5 wk D hD=>?_⟩;obtain⟨G2,UW,UX,Pw,hrE,PH⟩:=L5.lend;have L6:Rel K G2 H1 (dB ix L0) (j9 ix σ) []:=⟨gf Pw (λi r er=>let⟨v,ev,_⟩:=L5.view er;⟨v,ev⟩) ix,aa0,(λ_ h=>nomatch h),UX⟩
  obtain⟨Nb,Nj⟩:=L6.newL (ds:=[]) (xs:=[]) hD .nil;refine⟨λi m σ1 H2=>m=ds.length-i/\i<=ds.length/\∃G' es L9 acc,Step G2 H1 [] G' H2 L9/\Rel K G' H2 (some (.l .f,.lst acc)::es) (some (.ref D)::σ1) L9/\jz a f x (ds.drop i) es=true/\acc.length=i,
   ⟨_,rfl,aaB _,G2,dB ix L0,_,[],Nj,Nb,e2,rfl⟩,?_⟩
  rintro i m σ1 H2 ⟨rfl,hi,G3,es,Qh,acc,Oc,Nl,e4,RF⟩;obtain⟨w1,w2⟩:=wk G3 H2 _ _ _ (UW.trans Oc.gg) Nl i;by_cases NI:i<ds.length
  .have hd:ds[i]?=some ds[i]:=ZW NI;obtain⟨go,yl⟩:=w1 _ hd;rw[ab0 NI]at e4;unfold jz at e4;refine⟨go,λy H3 hy=>?_⟩;obtain⟨G4,rx,Ob,OR⟩:=yl y H3 hy;obtain⟨fa,fb,U2,ra,SO,bk⟩:=Ob.frame;match q1:a ds[i] es,e4 with
   | .ok Uu,e4=>
    dsimp only at e4;refine⟨G4,es,fb,ds[i],Uu,SO,rx,q1,λσ2 G5 Tu XC TK=>?_⟩;rcases(Z3 _ _).mp e4 with e4|e4
    .obtain⟨TH,ex⟩:=aa7.mp e4;refine .inl ⟨G5,Uu,Tu,TH,TK,ex,λH' G' L9 st r=>?_⟩;obtain⟨PL,RX⟩:=bk G' H' TH σ2 L9 (XC.trans st) r;rw[<-U2]at RX;obtain⟨k1,_⟩:=PH H' G' [] (.f,.non) .non ((Oc.trans (OR.trans RX)).trans (Step.cut (fq:=[]) λ_ h=>nomatch h)) (PL.nilF.push iV);obtain⟨G6,XD,Yq,TM⟩:=k1 rfl;exact k H' G6 XD (Mk.trans Yq) TM.nilF
    .match q2:f Uu,e4 with
     | .ok (r,U3),e4=>
      refine .inr ⟨G5,Uu,Tu,r,U3,TK,q2,λv H7 G7 fp7 Yr U4=>?_⟩;obtain⟨G8,Ys,rv,U5,Yt⟩:=U4.freeze;obtain⟨PL,RX⟩:=bk G8 H7 U3 σ2 Ys (XC.trans (Yr.trans Yt)) U5;rw[<-U2]at RX;obtain⟨p,xs,ep,hp,Uv,cg⟩:=PL.chg (i:=0) (ds:=acc) (ds':=acc++[r.2]) rfl;have ep:some (some (V.ref D))=some (some (V.ref p)):=ep;cases ep;obtain⟨fq,U6,Yu⟩:=cg (xs++[v]) (Uv.app (.one rv));refine⟨xs,hp,?_,ds.length-(i+1),by lia,rfl,NI,G8,U3,fq,acc++[r.2],Oc.trans (OR.trans (RX.trans Yu)),U6,e4,by rw[aau,RF];rfl⟩;rw[Uv.length,line_eq];lia
  .rw[ach (by lia)]at e4;cases e4
def WO(X:Cx)(e:Expr)(C:WP)(x:FB)(Ww:Hp->Prop):Prop:=∀(pr:List (WP×Obj)) (s:WF) (σ:L2.St) (H:Hp),Inv X pr σ H s->tX X.K x Ww σ H->wpAny (model X.prog X.w) X.A (eval e X.env) (λ_ _=>False) (XPF X C Ww) s
variable{X:Cx}{e:Expr}{es:List Expr}{p:Pos}{b:FB}{C:WP}{y:Str}{id:String}
section
variable{scope:Scope}{rest:List Stmt}{tg iter elt:Expr}{pos:Pos}
theorem uc(ix:List (Option Nat))(N:List Str)(hc:X.calm=true)(hi:QI X.nox tg iter fi)(hg:∀C s H fp pn,QG (bI X scope N C s H fp pn) tg a)(he:∀C s H fp pn,QE (bI X scope N C s H fp pn) elt f)(hx:∀D s H fp pn,SR (bI X scope N D s H fp pn) elt C x)
  (SY:X.stack=X.env::X.outer:=by rfl) (Tq:X.env.frame=some X.env.locals:=by rfl)
  (hf:gQ scope X.env=true:=by rfl) (hk:scope.kind=.function:=by rfl) (M9:∀y∈scope.names,y.2≠.cell:=by decide +kernel) (Nf:∀y∈scope.names,y.2=.local->scope.names.lookup y.1=some .local:=by decide +kernel) (OD:vW X scope N ix=true:=by rfl)
  (hs:∀x,foldedSetIterable iter X.env x=pure x:=by intro _;rfl):WO X (.ListComp elt [⟨tg,iter,[],0⟩] scope pos) C (rN fi ix a f x) Ww:=λpr s σ H I z=>
 xt (g:=tQG X.K a) (te:=tQ X.K f) (tx:=tQX X.K x) ix N hc hi hg he hx SY Tq hf hk M9 Nf OD hs pr s σ H Ww I (C5 z)
theorem C6(acc:∀e s',XPF X C Ww e s'->X.xe e s')(h:WO X e C b Ww):QX X (.Return (some e) pos::rest) b Ww:=λpr s σ H I z=>
 aat (ac8 (aaf (h pr s σ H I z) (λ_ _ z=>z.elim) λv s' z=>acc v s' z))
theorem C7{pos':Pos}(acc:∀e s',XPF X C Ww e s'->X.xe e s')(h:WO X e C b Ww)(hs:swapsWith e (some (.Name y pos')) pos.line X.env=pure false:=by rfl):QX X (.Assign [.Name y pos'] e pos::rest) b Ww:=λpr s σ H I z=>
 aat (ac9 (aaf (h pr s σ H I z) (λ_ _ z=>z.elim) λv s' z=>acc v s' z) hs)
end
variable{i:Nat}
section
variable{a:WP}{e1 e2 ct:Expr}{b:Bool}{l l1 l2:List Nat}{pos q bp:Pos}{rest sb:List Stmt}{v:V}
theorem Dc:Nk X (binaryOp .Mult) (λx y H Q=>∃(l:List Nat) (b:Bool),x=.str (S l)/\y=.int (if b=true then 1 else 0)/\Q (.str (S (if b=true then l else[]))) H):=by
 rintro pr s σ H x y v u Q I rx ry ⟨l,b,ex,ey,q⟩;subst ex ey;obtain⟨t,rfl⟩:=rx;obtain⟨t',rfl⟩:=ry;cases b with
 |false=>exact PySem.P.mul_str_none (by decide) (by decide) ⟨.str (S []),H,I.tok _,⟨_,rfl⟩,q⟩
 |true=>
  refine PySem.P.mul_str (by decide) (λ_ z=>by cases z) (λ_ z=>by cases z) ?_;exact⟨.str (S l),H,I,⟨_,rfl⟩,q⟩
inductive tSE(i:Nat)(a:WP)(l:List Nat)(σ:L2.St)(H:Hp)(Q:VK):Prop
 |mk:σ[i]?=some (some (.ref a))->(∀H',Ext H H'->Q (.str (S l)) H')->tSE i a l σ H Q
def SE(X:Cx)(e:Expr)(i:Nat)(a:WP)(l:List Nat):Prop:=PE X e (tSE i a l)
theorem oJ{x:Str}{j cp}(hx:x=S l)(h:BE X e i a (.con b))(hg:Gl X "int")(hm:X.mg "int" = none)(Oz:starEach [e] X.env=(false,eval e X.env)::starEach [] X.env:=by rfl)(Nu:(backTo pos (starEach [] X.env)).any (·.1)=false:=by rfl):
  SE X (.BinOp (.Constant (.str x) j cp) .Mult (.Call (.Name "int" p) [e] [] pos) bp) i a (if b=true then l else[]):=
 bW (BP Dc Av (pb xb hg hm (by decide +kernel) (di h gO Oz) (by decide) (by decide) Oz Nu)) λσ H Q Mh=>by
  obtain⟨hi,k⟩:=Mh;subst hx;exact⟨[],b,hi,(λj b z=>by cases z),rfl,λH1 x1=>⟨b,rfl,l,b,rfl,rfl,k H1 x1⟩⟩
theorem Bi(h1:SE X e1 i a l1)(h2:SE X e2 i a l2)(hl:l1.length+l2.length<=1000):SE X (.BinOp e1 .Add e2 bp) i a (l1++l2):=bW (BP mP h1 h2) λσ H Q ⟨hi,k⟩=>
 ⟨hi,λH1 x1=>⟨hi,λH2 x2=>⟨_,_,rfl,rfl,by rw[fR,fR,line_eq];lia,by rw[B4];exact k H2 (x1.trans x2)⟩⟩⟩
theorem Bj{j cp}(h:PE X e (qU i)):BT X (.Compare e [.Is] [.Constant .none j cp] pos) i a false:=kc (En (Em h)) λσ H Q ⟨hi,k⟩=>⟨_,hi,false,rfl,k H .refl⟩
def XO(i:Nat)(a:WP)(v:V):TS:=λD σ H=>σ[i]?=some (some (.ref a))/\∀H',Ext H H'->D.rt v H'
theorem qa(h:BT X ct i a false)(hr:PSs X rest (XO i a v)):PSs X (.If ct sb [] pos::rest) (XO i a v):=λpr s σ H D I ⟨hi,k⟩=>
 aat (wpAny_If (Mz (h pr s σ H (λb H'=>b=false/\Ext H H') I ⟨hi,λH' x=>⟨rfl,x⟩⟩) λd s1 Mh=>by
  obtain⟨H1,I1,e,x1⟩:=Mh;subst e;exact abS (hr pr s1 σ H1 D I1 ⟨hi,λH2 x2=>k H2 (x1.trans x2)⟩)))
theorem Bk(h:SE X e i a l):PSs X [.Return (some e) pos] (XO i a (.str (S l))):=oh (kP (Az h) qV) λD σ H ⟨hi,k⟩=>⟨hi,k⟩
theorem De{md:Mode}{body:List Stmt}{h0:ExceptHandler}{hs:List ExceptHandler}{g:FS}(hn:Sn (md:=md) X.nox body g):QS (md:=md) X (.Try body (h0::hs) [] [] pos) g:=λpr s σ H D I h=>by
 refine wpAny_Try_except (aaf (hn pr s σ H D (I.wish _) h) (λf s1 q=>?_) λ_ _ z=>z.elim);have q:=q.unwish;cases f with
 |next=>exact abS q
 |ret v=>exact q
 |brk=>exact q
 |cont=>exact q
inductive tTF(K:W.Frag)(F:List D->Bool)(C:WP)(l:List Nat)(D:Ends)(σ:L2.St)(H:Hp):Prop
 |mk:∀v,σ=[some v,none,none]->spX K C F [v] H (λ_ _=>False) (λ_ _ H'=>∀RG,Ext H' RG->D.rt (.str (S l)) RG)->tTF K F C l D σ H
theorem Bl{k:Nat}{nt n ye x:Str}{F:List D->Bool}{P:WP}{rest:List Stmt}{j p0 p1 p2 p3 p4 p5 p6 p7 pos np SW p8 p9:_}(c:CtX X.prog X.w X.K X.mg X.base y k C (spX X.K C F))(hr:Room k X.A)(hgy:Gl X y)(O:XCl X.mg X.base x P)(up:PySem.W.mroIn X.K C (.ref P)=some true)(hg:Gl X x)
  (SH:∀a o vs,o.cls=.ref C->o.data=.fields vs->PSs (Ed X a o) rest (XO 1 a (.str (S l))))
  (hN:X.N.Nodup) (h1:PE X.nox (.Name nt p4) (qU 0)) (hj:X.N[1]?=some ye) (hy:X.env.scope.names.lookup ye=some .local) (hi:X.N[2]?=some n) (hl:X.env.kindOf n=some .local) (WI:X.env.scope.names.lookup n=some .local)
  (hd:(n==("__debug__" : Str))=false:=by decide) (Q3:(n==("__classdict__" : Str))=false:=by decide) (Ux:swapsWith (.Constant .none j p1) (some (.Name ye p0)) p2.line X.env=pure false:=by rfl) (SV:swapsWith (.Call (.Name y p3) [.Name nt p4] [] p5) none p6.line X.env=pure false:=by rfl) (UQ:swapsWith (.Name n p8) (some (.Name ye p7)) p9.line X.env=pure false:=by rfl)
  (he:starEach [.Name nt p4] X.env=(false,eval (.Name nt p4) X.env)::starEach [] X.env:=by rfl) (Nu:(backTo p5 (starEach [] X.env)).any (·.1)=false:=by rfl)
  (hs:X.stack=X.env::X.outer:=by rfl) (hf:X.env.frame=some X.env.locals:=by rfl) (NJ:(x==("__debug__" : Str))=false:=by decide) (hdby:(y==("__debug__" : Str))=false:=by decide):
  PSs X (.Assign [.Name ye p0] (.Constant .none j p1) p2::.Try [.Expr (.Call (.Name y p3) [.Name nt p4] [] p5) p6] [.ExceptHandler (some (.Name x np)) (some n) [.Assign [.Name ye p7] (.Name n p8) p9] SW] [] [] pos::rest) (tTF X.K F C l):=
 oh (kP (vB (i:=1) hN hj (.inl hy) Au Ux (.inr hy)) (pss_keep (i:=2) (j:=1) O up hg (y8 (sW c hr hgy (di h1 gO he) hdby he Nu) SV) SH hN hi hl WI hj hy hd Q3 UQ hs hf NJ)) λD σ H Mh=>by
  obtain⟨v,e,sp⟩:=Mh;subst e;refine⟨v,rfl,?_⟩;obtain⟨G,ds,gh,rs,hF,q⟩:=sp;exact⟨G,ds,gh,rs,hF,λH' G' L9 st rel a=>⟨rfl,q H' G' L9 st rel⟩⟩
end
def QAF(X:Cx)(es:List Expr)(C:WP)(b:FB)(Ww:Hp->Prop):Prop:=∀(pos:Pos) (pr:List (WP×Obj)) (s:WF) (σ:L2.St) (H:Hp),Inv X pr σ H s->tX X.K b Ww σ H->wpAny (model X.prog X.w) X.A (spliced (backTo pos (starEach es X.env))) (λ_ _=>False) (XPF X C Ww) s
section
variable{o:Expr}{pos apos Mu:Pos}
theorem zI(h:WO X e C b Ww)(hs:starEach (e::es) X.env=(false,eval e X.env)::starEach es X.env:=by rfl):QAF X (e::es) C b Ww:=by
 intro pos pr s σ H I z;rw[hs];show wpAny _ _ (spliced ((false,eval e X.env)::backTo pos (starEach es X.env))) _ _ s;exact ab8 (aaf (h pr s σ H I z) (λ_ _ z=>z.elim) λ_ _ z=>z)
theorem xu(hg:Gl X y)(hm:X.mg y=none)(hv:bootBuiltins y=some (.builtin id))(h:QAF X (e::es) C b Ww)(hn:y≠"__name__":=by decide)(NJ:(y==("__debug__" : Str))=false:=by decide)
  (he:starEach (e::es) X.env=(false,eval e X.env)::starEach es X.env:=by rfl) (Nu:(backTo pos (starEach es X.env)).any (·.1)=false:=by rfl):WO X (.Call (.Name y p) (e::es) [] pos) C b Ww:=λpr s σ H I z=>
 aaV (iz I hg hm hv (abM (aaf (h pos pr s σ H I z) (λ_ _ z=>z.elim) λ_ _ z=>z) he Nu) hn NJ)
end
end PV
namespace PV
def Bm{np nn:Nat}{x:FB}{ds:List D}(e:gT np nn x ds=true):ds.length=np:=by
 unfold gT at e;exact aa8 ((ZP _ _).mp e).1
end PV
namespace PV
def Vb(F:List D->Bool)(l:List Nat):List D->Res R:=λds=>if F ds then .ok (.f,.str l) else .bad
variable{w:World}
theorem xv{P:W1}{K:W.Frag}{mg:Str->Option Wp}{base:UF}{x:Str}{st:Stmt}{N ps:List Str}{k:Nat}{F:List D->Bool}{C:WP}{l:List Nat}(Df:Def K mg x st)(sc:FnScope N ps (defScope st))
  (hb:∀(kV doc pm:Wp) (an:Option WP) (MA ct:Wp) (us:List Wp),us.length=ps.length->bindArgs (PySem.W.fnOf x x (fQ st) (dj st) (defScope st) .none kV doc pm an MA ct) ⟨us,[]⟩=pure (ps.zip us))
  (hN:N.length=3) (hp:ps.length=1) (hF:∀ds,F ds=true->ds.length=1) (hl:l.length<=1000)
  (body:∀(f:WP) (MA:Wp) (A:Uf) (outer:List PySem.Env) (s:WF) (H:Hp) (E:XK),Room k (A.deeper (envOfC x (defScope st) s.heap.objs.size f MA))->PSs (qP Sz P w K mg base N x (defScope st) f MA A outer s H E).nox (dj st) (tTF K F C l)):Ct P w K mg base x (k+1) (spF K (Vb F l)):=by
 obtain⟨f,fd,Fn,m⟩:=Df;refine⟨f,fd,ps,Fn.ok sc (λvs H Q E h=>?_) (λMA A outer s H vs Q E hr h=>?_),m,Fn.kp,Fn.binds hb⟩
 .obtain⟨G,ds,r,_,rs,e,_⟩:=h;unfold Vb at e;split at e
  .rename_i hh;rw[rs.length,hF ds hh,hp]
  .cases e
 .obtain⟨G,ds,r,gh,rs,e,q⟩:=h;unfold Vb at e;split at e
  .rename_i hh;cases e;have hlen:=hF ds hh;obtain⟨v,ev⟩:∃v,vs=[v]:=List.length_eq_one_iff.mp (by rw[rs.length];exact hlen);subst ev;refine⟨_,body f MA A outer s H E hr,v,?_,G,ds,gh,rs,hh,λH' G' L9 st rel RG x=>?_⟩
   .unfold L2.start;rw[hN];rfl
   .obtain⟨G2,L6,Md⟩:=x.rel rel;exact q (.str (S l)) RG G2 [] (st.trans ((Step.cut (fq:=[]) λ_ h=>nomatch h).trans Md)) (L6.push (dI (by rw[line_eq];lia)))
  .cases e
theorem Bn(l:List Nat)(h:∀c∈l,c<16 ^ 8):(rp l).length<=10*l.length+2:=by
 have:=PySem.StrLaws.reprText_len (S l) (by rw[eF];exact h);rw[fR]at this;rw[<-lh (reprText (S l)),fR]at this;exact this
section
variable{X:Cx}
def Ee:List D->Res R
 |[.str l]=>.ok (.f,.str l)
 |ds=>FK ds
theorem Dh:dF X (.type "str") (rC X.K Ee):=by
 rintro pr s σ H xs us Q I rx ⟨G,fp,es,vs,ds,r,⟨rel,k⟩,vd,e⟩;unfold Ee at e;split at e
 .rename_i l;cases e;obtain⟨v,ev,v1⟩:=mX vd;subst ev;obtain⟨ev,hl⟩:=fH v1;subst ev;obtain⟨u,rfl,t,rfl⟩:=fV rx;exact PySem.P.str_of_str ⟨.str (S l),H,I,⟨_,rfl⟩,k _ H G fp .refl (rel.push (dI hl))⟩
 .exact FN pr s σ H xs us Q I rx ⟨G,fp,es,vs,ds,r,⟨rel,k⟩,vd,e⟩
theorem zJ{prog:W1}{A:Uf}{E:Wp->WF->Prop}{s:WF}{t b:WP}{ws:List Wp}{Q:Wp->WF->Prop}(ht:IsTup s.heap t ([]:List Wp).toArray)(hb:IsTup s.heap b ws.toArray)(h:Q (.ref b) s):wpAny (model prog w) A (binaryOp .Add (.ref t) (.ref b)) Q E s:=by
 obtain⟨⟨cls,dd,data,sl⟩,ho,hc,n,hd⟩:=id ht;obtain⟨⟨UK,Tj,data2,Tn⟩,Q6,Si,n2,hd2⟩:=id hb;simp only at hc hd Si hd2;subst hc hd Si hd2;exact adG ⟨_,ho,rfl⟩ ⟨_,Q6,rfl⟩ ads seq_tuple_add acg aca (ab4 _ _) (tuple_addW0 t b _ ws.toArray n n2 dd Tj sl Tn (by simp)) ⟨ho,Q6,h⟩
def addT:D->D->Res R
 | .tup [],.tup b=>.ok (.f,.tup b)
 |a,b=>addD a b
theorem rO:Nk X (binaryOp .Add) (rG X.K addT):=by
 rintro pr s σ H x y v u Q I rx ry ⟨G,fp,es,vs,a,b,r,⟨rel,k⟩,va,vb,e⟩;unfold addT at e;split at e
 .rename_i j;cases e;obtain⟨p,xs,e1,h1,r1⟩:=iF va;obtain⟨p2,UY,e2,h2,r2⟩:=iF vb;subst e1;subst e2;cases rx;cases ry;have hx:xs=[]:=aaC r1.length;subst hx;obtain⟨L8,q1,p1,_⟩:=I.tuple (cE rel.gh h1);obtain⟨Sj,q2,p2',_⟩:=I.tuple (cE rel.gh h2);cases q1;exact zJ p1 p2' ⟨.ref p2,H,I,rfl,k _ H G fp .refl (rel.push vb)⟩
 .exact aY pr s σ H x y v u Q I rx ry ⟨G,fp,es,vs,a,b,r,⟨rel,k⟩,va,vb,e⟩
theorem qb(hc:X.calm=true):dF X (.type "list") (λvs H Q=>∃(p:WP) (kvs:List (List Key×V)),vs=[.ref p]/\Rd H p (.dT kvs)/\∀(l:WP) (ms:List (WP×List Key)),H l=none->(∀a∈ms,H a.1=some (.tup (a.2.map kV)))->ms.map (·.2)=kvs.map (·.1)->Q (.ref l) (upd H l (.lst (ms.map λa=>V.ref a.1)))):=by
 intro pr s σ H xs us Q I r h;obtain⟨p,kvs,rfl,hp,q⟩:=h;obtain⟨u,rfl,rx⟩:=fV r;cases rx;obtain⟨z,_⟩:=Fb I.hok hp;obtain⟨nm,al,es,ep,raw,S1,YG,Pg⟩:=Cq I hp;have Oa:al.length=kvs.length:=by
  have:=abB List.length YG;simpa using this
 have Yx:es.size=al.length:=by
  have:=abB List.length S1;simpa using this
 have rv:Vals (al.map λa=>V.ref a.1) (al.map λa=>Value.ref a.1):=by
  clear S1 YG Pg Oa Yx;induction al with
  |nil=>exact .nil
  |cons a al ih=>exact .cons rfl ih
 refine PySem.W.kdl_call (Co nm) (I.ok.hd hc) raw (by lia) λh' tk acc c' hk hS Qz=>?_
 have ea:acc.toList=al.map λa=>Value.ref a.1:=by
  rw[<-S1];apply ack;intro j;rw[Z9,acv,acv];cases hj:acc[j]? with
  |none=>
   have:es[j]?=none:=by
    rw[Array.getElem?_eq_none_iff]at hj |-;rw[<-Qz.1];exact hj
   rw[this];rfl
  |some v=>
   obtain⟨en,h1,h2⟩:=Qz.2 j v hj;rw[h1,h2];rfl
 refine⟨.ref s.heap.objs.size,_,I.laid (o:=.lst (al.map λa=>V.ref a.1)) (t':=tk) hk (ZO _) ⟨by rw[ZT];lia,acc.toList,c',by rw[ea];exact rv,by rw[Array.toArray_toList];exact hS⟩,rfl,q _ al (I.hok.fresh (ZO _)) Pg YG⟩
def zL:List D->Res R
 |[.dct true ks _]=>.ok (.l .f,.lst ks)
 |ds=>CO ds
theorem zM(hc:X.calm=true):dF X (.type "list") (rC X.K zL):=by
 rintro pr s σ H xs us Q I rx ⟨G,fp,es,vs,ds,r,⟨rel,k⟩,vd,e⟩;unfold zL at e;split at e
 .rename_i ks ws;cases e;obtain⟨v,ev,vt⟩:=mX vd;obtain⟨p,ys,o,ep,rd,dd,rs⟩:=vt;subst ev;subst ep;obtain⟨kvs,eo,ek,ex,RE⟩:=dd;subst eo;have ek:ks=(kvs.map (·.1)).map kT:=by rw[ek,aah];rfl
  refine qb hc pr s σ H _ us Q I rx ⟨p,kvs,rfl,rd,λq ms hq hm em=>?_⟩;obtain⟨G2,L6,Md,ht⟩:=rel.addT;have Pw:∀a∈ms,Rep X.K G2 (kT a.2) (.ref a.1):=λa ha=>by
   unfold kT;rw[Rep];refine⟨a.1,_,rfl,ht _ _ (hm a ha),?_⟩;refine il (f:=kD) (g:=kV) λkey SQ=>Ba ?_
   have:a.2∈kvs.map (·.1):=by rw[<-em];exact aaO.mpr ⟨a,ha,rfl⟩
   obtain⟨kv,Qn,e2⟩:=aaO.mp this;exact RE kv Qn key (by rw[e2];exact SQ)
  obtain⟨Nb,Nj⟩:=L6.newL hq (il (K:=X.K) (G:=G2) (f:=λa:WP×List Key=>kT a.2) (g:=λa=>V.ref a.1) (l:=ms) Pw);have ek2:ms.map (λa=>kT a.2)=ks:=by rw[ek,<-em,aah];rfl
  rw[ek2]at Nb;exact k _ _ G2 _ (Md.trans Nj) Nb
 .exact zp hc pr s σ H xs us Q I rx ⟨G,fp,es,vs,ds,r,⟨rel,k⟩,vd,e⟩
end
end PV
namespace LW
open PV
abbrev xw(f:FX):FI:=OB (Fp f) (OB (kG f) (kH f))
def lK:FS:=(eI (kg SA SA (aq (aA (.str [97]))) (ax 0) (aq (aA (.str [122])))))
def cq:List D->Res R:=fBody 1 0 lK
def lM:FS:=(eI (kg SA SA (aq (aA (.str [48]))) (ax 0) (aq (aA (.str [57])))))
def bU:List D->Res R:=fBody 1 0 lM
def qc:FS:=(sSeq (M4 (Mw (bZ cq (ah (ax 0) ay)))
  (eI (aA (.str [108,101,116,116,101,114])))
  br)
  (sSeq (M4 (Mw (bZ bU (ah (ax 0) ay)))
  (eI (aA (.str [102,105,103,117,114,101])))
  br)
  (sSeq (M4 (Mw (bu Nr (ax 0) (aq (aA (.str [32])))))
  (eI (aA (.str [98,108,97,110,107])))
  br)
  (sSeq (M4 (Mw (bu Nr (ax 0) (aq (aA (.str [59])))))
  (eI (aA (.str [115,101,109,105,99,111,108,111,110])))
  br)
  cG))))
def cA:List D->Res R:=fBody 1 0 qc
def gr:List D->Bool:=gT 1 0 (fw (M4 (Mw (bZ cq (ah (ax 0) ay)))
  (eI (aA (.str [108,101,116,116,101,114])))
  br)
  (fw (M4 (Mw (bZ bU (ah (ax 0) ay)))
  (eI (aA (.str [102,105,103,117,114,101])))
  br)
  (fw (M4 (Mw (bu Nr (ax 0) (aq (aA (.str [32])))))
  (eI (aA (.str [98,108,97,110,107])))
  br)
  (fw (M4 (Mw (bu Nr (ax 0) (aq (aA (.str [59])))))
  (eI (aA (.str [115,101,109,105,99,111,108,111,110])))
  br)
  (fA (ah (aq (xf (aw (aA (.str [110,111,32,119,111,114,100,32,104,97,115,32,116,104,101,32,115,105,103,110,32])) (aw (xi (bq 0)) aX)))) ay))))))
def dQ:FS:=(cy 3 (aF addD (ax 3) (aq (aA (.int 1)))))
def iJ:FS:=(ft (AU (Mw (aF PJ (ax 3) (aq (a9 lenA (ah (ax 0) ay))))) (Mw (bu Nr (aq (bZ cA (ah (aq (aF Mg (ax 0) (ax 3))) ay))) (ax 2))))
  dQ 100000)
def g6:FS:=(eI (kB 3))
def g7:FS:=(sSeq (cy 3 (aF addD (ax 1) (aq (aA (.int 1)))))
  (sSeq (M4 (Mw (bu Nr (ax 2) (aq (aA (.str [115,101,109,105,99,111,108,111,110])))))
  (eI (kB 3))
  br)
  (sSeq iJ
  g6)))
def bR:List D->Res R:=fBody 3 1 g7
def lN:FB:=(λ_=>false)
def lO:FB:=(Py (Mw (aF PJ (ax 3) (aq (a9 lenA (ah (ax 0) ay))))) (xOf (oH gr (ah (aq (aF Mg (ax 0) (ax 3))) ay))))
def g8:List D->Bool:=gT 3 1 (fw (cy 3 (aF addD (ax 1) (aq (aA (.int 1)))))
  (fw (M4 (Mw (bu Nr (ax 2) (aq (aA (.str [115,101,109,105,99,111,108,111,110])))))
  (eI (kB 3))
  br)
  (iI lO (AU (Mw (aF PJ (ax 3) (aq (a9 lenA (ah (ax 0) ay))))) (Mw (bu Nr (aq (bZ cA (ah (aq (aF Mg (ax 0) (ax 3))) ay))) (ax 2)))) lN dQ 100000)))
def g9:FS:=(sSeq (M4 (Mw (aF Q8 (aq (a9 lenA (ah (ax 0) ay))) (aq (aA (.int 60)))))
  cG
  br)
  (M4 (AU (Mw (aF Q8 (aq (a9 lenA (ah (ax 0) ay))) (aq (aA (.int 1))))) (Mw (bu Nr (aq (aF Mg (ax 0) (aq (aA (.int 0))))) (aq (aA (.str [48]))))))
  cG
  br))
def cu:List D->Res R:=fBody 1 0 g9
def fB:List D->Bool:=gT 1 0 (λenv=>(Py (Mw (aF Q8 (aq (a9 lenA (ah (ax 0) ay))) (aq (aA (.int 60))))) (fA (ah (aq (aA (.str [97,32,110,117,109,98,101,114,32,104,97,115,32,109,111,114,101,32,116,104,97,110,32,115,105,120,116,121,32,102,105,103,117,114,101,115]))) ay))) env||(fw (M4 (Mw (aF Q8 (aq (a9 lenA (ah (ax 0) ay))) (aq (aA (.int 60)))))
  cG
  br)
  (Py (AU (Mw (aF Q8 (aq (a9 lenA (ah (ax 0) ay))) (aq (aA (.int 1))))) (Mw (bu Nr (aq (aF Mg (ax 0) (aq (aA (.int 0))))) (aq (aA (.str [48])))))) (fA (ah (aq (aA (.str [97,32,110,117,109,98,101,114,32,104,97,115,32,97,32,48,32,97,104,101,97,100,32,111,102,32,111,116,104,101,114,32,102,105,103,117,114,101,115]))) ay)))) env)
def eY:FS:=(sSeq (cy 3 (bZ cA (ah (aq (aF Mg (ax 0) (ax 2))) ay)))
  (sSeq (cy 4 (bZ bR (ah (ax 0) (ah (ax 2) (ah (ax 3) ay)))))
  (sSeq (cy 5 (g0 (ax 0) (cM (bq 2)) (cM (bq 4))))
  (sSeq (M4 (Mw (bu Nr (ax 3) (aq (aA (.str [102,105,103,117,114,101])))))
  (kF (bZ cu (ah (ax 5) ay)))
  br)
  (sSeq (M4 (Mw (bu OW (ax 3) (aq (aA (.str [98,108,97,110,107])))))
  (kF (A3 1 (bq 5)))
  br)
  (cy 2 (bq 4)))))))
def qe:FS:=(ft (Mw (aF PJ (ax 2) (aq (a9 lenA (ah (ax 0) ay)))))
  eY 100000)
def nh:FS:=(eI (kB 1))
def xx:FS:=(sSeq (M4 (rA (Mw (Wv "str" (ax 0))))
  cG
  br)
  (sSeq (cy 1 (fG aX))
  (sSeq (cy 2 (aA (.int 0)))
  (sSeq qe
  nh))))
def jV:List D->Res R:=fBody 1 5 xx
def jW:FB:=(λenv=>(λenv=>(xOf (oH gr (ah (aq (aF Mg (ax 0) (ax 2))) ay))) env||(fw (cy 3 (bZ cA (ah (aq (aF Mg (ax 0) (ax 2))) ay)))
  (xOf (oH g8 (ah (ax 0) (ah (ax 2) (ah (ax 3) ay)))))) env) env||(fw (cy 3 (bZ cA (ah (aq (aF Mg (ax 0) (ax 2))) ay)))
  (fw (cy 4 (bZ bR (ah (ax 0) (ah (ax 2) (ah (ax 3) ay)))))
  (fw (cy 5 (g0 (ax 0) (cM (bq 2)) (cM (bq 4))))
  (Py (Mw (bu Nr (ax 3) (aq (aA (.str [102,105,103,117,114,101]))))) (xOf (oH fB (ah (ax 5) ay))))))) env)
def ni:FB:=(λ_=>false)
def lP:List D->Bool:=gT 1 5 (λenv=>(Py (rA (Mw (Wv "str" (ax 0)))) (fA (ah (aq (aA (.str [119,104,97,116,32,105,115,32,110,111,32,116,101,120,116,32,104,97,115,32,110,111,32,119,111,114,100,115]))) ay))) env||(fw (M4 (rA (Mw (Wv "str" (ax 0))))
  cG
  br)
  (fw (cy 1 (fG aX))
  (fw (cy 2 (aA (.int 0)))
  (iI ni (Mw (aF PJ (ax 2) (aq (a9 lenA (ah (ax 0) ay))))) jW eY 100000)))) env)
def lQ:FS:=(eI (aF addD (aq (aA (.int 1))) (aq (CF (gc (xw (aF Mg (ax 0) (aq (aA (.int 1))))) [none,none,none] (tu 3 (cn (bj 0) (cn (bj 1) (cn (bj 2) jR)))) jj (a9 maxD (ah (ax 0) (ah (ax 2) ay)))) (aA (.int 0))))))
def d8:List D->Res R:=fBody 1 0 lQ
def qf:FS:=(sSeq (M4 (Wm (Mw (bu Nr (ax 0) (aq (aA (.str [109,111,118,101,115]))))) (rA (Mw (kg SA SA (aq (aA (.int 1))) (aq (a9 lenA (ah (ax 0) ay))) (aq (aA (.int 8)))))))
  (eI (aA (.bl false)))
  br)
  (eI (a9 A4 (ah (aq (gc (OB (mJ 0) (OB (kG (bq 0)) (kH (bq 0)))) [none] (bj 0) jj (bZ cq (ah (ax 0) ay)))) ay))))
def dq:List D->Res R:=fBody 1 0 qf
def rP:FS:=(eI (a9 A4 (ah (aq (gc (OB (mI true true (ah (aq (bq 0)) (ah (aq (g0 (ax 0) (cM (aA (.int 1))) dn)) ay))) (OB (mI true false (ah (aq (bq 0)) (ah (aq (g0 (ax 0) (cM (aA (.int 1))) dn)) ay))) (OB (mI false true (ah (aq (bq 0)) (ah (aq (g0 (ax 0) (cM (aA (.int 1))) dn)) ay))) (mI false false (ah (aq (bq 0)) (ah (aq (g0 (ax 0) (cM (aA (.int 1))) dn)) ay)))))) [none,none] (tu 2 (cn (bj 0) (cn (bj 1) jR))) jj (aF PJ (ax 0) (ax 1)))) ay)))
def fS:List D->Res R:=fBody 1 0 rP
def lR:FS:=(eI (AV (aF SA (aq (a9 lenA (ah (ax 0) ay))) (aq (aA (.int 5)))) (AV (bZ fS (ah (ax 0) ay)) (a9 A4 (ah (aq (gc (OB (mJ 0) (OB (kG (bq 0)) (kH (bq 0)))) [none] (bj 0) jj (bZ dq (ah (ax 0) ay)))) ay)))))
def d9:List D->Res R:=fBody 1 0 lR
def nj:FS:=(eI (kg SA PJ (aq (aA (.int 0))) (ax 0) (aq (aA (.int 12)))))
def c7:List D->Res R:=fBody 1 0 nj
def nq:FS:=(sSeq (M4 (Wm (Mw (aF Q8 (aq (a9 lenA (ah (ax 0) ay))) (aq (aA (.int 60))))) (rA (Mw (bZ fS (ah (ax 0) ay)))))
  (eI (aA (.bl false)))
  br)
  (eI (a9 A4 (ah (aq (gc (OB (mJ 0) (OB (kG (bq 0)) (kH (bq 0)))) [none,none,none,some 1] (tu 3 (cn (bj 0) (cn (bj 1) (cn (bj 2) jR)))) jj (AV (bZ c7 (ah (ax 0) ay)) (AV (bu SK (ax 1) (ax 3)) (bZ c7 (ah (ax 2) ay)))))) ay))))
def eZ:List D->Res R:=fBody 2 0 nq
def fJ:FS:=(M4 (AU (Mw (bu Nr (aq (aF Mg (ax 4) (aq (aA (.int 0))))) (aq (aF Mg (ax 1) (ax 3))))) (Mw (bu Ea (aq (aF Mg (ax 4) (aq (aA (.int 2))))) (ax 1))))
  (sSeq (kF (A3 1 (aF Mg (ax 4) (aq (aA (.int 2))))))
  (kF (A3 2 (bq 4))))
  br)
def lS:FS:=(yw (xw (bq 0)) (bj 4)
  fJ)
def km:FS:=(cy 3 (aF addD (ax 3) (aq (aA (.int 1)))))
def hJ:FS:=(sSeq lS
  km)
def lT:FS:=(ft (Mw (aF PJ (ax 3) (aq (a9 lenA (ah (ax 1) ay)))))
  hJ 100000)
def ko:FS:=(eI (kB 2))
def qg:FS:=(sSeq (cy 1 (fG (aw (aA (.int 0)) aX)))
  (sSeq (cy 2 (fG aX))
  (sSeq (cy 3 (aA (.int 0)))
  (sSeq lT
  ko))))
def fC:List D->Res R:=fBody 1 4 qg
def gu:FS:=(sSeq (M4 (Wm (rA (Mw (bZ d9 (ah (ax 0) ay)))) (rA (Mw (bZ eZ (ah (ax 1) (ah (ax 0) ay))))))
  (eI (aA (.bl false)))
  br)
  (eI (bu Nr (aq (aF addD (aq (aA (.int 1))) (aq (a9 lenA (ah (aq (bZ fC (ah (ax 1) ay))) ay))))) (aq (bZ d8 (ah (aq (iG (aw (bq 0) (aw (bq 1) aX)))) ay))))))
def bA:List D->Res R:=fBody 2 0 gu
def eR:FS:=(M4 (Mw (bu Nr (ax 2) (aq (aA (.str [59])))))
  (kF (zt 1 (fG aX)))
  (kF (uT 1 (-1) 2)))
def kq:FS:=(yw (xw (bZ jV (ah (ax 0) ay))) (bj 2)
  eR)
def jA:FS:=(eI (kB 1))
def nu:FS:=(sSeq (cy 1 (zr (fG aX)))
  (sSeq kq
  jA))
def bM:List D->Res R:=fBody 1 2 nu
def gv:List D->Bool:=gT 1 2 (fw (cy 1 (zr (fG aX)))
  (xOf (oH lP (ah (ax 0) ay))))
def lU:FS:=(sSeq (M4 (rA (Mw (bZ bU (ah (aq (aF Mg (ax 0) (aq (aA (.int 0))))) ay))))
  cG
  br)
  (eI (a9 FL (ah (ax 0) ay))))
def bN:List D->Res R:=fBody 1 0 lU
def cT:List D->Bool:=gT 1 0 (Py (rA (Mw (bZ bU (ah (aq (aF Mg (ax 0) (aq (aA (.int 0))))) ay)))) (fA (ah (aq (xf (aw (xi (bq 0)) (aw (aA (.str [32,115,116,97,110,100,115,32,119,104,101,114,101,32,97,32,110,117,109,98,101,114,32,105,115,32,97,115,107,101,100,32,102,111,114])) aX)))) ay)))
def qh:FS:=(sSeq (M4 (rA (Mw (bZ dq (ah (ax 0) ay))))
  cG
  br)
  (eI (kB 0)))
def bY:List D->Res R:=fBody 1 0 qh
def cU:List D->Bool:=gT 1 0 (Py (rA (Mw (bZ dq (ah (ax 0) ay)))) (fA (ah (aq (xf (aw (xi (bq 0)) (aw (aA (.str [32,115,116,97,110,100,115,32,119,104,101,114,101,32,97,32,109,111,118,101,39,115,32,110,97,109,101,32,105,115,32,97,115,107,101,100,32,102,111,114])) aX)))) ay)))
def ny:FS:=(sSeq (M4 (Mw (bu OW (aq (g0 (ax 0) dn (cM (aA (.int 1))))) (aq (fG (aw (aA (.str [109,111,118,101,115])) aX)))))
  cG
  br)
  (sSeq (M4 (Mw (aF Q8 (aq (aF uQ (aq (a9 lenA (ah (ax 0) ay))) (aq (aA (.int 1))))) (aq (aA (.int 5)))))
  cG
  br)
  (eI (gc (xw (g0 (ax 0) (cM (aA (.int 1))) dn)) [none] (bj 0) jj (bZ bY (ah (ax 0) ay))))))
def cz:List D->Res R:=fBody 1 0 ny
def de:List D->Bool:=gT 1 0 (λenv=>(λenv=>(Py (Mw (bu OW (aq (g0 (ax 0) dn (cM (aA (.int 1))))) (aq (fG (aw (aA (.str [109,111,118,101,115])) aX))))) (fA (ah (aq (aA (.str [116,104,101,32,102,105,114,115,116,32,112,97,114,116,32,100,111,101,115,32,110,111,116,32,98,101,103,105,110,32,119,105,116,104,32,116,104,101,32,119,111,114,100,32,109,111,118,101,115]))) ay))) env||(fw (M4 (Mw (bu OW (aq (g0 (ax 0) dn (cM (aA (.int 1))))) (aq (fG (aw (aA (.str [109,111,118,101,115])) aX)))))
  cG
  br)
  (Py (Mw (aF Q8 (aq (aF uQ (aq (a9 lenA (ah (ax 0) ay))) (aq (aA (.int 1))))) (aq (aA (.int 5))))) (fA (ah (aq (aA (.str [116,104,101,114,101,32,97,114,101,32,109,111,114,101,32,116,104,97,110,32,53,32,110,97,109,101,115]))) ay)))) env) env||(fw (M4 (Mw (bu OW (aq (g0 (ax 0) dn (cM (aA (.int 1))))) (aq (fG (aw (aA (.str [109,111,118,101,115])) aX)))))
  cG
  br)
  (fw (M4 (Mw (aF Q8 (aq (aF uQ (aq (a9 lenA (ah (ax 0) ay))) (aq (aA (.int 1))))) (aq (aA (.int 5)))))
  cG
  br)
  (rN (xw (g0 (ax 0) (cM (aA (.int 1))) dn)) [none] (bj 0) (bZ bY (ah (ax 0) ay)) (oH cU (ah (ax 0) ay))))) env)
def ud:FS:=(sSeq (M4 (Mw (bu OW (aq (a9 lenA (ah (ax 0) ay))) (aq (aA (.int 3)))))
  cG
  br)
  (eI (iG (aw (bZ bN (ah (aq (aF Mg (ax 0) (aq (aA (.int 0))))) ay)) (aw (bZ bY (ah (aq (aF Mg (ax 0) (aq (aA (.int 1))))) ay)) (aw (bZ bN (ah (aq (aF Mg (ax 0) (aq (aA (.int 2))))) ay)) aX))))))
def cJ:List D->Res R:=fBody 1 0 ud
def dv:List D->Bool:=gT 1 0 (λenv=>(λenv=>(λenv=>(Py (Mw (bu OW (aq (a9 lenA (ah (ax 0) ay))) (aq (aA (.int 3))))) (fA (ah (aq (aA (.str [97,110,32,97,114,99,32,105,115,32,97,32,110,117,109,98,101,114,44,32,97,32,110,97,109,101,32,97,110,100,32,97,32,110,117,109,98,101,114]))) ay))) env||(fw (M4 (Mw (bu OW (aq (a9 lenA (ah (ax 0) ay))) (aq (aA (.int 3)))))
  cG
  br)
  (xOf (oH cT (ah (aq (aF Mg (ax 0) (aq (aA (.int 0))))) ay)))) env) env||(fw (M4 (Mw (bu OW (aq (a9 lenA (ah (ax 0) ay))) (aq (aA (.int 3)))))
  cG
  br)
  (xOf (rK (bZ bN (ah (aq (aF Mg (ax 0) (aq (aA (.int 0))))) ay)) (oH cU (ah (aq (aF Mg (ax 0) (aq (aA (.int 1))))) ay))))) env) env||(fw (M4 (Mw (bu OW (aq (a9 lenA (ah (ax 0) ay))) (aq (aA (.int 3)))))
  cG
  br)
  (xOf (rK (bZ bN (ah (aq (aF Mg (ax 0) (aq (aA (.int 0))))) ay)) (rK (bZ bY (ah (aq (aF Mg (ax 0) (aq (aA (.int 1))))) ay)) (oH cT (ah (aq (aF Mg (ax 0) (aq (aA (.int 2))))) ay)))))) env)
def kr:FS:=(sSeq (cy 1 (Bg (bZ bM (ah (ax 0) ay))))
  (sSeq (cy 2 (a9 ki (ah (aq (a9 dN (ah (aq (bZ cz (ah (aq (aF Mg (ax 1) (aq (aA (.int 0))))) ay))) ay))) ay)))
  (sSeq (M4 (Mw (aF Q8 (aq (aF uQ (aq (a9 lenA (ah (ax 1) ay))) (aq (aA (.int 1))))) (aq (aA (.int 60)))))
  cG
  br)
  (sSeq (cy 3 (a9 dN (ah (aq (gc (xw (g0 (ax 1) (cM (aA (.int 1))) dn)) [none] (bj 0) jj (bZ cJ (ah (ax 0) ay)))) ay)))
  (sSeq (M4 (rA (Mw (bZ bA (ah (ax 2) (ah (ax 3) ay)))))
  cG
  br)
  (eI (CM (bq 2) (kB 3))))))))
def cV:List D->Res R:=fBody 1 3 kr
def x_read_chart:List D->Bool:=gT 1 3 (λenv=>(λenv=>(λenv=>(xOf (oH gv (ah (ax 0) ay))) env||(fw (cy 1 (Bg (bZ bM (ah (ax 0) ay))))
  (xOf (oH de (ah (aq (aF Mg (ax 1) (aq (aA (.int 0))))) ay)))) env) env||(fw (cy 1 (Bg (bZ bM (ah (ax 0) ay))))
  (fw (cy 2 (a9 ki (ah (aq (a9 dN (ah (aq (bZ cz (ah (aq (aF Mg (ax 1) (aq (aA (.int 0))))) ay))) ay))) ay)))
  (Py (Mw (aF Q8 (aq (aF uQ (aq (a9 lenA (ah (ax 1) ay))) (aq (aA (.int 1))))) (aq (aA (.int 60))))) (fA (ah (aq (aA (.str [116,104,101,114,101,32,97,114,101,32,109,111,114,101,32,116,104,97,110,32,54,48,32,97,114,99,115]))) ay))))) env) env||(fw (cy 1 (Bg (bZ bM (ah (ax 0) ay))))
  (fw (cy 2 (a9 ki (ah (aq (a9 dN (ah (aq (bZ cz (ah (aq (aF Mg (ax 1) (aq (aA (.int 0))))) ay))) ay))) ay)))
  (fw (M4 (Mw (aF Q8 (aq (aF uQ (aq (a9 lenA (ah (ax 1) ay))) (aq (aA (.int 1))))) (aq (aA (.int 60)))))
  cG
  br)
  (rN (xw (g0 (ax 1) (cM (aA (.int 1))) dn)) [none] (bj 0) (bZ cJ (ah (ax 0) ay)) (oH dv (ah (ax 0) ay)))))) env)
def bG:List D->Bool:=gT 1 3 (fw (cy 1 (Bg (bZ bM (ah (ax 0) ay))))
  (fw (cy 2 (a9 ki (ah (aq (a9 dN (ah (aq (bZ cz (ah (aq (aF Mg (ax 1) (aq (aA (.int 0))))) ay))) ay))) ay)))
  (fw (M4 (Mw (aF Q8 (aq (aF uQ (aq (a9 lenA (ah (ax 1) ay))) (aq (aA (.int 1))))) (aq (aA (.int 60)))))
  cG
  br)
  (fw (cy 3 (a9 dN (ah (aq (gc (xw (g0 (ax 1) (cM (aA (.int 1))) dn)) [none] (bj 0) jj (bZ cJ (ah (ax 0) ay)))) ay)))
  (Py (rA (Mw (bZ bA (ah (ax 2) (ah (ax 3) ay))))) (fA (ah (aq (aA (.str [116,104,101,32,110,97,109,101,115,32,97,110,100,32,97,114,99,115,32,97,114,101,32,110,111,32,99,104,97,114,116]))) ay)))))))
def iK:FS:=(sSeq (M4 (Mw (aF PJ (ax 1) (aq (a9 lenA (ah (ax 0) ay)))))
  (eI (aF Mg (ax 0) (ax 1)))
  br)
  (eI (aA (.int 0))))
def aG:List D->Res R:=fBody 2 0 iK
def dR:FS:=(sSeq (cy 10 (aF addD (aq (aF addD (aq (g0 (ax 5) dn (cM (bq 7)))) (aq (aF Mg (ax 3) (aq (aF dm (aq (aF addD (ax 8) (ax 6))) (aq (aA (.int 26))))))))) (aq (g0 (ax 5) (cM (aF addD (ax 7) (aq (aA (.int 1))))) dn))))
  (kF (A3 9 (aF Mg (aq (fG (aw (bq 10) (aw (aA (.str [109,111,118,101,115,97])) aX)))) (aq (a9 Fw (ah (aq (bu Nr (ax 10) (aq (aA (.str [109,111,118,101,115]))))) ay)))))))
def iL:FS:=(yw (dA (ax 2)) (bj 6)
  dR)
def hU:FS:=(eI (kB 9))
def cW:FS:=(cy 5 (aF addD (ax 5) (aq (aF Mg (ax 3) (aq (aF dm (aq (aF addD (aq (aF eQ (ax 4) (aq (aF addD (ax 6) (aq (aA (.int 1))))))) (aq (aF yx (aq (aF yx (aq (aA (.int 3))) (ax 6))) (ax 6))))) (aq (aA (.int 26)))))))))
def iM:FS:=(yw (dA (aq (aF addD (aq (aA (.int 1))) (aq (aF dm (ax 4) (aq (aA (.int 8)))))))) (bj 6)
  cW)
def hV:FS:=(sSeq (cy 7 (aF dm (ax 1) (aq (a9 lenA (ah (ax 5) ay)))))
  (sSeq (cy 8 (Eb wU (ax 3) (ah (aq (aF Mg (ax 5) (ax 7))) ay)))
  (sSeq (cy 9 (fG aX))
  (sSeq iL
  hU))))
def ku:FS:=(sSeq (cy 3 (aA (.str [97,98,99,100,101,102,103,104,105,106,107,108,109,110,111,112,113,114,115,116,117,118,119,120,121,122])))
  (sSeq (cy 4 (aF dm (ax 0) (aq (aF wJ (aq (aA (.int 10))) (aq (aA (.int 20)))))))
  (sSeq (cy 5 (aA (.str [])))
  (sSeq iM
  hV))))
def cH:List D->Res R:=fBody 3 8 ku
def dt:FS:=(sSeq (cy 5 (aF dm (ax 6) (aq (aF wJ (aq (aA (.int 10))) (aq (aA (.int 12)))))))
  (Fz 3 (iG (aw (aF dm (ax 5) (ax 2)) (aw (aF Mg (ax 1) (aq (aF dm (aq (aF eQ (ax 5) (aq (aA (.int 60))))) (aq (a9 lenA (ah (ax 1) ay)))))) (aw (aF dm (aq (aF eQ (ax 5) (aq (aA (.int 300))))) (ax 2)) aX)))) (aA (.bl true))))
def jB:FS:=(yw (xw (g0 (ax 0) (cM (aA (.int 14))) (cM (aA (.int 22))))) (bj 6)
  dt)
def iN:FS:=(eI (a9 zL (ah (ax 3) ay)))
def eD:FS:=(sSeq (cy 5 (aF dm (aq (bZ aG (ah (ax 0) (ah (aq (aF addD (aq (aA (.int 2))) (ax 4))) ay)))) (aq (aF wJ (aq (aA (.int 10))) (aq (aA (.int 12)))))))
  (Fz 3 (iG (aw (aF dm (ax 5) (ax 4)) (aw (aF Mg (ax 1) (aq (aF dm (aq (aF eQ (ax 5) (aq (aA (.int 60))))) (aq (a9 lenA (ah (ax 1) ay)))))) (aw (bq 4) aX)))) (aA (.bl true))))
def jC:FS:=(yw (om (ah (aq (aA (.int 1))) (ah (ax 2) ay))) (bj 4)
  eD)
def iO:FS:=(sSeq jB
  iN)
def lV:FS:=(sSeq (cy 2 (aF addD (aq (aA (.int 1))) (aq (aF dm (aq (bZ aG (ah (ax 0) (ah (aq (aA (.int 2))) ay)))) (aq (aA (.int 6)))))))
  (sSeq (cy 3 (w6 (iG (aw (aA (.int 0)) (aw (aF Mg (ax 1) (aq (aA (.int 0)))) (aw (aA (.int 0)) aX)))) (aA (.bl true))))
  (sSeq jC
  iO)))
def eh:List D->Res R:=fBody 2 5 lV
def du:FS:=(kF (A3 2 (Eb oG (aq (aA (.str [32]))) (ah (aq (gc (OB (mJ 3) (OB (kG (bq 3)) (kH (bq 3)))) [none] (bj 0) jj (a9 Ee (ah (ax 0) ay)))) ay))))
def jD:FS:=(yw (xw (bq 1)) (bj 3)
  du)
def iP:FS:=(eI (Eb oG (aq (aA (.str [59,32]))) (ah (ax 2) ay)))
def lW:FS:=(sSeq (cy 2 (fG (aw (Eb oG (aq (aA (.str [32]))) (ah (ax 0) ay)) aX)))
  (sSeq jD
  iP))
def bV:List D->Res R:=fBody 2 2 lW
def lX:FS:=(eI (aF addD (aq (aF addD (aq (g0 (ax 0) dn (cM (bq 1)))) (aq (fG (aw (bq 2) aX))))) (aq (g0 (ax 0) (cM (aF addD (ax 1) (aq (aA (.int 1))))) dn))))
def m__law_with:List D->Res R:=fBody 3 0 lX
def g__law_form_fault_w0:FS:=(sSeq (cy 6 (aF dm (ax 4) (aq (aA (.int 3)))))
  (cy 1 (bZ m__law_with (ah (ax 1) (ah (ax 3) (ah (aq (aF addT (aq (g0 (ax 5) dn (cM (bq 6)))) (aq (g0 (ax 5) (cM (aF addD (ax 6) (aq (aA (.int 1))))) dn)))) ay))))))
def g__law_form_fault_w1:FS:=(sSeq (cy 7 (aF Mg (aq (fG (aw (aA (.str [97])) (aw (aA (.str [55])) (aw (aA (.str [109,111,118,101,115])) aX))))) (aq (aF dm (ax 4) (aq (aA (.int 3)))))))
  (sSeq (cy 6 (aF dm (aq (aF eQ (ax 4) (aq (aA (.int 3))))) (aq (aA (.int 4)))))
  (cy 1 (bZ m__law_with (ah (ax 1) (ah (ax 3) (ah (aq (aF addT (aq (aF addT (aq (g0 (ax 5) dn (cM (bq 6)))) (aq (iG (aw (bq 7) aX))))) (aq (g0 (ax 5) (cM (bq 6)) dn)))) ay)))))))
def g__law_form_fault_w2:FS:=(cy 0 (aF addD (aq (fG (aw (aF Mg (aq (fG (aw (aA (.str [109,111,118,101])) (aw (aA (.str [77,111,118,101,115])) (aw (aA (.str [109,111,118,101,115,115])) (aw (aA (.str [55])) aX)))))) (aq (aF dm (ax 4) (aq (aA (.int 4)))))) aX))) (aq (g0 (ax 0) (cM (aA (.int 1))) dn))))
def g__law_form_fault_w3:FS:=(cy 1 (aF addD (aq (aF addD (aq (g0 (ax 1) dn (cM (bq 3)))) (aq (fG (aw (iG aX) aX))))) (aq (g0 (ax 1) (cM (bq 3)) dn))))
def g__law_form_fault_w4:FS:=(cy 0 (aF addD (ax 0) (aq (fG (aw (aF Mg (aq (fG (aw (aF yx (aq (aA (.str [97]))) (aq (aA (.int 9)))) (aw (aA (.str [109,111,118,101,115])) (aw (aA (.str [55])) (aw (aA (.str [122,122,122,122,122,122,122,122,122])) aX)))))) (aq (aF dm (ax 4) (aq (aA (.int 4)))))) aX)))))
def g__law_form_fault_w5:FS:=(sSeq (cy 8 (aF Mg (aq (fG (aw (aA (.str [109,111,118,101,115])) (aw (aF yx (aq (aA (.str [97]))) (aq (aA (.int 9)))) (aw (aA (.str [97,98,99,100,101,102,103,104,105])) aX))))) (aq (aF dm (ax 4) (aq (aA (.int 3)))))))
  (cy 1 (bZ m__law_with (ah (ax 1) (ah (ax 3) (ah (aq (iG (aw (aF Mg (ax 5) (aq (aA (.int 0)))) (aw (bq 8) (aw (aF Mg (ax 5) (aq (aA (.int 2)))) aX))))) ay))))))
def g__law_form_fault_w6:FS:=(cy 0 (aF addD (aq (fG (aw (aA (.str [109,111,118,101,115])) aX))) (aq (gc (dA (aq (aA (.int 6)))) [none] (bj 0) jj (aF addD (aq (aA (.str [110]))) (aq (aF Mg (aq (aA (.str [97,98,99,100,101,102]))) (ax 0))))))))
def g__law_form_fault_w7:FS:=(cy 1 (aF addD (ax 1) (aq (aF Ec (aq (fG (aw (bq 5) aX))) (aq (aF uQ (aq (aA (.int 61))) (aq (a9 lenA (ah (ax 1) ay)))))))))
def g__law_form_fault_w8:FS:=(cy 1 (aF addD (ax 1) (aq (aF Ec (aq (fG (aw (iG aX) aX))) (aq (aF addD (aq (aA (.int 1))) (aq (aF dm (ax 4) (aq (aA (.int 2)))))))))))
def g__law_form_fault_w9:FS:=(sSeq (cy 8 (fG (aw (iG (aw (aF Mg (ax 5) (aq (aA (.int 1)))) (aw (aA (.int 0)) (aw (aA (.int 1)) aX)))) (aw (iG (aw (aA (.int 0)) (aw (aA (.int 7)) (aw (aA (.int 1)) aX)))) (aw (iG (aw (aA (.int 0)) (aw (aF Mg (ax 5) (aq (aA (.int 1)))) (aw (aA (.str [98])) aX)))) (aw (iG (aw (aA (.str [109,111,118,101,115])) (aw (aA (.str [97])) (aw (aA (.int 0)) aX)))) aX))))))
  (cy 1 (bZ m__law_with (ah (ax 1) (ah (ax 3) (ah (aq (aF Mg (ax 8) (aq (aF dm (ax 4) (aq (aA (.int 4))))))) ay))))))
def g__law_form_fault_w10:FS:=(cy 0 (aF addD (aq (fG (aw (aA (.str [109,111,118,101,115])) (aw (aA (.str [110,97])) (aw (aA (.str [110,98])) (aw (aA (.str [110,99])) (aw (aA (.str [110,100])) (aw (aA (.str [110,101])) aX)))))))) (aq (fG (aw (aF Mg (aq (fG (aw (aA (.str [110,97])) (aw (aA (.str [110,102])) aX)))) (aq (aF dm (ax 4) (aq (aA (.int 2)))))) aX)))))
def g__law_form_fault_w11:FS:=(sSeq (cy 0 (aF Mg (aq (fG (aw (fG aX) (aw (fG (aw (aA (.str [32])) aX)) (aw (fG (aw (aA (.str [])) aX)) aX))))) (aq (aF dm (ax 4) (aq (aA (.int 3)))))))
  (cy 1 (aF Mg (aq (fG (aw (bq 1) (aw (fG aX) (aw (g0 (ax 1) dn (cM (aA (.int 1)))) aX))))) (aq (aF dm (aq (aF eQ (ax 4) (aq (aA (.int 3))))) (aq (aA (.int 3))))))))
def gw:FS:=(sSeq (cy 5 (aF Mg (ax 1) (ax 3)))
  (sSeq (M4 (Mw (bu Nr (ax 2) (aq (aA (.int 0))))) g__law_form_fault_w0 br)
  (sSeq (M4 (Mw (bu Nr (ax 2) (aq (aA (.int 1))))) g__law_form_fault_w1 br)
  (sSeq (M4 (Mw (bu Nr (ax 2) (aq (aA (.int 2))))) g__law_form_fault_w2 br)
  (sSeq (M4 (Mw (bu Nr (ax 2) (aq (aA (.int 3))))) g__law_form_fault_w3 br)
  (sSeq (M4 (Mw (bu Nr (ax 2) (aq (aA (.int 4))))) g__law_form_fault_w4 br)
  (sSeq (M4 (Mw (bu Nr (ax 2) (aq (aA (.int 5))))) g__law_form_fault_w5 br)
  (sSeq (M4 (Mw (bu Nr (ax 2) (aq (aA (.int 6))))) g__law_form_fault_w6 br)
  (sSeq (M4 (Mw (bu Nr (ax 2) (aq (aA (.int 7))))) g__law_form_fault_w7 br)
  (sSeq (M4 (Mw (bu Nr (ax 2) (aq (aA (.int 8))))) g__law_form_fault_w8 br)
  (sSeq (M4 (Mw (bu Nr (ax 2) (aq (aA (.int 9))))) g__law_form_fault_w9 br)
  (sSeq (M4 (Mw (bu Nr (ax 2) (aq (aA (.int 10))))) g__law_form_fault_w10 br)
  (sSeq (M4 (Mw (bu Nr (ax 2) (aq (aA (.int 11))))) g__law_form_fault_w11 br)
  (eI (bZ bV (ah (ax 0) (ah (ax 1) ay)))))))))))))))))
def m__law_form_fault:List D->Res R:=fBody 5 4 gw
def bS:FS:=(sSeq (cy 6 (aF Mg (ax 1) (ax 3)))
  (sSeq (cy 7 (a9 maxD (ah (aq (gc (OB (mJ 1) (OB (kG (bq 1)) (kH (bq 1)))) [none,none,none] (tu 3 (cn (bj 0) (cn (bj 1) (cn (bj 2) jR)))) jj (a9 maxD (ah (ax 0) (ah (ax 2) ay))))) ay)))
  (sSeq (M4 (Mw (bu Nr (ax 2) (aq (aA (.int 0)))))
  (eI (iG (aw (aF addD (ax 0) (aq (fG (aw (aF Mg (ax 0) (aq (aF addD (aq (aA (.int 1))) (aq (aF dm (ax 4) (aq (aF uQ (aq (a9 lenA (ah (ax 0) ay))) (aq (aA (.int 1)))))))))) aX)))) (aw (bq 1) aX))))
  br)
  (sSeq (M4 (Mw (bu Nr (ax 2) (aq (aA (.int 1)))))
  (eI (iG (aw (bq 0) (aw (aF addD (aq (aF addD (aq (g0 (ax 1) dn (cM (bq 3)))) (aq (fG (aw (iG (aw (aF Mg (ax 6) (aq (aA (.int 0)))) (aw (bq 5) (aw (aF Mg (ax 6) (aq (aA (.int 2)))) aX)))) aX))))) (aq (g0 (ax 1) (cM (bq 3)) dn))) aX))))
  br)
  (sSeq (M4 (Mw (bu Nr (ax 2) (aq (aA (.int 2)))))
  (sSeq (cy 8 (aF dm (ax 4) (aq (aF addD (aq (a9 lenA (ah (ax 1) ay))) (aq (aA (.int 1)))))))
  (eI (iG (aw (bq 0) (aw (aF addD (aq (aF addD (aq (g0 (ax 1) dn (cM (bq 8)))) (aq (fG (aw (bq 6) aX))))) (aq (g0 (ax 1) (cM (bq 8)) dn))) aX)))))
  br)
  (sSeq (M4 (Mw (bu Nr (ax 2) (aq (aA (.int 3)))))
  (eI (iG (aw (bq 0) (aw (aF addD (ax 1) (aq (fG (aw (iG (aw (aF Mg (ax 6) (aq (aA (.int 0)))) (aw (aF Mg (ax 0) (aq (aA (.int 1)))) (aw (aF Mg (aq (fG (aw (aA (.int 12)) (aw (aA (.int 13)) (aw (aF addD (aq (aF wJ (aq (aA (.int 10))) (aq (aA (.int 30))))) (ax 4)) (aw (aA (.int 60)) aX)))))) (aq (aF dm (ax 4) (aq (aA (.int 4)))))) aX)))) aX)))) aX))))
  br)
  (eI (iG (aw (bq 0) (aw (aF addD (ax 1) (aq (fG (aw (iG (aw (aF addD (aq (aF addD (ax 7) (aq (aA (.int 1))))) (aq (aF dm (ax 4) (aq (aA (.int 3)))))) (aw (aF Mg (ax 0) (aq (aA (.int 1)))) (aw (aF Mg (aq (fG (aw (aF addD (ax 7) (aq (aA (.int 2)))) (aw (aA (.int 0)) (aw (aF addD (ax 7) (aq (aA (.int 1)))) aX))))) (aq (aF dm (aq (aF eQ (ax 4) (aq (aA (.int 3))))) (aq (aA (.int 3)))))) aX)))) aX)))) aX))))))))))
def aQ:List D->Res R:=fBody 6 3 bS
def cD:List D->Res R:=Vb x_read_chart [116,101,120,116]
def cN:List D->Res R:=Vb bG [99,104,97,114,116]
def lY:FS:=(sSeq (cy 1 (aA .non)) (sSeq (kF (bZ cV (ah (ax 0) ay))) (sSeq (M4 (Mw (bu VO (ax 1) (aq (aA .non))))
  (eI (aA (.str [])))
  br) cG)))
def cj:List D->Res R:=fBody 1 2 lY
def FY:FS:=(sSeq (cy 1 (bZ cH (ah (aq (bZ aG (ah (ax 0) (ah (aq (aA (.int 0))) ay)))) (ah (aq (bZ aG (ah (ax 0) (ah (aq (aA (.int 1))) ay)))) (ah (aq (aF addD (aq (aA (.int 2))) (aq (aF dm (aq (bZ aG (ah (ax 0) (ah (aq (aA (.int 8))) ay)))) (aq (aA (.int 3))))))) ay)))))
  (sSeq (cy 2 (aF addD (aq (fG (aw (aA (.str [109,111,118,101,115])) aX))) (ax 1)))
  (sSeq (cy 3 (bZ eh (ah (ax 0) (ah (ax 1) ay))))
  (sSeq (M4 (Mw (bu OW (aq (bZ cj (ah (aq (bZ bV (ah (ax 2) (ah (ax 3) ay)))) ay))) (aq (aA (.str [])))))
  (eI (aA (.bl false)))
  br)
  (sSeq (cy 4 (aF dm (aq (bZ aG (ah (ax 0) (ah (aq (aA (.int 9))) ay)))) (aq (a9 lenA (ah (ax 3) ay)))))
  (sSeq (cy 5 (aF dm (aq (bZ aG (ah (ax 0) (ah (aq (aA (.int 10))) ay)))) (aq (aF wJ (aq (aA (.int 10))) (aq (aA (.int 12)))))))
  (sSeq (cy 6 (aF dm (aq (bZ aG (ah (ax 0) (ah (aq (aA (.int 11))) ay)))) (aq (aA (.int 4)))))
  (sSeq (M4 (Mw (bu Nr (ax 6) (aq (aA (.int 0)))))
  (sSeq (cy 7 (gc (dA (aq (aA (.int 24)))) [none,some 1] (bj 0) jj (iG (aw (aF dm (ax 0) (aq (aA (.int 12)))) (aw (aF Mg (ax 1) (aq (aF dm (aq (aF eQ (ax 0) (aq (aA (.int 12))))) (aq (aA (.int 2)))))) (aw (aF dm (aq (aF addD (ax 0) (aq (aA (.int 1))))) (aq (aA (.int 12)))) aX))))))
  (sSeq (cy 7 (aF addD (ax 7) (aq (gc (dA (aq (aA (.int 24)))) [none,some 1] (bj 0) jj (iG (aw (aF dm (ax 0) (aq (aA (.int 12)))) (aw (aF Mg (ax 1) (aq (aF eQ (ax 0) (aq (aA (.int 12)))))) (aw (aF dm (aq (aF addD (ax 0) (aq (aA (.int 2))))) (aq (aA (.int 12)))) aX))))))))
  (sSeq (cy 7 (aF addD (ax 7) (aq (gc (dA (aq (aA (.int 12)))) [none,some 1] (bj 0) jj (iG (aw (bq 0) (aw (aF Mg (ax 1) (aq (aA (.int 0)))) (aw (bq 0) aX))))))))
  (eI (bu Nr (aq (bZ cj (ah (aq (bZ bV (ah (ax 2) (ah (ax 7) ay)))) ay))) (aq (aA (.str []))))))))
  br)
  (sSeq (M4 (Mw (bu Nr (ax 6) (aq (aA (.int 1)))))
  (eI (bu Nr (aq (bZ cD (ah (aq (bZ m__law_form_fault (ah (ax 2) (ah (ax 3) (ah (aq (aF dm (ax 5) (aq (aA (.int 12))))) (ah (ax 4) (ah (aq (aF eQ (ax 5) (aq (aA (.int 12))))) ay))))))) ay))) (aq (aA (.str [116,101,120,116])))))
  br)
  (sSeq (cy 8 (aF Mg (aq (bZ cH (ah (aq (bZ aG (ah (ax 0) (ah (aq (aA (.int 0))) ay)))) (ah (aq (bZ aG (ah (ax 0) (ah (aq (aA (.int 1))) ay)))) (ah (aq (aA (.int 12))) ay))))) (aq (aA (.int 11)))))
  (sSeq (HA (bZ aQ (ah (ax 2) (ah (ax 3) (ah (aq (aF dm (ax 5) (aq (aA (.int 5))))) (ah (ax 4) (ah (aq (aF eQ (ax 5) (aq (aA (.int 5))))) (ah (ax 8) ay))))))) (tu 2 (cn (bj 2) (cn (bj 3) jR))))
  (sSeq (M4 (Mw (bu Nr (ax 6) (aq (aA (.int 2)))))
  (eI (bu Nr (aq (bZ cN (ah (aq (bZ bV (ah (ax 2) (ah (ax 3) ay)))) ay))) (aq (aA (.str [99,104,97,114,116])))))
  br)
  (eI (bu Nr (aq (bZ cD (ah (aq (bZ m__law_form_fault (ah (ax 2) (ah (ax 3) (ah (aq (aF dm (aq (aF eQ (ax 5) (aq (aA (.int 64))))) (aq (aA (.int 12))))) (ah (ax 4) (ah (aq (aF eQ (ax 5) (aq (aA (.int 768))))) ay))))))) ay))) (aq (aA (.str [116,101,120,116])))))))))))))))))
def m_law:List D->Res R:=fBody 1 8 FY
end LW
namespace LW
open PV
variable{α:Type}
theorem jk{Q:List α->Prop}(h:∀a,Q [a]):∀us,us.length=1->Q us
 |[a],_=>h a
theorem FZ{Q:List α->Prop}(h:∀a b,Q [a,b]):∀us,us.length=2->Q us
 |[a,b],_=>h a b
theorem HC{Q:List α->Prop}(h:∀a b c,Q [a,b,c]):∀us,us.length=3->Q us
 |[a,b,c],_=>h a b c
theorem K8{Q:List α->Prop}(h:∀a b c d e,Q [a,b,c,d,e]):∀us,us.length=5->Q us
 |[a,b,c,d,e],_=>h a b c d e
theorem K9{Q:List α->Prop}(h:∀a b c d e f,Q [a,b,c,d,e,f]):∀us,us.length=6->Q us
 |[a,b,c,d,e,f],_=>h a b c d e f
def Di:Expr->Bool
 | .Starred ..=>false
 |_=>true
theorem aS{e:Expr}{es:List Expr}{env:PySem.Env}(h:Di e=true):starEach (e::es) env=(false,eval e env)::starEach es env:=by cases e <;> first|rfl|cases h
theorem iQ{X:Cx}{tg e:Expr}{f:FX}(h:QE X e f):QI X tg e (OB (Fp f) (OB (kG f) (kH f))):=wO (Cw h) (wO (mU h) (mV h))
def top(i:Nat):Stmt:=PySem.Challenge.pw_netfinder_k05_charts_refused.main.body.getD i (.Pass ⟨0,0,0,0⟩)
theorem F0:Str.ofString "a" = S [97]:=by decide +kernel
theorem La:Str.ofString "z" = S [122]:=by decide +kernel
theorem IP:Str.ofString "0" = S [48]:=by decide +kernel
theorem Lb:Str.ofString "9" = S [57]:=by decide +kernel
theorem IQ:Str.ofString ";" = S [59]:=by decide +kernel
theorem HD:Str.ofString "semicolon" = S [115,101,109,105,99,111,108,111,110]:=by decide +kernel
theorem F2:Str.ofString " " = S [32]:=by decide +kernel
theorem HE:Str.ofString "blank" = S [98,108,97,110,107]:=by decide +kernel
theorem F3:Str.ofString "figure" = S [102,105,103,117,114,101]:=by decide +kernel
theorem Ka:Str.ofString "letter" = S [108,101,116,116,101,114]:=by decide +kernel
theorem IS:Str.ofString "no word has the sign " = S [110,111,32,119,111,114,100,32,104,97,115,32,116,104,101,32,115,105,103,110,32]:=by decide +kernel
theorem IT:Str.ofString "a number has more than sixty figures" = S [97,32,110,117,109,98,101,114,32,104,97,115,32,109,111,114,101,32,116,104,97,110,32,115,105,120,116,121,32,102,105,103,117,114,101,115]:=by decide +kernel
theorem IU:Str.ofString "a number has a 0 ahead of other figures" = S [97,32,110,117,109,98,101,114,32,104,97,115,32,97,32,48,32,97,104,101,97,100,32,111,102,32,111,116,104,101,114,32,102,105,103,117,114,101,115]:=by decide +kernel
theorem IV:Str.ofString "what is no text has no words" = S [119,104,97,116,32,105,115,32,110,111,32,116,101,120,116,32,104,97,115,32,110,111,32,119,111,114,100,115]:=by decide +kernel
theorem jX:Str.ofString "moves" = S [109,111,118,101,115]:=by decide +kernel
theorem IW:Str.ofString " stands where a number is asked for" = S [32,115,116,97,110,100,115,32,119,104,101,114,101,32,97,32,110,117,109,98,101,114,32,105,115,32,97,115,107,101,100,32,102,111,114]:=by decide +kernel
theorem IX:Str.ofString " stands where a move's name is asked for" = S [32,115,116,97,110,100,115,32,119,104,101,114,101,32,97,32,109,111,118,101,39,115,32,110,97,109,101,32,105,115,32,97,115,107,101,100,32,102,111,114]:=by decide +kernel
theorem IY:Str.ofString "the first part does not begin with the word moves" = S [116,104,101,32,102,105,114,115,116,32,112,97,114,116,32,100,111,101,115,32,110,111,116,32,98,101,103,105,110,32,119,105,116,104,32,116,104,101,32,119,111,114,100,32,109,111,118,101,115]:=by decide +kernel
theorem IZ:Str.ofString "there are more than 5 names" = S [116,104,101,114,101,32,97,114,101,32,109,111,114,101,32,116,104,97,110,32,53,32,110,97,109,101,115]:=by decide +kernel
theorem I0:Str.ofString "an arc is a number, a name and a number" = S [97,110,32,97,114,99,32,105,115,32,97,32,110,117,109,98,101,114,44,32,97,32,110,97,109,101,32,97,110,100,32,97,32,110,117,109,98,101,114]:=by decide +kernel
theorem Ja:Str.ofString "there are more than 60 arcs" = S [116,104,101,114,101,32,97,114,101,32,109,111,114,101,32,116,104,97,110,32,54,48,32,97,114,99,115]:=by decide +kernel
theorem Jb:Str.ofString "the names and arcs are no chart" = S [116,104,101,32,110,97,109,101,115,32,97,110,100,32,97,114,99,115,32,97,114,101,32,110,111,32,99,104,97,114,116]:=by decide +kernel
theorem Jc:Str.ofString "movesa" = S [109,111,118,101,115,97]:=by decide +kernel
theorem xy:Str.ofString "" = S []:=by decide +kernel
theorem Jd:Str.ofString "abcdefghijklmnopqrstuvwxyz" = S [97,98,99,100,101,102,103,104,105,106,107,108,109,110,111,112,113,114,115,116,117,118,119,120,121,122]:=by decide +kernel
theorem Je:Str.ofString "; " = S [59,32]:=by decide +kernel
theorem Jf:Str.ofString "ne" = S [110,101]:=by decide +kernel
theorem Jg:Str.ofString "nd" = S [110,100]:=by decide +kernel
theorem Jh:Str.ofString "nc" = S [110,99]:=by decide +kernel
theorem Ji:Str.ofString "nb" = S [110,98]:=by decide +kernel
theorem F4:Str.ofString "na" = S [110,97]:=by decide +kernel
theorem Jj:Str.ofString "nf" = S [110,102]:=by decide +kernel
theorem Jk:Str.ofString "b" = S [98]:=by decide +kernel
theorem Jl:Str.ofString "n" = S [110]:=by decide +kernel
theorem Jm:Str.ofString "abcdef" = S [97,98,99,100,101,102]:=by decide +kernel
theorem Jn:Str.ofString "abcdefghi" = S [97,98,99,100,101,102,103,104,105]:=by decide +kernel
theorem Jo:Str.ofString "zzzzzzzzz" = S [122,122,122,122,122,122,122,122,122]:=by decide +kernel
theorem Dj:Str.ofString "7" = S [55]:=by decide +kernel
theorem Jp:Str.ofString "movess" = S [109,111,118,101,115,115]:=by decide +kernel
theorem Jq:Str.ofString "Moves" = S [77,111,118,101,115]:=by decide +kernel
theorem Jr:Str.ofString "move" = S [109,111,118,101]:=by decide +kernel
theorem zN:Str.ofString "text" = S [116,101,120,116]:=by decide +kernel
theorem Dk:Str.ofString "chart" = S [99,104,97,114,116]:=by decide +kernel
variable{LY LZ M7 MB MH Mn Mq Nh Ni:WP}
section
variable{P:W1}{w:World}{K:W.Frag}{mg:Str->Option Wp}{base:UF}
abbrev iZ:Stmt:=top 12
theorem qi:FnScope ["sign"] ["sign"] (defScope iZ):=fs
theorem qj(Df:Def K mg "is_letter" iZ):Ct P w K mg base "is_letter" 1 (spF K cq):=
 dY Df qi (λ_ _ _ _ _ _=>jk λ_=>rfl) λf MA A outer s H E hr=>
  (az (bg (oi pJ pJ (aa (aH F0 (by decide))) (af (pv 0)) (aa (aH La (by decide))))))
abbrev i4:Stmt:=top 13
theorem ql:FnScope ["sign"] ["sign"] (defScope i4):=fs
theorem qm(Df:Def K mg "is_figure" i4):Ct P w K mg base "is_figure" 1 (spF K bU):=
 dY Df ql (λ_ _ _ _ _ _=>jk λ_=>rfl) λf MA A outer s H E hr=>
  (az (bg (oi pJ pJ (aa (aH IP (by decide))) (af (pv 0)) (aa (aH Lb (by decide))))))
abbrev jE:Stmt:=top 14
theorem nE:FnScope ["sign"] ["sign"] (defScope jE):=fs
theorem uW(Df:Def K mg "kind_of" jE)(MV:Ct P w K mg base "is_figure" 1 (spF K bU))(Nv:Ct P w K mg base "is_letter" 1 (spF K cq)):Ct P w K mg base "kind_of" 2 (spF K cA):=
 dY Df nE (λ_ _ _ _ _ _=>jk λ_=>rfl) λf MA A outer s H E hr=>
  (au (bH (eO (aJ Nv hr.m (by rfl) (ae (af (pv 0)) ai)))
  (az (bg (aH Ka (by decide))))
  aO)
  (au (bH (eO (aJ MV hr.m (by rfl) (ae (af (pv 0)) ai)))
  (az (bg (aH F3 (by decide))))
  aO)
  (au (bH (aT (cF hr.units) (af (pv 0)) (aa (aH F2 (by decide))) (aR _))
  (az (bg (aH HE (by decide))))
  aO)
  (au (bH (aT (cF hr.units) (af (pv 0)) (aa (aH IQ (by decide))) (aR _))
  (az (bg (aH HD (by decide))))
  aO)
  (az bP)))))
theorem rQ(Df:Def K mg "kind_of" jE)(MV:Ct P w K mg base "is_figure" 1 (spF K bU))(Nv:Ct P w K mg base "is_letter" 1 (spF K cq))(Me:XCl mg base "NoText" LY):CtX P w K mg base "kind_of" 2 LY (spX K LY gr):=
 g5 Df nE (λ_ _ _ _ _ _=>jk λ_=>rfl) λf MA A outer s H E hr=>
  (bE (bH (eO (aJ Nv hr.m (by rfl) (ae (af (pv 0)) ai)))
  (az (bg (aH Ka (by decide))))
  aO)
  (bE (bH (eO (aJ MV hr.m (by rfl) (ae (af (pv 0)) ai)))
  (az (bg (aH F3 (by decide))))
  aO)
  (bE (bH (aT (cF hr.units) (af (pv 0)) (aa (aH F2 (by decide))) (aR _))
  (az (bg (aH HE (by decide))))
  aO)
  (bE (bH (aT (cF hr.units) (af (pv 0)) (aa (aH IQ (by decide))) (aR _))
  (az (bg (aH HD (by decide))))
  aO)
  (dP Me gX rfl (by rfl) (ae (aa (rH (jU (aH IS (by decide)) (jU (rJ (aN (pv 0))) xc)))) ai))))))
abbrev fK:Stmt:=top 15
theorem df:FnScope ["text","start","kind","end"] ["text","start","kind"] (defScope fK):=fs
theorem oK(Df:Def K mg "end_of_run" fK)(M5:Ct P w K mg base "kind_of" 2 (spF K cA))(L7:mg "len" = none):Ct P w K mg base "end_of_run" 3 (spF K bR):=
 dY Df df (λ_ _ _ _ _ _=>HC λ_ _ _=>rfl) λf MA A outer s H E hr=>
  (au (aK (i:=3) df.nd rfl (lo rfl) (aI aY (af (pv 1)) (aa ao)))
  (au (bH (aT (cF hr.units) (af (pv 2)) (aa (aH HD (by decide))) (aR _))
  (az (bg (gH (pv 3))))
  aO)
  (au (oj 100000 abe (QW.qt (pE (dD (ju hr.units0) (af (pv 3)) (aa (aM bo (by rfl) L7 bt_len (ae (af (pv 0)) ai))) (aR _)) (lr (aT (cF hr.units) (aa (aJ M5 hr.m (by rfl) (ae (aa (bz (af (pv 0)) (af (pv 3)))) ai))) (af (pv 2)) (aR _)))))
  (az (aK (i:=3) df.nd rfl (lo rfl) (aI aY (af (pv 3)) (aa ao)))))
  (az (bg (gH (pv 3)))))))
theorem mK(Df:Def K mg "end_of_run" fK)(OE:CtX P w K mg base "kind_of" 2 LY (spX K LY gr))(M5:Ct P w K mg base "kind_of" 2 (spF K cA))(L7:mg "len" = none):CtX P w K mg base "end_of_run" 3 LY (spX K LY g8):=
 g5 Df df (λ_ _ _ _ _ _=>HC λ_ _ _=>rfl) λf MA A outer s H E hr=>
  (bE (aK (i:=3) df.nd rfl (lo rfl) (aI aY (af (pv 1)) (aa ao)))
  (bE (bH (aT (cF hr.units) (af (pv 2)) (aa (aH HD (by decide))) (aR _))
  (az (bg (gH (pv 3))))
  aO)
  (ua 100000 PassesOwn.leaving (PWX.pt (CZ (dD (ju hr.units0) (af (pv 3)) (aa (aM bo (by rfl) L7 bt_len (ae (af (pv 0)) ai))) (aR _)) (zw (C2 acc_on (eM OE hr.m (by rfl) (ae (aa (bz (af (pv 0)) (af (pv 3)))) ai)))))) (QW.qt (pE (dD (ju hr.units0) (af (pv 3)) (aa (aM bo (by rfl) L7 bt_len (ae (af (pv 0)) ai))) (aR _)) (lr (aT (cF hr.units) (aa (aJ M5 hr.m (by rfl) (ae (aa (bz (af (pv 0)) (af (pv 3)))) ai))) (af (pv 2)) (aR _)))))
  IL
  (az (aK (i:=3) df.nd rfl (lo rfl) (aI aY (af (pv 3)) (aa ao)))))))
abbrev dS:Stmt:=top 16
theorem gS:FnScope ["figures"] ["figures"] (defScope dS):=fs
theorem kM(Df:Def K mg "check_figures" dS)(Mj:Gi mg "MOST_FIGURES" (60))(L7:mg "len" = none):Ct P w K mg base "check_figures" 1 (spF K cu):=
 dY Df gS (λ_ _ _ _ _ _=>jk λ_=>rfl) λf MA A outer s H E hr=>
  (au (bH (dD jS (aa (aM bo (by rfl) L7 bt_len (ae (af (pv 0)) ai))) (aa (jq Mj (by rfl))) (aR _))
  (az bP)
  aO)
  (az (bH (QW.qt (pE (dD jS (aa (aM bo (by rfl) L7 bt_len (ae (af (pv 0)) ai))) (aa ao) (aR _)) (lr (aT (cF hr.units) (aa (bz (af (pv 0)) (aa ao))) (aa (aH IP (by decide))) (aR _)))))
  (az bP)
  aO)))
theorem jY(Df:Def K mg "check_figures" dS)(Me:XCl mg base "NoText" LY)(Mj:Gi mg "MOST_FIGURES" (60))(L7:mg "len" = none):CtX P w K mg base "check_figures" 1 LY (spX K LY fB):=
 g5 Df gS (λ_ _ _ _ _ _=>jk λ_=>rfl) λf MA A outer s H E hr=>
  (kK (lJ (dD jS (aa (aM bo (by rfl) L7 bt_len (ae (af (pv 0)) ai))) (aa (jq Mj (by rfl))) (aR _)) (dP Me gX rfl (by rfl) (ae (aa (aH IT (by decide))) ai))) (bE (bH (dD jS (aa (aM bo (by rfl) L7 bt_len (ae (af (pv 0)) ai))) (aa (jq Mj (by rfl))) (aR _))
  (az bP)
  aO)
  (lJ (QW.qt (pE (dD jS (aa (aM bo (by rfl) L7 bt_len (ae (af (pv 0)) ai))) (aa ao) (aR _)) (lr (aT (cF hr.units) (aa (bz (af (pv 0)) (aa ao))) (aa (aH IP (by decide))) (aR _))))) (dP Me gX rfl (by rfl) (ae (aa (aH IU (by decide))) ai)))))
abbrev oM:Stmt:=top 17
theorem cv:FnScope ["text","told","start","kind","end","word"] ["text"] (defScope oM):=fs
theorem zO(Df:Def K mg "words" oM)(Nz:Ct P w K mg base "check_figures" 1 (spF K cu))(NC:Ct P w K mg base "end_of_run" 3 (spF K bR))(M5:Ct P w K mg base "kind_of" 2 (spF K cA))(L4:mg "isinstance" = none)(L7:mg "len" = none)(OX:mg "str" = none):Ct P w K mg base "words" 4 (spF K jV):=
 dY Df cv (λ_ _ _ _ _ _=>jk λ_=>rfl) λf MA A outer s H E hr=>
  (au (bH (fZ (eO (CH (T:="str") (by decide) (af (pv 0)) (by rfl) L4 (by rfl) OX sJ)))
  (az bP)
  aO)
  (au (aK (i:=1) cv.nd rfl (lo rfl) (bC aE))
  (au (aK (i:=2) cv.nd rfl (lo rfl) ao)
  (au (oj 100000 abe (dD (ju hr.units0) (af (pv 2)) (aa (aM bo (by rfl) L7 bt_len (ae (af (pv 0)) ai))) (aR _))
  (au (aK (i:=3) cv.nd rfl (lo rfl) (aJ M5 hr.m (by rfl) (ae (aa (bz (af (pv 0)) (af (pv 2)))) ai)))
  (au (aK (i:=4) cv.nd rfl (lo rfl) (aJ NC hr.m (by rfl) (ae (af (pv 0)) (ae (af (pv 2)) (ae (af (pv 3)) ai)))))
  (au (aK (i:=5) cv.nd rfl (lo rfl) (bX (af (pv 0)) (ba (aN (pv 2))) (ba (aN (pv 4)))))
  (au (bH (aT (cF hr.units) (af (pv 3)) (aa (aH F3 (by decide))) (aR _))
  (az (fg (aJ Nz hr.m (by rfl) (ae (af (pv 5)) ai))))
  aO)
  (au (bH (aT (kJ hr.units) (af (pv 3)) (aa (aH HE (by decide))) (aR _))
  (az (fg (gj (pv 1) (aN (pv 5)))))
  aO)
  (az (aK (i:=2) cv.nd rfl (lo rfl) (aN (pv 4))))))))))
  (az (bg (gH (pv 1))))))))
theorem xA(Df:Def K mg "words" oM)(O8:CtX P w K mg base "check_figures" 1 LY (spX K LY fB))(Qo:CtX P w K mg base "end_of_run" 3 LY (spX K LY g8))(OE:CtX P w K mg base "kind_of" 2 LY (spX K LY gr))(Nz:Ct P w K mg base "check_figures" 1 (spF K cu))(NC:Ct P w K mg base "end_of_run" 3 (spF K bR))(M5:Ct P w K mg base "kind_of" 2 (spF K cA))(Me:XCl mg base "NoText" LY)(L4:mg "isinstance" = none)(L7:mg "len" = none)(OX:mg "str" = none):CtX P w K mg base "words" 4 LY (spX K LY lP):=
 g5 Df cv (λ_ _ _ _ _ _=>jk λ_=>rfl) λf MA A outer s H E hr=>
  (kK (lJ (fZ (eO (CH (T:="str") (by decide) (af (pv 0)) (by rfl) L4 (by rfl) OX sJ))) (dP Me gX rfl (by rfl) (ae (aa (aH IV (by decide))) ai))) (bE (bH (fZ (eO (CH (T:="str") (by decide) (af (pv 0)) (by rfl) L4 (by rfl) OX sJ)))
  (az bP)
  aO)
  (bE (aK (i:=1) cv.nd rfl (lo rfl) (bC aE))
  (bE (aK (i:=2) cv.nd rfl (lo rfl) ao)
  (ua 100000 PassesOwn.leaving FV (dD (ju hr.units0) (af (pv 2)) (aa (aM bo (by rfl) L7 bt_len (ae (af (pv 0)) ai))) (aR _))
  (kK (kK (t9 acc_on (eM OE hr.m (by rfl) (ae (aa (bz (af (pv 0)) (af (pv 2)))) ai))) (bE (aK (i:=3) cv.nd rfl (lo rfl) (aJ M5 hr.m (by rfl) (ae (aa (bz (af (pv 0)) (af (pv 2)))) ai)))
  (t9 acc_on (eM Qo hr.m (by rfl) (ae (af (pv 0)) (ae (af (pv 2)) (ae (af (pv 3)) ai))))))) (bE (aK (i:=3) cv.nd rfl (lo rfl) (aJ M5 hr.m (by rfl) (ae (aa (bz (af (pv 0)) (af (pv 2)))) ai)))
  (bE (aK (i:=4) cv.nd rfl (lo rfl) (aJ NC hr.m (by rfl) (ae (af (pv 0)) (ae (af (pv 2)) (ae (af (pv 3)) ai)))))
  (bE (aK (i:=5) cv.nd rfl (lo rfl) (bX (af (pv 0)) (ba (aN (pv 2))) (ba (aN (pv 4)))))
  (lJ (aT (cF hr.units) (af (pv 3)) (aa (aH F3 (by decide))) (aR _)) (CU acc_on (eM O8 hr.m (by rfl) (ae (af (pv 5)) ai))))))))
  (au (aK (i:=3) cv.nd rfl (lo rfl) (aJ M5 hr.m (by rfl) (ae (aa (bz (af (pv 0)) (af (pv 2)))) ai)))
  (au (aK (i:=4) cv.nd rfl (lo rfl) (aJ NC hr.m (by rfl) (ae (af (pv 0)) (ae (af (pv 2)) (ae (af (pv 3)) ai)))))
  (au (aK (i:=5) cv.nd rfl (lo rfl) (bX (af (pv 0)) (ba (aN (pv 2))) (ba (aN (pv 4)))))
  (au (bH (aT (cF hr.units) (af (pv 3)) (aa (aH F3 (by decide))) (aR _))
  (az (fg (aJ Nz hr.m (by rfl) (ae (af (pv 5)) ai))))
  aO)
  (au (bH (aT (kJ hr.units) (af (pv 3)) (aa (aH HE (by decide))) (aR _))
  (az (fg (gj (pv 1) (aN (pv 5)))))
  aO)
  (az (aK (i:=2) cv.nd rfl (lo rfl) (aN (pv 4))))))))))))))
abbrev i5:Stmt:=top 23
theorem qo:FnScope ["chart"] ["chart"] (defScope i5):=fs
theorem qp(Df:Def K mg "states_of" i5)(Ph:mg "max" = none):Ct P w K mg base "states_of" 1 (spF K d8):=
 dY Df qo (λ_ _ _ _ _ _=>jk λ_=>rfl) λf MA A outer s H E hr=>
  (az (bg (aI aY (aa ao) (aa (CG rfl (by rfl) Ph (c5 [none,none,none] ["first","move","second"] rfl (dO (iQ (bz (af (pv 0)) (aa ao)))) (λ_ _ _ _ _=>(have h:=(show List.Nodup (["first","move","second"]:List Str) from by decide +kernel);(pG rfl (cZ (bB (i:=0) h rfl (lo rfl)) (cZ (bB (i:=1) h rfl (lo rfl)) (cZ (bB (i:=2) h rfl (lo rfl)) lu)))))) (λ_ _ _ _ _=>dJ) (λ_ _ _ _ _=>(aM (wN rfl) (by rfl) Ph wV (ae (af (pv 0)) (ae (af (pv 2)) ai))))) ao)))))
abbrev lZ:Stmt:=top 24
theorem uX:FnScope ["text"] ["text"] (defScope lZ):=fs
theorem uY(Df:Def K mg "is_name" lZ)(Nv:Ct P w K mg base "is_letter" 1 (spF K cq))(MX:Gi mg "LONGEST_NAME" (8))(OC:mg "all" = none)(L7:mg "len" = none):Ct P w K mg base "is_name" 2 (spF K dq):=
 dY Df uX (λ_ _ _ _ _ _=>jk λ_=>rfl) λf MA A outer s H E hr=>
  (au (bH (QW.qt (Cv (aT (cF hr.units) (af (pv 0)) (aa (aH jX (by decide))) (aR _)) (wC (fZ (zf pJ pJ (aa ao) (aa (aM bo (by rfl) L7 bt_len (ae (af (pv 0)) ai))) (aa (jq MX (by rfl))))))))
  (az (bg rq))
  aO)
  (az (bg (aM (tM rfl) (by rfl) OC tW (ae (aa (c5 [none] ["sign"] rfl (iH (lH (pv 0)) (iH (dO (mU (aN (pv 0)))) (dO (mV (aN (pv 0)))))) (λ_ _ _ _ _=>(bB (i:=0) (show List.Nodup (["sign"]:List Str) from by decide +kernel) rfl (lo rfl))) (λ_ _ _ _ _=>dJ) (λ_ _ _ _ _=>(aJ Nv hr.m (by rfl) (ae (af (pv 0)) ai))))) ai)))))
abbrev rR:Stmt:=top 25
theorem zP:FnScope ["values"] ["values"] (defScope rR):=fs
theorem zQ(Df:Def K mg "rises" rR)(OC:mg "all" = none)(PM:mg "zip" = none):Ct P w K mg base "rises" 1 (spF K fS):=
 dY Df zP (λ_ _ _ _ _ _=>jk λ_=>rfl) λf MA A outer s H E hr=>
  (az (bg (aM (tM rfl) (by rfl) OC tW (ae (aa (c5 [none,none] ["one","other"] rfl (dO (wO (tG true true (by rfl) PM (ae (aa (aN (pv 0))) (ae (aa (bX (af (pv 0)) (ba ao) bJ)) ai))) (wO (tG true false (by rfl) PM (ae (aa (aN (pv 0))) (ae (aa (bX (af (pv 0)) (ba ao) bJ)) ai))) (wO (tG false true (by rfl) PM (ae (aa (aN (pv 0))) (ae (aa (bX (af (pv 0)) (ba ao) bJ)) ai))) (tG false false (by rfl) PM (ae (aa (aN (pv 0))) (ae (aa (bX (af (pv 0)) (ba ao) bJ)) ai))))))) (λ_ _ _ _ _=>(have h:=(show List.Nodup (["one","other"]:List Str) from by decide +kernel);(pG rfl (cZ (bB (i:=0) h rfl (lo rfl)) (cZ (bB (i:=1) h rfl (lo rfl)) lu))))) (λ_ _ _ _ _=>dJ) (λ_ _ _ _ _=>(AR (ju hr.units0) (af (pv 0)) (af (pv 1)) (aR _))))) ai))))
abbrev i6:Stmt:=top 26
theorem qq:FnScope ["moves"] ["moves"] (defScope i6):=fs
theorem qr(Df:Def K mg "are_moves" i6)(NZ:Ct P w K mg base "is_name" 2 (spF K dq))(QA:Ct P w K mg base "rises" 1 (spF K fS))(Mf:Gi mg "MOST_MOVES" (5))(OC:mg "all" = none)(L7:mg "len" = none):Ct P w K mg base "are_moves" 3 (spF K d9):=
 dY Df qq (λ_ _ _ _ _ _=>jk λ_=>rfl) λf MA A outer s H E hr=>
  (az (bg (tm (AR pJ (aa (aM bo (by rfl) L7 bt_len (ae (af (pv 0)) ai))) (aa (jq Mf (by rfl))) (aR _)) (tm (aJ QA hr.m (by rfl) (ae (af (pv 0)) ai)) (AX (aM (tM rfl) (by rfl) OC tW (ae (aa (c5 [none] ["move"] rfl (iH (lH (pv 0)) (iH (dO (mU (aN (pv 0)))) (dO (mV (aN (pv 0)))))) (λ_ _ _ _ _=>(bB (i:=0) (show List.Nodup (["move"]:List Str) from by decide +kernel) rfl (lo rfl))) (λ_ _ _ _ _=>dJ) (λ_ _ _ _ _=>(aJ NZ hr.m (by rfl) (ae (af (pv 0)) ai))))) ai)))))))
abbrev jZ:Stmt:=top 27
theorem rS:FnScope ["number"] ["number"] (defScope jZ):=fs
theorem rT(Df:Def K mg "is_state" jZ)(Nc:Gi mg "MOST_STATES" (12)):Ct P w K mg base "is_state" 1 (spF K c7):=
 dY Df rS (λ_ _ _ _ _ _=>jk λ_=>rfl) λf MA A outer s H E hr=>
  (az (bg (oi pJ (ju hr.units0) (aa ao) (af (pv 0)) (aa (jq Nc (by rfl))))))
abbrev j0:Stmt:=top 28
theorem rV:FnScope ["arcs","moves"] ["arcs","moves"] (defScope j0):=fs
theorem rW(Df:Def K mg "are_arcs" j0)(PN:Ct P w K mg base "is_state" 1 (spF K c7))(QA:Ct P w K mg base "rises" 1 (spF K fS))(Ma:Gi mg "MOST_ARCS" (60))(OC:mg "all" = none)(L7:mg "len" = none):Ct P w K mg base "are_arcs" 2 (spF K eZ):=
 dY Df rV (λ_ _ _ _ _ _=>FZ λ_ _=>rfl) λf MA A outer s H E hr=>
  (au (bH (QW.qt (Cv (dD jS (aa (aM bo (by rfl) L7 bt_len (ae (af (pv 0)) ai))) (aa (jq Ma (by rfl))) (aR _)) (wC (fZ (eO (aJ QA hr.m (by rfl) (ae (af (pv 0)) ai)))))))
  (az (bg rq))
  aO)
  (az (bg (aM (tM rfl) (by rfl) OC tW (ae (aa (c5 [none,none,none,some 1] ["first","move","second","moves"] rfl (iH (lH (pv 0)) (iH (dO (mU (aN (pv 0)))) (dO (mV (aN (pv 0)))))) (λ_ _ _ _ _=>(have h:=(show List.Nodup (["first","move","second","moves"]:List Str) from by decide +kernel);(pG rfl (cZ (bB (i:=0) h rfl (lo rfl)) (cZ (bB (i:=1) h rfl (lo rfl)) (cZ (bB (i:=2) h rfl (lo rfl)) lu)))))) (λ_ _ _ _ _=>dJ) (λ_ _ _ _ _=>(tm (aJ PN hr.m (by rfl) (ae (af (pv 0)) ai)) (tm (iU (IB hr.u65) (af (pv 1)) (af (pv 3)) (by with_unfolding_all rfl)) (AX (aJ PN hr.m (by rfl) (ae (af (pv 2)) ai)))))))) ai)))))
abbrev l6:Stmt:=top 29
theorem e7:FnScope ["arcs","met","tree","looked_at","arc"] ["arcs"] (defScope l6):=fs
theorem uZ(Df:Def K mg "tree_of" l6)(L7:mg "len" = none):Ct P w K mg base "tree_of" 1 (spF K fC):=
 dY Df e7 (λ_ _ _ _ _ _=>jk λ_=>rfl) λf MA A outer s H E hr=>
  (au (aK (i:=1) e7.nd rfl (lo rfl) (bC (aj ao aE)))
  (au (aK (i:=2) e7.nd rfl (lo rfl) (bC aE))
  (au (aK (i:=3) e7.nd rfl (lo rfl) ao)
  (au (oj 100000 abe (dD (ju hr.units0) (af (pv 3)) (aa (aM bo (by rfl) L7 bt_len (ae (af (pv 1)) ai))) (aR _))
  (au (ly abe rfl (iQ (aN (pv 0))) (bB (i:=4) e7.nd rfl (lo rfl))
  (az (bH (QW.qt (pE (aT (cF hr.units) (aa (bz (af (pv 4)) (aa ao))) (aa (bz (af (pv 1)) (af (pv 3)))) (aR _)) (lr (aT (Fv hr.u65) (aa (bz (af (pv 4)) (aa ao))) (af (pv 1)) (by with_unfolding_all rfl)))))
  (au (fg (gj (pv 1) (bz (af (pv 4)) (aa ao))))
  (az (fg (gj (pv 2) (aN (pv 4))))))
  aO)))
  (az (aK (i:=3) e7.nd rfl (lo rfl) (aI aY (af (pv 3)) (aa ao))))))
  (az (bg (gH (pv 2))))))))
abbrev j3:Stmt:=top 30
theorem rX:FnScope ["moves","arcs"] ["moves","arcs"] (defScope j3):=fs
theorem rY(Df:Def K mg "is_chart" j3)(RH:Ct P w K mg base "are_arcs" 2 (spF K eZ))(Ra:Ct P w K mg base "are_moves" 3 (spF K d9))(Rb:Ct P w K mg base "states_of" 1 (spF K d8))(Sq:Ct P w K mg base "tree_of" 1 (spF K fC))(L7:mg "len" = none):Ct P w K mg base "is_chart" 4 (spF K bA):=
 dY Df rX (λ_ _ _ _ _ _=>FZ λ_ _=>rfl) λf MA A outer s H E hr=>
  (au (bH (QW.qt (Cv (fZ (eO (aJ Ra hr.m (by rfl) (ae (af (pv 0)) ai)))) (wC (fZ (eO (aJ RH hr.m (by rfl) (ae (af (pv 1)) (ae (af (pv 0)) ai))))))))
  (az (bg rq))
  aO)
  (az (bg (iU (cF hr.units) (aa (aI aY (aa ao) (aa (aM bo (by rfl) L7 bt_len (ae (aa (aJ Sq hr.m (by rfl) (ae (af (pv 1)) ai))) ai))))) (aa (aJ Rb hr.m (by rfl) (ae (aa (cP (aj (aN (pv 0)) (aj (aN (pv 1)) aE)))) ai))) (aR _)))))
abbrev iq:Stmt:=top 32
theorem fD:FnScope ["text","parts","word"] ["text"] (defScope iq):=fs
theorem rZ(Df:Def K mg "parts_of" iq)(TQ:Ct P w K mg base "words" 4 (spF K jV)):Ct P w K mg base "parts_of" 5 (spF K bM):=
 dY Df fD (λ_ _ _ _ _ _=>jk λ_=>rfl) λf MA A outer s H E hr=>
  (au (aK (i:=1) fD.nd rfl (lo rfl) (xg (bC aE)))
  (au (ly abe rfl (iQ (aJ TQ hr.m (by rfl) (ae (af (pv 0)) ai))) (bB (i:=2) fD.nd rfl (lo rfl))
  (az (bH (aT (cF hr.units) (af (pv 2)) (aa (aH IQ (by decide))) (aR _))
  (az (fg (CQ (pv 1) (bC aE))))
  (az (fg (CS (pv 1) IK (pv 2)))))))
  (az (bg (gH (pv 1))))))
theorem qu(Df:Def K mg "parts_of" iq)(S2:CtX P w K mg base "words" 4 LY (spX K LY lP)):CtX P w K mg base "parts_of" 5 LY (spX K LY gv):=
 g5 Df fD (λ_ _ _ _ _ _=>jk λ_=>rfl) λf MA A outer s H E hr=>
  (bE (aK (i:=1) fD.nd rfl (lo rfl) (xg (bC aE)))
  (FU acc_on (eM S2 hr.m (by rfl) (ae (af (pv 0)) ai))))
abbrev gJ:Stmt:=top 33
theorem kx:FnScope ["word"] ["word"] (defScope gJ):=fs
theorem qw(Df:Def K mg "number_of" gJ)(MV:Ct P w K mg base "is_figure" 1 (spF K bU))(N8:mg "int" = none):Ct P w K mg base "number_of" 2 (spF K bN):=
 dY Df kx (λ_ _ _ _ _ _=>jk λ_=>rfl) λf MA A outer s H E hr=>
  (au (bH (fZ (eO (aJ MV hr.m (by rfl) (ae (aa (bz (af (pv 0)) (aa ao))) ai))))
  (az bP)
  aO)
  (az (bg (eG CP (by rfl) N8 AI (ae (af (pv 0)) ai)))))
theorem oN(Df:Def K mg "number_of" gJ)(MV:Ct P w K mg base "is_figure" 1 (spF K bU))(Me:XCl mg base "NoText" LY):CtX P w K mg base "number_of" 2 LY (spX K LY cT):=
 g5 Df kx (λ_ _ _ _ _ _=>jk λ_=>rfl) λf MA A outer s H E hr=>
  (lJ (fZ (eO (aJ MV hr.m (by rfl) (ae (aa (bz (af (pv 0)) (aa ao))) ai)))) (dP Me gX rfl (by rfl) (ae (aa (rH (jU (rJ (aN (pv 0))) (jU (aH IW (by decide)) xc)))) ai)))
abbrev jF:Stmt:=top 34
theorem nF:FnScope ["word"] ["word"] (defScope jF):=fs
theorem u7(Df:Def K mg "name_of" jF)(NZ:Ct P w K mg base "is_name" 2 (spF K dq)):Ct P w K mg base "name_of" 3 (spF K bY):=
 dY Df nF (λ_ _ _ _ _ _=>jk λ_=>rfl) λf MA A outer s H E hr=>
  (au (bH (fZ (eO (aJ NZ hr.m (by rfl) (ae (af (pv 0)) ai))))
  (az bP)
  aO)
  (az (bg (gH (pv 0)))))
theorem r6(Df:Def K mg "name_of" jF)(NZ:Ct P w K mg base "is_name" 2 (spF K dq))(Me:XCl mg base "NoText" LY):CtX P w K mg base "name_of" 3 LY (spX K LY cU):=
 g5 Df nF (λ_ _ _ _ _ _=>jk λ_=>rfl) λf MA A outer s H E hr=>
  (lJ (fZ (eO (aJ NZ hr.m (by rfl) (ae (af (pv 0)) ai)))) (dP Me gX rfl (by rfl) (ae (aa (rH (jU (rJ (aN (pv 0))) (jU (aH IX (by decide)) xc)))) ai)))
abbrev ir:Stmt:=top 35
theorem l7:FnScope ["part"] ["part"] (defScope ir):=fs
theorem r9(Df:Def K mg "names_of" ir)(Np:Ct P w K mg base "name_of" 3 (spF K bY))(Mf:Gi mg "MOST_MOVES" (5))(L7:mg "len" = none):Ct P w K mg base "names_of" 4 (spF K cz):=
 dY Df l7 (λ_ _ _ _ _ _=>jk λ_=>rfl) λf MA A outer s H E hr=>
  (au (bH (aT (kJ hr.units) (aa (bX (af (pv 0)) bJ (ba ao))) (aa (bC (aj (aH jX (by decide)) aE))) (aR _))
  (az bP)
  aO)
  (au (bH (dD jS (aa (aI jt (aa (aM bo (by rfl) L7 bt_len (ae (af (pv 0)) ai))) (aa ao))) (aa (jq Mf (by rfl))) (aR _))
  (az bP)
  aO)
  (az (bg (c5 [none] ["word"] rfl (dO (iQ (bX (af (pv 0)) (ba ao) bJ))) (λ_ _ _ _ _=>(bB (i:=0) (show List.Nodup (["word"]:List Str) from by decide +kernel) rfl (lo rfl))) (λ_ _ _ _ _=>dJ) (λ_ _ _ _ _=>(aJ Np hr.m (by rfl) (ae (af (pv 0)) ai))))))))
theorem qx(Df:Def K mg "names_of" ir)(OF:CtX P w K mg base "name_of" 3 LY (spX K LY cU))(Np:Ct P w K mg base "name_of" 3 (spF K bY))(Me:XCl mg base "NoText" LY)(Mf:Gi mg "MOST_MOVES" (5))(L7:mg "len" = none):CtX P w K mg base "names_of" 4 LY (spX K LY de):=
 g5 Df l7 (λ_ _ _ _ _ _=>jk λ_=>rfl) λf MA A outer s H E hr=>
  (kK (kK (lJ (aT (kJ hr.units) (aa (bX (af (pv 0)) bJ (ba ao))) (aa (bC (aj (aH jX (by decide)) aE))) (aR _)) (dP Me gX rfl (by rfl) (ae (aa (aH IY (by decide))) ai))) (bE (bH (aT (kJ hr.units) (aa (bX (af (pv 0)) bJ (ba ao))) (aa (bC (aj (aH jX (by decide)) aE))) (aR _))
  (az bP)
  aO)
  (lJ (dD jS (aa (aI jt (aa (aM bo (by rfl) L7 bt_len (ae (af (pv 0)) ai))) (aa ao))) (aa (jq Mf (by rfl))) (aR _)) (dP Me gX rfl (by rfl) (ae (aa (aH IZ (by decide))) ai))))) (bE (bH (aT (kJ hr.units) (aa (bX (af (pv 0)) bJ (ba ao))) (aa (bC (aj (aH jX (by decide)) aE))) (aR _))
  (az bP)
  aO)
  (bE (bH (dD jS (aa (aI jt (aa (aM bo (by rfl) L7 bt_len (ae (af (pv 0)) ai))) (aa ao))) (aa (jq Mf (by rfl))) (aR _))
  (az bP)
  aO)
  (C6 FW (uc [none] ["word"] rfl (iQ (bX (af (pv 0)) (ba ao) bJ)) (λ_ _ _ _ _=>(bB (i:=0) (show List.Nodup (["word"]:List Str) from by decide +kernel) rfl (lo rfl))) (λ_ _ _ _ _=>(aJ Np hr.m (by rfl) (ae (af (pv 0)) ai))) (λ_ _ _ _ _=>(eM OF hr.m (by rfl) (ae (af (pv 0)) ai))))))))
abbrev kY:Stmt:=top 37
theorem qy:FnScope ["part"] ["part"] (defScope kY):=fs
theorem xB(Df:Def K mg "arc_of" kY)(Np:Ct P w K mg base "name_of" 3 (spF K bY))(Nw:Ct P w K mg base "number_of" 2 (spF K bN))(L7:mg "len" = none):Ct P w K mg base "arc_of" 4 (spF K cJ):=
 dY Df qy (λ_ _ _ _ _ _=>jk λ_=>rfl) λf MA A outer s H E hr=>
  (au (bH (aT (kJ hr.units) (aa (aM bo (by rfl) L7 bt_len (ae (af (pv 0)) ai))) (aa ao) (aR _))
  (az bP)
  aO)
  (az (bg (cP (aj (aJ Nw hr.m (by rfl) (ae (aa (bz (af (pv 0)) (aa ao))) ai)) (aj (aJ Np hr.m (by rfl) (ae (aa (bz (af (pv 0)) (aa ao))) ai)) (aj (aJ Nw hr.m (by rfl) (ae (aa (bz (af (pv 0)) (aa ao))) ai)) aE)))))))
theorem u9(Df:Def K mg "arc_of" kY)(OF:CtX P w K mg base "name_of" 3 LY (spX K LY cU))(OY:CtX P w K mg base "number_of" 2 LY (spX K LY cT))(Np:Ct P w K mg base "name_of" 3 (spF K bY))(Nw:Ct P w K mg base "number_of" 2 (spF K bN))(Me:XCl mg base "NoText" LY)(L7:mg "len" = none):CtX P w K mg base "arc_of" 4 LY (spX K LY dv):=
 g5 Df qy (λ_ _ _ _ _ _=>jk λ_=>rfl) λf MA A outer s H E hr=>
  (kK (kK (kK (lJ (aT (kJ hr.units) (aa (aM bo (by rfl) L7 bt_len (ae (af (pv 0)) ai))) (aa ao) (aR _)) (dP Me gX rfl (by rfl) (ae (aa (aH I0 (by decide))) ai))) (bE (bH (aT (kJ hr.units) (aa (aM bo (by rfl) L7 bt_len (ae (af (pv 0)) ai))) (aa ao) (aR _))
  (az bP)
  aO)
  (xh acc_on (rL (jy (eM OY hr.m (by rfl) (ae (aa (bz (af (pv 0)) (aa ao))) ai))))))) (bE (bH (aT (kJ hr.units) (aa (aM bo (by rfl) L7 bt_len (ae (af (pv 0)) ai))) (aa ao) (aR _))
  (az bP)
  aO)
  (xh acc_on (rL (oI (aJ Nw hr.m (by rfl) (ae (aa (bz (af (pv 0)) (aa ao))) ai)) (jy (eM OF hr.m (by rfl) (ae (aa (bz (af (pv 0)) (aa ao))) ai)))))))) (bE (bH (aT (kJ hr.units) (aa (aM bo (by rfl) L7 bt_len (ae (af (pv 0)) ai))) (aa ao) (aR _))
  (az bP)
  aO)
  (xh acc_on (rL (oI (aJ Nw hr.m (by rfl) (ae (aa (bz (af (pv 0)) (aa ao))) ai)) (oI (aJ Np hr.m (by rfl) (ae (aa (bz (af (pv 0)) (aa ao))) ai)) (jy (eM OY hr.m (by rfl) (ae (aa (bz (af (pv 0)) (aa ao))) ai)))))))))
abbrev eJ:Stmt:=top 38
theorem bh:FnScope ["text","parts","moves","arcs"] ["text"] (defScope eJ):=fs
theorem oO(Df:Def K mg "read_chart" eJ)(Of:Ct P w K mg base "arc_of" 4 (spF K cJ))(OG:Ct P w K mg base "is_chart" 4 (spF K bA))(Nq:Ct P w K mg base "names_of" 4 (spF K cz))(Ng:Ct P w K mg base "parts_of" 5 (spF K bM))(Ma:Gi mg "MOST_ARCS" (60))(L7:mg "len" = none)(ML:mg "sorted" = none)(Nt:mg "tuple" = none):Ct P w K mg base "read_chart" 6 (spF K cV):=
 dY Df bh (λ_ _ _ _ _ _=>jk λ_=>rfl) λf MA A outer s H E hr=>
  (au (aK (i:=1) bh.nd rfl (lo rfl) (pX (aJ Ng hr.m (by rfl) (ae (af (pv 0)) ai))))
  (au (aK (i:=2) bh.nd rfl (lo rfl) (eG kX (by rfl) Nt kR (ae (aa (aM (gm rfl) (by rfl) ML gq (ae (aa (aJ Nq hr.m (by rfl) (ae (aa (bz (af (pv 1)) (aa ao))) ai))) ai))) ai)))
  (au (bH (dD jS (aa (aI jt (aa (aM bo (by rfl) L7 bt_len (ae (af (pv 1)) ai))) (aa ao))) (aa (jq Ma (by rfl))) (aR _))
  (az bP)
  aO)
  (au (aK (i:=3) bh.nd rfl (lo rfl) (aM (gm rfl) (by rfl) ML gq (ae (aa (c5 [none] ["part"] rfl (dO (iQ (bX (af (pv 1)) (ba ao) bJ))) (λ_ _ _ _ _=>(bB (i:=0) (show List.Nodup (["part"]:List Str) from by decide +kernel) rfl (lo rfl))) (λ_ _ _ _ _=>dJ) (λ_ _ _ _ _=>(aJ Of hr.m (by rfl) (ae (af (pv 0)) ai))))) ai)))
  (au (bH (fZ (eO (aJ OG hr.m (by rfl) (ae (af (pv 2)) (ae (af (pv 3)) ai)))))
  (az bP)
  aO)
  (az (bg (CN (aN (pv 2)) (gH (pv 3))))))))))
theorem mL(Df:Def K mg "read_chart" eJ)(Sr:CtX P w K mg base "arc_of" 4 LY (spX K LY dv))(Rc:CtX P w K mg base "names_of" 4 LY (spX K LY de))(Rg:CtX P w K mg base "parts_of" 5 LY (spX K LY gv))(Of:Ct P w K mg base "arc_of" 4 (spF K cJ))(Nq:Ct P w K mg base "names_of" 4 (spF K cz))(Ng:Ct P w K mg base "parts_of" 5 (spF K bM))(Me:XCl mg base "NoText" LY)(Ma:Gi mg "MOST_ARCS" (60))(L7:mg "len" = none)(ML:mg "sorted" = none)(Nt:mg "tuple" = none):CtX P w K mg base "read_chart" 6 LY (spX K LY x_read_chart):=
 g5 Df bh (λ_ _ _ _ _ _=>jk λ_=>rfl) λf MA A outer s H E hr=>
  (kK (kK (kK (t9 acc_on (eM Rg hr.m (by rfl) (ae (af (pv 0)) ai))) (bE (aK (i:=1) bh.nd rfl (lo rfl) (pX (aJ Ng hr.m (by rfl) (ae (af (pv 0)) ai))))
  (t9 acc_on (uV (T:="tuple") (by rfl) Nt (by decide +kernel) (jy (xk (id:="sorted") (by rfl) ML (by decide +kernel) (jy (eM Rc hr.m (by rfl) (ae (aa (bz (af (pv 1)) (aa ao))) ai))))))))) (bE (aK (i:=1) bh.nd rfl (lo rfl) (pX (aJ Ng hr.m (by rfl) (ae (af (pv 0)) ai))))
  (bE (aK (i:=2) bh.nd rfl (lo rfl) (eG kX (by rfl) Nt kR (ae (aa (aM (gm rfl) (by rfl) ML gq (ae (aa (aJ Nq hr.m (by rfl) (ae (aa (bz (af (pv 1)) (aa ao))) ai))) ai))) ai)))
  (lJ (dD jS (aa (aI jt (aa (aM bo (by rfl) L7 bt_len (ae (af (pv 1)) ai))) (aa ao))) (aa (jq Ma (by rfl))) (aR _)) (dP Me gX rfl (by rfl) (ae (aa (aH Ja (by decide))) ai)))))) (bE (aK (i:=1) bh.nd rfl (lo rfl) (pX (aJ Ng hr.m (by rfl) (ae (af (pv 0)) ai))))
  (bE (aK (i:=2) bh.nd rfl (lo rfl) (eG kX (by rfl) Nt kR (ae (aa (aM (gm rfl) (by rfl) ML gq (ae (aa (aJ Nq hr.m (by rfl) (ae (aa (bz (af (pv 1)) (aa ao))) ai))) ai))) ai)))
  (bE (bH (dD jS (aa (aI jt (aa (aM bo (by rfl) L7 bt_len (ae (af (pv 1)) ai))) (aa ao))) (aa (jq Ma (by rfl))) (aR _))
  (az bP)
  aO)
  (C7 FW (xu (id:="sorted") (by rfl) ML (by decide +kernel) (zI (uc [none] ["part"] rfl (iQ (bX (af (pv 1)) (ba ao) bJ)) (λ_ _ _ _ _=>(bB (i:=0) (show List.Nodup (["part"]:List Str) from by decide +kernel) rfl (lo rfl))) (λ_ _ _ _ _=>(aJ Of hr.m (by rfl) (ae (af (pv 0)) ai))) (λ_ _ _ _ _=>(eM Sr hr.m (by rfl) (ae (af (pv 0)) ai)))))))))))
theorem gK(Df:Def K mg "read_chart" eJ)(Of:Ct P w K mg base "arc_of" 4 (spF K cJ))(OG:Ct P w K mg base "is_chart" 4 (spF K bA))(Nq:Ct P w K mg base "names_of" 4 (spF K cz))(Ng:Ct P w K mg base "parts_of" 5 (spF K bM))(NH:XCl mg base "NoChart" LZ)(Ma:Gi mg "MOST_ARCS" (60))(L7:mg "len" = none)(ML:mg "sorted" = none)(Nt:mg "tuple" = none):CtX P w K mg base "read_chart" 6 LZ (spX K LZ bG):=
 g5 Df bh (λ_ _ _ _ _ _=>jk λ_=>rfl) λf MA A outer s H E hr=>
  (bE (aK (i:=1) bh.nd rfl (lo rfl) (pX (aJ Ng hr.m (by rfl) (ae (af (pv 0)) ai))))
  (bE (aK (i:=2) bh.nd rfl (lo rfl) (eG kX (by rfl) Nt kR (ae (aa (aM (gm rfl) (by rfl) ML gq (ae (aa (aJ Nq hr.m (by rfl) (ae (aa (bz (af (pv 1)) (aa ao))) ai))) ai))) ai)))
  (bE (bH (dD jS (aa (aI jt (aa (aM bo (by rfl) L7 bt_len (ae (af (pv 1)) ai))) (aa ao))) (aa (jq Ma (by rfl))) (aR _))
  (az bP)
  aO)
  (bE (aK (i:=3) bh.nd rfl (lo rfl) (aM (gm rfl) (by rfl) ML gq (ae (aa (c5 [none] ["part"] rfl (dO (iQ (bX (af (pv 1)) (ba ao) bJ))) (λ_ _ _ _ _=>(bB (i:=0) (show List.Nodup (["part"]:List Str) from by decide +kernel) rfl (lo rfl))) (λ_ _ _ _ _=>dJ) (λ_ _ _ _ _=>(aJ Of hr.m (by rfl) (ae (af (pv 0)) ai))))) ai)))
  (lJ (fZ (eO (aJ OG hr.m (by rfl) (ae (af (pv 2)) (ae (af (pv 3)) ai))))) (dP NH gX rfl (by rfl) (ae (aa (aH Jb (by decide))) ai)))))))
abbrev fT:Stmt:=top 40
theorem l8:FnScope ["_law_script","_law_k"] ["_law_script","_law_k"] (defScope fT):=fs
theorem l9(Df:Def K mg "_law_cell_at" fT)(L7:mg "len" = none):Ct P w K mg base "_law_cell_at" 1 (spF K aG):=
 dY Df l8 (λ_ _ _ _ _ _=>FZ λ_ _=>rfl) λf MA A outer s H E hr=>
  (au (bH (dD (ju hr.units0) (af (pv 1)) (aa (aM bo (by rfl) L7 bt_len (ae (af (pv 0)) ai))) (aR _))
  (az (bg (bz (af (pv 0)) (af (pv 1)))))
  aO)
  (az (bg ao)))
abbrev hX:Stmt:=top 41
theorem bK:FnScope ["_law_cell","_law_where","_law_count","_law_letters","_law_number","_law_base","_law_k","_law_there","_law_at_first","_law_names_here","_law_name"] ["_law_cell","_law_where","_law_count"] (defScope hX):=fs
theorem oP(Df:Def K mg "_law_names" hX)(N8:mg "int" = none)(L7:mg "len" = none)(M6:mg "range" = none):Ct P w K mg base "_law_names" 1 (spF K cH):=
 dY Df bK (λ_ _ _ _ _ _=>HC λ_ _ _=>rfl) λf MA A outer s H E hr=>
  (au (aK (i:=3) bK.nd rfl (lo rfl) (aH Jd (by decide)))
  (au (aK (i:=4) bK.nd rfl (lo rfl) (aI bF (af (pv 0)) (aa (aI pI (aa ao) (aa ao)))))
  (au (aK (i:=5) bK.nd rfl (lo rfl) (aH xy (by decide)))
  (au (ly abe rfl (f9 (by rfl) M6 (aa (aI aY (aa ao) (aa (aI bF (af (pv 4)) (aa ao)))))) (bB (i:=6) bK.nd rfl (lo rfl))
  (az (aK (i:=5) bK.nd rfl (lo rfl) (aI aY (af (pv 5)) (aa (bz (af (pv 3)) (aa (aI bF (aa (aI aY (aa (aI dZ (af (pv 4)) (aa (aI aY (af (pv 6)) (aa ao))))) (aa (aI lI (aa (aI lI (aa ao) (af (pv 6)))) (af (pv 6)))))) (aa ao)))))))))
  (au (aK (i:=7) bK.nd rfl (lo rfl) (aI bF (af (pv 1)) (aa (aM bo (by rfl) L7 bt_len (ae (af (pv 5)) ai)))))
  (au (aK (i:=8) bK.nd rfl (lo rfl) (tV adA PySem.F.type_str_index zl (af (pv 3)) (ae (aa (bz (af (pv 5)) (af (pv 7)))) ai)))
  (au (aK (i:=9) bK.nd rfl (lo rfl) (bC aE))
  (au (ly abe rfl (f9 (by rfl) M6 (af (pv 2))) (bB (i:=6) bK.nd rfl (lo rfl))
  (au (aK (i:=10) bK.nd rfl (lo rfl) (aI aY (aa (aI aY (aa (bX (af (pv 5)) bJ (ba (aN (pv 7))))) (aa (bz (af (pv 3)) (aa (aI bF (aa (aI aY (af (pv 8)) (af (pv 6)))) (aa ao))))))) (aa (bX (af (pv 5)) (ba (aI aY (af (pv 7)) (aa ao))) bJ))))
  (az (fg (gj (pv 9) (bz (aa (bC (aj (aN (pv 10)) (aj (aH Jc (by decide)) aE)))) (aa (eG A6 (by rfl) N8 AI (ae (aa (iU (cF hr.units) (af (pv 10)) (aa (aH jX (by decide))) (aR _))) ai)))))))))
  (az (bg (gH (pv 9))))))))))))
abbrev i7:Stmt:=top 42
theorem cX:FnScope ["_law_script","_law_names_here","_law_count","_law_arcs_here","_law_state","_law_number","_law_cell"] ["_law_script","_law_names_here"] (defScope i7):=fs
theorem qz(Df:Def K mg "_law_arcs" i7)(Mc:Ct P w K mg base "_law_cell_at" 1 (spF K aG))(L7:mg "len" = none)(QB:mg "list" = none)(M6:mg "range" = none):Ct P w K mg base "_law_arcs" 2 (spF K eh):=
 dY Df cX (λ_ _ _ _ _ _=>FZ λ_ _=>rfl) λf MA A outer s H E hr=>
  (au (aK (i:=2) cX.nd rfl (lo rfl) (aI aY (aa ao) (aa (aI bF (aa (aJ Mc hr.m (by rfl) (ae (af (pv 0)) (ae (aa ao) ai)))) (aa ao)))))
  (au (aK (i:=3) cX.nd rfl (lo rfl) (zq (hu_of hr) (cP (aj ao (aj (bz (af (pv 1)) (aa ao)) (aj ao aE)))) rq))
  (au (ly abe rfl (wI (by rfl) M6 (ae (aa ao) (ae (af (pv 2)) ai))) (bB (i:=4) cX.nd rfl (lo rfl))
  (au (aK (i:=5) cX.nd rfl (lo rfl) (aI bF (aa (aJ Mc hr.m (by rfl) (ae (af (pv 0)) (ae (aa (aI aY (aa ao) (af (pv 4)))) ai)))) (aa (aI pI (aa ao) (aa ao)))))
  (az (Bd (hu_of hr) (pv 3) (cP (aj (aI bF (af (pv 5)) (af (pv 4))) (aj (bz (af (pv 1)) (aa (aI bF (aa (aI dZ (af (pv 5)) (aa ao))) (aa (aM bo (by rfl) L7 bt_len (ae (af (pv 1)) ai)))))) (aj (aN (pv 4)) aE)))) rq))))
  (au (ly abe rfl (iQ (bX (af (pv 0)) (ba ao) (ba ao))) (bB (i:=6) cX.nd rfl (lo rfl))
  (au (aK (i:=5) cX.nd rfl (lo rfl) (aI bF (af (pv 6)) (aa (aI pI (aa ao) (aa ao)))))
  (az (Bd (hu_of hr) (pv 3) (cP (aj (aI bF (af (pv 5)) (af (pv 2))) (aj (bz (af (pv 1)) (aa (aI bF (aa (aI dZ (af (pv 5)) (aa ao))) (aa (aM bo (by rfl) L7 bt_len (ae (af (pv 1)) ai)))))) (aj (aI bF (aa (aI dZ (af (pv 5)) (aa ao))) (af (pv 2))) aE)))) rq))))
  (az (bg (eG (zM rfl) (by rfl) QB B6 (ae (af (pv 3)) ai))))))))
abbrev i8:Stmt:=top 43
theorem hZ:FnScope ["_law_head","_law_arcs_here","_law_parts","_law_arc"] ["_law_head","_law_arcs_here"] (defScope i8):=fs
theorem qA(Df:Def K mg "_law_text" i8)(OX:mg "str" = none):Ct P w K mg base "_law_text" 1 (spF K bV):=
 dY Df hZ (λ_ _ _ _ _ _=>FZ λ_ _=>rfl) λf MA A outer s H E hr=>
  (au (aK (i:=2) hZ.nd rfl (lo rfl) (bC (aj (tV acw acx rF (aa (aH F2 (by decide))) (ae (af (pv 0)) ai)) aE)))
  (au (ly abe rfl (iQ (aN (pv 1))) (bB (i:=3) hZ.nd rfl (lo rfl))
  (az (fg (gj (pv 2) (tV acw acx rF (aa (aH F2 (by decide))) (ae (aa (c5 [none] ["_law_thing"] rfl (iH (lH (pv 3)) (iH (dO (mU (aN (pv 3)))) (dO (mV (aN (pv 3)))))) (λ_ _ _ _ _=>(bB (i:=0) (show List.Nodup (["_law_thing"]:List Str) from by decide +kernel) rfl (lo rfl))) (λ_ _ _ _ _=>dJ) (λ_ _ _ _ _=>(eG Dh (by rfl) OX sJ (ae (af (pv 0)) ai))))) ai))))))
  (az (bg (tV acw acx rF (aa (aH Je (by decide))) (ae (af (pv 2)) ai))))))
abbrev i9:Stmt:=top 44
theorem qB:FnScope ["_law_arcs_here","_law_k","_law_arc"] ["_law_arcs_here","_law_k","_law_arc"] (defScope i9):=fs
theorem qC(Df:Def K mg "_law_with" i9):Ct P w K mg base "_law_with" 1 (spF K m__law_with):=
 dY Df qB (λ_ _ _ _ _ _=>HC λ_ _ _=>rfl) λf MA A outer s H E hr=>
  (az (bg (aI aY (aa (aI aY (aa (bX (af (pv 0)) bJ (ba (aN (pv 1))))) (aa (bC (aj (aN (pv 2)) aE))))) (aa (bX (af (pv 0)) (ba (aI aY (af (pv 1)) (aa ao))) bJ)))))
abbrev eB:Stmt:=top 45
theorem aD:FnScope ["_law_head","_law_arcs_here","_law_way","_law_k","_law_number","_law_arc","_law_there","_law_more","_law_worse"] ["_law_head","_law_arcs_here","_law_way","_law_k","_law_number"] (defScope eB):=fs
theorem jG(Df:Def K mg "_law_form_fault" eB)(Nx:Ct P w K mg base "_law_text" 1 (spF K bV))(NQ:Ct P w K mg base "_law_with" 1 (spF K m__law_with))(L7:mg "len" = none)(M6:mg "range" = none):Ct P w K mg base "_law_form_fault" 2 (spF K m__law_form_fault):=
 dY Df aD (λ_ _ _ _ _ _=>K8 λ_ _ _ _ _=>rfl) λf MA A outer s H E hr=>by
   refine au (@aK _ _ _ _ _ 5 _ _ aD.nd rfl (lo rfl) (@bz _ _ _ _ _ _ (af (pv 1)) (af (pv 3)) (λ_ _=>rfl)) (by rfl) (by first|exact .inl rfl|exact .inr rfl)) ?_;refine au (@bH _ _ _ _ _ _ _ _ _ (aT (cF hr.units) (af (pv 2)) (@aa _ _ _ ao) (aR _)) (@au _ _ _ _ _ _ (@aK _ _ _ _ _ 6 _ _ aD.nd rfl (lo rfl) (@aI _ _ _ _ _ _ _ _ bF (af (pv 4)) (@aa _ _ _ ao)) (by rfl) (by first|exact .inl rfl|exact .inr rfl)) (@az _ _ _ _ (@aK _ _ _ _ _ 1 _ _ aD.nd rfl (lo rfl) (@aJ _ _ _ _ _ _ _ _ _ NQ hr.m (by rfl) (@ae _ _ _ _ _ (af (pv 1)) (@ae _ _ _ _ _ (af (pv 3)) (@ae _ _ _ _ _ (@aa _ _ _ (@aI _ _ _ _ _ _ _ _ rO (@aa _ _ _ (bX (af (pv 5)) bJ (ba (aN (pv 6))))) (@aa _ _ _ (bX (af (pv 5)) (ba (@aI _ _ _ _ _ _ _ _ aY (af (pv 6)) (@aa _ _ _ ao))) bJ)))) ai (aS rfl)) (aS rfl)) (aS rfl)) (by decide) (aS rfl) (by rfl)) (by rfl) (by first|exact .inl rfl|exact .inr rfl)))) aO) ?_;refine au (@bH _ _ _ _ _ _ _ _ _ (aT (cF hr.units) (af (pv 2)) (@aa _ _ _ ao) (aR _)) (@au _ _ _ _ _ _ (@aK _ _ _ _ _ 7 _ _ aD.nd rfl (lo rfl) (@bz _ _ _ _ _ _ (@aa _ _ _ (@bC _ _ _ _ (@aj _ _ _ _ _ (aH F0 (by decide)) (@aj _ _ _ _ _ (aH Dj (by decide)) (@aj _ _ _ _ _ (aH jX (by decide)) aE (aS rfl)) (aS rfl)) (aS rfl)))) (@aa _ _ _ (@aI _ _ _ _ _ _ _ _ bF (af (pv 4)) (@aa _ _ _ ao))) (λ_ _=>rfl)) (by rfl) (by first|exact .inl rfl|exact .inr rfl)) (@au _ _ _ _ _ _ (@aK _ _ _ _ _ 6 _ _ aD.nd rfl (lo rfl) (@aI _ _ _ _ _ _ _ _ bF (@aa _ _ _ (@aI _ _ _ _ _ _ _ _ dZ (af (pv 4)) (@aa _ _ _ ao))) (@aa _ _ _ ao)) (by rfl) (by first|exact .inl rfl|exact .inr rfl)) (@az _ _ _ _ (@aK _ _ _ _ _ 1 _ _ aD.nd rfl (lo rfl) (@aJ _ _ _ _ _ _ _ _ _ NQ hr.m (by rfl) (@ae _ _ _ _ _ (af (pv 1)) (@ae _ _ _ _ _ (af (pv 3)) (@ae _ _ _ _ _ (@aa _ _ _ (@aI _ _ _ _ _ _ _ _ rO (@aa _ _ _ (@aI _ _ _ _ _ _ _ _ rO (@aa _ _ _ (bX (af (pv 5)) bJ (ba (aN (pv 6))))) (@aa _ _ _ (@cP _ _ _ _ _ (@aj _ _ _ _ _ (aN (pv 7)) aE (aS rfl)))))) (@aa _ _ _ (bX (af (pv 5)) (ba (aN (pv 6))) bJ)))) ai (aS rfl)) (aS rfl)) (aS rfl)) (by decide) (aS rfl) (by rfl)) (by rfl) (by first|exact .inl rfl|exact .inr rfl))))) aO) ?_;refine au (@bH _ _ _ _ _ _ _ _ _ (aT (cF hr.units) (af (pv 2)) (@aa _ _ _ ao) (aR _)) (@az _ _ _ _ (@aK _ _ _ _ _ 0 _ _ aD.nd rfl (lo rfl) (@aI _ _ _ _ _ _ _ _ aY (@aa _ _ _ (@bC _ _ _ _ (@aj _ _ _ _ _ (@bz _ _ _ _ _ _ (@aa _ _ _ (@bC _ _ _ _ (@aj _ _ _ _ _ (aH Jr (by decide)) (@aj _ _ _ _ _ (aH Jq (by decide)) (@aj _ _ _ _ _ (aH Jp (by decide)) (@aj _ _ _ _ _ (aH Dj (by decide)) aE (aS rfl)) (aS rfl)) (aS rfl)) (aS rfl)))) (@aa _ _ _ (@aI _ _ _ _ _ _ _ _ bF (af (pv 4)) (@aa _ _ _ ao))) (λ_ _=>rfl)) aE (aS rfl)))) (@aa _ _ _ (bX (af (pv 0)) (ba ao) bJ))) (by rfl) (by first|exact .inl rfl|exact .inr rfl))) aO) ?_;refine au (@bH _ _ _ _ _ _ _ _ _ (aT (cF hr.units) (af (pv 2)) (@aa _ _ _ ao) (aR _)) (@az _ _ _ _ (@aK _ _ _ _ _ 1 _ _ aD.nd rfl (lo rfl) (@aI _ _ _ _ _ _ _ _ aY (@aa _ _ _ (@aI _ _ _ _ _ _ _ _ aY (@aa _ _ _ (bX (af (pv 1)) bJ (ba (aN (pv 3))))) (@aa _ _ _ (@bC _ _ _ _ (@aj _ _ _ _ _ (@cP _ _ _ _ _ aE) aE (aS rfl)))))) (@aa _ _ _ (bX (af (pv 1)) (ba (aN (pv 3))) bJ))) (by rfl) (by first|exact .inl rfl|exact .inr rfl))) aO) ?_;refine au (@bH _ _ _ _ _ _ _ _ _ (aT (cF hr.units) (af (pv 2)) (@aa _ _ _ ao) (aR _)) (@az _ _ _ _ (@aK _ _ _ _ _ 0 _ _ aD.nd rfl (lo rfl) (@aI _ _ _ _ _ _ _ _ aY (af (pv 0)) (@aa _ _ _ (@bC _ _ _ _ (@aj _ _ _ _ _ (@bz _ _ _ _ _ _ (@aa _ _ _ (@bC _ _ _ _ (@aj _ _ _ _ _ (@aI _ _ _ _ _ _ _ _ lI (@aa _ _ _ (aH F0 (by decide))) (@aa _ _ _ ao)) (@aj _ _ _ _ _ (aH jX (by decide)) (@aj _ _ _ _ _ (aH Dj (by decide)) (@aj _ _ _ _ _ (aH Jo (by decide)) aE (aS rfl)) (aS rfl)) (aS rfl)) (aS rfl)))) (@aa _ _ _ (@aI _ _ _ _ _ _ _ _ bF (af (pv 4)) (@aa _ _ _ ao))) (λ_ _=>rfl)) aE (aS rfl))))) (by rfl) (by first|exact .inl rfl|exact .inr rfl))) aO) ?_;refine au (@bH _ _ _ _ _ _ _ _ _ (aT (cF hr.units) (af (pv 2)) (@aa _ _ _ ao) (aR _)) (@au _ _ _ _ _ _ (@aK _ _ _ _ _ 8 _ _ aD.nd rfl (lo rfl) (@bz _ _ _ _ _ _ (@aa _ _ _ (@bC _ _ _ _ (@aj _ _ _ _ _ (aH jX (by decide)) (@aj _ _ _ _ _ (@aI _ _ _ _ _ _ _ _ lI (@aa _ _ _ (aH F0 (by decide))) (@aa _ _ _ ao)) (@aj _ _ _ _ _ (aH Jn (by decide)) aE (aS rfl)) (aS rfl)) (aS rfl)))) (@aa _ _ _ (@aI _ _ _ _ _ _ _ _ bF (af (pv 4)) (@aa _ _ _ ao))) (λ_ _=>rfl)) (by rfl) (by first|exact .inl rfl|exact .inr rfl)) (@az _ _ _ _ (@aK _ _ _ _ _ 1 _ _ aD.nd rfl (lo rfl) (@aJ _ _ _ _ _ _ _ _ _ NQ hr.m (by rfl) (@ae _ _ _ _ _ (af (pv 1)) (@ae _ _ _ _ _ (af (pv 3)) (@ae _ _ _ _ _ (@aa _ _ _ (@cP _ _ _ _ _ (@aj _ _ _ _ _ (@bz _ _ _ _ _ _ (af (pv 5)) (@aa _ _ _ ao) (λ_ _=>rfl)) (@aj _ _ _ _ _ (aN (pv 8)) (@aj _ _ _ _ _ (@bz _ _ _ _ _ _ (af (pv 5)) (@aa _ _ _ ao) (λ_ _=>rfl)) aE (aS rfl)) (aS rfl)) (aS rfl)))) ai (aS rfl)) (aS rfl)) (aS rfl)) (by decide) (aS rfl) (by rfl)) (by rfl) (by first|exact .inl rfl|exact .inr rfl)))) aO) ?_;refine au (@bH _ _ _ _ _ _ _ _ _ (aT (cF hr.units) (af (pv 2)) (@aa _ _ _ ao) (aR _)) (@az _ _ _ _ (@aK _ _ _ _ _ 0 _ _ aD.nd rfl (lo rfl) (@aI _ _ _ _ _ _ _ _ aY (@aa _ _ _ (@bC _ _ _ _ (@aj _ _ _ _ _ (aH jX (by decide)) aE (aS rfl)))) (@aa _ _ _ (c5 [none] ["_law_j"] rfl (dO (f9 (by rfl) M6 (@aa _ _ _ ao))) (λ_ _ _ _ _=>(bB (i:=0) (show List.Nodup (["_law_j"]:List Str) from by decide +kernel) rfl (lo rfl))) (λ_ _ _ _ _=>dJ) (λ_ _ _ _ _=>(@aI _ _ _ _ _ _ _ _ aY (@aa _ _ _ (aH Jl (by decide))) (@aa _ _ _ (@bz _ _ _ _ _ _ (@aa _ _ _ (aH Jm (by decide))) (af (pv 0)) (λ_ _=>rfl)))))))) (by rfl) (by first|exact .inl rfl|exact .inr rfl))) aO) ?_;refine au (@bH _ _ _ _ _ _ _ _ _ (aT (cF hr.units) (af (pv 2)) (@aa _ _ _ ao) (aR _)) (@az _ _ _ _ (@aK _ _ _ _ _ 1 _ _ aD.nd rfl (lo rfl) (@aI _ _ _ _ _ _ _ _ aY (af (pv 1)) (@aa _ _ _ (@aI _ _ _ _ _ _ _ _ wZ (@aa _ _ _ (@bC _ _ _ _ (@aj _ _ _ _ _ (aN (pv 5)) aE (aS rfl)))) (@aa _ _ _ (@aI _ _ _ _ _ _ _ _ jt (@aa _ _ _ ao) (@aa _ _ _ (@aM _ _ _ _ _ _ _ _ _ bo (by rfl) L7 bt_len (@ae _ _ _ _ _ (af (pv 1)) ai (aS rfl)) (by decide) (by decide) (aS rfl) (by rfl)))))))) (by rfl) (by first|exact .inl rfl|exact .inr rfl))) aO) ?_;refine au (@bH _ _ _ _ _ _ _ _ _ (aT (cF hr.units) (af (pv 2)) (@aa _ _ _ ao) (aR _)) (@az _ _ _ _ (@aK _ _ _ _ _ 1 _ _ aD.nd rfl (lo rfl) (@aI _ _ _ _ _ _ _ _ aY (af (pv 1)) (@aa _ _ _ (@aI _ _ _ _ _ _ _ _ wZ (@aa _ _ _ (@bC _ _ _ _ (@aj _ _ _ _ _ (@cP _ _ _ _ _ aE) aE (aS rfl)))) (@aa _ _ _ (@aI _ _ _ _ _ _ _ _ aY (@aa _ _ _ ao) (@aa _ _ _ (@aI _ _ _ _ _ _ _ _ bF (af (pv 4)) (@aa _ _ _ ao)))))))) (by rfl) (by first|exact .inl rfl|exact .inr rfl))) aO) ?_;refine au (@bH _ _ _ _ _ _ _ _ _ (aT (cF hr.units) (af (pv 2)) (@aa _ _ _ ao) (aR _)) (@au _ _ _ _ _ _ (@aK _ _ _ _ _ 8 _ _ aD.nd rfl (lo rfl) (@bC _ _ _ _ (@aj _ _ _ _ _ (@cP _ _ _ _ _ (@aj _ _ _ _ _ (@bz _ _ _ _ _ _ (af (pv 5)) (@aa _ _ _ ao) (λ_ _=>rfl)) (@aj _ _ _ _ _ ao (@aj _ _ _ _ _ ao aE (aS rfl)) (aS rfl)) (aS rfl))) (@aj _ _ _ _ _ (@cP _ _ _ _ _ (@aj _ _ _ _ _ ao (@aj _ _ _ _ _ ao (@aj _ _ _ _ _ ao aE (aS rfl)) (aS rfl)) (aS rfl))) (@aj _ _ _ _ _ (@cP _ _ _ _ _ (@aj _ _ _ _ _ ao (@aj _ _ _ _ _ (@bz _ _ _ _ _ _ (af (pv 5)) (@aa _ _ _ ao) (λ_ _=>rfl)) (@aj _ _ _ _ _ (aH Jk (by decide)) aE (aS rfl)) (aS rfl)) (aS rfl))) (@aj _ _ _ _ _ (@cP _ _ _ _ _ (@aj _ _ _ _ _ (aH jX (by decide)) (@aj _ _ _ _ _ (aH F0 (by decide)) (@aj _ _ _ _ _ ao aE (aS rfl)) (aS rfl)) (aS rfl))) aE (aS rfl)) (aS rfl)) (aS rfl)) (aS rfl))) (by rfl) (by first|exact .inl rfl|exact .inr rfl)) (@az _ _ _ _ (@aK _ _ _ _ _ 1 _ _ aD.nd rfl (lo rfl) (@aJ _ _ _ _ _ _ _ _ _ NQ hr.m (by rfl) (@ae _ _ _ _ _ (af (pv 1)) (@ae _ _ _ _ _ (af (pv 3)) (@ae _ _ _ _ _ (@aa _ _ _ (@bz _ _ _ _ _ _ (af (pv 8)) (@aa _ _ _ (@aI _ _ _ _ _ _ _ _ bF (af (pv 4)) (@aa _ _ _ ao))) (λ_ _=>rfl))) ai (aS rfl)) (aS rfl)) (aS rfl)) (by decide) (aS rfl) (by rfl)) (by rfl) (by first|exact .inl rfl|exact .inr rfl)))) aO) ?_;refine au (@bH _ _ _ _ _ _ _ _ _ (aT (cF hr.units) (af (pv 2)) (@aa _ _ _ ao) (aR _)) (@az _ _ _ _ (@aK _ _ _ _ _ 0 _ _ aD.nd rfl (lo rfl) (@aI _ _ _ _ _ _ _ _ aY (@aa _ _ _ (@bC _ _ _ _ (@aj _ _ _ _ _ (aH jX (by decide)) (@aj _ _ _ _ _ (aH F4 (by decide)) (@aj _ _ _ _ _ (aH Ji (by decide)) (@aj _ _ _ _ _ (aH Jh (by decide)) (@aj _ _ _ _ _ (aH Jg (by decide)) (@aj _ _ _ _ _ (aH Jf (by decide)) aE (aS rfl)) (aS rfl)) (aS rfl)) (aS rfl)) (aS rfl)) (aS rfl)))) (@aa _ _ _ (@bC _ _ _ _ (@aj _ _ _ _ _ (@bz _ _ _ _ _ _ (@aa _ _ _ (@bC _ _ _ _ (@aj _ _ _ _ _ (aH F4 (by decide)) (@aj _ _ _ _ _ (aH Jj (by decide)) aE (aS rfl)) (aS rfl)))) (@aa _ _ _ (@aI _ _ _ _ _ _ _ _ bF (af (pv 4)) (@aa _ _ _ ao))) (λ_ _=>rfl)) aE (aS rfl))))) (by rfl) (by first|exact .inl rfl|exact .inr rfl))) aO) ?_;refine au (@bH _ _ _ _ _ _ _ _ _ (aT (cF hr.units) (af (pv 2)) (@aa _ _ _ ao) (aR _)) (@au _ _ _ _ _ _ (@aK _ _ _ _ _ 0 _ _ aD.nd rfl (lo rfl) (@bz _ _ _ _ _ _ (@aa _ _ _ (@bC _ _ _ _ (@aj _ _ _ _ _ (@bC _ _ _ _ aE) (@aj _ _ _ _ _ (@bC _ _ _ _ (@aj _ _ _ _ _ (aH F2 (by decide)) aE (aS rfl))) (@aj _ _ _ _ _ (@bC _ _ _ _ (@aj _ _ _ _ _ (aH xy (by decide)) aE (aS rfl))) aE (aS rfl)) (aS rfl)) (aS rfl)))) (@aa _ _ _ (@aI _ _ _ _ _ _ _ _ bF (af (pv 4)) (@aa _ _ _ ao))) (λ_ _=>rfl)) (by rfl) (by first|exact .inl rfl|exact .inr rfl)) (@az _ _ _ _ (@aK _ _ _ _ _ 1 _ _ aD.nd rfl (lo rfl) (@bz _ _ _ _ _ _ (@aa _ _ _ (@bC _ _ _ _ (@aj _ _ _ _ _ (aN (pv 1)) (@aj _ _ _ _ _ (@bC _ _ _ _ aE) (@aj _ _ _ _ _ (bX (af (pv 1)) bJ (ba ao)) aE (aS rfl)) (aS rfl)) (aS rfl)))) (@aa _ _ _ (@aI _ _ _ _ _ _ _ _ bF (@aa _ _ _ (@aI _ _ _ _ _ _ _ _ dZ (af (pv 4)) (@aa _ _ _ ao))) (@aa _ _ _ ao))) (λ_ _=>rfl)) (by rfl) (by first|exact .inl rfl|exact .inr rfl)))) aO) ?_;exact(az (bg (aJ Nx hr.m (by rfl) (ae (af (pv 0)) (ae (af (pv 1)) ai)))))
abbrev dU:Stmt:=top 46
theorem cK:FnScope ["_law_head","_law_arcs_here","_law_way","_law_k","_law_number","_law_strange","_law_arc","_law_top","_law_there"] ["_law_head","_law_arcs_here","_law_way","_law_k","_law_number","_law_strange"] (defScope dU):=fs
theorem ja(Df:Def K mg "_law_sense_fault" dU)(L7:mg "len" = none)(Ph:mg "max" = none):Ct P w K mg base "_law_sense_fault" 1 (spF K aQ):=
 dY Df cK (λ_ _ _ _ _ _=>K9 λ_ _ _ _ _ _=>rfl) λf MA A outer s H E hr=>
  (au (aK (i:=6) cK.nd rfl (lo rfl) (bz (af (pv 1)) (af (pv 3))))
  (au (aK (i:=7) cK.nd rfl (lo rfl) (aM (wN rfl) (by rfl) Ph wV (ae (aa (c5 [none,none,none] ["_law_one","_law_move","_law_other"] rfl (iH (lH (pv 1)) (iH (dO (mU (aN (pv 1)))) (dO (mV (aN (pv 1)))))) (λ_ _ _ _ _=>(have h:=(show List.Nodup (["_law_one","_law_move","_law_other"]:List Str) from by decide +kernel);(pG rfl (cZ (bB (i:=0) h rfl (lo rfl)) (cZ (bB (i:=1) h rfl (lo rfl)) (cZ (bB (i:=2) h rfl (lo rfl)) lu)))))) (λ_ _ _ _ _=>dJ) (λ_ _ _ _ _=>(aM (wN rfl) (by rfl) Ph wV (ae (af (pv 0)) (ae (af (pv 2)) ai)))))) ai)))
  (au (bH (aT (cF hr.units) (af (pv 2)) (aa ao) (aR _))
  (az (bg (cP (aj (aI aY (af (pv 0)) (aa (bC (aj (bz (af (pv 0)) (aa (aI aY (aa ao) (aa (aI bF (af (pv 4)) (aa (aI jt (aa (aM bo (by rfl) L7 bt_len (ae (af (pv 0)) ai))) (aa ao)))))))) aE)))) (aj (aN (pv 1)) aE)))))
  aO)
  (au (bH (aT (cF hr.units) (af (pv 2)) (aa ao) (aR _))
  (az (bg (cP (aj (aN (pv 0)) (aj (aI aY (aa (aI aY (aa (bX (af (pv 1)) bJ (ba (aN (pv 3))))) (aa (bC (aj (cP (aj (bz (af (pv 6)) (aa ao)) (aj (aN (pv 5)) (aj (bz (af (pv 6)) (aa ao)) aE)))) aE))))) (aa (bX (af (pv 1)) (ba (aN (pv 3))) bJ))) aE)))))
  aO)
  (au (bH (aT (cF hr.units) (af (pv 2)) (aa ao) (aR _))
  (au (aK (i:=8) cK.nd rfl (lo rfl) (aI bF (af (pv 4)) (aa (aI aY (aa (aM bo (by rfl) L7 bt_len (ae (af (pv 1)) ai))) (aa ao)))))
  (az (bg (cP (aj (aN (pv 0)) (aj (aI aY (aa (aI aY (aa (bX (af (pv 1)) bJ (ba (aN (pv 8))))) (aa (bC (aj (aN (pv 6)) aE))))) (aa (bX (af (pv 1)) (ba (aN (pv 8))) bJ))) aE))))))
  aO)
  (au (bH (aT (cF hr.units) (af (pv 2)) (aa ao) (aR _))
  (az (bg (cP (aj (aN (pv 0)) (aj (aI aY (af (pv 1)) (aa (bC (aj (cP (aj (bz (af (pv 6)) (aa ao)) (aj (bz (af (pv 0)) (aa ao)) (aj (bz (aa (bC (aj ao (aj ao (aj (aI aY (aa (aI pI (aa ao) (aa ao))) (af (pv 4))) (aj ao aE)))))) (aa (aI bF (af (pv 4)) (aa ao)))) aE)))) aE)))) aE)))))
  aO)
  (az (bg (cP (aj (aN (pv 0)) (aj (aI aY (af (pv 1)) (aa (bC (aj (cP (aj (aI aY (aa (aI aY (af (pv 7)) (aa ao))) (aa (aI bF (af (pv 4)) (aa ao)))) (aj (bz (af (pv 0)) (aa ao)) (aj (bz (aa (bC (aj (aI aY (af (pv 7)) (aa ao)) (aj ao (aj (aI aY (af (pv 7)) (aa ao)) aE))))) (aa (aI bF (aa (aI dZ (af (pv 4)) (aa ao))) (aa ao)))) aE)))) aE)))) aE)))))))))))
abbrev fE:Stmt:=top 47
theorem dE:FnScope ["_law_text_here","_law_error","e"] ["_law_text_here"] (defScope fE):=fs
theorem ma(Df:Def K mg "_law_told" fE)(Qp:CtX P w K mg base "read_chart" 6 LY (spX K LY x_read_chart))(PQ:mg "NoCase" = some (.ref M7))(O9:mg "NoChart" = some (.ref LZ))(QC:mg "NoNet" = some (.ref Nh))(QD:mg "NoRun" = some (.ref Ni))(Og:mg "NoStretch" = some (.ref MB))(PR:mg "NoText" = some (.ref LY))(N3:mg "OtherMoves" = some (.ref Mn))(OH:mg "TooGreat" = some (.ref MH))(MI:PySem.W.mroIn K LY (.ref Mq)=some true)(Mr:PySem.W.kitOne K (.ref LY) (.type "ValueError")=some true)(MQ:PySem.W.kitOne K (.ref LY) (.ref M7)=some false)(MM:PySem.W.kitOne K (.ref LY) (.ref LZ)=some false)(MY:PySem.W.kitOne K (.ref LY) (.ref Nh)=some false)(MZ:PySem.W.kitOne K (.ref LY) (.ref Ni)=some false)(ME:PySem.W.kitOne K (.ref LY) (.ref MB)=some false)(MR:PySem.W.kitOne K (.ref LY) (.ref LY)=some true)(Mx:PySem.W.kitOne K (.ref LY) (.ref Mn)=some false)(MJ:PySem.W.kitOne K (.ref LY) (.ref MH)=some false)(MN:Asks K LY)(M0:XCl mg base "NetError" Mq)(M8:mg "ValueError" = none)(N8:mg "int" = none)(L4:mg "isinstance" = none):Ct P w K mg base "_law_told" 7 (spF K cD):=
 xv (C:=LY) Df dE (λ_ _ _ _ _ _=>jk λ_=>rfl) rfl rfl (λ_=>Bm) (by decide)
  (λf MA A outer s H E hr=>by
   refine Bl Qp hr.m (by rfl) M0 MI (by rfl) ?_ dE.nd (pv 0) rfl rfl rfl rfl rfl;exact(λa o vs h1 h2=>(qa (Bj (pv 1))
  (qa (HB (pZ (jx (iy ZI h1 h2 MN (pv 1) (by rfl) L4 (by rfl) QC MY)) (pZ (jx (iy ZI h1 h2 MN (pv 1) (by rfl) L4 (by rfl) OH MJ)) (ub (jx (iy ZI h1 h2 MN (pv 1) (by rfl) L4 (by rfl) N3 Mx))))))
  (qa (HB (pZ (jx (iy ZI h1 h2 MN (pv 1) (by rfl) L4 (by rfl) Og ME)) (pZ (jx (iy ZI h1 h2 MN (pv 1) (by rfl) L4 (by rfl) PQ MQ)) (ub (jx (iy ZI h1 h2 MN (pv 1) (by rfl) L4 (by rfl) QD MZ))))))
  (qa (Bh (b:=true) (jx (Bf ZI h1 h2 MN (pv 1) (by rfl) L4 (by rfl) M8 (by decide +kernel) Mr)))
  (Bk (Bi (oJ (b:=true) zN (iy ZI h1 h2 MN (pv 1) (by rfl) L4 (by rfl) PR MR) (by rfl) N8) (oJ (b:=false) Dk (iy ZI h1 h2 MN (pv 1) (by rfl) L4 (by rfl) O9 MM) (by rfl) N8) (by decide)))))))))
theorem me(Df:Def K mg "_law_told" fE)(N4:CtX P w K mg base "read_chart" 6 LZ (spX K LZ bG))(PQ:mg "NoCase" = some (.ref M7))(O9:mg "NoChart" = some (.ref LZ))(QC:mg "NoNet" = some (.ref Nh))(QD:mg "NoRun" = some (.ref Ni))(Og:mg "NoStretch" = some (.ref MB))(PR:mg "NoText" = some (.ref LY))(N3:mg "OtherMoves" = some (.ref Mn))(OH:mg "TooGreat" = some (.ref MH))(MF:PySem.W.mroIn K LZ (.ref Mq)=some true)(Mm:PySem.W.kitOne K (.ref LZ) (.type "ValueError")=some true)(MO:PySem.W.kitOne K (.ref LZ) (.ref M7)=some false)(MK:PySem.W.kitOne K (.ref LZ) (.ref LZ)=some true)(MS:PySem.W.kitOne K (.ref LZ) (.ref Nh)=some false)(MT:PySem.W.kitOne K (.ref LZ) (.ref Ni)=some false)(My:PySem.W.kitOne K (.ref LZ) (.ref MB)=some false)(MP:PySem.W.kitOne K (.ref LZ) (.ref LY)=some false)(Ms:PySem.W.kitOne K (.ref LZ) (.ref Mn)=some false)(MG:PySem.W.kitOne K (.ref LZ) (.ref MH)=some false)(MD:Asks K LZ)(M0:XCl mg base "NetError" Mq)(M8:mg "ValueError" = none)(N8:mg "int" = none)(L4:mg "isinstance" = none):Ct P w K mg base "_law_told" 7 (spF K cN):=
 xv (C:=LZ) Df dE (λ_ _ _ _ _ _=>jk λ_=>rfl) rfl rfl (λ_=>Bm) (by decide)
  (λf MA A outer s H E hr=>by
   refine Bl N4 hr.m (by rfl) M0 MF (by rfl) ?_ dE.nd (pv 0) rfl rfl rfl rfl rfl;exact(λa o vs h1 h2=>(qa (Bj (pv 1))
  (qa (HB (pZ (jx (iy ZI h1 h2 MD (pv 1) (by rfl) L4 (by rfl) QC MS)) (pZ (jx (iy ZI h1 h2 MD (pv 1) (by rfl) L4 (by rfl) OH MG)) (ub (jx (iy ZI h1 h2 MD (pv 1) (by rfl) L4 (by rfl) N3 Ms))))))
  (qa (HB (pZ (jx (iy ZI h1 h2 MD (pv 1) (by rfl) L4 (by rfl) Og My)) (pZ (jx (iy ZI h1 h2 MD (pv 1) (by rfl) L4 (by rfl) PQ MO)) (ub (jx (iy ZI h1 h2 MD (pv 1) (by rfl) L4 (by rfl) QD MT))))))
  (qa (Bh (b:=true) (jx (Bf ZI h1 h2 MD (pv 1) (by rfl) L4 (by rfl) M8 (by decide +kernel) Mm)))
  (Bk (Bi (oJ (b:=false) zN (iy ZI h1 h2 MD (pv 1) (by rfl) L4 (by rfl) PR MP) (by rfl) N8) (oJ (b:=true) Dk (iy ZI h1 h2 MD (pv 1) (by rfl) L4 (by rfl) O9 MK) (by rfl) N8) (by decide)))))))))
theorem mf(Df:Def K mg "_law_told" fE)(QF:Ct P w K mg base "read_chart" 6 (spF K cV)):Ct P w K mg base "_law_told" 7 (spF K cj):=
 dY Df dE (λ_ _ _ _ _ _=>jk λ_=>rfl) λf MA A outer s H E hr=>
  (au (aK (i:=1) dE.nd rfl (lo rfl) AQ) (au (De (az (fg (aJ QF hr.m (by rfl) (ae (af (pv 0)) ai))))) (au (bH (aT IC (af (pv 1)) (aa AQ) (aR _))
  (az (bg (aH xy (by decide))))
  aO) CV)))
abbrev oQ:Stmt:=top 48
theorem gy:FnScope ["_law_script","_law_names_here","_law_head","_law_arcs_here","_law_k","_law_number","_law_way","_law_great","_law_strange"] ["_law_script"] (defScope oQ):=fs
theorem F5{f:WP}{fd:FuncData}(F:Fun K "law" "law" oQ f fd)(Rh:Ct P w K mg base "_law_arcs" 2 (spF K eh))(Mc:Ct P w K mg base "_law_cell_at" 1 (spF K aG))(NR:Ct P w K mg base "_law_form_fault" 2 (spF K m__law_form_fault))(OZ:Ct P w K mg base "_law_names" 1 (spF K cH))(OI:Ct P w K mg base "_law_sense_fault" 1 (spF K aQ))(Nx:Ct P w K mg base "_law_text" 1 (spF K bV))(Oh:Ct P w K mg base "_law_told" 7 (spF K cj))(Oi:Ct P w K mg base "_law_told" 7 (spF K cD))(PU:Ct P w K mg base "_law_told" 7 (spF K cN))(L7:mg "len" = none)(M6:mg "range" = none):FnOk P w K mg base Sz 8 f fd ["_law_script"] (spF K m_law):=
 fnok_of F gy λMA A outer s H E hr=>
  (au (aK (i:=1) gy.nd rfl (lo rfl) (aJ OZ hr.m (by rfl) (ae (aa (aJ Mc hr.m (by rfl) (ae (af (pv 0)) (ae (aa ao) ai)))) (ae (aa (aJ Mc hr.m (by rfl) (ae (af (pv 0)) (ae (aa ao) ai)))) (ae (aa (aI aY (aa ao) (aa (aI bF (aa (aJ Mc hr.m (by rfl) (ae (af (pv 0)) (ae (aa ao) ai)))) (aa ao))))) ai)))))
  (au (aK (i:=2) gy.nd rfl (lo rfl) (aI aY (aa (bC (aj (aH jX (by decide)) aE))) (af (pv 1))))
  (au (aK (i:=3) gy.nd rfl (lo rfl) (aJ Rh hr.m (by rfl) (ae (af (pv 0)) (ae (af (pv 1)) ai))))
  (au (bH (aT (kJ hr.units) (aa (aJ Oh hr.m (by rfl) (ae (aa (aJ Nx hr.m (by rfl) (ae (af (pv 2)) (ae (af (pv 3)) ai)))) ai))) (aa (aH xy (by decide))) (aR _))
  (az (bg rq))
  aO)
  (au (aK (i:=4) gy.nd rfl (lo rfl) (aI bF (aa (aJ Mc hr.m (by rfl) (ae (af (pv 0)) (ae (aa ao) ai)))) (aa (aM bo (by rfl) L7 bt_len (ae (af (pv 3)) ai)))))
  (au (aK (i:=5) gy.nd rfl (lo rfl) (aI bF (aa (aJ Mc hr.m (by rfl) (ae (af (pv 0)) (ae (aa ao) ai)))) (aa (aI pI (aa ao) (aa ao)))))
  (au (aK (i:=6) gy.nd rfl (lo rfl) (aI bF (aa (aJ Mc hr.m (by rfl) (ae (af (pv 0)) (ae (aa ao) ai)))) (aa ao)))
  (au (bH (aT (cF hr.units) (af (pv 6)) (aa ao) (aR _))
  (au (zo (i:=7) [none,some 1] ["_law_j","_law_names_here"] gy.nd rfl (lo rfl) rfl (dO (f9 (by rfl) M6 (aa ao))) (λ_ _ _ _ _=>(bB (i:=0) (show List.Nodup (["_law_j","_law_names_here"]:List Str) from by decide +kernel) rfl (lo rfl))) (λ_ _ _ _ _=>dJ) (λ_ _ _ _ _=>(cP (aj (aI bF (af (pv 0)) (aa ao)) (aj (bz (af (pv 1)) (aa (aI bF (aa (aI dZ (af (pv 0)) (aa ao))) (aa ao)))) (aj (aI bF (aa (aI aY (af (pv 0)) (aa ao))) (aa ao)) aE))))))
  (au (aK (i:=7) gy.nd rfl (lo rfl) (aI aY (af (pv 7)) (aa (c5 [none,some 1] ["_law_j","_law_names_here"] rfl (dO (f9 (by rfl) M6 (aa ao))) (λ_ _ _ _ _=>(bB (i:=0) (show List.Nodup (["_law_j","_law_names_here"]:List Str) from by decide +kernel) rfl (lo rfl))) (λ_ _ _ _ _=>dJ) (λ_ _ _ _ _=>(cP (aj (aI bF (af (pv 0)) (aa ao)) (aj (bz (af (pv 1)) (aa (aI dZ (af (pv 0)) (aa ao)))) (aj (aI bF (aa (aI aY (af (pv 0)) (aa ao))) (aa ao)) aE)))))))))
  (au (aK (i:=7) gy.nd rfl (lo rfl) (aI aY (af (pv 7)) (aa (c5 [none,some 1] ["_law_j","_law_names_here"] rfl (dO (f9 (by rfl) M6 (aa ao))) (λ_ _ _ _ _=>(bB (i:=0) (show List.Nodup (["_law_j","_law_names_here"]:List Str) from by decide +kernel) rfl (lo rfl))) (λ_ _ _ _ _=>dJ) (λ_ _ _ _ _=>(cP (aj (aN (pv 0)) (aj (bz (af (pv 1)) (aa ao)) (aj (aN (pv 0)) aE)))))))))
  (az (bg (iU (cF hr.units) (aa (aJ Oh hr.m (by rfl) (ae (aa (aJ Nx hr.m (by rfl) (ae (af (pv 2)) (ae (af (pv 7)) ai)))) ai))) (aa (aH xy (by decide))) (aR _)))))))
  aO)
  (au (bH (aT (cF hr.units) (af (pv 6)) (aa ao) (aR _))
  (az (bg (iU (cF hr.units) (aa (aJ Oi hr.m (by rfl) (ae (aa (aJ NR hr.m (by rfl) (ae (af (pv 2)) (ae (af (pv 3)) (ae (aa (aI bF (af (pv 5)) (aa ao))) (ae (af (pv 4)) (ae (aa (aI dZ (af (pv 5)) (aa ao))) ai))))))) ai))) (aa (aH zN (by decide))) (aR _))))
  aO)
  (au (aK (i:=8) gy.nd rfl (lo rfl) (bz (aa (aJ OZ hr.m (by rfl) (ae (aa (aJ Mc hr.m (by rfl) (ae (af (pv 0)) (ae (aa ao) ai)))) (ae (aa (aJ Mc hr.m (by rfl) (ae (af (pv 0)) (ae (aa ao) ai)))) (ae (aa ao) ai))))) (aa ao)))
  (au (FD (aJ OI hr.m (by rfl) (ae (af (pv 2)) (ae (af (pv 3)) (ae (aa (aI bF (af (pv 5)) (aa ao))) (ae (af (pv 4)) (ae (aa (aI dZ (af (pv 5)) (aa ao))) (ae (af (pv 8)) ai))))))) (pG rfl (cZ (bB (i:=2) gy.nd rfl (lo rfl)) (cZ (bB (i:=3) gy.nd rfl (lo rfl)) lu))))
  (au (bH (aT (cF hr.units) (af (pv 6)) (aa ao) (aR _))
  (az (bg (iU (cF hr.units) (aa (aJ PU hr.m (by rfl) (ae (aa (aJ Nx hr.m (by rfl) (ae (af (pv 2)) (ae (af (pv 3)) ai)))) ai))) (aa (aH Dk (by decide))) (aR _))))
  aO)
  (az (bg (iU (cF hr.units) (aa (aJ Oi hr.m (by rfl) (ae (aa (aJ NR hr.m (by rfl) (ae (af (pv 2)) (ae (af (pv 3)) (ae (aa (aI bF (aa (aI dZ (af (pv 5)) (aa ao))) (aa ao))) (ae (af (pv 4)) (ae (aa (aI dZ (af (pv 5)) (aa ao))) ai))))))) ai))) (aa (aH zN (by decide))) (aR _))))))))))))))))
end
end LW
namespace PV
class Cont (α β:Type) where
 run:α->Res β
def Res.bnd{α β:Type}[f:Cont α β](x:Res α):Res β:=x.bind f.run
variable{α:Type}
theorem OJ{β:Type}(a:α)(f:α->Res β):Res.bnd (Res.ok a) (f:=⟨f⟩)=f a:=id rfl
theorem bBad{β:Type}(f:α->Res β):Res.bnd (Res.bad:Res α) (f:=⟨f⟩)=.bad:=id rfl
section
variable(env:PV.Env)(i n:Nat)(d:D)(f g:FX)(c c':FT)(fo VT WQ:FO)(fs:Od)(fd:FDs)(s t:FS)(op Q0:D->D->Res R)(F:List D->Res R)(a:FG)(as:TJ)(fi fj:FI)(fp L9:FP)(T:String)
theorem Vc:aA d env=.ok ((.f,d),env):=id rfl
theorem R5:bq i env=match env[i]? with|some (some r)=>.ok ((.f,r.2),env.set i (some (fz r.1,r.2)))|_=>.bad:=id rfl
theorem WR:fz .f=.f:=id rfl
theorem S3(p:WP):AO (.pin p .d)=true:=id rfl
theorem TR:kB i env=match env[i]? with|some (some r)=>.ok (r,env.set i none)|_=>.bad:=id rfl
theorem Vd:aq f env=Res.bnd (f env) (f:=⟨λp=>.ok (.val p.1.2,p.2)⟩):=id rfl
theorem Ve:ax i env=match env[i]? with|some (some _)=>.ok (.var i,env)|_=>.bad:=id rfl
theorem TU:ay env=.ok ([],env):=id rfl
theorem S4:ah fo fs env=Res.bnd (fo env) (f:=⟨λp=>Res.bnd (fs p.2) (f:=⟨λq=>.ok (p.1::q.1,q.2)⟩)⟩):=id rfl
theorem TV:aX env=.ok ([],env):=id rfl
theorem S5:aw f fd env=Res.bnd (f env) (f:=⟨λp=>Res.bnd (fd p.2) (f:=⟨λq=>.ok (p.1.2::q.1,q.2)⟩)⟩):=id rfl
theorem Vf:OA env (.val d)=.ok d:=id rfl
theorem Vg:OA env (.var i)=match env[i]? with|some (some r)=>if AO r.1 then .ok r.2 else .bad|_=>.bad:=id rfl
theorem TY:uP env (.val d)=.ok d:=id rfl
theorem TZ:uP env (.var i)=match env[i]? with|some (some r)=>.ok r.2|_=>.bad:=id rfl
theorem T2:sZ env []=.ok []:=id rfl
theorem T4(o:Opd)(os:List Opd):sZ env (o::os)=Res.bnd (OA env o) (f:=⟨λd=>Res.bnd (sZ env os) (f:=⟨λds=>.ok (d::ds)⟩)⟩):=id rfl
theorem S6:kA env []=.ok []:=id rfl
theorem S7(o:Opd)(os:List Opd):kA env (o::os)=Res.bnd (uP env o) (f:=⟨λd=>Res.bnd (kA env os) (f:=⟨λds=>.ok (d::ds)⟩)⟩):=id rfl
theorem T5:AO .f=true:=id rfl
theorem T6:AO (.l .f)=true:=id rfl
theorem T7:AO .d=true:=id rfl
theorem Vh:aF op fo VT env=Res.bnd (fo env) (f:=⟨λp=>Res.bnd (VT p.2) (f:=⟨λq=>Res.bnd (OA q.2 p.1) (f:=⟨λa=>Res.bnd (OA q.2 q.1) (f:=⟨λb=>Res.bnd (op a b) (f:=⟨λr=>.ok (r,q.2)⟩)⟩)⟩)⟩)⟩):=id rfl
theorem T8:bu op fo VT env=Res.bnd (fo env) (f:=⟨λp=>Res.bnd (VT p.2) (f:=⟨λq=>Res.bnd (uP q.2 p.1) (f:=⟨λa=>Res.bnd (uP q.2 q.1) (f:=⟨λb=>Res.bnd (op a b) (f:=⟨λr=>.ok (r,q.2)⟩)⟩)⟩)⟩)⟩):=id rfl
theorem WS:Mw f env=Res.bnd (f env) (f:=⟨λp=>match p.1.2 with | .bl k=>.ok (k,p.2)|_=>.bad⟩):=id rfl
theorem Vi:AU c c' env=Res.bnd (c env) (f:=⟨λp=>if p.1 then c' p.2 else .ok (false,p.2)⟩):=id rfl
theorem WU:Wm c c' env=Res.bnd (c env) (f:=⟨λp=>if p.1 then .ok (true,p.2) else c' p.2⟩):=id rfl
theorem Vj:rA c env=Res.bnd (c env) (f:=⟨λp=>.ok (!p.1,p.2)⟩):=id rfl
theorem Vk:AV f g env=Res.bnd (f env) (f:=⟨λp=>match p.1.2 with | .bl true=>g p.2 | .bl false=>.ok ((.f,.bl false),p.2)|_=>.bad⟩):=id rfl
theorem S8:kg op Q0 fo VT WQ env=Res.bnd (fo env) (f:=⟨λp=>Res.bnd (VT p.2) (f:=⟨λq=>Res.bnd (OA q.2 p.1) (f:=⟨λa=>Res.bnd (OA q.2 q.1) (f:=⟨λb=>Res.bnd (op a b) (f:=⟨λr=>match r with
 |(.f,.bl true)=>Res.bnd (WQ q.2) (f:=⟨λt=>Res.bnd (OA t.2 q.1) (f:=⟨λb=>Res.bnd (OA t.2 t.1) (f:=⟨λc=>Res.bnd (Q0 b c) (f:=⟨λr=>.ok (r,t.2)⟩)⟩)⟩)⟩)
 |(.f,.bl false)=>.ok ((.f,.bl false),q.2)
 |_=>.bad⟩)⟩)⟩)⟩)⟩):=id rfl
theorem T9:a9 F fs env=Res.bnd (fs env) (f:=⟨λp=>Res.bnd (sZ p.2 p.1) (f:=⟨λds=>Res.bnd (F ds) (f:=⟨λr=>.ok (r,p.2)⟩)⟩)⟩):=id rfl
theorem Vl:bZ F fs env=Res.bnd (fs env) (f:=⟨λp=>Res.bnd (kA p.2 p.1) (f:=⟨λds=>Res.bnd (F ds) (f:=⟨λr=>.ok (r,if cO r.1 r.2 then p.2 else p.2.map frz)⟩)⟩)⟩):=id rfl
theorem Vm:iG fd env=Res.bnd (fd env) (f:=⟨λp=>if p.1.length<=1000 then .ok ((.f,.tup p.1),p.2) else .bad⟩):=id rfl
theorem Vn:fG fd env=Res.bnd (fd env) (f:=⟨λp=>if p.1.length<=1000 then .ok ((.l .f,.lst p.1),p.2) else .bad⟩):=id rfl
theorem Ua:dn env=.ok (none,env):=id rfl
theorem Ub:cM f env=Res.bnd (f env) (f:=⟨λp=>match p.1.2 with | .int i=>.ok (some i,p.2)|_=>.bad⟩):=id rfl
theorem Vo:A3 i f env=if rB env i then(Res.bnd (f env) (f:=⟨λ(p:R×PV.Env)=>match p.2[i]? with
 |some (some (.l .f,.lst ds))=>if ds.length<sizeLine then .ok ((.f,.non),p.2.set i (some (.l .f,.lst (ds++[p.1.2])))) else .bad
 |_=>.bad⟩)) else .bad:=id rfl
theorem Uc:rB env i=match env[i]? with|some (some (_,.lst _))=>true|_=>false:=id rfl
theorem WV:Wv T fo env=Res.bnd (fo env) (f:=⟨λp=>Res.bnd (uP p.2 p.1) (f:=⟨λd=>.ok ((.f,.bl (A7 T d)),p.2)⟩)⟩):=id rfl
theorem Ud:CF f g env=Res.bnd (f env) (f:=⟨λp=>Res.bnd (g p.2) (f:=⟨λq=>match(tL p.1.2).bind gk,q.1.2 with|some ns,.int d=>.ok ((.f,.int (NX.maxD ns d)),q.2)|_,_=>.bad⟩)⟩):=id rfl
theorem Vp(gg:List Nat->List D->Res R):Eb gg fo fs env=Res.bnd (fo env) (f:=⟨λp=>match OA p.2 p.1 with
 | .ok (.str l)=>Res.bnd (fs p.2) (f:=⟨λq=>Res.bnd (sZ q.2 q.1) (f:=⟨λds=>Res.bnd (gg l ds) (f:=⟨λr=>.ok (r,q.2)⟩)⟩)⟩)
 |_=>.bad⟩):=id rfl
theorem Ue(ix:List (Option Nat)):gc fi ix a c f env=Res.bnd (fi env) (f:=⟨λp=>Res.bnd (fF a c f p.1 (dB ix p.2)) (f:=⟨λds=>if ds.length<=sizeLine then .ok ((.l .f,.lst ds),if flatDs ds then p.2 else p.2.map frz) else .bad⟩)⟩):=id rfl
theorem RI:dB [] env=[]:=id rfl
theorem RJ(ix:List (Option Nat)):dB (none::ix) env=none::dB ix env:=id rfl
theorem RK(ix:List (Option Nat)):dB (some i::ix) env=(match env[i]? with|some (some r)=>some (O.f,r.2)|_=>none)::dB ix env:=id rfl
theorem F6:jj env=.ok (true,env):=id rfl
theorem zR(ds:List D):fF a c f (d::ds) env=Res.bnd (a d env) (f:=⟨λe=>Res.bnd (c e) (f:=⟨λp=>if p.1 then(Res.bnd (f p.2) (f:=⟨λq=>Res.bnd (fF a c f ds q.2) (f:=⟨λrs=>.ok (q.1.2::rs)⟩)⟩)) else fF a c f ds p.2⟩)⟩):=id rfl
theorem F7:Fp f env=Res.bnd (f env) (f:=⟨λp=>match p.1.2 with | .lst ds=>.ok (ds,p.2)|_=>.bad⟩):=id rfl
theorem xC:kG f env=Res.bnd (f env) (f:=⟨λp=>match p.1.2 with | .tup ds=>.ok (ds,p.2)|_=>.bad⟩):=id rfl
theorem xD:kH f env=Res.bnd (f env) (f:=⟨λp=>match p.1.2 with | .str l=>.ok (l.map λc=>.str [c],p.2)|_=>.bad⟩):=id rfl
theorem ve:OB fi fj env=match fi env with | .ok a=>.ok a|_=>fj env:=by
 unfold OB;cases fi env <;> rfl
theorem Vq:OB (Fp f) (OB (kG f) (kH f)) env=Res.bnd (f env) (f:=⟨λp=>match p.1.2 with
 | .lst ds=>.ok (ds,p.2)
 | .tup ds=>.ok (ds,p.2)
 | .str l=>.ok (l.map λc=>.str [c],p.2)
 |_=>.bad⟩):=by
 rw[ve,ve,F7,xC,xD];cases f env with
 |ok p=>
  obtain⟨⟨o,d⟩,e⟩:=p;cases d <;> rfl
 |exc c=>rfl
 |bad=>rfl
theorem Ug:OB (mJ i) (OB (kG (bq i)) (kH (bq i))) env=match env[i]? with
 |some (some (_,.lst ds))=>.ok (ds,env)
 |some (some (o,.tup ds))=>.ok (ds,env.set i (some (fz o,.tup ds)))
 |some (some (o,.str l))=>.ok (l.map λc=>.str [c],env.set i (some (fz o,.str l)))
 |_=>.bad:=by
 rw[ve,ve,xC,xD,R5];unfold mJ;cases env[i]? with
 |none=>rfl
 |some r=>
  cases r with
  |none=>rfl
  |some r=>
   obtain⟨o,d⟩:=r;cases d <;> rfl
theorem xE:dA fo env=Res.bnd (fo env) (f:=⟨λp=>Res.bnd (OA p.2 p.1) (f:=⟨λd=>match d with
 | .int j=>if -4611686018427387904<=j/\j<4611686018427387904 then .ok ((List.range j.toNat).map λ(k:Nat)=>D.int (k:Int),p.2) else .bad
 |_=>.bad⟩)⟩):=id rfl
theorem Ss:om fs env=Res.bnd (fs env) (f:=⟨λp=>Res.bnd (sZ p.2 p.1) (f:=⟨λd=>match d with
 |[.int i,.int j]=>if(-4611686018427387904<=i/\i<4611686018427387904)/\-4611686018427387904<=j/\j<4611686018427387904 then .ok ((List.range (j-i).toNat).map λ(k:Nat)=>D.int (i+(k:Int)),p.2) else .bad
 |_=>.bad⟩)⟩):=id rfl
theorem Uh(k1 k2:Bool):mI k1 k2 fs env=Res.bnd (fs env) (f:=⟨λp=>match p.1 with
 |[.val d1,.val d2]=>Res.bnd (iW k1 d1) (f:=⟨λa=>Res.bnd (iW k2 d2) (f:=⟨λb=>.ok ((a.zip b).map λz=>D.tup [z.1,z.2],p.2)⟩)⟩)
 |_=>.bad⟩):=id rfl
theorem Ot:bj i d env=if i<env.length then .ok (env.set i (some (.f,d))) else .bad:=id rfl
theorem Ui:jR [] env=.ok env:=id rfl
theorem N0(ds:List D):cn a as (d::ds) env=Res.bnd (a d env) (f:=⟨λe=>as ds e⟩):=id rfl
theorem RL(ds:List D):tu n as (.tup ds) env=if ds.length=n then as ds env else .bad:=id rfl
theorem NW:sSeq s t env=Res.bnd (s env) (f:=⟨λo=>match o with | .nx e=>t e|o=>.ok o⟩):=id rfl
theorem Uj:br env=.ok (.nx env):=id rfl
theorem Vr:cy i f env=Res.bnd (f env) (f:=⟨λp=>if i<p.2.length then .ok (.nx (p.2.set i (some p.1))) else .bad⟩):=id rfl
theorem Uk:kF f env=Res.bnd (f env) (f:=⟨λp=>.ok (.nx p.2)⟩):=id rfl
theorem Vs:eI f env=Res.bnd (f env) (f:=⟨λp=>.ok (.rt p.1)⟩):=id rfl
theorem WW:M4 c s t env=Res.bnd (c env) (f:=⟨λp=>if p.1 then s p.2 else t p.2⟩):=id rfl
theorem QH:yw fi a s env=Res.bnd (fi env) (f:=⟨λp=>oX a s p.1 p.2⟩):=id rfl
theorem xF(ds:List D):oX a s (d::ds) env=Res.bnd (a d env) (f:=⟨λe=>Res.bnd (s e) (f:=⟨λo=>match o with
 | .nx e=>oX a s ds e
 | .ct e=>oX a s ds e
 | .bk e=>.ok (.nx e)
 | .rt r=>.ok (.rt r)⟩)⟩):=id rfl
theorem ue:ft c s (n+1) env=Res.bnd (c env) (f:=⟨λp=>if p.1 then(Res.bnd (s p.2) (f:=⟨λo=>match o with
  | .nx e=>ft c s n e
  | .ct e=>ft c s n e
  | .bk e=>.ok (.nx e)
  | .rt r=>.ok (.rt r)⟩)) else .ok (.nx p.2)⟩):=id rfl
theorem Vt:Fz i f g env=Res.bnd (g env) (f:=⟨λ(p:R×PV.Env)=>Res.bnd (f p.2) (f:=⟨λ(q:R×PV.Env)=>match p.2[i]?,q.2[i]? with
 |some (some _),some (some (.d,.dct tk ks vs))=>if iY tk q.1.2&&decide (ks.length<sizeLine) then .ok (.nx (q.2.set i (some (.d,.dct tk (tS ks vs q.1.2 p.1.2).1 (tS ks vs q.1.2 p.1.2).2)))) else .bad
 |_,_=>.bad⟩)⟩):=id rfl
theorem Vu:HA f a env=Res.bnd (f env) (f:=⟨λp=>Res.bnd (a p.1.2 p.2) (f:=⟨λe=>.ok (.nx e)⟩)⟩):=id rfl
theorem aZ(ds:List D)(nn:Nat)(h:ds.length=n):fBody n nn s ds=Res.bnd (s (ds.map (λd=>some (O.f,d))++List.replicate nn none)) (f:=⟨λo=>match o with
 | .rt r=>.ok r
 | .nx _=>.ok (.f,.non)
 |_=>.bad⟩):=by
 unfold fBody;rw[ZY h];all_goals cases s (ds.map (λd=>some (O.f,d))++List.replicate nn none) with
 |ok o=>cases o <;> rfl
 |exc c=>rfl
 |bad=>rfl
end
theorem line_le{n:Nat}(h:n<=16777216):n<=sizeLine:=by rw[line_eq];exact h
section
variable(a b:Int)(x y:List Nat)(p q:Bool)(ds es:List D)
theorem kN:Nr (.int a) (.int b)=.ok (.f,.bl (a==b)):=by simp![Nr,plainD,Mv,acI,acz]
theorem Js:Nr (.str x) (.str y)=.ok (.f,.bl (x==y)):=by simp![Nr,plainD,Mv,acI,acz]
theorem Jt:OW (.int a) (.int b)=.ok (.f,.bl (!(a==b))):=by simp![OW,plainD,Mv,acI,acz]
theorem Ju:OW (.str x) (.str y)=.ok (.f,.bl (!(x==y))):=by simp![OW,plainD,Mv,acI,acz]
theorem gB:addD (.int a) (.int b)=.ok (.f,.int (a+b)):=id rfl
theorem xG:addD (.str x) (.str y)=if x.length+y.length<=sizeLine then .ok (.f,.str (x++y)) else .bad:=id rfl
theorem F8:addD (.lst ds) (.lst es)=if ds.length+es.length<=sizeLine then .ok (.l .f,.lst (ds++es)) else .bad:=id rfl
theorem xH:uQ (.int a) (.int b)=.ok (.f,.int (a-b)):=id rfl
theorem xI:eQ (.int a) (.int b)=if 0<b/\b<1073741824 then .ok (.f,.int (a / b)) else .bad:=id rfl
theorem Bo:dm (.int a) (.int b)=if 0<b then .ok (.f,.int (a%b)) else .bad:=id rfl
theorem xJ:wJ (.int a) (.int b)=if 0<=b/\b<=1000000/\a.natAbs<2 ^ 64 then .ok (.f,.int (a ^ b.toNat)) else .bad:=id rfl
theorem Jv:PJ (.int a) (.int b)=.ok (.f,.bl (decide (a<b))):=id rfl
theorem Jw:SA (.int a) (.int b)=.ok (.f,.bl (decide (a<=b))):=id rfl
theorem Jx:SA (.str x) (.str y)=.ok (.f,.bl (!decide (y<x))):=id rfl
theorem Jy:Q8 (.int a) (.int b)=.ok (.f,.bl (decide (b<a))):=id rfl
theorem F9:lenA [.lst ds]=.ok (.f,.int ds.length):=id rfl
theorem Ga:lenA [.tup ds]=.ok (.f,.int ds.length):=id rfl
theorem Gb:lenA [.str x]=.ok (.f,.int x.length):=id rfl
theorem zS:ki [.lst ds]=.ok (.f,.tup ds):=id rfl
theorem Gd:Fw [.bl p]=.ok (.f,.int (if p then 1 else 0)):=id rfl
theorem Ge:Mg (.lst ds) (.int a)=match Ow ds a with|some d=>.ok (.f,d)|none=>.bad:=id rfl
theorem Jz:Mg (.tup ds) (.int a)=match Ow ds a with|some d=>.ok (.f,d)|none=>.bad:=id rfl
theorem Gf:Mg (.str x) (.int a)=match Ow x a with|some c=>.ok (.f,.str [c])|none=>.bad:=id rfl
theorem Gg:maxD [.int a,.int b]=.ok (.f,.int (if a<b then b else a)):=id rfl
theorem Gh(bs:List Bool):A4 [.lst (bs.map D.bl)]=.ok (.f,.bl (bs.all id)):=by
 unfold A4;show(match pK (bs.map D.bl) with|some bs=>_|none=>_)=_;rw[wK]
theorem YH(d:α)(l:List α):Ow (d::l) 0=some d:=by
 have:=dw (xs:=d::l) (j:=0) (v:=d) rfl;simpa using this
theorem YI(c d:α)(l:List α):Ow (c::d::l) 1=some d:=by
 have:=dw (xs:=c::d::l) (j:=1) (v:=d) rfl;simpa using this
end
theorem flat_ints(l:List Int):flatDs (l.map D.int)=true:=by
 rw[eU,aaW,aad];intro b _;rfl
theorem zT(l:List Bool):flatDs (l.map D.bl)=true:=by
 rw[eU,aaW,aad];intro b _;rfl
theorem flat_strs(l:List (List Nat)):flatDs (l.map D.str)=true:=by
 rw[eU,aaW,aad];intro b _;rfl
theorem aV(d:D):cO .f d=fe d:=by rw[cO]
theorem fL(ds:List D):cO (.l .f) (.lst ds)=flatDs ds:=by rw[cO,ou]
theorem cQ(i:Int):fe (.int i)=true:=by rw[fe];all_goals simp
theorem dk(i:Bool):fe (.bl i)=true:=by rw[fe];all_goals simp
theorem cR(i:List Nat):fe (.str i)=true:=by rw[fe];all_goals simp
theorem zU(ds:List D):fe (.tup ds)=flatDs ds:=by rw[fe]
theorem vf(n:Nat)(l:List Int):plainDs n (l.map D.int)=true:=by
 induction l with
 |nil=>rfl
 |cons a l ih=>rw[aae,plainDs,ih,plainD];all_goals simp
theorem nG(n:Nat)(l:List (List Nat)):plainDs n (l.map D.str)=true:=by
 induction l with
 |nil=>rfl
 |cons a l ih=>rw[aae,plainDs,ih,plainD];all_goals simp
theorem qD:∀a b:List (List Nat),kI (a.map D.str) (b.map D.str)=(a==b)
 |[],[]=>by simp[kI]
 |[],_::_=>by simp[kI]
 |_::_,[]=>by simp[kI]
 |a::r,b::t=>by
  rw[aae,aae,kI,Mv,qD r t,aay];simp
theorem zV(a:Int)(l:List Int):A5 (.int a) (l.map D.int)=decide (a∈l):=by
 unfold A5;rw[adP,aay,ab2,Z2];constructor
 .rintro⟨x,hx,e⟩;have e:Mv (.int x) (.int a)=true:=e;rw[Mv,aaK]at e;rw[<-e];exact hx
 .intro h;refine⟨a,h,?_⟩;show Mv (.int a) (.int a)=true;rw[Mv,aaS]
theorem zW(a:List Nat)(l:List (List Nat)):A5 (.str a) (l.map D.str)=decide (a∈l):=by
 unfold A5;rw[adP,aay,ab2,Z2];constructor
 .rintro⟨x,hx,e⟩;have e:Mv (.str x) (.str a)=true:=e;rw[Mv,aaK]at e;rw[<-e];exact hx
 .intro h;refine⟨a,h,?_⟩;show Mv (.str a) (.str a)=true;rw[Mv,aaS]
theorem Gj(a:Int)(l:List Int):SK (.int a) (.lst (l.map D.int))=.ok (.f,.bl (decide (a∈l))):=by
 unfold SK;dsimp only;rw[vf,zV,plainD];all_goals simp
theorem Dl(a:Int)(l:List Int):Ea (.int a) (.lst (l.map D.int))=.ok (.f,.bl (!decide (a∈l))):=by
 unfold Ea;rw[Gj];rfl
theorem Gk(a:List Nat)(l:List (List Nat)):SK (.str a) (.tup (l.map D.str))=.ok (.f,.bl (decide (a∈l))):=by
 unfold SK;dsimp only;rw[nG,zW,plainD];all_goals simp
variable{a:FG}
theorem dh{f:FX}{e:α->D}{r:α->D}(I:PV.Env->Prop)(l:List α)
  (h:∀x∈l,∀env,I env->∃L0,a (e x) env=.ok L0/\∃o Px,f L0=.ok ((o,r x),Px)/\I Px):∀env,I env->fF a jj f (l.map e) env=.ok (l.map r):=by
 induction l with
 |nil=>intro env _;rfl
 |cons x l ih=>
  intro env hI;obtain⟨L0,h1,o,Px,h4,h5⟩:=h x ZI env hI;have ih:=ih λy hy=>h y (ZN _ hy)
  rw[aae,zR,h1,OJ,F6,OJ,ZY rfl,h4,OJ,ih Px h5];rfl
theorem Dm{g:FS}(P:Nat->PV.Env->Prop)(ds:List D)(h:∀i d env,ds[i]?=some d->P i env->∃L0,a d env=.ok L0/\∃Ml,(g L0=.ok (.nx Ml)\/g L0=.ok (.ct Ml))/\P (i+1) Ml):
  ∀env,P 0 env->∃env',oX a g ds env=.ok (.nx env')/\P ds.length env':=by
 have key:∀(l:List D) (k:Nat) (env:PV.Env),(∀i d,l[i]?=some d->ds[k+i]?=some d)->P k env->∃env',oX a g l env=.ok (.nx env')/\P (k+l.length) env':=by
  intro l;induction l with
  |nil=>exact λk env _ hp=>⟨env,rfl,hp⟩
  |cons d l ih=>
   intro k env hd hp;obtain⟨L0,h1,Ml,h2,h3⟩:=h k d env (hd 0 d rfl) hp;obtain⟨env',h4,h5⟩:=ih (k+1) Ml (λi d e=>by have:=hd (i+1) d (by simpa using e);rw[show k+1+i=k+(i+1) by lia];exact this) h3;refine⟨env',?_,by rw[ZR,show k+(l.length+1)=k+1+l.length by lia];exact h5⟩;rw[xF,h1,OJ];rcases h2 with h2|h2
   .rw[h2,OJ];exact h4
   .rw[h2,OJ];exact h4
 intro env hp;obtain⟨env',h1,h2⟩:=key ds 0 env (λi d e=>by rw[Nat.zero_add];exact e) hp;exact⟨env',h1,by rw[Nat.zero_add]at h2;exact h2⟩
section
variable(env:PV.Env)(fo:FO)(fp L9:FP)(a b:Int)(ds:List D)(x:List Nat)
theorem Vv:g0 fo fp L9 env=Res.bnd (fo env) (f:=⟨λp=>Res.bnd (fp p.2) (f:=⟨λq=>Res.bnd (L9 q.2) (f:=⟨λt=>Res.bnd (OA t.2 p.1) (f:=⟨λd=>Res.bnd (O7 d q.1 t.1) (f:=⟨λr=>.ok (r,t.2)⟩)⟩)⟩)⟩)⟩):=id rfl
theorem Gm(lo hi:Option Int):O7 (.lst ds) lo hi=.ok (.l .f,.lst (eV ds lo hi)):=id rfl
theorem Gn(lo hi:Option Int):O7 (.str x) lo hi=.ok (.f,.str (eV x lo hi)):=id rfl
theorem xK(lo hi:Option Int)(h:HT.sIx ds.length 0 lo=0/\HT.sIx ds.length ds.length hi=ds.length):eV ds lo hi=ds:=by
 unfold eV;rw[h.1,h.2,ac4,aeu,abi (ZO _)]
theorem Gp(lo hi:Option Int):O7 (.tup ds) lo hi=.ok (.f,.tup (eV ds lo hi)):=by
 unfold O7;dsimp only;split
 .rename_i h;rw[xK ds lo hi h]
 .rename_i h;unfold UZ;dsimp only;rw[ZY h]
theorem Dn:yx (.int a) (.int b)=if fI a||fI b then .ok (.f,.int (a*b)) else if a.natAbs<2 ^ 1000/\b.natAbs<2 ^ 1000 then .ok (.f,.int (a*b)) else .bad:=id rfl
theorem Dp:yx (.str x) (.int b)=if 2<=b/\b<=1000/\1<=x.length/\x.length<=1000 then .ok (.f,.str (List.replicate b.toNat x).flatten) else .bad:=id rfl
end
section
variable(env:PV.Env)(fo:FO)(fs:Od)(f g:FX)(a b c:Int)(ds es:List D)(x y:List Nat)
theorem Kb(d:D):(∃l,iW true d=.ok l/\iW false d=.bad/\tL d=some l)\/(∃l,iW true d=.bad/\iW false d=.ok l/\tL d=some l)\/(iW true d=.bad/\iW false d=.bad/\tL d=none):=by
 cases d with
 |lst l=>exact .inl ⟨l,rfl,rfl,rfl⟩
 |tup l=>exact .inr (.inl ⟨l,rfl,rfl,rfl⟩)
 |_=>exact .inr (.inr ⟨rfl,rfl,rfl⟩)
def Gq(k1 k2:Bool)(e:PV.Env)(d1 d2:D):Res (List D×PV.Env):=(iW k1 d1).bind λa=>(iW k2 d2).bind λb=>.ok ((a.zip b).map λz=>D.tup [z.1,z.2],e)
def Kc(e:PV.Env)(d1 d2:D):Res (List D×PV.Env):=match tL d1,tL d2 with|some a,some b=>.ok ((a.zip b).map λz=>D.tup [z.1,z.2],e)|_,_=>.bad
def WX(a b:Res (List D×PV.Env)):Res (List D×PV.Env):=match a with | .ok a=>.ok a|_=>b
def HF(g:D->D->Res (List D×PV.Env))(os:List Opd):Res (List D×PV.Env):=match os with|[.val d1,.val d2]=>g d1 d2|_=>.bad
theorem JA(g h:D->D->Res (List D×PV.Env))(os:List Opd):WX (HF g os) (HF h os)=HF (λa b=>WX (g a b) (h a b)) os:=by
 unfold HF;split <;> rfl
theorem JB(e:PV.Env)(a b:D):WX (Gq true true e a b) (WX (Gq true false e a b) (WX (Gq false true e a b) (Gq false false e a b)))=Kc e a b:=by
 unfold Gq Kc;rcases Kb a with⟨l,h1,h2,h3⟩|⟨l,h1,h2,h3⟩|⟨h1,h2,h3⟩ <;> rcases Kb b with⟨m,i1,i2,i3⟩|⟨m,i1,i2,i3⟩|⟨i1,i2,i3⟩ <;> rw[h1,h2,h3,i1,i2,i3] <;> rfl
theorem Ul:tL (.lst ds)=some ds:=id rfl
theorem Dq:Ec (.lst ds) (.int b)=if 0<=b/\b<1000000/\ds.length*b.toNat<=sizeLine then .ok (.l .f,.lst (List.replicate b.toNat ds).flatten) else .bad:=id rfl
theorem Gr:iY false (.str x)=true:=id rfl
end
section
variable(env:PV.Env)(f g:FX)(ds ks:List D)(i:Nat)
theorem Ds:CM f g env=Res.bnd (f env) (f:=⟨λp=>Res.bnd (g p.2) (f:=⟨λq=>.ok ((.t [.f,q.1.1],.tup [p.1.2,q.1.2]),q.2)⟩)⟩):=id rfl
end
section
variable(env:PV.Env)(f:FX)(fs:Od)(ds:List D)(i:Nat)
end
def pv:=(ZB @OJ (ZB @bBad (ZB @Vc (ZB @R5 (ZB @TR (ZB @Vd (ZB @Ve (ZB @TU (ZB @S4 (ZB @TV (ZB @S5 (ZB @Vf (ZB @Vg (ZB @TY (ZB @TZ (ZB @T2 (ZB @T4 (ZB @S6 (ZB @S7 (ZB @T5 (ZB @T6 (ZB @T7 (ZB @Vh (ZB @T8 (ZB @WS (ZB @Vi (ZB @WU (ZB @Vj (ZB @Vk (ZB @S8 (ZB @T9 (ZB @Vl (ZB @Vm (ZB @Vn (ZB @Vv (ZB @Ua (ZB @Ub (ZB @Vo (ZB @Uc (ZB @WV (ZB @Ud (ZB @Vp (ZB @Ue (ZB @RI (ZB @RJ (ZB @RK (ZB @Vq (ZB @Ug (ZB @Ss (ZB @Uh (ZB @Ot (ZB @Ui (ZB @N0 (ZB @RL (ZB @NW (ZB @Uj (ZB @Vr (ZB @Uk (ZB @Vs (ZB @WW (ZB @QH (ZB @Vt (ZB @Vu (ZB @List.getElem?_cons_zero.{0} (ZB @List.getElem?_cons_succ.{0} (ZB @List.set_cons_zero.{0} (ZB @List.set_cons_succ.{0} (ZB @List.length_cons.{0} (ZB @List.length_nil.{0} (ZB @List.map_cons.{0,0} (ZB @List.map_nil.{0,0} (ZB @List.replicate_succ.{0} (ZB @List.replicate_zero.{0} (ZB @List.cons_append.{0} (ZB @List.nil_append.{0} (ZB @Nat.zero_add (ZB @Ul (ZB @WR @S3))))))))))))))))))))))))))))))))))))))))))))))))))))))))))))))))))))))))))))))
def op:=(ZB @kN (ZB @Js (ZB @Jt (ZB @Ju (ZB @gB (ZB @xH (ZB @Jv (ZB @Jw (ZB @Jx (ZB @Jy (ZB @F9 (ZB @Ga (ZB @Gb (ZB @zS (ZB @Gd (ZB @Ge (ZB @Jz (ZB @Gf (ZB @Gm (ZB @Gn (ZB @Gp (ZB @Gg (ZB @YH (ZB @YI (ZB @Dl (ZB @Gk (ZB @Gh (ZB @aV (ZB @fL (ZB @cQ (ZB @dk (ZB @cR (ZB @zT @Gr)))))))))))))))))))))))))))))))))
theorem dV(n:Nat)(w:PV.Env):(∃d,OA w (.var n)=.ok d)\/OA w (.var n)=.bad:=by
 unfold OA;dsimp only;split
 .split
  .exact .inl ⟨_,rfl⟩
  .exact .inr rfl
 .exact .inr rfl
section
variable(w:PV.Env)(op:D->D->Res R)(F:List D->Res R)(f g h:FX)(n n' n'':Nat)(x y:D)
end
section
variable(a b c d e g h i j k l m:Option R)(z:PV.Env)(r:R)(o:O)(x:D){ρ:Type}
end
end PV
namespace LW
open PV
abbrev Mi:=Int×List Nat×Int
def eA(a:Mi):D:=.tup [.int a.1,.str a.2.1,.int a.2.2]
def XQ(nY:List (List Nat))(ap:List Mi):D:=.tup [.tup (nY.map D.str),.lst (ap.map eA)]
def Ke(a b:Nat):decide ([a]<[b])=decide (a<b):=by
 rw[aay,Z2,Z2];exact lt1 a b
def fU(c:Nat):Bool:=decide (97<=c)&&decide (c<=122)
def jb(c:Nat):cq [.str [c]]=.ok (.f,.bl (fU c)):=by
 unfold cq lK fU;rw[aZ (h:=by rfl)];simp?[Ke];by_cases h1:c<97
 .have h2:¬ 97<=c:=by lia
  simp![h1,h2,aaR,aaX,aaD,aaG,OJ]
 .have h2:97<=c:=by lia
  simp![h1,h2,aaR,aaX,aaq,aaE,OJ];by_cases h3:122<c
  .have h4:¬ c<=122:=by lia
   simp![h3,h4,aaR,aaX,aaD]
  .have h4:c<=122:=by lia
   simp![h3,h4,aaR,aaX,aaq]
def jd(a:Mi)(t1 t2 t3:Option R)(rest:PV.Env):tu 3 (cn (bj 0) (cn (bj 1) (cn (bj 2) jR))) (eA a) (t1::t2::t3::rest)=.ok (some (.f,.int a.1)::some (.f,.str a.2.1)::some (.f,.int a.2.2)::rest):=by
 unfold eA;rw[RL,ZY (by simp),N0,Ot,ZY (by simp),OJ,N0,Ot,ZY (by simp),OJ,N0,Ot,ZY (by simp),OJ];rfl
def Lc(ap:List Mi)(s:Int)(m:List Nat):List Int:=(ap.filter λa=>a.1==s&&a.2.1==m).map λa=>a.2.2
def Bp(l:List Int):(tL (.lst (l.map D.int))).bind gk=some l:=uR l
def kO(a:Mi):Int:=if a.1<a.2.2 then a.2.2 else a.1
def cw(ap:List Mi):Int:=1+NX.maxD (ap.map kO) 0
variable{α:Type}
theorem cY{f:α->D}{l:List α}(h:l.length<=16777216):(l.map f).length<=sizeLine:=by
 rw[ZT];exact line_le h
theorem oR{f:α->D}{l:List α}(h:∀a,fe (f a)=true):flatDs (l.map f)=true:=by
 rw[eU,aaW,aad];intro a _;exact h a
theorem mh(nY:List (List Nat))(ap:List Mi)(hl:ap.length<=16777216):d8 [XQ nY ap]=.ok (.f,.int (cw ap)):=by
 unfold d8 lQ;rw[aZ (h:=by rfl)];simp?[XQ];rw[dh (r:=λa:Mi=>D.int (kO a)) (λenv=>∃t1 t2 t3,env=[t1,t2,t3]) ap ?_ _ ⟨_,_,_,rfl⟩]
 .rw[OJ,ZY (cY hl),OJ,oR λa=>cQ _];simp?;have e:(some (ap.map λa=>D.int (kO a))).bind gk=some (ap.map kO):=by
   have:=Bp (ap.map kO);rw[aah]at this;exact this
  rw[e];rfl
 .rintro a _ env ⟨t1,t2,t3,rfl⟩;refine⟨_,jd a t1 t2 t3 _,?_⟩;simp?;exact⟨_,_,rfl,_,_,_,rfl⟩
def LX:List Nat:=[109,111,118,101,115]
def bD(t:List Nat):Bool:=!(t==LX)&&(decide (1<=t.length)&&decide (t.length<=8))&&t.all fU
theorem mm(t:List Nat)(hl:t.length<=16777216):dq [.str t]=.ok (.f,.bl (bD t)):=by
 unfold dq qf bD LX;rw[aZ (h:=by rfl)];simp?;have hc:fF (bj 0) jj (bZ cq (ah (ax 0) ay)) (t.map λc=>D.str [c]) [none]=.ok ((t.map fU).map D.bl):=by
  rw[dh (r:=λc:Nat=>D.bl (fU c)) (λenv=>∃t1,env=[t1]) t ?_ _ ⟨_,rfl⟩]
  .rw[aah];rfl
  .rintro c _ env ⟨t1,rfl⟩;refine⟨[some (.f,.str [c])],rfl,?_⟩;simp?[jb];exact⟨_,_,rfl,_,rfl⟩
 cases h1:t==[109,111,118,101,115] with
 |true=>simp![pv,seval,aaD,aaG]
 |false=>
  simp![pv,seval,aaq,aaE,aav];by_cases h2:1<=t.length
  .have h3:(1:Int)<=(t.length:Int):=by lia
   by_cases h4:t.length<=8
   .have h5:(t.length:Int)<=8:=by lia
    simp![h2,h3,h4,h5,aaR,pv,seval,op,aaD,aav,aaE,hc];rw[ZY (cY (by rw[ZT];exact hl))];simp?[aaW];rfl
   .have h5:¬ (t.length:Int)<=8:=by lia
    simp![h2,h3,h4,h5,aaR,aaX,pv,seval,aaq,aaE,aaG]
  .have h3:¬ (1:Int)<=(t.length:Int):=by lia
   simp![h2,h3,aaR,aaX,pv,seval,aaq,aaG]
def rising{α:Type}(lt:α->α->Bool)(l:List α):Bool:=((l.zip (l.drop 1)).map λz=>lt z.1 z.2).all id
def ak(a:Mi):List Key:=[.inl a.1,.inr (S a.2.1),.inl a.2.2]
def dG(a b:Mi):Bool:=gE (ak a) (ak b)
theorem JC(a b:Mi):PJ (eA a) (eA b)=.ok (.f,.bl (dG a b)):=rfl
theorem Kf(l:List α):eV l (some 1) none=l.drop 1:=by
 unfold eV;have e:HT.sIx l.length 0 (some 1)=min 1 l.length:=HT.k9 _ _ 1;rw[e,HT.nM];by_cases h:1<=l.length
 .rw[adQ h,abi (by rw[aai];exact ZO _)]
 .have:l=[]:=aaC (by lia);subst this;rfl
theorem uf(f:α->D)(l:List α):((l.map f).zip ((l.map f).drop 1)).map (λz=>D.tup [z.1,z.2])=(l.zip (l.drop 1)).map λz=>D.tup [f z.1,f z.2]:=by
 rw[<-abX,List.zip_map,aah];rfl
theorem sd(x y:D)(t1 t2:Option R)(rest:PV.Env):tu 2 (cn (bj 0) (cn (bj 1) jR)) (.tup [x,y]) (t1::t2::rest)=.ok (some (.f,x)::some (.f,y)::rest):=by
 rw[RL,ZY (by simp),N0,Ot,ZY (by simp),OJ,N0,Ot,ZY (by simp),OJ];rfl
theorem nH(f:α->D)(lt:α->α->Bool)(h:∀a b,PJ (f a) (f b)=.ok (.f,.bl (lt a b)))(l:List α):
  fF (tu 2 (cn (bj 0) (cn (bj 1) jR))) jj (aF PJ (ax 0) (ax 1)) ((l.zip (l.drop 1)).map λz=>D.tup [f z.1,f z.2]) [none,none]=.ok (((l.zip (l.drop 1)).map λz=>lt z.1 z.2).map D.bl):=by
 rw[dh (r:=λz:α×α=>D.bl (lt z.1 z.2)) (λenv=>∃t1 t2,env=[t1,t2]) (l.zip (l.drop 1)) ?_ _ ⟨_,_,rfl⟩]
 .rw[aah];rfl
 .rintro z _ env ⟨t1,t2,rfl⟩;refine⟨_,sd _ _ t1 t2 _,?_⟩;simp?[h];exact⟨_,_,rfl,_,_,rfl⟩
theorem xM(l:List α):(l.zip (l.drop 1)).length<=l.length:=by
 rw[List.length_zip];lia
theorem xN(f:α->D)(lt:α->α->Bool)(h:∀a b,PJ (f a) (f b)=.ok (.f,.bl (lt a b)))(l:List α)(hl:l.length<=16777216):fS [.lst (l.map f)]=.ok (.f,.bl (rising lt l)):=by
 unfold fS rP;rw[aZ (h:=by rfl)];have hz:=xM l;simp?[ve,Kf,iW,uf,aav,nH f lt h l];rw[ZY (cY (by rw[ZT];lia))];simp?;rfl
theorem xO(f:α->D)(lt:α->α->Bool)(h:∀a b,PJ (f a) (f b)=.ok (.f,.bl (lt a b)))(l:List α)(hl:l.length<=16777216):fS [.tup (l.map f)]=.ok (.f,.bl (rising lt l)):=by
 unfold fS rP;rw[aZ (h:=by rfl)];have hz:=xM l;simp?[ve,Kf,iW,uf,aav,nH f lt h l];rw[ZY (cY (by rw[ZT];lia))];simp?;rfl
def dW(ms:List (List Nat)):Bool:=decide ((ms.length:Int)<=5)&&(rising ltS ms&&(ms.map bD).all id)
theorem Gs(a b:List Nat):PJ (.str a) (.str b)=.ok (.f,.bl (ltS a b)):=rfl
theorem gL(ms:List (List Nat))(hl:ms.length<=16777216)(hn:∀m∈ms,m.length<=16777216):d9 [.tup (ms.map D.str)]=.ok (.f,.bl (dW ms)):=by
 unfold d9 lR dW;rw[aZ (h:=by rfl)];simp?[ZT];cases h1:decide ((ms.length:Int)<=5) with
 |false=>simp![pv,seval,aaG]
 |true=>
  simp![pv,seval,aaE,xO D.str ltS Gs ms hl,op];cases h2:rising ltS ms with
  |false=>simp![pv,seval,aaG]
  |true=>
   simp![pv,seval,aaE,op];rw[dh (r:=λm:List Nat=>D.bl (bD m)) (λenv=>∃t1,env=[t1]) ms ?_ _ ⟨_,rfl⟩]
   .rw[OJ,ZY (cY hl),OJ];have e:(ms.map λm=>D.bl (bD m))=(ms.map bD).map D.bl:=by rw[aah];rfl
    rw[e];simp?
   .rintro m hm env ⟨t1,rfl⟩;refine⟨[some (.f,.str m)],rfl,?_⟩;simp?[mm m (hn m hm)];exact⟨_,_,rfl,_,rfl⟩
def eC(n:Int):Bool:=decide (0<=n)&&decide (n<12)
theorem nI(n:Int):c7 [.int n]=.ok (.f,.bl (eC n)):=by
 unfold c7 nj eC;rw[aZ (h:=by rfl)];simp?;cases h1:decide (0<=n) with
 |false=>simp![pv,seval,aaG]
 |true=>simp?[aaE]
def jH(ms:List (List Nat))(a:Mi):Bool:=eC a.1&&(decide (a.2.1∈ms)&&eC a.2.2)
def eN(ap:List Mi)(ms:List (List Nat)):Bool:=!decide (60<(ap.length:Int))&&rising dG ap&&(ap.map (jH ms)).all id
theorem j4(ap:List Mi)(ms:List (List Nat))(hl:ap.length<=16777216):eZ [.lst (ap.map eA),.tup (ms.map D.str)]=.ok (.f,.bl (eN ap ms)):=by
 unfold eZ nq eN;rw[aZ (h:=by rfl)];simp?[ZT];have hc:fF (tu 3 (cn (bj 0) (cn (bj 1) (cn (bj 2) jR)))) jj (AV (bZ c7 (ah (ax 0) ay)) (AV (bu SK (ax 1) (ax 3)) (bZ c7 (ah (ax 2) ay)))) (ap.map eA) [none,none,none,some (.f,.tup (ms.map D.str))]=.ok ((ap.map (jH ms)).map D.bl):=by
  rw[dh (r:=λa:Mi=>D.bl (jH ms a)) (λenv=>∃t1 t2 t3,env=[t1,t2,t3,some (.f,.tup (ms.map D.str))]) ap ?_ _ ⟨_,_,_,rfl⟩]
  .rw[aah];rfl
  .rintro a _ env ⟨t1,t2,t3,rfl⟩;refine⟨_,jd a t1 t2 t3 _,?_⟩;unfold jH;simp?[nI];cases h1:eC a.1 with
   |false=>
    simp![pv,seval,aaG];exact⟨_,_,rfl,_,_,_,rfl⟩
   |true=>
    simp?[aaE];cases h2:decide (a.2.1∈ms) with
    |false=>
     simp![pv,seval,aaG];exact⟨_,_,rfl,_,_,_,rfl⟩
    |true=>
     simp?[aaE,nI];exact⟨_,_,rfl,_,_,_,rfl⟩
 cases h1:decide (60<(ap.length:Int)) with
 |true=>simp![pv,seval,aaD,aaG]
 |false=>
  simp?[aaq,aaE,aav,xN eA dG JC ap hl];cases h2:rising dG ap with
  |false=>simp![pv,seval,aaq,aaG]
  |true=>
   simp?[aaD,aav,aaE,hc];rw[ZY (cY (by rw[ZT];exact hl))];simp?
variable{g:FS}
theorem for_list{a:FG}{e:α->D}(l:List α)(P:Nat->PV.Env->Prop)
  (h:∀k x env,l[k]?=some x->P k env->∃L0,a (e x) env=.ok L0/\∃Ml,g L0=.ok (.nx Ml)/\P (k+1) Ml):∀env,P 0 env->∃env',oX a g (l.map e) env=.ok (.nx env')/\P l.length env':=by
 intro env h0;have:=Dm (a:=a) (g:=g) P (l.map e) (λi d env hi hp=>by
  rw[Z9,aaH]at hi;obtain⟨x,hx,rfl⟩:=hi;obtain⟨L0,h1,Ml,h2,h3⟩:=h i x env hx hp;exact⟨L0,h1,Ml,.inl h2,h3⟩) env h0
 rwa [ZT]at this
abbrev LNN:=List (List Nat)
variable{β:Type}
theorem b9{l:List α}(f:α->β):(l.map f).length=l.length:=ZT f
theorem fM:(false=true)=False:=aav
variable{i:Nat}
theorem qQ{l:List α}{a:α}(h:l[i]?=some a):∃h:i<l.length,l[i]=a:=Z1.mp h
theorem ug{l:List α}(h:i<l.length):l[i]?=some l[i]:=ZW h
theorem j5{f:α->β}{a:α}{l:List α}:(a::l).map f=f a::l.map f:=aae
theorem iR{a b:α}(h:a∈[b]):a=b:=aan.mp h
theorem mF{f:α->β}{l:List α}{b:β}(h:b∈l.map f):∃a,a∈l/\f a=b:=aaO.mp h
theorem mn{a:α}{s t:List α}(h:a∈s++t):a∈s\/a∈t:=aag.mp h
theorem eK{s t:List α}:(s++t).length=s.length+t.length:=aau
variable{env env':PV.Env}
theorem aP{s t:FS}(h:s env=.ok (.nx env')):sSeq s t env=t env':=by rw[NW,h,OJ]
theorem jI{c:FT}{g:FS}(P:Nat->PV.Env->Prop)(fin:PV.Env->Prop)(h:∀k env,P k env->(∃L0,c env=.ok (false,L0)/\fin L0)\/(∃L0,c env=.ok (true,L0)/\∃Ml k',g L0=.ok (.nx Ml)/\k'<k/\P k' Ml)):
  ∀n k env,k<n->P k env->∃env',ft c g n env=.ok (.nx env')/\fin env'
 | 0,k,env,hk,_=>absurd hk (adR _)
 |n+1,k,env,hk,hp=>by
  rcases h k env hp with⟨L0,h1,h2⟩|⟨L0,h1,Ml,k',h2,h3,h4⟩
  .exact⟨L0,by rw[ue,h1,OJ];rfl,h2⟩
  .obtain⟨env',e,hf⟩:=jI P fin h n k' Ml (by lia) h4;refine⟨env',?_,hf⟩;rw[ue,h1,OJ];dsimp only;rw[ZY rfl,h2,OJ];exact e
theorem vg{l:List α}(h:l.length<=100000):l.length<sizeLine:=ZV (aaw _) (line_le (by lia))
theorem at2(a b c:α):Ow [a,b,c] (2:Int)=some c:=rfl
abbrev Nd:=Int×LNN
structure Bfs(ap:List Mi)(i:Nat)(pre:List Mi)(N:List Nd)(T:List Mi):Prop where
 z:N[0]?=some (0,[])
 len:N.length=T.length+1
 nd:(N.map (·.1)).Nodup
 bd:∀n∈N,0<=n.1/\n.1<12
 tr:∀(j:Nat) (a:Mi),T[j]?=some a->a∈ap/\∃(k:Nat) (n:Nd),k<=j/\N[k]?=some n/\a.1=n.1/\N[j+1]?=some (a.2.2,n.2++[a.2.1])
 mono:∀(j k:Nat) (n m:Nd),j<=k->N[j]?=some n->N[k]?=some m->n.2.length<=m.2.length
 top:∀n∈N,∀c:Nd,N[i]?=some c->n.2.length<=c.2.length+1
 clo:∀k,k<i->∀n:Nd,N[k]?=some n->∀a∈ap,a.1=n.1->∃m∈N,m.1=a.2.2/\m.2.length<=n.2.length+1
 cur:∀a∈pre,∀c:Nd,N[i]?=some c->a.1=c.1->∃m∈N,m.1=a.2.2/\m.2.length<=c.2.length+1
theorem Bfs.start(ap:List Mi):Bfs ap 0 [] [(0,[])] []:=by
 refine⟨rfl,rfl,aas.mpr ⟨aar,aa0⟩,λn hn=>?_,λj a h=>by simp at h,λj k n m _ h1 h2=>?_,λn hn c hc=>?_,λk hk=>absurd hk (adR _),λa ha=>nomatch ha⟩
 .rw[iR hn];exact⟨abQ _,by decide⟩
 .rw[iR (aaA h1)];exact aaB _
 .rw[iR hn];exact aaB _
variable{j:Nat}
theorem je{l:List α}{x:α}{y:α}(h:l[j]?=some y):(l++[x])[j]?=some y:=by
 rw[abJ (qQ h).1];exact h
theorem gD{l:List α}{x:α}{y:α}(h:(l++[x])[j]?=some y):l[j]?=some y\/(j=l.length/\y=x):=by
 by_cases hj:j<l.length
 .rw[abJ hj]at h;exact .inl h
 .rw[aaM (by lia)]at h;by_cases e:j-l.length=0
  .rw[e]at h;exact .inr ⟨by lia,by simpa using h.symm⟩
  .rw[adS (by simp;lia)]at h;cases h
variable{a:Mi}{ap pre:List Mi}{N:List Nd}
theorem Bfs.skip{T:List Mi}(b:Bfs ap i pre N T){c:Nd}(hc:N[i]?=some c)(h:a.1≠c.1\/a.2.2∈N.map (·.1)):Bfs ap i (pre++[a]) N T:=by
 refine⟨b.z,b.len,b.nd,b.bd,b.tr,b.mono,b.top,b.clo,λx hx c' Qi e=>?_⟩;rcases mn hx with hx|hx
 .exact b.cur x hx c' Qi e
 .rw[iR hx]at e |-;rw[hc]at Qi;cases Qi;rcases h with h|h
  .exact absurd e h
  .obtain⟨m,hm,em⟩:=mF h;exact⟨m,hm,em,b.top m hm c hc⟩
theorem Bfs.take{T:List Mi}(b:Bfs ap i pre N T){c:Nd}(hc:N[i]?=some c)(ha:a∈ap)(We:0<=a.2.2/\a.2.2<12)(h1:a.1=c.1)(h2:a.2.2∉N.map (·.1)):Bfs ap i (pre++[a]) (N++[(a.2.2,c.2++[a.2.1])]) (T++[a]):=by
 have hi:=(qQ hc).1;have Ql:(c.2++[a.2.1]).length=c.2.length+1:=by rw[eK];rfl
 have up:∀{x:Int}{B:Nat},(∃m∈N,m.1=x/\m.2.length<=B)->∃m∈N++[(a.2.2,c.2++[a.2.1])],m.1=x/\m.2.length<=B:=λ⟨m,hm,q⟩=>⟨m,ZX _ hm,q⟩
 refine⟨je b.z,by rw[eK,eK,b.len];rfl,?_,λn hn=>?_,λj x hx=>?_,λj k n m hjk hn hm=>?_,λn hn c' Qi=>?_,λk hk n hn x hx e=>?_,λx hx c' Qi e=>?_⟩
 .rw[Z4,aap];refine⟨b.nd,aas.mpr ⟨aar,aa0⟩,λx hx y hy=>?_⟩;have:y=a.2.2:=by simpa using hy
  rw[this];rintro rfl;exact h2 hx
 .rcases mn hn with hn|hn
  .exact b.bd n hn
  .rw[iR hn];exact We
 .rcases gD hx with hx|⟨rfl,rfl⟩
  .obtain⟨q,k,n,hk,hn,e,VH⟩:=b.tr j x hx;exact⟨q,k,n,hk,je hn,e,je VH⟩
  .refine⟨ha,i,c,?_,je hc,h1,?_⟩
   .have:=b.len;lia
   .rw[<-b.len,aaM (ZO _),aev];rfl
 .rcases gD hn with hn|⟨rfl,rfl⟩
  .rcases gD hm with hm|⟨rfl,rfl⟩
   .exact b.mono j k n m hjk hn hm
   .show n.2.length<=(c.2++[a.2.1]).length;rw[Ql];exact b.top n (aaA hn) c hc
  .rcases gD hm with hm|⟨rfl,rfl⟩
   .have:=(qQ hm).1;lia
   .exact ZO _
 .have:c'=c:=by
   rw[je hc]at Qi;exact(aax Qi).symm
  subst this;rcases mn hn with hn|hn
  .exact b.top n hn c' hc
  .rw[iR hn];exact adH Ql
 .rcases gD hn with hn|⟨rfl,rfl⟩
  .exact up (b.clo k hk n hn x hx e)
  .lia
 .have:c'=c:=by
   rw[je hc]at Qi;exact(aax Qi).symm
  subst this;rcases mn hx with hx|hx
  .exact up (b.cur x hx c' hc e)
  .rw[iR hx];exact⟨_,ZK _ ZI,rfl,adH Ql⟩
theorem Bfs.next{T:List Mi}(b:Bfs ap i ap N T){c:Nd}(hc:N[i]?=some c):Bfs ap (i+1) [] N T:=by
 refine⟨b.z,b.len,b.nd,b.bd,b.tr,b.mono,λn hn c' Qi=>?_,λk hk n hn a ha e=>?_,λa ha=>nomatch ha⟩
 .have h1:=b.top n hn c hc;have h2:=b.mono i (i+1) c c' (abU _) hc Qi;lia
 .by_cases hki:k=i
  .subst hki;rw[hc]at hn;cases hn;exact b.cur a ha c hc e
  .exact b.clo k (by lia) n hn a ha e
theorem kZ:∀(n:Nat) {l:List Int},l.Nodup->(∀x∈l,0<=x/\x<(n:Int))->l.length<=n
 | 0,l,_,hb=>by
  cases l with
  |nil=>exact ZO _
  |cons a l=>have:=hb a ZI;lia
 |n+1,l,nd,hb=>by
  have h1:=kZ n (l:=l.erase (n:Int)) (nd.erase _) λx hx=>by
   have h2:=(nd.mem_erase_iff.mp hx)
   have h3:=hb x h2.2;have h4:=h2.1;lia
  have:=List.length_erase_le (a:=(n:Int)) (l:=l);have h5:l.length<=(l.erase (n:Int)).length+1:=by
   by_cases hm:(n:Int)∈l
   .rw[adk hm];have:=adB hm;lia
   .rw[List.erase_of_not_mem hm];lia
  lia
theorem Bfs.le12{T:List Mi}(b:Bfs ap i pre N T):N.length<=12:=by
 have:=kZ 12 b.nd λx hx=>by
  obtain⟨n,hn,rfl⟩:=mF hx;exact b.bd n hn
 rw[b9]at this;exact this
theorem xP(ap:List Mi)(i:Nat)(pre:List Mi)(N:List Nd)(T:List Mi)(b:Bfs ap i pre N T)(c:Nd)(hc:N[i]?=some c)(a:Mi)(ha:a∈ap)(We:0<=a.2.2/\a.2.2<12):
  ∃N' T',Bfs ap i (pre++[a]) N' T'/\N'[i]?=some c/\fJ [some (.f,.lst (ap.map eA)),some (.l .f,.lst ((N.map (·.1)).map D.int)),some (.l .f,.lst (T.map eA)),some (.f,.int (i:Int)),some (.f,eA a)]=.ok (.nx [some (.f,.lst (ap.map eA)),some (.l .f,.lst ((N'.map (·.1)).map D.int)),some (.l .f,.lst (T'.map eA)),some (.f,.int (i:Int)),some (.f,eA a)]):=by
 have UA:=b.le12;have NI:=(qQ hc).1;have NP:Ow ((N.map (·.1)).map D.int) (i:Int)=some (.int c.1):=dw (by rw[Z9,Z9,hc];rfl);have z1:((N.map (·.1)).map D.int).length<sizeLine:=vg (by rw[b9,b9];lia);have z2:(T.map eA).length<sizeLine:=vg (by rw[b9];have:=b.len;lia);unfold fJ eA;by_cases h1:a.1=c.1
 .by_cases h2:a.2.2∈N.map (·.1)
  .refine⟨N,T,b.skip hc (.inr h2),hc,?_⟩;have e1:(a.1==c.1)=true:=aaK.mpr h1;simp?[NP,e1,at2,h2,aaR,aaD,fM]
  .refine⟨_,_,b.take hc ha We h1 h2,je hc,?_⟩;have e1:(a.1==c.1)=true:=aaK.mpr h1;have e:(λa:Mi=>D.tup [D.int a.1,D.str a.2.1,D.int a.2.2])=eA:=rfl;rw[e] at *;simp?[NP,e1,at2,h2,aaX,aaq,z1,z2,Z4];rfl
 .refine⟨N,T,b.skip hc (.inl h1),hc,?_⟩;have e1:(a.1==c.1)=false:=aaj.mpr h1;simp?[NP,e1,fM]
theorem xQ(ap:List Mi)(hl:ap.length<=1000)(hb:∀a∈ap,0<=a.2.2/\a.2.2<12):∃N T,Bfs ap N.length [] N T/\fC [.lst (ap.map eA)]=.ok (.l .f,.lst (T.map eA)):=by
 unfold fC qg;rw[aZ (h:=by rfl)];rw[aP (env':=[some (.f,.lst (ap.map eA)),some (.l .f,.lst [.int 0]),none,none,none]) (by simp?)];rw[aP (env':=[some (.f,.lst (ap.map eA)),some (.l .f,.lst [.int 0]),some (.l .f,.lst []),none,none]) (by simp?)];rw[aP (env':=[some (.f,.lst (ap.map eA)),some (.l .f,.lst [.int 0]),some (.l .f,.lst []),some (.f,.int 0),none]) (by simp?)];obtain⟨env',ew,N,T,i,t4,b,hi,rfl⟩:=jI (c:=(Mw (aF PJ (ax 3) (aq (a9 lenA (ah (ax 1) ay)))))) (g:=hJ)
  (λk env=>∃N T i t4,Bfs ap i [] N T/\i<=N.length/\k=13-i/\env=[some (.f,.lst (ap.map eA)),some (.l .f,.lst ((N.map (·.1)).map D.int)),some (.l .f,.lst (T.map eA)),some (.f,.int ((i:Nat):Int)),t4]) (λenv=>∃N T i t4,Bfs ap i [] N T/\i=N.length/\env=[some (.f,.lst (ap.map eA)),some (.l .f,.lst ((N.map (·.1)).map D.int)),some (.l .f,.lst (T.map eA)),some (.f,.int ((i:Nat):Int)),t4]) (by
  rintro k env ⟨N,T,i,t4,b,hi,rfl,rfl⟩;have UA:=b.le12;by_cases NI:i<N.length
  .refine .inr ⟨[some (.f,.lst (ap.map eA)),some (.l .f,.lst ((N.map (·.1)).map D.int)),some (.l .f,.lst (T.map eA)),some (.f,.int ((i:Nat):Int)),t4],?_,?_⟩
   .have:(i:Int)<(N.length:Int):=by lia
    simp?[b9,this,aaR]
   .obtain⟨c,hc⟩:∃c,N[i]?=some c:=⟨N[i],ug NI⟩
    obtain⟨env',ef,N',T',t4',b',Qi,rfl⟩:=for_list (a:=bj 4) (g:=fJ) (e:=eA) ap (λj env=>∃N T t4,Bfs ap i (ap.take j) N T/\N[i]?=some c/\env=[some (.f,.lst (ap.map eA)),some (.l .f,.lst ((N.map (·.1)).map D.int)),some (.l .f,.lst (T.map eA)),some (.f,.int ((i:Nat):Int)),t4]) (by
     rintro j a env hj ⟨N,T,t4,b,hc,rfl⟩;have Zu:=aaA hj;obtain⟨N',T',b',Qi,e⟩:=xP ap i _ N T b c hc a Zu (hb a Zu);have ht:ap.take (j+1)=ap.take j++[a]:=by rw[adb,hj];rfl
     exact⟨_,rfl,_,e,N',T',some (.f,eA a),by rw[ht];exact b',Qi,rfl⟩) _ ⟨N,T,t4,by rw[ac7];exact b,hc,rfl⟩
    rw[ab1]at b';have hlt':=(qQ Qi).1;refine⟨_,13-(i+1),?_,by lia,N',T',i+1,t4',b'.next Qi,by lia,rfl,rfl⟩;unfold hJ;rw[aP (env':=_) (by
     unfold lS;simp?;exact ef)]
    unfold km;simp?[Int.natCast_add,Int.cast_ofNat_Int]
  .refine .inl ⟨_,?_,N,T,i,t4,b,by lia,rfl⟩;have:¬ (i:Int)<(N.length:Int):=by lia
   simp?[b9,this,aaX]) 100000 13 _ (by decide) ⟨[(0,[])],[],0,none,Bfs.start ap,aaB _,rfl,rfl⟩
 subst hi;rw[aP (env':=_) (by
  unfold lT;exact ew)]
 unfold ko;exact⟨N,T,b,by simp?⟩
structure Least(ap:List Mi)(met:List Int):Prop where
 nd:met.Nodup
 zero:0∈met
 closed:∀a∈ap,a.1∈met->a.2.2∈met
 least:∀P:Int->Prop,P 0->(∀a∈ap,P a.1->P a.2.2)->∀x∈met,P x
theorem Bfs.least{T:List Mi}(b:Bfs ap N.length [] N T):Least ap (N.map (·.1)):=by
 refine⟨b.nd,aaO.mpr ⟨(0,[]),aaA b.z,rfl⟩,λa ha h=>?_,λS h0 hc x hx=>?_⟩
 .obtain⟨n,hn,e⟩:=mF h;obtain⟨j,hj⟩:=abl.mp hn;obtain⟨m,hm,em,_⟩:=b.clo j (qQ hj).1 n hj a ha e.symm;exact aaO.mpr ⟨m,hm,em⟩
 .obtain⟨n,hn,rfl⟩:=mF hx;obtain⟨j,hj⟩:=abl.mp hn;clear hx hn;induction j using Nat.strongRecOn generalizing n with
  |_ j ih=>
   cases j with
   |zero=>
    rw[b.z]at hj;cases hj;exact h0
   |succ j=>
    have NI:=(qQ hj).1;have hl:=b.len;obtain⟨ha,k,m,hk,hm,e,VH⟩:=b.tr j T[j] (ug (by lia));rw[hj]at VH;cases VH;exact hc _ ha (by rw[e];exact ih k (by lia) m hm)
theorem Bq(ap:List Mi)(hr:∀a∈ap,0<=a.2.2/\a.2.2<12)(hl:ap.length<=1000):∃(met:List Int) (T:List Mi),Least ap met/\met.length=T.length+1/\T.length<=12/\fC [.lst (ap.map eA)]=.ok (.l .f,.lst (T.map eA)):=by
 obtain⟨N,T,b,e⟩:=xQ ap hl hr;have UA:=b.le12;have hlen:=b.len;exact⟨N.map (·.1),T,b.least,by rw[b9];exact b.len,by lia,e⟩
theorem h9:∀(l:List Int) (b:Int),b<=l.foldl max b/\(∀x∈l,x<=l.foldl max b)/\(l.foldl max b=b\/l.foldl max b∈l)
 |[],b=>⟨abQ _,λ_ h=>(nomatch h),.inl rfl⟩
 |a::l,b=>by
  obtain⟨h1,h2,h3⟩:=h9 l (max b a);rw[abT];refine⟨by lia,λx hx=>?_,?_⟩
  .rcases ZJ.mp hx with rfl|hx
   .lia
   .exact h2 x hx
  .rcases h3 with h3|h3
   .rw[h3];by_cases h:b<=a
    .exact .inr (by rw[Int.max_eq_right h];exact ZI)
    .exact .inl (Int.max_eq_left (by lia))
   .exact .inr (ZN _ h3)
theorem uh{ns:List Int}{x:Int}(h:x∈ns):x<=qZ ns:=(h9 ns _).2.1 x h
theorem uk{ns:List Int}(h:ns≠[]):qZ ns∈ns:=by
 cases ns with
 |nil=>exact absurd rfl h
 |cons a l=>
  rcases(h9 (a::l) a).2.2 with e|e
  .show List.foldl max a (a::l)∈a::l;rw[e];exact ZI
  .exact e
theorem Dt{ns:List Int}{d x:Int}(h:x∈ns):x<=NX.maxD ns d:=by
 unfold NX.maxD;rw[Z6 (List.ne_nil_of_mem h)];exact uh h
theorem xR(ns:List Int)(d:Int):(ns=[]/\NX.maxD ns d=d)\/NX.maxD ns d∈ns:=by
 unfold NX.maxD;by_cases h:ns=[]
 .exact .inl ⟨h,ZY h⟩
 .rw[Z6 h];exact .inr (uk h)
theorem mq(a:Mi):a.1<=kO a/\a.2.2<=kO a/\(kO a=a.1\/kO a=a.2.2):=by
 unfold kO;split
 .exact⟨by lia,by lia,.inr rfl⟩
 .exact⟨by lia,by lia,.inl rfl⟩
theorem qE(h:a∈ap):a.1<cw ap/\a.2.2<cw ap:=by
 have h1:=Dt (d:=0) (aaO.mpr ⟨a,h,rfl⟩:kO a∈ap.map kO);obtain⟨h2,h3,_⟩:=mq a;unfold cw;lia
theorem um:∀(n:Nat) {l:List Int},l.Nodup->(∀i:Nat,i<n->(i:Int)∈l)->n<=l.length
 | 0,_,_,_=>aaB _
 |n+1,l,nd,h=>by
  have hm:=h n (aaw n);have h1:=um n (l:=l.erase (n:Int)) (nd.erase _) λi hi=>nd.mem_erase_iff.mpr ⟨by lia,h i (by lia)⟩
  rw[adk hm]at h1;have:=adB hm;lia
structure Laid(nY:LNN)(ap:List Mi):Prop where
 nl:nY.length<=5
 nr:rising ltS nY=true
 nn:∀m∈nY,bD m=true
 al:ap.length<=60
 ar:rising dG ap=true
 av:∀a∈ap,0<=a.1/\a.1<12/\a.2.1∈nY/\0<=a.2.2/\a.2.2<12
 low:∀t:Int,0<t->t<cw ap->∃a∈ap,a.2.2=t/\a.1<t
theorem vh(h:∀a∈ap,0<=a.1/\0<=a.2.2):1<=cw ap:=by
 unfold cw;rcases xR (ap.map kO) 0 with⟨_,e⟩|e
 .lia
 .obtain⟨a,ha,e2⟩:=mF e;have:=h a ha;obtain⟨h1,h2,_⟩:=mq a;lia
theorem gM{m:List Nat}(h:bD m=true):m.length<=8/\1<=m.length/\m≠LX:=by
 unfold bD at h;simp![ZP,Bool.not_eq_true',Z2,aaj]at h;exact⟨h.1.2.2,h.1.2.1,h.1.1⟩
theorem dC(as:List Mi):flatDs (as.map eA)=true:=by
 rw[eU,aaW,aad];exact λp _=>rfl
variable{nY:LNN}
theorem vk(L:Laid nY ap):bA [.tup (nY.map D.str),.lst (ap.map eA)]=.ok (.f,.bl true):=by
 have hm:dW nY=true:=by
  unfold dW;rw[L.nr];have h5:((nY.length:Int)<=5):=by have:=L.nl;lia
  simp![h5,aaR,aaE,aaW,aad];intro m hm;exact L.nn m hm
 have ha:eN ap nY=true:=by
  unfold eN;rw[L.ar];have h5:¬ (60<(ap.length:Int)):=by have:=L.al;lia
  simp![h5,aaX,aaq,aaE,aaW,aad];intro a ha;obtain⟨h1,h2,h3,h4,h5⟩:=L.av a ha;show jH nY a=true;unfold jH eC;simp[h1,h2,h3,h4,h5]
 have hl:ap.length<=16777216:=by have:=L.al;lia
 have XR:nY.length<=16777216:=by have:=L.nl;lia
 obtain⟨met,T,Le,hT,hT2,e⟩:=Bq ap (λa ha=>⟨(L.av a ha).2.2.2.1,(L.av a ha).2.2.2.2⟩) (by have:=L.al;lia);have pos:=vh λa ha=>⟨(L.av a ha).1,(L.av a ha).2.2.2.1⟩
 have hlen:((met.length:Nat):Int)=cw ap:=by
  have inM:∀(n:Nat) (i:Nat),i<n->(i:Int)<cw ap->(i:Int)∈met:=by
   intro n;induction n with
   |zero=>exact λi hi=>absurd hi (adR _)
   |succ n ih=>
    intro i hi hs;by_cases h0:i=0
    .subst h0;exact Le.zero
    .obtain⟨a,ha,e1,e2⟩:=L.low i (by lia) hs;rw[<-e1];refine Le.closed a ha ?_;have h1:=(L.av a ha).1;obtain⟨j,hj⟩:=Z5 h1;rw[hj];exact ih j (by lia) (by lia)
  have h1:(cw ap).toNat<=met.length:=um _ Le.nd λi hi=>inM (i+1) i (aaw _) (by lia)
  have h2:met.length<=(cw ap).toNat:=kZ _ Le.nd λx hx=>by
   have:=Le.least (λx=>0<=x/\x<cw ap) ⟨abQ _,by lia⟩ (λa ha _=>⟨(L.av a ha).2.2.2.1,(qE ha).2⟩) x hx;lia
  lia
 unfold bA gu;rw[aZ (h:=by rfl)];have Oz:=mh nY ap hl;unfold XQ at Oz;have WY:1+(T.length:Int)=cw ap:=by rw[<-hlen,hT];lia
 simp?[dC,gL nY XR (λm hm=>by have:=(gM (L.nn m hm)).1;lia),j4 ap nY hl,hm,ha,aaD,fM,e,Oz,b9,WY,aaS]
theorem mr(lt:α->α->Bool)(a b:α)(l:List α):rising lt (a::b::l)=(lt a b&&rising lt (b::l)):=rfl
theorem ia{α:Type}{lt:α->α->Bool}:∀{l:List α},l.Pairwise (λa b=>lt a b=true)->rising lt l=true
 |[],_=>rfl
 |[_],_=>rfl
 |a::b::l,h=>by
  rw[abd]at h;rw[mr,h.1 b ZI,ia h.2];rfl
theorem fN{lt:α->α->Bool}(o:Ord lt){l:List α}(nd:l.Nodup):(bQ lt l).Pairwise (λa b=>lt a b=true):=by
 have h1:=gZ o l;have h2:(bQ lt l).Nodup:=(eX lt l).nodup_iff.mpr nd;refine(h1.and h2).imp λ{a b} h=>?_
 cases e:lt a b with
 |true=>rfl
 |false=>exact absurd (o.tot a b e h.1) h.2
theorem dX(lt:α->α->Bool)(l:List α):(bQ lt l).length=l.length:=(eX lt l).length_eq
theorem cB(lt:α->α->Bool){l:List α}{a:α}:a∈bQ lt l<->a∈l:=(eX lt l).mem_iff
theorem j6:∀l:LNN,dM (l.map D.str)=some l
 |[]=>rfl
 |a::l=>by
  rw[j5,dM,j6 l];rfl
theorem Du(l:LNN)(h:l.length<64):dN [.lst (l.map D.str)]=.ok (.l .f,.lst ((bQ ltS l).map D.str)):=by
 unfold dN;dsimp only;rw[ZY (by rw[b9];exact h)];unfold oE;rw[j6]
def cell(ns:List Int)(k:Nat):Int:=ns.getD k 0
theorem eL(ns:List Int)(k:Nat):aG [.lst (ns.map D.int),.int (k:Int)]=.ok (.f,.int (cell ns k)):=by
 unfold aG iK cell;rw[aZ (h:=by rfl)];simp?[b9];by_cases h:k<ns.length
 .have h1:(k:Int)<(ns.length:Int):=by lia
  have h2:Ow (ns.map D.int) (k:Int)=some (.int (ns.getD k 0)):=dw (by rw[Z9,aab,ug h];rfl);simp![h1,aaR,pv,seval,h2]
 .have h1:¬ (k:Int)<(ns.length:Int):=by lia
  simp![h1,aaX,pv,seval,fM,aab,adS (acA h),adt]
def O5:List Nat:=[97,98,99,100,101,102,103,104,105,106,107,108,109,110,111,112,113,114,115,116,117,118,119,120,121,122]
theorem Gu(j:Nat)(h:j<26):O5[j]?=some (97+j):=by
 have:∀j:Fin 26,O5[j.1]?=some (97+j.1):=by decide
 exact this ⟨j,h⟩
theorem Br(j:Int)(h0:0<=j)(h:j<26):Ow O5 j=some (97+j.toNat):=by
 obtain⟨n,rfl⟩:=Z5 h0;exact dw (Gu n (by lia))
theorem Bs(j:Int)(h0:0<=j)(h:j<26):fU (97+j.toNat)=true:=by
 unfold fU;have h1:97<=97+j.toNat:=by lia
 have h2:97+j.toNat<=122:=by lia
 simp![h1,h2,aaR,acI]
theorem zX(x:Int):0<=x%26/\x%26<26:=⟨aby _ (by decide),abf _ (by decide)⟩
theorem JD:wJ (.int 10) (.int 20)=.ok (.f,.int (10 ^ 20)):=by rw[xJ,ZY (by decide),show(20:Int).toNat=20 from rfl]
theorem Dv:wJ (.int 10) (.int 12)=.ok (.f,.int (10 ^ 12)):=by rw[xJ,ZY (by decide)];rfl
theorem qF(k:Nat)(h:k<=1000):fI (k:Int)=true:=by
 unfold fI;rw[Z2];lia
def fix(t:List Nat):List Nat:=if t==LX then[109,111,118,101,115,97] else t
theorem Gv(t:List Nat):Ow [D.str t,D.str [109,111,118,101,115,97]] (if t==[109,111,118,101,115] then 1 else 0)=some (.str (fix t)):=by
 unfold fix LX;cases t==[109,111,118,101,115] with
 |true=>exact YI _ _ _
 |false=>exact YH _ _
theorem zY{t:List Nat}(h1:1<=t.length)(h2:t.length<=8)(h3:t.all fU=true):bD (fix t)=true:=by
 unfold fix;cases e:t==LX with
 |true=>rfl
 |false=>
  rw[Z6 ZU];unfold bD;rw[e,h3];simp![h1,h2,aaR];rfl
theorem fO(l:List α)(k:Nat):eV l none (some (k:Int))=l.take k:=by
 unfold eV;rw[HT.nM,HT.k9,ac4,aeu];by_cases h:k<=l.length
 .rw[adQ h]
 .rw[Nat.min_eq_right (by lia),abi (ZO _),abi (by lia)]
theorem eE(l:List α)(k:Nat):eV l (some (k:Int)) none=l.drop k:=by
 unfold eV;rw[HT.nM,HT.k9];by_cases h:k<=l.length
 .rw[adQ h,abi (by rw[aai];exact ZO _)]
 .rw[Nat.min_eq_right (by lia),ach (ZO _),ach (by lia),List.take_nil]
theorem Gw(c:Nat)(h:fU c=true):wU O5 [.str [c]]=.ok (.f,.int ((c-97:Nat):Int)):=by
 unfold fU at h;rw[ZP,Z2,Z2]at h;obtain⟨j,rfl⟩:∃j,c=97+j:=⟨c-97,by lia⟩
 have key:∀j:_root_.Fin 26,Builtin.Str.occurrences (S O5) (S [97+j.1]) 0 (S O5).length 1=[j.1]:=by
  intro j;rw[PySem.StrLaws.occ_eq];revert j;decide
 unfold wU;dsimp only;rw[key ⟨j,by lia⟩,Nat.add_sub_cancel_left]
theorem Dw{s t:List Nat}(h:s.length=t.length)(e:fix s=fix t):s=t:=by
 unfold fix at e;cases h1:s==LX with
 |true=>
  cases h2:t==LX with
  |true=>rw[aaK.mp h1,aaK.mp h2]
  |false=>
   rw[h1,h2,ZY rfl,Z6 ZU]at e;rw[<-e,aaK.mp h1]at h;cases h
 |false=>
  cases h2:t==LX with
  |true=>
   rw[h1,h2,ZY rfl,Z6 ZU]at e;rw[e,aaK.mp h2]at h;cases h
  |false=>
   rw[h1,h2,Z6 ZU,Z6 ZU]at e;exact e
theorem mv(f:Nat->α)(n:Nat)(h:∀i j,i<n->j<n->f i=f j->i=j):((List.range n).map f).Nodup:=by
 rw[List.nodup_iff_pairwise_ne,List.pairwise_map];refine List.pairwise_lt_range.imp_of_mem λ{a b} ha hb hl e=>?_
 have:=h a b (aaY.mp ha) (aaY.mp hb) e;lia
def swap(b:List Nat)(t j:Nat)(k:Nat):List Nat:=b.take t++[97+(((j:Int)+(k:Int))%26).toNat]++b.drop (t+1)
theorem jJ(b:List Nat)(t j k:Nat)(ht:t<b.length):(swap b t j k).length=b.length:=by
 unfold swap;rw[eK,eK,Z8,aai,ZR,abV];lia
theorem qG(j:Int)(h0:0<=j)(h:j<=1000)(fo:FO)(env env':PV.Env)(o:Opd)(e1:fo env=.ok (o,env'))(e2:OA env' o=.ok (.int j)):dA fo env=.ok ((List.range j.toNat).map λ(k:Nat)=>D.int (k:Int),env'):=by
 rw[xE,e1,OJ];dsimp only;rw[e2,OJ];dsimp only;rw[ZY (by lia)]
theorem gU(x b:Int)(h:0<b):dm (.int x) (.int b)=.ok (.f,.int (x%b)):=by rw[Bo,ZY h]
theorem mx(x b:Int)(h:0<b)(h2:b<=1000):eQ (.int x) (.int b)=.ok (.f,.int (x / b)):=by rw[xI,ZY (by lia)]
theorem S_inj{a b:List Nat}(h:S a=S b):a=b:=by
 have:=abB (λs:Str=>s.cps.toList) h;simpa only[eF] using this
theorem Gy{b:Mi}(h:ak a=ak b):a=b:=by
 unfold ak at h;injection h with h1 h2;injection h2 with h2 h3;injection h3 with h3 _;injection h1 with h1;injection h2 with h2;injection h3 with h3;obtain⟨x,y,z⟩:=a;obtain⟨x',y',z'⟩:=b;simp only at h1 h2 h3;rw[h1,S_inj h2,h3]
theorem se:Ord dG:=⟨λa=>oD.irr (ak a),λa b c=>oD.trans (ak a) (ak b) (ak c),λa b h1 h2=>Gy (oD.tot _ _ h1 h2)⟩
theorem JE(a:Mi):kT (ak a)=eA a:=by
 unfold kT ak eA;simp![j5,ab5,kD,eF]
theorem xS{α β:Type}(f:α->β)(lt:β->β->Bool)(x:α):∀l:List α,ins lt (f x) (l.map f)=(ins (λa b=>lt (f a) (f b)) x l).map f
 |[]=>rfl
 |y::ys=>by
  rw[j5,ins,ins];cases lt (f y) (f x) with
  |true=>rw[ZY rfl,ZY rfl,xS f lt x ys,j5]
  |false=>rw[Z6 ZU,Z6 ZU,j5,j5]
theorem qH{α β:Type}(f:α->β)(lt:β->β->Bool):∀l:List α,bQ lt (l.map f)=(bQ (λa b=>lt (f a) (f b)) l).map f
 |[]=>rfl
 |x::l=>by
  show ins lt (f x) (bQ lt (l.map f))=_;rw[qH f lt l,xS];rfl
theorem xT(as:List Mi):as.map eA=(as.map ak).map kT:=by
 rw[aah];exact abP λa _=>(JE a).symm
theorem Gz(a b:Mi):Mv (eA a) (eA b)=decide (a=b):=by
 obtain⟨x,y,z⟩:=a;obtain⟨x',y',z'⟩:=b;unfold eA;simp![Mv,kI];rw[aay];simp
def qI(as:List Mi)(a:Mi):List Mi:=if a∈as then as else as++[a]
theorem Dx(as:List Mi)(vs:List D)(a:Mi)(v:D):∃Qm,tS (as.map eA) vs (eA a) v=((qI as a).map eA,Qm):=by
 have e:(as.map eA).any (Mv (eA a))=decide (a∈as):=by
  rw[adP,aay,ab2,Z2];constructor
  .rintro⟨b,hb,h⟩;have h:Mv (eA a) (eA b)=true:=h;rw[Gz,Z2]at h;rw[h];exact hb
  .intro h;refine⟨a,h,?_⟩;show Mv (eA a) (eA a)=true;rw[Gz,Z2]
 unfold tS qI;rw[e];by_cases h:a∈as
 .rw[ZY h,ZY (aao h)];exact⟨_,rfl⟩
 .rw[Z6 h,Z6 (by simpa using h),Z4];exact⟨_,rfl⟩
variable{as:List Mi}
theorem jK{b:Mi}:b∈qI as a<->b∈as\/b=a:=by
 unfold qI;split
 .rename_i h;exact⟨.inl,λg=>g.elim id λe=>e▸h⟩
 .rw[aag,aan]
theorem uo(as:List Mi)(a:Mi):(qI as a).length<=as.length+1:=by
 unfold qI;split
 .lia
 .rw[eK];exact ZO _
structure Arcs(cnt:Int)(nY:LNN)(as:List Mi):Prop where
 nd:as.Nodup
 v:∀a∈as,0<=a.1/\a.1<cnt/\a.2.1∈nY/\0<=a.2.2/\a.2.2<cnt
variable{cnt:Int}
theorem Arcs.add(h:Arcs cnt nY as)(ha:0<=a.1/\a.1<cnt/\a.2.1∈nY/\0<=a.2.2/\a.2.2<cnt):Arcs cnt nY (qI as a):=by
 refine⟨?_,λb hb=>?_⟩
 .unfold qI;split
  .exact h.nd
  .rename_i hn;rw[aap];refine⟨h.nd,aas.mpr ⟨aar,aa0⟩,λx hx y hy=>?_⟩;rw[aan]at hy;rintro rfl;exact hn (hy▸hx)
 .rcases Iff.mp jK hb with hb|rfl
  .exact h.v b hb
  .exact ha
theorem xU(nY:LNN)(h0:nY≠[])(x:Int):∃m∈nY,Mg (.lst (nY.map D.str)) (.int (x%(nY.length:Int)))=.ok (.f,.str m):=by
 have hp:=aaQ.mpr h0;have h1:0<=x%(nY.length:Int):=aby _ (by lia);have h2:x%(nY.length:Int)<(nY.length:Int):=abf _ (by lia);obtain⟨j,ej⟩:=Z5 h1;have hj:j<nY.length:=by lia
 refine⟨nY[j],aam hj,?_⟩;have e:Ow (nY.map D.str) (j:Int)=some (.str nY[j]):=dw (by rw[Z9,ug hj];rfl);rw[ej,Ge,e]
theorem GA(x z:Int)(m:List Nat):iY true (.tup [.int x,.str m,.int z])=true:=rfl
def jg(c:Nat):Bool:=decide (48<=c)&&decide (c<=57)
theorem gN(c:Nat):bU [.str [c]]=.ok (.f,.bl (jg c)):=by
 unfold bU lM jg;rw[aZ (h:=by rfl)];simp?[Ke];by_cases h1:c<48
 .have h2:¬ 48<=c:=by lia
  simp![h1,h2,aaR,aaX,aaD,aaG,OJ]
 .have h2:48<=c:=by lia
  simp![h1,h2,aaR,aaX,aaq,aaE,OJ];by_cases h3:57<c
  .have h4:¬ c<=57:=by lia
   simp![h3,h4,aaR,aaX,aaD]
  .have h4:c<=57:=by lia
   simp![h3,h4,aaR,aaX,aaq]
def kd(c:Nat):Nat:=if fU c then 0 else if jg c then 1 else if c=32 then 2 else if c=59 then 3 else 4
def kW:Nat->List Nat
 | 0=>[108,101,116,116,101,114]
 | 1=>[102,105,103,117,114,101]
 | 2=>[98,108,97,110,107]
 |_=>[115,101,109,105,99,111,108,111,110]
theorem uq{a b:Nat}(ha:a<4)(hb:b<4):(kW a==kW b)=decide (a=b):=by
 have:a=0\/a=1\/a=2\/a=3:=by lia
 have:b=0\/b=1\/b=2\/b=3:=by lia
 rcases ‹a=0\/_› with rfl|rfl|rfl|rfl <;> rcases ‹b=0\/_› with rfl|rfl|rfl|rfl <;> decide
theorem xV(c:Nat)(h:kd c<4):cA [.str [c]]=.ok (.f,.str (kW (kd c))):=by
 have hl:=jb c;have hf:=gN c;unfold cA qc;rw[aZ (h:=by rfl)];unfold kd at h |-;cases h1:fU c with
 |true=>
  rw[h1]at hl;simp?[hl,aV,dk] <;> rfl
 |false=>
  rw[h1]at hl h;cases h2:jg c with
  |true=>
   rw[h2]at hf;simp?[hl,hf,aV,dk,fM] <;> rfl
  |false=>
   rw[h2]at hf h;rw[Z6 ZU,Z6 ZU]at h |-;by_cases h3:c=32
   .subst h3;simp?[hl,hf,aV,dk,fM] <;> rfl
   .rw[Z6 h3]at h |-;by_cases h4:c=59
    .subst h4;simp?[hl,hf,aV,dk,fM] <;> rfl
    .rw[Z6 h4]at h;exact absurd h (aba _)
theorem ib{t:List Nat}{c:Nat}(h:t[i]?=some c):Mg (.str t) (.int (i:Int))=.ok (.f,.str [c]):=by
 rw[Gf,dw h]
theorem JF(t:List Nat)(ht:t.length<=50000)(s n k:Nat)(hk:k<3)(hn:1<=n)(Oa:∀i,s<=i->i<s+n->∃c,t[i]?=some c/\kd c=k)(WZ:s+n=t.length\/∃c,t[s+n]?=some c/\kd c<4/\kd c≠k):bR [.str t,.int (s:Int),.str (kW k)]=.ok (.f,.int ((s+n:Nat):Int)):=by
 have hle:s+n<=t.length:=by
  obtain⟨c,hc,_⟩:=Oa (s+n-1) (by lia) (by lia);have:=(qQ hc).1;lia
 unfold bR g7;rw[aZ (h:=by rfl)];rw[aP (env':=[some (.f,.str t),some (.f,.int (s:Int)),some (.f,.str (kW k)),some (.f,.int ((s+1:Nat):Int))]) (by simp? <;> rfl)];have h3:(kW k==[115,101,109,105,99,111,108,111,110])=false:=by
  rw[show([115,101,109,105,99,111,108,111,110]:List Nat)=kW 3 from rfl,uq (by lia) (by lia)];exact Z7 (by lia)
 rw[aP (env':=[some (.f,.str t),some (.f,.int (s:Int)),some (.f,.str (kW k)),some (.f,.int ((s+1:Nat):Int))]) (by simp?[h3,fM])];obtain⟨env',hw,rfl⟩:=jI (c:=AU (Mw (aF PJ (ax 3) (aq (a9 lenA (ah (ax 0) ay))))) (Mw (bu Nr (aq (bZ cA (ah (aq (aF Mg (ax 0) (ax 3))) ay))) (ax 2)))) (g:=dQ) (λm env=>∃e:Nat,s+1<=e/\e+m=s+n/\env=[some (.f,.str t),some (.f,.int (s:Int)),some (.f,.str (kW k)),some (.f,.int (e:Int))]) (λenv=>env=[some (.f,.str t),some (.f,.int (s:Int)),some (.f,.str (kW k)),some (.f,.int ((s+n:Nat):Int))]) (by
  rintro m env ⟨e,he1,he2,rfl⟩;by_cases hm:m=0
  .left;have ee:e=s+n:=by lia
   subst ee;refine⟨_,?_,rfl⟩;rcases WZ with WZ|⟨c,hc,hc4,W0⟩
   .have NI:decide (((s+n:Nat):Int)<(t.length:Int))=false:=Z7 (by lia);simp?[NI,fM]
   .have NI:decide (((s+n:Nat):Int)<(t.length:Int))=true:=aao (by have:=(qQ hc).1;lia);have NP:=ib hc;have RC:=xV c hc4;have Ox:(kW (kd c)==kW k)=false:=by
     rw[uq hc4 (by lia)];exact Z7 W0
    simp?[NI,NP,RC,aV,cR,Ox]
  .right;obtain⟨c,hc,W0⟩:=Oa e (by lia) (by lia);have NI:decide ((e:Int)<(t.length:Int))=true:=aao (by have:=(qQ hc).1;lia);have NP:=ib hc;have RC:=xV c (by lia);rw[W0]at RC;have heq:(kW k==kW k)=true:=aaS _;refine⟨[some (.f,.str t),some (.f,.int (s:Int)),some (.f,.str (kW k)),some (.f,.int (e:Int))],?_,[some (.f,.str t),some (.f,.int (s:Int)),some (.f,.str (kW k)),some (.f,.int ((e+1:Nat):Int))],m-1,?_,by lia,e+1,by lia,by lia,rfl⟩
   .simp?[NI,NP,RC,aV,cR,heq]
   .unfold dQ;simp? <;> rfl) 100000 (n-1) [some (.f,.str t),some (.f,.int (s:Int)),some (.f,.str (kW k)),some (.f,.int ((s+1:Nat):Int))] (by lia) ⟨s+1,ZO _,by lia,rfl⟩
 unfold iJ g6;rw[aP hw];simp![pv,seval]
theorem GC(t:List Nat)(s:Nat):bR [.str t,.int (s:Int),.str (kW 3)]=.ok (.f,.int ((s+1:Nat):Int)):=by
 unfold bR g7;rw[aZ (h:=by rfl)];rw[aP (env':=[some (.f,.str t),some (.f,.int (s:Int)),some (.f,.str (kW 3)),some (.f,.int ((s+1:Nat):Int))]) (by simp? <;> rfl)];have h3:(kW 3==[115,101,109,105,99,111,108,111,110])=true:=by decide
 simp?[h3]
structure Chk(c:List Nat)(k:Nat):Prop where
 ne:c≠[]
 k4:k<4
 all:∀x∈c,kd x=k
 one:k=3->c.length=1
 fig:k=1->c.length<=60/\(1<c.length->c.head?≠some 48)
variable{c:List Nat}
theorem Dy(h:Chk c 1):cu [.str c]=.ok (.f,.non):=by
 obtain⟨h60,h0⟩:=h.fig rfl;unfold cu g9;rw[aZ (h:=by rfl)];have c1:decide ((c.length:Int)>60)=false:=Z7 (by lia);have c1:decide (60<(c.length:Int))=false:=c1;rw[aP (env':=[some (.f,.str c)]) (by simp?[c1,fM])];by_cases h1:1<c.length
 .have c2:decide (1<(c.length:Int))=true:=aao (by lia);obtain⟨x,r,rfl⟩:∃x r,c=x::r:=by
   cases c with
   |nil=>exact absurd rfl h.ne
   |cons x r=>exact⟨x,r,rfl⟩
  have hx:x≠48:=λz=>h0 h1 (by rw[z];rfl)
  have NP:Mg (.str (x::r)) (.int 0)=.ok (.f,.str [x]):=ib (i:=0) rfl;have he:(([x]:List Nat)==[48])=false:=by
   rw[aaj];intro z;exact hx (abH z).1
  generalize x::r=cc at c2 NP;simp?[c2,NP,he,fM] <;> rfl
 .have c2:decide (1<(c.length:Int))=false:=Z7 (by lia);simp?[c2,fM] <;> rfl
inductive Chs:List (List Nat×Nat)->Prop
 |nil:Chs []
 |one {c:List Nat}{k:Nat}:Chk c k->Chs [(c,k)]
 |cons {c d:List Nat}{k j:Nat}{l:List (List Nat×Nat)}:Chk c k->(k=3\/k≠j)->Chs ((d,j)::l)->Chs ((c,k)::(d,j)::l)
variable{l:List (List Nat×Nat)}
theorem Chs.head{k:Nat}(h:Chs ((c,k)::l)):Chk c k/\Chs l/\(k=3\/l=[]\/∃d j l',l=(d,j)::l'/\k≠j/\Chk d j):=by
 cases h with
 |one h=>exact⟨h,.nil,.inr (.inl rfl)⟩
 |cons h hk hl=>
  refine⟨h,hl,?_⟩;rcases hk with hk|hk
  .exact .inl hk
  .refine .inr (.inr ⟨_,_,_,rfl,hk,?_⟩);cases hl with
   |one h=>exact h
   |cons h _ _=>exact h
def txt(l:List (List Nat×Nat)):List Nat:=(l.map (·.1)).flatten
def PY(l:List (List Nat×Nat)):LNN:=(l.filter λz=>!(z.2==2)).map (·.1)
theorem fP(c:List Nat)(k:Nat)(l:List (List Nat×Nat)):txt ((c,k)::l)=c++txt l:=by
 unfold txt;rw[j5,aaJ]
theorem iu(c:List Nat)(k:Nat)(l:List (List Nat×Nat)):PY ((c,k)::l)=if k=2 then PY l else c::PY l:=by
 unfold PY;by_cases h:k=2
 .rw[List.filter_cons_of_neg (by rw[h];exact ZU),ZY h]
 .rw[List.filter_cons_of_pos (by show(!(k==2))=true;rw[aaj.mpr h];rfl),Z6 h,j5]
variable{post:List Nat}
theorem ur{pre:List Nat}(h1:pre.length<=i)(h2:i<pre.length+c.length):∃x∈c,(pre++(c++post))[i]?=some x:=by
 rw[aaM h1,abJ (by lia),ug (by lia)];exact⟨_,aam _,rfl⟩
theorem Dz{pre:List Nat}{k:Nat}(hl:(pre++(c++post)).length<=50000)(h:Chk c k)(hp:k=3\/post=[]\/∃x r,post=x::r/\kd x<4/\kd x≠k):bR [.str (pre++(c++post)),.int (pre.length:Int),.str (kW k)]=.ok (.f,.int ((pre.length+c.length:Nat):Int)):=by
 have hc:=aaQ.mpr h.ne;by_cases h3:k=3
 .subst h3;rw[GC,h.one rfl]
 .have hk4:=h.k4;refine JF _ hl pre.length c.length k (by lia) (by lia) (λi h1 h2=>?_) ?_
  .obtain⟨x,hx,e⟩:=ur (post:=post) h1 h2;exact⟨x,e,h.all x hx⟩
  .rcases hp.resolve_left h3 with rfl|⟨x,r,rfl,hx⟩
   .left;rw[aak,eK]
   .right;refine⟨x,?_,hx⟩;rw[aaM (by lia),aaM (by lia),show pre.length+c.length-pre.length-c.length=0 by lia];rfl
theorem JG(pre c post:List Nat):eV (pre++(c++post)) (some (pre.length:Int)) (some ((pre.length+c.length:Nat):Int))=c:=by
 unfold eV;have e1:HT.sIx (pre++(c++post)).length 0 (some (pre.length:Int))=pre.length:=by
  unfold HT.sIx;simp;lia
 have e2:HT.sIx (pre++(c++post)).length (pre++(c++post)).length (some ((pre.length+c.length:Nat):Int))=pre.length+c.length:=by
  unfold HT.sIx;simp;lia
 rw[e1,e2,List.drop_left,show pre.length+c.length-pre.length=c.length by lia,List.take_left]
theorem DA{pre:List Nat}{k:Nat}(hl:(pre++(c++post)).length<=50000)(h:Chk c k)(hp:k=3\/post=[]\/∃x r,post=x::r/\kd x<4/\kd x≠k)(out:LNN)(ho:out.length<=50000)(t3 t4 t5:Option R):
  ∃u3 u4 u5,eY [some (.f,.str (pre++(c++post))),some (.l .f,.lst (out.map D.str)),some (.f,.int ((pre.length:Nat):Int)),t3,t4,t5]=.ok (.nx [some (.f,.str (pre++(c++post))),some (.l .f,.lst ((if k=2 then out else out++[c]).map D.str)),some (.f,.int ((pre.length+c.length:Nat):Int)),u3,u4,u5]):=by
 have hc:=aaQ.mpr h.ne;obtain⟨x,hx,NP⟩:=ur (pre:=pre) (c:=c) (post:=post) (i:=pre.length) (ZO _) (by lia);have NP:=ib NP;have Zv:=h.all x hx;have RC:=xV x (by rw[Zv];exact h.k4);rw[Zv]at RC;have XJ:=Dz hl h hp;have W2:=JG pre c post;have hz:(out.map D.str).length<sizeLine:=vg (by rw[b9];lia);generalize pre++(c++post)=T at NP XJ W2;refine⟨some (.f,.str (kW k)),some (.f,.int ((pre.length+c.length:Nat):Int)),some (.f,.str c),?_⟩;unfold eY;rw[aP (env':=[some (.f,.str T),some (.l .f,.lst (out.map D.str)),some (.f,.int ((pre.length:Nat):Int)),some (.f,.str (kW k)),t4,t5]) (by simp?[NP,RC,aV,cR])];rw[aP (env':=[some (.f,.str T),some (.l .f,.lst (out.map D.str)),some (.f,.int ((pre.length:Nat):Int)),some (.f,.str (kW k)),some (.f,.int ((pre.length+c.length:Nat):Int)),t5]) (by simp?[XJ,aV,cQ])];rw[aP (env':=[some (.f,.str T),some (.l .f,.lst (out.map D.str)),some (.f,.int ((pre.length:Nat):Int)),some (.f,.str (kW k)),some (.f,.int ((pre.length+c.length:Nat):Int)),some (.f,.str c)]) (by simp?[W2])];rw[aP (env':=[some (.f,.str T),some (.l .f,.lst (out.map D.str)),some (.f,.int ((pre.length:Nat):Int)),some (.f,.str (kW k)),some (.f,.int ((pre.length+c.length:Nat):Int)),some (.f,.str c)]) (by
  have e1:=uq (a:=k) (b:=1) h.k4 (by decide);have e1:(kW k==[102,105,103,117,114,101])=decide (k=1):=e1;by_cases h1:k=1
  .rw[aao h1]at e1;rw[h1]at h;have W0:=Dy h;have Ry:fe .non=true:=rfl;simp?[e1,W0,aV,Ry]
  .rw[Z7 h1]at e1;simp?[e1,fM])]
 have e2:=uq (a:=k) (b:=2) h.k4 (by decide);have e2:(kW k==[98,108,97,110,107])=decide (k=2):=e2;by_cases h2:k=2
 .rw[aao h2]at e2;rw[ZY h2];simp?[e2,aaD,fM]
 .rw[Z7 h2]at e2;rw[Z6 h2,Z4];simp?[e2,aaq,hz] <;> rfl
theorem DB(l:List (List Nat×Nat))(hc:Chs l)(hl:(txt l).length<=50000):jV [.str (txt l)]=.ok (.l .f,.lst ((PY l).map D.str)):=by
 obtain⟨env',hw,t3,t4,t5,rfl⟩:=jI (c:=Mw (aF PJ (ax 2) (aq (a9 lenA (ah (ax 0) ay))))) (g:=eY) (λm env=>∃(pre:List Nat) (out:LNN) (r:List (List Nat×Nat)) (t3 t4 t5:Option R),Chs r/\r.length=m/\txt l=pre++txt r/\PY l=out++PY r/\out.length<=pre.length/\env=[some (.f,.str (txt l)),some (.l .f,.lst (out.map D.str)),some (.f,.int ((pre.length:Nat):Int)),t3,t4,t5])
  (λenv=>∃t3 t4 t5,env=[some (.f,.str (txt l)),some (.l .f,.lst ((PY l).map D.str)),some (.f,.int (((txt l).length:Nat):Int)),t3,t4,t5]) (by
  rintro m env ⟨pre,out,r,t3,t4,t5,hr,hm,ht,hk,hop,rfl⟩;cases r with
  |nil=>
   left;have ht:txt l=pre:=ht.trans (aak _);have hk:PY l=out:=hk.trans (aak _);have NI:decide (((pre.length:Nat):Int)<((txt l).length:Int))=false:=Z7 (by rw[ht];lia);refine⟨_,?_,t3,t4,t5,rfl⟩;rw[hk,<-ht] at *;simp?[NI]
  |cons z r=>
   right;obtain⟨c,k⟩:=z;obtain⟨h1,h2,h3⟩:=hr.head;have Zd:=aaQ.mpr h1.ne;rw[fP]at ht;rw[iu]at hk;have NI:decide (((pre.length:Nat):Int)<((txt l).length:Int))=true:=aao (by rw[ht,eK,eK];lia);have Nu:pre.length<=50000:=by
    rw[ht,eK]at hl;lia
   obtain⟨u3,u4,u5,e⟩:=DA (pre:=pre) (c:=c) (post:=txt r) (by rw[<-ht];exact hl) h1 (by
    refine h3.imp id λh3=>h3.imp (λh3=>by rw[h3];rfl) λMC=>?_
    obtain⟨d,j,l',h3,hkj,hd⟩:=MC;obtain⟨x,rr,ed⟩:∃x rr,d=x::rr:=by
     cases d with
     |nil=>exact absurd rfl hd.ne
     |cons x rr=>exact⟨x,rr,rfl⟩
    have hx:=hd.all x (by rw[ed];exact ZI);refine⟨x,rr++txt l',by rw[h3,fP,ed];rfl,by rw[hx];exact hd.k4,by rw[hx];exact λz=>hkj z.symm⟩) out (by lia) t3 t4 t5
   rw[<-ht]at e;refine⟨[some (.f,.str (txt l)),some (.l .f,.lst (out.map D.str)),some (.f,.int ((pre.length:Nat):Int)),t3,t4,t5],by simp?[NI],_,r.length,e,by rw[<-hm];exact aaw _,pre++c,if k=2 then out else out++[c],r,u3,u4,u5,h2,rfl,by rw[ht,aaa],?_,?_,by rw[eK]⟩
   .rw[hk];split
    .rfl
    .rw[aaa];rfl
   .rw[eK];split
    .lia
    .rw[eK,aaL];lia) 100000 l.length [some (.f,.str (txt l)),some (.l .f,.lst []),some (.f,.int ((([]:List Nat).length:Nat):Int)),none,none,none] (by
   have:∀l:List (List Nat×Nat),Chs l->l.length<=(txt l).length:=λl=>by
    induction l with
    |nil=>exact λ_=>aaB _
    |cons z l ih=>
     intro h;obtain⟨c,k⟩:=z;obtain⟨h1,h2,_⟩:=h.head;have:=aaQ.mpr h1.ne;have:=ih h2;rw[fP,eK,ZR];lia
   have:=this l hc;lia) ⟨[],[],l,none,none,none,hc,rfl,rfl,rfl,ZO _,rfl⟩
 have Oz:A7 "str" (.str (txt l))=true:=rfl;unfold jV xx;rw[aZ (h:=by rfl)];rw[aP (env':=[some (.f,.str (txt l)),none,none,none,none,none]) (by simp?[Oz,aaD,fM])];rw[aP (env':=[some (.f,.str (txt l)),some (.l .f,.lst []),none,none,none,none]) (by simp?)];rw[aP (env':=[some (.f,.str (txt l)),some (.l .f,.lst []),some (.f,.int ((([]:List Nat).length:Nat):Int)),none,none,none]) (by simp? <;> rfl)];unfold qe nh;rw[aP hw];simp![pv,seval]
theorem xW(env:PV.Env)(f:FX):zr f env=Res.bnd (f env) (f:=⟨λp=>match p.1.1 with
 | .l .f=>.ok ((.l (.l .f),.lst [p.1.2]),p.2)
 |_=>.bad⟩):=id rfl
theorem DD(env:PV.Env)(i:Nat)(f:FX):zt i f env=if rB env i then Res.bnd (f env) (f:=⟨λ(p:R×PV.Env)=>match p.1.1,p.2[i]? with
 | .l .f,some (some (.l (.l .f),.lst ds))=>if ds.length<sizeLine then .ok ((.f,.non),p.2.set i (some (.l (.l .f),.lst (ds++[p.1.2])))) else .bad
 |_,_=>.bad⟩) else .bad:=id rfl
theorem JI(env:PV.Env)(i:Nat)(c:Int)(l:Nat):uT i c l env=match env[i]?,env[l]? with
 |some (some (.l (.l .f),.lst ds)),some (some (.f,d))=>(match ixN ds.length c with
  |some m=>(match ds[m]? with
   |some (.lst es)=>if es.length<sizeLine then .ok ((.f,.non),env.set i (some (.l (.l .f),.lst (ds.set m (.lst (es++[d])))))) else .bad
   |_=>.bad)
  |none=>.bad)
 |_,_=>.bad:=id rfl
theorem GD(env:PV.Env)(f:FX):Bg f env=Res.bnd (f env) (f:=⟨λp=>.ok ((.f,p.1.2),p.2)⟩):=id rfl
def eW(p:LNN):D:=.lst (p.map D.str)
def QK:List Nat:=[59]
def vo(Q:List (LNN))(p:LNN)(w:List Nat):List (LNN)×LNN:=if w=QK then(Q++[p],[]) else(Q,p++[w])
def S9:LNN->List (LNN)->LNN->List (LNN)
 |[],Q,p=>Q++[p]
 |w::ws,Q,p=>S9 ws (vo Q p w).1 (vo Q p w).2
theorem my:∀(ws rest:LNN) (Q:List (LNN)) (p:LNN),(∀w∈ws,w≠QK)->S9 (ws++rest) Q p=S9 rest Q (p++ws)
 |[],rest,Q,p,_=>by rw[acS,aak]
 |w::ws,rest,Q,p,h=>by
  rw[abo,S9];unfold vo;rw[Z6 (h w ZI),my ws rest Q (p++[w]) λx hx=>h x (ZN _ hx),aaa];rfl
theorem DE(ws:LNN)(Q:List (LNN))(p:LNN):S9 (QK::ws) Q p=S9 ws (Q++[p]) []:=by
 rw[S9];unfold vo;rw[ZY rfl]
theorem xX:∀(ps:List (LNN)) (Q:List (LNN)) (p:LNN),(∀q∈ps,∀w∈q,w≠QK)->S9 (ps.flatMap λq=>QK::q) Q p=Q++p::ps
 |[],Q,p,_=>rfl
 |q::ps,Q,p,h=>by
  rw[adl,abo,DE,my q _ _ _ (h q ZI),acS,xX ps _ _ λx hx=>h x (ZN _ hx),aaa];rfl
theorem GF(w:List Nat):(w==[59])=decide (w=QK):=by
 rw[aay,aaK,Z2];rfl
theorem DF(T:D)(Q:List (LNN))(p:LNN)(hQ:Q.length<=50000)(hp:p.length<=50000)(w:List Nat):eR [some (.f,T),some (.l (.l .f),.lst ((Q++[p]).map eW)),some (.f,.str w)]=.ok (.nx [some (.f,T),some (.l (.l .f),.lst (((vo Q p w).1++[(vo Q p w).2]).map eW)),some (.f,.str w)]):=by
 have he:=GF w;have hz:((Q++[p]).map eW).length<sizeLine:=vg (by rw[b9,eK,aaL];lia);unfold eR vo;by_cases h:w=QK
 .rw[aao h]at he;rw[ZY h,Z4 (l₂:=[[]])];generalize (Q++[p]).map eW=QQ at hz |-;simp?[he,DD,hz] <;> rfl
 .rw[Z7 h]at he;rw[Z6 h];have hlen:((Q++[p]).map eW).length=Q.length+1:=by rw[b9,eK,aaL]
  have OD:ixN ((Q++[p]).map eW).length (-1)=some Q.length:=by
   rw[hlen];unfold ixN;first
    |(rw[Z6 (by lia),ZY (by lia)];congr 1;lia)
    |(simp;lia)
    |simp
  have hg:((Q++[p]).map eW)[Q.length]?=some (.lst (p.map D.str)):=by
   rw[Z9,aaM (ZO _),aev];rfl
  have hpz:(p.map D.str).length<sizeLine:=vg (by rw[b9];lia);have Oz:((Q++[p]).map eW).set Q.length (.lst (p.map D.str++[.str w]))=(Q++[p++[w]]).map eW:=by
   rw[Z4,Z4,show Q.length=(Q.map eW).length from(b9 _).symm,List.set_append_right _ _ (ZO _),aev];show Q.map eW++[_]=Q.map eW++[_]
   unfold eW;rw[Z4];rfl
  generalize (Q++[p]).map eW=QQ at OD hg Oz |-;have happ:uT 1 (-1) 2 [some (.f,T),some (.l (.l .f),.lst QQ),some (.f,.str w)]=.ok ((.f,.non),[some (.f,T),some (.l (.l .f),.lst ((Q++[p++[w]]).map eW)),some (.f,.str w)]):=by
   unfold uT;show(match ixN QQ.length (-1) with|some m=>_|none=>_)=_;rw[OD];show(match QQ[Q.length]? with|some (.lst es)=>_|_=>_)=_;rw[hg];show(if(p.map D.str).length<sizeLine then _ else _)=_;rw[ZY hpz];rw[List.set_cons_succ,List.set_cons_zero,Oz]
  simp?[he,happ,fM]
theorem xY(T:D):∀(ws:LNN) (Q:List (LNN)) (p:LNN) (t2:Option R),Q.length+p.length+ws.length<=50000->∃u2,oX (bj 2) eR (ws.map D.str) [some (.f,T),some (.l (.l .f),.lst ((Q++[p]).map eW)),t2]=.ok (.nx [some (.f,T),some (.l (.l .f),.lst ((S9 ws Q p).map eW)),u2])
 |[],Q,p,t2,_=>⟨t2,rfl⟩
 |w::ws,Q,p,t2,h=>by
  rw[ZR]at h;have h1:=DF T Q p (by lia) (by lia) w;have hq:(vo Q p w).1.length+(vo Q p w).2.length+ws.length<=50000:=by
   unfold vo;split
   .rw[eK,aaL];show Q.length+1+0+ws.length<=50000;lia
   .dsimp only;rw[eK,aaL];lia
  obtain⟨u2,h2⟩:=xY T ws (vo Q p w).1 (vo Q p w).2 (some (.f,.str w)) hq;refine⟨u2,?_⟩;have ha:bj 2 (.str w) [some (.f,T),some (.l (.l .f),.lst ((Q++[p]).map eW)),t2]=.ok [some (.f,T),some (.l (.l .f),.lst ((Q++[p]).map eW)),some (.f,.str w)]:=rfl;rw[j5,xF,ha,OJ,h1,OJ];exact h2
theorem DH(l:List (List Nat×Nat))(hc:Chs l)(hl:(txt l).length<=40000)(hk:(PY l).length<=40000):bM [.str (txt l)]=.ok (.l (.l .f),.lst ((S9 (PY l) [] []).map eW)):=by
 have hw:=DB l hc (by lia);have VU:=PV.flat_strs (PY l);obtain⟨u2,hf⟩:=xY (.str (txt l)) (PY l) [] [] none (by show 0+0+_<=_;lia);unfold bM nu;rw[aZ (h:=by rfl)];rw[aP (env':=[some (.f,.str (txt l)),some (.l (.l .f),.lst (([]++[[]]:List (LNN)).map eW)),none]) (by simp?[xW] <;> rfl)];rw[aP (env':=[some (.f,.str (txt l)),some (.l (.l .f),.lst ((S9 (PY l) [] []).map eW)),u2]) (by
  unfold kq;generalize [some (O.l (.l .f),D.lst (([]++[[]]:List (LNN)).map eW)),none]=RST at hf |-;simp?[hw,fL,VU];exact hf)]
 unfold jA;simp![pv,seval]
theorem uu{m:List Nat}(h:bD m=true):bY [.str m]=.ok (.f,.str m):=by
 have hn:=mm m (by have:=(gM h).1;lia);rw[h]at hn;unfold bY qh;rw[aZ (h:=by rfl)];rw[aP (env':=[some (.f,.str m)]) (by simp?[hn,aV,dk,aaD,fM])];simp![pv,seval]
theorem vm(ns:LNN)(hl:ns.length<=5)(h:∀n∈ns,bD n=true):cz [eW (LX::ns)]=.ok (.l .f,.lst (ns.map D.str)):=by
 unfold cz ny eW;rw[aZ (h:=by rfl),j5];have W3:eV (D.str LX::ns.map D.str) none (some 1)=[D.str LX]:=by
  have:=fO (D.str LX::ns.map D.str) 1;exact this
 have Si:eV (D.str LX::ns.map D.str) (some 1) none=ns.map D.str:=by
  have:=eE (D.str LX::ns.map D.str) 1;exact this
 have Ox:OW (.lst [.str LX]) (.lst [.str [109,111,118,101,115]])=.ok (.f,.bl false):=rfl;have Ri:decide (((ns.length:Int)+1-1)>5)=false:=Z7 (by lia);have Ri:decide (5<(((ns.length+1:Nat):Int)-1))=false:=Z7 (by lia);have Vx:fF (bj 0) jj (bZ bY (ah (ax 0) ay)) (ns.map D.str) [none]=.ok (ns.map D.str):=by
  refine dh (λenv=>∃t,env=[t]) _ ?_ _ ⟨_,rfl⟩;rintro m hm env ⟨t,rfl⟩;have hn:=uu (h m hm);refine⟨[some (.f,.str m)],rfl,.f,[some (.f,.str m)],?_,_,rfl⟩;simp?[hn,aV,cR]
 have hz:(ns.map D.str).length<=sizeLine:=cY (by lia);have VU:=PV.flat_strs ns;rw[aP (env':=[some (.f,.lst (D.str LX::ns.map D.str))]) (by simp?[W3,Ox,fM])];rw[aP (env':=[some (.f,.lst (D.str LX::ns.map D.str))]) (by
  simp?[b9,Ri,fM])]
 generalize (bZ bY (ah (ax 0) ay))=GG at Vx |-;simp?[Si,Vx,hz,VU]
def hd:List (List Nat×Nat)->Nat
 |[]=>9
 |z::_=>z.2
theorem Chs.mk{k:Nat}(h:Chk c k)(hl:Chs l)(hk:k=3\/k≠hd l):Chs ((c,k)::l):=by
 cases l with
 |nil=>exact .one h
 |cons z l=>exact .cons h hk hl
theorem Bt{x:Nat}(h:fU x=true):kd x=0:=by
 unfold kd;rw[ZY h]
theorem xZ{m:List Nat}(h:bD m=true):Chk m 0:=by
 have h2:=(gM h).2.1;unfold bD at h;rw[ZP,aad]at h;exact⟨λz=>by rw[z]at h2;exact absurd h2 (by decide),by decide,λx hx=>Bt (h.2 x hx),(λz=>nomatch z),(λz=>nomatch z)⟩
theorem moves_ck:Chk LX 0:=⟨by decide,by decide,by decide,(λz=>nomatch z),(λz=>nomatch z)⟩
theorem GH:Chk QK 3:=⟨by decide,by decide,by decide,λ_=>rfl,(λz=>nomatch z)⟩
theorem DI:Chk [32] 2:=⟨by decide,by decide,by decide,(λz=>nomatch z),(λz=>nomatch z)⟩
theorem x4(a b:List (List Nat×Nat)):txt (a++b)=txt a++txt b:=by
 unfold txt;rw[Z4,List.flatten_append]
theorem x5(a b:List (List Nat×Nat)):PY (a++b)=PY a++PY b:=by
 unfold PY;rw[List.filter_append,Z4]
theorem sf(env:PV.Env)(fs:FDs):xf fs env=Res.bnd (fs env) (f:=⟨λp=>match dM p.1 with
 |some ls=>if ls.flatten.length<=sizeLine then .ok ((.f,.str ls.flatten),p.2) else .bad
 |none=>.bad⟩):=id rfl
theorem jh(x b:Int)(h:0<b):0<=x%b/\x%b<b:=⟨aby _ (by lia),abf _ h⟩
theorem dc(d:Nat)(h:d<10):(Nat.digitChar d).toNat=48+d:=by
 have:∀d:_root_.Fin 10,(Nat.digitChar d.1).toNat=48+d.1:=by decide
 exact this ⟨d,h⟩
variable{n:Nat}
theorem qJ(h:n<10):dg (n:Int)=[48+n]:=by
 unfold dg;rw[acy,Nat.toDigits_of_lt_base h,j5,dc n h];rfl
theorem GI(h:10<=n):dg (n:Int)=dg ((n / 10:Nat):Int)++[48+n%10]:=by
 unfold dg;rw[acy,acy,Nat.toDigits_of_base_le (by decide) h,Z4,j5,dc _ (Nat.mod_lt _ (by decide))];rfl
structure Dg(n:Nat):Prop where
 ne:dg (n:Int)≠[]
 all:PySem.NumText.AllDigits (dg (n:Int))
 val:PySem.NumText.digitsVal (dg (n:Int))=n
 lead:1<=n->(dg (n:Int)).head?≠some 48
theorem GJ(n:Nat):Dg n:=by
 induction n using Nat.strongRecOn with
 |ind n ih=>
  by_cases h:n<10
  .have e:=qJ h;refine⟨by rw[e];exact List.cons_ne_nil _ _,λc hc=>?_,?_,λh1=>?_⟩
   .rw[e,aan]at hc;lia
   .rw[e];show 0*10+(48+n-48)=n;lia
   .rw[e];show some (48+n)≠some 48;intro z;injection z;lia
  .have e:=GI (acA h);have I:=ih (n / 10) (by lia);refine⟨by rw[e];exact λz=>by simp at z,λc hc=>?_,?_,λh1=>?_⟩
   .rw[e]at hc;rcases mn hc with h2|h2
    .exact I.all c h2
    .rw[aan]at h2;lia
   .rw[e,PySem.NumText.digitsVal_snoc,I.val];lia
   .have hl:=I.lead (by lia);have Ox:=I.ne;rw[e];cases hq:dg ((n / 10:Nat):Int) with
    |nil=>exact absurd hq Ox
    |cons x r=>rw[hq]at hl;exact hl
theorem dg_len:∀(k n:Nat),n<10 ^ (k+1)->(dg (n:Int)).length<=k+1
 | 0,n,h=>by rw[qJ (by simpa using h)];exact ZO _
 |k+1,n,h=>by
  by_cases W4:n<10
  .rw[qJ W4];show 1<=_;lia
  .rw[GI (acA W4),eK,aaL];have:=dg_len k (n / 10) (by rw[Nat.pow_succ]at h;lia);lia
def Nm(i:Int):Prop:=0<=i/\i<10 ^ 60
theorem Nm.nat{i:Int}(h:Nm i):∃n:Nat,i=(n:Int)/\n<10 ^ 60:=by
 obtain⟨n,e⟩:=Z5 h.1;refine⟨n,e,?_⟩;have:=h.2;rw[e]at this;have e2:((10 ^ 60:Nat):Int)=10 ^ 60:=by norm_cast
 lia
theorem Nm.len{i:Int}(h:Nm i):(dg i).length<=60:=by
 obtain⟨n,rfl,hn⟩:=h.nat
 exact dg_len 59 n hn
theorem GK{x:Nat}(h:48<=x/\x<=57):kd x=1:=by
 unfold kd;rw[Z6 (by unfold fU;rw[ZP,Z2,Z2];lia),ZY (by unfold jg;rw[ZP,Z2,Z2];lia)]
theorem Nm.ck{i:Int}(h:Nm i):Chk (dg i) 1:=by
 have hl:=h.len;obtain⟨n,rfl,hn⟩:=h.nat
 have D:=GJ n;refine⟨D.ne,by decide,λx hx=>GK (D.all x hx),(λz=>nomatch z),λ_=>⟨hl,λh1=>D.lead ?_⟩⟩;apply Classical.byContradiction;intro h0;rw[qJ (by lia:n<10)]at h1;exact absurd h1 (by simp)
theorem Nm.log{i:Int}(h:Nm i):i.natAbs.log2<1920:=by
 obtain⟨n,rfl,hn⟩:=h.nat
 rw[Int.natAbs_natCast];rcases Nat.eq_zero_or_pos n with e|e
 .rw[e];decide
 .exact(Nat.log2_lt (adE e)).mpr (Nat.lt_trans hn (by decide +kernel))
theorem JJ{i:Int}(h:Nm i):FK [.int i]=.ok (.f,.str (dg i)):=by
 unfold FK;dsimp only;rw[ZY h.log]
theorem k7{i:Int}(h:Nm i):bN [.str (dg i)]=.ok (.f,.int i):=by
 have hl:=h.len;have ck:=h.ck;obtain⟨n,rfl,hn⟩:=h.nat
 have D:=GJ n;obtain⟨x,r,e⟩:∃x r,dg (n:Int)=x::r:=by
  cases e:dg (n:Int) with
  |nil=>exact absurd e D.ne
  |cons x r=>exact⟨x,r,rfl⟩
 have NP:Mg (.str (dg (n:Int))) (.int 0)=.ok (.f,.str [x]):=ib (i:=0) (by rw[e];rfl);have hf:=gN x;have hx:=D.all x (by rw[e];exact ZI);have h1:jg x=true:=by unfold jg;rw[ZP,Z2,Z2];exact hx
 rw[h1]at hf;have hi:FL [.str (dg (n:Int))]=.ok (.f,.int (n:Int)):=by
  unfold FL;dsimp only;have e1:(S (dg (n:Int))).cps.toList=dg (n:Int):=by simp[S]
  rw[PySem.intText_digits (by rw[e1];exact D.all) (by rw[e1];exact D.ne) (by rw[fR];lia),e1,D.val];dsimp only;rw[ZY (by lia)]
 unfold bN lU;rw[aZ (h:=by rfl)];generalize dg (n:Int)=DG at NP hi;rw[aP (env':=[some (.f,.str DG)]) (by simp?[NP,hf,aV,dk,aaD,fM])];simp?[hi]
variable{x:FB}
theorem eS(h:g env=.ok (.nx env')):fw g x env=x env':=by
 unfold fw;rw[h]
theorem DJ{c:FT}(h:c env=.ok (true,env')):Py c x env=x env':=by
 unfold Py;rw[h]
theorem Bu{fs:Od}{o:Opd}(h:fs env=.ok ([o],env')):fA fs env=true:=by
 unfold fA;rw[h];rfl
variable{ds:List D}
theorem qK{np nn:Nat}(hl:ds.length=np)(h:x (ds.map (λd=>some (O.f,d))++List.replicate nn none)=true):gT np nn x ds=true:=by
 unfold gT;rw[h,aao hl];rfl
variable{F:List D->Bool}{os:List Opd}
theorem Ef{fs:Od}(h:fs env=.ok (os,env'))(hd:kA env' os=.ok ds)(hF:F ds=true):xOf (oH F fs) env=true:=by
 unfold xOf oH;rw[h];dsimp only;rw[hd];dsimp only;rw[ZY hF];rfl
theorem JK{cx bx:FB}{c:FT}{e1:PV.Env}(hc:c env=.ok (true,e1))(h:bx e1=true):iI cx c bx g (n+1) env=true:=by
 unfold iI;rw[hc];dsimp only;rw[h,adK,ac0]
theorem si(env:PV.Env)(f:FX):xi f env=Res.bnd (f env) (f:=⟨λp=>match p.1.2 with
 | .str l=>if(rp l).length<=sizeLine then .ok ((.f,.str (rp l)),p.2) else .bad
 |_=>.bad⟩):=id rfl
theorem kd4{c:Nat}(h:kd c=4):fU c=false/\jg c=false/\c≠32/\c≠59:=by
 unfold kd at h;split at h
 .cases h
 .rename_i h1;split at h
  .cases h
  .rename_i h2;split at h
   .cases h
   .rename_i h3;split at h
    .cases h
    .rename_i h4;exact⟨Bool.not_eq_true _▸h1,Bool.not_eq_true _▸h2,h3,h4⟩
theorem GL{c:Nat}(h:kd c=4)(hr:(rp [c]).length<=1000):gr [.str [c]]=true:=by
 obtain⟨h1,h2,h3,h4⟩:=kd4 h;have p1:=jb c;have p2:=gN c;rw[h1]at p1;rw[h2]at p2;have e3:(([c]:List Nat)==[32])=false:=aaj.mpr λz=>h3 (abH z).1
 have e4:(([c]:List Nat)==[59])=false:=aaj.mpr λz=>h4 (abH z).1
 have z1:(rp [c]).length<=sizeLine:=line_le (by lia);refine qK rfl ?_;show fw _ _ [some (O.f,D.str [c])]=true;rw[eS (env':=[some (.f,.str [c])]) (by simp?[p1,aV,dk,fM])];rw[eS (env':=[some (.f,.str [c])]) (by simp?[p2,aV,dk,fM])];rw[eS (env':=[some (.f,.str [c])]) (by simp?[e3,fM])];rw[eS (env':=[some (.f,.str [c])]) (by simp?[e4,fM])];generalize hRP:rp [c]=RP at z1 hr;have z2:∀l:List Nat,l.length=21->(([l,RP]:LNN).flatten.length<=sizeLine):=λl hl=>line_le (by
  simp![aaJ,adv,eK,abV];lia)
 refine Bu (o:=.val (.str ([[110,111,32,119,111,114,100,32,104,97,115,32,116,104,101,32,115,105,103,110,32],RP]:LNN).flatten)) (env':=[some (.f,.str [c])]) ?_;simp?[sf,si,hRP,z1,dM,adT];rw[ZY (z2 _ rfl)];simp?
def Rz(T:List Nat)(s m:Nat):Prop:=∀(out:LNN) (t3 t4 t5:Option R) (n:Nat),out.length<=s->m<=n->iI ni (Mw (aF PJ (ax 2) (aq (a9 lenA (ah (ax 0) ay))))) jW eY n [some (.f,.str T),some (.l .f,.lst (out.map D.str)),some (.f,.int ((s:Nat):Int)),t3,t4,t5]=true
variable{T:List Nat}
theorem Ld{s:Nat}(h:s<T.length)(out:LNN)(t3 t4 t5:Option R):(Mw (aF PJ (ax 2) (aq (a9 lenA (ah (ax 0) ay))))) [some (.f,.str T),some (.l .f,.lst (out.map D.str)),some (.f,.int ((s:Nat):Int)),t3,t4,t5]=.ok (true,[some (.f,.str T),some (.l .f,.lst (out.map D.str)),some (.f,.int ((s:Nat):Int)),t3,t4,t5]):=by
 have NI:decide (((s:Nat):Int)<(T.length:Int))=true:=aao (by lia);generalize out.map D.str=O;simp?[NI]
theorem Lf{s c:Nat}(NP:T[s]?=some c)(h:kd c=4)(hr:(rp [c]).length<=1000):Rz T s 1:=by
 intro out t3 t4 t5 n ho hn;obtain⟨n,rfl⟩:∃j,n=j+1:=⟨n-1,by lia⟩
 have hk:=GL h hr;have hat':=ib NP;refine JK (Ld (qQ NP).1 out t3 t4 t5) ?_;unfold jW;refine(Z3 _ _).mpr (.inl ((Z3 _ _).mpr (.inl ?_)));generalize out.map D.str=O;exact Ef (os:=[.val (.str [c])]) (ds:=[.str [c]]) (env':=[some (.f,.str T),some (.l .f,.lst O),some (.f,.int ((s:Nat):Int)),t3,t4,t5]) (by simp?[hat']) (by simp![pv,seval]) hk
theorem x6{m:Nat}(h:Rz T 0 m)(hm:m<=100000):lP [.str T]=true:=by
 have Oz:A7 "str" (.str T)=true:=rfl;refine qK rfl ?_;show(Py _ _ [some (O.f,D.str T),none,none,none,none,none]||fw _ _ [some (O.f,D.str T),none,none,none,none,none])=true;refine(Z3 _ _).mpr (.inr ?_);rw[eS (env':=[some (.f,.str T),none,none,none,none,none]) (by simp?[Oz,aaD,fM])];rw[eS (env':=[some (.f,.str T),some (.l .f,.lst []),none,none,none,none]) (by simp?)];rw[eS (env':=[some (.f,.str T),some (.l .f,.lst []),some (.f,.int 0),none,none,none]) (by simp?)];exact h [] none none none 100000 (ZO _) hm
theorem DK{d:D}(h:lP [d]=true):gv [d]=true:=by
 refine qK rfl ?_;show fw _ _ [some (O.f,d),none,none]=true;rw[eS (env':=[some (.f,d),some (.l (.l .f),.lst [.lst []]),none]) (by simp?[xW])];exact Ef (os:=[.var 0]) (ds:=[d]) (env':=[some (.f,d),some (.l (.l .f),.lst [.lst []]),none]) (by simp?) (by simp![pv,seval]) h
theorem GN{w m:List Nat}{RP:List Nat}(hr:RP.length<=1000)(hm:m.length<=100):([RP,m]:LNN).flatten.length<=sizeLine:=line_le (by
 simp![aaJ,adv,eK,abV];lia)
variable{w:List Nat}
theorem GO(h:bD w=false)(hl:w.length<=1000)(hr:(rp w).length<=1000):cU [.str w]=true:=by
 have hp:=mm w (by lia);rw[h]at hp;have z1:(rp w).length<=sizeLine:=line_le (by lia);have z2:=GN (w:=w) (RP:=rp w) (m:=[32,115,116,97,110,100,115,32,119,104,101,114,101,32,97,32,109,111,118,101,39,115,32,110,97,109,101,32,105,115,32,97,115,107,101,100,32,102,111,114]) hr (by decide);refine qK rfl ?_;show Py _ _ [some (O.f,D.str w)]=true;rw[DJ (env':=[some (.f,.str w)]) (by simp?[hp,aV,dk,aaq])];generalize hRP:rp w=RP at z1 z2;refine Bu (o:=.val (.str ([RP,[32,115,116,97,110,100,115,32,119,104,101,114,101,32,97,32,109,111,118,101,39,115,32,110,97,109,101,32,105,115,32,97,115,107,101,100,32,102,111,114]]:LNN).flatten)) (env':=[some (.f,.str w)]) ?_;simp?[sf,si,hRP,z1,dM,adT];rw[ZY z2];simp?
variable{r:List Nat}
theorem zZ{c:Nat}(h:jg c=false)(hr:(rp (c::r)).length<=1000):cT [.str (c::r)]=true:=by
 have NP:Mg (.str (c::r)) (.int 0)=.ok (.f,.str [c]):=ib (i:=0) rfl;have hp:=gN c;rw[h]at hp;generalize c::r=w at NP hr |-;have z1:(rp w).length<=sizeLine:=line_le (by lia);have z2:=GN (w:=w) (RP:=rp w) (m:=[32,115,116,97,110,100,115,32,119,104,101,114,101,32,97,32,110,117,109,98,101,114,32,105,115,32,97,115,107,101,100,32,102,111,114]) hr (by decide);refine qK rfl ?_;show Py _ _ [some (O.f,D.str w)]=true;rw[DJ (env':=[some (.f,.str w)]) (by simp?[NP,hp,aV,dk,aaq])];generalize hRP:rp w=RP at z1 z2;refine Bu (o:=.val (.str ([RP,[32,115,116,97,110,100,115,32,119,104,101,114,101,32,97,32,110,117,109,98,101,114,32,105,115,32,97,115,107,101,100,32,102,111,114]]:LNN).flatten)) (env':=[some (.f,.str w)]) ?_;simp?[sf,si,hRP,z1,dM,adT];rw[ZY z2];simp?
variable{ws:LNN}
theorem qL(h:ws.head?≠some LX):de [eW ws]=true:=by
 have hs:O7 (eW ws) none (some 1)=.ok (.l .f,.lst ((ws.take 1).map D.str)):=by
  unfold eW;show Res.ok (O.l .f,D.lst (eV (ws.map D.str) none (some ((1:Nat):Int))))=_;rw[fO,acf]
 have Ox:OW (.lst ((ws.take 1).map D.str)) (.lst [.str LX])=.ok (.f,.bl true):=by
  have p:∀N:LNN,plainD 40 (.lst (N.map D.str))=true:=λN=>by rw[plainD,nG]
  have e:=qD (ws.take 1) [LX];have p1:=p [LX];have hb:(ws.take 1==[LX])=false:=by
   rw[aaj];intro z;apply h;cases ws with
   |nil=>cases z
   |cons w r=>
    rw[acR,ac7]at z;rw[(abH z).1];rfl
  rw[hb]at e;unfold OW;rw[p (ws.take 1),show plainD 40 (.lst [.str LX])=true from p1,Mv,show kI ((ws.take 1).map D.str) [.str LX]=false from e];rfl
 refine qK rfl ?_;show((Py _ _ [some (O.f,eW ws)]||_)||_)=true;refine(Z3 _ _).mpr (.inl ((Z3 _ _).mpr (.inl ?_)));generalize eW ws=EW at hs |-;generalize (ws.take 1).map D.str=T1 at hs Ox;have Ox:OW (.lst T1) (.lst [.str [109,111,118,101,115]])=.ok (.f,.bl true):=Ox;rw[DJ (env':=[some (.f,EW)]) (by simp?[hs,Ox])];exact Bu (o:=.val _) (env':=[some (.f,EW)]) (by simp? <;> rfl)
theorem YJ{α:Type}{a:FG}{f:FX}{x:FXE}{e:α->D}(I:PV.Env->Prop):∀(l:List α),(∀y∈l,∀env,I env->∃L0,a (e y) env=.ok L0/\((x L0).isSome=true\/∃r Ml,f L0=.ok (r,Ml)/\I Ml))->
  (∃y∈l,∀env,I env->∃L0,a (e y) env=.ok L0/\(x L0).isSome=true)->∀env,I env->jz a f x (l.map e) env=true
 |[],_,⟨_,h,_⟩,_,_=>nomatch h
 |y::l,h,hb,env,hI=>by
  obtain⟨L0,e1,h1⟩:=h y ZI env hI;rw[j5];unfold jz;rw[e1];dsimp only;rcases h1 with h1|⟨r,Ml,e2,hI2⟩
  .rw[h1,adK]
  .rw[e2];obtain⟨z,hz,W5⟩:=hb;rcases ZJ.mp hz with rfl|hz
   .obtain⟨env1',Xu,h1'⟩:=W5 env hI;rw[e1]at Xu;cases Xu;rw[h1',adK]
   .dsimp only;rw[YJ I l (λy hy=>h y (ZN _ hy)) ⟨z,hz,W5⟩ Ml hI2,ac0]
theorem GP{fi:FI}{ix:List (Option Nat)}{a:FG}{f:FX}{x:FXE}(h:fi env=.ok (ds,env'))(hl:ds.length<=1000)(hx:jz a f x ds (dB ix env')=true):rN fi ix a f x env=true:=by
 unfold rN;rw[h];dsimp only;rw[aao hl,hx];rfl
theorem Eg{fs:Od}(h:fs env=.ok (os,env'))(hd:kA env' os=.ok ds)(hF:F ds=true):(oH F fs env).isSome=true:=Ef h hd hF
variable{ns:LNN}
section
theorem uv(ns:LNN):O7 (eW (LX::ns)) none (some 1)=.ok (.l .f,.lst [.str LX])/\OW (.lst [.str LX]) (.lst [.str LX])=.ok (.f,.bl false):=by
 constructor
 .unfold eW;show Res.ok (O.l .f,D.lst (eV ((LX::ns).map D.str) none (some ((1:Nat):Int))))=_;rw[fO];rfl
 .have p:plainD 40 (.lst [.str LX])=true:=rfl;unfold OW;rw[p,oy _ 40 p];rfl
theorem mz(h:5<ns.length):de [eW (LX::ns)]=true:=by
 obtain⟨hs,Ox⟩:=uv ns;have ND:lenA [eW (LX::ns)]=.ok (.f,.int ((ns.length+1:Nat):Int)):=by
  unfold eW;show Res.ok (O.f,D.int ((((LX::ns).map D.str).length:Nat):Int))=_;rw[b9,ZR]
 have Ri:decide (5<(((ns.length+1:Nat):Int)-1))=true:=aao (by lia);refine qK rfl ?_;show((Py _ _ [some (O.f,eW (LX::ns))]||fw _ _ [some (O.f,eW (LX::ns))])||_)=true;refine(Z3 _ _).mpr (.inl ((Z3 _ _).mpr (.inr ?_)));generalize eW (LX::ns)=EW at hs ND |-;generalize ((ns.length+1:Nat):Int)=NL at ND Ri;have Ox:OW (.lst [.str LX]) (.lst [.str [109,111,118,101,115]])=.ok (.f,.bl false):=Ox;generalize D.lst [.str LX]=MW at hs Ox;rw[eS (env':=[some (.f,EW)]) (by simp?[hs,Ox,fM])];rw[DJ (env':=[some (.f,EW)]) (by simp?[ND,Ri])];exact Bu (o:=.val _) (env':=[some (.f,EW)]) (by simp? <;> rfl)
theorem x9(h5:ns.length<=5)(hg:∀n∈ns,bD n=true\/cU [.str n]=true)(hb:∃n∈ns,cU [.str n]=true):de [eW (LX::ns)]=true:=by
 obtain⟨hs,Ox⟩:=uv ns;have ND:lenA [eW (LX::ns)]=.ok (.f,.int ((ns.length+1:Nat):Int)):=by
  unfold eW;show Res.ok (O.f,D.int ((((LX::ns).map D.str).length:Nat):Int))=_;rw[b9,ZR]
 have Ri:decide (5<(((ns.length+1:Nat):Int)-1))=false:=Z7 (by lia);have VW:O7 (eW (LX::ns)) (some 1) none=.ok (.l .f,.lst (ns.map D.str)):=by
  unfold eW;show Res.ok (O.l .f,D.lst (eV ((LX::ns).map D.str) (some ((1:Nat):Int)) none))=_;rw[eE];rfl
 have Ql:jz (bj 0) (bZ bY (ah (ax 0) ay)) (oH cU (ah (ax 0) ay)) (ns.map D.str) [none]=true:=by
  refine YJ (e:=D.str) (λenv=>∃t,env=[t]) ns (λn hn env ⟨t,ht⟩=>?_) ?_ _ ⟨none,rfl⟩
  .subst ht;refine⟨[some (.f,.str n)],rfl,?_⟩;rcases hg n hn with h|h
   .have hp:=uu h;exact .inr ⟨_,[some (.f,.str n)],by simp?[hp,aV,cR] <;> rfl,_,rfl⟩
   .exact .inl (Eg (os:=[.var 0]) (ds:=[.str n]) (env':=[some (.f,.str n)]) (by simp?) (by simp![pv,seval]) h)
  .obtain⟨n,hn,h⟩:=hb;refine⟨n,hn,λenv ⟨t,ht⟩=>?_⟩;subst ht;exact⟨[some (.f,.str n)],rfl,Eg (os:=[.var 0]) (ds:=[.str n]) (env':=[some (.f,.str n)]) (by simp?) (by simp![pv,seval]) h⟩
 refine qK rfl ?_;show((Py _ _ [some (O.f,eW (LX::ns))]||_)||fw _ _ [some (O.f,eW (LX::ns))])=true;refine(Z3 _ _).mpr (.inr ?_);generalize eW (LX::ns)=EW at hs ND VW |-;generalize ((ns.length+1:Nat):Int)=NL at ND Ri;have Ox:OW (.lst [.str LX]) (.lst [.str [109,111,118,101,115]])=.ok (.f,.bl false):=Ox;generalize D.lst [.str LX]=MW at hs Ox;rw[eS (env':=[some (.f,EW)]) (by simp?[hs,Ox,fM])];rw[eS (env':=[some (.f,EW)]) (by simp?[ND,Ri,fM])];exact GP (ds:=ns.map D.str) (env':=[some (.f,EW)]) (by simp?[VW]) (by rw[b9];lia) Ql
end
theorem frzS(r:R):frz (some r)=some (.f,r.2):=id rfl
theorem HG:frz none=none:=id rfl
theorem Lg{m:List Nat}{k:Nat}(h:Chk m k)(hk:k≠3):m≠QK:=λe=>by
 have:=h.all 59 (by rw[e];exact ZI);exact hk (by rw[<-this];decide)
def aW(a:Mi):LNN:=[dg a.1,a.2.1,dg a.2.2]
structure Ag(a:Mi):Prop where
 f:Nm a.1
 n:bD a.2.1=true
 s:Nm a.2.2
def DL(w:List Nat):Prop:=∃i:Int,bN [.str w]=.ok (.f,.int i)
section
variable{x m y:List Nat}
theorem ne3:OW (.int 3) (.int 3)=.ok (.f,.bl false):=rfl
theorem uw:lenA [eW [x,m,y]]=.ok (.f,.int 3):=rfl
theorem HI:Mg (eW [x,m,y]) (.int 0)=.ok (.f,.str x):=rfl
theorem JL:Mg (eW [x,m,y]) (.int 1)=.ok (.f,.str m):=rfl
theorem Kg:Mg (eW [x,m,y]) (.int 2)=.ok (.f,.str y):=rfl
theorem uy(h:Ag a):cJ [eW (aW a)]=.ok (.f,eA a):=by
 have h1:=k7 h.f;have h2:=k7 h.s;have h3:=uu h.n;obtain⟨i,n,j⟩:=a;dsimp only at h1 h2 h3;have e0:=uw (x:=dg i) (m:=n) (y:=dg j);have e1:=HI (x:=dg i) (m:=n) (y:=dg j);have e2:=JL (x:=dg i) (m:=n) (y:=dg j);have e3:=Kg (x:=dg i) (m:=n) (y:=dg j);have e4:=ne3;unfold cJ ud eA aW;rw[aZ (h:=by rfl)];generalize eW [dg i,n,dg j]=EW at e0 e1 e2 e3 |-;generalize (3:Int)=T3 at e0 e4 |-;rw[aP (env':=[some (.f,EW)]) (by simp![pv,seval,e0,e4,fM])];simp![pv,seval,e1,e2,e3,h1,h2,h3,aV,cQ,cR]
theorem oS(h:ws.length≠3):dv [eW ws]=true:=by
 have ND:lenA [eW ws]=.ok (.f,.int (ws.length:Int)):=by
  unfold eW;show Res.ok (O.f,D.int (((ws.map D.str).length:Nat):Int))=_;rw[b9]
 have q1:((ws.length:Int)==3)=false:=aaj.mpr (by lia);refine qK rfl ?_;show(((Py _ _ [some (O.f,eW ws)]||_)||_)||_)=true;refine(Z3 _ _).mpr (.inl ((Z3 _ _).mpr (.inl ((Z3 _ _).mpr (.inl ?_)))));generalize eW ws=EW at ND |-;generalize (ws.length:Int)=y at ND q1;rw[DJ (env':=[some (.f,EW)]) (by simp?[ND,q1,aaq])];exact Bu (o:=.val _) (env':=[some (.f,EW)]) (by simp? <;> rfl)
theorem YK(ws:D)(h:lenA [ws]=.ok (.f,.int 3)):M4 (Mw (bu OW (aq (a9 lenA (ah (ax 0) ay))) (aq (aA (.int 3))))) cG br [some (.f,ws)]=.ok (.nx [some (.f,ws)]):=by
 have e4:=ne3;generalize (3:Int)=T3 at h e4 |-;simp![pv,seval,h,e4,fM]
theorem ya(h:cT [.str x]=true):dv [eW [x,m,y]]=true:=by
 have e1:=HI (x:=x) (m:=m) (y:=y);have h3:=YK _ (uw (x:=x) (m:=m) (y:=y));refine qK rfl ?_;show(((_||fw _ _ [some (O.f,eW [x,m,y])])||_)||_)=true;refine(Z3 _ _).mpr (.inl ((Z3 _ _).mpr (.inl ((Z3 _ _).mpr (.inr ?_)))));rw[eS h3];generalize eW [x,m,y]=EW at e1 |-;exact Ef (os:=[.val (.str x)]) (ds:=[.str x]) (env':=[some (.f,EW)]) (by simp![pv,seval,e1]) (by simp![pv,seval]) h
theorem yb(hx:DL x)(h:cU [.str m]=true):dv [eW [x,m,y]]=true:=by
 obtain⟨i,hi⟩:=hx;have e1:=HI (x:=x) (m:=m) (y:=y);have e2:=JL (x:=x) (m:=m) (y:=y);have h3:=YK _ (uw (x:=x) (m:=m) (y:=y));refine qK rfl ?_;show((_||fw _ _ [some (O.f,eW [x,m,y])])||_)=true;refine(Z3 _ _).mpr (.inl ((Z3 _ _).mpr (.inr ?_)));rw[eS h3];generalize eW [x,m,y]=EW at e1 e2 |-;unfold xOf rK;have e:bZ bN (ah (aq (aF Mg (ax 0) (aq (aA (.int 0))))) ay) [some (.f,EW)]=.ok ((.f,.int i),[some (.f,EW)]):=by simp![pv,seval,e1,hi,aV,cQ]
 rw[e];exact Eg (os:=[.val (.str m)]) (ds:=[.str m]) (env':=[some (.f,EW)]) (by simp![pv,seval,e2]) (by simp![pv,seval]) h
theorem DM(hx:DL x)(hm:bD m=true)(h:cT [.str y]=true):dv [eW [x,m,y]]=true:=by
 obtain⟨i,hi⟩:=hx;have hp:=uu hm;have e1:=HI (x:=x) (m:=m) (y:=y);have e2:=JL (x:=x) (m:=m) (y:=y);have e3:=Kg (x:=x) (m:=m) (y:=y);have h3:=YK _ (uw (x:=x) (m:=m) (y:=y));refine qK rfl ?_;show(_||fw _ _ [some (O.f,eW [x,m,y])])=true;refine(Z3 _ _).mpr (.inr ?_);rw[eS h3];generalize eW [x,m,y]=EW at e1 e2 e3 |-;unfold xOf rK;have e:bZ bN (ah (aq (aF Mg (ax 0) (aq (aA (.int 0))))) ay) [some (.f,EW)]=.ok ((.f,.int i),[some (.f,EW)]):=by simp![pv,seval,e1,hi,aV,cQ]
 rw[e];dsimp only;have e':bZ bY (ah (aq (aF Mg (ax 0) (aq (aA (.int 1))))) ay) [some (.f,EW)]=.ok ((.f,.str m),[some (.f,EW)]):=by simp![pv,seval,e2,hp,aV,cR]
 rw[e'];exact Eg (os:=[.val (.str y)]) (ds:=[.str y]) (env':=[some (.f,EW)]) (by simp![pv,seval,e3]) (by simp![pv,seval]) h
end
variable{ps:List (LNN)}
section
variable{Rw:LNN}
def Pt(T:List Nat)(Rw:LNN)(ps:List (LNN)):Prop:=bM [.str T]=.ok (.l (.l .f),.lst ((Rw::ps).map eW))
theorem ic(h:Pt T Rw ps):cy 1 (Bg (bZ bM (ah (ax 0) ay))) [some (.f,.str T),none,none,none]=.ok (.nx [some (.f,.str T),some (.f,.lst ((Rw::ps).map eW)),none,none]):=by
 have h:bM [.str T]=_:=h;simp?[GD,h];split <;> rfl
theorem Aa(h:gv [.str T]=true):x_read_chart [.str T]=true:=by
 refine qK rfl ?_;show(((xOf _ [some (O.f,D.str T),none,none,none]||_)||_)||_)=true;refine(Z3 _ _).mpr (.inl ((Z3 _ _).mpr (.inl ((Z3 _ _).mpr (.inl ?_)))));exact Ef (os:=[.var 0]) (ds:=[.str T]) (env':=[some (.f,.str T),none,none,none]) (by simp?) (by simp![pv,seval]) h
theorem Ab(hp:Pt T Rw ps)(h:de [eW Rw]=true):x_read_chart [.str T]=true:=by
 refine qK rfl ?_;show(((_||fw _ _ [some (O.f,D.str T),none,none,none])||_)||_)=true;refine(Z3 _ _).mpr (.inl ((Z3 _ _).mpr (.inl ((Z3 _ _).mpr (.inr ?_)))));rw[eS (ic hp),j5];generalize eW Rw=EW at h |-;generalize ps.map eW=PS;have h0:∀r:List D,Ow (EW::r) (0:Int)=some EW:=λr=>dw (j:=0) rfl
 exact Ef (os:=[.val EW]) (ds:=[EW]) (env':=[some (.f,.str T),some (.f,.lst (EW::PS)),none,none]) (by simp?[h0]) (by simp![pv,seval]) h
theorem jL(hl:ns.length<=5)(hn:∀n∈ns,bD n=true)(a0 a3:Option R):cy 2 (a9 ki (ah (aq (a9 dN (ah (aq (bZ cz (ah (aq (aF Mg (ax 1) (aq (aA (.int 0))))) ay))) ay))) ay)) [a0,some (.f,.lst (((LX::ns)::ps).map eW)),none,a3]=.ok (.nx [a0,some (.f,.lst (((LX::ns)::ps).map eW)),some (.f,.tup ((bQ ltS ns).map D.str)),a3]):=by
 have VG:=vm ns hl hn;have SV:=Du ns (by lia);have Ry:=PV.flat_strs ns;rw[j5];generalize eW (LX::ns)=EW at VG |-;generalize ps.map eW=PS;generalize (bQ ltS ns).map D.str=SN at SV |-;generalize ns.map D.str=NN at VG SV Ry;have h0:∀r:List D,Ow (EW::r) (0:Int)=some EW:=λr=>dw (j:=0) rfl
 simp?[h0,VG,fL,Ry,SV]
theorem Ac(hp:Pt T (LX::ns) ps)(hl:ns.length<=5)(hn:∀n∈ns,bD n=true)(h:60<ps.length):x_read_chart [.str T]=true:=by
 have Ri:decide (60<(((ps.length+1:Nat):Int)-1))=true:=aao (by lia);have ND:lenA [.lst (((LX::ns)::ps).map eW)]=.ok (.f,.int ((ps.length+1:Nat):Int)):=by
  show Res.ok (O.f,D.int (((((LX::ns)::ps).map eW).length:Nat):Int))=_;rw[b9,ZR]
 refine qK rfl ?_;show((_||fw _ _ [some (O.f,D.str T),none,none,none])||_)=true;refine(Z3 _ _).mpr (.inl ((Z3 _ _).mpr (.inr ?_)));rw[eS (ic hp),eS (jL hl hn (some (.f,.str T)) none)];generalize ((LX::ns)::ps).map eW=PS at ND |-;generalize (bQ ltS ns).map D.str=SN;generalize ((ps.length+1:Nat):Int)=NL at ND Ri;rw[DJ (env':=[some (.f,.str T),some (.f,.lst PS),some (.f,.tup SN),none]) (by simp?[ND,Ri])];exact Bu (o:=.val _) (env':=[some (.f,.str T),some (.f,.lst PS),some (.f,.tup SN),none]) (by simp? <;> rfl)
theorem Ad(hp:Pt T (LX::ns) ps)(hl:ns.length<=5)(hn:∀n∈ns,bD n=true)(h:ps.length<=60)(hg:∀p∈ps,(∃d,cJ [eW p]=.ok (.f,d))\/dv [eW p]=true)(hb:∃p∈ps,dv [eW p]=true):x_read_chart [.str T]=true:=by
 have Ri:decide (60<(((ps.length+1:Nat):Int)-1))=false:=Z7 (by lia);have ND:lenA [.lst (((LX::ns)::ps).map eW)]=.ok (.f,.int ((ps.length+1:Nat):Int)):=by
  show Res.ok (O.f,D.int (((((LX::ns)::ps).map eW).length:Nat):Int))=_;rw[b9,ZR]
 have VW:O7 (.lst (((LX::ns)::ps).map eW)) (some 1) none=.ok (.l .f,.lst (ps.map eW)):=by
  show Res.ok (O.l .f,D.lst (eV (((LX::ns)::ps).map eW) (some ((1:Nat):Int)) none))=_;rw[eE];rfl
 have Ql:jz (bj 0) (bZ cJ (ah (ax 0) ay)) (oH dv (ah (ax 0) ay)) (ps.map eW) [none]=true:=by
  refine YJ (e:=eW) (λenv=>∃t,env=[t]) ps (λp Q7 env ⟨t,ht⟩=>?_) ?_ _ ⟨none,rfl⟩
  .subst ht;refine⟨[some (.f,eW p)],rfl,?_⟩;rcases hg p Q7 with⟨d,h⟩|h
   .refine .inr ⟨(.f,d),[some (.f,eW p)],?_,_,rfl⟩;generalize eW p=EW at h |-;cases hf:fe d <;> simp?[h,aV,hf,j5,ab5,frzS,fM]
   .exact .inl (Eg (os:=[.var 0]) (ds:=[eW p]) (env':=[some (.f,eW p)]) (by simp?) (by simp![pv,seval]) h)
  .obtain⟨p,Q7,h⟩:=hb;refine⟨p,Q7,λenv ⟨t,ht⟩=>?_⟩;subst ht;exact⟨[some (.f,eW p)],rfl,Eg (os:=[.var 0]) (ds:=[eW p]) (env':=[some (.f,eW p)]) (by simp?) (by simp![pv,seval]) h⟩
 refine qK rfl ?_;show(_||fw _ _ [some (O.f,D.str T),none,none,none])=true;refine(Z3 _ _).mpr (.inr ?_);rw[eS (ic hp),eS (jL hl hn (some (.f,.str T)) none)];generalize ((LX::ns)::ps).map eW=PS at ND VW |-;generalize (bQ ltS ns).map D.str=SN;generalize ((ps.length+1:Nat):Int)=NL at ND Ri;rw[eS (env':=[some (.f,.str T),some (.f,.lst PS),some (.f,.tup SN),none]) (by simp?[ND,Ri,fM])];exact GP (ds:=ps.map eW) (env':=[some (.f,.str T),some (.f,.lst PS),some (.f,.tup SN),none]) (by simp?[VW]) (by rw[b9];lia) Ql
end
def kd0(w:List Nat):Nat:=kd (w.headD 0)
theorem Chk.kd0{w:List Nat}{k:Nat}(h:Chk w k):LW.kd0 w=k:=by
 cases w with
 |nil=>exact absurd rfl h.ne
 |cons x r=>exact h.all x ZI
structure Wq(w:List Nat):Prop where
 c:Chk w (kd0 w)
 b:kd0 w<2
 l:w.length<=60
theorem Wq.of{k:Nat}(h:Chk w k)(hk:k<2)(hl:w.length<=60):Wq w:=⟨by rw[h.kd0];exact h,by rw[h.kd0];exact hk,hl⟩
theorem Wq.name(h:bD w=true):Wq w:=.of (xZ h) (by decide) (by have:=(gM h).1;lia)
theorem Wq.num{i:Int}(h:Nm i):Wq (dg i):=.of h.ck (by decide) h.len
theorem yc(h:Wq w):w≠QK:=Lg h.c (by have:=h.b;lia)
def gC(ws:LNN):List (List Nat×Nat):=ws.flatMap λw=>[([32],2),(w,kd0 w)]
def yd:LNN->List (List Nat×Nat)
 |[]=>[]
 |w::ws=>(w,kd0 w)::gC ws
def RM(ps:List (LNN)):List (List Nat×Nat):=ps.flatMap λp=>(QK,3)::([32],2)::yd p
theorem sj(w:List Nat)(ws:LNN):gC (w::ws)=([32],2)::(w,kd0 w)::gC ws:=rfl
theorem GQ{r:List (List Nat×Nat)}(hr:Chs r)(hh:hd r=3\/hd r=9):∀ws:LNN,(∀w∈ws,Wq w)->Chs (gC ws++r)/\(hd (gC ws++r)=2\/hd (gC ws++r)=3\/hd (gC ws++r)=9)
 |[],_=>⟨hr,.inr hh⟩
 |w::ws,h=>by
  obtain⟨c,e⟩:=GQ hr hh ws λw hw=>h w (ZN _ hw)
  have g:=h w ZI;have hb:=g.b;rw[sj,abo,abo];exact⟨.mk DI (.mk g.c c (.inr (by lia))) (.inr (by show 2≠kd0 w;lia)),.inl rfl⟩
theorem yf{r:List (List Nat×Nat)}(hr:Chs r)(hh:hd r=3\/hd r=9)(h:∀w∈ws,Wq w):Chs (yd ws++r)/\hd (yd ws++r)≠2:=by
 cases ws with
 |nil=>exact⟨hr,by show hd r≠2;lia⟩
 |cons w ws=>
  obtain⟨c,e⟩:=GQ hr hh ws λw hw=>h w (ZN _ hw)
  have g:=h w ZI;have hb:=g.b;exact⟨Chs.mk g.c c (.inr (show kd0 w≠hd (gC ws++r) by lia)),by show kd0 w≠2;lia⟩
theorem Bv:∀ps:List (LNN),(∀p∈ps,∀w∈p,Wq w)->Chs (RM ps)/\(hd (RM ps)=3\/hd (RM ps)=9)
 |[],_=>⟨.nil,.inr rfl⟩
 |p::ps,h=>by
  obtain⟨c,e⟩:=Bv ps λp hp=>h p (ZN _ hp)
  obtain⟨c2,e2⟩:=yf c e (h p ZI);show Chs ((QK,3)::([32],2)::(yd p++RM ps))/\_;exact⟨.mk GH (.mk DI c2 (.inr λz=>e2 z.symm)) (.inl rfl),.inl rfl⟩
theorem yg:∀(x:List Nat) (ws:LNN),joinL [32] (x::ws)=x++txt (gC ws)
 |x,[]=>(aak x).symm
 |x,w::ws=>by
  show x++[32]++joinL [32] (w::ws)=_;rw[yg w ws,sj,fP,fP,aaa]
theorem uz(ws:LNN):txt (yd ws)=joinL [32] ws:=by
 cases ws with
 |nil=>rfl
 |cons w ws=>rw[yg,yd,fP]
theorem sk:∀(x:List Nat) (ps:List (LNN)),joinL [59,32] (x::ps.map (joinL [32]))=x++txt (RM ps)
 |x,[]=>(aak x).symm
 |x,p::ps=>by
  show x++[59,32]++joinL [59,32] (joinL [32] p::ps.map (joinL [32]))=_;have e:RM (p::ps)=(QK,3)::([32],2)::(yd p++RM ps):=rfl;rw[sk (joinL [32] p) ps,e,fP,fP,x4,uz,aaa];rfl
theorem Bw:∀ws:LNN,(∀w∈ws,Wq w)->PY (gC ws)=ws
 |[],_=>rfl
 |w::ws,h=>by
  rw[sj,iu,ZY rfl,iu,Z6 (by have:=(h w ZI).b;lia),Bw ws λw hw=>h w (ZN _ hw)]
theorem uA(h:∀w∈ws,Wq w):PY (yd ws)=ws:=by
 cases ws with
 |nil=>rfl
 |cons w ws=>rw[yd,iu,Z6 (by have:=(h w ZI).b;lia),Bw ws λw hw=>h w (ZN _ hw)]
theorem yh:∀ps:List (LNN),(∀p∈ps,∀w∈p,Wq w)->PY (RM ps)=ps.flatMap λq=>QK::q
 |[],_=>rfl
 |p::ps,h=>by
  have e:RM (p::ps)=(QK,3)::([32],2)::(yd p++RM ps):=rfl;rw[e,iu,Z6 (by decide),iu,ZY rfl,x5,uA (h p ZI),yh ps λp hp=>h p (ZN _ hp),adl,abo]
inductive Hd:LNN->LNN->Prop
 |ws {h:LNN}:(∀w∈h,Wq w)->Hd h h
 |sp:Hd [[32]] []
 |em:Hd [[]] []
variable{h h':LNN}
theorem JM(hh:Hd h h')(hw:∀p∈ps,∀w∈p,Wq w)(hl:(joinL [59,32] (joinL [32] h::ps.map (joinL [32]))).length<=40000)(hk:h'.length+(ps.flatMap λq=>QK::q).length<=40000):Pt (joinL [59,32] (joinL [32] h::ps.map (joinL [32]))) h' ps:=by
 obtain⟨c,e⟩:=Bv ps hw;have key:∀l0:List (List Nat×Nat),Chs (l0++RM ps)->txt l0=joinL [32] h->PY l0=h'->(∀w∈h',w≠QK)->Pt (joinL [59,32] (joinL [32] h::ps.map (joinL [32]))) h' ps:=λl0 hc ht htk hs=>by
  have et:joinL [59,32] (joinL [32] h::ps.map (joinL [32]))=txt (l0++RM ps):=by rw[sk,x4,ht]
  have ek:PY (l0++RM ps)=h'++ps.flatMap λq=>QK::q:=by rw[x5,htk,yh ps hw]
  have:=DH (l0++RM ps) hc (by rw[<-et];exact hl) (by rw[ek,eK];exact hk);rw[ek,my _ _ _ _ hs,xX _ _ _ (λp hp w Vy=>yc (hw p hp w Vy)),<-et]at this;exact this
 cases hh with
 |ws RN=>
  obtain⟨c2,_⟩:=yf c e RN;exact key (yd h) c2 (uz h) (uA RN) λw Vy=>yc (RN w Vy)
 |sp=>exact key [([32],2)] (Chs.mk DI c (.inr (show 2≠hd (RM ps) by lia))) rfl rfl (λw Vy=>nomatch Vy)
 |em=>exact key [] c rfl rfl (λw Vy=>nomatch Vy)
theorem Ae(as:List Mi)(h:as.length<64):dN [.lst (as.map eA)]=.ok (.l .f,.lst ((bQ dG as).map eA)):=by
 unfold dN;dsimp only;rw[ZY (by rw[b9];exact h)];unfold oE;cases as with
 |nil=>rfl
 |cons a as=>
  have e00:dM ((a::as).map eA)=none:=rfl;have e1:lC ((a::as).map eA)=some ((a::as).map ak):=by rw[xT,ng]
  have e2:sameKinds (ak a) (as.map ak)=true:=by
   unfold sameKinds;rw[aaW,ZP,aad];exact⟨rfl,λb _=>rfl⟩
  rw[e00,e1,j5];dsimp only;rw[ZY e2,<-j5,qH ak gE,xT];rfl
section
theorem Af(ha:∀a∈as,Ag a):fF (bj 0) jj (bZ cJ (ah (ax 0) ay)) ((as.map aW).map eW) [none]=.ok (as.map eA):=by
 rw[aah];refine dh (e:=eW∘aW) (λenv=>∃t,env=[t]) _ ?_ _ ⟨_,rfl⟩;rintro a haa env ⟨t,rfl⟩;have h1:=uy (ha a haa);refine⟨[some (.f,eW (aW a))],rfl,.f,[some (.f,eW (aW a))],?_,_,rfl⟩;have hf:fe (eA a)=true:=rfl;generalize eW (aW a)=EW at h1 |-;simp?[h1,aV,hf]
theorem GR(hql:as.length<=60)(SN:List D):M4 (Mw (aF Q8 (aq (aF uQ (aq (a9 lenA (ah (ax 1) ay))) (aq (aA (.int 1))))) (aq (aA (.int 60))))) cG br [some (.f,.str T),some (.f,.lst (((LX::ns)::as.map aW).map eW)),some (.f,.tup SN),none]=.ok (.nx [some (.f,.str T),some (.f,.lst (((LX::ns)::as.map aW).map eW)),some (.f,.tup SN),none]):=by
 have Ri:decide (60<(((as.length+1:Nat):Int)-1))=false:=Z7 (by lia);have ND:lenA [.lst (((LX::ns)::as.map aW).map eW)]=.ok (.f,.int ((as.length+1:Nat):Int)):=by
  show Res.ok (O.f,D.int (((((LX::ns)::as.map aW).map eW).length:Nat):Int))=_;rw[b9,ZR,b9]
 generalize ((LX::ns)::as.map aW).map eW=PS at ND |-;generalize ((as.length+1:Nat):Int)=NL at ND Ri;simp?[ND,Ri,fM]
theorem uB(ha:∀a∈as,Ag a)(Pg:as.length<=60)(SN:List D):cy 3 (a9 dN (ah (aq (gc (xw (g0 (ax 1) (cM (aA (.int 1))) dn)) [none] (bj 0) jj (bZ cJ (ah (ax 0) ay)))) ay)) [some (.f,.str T),some (.f,.lst (((LX::ns)::as.map aW).map eW)),some (.f,.tup SN),none]=.ok (.nx [some (.f,.str T),some (.f,.lst (((LX::ns)::as.map aW).map eW)),some (.f,.tup SN),some (.l .f,.lst ((bQ dG as).map eA))]):=by
 have Vx:=Af ha;have Q4:=Ae as (by lia);have hz:(as.map eA).length<=sizeLine:=cY (by lia);have VU:=dC as;have W3:O7 (.lst (((LX::ns)::as.map aW).map eW)) (some 1) none=.ok (.l .f,.lst ((as.map aW).map eW)):=by
  show Res.ok (O.l .f,D.lst (eV (((LX::ns)::as.map aW).map eW) (some ((1:Nat):Int)) none))=_;rw[eE];rfl
 generalize (bQ dG as).map eA=R2 at Q4 |-;generalize as.map eA=R1 at Vx Q4 hz VU;generalize ((LX::ns)::as.map aW).map eW=PS at W3 |-;generalize (as.map aW).map eW=AW at Vx W3;generalize (bZ cJ (ah (ax 0) ay))=GG at Vx |-;simp?[W3,Vx,hz,VU,Q4]
theorem DN(hp:Pt T (LX::ns) (as.map aW))(hl:ns.length<=5)(hn:∀n∈ns,bD n=true)(ha:∀a∈as,Ag a)(Pg:as.length<=60)(hc:bA [.tup ((bQ ltS ns).map D.str),.lst ((bQ dG as).map eA)]=.ok (.f,.bl false)):bG [.str T]=true:=by
 refine qK rfl ?_;show fw _ _ [some (O.f,D.str T),none,none,none]=true;rw[eS (ic hp),eS (jL hl hn (some (.f,.str T)) none),eS (GR Pg _),eS (uB ha Pg _)];generalize ((LX::ns)::as.map aW).map eW=PS;generalize (bQ ltS ns).map D.str=SN at hc |-;generalize (bQ dG as).map eA=AS at hc |-;rw[DJ (env':=[some (.f,.str T),some (.f,.lst PS),some (.f,.tup SN),some (.l .f,.lst AS)]) (by simp?[hc,aV,dk,aaq])];exact Bu (o:=.val _) (env':=[some (.f,.str T),some (.f,.lst PS),some (.f,.tup SN),some (.l .f,.lst AS)]) (by simp? <;> rfl)
theorem yi(hp:Pt T (LX::ns) (as.map aW))(hl:ns.length<=5)(hn:∀n∈ns,bD n=true)(ha:∀a∈as,Ag a)(Pg:as.length<=60)(hc:bA [.tup ((bQ ltS ns).map D.str),.lst ((bQ dG as).map eA)]=.ok (.f,.bl true)):∃o r,cV [.str T]=.ok (o,r):=by
 unfold cV kr;rw[aZ (h:=by rfl)];refine⟨.t [.f,.l .f],.tup [.tup ((bQ ltS ns).map D.str),.lst ((bQ dG as).map eA)],?_⟩;rw[show([D.str T].map (λd=>some (O.f,d))++List.replicate 3 none:PV.Env)=[some (O.f,D.str T),none,none,none] from rfl];rw[aP (ic hp),aP (jL hl hn (some (.f,.str T)) none),aP (GR Pg _),aP (uB ha Pg _)];generalize ((LX::ns)::as.map aW).map eW=PS;generalize (bQ ltS ns).map D.str=SN at hc |-;generalize (bQ dG as).map eA=AS at hc |-;rw[aP (env':=[some (.f,.str T),some (.f,.lst PS),some (.f,.tup SN),some (.l .f,.lst AS)]) (by simp?[hc,aV,dk,aaD,fM])];simp?[Ds] <;> rfl
end
section
theorem DO(hm:dW nY=false)(XR:nY.length<=1000)(hn:∀m∈nY,m.length<=1000):bA [.tup (nY.map D.str),.lst (ap.map eA)]=.ok (.f,.bl false):=by
 have h1:=gL nY (by lia) (λm h=>by have:=hn m h;lia);rw[hm]at h1;unfold bA gu;rw[aZ (h:=by rfl)];generalize nY.map D.str=NN at h1 |-;generalize ap.map eA=AA;simp?[h1,aV,dk,aaq]
theorem DP(hm:dW nY=true)(ha:eN ap nY=false)(XR:nY.length<=1000)(hn:∀m∈nY,m.length<=1000)(Pg:ap.length<=1000):bA [.tup (nY.map D.str),.lst (ap.map eA)]=.ok (.f,.bl false):=by
 have h1:=gL nY (by lia) (λm h=>by have:=hn m h;lia);have h2:=j4 ap nY (by lia);rw[hm]at h1;rw[ha]at h2;unfold bA gu;rw[aZ (h:=by rfl)];generalize nY.map D.str=NN at h1 h2 |-;generalize ap.map eA=AA at h2 |-;simp?[h1,h2,aV,dk,aaq,aaD,fM]
theorem DQ(hm:dW nY=true)(ha:eN ap nY=true)(XR:nY.length<=1000)(hn:∀m∈nY,m.length<=1000)(Pg:ap.length<=60)(hr:∀a∈ap,0<=a.2.2/\a.2.2<12)(hs:∀met,Least ap met->((met.length:Nat):Int)≠cw ap):bA [.tup (nY.map D.str),.lst (ap.map eA)]=.ok (.f,.bl false):=by
 have h1:=gL nY (by lia) (λm h=>by have:=hn m h;lia);have h2:=j4 ap nY (by lia);rw[hm]at h1;rw[ha]at h2;obtain⟨met,T,Le,hT,hT2,e⟩:=Bq ap hr (by lia);have Oz:=mh nY ap (by lia);have Ox:=hs met Le;have hq:((1+(T.length:Int))==cw ap)=false:=aaj.mpr (by lia);unfold XQ at Oz;have Zw:=dC T;have YL:lenA [.lst (T.map eA)]=.ok (.f,.int (T.length:Int)):=by
  show Res.ok (O.f,D.int (((T.map eA).length:Nat):Int))=_;rw[b9]
 unfold bA gu;rw[aZ (h:=by rfl)];generalize nY.map D.str=NN at h1 h2 Oz |-;generalize ap.map eA=AA at h2 e Oz |-;generalize T.map eA=TT at e Zw YL;generalize (T.length:Int)=TL at YL hq;generalize cw ap=SS at Oz hq;simp![pv,seval,gB,kN,YL,h1,h2,e,Oz,Zw,hq,aV,fL,dk,cQ,aaD,fM]
end
def wt(p:LNN):Nat:=(p.map List.length).sum+p.length
def tw(l:List (LNN)):Nat:=(l.map λp=>wt p+2).sum
def tx(h:LNN)(ps:List (LNN)):List Nat:=joinL [59,32] (joinL [32] h::ps.map (joinL [32]))
theorem oU(sep:List Nat):∀ys:LNN,(joinL sep ys).length<=(ys.map List.length).sum+ys.length*sep.length
 |[]=>aaB _
 |[x]=>by show x.length<=(x.length+0)+_;lia
 |x::y::r=>by
  have:=oU sep (y::r);show(x++sep++joinL sep (y::r)).length<=(x.length+((y::r).map List.length).sum)+((y::r).length+1)*sep.length;rw[eK,eK,Nat.add_mul,Nat.one_mul];lia
theorem mC(p:LNN)(l:List (LNN)):tw (p::l)=wt p+2+tw l:=rfl
theorem yj{p:LNN}:∀{l:List (LNN)},p∈l->wt p+2<=tw l
 |q::l,h=>by
  rw[mC];rcases ZJ.mp h with rfl|h
  .lia
  .have:=yj h;lia
theorem so:∀l:List (LNN),((l.map (joinL [32])).map List.length).sum+2*l.length<=tw l
 |[]=>ZO _
 |p::l=>by
  have:=so l;have h:_<=(p.map List.length).sum+p.length*1:=oU [32] p;rw[mC];show(joinL [32] p).length+((l.map (joinL [32])).map List.length).sum+2*(l.length+1)<=_;unfold wt;lia
theorem Bx:∀l:List (LNN),(l.flatMap λq=>QK::q).length<=tw l
 |[]=>ZO _
 |p::l=>by
  have:=Bx l;rw[adl,eK,ZR,mC];unfold wt;lia
theorem GS:∀{p:LNN},(∀w∈p,w.length<=60)->wt p<=61*p.length
 |[],_=>ZO _
 |w::p,h=>by
  have:=GS λv hv=>h v (ZN _ hv)
  have:=h w ZI;unfold wt at this |-;show w.length+(p.map List.length).sum+(p.length+1)<=61*(p.length+1);unfold wt at *;lia
theorem GU{n:Nat}:∀{l:List (LNN)},(∀p∈l,p.length<=n/\∀w∈p,w.length<=60)->tw l<=l.length*(61*n+2)
 |[],_=>aaB _
 |p::l,h=>by
  have h1:=GU λv hv=>h v (ZN _ hv)
  obtain⟨h2,h3⟩:=h p ZI;have h4:=GS h3;rw[mC,ZR,Nat.add_mul,Nat.one_mul];lia
section
theorem GV(hs:tw (h::ps)<=40000):(tx h ps).length<=40000:=by
 have h1:=so (h::ps);have h2:_<=_+_*2:=oU [59,32] ((h::ps).map (joinL [32]));rw[b9]at h2;show(joinL [59,32] ((h::ps).map (joinL [32]))).length<=_;lia
theorem Ah(hh:Hd h h')(hw:∀p∈ps,∀w∈p,Wq w)(hs:tw (h::ps)<=40000):Pt (tx h ps) h' ps:=by
 refine JM hh hw (GV hs) ?_;have h1:=Bx ps;have h2:h'.length<=h.length:=by
  cases hh with
  |ws _=>exact ZO _
  |sp=>exact aaB _
  |em=>exact aaB _
 rw[mC]at hs;unfold wt at hs;lia
end
theorem moves_wq:Wq LX:=.of moves_ck (by decide) (by decide)
theorem sr(sep:List Nat)(ys:LNN)(h:(ys.map List.length).sum+ys.length*sep.length<=100000):oG sep [.lst (ys.map D.str)]=.ok (.f,.str (joinL sep ys)):=by
 unfold oG;dsimp only;rw[j6];dsimp only;rw[ZY (by lia)]
theorem mD{x y:List D}(h:x.length+y.length<=100000):addD (.lst x) (.lst y)=.ok (.l .f,.lst (x++y)):=by rw[F8,ZY (line_le (by lia))]
inductive Th where
 |i (n:Int)
 |s (w:List Nat)
def Su:Th->D
 | .i n=>.int n
 | .s w=>.str w
def W6:Th->List Nat
 | .i n=>dg n
 | .s w=>w
def su:Th->Prop
 | .i n=>Nm n
 | .s _=>True
def tP(l:List Th):D:=.tup (l.map Su)
def wP(l:List Th):LNN:=l.map W6
theorem GW{t:Th}(h:su t):Ee [Su t]=.ok (.f,.str (W6 t)):=by
 cases t with
 |i n=>exact JJ h
 |s w=>rfl
theorem DR{l:List Th}(h:∀t∈l,su t):fF (bj 0) jj (a9 Ee (ah (ax 0) ay)) (l.map Su) [none]=.ok ((wP l).map D.str):=by
 unfold wP;rw[aah];refine dh (e:=Su) (r:=D.str∘W6) (λenv=>∃t,env=[t]) l ?_ _ ⟨none,rfl⟩;rintro t ht env ⟨u,rfl⟩;have h1:=GW (h t ht);refine⟨[some (.f,Su t)],rfl,.f,[some (.f,Su t)],?_,_,rfl⟩;show _=Res.ok ((O.f,D.str (W6 t)),[some (O.f,Su t)]);generalize Su t=ET at h1 |-;generalize W6 t=WT at h1 |-;simp![pv,seval,h1]
section
variable{ps:List (List Th)}
theorem GX{l:List Th}(hl:∀t∈l,su t)(hs:wt (wP l)<=40000)(L:LNN)(hL:L.length<=1000)(A0 A1:Option R):du [A0,A1,some (.l .f,.lst (L.map D.str)),some (.f,tP l)]=.ok (.nx [A0,A1,some (.l .f,.lst ((L++[joinL [32] (wP l)]).map D.str)),some (.f,tP l)]):=by
 have hc:=DR hl;unfold wt at hs;have hj:=sr [32] (wP l) (by show _+_*1<=_;lia);have hz:((wP l).map D.str).length<=sizeLine:=cY (by lia);have hf:=PV.flat_strs (wP l);have YM:(L.map D.str).length<sizeLine:=vg (by rw[b9];lia);have hap:(L++[joinL [32] (wP l)]).map D.str=L.map D.str++[.str (joinL [32] (wP l))]:=by rw[Z4];rfl
 rw[hap];unfold du tP;generalize joinL [32] (wP l)=J at hj |-;generalize (wP l).map D.str=W at hc hj hz hf;generalize l.map Su=LE at hc |-;generalize L.map D.str=LL at YM |-;generalize (a9 Ee (ah (ax 0) ay))=GG at hc |-;simp?[hc,hz,hf,hj,YM]
theorem oV(ho:∀l∈ps,∀t∈l,su t)(hl:ps.length<=500)(hs:tw (h::ps.map wP)<=40000):bV [eW h,.lst (ps.map tP)]=.ok (.f,.str (tx h (ps.map wP))):=by
 have hwt:∀l∈ps,wt (wP l)<=40000:=λl hl=>by
  have:=yj (p:=wP l) (ZN h (aaO.mpr ⟨l,hl,rfl⟩));lia
 have hh:wt h<=40000:=by
  have:=yj (ZI (a:=h) (l:=ps.map wP));lia
 unfold wt at hh;have hj:oG [32] [eW h]=.ok (.f,.str (joinL [32] h)):=sr [32] h (by show _+_*1<=_;lia);obtain⟨env',hf,u3,rfl⟩:=for_list (a:=bj 3) (g:=du) (e:=tP) ps (λk env=>∃u3,env=[some (.f,eW h),some (.f,.lst (ps.map tP)),some (.l .f,.lst ((joinL [32] h::(ps.take k).map λl=>joinL [32] (wP l)).map D.str)),u3]) (by
  rintro k l env hx ⟨u3,rfl⟩;obtain⟨hk,ex⟩:=qQ hx;have hm:=aaA hx;refine⟨_,rfl,_,GX (ho l hm) (hwt l hm) (joinL [32] h::(ps.take k).map λl=>joinL [32] (wP l)) (by rw[ZR,b9,Z8];lia) _ _,some (.f,tP l),?_⟩;rw[List.take_succ_eq_append_getElem hk,ex,Z4 (l₁:=ps.take k)];rfl) [some (.f,eW h),some (.f,.lst (ps.map tP)),some (.l .f,.lst [.str (joinL [32] h)]),none] ⟨none,rfl⟩
 rw[ab1]at hf;have Q4:=so (h::ps.map wP);have e2:(joinL [32] h::ps.map λl=>joinL [32] (wP l))=(h::ps.map wP).map (joinL [32]):=by
  rw[j5,aah];rfl
 have YN:oG [59,32] [.lst ((joinL [32] h::ps.map λl=>joinL [32] (wP l)).map D.str)]=.ok (.f,.str (tx h (ps.map wP))):=by
  rw[e2];refine sr [59,32] ((h::ps.map wP).map (joinL [32])) ?_;rw[b9];show _+_*2<=_;lia
 unfold bV lW;rw[aZ (h:=by rfl)];generalize (joinL [32] h::ps.map λl=>joinL [32] (wP l)).map D.str=TT at hf YN;generalize tx h (ps.map wP)=TX at YN |-;generalize joinL [32] h=JH at hj hf;generalize eW h=EH at hj hf |-;generalize ps.map tP=PP at hf |-;rw[aP (env':=[some (.f,EH),some (.f,.lst PP),some (.l .f,.lst [.str JH]),none]) (by simp![pv,seval,hj])];rw[aP (env':=[some (.f,EH),some (.f,.lst PP),some (.l .f,.lst TT),u3]) (by
  unfold jD;generalize du=BB at hf |-;simp![pv,seval];exact hf)]
 unfold iP;simp![pv,seval,YN]
end
variable{P:List (List Th)}
theorem p_with(hl:P.length<=1000)(k:Nat)(p:List Th):m__law_with [.lst (P.map tP),.int (k:Int),tP p]=.ok (.l .f,.lst ((P.take k++p::P.drop (k+1)).map tP)):=by
 have s1:O7 (.lst (P.map tP)) none (some (k:Int))=.ok (.l .f,.lst ((P.map tP).take k)):=by
  show Res.ok (O.l .f,D.lst (eV (P.map tP) none (some (k:Int))))=_;rw[fO]
 have s2:O7 (.lst (P.map tP)) (some ((k:Int)+1)) none=.ok (.l .f,.lst ((P.map tP).drop (k+1))):=by
  show Res.ok (O.l .f,D.lst (eV (P.map tP) (some ((k+1:Nat):Int)) none))=_;rw[eE]
 have a1:=mD (x:=(P.map tP).take k) (y:=[tP p]) (by rw[Z8,b9];show _+1<=_;lia);have a2:=mD (x:=(P.map tP).take k++[tP p]) (y:=(P.map tP).drop (k+1)) (by rw[eK,Z8,aai,b9];show _+1+_<=_;lia);have e:(P.map tP).take k++[tP p]++(P.map tP).drop (k+1)=(P.take k++p::P.drop (k+1)).map tP:=by
  rw[Z4,j5,acf,abX,aaa];rfl
 rw[e]at a2;unfold m__law_with lX;rw[aZ (h:=by rfl)];generalize (P.take k++p::P.drop (k+1)).map tP=R3 at a2 |-;generalize (P.map tP).take k++[tP p]=R2 at a1 a2;generalize (P.map tP).take k=R0 at s1 a1;generalize (P.map tP).drop (k+1)=R1 at s2 a2;generalize P.map tP=PS at s1 s2 |-;generalize tP p=EW at a1 |-;simp?[s1,s2,a1,a2]
def thA(a:Mi):List Th:=[.i a.1,.s a.2.1,.i a.2.2]
theorem DS(f:α->β)(l:List α)(lo hi:Option Int):eV (l.map f) lo hi=(eV l lo hi).map f:=by
 unfold eV;rw[b9,<-abX,<-acf]
theorem DT(l:List α)(a b:Nat):(eV l (some (a:Int)) (some (b:Int))).length<=b-a:=by
 unfold eV;rw[HT.k9,HT.k9,Z8];lia
section
variable{ns:List Int}
theorem GY(hl:as.length<=100)(vs:List D)(x z:Int)(m:List Nat):∃Qm,tS (as.map eA) vs (.tup [.int x,.str m,.int z]) (.bl true)=((qI as (x,m,z)).map eA,Qm):=Dx as vs (x,m,z) (.bl true)
theorem GZ(h0:nY≠[])(k:Nat)(hl:as.length<=100)(vs:List D)(t5 t6:Option R):∃(nm:List Nat) (x:Int) (Qm:List D) (u5:Option R),nm∈nY/\0<=x/\x<1+(k:Int)/\
  eD [some (.f,.lst (ns.map D.int)),some (.f,.lst (nY.map D.str)),some (.f,.int cnt),some (.d,.dct true (as.map eA) vs),some (.f,.int (1+(k:Int))),t5,t6]=.ok (.nx [some (.f,.lst (ns.map D.int)),some (.f,.lst (nY.map D.str)),some (.f,.int cnt),some (.d,.dct true ((qI as (x,nm,1+(k:Int))).map eA) Qm),some (.f,.int (1+(k:Int))),u5,t6]):=by
 have e3:(2+(1+(k:Int)))=((3+k:Nat):Int):=by lia
 have hc:=eL ns (3+k);have hp:=aaQ.mpr h0;have d1:=gU (cell ns (3+k)) (10 ^ 12) (by decide);generalize cell ns (3+k)%10 ^ 12=num at d1;obtain⟨m,hm,em⟩:=xU nY h0 (num / 60);have d2:=gU num (1+(k:Int)) (by lia);have d3:=mx num 60 (by decide) (by decide);have d4:=gU (num / 60) (nY.length:Int) (by lia);obtain⟨Qm,ep⟩:=GY hl vs (num%(1+(k:Int))) (1+(k:Int)) m;refine⟨m,num%(1+(k:Int)),Qm,some (.f,.int num),hm,aby _ (by lia),abf _ (by lia),?_⟩;have hz:as.length<sizeLine:=ZV (aaw _) (line_le (by lia));have ND:lenA [.lst (nY.map D.str)]=.ok (.f,.int (nY.length:Int)):=by
  show Res.ok (O.f,D.int (((nY.map D.str).length:Nat):Int))=_;rw[b9]
 have UB:=Dv;have hk:=GA (num%(1+(k:Int))) (1+(k:Int)) m;unfold eD;have W7:(as.map eA).length<sizeLine:=by rw[b9];exact hz
 generalize (qI as (num%(1+(k:Int)),m,1+(k:Int))).map eA=A2 at ep |-;generalize as.map eA=A1 at ep W7 |-;generalize num%(1+(k:Int))=x at d2 ep hk;generalize (10:Int) ^ 12=Zx at UB d1;generalize num / 60%(nY.length:Int)=n6 at d4 em;generalize (nY.length:Int)=NL at ND d4;generalize nY.map D.str=NN at ND em |-;simp![pv,↓reduceIte,Nat.reduceAdd,Nat.reduceLT,Nat.reduceLeDiff,Nat.reduceEqDiff,gB,e3,hc,UB,d1,d2,d3,d4,em,ND,hk,ep,aV,cQ];rw[ZY (by rw[aaE];exact aao W7)]
theorem G0(h0:nY≠[])(h1:1<=cnt)(c:Int)(hl:as.length<=100)(vs:List D)(t4 t5:Option R):∃(a:Mi) (Qm:List D) (u5:Option R),(0<=a.1/\a.1<cnt/\a.2.1∈nY/\0<=a.2.2/\a.2.2<cnt)/\
  dt [some (.f,.lst (ns.map D.int)),some (.f,.lst (nY.map D.str)),some (.f,.int cnt),some (.d,.dct true (as.map eA) vs),t4,t5,some (.f,.int c)]=.ok (.nx [some (.f,.lst (ns.map D.int)),some (.f,.lst (nY.map D.str)),some (.f,.int cnt),some (.d,.dct true ((qI as a).map eA) Qm),t4,u5,some (.f,.int c)]):=by
 have hp:=aaQ.mpr h0;have d1:=gU c (10 ^ 12) (by decide);generalize c%10 ^ 12=num at d1;obtain⟨m,hm,em⟩:=xU nY h0 (num / 60);have d2:=gU num cnt (by lia);have d3:=mx num 60 (by decide) (by decide);have d4:=gU (num / 60) (nY.length:Int) (by lia);have d5:=mx num 300 (by decide) (by decide);have d6:=gU (num / 300) cnt (by lia);obtain⟨Qm,ep⟩:=GY hl vs (num%cnt) (num / 300%cnt) m;refine⟨(num%cnt,m,num / 300%cnt),Qm,some (.f,.int num),⟨aby _ (by lia),abf _ (by lia),hm,aby _ (by lia),abf _ (by lia)⟩,?_⟩;have hz:as.length<sizeLine:=ZV (aaw _) (line_le (by lia));have ND:lenA [.lst (nY.map D.str)]=.ok (.f,.int (nY.length:Int)):=by
  show Res.ok (O.f,D.int (((nY.map D.str).length:Nat):Int))=_;rw[b9]
 have UB:=Dv;have hk:=GA (num%cnt) (num / 300%cnt) m;unfold dt;have W7:(as.map eA).length<sizeLine:=by rw[b9];exact hz
 generalize (qI as (num%cnt,m,num / 300%cnt)).map eA=A2 at ep |-;generalize as.map eA=A1 at ep W7 |-;generalize num%cnt=x at d2 ep hk;generalize num / 300%cnt=z at d6 ep hk;generalize (10:Int) ^ 12=Zx at UB d1;generalize num / 60%(nY.length:Int)=n6 at d4 em;generalize (nY.length:Int)=NL at ND d4;generalize nY.map D.str=NN at ND em |-;simp![pv,↓reduceIte,Nat.reduceAdd,Nat.reduceLT,Nat.reduceLeDiff,Nat.reduceEqDiff,UB,d1,d2,d3,d4,d5,d6,em,ND,hk,ep];rw[ZY (by rw[aaE];exact aao W7)]
end
structure Drawn(cnt:Int)(nY:LNN)(as:List Mi):Prop where
 c1:1<=cnt
 c6:cnt<=6
 a:Arcs cnt nY as
 l:as.length<=14
 ne:as≠[]
 low:∀t:Int,0<t->t<cnt->∃a∈as,a.2.2=t/\a.1<t
theorem yk:qI as a≠[]:=λe=>by
 have:a∈qI as a:=Iff.mpr jK (.inr rfl);rw[e]at this;cases this
theorem G9(ns:List Int)(nY:LNN)(h0:nY≠[]):∃cnt as,Drawn cnt nY as/\eh [.lst (ns.map D.int),.lst (nY.map D.str)]=.ok (.l .f,.lst (as.map eA)):=by
 have hc:aG [.lst (ns.map D.int),.int 2]=.ok (.f,.int (cell ns 2)):=eL ns 2;have d0:=gU (cell ns 2) 6 (by decide);have hm:=jh (cell ns 2) 6 (by decide);obtain⟨n0,W8⟩:∃n0,Mg (.lst (nY.map D.str)) (.int 0)=.ok (.f,.str n0)/\n0∈nY:=by
  cases nY with
  |nil=>exact absurd rfl h0
  |cons n r=>
   refine⟨n,?_,ZI⟩;rw[j5];simp![op,YH]
 obtain⟨n,hn⟩:=Z5 (show 0<=cell ns 2%6 by lia);rw[hn]at d0;obtain⟨env',hf,as,vs,u4,u5,hA,hL,Ox,low,rfl⟩:=for_list (a:=bj 4) (g:=eD) (e:=λ(k:Nat)=>D.int (1+(k:Int))) (List.range n) (λi env=>∃(as:List Mi) (vs:List D) (u4 u5:Option R),Arcs (1+(n:Int)) nY as/\as.length<=i+1/\as≠[]/\(∀t:Int,0<t->t<1+(i:Int)->∃a∈as,a.2.2=t/\a.1<t)/\env=[some (.f,.lst (ns.map D.int)),some (.f,.lst (nY.map D.str)),some (.f,.int (1+(n:Int))),some (.d,.dct true (as.map eA) vs),u4,u5,none]) (by
  rintro i k env hi ⟨as,vs,u4,u5,hA,hL,Ox,low,rfl⟩;obtain⟨Xx,Wh⟩:=qQ hi;rw[aal]at Xx;rw[acd]at Wh;subst Wh;obtain⟨nm,x,Qm,YO,hnm,x0,x1,e⟩:=GZ (ns:=ns) (as:=as) (cnt:=1+(n:Int)) h0 i (by lia) vs u5 none;refine⟨_,rfl,_,e,qI as (x,nm,1+(i:Int)),Qm,some (.f,.int (1+(i:Int))),YO,hA.add ⟨x0,by show x<1+(n:Int);lia,hnm,by show 0<=1+(i:Int);lia,by show 1+(i:Int)<1+(n:Int);lia⟩,by have:=uo as (x,nm,1+(i:Int));lia,yk,λt p0 p1=>?_,rfl⟩;by_cases ht:t<1+(i:Int)
  .obtain⟨a,ha,e1,e2⟩:=low t p0 ht;exact⟨a,Iff.mpr jK (.inl ha),e1,e2⟩
  .exact⟨_,Iff.mpr jK (.inr rfl),by show 1+(i:Int)=t;lia,by show x<t;lia⟩) [some (.f,.lst (ns.map D.int)),some (.f,.lst (nY.map D.str)),some (.f,.int (1+(n:Int))),some (.d,.dct true [.tup [.int 0,.str n0,.int 0]] [.bl true]),none,none,none] ⟨[(0,n0,0)],[.bl true],none,none,⟨aas.mpr ⟨aar,aa0⟩,λa ha=>by rw[iR ha];exact⟨abQ _,by show(0:Int)<1+(n:Int);lia,W8.2,abQ _,by show(0:Int)<1+(n:Int);lia⟩⟩,ZO _,(λz=>nomatch z),λt p0 p1=>by lia,rfl⟩
 rw[aal]at hL low;have Ql:=DT ns 14 22;obtain⟨env',Ta,W9,Zy,v5,v6,hA2,YM,hne2,low2,rfl⟩:=for_list (a:=bj 6) (g:=dt) (e:=D.int) (eV ns (some 14) (some 22)) (λi env=>∃(as:List Mi) (vs:List D) (u5 u6:Option R),Arcs (1+(n:Int)) nY as/\as.length<=n+1+i/\as≠[]/\(∀t:Int,0<t->t<1+(n:Int)->∃a∈as,a.2.2=t/\a.1<t)/\env=[some (.f,.lst (ns.map D.int)),some (.f,.lst (nY.map D.str)),some (.f,.int (1+(n:Int))),some (.d,.dct true (as.map eA) vs),u4,u5,u6]) (by
  rintro i c env hi ⟨as,vs,u5,u6,hA,hL,Ox,low,rfl⟩;obtain⟨Xx,Wh⟩:=qQ hi;have Ql:(eV ns (some 14) (some 22)).length<=8:=Ql;obtain⟨a,Qm,YO,ha,e⟩:=G0 (ns:=ns) (as:=as) (cnt:=1+(n:Int)) h0 (by lia) c (by lia) vs u4 u5;refine⟨_,rfl,_,e,qI as a,Qm,YO,some (.f,.int c),hA.add ha,by have:=uo as a;lia,yk,λt p0 p1=>?_,rfl⟩;obtain⟨b,hb,e1,e2⟩:=low t p0 p1;exact⟨b,Iff.mpr jK (.inl hb),e1,e2⟩) [some (.f,.lst (ns.map D.int)),some (.f,.lst (nY.map D.str)),some (.f,.int (1+(n:Int))),some (.d,.dct true (as.map eA) vs),u4,u5,none] ⟨as,vs,u5,none,hA,by lia,Ox,low,rfl⟩
 have Ql:(eV ns (some 14) (some 22)).length<=8:=Ql;refine⟨1+(n:Int),W9,⟨by lia,by lia,hA2,by lia,hne2,low2⟩,?_⟩;have hr:om (ah (aq (aA (.int 1))) (ah (ax 2) ay)) [some (.f,.lst (ns.map D.int)),some (.f,.lst (nY.map D.str)),some (.f,.int (1+(n:Int))),some (.d,.dct true [.tup [.int 0,.str n0,.int 0]] [.bl true]),none,none,none]=.ok ((List.range n).map (λ(k:Nat)=>D.int (1+(k:Int))),[some (.f,.lst (ns.map D.int)),some (.f,.lst (nY.map D.str)),some (.f,.int (1+(n:Int))),some (.d,.dct true [.tup [.int 0,.str n0,.int 0]] [.bl true]),none,none,none]):=by
  simp![pv,seval];rw[ZY (by lia),show(1+(n:Int)-1).toNat=n by lia]
 have ce:O7 (.lst (ns.map D.int)) (some 14) (some 22)=.ok (.l .f,.lst ((eV ns (some 14) (some 22)).map D.int)):=by
  show Res.ok (O.l .f,D.lst (eV (ns.map D.int) (some 14) (some 22)))=_;rw[DS]
 have Zz:zL [.dct true (W9.map eA) Zy]=.ok (.l .f,.lst (W9.map eA)):=rfl;unfold eh lV iO;rw[aZ (h:=by rfl)];obtain⟨W8,_⟩:=W8;have hk0:iY true (.tup [.int 0,.str n0,.int 0])=true:=rfl;rw[aP (env':=[some (.f,.lst (ns.map D.int)),some (.f,.lst (nY.map D.str)),some (.f,.int (1+(n:Int))),none,none,none,none]) (by simp![pv,seval,gB,hc,d0,aV,cQ])];rw[aP (env':=[some (.f,.lst (ns.map D.int)),some (.f,.lst (nY.map D.str)),some (.f,.int (1+(n:Int))),some (.d,.dct true [.tup [.int 0,.str n0,.int 0]] [.bl true]),none,none,none]) (by
  generalize nY.map D.str=NN at W8 |-;unfold w6;simp![pv,seval,W8] <;> rfl)]
 rw[aP (env':=[some (.f,.lst (ns.map D.int)),some (.f,.lst (nY.map D.str)),some (.f,.int (1+(n:Int))),some (.d,.dct true (as.map eA) vs),u4,u5,none]) (by
  unfold jC;rw[QH,hr,OJ];exact hf)]
 rw[aP (env':=[some (.f,.lst (ns.map D.int)),some (.f,.lst (nY.map D.str)),some (.f,.int (1+(n:Int))),some (.d,.dct true (W9.map eA) Zy),u4,v5,v6]) (by
  unfold jB;generalize dt=BB at Ta |-;generalize (eV ns (some 14) (some 22)).map D.int=CC at ce Ta;generalize ns.map D.int=NS at ce Ta |-;simp![pv,seval,ce];exact Ta)]
 unfold iN;generalize W9.map eA=A2 at Zz |-;simp![pv,seval,Zz] <;> rfl
def bc(num:Int)(k:Nat):Nat:=97+((num / ((k:Int)+1)+3*(k:Int)*(k:Int))%26).toNat
theorem Ha(num:Int)(k:Nat):fU (bc num k)=true:=by
 obtain⟨h1,h2⟩:=zX (num / ((k:Int)+1)+3*(k:Int)*(k:Int));exact Bs _ h1 h2
theorem Hb(num:Int)(k:Nat)(hk:k<8)(b:List Nat)(hb:b.length=k)(a0 a1 a2:Option R):cW [a0,a1,a2,some (.f,.str O5),some (.f,.int num),some (.f,.str b),some (.f,.int (k:Int)),none,none,none,none]=.ok (.nx [a0,a1,a2,some (.f,.str O5),some (.f,.int num),some (.f,.str (b++[bc num k])),some (.f,.int (k:Int)),none,none,none,none]):=by
 obtain⟨h1,h2⟩:=zX (num / ((k:Int)+1)+3*(k:Int)*(k:Int));have hs:(fI 3||fI (k:Int))=true:=by rw[qF k (by lia),ac0]
 have Q4:(fI (3*(k:Int))||fI (k:Int))=true:=by rw[qF k (by lia),ac0]
 have hd:0<(k:Int)+1/\(k:Int)+1<1073741824:=by lia
 have hz:b.length+1<=sizeLine:=line_le (by lia);unfold cW bc;simp?[xG,Dn,xI,Bo,hs,Q4,hd,Int.reduceLT,and_self,Br _ h1 h2,hz]
theorem Hc(b:List Nat)(t j k:Nat)(ht:t<b.length)(h8:b.length<=8)(a0 a1 a2 a4 t10:Option R)(l:LNN)(hl:l.length<=100):
  dR [a0,a1,a2,some (.f,.str O5),a4,some (.f,.str b),some (.f,.int (k:Int)),some (.f,.int (t:Int)),some (.f,.int (j:Int)),some (.l .f,.lst (l.map D.str)),t10]
  = .ok (.nx [a0,a1,a2,some (.f,.str O5),a4,some (.f,.str b),some (.f,.int (k:Int)),some (.f,.int (t:Int)),some (.f,.int (j:Int)),some (.l .f,.lst ((l++[fix (swap b t j k)]).map D.str)),some (.f,.str (swap b t j k))]):=by
 obtain⟨m1,m2⟩:=zX ((j:Int)+(k:Int));have VW:=jJ b t j k ht;have z1:(b.take t).length+1<=sizeLine:=line_le (by rw[Z8];lia);have z2:(b.take t++[97+(((j:Int)+(k:Int))%26).toNat]).length+(b.drop (t+1)).length<=sizeLine:=line_le (by rw[<-eK];show(swap b t j k).length<=_;lia);have z3:(l.map D.str).length<sizeLine:=ZV (aaw _) (line_le (by rw[b9];lia));have c1:eV b (some ((t:Int)+1)) none=b.drop (t+1):=eE b (t+1);have hs:b.take t++[97+(((j:Int)+(k:Int))%26).toNat]++b.drop (t+1)=swap b t j k:=rfl;unfold dR;simp?[xG,gU _ 26 (by decide),fO,c1,Br _ m1 m2,z1,z2,hs,Gv,z3,Z4]
theorem DU(Qt NY:Int):∃f:Nat->List Nat,(∀k,bD (f k)=true)/\(∀i j,i<26->j<26->f i=f j->i=j)/\∀cnt:Nat,cnt<=26->cH [.int Qt,.int NY,.int (cnt:Int)]=.ok (.l .f,.lst (((List.range cnt).map f).map D.str)):=by
 have ZA:=JD;have YQ:=gU Qt (10 ^ 20) (by decide);generalize Qt%10 ^ 20=num at YQ;have m8:=gU num 8 (by decide);have hm8:0<=num%8/\num%8<8:=⟨aby _ (by decide),abf _ (by decide)⟩
 obtain⟨n,hn⟩:=Z5 (show 0<=1+num%8 by lia);have hn8:1<=n/\n<=8:=by lia
 have hbl:((List.range n).map (bc num)).length=n:=by rw[b9,aal]
 have Xa:((List.range n).map (bc num)).all fU=true:=by
  rw[aad];intro c hc;obtain⟨k,_,rfl⟩:=mF hc;exact Ha num k
 have UC:∀cnt:Int,∃t6,oX (bj 6) cW ((List.range n).map λ(k:Nat)=>D.int (k:Int)) [some (.f,.int Qt),some (.f,.int NY),some (.f,.int cnt),some (.f,.str O5),some (.f,.int num),some (.f,.str []),none,none,none,none,none]=.ok (.nx [some (.f,.int Qt),some (.f,.int NY),some (.f,.int cnt),some (.f,.str O5),some (.f,.int num),some (.f,.str ((List.range n).map (bc num))),t6,none,none,none,none]):=λcnt=>by
  obtain⟨env',hf,t6,rfl⟩:=for_list (a:=bj 6) (g:=cW) (e:=λ(k:Nat)=>D.int (k:Int)) (List.range n) (λk env=>∃t6,env=[some (.f,.int Qt),some (.f,.int NY),some (.f,.int cnt),some (.f,.str O5),some (.f,.int num),some (.f,.str ((List.range k).map (bc num))),t6,none,none,none,none]) (by
   rintro k x env hx ⟨t6,rfl⟩;obtain⟨hk,ex⟩:=qQ hx;rw[aal]at hk;rw[acd]at ex;subst ex;refine⟨_,rfl,_,Hb num k (by lia) ((List.range k).map (bc num)) (by rw[b9,aal]) _ _ _,some (.f,.int (k:Int)),?_⟩;rw[adI,Z4];rfl) _ ⟨none,rfl⟩
  rw[aal]at hf;exact⟨t6,hf⟩
 generalize (List.range n).map (bc num)=b at hbl Xa UC;have hm:0<=NY%(b.length:Int)/\NY%(b.length:Int)<(b.length:Int):=⟨aby _ (by lia),abf _ (by lia)⟩
 have mw:=gU NY (b.length:Int) (by lia);obtain⟨t,et⟩:=Z5 hm.1;rw[et]at mw hm;have ht:t<b.length:=by lia
 have ea:Ow b (t:Int)=some b[t]:=dw (ug ht);have hc:fU b[t]=true:=aad.mp Xa _ (aam ht);have OD:=Gw _ hc;generalize hj:b[t]-97=j at OD;refine⟨λk=>fix (swap b t j k),λk=>?_,λi k hi hk e=>?_,λcnt Vz=>?_⟩
 .refine zY (by rw[jJ _ _ _ _ ht];lia) (by rw[jJ _ _ _ _ ht];lia) ?_;obtain⟨m1,m2⟩:=zX ((j:Int)+(k:Int));rw[aad]at Xa |-;intro c hc;unfold swap at hc;rw[aag,aag]at hc;rcases hc with(hc|hc)|hc
  .exact Xa c (aaU hc)
  .rw[aan]at hc;subst hc;exact Bs _ m1 m2
  .exact Xa c (abg hc)
 .have e2:=Dw (by rw[jJ _ _ _ _ ht,jJ _ _ _ _ ht]) e;unfold swap at e2;rw[aaa,aaa]at e2;have e3:=List.append_cancel_left e2;rw[abo,abo]at e3;injection e3 with e4 _;lia
 .obtain⟨t6,Ta⟩:=UC (cnt:Int);obtain⟨env',Xb,u6,XS,rfl⟩:=for_list (a:=bj 6) (g:=dR) (e:=λ(k:Nat)=>D.int (k:Int)) (List.range cnt) (λk env=>∃u6 XS,env=[some (.f,.int Qt),some (.f,.int NY),some (.f,.int (cnt:Int)),some (.f,.str O5),some (.f,.int num),some (.f,.str b),u6,some (.f,.int (t:Int)),some (.f,.int (j:Int)),some (.l .f,.lst (((List.range k).map λk=>fix (swap b t j k)).map D.str)),XS]) (by
   rintro k x env hx ⟨u6,XS,rfl⟩;obtain⟨hk,ex⟩:=qQ hx;rw[aal]at hk;rw[acd]at ex;subst ex;refine⟨_,rfl,_,Hc b t j k ht (by lia) _ _ _ _ _ _ (by rw[b9,aal];lia),some (.f,.int (k:Int)),some (.f,.str (swap b t j k)),?_⟩;rw[adI,Z4 (l₁:=List.range k)];rfl) [some (.f,.int Qt),some (.f,.int NY),some (.f,.int (cnt:Int)),some (.f,.str O5),some (.f,.int num),some (.f,.str b),t6,some (.f,.int (t:Int)),some (.f,.int (j:Int)),some (.l .f,.lst []),none] ⟨t6,none,rfl⟩
  rw[aal]at Xb;have Xz:=qG (n:Int) (by lia) (by lia) (aq (aF addD (aq (aA (.int 1))) (aq (aF dm (ax 4) (aq (aA (.int 8))))))) [some (.f,.int Qt),some (.f,.int NY),some (.f,.int (cnt:Int)),some (.f,.str O5),some (.f,.int num),some (.f,.str []),none,none,none,none,none] [some (.f,.int Qt),some (.f,.int NY),some (.f,.int (cnt:Int)),some (.f,.str O5),some (.f,.int num),some (.f,.str []),none,none,none,none,none] (.val (.int (n:Int))) (by simp![pv,↓reduceIte,Nat.reduceAdd,Nat.reduceLT,Nat.reduceLeDiff,Nat.reduceEqDiff,op,m8,hn]) rfl;have ZC:=qG (cnt:Int) (by lia) (by lia) (ax 2) [some (.f,.int Qt),some (.f,.int NY),some (.f,.int (cnt:Int)),some (.f,.str O5),some (.f,.int num),some (.f,.str b),t6,some (.f,.int (t:Int)),some (.f,.int (j:Int)),some (.l .f,.lst []),none] [some (.f,.int Qt),some (.f,.int NY),some (.f,.int (cnt:Int)),some (.f,.str O5),some (.f,.int num),some (.f,.str b),t6,some (.f,.int (t:Int)),some (.f,.int (j:Int)),some (.l .f,.lst []),none] (.var 2) rfl rfl;rw[abj]at ZC Xz;have ND:lenA [.str b]=.ok (.f,.int (b.length:Int)):=rfl;have NP:Mg (.str b) (.int (t:Int))=.ok (.f,.str [b[t]]):=by simp![op,ea]
  unfold cH ku hV;rw[aZ (h:=by rfl)];rw[show([97,98,99,100,101,102,103,104,105,106,107,108,109,110,111,112,113,114,115,116,117,118,119,120,121,122]:List Nat)=O5 from rfl];generalize (10:Int) ^ 20=P20 at ZA YQ;rw[aP (env':=[some (.f,.int Qt),some (.f,.int NY),some (.f,.int (cnt:Int)),some (.f,.str O5),none,none,none,none,none,none,none]) (by simp![pv,↓reduceIte,Nat.reduceAdd,Nat.reduceLT,Nat.reduceLeDiff,Nat.reduceEqDiff,op])];rw[aP (env':=[some (.f,.int Qt),some (.f,.int NY),some (.f,.int (cnt:Int)),some (.f,.str O5),some (.f,.int num),none,none,none,none,none,none]) (by simp![pv,↓reduceIte,Nat.reduceAdd,Nat.reduceLT,Nat.reduceLeDiff,Nat.reduceEqDiff,op,ZA,YQ])];rw[aP (env':=[some (.f,.int Qt),some (.f,.int NY),some (.f,.int (cnt:Int)),some (.f,.str O5),some (.f,.int num),some (.f,.str []),none,none,none,none,none]) (by simp![pv,↓reduceIte,Nat.reduceAdd,Nat.reduceLT,Nat.reduceLeDiff,Nat.reduceEqDiff,op])];rw[aP (env':=[some (.f,.int Qt),some (.f,.int NY),some (.f,.int (cnt:Int)),some (.f,.str O5),some (.f,.int num),some (.f,.str b),t6,none,none,none,none]) (by
   unfold iM;rw[QH,Xz,OJ];exact Ta)]
  rw[aP (env':=[some (.f,.int Qt),some (.f,.int NY),some (.f,.int (cnt:Int)),some (.f,.str O5),some (.f,.int num),some (.f,.str b),t6,some (.f,.int (t:Int)),none,none,none]) (by simp![pv,↓reduceIte,Nat.reduceAdd,Nat.reduceLT,Nat.reduceLeDiff,Nat.reduceEqDiff,op,ND,mw])];rw[aP (env':=[some (.f,.int Qt),some (.f,.int NY),some (.f,.int (cnt:Int)),some (.f,.str O5),some (.f,.int num),some (.f,.str b),t6,some (.f,.int (t:Int)),some (.f,.int (j:Int)),none,none]) (by simp![pv,↓reduceIte,Nat.reduceAdd,Nat.reduceLT,Nat.reduceLeDiff,Nat.reduceEqDiff,op,NP,ea,OD])];rw[aP (env':=[some (.f,.int Qt),some (.f,.int NY),some (.f,.int (cnt:Int)),some (.f,.str O5),some (.f,.int num),some (.f,.str b),t6,some (.f,.int (t:Int)),some (.f,.int (j:Int)),some (.l .f,.lst []),none]) (by simp![pv,↓reduceIte,Nat.reduceAdd,Nat.reduceLT,Nat.reduceLeDiff,Nat.reduceEqDiff,op])];rw[aP (env':=[some (.f,.int Qt),some (.f,.int NY),some (.f,.int (cnt:Int)),some (.f,.str O5),some (.f,.int num),some (.f,.str b),u6,some (.f,.int (t:Int)),some (.f,.int (j:Int)),some (.l .f,.lst (((List.range cnt).map λk=>fix (swap b t j k)).map D.str)),XS]) (by
   unfold iL;rw[QH,ZC,OJ];exact Xb)]
  unfold hU;simp![pv,↓reduceIte,Nat.reduceAdd,Nat.reduceLT,Nat.reduceLeDiff,Nat.reduceEqDiff] <;> rfl
def DV:Nat->List FS->FS->FS
 |_,[],t=>t
 |n,b::r,t=>sSeq (M4 (Mw (bu Nr (ax 2) (aq (aA (.int (n:Int)))))) b br) (DV (n+1) r t)
variable{way:Nat}
section
variable{a0 a1 a3 a4 a5 a6 a7 a8 b0 b1 b3 b4 b5 b6 b7 b8:Option R}{t:FS}
theorem He(h:way≠n)(b:FS):M4 (Mw (bu Nr (ax 2) (aq (aA (.int (n:Int)))))) b br [a0,a1,some (.f,.int (way:Int)),a3,a4,a5,a6,a7,a8]=.ok (.nx [a0,a1,some (.f,.int (way:Int)),a3,a4,a5,a6,a7,a8]):=by
 have q:(((way:Nat):Int)==(n:Int))=false:=aaj.mpr (by lia);simp?[q,fM]
theorem Hf(b:FS):M4 (Mw (bu Nr (ax 2) (aq (aA (.int (way:Int)))))) b br [a0,a1,some (.f,.int (way:Int)),a3,a4,a5,a6,a7,a8]=b [a0,a1,some (.f,.int (way:Int)),a3,a4,a5,a6,a7,a8]:=by
 have q:(((way:Nat):Int)==(way:Int))=true:=aaS _;simp?[q]
theorem uC:∀(r:List FS) (n:Nat),way<n->DV n r t [a0,a1,some (.f,.int (way:Int)),a3,a4,a5,a6,a7,a8]=t [a0,a1,some (.f,.int (way:Int)),a3,a4,a5,a6,a7,a8]
 |[],_,_=>rfl
 |b::r,n,h=>by
  rw[DV,aP (He (by lia) b)];exact uC r (n+1) (by lia)
theorem ym{b:FS}(hb:b [a0,a1,some (.f,.int (way:Int)),a3,a4,a5,a6,a7,a8]=.ok (.nx [b0,b1,some (.f,.int (way:Int)),b3,b4,b5,b6,b7,b8])):∀(r:List FS) (n j:Nat),r[j]?=some b->way=n+j->DV n r t [a0,a1,some (.f,.int (way:Int)),a3,a4,a5,a6,a7,a8]=t [b0,b1,some (.f,.int (way:Int)),b3,b4,b5,b6,b7,b8]
 |c::r,n,0,h,e=>by
  cases h;have e:way=n:=e;subst e;rw[DV,aP ((Hf b).trans hb)];exact uC r _ (aaw _)
 |c::r,n,j+1,h,e=>by
  rw[DV,aP (He (by lia) c)];exact ym hb r (n+1) j h (by lia)
end
def FF:List FS:=[g__law_form_fault_w0,g__law_form_fault_w1,g__law_form_fault_w2,g__law_form_fault_w3,g__law_form_fault_w4,g__law_form_fault_w5,g__law_form_fault_w6,g__law_form_fault_w7,g__law_form_fault_w8,g__law_form_fault_w9,g__law_form_fault_w10,g__law_form_fault_w11]
theorem JN:gw=sSeq (cy 5 (aF Mg (ax 1) (ax 3))) (DV 0 FF (eI (bZ bV (ah (ax 0) (ah (ax 1) ay))))):=rfl
variable{p:List Th}
theorem DW{k:Nat}(h:P[k]?=some p):Mg (.lst (P.map tP)) (.int (k:Int))=.ok (.f,tP p):=by
 have:Ow (P.map tP) (k:Int)=some (tP p):=dw (by rw[Z9,h];rfl);simp![op,this]
variable{P1:List (List Th)}{b:FS}
theorem Hg{h1:LNN}{k:Nat}{num:Int}(hp:P[k]?=some p)(hb:FF[way]?=some b){o0 o1:O}{b3 b4 b5 b6 b7 b8:Option R}(hg:b [some (.f,eW h),some (.f,.lst (P.map tP)),some (.f,.int (way:Int)),some (.f,.int (k:Int)),some (.f,.int num),some (.f,tP p),none,none,none]=.ok (.nx [some (o0,eW h1),some (o1,.lst (P1.map tP)),some (.f,.int (way:Int)),b3,b4,b5,b6,b7,b8]))(ho:∀l∈P1,∀t∈l,su t)(hl:P1.length<=500)(hs:tw (h1::P1.map wP)<=40000):m__law_form_fault [eW h,.lst (P.map tP),.int (way:Int),.int (k:Int),.int num]=.ok (.f,.str (tx h1 (P1.map wP))):=by
 have hx:=oV ho hl hs;have NP:=DW hp;unfold m__law_form_fault;rw[JN,aZ (h:=by rfl)];rw[aP (env':=[some (.f,eW h),some (.f,.lst (P.map tP)),some (.f,.int (way:Int)),some (.f,.int (k:Int)),some (.f,.int num),some (.f,tP p),none,none,none]) (by
  generalize eW h=EH;generalize tP p=EP at NP |-;generalize P.map tP=PP at NP |-;simp?[NP])]
 rw[ym hg FF 0 way hb (by lia)];generalize eW h1=EH at hx |-;generalize P1.map tP=PP at hx |-;simp?[hx,aV,cR]
theorem mM(e:α->D)(l:List α)(num m:Int)(hm:(l.length:Int)=m)(h0:0<m):∃x∈l,Mg (.lst (l.map e)) (.int (num%m))=.ok (.f,e x):=by
 have hb:=jh num m h0;obtain⟨j,hj⟩:=Z5 hb.1;have hl:j<l.length:=by lia
 refine⟨l[j],aam hl,?_⟩;have:Ow (l.map e) (j:Int)=some (e l[j]):=dw (by rw[Z9,ug hl];rfl);rw[hj];simp![op,this]
theorem JO{c:Nat}(h:kd c<2):c<=122:=by
 unfold kd at h;split at h
 .rename_i h1;unfold fU at h1;simp at h1;lia
 .split at h
  .rename_i h1;unfold jg at h1;simp at h1;lia
  .split at h
   .lia
   .split at h <;> lia
theorem Wq.rp{w:List Nat}(h:Wq w):(rp w).length<=1000:=by
 have h1:=Bn w λc hc=>by
  have:=JO (c:=c) (by rw[h.c.all c hc];exact h.b);exact acY this (by decide)
 have:=h.l;lia
theorem Wq.let(h0:w≠[])(h:w.all fU=true)(hl:w.length<=60):Wq w:=.of (k:=0) ⟨h0,by decide,λx hx=>Bt (aad.mp h x hx),(λz=>nomatch z),(λz=>nomatch z)⟩ (by decide) hl
theorem Wq.dig(h:n<10):Wq [48+n]:=by
 have:=Wq.num (i:=(n:Int)) ⟨by lia,by lia⟩;rw[qJ h]at this;exact this
theorem HJ(hw:Wq w)(h:bD w=false):cU [.str w]=true:=GO h (by have:=hw.l;lia) hw.rp
theorem JP{c:Nat}(hw:Wq (c::r))(h:jg c=false):cT [.str (c::r)]=true:=zZ h hw.rp
structure Fm(ns:LNN)(as:List Mi):Prop where
 n:∀n∈ns,bD n=true
 l5:ns.length<=5
 la:as.length<=20
 ag:∀a∈as,Ag a
variable{p':List Th}
section
theorem Fm.hw(F:Fm ns as):∀w∈LX::ns,Wq w:=λw hw=>(ZJ.mp hw).elim (λe=>by rw[e];exact moves_wq) λh=>.name (F.n w h)
theorem Ag.wq(g:Ag a):∀w∈aW a,Wq w:=λw hw=>by
 rcases ZJ.mp hw with rfl|hw
 .exact .num g.f
 .rcases ZJ.mp hw with rfl|hw
  .exact .name g.n
  .rw[iR hw];exact .num g.s
theorem Ag.ok(g:Ag a):∀t∈thA a,su t:=λt ht=>by
 rcases ZJ.mp ht with rfl|ht
 .exact g.f
 .rcases ZJ.mp ht with rfl|ht
  .trivial
  .rw[iR ht];exact g.s
theorem Fm.pw(F:Fm ns as)(h:p∈as.map thA):(∀w∈wP p,Wq w)/\(wP p).length<=10/\∀t∈p,su t:=by
 obtain⟨a,ha,rfl⟩:=mF h;exact⟨(F.ag a ha).wq,by show 3<=10;decide,(F.ag a ha).ok⟩
structure Rf(h:LNN)(PS:List (List Th)):Prop where
 ok:∀l∈PS,∀t∈l,su t
 len:PS.length<=500
 tw:LW.tw (h::PS.map wP)<=40000
 x:x_read_chart [.str (tx h (PS.map wP))]=true
theorem yn{PS:List (List Th)}(hh:h.length<=10)(hw:∀w∈h,w.length<=60)(hp:∀p∈PS,(∀w∈wP p,Wq w)/\(wP p).length<=10/\∀t∈p,su t)(hl:PS.length<=61):LW.tw (h::PS.map wP)<=40000:=by
 have:=GU (n:=10) (l:=h::PS.map wP) λp VA=>by
  rcases ZJ.mp VA with rfl|VA
  .exact⟨hh,hw⟩
  .obtain⟨q,hq,rfl⟩:=mF VA;exact⟨(hp q hq).2.1,λw hw=>((hp q hq).1 w hw).l⟩
 rw[ZR,b9]at this;lia
theorem Ai{PS:List (List Th)}(hp:∀p∈PS,(∀w∈wP p,Wq w)/\(wP p).length<=10/\∀t∈p,su t):∀p∈PS.map wP,∀w∈p,Wq w:=λp VA=>by
 obtain⟨q,hq,rfl⟩:=mF VA;exact(hp q hq).1
theorem sv(F:Fm ns as){PS:List (List Th)}(hx:dv [eW (wP p')]=true)(hw:∀w∈wP p',Wq w)(Nu:(wP p').length<=10)(hok:∀t∈p',su t)(hm:∀p∈PS,p∈as.map thA\/p=p')(hin:p'∈PS)(hl:PS.length<=60):Rf (LX::ns) PS:=by
 have Rj:∀p∈PS,(∀w∈wP p,Wq w)/\(wP p).length<=10/\∀t∈p,su t:=λp hp=>by
  rcases hm p hp with h|rfl
  .exact F.pw h
  .exact⟨hw,Nu,hok⟩
 have hs:=yn (h:=LX::ns) (by rw[ZR];have:=F.l5;lia) (λw hw=>(F.hw w hw).l) Rj (by lia);refine⟨λl hl=>(Rj l hl).2.2,by lia,hs,Ad (Ah (.ws F.hw) (Ai Rj) hs) F.l5 F.n (by rw[b9];lia) (λp hp=>?_) ⟨_,aaO.mpr ⟨p',hin,rfl⟩,hx⟩⟩;obtain⟨q,hq,rfl⟩:=mF hp;rcases hm q hq with h|rfl
 .obtain⟨a,ha,rfl⟩:=mF h;exact .inl ⟨_,uy (F.ag a ha)⟩
 .exact .inr hx
theorem ie(F:Fm ns as){PS:List (List Th)}(hh:Hd h h')(hx:de [eW h']=true)(W4:h.length<=10)(hw:∀w∈h,w.length<=60)(hm:∀p∈PS,p∈as.map thA)(hl:PS.length<=60):Rf h PS:=by
 have Rj:=λp hp=>F.pw (hm p hp)
 have hs:=yn (h:=h) W4 hw Rj (by lia);exact⟨λl hl=>(Rj l hl).2.2,by lia,hs,Ab (Ah hh (Ai Rj) hs) hx⟩
theorem vn(F:Fm ns as){c:Nat}{r:LNN}{PS:List (List Th)}(h4:kd c=4)(hr:(rp [c]).length<=1000)(W4:r.length<=9)(hw:∀v∈(c::w)::r,v.length<=60)(hm:∀p∈PS,p∈as.map thA)(hl:PS.length<=60):Rf ((c::w)::r) PS:=by
 have Rj:=λp hp=>F.pw (hm p hp)
 have hs:=yn (h:=(c::w)::r) (by rw[ZR];lia) hw Rj (by lia);refine⟨λl hl=>(Rj l hl).2.2,by lia,hs,Aa (DK (x6 (m:=1) (Lf (c:=c) ?_ h4 hr) (by decide)))⟩;unfold tx;rw[sk,yg];rfl
end
def FFok(ns:LNN)(as:List Mi)(way k:Nat)(num:Int):Prop:=∃T,m__law_form_fault [eW (LX::ns),.lst ((as.map thA).map tP),.int (way:Int),.int (k:Int),.int num]=.ok (.f,.str T)/\x_read_chart [.str T]=true
theorem Aj{k:Nat}(h:p∈P.take k++p'::P.drop (k+1)):p∈P\/p=p':=by
 rcases mn h with h|h
 .exact .inl (aaU h)
 .rcases ZJ.mp h with rfl|h
  .exact .inr rfl
  .exact .inl (abg h)
theorem Ak(P:List (List Th))(k:Nat)(p':List Th):(P.take k++p'::P.drop (k+1)).length<=P.length+1:=by
 rw[eK,ZR,Z8,aai];lia
section
variable{k:Nat}{num:Int}
def Gx(ns:LNN)(as:List Mi)(way k:Nat)(num:Int)(p:List Th)(b:FS)(h1:LNN)(P1:List (List Th)):Prop:=∃o0 o1 b3 b4 b5 b6 b7 b8,b [some (.f,eW (LX::ns)),some (.f,.lst ((as.map thA).map tP)),some (.f,.int (way:Int)),some (.f,.int (k:Int)),some (.f,.int num),some (.f,tP p),none,none,none]=.ok (.nx [some (o0,eW h1),some (o1,.lst (P1.map tP)),some (.f,.int (way:Int)),b3,b4,b5,b6,b7,b8])
theorem Lh(hk:k<as.length):(as.map thA)[k]?=some (thA as[k]):=by rw[Z9,ug hk];rfl
theorem iS(hk:k<as.length)(hb:FF[way]?=some b){h1:LNN}(hg:Gx ns as way k num (thA as[k]) b h1 P1)(hx:Rf h1 P1):FFok ns as way k num:=by
 obtain⟨o0,o1,b3,b4,b5,b6,b7,b8,e⟩:=hg;exact⟨_,Hg (Lh hk) hb e hx.ok hx.len hx.tw,hx.x⟩
theorem ji(F:Fm ns as)(hk:k<as.length)(hb:FF[way]?=some b)(hg:Gx ns as way k num (thA as[k]) b (LX::ns) ((as.map thA).take k++p'::(as.map thA).drop (k+1)))(hx:dv [eW (wP p')]=true)(hw:∀w∈wP p',Wq w)(Nu:(wP p').length<=10)(hok:∀t∈p',su t):FFok ns as way k num:=by
 have hlen:=Ak (as.map thA) k p';have h8:=F.la;rw[b9]at hlen;exact iS hk hb hg (sv F hx hw Nu hok (λp hp=>Aj hp) (ZK _ ZI) (by lia))
def fz(m:Option D):Option R:=m.map λd=>(.f,d)
theorem Kh(d:D):fz (some d)=some (.f,d):=rfl
theorem Ki:fz none=none:=rfl
theorem By(m:Option D):frz (fz m)=fz m:=by cases m <;> rfl
theorem oW(hl:P.length<=1000)(p':List Th){f:FO}{m6 m7:Option D}{z8:Option R}(h8:frz z8=z8)(hf:f [some (.f,eW h),some (.f,.lst (P.map tP)),some (.f,.int (way:Int)),some (.f,.int (k:Int)),some (.f,.int num),some (.f,tP p),fz m6,fz m7,z8]=.ok (.val (tP p'),[some (.f,eW h),some (.f,.lst (P.map tP)),some (.f,.int (way:Int)),some (.f,.int (k:Int)),some (.f,.int num),some (.f,tP p),fz m6,fz m7,z8])):cy 1 (bZ m__law_with (ah (ax 1) (ah (ax 3) (ah f ay)))) [some (.f,eW h),some (.f,.lst (P.map tP)),some (.f,.int (way:Int)),some (.f,.int (k:Int)),some (.f,.int num),some (.f,tP p),fz m6,fz m7,z8]=.ok (.nx [some (.f,eW h),some (.l .f,.lst ((P.take k++p'::P.drop (k+1)).map tP)),some (.f,.int (way:Int)),some (.f,.int (k:Int)),some (.f,.int num),some (.f,tP p),fz m6,fz m7,z8]):=by
 have hw:=p_with hl k p';have f6:=By m6;have f7:=By m7;generalize (P.take k++p'::P.drop (k+1)).map tP=R1 at hw |-;generalize P.map tP=PP at hw hf |-;generalize eW h=EH at hf |-;generalize tP p=EP at hf |-;generalize tP p'=EQ at hf hw;generalize fz m6=z6 at hf f6 |-;generalize fz m7=z7 at hf f7 |-;cases hc:cO (.l .f) (.lst R1) <;> simp?[hf,hw,hc,j5,ab5,frzS,f6,f7,h8,fM]
end
theorem len_eW(p:LNN):lenA [eW p]=.ok (.f,.int (p.length:Int)):=by
 unfold eW;show Res.ok (O.f,D.int (((p.map D.str).length:Nat):Int))=_;rw[b9]
theorem DX(p:LNN)(j:Nat):O7 (eW p) (some (j:Int)) none=.ok (.l .f,eW (p.drop j)):=by
 show Res.ok (O.l .f,D.lst (eV (p.map D.str) (some (j:Int)) none))=_;rw[eE,<-abX];rfl
theorem nJ{p q:LNN}(h:p.length+q.length<=1000):addD (eW p) (eW q)=.ok (.l .f,eW (p++q)):=by
 unfold eW;rw[mD (by rw[b9,b9];lia),Z4]
theorem Kj:yx (.str [97]) (.int 9)=.ok (.f,.str [97,97,97,97,97,97,97,97,97]):=by
 rw[Dp,ZY (by decide)];rfl
theorem Kk:Wq [97]:=.let (by decide) (by decide) (by decide)
theorem Kl:Wq [98]:=.let (by decide) (by decide) (by decide)
theorem JQ:Wq [55]:=.dig (n:=7) (by decide)
theorem Hh:Wq [97,97,97,97,97,97,97,97,97]:=.let (by decide) (by decide) (by decide)
theorem JR:Wq [122,122,122,122,122,122,122,122,122]:=.let (by decide) (by decide) (by decide)
theorem JS:Wq [97,98,99,100,101,102,103,104,105]:=.let (by decide) (by decide) (by decide)
theorem DY(t:Th):fe (Su t)=true:=by cases t <;> rfl
theorem DZ(l:List Th):fe (tP l)=true:=by
 unfold tP;rw[zU];exact oR DY
theorem Al(P:List (List Th)):cO (.l .f) (.lst (P.map tP))=true:=by
 rw[fL];exact oR DZ
theorem Hi(ds:List D)(lo hi:Option Int):O7 (.tup ds) lo hi=.ok (.f,.tup (eV ds lo hi)):=by
 unfold O7 UZ;dsimp only;split
 .rename_i h;unfold eV;rw[h.1,h.2,ac4,aeu,ab1]
 .rfl
theorem Bz(p:List Th)(j:Nat):O7 (tP p) none (some (j:Int))=.ok (.f,tP (p.take j)):=by
 unfold tP;rw[Hi,fO,<-acf]
theorem uD(p:List Th)(j:Nat):O7 (tP p) (some (j:Int)) none=.ok (.f,tP (p.drop j)):=by
 unfold tP;rw[Hi,eE,<-abX]
theorem yo{q:List Th}(h:p.length+q.length<=1000):addT (tP p) (tP q)=.ok (.f,tP (p++q)):=by
 unfold tP;cases p with
 |nil=>rfl
 |cons a r=>
  rw[Z4,j5];show addD (.tup (Su a::r.map Su)) (.tup (q.map Su))=_;unfold addD;dsimp only;rw[ZY ⟨nofun,line_le (by rw[ZR,b9,b9];rw[ZR]at h;lia)⟩]
section
variable{k:Nat}{num:Int}
theorem Li(h8:as.length<=20)(hl:p.length<=100):∃j,j<3/\Gx ns as way k num p g__law_form_fault_w0 (LX::ns) ((as.map thA).take k++(p.take j++p.drop (j+1))::(as.map thA).drop (k+1)):=by
 have hm:=gU num 3 (by decide);have hb:=jh num 3 (by decide);obtain⟨j,hj⟩:=Z5 hb.1;rw[hj]at hm hb;have s1:=Bz p j;have s2:=uD p (j+1);rw[show((j+1:Nat):Int)=(j:Int)+1 by lia]at s2;have a1:=yo (p:=p.take j) (q:=p.drop (j+1)) (by rw[Z8,aai];lia);refine⟨j,by lia,.f,.l .f,some (.f,.int (k:Int)),some (.f,.int num),some (.f,tP p),some (.f,.int (j:Int)),none,none,?_⟩;unfold g__law_form_fault_w0;rw[aP (env':=[some (.f,eW (LX::ns)),some (.f,.lst ((as.map thA).map tP)),some (.f,.int (way:Int)),some (.f,.int (k:Int)),some (.f,.int num),some (.f,tP p),some (.f,.int (j:Int)),none,none]) (by
  generalize eW (LX::ns)=EH;generalize (as.map thA).map tP=EQ;generalize tP p=EP;simp![pv,seval,hm])]
 refine oW (P:=as.map thA) (by rw[b9];lia) (p.take j++p.drop (j+1)) (m6:=some (.int (j:Int))) (m7:=none) HG ?_;simp![Ki,Kh];generalize eW (LX::ns)=EH;generalize (as.map thA).map tP=EQ;generalize tP (p.take j++p.drop (j+1))=R3 at a1 |-;generalize tP (p.take j)=R1 at s1 a1;generalize tP (p.drop (j+1))=R2 at s2 a1;generalize tP p=EP at s1 s2 |-;simp![pv,seval,gB,s1,s2,a1]
theorem Lj(F:Fm ns as)(hk:k<as.length):FFok ns as 0 k num:=by
 have g:=F.ag _ (aam hk);obtain⟨j,hj,hg⟩:=Li (ns:=ns) (as:=as) (way:=0) (k:=k) (num:=num) (p:=thA as[k]) F.la (by show 3<=100;decide);have Sl:∀t∈(thA as[k]).take j++(thA as[k]).drop (j+1),t∈thA as[k]:=λt ht=>(mn ht).elim aaU abg
 have hlen:(wP ((thA as[k]).take j++(thA as[k]).drop (j+1))).length=2:=by
  unfold wP;rw[b9,eK,Z8,aai];show min j 3+(3-(j+1))=2;lia
 refine ji F hk rfl hg (oS (by lia)) (λw hw=>?_) (by lia) λt ht=>g.ok t (Sl t ht)
 obtain⟨t,ht,rfl⟩:=mF hw;exact g.wq _ (aaO.mpr ⟨t,Sl t ht,rfl⟩)
theorem Lk(h8:as.length<=20)(hl:p.length<=100):∃j w,j<=3/\Wq w/\Gx ns as way k num p g__law_form_fault_w1 (LX::ns) ((as.map thA).take k++(p.take j++[.s w]++p.drop j)::(as.map thA).drop (k+1)):=by
 have hd:=mx num 3 (by decide) (by decide);have hm:=gU (num / 3) 4 (by decide);have hb:=jh (num / 3) 4 (by decide);obtain⟨j,hj⟩:=Z5 hb.1;rw[hj]at hm hb;have Tb:=gU num 3 (by decide);obtain⟨w,hw,NB⟩:=mM D.str [[97],[55],LX] num 3 rfl (by decide);have s1:=Bz p j;have s2:=uD p j;have a1:=yo (p:=p.take j) (q:=[.s w]) (by rw[Z8];show _+1<=_;lia);have a2:=yo (p:=p.take j++[.s w]) (q:=p.drop j) (by rw[eK,Z8,aai];show _+1+_<=_;lia);refine⟨j,w,by lia,?_,.f,.l .f,some (.f,.int (k:Int)),some (.f,.int num),some (.f,tP p),some (.f,.int (j:Int)),some (.f,.str w),none,?_⟩
 .rcases ZJ.mp hw with rfl|hw
  .exact Kk
  .rcases ZJ.mp hw with rfl|hw
   .exact JQ
   .rw[iR hw];exact moves_wq
 unfold g__law_form_fault_w1;have NB:Mg (.lst [.str [97],.str [55],.str [109,111,118,101,115]]) (.int (num%3))=.ok (.f,.str w):=NB;generalize num%3=n3 at Tb NB;rw[aP (env':=[some (.f,eW (LX::ns)),some (.f,.lst ((as.map thA).map tP)),some (.f,.int (way:Int)),some (.f,.int (k:Int)),some (.f,.int num),some (.f,tP p),none,some (.f,.str w),none]) (by
  generalize eW (LX::ns)=EH;generalize (as.map thA).map tP=EQ;generalize tP p=EP;simp![pv,seval,Tb,NB])]
 rw[aP (env':=[some (.f,eW (LX::ns)),some (.f,.lst ((as.map thA).map tP)),some (.f,.int (way:Int)),some (.f,.int (k:Int)),some (.f,.int num),some (.f,tP p),some (.f,.int (j:Int)),some (.f,.str w),none]) (by
  generalize eW (LX::ns)=EH;generalize (as.map thA).map tP=EQ;generalize tP p=EP;simp![pv,seval,hd,hm])]
 refine oW (P:=as.map thA) (by rw[b9];lia) (p.take j++[.s w]++p.drop j) (m6:=some (.int (j:Int))) (m7:=some (.str w)) HG ?_;simp![Kh];generalize eW (LX::ns)=EH;generalize (as.map thA).map tP=EQ;generalize tP (p.take j++[.s w]++p.drop j)=R3 at a2 |-;generalize tP (p.take j++[.s w])=R4 at a1 a2;generalize tP (p.take j)=R1 at s1 a1;generalize tP (p.drop j)=R2 at s2 a2;have a1:addT R1 (.tup [.str w])=.ok (.f,R4):=a1;generalize tP p=EP at s1 s2 |-;simp![pv,seval,s1,s2,a1,a2]
theorem Ll(F:Fm ns as)(hk:k<as.length):FFok ns as 1 k num:=by
 have g:=F.ag _ (aam hk);obtain⟨j,w,hj,hww,hg⟩:=Lk (ns:=ns) (as:=as) (way:=1) (k:=k) (num:=num) (p:=thA as[k]) F.la (by show 3<=100;decide);have Sl:∀t∈(thA as[k]).take j++[.s w]++(thA as[k]).drop j,t∈thA as[k]\/t=.s w:=λt ht=>by
  rcases mn ht with ht|ht
  .rcases mn ht with ht|ht
   .exact .inl (aaU ht)
   .exact .inr (iR ht)
  .exact .inl (abg ht)
 have hlen:(wP ((thA as[k]).take j++[.s w]++(thA as[k]).drop j)).length=4:=by
  unfold wP;rw[b9,eK,eK,Z8,aai,aaL];show min j 3+1+(3-j)=4;lia
 refine ji F hk rfl hg (oS (by lia)) (λv hv=>?_) (by lia) λt ht=>?_
 .obtain⟨t,ht,rfl⟩:=mF hv;rcases Sl t ht with h|rfl
  .exact g.wq _ (aaO.mpr ⟨t,h,rfl⟩)
  .exact hww
 .rcases Sl t ht with h|rfl
  .exact g.ok t h
  .trivial
theorem Km(a:Mi):Mg (tP (thA a)) (.int 0)=.ok (.f,.int a.1)/\Mg (tP (thA a)) (.int 1)=.ok (.f,.str a.2.1)/\Mg (tP (thA a)) (.int 2)=.ok (.f,.int a.2.2):=⟨rfl,rfl,rfl⟩
theorem Xc{x m y:List Nat}(hx:Wq x)(hm:Wq m)(hy:Wq y):∀w∈[x,m,y],Wq w:=λw hw=>by
 rcases ZJ.mp hw with rfl|hw
 .exact hx
 .rcases ZJ.mp hw with rfl|hw
  .exact hm
  .rw[iR hw];exact hy
theorem Lm(h8:as.length<=20)(a:Mi):∃w∈[LX,[97,97,97,97,97,97,97,97,97],[97,98,99,100,101,102,103,104,105]],Gx ns as way k num (thA a) g__law_form_fault_w5 (LX::ns) ((as.map thA).take k++[.i a.1,.s w,.i a.2.2]::(as.map thA).drop (k+1)):=by
 have Tb:=gU num 3 (by decide);have m9:=Kj;obtain⟨w,hw,NB⟩:=mM D.str [LX,[97,97,97,97,97,97,97,97,97],[97,98,99,100,101,102,103,104,105]] num 3 rfl (by decide);obtain⟨i0,_,i2⟩:=Km a;refine⟨w,hw,.f,.l .f,some (.f,.int (k:Int)),some (.f,.int num),some (.f,tP (thA a)),none,none,some (.f,.str w),?_⟩;unfold g__law_form_fault_w5;have NB:Mg (.lst [.str [109,111,118,101,115],.str [97,97,97,97,97,97,97,97,97],.str [97,98,99,100,101,102,103,104,105]]) (.int (num%3))=.ok (.f,.str w):=NB;generalize num%3=n3 at Tb NB;generalize [97,97,97,97,97,97,97,97,97]=A9 at m9 NB;have Tq:frz (some (O.f,D.str w))=some (O.f,D.str w):=rfl;rw[aP (env':=[some (.f,eW (LX::ns)),some (.f,.lst ((as.map thA).map tP)),some (.f,.int (way:Int)),some (.f,.int (k:Int)),some (.f,.int num),some (.f,tP (thA a)),none,none,some (.f,.str w)]) (by
  generalize eW (LX::ns)=EH;generalize (as.map thA).map tP=EQ;generalize tP (thA a)=EP;simp![pv,seval,m9,Tb,NB])]
 refine oW (P:=as.map thA) (by rw[b9];lia) [.i a.1,.s w,.i a.2.2] (m6:=none) (m7:=none) Tq ?_;simp![Ki];rw[show tP [.i a.1,.s w,.i a.2.2]=.tup [.int a.1,.str w,.int a.2.2] from rfl];generalize eW (LX::ns)=EH;generalize (as.map thA).map tP=EQ;generalize tP (thA a)=EP at i0 i2 |-;simp![pv,seval,i0,i2]
theorem Ln(F:Fm ns as)(hk:k<as.length):FFok ns as 5 k num:=by
 have g:=F.ag _ (aam hk);obtain⟨w,hw,hg⟩:=Lm (ns:=ns) (as:=as) (way:=5) (k:=k) (num:=num) F.la as[k];have RN:Wq w/\bD w=false:=by
  rcases ZJ.mp hw with rfl|hw
  .exact⟨moves_wq,by decide⟩
  .rcases ZJ.mp hw with rfl|hw
   .exact⟨Hh,by decide⟩
   .rw[iR hw];exact⟨JS,by decide⟩
 refine ji F hk rfl hg (yb (x:=dg (as[k]).1) (m:=w) (y:=dg (as[k]).2.2) ⟨_,k7 g.f⟩ (HJ RN.1 RN.2)) (Xc (.num g.f) RN.1 (.num g.s)) (by show 3<=10;decide) λt ht=>?_
 rcases ZJ.mp ht with rfl|ht
 .exact g.f
 .rcases ZJ.mp ht with rfl|ht
  .trivial
  .rw[iR ht];exact g.s
theorem Lo(h8:as.length<=20)(a:Mi):∃p'∈[[.s a.2.1,.i 0,.i 1],[.i 0,.i 7,.i 1],[.i 0,.s a.2.1,.s [98]],[.s LX,.s [97],.i 0]],Gx ns as way k num (thA a) g__law_form_fault_w9 (LX::ns) ((as.map thA).take k++p'::(as.map thA).drop (k+1)):=by
 have Tc:=gU num 4 (by decide);obtain⟨p',VA,NB⟩:=mM tP [[.s a.2.1,.i 0,.i 1],[.i 0,.i 7,.i 1],[.i 0,.s a.2.1,.s [98]],[.s LX,.s [97],.i 0]] num 4 rfl (by decide);obtain⟨_,i1,_⟩:=Km a;refine⟨p',VA,.f,.l .f,some (.f,.int (k:Int)),some (.f,.int num),some (.f,tP (thA a)),none,none,some (.l .f,.lst ([[.s a.2.1,.i 0,.i 1],[.i 0,.i 7,.i 1],[.i 0,.s a.2.1,.s [98]],[.s LX,.s [97],.i 0]].map tP)),?_⟩;unfold g__law_form_fault_w9;generalize num%4=n4 at Tc NB;have hL:[[Th.s a.2.1,.i 0,.i 1],[.i 0,.i 7,.i 1],[.i 0,.s a.2.1,.s [98]],[.s LX,.s [97],.i 0]].map tP=[.tup [.str a.2.1,.int 0,.int 1],.tup [.int 0,.int 7,.int 1],.tup [.int 0,.str a.2.1,.str [98]],.tup [.str [109,111,118,101,115],.str [97],.int 0]]:=rfl;have key:∀LL:List D,Mg (.lst LL) (.int n4)=.ok (.f,tP p')->cy 1 (bZ m__law_with (ah (ax 1) (ah (ax 3) (ah (aq (aF Mg (ax 8) (aq (aF dm (ax 4) (aq (aA (.int 4))))))) ay)))) [some (.f,eW (LX::ns)),some (.f,.lst ((as.map thA).map tP)),some (.f,.int (way:Int)),some (.f,.int (k:Int)),some (.f,.int num),some (.f,tP (thA a)),none,none,some (.l .f,.lst LL)]=.ok (.nx [some (.f,eW (LX::ns)),some (.l .f,.lst (((as.map thA).take k++p'::(as.map thA).drop (k+1)).map tP)),some (.f,.int (way:Int)),some (.f,.int (k:Int)),some (.f,.int num),some (.f,tP (thA a)),none,none,some (.l .f,.lst LL)]):=λLL OD=>by
  have hw:=p_with (P:=as.map thA) (by rw[b9];lia) k p';have hc:=Al ((as.map thA).take k++p'::(as.map thA).drop (k+1));generalize ((as.map thA).take k++p'::(as.map thA).drop (k+1)).map tP=R1 at hw hc |-;generalize eW (LX::ns)=EH;generalize (as.map thA).map tP=EQ at hw |-;generalize tP (thA a)=EP;generalize tP p'=EP' at OD hw;simp![pv,seval,Tc,OD,hw,hc]
 have NB:=key _ NB;rw[hL]at NB |-;rw[aP (env':=[some (.f,eW (LX::ns)),some (.f,.lst ((as.map thA).map tP)),some (.f,.int (way:Int)),some (.f,.int (k:Int)),some (.f,.int num),some (.f,tP (thA a)),none,none,some (.l .f,.lst [.tup [.str a.2.1,.int 0,.int 1],.tup [.int 0,.int 7,.int 1],.tup [.int 0,.str a.2.1,.str [98]],.tup [.str [109,111,118,101,115],.str [97],.int 0]])]) (by
  generalize eW (LX::ns)=EH;generalize (as.map thA).map tP=EQ;generalize tP (thA a)=EP at i1 |-;simp![pv,seval,i1])]
 exact NB
theorem Lp(F:Fm ns as)(hk:k<as.length):FFok ns as 9 k num:=by
 have g:=F.ag _ (aam hk);obtain⟨p',hp,hg⟩:=Lo (ns:=ns) (as:=as) (way:=9) (k:=k) (num:=num) F.la as[k];have d0:dg 0=[48]:=qJ (n:=0) (by decide);have d1:dg 1=[49]:=qJ (n:=1) (by decide);have d7:dg 7=[55]:=qJ (n:=7) (by decide);have n0:Nm 0:=⟨by decide,by decide⟩
 have n1:Nm 1:=⟨by decide,by decide⟩
 have n7:Nm 7:=⟨by decide,by decide⟩
 have o0:DL (dg 0):=⟨_,k7 n0⟩
 obtain⟨c,r,ZD⟩:∃c r,(as[k]).2.1=c::r:=by
  cases h:(as[k]).2.1 with
  |nil=>
   have:=(gM g.n).2.1;rw[h]at this;exact absurd this (by decide)
  |cons c r=>exact⟨c,r,rfl⟩
 have U9:jg c=false:=by
  have h1:=(xZ g.n).all c (by rw[ZD];exact ZI);cases hf:jg c with
  |false=>rfl
  |true=>
   unfold kd at h1;unfold jg at hf;simp![ZP,Z2]at hf;rw[Z6 (by unfold fU;simp![ZP,Z2];lia),ZY (by unfold jg;simp![ZP,Z2];lia)]at h1;cases h1
 have Tw:Wq (as[k]).2.1:=.name g.n;rcases ZJ.mp hp with rfl|hp
 .refine ji F hk rfl hg (ya (x:=(as[k]).2.1) (m:=dg 0) (y:=dg 1) ?_) (Xc Tw (.num n0) (.num n1)) (by show 3<=10;decide) λt ht=>?_
  .rw[ZD]at Tw |-;exact JP Tw U9
  .simp![ZJ,aar,aco]at ht;rcases ht with rfl|rfl|rfl
   .trivial
   .exact n0
   .exact n1
 .rcases ZJ.mp hp with rfl|hp
  .refine ji F hk rfl hg (yb (x:=dg 0) (m:=dg 7) (y:=dg 1) o0 (HJ (.num n7) ?_)) (Xc (.num n0) (.num n7) (.num n1)) (by show 3<=10;decide) λt ht=>?_
   .rw[d7];decide
   .simp![ZJ,aar,aco]at ht;rcases ht with rfl|rfl|rfl
    .exact n0
    .exact n7
    .exact n1
  .rcases ZJ.mp hp with rfl|hp
   .refine ji F hk rfl hg (DM (x:=dg 0) (m:=(as[k]).2.1) (y:=[98]) o0 g.n (JP Kl (by decide))) (Xc (.num n0) Tw Kl) (by show 3<=10;decide) λt ht=>?_
    simp![ZJ,aar,aco]at ht;rcases ht with rfl|rfl|rfl
    .exact n0
    .trivial
    .trivial
   .have hp:=iR hp;subst hp;refine ji F hk rfl hg (ya (x:=LX) (m:=[97]) (y:=dg 0) (JP moves_wq (by decide))) (Xc moves_wq Kk (.num n0)) (by show 3<=10;decide) λt ht=>?_
    simp![ZJ,aar,aco]at ht;rcases ht with rfl|rfl|rfl
    .trivial
    .trivial
    .exact n0
end
theorem flat_rep{α:Type}(x:α):∀n:Nat,(List.replicate n [x]).flatten=List.replicate n x
 | 0=>rfl
 |n+1=>by
  rw[aa5,aaJ,flat_rep x n];rfl
theorem yp{x:D}{b:Int}(n:Nat)(hn:b=(n:Int))(h:n<=1000):Ec (.lst [x]) (.int b)=.ok (.l .f,.lst (List.replicate n x)):=by
 subst hn;rw[Dq,ZY ⟨by lia,by lia,line_le (by rw[abj,aaL];lia)⟩,abj,flat_rep]
def R6:LNN:=[[110,97],[110,98],[110,99],[110,100],[110,101],[110,102]]
section
variable{k:Nat}{num:Int}
theorem Lq(hl:ns.length<=100):∃w∈[[109,111,118,101],[77,111,118,101,115],[109,111,118,101,115,115],[55]],Gx ns as way k num p g__law_form_fault_w2 (w::ns) (as.map thA):=by
 have Tc:=gU num 4 (by decide);obtain⟨w,hw,NB⟩:=mM D.str [[109,111,118,101],[77,111,118,101,115],[109,111,118,101,115,115],[55]] num 4 rfl (by decide);have s1:=DX (LX::ns) 1;have a1:=nJ (p:=[w]) (q:=ns) (by show 1+_<=_;lia);refine⟨w,hw,.l .f,.f,some (.f,.int (k:Int)),some (.f,.int num),some (.f,tP p),none,none,none,?_⟩;unfold g__law_form_fault_w2;have NB:Mg (.lst [.str [109,111,118,101],.str [77,111,118,101,115],.str [109,111,118,101,115,115],.str [55]]) (.int (num%4))=.ok (.f,.str w):=NB;have s1:O7 (eW (LX::ns)) (some 1) none=.ok (.l .f,eW ns):=s1;have a1:addD (.lst [.str w]) (eW ns)=.ok (.l .f,eW (w::ns)):=a1;generalize num%4=n4 at Tc NB;generalize eW (w::ns)=R1 at a1 |-;generalize eW (LX::ns)=EH at s1 |-;generalize eW ns=R2 at s1 a1;generalize (as.map thA).map tP=EQ;generalize tP p=EP;simp![pv,seval,Tc,NB,s1,a1]
theorem Lr(F:Fm ns as)(hk:k<as.length):FFok ns as 2 k num:=by
 have h5:=F.l5;have h8:=F.la;obtain⟨w,hw,hg⟩:=Lq (ns:=ns) (as:=as) (way:=2) (k:=k) (num:=num) (p:=thA as[k]) (by lia);have key:Wq w->w≠LX->FFok ns as 2 k num:=λRN Ox=>by
  have Oa:∀v∈w::ns,Wq v:=λv hv=>(ZJ.mp hv).elim (λe=>by rw[e];exact RN) λh=>.name (F.n v h)
  exact iS hk rfl hg (ie F (.ws Oa) (qL (by intro z;cases z;exact Ox rfl)) (by rw[ZR];lia) (λv hv=>(Oa v hv).l) (λ_ h=>h) (by rw[b9];lia))
 rcases ZJ.mp hw with rfl|hw
 .exact key (.let (by decide) (by decide) (by decide)) (by decide)
 .rcases ZJ.mp hw with rfl|hw
  .refine iS hk rfl hg (vn F (by decide) ?_ (by lia) (λv hv=>?_) (λ_ h=>h) (by rw[b9];lia))
   .have:=Bn [77] (by decide);exact aaP this (by decide)
   .rcases ZJ.mp hv with rfl|hv
    .decide
    .have:=(gM (F.n v hv)).1;lia
  .rcases ZJ.mp hw with rfl|hw
   .exact key (.let (by decide) (by decide) (by decide)) (by decide)
   .rw[iR hw]at key;exact key JQ (by decide)
theorem Ls(hl:ns.length<=100):∃w∈[[97,97,97,97,97,97,97,97,97],LX,[55],[122,122,122,122,122,122,122,122,122]],Gx ns as way k num p g__law_form_fault_w4 (LX::(ns++[w])) (as.map thA):=by
 have Tc:=gU num 4 (by decide);have m9:=Kj;obtain⟨w,hw,NB⟩:=mM D.str [[97,97,97,97,97,97,97,97,97],LX,[55],[122,122,122,122,122,122,122,122,122]] num 4 rfl (by decide);have a1:=nJ (p:=LX::ns) (q:=[w]) (by rw[ZR];show _+1+1<=_;lia);refine⟨w,hw,.l .f,.f,some (.f,.int (k:Int)),some (.f,.int num),some (.f,tP p),none,none,none,?_⟩;unfold g__law_form_fault_w4;have NB:Mg (.lst [.str [97,97,97,97,97,97,97,97,97],.str [109,111,118,101,115],.str [55],.str [122,122,122,122,122,122,122,122,122]]) (.int (num%4))=.ok (.f,.str w):=NB;have a1:addD (eW (LX::ns)) (.lst [.str w])=.ok (.l .f,eW (LX::(ns++[w]))):=a1;generalize num%4=n4 at Tc NB;generalize [97,97,97,97,97,97,97,97,97]=A9 at m9 NB;generalize eW (LX::(ns++[w]))=R1 at a1 |-;generalize eW (LX::ns)=EH at a1 |-;generalize (as.map thA).map tP=EQ;generalize tP p=EP;simp![pv,seval,m9,Tc,NB,a1]
theorem Lu(F:Fm ns as)(hk:k<as.length):FFok ns as 4 k num:=by
 have h5:=F.l5;have h8:=F.la;obtain⟨w,hw,hg⟩:=Ls (ns:=ns) (as:=as) (way:=4) (k:=k) (num:=num) (p:=thA as[k]) (by lia);have RN:Wq w/\bD w=false:=by
  rcases ZJ.mp hw with rfl|hw
  .exact⟨Hh,by decide⟩
  .rcases ZJ.mp hw with rfl|hw
   .exact⟨moves_wq,by decide⟩
   .rcases ZJ.mp hw with rfl|hw
    .exact⟨JQ,by decide⟩
    .rw[iR hw];exact⟨JR,by decide⟩
 have Oa:∀v∈LX::(ns++[w]),Wq v:=λv hv=>by
  rcases ZJ.mp hv with rfl|hv
  .exact moves_wq
  .rcases mn hv with hv|hv
   .exact .name (F.n v hv)
   .rw[iR hv];exact RN.1
 have hlen:(ns++[w]).length=ns.length+1:=by rw[eK];rfl
 have hx:de [eW (LX::(ns++[w]))]=true:=by
  by_cases h:5<(ns++[w]).length
  .exact mz h
  .refine x9 (by lia) (λv hv=>?_) ⟨w,ZK _ ZI,HJ RN.1 RN.2⟩;rcases mn hv with hv|hv
   .exact .inl (F.n v hv)
   .rw[iR hv];exact .inr (HJ RN.1 RN.2)
 exact iS hk rfl hg (ie F (.ws Oa) hx (by rw[ZR];lia) (λv hv=>(Oa v hv).l) (λ_ h=>h) (by rw[b9];lia))
theorem Am:fF (bj 0) jj (aF addD (aq (aA (.str [110]))) (aq (aF Mg (aq (aA (.str [97,98,99,100,101,102]))) (ax 0)))) ((List.range 6).map λ(k:Nat)=>D.int (k:Int)) [none]=.ok (R6.map D.str):=by
 have e:R6.map D.str=(List.range 6).map λk=>D.str [110,97+k]:=rfl
 rw[e];refine dh (e:=λ(k:Nat)=>D.int (k:Int)) (λenv=>∃t,env=[t]) (List.range 6) ?_ _ ⟨none,rfl⟩;rintro j hj env ⟨t,rfl⟩;have hj:=aaY.mp hj;have NP:Mg (.str [97,98,99,100,101,102]) (.int (j:Int))=.ok (.f,.str [97+j]):=ib (by
  have:j=0\/j=1\/j=2\/j=3\/j=4\/j=5:=by lia
  rcases this with rfl|rfl|rfl|rfl|rfl|rfl <;> rfl)
 have a1:addD (.str [110]) (.str [97+j])=.ok (.f,.str [110,97+j]):=by
  rw[xG,ZY (line_le (by show 1+1<=_;lia))];rfl
 exact⟨[some (.f,.int (j:Int))],rfl,.f,[some (.f,.int (j:Int))],by simp![pv,seval,NP,a1],_,rfl⟩
theorem Lv:Gx ns as way k num p g__law_form_fault_w6 (LX::R6) (as.map thA):=by
 have hc:=Am;have hr:=qG 6 (by decide) (by decide) (aq (aA (.int 6))) [some (.f,eW (LX::ns)),some (.f,.lst ((as.map thA).map tP)),some (.f,.int (way:Int)),some (.f,.int (k:Int)),some (.f,.int num),some (.f,tP p),none,none,none] [some (.f,eW (LX::ns)),some (.f,.lst ((as.map thA).map tP)),some (.f,.int (way:Int)),some (.f,.int (k:Int)),some (.f,.int num),some (.f,tP p),none,none,none] (.val (.int 6)) (by
  generalize eW (LX::ns)=EH;generalize (as.map thA).map tP=EQ;generalize tP p=EP;simp![pv,seval]) rfl
 have hz:(R6.map D.str).length<=sizeLine:=cY (by decide);have hf:=PV.flat_strs R6;have a1:=nJ (p:=[LX]) (q:=R6) (by decide);refine⟨.l .f,.f,some (.f,.int (k:Int)),some (.f,.int num),some (.f,tP p),none,none,none,?_⟩;unfold g__law_form_fault_w6;have a1:addD (.lst [.str [109,111,118,101,115]]) (.lst (R6.map D.str))=.ok (.l .f,eW (LX::R6)):=a1;have hr:dA _ _=Res.ok ((List.range 6).map λ(k:Nat)=>D.int (k:Int),_):=hr;generalize eW (LX::R6)=R1 at a1 |-;generalize R6.map D.str=R2 at hc hz hf a1;generalize (List.range 6).map (λ(k:Nat)=>D.int (k:Int))=RR at hc hr;generalize eW (LX::ns)=EH at hr |-;generalize (as.map thA).map tP=EQ at hr |-;generalize tP p=EP at hr |-;generalize (aF addD (aq (aA (.str [110]))) (aq (aF Mg (aq (aA (.str [97,98,99,100,101,102]))) (ax 0))))=GG at hc |-;generalize dA (aq (aA (.int 6)))=II at hr |-;simp![pv,seval,hr,hc,hz,hf,a1]
theorem yq{l:LNN}(h:∀v∈l,v∈R6):∀v∈LX::l,Wq v:=λv hv=>by
 rcases ZJ.mp hv with rfl|hv
 .exact moves_wq
 .have:=h v hv;unfold R6 at this;simp![ZJ,aar,aco]at this;rcases this with rfl|rfl|rfl|rfl|rfl|rfl <;> exact .let (by decide) (by decide) (by decide)
theorem Lw(F:Fm ns as)(hk:k<as.length):FFok ns as 6 k num:=by
 have h8:=F.la;have Oa:=yq (l:=R6) λ_ h=>h
 exact iS hk rfl Lv (ie F (.ws Oa) (mz (by decide)) (by decide) (λv hv=>(Oa v hv).l) (λ_ h=>h) (by rw[b9];lia))
theorem JT:∃w∈[[110,97],[110,102]],Gx ns as way k num p g__law_form_fault_w10 (LX::[[110,97],[110,98],[110,99],[110,100],[110,101],w]) (as.map thA):=by
 have SM:=gU num 2 (by decide);obtain⟨w,hw,NB⟩:=mM D.str [[110,97],[110,102]] num 2 rfl (by decide);have a1:=nJ (p:=[LX,[110,97],[110,98],[110,99],[110,100],[110,101]]) (q:=[w]) (by show 6+1<=_;decide);refine⟨w,hw,.l .f,.f,some (.f,.int (k:Int)),some (.f,.int num),some (.f,tP p),none,none,none,?_⟩;unfold g__law_form_fault_w10;have NB:Mg (.lst [.str [110,97],.str [110,102]]) (.int (num%2))=.ok (.f,.str w):=NB;have a1:addD (.lst [.str [109,111,118,101,115],.str [110,97],.str [110,98],.str [110,99],.str [110,100],.str [110,101]]) (.lst [.str w])=.ok (.l .f,eW (LX::[[110,97],[110,98],[110,99],[110,100],[110,101],w])):=a1;generalize num%2=n4 at SM NB;generalize eW (LX::[[110,97],[110,98],[110,99],[110,100],[110,101],w])=R1 at a1 |-;generalize eW (LX::ns)=EH;generalize (as.map thA).map tP=EQ;generalize tP p=EP;simp![pv,seval,SM,NB,a1]
theorem JU(F:Fm ns as)(hk:k<as.length):FFok ns as 10 k num:=by
 have h8:=F.la;obtain⟨w,hw,hg⟩:=JT (ns:=ns) (as:=as) (way:=10) (k:=k) (num:=num) (p:=thA as[k]);have Oa:=yq (l:=[[110,97],[110,98],[110,99],[110,100],[110,101],w]) λv hv=>by
  unfold R6;simp![ZJ,aar,aco]at hv hw |-;rcases hv with h|h|h|h|h|h
  .exact .inl h
  .exact .inr (.inl h)
  .exact .inr (.inr (.inl h))
  .exact .inr (.inr (.inr (.inl h)))
  .exact .inr (.inr (.inr (.inr (.inl h))))
  .rw[h];rcases hw with h|h
   .exact .inl h
   .exact .inr (.inr (.inr (.inr (.inr h))))
 exact iS hk rfl hg (ie F (.ws Oa) (mz (by show 5<6;decide)) (by show 7<=10;decide) (λv hv=>(Oa v hv).l) (λ_ h=>h) (by rw[b9];lia))
end
section
variable{k:Nat}{num:Int}
theorem BA(P:List (List Th))(j:Nat):O7 (.lst (P.map tP)) none (some (j:Int))=.ok (.l .f,.lst ((P.take j).map tP)):=by
 show Res.ok (O.l .f,D.lst (eV (P.map tP) none (some (j:Int))))=_;rw[fO,<-acf]
theorem An(P:List (List Th))(j:Nat):O7 (.lst (P.map tP)) (some (j:Int)) none=.ok (.l .f,.lst ((P.drop j).map tP)):=by
 show Res.ok (O.l .f,D.lst (eV (P.map tP) (some (j:Int)) none))=_;rw[eE,<-abX]
theorem JV:∃h1∈[[],[[32]],[[]]],∃P1∈[as.map thA,[],(as.map thA).take 1],Gx ns as way k num p g__law_form_fault_w11 h1 P1:=by
 have Tb:=gU num 3 (by decide);have YR:=mx num 3 (by decide) (by decide);have Td:=gU (num / 3) 3 (by decide);obtain⟨h1,hh,NB⟩:=mM eW [[],[[32]],[[]]] num 3 rfl (by decide);obtain⟨P1,hP,RO⟩:=mM (λps:List (List Th)=>D.lst (ps.map tP)) [as.map thA,[],(as.map thA).take 1] (num / 3) 3 rfl (by decide);have s1:=BA (as.map thA) 1;refine⟨h1,hh,P1,hP,.f,.f,some (.f,.int (k:Int)),some (.f,.int num),some (.f,tP p),none,none,none,?_⟩;unfold g__law_form_fault_w11;have NB:Mg (.lst [.lst [],.lst [.str [32]],.lst [.str []]]) (.int (num%3))=.ok (.f,eW h1):=NB;have RO:Mg (.lst [.lst ((as.map thA).map tP),.lst [],.lst (((as.map thA).take 1).map tP)]) (.int (num / 3%3))=.ok (.f,.lst (P1.map tP)):=RO;have s1:O7 (.lst ((as.map thA).map tP)) none (some 1)=.ok (.l .f,.lst (((as.map thA).take 1).map tP)):=s1;generalize num%3=n3 at Tb NB;generalize num / 3%3=n33 at Td RO;generalize eW (LX::ns)=EH;generalize ((as.map thA).take 1).map tP=E1 at s1 RO;generalize (as.map thA).map tP=EQ at s1 RO |-;generalize tP p=EP;generalize eW h1=R1 at NB |-;generalize P1.map tP=R2 at RO |-;rw[aP (env':=[some (.f,R1),some (.f,.lst EQ),some (.f,.int (way:Int)),some (.f,.int (k:Int)),some (.f,.int num),some (.f,EP),none,none,none]) (by simp![pv,seval,Tb,NB])];simp![pv,seval,YR,Td,RO,s1]
theorem JW(F:Fm ns as)(hk:k<as.length):FFok ns as 11 k num:=by
 have h8:=F.la;obtain⟨h1,hh,P1,hP,hg⟩:=JV (ns:=ns) (as:=as) (way:=11) (k:=k) (num:=num) (p:=thA as[k]);have hP1:(∀p∈P1,p∈as.map thA)/\P1.length<=20:=by
  rcases ZJ.mp hP with rfl|hP
  .exact⟨λ_ h=>h,by rw[b9];exact h8⟩
  .rcases ZJ.mp hP with rfl|hP
   .exact⟨(λ_ h=>nomatch h),by decide⟩
   .rw[iR hP];exact⟨λ_ h=>aaU h,by rw[Z8,b9];lia⟩
 have YS:Hd h1 []/\h1.length<=10/\∀w∈h1,w.length<=60:=by
  rcases ZJ.mp hh with rfl|hh
  .exact⟨.ws (λ_ h=>nomatch h),by decide,(λ_ h=>nomatch h)⟩
  .rcases ZJ.mp hh with rfl|hh
   .exact⟨.sp,by decide,by decide⟩
   .rw[iR hh];exact⟨.em,by decide,by decide⟩
 exact iS hk rfl hg (ie F YS.1 (qL (by intro z;cases z)) YS.2.1 YS.2.2 hP1.1 (by lia))
theorem Lx(h8:as.length<=20):Gx ns as way k num p g__law_form_fault_w3 (LX::ns) ((as.map thA).take k++[[]]++(as.map thA).drop k):=by
 have s1:=BA (as.map thA) k;have s2:=An (as.map thA) k;have a1:=mD (x:=((as.map thA).take k).map tP) (y:=[.tup []]) (by rw[b9,Z8,b9];show _+1<=_;lia);have a2:=mD (x:=((as.map thA).take k).map tP++[.tup []]) (y:=((as.map thA).drop k).map tP) (by rw[eK,b9,Z8,b9,b9,aai,b9];show _+1+_<=_;lia);refine⟨.f,.l .f,some (.f,.int (k:Int)),some (.f,.int num),some (.f,tP p),none,none,none,?_⟩;unfold g__law_form_fault_w3;rw[Z4,Z4];show _=Res.ok (Out.nx [_,some (O.l .f,D.lst (((as.map thA).take k).map tP++[.tup []]++((as.map thA).drop k).map tP)),_,_,_,_,_,_,_]);generalize ((as.map thA).take k).map tP++[.tup []]++((as.map thA).drop k).map tP=R3 at a2 |-;generalize ((as.map thA).take k).map tP++[.tup []]=R2 at a1 a2;generalize ((as.map thA).take k).map tP=R1 at s1 a1;generalize ((as.map thA).drop k).map tP=R0 at s2 a2;generalize eW (LX::ns)=EH;generalize (as.map thA).map tP=EQ at s1 s2 |-;generalize tP p=EP;simp![pv,seval,s1,s2,a1,a2]
theorem Ly(F:Fm ns as)(hk:k<as.length):FFok ns as 3 k num:=by
 have h8:=F.la;refine iS hk rfl (Lx h8) (sv F (p':=[]) (oS (by decide)) (λ_ h=>nomatch h) (by decide) (λ_ h=>nomatch h) (λp hp=>?_) (ZX _ (ZK _ ZI)) ?_)
 .rcases mn hp with hp|hp
  .rcases mn hp with hp|hp
   .exact .inl (aaU hp)
   .exact .inr (iR hp)
  .exact .inl (abg hp)
 .rw[eK,eK,Z8,aai,b9];show _+1+_<=_;lia
theorem JX:lenA [.lst ((as.map thA).map tP)]=.ok (.f,.int (as.length:Int)):=by
 show Res.ok (O.f,D.int ((((as.map thA).map tP).length:Nat):Int))=_;rw[b9,b9]
theorem Lz(h8:as.length<=20):Gx ns as way k num p g__law_form_fault_w7 (LX::ns) (as.map thA++List.replicate (61-as.length) p):=by
 have ND:=JX (as:=as);have hm:=yp (x:=tP p) (b:=61-(as.length:Int)) (61-as.length) (by lia) (by lia);have a1:=mD (x:=(as.map thA).map tP) (y:=List.replicate (61-as.length) (tP p)) (by rw[b9,b9,abD];lia);refine⟨.f,.l .f,some (.f,.int (k:Int)),some (.f,.int num),some (.f,tP p),none,none,none,?_⟩;unfold g__law_form_fault_w7;rw[Z4,ac1];generalize (as.map thA).map tP++List.replicate (61-as.length) (tP p)=R3 at a1 |-;generalize List.replicate (61-as.length) (tP p)=R2 at hm a1;generalize (as.length:Int)=QL at ND hm;generalize eW (LX::ns)=EH;generalize (as.map thA).map tP=EQ at ND a1 |-;generalize tP p=EP at hm |-;simp![pv,seval,xH,ND,hm,a1]
theorem LA(F:Fm ns as)(hk:k<as.length):FFok ns as 7 k num:=by
 have h8:=F.la;have h5:=F.l5;have Rj:∀p∈as.map thA++List.replicate (61-as.length) (thA as[k]),(∀w∈wP p,Wq w)/\(wP p).length<=10/\∀t∈p,su t:=λp hp=>by
  rcases mn hp with hp|hp
  .exact F.pw hp
  .rw[(ac2.mp hp).2];exact F.pw (aaO.mpr ⟨as[k],aam hk,rfl⟩)
 have hlen:(as.map thA++List.replicate (61-as.length) (thA as[k])).length=61:=by
  rw[eK,b9,abD];lia
 have hs:=yn (h:=LX::ns) (by rw[ZR];lia) (λw hw=>(F.hw w hw).l) Rj (by lia);exact iS hk rfl (Lz h8) ⟨λl hl=>(Rj l hl).2.2,by lia,hs,Ac (Ah (.ws F.hw) (Ai Rj) hs) h5 F.n (by rw[b9];lia)⟩
theorem LB(h8:as.length<=20):∃n,1<=n/\n<=2/\Gx ns as way k num p g__law_form_fault_w8 (LX::ns) (as.map thA++List.replicate n []):=by
 have SM:=gU num 2 (by decide);have hb:=jh num 2 (by decide);obtain⟨n,hn⟩:=Z5 (show 0<=1+num%2 by lia);have hm:=yp (x:=.tup []) (b:=1+num%2) n hn (by lia);have a1:=mD (x:=(as.map thA).map tP) (y:=List.replicate n (.tup [])) (by rw[b9,b9,abD];lia);refine⟨n,by lia,by lia,.f,.l .f,some (.f,.int (k:Int)),some (.f,.int num),some (.f,tP p),none,none,none,?_⟩;unfold g__law_form_fault_w8;rw[Z4,ac1];show _=Res.ok (Out.nx [_,some (O.l .f,D.lst ((as.map thA).map tP++List.replicate n (.tup []))),_,_,_,_,_,_,_]);generalize (as.map thA).map tP++List.replicate n (.tup [])=R3 at a1 |-;generalize List.replicate n (D.tup [])=R2 at hm a1;generalize num%2=n2 at SM hm;generalize eW (LX::ns)=EH;generalize (as.map thA).map tP=EQ at a1 |-;generalize tP p=EP;simp![pv,seval,gB,SM,hm,a1]
theorem LC(F:Fm ns as)(hk:k<as.length):FFok ns as 8 k num:=by
 have h8:=F.la;obtain⟨n,n1,n2,hg⟩:=LB (ns:=ns) (as:=as) (way:=8) (k:=k) (num:=num) (p:=thA as[k]) h8;refine iS hk rfl hg (sv F (p':=[]) (oS (by decide)) (λ_ h=>nomatch h) (by decide) (λ_ h=>nomatch h) (λp hp=>?_) (ZK _ (ac2.mpr ⟨by lia,rfl⟩)) ?_)
 .rcases mn hp with hp|hp
  .exact .inl hp
  .exact .inr (ac2.mp hp).2
 .rw[eK,b9,abD];lia
theorem BC(F:Fm ns as)(hk:k<as.length)(hw:way<12):FFok ns as way k num:=by
 have:way=0\/way=1\/way=2\/way=3\/way=4\/way=5\/way=6\/way=7\/way=8\/way=9\/way=10\/way=11:=by lia
 rcases this with rfl|rfl|rfl|rfl|rfl|rfl|rfl|rfl|rfl|rfl|rfl|rfl
 .exact Lj F hk
 .exact Ll F hk
 .exact Lr F hk
 .exact Ly F hk
 .exact Lu F hk
 .exact Ln F hk
 .exact Lw F hk
 .exact LA F hk
 .exact LC F hk
 .exact Lp F hk
 .exact JU F hk
 .exact JW F hk
end
theorem rising_pw{α:Type}{lt:α->α->Bool}(o:Ord lt):∀{l:List α},rising lt l=true->l.Pairwise (λa b=>lt a b=true)
 |[],_=>.nil
 |[a],_=>List.pairwise_singleton _ _
 |a::b::l,h=>by
  rw[mr,ZP]at h;have ih:=rising_pw o h.2;refine abd.mpr ⟨λc hc=>?_,ih⟩;rcases ZJ.mp hc with rfl|hc
  .exact h.1
  .exact o.trans a b c h.1 ((abd.mp ih).1 c hc)
theorem qM{lt:α->α->Bool}(o:Ord lt){l:List α}(h:¬ l.Nodup):rising lt (bQ lt l)=false:=by
 cases hr:rising lt (bQ lt l) with
 |false=>rfl
 |true=>
  exfalso;have:=rising_pw o hr;apply h;rw[<-(eX lt l).nodup_iff];exact this.imp λ{a b} VL e=>by
   rw[e,o.irr]at VL;cases VL
variable{ms:LNN}
section
variable{k:Nat}
theorem Hj(hn:∀n∈ns,bD n=true)(OT:ns.Nodup)(h5:ns.length<=5):dW (bQ ltS ns)=true:=by
 unfold dW;rw[ia (fN oB OT),dX];have h5:((ns.length:Int)<=5):=by lia
 simp![h5,aaR,aaE,aaW,aad];intro m hm;exact hn m ((cB ltS).mp hm)
theorem JY(OT:¬ ns.Nodup):dW (bQ ltS ns)=false:=by
 unfold dW;rw[qM oB OT,aaG,abu]
theorem Hk(h:¬ as.Nodup):eN (bQ dG as) ms=false:=by
 unfold eN;rw[qM se h,abu,aaG]
theorem Hl(ha:a∈as)(h:jH ms a=false):eN (bQ dG as) ms=false:=by
 unfold eN;have:((bQ dG as).map (jH ms)).all id=false:=by
  rw[aaW,List.all_eq_false];exact⟨a,(cB dG).mpr ha,by show ¬ jH ms a=true;rw[h];exact ZU⟩
 rw[this,abu]
theorem JZ(A:Arcs cnt ns as)(UA:cnt<=12)(hl:as.length<=60):eN (bQ dG as) (bQ ltS ns)=true:=by
 unfold eN;rw[ia (fN se A.nd),dX];have h5:¬ (60<(as.length:Int)):=by lia
 simp![h5,aaX,aaq,aaE,aaW,aad];intro a ha;obtain⟨h1,h2,h3,h4,h5⟩:=A.v a ((cB dG).mp ha);show jH (bQ ltS ns) a=true;have h3:a.2.1∈bQ ltS ns:=(cB ltS).mpr h3;have q1:a.1<12:=by lia
 have q2:a.2.2<12:=by lia
 unfold jH eC;simp[h1,q1,h3,h4,q2]
theorem yr(h1:1<=cnt)(h:∀a∈as,a.1<cnt/\a.2.2<cnt):cw as<=cnt:=by
 unfold cw;rcases xR (as.map kO) 0 with⟨_,e⟩|e
 .lia
 .obtain⟨a,ha,e2⟩:=mF e;have:=h a ha;obtain⟨_,_,h2⟩:=mq a;lia
theorem qN(hn:∀n∈ns,bD n=true)(OT:ns.Nodup)(h5:ns.length<=5)(A:Arcs cnt ns as)(h1:1<=cnt)(UA:cnt<=12)(hl:as.length<=60)(low:∀t:Int,0<t->t<cnt->∃a∈as,a.2.2=t/\a.1<t):bA [.tup ((bQ ltS ns).map D.str),.lst ((bQ dG as).map eA)]=.ok (.f,.bl true):=by
 refine vk ⟨by rw[dX];exact h5,ia (fN oB OT),λm h=>hn m ((cB ltS).mp h),by rw[dX];exact hl,ia (fN se A.nd),λa ha=>?_,λt t0 t1=>?_⟩
 .obtain⟨q1,q2,q3,q4,q5⟩:=A.v a ((cB dG).mp ha);exact⟨q1,by lia,(cB ltS).mpr q3,q4,by lia⟩
 .have:=yr (as:=bQ dG as) h1 λa ha=>by
   obtain⟨q1,q2,q3,q4,q5⟩:=A.v a ((cB dG).mp ha);exact⟨q2,q5⟩
  obtain⟨a,ha,e⟩:=low t t0 (by lia);exact⟨a,(cB dG).mpr ha,e⟩
theorem Hm(as:List Mi):(as.map thA).map wP=as.map aW:=by
 rw[aah];rfl
theorem qO(as:List Mi):(as.map thA).map tP=as.map eA:=by
 rw[aah];rfl
theorem HK(hn:∀n∈ns,bD n=true)(h5:ns.length<=5)(ag:∀a∈as,Ag a)(hl:as.length<=61):tw ((LX::ns)::(as.map thA).map wP)<=40000/\Pt (tx (LX::ns) ((as.map thA).map wP)) (LX::ns) (as.map aW):=by
 have hw:∀w∈LX::ns,Wq w:=λw hw=>(ZJ.mp hw).elim (λe=>by rw[e];exact moves_wq) λh=>.name (hn w h)
 have Rj:∀p∈as.map thA,(∀w∈wP p,Wq w)/\(wP p).length<=10/\∀t∈p,su t:=λp hp=>by
  obtain⟨a,ha,rfl⟩:=mF hp;exact⟨(ag a ha).wq,by show 3<=10;decide,(ag a ha).ok⟩
 have hs:=yn (h:=LX::ns) (by rw[ZR];lia) (λw h=>(hw w h).l) Rj (by rw[b9];exact hl);refine⟨hs,?_⟩;have:=Ah (.ws hw) (Ai Rj) hs;rw[<-Hm as];exact this
structure Sf(ns:LNN)(as:List Mi)(k:Nat):Prop where
 fm:Fm ns as
 k:k<as.length
 x:bG [.str (tx (LX::ns) ((as.map thA).map wP))]=true
theorem D0(F:Fm ns as)(hk:k<as.length)(hc:bA [.tup ((bQ ltS ns).map D.str),.lst ((bQ dG as).map eA)]=.ok (.f,.bl false)):Sf ns as k:=
 ⟨F,hk,DN (HK F.n F.l5 F.ag (by have:=F.la;lia)).2 F.l5 F.n F.ag (by have:=F.la;lia) hc⟩
theorem Ko{x:Int}(h0:0<=x)(h:x<cnt)(UA:cnt<=12):Nm x:=⟨h0,by lia⟩
theorem Arcs.ag(A:Arcs cnt ns as)(UA:cnt<=12)(hn:∀n∈ns,bD n=true):∀a∈as,Ag a:=λa ha=>by
 obtain⟨q1,q2,q3,q4,q5⟩:=A.v a ha;exact⟨Ko q1 q2 UA,hn _ q3,Ko q4 q5 UA⟩
theorem sx(hn:∀n∈ns,bD n=true):∀m∈bQ ltS ns,m.length<=1000:=λm h=>by
 have:=(gM (hn m ((cB ltS).mp h))).1;lia
theorem Ao(hn:∀n∈ns,bD n=true)(h4:ns.length<=4)(Dr:Drawn cnt ns as)(hk:k<as.length){m:List Nat}(hm:m∈ns):Sf (ns++[m]) as k:=by
 have c6:=Dr.c6;have F:Fm (ns++[m]) as:=⟨λn h=>(mn h).elim (hn n) λh=>by rw[iR h];exact hn m hm,by rw[eK];show _+1<=_;lia,by have:=Dr.l;lia,Dr.a.ag (by lia) hn⟩
 refine D0 F hk (DO (JY λh=>?_) (by rw[dX];have:=F.l5;lia) (sx F.n));rw[aap]at h;exact h.2.2 m hm m ZI rfl
theorem yt(hn:∀n∈ns,bD n=true)(OT:ns.Nodup)(h4:ns.length<=4){as1:List Mi}(ag:∀a∈as1,Ag a)(hl:as1.length<=20)(hk:k<as1.length)(hb:¬ as1.Nodup\/∃a∈as1,jH (bQ ltS ns) a=false):Sf ns as1 k:=by
 refine D0 ⟨hn,by lia,hl,ag⟩ hk (DP (Hj hn OT (by lia)) ?_ (by rw[dX];lia) (sx hn) (by rw[dX];lia));rcases hb with h|⟨a,ha,h⟩
 .exact Hk h
 .exact Hl ha h
theorem Hn(hn:∀n∈ns,bD n=true)(OT:ns.Nodup)(h4:ns.length<=4)(Dr:Drawn cnt ns as){a1:Mi}{top:Int}(h0:0<=top)(htc:top<cnt)(ht:∀a∈as,a.1<=top/\a.2.2<=top)(hf:top<a1.1)(Ta:a1.1<12)(hm:a1.2.1∈ns)(Ux:0<=a1.2.2)(SV:a1.2.2<12)(hk:k<(as++[a1]).length):Sf ns (as++[a1]) k:=by
 have hA:=Dr.a;have c6:=Dr.c6;have hnin:a1∉as:=λh=>by have:=(ht a1 h).1;lia
 have A:Arcs 12 ns (as++[a1]):=by
  refine⟨?_,λa ha=>?_⟩
  .rw[aap];refine⟨hA.nd,aas.mpr ⟨aar,aa0⟩,λx hx y hy=>?_⟩;rw[iR hy];rintro rfl;exact hnin hx
  .rcases mn ha with ha|ha
   .obtain⟨q1,q2,q3,q4,q5⟩:=hA.v a ha;exact⟨q1,by lia,q3,q4,by lia⟩
   .rw[iR ha];exact⟨by lia,Ta,hm,Ux,SV⟩
 have hl:(as++[a1]).length<=20:=by
  rw[eK];have:=Dr.l;show _+1<=_;lia
 refine D0 ⟨hn,by lia,hl,A.ag (abQ _) hn⟩ hk (DQ (Hj hn OT (by lia)) (JZ A (abQ _) (by lia)) (by rw[dX];lia) (sx hn) (by rw[dX];lia) (λa ha=>?_) λmet Le=>?_)
 .obtain⟨q1,q2,q3,q4,q5⟩:=A.v a ((cB dG).mp ha);exact⟨q4,q5⟩
 .have h1:∀x∈met,0<=x/\x<=top:=Le.least (λx=>0<=x/\x<=top) ⟨abQ _,h0⟩ λa ha hx=>by
   rcases mn ((cB dG).mp ha) with ha|ha
   .exact⟨(hA.v a ha).2.2.2.1,(ht a ha).2⟩
   .rw[iR ha]at hx;lia
  have h2:met.length<=(top+1).toNat:=kZ _ Le.nd λx hx=>by
   have:=h1 x hx;lia
  have h3:=(qE (ap:=bQ dG (as++[a1])) (a:=a1) ((cB dG).mpr (ZK _ ZI))).1;lia
end
variable{st:List Nat}
section
variable{k:Nat}{num:Int}
def jM(as:List Mi):Int:=qZ (as.map kO)
theorem Ap(as:List Mi):fF (tu 3 (cn (bj 0) (cn (bj 1) (cn (bj 2) jR)))) jj (a9 maxD (ah (ax 0) (ah (ax 2) ay))) (as.map eA) [none,none,none]=.ok ((as.map kO).map D.int):=by
 rw[dh (r:=λa:Mi=>D.int (kO a)) (λenv=>∃t1 t2 t3,env=[t1,t2,t3]) as ?_ _ ⟨_,_,_,rfl⟩]
 .rw[aah];rfl
 .rintro a _ env ⟨t1,t2,t3,rfl⟩;refine⟨_,jd a t1 t2 t3 _,?_⟩;simp?;exact⟨_,_,rfl,_,_,_,rfl⟩
theorem D1(h:as≠[]):PV.maxD [.lst ((as.map kO).map D.int)]=.ok (.f,.int (jM as)):=by
 have e:=Bp (as.map kO);unfold PV.maxD jM;dsimp only;rw[e];cases as with
 |nil=>exact absurd rfl h
 |cons a r=>rfl
theorem Ho(h:a∈as):a.1<=jM as/\a.2.2<=jM as:=by
 have h1:=uh (aaO.mpr ⟨a,h,rfl⟩:kO a∈as.map kO);obtain⟨h2,h3,_⟩:=mq a;unfold jM;lia
theorem Hq(h:as≠[]):∃a∈as,jM as=a.1\/jM as=a.2.2:=by
 have h1:=uk (ns:=as.map kO) (λz=>h (List.map_eq_nil_iff.mp z));obtain⟨a,ha,e⟩:=mF h1;obtain⟨_,_,h2⟩:=mq a;exact⟨a,ha,by unfold jM;rw[<-e];exact h2⟩
theorem D2(h0:0<ns.length)(num:Int):∃m∈ns,∃y:Int,dm (.int num) (.int (((ns.length+1:Nat):Int)-1))=.ok (.f,.int y)/\Mg (eW (LX::ns)) (.int (1+y))=.ok (.f,.str m):=by
 have hm:=gU num (((ns.length+1:Nat):Int)-1) (by lia);have hb:=jh num (((ns.length+1:Nat):Int)-1) (by lia);obtain⟨j,hj⟩:=Z5 hb.1;rw[hj]at hm hb;have hl:j<ns.length:=by lia
 refine⟨ns[j],aam hl,(j:Int),hm,?_⟩;have:Ow ((LX::ns).map D.str) ((j+1:Nat):Int)=some (.str ns[j]):=dw (by rw[Z9,adq,ug hl];rfl);rw[show((j+1:Nat):Int)=1+(j:Int) by lia]at this;unfold eW;simp![op,this]
theorem BD(h0:0<ns.length):∃m∈ns,Mg (eW (LX::ns)) (.int 1)=.ok (.f,.str m):=by
 cases ns with
 |nil=>exact absurd h0 (by decide)
 |cons n r=>
  refine⟨n,ZI,?_⟩;unfold eW;rw[j5,j5];simp![op,YI]
theorem Aq(ns:LNN):lenA [eW (LX::ns)]=.ok (.f,.int ((ns.length+1:Nat):Int)):=by rw[len_eW,ZR]
theorem BF(as:List Mi)(j:Nat):O7 (.lst (as.map eA)) none (some (j:Int))=.ok (.l .f,.lst ((as.take j).map eA)):=by
 show Res.ok (O.l .f,D.lst (eV (as.map eA) none (some (j:Int))))=_;rw[fO,<-acf]
theorem uE(as:List Mi)(j:Nat):O7 (.lst (as.map eA)) (some (j:Int)) none=.ok (.l .f,.lst ((as.drop j).map eA)):=by
 show Res.ok (O.l .f,D.lst (eV (as.map eA) (some (j:Int)) none))=_;rw[eE,<-abX]
theorem D3{x y:List Mi}(h:x.length+y.length<=1000):addD (.lst (x.map eA)) (.lst [eA a])=.ok (.l .f,.lst ((x++[a]).map eA))/\addD (.lst ((x++[a]).map eA)) (.lst (y.map eA))=.ok (.l .f,.lst ((x++[a]++y).map eA)):=by
 constructor
 .rw[mD (by rw[b9];show _+1<=_;lia),Z4];rfl
 .rw[mD (by rw[b9,b9,eK];show _+1+_<=_;lia),<-Z4]
theorem mE(hk:as[k]?=some a)(hl:as.length<=1000){rest:FS}:sSeq (cy 6 (aF Mg (ax 1) (ax 3))) (sSeq (cy 7 (a9 maxD (ah (aq (gc (OB (mJ 1) (OB (kG (bq 1)) (kH (bq 1)))) [none,none,none] (tu 3 (cn (bj 0) (cn (bj 1) (cn (bj 2) jR)))) jj (a9 maxD (ah (ax 0) (ah (ax 2) ay))))) ay))) rest) [some (.f,eW (LX::ns)),some (.f,.lst (as.map eA)),some (.f,.int (way:Int)),some (.f,.int (k:Int)),some (.f,.int num),some (.f,.str st),none,none,none]=rest [some (.f,eW (LX::ns)),some (.f,.lst (as.map eA)),some (.f,.int (way:Int)),some (.f,.int (k:Int)),some (.f,.int num),some (.f,.str st),some (.f,eA a),some (.f,.int (jM as)),none]:=by
 have NP:Mg (.lst (as.map eA)) (.int (k:Int))=.ok (.f,eA a):=by
  have:Ow (as.map eA) (k:Int)=some (eA a):=dw (by rw[Z9,hk];rfl);simp![op,this]
 have hc:=Ap as;have hm:=D1 (as:=as) (λz=>by rw[z]at hk;simp at hk);have hz:((as.map kO).map D.int).length<=sizeLine:=cY (by rw[b9];lia);have hf:=PV.flat_ints (as.map kO);generalize (as.map kO).map D.int=TT at hc hm hz hf;generalize jM as=TP at hm |-;generalize eA a=EA at NP |-;generalize as.map eA=EQ at NP hc |-;generalize eW (LX::ns)=EH;generalize (a9 maxD (ah (ax 0) (ah (ax 2) ay)))=GG at hc |-;rw[aP (env':=[some (.f,EH),some (.f,.lst EQ),some (.f,.int (way:Int)),some (.f,.int (k:Int)),some (.f,.int num),some (.f,.str st),some (.f,EA),none,none]) (by simp![pv,seval,NP])];rw[aP (env':=[some (.f,EH),some (.f,.lst EQ),some (.f,.int (way:Int)),some (.f,.int (k:Int)),some (.f,.int num),some (.f,.str st),some (.f,EA),some (.f,.int TP),none]) (by simp![pv,seval,hc,hz,hf,hm])]
theorem LD(hk:as[k]?=some a)(Pg:as.length<=1000)(hl:ns.length<=100){y:Int}{m:List Nat}(hm:dm (.int num) (.int (((ns.length+1:Nat):Int)-1))=.ok (.f,.int y))(hx:Mg (eW (LX::ns)) (.int (1+y))=.ok (.f,.str m))(hw:way=0):aQ [eW (LX::ns),.lst (as.map eA),.int (way:Int),.int (k:Int),.int num,.str st]=.ok (.f,.tup [eW (LX::(ns++[m])),.lst (as.map eA)]):=by
 have ND:=Aq ns;have q0:(((way:Nat):Int)==0)=true:=by rw[hw];rfl
 have a1:addD (eW (LX::ns)) (.lst [.str m])=.ok (.l .f,eW (LX::(ns++[m]))):=nJ (p:=LX::ns) (q:=[m]) (by rw[ZR];show _+1+1<=_;lia);unfold aQ bS;rw[aZ (h:=by rfl)];rw[show([eW (LX::ns),.lst (as.map eA),.int (way:Int),.int (k:Int),.int num,.str st].map (λd=>some (O.f,d))++List.replicate 3 none:PV.Env)=[some (.f,eW (LX::ns)),some (.f,.lst (as.map eA)),some (.f,.int (way:Int)),some (.f,.int (k:Int)),some (.f,.int num),some (.f,.str st),none,none,none] from rfl,mE hk Pg];generalize ((ns.length+1:Nat):Int)=NL at hm ND;generalize eW (LX::(ns++[m]))=R1 at a1 |-;generalize eW (LX::ns)=EH at ND hx a1 |-;generalize as.map eA=EQ;rw[NW];simp![pv,seval,kN,xH,gB,q0,ND,hm,hx,a1]
theorem yy{w:Int}(h:(way:Int)≠w)(a:Mi)(s:FS):M4 (Mw (bu Nr (ax 2) (aq (aA (.int w))))) s br [some (.f,eW (LX::ns)),some (.f,.lst (as.map eA)),some (.f,.int (way:Int)),some (.f,.int (k:Int)),some (.f,.int num),some (.f,.str st),some (.f,eA a),some (.f,.int (jM as)),none]=.ok (.nx [some (.f,eW (LX::ns)),some (.f,.lst (as.map eA)),some (.f,.int (way:Int)),some (.f,.int (k:Int)),some (.f,.int num),some (.f,.str st),some (.f,eA a),some (.f,.int (jM as)),none]):=by
 have q:(((way:Nat):Int)==w)=false:=aaj.mpr h;generalize eW (LX::ns)=EH;generalize as.map eA=EQ;generalize eA a=EA;simp![pv,seval,kN,q,fM]
theorem Hr(a:Mi):Mg (eA a) (.int 0)=.ok (.f,.int a.1)/\Mg (eA a) (.int 2)=.ok (.f,.int a.2.2):=⟨rfl,rfl⟩
theorem LF(hk:as[k]?=some a)(Pg:as.length<=500)(hw:way=1):aQ [eW (LX::ns),.lst (as.map eA),.int (way:Int),.int (k:Int),.int num,.str st]=.ok (.f,.tup [eW (LX::ns),.lst ((as.take k++[(a.1,st,a.2.2)]++as.drop k).map eA)]):=by
 have q1:(((way:Nat):Int)==1)=true:=by rw[hw];rfl
 have s1:=BF as k;have s2:=uE as k;obtain⟨a1,a2⟩:=D3 (x:=as.take k) (y:=as.drop k) (a:=(a.1,st,a.2.2)) (by rw[Z8,aai];lia);obtain⟨i0,i2⟩:=Hr a;unfold aQ bS;rw[aZ (h:=by rfl)];rw[show([eW (LX::ns),.lst (as.map eA),.int (way:Int),.int (k:Int),.int num,.str st].map (λd=>some (O.f,d))++List.replicate 3 none:PV.Env)=[some (.f,eW (LX::ns)),some (.f,.lst (as.map eA)),some (.f,.int (way:Int)),some (.f,.int (k:Int)),some (.f,.int num),some (.f,.str st),none,none,none] from rfl,mE hk (by lia)];rw[aP (yy (by lia) a _),NW];have a1:addD (.lst ((as.take k).map eA)) (.lst [.tup [.int a.1,.str st,.int a.2.2]])=_:=a1;generalize (as.take k++[(a.1,st,a.2.2)]++as.drop k).map eA=R3 at a2 |-;generalize (as.take k++[(a.1,st,a.2.2)]).map eA=R2 at a1 a2;generalize (as.take k).map eA=R1 at s1 a1;generalize (as.drop k).map eA=R0 at s2 a2;generalize eW (LX::ns)=EH;generalize as.map eA=EQ at s1 s2 |-;generalize eA a=EA at i0 i2 |-;simp![pv,seval,kN,q1,s1,s2,i0,i2,a1,a2]
theorem LG(hk:as[k]?=some a)(Pg:as.length<=500)(hj:num%((as.length:Int)+1)=(j:Int))(hw:way=2):aQ [eW (LX::ns),.lst (as.map eA),.int (way:Int),.int (k:Int),.int num,.str st]=.ok (.f,.tup [eW (LX::ns),.lst ((as.take j++[a]++as.drop j).map eA)]):=by
 have q2:(((way:Nat):Int)==2)=true:=by rw[hw];rfl
 have s1:=BF as j;have s2:=uE as j;obtain⟨a1,a2⟩:=D3 (x:=as.take j) (y:=as.drop j) (a:=a) (by rw[Z8,aai];lia);have hm:=gU num ((as.length:Int)+1) (by lia);rw[hj]at hm;have ND:lenA [.lst (as.map eA)]=.ok (.f,.int (as.length:Int)):=by
  show Res.ok (O.f,D.int (((as.map eA).length:Nat):Int))=_;rw[b9]
 unfold aQ bS;rw[aZ (h:=by rfl)];rw[show([eW (LX::ns),.lst (as.map eA),.int (way:Int),.int (k:Int),.int num,.str st].map (λd=>some (O.f,d))++List.replicate 3 none:PV.Env)=[some (.f,eW (LX::ns)),some (.f,.lst (as.map eA)),some (.f,.int (way:Int)),some (.f,.int (k:Int)),some (.f,.int num),some (.f,.str st),none,none,none] from rfl,mE hk (by lia)];rw[aP (yy (by lia) a _),aP (yy (by lia) a _),NW];generalize (as.take j++[a]++as.drop j).map eA=R3 at a2 |-;generalize (as.take j++[a]).map eA=R2 at a1 a2;generalize (as.take j).map eA=R1 at s1 a1;generalize (as.drop j).map eA=R0 at s2 a2;generalize (as.length:Int)=AL at ND hm;generalize eW (LX::ns)=EH;generalize as.map eA=EQ at s1 s2 ND |-;generalize eA a=EA at a1 |-;simp![pv,seval,kN,gB,q2,ND,hm,s1,s2,a1,a2]
theorem Hs{x:List Mi}(h:x.length<=500):addD (.lst (x.map eA)) (.lst [eA a])=.ok (.l .f,.lst ((x++[a]).map eA)):=(D3 (y:=[]) (by show _+0<=_;lia)).1
theorem LH(hk:as[k]?=some a)(Pg:as.length<=500){m:List Nat}(hx:Mg (eW (LX::ns)) (.int 1)=.ok (.f,.str m))(hw:way=3):∃y∈[(12:Int),13,10 ^ 30+num,60],aQ [eW (LX::ns),.lst (as.map eA),.int (way:Int),.int (k:Int),.int num,.str st]=.ok (.f,.tup [eW (LX::ns),.lst ((as++[(a.1,m,y)]).map eA)]):=by
 have q3:(((way:Nat):Int)==3)=true:=by rw[hw];rfl
 have Tc:=gU num 4 (by decide);have YT:wJ (.int 10) (.int 30)=.ok (.f,.int (10 ^ 30)):=by rw[xJ,ZY (by decide)];rfl
 obtain⟨y,hy,NB⟩:=mM D.int [(12:Int),13,10 ^ 30+num,60] num 4 rfl (by decide);obtain⟨i0,i2⟩:=Hr a;refine⟨y,hy,?_⟩;have a1:=Hs (x:=as) (a:=(a.1,m,y)) Pg;unfold aQ bS;rw[aZ (h:=by rfl)];rw[show([eW (LX::ns),.lst (as.map eA),.int (way:Int),.int (k:Int),.int num,.str st].map (λd=>some (O.f,d))++List.replicate 3 none:PV.Env)=[some (.f,eW (LX::ns)),some (.f,.lst (as.map eA)),some (.f,.int (way:Int)),some (.f,.int (k:Int)),some (.f,.int num),some (.f,.str st),none,none,none] from rfl,mE hk (by lia)];rw[aP (yy (by lia) a _),aP (yy (by lia) a _),aP (yy (by lia) a _),NW];have a1:addD (.lst (as.map eA)) (.lst [.tup [.int a.1,.str m,.int y]])=_:=a1;have NB:Mg (.lst [.int 12,.int 13,.int (10 ^ 30+num),.int 60]) (.int (num%4))=.ok (.f,.int y):=NB;generalize (10:Int) ^ 30=P30 at YT NB;generalize num%4=n4 at Tc NB;generalize (as++[(a.1,m,y)]).map eA=R2 at a1 |-;generalize eW (LX::ns)=EH at hx |-;generalize as.map eA=EQ at a1 |-;generalize eA a=EA at i0 |-;simp![pv,↓reduceIte,Nat.reduceAdd,Nat.reduceLT,Nat.reduceLeDiff,Nat.reduceEqDiff,kN,gB,q3,YT,Tc,NB,hx,i0,a1]
theorem LI(hk:as[k]?=some a)(Pg:as.length<=500){m:List Nat}(hx:Mg (eW (LX::ns)) (.int 1)=.ok (.f,.str m))(hw:way=4):∃y∈[jM as+2,0,jM as+1],aQ [eW (LX::ns),.lst (as.map eA),.int (way:Int),.int (k:Int),.int num,.str st]=.ok (.f,.tup [eW (LX::ns),.lst ((as++[(jM as+1+num%3,m,y)]).map eA)]):=by
 have Tb:=gU num 3 (by decide);have YR:=mx num 3 (by decide) (by decide);have Td:=gU (num / 3) 3 (by decide);obtain⟨y,hy,NB⟩:=mM D.int [jM as+2,0,jM as+1] (num / 3) 3 rfl (by decide);refine⟨y,hy,?_⟩;have a1:=Hs (x:=as) (a:=(jM as+1+num%3,m,y)) Pg;unfold aQ bS;rw[aZ (h:=by rfl)];rw[show([eW (LX::ns),.lst (as.map eA),.int (way:Int),.int (k:Int),.int num,.str st].map (λd=>some (O.f,d))++List.replicate 3 none:PV.Env)=[some (.f,eW (LX::ns)),some (.f,.lst (as.map eA)),some (.f,.int (way:Int)),some (.f,.int (k:Int)),some (.f,.int num),some (.f,.str st),none,none,none] from rfl,mE hk (by lia)];rw[aP (yy (by lia) a _),aP (yy (by lia) a _),aP (yy (by lia) a _),aP (yy (by lia) a _)];have a1:addD (.lst (as.map eA)) (.lst [.tup [.int (jM as+1+num%3),.str m,.int y]])=_:=a1;have NB:Mg (.lst [.int (jM as+2),.int 0,.int (jM as+1)]) (.int (num / 3%3))=.ok (.f,.int y):=NB;generalize (as++[(jM as+1+num%3,m,y)]).map eA=R2 at a1 |-;generalize num / 3%3=n33 at Td NB;generalize num%3=n3 at Tb a1;generalize jM as=TP at a1 NB |-;generalize eW (LX::ns)=EH at hx |-;generalize as.map eA=EQ at a1 |-;generalize eA a=EA;simp![pv,seval,gB,Tb,YR,Td,NB,hx,a1]
end
section
variable{k:Nat}{num:Int}
theorem D4(hn:∀n∈ns,bD n=true)(OT:ns.Nodup)(h0:0<ns.length)(h4:ns.length<=4)(Dr:Drawn cnt ns as)(hk:k<as.length)(Oz:bD st=true)(Tp:st∉ns)(Xd:0<=num/\num<10 ^ 12)(hw:way<5):∃Tz as1,Sf Tz as1 k/\aQ [eW (LX::ns),.lst (as.map eA),.int (way:Int),.int (k:Int),.int num,.str st]=.ok (.f,.tup [eW (LX::Tz),.lst (as1.map eA)]):=by
 have c1:=Dr.c1;have c6:=Dr.c6;have hl:=Dr.l;have hA:=Dr.a;have ag:=hA.ag (by lia) hn;have NP:as[k]?=some as[k]:=ug hk;have ha:=aam hk;have g:=ag _ ha;generalize as[k]=a at NP ha g;have:way=0\/way=1\/way=2\/way=3\/way=4:=by lia
 rcases this with h|h|h|h|h
 .obtain⟨m,hm,y,h1,h2⟩:=D2 h0 num;exact⟨_,_,Ao hn h4 Dr hk hm,LD NP (by lia) (by lia) h1 h2 h⟩
 .refine⟨_,_,yt hn OT h4 (as1:=as.take k++[(a.1,st,a.2.2)]++as.drop k) (λb hb=>?_) ?_ ?_ (.inr ⟨(a.1,st,a.2.2),ZX _ (ZK _ ZI),?_⟩),LF NP (by lia) h⟩
  .rcases mn hb with hb|hb
   .rcases mn hb with hb|hb
    .exact ag b (aaU hb)
    .rw[iR hb];exact⟨g.f,Oz,g.s⟩
   .exact ag b (abg hb)
  .rw[eK,eK,Z8,aai];show _+1+_<=_;lia
  .rw[eK,eK,Z8,aai];show _<_+1+_;lia
  .unfold jH;have:decide (st∈bQ ltS ns)=false:=Z7 λz=>Tp ((cB ltS).mp z)
   show(eC a.1&&(decide (st∈bQ ltS ns)&&eC a.2.2))=false;rw[this,aaG,abu]
 .have hb:=jh num ((as.length:Int)+1) (by lia);obtain⟨j,hj⟩:=Z5 hb.1;refine⟨_,_,yt hn OT h4 (as1:=as.take j++[a]++as.drop j) (λb hb=>?_) ?_ ?_ (.inl λOT=>?_),LG NP (by lia) hj h⟩
  .rcases mn hb with hb|hb
   .rcases mn hb with hb|hb
    .exact ag b (aaU hb)
    .rw[iR hb];exact g
   .exact ag b (abg hb)
  .rw[eK,eK,Z8,aai];show _+1+_<=_;lia
  .rw[eK,eK,Z8,aai];show _<_+1+_;lia
  .rw[aaa]at OT;have hp:(as.take j++([a]++as.drop j)).Perm (a::(as.take j++as.drop j)):=List.perm_middle;rw[hp.nodup_iff,List.take_append_drop,aas]at OT;exact OT.1 ha
 .obtain⟨m,hm,hx⟩:=BD h0;obtain⟨y,hy,e⟩:=LH (ns:=ns) (way:=way) (num:=num) (st:=st) NP (by lia) hx h;have Xe:Nm y/\eC y=false:=by
   have key:12<=y/\y<10 ^ 60:=by
    have YT:(0:Int)<10 ^ 30:=by decide
    have p60:(10:Int) ^ 30+10 ^ 12<10 ^ 60:=by decide +kernel
    have p33:(12:Int)<=10 ^ 30:=by decide
    have YU:(60:Int)<10 ^ 60:=by decide +kernel
    rcases ZJ.mp hy with rfl|hy
    .exact⟨by decide,aew (by decide) YU⟩
    .rcases ZJ.mp hy with rfl|hy
     .exact⟨by decide,aew (by decide) YU⟩
     .rcases ZJ.mp hy with rfl|hy
      .exact⟨Int.le_trans p33 (Int.le_add_of_nonneg_right Xd.1),aew (Int.add_lt_add_left Xd.2 _) p60⟩
      .rw[iR hy];exact⟨by decide,YU⟩
   refine⟨⟨Int.le_trans (by decide) key.1,key.2⟩,?_⟩;unfold eC;have:decide (y<12)=false:=Z7 (Int.not_lt.mpr key.1);rw[this,abu]
  refine⟨_,_,yt hn OT h4 (as1:=as++[(a.1,m,y)]) (λb hb=>?_) ?_ ?_ (.inr ⟨(a.1,m,y),ZK _ ZI,?_⟩),e⟩
  .rcases mn hb with hb|hb
   .exact ag b hb
   .rw[iR hb];exact⟨g.f,hn m hm,Xe.1⟩
  .rw[eK];show _+1<=_;lia
  .rw[eK];show _<_+1;lia
  .unfold jH;show(eC a.1&&(decide (m∈bQ ltS ns)&&eC y))=false;rw[Xe.2,abu,abu]
 .obtain⟨m,hm,hx⟩:=BD h0;obtain⟨y,hy,e⟩:=LI (ns:=ns) (way:=way) (num:=num) (st:=st) NP (by lia) hx h;have Xf:0<=jM as/\jM as<cnt:=by
   obtain⟨b,hb,e⟩:=Hq Dr.ne;obtain⟨q1,q2,q3,q4,q5⟩:=hA.v b hb;rcases e with e|e <;> lia
  have hb3:=jh num 3 (by decide);have Xe:0<=y/\y<12:=by
   rcases ZJ.mp hy with rfl|hy
   .lia
   .rcases ZJ.mp hy with rfl|hy
    .lia
    .rw[iR hy];lia
  refine⟨_,_,Hn (a1:=(jM as+1+num%3,m,y)) hn OT h4 Dr Xf.1 Xf.2 (λb hb=>Ho hb) ?_ ?_ hm Xe.1 Xe.2 ?_,e⟩
  .show jM as<jM as+1+num%3;lia
  .show jM as+1+num%3<12;lia
  .rw[eK];show _<_+1;lia
end
section
theorem BG(h:x_read_chart [.str T]=true):cD [.str T]=.ok (.f,.str [116,101,120,116]):=by
 unfold cD Vb;rw[ZY h]
theorem Ht(h:bG [.str T]=true):cN [.str T]=.ok (.f,.str [99,104,97,114,116]):=by
 unfold cN Vb;rw[ZY h]
theorem BH{o:O}{r:D}(h:cV [.str T]=.ok (o,r)):cj [.str T]=.ok (.f,.str []):=by
 have hi:VO .non .non=.ok (.f,.bl true):=rfl;unfold cj lY;rw[aZ (h:=by rfl)];rw[aP (env':=[some (.f,.str T),some (.f,.non),none]) (by simp?)];rw[aP (env':=[some (.f,.str T),some (.f,.non),none]) (by
  cases hc:cO o r <;> simp?[h,hc,j5,ab5,frzS,HG,fM])]
 rw[NW];simp?[hi]
end
def gtr:List (Nat×Nat×Nat):=(List.range 24).map (λj=>(j%12,j / 12%2,(j+1)%12))++(List.range 24).map (λj=>(j%12,j / 12,(j+2)%12))++(List.range 12).map (λj=>(j,0,j))
theorem Hu:gtr.Nodup:=by decide +kernel
theorem D5:∀x∈gtr,x.1<12/\x.2.1<2/\x.2.2<12:=by decide +kernel
theorem D6:∀t:Nat,t<11->(t,0,t+1)∈gtr:=by decide +kernel
variable{NM:LNN}
section
def gA(NM:LNN)(x:Nat×Nat×Nat):Mi:=((x.1:Int),NM.getD x.2.1 [],(x.2.2:Int))
theorem Hv(h2:2<=NM.length)(hj:j<2):NM.getD j []∈NM:=by
 rw[aab,ug (by lia)];exact aam _
theorem D7(OT:NM.Nodup)(h2:2<=NM.length):Arcs 12 NM (gtr.map (gA NM)):=by
 refine⟨?_,λa ha=>?_⟩
 .have hp:gtr.Pairwise (·≠·):=Hu;refine List.Pairwise.map (R:=λx y=>x≠y/\x∈gtr/\y∈gtr) _ (λx y h e=>?_) ?_
  .obtain⟨Ox,hx,hy⟩:=h;apply Ox;injection e with e1 e2;injection e2 with e2 e3;have vx:=D5 x hx;have vy:=D5 y hy;have e1:x.1=y.1:=by lia
   have e3:x.2.2=y.2.2:=by lia
   have e2:x.2.1=y.2.1:=by
    rw[aab,aab,ug (by lia),ug (by lia)]at e2;exact(List.getElem_inj OT).mp e2
   exact Prod.ext e1 (Prod.ext e2 e3)
  .exact List.Pairwise.imp_of_mem (λhx hy h=>⟨h,hx,hy⟩) hp
 .obtain⟨x,hx,rfl⟩:=mF ha;obtain⟨v1,v2,v3⟩:=D5 x hx;exact⟨by show(0:Int)<=(x.1:Int);lia,by show(x.1:Int)<12;lia,Hv h2 v2,by show(0:Int)<=(x.2.2:Int);lia,by show(x.2.2:Int)<12;lia⟩
theorem D8(hn:∀n∈NM,bD n=true)(OT:NM.Nodup)(h2:2<=NM.length)(h5:NM.length<=5):∃T,bV [eW (LX::NM),.lst ((gtr.map (gA NM)).map eA)]=.ok (.f,.str T)/\cj [.str T]=.ok (.f,.str []):=by
 have A:=D7 OT h2;have ag:=A.ag (abQ _) hn;have hl:(gtr.map (gA NM)).length=60:=by rw[b9];rfl
 obtain⟨hs,hp⟩:=HK (ns:=NM) hn h5 ag (by lia);have hx:=oV (h:=LX::NM) (ps:=(gtr.map (gA NM)).map thA) (λl hl t ht=>by
  obtain⟨a,ha,rfl⟩:=mF hl;exact(ag a ha).ok t ht) (by rw[b9];lia) hs
 rw[qO]at hx;obtain⟨o,r,e⟩:=yi hp h5 hn ag (by lia) (qN hn OT h5 A (by decide) (abQ _) (by lia) λt t0 t1=>by
  obtain⟨n,rfl⟩:=Z5 (Int.le_of_lt t0);obtain⟨j,rfl⟩:∃j,n=j+1:=⟨n-1,by lia⟩
  exact⟨gA NM (j,0,j+1),aaO.mpr ⟨_,D6 j (by lia),rfl⟩,rfl,by show(j:Int)<((j+1:Nat):Int);lia⟩)
 exact⟨_,hx,BH e⟩
end
section
theorem D9(h2:2<=NM.length)(hi:i<2):Mg (.lst (NM.map D.str)) (.int (i:Int))=.ok (.f,.str (NM.getD i [])):=by
 have:Ow (NM.map D.str) (i:Int)=some (.str (NM.getD i [])):=dw (by rw[Z9,aab,ug (by lia)];rfl);simp![op,this]
theorem Hw(j b:Nat)(h:0<b):dm (.int (j:Int)) (.int (b:Int))=.ok (.f,.int ((j%b:Nat):Int)):=by
 rw[gU _ _ (by lia)];rfl
theorem Hx(j b:Nat)(h:0<b)(hb:b<=1000):eQ (.int (j:Int)) (.int (b:Int))=.ok (.f,.int ((j / b:Nat):Int)):=by
 rw[mx _ _ (by lia) (by lia)];rfl
theorem LJ(h2:2<=NM.length):fF (bj 0) jj (iG (aw (aF dm (ax 0) (aq (aA (.int 12)))) (aw (aF Mg (ax 1) (aq (aF dm (aq (aF eQ (ax 0) (aq (aA (.int 12))))) (aq (aA (.int 2)))))) (aw (aF dm (aq (aF addD (ax 0) (aq (aA (.int 1))))) (aq (aA (.int 12)))) aX)))) ((List.range 24).map λ(k:Nat)=>D.int (k:Int)) [none,some (.f,.lst (NM.map D.str))]=.ok ((((List.range 24).map λj=>(j%12,j / 12%2,(j+1)%12)).map (gA NM)).map eA):=by
 rw[aah,aah];refine dh (e:=λ(k:Nat)=>D.int (k:Int)) (λenv=>∃t,env=[t,some (.f,.lst (NM.map D.str))]) (List.range 24) ?_ _ ⟨none,rfl⟩;rintro j hj env ⟨t,rfl⟩;have e1:dm (.int (j:Int)) (.int 12)=.ok (.f,.int ((j%12:Nat):Int)):=Hw j 12 (by decide);have e2:eQ (.int (j:Int)) (.int 12)=.ok (.f,.int ((j / 12:Nat):Int)):=Hx j 12 (by decide) (by decide);have e3:dm (.int ((j / 12:Nat):Int)) (.int 2)=.ok (.f,.int ((j / 12%2:Nat):Int)):=Hw (j / 12) 2 (by decide);have e4:dm (.int ((j:Int)+1)) (.int 12)=.ok (.f,.int (((j+1)%12:Nat):Int)):=Hw (j+1) 12 (by decide);have e5:=D9 h2 (i:=j / 12%2) (by lia);refine⟨[some (.f,.int (j:Int)),some (.f,.lst (NM.map D.str))],rfl,.f,[some (.f,.int (j:Int)),some (.f,.lst (NM.map D.str))],?_,_,rfl⟩;show _=Res.ok ((O.f,D.tup [.int ((j%12:Nat):Int),.str (NM.getD (j / 12%2) []),.int (((j+1)%12:Nat):Int)]),_);generalize NM.map D.str=NN at e5 |-;simp![pv,seval,gB,e1,e2,e3,e4,e5]
theorem LK(h2:2<=NM.length):fF (bj 0) jj (iG (aw (aF dm (ax 0) (aq (aA (.int 12)))) (aw (aF Mg (ax 1) (aq (aF eQ (ax 0) (aq (aA (.int 12)))))) (aw (aF dm (aq (aF addD (ax 0) (aq (aA (.int 2))))) (aq (aA (.int 12)))) aX)))) ((List.range 24).map λ(k:Nat)=>D.int (k:Int)) [none,some (.f,.lst (NM.map D.str))]=.ok ((((List.range 24).map λj=>(j%12,j / 12,(j+2)%12)).map (gA NM)).map eA):=by
 rw[aah,aah];refine dh (e:=λ(k:Nat)=>D.int (k:Int)) (λenv=>∃t,env=[t,some (.f,.lst (NM.map D.str))]) (List.range 24) ?_ _ ⟨none,rfl⟩;rintro j hj env ⟨t,rfl⟩;have hj:=aaY.mp hj;have e1:dm (.int (j:Int)) (.int 12)=.ok (.f,.int ((j%12:Nat):Int)):=Hw j 12 (by decide);have e2:eQ (.int (j:Int)) (.int 12)=.ok (.f,.int ((j / 12:Nat):Int)):=Hx j 12 (by decide) (by decide);have e4:dm (.int ((j:Int)+2)) (.int 12)=.ok (.f,.int (((j+2)%12:Nat):Int)):=Hw (j+2) 12 (by decide);have e5:=D9 h2 (i:=j / 12) (by lia);refine⟨[some (.f,.int (j:Int)),some (.f,.lst (NM.map D.str))],rfl,.f,[some (.f,.int (j:Int)),some (.f,.lst (NM.map D.str))],?_,_,rfl⟩;show _=Res.ok ((O.f,D.tup [.int ((j%12:Nat):Int),.str (NM.getD (j / 12) []),.int (((j+2)%12:Nat):Int)]),_);generalize NM.map D.str=NN at e5 |-;simp![pv,seval,gB,e1,e2,e4,e5]
theorem LM(h2:2<=NM.length):fF (bj 0) jj (iG (aw (bq 0) (aw (aF Mg (ax 1) (aq (aA (.int 0)))) (aw (bq 0) aX)))) ((List.range 12).map λ(k:Nat)=>D.int (k:Int)) [none,some (.f,.lst (NM.map D.str))]=.ok ((((List.range 12).map λj=>(j,0,j)).map (gA NM)).map eA):=by
 rw[aah,aah];refine dh (e:=λ(k:Nat)=>D.int (k:Int)) (λenv=>∃t,env=[t,some (.f,.lst (NM.map D.str))]) (List.range 12) ?_ _ ⟨none,rfl⟩;rintro j hj env ⟨t,rfl⟩;have e5:Mg (.lst (NM.map D.str)) (.int 0)=.ok (.f,.str (NM.getD 0 [])):=D9 h2 (i:=0) (by decide);refine⟨[some (.f,.int (j:Int)),some (.f,.lst (NM.map D.str))],rfl,.f,[some (.f,.int (j:Int)),some (.f,.lst (NM.map D.str))],?_,_,rfl⟩;show _=Res.ok ((O.f,D.tup [.int (j:Int),.str (NM.getD 0 []),.int (j:Int)]),_);generalize NM.map D.str=NN at e5 |-;simp![pv,seval,e5]
end
theorem law_plain:∀ns:List Int,ns.length<=63->∃o,m_law [.lst (ns.map D.int)]=.ok (o,.bl true):=by
 intro ns _;have c0:aG [.lst (ns.map D.int),.int 0]=.ok (.f,.int (cell ns 0)):=eL ns 0;have c1:aG [.lst (ns.map D.int),.int 1]=.ok (.f,.int (cell ns 1)):=eL ns 1;have c8:aG [.lst (ns.map D.int),.int 8]=.ok (.f,.int (cell ns 8)):=eL ns 8;have c9:aG [.lst (ns.map D.int),.int 9]=.ok (.f,.int (cell ns 9)):=eL ns 9;have YV:aG [.lst (ns.map D.int),.int 10]=.ok (.f,.int (cell ns 10)):=eL ns 10;have YW:aG [.lst (ns.map D.int),.int 11]=.ok (.f,.int (cell ns 11)):=eL ns 11;obtain⟨f,Xb,Ta,ZE⟩:=DU (cell ns 0) (cell ns 1);have m3:=gU (cell ns 8) 3 (by decide);have b3:=jh (cell ns 8) 3 (by decide);obtain⟨n',Vz⟩:=Z5 (show 0<=2+cell ns 8%3 by lia);have en:=ZE n' (by lia);have XT:cH [.int (cell ns 0),.int (cell ns 1),.int 12]=.ok (.l .f,.lst (((List.range 12).map f).map D.str)):=ZE 12 (by decide);have YX:Mg (.lst (((List.range 12).map f).map D.str)) (.int 11)=.ok (.f,.str (f 11)):=rfl;have OT:((List.range n').map f).Nodup:=mv f n' λi j hi hj e=>Ta i j (by lia) (by lia) e
 have Oz:f 11∉(List.range n').map f:=λh=>by
  obtain⟨i,hi,e⟩:=mF h;have hi:=aaY.mp hi;have:=Ta i 11 (by lia) (by decide) e;lia
 have hn:∀n∈(List.range n').map f,bD n=true:=λn h=>by
  obtain⟨i,_,rfl⟩:=mF h;exact Xb i
 have hl:((List.range n').map f).length=n':=by rw[b9,aal]
 generalize (List.range n').map f=NM at en OT Oz hn hl;have Xg:=Xb 11;have Xh:=PV.flat_strs ((List.range 12).map f);generalize ((List.range 12).map f).map D.str=N12 at XT YX Xh;generalize f 11=st at YX Oz Xg;obtain⟨cnt,as,Dr,XU⟩:=G9 ns NM (λz=>by rw[z]at hl;rw[abV]at hl;lia);have hDl:=Dr.l;have c6:=Dr.c6;have ag:=Dr.a.ag (by lia) hn;have F:Fm NM as:=⟨hn,by lia,by lia,ag⟩
 have SW:0<as.length:=aaQ.mpr Dr.ne;obtain⟨hs,hp⟩:=HK (ns:=NM) hn (by lia) ag (by lia);have Xi:=oV (h:=LX::NM) (ps:=as.map thA) (λl hl t ht=>by
  obtain⟨a,ha,rfl⟩:=mF hl;exact(ag a ha).ok t ht) (by rw[b9];lia) hs
 rw[qO]at Xi;obtain⟨_,_,erd⟩:=yi hp (by lia) hn ag (by lia) (qN hn OT (by lia) Dr.a Dr.c1 (by lia) (by lia) Dr.low);have ZF:=BH erd;have Ox:OW (.str []) (.str [])=.ok (.f,.bl false):=by
  unfold OW;rw[show plainD 40 (.str [])=true from rfl,Mv];rfl
 have heq:∀l:List Nat,Nr (.str l) (.str l)=.ok (.f,.bl true):=λl=>by
  unfold Nr;rw[show plainD 40 (.str l)=true from rfl,Mv,aaS];rfl
 have Ql:cO (.l .f) (.lst (as.map eA))=true:=by
  rw[fL];exact dC as
 have ND:lenA [.lst (as.map eA)]=.ok (.f,.int (as.length:Int)):=by
  show Res.ok (O.f,D.int (((as.map eA).length:Nat):Int))=_;rw[b9]
 have mk:=gU (cell ns 9) (as.length:Int) (by lia);have bk:=jh (cell ns 9) (as.length:Int) (by lia);obtain⟨k,hk⟩:=Z5 bk.1;rw[hk]at mk bk;have ZG:k<as.length:=by lia
 have UB:=Dv;have XW:=gU (cell ns 10) (10 ^ 12) (by decide);have YY:=jh (cell ns 10) (10 ^ 12) (by decide);generalize cell ns 10%10 ^ 12=num at XW YY;have hq5:0<=num / 5/\num / 5<10 ^ 12:=by
  have:num<1000000000000:=YY.2;have h0:=YY.1;exact⟨by lia,by show num / 5<1000000000000;lia⟩
 generalize (10:Int) ^ 12=Zx at UB XW;have m4:=gU (cell ns 11) 4 (by decide);have b4:=jh (cell ns 11) 4 (by decide);generalize cell ns 11%4=way at m4 b4;have a1:addD (.lst [.str [109,111,118,101,115]]) (.lst (NM.map D.str))=.ok (.l .f,eW (LX::NM)):=nJ (p:=[LX]) (q:=NM) (by show 1+_<=_;lia);have Ry:=PV.flat_strs NM;unfold m_law FY;rw[aZ (h:=by rfl)];generalize cell ns 0=C0 at c0 en XT;generalize cell ns 1=C1 at c1 en XT;generalize cell ns 8=C8 at c8 m3 Vz;generalize cell ns 9=C9 at c9 mk;generalize cell ns 10=C10 at YV XW;generalize cell ns 11=C11 at YW m4;generalize ns.map D.int=NS at c0 c1 c8 c9 YV YW XU |-;rw[aP (env':=[some (.f,.lst NS),some (.l .f,.lst (NM.map D.str)),none,none,none,none,none,none,none]) (by
  generalize NM.map D.str=N1 at en Ry |-;simp![pv,↓reduceIte,Nat.reduceAdd,Nat.reduceLT,Nat.reduceLeDiff,Nat.reduceEqDiff,gB,c0,c1,c8,m3,Vz,en,Ry,aV,fL,cQ])]
 rw[aP (env':=[some (.f,.lst NS),some (.l .f,.lst (NM.map D.str)),some (.l .f,eW (LX::NM)),none,none,none,none,none,none]) (by
  generalize eW (LX::NM)=EH at a1 |-;generalize NM.map D.str=N1 at a1 |-;simp![pv,↓reduceIte,Nat.reduceAdd,Nat.reduceLT,Nat.reduceLeDiff,Nat.reduceEqDiff,a1])]
 rw[aP (env':=[some (.f,.lst NS),some (.l .f,.lst (NM.map D.str)),some (.l .f,eW (LX::NM)),some (.l .f,.lst (as.map eA)),none,none,none,none,none]) (by
  generalize eW (LX::NM)=EH;generalize NM.map D.str=N1 at XU |-;generalize as.map eA=EQ at XU Ql |-;simp![pv,↓reduceIte,Nat.reduceAdd,Nat.reduceLT,Nat.reduceLeDiff,Nat.reduceEqDiff,XU,Ql])]
 rw[aP (env':=[some (.f,.lst NS),some (.l .f,.lst (NM.map D.str)),some (.l .f,eW (LX::NM)),some (.l .f,.lst (as.map eA)),none,none,none,none,none]) (by
  generalize tx (LX::NM) ((as.map thA).map wP)=TX at Xi ZF;generalize eW (LX::NM)=EH at Xi |-;generalize NM.map D.str=N1;generalize as.map eA=EQ at Xi |-;simp![pv,↓reduceIte,Nat.reduceAdd,Nat.reduceLT,Nat.reduceLeDiff,Nat.reduceEqDiff,Xi,ZF,Ox,aV,cR,fM])]
 rw[aP (env':=[some (.f,.lst NS),some (.l .f,.lst (NM.map D.str)),some (.l .f,eW (LX::NM)),some (.l .f,.lst (as.map eA)),some (.f,.int (k:Int)),none,none,none,none]) (by
  generalize (as.length:Int)=QL at ND mk;generalize eW (LX::NM)=EH;generalize NM.map D.str=N1;generalize as.map eA=EQ at ND |-;simp![pv,↓reduceIte,Nat.reduceAdd,Nat.reduceLT,Nat.reduceLeDiff,Nat.reduceEqDiff,c9,ND,mk,aV,cQ])]
 rw[aP (env':=[some (.f,.lst NS),some (.l .f,.lst (NM.map D.str)),some (.l .f,eW (LX::NM)),some (.l .f,.lst (as.map eA)),some (.f,.int (k:Int)),some (.f,.int num),none,none,none]) (by
  generalize eW (LX::NM)=EH;generalize NM.map D.str=N1;generalize as.map eA=EQ;simp![pv,↓reduceIte,Nat.reduceAdd,Nat.reduceLT,Nat.reduceLeDiff,Nat.reduceEqDiff,YV,UB,XW,aV,cQ])]
 rw[aP (env':=[some (.f,.lst NS),some (.l .f,.lst (NM.map D.str)),some (.l .f,eW (LX::NM)),some (.l .f,.lst (as.map eA)),some (.f,.int (k:Int)),some (.f,.int num),some (.f,.int way),none,none]) (by
  generalize eW (LX::NM)=EH;generalize NM.map D.str=N1;generalize as.map eA=EQ;simp![pv,↓reduceIte,Nat.reduceAdd,Nat.reduceLT,Nat.reduceLeDiff,Nat.reduceEqDiff,YW,m4,aV,cQ])]
 have no:∀w:Int,way≠w->∀s:FS,M4 (Mw (bu Nr (ax 6) (aq (aA (.int w))))) s br [some (.f,.lst NS),some (.l .f,.lst (NM.map D.str)),some (.l .f,eW (LX::NM)),some (.l .f,.lst (as.map eA)),some (.f,.int (k:Int)),some (.f,.int num),some (.f,.int way),none,none]=.ok (.nx [some (.f,.lst NS),some (.l .f,.lst (NM.map D.str)),some (.l .f,eW (LX::NM)),some (.l .f,.lst (as.map eA)),some (.f,.int (k:Int)),some (.f,.int num),some (.f,.int way),none,none]):=λw hw s=>by
  have q:(way==w)=false:=aaj.mpr hw;generalize eW (LX::NM)=EH;generalize NM.map D.str=N1;generalize as.map eA=EQ;simp![pv,↓reduceIte,Nat.reduceAdd,Nat.reduceLT,Nat.reduceLeDiff,Nat.reduceEqDiff,kN,q,fM]
 by_cases w0:way=0
 .have q:(way==0)=true:=by rw[w0];rfl
  have g1:=LJ (NM:=NM) (by lia);have g2:=LK (NM:=NM) (by lia);have g3:=LM (NM:=NM) (by lia);obtain⟨T,t1,t2⟩:=D8 hn OT (by lia) (by lia);have eg:(gtr.map (gA NM)).map eA=(((List.range 24).map λj=>(j%12,j / 12%2,(j+1)%12)).map (gA NM)).map eA++(((List.range 24).map λj=>(j%12,j / 12,(j+2)%12)).map (gA NM)).map eA++(((List.range 12).map λj=>(j,0,j)).map (gA NM)).map eA:=by
   unfold gtr;rw[Z4,Z4,Z4,Z4]
  have z1:=dC (((List.range 24).map λj=>(j%12,j / 12%2,(j+1)%12)).map (gA NM));have z2:=dC (((List.range 24).map λj=>(j%12,j / 12,(j+2)%12)).map (gA NM));have z3:=dC (((List.range 12).map λj=>(j,0,j)).map (gA NM));have y1:((((List.range 24).map λj=>(j%12,j / 12%2,(j+1)%12)).map (gA NM)).map eA).length<=24:=by rw[b9,b9,b9,aal];exact ZO _
  have y2:((((List.range 24).map λj=>(j%12,j / 12,(j+2)%12)).map (gA NM)).map eA).length<=24:=by rw[b9,b9,b9,aal];exact ZO _
  have y3:((((List.range 12).map λj=>(j,0,j)).map (gA NM)).map eA).length<=24:=by rw[b9,b9,b9,aal];decide
  rw[eg]at t1;generalize (((List.range 24).map λj=>(j%12,j / 12%2,(j+1)%12)).map (gA NM)).map eA=L1 at g1 z1 y1 t1;generalize (((List.range 24).map λj=>(j%12,j / 12,(j+2)%12)).map (gA NM)).map eA=L2 at g2 z2 y2 t1;generalize (((List.range 12).map λj=>(j,0,j)).map (gA NM)).map eA=L3 at g3 z3 y3 t1;have x1:L1.length<=sizeLine:=line_le (by lia);have x2:L2.length<=sizeLine:=line_le (by lia);have x3:L3.length<=sizeLine:=line_le (by lia);have d1:=mD (x:=L1) (y:=L2) (by lia);have d2:=mD (x:=L1++L2) (y:=L3) (by rw[eK];lia);have he:=heq [];refine⟨.f,?_⟩;rw[NW];generalize L1++L2++L3=M3 at d2 t1;generalize L1++L2=M2 at d1 d2;have YZ:∀env:PV.Env,dA (aq (aA (.int 24))) env=.ok ((List.range 24).map λ(k:Nat)=>D.int (k:Int),env):=λenv=>qG 24 (by decide) (by decide) _ env env (.val (.int 24)) rfl rfl
  have Y0:∀env:PV.Env,dA (aq (aA (.int 12))) env=.ok ((List.range 12).map λ(k:Nat)=>D.int (k:Int),env):=λenv=>qG 12 (by decide) (by decide) _ env env (.val (.int 12)) rfl rfl
  generalize (List.range 24).map (λ(k:Nat)=>D.int (k:Int))=R24 at g1 g2 YZ;generalize (List.range 12).map (λ(k:Nat)=>D.int (k:Int))=R12 at g3 Y0;generalize eW (LX::NM)=EH at t1 |-;generalize NM.map D.str=N1 at g1 g2 g3 |-;generalize as.map eA=EQ;generalize (iG (aw (aF dm (ax 0) (aq (aA (.int 12)))) (aw (aF Mg (ax 1) (aq (aF dm (aq (aF eQ (ax 0) (aq (aA (.int 12))))) (aq (aA (.int 2)))))) (aw (aF dm (aq (aF addD (ax 0) (aq (aA (.int 1))))) (aq (aA (.int 12)))) aX))))=G1 at g1 |-;generalize (iG (aw (aF dm (ax 0) (aq (aA (.int 12)))) (aw (aF Mg (ax 1) (aq (aF eQ (ax 0) (aq (aA (.int 12)))))) (aw (aF dm (aq (aF addD (ax 0) (aq (aA (.int 2))))) (aq (aA (.int 12)))) aX))))=G2 at g2 |-;generalize (iG (aw (bq 0) (aw (aF Mg (ax 1) (aq (aA (.int 0)))) (aw (bq 0) aX))))=G3 at g3 |-;generalize dA (aq (aA (.int 24)))=I24 at YZ |-;generalize dA (aq (aA (.int 12)))=I12 at Y0 |-;simp![pv,↓reduceIte,Nat.reduceAdd,Nat.reduceLT,Nat.reduceLeDiff,Nat.reduceEqDiff,kN,q,YZ,Y0,g1,g2,g3,x1,x2,x3,z1,z2,z3,d1,d2,t1,t2,he,aV,cR]
 rw[aP (no 0 w0 _)];by_cases w1:way=1
 .have q:(way==1)=true:=by rw[w1];rfl
  have Xj:=gU num 12 (by decide);have Xk:=jh num 12 (by decide);have d13:=mx num 12 (by decide) (by decide);obtain⟨w,hw⟩:=Z5 Xk.1;rw[hw]at Xj Xk;obtain⟨T,e1,hx⟩:=BC (way:=w) (k:=k) (num:=num / 12) F ZG (by lia);rw[qO]at e1;have e2:=BG hx;have he:=heq [116,101,120,116];refine⟨.f,?_⟩;rw[NW];generalize eW (LX::NM)=EH at e1 |-;generalize NM.map D.str=N1;generalize as.map eA=EQ at e1 |-;simp![pv,↓reduceIte,Nat.reduceAdd,Nat.reduceLT,Nat.reduceLeDiff,Nat.reduceEqDiff,kN,q,Xj,d13,e1,e2,he,aV,cR]
 rw[aP (no 1 w1 _)];rw[aP (env':=[some (.f,.lst NS),some (.l .f,.lst (NM.map D.str)),some (.l .f,eW (LX::NM)),some (.l .f,.lst (as.map eA)),some (.f,.int (k:Int)),some (.f,.int num),some (.f,.int way),none,some (.f,.str st)]) (by
  generalize eW (LX::NM)=EH;generalize NM.map D.str=N1;generalize as.map eA=EQ;simp![pv,↓reduceIte,Nat.reduceAdd,Nat.reduceLT,Nat.reduceLeDiff,Nat.reduceEqDiff,c0,c1,XT,YX,Xh,aV,fL,cQ])]
 have m3:=gU num 5 (by decide);have b3:=jh num 5 (by decide);have d3:=mx num 5 (by decide) (by decide);obtain⟨w,hw⟩:=Z5 b3.1;rw[hw]at m3 b3;obtain⟨Tz,as1,S,e1⟩:=D4 (way:=w) (k:=k) (num:=num / 5) hn OT (by lia) (by lia) Dr ZG Xg Oz hq5 (by lia);have F1:=S.fm;rw[aP (env':=[some (.f,.lst NS),some (.f,.lst (NM.map D.str)),some (.f,eW (LX::Tz)),some (.f,.lst (as1.map eA)),some (.f,.int (k:Int)),some (.f,.int num),some (.f,.int way),none,some (.f,.str st)]) (by
  have hc:fe (.tup [eW (LX::Tz),.lst (as1.map eA)])=false:=rfl;generalize eW (LX::Tz)=Y1 at e1 hc |-;generalize as1.map eA=Y2 at e1 hc |-;generalize eW (LX::NM)=EH at e1 |-;generalize NM.map D.str=N1;generalize as.map eA=EQ at e1 |-;simp![pv,↓reduceIte,Nat.reduceAdd,Nat.reduceLT,Nat.reduceLeDiff,Nat.reduceEqDiff,m3,d3,e1,hc,aV,j5,ab5,frzS,HG,fM])]
 by_cases w2:way=2
 .have q:(way==2)=true:=by rw[w2];rfl
  obtain⟨SV,_⟩:=HK F1.n F1.l5 F1.ag (by have:=F1.la;lia);have e2:=oV (h:=LX::Tz) (ps:=as1.map thA) (λl hl t ht=>by
   obtain⟨a,ha,rfl⟩:=mF hl;exact(F1.ag a ha).ok t ht) (by rw[b9];have:=F1.la;lia) SV
  rw[qO]at e2;have e3:=Ht S.x;have he:=heq [99,104,97,114,116];refine⟨.f,?_⟩;rw[NW];generalize tx (LX::Tz) ((as1.map thA).map wP)=TX at e2 e3;generalize eW (LX::Tz)=Y1 at e2 |-;generalize as1.map eA=Y2 at e2 |-;generalize NM.map D.str=N1;simp![pv,↓reduceIte,Nat.reduceAdd,Nat.reduceLT,Nat.reduceLeDiff,Nat.reduceEqDiff,kN,q,e2,e3,he,aV,cR]
 have q:(way==2)=false:=aaj.mpr w2;have d64:=mx num 64 (by decide) (by decide);have d832:=mx num 768 (by decide) (by decide);have Xj:=gU (num / 64) 12 (by decide);have Xk:=jh (num / 64) 12 (by decide);obtain⟨v,hv⟩:=Z5 Xk.1;rw[hv]at Xj Xk;obtain⟨T,e2,hx⟩:=BC (way:=v) (k:=k) (num:=num / 768) F1 S.k (by lia);rw[qO]at e2;have e3:=BG hx;have he:=heq [116,101,120,116];refine⟨.f,?_⟩;generalize eW (LX::Tz)=Y1 at e2 |-;generalize as1.map eA=Y2 at e2 |-;generalize NM.map D.str=N1;rw[aP (env':=[some (.f,.lst NS),some (.f,.lst N1),some (.f,Y1),some (.f,.lst Y2),some (.f,.int (k:Int)),some (.f,.int num),some (.f,.int way),none,some (.f,.str st)]) (by simp![pv,↓reduceIte,Nat.reduceAdd,Nat.reduceLT,Nat.reduceLeDiff,Nat.reduceEqDiff,kN,q,fM])];simp![pv,↓reduceIte,Nat.reduceAdd,Nat.reduceLT,Nat.reduceLeDiff,Nat.reduceEqDiff,d64,d832,Xj,e2,e3,he,aV,cR]
end LW
namespace FIN
open PV LW
def Hy{l:PySem.W.OpenLaw}{w:World}{K:W.Frag}{h:UF}{mg:Str->Option Wp}{fa f:WP}{od an:Option WP}{sl:Array (Option Wp)}{oc kV dc pm cd ct:Wp}(X:K.In h)(G:h.Ns mainGlobals mg)(hfa:mg "law" = some (.ref fa))
  (aL:PySem.W.nsIn K mainGlobals "law" = some (some (.ref f))) (lL:K.lookup f=some ⟨oc,od,.func (PySem.W.fnOf "law" "law" (fQ oQ) (dj oQ) (defScope oQ) .none kV dc pm an cd ct),sl⟩) (cL:PySem.W.codeIn K cd "law" = true) (kL:PySem.W.keepIn K (.ref f)=true)
  (Pj:Def K mg "is_letter" iZ) (Pk:Def K mg "is_figure" i4) (Pa:Def K mg "kind_of" jE) (N5:Def K mg "end_of_run" fK) (NA:Def K mg "check_figures" dS) (QM:Def K mg "words" oM) (Pl:Def K mg "states_of" i5) (Qu:Def K mg "is_name" lZ) (R7:Def K mg "rises" rR) (Pm:Def K mg "are_moves" i6) (PZ:Def K mg "is_state" jZ) (P0:Def K mg "are_arcs" j0) (Qv:Def K mg "tree_of" l6) (P2:Def K mg "is_chart" j3) (OK:Def K mg "parts_of" iq) (Oj:Def K mg "number_of" gJ) (Pb:Def K mg "name_of" jF) (OL:Def K mg "names_of" ir) (P4:Def K mg "arc_of" kY) (NF:Def K mg "read_chart" eJ) (Ol:Def K mg "_law_cell_at" fT) (O0:Def K mg "_law_names" hX) (Pn:Def K mg "_law_arcs" i7) (Po:Def K mg "_law_text" i8) (Pp:Def K mg "_law_with" i9) (NT:Def K mg "_law_form_fault" eB) (NO:Def K mg "_law_sense_fault" dU) (NU:Def K mg "_law_told" fE)
  (MX:Gi mg "LONGEST_NAME" (8)) (Ma:Gi mg "MOST_ARCS" (60)) (Mj:Gi mg "MOST_FIGURES" (60)) (Mf:Gi mg "MOST_MOVES" (5)) (Nc:Gi mg "MOST_STATES" (12))
  (M8:PySem.W.nsIn K mainGlobals "ValueError" = some none) (OC:PySem.W.nsIn K mainGlobals "all" = some none) (N8:PySem.W.nsIn K mainGlobals "int" = some none) (L4:PySem.W.nsIn K mainGlobals "isinstance" = some none) (L7:PySem.W.nsIn K mainGlobals "len" = some none) (QB:PySem.W.nsIn K mainGlobals "list" = some none) (Ph:PySem.W.nsIn K mainGlobals "max" = some none) (M6:PySem.W.nsIn K mainGlobals "range" = some none) (ML:PySem.W.nsIn K mainGlobals "sorted" = some none) (OX:PySem.W.nsIn K mainGlobals "str" = some none) (Nt:PySem.W.nsIn K mainGlobals "tuple" = some none) (PM:PySem.W.nsIn K mainGlobals "zip" = some none) {Mq:WP}(M0:PySem.W.nsIn K mainGlobals "NetError" = some (some (.ref Mq))) {M7:WP}(P5:PySem.W.nsIn K mainGlobals "NoCase" = some (some (.ref M7))) {LZ:WP}(NH:PySem.W.nsIn K mainGlobals "NoChart" = some (some (.ref LZ))) {Nh:WP}(QN:PySem.W.nsIn K mainGlobals "NoNet" = some (some (.ref Nh))) {Ni:WP}(QR:PySem.W.nsIn K mainGlobals "NoRun" = some (some (.ref Ni))) {MB:WP}(Om:PySem.W.nsIn K mainGlobals "NoStretch" = some (some (.ref MB))) {LY:WP}(Me:PySem.W.nsIn K mainGlobals "NoText" = some (some (.ref LY))) {Mn:WP}(N6:PySem.W.nsIn K mainGlobals "OtherMoves" = some (some (.ref Mn))) {MH:WP}(OM:PySem.W.nsIn K mainGlobals "TooGreat" = some (some (.ref MH))) (ON:PySem.W.excIn K Mq [.type "ValueError",.type "Exception",.type "BaseException",.type "object"] "ValueError.__new__" = true) (Pc:PySem.W.excIn K LZ [.type "ValueError",.type "Exception",.type "BaseException",.type "object"] "ValueError.__new__" = true) (P6:PySem.W.excIn K LY [.type "ValueError",.type "Exception",.type "BaseException",.type "object"] "ValueError.__new__" = true) (MF:PySem.W.mroIn K LZ (.ref Mq)=some true) (MI:PySem.W.mroIn K LY (.ref Mq)=some true) (Mm:PySem.W.kitOne K (.ref LZ) (.type "ValueError")=some true) (Mr:PySem.W.kitOne K (.ref LY) (.type "ValueError")=some true) (MO:PySem.W.kitOne K (.ref LZ) (.ref M7)=some false) (MK:PySem.W.kitOne K (.ref LZ) (.ref LZ)=some true) (MS:PySem.W.kitOne K (.ref LZ) (.ref Nh)=some false) (MT:PySem.W.kitOne K (.ref LZ) (.ref Ni)=some false) (My:PySem.W.kitOne K (.ref LZ) (.ref MB)=some false) (MP:PySem.W.kitOne K (.ref LZ) (.ref LY)=some false) (Ms:PySem.W.kitOne K (.ref LZ) (.ref Mn)=some false) (MG:PySem.W.kitOne K (.ref LZ) (.ref MH)=some false) (MQ:PySem.W.kitOne K (.ref LY) (.ref M7)=some false) (MM:PySem.W.kitOne K (.ref LY) (.ref LZ)=some false) (MY:PySem.W.kitOne K (.ref LY) (.ref Nh)=some false) (MZ:PySem.W.kitOne K (.ref LY) (.ref Ni)=some false) (ME:PySem.W.kitOne K (.ref LY) (.ref MB)=some false) (MR:PySem.W.kitOne K (.ref LY) (.ref LY)=some true) (Mx:PySem.W.kitOne K (.ref LY) (.ref Mn)=some false) (MJ:PySem.W.kitOne K (.ref LY) (.ref MH)=some false) (MD:Asks K LZ) (MN:Asks K LY):
  ∃fd:FuncData,(∀(s:WF) (v:Wp),BindsTo s fd ⟨[v],[]⟩ [("_law_script",v)])/\∀base:UF,K.In base->base.Ns mainGlobals mg->FnOk l.prog w K mg base Sz 8 fa fd ["_law_script"] (zm K):=by
 have e:=hfa.symm.trans (aa4 X G aL);cases e;have F:=AG (st:=oQ) lL cL kL;have O1:=aaF X G M8;have R8:=aaF X G OC;have R9:=aaF X G N8;have NG:=aaF X G L4;have MU:=aaF X G L7;have VB:=aaF X G QB;have UD:=aaF X G Ph;have Pz:=aaF X G M6;have P7:=aaF X G ML;have Te:=aaF X G OX;have QU:=aaF X G Nt;have Xl:=aaF X G PM;have VC:=aa4 X G M0;have Rk:=aa4 X G P5;have Qw:=aa4 X G NH;have Sa:=aa4 X G QN;have Sb:=aa4 X G QR;have Pq:=aa4 X G Om;have Rl:=aa4 X G Me;have O2:=aa4 X G N6;have P8:=aa4 X G OM;refine⟨PySem.W.fnOf "law" "law" (fQ oQ) (dj oQ) (defScope oQ) .none kV dc pm an cd ct,λs v=>.of_eq rfl,λbase KB GB=>?_⟩;have P9:XCl mg base "NetError" Mq:=⟨_,_,_,_,abY,wu KB GB M0 ON⟩
 have Sv:XCl mg base "NoChart" LZ:=⟨_,_,_,_,abY,wu KB GB NH Pc⟩
 have Ny:XCl mg base "NoText" LY:=⟨_,_,_,_,abY,wu KB GB Me P6⟩
 have Oo:Ct l.prog w K mg base "is_letter" 1 (spF K cq):=qj Pj;have NV:Ct l.prog w K mg base "is_figure" 1 (spF K bU):=qm Pk;have Ou:Ct l.prog w K mg base "kind_of" 2 (spF K cA):=uW Pa NV Oo;have Qa:=rQ (P:=l.prog) (w:=w) (K:=K) (mg:=mg) (base:=base) Pa NV Oo Ny;have O3:Ct l.prog w K mg base "end_of_run" 3 (spF K bR):=oK N5 Ou MU;have Qq:=mK (P:=l.prog) (w:=w) (K:=K) (mg:=mg) (base:=base) N5 Qa Ou MU;have N9:Ct l.prog w K mg base "check_figures" 1 (spF K cu):=kM NA Mj MU;have Pd:=jY (P:=l.prog) (w:=w) (K:=K) (mg:=mg) (base:=base) NA Ny Mj MU;have Um:Ct l.prog w K mg base "words" 4 (spF K jV):=zO QM N9 O3 Ou NG MU Te;have Tf:=xA (P:=l.prog) (w:=w) (K:=K) (mg:=mg) (base:=base) QM Pd Qq Qa N9 O3 Ou Ny NG MU Te;have Rm:Ct l.prog w K mg base "states_of" 1 (spF K d8):=qp Pl UD;have Pe:Ct l.prog w K mg base "is_name" 2 (spF K dq):=uY Qu Oo MX R8 MU;have Sd:Ct l.prog w K mg base "rises" 1 (spF K fS):=zQ R7 R8 Xl;have Rn:Ct l.prog w K mg base "are_moves" 3 (spF K d9):=qr Pm Pe Sd Mf R8 MU;have RQ:Ct l.prog w K mg base "is_state" 1 (spF K c7):=rT PZ Nc;have RS:Ct l.prog w K mg base "are_arcs" 2 (spF K eZ):=rW P0 RQ Sd Ma R8 MU;have Sw:Ct l.prog w K mg base "tree_of" 1 (spF K fC):=uZ Qv MU;have Qb:Ct l.prog w K mg base "is_chart" 4 (spF K bA):=rY P2 RS Rn Rm Sw MU;have OO:Ct l.prog w K mg base "parts_of" 5 (spF K bM):=rZ OK Um;have Ro:=qu (P:=l.prog) (w:=w) (K:=K) (mg:=mg) (base:=base) OK Tf;have Pr:Ct l.prog w K mg base "number_of" 2 (spF K bN):=qw Oj NV R9;have QV:=oN (P:=l.prog) (w:=w) (K:=K) (mg:=mg) (base:=base) Oj NV Ny;have Ov:Ct l.prog w K mg base "name_of" 3 (spF K bY):=u7 Pb Pe;have Qc:=r6 (P:=l.prog) (w:=w) (K:=K) (mg:=mg) (base:=base) Pb Pe Ny;have OP:Ct l.prog w K mg base "names_of" 4 (spF K cz):=r9 OL Ov Mf MU;have Rp:=qx (P:=l.prog) (w:=w) (K:=K) (mg:=mg) (base:=base) OL Qc Ov Ny Mf MU;have Qd:Ct l.prog w K mg base "arc_of" 4 (spF K cJ):=xB P4 Ov Pr MU;have Sy:=u9 (P:=l.prog) (w:=w) (K:=K) (mg:=mg) (base:=base) P4 Qc QV Ov Pr Ny MU;have QY:Ct l.prog w K mg base "read_chart" 6 (spF K cV):=oO NF Qd Qb OP OO Ma MU P7 QU;have Qr:=mL (P:=l.prog) (w:=w) (K:=K) (mg:=mg) (base:=base) NF Sy Rp Ro Qd OP OO Ny Ma MU P7 QU;have N7:=gK (P:=l.prog) (w:=w) (K:=K) (mg:=mg) (base:=base) NF Qd Qb OP OO Sv Ma MU P7 QU;have Oq:Ct l.prog w K mg base "_law_cell_at" 1 (spF K aG):=l9 Ol MU;have QZ:Ct l.prog w K mg base "_law_names" 1 (spF K cH):=oP O0 R9 MU Pz;have Rq:Ct l.prog w K mg base "_law_arcs" 2 (spF K eh):=qz Pn Oq MU VB Pz;have Pu:Ct l.prog w K mg base "_law_text" 1 (spF K bV):=qA Po Te;have Rr:Ct l.prog w K mg base "_law_with" 1 (spF K m__law_with):=qC Pp;have O4:Ct l.prog w K mg base "_law_form_fault" 2 (spF K m__law_form_fault):=jG NT Pu Rr MU Pz;have OQ:Ct l.prog w K mg base "_law_sense_fault" 1 (spF K aQ):=ja NO MU UD;have Qe:Ct l.prog w K mg base "_law_told" 7 (spF K cD):=ma NU Qr Rk Qw Sa Sb Pq Rl O2 P8 MI Mr MQ MM MY MZ ME MR Mx MJ MN P9 O1 R9 NG;have Qf:Ct l.prog w K mg base "_law_told" 7 (spF K cN):=me NU N7 Rk Qw Sa Sb Pq Rl O2 P8 MF Mm MO MK MS MT My MP Ms MG MD P9 O1 R9 NG;have Qg:Ct l.prog w K mg base "_law_told" 7 (spF K cj):=mf NU QY;exact(F5 F Rq Oq O4 QZ OQ Pu Qg Qe Qf MU Pz).imp (FC law_plain)
end FIN
def PySem.W.Fast.tw7890739490003711972:=0
def PySem.W.Fast.tw17749944657840940922:=0
def PySem.W.Fast.tw15829787734387525577:=0
def PySem.W.Fast.tw16176397427358511539:=0
def PySem.W.Fast.tw9591356984444332001:=0
def PySem.W.Fast.tw15185905514038672721:=0
def PySem.W.Fast.tw4725923458052395635:=0
def PySem.W.Fast.tw11583121717867938873:=0
def PySem.W.Fast.tw7811805729570708331:=0
def PySem.W.Fast.tw4162989180794736270:=0
def PySem.W.Fast.tw9017742370037546047:=0
def PySem.W.Fast.tw11695929822566626688:=0
def PySem.W.Fast.tw11612079082338794522:=0
def PySem.W.Fast.tw1954184190142464547:=0
def PySem.W.Fast.tw1295602752580808602:=0
def PySem.W.Fast.tw14488406790763022927:=0
def PySem.W.Fast.tw4967885552603252170:=0
def PySem.W.Fast.tw2467481468201902543:=0
def PySem.W.Fast.tw4440575900052605385:=0
def PySem.W.Fast.tw8893081533821517823:=0
def PySem.W.Fast.tw739560880519715592:=0
def PySem.W.Fast.tw15049152430042521675:=0
def PySem.W.Fast.tw4072333602584734214:=0
def PySem.W.Fast.tw14498499148932306032:=0
def PySem.W.Fast.tw12572254156578940611:=0
def PySem.W.Fast.tw14381972506626420821:=0
def PySem.W.Fast.tw13710659511301495740:=0
def PySem.W.Fast.tw17326081634934221351:=0
def PySem.W.Fast.tw10354514837138381203:=0
def PySem.W.Fast.tw15223507128410577683:=0
def PySem.W.Fast.tw4275824682587132090:=0
def PySem.W.Fast.tw9329231040993270830:=0
def PySem.W.Fast.tw9323956147437507707:=0
def PySem.W.Fast.tw5868723375198491723:=0
def PySem.W.Fast.tw14854864965487781407:=0
open PySem.W
set_option maxRecDepth 100000 in
set_option maxHeartbeats 0 in
theorem PySem.Challenge.cw_netfinder_k05_charts_refused_holds : PySem.Challenge.rw_netfinder_k05_charts_refused.Holds := by
  w_on; o_law; k_head; (case hw => w_witness2)
  k_fill
  refine PV.K2 (l := PySem.Challenge.rw_netfinder_k05_charts_refused) (k := 8) (x := "_law_script") rfl rfl ⟨rfl, by decide, by decide⟩ (λw h Y => PySem.W.kIn_of Y) ?F
  case F =>
    intro w mg fa h KX G V9
    refine' FIN.Hy KX G V9 ?aL ?lL ?cL ?kL ?Pj ?Pk ?Pa ?N5 ?NA ?QM ?Pl ?Qu ?R7 ?Pm ?PZ ?P0 ?Qv ?P2 ?OK ?Oj ?Pb ?OL ?P4 ?NF ?Ol ?O0 ?Pn ?Po ?Pp ?NT ?NO ?NU ?MX ?Ma ?Mj ?Mf ?Nc ?M8 ?OC ?N8 ?L4 ?L7 ?QB ?Ph ?M6 ?ML ?OX ?Nt ?PM ?M0 ?P5 ?NH ?QN ?QR ?Om ?Me ?N6 ?OM ?ON ?Pc ?P6 ?MF ?MI ?Mm ?Mr ?MO ?MK ?MS ?MT ?My ?MP ?Ms ?MG ?MQ ?MM ?MY ?MZ ?ME ?MR ?Mx ?MJ ?MD ?MN
    (case aL => k_is); (case lL => k_is); (case cL => k_is); (case kL => k_is)
    iterate 28 (refine' PV.FE KX G ?a ?l ?c ?k; (case a => k_is); (case l => k_is); (case c => k_is); (case k => k_is))
    (case MX => (refine' PV.wW KX G ?a; (case a => k_is)))
    (case Ma => (refine' PV.wW KX G ?a; (case a => k_is)))
    (case Mj => (refine' PV.wW KX G ?a; (case a => k_is)))
    (case Mf => (refine' PV.wW KX G ?a; (case a => k_is)))
    (case Nc => (refine' PV.wW KX G ?a; (case a => k_is)))
    iterate 12 k_is
    (case M0 => k_is)
    (case P5 => k_is)
    (case NH => k_is)
    (case QN => k_is)
    (case QR => k_is)
    (case Om => k_is)
    (case Me => k_is)
    (case N6 => k_is)
    (case OM => k_is)
    (case ON => k_exc)
    (case Pc => k_exc)
    (case P6 => k_exc)
    (case MF => k_is)
    (case MI => k_is)
    (case Mm => kit_is)
    (case Mr => kit_is)
    (case MO => kit_is)
    (case MK => kit_is)
    (case MS => kit_is)
    (case MT => kit_is)
    (case My => kit_is)
    (case MP => kit_is)
    (case Ms => kit_is)
    (case MG => kit_is)
    (case MQ => kit_is)
    (case MM => kit_is)
    (case MY => kit_is)
    (case MZ => kit_is)
    (case ME => kit_is)
    (case MR => kit_is)
    (case Mx => kit_is)
    (case MJ => kit_is)
    (case MD => (refine' NX.Asks.mk ?a ?b ?c ?d ?e ?f ?g ?h; (case a => k_is); (case b => k_is); (case c => k_is); (case d => k_is); (case e => k_is); (case f => k_is); (case g => k_is); (case h => k_is)))
    (case MN => (refine' NX.Asks.mk ?a ?b ?c ?d ?e ?f ?g ?h; (case a => k_is); (case b => k_is); (case c => k_is); (case d => k_is); (case e => k_is); (case f => k_is); (case g => k_is); (case h => k_is)))
