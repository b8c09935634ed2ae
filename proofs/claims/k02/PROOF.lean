import PyProof.Rows.All
import Wide.All
import OpenK.AllK
import Wide.FinOn
import Lean
import PyProof.EqAt
import PyProof.EqKinds
import PyProof.TupleCall
import PySem.Challenge.RW_netfinder_k02_no_words
set_option Elab.async false
set_option linter.all false
set_option maxRecDepth 100000
set_option compiler.extract_closed false
set_option bootstrap.genMatcherCode false
noncomputable section
theorem Zz{a b:Prop}(x:a)(y:b):a∧b:=⟨x,y⟩
def Fm:=@List.mem_cons_self
def Fo:=@List.mem_append_right
def Fp:=@List.size_toArray
def Fq:=@List.getElem?_eq_getElem
def Fs:=@PySem.wpAny_bind
def Ft:=@List.mem_cons_of_mem
def Fu:=@Nat.lt_of_lt_of_le
def Fv:=@List.length_cons
def Fw:=@Nat.le_refl
def Fx:=@Bool.and_eq_true
def Fy:=@PySem.Heap.lt_size
def Fz:=@List.mem_append_left
def FA:=@PySem.Heap.get?_push_of_some
def FC:=@List.getD_eq_getElem?_getD
def FD:=@List.append_assoc
def FE:=@List.getElem?_eq_some_iff
def FF:=@PySem.wpAny_pure
def FH:=@decide_eq_false
def FJ:=@List.append_nil
def FK:=@List.mem_cons
def FL:=@Nat.ne_of_lt
def FN:=@List.length_map
def FQ:=@List.mem_append
def FR:=@Bool.false_ne_true
def FU:=@List.length_append
def FV:=@PySem.Heap.get?_push_size
def FW:=@PySem.wpAny_mono
def FY:=@if_pos
def FZ:=@Bool.or_eq_true
def F0:=@List.getElem?_append_right
def F1:=@beq_eq_false_iff_ne
def F2:=@Int.eq_ofNat_of_zero_le
def F3:=@if_neg
def F4:=@PySem.wpAny_execs_cons
def F5:=@List.map_cons
def F6:=@Option.some.inj
def F7:=@decide_eq_true
def F8:=@decide_eq_true_eq
def F9:=@PySem.wpAny_passesOwn
def Ga:=@List.lookup_cons
def Gb:=@PySem.W.mg_of
def Gd:=@Array.length_toList
def Ge:=@Nat.le_trans
def Gf:=@List.nodup_append
def Gg:=@PySem.W.kia_one
def Gh:=@beq_iff_eq
def Gj:=@List.length_take
def Gk:=@List.getElem?_set_self
def Gm:=@PyProof.Rows.slot_tuple_getitem
def Gn:=@beq_self_eq_true
def Gp:=@List.getElem?_map
def Gq:=@List.nodup_cons
def Gr:=@PySem.mem_of_lookup
def Gs:=@List.length_pos_iff
def Gu:=@List.take_of_length_le
def Gv:=@Option.map_eq_some_iff
def Gw:=@List.length_drop
def Gx:=@Nat.lt_irrefl
def Gy:=@List.mem_singleton
def Gz:=@Bool.not_true
def GA:=@decide_false
def GC:=@List.filterMap_cons
def GD:=@Nat.zero_le
def GF:=@List.eq_nil_of_length_eq_zero
def GH:=@Nat.lt_succ_self
def GI:=@List.mem_filterMap
def GJ:=@PySem.wpAny_Call_Name_kw
def GK:=@PySem.W.mg_none_of
def GL:=@List.length_singleton
def GN:=@Bool.eq_iff_iff
def GO:=@decide_true
def GP:=@PySem.wpAny_truthy_bool
def GQ:=@PySem.wpAny_newObj_type
def GR:=@List.flatten_cons
def GS:=@of_decide_eq_true
def GU:=@List.getElem?_set_ne
def GV:=@Bool.not_false
def GW:=@List.all_eq_true
def GX:=@List.cons_append
def GY:=@List.getElem_mem
def GZ:=@Option.isSome_iff_exists
def G0:=@congrArg
def G9:=@PySem.wpAny_execs_nil
def Ha:=@PySem.wpAny_callSpecial?_slot
def Hb:=@List.map_append
def Hc:=@List.length_range
def Hd:=@List.nodup_nil
def He:=@PySem.wpAny_isTrue_Compare1
def Hf:=@PySem.W.KIN.signs_num
def Hg:=@Nat.le_of_not_lt
def Hh:=@PySem.W.looks_findIn
def Hi:=@List.cons.inj
def Hj:=@PySem.W.hideAll_get
def Hk:=@PyProof.Rows.callWith_type1
def Hl:=@List.foldl_cons
def Hm:=@PySem.W.looks_mroIn
def Hn:=@PySem.Calls.Name_function_global
def Ho:=@Array.getElem?_eq_some_iff
def Hq:=@PySem.F.excBase_ValueError
def Hr:=@PySem.codeAny_mono
def Hs:=@PySem.W.callWith_K
def Ht:=@Bool.or_true
def Hu:=@List.getElem?_append_left
def Hv:=@if_true
def Hw:=@List.drop_eq_getElem_cons
def Hx:=@PySem.F.args_tuple_add_2
def Hy:=@Int.toNat_natCast
def Hz:=@PySem.Paired.length
def HA:=@PySem.F.entry_tuple_add
def HB:=@decide_eq_false_iff_not
def HC:=@List.all_cons
def HD:=@Option.getD_none
def HE:=@PySem.W.cellsFrom_some
def HF:=@PySem.F.slot_tuple_add
def HI:=@List.Perm.append_right
def HJ:=@List.drop_eq_nil_of_le
def HK:=@List.of_mem_zip
def HL:=@List.length_nil
def HM:=@List.length_set
def HN:=@List.Perm.append_left
def HP:=@List.perm_append_comm
def HQ:=@PySem.PassesOwn.never
def HR:=@PySem.F.slot_str_join
def HS:=@PySem.F.type_str_join
def HU:=@Nat.zero_add
def HV:=@Classical.choose_spec
def HW:=@List.mem_of_getElem?
def HZ:=@Array.getElem_toList
def Ia:=@PySem.wpAny_Expr_any
def Ib:=@Bool.false_and
def Ic:=@List.drop_zero
def Ie:=@Bool.and_false
def Ig:=@Ne.symm
def Ih:=@PySem.sizeLine_eq
def Ij:=@List.take_succ_cons
def Ik:=@List.drop_succ_cons
def Io:=@PySem.W.of_hideAll
def Ip:=@Array.append_assoc
def Iq:=@PySem.wpAny_holding
def Iu:=@Bool.false_eq_true
def Iv:=@List.zip_cons_cons
def Iw:=@List.sum_cons
def Iy:=@Bool.and_self
def IH:=@Nat.le_of_lt
def IL:=@List.set_set
def Jb:=@List.not_lt
def JF:=@bne_iff_ne
def JM:=@if_false
namespace L2
open PySem PySem.Spec PyProof.Rows
def IsTupN(h:Heap)(a:Addr)(items:Array Value):Prop:=∃o,h.get? a=some o/\o.cls=.type "tuple"/\(∃n,o.data=.seq items n)/\o.dict=none
theorem IsTupN.tup{h:Heap}{a:Addr}{items:Array Value}(p:IsTupN h a items):IsTup h a items:=by
 obtain⟨o,e,c,n,_⟩:=p;exact⟨o,e,c,n⟩
theorem IsTupN.new(h:Heap)(items:Array Value):IsTupN (h.push {cls:=.type "tuple",data:=.seq items}) h.objs.size items:=⟨_,FV _ rfl,rfl,⟨_,rfl⟩,rfl⟩
abbrev Key:=Sum Int Str
def jr:Key->Value->Bool
 | .inl k,v=>Value.isInt k v
 | .inr x,v=>Value.isStrOf x v
def vh(w:World):Key->Int
 | .inl k=>hashInt k
 | .inr x=>hashStr w x
theorem aU:∀{k:Key}{v:Value},jr k v=true->(∃i t,k=Sum.inl i/\v=Value.int i t)\/(∃x t,k=Sum.inr x/\v=Value.str x t)
 | .inl i,v,h=>by
  obtain⟨t,e⟩:=Value.isInt_shape (k:=i) (v:=v) h;exact .inl ⟨i,t,rfl,e⟩
 | .inr x,v,h=>by
  obtain⟨t,e⟩:=Value.isStrOf_shape (x:=x) (v:=v) h;exact .inr ⟨x,t,rfl,e⟩
theorem jO(i:Int)(t:Tok):jr (.inl i) (.int i t)=true:=by simp[jr,Value.isInt]
theorem jP(x:Str)(t:Tok):jr (.inr x) (.str x t)=true:=by simp[jr,Value.isStrOf]
theorem pG(a b:Int):decide ((Sum.inl a:Key)=Sum.inl b)=(a==b):=by
 by_cases e:a=b
 ·subst e;simp
 ·have h:¬ (Sum.inl a:Key)=Sum.inl b:=fun q=>e (Sum.inl.inj q)
  rw[FH h];exact(F1.mpr e).symm
theorem pH(a b:Str):decide ((Sum.inr a:Key)=Sum.inr b)=decide (a=b):=by
 by_cases e:a=b
 ·subst e;simp
 ·have h:¬ (Sum.inr a:Key)=Sum.inr b:=fun q=>e (Sum.inr.inj q)
  rw[FH h,FH e]
theorem pI(a:Int)(b:Str):decide ((Sum.inl a:Key)=Sum.inr b)=false:=FH (fun q=>nomatch q)
theorem pJ(a:Str)(b:Int):decide ((Sum.inr a:Key)=Sum.inl b)=false:=FH (fun q=>nomatch q)
noncomputable def mixKind(prog:Program)(w:World):PySem.KeyKind prog w Key where
 is:=jr
 hash:=vh w
 inj:=fun v a b ha hb=>by
  rcases aU ha with⟨i,t,rfl,rfl⟩|⟨x,t,rfl,rfl⟩
  ·rcases aU hb with⟨j,u,rfl,e⟩|⟨y,u,rfl,e⟩
   ·injection e with e1 _;rw[e1]
   ·exact nomatch e
  ·rcases aU hb with⟨j,u,rfl,e⟩|⟨y,u,rfl,e⟩
   ·exact nomatch e
   ·injection e with e1 _;rw[e1]
 byValue:=fun k v h=>by
  rcases aU h with⟨i,t,rfl,rfl⟩|⟨x,t,rfl,rfl⟩ <;> rfl
 pyHash:=fun hv h=>by
  rcases aU hv with⟨i,t,rfl,rfl⟩|⟨x,t,rfl,rfl⟩
  ·exact wpAny_pyHash_int h
  ·exact wpAny_pyHash_str h
 eqBool:=fun hu hv h=>by
  rcases aU hu with⟨i,t,rfl,rfl⟩|⟨x,t,rfl,rfl⟩
  ·rcases aU hv with⟨j,u,rfl,rfl⟩|⟨y,u,rfl,rfl⟩
   ·rw[pG]at h;exact wpAny_eqBool_int h
   ·rw[pI]at h;exact SeqAt.EqAt.int_str i t y u _ _ _ _ h
  ·rcases aU hv with⟨j,u,rfl,rfl⟩|⟨y,u,rfl,rfl⟩
   ·rw[pJ]at h;exact SeqAt.EqAt.str_int x t j u _ _ _ _ h
   ·rw[pH]at h;exact wpAny_eqBool_str h
 «strs»:=fun k x t v h=>by
  rcases aU h with⟨i,u,rfl,e⟩|⟨y,u,rfl,e⟩
  ·exact nomatch e
  ·injection e with e1 _;subst e1;cases v <;> rfl
theorem ir(prog:Program)(w:World)(i:Int)(t:Tok):(mixKind prog w).is (.inl i) (.int i t)=true:=jO i t
theorem iu(prog:Program)(w:World)(x:Str)(t:Tok):(mixKind prog w).is (.inr x) (.str x t)=true:=jP x t
inductive V where
 |non|bl (b:Bool)|int (i:Int)|str (x:Str)|byt (b:Array UInt8)|flt (b:UInt64)|ref (a:Addr)|ty (n:String)
 deriving DecidableEq
noncomputable def RelV:V->Value->Prop
 | .non,u=>u=Value.none
 | .bl b,u=>u=Value.bool b
 | .int i,u=>∃t,u=Value.int i t
 | .str x,u=>∃t,u=Value.str x t
 | .byt b,u=>∃t,u=Value.bytes b t
 | .flt b,u=>∃t,u=Value.float b t
 | .ref a,u=>u=Value.ref a
 | .ty n,u=>u=Value.type n
abbrev Vals:List V->List Value->Prop:=Paired RelV
theorem Vals.length{xs:List V}{us:List Value}(r:Vals xs us):xs.length=us.length:=Hz r
theorem Vals.get:∀{xs:List V}{us:List Value}{i:Nat}{x:V},Vals xs us->xs[i]?=some x->∃u,us[i]?=some u/\RelV x u
 |_,_,_,_,.nil,e=>by simp at e
 |_,_,0,_,.cons r _,e=>by simp at e;subst e;exact⟨_,rfl,r⟩
 |_,_,i+1,x,.cons _ t,e=>by
  obtain⟨u,h1,h2⟩:=Vals.get (i:=i) (x:=x) t (by simpa using e);exact⟨u,by simpa using h1,h2⟩
theorem Vals.set{x:V}{u:Value}(r:RelV x u):∀{xs:List V}{us:List Value}(i:Nat),Vals xs us->Vals (xs.set i x) (us.set i u)
 |_,_,_,.nil=>.nil
 |_,_,0,.cons _ t=>.cons r t
 |_,_,i+1,.cons q t=>.cons q (Vals.set r i t)
theorem Vals.append:∀{xs ys:List V}{us ws:List Value},Vals xs us->Vals ys ws->Vals (xs++ys) (us++ws)
 |_,_,_,_,.nil,s=>s
 |_,_,_,_,.cons r t,s=>.cons r (Vals.append t s)
theorem Vals.take:∀{xs:List V}{us:List Value}(n:Nat),Vals xs us->Vals (xs.take n) (us.take n)
 |_,_,0,_=>.nil
 |_,_,_+1,.nil=>.nil
 |_,_,n+1,.cons r t=>.cons r (Vals.take n t)
theorem Vals.drop:∀{xs:List V}{us:List Value}(n:Nat),Vals xs us->Vals (xs.drop n) (us.drop n)
 |_,_,0,r=>r
 |_,_,_+1,.nil=>.nil
 |_,_,n+1,.cons _ t=>Vals.drop n t
def RelO:Option V->Option Value->Prop
 |some v,some u=>RelV v u
 |none,none=>True
 |_,_=>False
def KV{κ:Type}:List (κ×V)->List (κ×Value)->Prop:=Paired fun(p:κ×V) (q:κ×Value)=>p.1=q.1/\RelV p.2 q.2
def kV:Key->V
 | .inl i=>.int i
 | .inr x=>.str x
inductive HO where
 |lst (xs:List V)
 |tup (xs:List V)
 |dK (w9:List (Key×V))|dT (w9:List (List Key×V))
 |set (S:Int->Bool) (n:Nat)
 |ins (C dx:Addr) (fs:List (Str×V))
 |own (x:Addr)
 |xd (fs:List (Str×V))
 |met (f x:Addr)
 |rng (lo hi:Int)
 |frz (o:Obj) (u:HO)
 |tbl (ps:Array Value)
 |ext (φ:Heap->Prop)
abbrev Hp:=Addr->Option HO
def upd(H:Hp)(a:Addr)(o:HO):Hp:=fun b=>if b=a then some o else H b
theorem a9{H:Hp}{a:Addr}{o:HO}:upd H a o a=some o:=by unfold upd;rw[FY rfl]
theorem av{H:Hp}{a b:Addr}{o:HO}(h:b≠a):upd H a o b=H b:=by unfold upd;rw[F3 h]
theorem aP{H:Hp}{a b:Addr}{o:HO}(h:H a=some o)(h':H b=none):a≠b:=by
 intro e;subst e;rw[h]at h';cases h'
section
variable(P:Program)(w:World)
noncomputable def ObjOk(H:Hp)(h:Heap)(a:Addr):HO->Prop
 | .lst xs=>xs.length<=sizeLine/\∃(wZ:List Value) (n:Nat),Vals xs wZ/\h.get? a=some {cls:=.type "list",data:=.seq wZ.toArray n}
 | .tup xs=>xs.length<=sizeLine/\∃wZ:List Value,Vals xs wZ/\IsTupN h a wZ.toArray
 | .dK w9=>w9.length<=sizeLine/\(a==sysModules)=false/\∃vs,KV w9 vs/\h.DictOf (mixKind P w) a vs
 | .dT w9=>w9.length<=sizeLine/\(a==sysModules)=false/\∃xs:List (List Key×Addr×Value),
   Paired (fun(p:List Key×V) (q:List Key×Addr×Value)=>p.1=q.1/\H q.2.1=some (.tup (p.1.map kV))/\RelV p.2 q.2.2) w9 xs/\
   ∃o es ep,h.get? a=some o/\o.ExactDict/\o.data=.dict es ep/\es.toList=xs.map (entryOfKey (tupleKind (mixKind P w)))/\(xs.map (·.1)).Nodup
 | .set S n=>h.SetOf (intKind P w) a S n
 | .ins C dx fs=>H dx=some (.own a)/\fs.length<=1000/\dx≠a/\h.get? a=some (PySem.W.instObj C dx)/\
   ∃mA,h.Ns1 dx mA/\(∀f,RelO (fs.lookup f) (mA f))/\PySem.Within mA (fs.map (·.1))
 | .own _=>∃o,h.get? a=some o
 | .xd fs=>∃mA,h.Ns1 a mA/\∀f,RelO (fs.lookup f) (mA f)
 | .rng lo hi=>∃t u v,h.get? a=some {cls:=.type "range",data:=.fields #[.int lo t,.int hi u,.int 1 v]}
 | .frz o u=>h.get? a=some o/\ObjOk H h a u
 | .tbl ps=>h.get? a=some {cls:=.none,data:=.fields ps}
 | .met f x=>h.get? a=some (PySem.W.methodObj (.ref f) (.ref x))
 | .ext φ=>φ h/\(∃o,h.get? a=some o)/\∀h1 h2:Heap,φ h1->(∀o,h1.get? a=some o->h2.get? a=some o)->φ h2
def HOk(H:Hp)(h:Heap):Prop:=∀a o,H a=some o->ObjOk P w H h a o
end
section
variable{P:Program}{w:World}{H H':Hp}{h h':Heap}{a:Addr}{o:HO}
theorem ObjOk.lt(x:ObjOk P w H h a o):a<h.objs.size:=by
 cases o with
 |lst xs=>obtain⟨_,_,_,_,e⟩:=x;exact Fy e
 |tup xs=>obtain⟨_,_,_,p⟩:=x;exact p.tup.lt
 |dK w9=>obtain⟨_,_,_,_,o,_,_,e,_⟩:=x;exact Fy e
 |dT w9=>obtain⟨_,_,_,_,o,_,_,e,_⟩:=x;exact Fy e
 |set S n=>obtain⟨o,_,_,_,e,_⟩:=x;exact Fy e
 |ins C dx fs=>obtain⟨_,_,_,e,_⟩:=x;exact Fy e
 |own y=>obtain⟨_,e⟩:=x;exact Fy e
 |xd fs=>obtain⟨_,⟨_,_,_,e,_⟩,_⟩:=x;exact Fy e
 |rng lo hi=>obtain⟨_,_,_,e⟩:=x;exact Fy e
 |frz ob u=>obtain⟨e,_⟩:=x;exact Fy e
 |tbl ps=>exact Fy (show h.get? a=some _ from x)
 |met f y=>exact Fy (show h.get? a=some _ from x)
 |ext φ=>obtain⟨_,⟨_,e⟩,_⟩:=x;exact Fy e
theorem Paired.mapP{α β:Type}{F G:α->β->Prop}:∀{l₁:List α}{l₂:List β},Paired F l₁ l₂->(∀a b,F a b->G a b)->Paired G l₁ l₂
 |_,_,.nil,_=>.nil
 |_,_,.cons r t,f=>.cons (f _ _ r) (Paired.mapP t f)
theorem ObjOk.stay(x:ObjOk P w H h a o)(k:∀b u,(b=a\/H b=some (.own a))->h.get? b=some u->h'.get? b=some u)
  (ho:∀b,H b=some (.own a)->H' b=some (.own a)) (ht:∀b xs,H b=some (.tup xs)->H' b=some (.tup xs)):ObjOk P w H' h' a o:=by
 induction o with
 |lst xs=>obtain⟨z,wZ,n,r,e⟩:=x;exact⟨z,wZ,n,r,k _ _ (.inl rfl) e⟩
 |tup xs=>obtain⟨z,wZ,r,ob,e,c⟩:=x;exact⟨z,wZ,r,ob,k _ _ (.inl rfl) e,c⟩
 |dK w9=>obtain⟨z,y,vs,r,ob,es,ep,e,c⟩:=x;exact⟨z,y,vs,r,ob,es,ep,k _ _ (.inl rfl) e,c⟩
 |dT w9=>
  obtain⟨z,y,xs,r,ob,es,ep,e,c⟩:=x;exact⟨z,y,xs,Paired.mapP r fun p q z=>⟨z.1,ht _ _ z.2.1,z.2.2⟩,ob,es,ep,k _ _ (.inl rfl) e,c⟩
 |set S n=>obtain⟨ob,es,ep,t,e,c⟩:=x;exact⟨ob,es,ep,t,k _ _ (.inl rfl) e,c⟩
 |ins C dx fs=>
  obtain⟨d,z,ne,e,mA,⟨od,es,ep,e2,c⟩,r⟩:=x;exact⟨ho _ d,z,ne,k _ _ (.inl rfl) e,mA,⟨od,es,ep,k _ _ (.inr d) e2,c⟩,r⟩
 |own y=>obtain⟨ob,e⟩:=x;exact⟨ob,k _ _ (.inl rfl) e⟩
 |xd fs=>obtain⟨mA,⟨od,es,ep,e,c⟩,r⟩:=x;exact⟨mA,⟨od,es,ep,k _ _ (.inl rfl) e,c⟩,r⟩
 |rng lo hi=>obtain⟨t,u,v,e⟩:=x;exact⟨t,u,v,k _ _ (.inl rfl) e⟩
 |frz ob u ih=>obtain⟨e,q⟩:=x;exact⟨k _ _ (.inl rfl) e,ih q⟩
 |tbl ps=>
  have e:h.get? a=some {cls:=.none,data:=.fields ps}:=x;show h'.get? a=some {cls:=.none,data:=.fields ps};exact k a _ (.inl rfl) e
 |met f y=>
  have e:h.get? a=some (PySem.W.methodObj (.ref f) (.ref y)):=x;show h'.get? a=some (PySem.W.methodObj (.ref f) (.ref y));exact k a _ (.inl rfl) e
 |ext φ=>obtain⟨p,⟨o,e⟩,st⟩:=x;exact⟨st _ _ p fun o q=>k _ _ (.inl rfl) q,⟨o,k _ _ (.inl rfl) e⟩,st⟩
theorem HOk.lt(x:HOk P w H h)(e:H a=some o):a<h.objs.size:=(x a o e).lt
theorem HOk.fresh(x:HOk P w H h)(e:h.objs.size<=a):H a=none:=by
 cases q:H a with
 |none=>rfl
 |some u=>exact absurd (Fu (x.lt q) e) (Gx _)
theorem HOk.kept(x:HOk P w H h)(k:∀b u,h.get? b=some u->h'.get? b=some u):HOk P w H h':=fun a o e=>
 (x a o e).stay (fun b u _ q=>k b u q) (fun _ q=>q) fun _ _ q=>q
theorem HOk.laid(x:HOk P w H h)(k:∀b u,h.get? b=some u->h'.get? b=some u)(hp:h.objs.size<=a)(new:ObjOk P w (upd H a o) h' a o):HOk P w (upd H a o) h':=fun b u e=>by
 have hn:=x.fresh hp;by_cases hb:b=a
 ·subst hb;rw[a9]at e;cases e;exact new
 ·rw[av hb]at e;exact(x b u e).stay (fun c v _ q=>k c v q) (fun c q=>by rw[av (aP q hn)];exact q) fun c xs q=>by rw[av (aP q hn)];exact q
end
def Rd(H:Hp)(a:Addr)(u:HO):Prop:=H a=some u\/∃o,H a=some (.frz o u)
theorem Rd.ok{P:Program}{w:World}{H:Hp}{h:Heap}{a:Addr}{u:HO}(r:Rd H a u)(x:HOk P w H h):ObjOk P w H h a u:=by
 rcases r with r|⟨o,r⟩
 ·exact x a u r
 ·obtain⟨_,q⟩:=x a _ r;exact q
def CG:Option HO->Prop
 |some (.lst _)=>True
 |some (.dK _)=>True
 |some (.dT _)=>True
 |some (.set _ _)=>True
 |some (.ins _ _ _)=>True
 |some (.ext _)=>True
 |_=>False
section
variable{P:Program}{w:World}{H:Hp}{h h':Heap}{x e:Addr}{o':HO}
theorem HOk.write(ok:HOk P w H h)(mu:CG (H x))(he:e=x\/H e=some (.own x))(k:∀b u,b≠e->h.get? b=some u->h'.get? b=some u)(Co:∃u,h'.get? e=some u)
  (new:ObjOk P w (upd H x o') h' x o'):HOk P w (upd H x o') h':=fun b u q=>by
 have CH:∀c y,H c=some (.own y)->c≠x:=fun c y r z=>by subst z;rw[r]at mu;exact mu
 have ntup:∀c xs,H c=some (.tup xs)->c≠x:=fun c xs r z=>by subst z;rw[r]at mu;exact mu
 by_cases hb:b=x
 ·subst hb;rw[a9]at q;cases q;exact new
 ·rw[av hb]at q;by_cases hbe:b=e
  ·have q':H b=some (.own x):=by
    rcases he with z|z
    ·exact absurd (hbe.trans z) hb
    ·rw[hbe];exact z
   rw[q]at q';cases q';obtain⟨v,hv⟩:=Co;exact⟨v,by rw[hbe];exact hv⟩
  ·refine(ok b u q).stay (fun c v hc r=>k c v ?_ r) (fun c r=>by rw[av (CH c b r)];exact r) fun c xs r=>by rw[av (ntup c xs r)];exact r
   rcases hc with rfl|hc
   ·exact hbe
   ·rintro rfl;rcases he with z|z
    ·exact CH c b hc z
    ·rw[hc]at z;cases z;exact hb rfl
end
structure Un(fs ex:List Addr)(H H':Hp)(h h':Heap):Prop where
 keep:∀b o,h.get? b=some o->H b=none->b∉fs->b∉ex->h'.get? b=some o
 slot:∀b o,h.get? b=some o->H b=none->b∈fs->b∉ex->∃sl,h'.get? b=some {o with slots:=sl}
 free:∀b o,h.get? b=some o->H b=none->b∉ex->H' b=none
 there:∀b o,h.get? b=some o->b∉ex->∃o',h'.get? b=some o'
 tups:∀b xs,H b=some (.tup xs)->H' b=some (.tup xs)
 frzs:∀b o u,H b=some (.frz o u)->H' b=some (.frz o u)
 tbls:∀b ps,H b=some (.tbl ps)->∃more,H' b=some (.tbl (ps++more))
section
variable{fs fs' ex ex':List Addr}{H H1 H2:Hp}{h h1 h2 h':Heap}{a x e:Addr}{o:HO}
theorem Un.any(u:Un fs ex H H1 h h1){b:Addr}{ob:Obj}(q:h.get? b=some ob)(n:H b=none)(hx:b∉ex):∃sl,h1.get? b=some {ob with slots:=sl}:=by
 by_cases hb:b∈fs
 ·exact u.slot b ob q n hb hx
 ·exact⟨ob.slots,u.keep b ob q n hb hx⟩
theorem Un.kept(k:∀b u,h.get? b=some u->h'.get? b=some u):Un fs ex H H h h':=
 ⟨fun b ob q _ _ _=>k b ob q,fun b ob q _ _ _=>⟨ob.slots,k b ob q⟩,fun _ _ _ n _=>n,fun b ob q _=>⟨ob,k b ob q⟩,fun _ _ q=>q,fun _ _ _ q=>q,fun _ ps q=>⟨#[],by rw[q];simp⟩⟩
theorem Un.refl:Un fs ex H H h h:=Un.kept fun _ _ q=>q
theorem Un.laid(k:∀b u,h.get? b=some u->h'.get? b=some u)(hp:h.objs.size<=a)(hn:H a=none):Un fs ex H (upd H a o) h h' where
 keep:=fun b u q _ _ _=>k b u q
 slot:=fun b u q _ _ _=>⟨u.slots,k b u q⟩
 free:=fun b u q n _=>by rw[av (FL (Fu (Fy q) hp))];exact n
 there:=fun b u q _=>⟨u,k b u q⟩
 tups:=fun b xs q=>by rw[av (aP q hn)];exact q
 frzs:=fun b u xs q=>by rw[av (aP q hn)];exact q
 tbls:=fun b ps q=>⟨#[],by rw[av (aP q hn),q];simp⟩
theorem Un.write(mu:CG (H x))(he:e=x\/H e=some (.own x))(k:∀b u,b≠e->h.get? b=some u->h'.get? b=some u)(Co:∃u,h'.get? e=some u):Un fs ex H (upd H x o) h h':=by
 have hx:∀b,H b=none->b≠x:=fun b n z=>by subst z;rw[n]at mu;exact mu
 have hb:∀b,H b=none->b≠e:=fun b n z=>by
  subst z;rcases he with r|r
  ·exact hx b n r
  ·rw[n]at r;cases r
 have hm:∀b u,H b=some u->¬ CG (some u)->b≠x:=fun b u q nm z=>by subst z;rw[q]at mu;exact nm mu
 refine⟨fun b u q n _ _=>k b u (hb b n) q,fun b u q n _ _=>⟨u.slots,k b u (hb b n) q⟩,fun b u q n _=>by rw[av (hx b n)];exact n,fun b u q _=>?_,
  fun b xs q=>by rw[av (hm b _ q fun z=>z)];exact q,fun b u xs q=>by rw[av (hm b _ q fun z=>z)];exact q,fun b ps q=>⟨#[],by rw[av (hm b _ q fun z=>z),q];simp⟩⟩
 by_cases hbe:b=e
 ·subst hbe;exact Co
 ·exact⟨u,k b u hbe q⟩
end
def trk(h:Heap)(H:Hp):List Addr:=(List.range h.objs.size).filter fun a=>(H a).isSome
def lA(h:Heap)(H:Hp):Heap:=PySem.W.hideAll h (trk h H)
theorem jQ(h:Heap)(H:Hp):(lA h H).objs.size=h.objs.size:=PySem.W.hideAll_size _ _
theorem lB{h:Heap}{H:Hp}{b:Addr}{o:Obj}(e:h.get? b=some o)(n:H b=none):(lA h H).get? b=some o:=
 Hj _ e fun hm=>by
  have q:(H b).isSome=true:=(List.mem_filter.mp hm).2;rw[n]at q;simp at q
theorem nr{h:Heap}{H:Hp}{b:Addr}{o:Obj}(e:(lA h H).get? b=some o):h.get? b=some o/\H b=none:=by
 have e':h.get? b=some o:=Io (trk h H) e;refine⟨e',?_⟩;cases q:H b with
 |none=>rfl
 |some x=>
  have hm:b∈trk h H:=List.mem_filter.mpr ⟨List.mem_range.mpr (Fy e'),by simp[q]⟩;have z:(lA h H).get? b=none:=PySem.W.hideAll_none (trk h H) hm;rw[z]at e;cases e
def nu(g h:Heap)(L:Addr):List (Addr×Obj):=(List.range h.objs.size).filterMap fun a=>if a=L\/(g.get? a).isSome=true then none else(h.get? a).map fun o=>(a,o)
def rest(g h:Heap)(L d:Addr):List (Addr×Obj):=(nu g h L).filter fun p=>decide (p.1≠d)
structure Mod(K:W.Frag)(mg:Str->Option Value)(base:Heap):Prop where
 kin:K.In base
 glob:base.Ns mainGlobals mg
 blt:∃mb,base.Ns builtinsNs mb/\∀x:Str,x≠"__name__"->mb x=bootBuiltins x
 nolimit:base.NoLimit
structure Cx where
 prog:Program
 w:World
 K:W.Frag
 mg:Str->Option Value
 base:Heap
 A:Around
 N:List Str
 s₀:Shared
 H₀:Hp
 env:Env
 outer:List Env
 stack:List Env
 ex:List Addr
 fn:Str->Bool
 calm:Bool
 pn:List (Addr×Obj)
 xe:Value->Shared->Prop
def xV(l:List Env):List Addr:=l.filterMap (·.frame)
abbrev Cx.fs(X:Cx):List Addr:=xV X.outer
def D0(sc:Scope)(x:Str):Prop:=sc.names.lookup x=some .local\/sc.names.lookup x=some .cell\/sc.names.lookup x=some .free
def Loc(sc:Scope)(x:Str):Prop:=sc.names.lookup x=some .local\/sc.names.lookup x=some .cell
def uT(sc:Scope)(x:Str):Bool:=match sc.names.lookup x with
 |some .local=>true
 |some .cell=>true
 |_=>false
theorem lo{sc:Scope}{x:Str}(h:uT sc x=true):Loc sc x:=by
 unfold uT at h;split at h
 ·exact .inl (by assumption)
 ·exact .inr (by assumption)
 ·cases h

def vi(env:Env)(h:Heap)(m:Str->Option Value)(x:Str)(u:Value):Prop:=
 (env.kindOf x=some .local/\m x=some u)\/((env.kindOf x=some .cell\/env.kindOf x=some .free)/\∃c,env.cells.lookup x=some c/\h.IsCell c (some u))
structure Cx.Ok(X:Cx):Prop where
 mod:Mod X.K X.mg X.base
 kind:X.env.scope.kind=.function
 glob:X.env.globals=mainGlobals
 blt:X.env.builtins=builtinsNs
 above:X.s₀.heap.objs.size<=X.env.locals
 inj:∀x y c,X.env.cells.lookup x=some c->X.env.cells.lookup y=some c->x=y
 has:∀x,(X.env.kindOf x=some .cell\/X.env.kindOf x=some .free)->∃c,X.env.cells.lookup x=some c
 cab:∀x c,X.fn x=true->X.env.cells.lookup x=some c->X.s₀.heap.objs.size<=c
 hd:X.calm=true->X.A.handled=none
 frames:X.A.frames=some X.stack
 stk:X.stack=X.outer\/(X.stack=X.env::X.outer/\X.env.frame=some X.env.locals)
 exf:∀b∈X.ex,b≠X.env.locals/\∀x c,X.env.cells.lookup x=some c->c≠b
 bs:∀b o,X.base.get? b=some o->X.s₀.heap.get? b=some o/\X.H₀ b=none
 bsz:X.base.objs.size<=X.s₀.heap.objs.size
 noex:∀b o,X.base.get? b=some o->b∉X.ex
 exfs:∀b∈X.ex,b∉X.fs
 funs:X.s₀.heap.FunFrames X.base X.outer
 frf:∀b∈X.fs,X.H₀ b=none
structure Inv(X:Cx)(pr:List (Addr×Obj))(σ:List (Option V))(H:Hp)(s:Shared):Prop where
 ok:X.Ok
 os:s.os=X.s₀.os
 bare:AllBare s.gens
 base:Un X.fs X.ex X.H₀ H X.s₀.heap s.heap
 loc:∃m,s.heap.Ns X.env.locals m/\∀(i:Nat) (x:Str) (v:V),X.N[i]?=some x->σ[i]?=some (some v)->D0 X.env.scope x->∃u,RelV v u/\vi X.env s.heap m x u
 cell:∀x c,X.env.cells.lookup x=some c->∃v,s.heap.IsCell c v
 free:H X.env.locals=none
 freeC:∀x c,X.env.cells.lookup x=some c->H c=none
 pin:∀p∈X.pn++pr,s.heap.get? p.1=some p.2/\H p.1=none/\p.1≠X.env.locals/\p.1∉X.fs/\∀v,p.2.data≠.cell v
 hok:HOk X.prog X.w H s.heap
 len:σ.length=X.N.length
section
variable{X:Cx}{pr:List (Addr×Obj)}{σ:List (Option V)}{H H':Hp}{s:Shared}{h':Heap}
theorem Cx.Ok.nofr(ok:X.Ok){b:Addr}{o:Obj}(e:X.base.get? b=some o):b∉X.fs:=fun hb=>by
 have:=(ok.funs.mem hb).1;rw[e]at this;cases this
theorem Inv.bs(I:Inv X pr σ H s):∀b o,X.base.get? b=some o->s.heap.get? b=some o/\H b=none:=fun b o e=>
 ⟨I.base.keep b o (I.ok.bs b o e).1 (I.ok.bs b o e).2 (I.ok.nofr e) (I.ok.noex b o e),I.base.free b o (I.ok.bs b o e).1 (I.ok.bs b o e).2 (I.ok.noex b o e)⟩
theorem Inv.bk(I:Inv X pr σ H s):∀b o,X.base.get? b=some o->s.heap.get? b=some o:=fun b o e=>(I.bs b o e).1
theorem Inv.mod(I:Inv X pr σ H s):Mod X.K X.mg X.base:=I.ok.mod
theorem Inv.kIn(I:Inv X pr σ H s):X.K.In s.heap:=I.ok.mod.kin.keeps I.bk
theorem Inv.lt(I:Inv X pr σ H s):X.env.locals<s.heap.objs.size:=let⟨_,hn,_⟩:=I.loc;hn.lt
theorem Inv.sz(I:Inv X pr σ H s):X.s₀.heap.objs.size<=s.heap.objs.size:=Ge I.ok.above (IH I.lt)
theorem Inv.nofs(I:Inv X pr σ H s){a:Addr}(h:s.heap.objs.size<=a):a∉X.fs:=fun hb=>by
 obtain⟨_,o,ho,_⟩:=I.ok.funs.mem hb;exact absurd (Fu (Fy ho) (Ge I.sz h)) (Gx _)
theorem Inv.cne(I:Inv X pr σ H s):∀x c,X.env.cells.lookup x=some c->c≠X.env.locals:=fun x c e z=>by
 obtain⟨v,o,ho,hd⟩:=I.cell x c e;obtain⟨m,⟨o',es,ep,Ad,hd',_⟩,_⟩:=I.loc;rw[z,Ad]at ho;cases ho;rw[hd']at hd;cases hd
theorem Inv.funs(I:Inv X pr σ H s):s.heap.FunFrames X.base X.outer:=by
 have all:∀(l:List Env),(∀b∈xV l,b∈X.fs)->X.s₀.heap.FunFrames X.base l->s.heap.FunFrames X.base l:=by
  intro l;induction l with
  |nil=>intro _ _;trivial
  |cons env r ih=>
   intro hs hl;obtain⟨hk,⟨L,o,hf,hn,ho,hd⟩,hr⟩:=hl;have hL:L∈X.fs:=hs L (by unfold xV;rw[GC,hf];exact Fm);obtain⟨sl,e⟩:=I.base.slot L o ho (I.ok.frf L hL) hL fun z=>I.ok.exfs L z hL
   exact⟨hk,⟨L,_,hf,hn,e,hd⟩,ih (fun b hb=>hs b (by unfold xV;rw[GC,hf];exact Ft _ hb)) hr⟩
 exact all X.outer (fun _ hb=>hb) I.ok.funs
theorem Inv.stack(I:Inv X pr σ H s):s.heap.FunFrames X.base X.stack:=by
 rcases I.ok.stk with e|⟨e,hf⟩
 ·rw[e];exact I.funs
 ·rw[e];obtain⟨m,hn,_⟩:=I.loc;refine .cons (by rw[I.ok.kind];decide) hf hn ?_ I.funs;exact Heap.get?_none_of_le (Ge I.ok.bsz I.ok.above)
theorem Inv.stkSub(I:Inv X pr σ H s):∀b∈xV X.stack,b∈X.env.locals::X.fs:=fun b hb=>by
 rcases I.ok.stk with e|⟨e,hf⟩
 ·rw[e]at hb;exact Ft _ hb
 ·rw[e]at hb;unfold xV at hb;rw[GC,hf]at hb;exact hb
theorem Inv.stkFree(I:Inv X pr σ H s):∀b∈xV X.stack,H b=none:=fun b hb=>by
 rcases FK.mp (I.stkSub b hb) with e|hb
 ·rw[e];exact I.free
 ·obtain⟨_,o,ho,_⟩:=I.ok.funs.mem hb;exact I.base.free b o ho (I.ok.frf b hb) fun z=>I.ok.exfs b z hb
theorem Inv.step{g':Array GenState}{t':Nat}{d':Drawn}{ch:List Addr}(I:Inv X pr σ H s)
  (AI:∀b∈ch,(b∈X.ex\/X.s₀.heap.objs.size<=b)/\b≠X.env.locals/\(∀x c,X.env.cells.lookup x=some c->c≠b)/\∀p∈X.pn++pr,p.1≠b)
  (keep:∀b o,b≠X.env.locals->b∉X.fs->b∉ch->s.heap.get? b=some o->H b=none->h'.get? b=some o)
  (slot:∀b o,b≠X.env.locals->b∈X.fs->b∉ch->s.heap.get? b=some o->H b=none->∃sl,h'.get? b=some {o with slots:=sl}) (free:∀b o,b∉ch->s.heap.get? b=some o->H b=none->H' b=none)
  (there:∀b o,b∉ch->s.heap.get? b=some o->∃o',h'.get? b=some o')
  (tups:∀b xs,H b=some (.tup xs)->H' b=some (.tup xs)) (frzs:∀b o u,H b=some (.frz o u)->H' b=some (.frz o u)) (tbls:∀b ps,H b=some (.tbl ps)->∃more,H' b=some (.tbl (ps++more)))
  (ns:∀m,s.heap.Ns X.env.locals m->h'.Ns X.env.locals m) (hok:HOk X.prog X.w H' h') (hg:AllBare g'):
  Inv X pr σ H' {s with heap:=h',gens:=g',drawn:=d',toks:=t'}:=by
 have EH:∀b o,X.s₀.heap.get? b=some o->b≠X.env.locals:=fun b o e=>FL (Fu (Fy e) I.ok.above)
 have DG:∀b o,X.s₀.heap.get? b=some o->b∉X.ex->b∉ch:=fun b o e hx hb=>by
  rcases(AI b hb).1 with z|z
  ·exact hx z
  ·exact absurd (Fu (Fy e) z) (Gx _)
 have cellK:∀x c,X.env.cells.lookup x=some c->∀v,s.heap.IsCell c v->h'.IsCell c v:=fun x c e v xi=>by
  obtain⟨o,ho,hd⟩:=xi;have CI:c∉ch:=fun z=>(AI c z).2.2.1 x c e rfl
  by_cases hc:c∈X.fs
  ·obtain⟨sl,q⟩:=slot c o (I.cne x c e) hc CI ho (I.freeC x c e);exact⟨_,q,hd⟩
  ·exact⟨o,keep c o (I.cne x c e) hc CI ho (I.freeC x c e),hd⟩
 refine⟨I.ok,I.os,hg,⟨fun b o e n hb hx=>?_,fun b o e n hb hx=>?_,fun b o e n hx=>?_,fun b o e hx=>?_,fun b xs e=>tups b xs (I.base.tups b xs e),fun b o xs e=>frzs b o xs (I.base.frzs b o xs e),fun b ps e=>?_⟩,?_,fun x c e=>?_,?_,fun x c e=>?_,fun p hp=>?_,hok,I.len⟩
 ·exact keep b o (EH b o e) hb (DG b o e hx) (I.base.keep b o e n hb hx) (I.base.free b o e n hx)
 ·obtain⟨sl,e1⟩:=I.base.slot b o e n hb hx;obtain⟨EI,e2⟩:=slot b _ (EH b o e) hb (DG b o e hx) e1 (I.base.free b o e n hx);exact⟨EI,e2⟩
 ·obtain⟨o',e1⟩:=I.base.there b o e hx;exact free b o' (DG b o e hx) e1 (I.base.free b o e n hx)
 ·obtain⟨o',e1⟩:=I.base.there b o e hx;exact there b o' (DG b o e hx) e1
 ·obtain⟨m1,e1⟩:=I.base.tbls b ps e;obtain⟨m2,e2⟩:=tbls b _ e1;exact⟨m1++m2,by rw[e2,Ip]⟩
 ·obtain⟨m,hn,hl⟩:=I.loc;refine⟨m,ns m hn,fun i x v e1 e2 e3=>?_⟩;obtain⟨u,r,l⟩:=hl i x v e1 e2 e3;refine⟨u,r,?_⟩;rcases l with l|⟨k,c,e,z⟩
  ·exact .inl l
  ·exact .inr ⟨k,c,e,cellK x c e _ z⟩
 ·obtain⟨v,z⟩:=I.cell x c e;exact⟨v,cellK x c e v z⟩
 ·obtain⟨m,⟨o,_,_,ho,_⟩,_⟩:=I.loc;exact free _ o (fun z=>(AI _ z).2.1 rfl) ho I.free
 ·obtain⟨v,o,ho,hd⟩:=I.cell x c e;exact free c o (fun z=>(AI c z).2.2.1 x c e rfl) ho (I.freeC x c e)
 ·obtain⟨e,n,ne,nf,d⟩:=I.pin p hp;have CI:p.1∉ch:=fun z=>(AI p.1 z).2.2.2 p hp rfl
  exact⟨keep p.1 p.2 ne nf CI e n,free p.1 p.2 CI e n,ne,nf,d⟩
theorem Inv.un{t':Nat}(I:Inv X pr σ H s)(u:Un X.fs [] H H' s.heap h')(hok:HOk X.prog X.w H' h'):Inv X pr σ H' {s with heap:=h',toks:=t'}:=by
 obtain⟨m,⟨o,es,ep,ho,r⟩,_⟩:=id I.loc;obtain⟨sl,hL⟩:=u.any ho I.free (by simp);exact I.step (g':=s.gens) (d':=s.drawn) (ch:=[]) (fun _ z=>nomatch z) (fun b o _ hb _ e n=>u.keep b o e n hb (by simp)) (fun b o _ hb _ e n=>u.slot b o e n hb (by simp)) (fun b o _ e n=>u.free b o e n (by simp)) (fun b o _ e=>u.there b o e (by simp)) u.tups u.frzs u.tbls (fun m' hm=>by
  obtain⟨o',Bz,D1,Ad,r'⟩:=hm;rw[ho]at Ad;cases Ad;exact⟨_,Bz,D1,hL,r'⟩) hok I.bare
theorem Inv.call{g':Array GenState}{t':Nat}{d':Drawn}{ch:List Addr}(I:Inv X pr σ H s)(u:Un (xV X.stack) ch H H' s.heap h')(hok:HOk X.prog X.w H' h')(hg:AllBare g')
  (AI:∀b∈ch,(b∈X.ex\/X.s₀.heap.objs.size<=b)/\b≠X.env.locals/\(∀x c,X.env.cells.lookup x=some c->c≠b)/\∀p∈X.pn++pr,p.1≠b):
  Inv X pr σ H' {s with heap:=h',gens:=g',drawn:=d',toks:=t'}:=by
 obtain⟨m,⟨o,es,ep,ho,r⟩,_⟩:=id I.loc;obtain⟨sl,hL⟩:=u.any ho I.free fun z=>(AI _ z).2.1 rfl
 exact I.step (ch:=ch) AI (fun b o hL hb hc e n=>u.keep b o e n (fun z=>(FK.mp (I.stkSub b z)).elim hL hb) hc) (fun b o _ _ hc e n=>u.any e n hc) (fun b o hc e n=>u.free b o e n hc) (fun b o hc e=>u.there b o e hc) u.tups u.frzs u.tbls (fun m' hm=>by
  obtain⟨o',Bz,D1,Ad,r'⟩:=hm;rw[ho]at Ad;cases Ad;exact⟨_,Bz,D1,hL,r'⟩) hok hg
theorem Inv.turned{t':Nat}{it:Addr}(I:Inv X pr σ H s)(k:∀b o,b≠it->s.heap.get? b=some o->h'.get? b=some o)(hn:H it=none)(hL:it≠X.env.locals)
  (h1:it∈X.ex\/X.s₀.heap.objs.size<=it) (h2:∀x c,X.env.cells.lookup x=some c->c≠it) (h3:∀p∈X.pn++pr,p.1≠it):Inv X pr σ H {s with heap:=h',toks:=t'}:=by
 have EJ:∀b u,H b=some u->b≠it:=fun b u e z=>by rw[z,hn]at e;cases e
 refine I.step (g':=s.gens) (d':=s.drawn) (ch:=[it]) (fun b hb=>?_) (fun b o _ _ hc e _=>k b o (fun z=>hc (by simp[z])) e) (fun b o _ _ hc e _=>⟨o.slots,k b o (fun z=>hc (by simp[z])) e⟩) (fun _ _ _ _ n=>n)
  (fun b o hc e=>⟨o,k b o (fun z=>hc (by simp[z])) e⟩) (fun _ _ e=>e) (fun _ _ _ e=>e) (fun b ps e=>⟨#[],by rw[e];simp⟩) (fun m hm=>?_) (fun b u e=>?_) I.bare
 ·have e:b=it:=by simpa using hb
  subst e;exact⟨h1,hL,h2,h3⟩
 ·obtain⟨o,es,ep,ho,r⟩:=hm;exact⟨o,es,ep,k _ o (Ig hL) ho,r⟩
 ·refine(I.hok b u e).stay (fun c v hc q=>k c v ?_ q) (fun _ q=>q) fun _ _ q=>q
  rcases hc with z|z
  ·rw[z];exact EJ b u e
  ·exact EJ c _ z
theorem Inv.tok(I:Inv X pr σ H s)(t:Nat):Inv X pr σ H {s with toks:=t}:=I.un (h':=s.heap) (t':=t) Un.refl I.hok
theorem Inv.kept{t':Nat}(I:Inv X pr σ H s)(k:∀b u,s.heap.get? b=some u->h'.get? b=some u):Inv X pr σ H {s with heap:=h',toks:=t'}:=I.un (Un.kept k) (I.hok.kept k)
theorem Inv.laid{a:Addr}{o:HO}{t':Nat}(I:Inv X pr σ H s)(k:∀b u,s.heap.get? b=some u->h'.get? b=some u)(hp:s.heap.objs.size<=a)(new:ObjOk X.prog X.w (upd H a o) h' a o):
  Inv X pr σ (upd H a o) {s with heap:=h',toks:=t'}:=I.un (Un.laid k hp (I.hok.fresh hp)) (I.hok.laid k hp new)
theorem Inv.write{x e:Addr}{o:HO}{t':Nat}(I:Inv X pr σ H s)(mu:CG (H x))(he:e=x\/H e=some (.own x))(k:∀b u,b≠e->s.heap.get? b=some u->h'.get? b=some u)(Co:∃u,h'.get? e=some u)
  (new:ObjOk X.prog X.w (upd H x o) h' x o):Inv X pr σ (upd H x o) {s with heap:=h',toks:=t'}:=I.un (Un.write mu he k Co) (I.hok.write mu he k Co new)
theorem Inv.pins_of{Bn:List (Addr×Obj)}(I:Inv X pr σ H s)(h:∀p∈Bn,s.heap.get? p.1=some p.2/\H p.1=none/\p.1≠X.env.locals/\p.1∉X.fs/\∀v,p.2.data≠.cell v):Inv X Bn σ H s:=
 ⟨I.ok,I.os,I.bare,I.base,I.loc,I.cell,I.free,I.freeC,fun p hp=>(FQ.mp hp).elim (fun z=>I.pin p (Fz _ z)) (h p),I.hok,I.len⟩
theorem gd{N:List Str}(hN:N.Nodup){i j:Nat}{x:Str}(a:N[i]?=some x)(b:N[j]?=some x):i=j:=by
 obtain⟨h1,e1⟩:=FE.mp a;obtain⟨h2,e2⟩:=FE.mp b;exact(List.getElem_inj hN).mp (e1.trans e2.symm)
theorem gL{M:Model}{A:Around}{E:Value->Shared->Prop}{i:Nat}{x:Str}{v:V}{u:Value}{Q:Unit->Shared->Prop}(I:Inv X pr σ H s)(hN:X.N.Nodup)(hi:X.N[i]?=some x)(hx:Loc X.env.scope x)(r:RelV v u)
  (h:∀s',Inv X pr (σ.set i (some v)) H s'->(∃a,Heap.SameBut a s.heap s'.heap/\(a=X.env.locals\/X.env.cells.lookup x=some a))->Q () s') (hf:X.fn x=true\/X.env.scope.names.lookup x=some .local:=by first|exact .inl rfl|exact .inr rfl|assumption):wpAny M A (storeName X.env x u) Q E s:=by
 obtain⟨m,hn,hl⟩:=id I.loc;have BA:(X.env.scope.kind==.class||(X.env.scope.kind==.module&&X.env.locals != X.env.globals))=false:=by rw[I.ok.kind];rfl
 have hiσ:i<σ.length:=by rw[I.len];exact(FE.mp hi).1
 have cne:=I.cne;have tracked:∀{a:Addr}{h':Heap},(∃o,s.heap.get? a=some o/\H a=none)->Heap.SameBut a s.heap h'->HOk X.prog X.w H h':=fun{a h'} ha hs b ob e=>by
  obtain⟨_,_,Bo⟩:=ha;refine(I.hok b ob e).stay (fun c w' hc q=>(hs.2 c ?_).trans q) (fun _ q=>q) fun _ _ q=>q
  rintro rfl;rcases hc with rfl|hc
  ·rw[Bo]at e;cases e
  ·rw[Bo]at hc;cases hc
 rcases hx with hk|hk
 ·refine wpAny_storeName_local hk hn (fun h' D2 hs=>?_) BA;obtain⟨oL,_,_,hoL,_⟩:=id hn;refine h _ ⟨I.ok,I.os,I.bare,⟨fun b o e n hb hx=>?_,fun b o e n hb hx=>?_,I.base.free,fun b o e hx=>?_,I.base.tups,I.base.frzs,I.base.tbls⟩,⟨_,D2,fun j y v' e1 e2 e3=>?_⟩,fun y c e=>?_,I.free,I.freeC,fun p hp=>?_,tracked ⟨oL,hoL,I.free⟩ hs,by simpa using I.len⟩ ⟨_,hs,.inl rfl⟩
  ·exact(hs.2 b (FL (Fu (Fy e) I.ok.above))).trans (I.base.keep b o e n hb hx)
  ·obtain⟨sl,e1⟩:=I.base.slot b o e n hb hx;exact⟨sl,(hs.2 b (FL (Fu (Fy e) I.ok.above))).trans e1⟩
  ·obtain⟨o',e1⟩:=I.base.there b o e hx;exact⟨o',(hs.2 b (FL (Fu (Fy e) I.ok.above))).trans e1⟩
  ·by_cases hj:j=i
   ·subst hj;rw[hi]at e1;cases e1;rw[Gk hiσ]at e2;cases e2;exact⟨u,r,.inl ⟨hk,by simp⟩⟩
   ·rw[GU (Ig hj)]at e2;obtain⟨u',r',q⟩:=hl j y v' e1 e2 e3;refine⟨u',r',?_⟩;rcases q with⟨k,e⟩|⟨k,c,e,z⟩
    ·refine .inl ⟨k,?_⟩;have:y≠x:=fun e=>hj (gd hN e1 (e▸hi))
     simp[this,e]
    ·exact .inr ⟨k,c,e,z.sameBut hs (cne y c e)⟩
  ·obtain⟨w',z⟩:=I.cell y c e;exact⟨w',z.sameBut hs (cne y c e)⟩
  ·obtain⟨e,n,ne,nf,d⟩:=I.pin p hp;exact⟨(hs.2 p.1 ne).trans e,n,ne,nf,d⟩
 ·have AO:X.fn x=true:=by
   rcases hf with z|z
   ·exact z
   ·rw[z]at hk;cases hk
  obtain⟨c,hc⟩:=I.ok.has x (.inl hk);obtain⟨w',z⟩:=I.cell x c hc;refine wpAny_storeName_cell I.ok.kind hk hc z (fun h' DH hs=>?_);obtain⟨oc,EK,hocd⟩:=id z;refine h {s with heap:=h'} ⟨I.ok,I.os,I.bare,⟨fun b o e n hb hx=>?_,fun b o e n hb hx=>?_,I.base.free,fun b o e hx=>?_,I.base.tups,I.base.frzs,I.base.tbls⟩,⟨m,hn.sameBut hs (Ig (cne x c hc)),fun j y v' e1 e2 e3=>?_⟩,fun y c' e=>?_,I.free,I.freeC,fun p hp=>?_,tracked ⟨oc,EK,I.freeC x c hc⟩ hs,by simpa using I.len⟩ ⟨c,hs,.inr hc⟩
  ·exact(hs.2 b (FL (Fu (Fy e) (I.ok.cab x c AO hc)))).trans (I.base.keep b o e n hb hx)
  ·obtain⟨sl,e1⟩:=I.base.slot b o e n hb hx;exact⟨sl,(hs.2 b (FL (Fu (Fy e) (I.ok.cab x c AO hc)))).trans e1⟩
  ·obtain⟨o',e1⟩:=I.base.there b o e hx;exact⟨o',(hs.2 b (FL (Fu (Fy e) (I.ok.cab x c AO hc)))).trans e1⟩
  ·by_cases hj:j=i
   ·subst hj;rw[hi]at e1;cases e1;rw[Gk hiσ]at e2;cases e2;exact⟨u,r,.inr ⟨.inl hk,c,hc,DH⟩⟩
   ·rw[GU (Ig hj)]at e2;obtain⟨u',r',q⟩:=hl j y v' e1 e2 e3;refine⟨u',r',?_⟩;rcases q with q|⟨k,c',e,z'⟩
    ·exact .inl q
    ·refine .inr ⟨k,c',e,z'.sameBut hs ?_⟩;rintro rfl;exact hj (gd hN e1 (I.ok.inj _ _ _ e hc▸hi))
  ·by_cases hcc:c'=c
   ·subst hcc;exact⟨_,DH⟩
   ·obtain⟨w2,z2⟩:=I.cell y c' e;exact⟨w2,z2.sameBut hs hcc⟩
  ·obtain⟨e,n,ne,nf,d⟩:=I.pin p hp;refine⟨(hs.2 p.1 ?_).trans e,n,ne,nf,d⟩;intro q;rw[q,EK]at e;have q':oc=p.2:=F6 e;exact d w' (by rw[<-q'];exact hocd)
theorem gf{M:Model}{A:Around}{E:Value->Shared->Prop}{i:Nat}{x:Str}{v:V}{u:Value}{Q:Unit->Shared->Prop}(I:Inv X pr σ H s)(hN:X.N.Nodup)(hi:X.N[i]?=some x)(hx:Loc X.env.scope x)(r:RelV v u)
  (h:∀s',Inv X pr (σ.set i (some v)) H s'->Q () s') (hf:X.fn x=true\/X.env.scope.names.lookup x=some .local:=by first|exact .inl rfl|exact .inr rfl|assumption):wpAny M A (storeName X.env x u) Q E s:=
 gL I hN hi hx r (fun s' I' _=>h s' I') hf
theorem Inv.call'{s':Shared}{ch:List Addr}(I:Inv X pr σ H s)(ho:s'.os=s.os)(u:Un (xV X.stack) ch H H' s.heap s'.heap)(hok:HOk X.prog X.w H' s'.heap)(hg:AllBare s'.gens)
  (AI:∀b∈ch,(b∈X.ex\/X.s₀.heap.objs.size<=b)/\b≠X.env.locals/\(∀x c,X.env.cells.lookup x=some c->c≠b)/\∀p∈X.pn++pr,p.1≠b):Inv X pr σ H' s':=by
 obtain⟨h',g',d',t',o'⟩:=s';have e:o'=s.os:=ho;subst e;exact I.call (g':=g') (t':=t') (d':=d') u hok hg AI
end
abbrev XK:=Value->Option Addr->Hp->Prop
abbrev St:=List (Option V)
abbrev VK:=V->Hp->Prop
abbrev TE:=St->Hp->VK->Prop
abbrev TT:=St->Hp->(Bool->Hp->Prop)->Prop
abbrev TA:=St->Hp->(List V->Hp->Prop)->Prop
structure Ends where
 nx:St->Hp->Prop
 rt:VK
 bk:St->Hp->Prop:=fun _ _=>False
 ct:St->Hp->Prop:=fun _ _=>False
abbrev TS:=Ends->St->Hp->Prop
def EP(X:Cx)(pr:List (Addr×Obj))(σ:St)(Q:VK)(u:Value)(s':Shared):Prop:=∃v H',Inv X pr σ H' s'/\RelV v u/\Q v H'
def TP(X:Cx)(pr:List (Addr×Obj))(σ:St)(Q:Bool->Hp->Prop)(b:Bool)(s':Shared):Prop:=∃H',Inv X pr σ H' s'/\Q b H'
def AP(X:Cx)(pr:List (Addr×Obj))(σ:St)(Q:List V->Hp->Prop)(us:List Value)(s':Shared):Prop:=∃vs H',Inv X pr σ H' s'/\Vals vs us/\Q vs H'
def SP(X:Cx)(pr:List (Addr×Obj))(D:Ends)(f:Flow)(s':Shared):Prop:=
 match f with
 | .next=>∃σ' H',Inv X pr σ' H' s'/\D.nx σ' H'
 | .brk=>∃σ' H',Inv X pr σ' H' s'/\D.bk σ' H'
 | .cont=>∃σ' H',Inv X pr σ' H' s'/\D.ct σ' H'
 | .ret u=>∃v σ' H',Inv X pr σ' H' s'/\RelV v u/\D.rt v H'
def PE(X:Cx)(e:Expr)(t:TE):Prop:=
 ∀(pr:List (Addr×Obj)) (s:Shared) (σ:St) (H:Hp) (Q:VK),Inv X pr σ H s->t σ H Q->wpAny (model X.prog X.w) X.A (eval e X.env) (EP X pr σ Q) X.xe s
def PT(X:Cx)(e:Expr)(t:TT):Prop:=
 ∀(pr:List (Addr×Obj)) (s:Shared) (σ:St) (H:Hp) (Q:Bool->Hp->Prop),Inv X pr σ H s->t σ H Q->wpAny (model X.prog X.w) X.A (isTrue e X.env (eval e X.env)) (TP X pr σ Q) X.xe s
def PW(X:Cx)(e:Expr)(t:TT):Prop:=
 ∀(whole:Sem Value) (pr:List (Addr×Obj)) (s:Shared) (σ:St) (H:Hp) (Q:Bool->Hp->Prop),Inv X pr σ H s->t σ H Q->wpAny (model X.prog X.w) X.A (isTrue e X.env whole) (TP X pr σ Q) X.xe s
theorem PW.pt{X:Cx}{e:Expr}{t:TT}(h:PW X e t):PT X e t:=h _
def PA(X:Cx)(es:List Expr)(t:TA):Prop:=
 ∀(pos:Pos) (pr:List (Addr×Obj)) (s:Shared) (σ:St) (H:Hp) (Q:List V->Hp->Prop),Inv X pr σ H s->t σ H Q->wpAny (model X.prog X.w) X.A (spliced (backTo pos (starEach es X.env))) (AP X pr σ Q) X.xe s
def PS(X:Cx)(st:Stmt)(t:TS):Prop:=
 ∀(pr:List (Addr×Obj)) (s:Shared) (σ:St) (H:Hp) (D:Ends),Inv X pr σ H s->t D σ H->wpAny (model X.prog X.w) X.A (exec st X.env) (SP X pr D) X.xe s
def PSs(X:Cx)(st:List Stmt)(t:TS):Prop:=
 ∀(pr:List (Addr×Obj)) (s:Shared) (σ:St) (H:Hp) (D:Ends),Inv X pr σ H s->t D σ H->wpAny (model X.prog X.w) X.A (execs st X.env) (SP X pr D) X.xe s
theorem xt{α:Type}{t:Sem α}{Q Q':α->Shared->Prop}{M:Model}{A:Around}{E:Value->Shared->Prop}{s:Shared}(h:wpAny M A t Q E s)(hQ:∀a s,Q a s->Q' a s):wpAny M A t Q' E s:=FW h hQ fun _ _ x=>x
section
variable{X:Cx}
theorem bin{a b:Expr}{ta tb:TE}(ha:PE X a ta)(hb:PE X b tb){pr:List (Addr×Obj)}{s:Shared}{σ:St}{H:Hp}{R:V->V->Hp->Prop}(I:Inv X pr σ H s)(h:ta σ H fun x H1=>tb σ H1 fun y H2=>R x y H2)
  {α:Type}{Q:α->Shared->Prop}{f:Value->Value->Sem α}
  (hf:∀v u s2 x y H2,Inv X pr σ H2 s2->RelV x v->RelV y u->R x y H2->wpAny (model X.prog X.w) X.A (f v u) Q X.xe s2):
  wpAny (model X.prog X.w) X.A (eval a X.env) (fun v s₁=>wpAny (model X.prog X.w) X.A (eval b X.env) (fun u s₂=>wpAny (model X.prog X.w) X.A (f v u) Q X.xe s₂) X.xe s₁) X.xe s:=by
 refine xt (ha pr s σ H _ I h) fun v s1 xu=>?_
 obtain⟨x,H1,I1,r1,q1⟩:=xu;refine xt (hb pr s1 σ H1 _ I1 q1) fun u s2 xu=>?_
 obtain⟨y,H2,I2,r2,q2⟩:=xu;exact hf v u s2 x y H2 I2 r1 r2 q2
def jL(i:Nat):TE:=fun σ H Q=>∃v,σ[i]?=some (some v)/\Q v H
def tC(v:V):TE:=fun _ H Q=>Q v H
theorem mJ{i:Nat}{x:Str}{pos:Pos}(hN:X.N[i]?=some x)(hv:D0 X.env.scope x)(hd:(x==("__debug__" : Str))=false:=by decide)(zP:(x==("__classdict__" : Str))=false:=by decide):PE X (.Name x pos) (jL i):=by
 intro pr s σ H Q I h;obtain⟨v,e,h⟩:=h;obtain⟨m,hn,hl⟩:=I.loc;obtain⟨u,r,l⟩:=hl i x v hN e hv;have fin:EP X pr σ Q u s:=⟨v,H,I,r,h⟩
 rcases l with⟨hk,hm⟩|⟨hk,c,hc,yg⟩
 ·exact wpAny_Name (wpAny_loadName_local I.ok.kind hk hn hm fin) hd
 ·rcases hk with hk|hk
  ·exact wpAny_Name (wpAny_loadName_cell I.ok.kind hk hc yg fin) hd
  ·exact wpAny_Name (wpAny_loadName_free I.ok.kind hk hc yg fin zP) hd
theorem pK{i j pos}:PE X (.Constant (.int i) j pos) (tC (.int i)):=fun _ _ _ H _ I h=>wpAny_Constant_int ⟨.int i,H,I.tok _,⟨_,rfl⟩,h⟩
theorem sS{b j pos}:PE X (.Constant (.bool b) j pos) (tC (.bl b)):=fun _ _ _ H _ I h=>Constant_bool ⟨.bl b,H,I,rfl,h⟩
theorem mK{j pos}:PE X (.Constant .none j pos) (tC .non):=fun _ _ _ H _ I h=>Constant_none ⟨.non,H,I,rfl,h⟩
theorem pL{x j pos}:PE X (.Constant (.str x) j pos) (tC (.str x)):=fun _ _ _ H _ I h=>Calls.Constant_str ⟨.str x,H,I.tok _,⟨_,rfl⟩,h⟩
def Gl(X:Cx)(x:Str):Prop:=X.env.kindOf x=some .globalImplicit
theorem eG{E:Value->Shared->Prop}{pr:List (Addr×Obj)}{s:Shared}{σ:St}{H:Hp}{x:Str}{u:Value}{pos:Pos}{Q:Value->Shared->Prop}(I:Inv X pr σ H s)(hg:Gl X x)(hm:X.mg x=some u)(h:Q u s)
  (hd:(x==("__debug__" : Str))=false:=by decide):wpAny (model X.prog X.w) X.A (eval (.Name x pos) X.env) Q E s:=
 Hn I.ok.kind hg (Calls.loadGlobal_global (by rw[I.ok.glob];exact I.mod.glob.keeps I.bk) hm h) hd
theorem iQ{E:Value->Shared->Prop}{pr:List (Addr×Obj)}{s:Shared}{σ:St}{H:Hp}{x:Str}{u:Value}{pos:Pos}{Q:Value->Shared->Prop}(I:Inv X pr σ H s)(hg:Gl X x)(hm:X.mg x=none)(hv:bootBuiltins x=some u)(h:Q u s)
  (hn:x≠"__name__":=by decide) (hd:(x==("__debug__" : Str))=false:=by decide):wpAny (model X.prog X.w) X.A (eval (.Name x pos) X.env) Q E s:=by
 obtain⟨mb,h1,h2⟩:=I.mod.blt;exact Hn I.ok.kind hg (Calls.loadGlobal_builtin (by rw[I.ok.glob];exact I.mod.glob.keeps I.bk) hm (by rw[I.ok.blt];exact h1.keeps I.bk) ((h2 x hn).trans hv) h) hd
theorem iv{x:Str}{v:V}{u:Value}{pos:Pos}(hg:Gl X x)(hm:X.mg x=some u)(r:RelV v u)(hd:(x==("__debug__" : Str))=false:=by decide):PE X (.Name x pos) (tC v):=
 fun _ _ _ H _ I h=>eG I hg hm ⟨v,H,I,r,h⟩ hd
theorem jR{x:Str}{v:V}{u:Value}{pos:Pos}(hg:Gl X x)(hm:X.mg x=none)(hv:bootBuiltins x=some u)(r:RelV v u)(hn:x≠"__name__":=by decide)(hd:(x==("__debug__" : Str))=false:=by decide):PE X (.Name x pos) (tC v):=
 fun _ _ _ H _ I h=>iQ I hg hm hv ⟨v,H,I,r,h⟩ hn hd
variable{a b:Expr}{ta tb:TE}{pos:Pos}
def PC(X:Cx)(op:CmpOp)(a b:Expr)(t:TE):Prop:=
 ∀(pr:List (Addr×Obj)) (s:Shared) (σ:St) (H:Hp) (Q:VK),Inv X pr σ H s->t σ H Q->
  wpAny (model X.prog X.w) X.A (eval a X.env) (fun v s₁=>wpAny (model X.prog X.w) X.A (eval b X.env) (fun u s₂=>wpAny (model X.prog X.w) X.A (compareOp op v u) (EP X pr σ Q) X.xe s₂) X.xe s₁) X.xe s
theorem lC(b:Expr){op:CmpOp}(h:op≠.In)(h2:op≠.NotIn):behindInMarks op b=false:=by
 have e1:(op==CmpOp.In)=false:=by cases op <;> first|rfl|exact absurd rfl h
 have e2:(op==CmpOp.NotIn)=false:=by cases op <;> first|rfl|exact absurd rfl h2
 cases b <;> simp[behindInMarks,e1,e2]
def tB(t:TE):TT:=fun σ H Q=>t σ H fun x H1=>∃c,x=.bl c/\Q c H1
theorem uU{op:CmpOp}{t:TE}(h:PC X op a b t)(h1:behindInMarks op b=false:=by first|exact lC _ (by decide) (by decide)|rfl):PT X (.Compare a [op] [b] pos) (tB t):=by
 intro pr s σ H Q I hw;refine He (xt (h pr s σ H _ I hw) fun v s1 h1=>xt h1 fun u s2 h2=>xt h2 fun c s3 ⟨x,H1,I1,r1,q1⟩=>?_) h1;obtain⟨d,rfl,q⟩:=q1;cases r1;exact GP ⟨H1,I1,q⟩
theorem mL{e:Expr}{t:TE}(h:PE X e t)(he:∀whole,isTrue e X.env whole=(do let v <-whole;standAt e.pos;holding [v] (truthy v)):=by intro _;rfl):PT X e (tB t):=by
 intro pr s σ H Q I hw;refine isTrue_plain (xt (h pr s σ H _ I hw) fun v s1 ⟨x,H1,I1,r1,q1⟩=>?_) (he _);obtain⟨d,rfl,q⟩:=q1;cases r1;exact GP ⟨H1,I1,q⟩
variable{tA DI:TT}{rest:List Expr}
def vj(t u:TT):TT:=fun σ H Q=>t σ H fun c H1=>if c=true then u σ H1 Q else Q false H1
def tOr(t u:TT):TT:=fun σ H Q=>t σ H fun c H1=>if c=true then Q true H1 else u σ H1 Q
def vk(t:TT):TT:=fun σ H Q=>t σ H fun c H1=>Q (!c) H1
theorem ny(ha:PT X a tA):PW X (.BoolOp .And [a] pos) tA:=by
 intro wh pr s σ H Q I h;refine isTrue_and (xt (ha pr s σ H Q I h) fun c s1 e=>?_);cases c with
 |true=>exact isTrue_and_nil e
 |false=>exact e
theorem mM(ha:PT X a tA):PW X (.BoolOp .Or [a] pos) tA:=by
 intro wh pr s σ H Q I h;refine isTrue_or (xt (ha pr s σ H Q I h) fun c s1 e=>?_);cases c with
 |false=>exact isTrue_or_nil e
 |true=>exact e
theorem pM(ha:PT X a tA)(hb:PW X (.BoolOp .And (b::rest) pos) DI):PW X (.BoolOp .And (a::b::rest) pos) (vj tA DI):=by
 intro wh pr s σ H Q I h;refine isTrue_and (xt (ha pr s σ H _ I h) fun c s1 xu=>?_);obtain⟨H1,I1,q1⟩:=xu;cases c with
 |true=>exact hb wh pr s1 σ H1 Q I1 q1
 |false=>exact⟨H1,I1,q1⟩
theorem pN(ha:PT X a tA)(hb:PW X (.BoolOp .Or (b::rest) pos) DI):PW X (.BoolOp .Or (a::b::rest) pos) (tOr tA DI):=by
 intro wh pr s σ H Q I h;refine isTrue_or (xt (ha pr s σ H _ I h) fun c s1 xu=>?_);obtain⟨H1,I1,q1⟩:=xu;cases c with
 |true=>exact⟨H1,I1,q1⟩
 |false=>exact hb wh pr s1 σ H1 Q I1 q1
theorem mO(ha:PT X a tA):PT X (.UnaryOp .Not a pos) (vk tA):=by
 intro pr s σ H Q I h;exact isTrue_not (ha pr s σ H (fun c H1=>Q (!c) H1) I h)
def sT(ta:TE):TE:=fun σ H Q=>ta σ H fun x H1=>∃c,x=.bl c/\Q (.bl (!c)) H1
theorem pO(ha:PE X a ta):PE X (.UnaryOp .Not a pos) (sT ta):=by
 intro pr s σ H Q I h;refine UnaryOp_ (xt (ha pr s σ H _ I h) fun v s1 xu=>?_);obtain⟨x,H1,I1,r1,q1⟩:=xu;obtain⟨c,rfl,q1⟩:=q1;cases r1;exact not_of (GP ⟨.bl (!c),H1,I1,rfl,q1⟩)
end
def SqL(K:W.Frag)(H:Hp)(a:Addr)(xs:List V):Prop:=
 Rd H a (.lst xs)\/
  ∃(o:Obj) (wZ:Array Value) (n:Nat),K.lookup a=some o/\o.cls=.type "list"/\o.dict=none/\o.data=.seq wZ n/\wZ.size<=sizeLine/\Vals xs wZ.toList
def SqT(K:W.Frag)(H:Hp)(a:Addr)(xs:List V):Prop:=
 Rd H a (.tup xs)\/
  ∃(o:Obj) (wZ:Array Value) (n:Nat),K.lookup a=some o/\o.cls=.type "tuple"/\o.dict=none/\o.data=.seq wZ n/\wZ.size<=sizeLine/\Vals xs wZ.toList
def vm:Value->Option V
 | .none=>some .non
 | .bool b=>some (.bl b)
 | .int i _=>some (.int i)
 | .str x _=>some (.str x)
 | .bytes b _=>some (.byt b)
 | .float b _=>some (.flt b)
 | .ref a=>some (.ref a)
 | .type n=>some (.ty n)
 |_=>none
theorem RelV.abs{x:V}{u:Value}(r:RelV x u):vm u=some x:=by
 cases x with
 |non=>cases r;rfl
 |bl _=>cases r;rfl
 |int _=>obtain⟨t,rfl⟩:=r;rfl
 |str _=>obtain⟨t,rfl⟩:=r;rfl
 |byt _=>obtain⟨t,rfl⟩:=r;rfl
 |flt _=>obtain⟨t,rfl⟩:=r;rfl
 |ref _=>cases r;rfl
 |ty _=>cases r;rfl
theorem RelV.inj{x y:V}{u:Value}(r:RelV x u)(q:RelV y u):x=y:=F6 (r.abs.symm.trans q.abs)
theorem Vals.inj:∀{xs ys:List V}{us:List Value},Vals xs us->Vals ys us->xs=ys
 |_,_,_,.nil,.nil=>rfl
 |_,_,_,.cons r t,.cons r' t'=>by rw[r.inj r',Vals.inj t t']
section
variable{X:Cx}{pr:List (Addr×Obj)}{σ:St}{H:Hp}{s:Shared}{a:Addr}{xs ys:List V}
theorem SqL.of{K:W.Frag}(h:H a=some (.lst xs)):SqL K H a xs:=.inl (.inl h)
theorem SqT.of{K:W.Frag}(h:H a=some (.tup xs)):SqT K H a xs:=.inl (.inl h)
theorem Inv.list(I:Inv X pr σ H s)(h:SqL X.K H a xs):∃wZ:List Value,Vals xs wZ/\PlainL s.heap a wZ.toArray/\xs.length<=sizeLine:=by
 rcases h with h|⟨o,wZ,n,hk,hc,hd,hs,hz,r⟩
 ·obtain⟨z,wZ,n,r,e⟩:=h.ok I.hok;exact⟨wZ,r,⟨_,n,e,rfl,rfl,rfl⟩,z⟩
 ·refine⟨wZ.toList,r,⟨o,n,I.kIn a o hk,hc,hd,by simpa using hs⟩,?_⟩;have e:=r.length;simp only[Gd]at e;lia
theorem Inv.tupleN(I:Inv X pr σ H s)(h:SqT X.K H a xs):∃wZ:List Value,Vals xs wZ/\IsTupN s.heap a wZ.toArray/\xs.length<=sizeLine:=by
 rcases h with h|⟨o,wZ,n,hk,hc,hdn,hs,hz,r⟩
 ·obtain⟨z,wZ,r,p⟩:=h.ok I.hok;exact⟨wZ,r,p,z⟩
 ·refine⟨wZ.toList,r,⟨o,I.kIn a o hk,hc,⟨n,by simpa using hs⟩,hdn⟩,?_⟩;have e:=r.length;simp only[Gd]at e;lia
theorem Inv.tuple(I:Inv X pr σ H s)(h:SqT X.K H a xs):∃wZ:List Value,Vals xs wZ/\IsTup s.heap a wZ.toArray/\xs.length<=sizeLine:=by
 obtain⟨wZ,r,p,z⟩:=I.tupleN h;exact⟨wZ,r,p.tup,z⟩
theorem Inv.list_inj(I:Inv X pr σ H s)(h:SqL X.K H a xs)(h':SqL X.K H a ys):xs=ys:=by
 obtain⟨wZ,r,⟨o,n,e,_,_,d⟩,_⟩:=I.list h;obtain⟨its',r',⟨o',n',e',_,_,d'⟩,_⟩:=I.list h';rw[e]at e';cases e';rw[d]at d';injection d' with d1 _;have:wZ=its':=by simpa using G0 Array.toList d1
 subst this;exact r.inj r'
theorem Inv.tuple_inj(I:Inv X pr σ H s)(h:SqT X.K H a xs)(h':SqT X.K H a ys):xs=ys:=by
 obtain⟨wZ,r,⟨o,e,_,n,d⟩,_⟩:=I.tuple h;obtain⟨its',r',⟨o',e',_,n',d'⟩,_⟩:=I.tuple h';rw[e]at e';cases e';rw[d]at d';injection d' with d1 _;have:wZ=its':=by simpa using G0 Array.toList d1
 subst this;exact r.inj r'
end
abbrev Cx.wish(X:Cx)(E:Value->Shared->Prop):Cx:={X with xe:=E}
abbrev Cx.nox(X:Cx):Cx:=X.wish fun _ _=>False
theorem Cx.Ok.wish{X:Cx}(ok:X.Ok)(E:Value->Shared->Prop):(X.wish E).Ok:=
 ⟨ok.mod,ok.kind,ok.glob,ok.blt,ok.above,ok.inj,ok.has,ok.cab,ok.hd,ok.frames,ok.stk,ok.exf,ok.bs,ok.bsz,ok.noex,ok.exfs,ok.funs,ok.frf⟩
theorem Cx.Ok.unwish{X:Cx}{E:Value->Shared->Prop}(ok:(X.wish E).Ok):X.Ok:=
 ⟨ok.mod,ok.kind,ok.glob,ok.blt,ok.above,ok.inj,ok.has,ok.cab,ok.hd,ok.frames,ok.stk,ok.exf,ok.bs,ok.bsz,ok.noex,ok.exfs,ok.funs,ok.frf⟩
section
variable{X:Cx}{pr:List (Addr×Obj)}{σ:St}{H:Hp}{s:Shared}{E:Value->Shared->Prop}
theorem Inv.wish(I:Inv X pr σ H s)(E:Value->Shared->Prop):Inv (X.wish E) pr σ H s:=⟨I.ok.wish E,I.os,I.bare,I.base,I.loc,I.cell,I.free,I.freeC,I.pin,I.hok,I.len⟩
theorem Inv.unwish(I:Inv (X.wish E) pr σ H s):Inv X pr σ H s:=⟨I.ok.unwish,I.os,I.bare,I.base,I.loc,I.cell,I.free,I.freeC,I.pin,I.hok,I.len⟩
theorem SP.unwish{D:Ends}{f:Flow}{s':Shared}(h:SP (X.wish E) pr D f s'):SP X pr D f s':=by
 cases f with
 |next=>obtain⟨σ',H',I,q⟩:=h;exact⟨σ',H',I.unwish,q⟩
 |brk=>obtain⟨σ',H',I,q⟩:=h;exact⟨σ',H',I.unwish,q⟩
 |cont=>obtain⟨σ',H',I,q⟩:=h;exact⟨σ',H',I.unwish,q⟩
 |ret u=>obtain⟨v,σ',H',I,r,q⟩:=h;exact⟨v,σ',H',I.unwish,r,q⟩
theorem PT.nox{e:Expr}{t:TT}(h:PT X.nox e t):PT X e t:=fun pr s σ H Q I hw=>
 FW (h pr s σ H Q (I.wish _) hw) (fun _ _ ⟨H',I',q⟩=>⟨H',I'.unwish,q⟩) fun _ _ z=>False.elim z
theorem PSs.nox{st:List Stmt}{t:TS}(h:PSs X.nox st t):PSs X st t:=fun pr s σ H D I hw=>
 FW (h pr s σ H D (I.wish _) hw) (fun _ _ q=>q.unwish) fun _ _ z=>False.elim z
end
section
variable{X:Cx}{st:Stmt}{rest:List Stmt}{t u:TS}{e:Expr}{te:TE}{pos:Pos}
def sU:TS:=fun D σ H=>D.nx σ H
def vn(t u:TS):TS:=fun D σ H=>t {D with nx:=u D} σ H
theorem iw:PSs X [] sU:=fun _ _ σ H _ I h=>G9 ⟨σ,H,I,h⟩
theorem eA(h1:PS X st t)(h2:PSs X rest u):PSs X (st::rest) (vn t u):=by
 intro pr s σ H D I h;refine F4 (xt (h1 pr s σ H {D with nx:=u D} I h) fun f s1 q=>?_);cases f with
 |next=>
  obtain⟨σ',H',I',q⟩:=q;exact h2 pr s1 σ' H' D I' q
 |ret v=>exact q
 |brk=>exact q
 |cont=>exact q
theorem nA(h1:PS X st t):PSs X [st] t:=by
 intro pr s σ H D I h;refine F4 (xt (h1 pr s σ H D I h) fun f s1 q=>?_);cases f with
 |next=>exact G9 q
 |ret v=>exact q
 |brk=>exact q
 |cont=>exact q
theorem Inv.quiet{pr:List (Addr×Obj)}{σ:St}{H:Hp}{s:Shared}(I:Inv X pr σ H s):interactive X.env=false:=by simp[interactive,I.ok.kind]
def sV(te:TE):TS:=fun D σ H=>te σ H fun _ H1=>D.nx σ H1
theorem nB(he:PE X e te)(hs:swapsWith e none pos.line X.env=pure false:=by rfl):PS X (.Expr e pos) (sV te):=by
 intro pr s σ H D I h;exact Ia (xt (he pr s σ H _ I h) fun v s1 ⟨x,H1,I1,r1,q1⟩=>⟨σ,H1,I1,q1⟩) I.quiet hs
def vo(te:TE):TS:=fun D σ H=>te σ H D.rt
theorem mP(he:PE X e te):PS X (.Return (some e) pos) (vo te):=by
 intro pr s σ H D I h;exact wpAny_Return_some (xt (he pr s σ H _ I h) fun v s1 ⟨x,H1,I1,r1,q1⟩=>⟨x,σ,H1,I1,r1,q1⟩)
def vp(c:TT)(t u:TS):TS:=fun D σ H=>c σ H fun b H1=>if b=true then t D σ H1 else u D σ H1
theorem sW{c:Expr}{a b:List Stmt}{tc:TT}(hc:PT X c tc)(ha:PSs X a t)(hb:PSs X b u):PS X (.If c a b pos) (vp tc t u):=by
 intro pr s σ H D I h;refine wpAny_If (xt (hc pr s σ H _ I h) fun d s1 xu=>?_);obtain⟨H1,I1,q1⟩:=xu;cases d with
 |true=>exact ha pr s1 σ H1 D I1 q1
 |false=>exact hb pr s1 σ H1 D I1 q1
def pP:TS:=fun _ _ _=>False
theorem lD:PS X st pP:=fun _ _ _ _ _ _ h=>h.elim
end
abbrev TG:=V->St->Hp->(St->Hp->Prop)->Prop
def PG(X:Cx)(target:Expr)(t:TG):Prop:=
 ∀(pr:List (Addr×Obj)) (s:Shared) (σ:St) (H:Hp) (v:V) (u:Value) (Q:St->Hp->Prop),Inv X pr σ H s->RelV v u->t v σ H Q->
  wpAny (model X.prog X.w) X.A (assign target X.env u) (fun _ s'=>∃σ' H',Inv X pr σ' H' s'/\Q σ' H') X.xe s
section
variable{X:Cx}{pos:Pos}
def pQ(i:Nat):TG:=fun v σ H Q=>Q (σ.set i (some v)) H
theorem nC{i:Nat}{x:Str}(hN:X.N.Nodup)(hi:X.N[i]?=some x)(hx:Loc X.env.scope x)(hf:X.fn x=true\/X.env.scope.names.lookup x=some .local:=by first|exact .inl rfl|exact .inr rfl|assumption):PG X (.Name x pos) (pQ i):=by
 intro pr s σ H v u Q I r h;exact wpAny_assign_Name (gf I hN hi hx r (fun s' I'=>⟨_,H,I',h⟩) hf)
def vq(te:TE)(g:TG):TS:=fun D σ H=>te σ H fun x H1=>g x σ H1 D.nx
theorem jS{i:Nat}{x:Str}{e:Expr}{te:TE}{pos':Pos}(hN:X.N.Nodup)(hi:X.N[i]?=some x)(hx:Loc X.env.scope x)(he:PE X e te)(hs:swapsWith e (some (.Name x pos')) pos.line X.env=pure false:=by rfl)(hf:X.fn x=true\/X.env.scope.names.lookup x=some .local:=by first|exact .inl rfl|exact .inr rfl|assumption):
  PS X (.Assign [.Name x pos'] e pos) (vq te (pQ i)):=by
 intro pr s σ H D I h;refine wpAny_Assign_Name (xt (he pr s σ H _ I h) fun v s1 ⟨y,H1,I1,r1,q1⟩=>?_) hs;exact gf I1 hN hi hx r1 (fun s2 I2=>⟨_,H1,I2,q1⟩) hf
end
section
variable{X:Cx}{pos:Pos}
def pR(c:TT)(tb:TS):TS:=fun D σ H=>∃W:Nat->St->Hp->Prop,(∃m,W m σ H)/\∀m σ H,W m σ H->
 c σ H fun b H1=>if b=true then ∃N:St->Hp->Prop,(∀σ' H',N σ' H'->∃m',m'<m/\W m' σ' H')/\tb {D with nx:=N,ct:=N,bk:=D.nx} σ H1 else D.nx σ H1
theorem lE{c:Expr}{body:List Stmt}{tc:TT}{tb:TS}(hp:PassesOwn (model X.prog X.w) X.A X.env X.xe)(hc:PT X c tc)(hb:PSs X body tb):PS X (.While c body [] pos) (pR tc tb):=by
 intro pr s σ H D I h;obtain⟨W,⟨m0,w0⟩,turn⟩:=h;refine wpAny_While (codeAny_whileLoop (fun n s'=>∃σ' H',Inv X pr σ' H' s'/\W n σ' H') ?_ m0 ⟨σ,H,I,w0⟩);rintro n s1 ⟨σ1,H1,I1,w1⟩;refine F9 hp (xt (hc pr s1 σ1 H1 _ I1 (turn n σ1 H1 w1)) fun b s2 xu=>?_);obtain⟨H2,I2,q2⟩:=xu;cases b with
 |true=>
  obtain⟨N,hN,q2⟩:=q2;rw[FY rfl];refine F9 hp (xt (hb pr s2 σ1 H2 _ I2 q2) fun f s3 q3=>?_);cases f with
  |next=>
   obtain⟨σ3,H3,I3,n3⟩:=q3;obtain⟨m',hm,w3⟩:=hN σ3 H3 n3;exact⟨m',hm,σ3,H3,I3,w3⟩
  |cont=>
   obtain⟨σ3,H3,I3,n3⟩:=q3;obtain⟨m',hm,w3⟩:=hN σ3 H3 n3;exact⟨m',hm,σ3,H3,I3,w3⟩
  |brk=>exact q3
  |ret v=>exact q3
 |false=>
  rw[F3 FR];exact G9 ⟨σ1,H2,I2,q2⟩
end
structure It where
 go:Nat->Hp->Prop
 yld:Nat->Hp->V->Hp->Prop
 stop:Nat->Hp->Prop
def ly(X:Cx)(pr:List (Addr×Obj))(H:Hp)(b:Addr):Prop:=
 H b=none/\b≠X.env.locals/\b∉X.fs/\(b∈X.ex\/X.s₀.heap.objs.size<=b)/\(∀x c,X.env.cells.lookup x=some c->c≠b)/\∀p∈X.pn++pr,p.1≠b
theorem Inv.fpOk{X:Cx}{pr:List (Addr×Obj)}{σ:St}{H H':Hp}{s:Shared}{b:Addr}(I:Inv X pr σ H s)(hb:s.heap.objs.size<=b)(hn:H' b=none):ly X pr H' b:=by
 refine⟨hn,Nat.ne_of_gt (Fu I.lt hb),I.nofs hb,.inr (Ge I.sz hb),fun x c e z=>?_,fun p hp z=>?_⟩
 ·obtain⟨v,q⟩:=I.cell x c e;exact absurd (Fu q.lt (by rw[z];exact hb)) (Gx _)
 ·exact absurd (Fu (Fy (I.pin p hp).1) (by rw[z];exact hb)) (Gx _)
structure Turn(P:Program)(w:World)(K:W.Frag)(tg:Expr)(J:It)(fp:List Addr)(it:Addr)(tn:Nat->Heap->Prop):Prop where
 mem:it∈fp
 obj:∀i h,tn i h->∀b∈fp,∃o,h.get? b=some o/\∀v,o.data≠.cell v
 keep:∀i h h',tn i h->(∀b∈fp,∀o,h.get? b=some o->h'.get? b=some o)->tn i h'
 item:∀(X:Cx),X.prog=P->X.w=w->X.K=K->X.calm=true->∀(i:Nat) (pr:List (Addr×Obj)) (s:Shared) (σ:St) (H:Hp) (E:Value->Shared->Prop),Inv X pr σ H s->(∀b∈fp,ly X pr H b)->tn i s.heap->J.go i H->
  wpAny (model P w) X.A (pyNext (.ref it)) (fun r s1=>∃u,r=some u/\
   wpAny (model P w) X.A (letOwnedTupleGo tg (.ref it) u) (fun _ s2=>∃x H',Inv X pr σ H' s2/\RelV x u/\J.yld i H x H'/\tn (i+1) s2.heap/\∀b∈fp,H' b=none) E s1) E s
 done:∀(X:Cx),X.prog=P->X.w=w->X.K=K->X.calm=true->∀(i:Nat) (pr:List (Addr×Obj)) (s:Shared) (σ:St) (H:Hp) (E:Value->Shared->Prop),Inv X pr σ H s->(∀b∈fp,ly X pr H b)->tn i s.heap->J.stop i H->
  wpAny (model P w) X.A (pyNext (.ref it)) (fun r s1=>r=none/\Inv X pr σ H s1) E s
 self:∀(A:Around) (i:Nat) (s:Shared) (Q:Value->Shared->Prop) (E:Value->Shared->Prop),tn i s.heap->Q (.ref it) s->wpAny (model P w) A (pyIter (.ref it)) Q E s
abbrev TI:=St->Hp->(It->Hp->Prop)->Prop
def EL(X:Cx)(pr:List (Addr×Obj))(σ:St)(tg:Expr)(R:It->Hp->Prop)(D3:Value)(s2:Shared):Prop:=
 ∃(it:Addr) (fp:List Addr) (tn:Nat->Heap->Prop) (J:It) (H':Hp),D3=.ref it/\Inv X pr σ H' s2/\Turn X.prog X.w X.K tg J fp it tn/\tn 0 s2.heap/\(∀b∈fp,ly X pr H' b)/\R J H'
def PI(X:Cx)(tg iter:Expr)(wi:TI):Prop:=
 ∀(pr:List (Addr×Obj)) (s:Shared) (σ:St) (H:Hp) (R:It->Hp->Prop),Inv X pr σ H s->wi σ H R->
  wpAny (model X.prog X.w) X.A (eval iter X.env) (fun v s1=>wpAny (model X.prog X.w) X.A (pyIter v) (EL X pr σ tg R) X.xe s1) X.xe s
theorem lF {M : Model} {A : Around} {E : Value -> Shared -> Prop} {s : Shared} {tg : Expr} {it : Addr} {u : Value} {o : Obj} {n : String} {vs : Array Value} {Q : Unit -> Shared -> Prop} (ho : s.heap.get? it = some o) (hc : o.cls = .type n) (hd : o.data = .fields vs)
    (hn : ["enumerate", "zip", "dict_itemiterator", "dict_reverseitemiterator", "odict_iterator", "itertools.zip_longest", "itertools.pairwise"].contains n = false) (hQ : Q () s) : wpAny M A (letOwnedTupleGo tg (.ref it) u) Q E s := by
  unfold letOwnedTupleGo
  cases tg <;> first
    | exact FF hQ
    | (cases u <;> first
        | exact FF hQ
        | (refine Fs (wpAny_load ho ?_)
           rw [hc, hd]
           show wpAny M A (if (["enumerate", "zip", "dict_itemiterator", "dict_reverseitemiterator", "odict_iterator", "itertools.zip_longest", "itertools.pairwise"].contains n && vs[0]? == some (rawInt _)) = true then _ else _) Q E s
           rw [F3 (by intro h; rw [hn, Ib] at h; cases h)]
           exact FF hQ))
def Cp(K:W.Frag)(a:Addr):It:=
 ⟨fun i H=>∃xs x,SqL K H a xs/\xs[i]?=some x,fun i H x H'=>H'=H/\∀xs,SqL K H a xs->xs[i]?=some x,fun i H=>∃xs,SqL K H a xs/\xs.length<=i⟩
def D4(K:W.Frag)(a:Addr):It:=
 ⟨fun i H=>∃xs x,SqT K H a xs/\xs[i]?=some x,fun i H x H'=>H'=H/\∀xs,SqT K H a xs->xs[i]?=some x,fun i H=>∃xs,SqT K H a xs/\xs.length<=i⟩
def DJ(lo:Int)(n:Nat):It:=⟨fun i _=>i<n,fun i H x H'=>H'=H/\x=.int (lo+i),fun i _=>n<=i⟩
theorem jT{P:Program}{w:World}{K:W.Frag}{tg:Expr}(a it:Addr):Turn P w K tg (Cp K a) [it] it (fun i h=>h.IsListIter it a i) where
 mem:=by simp
 obj:=fun i h st b hb=>by
  have e:b=it:=by simpa using hb
  subst e;obtain⟨o,e,c,d⟩:=st;exact⟨o,e,fun v z=>by rw[d]at z;cases z⟩
 keep:=fun i h h' st k=>st.at fun o e=>k it (by simp) o e
 item:=by
  intro X hP hw hK hc i pr s σ H E I hf st hg;subst hP hw hK;obtain⟨xs,x,hq,hx⟩:=hg;obtain⟨wZ,rv,p,hz⟩:=I.list hq;obtain⟨u,hu,ru⟩:=rv.get hx;obtain⟨f0,f1,f2,f3,f4,f5⟩:=hf it (by simp);refine wpAny_pyNext_list_item st p.isList (x:=u) (by simpa using hu) fun h' z8 sb=>?_
  have I1:Inv X pr σ H {s with heap:=h'}:=I.turned (t':=s.toks) (fun b o hb e=>(sb.2 b hb).trans e) f0 f1 f3 f4 f5;obtain⟨o,e,c,d⟩:=id z8;exact⟨u,rfl,lF (s:={s with heap:=h'}) e c d (by decide) ⟨x,H,I1,ru,⟨rfl,fun ys hy=>by rw[I.list_inj hy hq];exact hx⟩,z8,fun b hb=>(hf b hb).1⟩⟩
 done:=by
  intro X hP hw hK hc i pr s σ H E I hf st hg;subst hP hw hK;obtain⟨xs,hq,hx⟩:=hg;obtain⟨wZ,rv,p,hz⟩:=I.list hq;obtain⟨f0,f1,f2,f3,f4,f5⟩:=hf it (by simp);have hl:=rv.length;exact wpAny_pyNext_list_end (I.ok.hd hc) st p.isList (by simp;lia) fun h' eb=>⟨rfl,I.turned (t':=s.toks) (fun b o hb e=>eb b o hb e) f0 f1 f3 f4 f5⟩
 self:=fun _ _ _ _ _ st h=>wpAny_pyIter_listiter st h
theorem jt{P:Program}{w:World}{K:W.Frag}{tg:Expr}(a it:Addr):Turn P w K tg (D4 K a) [it] it (fun i h=>h.IsTupleIter it a i) where
 mem:=by simp
 obj:=fun i h st b hb=>by
  have e:b=it:=by simpa using hb
  subst e;obtain⟨o,e,c,d⟩:=st;exact⟨o,e,fun v z=>by rw[d]at z;cases z⟩
 keep:=fun i h h' st k=>st.at fun o e=>k it (by simp) o e
 item:=by
  intro X hP hw hK hc i pr s σ H E I hf st hg;subst hP hw hK;obtain⟨xs,x,hq,hx⟩:=hg;obtain⟨wZ,rv,p,hz⟩:=I.tuple hq;obtain⟨u,hu,ru⟩:=rv.get hx;obtain⟨f0,f1,f2,f3,f4,f5⟩:=hf it (by simp);refine wpAny_pyNext_tuple_item st (show s.heap.IsTuple a wZ.toArray from p) (x:=u) (by simpa using hu) fun h' z8 sb=>?_
  have I1:Inv X pr σ H {s with heap:=h'}:=I.turned (t':=s.toks) (fun b o hb e=>(sb.2 b hb).trans e) f0 f1 f3 f4 f5;obtain⟨o,e,c,d⟩:=id z8;exact⟨u,rfl,lF (s:={s with heap:=h'}) e c d (by decide) ⟨x,H,I1,ru,⟨rfl,fun ys hy=>by rw[I.tuple_inj hy hq];exact hx⟩,z8,fun b hb=>(hf b hb).1⟩⟩
 done:=by
  intro X hP hw hK hc i pr s σ H E I hf st hg;subst hP hw hK;obtain⟨xs,hq,hx⟩:=hg;obtain⟨wZ,rv,p,hz⟩:=I.tuple hq;obtain⟨f0,f1,f2,f3,f4,f5⟩:=hf it (by simp);have hl:=rv.length;exact wpAny_pyNext_tuple_end (I.ok.hd hc) st (show s.heap.IsTuple a wZ.toArray from p) (by simp;lia) fun h' eb=>⟨rfl,I.turned (t':=s.toks) (fun b o hb e=>eb b o hb e) f0 f1 f3 f4 f5⟩
 self:=fun _ _ _ _ _ st h=>wpAny_pyIter_tupleiter st h
theorem ju{P:Program}{w:World}{K:W.Frag}{tg:Expr}(it:Addr)(lo:Int)(n:Nat):Turn P w K tg (DJ lo n) [it] it (fun i h=>IsRangeIter h it (lo+(i:Nat)*1) ((n:Int)-(i:Nat)) 1) where
 mem:=by simp
 obj:=fun i h st b hb=>by
  have e:b=it:=by simpa using hb
  subst e;exact⟨_,st,fun v z=>by
   have z':Data.fields _=Data.cell v:=z;cases z'⟩
 keep:=fun i h h' st k=>k it (by simp) _ st
 item:=by
  intro X hP hw hK hc i pr s σ H E I hf st hg;subst hP hw hK;obtain⟨f0,f1,f2,f3,f4,f5⟩:=hf it (by simp);have W:=Walks.range (prog:=X.prog) (w:=X.w) (I.ok.hd hc) it lo 1 n;refine W.item i s _ _ hg st fun v h' tk hv z8 kk=>?_
  obtain⟨t,rfl⟩:=hv;have I1:Inv X pr σ H {s with heap:=h',toks:=tk}:=I.turned (fun b o hb e=>kk b o (by simpa using hb) e) f0 f1 f3 f4 f5;refine⟨_,rfl,lF (s:={s with heap:=h',toks:=tk}) (n:="range_iterator") z8 rfl rfl (by decide) ⟨.int (lo+i),H,I1,⟨t,?_⟩,⟨rfl,rfl⟩,z8,fun b hb=>(hf b hb).1⟩⟩;rw[Int.mul_one]
 done:=by
  intro X hP hw hK hc i pr s σ H E I hf st hg;subst hP hw hK;obtain⟨f0,f1,f2,f3,f4,f5⟩:=hf it (by simp);exact wpAny_pyNext_range_end (I.ok.hd hc) st (by have:n<=i:=hg;lia) fun h' eb=>⟨rfl,I.turned (t':=s.toks) (fun b o hb e=>eb b o hb e) f0 f1 f3 f4 f5⟩
 self:=fun _ _ _ _ _ st h=>wpAny_pyIter_rangeiter st h
section
variable{X:Cx}{tg:Expr}
def sX(K:W.Frag)(tl:TE):TI:=fun σ H R=>tl σ H fun x H1=>∃a,x=.ref a/\(∃xs,SqL K H1 a xs)/\R (Cp K a) H1
def vr(K:W.Frag)(tl:TE):TI:=fun σ H R=>tl σ H fun x H1=>∃a,x=.ref a/\(∃xs,SqT K H1 a xs)/\R (D4 K a) H1
theorem nE{l:Expr}{tl:TE}(hl:PE X l tl):PI X tg l (sX X.K tl):=by
 intro pr s σ H R I h;refine xt (hl pr s σ H _ I h) fun v s1 xu=>?_
 obtain⟨x,H1,I1,r1,q1⟩:=xu;obtain⟨a,e,⟨xs,hq⟩,q⟩:=q1;subst e;cases r1;obtain⟨wZ,rv,p,hz⟩:=I1.list hq;refine wpAny_pyIter_list p.isList ?_;refine⟨s1.heap.objs.size,[s1.heap.objs.size],_,_,H1,rfl,I1.kept (t':=s1.toks) fun b o e=>FA _ e,jT a _,⟨_,FV _ rfl,rfl,rfl⟩,fun b hb=>?_,q⟩;have e:b=s1.heap.objs.size:=by simpa using hb
 subst e;exact I1.fpOk (Fw _) (I1.hok.fresh (Fw _))
theorem pS{l:Expr}{tl:TE}(hl:PE X l tl):PI X tg l (vr X.K tl):=by
 intro pr s σ H R I h;refine xt (hl pr s σ H _ I h) fun v s1 xu=>?_
 obtain⟨x,H1,I1,r1,q1⟩:=xu;obtain⟨a,e,⟨xs,hq⟩,q⟩:=q1;subst e;cases r1;obtain⟨wZ,rv,p,hz⟩:=I1.tuple hq;refine wpAny_pyIter_tuple (show s1.heap.IsTuple a wZ.toArray from p) ?_;refine⟨s1.heap.objs.size,[s1.heap.objs.size],_,_,H1,rfl,I1.kept (t':=s1.toks) fun b o e=>FA _ e,jt a _,⟨_,FV _ rfl,rfl,rfl⟩,fun b hb=>?_,q⟩;have e:b=s1.heap.objs.size:=by simpa using hb
 subst e;exact I1.fpOk (Fw _) (I1.hok.fresh (Fw _))
theorem lG{pr:List (Addr×Obj)}{σ:St}{H:Hp}{s:Shared}{R:It->Hp->Prop}{E:Value->Shared->Prop}{lo hi:Int}{t u v:Tok}{tk:Nat}(I:Inv X pr σ H s)(h1:-(2 ^ 62)<=lo)(h2:lo<2 ^ 62)(h3:-(2 ^ 62)<=hi)(h4:hi<2 ^ 62)
  (q:R (DJ lo (hi-lo).toNat) H):wpAny (model X.prog X.w) X.A (pyIter (.ref s.heap.objs.size)) (EL X pr σ tg R) E {s with heap:=s.heap.push {cls:=.type "range",data:=.fields #[.int lo t,.int hi u,.int 1 v]},toks:=tk}:=by
 refine wpAny_pyIter_range (IsRange.new ..) (small_one h1 h2 h3 h4) ?_;have I1:Inv X pr σ H {s with heap:=s.heap.push {cls:=.type "range",data:=.fields #[.int lo t,.int hi u,.int 1 v]},toks:=tk}:=I.kept fun b o e=>FA _ e
 refine⟨(s.heap.push {cls:=.type "range",data:=.fields #[.int lo t,.int hi u,.int 1 v]}).objs.size,[(s.heap.push {cls:=.type "range",data:=.fields #[.int lo t,.int hi u,.int 1 v]}).objs.size],_,_,H,rfl,
  I1.kept (t':=tk) fun b o e=>FA _ e,ju _ lo (hi-lo).toNat,?_,fun b hb=>?_,q⟩
 ·have e1:lo+((0:Nat):Int)*1=lo:=by simp
  have e2:(((hi-lo).toNat:Nat):Int)-((0:Nat):Int)=Builtin.Range.rangeSize lo hi 1:=by rw[rangeSize_one];split <;> lia
  show IsRangeIter _ _ (lo+((0:Nat):Int)*1) ((((hi-lo).toNat:Nat):Int)-((0:Nat):Int)) 1;rw[e1,e2];exact FV _ rfl
 ·have e:b=(s.heap.push {cls:=.type "range",data:=.fields #[.int lo t,.int hi u,.int 1 v]}).objs.size:=by simpa using hb
  subst e;exact I1.fpOk (Fw _) (I1.hok.fresh (Fw _))
def sY(ta:TA):TI:=fun σ H R=>ta σ H fun vs H1=>∃j:Int,vs=[.int j]/\-(2 ^ 62)<=j/\j<2 ^ 62/\R (DJ 0 j.toNat) H1
theorem jU{a:Expr}{ta:TA}{p pos:Pos}(hg:Gl X "range")(hm:X.mg "range" = none)(ha:PA X [a] ta)(hs:starEach [a] X.env=[(false,eval a X.env)]:=by rfl):PI X tg (.Call (.Name "range" p) [a] [] pos) (sY ta):=by
 intro pr s σ H R I h;refine Call_ (iQ I hg hm boot_range (Hk (xt (ha pos pr s σ H _ I h) fun us s1 ⟨vs,H1,I1,r1,q1⟩=>?_) hs rfl));obtain⟨j,e,q1,q2,q⟩:=q1;subst e;cases r1 with
 |cons r rr=>
  cases rr;obtain⟨t,rfl⟩:=r;exact call_range_1 (lG I1 (by lia) (by lia) q1 q2 (by simpa using q))
noncomputable def vv(wi:TI)(g:TG)(tb:TS):TS:=fun D σ H=>wi σ H fun J H1=>∃W:Nat->Nat->St->Hp->Prop,(∃m,W 0 m σ H1)/\∀i m σ H,W i m σ H->
 (J.stop i H/\D.nx σ H)\/(J.go i H/\∃N:St->Hp->Prop,(∀σ' H',N σ' H'->∃m',m'<m/\W (i+1) m' σ' H')/\∀x H',J.yld i H x H'->g x σ H' fun σ2 H2=>tb {D with nx:=N,ct:=N,bk:=D.nx} σ2 H2)
def gM(fp:List Addr)(h:Heap):List (Addr×Obj):=fp.filterMap fun b=>(h.get? b).map fun o=>(b,o)
theorem cY{fp:List Addr}{h:Heap}{b:Addr}{o:Obj}(hb:b∈fp)(e:h.get? b=some o):(b,o)∈gM fp h:=GI.mpr ⟨b,hb,by rw[e];rfl⟩
theorem jV{fp:List Addr}{h:Heap}{p:Addr×Obj}(hp:p∈gM fp h):p.1∈fp/\h.get? p.1=some p.2:=by
 obtain⟨b,hb,e⟩:=GI.mp hp;cases q:h.get? b with
 |none=>rw[q]at e;cases e
 |some o=>
  rw[q]at e;have e':(b,o)=p:=F6 e;subst e';exact⟨hb,q⟩
theorem Inv.pinned{pr:List (Addr×Obj)}{σ:St}{H:Hp}{s:Shared}{fp:List Addr}(I:Inv X pr σ H s)(hf:∀b∈fp,ly X pr H b)(ho:∀b∈fp,∃o,s.heap.get? b=some o/\∀v,o.data≠.cell v):Inv X (pr++gM fp s.heap) σ H s:=
 I.pins_of fun p hp=>(FQ.mp hp).elim (fun z=>I.pin p (Fo _ z)) fun z=>by
  obtain⟨hb,e⟩:=jV z;obtain⟨f0,f1,f2,_⟩:=hf p.1 hb;obtain⟨o,e',d⟩:=ho p.1 hb;rw[e]at e';cases e';exact⟨e,f0,f1,f2,d⟩
theorem Inv.unpinned{pr pl:List (Addr×Obj)}{σ:St}{H:Hp}{s:Shared}(I:Inv X (pr++pl) σ H s):Inv X pr σ H s:=I.pins_of fun p hp=>I.pin p (Fo _ (Fz _ hp))
theorem pT{iter:Expr}{body:List Stmt}{wi:TI}{g:TG}{tb:TS}{pos:Pos}(hp:PassesOwn (model X.prog X.w) X.A X.env X.xe)(hc:X.calm=true)(hi:PI X tg iter wi)(hg:PG X tg g)(hb:PSs X body tb)
  (hs:∀x,foldedSetIterable iter X.env x=pure x:=by intro _;rfl):PS X (.For tg iter body [] pos) (vv wi g tb):=by
 intro pr s σ H D I h;refine wpAny_For (xt (hi pr s σ H _ I h) fun v s1 h1=>xt h1 fun D3 s2 h2=>?_) hs;obtain⟨it,fp,tn,J,H2,e,I2,T,xl,f2,W,⟨m0,w0⟩,turn⟩:=h2;subst e;have zV:∀{H':Hp},(∀b∈fp,H' b=none)->∀b∈fp,ly X pr H' b:=fun hn b hb=>⟨hn b hb,(f2 b hb).2⟩
 refine codeAny_forLoop_any (fun n s'=>∃i σ' H',Inv X pr σ' H' s'/\tn i s'.heap/\(∀b∈fp,H' b=none)/\W i n σ' H') ?_ m0 ⟨0,σ,H2,I2,xl,fun b hb=>(f2 b hb).1,w0⟩;rintro n s3 ⟨i,σ3,H3,I3,x3,CJ,w3⟩;rcases turn i n σ3 H3 w3 with⟨stop,qn⟩|⟨go,N,hN,step⟩
 ·refine F9 hp (xt (T.done X rfl rfl rfl hc i pr s3 σ3 H3 X.xe I3 (zV CJ) x3 stop) fun r s4 xu=>?_);obtain⟨hr,I4⟩:=xu;subst hr;exact G9 ⟨σ3,H3,I4,qn⟩
 ·refine F9 hp (xt (T.item X rfl rfl rfl hc i pr s3 σ3 H3 X.xe I3 (zV CJ) x3 go) fun r s4 xu=>?_);obtain⟨u,hr,h4⟩:=xu;subst hr;refine F9 hp (xt h4 fun _ s5 xu=>?_);obtain⟨x,H5,I5,r5,y5,zQ,D5⟩:=xu;have D6:=I5.pinned (zV D5) (T.obj _ _ zQ);refine F9 hp (xt (hg _ s5 σ3 H5 x u _ D6 r5 (step x H5 y5)) fun _ s6 xu=>?_);obtain⟨σ6,H6,I6,q6⟩:=xu;refine F9 hp (xt (hb _ s6 σ6 H6 _ I6 q6) fun f s7 q7=>?_);have again:∀{σ7:St}{H7:Hp},Inv X (pr++gM fp s5.heap) σ7 H7 s7->N σ7 H7->∃m,m<n/\∃i σ' H',Inv X pr σ' H' s7/\tn i s7.heap/\(∀b∈fp,H' b=none)/\W i m σ' H':=fun{σ7 H7} I7 n7=>by
   obtain⟨m',hm,w7⟩:=hN σ7 H7 n7;refine⟨m',hm,i+1,σ7,H7,I7.unpinned,T.keep _ _ _ zQ fun b hb o e=>(I7.pin (b,o) (Fo _ (Fo _ (cY hb e)))).1,fun b hb=>?_,w7⟩;obtain⟨o,e,d⟩:=T.obj _ _ zQ b hb;exact(I7.pin (b,o) (Fo _ (Fo _ (cY hb e)))).2.1
  cases f with
  |next=>obtain⟨σ7,H7,I7,n7⟩:=q7;exact again I7 n7
  |cont=>obtain⟨σ7,H7,I7,n7⟩:=q7;exact again I7 n7
  |brk=>obtain⟨σ7,H7,I7,q7⟩:=q7;exact⟨σ7,H7,I7.unpinned,q7⟩
  |ret v=>obtain⟨x7,σ7,H7,I7,r7,q7⟩:=q7;exact⟨x7,σ7,H7,I7.unpinned,r7,q7⟩
end
theorem for_list{K:W.Frag}{a:Addr}{xs:List V}{g:TG}{tb:TS}{D:Ends}{σ:St}{H:Hp}(Pv:Nat->St->Hp->Prop)(h0:Pv 0 σ H)(hl:∀i σ H,i<=xs.length->Pv i σ H->SqL K H a xs)
  (hs:∀i x σ H,xs[i]?=some x->Pv i σ H->g x σ H fun σ2 H2=>tb {D with nx:=Pv (i+1),ct:=Pv (i+1),bk:=D.nx} σ2 H2) (hd:∀σ H,Pv xs.length σ H->D.nx σ H):
  ∃W:Nat->Nat->St->Hp->Prop,(∃m,W 0 m σ H)/\∀i m σ H,W i m σ H->
   ((Cp K a).stop i H/\D.nx σ H)\/((Cp K a).go i H/\∃N:St->Hp->Prop,(∀σ' H',N σ' H'->∃m',m'<m/\W (i+1) m' σ' H')/\∀x H',(Cp K a).yld i H x H'->g x σ H' fun σ2 H2=>tb {D with nx:=N,ct:=N,bk:=D.nx} σ2 H2):=by
 refine⟨fun i m σ H=>m=xs.length-i/\i<=xs.length/\Pv i σ H,⟨xs.length,by simp,GD _,h0⟩,?_⟩;rintro i m σ H ⟨rfl,hi,p⟩;have q:=hl i σ H hi p;by_cases yy:i<xs.length
 ·refine .inr ⟨⟨xs,xs[i],q,by simp[yy]⟩,Pv (i+1),fun σ' H' p'=>⟨xs.length-(i+1),by lia,rfl,yy,p'⟩,fun x H' y=>?_⟩;obtain⟨e,y⟩:=y;subst e;exact hs i x σ _ (y xs q) p
 ·have e:i=xs.length:=by lia
  subst e;exact .inl ⟨⟨xs,q,Fw _⟩,hd σ H p⟩
abbrev R2:=V->V->Hp->VK->Prop
def xW(X:Cx)(f:Value->Value->Sem Value)(r:R2):Prop:=
 ∀(pr:List (Addr×Obj)) (s:Shared) (σ:St) (H:Hp) (x y:V) (v u:Value) (Q:VK),Inv X pr σ H s->RelV x v->RelV y u->r x y H Q->
  wpAny (model X.prog X.w) X.A (f v u) (EP X pr σ Q) X.xe s
def eH(X:Cx)(f:Value)(r:List V->Hp->VK->Prop):Prop:=
 ∀(pr:List (Addr×Obj)) (s:Shared) (σ:St) (H:Hp) (xs:List V) (us:List Value) (Q:VK),Inv X pr σ H s->Vals xs us->r xs H Q->
  wpAny (model X.prog X.w) X.A (call f us) (EP X pr σ Q) X.xe s
def Cq(r:R2)(ta tb:TE):TE:=fun σ H Q=>ta σ H fun x H1=>tb σ H1 fun y H2=>r x y H2 Q
def rI(C:Int->Int->Prop)(g:Int->Int->V):R2:=fun x y H Q=>∃i j,x=.int i/\y=.int j/\C i j/\Q (g i j) H
def Cr(g:Int->Int->V):R2:=fun x y H Q=>∃i j,x=.int i/\y=.int j/\Q (g i j) H
section
variable{X:Cx}{a b c:Expr}{ta tb tc:TE}{pos:Pos}
theorem sZ(ha:PE X a ta)(hb:PE X b tb){pr:List (Addr×Obj)}{s:Shared}{σ:St}{H:Hp}{R:V->V->Hp->Prop}(I:Inv X pr σ H s)
  (h:ta σ H fun x H1=>tb σ H1 fun y H2=>R x y H2) {Q:Value->Shared->Prop}{f:Value->Value->Sem Value}
  (hf:∀v u s2 x y H2,Inv X pr σ H2 s2->RelV x v->RelV y u->R x y H2->wpAny (model X.prog X.w) X.A (f v u) Q X.xe s2):
  wpAny (model X.prog X.w) X.A (eval a X.env) (fun v s₁=>wpAny (model X.prog X.w) X.A (eval b X.env) (fun u s₂=>wpAny (model X.prog X.w) X.A (f v u) Q X.xe s₂) X.xe s₁) X.xe s:=by
 refine xt (ha pr s σ H _ I h) fun v s1 xu=>?_
 obtain⟨x,H1,I1,r1,q1⟩:=xu;refine xt (hb pr s1 σ H1 _ I1 q1) fun u s2 xu=>?_
 obtain⟨y,H2,I2,r2,q2⟩:=xu;exact hf v u s2 x y H2 I2 r1 r2 q2
theorem tf{op:Operator}{r:R2}(ho:xW X (binaryOp op) r)(ha:PE X a ta)(hb:PE X b tb):PE X (.BinOp a op b pos) (Cq r ta tb):=by
 intro pr s σ H Q I h;exact wpAny_BinOp (sZ ha hb I h fun v u s2 x y H2 I2 rx ry q=>ho pr s2 σ H2 x y v u Q I2 rx ry q)
theorem CK{f:Value->Value->Sem Value}{C:Int->Int->Prop}{g:Int->Int->Int}
  (rule:∀(i j:Int) (t u:Tok) (s:Shared) (Q:Value->Shared->Prop) (E:Value->Shared->Prop),C i j->Q (.int (g i j) s.toks) {s with toks:=s.toks+1}->wpAny (model X.prog X.w) X.A (f (.int i t) (.int j u)) Q E s):
  xW X f (rI C fun i j=>.int (g i j)):=by
 intro pr s σ H x y v u Q I rx ry h;obtain⟨i,j,rfl,rfl,hc,q⟩:=h;obtain⟨t,rfl⟩:=rx;obtain⟨t',rfl⟩:=ry;exact rule i j t t' s _ _ hc ⟨.int (g i j),H,I.tok _,⟨_,rfl⟩,q⟩
theorem vx{f:Value->Value->Sem Value}{g:Int->Int->Int}
  (rule:∀(i j:Int) (t u:Tok) (s:Shared) (Q:Value->Shared->Prop) (E:Value->Shared->Prop),Q (.int (g i j) s.toks) {s with toks:=s.toks+1}->wpAny (model X.prog X.w) X.A (f (.int i t) (.int j u)) Q E s):
  xW X f (Cr fun i j=>.int (g i j)):=by
 intro pr s σ H x y v u Q I rx ry h;obtain⟨i,j,rfl,rfl,q⟩:=h;obtain⟨t,rfl⟩:=rx;obtain⟨t',rfl⟩:=ry;exact rule i j t t' s _ _ ⟨.int (g i j),H,I.tok _,⟨_,rfl⟩,q⟩
theorem ti{f:Value->Value->Sem Value}{g:Int->Int->Bool}
  (rule:∀(i j:Int) (t u:Tok) (s:Shared) (Q:Value->Shared->Prop) (E:Value->Shared->Prop),Q (.bool (g i j)) s->wpAny (model X.prog X.w) X.A (f (.int i t) (.int j u)) Q E s):
  xW X f (Cr fun i j=>.bl (g i j)):=by
 intro pr s σ H x y v u Q I rx ry h;obtain⟨i,j,rfl,rfl,q⟩:=h;obtain⟨t,rfl⟩:=rx;obtain⟨t',rfl⟩:=ry;exact rule i j t t' s _ _ ⟨.bl (g i j),H,I,rfl,q⟩
def vy(i j:Int):Prop:=0<j/\j<1073741824
def vz(i j:Int):Prop:=0<=j/\j<=1000000/\i.natAbs<2 ^ 64
def CMul(i j:Int):Prop:=(-(2 ^ 64)<i/\i<2 ^ 64)\/(-(2 ^ 64)<j/\j<2 ^ 64)
theorem CMul.ok{i j:Int}(h:CMul i j):IntMulOk i j:=by
 rcases h with⟨h1,h2⟩|⟨h1,h2⟩
 ·exact .of_left (intBits_le_64 h1 h2)
 ·exact .of_right (intBits_le_64 h1 h2)
theorem pU:xW X (binaryOp .Add) (Cr fun i j=>.int (i+j)):=vx fun _ _ _ _ _ _ _ q=>add_int q
theorem pV:xW X (binaryOp .Mult) (rI CMul fun i j=>.int (i*j)):=CK fun _ _ _ _ _ _ _ hc q=>mul_int q hc.ok
theorem nF:xW X (binaryOp .FloorDiv) (rI vy fun i j=>.int (i / j)):=CK fun i j _ _ _ _ _ hc q=>by
 have h1:(0:Int)<j:=hc.1;have h2:j<1073741824:=hc.2;exact floordiv_int (by lia) (by rw[Int.fdiv_eq_ediv_of_nonneg i (by lia)];exact q) (.inl (PyProof.noPylong_small (by lia)))
theorem pW:xW X (binaryOp .Mod) (rI (fun _ j=>0<j) fun i j=>.int (i%j)):=CK fun i j _ _ _ _ _ hc q=>by
 have h1:(0:Int)<j:=hc;exact mod_int' (by lia) (by rw[Int.fmod_eq_emod_of_nonneg i (by lia)];exact q)
theorem pX:xW X (binaryOp .Pow) (rI vz fun i j=>.int (i ^ j.toNat)):=CK fun _ _ _ _ _ _ _ hc q=>pow_int_small hc.1 hc.2.1 hc.2.2 q
end
section
variable{X:Cx}{a b c:Expr}{ta tb tc:TE}{pos:Pos}
theorem mQ{pr:List (Addr×Obj)}{σ:St}{H:Hp}{s:Shared}{Q:VK}{k k':Bool}(I:Inv X pr σ H s)(q:Q (.bl k) H)(e:k=k'):EP X pr σ Q (.bool k') s:=by
 subst e;exact⟨.bl k,H,I,rfl,q⟩
theorem tj:xW X (compareOp .Lt) (Cr fun i j=>.bl (decide (i<j))):=ti fun _ _ _ _ _ _ _ q=>lt_int q
theorem tm:xW X (compareOp .LtE) (Cr fun i j=>.bl (decide (i<=j))):=ti fun _ _ _ _ _ _ _ q=>le_int q
theorem tq:xW X (compareOp .Gt) (Cr fun i j=>.bl (decide (j<i))):=ti fun _ _ _ _ _ _ _ q=>gt_int q
theorem jW:xW X (compareOp .Lt) (fun x y H Q=>∃i j,x=.str i/\y=.str j/\Q (.bl (decide (i.cps.toList<j.cps.toList))) H):=by
 intro pr s σ H x y v u Q I rx ry h;obtain⟨i,j,rfl,rfl,q⟩:=h;obtain⟨t,rfl⟩:=rx;obtain⟨t',rfl⟩:=ry;exact lt_str (mQ I q rfl)
theorem aE(b:Expr){op:CmpOp}(h:op≠.In:=by decide)(h2:op≠.NotIn:=by decide):behindInMarks op b=false:=by
 have e1:(op==CmpOp.In)=false:=by cases op <;> first|rfl|exact absurd rfl h
 have e2:(op==CmpOp.NotIn)=false:=by cases op <;> first|rfl|exact absurd rfl h2
 cases b <;> simp[behindInMarks,e1,e2]
theorem nG{op:CmpOp}{r:R2}(ho:xW X (compareOp op) r)(ha:PE X a ta)(hb:PE X b tb)(hm:behindInMarks op b=false):PE X (.Compare a [op] [b] pos) (Cq r ta tb):=by
 intro pr s σ H Q I h;exact wpAny_Compare1 (sZ ha hb I h fun v u s2 x y H2 I2 rx ry q=>ho pr s2 σ H2 x y v u Q I2 rx ry q) hm
def tu(t:TE):TT:=fun σ H Q=>t σ H fun x H'=>∃k,x=.bl k/\Q k H'
theorem jX{op:CmpOp}{r:R2}(ho:xW X (compareOp op) r)(ha:PE X a ta)(hb:PE X b tb)(hm:behindInMarks op b=false):PT X (.Compare a [op] [b] pos) (tu (Cq r ta tb)):=by
 intro pr s σ H Q I h;refine He (xt (ha pr s σ H _ I h) fun v s1 ⟨x,H1,I1,r1,q1⟩=>xt (hb pr s1 σ H1 _ I1 q1) fun u s2 ⟨y,H2,I2,r2,q2⟩=>
  xt (ho pr s2 σ H2 x y v u _ I2 r1 r2 q2) fun c s3 ⟨z,H3,I3,r3,k,e,q3⟩=>?_) hm
 subst e;cases r3;exact GP ⟨H3,I3,q3⟩
def mR(r r':R2)(ta tb tc:TE):TE:=fun σ H Q=>ta σ H fun x H1=>tb σ H1 fun y H2=>r x y H2 fun z H3=>∃k,z=.bl k/\
 (if k=true then tc σ H3 fun w' H4=>r' y w' H4 Q else Q (.bl false) H3)
theorem lH{op AJ:CmpOp}{r r':R2}(ho:xW X (compareOp op) r)(Ad:xW X (compareOp AJ) r')(ha:PE X a ta)(hb:PE X b tb)(hc:PE X c tc)
  (hm:lastMarks [op,AJ] [b,c]=false:=by with_unfolding_all rfl):PE X (.Compare a [op,AJ] [b,c] pos) (mR r r' ta tb tc):=by
 intro pr s σ H Q I h;refine Compare_chain (xt (ha pr s σ H _ I h) fun v s1 ⟨x,H1,I1,r1,q1⟩=>chain_link (xt (hb pr s1 σ H1 _ I1 q1) fun u s2 ⟨y,H2,I2,r2,q2⟩=>
  xt (ho pr s2 σ H2 x y v u _ I2 r1 r2 q2) fun d s3 ⟨z,H3,I3,r3,k,e,q3⟩=>?_)) hm
 subst e;cases r3;refine GP ?_;cases k with
 |false=>exact ite_ff ⟨.bl false,H3,I3,rfl,q3⟩
 |true=>exact ite_tt (chain_last (xt (hc pr s3 σ H3 _ I3 q3) fun w' s4 ⟨z',H4,I4,r4,q4⟩=>Ad pr s4 σ H4 y z' u w' Q I4 r2 r4 q4))
theorem gN:(sizeLine:Nat)<2 ^ 63:=by rw[Ih];decide
theorem jv:xW X (binaryOp .Add) (fun x y H Q=>∃i j,x=.str i/\y=.str j/\i.length+j.length<=sizeLine/\Q (.str (i++j)) H):=by
 intro pr s σ H x y v u Q I rx ry h;obtain⟨i,j,rfl,rfl,hz,q⟩:=h;obtain⟨t,rfl⟩:=rx;obtain⟨t',rfl⟩:=ry;exact add_str (fun t' tk=>⟨.str (i++j),H,I.tok _,⟨_,rfl⟩,q⟩) hz
theorem jY{x:V}{us:List Value}(r:Vals [x] us):∃u,us=[u]/\RelV x u:=by
 cases r with
 |cons r1 r2=>cases r2;exact⟨_,rfl,r1⟩
theorem lI{x y:V}{us:List Value}(r:Vals [x,y] us):∃u w',us=[u,w']/\RelV x u/\RelV y w':=by
 cases r with
 |cons r1 r2=>
  cases r2 with
  |cons r3 r4=>cases r4;exact⟨_,_,rfl,r1,r3⟩
end
section
variable{prog:Program}{w:World}{A:Around}{E:Value->Shared->Prop}{s:Shared}{K:W.Frag}{x dx C f:Addr}{mA:Str->Option Value}{name:Str}{v:Value}
end
section
variable{P:Program}{w:World}{H H':Hp}{h h':Heap}{a C dx:Addr}{fs fs':List (Str×V)}
end
section
variable{X:Cx}{pr:List (Addr×Obj)}{σ:St}{H:Hp}{s:Shared}{a C dx:Addr}{fs:List (Str×V)}{f:Str}{v:V}{A:Around}{E:Value->Shared->Prop}
end
section
variable{X:Cx}{o e value:Expr}{f:Str}{pos pos' BB:Pos}{ta tv:TE}
end
section
variable{X:Cx}{pr:List (Addr×Obj)}{σ:St}{H:Hp}{s:Shared}{A:Around}{E:Value->Shared->Prop}{Q:Value->Shared->Prop}{c:Value}{b:Bool}
end
structure Room(k:Nat)(A:Around):Prop where
 hd:A.handled=none
 dp:A.depth+3*k+5<recursionLimit
 un:A.units+16*k+200<cLine
theorem Room.mono{j k:Nat}{A:Around}(r:Room k A)(h:j<=k):Room j A:=⟨r.hd,by have:=r.dp;lia,by have:=r.un;lia⟩
theorem Room.m{j k:Nat}{A:Around}(r:Room k A)(h:j<=k:=by decide):Room j A:=r.mono h
theorem Room.deeper{k:Nat}{A:Around}(r:Room (k+1) A)(env:Env):Room k (A.deeper env):=
 ⟨r.hd,by have:=r.dp;show A.depth+1+3*k+5<_;lia,by have:=r.un;show A.units+3+16*k+200<_;lia⟩
theorem Room.depth{k:Nat}{A:Around}(r:Room k A):A.depth<recursionLimit:=by have:=r.dp;lia
theorem Room.units{k:Nat}{A:Around}(r:Room k A):A.units+64<cLine:=by have:=r.un;lia
theorem Room.units0{k:Nat}{A:Around}(r:Room k A):A.units<cLine:=by have:=r.un;lia
def vA:TA:=fun _ H Q=>Q [] H
def tw(ta:TE)(tr:TA):TA:=fun σ H Q=>ta σ H fun x H1=>tr σ H1 fun xs H2=>Q (x::xs) H2
section
variable{X:Cx}{e:Expr}{es:List Expr}{te:TE}{t:TA}{pos:Pos}
theorem dZ:PA X [] vA:=fun _ _ _ _ H Q I h=>Calls.spliced_nil ⟨[],H,I,.nil,h⟩
theorem bK(ha:PE X e te)(hr:PA X es t)(hs:starEach (e::es) X.env=(false,eval e X.env)::starEach es X.env:=by rfl):PA X (e::es) (tw te t):=by
 intro pos pr s σ H Q I h;rw[hs];show wpAny _ _ (spliced ((false,eval e X.env)::backTo pos (starEach es X.env))) _ _ s;refine Calls.spliced_cons (xt (ha pr s σ H _ I h) fun u s1 xu=>?_);obtain⟨x,H1,I1,r1,q1⟩:=xu;exact xt (hr pos pr s1 σ H1 _ I1 q1) fun us s2 ⟨xs,H2,I2,r2,q2⟩=>⟨x::xs,H2,I2,.cons r1 r2,q2⟩
def vB(t:TA):TE:=fun σ H Q=>t σ H fun xs H1=>xs.length<=sizeLine/\∀p,H1 p=none->Q (.ref p) (upd H1 p (.tup xs))
def vC(t:TA):TE:=fun σ H Q=>t σ H fun xs H1=>xs.length<=sizeLine/\∀p,H1 p=none->Q (.ref p) (upd H1 p (.lst xs))
theorem pY{x1}(h:PA X es t):PE X (.Tuple es x1 pos) (vB t):=by
 intro pr s σ H Q I hq;refine wpAny_Tuple_spliced (xt (h pos pr s σ H _ I hq) fun us s1 ⟨xs,H1,I1,r,z,q⟩=>⟨by rw[<-r.length];exact z,?_⟩);have hf:H1 s1.heap.objs.size=none:=I1.hok.fresh (Fw _);refine⟨.ref s1.heap.objs.size,upd H1 s1.heap.objs.size (.tup xs),I1.laid (t':=s1.toks) (fun b u e=>FA _ e) (Fw _) ?_,rfl,q _ hf⟩;exact⟨z,us,r,⟨_,FV _ rfl,rfl,⟨_,rfl⟩,rfl⟩⟩
theorem mS(h:PA X es t):PE X (.List es pos) (vC t):=by
 intro pr s σ H Q I hq;refine wpAny_List_spliced (xt (h pos pr s σ H _ I hq) fun us s1 ⟨xs,H1,I1,r,z,q⟩=>⟨by rw[<-r.length];exact z,?_⟩);have hf:H1 s1.heap.objs.size=none:=I1.hok.fresh (Fw _);refine⟨.ref s1.heap.objs.size,upd H1 s1.heap.objs.size (.lst xs),I1.laid (t':=s1.toks) (fun b u e=>FA _ e) (Fw _) ?_,rfl,q _ hf⟩;exact⟨z,us,0,r,FV _ rfl⟩
end
abbrev Sp:=List V->Hp->VK->XK->Prop
abbrev Ae:=List Env->Hp->Shared->XK->Value->Shared->Prop
structure Env0(P:Program)(w:World)(K:W.Frag)(mg:Str->Option Value)(base:Heap)(A:Around)(outer:List Env)(s:Shared)(H:Hp):Prop where
 frames:A.frames=some outer
 mod:Mod K mg base
 bs:∀b o,base.get? b=some o->s.heap.get? b=some o/\H b=none
 bsz:base.objs.size<=s.heap.objs.size
 funs:s.heap.FunFrames base outer
 frf:∀b∈xV outer,H b=none
 hok:HOk P w H s.heap
 bare:AllBare s.gens
def CE(outer:List Env)(P:Program)(w:World)(H:Hp)(s:Shared)(Q:VK)(u:Value)(s':Shared):Prop:=
 ∃v H',s'.os=s.os/\AllBare s'.gens/\Un (xV outer) [] H H' s.heap s'.heap/\HOk P w H' s'.heap/\RelV v u/\Q v H'
def CR(CX:Ae)(outer:List Env)(P:Program)(w:World)(H:Hp)(s:Shared)(Q:VK)(E:XK)(r:Result)(s':Shared):Prop:=
 match r with
 | .ok (.ret u)=>CE outer P w H s Q u s'
 | .ok _=>False
 | .error e=>CX outer H s E e s'
structure FnOk(P:Program)(w:World)(K:W.Frag)(mg:Str->Option Value)(base:Heap)(CX:Ae)(k:Nat)(f:Addr)(fd:FuncData)(ps:List Str)(sp:Sp):Prop where
 len:∀vs H Q E,sp vs H Q E->vs.length=ps.length
 run:∀(A:Around) (outer:List Env) (s:Shared) (H:Hp) (args:Args) (us:List Value) (vs:List V) (Q:VK) (E:XK),Room k A->Env0 P w K mg base A outer s H->BindsTo s fd args (ps.zip us)->Vals vs us->sp vs H Q E->
  codeAny (model P w) A (.call (.ref f) args) (CR CX outer P w H s Q E) s
theorem FnOk.imp{P:Program}{w:World}{K:W.Frag}{mg:Str->Option Value}{base:Heap}{CX:Ae}{k:Nat}{f:Addr}{fd:FuncData}{ps:List Str}{sp EM:Sp}(F:FnOk P w K mg base CX k f fd ps sp)
  (h:∀vs H Q E,EM vs H Q E->sp vs H Q E):FnOk P w K mg base CX k f fd ps EM:=
 ⟨fun vs H Q E q=>F.len vs H Q E (h _ _ _ _ q),fun A outer s H args us vs Q E hr he hb hv hs=>F.run A outer s H args us vs Q E hr he hb hv (h _ _ _ _ hs)⟩
section
variable{X:Cx}{pr:List (Addr×Obj)}{σ:St}{H:Hp}{s s':Shared}
theorem Inv.env0(I:Inv X pr σ H s):Env0 X.prog X.w X.K X.mg X.base X.A X.stack s H:=
 ⟨I.ok.frames,I.ok.mod,I.bs,Ge I.ok.bsz I.sz,I.stack,I.stkFree,I.hok,I.bare⟩
theorem Inv.after{Q:VK}{u:Value}(I:Inv X pr σ H s)(h:CE X.stack X.prog X.w H s Q u s'):EP X pr σ Q u s':=by
 obtain⟨v,H',os,bare,un,hok,r,q⟩:=h;obtain⟨hh,g,d,t,os'⟩:=s';obtain rfl:os'=s.os:=os;exact⟨v,H',I.call (h':=hh) (g':=g) (d':=d) (t':=t) (ch:=[]) un hok bare (fun b z=>absurd z (by simp)),r,q⟩
end
def tCall(sp:Sp)(Bp:List V)(E:XK)(t:TA):TE:=fun σ H Q=>t σ H fun vs H1=>sp (vs++Bp) H1 Q E
def Binds(K:W.Frag)(fd:FuncData)(ps:List Str)(ds:List Value):Prop:=
 ∀(s:Shared) (us:List Value),K.In s.heap->(us++ds).length=ps.length->BindsTo s fd ⟨us,[]⟩ (ps.zip (us++ds))
theorem Binds.all{K:W.Frag}{fd:FuncData}{ps:List Str}(h:∀us:List Value,us.length=ps.length->bindArgs fd ⟨us,[]⟩=pure (ps.zip us)):Binds K fd ps []:=fun s us _ hl=>by
 rw[FJ]at hl ⊢;exact .of_eq (h us hl)
def jZ(CX:Ae)(X:Cx)(E:XK):Prop:=∀(pr:List (Addr×Obj)) (σ:St) (H:Hp) (s:Shared) (e:Value) (s':Shared),Inv X pr σ H s->CX X.stack H s E e s'->X.xe e s'
section
variable{X:Cx}{CX:Ae}{k:Nat}{f C:Addr}{fd:FuncData}{ps:List Str}{sp:Sp}{Bp:List V}{ds:List Value}{E:XK}{x m:Str}{p pos apos:Pos}{e o:Expr}{es:List Expr}{ta:TE}{t:TA}
theorem pZ{pr:List (Addr×Obj)}{σ:St}{H:Hp}{s:Shared}{Q:VK}{us:List Value}{vs:List V}(F:FnOk X.prog X.w X.K X.mg X.base CX k f fd ps sp)(hr:Room k X.A)(hb:Binds X.K fd ps ds)(hd:Vals Bp ds)(hx:jZ CX X E)
  (I:Inv X pr σ H s) (r:Vals vs us) (h:sp (vs++Bp) H Q E):wpAny (model X.prog X.w) X.A (call (.ref f) us) (EP X pr σ Q) X.xe s:=by
 have r2:Vals (vs++Bp) (us++ds):=r.append hd;have hl:(us++ds).length=ps.length:=by rw[<-r2.length];exact F.len _ _ _ _ h
 refine wpAny_call (Hr (F.run X.A X.stack s H ⟨us,[]⟩ (us++ds) (vs++Bp) Q E hr I.env0 (hb s us I.kIn hl) r2 h) fun r s' hq=>?_);cases r with
 |error e=>exact hx pr σ H s e s' I hq
 |ok fl=>
  cases fl with
  |ret u=>exact I.after hq
  |next=>exact False.elim hq
  |brk=>exact False.elim hq
  |cont=>exact False.elim hq
theorem nH(F:FnOk X.prog X.w X.K X.mg X.base CX k f fd ps sp)(hr:Room k X.A)(hg:Gl X x)(hm:X.mg x=some (.ref f))(hk:PySem.W.keepIn X.K (.ref f)=true)(hb:Binds X.K fd ps ds)(hd:Vals Bp ds)(hx:jZ CX X E)
  (ha:PA X (e::es) t) (xX:(x==("__debug__" : Str))=false:=by decide) (he:starEach (e::es) X.env=(false,eval e X.env)::starEach es X.env:=by rfl) (xZ:(backTo pos (starEach es X.env)).any (·.1)=false:=by rfl):
  PE X (.Call (.Name x p) (e::es) [] pos) (tCall sp Bp E t):=by
 intro pr s σ H Q I h;refine GJ (eG I hg hm ?_ xX);refine Hs (h₀:=X.base) I.ok.mod.kin hk (xt (ha pos pr s σ H _ I h) fun us s1 ⟨vs,H1,I1,r,q⟩=>⟨I1.kIn,?_⟩) he xZ;exact pZ F hr hb hd hx I1 r q
end
section
variable{X:Cx}{CX:Ae}{k:Nat}{f C:Addr}{fd:FuncData}{ps ks:List Str}{sp:Sp}{E:XK}{x m:Str}{p pos apos CL:Pos}{e o:Expr}{es:List Expr}{kws:List Keyword}{te ta:TE}{t tk:TA}{nm:Option Str}
variable{g:List Value->List Value->List Value}{gV:List V->List V->List V}
end
structure FnScope(N P:List Str)(sc:Scope):Prop where
 kind:sc.kind=.function
 co:sc.isCoroutine=false
 gen:sc.isGenerator=false
 nd:N.Nodup
 pre:N.take P.length=P
 par:∀x∈P,sc.names.lookup x=some .local\/sc.names.lookup x=some .cell
 nofree:∀y∈sc.names,y.2≠.free
theorem fs{N P:List Str}{sc:Scope}(a:sc.kind=.function:=by rfl)(b:sc.isCoroutine=false:=by rfl)(c:sc.isGenerator=false:=by rfl)(d:N.Nodup:=by decide +kernel)(e:N.take P.length=P:=by rfl)(f:∀x∈P,sc.names.lookup x=some .local\/sc.names.lookup x=some .cell:=by decide +kernel)(g:∀y∈sc.names,y.2≠.free:=by decide +kernel):FnScope N P sc:=⟨a,b,c,d,e,f,g⟩
theorem gO{kindOf:Str->Option NameKind}{x:Str}:∀{binds:List (Str×Value)}{m:Str->Option Value},(∀v,(x,v)∉binds)->bindL kindOf binds m x=m x
 |[],_,_=>rfl
 |(n,v)::r,m,h=>by
  unfold bindL;rw[gO fun w hw=>h w (Ft _ hw)];split
  ·have:x≠n:=by rintro rfl;exact h v Fm
   simp[this]
  ·rfl
theorem gP{kindOf:Str->Option NameKind}{x:Str}:∀{binds:List (Str×Value)}{m:Str->Option Value},(∀v,(x,v)∉binds)->bindC kindOf binds m x=m x
 |[],_,_=>rfl
 |(n,v)::r,m,h=>by
  unfold bindC;rw[gP fun w hw=>h w (Ft _ hw)];split
  ·rfl
  ·have:x≠n:=by rintro rfl;exact h v Fm
   simp[this]
theorem gQ{kindOf:Str->Option NameKind}{x:Str}{v:Value}:∀{P:List Str}{vs:List Value}{i:Nat}{m:Str->Option Value},P.Nodup->P[i]?=some x->vs[i]?=some v->kindOf x=some .local->
  bindL kindOf (P.zip vs) m x=some v
 |[],_,_,_,_,h,_,_=>by simp at h
 |_::_,[],_,_,_,_,h,_=>by simp at h
 |p::P,w::vs,0,m,nd,h1,h2,hk=>by
  simp at h1 h2;subst h1;subst h2;show bindL kindOf ((p,w)::P.zip vs) m p=_;unfold bindL;rw[gO fun v hv=>(Gq.mp nd).1 (HK hv).1,FY hk];simp
 |p::P,w::vs,i+1,m,nd,h1,h2,hk=>by
  show bindL kindOf ((p,w)::P.zip vs) m x=_;unfold bindL;exact gQ (i:=i) (Gq.mp nd).2 (by simpa using h1) (by simpa using h2) hk
theorem gR{kindOf:Str->Option NameKind}{x:Str}{v:Value}:∀{P:List Str}{vs:List Value}{i:Nat}{m:Str->Option Value},P.Nodup->P[i]?=some x->vs[i]?=some v->kindOf x≠some .local->
  bindC kindOf (P.zip vs) m x=some v
 |[],_,_,_,_,h,_,_=>by simp at h
 |_::_,[],_,_,_,_,h,_=>by simp at h
 |p::P,w::vs,0,m,nd,h1,h2,hk=>by
  simp at h1 h2;subst h1;subst h2;show bindC kindOf ((p,w)::P.zip vs) m p=_;unfold bindC;rw[gP fun v hv=>(Gq.mp nd).1 (HK hv).1,F3 hk];simp
 |p::P,w::vs,i+1,m,nd,h1,h2,hk=>by
  show bindC kindOf ((p,w)::P.zip vs) m x=_;unfold bindC;exact gR (i:=i) (Gq.mp nd).2 (by simpa using h1) (by simpa using h2) hk
def dQ(N:List Str)(vs:List V):St:=vs.map some++List.replicate (N.length-vs.length) none
noncomputable def iR(CX:Ae)(P:Program)(w:World)(K:W.Frag)(mg:Str->Option Value)(base:Heap)(N:List Str)(qual:Str)(scope:Scope)(f:Addr)(cd:Value)(A:Around)(outer:List Env)(s:Shared)(H:Hp)(E:XK):Cx where
 prog:=P
 w:=w
 K:=K
 mg:=mg
 base:=base
 A:=A.deeper (envOfC qual scope s.heap.objs.size f cd)
 N:=N
 s₀:=s
 H₀:=H
 env:=envOfC qual scope s.heap.objs.size f cd
 outer:=outer
 stack:=envOfC qual scope s.heap.objs.size f cd::outer
 ex:=[]
 calm:=true
 fn:=fun _=>true
 pn:=[]
 xe:=fun e s'=>wpAny (model P w) (A.deeper (envOfC qual scope s.heap.objs.size f cd)) (leaving (envOfC qual scope s.heap.objs.size f cd) e) (fun _ D7=>CX outer H s E e D7) (fun e' D7=>CX outer H s E e' D7) s'
theorem iS{sc:Scope}{n:Nat}{x:Str}(h:sc.names.lookup x=some .cell):∃c,(cellsFrom n sc.names []).lookup x=some c:=by
 have q:=HE sc.names n [] (.inl h);exact GZ.mp q
theorem j0{CX:Ae}{P:Program}{w:World}{K:W.Frag}{mg:Str->Option Value}{base:Heap}{N ps:List Str}{qual:Str}{scope:Scope}{f:Addr}{cd:Value}{A:Around}{outer:List Env}{s s1:Shared}{H:Hp}{E:XK}{us:List Value}{vs:List V}
  (S:FnScope N ps scope) (hd:A.handled=none) (e0:Env0 P w K mg base A outer s H) (hl:vs.length=ps.length) (r:Vals vs us)
  (x:InCallC s s.heap.objs.size (bindL (envOfC qual scope s.heap.objs.size f cd).kindOf (ps.zip us) fun _=>none) (cellsFrom (s.heap.objs.size+1) scope.names []) (bindC (envOfC qual scope s.heap.objs.size f cd).kindOf (ps.zip us) fun _=>none) s1):
  Inv (iR CX P w K mg base N qual scope f cd A outer s H E) [] (dQ N vs) H s1:=by
 have xZ:ps.length<=N.length:=by have:=G0 List.length S.pre;rw[Gj]at this;lia
 obtain⟨h1,tk,rfl,hk⟩:=x.done;have CM:∀b:Addr,b∉(iR CX P w K mg base N qual scope f cd A outer s H E).ex:=fun b z=>absurd (show b∈([]:List Addr) from z) (by simp)
 refine⟨⟨e0.mod,S.kind,rfl,rfl,Fw _,fun y z c h1 h2=>?_,fun y hy=>?_,fun y c _ h=>?_,fun _=>hd,Around.frames_deeper e0.frames,.inr ⟨rfl,rfl⟩,fun b z=>absurd z (CM b),e0.bs,e0.bsz,fun b _ _=>CM b,fun b z=>absurd z (CM b),e0.funs,e0.frf⟩,
  rfl,e0.bare,Un.kept hk,⟨_,x.toInCall.ns,fun i y v h1 h2 h3=>?_⟩,fun y c h=>⟨_,x.cell y c h⟩,e0.hok.fresh (Fw _),fun y c h=>?_,fun p hp=>absurd (show p∈([]:List (Addr×Obj)) from hp) (by simp),e0.hok.kept hk,?_⟩
 ·exact name_of_addr x.apart (Gr h1) (Gr h2)
 ·have hy:scope.names.lookup y=some .cell\/scope.names.lookup y=some .free:=hy;rcases hy with hy|hy
  ·exact iS hy
  ·exact absurd rfl (S.nofree _ (Gr hy))
 ·exact IH (x.above y c (Gr h))
 ·have hi:i<vs.length:=by
   unfold dQ at h2;by_cases hi:i<vs.length
   ·exact hi
   ·rw[F0 (by simpa using hi)]at h2;rw[List.getElem?_replicate]at h2;split at h2 <;> cases h2
  have ha:vs[i]?=some v:=by
   unfold dQ at h2;rw[Hu (by simpa using hi),Gp]at h2;cases e:vs[i]? with
   |none=>rw[e]at h2;cases h2
   |some a=>rw[e]at h2;cases h2;rfl
  obtain⟨u,hu,rv⟩:=r.get ha;have hp:ps[i]?=some y:=by
   rw[<-S.pre,List.getElem?_take_of_lt (by lia)];exact h1
  have EN:ps.Nodup:=by rw[<-S.pre];exact S.nd.sublist (List.take_sublist _ _)
  refine⟨u,rv,?_⟩;rcases S.par y (HW hp) with k|k
  ·exact .inl ⟨k,gQ EN hp hu k⟩
  ·obtain⟨c,e⟩:=iS (n:=s.heap.objs.size+1) k;refine .inr ⟨.inl k,c,e,?_⟩;have q:=x.cell y c e;rw[gR EN hp hu (by show scope.names.lookup y≠_;rw[k];decide)]at q;exact q
 ·exact e0.hok.fresh (IH (x.above y c (Gr h)))
 ·unfold dQ;show _=N.length;rw[FU,FN,List.length_replicate];lia
theorem qa{CX:Ae}{P:Program}{w:World}{K:W.Frag}{mg:Str->Option Value}{base:Heap}{k:Nat}{f:Addr}{name qual:Str}{params:Arguments}{body:List Stmt}{scope:Scope}{dV kV doc pm xr ct oc:Value}{an od:Option Addr}
  {Al:Array (Option Value)}{N ps:List Str}{sp:Sp}(lk:K.lookup f=some ⟨oc,od,.func (PySem.W.fnOf name qual params body scope dV kV doc pm an xr ct),Al⟩) (zP:PySem.W.codeIn K xr qual=true) (S:FnScope N ps scope)
  (len:∀vs H Q E,sp vs H Q E->vs.length=ps.length)
  (zR:∀(A:Around) (outer:List Env) (s:Shared) (H:Hp) (vs:List V) (Q:VK) (E:XK),Room k (A.deeper (envOfC qual scope s.heap.objs.size f xr))->sp vs H Q E->
   ∃t,PSs (iR CX P w K mg base N qual scope f xr A outer s H E) body t/\t {nx:=fun _ H'=>Q .non H',rt:=Q} (dQ N vs) H):
  FnOk P w K mg base CX (k+1) f (PySem.W.fnOf name qual params body scope dV kV doc pm an xr ct) ps sp:=by
 refine⟨len,fun A outer s H args us vs Q E hr e0 hb r AK=>?_⟩;have hl:=len _ _ _ _ AK;have KX:K.In s.heap:=e0.mod.kin.keeps fun b o e=>(e0.bs b o e).1
 have lim:s.heap.NoLimit:=e0.mod.nolimit.keeps fun b o e=>(e0.bs b o e).1
 have CN:∀y∈ps.zip us,scope.names.lookup y.1=some .local\/(scope.names.lookup y.1=some .cell/\((cellsFrom (s.heap.objs.size+1) scope.names []).lookup y.1).isSome=true):=fun xi hy=>by
  obtain⟨n,v⟩:=xi;rcases S.par n (HK hy).1 with q|q
  ·exact .inl q
  ·exact .inr ⟨q,HE _ _ _ (.inl q)⟩
 refine codeAny_call_function hr.depth (KX _ _ lk) rfl S.co S.gen rfl (PySem.W.codeRec_of KX zP) (hb _ _ _ _ ?_);refine wpAny_newFunctionEnv_cells S.kind CN fun env he s1 x=>?_
 subst he;refine⟨lim.keeps x.toInCall.keep,codeAny_func ?_⟩;obtain⟨t,ht,hq⟩:=zR A outer s H vs Q E (hr.deeper _) AK;have I:Inv (iR CX P w K mg base N qual scope f xr A outer s H E) [] (dQ N vs) H s1:=j0 S hr.hd e0 hl r x;refine FW (ht [] s1 (dQ N vs) H _ I hq) (fun fl s' hs=>?_) fun e s' hs=>hs
 have fin:∀{σ':St}{H':Hp}{v:V}{u:Value},Inv (iR CX P w K mg base N qual scope f xr A outer s H E) [] σ' H' s'->RelV v u->Q v H'->CE outer P w H s Q u s':=
  fun{σ' H' v u} J rv q=>⟨v,H',J.os,J.bare,J.base,J.hok,rv,q⟩
 cases fl with
 |ret u=>
  obtain⟨v,σ',H',J,rv,q⟩:=hs;exact fin J rv q
 |next=>
  obtain⟨σ',H',J,q⟩:=hs;exact fin (v:=V.non) (u:=Value.none) J rfl q
 |brk=>
  obtain⟨_,_,_,q⟩:=hs;exact False.elim q
 |cont=>
  obtain⟨_,_,_,q⟩:=hs;exact False.elim q
section
variable{X:Cx}{x:Str}{p pos:Pos}{e:Expr}{es:List Expr}{t:TA}{id T:String}{r:List V->Hp->VK->Prop}
def D8(r:List V->Hp->VK->Prop)(t:TA):TE:=fun σ H Q=>t σ H fun vs H1=>r vs H1 Q
theorem eB(hc:eH X (.builtin id) r)(hg:Gl X x)(hm:X.mg x=none)(hv:bootBuiltins x=some (.builtin id))(ha:PA X (e::es) t)(hn:x≠"__name__":=by decide)(xX:(x==("__debug__" : Str))=false:=by decide)
  (he:starEach (e::es) X.env=(false,eval e X.env)::starEach es X.env:=by rfl) (xZ:(backTo pos (starEach es X.env)).any (·.1)=false:=by rfl):PE X (.Call (.Name x p) (e::es) [] pos) (D8 r t):=by
 intro pr s σ H Q I h;refine GJ (iQ I hg hm hv ?_ hn xX);exact PyProof.Rows.callWith_builtin1 (xt (ha pos pr s σ H _ I h) fun us s1 ⟨vs,H1,I1,r1,q1⟩=>hc pr s1 σ H1 vs us Q I1 r1 q1) he xZ
theorem j3(hc:eH X (.type T) r)(hg:Gl X x)(hm:X.mg x=none)(hv:bootBuiltins x=some (.type T))(ha:PA X (e::es) t)(hn:x≠"__name__":=by decide)(xX:(x==("__debug__" : Str))=false:=by decide)
  (he:starEach (e::es) X.env=(false,eval e X.env)::starEach es X.env:=by rfl) (xZ:(backTo pos (starEach es X.env)).any (·.1)=false:=by rfl):PE X (.Call (.Name x p) (e::es) [] pos) (D8 r t):=by
 intro pr s σ H Q I h;refine GJ (iQ I hg hm hv ?_ hn xX);exact Hk (xt (ha pos pr s σ H _ I h) fun us s1 ⟨vs,H1,I1,r1,q1⟩=>hc pr s1 σ H1 vs us Q I1 r1 q1) he xZ
end
end L2
namespace HT
open PySem PyProof.Rows
section
open PySem.SeqAt
open PySem.AutoSeq1 (wpAny_loadPart')
open PySem.MeetsSeq PySem.MeetsSeq2 PySem.MeetsSeq3
end
section
variable{prog:Program}{w:World}{A:Around}{E:Value->Shared->Prop}{s:Shared}
theorem nI{t b:Addr}{vs ws:List Value}{Q:Value->Shared->Prop}(ht:IsTup s.heap t vs.toArray)(hb:IsTup s.heap b ws.toArray)(hv:vs≠[])
  (h1:ws=[]->Q (.ref t) s) (h2:ws≠[]->Q (.ref s.heap.objs.size) {s with heap:=s.heap.push {cls:=.type "tuple",data:=.seq (vs++ws).toArray}})
  (EO:vs.length+ws.length<=sizeLine):wpAny (model prog w) A (binaryOp .Add (.ref t) (.ref b)) Q E s:=by
 obtain⟨⟨cls,dd,data,sl⟩,ho,hc,n,hd⟩:=id ht;obtain⟨⟨CO,Bq,data2,Br⟩,y3,Bs,n2,hd2⟩:=id hb;simp only at hc hd Bs hd2;subst hc hd Bs hd2;have e:vs.toArray++ws.toArray=(vs++ws).toArray:=by simp
 by_cases hw:ws=[]
 ·exact concat_meets ⟨_,ho,rfl⟩ ⟨_,y3,rfl⟩ noFill_tuple_add seq_tuple_add HF HA (Hx _ _)
   (tuple_addW1 t b vs.toArray ws.toArray n n2 dd Bq sl Br (by simpa using hv) (by simp[hw])) ⟨ho,y3,h1 hw⟩
 ·refine concat_meets ⟨_,ho,rfl⟩ ⟨_,y3,rfl⟩ noFill_tuple_add seq_tuple_add HF HA (Hx _ _)
   (tuple_addW2 t b vs.toArray ws.toArray n n2 dd Bq sl Br (by simpa using hv) (by simpa using hw) (by rw[Fp,Fp];exact EO)) ⟨ho,y3,?_⟩
  rw[e];exact h2 hw
def sIx(n d:Nat):Option Int->Nat
 |none=>d
 |some v=>if v<0 then(v+(n:Int)).toNat else min v.toNat n
theorem iT(n d:Nat):sIx n d none=d:=rfl
theorem j4(n d k:Nat):sIx n d (some (k:Int))=min k n:=by
 show(if(k:Int)<0 then((k:Int)+(n:Int)).toNat else min (k:Int).toNat n)=min k n;rw[F3 (by lia),Hy]
theorem j5(n d:Nat)(hd:d<=n)(o:Option Int):sIx n d o<=n:=by
 cases o with
 |none=>exact hd
 |some v=>
  show(if v<0 then(v+(n:Int)).toNat else min v.toNat n)<=n;by_cases hv:v<0
  ·rw[FY hv];lia
  ·rw[F3 hv];exact Nat.min_le_right _ _
theorem j6(v:Int)(n d:Nat):(if v<0 then max (v+(n:Int)) 0 else min v (n:Int))=((sIx n d (some v):Nat):Int):=by
 show(if v<0 then max (v+(n:Int)) 0 else min v (n:Int))=(((if v<0 then(v+(n:Int)).toNat else min v.toNat n):Nat):Int)
 by_cases hv:v<0
 ·simp only[FY hv];lia
 ·simp only[F3 hv];lia
theorem jw(lo hi:Option Int)(n:Nat):Builtin.Slice.sliceAdjust lo hi 1 (n:Int)=(((sIx n 0 lo:Nat):Int),((sIx n n hi:Nat):Int)):=by
 have h1:¬ ((1:Int)<0):=by lia
 unfold Builtin.Slice.sliceAdjust;simp only[h1,JM];refine Prod.ext ?_ ?_
 ·cases lo with
  |none=>rfl
  |some v=>exact j6 v n 0
 ·cases hi with
  |none=>rfl
  |some v=>exact j6 v n n
theorem jx(i j:Nat):Builtin.Slice.slicePlaces (i:Int) (j:Int) 1=j-i:=by
 unfold Builtin.Slice.slicePlaces;have h1:(1:Int)>0:=by lia
 simp only[h1,Hv,Int.ediv_one];split <;> lia
theorem fJ{v:Value}{o:Option Int}{Q:Option Int->Shared->Prop}(p:IsPart v o)(h:Q o s):wpAny (model prog w) A (Builtin.Slice.slicePartIndex v) Q E s:=by
 cases p with
 |none=>exact slicePart_none h
 |int i t=>exact slicePart_int h
theorem cH{sl:Addr}{vl vu:Value}{lo hi:Option Int}{n:Nat}{Q:Int×Int×Nat->Shared->Prop}(hs:s.heap.IsSliceOf sl vl vu .none)(pl:IsPart vl lo)(pu:IsPart vu hi)
  (h:Q (((sIx n 0 lo:Nat):Int),1,sIx n n hi-sIx n 0 lo) s):wpAny (model prog w) A (Builtin.Slice.sliceApplied (.ref sl) (pure (n:Int))) Q E s:=by
 obtain⟨os,AQ,DK,AR⟩:=id hs;unfold Builtin.Slice.sliceApplied Builtin.Slice.sliceFields;refine Fs (Fs (wpAny_field AQ AR (x:=vl) rfl (Fs (wpAny_field AQ AR (x:=vu) rfl (Fs (wpAny_field AQ AR (x:=.none) rfl (FF ?_)))))));refine Fs (slicePart_none ?_);show wpAny _ _ (if((1:Int)==0)=true then _ else _) _ _ s;rw[F3 (by decide)];refine Fs (fJ pl (Fs (fJ pu (Fs (FF ?_)))));show wpAny _ _ (match Builtin.Slice.sliceAdjust lo hi 1 (n:Int) with|(lo,hi)=>pure (lo,(1:Int),Builtin.Slice.slicePlaces lo hi 1)) _ _ s;rw[jw lo hi n];show wpAny _ _ (pure (((sIx n 0 lo:Nat):Int),(1:Int),Builtin.Slice.slicePlaces ((sIx n 0 lo:Nat):Int) ((sIx n n hi:Nat):Int) 1)) _ _ s;rw[jx];exact FF h
theorem lJ(xs:Array Value)(i k:Nat):((List.range k).filterMap fun(m:Nat)=>xs[((i:Int)+(m:Int)*1).toNat]?).toArray=((xs.toList.drop i).take k).toArray:=by
 have e:(fun(m:Nat)=>xs[((i:Int)+(m:Int)*1).toNat]?)=fun m=>xs[i+m]?:=by
  funext m
  have:((i:Int)+(m:Int)*1).toNat=i+m:=by lia
  rw[this]
 rw[e];have:=pick_run xs i k;rw[List.filterMap_map]at this;have e2:((fun x=>xs[x]?)∘fun x=>i+x)=fun m=>xs[i+m]?:=rfl
 rw[e2]at this;rw[this]
theorem dR{t sl:Addr}{items:Array Value}{vl vu:Value}{lo hi:Option Int}{Q:Value->Shared->Prop}(ht:IsTup s.heap t items)(hs:s.heap.IsSliceOf sl vl vu .none)(pl:IsPart vl lo)(pu:IsPart vu hi)
  (hw:¬ (sIx items.size 0 lo=0/\sIx items.size items.size hi=items.size))
  (h:Q (.ref s.heap.objs.size) {s with heap:=s.heap.push {cls:=.type "tuple",data:=.seq ((items.toList.drop (sIx items.size 0 lo)).take (sIx items.size items.size hi-sIx items.size 0 lo)).toArray}})
  (EO:items.size<=sizeLine):wpAny (model prog w) A (getItem (.ref t) (.ref sl)) Q E s:=by
 have z9:sizeOk (.seq ((items.toList.drop (sIx items.size 0 lo)).take (sIx items.size items.size hi-sIx items.size 0 lo)).toArray):=by
  show((items.toList.drop (sIx items.size 0 lo)).take (sIx items.size items.size hi-sIx items.size 0 lo)).toArray.size<=sizeLine;rw[Fp,Gj,Gw,Gd];lia
 have hj:sIx items.size items.size hi<=items.size:=j5 _ _ (Fw _) hi;obtain⟨os,AQ,DK,AR⟩:=id hs;have D9:s.TypeIs (.ref sl) "slice":=⟨os,AQ,DK⟩
 unfold getItem;try with_reducible refine Iq ?_
 first|refine Fs (FF ?_)|skip
 refine Fs (wpAny_sequenceKey ht.typeIs (by decide) ?_);refine Fs (Ha (name:=Str.ofString "__getitem__") ht.typeIs Gm
  (wpAny_call_entry Gm ht.typeIs entry_tuple_getitem ?_ (args_tuple_getitem _ _)))
 show wpAny _ _ (Builtin.Tuple.tupleItemsOf (.ref t) >>= _) _ _ s;refine Fs (tupleItemsOf_ ht ?_);refine Fs (wpAny_typeOf D9 ?_);rw[FY (by decide)];refine Fs (cH hs pl pu ?_);have ER:¬ ((((sIx items.size 0 lo:Nat):Int)==0&&(1:Int)==1&&(sIx items.size items.size hi-sIx items.size 0 lo)==items.size)=true):=by
  intro q;rw[Fx,Fx]at q;have q1:((sIx items.size 0 lo:Nat):Int)=0:=eq_of_beq q.1.1;have q2:sIx items.size items.size hi-sIx items.size 0 lo=items.size:=eq_of_beq q.2;exact hw ⟨by lia,by lia⟩
 show wpAny _ _ (if(((sIx items.size 0 lo:Nat):Int)==0&&(1:Int)==1&&(sIx items.size items.size hi-sIx items.size 0 lo)==items.size)=true then _ else _) _ _ s;rw[F3 ER,lJ];first
  |exact Fs (m:=Builtin.Tuple.tupleExact _) (GQ (FF ⟨_,rfl,FF h⟩) z9)
  |exact Fs (m:=Builtin.Tuple.tupleExact _) (GQ (Fs (FF (FF ⟨_,rfl,FF h⟩))) z9)
  |exact Fs (Fs (m:=Builtin.Tuple.tupleExact _) (GQ (FF (FF ⟨_,rfl,FF h⟩)) z9))
  |exact Fs (Fs (m:=Builtin.Tuple.tupleExact _) (GQ (FF ⟨_,rfl,FF h⟩) z9))
end
end HT
namespace L2
open PySem PySem.Spec PyProof.Rows
abbrev TO:=St->Hp->(Option Int->Hp->Prop)->Prop
def PO(X:Cx)(e:Option Expr)(t:TO):Prop:=
 ∀(pr:List (Addr×Obj)) (s:Shared) (σ:St) (H:Hp) (Q:Option Int->Hp->Prop),Inv X pr σ H s->t σ H Q->
  wpAny (model X.prog X.w) X.A (evalPart e X.env) (fun u s'=>∃o H',Inv X pr σ H' s'/\IsPart u o/\Q o H') X.xe s
def nJ:TO:=fun _ H Q=>Q none H
def tD(t:TE):TO:=fun σ H Q=>t σ H fun x H1=>∃i,x=.int i/\Q (some i) H1
section
variable{X:Cx}{e:Expr}{te:TE}{lo hi:Option Expr}{tl th:TO}{pos p2:Pos}
theorem nK:PO X none nJ:=by
 intro pr s σ H Q I h;rw[evalPart_none];exact FF ⟨none,H,I,.none,h⟩
theorem nL(h:PE X e te):PO X (some e) (tD te):=by
 intro pr s σ H Q I hw;rw[evalPart_some];refine xt (h pr s σ H _ I hw) fun u s1 xu=>?_
 obtain⟨x,H1,I1,r1,q1⟩:=xu;obtain⟨i,rfl,q⟩:=q1;obtain⟨t,rfl⟩:=r1;exact⟨some i,H1,I1,.int i t,q⟩
def BC(X:Cx)(r:V->Option Int->Option Int->Hp->VK->Prop):Prop:=
 ∀(pr:List (Addr×Obj)) (s:Shared) (σ:St) (H:Hp) (x:V) (v vl vu:Value) (lo hi:Option Int) (sl:Addr) (Q:VK),Inv X pr σ H s->RelV x v->s.heap.IsSliceOf sl vl vu .none->IsPart vl lo->IsPart vu hi->r x lo hi H Q->
  ∃T id,typeLookup (.type T) "__getitem__" = pure (some (.builtin id))/\s.TypeIs v T/\wpAny (model X.prog X.w) X.A (getItem v (.ref sl)) (EP X pr σ Q) X.xe s
def tSl(r:V->Option Int->Option Int->Hp->VK->Prop)(te:TE)(tl th:TO):TE:=fun σ H Q=>te σ H fun x H1=>tl σ H1 fun l H2=>th σ H2 fun u H3=>r x l u H3 Q
theorem lK{r:V->Option Int->Option Int->Hp->VK->Prop}(hr:BC X r)(he:PE X e te)(hl:PO X lo tl)(hu:PO X hi th):PE X (.Subscript e (.Slice lo hi none p2) pos) (tSl r te tl th):=by
 intro pr s σ H Q I h;refine Subscript_ (xt (he pr s σ H _ I h) fun v s1 xu=>?_);obtain⟨x,H1,I1,r1,q1⟩:=xu;refine wpAny_Slice (xt (hl pr s1 σ H1 _ I1 q1) fun vl s2 ⟨l,H2,I2,pl,q2⟩=>xt (hu pr s2 σ H2 _ I2 q2) fun vu s3 xu=>?_);obtain⟨u,H3,I3,pu,q3⟩:=xu;rw[evalPart_none];refine FF ?_;have I4:Inv X pr σ H3 {s3 with heap:=s3.heap.push {cls:=.type "slice",data:=.fields #[vl,vu,.none]}}:=I3.kept (t':=s3.toks) fun b ob q=>FA _ q
 obtain⟨T,id,hT,ht,hg⟩:=hr pr {s3 with heap:=s3.heap.push {cls:=.type "slice",data:=.fields #[vl,vu,.none]}} σ H3 x v vl vu l u s3.heap.objs.size Q I4 r1 (Heap.IsSliceOf.new ..) pl pu q3;show wpAny (model X.prog X.w) X.A (subscriptTail e (.Slice lo hi none p2) v (.ref s3.heap.objs.size)) (EP X pr σ Q) X.xe {s3 with heap:=s3.heap.push {cls:=.type "slice",data:=.fields #[vl,vu,.none]}};exact tail_any (ops:=[.ref s3.heap.objs.size,v]) ht hT hg (by with_unfolding_all rfl)
def mT(xs:List V)(lo hi:Option Int):List V:=(xs.drop (HT.sIx xs.length 0 lo)).take (HT.sIx xs.length xs.length hi-HT.sIx xs.length 0 lo)
theorem eI(xs:List V)(lo hi:Option Int):(mT xs lo hi).length<=xs.length:=by
 unfold mT;rw[Gj,Gw];lia
def vD(K:W.Frag):V->Option Int->Option Int->Hp->VK->Prop:=fun x lo hi H Q=>∃a xs,x=.ref a/\SqT K H a xs/\
 ¬ (HT.sIx xs.length 0 lo=0/\HT.sIx xs.length xs.length hi=xs.length)/\∀p,H p=none->Q (.ref p) (upd H p (.tup (mT xs lo hi)))
theorem qb:BC X (vD X.K):=by
 intro pr s σ H x v vl vu lo hi sl Q I rx hs pl pu h;obtain⟨a,xs,rfl,hx,hw,q⟩:=h;cases rx;obtain⟨wZ,r,ht,hz⟩:=I.tuple hx;have hlen:wZ.toArray.size=xs.length:=by rw[Fp];exact r.length.symm
 refine⟨"tuple",_,PyProof.Rows.slot_tuple_getitem.lookup,ht.typeIs,?_⟩;refine HT.dR ht hs pl pu (by rw[hlen];exact hw) ?_ (by rw[hlen];exact hz);rw[hlen];refine⟨.ref s.heap.objs.size,_,I.laid (t':=s.toks) (o:=.tup (mT xs lo hi)) (fun b ob q=>FA _ q) (Fw _) ?_,rfl,q _ (I.hok.fresh (Fw _))⟩;exact⟨Ge (eI xs lo hi) hz,_,(r.drop (HT.sIx xs.length 0 lo)).take (HT.sIx xs.length xs.length hi-HT.sIx xs.length 0 lo),IsTupN.new _ _⟩
def tE(K:W.Frag):R2:=fun x y H Q=>∃a b xs ys,x=.ref a/\y=.ref b/\SqT K H a xs/\SqT K H b ys/\xs≠[]/\xs.length+ys.length<=sizeLine/\
 (ys=[]->Q (.ref a) H)/\(ys≠[]->∀p,H p=none->Q (.ref p) (upd H p (.tup (xs++ys))))
theorem Vals.nil_iff{xs:List V}{us:List Value}(r:Vals xs us):us=[]<->xs=[]:=by
 cases r with
 |nil=>simp
 |cons _ _=>simp
theorem nM:xW X (binaryOp .Add) (tE X.K):=by
 intro pr s σ H x y v u Q I rx ry h;obtain⟨a,b,xs,ys,rfl,rfl,ha,hb,hx,hz,q1,q2⟩:=h;cases rx;cases ry;obtain⟨wZ,r1,p1,_⟩:=I.tuple ha;obtain⟨Am,r2,p2,_⟩:=I.tuple hb;refine HT.nI p1 p2 (fun z=>hx (r1.nil_iff.mp z)) (fun z=>⟨.ref a,H,I,rfl,q1 (r2.nil_iff.mp z)⟩) (fun z=>?_) (by rw[<-r1.length,<-r2.length];exact hz);refine⟨.ref s.heap.objs.size,_,I.laid (t':=s.toks) (o:=.tup (xs++ys)) (fun b ob q=>FA _ q) (Fw _) ?_,rfl,q2 (fun w=>z (r2.nil_iff.mpr w)) _ (I.hok.fresh (Fw _))⟩;exact⟨by rw[FU];exact hz,_,r1.append r2,IsTupN.new _ _⟩
end
def ixN(n:Nat)(i:Int):Option Nat:=if 0<=i then(if i<n then some i.toNat else none) else if -(n:Int)<=i then some (i+n).toNat else none
def zG{α:Type}(xs:List α)(i:Int):Option α:=(ixN xs.length i).bind fun j=>xs[j]?
theorem nN{n:Nat}{i:Int}{j:Nat}(h:ixN n i=some j):seqIndex? i n=some j/\j<n/\-(n:Int)<=i/\i<n:=by
 unfold ixN at h;by_cases h0:0<=i
 ·rw[FY h0]at h;by_cases h1:i<n
  ·rw[FY h1]at h;have e:i.toNat=j:=F6 h;exact⟨by rw[seqIndex_of h0 h1,e],by lia,by lia,h1⟩
  ·rw[F3 h1]at h;cases h
 ·rw[F3 h0]at h;by_cases h1:-(n:Int)<=i
  ·rw[FY h1]at h;have e:(i+n).toNat=j:=F6 h;exact⟨by rw[seqIndex_neg (by lia) h1,e],by lia,h1,by lia⟩
  ·rw[F3 h1]at h;cases h
theorem iy{α:Type}{xs:List α}{i:Int}{v:α}(h:zG xs i=some v):∃j,seqIndex? i xs.length=some j/\xs[j]?=some v/\j<xs.length/\-(xs.length:Int)<=i/\i<xs.length:=by
 unfold zG at h;cases e:ixN xs.length i with
 |none=>rw[e]at h;cases h
 |some j=>
  rw[e]at h;obtain⟨h1,h2,h3,h4⟩:=nN e;exact⟨j,h1,h,h2,h3,h4⟩
theorem cB{α:Type}{xs:List α}{j:Nat}{v:α}(h:xs[j]?=some v):zG xs (j:Int)=some v:=by
 have hj:j<xs.length:=(FE.mp h).1;have e:ixN xs.length (j:Int)=some j:=by
  unfold ixN;rw[FY (by lia),FY (by lia)];simp
 unfold zG;rw[e];exact h
def j7(b:Expr):Prop:=∀o i,subscripted b false o i=operate [o,i] (getItem o i)
def CP(X:Cx)(r:R2):Prop:=
 ∀(value slice:Expr) (pr:List (Addr×Obj)) (s:Shared) (σ:St) (H:Hp) (x y:V) (v u:Value) (Q:VK),Inv X pr σ H s->RelV x v->RelV y u->r x y H Q->
  subscripted slice false v u=operate [v,u] (getItem v u)->wpAny (model X.prog X.w) X.A (subscriptTail value slice v u) (EP X pr σ Q) X.xe s
def Ea(X:Cx)(id:String)(r:V->List V->Hp->VK->Prop):Prop:=
 ∀(pr:List (Addr×Obj)) (s:Shared) (σ:St) (H:Hp) (x:V) (xs:List V) (v:Value) (us:List Value) (Q:VK),Inv X pr σ H s->RelV x v->Vals xs us->r x xs H Q->
  wpAny (model X.prog X.w) X.A (call (.builtin id) (v::us)) (EP X pr σ Q) X.xe s
section
variable{X:Cx}{a b:Expr}{ta tb:TE}{pos:Pos}
theorem tF{r:R2}(hr:CP X r)(ha:PE X a ta)(hb:PE X b tb)(hs:j7 b):PE X (.Subscript a b pos) (Cq r ta tb):=by
 intro pr s σ H Q I h;exact Subscript_ (sZ ha hb I h fun v u s2 x y H2 I2 rx ry q=>hr a b pr s2 σ H2 x y v u Q I2 rx ry q (hs _ _))
def vE(K:W.Frag):R2:=fun x y H Q=>∃p xs i v,x=.ref p/\y=.int i/\SqL K H p xs/\zG xs i=some v/\Q v H
def vF(K:W.Frag):R2:=fun x y H Q=>∃p xs i v,x=.ref p/\y=.int i/\SqT K H p xs/\zG xs i=some v/\Q v H
def vG:R2:=fun x y H Q=>∃z i c,x=.str z/\y=.int i/\z.length<=sizeLine/\zG z.cps.toList i=some c/\Q (.str ⟨#[c]⟩) H
theorem nO:CP X (vE X.K):=by
 intro value slice pr s σ H x y v u Q I rx ry h hs;obtain⟨p,xs,i,z,rfl,rfl,hq,he,q⟩:=h;cases rx;obtain⟨t,rfl⟩:=ry;obtain⟨wZ,r,pl,hz⟩:=I.list hq;obtain⟨j,h1,h2,h3,h4,h5⟩:=iy he;obtain⟨w,ew,BD⟩:=r.get h2;have hl:=r.length;have hn:=gN;have fin:EP X pr σ Q w s:=⟨z,H,I,BD,q⟩
 by_cases h0:0<=i
 ·have hj:i.toNat=j:=by
   rw[seqIndex_of h0 h5]at h1;exact F6 h1
  exact item_listR pl.isList h0 (by lia) (by rw[hj];simpa using ew) fin hs
 ·have hj:(i+(wZ.toArray.size:Int)).toNat=j:=by
   rw[seqIndex_neg (by lia) h4]at h1;rw[Fp,<-hl];exact F6 h1
  exact subscriptTail_builtinR (x:=w) pl.isList.typeIs slot_list_getitem.lookup
   (wpAny_getItem_list_neg (Q:=fun r s'=>r=w/\EP X pr σ Q r s') pl.isList (by lia) (by rw[Fp] <;> lia) (by lia) (by rw[hj];simpa using ew) ⟨rfl,fin⟩) hs
theorem qc:CP X (vF X.K):=by
 intro value slice pr s σ H x y v u Q I rx ry h hs;obtain⟨p,xs,i,z,rfl,rfl,hq,he,q⟩:=h;cases rx;obtain⟨t,rfl⟩:=ry;obtain⟨wZ,r,pl,hz⟩:=I.tuple hq;obtain⟨j,h1,h2,h3,h4,h5⟩:=iy he;obtain⟨w,ew,BD⟩:=r.get h2;have hl:=r.length;have hn:=gN;have fin:EP X pr σ Q w s:=⟨z,H,I,BD,q⟩
 exact subscriptTail_builtinR (x:=w) pl.typeIs slot_tuple_getitem.lookup
  (getItem_tuple (j:=j) (Q:=fun r s'=>r=w/\EP X pr σ Q r s') pl (by lia) (by lia) (by rw[Fp,<-hl];exact h1) (by simpa using ew) ⟨rfl,fin⟩) hs
theorem qd:CP X vG:=by
 intro value slice pr s σ H x y v u Q I rx ry h hs;obtain⟨z,i,c,rfl,rfl,hz,he,q⟩:=h;obtain⟨t,rfl⟩:=rx;obtain⟨t',rfl⟩:=ry;obtain⟨j,h1,h2,h3,h4,h5⟩:=iy he;have hl:z.cps.toList.length=z.length:=by simp[Str.length]
 rw[hl]at h1 h4 h5;have hn:=gN;exact tail_any (typeIs_str s z t) slot_str_getitem.lookup (getItem_str (c:=c) (by
  have e1:decide (i < -(2 ^ 63:Int))=false:=FH (by lia);have e2:decide (i>=2 ^ 63)=false:=FH (by lia);rw[e1,e2,Bool.or_false]) (by rw[h1];simpa using h2) ⟨.str ⟨#[c]⟩,H,I.tok _,⟨_,rfl⟩,q⟩) hs
theorem gS(lo hi:Option Int)(n:Nat):(sliceBounds lo hi none n).1=((HT.sIx n 0 lo:Nat):Int)/\(sliceBounds lo hi none n).2.1=((HT.sIx n n hi:Nat):Int)/\(sliceBounds lo hi none n).2.2=1:=by
 refine⟨?_,?_,rfl⟩
 ·cases lo with
  |none=>simp[sliceBounds,HT.sIx]
  |some i=>
   simp only[sliceBounds,HT.sIx,HD,show(1:Int)>0 by decide,Hv];by_cases h:i<0
   ·simp only[h,Hv] <;> lia
   ·simp only[h,JM] <;> lia
 ·cases hi with
  |none=>simp[sliceBounds,HT.sIx]
  |some i=>
   simp only[sliceBounds,HT.sIx,HD,show(1:Int)>0 by decide,Hv];by_cases h:i<0
   ·simp only[h,Hv] <;> lia
   ·simp only[h,JM] <;> lia
theorem gi(wZ:List Value)(lo hi:Option Int):slicePick wZ.toArray lo hi none=((wZ.drop (HT.sIx wZ.length 0 lo)).take (HT.sIx wZ.length wZ.length hi-HT.sIx wZ.length 0 lo)).toArray:=by
 obtain⟨h1,h2,h3⟩:=gS lo hi wZ.toArray.size;unfold slicePick;rw[h1,h2,h3];simp only[sliceRange_one,pick_run,Fp] <;> rfl
def vH(K:W.Frag):V->Option Int->Option Int->Hp->VK->Prop:=fun x lo hi H Q=>∃a xs,x=.ref a/\SqL K H a xs/\∀p,H p=none->Q (.ref p) (upd H p (.lst (mT xs lo hi)))
theorem nP:BC X (vH X.K):=by
 intro pr s σ H x v vl vu lo hi sl Q I rx hs pl pu h;obtain⟨a,xs,rfl,hx,q⟩:=h;cases rx;obtain⟨wZ,r,ht,hz⟩:=I.list hx;have hlen:=r.length;refine⟨"list",_,slot_list_getitem.lookup,ht.isList.typeIs,?_⟩;refine wpAny_getItem_list_slice ht.isList hs pl pu .none (by simp) ?_ (by rw[Fp] <;> lia);rw[gi,<-hlen];refine⟨.ref s.heap.objs.size,_,I.laid (t':=s.toks) (o:=.lst (mT xs lo hi)) (fun b ob q=>FA _ q) (Fw _) ?_,rfl,q _ (I.hok.fresh (Fw _))⟩;exact⟨Ge (eI xs lo hi) hz,_,0,(r.drop (HT.sIx xs.length 0 lo)).take (HT.sIx xs.length xs.length hi-HT.sIx xs.length 0 lo),FV _ rfl⟩
def lM:V->Bool
 | .non=>true
 | .bl _=>true
 | .int _=>true
 | .str _=>true
 |_=>false
def Eb:V->V->Bool
 | .non,.non=>true
 | .bl a,.bl b=>a==b
 | .bl a,.int b=>(if a then 1 else 0)==b
 | .int a,.bl b=>a==(if b then 1 else 0)
 | .int a,.int b=>a==b
 | .str a,.str b=>a==b
 |_,_=>false
theorem qe{A:Around}{s:Shared}{y x:V}{u v:Value}(ry:RelV y u)(rx:RelV x v)(fy:lM y=true)(fx:lM x=true):SeqAt.EqAt A s u v (Eb y x):=by
 cases y with
 |non=>
  cases ry;cases x with
  |non=>cases rx;exact SeqAt.EqAt.same _
  |bl b=>cases rx;exact SeqAt.EqAt.none_bool b
  |int b=>obtain⟨t,rfl⟩:=rx;exact SeqAt.EqAt.none_int b t
  |str b=>obtain⟨t,rfl⟩:=rx;exact SeqAt.EqAt.none_str b t
  |_=>exact absurd (show false=true from fx) FR
 |bl a=>
  cases ry;cases x with
  |non=>cases rx;exact SeqAt.EqAt.bool_none a
  |bl b=>cases rx;exact SeqAt.EqAt.bool_bool a b
  |int b=>obtain⟨t,rfl⟩:=rx;exact SeqAt.EqAt.bool_int a b t
  |str b=>obtain⟨t,rfl⟩:=rx;exact SeqAt.EqAt.bool_str a b t
  |_=>exact absurd (show false=true from fx) FR
 |int a=>
  obtain⟨t',rfl⟩:=ry;cases x with
  |non=>cases rx;exact SeqAt.EqAt.int_none a t'
  |bl b=>cases rx;exact SeqAt.EqAt.int_bool a t' b
  |int b=>obtain⟨t,rfl⟩:=rx;exact SeqAt.EqAt.int_int a t' b t
  |str b=>obtain⟨t,rfl⟩:=rx;exact SeqAt.EqAt.int_str a t' b t
  |_=>exact absurd (show false=true from fx) FR
 |str a=>
  obtain⟨t',rfl⟩:=ry;cases x with
  |non=>cases rx;exact SeqAt.EqAt.str_none a t'
  |bl b=>cases rx;exact SeqAt.EqAt.str_bool a t' b
  |int b=>obtain⟨t,rfl⟩:=rx;exact SeqAt.EqAt.str_int a t' b t
  |str b=>obtain⟨t,rfl⟩:=rx;exact SeqAt.EqAt.str_str a t' b t
  |_=>exact absurd (show false=true from fx) FR
 |_=>exact absurd (show false=true from fy) FR
theorem d4:eH X (.builtin "len") (fun xs H Q=>∃p ys,xs=[.ref p]/\(SqL X.K H p ys\/SqT X.K H p ys)/\Q (.int ys.length) H):=by
 intro pr s σ H xs us Q I r h;obtain⟨p,ys,rfl,hq,q⟩:=h;obtain⟨u,rfl,rx⟩:=jY r;cases rx;have hn:=gN;rcases hq with hq|hq
 ·obtain⟨wZ,r',pl,hz⟩:=I.list hq;have hlen:=r'.length;exact Calls.call_len_list pl.isList (by simp only[Fp] <;> lia) ⟨.int ys.length,H,I.tok _,⟨s.toks+1,by rw[Fp,hlen]⟩,q⟩
 ·obtain⟨wZ,r',pl,hz⟩:=I.tuple hq;have hlen:=r'.length;exact len_tuple pl (by simp only[Fp] <;> lia) ⟨.int ys.length,H,I.tok _,⟨s.toks+1,by rw[Fp,hlen]⟩,q⟩
theorem gT:eH X (.builtin "len") (fun xs H Q=>∃z,xs=[.str z]/\z.length<=sizeLine/\Q (.int z.length) H):=by
 intro pr s σ H xs us Q I r h;obtain⟨z,rfl,hz,q⟩:=h;obtain⟨u,rfl,t,rfl⟩:=jY r;have hn:=gN;exact len_str (by lia) ⟨.int z.length,H,I.tok _,⟨_,rfl⟩,q⟩
def Ec(K:W.Frag)(T:String)(x:V)(H:Hp):Prop:=match x with
 | .str _=>T = "str"
 | .int _=>T = "int"
 | .ref p=>(T = "list"/\∃xs,SqL K H p xs)\/(T = "tuple"/\∃o,K.lookup p=some o/\o.cls=.type "tuple"/\o.dict=none)\/
   (T = "dict"/\((∃w9,H p=some (.dK w9))\/∃w9,H p=some (.dT w9)))\/(T = "set"/\∃S n,H p=some (.set S n))
 |_=>False
theorem qf{pr:List (Addr×Obj)}{σ:St}{H:Hp}{s:Shared}{T:String}{x:V}{v:Value}(I:Inv X pr σ H s)(r:RelV x v)(ty:Ec X.K T x H):
  s.TypeIs v T/\∀a,v=.ref a->∃ob,s.heap.get? a=some ob/\ob.dict=none:=by
 cases x with
 |str z=>
  obtain⟨t,rfl⟩:=r;cases(show T = "str" from ty);exact⟨typeIs_str s z t,fun _ e=>nomatch e⟩
 |int i=>
  obtain⟨t,rfl⟩:=r;cases(show T = "int" from ty);exact⟨typeIs_int s i t,fun _ e=>nomatch e⟩
 |ref p=>
  cases r;rcases ty with⟨rfl,xs,hq⟩|⟨rfl,o,hk,hc,hd⟩|⟨rfl,hk⟩|⟨rfl,S,n,hk⟩
  ·obtain⟨wZ,_,pl,_⟩:=I.list hq;refine⟨pl.isList.typeIs,fun a e=>?_⟩;cases e;obtain⟨o,n,e,c,hd,_⟩:=pl;exact⟨o,e,hd⟩
  ·refine⟨⟨o,I.kIn p o hk,hc⟩,fun a e=>?_⟩;cases e;exact⟨o,I.kIn _ o hk,hd⟩
  ·have z:∃o,s.heap.get? p=some o/\o.ExactDict:=by
    rcases hk with⟨w9,hk⟩|⟨w9,hk⟩
    ·obtain⟨_,_,_,_,o,_,_,e,ex,_⟩:=I.hok p _ hk;exact⟨o,e,ex⟩
    ·obtain⟨_,_,_,_,o,_,_,e,ex,_⟩:=I.hok p _ hk;exact⟨o,e,ex⟩
   obtain⟨o,e,ex⟩:=z;refine⟨⟨o,e,ex.1⟩,fun a e2=>?_⟩;cases e2;exact⟨o,e,ex.2.1⟩
  ·obtain⟨o,_,_,_,e,ex,_⟩:=I.hok p _ hk;refine⟨⟨o,e,ex.1⟩,fun a e2=>?_⟩;cases e2;exact⟨o,e,ex.2.1⟩
 |_=>exact False.elim ty
def tBM(K:W.Frag)(T:String)(r:V->List V->Hp->VK->Prop)(to:TE)(t:TA):TE:=fun σ H Q=>to σ H fun x H1=>Ec K T x H1/\t σ H1 fun xs H2=>r x xs H2 Q
variable{o e:Expr}{es:List Expr}{to:TE}{t:TA}{name:Str}{apos xC:Pos}{T id:String}{r:V->List V->Hp->VK->Prop}
theorem qg(pa:PlainAttrs T)(slot:Slot T name id)(CQ:typeOf (.builtin id)=pure (.type "method_descriptor"))(hm:Ea X id r)(ho:PE X o to)(ha:PA X (e::es) t)
  (zg:attributeBase o name X.env (eval o X.env)=eval o X.env:=by rfl)
  (An:((backTo xC (starEach (e::es) X.env)).all (fun x=>!x.1)&&(backToKw xC (keywordEach [] X.env)).all (fun x=>x.1.isSome)
   && decide ((e::es).length+([]:List Keyword).length+(if([]:List Keyword).isEmpty then 0 else 1)<30))=true:=by rfl)
  (zS:(apos.endLine==xC.line)=true:=by rfl) (hs:starEach (e::es) X.env=(false,eval e X.env)::starEach es X.env:=by rfl) (zh:(backTo xC (starEach es X.env)).any (·.1)=false:=by rfl):
  PE X (.Call (.Attribute o name apos) (e::es) [] xC) (tBM X.K T r to t):=by
 intro pr s σ H Q I h;refine wpAny_Call_method_late zg An zS rfl (xt (ho pr s σ H _ I h) fun v s1 xu=>?_);obtain⟨x,H1,I1,r1,ty,q1⟩:=xu;obtain⟨h1,h2⟩:=qf I1 r1 ty;refine⟨T,id,pa,slot,CQ,h1,h2,?_⟩;have hA:=ha xC pr s1 σ H1 _ I1 q1;rw[hs]at hA ⊢;refine Calls.callWith_builtin (by show(false||(backTo xC (starEach es X.env)).any (·.1))=false;rw[zh] <;> rfl) (Calls.evalArgs_plain ?_);exact xt hA fun us s2 ⟨vs,H2,I2,r2,q2⟩=>hm pr s2 σ H2 x vs v us Q I2 r1 r2 q2
end
def MtM(X:Cx)(id:String)(r:V->List V->Hp->VK->Prop):Prop:=
 ∀(pr:List (Addr×Obj)) (s:Shared) (σ:St) (H:Hp) (x:V) (xs:List V) (v:Value) (us:List Value) (Q:VK),Inv X pr σ H s->RelV x v->Vals xs us->r x xs H Q->
  wpAny (model X.prog X.w) X.A (call (.builtin id) (v::us)) (EP X pr σ Q) X.xe s
theorem Vals.one:∀{x:V}{us:List Value},Vals [x] us->∃u,us=[u]/\RelV x u
 |_,_,.cons r .nil=>⟨_,rfl,r⟩
section
variable{X:Cx}{pr:List (Addr×Obj)}{σ:St}{H:Hp}{s:Shared}{l b:Addr}{xs ys zs:List V}
theorem Inv.lset{wZ its':List Value}{n:Nat}{f:Array Value->Array Value}{t':Nat}(I:Inv X pr σ H s)(hH:H l=some (.lst xs))
  (e:s.heap.get? l=some {cls:=.type "list",data:=.seq wZ.toArray n}) (hf:f wZ.toArray=its'.toArray) (hv:Vals ys its') (hz:ys.length<=sizeLine):
  Inv X pr σ (upd H l (.lst ys)) {s with heap:=s.heap.update l (Obj.mapSeq f),toks:=t'}:=by
 have q:=PySem.IsL.update e f;rw[hf]at q;refine I.write (x:=l) (e:=l) (by rw[hH];exact trivial) (.inl rfl) (fun b' u hb hu=>(Heap.get?_update_other s.heap (Obj.mapSeq f) (Ig hb)).trans hu) ⟨_,q⟩ ?_;exact⟨hz,its',_,hv,q⟩
theorem Inv.lnew{wZ:List Value}{t':Nat}(I:Inv X pr σ H s)(hv:Vals ys wZ)(hz:ys.length<=sizeLine):
  Inv X pr σ (upd H s.heap.objs.size (.lst ys)) {s with heap:=s.heap.push {cls:=.type "list",data:=.seq wZ.toArray},toks:=t'}:=
 I.laid (fun _ _ q=>FA _ q) (Fw _) ⟨hz,wZ,0,hv,FV _ rfl⟩
theorem Inv.fresh(I:Inv X pr σ H s):H s.heap.objs.size=none:=I.hok.fresh (Fw _)
theorem Inv.lstM(I:Inv X pr σ H s)(hH:H l=some (.lst xs)):xs.length<=sizeLine/\∃(wZ:List Value) (n:Nat),Vals xs wZ/\xs.length=wZ.length/\s.heap.get? l=some {cls:=.type "list",data:=.seq wZ.toArray n}:=by
 obtain⟨z,wZ,n,r,e⟩:=I.hok l _ hH;exact⟨z,wZ,n,r,r.length,e⟩
end
section
variable{X:Cx}
def nQ:V->List V->Hp->VK->Prop:=fun x vs H Q=>∃l xs y,x=.ref l/\vs=[y]/\H l=some (.lst xs)/\xs.length<sizeLine/\Q .non (upd H l (.lst (xs++[y])))
theorem gU:MtM X "list.append" nQ:=by
 intro pr s σ H x vs v us Q I rx rv h;obtain⟨l,xs,y,rfl,rfl,hH,hz,q⟩:=h;cases rx;obtain⟨u,rfl,ru⟩:=rv.one;obtain⟨z,wZ,n,r,hl,e⟩:=I.lstM hH;refine call_meets F.slot_list_append ⟨_,e,rfl⟩ F.entry_list_append (F.args_list_append_2 _ _) (PySem.list_append l wZ.toArray n u (by rw[Fp];lia)) ⟨e,?_⟩;refine⟨.non,_,I.lset (its':=wZ++[u]) hH e (by simp) (r.append (.cons ru .nil)) ?_,rfl,q⟩;rw[FU,GL];lia
theorem j8{α:Type}(xs:List α)(k:Nat):(List.replicate k xs).flatten.length=k*xs.length:=by
 induction k with
 |zero=>simp
 |succ k ih=>rw[List.replicate_succ,GR,FU,ih,Nat.succ_mul,Nat.add_comm]
end
section
variable{prog:Program}{w:World}{A:Around}{E:Value->Shared->Prop}{s:Shared}
end
section
variable{X:Cx}
end
end L2
namespace Att
open PySem PySem.W PySem.Calls PyProof.Rows
theorem eJ{P:Params}{h:Heap}:∀(ns:List Int) (vs:List Value),WellAll P h vs (ns.map WData.int)->IntsAre vs ns:=by
 intro ns;induction ns with
 |nil=>
  intro vs w;rw[List.map_nil]at w;cases w;exact .nil
 |cons n ns ih=>
  intro vs w;rw[F5]at w;cases w with
  |cons a b=>
   cases a;exact .cons _ _ (ih _ b)
theorem j9{l:OpenLaw}{n:Nat}(hn:l.most=some n){P:Params}{h:Heap}{args:List WData}{vals:List Value}
  (AS:l.row.toRowW.claim.pre args=true) (Ed:WellAll P h vals args):
  ∃a vs ns,vals=[Value.ref a]/\args=[WData.list (ns.map WData.int)]/\h.get? a=some {cls:=.type "list",data:=.seq vs.toArray}/\IntsAre vs ns/\ns.length<=n:=by
 have hsh:WShape.hasAll [] args [.list .int]=true:=(pre_splitW AS).1;have hc:l.pre.holds [] {args:=args}=true:=(pre_splitW AS).2;obtain⟨d,r,rfl,h1,h2⟩:=hasAllW_cons hsh;obtain rfl:=hasAllW_nil h2;obtain⟨xs,rfl,h3⟩:=hasW_list h1;obtain⟨ns,rfl⟩:=items_int h3;have hlen:ns.length<=n:=by
  unfold OpenLaw.pre at hc;have h4:(WTm.not (.lt (.lit (.int (n:Int))) (.len (.arg 0)))).holds [] {args:=[.list (ns.map .int)]}=true:=by
   have h4:=(holds_andW hc).1;rw[hn]at h4;exact h4
  have h5:=condW_of h4 (w_not (w_lt w_lit (w_len_list (w_arg rfl))));rw[FN]at h5;refine Hg fun q=>?_
  have q':(n:Int)<((ns.length:Nat):Int):=by lia
  first
   |(rw[F7 q']at h5;exact absurd h5 (by decide))
   |(simp at h5;lia)
 cases Ed with
 |cons w1 w2=>
  cases w2;cases w1 with
  |list ho zT=>exact⟨_,_,ns,rfl,rfl,ho,eJ ns _ zT,hlen⟩
theorem ka(l:OpenLaw)(args:List WData):l.row.toRowW.claim.post args (.bool true) args=true:=
 postW_of (r:=l.row.toRowW) (X:=(true==true))
  (show WShape.has [] (.bool true) .bool=true by first|rfl|decide|simp[WShape.has,WShape.arms,WShape.armsAll])
  (show(WTm.eq .res (.lit (.bool true))).value [] {args:=args,res:=some (.bool true),after:=args}=some (.bool (true==true)) from w_eq_bool (w_res rfl) w_lit) rfl
theorem attach_call{l:OpenLaw}{n:Nat}{q:Program}{loose:List Str}{XP:(Str->Option Value)->Heap->Prop}{YP:World->Heap->Prop}{d:DefRec}
  (hn:l.most=some n) (CS:d.params.defaults=[])
  (call:∀(w:World) (s₀ s₁:Shared) (mg mb:Str->Option Value) (fa:Addr) (o:Obj) (pm cd doc:Value) (a:Addr) (vs:List Value) (ns:List Int),
   Ground q loose [] XP w s₀ mg mb s₁.heap->YP w s₁.heap->
   s₁.heap.get? fa=some o->o.data=.func (docDef d.name d.params d.body d.scope pm cd doc)->s₁.heap.CodeRec cd d.name->mg d.name=some (.ref fa)->
   s₁.heap.get? a=some {cls:=.type "list",data:=.seq vs.toArray}->IntsAre vs ns->ns.length<=n->s₁.gens = #[]->
   codeAny (model l.prog w) callerA (.call (.ref fa) ⟨[.ref a],[]⟩) (fun r s'=>r=.ok (.ret (.bool true))/\OldK s₁.heap s'.heap/\s'.os=s₁.os/\AllBare s'.gens) s₁):
  WalkO q loose XP YP l.row.toRowW d [] (fun f vs=>PySem.call f vs):=by
 intro w s₀ s₁ mg mb G Y fa o pm cd doc dV kV ho hd zP hD CT hg args vals as AS hlay hrd Ed ES;obtain rfl:dV=.none:=Dflts.none hD CS;obtain rfl:kV=.none:=Dflts.noKw hD;obtain⟨a,vs,ns,rfl,rfl,BF,hints,hlen⟩:=j9 hn AS Ed;refine enter_call (Hr (call w s₀ s₁ mg mb fa o pm cd doc a vs ns G Y ho (fd_plain hd) zP CT BF hints hlen hg) fun r s' hq=>?_);obtain⟨rfl,h2,h3,h4⟩:=hq;exact⟨.inl ⟨.bool true,.bool true,[],rfl,fun _=>rfl,.bool true,ka l _,fun _=>⟨List.Pairwise.nil,fun _ hm=>(nomatch hm)⟩⟩,h2,h3,h4⟩
section
variable{prog:Program}{w:World}{A:Around}{E:Value->Shared->Prop}{s:Shared}{K:Frag}
end
end Att
namespace L2
open PySem PySem.Spec PyProof.Rows
theorem gW:∀{vs:List Value}{ns:List Int},IntsAre vs ns->Vals (ns.map V.int) vs
 |_,_,.nil=>.nil
 |_,_,.cons n t h=>.cons ⟨t,rfl⟩ (gW h)
def tG(H:Hp):Prop:=∀b,H b=none\/∃o xs,H b=some (.frz o (.lst xs))
theorem lN{P:Program}{w:World}{K:W.Frag}{mg mb:Str->Option Value}{CX:Ae}{k:Nat}{fa a:Addr}{fd:FuncData}{x:Str}{sp:Sp}{s₁:Shared}{vs:List Value}{ns:List Int}
  (KX:K.In s₁.heap) (ET:s₁.heap.Ns mainGlobals mg) (hb:s₁.heap.Ns builtinsNs mb) (hbb:∀x:Str,x≠"__name__"->mb x=bootBuiltins x) (hlim:s₁.heap.NoLimit) (hg:s₁.gens = #[])
  (ha:s₁.heap.get? a=some {cls:=.type "list",data:=.seq vs.toArray}) (hi:IntsAre vs ns) (hl:ns.length<=sizeLine) (hr:Room k callerA)
  (F:∀base:Heap,K.In base->base.Ns mainGlobals mg->FnOk P w K mg base CX k fa fd [x] sp) (CU:∀(s:Shared) (u:Value),BindsTo s fd ⟨[u],[]⟩ [(x,u)])
  (AK:∀H:Hp,tG H->SqL K H a (ns.map V.int)->sp [.ref a] H (fun v _=>v=.bl true) fun _ _ _=>False)
  (Ee:∀H e s',CX [] H s₁ (fun _ _ _=>False) e s'->False):
  codeAny (model P w) callerA (.call (.ref fa) ⟨[.ref a],[]⟩) (fun r s'=>r=.ok (.ret (.bool true))/\OldK s₁.heap s'.heap/\s'.os=s₁.os/\AllBare s'.gens) s₁:=by
 have rv:=gW hi;have lenV:=hi.length;have core:∀H:Hp,tG H->SqL K H a (ns.map V.int)->HOk P w H s₁.heap->(∀b,H b≠none->b=a)->(H a≠none->K.lookup a=none)->
   codeAny (model P w) callerA (.call (.ref fa) ⟨[.ref a],[]⟩) (fun r s'=>r=.ok (.ret (.bool true))/\OldK s₁.heap s'.heap/\s'.os=s₁.os/\AllBare s'.gens) s₁:=by
  intro H hO hS hok hA hK;have Aa:∀{b:Addr}{o:Obj},s₁.heap.get? b=some o->H b=none->(lA s₁.heap H).get? b=some o:=fun e n=>lB e n
  have CM:∀{b:Addr}{o:Obj}{es:Array DictEntry}{ep:Nat},s₁.heap.get? b=some o->o.data=.dict es ep->H b=none:=fun{b o es ep} e d=>by
   cases q:H b with
   |none=>rfl
   |some u=>
    have e':b=a:=hA b (by rw[q];simp);subst e';rw[ha]at e;cases e;have d':Data.seq vs.toArray _=Data.dict es ep:=d;cases d'
  have DL:∀{b:Addr}{m:Str->Option Value},s₁.heap.Ns b m->(lA s₁.heap H).Ns b m:=fun{b m} ⟨o,es,ep,e,d,r⟩=>⟨o,es,ep,Aa e (CM e d),d,r⟩
  have EU:K.In (lA s₁.heap H):=fun b o e=>Aa (KX b o e) (by
   cases q:H b with
   |none=>rfl
   |some u=>
    have e':b=a:=hA b (by rw[q];simp);subst e';rw[hK (by rw[q];simp)]at e;cases e)
  have hM:Mod K mg (lA s₁.heap H):=⟨EU,DL ET,⟨mb,DL hb,hbb⟩,let⟨mc,h1,h2⟩:=hlim;⟨mc,DL h1,h2⟩⟩
  have e0:Env0 P w K mg (lA s₁.heap H) callerA [] s₁ H:=⟨rfl,hM,fun b o e=>nr e,Nat.le_of_eq (jQ _ _),trivial,fun b hb=>absurd (show b∈([]:List Addr) from hb) (by simp),hok,.of_eq hg⟩
  refine Hr ((F _ EU (DL ET)).run callerA [] s₁ H ⟨[.ref a],[]⟩ [.ref a] [.ref a] _ _ hr e0 (CU s₁ (.ref a)) (.cons rfl .nil) (AK H hO hS)) fun r s' h=>?_
  cases r with
  |error e=>exact(Ee H e s' h).elim
  |ok fl=>
   cases fl with
   |next=>exact False.elim h
   |brk=>exact False.elim h
   |cont=>exact False.elim h
   |ret u=>
    obtain⟨v,H',os,bare,un,hok',r',q⟩:=h;have q':v=.bl true:=q;subst q';obtain rfl:u=Value.bool true:=r';refine⟨rfl,OldK.of_keep fun b o e=>?_,os,bare⟩;cases q:H b with
    |none=>exact un.keep b o e q (by intro z;exact absurd (show b∈([]:List Addr) from z) (by simp)) (by simp)
    |some u=>
     rcases hO b with z|⟨ob,xs,z⟩
     ·rw[q]at z;cases z
     ·have z2:=un.frzs b ob _ z;obtain⟨e1,_⟩:=hok b _ z;obtain⟨e2,_⟩:=hok' b _ z2;rw[e]at e1;cases e1;exact e2
 cases hk:K.lookup a with
 |some o=>
  have e:=KX a o hk;rw[ha]at e;cases e;refine core (fun _=>none) (fun _=>.inl rfl) (.inr ⟨_,vs.toArray,_,hk,rfl,rfl,rfl,by rw[Fp,lenV];exact hl,by simpa using rv⟩) (fun b u z=>by have z':(none:Option HO)=some u:=z;cases z') (fun b z=>absurd rfl z) fun z=>absurd rfl z
 |none=>
  refine core (fun b=>if b=a then some (.frz {cls:=.type "list",data:=.seq vs.toArray} (.lst (ns.map V.int))) else none) (fun b=>?_) (.inl (.inr ⟨{cls:=.type "list",data:=.seq vs.toArray},FY rfl⟩)) (fun b u z=>?_) (fun b z=>?_) fun _=>hk
  ·by_cases hb:b=a
   ·exact .inr ⟨_,_,FY hb⟩
   ·exact .inl (F3 hb)
  ·by_cases hb:b=a
   ·have z':=(FY hb).symm.trans z;cases z';subst hb;exact⟨ha,by rw[FN];exact hl,vs,_,rv,ha⟩
   ·have z':=(F3 hb).symm.trans z;cases z'
  ·by_cases hb:b=a
   ·exact hb
   ·exact absurd (F3 hb) z
theorem nR{l:PySem.W.OpenLaw}{n k:Nat}{q:Program}{loose:List Str}{XP:(Str->Option Value)->Heap->Prop}{YP:World->Heap->Prop}{d:DefRec}{K:Params->W.Frag}{CX:World->Ae}{sp:World->Sp}{x:Str}
  (hn:l.most=some n) (hn2:n<=sizeLine) (CS:d.params.defaults=[]) (hr:Room k callerA)
  (hY:∀(w:World) (h:Heap),YP w h->(K w.params).In h)
  (F:∀(w:World) (mg:Str->Option Value) (fa:Addr) (h:Heap),(K w.params).In h->h.Ns mainGlobals mg->mg d.name=some (.ref fa)->
   ∃fd:FuncData,(∀(s:Shared) (u:Value),BindsTo s fd ⟨[u],[]⟩ [(x,u)])/\
    ∀base:Heap,(K w.params).In base->base.Ns mainGlobals mg->FnOk l.prog w (K w.params) mg base (CX w) k fa fd [x] (sp w))
  (AK:∀(w:World) (H:Hp) (a:Addr) (ns:List Int),ns.length<=n->tG H->SqL (K w.params) H a (ns.map V.int)->sp w [.ref a] H (fun v _=>v=.bl true) fun _ _ _=>False)
  (Ee:∀(w:World) (H:Hp) (s:Shared) (e:Value) (s':Shared),CX w [] H s (fun _ _ _=>False) e s'->False):
  PySem.W.WalkO q loose XP YP l.row.toRowW d [] (fun f vs=>PySem.call f vs):=by
 refine Att.attach_call hn CS fun w s₀ s₁ mg mb fa o pm cd doc a vs ns G Y ho hd zP CT BF hints hlen hg=>?_
 have KX:=hY w _ Y;obtain⟨fd,hb,hF⟩:=F w mg fa _ KX G.T.g CT;exact lN KX G.T.g G.T.b G.T.builtins G.T.nolimit hg BF hints (Ge hlen hn2) hr hF hb (fun H hO hS=>AK w H a ns hlen hO hS) fun H e s'=>Ee w H s₁ e s'
def b8(s:Stmt):Arguments:=match s with
 | .FunctionDef _ a _ _ _ _ _ _ _ _=>a
 |_=>{posonlyargs:=[],args:=[],vararg:=none,kwonlyargs:=[],kw_defaults:=[],kwarg:=none,defaults:=[]}
def bj(s:Stmt):List Stmt:=match s with
 | .FunctionDef _ _ b _ _ _ _ _ _ _=>b
 |_=>[]
def defScope(s:Stmt):Scope:=match s with
 | .FunctionDef _ _ _ _ _ _ sc _ _ _=>sc
 |_=>{kind:=.function,names:=[],isGenerator:=false,isCoroutine:=false}
abbrev Ai:Ae:=fun _ _ _ _ _ _=>False
abbrev E0:XK:=fun _ _ _=>False
theorem tH{X:Cx}:jZ Ai X E0:=fun _ _ _ _ _ _ _ h=>h.elim
structure Fun(K:W.Frag)(x qual:Str)(st:Stmt)(f:Addr)(fd:FuncData):Prop where
 ex:∃(oc:Value) (od:Option Addr) (kV doc pm:Value) (an:Option Addr) (xr ct:Value) (Al:Array (Option Value)),
  fd=PySem.W.fnOf x qual (b8 st) (bj st) (defScope st) .none kV doc pm an xr ct/\K.lookup f=some ⟨oc,od,.func fd,Al⟩/\PySem.W.codeIn K xr qual=true
 kp:PySem.W.keepIn K (.ref f)=true
section
variable{P:Program}{w:World}{K:W.Frag}{mg:Str->Option Value}{base:Heap}
theorem Fun.ok{x qual:Str}{st:Stmt}{f:Addr}{fd:FuncData}{N ps:List Str}{k:Nat}{sp:Sp}(F:Fun K x qual st f fd)(S:FnScope N ps (defScope st))(len:∀vs H Q E,sp vs H Q E->vs.length=ps.length)
  (zR:∀(xr:Value) (A:Around) (outer:List Env) (s:Shared) (H:Hp) (vs:List V) (Q:VK) (E:XK),Room k (A.deeper (envOfC qual (defScope st) s.heap.objs.size f xr))->sp vs H Q E->
   ∃t,PSs (iR Ai P w K mg base N qual (defScope st) f xr A outer s H E).nox (bj st) t/\t {nx:=fun _ H'=>Q .non H',rt:=Q} (dQ N vs) H):FnOk P w K mg base Ai (k+1) f fd ps sp:=by
 obtain⟨oc,od,kV,doc,pm,an,xr,ct,Al,rfl,lk,zP⟩:=F.ex;refine qa lk zP S len fun A outer s H vs Q E hr AK=>?_
 obtain⟨t,h,q⟩:=zR xr A outer s H vs Q E hr AK;exact⟨t,h.nox,q⟩
theorem Fun.binds{x qual:Str}{st:Stmt}{f:Addr}{fd:FuncData}{ps:List Str}(F:Fun K x qual st f fd)
  (h:∀(kV doc pm:Value) (an:Option Addr) (xr ct:Value) (us:List Value),us.length=ps.length->bindArgs (PySem.W.fnOf x qual (b8 st) (bj st) (defScope st) .none kV doc pm an xr ct) ⟨us,[]⟩=pure (ps.zip us)):Binds K fd ps []:=by
 obtain⟨oc,od,kV,doc,pm,an,xr,ct,Al,rfl,lk,zP⟩:=F.ex;exact .all (h kV doc pm an xr ct)
theorem mU{x qual:Str}{st:Stmt}{f:Addr}{oc:Value}{od an:Option Addr}{Al:Array (Option Value)}{kV doc pm xr ct:Value}(l:K.lookup f=some ⟨oc,od,.func (PySem.W.fnOf x qual (b8 st) (bj st) (defScope st) .none kV doc pm an xr ct),Al⟩)
  (c:PySem.W.codeIn K xr qual=true) (k:PySem.W.keepIn K (.ref f)=true):Fun K x qual st f (PySem.W.fnOf x qual (b8 st) (bj st) (defScope st) .none kV doc pm an xr ct):=⟨⟨oc,od,kV,doc,pm,an,xr,ct,Al,rfl,l,c⟩,k⟩
end
section
variable{X:Cx}
theorem pv(i:Nat){x:Str}{pos:Pos}(hN:X.N[i]?=some x:=by rfl)(hv:D0 X.env.scope x:=by first|exact Or.inl rfl|exact Or.inr (Or.inl rfl)|exact Or.inr (Or.inr rfl))(hd:(x==("__debug__" : Str))=false:=by decide)
  (zP:(x==("__classdict__" : Str))=false:=by decide):PE X (.Name x pos) (jL i):=mJ hN hv hd zP
end
theorem iteF{A B:Prop}(h:B):if false=true then A else B:=by
 rw[F3 FR];exact h
theorem sD{A B:Prop}(h:A):if true=true then A else B:=by
 rw[FY rfl];exact h
def Same(H H':Hp):Prop:=∀b o,H b=some o->H' b=some o
theorem Same.refl(H:Hp):Same H H:=fun _ _ h=>h
theorem Same.trans{H H1 H2:Hp}(a:Same H H1)(b:Same H1 H2):Same H H2:=fun c o h=>b c o (a c o h)
end L2
set_option maxHeartbeats 4000000
namespace NX
open PySem PySem.Spec PyProof.Rows L2
section
variable{X:Cx}
theorem kc:xW X (compareOp .LtE) (fun x y H Q=>∃i j,x=.str i/\y=.str j/\Q (.bl (!decide (j.cps.toList<i.cps.toList))) H):=by
 intro pr s σ H x y v u Q I rx ry h;obtain⟨i,j,rfl,rfl,q⟩:=h;obtain⟨t,rfl⟩:=rx;obtain⟨t',rfl⟩:=ry;exact PySem.P.le_str (mQ I q rfl)
theorem lO(v:Int)(n:Nat):max (0:Int) (min (if v<0 then v+(n:Int) else v) (n:Int))=((HT.sIx n 0 (some v):Nat):Int):=by
 show _=(((if v<0 then(v+(n:Int)).toNat else min v.toNat n):Nat):Int)
 split <;> lia
theorem qh(a b:Nat):sliceRange (a:Int) (b:Int) 1=(List.range (b-a)).map (fun k=>a+k):=by
 unfold sliceRange;rw[FY (by decide:(1:Int)>0)];by_cases yy:(a:Int)<b
 ·have e3:(((b:Int)-a+1-1) / 1).toNat=b-a:=by first|lia|(simp;done)|(simp;lia)
  simp only[yy,Hv,e3];refine List.map_congr_left fun k _=>?_
  lia
 ·have:b-a=0:=by lia
  simp[yy,this]
theorem vI(lo hi:Option Int)(n:Nat):Builtin.Str.strSliceIndices lo hi 1 n=(List.range (HT.sIx n n hi-HT.sIx n 0 lo)).map (fun k=>HT.sIx n 0 lo+k):=by
 rw[<-qh];unfold Builtin.Str.strSliceIndices;simp only[show(1:Int)>0 from by decide,Hv];cases lo with
 |none=>
  cases hi with
  |none=>rfl
  |some v=>exact G0 (fun z=>sliceRange 0 z 1) (lO v n)
 |some u=>
  cases hi with
  |none=>exact G0 (fun z=>sliceRange z (n:Int) 1) (lO u n)
  |some v=>exact(G0 (fun z=>sliceRange z _ 1) (lO u n)).trans (G0 (fun z=>sliceRange _ z 1) (lO v n))
def qi(xs:List Nat)(lo hi:Option Int):List Nat:=(xs.drop (HT.sIx xs.length 0 lo)).take (HT.sIx xs.length xs.length hi-HT.sIx xs.length 0 lo)
theorem mV{α:Type}(l:List α):∀(n a:Nat),a+n<=l.length->((List.range n).map (fun k=>a+k)).filterMap (l[·]?)=(l.drop a).take n
 | 0,_,_=>by simp
 |n+1,a,h=>by
  have yy:a+n<l.length:=by lia
  rw[List.range_succ,Hb,List.filterMap_append,mV l n a (by lia),List.take_add_one,List.getElem?_drop];simp[Fq yy]
theorem ke(x:Str)(lo hi:Option Int):(Txt.slice x lo hi).cps.toList=qi x.cps.toList lo hi:=by
 have hl:x.cps.toList.length=x.length:=Gd;have ha:=HT.j5 x.length 0 (GD _) lo;have hb:=HT.j5 x.length x.length (Fw _) hi;unfold Txt.slice qi;rw[vI,hl];split
 ·rename_i h;have h2:HT.sIx x.length x.length hi-HT.sIx x.length 0 lo=x.length:=by simpa using h
  have ez:HT.sIx x.length 0 lo=0\/x.length=0:=by lia
  rcases ez with e|e
  ·rw[h2,e,Ic,Gu (by lia)]
  ·have:x.cps.toList=[]:=GF (by lia);rw[this];simp
 ·have hk:∀(f:List Nat),f.filterMap (x.cps[·]?)=f.filterMap (x.cps.toList[·]?):=fun f=>by
   congr 1
   funext i
   simp
  show(List.filterMap _ _).toArray.toList=_;rw[List.toList_toArray,hk];by_cases hle:HT.sIx x.length 0 lo<=HT.sIx x.length x.length hi
  ·rw[mV _ _ _ (by lia)]
  ·have e0:HT.sIx x.length x.length hi-HT.sIx x.length 0 lo=0:=by lia
   rw[e0];rfl
abbrev S(l:List Nat):Str:=⟨l.toArray⟩
theorem jy(x:Str):S x.cps.toList=x:=by cases x;simp[S]
theorem nS{a b:List Nat}(h:S a=S b):a=b:=by
 have:=G0 (fun z:Str=>z.cps.toList) h;simpa[S] using this
theorem di(l:List Nat):(S l).length=l.length:=by simp[S,Str.length]
theorem cM(l:List Nat):(S l).cps.toList=l:=by simp[S]
theorem qj(a b:List Nat):S a++S b=S (a++b):=by
 rw[<-jy (S a++S b),PySem.W.KT.app_list,cM,cM]
def vJ:V->Option Int->Option Int->Hp->VK->Prop:=fun x lo hi H Q=>∃l,x=.str (S l)/\l.length<=sizeLine/\Q (.str (S (qi l lo hi))) H
theorem qk:BC X vJ:=by
 intro pr s σ H x v vl vu lo hi sl Q I rx hs pl pu h;obtain⟨l,rfl,hz,q⟩:=h;obtain⟨t,rfl⟩:=rx;have hz':(S l).length<=sizeLine:=by rw[di];exact hz
 have e:∀t' k,EP X pr σ Q (.str (Txt.slice (S l) lo hi) t') {s with toks:=k}:=fun t' k=>by
  refine⟨.str (S (qi l lo hi)),H,I.tok _,⟨t',?_⟩,q⟩;have e1:=ke (S l) lo hi;rw[cM]at e1;rw[<-e1,jy]
 refine⟨"str",_,PySem.F.slot_str_getitem.lookup,typeIs_str _ _ _,?_⟩;have key:∀(DM DN:Option (Int×Tok)),partValue DM=vl->partValue DN=vu->DM.map (·.1)=lo->DN.map (·.1)=hi->
   wpAny (model X.prog X.w) X.A (getItem (.str (S l) t) (.ref sl)) (EP X pr σ Q) X.xe s:=by
  rintro DM DN rfl rfl rfl rfl;exact wpAny_getItem_str_slice (l:=DM) (u:=DN) (st:=none) hs rfl (post_val_or_str ⟨Ge (Txt.slice_le (S l) _ _) hz',fun t' k=>e t' k⟩)
 cases pl with
 |none=>
  cases pu with
  |none=>exact key none none rfl rfl rfl rfl
  |int j uj=>exact key none (some (j,uj)) rfl rfl rfl rfl
 |int i ui=>
  cases pu with
  |none=>exact key (some (i,ui)) none rfl rfl rfl rfl
  |int j uj=>exact key (some (i,ui)) (some (j,uj)) rfl rfl rfl rfl
end
def Def(K:W.Frag)(mg:Str->Option Value)(x:Str)(st:Stmt):Prop:=∃f fd,Fun K x x st f fd/\mg x=some (.ref f)
def Ct(P:Program)(w:World)(K:W.Frag)(mg:Str->Option Value)(base:Heap)(x:Str)(k:Nat)(sp:Sp):Prop:=
 ∃f fd ps,FnOk P w K mg base Ai k f fd ps sp/\mg x=some (.ref f)/\PySem.W.keepIn K (.ref f)=true/\Binds K fd ps []
section
variable{X:Cx}{e:Expr}{es:List Expr}{t:TA}{x:Str}{p pos:Pos}{k:Nat}{sp:Sp}
theorem ql(C:Ct X.prog X.w X.K X.mg X.base x k sp)(hr:Room k X.A)(hg:Gl X x)(ha:PA X (e::es) t)(xX:(x==("__debug__" : Str))=false:=by decide)
  (he:starEach (e::es) X.env=(false,eval e X.env)::starEach es X.env:=by rfl) (xZ:(backTo pos (starEach es X.env)).any (·.1)=false:=by rfl):
  PE X (.Call (.Name x p) (e::es) [] pos) (tCall sp [] E0 t):=by
 obtain⟨f,fd,ps,G,m,kp,b⟩:=C;exact nH G hr hg m kp b .nil tH ha xX he xZ
def Gi(mg:Str->Option Value)(x:Str)(n:Int):Prop:=∃t,mg x=some (.int n t)
theorem tI{n:Int}(h:Gi X.mg x n)(hg:Gl X x)(hd:(x==("__debug__" : Str))=false:=by decide):PE X (.Name x p) (tC (.int n)):=by
 obtain⟨t,m⟩:=h;exact iv hg m ⟨t,rfl⟩ hd
end
theorem bt_len:bootBuiltins "len" = some (.builtin "len"):=by decide +kernel
theorem cC:bootBuiltins "isinstance" = some (.builtin "isinstance"):=by decide +kernel
theorem iU:bootBuiltins "str" = some (.type "str"):=by decide +kernel
theorem line_eq:sizeLine=16777216:=Ih
theorem lt1(c d:Nat):([c]<[d])<->c<d:=by
 rw[List.cons_lt_cons_iff];simp
theorem flat_strs(a:List (List Nat)):(a.map fun l=>V.str (S l)).all lM=true:=by
 rw[GW];intro v hv;obtain⟨l,_,rfl⟩:=List.mem_map.mp hv;rfl
section
variable{X:Cx}{e:Expr}{st:Stmt}
end
def clOf(scope:Scope)(env:Env):List (Str×Addr):=scope.names.foldl (fun cs y=>if y.2==NameKind.free then(y.1,(env.cells.lookup y.1).getD 0)::cs else cs) []
def eK(scope:Scope)(env:Env):Bool:=scope.names.all fun y=>y.2 != NameKind.free||env.kindOf y.1==some .cell||env.kindOf y.1==some .free
theorem dS(env:Env):∀(l:List (Str×NameKind)) (cs:List (Str×Addr)),(∀y∈l,y.2=.free->∃c,env.cells.lookup y.1=some c)->
  (forIn l cs fun(y:Str×NameKind) (r:List (Str×Addr))=>(do
   if y.2==NameKind.free then
    let a <-cellOf env y.1
    pure (ForInStep.yield ((y.1,a)::r))
   else pure (ForInStep.yield r):Sem (ForInStep (List (Str×Addr)))))=pure (l.foldl (fun cs y=>if y.2==NameKind.free then(y.1,(env.cells.lookup y.1).getD 0)::cs else cs) cs)
 |[],cs,_=>by simp
 |y::l,cs,h=>by
  rw[List.forIn_cons,Hl];by_cases k:y.2=.free
  ·obtain⟨c,e⟩:=h y Fm k;have e2:cellOf env y.1=pure c:=by unfold cellOf;rw[e]
   simp only[k,Gn,Hv,e2,e,Option.getD_some,pure_bind];exact dS env l _ fun z hz=>h z (Ft _ hz)
  ·have kb:(y.2==NameKind.free)=false:=by simpa using k
   simp only[kb,Iu,JM,pure_bind];exact dS env l _ fun z hz=>h z (Ft _ hz)
theorem c6(env:Env)(x:Str)(c:Addr):∀(l:List (Str×NameKind)) (cs:List (Str×Addr)),(∀y∈l,y.2=.free->∃c,env.cells.lookup y.1=some c)->(cs.lookup x=some c->env.cells.lookup x=some c)->
  (l.foldl (fun cs y=>if y.2==NameKind.free then(y.1,(env.cells.lookup y.1).getD 0)::cs else cs) cs).lookup x=some c->env.cells.lookup x=some c
 |[],_,_,h,e=>h e
 |y::l,cs,hf,h,e=>by
  rw[Hl]at e;refine c6 env x c l _ (fun z hz=>hf z (Ft _ hz)) (fun q=>?_) e;split at q
  ·rename_i k;have k:y.2=.free:=by simpa using k
   obtain⟨d,ed⟩:=hf y Fm k;rw[Ga]at q;cases hx:x==y.1 with
   |true=>
    rw[hx]at q;have exy:x=y.1:=by simpa using hx
    rw[ed,Option.getD_some]at q;rw[exy,ed];exact q
   |false=>
    rw[hx]at q;exact h q
  ·exact h q
theorem eL(env:Env)(x:Str):∀(l:List (Str×NameKind)) (cs:List (Str×Addr)),((∃d,cs.lookup x=some d)\/(x,NameKind.free)∈l)->
  ∃d,(l.foldl (fun cs y=>if y.2==NameKind.free then(y.1,(env.cells.lookup y.1).getD 0)::cs else cs) cs).lookup x=some d
 |[],_,h=>by
  rcases h with h|h
  ·exact h
  ·cases h
 |y::l,cs,h=>by
  rw[Hl];refine eL env x l _ ?_;rcases h with⟨d,h⟩|h
  ·refine .inl ?_;split
   ·rw[Ga];cases hx:x==y.1 with
    |true=>exact⟨_,rfl⟩
    |false=>exact⟨d,h⟩
   ·exact⟨d,h⟩
  ·rcases FK.mp h with h|h
   ·refine .inl ?_;rw[<-h];refine⟨(env.cells.lookup x).getD 0,?_⟩;show List.lookup x ((x,_)::cs)=_;rw[Ga,Gn]
   ·exact .inr h
noncomputable def bA(X:Cx)(scope:Scope)(N:List Str)(C:Addr)(s:Shared)(H:Hp)(fp:List Addr)(pn:List (Addr×Obj)):Cx:=
 {X with N:=N,s₀:=s,H₀:=H,env:=compEnvC scope (clOf scope X.env) C X.env,outer:=X.stack,ex:=fp,fn:=fun _=>false,pn:=pn,xe:=fun _ _=>False}
def fK(ix:List (Option Nat))(σ:L2.St):L2.St:=ix.map fun i=>i.bind fun i=>(σ[i]?).bind id
noncomputable def qm(wi:TI)(ix:List (Option Nat))(g:TG)(tc:TT)(te:TE):TE:=fun σ H Q=>wi σ H fun J H1=>∀D,H1 D=none->∃W:Nat->Nat->L2.St->Hp->Prop,(∃m,W 0 m (fK ix σ) (upd H1 D (.lst [])))/\
 ∀i m σ1 H2,W i m σ1 H2->(J.stop i H2/\Q (.ref D) H2)\/(J.go i H2/\∀x H3,J.yld i H2 x H3->g x σ1 H3 fun σ2 H4=>tc σ2 H4 fun b H5=>if b=true then te σ2 H5 fun v H6=>
  ∃ys,H6 D=some (.lst ys)/\ys.length<sizeLine/\∃m',m'<m/\W (i+1) m' σ2 (upd H6 D (.lst (ys++[v]))) else ∃m',m'<m/\W (i+1) m' σ2 H5)
abbrev AU:Value->Shared->Prop:=fun _ _=>False
theorem Cs{α:Type}{M:Model}{A:Around}{t:Sem α}{Q Q':α->Shared->Prop}{E:Value->Shared->Prop}{s:Shared}(h:wpAny M A t Q AU s)(k:∀a s,Q a s->Q' a s):wpAny M A t Q' E s:=FW h k fun _ _ z=>z.elim
theorem kg{prog:Program}{w:World}{A:Around}{R:Result->Shared->Prop}{s:Shared}{elt target iter:Expr}{ifs:List Expr}{scope:Scope}{pos:Pos}{it acc:Value}{env:Env}(I:Nat->Shared->Prop)
  (turn:∀n s,I n s->wpAny (model prog w) A (pyNext it) (fun r s₁=>match r with
   |none=>R (.ok .next) s₁
   |some v=>wpAny (model prog w) A (letOwnedTupleGo target it v) (fun _ s₂=>wpAny (model prog w) A (assign target env v) (fun _ s₃=>
     wpAny (model prog w) A (forIn ifs true fun c r=>if r=true then do let ok <-isTrue c env (eval c env);pure (ForInStep.yield ok) else pure (ForInStep.yield r)) (fun ok s₄=>
      if ok=true then wpAny (model prog w) A (eval elt env) (fun x s₅=>
       wpAny (model prog w) A (call (.builtin "list.append") [acc,x]) (fun _ s₆=>∃m,m<n/\I m s₆) AU s₅) AU s₄
      else ∃m,m<n/\I m s₄) AU s₃) AU s₂) AU s₁) AU s)
  (n:Nat) (h:I n s):codeAny (model prog w) A (.compLoop (.ListComp elt [⟨target,iter,ifs,0⟩] scope pos) 0 it acc env) R s:=by
 refine codeAny_loop rfl I (fun n s hI=>?_) n h;show wpAny _ A ((compTurn (.ListComp elt [⟨target,iter,ifs,0⟩] scope pos) 0 it acc env).onRaise (fun x=>do noteFrame x env;theTreesLotGoes x)) _ _ s;refine wpAny_noted ?_;rw[compTurn_list];refine Fs (wpAny_standAt (Fs (Cs (turn n s hI) fun r s₁ h₁=>?_)));cases r with
 |none=>exact FF h₁
 |some v=>
  refine Fs (Cs h₁ fun _ s₂ h₂=>Fs (Cs h₂ fun _ s₃ h₃=>Fs (Cs h₃ fun ok s₄ h₄=>?_)));cases ok with
  |false=>exact FF ⟨rfl,h₄⟩
  |true=>exact Fs (Fs (Cs h₄ fun x s₅ h₅=>Fs (Cs h₅ fun _ s₆ h₆=>FF (FF ⟨rfl,h₆⟩))))
def DO(X:Cx)(ifs:List Expr)(t:TT):Prop:=
 ∀(pr:List (Addr×Obj)) (s:Shared) (σ:L2.St) (H:Hp) (Q:Bool->Hp->Prop),Inv X pr σ H s->t σ H Q->
  wpAny (model X.prog X.w) X.A (forIn ifs true fun c r=>if r=true then do let ok <-isTrue c X.env (eval c X.env);pure (ForInStep.yield ok) else pure (ForInStep.yield r)) (TP X pr σ Q) X.xe s
def vK:TT:=fun _ H Q=>Q true H
theorem nT{X:Cx}:DO X [] vK:=fun _ _ _ H _ I h=>wpAny_tests_nil ⟨H,I,h⟩
def pB(X:Cx)(scope:Scope)(N:List Str)(ix:List (Option Nat)):Bool:=
 N.length==ix.length&&(N.zip ix).all fun y=>match y.2 with
  |none=>true
  |some j=>X.N[j]?==some y.1&&scope.names.lookup y.1==some .free
theorem gX{scope:Scope}{env:Env}{x:Str}(h:scope.names.lookup x=some .free):(relabel scope env).names.lookup x=some .cell\/(relabel scope env).names.lookup x=some .free:=by
 unfold relabel;dsimp only;generalize scope.names=l at h;induction l with
 |nil=>cases h
 |cons y l ih=>
  obtain⟨n,k⟩:=y;rw[Ga]at h;rw[F5];cases hx:x==n with
  |true=>
   rw[hx]at h;have hk:k=.free:=F6 h;subst hk;dsimp only;split
   ·exact .inl (by rw[Ga,hx])
   ·exact .inr (by rw[Ga,hx])
  |false=>
   rw[hx]at h;dsimp only;split
   ·rw[Ga,hx];exact ih h
   ·rw[Ga,hx];exact ih h
theorem gY{scope:Scope}{env:Env}{x:Str}(hc:∀y∈scope.names,y.2≠.cell)(h:(relabel scope env).names.lookup x=some .cell\/(relabel scope env).names.lookup x=some .free):(x,NameKind.free)∈scope.names:=by
 unfold relabel at h;dsimp only at h;generalize scope.names=l at h hc;induction l with
 |nil=>rcases h with h|h <;> cases h
 |cons y l ih=>
  obtain⟨n,k⟩:=y;rw[F5]at h;dsimp only at h;have nk:k≠.cell:=hc (n,k) Fm;have EV:=ih (hc:=fun z hz=>hc z (Ft _ hz));by_cases cnd:(k==NameKind.free&&env.scope.kind==.function&&env.kindOf n==some .cell)=true
  ·rw[FY cnd,Ga]at h;have kf:k=.free:=by
    have:(k==NameKind.free)=true:=by
     simp only[Fx]at cnd;exact cnd.1.1
    simpa using this
   cases hx:x==n with
   |true=>
    have:x=n:=by simpa using hx
    rw[this,kf];exact Fm
   |false=>
    rw[hx]at h;exact Ft _ (EV h)
  ·rw[F3 cnd,Ga]at h;cases hx:x==n with
   |true=>
    rw[hx]at h;have:x=n:=by simpa using hx
    rcases h with h|h
    ·exact absurd (F6 h) nk
    ·rw[this,<-F6 h];exact Fm
   |false=>
    rw[hx]at h;exact Ft _ (EV h)
section
variable{X:Cx}{pr:List (Addr×Obj)}{σ:L2.St}{H:Hp}{s:Shared}{scope:Scope}{N:List Str}{ix:List (Option Nat)}{fp:List Addr}
theorem iV(ok:X.Ok)(hf:eK scope X.env=true):∀y∈scope.names,y.2=.free->∃c,X.env.cells.lookup y.1=some c:=fun y hy k=>by
 have:=GW.mp hf y hy;rw[k]at this;simp only[bne_self_eq_false,Bool.false_or,FZ,Gh]at this;exact ok.has y.1 this
theorem eM(ok:X.Ok)(hf:eK scope X.env=true){x:Str}{c:Addr}(h:(clOf scope X.env).lookup x=some c):X.env.cells.lookup x=some c:=
 c6 X.env x c scope.names [] (iV ok hf) (fun z=>nomatch z) h
theorem kh(ok:X.Ok)(hf:eK scope X.env=true){x:Str}(h:(x,NameKind.free)∈scope.names):∃c,(clOf scope X.env).lookup x=some c/\X.env.cells.lookup x=some c:=by
 obtain⟨c,e⟩:=eL X.env x scope.names [] (.inr h);exact⟨c,e,eM ok hf e⟩
theorem _root_.L2.Inv.block(I:Inv X pr σ H s)(hf:eK scope X.env=true)(hk:scope.kind=.function)(yg:∀y∈scope.names,y.2≠.cell)(Aj:pB X scope N ix=true)(fo:∀b∈fp,ly X pr H b)(fin:∀b∈fp,∃o,s.heap.get? b=some o)
  {h1:Heap}{t1:Nat}{D C:Addr}(hD:D=s.heap.objs.size) (hC:C=s.heap.objs.size+1) (old:∀b o,s.heap.get? b=some o->h1.get? b=some o) {n:Nat}(acc:h1.get? D=some {cls:=.type "list",data:=.seq #[] n})
  {m:Str->Option Value}(ns:h1.Ns C m):Inv (bA X scope N C s H fp (X.pn++pr)) [] (fK ix σ) (upd H D (.lst [])) {s with heap:=h1,toks:=t1}:=by
 have zW:s.heap.objs.size<=C:=by rw[hC];exact Nat.le_succ _
 have freshD:s.heap.objs.size<=D:=by rw[hD];exact Fw _
 have nD:H D=none:=I.hok.fresh freshD;have DC:D≠C:=by rw[hD,hC];exact FL (GH _)
 have BG:∀b,H b=none->b≠D->upd H D (.lst []) b=none:=fun b n z=>by rw[av z];exact n
 have Cu:∀b o,s.heap.get? b=some o->b≠D:=fun b o e=>FL (Fu (Fy e) freshD)
 have AV:∀b o,s.heap.get? b=some o->b≠C:=fun b o e=>FL (Fu (Fy e) zW)
 have cellAt:∀x c,(clOf scope X.env).lookup x=some c->∃v o,s.heap.get? c=some o/\o.data=.cell v:=fun x c e=>by
  obtain⟨v,o,ho,hd⟩:=I.cell x c (eM I.ok hf e);exact⟨v,o,ho,hd⟩
 have okY:(bA X scope N C s H fp (X.pn++pr)).Ok:=by
  refine⟨I.ok.mod,hk,I.ok.glob,I.ok.blt,zW,fun x y c e1 e2=>?_,fun x hx=>?_,fun x c z _=>?_,I.ok.hd,I.ok.frames,.inl rfl,fun b hb=>?_,I.bs,?_,fun b o e hb=>?_,fun b hb hs=>?_,I.stack,I.stkFree⟩
  ·exact I.ok.inj x y c (eM I.ok hf e1) (eM I.ok hf e2)
  ·obtain⟨c,e,_⟩:=kh I.ok hf (gY yg hx);exact⟨c,e⟩
  ·exact absurd (show false=true from z) FR
  ·obtain⟨f0,f1,f2,f3,f4,f5⟩:=fo b hb;refine⟨?_,fun x c e=>f4 x c (eM I.ok hf e)⟩;intro z;have z:b=C:=z;obtain⟨o,ho⟩:=fin b hb;exact AV b o ho z
  ·exact Ge I.ok.bsz I.sz
  ·obtain⟨f0,f1,f2,f3,f4,f5⟩:=fo b hb;rcases f3 with q|q
   ·exact I.ok.noex b o e q
   ·exact absurd (Fu (Fy e) (Ge I.ok.bsz q)) (Gx _)
  ·obtain⟨f0,f1,f2,_⟩:=fo b hb;exact(FK.mp (I.stkSub b hs)).elim f1 f2
 refine⟨okY,rfl,I.bare,Un.laid old freshD nD,⟨m,ns,fun i x v e1 e2 e3=>?_⟩,fun x c e=>?_,?_,fun x c e=>?_,fun p hp=>?_,I.hok.laid old freshD ⟨GD _,[],n,.nil,acc⟩,?_⟩
 ·
  have e2:(ix.map fun i=>i.bind fun i=>(σ[i]?).bind id)[i]?=some (some v):=e2;have e1:N[i]?=some x:=e1;unfold pB at Aj;rw[Fx]at Aj;rw[Gp]at e2;cases q:ix[i]? with
  |none=>rw[q]at e2;cases e2
  |some o=>
   rw[q]at e2;have e2:(o.bind fun i=>(σ[i]?).bind id)=some v:=F6 e2;cases o with
   |none=>cases e2
   |some j=>
    have e2:(σ[j]?).bind id=some v:=e2;have hσ:σ[j]?=some (some v):=by
     cases w':σ[j]? with
     |none=>rw[w']at e2;cases e2
     |some y=>rw[w']at e2;exact G0 some e2
    have hz:(N.zip ix)[i]?=some (x,some j):=by
     rw[List.getElem?_zip_eq_some];exact⟨e1,q⟩
    have hy:=GW.mp Aj.2 _ (HW hz);simp only[Fx,Gh]at hy;have DP:(x,NameKind.free)∈scope.names:=Gr hy.2;obtain⟨c,c1,c2⟩:=kh I.ok hf DP;have zF:X.env.kindOf x=some .cell\/X.env.kindOf x=some .free:=by
     have:=GW.mp hf _ DP;simpa using this
    obtain⟨mo,ER,ES⟩:=I.loc;obtain⟨u,r,l⟩:=ES j x v hy.1 hσ (.inr zF);refine⟨u,r,.inr ⟨gX hy.2,c,c1,?_⟩⟩;rcases l with⟨k1,_⟩|⟨_,c',e',Ad⟩
    ·rcases zF with k2|k2 <;> (rw[k1]at k2;cases k2)
    ·rw[c2]at e';cases e';obtain⟨o,ho,hd⟩:=Ad;exact⟨o,old c o ho,hd⟩
 ·obtain⟨v,o,ho,hd⟩:=cellAt x c e;exact⟨v,o,old c o ho,hd⟩
 ·exact BG C (I.hok.fresh zW) (Ig DC)
 ·obtain⟨v,o,ho,hd⟩:=cellAt x c e;exact BG c (I.freeC x c (eM I.ok hf e)) (Cu c o ho)
 ·have hp:p∈X.pn++pr:=by
   have:p∈(X.pn++pr)++[]:=hp
   rwa [FJ]at this
  obtain⟨e,nn,ne,nf,d⟩:=I.pin p hp;refine⟨old _ _ e,BG _ nn (Cu _ _ e),AV _ _ e,fun z=>?_,d⟩;exact(FK.mp (I.stkSub p.1 z)).elim ne nf
 ·unfold pB at Aj;rw[Fx]at Aj;have:N.length=ix.length:=by simpa using Aj.1
  show(ix.map _).length=N.length;rw[FN,this]
theorem _root_.L2.Inv.unblock{C:Addr}{σ1:L2.St}{H1:Hp}{s1:Shared}{h2:Heap}(I:Inv X pr σ H s)(fo:∀b∈fp,ly X pr H b)(hC:s.heap.objs.size<=C)(J:Inv (bA X scope N C s H fp (X.pn++pr)) [] σ1 H1 s1)(hs:Heap.SameBut C s1.heap h2):
  Inv X pr σ H1 {s1 with heap:=h2}:=by
 have AV:∀b o,s.heap.get? b=some o->b≠C:=fun b o e=>FL (Fu (Fy e) hC)
 have bb:Un (xV X.stack) fp H H1 s.heap s1.heap:=J.base;have jf:H1 C=none:=J.free;refine I.call' (s':={s1 with heap:=h2}) (ch:=fp) J.os ⟨fun b o e n hb hx=>?_,fun b o e n hb hx=>?_,bb.free,fun b o e hx=>?_,bb.tups,bb.frzs,bb.tbls⟩ (fun b ob e=>?_) J.bare fun b hb=>?_
 ·exact(hs.2 b (AV b o e)).trans (bb.keep b o e n hb hx)
 ·obtain⟨sl,q⟩:=bb.slot b o e n hb hx;exact⟨sl,(hs.2 b (AV b o e)).trans q⟩
 ·obtain⟨o',q⟩:=bb.there b o e hx;exact⟨o',(hs.2 b (AV b o e)).trans q⟩
 ·refine(J.hok b ob e).stay (fun c w' hc q=>(hs.2 c ?_).trans q) (fun _ q=>q) fun _ _ q=>q
  rintro rfl;rcases hc with rfl|hc
  ·rw[jf]at e;cases e
  ·rw[jf]at hc;cases hc
 ·obtain⟨f0,f1,f2,f3,f4,f5⟩:=fo b hb;exact⟨f3,f1,f4,f5⟩
end
section
variable{X:Cx}{scope:Scope}{N:List Str}{ix:List (Option Nat)}{tg iter elt:Expr}{ifs:List Expr}{pos:Pos}{wi:TI}{g:TG}{tc:TT}{te:TE}
theorem jz{pr:List (Addr×Obj)}{σ:L2.St}{H2:Hp}{s2:Shared}{J:It}{fp:List Addr}{it:Addr}{tn:Nat->Heap->Prop}{Q:VK}{RR:Value->Addr->Result->Shared->Prop}{E:Value->Shared->Prop}
  (hc:X.calm=true) (I2:Inv X pr σ H2 s2) (T:Turn X.prog X.w X.K tg J fp it tn) (xl:tn 0 s2.heap) (f2:∀b∈fp,ly X pr H2 b)
  (hg:∀C s H fp pn,PG (bA X scope N C s H fp pn) tg g) (ht:∀C s H fp pn,DO (bA X scope N C s H fp pn) ifs tc) (he:∀C s H fp pn,PE (bA X scope N C s H fp pn) elt te)
  (hf:eK scope X.env=true) (hk:scope.kind=.function) (yg:∀y∈scope.names,y.2≠.cell) (Aj:pB X scope N ix=true)
  (q:∀D,H2 D=none->∃W:Nat->Nat->L2.St->Hp->Prop,(∃m,W 0 m (fK ix σ) (upd H2 D (.lst [])))/\
   ∀i m σ1 H3,W i m σ1 H3->(J.stop i H3/\Q (.ref D) H3)\/(J.go i H3/\∀x H4,J.yld i H3 x H4->g x σ1 H4 fun σ2 H5=>tc σ2 H5 fun b H6=>if b=true then te σ2 H6 fun v H7=>
    ∃ys,H7 D=some (.lst ys)/\ys.length<sizeLine/\∃m',m'<m/\W (i+1) m' σ2 (upd H7 D (.lst (ys++[v]))) else ∃m',m'<m/\W (i+1) m' σ2 H6))
  (hRR:∀(D C:Addr) (σ1:L2.St) (H1:Hp) (s1:Shared),s2.heap.objs.size<=C->Inv (bA X scope N C s2 H2 fp (X.pn++pr)) [] σ1 H1 s1->Q (.ref D) H1->RR (.ref D) C (.ok .next) s1):
  wpAny (model X.prog X.w) X.A (newList []) (fun acc s₃=>wpAny (model X.prog X.w) X.A (newFunctionEnv scope X.env.globals (clOf scope X.env) [] X.env.qual none .none (some X.env)) (fun CV s₄=>
   codeAny (model X.prog X.w) X.A (.compStart (.ListComp elt [⟨tg,iter,ifs,0⟩] scope pos) 0 (.ref it) acc {CV with scope:=relabel scope X.env}) (RR acc CV.locals) s₄) E s₃) E s2:=by
 refine GQ (wpAny_newFunctionEnv yg (by intro y hy;simp at hy) (fun h₁ hns₁ hsb₁=>?_) hk);dsimp only at hns₁ hsb₁ ⊢;generalize hH2:s2.heap.push {cls:=.type "list",dict:=none,data:=.seq ([]:List Value).toArray}=HH at hns₁ hsb₁ ⊢;have hC:HH.objs.size=s2.heap.objs.size+1:=by rw[<-hH2,Heap.size_push]
 have hDC:s2.heap.objs.size≠HH.objs.size:=by rw[hC];exact FL (GH _)
 have CW:s2.heap.objs.size<=HH.objs.size:=by rw[hC];exact Nat.le_succ _
 have AV:∀b o,s2.heap.get? b=some o->b≠HH.objs.size:=fun b o e=>FL (Fu (Fy e) CW)
 have old:∀b o,s2.heap.get? b=some o->h₁.get? b=some o:=fun b o e=>hsb₁.extBut b o (AV b o e) (FA _ (hH2▸FA _ e))
 have hacc:h₁.get? s2.heap.objs.size=some {cls:=.type "list",data:=.seq #[] 0}:=hsb₁.extBut _ _ hDC (FA _ (hH2▸FV _ rfl));obtain⟨W,⟨m0,w0⟩,turn⟩:=q s2.heap.objs.size (I2.hok.fresh (Fw _));have fin:∀b∈fp,∃o,s2.heap.get? b=some o:=fun b hb=>let⟨o,e,_⟩:=T.obj 0 _ xl b hb;⟨o,e⟩
 have zV:∀{H':Hp},(∀b∈fp,H' b=none)->∀b∈fp,ly (bA X scope N HH.objs.size s2 H2 fp (X.pn++pr)) [] H' b:=fun{H'} hn b hb=>by
  obtain⟨f0,f1,ff,f3,f4,f5⟩:=f2 b hb;refine⟨hn b hb,?_,fun z=>?_,.inl hb,fun x c e=>f4 x c (eM I2.ok hf e),fun p hp=>?_⟩
  ·intro z;have z:b=HH.objs.size:=z;obtain⟨o,ho⟩:=fin b hb;exact AV b o ho z
  ·exact(FK.mp (I2.stkSub b z)).elim f1 ff
  ·have hp:p∈X.pn++pr:=by
    have:p∈(X.pn++pr)++[]:=hp
    rwa [FJ]at this
   exact f5 p hp
 have loop:∀s₃:Shared,s₃={s2 with heap:=h₁,toks:=s2.toks+([]:List (Str×Value)).length}->
   codeAny (model X.prog X.w) X.A (.compLoop (.ListComp elt [⟨tg,iter,ifs,0⟩] scope pos) 0 (.ref it) (.ref s2.heap.objs.size) (compEnvC scope (clOf scope X.env) HH.objs.size X.env)) (RR (.ref s2.heap.objs.size) HH.objs.size) s₃:=by
  rintro s₃ rfl;refine kg (fun n s'=>∃i σ' H',Inv (bA X scope N HH.objs.size s2 H2 fp (X.pn++pr)) [] σ' H' s'/\tn i s'.heap/\(∀b∈fp,H' b=none)/\W i n σ' H') ?_ m0
   ⟨0,_,_,I2.block hf hk yg Aj f2 fin rfl hC old hacc hns₁,T.keep 0 _ _ xl fun b _ o e=>old b o e,fun b hb=>?_,w0⟩
  ·rintro n s3 ⟨i,σ3,H3,I3,x3,CJ,w3⟩;rcases turn i n σ3 H3 w3 with⟨stop,qn⟩|⟨go,step⟩
   ·refine xt (T.done (bA X scope N HH.objs.size s2 H2 fp (X.pn++pr)) rfl rfl rfl hc i [] s3 σ3 H3 AU I3 (zV CJ) x3 stop) fun r s4 xu=>?_
    obtain⟨hr,I4⟩:=xu;subst hr;exact hRR _ _ σ3 H3 s4 CW I4 qn
   ·refine xt (T.item (bA X scope N HH.objs.size s2 H2 fp (X.pn++pr)) rfl rfl rfl hc i [] s3 σ3 H3 AU I3 (zV CJ) x3 go) fun r s4 xu=>?_
    obtain⟨u,hr,h4⟩:=xu;subst hr;refine xt h4 fun _ s5 xu=>?_
    obtain⟨x,H5,I5,r5,y5,zQ,D5⟩:=xu;have D6:=I5.pinned (zV D5) (T.obj _ _ zQ);refine xt (hg _ _ _ _ _ _ s5 σ3 H5 x u _ D6 r5 (step x H5 y5)) fun _ s6 xu=>?_
    obtain⟨σ6,H6,I6,q6⟩:=xu;refine xt (ht _ _ _ _ _ _ s6 σ6 H6 _ I6 q6) fun ok s7 xu=>?_
    obtain⟨H7,I7,q7⟩:=xu;have again:∀{H8:Hp}{s8:Shared},Inv (bA X scope N HH.objs.size s2 H2 fp (X.pn++pr)) ([]++gM fp s5.heap) σ6 H8 s8->(∃m',m'<n/\W (i+1) m' σ6 H8)->
      ∃m,m<n/\∃i σ' H',Inv (bA X scope N HH.objs.size s2 H2 fp (X.pn++pr)) [] σ' H' s8/\tn i s8.heap/\(∀b∈fp,H' b=none)/\W i m σ' H':=fun{H8 s8} I8 ⟨m',hm,w8⟩=>by
     refine⟨m',hm,i+1,σ6,H8,I8.unpinned,T.keep _ _ _ zQ fun b hb o e=>(I8.pin (b,o) (Fo _ (Fo _ (cY hb e)))).1,fun b hb=>?_,w8⟩;obtain⟨o,e,d⟩:=T.obj _ _ zQ b hb;exact(I8.pin (b,o) (Fo _ (Fo _ (cY hb e)))).2.1
    cases ok with
    |false=>exact again I7 q7
    |true=>
     show wpAny _ _ _ _ _ _;refine xt (he _ _ _ _ _ _ s7 σ6 H7 _ I7 q7) fun x8 s8 xu=>?_
     obtain⟨v8,H8,I8,r8,ys,Ef,yy,q8⟩:=xu;refine xt (gU _ s8 σ6 H8 (.ref s2.heap.objs.size) [v8] (.ref s2.heap.objs.size) [x8] (fun _ H9=>∃m',m'<n/\W (i+1) m' σ6 H9) I8 rfl (.cons r8 .nil) ⟨_,ys,v8,rfl,rfl,Ef,yy,q8⟩) fun _ s9 xu=>?_
     obtain⟨_,H9,I9,_,q9⟩:=xu;exact again I9 q9
  ·rw[av (fun z=>by
    obtain⟨o,ho⟩:=fin b hb;exact absurd z (FL (Fy ho)))]
   exact(f2 b hb).1
 exact codeAny_compStart_list (loop _ rfl) (T.self _ 0 _ _ _ (T.keep 0 _ _ xl fun b _ o e=>old b o e) (loop _ rfl))
end
section
variable{X:Cx}{scope:Scope}{N:List Str}{ix:List (Option Nat)}{tg iter elt:Expr}{ifs:List Expr}{pos:Pos}{wi:TI}{g:TG}{tc:TT}{te:TE}
theorem nU{i:Nat}{y:Str}{py Ao:Pos}(ix:List (Option Nat))(N:List Str)(hN:X.N.Nodup)(Eg:X.N[i]?=some y)(hy:Loc X.env.scope y)(hc:X.calm=true)(hi:PI X tg iter wi)(hg:∀C s H fp pn,PG (bA X scope N C s H fp pn) tg g)(ht:∀C s H fp pn,DO (bA X scope N C s H fp pn) ifs tc)
  (he:∀C s H fp pn,PE (bA X scope N C s H fp pn) elt te) (BH:swapsWith (.ListComp elt [⟨tg,iter,ifs,0⟩] scope pos) (some (.Name y py)) Ao.line X.env=pure true:=by rfl)
  (hf:eK scope X.env=true:=by rfl) (hk:scope.kind=.function:=by rfl) (yg:∀y∈scope.names,y.2≠.cell:=by decide +kernel) (zX:∀y∈scope.names,y.2=.local->scope.names.lookup y.1=some .local:=by decide +kernel) (Aj:pB X scope N ix=true:=by rfl)
  (hs:∀x,foldedSetIterable iter X.env x=pure x:=by intro _;rfl) (AO:X.fn y=true\/X.env.scope.names.lookup y=some .local:=by first|exact .inl rfl|exact .inr rfl):
  PS X (.Assign [.Name y py] (.ListComp elt [⟨tg,iter,ifs,0⟩] scope pos) Ao) (fun D σ H=>qm wi ix g tc te σ H fun v H'=>D.nx (σ.set i (some v)) H'):=by
 intro pr s σ H Dd I h;rw[exec_Assign_Name_used _ _ _ _ BH];have CY:closureFor scope X.env=pure (clOf scope X.env):=by
  unfold closureFor clOf;have:=dS X.env scope.names [] (iV I.ok hf);simpa using this
 refine Fs (wpAny_standAt (Fs ?_));show wpAny _ X.A (do let _ <-comprehension (.ListComp elt [⟨tg,iter,ifs,0⟩] scope pos) scope X.env _ (newList []) false (eval iter X.env) (some (assign (.Name y py) X.env))) _ _ s;refine Fs (FW (wpAny_comprehension_free (use:=some (assign (.Name y py) X.env)) (Q:=fun _ s'=>SP X pr Dd .next s') rfl hs CY hk zX
  (xt (hi pr s σ H _ I h) fun v s1 h1=>xt h1 fun D3 s2 h2=>?_)) (fun _ s' hq=>FF (FF hq)) fun _ _ e=>e)
 obtain⟨it,fp,tn,J,H2,e,I2,T,xl,f2,q⟩:=h2;subst e;refine jz (RR:=fun acc C=>compPost (model X.prog X.w) X.A X.xe (some (assign (.Name y py) X.env)) (fun _ s'=>SP X pr Dd .next s') acc C) (Q:=fun v H'=>Dd.nx (σ.set i (some v)) H') (iter:=iter) hc I2 T xl f2 hg ht he hf hk yg Aj q fun D C σ1 H1 s1 hC J1 q1=>?_
 obtain⟨m,ns,_⟩:=id J1.loc;have ns:s1.heap.Ns C m:=ns;have I3:Inv X pr σ H1 s1:=I2.unblock f2 hC J1 (.refl ..);show wpAny _ X.A (assign (.Name y py) X.env (.ref D)) _ _ s1;refine wpAny_assign_Name (gL I3 hN Eg hy (v:=.ref D) rfl (fun s4 I4 ⟨a,sb,ha⟩=>?_) AO);have aC:C≠a:=by
  intro z;rcases ha with ha|ha
  ·exact FL (Fu I2.lt hC) (ha▸z.symm)
  ·obtain⟨v,o,ho,_⟩:=I2.cell y a ha;exact FL (Fu (Fy ho) hC) z.symm
 refine⟨m,ns.sameBut sb aC,fun h' hs'=>?_⟩;have jf:H1 C=none:=J1.free;have kk:∀b o,b≠C->s4.heap.get? b=some o->h'.get? b=some o:=fun b o hb e=>(hs'.2 b hb).trans e
 refine⟨σ.set i (some (.ref D)),H1,?_,q1⟩;have z:=I4.turned (t':=s4.toks) kk jf (fun z=>FL (Fu I2.lt hC) z.symm) (.inr (Ge I2.sz hC)) (fun x c e z=>by
  obtain⟨v,o,ho,_⟩:=I2.cell x c e;exact FL (Fu (Fy ho) hC) z) (fun p hp z=>FL (Fu (Fy (I2.pin p hp).1) hC) z)
 exact z
end
def Itv(val:Nat->V)(n:Nat):It:=⟨fun i _=>i<n,fun i H x H'=>H'=H/\x=val i,fun i _=>i=n⟩
theorem iW{P:Program}{w:World}{K:W.Frag}{tg:Expr}(ty:String)(CQ:["enumerate","zip","dict_itemiterator","dict_reverseitemiterator","odict_iterator","itertools.zip_longest","itertools.pairwise"].contains ty=false)(l:List Nat)(t:Tok)(it:Addr)
  (Wk:∀A:Around,A.handled=none->Walks P w A it [it] [it] (S l).cps.size (SignAt (S l)) (fun i h=>h.IsStrIter it ty (S l) t i))
  (self:∀(A:Around) (i:Nat) (s:Shared) (Q:Value->Shared->Prop) (E:Value->Shared->Prop),s.heap.IsStrIter it ty (S l) t i->Q (.ref it) s->wpAny (model P w) A (pyIter (.ref it)) Q E s):
  Turn P w K tg (Itv (fun i=>.str (S [l.getD i 0])) l.length) [it] it (fun i h=>h.IsStrIter it ty (S l) t i) where
 mem:=by simp
 obj:=fun i h st b hb=>by
  have e:b=it:=by simpa using hb
  subst e;obtain⟨o,e,c,d⟩:=st;exact⟨o,e,fun v z=>by rw[d]at z;cases z⟩
 keep:=fun i h h' st k=>by
  obtain⟨o,e,r⟩:=st;exact⟨o,k it (by simp) o e,r⟩
 item:=by
  intro X hP hw hK hc i pr s σ H E I hf st hg;subst hP hw hK;obtain⟨f0,f1,f2,f3,f4,f5⟩:=hf it (by simp);have hg:i<l.length:=hg;refine(Wk X.A (I.ok.hd hc)).item i s _ _ (by simpa[S] using hg) st fun v h' tk hv z8 kk=>?_
  obtain⟨c,u,DH,rfl⟩:=hv;have I1:Inv X pr σ H {s with heap:=h',toks:=tk}:=I.turned (fun b o hb e=>kk b o (by simpa using hb) e) f0 f1 f3 f4 f5;obtain⟨o,e,cc,d⟩:=id z8;have Eh:l.getD i 0=c:=by
   have:l[i]?=some c:=by simpa[S] using DH
   rw[FC,this];rfl
  refine⟨_,rfl,lF (s:={s with heap:=h',toks:=tk}) e cc d CQ ⟨.str (S [l.getD i 0]),H,I1,⟨u,?_⟩,⟨rfl,rfl⟩,z8,fun b hb=>(hf b hb).1⟩⟩;rw[Eh]
 done:=by
  intro X hP hw hK hc i pr s σ H E I hf st hg;subst hP hw hK;obtain⟨f0,f1,f2,f3,f4,f5⟩:=hf it (by simp);have hg:i=l.length:=hg;have hn:(S l).cps.size=i:=by rw[hg];simp[S]
  refine(Wk X.A (I.ok.hd hc)).done s _ _ (by rw[hn];exact st) fun h' tk kk=>⟨rfl,I.turned (fun b o hb e=>kk b o (by simpa using hb) e) f0 f1 f3 f4 f5⟩
 self:=self
def vL(tl:TE):TI:=fun σ H R=>tl σ H fun x H1=>∃l,x=.str (S l)/\R (Itv (fun i=>.str (S [l.getD i 0])) l.length) H1
section
variable{X:Cx}{tg:Expr}
theorem qo{l:Expr}{tl:TE}(hl:PE X l tl):PI X tg l (vL tl):=by
 intro pr s σ H R I h;refine xt (hl pr s σ H _ I h) fun v s1 xu=>?_
 obtain⟨x,H1,I1,r1,l,e,q⟩:=xu;subst e;obtain⟨t,rfl⟩:=r1;cases ha:(S l).cps.all (·< 128)
 ·refine wpAny_pyIter_wide ha ?_;refine⟨s1.heap.objs.size,[s1.heap.objs.size],_,_,H1,rfl,I1.kept (t':=s1.toks) fun b o e=>FA _ e,
   iW "str_iterator" (by decide) l t _ (fun A hA=>Walks.strWide hA _ _ _) (fun _ _ _ _ _ st h=>wpAny_pyIter_striter_wide st h),⟨_,FV _ rfl,rfl,rfl⟩,fun b hb=>?_,q⟩
  have e:b=s1.heap.objs.size:=by simpa using hb
  subst e;exact I1.fpOk (Fw _) (I1.hok.fresh (Fw _))
 ·refine wpAny_pyIter_ascii ha ?_;refine⟨s1.heap.objs.size,[s1.heap.objs.size],_,_,H1,rfl,I1.kept (t':=s1.toks) fun b o e=>FA _ e,
   iW "str_ascii_iterator" (by decide) l t _ (fun A hA=>Walks.strAscii hA _ _ _) (fun _ _ _ _ _ st h=>wpAny_pyIter_striter_ascii st h),⟨_,FV _ rfl,rfl,rfl⟩,fun b hb=>?_,q⟩
  have e:b=s1.heap.objs.size:=by simpa using hb
  subst e;exact I1.fpOk (Fw _) (I1.hok.fresh (Fw _))
def qp(ns:List Int):Int:=ns.foldl max (ns.headD 0)
def tJ(ns:List Int):Int:=ns.foldl min (ns.headD 0)
end
section
variable{prog:Program}{w:World}{A:Around}{R:Result->Shared->Prop}{it:Addr}{fp wr:List Addr}{n:Nat}{Pv:Nat->Value->Prop}{Sx:Nat->Heap->Prop}{kw:List (Str×Value)}
end
section
variable{X:Cx}{e k:Expr}{te tk:TE}{p pos CL:Pos}
def maxD(ns:List Int)(d:Int):Int:=if ns=[] then d else qp ns
end
section
variable{prog:Program}{w:World}{A:Around}{E:Value->Shared->Prop}{s:Shared}
def IsIt(k:Bool)(h:Heap)(it l:Addr)(i:Nat):Prop:=match k with
 |true=>h.IsListIter it l i
 |false=>h.IsTupleIter it l i
def IsSq(k:Bool)(h:Heap)(l:Addr)(xs:Array Value):Prop:=match k with
 |true=>h.IsList l xs
 |false=>h.IsTuple l xs
theorem IsIt.at{k:Bool}{h h':Heap}{it l:Addr}{i:Nat}(x:IsIt k h it l i)(e:∀o,h.get? it=some o->h'.get? it=some o):IsIt k h' it l i:=by
 cases k with
 |true=>obtain⟨o,ho,r⟩:=(show h.IsListIter it l i from x);exact(show h'.IsListIter it l i from⟨o,e o ho,r⟩)
 |false=>obtain⟨o,ho,r⟩:=(show h.IsTupleIter it l i from x);exact(show h'.IsTupleIter it l i from⟨o,e o ho,r⟩)
theorem IsSq.at{k:Bool}{h h':Heap}{l:Addr}{xs:Array Value}(x:IsSq k h l xs)(e:∀o,h.get? l=some o->h'.get? l=some o):IsSq k h' l xs:=by
 cases k with
 |true=>obtain⟨o,ho,r⟩:=(show h.IsList l xs from x);exact(show h'.IsList l xs from⟨o,e o ho,r⟩)
 |false=>obtain⟨o,ho,r⟩:=(show h.IsTuple l xs from x);exact(show h'.IsTuple l xs from⟨o,e o ho,r⟩)
end
section
variable{X:Cx}{pr:List (Addr×Obj)}{σ:L2.St}{H:Hp}{s:Shared}
end
section
variable{X:Cx}{es:List Expr}{kt:Nat}{pt:Pos}
end
end NX
namespace NX
open PySem PySem.W PyProof.Rows
section
variable{n:Nat}{O:KeyOrd}{κ:Nat->O.α}{cmp:Nat->Nat->(Bool->Shared->Prop)->Shared->Prop}{Good:Shared->Prop}
def kk(κ:Nat->O.α)(p:Array Nat)(i:Nat):O.α:=κ (p.getD i 0)
structure POk(n:Nat)(p:Array Nat):Prop where
 perm:p.toList.Perm (List.range n)
theorem POk.size{p:Array Nat}(h:POk n p):p.size=n:=by
 have:=h.perm.length_eq;simpa using this
theorem POk.lt{p:Array Nat}(h:POk n p){i:Nat}(hi:i<n):p.getD i 0<n:=by
 have hs:=h.size;have EW:i<p.size:=by lia
 have e:p.getD i 0=p[i]:=by simp[Array.getD,EW]
 rw[e];exact List.mem_range.mp (h.perm.mem_iff.mp (Array.getElem_mem_toList EW))
variable(hc:∀i j,i<n->j<n->∀(Q:Bool->Shared->Prop) s,Good s->(∀s',Good s'->Q (O.blt (κ i) (κ j)) s')->cmp i j Q s)
include hc
end
end NX
namespace NX
open PySem PySem.W PySem.Spec PyProof.Rows L2
section
variable{prog:Program}{w:World}{A:Around}{E:Value->Shared->Prop}{s:Shared}
end
def intO:KeyOrd where
 α:=Int
 blt a b:=decide (a<b)
 irrefl a:=by simp
 trans a b c h1 h2:=by simp only[F8] at *;lia
 negTrans a b c h:=by simp only[F8] at *;lia
 total a b h1 h2:=by simp only[HB] at *;lia
noncomputable def tK:KeyOrd where
 α:=Key
 blt a b:=match a,b with
  | .inl i,.inl j=>decide (i<j)
  | .inr x,.inr y=>decide (x.cps.toList<y.cps.toList)
  | .inl _,.inr _=>true
  | .inr _,.inl _=>false
 irrefl a:=by
  cases a with
  |inl i=>simp
  |inr x=>simpa using List.lt_irrefl x.cps.toList
 trans a b c h1 h2:=by
  cases a <;> cases b <;> cases c <;> simp_all
  ·lia
  ·exact List.lt_trans h1 h2
 negTrans a b c h:=by
  cases a <;> cases b <;> cases c <;> simp_all
  ·lia
  ·rename_i x y z;by_cases q:x.cps.toList<y.cps.toList
   ·exact .inl q
   ·exact .inr (List.lt_of_le_of_lt (Jb.mp q) h)
 total a b h1 h2:=by
  cases a <;> cases b <;> simp_all
  ·lia
  ·rename_i x y;have e:x.cps.toList=y.cps.toList:=List.le_antisymm (by first|exact h2|exact Jb.mp h2) (by first|exact h1|exact Jb.mp h1);rw[<-jy x,<-jy y,e]
def iX:List Key->List Key->Bool
 |[],[]=>false
 |[],_::_=>true
 |_::_,[]=>false
 |a::r,b::t=>if a=b then iX r t else tK.blt a b
section
variable{O:KeyOrd}
end
section
variable{X:Cx}
end
def kinds(k:List Key):List Bool:=k.map fun x=>x.isLeft
section
variable{prog:Program}{w:World}{A:Around}{s:Shared}
theorem nV(a b:Key):Eb (kV a) (kV b)=decide (a=b):=by
 cases a <;> cases b <;> (rw[GN];simp[kV,Eb])
theorem iY(a:Key):lM (kV a)=true:=by cases a <;> rfl
end
section
variable{X:Cx}{pr:List (Addr×Obj)}{σ:L2.St}{H:Hp}{s:Shared}
end
section
variable{X:Cx}
end
end NX
namespace L2
open PySem PySem.Spec PyProof.Rows
section
variable{κ:Type}[DecidableEq κ]
def sE(w9:List (κ×V))(k:κ):Option V:=(w9.find? fun kv=>decide (kv.1=k)).map (·.2)
def jM(w9:List (κ×V))(k:κ)(v:V):List (κ×V):=
 if(w9.any fun kv=>decide (kv.1=k))=true then w9.map (fun kv=>if kv.1=k then(kv.1,v) else kv) else w9++[(k,v)]
theorem iz(w9:List (κ×V))(k:κ)(v:V):(jM w9 k v).length<=w9.length+1:=by
 unfold jM;split
 ·rw[FN];lia
 ·rw[FU,Fv,HL];lia
theorem RelO.getD{o:Option V}{u:Option Value}{d:V}{d':Value}(r:RelO o u)(rd:RelV d d'):RelV (o.getD d) (u.getD d'):=by
 cases o with
 |none=>cases u with
  |none=>exact rd
  |some _=>exact(show False from r).elim
 |some _=>cases u with
  |none=>exact(show False from r).elim
  |some _=>exact r
theorem KV.any{w9:List (κ×V)}{vs:List (κ×Value)}(r:KV w9 vs)(k:κ):(w9.any fun kv=>decide (kv.1=k))=vs.any fun kv=>decide (kv.1=k):=by
 unfold KV at r;induction r with
 |nil=>rfl
 |cons h t ih=>rw[List.any_cons,List.any_cons,ih,h.1]
theorem KV.repl{w9:List (κ×V)}{vs:List (κ×Value)}(r:KV w9 vs)(k:κ){y:V}{u:Value}(ry:RelV y u):
  KV (w9.map fun kv=>if kv.1=k then(kv.1,y) else kv) (vs.map fun kv=>if kv.1=k then(kv.1,u) else kv):=by
 unfold KV at r ⊢;induction r with
 |nil=>exact .nil
 | @cons p q ps qs h t ih=>
  rw[F5,F5];refine .cons ?_ ih;obtain⟨h1,h2⟩:=h;by_cases e:p.1=k
  ·rw[FY e,FY (h1.symm.trans e)];exact⟨h1,ry⟩
  ·rw[F3 e,F3 (fun z=>e (h1.trans z))];exact⟨h1,h2⟩
theorem KV.put{w9:List (κ×V)}{vs:List (κ×Value)}(r:KV w9 vs)(k:κ){y:V}{u:Value}(ry:RelV y u):KV (jM w9 k y) (stored vs k u):=by
 unfold jM stored;rw[r.any k];by_cases e:(vs.any fun kv=>decide (kv.1=k))=true
 ·rw[FY e,FY e];exact r.repl k ry
 ·rw[F3 e,F3 e];exact Paired.snoc r ⟨rfl,ry⟩
theorem KV.length{w9:List (κ×V)}{vs:List (κ×Value)}(r:KV w9 vs):w9.length=vs.length:=Hz r
end
theorem kV_is{P:Program}{w:World}{k:Key}{u:Value}(r:RelV (kV k) u):(mixKind P w).is k u=true:=by
 cases k with
 |inl i=>obtain⟨t,e⟩:=(show ∃t,u=Value.int i t from r);subst e;exact ir P w i t
 |inr x=>obtain⟨t,e⟩:=(show ∃t,u=Value.str x t from r);subst e;exact iu P w x t
section
variable{P:Program}{w:World}{H:Hp}{h:Heap}{a:Addr}
theorem tL{u:HO}(ok:HOk P w H h)(e:Rd H a u):ObjOk P w H h a u:=e.ok ok
theorem tM{w9:List (Key×V)}(ok:HOk P w H h)(e:Rd H a (.dK w9)):w9.length<=sizeLine/\(a==sysModules)=false/\∃vs,KV w9 vs/\h.DictOf (mixKind P w) a vs:=
 show ObjOk P w H h a (.dK w9) from tL ok e
theorem tN{w9:List (Key×V)}(ok:HOk P w H h)(e:H a=some (.dK w9)):w9.length<=sizeLine/\(a==sysModules)=false/\∃vs,KV w9 vs/\h.DictOf (mixKind P w) a vs:=tM ok (.inl e)
end
def DGet(H:Hp)(a:Addr)(y:V)(r:Option V):Prop:=
 (∃w9 k,Rd H a (.dK w9)/\y=kV k/\r=sE w9 k)\/∃w9 k b,Rd H a (.dT w9)/\y=.ref b/\H b=some (.tup (k.map kV))/\r=sE w9 k
def DPut(H:Hp)(a:Addr)(y v:V)(H':Hp):Prop:=
 (∃w9 k,H a=some (.dK w9)/\y=kV k/\w9.length<sizeLine/\H'=upd H a (.dK (jM w9 k v)))\/
 ∃w9 k b,H a=some (.dT w9)/\y=.ref b/\H b=some (.tup (k.map kV))/\w9.length<sizeLine/\H'=upd H a (.dT (jM w9 k v))
theorem DGet.k{H:Hp}{a:Addr}{w9:List (Key×V)}{k:Key}(e:H a=some (.dK w9)):DGet H a (kV k) (sE w9 k):=.inl ⟨w9,k,.inl e,rfl,rfl⟩
theorem DGet.t{H:Hp}{a b:Addr}{w9:List (List Key×V)}{k:List Key}(e:H a=some (.dT w9))(eb:H b=some (.tup (k.map kV))):DGet H a (.ref b) (sE w9 k):=.inr ⟨w9,k,b,.inl e,rfl,eb,rfl⟩
theorem DPut.k{H:Hp}{a:Addr}{w9:List (Key×V)}{k:Key}{v:V}(e:H a=some (.dK w9))(hl:w9.length<sizeLine):DPut H a (kV k) v (upd H a (.dK (jM w9 k v))):=.inl ⟨w9,k,e,rfl,hl,rfl⟩
theorem DPut.t{H:Hp}{a b:Addr}{w9:List (List Key×V)}{k:List Key}{v:V}(e:H a=some (.dT w9))(eb:H b=some (.tup (k.map kV)))(hl:w9.length<sizeLine):
  DPut H a (.ref b) v (upd H a (.dT (jM w9 k v))):=.inr ⟨w9,k,b,e,rfl,eb,hl,rfl⟩
section
variable{X:Cx}{pr:List (Addr×Obj)}{σ:St}{H:Hp}{s:Shared}{a:Addr}{y v:V}{u r:Value}{o:Option V}{A:Around}{E:Value->Shared->Prop}
theorem Inv.big(I:Inv X pr σ H s):sysModules<s.heap.objs.size:=by
 have h:mainGlobals<s.heap.objs.size:=(I.mod.glob.keeps I.bk).lt;exact Nat.lt_trans (by decide) h
theorem nW{h':Heap}{t':Nat}{ob:HO}(I:Inv X pr σ H s)(mu:CG (H a))(hs:Heap.SameBut a s.heap h')(he:∃q,h'.get? a=some q)(new:ObjOk X.prog X.w (upd H a ob) h' a ob):
  Inv X pr σ (upd H a ob) {s with heap:=h',toks:=t'}:=
 I.write (x:=a) (e:=a) mu (.inl rfl) (fun b q hb z=>(hs.2 b hb).trans z) he new
theorem qq{P:Program}{w:World}{H':Hp}{h':Heap}{w9:List (Key×V)}{vs:List (Key×Value)}(z:w9.length<=sizeLine)(hd:(a==sysModules)=false)(rel:KV w9 vs)(dd:h'.DictOf (mixKind P w) a vs):
  ObjOk P w H' h' a (.dK w9):=⟨z,hd,vs,rel,dd⟩
end
section
variable{X:Cx}{pr:List (Addr×Obj)}{σ:St}{H:Hp}{s:Shared}{a:Addr}{w9:List (Key×V)}{k:Key}{u:Value}{A:Around}{E:Value->Shared->Prop}
end
section
variable{X:Cx}{o i e value:Expr}{pos pos' BB:Pos}{td ty tv:TE}
end
theorem dk_empty{P:Program}{w:World}{H:Hp}(h:Heap)(hb:sysModules<h.objs.size):ObjOk P w H (h.push {cls:=.type "dict",data:=.dict #[]}) h.objs.size (.dK []):=
 ⟨GD _,F1.mpr (Ig (FL hb)),[],.nil,Heap.DictOf.new h⟩
section
variable{X:Cx}{pos:Pos}
end
def tPairs:List (TE×TE)->St->Hp->(List (V×V)->Hp->Prop)->Prop
 |[],_,H,Q=>Q [] H
 |(tk,tv)::r,σ,H,Q=>tk σ H fun x H1=>tv σ H1 fun y H2=>tPairs r σ H2 fun ps H3=>Q ((x,y)::ps) H3
abbrev VV:List (V×V)->List (Value×Value)->Prop:=Paired fun p q=>RelV p.1 q.1/\RelV p.2 q.2
def DQ(X:Cx)(pos:Pos)(keys:List (Option Expr))(values:List Expr)(AW:List (TE×TE)):Prop:=
 ∀(pr:List (Addr×Obj)) (s:Shared) (σ:St) (H:Hp) (Q:List (V×V)->Hp->Prop),Inv X pr σ H s->tPairs AW σ H Q->
  wpAny (model X.prog X.w) X.A (evalPairs (pairTrees keys values X.env pos)) (fun vs s'=>∃ps H',Inv X pr σ H' s'/\VV ps vs/\Q ps H') X.xe s
theorem nX{X:Cx}{pos:Pos}:DQ X pos [] [] []:=fun pr s σ H Q I h=>pairTrees_nil_walk ⟨[],H,I,.nil,h⟩
theorem lP{X:Cx}{pos:Pos}{k v:Expr}{ks:List (Option Expr)}{vs:List Expr}{tk tv:TE}{AW:List (TE×TE)}(hk:PE X k tk)(hv:PE X v tv)(hr:DQ X pos ks vs AW):
  DQ X pos (some k::ks) (v::vs) ((tk,tv)::AW):=fun pr s σ H Q I h=>
 pairTrees_cons_walk (xt (hk pr s σ H _ I h) fun u s1 ⟨x,H1,I1,rx,q1⟩=>xt (hv pr s1 σ H1 _ I1 q1) fun w2 s2 ⟨y,H2,I2,ry,q2⟩=>
  xt (hr pr s2 σ H2 _ I2 q2) fun ws s3 ⟨ps,H3,I3,rel,q3⟩=>⟨(x,y)::ps,H3,I3,.cons ⟨rx,ry⟩ rel,q3⟩)
def gZ(w9 more:List (Key×V)):List (Key×V):=more.foldl (fun acc kv=>jM acc kv.1 kv.2) w9
theorem KV.merge:∀{more:List (Key×V)}{rs:List (Key×Value)}{w9:List (Key×V)}{vs:List (Key×Value)},KV more rs->KV w9 vs->KV (gZ w9 more) (merged vs rs):=by
 intro more rs w9 vs r;unfold KV at r;induction r generalizing w9 vs with
 |nil=>intro q;exact q
 | @cons p q ps qs h t ih=>
  intro r0;have e:KV (jM w9 p.1 p.2) (stored vs q.1 q.2):=by
   have:=r0.put p.1 h.2;rw[<-h.1];exact this
  exact ih e
theorem dA:∀(more w9:List (Key×V)),(gZ w9 more).length<=w9.length+more.length
 |[],w9=>by show w9.length<=w9.length+0;lia
 |p::r,w9=>by
  have h1:=dA r (jM w9 p.1 p.2);have h2:=iz w9 p.1 p.2;show(gZ (jM w9 p.1 p.2) r).length<=_;rw[Fv];lia
theorem fL{P:Program}{w:World}:∀{w9:List (Key×V)}{ws:List (Value×Value)},VV (w9.map fun kv=>(kV kv.1,kv.2)) ws->∃rs,Carries (mixKind P w) ws rs/\KV w9 rs
 |[],_,r=>by rw[List.map_nil]at r;cases r;exact⟨[],True.intro,.nil⟩
 |p::w9,_,r=>by
  rw[F5]at r;cases r with
  | @cons a b as bs h t=>
   obtain⟨rs,c,q⟩:=fL (P:=P) (w:=w) t;obtain⟨b1,b2⟩:=b;exact⟨(p.1,b2)::rs,⟨kV_is h.1,rfl,c⟩,.cons ⟨rfl,h.2⟩ q⟩
def tP(AW:List (TE×TE)):TE:=fun σ H Q=>∀p,H p=none->tPairs AW σ (upd H p (.dK [])) fun ps H2=>H2 p=some (.dK [])/\∃w9:List (Key×V),ps=w9.map (fun kv=>(kV kv.1,kv.2))/\w9.length<=15/\Q (.ref p) (upd H2 p (.dK (gZ [] w9)))
theorem nY{X:Cx}{pos:Pos}{keys:List (Option Expr)}{values:List Expr}{AW:List (TE×TE)}(h:DQ X pos keys values AW)(zT:keys.all (·.isSome)=true)(hl:keys.length=values.length)(h0:keys≠[])
  (h15:keys.length<=15):PE X (.Dict keys values pos) (tP AW):=by
 intro pr s σ H Q I q;have hn:=I.hok.fresh (Fw s.heap.objs.size);have I1:=I.laid (a:=s.heap.objs.size) (o:=.dK []) (h':=s.heap.push {cls:=.type "dict",data:=.dict #[]}) (t':=s.toks) (fun _ _ q=>FA _ q) (Fw _) (dk_empty s.heap I.big);refine wpAny_Dict_walk (knd:=mixKind X.prog X.w) zT hl h0 h15 (xt (h pr _ σ _ _ I1 (q _ hn)) fun ws s2 xu=>?_);obtain⟨ps,H2,I2,rel,e,w9,ep,lk,q2⟩:=xu;subst ep;obtain⟨rs,c,rk⟩:=fL (P:=X.prog) (w:=X.w) rel;obtain⟨z,hd,vs0,r0,dd⟩:=tN I2.hok e;cases r0;refine⟨rs,c,dd,fun h' EX hs=>⟨.ref s.heap.objs.size,_,?_,rfl,q2⟩⟩;have hz:(gZ [] w9).length<=sizeLine:=by
  have h1:=dA w9 [];rw[HL]at h1;rw[Ih];lia
 have he:∃q,h'.get? s.heap.objs.size=some q:=let⟨q,_,_,hq,_⟩:=EX;⟨q,hq⟩
 exact nW I2 (by rw[e];exact True.intro) hs he (qq hz hd (rk.merge .nil) EX)
section
variable{X:Cx}{pr:List (Addr×Obj)}{σ:St}{H:Hp}{s:Shared}{a:Addr}{y d:V}{u r:Value}{o:Option V}{A:Around}{E:Value->Shared->Prop}
end
section
variable{X:Cx}{o e f:Expr}{apos xC:Pos}{td ty tx:TE}
end
section
variable{X:Cx}{pr:List (Addr×Obj)}{σ:St}{H:Hp}{s:Shared}{a:Addr}{w9:List (Key×V)}{A:Around}{E:Value->Shared->Prop}
end
section
variable{X:Cx}{pr:List (Addr×Obj)}{σ:St}{H:Hp}{s:Shared}{a:Addr}{y:V}{u:Value}{A:Around}{E:Value->Shared->Prop}
end
section
variable{κ:Type}[DecidableEq κ]
end
end L2
namespace NX
open PySem PySem.Spec PyProof.Rows L2
def RawD(h:Heap)(d:Addr)(es:Array DictEntry)(ep:Nat):Prop:=∃o,h.get? d=some o/\o.ExactDict/\o.data=.dict es ep
theorem RawD.at{h h':Heap}{d:Addr}{es:Array DictEntry}{ep:Nat}(x:RawD h d es ep)(e:∀o,h.get? d=some o->h'.get? d=some o):RawD h' d es ep:=by
 obtain⟨o,g,r⟩:=x;exact⟨o,e o g,r⟩
section
variable{prog:Program}{w:World}{A:Around}{E:Value->Shared->Prop}{s:Shared}{d it:Addr}{es:Array DictEntry}{ep i:Nat}
theorem lQ(x:RawD s.heap d es ep):s.TypeIs (.ref d) "dict":=by
 obtain⟨o,g,ex,_⟩:=x;exact⟨o,g,ex.1⟩
end
end NX
namespace NX
open PySem PySem.W PySem.Spec PyProof.Rows L2
section
variable{prog:Program}{w:World}{A:Around}{E:Value->Shared->Prop}{s:Shared}
end
section
variable{X:Cx}{pr:List (Addr×Obj)}{σ:L2.St}{H:Hp}{s:Shared}
end
end NX
namespace NX
open PySem PySem.Spec PyProof.Rows L2
section
open PySem.SeqAt
open PySem.AutoSeq1 (wpAny_loadPart')
open PySem.MeetsSeq PySem.MeetsSeq2 PySem.MeetsSeq3
theorem lR{A:Around}{s:Shared}{a c:Key}{u v:Value}(ra:RelV (kV a) u)(rc:RelV (kV c) v):EqAt A s u v (decide (a=c)):=by
 have h:=qe (A:=A) (s:=s) ra rc (iY a) (iY c);rw[nV]at h;exact h
theorem lS{prog:Program}{w:World}{A:Around}{E:Value->Shared->Prop}{s:Shared}{Q:Value->Shared->Prop}{a c:Key}{u v:Value}(ra:RelV (kV a) u)(rc:RelV (kV c) v)(hk:a.isLeft=c.isLeft)(h:Q (.bool (tK.blt a c)) s):
  wpAny (model prog w) A (richCompare .Lt u v) Q E s:=by
 cases a with
 |inl i=>
  cases c with
  |inr _=>cases hk
  |inl j=>
   obtain⟨t,rfl⟩:=ra;obtain⟨t',rfl⟩:=rc;exact(PyProof.Rows.lt_int h:wpAny (model prog w) A (compareOp .Lt (.int i t) (.int j t')) Q E s)
 |inr x=>
  cases c with
  |inl _=>cases hk
  |inr y=>
   obtain⟨t,rfl⟩:=ra;obtain⟨t',rfl⟩:=rc;exact(PyProof.Rows.lt_str h:wpAny (model prog w) A (compareOp .Lt (.str x t) (.str y t')) Q E s)
theorem ki(a c:Key)(r t:List Key):iX (a::r) (c::t)=if a=c then iX r t else tK.blt a c:=rfl
theorem gj(l b:Addr)(items zi:Array Value)(n n2:Nat)(dd Bq:Option Addr)(sl Br:Array (Option Value))(ks js:List Key)(hi:Vals (ks.map kV) items.toList)(hj:Vals (js.map kV) zi.toList)(hk:kinds ks=kinds js):
  Meets (Builtin.«tuple.__lt__» ⟨[.ref l,.ref b],[]⟩)
   (fun _ R s=>s.heap.get? l=some {cls:=.type "tuple",dict:=dd,data:=.seq items n,slots:=sl}/\s.heap.get? b=some {cls:=.type "tuple",dict:=Bq,data:=.seq zi n2,slots:=Br}/\R (.ok (.ret (.bool (iX ks js)))) s):=
 .of_wp fun prog w A R s h=>by
  obtain⟨hp,g,d,tk,os⟩:=s;obtain⟨hl,hb,h⟩:=h;have f2:=AutoSeq1.sub_tuple_tuple;have z1:items.size=ks.length:=by have:=hi.length;simp at this;lia
  have z2:zi.size=js.length:=by have:=hj.length;simp at this;lia
  have z3:ks.length=js.length:=by have:=G0 List.length hk;simpa[kinds] using this
  wp_walk using wpAny_loadPart' hl,wpAny_loadPart' hb,wpAny_forIn_list _ (fun rest b s'=>b.1=none/\s'=⟨hp,g,d,tk,os⟩/\∃(vs ws:List Value) (Ap Af:List Key),rest=vs.zip ws/\
   Vals (Ap.map kV) vs/\Vals (Af.map kV) ws/\kinds Ap=kinds Af/\R (.ok (.ret (.bool (iX Ap Af)))) ⟨hp,g,d,tk,os⟩) _
  case turn=>
   rintro⟨y,x⟩ rest b s' ⟨Ei,rfl,vs,ws,Ap,Af,hz,DR,Ej,Bt,hR⟩;cases Ap with
   |nil=>
    cases DR;rw[List.zip_nil_left]at hz;cases hz
   |cons a Ap=>
    cases Af with
    |nil=>cases Bt
    |cons c Af=>
     cases DR with
     | @cons _ va _ CZ ra hvi'=>
      cases Ej with
      | @cons _ vc _ ws' rc hwi'=>
       rw[Iv]at hz;injection hz with hyx Aq;injection hyx with hy hx;subst hy hx;have Ek:a.isLeft=c.isLeft:=(Hi Bt).1;have El:kinds Ap=kinds Af:=(Hi Bt).2;rw[ki]at hR;have he:=lR (A:=A.in1) (s:=⟨hp,g,d,tk,os⟩) ra rc;refine Fs (he prog w _ _ ?_);by_cases hac:a=c
       ·rw[FY hac]at hR;rw[F7 hac]
        wp_walk
        exact⟨rfl,rfl,_,_,_,_,Aq,hvi',hwi',El,hR⟩
       ·rw[F3 hac]at hR;rw[FH hac];have hri:=fun E Q=>lS (prog:=prog) (w:=w) (A:=A.in1) (E:=E) (s:=⟨hp,g,d,tk,os⟩) (Q:=Q) ra rc Ek
        wp_walk using hri
        exact⟨_,rfl,by simpa using hR⟩
  case fin=>
   rintro⟨b1,b2⟩ s' ⟨Ei,rfl,vs,ws,Ap,Af,hz,DR,Ej,Bt,hR⟩;simp only at Ei;subst Ei;have hv:iX Ap Af=decide (items.size<zi.size):=by
    cases Ap with
    |nil=>
     cases Af with
     |nil=>exact(FH (by lia)).symm
     |cons c Af=>cases Bt
    |cons a Ap=>
     cases Af with
     |nil=>cases Bt
     |cons c Af=>
      cases DR;cases Ej;rw[Iv]at hz;cases hz
   rw[hv]at hR
   wp_walk
   exact⟨_,rfl,by simpa[Builtin.Tuple.tupleCompareSizes] using hR⟩
  case h=>
   exact⟨rfl,rfl,items.toList,zi.toList,ks,js,rfl,hi,hj,hk,h⟩
end
section
variable{X:Cx}
def vM(K:W.Frag)(neg:Bool):R2:=fun x y H Q=>∃a b ks js,x=.ref a/\y=.ref b/\SqT K H a (ks.map kV)/\SqT K H b (js.map kV)/\kinds ks=kinds js/\Q (.bl (if neg then !iX ks js else iX ks js)) H
theorem qr(hu:X.A.units<cLine):xW X (compareOp .Lt) (vM X.K false):=by
 intro pr s σ H x y v u Q I rx ry h;obtain⟨a,b,ks,js,rfl,rfl,ha,hb,hk,q⟩:=h;cases rx;cases ry;obtain⟨wZ,r1,p1,_⟩:=I.tuple ha;obtain⟨Am,r2,p2,_⟩:=I.tuple hb;obtain⟨⟨cls,dd,data,sl⟩,ho,hc,n,hd⟩:=id p1;obtain⟨⟨CO,Bq,data2,Br⟩,y3,Bs,n2,hd2⟩:=id p2;simp only at hc hd Bs hd2;subst hc hd Bs hd2;exact richCompare_meets_room (op:=.Lt) ⟨_,ho,rfl⟩ ⟨_,y3,rfl⟩ PySem.F.slot_tuple_lt PySem.F.entry_tuple_lt (PySem.F.args_tuple_lt_2 _ _) (gj a b _ _ n n2 dd Bq sl Br ks js (by simpa using r1) (by simpa using r2) hk)
  ⟨ho,y3,show Value.bool (iX ks js)≠Value.notImplemented/\EP X pr σ Q (.bool (iX ks js)) s from⟨(fun x=>nomatch x),⟨.bl (iX ks js),H,I,rfl,q⟩⟩⟩ hu
end
section
variable{prog:Program}{w:World}{A:Around}{E:Value->Shared->Prop}{s:Shared}
end
section
variable{X:Cx}{pr:List (Addr×Obj)}{σ:L2.St}{H:Hp}{s:Shared}{scope:Scope}{N:List Str}{ix:List (Option Nat)}{fp:List Addr}
end
section
variable{X:Cx}{scope:Scope}{N:List Str}{ix:List (Option Nat)}{tg iter elt:Expr}{ifs:List Expr}{pos:Pos}{wi:TI}{g:TG}{tc:TT}{te:TE}
end
theorem ook_get{P:Program}{w:World}{H:Hp}{h:Heap}{a:Addr}{o:HO}(x:ObjOk P w H h a o):∃u,h.get? a=some u:=by
 cases o with
 |lst xs=>obtain⟨_,_,_,_,e⟩:=x;exact⟨_,e⟩
 |tup xs=>obtain⟨_,_,_,_,e,_⟩:=x;exact⟨_,e⟩
 |dK w9=>obtain⟨_,_,_,_,_,_,_,e,_⟩:=x;exact⟨_,e⟩
 |dT w9=>obtain⟨_,_,_,_,_,_,_,e,_⟩:=x;exact⟨_,e⟩
 |set S n=>obtain⟨_,_,_,_,e,_⟩:=x;exact⟨_,e⟩
 |ins C dx fs=>obtain⟨_,_,_,e,_⟩:=x;exact⟨_,e⟩
 |own y=>exact x
 |xd fs=>obtain⟨_,⟨_,_,_,e,_⟩,_⟩:=x;exact⟨_,e⟩
 |rng lo hi=>obtain⟨_,_,_,e⟩:=x;exact⟨_,e⟩
 |frz ob u=>obtain⟨e,_⟩:=x;exact⟨_,e⟩
 |tbl ps=>exact⟨_,x⟩
 |met f y=>exact⟨_,x⟩
 |ext φ=>obtain⟨_,e,_⟩:=x;exact e
def XCl(mg:Str->Option Value)(base:Heap)(x:Str)(C:Addr):Prop:=∃B newId initId bm,ExcBaseFacts B newId initId bm/\OwnCls x C bm newId mg base
theorem mW{K:W.Frag}{h:Heap}{mg:Str->Option Value}{x:Str}{C:Addr}{mB:List Value}{nw:String}(X:K.In h)(G:h.Ns mainGlobals mg)(e:PySem.W.nsIn K mainGlobals x=some (some (.ref C)))(q:PySem.W.excIn K C mB nw=true):OwnCls x C mB nw mg h:=by
 refine⟨Gb X G e,?_⟩;unfold PySem.W.excIn at q;split at q
 ·rename_i zd cd sl ho;split at q
  ·rename_i C' mro z0 z1 z2 z3 z4 z5 hm hs;rw[Fx,Fx,Fx,Fx,Fx]at q;obtain⟨⟨⟨⟨⟨q1,q2⟩,q3⟩,q4⟩,q5⟩,q6⟩:=q;have d1:=Gh.mp q1;have d2:=Gh.mp q2;have d6:=Gh.mp q6;have d3:cd.hasDel=false:=by revert q3;cases cd.hasDel <;> decide
   clear q1 q2 q3 q6;subst d1;subst d2;cases cd;dsimp only at hm d3 q5 d6;subst hm;subst d3;have ez:sl = #[z0,z1,z2,z3,some (.builtin z4),z5]:=by
    cases sl;dsimp only at hs;rw[hs]
   subst ez;exact⟨_,_,_,_,_,_,_,_,_,_,_,_,_,_,_,_,_,X _ _ ho,.of_isNs (PySem.W.isNs_of_in X q5),PySem.W.nsMap_none_of_in X q5 d6,PySem.W.tail_of_in X q4⟩
  ·cases q
 ·cases q
noncomputable def Bu(P:Program)(w:World)(base:Heap)(C:Addr):Ae:=fun outer H s E e s'=>
 ∃(a t:Addr) (B:Heap) (H':Hp),e=.ref a/\s'.os=s.os/\AllBare s'.gens/\Un (xV outer) [] H H' s.heap s'.heap/\HOk P w H' s'.heap/\Heap.FlyingW B outer a (.ref C) (.ref t) s'.heap/\
  (∀b u,s'.heap.get? b=some u->(H' b≠none\/∃o,s.heap.get? b=some o)->b∉xV outer->B.get? b=some u)/\E (.ref C) none H'
def Acc(X:Cx)(C:Addr)(Ww:Hp->Prop):Prop:=∀(pr:List (Addr×Obj)) (σ:L2.St) (H:Hp) (s:Shared) (h':Heap) (a:Addr) (args:List Value),Inv X pr σ H s->Ww H->Heap.MadeExcOf s.heap h' a (.ref C) args->X.xe (.ref a) {s with heap:=h'}
theorem iZ{P:Program}{w:World}{K:W.Frag}{mg:Str->Option Value}{base:Heap}{N:List Str}{qual:Str}{scope:Scope}{f C:Addr}{cd:Value}{A:Around}{outer:List Env}{s:Shared}{H:Hp}{E:XK}:
  Acc (iR (Bu P w base C) P w K mg base N qual scope f cd A outer s H E) C (fun H'=>E (.ref C) none H'):=by
 intro pr σ H1 s1 h' a args I hW hm;have Em:∀b,b∈xV (envOfC qual scope s.heap.objs.size f cd::outer)->b∈s.heap.objs.size::xV outer:=I.stkSub;have nl:∀b o,s.heap.get? b=some o->b∉xV outer->b∉xV (envOfC qual scope s.heap.objs.size f cd::outer):=fun b o e n z=>by
  rcases FK.mp (Em b z) with r|r
  ·exact absurd (Fy e) (by rw[r];exact Gx _)
  ·exact n r
 have nt:∀b,H1 b≠none->b∉xV (envOfC qual scope s.heap.objs.size f cd::outer):=fun b n z=>n (I.stkFree b z)
 refine wpAny_leaves_madeW (base:=PySem.W.hideAll s1.heap (xV (envOfC qual scope s.heap.objs.size f cd::outer))) (L:=s.heap.objs.size) I.ok.frames rfl (fun b o q=>Io _ q) (PySem.W.funFrames_hide I.stack fun env he b hb=>GI.mpr ⟨env,he,hb⟩) hm fun h2 t Ar _ _ sm=>?_
 have k:∀b u,s1.heap.get? b=some u->b∉xV (envOfC qual scope s.heap.objs.size f cd::outer)->h2.get? b=some u:=fun b u q n=>Ar.1 b u (Hj _ q n)
 have sl:∀b u,s1.heap.get? b=some u->b∈xV outer->∃z,h2.get? b=some {u with slots:=z}:=fun b u q n=>by
  obtain⟨_,o,ho,hd⟩:=I.funs.mem n;rw[q]at ho;cases ho;exact sm b u (hm.keeps b u q) hd
 have there:∀b o,s.heap.get? b=some o->∃o',s1.heap.get? b=some o':=fun b o q=>I.base.there b o q (fun z=>nomatch z)
 refine⟨a,t,_,H1,rfl,I.os,I.bare,⟨fun b o q n hb hx=>k b o (I.base.keep b o q n hb hx) (nl b o q hb),fun b o q n hb hx=>?_,I.base.free,fun b o q hx=>?_,I.base.tups,I.base.frzs,I.base.tbls⟩,fun b o e=>?_,Ar,fun b u q hb n=>?_,hW⟩
 ·obtain⟨z,e⟩:=I.base.slot b o q n hb hx;obtain⟨z',e'⟩:=sl b _ e hb;exact⟨z',e'⟩
 ·obtain⟨o',e⟩:=there b o q;by_cases hb:b∈xV outer
  ·obtain⟨z,e'⟩:=sl b o' e hb;exact⟨_,e'⟩
  ·exact⟨o',k b o' e (nl b o q hb)⟩
 ·refine(I.hok b o e).stay (fun c u hc q=>k c u q (nt c ?_)) (fun _ q=>q) fun _ _ q=>q
  rcases hc with rfl|hc
  ·rw[e];exact fun z=>nomatch z
  ·rw[hc];exact fun z=>nomatch z
 ·have h1:∃u0,s1.heap.get? b=some u0/\b∉xV (envOfC qual scope s.heap.objs.size f cd::outer):=by
   rcases hb with hb|⟨o,ho⟩
   ·cases hq:H1 b with
    |none=>exact absurd hq hb
    |some ho=>
     obtain⟨u0,e0⟩:=ook_get (I.hok b ho hq);exact⟨u0,e0,nt b hb⟩
   ·obtain⟨o',e⟩:=there b o ho;exact⟨o',e,nl b o ho n⟩
  obtain⟨u0,e0,n0⟩:=h1;have:=k b u0 e0 n0;rw[show h2.get? b=some u from q]at this;cases this;exact Hj _ e0 n0
def PX(X:Cx)(st:List Stmt)(t:L2.St->Hp->Prop):Prop:=
 ∀(pr:List (Addr×Obj)) (s:Shared) (σ:L2.St) (H:Hp),Inv X pr σ H s->t σ H->wpAny (model X.prog X.w) X.A (execs st X.env) (fun _ _=>False) X.xe s
section
variable{X:Cx}{st:Stmt}{rest:List Stmt}{t:TS}{u u':L2.St->Hp->Prop}{e:Expr}{es:List Expr}{x:Str}{C:Addr}{Ww:Hp->Prop}{np xC pos:Pos}
theorem lT{ta:TA}(O:XCl X.mg X.base x C)(acc:Acc X C Ww)(hc:X.calm=true)(hg:Gl X x)(ha:PA X (e::es) ta)(xX:(x==("__debug__" : Str))=false:=by decide)
  (he:starEach (e::es) X.env=(false,eval e X.env)::starEach es X.env:=by rfl) (xZ:(backTo xC (starEach es X.env)).any (·.1)=false:=by rfl):
  PX X (.Raise (some (.Call (.Name x np) (e::es) [] xC)) none pos::rest) (fun σ H=>ta σ H fun vs H1=>vs.length<=sizeLine/\Ww H1):=by
 intro pr s σ H I h;obtain⟨B,nw,ini,bm,FB,O⟩:=O;obtain⟨tl,N,nm,q,bs,hdct,sn,sub,ab,col,dd,k0,k1,k2,k3,k5,mN,hC,hN,EY,T⟩:=O.obj;refine F4 (wpAny_Raise_call_subT (C:=C) (nm:=nm) (q:=q) (N:=N) (bs:=bs) (bm:=tl) (hdct:=hdct) (sn:=sn) (sub:=sub) (ab:=ab) (col:=col) (dd:=dd) (k0:=k0) (k1:=k1) (k2:=k2) (k3:=k3) (k5:=k5) FB (mN:=mN) (T.hasType FB.hasBase) (I.ok.hd hc) (by rw[he];show(false||(backTo xC (starEach es X.env)).any (·.1))=false;rw[xZ];rfl) EY (eG I hg O.bound ⟨rfl,?_⟩ xX));have z:=ha xC pr s σ H _ I h;rw[he]at z ⊢;exact Calls.evalArgs_plain (FW z (fun us s2 ⟨vs,H1,I1,r,hl,hw⟩=>⟨rfl,by rw[<-r.length];exact hl,I1.bk _ _ hC,hN.keeps I1.bk,T.keeps I1.bk,fun h' a hm=>acc pr σ H1 s2 h' a us I1 hw hm⟩) fun _ _ y=>y)
theorem nZ(h1:PS X st t)(h2:PX X rest u):PX X (st::rest) (fun σ H=>t {nx:=u,rt:=fun _ _=>False} σ H):=by
 intro pr s σ H I h;refine F4 (xt (h1 pr s σ H _ I h) fun f s1 q=>?_);cases f with
 |next=>
  obtain⟨σ',H',I',q⟩:=q;exact h2 pr s1 σ' H' I' q
 |ret v=>obtain⟨_,_,_,_,_,q⟩:=q;exact q
 |brk=>obtain⟨_,_,_,q⟩:=q;exact q
 |cont=>obtain⟨_,_,_,q⟩:=q;exact q
theorem tR{c:Expr}{a b:List Stmt}{tc:TT}(hc:PT X c tc)(ha:PX X a u):PX X (.If c a b pos::rest) (fun σ H=>tc σ H fun bb H1=>bb=true/\u σ H1):=by
 intro pr s σ H I h;refine F4 (wpAny_If (xt (hc pr s σ H _ I h) fun d s1 xu=>?_));obtain⟨H1,I1,e,q⟩:=xu;subst e;exact FW (ha pr s1 σ H1 I1 q) (fun _ _ z=>z.elim) fun _ _ z=>z
theorem tS(h1:PX X rest u)(h2:PX X rest u'):PX X rest (fun σ H=>u σ H\/u' σ H):=fun pr s σ H I h=>h.elim (h1 pr s σ H I) (h2 pr s σ H I)
theorem eN(h:PX X rest u)(k:∀σ H,u' σ H->u σ H):PX X rest u':=fun pr s σ H I z=>h pr s σ H I (k σ H z)
theorem qu(h:PX X rest u):PSs X rest (fun _ σ H=>u σ H):=fun pr s σ H _ I z=>FW (h pr s σ H I z) (fun _ _ z=>z.elim) fun _ _ z=>z
theorem qv(h:PS X.nox st t):PS X st t:=fun pr s σ H D I hw=>FW (h pr s σ H D (I.wish _) hw) (fun _ _ q=>q.unwish) fun _ _ z=>False.elim z
theorem qw{t:TA}(h:PA X.nox es t):PA X es t:=fun p pr s σ H Q I hw=>FW (h p pr s σ H Q (I.wish _) hw) (fun _ _ ⟨v,H',I',r,q⟩=>⟨v,H',I'.unwish,r,q⟩) fun _ _ z=>False.elim z
end
def CtX(P:Program)(w:World)(K:W.Frag)(mg:Str->Option Value)(base:Heap)(x:Str)(k:Nat)(C:Addr)(sp:Sp):Prop:=
 ∃f fd ps,FnOk P w K mg base (Bu P w base C) k f fd ps sp/\mg x=some (.ref f)/\PySem.W.keepIn K (.ref f)=true/\Binds K fd ps []
theorem n1{P:Program}{w:World}{K:W.Frag}{mg:Str->Option Value}{base:Heap}{x qual:Str}{st:Stmt}{f C:Addr}{fd:FuncData}{N ps:List Str}{k:Nat}{sp:Sp}(F:Fun K x qual st f fd)(S:FnScope N ps (defScope st))(len:∀vs H Q E,sp vs H Q E->vs.length=ps.length)
  (zR:∀(xr:Value) (A:Around) (outer:List Env) (s:Shared) (H:Hp) (vs:List V) (Q:VK) (E:XK),Room k (A.deeper (envOfC qual (defScope st) s.heap.objs.size f xr))->sp vs H Q E->
   ∃t,PX (iR (Bu P w base C) P w K mg base N qual (defScope st) f xr A outer s H E) (bj st) t/\t (dQ N vs) H):FnOk P w K mg base (Bu P w base C) (k+1) f fd ps sp:=by
 obtain⟨oc,od,kV,doc,pm,an,xr,ct,Al,rfl,lk,zP⟩:=F.ex;refine qa lk zP S len fun A outer s H vs Q E hr AK=>?_
 obtain⟨t,h,q⟩:=zR xr A outer s H vs Q E hr AK;exact⟨_,qu h,q⟩
def XP(X:Cx)(pr:List (Addr×Obj))(σ:L2.St)(C:Addr)(Ww:Hp->Prop)(e:Value)(s':Shared):Prop:=∃(s1:Shared) (H1:Hp),Inv X pr σ H1 s1/\Bu X.prog X.w X.base C X.stack H1 s1 (fun _ _ H'=>Ww H') e s'
abbrev TX:=L2.St->Hp->(Hp->Prop)->Prop
def BI(X:Cx)(e:Expr)(C:Addr)(t:TX):Prop:=∀(pr:List (Addr×Obj)) (s:Shared) (σ:L2.St) (H:Hp) (Ww:Hp->Prop),Inv X pr σ H s->t σ H Ww->wpAny (model X.prog X.w) X.A (eval e X.env) (fun _ _=>False) (XP X pr σ C Ww) s
def PSX(X:Cx)(st:List Stmt)(C:Addr)(t:TX):Prop:=∀(pr:List (Addr×Obj)) (s:Shared) (σ:L2.St) (H:Hp) (Ww:Hp->Prop),Inv X pr σ H s->t σ H Ww->wpAny (model X.prog X.w) X.A (execs st X.env) (fun _ _=>False) (XP X pr σ C Ww) s
section
variable{X:Cx}{st:Stmt}{rest:List Stmt}{tx:TX}{e a b:Expr}{es:List Expr}{x:Str}{C:Addr}{k:Nat}{sp:Sp}{p pos:Pos}
theorem i0{t:TA}(c:CtX X.prog X.w X.K X.mg X.base x k C sp)(hr:Room k X.A)(hg:Gl X x)(ha:PA X.nox (e::es) t)(xX:(x==("__debug__" : Str))=false:=by decide)
  (he:starEach (e::es) X.env=(false,eval e X.env)::starEach es X.env:=by rfl) (xZ:(backTo pos (starEach es X.env)).any (·.1)=false:=by rfl):
  BI X (.Call (.Name x p) (e::es) [] pos) C (fun σ H Ww=>t σ H fun vs H1=>sp vs H1 (fun _ _=>False) fun _ _ H'=>Ww H'):=by
 intro pr s σ H Ww I h;obtain⟨f,fd,ps,F,m,kp,b⟩:=c;refine GJ (eG I hg m ?_ xX);refine Hs (h₀:=X.base) I.ok.mod.kin kp (FW (ha pos pr s σ H _ (I.wish _) h) (fun us s1 ⟨vs,H1,I1,r,q⟩=>⟨I1.kIn,?_⟩) fun _ _ z=>z.elim) he xZ;have I1:=I1.unwish;have hl:us.length=ps.length:=by rw[<-r.length];exact F.len _ _ _ _ q
 have hb:BindsTo s1 fd ⟨us,[]⟩ (ps.zip us):=by
  have:=b s1 us I1.kIn (by rw[FJ];exact hl);rw[FJ]at this;exact this
 refine wpAny_call (Hr (F.run X.A X.stack s1 H1 ⟨us,[]⟩ us vs _ _ hr I1.env0 hb r q) fun r s' hq=>?_);cases r with
 |error e=>exact⟨s1,H1,I1,hq⟩
 |ok fl=>
  cases fl with
  |ret u=>obtain⟨_,_,_,_,_,_,_,z⟩:=hq;exact z.elim
  |next=>exact False.elim hq
  |brk=>exact False.elim hq
  |cont=>exact False.elim hq
theorem lU(h:BI X e C tx)(hs:swapsWith e none pos.line X.env=pure false:=by rfl):PSX X (.Expr e pos::rest) C tx:=fun pr s σ H Ww I z=>
 F4 (Ia (FW (h pr s σ H Ww I z) (fun _ _ z=>z.elim) fun _ _ z=>z) I.quiet hs)
end
abbrev handX(X:Cx)(a:Addr):Cx:={X with A:=X.A.mark (some (.ref a)),calm:=false,xe:=fun _ _=>False}
theorem lV{X:Cx}{pr:List (Addr×Obj)}{σ:L2.St}{H:Hp}{s:Shared}(I:Inv X pr σ H s)(a:Addr):Inv (handX X a) pr σ H s:=
 ⟨⟨I.ok.mod,I.ok.kind,I.ok.glob,I.ok.blt,I.ok.above,I.ok.inj,I.ok.has,I.ok.cab,(fun z=>nomatch z),I.ok.frames,I.ok.stk,I.ok.exf,I.ok.bs,I.ok.bsz,I.ok.noex,I.ok.exfs,I.ok.funs,I.ok.frf⟩,I.os,I.bare,I.base,I.loc,I.cell,I.free,I.freeC,I.pin,I.hok,I.len⟩
open PySem.Builtin.ObjectAttr PySem.Builtin.Getset_descriptor
def ExAt(x D:Addr)(h:Heap):Prop:=∃o vs,h.get? x=some o/\o.cls=.ref D/\o.data=.fields vs
structure Asks(K:W.Frag)(D:Addr):Prop where
 ga:PySem.W.findIn K (.ref D) "__getattribute__" = some (some (.builtin "BaseException.__getattribute__"))
 gn:PySem.W.findIn K (.ref D) "__getattr__" = some none
 hc:PySem.W.hasDictIn K D=true
 fi:PySem.W.findIn K (.ref D) "__class__" = some (some (.builtin "object.__class__"))
 sp:PySem.W.specialIn K (.builtin "object.__class__") "__get__" = some (some (.builtin "getset_descriptor.__get__"))
 tk:PySem.W.takesIn K (.builtin "object.__class__")=some true
 mo:PySem.W.mroIn K D (.type "object")=some true
 mb:PySem.W.mroIn K D (.type "BaseException")=some true
theorem Asks.cls{K:W.Frag}{D:Addr}(k:Asks K D):∃cd,PySem.W.clsIn K D=some cd:=by
 obtain⟨cd,e,_⟩:=PySem.W.any_some k.hc;exact⟨cd,e⟩
section
variable{prog:Program}{w:World}{A:Around}{E:Value->Shared->Prop}{s:Shared}{K:W.Frag}{x D:Addr}
theorem ExAt.ty{M:Model}{h:Heap}(I:ExAt x D h):PySem.W.Looks M h (typeOf (.ref x)) (.ref D):=by
 obtain⟨o,vs,e,c,_⟩:=I;exact c▸(PySem.W.Looks.ld e).andThen .now
theorem lW{M:Model}{h:Heap}(k:Asks K D)(X:K.In h):PySem.W.Looks M h (find (.ref x) (.ref D) "__class__") (.bind (.builtin "getset_descriptor.__get__") (.builtin "object.__class__")):=by
 have T:=PySem.W.looks_takesIn (M:=M) X k.tk;have T':PySem.W.Looks M h (dataDescriptor? (some (.builtin "object.__class__")) (some (.builtin "getset_descriptor.__get__"))) (some (.builtin "getset_descriptor.__get__",.builtin "object.__class__")):=T.andThen .now;exact(Hh X k.fi).andThen ((show PySem.W.Looks M h (getOf (some (.builtin "object.__class__"))) (some (.builtin "getset_descriptor.__get__")) from PySem.W.looks_specialIn X k.sp).andThen (T'.andThen (PySem.W.Looks.tag .now)))
theorem n4{R:Result->Shared->Prop}{tp:Value}(k:Asks K D)(X:K.In s.heap)(I:ExAt x D s.heap)(h:R (.ok (.ret (.ref D))) s):
  codeAny (model prog w) A (.call (.builtin "getset_descriptor.__get__") ⟨[.builtin "object.__class__",.ref x,tp],[]⟩) R s:=by
 obtain⟨hp,gs,dr,tt,oo⟩:=s;have Ty:=I.ty (M:=model prog w);have Mo:=Hm (M:=model prog w) X k.mo;refine codeAny_call_builtin PySem.W.KF.slot_gs.plain PySem.W.KF.entry_gs (PySem.W.KF.slot_gs.check _ _ _ _ _ _ _ _ PySem.W.KF.type_class (PySem.W.KF.args_gs _ _ _) ?_);unfold Builtin.«getset_descriptor.__get__» descrGet;rw[PySem.W.dga_obj];refine Fs (FF ?_);unfold descrGetter descrCheckInstance descrNameAndClass isInstance;simp only[PySem.W.KF.owner_class];repeat lk
 refine⟨Code.quiet_builtin _ (by decide +kernel),codeAny_builtin PySem.W.KF.entry_class ?_⟩;unfold Builtin.«object.__class__» shownTypeOf;repeat lk
 exact h
theorem kj{tk:Tok}{Q:PySem.Fin->Shared->Prop}(k:Asks K D)(X:K.In s.heap)(I:ExAt x D s.heap)(h:Q (.done (.ret (.ref D))) s):
  wpAny (model prog w) A (Builtin.«object.__getattribute__» ⟨[.ref x,.str "__class__" tk],[]⟩) Q E s:=by
 obtain⟨hp,gs,dr,tt,oo⟩:=s;have Ty:=I.ty (M:=model prog w);have Fd:=lW (M:=model prog w) (x:=x) k X;unfold Builtin.«object.__getattribute__»;repeat (any_goals (first|assumption|with_reducible refine Ty.at ?_|with_reducible refine Fd.at ?_|wp_step))
 refine n4 k X I ?_;repeat (any_goals (first|assumption|wp_step))
theorem kl{M:Model}{nv:Value}{Q:Unit->Shared->Prop}(k:Asks K D)(X:K.In s.heap)(I:ExAt x D s.heap)(h:Q () s):wpAny M A (checkBuiltinCall "BaseException.__getattribute__" ⟨[.ref x,nv],[]⟩) Q E s:=by
 obtain⟨hp,gs,dr,tt,oo⟩:=s;have z1:builtinKind "BaseException.__getattribute__" = some .slot:=by decide +kernel
 have z2:splitId "BaseException.__getattribute__" = some ("BaseException","__getattribute__"):=by decide +kernel
 have z3:=F.args_bexc_ga (.ref x) nv;have Ty:=I.ty (M:=M);have Mb:=Hm (M:=M) X k.mb;simp only[checkBuiltinCall,z1,z2];refine Fs ?_;unfold isInstance;repeat (any_goals (first|assumption|with_reducible refine Ty.at ?_|with_reducible refine Mb.at ?_|wp_step))
theorem qx{tk:Tok}{fill ex:Bool}{Q:Value->Shared->Prop}(k:Asks K D)(X:K.In s.heap)(I:ExAt x D s.heap)(h:Q (.ref D) s):wpAny (model prog w) A (getAttrBy (.ref x) (.str "__class__" tk) fill ex) Q E s:=by
 obtain⟨hp,gs,dr,tt,oo⟩:=s;have Ty:=I.ty (M:=model prog w);have G1:=Hh (M:=model prog w) X k.ga;have G2:=Hh (M:=model prog w) X k.gn;have z0:(ex&&onTheHeap (Value.builtin "BaseException.__getattribute__"))=false:=by cases ex <;> rfl
 have z2:(Value.builtin "BaseException.__getattribute__" == Value.builtin "object.__getattribute__")=false:=by decide +kernel
 have z1:(onTheHeap (Value.ref D)&&Value.builtin "BaseException.__getattribute__" == Value.builtin "object.__getattribute__")=false:=by rw[z2];rfl
 have z3:=F.attr_ValueError.ga.bind (.ref x);repeat (any_goals (first|assumption|with_reducible refine Ty.at ?_|with_reducible refine G1.at ?_|with_reducible refine G2.at ?_|wp_step))
 refine codeAny_call_builtin F.attr_ValueError.ga.plain F.entry_bexc_ga (kl k X I (kj k X I ?_));repeat (any_goals (first|assumption|wp_step))
theorem km(k:Asks K D)(X:K.In s.heap)(I:ExAt x D s.heap){Q:Option Value->Shared->Prop}(h:Q (some (.ref D)) {s with toks:=s.toks+1}):wpAny (model prog w) A (getAttr? (.ref x) "__class__") Q E s:=by
 unfold getAttr? getAttrBy?;refine Fs (wpAny_mkText (Fs (wpAny_attempt (qx (s:={s with toks:=s.toks+1}) k X I (FF h)))))
theorem iA(k:Asks K D):PySem.W.KitX K (.ref x) (.ref D) (ExAt x D) where
 ty:=fun _ _ _ I=>I.ty
 it:=fun M h X _=>by
  obtain⟨cd,e⟩:=k.cls;unfold PySem.W.clsIn at e;split at e
  ·rename_i ho;intro A' Q' E' s' kk q;unfold isType loadHead;exact Fs (wpAny_loadPart (kk _ _ (X _ _ ho)) (FF q))
  ·cases e
 ne:=fun h tp dd wZ n sl X htp=>by
  obtain⟨cd,e⟩:=k.cls;refine Bool.eq_false_iff.mpr fun q=>?_
  cases Value.ref.inj (Gh.mp q);unfold PySem.W.clsIn at e;split at e
  ·rename_i ho;cases(X _ _ ho).symm.trans htp
  ·cases e
 ca:=fun X I h=>km k X I h
end
abbrev asX(X:Cx)(a:Addr)(o:Obj):Cx:={X with A:=X.A.mark (some (.ref a)),calm:=false,xe:=fun _ _=>False,pn:=(a,o)::X.pn}
section
variable{X:Cx}{pr:List (Addr×Obj)}{σ:L2.St}{H:Hp}{s:Shared}{a:Addr}{o:Obj}
theorem qy(I:Inv X pr σ H s)(h1:s.heap.get? a=some o)(h2:H a=none)(h3:a≠X.env.locals)(h4:a∉X.fs)(h5:∀v,o.data≠.cell v):Inv (asX X a o) pr σ H s:=
 ⟨⟨I.ok.mod,I.ok.kind,I.ok.glob,I.ok.blt,I.ok.above,I.ok.inj,I.ok.has,I.ok.cab,(fun z=>nomatch z),I.ok.frames,I.ok.stk,I.ok.exf,I.ok.bs,I.ok.bsz,I.ok.noex,I.ok.exfs,I.ok.funs,I.ok.frf⟩,I.os,I.bare,I.base,I.loc,I.cell,I.free,I.freeC,fun p hp=>by
  rcases FK.mp (show p∈(a,o)::(X.pn++pr) from hp) with rfl|hp
  ·exact⟨h1,h2,h3,h4,h5⟩
  ·exact I.pin p hp,I.hok,I.len⟩
theorem lX{i:Nat}{x:Str}{m:Str->Option Value}{v:Option Value}{h':Heap}{t':Nat}(I:Inv X pr σ H s)(hN:X.N.Nodup)(hi:X.N[i]?=some x)(hm:s.heap.Ns X.env.locals m)
  (hn:h'.Ns X.env.locals (fun y=>if y=x then v else m y)) (hs:Heap.SameBut X.env.locals s.heap h'):Inv X pr (σ.set i none) H {s with heap:=h',toks:=t'}:=by
 have En:∀b o,X.s₀.heap.get? b=some o->b≠X.env.locals:=fun b o e=>FL (Fu (Fy e) I.ok.above)
 have hl:i<σ.length:=by rw[I.len];exact(FE.mp hi).1
 refine⟨I.ok,I.os,I.bare,⟨fun b o e n hb hx=>?_,fun b o e n hb hx=>?_,I.base.free,fun b o e hx=>?_,I.base.tups,I.base.frzs,I.base.tbls⟩,⟨_,hn,fun j y v' e1 e2 e3=>?_⟩,fun y c e=>?_,I.free,I.freeC,fun p hp=>?_,fun b ob e=>?_,by rw[HM];exact I.len⟩
 ·rw[hs.2 b (En b o e)];exact I.base.keep b o e n hb hx
 ·rw[hs.2 b (En b o e)];exact I.base.slot b o e n hb hx
 ·rw[hs.2 b (En b o e)];exact I.base.there b o e hx
 ·have hj:j≠i:=fun z=>by
   subst z;rw[Gk hl]at e2;cases e2
  rw[GU (Ig hj)]at e2;obtain⟨m',hm',DS⟩:=I.loc;obtain⟨u',r',q⟩:=DS j y v' e1 e2 e3;refine⟨u',r',?_⟩;rcases q with⟨kk,e⟩|⟨kk,c,e,z⟩
  ·refine .inl ⟨kk,?_⟩;have ne:y≠x:=fun e=>hj (gd hN e1 (e▸hi))
   dsimp only;rw[F3 ne];obtain⟨o1,Eo,ep1,a1,b1,c1,d1⟩:=hm;obtain⟨o2,Cv,ep2,a2,b2,c2,d2⟩:=hm';rw[a1]at a2;cases a2;rw[b1]at b2;cases b2;rw[<-d1 y,d2 y];exact e
  ·exact .inr ⟨kk,c,e,z.sameBut hs (I.cne y c e)⟩
 ·obtain⟨w',z⟩:=I.cell y c e;exact⟨w',z.sameBut hs (I.cne y c e)⟩
 ·obtain⟨e,n,ne,nf,d⟩:=I.pin p hp;exact⟨(hs.2 p.1 ne).trans e,n,ne,nf,d⟩
 ·refine(I.hok b ob e).stay (fun c w' hc q=>(hs.2 c ?_).trans q) (fun _ q=>q) fun _ _ q=>q
  rintro rfl;rcases hc with rfl|hc
  ·rw[I.free]at e;cases e
  ·rw[I.free]at hc;cases hc
end
end NX
namespace NX
open PySem PySem.W PySem.Spec PyProof.Rows L2
section
variable{prog:Program}{w:World}{A:Around}{E:Value->Shared->Prop}{s:Shared}
end
section
variable{X:Cx}
end
end NX
namespace NX
open PySem PySem.Spec PyProof.Rows L2
section
variable{X:Cx}{es:List Expr}{kt:Nat}{pt:Pos}
end
end NX
namespace NX
open PySem
namespace ST
def cy(m:Nat):Nat->Nat->Nat
 | 0,i=>i
 |l+1,i=>cy m l ((i*5+1)%(m+1))
end ST
end NX
namespace NX
open PySem
namespace ST
def Up(l:List Nat):Prop:=l.Pairwise (·< ·)
theorem Up.lt{xs:Array Nat}(h:Up xs.toList){a b u v:Nat}(hab:a<b)(hu:xs[a]?=some u)(hv:xs[b]?=some v):u<v:=by
 unfold Up at h;rw[List.pairwise_iff_getElem]at h;obtain⟨h1,e1⟩:=Ho.mp hu;obtain⟨h2,e2⟩:=Ho.mp hv;have:=h a b (by rw[Gd];exact h1) (by rw[Gd];exact h2) hab;rw[HZ,HZ,e1,e2]at this;exact this
end ST
end NX
namespace NX
open PySem
namespace ST
def own(o:Array (Option Nat))(l:List Nat):List (Nat×Nat):=l.filterMap fun j=>(o.getD j none).map (j,·)
end ST
end NX
namespace NX
open PySem
namespace ST
section
variable{prog:Program}{w:World}{K:Type}[DecidableEq K]{knd:KeyKind prog w K}{A:Around}{E:Value->Shared->Prop}{s:Shared}
end
end ST
end NX
namespace NX
open PySem
namespace ST
section
variable{prog:Program}{w:World}{K:Type}[DecidableEq K]{knd:KeyKind prog w K}{A:Around}{E:Value->Shared->Prop}{s:Shared}
end
end ST
end NX
namespace NX
open PySem
namespace ST
section
variable{prog:Program}{w:World}{K:Type}[DecidableEq K]{knd:KeyKind prog w K}{A:Around}{E:Value->Shared->Prop}{s:Shared}
end
end ST
end NX
namespace NX
open PySem
namespace ST
section
variable{prog:Program}{w:World}{K:Type}[DecidableEq K]{knd:KeyKind prog w K}{A:Around}
def met(kf:Nat->List K):Nat->List (List K)
 | 0=>[]
 |i+1=>if kf i∈met kf i then met kf i else kf i::met kf i
variable{R:Result->Shared->Prop}{I:Addr}{fp wr:List Addr}{G:Array GenState->Array GenState->Prop}{n:Nat}{P:Nat->Value->Prop}{St:Nat->Shared->Prop}
end
end ST
end NX
namespace NX
open PySem
namespace ST
section
variable{prog:Program}{w:World}{K:Type}[DecidableEq K]{knd:KeyKind prog w K}{A:Around}{E:Value->Shared->Prop}{s:Shared}
end
end ST
end NX
namespace NX
open PySem PySem.Spec PyProof.Rows L2
namespace ST
section
variable{X:Cx}{e:Expr}{ta:TA}{p p2 pos Ag:Pos}
end
end ST
end NX
namespace NX
open PySem PySem.Spec PyProof.Rows L2
namespace ST
section
variable{X:Cx}{e:Expr}{ta:TA}{p p2 pos Ag:Pos}
end
end ST
end NX
namespace NX
open PySem PySem.Spec PyProof.Rows L2
section
variable{X:Cx}{rest:List Stmt}{tx:TX}{e a b:Expr}{C:Addr}{pos p:Pos}{Ww:Hp->Prop}
end
open PySem.Builtin.ObjectAttr PySem.Builtin.Getset_descriptor
section
variable{M:Model}{A:Around}{E:Value->Shared->Prop}{K:W.Frag}{C P N ab:Addr}
theorem lY{nm q bs bm hdct sn sub ab col dd k0 k1 k2 k3 k5 newId}{s:Shared}{e:Addr}{oe:Obj}{Q:Bool->Shared->Prop}(X:K.In s.heap)(up:PySem.W.mroIn K C (.ref P)=some true)
  (hP:s.heap.get? P=some (excClassObj nm q P N bs bm hdct sn sub ab col dd k0 k1 k2 k3 k5 newId)) (he:s.heap.get? e=some oe) (BA:oe.cls=.ref C) (zg:bm.contains (.type "BaseException")=true)
  (hq:Q true s):wpAny M A (excMatches (.ref e) (.ref P)) Q E s:=by
 obtain⟨h,g,d,t,os⟩:=s;have Mp:=Hm (M:=M) X up;have hcB:(Value.ref P::bm).contains (.type "BaseException")=true:=by rw[List.contains_cons,zg,Ht]
 have f:=tc_notTuple;unfold excMatches;repeat (first|(with_reducible refine wpAny_loadPart_at he ?_;rw[BA])|with_reducible refine wpAny_loadPart_at hP ?_|(with_reducible refine wpAny_isSubtype_exc hP ?_;rw[hcB])|with_reducible refine Mp.at ?_|wp_step)
 exact hq
end
end NX
namespace PV
open PySem L2 NX
inductive D where
 |non|bl (b:Bool)|int (i:Int)|str (l:List Nat)|tup (ds:List D)|lst (ds:List D)|dct (tk:Bool) (ks vs:List D)
inductive O where
 |f|l (c:O)|t (cs:List O)|d|pin (p:Addr) (c:O)
abbrev R:=O×D
abbrev Env:=List (Option R)
inductive Res(α:Type) where
 |ok (a:α)|exc (c:List Nat)|bad
def kD:Key->D
 | .inl i=>.int i
 | .inr x=>.str x.cps.toList
def isM:HO->Bool
 | .lst _=>true
 | .dK _=>true
 | .dT _=>true
 |_=>false
def Cw:HO->Bool
 | .tup _=>true
 | .frz _ (.tup _)=>true
 |_=>false
def tT:Key->Prop
 | .inl _=>True
 | .inr x=>x.cps.toList.length<=sizeLine
def DictO(o:HO)(tk:Bool)(ks:List D)(xs:List V):Prop:=match tk with
 |true=>∃w9:List (List Key×V),o=.dT w9/\ks=w9.map (fun kv=>D.tup (kv.1.map kD))/\xs=w9.map (·.2)/\∀kv∈w9,∀k∈kv.1,tT k
 |false=>∃w9:List (Key×V),o=.dK w9/\ks=w9.map (fun kv=>kD kv.1)/\xs=w9.map (·.2)/\∀kv∈w9,tT kv.1
mutual
noncomputable def Rep(K:W.Frag)(G:Hp):D->V->Prop
 | .non,v=>v=.non
 | .bl b,v=>v=.bl b
 | .int i,v=>v=.int i
 | .str l,v=>v=.str (S l)/\l.length<=sizeLine
 | .tup ds,v=>∃p xs,v=.ref p/\G p=some (.tup xs)/\Reps K G ds xs
 | .lst ds,v=>∃p xs,v=.ref p/\SqL K G p xs/\Reps K G ds xs
 | .dct tk ks vs,v=>∃p xs o,v=.ref p/\Rd G p o/\DictO o tk ks xs/\Reps K G vs xs
noncomputable def Reps(K:W.Frag)(G:Hp):List D->List V->Prop
 |[],xs=>xs=[]
 |d::ds,xs=>∃y ys,xs=y::ys/\Rep K G d y/\Reps K G ds ys
end
def AllO(P:D->V->List Addr->Prop):List D->List V->List Addr->Prop
 |[],xs,fp=>xs=[]/\fp=[]
 |d::ds,xs,fp=>∃y ys a b,xs=y::ys/\fp=a++b/\P d y a/\AllO P ds ys b
mutual
noncomputable def RepO(K:W.Frag)(G H:Hp):O->D->V->List Addr->Prop
 | .f,d,v,fp=>Rep K G d v/\fp=[]
 | .l c,.lst ds,v,fp=>∃p xs wV,v=.ref p/\H p=some (.lst xs)/\fp=p::wV/\AllO (RepO K G H c) ds xs wV
 | .t cs,.tup ds,v,fp=>∃p xs,v=.ref p/\G p=some (.tup xs)/\RepT K G H cs ds xs fp
 | .d,.dct tk ks vs,v,fp=>∃p xs o,v=.ref p/\H p=some o/\DictO o tk ks xs/\fp=[p]/\Reps K G vs xs
 | .pin p c,d,v,fp=>v=.ref p/\RepO K G H c d v fp
 |_,_,_,_=>False
noncomputable def RepT(K:W.Frag)(G H:Hp):List O->List D->List V->List Addr->Prop
 |[],[],xs,fp=>xs=[]/\fp=[]
 |c::cs,d::ds,xs,fp=>∃y ys a b,xs=y::ys/\fp=a++b/\RepO K G H c d y a/\RepT K G H cs ds ys b
 |_,_,_,_=>False
end
section
variable{K:W.Frag}{G G' H H':Hp}
theorem Rd.mono{p:Addr}{u:HO}(h:Same G G')(r:Rd G p u):Rd G' p u:=by
 rcases r with r|⟨o,r⟩
 ·exact .inl (h _ _ r)
 ·exact .inr ⟨o,h _ _ r⟩
theorem dB{p:Addr}{xs:List V}(h:Same G G')(r:SqL K G p xs):SqL K G' p xs:=r.elim (fun r=>.inl (Rd.mono h r)) .inr
theorem bQ{p:Addr}{xs:List V}(h:Same G G')(r:SqT K G p xs):SqT K G' p xs:=r.elim (fun r=>.inl (Rd.mono h r)) .inr
mutual
theorem Rep.mono(h:Same G G'):∀{d:D}{v:V},Rep K G d v->Rep K G' d v
 | .non,_,r=>by simpa only[Rep] using r
 | .bl _,_,r=>by simpa only[Rep] using r
 | .int _,_,r=>by simpa only[Rep] using r
 | .str _,_,r=>by simpa only[Rep] using r
 | .tup ds,_,r=>by
  simp only[Rep]at r ⊢;obtain⟨p,xs,e,q,rs⟩:=r;exact⟨p,xs,e,h _ _ q,Reps.mono h rs⟩
 | .lst ds,_,r=>by
  simp only[Rep]at r ⊢;obtain⟨p,xs,e,q,rs⟩:=r;exact⟨p,xs,e,dB h q,Reps.mono h rs⟩
 | .dct tk ks vs,_,r=>by
  simp only[Rep]at r ⊢;obtain⟨p,xs,o,e,q,dd,rs⟩:=r;exact⟨p,xs,o,e,Rd.mono h q,dd,Reps.mono h rs⟩
theorem Reps.mono(h:Same G G'):∀{ds:List D}{xs:List V},Reps K G ds xs->Reps K G' ds xs
 |[],_,r=>by simpa only[Reps] using r
 |d::ds,_,r=>by
  simp only[Reps]at r ⊢;obtain⟨y,ys,e,r1,r2⟩:=r;exact⟨y,ys,e,Rep.mono h r1,Reps.mono h r2⟩
end
theorem AllO.imp{P P':D->V->List Addr->Prop}:∀{ds:List D}{xs:List V}{fp:List Addr},(∀d v a,(∀p∈a,p∈fp)->P d v a->P' d v a)->AllO P ds xs fp->AllO P' ds xs fp
 |[],_,_,_,r=>r
 |d::ds,xs,fp,h,r=>by
  obtain⟨y,ys,a,b,e1,e2,p,q⟩:=r;subst e2;exact⟨y,ys,a,b,e1,rfl,h _ _ _ (fun p hp=>Fz _ hp) p,AllO.imp (fun d v c hc=>h d v c fun p hp=>Fo _ (hc p hp)) q⟩
mutual
theorem RepO.step(h:Same G G'):∀{o:O}{d:D}{v:V}{fp:List Addr},(∀p∈fp,H' p=H p)->RepO K G H o d v fp->RepO K G' H' o d v fp
 | .f,d,v,fp,hk,r=>by
  simp only[RepO]at r ⊢;exact⟨Rep.mono h r.1,r.2⟩
 | .pin p c,d,v,fp,hk,r=>by
  simp only[RepO]at r ⊢;exact⟨r.1,RepO.step h hk r.2⟩
 | .l c,.lst ds,v,fp,hk,r=>by
  simp only[RepO]at r ⊢;obtain⟨p,xs,wV,e,q,e2,a⟩:=r;subst e2;exact⟨p,xs,wV,e,(hk p Fm).trans q,rfl,AllO.imp (fun d v c hc=>RepO.step h fun z hz=>hk z (Ft _ (hc z hz))) a⟩
 | .t cs,.tup ds,v,fp,hk,r=>by
  simp only[RepO]at r ⊢;obtain⟨p,xs,e,q,a⟩:=r;exact⟨p,xs,e,h _ _ q,RepT.step h hk a⟩
 | .d,.dct tk ks vs,v,fp,hk,r=>by
  simp only[RepO]at r ⊢;obtain⟨p,xs,o,e,q,dd,e2,rs⟩:=r;subst e2;exact⟨p,xs,o,e,(hk p Fm).trans q,dd,rfl,Reps.mono h rs⟩
 | .l _,.non,_,_,_,r | .l _,.bl _,_,_,_,r | .l _,.int _,_,_,_,r | .l _,.str _,_,_,_,r | .l _,.tup _,_,_,_,r | .l _,.dct _ _ _,_,_,_,r=>by simp only[RepO]at r
 | .t _,.non,_,_,_,r | .t _,.bl _,_,_,_,r | .t _,.int _,_,_,_,r | .t _,.str _,_,_,_,r | .t _,.lst _,_,_,_,r | .t _,.dct _ _ _,_,_,_,r=>by simp only[RepO]at r
 | .d,.non,_,_,_,r | .d,.bl _,_,_,_,r | .d,.int _,_,_,_,r | .d,.str _,_,_,_,r | .d,.tup _,_,_,_,r | .d,.lst _,_,_,_,r=>by simp only[RepO]at r
theorem RepT.step(h:Same G G'):∀{cs:List O}{ds:List D}{xs:List V}{fp:List Addr},(∀p∈fp,H' p=H p)->RepT K G H cs ds xs fp->RepT K G' H' cs ds xs fp
 |[],[],_,_,_,r=>by simpa only[RepT] using r
 |c::cs,d::ds,xs,fp,hk,r=>by
  simp only[RepT]at r ⊢;obtain⟨y,ys,a,b,e1,e2,r1,r2⟩:=r;subst e2;exact⟨y,ys,a,b,e1,rfl,RepO.step h (fun p hp=>hk p (Fz _ hp)) r1,RepT.step h (fun p hp=>hk p (Fo _ hp)) r2⟩
 |[],_::_,_,_,_,r=>by simp only[RepT]at r
 |_::_,[],_,_,_,r=>by simp only[RepT]at r
end
theorem AllO.frozen{P:D->V->List Addr->Prop}:∀{ds:List D}{xs:List V}{fp:List Addr},(∀d v a,(∀p∈a,p∈fp)->P d v a->Rep K G' d v)->AllO P ds xs fp->Reps K G' ds xs
 |[],_,_,_,r=>by simp only[Reps];exact r.1
 |d::ds,xs,fp,h,r=>by
  obtain⟨y,ys,a,b,e1,e2,p,q⟩:=r;subst e2;simp only[Reps];exact⟨y,ys,e1,h _ _ _ (fun p hp=>Fz _ hp) p,AllO.frozen (fun d v c hc=>h d v c fun p hp=>Fo _ (hc p hp)) q⟩
mutual
theorem RepO.frozen(h:Same G G'):∀{o:O}{d:D}{v:V}{fp:List Addr},(∀p∈fp,∀u,H p=some u->G' p=some u)->RepO K G H o d v fp->Rep K G' d v
 | .f,d,v,fp,hk,r=>by
  simp only[RepO]at r;exact Rep.mono h r.1
 | .pin p c,d,v,fp,hk,r=>by
  simp only[RepO]at r;exact RepO.frozen h hk r.2
 | .l c,.lst ds,v,fp,hk,r=>by
  simp only[RepO]at r;simp only[Rep];obtain⟨p,xs,wV,e,q,e2,a⟩:=r;subst e2;exact⟨p,xs,e,SqL.of (hk p Fm _ q),AllO.frozen (fun d v c hc=>RepO.frozen h fun z hz=>hk z (Ft _ (hc z hz))) a⟩
 | .t cs,.tup ds,v,fp,hk,r=>by
  simp only[RepO]at r;simp only[Rep];obtain⟨p,xs,e,q,a⟩:=r;exact⟨p,xs,e,h _ _ q,RepT.frozen h hk a⟩
 | .d,.dct tk ks vs,v,fp,hk,r=>by
  simp only[RepO]at r;simp only[Rep];obtain⟨p,xs,o,e,q,dd,e2,rs⟩:=r;subst e2;exact⟨p,xs,o,e,.inl (hk p Fm _ q),dd,Reps.mono h rs⟩
 | .l _,.non,_,_,_,r | .l _,.bl _,_,_,_,r | .l _,.int _,_,_,_,r | .l _,.str _,_,_,_,r | .l _,.tup _,_,_,_,r | .l _,.dct _ _ _,_,_,_,r=>by simp only[RepO]at r
 | .t _,.non,_,_,_,r | .t _,.bl _,_,_,_,r | .t _,.int _,_,_,_,r | .t _,.str _,_,_,_,r | .t _,.lst _,_,_,_,r | .t _,.dct _ _ _,_,_,_,r=>by simp only[RepO]at r
 | .d,.non,_,_,_,r | .d,.bl _,_,_,_,r | .d,.int _,_,_,_,r | .d,.str _,_,_,_,r | .d,.tup _,_,_,_,r | .d,.lst _,_,_,_,r=>by simp only[RepO]at r
theorem RepT.frozen(h:Same G G'):∀{cs:List O}{ds:List D}{xs:List V}{fp:List Addr},(∀p∈fp,∀u,H p=some u->G' p=some u)->RepT K G H cs ds xs fp->Reps K G' ds xs
 |[],[],_,_,_,r=>by simp only[RepT]at r;simp only[Reps];exact r.1
 |c::cs,d::ds,xs,fp,hk,r=>by
  simp only[RepT]at r;simp only[Reps];obtain⟨y,ys,a,b,e1,e2,r1,r2⟩:=r;subst e2;exact⟨y,ys,e1,RepO.frozen h (fun p hp=>hk p (Fz _ hp)) r1,RepT.frozen h (fun p hp=>hk p (Fo _ hp)) r2⟩
 |[],_::_,_,_,_,r=>by simp only[RepT]at r
 |_::_,[],_,_,_,r=>by simp only[RepT]at r
end
theorem AllO.live{P:D->V->List Addr->Prop}:∀{ds:List D}{xs:List V}{fp:List Addr},(∀d v a,P d v a->∀p∈a,∃u,H p=some u)->AllO P ds xs fp->∀p∈fp,∃u,H p=some u
 |[],_,_,_,r=>by rw[r.2];intro p hp;cases hp
 |d::ds,xs,fp,h,r=>by
  obtain⟨y,ys,a,b,e1,e2,p,q⟩:=r;subst e2;intro z hz;rcases FQ.mp hz with hz|hz
  ·exact h _ _ _ p z hz
  ·exact AllO.live h q z hz
mutual
theorem RepO.live:∀{o:O}{d:D}{v:V}{fp:List Addr},RepO K G H o d v fp->∀p∈fp,∃u,H p=some u
 | .f,d,v,fp,r=>by
  simp only[RepO]at r;rw[r.2];intro p hp;cases hp
 | .pin p c,d,v,fp,r=>by
  simp only[RepO]at r;exact RepO.live r.2
 | .l c,.lst ds,v,fp,r=>by
  simp only[RepO]at r;obtain⟨p,xs,wV,e,q,e2,a⟩:=r;subst e2;intro z hz;rcases FK.mp hz with rfl|hz
  ·exact⟨_,q⟩
  ·exact AllO.live (fun d v a=>RepO.live) a z hz
 | .t cs,.tup ds,v,fp,r=>by
  simp only[RepO]at r;obtain⟨p,xs,e,q,a⟩:=r;exact RepT.live a
 | .d,.dct tk ks vs,v,fp,r=>by
  simp only[RepO]at r;obtain⟨p,xs,o,e,q,dd,e2,rs⟩:=r;subst e2;intro z hz;rw[Gy]at hz;exact⟨_,hz▸q⟩
 | .l _,.non,_,_,r | .l _,.bl _,_,_,r | .l _,.int _,_,_,r | .l _,.str _,_,_,r | .l _,.tup _,_,_,r | .l _,.dct _ _ _,_,_,r=>by simp only[RepO]at r
 | .t _,.non,_,_,r | .t _,.bl _,_,_,r | .t _,.int _,_,_,r | .t _,.str _,_,_,r | .t _,.lst _,_,_,r | .t _,.dct _ _ _,_,_,r=>by simp only[RepO]at r
 | .d,.non,_,_,r | .d,.bl _,_,_,r | .d,.int _,_,_,r | .d,.str _,_,_,r | .d,.tup _,_,_,r | .d,.lst _,_,_,r=>by simp only[RepO]at r
theorem RepT.live:∀{cs:List O}{ds:List D}{xs:List V}{fp:List Addr},RepT K G H cs ds xs fp->∀p∈fp,∃u,H p=some u
 |[],[],_,_,r=>by
  simp only[RepT]at r;rw[r.2];intro p hp;cases hp
 |c::cs,d::ds,xs,fp,r=>by
  simp only[RepT]at r;obtain⟨y,ys,a,b,e1,e2,r1,r2⟩:=r;subst e2;intro z hz;rcases FQ.mp hz with hz|hz
  ·exact RepO.live r1 z hz
  ·exact RepT.live r2 z hz
 |[],_::_,_,_,r=>by simp only[RepT]at r
 |_::_,[],_,_,r=>by simp only[RepT]at r
end
theorem DictO.isM{o:HO}{tk:Bool}{ks:List D}{xs:List V}(h:DictO o tk ks xs):PV.isM o=true:=by
 cases tk with
 |true=>
  obtain⟨w9,e,_⟩:=h;rw[e];rfl
 |false=>
  obtain⟨w9,e,_⟩:=h;rw[e];rfl
theorem AllO.mut{P:D->V->List Addr->Prop}:∀{ds:List D}{xs:List V}{fp:List Addr},(∀d v a,P d v a->∀p∈a,∃u,H p=some u/\isM u=true)->AllO P ds xs fp->∀p∈fp,∃u,H p=some u/\isM u=true
 |[],_,_,_,r=>by rw[r.2];intro p hp;cases hp
 |d::ds,xs,fp,h,r=>by
  obtain⟨y,ys,a,b,e1,e2,p,q⟩:=r;subst e2;intro z hz;rcases FQ.mp hz with hz|hz
  ·exact h _ _ _ p z hz
  ·exact AllO.mut h q z hz
mutual
theorem RepO.mut:∀{o:O}{d:D}{v:V}{fp:List Addr},RepO K G H o d v fp->∀p∈fp,∃u,H p=some u/\isM u=true
 | .f,d,v,fp,r=>by
  simp only[RepO]at r;rw[r.2];intro p hp;cases hp
 | .pin p c,d,v,fp,r=>by
  simp only[RepO]at r;exact RepO.mut r.2
 | .l c,.lst ds,v,fp,r=>by
  simp only[RepO]at r;obtain⟨p,xs,wV,e,q,e2,a⟩:=r;subst e2;intro z hz;rcases FK.mp hz with rfl|hz
  ·exact⟨_,q,rfl⟩
  ·exact AllO.mut (fun d v a=>RepO.mut) a z hz
 | .t cs,.tup ds,v,fp,r=>by
  simp only[RepO]at r;obtain⟨p,xs,e,q,a⟩:=r;exact RepT.mut a
 | .d,.dct tk ks vs,v,fp,r=>by
  simp only[RepO]at r;obtain⟨p,xs,o,e,q,dd,e2,rs⟩:=r;subst e2;intro z hz;rw[Gy]at hz;exact⟨_,hz▸q,dd.isM⟩
 | .l _,.non,_,_,r | .l _,.bl _,_,_,r | .l _,.int _,_,_,r | .l _,.str _,_,_,r | .l _,.tup _,_,_,r | .l _,.dct _ _ _,_,_,r=>by simp only[RepO]at r
 | .t _,.non,_,_,r | .t _,.bl _,_,_,r | .t _,.int _,_,_,r | .t _,.str _,_,_,r | .t _,.lst _,_,_,r | .t _,.dct _ _ _,_,_,r=>by simp only[RepO]at r
 | .d,.non,_,_,r | .d,.bl _,_,_,r | .d,.int _,_,_,r | .d,.str _,_,_,r | .d,.tup _,_,_,r | .d,.lst _,_,_,r=>by simp only[RepO]at r
theorem RepT.mut:∀{cs:List O}{ds:List D}{xs:List V}{fp:List Addr},RepT K G H cs ds xs fp->∀p∈fp,∃u,H p=some u/\isM u=true
 |[],[],_,_,r=>by
  simp only[RepT]at r;rw[r.2];intro p hp;cases hp
 |c::cs,d::ds,xs,fp,r=>by
  simp only[RepT]at r;obtain⟨y,ys,a,b,e1,e2,r1,r2⟩:=r;subst e2;intro z hz;rcases FQ.mp hz with hz|hz
  ·exact RepO.mut r1 z hz
  ·exact RepT.mut r2 z hz
 |[],_::_,_,_,r=>by simp only[RepT]at r
 |_::_,[],_,_,r=>by simp only[RepT]at r
end
noncomputable def RepE(K:W.Frag)(G H:Hp):Env->List (Option V)->List Addr->Prop
 |[],vs,fp=>vs=[]/\fp=[]
 |e::es,vs,fp=>∃y ys,vs=y::ys/\match e with
  |none=>RepE K G H es ys fp
  |some r=>∃v a b,y=some v/\fp=a++b/\RepO K G H r.1 r.2 v a/\RepE K G H es ys b
theorem RepE.step(h:Same G G'):∀{es:Env}{vs:List (Option V)}{fp:List Addr},(∀p∈fp,H' p=H p)->RepE K G H es vs fp->RepE K G' H' es vs fp
 |[],_,_,_,r=>r
 |none::es,vs,fp,hk,r=>by
  obtain⟨y,ys,e,r⟩:=r;exact⟨y,ys,e,RepE.step h hk r⟩
 |some r::es,vs,fp,hk,q=>by
  obtain⟨y,ys,e,v,a,b,e1,e2,r1,r2⟩:=q;subst e2;exact⟨y,ys,e,v,a,b,e1,rfl,RepO.step h (fun p hp=>hk p (Fz _ hp)) r1,RepE.step h (fun p hp=>hk p (Fo _ hp)) r2⟩
theorem RepE.live:∀{es:Env}{vs:List (Option V)}{fp:List Addr},RepE K G H es vs fp->∀p∈fp,∃u,H p=some u
 |[],_,_,r=>by
  rw[r.2];intro p hp;cases hp
 |none::es,vs,fp,r=>by
  obtain⟨y,ys,e,r⟩:=r;exact RepE.live r
 |some r::es,vs,fp,q=>by
  obtain⟨y,ys,e,v,a,b,e1,e2,r1,r2⟩:=q;subst e2;intro z hz;rcases FQ.mp hz with hz|hz
  ·exact r1.live z hz
  ·exact RepE.live r2 z hz
theorem RepE.mut:∀{es:Env}{vs:List (Option V)}{fp:List Addr},RepE K G H es vs fp->∀p∈fp,∃u,H p=some u/\isM u=true
 |[],_,_,r=>by
  rw[r.2];intro p hp;cases hp
 |none::es,vs,fp,r=>by
  obtain⟨y,ys,e,r⟩:=r;exact RepE.mut r
 |some r::es,vs,fp,q=>by
  obtain⟨y,ys,e,v,a,b,e1,e2,r1,r2⟩:=q;subst e2;intro z hz;rcases FQ.mp hz with hz|hz
  ·exact r1.mut z hz
  ·exact RepE.mut r2 z hz
theorem RepE.length:∀{es:Env}{vs:List (Option V)}{fp:List Addr},RepE K G H es vs fp->vs.length=es.length
 |[],_,_,r=>by rw[r.1];rfl
 |none::es,vs,fp,r=>by
  obtain⟨y,ys,e,r⟩:=r;rw[e,Fv,Fv,RepE.length r]
 |some r::es,vs,fp,q=>by
  obtain⟨y,ys,e,v,a,b,e1,e2,r1,r2⟩:=q;rw[e,Fv,Fv,RepE.length r2]
theorem RepE.take:∀{es:Env}{vs:List (Option V)}{fp:List Addr}{i:Nat}{r:R},RepE K G H es vs fp->es[i]?=some (some r)->
  ∃v a b,vs[i]?=some (some v)/\RepO K G H r.1 r.2 v a/\RepE K G H (es.set i none) vs b/\fp.Perm (a++b)
 |[],_,_,_,_,_,e=>by simp at e
 |none::es,vs,fp,0,r,q,e=>by simp at e
 |some r'::es,vs,fp,0,r,q,e=>by
  obtain⟨y,ys,e0,v,a,b,e1,e2,r1,r2⟩:=q;simp at e;subst e;subst e0;subst e1;exact⟨v,a,b,rfl,r1,⟨some v,ys,rfl,r2⟩,by rw[e2]⟩
 |none::es,vs,fp,i+1,r,q,e=>by
  obtain⟨y,ys,e0,q⟩:=q;obtain⟨v,a,b,g1,g2,g3,g4⟩:=RepE.take q (i:=i) (r:=r) (by simpa using e);subst e0;exact⟨v,a,b,by simpa using g1,g2,⟨y,ys,rfl,g3⟩,g4⟩
 |some r'::es,vs,fp,i+1,r,q,e=>by
  obtain⟨y,ys,e0,v',a',b',e1,e2,r1,r2⟩:=q;obtain⟨v,a,b,g1,g2,g3,g4⟩:=RepE.take r2 (i:=i) (r:=r) (by simpa using e);subst e0;refine⟨v,a,a'++b,by simpa using g1,g2,⟨y,ys,rfl,v',a',b,e1,rfl,r1,g3⟩,?_⟩;rw[e2];refine(HN a' g4).trans ?_;rw[<-FD,<-FD];exact HI b HP
theorem RepE.put:∀{es:Env}{vs:List (Option V)}{b:List Addr}{i:Nat}{r:R}{v:V}{a:List Addr},RepE K G H es vs b->es[i]?=some none->RepO K G H r.1 r.2 v a->
  ∃fp,RepE K G H (es.set i (some r)) (vs.set i (some v)) fp/\fp.Perm (a++b)
 |[],_,_,_,_,_,_,_,e,_=>by simp at e
 |none::es,vs,b,0,r,v,a,q,e,ro=>by
  obtain⟨y,ys,e0,q⟩:=q;subst e0;exact⟨a++b,⟨some v,ys,rfl,v,a,b,rfl,rfl,ro,q⟩,.refl _⟩
 |some r'::es,vs,b,0,r,v,a,q,e,ro=>by simp at e
 |none::es,vs,b,i+1,r,v,a,q,e,ro=>by
  obtain⟨y,ys,e0,q⟩:=q;obtain⟨fp,g1,g2⟩:=RepE.put q (i:=i) (r:=r) (by simpa using e) ro;subst e0;exact⟨fp,⟨y,_,rfl,g1⟩,g2⟩
 |some r'::es,vs,b,i+1,r,v,a,q,e,ro=>by
  obtain⟨y,ys,e0,v',a',b',e1,e2,r1,r2⟩:=q;obtain⟨fp,g1,g2⟩:=RepE.put r2 (i:=i) (r:=r) (by simpa using e) ro;subst e0;refine⟨a'++fp,⟨y,_,rfl,v',a',fp,e1,rfl,r1,g1⟩,?_⟩;rw[e2];refine(HN a' g2).trans ?_;rw[<-FD,<-FD];exact HI b' HP
structure Rel(K:W.Frag)(G H:Hp)(es:Env)(vs:List (Option V))(fp:List Addr):Prop where
 rep:RepE K G H es vs fp
 nd:fp.Nodup
 gn:∀p∈fp,G p=none
 gh:Same G H
structure Step(G H:Hp)(fp:List Addr)(G' H':Hp)(wV:List Addr):Prop where
 gg:Same G G'
 keep:∀q u,H q=some u->q∉fp->H' q=some u
 fpn:∀q∈wV,q∈fp\/H q=none
 gnew:∀q u,G' q=some u->G q=some u\/q∈fp\/H q=none\/Cw u=true/\H q=some u
 there:∀q u,H q=some u->∃u',H' q=some u'
theorem Step.refl{fp:List Addr}:Step G H fp G H fp:=⟨.refl _,fun _ _ h _=>h,fun _ h=>.inl h,fun _ _ h=>.inl h,fun _ u h=>⟨u,h⟩⟩
theorem Step.trans{G1 H1 G2 H2:Hp}{fp xk xR:List Addr}(a:Step G H fp G1 H1 xk)(b:Step G1 H1 xk G2 H2 xR):Step G H fp G2 H2 xR:=by
 refine⟨a.gg.trans b.gg,fun q u h n=>?_,fun q hq=>?_,fun q u hq=>?_,fun q u h=>?_⟩
 ·refine b.keep q u (a.keep q u h n) fun hq=>?_
  rcases a.fpn q hq with z|z
  ·exact n z
  ·rw[z]at h;cases h
 ·rcases b.fpn q hq with z|z
  ·exact a.fpn q z
  ·cases e:H q with
   |none=>exact .inr rfl
   |some u=>
    obtain⟨u',e'⟩:=a.there q u e;rw[z]at e';cases e'
 ·rcases b.gnew q u hq with z|z|z|⟨t,z⟩
  ·exact a.gnew q u z
  ·exact .inr ((a.fpn q z).imp_right .inl)
  ·cases e:H q with
   |none=>exact .inr (.inr (.inl rfl))
   |some u=>
    obtain⟨u',e'⟩:=a.there q u e;rw[z]at e';cases e'
  ·cases e:H q with
   |none=>exact .inr (.inr (.inl rfl))
   |some u2=>
    by_cases hf:q∈fp
    ·exact .inr (.inl hf)
    ·rw[a.keep q u2 e hf]at z;cases z;exact .inr (.inr (.inr ⟨t,rfl⟩))
 ·obtain⟨u',h'⟩:=a.there q u h;exact b.there q u' h'
theorem Step.perm{fp fq wV C0:List Addr}(a:Step G H fp G' H' wV)(h:∀q,q∈fp<->q∈fq)(h':∀q∈C0,q∈wV):Step G H fq G' H' C0:=
 ⟨a.gg,fun q u e n=>a.keep q u e fun z=>n ((h q).mp z),fun q hq=>(a.fpn q (h' q hq)).imp_left (h q).mp,fun q u e=>(a.gnew q u e).imp_right (Or.imp_left (h q).mp),a.there⟩
theorem Step.wide{fp fq wV C0:List Addr}(a:Step G H fp G' H' wV)(h:∀q∈fp,q∈fq)(h':∀q∈C0,q∈wV\/q∈fq):Step G H fq G' H' C0:=
 ⟨a.gg,fun q u e n=>a.keep q u e fun z=>n (h q z),fun q hq=>(h' q hq).elim (fun z=>(a.fpn q z).imp_left (h q)) .inl,fun q u e=>(a.gnew q u e).imp_right (Or.imp_left (h q)),a.there⟩
theorem Rel.perm{es:Env}{vs:List (Option V)}{fp fq:List Addr}(r:RepE K G H es vs fq)(nd:fp.Nodup)(gn:∀p∈fp,G p=none)(gh:Same G H)(h:fp.Perm fq):Rel K G H es vs fq:=
 ⟨r,h.nodup_iff.mp nd,fun p hp=>gn p (h.mem_iff.mpr hp),gh⟩
theorem Rel.frame{r:R}{v:V}{es:Env}{vs:List (Option V)}{fp:List Addr}(q:Rel K G H (some r::es) (some v::vs) fp):
  ∃a b,fp=a++b/\RepO K G H r.1 r.2 v a/\Rel K G H es vs b/\∀(G' H':Hp) (Bz:Env) (CZ:List (Option V)) (b':List Addr),Step G H b G' H' b'->Rel K G' H' Bz CZ b'->
   Rel K G' H' (some r::Bz) (some v::CZ) (a++b')/\Step G H (a++b) G' H' (a++b'):=by
 obtain⟨y,ys,e,v',a,b,e1,e2,r1,r2⟩:=q.rep;cases e;cases e1;subst e2;have nd:=Gf.mp q.nd;refine⟨a,b,rfl,r1,⟨r2,nd.2.1,fun p hp=>q.gn p (Fo _ hp),q.gh⟩,fun G' H' Bz CZ b' st k=>?_⟩;have nb:∀p∈a,p∉b:=fun p hp hb=>nd.2.2 p hp p hb rfl
 have same:∀p∈a,H' p=H p:=fun p hp=>by
  obtain⟨u,hu⟩:=r1.live p hp;rw[hu];exact st.keep p u hu (nb p hp)
 refine⟨⟨⟨some v,CZ,rfl,v,a,b',rfl,rfl,r1.step st.gg same,k.rep⟩,?_,fun p hp=>?_,k.gh⟩,st.wide (fun p hp=>Fo _ hp) fun p hp=>?_⟩
 ·rw[Gf];refine⟨nd.1,k.nd,fun p hp z hz e=>?_⟩;subst e;obtain⟨u,hu⟩:=r1.live p hp;rcases st.fpn p hz with z|z
  ·exact nb p hp z
  ·rw[z]at hu;cases hu
 ·rcases FQ.mp hp with hp|hp
  ·cases e:G' p with
   |none=>rfl
   |some u=>
    exfalso;obtain⟨u',hu⟩:=r1.live p hp;rcases st.gnew p u e with z|z|z|⟨t,z⟩
    ·rw[q.gn p (Fz _ hp)]at z;cases z
    ·exact nb p hp z
    ·rw[z]at hu;cases hu
    ·obtain⟨u2,h2,hm⟩:=r1.mut p hp;rw[z]at h2;cases h2;cases u with
     |tup _=>cases hm
     |frz _ _=>cases hm
     |_=>cases t
  ·exact k.gn p hp
 ·rcases FQ.mp hp with hp|hp
  ·exact .inr (Fz _ hp)
  ·exact .inl hp
theorem Rel.freeze{r:R}{v:V}{es:Env}{vs:List (Option V)}{fp:List Addr}(q:Rel K G H (some r::es) (some v::vs) fp):
  ∃G' b,Rep K G' r.2 v/\Rel K G' H es vs b/\Step G H fp G' H b:=by
 obtain⟨y,ys,e,v',a,b,e1,e2,r1,r2⟩:=q.rep;cases e;cases e1;subst e2;have nd:=Gf.mp q.nd;have nb:∀p∈a,p∉b:=fun p hp hb=>nd.2.2 p hp p hb rfl
 have hg:Same G (fun p=>if p∈a then H p else G p):=fun p u e=>by
  show(if p∈a then H p else G p)=some u;by_cases hp:p∈a
  ·rw[FY hp];exact q.gh p u e
  ·rw[F3 hp];exact e
 refine⟨fun p=>if p∈a then H p else G p,b,r1.frozen hg fun p hp u e=>?_,⟨r2.step hg fun _ _=>rfl,nd.2.1,fun p hp=>?_,fun p u e=>?_⟩,⟨hg,fun _ _ e _=>e,fun p hp=>.inl (Fo _ hp),fun p u e=>?_,fun _ u e=>⟨u,e⟩⟩⟩
 ·show(if p∈a then H p else G p)=some u;rw[FY hp];exact e
 ·show(if p∈a then H p else G p)=none;rw[F3 (fun z=>nb p z hp)];exact q.gn p (Fo _ hp)
 ·have e:(if p∈a then H p else G p)=some u:=e;by_cases hp:p∈a
  ·rw[FY hp]at e;exact e
  ·rw[F3 hp]at e;exact q.gh p u e
 ·have e:(if p∈a then H p else G p)=some u:=e;by_cases hp:p∈a
  ·exact .inr (.inl (Fz _ hp))
  ·rw[F3 hp]at e;exact .inl e
end
section
variable{K:W.Frag}{G G' H H':Hp}{es:Env}{vs:List (Option V)}{fp:List Addr}
theorem i4:∀{ds:List D}{xs:List V}{fp:List Addr},AllO (RepO K G H .f) ds xs fp<->Reps K G ds xs/\fp=[]
 |[],xs,fp=>by simp only[AllO,Reps]
 |d::ds,xs,fp=>by
  simp only[AllO,Reps,RepO];constructor
  ·rintro⟨y,ys,a,b,e1,e2,⟨r,e3⟩,q⟩;obtain⟨q1,q2⟩:=i4.mp q;subst e3;subst q2;exact⟨⟨y,ys,e1,r,q1⟩,e2⟩
  ·rintro⟨⟨y,ys,e1,r,q1⟩,e⟩;exact⟨y,ys,[],[],e1,e,⟨r,rfl⟩,i4.mpr ⟨q1,rfl⟩⟩
theorem eO{d:D}{v:V}{a:List Addr}:RepO K G H .f d v a<->Rep K G d v/\a=[]:=by simp only[RepO]
theorem gk{ds:List D}{v:V}{a:List Addr}:RepO K G H (.l .f) (.lst ds) v a<->∃p xs,v=.ref p/\H p=some (.lst xs)/\a=[p]/\Reps K G ds xs:=by
 rw[RepO];constructor
 ·rintro⟨p,xs,b,e,q,e2,r⟩;obtain⟨r',eb⟩:=i4.mp r;subst eb;exact⟨p,xs,e,q,e2,r'⟩
 ·rintro⟨p,xs,e,q,e2,r⟩;exact⟨p,xs,[],e,q,e2,i4.mpr ⟨r,rfl⟩⟩
theorem Reps.length:∀{ds:List D}{xs:List V},Reps K G ds xs->xs.length=ds.length
 |[],xs,r=>by simp only[Reps]at r;rw[r];rfl
 |d::ds,xs,r=>by
  simp only[Reps]at r;obtain⟨y,ys,e,_,q⟩:=r;rw[e,Fv,Fv,Reps.length q]
theorem Reps.get:∀{ds:List D}{xs:List V}{i:Nat}{d:D},Reps K G ds xs->ds[i]?=some d->∃v,xs[i]?=some v/\Rep K G d v
 |[],_,_,_,_,e=>by simp at e
 |d'::ds,xs,0,d,r,e=>by
  simp only[Reps]at r;obtain⟨y,ys,e1,q,_⟩:=r;simp at e;subst e;exact⟨y,by rw[e1];rfl,q⟩
 |d'::ds,xs,i+1,d,r,e=>by
  simp only[Reps]at r;obtain⟨y,ys,e1,_,q⟩:=r;obtain⟨v,a,b⟩:=Reps.get q (i:=i) (d:=d) (by simpa using e);exact⟨v,by rw[e1];simpa using a,b⟩
theorem Reps.app:∀{ds es:List D}{xs ys:List V},Reps K G ds xs->Reps K G es ys->Reps K G (ds++es) (xs++ys)
 |[],_,_,_,r,q=>by simp only[Reps]at r;rw[r];exact q
 |d::ds,es,xs,ys,r,q=>by
  simp only[Reps]at r;obtain⟨z,zs,e,r1,r2⟩:=r;rw[e];simp only[GX,Reps];exact⟨z,_,rfl,r1,r2.app q⟩
theorem Reps.one{d:D}{v:V}(r:Rep K G d v):Reps K G [d] [v]:=by
 simp only[Reps];exact⟨v,[],rfl,r,rfl⟩
theorem Reps.nil:Reps K G [] []:=by simp only[Reps]
theorem Reps.cons{d:D}{v:V}{ds:List D}{xs:List V}(r:Rep K G d v)(q:Reps K G ds xs):Reps K G (d::ds) (v::xs):=by
 simp only[Reps];exact⟨v,xs,rfl,r,q⟩
theorem Reps.take:∀{ds:List D}{xs:List V}(n:Nat),Reps K G ds xs->Reps K G (ds.take n) (xs.take n)
 |_,_,0,_=>by rw[List.take_zero,List.take_zero];exact Reps.nil
 |[],xs,n+1,r=>by simp only[Reps]at r;rw[r];exact Reps.nil
 |d::ds,xs,n+1,r=>by
  simp only[Reps]at r;obtain⟨y,ys,e,r1,r2⟩:=r;rw[e,Ij,Ij];exact .cons r1 (r2.take n)
theorem Reps.drop:∀{ds:List D}{xs:List V}(n:Nat),Reps K G ds xs->Reps K G (ds.drop n) (xs.drop n)
 |_,_,0,r=>r
 |[],xs,n+1,r=>by simp only[Reps]at r;rw[r];exact Reps.nil
 |d::ds,xs,n+1,r=>by
  simp only[Reps]at r;obtain⟨y,ys,e,r1,r2⟩:=r;rw[e,Ik,Ik];exact r2.drop n
theorem Reps.set:∀{ds:List D}{xs:List V}(n:Nat) {d:D}{v:V},Reps K G ds xs->Rep K G d v->Reps K G (ds.set n d) (xs.set n v)
 |[],xs,n,d,v,r,q=>by simp only[Reps]at r;rw[r];exact Reps.nil
 |d'::ds,xs,0,d,v,r,q=>by
  simp only[Reps]at r;obtain⟨y,ys,e,r1,r2⟩:=r;rw[e];exact .cons q r2
 |d'::ds,xs,n+1,d,v,r,q=>by
  simp only[Reps]at r;obtain⟨y,ys,e,r1,r2⟩:=r;rw[e];exact .cons r1 (r2.set n q)
theorem Step.cut{fq:List Addr}(h:∀q∈fq,q∈fp):Step G H fp G H fq:=⟨.refl _,fun _ _ e _=>e,fun q hq=>.inl (h q hq),fun _ _ e=>.inl e,fun _ u e=>⟨u,e⟩⟩
theorem Rel.drop{r:R}{y:Option V}(q:Rel K G H (some r::es) (y::vs) fp):∃b,Rel K G H es vs b/\Step G H fp G H b:=by
 obtain⟨y,ys,e,v',a,b,e1,e2,r1,r2⟩:=q.rep;cases e;cases e1;subst e2;have nd:=Gf.mp q.nd;exact⟨b,⟨r2,nd.2.1,fun p hp=>q.gn p (Fo _ hp),q.gh⟩,Step.cut fun p hp=>Fo _ hp⟩
theorem Rel.top{r:R}{v:V}(q:Rel K G H (some r::es) (some v::vs) fp):Rep K H r.2 v:=by
 obtain⟨y,ys,e,v',a,b,e1,e2,r1,r2⟩:=q.rep;cases e;cases e1;exact r1.frozen q.gh fun p hp u e=>e
theorem Rel.out{i:Nat}{r:R}(q:Rel K G H es vs fp)(e:es[i]?=some (some r)):∃v fq,vs[i]?=some (some v)/\Rel K G H (some r::es.set i none) (some v::vs) fq/\Step G H fp G H fq/\Step G H fq G H fp:=by
 obtain⟨v,a,b,e1,r1,r2,pm⟩:=q.rep.take e;exact⟨v,a++b,e1,Rel.perm ⟨some v,vs,rfl,v,a,b,rfl,rfl,r1,r2⟩ q.nd q.gn q.gh pm,Step.cut fun p hp=>pm.mem_iff.mpr hp,Step.cut fun p hp=>pm.mem_iff.mp hp⟩
theorem Rel.view{i:Nat}{r:R}(q:Rel K G H es vs fp)(e:es[i]?=some (some r)):∃v,vs[i]?=some (some v)/\Rep K H r.2 v:=by
 obtain⟨v,fq,e1,r1,_⟩:=q.out e;exact⟨v,e1,r1.top⟩
theorem gm{α:Type}{l:List α}{i:Nat}{x:α}(h:l[i]?=some x):l.set i x=l:=by
 apply List.ext_getElem?;intro j;by_cases e:i=j
 ·subst e;rw[Gk (FE.mp h).1,h]
 ·rw[GU e]
theorem Rel.store{i:Nat}{r:R}{v:V}(q:Rel K G H (some r::es) (some v::vs) fp)(hi:i<es.length):∃fq,Rel K G H (es.set i (some r)) (vs.set i (some v)) fq/\Step G H fp G H fq:=by
 obtain⟨y,ys,e,v',a,b,e1,e2,r1,r2⟩:=q.rep;cases e;cases e1;subst e2;obtain⟨c,hc⟩:∃c,es[i]?=some c:=⟨_,Fq hi⟩
 have nd:=Gf.mp q.nd;have key:∃b',RepE K G H (es.set i none) vs b'/\(∀p∈b',p∈b)/\b'.Nodup:=by
  cases c with
  |none=>exact⟨b,by rw[gm hc];exact r2,fun _ h=>h,nd.2.1⟩
  |some r'=>
   obtain⟨v2,a2,b2,_,_,g,pm⟩:=r2.take hc;refine⟨b2,g,fun p hp=>pm.mem_iff.mpr (Fo _ hp),?_⟩;exact(Gf.mp (pm.nodup_iff.mp nd.2.1)).2.1
 obtain⟨b',g,sub,ndb⟩:=key;obtain⟨fq,g2,pm⟩:=g.put (i:=i) (r:=r) (v:=v) (by rw[Gk hi]) r1;rw[IL]at g2;have hnd:(a++b').Nodup:=by
  rw[Gf];exact⟨nd.1,ndb,fun p hp z hz=>nd.2.2 p hp z (sub z hz)⟩
 refine⟨fq,Rel.perm g2 hnd (fun p hp=>?_) q.gh pm.symm,Step.cut fun p hp=>?_⟩
 ·refine q.gn p ?_;rcases FQ.mp hp with hp|hp
  ·exact Fz _ hp
  ·exact Fo _ (sub p hp)
 ·rcases FQ.mp (pm.mem_iff.mp hp) with hp|hp
  ·exact Fz _ hp
  ·exact Fo _ (sub p hp)
theorem Rel.back{i:Nat}{r:R}{v:V}(q:Rel K G H (some r::es) (some v::vs) fp)(hi:i<es.length)(hv:vs[i]?=some (some v)):∃fq,Rel K G H (es.set i (some r)) vs fq/\Step G H fp G H fq:=by
 obtain⟨fq,g,st⟩:=q.store hi;rw[gm hv]at g;exact⟨fq,g,st⟩
theorem Rel.freezeAt{i:Nat}{r:R}(q:Rel K G H es vs fp)(e:es[i]?=some (some r)):∃v G' fq,vs[i]?=some (some v)/\Rep K G' r.2 v/\Rel K G' H (es.set i (some (.f,r.2))) vs fq/\Step G H fp G' H fq:=by
 obtain⟨v,fq,ev,g,st,_⟩:=q.out e;obtain⟨G',b,rv,g2,xl⟩:=g.freeze;have g3:Rel K G' H (some (.f,r.2)::es.set i none) (some v::vs) b:=by
  refine⟨⟨some v,vs,rfl,v,[],b,rfl,rfl,?_,g2.rep⟩,g2.nd,g2.gn,g2.gh⟩;exact eO.mpr ⟨rv,rfl⟩
 obtain⟨fz,g4,zj⟩:=g3.back (i:=i) (by rw[HM];exact(FE.mp e).1) ev;rw[IL]at g4;exact⟨v,G',fz,ev,rv,g4,st.trans (xl.trans zj)⟩
theorem Rel.push{d:D}{v:V}(q:Rel K G H es vs fp)(r:Rep K G d v):Rel K G H (some (.f,d)::es) (some v::vs) fp:=by
 refine⟨⟨some v,vs,rfl,v,[],fp,rfl,rfl,?_,q.rep⟩,q.nd,q.gn,q.gh⟩;exact eO.mpr ⟨r,rfl⟩
theorem Rel.newF{p:Addr}{u:HO}(q:Rel K G H es vs fp)(hp:H p=none):Rel K (upd G p u) (upd H p u) es vs fp/\Step G H fp (upd G p u) (upd H p u) fp:=by
 have gp:G p=none:=by
  cases e:G p with
  |none=>rfl
  |some o=>rw[q.gh p o e]at hp;cases hp
 have np:p∉fp:=fun z=>by
  obtain⟨u,e⟩:=q.rep.live p z;rw[hp]at e;cases e
 have sg:Same G (upd G p u):=fun b o e=>by rw[av (aP e gp)];exact e
 have sh:Same H (upd H p u):=fun b o e=>by rw[av (aP e hp)];exact e
 refine⟨⟨q.rep.step sg fun z hz=>av fun e=>np (e▸hz),q.nd,fun z hz=>?_,fun b o e=>?_⟩,⟨sg,fun b o e _=>sh b o e,fun _ h=>.inl h,fun b o e=>?_,fun b o e=>⟨o,sh b o e⟩⟩⟩
 ·have:z≠p:=fun e=>np (e▸hz)
  rw[av this];exact q.gn z hz
 ·by_cases hb:b=p
  ·subst hb;rw[a9]at e ⊢;exact e
  ·rw[av hb]at e ⊢;exact q.gh b o e
 ·by_cases hb:b=p
  ·subst hb;exact .inr (.inr (.inl hp))
  ·rw[av hb]at e;exact .inl e
theorem Rel.newL{p:Addr}{ds:List D}{xs:List V}(q:Rel K G H es vs fp)(hp:H p=none)(r:Reps K G ds xs):
  Rel K G (upd H p (.lst xs)) (some (.l .f,.lst ds)::es) (some (.ref p)::vs) (p::fp)/\Step G H fp G (upd H p (.lst xs)) (p::fp):=by
 have gp:G p=none:=by
  cases e:G p with
  |none=>rfl
  |some o=>rw[q.gh p o e]at hp;cases hp
 have np:p∉fp:=fun z=>by
  obtain⟨u,e⟩:=q.rep.live p z;rw[hp]at e;cases e
 have sh:Same H (upd H p (.lst xs)):=fun b o e=>by rw[av (aP e hp)];exact e
 refine⟨⟨⟨some (.ref p),vs,rfl,.ref p,[p],fp,rfl,rfl,gk.mpr ⟨p,xs,rfl,a9,rfl,r⟩,q.rep.step (.refl _) fun z hz=>av fun e=>np (e▸hz)⟩,Gq.mpr ⟨np,q.nd⟩,fun z hz=>?_,fun b o e=>?_⟩,
  ⟨.refl _,fun b o e _=>sh b o e,fun b hb=>?_,fun b o e=>.inl e,fun b o e=>⟨o,sh b o e⟩⟩⟩
 ·rcases FK.mp hz with rfl|hz
  ·exact gp
  ·exact q.gn z hz
 ·exact sh b o (q.gh b o e)
 ·rcases FK.mp hb with rfl|hb
  ·exact .inr hp
  ·exact .inl hb
theorem Rel.chg{i:Nat}{ds ds':List D}(q:Rel K G H es vs fp)(e:es[i]?=some (some (.l .f,.lst ds))):∃p xs,vs[i]?=some (some (.ref p))/\H p=some (.lst xs)/\Reps K G ds xs/\
  ∀zx,Reps K G ds' zx->∃fq,Rel K G (upd H p (.lst zx)) (es.set i (some (.l .f,.lst ds'))) vs fq/\Step G H fp G (upd H p (.lst zx)) fq:=by
 obtain⟨v,fq,ev,g,st,z8⟩:=q.out e;obtain⟨y,ys,e0,v',a,b,e1,e2,r1,r2⟩:=g.rep;cases e0;cases e1;obtain⟨p,xs,e3,hp,e4,rs⟩:=gk.mp r1;subst e3;subst e4;subst e2;have nd:=Gq.mp (show(p::b).Nodup from g.nd);refine⟨p,xs,ev,hp,rs,fun zx zH=>?_⟩;have g2:Rel K G (upd H p (.lst zx)) (some (.l .f,.lst ds')::es.set i none) (some (.ref p)::vs) (p::b):=by
  refine⟨⟨some (.ref p),vs,rfl,.ref p,[p],b,rfl,rfl,gk.mpr ⟨p,zx,rfl,a9,rfl,zH⟩,r2.step (.refl _) fun z hz=>av fun e=>nd.1 (e▸hz)⟩,g.nd,g.gn,fun z o ez=>?_⟩;have:z≠p:=fun w=>by
   subst w;rw[g.gn z Fm]at ez;cases ez
  rw[av this];exact g.gh z o ez
 have stc:Step G H (p::b) G (upd H p (.lst zx)) (p::b):=by
  refine⟨.refl _,fun z o ez nz=>?_,fun z hz=>.inl hz,fun z o ez=>.inl ez,fun z o ez=>?_⟩
  ·have:z≠p:=fun w=>nz (by rw[w];exact Fm)
   rw[av this];exact ez
  ·by_cases w:z=p
   ·subst w;exact⟨_,a9⟩
   ·exact⟨o,by rw[av w];exact ez⟩
 obtain⟨fz,g3,x3⟩:=g2.back (i:=i) (by rw[HM];exact(FE.mp e).1) ev;rw[IL]at g3;exact⟨fz,g3,st.trans (stc.trans x3)⟩
end
mutual
noncomputable def dj:D->Bool
 | .tup ds=>flatDs ds
 | .lst _=>false
 | .dct _ _ _=>false
 |_=>true
noncomputable def flatDs:List D->Bool
 |[]=>true
 |d::ds=>dj d&&flatDs ds
end
mutual
noncomputable def bz:O->D->Bool
 | .f,d=>dj d
 | .l c,.lst ds=>ds.all (bz c)
 | .t cs,.tup ds=>i5 cs ds
 | .d,.dct _ _ vs=>flatDs vs
 | .pin _ c,d=>bz c d
 |_,_=>false
noncomputable def i5:List O->List D->Bool
 |[],[]=>true
 |c::cs,d::ds=>bz c d&&i5 cs ds
 |_,_=>false
end
def frz:Option R->Option R:=Option.map fun r=>(.f,r.2)
theorem fM:∀ds,flatDs ds=ds.all dj
 |[]=>rfl
 |d::ds=>by rw[flatDs,HC,fM ds]
section
variable{K:W.Frag}{G G' G2 G3 H H' H2:Hp}{es:Env}{vs:List (Option V)}{fp:List Addr}
mutual
theorem Rep.flat(h:∀p u,Cw u=true->G2 p=some u->G3 p=some u):∀{d:D}{v:V},dj d=true->Rep K G2 d v->Rep K G3 d v
 | .non,_,_,r=>by simpa only[Rep] using r
 | .bl _,_,_,r=>by simpa only[Rep] using r
 | .int _,_,_,r=>by simpa only[Rep] using r
 | .str _,_,_,r=>by simpa only[Rep] using r
 | .tup ds,_,e,r=>by
  simp only[Rep]at r ⊢;simp only[dj]at e;obtain⟨p,xs,ev,q,rs⟩:=r;exact⟨p,xs,ev,h _ _ rfl q,Reps.flat h e rs⟩
 | .lst ds,_,e,r=>by simp only[dj]at e;cases e
 | .dct _ _ _,_,e,r=>by simp only[dj]at e;cases e
theorem Reps.flat(h:∀p u,Cw u=true->G2 p=some u->G3 p=some u):∀{ds:List D}{xs:List V},flatDs ds=true->Reps K G2 ds xs->Reps K G3 ds xs
 |[],_,_,r=>by simpa only[Reps] using r
 |d::ds,_,e,r=>by
  simp only[Reps]at r ⊢;simp only[flatDs,Fx]at e;obtain⟨y,ys,ev,r1,r2⟩:=r;exact⟨y,ys,ev,Rep.flat h e.1 r1,Reps.flat h e.2 r2⟩
end
theorem AllO.clean{P P':D->V->List Addr->Prop}{c:D->Bool}:∀{ds:List D}{xs:List V}{fp:List Addr},(∀d v a,c d=true->P d v a->P' d v a)->ds.all c=true->AllO P ds xs fp->AllO P' ds xs fp
 |[],_,_,_,_,r=>r
 |d::ds,xs,fp,h,e,r=>by
  obtain⟨y,ys,a,b,e1,e2,p,q⟩:=r;rw[HC,Fx]at e;exact⟨y,ys,a,b,e1,e2,h _ _ _ e.1 p,AllO.clean h e.2 q⟩
mutual
theorem RepO.clean(h:∀p u,Cw u=true->G2 p=some u->G3 p=some u):∀{o:O}{d:D}{v:V}{fp:List Addr},bz o d=true->RepO K G2 H o d v fp->RepO K G3 H o d v fp
 | .f,d,v,fp,e,r=>by
  simp only[RepO]at r ⊢;simp only[bz]at e;exact⟨r.1.flat h e,r.2⟩
 | .pin p c,d,v,fp,e,r=>by
  simp only[RepO]at r ⊢;simp only[bz]at e;exact⟨r.1,RepO.clean h e r.2⟩
 | .l c,.lst ds,v,fp,e,r=>by
  rw[RepO]at r ⊢;rw[bz]at e;obtain⟨p,xs,wV,ev,q,e2,a⟩:=r;exact⟨p,xs,wV,ev,q,e2,AllO.clean (fun d v a=>RepO.clean h) e a⟩
 | .t cs,.tup ds,v,fp,e,r=>by
  rw[RepO]at r ⊢;rw[bz]at e;obtain⟨p,xs,ev,q,a⟩:=r;exact⟨p,xs,ev,h _ _ rfl q,RepT.clean h e a⟩
 | .d,.dct tk ks vs,v,fp,e,r=>by
  rw[RepO]at r ⊢;rw[bz]at e;obtain⟨p,xs,o,ev,q,dd,e2,rs⟩:=r;exact⟨p,xs,o,ev,q,dd,e2,rs.flat h e⟩
 | .l _,.non,_,_,_,r | .l _,.bl _,_,_,_,r | .l _,.int _,_,_,_,r | .l _,.str _,_,_,_,r | .l _,.tup _,_,_,_,r | .l _,.dct _ _ _,_,_,_,r=>by simp only[RepO]at r
 | .t _,.non,_,_,_,r | .t _,.bl _,_,_,_,r | .t _,.int _,_,_,_,r | .t _,.str _,_,_,_,r | .t _,.lst _,_,_,_,r | .t _,.dct _ _ _,_,_,_,r=>by simp only[RepO]at r
 | .d,.non,_,_,_,r | .d,.bl _,_,_,_,r | .d,.int _,_,_,_,r | .d,.str _,_,_,_,r | .d,.tup _,_,_,_,r | .d,.lst _,_,_,_,r=>by simp only[RepO]at r
theorem RepT.clean(h:∀p u,Cw u=true->G2 p=some u->G3 p=some u):∀{cs:List O}{ds:List D}{xs:List V}{fp:List Addr},i5 cs ds=true->RepT K G2 H cs ds xs fp->RepT K G3 H cs ds xs fp
 |[],[],_,_,_,r=>by simpa only[RepT] using r
 |c::cs,d::ds,xs,fp,e,r=>by
  rw[RepT]at r ⊢;rw[i5,Fx]at e;obtain⟨y,ys,a,b,e1,e2,r1,r2⟩:=r;exact⟨y,ys,a,b,e1,e2,RepO.clean h e.1 r1,RepT.clean h e.2 r2⟩
 |[],_::_,_,_,_,r=>by simp only[RepT]at r
 |_::_,[],_,_,_,r=>by simp only[RepT]at r
end
theorem RepE.frz(h:Same G G'):∀{es:Env}{vs:List (Option V)}{fp:List Addr},(∀p∈fp,∀u,H p=some u->G' p=some u)->RepE K G H es vs fp->RepE K G' H' (es.map PV.frz) vs []
 |[],_,_,_,r=>⟨r.1,rfl⟩
 |none::es,vs,fp,hk,r=>by
  obtain⟨y,ys,e,r⟩:=r;exact⟨y,ys,e,RepE.frz h hk r⟩
 |some r::es,vs,fp,hk,q=>by
  obtain⟨y,ys,e,v,a,b,e1,e2,r1,r2⟩:=q;subst e2;exact⟨y,ys,e,v,[],[],e1,rfl,eO.mpr ⟨r1.frozen h (fun p hp=>hk p (Fz _ hp)),rfl⟩,RepE.frz h (fun p hp=>hk p (Fo _ hp)) r2⟩
theorem RepE.rep(h:Same G G'):∀{es:Env}{vs:List (Option V)}{fp:List Addr}{i:Nat}{r:R}{v:V},(∀p∈fp,∀u,H p=some u->G' p=some u)->RepE K G H es vs fp->es[i]?=some (some r)->vs[i]?=some (some v)->Rep K G' r.2 v:=fun{es vs fp i r v} hk q e ev=>by
 obtain⟨v',a,b,e1,r1,_,pm⟩:=q.take e;rw[ev]at e1;cases e1;exact r1.frozen h fun p hp=>hk p (pm.mem_iff.mpr (Fz _ hp))
theorem Rel.lend(q:Rel K G H es vs fp):∃G1,Same G G1/\Same G1 H/\(∀(i:Nat) (r:R) (v:V),es[i]?=some (some r)->vs[i]?=some (some v)->Rep K G1 r.2 v)/\
  RepE K G1 H (es.map PV.frz) vs []/\
  ∀(H2 G2:Hp) (xR:List Addr) (r:R) (v:V),Step G1 H [] G2 H2 xR->Rel K G2 H2 [some r] [some v] xR->
   (bz r.1 r.2=true->∃G3 zy,Step G H fp G3 H2 zy/\Rel K G3 H2 (some r::es) (some v::vs) zy)/\
   ∃G3 zy,Step G H fp G3 H2 zy/\Rel K G3 H2 (some r::es.map PV.frz) (some v::vs) zy:=by
 have hg:Same G (fun p=>if p∈fp then H p else G p):=fun p u e=>by
  show(if p∈fp then H p else G p)=some u;by_cases hp:p∈fp
  ·rw[FY hp];exact q.gh p u e
  ·rw[F3 hp];exact e
 have hh:Same (fun p=>if p∈fp then H p else G p) H:=fun p u e=>by
  have e:(if p∈fp then H p else G p)=some u:=e;by_cases hp:p∈fp
  ·rw[FY hp]at e;exact e
  ·rw[F3 hp]at e;exact q.gh p u e
 have hk:∀p∈fp,∀u,H p=some u->(fun p=>if p∈fp then H p else G p) p=some u:=fun p hp u e=>by
  show(if p∈fp then H p else G p)=some u;rw[FY hp];exact e
 refine⟨fun p=>if p∈fp then H p else G p,hg,hh,fun i r v e ev=>q.rep.rep hg hk e ev,q.rep.frz hg hk,fun H2 G2 xR r v st k=>?_⟩;obtain⟨y,ys,e0,v',a,b,e1,e2,r1,r2⟩:=k.rep;cases e0;cases e1;obtain⟨_,e3⟩:=r2;subst e3;rw[FJ]at e2;subst e2;have fresh:∀p∈xR,H p=none:=fun p hp=>by
  rcases st.fpn p hp with z|z
  ·cases z
  ·exact z
 have kept:∀p∈fp,H2 p=H p:=fun p hp=>by
  obtain⟨u,hu⟩:=q.rep.live p hp;rw[hu];exact st.keep p u hu (by simp)
 refine⟨fun cl=>?_,⟨G2,xR,⟨hg.trans st.gg,fun p u e n=>st.keep p u e (by simp),fun p hp=>.inr (fresh p hp),fun p u e=>?_,st.there⟩,?_⟩⟩
 ·have apart:∀p∈xR,p∉fp:=fun p hp hf=>by
   obtain⟨u,hu⟩:=q.rep.live p hf;rw[fresh p hp]at hu;cases hu
  have g3:Same G (fun p=>if p∈fp then none else G2 p):=fun p u e=>by
   show(if p∈fp then none else G2 p)=some u;rw[F3 (fun z=>by rw[q.gn p z]at e;cases e)];exact st.gg p u (hg p u e)
  refine⟨fun p=>if p∈fp then none else G2 p,xR++fp,⟨g3,fun p u e n=>st.keep p u e (by simp),fun p hp=>?_,fun p u e=>?_,st.there⟩,⟨⟨some v,vs,rfl,v,xR,fp,rfl,rfl,r1.clean (fun p u t e=>?_) cl,q.rep.step g3 kept⟩,?_,fun p hp=>?_,fun p u e=>?_⟩⟩
  ·rcases FQ.mp hp with hp|hp
   ·exact .inr (fresh p hp)
   ·exact .inl hp
  ·have e:(if p∈fp then none else G2 p)=some u:=e;by_cases hp:p∈fp
   ·rw[FY hp]at e;cases e
   ·rw[F3 hp]at e;rcases st.gnew p u e with z|z|z
    ·have z:(if p∈fp then H p else G p)=some u:=z;rw[F3 hp]at z;exact .inl z
    ·cases z
    ·exact .inr (.inr z)
  ·show(if p∈fp then none else G2 p)=some u;by_cases hp:p∈fp
   ·exfalso;obtain⟨u',hu,hm⟩:=q.rep.mut p hp;have:=st.gg p u' (hk p hp u' hu);rw[e]at this;cases this;cases u with
    |lst _=>cases t
    |dK _=>cases t
    |dT _=>cases t
    |_=>cases hm
   ·rw[F3 hp];exact e
  ·rw[Gf];exact⟨k.nd,q.nd,fun p hp z hz e=>apart p hp (e▸hz)⟩
  ·show(if p∈fp then none else G2 p)=none;by_cases hf:p∈fp
   ·rw[FY hf]
   ·rw[F3 hf];rcases FQ.mp hp with hp|hp
    ·exact k.gn p hp
    ·exact absurd hp hf
  ·have e:(if p∈fp then none else G2 p)=some u:=e;by_cases hp:p∈fp
   ·rw[FY hp]at e;cases e
   ·rw[F3 hp]at e;exact k.gh p u e
 ·rcases st.gnew p u e with z|z|z
  ·have z:(if p∈fp then H p else G p)=some u:=z;by_cases hp:p∈fp
   ·exact .inr (.inl hp)
   ·rw[F3 hp]at z;exact .inl z
  ·cases z
  ·exact .inr (.inr z)
 ·refine⟨⟨some v,vs,rfl,v,xR,[],rfl,(FJ _).symm,r1,q.rep.frz (hg.trans st.gg) fun p hp u e=>st.gg p u (hk p hp u e)⟩,k.nd,k.gn,k.gh⟩
end
end PV
namespace PV
open PySem PySem.Spec PyProof.Rows L2 NX
def Res.bind{α β:Type}:Res α->(α->Res β)->Res β
 | .ok a,f=>f a
 | .exc c,_=>.exc c
 | .bad,_=>.bad
inductive BindOk{α β:Type}(x:Res α)(f:α->Res β)(b:β):Prop
 |mk (a:α) (h:x=.ok a) (k:f a=.ok b):BindOk x f b
theorem ag{α β:Type}{x:Res α}{f:α->Res β}{b:β}(h:x.bind f=.ok b):BindOk x f b:=by
 cases x with
 |ok a=>exact⟨a,rfl,h⟩
 |exc c=>cases h
 |bad=>cases h
inductive Opd where
 |val (d:D)|var (i:Nat)
def OpdOk(K:W.Frag)(G:Hp)(σ:L2.St):Opd->V->Prop
 | .val d,v=>Rep K G d v
 | .var i,v=>σ[i]?=some (some v)
theorem OpdOk.mono{K:W.Frag}{G G':Hp}{σ:L2.St}{o:Opd}{v:V}(h:Same G G')(r:OpdOk K G σ o v):OpdOk K G' σ o v:=by
 cases o with
 |val d=>exact Rep.mono h r
 |var i=>exact r
def g0(K:W.Frag)(G:Hp)(σ:L2.St):List Opd->List V->Prop
 |[],vs=>vs=[]
 |o::os,vs=>∃y ys,vs=y::ys/\OpdOk K G σ o y/\g0 K G σ os ys
def n5:O->Bool
 | .f=>true
 | .l .f=>true
 | .d=>true
 | .pin _ .f=>true
 | .pin _ (.l .f)=>true
 | .pin _ .d=>true
 |_=>false
def yz(env:PV.Env):Opd->Res D
 | .val d=>.ok d
 | .var i=>match env[i]? with
  |some (some r)=>if n5 r.1 then .ok r.2 else .bad
  |_=>.bad
def jA(env:PV.Env):Opd->Res D
 | .val d=>.ok d
 | .var i=>match env[i]? with
  |some (some r)=>.ok r.2
  |_=>.bad
def jB(env:PV.Env):List Opd->Res (List D)
 |[]=>.ok []
 |o::os=>(yz env o).bind fun d=>(jB env os).bind fun ds=>.ok (d::ds)
def dC(env:PV.Env):List Opd->Res (List D)
 |[]=>.ok []
 |o::os=>(jA env o).bind fun d=>(dC env os).bind fun ds=>.ok (d::ds)
def Vw(K:W.Frag)(G H:Hp):D->V->Prop
 | .lst ds,v=>∃p xs,v=.ref p/\SqL K H p xs/\Reps K G ds xs
 | .dct tk ks vs,v=>∃p xs o,v=.ref p/\Rd H p o/\DictO o tk ks xs/\Reps K G vs xs
 |d,v=>Rep K G d v
def C1(K:W.Frag)(G H:Hp):List D->List V->Prop
 |[],vs=>vs=[]
 |d::ds,vs=>∃y ys,vs=y::ys/\Vw K G H d y/\C1 K G H ds ys
section
variable{K:W.Frag}{G G' H H':Hp}{es:PV.Env}{σ:L2.St}{fp:List Addr}
theorem Vw.of{d:D}{v:V}(gh:Same G H)(r:Rep K G d v):Vw K G H d v:=by
 cases d with
 |lst ds=>
  rw[Rep]at r;obtain⟨p,xs,e,q,rs⟩:=r;exact⟨p,xs,e,dB gh q,rs⟩
 |dct tk ks vs=>
  rw[Rep]at r;obtain⟨p,xs,o,e,q,dd,rs⟩:=r;exact⟨p,xs,o,e,PV.Rd.mono gh q,dd,rs⟩
 |_=>exact r
theorem RepO.vw0{o:O}{d:D}{v:V}{a:List Addr}(gh:Same G H)(hs:o=.f\/o=.l .f\/o=.d)(r:RepO K G H o d v a):Vw K G H d v:=by
 rcases hs with rfl|rfl|rfl
 ·exact Vw.of gh (eO.mp r).1
 ·cases d with
  |lst ds=>
   obtain⟨p,xs,e,q,_,rs⟩:=gk.mp r;exact⟨p,xs,e,SqL.of q,rs⟩
  |_=>simp only[RepO]at r
 ·cases d with
  |dct tk ks vs=>
   rw[RepO]at r;obtain⟨p,xs,o,e,q,dd,_,rs⟩:=r;exact⟨p,xs,o,e,.inl q,dd,rs⟩
  |_=>simp only[RepO]at r
theorem RepO.vw{o:O}{d:D}{v:V}{a:List Addr}(gh:Same G H)(hs:n5 o=true)(r:RepO K G H o d v a):Vw K G H d v:=by
 unfold n5 at hs;split at hs
 ·exact r.vw0 gh (.inl rfl)
 ·exact r.vw0 gh (.inr (.inl rfl))
 ·exact r.vw0 gh (.inr (.inr rfl))
 ·rw[RepO]at r;exact r.2.vw0 gh (.inl rfl)
 ·rw[RepO]at r;exact r.2.vw0 gh (.inr (.inl rfl))
 ·rw[RepO]at r;exact r.2.vw0 gh (.inr (.inr rfl))
 ·cases hs
theorem Rel.vw{o:Opd}{v:V}{d:D}(q:Rel K G H es σ fp)(k:OpdOk K G σ o v)(e:yz es o=.ok d):Vw K G H d v:=by
 cases o with
 |val d'=>
  cases e;exact Vw.of q.gh k
 |var i=>
  unfold yz at e;dsimp only at e;split at e
  ·rename_i r hr;split at e
   ·rename_i hs;cases e;obtain⟨v',a,b,ev,r1,_⟩:=q.rep.take hr;have k:σ[i]?=some (some v):=k;rw[k]at ev;cases ev;exact r1.vw q.gh hs
   ·cases e
  ·cases e
theorem Rel.vwA{o:Opd}{v:V}{d:D}(q:Rel K G H es σ fp)(k:OpdOk K G σ o v)(e:jA es o=.ok d):Rep K H d v:=by
 cases o with
 |val d'=>
  cases e;exact Rep.mono q.gh k
 |var i=>
  unfold jA at e;dsimp only at e;split at e
  ·rename_i r hr;cases e;obtain⟨v',ev,r1⟩:=q.view hr;have k:σ[i]?=some (some v):=k;rw[k]at ev;cases ev;exact r1
  ·cases e
theorem Rel.vws(q:Rel K G H es σ fp):∀{os:List Opd}{vs:List V}{ds:List D},g0 K G σ os vs->jB es os=.ok ds->C1 K G H ds vs
 |[],_,_,k,e=>by
  cases e;exact k
 |o::os,_,_,⟨y,ys,e0,k1,k2⟩,e=>by
  unfold jB at e;obtain⟨d,e1,e⟩:=ag e;obtain⟨ds,e2,e⟩:=ag e;cases e;exact⟨y,ys,e0,q.vw k1 e1,Rel.vws q k2 e2⟩
theorem dD{G1:Hp}(gg:Same G G1)(ht:∀(i:Nat) (r:R) (v:V),es[i]?=some (some r)->σ[i]?=some (some v)->Rep K G1 r.2 v):∀{os:List Opd}{vs:List V}{ds:List D},g0 K G σ os vs->dC es os=.ok ds->Reps K G1 ds vs
 |[],_,_,k,e=>by
  cases e;have k:_=_:=k;rw[k];exact Reps.nil
 |o::os,_,_,⟨y,ys,e0,k1,k2⟩,e=>by
  unfold dC at e;obtain⟨d,e1,e⟩:=ag e;obtain⟨ds,e2,e⟩:=ag e;cases e;rw[e0];refine .cons ?_ (dD gg ht k2 e2);cases o with
  |val d'=>
   cases e1;exact Rep.mono gg k1
  |var i=>
   unfold jA at e1;dsimp only at e1;split at e1
   ·rename_i r hr;cases e1;exact ht i r y hr k1
   ·cases e1
end
abbrev FX:=PV.Env->Res (R×PV.Env)
abbrev FO:=PV.Env->Res (Opd×PV.Env)
abbrev yc:=PV.Env->Res (List Opd×PV.Env)
abbrev FT:=PV.Env->Res (Bool×PV.Env)
inductive Out where
 |nx (env:PV.Env)|rt (r:R)|bk (env:PV.Env)|ct (env:PV.Env)
abbrev FS:=PV.Env->Res Out
inductive tQ(K:W.Frag)(f:FX)(σ:L2.St)(H:Hp)(Q:VK):Prop
 |mk:∀G env fp r env',Rel K G H env σ fp->f env=.ok (r,env')->(∀v H' G' wV,Step G H fp G' H' wV->Rel K G' H' (some r::env') (some v::σ) wV->Q v H')->tQ K f σ H Q
inductive tO(K:W.Frag)(f:FO)(σ:L2.St)(H:Hp)(Q:VK):Prop
 |mk:∀G env fp o env',Rel K G H env σ fp->f env=.ok (o,env')->(∀v H' G' wV,Step G H fp G' H' wV->Rel K G' H' env' σ wV->OpdOk K G' σ o v->Q v H')->tO K f σ H Q
inductive tOs(K:W.Frag)(f:yc)(σ:L2.St)(H:Hp)(Q:List V->Hp->Prop):Prop
 |mk:∀G env fp o env',Rel K G H env σ fp->f env=.ok (o,env')->(∀v H' G' wV,Step G H fp G' H' wV->Rel K G' H' env' σ wV->g0 K G' σ o v->Q v H')->tOs K f σ H Q
inductive tQT(K:W.Frag)(f:FT)(σ:L2.St)(H:Hp)(Q:Bool->Hp->Prop):Prop
 |mk:∀G env fp b env',Rel K G H env σ fp->f env=.ok (b,env')->(∀H' G' wV,Step G H fp G' H' wV->Rel K G' H' env' σ wV->Q b H')->tQT K f σ H Q
inductive Mode where
 |plain|mut
def vN(md:Mode)(K:W.Frag)(G H:Hp)(r:R)(v:V)(fp:List Addr):Prop:=match md with
 | .plain=>Rel K G H [some r] [some v] fp
 | .mut=>∃o d p c d0,r=(.t [o,.pin p c],.tup [d,d0])/\Rel K G H [some (o,d),some (.pin p c,d0)] [some v,some (.ref p)] fp
noncomputable def OutOk{md:Mode}(K:W.Frag)(G H:Hp)(fp:List Addr)(Dd:Ends):Res Out->Prop
 | .ok (.nx env')=>∀σ' H' G' wV,Step G H fp G' H' wV->Rel K G' H' env' σ' wV->Dd.nx σ' H'
 | .ok (.bk env')=>∀σ' H' G' wV,Step G H fp G' H' wV->Rel K G' H' env' σ' wV->Dd.bk σ' H'
 | .ok (.ct env')=>∀σ' H' G' wV,Step G H fp G' H' wV->Rel K G' H' env' σ' wV->Dd.ct σ' H'
 | .ok (.rt r)=>∀v H' G' wV,Step G H fp G' H' wV->vN md K G' H' r v wV->Dd.rt v H'
 |_=>False
inductive tQS{md:Mode}(K:W.Frag)(g:FS)(Dd:Ends)(σ:L2.St)(H:Hp):Prop
 |mk:∀G env fp,Rel K G H env σ fp->OutOk (md:=md) K G H fp Dd (g env)->tQS (md:=md) K g Dd σ H
def QE(X:Cx)(e:Expr)(f:FX):Prop:=PE X e (tQ X.K f)
def QO(X:Cx)(e:Expr)(f:FO):Prop:=PE X e (tO X.K f)
def AL(X:Cx)(es:List Expr)(f:yc):Prop:=PA X es (tOs X.K f)
def QT(X:Cx)(e:Expr)(f:FT):Prop:=PT X e (tQT X.K f)
def QW(X:Cx)(e:Expr)(f:FT):Prop:=PW X e (tQT X.K f)
def QS{md:Mode}(X:Cx)(st:Stmt)(g:FS):Prop:=PS X st (tQS (md:=md) X.K g)
def Ak{md:Mode}(X:Cx)(st:List Stmt)(g:FS):Prop:=PSs X st (tQS (md:=md) X.K g)
theorem aW{X:Cx}{e:Expr}{t t':TE}(h:PE X e t)(k:∀σ H Q,t' σ H Q->t σ H Q):PE X e t':=fun pr s σ H Q I w=>h pr s σ H Q I (k σ H Q w)
theorem fN{X:Cx}{e:Expr}{t t':TT}(h:PT X e t)(k:∀σ H Q,t' σ H Q->t σ H Q):PT X e t':=fun pr s σ H Q I w=>h pr s σ H Q I (k σ H Q w)
theorem ko{X:Cx}{e:Expr}{t t':TT}(h:PW X e t)(k:∀σ H Q,t' σ H Q->t σ H Q):PW X e t':=fun wh pr s σ H Q I w=>h wh pr s σ H Q I (k σ H Q w)
theorem i6{X:Cx}{e:List Expr}{t t':TA}(h:PA X e t)(k:∀σ H Q,t' σ H Q->t σ H Q):PA X e t':=fun pos pr s σ H Q I w=>h pos pr s σ H Q I (k σ H Q w)
theorem d5{X:Cx}{e:Stmt}{t t':TS}(h:PS X e t)(k:∀D σ H,t' D σ H->t D σ H):PS X e t':=fun pr s σ H D I w=>h pr s σ H D I (k D σ H w)
theorem gq{X:Cx}{e:List Stmt}{t t':TS}(h:PSs X e t)(k:∀D σ H,t' D σ H->t D σ H):PSs X e t':=fun pr s σ H D I w=>h pr s σ H D I (k D σ H w)
theorem OutOk.imp{md:Mode}{K:W.Frag}{G H G1 H1:Hp}{fp xk:List Addr}{Dd C2:Ends}{r:Res Out}(st:Step G H fp G1 H1 xk)(h:OutOk (md:=md) K G H fp Dd r)(n:∀σ H,Dd.nx σ H->C2.nx σ H)(b:∀σ H,Dd.bk σ H->C2.bk σ H)(c:∀σ H,Dd.ct σ H->C2.ct σ H)(t:∀v H,Dd.rt v H->C2.rt v H):OutOk (md:=md) K G1 H1 xk C2 r:=by
 match r,h with
 | .ok (.nx env'),h=>exact fun σ' H' G' wV s q=>n _ _ (h σ' H' G' wV (st.trans s) q)
 | .ok (.bk env'),h=>exact fun σ' H' G' wV s q=>b _ _ (h σ' H' G' wV (st.trans s) q)
 | .ok (.ct env'),h=>exact fun σ' H' G' wV s q=>c _ _ (h σ' H' G' wV (st.trans s) q)
 | .ok (.rt r),h=>exact fun v H' G' wV s q=>t _ _ (h v H' G' wV (st.trans s) q)
theorem OutOk.after{md:Mode}{K:W.Frag}{G H G1 H1:Hp}{fp xk:List Addr}{Dd:Ends}{r:Res Out}(st:Step G H fp G1 H1 xk)(h:OutOk (md:=md) K G H fp Dd r):OutOk (md:=md) K G1 H1 xk Dd r:=h.imp st (fun _ _ z=>z) (fun _ _ z=>z) (fun _ _ z=>z) fun _ _ z=>z
def aA(d:D):FX:=fun env=>.ok ((.f,d),env)
def fz:O->O
 | .pin p .f=>.pin p .f
 |_=>.f
def dE(i:Nat):FX:=fun env=>match env[i]? with
 |some (some r)=>.ok ((.f,r.2),env.set i (some (fz r.1,r.2)))
 |_=>.bad
def g5(i:Nat):FX:=fun env=>match env[i]? with
 |some (some r)=>.ok (r,env.set i none)
 |_=>.bad
def aq(f:FX):FO:=fun env=>(f env).bind fun p=>.ok (.val p.1.2,p.2)
def aw(i:Nat):FO:=fun env=>match env[i]? with
 |some (some _)=>.ok (.var i,env)
 |_=>.bad
def ax:yc:=fun env=>.ok ([],env)
def ah(f:FO)(g:yc):yc:=fun env=>(f env).bind fun p=>(g p.2).bind fun q=>.ok (p.1::q.1,q.2)
section
variable{X:Cx}
theorem g6{e:Expr}{v:V}{d:D}(h:PE X e (tC v))(r:∀G,Rep X.K G d v):QE X e (aA d):=aW h fun σ H Q xi=>by
 obtain⟨G,env,fp,rr,env',rel,e,k⟩:=xi;cases e;exact k v H G fp .refl (rel.push (r G))
theorem ao{i j pos}:QE X (.Constant (.int i) j pos) (aA (.int i)):=g6 pK fun G=>by rw[Rep]
theorem qz{i j pos}:QE X (.Constant (.bool i) j pos) (aA (.bl i)):=g6 sS fun G=>by rw[Rep]
theorem qA{j pos}:QE X (.Constant .none j pos) (aA .non):=g6 mK fun G=>by rw[Rep]
theorem au{x j pos}{l:List Nat}(h:x=S l)(hl:l.length<=1000):QE X (.Constant (.str x) j pos) (aA (.str l)):=g6 pL fun G=>by
 rw[Rep,h];exact⟨rfl,by rw[line_eq];lia⟩
theorem n6{x:Str}{p:Pos}{n:Int}(h:Gi X.mg x n)(hg:Gl X x)(hd:(x==("__debug__" : Str))=false:=by decide):QE X (.Name x p) (aA (.int n)):=g6 (tI h hg hd) fun G=>by rw[Rep]
theorem bu{i:Nat}{e:Expr}(h:PE X e (jL i)):QE X e (dE i):=aW h fun σ H Q xi=>by
 obtain⟨G,env,fp,rr,env',rel,e,k⟩:=xi;unfold dE at e;split at e
 ·rename_i r hr;cases e;by_cases hf:fz r.1=.f
  ·obtain⟨v,G',fq,ev,rv,xw,st⟩:=rel.freezeAt hr;rw[hf]at k;exact⟨v,ev,k v H G' fq st (xw.push rv)⟩
  ·have hp:∃p,r.1=.pin p .f:=by
    unfold fz at hf;split at hf
    ·rename_i p hp;exact⟨p,hp⟩
    ·exact absurd rfl hf
   obtain⟨p,hp⟩:=hp;obtain⟨v,a,b,ev,r1,_,_⟩:=rel.rep.take hr;rw[hp,RepO]at r1;have es:env.set i (some (fz r.1,r.2))=env:=by
    refine gm ?_;rw[hr,hp];show some (some r)=some (some (.pin p .f,r.2));rw[<-hp]
   rw[es]at k;exact⟨v,ev,k v H G fp .refl (rel.push (eO.mp r1.2).1)⟩
 ·cases e
theorem eP{i:Nat}{e:Expr}(h:PE X e (jL i)):QE X e (g5 i):=aW h fun σ H Q xi=>by
 obtain⟨G,env,fp,rr,env',rel,e,k⟩:=xi;unfold g5 at e;split at e
 ·rename_i r hr;cases e;obtain⟨v,fq,ev,xw,st,_⟩:=rel.out hr;exact⟨v,ev,k v H G fq st xw⟩
 ·cases e
theorem aa{e:Expr}{f:FX}(h:QE X e f):QO X e (aq f):=aW h fun σ H Q xi=>by
 obtain⟨G,env,fp,o,env',rel,e,k⟩:=xi;obtain⟨⟨r,wJ⟩,e1,e⟩:=ag e;cases e;refine⟨G,env,fp,r,wJ,rel,e1,fun v H' G' wV st xw=>?_⟩;obtain⟨G2,b,rv,wU,xl⟩:=xw.freeze;exact k v H' G2 b (st.trans xl) wU rv
theorem ae{i:Nat}{e:Expr}(h:PE X e (jL i)):QO X e (aw i):=aW h fun σ H Q xi=>by
 obtain⟨G,env,fp,o,env',rel,e,k⟩:=xi;unfold aw at e;split at e
 ·rename_i r hr;cases e;obtain⟨v,ev,_⟩:=rel.view hr;exact⟨v,ev,k v H G fp .refl rel ev⟩
 ·cases e
theorem ai:AL X [] ax:=i6 dZ fun σ H Q xi=>by
 obtain⟨G,env,fp,o,env',rel,e,k⟩:=xi;cases e;exact k [] H G fp .refl rel rfl
theorem af{e:Expr}{es:List Expr}{f:FO}{g:yc}(h:QO X e f)(hs:AL X es g)(BJ:starEach (e::es) X.env=(false,eval e X.env)::starEach es X.env:=by rfl):AL X (e::es) (ah f g):=
 i6 (bK h hs BJ) fun σ H Q xi=>by
  obtain⟨G,env,fp,o,env',rel,e,k⟩:=xi;obtain⟨⟨o1,wJ⟩,e1,e⟩:=ag e;obtain⟨⟨os,xo⟩,e2,e⟩:=ag e;cases e;exact⟨G,env,fp,o1,wJ,rel,e1,fun v H1 G1 xk xm wM zb=>⟨G1,wJ,xk,os,xo,wM,e2,fun vs H2 G2 xR xl wU AM=>k _ H2 G2 xR (xm.trans xl) wU ⟨v,vs,rfl,zb.mono xl.gg,AM⟩⟩⟩
def aX(g:D->D->Res R)(fa fb:FO):FX:=fun env=>(fa env).bind fun p=>(fb p.2).bind fun q=>(yz q.2 p.1).bind fun a=>(yz q.2 q.1).bind fun b=>(g a b).bind fun r=>.ok (r,q.2)
def bL(g:D->D->Res R)(fa fb:FO):FX:=fun env=>(fa env).bind fun p=>(fb p.2).bind fun q=>(jA q.2 p.1).bind fun a=>(jA q.2 q.1).bind fun b=>(g a b).bind fun r=>.ok (r,q.2)
structure Goes(K:W.Frag)(H:Hp)(G:Hp)(fp:List Addr)(es:PV.Env)(vs:L2.St)(r:R)(Q:VK):Prop where
 rel:Rel K G H es vs fp
 goes:∀v H' G' wV,Step G H fp G' H' wV->Rel K G' H' (some r::es) (some v::vs) wV->Q v H'
inductive rG(K:W.Frag)(g:D->D->Res R)(x:V)(y:V)(H:Hp)(Q:VK):Prop
 |mk:∀G fp es vs a b r,Goes K H G fp es vs r Q->Vw K G H a x->Vw K G H b y->g a b=.ok r->rG K g x y H Q
inductive rGA(K:W.Frag)(g:D->D->Res R)(x:V)(y:V)(H:Hp)(Q:VK):Prop
 |mk:∀G fp es vs a b r,Goes K H G fp es vs r Q->Rep K H a x->Rep K H b y->g a b=.ok r->rGA K g x y H Q
variable{a b c:Expr}{fa fb fc:FO}{pos:Pos}{g g':D->D->Res R}
theorem kq{σ:L2.St}{H:Hp}{Q:VK}(h:tQ X.K (aX g fa fb) σ H Q):Cq (rG X.K g) (tO X.K fa) (tO X.K fb) σ H Q:=by
 obtain⟨G,env,fp,r,env',rel,e,k⟩:=h;obtain⟨⟨oa,e1⟩,ha,e⟩:=ag e;obtain⟨⟨ob,e2⟩,hb,e⟩:=ag e;obtain⟨da,C3,e⟩:=ag e;obtain⟨db,xX,e⟩:=ag e;obtain⟨r',hr,e⟩:=ag e;cases e;exact⟨G,env,fp,oa,e1,rel,ha,fun x H1 G1 xk xm wM zb=>⟨G1,e1,xk,ob,e2,wM,hb,fun y H2 G2 xR xl wU AM=>
  ⟨G2,xR,e2,σ,da,db,r,⟨wU,fun v H' G' wV st xw=>k v H' G' wV (xm.trans (xl.trans st)) xw⟩,wU.vw (zb.mono xl.gg) C3,wU.vw AM xX,hr⟩⟩⟩
theorem kr{σ:L2.St}{H:Hp}{Q:VK}(h:tQ X.K (bL g fa fb) σ H Q):Cq (rGA X.K g) (tO X.K fa) (tO X.K fb) σ H Q:=by
 obtain⟨G,env,fp,r,env',rel,e,k⟩:=h;obtain⟨⟨oa,e1⟩,ha,e⟩:=ag e;obtain⟨⟨ob,e2⟩,hb,e⟩:=ag e;obtain⟨da,C3,e⟩:=ag e;obtain⟨db,xX,e⟩:=ag e;obtain⟨r',hr,e⟩:=ag e;cases e;exact⟨G,env,fp,oa,e1,rel,ha,fun x H1 G1 xk xm wM zb=>⟨G1,e1,xk,ob,e2,wM,hb,fun y H2 G2 xR xl wU AM=>
  ⟨G2,xR,e2,σ,da,db,r,⟨wU,fun v H' G' wV st xw=>k v H' G' wV (xm.trans (xl.trans st)) xw⟩,wU.vwA (zb.mono xl.gg) C3,wU.vwA AM xX,hr⟩⟩⟩
theorem aS{op:Operator}(ho:xW X (binaryOp op) (rG X.K g))(ha:QO X a fa)(hb:QO X b fb):QE X (.BinOp a op b pos) (aX g fa fb):=aW (tf ho ha hb) fun _ _ _=>kq
theorem n8{op:CmpOp}(ho:xW X (compareOp op) (rGA X.K g))(ha:QO X a fa)(hb:QO X b fb)(hm:behindInMarks op b=false):QE X (.Compare a [op] [b] pos) (bL g fa fb):=aW (nG ho ha hb hm) fun _ _ _=>kr
def xI(f:FX):FT:=fun env=>(f env).bind fun p=>match p.1.2 with
 | .bl k=>.ok (k,p.2)
 |_=>.bad
theorem og{f:FX}{σ:L2.St}{H:Hp}{Q:Bool->Hp->Prop}(h:tQT X.K (xI f) σ H Q):tQ X.K f σ H fun x H'=>∃k,x=.bl k/\Q k H':=by
 obtain⟨G,env,fp,k,env',rel,e,q⟩:=h;obtain⟨⟨⟨o,d⟩,wJ⟩,e1,e⟩:=ag e;dsimp only at e;split at e
 ·cases e;refine⟨G,env,fp,_,_,rel,e1,fun v H' G' wV st xw=>?_⟩;have hv:=xw.top;rw[show((o,D.bl k):R).2=D.bl k from rfl,Rep]at hv;obtain⟨b,wU,xl⟩:=xw.drop;exact⟨k,hv,q H' G' b (st.trans xl) wU⟩
 ·cases e
theorem c7{e:Expr}{f:FX}(h:QE X e f)(he:∀whole,isTrue e X.env whole=(do let v <-whole;standAt e.pos;holding [v] (truthy v)):=by intro _;rfl):QT X e (xI f):=fN (mL h he) fun _ _ _=>og
theorem cN{op:CmpOp}(ho:xW X (compareOp op) (rG X.K g))(ha:QO X a fa)(hb:QO X b fb)(hm:behindInMarks op b=false):QT X (.Compare a [op] [b] pos) (xI (aX g fa fb)):=
 fN (jX ho ha hb hm) fun _ _ _ h=>kq (og h)
theorem aQ{op:CmpOp}(ho:xW X (compareOp op) (rGA X.K g))(ha:QO X a fa)(hb:QO X b fb)(hm:behindInMarks op b=false):QT X (.Compare a [op] [b] pos) (xI (bL g fa fb)):=
 fN (jX ho ha hb hm) fun _ _ _ h=>kr (og h)
def oh(f g:FT):FT:=fun env=>(f env).bind fun p=>if p.1 then g p.2 else .ok (false,p.2)
def Cy(f g:FT):FT:=fun env=>(f env).bind fun p=>if p.1 then .ok (true,p.2) else g p.2
def ku(f:FT):FT:=fun env=>(f env).bind fun p=>.ok (!p.1,p.2)
variable{ga gb:FT}{rest:List Expr}
theorem gr(h:QT X a ga):QW X (.BoolOp .And [a] pos) ga:=ny h
theorem qB(h:QT X a ga):QW X (.BoolOp .Or [a] pos) ga:=mM h
theorem i7(h:QT X a ga)(h2:QW X (.BoolOp .And (b::rest) pos) gb):QW X (.BoolOp .And (a::b::rest) pos) (oh ga gb):=ko (pM h h2) fun σ H Q xi=>by
 obtain⟨G,env,fp,k,env',rel,e,q⟩:=xi;obtain⟨⟨k1,wJ⟩,e1,e⟩:=ag e;refine⟨G,env,fp,k1,wJ,rel,e1,fun H1 G1 xk xm wM=>?_⟩;dsimp only at e;cases k1 with
 |true=>exact⟨G1,wJ,xk,k,env',wM,e,fun H2 G2 xR xl wU=>q H2 G2 xR (xm.trans xl) wU⟩
 |false=>
  cases e;exact q H1 G1 xk xm wM
theorem qC(h:QT X a ga)(h2:QW X (.BoolOp .Or (b::rest) pos) gb):QW X (.BoolOp .Or (a::b::rest) pos) (Cy ga gb):=ko (pN h h2) fun σ H Q xi=>by
 obtain⟨G,env,fp,k,env',rel,e,q⟩:=xi;obtain⟨⟨k1,wJ⟩,e1,e⟩:=ag e;refine⟨G,env,fp,k1,wJ,rel,e1,fun H1 G1 xk xm wM=>?_⟩;dsimp only at e;cases k1 with
 |false=>exact⟨G1,wJ,xk,k,env',wM,e,fun H2 G2 xR xl wU=>q H2 G2 xR (xm.trans xl) wU⟩
 |true=>
  cases e;exact q H1 G1 xk xm wM
theorem QW.qt{e:Expr}{f:FT}(h:QW X e f):QT X e f:=h.pt
theorem fO(h:QT X a ga):QT X (.UnaryOp .Not a pos) (ku ga):=fN (mO h) fun σ H Q xi=>by
 obtain⟨G,env,fp,k,env',rel,e,q⟩:=xi;obtain⟨⟨k1,wJ⟩,e1,e⟩:=ag e;cases e;exact⟨G,env,fp,k1,wJ,rel,e1,fun H1 G1 xk xm wM=>q H1 G1 xk xm wM⟩
def we(f g:FX):FX:=fun env=>(f env).bind fun p=>match p.1.2 with
 | .bl true=>g p.2
 | .bl false=>.ok ((.f,.bl false),p.2)
 |_=>.bad
def eOr(f g:FX):FX:=fun env=>(f env).bind fun p=>match p.1.2 with
 | .bl true=>.ok ((.f,.bl true),p.2)
 | .bl false=>g p.2
 |_=>.bad
def wg(f:FX):FX:=fun env=>(f env).bind fun p=>match p.1.2 with
 | .bl k=>.ok ((.f,.bl (!k)),p.2)
 |_=>.bad
def eIf(c:FT)(f g:FX):FX:=fun env=>(c env).bind fun p=>if p.1 then f p.2 else g p.2
variable{ea eb:FX}
theorem cO{K:W.Frag}{G:Hp}(k:Bool):Rep K G (.bl k) (.bl k):=by rw[Rep]
theorem bM{K:W.Frag}{G:Hp}(k:Int):Rep K G (.int k) (.int k):=by rw[Rep]
theorem eQ{K:W.Frag}{G:Hp}:Rep K G .non .non:=by rw[Rep]
theorem cb{K:W.Frag}{G:Hp}{l:List Nat}(h:l.length<=sizeLine):Rep K G (.str l) (.str (S l)):=by
 rw[Rep];exact⟨rfl,h⟩
theorem bN{K:W.Frag}{G:Hp}{k:Bool}{v:V}(h:Rep K G (.bl k) v):v=.bl k:=by rw[Rep]at h;exact h
theorem aT{K:W.Frag}{G:Hp}{k:Int}{v:V}(h:Rep K G (.int k) v):v=.int k:=by rw[Rep]at h;exact h
theorem bo{K:W.Frag}{G:Hp}{v:V}(h:Rep K G .non v):v=.non:=by rw[Rep]at h;exact h
theorem aK{K:W.Frag}{G:Hp}{l:List Nat}{v:V}(h:Rep K G (.str l) v):v=.str (S l)/\l.length<=sizeLine:=by rw[Rep]at h;exact h
inductive OfT(K:W.Frag)(G:Hp)(l:List D)(v:V):Prop
 |mk (p:Addr) (xs:List V) (e:v=.ref p) (q:SqT K G p xs) (r:Reps K G l xs):OfT K G l v
inductive OfL(K:W.Frag)(G:Hp)(l:List D)(v:V):Prop
 |mk (p:Addr) (xs:List V) (e:v=.ref p) (q:SqL K G p xs) (r:Reps K G l xs):OfL K G l v
theorem aY{K:W.Frag}{G:Hp}{l:List D}{v:V}(h:Rep K G (.tup l) v):OfT K G l v:=by
 rw[Rep]at h;obtain⟨p,xs,e,q,r⟩:=h;exact⟨p,xs,e,SqT.of q,r⟩
theorem oi{K:W.Frag}{G:Hp}{l:List D}{v:V}(h:Rep K G (.tup l) v):∃p xs,v=.ref p/\G p=some (.tup xs)/\Reps K G l xs:=by rw[Rep]at h;exact h
theorem aZ{K:W.Frag}{G:Hp}{l:List D}{v:V}(h:Rep K G (.lst l) v):OfL K G l v:=by
 rw[Rep]at h;obtain⟨p,xs,e,q,r⟩:=h;exact⟨p,xs,e,q,r⟩
theorem a3{K:W.Frag}{G H:Hp}{k:Int}{v:V}(h:Vw K G H (.int k) v):v=.int k:=aT (K:=K) (G:=G) h
theorem cP{K:W.Frag}{G H:Hp}{l:List Nat}{v:V}(h:Vw K G H (.str l) v):v=.str (S l)/\l.length<=sizeLine:=aK (K:=K) (G:=G) h
theorem fP{K:W.Frag}{G H:Hp}{l:List D}{v:V}(h:Vw K G H (.tup l) v):OfT K G l v:=aY (K:=K) (G:=G) h
noncomputable def g7(g g':D->D->Res R)(fa fb fc:FO):FX:=fun env=>(fa env).bind fun p=>(fb p.2).bind fun q=>(yz q.2 p.1).bind fun a=>(yz q.2 q.1).bind fun b=>(g a b).bind fun r=>match r with
 |(.f,.bl true)=>(fc q.2).bind fun t=>(yz t.2 q.1).bind fun b=>(yz t.2 t.1).bind fun c=>(g' b c).bind fun r=>.ok (r,t.2)
 |(.f,.bl false)=>.ok ((.f,.bl false),q.2)
 |_=>.bad
theorem lZ{σ:L2.St}{H:Hp}{Q:VK}(h:tQ X.K (g7 g g' fa fb fc) σ H Q):mR (rG X.K g) (rG X.K g') (tO X.K fa) (tO X.K fb) (tO X.K fc) σ H Q:=by
 obtain⟨G,env,fp,r,env',rel,e,k⟩:=h;obtain⟨⟨oa,e1⟩,ha,e⟩:=ag e;obtain⟨⟨ob,e2⟩,hb,e⟩:=ag e;obtain⟨da,C3,e⟩:=ag e;obtain⟨db,xX,e⟩:=ag e;obtain⟨r',hr,e⟩:=ag e;refine⟨G,env,fp,oa,e1,rel,ha,fun x H1 G1 xk xm wM zb=>⟨G1,e1,xk,ob,e2,wM,hb,fun y H2 G2 xR xl wU AM=>
  ⟨G2,xR,e2,σ,da,db,r',⟨wU,fun v H3 G3 zy x3 xN=>?_⟩,wU.vw (zb.mono xl.gg) C3,wU.vw AM xX,hr⟩⟩⟩
 have hv:=xN.top;obtain⟨b3,yU,zj⟩:=xN.drop;split at e
 ·refine⟨true,bN hv,sD ?_⟩;obtain⟨⟨oc,e3⟩,hc,e⟩:=ag e;obtain⟨db',hdb',e⟩:=ag e;obtain⟨dc,hdc,e⟩:=ag e;obtain⟨r2,hr2,e⟩:=ag e;cases e;exact⟨G3,e2,b3,oc,e3,yU,hc,fun z H5 G5 BK zQ zI ok5=>⟨G5,BK,e3,σ,db',dc,r,⟨zI,fun v H' G' wV st xw=>k v H' G' wV (xm.trans (xl.trans (x3.trans (zj.trans (zQ.trans st))))) xw⟩,
   zI.vw ((AM.mono x3.gg).mono zQ.gg) hdb',zI.vw ok5 hdc,hr2⟩⟩
 ·cases e;exact⟨false,bN hv,iteF (k _ H3 G3 b3 (xm.trans (xl.trans (x3.trans zj))) (yU.push (cO _)))⟩
 ·cases e
theorem i8{op AJ:CmpOp}(ho:xW X (compareOp op) (rG X.K g))(Ad:xW X (compareOp AJ) (rG X.K g'))(ha:QO X a fa)(hb:QO X b fb)(hc:QO X c fc)(hm:lastMarks [op,AJ] [b,c]=false:=by with_unfolding_all rfl):
  QE X (.Compare a [op,AJ] [b,c] pos) (g7 g g' fa fb fc):=aW (lH ho Ad ha hb hc hm) fun _ _ _=>lZ
inductive rC(K:W.Frag)(g:List D->Res R)(xs:List V)(H:Hp)(Q:VK):Prop
 |mk:∀G fp es vs ds r,Goes K H G fp es vs r Q->C1 K G H ds xs->g ds=.ok r->rC K g xs H Q
def bY(g:List D->Res R)(fs:yc):FX:=fun env=>(fs env).bind fun p=>(jB p.2 p.1).bind fun ds=>(g ds).bind fun r=>.ok (r,p.2)
theorem kx{gg:List D->Res R}{fs:yc}{σ:L2.St}{H:Hp}{Q:VK}(h:tQ X.K (bY gg fs) σ H Q):D8 (rC X.K gg) (tOs X.K fs) σ H Q:=by
 obtain⟨G,env,fp,r,env',rel,e,k⟩:=h;obtain⟨⟨os,e1⟩,ha,e⟩:=ag e;obtain⟨ds,hd,e⟩:=ag e;obtain⟨r',hr,e⟩:=ag e;cases e;exact⟨G,env,fp,os,e1,rel,ha,fun vs H1 G1 xk xm wM zb=>⟨G1,xk,e1,σ,ds,r,⟨wM,fun v H' G' wV st xw=>k v H' G' wV (xm.trans st) xw⟩,wM.vws zb hd,hr⟩⟩
variable{x:Str}{p:Pos}{e:Expr}{es:List Expr}{gg:List D->Res R}{fs:yc}{id T:String}
theorem ba(hc:eH X (.builtin id) (rC X.K gg))(hg:Gl X x)(hm:X.mg x=none)(hv:bootBuiltins x=some (.builtin id))(ha:AL X (e::es) fs)(hn:x≠"__name__":=by decide)(xX:(x==("__debug__" : Str))=false:=by decide)
  (he:starEach (e::es) X.env=(false,eval e X.env)::starEach es X.env:=by rfl) (xZ:(backTo pos (starEach es X.env)).any (·.1)=false:=by rfl):QE X (.Call (.Name x p) (e::es) [] pos) (bY gg fs):=
 aW (eB hc hg hm hv ha hn xX he xZ) fun _ _ _=>kx
theorem kz(hc:eH X (.type T) (rC X.K gg))(hg:Gl X x)(hm:X.mg x=none)(hv:bootBuiltins x=some (.type T))(ha:AL X (e::es) fs)(hn:x≠"__name__":=by decide)(xX:(x==("__debug__" : Str))=false:=by decide)
  (he:starEach (e::es) X.env=(false,eval e X.env)::starEach es X.env:=by rfl) (xZ:(backTo pos (starEach es X.env)).any (·.1)=false:=by rfl):QE X (.Call (.Name x p) (e::es) [] pos) (bY gg fs):=
 aW (j3 hc hg hm hv ha hn xX he xZ) fun _ _ _=>kx
inductive spF(K:W.Frag)(F:List D->Res R)(vs:List V)(H:Hp)(Q:VK)(zz:XK):Prop
 |mk:∀G ds r,Same G H->Reps K G ds vs->F ds=.ok r->(∀v H' G' wV,Step G H [] G' H' wV->Rel K G' H' [some r] [some v] wV->Q v H')->spF K F vs H Q zz
def dU(F:List D->Res R)(fs:yc):FX:=fun env=>(fs env).bind fun p=>(dC p.2 p.1).bind fun ds=>(F ds).bind fun r=>.ok (r,if bz r.1 r.2 then p.2 else p.2.map frz)
theorem a4{F:List D->Res R}{k:Nat}(C:Ct X.prog X.w X.K X.mg X.base x k (spF X.K F))(hr:Room k X.A)(hg:Gl X x)(ha:AL X (e::es) fs)(xX:(x==("__debug__" : Str))=false:=by decide)
  (he:starEach (e::es) X.env=(false,eval e X.env)::starEach es X.env:=by rfl) (xZ:(backTo pos (starEach es X.env)).any (·.1)=false:=by rfl):QE X (.Call (.Name x p) (e::es) [] pos) (dU F fs):=
 aW (ql C hr hg ha xX he xZ) fun σ H Q xi=>by
  obtain⟨G,env,fp,r,env',rel,e,k⟩:=xi;obtain⟨⟨os,e1⟩,ha,e⟩:=ag e;obtain⟨ds,hd,e⟩:=ag e;obtain⟨r',hr,e⟩:=ag e;refine⟨G,env,fp,os,e1,rel,ha,fun vs H1 G1 xk xm wM zb=>?_⟩;show spF X.K F (vs++[]) H1 Q _;rw[FJ];obtain⟨G2,Bv,AX,zA,_,yM⟩:=wM.lend;refine⟨G2,ds,r',AX,dD Bv zA zb hd,hr,fun v H' G' wV st xw=>?_⟩;obtain⟨k1,k2⟩:=yM H' G' wV r' v st xw;by_cases hc:bz r'.1 r'.2=true
  ·rw[FY hc]at e;cases e;obtain⟨G3,zy,x3,xN⟩:=k1 hc;exact k v H' G3 zy (xm.trans x3) xN
  ·rw[F3 hc]at e;cases e;obtain⟨G3,zy,x3,xN⟩:=k2;exact k v H' G3 zy (xm.trans x3) xN
end
def sSeq(g1 g2:FS):FS:=fun env=>(g1 env).bind fun o=>match o with
 | .nx e=>g2 e
 |o=>.ok o
def bE:FS:=fun env=>.ok (.nx env)
def cQ:FS:=fun _=>.bad
def c5(i:Nat)(f:FX):FS:=fun env=>(f env).bind fun p=>if i<p.2.length then .ok (.nx (p.2.set i (some p.1))) else .bad
def kA(f:FX):FS:=fun env=>(f env).bind fun p=>.ok (.nx p.2)
def dz(f:FX):FS:=fun env=>(f env).bind fun p=>.ok (.rt p.1)
def yS(c:FT)(g h:FS):FS:=fun env=>(c env).bind fun p=>if p.1 then g p.2 else h p.2
section
variable{md:Mode}{X:Cx}{st:Stmt}{AN:List Stmt}{g h:FS}{f:FX}{c:FT}{pos:Pos}{e:Expr}
theorem aB:Ak (md:=md) X [] bE:=gq iw fun D σ H ⟨G,env,fp,rel,k⟩=>k σ H G fp .refl rel
theorem ak(a:QS (md:=md) X st g):Ak (md:=md) X [st] g:=nA a
theorem aj(a:QS (md:=md) X st g)(b:Ak (md:=md) X AN h):Ak (md:=md) X (st::AN) (sSeq g h):=gq (eA a b) fun D σ H xi=>by
 obtain⟨G,env,fp,rel,k⟩:=xi;refine⟨G,env,fp,rel,?_⟩;have k:OutOk X.K G H fp D ((g env).bind fun o=>match o with | .nx e=>h e|o=>.ok o):=k;match q:g env,k with
 | .ok (.nx wJ),k=>exact fun σ1 H1 G1 xk xm wM=>⟨G1,wJ,xk,wM,OutOk.after xm k⟩
 | .ok (.bk wJ),k=>exact k
 | .ok (.ct wJ),k=>exact k
 | .ok (.rt r),k=>exact k
theorem cZ:QS (md:=md) X st cQ:=d5 lD fun D σ H ⟨G,env,fp,rel,k⟩=>k
theorem kB{K:W.Frag}{G H:Hp}{fp:List Addr}{D:Ends}{i:Nat}{env:PV.Env}{σ:L2.St}(rel:Rel K G H env σ fp)(k:OutOk (md:=md) K G H fp D (c5 i f env)):tQ K f σ H fun v H'=>D.nx (σ.set i (some v)) H':=by
 unfold c5 at k;match q:f env,k with
 | .ok (r,wJ),k=>
  have k:OutOk K G H fp D (if i<wJ.length then .ok (.nx (wJ.set i (some r))) else .bad):=k;by_cases hi:i<wJ.length
  ·rw[FY hi]at k;refine⟨G,env,fp,r,wJ,rel,q,fun v H1 G1 xk xm wM=>?_⟩;obtain⟨fq,wU,xl⟩:=wM.store hi;exact k _ H1 G1 fq (xm.trans xl) wU
  ·rw[F3 hi]at k;exact k.elim
theorem aF{i:Nat}{x:Str}{pos':Pos}(hN:X.N.Nodup)(hi:X.N[i]?=some x)(hx:Loc X.env.scope x)(he:QE X e f)(hs:swapsWith e (some (.Name x pos')) pos.line X.env=pure false:=by rfl)(hf:X.fn x=true\/X.env.scope.names.lookup x=some .local:=by first|exact .inl rfl|exact .inr rfl|assumption):
  QS (md:=md) X (.Assign [.Name x pos'] e pos) (c5 i f):=d5 (jS (i:=i) hN hi hx he hs hf) fun D σ H ⟨G,env,fp,rel,k⟩=>kB rel k
theorem gu(he:QE X e f)(hs:swapsWith e none pos.line X.env=pure false:=by rfl):QS (md:=md) X (.Expr e pos) (kA f):=d5 (nB he hs) fun D σ H xi=>by
 obtain⟨G,env,fp,rel,k⟩:=xi;unfold kA at k;match q:f env,k with
 | .ok (r,wJ),k=>
  refine⟨G,env,fp,r,wJ,rel,q,fun v H1 G1 xk xm wM=>?_⟩;obtain⟨b,wU,xl⟩:=wM.drop;exact k _ H1 G1 b (xm.trans xl) wU
theorem Rel.only{K:W.Frag}{G H:Hp}{r:R}{v:V}{es:PV.Env}{vs:L2.St}{fp:List Addr}(q:Rel K G H (some r::es) (some v::vs) fp):∃a,Rel K G H [some r] [some v] a/\Step G H fp G H a:=by
 obtain⟨y,ys,e,v',a,b,e1,e2,r1,r2⟩:=q.rep;cases e;cases e1;subst e2;have nd:=Gf.mp q.nd;exact⟨a,⟨⟨some v,[],rfl,v,a,[],rfl,(FJ _).symm,r1,rfl,rfl⟩,nd.1,fun p hp=>q.gn p (Fz _ hp),q.gh⟩,Step.cut fun p hp=>Fz _ hp⟩
theorem aV(he:QE X e f):QS (md:=.plain) X (.Return (some e) pos) (dz f):=d5 (mP he) fun D σ H xi=>by
 obtain⟨G,env,fp,rel,k⟩:=xi;unfold dz at k;match q:f env,k with
 | .ok (r,wJ),k=>
  refine⟨G,env,fp,r,wJ,rel,q,fun v H1 G1 xk xm wM=>?_⟩;obtain⟨b,wU,xl⟩:=wM.only;exact k _ H1 G1 b (xm.trans xl) wU
theorem Rel.nilF{K:W.Frag}{G H:Hp}{es:PV.Env}{vs:L2.St}{fp:List Addr}(q:Rel K G H es vs fp):Rel K G H [] [] []:=⟨⟨rfl,rfl⟩,Hd,(fun _ h=>nomatch h),q.gh⟩
theorem bI{a b:List Stmt}{ct:Expr}(hc:QT X ct c)(ha:Ak (md:=md) X a g)(hb:Ak (md:=md) X b h):QS (md:=md) X (.If ct a b pos) (yS c g h):=d5 (sW hc ha hb) fun D σ H xi=>by
 obtain⟨G,env,fp,rel,k⟩:=xi;unfold yS at k;match q:c env,k with
 | .ok (true,wJ),k=>exact⟨G,env,fp,true,wJ,rel,q,fun H1 G1 xk xm wM=>sD ⟨G1,wJ,xk,wM,OutOk.after xm k⟩⟩
 | .ok (false,wJ),k=>exact⟨G,env,fp,false,wJ,rel,q,fun H1 G1 xk xm wM=>iteF ⟨G1,wJ,xk,wM,OutOk.after xm k⟩⟩
def bZ(c:FT)(g:FS):Nat->FS
 | 0,_=>.bad
 |n+1,env=>(c env).bind fun p=>if p.1 then(g p.2).bind fun o=>match o with
  | .nx e=>bZ c g n e
  | .ct e=>bZ c g n e
  | .bk e=>.ok (.nx e)
  | .rt r=>.ok (.rt r)
  else .ok (.nx p.2)
theorem i9{ct:Expr}{body:List Stmt}(n:Nat)(hp:PassesOwn (model X.prog X.w) X.A X.env X.xe)(hc:QT X ct c)(hb:Ak (md:=md) X body g):QS (md:=md) X (.While ct body [] pos) (bZ c g n):=
 d5 (lE hp hc hb) fun D σ H xi=>by
  obtain⟨G,env,fp,rel,k⟩:=xi;refine⟨fun m σ' H'=>∃G' env' wV,Rel X.K G' H' env' σ' wV/\OutOk X.K G' H' wV D (bZ c g m env'),⟨n,G,env,fp,rel,k⟩,?_⟩;rintro m σ1 H1 ⟨G1,wJ,xk,wM,k1⟩;cases m with
  |zero=>exact k1.elim
  |succ m=>
   unfold bZ at k1;match q:c wJ,k1 with
   | .ok (false,xo),k1=>exact⟨G1,wJ,xk,false,xo,wM,q,fun H2 G2 xR xl wU=>iteF (k1 _ H2 G2 xR xl wU)⟩
   | .ok (true,xo),k1=>
    refine⟨G1,wJ,xk,true,xo,wM,q,fun H2 G2 xR xl wU=>sD ?_⟩;refine⟨fun σ' H'=>∃G' env' wV,Rel X.K G' H' env' σ' wV/\OutOk X.K G' H' wV D (bZ c g m env'),fun σ' H' z=>⟨m,GH _,z⟩,G2,xo,xR,wU,?_⟩;have k2:OutOk X.K G1 H1 xk D ((g xo).bind fun o=>match o with | .nx e=>bZ c g m e | .ct e=>bZ c g m e | .bk e=>.ok (.nx e) | .rt r=>.ok (.rt r)):=k1;match q2:g xo,k2 with
    | .ok (.nx e),k2=>exact fun σ' H' G' wV st rel=>⟨G',e,wV,rel,OutOk.after (xl.trans st) k2⟩
    | .ok (.ct e),k2=>exact fun σ' H' G' wV st rel=>⟨G',e,wV,rel,OutOk.after (xl.trans st) k2⟩
    | .ok (.bk e),k2=>exact fun σ' H' G' wV st rel=>k2 σ' H' G' wV (xl.trans st) rel
    | .ok (.rt r),k2=>exact fun v H' G' wV st rel=>k2 v H' G' wV (xl.trans st) rel
def Walk(K:W.Frag)(G:Hp)(J:It)(ds:List D):Prop:=∀G' H' es vs fp,Same G G'->Rel K G' H' es vs fp->∀i:Nat,
 (∀d,ds[i]?=some d->J.go i H'/\∀x H2,J.yld i H' x H2->∃G2,Rep K G2 d x/\Rel K G2 H2 es vs fp/\Step G' H' fp G2 H2 fp)/\(i=ds.length->J.stop i H')
abbrev FI:=PV.Env->Res (List D×PV.Env)
inductive tQI(K:W.Frag)(f:FI)(σ:L2.St)(H:Hp)(R:It->Hp->Prop):Prop
 |mk:∀G env fp ds env',Rel K G H env σ fp->f env=.ok (ds,env')->(∀J H' G' wV,Step G H fp G' H' wV->Rel K G' H' env' σ wV->Walk K G' J ds->R J H')->tQI K f σ H R
def QI(X:Cx)(tg e:Expr)(f:FI):Prop:=PI X tg e (tQI X.K f)
theorem g8{X:Cx}{tg e:Expr}{t t':TI}(h:PI X tg e t)(k:∀σ H R,t' σ H R->t σ H R):PI X tg e t':=fun pr s σ H R I w=>h pr s σ H R I (k σ H R w)
abbrev FG:=D->PV.Env->Res PV.Env
inductive tQG(K:W.Frag)(a:FG)(v:V)(σ:L2.St)(H:Hp)(Q:L2.St->Hp->Prop):Prop
 |mk:∀G env fp d env',Rel K G H env σ fp->Rep K G d v->a d env=.ok env'->(∀σ' G' wV,Step G H fp G' H wV->Rel K G' H env' σ' wV->Q σ' H)->tQG K a v σ H Q
def QG(X:Cx)(tg:Expr)(a:FG):Prop:=PG X tg (tQG X.K a)
def jC(i:Nat):FG:=fun d env=>if i<env.length then .ok (env.set i (some (.f,d))) else .bad
theorem qD{X:Cx}{tg:Expr}{t t':TG}(h:PG X tg t)(k:∀v σ H Q,t' v σ H Q->t v σ H Q):PG X tg t':=fun pr s σ H v u Q I r w=>h pr s σ H v u Q I r (k v σ H Q w)
theorem kC{i:Nat}{x:Str}(hN:X.N.Nodup)(hi:X.N[i]?=some x)(hx:Loc X.env.scope x)(hf:X.fn x=true\/X.env.scope.names.lookup x=some .local:=by first|exact .inl rfl|exact .inr rfl|assumption):QG X (.Name x pos) (jC i):=
 qD (nC (i:=i) hN hi hx hf) fun v σ H Q xi=>by
  obtain⟨G,env,fp,d,env',rel,r,e,k⟩:=xi;unfold jC at e;split at e
  ·rename_i hl;cases e;obtain⟨fq,wU,xl⟩:=(rel.push r).store hl;exact k _ G fq xl wU
  ·cases e
abbrev C4:=List D->PV.Env->Res PV.Env
def vO:C4:=fun ds env=>match ds with
 |[]=>.ok env
 |_=>.bad
def uV(a:FG)(b:C4):C4:=fun ds env=>match ds with
 |d::ds=>(a d env).bind fun e=>b ds e
 |_=>.bad
def wj(n:Nat)(a:C4):FG:=fun d env=>match d with
 | .tup ds=>if ds.length=n then a ds env else .bad
 |_=>.bad
def il(a:FG)(g:FS):List D->FS
 |[],env=>.ok (.nx env)
 |d::ds,env=>(a d env).bind fun e=>(g e).bind fun o=>match o with
  | .nx e=>il a g ds e
  | .ct e=>il a g ds e
  | .bk e=>.ok (.nx e)
  | .rt r=>.ok (.rt r)
def sF(f:FI)(a:FG)(g:FS):FS:=fun env=>(f env).bind fun p=>il a g p.1 p.2
theorem qE{tg iter:Expr}{body:List Stmt}{fi:FI}{a:FG}(hp:PassesOwn (model X.prog X.w) X.A X.env X.xe)(hc:X.calm=true)(hi:QI X tg iter fi)(hg:QG X tg a)(hb:Ak (md:=md) X body g)(hs:∀x,foldedSetIterable iter X.env x=pure x:=by intro _;rfl):QS (md:=md) X (.For tg iter body [] pos) (sF fi a g):=
 d5 (pT hp hc hi hg hb hs) fun D σ H xi=>by
  obtain⟨G,env,fp,rel,k⟩:=xi;unfold sF at k;match q:fi env,k with
  | .ok (ds,wJ),k=>
   refine⟨G,env,fp,ds,wJ,rel,q,fun J H1 G1 xk xm wM wk=>?_⟩;have k:OutOk X.K G H fp D (il a g ds wJ):=k;refine⟨fun i m σ' H'=>m=ds.length-i/\i<=ds.length/\∃G' env' wV,Same G1 G'/\Rel X.K G' H' env' σ' wV/\OutOk X.K G' H' wV D (il a g (ds.drop i) env'),⟨_,rfl,GD _,G1,wJ,xk,.refl _,wM,OutOk.after xm k⟩,?_⟩;rintro i m σ2 H2 ⟨rfl,hi,G2,xo,xR,gg,wU,k2⟩;obtain⟨w1,w2⟩:=wk G2 H2 _ _ _ gg wU i;by_cases yy:i<ds.length
   ·have hd:ds[i]?=some ds[i]:=Fq yy;obtain⟨go,yl⟩:=w1 _ hd;rw[Hw yy]at k2;refine .inr ⟨go,fun σ' H'=>∃G' env' wV,Same G1 G'/\Rel X.K G' H' env' σ' wV/\OutOk X.K G' H' wV D (il a g (ds.drop (i+1)) env'),fun σ' H' z=>⟨ds.length-(i+1),by lia,rfl,yy,z⟩,fun x H3 y=>?_⟩;obtain⟨G3,rx,xN,x3⟩:=yl x H3 y;unfold il at k2;match q3:a ds[i] xo,k2 with
    | .ok zc,k2=>
     refine⟨G3,xo,xR,ds[i],zc,xN,rx,q3,fun σ4 G4 fp4 zj yU=>⟨G4,zc,fp4,yU,?_⟩⟩;have k3:OutOk X.K G2 H2 xR D ((g zc).bind fun o=>match o with | .nx e=>il a g (ds.drop (i+1)) e | .ct e=>il a g (ds.drop (i+1)) e | .bk e=>.ok (.nx e) | .rt r=>.ok (.rt r)):=k2;match q4:g zc,k3 with
     | .ok (.nx e),k3=>exact fun σ' H' G' wV st rel=>⟨G',e,wV,gg.trans (x3.gg.trans (zj.gg.trans st.gg)),rel,OutOk.after (x3.trans (zj.trans st)) k3⟩
     | .ok (.ct e),k3=>exact fun σ' H' G' wV st rel=>⟨G',e,wV,gg.trans (x3.gg.trans (zj.gg.trans st.gg)),rel,OutOk.after (x3.trans (zj.trans st)) k3⟩
     | .ok (.bk e),k3=>exact fun σ' H' G' wV st rel=>k3 σ' H' G' wV (x3.trans (zj.trans st)) rel
     | .ok (.rt r),k3=>exact fun v H' G' wV st rel=>k3 v H' G' wV (x3.trans (zj.trans st)) rel
   ·have e:i=ds.length:=by lia
    subst e;rw[List.drop_length]at k2;exact .inl ⟨w2 rfl,k2 σ2 H2 G2 xR .refl wU⟩
def qF(f:FX):FI:=fun env=>(f env).bind fun p=>match p.1.2 with
 | .lst ds=>.ok (ds,p.2)
 |_=>.bad
def kE(f:FX):FI:=fun env=>(f env).bind fun p=>match p.1.2 with
 | .tup ds=>.ok (ds,p.2)
 |_=>.bad
variable{tg l:Expr}
theorem kF{K:W.Frag}{G:Hp}{a:Addr}{xs:List V}{ds:List D}(sq:SqL K G a xs)(rs:Reps K G ds xs):Walk K G (Cp K a) ds:=by
 intro G' H' es vs fp gg rel i;have yD:SqL K H' a xs:=dB rel.gh (dB gg sq);refine⟨fun d hd=>?_,fun e=>⟨xs,yD,by rw[rs.length];lia⟩⟩;obtain⟨x,hx,rx⟩:=rs.get hd;refine⟨⟨xs,x,yD,hx⟩,fun y H2 ⟨e,hy⟩=>?_⟩;subst e;have:=hy xs yD;rw[hx]at this;cases this;exact⟨G',Rep.mono gg rx,rel,.refl⟩
theorem l5{K:W.Frag}{G:Hp}{a:Addr}{xs:List V}{ds:List D}(sq:SqT K G a xs)(rs:Reps K G ds xs):Walk K G (D4 K a) ds:=by
 intro G' H' es vs fp gg rel i;have yD:SqT K H' a xs:=bQ rel.gh (bQ gg sq);refine⟨fun d hd=>?_,fun e=>⟨xs,yD,by rw[rs.length];lia⟩⟩;obtain⟨x,hx,rx⟩:=rs.get hd;refine⟨⟨xs,x,yD,hx⟩,fun y H2 ⟨e,hy⟩=>?_⟩;subst e;have:=hy xs yD;rw[hx]at this;cases this;exact⟨G',Rep.mono gg rx,rel,.refl⟩
theorem oj(h:QE X l f):QI X tg l (qF f):=g8 (nE h) fun σ H R xi=>by
 obtain⟨G,env,fp,ds,env',rel,e,k⟩:=xi;obtain⟨⟨⟨o,d⟩,wJ⟩,e1,e⟩:=ag e;dsimp only at e;split at e
 ·cases e;refine⟨G,env,fp,_,_,rel,e1,fun v H1 G1 xk xm wM=>?_⟩;obtain⟨G2,b,rv,wU,xl⟩:=wM.freeze;obtain⟨p,xs,ev,sq,rs⟩:=aZ rv;exact⟨p,ev,⟨xs,dB wU.gh sq⟩,k _ H1 G2 b (xm.trans xl) wU (kF sq rs)⟩
 ·cases e
theorem qG(h:QE X l f):QI X tg l (kE f):=g8 (pS h) fun σ H R xi=>by
 obtain⟨G,env,fp,ds,env',rel,e,k⟩:=xi;obtain⟨⟨⟨o,d⟩,wJ⟩,e1,e⟩:=ag e;dsimp only at e;split at e
 ·cases e;refine⟨G,env,fp,_,_,rel,e1,fun v H1 G1 xk xm wM=>?_⟩;obtain⟨G2,b,rv,wU,xl⟩:=wM.freeze;obtain⟨p,xs,ev,sq,rs⟩:=aY rv;exact⟨p,ev,⟨xs,bQ wU.gh sq⟩,k _ H1 G2 b (xm.trans xl) wU (l5 sq rs)⟩
 ·cases e
def kG(f:FX):FI:=fun env=>(f env).bind fun p=>match p.1.2 with
 | .str l=>.ok (l.map fun c=>.str [c],p.2)
 |_=>.bad
theorem qH(h:QE X l f):QI X tg l (kG f):=g8 (qo h) fun σ H R xi=>by
 obtain⟨G,env,fp,ds,env',rel,e,k⟩:=xi;obtain⟨⟨⟨o,d⟩,wJ⟩,e1,e⟩:=ag e;dsimp only at e;split at e
 ·rename_i cs;cases e;refine⟨G,env,fp,_,_,rel,e1,fun v H1 G1 xk xm wM=>?_⟩;obtain⟨G2,b,rv,wU,xl⟩:=wM.freeze;obtain⟨ev,hl⟩:=aK rv;refine⟨cs,ev,k _ H1 G2 b (xm.trans xl) wU fun G' H' es vs wV gg xw i=>⟨fun d hd=>?_,fun e=>?_⟩⟩
  ·rw[Gp]at hd;cases hc:cs[i]? with
   |none=>rw[hc]at hd;cases hd
   |some c=>
    rw[hc]at hd;cases hd;refine⟨(FE.mp hc).1,fun x H2 ⟨e1,e2⟩=>?_⟩;subst e1;refine⟨G',?_,xw,.refl⟩;rw[e2];show Rep X.K G' (.str [c]) (.str (S [cs.getD i 0]));rw[FC,hc];exact cb (by rw[line_eq];simp)
  ·rw[FN]at e;exact e
 ·cases e
def gv(f:FO):FI:=fun env=>(f env).bind fun p=>(yz p.2 p.1).bind fun d=>match d with
 | .int j=>if -4611686018427387904<=j/\j<4611686018427387904 then .ok ((List.range j.toNat).map fun(k:Nat)=>D.int (k:Int),p.2) else .bad
 |_=>.bad
theorem jD{K:W.Frag}{G:Hp}(lo:Int)(n:Nat):Walk K G (DJ lo n) ((List.range n).map fun(k:Nat)=>D.int (lo+(k:Int))):=by
 intro G' H' es vs fp gg rel i;refine⟨fun d hd=>?_,fun e=>?_⟩
 ·rw[Gp]at hd;cases hc:(List.range n)[i]? with
  |none=>rw[hc]at hd;cases hd
  |some c=>
   rw[hc]at hd;cases hd;obtain⟨h1,h2⟩:=FE.mp hc;rw[Hc]at h1;rw[List.getElem_range]at h2;subst h2;refine⟨h1,fun x H2 ⟨e1,e2⟩=>?_⟩;subst e1;exact⟨G',by rw[e2];exact bM _,rel,.refl⟩
 ·rw[FN,Hc]at e;exact Nat.le_of_eq e.symm
theorem kH{a:Expr}{fa:FO}{p pos:Pos}(hg:Gl X "range")(hm:X.mg "range" = none)(ha:QO X a fa)(hs:starEach [a] X.env=[(false,eval a X.env)]:=by rfl):QI X tg (.Call (.Name "range" p) [a] [] pos) (gv fa):=
 g8 (jU hg hm (af ha ai hs) hs) fun σ H R xi=>by
  obtain⟨G,env,fp,ds,env',rel,e,k⟩:=xi;obtain⟨⟨o,wJ⟩,e1,e⟩:=ag e;obtain⟨d,e2,e⟩:=ag e;dsimp only at e;split at e
  ·rename_i j;split at e
   ·rename_i hj;cases e;refine⟨G,env,fp,[o],_,rel,by show(fa env).bind _=_;rw[e1];rfl,fun vs H1 G1 xk xm wM zb=>?_⟩;obtain⟨y,ys,ev,k1,k2⟩:=zb;have k2:ys=[]:=k2;subst k2;have hv:=a3 (wM.vw k1 e2);subst hv;refine⟨j,ev,by lia,by lia,k _ H1 G1 xk xm wM ?_⟩;have w:=jD (K:=X.K) (G:=G1) 0 j.toNat
    simpa using w
   ·cases e
  ·cases e
noncomputable def tU(fs:yc):FI:=fun env=>(fs env).bind fun p=>(jB p.2 p.1).bind fun d=>match d with
 |[.int i,.int j]=>if(-4611686018427387904<=i/\i<4611686018427387904)/\-4611686018427387904<=j/\j<4611686018427387904 then .ok ((List.range (j-i).toNat).map fun(k:Nat)=>D.int (i+(k:Int)),p.2) else .bad
 |_=>.bad
def eg(k:Bool):D->Res (List D)
 | .lst ds=>if k then .ok ds else .bad
 | .tup ds=>if k then .bad else .ok ds
 |_=>.bad
def kI(k1 k2:Bool)(fs:yc):FI:=fun env=>(fs env).bind fun p=>match p.1 with
 |[.val d1,.val d2]=>(eg k1 d1).bind fun a=>(eg k2 d2).bind fun b=>.ok ((a.zip b).map fun z=>D.tup [z.1,z.2],p.2)
 |_=>.bad
end
def fBody(np nn:Nat)(g:FS):List D->Res R:=fun ds=>if ds.length=np then(g (ds.map (fun d=>some (O.f,d))++List.replicate nn none)).bind fun o=>match o with
 | .rt r=>.ok r
 | .nx _=>.ok (.f,.non)
 |_=>.bad
 else .bad
theorem dF{K:W.Frag}{G H:Hp}(n:Nat):∀{ds:List D}{vs:List V},Reps K G ds vs->RepE K G H (ds.map (fun d=>some (O.f,d))++List.replicate n none) (vs.map some++List.replicate n none) []
 |[],vs,r=>by
  rw[Reps]at r;subst r;show RepE K G H (List.replicate n none) (List.replicate n none) [];induction n with
  |zero=>exact⟨rfl,rfl⟩
  |succ n ih=>exact⟨none,_,rfl,ih⟩
 |d::ds,vs,r=>by
  rw[Reps]at r;obtain⟨y,ys,e,r1,r2⟩:=r;subst e;exact⟨some y,_,rfl,y,[],[],rfl,rfl,eO.mpr ⟨r1,rfl⟩,dF n r2⟩
theorem dW{P:Program}{w:World}{K:W.Frag}{mg:Str->Option Value}{base:Heap}{x:Str}{st:Stmt}{N ps:List Str}{k:Nat}{g:FS}(Df:Def K mg x st)(sc:FnScope N ps (defScope st))
  (hb:∀(kV doc pm:Value) (an:Option Addr) (xr ct:Value) (us:List Value),us.length=ps.length->bindArgs (PySem.W.fnOf x x (b8 st) (bj st) (defScope st) .none kV doc pm an xr ct) ⟨us,[]⟩=pure (ps.zip us))
  (body:∀(f:Addr) (xr:Value) (A:Around) (outer:List PySem.Env) (s:Shared) (H:Hp) (E:XK),Room k (A.deeper (envOfC x (defScope st) s.heap.objs.size f xr))->Ak (md:=.plain) (iR Ai P w K mg base N x (defScope st) f xr A outer s H E).nox (bj st) g):
  Ct P w K mg base x (k+1) (spF K (fBody ps.length (N.length-ps.length) g)):=by
 obtain⟨f,fd,F,m⟩:=Df;refine⟨f,fd,ps,F.ok sc (fun vs H Q E h=>?_) (fun xr A outer s H vs Q E hr h=>?_),m,F.kp,F.binds hb⟩
 ·obtain⟨G,ds,r,_,rs,e,_⟩:=h;unfold fBody at e;split at e
  ·rename_i hl;rw[rs.length,hl]
  ·cases e
 ·obtain⟨G,ds,r,gh,rs,e,q⟩:=h;unfold fBody at e;split at e
  ·rename_i hl;refine⟨_,body f xr A outer s H E hr,G,ds.map (fun d=>some (O.f,d))++List.replicate (N.length-ps.length) none,[],⟨?_,Hd,(fun _ h=>nomatch h),gh⟩,?_⟩
   ·have:=dF (K:=K) (G:=G) (H:=H) (N.length-ps.length) rs;unfold L2.dQ;rw[rs.length,hl];exact this
   ·obtain⟨o,eo,e⟩:=ag e;rw[eo];cases o with
    |rt r'=>
     cases e;exact fun v H' G' wV st rel=>q v H' G' wV st rel
    |nx env'=>
     cases e;exact fun σ' H' G' wV st rel=>q .non H' G' [] (st.trans (Step.cut fun _ h=>nomatch h)) (rel.nilF.push eQ)
    |bk env'=>cases e
    |ct env'=>cases e
  ·cases e
def cD(ix:List (Option Nat))(env:PV.Env):PV.Env:=ix.map fun j=>j.bind fun j=>match env[j]? with
 |some (some r)=>some (O.f,r.2)
 |_=>none
def qI:FT:=fun env=>.ok (true,env)
def eh(a:FG)(c:FT)(f:FX):List D->PV.Env->Res (List D)
 |[],_=>.ok []
 |d::ds,env=>(a d env).bind fun e=>(c e).bind fun p=>if p.1 then(f p.2).bind fun q=>(eh a c f ds q.2).bind fun rs=>.ok (q.1.2::rs) else eh a c f ds p.2
def l6(fi:FI)(ix:List (Option Nat))(a:FG)(c:FT)(f:FX):FX:=fun env=>(fi env).bind fun p=>(eh a c f p.1 (cD ix p.2)).bind fun ds=>if ds.length<=sizeLine then .ok ((.l .f,.lst ds),if flatDs ds then p.2 else p.2.map frz) else .bad
theorem gw:∀ds,ds.all (bz .f)=flatDs ds
 |[]=>rfl
 |d::ds=>by rw[HC,flatDs,gw ds,bz]
theorem cR{K:W.Frag}{G1 H:Hp}{es:PV.Env}{σ:L2.St}(ht:∀(i:Nat) (r:R) (v:V),es[i]?=some (some r)->σ[i]?=some (some v)->Rep K G1 r.2 v)(hv:∀(i:Nat) (r:R),es[i]?=some (some r)->∃v,σ[i]?=some (some v)):
  ∀ix:List (Option Nat),RepE K G1 H (cD ix es) (fK ix σ) []
 |[]=>⟨rfl,rfl⟩
 |none::ix=>⟨none,_,rfl,cR ht hv ix⟩
 |some j::ix=>by
  show RepE K G1 H ((match es[j]? with|some (some r)=>some (O.f,r.2)|_=>none)::cD ix es) ((σ[j]?).bind id::fK ix σ) [];cases e:es[j]? with
  |none=>exact⟨_,_,rfl,cR ht hv ix⟩
  |some r=>
   cases r with
   |none=>exact⟨_,_,rfl,cR ht hv ix⟩
   |some r=>
    obtain⟨v,ev⟩:=hv j r e;refine⟨_,_,rfl,v,[],[],?_,rfl,eO.mpr ⟨ht j r v e ev,rfl⟩,cR ht hv ix⟩;rw[ev];rfl
section
variable{md:Mode}{X:Cx}{scope:Scope}{N:List Str}{tg iter elt:Expr}{ifs:List Expr}{pos:Pos}{fi:FI}{a:FG}{c:FT}{f:FX}
def EZ(X:Cx)(ifs:List Expr)(c:FT):Prop:=DO X ifs (tQT X.K c)
theorem om:EZ X [] qI:=fun pr s σ H Q I xi=>by
 obtain⟨G,env,fp,b,env',rel,e,k⟩:=xi;cases e;exact nT pr s σ H Q I (k H G fp .refl rel)
end
section
variable{X:Cx}
inductive rCatS(K:W.Frag)(x:V)(y:V)(H:Hp)(Q:VK):Prop
 |mk:∀l b xs zs,x=.ref l->y=.ref b->SqL K H l xs->SqL K H b zs->xs.length+zs.length<=sizeLine->(∀p,H p=none->Q (.ref p) (upd H p (.lst (xs++zs))))->rCatS K x y H Q
theorem oq:xW X (binaryOp .Add) (rCatS X.K):=by
 intro pr s σ H x y v u Q I rx ry h;obtain⟨l,b,xs,zs,rfl,rfl,hH,hB,hz,q⟩:=h;cases rx;cases ry;obtain⟨wZ,r1,p1,_⟩:=I.list hH;obtain⟨Am,r2,p2,_⟩:=I.list hB;have l1:=r1.length;have l2:=r2.length;obtain⟨⟨cls,dd,data,sl⟩,ho,hc,n,hd⟩:=id p1.isList;obtain⟨⟨CO,Bq,data2,Br⟩,y3,Bs,n2,hd2⟩:=id p2.isList;simp only at hc hd Bs hd2;subst hc hd Bs hd2;have e:wZ.toArray++Am.toArray=(wZ++Am).toArray:=by simp
 refine concat_meets ⟨_,ho,rfl⟩ ⟨_,y3,rfl⟩ noFill_list_add seq_list_add PySem.F.slot_list_add PySem.F.entry_list_add (PySem.F.args_list_add_2 _ _) (list_addW l b wZ.toArray Am.toArray n n2 dd Bq sl Br (by rw[Fp,Fp];lia)) ⟨ho,y3,?_⟩;rw[e];exact⟨.ref _,_,I.lnew (t':=s.toks) (r1.append r2) (by rw[FU];lia),rfl,q _ I.fresh⟩
end
noncomputable def addD:D->D->Res R
 | .int i,.int j=>.ok (.f,.int (i+j))
 | .str a,.str b=>if a.length+b.length<=sizeLine then .ok (.f,.str (a++b)) else .bad
 | .lst a,.lst b=>if a.length+b.length<=sizeLine then .ok (.l .f,.lst (a++b)) else .bad
 | .tup a,.tup b=>if a≠[]/\a.length+b.length<=sizeLine then .ok (.f,.tup (a++b)) else .bad
 |_,_=>.bad
section
variable{X:Cx}
theorem iB{K:W.Frag}{G H:Hp}{fp:List Addr}{es:PV.Env}{vs:L2.St}{ds:List D}{xs:List V}{p:Addr}(rel:Rel K G H es vs fp)(hp:H p=none)(r:Reps K G ds xs):
  ∃G',Rel K G' (upd H p (.tup xs)) (some (.f,.tup ds)::es) (some (.ref p)::vs) fp/\Step G H fp G' (upd H p (.tup xs)) fp:=by
 obtain⟨wU,xl⟩:=rel.newF (u:=.tup xs) hp;refine⟨_,wU.push ?_,xl⟩;rw[Rep];exact⟨p,xs,rfl,a9,r.mono xl.gg⟩
theorem cq:xW X (binaryOp .Add) (rG X.K addD):=by
 rintro pr s σ H x y v u Q I rx ry ⟨G,fp,es,vs,a,b,r,⟨rel,k⟩,va,vb,e⟩;unfold addD at e;split at e
 ·rename_i i j;cases e;cases a3 va;cases a3 vb;exact pU pr s σ H _ _ v u Q I rx ry ⟨i,j,rfl,rfl,k _ H G fp .refl (rel.push (bM _))⟩
 ·rename_i i j;split at e
  ·rename_i hl;cases e;obtain⟨e1,h1⟩:=cP va;obtain⟨e2,h2⟩:=cP vb;subst e1;subst e2;refine jv pr s σ H _ _ v u Q I rx ry ⟨_,_,rfl,rfl,by rw[di,di];exact hl,?_⟩;rw[qj];exact k _ H G fp .refl (rel.push (cb (by rw[FU];exact hl)))
  ·cases e
 ·rename_i i j;split at e
  ·rename_i hl;cases e;obtain⟨p,xs,e1,h1,r1⟩:=va;obtain⟨p2,Ep,e2,h2,r2⟩:=vb;subst e1;subst e2;refine oq pr s σ H _ _ v u Q I rx ry ⟨p,p2,xs,Ep,rfl,rfl,h1,h2,by rw[r1.length,r2.length];exact hl,fun q hq=>?_⟩;obtain⟨wU,xl⟩:=rel.newL hq (r1.app r2);exact k _ _ G _ xl wU
  ·cases e
 ·rename_i i j;split at e
  ·rename_i hl;cases e;obtain⟨p,xs,e1,h1,r1⟩:=fP va;obtain⟨p2,Ep,e2,h2,r2⟩:=fP vb;subst e1;subst e2;have hx:xs≠[]:=fun z=>hl.1 (GF (by rw[<-r1.length,z];rfl))
   refine nM pr s σ H _ _ v u Q I rx ry ⟨p,p2,xs,Ep,rfl,rfl,bQ rel.gh h1,bQ rel.gh h2,hx,by rw[r1.length,r2.length];exact hl.2,fun z=>?_,fun z q hq=>?_⟩
   ·have:j=[]:=GF (by rw[<-r2.length,z];rfl);subst this;rw[FJ]at k;exact k _ H G fp .refl (rel.push va)
   ·obtain⟨G',wU,xl⟩:=iB rel hq (r1.app r2);exact k _ _ G' _ xl wU
  ·cases e
 ·cases e
def wm:D->D->Res R
 | .int i,.int j=>.ok (.f,.int (i-j))
 |_,_=>.bad
def c8(i:Int):Bool:=decide (-(2 ^ 64)<i/\i<2 ^ 64)
def tV:D->D->Res R
 | .int i,.int j=>if c8 i||c8 j then .ok (.f,.int (i*j)) else .bad
 |_,_=>.bad
theorem qJ:xW X (binaryOp .Mult) (rG X.K tV):=by
 rintro pr s σ H x y v u Q I rx ry ⟨G,fp,es,vs,a,b,r,⟨rel,k⟩,va,vb,e⟩;unfold tV at e;split at e
 ·rename_i i j;split at e
  ·rename_i hc;cases e;cases a3 va;cases a3 vb;have hc:CMul i j:=by
    rw[FZ]at hc;exact hc.imp GS GS
   exact pV pr s σ H _ _ v u Q I rx ry ⟨i,j,rfl,rfl,hc,k _ H G fp .refl (rel.push (bM _))⟩
  ·cases e
 ·cases e
def fD:D->D->Res R
 | .int i,.int j=>if 0<j/\j<1073741824 then .ok (.f,.int (i / j)) else .bad
 |_,_=>.bad
theorem dX:xW X (binaryOp .FloorDiv) (rG X.K fD):=by
 rintro pr s σ H x y v u Q I rx ry ⟨G,fp,es,vs,a,b,r,⟨rel,k⟩,va,vb,e⟩;unfold fD at e;split at e
 ·rename_i i j;split at e
  ·rename_i hc;cases e;cases a3 va;cases a3 vb;exact nF pr s σ H _ _ v u Q I rx ry ⟨i,j,rfl,rfl,hc,k _ H G fp .refl (rel.push (bM _))⟩
  ·cases e
 ·cases e
def fQ:D->D->Res R
 | .int i,.int j=>if 0<j then .ok (.f,.int (i%j)) else .bad
 |_,_=>.bad
theorem bP:xW X (binaryOp .Mod) (rG X.K fQ):=by
 rintro pr s σ H x y v u Q I rx ry ⟨G,fp,es,vs,a,b,r,⟨rel,k⟩,va,vb,e⟩;unfold fQ at e;split at e
 ·rename_i i j;split at e
  ·rename_i hc;cases e;cases a3 va;cases a3 vb;exact pW pr s σ H _ _ v u Q I rx ry ⟨i,j,rfl,rfl,hc,k _ H G fp .refl (rel.push (bM _))⟩
  ·cases e
 ·cases e
def jN:D->D->Res R
 | .int i,.int j=>if 0<=j/\j<=1000000/\i.natAbs<2 ^ 64 then .ok (.f,.int (i ^ j.toNat)) else .bad
 |_,_=>.bad
theorem ja:xW X (binaryOp .Pow) (rG X.K jN):=by
 rintro pr s σ H x y v u Q I rx ry ⟨G,fp,es,vs,a,b,r,⟨rel,k⟩,va,vb,e⟩;unfold jN at e;split at e
 ·rename_i i j;split at e
  ·rename_i hc;cases e;cases a3 va;cases a3 vb;exact pX pr s σ H _ _ v u Q I rx ry ⟨i,j,rfl,rfl,hc,k _ H G fp .refl (rel.push (bM _))⟩
  ·cases e
 ·cases e
def Cu:D->D->Res R
 | .int i,.int j=>.ok (.f,.bl (decide (i<j)))
 | .str a,.str b=>.ok (.f,.bl (decide (a<b)))
 |_,_=>.bad
theorem tW:xW X (compareOp .Lt) (rG X.K Cu):=by
 rintro pr s σ H x y v u Q I rx ry ⟨G,fp,es,vs,a,b,r,⟨rel,k⟩,va,vb,e⟩;unfold Cu at e;split at e
 ·rename_i i j;cases e;cases a3 va;cases a3 vb;exact tj pr s σ H _ _ v u Q I rx ry ⟨i,j,rfl,rfl,k _ H G fp .refl (rel.push (cO _))⟩
 ·rename_i i j;cases e;obtain⟨e1,h1⟩:=cP va;obtain⟨e2,h2⟩:=cP vb;subst e1;subst e2;refine jW pr s σ H _ _ v u Q I rx ry ⟨_,_,rfl,rfl,?_⟩;rw[cM,cM];exact k _ H G fp .refl (rel.push (cO _))
 ·cases e
def BL:D->D->Res R
 | .int i,.int j=>.ok (.f,.bl (decide (i<=j)))
 | .str a,.str b=>.ok (.f,.bl (!decide (b<a)))
 |_,_=>.bad
theorem l7:xW X (compareOp .LtE) (rG X.K BL):=by
 rintro pr s σ H x y v u Q I rx ry ⟨G,fp,es,vs,a,b,r,⟨rel,k⟩,va,vb,e⟩;unfold BL at e;split at e
 ·rename_i i j;cases e;cases a3 va;cases a3 vb;exact L2.tm pr s σ H _ _ v u Q I rx ry ⟨i,j,rfl,rfl,k _ H G fp .refl (rel.push (cO _))⟩
 ·rename_i i j;cases e;obtain⟨e1,h1⟩:=cP va;obtain⟨e2,h2⟩:=cP vb;subst e1;subst e2;refine kc pr s σ H _ _ v u Q I rx ry ⟨_,_,rfl,rfl,?_⟩;rw[cM,cM];exact k _ H G fp .refl (rel.push (cO _))
 ·cases e
def Bw:D->D->Res R
 | .int i,.int j=>.ok (.f,.bl (decide (j<i)))
 |_,_=>.bad
theorem kJ:xW X (compareOp .Gt) (rG X.K Bw):=by
 rintro pr s σ H x y v u Q I rx ry ⟨G,fp,es,vs,a,b,r,⟨rel,k⟩,va,vb,e⟩;unfold Bw at e;split at e
 ·rename_i i j;cases e;cases a3 va;cases a3 vb;exact tq pr s σ H _ _ v u Q I rx ry ⟨i,j,rfl,rfl,k _ H G fp .refl (rel.push (cO _))⟩
 ·cases e
def geD:D->D->Res R
 | .int i,.int j=>.ok (.f,.bl (decide (j<=i)))
 |_,_=>.bad
end
abbrev FDs:=PV.Env->Res (List D×PV.Env)
inductive tDs(K:W.Frag)(f:FDs)(σ:L2.St)(H:Hp)(Q:List V->Hp->Prop):Prop
 |mk:∀G env fp ds env',Rel K G H env σ fp->f env=.ok (ds,env')->(∀vs H' G' wV,Step G H fp G' H' wV->Rel K G' H' env' σ wV->Reps K G' ds vs->Q vs H')->tDs K f σ H Q
def C5(X:Cx)(es:List Expr)(f:FDs):Prop:=PA X es (tDs X.K f)
def eR:FDs:=fun env=>.ok ([],env)
def bJ(f:FX)(g:FDs):FDs:=fun env=>(f env).bind fun p=>(g p.2).bind fun q=>.ok (p.1.2::q.1,q.2)
section
variable{X:Cx}
theorem cS:C5 X [] eR:=i6 dZ fun σ H Q xi=>by
 obtain⟨G,env,fp,o,env',rel,e,k⟩:=xi;cases e;exact k [] H G fp .refl rel .nil
theorem bc{e:Expr}{es:List Expr}{f:FX}{g:FDs}(h:QE X e f)(hs:C5 X es g)(BJ:starEach (e::es) X.env=(false,eval e X.env)::starEach es X.env:=by rfl):C5 X (e::es) (bJ f g):=
 i6 (bK h hs BJ) fun σ H Q xi=>by
  obtain⟨G,env,fp,o,env',rel,e,k⟩:=xi;obtain⟨⟨r,wJ⟩,e1,e⟩:=ag e;obtain⟨⟨ds,xo⟩,e2,e⟩:=ag e;cases e;refine⟨G,env,fp,r,wJ,rel,e1,fun v H1 G1 xk xm wM=>?_⟩;obtain⟨G2,b,rv,wU,xl⟩:=wM.freeze;exact⟨G2,wJ,b,ds,xo,wU,e2,fun vs H3 G3 zy x3 xN rs=>k _ H3 G3 zy (xm.trans (xl.trans x3)) xN (.cons (Rep.mono x3.gg rv) rs)⟩
def tY(fs:FDs):FX:=fun env=>(fs env).bind fun p=>if p.1.length<=1000 then .ok ((.f,.tup p.1),p.2) else .bad
def mX(fs:FDs):FX:=fun env=>(fs env).bind fun p=>if p.1.length<=1000 then .ok ((.l .f,.lst p.1),p.2) else .bad
variable{es:List Expr}{fs:FDs}{pos:Pos}
theorem qK{x1}(h:C5 X es fs):QE X (.Tuple es x1 pos) (tY fs):=aW (pY h) fun σ H Q xi=>by
 obtain⟨G,env,fp,r,env',rel,e,k⟩:=xi;obtain⟨⟨ds,wJ⟩,e1,e⟩:=ag e;dsimp only at e;split at e
 ·rename_i hl;cases e;refine⟨G,env,fp,ds,env',rel,e1,fun vs H1 G1 xk xm wM rs=>⟨by rw[rs.length,line_eq];lia,fun p hp=>?_⟩⟩;obtain⟨G2,wU,xl⟩:=iB wM hp rs;exact k _ _ G2 _ (xm.trans xl) wU
 ·cases e
theorem fR(h:C5 X es fs):QE X (.List es pos) (mX fs):=aW (mS h) fun σ H Q xi=>by
 obtain⟨G,env,fp,r,env',rel,e,k⟩:=xi;obtain⟨⟨ds,wJ⟩,e1,e⟩:=ag e;dsimp only at e;split at e
 ·rename_i hl;cases e;refine⟨G,env,fp,ds,env',rel,e1,fun vs H1 G1 xk xm wM rs=>⟨by rw[rs.length,line_eq];lia,fun p hp=>?_⟩⟩;obtain⟨wU,xl⟩:=wM.newL hp rs;exact k _ _ G1 _ (xm.trans xl) wU
 ·cases e
noncomputable def ze:D->D->Res R
 | .lst ds,.int i=>match zG ds i with
  |some d=>.ok (.f,d)
  |none=>.bad
 | .tup ds,.int i=>match zG ds i with
  |some d=>.ok (.f,d)
  |none=>.bad
 | .str l,.int i=>match zG l i with
  |some c=>.ok (.f,.str [c])
  |none=>.bad
 |_,_=>.bad
theorem jb{K:W.Frag}{G:Hp}{ds:List D}{xs:List V}{i:Int}{d:D}(r:Reps K G ds xs)(e:zG ds i=some d):∃v,zG xs i=some v/\Rep K G d v:=by
 unfold zG at e ⊢;rw[r.length];cases hn:ixN ds.length i with
 |none=>rw[hn]at e;cases e
 |some j=>
  rw[hn]at e;exact r.get e
theorem tZ:CP X (rG X.K ze):=by
 rintro value slice pr s σ H x y v u Q I rx ry ⟨G,fp,es,vs,a,b,r,⟨rel,k⟩,va,vb,e⟩ hs;unfold ze at e;split at e
 ·rename_i ds i;split at e
  ·rename_i d hd;cases e;obtain⟨p,xs,ev,sq,rs⟩:=va;subst ev;cases a3 vb;obtain⟨w',hw,BD⟩:=jb rs hd;exact nO value slice pr s σ H _ _ v u Q I rx ry ⟨p,xs,i,w',rfl,rfl,sq,hw,k _ H G fp .refl (rel.push BD)⟩ hs
  ·cases e
 ·rename_i ds i;split at e
  ·rename_i d hd;cases e;obtain⟨p,xs,ev,sq,rs⟩:=fP va;subst ev;cases a3 vb;obtain⟨w',hw,BD⟩:=jb rs hd;exact qc value slice pr s σ H _ _ v u Q I rx ry ⟨p,xs,i,w',rfl,rfl,bQ rel.gh sq,hw,k _ H G fp .refl (rel.push BD)⟩ hs
  ·cases e
 ·rename_i l i;split at e
  ·rename_i c hc;cases e;obtain⟨ev,hl⟩:=cP va;subst ev;cases a3 vb;refine qd value slice pr s σ H _ _ v u Q I rx ry ⟨_,i,c,rfl,rfl,by rw[di];exact hl,by rw[cM];exact hc,?_⟩ hs;exact k _ H G fp .refl (rel.push (cb (l:=[c]) (by rw[line_eq];simp)))
  ·cases e
 ·cases e
variable{a b:Expr}{fa fb:FO}
theorem dk(ha:QO X a fa)(hb:QO X b fb)(hs:j7 b:=by exact fun _ _=>rfl):QE X (.Subscript a b pos) (aX ze fa fb):=aW (tF tZ ha hb hs) fun _ _ _=>kq
abbrev FP:=PV.Env->Res (Option Int×PV.Env)
inductive tQP(K:W.Frag)(f:FP)(σ:L2.St)(H:Hp)(Q:Option Int->Hp->Prop):Prop
 |mk:∀G env fp i env',Rel K G H env σ fp->f env=.ok (i,env')->(∀H' G' wV,Step G H fp G' H' wV->Rel K G' H' env' σ wV->Q i H')->tQP K f σ H Q
def QP(X:Cx)(e:Option Expr)(f:FP):Prop:=PO X e (tQP X.K f)
def l8:FP:=fun env=>.ok (none,env)
def fE(f:FX):FP:=fun env=>(f env).bind fun p=>match p.1.2 with
 | .int i=>.ok (some i,p.2)
 |_=>.bad
theorem mY{X:Cx}{e:Option Expr}{t t':TO}(h:PO X e t)(k:∀σ H Q,t' σ H Q->t σ H Q):PO X e t':=fun pr s σ H Q I w=>h pr s σ H Q I (k σ H Q w)
theorem kK:QP X none l8:=mY nK fun σ H Q xi=>by
 obtain⟨G,env,fp,i,env',rel,e,k⟩:=xi;cases e;exact k H G fp .refl rel
theorem cf{e:Expr}{f:FX}(h:QE X e f):QP X (some e) (fE f):=mY (nL h) fun σ H Q xi=>by
 obtain⟨G,env,fp,i,env',rel,e,k⟩:=xi;obtain⟨⟨⟨o,d⟩,wJ⟩,e1,e⟩:=ag e;dsimp only at e;split at e
 ·rename_i j;cases e;refine⟨G,env,fp,_,_,rel,e1,fun v H1 G1 xk xm wM=>?_⟩;have hv:=wM.top;obtain⟨b,wU,xl⟩:=wM.drop;exact⟨j,aT hv,k H1 G1 b (xm.trans xl) wU⟩
 ·cases e
def eS{α:Type}(xs:List α)(lo hi:Option Int):List α:=(xs.drop (HT.sIx xs.length 0 lo)).take (HT.sIx xs.length xs.length hi-HT.sIx xs.length 0 lo)
noncomputable def C6(k:D)(lo hi:Option Int):Res R:=match k with
 | .lst ds=>.ok (.l .f,.lst (eS ds lo hi))
 | .tup ds=>if ¬ (HT.sIx ds.length 0 lo=0/\HT.sIx ds.length ds.length hi=ds.length) then .ok (.f,.tup (eS ds lo hi)) else .bad
 | .str l=>.ok (.f,.str (eS l lo hi))
 |_=>.bad
def eSl(fa:FO)(lo hi:FP):FX:=fun env=>(fa env).bind fun p=>(lo p.2).bind fun q=>(hi q.2).bind fun t=>(yz t.2 p.1).bind fun d=>(C6 d q.1 t.1).bind fun r=>.ok (r,t.2)
theorem jd{K:W.Frag}{G:Hp}{ds:List D}{xs:List V}{lo hi:Option Int}(r:Reps K G ds xs):Reps K G (eS ds lo hi) (mT xs lo hi):=by
 unfold eS mT;rw[r.length];exact(r.drop _).take _
theorem ou{α:Type}(xs:List α)(lo hi:Option Int):(eS xs lo hi).length<=xs.length:=by
 unfold eS;rw[Gj,Gw];lia
inductive rSl(K:W.Frag)(x:V)(lo:Option Int)(hi:Option Int)(H:Hp)(Q:VK):Prop
 |mk:∀G fp es vs d r,Goes K H G fp es vs r Q->Vw K G H d x->C6 d lo hi=.ok r->rSl K x lo hi H Q
theorem qL:BC X (rSl X.K):=by
 rintro pr s σ H x v vl vu lo hi sl Q I rx hs pl pu ⟨G,fp,es,vs,d,r,⟨rel,k⟩,vd,e⟩;unfold C6 at e;split at e
 ·rename_i ds;cases e;obtain⟨p,xs,ev,sq,rs⟩:=vd;subst ev;refine nP pr s σ H _ v vl vu lo hi sl Q I rx hs pl pu ⟨p,xs,rfl,sq,fun q hq=>?_⟩;obtain⟨wU,xl⟩:=rel.newL hq (jd (lo:=lo) (hi:=hi) rs);exact k _ _ G _ xl wU
 ·rename_i ds;split at e
  ·rename_i hw;cases e;obtain⟨p,xs,ev,sq,rs⟩:=fP vd;subst ev;refine qb pr s σ H _ v vl vu lo hi sl Q I rx hs pl pu ⟨p,xs,rfl,bQ rel.gh sq,by rw[rs.length];exact hw,fun q hq=>?_⟩;obtain⟨G2,wU,xl⟩:=iB rel hq (jd (lo:=lo) (hi:=hi) rs);exact k _ _ G2 _ xl wU
  ·cases e
 ·rename_i l;cases e;obtain⟨ev,hl⟩:=cP vd;subst ev;exact qk pr s σ H _ v vl vu lo hi sl Q I rx hs pl pu ⟨l,rfl,hl,k _ H G fp .refl (rel.push (cb (l:=qi l lo hi) (Ge (ou l lo hi) hl)))⟩
 ·cases e
def kM(env:PV.Env)(i:Nat):Bool:=match env[i]? with
 |some (some (_,.lst _))=>true
 |_=>false
theorem l9{K:W.Frag}{G H:Hp}{es:PV.Env}{σ:L2.St}{fp:List Addr}{i:Nat}(rel:Rel K G H es σ fp)(h:kM es i=true):∃v,σ[i]?=some (some v)/\Ec K "list" v H:=by
 unfold kM at h;split at h
 ·rename_i o ds hr;obtain⟨v,ev,rv⟩:=rel.view hr;obtain⟨p,xs,e,sq,_⟩:=aZ rv;subst e;exact⟨_,ev,.inl ⟨rfl,xs,sq⟩⟩
 ·cases h
def sG(i:Nat)(f:FX):FX:=fun env=>if kM env i then(f env).bind fun p=>match p.2[i]? with
 |some (some (.l .f,.lst ds))=>if ds.length<sizeLine then .ok ((.f,.non),p.2.set i (some (.l .f,.lst (ds++[p.1.2])))) else .bad
 |_=>.bad
 else .bad
theorem g9{i:Nat}{o e:Expr}{f:FX}{apos xC:Pos}(ho:PE X o (jL i))(he:QE X e f)
  (zg:attributeBase o "append" X.env (eval o X.env)=eval o X.env:=by rfl)
  (An:((backTo xC (starEach [e] X.env)).all (fun x=>!x.1)&&(backToKw xC (keywordEach [] X.env)).all (fun x=>x.1.isSome)&&decide ([e].length+([]:List Keyword).length+(if([]:List Keyword).isEmpty then 0 else 1)<30))=true:=by rfl)
  (zS:(apos.endLine==xC.line)=true:=by rfl) (hs:starEach [e] X.env=(false,eval e X.env)::starEach [] X.env:=by rfl) (zh:(backTo xC (starEach [] X.env)).any (·.1)=false:=by rfl):
  QE X (.Call (.Attribute o "append" apos) [e] [] xC) (sG i f):=by
 refine aW (qg PySem.F.plainAttrs_list PySem.F.slot_list_append PySem.F.type_list_append gU ho (bc he cS hs) zg An zS hs zh) fun σ H Q xu=>?_
 obtain⟨G,env,fp,r,env',rel,e,k⟩:=xu;unfold sG at e;split at e
 ·rename_i Er;obtain⟨v,ev,ty⟩:=l9 rel Er;obtain⟨⟨r1,wJ⟩,e1,e⟩:=ag e;dsimp only at e;split at e
  ·rename_i ds AR;split at e
   ·rename_i hl;cases e;refine⟨v,ev,ty,G,env,fp,[r1.2],wJ,rel,by show(f env).bind _=_;rw[e1];rfl,fun vs H1 G1 xk xm wM rs=>?_⟩;rw[Reps]at rs;obtain⟨y,ys,eys,ry,rn⟩:=rs;rw[Reps]at rn;subst rn;obtain⟨p,xs,ep,hp,C7,cg⟩:=wM.chg (ds':=ds++[r1.2]) AR;rw[ev]at ep;cases ep;obtain⟨fq,wU,xl⟩:=cg (xs++[y]) (C7.app (.one ry));exact⟨p,xs,y,rfl,eys,hp,by rw[C7.length];exact hl,k _ _ G1 fq (xm.trans xl) (wU.push eQ)⟩
   ·cases e
  ·cases e
 ·cases e
def t2:List D->Res R
 |[.lst ds]=>.ok (.f,.int ds.length)
 |[.tup ds]=>.ok (.f,.int ds.length)
 |[.str l]=>.ok (.f,.int l.length)
 |_=>.bad
theorem pC{K:W.Frag}{G H:Hp}{d:D}{xs:List V}(h:C1 K G H [d] xs):∃v,xs=[v]/\Vw K G H d v:=by
 obtain⟨y,ys,e,v1,e2⟩:=h;have e2:ys=[]:=e2;subst e2;exact⟨y,e,v1⟩
theorem qM:eH X (.builtin "len") (rC X.K t2):=by
 rintro pr s σ H xs us Q I rx ⟨G,fp,es,vs,ds,r,⟨rel,k⟩,vd,e⟩;unfold t2 at e;split at e
 ·rename_i ds;cases e;obtain⟨v,ev,p,ys,ep,sq,rs⟩:=pC vd;subst ev;subst ep;refine d4 pr s σ H _ us Q I rx ⟨p,ys,rfl,.inl sq,?_⟩;rw[rs.length];exact k _ H G fp .refl (rel.push (bM _))
 ·rename_i ds;cases e;obtain⟨v,ev,vt⟩:=pC vd;obtain⟨p,ys,ep,sq,rs⟩:=fP vt;subst ev;subst ep;refine d4 pr s σ H _ us Q I rx ⟨p,ys,rfl,.inr (bQ rel.gh sq),?_⟩;rw[rs.length];exact k _ H G fp .refl (rel.push (bM _))
 ·rename_i l;cases e;obtain⟨v,ev,vt⟩:=pC vd;obtain⟨ep,hl⟩:=cP vt;subst ev;subst ep;refine gT pr s σ H _ us Q I rx ⟨S l,rfl,by rw[di];exact hl,?_⟩;rw[di];exact k _ H G fp .refl (rel.push (bM _))
 ·cases e
def vP:List D->Res R
 |[.lst ds]=>.ok (.l .f,.lst ds)
 |[.tup ds]=>.ok (.l .f,.lst ds)
 |_=>.bad
def uW:List D->Res R
 |[.lst ds]=>.ok (.f,.tup ds)
 |[.tup ds]=>.ok (.f,.tup ds)
 |_=>.bad
def ma:List D->Option (List Bool)
 |[]=>some []
 | .bl b::ds=>(ma ds).map (b:: ·)
 |_=>none
def hE:List D->Option (List Int)
 |[]=>some []
 | .int b::ds=>(hE ds).map (b:: ·)
 |_=>none
theorem qN(ns:List Bool):ma (ns.map D.bl)=some ns:=by
 induction ns with
 |nil=>rfl
 |cons n ns ih=>rw[F5,ma,ih];rfl
def me:D->Option (List D)
 | .lst ds=>some ds
 | .tup ds=>some ds
 |_=>none
def wo:List D->Res R
 |[d]=>match(me d).bind ma with
  |some bs=>.ok (.f,.bl (bs.all id))
  |none=>.bad
 |_=>.bad
def maxD:List D->Res R
 |[d]=>match(me d).bind hE with
  |some (n::ns)=>.ok (.f,.int (qp (n::ns)))
  |_=>.bad
 |[.int i,.int j]=>.ok (.f,.int (if i<j then j else i))
 |_=>.bad
end
mutual
noncomputable def xg:D->D->Bool
 | .non,.non=>true
 | .bl a,.bl b=>a==b
 | .bl a,.int j=>(if a then 1 else 0)==j
 | .int i,.bl b=>i==(if b then 1 else 0)
 | .int i,.int j=>i==j
 | .str a,.str b=>a==b
 | .tup a,.tup b=>je a b
 | .lst a,.lst b=>je a b
 |_,_=>false
noncomputable def je:List D->List D->Bool
 |[],[]=>true
 |a::as,b::bs=>xg a b&&je as bs
 |_,_=>false
end
mutual
noncomputable def plainD:Nat->D->Bool
 |n+1,.tup ds=>plainDs n ds
 |n+1,.lst ds=>plainDs n ds
 | 0,.tup _=>false
 | 0,.lst _=>false
 |_,.dct _ _ _=>false
 |_,_=>true
noncomputable def plainDs:Nat->List D->Bool
 |_,[]=>true
 |n,d::ds=>plainD n d&&plainDs n ds
end
theorem plainDs_mem:∀{n:Nat}{ds:List D},plainDs n ds=true->∀{i:Nat}{d:D},ds[i]?=some d->plainD n d=true
 |_,[],_,_,_,e=>by simp at e
 |n,a::ds,h,0,d,e=>by
  rw[plainDs,Fx]at h;simp at e;rw[<-e];exact h.1
 |n,a::ds,h,i+1,d,e=>by
  rw[plainDs,Fx]at h;exact plainDs_mem h.2 (i:=i) (by simpa using e)
theorem dG:∀{a b:List D},a.length≠b.length->je a b=false
 |[],[],h=>absurd rfl h
 |[],_::_,_=>by simp only[je]
 |_::_,[],_=>by simp only[je]
 |x::xs,y::ys,h=>by
  rw[je,dG (fun e=>h (by simp[e])),Ie]
theorem cu:∀{a b:List D},a.length=b.length->(List.range a.length).all (fun j=>xg (a.getD j .non) (b.getD j .non))=je a b
 |[],[],_=>rfl
 |[],_::_,h=>by simp at h
 |_::_,[],h=>by simp at h
 |x::xs,y::ys,h=>by
  rw[je,<-cu (a:=xs) (b:=ys) (by simpa using h),Fv,List.range_succ_eq_map,HC,List.all_map];rfl
section
variable{X:Cx}{pr:List (Addr×Obj)}{σ:L2.St}{H:Hp}{s:Shared}
theorem eT(I:Inv X pr σ H s){p:Addr}{xs ys:List V}(h:SqL X.K H p xs)(h':SqT X.K H p ys):False:=by
 obtain⟨us,_,p1,_⟩:=I.list h;obtain⟨ws,_,p2,_⟩:=I.tuple h';exact SeqAt.ne_of_list_tuple p1.isList (show s.heap.IsTuple p ws.toArray from p2) rfl
mutual
theorem iC(I:Inv X pr σ H s):∀(d e:D) (x:V) (n:Nat),plainD n d=true->Rep X.K H d x->Rep X.K H e x->d=e
 | .non,e,x,n,_,r,q=>by
  cases bo r;cases e with
  |non=>rfl
  |bl b=>cases bN q
  |int i=>cases aT q
  |str l=>cases(aK q).1
  |tup l=>obtain⟨p,xs,ev,_⟩:=aY q;cases ev
  |lst l=>obtain⟨p,xs,ev,_⟩:=aZ q;cases ev
  |dct tk ks vs=>rw[Rep]at q;obtain⟨p,xs,o,ev,_⟩:=q;cases ev
 | .bl b,e,x,n,_,r,q=>by
  cases bN r;cases e with
  |non=>cases bo q
  |bl b=>cases bN q;rfl
  |int i=>cases aT q
  |str l=>cases(aK q).1
  |tup l=>obtain⟨p,xs,ev,_⟩:=aY q;cases ev
  |lst l=>obtain⟨p,xs,ev,_⟩:=aZ q;cases ev
  |dct tk ks vs=>rw[Rep]at q;obtain⟨p,xs,o,ev,_⟩:=q;cases ev
 | .int i,e,x,n,_,r,q=>by
  cases aT r;cases e with
  |non=>cases bo q
  |bl b=>cases bN q
  |int i=>cases aT q;rfl
  |str l=>cases(aK q).1
  |tup l=>obtain⟨p,xs,ev,_⟩:=aY q;cases ev
  |lst l=>obtain⟨p,xs,ev,_⟩:=aZ q;cases ev
  |dct tk ks vs=>rw[Rep]at q;obtain⟨p,xs,o,ev,_⟩:=q;cases ev
 | .str l,e,x,n,_,r,q=>by
  have hr:=(aK r).1;subst hr;cases e with
  |non=>cases bo q
  |bl b=>cases bN q
  |int i=>cases aT q
  |str l'=>
   have hq:=(aK q).1;injection hq with hq;rw[nS hq]
  |tup l=>obtain⟨p,xs,ev,_⟩:=aY q;cases ev
  |lst l=>obtain⟨p,xs,ev,_⟩:=aZ q;cases ev
  |dct tk ks vs=>rw[Rep]at q;obtain⟨p,xs,o,ev,_⟩:=q;cases ev
 | .tup l,e,x,n,h,r,q=>by
  obtain⟨p,xs,ev,sq,rs⟩:=aY r;subst ev;cases e with
  |non=>cases bo q
  |bl b=>cases bN q
  |int i=>cases aT q
  |str l=>cases(aK q).1
  |tup l'=>
   obtain⟨p',zx,yV,yD,zH⟩:=aY q;cases yV;have:=I.tuple_inj sq yD;subst this;cases n with
   |zero=>simp only[plainD]at h;cases h
   |succ n=>
    simp only[plainD]at h;rw[gy I l l' xs n h rs zH]
  |lst l'=>
   obtain⟨p',zx,yV,yD,zH⟩:=aZ q;cases yV;exact(eT I yD sq).elim
  |dct tk ks vs=>
   exfalso;rw[Rep]at q;obtain⟨p',zx,o,yV,rd,dd,_⟩:=q;cases yV;obtain⟨wZ,_,ip,_⟩:=I.tuple sq;obtain⟨ob,ho,hc,_⟩:=ip;have BM:=rd.ok I.hok;cases tk with
   |true=>
    obtain⟨w9,eo,_⟩:=dd;subst eo;obtain⟨_,_,_,_,o2,_,_,y3,ex,_⟩:=BM;rw[ho]at y3;cases y3;rw[ex.1]at hc;exact absurd hc (by decide)
   |false=>
    obtain⟨w9,eo,_⟩:=dd;subst eo;obtain⟨_,_,_,_,o2,_,_,y3,ex,_⟩:=BM;rw[ho]at y3;cases y3;rw[ex.1]at hc;exact absurd hc (by decide)
 | .lst l,e,x,n,h,r,q=>by
  obtain⟨p,xs,ev,sq,rs⟩:=aZ r;subst ev;cases e with
  |non=>cases bo q
  |bl b=>cases bN q
  |int i=>cases aT q
  |str l=>cases(aK q).1
  |tup l'=>
   obtain⟨p',zx,yV,yD,zH⟩:=aY q;cases yV;exact(eT I sq yD).elim
  |lst l'=>
   obtain⟨p',zx,yV,yD,zH⟩:=aZ q;cases yV;have:=I.list_inj sq yD;subst this;cases n with
   |zero=>simp only[plainD]at h;cases h
   |succ n=>
    simp only[plainD]at h;rw[gy I l l' xs n h rs zH]
  |dct tk ks vs=>
   exfalso;rw[Rep]at q;obtain⟨p',zx,o,yV,rd,dd,_⟩:=q;cases yV;obtain⟨wZ,_,ip,_⟩:=I.list sq;obtain⟨ob,_,ho,hc,_⟩:=ip;have BM:=rd.ok I.hok;cases tk with
   |true=>
    obtain⟨w9,eo,_⟩:=dd;subst eo;obtain⟨_,_,_,_,o2,_,_,y3,ex,_⟩:=BM;rw[ho]at y3;cases y3;rw[ex.1]at hc;exact absurd hc (by decide)
   |false=>
    obtain⟨w9,eo,_⟩:=dd;subst eo;obtain⟨_,_,_,_,o2,_,_,y3,ex,_⟩:=BM;rw[ho]at y3;cases y3;rw[ex.1]at hc;exact absurd hc (by decide)
 | .dct _ _ _,_,_,n,h,_,_=>by cases n <;> (simp only[plainD]at h;cases h)
theorem gy(I:Inv X pr σ H s):∀(ds es:List D) (xs:List V) (n:Nat),plainDs n ds=true->Reps X.K H ds xs->Reps X.K H es xs->ds=es
 |[],es,xs,n,_,r,q=>by
  rw[Reps]at r;subst r;cases es with
  |nil=>rfl
  |cons e es=>
   rw[Reps]at q;obtain⟨y,ys,ev,_⟩:=q;cases ev
 |d::ds,es,xs,n,h,r,q=>by
  rw[Reps]at r;obtain⟨y,ys,ev,r1,r2⟩:=r;subst ev;rw[plainDs,Fx]at h;cases es with
  |nil=>
   rw[Reps]at q;cases q
  |cons e es=>
   rw[Reps]at q;obtain⟨y',ys',ev,q1,q2⟩:=q;cases ev;rw[iC I d e y n h.1 r1 q1,gy I ds es ys n h.2 r2 q2]
end
mutual
theorem eC:∀(d:D) (n:Nat),plainD n d=true->xg d d=true
 | .non,_,_=>by simp only[xg]
 | .bl _,_,_=>by simp only[xg,Gn]
 | .int _,_,_=>by simp only[xg,Gn]
 | .str _,_,_=>by simp only[xg,Gn]
 | .tup ds,0,h=>by simp only[plainD]at h;cases h
 | .tup ds,n+1,h=>by simp only[plainD]at h;simp only[xg];exact eU ds n h
 | .lst ds,0,h=>by simp only[plainD]at h;cases h
 | .lst ds,n+1,h=>by simp only[plainD]at h;simp only[xg];exact eU ds n h
 | .dct _ _ _,n,h=>by cases n <;> (simp only[plainD]at h;cases h)
theorem eU:∀(ds:List D) (n:Nat),plainDs n ds=true->je ds ds=true
 |[],_,_=>by simp only[je]
 |d::ds,n,h=>by
  rw[plainDs,Fx]at h;rw[je,eC d n h.1,eU ds n h.2];rfl
end
open PySem.SeqAt
theorem aM{n:Nat}{tk:Bool}{ks vs:List D}(h:plainD n (.dct tk ks vs)=true):False:=by cases n <;> (simp only[plainD]at h;cases h)
mutual
theorem t6(I:Inv X pr σ H s):∀(d e:D) (x y:V) (v u:Value) (A:Around) (n:Nat),plainD n d=true->plainD n e=true->A.units+n<cLine->Rep X.K H d x->Rep X.K H e y->RelV x v->RelV y u->EqAt A s v u (xg d e)
 | .non,e,x,y,v,u,A,n,h,h',hu,r,q,rx,ry=>by
  cases bo r;cases rx;cases e with
  |non=>cases bo q;cases ry;simp only[xg];exact .same _
  |bl b=>cases bN q;cases ry;simp only[xg];exact .none_bool _
  |int i=>cases aT q;obtain⟨t,rfl⟩:=ry;simp only[xg];exact .none_int _ _
  |str l=>cases(aK q).1;obtain⟨t,rfl⟩:=ry;simp only[xg];exact .none_str _ _
  |tup l=>obtain⟨p,xs,rfl,sq,_⟩:=aY q;cases ry;obtain⟨wZ,_,ip,_⟩:=I.tuple sq;simp only[xg];exact .none_tuple (show s.heap.IsTuple p wZ.toArray from ip) (by lia)
  |lst l=>obtain⟨p,xs,rfl,sq,_⟩:=aZ q;cases ry;obtain⟨wZ,_,ip,_⟩:=I.list sq;simp only[xg];exact .none_list ip.isList (by lia)
  |dct tk ks vs=>exact(aM h').elim
 | .bl b,e,x,y,v,u,A,n,h,h',hu,r,q,rx,ry=>by
  cases bN r;cases rx;cases e with
  |non=>cases bo q;cases ry;simp only[xg];exact .bool_none _
  |bl b=>cases bN q;cases ry;simp only[xg];exact .bool_bool _ _
  |int i=>cases aT q;obtain⟨t,rfl⟩:=ry;simp only[xg];exact .bool_int _ _ _
  |str l=>cases(aK q).1;obtain⟨t,rfl⟩:=ry;simp only[xg];exact .bool_str _ _ _
  |tup l=>obtain⟨p,xs,rfl,sq,_⟩:=aY q;cases ry;obtain⟨wZ,_,ip,_⟩:=I.tuple sq;simp only[xg];exact .bool_tuple _ (show s.heap.IsTuple p wZ.toArray from ip) (by lia)
  |lst l=>obtain⟨p,xs,rfl,sq,_⟩:=aZ q;cases ry;obtain⟨wZ,_,ip,_⟩:=I.list sq;simp only[xg];exact .bool_list _ ip.isList (by lia)
  |dct tk ks vs=>exact(aM h').elim
 | .int b,e,x,y,v,u,A,n,h,h',hu,r,q,rx,ry=>by
  cases aT r;obtain⟨t0,rfl⟩:=rx;cases e with
  |non=>cases bo q;cases ry;simp only[xg];exact .int_none _ _
  |bl b=>cases bN q;cases ry;simp only[xg];exact .int_bool _ _ _
  |int i=>cases aT q;obtain⟨t,rfl⟩:=ry;simp only[xg];exact .int_int _ _ _ _
  |str l=>cases(aK q).1;obtain⟨t,rfl⟩:=ry;simp only[xg];exact .int_str _ _ _ _
  |tup l=>obtain⟨p,xs,rfl,sq,_⟩:=aY q;cases ry;obtain⟨wZ,_,ip,_⟩:=I.tuple sq;simp only[xg];exact .int_tuple _ _ (show s.heap.IsTuple p wZ.toArray from ip) (by lia)
  |lst l=>obtain⟨p,xs,rfl,sq,_⟩:=aZ q;cases ry;obtain⟨wZ,_,ip,_⟩:=I.list sq;simp only[xg];exact .int_list _ _ ip.isList (by lia)
  |dct tk ks vs=>exact(aM h').elim
 | .str b,e,x,y,v,u,A,n,h,h',hu,r,q,rx,ry=>by
  have hr:=(aK r).1;subst hr;obtain⟨t0,rfl⟩:=rx;cases e with
  |non=>cases bo q;cases ry;simp only[xg];exact .str_none _ _
  |bl b=>cases bN q;cases ry;simp only[xg];exact .str_bool _ _ _
  |int i=>cases aT q;obtain⟨t,rfl⟩:=ry;simp only[xg];exact .str_int _ _ _ _
  |str l=>
   have hq:=(aK q).1;subst hq;obtain⟨t,rfl⟩:=ry;have e1:(b==l)=(S b==S l):=by
    rw[GN,Gh,Gh];exact⟨fun z=>by rw[z],nS⟩
   simp only[xg,e1];exact .str_str _ _ _ _
  |tup l=>obtain⟨p,xs,rfl,sq,_⟩:=aY q;cases ry;obtain⟨wZ,_,ip,_⟩:=I.tuple sq;simp only[xg];exact .str_tuple _ _ (show s.heap.IsTuple p wZ.toArray from ip) (by lia)
  |lst l=>obtain⟨p,xs,rfl,sq,_⟩:=aZ q;cases ry;obtain⟨wZ,_,ip,_⟩:=I.list sq;simp only[xg];exact .str_list _ _ ip.isList (by lia)
  |dct tk ks vs=>exact(aM h').elim
 | .tup l,e,x,y,v,u,A,n,h,h',hu,r,q,rx,ry=>by
  have rr:=r;obtain⟨p,xs,ev,sq,rs⟩:=aY r;subst ev;cases rx;obtain⟨wZ,vl,ip,_⟩:=I.tuple sq;have ip:s.heap.IsTuple p wZ.toArray:=ip;cases e with
  |non=>cases bo q;cases ry;simp only[xg];exact .tuple_none ip (by lia)
  |bl b=>cases bN q;cases ry;simp only[xg];exact .tuple_bool _ ip (by lia)
  |int i=>cases aT q;obtain⟨t,rfl⟩:=ry;simp only[xg];exact .tuple_int _ _ ip (by lia)
  |str l=>cases(aK q).1;obtain⟨t,rfl⟩:=ry;simp only[xg];exact .tuple_str _ _ ip (by lia)
  |tup l'=>
   obtain⟨p',zx,yV,yD,zH⟩:=aY q;subst yV;cases ry;by_cases hp:p=p'
   ·subst hp;have hz:=iC I _ _ _ n h rr q;rw[<-hz,eC _ n h];exact .same _
   ·obtain⟨its',As,yL,_⟩:=I.tuple yD;have yL:s.heap.IsTuple p' its'.toArray:=yL;cases n with
    |zero=>simp only[plainD]at h;cases h
    |succ n=>
     simp only[plainD]at h h';have l1:=vl.length;have l2:=As.length;have l3:=rs.length;have l4:=zH.length;have key:=RcAt.tuples (A:=A) (e:=fun j=>xg (l.getD j .non) (l'.getD j .non)) ip yL (by lia) fun j h1 h2=>by
      simp only[Fp]at h1 h2;have g1:l[j]?=some (l[j]'(by lia)):=Fq _;have g2:l'[j]?=some (l'[j]'(by lia)):=Fq _;obtain⟨w1,BN,BO⟩:=rs.get g1;obtain⟨w2,BP,BQ⟩:=zH.get g2;obtain⟨u1,Au,BR⟩:=vl.get BN;obtain⟨u2,Av,BU⟩:=As.get BP;have q1:wZ.toArray[j]=u1:=by rw[Fq h1]at Au;simpa using Au
      have q2:its'.toArray[j]=u2:=by rw[Fq h2]at Av;simpa using Av
      rw[q1,q2,FC,FC,g1,g2];exact hG I l j _ g1 _ w1 w2 u1 u2 A.in1 n (plainDs_mem h g1) (plainDs_mem h' g2) (by show A.units+1+n<cLine;lia) BO BQ BR BU
     simp only[xg];have fin:((List.range (min wZ.toArray.size its'.toArray.size)).all (fun j=>xg (l.getD j .non) (l'.getD j .non))&&wZ.toArray.size==its'.toArray.size)=je l l':=by
      simp only[Fp];by_cases hl:l.length=l'.length
      ·rw[<-cu hl,show min wZ.length its'.length=l.length by lia,show(wZ.length==its'.length)=true by rw[Gh];lia,Bool.and_true]
      ·rw[dG hl,show(wZ.length==its'.length)=false by rw[F1];lia,Ie]
     rw[<-fin];exact .of_refs hp key
  |lst l'=>obtain⟨p',zx,yV,yD,_⟩:=aZ q;subst yV;cases ry;obtain⟨its',_,yL,_⟩:=I.list yD;simp only[xg];exact .tuple_list ip yL.isList (by lia)
  |dct tk ks vs=>exact(aM h').elim
 | .lst l,e,x,y,v,u,A,n,h,h',hu,r,q,rx,ry=>by
  have rr:=r;obtain⟨p,xs,ev,sq,rs⟩:=aZ r;subst ev;cases rx;obtain⟨wZ,vl,ip,_⟩:=I.list sq;have ip:=ip.isList;cases e with
  |non=>cases bo q;cases ry;simp only[xg];exact .list_none ip (by lia)
  |bl b=>cases bN q;cases ry;simp only[xg];exact .list_bool _ ip (by lia)
  |int i=>cases aT q;obtain⟨t,rfl⟩:=ry;simp only[xg];exact .list_int _ _ ip (by lia)
  |str l=>cases(aK q).1;obtain⟨t,rfl⟩:=ry;simp only[xg];exact .list_str _ _ ip (by lia)
  |lst l'=>
   obtain⟨p',zx,yV,yD,zH⟩:=aZ q;subst yV;cases ry;by_cases hp:p=p'
   ·subst hp;have hz:=iC I _ _ _ n h rr q;rw[<-hz,eC _ n h];exact .same _
   ·obtain⟨its',As,yL,_⟩:=I.list yD;have yL:=yL.isList;cases n with
    |zero=>simp only[plainD]at h;cases h
    |succ n=>
     simp only[plainD]at h h';have l1:=vl.length;have l2:=As.length;have l3:=rs.length;have l4:=zH.length;simp only[xg];by_cases hl:l.length=l'.length
     ·have key:=RcAt.lists (A:=A) (e:=fun j=>xg (l.getD j .non) (l'.getD j .non)) ip yL (by simp only[Fp];lia) (by lia) fun j h1 h2=>by
       simp only[Fp]at h1 h2;have g1:l[j]?=some (l[j]'(by lia)):=Fq _;have g2:l'[j]?=some (l'[j]'(by lia)):=Fq _;obtain⟨w1,BN,BO⟩:=rs.get g1;obtain⟨w2,BP,BQ⟩:=zH.get g2;obtain⟨u1,Au,BR⟩:=vl.get BN;obtain⟨u2,Av,BU⟩:=As.get BP;have q1:wZ.toArray[j]=u1:=by rw[Fq h1]at Au;simpa using Au
       have q2:its'.toArray[j]=u2:=by rw[Fq h2]at Av;simpa using Av
       rw[q1,q2,FC,FC,g1,g2];exact hG I l j _ g1 _ w1 w2 u1 u2 A.in1 n (plainDs_mem h g1) (plainDs_mem h' g2) (by show A.units+1+n<cLine;lia) BO BQ BR BU
      rw[<-cu hl,show l.length=wZ.toArray.size by simp only[Fp];lia];exact .of_refs hp key
     ·rw[dG hl];exact .of_refs hp (RcAt.lists_lengths ip yL (by simp only[Fp,JF];lia) (by lia))
  |tup l'=>obtain⟨p',zx,yV,yD,_⟩:=aY q;subst yV;cases ry;obtain⟨its',_,yL,_⟩:=I.tuple yD;simp only[xg];exact .list_tuple ip (show s.heap.IsTuple p' its'.toArray from yL) (by lia)
  |dct tk ks vs=>exact(aM h').elim
 | .dct _ _ _,_,_,_,_,_,_,n,h,_,_,_,_,_,_=>(aM h).elim
theorem hG(I:Inv X pr σ H s):∀(ds:List D) (j:Nat) (d:D),ds[j]?=some d->∀(e:D) (x y:V) (v u:Value) (A:Around) (n:Nat),plainD n d=true->plainD n e=true->A.units+n<cLine->Rep X.K H d x->Rep X.K H e y->RelV x v->RelV y u->EqAt A s v u (xg d e)
 |[],_,_,hj=>by simp at hj
 |d'::ds,0,d,hj=>by
  simp at hj;subst hj;exact t6 I d'
 |d'::ds,j+1,d,hj=>hG I ds j d (by simpa using hj)
end
end
section
variable{X:Cx}
def yT(a b:D):Res R:=if plainD 40 a&&plainD 40 b then .ok (.f,.bl (xg a b)) else .bad
def C8(a b:D):Res R:=if plainD 40 a&&plainD 40 b then .ok (.f,.bl (!xg a b)) else .bad
open PySem.SeqAt in
theorem qO{pr:List (Addr×Obj)}{σ:L2.St}{H:Hp}{s:Shared}(I:Inv X pr σ H s){d e:D}{x y:V}{v u:Value}{A:Around}(h:plainD 40 d=true)(h':plainD 40 e=true)(hu:A.units+64<cLine)(r:Rep X.K H d x)(q:Rep X.K H e y)(rx:RelV x v)(ry:RelV y u):
  RcAt A s v u (xg d e)/\RcNeAt A s v u (!xg d e):=by
 cases d with
 |non=>
  cases bo r;cases rx;cases e with
  |non=>cases bo q;cases ry;simp only[xg];exact⟨.none_none,.none_none⟩
  |bl b=>cases bN q;cases ry;simp only[xg];exact⟨.none_bool _,.none_bool _⟩
  |int i=>cases aT q;obtain⟨t,rfl⟩:=ry;simp only[xg];exact⟨.none_int _ _,.none_int _ _⟩
  |str l=>cases(aK q).1;obtain⟨t,rfl⟩:=ry;simp only[xg];exact⟨.none_str _ _,.none_str _ _⟩
  |tup l=>obtain⟨p,xs,rfl,sq,_⟩:=aY q;cases ry;obtain⟨wZ,_,ip,_⟩:=I.tuple sq;simp only[xg];exact⟨.none_tuple (show s.heap.IsTuple p wZ.toArray from ip) (by lia),.none_tuple (show s.heap.IsTuple p wZ.toArray from ip) (by lia)⟩
  |lst l=>obtain⟨p,xs,rfl,sq,_⟩:=aZ q;cases ry;obtain⟨wZ,_,ip,_⟩:=I.list sq;simp only[xg];exact⟨.none_list ip.isList (by lia),.none_list ip.isList (by lia)⟩
  |dct tk ks vs=>exact(aM h').elim
 |bl b=>
  cases bN r;cases rx;cases e with
  |non=>cases bo q;cases ry;simp only[xg];exact⟨.bool_none _,.bool_none _⟩
  |bl b=>cases bN q;cases ry;simp only[xg];exact⟨.bool_bool _ _,.bool_bool _ _⟩
  |int i=>cases aT q;obtain⟨t,rfl⟩:=ry;simp only[xg];exact⟨.bool_int _ _ _,.bool_int _ _ _⟩
  |str l=>cases(aK q).1;obtain⟨t,rfl⟩:=ry;simp only[xg];exact⟨.bool_str _ _ _,.bool_str _ _ _⟩
  |tup l=>obtain⟨p,xs,rfl,sq,_⟩:=aY q;cases ry;obtain⟨wZ,_,ip,_⟩:=I.tuple sq;simp only[xg];exact⟨.bool_tuple _ (show s.heap.IsTuple p wZ.toArray from ip) (by lia),.bool_tuple _ (show s.heap.IsTuple p wZ.toArray from ip) (by lia)⟩
  |lst l=>obtain⟨p,xs,rfl,sq,_⟩:=aZ q;cases ry;obtain⟨wZ,_,ip,_⟩:=I.list sq;simp only[xg];exact⟨.bool_list _ ip.isList (by lia),.bool_list _ ip.isList (by lia)⟩
  |dct tk ks vs=>exact(aM h').elim
 |int b=>
  cases aT r;obtain⟨t0,rfl⟩:=rx;cases e with
  |non=>cases bo q;cases ry;simp only[xg];exact⟨.int_none _ _,.int_none _ _⟩
  |bl b=>cases bN q;cases ry;simp only[xg];exact⟨.int_bool _ _ _,.int_bool _ _ _⟩
  |int i=>cases aT q;obtain⟨t,rfl⟩:=ry;simp only[xg];exact⟨.int_int _ _ _ _,.int_int _ _ _ _⟩
  |str l=>cases(aK q).1;obtain⟨t,rfl⟩:=ry;simp only[xg];exact⟨.int_str _ _ _ _,.int_str _ _ _ _⟩
  |tup l=>obtain⟨p,xs,rfl,sq,_⟩:=aY q;cases ry;obtain⟨wZ,_,ip,_⟩:=I.tuple sq;simp only[xg];exact⟨.int_tuple _ _ (show s.heap.IsTuple p wZ.toArray from ip) (by lia),.int_tuple _ _ (show s.heap.IsTuple p wZ.toArray from ip) (by lia)⟩
  |lst l=>obtain⟨p,xs,rfl,sq,_⟩:=aZ q;cases ry;obtain⟨wZ,_,ip,_⟩:=I.list sq;simp only[xg];exact⟨.int_list _ _ ip.isList (by lia),.int_list _ _ ip.isList (by lia)⟩
  |dct tk ks vs=>exact(aM h').elim
 |str b=>
  have hr:=(aK r).1;subst hr;obtain⟨t0,rfl⟩:=rx;cases e with
  |non=>cases bo q;cases ry;simp only[xg];exact⟨.str_none _ _,.str_none _ _⟩
  |bl b=>cases bN q;cases ry;simp only[xg];exact⟨.str_bool _ _ _,.str_bool _ _ _⟩
  |int i=>cases aT q;obtain⟨t,rfl⟩:=ry;simp only[xg];exact⟨.str_int _ _ _ _,.str_int _ _ _ _⟩
  |str l=>
   have hq:=(aK q).1;subst hq;obtain⟨t,rfl⟩:=ry;have e1:(b==l)=(S b==S l):=by
    rw[GN,Gh,Gh];exact⟨fun z=>by rw[z],nS⟩
   simp only[xg,e1];exact⟨.str_str _ _ _ _,.str_str _ _ _ _⟩
  |tup l=>obtain⟨p,xs,rfl,sq,_⟩:=aY q;cases ry;obtain⟨wZ,_,ip,_⟩:=I.tuple sq;simp only[xg];exact⟨.str_tuple _ _ (show s.heap.IsTuple p wZ.toArray from ip) (by lia),.str_tuple _ _ (show s.heap.IsTuple p wZ.toArray from ip) (by lia)⟩
  |lst l=>obtain⟨p,xs,rfl,sq,_⟩:=aZ q;cases ry;obtain⟨wZ,_,ip,_⟩:=I.list sq;simp only[xg];exact⟨.str_list _ _ ip.isList (by lia),.str_list _ _ ip.isList (by lia)⟩
  |dct tk ks vs=>exact(aM h').elim
 |tup l=>
  obtain⟨p,xs,ev,sq,rs⟩:=aY r;subst ev;cases rx;obtain⟨wZ,vl,ip,_⟩:=I.tuple sq;have ip:s.heap.IsTuple p wZ.toArray:=ip;cases e with
  |non=>cases bo q;cases ry;simp only[xg];exact⟨.tuple_none ip (by lia),.tuple_none ip (by lia)⟩
  |bl b=>cases bN q;cases ry;simp only[xg];exact⟨.tuple_bool _ ip (by lia),.tuple_bool _ ip (by lia)⟩
  |int i=>cases aT q;obtain⟨t,rfl⟩:=ry;simp only[xg];exact⟨.tuple_int _ _ ip (by lia),.tuple_int _ _ ip (by lia)⟩
  |str l=>cases(aK q).1;obtain⟨t,rfl⟩:=ry;simp only[xg];exact⟨.tuple_str _ _ ip (by lia),.tuple_str _ _ ip (by lia)⟩
  |tup l'=>
   obtain⟨p',zx,yV,yD,zH⟩:=aY q;subst yV;cases ry;obtain⟨its',As,yL,_⟩:=I.tuple yD;have yL:s.heap.IsTuple p' its'.toArray:=yL;simp only[plainD]at h h';have l1:=vl.length;have l2:=As.length;have l3:=rs.length;have l4:=zH.length;have el:∀j (h1:j<wZ.toArray.size) (h2:j<its'.toArray.size),EqAt A.in1 s wZ.toArray[j] its'.toArray[j] ((fun j=>xg (l.getD j .non) (l'.getD j .non)) j):=fun j h1 h2=>by
    simp only[Fp]at h1 h2;have g1:l[j]?=some (l[j]'(by lia)):=Fq _;have g2:l'[j]?=some (l'[j]'(by lia)):=Fq _;obtain⟨w1,BN,BO⟩:=rs.get g1;obtain⟨w2,BP,BQ⟩:=zH.get g2;obtain⟨u1,Au,BR⟩:=vl.get BN;obtain⟨u2,Av,BU⟩:=As.get BP;have q1:wZ.toArray[j]=u1:=by rw[Fq h1]at Au;simpa using Au
    have q2:its'.toArray[j]=u2:=by rw[Fq h2]at Av;simpa using Av
    dsimp only;rw[q1,q2,FC,FC,g1,g2];exact hG I l j _ g1 _ w1 w2 u1 u2 A.in1 39 (plainDs_mem h g1) (plainDs_mem h' g2) (by show A.units+1+39<cLine;lia) BO BQ BR BU
   simp only[xg];have fin:((List.range (min wZ.toArray.size its'.toArray.size)).all (fun j=>xg (l.getD j .non) (l'.getD j .non))&&wZ.toArray.size==its'.toArray.size)=je l l':=by
    simp only[Fp];by_cases hl:l.length=l'.length
    ·rw[<-cu hl,show min wZ.length its'.length=l.length by lia,show(wZ.length==its'.length)=true by rw[Gh];lia,Bool.and_true]
    ·rw[dG hl,show(wZ.length==its'.length)=false by rw[F1];lia,Ie]
   rw[<-fin];exact⟨.tuples ip yL (by lia) el,.tuples ip yL (by lia) el⟩
  |lst l'=>obtain⟨p',zx,yV,yD,_⟩:=aZ q;subst yV;cases ry;obtain⟨its',_,yL,_⟩:=I.list yD;simp only[xg];exact⟨.tuple_list ip yL.isList (by lia),.tuple_list ip yL.isList (by lia)⟩
  |dct tk ks vs=>exact(aM h').elim
 |lst l=>
  obtain⟨p,xs,ev,sq,rs⟩:=aZ r;subst ev;cases rx;obtain⟨wZ,vl,ip,_⟩:=I.list sq;have ip:=ip.isList;cases e with
  |non=>cases bo q;cases ry;simp only[xg];exact⟨.list_none ip (by lia),.list_none ip (by lia)⟩
  |bl b=>cases bN q;cases ry;simp only[xg];exact⟨.list_bool _ ip (by lia),.list_bool _ ip (by lia)⟩
  |int i=>cases aT q;obtain⟨t,rfl⟩:=ry;simp only[xg];exact⟨.list_int _ _ ip (by lia),.list_int _ _ ip (by lia)⟩
  |str l=>cases(aK q).1;obtain⟨t,rfl⟩:=ry;simp only[xg];exact⟨.list_str _ _ ip (by lia),.list_str _ _ ip (by lia)⟩
  |lst l'=>
   obtain⟨p',zx,yV,yD,zH⟩:=aZ q;subst yV;cases ry;obtain⟨its',As,yL,_⟩:=I.list yD;have yL:=yL.isList;simp only[plainD]at h h';have l1:=vl.length;have l2:=As.length;have l3:=rs.length;have l4:=zH.length;simp only[xg];by_cases hl:l.length=l'.length
   ·have el:∀j (h1:j<wZ.toArray.size) (h2:j<its'.toArray.size),EqAt A.in1 s wZ.toArray[j] its'.toArray[j] ((fun j=>xg (l.getD j .non) (l'.getD j .non)) j):=fun j h1 h2=>by
     simp only[Fp]at h1 h2;have g1:l[j]?=some (l[j]'(by lia)):=Fq _;have g2:l'[j]?=some (l'[j]'(by lia)):=Fq _;obtain⟨w1,BN,BO⟩:=rs.get g1;obtain⟨w2,BP,BQ⟩:=zH.get g2;obtain⟨u1,Au,BR⟩:=vl.get BN;obtain⟨u2,Av,BU⟩:=As.get BP;have q1:wZ.toArray[j]=u1:=by rw[Fq h1]at Au;simpa using Au
     have q2:its'.toArray[j]=u2:=by rw[Fq h2]at Av;simpa using Av
     dsimp only;rw[q1,q2,FC,FC,g1,g2];exact hG I l j _ g1 _ w1 w2 u1 u2 A.in1 39 (plainDs_mem h g1) (plainDs_mem h' g2) (by show A.units+1+39<cLine;lia) BO BQ BR BU
    rw[<-cu hl,show l.length=wZ.toArray.size by simp only[Fp];lia];exact⟨.lists ip yL (by simp only[Fp];lia) (by lia) el,.lists ip yL (by simp only[Fp];lia) (by lia) el⟩
   ·rw[dG hl];exact⟨.lists_lengths ip yL (by simp only[Fp,JF];lia) (by lia),.lists_lengths ip yL (by simp only[Fp,JF];lia) (by lia)⟩
  |tup l'=>obtain⟨p',zx,yV,yD,_⟩:=aY q;subst yV;cases ry;obtain⟨its',_,yL,_⟩:=I.tuple yD;simp only[xg];exact⟨.list_tuple ip (show s.heap.IsTuple p' its'.toArray from yL) (by lia),.list_tuple ip (show s.heap.IsTuple p' its'.toArray from yL) (by lia)⟩
  |dct tk ks vs=>exact(aM h').elim
 |dct tk ks vs=>exact(aM h).elim
theorem cE(hu:X.A.units+64<cLine):xW X (compareOp .Eq) (rGA X.K yT):=by
 rintro pr s σ H x y v u Q I rx ry ⟨G,fp,es,vs,a,b,r,⟨rel,k⟩,va,vb,e⟩;unfold yT at e;split at e
 ·rename_i hp;cases e;rw[Fx]at hp;exact(qO I hp.1 hp.2 hu va vb rx ry).1 _ _ _ _ ⟨.bl _,H,I,rfl,k _ H G fp .refl (rel.push (cO _))⟩
 ·cases e
theorem qP(hu:X.A.units+64<cLine):xW X (compareOp .NotEq) (rGA X.K C8):=by
 rintro pr s σ H x y v u Q I rx ry ⟨G,fp,es,vs,a,b,r,⟨rel,k⟩,va,vb,e⟩;unfold C8 at e;split at e
 ·rename_i hp;cases e;rw[Fx]at hp;exact(qO I hp.1 hp.2 hu va vb rx ry).2 _ _ _ _ ⟨.bl _,H,I,rfl,k _ H G fp .refl (rel.push (cO _))⟩
 ·cases e
def pD(a:D)(ds:List D):Bool:=ds.any fun d=>xg d a
noncomputable def DT(a b:D):Res R:=match b with
 | .lst ds=>if plainD 40 a&&plainDs 40 ds then .ok (.f,.bl (pD a ds)) else .bad
 | .tup ds=>if plainD 40 a&&plainDs 40 ds then .ok (.f,.bl (pD a ds)) else .bad
 | .str l=>match a with
  | .str [c]=>.ok (.f,.bl (decide (c∈l)))
  |_=>.bad
 |_=>.bad
def vQ(a b:D):Res R:=(DT a b).bind fun r=>match r.2 with
 | .bl k=>.ok (.f,.bl (!k))
 |_=>.bad
def isO(a b:D):Res R:=match b with
 | .bl k=>.ok (.f,.bl (match a with | .bl j=>j==k|_=>false))
 | .non=>.ok (.f,.bl (match a with | .non=>true|_=>false))
 |_=>.bad
def wq(a b:D):Res R:=(isO a b).bind fun r=>match r.2 with
 | .bl k=>.ok (.f,.bl (!k))
 |_=>.bad
end
section
variable{X:Cx}
def vR(f g:FX):FX:=fun env=>(f env).bind fun p=>(g p.2).bind fun q=>match(me p.1.2).bind hE,q.1.2 with
 |some ns,.int d=>.ok ((.f,.int (NX.maxD ns d)),q.2)
 |_,_=>.bad
def wt:List D->Res R
 |[.bl b]=>.ok (.f,.int (if b then 1 else 0))
 |[.int i]=>.ok (.f,.int i)
 |_=>.bad
def iD:D->String
 | .non=>"NoneType"
 | .bl _=>"bool"
 | .int _=>"int"
 | .str _=>"str"
 | .tup _=>"tuple"
 | .lst _=>"list"
 | .dct _ _ _=>"dict"
def lz(T:String)(d:D):Bool:=iD d==T||(iD d == "bool" && T == "int")
def C9(T:String)(f:FO):FX:=fun env=>(f env).bind fun p=>(jA p.2 p.1).bind fun d=>.ok ((.f,.bl (lz T d)),p.2)
theorem qQ(K:W.Frag)(d:D){T:String}(hT:T = "int"\/T = "bool"\/T = "str"\/T = "list"\/T = "tuple"\/T = "dict"):PySem.W.kitOne K (.type (iD d)) (.type T)=some (lz T d):=by
 rcases hT with rfl|rfl|rfl|rfl|rfl|rfl <;> cases d <;> (unfold PySem.W.kitOne PySem.W.kitCls PySem.W.subIn;kernel_rfl)
theorem mf:eH X (.builtin "isinstance") (fun xs H Q=>∃d x T,xs=[x,.ty T]/\Rep X.K H d x/\(T = "int"\/T = "bool"\/T = "str"\/T = "list"\/T = "tuple"\/T = "dict")/\Q (.bl (lz T d)) H):=by
 intro pr s σ H xs us Q I r h;obtain⟨d,x,T,rfl,rd,hT,q⟩:=h;obtain⟨u,w',rfl,r1,r2⟩:=lI r;cases(show w'=Value.type T from r2);have e:=qQ X.K d hT;have fin:∀tk,EP X pr σ Q (.bool (lz T d)) {s with toks:=tk}:=fun tk=>⟨.bl (lz T d),H,I.tok tk,rfl,q⟩
 cases d with
 |non=>cases bo rd;cases(show u=Value.none from r1);exact Gg PySem.W.kitx_none I.kIn True.intro e (fun z=>nomatch z) fin
 |bl y=>cases bN rd;cases(show u=Value.bool y from r1);exact Gg PySem.W.kitx_bool I.kIn True.intro e (fun z=>nomatch z) fin
 |int i=>cases aT rd;obtain⟨t,z⟩:=(show ∃t,u=Value.int i t from r1);cases z;exact Gg PySem.W.kitx_int I.kIn True.intro e (fun z=>nomatch z) fin
 |str l=>
  have hr:=(aK rd).1;subst hr;obtain⟨t,z⟩:=(show ∃t,u=Value.str (S l) t from r1)
  cases z;exact Gg PySem.W.kitx_str I.kIn True.intro e (fun z=>nomatch z) fin
 |lst l=>
  obtain⟨p,xs,ev,sq,_⟩:=aZ rd;subst ev;cases(show u=Value.ref p from r1);obtain⟨wZ,_,ip,_⟩:=I.list sq;obtain⟨o,ho,hc,_⟩:=ip.isList;exact Gg PySem.W.kitx_list I.kIn ⟨o,ho,hc⟩ e (fun z=>nomatch z) fin
 |tup l=>
  obtain⟨p,xs,ev,sq,_⟩:=aY rd;subst ev;cases(show u=Value.ref p from r1);obtain⟨wZ,_,ip,_⟩:=I.tuple sq;obtain⟨o,ho,hc,_⟩:=ip;exact Gg PySem.W.kitx_tuple I.kIn ⟨o,ho,hc⟩ e (fun z=>nomatch z) fin
 |dct tk ks vs=>
  rw[Rep]at rd;obtain⟨p,xs,o,ev,hr,dd,_⟩:=rd;subst ev;cases(show u=Value.ref p from r1);have ok:=hr.ok I.hok;cases tk with
  |true=>
   obtain⟨w9,eo,_⟩:=dd;subst eo;obtain⟨_,_,_,_,o2,_,_,y3,ex,_⟩:=ok;exact Gg PySem.W.kitx_dict I.kIn ⟨o2,y3,ex.1⟩ e (fun z=>nomatch z) fin
  |false=>
   obtain⟨w9,eo,_⟩:=dd;subst eo;obtain⟨_,_,_,_,o2,_,_,y3,ex,_⟩:=ok;exact Gg PySem.W.kitx_dict I.kIn ⟨o2,y3,ex.1⟩ e (fun z=>nomatch z) fin
theorem ov{T:String}{x:Str}{e:Expr}{f:FO}{p q pos:Pos}(hT:T = "int"\/T = "bool"\/T = "str"\/T = "list"\/T = "tuple"\/T = "dict")(he:QO X e f)(hg:Gl X "isinstance")(hm:X.mg "isinstance" = none)(BV:Gl X x)(Dc:X.mg x=none)(Es:bootBuiltins x=some (.type T))(hn:x≠"__name__":=by decide)(xX:(x==("__debug__" : Str))=false:=by decide)
  (hs:starEach [e,.Name x q] X.env=(false,eval e X.env)::starEach [.Name x q] X.env:=by rfl) (De:starEach [.Name x q] X.env=(false,eval (.Name x q) X.env)::starEach [] X.env:=by rfl) (xZ:(backTo pos (starEach [.Name x q] X.env)).any (·.1)=false:=by rfl):
  QE X (.Call (.Name "isinstance" p) [e,.Name x q] [] pos) (C9 T f):=
 aW (eB mf hg hm cC (bK he (bK (jR (v:=.ty T) BV Dc Es rfl hn xX) dZ De) hs) (by decide) (by decide) hs xZ) fun σ H Q xi=>by
  obtain⟨G,env,fp,r,env',rel,e,k⟩:=xi;obtain⟨⟨o,wJ⟩,e1,e⟩:=ag e;obtain⟨d,e2,e⟩:=ag e;cases e;exact⟨G,env,fp,o,_,rel,e1,fun v H1 G1 xk xm wM zb=>⟨d,v,T,rfl,wM.vwA zb e2,hT,k _ H1 G1 xk xm (wM.push (cO _))⟩⟩
def Ab{α:Type}(f g:PV.Env->Res α):PV.Env->Res α:=fun env=>match f env with
 | .ok a=>.ok a
 |_=>g env
theorem qR{α:Type}{f g:PV.Env->Res α}{env:PV.Env}{a:α}(h:Ab f g env=.ok a):f env=.ok a\/g env=.ok a:=by
 unfold Ab at h;split at h
 ·rename_i b hb;cases h;exact .inl hb
 ·exact .inr h
theorem qS{tg e:Expr}{f g:FI}(h:QI X tg e f)(h2:QI X tg e g):QI X tg e (Ab f g):=fun pr s σ H R I xi=>by
 obtain⟨G,env,fp,ds,env',rel,ee,k⟩:=xi;rcases qR ee with z|z
 ·exact h pr s σ H R I ⟨G,env,fp,ds,env',rel,z,k⟩
 ·exact h2 pr s σ H R I ⟨G,env,fp,ds,env',rel,z,k⟩
end
section
variable{α:Type}
def ins(lt:α->α->Bool)(x:α):List α->List α
 |[]=>[x]
 |y::ys=>if lt y x then y::ins lt x ys else x::y::ys
def ow(lt:α->α->Bool)(l:List α):List α:=l.foldr (ins lt) []
end
def ltI(a b:Int):Bool:=decide (a<b)
def ltS(a b:List Nat):Bool:=decide (a<b)
def cv:List D->Option (List (List Nat))
 |[]=>some []
 | .str b::ds=>(cv ds).map (b:: ·)
 |_=>none
def jg:D->Option Key
 | .int i=>some (.inl i)
 | .str l=>some (.inr (S l))
 |_=>none
def gz:List D->Option (List Key)
 |[]=>some []
 |d::ds=>(jg d).bind fun k=>(gz ds).map (k:: ·)
def dm:D->Option (List Key)
 | .tup ds=>gz ds
 |_=>none
def mZ:List D->Option (List (List Key))
 |[]=>some []
 |d::ds=>(dm d).bind fun k=>(mZ ds).map (k:: ·)
def kT(k:List Key):D:=.tup (k.map kD)
section
variable{K:W.Frag}{G:Hp}
theorem fS{d:D}{k:Key}{v:V}(e:jg d=some k)(r:Rep K G d v):v=kV k/\d=kD k:=by
 cases d with
 |int i=>
  cases e;exact⟨aT r,rfl⟩
 |str l=>
  cases e;refine⟨(aK r).1,?_⟩;show D.str l=D.str (S l).cps.toList;rw[cM]
 |_=>cases e
theorem d7:∀{ds:List D}{ks:List Key}{xs:List V},gz ds=some ks->Reps K G ds xs->xs=ks.map kV/\ds=ks.map kD
 |[],_,_,e,r=>by
  cases e;rw[Reps]at r;exact⟨r,rfl⟩
 |d::ds,_,_,e,r=>by
  rw[gz,Option.bind_eq_some_iff]at e;obtain⟨k,e1,e⟩:=e;rw[Gv]at e;obtain⟨ks,e2,e3⟩:=e;subst e3;rw[Reps]at r;obtain⟨y,ys,e4,r1,r2⟩:=r;obtain⟨h1,h2⟩:=fS e1 r1;obtain⟨h3,h4⟩:=d7 e2 r2;rw[e4,h1,h2,h3,h4];exact⟨rfl,rfl⟩
theorem eV{d:D}{ks:List Key}{v:V}(e:dm d=some ks)(r:Rep K G d v):∃p,v=.ref p/\G p=some (.tup (ks.map kV))/\d=kT ks:=by
 cases d with
 |tup ds=>
  obtain⟨p,xs,ev,g,rs⟩:=oi r;obtain⟨h1,h2⟩:=d7 e rs;subst h1;exact⟨p,ev,g,by rw[h2];rfl⟩
 |_=>cases e
theorem jh{α:Type}{f:α->D}{g:α->V}:∀{l:List α},(∀a∈l,Rep K G (f a) (g a))->Reps K G (l.map f) (l.map g)
 |[],_=>Reps.nil
 |a::l,h=>.cons (h a Fm) (jh fun b hb=>h b (Ft _ hb))
end
def sameKinds(k:List Key)(DU:List (List Key)):Bool:=!k.isEmpty&&DU.all fun j=>kinds j==kinds k
noncomputable def t7(ds:List D):Option (List D):=match hE ds with
 |some ns=>some ((ow ltI ns).map D.int)
 |none=>match cv ds with
  |some ls=>some ((ow ltS ls).map D.str)
  |none=>match mZ ds with
   |some (k::DU)=>if sameKinds k DU then some ((ow iX (k::DU)).map kT) else none
   |_=>none
section
variable{X:Cx}
def Ah(a b:D):Res R:=match dm a,dm b with
 |some ks,some js=>if kinds ks==kinds js then .ok (.f,.bl (iX ks js)) else .bad
 |_,_=>Cu a b
def geO(a b:D):Res R:=match dm a,dm b with
 |some ks,some js=>if kinds ks==kinds js then .ok (.f,.bl (!iX ks js)) else .bad
 |_,_=>match a,b with
  | .str a,.str b=>.ok (.f,.bl (!decide (a<b)))
  |a,b=>geD a b
theorem fT(hu:X.A.units<cLine):xW X (compareOp .Lt) (rG X.K Ah):=by
 rintro pr s σ H x y v u Q I rx ry ⟨G,fp,es,vs,a,b,r,⟨rel,k⟩,va,vb,e⟩;unfold Ah at e;split at e
 ·rename_i ks js h1 h2;split at e
  ·rename_i hk;cases e;have ra:Rep X.K G a x:=by cases a <;> first|exact va|cases h1
   have rb:Rep X.K G b y:=by cases b <;> first|exact vb|cases h2
   obtain⟨p,e1,g1,_⟩:=eV h1 ra;obtain⟨p2,e2,g2,_⟩:=eV h2 rb;subst e1;subst e2;exact qr hu pr s σ H _ _ v u Q I rx ry ⟨p,p2,ks,js,rfl,rfl,SqT.of (rel.gh _ _ g1),SqT.of (rel.gh _ _ g2),Gh.mp hk,k _ H G fp .refl (rel.push (cO _))⟩
  ·cases e
 ·exact tW pr s σ H x y v u Q I rx ry ⟨G,fp,es,vs,a,b,r,⟨rel,k⟩,va,vb,e⟩
end
def eNewD(tk:Bool):FX:=fun env=>.ok ((.d,.dct tk [] []),env)
section
variable{md:Mode}{X:Cx}
def uX(ks vs:List D)(k v:D):List D×List D:=if ks.any (xg k) then(ks,(ks.zip vs).map fun p=>if xg k p.1 then v else p.2) else(ks++[k],vs++[v])
def hJ(tk:Bool)(k:D):Bool:=if tk then(dm k).isSome else(jg k).isSome
noncomputable def wu(i:Nat)(fk fv:FX):FS:=fun env=>(fv env).bind fun p=>(fk p.2).bind fun q=>match p.2[i]?,q.2[i]? with
 |some (some _),some (some (.d,.dct tk ks vs))=>if hJ tk q.1.2&&decide (ks.length<sizeLine) then .ok (.nx (q.2.set i (some (.d,.dct tk (uX ks vs q.1.2 p.1.2).1 (uX ks vs q.1.2 p.1.2).2)))) else .bad
 |_,_=>.bad
theorem qT{K:W.Frag}{G:Hp}{d:D}{k:Key}{v:V}(e:jg d=some k)(r:Rep K G d v):tT k:=by
 cases d with
 |int i=>cases e;trivial
 |str l=>
  cases e;show(S l).cps.toList.length<=sizeLine;rw[cM];exact(aK r).2
 |_=>cases e
end
end PV
namespace NX
open PySem PySem.Spec PyProof.Rows L2
section
variable{prog:Program}{w:World}{A:Around}{E:Value->Shared->Prop}{s:Shared}{d:Addr}{es:Array DictEntry}{ep:Nat}
theorem gA(nm:(d==sysModules)=false):MeetsIn prog w (Builtin.«dict.__len__» ⟨[.ref d],[]⟩) (fun _ R s=>RawD s.heap d es ep/\R (.ok (.ret (.int es.size s.toks))) {s with toks:=s.toks+1}):=
 .of_wp fun A R s xi=>by
  obtain⟨⟨o,g,_,dat⟩,h⟩:=xi;show wpAny _ _ (dictSize d >>= fun _=>_) _ _ s;unfold dictSize;refine Fs (Fs (wpAny_dictEntries g dat (FF ?_)));show wpAny _ _ (Builtin.Dict.pendingCount d >>= fun _=>_) _ _ s;refine Fs (wpAny_pendingCount_other nm (wpAny_ret_mkInt ?_));rw[Nat.add_zero];exact h
theorem ox{Q:Value->Shared->Prop}(nm:(d==sysModules)=false)(x:RawD s.heap d es ep)(hf:(es.size:Int)<2 ^ 63)(h:Q (.int es.size (s.toks+1)) {s with toks:=s.toks+1+1}):wpAny (model prog w) A (call (.builtin "len") [.ref d]) Q E s:=by
 have ty:=lQ x;refine Calls.call_function_entry kind_len plain_len entry_len (args_len1 _) ?_;unfold Builtin.«len»;refine Fs (m:=oneArg "len" _) (FF (Fs (m:=callSpecial? (.ref d) (Str.ofString "__len__")) (Ha (name:=Str.ofString "__len__") ty F.slot_dict_len
  (call_meetsIn F.slot_dict_len ty F.entry_dict_len (F.args_dict_len_1 _) (gA (es:=es) (ep:=ep) nm) ⟨x,?_⟩))))
 show wpAny _ _ _ _ _ {s with toks:=s.toks+1};refine Fs (Iq (FF (Fs (wpAny_letGo ?_))));show wpAny _ _ (if((es.size:Nat):Int)<0 then _ else _) _ _ _;rw[F3 (Int.not_lt.mpr (Int.natCast_nonneg _))];show wpAny _ _ (if((es.size:Nat):Int)>=2 ^ 63 then _ else _) _ _ _;rw[F3 (Int.not_le.mpr hf)];exact Fs (wpAny_mkInt (FF ⟨_,rfl,h⟩))
end
end NX
namespace PV
open PySem PySem.Spec PyProof.Rows L2 NX
section
variable{X:Cx}
def fB:List D->Res R
 |[.dct _ ks _]=>.ok (.f,.int ks.length)
 |ds=>t2 ds
theorem qU{pr:List (Addr×Obj)}{σ:L2.St}{H:Hp}{s:Shared}(I:Inv X pr σ H s){p:Addr}{o:HO}{tk:Bool}{ks:List D}{xs:List V}(rd:Rd H p o)(dd:DictO o tk ks xs):(p==sysModules)=false/\∃es ep,RawD s.heap p es ep/\es.size=ks.length/\ks.length<=sizeLine:=by
 have ok:=rd.ok I.hok;cases tk with
 |true=>
  obtain⟨w9,eo,ek,_⟩:=dd;subst eo;obtain⟨z,nm,ws,r,o2,es,ep,h1,h2,h3,h4,_⟩:=ok;refine⟨nm,es,ep,⟨o2,h1,h2,h3⟩,?_,by rw[ek,FN];exact z⟩;have:=G0 List.length h4;rw[FN,Gd,<-Hz r]at this;rw[ek,FN];exact this
 |false=>
  obtain⟨w9,eo,ek,_⟩:=dd;subst eo;obtain⟨z,nm,ws,r,o2,es,ep,h1,h2,h3,h4,h5,_⟩:=ok;refine⟨nm,es,ep,⟨o2,h1,h2,h3⟩,?_,by rw[ek,FN];exact z⟩;have l1:=h5.length;have l2:w9.length=ws.length:=Hz r;rw[ek,FN];rw[Gd]at l1;lia
theorem bF:eH X (.builtin "len") (rC X.K fB):=by
 rintro pr s σ H xs us Q I rx ⟨G,fp,es,vs,ds,r,⟨rel,k⟩,vd,e⟩;unfold fB at e;split at e
 ·rename_i tk ks ws;cases e;obtain⟨v,ev,p,ys,o,ep,rd,dd,_⟩:=pC vd;subst ev;subst ep;obtain⟨u,rfl,ru⟩:=jY rx;cases ru;obtain⟨nm,en,ep,raw,h1,h2⟩:=qU I rd dd;refine ox nm raw (by rw[h1];rw[Ih]at h2;lia) ?_;refine⟨.int ks.length,H,I.tok _,⟨_,by rw[h1]⟩,k _ H G fp .refl (rel.push (bM _))⟩
 ·exact qM pr s σ H xs us Q I rx ⟨G,fp,es,vs,_,r,⟨rel,k⟩,vd,e⟩
def qV(g:List Nat->List D->Res R)(fa:FO)(fs:yc):FX:=fun env=>(fa env).bind fun p=>match yz p.2 p.1 with
 | .ok (.str l)=>(fs p.2).bind fun q=>(jB q.2 q.1).bind fun ds=>(g l ds).bind fun r=>.ok (r,q.2)
 |_=>.bad
inductive rMtS(K:W.Frag)(g:List Nat->List D->Res R)(x:V)(xs:List V)(H:Hp)(Q:VK):Prop
 |mk:∀G fp es vs l ds r,Goes K H G fp es vs r Q->x=.str (S l)->l.length<=sizeLine->C1 K G H ds xs->g l ds=.ok r->rMtS K g x xs H Q
theorem m7{g:List Nat->List D->Res R}{id:String}{name:Str}{o e:Expr}{es:List Expr}{fa:FO}{fs:yc}{apos xC:Pos}(slot:Slot "str" name id)(CQ:typeOf (.builtin id)=pure (.type "method_descriptor"))(hm:Ea X id (rMtS X.K g))(ho:QO X o fa)(ha:AL X (e::es) fs)
  (zg:attributeBase o name X.env (eval o X.env)=eval o X.env:=by rfl)
  (An:((backTo xC (starEach (e::es) X.env)).all (fun x=>!x.1)&&(backToKw xC (keywordEach [] X.env)).all (fun x=>x.1.isSome)&&decide ((e::es).length+([]:List Keyword).length+(if([]:List Keyword).isEmpty then 0 else 1)<30))=true:=by rfl)
  (zS:(apos.endLine==xC.line)=true:=by rfl) (hs:starEach (e::es) X.env=(false,eval e X.env)::starEach es X.env:=by rfl) (zh:(backTo xC (starEach es X.env)).any (·.1)=false:=by rfl):
  QE X (.Call (.Attribute o name apos) (e::es) [] xC) (qV g fa fs):=by
 refine aW (qg PySem.F.plainAttrs_str slot CQ hm ho ha zg An zS hs zh) fun σ H Q xu=>?_
 obtain⟨G,env,fp,r,env',rel,e,k⟩:=xu;obtain⟨⟨oa,wJ⟩,e1,e⟩:=ag e;dsimp only at e;split at e
 ·rename_i l hl;obtain⟨⟨os,xo⟩,e2,e⟩:=ag e;obtain⟨ds,e3,e⟩:=ag e;obtain⟨r',e4,e⟩:=ag e;cases e;refine⟨G,env,fp,oa,wJ,rel,e1,fun v H1 G1 xk xm wM zb=>?_⟩;obtain⟨ev,hz⟩:=cP (wM.vw zb hl);subst ev;exact⟨rfl,G1,wJ,xk,os,xo,wM,e2,fun vs H2 G2 xR xl wU AM=>⟨G2,xR,xo,σ,l,ds,r,⟨wU,fun v H' G' wV st xw=>k v H' G' wV (xm.trans (xl.trans st)) xw⟩,rfl,hz,wU.vws AM e3,e4⟩⟩
 ·cases e
end
theorem fnok_of{P:Program}{w:World}{K:W.Frag}{mg:Str->Option Value}{base:Heap}{x:Str}{st:Stmt}{N ps:List Str}{k:Nat}{g:FS}{f:Addr}{fd:FuncData}(F:Fun K x x st f fd)(sc:FnScope N ps (defScope st))
  (body:∀(xr:Value) (A:Around) (outer:List PySem.Env) (s:Shared) (H:Hp) (E:XK),Room k (A.deeper (envOfC x (defScope st) s.heap.objs.size f xr))->Ak (md:=.plain) (iR Ai P w K mg base N x (defScope st) f xr A outer s H E).nox (bj st) g):
  FnOk P w K mg base Ai (k+1) f fd ps (spF K (fBody ps.length (N.length-ps.length) g)):=by
 refine F.ok sc (fun vs H Q E h=>?_) (fun xr A outer s H vs Q E hr h=>?_)
 ·obtain⟨G,ds,r,_,rs,e,_⟩:=h;unfold fBody at e;split at e
  ·rename_i hl;rw[rs.length,hl]
  ·cases e
 ·obtain⟨G,ds,r,gh,rs,e,q⟩:=h;unfold fBody at e;split at e
  ·rename_i hl;refine⟨_,body xr A outer s H E hr,G,ds.map (fun d=>some (O.f,d))++List.replicate (N.length-ps.length) none,[],⟨?_,Hd,(fun _ h=>nomatch h),gh⟩,?_⟩
   ·have:=dF (K:=K) (G:=G) (H:=H) (N.length-ps.length) rs;unfold L2.dQ;rw[rs.length,hl];exact this
   ·obtain⟨o,eo,e⟩:=ag e;rw[eo];cases o with
    |rt r'=>
     cases e;exact fun v H' G' wV st rel=>q v H' G' wV st rel
    |nx env'=>
     cases e;exact fun σ' H' G' wV st rel=>q .non H' G' [] (st.trans (Step.cut fun _ h=>nomatch h)) (rel.nilF.push eQ)
    |bk env'=>cases e
    |ct env'=>cases e
  ·cases e
def mh(K:W.Frag):Sp:=fun vs H Q _=>∃(a:Addr) (ns:List Int),vs=[.ref a]/\SqL K H a (ns.map V.int)/\ns.length<=63/\∀H',Q (.bl true) H'
theorem qW{K:W.Frag}{F:List D->Res R}(h:∀ns:List Int,ns.length<=63->∃o,F [.lst (ns.map D.int)]=.ok (o,.bl true)):∀vs H Q E,mh K vs H Q E->spF K F vs H Q E:=by
 rintro vs H Q E ⟨a,ns,rfl,sq,hl,q⟩;obtain⟨o,e⟩:=h ns hl;refine⟨H,_,_,.refl _,?_,e,fun v H' G' wV st rel=>?_⟩
 ·refine .one ?_;rw[Rep];exact⟨a,_,rfl,sq,jh fun n _=>bM n⟩
 ·rw[bN rel.top];exact q H'
def wx(f:FX)(a:FG):FS:=fun env=>(f env).bind fun p=>(a p.1.2 p.2).bind fun e=>.ok (.nx e)
theorem vS{l:PySem.W.OpenLaw}{q:Program}{loose:List Str}{XP:(Str->Option Value)->Heap->Prop}{YP:World->Heap->Prop}{d:DefRec}{K:Params->W.Frag}{k:Nat}{x:Str}(hn:l.most=some 63)(CS:d.params.defaults=[])(hr:Room k PySem.callerA)
  (hY:∀(w:World) (h:Heap),YP w h->(K w.params).In h)
  (F:∀(w:World) (mg:Str->Option Value) (fa:Addr) (h:Heap),(K w.params).In h->h.Ns mainGlobals mg->mg d.name=some (.ref fa)->
   ∃fd:FuncData,(∀(s:Shared) (u:Value),BindsTo s fd ⟨[u],[]⟩ [(x,u)])/\∀base:Heap,(K w.params).In base->base.Ns mainGlobals mg->FnOk l.prog w (K w.params) mg base Ai k fa fd [x] (mh (K w.params))):
  PySem.W.WalkO q loose XP YP l.row.toRowW d [] (fun f vs=>PySem.call f vs):=
 L2.nR (n:=63) (k:=k) (x:=x) (CX:=fun _=>Ai) (sp:=fun w=>mh (K w.params)) hn (by decide) CS hr hY F (fun _ _ a ns hl _ hS=>⟨a,ns,rfl,hS,hl,fun _=>rfl⟩) fun _ _ _ _ _ z=>z
theorem qX{K:W.Frag}{h:Heap}{mg:Str->Option Value}{x:Str}{st:Stmt}{f:Addr}{oc:Value}{od an:Option Addr}{Al:Array (Option Value)}{kV doc pm xr ct:Value}(X:K.In h)(G:h.Ns mainGlobals mg)
  (a:PySem.W.nsIn K mainGlobals x=some (some (.ref f))) (l:K.lookup f=some ⟨oc,od,.func (PySem.W.fnOf x x (b8 st) (bj st) (defScope st) .none kV doc pm an xr ct),Al⟩)
  (c:PySem.W.codeIn K xr x=true) (k:PySem.W.keepIn K (.ref f)=true):Def K mg x st:=⟨f,_,mU l c k,Gb X G a⟩
theorem t8{K:W.Frag}{h:Heap}{mg:Str->Option Value}{x:Str}{n:Int}{t:Tok}(X:K.In h)(G:h.Ns mainGlobals mg)(a:PySem.W.nsIn K mainGlobals x=some (some (.int n t))):Gi mg x n:=⟨t,Gb X G a⟩
inductive tQL(K:W.Frag)(f:FI)(σ:L2.St)(H:Hp)(R:It->Hp->Prop):Prop
 |mk:∀G env fp ds env',Rel K G H env σ fp->f env=.ok (ds,env')->(∀J H' G' wV,Step G H fp G' H' wV->Rel K G' H' env' σ wV->(∀G2,Same G' G2->(∀(i:Nat) (r:PV.R) (v:V),env'[i]?=some (some r)->σ[i]?=some (some v)->Rep K G2 r.2 v)->Walk K G2 J ds)->R J H')->tQL K f σ H R
def E1(X:Cx)(tg e:Expr)(f:FI):Prop:=PI X tg e (tQL X.K f)
theorem Walk.mono{K:W.Frag}{G G2:Hp}{J:It}{ds:List D}(w:Walk K G J ds)(gg:Same G G2):Walk K G2 J ds:=fun G' H' es vs fp g rel=>w G' H' es vs fp (gg.trans g) rel
theorem qY{K:W.Frag}{fi:FI}{ix:List (Option Nat)}{a:FG}{c:FT}{f:FX}{σ:L2.St}{H:Hp}{Q:VK}(h:tQ K (l6 fi ix a c f) σ H Q):qm (tQL K fi) ix (tQG K a) (tQT K c) (tQ K f) σ H Q:=by
 obtain⟨G,env,fp,r,env',rel,e,k⟩:=h;obtain⟨⟨ds,wJ⟩,e1,e⟩:=ag e;obtain⟨rs,e2,e⟩:=ag e;refine⟨G,env,fp,ds,wJ,rel,e1,fun J H1 G1 xk xm wM wk D hD=>?_⟩;dsimp only at e e2;split at e
 ·rename_i hz;have er:r=(.l .f,.lst rs):=by cases e;rfl
  have ee:env'=if flatDs rs then wJ else wJ.map frz:=by cases e;rfl
  subst er;obtain⟨G2,Bv,AX,zA,hrE,yM⟩:=wM.lend;have wk2:=wk G2 Bv zA;have wU:Rel K G2 H1 (cD ix wJ) (fK ix σ) []:=⟨cR zA (fun i r er=>let⟨v,ev,_⟩:=wM.view er;⟨v,ev⟩) ix,Hd,(fun _ h=>nomatch h),AX⟩
  obtain⟨xN,x3⟩:=wU.newL (ds:=[]) (xs:=[]) hD .nil;refine⟨fun i m σ1 H2=>m=ds.length-i/\i<=ds.length/\∃G' es wV acc rest,Step G2 H1 [] G' H2 wV/\Rel K G' H2 (some (.l .f,.lst acc)::es) (some (.ref D)::σ1) wV/\eh a c f (ds.drop i) es=.ok rest/\acc++rest=rs,
   ⟨_,rfl,GD _,G2,cD ix wJ,_,[],rs,x3,xN,e2,rfl⟩,?_⟩
  rintro i m σ1 H2 ⟨rfl,hi,G3,es,zy,acc,rest,zj,yU,e4,Aw⟩;obtain⟨w1,w2⟩:=wk2 G3 H2 _ _ _ zj.gg yU i;by_cases yy:i<ds.length
  ·have hd:ds[i]?=some ds[i]:=Fq yy;obtain⟨go,yl⟩:=w1 _ hd;rw[Hw yy]at e4;unfold eh at e4;obtain⟨Eo,h1,e4⟩:=ag e4;obtain⟨⟨b,Cv⟩,h2,e4⟩:=ag e4;dsimp only at e4;refine .inr ⟨go,fun x H3 y=>?_⟩;obtain⟨G4,rx,zI,zQ⟩:=yl x H3 y;obtain⟨fa,fb,E2,ra,relb,bk⟩:=zI.frame;refine⟨G4,es,fb,ds[i],Eo,relb,rx,h1,fun σ2 G5 BK st6 rel6=>?_⟩;refine⟨G5,Eo,BK,b,Cv,rel6,h2,fun H6 G6 E3 st7 Dh=>?_⟩;have Di:=st6.trans st7;cases b with
   |false=>
    refine iteF ⟨ds.length-(i+1),by lia,rfl,yy,?_⟩;obtain⟨BX,Dj⟩:=bk G6 H6 Cv σ2 E3 Di Dh;rw[<-E2]at Dj;exact⟨G6,Cv,_,acc,rest,zj.trans (zQ.trans Dj),BX,e4,Aw⟩
   |true=>
    have e4:((f Cv).bind fun q=>(eh a c f (ds.drop (i+1)) q.2).bind fun rs=>.ok (q.1.2::rs))=.ok rest:=e4;obtain⟨⟨r,Et⟩,h3,e4⟩:=ag e4;obtain⟨Dk,h4,e4⟩:=ag e4;cases e4;refine sD ⟨G6,Cv,E3,r,Et,Dh,h3,fun v H7 G7 fp7 st8 rel8=>?_⟩;obtain⟨G8,fp8,rv,rel9,st9⟩:=rel8.freeze;obtain⟨BX,Dj⟩:=bk G8 H7 Et σ2 fp8 (Di.trans (st8.trans st9)) rel9;rw[<-E2]at Dj;obtain⟨p,xs,ep,hp,C7,cg⟩:=BX.chg (i:=0) (ds:=acc) (ds':=acc++[r.2]) rfl;have ep:some (some (V.ref D))=some (some (V.ref p)):=ep;cases ep;obtain⟨fq,rely,sty⟩:=cg (xs++[v]) (C7.app (.one rv));refine⟨xs,hp,?_,ds.length-(i+1),by lia,rfl,yy,G8,Et,fq,acc++[r.2],Dk,zj.trans (zQ.trans (Dj.trans sty)),rely,h4,?_⟩
    ·rw[C7.length];have:=G0 List.length Aw;rw[FU,Fv]at this;lia
    ·rw[<-Aw,FD];rfl
  ·have ei:i=ds.length:=by lia
   subst ei;rw[List.drop_length]at e4;cases e4;rw[FJ]at Aw;subst Aw;refine .inl ⟨w2 rfl,?_⟩;obtain⟨fa,relo,sto⟩:=yU.only;obtain⟨k1,k2⟩:=yM H2 G3 fa _ _ (zj.trans sto) relo;rw[ee]at k;by_cases hc:flatDs acc=true
   ·rw[FY hc]at k;obtain⟨G5,BK,zQ,zI⟩:=k1 (by rw[bz,gw];exact hc);exact k _ H2 G5 BK (xm.trans zQ) zI
   ·rw[F3 hc]at k;obtain⟨G5,BK,zQ,zI⟩:=k2;exact k _ H2 G5 BK (xm.trans zQ) zI
 ·cases e
section
variable{md:Mode}{X:Cx}{scope:Scope}{N:List Str}{tg iter elt:Expr}{ifs:List Expr}{pos:Pos}{fi:FI}{a:FG}{c:FT}{f:FX}
variable{l e:Expr}{g fj:FI}
theorem qZ(h:QI X tg e fi):E1 X tg e fi:=g8 h fun σ H R ⟨G,env,fp,ds,env',rel,e,k⟩=>⟨G,env,fp,ds,env',rel,e,fun J H' G' wV st xw wk=>k J H' G' wV st xw fun _ gg _=>wk.mono gg⟩
def vT(i:Nat):FI:=fun env=>match env[i]? with
 |some (some (_,.lst ds))=>.ok (ds,env)
 |_=>.bad
theorem mi{i:Nat}{y:Str}{py Ao:Pos}(ix:List (Option Nat))(N:List Str)(hN:X.N.Nodup)(Eg:X.N[i]?=some y)(hy:Loc X.env.scope y)(hc:X.calm=true)(hi:E1 X tg iter fi)(hg:∀C s H fp pn,QG (bA X scope N C s H fp pn) tg a)(ht:∀C s H fp pn,EZ (bA X scope N C s H fp pn) ifs c)
  (he:∀C s H fp pn,QE (bA X scope N C s H fp pn) elt f) (BH:swapsWith (.ListComp elt [⟨tg,iter,ifs,0⟩] scope pos) (some (.Name y py)) Ao.line X.env=pure true:=by rfl)
  (hf:eK scope X.env=true:=by rfl) (hk:scope.kind=.function:=by rfl) (yg:∀y∈scope.names,y.2≠.cell:=by decide +kernel) (zX:∀y∈scope.names,y.2=.local->scope.names.lookup y.1=some .local:=by decide +kernel) (Aj:pB X scope N ix=true:=by rfl)
  (hs:∀x,foldedSetIterable iter X.env x=pure x:=by intro _;rfl) (AO:X.fn y=true\/X.env.scope.names.lookup y=some .local:=by first|exact .inl rfl|exact .inr rfl):
  QS (md:=md) X (.Assign [.Name y py] (.ListComp elt [⟨tg,iter,ifs,0⟩] scope pos) Ao) (c5 i (l6 fi ix a c f)):=
 d5 (nU (i:=i) (g:=tQG X.K a) (tc:=tQT X.K c) (te:=tQ X.K f) ix N hN Eg hy hc hi hg ht he BH hf hk yg zX Aj hs AO) fun D σ H ⟨G,env,fp,rel,k⟩=>qY (kB rel k)
end
section
variable{X:Cx}{a:Expr}{pos:Pos}{fa:FO}
def wy(fa:FO):FX:=fun env=>(fa env).bind fun p=>(yz p.2 p.1).bind fun d=>match d with
 | .int i=>.ok ((.f,.int (-i)),p.2)
 |_=>.bad
theorem kN{i:Int}(h:i.natAbs<2 ^ 1000):Builtin.Int.intBits i<=2 ^ 20:=by
 unfold Builtin.Int.intBits;split
 ·exact GD _
 ·rename_i h0;have h1:i.natAbs≠0:=by
   intro e;rw[Int.natAbs_eq_zero]at e;exact h0 (by rw[e];rfl)
  have:=(Nat.log2_lt h1).mpr h;have e:(2:Nat) ^ 20=1048576:=by decide
  lia
theorem oy:xW X (binaryOp .Mult) (rI (fun i j=>i.natAbs<2 ^ 1000/\j.natAbs<2 ^ 1000) fun i j=>.int (i*j)):=CK fun _ _ _ _ _ _ _ hc q=>mul_int q (.of_bits (kN hc.1) (kN hc.2))
theorem hU{α:Type}:∀(ls:List (Array α)) (acc:Array α),(ls.foldl (·++·) acc).toList=acc.toList++(ls.map Array.toList).flatten
 |[],acc=>by simp
 |a::ls,acc=>by
  rw[Hl,hU ls,Array.toList_append,F5,GR,FD]
theorem t9(l:List Nat)(n:Nat):(⟨(List.replicate n (S l).cps).foldl (·++·) #[]⟩:Str)=S (List.replicate n l).flatten:=by
 have h:((List.replicate n (S l).cps).foldl (·++·) #[]).toList=(List.replicate n l).flatten:=by
  rw[hU,List.map_replicate];simp only[cM,List.nil_append]
 show Str.mk _=Str.mk _;rw[<-h]
theorem oz(a b:Int):tV (.int a) (.int b)=if c8 a||c8 b then .ok (.f,.int (a*b)) else .bad:=rfl
noncomputable def pE:D->D->Res R
 | .int i,.int j=>if c8 i||c8 j then .ok (.f,.int (i*j)) else if i.natAbs<2 ^ 1000/\j.natAbs<2 ^ 1000 then .ok (.f,.int (i*j)) else .bad
 | .str l,.int k=>if 2<=k/\k<=1000/\1<=l.length/\l.length<=1000 then .ok (.f,.str (List.replicate k.toNat l).flatten) else .bad
 |_,_=>.bad
theorem oA:xW X (binaryOp .Mult) (rG X.K pE):=by
 rintro pr s σ H x y v u Q I rx ry ⟨G,fp,es,vs,a,b,r,⟨rel,k⟩,va,vb,e⟩;unfold pE at e;split at e
 ·rename_i i j;split at e
  ·rename_i hc;exact qJ pr s σ H x y v u Q I rx ry ⟨G,fp,es,vs,.int i,.int j,r,⟨rel,k⟩,va,vb,by rw[oz,FY hc];exact e⟩
  ·split at e
   ·rename_i hc;cases e;cases a3 va;cases a3 vb;exact oy pr s σ H _ _ v u Q I rx ry ⟨i,j,rfl,rfl,hc,k _ H G fp .refl (rel.push (bM _))⟩
   ·cases e
 ·rename_i l j;split at e
  ·rename_i hc;cases e;obtain⟨ev,hl⟩:=cP va;subst ev;cases a3 vb;obtain⟨t,rfl⟩:=rx;obtain⟨t',rfl⟩:=ry;have hlen:(S l).length=l.length:=di l;have hz:(List.replicate j.toNat l).flatten.length<=1000000:=by
    rw[j8];exact Nat.mul_le_mul (by lia:j.toNat<=1000) hc.2.2.2
   have Eu:(List.replicate j.toNat l).flatten.length<=sizeLine:=Ge hz (by decide);refine PySem.P.mul_str ?_ ?_ ?_ ?_
   ·rw[FH (by lia),FH (by lia)];rfl
   ·intro _ _;rw[hlen];have h1:1000<=(2 ^ 63-1) / j:=(Int.le_ediv_iff_mul_le (by lia)).mpr (by lia);lia
   ·intro _ _;unfold Builtin.Str.tooLong;rw[HB,hlen,Nat.mul_comm,<-j8];lia
   ·rw[F3 (by lia),F3 (by rw[hlen,FZ,Gh,Gh];lia),t9];refine⟨?_,?_⟩
    ·rw[di];exact Eu
    ·exact⟨.str (S (List.replicate j.toNat l).flatten),H,I.tok _,⟨_,rfl⟩,k _ H G fp .refl (rel.push (cb Eu))⟩
  ·cases e
 ·cases e
end
end PV
namespace HT
open PySem PySem.Spec PyProof.Rows L2
variable{prog:Program}{w:World}{A:Around}{E:Value->Shared->Prop}{s:Shared}
theorem dH{t sl:Addr}{items:Array Value}{vl vu:Value}{lo hi:Option Int}{Q:Value->Shared->Prop}(ht:IsTup s.heap t items)(hs:s.heap.IsSliceOf sl vl vu .none)(pl:IsPart vl lo)(pu:IsPart vu hi)
  (hw:sIx items.size 0 lo=0/\sIx items.size items.size hi=items.size) (h:Q (.ref t) s):wpAny (model prog w) A (getItem (.ref t) (.ref sl)) Q E s:=by
 obtain⟨os,AQ,DK,AR⟩:=id hs;have D9:s.TypeIs (.ref sl) "slice":=⟨os,AQ,DK⟩
 unfold getItem;try with_reducible refine Iq ?_
 first|refine Fs (FF ?_)|skip
 refine Fs (wpAny_sequenceKey ht.typeIs (by decide) ?_);refine Fs (Ha (name:=Str.ofString "__getitem__") ht.typeIs Gm
  (wpAny_call_entry Gm ht.typeIs entry_tuple_getitem ?_ (args_tuple_getitem _ _)))
 show wpAny _ _ (Builtin.Tuple.tupleItemsOf (.ref t) >>= _) _ _ s;refine Fs (tupleItemsOf_ ht ?_);refine Fs (wpAny_typeOf D9 ?_);rw[FY (by decide)];refine Fs (cH hs pl pu ?_);have hyes:(((sIx items.size 0 lo:Nat):Int)==0&&(1:Int)==1&&(sIx items.size items.size hi-sIx items.size 0 lo)==items.size)=true:=by
  rw[hw.1,hw.2];simp
 show wpAny _ _ (if(((sIx items.size 0 lo:Nat):Int)==0&&(1:Int)==1&&(sIx items.size items.size hi-sIx items.size 0 lo)==items.size)=true then _ else _) _ _ s;rw[FY hyes];refine Fs (m:=Builtin.Tuple.tupleIsExact _) ?_;unfold Builtin.Tuple.tupleIsExact;refine Fs (wpAny_typeOf ht.typeIs (FF ?_));rw[FY (by decide)];exact Fs (wpAny_rule (FF ⟨_,rfl,FF h⟩))
end HT
namespace PV
open PySem PySem.Spec PyProof.Rows L2 NX
section
variable{X:Cx}{pos:Pos}{fa:FO}
theorem oB:BC X (fun x lo hi H Q=>∃a xs,x=.ref a/\SqT X.K H a xs/\(HT.sIx xs.length 0 lo=0/\HT.sIx xs.length xs.length hi=xs.length)/\Q x H):=by
 intro pr s σ H x v vl vu lo hi sl Q I rx hs pl pu h;obtain⟨a,xs,rfl,hx,hw,q⟩:=h;cases rx;obtain⟨wZ,r,ht,hz⟩:=I.tuple hx;have hlen:wZ.toArray.size=xs.length:=by rw[Fp];exact r.length.symm
 refine⟨"tuple",_,PyProof.Rows.slot_tuple_getitem.lookup,ht.typeIs,?_⟩;exact HT.dH ht hs pl pu (by rw[hlen];exact hw) ⟨.ref a,H,I,rfl,q⟩
def Bx(k:D)(lo hi:Option Int):Res R:=match k with
 | .tup ds=>if HT.sIx ds.length 0 lo=0/\HT.sIx ds.length ds.length hi=ds.length then .ok (.f,.tup ds) else C6 k lo hi
 |_=>C6 k lo hi
def oC(fa:FO)(lo hi:FP):FX:=fun env=>(fa env).bind fun p=>(lo p.2).bind fun q=>(hi q.2).bind fun t=>(yz t.2 p.1).bind fun d=>(Bx d q.1 t.1).bind fun r=>.ok (r,t.2)
inductive rSlW(K:W.Frag)(x:V)(lo:Option Int)(hi:Option Int)(H:Hp)(Q:VK):Prop
 |mk:∀G fp es vs d r,Goes K H G fp es vs r Q->Vw K G H d x->Bx d lo hi=.ok r->rSlW K x lo hi H Q
theorem rf:BC X (rSlW X.K):=by
 rintro pr s σ H x v vl vu lo hi sl Q I rx hs pl pu ⟨G,fp,es,vs,d,r,⟨rel,k⟩,vd,e⟩;unfold Bx at e;split at e
 ·rename_i ds;split at e
  ·rename_i hw;cases e;obtain⟨p,xs,ev,sq,rs⟩:=fP vd;subst ev;refine oB pr s σ H _ v vl vu lo hi sl Q I rx hs pl pu ⟨p,xs,rfl,bQ rel.gh sq,by rw[rs.length];exact hw,?_⟩;exact k _ H G fp .refl (rel.push vd)
  ·exact qL pr s σ H x v vl vu lo hi sl Q I rx hs pl pu ⟨G,fp,es,vs,_,r,⟨rel,k⟩,vd,e⟩
 ·exact qL pr s σ H x v vl vu lo hi sl Q I rx hs pl pu ⟨G,fp,es,vs,_,r,⟨rel,k⟩,vd,e⟩
theorem fU{e:Expr}{lo hi:Option Expr}{p2:Pos}{fl fh:FP}(he:QO X e fa)(hl:QP X lo fl)(hh:QP X hi fh):QE X (.Subscript e (.Slice lo hi none p2) pos) (oC fa fl fh):=
 aW (lK rf he hl hh) fun σ H Q xi=>by
  obtain⟨G,env,fp,r,env',rel,e,k⟩:=xi;obtain⟨⟨o,wJ⟩,e1,e⟩:=ag e;obtain⟨⟨i,xo⟩,e2,e⟩:=ag e;obtain⟨⟨j,zc⟩,e3,e⟩:=ag e;obtain⟨d,e4,e⟩:=ag e;obtain⟨r',e5,e⟩:=ag e;cases e;exact⟨G,env,fp,o,wJ,rel,e1,fun v H1 G1 xk xm wM zb=>⟨G1,wJ,xk,i,xo,wM,e2,fun H2 G2 xR xl wU=>⟨G2,xo,xR,j,zc,wU,e3,fun H3 G3 zy x3 xN=>
   ⟨G3,zy,zc,σ,d,r,⟨xN,fun v H' G' wV st xw=>k v H' G' wV (xm.trans (xl.trans (x3.trans st))) xw⟩,xN.vw ((zb.mono xl.gg).mono x3.gg) e4,e5⟩⟩⟩⟩
end
end PV
namespace L2
open PySem PySem.Spec PyProof.Rows
section
variable{X:Cx}{tg:Expr}
def kO(i j c:Int):Prop:=(-1048576<=i/\i<=1048576)/\(-1048576<=j/\j<=1048576)/\(c = -1\/1<=c)/\c<=1048576
instance (i j c:Int):Decidable (kO i j c):=by unfold kO;infer_instance
end
end L2
namespace PV
open PySem PySem.Spec PyProof.Rows L2 NX
section
variable{X:Cx}{tg:Expr}
def wz:List D->Res R
 |[d]=>match(me d).bind hE with
  |some (n::ns)=>.ok (.f,.int (tJ (n::ns)))
  |_=>.bad
 |[.int i,.int j]=>.ok (.f,.int (if j<i then j else i))
 |_=>.bad
def wA:List D->Res R
 |[.int i]=>.ok (.f,.int (if i<0 then -i else i))
 |_=>.bad
noncomputable def ua(fs:yc):FI:=fun env=>(fs env).bind fun p=>(jB p.2 p.1).bind fun d=>match d with
 |[.int i,.int j,.int c]=>if kO i j c then .ok ((List.range (Builtin.Range.rangeSize i j c).toNat).map fun(k:Nat)=>D.int (i+(k:Int)*c),p.2) else .bad
 |_=>.bad
end
end PV
namespace NX
open PySem PySem.Spec PyProof.Rows L2
section
open PySem.SeqAt
open PySem.AutoSeq1 (wpAny_loadPart')
end
end NX
namespace L2
open PySem PySem.Spec PyProof.Rows
section
variable{X:Cx}{o e:Expr}{es:List Expr}{to:TE}{t:TA}{name:Str}{apos xC:Pos}{id:String}{r:V->List V->Hp->VK->Prop}
end
end L2
namespace PV
open PySem PySem.Spec PyProof.Rows L2 NX
section
variable{X:Cx}
noncomputable def wB(g:List D->List D->Res R)(fa:FO)(fs:yc):FX:=fun env=>(fa env).bind fun p=>(yz p.2 p.1).bind fun a=>match a with
 | .tup _=>(fs p.2).bind fun q=>(yz q.2 p.1).bind fun a2=>match a2 with
  | .tup l=>(jB q.2 q.1).bind fun ds=>(g l ds).bind fun r=>.ok (r,q.2)
  |_=>.bad
 |_=>.bad
def vU(l:List D):List D->Res R
 |[.str c]=>match cv l with
  |some bs=>if c∈bs then .ok (.f,.int (bs.idxOf c:Nat)) else .bad
  |none=>.bad
 |_=>.bad
def wC(a b:D):Res R:=match a,b with
 | .tup [],.tup l=>.ok (.f,.tup l)
 |a,b=>addD a b
def vV(fs:yc):FI:=Ab (kI true true fs) (Ab (kI true false fs) (Ab (kI false true fs) (kI false false fs)))
end
end PV
namespace NX
open PySem PySem.Spec PyProof.Rows L2
section
open PySem.AutoSeq1 (wpAny_loadPart')
end
end NX
namespace PV
open PySem PySem.Spec PyProof.Rows L2 NX
section
variable{md:Mode}{X:Cx}
def wD(a b:D):Res R:=match a,b with
 | .lst ds,.int k=>if 0<=k/\k<1000000/\ds.length*k.toNat<=sizeLine then .ok (.l .f,.lst (List.replicate k.toNat ds).flatten) else .bad
 |a,b=>pE a b
noncomputable def vW(i:Nat)(fk fv:FX):FS:=fun env=>(fv env).bind fun p=>(fk p.2).bind fun q=>match p.2[i]?,q.2[i]? with
 |some (some _),some (some (.l .f,.lst ds))=>(match q.1.2 with
  | .int k=>(match ixN ds.length k with
   |some j=>.ok (.nx (q.2.set i (some (.l .f,.lst (ds.set j p.1.2)))))
   |none=>.bad)
  |_=>.bad)
 |_,_=>.bad
end
section
variable{X:Cx}
theorem Rel.own{K:W.Frag}{G H:Hp}{es:PV.Env}{vs:L2.St}{fp:List Addr}{p:Addr}{u:HO}{tk:Bool}{ks ws:List D}{xs:List V}(q:Rel K G H es vs fp)(np:p∉fp)(gp:G p=none)(h:DictO u tk ks xs)(rs:Reps K G ws xs):
  Rel K G (upd H p u) (some (.d,.dct tk ks ws)::es) (some (.ref p)::vs) (p::fp):=by
 refine⟨⟨some (.ref p),vs,rfl,.ref p,[p],fp,rfl,rfl,?_,q.rep.step (.refl _) fun z hz=>av fun e=>np (e▸hz)⟩,Gq.mpr ⟨np,q.nd⟩,fun z hz=>?_,fun b o e=>?_⟩
 ·rw[RepO];exact⟨p,xs,u,rfl,a9,h,rfl,rs⟩
 ·rcases FK.mp hz with rfl|hz
  ·exact gp
  ·exact q.gn z hz
 ·rw[av fun z=>by subst z;rw[gp]at e;cases e];exact q.gh b o e
theorem Rel.aside{K:W.Frag}{G H:Hp}{es:PV.Env}{vs:L2.St}{fp:List Addr}{p:Addr}{u:HO}(q:Rel K G H es vs fp)(hp:H p=none):Rel K G (upd H p u) es vs fp:=by
 have np:p∉fp:=fun z=>by
  obtain⟨u,e⟩:=q.rep.live p z;rw[hp]at e;cases e
 exact⟨q.rep.step (.refl _) fun z hz=>av fun e=>np (e▸hz),q.nd,q.gn,fun b o e=>by rw[av (aP (q.gh b o e) hp)];exact q.gh b o e⟩
theorem Step.aside{K:W.Frag}{G H G2 H2:Hp}{es:PV.Env}{vs:L2.St}{fp xR:List Addr}{p:Addr}{u u2:HO}(q:Rel K G H es vs fp)(hp:H p=none)(hu:Cw u=false)(st:Step G (upd H p u) fp G2 H2 xR):
  Step G H fp G2 (upd H2 p u2) (p::xR)/\p∉xR/\G2 p=none/\H2 p=some u:=by
 have np:p∉fp:=fun z=>by
  obtain⟨u,e⟩:=q.rep.live p z;rw[hp]at e;cases e
 have ne:∀{b o},H b=some o->b≠p:=fun e=>aP e hp
 refine⟨⟨st.gg,fun b o e nb=>?_,fun b hb=>?_,fun b o e=>?_,fun b o e=>?_⟩,fun z=>?_,?_,st.keep p u a9 np⟩
 ·rw[av (ne e)];exact st.keep b o (by rw[av (ne e)];exact e) nb
 ·rcases FK.mp hb with rfl|hb
  ·exact .inr hp
  ·rcases st.fpn b hb with h|h
   ·exact .inl h
   ·by_cases e:b=p
    ·subst e;exact .inr hp
    ·rw[av e]at h;exact .inr h
 ·rcases st.gnew b o e with h|h|h|⟨h1,h2⟩
  ·exact .inl h
  ·exact .inr (.inl h)
  ·by_cases e:b=p
   ·subst e;exact .inr (.inr (.inl hp))
   ·rw[av e]at h;exact .inr (.inr (.inl h))
  ·by_cases e:b=p
   ·subst e;exact .inr (.inr (.inl hp))
   ·rw[av e]at h2;exact .inr (.inr (.inr ⟨h1,h2⟩))
 ·obtain⟨o',h⟩:=st.there b o (by rw[av (ne e)];exact e);exact⟨o',by rw[av (ne e)];exact h⟩
 ·rcases st.fpn p z with h|h
  ·exact np h
  ·rw[a9]at h;cases h
 ·cases e:G2 p with
  |none=>rfl
  |some o=>
   rcases st.gnew p o e with h|h|h|⟨h1,h2⟩
   ·have:=q.gh p o h;rw[hp]at this;cases this
   ·exact absurd h np
   ·rw[a9]at h;cases h
   ·rw[a9]at h2;cases h2;rw[hu]at h1;cases h1
def kP(fk fv:FX):FX:=fun env=>(fk env).bind fun p=>(fv p.2).bind fun q=>if hJ false p.1.2 then .ok ((.d,.dct false [p.1.2] [q.1.2]),q.2) else .bad
theorem mj{k v:Expr}{fk fv:FX}{pos:Pos}(hk:QE X k fk)(hv:QE X v fv):QE X (.Dict [some k] [v] pos) (kP fk fv):=
 aW (nY (lP hk hv nX) rfl rfl (List.cons_ne_nil _ _) (show 1<=15 by decide)) fun σ H Q xi p hp=>by
  obtain⟨G,env,fp,r,env',rel,e,kk⟩:=xi;obtain⟨⟨r1,wJ⟩,e1,e⟩:=ag e;obtain⟨⟨r2,xo⟩,e2,e⟩:=ag e;dsimp only at e;split at e
  ·rename_i hkey;cases e;refine⟨G,env,fp,r1,wJ,rel.aside hp,e1,fun x H1 G1 xk xm wM=>?_⟩;obtain⟨G2,b,rx,wU,xl⟩:=wM.freeze;refine⟨G2,wJ,b,r2,_,wU,e2,fun y H3 G3 zy x3 xN=>?_⟩;obtain⟨G4,b4,ry,yU,zj⟩:=xN.freeze;have E4:Rep X.K G4 r1.2 x:=Rep.mono (x3.gg.trans zj.gg) rx;unfold hJ at hkey;rw[F3 FR,GZ]at hkey;obtain⟨kd,zF⟩:=hkey;obtain⟨ex,dx⟩:=fS zF E4;obtain⟨st,np,gp,hp2⟩:=Step.aside (u2:=.dK [(kd,y)]) rel hp rfl (xm.trans (xl.trans (x3.trans zj)));refine⟨hp2,[(kd,y)],by rw[ex];rfl,(show 1<=15 by decide),?_⟩;exact kk _ _ G4 _ st (yU.own np gp ⟨[(kd,y)],rfl,by rw[dx];rfl,rfl,fun kv hkv=>by rw[Gy.mp hkv];exact qT zF E4⟩ (.one ry))
  ·cases e
def getD(ks vs:List D)(k:D):Option D:=((ks.zip vs).find? fun p=>xg k p.1).map (·.2)
def dgD(a b:D):Res R:=match a with
 | .dct tk ks vs=>if hJ tk b then(match getD ks vs b with
  |some d=>.ok (.f,d)
  |none=>.bad) else .bad
 |_=>.bad
def inP(a b:D):Res R:=match b with
 | .dct tk ks vs=>if hJ tk a then .ok (.f,.bl (getD ks vs a).isSome) else .bad
 |_=>DT a b
def wF(a b:D):Res R:=match b with
 | .dct tk ks vs=>if hJ tk a then .ok (.f,.bl (!(getD ks vs a).isSome)) else .bad
 |_=>vQ a b
end
section
variable{K:W.Frag}{G G' H H':Hp}{es:PV.Env}{vs:L2.St}{fp:List Addr}
end
section
variable{X:Cx}
end
section
variable{X:Cx}{x:Str}{p pos:Pos}{e:Expr}{es:List Expr}{fs:yc}
end
section
variable{K:W.Frag}{G G' H H':Hp}
end
section
variable{X:Cx}{md:Mode}
end
end PV
namespace NX
open PySem PySem.Spec PyProof.Rows L2
end NX
namespace PV
open PySem PySem.Spec PyProof.Rows L2 NX
section
variable{X:Cx}
end
end PV
namespace NX
open PySem PySem.Spec PyProof.Rows L2
section
variable{prog:Program}{w:World}{A:Around}{E:Value->Shared->Prop}{s:Shared}
end
section
variable{prog:Program}{w:World}{A:Around}{E:Value->Shared->Prop}{s:Shared}
end
section
variable{X:Cx}{e:Expr}{ta:TA}{p p2 pos Ag:Pos}
end
end NX
namespace PV
open PySem PySem.Spec PyProof.Rows L2 NX
section
variable{X:Cx}{e:Expr}{fs:yc}{p p2 pos Ag:Pos}
end
end PV
namespace NX
open PySem PySem.Spec PyProof.Rows L2
section
open PySem.AutoSeq1 (wpAny_loadPart')
end
end NX
namespace PV
open PySem PySem.Spec PyProof.Rows L2 NX
section
variable{X:Cx}
end
section
variable{md:Mode}{X:Cx}{scope:Scope}{N:List Str}{tg iter elt:Expr}{ifs:List Expr}{pos:Pos}{fi:FI}{a:FG}{c:FT}{f:FX}{j k0:Nat}
end
section
variable{X:Cx}{x:Str}{p pos:Pos}{e:Expr}{es:List Expr}{f0:FX}{fs:yc}
end
def joinL(sep:List Nat):List (List Nat)->List Nat
 |[]=>[]
 |[x]=>x
 |x::y::r=>x++sep++joinL sep (y::r)
def iE(sep:List Nat):List D->Res R
 |[.lst ds]=>match cv ds with
  |some ys=>if(ys.map List.length).sum+ys.length*sep.length<=16777216 then .ok (.f,.str (joinL sep ys)) else .bad
  |none=>.bad
 |_=>.bad
theorem kQ(sep:List Nat):∀ys:List (List Nat),Str.join (S sep) (ys.map S)=S (joinL sep ys)
 |[]=>rfl
 |[x]=>rfl
 |x::y::r=>by
  have ih:=kQ sep (y::r);show S x++S sep++Str.join (S sep) ((y::r).map S)=S (x++sep++joinL sep (y::r));rw[ih];apply Str.ext';simp[Str.cps_append]
theorem rg(sep:List Nat):∀ys:List (List Nat),Txt.join (S sep) (ys.map S)=S (joinL sep ys)
 |ys=>by
  show Builtin.Str.glued (S sep) (ys.map S)=_;rw[StrLaws.glued_eq_join];exact kQ sep ys
theorem dI(sep:List Nat):∀ys:List (List Nat),(joinL sep ys).length<=(ys.map List.length).sum+ys.length*sep.length
 |[]=>GD _
 |[x]=>by
  show x.length<=_;rw[F5,Iw];lia
 |x::y::r=>by
  have ih:=dI sep (y::r);show(x++sep++joinL sep (y::r)).length<=_;rw[FU,FU,F5,Iw,Fv,Nat.add_mul];lia
theorem hV{K:W.Frag}{G:Hp}:∀{ds:List D}{ys:List (List Nat)}{xs:List V}{us:List Value},cv ds=some ys->Reps K G ds xs->Vals xs us->StrsAre us (ys.map S)
 |[],ys,xs,us,e,r,v=>by
  cases e;rw[Reps]at r;subst r;cases v;exact .nil
 | .str b::ds,ys,xs,us,e,r,v=>by
  rw[Reps]at r;obtain⟨y,zs,ex,r1,r2⟩:=r;subst ex;cases v with
  |cons h t=>
   rw[cv,Gv]at e;obtain⟨ws,hw,rfl⟩:=e;rw[Rep]at r1;obtain⟨r1,_⟩:=r1;subst r1;obtain⟨tk,rfl⟩:=h;exact .cons _ tk (hV hw r2 t)
 | .non::_,_,_,_,e,_,_ | .bl _::_,_,_,_,e,_,_ | .int _::_,_,_,_,e,_,_ | .tup _::_,_,_,_,e,_,_ | .lst _::_,_,_,_,e,_,_ | .dct _ _ _::_,_,_,_,e,_,_=>by cases e
section
variable{X:Cx}
theorem kR:Ea X "str.join" (rMtS X.K iE):=by
 rintro pr s σ H x xs v us Q I rx rv ⟨G,fp,es,vs,l,ds,r,⟨rel,k⟩,ex,hz,vd,e⟩;unfold iE at e;split at e
 ·rename_i ds;split at e
  ·rename_i ys Ef;split at e
   ·rename_i hb;cases e;subst ex;obtain⟨w',ew,p,zs,ep,sq,rs⟩:=pC vd;subst ew ep;obtain⟨t,rfl⟩:=rx;obtain⟨u,rfl,ru⟩:=jY rv;cases ru;obtain⟨wZ,r',pl,Eu⟩:=I.list sq;refine join_list pl.isList (ys:=ys.map S) (hV Ef rs r') ?_ fun t' kk=>?_
    ·rw[List.map_map,FN];have e1:((fun x:Str=>x.length)∘S)=List.length:=by funext z;exact di z
     rw[e1,di];exact hb
    ·rw[rg];refine⟨.str (S (joinL l ys)),H,I.tok _,⟨_,rfl⟩,k _ H G fp .refl (rel.push ?_)⟩;rw[Rep];have:=dI l ys;exact⟨rfl,by rw[line_eq];lia⟩
   ·cases e
  ·cases e
 ·cases e
end
end PV
namespace NX
open PySem PySem.Spec PyProof.Rows L2
section
variable{prog:Program}{w:World}{A:Around}{R:Result->Shared->Prop}{it:Addr}{fp wr:List Addr}{n:Nat}{Pv:Nat->Value->Prop}{Sx:Nat->Heap->Prop}{kw:List (Str×Value)}
end
section
variable{X:Cx}{e k:Expr}{te tk:TE}{p pos CL:Pos}
end
end NX
namespace PV
open PySem PySem.Spec PyProof.Rows L2 NX
section
variable{X:Cx}
end
section
variable{X:Cx}
end
section
variable{K:W.Frag}{G G' H H':Hp}{es:PV.Env}{vs:L2.St}{fp:List Addr}
end
section
variable{X:Cx}{x:Str}{p pos:Pos}{e:Expr}{es:List Expr}{f0:FX}{fs:yc}
end
section
variable{X:Cx}{pos:Pos}{fa:FO}
end
section
variable{X:Cx}
end
section
variable{X:Cx}{scope:Scope}{N:List Str}{tg iter elt:Expr}{ifs:List Expr}{pos:Pos}{fi:FI}{a:FG}{c:FT}{f:FX}
end
end PV
namespace L2
open PySem PySem.Spec PyProof.Rows NX
section
variable{X:Cx}{tg:Expr}
end
end L2
namespace PV
open PySem PySem.Spec PyProof.Rows L2 NX
section
variable{X:Cx}{tg:Expr}
end
abbrev FB:=PV.Env->Bool
def ej(g:FS)(x:FB):FB:=fun env=>match g env with
 | .ok (.nx e)=>x e
 |_=>false
def Ac(c:FT)(x:FB):FB:=fun env=>match c env with
 | .ok (true,e)=>x e
 |_=>false
def d8(fs:yc):FB:=fun env=>match fs env with
 | .ok (os,_)=>decide (os.length<=3)
 |_=>false
inductive tX(K:W.Frag)(x:FB)(Ww:Hp->Prop)(σ:L2.St)(H:Hp):Prop
 |mk:∀G env fp,Rel K G H env σ fp->x env=true->(∀H' G' wV,Step G H fp G' H' wV->Rel K G' H' [] [] []->Ww H')->tX K x Ww σ H
def QX(X:Cx)(st:List Stmt)(x:FB)(Ww:Hp->Prop):Prop:=PX X st (tX X.K x Ww)
section
variable{X:Cx}{st:Stmt}{AN:List Stmt}{g:FS}{x:FB}{Ww:Hp->Prop}{c:FT}{pos np xC:Pos}{e:Expr}{es:List Expr}{fs:yc}{C:Addr}{y:Str}
theorem bw(a:QS (md:=.plain) X.nox st g)(b:QX X AN x Ww):QX X (st::AN) (ej g x) Ww:=eN (nZ (qv a) b) fun σ H xi=>by
 obtain⟨G,env,fp,rel,e,k⟩:=xi;unfold ej at e;match q:g env,e with
 | .ok (.nx wJ),e=>
  refine⟨G,env,fp,rel,?_⟩;rw[q];exact fun σ1 H1 G1 xk xm wM=>⟨G1,wJ,xk,wM,e,fun H' G' wV st r=>k H' G' wV (xm.trans st) r⟩
theorem ml{a b:List Stmt}{ct:Expr}(hc:QT X.nox ct c)(ha:QX X a x Ww):QX X (.If ct a b pos::AN) (Ac c x) Ww:=eN (tR (PT.nox hc) ha) fun σ H xi=>by
 obtain⟨G,env,fp,rel,e,k⟩:=xi;unfold Ac at e;match q:c env,e with
 | .ok (true,wJ),e=>exact⟨G,env,fp,true,wJ,rel,q,fun H1 G1 xk xm wM=>⟨rfl,G1,wJ,xk,wM,e,fun H' G' wV st r=>k H' G' wV (xm.trans st) r⟩⟩
theorem mm{x':FB}(a:QX X AN x Ww)(b:QX X AN x' Ww):QX X AN (fun env=>x env||x' env) Ww:=eN (tS a b) fun σ H ⟨G,env,fp,rel,e,k⟩=>
 ((FZ _ _).mp e).elim (fun e=>.inl ⟨G,env,fp,rel,e,k⟩) fun e=>.inr ⟨G,env,fp,rel,e,k⟩
theorem ji{K:W.Frag}{G:Hp}{σ:L2.St}:∀{os:List Opd}{vs:List V},g0 K G σ os vs->vs.length=os.length
 |[],_,r=>by have r:_=[]:=r;rw[r];rfl
 |_::_,_,⟨y,ys,e,_,q⟩=>by rw[e,Fv,Fv,ji q]
theorem eD(O:XCl X.mg X.base y C)(acc:Acc X C Ww)(hc:X.calm=true)(hg:Gl X y)(ha:AL X.nox (e::es) fs)(xX:(y==("__debug__" : Str))=false:=by decide)
  (he:starEach (e::es) X.env=(false,eval e X.env)::starEach es X.env:=by rfl) (xZ:(backTo xC (starEach es X.env)).any (·.1)=false:=by rfl):
  QX X (.Raise (some (.Call (.Name y np) (e::es) [] xC)) none pos::AN) (d8 fs) Ww:=eN (lT O acc hc hg (qw ha) xX he xZ) fun σ H xi=>by
 obtain⟨G,env,fp,rel,e,k⟩:=xi;unfold d8 at e;match q:fs env,e with
 | .ok (os,wJ),e=>
  refine⟨G,env,fp,os,wJ,rel,q,fun vs H1 G1 xk xm wM zb=>⟨?_,k H1 G1 xk xm wM.nilF⟩⟩;rw[ji zb];have e:decide (os.length<=3)=true:=e;have:=GS e;rw[line_eq];lia
end
inductive spX(K:W.Frag)(C:Addr)(F:List D->Bool)(vs:List V)(H:Hp)(Q:VK)(E:XK):Prop
 |mk:∀G ds,Same G H->Reps K G ds vs->F ds=true->(∀H' G' wV,Step G H [] G' H' wV->Rel K G' H' [] [] []->E (.ref C) none H')->spX K C F vs H Q E
def et(np nn:Nat)(x:FB):List D->Bool:=fun ds=>decide (ds.length=np)&&x (ds.map (fun d=>some (O.f,d))++List.replicate nn none)
theorem eW{P:Program}{w:World}{K:W.Frag}{mg:Str->Option Value}{base:Heap}{x:Str}{st:Stmt}{N ps:List Str}{k:Nat}{gx:FB}{C:Addr}(Df:Def K mg x st)(sc:FnScope N ps (defScope st))
  (hb:∀(kV doc pm:Value) (an:Option Addr) (xr ct:Value) (us:List Value),us.length=ps.length->bindArgs (PySem.W.fnOf x x (b8 st) (bj st) (defScope st) .none kV doc pm an xr ct) ⟨us,[]⟩=pure (ps.zip us))
  (body:∀(f:Addr) (xr:Value) (A:Around) (outer:List PySem.Env) (s:Shared) (H:Hp) (E:XK),Room k (A.deeper (envOfC x (defScope st) s.heap.objs.size f xr))->QX (iR (Bu P w base C) P w K mg base N x (defScope st) f xr A outer s H E) (bj st) gx (fun H'=>E (.ref C) none H')):
  CtX P w K mg base x (k+1) C (spX K C (et ps.length (N.length-ps.length) gx)):=by
 obtain⟨f,fd,F,m⟩:=Df;refine⟨f,fd,ps,n1 F sc (fun vs H Q E h=>?_) (fun xr A outer s H vs Q E hr h=>?_),m,F.kp,F.binds hb⟩
 ·obtain⟨G,ds,_,rs,e,_⟩:=h;unfold et at e;have:=GS ((Fx _ _).mp e).1;rw[rs.length,this]
 ·obtain⟨G,ds,gh,rs,e,q⟩:=h;unfold et at e;have hl:=GS ((Fx _ _).mp e).1;have e:=((Fx _ _).mp e).2;refine⟨_,body f xr A outer s H E hr,G,ds.map (fun d=>some (O.f,d))++List.replicate (N.length-ps.length) none,[],⟨?_,Hd,(fun _ h=>nomatch h),gh⟩,e,q⟩;have:=dF (K:=K) (G:=G) (H:=H) (N.length-ps.length) rs;unfold L2.dQ;rw[rs.length,hl];exact this
abbrev FXE:=PV.Env->Option PV.Env
inductive tQX(K:W.Frag)(x:FXE)(σ:L2.St)(H:Hp)(Ww:Hp->Prop):Prop
 |mk:∀G env fp env',Rel K G H env σ fp->x env=some env'->(∀H' G' wV,Step G H fp G' H' wV->Rel K G' H' env' σ wV->Ww H')->tQX K x σ H Ww
def oD(F:List D->Bool)(fs:yc):FXE:=fun env=>match fs env with
 | .ok (os,e)=>match dC e os with
  | .ok ds=>if F ds then some e else none
  |_=>none
 |_=>none
def DV(X:Cx)(e:Expr)(C:Addr)(x:FXE):Prop:=BI X e C (tQX X.K x)
section
variable{md:Mode}{X:Cx}{x:Str}{p pos:Pos}{e a b:Expr}{es:List Expr}{C:Addr}{F:List D->Bool}{fs:yc}{k:Nat}{xe:FXE}{rest:List Stmt}
theorem iF(c:CtX X.prog X.w X.K X.mg X.base x k C (spX X.K C F))(hr:Room k X.A)(hg:Gl X x)(ha:AL X.nox (e::es) fs)(xX:(x==("__debug__" : Str))=false:=by decide)
  (he:starEach (e::es) X.env=(false,eval e X.env)::starEach es X.env:=by rfl) (xZ:(backTo pos (starEach es X.env)).any (·.1)=false:=by rfl):DV X (.Call (.Name x p) (e::es) [] pos) C (oD F fs):=
 fun pr s σ H Ww I ⟨G,env,fp,env',rel,e,kk⟩=>i0 c hr hg ha xX he xZ pr s σ H Ww I (by
  unfold oD at e;match q:fs env,e with
  | .ok (os,e1),e=>
   dsimp only at e;match q2:dC e1 os,e with
   | .ok ds,e=>
    dsimp only at e;split at e
    ·rename_i hF;cases e;refine⟨G,env,fp,os,_,rel,q,fun vs H1 G1 xk xm wM zb=>?_⟩;obtain⟨G2,Bv,AX,zA,_,yM⟩:=wM.lend;refine⟨G2,ds,AX,dD Bv zA zb q2,hF,fun H' G' wV st xw=>?_⟩;obtain⟨k1,_⟩:=yM H' G' [] (.f,.non) .non (st.trans (Step.cut fun _ h=>nomatch h)) (xw.push eQ);obtain⟨G3,zy,x3,xN⟩:=k1 rfl;obtain⟨fq,yU,zj⟩:=xN.drop;exact kk H' G3 fq (xm.trans (x3.trans zj)) yU
    ·cases e)
end
section
variable{X:Cx}{x:Str}{p pos:Pos}{e:Expr}{es:List Expr}{fs:yc}
end
section
variable{X:Cx}{x:Str}{p pos:Pos}{e:Expr}{es:List Expr}{f0:FX}{fs:yc}
end
end PV
namespace NX
open PySem PySem.Spec PyProof.Rows L2
end NX
namespace PV
open PySem PySem.Spec PyProof.Rows L2 NX
section
variable{K:W.Frag}{G H:Hp}{es:PV.Env}{vs:L2.St}{fp:List Addr}
end
section
variable{md:Mode}{X:Cx}
end
section
variable{X:Cx}
end
end PV
namespace NX
open PySem PySem.Spec PyProof.Rows L2
section
variable{X:Cx}
end
end NX
namespace PV
open PySem PySem.Spec PyProof.Rows L2 NX
section
variable{X:Cx}
end
inductive Ext:Hp->Hp->Prop
 |refl {H:Hp}:Ext H H
 |new {H H1:Hp}{p:Addr}{xs:List V}:Ext H H1->H1 p=none->Ext H (upd H1 p (.tup xs))
theorem Ext.trans{H H1 H2:Hp}(a:Ext H H1)(b:Ext H1 H2):Ext H H2:=by
 induction b with
 |refl=>exact a
 |new _ hp ih=>exact .new ih hp
theorem Ext.rel{K:W.Frag}{G H H':Hp}{env:PV.Env}{σ:L2.St}{fp:List Addr}(e:Ext H H')(r:Rel K G H env σ fp):∃G',Rel K G' H' env σ fp/\Step G H fp G' H' fp:=by
 induction e with
 |refl=>exact⟨G,r,.refl⟩
 |new _ hp ih=>
  obtain⟨G1,r1,s1⟩:=ih;obtain⟨r2,s2⟩:=r1.newF hp;exact⟨_,r2,s1.trans s2⟩
inductive BExp where
 |con (b:Bool)|var (j:Nat)|not (x:BExp)|and (x y:BExp)
abbrev Kn:=List (Nat×Bool)
def BY(kn:Kn):BExp->Option Bool
 | .con b=>some b
 | .var j=>kn.lookup j
 | .not x=>(BY kn x).map (!·)
 | .and x y=>(BY kn x).bind fun b=>if b=true then BY kn y else some false
def rh(kn:Kn)(σ:L2.St):Prop:=∀j b,kn.lookup j=some b->σ[j]?=some (some (.bl b))
inductive tBE(i:Nat)(a:Addr)(x:BExp)(σ:L2.St)(H:Hp)(Q:VK):Prop
 |mk:∀kn b,σ[i]?=some (some (.ref a))->rh kn σ->BY kn x=some b->(∀H',Ext H H'->Q (.bl b) H')->tBE i a x σ H Q
def BE(X:Cx)(e:Expr)(i:Nat)(a:Addr)(x:BExp):Prop:=PE X e (tBE i a x)
section
variable{X:Cx}{a:Addr}{o:Obj}{i:Nat}{e b:Expr}{rest:List Expr}{x y:BExp}{pos p q:Pos}{n:Str}
theorem kS(h:BE X e i a x):BE X (.UnaryOp .Not e pos) i a (.not x):=aW (pO h) fun σ H Q xi=>by
 obtain⟨kn,c,hi,hk,ev,k⟩:=xi;unfold BY at ev;obtain⟨b1,e1,ev⟩:=Gv.mp ev;subst ev;exact⟨kn,b1,hi,hk,e1,fun H1 x1=>⟨b1,rfl,k H1 x1⟩⟩
theorem kU:∀{cs:List Addr}{wZ:List Value},Vals (cs.map V.ref) wZ->wZ=cs.map Value.ref
 |[],_,.nil=>rfl
 |c::cs,_,.cons h r=>by rw[F5,kU r,show _=Value.ref c from h]
theorem jj{C:Addr}{vs:Array Value}(hp:(a,o)∈X.pn)(hc:o.cls=.ref C)(hv:o.data=.fields vs)(k:Asks X.K C):eH X (.builtin "isinstance") (fun xs H Q=>
  (∃c b,xs=[.ref a,.ref c]/\PySem.W.kitOne X.K (.ref C) (.ref c)=some b/\Q (.bl b) H)\/(∃T b,xs=[.ref a,.ty T]/\PySem.W.kitOne X.K (.ref C) (.type T)=some b/\Q (.bl b) H)\/
  ∃(tp:Addr) (cs:List Addr) (b:Bool),xs=[.ref a,.ref tp]/\H tp=some (.tup (cs.map V.ref))/\PySem.W.kitAny X.K (.ref C) (cs.map Value.ref)=some b/\Q (.bl b) H):=by
 intro pr s σ H xs us Q I r h;obtain⟨pa,_⟩:=I.pin (a,o) (Fz _ hp);have ex:ExAt a C s.heap:=⟨o,vs,pa,hc,hv⟩
 have fin:∀b,Q (.bl b) H->∀tk,EP X pr σ Q (.bool b) {s with toks:=tk}:=fun b q tk=>⟨.bl b,H,I.tok tk,rfl,q⟩
 rcases h with⟨c,b,rfl,e,q⟩|⟨T,b,rfl,e,q⟩|⟨tp,cs,b,rfl,ht,e,q⟩
 ·obtain⟨u,w',rfl,r1,r2⟩:=lI r;cases(show u=Value.ref a from r1);cases(show w'=Value.ref c from r2);exact Gg (iA k) I.kIn ex e (fun z=>nomatch z) (fin b q)
 ·obtain⟨u,w',rfl,r1,r2⟩:=lI r;cases(show u=Value.ref a from r1);cases(show w'=Value.type T from r2);exact Gg (iA k) I.kIn ex e (fun z=>nomatch z) (fin b q)
 ·obtain⟨u,w',rfl,r1,r2⟩:=lI r;cases(show u=Value.ref a from r1);cases(show w'=Value.ref tp from r2);obtain⟨_,wZ,rv,ot,e1,e2,⟨n,e3⟩,_⟩:=I.hok tp _ ht;cases kU rv;obtain⟨c',d',da',EI⟩:=ot;dsimp only at e2 e3;subst e2;subst e3;exact PySem.W.kia_tup (iA k) I.kIn ex e1 e (fun z=>nomatch z) (fin b q)
variable{C:Addr}{vs:Array Value}
theorem bR{x:Str}{c:Addr}{b:Bool}(hp:(a,o)∈X.pn)(hc:o.cls=.ref C)(hv:o.data=.fields vs)(k:Asks X.K C)(he:PE X e (jL i))(hg:Gl X "isinstance")(hm:X.mg "isinstance" = none)(BV:Gl X x)(Dc:X.mg x=some (.ref c))(hb:PySem.W.kitOne X.K (.ref C) (.ref c)=some b)(xX:(x==("__debug__" : Str))=false:=by decide)
  (hs:starEach [e,.Name x q] X.env=(false,eval e X.env)::starEach [.Name x q] X.env:=by rfl) (De:starEach [.Name x q] X.env=(false,eval (.Name x q) X.env)::starEach [] X.env:=by rfl) (xZ:(backTo pos (starEach [.Name x q] X.env)).any (·.1)=false:=by rfl):
  BE X (.Call (.Name "isinstance" p) [e,.Name x q] [] pos) i a (.con b):=
 aW (eB (jj hp hc hv k) hg hm cC (bK he (bK (iv (v:=.ref c) BV Dc rfl xX) dZ De) hs) (by decide) (by decide) hs xZ) fun σ H Q xi=>by
  obtain⟨kn,c',hi,hk,ev,kk⟩:=xi;cases ev;exact⟨.ref a,hi,.inl ⟨c,b,rfl,hb,kk H .refl⟩⟩
theorem kX{x:Str}{T:String}{b:Bool}(hp:(a,o)∈X.pn)(hc:o.cls=.ref C)(hv:o.data=.fields vs)(k:Asks X.K C)(he:PE X e (jL i))(hg:Gl X "isinstance")(hm:X.mg "isinstance" = none)(BV:Gl X x)(Dc:X.mg x=none)(Es:bootBuiltins x=some (.type T))(hb:PySem.W.kitOne X.K (.ref C) (.type T)=some b)(hn:x≠"__name__":=by decide)(xX:(x==("__debug__" : Str))=false:=by decide)
  (hs:starEach [e,.Name x q] X.env=(false,eval e X.env)::starEach [.Name x q] X.env:=by rfl) (De:starEach [.Name x q] X.env=(false,eval (.Name x q) X.env)::starEach [] X.env:=by rfl) (xZ:(backTo pos (starEach [.Name x q] X.env)).any (·.1)=false:=by rfl):
  BE X (.Call (.Name "isinstance" p) [e,.Name x q] [] pos) i a (.con b):=
 aW (eB (jj hp hc hv k) hg hm cC (bK he (bK (jR (v:=.ty T) BV Dc Es rfl hn xX) dZ De) hs) (by decide) (by decide) hs xZ) fun σ H Q xi=>by
  obtain⟨kn,c',hi,hk,ev,kk⟩:=xi;cases ev;exact⟨.ref a,hi,.inr (.inl ⟨T,b,rfl,hb,kk H .refl⟩)⟩
def uY:List (Nat×BExp)->Kn->Option (List (Nat×Bool))
 |[],_=>some []
 |(j,x)::L,kn=>(BY kn x).bind fun b=>(uY L ((j,b)::kn)).map fun r=>(j,b)::r
def vX(r:List (Nat×Bool))(σ:L2.St):L2.St:=r.foldl (fun σ z=>σ.set z.1 (some (.bl z.2))) σ
inductive tSu(i:Nat)(a:Addr)(L:List (Nat×BExp))(D:Ends)(σ:L2.St)(H:Hp):Prop
 |mk:∀kn r,σ[i]?=some (some (.ref a))->rh kn σ->uY L kn=some r->(∀H',Ext H H'->D.nx (vX r σ) H')->tSu i a L D σ H
def BS(X:Cx)(st:List Stmt)(i:Nat)(a:Addr)(L:List (Nat×BExp)):Prop:=PSs X st (tSu i a L)
end
section
variable{md:Mode}{X:Cx}{x:Str}{pos:Pos}{C:Addr}{xe:FXE}
end
end PV
namespace PV
open PySem PySem.Spec L2 NX
section
variable{X:Cx}
end
end PV
namespace PV
open PySem PySem.Spec PyProof.Rows L2 NX
section
variable{K:W.Frag}{G H:Hp}
theorem AllO.length{P:D->V->List Addr->Prop}:∀{ds:List D}{xs:List V}{fp:List Addr},AllO P ds xs fp->xs.length=ds.length
 |[],xs,fp,r=>by
  rw[r.1];rfl
 |d'::ds,xs,fp,r=>by
  obtain⟨y,ys,a1,b1,e1,e2,p,r⟩:=r;subst e1;rw[Fv,Fv,r.length]
end
section
variable{md:Mode}{X:Cx}{scope:Scope}{N:List Str}{tg iter elt:Expr}{ifs:List Expr}{pos:Pos}{fi:FI}{a:FG}{c:FT}{f:FX}
end
section
variable{X:Cx}{x:Str}{p pos BB:Pos}{e1 e2 e3:Expr}{fo:FO}{fb:FX}
end
section
variable{X:Cx}{x:Str}{p pos p1 p2 q1 q2:Pos}{o o':Expr}{j1 j2:_}
end
section
variable{K:W.Frag}{G H:Hp}
end
section
variable{X:Cx}{a b:Expr}{fa fb:FX}{pos:Pos}
end
section
variable{K:W.Frag}{G H:Hp}
end
section
variable{X:Cx}
end
section
variable{X:Cx}
end
section
variable{K:W.Frag}{G H:Hp}
end
section
variable{X:Cx}{a b:Expr}{fa fb:FX}{pos:Pos}
end
section
variable{md:Mode}{X:Cx}{pos BB:Pos}
end
section
variable{X:Cx}{C:Addr}{pos:Pos}{rest a b:List Stmt}{ct:Expr}
def wG(c:FT)(x y:FXE):FXE:=fun env=>match c env with
 | .ok (true,e)=>x e
 | .ok (false,e)=>y e
 |_=>none
end
theorem acc_on{P:Program}{w:World}{K:W.Frag}{mg:Str->Option Value}{base:Heap}{N:List Str}{qual:Str}{scope:Scope}{f C:Addr}{cd:Value}{A:Around}{outer:List PySem.Env}{s:Shared}{H:Hp}{E:XK}
  (pr:List (Addr×Obj)) (σ:L2.St) (e:Value) (s':Shared) (h:XP (iR (Bu P w base C) P w K mg base N qual scope f cd A outer s H E) pr σ C (fun H'=>E (.ref C) none H') e s'):
  (iR (Bu P w base C) P w K mg base N qual scope f cd A outer s H E).xe e s':=by
 obtain⟨s1,H1,I,a,t,B,H',rfl,os,bare,U,hok,Ar,hB,hW⟩:=h;have Em:∀b,b∈xV (envOfC qual scope s.heap.objs.size f cd::outer)->b∈s.heap.objs.size::xV outer:=I.stkSub;have up:∀b,b∈xV outer->b∈xV (envOfC qual scope s.heap.objs.size f cd::outer):=fun b hb=>by
  obtain⟨en,he,hf⟩:=GI.mp hb;exact GI.mpr ⟨en,Ft _ he,hf⟩
 have nl:∀b o,s.heap.get? b=some o->b∉xV outer->b∉xV (envOfC qual scope s.heap.objs.size f cd::outer):=fun b o e n z=>by
  rcases FK.mp (Em b z) with r|r
  ·exact absurd (Fy e) (by rw[r];exact Gx _)
  ·exact n r
 have nt:∀b,H' b≠none->b∉xV (envOfC qual scope s.heap.objs.size f cd::outer):=fun b n z=>by
  obtain⟨_,o,ho,_⟩:=I.stack.mem z;exact n (U.free b o ho (I.stkFree b z) (fun z=>nomatch z))
 refine wpAny_leaves_onW (base:=B) (L:=s.heap.objs.size) I.ok.frames rfl Ar fun h2 Dl sm=>?_
 have k:∀b u,s'.heap.get? b=some u->(H' b≠none\/∃o,s1.heap.get? b=some o)->b∉xV (envOfC qual scope s.heap.objs.size f cd::outer)->h2.get? b=some u:=fun b u q hh n=>Dl.1 b u (hB b u q hh n)
 have sl:∀b u,s'.heap.get? b=some u->b∈xV outer->∃z,h2.get? b=some {u with slots:=z}:=fun b u q n=>by
  obtain⟨_,o,ho,hd⟩:=Ar.2.2.1.mem (up b n);rw[q]at ho;cases ho;exact sm b u q hd
 have there:∀b o,s.heap.get? b=some o->∃o1 o2,s1.heap.get? b=some o1/\s'.heap.get? b=some o2:=fun b o q=>by
  obtain⟨o1,e1⟩:=I.base.there b o q (fun z=>nomatch z);obtain⟨o2,e2⟩:=U.there b o1 e1 (fun z=>nomatch z);exact⟨o1,o2,e1,e2⟩
 refine⟨a,t,B,H',rfl,os.trans I.os,bare,⟨fun b o q n hb hx=>?_,fun b o q n hb hx=>?_,fun b o q n hx=>?_,fun b o q hx=>?_,fun c xs q=>U.tups c xs (I.base.tups c xs q),fun c ob xs q=>U.frzs c ob xs (I.base.frzs c ob xs q),fun c ps q=>?_⟩,fun b o e=>?_,Dl,fun b u q hb n=>?_,hW⟩
 ·have e1:=I.base.keep b o q n hb hx;have nb:=nl b o q hb;exact k b o (U.keep b o e1 (I.base.free b o q n hx) nb (fun z=>nomatch z)) (.inr ⟨o,e1⟩) nb
 ·obtain⟨z,e1⟩:=I.base.slot b o q n hb hx;obtain⟨z2,e2⟩:=U.slot b _ e1 (I.base.free b o q n hx) (up b hb) (fun z=>nomatch z);obtain⟨z3,e3⟩:=sl b _ e2 hb;exact⟨z3,e3⟩
 ·obtain⟨o1,e1⟩:=I.base.there b o q hx;exact U.free b o1 e1 (I.base.free b o q n hx) (fun z=>nomatch z)
 ·obtain⟨o1,o2,e1,e2⟩:=there b o q;by_cases hb:b∈xV outer
  ·obtain⟨z,e3⟩:=sl b o2 e2 hb;exact⟨_,e3⟩
  ·exact⟨o2,k b o2 e2 (.inr ⟨o1,e1⟩) (nl b o q hb)⟩
 ·obtain⟨m1,e1⟩:=I.base.tbls c ps q;obtain⟨m2,e2⟩:=U.tbls c _ e1;exact⟨m1++m2,by rw[e2,Ip]⟩
 ·refine(hok b o e).stay (fun c u hc q=>?_) (fun _ q=>q) fun _ _ q=>q
  have hn:H' c≠none:=by
   rcases hc with rfl|hc
   ·rw[e];exact fun z=>nomatch z
   ·rw[hc];exact fun z=>nomatch z
  exact k c u q (.inl hn) (nt c hn)
 ·have h1:∃u0,s'.heap.get? b=some u0/\(H' b≠none\/∃o,s1.heap.get? b=some o)/\b∉xV (envOfC qual scope s.heap.objs.size f cd::outer):=by
   rcases hb with hb|⟨o,ho⟩
   ·cases hq:H' b with
    |none=>exact absurd hq hb
    |some ho=>
     obtain⟨u0,e0⟩:=ook_get (hok b ho hq);exact⟨u0,e0,.inl (fun z=>nomatch z),nt b hb⟩
   ·obtain⟨o1,o2,e1,e2⟩:=there b o ho;exact⟨o2,e2,.inr ⟨o1,e1⟩,nl b o ho n⟩
  obtain⟨u0,e0,hh,n0⟩:=h1;have:=k b u0 e0 hh n0;rw[show h2.get? b=some u from q]at this;cases this;exact hB b _ e0 hh n0
section
variable{X:Cx}{x y:Str}{p pos pos' xC:Pos}{e:Expr}{es:List Expr}{C:Addr}{F:List D->Bool}{fs:yc}{k:Nat}{rest:List Stmt}{Ww:Hp->Prop}
def fF(F:List D->Bool)(fs:yc):FB:=fun env=>match fs env with
 | .ok (os,e)=>(match dC e os with
  | .ok ds=>F ds
  |_=>false)
 |_=>false
theorem gB(c:CtX X.prog X.w X.K X.mg X.base x k C (spX X.K C F))(acc:∀pr σ e s',XP X pr σ C Ww e s'->X.xe e s')(hr:Room k X.A)(hg:Gl X x)(ha:AL X.nox (e::es) fs)(hs:swapsWith (.Call (.Name x p) (e::es) [] xC) (some (.Name y pos')) pos.line X.env=pure false:=by rfl)(xX:(x==("__debug__" : Str))=false:=by decide)
  (he:starEach (e::es) X.env=(false,eval e X.env)::starEach es X.env:=by rfl) (xZ:(backTo xC (starEach es X.env)).any (·.1)=false:=by rfl):
  QX X (.Assign [.Name y pos'] (.Call (.Name x p) (e::es) [] xC) pos::rest) (fF F fs) Ww:=fun pr s σ H I xi=>by
 obtain⟨G,env,fp,rel,ee,kk⟩:=xi;refine F4 (wpAny_Assign_Name (FW (i0 c hr hg ha xX he xZ pr s σ H Ww I ?_) (fun _ _ z=>z.elim) fun v s' z=>acc pr σ v s' z) hs);unfold fF at ee;match q:fs env,ee with
 | .ok (os,e1),ee=>
  dsimp only at ee;match q2:dC e1 os,ee with
  | .ok ds,ee=>
   dsimp only at ee;refine⟨G,env,fp,os,e1,rel,q,fun vs H1 G1 xk xm wM zb=>?_⟩;obtain⟨G2,Bv,AX,zA,_,yM⟩:=wM.lend;refine⟨G2,ds,AX,dD Bv zA zb q2,ee,fun H' G' wV st xw=>?_⟩;obtain⟨k1,_⟩:=yM H' G' [] (.f,.non) .non (st.trans (Step.cut fun _ h=>nomatch h)) (xw.push eQ);obtain⟨G3,zy,x3,xN⟩:=k1 rfl;exact kk H' G3 zy (xm.trans x3) xN.nilF
end
section
variable{X:Cx}{a:Addr}{i j jc:Nat}{x1 x2:BExp}{e1 e2 vc:Expr}{n nc:Str}{pos pos1 Ag pos' pos'' bp p:Pos}
end
section
variable{md:Mode}{X:Cx}{x:Str}{pos:Pos}{C:Addr}{xe:FXE}
end
def dg(i:Int):List Nat:=(Str.ofString (toString i)).cps.toList
theorem ub(i:Int):S (dg i)=Str.ofString (toString i):=by
 apply Str.ext';unfold dg;simp[S]
theorem dg_len{i:Int}(h:i.natAbs.log2<1920):(dg i).length<=sizeLine:=by
 have h2:(Str.ofString (toString i)).length<=sizeLine:=int_text_fits h;rw[<-ub,di]at h2;exact h2
def ri:List D->Res R
 |[.int i]=>if i.natAbs.log2<1920 then .ok (.f,.str (dg i)) else .bad
 |_=>.bad
section
variable{X:Cx}
theorem rj:eH X (.type "str") (rC X.K ri):=by
 rintro pr s σ H xs us Q I rx ⟨G,fp,es,vs,ds,r,⟨rel,k⟩,vd,e⟩;unfold ri at e;split at e
 ·rename_i i;split at e
  ·rename_i hl;cases e;obtain⟨v,ev,v1⟩:=pC vd;subst ev;cases a3 v1;obtain⟨u,rfl,t,rfl⟩:=jY rx;exact PySem.P.str_of_int hl ⟨.str (S (dg i)),H,I.tok _,⟨_,by rw[ub]⟩,k _ H G fp .refl (rel.push (cb (dg_len hl)))⟩
  ·cases e
 ·cases e
def vY(f:FX):FX:=fun env=>(f env).bind fun p=>match p.1.2 with
 | .int i=>if i.natAbs.log2<1920 then .ok ((.f,.str (dg i)),p.2) else .bad
 | .str l=>.ok ((.f,.str l),p.2)
 |_=>.bad
theorem uZ{v:Expr}{f:FX}{pos:Pos}(h:QE X v f):QE X (.FormattedValue v (-1) none pos) (vY f):=fun pr s σ H Q I xi=>by
 obtain⟨G,env,fp,r,env',rel,e,k⟩:=xi;obtain⟨⟨r1,wJ⟩,e1,e⟩:=ag e;refine FormattedValue_plain (xt (h pr s σ H (fun x H1=>∃G1 xk,Step G H fp G1 H1 xk/\Rel X.K G1 H1 (some r1::wJ) (some x::σ) xk) I ⟨G,env,fp,r1,wJ,rel,e1,fun v H1 G1 xk xm wM=>⟨G1,xk,xm,wM⟩⟩) fun u s1 xu=>?_);obtain⟨x,H1,I1,rx,G1,xk,xm,wM⟩:=xu;obtain⟨b,wU,xl⟩:=wM.drop;have rt:=wM.top;dsimp only at e;split at e
 ·rename_i i hi;split at e
  ·rename_i hl;cases e;rw[hi]at rt;cases aT rt;obtain⟨t,rfl⟩:=rx;exact wpAny_formatField_int hl ⟨.str (S (dg i)),H1,I1.tok _,⟨_,by rw[ub]⟩,k _ H1 G1 b (xm.trans xl) (wU.push (cb (dg_len hl)))⟩
  ·cases e
 ·rename_i l hi;cases e;rw[hi]at rt;obtain⟨ex,hz⟩:=aK rt;subst ex;obtain⟨t,rfl⟩:=rx;exact formatField_str (fun t' tk=>⟨.str (S l),H1,I1.tok _,⟨_,rfl⟩,k _ H1 G1 b (xm.trans xl) (wU.push (cb hz))⟩) (by rw[di];exact hz)
 ·cases e
def QJ(X:Cx)(es:List Expr)(fs:FDs):Prop:=∀(acc:List Nat) (pr:List (Addr×Obj)) (s:Shared) (σ:L2.St) (H:Hp) (Q:VK),Inv X pr σ H s->
 (∃G env fp ds env' ls,Rel X.K G H env σ fp/\fs env=.ok (ds,env')/\cv ds=some ls/\(acc++ls.flatten).length<=sizeLine/\∀H' G' wV,Step G H fp G' H' wV->Rel X.K G' H' env' σ wV->Q (.str (S (acc++ls.flatten))) H')->
 wpAny (model X.prog X.w) X.A (joinParts (S acc) (evalEach es X.env)) (EP X pr σ Q) X.xe s
theorem rl:QJ X [] eR:=fun acc pr s σ H Q I xi=>by
 obtain⟨G,env,fp,ds,env',ls,rel,e,hs,hl,k⟩:=xi;cases e;cases hs;rw[List.flatten_nil,FJ]at hl k;exact joinParts_nil ⟨.str (S acc),H,I.tok _,⟨_,rfl⟩,k H G fp .refl rel⟩ (by rw[di];exact hl)
theorem kY{e:Expr}{es:List Expr}{f:FX}{g:FDs}(h:QE X e f)(hs:QJ X es g)(he:evalEach (e::es) X.env=eval e X.env::evalEach es X.env:=by rfl):QJ X (e::es) (bJ f g):=fun acc pr s σ H Q I xi=>by
 obtain⟨G,env,fp,ds,env',ls,rel,e0,Cz,hl,k⟩:=xi;obtain⟨⟨r1,wJ⟩,e1,e0⟩:=ag e0;obtain⟨⟨ds1,xo⟩,e2,e0⟩:=ag e0;cases e0;rw[he];refine joinParts_cons (xt (h pr s σ H (fun x H1=>∃G1 xk,Step G H fp G1 H1 xk/\Rel X.K G1 H1 (some r1::wJ) (some x::σ) xk) I ⟨G,env,fp,r1,wJ,rel,e1,fun v H1 G1 xk xm wM=>⟨G1,xk,xm,wM⟩⟩) fun u s1 xu=>?_);obtain⟨x,H1,I1,rx,G1,xk,xm,wM⟩:=xu;obtain⟨b,wU,xl⟩:=wM.drop;have rt:=wM.top;dsimp only at Cz;obtain⟨o1,d1⟩:=r1;cases d1 with
 |str l=>
  rw[cv,Gv]at Cz;obtain⟨ls1,Ew,rfl⟩:=Cz;obtain⟨ex,hz⟩:=aK rt;subst ex;obtain⟨t,rfl⟩:=rx;rw[GR,<-FD]at hl k;show(S acc++S l).length<=sizeLine/\wpAny _ _ (joinParts (S acc++S l) _) _ _ _;rw[qj];refine⟨?_,hs (acc++l) pr s1 σ H1 Q I1 ⟨G1,wJ,b,ds1,xo,ls1,wU,e2,Ew,hl,fun H' G' wV st xw=>k H' G' wV (xm.trans (xl.trans st)) xw⟩⟩;rw[di];rw[FU]at hl;lia
 |_=>cases Cz
def oE(fs:FDs):FX:=fun env=>(fs env).bind fun p=>match cv p.1 with
 |some ls=>if ls.flatten.length<=sizeLine then .ok ((.f,.str ls.flatten),p.2) else .bad
 |none=>.bad
theorem oF{a b:Expr}{es:List Expr}{fs:FDs}{pos:Pos}(h:QJ X (a::b::es) fs):QE X (.JoinedStr (a::b::es) pos) (oE fs):=fun pr s σ H Q I xi=>by
 obtain⟨G,env,fp,r,env',rel,e,k⟩:=xi;obtain⟨⟨ds,wJ⟩,e1,e⟩:=ag e;dsimp only at e;split at e
 ·rename_i ls hls;split at e
  ·rename_i hl;cases e;exact JoinedStr_many (h [] pr s σ H Q I ⟨G,env,fp,ds,_,ls,rel,e1,hls,hl,fun H' G' wV st xw=>k _ H' G' wV st (xw.push (cb hl))⟩)
  ·cases e
 ·cases e
end
section
variable{K:W.Frag}{G H:Hp}
theorem Rel.newO1{c:O}{d1:D}{v1:V}{es:PV.Env}{vs:L2.St}{t:Addr}{fp:List Addr}(q:Rel K G H (some (c,d1)::es) (some v1::vs) fp)(ht:H t=none):
  Rel K G (upd H t (.lst [v1])) (some (.l c,.lst [d1])::es) (some (.ref t)::vs) (t::fp)/\Step G H fp G (upd H t (.lst [v1])) (t::fp):=by
 have gt:G t=none:=by
  cases e:G t with
  |none=>rfl
  |some o=>rw[q.gh t o e]at ht;cases ht
 have nt:t∉fp:=fun z=>by
  obtain⟨u,e⟩:=q.rep.live t z;rw[ht]at e;cases e
 have sh:Same H (upd H t (.lst [v1])):=fun b o e=>by rw[av (aP e ht)];exact e
 obtain⟨y,ys,e,v',a,b,e1,e2,r1,r2⟩:=q.rep;cases e;cases e1;subst e2;have out:∀z∈a++b,upd H t (.lst [v1]) z=H z:=fun z hz=>av fun e=>nt (e▸hz)
 refine⟨⟨⟨some (.ref t),vs,rfl,.ref t,t::a,b,rfl,rfl,?_,r2.step (.refl _) fun z hz=>out z (Fo _ hz)⟩,Gq.mpr ⟨nt,q.nd⟩,fun z hz=>?_,fun b o e=>sh b o (q.gh b o e)⟩,
  ⟨.refl _,fun b o e _=>sh b o e,fun b hb=>?_,fun b o e=>.inl e,fun b o e=>⟨o,sh b o e⟩⟩⟩
 ·show RepO K G _ (.l c) (.lst [d1]) (.ref t) _;rw[RepO];exact⟨t,[v1],a,rfl,a9,rfl,v1,[],a,[],rfl,(FJ _).symm,RepO.step (.refl _) (fun z hz=>out z (Fz _ hz)) r1,rfl,rfl⟩
 ·rcases FK.mp hz with rfl|hz
  ·exact gt
  ·exact q.gn z hz
 ·rcases FK.mp hb with rfl|hb
  ·exact .inr ht
  ·exact .inl hb
end
section
variable{X:Cx}{pos:Pos}
def oG(f:FX):FX:=fun env=>(f env).bind fun p=>match p.1.1 with
 | .l .f=>.ok ((.l (.l .f),.lst [p.1.2]),p.2)
 |_=>.bad
theorem oH{a:Expr}{fa:FX}(ha:QE X a fa)(h1:starEach [a] X.env=(false,eval a X.env)::starEach [] X.env:=by rfl):QE X (.List [a] pos) (oG fa):=
 aW (mS (bK ha dZ h1)) fun σ H Q xi=>by
  obtain⟨G,env,fp,r,env',rel,e,k⟩:=xi;obtain⟨⟨⟨o1,d1⟩,wJ⟩,e1,e⟩:=ag e;dsimp only at e;split at e
  ·cases e;refine⟨G,env,fp,_,_,rel,e1,fun v H1 G1 xk xm wM=>⟨by rw[line_eq];exact(by decide:1<=16777216),fun t ht=>?_⟩⟩;obtain⟨yU,zj⟩:=wM.newO1 ht;exact k _ _ G1 _ (xm.trans zj) yU
  ·cases e
end
end PV
namespace NX
namespace ST
end ST
end NX
namespace PV
open PySem PySem.Spec PyProof.Rows L2 NX
section
variable{X:Cx}{e:Expr}{fs:yc}{p p2 pos Ag:Pos}
end
section
variable{X:Cx}{e:Expr}{fs:yc}{p p2 pos Ag:Pos}
end
def xOf(xe:FXE):FB:=fun env=>(xe env).isSome
section
variable{X:Cx}{rest:List Stmt}{xe:FXE}{e a b:Expr}{C:Addr}{pos p:Pos}{Ww:Hp->Prop}
theorem kZ{σ:L2.St}{H:Hp}(h:tX X.K (xOf xe) Ww σ H):tQX X.K xe σ H Ww:=by
 obtain⟨G,env,fp,rel,e,k⟩:=h;obtain⟨env',e'⟩:=GZ.mp e;exact⟨G,env,fp,env',rel,e',fun H' G' wV st r=>k H' G' wV st r.nilF⟩
end
section
variable{X:Cx}{a:Addr}{i j:Nat}{e:Expr}{es:List Expr}{x:BExp}{xs:List BExp}{pos p q lpos:Pos}{n:Str}
theorem Ext.keep{H H':Hp}{z:Addr}{u:HO}(e:Ext H H')(h:H z=some u):H' z=some u:=by
 induction e with
 |refl=>exact h
 |new _ hp ih=>
  rw[av (fun q=>by rw[q,hp]at ih;cases ih)];exact ih
end
section
variable{md:Mode}{X:Cx}{x:Str}{pos:Pos}{C:Addr}{xe:FXE}
end
end PV
namespace NX
open PySem PySem.Spec PyProof.Rows L2
section
variable{X:Cx}{rest a:List Stmt}{tx ta tb:TX}{tc:TT}{e ct:Expr}{C:Addr}{pos p:Pos}{Ww:Hp->Prop}
theorem oI(acc:∀pr σ e s',XP X pr σ C Ww e s'->X.xe e s')(h:BI X e C tx)(hs:swapsWith e none pos.line X.env=pure false:=by rfl):PX X (.Expr e pos::rest) (fun σ H=>tx σ H Ww):=fun pr s σ H I z=>
 F4 (Ia (FW (h pr s σ H Ww I z) (fun _ _ z=>z.elim) fun v s' z=>acc pr σ v s' z) I.quiet hs)
end
end NX
namespace PV
open PySem PySem.Spec PyProof.Rows L2 NX
section
variable{md:Mode}{X:Cx}{x:Str}{pos:Pos}{C:Addr}{xe:FXE}{rest a:List Stmt}{e ct:Expr}{Ww:Hp->Prop}
theorem oJ(acc:∀pr σ e s',XP X pr σ C Ww e s'->X.xe e s')(h:DV X e C xe)(hs:swapsWith e none pos.line X.env=pure false:=by rfl):QX X (.Expr e pos::rest) (xOf xe) Ww:=eN (oI acc h hs) fun _ _ z=>kZ z
theorem iG{st:List Stmt}:Ak (md:=md) X st cQ:=fun pr s σ H D I ⟨G,env,fp,rel,kk⟩=>kk.elim
end
end PV
namespace NX
open PySem PySem.Spec PyProof.Rows L2
def Dm(X:Cx)(e:Expr)(t:L2.St->Hp->Prop):Prop:=∀(pr:List (Addr×Obj)) (s:Shared) (σ:L2.St) (H:Hp),Inv X pr σ H s->t σ H->wpAny (model X.prog X.w) X.A (isTrue e X.env (eval e X.env)) (fun _ _=>False) X.xe s
def PWX(X:Cx)(e:Expr)(t:L2.St->Hp->Prop):Prop:=∀(whole:Sem Value) (pr:List (Addr×Obj)) (s:Shared) (σ:L2.St) (H:Hp),Inv X pr σ H s->t σ H->wpAny (model X.prog X.w) X.A (isTrue e X.env whole) (fun _ _=>False) X.xe s
section
variable{X:Cx}{rest body:List Stmt}{tx:TX}{tc:TT}{tb:TS}{u ux:L2.St->Hp->Prop}{e a b c:Expr}{es:List Expr}{C:Addr}{pos p:Pos}{Ww:Hp->Prop}
theorem PWX.pt(h:PWX X e u):Dm X e u:=h _
theorem mn(ha:Dm X a u):PWX X (.BoolOp .And [a] pos) u:=fun wh pr s σ H I h=>isTrue_and (FW (ha pr s σ H I h) (fun _ _ z=>z.elim) fun _ _ z=>z)
theorem oK(ha:PT X a tc)(hb:PWX X (.BoolOp .And (b::es) pos) u):PWX X (.BoolOp .And (a::b::es) pos) (fun σ H=>tc σ H fun d H1=>d=true/\u σ H1):=by
 intro wh pr s σ H I h;refine isTrue_and (xt (ha pr s σ H _ I h) fun d s1 xu=>?_);obtain⟨H1,I1,e,q⟩:=xu;subst e;exact hb wh pr s1 σ H1 I1 q
theorem oM{op:CmpOp}(acc:∀pr σ e s',XP X pr σ C Ww e s'->X.xe e s')(h:BI X a C tx)(hm:behindInMarks op b=false:=by with_unfolding_all rfl):Dm X (.Compare a [op] [b] pos) (fun σ H=>tx σ H Ww):=fun pr s σ H I z=>
 He (FW (h pr s σ H Ww I z) (fun _ _ z=>z.elim) fun v s' z=>acc pr σ v s' z) hm
theorem rm{tg:Expr}(acc:∀pr σ e s',XP X pr σ C Ww e s'->X.xe e s')(h:BI X e C tx)(hs:∀x,foldedSetIterable e X.env x=pure x:=by intro _;rfl):PX X (.For tg e body [] pos::rest) (fun σ H=>tx σ H Ww):=fun pr s σ H I z=>
 F4 (wpAny_For (FW (h pr s σ H Ww I z) (fun _ _ z=>z.elim) fun v s' z=>acc pr σ v s' z) hs)
theorem mq(hp:PassesOwn (model X.prog X.w) X.A X.env X.xe)(Ex:Dm X c u)(hc:PT X c tc)(Ey:PX X body ux)(hb:PSs X body tb):
  PX X (.While c body [] pos::rest) (fun σ H=>∃W:Nat->L2.St->Hp->Prop,(∃m,W m σ H)/\∀m σ H,W m σ H->u σ H\/tc σ H fun d H1=>d=true/\(ux σ H1\/∃N:L2.St->Hp->Prop,(∀σ' H',N σ' H'->∃m',m'<m/\W m' σ' H')/\tb {nx:=N,rt:=fun _ _=>False} σ H1)):=by
 rintro pr s σ H I ⟨W,⟨m0,w0⟩,turn⟩;refine F4 (FW (Q:=fun _ _=>False) (wpAny_While (codeAny_whileLoop (fun n s'=>∃σ' H',Inv X pr σ' H' s'/\W n σ' H') ?_ m0 ⟨σ,H,I,w0⟩)) (fun _ _ z=>z.elim) fun _ _ z=>z);rintro n s1 ⟨σ1,H1,I1,w1⟩;rcases turn n σ1 H1 w1 with q|q
 ·exact F9 hp (FW (Ex pr s1 σ1 H1 I1 q) (fun _ _ z=>z.elim) fun _ _ z=>z)
 ·refine F9 hp (xt (hc pr s1 σ1 H1 _ I1 q) fun d s2 xu=>?_);obtain⟨H2,I2,e,q2⟩:=xu;subst e;rw[FY rfl];rcases q2 with q2|⟨N,hN,q2⟩
  ·exact F9 hp (FW (Ey pr s2 σ1 H2 I2 q2) (fun _ _ z=>z.elim) fun _ _ z=>z)
  ·refine F9 hp (xt (hb pr s2 σ1 H2 _ I2 q2) fun f s3 q3=>?_);cases f with
   |next=>
    obtain⟨σ3,H3,I3,n3⟩:=q3;obtain⟨m',hm,w3⟩:=hN σ3 H3 n3;exact⟨m',hm,σ3,H3,I3,w3⟩
   |cont=>obtain⟨_,_,_,z⟩:=q3;exact z.elim
   |brk=>obtain⟨_,_,_,z⟩:=q3;exact z.elim
   |ret v=>obtain⟨_,_,_,_,_,z⟩:=q3;exact z.elim
end
end NX
namespace PV
open PySem PySem.Spec PyProof.Rows L2 NX
def DW(X:Cx)(e:Expr)(x:FB)(Ww:Hp->Prop):Prop:=Dm X e (tX X.K x Ww)
def Ez(X:Cx)(e:Expr)(x:FB)(Ww:Hp->Prop):Prop:=PWX X e (tX X.K x Ww)
def bV(cx:FB)(c:FT)(bx:FB)(g:FS):Nat->FB
 | 0,_=>false
 |n+1,env=>cx env||match c env with
  | .ok (true,e1)=>bx e1||match g e1 with
   | .ok (.nx e2)=>bV cx c bx g n e2
   |_=>false
  |_=>false
section
variable{X:Cx}{rest body:List Stmt}{xe:FXE}{x cx bx:FB}{c:FT}{g:FS}{e a b ct:Expr}{es:List Expr}{C:Addr}{pos p:Pos}{Ww:Hp->Prop}
theorem mr(h:DW X a x Ww):Ez X (.BoolOp .And [a] pos) x Ww:=mn h
theorem oN(ha:QT X.nox a c)(hb:Ez X (.BoolOp .And (b::es) pos) x Ww):Ez X (.BoolOp .And (a::b::es) pos) (Ac c x) Ww:=fun wh pr s σ H I ⟨G,env,fp,rel,e,k⟩=>oK (PT.nox ha) hb wh pr s σ H I (by
 unfold Ac at e;match q:c env,e with
 | .ok (true,wJ),e=>exact⟨G,env,fp,true,wJ,rel,q,fun H1 G1 xk xm wM=>⟨rfl,G1,wJ,xk,wM,e,fun H' G' wV st r=>k H' G' wV (xm.trans st) r⟩⟩)
theorem oO{op:CmpOp}(acc:∀pr σ e s',XP X pr σ C Ww e s'->X.xe e s')(h:DV X a C xe)(hm:behindInMarks op b=false:=by with_unfolding_all rfl):DW X (.Compare a [op] [b] pos) (xOf xe) Ww:=fun pr s σ H I z=>oM acc h hm pr s σ H I (kZ z)
theorem rq{tg:Expr}(acc:∀pr σ e s',XP X pr σ C Ww e s'->X.xe e s')(h:DV X e C xe)(hs:∀x,foldedSetIterable e X.env x=pure x:=by intro _;rfl):QX X (.For tg e body [] pos::rest) (xOf xe) Ww:=eN (rm acc h hs) fun _ _ z=>kZ z
theorem jk(n:Nat)(hp:PassesOwn (model X.prog X.w) X.A X.env X.xe)(Ex:DW X ct cx Ww)(hc:QT X.nox ct c)(Ey:QX X body bx Ww)(hb:Ak (md:=.plain) X.nox body g):QX X (.While ct body [] pos::rest) (bV cx c bx g n) Ww:=
 eN (mq hp Ex (PT.nox hc) Ey (PSs.nox hb)) fun σ H xi=>by
  obtain⟨G,env,fp,rel,e,k⟩:=xi;refine⟨fun m σ' H'=>tX X.K (bV cx c bx g m) Ww σ' H',⟨n,G,env,fp,rel,e,k⟩,?_⟩;rintro m σ1 H1 ⟨G1,wJ,xk,wM,e1,k1⟩;cases m with
  |zero=>cases e1
  |succ m=>
   unfold bV at e1;rcases(FZ _ _).mp e1 with e1|e1
   ·exact .inl ⟨G1,wJ,xk,wM,e1,k1⟩
   ·match q:c wJ,e1 with
    | .ok (true,xo),e1=>
     dsimp only at e1;refine .inr ⟨G1,wJ,xk,true,xo,wM,q,fun H2 G2 xR xl wU=>⟨rfl,?_⟩⟩;rcases(FZ _ _).mp e1 with e1|e1
     ·exact .inl ⟨G2,xo,xR,wU,e1,fun H' G' wV st r=>k1 H' G' wV (xl.trans st) r⟩
     ·match q2:g xo,e1 with
      | .ok (.nx e),e1=>
       refine .inr ⟨fun σ' H'=>tX X.K (bV cx c bx g m) Ww σ' H',fun σ' H' z=>⟨m,GH _,z⟩,G2,xo,xR,wU,?_⟩;rw[q2];exact fun σ' H' G' wV st rel=>⟨G',e,wV,rel,e1,fun H' G' wV z8 r=>k1 H' G' wV (xl.trans (st.trans z8)) r⟩
end
end PV
namespace NX
open PySem PySem.Spec PyProof.Rows L2
abbrev pF(X:Cx)(a:Addr)(o:Obj):Cx:={X with pn:=(a,o)::X.pn}
section
variable{X:Cx}{pr:List (Addr×Obj)}{σ:L2.St}{H:Hp}{s:Shared}{a:Addr}{o:Obj}
theorem oP(ok:X.Ok)(I:Inv (asX X a o) pr σ H s):Inv (pF X a o) pr σ H s:=
 ⟨⟨ok.mod,ok.kind,ok.glob,ok.blt,ok.above,ok.inj,ok.has,ok.cab,ok.hd,ok.frames,ok.stk,ok.exf,ok.bs,ok.bsz,ok.noex,ok.exfs,ok.funs,ok.frf⟩,I.os,I.bare,I.base,I.loc,I.cell,I.free,I.freeC,I.pin,I.hok,I.len⟩
theorem dJ(ok:X.Ok)(I:Inv (pF X a o) pr σ H s):Inv X pr σ H s:=⟨ok,I.os,I.bare,I.base,I.loc,I.cell,I.free,I.freeC,fun p hp=>I.pin p (Ft _ hp),I.hok,I.len⟩
end
theorem pss_keep{X:Cx}{body rest:List Stmt}{x n y:Str}{i j:Nat}{C P:Addr}{np AY pos p1 p2 p3:Pos}{tx:TX}{tr:Addr->TS}(O:XCl X.mg X.base x P)(up:PySem.W.mroIn X.K C (.ref P)=some true)(hg:Gl X x)(hx:PSX X body C tx)
  (hr:∀a o vs,o.cls=.ref C->o.data=.fields vs->PSs (pF X a o) rest (tr a)) (hN:X.N.Nodup) (hi:X.N[i]?=some n) (hl:X.env.kindOf n=some .local) (Dn:X.env.scope.names.lookup n=some .local) (hj:X.N[j]?=some y) (hy:X.env.scope.names.lookup y=some .local)
  (hd:(n==("__debug__" : Str))=false:=by decide) (zP:(n==("__classdict__" : Str))=false:=by decide) (BH:swapsWith (.Name n p2) (some (.Name y p1)) p3.line X.env=pure false:=by rfl)
  (hs:X.stack=X.env::X.outer:=by rfl) (hf:X.env.frame=some X.env.locals:=by rfl) (xX:(x==("__debug__" : Str))=false:=by decide):
  PSs X (.Try body [.ExceptHandler (some (.Name x np)) (some n) [.Assign [.Name y p1] (.Name n p2) p3] AY] [] [] pos::rest) (fun D σ H=>tx σ H fun H'=>∀a,tr a D (((σ.set i (some (.ref a))).set j (some (.ref a))).set i none) H'):=by
 intro pr s σ H D I h;refine F4 (wpAny_Try_except (FW (hx pr s σ H _ I h) (fun _ _ z=>z.elim) fun e s1 z=>?_));obtain⟨s0,H1,I1,a,tt,B,H',rfl,AQ,hgen,un,hok,Ar,DX,hW⟩:=z;have nt:∀b,H' b≠none->b∉xV X.stack:=fun b n z=>by
  obtain⟨_,o,ho,_⟩:=I1.stack.mem z;exact n (un.free b o ho (I1.stkFree b z) fun z=>nomatch z)
 have key:∀h6:Heap,Heap.FlyingW B X.stack a (.ref C) (.ref tt) h6->s1.heap.UpToSlots h6->Inv X pr σ H' {s1 with heap:=h6}:=fun h6 f6 sm=>by
  have sl:∀b u,s1.heap.get? b=some u->b∈xV X.stack->∃z,h6.get? b=some {u with slots:=z}:=fun b u q n=>by
   obtain⟨_,o,ho,hd⟩:=Ar.2.2.1.mem n;rw[q]at ho;cases ho;exact sm b u q hd
  refine I1.call' (ch:=[]) AQ ⟨fun b o q n hb hx=>?_,fun b o q n hb hx=>?_,un.free,fun b o q hx=>?_,un.tups,un.frzs,un.tbls⟩ (fun b o e=>?_) hgen fun b z=>nomatch z
  ·have:=un.keep b o q n hb hx;exact f6.1 b o (DX b o this (.inr ⟨o,q⟩) hb)
  ·obtain⟨z,e⟩:=un.slot b o q n hb hx;obtain⟨z',e'⟩:=sl b _ e hb;exact⟨z',e'⟩
  ·obtain⟨o',e⟩:=un.there b o q hx;by_cases hb:b∈xV X.stack
   ·obtain⟨z,e'⟩:=sl b o' e hb;exact⟨_,e'⟩
   ·exact⟨o',f6.1 b o' (DX b o' e (.inr ⟨o,q⟩) hb)⟩
  ·refine(hok b o e).stay (fun c u hc q=>?_) (fun _ q=>q) fun _ _ q=>q
   have hc:H' c≠none:=by
    rcases hc with rfl|hc
    ·rw[e];exact fun z=>nomatch z
    ·rw[hc];exact fun z=>nomatch z
   exact f6.1 c u (DX c u q (.inl hc) (nt c hc))
 have EA:a∉xV X.stack:=fun z=>by
  obtain⟨_,o,ho,hd⟩:=Ar.2.2.1.mem z;obtain⟨_,_,_,oe,vs,T,oT,ts,he,_,hv,_⟩:=Ar;rw[he]at ho;cases ho;exact hd vs hv
 have naH:H' a=none:=by
  cases hq:H' a with
  |none=>rfl
  |some u=>
   exfalso;obtain⟨ob,e⟩:=ook_get (hok a u hq);have:=DX a ob e (.inl (by rw[hq];exact fun z=>nomatch z)) EA;rw[Ar.2.1]at this;cases this
 have naL:a≠X.env.locals:=fun z=>EA (by
  unfold xV;rw[hs,GC,hf,z];exact Fm)
 have naF:a∉X.fs:=fun z=>EA (by
  have z:a∈X.outer.filterMap (·.frame):=z;unfold xV;rw[hs,GC,hf];exact Ft _ z)
 have fl:Heap.FlyingW B (X.env::X.outer) a (.ref C) (.ref tt) s1.heap:=by rw[<-hs];exact Ar
 refine wpAny_looks_onW (by rw[<-hs];exact I1.ok.frames) hf fl fun h4 Dp sm4=>?_
 refine wpAny_landsW Dp fun h5 BZ sm5=>?_
 have Dq:=sm4.trans sm5;have I5:=lV (key h5 (by rw[hs];exact BZ) Dq) a;obtain⟨ob,BM,hobc⟩:=BZ.there;refine wpAny_handleBy_cons (codeAny_handlers_test (eG I5 hg (show(handX X a).mg x=some (.ref P) from by obtain⟨_,_,_,_,_,O⟩:=O;exact O.bound) ?_ xX)) (by intro q;cases q);obtain⟨_,_,_,bm,FB,O⟩:=O;obtain⟨tl,N,nm,q,bs,hdct,sn,sub,ab,col,dd,k0,k1,k2,k3,k5,mN,hC,hNN,EY,T⟩:=O.obj;refine lY I5.kIn up (I5.bk _ _ hC) BM hobc (T.hasType FB.hasBase) (codeAny_handlers_suite_as ?_);refine lands_againW BZ fun h6 Dr sm6=>?_
 have I6:=key h6 (by rw[hs];exact Dr) (Dq.trans sm6);obtain⟨_,_,_,oe,vs,_,_,_,he,Eh,hv,_⟩:=id Dr;have I7:=qy (a:=a) (o:=oe) I6 he naH naL naF fun v z=>by rw[hv]at z;cases z
 have Er:i<σ.length:=by rw[I.len];exact(FE.mp hi).1
 refine gf (X:=asX X a oe) (x:=n) (i:=i) (v:=.ref a) I7 hN hi (.inl Dn) rfl (fun s2 I2=>?_) (.inr Dn);have Ds:PSs (asX X a oe) [.Assign [.Name y p1] (.Name n p2) p3] _:=eA (jS (X:=asX X a oe) (i:=j) hN hj (.inl hy) (mJ (X:=asX X a oe) hi (.inl Dn) hd zP) BH (.inr hy)) iw;refine FW (Ds pr s2 _ H' {nx:=fun σ' zY=>σ'=(σ.set i (some (.ref a))).set j (some (.ref a))/\zY=H',rt:=fun _ _=>False} I2 ⟨.ref a,Gk Er,rfl,rfl⟩) (fun f s3 q=>?_) fun _ _ z=>z.elim
 have go:∀{σ':L2.St}{zY:Hp},Inv (asX X a oe) pr σ' zY s3->∀{Q:Unit->Shared->Prop}{A':Around}{E':Value->Shared->Prop},(∀s4,Inv (pF X a oe) pr (σ'.set i none) zY s4->Q () s4)->wpAny (model X.prog X.w) A' (do bindName X.env n .none;unbindBehindTheSuite X.env n AY) Q E' s3:=fun{σ' zY} I8 {Q A' E'} kk=>by
  have I9:=oP I6.ok I8;obtain⟨m,hm,_⟩:=id I9.loc;exact wpAny_nameGoes_keeps hl hm (by rw[I9.ok.kind];rfl) fun h' v D2 sb=>kk _ (lX (X:=pF X a oe) I9 hN hi hm D2 sb)
 cases f with
 |next=>
  obtain⟨σ',zY,I8,rfl,rfl⟩:=q;refine go I8 fun s4 I9=>xt (hr a oe vs Eh.1 hv pr s4 _ _ D I9 (hW a)) fun f s5 q=>?_
  cases f with
  |next=>obtain⟨σ',zY,I,q⟩:=q;exact⟨_,_,dJ I6.ok I,q⟩
  |brk=>obtain⟨σ',zY,I,q⟩:=q;exact⟨_,_,dJ I6.ok I,q⟩
  |cont=>obtain⟨σ',zY,I,q⟩:=q;exact⟨_,_,dJ I6.ok I,q⟩
  |ret u=>obtain⟨v,σ',zY,I,r,q⟩:=q;exact⟨v,_,_,dJ I6.ok I,r,q⟩
 |brk=>obtain⟨_,_,_,z⟩:=q;exact z.elim
 |cont=>obtain⟨_,_,_,z⟩:=q;exact z.elim
 |ret u=>obtain⟨_,_,_,_,_,z⟩:=q;exact z.elim
section
variable{X:Cx}{e:Expr}{es:List Expr}{x y:Str}{C:Addr}{k i:Nat}{sp:Sp}{p pos:Pos}
theorem k6{t:TA}(c:CtX X.prog X.w X.K X.mg X.base x k C sp)(hr:Room k X.A)(hv:PE X.nox (.Name y p) (jL i))(ha:PA X.nox (e::es) t)
  (he:starEach (e::es) X.env=(false,eval e X.env)::starEach es X.env:=by rfl) (xZ:(backTo pos (starEach es X.env)).any (·.1)=false:=by rfl):
  BI X (.Call (.Name y p) (e::es) [] pos) C (fun σ H Ww=>∃f,X.mg x=some (.ref f)/\σ[i]?=some (some (.ref f))/\t σ H fun vs H1=>sp vs H1 (fun _ _=>False) fun _ _ H'=>Ww H'):=by
 rintro pr s σ H Ww I ⟨f',m',ef,h⟩;obtain⟨f,fd,ps,F,m,kp,b⟩:=c;rw[m]at m';have ez:f=f':=Value.ref.inj (F6 m');subst ez;refine GJ (FW (hv pr s σ H (fun v H1=>v=.ref f/\H1=H) (I.wish _) ⟨_,ef,rfl,rfl⟩) (fun u s0 ⟨v,H0,I0,r0,e1,e2⟩=>?_) fun _ _ z=>z.elim);subst e1 e2;cases(show u=Value.ref f from r0);have I0:=I0.unwish;refine Hs (h₀:=X.base) I0.ok.mod.kin kp (FW (ha pos pr s0 σ H0 _ (I0.wish _) h) (fun us s1 ⟨vs,H1,I1,r,q⟩=>⟨I1.kIn,?_⟩) fun _ _ z=>z.elim) he xZ;have I1:=I1.unwish;have hl:us.length=ps.length:=by rw[<-r.length];exact F.len _ _ _ _ q
 have hb:BindsTo s1 fd ⟨us,[]⟩ (ps.zip us):=by
  have:=b s1 us I1.kIn (by rw[FJ];exact hl);rw[FJ]at this;exact this
 refine wpAny_call (Hr (F.run X.A X.stack s1 H1 ⟨us,[]⟩ us vs _ _ hr I1.env0 hb r q) fun r s' hq=>?_);cases r with
 |error e=>exact⟨s1,H1,I1,hq⟩
 |ok fl=>
  cases fl with
  |ret u=>obtain⟨_,_,_,_,_,_,_,z⟩:=hq;exact z.elim
  |next=>exact False.elim hq
  |brk=>exact False.elim hq
  |cont=>exact False.elim hq
end
end NX
namespace PV
open PySem PySem.Spec PyProof.Rows L2 NX
inductive tBT(i:Nat)(a:Addr)(b:Bool)(σ:L2.St)(H:Hp)(Q:Bool->Hp->Prop):Prop
 |mk:σ[i]?=some (some (.ref a))->(∀H',Ext H H'->Q b H')->tBT i a b σ H Q
def BT(X:Cx)(e:Expr)(i:Nat)(a:Addr)(b:Bool):Prop:=PT X e (tBT i a b)
def BW(X:Cx)(e:Expr)(i:Nat)(a:Addr)(b:Bool):Prop:=PW X e (tBT i a b)
section
variable{X:Cx}{a:Addr}{i:Nat}{e d ct:Expr}{es:List Expr}{b c:Bool}{pos:Pos}{rest sb:List Stmt}{t:TS}
theorem bS(h:BE X e i a (.con b))(he:∀whole,isTrue e X.env whole=(do let v <-whole;standAt e.pos;holding [v] (truthy v)):=by intro _;rfl):BT X e i a b:=fN (mL h he) fun σ H Q ⟨hi,k⟩=>⟨[],b,hi,(fun j b z=>by cases z),rfl,fun H' x=>⟨b,rfl,k H' x⟩⟩
theorem fV(h:BT X e i a b):BT X (.UnaryOp .Not e pos) i a (!b):=fN (mO h) fun σ H Q ⟨hi,k⟩=>⟨hi,k⟩
theorem dM(h:BT X e i a b):BW X (.BoolOp .Or [e] pos) i a b:=mM h
theorem dn(h:BT X e i a false)(h2:BW X (.BoolOp .Or (d::es) pos) i a b):BW X (.BoolOp .Or (e::d::es) pos) i a b:=ko (pN h h2) fun σ H Q ⟨hi,k⟩=>⟨hi,fun H1 x1=>iteF ⟨hi,fun H2 x2=>k H2 (x1.trans x2)⟩⟩
theorem mv(h:BW X e i a b):BT X e i a b:=h.pt
theorem gD(h:BT X ct i a false)(hr:PSs X rest (fun D σ H=>σ[i]?=some (some (.ref a))/\∀H',Ext H H'->D.rt (.bl b) H')):PSs X (.If ct sb [] pos::rest) (fun D σ H=>σ[i]?=some (some (.ref a))/\∀H',Ext H H'->D.rt (.bl b) H'):=fun pr s σ H D I ⟨hi,k⟩=>
 F4 (wpAny_If (xt (h pr s σ H (fun b H'=>b=false/\Ext H H') I ⟨hi,fun H' x=>⟨rfl,x⟩⟩) fun d s1 xi=>by
  obtain⟨H1,I1,e,x1⟩:=xi;subst e;exact G9 (hr pr s1 σ H1 D I1 ⟨hi,fun H2 x2=>k H2 (x1.trans x2)⟩)))
theorem k7{v:BExp}(h:BE X e i a v)(hv:BY [] v=some b):PSs X [.Return (some e) pos] (fun D σ H=>σ[i]?=some (some (.ref a))/\∀H',Ext H H'->D.rt (.bl b) H'):=gq (eA (mP h) iw) fun D σ H ⟨hi,k⟩=>⟨[],b,hi,(fun j b z=>by cases z),hv,k⟩
end
section
variable{X:Cx}
def rp(l:List Nat):List Nat:=(reprText (S l)).cps.toList
def oQ(f:FX):FX:=fun env=>(f env).bind fun p=>match p.1.2 with
 | .str l=>if(rp l).length<=sizeLine then .ok ((.f,.str (rp l)),p.2) else .bad
 |_=>.bad
theorem oR{v:Expr}{f:FX}{pos:Pos}(h:QE X v f):QE X (.FormattedValue v 114 none pos) (oQ f):=fun pr s σ H Q I xi=>by
 obtain⟨G,env,fp,r,env',rel,e,k⟩:=xi;obtain⟨⟨r1,wJ⟩,e1,e⟩:=ag e;refine wpAny_FormattedValue_repr (xt (h pr s σ H (fun x H1=>∃G1 xk,Step G H fp G1 H1 xk/\Rel X.K G1 H1 (some r1::wJ) (some x::σ) xk) I ⟨G,env,fp,r1,wJ,rel,e1,fun v H1 G1 xk xm wM=>⟨G1,xk,xm,wM⟩⟩) fun u s1 xu=>?_);obtain⟨x,H1,I1,rx,G1,xk,xm,wM⟩:=xu;obtain⟨b,wU,xl⟩:=wM.drop;have rt:=wM.top;dsimp only at e;split at e
 ·rename_i l hi;split at e
  ·rename_i hl;cases e;rw[hi]at rt;obtain⟨ex,hz⟩:=aK rt;subst ex;obtain⟨t,rfl⟩:=rx;have DS:(reprText (S l)).length<=sizeLine:=by
    rw[<-jy (reprText (S l)),di];exact hl
   refine wpAny_pyReprObj_str ?_ DS;exact formatField_str (fun t' tk=>⟨.str (S (rp l)),H1,I1.tok _,⟨_,by unfold rp;rw[jy]⟩,k _ H1 G1 b (xm.trans xl) (wU.push (cb hl))⟩) DS
  ·cases e
 ·cases e
inductive spR(K:W.Frag)(mg:Str->Option Value)(y:Str)(F:List D->Bool)(vs:List V)(H:Hp)(Q:VK)(zz:XK):Prop
 |mk:∀G ds f v,Same G H->Reps K G ds [v]->vs=[.ref f,v]->mg y=some (.ref f)->F ds=true->(∀H' G' wV,Step G H [] G' H' wV->Rel K G' H' [] [] []->Q (.bl true) H')->spR K mg y F vs H Q zz
inductive tRF(K:W.Frag)(mg:Str->Option Value)(y:Str)(F:List D->Bool)(C:Addr)(D:Ends)(σ:L2.St)(H:Hp):Prop
 |mk:∀f v,σ=[some (.ref f),some v,none,none]->mg y=some (.ref f)->spX K C F [v] H (fun _ _=>False) (fun _ _ H'=>∀zY,Ext H' zY->D.rt (.bl true) zY)->tRF K mg y F C D σ H
theorem k8{P:Program}{w:World}{K:W.Frag}{mg:Str->Option Value}{base:Heap}{x y:Str}{st:Stmt}{N ps:List Str}{k:Nat}{F:List D->Bool}{C:Addr}(Df:Def K mg x st)(sc:FnScope N ps (defScope st))
  (hb:∀(kV doc pm:Value) (an:Option Addr) (xr ct:Value) (us:List Value),us.length=ps.length->bindArgs (PySem.W.fnOf x x (b8 st) (bj st) (defScope st) .none kV doc pm an xr ct) ⟨us,[]⟩=pure (ps.zip us))
  (hN:N.length=4) (hp:ps.length=2)
  (body:∀(f:Addr) (xr:Value) (A:Around) (outer:List PySem.Env) (s:Shared) (H:Hp) (E:XK),Room k (A.deeper (envOfC x (defScope st) s.heap.objs.size f xr))->PSs (iR Ai P w K mg base N x (defScope st) f xr A outer s H E).nox (bj st) (tRF K mg y F C)):
  Ct P w K mg base x (k+1) (spR K mg y F):=by
 obtain⟨f,fd,Fn,m⟩:=Df;refine⟨f,fd,ps,Fn.ok sc (fun vs H Q E h=>?_) (fun xr A outer s H vs Q E hr h=>?_),m,Fn.kp,Fn.binds hb⟩
 ·obtain⟨G,ds,f,v,_,_,rfl,_⟩:=h;rw[hp];rfl
 ·obtain⟨G,ds,f',v,gh,rs,rfl,hm,hF,q⟩:=h;refine⟨_,body f xr A outer s H E hr,f',v,?_,hm,G,ds,gh,rs,hF,fun H' G' wV st rel zY x=>?_⟩
  ·unfold L2.dQ;rw[hN];rfl
  ·obtain⟨G2,wU,xl⟩:=x.rel rel;exact q zY G2 [] (st.trans ((Step.cut (fq:=[]) fun _ h=>nomatch h).trans xl)) wU
theorem k9{k:Nat}{y na nt n ye x:Str}{F:List D->Bool}{C P:Addr}{rest:List Stmt}{j p0 p1 p2 p3 p4 p5 p6 p7 pos np AY p8 p9:_}(c:CtX X.prog X.w X.K X.mg X.base y k C (spX X.K C F))(hr:Room k X.A)(O:XCl X.mg X.base x P)(up:PySem.W.mroIn X.K C (.ref P)=some true)(hg:Gl X x)
  (Aq:∀a o vs,o.cls=.ref C->o.data=.fields vs->PSs (pF X a o) rest (fun D σ H=>σ[2]?=some (some (.ref a))/\∀H',Ext H H'->D.rt (.bl true) H'))
  (hN:X.N.Nodup) (h0:PE X.nox (.Name na p3) (jL 0)) (h1:PE X.nox (.Name nt p4) (jL 1)) (hj:X.N[2]?=some ye) (hy:X.env.scope.names.lookup ye=some .local) (hi:X.N[3]?=some n) (hl:X.env.kindOf n=some .local) (Dn:X.env.scope.names.lookup n=some .local)
  (hd:(n==("__debug__" : Str))=false:=by decide) (zP:(n==("__classdict__" : Str))=false:=by decide) (Cz:swapsWith (.Constant .none j p1) (some (.Name ye p0)) p2.line X.env=pure false:=by rfl) (Ew:swapsWith (.Call (.Name na p3) [.Name nt p4] [] p5) none p6.line X.env=pure false:=by rfl) (BH:swapsWith (.Name n p8) (some (.Name ye p7)) p9.line X.env=pure false:=by rfl)
  (he:starEach [.Name nt p4] X.env=(false,eval (.Name nt p4) X.env)::starEach [] X.env:=by rfl) (xZ:(backTo p5 (starEach [] X.env)).any (·.1)=false:=by rfl)
  (hs:X.stack=X.env::X.outer:=by rfl) (hf:X.env.frame=some X.env.locals:=by rfl) (xX:(x==("__debug__" : Str))=false:=by decide):
  PSs X (.Assign [.Name ye p0] (.Constant .none j p1) p2::.Try [.Expr (.Call (.Name na p3) [.Name nt p4] [] p5) p6] [.ExceptHandler (some (.Name x np)) (some n) [.Assign [.Name ye p7] (.Name n p8) p9] AY] [] [] pos::rest) (tRF X.K X.mg y F C):=
 gq (eA (jS (i:=2) hN hj (.inl hy) mK Cz (.inr hy)) (pss_keep (i:=3) (j:=2) O up hg (lU (k6 c hr h0 (bK h1 dZ he) he xZ) Ew) Aq hN hi hl Dn hj hy hd zP BH hs hf xX)) fun D σ H xi=>by
  obtain⟨f,v,e,m,sp⟩:=xi;subst e;refine⟨f,m,rfl,v,rfl,?_⟩;obtain⟨G,ds,gh,rs,hF,q⟩:=sp;exact⟨G,ds,gh,rs,hF,fun H' G' wV st rel a=>⟨rfl,q H' G' wV st rel⟩⟩
theorem rz{e:Expr}{Ww:Hp->Prop}:DW X e (fun _=>false) Ww:=fun pr s σ H I ⟨_,_,_,_,e,_⟩=>nomatch e
theorem uc{st:List Stmt}{Ww:Hp->Prop}:QX X st (fun _=>false) Ww:=fun pr s σ H I ⟨_,_,_,_,e,_⟩=>nomatch e
def gE(F:List D->Bool)(i:Nat):FX:=fun env=>match env[i]? with
 |some (some r)=>if F [r.2] then .ok ((.f,.bl true),env) else .bad
 |_=>.bad
theorem iH{k i:Nat}{x y nt:Str}{F:List D->Bool}{p q r pos:Pos}{C:Addr}{ky:Nat}(c:Ct X.prog X.w X.K X.mg X.base x k (spR X.K X.mg y F))(cy:CtX X.prog X.w X.K X.mg X.base y ky C (spX X.K C F))(hr:Room k X.A)(hg:Gl X x)(BV:Gl X y)(hv:PE X (.Name nt r) (jL i))(xX:(x==("__debug__" : Str))=false:=by decide)(hdb2:(y==("__debug__" : Str))=false:=by decide)
  (he:starEach [.Name y q,.Name nt r] X.env=(false,eval (.Name y q) X.env)::starEach [.Name nt r] X.env:=by rfl) (E5:starEach [.Name nt r] X.env=(false,eval (.Name nt r) X.env)::starEach [] X.env:=by rfl) (xZ:(backTo pos (starEach [.Name nt r] X.env)).any (·.1)=false:=by rfl):
  QE X (.Call (.Name x p) [.Name y q,.Name nt r] [] pos) (gE F i):=by
 obtain⟨f,fd,ps,_,hm,_⟩:=cy;exact aW (ql c hr hg (bK (iv (v:=.ref f) BV hm rfl hdb2) (bK hv dZ E5) he) xX he xZ) fun σ H Q xi=>by
  obtain⟨G,env,fp,r,env',rel,e,kk⟩:=xi;unfold gE at e;split at e
  ·rename_i r0 hr0;split at e
   ·rename_i hF;cases e;obtain⟨v,ev,_⟩:=rel.view hr0;refine⟨v,ev,?_⟩;show spR X.K X.mg y F [.ref f,v] H Q _;obtain⟨G2,Bv,AX,zA,_,yM⟩:=rel.lend;refine⟨G2,[r0.2],f,v,AX,.cons (zA i r0 v hr0 ev) .nil,rfl,hm,hF,fun H' G' wV st xw=>?_⟩;obtain⟨k1,_⟩:=yM H' G' [] (.f,.bl true) (.bl true) (st.trans (Step.cut fun _ h=>nomatch h)) (xw.push (cO true));obtain⟨G3,zy,x3,xN⟩:=k1 rfl;exact kk (.bl true) H' G3 zy x3 xN
   ·cases e
  ·cases e
end
end PV
namespace LW
open PySem L2 NX PV
abbrev vZ(f:FX):FI:=Ab (qF f) (Ab (kE f) (kG f))
def eX:FS:=(dz (g7 BL BL (aq (aA (.str [97]))) (aw 0) (aq (aA (.str [122])))))
def a5:List D->Res R:=fBody 1 0 eX
def eY:FS:=(dz (g7 BL BL (aq (aA (.str [48]))) (aw 0) (aq (aA (.str [57])))))
def a6:List D->Res R:=fBody 1 0 eY
noncomputable def hX:FS:=(sSeq (yS (xI (dU a5 (ah (aw 0) ax)))
  (dz (aA (.str [108,101,116,116,101,114])))
  bE)
  (sSeq (yS (xI (dU a6 (ah (aw 0) ax)))
  (dz (aA (.str [102,105,103,117,114,101])))
  bE)
  (sSeq (yS (xI (bL yT (aw 0) (aq (aA (.str [32])))))
  (dz (aA (.str [98,108,97,110,107])))
  bE)
  (sSeq (yS (xI (bL yT (aw 0) (aq (aA (.str [59])))))
  (dz (aA (.str [115,101,109,105,99,111,108,111,110])))
  bE)
  cQ))))
def aG:List D->Res R:=fBody 1 0 hX
noncomputable def cw:List D->Bool:=et 1 0 (ej (yS (xI (dU a5 (ah (aw 0) ax)))
  (dz (aA (.str [108,101,116,116,101,114])))
  bE)
  (ej (yS (xI (dU a6 (ah (aw 0) ax)))
  (dz (aA (.str [102,105,103,117,114,101])))
  bE)
  (ej (yS (xI (bL yT (aw 0) (aq (aA (.str [32])))))
  (dz (aA (.str [98,108,97,110,107])))
  bE)
  (ej (yS (xI (bL yT (aw 0) (aq (aA (.str [59])))))
  (dz (aA (.str [115,101,109,105,99,111,108,111,110])))
  bE)
  (d8 (ah (aq (oE (bJ (aA (.str [110,111,32,119,111,114,100,32,104,97,115,32,116,104,101,32,115,105,103,110,32])) (bJ (oQ (dE 0)) eR)))) ax))))))
def bB:FS:=(c5 3 (aX addD (aw 3) (aq (aA (.int 1)))))
def c9:FS:=(bZ (oh (xI (aX Ah (aw 3) (aq (bY fB (ah (aw 0) ax))))) (xI (bL yT (aq (dU aG (ah (aq (aX ze (aw 0) (aw 3))) ax))) (aw 2))))
  bB 100000)
def cT:FS:=(dz (g5 3))
def cU:FS:=(sSeq (c5 3 (aX addD (aw 1) (aq (aA (.int 1)))))
  (sSeq (yS (xI (bL yT (aw 2) (aq (aA (.str [115,101,109,105,99,111,108,111,110])))))
  (dz (g5 3))
  bE)
  (sSeq c9
  cT)))
def ay:List D->Res R:=fBody 3 1 cU
def eZ:FB:=(fun _=>false)
def cV:FB:=(Ac (xI (aX Ah (aw 3) (aq (bY fB (ah (aw 0) ax))))) (xOf (oD cw (ah (aq (aX ze (aw 0) (aw 3))) ax))))
noncomputable def b5:List D->Bool:=et 3 1 (ej (c5 3 (aX addD (aw 1) (aq (aA (.int 1)))))
  (ej (yS (xI (bL yT (aw 2) (aq (aA (.str [115,101,109,105,99,111,108,111,110])))))
  (dz (g5 3))
  bE)
  (bV cV (oh (xI (aX Ah (aw 3) (aq (bY fB (ah (aw 0) ax))))) (xI (bL yT (aq (dU aG (ah (aq (aX ze (aw 0) (aw 3))) ax))) (aw 2)))) eZ bB 100000)))
noncomputable def cW:FS:=(sSeq (yS (xI (aX Bw (aq (bY fB (ah (aw 0) ax))) (aq (aA (.int 60)))))
  cQ
  bE)
  (yS (oh (xI (aX Bw (aq (bY fB (ah (aw 0) ax))) (aq (aA (.int 1))))) (xI (bL yT (aq (aX ze (aw 0) (aq (aA (.int 0))))) (aq (aA (.str [48]))))))
  cQ
  bE))
def aH:List D->Res R:=fBody 1 0 cW
noncomputable def bC:List D->Bool:=et 1 0 (fun env=>(Ac (xI (aX Bw (aq (bY fB (ah (aw 0) ax))) (aq (aA (.int 60))))) (d8 (ah (aq (aA (.str [97,32,110,117,109,98,101,114,32,104,97,115,32,109,111,114,101,32,116,104,97,110,32,115,105,120,116,121,32,102,105,103,117,114,101,115]))) ax))) env||(ej (yS (xI (aX Bw (aq (bY fB (ah (aw 0) ax))) (aq (aA (.int 60)))))
  cQ
  bE)
  (Ac (oh (xI (aX Bw (aq (bY fB (ah (aw 0) ax))) (aq (aA (.int 1))))) (xI (bL yT (aq (aX ze (aw 0) (aq (aA (.int 0))))) (aq (aA (.str [48])))))) (d8 (ah (aq (aA (.str [97,32,110,117,109,98,101,114,32,104,97,115,32,97,32,48,32,97,104,101,97,100,32,111,102,32,111,116,104,101,114,32,102,105,103,117,114,101,115]))) ax)))) env)
noncomputable def bT:FS:=(sSeq (c5 3 (dU aG (ah (aq (aX ze (aw 0) (aw 2))) ax)))
  (sSeq (c5 4 (dU ay (ah (aw 0) (ah (aw 2) (ah (aw 3) ax)))))
  (sSeq (c5 5 (oC (aw 0) (fE (dE 2)) (fE (dE 4))))
  (sSeq (yS (xI (bL yT (aw 3) (aq (aA (.str [102,105,103,117,114,101])))))
  (kA (dU aH (ah (aw 5) ax)))
  bE)
  (sSeq (yS (xI (bL C8 (aw 3) (aq (aA (.str [98,108,97,110,107])))))
  (kA (sG 1 (dE 5)))
  bE)
  (c5 2 (dE 4)))))))
def hZ:FS:=(bZ (xI (aX Ah (aw 2) (aq (bY fB (ah (aw 0) ax)))))
  bT 100000)
def fW:FS:=(dz (g5 1))
def la:FS:=(sSeq (yS (ku (xI (C9 "str" (aw 0))))
  cQ
  bE)
  (sSeq (c5 1 (mX eR))
  (sSeq (c5 2 (aA (.int 0)))
  (sSeq hZ
  fW))))
def dq:List D->Res R:=fBody 1 5 la
noncomputable def cz:FB:=(fun env=>(fun env=>(fF cw (ah (aq (aX ze (aw 0) (aw 2))) ax)) env||(ej (c5 3 (dU aG (ah (aq (aX ze (aw 0) (aw 2))) ax)))
  (fF b5 (ah (aw 0) (ah (aw 2) (ah (aw 3) ax))))) env) env||(ej (c5 3 (dU aG (ah (aq (aX ze (aw 0) (aw 2))) ax)))
  (ej (c5 4 (dU ay (ah (aw 0) (ah (aw 2) (ah (aw 3) ax)))))
  (ej (c5 5 (oC (aw 0) (fE (dE 2)) (fE (dE 4))))
  (Ac (xI (bL yT (aw 3) (aq (aA (.str [102,105,103,117,114,101]))))) (xOf (oD bC (ah (aw 5) ax))))))) env)
def fX:FB:=(fun _=>false)
noncomputable def a7:List D->Bool:=et 1 5 (fun env=>(Ac (ku (xI (C9 "str" (aw 0)))) (d8 (ah (aq (aA (.str [119,104,97,116,32,105,115,32,110,111,32,116,101,120,116,32,104,97,115,32,110,111,32,119,111,114,100,115]))) ax))) env||(ej (yS (ku (xI (C9 "str" (aw 0))))
  cQ
  bE)
  (ej (c5 1 (mX eR))
  (ej (c5 2 (aA (.int 0)))
  (bV fX (xI (aX Ah (aw 2) (aq (bY fB (ah (aw 0) ax))))) cz bT 100000)))) env)
def jE:FS:=cQ
def fY:List D->Res R:=fBody 1 2 jE
def bU:List D->Bool:=et 1 2 (ej (c5 1 (oG (mX eR)))
  (xOf (oD a7 (ah (aw 0) ax))))
def h7:FS:=cQ
def d9:List D->Res R:=fBody 1 3 h7
def aN:List D->Bool:=et 1 3 (fF bU (ah (aw 0) ax))
def jF:FS:=cQ
def fZ:List D->Res R:=fBody 1 3 jF
def bf:List D->Bool:=et 1 3 (fF bU (ah (aw 0) ax))
def de:FS:=(sSeq (yS (xI (aX Ah (aw 1) (aq (bY fB (ah (aw 0) ax)))))
  (dz (aX ze (aw 0) (aw 1)))
  bE)
  (dz (aA (.int 0))))
def ar:List D->Res R:=fBody 2 0 de
noncomputable def df:FS:=(sSeq (c5 1 (aX fQ (aw 0) (aq (aX jN (aq (aA (.int 10))) (aq (aA (.int 64)))))))
  (sSeq (yS (xI (bL yT (aq (aX fQ (aw 1) (aq (aA (.int 3))))) (aq (aA (.int 0)))))
  (dz (aX ze (aq (mX (bJ (aA (.str [109,111,118,101,115])) (bJ (aA (.str [97])) (bJ (aA (.str [98])) (bJ (aA (.str [122,122])) eR)))))) (aq (aX fQ (aq (aX fD (aw 1) (aq (aA (.int 3))))) (aq (aA (.int 4)))))))
  bE)
  (sSeq (yS (xI (bL yT (aq (aX fQ (aw 1) (aq (aA (.int 3))))) (aq (aA (.int 1)))))
  (dz (bY ri (ah (aq (aX fQ (aq (aX fD (aw 1) (aq (aA (.int 3))))) (aq (aX jN (aq (aA (.int 10))) (aq (aA (.int 60))))))) ax)))
  bE)
  (dz (aA (.str [59]))))))
def az:List D->Res R:=fBody 1 1 df
noncomputable def bG:FS:=(sSeq (c5 0 (aX addD (aq (aX fQ (aq (aX pE (aw 0) (aq (aA (.int 48271))))) (aq (aA (.int 2147483647))))) (aq (aA (.int 1)))))
  (c5 2 (aX addD (aw 2) (aq (aX ze (aq (aA (.str [48,49,50,51,52,53,54,55,56,57]))) (aq (aX fQ (aw 0) (aq (aA (.int 10))))))))))
def cI:FS:=(sF (gv (aw 1)) (jC 3)
  bG)
def cA:FS:=(dz (g5 2))
def dh:FS:=(sSeq (c5 2 (aA (.str [])))
  (sSeq cI
  cA))
def aO:List D->Res R:=fBody 2 2 dh
noncomputable def dN:FS:=(sSeq (c5 1 (aX fQ (aq (aX fD (aw 0) (aq (aA (.int 3))))) (aq (aX jN (aq (aA (.int 10))) (aq (aA (.int 20)))))))
  (sSeq (c5 2 (aX fQ (aw 0) (aq (aA (.int 3)))))
  (sSeq (yS (xI (bL yT (aw 2) (aq (aA (.int 0)))))
  (sSeq (c5 3 (aA (.str [33,34,35,36,38,39,40,41,42,43,44,45,46,47,58,60,61,62,63,64,65,66,67,68,69,70,71,72,73,74,75,76,77,78,79,80,81,82,83,84,85,86,87,88,89,90,91,92,93,94,95,96,123,124,125,126,10,9])))
  (dz (aX ze (aw 3) (aq (aX fQ (aw 1) (aq (bY fB (ah (aw 3) ax))))))))
  bE)
  (sSeq (yS (xI (bL yT (aw 2) (aq (aA (.int 1)))))
  (dz (aX addD (aq (aA (.str [55]))) (aq (dU aO (ah (aw 1) (ah (aq (aX addD (aq (aA (.int 60))) (aq (aX fQ (aq (aX fD (aw 1) (aq (aA (.int 2))))) (aq (aA (.int 30))))))) ax))))))
  bE)
  (dz (aX addD (aq (aA (.str [48]))) (aq (dU aO (ah (aw 1) (ah (aq (aX addD (aq (aA (.int 1))) (aq (aX fQ (aq (aX fD (aw 1) (aq (aA (.int 2))))) (aq (aA (.int 9))))))) ax))))))))))
def bg:List D->Res R:=fBody 1 3 dN
noncomputable def rA:FS:=(sSeq (c5 1 (l6 (vZ (oC (aw 0) (fE (aA (.int 3))) (fE (aA (.int 15))))) [none] (jC 0) qI (dU az (ah (aw 0) ax))))
  (sSeq (c5 2 (aX fQ (aq (dU ar (ah (aw 0) (ah (aq (aA (.int 0))) ax)))) (aq (aX addD (aq (bY fB (ah (aw 1) ax))) (aq (aA (.int 1)))))))
  (sSeq (c5 3 (qV iE (aq (aA (.str [32]))) (ah (aq (aX addD (aq (aX addD (aq (oC (aw 1) l8 (fE (dE 2)))) (aq (mX (bJ (dU bg (ah (aq (dU ar (ah (aw 0) (ah (aq (aA (.int 1))) ax)))) ax)) eR))))) (aq (oC (aw 1) (fE (dE 2)) l8)))) ax)))
  (sSeq (yS (xI (bL yT (aq (aX fQ (aq (dU ar (ah (aw 0) (ah (aq (aA (.int 2))) ax)))) (aq (aA (.int 5))))) (aq (aA (.int 1)))))
  (sSeq (c5 4 (aX fQ (aq (dU ar (ah (aw 0) (ah (aq (aA (.int 2))) ax)))) (aq (aX jN (aq (aA (.int 10))) (aq (aA (.int 9)))))))
  (c5 3 (aX ze (aq (mX (bJ (aA .non) (bJ (dE 4) (bJ (aA (.bl true)) (bJ (dE 1) (bJ (tY (bJ (aA (.str [109,111,118,101,115])) eR)) (bJ (kP (aA (.str [109,111,118,101,115])) (aA (.str [97]))) eR)))))))) (aq (aX fQ (aq (aX fD (aw 4) (aq (aA (.int 5))))) (aq (aA (.int 6))))))))
  bE)
  (sSeq (yS (Cy (ku (xI (gE a7 3))) (Cy (ku (xI (gE aN 3))) (ku (xI (gE bf 3)))))
  (dz (aA (.bl false)))
  bE)
  (dz (bL yT (aq (dU dq (ah (aq (qV iE (aq (aA (.str [32]))) (ah (aw 1) ax))) ax))) (aw 1))))))))
def oS:List D->Res R:=fBody 1 4 rA
end LW
namespace LW
open PySem PySem.Spec PyProof.Rows L2 NX PV
theorem iq{α:Type}{Q:List α->Prop}(h:∀a,Q [a]):∀us,us.length=1->Q us
 |[a],_=>h a
theorem rB{α:Type}{Q:List α->Prop}(h:∀a b,Q [a,b]):∀us,us.length=2->Q us
 |[a,b],_=>h a b
theorem u6{α:Type}{Q:List α->Prop}(h:∀a b c,Q [a,b,c]):∀us,us.length=3->Q us
 |[a,b,c],_=>h a b c
theorem rD{X:Cx}{tg e:Expr}{f:FX}(h:QE X e f):QI X tg e (Ab (qF f) (Ab (kE f) (kG f))):=qS (oj h) (qS (qG h) (qH h))
def top(i:Nat):Stmt:=PySem.Challenge.pw_netfinder_k02_no_words.main.body.getD i (.Pass ⟨0,0,0,0⟩)
theorem ud:Str.ofString "a" = S [97]:=by decide +kernel
theorem v3:Str.ofString "z" = S [122]:=by decide +kernel
theorem sH:Str.ofString "0" = S [48]:=by decide +kernel
theorem v5:Str.ofString "9" = S [57]:=by decide +kernel
theorem ue:Str.ofString ";" = S [59]:=by decide +kernel
theorem sI:Str.ofString "semicolon" = S [115,101,109,105,99,111,108,111,110]:=by decide +kernel
theorem sJ:Str.ofString " " = S [32]:=by decide +kernel
theorem sL:Str.ofString "blank" = S [98,108,97,110,107]:=by decide +kernel
theorem rE:Str.ofString "figure" = S [102,105,103,117,114,101]:=by decide +kernel
theorem u7:Str.ofString "letter" = S [108,101,116,116,101,114]:=by decide +kernel
theorem uf:Str.ofString "no word has the sign " = S [110,111,32,119,111,114,100,32,104,97,115,32,116,104,101,32,115,105,103,110,32]:=by decide +kernel
theorem ug:Str.ofString "a number has more than sixty figures" = S [97,32,110,117,109,98,101,114,32,104,97,115,32,109,111,114,101,32,116,104,97,110,32,115,105,120,116,121,32,102,105,103,117,114,101,115]:=by decide +kernel
theorem uh:Str.ofString "a number has a 0 ahead of other figures" = S [97,32,110,117,109,98,101,114,32,104,97,115,32,97,32,48,32,97,104,101,97,100,32,111,102,32,111,116,104,101,114,32,102,105,103,117,114,101,115]:=by decide +kernel
theorem uk:Str.ofString "what is no text has no words" = S [119,104,97,116,32,105,115,32,110,111,32,116,101,120,116,32,104,97,115,32,110,111,32,119,111,114,100,115]:=by decide +kernel
theorem um:Str.ofString "zz" = S [122,122]:=by decide +kernel
theorem uo:Str.ofString "b" = S [98]:=by decide +kernel
theorem oU:Str.ofString "moves" = S [109,111,118,101,115]:=by decide +kernel
theorem uq:Str.ofString "0123456789" = S [48,49,50,51,52,53,54,55,56,57]:=by decide +kernel
theorem ur:Str.ofString "" = S []:=by decide +kernel
theorem uu:Str.ofString "7" = S [55]:=by decide +kernel
theorem uv:Str.ofString "!\"#$&'()*+,-./:<=>?@ABCDEFGHIJKLMNOPQRSTUVWXYZ[\\]^_`{|}~\n\t" = S [33,34,35,36,38,39,40,41,42,43,44,45,46,47,58,60,61,62,63,64,65,66,67,68,69,70,71,72,73,74,75,76,77,78,79,80,81,82,83,84,85,86,87,88,89,90,91,92,93,94,95,96,123,124,125,126,10,9]:=by decide +kernel
section
variable{P:Program}{w:World}{K:W.Frag}{mg:Str->Option Value}{base:Heap}
abbrev dt:Stmt:=top 12
theorem h8:FnScope ["sign"] ["sign"] (defScope dt):=fs
theorem ia(Df:Def K mg "is_letter" dt):Ct P w K mg base "is_letter" 1 (spF K a5):=
 dW Df h8 (fun _ _ _ _ _ _=>iq fun _=>rfl) fun f xr A outer s H E hr=>
  (ak (aV (i8 l7 l7 (aa (au ud (by decide))) (ae (pv 0)) (aa (au v3 (by decide))))))
abbrev du:Stmt:=top 13
theorem ib:FnScope ["sign"] ["sign"] (defScope du):=fs
theorem ic(Df:Def K mg "is_figure" du):Ct P w K mg base "is_figure" 1 (spF K a6):=
 dW Df ib (fun _ _ _ _ _ _=>iq fun _=>rfl) fun f xr A outer s H E hr=>
  (ak (aV (i8 l7 l7 (aa (au sH (by decide))) (ae (pv 0)) (aa (au v5 (by decide))))))
abbrev dO:Stmt:=top 14
theorem f7:FnScope ["sign"] ["sign"] (defScope dO):=fs
theorem jG(Df:Def K mg "kind_of" dO)(yh:Ct P w K mg base "is_figure" 1 (spF K a6))(yi:Ct P w K mg base "is_letter" 1 (spF K a5)):Ct P w K mg base "kind_of" 2 (spF K aG):=
 dW Df f7 (fun _ _ _ _ _ _=>iq fun _=>rfl) fun f xr A outer s H E hr=>
  (aj (bI (c7 (a4 yi hr.m (by rfl) (af (ae (pv 0)) ai)))
  (ak (aV (au u7 (by decide))))
  aB)
  (aj (bI (c7 (a4 yh hr.m (by rfl) (af (ae (pv 0)) ai)))
  (ak (aV (au rE (by decide))))
  aB)
  (aj (bI (aQ (cE hr.units) (ae (pv 0)) (aa (au sJ (by decide))) (aE _))
  (ak (aV (au sL (by decide))))
  aB)
  (aj (bI (aQ (cE hr.units) (ae (pv 0)) (aa (au ue (by decide))) (aE _))
  (ak (aV (au sI (by decide))))
  aB)
  (ak cZ)))))
theorem iI(Df:Def K mg "kind_of" dO){wH:Addr}(yh:Ct P w K mg base "is_figure" 1 (spF K a6))(yi:Ct P w K mg base "is_letter" 1 (spF K a5))(xx:XCl mg base "NoText" wH):CtX P w K mg base "kind_of" 2 wH (spX K wH cw):=
 eW Df f7 (fun _ _ _ _ _ _=>iq fun _=>rfl) fun f xr A outer s H E hr=>
  (bw (bI (c7 (a4 yi hr.m (by rfl) (af (ae (pv 0)) ai)))
  (ak (aV (au u7 (by decide))))
  aB)
  (bw (bI (c7 (a4 yh hr.m (by rfl) (af (ae (pv 0)) ai)))
  (ak (aV (au rE (by decide))))
  aB)
  (bw (bI (aQ (cE hr.units) (ae (pv 0)) (aa (au sJ (by decide))) (aE _))
  (ak (aV (au sL (by decide))))
  aB)
  (bw (bI (aQ (cE hr.units) (ae (pv 0)) (aa (au ue (by decide))) (aE _))
  (ak (aV (au sI (by decide))))
  aB)
  (eD xx iZ rfl (by rfl) (af (aa (oF (kY (au uf (by decide)) (kY (oR (bu (pv 0))) rl)))) ai))))))
abbrev b6:Stmt:=top 15
theorem bh:FnScope ["text","start","kind","end"] ["text","start","kind"] (defScope b6):=fs
theorem gF(Df:Def K mg "end_of_run" b6)(xB:Ct P w K mg base "kind_of" 2 (spF K aG))(xv:mg "len" = none):Ct P w K mg base "end_of_run" 3 (spF K ay):=
 dW Df bh (fun _ _ _ _ _ _=>u6 fun _ _ _=>rfl) fun f xr A outer s H E hr=>
  (aj (aF (i:=3) bh.nd rfl (lo rfl) (aS cq (ae (pv 1)) (aa ao)))
  (aj (bI (aQ (cE hr.units) (ae (pv 2)) (aa (au sI (by decide))) (aE _))
  (ak (aV (eP (pv 3))))
  aB)
  (aj (i9 100000 HQ (QW.qt (i7 (cN (fT hr.units0) (ae (pv 3)) (aa (ba bF (by rfl) xv bt_len (af (ae (pv 0)) ai))) (aE _)) (gr (aQ (cE hr.units) (aa (a4 xB hr.m (by rfl) (af (aa (dk (ae (pv 0)) (ae (pv 3)))) ai))) (ae (pv 2)) (aE _)))))
  (ak (aF (i:=3) bh.nd rfl (lo rfl) (aS cq (ae (pv 3)) (aa ao)))))
  (ak (aV (eP (pv 3)))))))
theorem fG(Df:Def K mg "end_of_run" b6){wH:Addr}(yE:CtX P w K mg base "kind_of" 2 wH (spX K wH cw))(xB:Ct P w K mg base "kind_of" 2 (spF K aG))(xv:mg "len" = none):CtX P w K mg base "end_of_run" 3 wH (spX K wH b5):=
 eW Df bh (fun _ _ _ _ _ _=>u6 fun _ _ _=>rfl) fun f xr A outer s H E hr=>
  (bw (aF (i:=3) bh.nd rfl (lo rfl) (aS cq (ae (pv 1)) (aa ao)))
  (bw (bI (aQ (cE hr.units) (ae (pv 2)) (aa (au sI (by decide))) (aE _))
  (ak (aV (eP (pv 3))))
  aB)
  (jk 100000 PassesOwn.leaving (PWX.pt (oN (cN (fT hr.units0) (ae (pv 3)) (aa (ba bF (by rfl) xv bt_len (af (ae (pv 0)) ai))) (aE _)) (mr (oO acc_on (iF yE hr.m (by rfl) (af (aa (dk (ae (pv 0)) (ae (pv 3)))) ai)))))) (QW.qt (i7 (cN (fT hr.units0) (ae (pv 3)) (aa (ba bF (by rfl) xv bt_len (af (ae (pv 0)) ai))) (aE _)) (gr (aQ (cE hr.units) (aa (a4 xB hr.m (by rfl) (af (aa (dk (ae (pv 0)) (ae (pv 3)))) ai))) (ae (pv 2)) (aE _)))))
  uc
  (ak (aF (i:=3) bh.nd rfl (lo rfl) (aS cq (ae (pv 3)) (aa ao)))))))
abbrev bD:Stmt:=top 16
theorem cJ:FnScope ["figures"] ["figures"] (defScope bD):=fs
theorem eu(Df:Def K mg "check_figures" bD)(xc:Gi mg "MOST_FIGURES" (60))(xv:mg "len" = none):Ct P w K mg base "check_figures" 1 (spF K aH):=
 dW Df cJ (fun _ _ _ _ _ _=>iq fun _=>rfl) fun f xr A outer s H E hr=>
  (aj (bI (cN kJ (aa (ba bF (by rfl) xv bt_len (af (ae (pv 0)) ai))) (aa (n6 xc (by rfl))) (aE _))
  (ak cZ)
  aB)
  (ak (bI (QW.qt (i7 (cN kJ (aa (ba bF (by rfl) xv bt_len (af (ae (pv 0)) ai))) (aa ao) (aE _)) (gr (aQ (cE hr.units) (aa (dk (ae (pv 0)) (aa ao))) (aa (au sH (by decide))) (aE _)))))
  (ak cZ)
  aB)))
theorem dY(Df:Def K mg "check_figures" bD){wH:Addr}(xx:XCl mg base "NoText" wH)(xc:Gi mg "MOST_FIGURES" (60))(xv:mg "len" = none):CtX P w K mg base "check_figures" 1 wH (spX K wH bC):=
 eW Df cJ (fun _ _ _ _ _ _=>iq fun _=>rfl) fun f xr A outer s H E hr=>
  (mm (ml (cN kJ (aa (ba bF (by rfl) xv bt_len (af (ae (pv 0)) ai))) (aa (n6 xc (by rfl))) (aE _)) (eD xx iZ rfl (by rfl) (af (aa (au ug (by decide))) ai))) (bw (bI (cN kJ (aa (ba bF (by rfl) xv bt_len (af (ae (pv 0)) ai))) (aa (n6 xc (by rfl))) (aE _))
  (ak cZ)
  aB)
  (ml (QW.qt (i7 (cN kJ (aa (ba bF (by rfl) xv bt_len (af (ae (pv 0)) ai))) (aa ao) (aE _)) (gr (aQ (cE hr.units) (aa (dk (ae (pv 0)) (aa ao))) (aa (au sH (by decide))) (aE _))))) (eD xx iZ rfl (by rfl) (af (aa (au uh (by decide))) ai)))))
abbrev gG:Stmt:=top 17
theorem aI:FnScope ["text","told","start","kind","end","word"] ["text"] (defScope gG):=fs
theorem mw(Df:Def K mg "words" gG)(xJ:Ct P w K mg base "check_figures" 1 (spF K aH))(xM:Ct P w K mg base "end_of_run" 3 (spF K ay))(xB:Ct P w K mg base "kind_of" 2 (spF K aG))(wI:mg "isinstance" = none)(xv:mg "len" = none)(yN:mg "str" = none):Ct P w K mg base "words" 4 (spF K dq):=
 dW Df aI (fun _ _ _ _ _ _=>iq fun _=>rfl) fun f xr A outer s H E hr=>
  (aj (bI (fO (c7 (ov (T:="str") (by decide) (ae (pv 0)) (by rfl) wI (by rfl) yN iU)))
  (ak cZ)
  aB)
  (aj (aF (i:=1) aI.nd rfl (lo rfl) (fR cS))
  (aj (aF (i:=2) aI.nd rfl (lo rfl) ao)
  (aj (i9 100000 HQ (cN (fT hr.units0) (ae (pv 2)) (aa (ba bF (by rfl) xv bt_len (af (ae (pv 0)) ai))) (aE _))
  (aj (aF (i:=3) aI.nd rfl (lo rfl) (a4 xB hr.m (by rfl) (af (aa (dk (ae (pv 0)) (ae (pv 2)))) ai)))
  (aj (aF (i:=4) aI.nd rfl (lo rfl) (a4 xM hr.m (by rfl) (af (ae (pv 0)) (af (ae (pv 2)) (af (ae (pv 3)) ai)))))
  (aj (aF (i:=5) aI.nd rfl (lo rfl) (fU (ae (pv 0)) (cf (bu (pv 2))) (cf (bu (pv 4)))))
  (aj (bI (aQ (cE hr.units) (ae (pv 3)) (aa (au rE (by decide))) (aE _))
  (ak (gu (a4 xJ hr.m (by rfl) (af (ae (pv 5)) ai))))
  aB)
  (aj (bI (aQ (qP hr.units) (ae (pv 3)) (aa (au sL (by decide))) (aE _))
  (ak (gu (g9 (pv 1) (bu (pv 5)))))
  aB)
  (ak (aF (i:=2) aI.nd rfl (lo rfl) (bu (pv 4))))))))))
  (ak (aV (eP (pv 1))))))))
theorem lb(Df:Def K mg "words" gG){wH:Addr}(yW:CtX P w K mg base "check_figures" 1 wH (spX K wH bC))(zB:CtX P w K mg base "end_of_run" 3 wH (spX K wH b5))(yE:CtX P w K mg base "kind_of" 2 wH (spX K wH cw))(xJ:Ct P w K mg base "check_figures" 1 (spF K aH))(xM:Ct P w K mg base "end_of_run" 3 (spF K ay))(xB:Ct P w K mg base "kind_of" 2 (spF K aG))(xx:XCl mg base "NoText" wH)(wI:mg "isinstance" = none)(xv:mg "len" = none)(yN:mg "str" = none):CtX P w K mg base "words" 4 wH (spX K wH a7):=
 eW Df aI (fun _ _ _ _ _ _=>iq fun _=>rfl) fun f xr A outer s H E hr=>
  (mm (ml (fO (c7 (ov (T:="str") (by decide) (ae (pv 0)) (by rfl) wI (by rfl) yN iU))) (eD xx iZ rfl (by rfl) (af (aa (au uk (by decide))) ai))) (bw (bI (fO (c7 (ov (T:="str") (by decide) (ae (pv 0)) (by rfl) wI (by rfl) yN iU)))
  (ak cZ)
  aB)
  (bw (aF (i:=1) aI.nd rfl (lo rfl) (fR cS))
  (bw (aF (i:=2) aI.nd rfl (lo rfl) ao)
  (jk 100000 PassesOwn.leaving rz (cN (fT hr.units0) (ae (pv 2)) (aa (ba bF (by rfl) xv bt_len (af (ae (pv 0)) ai))) (aE _))
  (mm (mm (gB yE acc_on hr.m (by rfl) (af (aa (dk (ae (pv 0)) (ae (pv 2)))) ai)) (bw (aF (i:=3) aI.nd rfl (lo rfl) (a4 xB hr.m (by rfl) (af (aa (dk (ae (pv 0)) (ae (pv 2)))) ai)))
  (gB zB acc_on hr.m (by rfl) (af (ae (pv 0)) (af (ae (pv 2)) (af (ae (pv 3)) ai)))))) (bw (aF (i:=3) aI.nd rfl (lo rfl) (a4 xB hr.m (by rfl) (af (aa (dk (ae (pv 0)) (ae (pv 2)))) ai)))
  (bw (aF (i:=4) aI.nd rfl (lo rfl) (a4 xM hr.m (by rfl) (af (ae (pv 0)) (af (ae (pv 2)) (af (ae (pv 3)) ai)))))
  (bw (aF (i:=5) aI.nd rfl (lo rfl) (fU (ae (pv 0)) (cf (bu (pv 2))) (cf (bu (pv 4)))))
  (ml (aQ (cE hr.units) (ae (pv 3)) (aa (au rE (by decide))) (aE _)) (oJ acc_on (iF yW hr.m (by rfl) (af (ae (pv 5)) ai))))))))
  (aj (aF (i:=3) aI.nd rfl (lo rfl) (a4 xB hr.m (by rfl) (af (aa (dk (ae (pv 0)) (ae (pv 2)))) ai)))
  (aj (aF (i:=4) aI.nd rfl (lo rfl) (a4 xM hr.m (by rfl) (af (ae (pv 0)) (af (ae (pv 2)) (af (ae (pv 3)) ai)))))
  (aj (aF (i:=5) aI.nd rfl (lo rfl) (fU (ae (pv 0)) (cf (bu (pv 2))) (cf (bu (pv 4)))))
  (aj (bI (aQ (cE hr.units) (ae (pv 3)) (aa (au rE (by decide))) (aE _))
  (ak (gu (a4 xJ hr.m (by rfl) (af (ae (pv 5)) ai))))
  aB)
  (aj (bI (aQ (qP hr.units) (ae (pv 3)) (aa (au sL (by decide))) (aE _))
  (ak (gu (g9 (pv 1) (bu (pv 5)))))
  aB)
  (ak (aF (i:=2) aI.nd rfl (lo rfl) (bu (pv 4))))))))))))))
abbrev c3:Stmt:=top 32
theorem dv:FnScope ["text","parts","word"] ["text"] (defScope c3):=fs
theorem iJ(Df:Def K mg "parts_of" c3):Ct P w K mg base "parts_of" 5 (spF K fY):=
 dW Df dv (fun _ _ _ _ _ _=>iq fun _=>rfl) fun f xr A outer s H E hr=>
  iG
theorem ie(Df:Def K mg "parts_of" c3){wH:Addr}(yj:CtX P w K mg base "words" 4 wH (spX K wH a7)):CtX P w K mg base "parts_of" 5 wH (spX K wH bU):=
 eW Df dv (fun _ _ _ _ _ _=>iq fun _=>rfl) fun f xr A outer s H E hr=>
  (bw (aF (i:=1) dv.nd rfl (lo rfl) (oH (fR cS)))
  (rq acc_on (iF yj hr.m (by rfl) (af (ae (pv 0)) ai))))
abbrev b7:Stmt:=top 38
theorem dP:FnScope ["text","parts","moves","arcs"] ["text"] (defScope b7):=fs
theorem gH(Df:Def K mg "read_chart" b7):Ct P w K mg base "read_chart" 6 (spF K d9):=
 dW Df dP (fun _ _ _ _ _ _=>iq fun _=>rfl) fun f xr A outer s H E hr=>
  iG
theorem fH(Df:Def K mg "read_chart" b7){wH:Addr}(yk:CtX P w K mg base "parts_of" 5 wH (spX K wH bU)):CtX P w K mg base "read_chart" 6 wH (spX K wH aN):=
 eW Df dP (fun _ _ _ _ _ _=>iq fun _=>rfl) fun f xr A outer s H E hr=>
  (gB yk acc_on hr.m (by rfl) (af (ae (pv 0)) ai))
abbrev c4:Stmt:=top 44
theorem e6:FnScope ["text","parts","moves","told_parts"] ["text"] (defScope c4):=fs
theorem iK(Df:Def K mg "read_net" c4):Ct P w K mg base "read_net" 6 (spF K fZ):=
 dW Df e6 (fun _ _ _ _ _ _=>iq fun _=>rfl) fun f xr A outer s H E hr=>
  iG
theorem ig(Df:Def K mg "read_net" c4){wH:Addr}(yk:CtX P w K mg base "parts_of" 5 wH (spX K wH bU)):CtX P w K mg base "read_net" 6 wH (spX K wH bf):=
 eW Df e6 (fun _ _ _ _ _ _=>iq fun _=>rfl) fun f xr A outer s H E hr=>
  (gB yk acc_on hr.m (by rfl) (af (ae (pv 0)) ai))
abbrev cj:Stmt:=top 46
theorem e7:FnScope ["_law_script","_law_k"] ["_law_script","_law_k"] (defScope cj):=fs
theorem e8(Df:Def K mg "_law_cell_at" cj)(xv:mg "len" = none):Ct P w K mg base "_law_cell_at" 1 (spF K ar):=
 dW Df e7 (fun _ _ _ _ _ _=>rB fun _ _=>rfl) fun f xr A outer s H E hr=>
  (aj (bI (cN (fT hr.units0) (ae (pv 1)) (aa (ba bF (by rfl) xv bt_len (af (ae (pv 0)) ai))) (aE _))
  (ak (aV (dk (ae (pv 0)) (ae (pv 1)))))
  aB)
  (ak (aV ao)))
abbrev cm:Stmt:=top 47
theorem cX:FnScope ["_law_cell","_law_number"] ["_law_cell"] (defScope cm):=fs
theorem e9(Df:Def K mg "_law_word_by" cm)(yN:mg "str" = none):Ct P w K mg base "_law_word_by" 1 (spF K az):=
 dW Df cX (fun _ _ _ _ _ _=>iq fun _=>rfl) fun f xr A outer s H E hr=>
  (aj (aF (i:=1) cX.nd rfl (lo rfl) (aS bP (ae (pv 0)) (aa (aS ja (aa ao) (aa ao)))))
  (aj (bI (aQ (cE hr.units) (aa (aS bP (ae (pv 1)) (aa ao))) (aa ao) (aE _))
  (ak (aV (dk (aa (fR (bc (au oU (by decide)) (bc (au ud (by decide)) (bc (au uo (by decide)) (bc (au um (by decide)) cS)))))) (aa (aS bP (aa (aS dX (ae (pv 1)) (aa ao))) (aa ao))))))
  aB)
  (aj (bI (aQ (cE hr.units) (aa (aS bP (ae (pv 1)) (aa ao))) (aa ao) (aE _))
  (ak (aV (kz rj (by rfl) yN iU (af (aa (aS bP (aa (aS dX (ae (pv 1)) (aa ao))) (aa (aS ja (aa ao) (aa ao))))) ai))))
  aB)
  (ak (aV (au ue (by decide)))))))
abbrev cn:Stmt:=top 48
theorem a8:FnScope ["_law_number","_law_count","_law_found","_law_k"] ["_law_number","_law_count"] (defScope cn):=fs
theorem fe(Df:Def K mg "_law_figures" cn)(zf:mg "range" = none):Ct P w K mg base "_law_figures" 1 (spF K aO):=
 dW Df a8 (fun _ _ _ _ _ _=>rB fun _ _=>rfl) fun f xr A outer s H E hr=>
  (aj (aF (i:=2) a8.nd rfl (lo rfl) (au ur (by decide)))
  (aj (qE HQ rfl (kH (by rfl) zf (ae (pv 1))) (kC (i:=3) a8.nd rfl (lo rfl))
  (aj (aF (i:=0) a8.nd rfl (lo rfl) (aS cq (aa (aS bP (aa (aS oA (ae (pv 0)) (aa ao))) (aa ao))) (aa ao)))
  (ak (aF (i:=2) a8.nd rfl (lo rfl) (aS cq (ae (pv 2)) (aa (dk (aa (au uq (by decide))) (aa (aS bP (ae (pv 0)) (aa ao))))))))))
  (ak (aV (eP (pv 2))))))
abbrev cF:Stmt:=top 49
theorem bH:FnScope ["_law_cell","_law_number","_law_way","_law_some"] ["_law_cell"] (defScope cF):=fs
theorem fI(Df:Def K mg "_law_bad_by" cF)(ym:Ct P w K mg base "_law_figures" 1 (spF K aO))(xv:mg "len" = none):Ct P w K mg base "_law_bad_by" 2 (spF K bg):=
 dW Df bH (fun _ _ _ _ _ _=>iq fun _=>rfl) fun f xr A outer s H E hr=>
  (aj (aF (i:=1) bH.nd rfl (lo rfl) (aS bP (aa (aS dX (ae (pv 0)) (aa ao))) (aa (aS ja (aa ao) (aa ao)))))
  (aj (aF (i:=2) bH.nd rfl (lo rfl) (aS bP (ae (pv 0)) (aa ao)))
  (aj (bI (aQ (cE hr.units) (ae (pv 2)) (aa ao) (aE _))
  (aj (aF (i:=3) bH.nd rfl (lo rfl) (au uv (by decide)))
  (ak (aV (dk (ae (pv 3)) (aa (aS bP (ae (pv 1)) (aa (ba bF (by rfl) xv bt_len (af (ae (pv 3)) ai)))))))))
  aB)
  (aj (bI (aQ (cE hr.units) (ae (pv 2)) (aa ao) (aE _))
  (ak (aV (aS cq (aa (au uu (by decide))) (aa (a4 ym hr.m (by rfl) (af (ae (pv 1)) (af (aa (aS cq (aa ao) (aa (aS bP (aa (aS dX (ae (pv 1)) (aa ao))) (aa ao))))) ai)))))))
  aB)
  (ak (aV (aS cq (aa (au sH (by decide))) (aa (a4 ym hr.m (by rfl) (af (ae (pv 1)) (af (aa (aS cq (aa ao) (aa (aS bP (aa (aS dX (ae (pv 1)) (aa ao))) (aa ao))))) ai)))))))))))
abbrev bq:Stmt:=top 50
theorem aR:FnScope ["_law_ask","_law_thing","_law_error","e"] ["_law_ask","_law_thing"] (defScope bq):=fs
theorem cK(Df:Def K mg "_law_refused" bq){xb:Addr}{xq:Addr}{xj:Addr}{xy:Addr}{xA:Addr}{xf:Addr}{wH:Addr}{xa:Addr}{xh:Addr}(yj:CtX P w K mg base "words" 4 wH (spX K wH a7))(yn:mg "NoCase" = some (.ref xq))(xY:mg "NoChart" = some (.ref xj))(yO:mg "NoNet" = some (.ref xy))(yP:mg "NoRun" = some (.ref xA))(xH:mg "NoStretch" = some (.ref xf))(yo:mg "NoText" = some (.ref wH))(xD:mg "OtherMoves" = some (.ref xa))(xO:mg "TooGreat" = some (.ref xh))(wQ:PySem.W.mroIn K wH (.ref xb)=some true)(wK:PySem.W.kitOne K (.ref wH) (.type "ValueError")=some true)(wX:PySem.W.kitOne K (.ref wH) (.ref xq)=some false)(wW:PySem.W.kitOne K (.ref wH) (.ref xj)=some false)(w5:PySem.W.kitOne K (.ref wH) (.ref xy)=some false)(w6:PySem.W.kitOne K (.ref wH) (.ref xA)=some false)(wO:PySem.W.kitOne K (.ref wH) (.ref xf)=some false)(wY:PySem.W.kitOne K (.ref wH) (.ref wH)=some true)(wN:PySem.W.kitOne K (.ref wH) (.ref xa)=some false)(wR:PySem.W.kitOne K (.ref wH) (.ref xh)=some false)(wL:Asks K wH)(xp:XCl mg base "NetError" xb)(xn:mg "ValueError" = none)(wI:mg "isinstance" = none):Ct P w K mg base "_law_refused" 5 (spR K mg "words" a7):=
 k8 (C:=wH) Df aR (fun _ _ _ _ _ _=>rB fun _ _=>rfl) rfl rfl fun f xr A outer s H E hr=>
  (by
   refine k9 yj hr.m xp wQ (by rfl) ?_ aR.nd (pv 0) (pv 1) rfl rfl rfl rfl rfl;exact(fun a o vs h1 h2=>(gD (mv (dn (fV (b:=true) (bS (bR Fm h1 h2 wL (pv 2) (by rfl) wI (by rfl) yo wY))) (dM (fV (b:=true) (bS (kX Fm h1 h2 wL (pv 2) (by rfl) wI (by rfl) xn (by decide +kernel) wK))))))
  (gD (mv (dn (bS (bR Fm h1 h2 wL (pv 2) (by rfl) wI (by rfl) xY wW)) (dn (bS (bR Fm h1 h2 wL (pv 2) (by rfl) wI (by rfl) yO w5)) (dM (bS (bR Fm h1 h2 wL (pv 2) (by rfl) wI (by rfl) xO wR))))))
  (gD (mv (dn (bS (bR Fm h1 h2 wL (pv 2) (by rfl) wI (by rfl) xD wN)) (dn (bS (bR Fm h1 h2 wL (pv 2) (by rfl) wI (by rfl) xH wO)) (dM (bS (bR Fm h1 h2 wL (pv 2) (by rfl) wI (by rfl) yn wX))))))
  (k7 (kS (bR Fm h1 h2 wL (pv 2) (by rfl) wI (by rfl) yP w6)) rfl))))))
theorem bW(Df:Def K mg "_law_refused" bq){xb:Addr}{xq:Addr}{xj:Addr}{xy:Addr}{xA:Addr}{xf:Addr}{wH:Addr}{xa:Addr}{xh:Addr}(xS:CtX P w K mg base "read_chart" 6 wH (spX K wH aN))(yn:mg "NoCase" = some (.ref xq))(xY:mg "NoChart" = some (.ref xj))(yO:mg "NoNet" = some (.ref xy))(yP:mg "NoRun" = some (.ref xA))(xH:mg "NoStretch" = some (.ref xf))(yo:mg "NoText" = some (.ref wH))(xD:mg "OtherMoves" = some (.ref xa))(xO:mg "TooGreat" = some (.ref xh))(wQ:PySem.W.mroIn K wH (.ref xb)=some true)(wK:PySem.W.kitOne K (.ref wH) (.type "ValueError")=some true)(wX:PySem.W.kitOne K (.ref wH) (.ref xq)=some false)(wW:PySem.W.kitOne K (.ref wH) (.ref xj)=some false)(w5:PySem.W.kitOne K (.ref wH) (.ref xy)=some false)(w6:PySem.W.kitOne K (.ref wH) (.ref xA)=some false)(wO:PySem.W.kitOne K (.ref wH) (.ref xf)=some false)(wY:PySem.W.kitOne K (.ref wH) (.ref wH)=some true)(wN:PySem.W.kitOne K (.ref wH) (.ref xa)=some false)(wR:PySem.W.kitOne K (.ref wH) (.ref xh)=some false)(wL:Asks K wH)(xp:XCl mg base "NetError" xb)(xn:mg "ValueError" = none)(wI:mg "isinstance" = none):Ct P w K mg base "_law_refused" 7 (spR K mg "read_chart" aN):=
 k8 (C:=wH) Df aR (fun _ _ _ _ _ _=>rB fun _ _=>rfl) rfl rfl fun f xr A outer s H E hr=>
  (by
   refine k9 xS hr.m xp wQ (by rfl) ?_ aR.nd (pv 0) (pv 1) rfl rfl rfl rfl rfl;exact(fun a o vs h1 h2=>(gD (mv (dn (fV (b:=true) (bS (bR Fm h1 h2 wL (pv 2) (by rfl) wI (by rfl) yo wY))) (dM (fV (b:=true) (bS (kX Fm h1 h2 wL (pv 2) (by rfl) wI (by rfl) xn (by decide +kernel) wK))))))
  (gD (mv (dn (bS (bR Fm h1 h2 wL (pv 2) (by rfl) wI (by rfl) xY wW)) (dn (bS (bR Fm h1 h2 wL (pv 2) (by rfl) wI (by rfl) yO w5)) (dM (bS (bR Fm h1 h2 wL (pv 2) (by rfl) wI (by rfl) xO wR))))))
  (gD (mv (dn (bS (bR Fm h1 h2 wL (pv 2) (by rfl) wI (by rfl) xD wN)) (dn (bS (bR Fm h1 h2 wL (pv 2) (by rfl) wI (by rfl) xH wO)) (dM (bS (bR Fm h1 h2 wL (pv 2) (by rfl) wI (by rfl) yn wX))))))
  (k7 (kS (bR Fm h1 h2 wL (pv 2) (by rfl) wI (by rfl) yP w6)) rfl))))))
theorem cp(Df:Def K mg "_law_refused" bq){xb:Addr}{xq:Addr}{xj:Addr}{xy:Addr}{xA:Addr}{xf:Addr}{wH:Addr}{xa:Addr}{xh:Addr}(yp:CtX P w K mg base "read_net" 6 wH (spX K wH bf))(yn:mg "NoCase" = some (.ref xq))(xY:mg "NoChart" = some (.ref xj))(yO:mg "NoNet" = some (.ref xy))(yP:mg "NoRun" = some (.ref xA))(xH:mg "NoStretch" = some (.ref xf))(yo:mg "NoText" = some (.ref wH))(xD:mg "OtherMoves" = some (.ref xa))(xO:mg "TooGreat" = some (.ref xh))(wQ:PySem.W.mroIn K wH (.ref xb)=some true)(wK:PySem.W.kitOne K (.ref wH) (.type "ValueError")=some true)(wX:PySem.W.kitOne K (.ref wH) (.ref xq)=some false)(wW:PySem.W.kitOne K (.ref wH) (.ref xj)=some false)(w5:PySem.W.kitOne K (.ref wH) (.ref xy)=some false)(w6:PySem.W.kitOne K (.ref wH) (.ref xA)=some false)(wO:PySem.W.kitOne K (.ref wH) (.ref xf)=some false)(wY:PySem.W.kitOne K (.ref wH) (.ref wH)=some true)(wN:PySem.W.kitOne K (.ref wH) (.ref xa)=some false)(wR:PySem.W.kitOne K (.ref wH) (.ref xh)=some false)(wL:Asks K wH)(xp:XCl mg base "NetError" xb)(xn:mg "ValueError" = none)(wI:mg "isinstance" = none):Ct P w K mg base "_law_refused" 7 (spR K mg "read_net" bf):=
 k8 (C:=wH) Df aR (fun _ _ _ _ _ _=>rB fun _ _=>rfl) rfl rfl fun f xr A outer s H E hr=>
  (by
   refine k9 yp hr.m xp wQ (by rfl) ?_ aR.nd (pv 0) (pv 1) rfl rfl rfl rfl rfl;exact(fun a o vs h1 h2=>(gD (mv (dn (fV (b:=true) (bS (bR Fm h1 h2 wL (pv 2) (by rfl) wI (by rfl) yo wY))) (dM (fV (b:=true) (bS (kX Fm h1 h2 wL (pv 2) (by rfl) wI (by rfl) xn (by decide +kernel) wK))))))
  (gD (mv (dn (bS (bR Fm h1 h2 wL (pv 2) (by rfl) wI (by rfl) xY wW)) (dn (bS (bR Fm h1 h2 wL (pv 2) (by rfl) wI (by rfl) yO w5)) (dM (bS (bR Fm h1 h2 wL (pv 2) (by rfl) wI (by rfl) xO wR))))))
  (gD (mv (dn (bS (bR Fm h1 h2 wL (pv 2) (by rfl) wI (by rfl) xD wN)) (dn (bS (bR Fm h1 h2 wL (pv 2) (by rfl) wI (by rfl) xH wO)) (dM (bS (bR Fm h1 h2 wL (pv 2) (by rfl) wI (by rfl) yn wX))))))
  (k7 (kS (bR Fm h1 h2 wL (pv 2) (by rfl) wI (by rfl) yP w6)) rfl))))))
abbrev gI:Stmt:=top 51
theorem f9:FnScope ["_law_script","_law_row","_law_where","_law_thing","_law_number"] ["_law_script"] (defScope gI):=fs
theorem rF{f:Addr}{fd:FuncData}(F:Fun K "law" "law" gI f fd){wH:Addr}(xS:CtX P w K mg base "read_chart" 6 wH (spX K wH aN))(yp:CtX P w K mg base "read_net" 6 wH (spX K wH bf))(yj:CtX P w K mg base "words" 4 wH (spX K wH a7))(zC:Ct P w K mg base "_law_bad_by" 2 (spF K bg))(xE:Ct P w K mg base "_law_cell_at" 1 (spF K ar))(xP:Ct P w K mg base "_law_refused" 7 (spR K mg "read_chart" aN))(xT:Ct P w K mg base "_law_refused" 7 (spR K mg "read_net" bf))(yd:Ct P w K mg base "_law_refused" 5 (spR K mg "words" a7))(zk:Ct P w K mg base "_law_word_by" 1 (spF K az))(AZ:Ct P w K mg base "words" 4 (spF K dq))(xv:mg "len" = none):FnOk P w K mg base Ai 8 f fd ["_law_script"] (spF K oS):=
 fnok_of F f9 fun xr A outer s H E hr=>
  (aj (mi (i:=1) [none] ["_law_cell"] f9.nd rfl (lo rfl) rfl (qZ (rD (fU (ae (pv 0)) (cf ao) (cf ao)))) (fun _ _ _ _ _=>(kC (i:=0) (show List.Nodup (["_law_cell"]:List Str) from by decide +kernel) rfl (lo rfl))) (fun _ _ _ _ _=>om) (fun _ _ _ _ _=>(a4 zk hr.m (by rfl) (af (ae (pv 0)) ai))))
  (aj (aF (i:=2) f9.nd rfl (lo rfl) (aS bP (aa (a4 xE hr.m (by rfl) (af (ae (pv 0)) (af (aa ao) ai)))) (aa (aS cq (aa (ba bF (by rfl) xv bt_len (af (ae (pv 1)) ai))) (aa ao)))))
  (aj (aF (i:=3) f9.nd rfl (lo rfl) (m7 HR HS kR (aa (au sJ (by decide))) (af (aa (aS cq (aa (aS cq (aa (fU (ae (pv 1)) kK (cf (bu (pv 2))))) (aa (fR (bc (a4 zC hr.m (by rfl) (af (aa (a4 xE hr.m (by rfl) (af (ae (pv 0)) (af (aa ao) ai)))) ai)) cS))))) (aa (fU (ae (pv 1)) (cf (bu (pv 2))) kK)))) ai)))
  (aj (bI (aQ (cE hr.units) (aa (aS bP (aa (a4 xE hr.m (by rfl) (af (ae (pv 0)) (af (aa ao) ai)))) (aa ao))) (aa ao) (aE _))
  (aj (aF (i:=4) f9.nd rfl (lo rfl) (aS bP (aa (a4 xE hr.m (by rfl) (af (ae (pv 0)) (af (aa ao) ai)))) (aa (aS ja (aa ao) (aa ao)))))
  (ak (aF (i:=3) f9.nd rfl (lo rfl) (dk (aa (fR (bc qA (bc (bu (pv 4)) (bc qz (bc (bu (pv 1)) (bc (qK (bc (au oU (by decide)) cS)) (bc (mj (au oU (by decide)) (au ud (by decide))) cS)))))))) (aa (aS bP (aa (aS dX (ae (pv 4)) (aa ao))) (aa ao)))))))
  aB)
  (aj (bI (QW.qt (qC (fO (c7 (iH yd yj hr.m (by rfl) (by rfl) (pv 3)))) (qC (fO (c7 (iH xP xS hr.m (by rfl) (by rfl) (pv 3)))) (qB (fO (c7 (iH xT yp hr.m (by rfl) (by rfl) (pv 3))))))))
  (ak (aV qz))
  aB)
  (ak (aV (n8 (cE hr.units) (aa (a4 AZ hr.m (by rfl) (af (aa (m7 HR HS kR (aa (au sJ (by decide))) (af (ae (pv 1)) ai))) ai))) (ae (pv 1)) (aE _)))))))))
end
end LW
namespace PV
open PySem L2 NX
class Cont (α β:Type) where
 run:α->Res β
def Res.bnd{α β:Type}[f:Cont α β](x:Res α):Res β:=x.bind f.run
theorem zO{α β:Type}(a:α)(f:α->Res β):Res.bnd (Res.ok a) (f:=⟨f⟩)=f a:=id rfl
section
variable(env:PV.Env)(i n:Nat)(d:D)(f g:FX)(c c':FT)(fo CA Dt:FO)(fs:yc)(fd:FDs)(s t:FS)(op AJ:D->D->Res R)(F:List D->Res R)(a:FG)(as:C4)(fi fj:FI)(fp wV:FP)(T:String)
theorem B0:aA d env=.ok ((.f,d),env):=id rfl
theorem A0:dE i env=match env[i]? with|some (some r)=>.ok ((.f,r.2),env.set i (some (fz r.1,r.2)))|_=>.bad:=id rfl
theorem Du:fz .f=.f:=id rfl
theorem Dv(c:O):fz (.l c)=.f:=id rfl
theorem Ax(p:Addr):n5 (.pin p .d)=true:=id rfl
theorem A1:g5 i env=match env[i]? with|some (some r)=>.ok (r,env.set i none)|_=>.bad:=id rfl
theorem B1:aq f env=Res.bnd (f env) (f:=⟨fun p=>.ok (.val p.1.2,p.2)⟩):=id rfl
theorem B2:aw i env=match env[i]? with|some (some _)=>.ok (.var i,env)|_=>.bad:=id rfl
theorem A2:ax env=.ok ([],env):=id rfl
theorem Ay:ah fo fs env=Res.bnd (fo env) (f:=⟨fun p=>Res.bnd (fs p.2) (f:=⟨fun q=>.ok (p.1::q.1,q.2)⟩)⟩):=id rfl
theorem A3:eR env=.ok ([],env):=id rfl
theorem Az:bJ f fd env=Res.bnd (f env) (f:=⟨fun p=>Res.bnd (fd p.2) (f:=⟨fun q=>.ok (p.1.2::q.1,q.2)⟩)⟩):=id rfl
theorem B3:yz env (.val d)=.ok d:=id rfl
theorem B4:yz env (.var i)=match env[i]? with|some (some r)=>if n5 r.1 then .ok r.2 else .bad|_=>.bad:=id rfl
theorem A4:jA env (.val d)=.ok d:=id rfl
theorem A5:jA env (.var i)=match env[i]? with|some (some r)=>.ok r.2|_=>.bad:=id rfl
theorem A6:jB env []=.ok []:=id rfl
theorem A7(o:Opd)(os:List Opd):jB env (o::os)=Res.bnd (yz env o) (f:=⟨fun d=>Res.bnd (jB env os) (f:=⟨fun ds=>.ok (d::ds)⟩)⟩):=id rfl
theorem AA:dC env []=.ok []:=id rfl
theorem AB(o:Opd)(os:List Opd):dC env (o::os)=Res.bnd (jA env o) (f:=⟨fun d=>Res.bnd (dC env os) (f:=⟨fun ds=>.ok (d::ds)⟩)⟩):=id rfl
theorem A8:n5 .f=true:=id rfl
theorem A9:n5 (.l .f)=true:=id rfl
theorem B5:aX op fo CA env=Res.bnd (fo env) (f:=⟨fun p=>Res.bnd (CA p.2) (f:=⟨fun q=>Res.bnd (yz q.2 p.1) (f:=⟨fun a=>Res.bnd (yz q.2 q.1) (f:=⟨fun b=>Res.bnd (op a b) (f:=⟨fun r=>.ok (r,q.2)⟩)⟩)⟩)⟩)⟩):=id rfl
theorem Ba:bL op fo CA env=Res.bnd (fo env) (f:=⟨fun p=>Res.bnd (CA p.2) (f:=⟨fun q=>Res.bnd (jA q.2 p.1) (f:=⟨fun a=>Res.bnd (jA q.2 q.1) (f:=⟨fun b=>Res.bnd (op a b) (f:=⟨fun r=>.ok (r,q.2)⟩)⟩)⟩)⟩)⟩):=id rfl
theorem Dw:xI f env=Res.bnd (f env) (f:=⟨fun p=>match p.1.2 with | .bl k=>.ok (k,p.2)|_=>.bad⟩):=id rfl
theorem B6:oh c c' env=Res.bnd (c env) (f:=⟨fun p=>if p.1 then c' p.2 else .ok (false,p.2)⟩):=id rfl
theorem Dx:Cy c c' env=Res.bnd (c env) (f:=⟨fun p=>if p.1 then .ok (true,p.2) else c' p.2⟩):=id rfl
theorem B7:ku c env=Res.bnd (c env) (f:=⟨fun p=>.ok (!p.1,p.2)⟩):=id rfl
theorem AD:g7 op AJ fo CA Dt env=Res.bnd (fo env) (f:=⟨fun p=>Res.bnd (CA p.2) (f:=⟨fun q=>Res.bnd (yz q.2 p.1) (f:=⟨fun a=>Res.bnd (yz q.2 q.1) (f:=⟨fun b=>Res.bnd (op a b) (f:=⟨fun r=>match r with
 |(.f,.bl true)=>Res.bnd (Dt q.2) (f:=⟨fun t=>Res.bnd (yz t.2 q.1) (f:=⟨fun b=>Res.bnd (yz t.2 t.1) (f:=⟨fun c=>Res.bnd (AJ b c) (f:=⟨fun r=>.ok (r,t.2)⟩)⟩)⟩)⟩)
 |(.f,.bl false)=>.ok ((.f,.bl false),q.2)
 |_=>.bad⟩)⟩)⟩)⟩)⟩):=id rfl
theorem Bb:bY F fs env=Res.bnd (fs env) (f:=⟨fun p=>Res.bnd (jB p.2 p.1) (f:=⟨fun ds=>Res.bnd (F ds) (f:=⟨fun r=>.ok (r,p.2)⟩)⟩)⟩):=id rfl
theorem B8:dU F fs env=Res.bnd (fs env) (f:=⟨fun p=>Res.bnd (dC p.2 p.1) (f:=⟨fun ds=>Res.bnd (F ds) (f:=⟨fun r=>.ok (r,if bz r.1 r.2 then p.2 else p.2.map frz)⟩)⟩)⟩):=id rfl
theorem B9:tY fd env=Res.bnd (fd env) (f:=⟨fun p=>if p.1.length<=1000 then .ok ((.f,.tup p.1),p.2) else .bad⟩):=id rfl
theorem Ca:mX fd env=Res.bnd (fd env) (f:=⟨fun p=>if p.1.length<=1000 then .ok ((.l .f,.lst p.1),p.2) else .bad⟩):=id rfl
theorem Bc:l8 env=.ok (none,env):=id rfl
theorem Bd:fE f env=Res.bnd (f env) (f:=⟨fun p=>match p.1.2 with | .int i=>.ok (some i,p.2)|_=>.bad⟩):=id rfl
theorem Cb:sG i f env=if kM env i then(Res.bnd (f env) (f:=⟨fun(p:R×PV.Env)=>match p.2[i]? with
 |some (some (.l .f,.lst ds))=>if ds.length<sizeLine then .ok ((.f,.non),p.2.set i (some (.l .f,.lst (ds++[p.1.2])))) else .bad
 |_=>.bad⟩)) else .bad:=id rfl
theorem Be:kM env i=match env[i]? with|some (some (_,.lst _))=>true|_=>false:=id rfl
theorem Dy:C9 T fo env=Res.bnd (fo env) (f:=⟨fun p=>Res.bnd (jA p.2 p.1) (f:=⟨fun d=>.ok ((.f,.bl (lz T d)),p.2)⟩)⟩):=id rfl
theorem Cc(gg:List Nat->List D->Res R):qV gg fo fs env=Res.bnd (fo env) (f:=⟨fun p=>match yz p.2 p.1 with
 | .ok (.str l)=>Res.bnd (fs p.2) (f:=⟨fun q=>Res.bnd (jB q.2 q.1) (f:=⟨fun ds=>Res.bnd (gg l ds) (f:=⟨fun r=>.ok (r,q.2)⟩)⟩)⟩)
 |_=>.bad⟩):=id rfl
theorem Bf(ix:List (Option Nat)):l6 fi ix a c f env=Res.bnd (fi env) (f:=⟨fun p=>Res.bnd (eh a c f p.1 (cD ix p.2)) (f:=⟨fun ds=>if ds.length<=sizeLine then .ok ((.l .f,.lst ds),if flatDs ds then p.2 else p.2.map frz) else .bad⟩)⟩):=id rfl
theorem zZ:cD [] env=[]:=id rfl
theorem z6(ix:List (Option Nat)):cD (none::ix) env=none::cD ix env:=id rfl
theorem rH:qI env=.ok (true,env):=id rfl
theorem mx(ds:List D):eh a c f (d::ds) env=Res.bnd (a d env) (f:=⟨fun e=>Res.bnd (c e) (f:=⟨fun p=>if p.1 then(Res.bnd (f p.2) (f:=⟨fun q=>Res.bnd (eh a c f ds q.2) (f:=⟨fun rs=>.ok (q.1.2::rs)⟩)⟩)) else eh a c f ds p.2⟩)⟩):=id rfl
theorem rJ:qF f env=Res.bnd (f env) (f:=⟨fun p=>match p.1.2 with | .lst ds=>.ok (ds,p.2)|_=>.bad⟩):=id rfl
theorem oV:kE f env=Res.bnd (f env) (f:=⟨fun p=>match p.1.2 with | .tup ds=>.ok (ds,p.2)|_=>.bad⟩):=id rfl
theorem oW:kG f env=Res.bnd (f env) (f:=⟨fun p=>match p.1.2 with | .str l=>.ok (l.map fun c=>.str [c],p.2)|_=>.bad⟩):=id rfl
theorem rK:Ab fi fj env=match fi env with | .ok a=>.ok a|_=>fj env:=by
 unfold Ab;cases fi env <;> rfl
theorem Cd:Ab (qF f) (Ab (kE f) (kG f)) env=Res.bnd (f env) (f:=⟨fun p=>match p.1.2 with
 | .lst ds=>.ok (ds,p.2)
 | .tup ds=>.ok (ds,p.2)
 | .str l=>.ok (l.map fun c=>.str [c],p.2)
 |_=>.bad⟩):=by
 rw[rK,rK,rJ,oV,oW];cases f env with
 |ok p=>
  obtain⟨⟨o,d⟩,e⟩:=p;cases d <;> rfl
 |exc c=>rfl
 |bad=>rfl
theorem lg:gv fo env=Res.bnd (fo env) (f:=⟨fun p=>Res.bnd (yz p.2 p.1) (f:=⟨fun d=>match d with
 | .int j=>if -4611686018427387904<=j/\j<4611686018427387904 then .ok ((List.range j.toNat).map fun(k:Nat)=>D.int (k:Int),p.2) else .bad
 |_=>.bad⟩)⟩):=id rfl
theorem uw(k1 k2:Bool):kI k1 k2 fs env=Res.bnd (fs env) (f:=⟨fun p=>match p.1 with
 |[.val d1,.val d2]=>Res.bnd (eg k1 d1) (f:=⟨fun a=>Res.bnd (eg k2 d2) (f:=⟨fun b=>.ok ((a.zip b).map fun z=>D.tup [z.1,z.2],p.2)⟩)⟩)
 |_=>.bad⟩):=id rfl
theorem yX:sSeq s t env=Res.bnd (s env) (f:=⟨fun o=>match o with | .nx e=>t e|o=>.ok o⟩):=id rfl
theorem Bg:bE env=.ok (.nx env):=id rfl
theorem Ce:c5 i f env=Res.bnd (f env) (f:=⟨fun p=>if i<p.2.length then .ok (.nx (p.2.set i (some p.1))) else .bad⟩):=id rfl
theorem Bh:kA f env=Res.bnd (f env) (f:=⟨fun p=>.ok (.nx p.2)⟩):=id rfl
theorem Cf:dz f env=Res.bnd (f env) (f:=⟨fun p=>.ok (.rt p.1)⟩):=id rfl
theorem Dz:yS c s t env=Res.bnd (c env) (f:=⟨fun p=>if p.1 then s p.2 else t p.2⟩):=id rfl
theorem rL:sF fi a s env=Res.bnd (fi env) (f:=⟨fun p=>il a s p.1 p.2⟩):=id rfl
theorem oX(ds:List D):il a s (d::ds) env=Res.bnd (a d env) (f:=⟨fun e=>Res.bnd (s e) (f:=⟨fun o=>match o with
 | .nx e=>il a s ds e
 | .ct e=>il a s ds e
 | .bk e=>.ok (.nx e)
 | .rt r=>.ok (.rt r)⟩)⟩):=id rfl
theorem jl:bZ c s (n+1) env=Res.bnd (c env) (f:=⟨fun p=>if p.1 then(Res.bnd (s p.2) (f:=⟨fun o=>match o with
  | .nx e=>bZ c s n e
  | .ct e=>bZ c s n e
  | .bk e=>.ok (.nx e)
  | .rt r=>.ok (.rt r)⟩)) else .ok (.nx p.2)⟩):=id rfl
theorem bO(ds:List D)(nn:Nat)(h:ds.length=n):fBody n nn s ds=Res.bnd (s (ds.map (fun d=>some (O.f,d))++List.replicate nn none)) (f:=⟨fun o=>match o with
 | .rt r=>.ok r
 | .nx _=>.ok (.f,.non)
 |_=>.bad⟩):=by
 unfold fBody;rw[FY h];all_goals cases s (ds.map (fun d=>some (O.f,d))++List.replicate nn none) with
 |ok o=>cases o <;> rfl
 |exc c=>rfl
 |bad=>rfl
end
theorem line_le{n:Nat}(h:n<=16777216):n<=sizeLine:=by rw[line_eq];exact h
section
variable(a b:Int)(x y:List Nat)(p q:Bool)(ds es:List D)
theorem uy:yT (.int a) (.int b)=.ok (.f,.bl (a==b)):=by simp only[yT,plainD,xg,Iy,Hv]
theorem AE:yT (.str x) (.str y)=.ok (.f,.bl (x==y)):=by simp only[yT,plainD,xg,Iy,Hv]
theorem uz:C8 (.str x) (.str y)=.ok (.f,.bl (!(x==y))):=by simp only[C8,plainD,xg,Iy,Hv]
theorem rM:addD (.int a) (.int b)=.ok (.f,.int (a+b)):=id rfl
theorem lh:addD (.str x) (.str y)=if x.length+y.length<=sizeLine then .ok (.f,.str (x++y)) else .bad:=id rfl
theorem rN:addD (.lst ds) (.lst es)=if ds.length+es.length<=sizeLine then .ok (.l .f,.lst (ds++es)) else .bad:=id rfl
theorem oY:fD (.int a) (.int b)=if 0<b/\b<1073741824 then .ok (.f,.int (a / b)) else .bad:=id rfl
theorem rO:fQ (.int a) (.int b)=if 0<b then .ok (.f,.int (a%b)) else .bad:=id rfl
theorem rP:jN (.int a) (.int b)=if 0<=b/\b<=1000000/\a.natAbs<2 ^ 64 then .ok (.f,.int (a ^ b.toNat)) else .bad:=id rfl
theorem uA:Ah (.int a) (.int b)=.ok (.f,.bl (decide (a<b))):=id rfl
theorem uB:BL (.str x) (.str y)=.ok (.f,.bl (!decide (y<x))):=id rfl
theorem uC:Bw (.int a) (.int b)=.ok (.f,.bl (decide (b<a))):=id rfl
theorem rQ:fB [.lst ds]=.ok (.f,.int ds.length):=id rfl
theorem rR:fB [.str x]=.ok (.f,.int x.length):=id rfl
theorem uD:ze (.lst ds) (.int a)=match zG ds a with|some d=>.ok (.f,d)|none=>.bad:=id rfl
theorem uE:ze (.str x) (.int a)=match zG x a with|some c=>.ok (.f,.str [c])|none=>.bad:=id rfl
end
theorem flat_strs(l:List (List Nat)):flatDs (l.map D.str)=true:=by
 rw[fM,List.all_map,GW];intro b _;rfl
theorem aD(d:D):bz .f d=dj d:=by rw[bz]
theorem gJ(ds:List D):bz (.l .f) (.lst ds)=flatDs ds:=by rw[bz,gw]
theorem cG(i:Int):dj (.int i)=true:=by rw[dj];all_goals simp
theorem dw(i:Bool):dj (.bl i)=true:=by rw[dj];all_goals simp
theorem br(i:List Nat):dj (.str i)=true:=by rw[dj];all_goals simp
theorem jH(n:Nat)(l:List Int):plainDs n (l.map D.int)=true:=by
 induction l with
 |nil=>rfl
 |cons a l ih=>rw[F5,plainDs,ih,plainD];all_goals simp
theorem jI(n:Nat)(l:List (List Nat)):plainDs n (l.map D.str)=true:=by
 induction l with
 |nil=>rfl
 |cons a l ih=>rw[F5,plainDs,ih,plainD];all_goals simp
theorem my(a:Int)(l:List Int):pD (.int a) (l.map D.int)=decide (a∈l):=by
 unfold pD;rw[List.any_map,GN,List.any_eq_true,F8];constructor
 ·rintro⟨x,hx,e⟩;have e:xg (.int x) (.int a)=true:=e;rw[xg,Gh]at e;rw[<-e];exact hx
 ·intro h;refine⟨a,h,?_⟩;show xg (.int a) (.int a)=true;rw[xg,Gn]
theorem sM(a:List Nat)(l:List (List Nat)):pD (.str a) (l.map D.str)=decide (a∈l):=by
 unfold pD;rw[List.any_map,GN,List.any_eq_true,F8];constructor
 ·rintro⟨x,hx,e⟩;have e:xg (.str x) (.str a)=true:=e;rw[xg,Gh]at e;rw[<-e];exact hx
 ·intro h;refine⟨a,h,?_⟩;show xg (.str a) (.str a)=true;rw[xg,Gn]
theorem u9(a:Int)(l:List Int):DT (.int a) (.lst (l.map D.int))=.ok (.f,.bl (decide (a∈l))):=by
 unfold DT;dsimp only;rw[jH,my,plainD];all_goals simp
theorem mz{α:Type}{a:FG}{f:FX}{e:α->D}{r:α->D}(I:PV.Env->Prop)(l:List α)
  (h:∀x∈l,∀env,I env->∃wJ,a (e x) env=.ok wJ/\∃o zc,f wJ=.ok ((o,r x),zc)/\I zc):∀env,I env->eh a qI f (l.map e) env=.ok (l.map r):=by
 induction l with
 |nil=>intro env _;rfl
 |cons x l ih=>
  intro env hI;obtain⟨wJ,h1,o,zc,h4,h5⟩:=h x Fm env hI;have ih:=ih fun y hy=>h y (Ft _ hy)
  rw[F5,mx,h1,zO,rH,zO,FY rfl,h4,zO,ih zc h5];rfl
theorem oZ{a:FG}{g:FS}(P:Nat->PV.Env->Prop)(ds:List D)(h:∀i d env,ds[i]?=some d->P i env->∃wJ,a d env=.ok wJ/\∃xo,(g wJ=.ok (.nx xo)\/g wJ=.ok (.ct xo))/\P (i+1) xo):
  ∀env,P 0 env->∃env',il a g ds env=.ok (.nx env')/\P ds.length env':=by
 have key:∀(l:List D) (k:Nat) (env:PV.Env),(∀i d,l[i]?=some d->ds[k+i]?=some d)->P k env->∃env',il a g l env=.ok (.nx env')/\P (k+l.length) env':=by
  intro l;induction l with
  |nil=>exact fun k env _ hp=>⟨env,rfl,hp⟩
  |cons d l ih=>
   intro k env hd hp;obtain⟨wJ,h1,xo,h2,h3⟩:=h k d env (hd 0 d rfl) hp;obtain⟨env',h4,h5⟩:=ih (k+1) xo (fun i d e=>by have:=hd (i+1) d (by simpa using e);rw[show k+1+i=k+(i+1) by lia];exact this) h3;refine⟨env',?_,by rw[Fv,show k+(l.length+1)=k+1+l.length by lia];exact h5⟩;rw[oX,h1,zO];rcases h2 with h2|h2
   ·rw[h2,zO];exact h4
   ·rw[h2,zO];exact h4
 intro env hp;obtain⟨env',h1,h2⟩:=key ds 0 env (fun i d e=>by rw[HU];exact e) hp;exact⟨env',h1,by rw[HU]at h2;exact h2⟩
section
variable(env:PV.Env)(fo:FO)(fp wV:FP)(a b:Int)(ds:List D)(x:List Nat)
theorem Cg:oC fo fp wV env=Res.bnd (fo env) (f:=⟨fun p=>Res.bnd (fp p.2) (f:=⟨fun q=>Res.bnd (wV q.2) (f:=⟨fun t=>Res.bnd (yz t.2 p.1) (f:=⟨fun d=>Res.bnd (Bx d q.1 t.1) (f:=⟨fun r=>.ok (r,t.2)⟩)⟩)⟩)⟩)⟩):=id rfl
theorem rS(lo hi:Option Int):Bx (.str x) lo hi=.ok (.f,.str (eS x lo hi)):=id rfl
theorem rT(lo hi:Option Int)(h:HT.sIx ds.length 0 lo=0/\HT.sIx ds.length ds.length hi=ds.length):eS ds lo hi=ds:=by
 unfold eS;rw[h.1,h.2,Ic,Nat.sub_zero,Gu (Fw _)]
theorem o4:pE (.int a) (.int b)=if c8 a||c8 b then .ok (.f,.int (a*b)) else if a.natAbs<2 ^ 1000/\b.natAbs<2 ^ 1000 then .ok (.f,.int (a*b)) else .bad:=id rfl
end
section
variable(env:PV.Env)(fo:FO)(fs:yc)(f g:FX)(a b c:Int)(ds es:List D)(x y:List Nat)
theorem ve(d:D):(∃l,eg true d=.ok l/\eg false d=.bad/\me d=some l)\/(∃l,eg true d=.bad/\eg false d=.ok l/\me d=some l)\/(eg true d=.bad/\eg false d=.bad/\me d=none):=by
 cases d with
 |lst l=>exact .inl ⟨l,rfl,rfl,rfl⟩
 |tup l=>exact .inr (.inl ⟨l,rfl,rfl,rfl⟩)
 |_=>exact .inr (.inr ⟨rfl,rfl,rfl⟩)
def rU(k1 k2:Bool)(e:PV.Env)(d1 d2:D):Res (List D×PV.Env):=(eg k1 d1).bind fun a=>(eg k2 d2).bind fun b=>.ok ((a.zip b).map fun z=>D.tup [z.1,z.2],e)
def vf(e:PV.Env)(d1 d2:D):Res (List D×PV.Env):=match me d1,me d2 with|some a,some b=>.ok ((a.zip b).map fun z=>D.tup [z.1,z.2],e)|_,_=>.bad
def DA(a b:Res (List D×PV.Env)):Res (List D×PV.Env):=match a with | .ok a=>.ok a|_=>b
def sN(g:D->D->Res (List D×PV.Env))(os:List Opd):Res (List D×PV.Env):=match os with|[.val d1,.val d2]=>g d1 d2|_=>.bad
theorem uF(g h:D->D->Res (List D×PV.Env))(os:List Opd):DA (sN g os) (sN h os)=sN (fun a b=>DA (g a b) (h a b)) os:=by
 unfold sN;split <;> rfl
theorem uG(e:PV.Env)(a b:D):DA (rU true true e a b) (DA (rU true false e a b) (DA (rU false true e a b) (rU false false e a b)))=vf e a b:=by
 unfold rU vf;rcases ve a with⟨l,h1,h2,h3⟩|⟨l,h1,h2,h3⟩|⟨h1,h2,h3⟩ <;> rcases ve b with⟨m,i1,i2,i3⟩|⟨m,i1,i2,i3⟩|⟨i1,i2,i3⟩ <;> rw[h1,h2,h3,i1,i2,i3] <;> rfl
theorem AF:kP f g env=Res.bnd (f env) (f:=⟨fun p=>Res.bnd (g p.2) (f:=⟨fun q=>if hJ false p.1.2 then .ok ((.d,.dct false [p.1.2] [q.1.2]),q.2) else .bad⟩)⟩):=id rfl
theorem rV:hJ false (.str x)=true:=id rfl
end
section
variable(env:PV.Env)(f g:FX)(ds ks:List D)(i:Nat)
end
section
variable(env:PV.Env)(f:FX)(fs:yc)(ds:List D)(i:Nat)
end
noncomputable def pv:=(Zz @zO (Zz @B0 (Zz @A0 (Zz @A1 (Zz @B1 (Zz @B2 (Zz @A2 (Zz @Ay (Zz @A3 (Zz @Az (Zz @B3 (Zz @B4 (Zz @A4 (Zz @A5 (Zz @A6 (Zz @A7 (Zz @AA (Zz @AB (Zz @A8 (Zz @A9 (Zz @B5 (Zz @Ba (Zz @Dw (Zz @B6 (Zz @Dx (Zz @B7 (Zz @AD (Zz @Bb (Zz @B8 (Zz @B9 (Zz @Ca (Zz @Cg (Zz @Bc (Zz @Bd (Zz @Cb (Zz @Be (Zz @Dy (Zz @Cc (Zz @Bf (Zz @zZ (Zz @z6 (Zz @Cd (Zz @yX (Zz @Bg (Zz @Ce (Zz @Bh (Zz @Cf (Zz @Dz (Zz @List.getElem?_cons_zero.{0} (Zz @List.getElem?_cons_succ.{0} (Zz @List.set_cons_zero.{0} (Zz @List.set_cons_succ.{0} (Zz @List.length_cons.{0} (Zz @List.length_nil.{0} (Zz @List.map_cons.{0,0} (Zz @List.map_nil.{0,0} (Zz @List.replicate_succ.{0} (Zz @List.replicate_zero.{0} (Zz @List.cons_append.{0} (Zz @List.nil_append.{0} (Zz @Nat.zero_add (Zz @AF (Zz @Du (Zz @Dv @Ax))))))))))))))))))))))))))))))))))))))))))))))))))))))))))))))))
noncomputable def op:=(Zz @uy (Zz @AE (Zz @uz (Zz @rM (Zz @uA (Zz @uB (Zz @uC (Zz @rQ (Zz @rR (Zz @uD (Zz @rS (Zz @aD (Zz @gJ (Zz @cG (Zz @dw (Zz @br @rV))))))))))))))))
theorem dV(n:Nat)(w:PV.Env):(∃d,yz w (.var n)=.ok d)\/yz w (.var n)=.bad:=by
 unfold yz;dsimp only;split
 ·split
  ·exact .inl ⟨_,rfl⟩
  ·exact .inr rfl
 ·exact .inr rfl
section
variable(w:PV.Env)(op:D->D->Res R)(F:List D->Res R)(f g h:FX)(n n' n'':Nat)(x y:D)
end
section
variable(a b c d e g h i j k l m:Option R)(z:PV.Env)(r:R)(o:O)(x:D){ρ:Type}
end
end PV
namespace LW
open PySem L2 NX PV
theorem vg(a b:Nat):decide ([a]<[b])=decide (a<b):=by
 rw[GN,F8,F8];exact lt1 a b
def jJ(c:Nat):Bool:=decide (97<=c)&&decide (c<=122)
theorem fg(c:Nat):a5 [.str [c]]=.ok (.f,.bl (jJ c)):=by
 unfold a5 eX jJ;rw[bO (h:=by rfl)];simp only[pv,seval,op,vg];by_cases h1:c<97
 ·have h2:¬ 97<=c:=by lia
  simp only[h1,h2,GO,GA,Gz,Ib,zO]
 ·have h2:97<=c:=by lia
  simp only[h1,h2,GO,GA,GV,Bool.true_and,zO];by_cases h3:122<c
  ·have h4:¬ c<=122:=by lia
   simp only[h3,h4,GO,GA,Gz]
  ·have h4:c<=122:=by lia
   simp only[h3,h4,GO,GA,GV]
theorem lj{α:Type}{f:α->D}{l:List α}(h:l.length<=16777216):(l.map f).length<=sizeLine:=by
 rw[FN];exact line_le h
theorem for_list{α:Type}{a:FG}{g:FS}{e:α->D}(l:List α)(P:Nat->PV.Env->Prop)
  (h:∀k x env,l[k]?=some x->P k env->∃wJ,a (e x) env=.ok wJ/\∃xo,g wJ=.ok (.nx xo)/\P (k+1) xo):∀env,P 0 env->∃env',il a g (l.map e) env=.ok (.nx env')/\P l.length env':=by
 intro env h0;have:=oZ (a:=a) (g:=g) P (l.map e) (fun i d env hi hp=>by
  rw[Gp,Gv]at hi;obtain⟨x,hx,rfl⟩:=hi;obtain⟨wJ,h1,xo,h2,h3⟩:=h i x env hx hp;exact⟨wJ,h1,xo,.inl h2,h3⟩) env h0
 rwa [FN]at this
abbrev yA:=List (List Nat)
theorem o5{α β:Type}{l:List α}(f:α->β):(l.map f).length=l.length:=FN f
theorem ec:(false=true)=False:=Iu
theorem o6{α:Type}{l:List α}{i:Nat}{a:α}(h:l[i]?=some a):∃h:i<l.length,l[i]=a:=FE.mp h
theorem rW{α:Type}{l:List α}{i:Nat}(h:i<l.length):l[i]?=some l[i]:=Fq h
theorem o7{α β:Type}{f:α->β}{a:α}{l:List α}:(a::l).map f=f a::l.map f:=F5
theorem v7{α:Type}{a b:α}(h:a∈[b]):a=b:=Gy.mp h
theorem v9{α β:Type}{f:α->β}{l:List α}{b:β}(h:b∈l.map f):∃a,a∈l/\f a=b:=List.mem_map.mp h
theorem uH{α:Type}{a:α}{s t:List α}(h:a∈s++t):a∈s\/a∈t:=FQ.mp h
theorem fC{α:Type}{s t:List α}:(s++t).length=s.length+t.length:=FU
theorem aJ{s t:FS}{env env':PV.Env}(h:s env=.ok (.nx env')):sSeq s t env=t env':=by rw[yX,h,zO]
theorem fm{c:FT}{g:FS}(P:Nat->PV.Env->Prop)(fin:PV.Env->Prop)(h:∀k env,P k env->(∃wJ,c env=.ok (false,wJ)/\fin wJ)\/(∃wJ,c env=.ok (true,wJ)/\∃xo k',g wJ=.ok (.nx xo)/\k'<k/\P k' xo)):
  ∀n k env,k<n->P k env->∃env',bZ c g n env=.ok (.nx env')/\fin env'
 | 0,k,env,hk,_=>absurd hk (Nat.not_lt_zero _)
 |n+1,k,env,hk,hp=>by
  rcases h k env hp with⟨wJ,h1,h2⟩|⟨wJ,h1,xo,k',h2,h3,h4⟩
  ·exact⟨wJ,by rw[jl,h1,zO];rfl,h2⟩
  ·obtain⟨env',e,hf⟩:=fm P fin h n k' xo (by lia) h4;refine⟨env',?_,hf⟩;rw[jl,h1,zO];dsimp only;rw[FY rfl,h2,zO];exact e
theorem uI{α:Type}{l:List α}(h:l.length<=100000):l.length<sizeLine:=Fu (GH _) (line_le (by lia))
theorem gc:∀l:yA,cv (l.map D.str)=some l
 |[]=>rfl
 |a::l=>by
  rw[o7,cv,gc l];rfl
def cell(ns:List Int)(k:Nat):Int:=ns.getD k 0
theorem ft(ns:List Int)(k:Nat):ar [.lst (ns.map D.int),.int (k:Int)]=.ok (.f,.int (cell ns k)):=by
 unfold ar de cell;rw[bO (h:=by rfl)];simp only[pv,seval,op,o5];by_cases h:k<ns.length
 ·have h1:(k:Int)<(ns.length:Int):=by lia
  have h2:zG (ns.map D.int) (k:Int)=some (.int (ns.getD k 0)):=cB (by rw[Gp,FC,rW h];rfl);simp only[h1,GO,pv,seval,h2]
 ·have h1:¬ (k:Int)<(ns.length:Int):=by lia
  simp only[h1,GA,pv,seval,ec,FC,List.getElem?_eq_none (Hg h),HD]
theorem mC{α:Type}(l:List α)(k:Nat):eS l none (some (k:Int))=l.take k:=by
 unfold eS;rw[HT.iT,HT.j4,Ic,Nat.sub_zero];by_cases h:k<=l.length
 ·rw[Nat.min_eq_left h]
 ·rw[Nat.min_eq_right (by lia),Gu (Fw _),Gu (by lia)]
theorem mD{α:Type}(l:List α)(k:Nat):eS l (some (k:Int)) none=l.drop k:=by
 unfold eS;rw[HT.iT,HT.j4];by_cases h:k<=l.length
 ·rw[Nat.min_eq_left h,Gu (by rw[Gw];exact Fw _)]
 ·rw[Nat.min_eq_right (by lia),HJ (Fw _),HJ (by lia),List.take_nil]
theorem rX(j:Int)(h0:0<=j)(h:j<=1000)(fo:FO)(env env':PV.Env)(o:Opd)(e1:fo env=.ok (o,env'))(e2:yz env' o=.ok (.int j)):gv fo env=.ok ((List.range j.toNat).map fun(k:Nat)=>D.int (k:Int),env'):=by
 rw[lg,e1,zO];dsimp only;rw[e2,zO];dsimp only;rw[FY (by lia)]
theorem iL(x b:Int)(h:0<b):fQ (.int x) (.int b)=.ok (.f,.int (x%b)):=by rw[rO,FY h]
theorem mE(x b:Int)(h:0<b)(h2:b<=1000):fD (.int x) (.int b)=.ok (.f,.int (x / b)):=by rw[oY,FY (by lia)]
def jK(c:Nat):Bool:=decide (48<=c)&&decide (c<=57)
theorem fu(c:Nat):a6 [.str [c]]=.ok (.f,.bl (jK c)):=by
 unfold a6 eY jK;rw[bO (h:=by rfl)];simp only[pv,seval,op,vg];by_cases h1:c<48
 ·have h2:¬ 48<=c:=by lia
  simp only[h1,h2,GO,GA,Gz,Ib,zO]
 ·have h2:48<=c:=by lia
  simp only[h1,h2,GO,GA,GV,Bool.true_and,zO];by_cases h3:57<c
  ·have h4:¬ c<=57:=by lia
   simp only[h3,h4,GO,GA,Gz]
  ·have h4:c<=57:=by lia
   simp only[h3,h4,GO,GA,GV]
def kd(c:Nat):Nat:=if jJ c then 0 else if jK c then 1 else if c=32 then 2 else if c=59 then 3 else 4
def kW:Nat->List Nat
 | 0=>[108,101,116,116,101,114]
 | 1=>[102,105,103,117,114,101]
 | 2=>[98,108,97,110,107]
 |_=>[115,101,109,105,99,111,108,111,110]
theorem jm{a b:Nat}(ha:a<4)(hb:b<4):(kW a==kW b)=decide (a=b):=by
 have:a=0\/a=1\/a=2\/a=3:=by lia
 have:b=0\/b=1\/b=2\/b=3:=by lia
 rcases ‹a=0\/_› with rfl|rfl|rfl|rfl <;> rcases ‹b=0\/_› with rfl|rfl|rfl|rfl <;> decide
theorem ij(c:Nat)(h:kd c<4):aG [.str [c]]=.ok (.f,.str (kW (kd c))):=by
 have hl:=fg c;have hf:=fu c;unfold aG hX;rw[bO (h:=by rfl)];unfold kd at h ⊢;cases h1:jJ c with
 |true=>
  rw[h1]at hl;simp only[pv,seval,op,hl,aD,dw] <;> rfl
 |false=>
  rw[h1]at hl h;cases h2:jK c with
  |true=>
   rw[h2]at hf;simp only[pv,seval,op,hl,hf,aD,dw,ec] <;> rfl
  |false=>
   rw[h2]at hf h;rw[F3 FR,F3 FR]at h ⊢;by_cases h3:c=32
   ·subst h3;simp only[pv,seval,op,hl,hf,aD,dw,ec] <;> rfl
   ·rw[F3 h3]at h ⊢;by_cases h4:c=59
    ·subst h4;simp only[pv,seval,op,hl,hf,aD,dw,ec] <;> rfl
    ·rw[F3 h4]at h;exact absurd h (Gx _)
theorem bX{t:List Nat}{i c:Nat}(h:t[i]?=some c):ze (.str t) (.int (i:Int))=.ok (.f,.str [c]):=by
 rw[uE,cB h]
theorem rY(t:List Nat)(ht:t.length<=50000)(s n k:Nat)(hk:k<3)(hn:1<=n)(zT:∀i,s<=i->i<s+n->∃c,t[i]?=some c/\kd c=k)(DB:s+n=t.length\/∃c,t[s+n]?=some c/\kd c<4/\kd c≠k):ay [.str t,.int (s:Int),.str (kW k)]=.ok (.f,.int ((s+n:Nat):Int)):=by
 have hle:s+n<=t.length:=by
  obtain⟨c,hc,_⟩:=zT (s+n-1) (by lia) (by lia);have:=(o6 hc).1;lia
 unfold ay cU;rw[bO (h:=by rfl)];rw[aJ (env':=[some (.f,.str t),some (.f,.int (s:Int)),some (.f,.str (kW k)),some (.f,.int ((s+1:Nat):Int))]) (by simp only[pv,seval,op] <;> rfl)];have h3:(kW k==[115,101,109,105,99,111,108,111,110])=false:=by
  rw[show([115,101,109,105,99,111,108,111,110]:List Nat)=kW 3 from rfl,jm (by lia) (by lia)];exact FH (by lia)
 rw[aJ (env':=[some (.f,.str t),some (.f,.int (s:Int)),some (.f,.str (kW k)),some (.f,.int ((s+1:Nat):Int))]) (by simp only[pv,seval,op,h3,ec])];obtain⟨env',hw,rfl⟩:=fm (c:=oh (xI (aX Ah (aw 3) (aq (bY fB (ah (aw 0) ax))))) (xI (bL yT (aq (dU aG (ah (aq (aX ze (aw 0) (aw 3))) ax))) (aw 2)))) (g:=bB) (fun m env=>∃e:Nat,s+1<=e/\e+m=s+n/\env=[some (.f,.str t),some (.f,.int (s:Int)),some (.f,.str (kW k)),some (.f,.int (e:Int))]) (fun env=>env=[some (.f,.str t),some (.f,.int (s:Int)),some (.f,.str (kW k)),some (.f,.int ((s+n:Nat):Int))]) (by
  rintro m env ⟨e,he1,E5,rfl⟩;by_cases hm:m=0
  ·left;have ee:e=s+n:=by lia
   subst ee;refine⟨_,?_,rfl⟩;rcases DB with DB|⟨c,hc,hc4,Ci⟩
   ·have yy:decide (((s+n:Nat):Int)<(t.length:Int))=false:=FH (by lia);simp only[pv,seval,op,yy,ec]
   ·have yy:decide (((s+n:Nat):Int)<(t.length:Int))=true:=F7 (by have:=(o6 hc).1;lia);have yx:=bX hc;have zF:=ij c hc4;have CB:(kW (kd c)==kW k)=false:=by
     rw[jm hc4 (by lia)];exact FH Ci
    simp only[pv,seval,op,yy,yx,zF,aD,br,CB]
  ·right;obtain⟨c,hc,Ci⟩:=zT e (by lia) (by lia);have yy:decide ((e:Int)<(t.length:Int))=true:=F7 (by have:=(o6 hc).1;lia);have yx:=bX hc;have zF:=ij c (by lia);rw[Ci]at zF;have heq:(kW k==kW k)=true:=Gn _;refine⟨[some (.f,.str t),some (.f,.int (s:Int)),some (.f,.str (kW k)),some (.f,.int (e:Int))],?_,[some (.f,.str t),some (.f,.int (s:Int)),some (.f,.str (kW k)),some (.f,.int ((e+1:Nat):Int))],m-1,?_,by lia,e+1,by lia,by lia,rfl⟩
   ·simp only[pv,seval,op,yy,yx,zF,aD,br,heq]
   ·unfold bB;simp only[pv,seval,op] <;> rfl) 100000 (n-1) [some (.f,.str t),some (.f,.int (s:Int)),some (.f,.str (kW k)),some (.f,.int ((s+1:Nat):Int))] (by lia) ⟨s+1,Fw _,by lia,rfl⟩
 unfold c9 cT;rw[aJ hw];simp only[pv,seval]
theorem rZ(t:List Nat)(s:Nat):ay [.str t,.int (s:Int),.str (kW 3)]=.ok (.f,.int ((s+1:Nat):Int)):=by
 unfold ay cU;rw[bO (h:=by rfl)];rw[aJ (env':=[some (.f,.str t),some (.f,.int (s:Int)),some (.f,.str (kW 3)),some (.f,.int ((s+1:Nat):Int))]) (by simp only[pv,seval,op] <;> rfl)];have h3:(kW 3==[115,101,109,105,99,111,108,111,110])=true:=by decide
 simp only[pv,seval,op,h3]
structure Chk(c:List Nat)(k:Nat):Prop where
 ne:c≠[]
 k4:k<4
 all:∀x∈c,kd x=k
 one:k=3->c.length=1
 fig:k=1->c.length<=60/\(1<c.length->c.head?≠some 48)
theorem o8{c:List Nat}(h:Chk c 1):aH [.str c]=.ok (.f,.non):=by
 obtain⟨E6,h0⟩:=h.fig rfl;unfold aH cW;rw[bO (h:=by rfl)];have c1:decide ((c.length:Int)>60)=false:=FH (by lia);have c1:decide (60<(c.length:Int))=false:=c1;rw[aJ (env':=[some (.f,.str c)]) (by simp only[pv,seval,op,c1,ec])];by_cases h1:1<c.length
 ·have c2:decide (1<(c.length:Int))=true:=F7 (by lia);obtain⟨x,r,rfl⟩:∃x r,c=x::r:=by
   cases c with
   |nil=>exact absurd rfl h.ne
   |cons x r=>exact⟨x,r,rfl⟩
  have hx:x≠48:=fun z=>h0 h1 (by rw[z];rfl)
  have yx:ze (.str (x::r)) (.int 0)=.ok (.f,.str [x]):=bX (i:=0) rfl;have he:(([x]:List Nat)==[48])=false:=by
   rw[F1];intro z;exact hx (Hi z).1
  generalize x::r=cc at c2 yx;simp only[pv,seval,op,c2,yx,he,ec] <;> rfl
 ·have c2:decide (1<(c.length:Int))=false:=FH (by lia);simp only[pv,seval,op,c2,ec] <;> rfl
inductive Chs:List (List Nat×Nat)->Prop
 |nil:Chs []
 |one {c:List Nat}{k:Nat}:Chk c k->Chs [(c,k)]
 |cons {c d:List Nat}{k j:Nat}{l:List (List Nat×Nat)}:Chk c k->(k=3\/k≠j)->Chs ((d,j)::l)->Chs ((c,k)::(d,j)::l)
theorem Chs.head{c:List Nat}{k:Nat}{l:List (List Nat×Nat)}(h:Chs ((c,k)::l)):Chk c k/\Chs l/\(k=3\/l=[]\/∃d j l',l=(d,j)::l'/\k≠j/\Chk d j):=by
 cases h with
 |one h=>exact⟨h,.nil,.inr (.inl rfl)⟩
 |cons h hk hl=>
  refine⟨h,hl,?_⟩;rcases hk with hk|hk
  ·exact .inl hk
  ·refine .inr (.inr ⟨_,_,_,rfl,hk,?_⟩);cases hl with
   |one h=>exact h
   |cons h _ _=>exact h
def txt(l:List (List Nat×Nat)):List Nat:=(l.map (·.1)).flatten
def AG(l:List (List Nat×Nat)):yA:=(l.filter fun z=>!(z.2==2)).map (·.1)
theorem bt(c:List Nat)(k:Nat)(l:List (List Nat×Nat)):txt ((c,k)::l)=c++txt l:=by
 unfold txt;rw[o7,GR]
theorem eE(c:List Nat)(k:Nat)(l:List (List Nat×Nat)):AG ((c,k)::l)=if k=2 then AG l else c::AG l:=by
 unfold AG;by_cases h:k=2
 ·rw[List.filter_cons_of_neg (by rw[h];exact FR),FY h]
 ·rw[List.filter_cons_of_pos (by show(!(k==2))=true;rw[F1.mpr h];rfl),F3 h,o7]
theorem eF{pre c post:List Nat}{i:Nat}(h1:pre.length<=i)(h2:i<pre.length+c.length):∃x∈c,(pre++(c++post))[i]?=some x:=by
 rw[F0 h1,Hu (by lia),rW (by lia)];exact⟨_,GY _,rfl⟩
theorem o9{pre c post:List Nat}{k:Nat}(hl:(pre++(c++post)).length<=50000)(h:Chk c k)(hp:k=3\/post=[]\/∃x r,post=x::r/\kd x<4/\kd x≠k):ay [.str (pre++(c++post)),.int (pre.length:Int),.str (kW k)]=.ok (.f,.int ((pre.length+c.length:Nat):Int)):=by
 have hc:=Gs.mpr h.ne;by_cases h3:k=3
 ·subst h3;rw[rZ,h.one rfl]
 ·have CC:=h.k4;refine rY _ hl pre.length c.length k (by lia) (by lia) (fun i h1 h2=>?_) ?_
  ·obtain⟨x,hx,e⟩:=eF (post:=post) h1 h2;exact⟨x,e,h.all x hx⟩
  ·rcases hp.resolve_left h3 with rfl|⟨x,r,rfl,hx⟩
   ·left;rw[FJ,fC]
   ·right;refine⟨x,?_,hx⟩;rw[F0 (by lia),F0 (by lia),show pre.length+c.length-pre.length-c.length=0 by lia];rfl
theorem r6(pre c post:List Nat):eS (pre++(c++post)) (some (pre.length:Int)) (some ((pre.length+c.length:Nat):Int))=c:=by
 unfold eS;have e1:HT.sIx (pre++(c++post)).length 0 (some (pre.length:Int))=pre.length:=by
  unfold HT.sIx;simp;lia
 have e2:HT.sIx (pre++(c++post)).length (pre++(c++post)).length (some ((pre.length+c.length:Nat):Int))=pre.length+c.length:=by
  unfold HT.sIx;simp;lia
 rw[e1,e2,List.drop_left,show pre.length+c.length-pre.length=c.length by lia,List.take_left]
theorem ll{pre c post:List Nat}{k:Nat}(hl:(pre++(c++post)).length<=50000)(h:Chk c k)(hp:k=3\/post=[]\/∃x r,post=x::r/\kd x<4/\kd x≠k)(out:yA)(ho:out.length<=50000)(t3 t4 t5:Option R):
  ∃u3 u4 u5,bT [some (.f,.str (pre++(c++post))),some (.l .f,.lst (out.map D.str)),some (.f,.int ((pre.length:Nat):Int)),t3,t4,t5]=.ok (.nx [some (.f,.str (pre++(c++post))),some (.l .f,.lst ((if k=2 then out else out++[c]).map D.str)),some (.f,.int ((pre.length+c.length:Nat):Int)),u3,u4,u5]):=by
 have hc:=Gs.mpr h.ne;obtain⟨x,hx,yx⟩:=eF (pre:=pre) (c:=c) (post:=post) (i:=pre.length) (Fw _) (by lia);have yx:=bX yx;have E7:=h.all x hx;have zF:=ij x (by rw[E7];exact h.k4);rw[E7]at zF;have DD:=o9 hl h hp;have z7:=r6 pre c post;have hz:(out.map D.str).length<sizeLine:=uI (by rw[o5];lia);generalize pre++(c++post)=T at yx DD z7;refine⟨some (.f,.str (kW k)),some (.f,.int ((pre.length+c.length:Nat):Int)),some (.f,.str c),?_⟩;unfold bT;rw[aJ (env':=[some (.f,.str T),some (.l .f,.lst (out.map D.str)),some (.f,.int ((pre.length:Nat):Int)),some (.f,.str (kW k)),t4,t5]) (by simp only[pv,seval,op,yx,zF,aD,br])];rw[aJ (env':=[some (.f,.str T),some (.l .f,.lst (out.map D.str)),some (.f,.int ((pre.length:Nat):Int)),some (.f,.str (kW k)),some (.f,.int ((pre.length+c.length:Nat):Int)),t5]) (by simp only[pv,seval,op,DD,aD,cG])];rw[aJ (env':=[some (.f,.str T),some (.l .f,.lst (out.map D.str)),some (.f,.int ((pre.length:Nat):Int)),some (.f,.str (kW k)),some (.f,.int ((pre.length+c.length:Nat):Int)),some (.f,.str c)]) (by simp only[pv,seval,op,z7])];rw[aJ (env':=[some (.f,.str T),some (.l .f,.lst (out.map D.str)),some (.f,.int ((pre.length:Nat):Int)),some (.f,.str (kW k)),some (.f,.int ((pre.length+c.length:Nat):Int)),some (.f,.str c)]) (by
  have e1:=jm (a:=k) (b:=1) h.k4 (by decide);have e1:(kW k==[102,105,103,117,114,101])=decide (k=1):=e1;by_cases h1:k=1
  ·rw[F7 h1]at e1;rw[h1]at h;have Ci:=o8 h;have AO:dj .non=true:=rfl;simp only[pv,seval,op,e1,Ci,aD,AO]
  ·rw[FH h1]at e1;simp only[pv,seval,op,e1,ec])]
 have e2:=jm (a:=k) (b:=2) h.k4 (by decide);have e2:(kW k==[98,108,97,110,107])=decide (k=2):=e2;by_cases h2:k=2
 ·rw[F7 h2]at e2;rw[FY h2];simp only[pv,seval,op,e2,Gz,ec]
 ·rw[FH h2]at e2;rw[F3 h2,Hb];simp only[pv,seval,op,e2,GV,hz] <;> rfl
theorem pb(l:List (List Nat×Nat))(hc:Chs l)(hl:(txt l).length<=50000):dq [.str (txt l)]=.ok (.l .f,.lst ((AG l).map D.str)):=by
 obtain⟨env',hw,t3,t4,t5,rfl⟩:=fm (c:=xI (aX Ah (aw 2) (aq (bY fB (ah (aw 0) ax))))) (g:=bT) (fun m env=>∃(pre:List Nat) (out:yA) (r:List (List Nat×Nat)) (t3 t4 t5:Option R),Chs r/\r.length=m/\txt l=pre++txt r/\AG l=out++AG r/\out.length<=pre.length/\env=[some (.f,.str (txt l)),some (.l .f,.lst (out.map D.str)),some (.f,.int ((pre.length:Nat):Int)),t3,t4,t5])
  (fun env=>∃t3 t4 t5,env=[some (.f,.str (txt l)),some (.l .f,.lst ((AG l).map D.str)),some (.f,.int (((txt l).length:Nat):Int)),t3,t4,t5]) (by
  rintro m env ⟨pre,out,r,t3,t4,t5,hr,hm,ht,hk,hop,rfl⟩;cases r with
  |nil=>
   left;have ht:txt l=pre:=ht.trans (FJ _);have hk:AG l=out:=hk.trans (FJ _);have yy:decide (((pre.length:Nat):Int)<((txt l).length:Int))=false:=FH (by rw[ht];lia);refine⟨_,?_,t3,t4,t5,rfl⟩;rw[hk,<-ht] at *;simp only[pv,seval,op,yy]
  |cons z r=>
   right;obtain⟨c,k⟩:=z;obtain⟨h1,h2,h3⟩:=hr.head;have hc0:=Gs.mpr h1.ne;rw[bt]at ht;rw[eE]at hk;have yy:decide (((pre.length:Nat):Int)<((txt l).length:Int))=true:=F7 (by rw[ht,fC,fC];lia);have xZ:pre.length<=50000:=by
    rw[ht,fC]at hl;lia
   obtain⟨u3,u4,u5,e⟩:=ll (pre:=pre) (c:=c) (post:=txt r) (by rw[<-ht];exact hl) h1 (by
    refine h3.imp id fun h3=>h3.imp (fun h3=>by rw[h3];rfl) fun xu=>?_
    obtain⟨d,j,l',h3,hkj,hd⟩:=xu;obtain⟨x,rr,ed⟩:∃x rr,d=x::rr:=by
     cases d with
     |nil=>exact absurd rfl hd.ne
     |cons x rr=>exact⟨x,rr,rfl⟩
    have hx:=hd.all x (by rw[ed];exact Fm);refine⟨x,rr++txt l',by rw[h3,bt,ed];rfl,by rw[hx];exact hd.k4,by rw[hx];exact fun z=>hkj z.symm⟩) out (by lia) t3 t4 t5
   rw[<-ht]at e;refine⟨[some (.f,.str (txt l)),some (.l .f,.lst (out.map D.str)),some (.f,.int ((pre.length:Nat):Int)),t3,t4,t5],by simp only[pv,seval,op,yy],_,r.length,e,by rw[<-hm];exact GH _,pre++c,if k=2 then out else out++[c],r,u3,u4,u5,h2,rfl,by rw[ht,FD],?_,?_,by rw[fC]⟩
   ·rw[hk];split
    ·rfl
    ·rw[FD];rfl
   ·rw[fC];split
    ·lia
    ·rw[fC,GL];lia) 100000 l.length [some (.f,.str (txt l)),some (.l .f,.lst []),some (.f,.int ((([]:List Nat).length:Nat):Int)),none,none,none] (by
   have:∀l:List (List Nat×Nat),Chs l->l.length<=(txt l).length:=fun l=>by
    induction l with
    |nil=>exact fun _=>GD _
    |cons z l ih=>
     intro h;obtain⟨c,k⟩:=z;obtain⟨h1,h2,_⟩:=h.head;have:=Gs.mpr h1.ne;have:=ih h2;rw[bt,fC,Fv];lia
   have:=this l hc;lia) ⟨[],[],l,none,none,none,hc,rfl,rfl,rfl,Fw _,rfl⟩
 have BJ:lz "str" (.str (txt l))=true:=rfl;unfold dq la;rw[bO (h:=by rfl)];rw[aJ (env':=[some (.f,.str (txt l)),none,none,none,none,none]) (by simp only[pv,seval,op,BJ,Gz,ec])];rw[aJ (env':=[some (.f,.str (txt l)),some (.l .f,.lst []),none,none,none,none]) (by simp only[pv,seval,op])];rw[aJ (env':=[some (.f,.str (txt l)),some (.l .f,.lst []),some (.f,.int ((([]:List Nat).length:Nat):Int)),none,none,none]) (by simp only[pv,seval,op] <;> rfl)];unfold hZ fW;rw[aJ hw];simp only[pv,seval]
def SEM:List Nat:=[59]
def hd:List (List Nat×Nat)->Nat
 |[]=>9
 |z::_=>z.2
theorem Chs.mk{c:List Nat}{k:Nat}{l:List (List Nat×Nat)}(h:Chk c k)(hl:Chs l)(hk:k=3\/k≠hd l):Chs ((c,k)::l):=by
 cases l with
 |nil=>exact .one h
 |cons z l=>exact .cons h hk hl
theorem r9:Chk SEM 3:=⟨by decide,by decide,by decide,fun _=>rfl,(fun z=>nomatch z)⟩
theorem sa:Chk [32] 2:=⟨by decide,by decide,by decide,(fun z=>nomatch z),(fun z=>nomatch z)⟩
theorem pd(a b:List (List Nat×Nat)):txt (a++b)=txt a++txt b:=by
 unfold txt;rw[Hb,List.flatten_append]
theorem pe(env:PV.Env)(fs:FDs):oE fs env=Res.bnd (fs env) (f:=⟨fun p=>match cv p.1 with
 |some ls=>if ls.flatten.length<=sizeLine then .ok ((.f,.str ls.flatten),p.2) else .bad
 |none=>.bad⟩):=id rfl
theorem jn(B:Nat):∀l:yA,(∀x∈l,x.length<=B)->(l.map List.length).sum<=B*l.length
 |[],_=>GD _
 |x::l,h=>by
  have h1:=jn B l fun y hy=>h y (Ft _ hy)
  have h2:=h x Fm;rw[o7,Iw,Fv,Nat.mul_succ];lia
theorem m8(sep:List Nat)(ys:yA)(B:Nat)(hB:∀x∈ys,x.length<=B)(h:B*ys.length+ys.length*sep.length<=100000):iE sep [.lst (ys.map D.str)]=.ok (.f,.str (joinL sep ys)):=by
 have:=jn B ys hB;unfold iE;dsimp only;rw[gc];dsimp only;rw[FY (by lia)]
theorem gK(x b:Int)(h:0<b):0<=x%b/\x%b<b:=⟨Int.emod_nonneg _ (by lia),Int.emod_lt_of_pos _ h⟩
theorem dc(d:Nat)(h:d<10):(Nat.digitChar d).toNat=48+d:=by
 have:∀d:_root_.Fin 10,(Nat.digitChar d.1).toNat=48+d.1:=by decide
 exact this ⟨d,h⟩
theorem mF{n:Nat}(h:n<10):dg (n:Int)=[48+n]:=by
 unfold dg;rw[Hf,Nat.toDigits_of_lt_base h,o7,dc n h];rfl
theorem sd{n:Nat}(h:10<=n):dg (n:Int)=dg ((n / 10:Nat):Int)++[48+n%10]:=by
 unfold dg;rw[Hf,Hf,Nat.toDigits_of_base_le (by decide) h,Hb,o7,dc _ (Nat.mod_lt _ (by decide))];rfl
structure Dg(n:Nat):Prop where
 ne:dg (n:Int)≠[]
 all:PySem.NumText.AllDigits (dg (n:Int))
 val:PySem.NumText.digitsVal (dg (n:Int))=n
 lead:1<=n->(dg (n:Int)).head?≠some 48
theorem uJ(n:Nat):Dg n:=by
 induction n using Nat.strongRecOn with
 |ind n ih=>
  by_cases h:n<10
  ·have e:=mF h;refine⟨by rw[e];exact List.cons_ne_nil _ _,fun c hc=>?_,?_,fun h1=>?_⟩
   ·rw[e,Gy]at hc;lia
   ·rw[e];show 0*10+(48+n-48)=n;lia
   ·rw[e];show some (48+n)≠some 48;intro z;injection z;lia
  ·have e:=sd (Hg h);have I:=ih (n / 10) (by lia);refine⟨by rw[e];exact fun z=>by simp at z,fun c hc=>?_,?_,fun h1=>?_⟩
   ·rw[e]at hc;rcases uH hc with h2|h2
    ·exact I.all c h2
    ·rw[Gy]at h2;lia
   ·rw[e,PySem.NumText.digitsVal_snoc,I.val];lia
   ·have hl:=I.lead (by lia);have CB:=I.ne;rw[e];cases hq:dg ((n / 10:Nat):Int) with
    |nil=>exact absurd hq CB
    |cons x r=>rw[hq]at hl;exact hl
theorem dg_len:∀(k n:Nat),n<10 ^ (k+1)->(dg (n:Int)).length<=k+1
 | 0,n,h=>by rw[mF (by simpa using h)];exact Fw _
 |k+1,n,h=>by
  by_cases h10:n<10
  ·rw[mF h10];show 1<=_;lia
  ·rw[sd (Hg h10),fC,GL];have:=dg_len k (n / 10) (by rw[Nat.pow_succ]at h;lia);lia
def Nm(i:Int):Prop:=0<=i/\i<10 ^ 60
theorem Nm.nat{i:Int}(h:Nm i):∃n:Nat,i=(n:Int)/\n<10 ^ 60:=by
 obtain⟨n,e⟩:=F2 h.1;refine⟨n,e,?_⟩;have:=h.2;rw[e]at this;have e2:((10 ^ 60:Nat):Int)=10 ^ 60:=by norm_cast
 lia
theorem Nm.len{i:Int}(h:Nm i):(dg i).length<=60:=by
 obtain⟨n,rfl,hn⟩:=h.nat
 exact dg_len 59 n hn
theorem se{x:Nat}(h:48<=x/\x<=57):kd x=1:=by
 unfold kd;rw[F3 (by unfold jJ;rw[Fx,F8,F8];lia),FY (by unfold jK;rw[Fx,F8,F8];lia)]
theorem Nm.ck{i:Int}(h:Nm i):Chk (dg i) 1:=by
 have hl:=h.len;obtain⟨n,rfl,hn⟩:=h.nat
 have D:=uJ n;refine⟨D.ne,by decide,fun x hx=>se (D.all x hx),(fun z=>nomatch z),fun _=>⟨hl,fun h1=>D.lead ?_⟩⟩;apply Classical.byContradiction;intro h0;rw[mF (by lia:n<10)]at h1;exact absurd h1 (by simp)
theorem Nm.log{i:Int}(h:Nm i):i.natAbs.log2<1920:=by
 obtain⟨n,rfl,hn⟩:=h.nat
 rw[Int.natAbs_natCast];rcases Nat.eq_zero_or_pos n with e|e
 ·rw[e];decide
 ·exact(Nat.log2_lt (Nat.ne_of_gt e)).mpr (Nat.lt_trans hn (by decide +kernel))
theorem uK{i:Int}(h:Nm i):ri [.int i]=.ok (.f,.str (dg i)):=by
 unfold ri;dsimp only;rw[FY h.log]
theorem dy{g:FS}{x:FB}{env env':PV.Env}(h:g env=.ok (.nx env')):ej g x env=x env':=by
 unfold ej;rw[h]
theorem sf{c:FT}{x:FB}{env env':PV.Env}(h:c env=.ok (true,env')):Ac c x env=x env':=by
 unfold Ac;rw[h]
theorem sO{fs:yc}{env env':PV.Env}{o:Opd}(h:fs env=.ok ([o],env')):d8 fs env=true:=by
 unfold d8;rw[h];rfl
theorem ng{np nn:Nat}{x:FB}{ds:List D}(hl:ds.length=np)(h:x (ds.map (fun d=>some (O.f,d))++List.replicate nn none)=true):et np nn x ds=true:=by
 unfold et;rw[h,F7 hl];rfl
theorem uL{F:List D->Bool}{fs:yc}{env env':PV.Env}{os:List Opd}{ds:List D}(h:fs env=.ok (os,env'))(hd:dC env' os=.ok ds)(hF:F ds=true):xOf (oD F fs) env=true:=by
 unfold xOf oD;rw[h];dsimp only;rw[hd];dsimp only;rw[FY hF];rfl
theorem uM{cx bx:FB}{c:FT}{g:FS}{n:Nat}{env:PV.Env}(h:cx env=true):bV cx c bx g (n+1) env=true:=by
 unfold bV;rw[h];rfl
theorem pf{cx bx:FB}{c:FT}{g:FS}{n:Nat}{env e1:PV.Env}(hc:c env=.ok (true,e1))(h:bx e1=true):bV cx c bx g (n+1) env=true:=by
 unfold bV;rw[hc];dsimp only;rw[h,Bool.true_or,Ht]
theorem uN{cx bx:FB}{c:FT}{g:FS}{n:Nat}{env e1 e2:PV.Env}(hc:c env=.ok (true,e1))(hg:g e1=.ok (.nx e2))(h:bV cx c bx g n e2=true):bV cx c bx g (n+1) env=true:=by
 unfold bV;rw[hc];dsimp only;rw[hg];dsimp only;rw[h,Ht,Ht]
theorem pg(env:PV.Env)(f:FX):oQ f env=Res.bnd (f env) (f:=⟨fun p=>match p.1.2 with
 | .str l=>if(rp l).length<=sizeLine then .ok ((.f,.str (rp l)),p.2) else .bad
 |_=>.bad⟩):=id rfl
theorem kd4{c:Nat}(h:kd c=4):jJ c=false/\jK c=false/\c≠32/\c≠59:=by
 unfold kd at h;split at h
 ·cases h
 ·rename_i h1;split at h
  ·cases h
  ·rename_i h2;split at h
   ·cases h
   ·rename_i h3;split at h
    ·cases h
    ·rename_i h4;exact⟨Bool.not_eq_true _▸h1,Bool.not_eq_true _▸h2,h3,h4⟩
theorem nh{c:Nat}(h:kd c=4)(hr:(rp [c]).length<=1000):cw [.str [c]]=true:=by
 obtain⟨h1,h2,h3,h4⟩:=kd4 h;have p1:=fg c;have p2:=fu c;rw[h1]at p1;rw[h2]at p2;have e3:(([c]:List Nat)==[32])=false:=F1.mpr fun z=>h3 (Hi z).1
 have e4:(([c]:List Nat)==[59])=false:=F1.mpr fun z=>h4 (Hi z).1
 have z1:(rp [c]).length<=sizeLine:=line_le (by lia);refine ng rfl ?_;show ej _ _ [some (O.f,D.str [c])]=true;rw[dy (env':=[some (.f,.str [c])]) (by simp only[pv,seval,op,p1,aD,dw,ec])];rw[dy (env':=[some (.f,.str [c])]) (by simp only[pv,seval,op,p2,aD,dw,ec])];rw[dy (env':=[some (.f,.str [c])]) (by simp only[pv,seval,op,e3,ec])];rw[dy (env':=[some (.f,.str [c])]) (by simp only[pv,seval,op,e4,ec])];generalize hRP:rp [c]=RP at z1 hr;have z2:∀l:List Nat,l.length=21->(([l,RP]:yA).flatten.length<=sizeLine):=fun l hl=>line_le (by
  simp only[GR,List.flatten_nil,fC,HL];lia)
 refine sO (o:=.val (.str ([[110,111,32,119,111,114,100,32,104,97,115,32,116,104,101,32,115,105,103,110,32],RP]:yA).flatten)) (env':=[some (.f,.str [c])]) ?_;simp only[pv,seval,op,pe,pg,hRP,z1,cv,Option.map_some];rw[FY (z2 _ rfl)];simp only[pv,seval,op]
theorem uO{T:List Nat}{i c:Nat}(yx:T[i+1]?=some c)(h:kd c=4)(hr:(rp [c]).length<=1000):b5 [.str T,.int (i:Int),.str (kW 2)]=true:=by
 have hk:=nh h hr;have zU:=bX yx;rw[show((i+1:Nat):Int)=(i:Int)+1 by lia]at zU;have yy:decide ((i:Int)+1<(T.length:Int))=true:=F7 (by
  have:=(o6 yx).1;lia)
 have ek:(kW 2==[115,101,109,105,99,111,108,111,110])=false:=rfl;refine ng rfl ?_;show ej _ _ [some (O.f,D.str T),some (O.f,D.int (i:Int)),some (O.f,D.str (kW 2)),none]=true;generalize kW 2=KW at ek ⊢;rw[dy (env':=[some (.f,.str T),some (.f,.int (i:Int)),some (.f,.str KW),some (.f,.int ((i:Int)+1))]) (by simp only[pv,seval,op])];rw[dy (env':=[some (.f,.str T),some (.f,.int (i:Int)),some (.f,.str KW),some (.f,.int ((i:Int)+1))]) (by simp only[pv,seval,op,ek,ec])];refine uM (n:=99999) ?_;unfold cV;rw[sf (env':=[some (.f,.str T),some (.f,.int (i:Int)),some (.f,.str KW),some (.f,.int ((i:Int)+1))]) (by simp only[pv,seval,op,yy])];exact uL (os:=[.val (.str [c])]) (ds:=[.str [c]]) (env':=[some (.f,.str T),some (.f,.int (i:Int)),some (.f,.str KW),some (.f,.int ((i:Int)+1))]) (by simp only[pv,seval,op,zU]) (by simp only[pv,seval]) hk
theorem ph{w:List Nat}(h:60<w.length\/1<w.length/\w.head?=some 48):bC [.str w]=true:=by
 refine ng rfl ?_;show(Ac _ _ [some (O.f,D.str w)]||ej _ _ [some (O.f,D.str w)])=true;by_cases E6:60<w.length
 ·have c1:decide (60<(w.length:Int))=true:=F7 (by lia);rw[sf (env':=[some (.f,.str w)]) (by simp only[pv,seval,op,c1])];rw[sO (o:=.val _) (env':=[some (.f,.str w)]) (by simp only[pv,seval,op] <;> rfl)];rfl
 ·have c1:decide (60<(w.length:Int))=false:=FH (by lia);obtain⟨h1,h2⟩:=h.resolve_left E6;have c2:decide (1<(w.length:Int))=true:=F7 (by lia);obtain⟨r,rfl⟩:∃r,w=48::r:=by
   cases w with
   |nil=>cases h2
   |cons x r=>exact⟨r,by cases h2;rfl⟩
  have yx:ze (.str (48::r)) (.int 0)=.ok (.f,.str [48]):=bX (i:=0) rfl;have he:(([48]:List Nat)==[48])=true:=rfl;generalize 48::r=cc at c1 c2 yx ⊢;refine(FZ _ _).mpr (.inr ?_);rw[dy (env':=[some (.f,.str cc)]) (by simp only[pv,seval,op,c1,ec])];rw[sf (env':=[some (.f,.str cc)]) (by simp only[pv,seval,op,c2,yx,he])];exact sO (o:=.val _) (env':=[some (.f,.str cc)]) (by simp only[pv,seval,op] <;> rfl)
theorem sP{F:List D->Bool}{fs:yc}{env env':PV.Env}{os:List Opd}{ds:List D}(h:fs env=.ok (os,env'))(hd:dC env' os=.ok ds)(hF:F ds=true):fF F fs env=true:=by
 unfold fF;rw[h];dsimp only;rw[hd];exact hF
def Rz(T:List Nat)(s m:Nat):Prop:=∀(out:yA) (t3 t4 t5:Option R) (n:Nat),out.length<=s->m<=n->bV fX (xI (aX Ah (aw 2) (aq (bY fB (ah (aw 0) ax))))) cz bT n [some (.f,.str T),some (.l .f,.lst (out.map D.str)),some (.f,.int ((s:Nat):Int)),t3,t4,t5]=true
theorem sQ{T:List Nat}{s:Nat}(h:s<T.length)(out:yA)(t3 t4 t5:Option R):(xI (aX Ah (aw 2) (aq (bY fB (ah (aw 0) ax))))) [some (.f,.str T),some (.l .f,.lst (out.map D.str)),some (.f,.int ((s:Nat):Int)),t3,t4,t5]=.ok (true,[some (.f,.str T),some (.l .f,.lst (out.map D.str)),some (.f,.int ((s:Nat):Int)),t3,t4,t5]):=by
 have yy:decide (((s:Nat):Int)<(T.length:Int))=true:=F7 (by lia);generalize out.map D.str=O;simp only[pv,seval,op,yy]
theorem uP{T pre c post:List Nat}{k m:Nat}(hT:T=pre++(c++post))(hl:T.length<=50000)(h:Chk c k)(hp:k=3\/post=[]\/∃x r,post=x::r/\kd x<4/\kd x≠k)(hz:Rz T (pre.length+c.length) m):Rz T pre.length (m+1):=by
 intro out t3 t4 t5 n ho hn;obtain⟨n,rfl⟩:∃j,n=j+1:=⟨n-1,by lia⟩
 have hc:=Gs.mpr h.ne;have hlen:T.length=pre.length+(c.length+post.length):=by rw[hT,fC,fC]
 obtain⟨u3,u4,u5,e⟩:=ll (by rw[<-hT];exact hl) h hp out (by lia) t3 t4 t5;rw[<-hT]at e;refine uN (sQ (by lia) out t3 t4 t5) e (hz _ u3 u4 u5 n ?_ (by lia));split
 ·lia
 ·rw[fC,GL];lia
theorem wa{T:List Nat}{s c:Nat}(yx:T[s]?=some c)(h:kd c=4)(hr:(rp [c]).length<=1000):Rz T s 1:=by
 intro out t3 t4 t5 n ho hn;obtain⟨n,rfl⟩:∃j,n=j+1:=⟨n-1,by lia⟩
 have hk:=nh h hr;have zU:=bX yx;refine pf (sQ (o6 yx).1 out t3 t4 t5) ?_;unfold cz;refine(FZ _ _).mpr (.inl ((FZ _ _).mpr (.inl ?_)));generalize out.map D.str=O;exact sP (os:=[.val (.str [c])]) (ds:=[.str [c]]) (env':=[some (.f,.str T),some (.l .f,.lst O),some (.f,.int ((s:Nat):Int)),t3,t4,t5]) (by simp only[pv,seval,op,zU]) (by simp only[pv,seval]) hk
theorem wb{T:List Nat}{s c:Nat}(E8:T[s]?=some 32)(yx:T[s+1]?=some c)(h:kd c=4)(hr:(rp [c]).length<=1000):Rz T s 1:=by
 intro out t3 t4 t5 n ho hn;obtain⟨n,rfl⟩:∃j,n=j+1:=⟨n-1,by lia⟩
 have hk:=uO yx h hr;have zU:=bX E8;have zF:aG [.str [32]]=.ok (.f,.str (kW 2)):=ij 32 (by decide);refine pf (sQ (o6 E8).1 out t3 t4 t5) ?_;unfold cz;refine(FZ _ _).mpr (.inl ((FZ _ _).mpr (.inr ?_)));generalize out.map D.str=O;generalize kW 2=KW at hk zF;rw[dy (env':=[some (.f,.str T),some (.l .f,.lst O),some (.f,.int ((s:Nat):Int)),some (.f,.str KW),t4,t5]) (by simp only[pv,seval,op,zU,zF,aD,br])];exact sP (os:=[.var 0,.var 2,.var 3]) (ds:=[.str T,.int ((s:Nat):Int),.str KW]) (env':=[some (.f,.str T),some (.l .f,.lst O),some (.f,.int ((s:Nat):Int)),some (.f,.str KW),t4,t5]) (by simp only[pv,seval,op]) (by simp only[pv,seval]) hk
theorem wc{T pre c post:List Nat}(hT:T=pre++(c++post))(hl:T.length<=50000)(hc:c≠[])(hd:∀x∈c,kd x=1)(hp:post=[]\/∃x r,post=x::r/\kd x<4/\kd x≠1)(hb:60<c.length\/1<c.length/\c.head?=some 48):Rz T pre.length 1:=by
 intro out t3 t4 t5 n ho hn;obtain⟨n,rfl⟩:∃j,n=j+1:=⟨n-1,by lia⟩
 have hc0:=Gs.mpr hc;have Ci:=ph hb;have hlen:T.length=pre.length+(c.length+post.length):=by rw[hT,fC,fC]
 obtain⟨x,hx,yx⟩:=eF (pre:=pre) (c:=c) (post:=post) (i:=pre.length) (Fw _) (by lia);rw[<-hT]at yx;have zU:=bX yx;have zF:=ij x (by rw[hd x hx];decide);rw[hd x hx]at zF;have DD:ay [.str T,.int (pre.length:Int),.str (kW 1)]=.ok (.f,.int ((pre.length+c.length:Nat):Int)):=rY T hl pre.length c.length 1 (by decide) (by lia) (fun i h1 h2=>by
  obtain⟨x,hx,e⟩:=eF (pre:=pre) (c:=c) (post:=post) h1 h2;rw[<-hT]at e;exact⟨x,e,hd x hx⟩) (by
  rcases hp with rfl|⟨x,r,rfl,hx⟩
  ·left;rw[hlen];rfl
  ·right;refine⟨x,?_,hx⟩;rw[hT,F0 (by lia),F0 (by lia),show pre.length+c.length-pre.length-c.length=0 by lia];rfl)
 have z7:=r6 pre c post;rw[<-hT]at z7;have ek:(kW 1==[102,105,103,117,114,101])=true:=rfl;refine pf (sQ (by lia) out t3 t4 t5) ?_;unfold cz;refine(FZ _ _).mpr (.inr ?_);generalize out.map D.str=O;generalize kW 1=KW at zF DD ek;rw[dy (env':=[some (.f,.str T),some (.l .f,.lst O),some (.f,.int ((pre.length:Nat):Int)),some (.f,.str KW),t4,t5]) (by simp only[pv,seval,op,zU,zF,aD,br])];rw[dy (env':=[some (.f,.str T),some (.l .f,.lst O),some (.f,.int ((pre.length:Nat):Int)),some (.f,.str KW),some (.f,.int ((pre.length+c.length:Nat):Int)),t5]) (by simp only[pv,seval,op,DD,aD,cG])];rw[dy (env':=[some (.f,.str T),some (.l .f,.lst O),some (.f,.int ((pre.length:Nat):Int)),some (.f,.str KW),some (.f,.int ((pre.length+c.length:Nat):Int)),some (.f,.str c)]) (by simp only[pv,seval,op,z7])];rw[sf (env':=[some (.f,.str T),some (.l .f,.lst O),some (.f,.int ((pre.length:Nat):Int)),some (.f,.str KW),some (.f,.int ((pre.length+c.length:Nat):Int)),some (.f,.str c)]) (by simp only[pv,seval,op,ek])];exact uL (os:=[.var 5]) (ds:=[.str c]) (env':=[some (.f,.str T),some (.l .f,.lst O),some (.f,.int ((pre.length:Nat):Int)),some (.f,.str KW),some (.f,.int ((pre.length+c.length:Nat):Int)),some (.f,.str c)]) (by simp only[pv,seval,op]) (by simp only[pv,seval]) Ci
def DY:List (List Nat×Nat)->List Nat->Prop
 |[],_=>True
 |(c,k)::l,post=>Chk c k/\(k=3\/txt l++post=[]\/∃x r,txt l++post=x::r/\kd x<4/\kd x≠k)/\DY l post
theorem lp{T post:List Nat}{m:Nat}(hl:T.length<=50000):∀(l:List (List Nat×Nat)) (pre:List Nat),T=pre++(txt l++post)->DY l post->Rz T (pre.length+(txt l).length) m->Rz T pre.length (m+l.length)
 |[],pre,hT,_,h=>h
 |(c,k)::l,pre,hT,⟨h1,h2,h3⟩,h=>by
  rw[bt]at hT h;have DE:T=pre++(c++(txt l++post)):=by rw[hT,FD]
  refine uP DE hl h1 h2 ?_;have:=lp hl l (pre++c) (by rw[DE,FD]) h3 (m:=m) (by
   rw[fC]at h ⊢;rw[Nat.add_assoc];exact h)
  rw[fC]at this;exact this
theorem fw{T:List Nat}{m:Nat}(h:Rz T 0 m)(hm:m<=100000):a7 [.str T]=true:=by
 have BJ:lz "str" (.str T)=true:=rfl;refine ng rfl ?_;show(Ac _ _ [some (O.f,D.str T),none,none,none,none,none]||ej _ _ [some (O.f,D.str T),none,none,none,none,none])=true;refine(FZ _ _).mpr (.inr ?_);rw[dy (env':=[some (.f,.str T),none,none,none,none,none]) (by simp only[pv,seval,op,BJ,Gz,ec])];rw[dy (env':=[some (.f,.str T),some (.l .f,.lst []),none,none,none,none]) (by simp only[pv,seval,op])];rw[dy (env':=[some (.f,.str T),some (.l .f,.lst []),some (.f,.int 0),none,none,none]) (by simp only[pv,seval,op])];exact h [] none none none 100000 (Fw _) hm
theorem lq{d:D}(h:lz "str" d=false):a7 [d]=true:=by
 refine ng rfl ?_;show(Ac _ _ [some (O.f,d),none,none,none,none,none]||ej _ _ [some (O.f,d),none,none,none,none,none])=true;refine(FZ _ _).mpr (.inl ?_);rw[sf (env':=[some (.f,d),none,none,none,none,none]) (by simp only[pv,seval,op,h,GV])];exact sO (o:=.val _) (env':=[some (.f,d),none,none,none,none,none]) (by simp only[pv,seval,op] <;> rfl)
theorem pj(env:PV.Env)(f:FX):oG f env=Res.bnd (f env) (f:=⟨fun p=>match p.1.1 with
 | .l .f=>.ok ((.l (.l .f),.lst [p.1.2]),p.2)
 |_=>.bad⟩):=id rfl
theorem lr{d:D}(h:a7 [d]=true):bU [d]=true:=by
 refine ng rfl ?_;show ej _ _ [some (O.f,d),none,none]=true;rw[dy (env':=[some (.f,d),some (.l (.l .f),.lst [.lst []]),none]) (by simp only[pv,seval,op,pj])];exact uL (os:=[.var 0]) (ds:=[d]) (env':=[some (.f,d),some (.l (.l .f),.lst [.lst []]),none]) (by simp only[pv,seval,op]) (by simp only[pv,seval]) h
theorem pk{d:D}(h:a7 [d]=true):aN [d]=true:=by
 refine ng rfl ?_;show fF _ _ [some (O.f,d),none,none,none]=true;exact sP (os:=[.var 0]) (ds:=[d]) (env':=[some (.f,d),none,none,none]) (by simp only[pv,seval,op]) (by simp only[pv,seval]) (lr h)
theorem uQ{d:D}(h:a7 [d]=true):bf [d]=true:=by
 refine ng rfl ?_;show fF _ _ [some (O.f,d),none,none,none]=true;exact sP (os:=[.var 0]) (ds:=[d]) (env':=[some (.f,d),none,none,none]) (by simp only[pv,seval,op]) (by simp only[pv,seval]) (lr h)
def kd0(w:List Nat):Nat:=kd (w.headD 0)
theorem Chk.kd0{w:List Nat}{k:Nat}(h:Chk w k):LW.kd0 w=k:=by
 cases w with
 |nil=>exact absurd rfl h.ne
 |cons x r=>exact h.all x Fm
structure Wd(w:List Nat):Prop where
 c:Chk w (kd0 w)
 b:kd0 w≠2
 l:w.length<=60
theorem Wd.of{w:List Nat}{k:Nat}(h:Chk w k)(hk:k≠2)(hl:w.length<=60):Wd w:=⟨by rw[h.kd0];exact h,by rw[h.kd0];exact hk,hl⟩
theorem sR(n:Nat)(h:n<=200):jN (.int 10) (.int (n:Int))=.ok (.f,.int (10 ^ n)):=by
 rw[rP,FY (by lia),Hy]
theorem wd(x y:Int)(h:c8 x=true\/c8 y=true):pE (.int x) (.int y)=.ok (.f,.int (x*y)):=by
 rw[o4,FY];rcases h with h|h
 ·rw[h];rfl
 ·rw[h,Ht]
def si:yA:=[[109,111,118,101,115],[97],[98],[122,122]]
theorem pq:∀w∈si,Wd w:=fun w hw=>by
 have h:∀w∈si,w≠[]/\(∀x∈w,kd x=0)/\w.length<=60:=by decide
 obtain⟨h1,h2,h3⟩:=h w hw;exact .of (k:=0) ⟨h1,by decide,h2,(fun z=>nomatch z),(fun z=>nomatch z)⟩ (by decide) h3
theorem pw(x:Int):∃w,Wd w/\zG (si.map D.str) (x%4)=some (.str w):=by
 have h:=gK x 4 (by decide);obtain⟨j,hj⟩:=F2 h.1;rw[hj]at h ⊢;have CD:j<si.length:=by show j<4;lia
 refine⟨si[j],pq _ (GY _),cB ?_⟩;rw[Gp,rW CD];rfl
theorem fA(yY:Int):∃w,Wd w/\az [.int yY]=.ok (.f,.str w):=by
 have E9:jN (.int 10) (.int 64)=.ok (.f,.int (10 ^ 64)):=sR 64 (by decide);have Fb:jN (.int 10) (.int 60)=.ok (.f,.int (10 ^ 60)):=sR 60 (by decide);have EB:=iL yY (10 ^ 64) (by decide +kernel);generalize yY%10 ^ 64=y at EB;have m3:=iL y 3 (by decide);have f3:=mE y 3 (by decide) (by decide);have m4:=iL (y / 3) 4 (by decide);have EC:=iL (y / 3) (10 ^ 60) (by decide +kernel);have b60:=gK (y / 3) (10 ^ 60) (by decide +kernel);obtain⟨w4,hw4,e4⟩:=pw (y / 3);have ED:Nm (y / 3%10 ^ 60):=b60;have Fc:=uK ED;unfold az df;rw[bO (h:=by rfl)];generalize hP64:(10:Int) ^ 64=P64 at E9 EB;rw[aJ (env':=[some (.f,.int yY),some (.f,.int y)]) (by simp only[pv,↓reduceIte,Nat.reduceAdd,Nat.reduceLT,Nat.reduceLeDiff,Nat.reduceEqDiff,op,E9,EB])];cases h0:y%3==0 with
 |true=>
  refine⟨w4,hw4,?_⟩;have e4:zG [D.str [109,111,118,101,115],.str [97],.str [98],.str [122,122]] (y / 3%4)=some (.str w4):=e4;rw[yX];simp only[pv,↓reduceIte,Nat.reduceAdd,Nat.reduceLT,Nat.reduceLeDiff,Nat.reduceEqDiff,op,m3,h0,f3,m4,e4]
 |false=>
  rw[aJ (env':=[some (.f,.int yY),some (.f,.int y)]) (by simp only[pv,↓reduceIte,Nat.reduceAdd,Nat.reduceLT,Nat.reduceLeDiff,Nat.reduceEqDiff,op,m3,h0,ec])];cases h1:y%3==1 with
  |true=>
   refine⟨dg (y / 3%10 ^ 60),.of ED.ck (by decide) ED.len,?_⟩;rw[yX];generalize y / 3%10 ^ 60=z at EC Fc ⊢;generalize (10:Int) ^ 60=P60 at Fb EC;simp only[pv,↓reduceIte,Nat.reduceAdd,Nat.reduceLT,Nat.reduceLeDiff,Nat.reduceEqDiff,op,m3,h1,f3,Fb,EC,Fc]
  |false=>
   refine⟨[59],.of r9 (by decide) (by decide),?_⟩;rw[aJ (env':=[some (.f,.int yY),some (.f,.int y)]) (by simp only[pv,↓reduceIte,Nat.reduceAdd,Nat.reduceLT,Nat.reduceLeDiff,Nat.reduceEqDiff,op,m3,h1,ec])];simp only[pv,↓reduceIte,Nat.reduceAdd,Nat.reduceLT,Nat.reduceLeDiff,Nat.reduceEqDiff,op]
theorem sj(x:Int):∃c,kd c=1/\ze (.str [48,49,50,51,52,53,54,55,56,57]) (.int (x%10))=.ok (.f,.str [c]):=by
 have h:=gK x 10 (by decide);obtain⟨j,hj⟩:=F2 h.1;rw[hj]at h ⊢;have CD:j<[48,49,50,51,52,53,54,55,56,57].length:=by show j<10;lia
 have zT:∀c∈([48,49,50,51,52,53,54,55,56,57]:List Nat),kd c=1:=by decide
 exact⟨_,zT _ (GY CD),bX (rW CD)⟩
theorem ik(num:Int)(count:Nat)(hc:count<=200):∃l:List Nat,l.length=count/\(∀c∈l,kd c=1)/\aO [.int num,.int (count:Int)]=.ok (.f,.str l):=by
 obtain⟨env',hf,u0,l,u3,hl,hk,rfl⟩:=for_list (a:=jC 3) (g:=bG) (e:=fun(k:Nat)=>D.int (k:Int)) (List.range count) (fun k env=>∃(u0:Int) (l:List Nat) (u3:Option R),l.length=k/\(∀c∈l,kd c=1)/\env=[some (.f,.int u0),some (.f,.int (count:Int)),some (.f,.str l),u3]) (by
  rintro k x env hx ⟨u0,l,u3,hl,hk,rfl⟩;obtain⟨Bt,ex⟩:=o6 hx;rw[Hc]at Bt;have e1:=wd u0 48271 (.inr (by decide));have e2:=iL (u0*48271) 2147483647 (by decide);generalize u0*48271%2147483647=v at e2;have e3:=iL (v+1) 10 (by decide);obtain⟨c,hc,e4⟩:=sj (v+1);have z1:l.length+1<=sizeLine:=line_le (by lia);refine⟨[some (.f,.int u0),some (.f,.int (count:Int)),some (.f,.str l),some (.f,.int (x:Int))],rfl,[some (.f,.int (v+1)),some (.f,.int (count:Int)),some (.f,.str (l++[c])),some (.f,.int (x:Int))],?_,v+1,l++[c],some (.f,.int (x:Int)),?_,?_,rfl⟩
  ·unfold bG;rw[aJ (env':=[some (.f,.int (v+1)),some (.f,.int (count:Int)),some (.f,.str l),some (.f,.int (x:Int))]) (by
    simp only[pv,seval,op,e1,e2])]
   simp only[pv,seval,op,e3,e4,lh,z1]
  ·rw[fC,hl];rfl
  ·intro y hy;rcases uH hy with hy|hy
   ·exact hk y hy
   ·rw[v7 hy];exact hc) [some (.f,.int num),some (.f,.int (count:Int)),some (.f,.str []),none] ⟨num,[],none,rfl,(fun c hc=>nomatch hc),rfl⟩
 rw[Hc]at hl;refine⟨l,hl,hk,?_⟩;have hr:=rX (count:Int) (by lia) (by lia) (aw 1) [some (.f,.int num),some (.f,.int (count:Int)),some (.f,.str []),none] [some (.f,.int num),some (.f,.int (count:Int)),some (.f,.str []),none] (.var 1) rfl rfl;rw[Hy]at hr;unfold aO dh;rw[bO (h:=by rfl)];rw[aJ (env':=[some (.f,.int num),some (.f,.int (count:Int)),some (.f,.str []),none]) (by simp only[pv,seval,op])];rw[aJ (env':=[some (.f,.int u0),some (.f,.int (count:Int)),some (.f,.str l),u3]) (by
  unfold cI;rw[rL,hr,zO];exact hf)]
 unfold cA;simp only[pv,seval] <;> rfl
def ni:List Nat:=[33,34,35,36,38,39,40,41,42,43,44,45,46,47,58,60,61,62,63,64,65,66,67,68,69,70,71,72,73,74,75,76,77,78,79,80,81,82,83,84,85,86,87,88,89,90,91,92,93,94,95,96,123,124,125,126,10,9]
theorem sk:∀c∈ni,kd c=4:=by decide
theorem so:∀c∈ni,(rp [c]).length<=1000:=by decide +kernel
inductive Bad:List Nat->Prop
 |sign {c:Nat}:kd c=4->(rp [c]).length<=1000->Bad [c]
 |figs {w:List Nat}:w≠[]->(∀x∈w,kd x=1)->(60<w.length\/1<w.length/\w.head?=some 48)->w.length<=200->Bad w
theorem mG(yY:Int):∃w,Bad w/\bg [.int yY]=.ok (.f,.str w):=by
 have Fe:jN (.int 10) (.int 20)=.ok (.f,.int (10 ^ 20)):=sR 20 (by decide);have f3:=mE yY 3 (by decide) (by decide);have EE:=iL (yY / 3) (10 ^ 20) (by decide);generalize yY / 3%10 ^ 20=y at EE;have m3:=iL yY 3 (by decide);have b3:=gK yY 3 (by decide);generalize yY%3=t at m3 b3;have f2:=mE y 2 (by decide) (by decide);have Ff:=iL (y / 2) 30 (by decide);have Fg:=gK (y / 2) 30 (by decide);have m9:=iL (y / 2) 9 (by decide);have b9:=gK (y / 2) 9 (by decide);obtain⟨EF,h30⟩:=F2 Fg.1;obtain⟨n9,h9⟩:=F2 b9.1;rw[h30]at Ff Fg;rw[h9]at m9 b9;obtain⟨l1,hl1,Ek,e1⟩:=ik y (60+EF) (by lia);obtain⟨l2,hl2,El,e2⟩:=ik y (1+n9) (by lia);rw[show((60+EF:Nat):Int)=60+(EF:Int) by lia]at e1;rw[show((1+n9:Nat):Int)=1+(n9:Int) by lia]at e2;unfold bg dN;rw[bO (h:=by rfl)];generalize (10:Int) ^ 20=P20 at Fe EE;rw[aJ (env':=[some (.f,.int yY),some (.f,.int y),none,none]) (by simp only[pv,↓reduceIte,Nat.reduceAdd,Nat.reduceLT,Nat.reduceLeDiff,Nat.reduceEqDiff,op,f3,Fe,EE])];rw[aJ (env':=[some (.f,.int yY),some (.f,.int y),some (.f,.int t),none]) (by simp only[pv,↓reduceIte,Nat.reduceAdd,Nat.reduceLT,Nat.reduceLeDiff,Nat.reduceEqDiff,op,m3])];by_cases t0:t=0
 ·have q0:(t==0)=true:=by rw[t0];rfl
  have DF:(ni.length:Int)=58:=rfl;have Fh:=iL y 58 (by decide);have Fi:=gK y 58 (by decide);obtain⟨j,hj⟩:=F2 Fi.1;rw[hj]at Fh Fi;have CD:j<ni.length:=by show j<58;lia
  have yx:=bX (rW CD);refine⟨[ni[j]],.sign (sk _ (GY _)) (so _ (GY _)),?_⟩;have hB:([33,34,35,36,38,39,40,41,42,43,44,45,46,47,58,60,61,62,63,64,65,66,67,68,69,70,71,72,73,74,75,76,77,78,79,80,81,82,83,84,85,86,87,88,89,90,91,92,93,94,95,96,123,124,125,126,10,9]:List Nat)=ni:=rfl;rw[hB,yX];generalize ni[j]=c at yx ⊢;generalize ni=BS at yx DF ⊢;simp only[pv,↓reduceIte,Nat.reduceAdd,Nat.reduceLT,Nat.reduceLeDiff,Nat.reduceEqDiff,op,q0,DF,Fh,yx]
 ·have q0:(t==0)=false:=F1.mpr t0;rw[aJ (env':=[some (.f,.int yY),some (.f,.int y),some (.f,.int t),none]) (by simp only[pv,↓reduceIte,Nat.reduceAdd,Nat.reduceLT,Nat.reduceLeDiff,Nat.reduceEqDiff,op,q0,ec])];by_cases t1:t=1
  ·have q1:(t==1)=true:=by rw[t1];rfl
   have z1:1+l1.length<=sizeLine:=line_le (by lia);refine⟨55::l1,.figs (fun z=>nomatch z) (fun x hx=>?_) (.inl (by rw[Fv];lia)) (by rw[Fv];lia),?_⟩
   ·rcases FK.mp hx with rfl|hx
    ·decide
    ·exact Ek x hx
   ·rw[yX];simp only[pv,↓reduceIte,Nat.reduceAdd,Nat.reduceLT,Nat.reduceLeDiff,Nat.reduceEqDiff,op,q1,f2,Ff,e1,aD,br,lh,z1] <;> rfl
  ·have q1:(t==1)=false:=F1.mpr t1;have z1:1+l2.length<=sizeLine:=line_le (by lia);rw[aJ (env':=[some (.f,.int yY),some (.f,.int y),some (.f,.int t),none]) (by simp only[pv,↓reduceIte,Nat.reduceAdd,Nat.reduceLT,Nat.reduceLeDiff,Nat.reduceEqDiff,op,q1,ec])];refine⟨48::l2,.figs (fun z=>nomatch z) (fun x hx=>?_) (.inr ⟨by rw[Fv];lia,rfl⟩) (by rw[Fv];lia),?_⟩
   ·rcases FK.mp hx with rfl|hx
    ·decide
    ·exact El x hx
   ·simp only[pv,↓reduceIte,Nat.reduceAdd,Nat.reduceLT,Nat.reduceLeDiff,Nat.reduceEqDiff,op,f2,m9,e2,aD,br,lh,z1] <;> rfl
def pl(ws:yA):List (List Nat×Nat):=ws.flatMap fun w=>[(w,kd0 w),([32],2)]
def tl(ws:yA):List Nat:=ws.flatMap fun w=>32::w
def gC(ws:yA):List (List Nat×Nat):=ws.flatMap fun w=>[([32],2),(w,kd0 w)]
theorem iM(w:List Nat)(ws:yA):pl (w::ws)=(w,kd0 w)::([32],2)::pl ws:=rfl
theorem iN(w:List Nat)(ws:yA):gC (w::ws)=([32],2)::(w,kd0 w)::gC ws:=rfl
theorem iO:∀(x:List Nat) (ws:yA),joinL [32] (x::ws)=x++tl ws
 |x,[]=>(FJ x).symm
 |x,w::ws=>by
  show x++[32]++joinL [32] (w::ws)=_;rw[iO w ws,FD];rfl
theorem jo(b:List Nat)(c:yA):∀a:yA,joinL [32] (a++b::c)=txt (pl a)++(b++tl c)
 |[]=>iO b c
 |w::a=>by
  have ih:=jo b c a;rw[iM,bt,bt,FD,FD,<-ih];cases a with
  |nil=>show w++[32]++joinL [32] (b::c)=_;rw[FD];rfl
  |cons v a=>show w++[32]++joinL [32] (v::(a++b::c))=_;rw[FD];rfl
theorem iP{l0:List (List Nat×Nat)}{post:List Nat}(h0:DY l0 post)(hx:∃x r,txt l0++post=x::r/\kd x<4/\kd x≠2):∀ws:yA,(∀w∈ws,Wd w)->DY (pl ws++l0) post/\∃x r,txt (pl ws++l0)++post=x::r/\kd x<4/\kd x≠2
 |[],_=>⟨h0,hx⟩
 |w::ws,h=>by
  obtain⟨f,x,r,e,h4,h2⟩:=iP h0 hx ws fun w hw=>h w (Ft _ hw)
  have g:=h w Fm;obtain⟨y,r',ey⟩:∃y r',w=y::r':=by
   cases w with
   |nil=>exact absurd rfl g.c.ne
   |cons y r'=>exact⟨y,r',rfl⟩
  have By:=g.c.all y (by rw[ey];exact Fm);have CC:=g.c.k4;have hb:=g.b;rw[iM,GX,GX];refine⟨⟨g.c,.inr (.inr ⟨32,txt (pl ws++l0)++post,?_,by decide,?_⟩),sa,.inr (.inr ⟨x,r,e,h4,h2⟩),f⟩,y,r'++txt (([32],2)::(pl ws++l0))++post,?_,by rw[By];exact CC,by rw[By];exact hb⟩
  ·rw[bt];rfl
  ·have:kd 32=2:=by decide
   lia
  ·rw[bt,ey,GX,GX]
theorem px(ws:yA):tl ws=[]\/∃x r,tl ws=x::r/\kd x<4/\kd x≠1:=by
 cases ws with
 |nil=>exact .inl rfl
 |cons w ws=>exact .inr ⟨32,w++tl ws,rfl,by decide,by decide⟩
theorem uR{a c:yA}{b:List Nat}(hb:Bad b)(ha:∀w∈a,Wd w)(hal:a.length<=1000)(hl:(joinL [32] (a++b::c)).length<=50000):a7 [.str (joinL [32] (a++b::c))]=true:=by
 have hT:=jo b c a;have xZ:∀a:yA,(pl a).length=2*a.length:=fun a=>by
  induction a with
  |nil=>rfl
  |cons w a ih=>rw[iM,Fv,Fv,ih,Fv];lia
 generalize joinL [32] (a++b::c)=T at hT hl ⊢;cases hb with
 |figs CB hd Bi DF=>
  obtain⟨y,r',ey⟩:∃y r',b=y::r':=by
   cases b with
   |nil=>exact absurd rfl CB
   |cons y r'=>exact⟨y,r',rfl⟩
  have By:=hd y (by rw[ey];exact Fm);obtain⟨f,_⟩:=iP (l0:=[]) (post:=b++tl c) trivial ⟨y,r'++tl c,by rw[ey];rfl,by rw[By];decide,by rw[By];decide⟩ a ha;rw[FJ]at f;have hz:=wc (pre:=txt (pl a)) hT hl CB hd (px c) Bi;have h1:=lp (pre:=[]) (post:=b++tl c) (m:=1) hl (pl a) hT f (by
   show Rz T (0+_) 1;rw[HU];exact hz)
  exact fw h1 (by rw[xZ];lia)
 |sign hk hr=>
  rename_i s;rcases List.eq_nil_or_concat a with ha0|⟨a',v,CF⟩
  ·subst ha0;have yx:T[0]?=some s:=by rw[hT];rfl
   exact fw (wa yx hk hr) (by decide)
  ·have CF:a=a'++[v]:=CF.trans (List.concat_eq_append ..);have hv:=ha v (by rw[CF];exact Fo _ Fm);obtain⟨y,r',ey⟩:∃y r',v=y::r':=by
    cases v with
    |nil=>exact absurd rfl hv.c.ne
    |cons y r'=>exact⟨y,r',rfl⟩
   have By:=hv.c.all y (by rw[ey];exact Fm);have CC:=hv.c.k4;have hvb:=hv.b;have k32:kd 32=2:=by decide
   obtain⟨f,_⟩:=iP (l0:=[(v,kd0 v)]) (post:=32::s::tl c) ⟨hv.c,.inr (.inr ⟨32,s::tl c,rfl,by decide,by lia⟩),trivial⟩ ⟨y,r'++[]++(32::s::tl c),by rw[bt,ey];rfl,by rw[By];exact CC,by rw[By];exact hvb⟩ a' fun w hw=>ha w (by rw[CF];exact Fz _ hw)
   have DE:T=txt (pl a'++[(v,kd0 v)])++(32::s::tl c):=by
    rw[hT,CF];have e1:pl (a'++[v])=pl a'++[(v,kd0 v)]++[([32],2)]:=by
     unfold pl;rw[List.flatMap_append,FD];rfl
    rw[e1,pd,FD];rfl
   have ga:∀j,T[(txt (pl a'++[(v,kd0 v)])).length+j]?=(32::s::tl c)[j]?:=fun j=>by
    rw[DE,F0 (by lia),Nat.add_sub_cancel_left]
   have h1:=lp (pre:=[]) (post:=32::s::tl c) (m:=1) hl (pl a'++[(v,kd0 v)]) DE f (by
    show Rz T (0+_) 1;rw[HU];exact wb (ga 0) (ga 1) hk hr)
   have hal':a'.length<=1000:=by
    rw[CF,fC]at hal;lia
   exact fw h1 (by rw[fC,xZ];show 1+(_+1)<=_;lia)
def pz:yA->List (List Nat×Nat)
 |[]=>[]
 |w::ws=>(w,kd0 w)::gC ws
theorem sr:∀ws:yA,(∀w∈ws,Wd w)->Chs (gC ws)/\(hd (gC ws)=2\/hd (gC ws)=9)
 |[],_=>⟨.nil,.inr rfl⟩
 |w::ws,h=>by
  obtain⟨c,e⟩:=sr ws fun w hw=>h w (Ft _ hw)
  have g:=h w Fm;have CC:=g.c.k4;have hb:=g.b;rw[iN];exact⟨.mk sa (.mk g.c c (.inr (by lia))) (.inr (by show 2≠kd0 w;lia)),.inl rfl⟩
theorem pA{ws:yA}(h:∀w∈ws,Wd w):Chs (pz ws):=by
 cases ws with
 |nil=>exact .nil
 |cons w ws=>
  obtain⟨c,e⟩:=sr ws fun w hw=>h w (Ft _ hw)
  have g:=h w Fm;have CC:=g.c.k4;have hb:=g.b;exact .mk g.c c (.inr (by lia))
theorem nj:∀ws:yA,txt (gC ws)=tl ws
 |[]=>rfl
 |w::ws=>by
  rw[iN,bt,bt,nj ws];rfl
theorem jq(ws:yA):txt (pz ws)=joinL [32] ws:=by
 cases ws with
 |nil=>rfl
 |cons w ws=>rw[iO,pz,bt,nj]
theorem nq:∀ws:yA,(∀w∈ws,Wd w)->AG (gC ws)=ws
 |[],_=>rfl
 |w::ws,h=>by
  rw[iN,eE,FY rfl,eE,F3 (h w Fm).b,nq ws fun w hw=>h w (Ft _ hw)]
theorem mH{ws:yA}(h:∀w∈ws,Wd w):AG (pz ws)=ws:=by
 cases ws with
 |nil=>rfl
 |cons w ws=>rw[pz,eE,F3 (h w Fm).b,nq ws fun w hw=>h w (Ft _ hw)]
theorem mI(ns:List Int):∃js:List Int,js.length<=12/\eS (ns.map D.int) (some 3) (some 15)=js.map D.int:=by
 refine⟨eS ns (some 3) (some 15),?_,?_⟩
 ·unfold eS;rw[Gj,Gw];unfold HT.sIx;simp;lia
 ·unfold eS;rw[o5,List.map_take,List.map_drop]
def Bj(yY:Int):List Nat:=Classical.choose (fA yY)
theorem su(yY:Int):Wd (Bj yY):=(HV (fA yY)).1
theorem sv(yY:Int):az [.int yY]=.ok (.f,.str (Bj yY)):=(HV (fA yY)).2
theorem sx(js:List Int):eh (jC 0) qI (dU az (ah (aw 0) ax)) (js.map D.int) [none]=.ok ((js.map Bj).map D.str):=by
 rw[List.map_map];refine mz (e:=D.int) (r:=D.str∘Bj) (fun env=>∃t,env=[t]) js ?_ _ ⟨none,rfl⟩;rintro j hj env ⟨t,rfl⟩;have h1:=sv j;refine⟨[some (.f,.int j)],rfl,.f,[some (.f,.int j)],?_,_,rfl⟩;show _=Res.ok ((O.f,D.str (Bj j)),[some (O.f,D.int j)]);generalize Bj j=W at h1 ⊢;simp only[pv,seval,op,h1,aD,br]
theorem lu(F:List D->Bool)(i:Nat)(env:PV.Env):gE F i env=match env[i]? with
 |some (some r)=>if F [r.2] then .ok ((.f,.bl true),env) else .bad
 |_=>.bad:=id rfl
theorem sy{x y:List D}(h:x.length+y.length<=100000):addD (.lst x) (.lst y)=.ok (.l .f,.lst (x++y)):=by rw[rN,FY (line_le (by lia))]
theorem AE(row:yA):yT (.lst (row.map D.str)) (.lst (row.map D.str))=.ok (.f,.bl true):=by
 have p:plainD 40 (.lst (row.map D.str))=true:=by rw[plainD,jI]
 unfold yT;rw[p,eC _ 40 p];rfl
def uS:FS:=sSeq (yS (Cy (ku (xI (gE a7 3))) (Cy (ku (xI (gE aN 3))) (ku (xI (gE bf 3)))))
  (dz (aA (.bl false)))
  bE)
  (dz (bL yT (aq (dU dq (ah (aq (qV iE (aq (aA (.str [32]))) (ah (aw 1) ax))) ax))) (aw 1)))
theorem sA(row:yA)(hr:∀w∈row,Wd w)(hl:row.length<=12)(o:O)(ho:o=.l .f\/o=.f)(d:D)(hd:a7 [d]=true)(a0 a2 t4:Option R)(o3:O):uS [a0,some (o,.lst (row.map D.str)),a2,some (o3,d),t4]=.ok (.rt (.f,.bl true)):=by
 have h1:=pk hd;have h2:=uQ hd;have hj:=m8 [32] row 60 (fun x hx=>(hr x hx).l) (by show _+_*1<=_;lia);have EG:(txt (pz row)).length<=50000:=by
  rw[jq];have h2:=dI [32] row;have h3:=jn 60 row fun x hx=>(hr x hx).l
  have:([32]:List Nat).length=1:=rfl;rw[this]at h2;lia
 have hw:=pb (pz row) (pA hr) EG;rw[jq,mH hr]at hw;have he:=AE row;have hf:=PV.flat_strs row;unfold uS;generalize joinL [32] row=J at hj hw;generalize row.map D.str=RW at *;rcases ho with rfl|rfl
 ·rw[aJ (env':=[a0,some (.l .f,.lst RW),a2,some (o3,d),t4]) (by simp only[pv,seval,op,lu,hd,h1,h2,Gz,ec])];simp only[pv,seval,op,hj,hw,he,hf,aD,gJ,br] <;> rfl
 ·rw[aJ (env':=[a0,some (.f,.lst RW),a2,some (o3,d),t4]) (by simp only[pv,seval,op,lu,hd,h1,h2,Gz,ec])];simp only[pv,seval,op,hj,hw,he,hf,aD,gJ,br] <;> rfl
theorem six(n:Int)(row:List D)(j:Int):∃d,lz "str" d=false/\zG [D.non,.int n,.bl true,.lst row,.tup [.str [109,111,118,101,115]],.dct false [.str [109,111,118,101,115]] [.str [97]]] (j%6)=some d:=by
 have h:=gK j 6 (by decide);obtain⟨k,hk⟩:=F2 h.1;rw[hk]at h ⊢;have:k=0\/k=1\/k=2\/k=3\/k=4\/k=5:=by lia
 rcases this with rfl|rfl|rfl|rfl|rfl|rfl
 ·exact⟨_,rfl,cB rfl⟩
 ·exact⟨_,rfl,cB rfl⟩
 ·exact⟨_,rfl,cB rfl⟩
 ·exact⟨_,rfl,cB rfl⟩
 ·exact⟨_,rfl,cB rfl⟩
 ·exact⟨_,rfl,cB rfl⟩
theorem lx:∀ns:List Int,ns.length<=63->∃o,oS [.lst (ns.map D.int)]=.ok (o,.bl true):=by
 intro ns _;obtain⟨js,EG,z7⟩:=mI ns;have Cj:=sx js;have Fj:(js.map Bj).length<=12:=by rw[o5];exact EG
 have DZ:∀w∈js.map Bj,Wd w:=fun w hw=>by
  obtain⟨j,_,rfl⟩:=v9 hw;exact su j
 generalize js.map Bj=row at Cj Fj DZ;have c0:ar [.lst (ns.map D.int),.int 0]=.ok (.f,.int (cell ns 0)):=ft ns 0;have c1:ar [.lst (ns.map D.int),.int 1]=.ok (.f,.int (cell ns 1)):=ft ns 1;have c2:ar [.lst (ns.map D.int),.int 2]=.ok (.f,.int (cell ns 2)):=ft ns 2;have m0:=iL (cell ns 0) ((row.length:Int)+1) (by lia);have b0:=gK (cell ns 0) ((row.length:Int)+1) (by lia);obtain⟨wh,hwh⟩:=F2 b0.1;rw[hwh]at m0 b0;obtain⟨bad,Bi,eb⟩:=mG (cell ns 1);have DF:bad.length<=200:=by
  cases Bi with
  |sign _ _=>exact Nat.le_of_ble_eq_true rfl
  |figs _ _ _ h=>exact h
 have ht:∀w∈row.take wh,Wd w:=fun w hw=>DZ w (List.mem_of_mem_take hw)
 have hlen:(row.take wh++bad::row.drop wh).length<=14:=by
  rw[fC,Fv,Gj,Gw];lia
 have hB:∀x∈row.take wh++bad::row.drop wh,x.length<=200:=fun x hx=>by
  rcases uH hx with hx|hx
  ·have:=(ht x hx).l;lia
  ·rcases FK.mp hx with rfl|hx
   ·exact DF
   ·have:=(DZ x (List.mem_of_mem_drop hx)).l;lia
 have hj:=m8 [32] (row.take wh++bad::row.drop wh) 200 hB (by show _+_*1<=_;lia);have Fl:=uR (a:=row.take wh) (c:=row.drop wh) Bi ht (by rw[Gj];lia) (by
  have h2:=dI [32] (row.take wh++bad::row.drop wh);have h3:=jn 200 _ hB;have:([32]:List Nat).length=1:=rfl;rw[this]at h2;lia)
 generalize joinL [32] (row.take wh++bad::row.drop wh)=TX at hj Fl;rw[Hb,o7,List.map_take,List.map_drop]at hj;have s1:Bx (.lst (row.map D.str)) none (some (wh:Int))=.ok (.l .f,.lst ((row.map D.str).take wh)):=by
  show Res.ok (O.l .f,D.lst (eS (row.map D.str) none (some (wh:Int))))=_;rw[mC]
 have s2:Bx (.lst (row.map D.str)) (some (wh:Int)) none=.ok (.l .f,.lst ((row.map D.str).drop wh)):=by
  show Res.ok (O.l .f,D.lst (eS (row.map D.str) (some (wh:Int)) none))=_;rw[mD]
 have s0:Bx (.lst (ns.map D.int)) (some 3) (some 15)=.ok (.l .f,.lst (js.map D.int)):=by
  show Res.ok (O.l .f,D.lst (eS (ns.map D.int) (some 3) (some 15)))=_;rw[z7]
 have a1:=sy (x:=(row.map D.str).take wh) (y:=[.str bad]) (by rw[Gj,o5];show _+1<=_;lia);have a2:=sy (x:=(row.map D.str).take wh++[.str bad]) (y:=(row.map D.str).drop wh) (by rw[fC,Gj,Gw,o5];show _+1+_<=_;lia);rw[FD,List.singleton_append]at a2;have hll:fB [.lst (row.map D.str)]=.ok (.f,.int (row.length:Int)):=by
  show Res.ok (O.f,D.int (((row.map D.str).length:Nat):Int))=_;rw[o5]
 have DP:=PV.flat_strs row;have hz:(row.map D.str).length<=sizeLine:=lj (by lia);have m5:=iL (cell ns 2) 5 (by decide);have p9:jN (.int 10) (.int 9)=.ok (.f,.int (10 ^ 9)):=sR 9 (by decide);have m9:=iL (cell ns 2) (10 ^ 9) (by decide);generalize cell ns 2%10 ^ 9=y at m9;have f5:=mE y 5 (by decide) (by decide);have m6:=iL (y / 5) 6 (by decide);obtain⟨d,AR,yx⟩:=six y (row.map D.str) (y / 5);have hxd:=lq AR;have hL:=sA row DZ Fj;unfold uS at hL;refine⟨.f,?_⟩;unfold oS rA;rw[bO (h:=by rfl)];rw[aJ (env':=[some (.f,.lst (ns.map D.int)),some (.l .f,.lst (row.map D.str)),none,none,none]) (by
  generalize row.map D.str=RW at *;generalize (dU az (ah (aw 0) ax))=GG at Cj ⊢;simp only[pv,↓reduceIte,Nat.reduceAdd,Nat.reduceLT,Nat.reduceLeDiff,Nat.reduceEqDiff,op,s0,Cj,hz,DP])]
 rw[aJ (env':=[some (.f,.lst (ns.map D.int)),some (.l .f,.lst (row.map D.str)),some (.f,.int (wh:Int)),none,none]) (by
  generalize row.map D.str=RW at *;simp only[pv,↓reduceIte,Nat.reduceAdd,Nat.reduceLT,Nat.reduceLeDiff,Nat.reduceEqDiff,op,c0,hll,m0,aD,cG])]
 rw[aJ (env':=[some (.f,.lst (ns.map D.int)),some (.l .f,.lst (row.map D.str)),some (.f,.int (wh:Int)),some (.f,.str TX),none]) (by
  generalize (row.map D.str).take wh++.str bad::(row.map D.str).drop wh=R3 at *;generalize (row.map D.str).take wh++[.str bad]=R2 at *;generalize (row.map D.str).take wh=R0 at *;generalize (row.map D.str).drop wh=R1 at *;generalize row.map D.str=RW at *;simp only[pv,↓reduceIte,Nat.reduceAdd,Nat.reduceLT,Nat.reduceLeDiff,Nat.reduceEqDiff,op,s1,s2,c1,eb,a1,a2,hj,aD,cG,br])]
 cases h5:cell ns 2%5==1 with
 |true=>
  rw[aJ (env':=[some (.f,.lst (ns.map D.int)),some (.f,.lst (row.map D.str)),some (.f,.int (wh:Int)),some (.f,d),some (.f,.int y)]) (by
   generalize row.map D.str=RW at *;generalize (10:Int) ^ 9=P9 at p9 m9;simp only[pv,↓reduceIte,Nat.reduceAdd,Nat.reduceLT,Nat.reduceLeDiff,Nat.reduceEqDiff,op,c2,m5,h5,p9,m9,aD,cG];simp only[pv,↓reduceIte,Nat.reduceAdd,Nat.reduceLT,Nat.reduceLeDiff,Nat.reduceEqDiff,op,f5,m6,yx] <;> rfl)]
  rw[hL .f (.inr rfl) d hxd];rfl
 |false=>
  rw[aJ (env':=[some (.f,.lst (ns.map D.int)),some (.l .f,.lst (row.map D.str)),some (.f,.int (wh:Int)),some (.f,.str TX),none]) (by
   generalize row.map D.str=RW at *;simp only[pv,↓reduceIte,Nat.reduceAdd,Nat.reduceLT,Nat.reduceLeDiff,Nat.reduceEqDiff,op,c2,m5,h5,aD,cG,ec])]
  rw[hL (.l .f) (.inl rfl) (.str TX) Fl];rfl
end LW
namespace FIN
open PySem PySem.Spec PyProof.Rows L2 NX PV LW
theorem sC{l:PySem.W.OpenLaw}{w:World}{K:W.Frag}{h:Heap}{mg:Str->Option Value}{fa f:Addr}{od an:Option Addr}{sl:Array (Option Value)}{oc kV dc pm cd ct:Value}(X:K.In h)(G:h.Ns mainGlobals mg)(hfa:mg "law" = some (.ref fa))
  (aL:PySem.W.nsIn K mainGlobals "law" = some (some (.ref f))) (lL:K.lookup f=some ⟨oc,od,.func (PySem.W.fnOf "law" "law" (b8 gI) (bj gI) (defScope gI) .none kV dc pm an cd ct),sl⟩) (cL:PySem.W.codeIn K cd "law" = true) (kL:PySem.W.keepIn K (.ref f)=true)
  (y4:Def K mg "is_letter" dt) (y6:Def K mg "is_figure" du) (yZ:Def K mg "kind_of" dO) (x4:Def K mg "end_of_run" b6) (xK:Def K mg "check_figures" bD) (zJ:Def K mg "words" gG) (yF:Def K mg "parts_of" c3) (x5:Def K mg "read_chart" b7) (yG:Def K mg "read_net" c4) (yq:Def K mg "_law_cell_at" cj) (yr:Def K mg "_law_word_by" cm) (yt:Def K mg "_law_figures" cn) (yB:Def K mg "_law_bad_by" cF) (xF:Def K mg "_law_refused" bq)
  (xc:Gi mg "MOST_FIGURES" (60))
  (xn:PySem.W.nsIn K mainGlobals "ValueError" = some none) (wI:PySem.W.nsIn K mainGlobals "isinstance" = some none) (xv:PySem.W.nsIn K mainGlobals "len" = some none) (zf:PySem.W.nsIn K mainGlobals "range" = some none) (yN:PySem.W.nsIn K mainGlobals "str" = some none) {xb:Addr}(xp:PySem.W.nsIn K mainGlobals "NetError" = some (some (.ref xb))) {xq:Addr}(zl:PySem.W.nsIn K mainGlobals "NoCase" = some (some (.ref xq))) {xj:Addr}(y0:PySem.W.nsIn K mainGlobals "NoChart" = some (some (.ref xj))) {xy:Addr}(zK:PySem.W.nsIn K mainGlobals "NoNet" = some (some (.ref xy))) {xA:Addr}(zL:PySem.W.nsIn K mainGlobals "NoRun" = some (some (.ref xA))) {xf:Addr}(yu:PySem.W.nsIn K mainGlobals "NoStretch" = some (some (.ref xf))) {wH:Addr}(xx:PySem.W.nsIn K mainGlobals "NoText" = some (some (.ref wH))) {xa:Addr}(x6:PySem.W.nsIn K mainGlobals "OtherMoves" = some (some (.ref xa))) {xh:Addr}(yH:PySem.W.nsIn K mainGlobals "TooGreat" = some (some (.ref xh))) (yI:PySem.W.excIn K xb [.type "ValueError",.type "Exception",.type "BaseException",.type "object"] "ValueError.__new__" = true) (zm:PySem.W.excIn K wH [.type "ValueError",.type "Exception",.type "BaseException",.type "object"] "ValueError.__new__" = true) (wQ:PySem.W.mroIn K wH (.ref xb)=some true) (wK:PySem.W.kitOne K (.ref wH) (.type "ValueError")=some true) (wX:PySem.W.kitOne K (.ref wH) (.ref xq)=some false) (wW:PySem.W.kitOne K (.ref wH) (.ref xj)=some false) (w5:PySem.W.kitOne K (.ref wH) (.ref xy)=some false) (w6:PySem.W.kitOne K (.ref wH) (.ref xA)=some false) (wO:PySem.W.kitOne K (.ref wH) (.ref xf)=some false) (wY:PySem.W.kitOne K (.ref wH) (.ref wH)=some true) (wN:PySem.W.kitOne K (.ref wH) (.ref xa)=some false) (wR:PySem.W.kitOne K (.ref wH) (.ref xh)=some false) (wL:Asks K wH):
  ∃fd:FuncData,(∀(s:Shared) (v:Value),BindsTo s fd ⟨[v],[]⟩ [("_law_script",v)])/\∀base:Heap,K.In base->base.Ns mainGlobals mg->FnOk l.prog w K mg base Ai 8 fa fd ["_law_script"] (mh K):=by
 have e:=hfa.symm.trans (Gb X G aL);cases e;have F:=mU (st:=gI) lL cL kL;have x9:=GK X G xn;have xG:=GK X G wI;have yQ:=GK X G xv;have Bk:=GK X G zf;have AH:=GK X G yN;have Ck:=Gb X G xp;have zo:=Gb X G zl;have y1:=Gb X G y0;have zM:=Gb X G zK;have zN:=Gb X G zL;have yv:=Gb X G yu;have zp:=Gb X G xx;have ya:=Gb X G x6;have yJ:=Gb X G yH;refine⟨PySem.W.fnOf "law" "law" (b8 gI) (bj gI) (defScope gI) .none kV dc pm an cd ct,fun s v=>.of_eq rfl,fun base KB GB=>?_⟩;have yK:XCl mg base "NetError" xb:=⟨_,_,_,_,Hq,mW KB GB xp yI⟩
 have zq:XCl mg base "NoText" wH:=⟨_,_,_,_,Hq,mW KB GB xx zm⟩
 have y7:Ct l.prog w K mg base "is_letter" 1 (spF K a5):=ia y4;have y8:Ct l.prog w K mg base "is_figure" 1 (spF K a6):=ic y6;have yw:Ct l.prog w K mg base "kind_of" 2 (spF K aG):=jG yZ y8 y7;have zr:=iI (P:=l.prog) (w:=w) (K:=K) (mg:=mg) (base:=base) yZ y8 y7 zq;have yR:Ct l.prog w K mg base "end_of_run" 3 (spF K ay):=gF x4 yw yQ;have zD:=fG (P:=l.prog) (w:=w) (K:=K) (mg:=mg) (base:=base) x4 zr yw yQ;have yb:Ct l.prog w K mg base "check_figures" 1 (spF K aH):=eu xK xc yQ;have y2:=dY (P:=l.prog) (w:=w) (K:=K) (mg:=mg) (base:=base) xK zq xc yQ;have Bl:Ct l.prog w K mg base "words" 4 (spF K dq):=mw zJ yb yR yw xG yQ AH;have zt:=lb (P:=l.prog) (w:=w) (K:=K) (mg:=mg) (base:=base) zJ y2 zD zr yb yR yw zq xG yQ AH;have Cm:Ct l.prog w K mg base "parts_of" 5 (spF K fY):=iJ yF;have y9:=ie (P:=l.prog) (w:=w) (K:=K) (mg:=mg) (base:=base) yF zt;have Bm:Ct l.prog w K mg base "read_chart" 6 (spF K d9):=gH x5;have yC:=fH (P:=l.prog) (w:=w) (K:=K) (mg:=mg) (base:=base) x5 y9;have Cn:Ct l.prog w K mg base "read_net" 6 (spF K fZ):=iK yG;have za:=ig (P:=l.prog) (w:=w) (K:=K) (mg:=mg) (base:=base) yG y9;have zu:Ct l.prog w K mg base "_law_cell_at" 1 (spF K ar):=e8 yq yQ;have zv:Ct l.prog w K mg base "_law_word_by" 1 (spF K az):=e9 yr AH;have zw:Ct l.prog w K mg base "_law_figures" 1 (spF K aO):=fe yt Bk;have zE:Ct l.prog w K mg base "_law_bad_by" 2 (spF K bg):=fI yB zw yQ;have yf:Ct l.prog w K mg base "_law_refused" 5 (spR K mg "words" a7):=cK xF zt zo y1 zM zN yv zp ya yJ wQ wK wX wW w5 w6 wO wY wN wR wL yK x9 xG;have xQ:Ct l.prog w K mg base "_law_refused" 7 (spR K mg "read_chart" aN):=bW xF yC zo y1 zM zN yv zp ya yJ wQ wK wX wW w5 w6 wO wY wN wR wL yK x9 xG;have xU:Ct l.prog w K mg base "_law_refused" 7 (spR K mg "read_net" bf):=cp xF za zo y1 zM zN yv zp ya yJ wQ wK wX wW w5 w6 wO wY wN wR wL yK x9 xG;exact(rF F yC za zt zE zu xQ xU yf zv Bl yQ).imp (qW lx)
end FIN
def PySem.W.Fast.tw6007909842808885182:=0
def PySem.W.Fast.tw5891901654803763735:=0
def PySem.W.Fast.tw11768052842735666407:=0
def PySem.W.Fast.tw16296854126970134631:=0
def PySem.W.Fast.tw9471875574688490898:=0
def PySem.W.Fast.tw13646141668416524375:=0
def PySem.W.Fast.tw15081619786859906280:=0
def PySem.W.Fast.tw10353425337542023690:=0
def PySem.W.Fast.tw5067648532902591298:=0
def PySem.W.Fast.tw6793412694241870992:=0
def PySem.W.Fast.tw8253047374912786797:=0
def PySem.W.Fast.tw18009147073591286522:=0
def PySem.W.Fast.tw13521966061408951768:=0
def PySem.W.Fast.tw15399721530334053217:=0
def PySem.W.Fast.tw14228360607054322961:=0
def PySem.W.Fast.tw13784685995378851372:=0
def PySem.W.Fast.tw17014584573139627356:=0
def PySem.W.Fast.tw11857195498257125971:=0
def PySem.W.Fast.tw13989266330822673907:=0
def PySem.W.Fast.tw10923314418752962560:=0
def PySem.W.Fast.tw6565451400764037569:=0
def PySem.W.Fast.tw17539483058856872880:=0
def PySem.W.Fast.tw6980163675805356350:=0
def PySem.W.Fast.tw6568863734439517831:=0
def PySem.W.Fast.tw14821195857770855327:=0
def PySem.W.Fast.tw14859476517731345558:=0
def PySem.W.Fast.tw440080877265939764:=0
def PySem.W.Fast.tw6336016142435305043:=0
def PySem.W.Fast.tw6524385231619115336:=0
def PySem.W.Fast.tw4524691455699158984:=0
def PySem.W.Fast.tw11369697173037329869:=0
def PySem.W.Fast.tw3979855777098247316:=0
def PySem.W.Fast.tw4939358459568079584:=0
def PySem.W.Fast.tw13387784606326616380:=0
open PySem PySem.W PyProof.Rows
set_option maxRecDepth 100000 in
set_option maxHeartbeats 0 in
theorem PySem.Challenge.cw_netfinder_k02_no_words_holds : PySem.Challenge.rw_netfinder_k02_no_words.Holds := by
  w_on; o_law; k_head; (case hw => w_witness2)
  k_fill
  refine PV.vS (l := PySem.Challenge.rw_netfinder_k02_no_words) (k := 8) (x := "_law_script") rfl rfl ⟨rfl, by decide, by decide⟩ (fun w h Y => PySem.W.kIn_of Y) ?F
  case F =>
    intro w mg fa h KX G CT
    refine' FIN.sC KX G CT ?aL ?lL ?cL ?kL ?y4 ?y6 ?yZ ?x4 ?xK ?zJ ?yF ?x5 ?yG ?yq ?yr ?yt ?yB ?xF ?xc ?xn ?wI ?xv ?zf ?yN ?xp ?zl ?y0 ?zK ?zL ?yu ?xx ?x6 ?yH ?yI ?zm ?wQ ?wK ?wX ?wW ?w5 ?w6 ?wO ?wY ?wN ?wR ?wL
    (case aL => k_is); (case lL => k_is); (case cL => k_is); (case kL => k_is)
    iterate 14 (refine' PV.qX KX G ?a ?l ?c ?k; (case a => k_is); (case l => k_is); (case c => k_is); (case k => k_is))
    (case xc => (refine' PV.t8 KX G ?a; (case a => k_is)))
    iterate 5 k_is
    (case xp => k_is)
    (case zl => k_is)
    (case y0 => k_is)
    (case zK => k_is)
    (case zL => k_is)
    (case yu => k_is)
    (case xx => k_is)
    (case x6 => k_is)
    (case yH => k_is)
    (case yI => k_exc)
    (case zm => k_exc)
    (case wQ => k_is)
    (case wK => kit_is)
    (case wX => kit_is)
    (case wW => kit_is)
    (case w5 => kit_is)
    (case w6 => kit_is)
    (case wO => kit_is)
    (case wY => kit_is)
    (case wN => kit_is)
    (case wR => kit_is)
    (case wL => (refine' NX.Asks.mk ?a ?b ?c ?d ?e ?f ?g ?h; (case a => k_is); (case b => k_is); (case c => k_is); (case d => k_is); (case e => k_is); (case f => k_is); (case g => k_is); (case h => k_is)))
