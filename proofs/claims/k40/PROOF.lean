import PyProof.Rows.All
import Wide.All
import OpenK.AllK
import Wide.FinOn
import Lean
import PyProof.EqAt
import PyProof.EqKinds
import PyProof.TupleCall
import PySem.Challenge.RW_netfinder_k40_products_and_sums
set_option Elab.async false
set_option linter.all false
set_option maxRecDepth 100000
noncomputable section
namespace L2
open PySem PySem.Spec PyProof.Rows
def IsTupN (h:Heap) (a:Addr) (items:Array Value):Prop:=∃ o,h.get? a=some o∧o.cls=.type "tuple"∧(∃ n,o.data=.seq items n)∧o.dict=none
theorem IsTupN.tup {h:Heap} {a:Addr} {items:Array Value} (p:IsTupN h a items):IsTup h a items:=by
 obtain ⟨o,e,c,n,_⟩:=p
 exact ⟨o,e,c,n⟩
theorem IsTupN.new (h:Heap) (items:Array Value):IsTupN (h.push { cls:=.type "tuple",data:=.seq items }) h.objs.size items:=⟨_,Heap.get?_push_size _ rfl,rfl,⟨_,rfl⟩,rfl⟩
abbrev Key:=Sum Int Str
noncomputable def jk:Key→Value→Bool
 | .inl k,v=>Value.isInt k v
 | .inr x,v=>Value.isStrOf x v
noncomputable def vg (w:World):Key→Int
 | .inl k=>hashInt k
 | .inr x=>hashStr w x
theorem aK:∀ {k:Key} {v:Value},jk k v=true→(∃ i t,k=Sum.inl i∧v=Value.int i t)∨(∃ x t,k=Sum.inr x∧v=Value.str x t)
 | .inl i,v,h=>by
  obtain ⟨t,e⟩:=Value.isInt_shape (k:=i) (v:=v) h
  exact .inl ⟨i,t,rfl,e⟩
 | .inr x,v,h=>by
  obtain ⟨t,e⟩:=Value.isStrOf_shape (x:=x) (v:=v) h
  exact .inr ⟨x,t,rfl,e⟩
theorem jS (i:Int) (t:Tok):jk (.inl i) (.int i t)=true:=by simp [jk,Value.isInt]
theorem jT (x:Str) (t:Tok):jk (.inr x) (.str x t)=true:=by simp [jk,Value.isStrOf]
theorem p6 (a b:Int):decide ((Sum.inl a:Key)=Sum.inl b)=(a == b):=by
 by_cases e:a=b
 ·subst e;simp
 ·have h:¬ (Sum.inl a:Key)=Sum.inl b:=fun q=>e (Sum.inl.inj q)
  rw [decide_eq_false h]
  exact (beq_eq_false_iff_ne.mpr e).symm
theorem p7 (a b:Str):decide ((Sum.inr a:Key)=Sum.inr b)=decide (a=b):=by
 by_cases e:a=b
 ·subst e;simp
 ·have h:¬ (Sum.inr a:Key)=Sum.inr b:=fun q=>e (Sum.inr.inj q)
  rw [decide_eq_false h,decide_eq_false e]
theorem p8 (a:Int) (b:Str):decide ((Sum.inl a:Key)=Sum.inr b)=false:=decide_eq_false (fun q=>nomatch q)
theorem p9 (a:Str) (b:Int):decide ((Sum.inr a:Key)=Sum.inl b)=false:=decide_eq_false (fun q=>nomatch q)
noncomputable def mixKind (prog:Program) (w:World):PySem.KeyKind prog w Key where
 is:=jk
 hash:=vg w
 inj:=fun v a b ha hb=>by
  rcases aK ha with ⟨i,t,rfl,rfl⟩ | ⟨x,t,rfl,rfl⟩
  ·rcases aK hb with ⟨j,u,rfl,e⟩ | ⟨y,u,rfl,e⟩
   ·injection e with e1 _;rw [e1]
   ·exact nomatch e
  ·rcases aK hb with ⟨j,u,rfl,e⟩ | ⟨y,u,rfl,e⟩
   ·exact nomatch e
   ·injection e with e1 _;rw [e1]
 byValue:=fun k v h=>by
  rcases aK h with ⟨i,t,rfl,rfl⟩ | ⟨x,t,rfl,rfl⟩ <;> rfl
 pyHash:=fun hv h=>by
  rcases aK hv with ⟨i,t,rfl,rfl⟩ | ⟨x,t,rfl,rfl⟩
  ·exact wpAny_pyHash_int h
  ·exact wpAny_pyHash_str h
 eqBool:=fun hu hv h=>by
  rcases aK hu with ⟨i,t,rfl,rfl⟩ | ⟨x,t,rfl,rfl⟩
  ·rcases aK hv with ⟨j,u,rfl,rfl⟩ | ⟨y,u,rfl,rfl⟩
   ·rw [p6] at h;exact wpAny_eqBool_int h
   ·rw [p8] at h;exact SeqAt.EqAt.int_str i t y u _ _ _ _ h
  ·rcases aK hv with ⟨j,u,rfl,rfl⟩ | ⟨y,u,rfl,rfl⟩
   ·rw [p9] at h;exact SeqAt.EqAt.str_int x t j u _ _ _ _ h
   ·rw [p7] at h;exact wpAny_eqBool_str h
 «strs»:=fun k x t v h=>by
  rcases aK h with ⟨i,u,rfl,e⟩ | ⟨y,u,rfl,e⟩
  ·exact nomatch e
  ·injection e with e1 _
   subst e1
   cases v <;> rfl
theorem hV (prog:Program) (w:World) (i:Int) (t:Tok):(mixKind prog w).is (.inl i) (.int i t)=true:=jS i t
theorem hW (prog:Program) (w:World) (x:Str) (t:Tok):(mixKind prog w).is (.inr x) (.str x t)=true:=jT x t
inductive V where
 | non | bl (b:Bool) | int (i:Int) | str (x:Str) | byt (b:Array UInt8) | flt (b:UInt64) | ref (a:Addr) | ty (n:String)
 deriving DecidableEq
noncomputable def RelV:V→Value→Prop
 | .non,u=>u=Value.none
 | .bl b,u=>u=Value.bool b
 | .int i,u=>∃ t,u=Value.int i t
 | .str x,u=>∃ t,u=Value.str x t
 | .byt b,u=>∃ t,u=Value.bytes b t
 | .flt b,u=>∃ t,u=Value.float b t
 | .ref a,u=>u=Value.ref a
 | .ty n,u=>u=Value.type n
abbrev Vals:List V→List Value→Prop:=Paired RelV
theorem Vals.length {xs:List V} {us:List Value} (r:Vals xs us):xs.length=us.length:=Paired.length r
theorem Vals.get:∀ {xs:List V} {us:List Value} {i:Nat} {x:V},Vals xs us→xs[i]?=some x→∃ u,us[i]?=some u∧RelV x u
 | _,_,_,_,.nil,e=>by simp at e
 | _,_,0,_,.cons r _,e=>by simp at e;subst e;exact ⟨_,rfl,r⟩
 | _,_,i + 1,x,.cons _ t,e=>by
  obtain ⟨u,h1,h2⟩:=Vals.get (i:=i) (x:=x) t (by simpa using e)
  exact ⟨u,by simpa using h1,h2⟩
theorem Vals.set {x:V} {u:Value} (r:RelV x u):∀ {xs:List V} {us:List Value} (i:Nat),Vals xs us→Vals (xs.set i x) (us.set i u)
 | _,_,_,.nil=>.nil
 | _,_,0,.cons _ t=>.cons r t
 | _,_,i + 1,.cons q t=>.cons q (Vals.set r i t)
theorem Vals.append:∀ {xs ys:List V} {us ws:List Value},Vals xs us→Vals ys ws→Vals (xs++ys) (us++ws)
 | _,_,_,_,.nil,s=>s
 | _,_,_,_,.cons r t,s=>.cons r (Vals.append t s)
theorem Vals.take:∀ {xs:List V} {us:List Value} (n:Nat),Vals xs us→Vals (xs.take n) (us.take n)
 | _,_,0,_=>.nil
 | _,_,_ + 1,.nil=>.nil
 | _,_,n + 1,.cons r t=>.cons r (Vals.take n t)
theorem Vals.drop:∀ {xs:List V} {us:List Value} (n:Nat),Vals xs us→Vals (xs.drop n) (us.drop n)
 | _,_,0,r=>r
 | _,_,_ + 1,.nil=>.nil
 | _,_,n + 1,.cons _ t=>Vals.drop n t
theorem Vals.none_of:∀ {xs:List V} {us:List Value} {i:Nat},Vals xs us→xs[i]?=none→us[i]?=none:=fun {xs us i} r e=>by
 have h1:=r.length
 have h2:xs.length≤i:=List.getElem?_eq_none_iff.mp e
 exact List.getElem?_eq_none_iff.mpr (by lia)
noncomputable def RelO:Option V→Option Value→Prop
 | some v,some u=>RelV v u
 | none,none=>True
 | _,_=>False
noncomputable def KV {κ:Type}:List (κ×V)→List (κ×Value)→Prop:=Paired fun (p:κ×V) (q:κ×Value)=>p.1=q.1∧RelV p.2 q.2
noncomputable def kV:Key→V
 | .inl i=>.int i
 | .inr x=>.str x
inductive HO where
 | lst (xs:List V)
 | tup (xs:List V)
 | dK (kvs:List (Key×V)) | dT (kvs:List (List Key×V))
 | set (S:Int→Bool) (n:Nat)
 | ins (C dx:Addr) (fs:List (Str×V))
 | own (x:Addr)
 | xd (fs:List (Str×V))
 | met (f x:Addr)
 | rng (lo hi:Int)
 | frz (o:Obj) (u:HO)
 | tbl (ps:Array Value)
 | ext (φ:Heap→Prop)
abbrev Hp:=Addr→Option HO
noncomputable def upd (H:Hp) (a:Addr) (o:HO):Hp:=fun b=>if b=a then some o else H b
theorem aX {H:Hp} {a:Addr} {o:HO}:upd H a o a=some o:=by unfold upd;rw [if_pos rfl]
theorem ak {H:Hp} {a b:Addr} {o:HO} (h:b≠a):upd H a o b=H b:=by unfold upd;rw [if_neg h]
theorem aw {H:Hp} {a b:Addr} {o:HO} (h:H a=some o) (h':H b=none):a≠b:=by
 intro e;subst e;rw [h] at h';cases h'
section
variable (P:Program) (w:World)
noncomputable def ObjOk (H:Hp) (h:Heap) (a:Addr):HO→Prop
 | .lst xs=>xs.length≤sizeLine∧∃ (its:List Value) (n:Nat),Vals xs its∧h.get? a=some { cls:=.type "list",data:=.seq its.toArray n }
 | .tup xs=>xs.length≤sizeLine∧∃ its:List Value,Vals xs its∧IsTupN h a its.toArray
 | .dK kvs=>kvs.length≤sizeLine∧(a == sysModules)=false∧∃ vs,KV kvs vs∧h.DictOf (mixKind P w) a vs
 | .dT kvs=>kvs.length≤sizeLine∧(a == sysModules)=false∧∃ xs:List (List Key×Addr×Value),
   Paired (fun (p:List Key×V) (q:List Key×Addr×Value)=>p.1=q.1∧H q.2.1=some (.tup (p.1.map kV))∧RelV p.2 q.2.2) kvs xs∧
   ∃ o es ep,h.get? a=some o∧o.ExactDict∧o.data=.dict es ep∧es.toList=xs.map (entryOfKey (tupleKind (mixKind P w)))∧(xs.map (·.1)).Nodup
 | .set S n=>h.SetOf (intKind P w) a S n
 | .ins C dx fs=>H dx=some (.own a)∧fs.length≤1000∧dx≠a∧h.get? a=some (PySem.W.instObj C dx)∧
   ∃ mA,h.Ns1 dx mA∧(∀ f,RelO (fs.lookup f) (mA f))∧PySem.Within mA (fs.map (·.1))
 | .own _=>∃ o,h.get? a=some o
 | .xd fs=>∃ mA,h.Ns1 a mA∧∀ f,RelO (fs.lookup f) (mA f)
 | .rng lo hi=>∃ t u v,h.get? a=some { cls:=.type "range",data:=.fields #[.int lo t,.int hi u,.int 1 v] }
 | .frz o u=>h.get? a=some o∧ObjOk H h a u
 | .tbl ps=>h.get? a=some { cls:=.none,data:=.fields ps }
 | .met f x=>h.get? a=some (PySem.W.methodObj (.ref f) (.ref x))
 | .ext φ=>φ h∧(∃ o,h.get? a=some o)∧∀ h1 h2:Heap,φ h1→(∀ o,h1.get? a=some o→h2.get? a=some o)→φ h2
def HOk (H:Hp) (h:Heap):Prop:=∀ a o,H a=some o→ObjOk P w H h a o
end
section
variable {P:Program} {w:World} {H H':Hp} {h h':Heap} {a:Addr} {o:HO}
theorem ObjOk.lt (x:ObjOk P w H h a o):a < h.objs.size:=by
 cases o with
 | lst xs=>obtain ⟨_,_,_,_,e⟩:=x;exact Heap.lt_size e
 | tup xs=>obtain ⟨_,_,_,p⟩:=x;exact p.tup.lt
 | dK kvs=>obtain ⟨_,_,_,_,o,_,_,e,_⟩:=x;exact Heap.lt_size e
 | dT kvs=>obtain ⟨_,_,_,_,o,_,_,e,_⟩:=x;exact Heap.lt_size e
 | set S n=>obtain ⟨o,_,_,_,e,_⟩:=x;exact Heap.lt_size e
 | ins C dx fs=>obtain ⟨_,_,_,e,_⟩:=x;exact Heap.lt_size e
 | own y=>obtain ⟨_,e⟩:=x;exact Heap.lt_size e
 | xd fs=>obtain ⟨_,⟨_,_,_,e,_⟩,_⟩:=x;exact Heap.lt_size e
 | rng lo hi=>obtain ⟨_,_,_,e⟩:=x;exact Heap.lt_size e
 | frz ob u=>obtain ⟨e,_⟩:=x;exact Heap.lt_size e
 | tbl ps=>exact Heap.lt_size (show h.get? a=some _ from x)
 | met f y=>exact Heap.lt_size (show h.get? a=some _ from x)
 | ext φ=>obtain ⟨_,⟨_,e⟩,_⟩:=x;exact Heap.lt_size e
theorem Paired.mapP {α β:Type} {F G:α→β→Prop}:∀ {l₁:List α} {l₂:List β},Paired F l₁ l₂→(∀ a b,F a b→G a b)→Paired G l₁ l₂
 | _,_,.nil,_=>.nil
 | _,_,.cons r t,f=>.cons (f _ _ r) (Paired.mapP t f)
theorem ObjOk.stay (x:ObjOk P w H h a o) (k:∀ b u,(b=a∨H b=some (.own a))→h.get? b=some u→h'.get? b=some u)
  (ho:∀ b,H b=some (.own a)→H' b=some (.own a)) (ht:∀ b xs,H b=some (.tup xs)→H' b=some (.tup xs)):ObjOk P w H' h' a o:=by
 induction o with
 | lst xs=>obtain ⟨z,its,n,r,e⟩:=x;exact ⟨z,its,n,r,k _ _ (.inl rfl) e⟩
 | tup xs=>obtain ⟨z,its,r,ob,e,c⟩:=x;exact ⟨z,its,r,ob,k _ _ (.inl rfl) e,c⟩
 | dK kvs=>obtain ⟨z,y,vs,r,ob,es,ep,e,c⟩:=x;exact ⟨z,y,vs,r,ob,es,ep,k _ _ (.inl rfl) e,c⟩
 | dT kvs=>
  obtain ⟨z,y,xs,r,ob,es,ep,e,c⟩:=x
  exact ⟨z,y,xs,Paired.mapP r fun p q z=>⟨z.1,ht _ _ z.2.1,z.2.2⟩,ob,es,ep,k _ _ (.inl rfl) e,c⟩
 | set S n=>obtain ⟨ob,es,ep,t,e,c⟩:=x;exact ⟨ob,es,ep,t,k _ _ (.inl rfl) e,c⟩
 | ins C dx fs=>
  obtain ⟨d,z,ne,e,mA,⟨od,es,ep,e2,c⟩,r⟩:=x
  exact ⟨ho _ d,z,ne,k _ _ (.inl rfl) e,mA,⟨od,es,ep,k _ _ (.inr d) e2,c⟩,r⟩
 | own y=>obtain ⟨ob,e⟩:=x;exact ⟨ob,k _ _ (.inl rfl) e⟩
 | xd fs=>obtain ⟨mA,⟨od,es,ep,e,c⟩,r⟩:=x;exact ⟨mA,⟨od,es,ep,k _ _ (.inl rfl) e,c⟩,r⟩
 | rng lo hi=>obtain ⟨t,u,v,e⟩:=x;exact ⟨t,u,v,k _ _ (.inl rfl) e⟩
 | frz ob u ih=>obtain ⟨e,q⟩:=x;exact ⟨k _ _ (.inl rfl) e,ih q⟩
 | tbl ps=>
  have e:h.get? a=some { cls:=.none,data:=.fields ps }:=x
  show h'.get? a=some { cls:=.none,data:=.fields ps }
  exact k a _ (.inl rfl) e
 | met f y=>
  have e:h.get? a=some (PySem.W.methodObj (.ref f) (.ref y)):=x
  show h'.get? a=some (PySem.W.methodObj (.ref f) (.ref y))
  exact k a _ (.inl rfl) e
 | ext φ=>obtain ⟨p,⟨o,e⟩,st⟩:=x;exact ⟨st _ _ p fun o q=>k _ _ (.inl rfl) q,⟨o,k _ _ (.inl rfl) e⟩,st⟩
theorem HOk.lt (x:HOk P w H h) (e:H a=some o):a < h.objs.size:=(x a o e).lt
theorem HOk.fresh (x:HOk P w H h) (e:h.objs.size≤a):H a=none:=by
 cases q:H a with
 | none=>rfl
 | some u=>exact absurd (Nat.lt_of_lt_of_le (x.lt q) e) (Nat.lt_irrefl _)
theorem HOk.kept (x:HOk P w H h) (k:∀ b u,h.get? b=some u→h'.get? b=some u):HOk P w H h':=fun a o e=>
 (x a o e).stay (fun b u _ q=>k b u q) (fun _ q=>q) fun _ _ q=>q
theorem HOk.laid (x:HOk P w H h) (k:∀ b u,h.get? b=some u→h'.get? b=some u) (hp:h.objs.size≤a) (new:ObjOk P w (upd H a o) h' a o):HOk P w (upd H a o) h':=fun b u e=>by
 have hn:=x.fresh hp
 by_cases hb:b=a
 ·subst hb;rw [aX] at e;cases e;exact new
 ·rw [ak hb] at e
  exact (x b u e).stay (fun c v _ q=>k c v q) (fun c q=>by rw [ak (aw q hn)];exact q) fun c xs q=>by rw [ak (aw q hn)];exact q
end
def Rd (H:Hp) (a:Addr) (u:HO):Prop:=H a=some u∨∃ o,H a=some (.frz o u)
theorem Rd.ok {P:Program} {w:World} {H:Hp} {h:Heap} {a:Addr} {u:HO} (r:Rd H a u) (x:HOk P w H h):ObjOk P w H h a u:=by
 rcases r with r | ⟨o,r⟩
 ·exact x a u r
 ·obtain ⟨_,q⟩:=x a _ r
  exact q
noncomputable def Mut:Option HO→Prop
 | some (.lst _)=>True
 | some (.dK _)=>True
 | some (.dT _)=>True
 | some (.set _ _)=>True
 | some (.ins _ _ _)=>True
 | some (.ext _)=>True
 | _=>False
section
variable {P:Program} {w:World} {H:Hp} {h h':Heap} {x e:Addr} {o':HO}
theorem HOk.write (ok:HOk P w H h) (mu:Mut (H x)) (he:e=x∨H e=some (.own x)) (k:∀ b u,b≠e→h.get? b=some u→h'.get? b=some u) (heo:∃ u,h'.get? e=some u)
  (new:ObjOk P w (upd H x o') h' x o'):HOk P w (upd H x o') h':=fun b u q=>by
 have nown:∀ c y,H c=some (.own y)→c≠x:=fun c y r z=>by subst z;rw [r] at mu;exact mu
 have ntup:∀ c xs,H c=some (.tup xs)→c≠x:=fun c xs r z=>by subst z;rw [r] at mu;exact mu
 by_cases hb:b=x
 ·subst hb;rw [aX] at q;cases q;exact new
 ·rw [ak hb] at q
  by_cases hbe:b=e
  ·have q':H b=some (.own x):=by
    rcases he with z | z
    ·exact absurd (hbe.trans z) hb
    ·rw [hbe];exact z
   rw [q] at q';cases q'
   obtain ⟨v,hv⟩:=heo
   exact ⟨v,by rw [hbe];exact hv⟩
  ·refine (ok b u q).stay (fun c v hc r=>k c v ?_ r) (fun c r=>by rw [ak (nown c b r)];exact r) fun c xs r=>by rw [ak (ntup c xs r)];exact r
   rcases hc with rfl | hc
   ·exact hbe
   ·rintro rfl
    rcases he with z | z
    ·exact nown c b hc z
    ·rw [hc] at z;cases z;exact hb rfl
end
structure Un (fs ex:List Addr) (H H':Hp) (h h':Heap):Prop where
 keep:∀ b o,h.get? b=some o→H b=none→b∉fs→b∉ex→h'.get? b=some o
 slot:∀ b o,h.get? b=some o→H b=none→b∈fs→b∉ex→∃ sl,h'.get? b=some { o with slots:=sl }
 free:∀ b o,h.get? b=some o→H b=none→b∉ex→H' b=none
 there:∀ b o,h.get? b=some o→b∉ex→∃ o',h'.get? b=some o'
 tups:∀ b xs,H b=some (.tup xs)→H' b=some (.tup xs)
 frzs:∀ b o u,H b=some (.frz o u)→H' b=some (.frz o u)
 tbls:∀ b ps,H b=some (.tbl ps)→∃ more,H' b=some (.tbl (ps++more))
section
variable {fs fs' ex ex':List Addr} {H H1 H2:Hp} {h h1 h2 h':Heap} {a x e:Addr} {o:HO}
theorem Un.any (u:Un fs ex H H1 h h1) {b:Addr} {ob:Obj} (q:h.get? b=some ob) (n:H b=none) (hx:b∉ex):∃ sl,h1.get? b=some { ob with slots:=sl }:=by
 by_cases hb:b∈fs
 ·exact u.slot b ob q n hb hx
 ·exact ⟨ob.slots,u.keep b ob q n hb hx⟩
theorem Un.trans (a:Un fs ex H H1 h h1) (b:Un fs ex H1 H2 h1 h2):Un fs ex H H2 h h2 where
 keep:=fun c ob q n hc hx=>b.keep c ob (a.keep c ob q n hc hx) (a.free c ob q n hx) hc hx
 slot:=fun c ob q n hc hx=>by
  obtain ⟨sl,e1⟩:=a.slot c ob q n hc hx
  obtain ⟨sl',e2⟩:=b.slot c _ e1 (a.free c ob q n hx) hc hx
  exact ⟨sl',e2⟩
 free:=fun c ob q n hx=>by
  obtain ⟨o',e1⟩:=a.there c ob q hx
  exact b.free c o' e1 (a.free c ob q n hx) hx
 there:=fun c ob q hx=>by
  obtain ⟨o',e1⟩:=a.there c ob q hx
  exact b.there c o' e1 hx
 tups:=fun c xs q=>b.tups c xs (a.tups c xs q)
 frzs:=fun c ob xs q=>b.frzs c ob xs (a.frzs c ob xs q)
 tbls:=fun c ps q=>by
  obtain ⟨m1,e1⟩:=a.tbls c ps q
  obtain ⟨m2,e2⟩:=b.tbls c _ e1
  exact ⟨m1++m2,by rw [e2,Array.append_assoc]⟩
theorem Un.kept (k:∀ b u,h.get? b=some u→h'.get? b=some u):Un fs ex H H h h':=
 ⟨fun b ob q _ _ _=>k b ob q,fun b ob q _ _ _=>⟨ob.slots,k b ob q⟩,fun _ _ _ n _=>n,fun b ob q _=>⟨ob,k b ob q⟩,fun _ _ q=>q,fun _ _ _ q=>q,fun _ ps q=>⟨#[],by rw [q];simp⟩⟩
theorem Un.refl:Un fs ex H H h h:=Un.kept fun _ _ q=>q
theorem Un.laid (k:∀ b u,h.get? b=some u→h'.get? b=some u) (hp:h.objs.size≤a) (hn:H a=none):Un fs ex H (upd H a o) h h' where
 keep:=fun b u q _ _ _=>k b u q
 slot:=fun b u q _ _ _=>⟨u.slots,k b u q⟩
 free:=fun b u q n _=>by rw [ak (Nat.ne_of_lt (Nat.lt_of_lt_of_le (Heap.lt_size q) hp))];exact n
 there:=fun b u q _=>⟨u,k b u q⟩
 tups:=fun b xs q=>by rw [ak (aw q hn)];exact q
 frzs:=fun b u xs q=>by rw [ak (aw q hn)];exact q
 tbls:=fun b ps q=>⟨#[],by rw [ak (aw q hn),q];simp⟩
theorem Un.write (mu:Mut (H x)) (he:e=x∨H e=some (.own x)) (k:∀ b u,b≠e→h.get? b=some u→h'.get? b=some u) (heo:∃ u,h'.get? e=some u):Un fs ex H (upd H x o) h h':=by
 have hx:∀ b,H b=none→b≠x:=fun b n z=>by subst z;rw [n] at mu;exact mu
 have hb:∀ b,H b=none→b≠e:=fun b n z=>by
  subst z
  rcases he with r | r
  ·exact hx b n r
  ·rw [n] at r;cases r
 have hm:∀ b u,H b=some u→¬ Mut (some u)→b≠x:=fun b u q nm z=>by subst z;rw [q] at mu;exact nm mu
 refine ⟨fun b u q n _ _=>k b u (hb b n) q,fun b u q n _ _=>⟨u.slots,k b u (hb b n) q⟩,fun b u q n _=>by rw [ak (hx b n)];exact n,fun b u q _=>?_,
  fun b xs q=>by rw [ak (hm b _ q fun z=>z)];exact q,fun b u xs q=>by rw [ak (hm b _ q fun z=>z)];exact q,fun b ps q=>⟨#[],by rw [ak (hm b _ q fun z=>z),q];simp⟩⟩
 by_cases hbe:b=e
 ·subst hbe;exact heo
 ·exact ⟨u,k b u hbe q⟩
theorem Un.mono (u:Un fs ex H H1 h h1) (hs:∀ b∈fs,b∈fs') (hx:∀ b∈ex,b∈ex'):Un fs' ex' H H1 h h1:=
 ⟨fun b ob q n hb he=>u.keep b ob q n (fun z=>hb (hs b z)) fun z=>he (hx b z),fun _ _ q n _ he=>u.any q n fun z=>he (hx _ z),fun b ob q n he=>u.free b ob q n fun z=>he (hx b z),fun b ob q he=>u.there b ob q fun z=>he (hx b z),u.tups,u.frzs,u.tbls⟩
end
noncomputable def trk (h:Heap) (H:Hp):List Addr:=(List.range h.objs.size).filter fun a=>(H a).isSome
noncomputable def lQ (h:Heap) (H:Hp):Heap:=PySem.W.hideAll h (trk h H)
theorem jU (h:Heap) (H:Hp):(lQ h H).objs.size=h.objs.size:=PySem.W.hideAll_size _ _
theorem lR {h:Heap} {H:Hp} {b:Addr} {o:Obj} (e:h.get? b=some o) (n:H b=none):(lQ h H).get? b=some o:=
 PySem.W.hideAll_get _ e fun hm=>by
  have q:(H b).isSome=true:=(List.mem_filter.mp hm).2
  rw [n] at q;simp at q
theorem n0 {h:Heap} {H:Hp} {b:Addr} {o:Obj} (e:(lQ h H).get? b=some o):h.get? b=some o∧H b=none:=by
 have e':h.get? b=some o:=PySem.W.of_hideAll (trk h H) e
 refine ⟨e',?_⟩
 cases q:H b with
 | none=>rfl
 | some x=>
  have hm:b∈trk h H:=List.mem_filter.mpr ⟨List.mem_range.mpr (Heap.lt_size e'),by simp [q]⟩
  have z:(lQ h H).get? b=none:=PySem.W.hideAll_none (trk h H) hm
  rw [z] at e;cases e
noncomputable def og (g h:Heap) (L:Addr):List (Addr×Obj):=(List.range h.objs.size).filterMap fun a=>if a=L∨(g.get? a).isSome=true then none else (h.get? a).map fun o=>(a,o)
noncomputable def bG (g h:Heap) (L d:Addr):List (Addr×Obj):=(og g h L).filter fun p=>decide (p.1≠d)
structure Mod (K:W.Frag) (mg:Str→Option Value) (base:Heap):Prop where
 kin:K.In base
 glob:base.Ns mainGlobals mg
 blt:∃ mb,base.Ns builtinsNs mb∧∀ x:Str,x≠"__name__"→mb x=bootBuiltins x
 nolimit:base.NoLimit
structure Cx where
 prog:Program
 w:World
 K:W.Frag
 mg:Str→Option Value
 base:Heap
 A:Around
 N:List Str
 s₀:Shared
 H₀:Hp
 env:Env
 outer:List Env
 stack:List Env
 ex:List Addr
 fn:Str→Bool
 calm:Bool
 pn:List (Addr×Obj)
 xe:Value→Shared→Prop
noncomputable def frs (l:List Env):List Addr:=l.filterMap (·.frame)
abbrev Cx.fs (X:Cx):List Addr:=frs X.outer
def Vis (sc:Scope) (x:Str):Prop:=sc.names.lookup x=some .local∨sc.names.lookup x=some .cell∨sc.names.lookup x=some .free
def Loc (sc:Scope) (x:Str):Prop:=sc.names.lookup x=some .local∨sc.names.lookup x=some .cell
noncomputable def uW (sc:Scope) (x:Str):Bool:=match sc.names.lookup x with
 | some .local=>true
 | some .cell=>true
 | _=>false
theorem lo {sc:Scope} {x:Str} (h:uW sc x=true):Loc sc x:=by
 unfold uW at h
 split at h
 ·exact .inl (by assumption)
 ·exact .inr (by assumption)
 ·cases h

def vh (env:Env) (h:Heap) (m:Str→Option Value) (x:Str) (u:Value):Prop:=
 (env.kindOf x=some .local∧m x=some u)∨((env.kindOf x=some .cell∨env.kindOf x=some .free)∧∃ c,env.cells.lookup x=some c∧h.IsCell c (some u))
structure Cx.Ok (X:Cx):Prop where
 mod:Mod X.K X.mg X.base
 kind:X.env.scope.kind=.function
 glob:X.env.globals=mainGlobals
 blt:X.env.builtins=builtinsNs
 above:X.s₀.heap.objs.size≤X.env.locals
 inj:∀ x y c,X.env.cells.lookup x=some c→X.env.cells.lookup y=some c→x=y
 has:∀ x,(X.env.kindOf x=some .cell∨X.env.kindOf x=some .free)→∃ c,X.env.cells.lookup x=some c
 cab:∀ x c,X.fn x=true→X.env.cells.lookup x=some c→X.s₀.heap.objs.size≤c
 hd:X.calm=true→X.A.handled=none
 frames:X.A.frames=some X.stack
 stk:X.stack=X.outer∨(X.stack=X.env :: X.outer∧X.env.frame=some X.env.locals)
 exf:∀ b∈X.ex,b≠X.env.locals∧∀ x c,X.env.cells.lookup x=some c→c≠b
 bs:∀ b o,X.base.get? b=some o→X.s₀.heap.get? b=some o∧X.H₀ b=none
 bsz:X.base.objs.size≤X.s₀.heap.objs.size
 noex:∀ b o,X.base.get? b=some o→b∉X.ex
 exfs:∀ b∈X.ex,b∉X.fs
 funs:X.s₀.heap.FunFrames X.base X.outer
 frf:∀ b∈X.fs,X.H₀ b=none
structure Inv (X:Cx) (pins:List (Addr×Obj)) (σ:List (Option V)) (H:Hp) (s:Shared):Prop where
 ok:X.Ok
 os:s.os=X.s₀.os
 bare:AllBare s.gens
 base:Un X.fs X.ex X.H₀ H X.s₀.heap s.heap
 loc:∃ m,s.heap.Ns X.env.locals m∧∀ (i:Nat) (x:Str) (v:V),X.N[i]?=some x→σ[i]?=some (some v)→Vis X.env.scope x→∃ u,RelV v u∧vh X.env s.heap m x u
 cell:∀ x c,X.env.cells.lookup x=some c→∃ v,s.heap.IsCell c v
 free:H X.env.locals=none
 freeC:∀ x c,X.env.cells.lookup x=some c→H c=none
 pin:∀ p∈X.pn++pins,s.heap.get? p.1=some p.2∧H p.1=none∧p.1≠X.env.locals∧p.1∉X.fs∧∀ v,p.2.data≠.cell v
 hok:HOk X.prog X.w H s.heap
 len:σ.length=X.N.length
section
variable {X:Cx} {pins:List (Addr×Obj)} {σ:List (Option V)} {H H':Hp} {s:Shared} {h':Heap}
theorem Cx.Ok.nofr (ok:X.Ok) {b:Addr} {o:Obj} (e:X.base.get? b=some o):b∉X.fs:=fun hb=>by
 have:=(ok.funs.mem hb).1
 rw [e] at this;cases this
theorem Inv.bs (I:Inv X pins σ H s):∀ b o,X.base.get? b=some o→s.heap.get? b=some o∧H b=none:=fun b o e=>
 ⟨I.base.keep b o (I.ok.bs b o e).1 (I.ok.bs b o e).2 (I.ok.nofr e) (I.ok.noex b o e),I.base.free b o (I.ok.bs b o e).1 (I.ok.bs b o e).2 (I.ok.noex b o e)⟩
theorem Inv.bk (I:Inv X pins σ H s):∀ b o,X.base.get? b=some o→s.heap.get? b=some o:=fun b o e=>(I.bs b o e).1
theorem Inv.mod (I:Inv X pins σ H s):Mod X.K X.mg X.base:=I.ok.mod
theorem Inv.kIn (I:Inv X pins σ H s):X.K.In s.heap:=I.ok.mod.kin.keeps I.bk
theorem Inv.lt (I:Inv X pins σ H s):X.env.locals < s.heap.objs.size:=let ⟨_,hn,_⟩:=I.loc;hn.lt
theorem Inv.sz (I:Inv X pins σ H s):X.s₀.heap.objs.size≤s.heap.objs.size:=Nat.le_trans I.ok.above (Nat.le_of_lt I.lt)
theorem Inv.nofs (I:Inv X pins σ H s) {a:Addr} (h:s.heap.objs.size≤a):a∉X.fs:=fun hb=>by
 obtain ⟨_,o,ho,_⟩:=I.ok.funs.mem hb
 exact absurd (Nat.lt_of_lt_of_le (Heap.lt_size ho) (Nat.le_trans I.sz h)) (Nat.lt_irrefl _)
theorem Inv.cne (I:Inv X pins σ H s):∀ x c,X.env.cells.lookup x=some c→c≠X.env.locals:=fun x c e z=>by
 obtain ⟨v,o,ho,hd⟩:=I.cell x c e
 obtain ⟨m,⟨o',es,ep,ho',hd',_⟩,_⟩:=I.loc
 rw [z,ho'] at ho;cases ho;rw [hd'] at hd;cases hd
theorem Inv.funs (I:Inv X pins σ H s):s.heap.FunFrames X.base X.outer:=by
 have all:∀ (l:List Env),(∀ b∈frs l,b∈X.fs)→X.s₀.heap.FunFrames X.base l→s.heap.FunFrames X.base l:=by
  intro l
  induction l with
  | nil=>intro _ _;trivial
  | cons env r ih=>
   intro hs hl
   obtain ⟨hk,⟨L,o,hf,hn,ho,hd⟩,hr⟩:=hl
   have hL:L∈X.fs:=hs L (by unfold frs;rw [List.filterMap_cons,hf];exact List.mem_cons_self)
   obtain ⟨sl,e⟩:=I.base.slot L o ho (I.ok.frf L hL) hL fun z=>I.ok.exfs L z hL
   exact ⟨hk,⟨L,_,hf,hn,e,hd⟩,ih (fun b hb=>hs b (by unfold frs;rw [List.filterMap_cons,hf];exact List.mem_cons_of_mem _ hb)) hr⟩
 exact all X.outer (fun _ hb=>hb) I.ok.funs
theorem Inv.stack (I:Inv X pins σ H s):s.heap.FunFrames X.base X.stack:=by
 rcases I.ok.stk with e | ⟨e,hf⟩
 ·rw [e];exact I.funs
 ·rw [e]
  obtain ⟨m,hn,_⟩:=I.loc
  refine .cons (by rw [I.ok.kind];decide) hf hn ?_ I.funs
  exact Heap.get?_none_of_le (Nat.le_trans I.ok.bsz I.ok.above)
theorem Inv.stkSub (I:Inv X pins σ H s):∀ b∈frs X.stack,b∈X.env.locals :: X.fs:=fun b hb=>by
 rcases I.ok.stk with e | ⟨e,hf⟩
 ·rw [e] at hb;exact List.mem_cons_of_mem _ hb
 ·rw [e] at hb
  unfold frs at hb
  rw [List.filterMap_cons,hf] at hb
  exact hb
theorem Inv.stkFree (I:Inv X pins σ H s):∀ b∈frs X.stack,H b=none:=fun b hb=>by
 rcases List.mem_cons.mp (I.stkSub b hb) with e | hb
 ·rw [e];exact I.free
 ·obtain ⟨_,o,ho,_⟩:=I.ok.funs.mem hb
  exact I.base.free b o ho (I.ok.frf b hb) fun z=>I.ok.exfs b z hb
theorem Inv.step {g':Array GenState} {t':Nat} {d':Drawn} {ch:List Addr} (I:Inv X pins σ H s)
  (hch:∀ b∈ch,(b∈X.ex∨X.s₀.heap.objs.size≤b)∧b≠X.env.locals∧(∀ x c,X.env.cells.lookup x=some c→c≠b)∧∀ p∈X.pn++pins,p.1≠b)
  (keep:∀ b o,b≠X.env.locals→b∉X.fs→b∉ch→s.heap.get? b=some o→H b=none→h'.get? b=some o)
  (slot:∀ b o,b≠X.env.locals→b∈X.fs→b∉ch→s.heap.get? b=some o→H b=none→∃ sl,h'.get? b=some { o with slots:=sl }) (free:∀ b o,b∉ch→s.heap.get? b=some o→H b=none→H' b=none)
  (there:∀ b o,b∉ch→s.heap.get? b=some o→∃ o',h'.get? b=some o')
  (tups:∀ b xs,H b=some (.tup xs)→H' b=some (.tup xs)) (frzs:∀ b o u,H b=some (.frz o u)→H' b=some (.frz o u)) (tbls:∀ b ps,H b=some (.tbl ps)→∃ more,H' b=some (.tbl (ps++more)))
  (ns:∀ m,s.heap.Ns X.env.locals m→h'.Ns X.env.locals m) (hok:HOk X.prog X.w H' h') (hg:AllBare g') :
  Inv X pins σ H' { s with heap:=h',gens:=g',drawn:=d',toks:=t' }:=by
 have neL:∀ b o,X.s₀.heap.get? b=some o→b≠X.env.locals:=fun b o e=>Nat.ne_of_lt (Nat.lt_of_lt_of_le (Heap.lt_size e) I.ok.above)
 have neC:∀ b o,X.s₀.heap.get? b=some o→b∉X.ex→b∉ch:=fun b o e hx hb=>by
  rcases (hch b hb).1 with z | z
  ·exact hx z
  ·exact absurd (Nat.lt_of_lt_of_le (Heap.lt_size e) z) (Nat.lt_irrefl _)
 have cellK:∀ x c,X.env.cells.lookup x=some c→∀ v,s.heap.IsCell c v→h'.IsCell c v:=fun x c e v hq0=>by
  obtain ⟨o,ho,hd⟩:=hq0
  have nch:c∉ch:=fun z=>(hch c z).2.2.1 x c e rfl
  by_cases hc:c∈X.fs
  ·obtain ⟨sl,q⟩:=slot c o (I.cne x c e) hc nch ho (I.freeC x c e)
   exact ⟨_,q,hd⟩
  ·exact ⟨o,keep c o (I.cne x c e) hc nch ho (I.freeC x c e),hd⟩
 refine ⟨I.ok,I.os,hg,⟨fun b o e n hb hx=>?_,fun b o e n hb hx=>?_,fun b o e n hx=>?_,fun b o e hx=>?_,fun b xs e=>tups b xs (I.base.tups b xs e),fun b o xs e=>frzs b o xs (I.base.frzs b o xs e),fun b ps e=>?_⟩,?_,fun x c e=>?_,?_,fun x c e=>?_,fun p hp=>?_,hok,I.len⟩
 ·exact keep b o (neL b o e) hb (neC b o e hx) (I.base.keep b o e n hb hx) (I.base.free b o e n hx)
 ·obtain ⟨sl,e1⟩:=I.base.slot b o e n hb hx
  obtain ⟨sl',e2⟩:=slot b _ (neL b o e) hb (neC b o e hx) e1 (I.base.free b o e n hx)
  exact ⟨sl',e2⟩
 ·obtain ⟨o',e1⟩:=I.base.there b o e hx
  exact free b o' (neC b o e hx) e1 (I.base.free b o e n hx)
 ·obtain ⟨o',e1⟩:=I.base.there b o e hx
  exact there b o' (neC b o e hx) e1
 ·obtain ⟨m1,e1⟩:=I.base.tbls b ps e
  obtain ⟨m2,e2⟩:=tbls b _ e1
  exact ⟨m1++m2,by rw [e2,Array.append_assoc]⟩
 ·obtain ⟨m,hn,hl⟩:=I.loc
  refine ⟨m,ns m hn,fun i x v e1 e2 e3=>?_⟩
  obtain ⟨u,r,l⟩:=hl i x v e1 e2 e3
  refine ⟨u,r,?_⟩
  rcases l with l | ⟨k,c,e,z⟩
  ·exact .inl l
  ·exact .inr ⟨k,c,e,cellK x c e _ z⟩
 ·obtain ⟨v,z⟩:=I.cell x c e
  exact ⟨v,cellK x c e v z⟩
 ·obtain ⟨m,⟨o,_,_,ho,_⟩,_⟩:=I.loc
  exact free _ o (fun z=>(hch _ z).2.1 rfl) ho I.free
 ·obtain ⟨v,o,ho,hd⟩:=I.cell x c e
  exact free c o (fun z=>(hch c z).2.2.1 x c e rfl) ho (I.freeC x c e)
 ·obtain ⟨e,n,ne,nf,d⟩:=I.pin p hp
  have nch:p.1∉ch:=fun z=>(hch p.1 z).2.2.2 p hp rfl
  exact ⟨keep p.1 p.2 ne nf nch e n,free p.1 p.2 nch e n,ne,nf,d⟩
theorem Inv.un {t':Nat} (I:Inv X pins σ H s) (u:Un X.fs [] H H' s.heap h') (hok:HOk X.prog X.w H' h'):Inv X pins σ H' { s with heap:=h',toks:=t' }:=by
 obtain ⟨m,⟨o,es,ep,ho,r⟩,_⟩:=id I.loc
 obtain ⟨sl,hL⟩:=u.any ho I.free (by simp)
 exact I.step (g':=s.gens) (d':=s.drawn) (ch:=[]) (fun _ z=>nomatch z) (fun b o _ hb _ e n=>u.keep b o e n hb (by simp)) (fun b o _ hb _ e n=>u.slot b o e n hb (by simp)) (fun b o _ e n=>u.free b o e n (by simp)) (fun b o _ e=>u.there b o e (by simp)) u.tups u.frzs u.tbls (fun m' hm=>by
  obtain ⟨o',es',ep',ho',r'⟩:=hm
  rw [ho] at ho';cases ho'
  exact ⟨_,es',ep',hL,r'⟩) hok I.bare
theorem Inv.call {g':Array GenState} {t':Nat} {d':Drawn} {ch:List Addr} (I:Inv X pins σ H s) (u:Un (frs X.stack) ch H H' s.heap h') (hok:HOk X.prog X.w H' h') (hg:AllBare g')
  (hch:∀ b∈ch,(b∈X.ex∨X.s₀.heap.objs.size≤b)∧b≠X.env.locals∧(∀ x c,X.env.cells.lookup x=some c→c≠b)∧∀ p∈X.pn++pins,p.1≠b) :
  Inv X pins σ H' { s with heap:=h',gens:=g',drawn:=d',toks:=t' }:=by
 obtain ⟨m,⟨o,es,ep,ho,r⟩,_⟩:=id I.loc
 obtain ⟨sl,hL⟩:=u.any ho I.free fun z=>(hch _ z).2.1 rfl
 exact I.step (ch:=ch) hch (fun b o hL hb hc e n=>u.keep b o e n (fun z=>(List.mem_cons.mp (I.stkSub b z)).elim hL hb) hc) (fun b o _ _ hc e n=>u.any e n hc) (fun b o hc e n=>u.free b o e n hc) (fun b o hc e=>u.there b o e hc) u.tups u.frzs u.tbls (fun m' hm=>by
  obtain ⟨o',es',ep',ho',r'⟩:=hm
  rw [ho] at ho';cases ho'
  exact ⟨_,es',ep',hL,r'⟩) hok hg
theorem Inv.turned {t':Nat} {it:Addr} (I:Inv X pins σ H s) (k:∀ b o,b≠it→s.heap.get? b=some o→h'.get? b=some o) (hn:H it=none) (hL:it≠X.env.locals)
  (h1:it∈X.ex∨X.s₀.heap.objs.size≤it) (h2:∀ x c,X.env.cells.lookup x=some c→c≠it) (h3:∀ p∈X.pn++pins,p.1≠it):Inv X pins σ H { s with heap:=h',toks:=t' }:=by
 have nit:∀ b u,H b=some u→b≠it:=fun b u e z=>by rw [z,hn] at e;cases e
 refine I.step (g':=s.gens) (d':=s.drawn) (ch:=[it]) (fun b hb=>?_) (fun b o _ _ hc e _=>k b o (fun z=>hc (by simp [z])) e) (fun b o _ _ hc e _=>⟨o.slots,k b o (fun z=>hc (by simp [z])) e⟩) (fun _ _ _ _ n=>n)
  (fun b o hc e=>⟨o,k b o (fun z=>hc (by simp [z])) e⟩) (fun _ _ e=>e) (fun _ _ _ e=>e) (fun b ps e=>⟨#[],by rw [e];simp⟩) (fun m hm=>?_) (fun b u e=>?_) I.bare
 ·have e:b=it:=by simpa using hb
  subst e
  exact ⟨h1,hL,h2,h3⟩
 ·obtain ⟨o,es,ep,ho,r⟩:=hm
  exact ⟨o,es,ep,k _ o (Ne.symm hL) ho,r⟩
 ·refine (I.hok b u e).stay (fun c v hc q=>k c v ?_ q) (fun _ q=>q) fun _ _ q=>q
  rcases hc with z | z
  ·rw [z];exact nit b u e
  ·exact nit c _ z
theorem Inv.tok (I:Inv X pins σ H s) (t:Nat):Inv X pins σ H { s with toks:=t }:=I.un (h':=s.heap) (t':=t) Un.refl I.hok
theorem Inv.kept {t':Nat} (I:Inv X pins σ H s) (k:∀ b u,s.heap.get? b=some u→h'.get? b=some u):Inv X pins σ H { s with heap:=h',toks:=t' }:=I.un (Un.kept k) (I.hok.kept k)
theorem Inv.laid {a:Addr} {o:HO} {t':Nat} (I:Inv X pins σ H s) (k:∀ b u,s.heap.get? b=some u→h'.get? b=some u) (hp:s.heap.objs.size≤a) (new:ObjOk X.prog X.w (upd H a o) h' a o) :
  Inv X pins σ (upd H a o) { s with heap:=h',toks:=t' }:=I.un (Un.laid k hp (I.hok.fresh hp)) (I.hok.laid k hp new)
theorem Inv.write {x e:Addr} {o:HO} {t':Nat} (I:Inv X pins σ H s) (mu:Mut (H x)) (he:e=x∨H e=some (.own x)) (k:∀ b u,b≠e→s.heap.get? b=some u→h'.get? b=some u) (heo:∃ u,h'.get? e=some u)
  (new:ObjOk X.prog X.w (upd H x o) h' x o):Inv X pins σ (upd H x o) { s with heap:=h',toks:=t' }:=I.un (Un.write mu he k heo) (I.hok.write mu he k heo new)
theorem Inv.pins_of {pins':List (Addr×Obj)} (I:Inv X pins σ H s) (h:∀ p∈pins',s.heap.get? p.1=some p.2∧H p.1=none∧p.1≠X.env.locals∧p.1∉X.fs∧∀ v,p.2.data≠.cell v):Inv X pins' σ H s:=
 ⟨I.ok,I.os,I.bare,I.base,I.loc,I.cell,I.free,I.freeC,fun p hp=>(List.mem_append.mp hp).elim (fun z=>I.pin p (List.mem_append_left _ z)) (h p),I.hok,I.len⟩
theorem iJ {N:List Str} (hN:N.Nodup) {i j:Nat} {x:Str} (a:N[i]?=some x) (b:N[j]?=some x):i=j:=by
 obtain ⟨h1,e1⟩:=List.getElem?_eq_some_iff.mp a
 obtain ⟨h2,e2⟩:=List.getElem?_eq_some_iff.mp b
 exact (List.getElem_inj hN).mp (e1.trans e2.symm)
theorem gv {M:Model} {A:Around} {E:Value→Shared→Prop} {i:Nat} {x:Str} {v:V} {u:Value} {Q:Unit→Shared→Prop} (I:Inv X pins σ H s) (hN:X.N.Nodup) (hi:X.N[i]?=some x) (hx:Loc X.env.scope x) (r:RelV v u)
  (h:∀ s',Inv X pins (σ.set i (some v)) H s'→(∃ a,Heap.SameBut a s.heap s'.heap∧(a=X.env.locals∨X.env.cells.lookup x=some a))→Q () s') (hf:X.fn x=true∨X.env.scope.names.lookup x=some .local:=by first | exact .inl rfl | exact .inr rfl | assumption):wpAny M A (storeName X.env x u) Q E s:=by
 obtain ⟨m,hn,hl⟩:=id I.loc
 have hcls:(X.env.scope.kind == .class || (X.env.scope.kind == .module && X.env.locals != X.env.globals))=false:=by rw [I.ok.kind];rfl
 have hiσ:i < σ.length:=by rw [I.len];exact (List.getElem?_eq_some_iff.mp hi).1
 have cne:=I.cne
 have tracked:∀ {a:Addr} {h':Heap},(∃ o,s.heap.get? a=some o∧H a=none)→Heap.SameBut a s.heap h'→HOk X.prog X.w H h':=fun {a h'} ha hs b ob e=>by
  obtain ⟨_,_,hfree⟩:=ha
  refine (I.hok b ob e).stay (fun c w' hc q=>(hs.2 c ?_).trans q) (fun _ q=>q) fun _ _ q=>q
  rintro rfl
  rcases hc with rfl | hc
  ·rw [hfree] at e;cases e
  ·rw [hfree] at hc;cases hc
 rcases hx with hk | hk
 ·refine wpAny_storeName_local hk hn (fun h' hn' hs=>?_) hcls
  obtain ⟨oL,_,_,hoL,_⟩:=id hn
  refine h _ ⟨I.ok,I.os,I.bare,⟨fun b o e n hb hx=>?_,fun b o e n hb hx=>?_,I.base.free,fun b o e hx=>?_,I.base.tups,I.base.frzs,I.base.tbls⟩,⟨_,hn',fun j y v' e1 e2 e3=>?_⟩,fun y c e=>?_,I.free,I.freeC,fun p hp=>?_,tracked ⟨oL,hoL,I.free⟩ hs,by simpa using I.len⟩ ⟨_,hs,.inl rfl⟩
  ·exact (hs.2 b (Nat.ne_of_lt (Nat.lt_of_lt_of_le (Heap.lt_size e) I.ok.above))).trans (I.base.keep b o e n hb hx)
  ·obtain ⟨sl,e1⟩:=I.base.slot b o e n hb hx
   exact ⟨sl,(hs.2 b (Nat.ne_of_lt (Nat.lt_of_lt_of_le (Heap.lt_size e) I.ok.above))).trans e1⟩
  ·obtain ⟨o',e1⟩:=I.base.there b o e hx
   exact ⟨o',(hs.2 b (Nat.ne_of_lt (Nat.lt_of_lt_of_le (Heap.lt_size e) I.ok.above))).trans e1⟩
  ·by_cases hj:j=i
   ·subst hj
    rw [hi] at e1;cases e1
    rw [List.getElem?_set_self hiσ] at e2
    cases e2
    exact ⟨u,r,.inl ⟨hk,by simp⟩⟩
   ·rw [List.getElem?_set_ne (Ne.symm hj)] at e2
    obtain ⟨u',r',q⟩:=hl j y v' e1 e2 e3
    refine ⟨u',r',?_⟩
    rcases q with ⟨k,e⟩ | ⟨k,c,e,z⟩
    ·refine .inl ⟨k,?_⟩
     have:y≠x:=fun e=>hj (iJ hN e1 (e▸hi))
     simp [this,e]
    ·exact .inr ⟨k,c,e,z.sameBut hs (cne y c e)⟩
  ·obtain ⟨w',z⟩:=I.cell y c e
   exact ⟨w',z.sameBut hs (cne y c e)⟩
  ·obtain ⟨e,n,ne,nf,d⟩:=I.pin p hp
   exact ⟨(hs.2 p.1 ne).trans e,n,ne,nf,d⟩
 ·have hfn:X.fn x=true:=by
   rcases hf with z | z
   ·exact z
   ·rw [z] at hk;cases hk
  obtain ⟨c,hc⟩:=I.ok.has x (.inl hk)
  obtain ⟨w',z⟩:=I.cell x c hc
  refine wpAny_storeName_cell I.ok.kind hk hc z (fun h' hc' hs=>?_)
  obtain ⟨oc,hoc,hocd⟩:=id z
  refine h { s with heap:=h' } ⟨I.ok,I.os,I.bare,⟨fun b o e n hb hx=>?_,fun b o e n hb hx=>?_,I.base.free,fun b o e hx=>?_,I.base.tups,I.base.frzs,I.base.tbls⟩,⟨m,hn.sameBut hs (Ne.symm (cne x c hc)),fun j y v' e1 e2 e3=>?_⟩,fun y c' e=>?_,I.free,I.freeC,fun p hp=>?_,tracked ⟨oc,hoc,I.freeC x c hc⟩ hs,by simpa using I.len⟩ ⟨c,hs,.inr hc⟩
  ·exact (hs.2 b (Nat.ne_of_lt (Nat.lt_of_lt_of_le (Heap.lt_size e) (I.ok.cab x c hfn hc)))).trans (I.base.keep b o e n hb hx)
  ·obtain ⟨sl,e1⟩:=I.base.slot b o e n hb hx
   exact ⟨sl,(hs.2 b (Nat.ne_of_lt (Nat.lt_of_lt_of_le (Heap.lt_size e) (I.ok.cab x c hfn hc)))).trans e1⟩
  ·obtain ⟨o',e1⟩:=I.base.there b o e hx
   exact ⟨o',(hs.2 b (Nat.ne_of_lt (Nat.lt_of_lt_of_le (Heap.lt_size e) (I.ok.cab x c hfn hc)))).trans e1⟩
  ·by_cases hj:j=i
   ·subst hj
    rw [hi] at e1;cases e1
    rw [List.getElem?_set_self hiσ] at e2
    cases e2
    exact ⟨u,r,.inr ⟨.inl hk,c,hc,hc'⟩⟩
   ·rw [List.getElem?_set_ne (Ne.symm hj)] at e2
    obtain ⟨u',r',q⟩:=hl j y v' e1 e2 e3
    refine ⟨u',r',?_⟩
    rcases q with q | ⟨k,c',e,z'⟩
    ·exact .inl q
    ·refine .inr ⟨k,c',e,z'.sameBut hs ?_⟩
     rintro rfl
     exact hj (iJ hN e1 (I.ok.inj _ _ _ e hc▸hi))
  ·by_cases hcc:c'=c
   ·subst hcc;exact ⟨_,hc'⟩
   ·obtain ⟨w2,z2⟩:=I.cell y c' e
    exact ⟨w2,z2.sameBut hs hcc⟩
  ·obtain ⟨e,n,ne,nf,d⟩:=I.pin p hp
   refine ⟨(hs.2 p.1 ?_).trans e,n,ne,nf,d⟩
   intro q
   rw [q,hoc] at e
   have q':oc=p.2:=Option.some.inj e
   exact d w' (by rw [←q'];exact hocd)
theorem iK {M:Model} {A:Around} {E:Value→Shared→Prop} {i:Nat} {x:Str} {v:V} {u:Value} {Q:Unit→Shared→Prop} (I:Inv X pins σ H s) (hN:X.N.Nodup) (hi:X.N[i]?=some x) (hx:Loc X.env.scope x) (r:RelV v u)
  (h:∀ s',Inv X pins (σ.set i (some v)) H s'→Q () s') (hf:X.fn x=true∨X.env.scope.names.lookup x=some .local:=by first | exact .inl rfl | exact .inr rfl | assumption):wpAny M A (storeName X.env x u) Q E s:=
 gv I hN hi hx r (fun s' I' _=>h s' I') hf
theorem Inv.call' {s':Shared} {ch:List Addr} (I:Inv X pins σ H s) (ho:s'.os=s.os) (u:Un (frs X.stack) ch H H' s.heap s'.heap) (hok:HOk X.prog X.w H' s'.heap) (hg:AllBare s'.gens)
  (hch:∀ b∈ch,(b∈X.ex∨X.s₀.heap.objs.size≤b)∧b≠X.env.locals∧(∀ x c,X.env.cells.lookup x=some c→c≠b)∧∀ p∈X.pn++pins,p.1≠b):Inv X pins σ H' s':=by
 obtain ⟨h',g',d',t',o'⟩:=s'
 have e:o'=s.os:=ho
 subst e
 exact I.call (g':=g') (t':=t') (d':=d') u hok hg hch
end
abbrev XK:=Value→Option Addr→Hp→Prop
abbrev St:=List (Option V)
abbrev VK:=V→Hp→Prop
abbrev TE:=St→Hp→VK→Prop
abbrev TT:=St→Hp→(Bool→Hp→Prop)→Prop
abbrev TA:=St→Hp→(List V→Hp→Prop)→Prop
structure Ends where
 nx:St→Hp→Prop
 rt:VK
 bk:St→Hp→Prop:=fun _ _=>False
 ct:St→Hp→Prop:=fun _ _=>False
abbrev TS:=Ends→St→Hp→Prop
def EP (X:Cx) (pins:List (Addr×Obj)) (σ:St) (Q:VK) (u:Value) (s':Shared):Prop:=∃ v H',Inv X pins σ H' s'∧RelV v u∧Q v H'
def TP (X:Cx) (pins:List (Addr×Obj)) (σ:St) (Q:Bool→Hp→Prop) (b:Bool) (s':Shared):Prop:=∃ H',Inv X pins σ H' s'∧Q b H'
def AP (X:Cx) (pins:List (Addr×Obj)) (σ:St) (Q:List V→Hp→Prop) (us:List Value) (s':Shared):Prop:=∃ vs H',Inv X pins σ H' s'∧Vals vs us∧Q vs H'
def SP (X:Cx) (pins:List (Addr×Obj)) (D:Ends) (f:Flow) (s':Shared):Prop:=
 match f with
 | .next=>∃ σ' H',Inv X pins σ' H' s'∧D.nx σ' H'
 | .brk=>∃ σ' H',Inv X pins σ' H' s'∧D.bk σ' H'
 | .cont=>∃ σ' H',Inv X pins σ' H' s'∧D.ct σ' H'
 | .ret u=>∃ v σ' H',Inv X pins σ' H' s'∧RelV v u∧D.rt v H'
def PE (X:Cx) (e:Expr) (t:TE):Prop:=
 ∀ (pins:List (Addr×Obj)) (s:Shared) (σ:St) (H:Hp) (Q:VK),Inv X pins σ H s→t σ H Q→wpAny (model X.prog X.w) X.A (eval e X.env) (EP X pins σ Q) X.xe s
def PT (X:Cx) (e:Expr) (t:TT):Prop:=
 ∀ (pins:List (Addr×Obj)) (s:Shared) (σ:St) (H:Hp) (Q:Bool→Hp→Prop),Inv X pins σ H s→t σ H Q→wpAny (model X.prog X.w) X.A (isTrue e X.env (eval e X.env)) (TP X pins σ Q) X.xe s
def PW (X:Cx) (e:Expr) (t:TT):Prop:=
 ∀ (whole:Sem Value) (pins:List (Addr×Obj)) (s:Shared) (σ:St) (H:Hp) (Q:Bool→Hp→Prop),Inv X pins σ H s→t σ H Q→wpAny (model X.prog X.w) X.A (isTrue e X.env whole) (TP X pins σ Q) X.xe s
theorem PW.pt {X:Cx} {e:Expr} {t:TT} (h:PW X e t):PT X e t:=h _
def PA (X:Cx) (es:List Expr) (t:TA):Prop:=
 ∀ (pos:Pos) (pins:List (Addr×Obj)) (s:Shared) (σ:St) (H:Hp) (Q:List V→Hp→Prop),Inv X pins σ H s→t σ H Q→wpAny (model X.prog X.w) X.A (spliced (backTo pos (starEach es X.env))) (AP X pins σ Q) X.xe s
def PS (X:Cx) (st:Stmt) (t:TS):Prop:=
 ∀ (pins:List (Addr×Obj)) (s:Shared) (σ:St) (H:Hp) (D:Ends),Inv X pins σ H s→t D σ H→wpAny (model X.prog X.w) X.A (exec st X.env) (SP X pins D) X.xe s
def PSs (X:Cx) (st:List Stmt) (t:TS):Prop:=
 ∀ (pins:List (Addr×Obj)) (s:Shared) (σ:St) (H:Hp) (D:Ends),Inv X pins σ H s→t D σ H→wpAny (model X.prog X.w) X.A (execs st X.env) (SP X pins D) X.xe s
theorem thn {α:Type} {t:Sem α} {Q Q':α→Shared→Prop} {M:Model} {A:Around} {E:Value→Shared→Prop} {s:Shared} (h:wpAny M A t Q E s) (hQ:∀ a s,Q a s→Q' a s):wpAny M A t Q' E s:=wpAny_mono h hQ fun _ _ x=>x
section
variable {X:Cx}
theorem bin {a b:Expr} {ta tb:TE} (ha:PE X a ta) (hb:PE X b tb) {pins:List (Addr×Obj)} {s:Shared} {σ:St} {H:Hp} {R:V→V→Hp→Prop} (I:Inv X pins σ H s) (h:ta σ H fun x H1=>tb σ H1 fun y H2=>R x y H2)
  {α:Type} {Q:α→Shared→Prop} {f:Value→Value→Sem α}
  (hf:∀ v u s2 x y H2,Inv X pins σ H2 s2→RelV x v→RelV y u→R x y H2→wpAny (model X.prog X.w) X.A (f v u) Q X.xe s2) :
  wpAny (model X.prog X.w) X.A (eval a X.env) (fun v s₁=>wpAny (model X.prog X.w) X.A (eval b X.env) (fun u s₂=>wpAny (model X.prog X.w) X.A (f v u) Q X.xe s₂) X.xe s₁) X.xe s:=by
 refine thn (ha pins s σ H _ I h) fun v s1 hqq=>?_
 obtain ⟨x,H1,I1,r1,q1⟩:=hqq
 refine thn (hb pins s1 σ H1 _ I1 q1) fun u s2 hqq=>?_
 obtain ⟨y,H2,I2,r2,q2⟩:=hqq
 exact hf v u s2 x y H2 I2 r1 r2 q2
noncomputable def lS (i:Nat):TE:=fun σ H Q=>∃ v,σ[i]?=some (some v)∧Q v H
noncomputable def tC (v:V):TE:=fun _ H Q=>Q v H
theorem qa {i:Nat} {x:Str} {pos:Pos} (hN:X.N[i]?=some x) (hv:Vis X.env.scope x) (hd:(x == ("__debug__" : Str))=false:=by decide) (hcd:(x == ("__classdict__" : Str))=false:=by decide):PE X (.Name x pos) (lS i):=by
 intro pins s σ H Q I h
 obtain ⟨v,e,h⟩:=h
 obtain ⟨m,hn,hl⟩:=I.loc
 obtain ⟨u,r,l⟩:=hl i x v hN e hv
 have fin:EP X pins σ Q u s:=⟨v,H,I,r,h⟩
 rcases l with ⟨hk,hm⟩ | ⟨hk,c,hc,hcell⟩
 ·exact wpAny_Name (wpAny_loadName_local I.ok.kind hk hn hm fin) hd
 ·rcases hk with hk | hk
  ·exact wpAny_Name (wpAny_loadName_cell I.ok.kind hk hc hcell fin) hd
  ·exact wpAny_Name (wpAny_loadName_free I.ok.kind hk hc hcell fin hcd) hd
theorem qb {i j pos}:PE X (.Constant (.int i) j pos) (tC (.int i)):=fun _ _ _ H _ I h=>wpAny_Constant_int ⟨.int i,H,I.tok _,⟨_,rfl⟩,h⟩
theorem tq {b j pos}:PE X (.Constant (.bool b) j pos) (tC (.bl b)):=fun _ _ _ H _ I h=>Constant_bool ⟨.bl b,H,I,rfl,h⟩
def Gl (X:Cx) (x:Str):Prop:=X.env.kindOf x=some .globalImplicit
theorem oh {E:Value→Shared→Prop} {pins:List (Addr×Obj)} {s:Shared} {σ:St} {H:Hp} {x:Str} {u:Value} {pos:Pos} {Q:Value→Shared→Prop} (I:Inv X pins σ H s) (hg:Gl X x) (hm:X.mg x=some u) (h:Q u s)
  (hd:(x == ("__debug__" : Str))=false:=by decide):wpAny (model X.prog X.w) X.A (eval (.Name x pos) X.env) Q E s:=
 Calls.Name_function_global I.ok.kind hg (Calls.loadGlobal_global (by rw [I.ok.glob];exact I.mod.glob.keeps I.bk) hm h) hd
theorem dU {E:Value→Shared→Prop} {pins:List (Addr×Obj)} {s:Shared} {σ:St} {H:Hp} {x:Str} {u:Value} {pos:Pos} {Q:Value→Shared→Prop} (I:Inv X pins σ H s) (hg:Gl X x) (hm:X.mg x=none) (hv:bootBuiltins x=some u) (h:Q u s)
  (hn:x≠"__name__":=by decide) (hd:(x == ("__debug__" : Str))=false:=by decide):wpAny (model X.prog X.w) X.A (eval (.Name x pos) X.env) Q E s:=by
 obtain ⟨mb,h1,h2⟩:=I.mod.blt
 exact Calls.Name_function_global I.ok.kind hg (Calls.loadGlobal_builtin (by rw [I.ok.glob];exact I.mod.glob.keeps I.bk) hm (by rw [I.ok.blt];exact h1.keeps I.bk) ((h2 x hn).trans hv) h) hd
theorem oi {x:Str} {v:V} {u:Value} {pos:Pos} (hg:Gl X x) (hm:X.mg x=none) (hv:bootBuiltins x=some u) (r:RelV v u) (hn:x≠"__name__":=by decide) (hd:(x == ("__debug__" : Str))=false:=by decide):PE X (.Name x pos) (tC v):=
 fun _ _ _ H _ I h=>dU I hg hm hv ⟨v,H,I,r,h⟩ hn hd
variable {a b:Expr} {ta tb:TE} {pos:Pos}
def PC (X:Cx) (op:CmpOp) (a b:Expr) (t:TE):Prop:=
 ∀ (pins:List (Addr×Obj)) (s:Shared) (σ:St) (H:Hp) (Q:VK),Inv X pins σ H s→t σ H Q→
  wpAny (model X.prog X.w) X.A (eval a X.env) (fun v s₁=>wpAny (model X.prog X.w) X.A (eval b X.env) (fun u s₂=>wpAny (model X.prog X.w) X.A (compareOp op v u) (EP X pins σ Q) X.xe s₂) X.xe s₁) X.xe s
theorem lT (b:Expr) {op:CmpOp} (h:op≠.In) (h2:op≠.NotIn):behindInMarks op b=false:=by
 have e1:(op == CmpOp.In)=false:=by cases op <;> first | rfl | exact absurd rfl h
 have e2:(op == CmpOp.NotIn)=false:=by cases op <;> first | rfl | exact absurd rfl h2
 cases b <;> simp [behindInMarks,e1,e2]
noncomputable def tB (t:TE):TT:=fun σ H Q=>t σ H fun x H1=>∃ c,x=.bl c∧Q c H1
theorem uX {op:CmpOp} {t:TE} (h:PC X op a b t) (h1:behindInMarks op b=false:=by first | exact lT _ (by decide) (by decide) | rfl):PT X (.Compare a [op] [b] pos) (tB t):=by
 intro pins s σ H Q I hw
 refine wpAny_isTrue_Compare1 (thn (h pins s σ H _ I hw) fun v s1 h1=>thn h1 fun u s2 h2=>thn h2 fun c s3 ⟨x,H1,I1,r1,q1⟩=>?_) h1
 obtain ⟨d,rfl,q⟩:=q1
 cases r1
 exact wpAny_truthy_bool ⟨H1,I1,q⟩
theorem qc {e:Expr} {t:TE} (h:PE X e t) (he:∀ whole,isTrue e X.env whole=(do let v ←whole;standAt e.pos;holding [v] (truthy v)):=by intro _;rfl):PT X e (tB t):=by
 intro pins s σ H Q I hw
 refine isTrue_plain (thn (h pins s σ H _ I hw) fun v s1 ⟨x,H1,I1,r1,q1⟩=>?_) (he _)
 obtain ⟨d,rfl,q⟩:=q1
 cases r1
 exact wpAny_truthy_bool ⟨H1,I1,q⟩
variable {tA tB':TT} {bG:List Expr}
noncomputable def tOr (t u:TT):TT:=fun σ H Q=>t σ H fun c H1=>if c=true then Q true H1 else u σ H1 Q
noncomputable def vi (t:TT):TT:=fun σ H Q=>t σ H fun c H1=>Q (!c) H1
theorem qe (ha:PT X a tA):PW X (.BoolOp .Or [a] pos) tA:=by
 intro wh pins s σ H Q I h
 refine isTrue_or (thn (ha pins s σ H Q I h) fun c s1 e=>?_)
 cases c with
 | false=>exact isTrue_or_nil e
 | true=>exact e
theorem tu (ha:PT X a tA) (hb:PW X (.BoolOp .Or (b :: bG) pos) tB'):PW X (.BoolOp .Or (a :: b :: bG) pos) (tOr tA tB'):=by
 intro wh pins s σ H Q I h
 refine isTrue_or (thn (ha pins s σ H _ I h) fun c s1 hqq=>?_)
 obtain ⟨H1,I1,q1⟩:=hqq
 cases c with
 | true=>exact ⟨H1,I1,q1⟩
 | false=>exact hb wh pins s1 σ H1 Q I1 q1
theorem qf (ha:PT X a tA):PT X (.UnaryOp .Not a pos) (vi tA):=by
 intro pins s σ H Q I h
 exact isTrue_not (ha pins s σ H (fun c H1=>Q (!c) H1) I h)
noncomputable def tw (ta tb:TE):TE:=fun σ H Q=>ta σ H fun x H1=>∃ c,x=.bl c∧if c=true then tb σ H1 Q else Q (.bl false) H1
noncomputable def tF (ta:TE):TE:=fun σ H Q=>ta σ H fun x H1=>∃ c,x=.bl c∧Q (.bl (!c)) H1
theorem qg {op} {t:TE} (h:PE X a t):PE X (.BoolOp op [a] pos) t:=fun pins s σ H Q I hw=>BoolOp_one (h pins s σ H Q I hw)
theorem qh (ha:PE X a ta) (hb:PE X (.BoolOp .And (b :: bG) pos) tb):PE X (.BoolOp .And (a :: b :: bG) pos) (tw ta tb):=by
 intro pins s σ H Q I h
 refine BoolOp_and (thn (ha pins s σ H _ I h) fun v s1 hqq=>?_)
 obtain ⟨x,H1,I1,r1,q1⟩:=hqq
 obtain ⟨c,rfl,q1⟩:=q1
 cases r1
 refine wpAny_truthy_bool ?_
 cases c with
 | true=>exact hb pins s1 σ H1 Q I1 q1
 | false=>exact ⟨.bl false,H1,I1,rfl,q1⟩
theorem qi (ha:PE X a ta):PE X (.UnaryOp .Not a pos) (tF ta):=by
 intro pins s σ H Q I h
 refine UnaryOp_ (thn (ha pins s σ H _ I h) fun v s1 hqq=>?_)
 obtain ⟨x,H1,I1,r1,q1⟩:=hqq
 obtain ⟨c,rfl,q1⟩:=q1
 cases r1
 exact not_of (wpAny_truthy_bool ⟨.bl (!c),H1,I1,rfl,q1⟩)
end
def SqL (K:W.Frag) (H:Hp) (a:Addr) (xs:List V):Prop:=
 Rd H a (.lst xs)∨
  ∃ (o:Obj) (its:Array Value) (n:Nat),K.lookup a=some o∧o.cls=.type "list"∧o.dict=none∧o.data=.seq its n∧its.size≤sizeLine∧Vals xs its.toList
def SqT (K:W.Frag) (H:Hp) (a:Addr) (xs:List V):Prop:=
 Rd H a (.tup xs)∨
  ∃ (o:Obj) (its:Array Value) (n:Nat),K.lookup a=some o∧o.cls=.type "tuple"∧o.dict=none∧o.data=.seq its n∧its.size≤sizeLine∧Vals xs its.toList
noncomputable def vj:Value→Option V
 | .none=>some .non
 | .bool b=>some (.bl b)
 | .int i _=>some (.int i)
 | .str x _=>some (.str x)
 | .bytes b _=>some (.byt b)
 | .float b _=>some (.flt b)
 | .ref a=>some (.ref a)
 | .type n=>some (.ty n)
 | _=>none
theorem RelV.abs {x:V} {u:Value} (r:RelV x u):vj u=some x:=by
 cases x with
 | non=>cases r;rfl
 | bl _=>cases r;rfl
 | int _=>obtain ⟨t,rfl⟩:=r;rfl
 | str _=>obtain ⟨t,rfl⟩:=r;rfl
 | byt _=>obtain ⟨t,rfl⟩:=r;rfl
 | flt _=>obtain ⟨t,rfl⟩:=r;rfl
 | ref _=>cases r;rfl
 | ty _=>cases r;rfl
theorem RelV.inj {x y:V} {u:Value} (r:RelV x u) (q:RelV y u):x=y:=Option.some.inj (r.abs.symm.trans q.abs)
theorem Vals.inj:∀ {xs ys:List V} {us:List Value},Vals xs us→Vals ys us→xs=ys
 | _,_,_,.nil,.nil=>rfl
 | _,_,_,.cons r t,.cons r' t'=>by rw [r.inj r',Vals.inj t t']
section
variable {X:Cx} {pins:List (Addr×Obj)} {σ:St} {H:Hp} {s:Shared} {a:Addr} {xs ys:List V}
theorem SqL.of {K:W.Frag} (h:H a=some (.lst xs)):SqL K H a xs:=.inl (.inl h)
theorem SqT.of {K:W.Frag} (h:H a=some (.tup xs)):SqT K H a xs:=.inl (.inl h)
theorem Inv.list (I:Inv X pins σ H s) (h:SqL X.K H a xs):∃ its:List Value,Vals xs its∧PlainL s.heap a its.toArray∧xs.length≤sizeLine:=by
 rcases h with h | ⟨o,its,n,hk,hc,hd,hs,hz,r⟩
 ·obtain ⟨z,its,n,r,e⟩:=h.ok I.hok
  exact ⟨its,r,⟨_,n,e,rfl,rfl,rfl⟩,z⟩
 ·refine ⟨its.toList,r,⟨o,n,I.kIn a o hk,hc,hd,by simpa using hs⟩,?_⟩
  have e:=r.length
  simp only [Array.length_toList] at e
  lia
theorem Inv.tupleN (I:Inv X pins σ H s) (h:SqT X.K H a xs):∃ its:List Value,Vals xs its∧IsTupN s.heap a its.toArray∧xs.length≤sizeLine:=by
 rcases h with h | ⟨o,its,n,hk,hc,hdn,hs,hz,r⟩
 ·obtain ⟨z,its,r,p⟩:=h.ok I.hok
  exact ⟨its,r,p,z⟩
 ·refine ⟨its.toList,r,⟨o,I.kIn a o hk,hc,⟨n,by simpa using hs⟩,hdn⟩,?_⟩
  have e:=r.length
  simp only [Array.length_toList] at e
  lia
theorem Inv.tuple (I:Inv X pins σ H s) (h:SqT X.K H a xs):∃ its:List Value,Vals xs its∧IsTup s.heap a its.toArray∧xs.length≤sizeLine:=by
 obtain ⟨its,r,p,z⟩:=I.tupleN h
 exact ⟨its,r,p.tup,z⟩
theorem Inv.list_inj (I:Inv X pins σ H s) (h:SqL X.K H a xs) (h':SqL X.K H a ys):xs=ys:=by
 obtain ⟨its,r,⟨o,n,e,_,_,d⟩,_⟩:=I.list h
 obtain ⟨its',r',⟨o',n',e',_,_,d'⟩,_⟩:=I.list h'
 rw [e] at e';cases e'
 rw [d] at d'
 injection d' with d1 _
 have:its=its':=by simpa using congrArg Array.toList d1
 subst this
 exact r.inj r'
theorem Inv.tuple_inj (I:Inv X pins σ H s) (h:SqT X.K H a xs) (h':SqT X.K H a ys):xs=ys:=by
 obtain ⟨its,r,⟨o,e,_,n,d⟩,_⟩:=I.tuple h
 obtain ⟨its',r',⟨o',e',_,n',d'⟩,_⟩:=I.tuple h'
 rw [e] at e';cases e'
 rw [d] at d'
 injection d' with d1 _
 have:its=its':=by simpa using congrArg Array.toList d1
 subst this
 exact r.inj r'
end
abbrev Cx.wish (X:Cx) (E:Value→Shared→Prop):Cx:={ X with xe:=E }
abbrev Cx.nox (X:Cx):Cx:=X.wish fun _ _=>False
theorem Cx.Ok.wish {X:Cx} (ok:X.Ok) (E:Value→Shared→Prop):(X.wish E).Ok:=
 ⟨ok.mod,ok.kind,ok.glob,ok.blt,ok.above,ok.inj,ok.has,ok.cab,ok.hd,ok.frames,ok.stk,ok.exf,ok.bs,ok.bsz,ok.noex,ok.exfs,ok.funs,ok.frf⟩
theorem Cx.Ok.unwish {X:Cx} {E:Value→Shared→Prop} (ok:(X.wish E).Ok):X.Ok:=
 ⟨ok.mod,ok.kind,ok.glob,ok.blt,ok.above,ok.inj,ok.has,ok.cab,ok.hd,ok.frames,ok.stk,ok.exf,ok.bs,ok.bsz,ok.noex,ok.exfs,ok.funs,ok.frf⟩
section
variable {X:Cx} {pins:List (Addr×Obj)} {σ:St} {H:Hp} {s:Shared} {E:Value→Shared→Prop}
theorem Inv.wish (I:Inv X pins σ H s) (E:Value→Shared→Prop):Inv (X.wish E) pins σ H s:=⟨I.ok.wish E,I.os,I.bare,I.base,I.loc,I.cell,I.free,I.freeC,I.pin,I.hok,I.len⟩
theorem Inv.unwish (I:Inv (X.wish E) pins σ H s):Inv X pins σ H s:=⟨I.ok.unwish,I.os,I.bare,I.base,I.loc,I.cell,I.free,I.freeC,I.pin,I.hok,I.len⟩
theorem SP.unwish {D:Ends} {f:Flow} {s':Shared} (h:SP (X.wish E) pins D f s'):SP X pins D f s':=by
 cases f with
 | next=>obtain ⟨σ',H',I,q⟩:=h;exact ⟨σ',H',I.unwish,q⟩
 | brk=>obtain ⟨σ',H',I,q⟩:=h;exact ⟨σ',H',I.unwish,q⟩
 | cont=>obtain ⟨σ',H',I,q⟩:=h;exact ⟨σ',H',I.unwish,q⟩
 | ret u=>obtain ⟨v,σ',H',I,r,q⟩:=h;exact ⟨v,σ',H',I.unwish,r,q⟩
theorem PSs.nox {st:List Stmt} {t:TS} (h:PSs X.nox st t):PSs X st t:=fun pins s σ H D I hw=>
 wpAny_mono (h pins s σ H D (I.wish _) hw) (fun _ _ q=>q.unwish) fun _ _ z=>False.elim z
end
section
variable {X:Cx} {st:Stmt} {bG:List Stmt} {t u:TS} {e:Expr} {te:TE} {pos:Pos}
noncomputable def tG:TS:=fun D σ H=>D.nx σ H
noncomputable def vk (t u:TS):TS:=fun D σ H=>t { D with nx:=u D } σ H
theorem oj:PSs X [] tG:=fun _ _ σ H _ I h=>wpAny_execs_nil ⟨σ,H,I,h⟩
theorem lU (h1:PS X st t) (h2:PSs X bG u):PSs X (st :: bG) (vk t u):=by
 intro pins s σ H D I h
 refine wpAny_execs_cons (thn (h1 pins s σ H { D with nx:=u D } I h) fun f s1 q=>?_)
 cases f with
 | next=>
  obtain ⟨σ',H',I',q⟩:=q
  exact h2 pins s1 σ' H' D I' q
 | ret v=>exact q
 | brk=>exact q
 | cont=>exact q
theorem om (h1:PS X st t):PSs X [st] t:=by
 intro pins s σ H D I h
 refine wpAny_execs_cons (thn (h1 pins s σ H D I h) fun f s1 q=>?_)
 cases f with
 | next=>exact wpAny_execs_nil q
 | ret v=>exact q
 | brk=>exact q
 | cont=>exact q
theorem Inv.quiet {pins:List (Addr×Obj)} {σ:St} {H:Hp} {s:Shared} (I:Inv X pins σ H s):interactive X.env=false:=by simp [interactive,I.ok.kind]
noncomputable def tH (te:TE):TS:=fun D σ H=>te σ H fun _ H1=>D.nx σ H1
theorem oq (he:PE X e te) (hs:swapsWith e none pos.line X.env=pure false:=by rfl):PS X (.Expr e pos) (tH te):=by
 intro pins s σ H D I h
 exact wpAny_Expr_any (thn (he pins s σ H _ I h) fun v s1 ⟨x,H1,I1,r1,q1⟩=>⟨σ,H1,I1,q1⟩) I.quiet hs
noncomputable def vm (te:TE):TS:=fun D σ H=>te σ H D.rt
theorem ni (he:PE X e te):PS X (.Return (some e) pos) (vm te):=by
 intro pins s σ H D I h
 exact wpAny_Return_some (thn (he pins s σ H _ I h) fun v s1 ⟨x,H1,I1,r1,q1⟩=>⟨x,σ,H1,I1,r1,q1⟩)
noncomputable def vn (c:TT) (t u:TS):TS:=fun D σ H=>c σ H fun b H1=>if b=true then t D σ H1 else u D σ H1
theorem tI {c:Expr} {a b:List Stmt} {tc:TT} (hc:PT X c tc) (ha:PSs X a t) (hb:PSs X b u):PS X (.If c a b pos) (vn tc t u):=by
 intro pins s σ H D I h
 refine wpAny_If (thn (hc pins s σ H _ I h) fun d s1 hqq=>?_)
 obtain ⟨H1,I1,q1⟩:=hqq
 cases d with
 | true=>exact ha pins s1 σ H1 D I1 q1
 | false=>exact hb pins s1 σ H1 D I1 q1
end
abbrev TG:=V→St→Hp→(St→Hp→Prop)→Prop
abbrev TGs:=List V→St→Hp→(St→Hp→Prop)→Prop
def PG (X:Cx) (target:Expr) (t:TG):Prop:=
 ∀ (pins:List (Addr×Obj)) (s:Shared) (σ:St) (H:Hp) (v:V) (u:Value) (Q:St→Hp→Prop),Inv X pins σ H s→RelV v u→t v σ H Q→
  wpAny (model X.prog X.w) X.A (assign target X.env u) (fun _ s'=>∃ σ' H',Inv X pins σ' H' s'∧Q σ' H') X.xe s
def PGs (X:Cx) (ts:List Expr) (t:TGs):Prop:=
 ∀ (pins:List (Addr×Obj)) (s:Shared) (σ:St) (H:Hp) (vs:List V) (us:List Value) (Q:St→Hp→Prop),Inv X pins σ H s→Vals vs us→t vs σ H Q→
  wpAny (model X.prog X.w) X.A (assignInOrder ((assignEach ts X.env).map (·.2)) us) (fun _ s'=>∃ σ' H',Inv X pins σ' H' s'∧Q σ' H') X.xe s
abbrev vo:=V→V→V→Hp→(Hp→Prop)→Prop
def vp (X:Cx) (t:vo):Prop:=
 ∀ (pins:List (Addr×Obj)) (s:Shared) (σ:St) (H:Hp) (o i v:V) (ov iv u:Value) (Q:Hp→Prop),Inv X pins σ H s→RelV o ov→RelV i iv→RelV v u→t o i v H Q→
  wpAny (model X.prog X.w) X.A (setItem ov iv u) (fun _ s'=>∃ H',Inv X pins σ H' s'∧Q H') X.xe s
section
variable {X:Cx} {pos:Pos}
noncomputable def qj (i:Nat):TG:=fun v σ H Q=>Q (σ.set i (some v)) H
theorem ot {i:Nat} {x:Str} (hN:X.N.Nodup) (hi:X.N[i]?=some x) (hx:Loc X.env.scope x) (hf:X.fn x=true∨X.env.scope.names.lookup x=some .local:=by first | exact .inl rfl | exact .inr rfl | assumption):PG X (.Name x pos) (qj i):=by
 intro pins s σ H v u Q I r h
 exact wpAny_assign_Name (iK I hN hi hx r (fun s' I'=>⟨_,H,I',h⟩) hf)
noncomputable def vq:TGs:=fun vs σ H Q=>vs=[]∧Q σ H
noncomputable def tJ (t:TG) (u:TGs):TGs:=fun vs σ H Q=>∃ v r,vs=v :: r∧t v σ H fun σ' H'=>u r σ' H' Q
theorem ou:PGs X [] vq:=by
 intro pins s σ H vs us Q I r h
 obtain ⟨e,h⟩:=h
 subst e
 cases r
 exact assignInOrder_nil ⟨σ,H,I,h⟩
theorem lV {e:Expr} {es:List Expr} {t:TG} {u:TGs} (h1:PG X e t) (h2:PGs X es u)
  (hs:(assignEach (e :: es) X.env).map (·.2)=assign e X.env :: (assignEach es X.env).map (·.2):=by rfl):PGs X (e :: es) (tJ t u):=by
 intro pins s σ H vs us Q I r h
 obtain ⟨v,vr,e1,h⟩:=h
 subst e1
 cases r with
 | cons r rr=>
  rw [hs]
  refine assignInOrder_cons (thn (h1 pins s σ H _ _ _ I r h) fun _ s1 hqq=>?_)
  obtain ⟨σ1,H1,I1,q1⟩:=hqq
  exact h2 pins s1 σ1 H1 _ _ Q I1 rr q1
noncomputable def vv (K:W.Frag) (n:Nat) (t:TGs):TG:=fun v σ H Q=>∃ a xs,v=.ref a∧SqT K H a xs∧xs.length=n∧t xs σ H Q
theorem qk {es:List Expr} {k:Nat} {t:TGs} {n:Nat} (hc:X.calm=true) (h:PGs X es t)
  (hn:(assignEach es X.env).length=n:=by rfl) (hst:(assignEach es X.env).findIdx? (·.1)=none:=by rfl):PG X (.Tuple es k pos) (vv X.K n t):=by
 intro pins s σ H v u Q I r hw
 obtain ⟨a,xs,e1,hq,hl,hw⟩:=hw
 subst e1
 cases r
 obtain ⟨its,rv,ht,hz⟩:=I.tuple hq
 refine assign_Tuple_tuple (I.ok.hd hc) ht (by simp [hn,←hl,rv.length]) hst fun h' hx=>?_
 have I1:Inv X pins σ H { s with heap:=h' }:=I.kept (t':=s.toks) fun b o e=>hx b o (Nat.ne_of_lt (Heap.lt_size e)) e
 exact h pins _ σ H xs _ Q I1 (by simpa using rv) hw
noncomputable def vx (te:TE) (g:TG):TS:=fun D σ H=>te σ H fun x H1=>g x σ H1 D.nx
theorem ql {i:Nat} {x:Str} {e:Expr} {te:TE} {pos':Pos} (hN:X.N.Nodup) (hi:X.N[i]?=some x) (hx:Loc X.env.scope x) (he:PE X e te) (hs:swapsWith e (some (.Name x pos')) pos.line X.env=pure false:=by rfl) (hf:X.fn x=true∨X.env.scope.names.lookup x=some .local:=by first | exact .inl rfl | exact .inr rfl | assumption) :
  PS X (.Assign [.Name x pos'] e pos) (vx te (qj i)):=by
 intro pins s σ H D I h
 refine wpAny_Assign_Name (thn (he pins s σ H _ I h) fun v s1 ⟨y,H1,I1,r1,q1⟩=>?_) hs
 exact iK I1 hN hi hx r1 (fun s2 I2=>⟨_,H1,I2,q1⟩) hf
end
section
variable {X:Cx} {pos:Pos}
noncomputable def qm (c:TT) (tb:TS):TS:=fun D σ H=>∃ W:Nat→St→Hp→Prop,(∃ m,W m σ H)∧∀ m σ H,W m σ H→
 c σ H fun b H1=>if b=true then ∃ N:St→Hp→Prop,(∀ σ' H',N σ' H'→∃ m',m' < m∧W m' σ' H')∧tb { D with nx:=N,ct:=N,bk:=D.nx } σ H1 else D.nx σ H1
theorem lW {c:Expr} {body:List Stmt} {tc:TT} {tb:TS} (hp:PassesOwn (model X.prog X.w) X.A X.env X.xe) (hc:PT X c tc) (hb:PSs X body tb):PS X (.While c body [] pos) (qm tc tb):=by
 intro pins s σ H D I h
 obtain ⟨W,⟨m0,w0⟩,turn⟩:=h
 refine wpAny_While (codeAny_whileLoop (fun n s'=>∃ σ' H',Inv X pins σ' H' s'∧W n σ' H') ?_ m0 ⟨σ,H,I,w0⟩)
 rintro n s1 ⟨σ1,H1,I1,w1⟩
 refine wpAny_passesOwn hp (thn (hc pins s1 σ1 H1 _ I1 (turn n σ1 H1 w1)) fun b s2 hqq=>?_)
 obtain ⟨H2,I2,q2⟩:=hqq
 cases b with
 | true=>
  obtain ⟨N,hN,q2⟩:=q2
  rw [if_pos rfl]
  refine wpAny_passesOwn hp (thn (hb pins s2 σ1 H2 _ I2 q2) fun f s3 q3=>?_)
  cases f with
  | next=>
   obtain ⟨σ3,H3,I3,n3⟩:=q3
   obtain ⟨m',hm,w3⟩:=hN σ3 H3 n3
   exact ⟨m',hm,σ3,H3,I3,w3⟩
  | cont=>
   obtain ⟨σ3,H3,I3,n3⟩:=q3
   obtain ⟨m',hm,w3⟩:=hN σ3 H3 n3
   exact ⟨m',hm,σ3,H3,I3,w3⟩
  | brk=>exact q3
  | ret v=>exact q3
 | false=>
  rw [if_neg Bool.false_ne_true]
  exact wpAny_execs_nil ⟨σ1,H2,I2,q2⟩
end
structure It where
 go:Nat→Hp→Prop
 yld:Nat→Hp→V→Hp→Prop
 stop:Nat→Hp→Prop
def g7 (X:Cx) (pins:List (Addr×Obj)) (H:Hp) (b:Addr):Prop:=
 H b=none∧b≠X.env.locals∧b∉X.fs∧(b∈X.ex∨X.s₀.heap.objs.size≤b)∧(∀ x c,X.env.cells.lookup x=some c→c≠b)∧∀ p∈X.pn++pins,p.1≠b
theorem Inv.fpOk {X:Cx} {pins:List (Addr×Obj)} {σ:St} {H H':Hp} {s:Shared} {b:Addr} (I:Inv X pins σ H s) (hb:s.heap.objs.size≤b) (hn:H' b=none):g7 X pins H' b:=by
 refine ⟨hn,Nat.ne_of_gt (Nat.lt_of_lt_of_le I.lt hb),I.nofs hb,.inr (Nat.le_trans I.sz hb),fun x c e z=>?_,fun p hp z=>?_⟩
 ·obtain ⟨v,q⟩:=I.cell x c e
  exact absurd (Nat.lt_of_lt_of_le q.lt (by rw [z];exact hb)) (Nat.lt_irrefl _)
 ·exact absurd (Nat.lt_of_lt_of_le (Heap.lt_size (I.pin p hp).1) (by rw [z];exact hb)) (Nat.lt_irrefl _)
structure Turn (P:Program) (w:World) (K:W.Frag) (tg:Expr) (J:It) (fp:List Addr) (it:Addr) (tn:Nat→Heap→Prop):Prop where
 mem:it∈fp
 obj:∀ i h,tn i h→∀ b∈fp,∃ o,h.get? b=some o∧∀ v,o.data≠.cell v
 keep:∀ i h h',tn i h→(∀ b∈fp,∀ o,h.get? b=some o→h'.get? b=some o)→tn i h'
 item:∀ (X:Cx),X.prog=P→X.w=w→X.K=K→X.calm=true→∀ (i:Nat) (pins:List (Addr×Obj)) (s:Shared) (σ:St) (H:Hp) (E:Value→Shared→Prop),Inv X pins σ H s→(∀ b∈fp,g7 X pins H b)→tn i s.heap→J.go i H→
  wpAny (model P w) X.A (pyNext (.ref it)) (fun r s1=>∃ u,r=some u∧
   wpAny (model P w) X.A (letOwnedTupleGo tg (.ref it) u) (fun _ s2=>∃ x H',Inv X pins σ H' s2∧RelV x u∧J.yld i H x H'∧tn (i + 1) s2.heap∧∀ b∈fp,H' b=none) E s1) E s
 done:∀ (X:Cx),X.prog=P→X.w=w→X.K=K→X.calm=true→∀ (i:Nat) (pins:List (Addr×Obj)) (s:Shared) (σ:St) (H:Hp) (E:Value→Shared→Prop),Inv X pins σ H s→(∀ b∈fp,g7 X pins H b)→tn i s.heap→J.stop i H→
  wpAny (model P w) X.A (pyNext (.ref it)) (fun r s1=>r=none∧Inv X pins σ H s1) E s
 self:∀ (A:Around) (i:Nat) (s:Shared) (Q:Value→Shared→Prop) (E:Value→Shared→Prop),tn i s.heap→Q (.ref it) s→wpAny (model P w) A (pyIter (.ref it)) Q E s
abbrev TI:=St→Hp→(It→Hp→Prop)→Prop
def PIE (X:Cx) (pins:List (Addr×Obj)) (σ:St) (tg:Expr) (R:It→Hp→Prop) (itv:Value) (s2:Shared):Prop:=
 ∃ (it:Addr) (fp:List Addr) (tn:Nat→Heap→Prop) (J:It) (H':Hp),itv=.ref it∧Inv X pins σ H' s2∧Turn X.prog X.w X.K tg J fp it tn∧tn 0 s2.heap∧(∀ b∈fp,g7 X pins H' b)∧R J H'
def PI (X:Cx) (tg iter:Expr) (wi:TI):Prop:=
 ∀ (pins:List (Addr×Obj)) (s:Shared) (σ:St) (H:Hp) (R:It→Hp→Prop),Inv X pins σ H s→wi σ H R→
  wpAny (model X.prog X.w) X.A (eval iter X.env) (fun v s1=>wpAny (model X.prog X.w) X.A (pyIter v) (PIE X pins σ tg R) X.xe s1) X.xe s
theorem lX {M : Model} {A : Around} {E : Value → Shared → Prop} {s : Shared} {tg : Expr} {it : Addr} {u : Value} {o : Obj} {n : String} {vs : Array Value} {Q : Unit → Shared → Prop} (ho : s.heap.get? it = some o) (hc : o.cls = .type n) (hd : o.data = .fields vs)
    (hn : ["enumerate", "zip", "dict_itemiterator", "dict_reverseitemiterator", "odict_iterator", "itertools.zip_longest", "itertools.pairwise"].contains n = false) (hQ : Q () s) : wpAny M A (letOwnedTupleGo tg (.ref it) u) Q E s := by
  unfold letOwnedTupleGo
  cases tg <;> first
    | exact wpAny_pure hQ
    | (cases u <;> first
        | exact wpAny_pure hQ
        | (refine wpAny_bind (wpAny_load ho ?_)
           rw [hc, hd]
           show wpAny M A (if (["enumerate", "zip", "dict_itemiterator", "dict_reverseitemiterator", "odict_iterator", "itertools.zip_longest", "itertools.pairwise"].contains n && vs[0]? == some (rawInt _)) = true then _ else _) Q E s
           rw [if_neg (by intro h; rw [hn, Bool.false_and] at h; cases h)]
           exact wpAny_pure hQ))
noncomputable def Itl (K:W.Frag) (a:Addr):It:=
 ⟨fun i H=>∃ xs x,SqL K H a xs∧xs[i]?=some x,fun i H x H'=>H'=H∧∀ xs,SqL K H a xs→xs[i]?=some x,fun i H=>∃ xs,SqL K H a xs∧xs.length≤i⟩
noncomputable def Itt (K:W.Frag) (a:Addr):It:=
 ⟨fun i H=>∃ xs x,SqT K H a xs∧xs[i]?=some x,fun i H x H'=>H'=H∧∀ xs,SqT K H a xs→xs[i]?=some x,fun i H=>∃ xs,SqT K H a xs∧xs.length≤i⟩
noncomputable def Itr (lo:Int) (n:Nat):It:=⟨fun i _=>i < n,fun i H x H'=>H'=H∧x=.int (lo + i),fun i _=>n≤i⟩
theorem jV {P:Program} {w:World} {K:W.Frag} {tg:Expr} (a it:Addr):Turn P w K tg (Itl K a) [it] it (fun i h=>h.IsListIter it a i) where
 mem:=by simp
 obj:=fun i h st b hb=>by
  have e:b=it:=by simpa using hb
  subst e
  obtain ⟨o,e,c,d⟩:=st
  exact ⟨o,e,fun v z=>by rw [d] at z;cases z⟩
 keep:=fun i h h' st k=>st.at fun o e=>k it (by simp) o e
 item:=by
  intro X hP hw hK hc i pins s σ H E I hf st hg
  subst hP hw hK
  obtain ⟨xs,x,hq,hx⟩:=hg
  obtain ⟨its,rv,p,hz⟩:=I.list hq
  obtain ⟨u,hu,ru⟩:=rv.get hx
  obtain ⟨f0,f1,f2,f3,f4,f5⟩:=hf it (by simp)
  refine wpAny_pyNext_list_item st p.isList (x:=u) (by simpa using hu) fun h' st' sb=>?_
  have I1:Inv X pins σ H { s with heap:=h' }:=I.turned (t':=s.toks) (fun b o hb e=>(sb.2 b hb).trans e) f0 f1 f3 f4 f5
  obtain ⟨o,e,c,d⟩:=id st'
  exact ⟨u,rfl,lX (s:={ s with heap:=h' }) e c d (by decide) ⟨x,H,I1,ru,⟨rfl,fun ys hy=>by rw [I.list_inj hy hq];exact hx⟩,st',fun b hb=>(hf b hb).1⟩⟩
 done:=by
  intro X hP hw hK hc i pins s σ H E I hf st hg
  subst hP hw hK
  obtain ⟨xs,hq,hx⟩:=hg
  obtain ⟨its,rv,p,hz⟩:=I.list hq
  obtain ⟨f0,f1,f2,f3,f4,f5⟩:=hf it (by simp)
  have hl:=rv.length
  exact wpAny_pyNext_list_end (I.ok.hd hc) st p.isList (by simp;lia) fun h' eb=>⟨rfl,I.turned (t':=s.toks) (fun b o hb e=>eb b o hb e) f0 f1 f3 f4 f5⟩
 self:=fun _ _ _ _ _ st h=>wpAny_pyIter_listiter st h
theorem jl {P:Program} {w:World} {K:W.Frag} {tg:Expr} (a it:Addr):Turn P w K tg (Itt K a) [it] it (fun i h=>h.IsTupleIter it a i) where
 mem:=by simp
 obj:=fun i h st b hb=>by
  have e:b=it:=by simpa using hb
  subst e
  obtain ⟨o,e,c,d⟩:=st
  exact ⟨o,e,fun v z=>by rw [d] at z;cases z⟩
 keep:=fun i h h' st k=>st.at fun o e=>k it (by simp) o e
 item:=by
  intro X hP hw hK hc i pins s σ H E I hf st hg
  subst hP hw hK
  obtain ⟨xs,x,hq,hx⟩:=hg
  obtain ⟨its,rv,p,hz⟩:=I.tuple hq
  obtain ⟨u,hu,ru⟩:=rv.get hx
  obtain ⟨f0,f1,f2,f3,f4,f5⟩:=hf it (by simp)
  refine wpAny_pyNext_tuple_item st (show s.heap.IsTuple a its.toArray from p) (x:=u) (by simpa using hu) fun h' st' sb=>?_
  have I1:Inv X pins σ H { s with heap:=h' }:=I.turned (t':=s.toks) (fun b o hb e=>(sb.2 b hb).trans e) f0 f1 f3 f4 f5
  obtain ⟨o,e,c,d⟩:=id st'
  exact ⟨u,rfl,lX (s:={ s with heap:=h' }) e c d (by decide) ⟨x,H,I1,ru,⟨rfl,fun ys hy=>by rw [I.tuple_inj hy hq];exact hx⟩,st',fun b hb=>(hf b hb).1⟩⟩
 done:=by
  intro X hP hw hK hc i pins s σ H E I hf st hg
  subst hP hw hK
  obtain ⟨xs,hq,hx⟩:=hg
  obtain ⟨its,rv,p,hz⟩:=I.tuple hq
  obtain ⟨f0,f1,f2,f3,f4,f5⟩:=hf it (by simp)
  have hl:=rv.length
  exact wpAny_pyNext_tuple_end (I.ok.hd hc) st (show s.heap.IsTuple a its.toArray from p) (by simp;lia) fun h' eb=>⟨rfl,I.turned (t':=s.toks) (fun b o hb e=>eb b o hb e) f0 f1 f3 f4 f5⟩
 self:=fun _ _ _ _ _ st h=>wpAny_pyIter_tupleiter st h
theorem jm {P:Program} {w:World} {K:W.Frag} {tg:Expr} (it:Addr) (lo:Int) (n:Nat):Turn P w K tg (Itr lo n) [it] it (fun i h=>IsRangeIter h it (lo + (i:Nat) * 1) ((n:Int) - (i:Nat)) 1) where
 mem:=by simp
 obj:=fun i h st b hb=>by
  have e:b=it:=by simpa using hb
  subst e
  exact ⟨_,st,fun v z=>by
   have z':Data.fields _=Data.cell v:=z
   cases z'⟩
 keep:=fun i h h' st k=>k it (by simp) _ st
 item:=by
  intro X hP hw hK hc i pins s σ H E I hf st hg
  subst hP hw hK
  obtain ⟨f0,f1,f2,f3,f4,f5⟩:=hf it (by simp)
  have W:=Walks.range (prog:=X.prog) (w:=X.w) (I.ok.hd hc) it lo 1 n
  refine W.item i s _ _ hg st fun v h' tk hv st' kk=>?_
  obtain ⟨t,rfl⟩:=hv
  have I1:Inv X pins σ H { s with heap:=h',toks:=tk }:=I.turned (fun b o hb e=>kk b o (by simpa using hb) e) f0 f1 f3 f4 f5
  refine ⟨_,rfl,lX (s:={ s with heap:=h',toks:=tk }) (n:="range_iterator") st' rfl rfl (by decide) ⟨.int (lo + i),H,I1,⟨t,?_⟩,⟨rfl,rfl⟩,st',fun b hb=>(hf b hb).1⟩⟩
  rw [Int.mul_one]
 done:=by
  intro X hP hw hK hc i pins s σ H E I hf st hg
  subst hP hw hK
  obtain ⟨f0,f1,f2,f3,f4,f5⟩:=hf it (by simp)
  exact wpAny_pyNext_range_end (I.ok.hd hc) st (by have:n≤i:=hg;lia) fun h' eb=>⟨rfl,I.turned (t':=s.toks) (fun b o hb e=>eb b o hb e) f0 f1 f3 f4 f5⟩
 self:=fun _ _ _ _ _ st h=>wpAny_pyIter_rangeiter st h
section
variable {X:Cx} {tg:Expr}
noncomputable def tL (K:W.Frag) (tl:TE):TI:=fun σ H R=>tl σ H fun x H1=>∃ a,x=.ref a∧(∃ xs,SqL K H1 a xs)∧R (Itl K a) H1
noncomputable def vy (K:W.Frag) (tl:TE):TI:=fun σ H R=>tl σ H fun x H1=>∃ a,x=.ref a∧(∃ xs,SqT K H1 a xs)∧R (Itt K a) H1
theorem jW {l:Expr} {tl:TE} (hl:PE X l tl):PI X tg l (tL X.K tl):=by
 intro pins s σ H R I h
 refine thn (hl pins s σ H _ I h) fun v s1 hqq=>?_
 obtain ⟨x,H1,I1,r1,q1⟩:=hqq
 obtain ⟨a,e,⟨xs,hq⟩,q⟩:=q1
 subst e
 cases r1
 obtain ⟨its,rv,p,hz⟩:=I1.list hq
 refine wpAny_pyIter_list p.isList ?_
 refine ⟨s1.heap.objs.size,[s1.heap.objs.size],_,_,H1,rfl,I1.kept (t':=s1.toks) fun b o e=>Heap.get?_push_of_some _ e,jV a _,⟨_,Heap.get?_push_size _ rfl,rfl,rfl⟩,fun b hb=>?_,q⟩
 have e:b=s1.heap.objs.size:=by simpa using hb
 subst e
 exact I1.fpOk (Nat.le_refl _) (I1.hok.fresh (Nat.le_refl _))
theorem qo {l:Expr} {tl:TE} (hl:PE X l tl):PI X tg l (vy X.K tl):=by
 intro pins s σ H R I h
 refine thn (hl pins s σ H _ I h) fun v s1 hqq=>?_
 obtain ⟨x,H1,I1,r1,q1⟩:=hqq
 obtain ⟨a,e,⟨xs,hq⟩,q⟩:=q1
 subst e
 cases r1
 obtain ⟨its,rv,p,hz⟩:=I1.tuple hq
 refine wpAny_pyIter_tuple (show s1.heap.IsTuple a its.toArray from p) ?_
 refine ⟨s1.heap.objs.size,[s1.heap.objs.size],_,_,H1,rfl,I1.kept (t':=s1.toks) fun b o e=>Heap.get?_push_of_some _ e,jl a _,⟨_,Heap.get?_push_size _ rfl,rfl,rfl⟩,fun b hb=>?_,q⟩
 have e:b=s1.heap.objs.size:=by simpa using hb
 subst e
 exact I1.fpOk (Nat.le_refl _) (I1.hok.fresh (Nat.le_refl _))
theorem lY {pins:List (Addr×Obj)} {σ:St} {H:Hp} {s:Shared} {R:It→Hp→Prop} {E:Value→Shared→Prop} {lo hi:Int} {t u v:Tok} {tk:Nat} (I:Inv X pins σ H s) (h1 : -(2 ^ 62)≤lo) (h2:lo < 2 ^ 62) (h3 : -(2 ^ 62)≤hi) (h4:hi < 2 ^ 62)
  (q:R (Itr lo (hi - lo).toNat) H):wpAny (model X.prog X.w) X.A (pyIter (.ref s.heap.objs.size)) (PIE X pins σ tg R) E { s with heap:=s.heap.push { cls:=.type "range",data:=.fields #[.int lo t,.int hi u,.int 1 v] },toks:=tk }:=by
 refine wpAny_pyIter_range (IsRange.new ..) (small_one h1 h2 h3 h4) ?_
 have I1:Inv X pins σ H { s with heap:=s.heap.push { cls:=.type "range",data:=.fields #[.int lo t,.int hi u,.int 1 v] },toks:=tk }:=I.kept fun b o e=>Heap.get?_push_of_some _ e
 refine ⟨(s.heap.push { cls:=.type "range",data:=.fields #[.int lo t,.int hi u,.int 1 v] }).objs.size,[(s.heap.push { cls:=.type "range",data:=.fields #[.int lo t,.int hi u,.int 1 v] }).objs.size],_,_,H,rfl,
  I1.kept (t':=tk) fun b o e=>Heap.get?_push_of_some _ e,jm _ lo (hi - lo).toNat,?_,fun b hb=>?_,q⟩
 ·have e1:lo + ((0:Nat):Int) * 1=lo:=by simp
  have e2:(((hi - lo).toNat:Nat):Int) - ((0:Nat):Int)=Builtin.Range.rangeSize lo hi 1:=by rw [rangeSize_one];split <;> lia
  show IsRangeIter _ _ (lo + ((0:Nat):Int) * 1) ((((hi - lo).toNat:Nat):Int) - ((0:Nat):Int)) 1
  rw [e1,e2]
  exact Heap.get?_push_size _ rfl
 ·have e:b=(s.heap.push { cls:=.type "range",data:=.fields #[.int lo t,.int hi u,.int 1 v] }).objs.size:=by simpa using hb
  subst e
  exact I1.fpOk (Nat.le_refl _) (I1.hok.fresh (Nat.le_refl _))
noncomputable def tM (ta:TA):TI:=fun σ H R=>ta σ H fun vs H1=>∃ j:Int,vs=[.int j]∧-(2 ^ 62)≤j∧j < 2 ^ 62∧R (Itr 0 j.toNat) H1
theorem jX {a:Expr} {ta:TA} {p pos:Pos} (hg:Gl X "range") (hm:X.mg "range" = none) (ha:PA X [a] ta) (hs:starEach [a] X.env=[(false,eval a X.env)]:=by rfl):PI X tg (.Call (.Name "range" p) [a] [] pos) (tM ta):=by
 intro pins s σ H R I h
 refine Call_ (dU I hg hm boot_range (PyProof.Rows.callWith_type1 (thn (ha pos pins s σ H _ I h) fun us s1 ⟨vs,H1,I1,r1,q1⟩=>?_) hs rfl))
 obtain ⟨j,e,q1,q2,q⟩:=q1
 subst e
 cases r1 with
 | cons r rr=>
  cases rr
  obtain ⟨t,rfl⟩:=r
  exact call_range_1 (lY I1 (by lia) (by lia) q1 q2 (by simpa using q))
noncomputable def vz (wi:TI) (g:TG) (tb:TS):TS:=fun D σ H=>wi σ H fun J H1=>∃ W:Nat→Nat→St→Hp→Prop,(∃ m,W 0 m σ H1)∧∀ i m σ H,W i m σ H→
 (J.stop i H∧D.nx σ H)∨(J.go i H∧∃ N:St→Hp→Prop,(∀ σ' H',N σ' H'→∃ m',m' < m∧W (i + 1) m' σ' H')∧∀ x H',J.yld i H x H'→g x σ H' fun σ2 H2=>tb { D with nx:=N,ct:=N,bk:=D.nx } σ2 H2)
noncomputable def eV (fp:List Addr) (h:Heap):List (Addr×Obj):=fp.filterMap fun b=>(h.get? b).map fun o=>(b,o)
theorem bx {fp:List Addr} {h:Heap} {b:Addr} {o:Obj} (hb:b∈fp) (e:h.get? b=some o):(b,o)∈eV fp h:=List.mem_filterMap.mpr ⟨b,hb,by rw [e];rfl⟩
theorem jY {fp:List Addr} {h:Heap} {p:Addr×Obj} (hp:p∈eV fp h):p.1∈fp∧h.get? p.1=some p.2:=by
 obtain ⟨b,hb,e⟩:=List.mem_filterMap.mp hp
 cases q:h.get? b with
 | none=>rw [q] at e;cases e
 | some o=>
  rw [q] at e
  have e':(b,o)=p:=Option.some.inj e
  subst e'
  exact ⟨hb,q⟩
theorem Inv.pinned {pins:List (Addr×Obj)} {σ:St} {H:Hp} {s:Shared} {fp:List Addr} (I:Inv X pins σ H s) (hf:∀ b∈fp,g7 X pins H b) (ho:∀ b∈fp,∃ o,s.heap.get? b=some o∧∀ v,o.data≠.cell v):Inv X (pins++eV fp s.heap) σ H s:=
 I.pins_of fun p hp=>(List.mem_append.mp hp).elim (fun z=>I.pin p (List.mem_append_right _ z)) fun z=>by
  obtain ⟨hb,e⟩:=jY z
  obtain ⟨f0,f1,f2,_⟩:=hf p.1 hb
  obtain ⟨o,e',d⟩:=ho p.1 hb
  rw [e] at e';cases e'
  exact ⟨e,f0,f1,f2,d⟩
theorem Inv.unpinned {pins pl:List (Addr×Obj)} {σ:St} {H:Hp} {s:Shared} (I:Inv X (pins++pl) σ H s):Inv X pins σ H s:=I.pins_of fun p hp=>I.pin p (List.mem_append_right _ (List.mem_append_left _ hp))
theorem qp {iter:Expr} {body:List Stmt} {wi:TI} {g:TG} {tb:TS} {pos:Pos} (hp:PassesOwn (model X.prog X.w) X.A X.env X.xe) (hc:X.calm=true) (hi:PI X tg iter wi) (hg:PG X tg g) (hb:PSs X body tb)
  (hs:∀ x,foldedSetIterable iter X.env x=pure x:=by intro _;rfl):PS X (.For tg iter body [] pos) (vz wi g tb):=by
 intro pins s σ H D I h
 refine wpAny_For (thn (hi pins s σ H _ I h) fun v s1 h1=>thn h1 fun itv s2 h2=>?_) hs
 obtain ⟨it,fp,tn,J,H2,e,I2,T,st2,f2,W,⟨m0,w0⟩,turn⟩:=h2
 subst e
 have stat:∀ {H':Hp},(∀ b∈fp,H' b=none)→∀ b∈fp,g7 X pins H' b:=fun hn b hb=>⟨hn b hb,(f2 b hb).2⟩
 refine codeAny_forLoop_any (fun n s'=>∃ i σ' H',Inv X pins σ' H' s'∧tn i s'.heap∧(∀ b∈fp,H' b=none)∧W i n σ' H') ?_ m0 ⟨0,σ,H2,I2,st2,fun b hb=>(f2 b hb).1,w0⟩
 rintro n s3 ⟨i,σ3,H3,I3,st3,fr3,w3⟩
 rcases turn i n σ3 H3 w3 with ⟨stop,qn⟩ | ⟨go,N,hN,step⟩
 ·refine wpAny_passesOwn hp (thn (T.done X rfl rfl rfl hc i pins s3 σ3 H3 X.xe I3 (stat fr3) st3 stop) fun r s4 hqq=>?_)
  obtain ⟨hr,I4⟩:=hqq
  subst hr
  exact wpAny_execs_nil ⟨σ3,H3,I4,qn⟩
 ·refine wpAny_passesOwn hp (thn (T.item X rfl rfl rfl hc i pins s3 σ3 H3 X.xe I3 (stat fr3) st3 go) fun r s4 hqq=>?_)
  obtain ⟨u,hr,h4⟩:=hqq
  subst hr
  refine wpAny_passesOwn hp (thn h4 fun _ s5 hqq=>?_)
  obtain ⟨x,H5,I5,r5,y5,st5,fr5⟩:=hqq
  have I5':=I5.pinned (stat fr5) (T.obj _ _ st5)
  refine wpAny_passesOwn hp (thn (hg _ s5 σ3 H5 x u _ I5' r5 (step x H5 y5)) fun _ s6 hqq=>?_)
  obtain ⟨σ6,H6,I6,q6⟩:=hqq
  refine wpAny_passesOwn hp (thn (hb _ s6 σ6 H6 _ I6 q6) fun f s7 q7=>?_)
  have again:∀ {σ7:St} {H7:Hp},Inv X (pins++eV fp s5.heap) σ7 H7 s7→N σ7 H7→∃ m,m < n∧∃ i σ' H',Inv X pins σ' H' s7∧tn i s7.heap∧(∀ b∈fp,H' b=none)∧W i m σ' H':=fun {σ7 H7} I7 n7=>by
   obtain ⟨m',hm,w7⟩:=hN σ7 H7 n7
   refine ⟨m',hm,i + 1,σ7,H7,I7.unpinned,T.keep _ _ _ st5 fun b hb o e=>(I7.pin (b,o) (List.mem_append_right _ (List.mem_append_right _ (bx hb e)))).1,fun b hb=>?_,w7⟩
   obtain ⟨o,e,d⟩:=T.obj _ _ st5 b hb
   exact (I7.pin (b,o) (List.mem_append_right _ (List.mem_append_right _ (bx hb e)))).2.1
  cases f with
  | next=>obtain ⟨σ7,H7,I7,n7⟩:=q7;exact again I7 n7
  | cont=>obtain ⟨σ7,H7,I7,n7⟩:=q7;exact again I7 n7
  | brk=>obtain ⟨σ7,H7,I7,q7⟩:=q7;exact ⟨σ7,H7,I7.unpinned,q7⟩
  | ret v=>obtain ⟨x7,σ7,H7,I7,r7,q7⟩:=q7;exact ⟨x7,σ7,H7,I7.unpinned,r7,q7⟩
end
theorem for_list {K:W.Frag} {a:Addr} {xs:List V} {g:TG} {tb:TS} {D:Ends} {σ:St} {H:Hp} (Pv:Nat→St→Hp→Prop) (h0:Pv 0 σ H) (hl:∀ i σ H,i≤xs.length→Pv i σ H→SqL K H a xs)
  (hs:∀ i x σ H,xs[i]?=some x→Pv i σ H→g x σ H fun σ2 H2=>tb { D with nx:=Pv (i + 1),ct:=Pv (i + 1),bk:=D.nx } σ2 H2) (hd:∀ σ H,Pv xs.length σ H→D.nx σ H) :
  ∃ W:Nat→Nat→St→Hp→Prop,(∃ m,W 0 m σ H)∧∀ i m σ H,W i m σ H→
   ((Itl K a).stop i H∧D.nx σ H)∨((Itl K a).go i H∧∃ N:St→Hp→Prop,(∀ σ' H',N σ' H'→∃ m',m' < m∧W (i + 1) m' σ' H')∧∀ x H',(Itl K a).yld i H x H'→g x σ H' fun σ2 H2=>tb { D with nx:=N,ct:=N,bk:=D.nx } σ2 H2):=by
 refine ⟨fun i m σ H=>m=xs.length - i∧i≤xs.length∧Pv i σ H,⟨xs.length,by simp,Nat.zero_le _,h0⟩,?_⟩
 rintro i m σ H ⟨rfl,hi,p⟩
 have q:=hl i σ H hi p
 by_cases hlt:i < xs.length
 ·refine .inr ⟨⟨xs,xs[i],q,by simp [hlt]⟩,Pv (i + 1),fun σ' H' p'=>⟨xs.length - (i + 1),by lia,rfl,hlt,p'⟩,fun x H' y=>?_⟩
  obtain ⟨e,y⟩:=y
  subst e
  exact hs i x σ _ (y xs q) p
 ·have e:i=xs.length:=by lia
  subst e
  exact .inl ⟨⟨xs,q,Nat.le_refl _⟩,hd σ H p⟩
abbrev R2:=V→V→Hp→VK→Prop
def OpR (X:Cx) (f:Value→Value→Sem Value) (r:R2):Prop:=
 ∀ (pins:List (Addr×Obj)) (s:Shared) (σ:St) (H:Hp) (x y:V) (v u:Value) (Q:VK),Inv X pins σ H s→RelV x v→RelV y u→r x y H Q→
  wpAny (model X.prog X.w) X.A (f v u) (EP X pins σ Q) X.xe s
def cN (X:Cx) (f:Value) (r:List V→Hp→VK→Prop):Prop:=
 ∀ (pins:List (Addr×Obj)) (s:Shared) (σ:St) (H:Hp) (xs:List V) (us:List Value) (Q:VK),Inv X pins σ H s→Vals xs us→r xs H Q→
  wpAny (model X.prog X.w) X.A (call f us) (EP X pins σ Q) X.xe s
noncomputable def tOp (r:R2) (ta tb:TE):TE:=fun σ H Q=>ta σ H fun x H1=>tb σ H1 fun y H2=>r x y H2 Q
noncomputable def rI (C:Int→Int→Prop) (g:Int→Int→V):R2:=fun x y H Q=>∃ i j,x=.int i∧y=.int j∧C i j∧Q (g i j) H
noncomputable def rI0 (g:Int→Int→V):R2:=fun x y H Q=>∃ i j,x=.int i∧y=.int j∧Q (g i j) H
section
variable {X:Cx} {a b c:Expr} {ta tb tc:TE} {pos:Pos}
theorem tN (ha:PE X a ta) (hb:PE X b tb) {pins:List (Addr×Obj)} {s:Shared} {σ:St} {H:Hp} {R:V→V→Hp→Prop} (I:Inv X pins σ H s)
  (h:ta σ H fun x H1=>tb σ H1 fun y H2=>R x y H2) {Q:Value→Shared→Prop} {f:Value→Value→Sem Value}
  (hf:∀ v u s2 x y H2,Inv X pins σ H2 s2→RelV x v→RelV y u→R x y H2→wpAny (model X.prog X.w) X.A (f v u) Q X.xe s2) :
  wpAny (model X.prog X.w) X.A (eval a X.env) (fun v s₁=>wpAny (model X.prog X.w) X.A (eval b X.env) (fun u s₂=>wpAny (model X.prog X.w) X.A (f v u) Q X.xe s₂) X.xe s₁) X.xe s:=by
 refine thn (ha pins s σ H _ I h) fun v s1 hqq=>?_
 obtain ⟨x,H1,I1,r1,q1⟩:=hqq
 refine thn (hb pins s1 σ H1 _ I1 q1) fun u s2 hqq=>?_
 obtain ⟨y,H2,I2,r2,q2⟩:=hqq
 exact hf v u s2 x y H2 I2 r1 r2 q2
theorem tP {op:Operator} {r:R2} (ho:OpR X (binaryOp op) r) (ha:PE X a ta) (hb:PE X b tb):PE X (.BinOp a op b pos) (tOp r ta tb):=by
 intro pins s σ H Q I h
 exact wpAny_BinOp (tN ha hb I h fun v u s2 x y H2 I2 rx ry q=>ho pins s2 σ H2 x y v u Q I2 rx ry q)
theorem opI {f:Value→Value→Sem Value} {C:Int→Int→Prop} {g:Int→Int→Int}
  (rule:∀ (i j:Int) (t u:Tok) (s:Shared) (Q:Value→Shared→Prop) (E:Value→Shared→Prop),C i j→Q (.int (g i j) s.toks) { s with toks:=s.toks + 1 }→wpAny (model X.prog X.w) X.A (f (.int i t) (.int j u)) Q E s) :
  OpR X f (rI C fun i j=>.int (g i j)):=by
 intro pins s σ H x y v u Q I rx ry h
 obtain ⟨i,j,rfl,rfl,hc,q⟩:=h
 obtain ⟨t,rfl⟩:=rx
 obtain ⟨t',rfl⟩:=ry
 exact rule i j t t' s _ _ hc ⟨.int (g i j),H,I.tok _,⟨_,rfl⟩,q⟩
theorem uY {f:Value→Value→Sem Value} {g:Int→Int→Int}
  (rule:∀ (i j:Int) (t u:Tok) (s:Shared) (Q:Value→Shared→Prop) (E:Value→Shared→Prop),Q (.int (g i j) s.toks) { s with toks:=s.toks + 1 }→wpAny (model X.prog X.w) X.A (f (.int i t) (.int j u)) Q E s) :
  OpR X f (rI0 fun i j=>.int (g i j)):=by
 intro pins s σ H x y v u Q I rx ry h
 obtain ⟨i,j,rfl,rfl,q⟩:=h
 obtain ⟨t,rfl⟩:=rx
 obtain ⟨t',rfl⟩:=ry
 exact rule i j t t' s _ _ ⟨.int (g i j),H,I.tok _,⟨_,rfl⟩,q⟩
theorem vA {f:Value→Value→Sem Value} {g:Int→Int→Bool}
  (rule:∀ (i j:Int) (t u:Tok) (s:Shared) (Q:Value→Shared→Prop) (E:Value→Shared→Prop),Q (.bool (g i j)) s→wpAny (model X.prog X.w) X.A (f (.int i t) (.int j u)) Q E s) :
  OpR X f (rI0 fun i j=>.bl (g i j)):=by
 intro pins s σ H x y v u Q I rx ry h
 obtain ⟨i,j,rfl,rfl,q⟩:=h
 obtain ⟨t,rfl⟩:=rx
 obtain ⟨t',rfl⟩:=ry
 exact rule i j t t' s _ _ ⟨.bl (g i j),H,I,rfl,q⟩
def vB (i j:Int):Prop:=0 < j∧j < 1073741824
def vC (i j:Int):Prop:=0≤j∧j≤1000000∧i.natAbs < 2 ^ 64
def CMul (i j:Int):Prop:=(-(2 ^ 64) < i∧i < 2 ^ 64)∨(-(2 ^ 64) < j∧j < 2 ^ 64)
theorem CMul.ok {i j:Int} (h:CMul i j):IntMulOk i j:=by
 rcases h with ⟨h1,h2⟩ | ⟨h1,h2⟩
 ·exact .of_left (intBits_le_64 h1 h2)
 ·exact .of_right (intBits_le_64 h1 h2)
theorem qq:OpR X (binaryOp .Add) (rI0 fun i j=>.int (i + j)):=uY fun _ _ _ _ _ _ _ q=>add_int q
theorem qr:OpR X (binaryOp .Sub) (rI0 fun i j=>.int (i - j)):=uY fun _ _ _ _ _ _ _ q=>sub_int q
theorem qu:OpR X (binaryOp .Mult) (rI CMul fun i j=>.int (i * j)):=opI fun _ _ _ _ _ _ _ hc q=>mul_int q hc.ok
theorem ox:OpR X (binaryOp .FloorDiv) (rI vB fun i j=>.int (i / j)):=opI fun i j _ _ _ _ _ hc q=>by
 have h1:(0:Int) < j:=hc.1
 have h2:j < 1073741824:=hc.2
 exact floordiv_int (by lia) (by rw [Int.fdiv_eq_ediv_of_nonneg i (by lia)];exact q) (.inl (PyProof.noPylong_small (by lia)))
theorem qv:OpR X (binaryOp .Mod) (rI (fun _ j=>0 < j) fun i j=>.int (i % j)):=opI fun i j _ _ _ _ _ hc q=>by
 have h1:(0:Int) < j:=hc
 exact mod_int' (by lia) (by rw [Int.fmod_eq_emod_of_nonneg i (by lia)];exact q)
theorem qw:OpR X (binaryOp .Pow) (rI vC fun i j=>.int (i ^ j.toNat)):=opI fun _ _ _ _ _ _ _ hc q=>pow_int_small hc.1 hc.2.1 hc.2.2 q
end
section
variable {X:Cx} {a b c:Expr} {ta tb tc:TE} {pos:Pos}
theorem jZ {pins:List (Addr×Obj)} {σ:St} {H:Hp} {s:Shared} {Q:VK} {k k':Bool} (I:Inv X pins σ H s) (q:Q (.bl k) H) (e:k=k'):EP X pins σ Q (.bool k') s:=by
 subst e
 exact ⟨.bl k,H,I,rfl,q⟩
theorem tR:OpR X (compareOp .Lt) (rI0 fun i j=>.bl (decide (i < j))):=vA fun _ _ _ _ _ _ _ q=>lt_int q
theorem j0:OpR X (compareOp .Lt) (fun x y H Q=>∃ i j,x=.str i∧y=.str j∧Q (.bl (decide (i.cps.toList < j.cps.toList))) H):=by
 intro pins s σ H x y v u Q I rx ry h
 obtain ⟨i,j,rfl,rfl,q⟩:=h
 obtain ⟨t,rfl⟩:=rx
 obtain ⟨t',rfl⟩:=ry
 exact lt_str (jZ I q rfl)
theorem j3:OpR X (compareOp .In) (fun x y H Q=>∃ i j,x=.str i∧y=.str j∧Q (.bl (!(Builtin.Str.occurrences j i 0 j.length 1).isEmpty)) H):=by
 intro pins s σ H x y v u Q I rx ry h
 obtain ⟨i,j,rfl,rfl,q⟩:=h
 obtain ⟨t,rfl⟩:=rx
 obtain ⟨t',rfl⟩:=ry
 exact in_str (jZ I q rfl)
theorem gw:OpR X (compareOp .NotIn) (fun x y H Q=>∃ i j,x=.str i∧y=.str j∧Q (.bl (!(!(Builtin.Str.occurrences j i 0 j.length 1).isEmpty))) H):=by
 intro pins s σ H x y v u Q I rx ry h
 obtain ⟨i,j,rfl,rfl,q⟩:=h
 obtain ⟨t,rfl⟩:=rx
 obtain ⟨t',rfl⟩:=ry
 exact notIn_str (jZ I q rfl)
theorem cS (b:Expr) {op:CmpOp} (h:op≠.In:=by decide) (h2:op≠.NotIn:=by decide):behindInMarks op b=false:=by
 have e1:(op == CmpOp.In)=false:=by cases op <;> first | rfl | exact absurd rfl h
 have e2:(op == CmpOp.NotIn)=false:=by cases op <;> first | rfl | exact absurd rfl h2
 cases b <;> simp [behindInMarks,e1,e2]
theorem oy {op:CmpOp} {r:R2} (ho:OpR X (compareOp op) r) (ha:PE X a ta) (hb:PE X b tb) (hm:behindInMarks op b=false):PE X (.Compare a [op] [b] pos) (tOp r ta tb):=by
 intro pins s σ H Q I h
 exact wpAny_Compare1 (tN ha hb I h fun v u s2 x y H2 I2 rx ry q=>ho pins s2 σ H2 x y v u Q I2 rx ry q) hm
noncomputable def tS (t:TE):TT:=fun σ H Q=>t σ H fun x H'=>∃ k,x=.bl k∧Q k H'
theorem j4 {op:CmpOp} {r:R2} (ho:OpR X (compareOp op) r) (ha:PE X a ta) (hb:PE X b tb) (hm:behindInMarks op b=false):PT X (.Compare a [op] [b] pos) (tS (tOp r ta tb)):=by
 intro pins s σ H Q I h
 refine wpAny_isTrue_Compare1 (thn (ha pins s σ H _ I h) fun v s1 ⟨x,H1,I1,r1,q1⟩=>thn (hb pins s1 σ H1 _ I1 q1) fun u s2 ⟨y,H2,I2,r2,q2⟩=>
  thn (ho pins s2 σ H2 x y v u _ I2 r1 r2 q2) fun c s3 ⟨z,H3,I3,r3,k,e,q3⟩=>?_) hm
 subst e
 cases r3
 exact wpAny_truthy_bool ⟨H3,I3,q3⟩
theorem eW:(sizeLine:Nat) < 2 ^ 63:=by rw [sizeLine_eq];decide
theorem jn:OpR X (binaryOp .Add) (fun x y H Q=>∃ i j,x=.str i∧y=.str j∧i.length + j.length≤sizeLine∧Q (.str (i++j)) H):=by
 intro pins s σ H x y v u Q I rx ry h
 obtain ⟨i,j,rfl,rfl,hz,q⟩:=h
 obtain ⟨t,rfl⟩:=rx
 obtain ⟨t',rfl⟩:=ry
 exact add_str (fun t' tk=>⟨.str (i++j),H,I.tok _,⟨_,rfl⟩,q⟩) hz
theorem hX {x:V} {us:List Value} (r:Vals [x] us):∃ u,us=[u]∧RelV x u:=by
 cases r with
 | cons r1 r2=>cases r2;exact ⟨_,rfl,r1⟩
theorem qx {x y:V} {us:List Value} (r:Vals [x,y] us):∃ u w',us=[u,w']∧RelV x u∧RelV y w':=by
 cases r with
 | cons r1 r2=>
  cases r2 with
  | cons r3 r4=>cases r4;exact ⟨_,_,rfl,r1,r3⟩
end
section
variable {prog:Program} {w:World} {A:Around} {E:Value→Shared→Prop} {s:Shared} {K:W.Frag} {x dx C f:Addr} {mA:Str→Option Value} {name:Str} {v:Value}
end
theorem RelO.none_of {o:Option Value} (r:RelO none o):o=none:=by
 cases o with
 | none=>rfl
 | some u=>exact (show False from r).elim
section
variable {P:Program} {w:World} {H H':Hp} {h h':Heap} {a C dx:Addr} {fs fs':List (Str×V)}
end
section
variable {X:Cx} {pins:List (Addr×Obj)} {σ:St} {H:Hp} {s:Shared} {a C dx:Addr} {fs:List (Str×V)} {f:Str} {v:V} {A:Around} {E:Value→Shared→Prop}
end
section
variable {X:Cx} {o e value:Expr} {f:Str} {pos pos' tpos:Pos} {ta tv:TE}
end
section
variable {X:Cx} {pins:List (Addr×Obj)} {σ:St} {H:Hp} {s:Shared} {A:Around} {E:Value→Shared→Prop} {Q:Value→Shared→Prop} {c:Value} {b:Bool}
end
structure Room (k:Nat) (A:Around):Prop where
 hd:A.handled=none
 dp:A.depth + 3 * k + 5 < recursionLimit
 un:A.units + 16 * k + 200 < cLine
theorem Room.mono {j k:Nat} {A:Around} (r:Room k A) (h:j≤k):Room j A:=⟨r.hd,by have:=r.dp;lia,by have:=r.un;lia⟩
theorem Room.deeper {k:Nat} {A:Around} (r:Room (k + 1) A) (env:Env):Room k (A.deeper env):=
 ⟨r.hd,by have:=r.dp;show A.depth + 1 + 3 * k + 5 < _;lia,by have:=r.un;show A.units + 3 + 16 * k + 200 < _;lia⟩
theorem Room.depth {k:Nat} {A:Around} (r:Room k A):A.depth < recursionLimit:=by have:=r.dp;lia
theorem Room.units {k:Nat} {A:Around} (r:Room k A):A.units + 64 < cLine:=by have:=r.un;lia
theorem Room.units0 {k:Nat} {A:Around} (r:Room k A):A.units < cLine:=by have:=r.un;lia
noncomputable def vD:TA:=fun _ H Q=>Q [] H
noncomputable def tU (ta:TE) (tr:TA):TA:=fun σ H Q=>ta σ H fun x H1=>tr σ H1 fun xs H2=>Q (x :: xs) H2
section
variable {X:Cx} {e:Expr} {es:List Expr} {te:TE} {t:TA} {pos:Pos}
theorem j5:PA X [] vD:=fun _ _ _ _ H Q I h=>Calls.spliced_nil ⟨[],H,I,.nil,h⟩
theorem fA (ha:PE X e te) (hr:PA X es t) (hs:starEach (e :: es) X.env=(false,eval e X.env) :: starEach es X.env:=by rfl):PA X (e :: es) (tU te t):=by
 intro pos pins s σ H Q I h
 rw [hs]
 show wpAny _ _ (spliced ((false,eval e X.env) :: backTo pos (starEach es X.env))) _ _ s
 refine Calls.spliced_cons (thn (ha pins s σ H _ I h) fun u s1 hqq=>?_)
 obtain ⟨x,H1,I1,r1,q1⟩:=hqq
 exact thn (hr pos pins s1 σ H1 _ I1 q1) fun us s2 ⟨xs,H2,I2,r2,q2⟩=>⟨x :: xs,H2,I2,.cons r1 r2,q2⟩
noncomputable def vE (t:TA):TE:=fun σ H Q=>t σ H fun xs H1=>xs.length≤sizeLine∧∀ p,H1 p=none→Q (.ref p) (upd H1 p (.tup xs))
noncomputable def vF (t:TA):TE:=fun σ H Q=>t σ H fun xs H1=>xs.length≤sizeLine∧∀ p,H1 p=none→Q (.ref p) (upd H1 p (.lst xs))
theorem qy {x1} (h:PA X es t):PE X (.Tuple es x1 pos) (vE t):=by
 intro pins s σ H Q I hq
 refine wpAny_Tuple_spliced (thn (h pos pins s σ H _ I hq) fun us s1 ⟨xs,H1,I1,r,z,q⟩=>⟨by rw [←r.length];exact z,?_⟩)
 have hf:H1 s1.heap.objs.size=none:=I1.hok.fresh (Nat.le_refl _)
 refine ⟨.ref s1.heap.objs.size,upd H1 s1.heap.objs.size (.tup xs),I1.laid (t':=s1.toks) (fun b u e=>Heap.get?_push_of_some _ e) (Nat.le_refl _) ?_,rfl,q _ hf⟩
 exact ⟨z,us,r,⟨_,Heap.get?_push_size _ rfl,rfl,⟨_,rfl⟩,rfl⟩⟩
theorem qz (h:PA X es t):PE X (.List es pos) (vF t):=by
 intro pins s σ H Q I hq
 refine wpAny_List_spliced (thn (h pos pins s σ H _ I hq) fun us s1 ⟨xs,H1,I1,r,z,q⟩=>⟨by rw [←r.length];exact z,?_⟩)
 have hf:H1 s1.heap.objs.size=none:=I1.hok.fresh (Nat.le_refl _)
 refine ⟨.ref s1.heap.objs.size,upd H1 s1.heap.objs.size (.lst xs),I1.laid (t':=s1.toks) (fun b u e=>Heap.get?_push_of_some _ e) (Nat.le_refl _) ?_,rfl,q _ hf⟩
 exact ⟨z,us,0,r,Heap.get?_push_size _ rfl⟩
end
abbrev Sp:=List V→Hp→VK→XK→Prop
abbrev CXT:=List Env→Hp→Shared→XK→Value→Shared→Prop
structure Env0 (P:Program) (w:World) (K:W.Frag) (mg:Str→Option Value) (base:Heap) (A:Around) (outer:List Env) (s:Shared) (H:Hp):Prop where
 frames:A.frames=some outer
 mod:Mod K mg base
 bs:∀ b o,base.get? b=some o→s.heap.get? b=some o∧H b=none
 bsz:base.objs.size≤s.heap.objs.size
 funs:s.heap.FunFrames base outer
 frf:∀ b∈frs outer,H b=none
 hok:HOk P w H s.heap
 bare:AllBare s.gens
def CE (outer:List Env) (P:Program) (w:World) (H:Hp) (s:Shared) (Q:VK) (u:Value) (s':Shared):Prop:=
 ∃ v H',s'.os=s.os∧AllBare s'.gens∧Un (frs outer) [] H H' s.heap s'.heap∧HOk P w H' s'.heap∧RelV v u∧Q v H'
def CR (CX:CXT) (outer:List Env) (P:Program) (w:World) (H:Hp) (s:Shared) (Q:VK) (E:XK) (r:Result) (s':Shared):Prop:=
 match r with
 | .ok (.ret u)=>CE outer P w H s Q u s'
 | .ok _=>False
 | .error e=>CX outer H s E e s'
structure FnOk (P:Program) (w:World) (K:W.Frag) (mg:Str→Option Value) (base:Heap) (CX:CXT) (k:Nat) (f:Addr) (fd:FuncData) (ps:List Str) (sp:Sp):Prop where
 len:∀ vs H Q E,sp vs H Q E→vs.length=ps.length
 run:∀ (A:Around) (outer:List Env) (s:Shared) (H:Hp) (args:Args) (us:List Value) (vs:List V) (Q:VK) (E:XK),Room k A→Env0 P w K mg base A outer s H→BindsTo s fd args (ps.zip us)→Vals vs us→sp vs H Q E→
  codeAny (model P w) A (.call (.ref f) args) (CR CX outer P w H s Q E) s
theorem FnOk.mono {P:Program} {w:World} {K:W.Frag} {mg:Str→Option Value} {base:Heap} {CX:CXT} {j k:Nat} {f:Addr} {fd:FuncData} {ps:List Str} {sp:Sp} (F:FnOk P w K mg base CX j f fd ps sp) (h:j≤k) :
  FnOk P w K mg base CX k f fd ps sp:=⟨F.len,fun A outer s H args us vs Q E hr=>F.run A outer s H args us vs Q E (hr.mono h)⟩
theorem FnOk.imp {P:Program} {w:World} {K:W.Frag} {mg:Str→Option Value} {base:Heap} {CX:CXT} {k:Nat} {f:Addr} {fd:FuncData} {ps:List Str} {sp sp':Sp} (F:FnOk P w K mg base CX k f fd ps sp)
  (h:∀ vs H Q E,sp' vs H Q E→sp vs H Q E):FnOk P w K mg base CX k f fd ps sp':=
 ⟨fun vs H Q E q=>F.len vs H Q E (h _ _ _ _ q),fun A outer s H args us vs Q E hr he hb hv hs=>F.run A outer s H args us vs Q E hr he hb hv (h _ _ _ _ hs)⟩
section
variable {X:Cx} {pins:List (Addr×Obj)} {σ:St} {H:Hp} {s s':Shared}
theorem Inv.env0 (I:Inv X pins σ H s):Env0 X.prog X.w X.K X.mg X.base X.A X.stack s H:=
 ⟨I.ok.frames,I.ok.mod,I.bs,Nat.le_trans I.ok.bsz I.sz,I.stack,I.stkFree,I.hok,I.bare⟩
theorem Inv.after {Q:VK} {u:Value} (I:Inv X pins σ H s) (h:CE X.stack X.prog X.w H s Q u s'):EP X pins σ Q u s':=by
 obtain ⟨v,H',os,bare,un,hok,r,q⟩:=h
 obtain ⟨hh,g,d,t,os'⟩:=s'
 obtain rfl:os'=s.os:=os
 exact ⟨v,H',I.call (h':=hh) (g':=g) (d':=d) (t':=t) (ch:=[]) un hok bare (fun b z=>absurd z (by simp)),r,q⟩
end
noncomputable def tCall (sp:Sp) (dvs:List V) (E:XK) (t:TA):TE:=fun σ H Q=>t σ H fun vs H1=>sp (vs++dvs) H1 Q E
def Binds (K:W.Frag) (fd:FuncData) (ps:List Str) (ds:List Value):Prop:=
 ∀ (s:Shared) (us:List Value),K.In s.heap→(us++ds).length=ps.length→BindsTo s fd ⟨us,[]⟩ (ps.zip (us++ds))
theorem Binds.all {K:W.Frag} {fd:FuncData} {ps:List Str} (h:∀ us:List Value,us.length=ps.length→bindArgs fd ⟨us,[]⟩=pure (ps.zip us)):Binds K fd ps []:=fun s us _ hl=>by
 rw [List.append_nil] at hl ⊢
 exact .of_eq (h us hl)
def j6 (CX:CXT) (X:Cx) (E:XK):Prop:=∀ (pins:List (Addr×Obj)) (σ:St) (H:Hp) (s:Shared) (e:Value) (s':Shared),Inv X pins σ H s→CX X.stack H s E e s'→X.xe e s'
section
variable {X:Cx} {CX:CXT} {k:Nat} {f C:Addr} {fd:FuncData} {ps:List Str} {sp:Sp} {dvs:List V} {ds:List Value} {E:XK} {x m:Str} {p pos apos:Pos} {e o:Expr} {es:List Expr} {ta:TE} {t:TA}
theorem qA {pins:List (Addr×Obj)} {σ:St} {H:Hp} {s:Shared} {Q:VK} {us:List Value} {vs:List V} (F:FnOk X.prog X.w X.K X.mg X.base CX k f fd ps sp) (hr:Room k X.A) (hb:Binds X.K fd ps ds) (hd:Vals dvs ds) (hx:j6 CX X E)
  (I:Inv X pins σ H s) (r:Vals vs us) (h:sp (vs++dvs) H Q E):wpAny (model X.prog X.w) X.A (call (.ref f) us) (EP X pins σ Q) X.xe s:=by
 have r2:Vals (vs++dvs) (us++ds):=r.append hd
 have hl:(us++ds).length=ps.length:=by rw [←r2.length];exact F.len _ _ _ _ h
 refine wpAny_call (codeAny_mono (F.run X.A X.stack s H ⟨us,[]⟩ (us++ds) (vs++dvs) Q E hr I.env0 (hb s us I.kIn hl) r2 h) fun r s' hq=>?_)
 cases r with
 | error e=>exact hx pins σ H s e s' I hq
 | ok fl=>
  cases fl with
  | ret u=>exact I.after hq
  | next=>exact False.elim hq
  | brk=>exact False.elim hq
  | cont=>exact False.elim hq
theorem oz (F:FnOk X.prog X.w X.K X.mg X.base CX k f fd ps sp) (hr:Room k X.A) (hg:Gl X x) (hm:X.mg x=some (.ref f)) (hk:PySem.W.keepIn X.K (.ref f)=true) (hb:Binds X.K fd ps ds) (hd:Vals dvs ds) (hx:j6 CX X E)
  (ha:PA X (e :: es) t) (hdb:(x == ("__debug__" : Str))=false:=by decide) (he:starEach (e :: es) X.env=(false,eval e X.env) :: starEach es X.env:=by rfl) (hpl:(backTo pos (starEach es X.env)).any (·.1)=false:=by rfl) :
  PE X (.Call (.Name x p) (e :: es) [] pos) (tCall sp dvs E t):=by
 intro pins s σ H Q I h
 refine wpAny_Call_Name_kw (oh I hg hm ?_ hdb)
 refine PySem.W.callWith_K (h₀:=X.base) I.ok.mod.kin hk (thn (ha pos pins s σ H _ I h) fun us s1 ⟨vs,H1,I1,r,q⟩=>⟨I1.kIn,?_⟩) he hpl
 exact qA F hr hb hd hx I1 r q
end
section
variable {X:Cx} {CX:CXT} {k:Nat} {f C:Addr} {fd:FuncData} {ps ks:List Str} {sp:Sp} {E:XK} {x m:Str} {p pos apos kpos:Pos} {e o:Expr} {es:List Expr} {kws:List Keyword} {te ta:TE} {t tk:TA} {nm:Option Str}
variable {g:List Value→List Value→List Value} {gV:List V→List V→List V}
end
structure FnScope (N P:List Str) (sc:Scope):Prop where
 kind:sc.kind=.function
 co:sc.isCoroutine=false
 gen:sc.isGenerator=false
 nd:N.Nodup
 pre:N.take P.length=P
 par:∀ x∈P,sc.names.lookup x=some .local∨sc.names.lookup x=some .cell
 nofree:∀ y∈sc.names,y.2≠.free
theorem gx {kindOf:Str→Option NameKind} {x:Str}:∀ {binds:List (Str×Value)} {m:Str→Option Value},(∀ v,(x,v)∉binds)→bindL kindOf binds m x=m x
 | [],_,_=>rfl
 | (n,v) :: r,m,h=>by
  unfold bindL
  rw [gx fun w hw=>h w (List.mem_cons_of_mem _ hw)]
  split
  ·have:x≠n:=by rintro rfl;exact h v List.mem_cons_self
   simp [this]
  ·rfl
theorem gy {kindOf:Str→Option NameKind} {x:Str}:∀ {binds:List (Str×Value)} {m:Str→Option Value},(∀ v,(x,v)∉binds)→bindC kindOf binds m x=m x
 | [],_,_=>rfl
 | (n,v) :: r,m,h=>by
  unfold bindC
  rw [gy fun w hw=>h w (List.mem_cons_of_mem _ hw)]
  split
  ·rfl
  ·have:x≠n:=by rintro rfl;exact h v List.mem_cons_self
   simp [this]
theorem gA {kindOf:Str→Option NameKind} {x:Str} {v:Value}:∀ {P:List Str} {vs:List Value} {i:Nat} {m:Str→Option Value},P.Nodup→P[i]?=some x→vs[i]?=some v→kindOf x=some .local→
  bindL kindOf (P.zip vs) m x=some v
 | [],_,_,_,_,h,_,_=>by simp at h
 | _ :: _,[],_,_,_,_,h,_=>by simp at h
 | p :: P,w :: vs,0,m,nd,h1,h2,hk=>by
  simp at h1 h2;subst h1;subst h2
  show bindL kindOf ((p,w) :: P.zip vs) m p=_
  unfold bindL
  rw [gx fun v hv=>(List.nodup_cons.mp nd).1 (List.of_mem_zip hv).1,if_pos hk]
  simp
 | p :: P,w :: vs,i + 1,m,nd,h1,h2,hk=>by
  show bindL kindOf ((p,w) :: P.zip vs) m x=_
  unfold bindL
  exact gA (i:=i) (List.nodup_cons.mp nd).2 (by simpa using h1) (by simpa using h2) hk
theorem gB {kindOf:Str→Option NameKind} {x:Str} {v:Value}:∀ {P:List Str} {vs:List Value} {i:Nat} {m:Str→Option Value},P.Nodup→P[i]?=some x→vs[i]?=some v→kindOf x≠some .local→
  bindC kindOf (P.zip vs) m x=some v
 | [],_,_,_,_,h,_,_=>by simp at h
 | _ :: _,[],_,_,_,_,h,_=>by simp at h
 | p :: P,w :: vs,0,m,nd,h1,h2,hk=>by
  simp at h1 h2;subst h1;subst h2
  show bindC kindOf ((p,w) :: P.zip vs) m p=_
  unfold bindC
  rw [gy fun v hv=>(List.nodup_cons.mp nd).1 (List.of_mem_zip hv).1,if_neg hk]
  simp
 | p :: P,w :: vs,i + 1,m,nd,h1,h2,hk=>by
  show bindC kindOf ((p,w) :: P.zip vs) m x=_
  unfold bindC
  exact gB (i:=i) (List.nodup_cons.mp nd).2 (by simpa using h1) (by simpa using h2) hk
noncomputable def dW (N:List Str) (vs:List V):St:=vs.map some++List.replicate (N.length - vs.length) none
noncomputable def lZ (CX:CXT) (P:Program) (w:World) (K:W.Frag) (mg:Str→Option Value) (base:Heap) (N:List Str) (qual:Str) (scope:Scope) (f:Addr) (cd:Value) (A:Around) (outer:List Env) (s:Shared) (H:Hp) (E:XK):Cx where
 prog:=P
 w:=w
 K:=K
 mg:=mg
 base:=base
 A:=A.deeper (envOfC qual scope s.heap.objs.size f cd)
 N:=N
 s₀:=s
 H₀:=H
 env:=envOfC qual scope s.heap.objs.size f cd
 outer:=outer
 stack:=envOfC qual scope s.heap.objs.size f cd :: outer
 ex:=[]
 calm:=true
 fn:=fun _=>true
 pn:=[]
 xe:=fun e s'=>wpAny (model P w) (A.deeper (envOfC qual scope s.heap.objs.size f cd)) (leaving (envOfC qual scope s.heap.objs.size f cd) e) (fun _ s''=>CX outer H s E e s'') (fun e' s''=>CX outer H s E e' s'') s'
theorem iL {sc:Scope} {n:Nat} {x:Str} (h:sc.names.lookup x=some .cell):∃ c,(cellsFrom n sc.names []).lookup x=some c:=by
 have q:=PySem.W.cellsFrom_some sc.names n [] (.inl h)
 exact Option.isSome_iff_exists.mp q
theorem j7 {CX:CXT} {P:Program} {w:World} {K:W.Frag} {mg:Str→Option Value} {base:Heap} {N ps:List Str} {qual:Str} {scope:Scope} {f:Addr} {cd:Value} {A:Around} {outer:List Env} {s s1:Shared} {H:Hp} {E:XK} {us:List Value} {vs:List V}
  (S:FnScope N ps scope) (hd:A.handled=none) (e0:Env0 P w K mg base A outer s H) (hl:vs.length=ps.length) (r:Vals vs us)
  (x:InCallC s s.heap.objs.size (bindL (envOfC qual scope s.heap.objs.size f cd).kindOf (ps.zip us) fun _=>none) (cellsFrom (s.heap.objs.size + 1) scope.names []) (bindC (envOfC qual scope s.heap.objs.size f cd).kindOf (ps.zip us) fun _=>none) s1) :
  Inv (lZ CX P w K mg base N qual scope f cd A outer s H E) [] (dW N vs) H s1:=by
 have hpl:ps.length≤N.length:=by have:=congrArg List.length S.pre;rw [List.length_take] at this;lia
 obtain ⟨h1,tk,rfl,hk⟩:=x.done
 have noA:∀ b:Addr,b∉(lZ CX P w K mg base N qual scope f cd A outer s H E).ex:=fun b z=>absurd (show b∈([]:List Addr) from z) (by simp)
 refine ⟨⟨e0.mod,S.kind,rfl,rfl,Nat.le_refl _,fun y z c h1 h2=>?_,fun y hy=>?_,fun y c _ h=>?_,fun _=>hd,Around.frames_deeper e0.frames,.inr ⟨rfl,rfl⟩,fun b z=>absurd z (noA b),e0.bs,e0.bsz,fun b _ _=>noA b,fun b z=>absurd z (noA b),e0.funs,e0.frf⟩,
  rfl,e0.bare,Un.kept hk,⟨_,x.toInCall.ns,fun i y v h1 h2 h3=>?_⟩,fun y c h=>⟨_,x.cell y c h⟩,e0.hok.fresh (Nat.le_refl _),fun y c h=>?_,fun p hp=>absurd (show p∈([]:List (Addr×Obj)) from hp) (by simp),e0.hok.kept hk,?_⟩
 ·exact name_of_addr x.apart (PySem.mem_of_lookup h1) (PySem.mem_of_lookup h2)
 ·have hy:scope.names.lookup y=some .cell∨scope.names.lookup y=some .free:=hy
  rcases hy with hy | hy
  ·exact iL hy
  ·exact absurd rfl (S.nofree _ (PySem.mem_of_lookup hy))
 ·exact Nat.le_of_lt (x.above y c (PySem.mem_of_lookup h))
 ·have hi:i < vs.length:=by
   unfold dW at h2
   by_cases hi:i < vs.length
   ·exact hi
   ·rw [List.getElem?_append_right (by simpa using hi)] at h2
    rw [List.getElem?_replicate] at h2
    split at h2 <;> cases h2
  have ha:vs[i]?=some v:=by
   unfold dW at h2
   rw [List.getElem?_append_left (by simpa using hi),List.getElem?_map] at h2
   cases e:vs[i]? with
   | none=>rw [e] at h2;cases h2
   | some a=>rw [e] at h2;cases h2;rfl
  obtain ⟨u,hu,rv⟩:=r.get ha
  have hp:ps[i]?=some y:=by
   rw [←S.pre,List.getElem?_take_of_lt (by lia)];exact h1
  have ndP:ps.Nodup:=by rw [←S.pre];exact S.nd.sublist (List.take_sublist _ _)
  refine ⟨u,rv,?_⟩
  rcases S.par y (List.mem_of_getElem? hp) with k | k
  ·exact .inl ⟨k,gA ndP hp hu k⟩
  ·obtain ⟨c,e⟩:=iL (n:=s.heap.objs.size + 1) k
   refine .inr ⟨.inl k,c,e,?_⟩
   have q:=x.cell y c e
   rw [gB ndP hp hu (by show scope.names.lookup y≠_;rw [k];decide)] at q
   exact q
 ·exact e0.hok.fresh (Nat.le_of_lt (x.above y c (PySem.mem_of_lookup h)))
 ·unfold dW
  show _=N.length
  rw [List.length_append,List.length_map,List.length_replicate]
  lia
theorem tV {CX:CXT} {P:Program} {w:World} {K:W.Frag} {mg:Str→Option Value} {base:Heap} {k:Nat} {f:Addr} {name qual:Str} {params:Arguments} {body:List Stmt} {scope:Scope} {dV kV doc pm cdv ct oc:Value} {an od:Option Addr}
  {osl:Array (Option Value)} {N ps:List Str} {sp:Sp} (lk:K.lookup f=some ⟨oc,od,.func (PySem.W.fnOf name qual params body scope dV kV doc pm an cdv ct),osl⟩) (hcd:PySem.W.codeIn K cdv qual=true) (S:FnScope N ps scope)
  (len:∀ vs H Q E,sp vs H Q E→vs.length=ps.length)
  (hbody:∀ (A:Around) (outer:List Env) (s:Shared) (H:Hp) (vs:List V) (Q:VK) (E:XK),Room k (A.deeper (envOfC qual scope s.heap.objs.size f cdv))→sp vs H Q E→
   ∃ t,PSs (lZ CX P w K mg base N qual scope f cdv A outer s H E) body t∧t { nx:=fun _ H'=>Q .non H',rt:=Q } (dW N vs) H) :
  FnOk P w K mg base CX (k + 1) f (PySem.W.fnOf name qual params body scope dV kV doc pm an cdv ct) ps sp:=by
 refine ⟨len,fun A outer s H args us vs Q E hr e0 hb r hsp=>?_⟩
 have hl:=len _ _ _ _ hsp
 have KX:K.In s.heap:=e0.mod.kin.keeps fun b o e=>(e0.bs b o e).1
 have lim:s.heap.NoLimit:=e0.mod.nolimit.keeps fun b o e=>(e0.bs b o e).1
 have hkind:∀ y∈ps.zip us,scope.names.lookup y.1=some .local∨(scope.names.lookup y.1=some .cell∧((cellsFrom (s.heap.objs.size + 1) scope.names []).lookup y.1).isSome=true):=fun hq0 hy=>by
  obtain ⟨n,v⟩:=hq0
  rcases S.par n (List.of_mem_zip hy).1 with q | q
  ·exact .inl q
  ·exact .inr ⟨q,PySem.W.cellsFrom_some _ _ _ (.inl q)⟩
 refine codeAny_call_function hr.depth (KX _ _ lk) rfl S.co S.gen rfl (PySem.W.codeRec_of KX hcd) (hb _ _ _ _ ?_)
 refine wpAny_newFunctionEnv_cells S.kind hkind fun env he s1 x=>?_
 subst he
 refine ⟨lim.keeps x.toInCall.keep,codeAny_func ?_⟩
 obtain ⟨t,ht,hq⟩:=hbody A outer s H vs Q E (hr.deeper _) hsp
 have I:Inv (lZ CX P w K mg base N qual scope f cdv A outer s H E) [] (dW N vs) H s1:=j7 S hr.hd e0 hl r x
 refine wpAny_mono (ht [] s1 (dW N vs) H _ I hq) (fun fl s' hs=>?_) fun e s' hs=>hs
 have fin:∀ {σ':St} {H':Hp} {v:V} {u:Value},Inv (lZ CX P w K mg base N qual scope f cdv A outer s H E) [] σ' H' s'→RelV v u→Q v H'→CE outer P w H s Q u s':=
  fun {σ' H' v u} J rv q=>⟨v,H',J.os,J.bare,J.base,J.hok,rv,q⟩
 cases fl with
 | ret u=>
  obtain ⟨v,σ',H',J,rv,q⟩:=hs
  exact fin J rv q
 | next=>
  obtain ⟨σ',H',J,q⟩:=hs
  exact fin (v:=V.non) (u:=Value.none) J rfl q
 | brk=>
  obtain ⟨_,_,_,q⟩:=hs
  exact False.elim q
 | cont=>
  obtain ⟨_,_,_,q⟩:=hs
  exact False.elim q
section
variable {X:Cx} {x:Str} {p pos:Pos} {e:Expr} {es:List Expr} {t:TA} {id T:String} {r:List V→Hp→VK→Prop}
noncomputable def tCB (r:List V→Hp→VK→Prop) (t:TA):TE:=fun σ H Q=>t σ H fun vs H1=>r vs H1 Q
theorem iM (hc:cN X (.builtin id) r) (hg:Gl X x) (hm:X.mg x=none) (hv:bootBuiltins x=some (.builtin id)) (ha:PA X (e :: es) t) (hn:x≠"__name__":=by decide) (hdb:(x == ("__debug__" : Str))=false:=by decide)
  (he:starEach (e :: es) X.env=(false,eval e X.env) :: starEach es X.env:=by rfl) (hpl:(backTo pos (starEach es X.env)).any (·.1)=false:=by rfl):PE X (.Call (.Name x p) (e :: es) [] pos) (tCB r t):=by
 intro pins s σ H Q I h
 refine wpAny_Call_Name_kw (dU I hg hm hv ?_ hn hdb)
 exact PyProof.Rows.callWith_builtin1 (thn (ha pos pins s σ H _ I h) fun us s1 ⟨vs,H1,I1,r1,q1⟩=>hc pins s1 σ H1 vs us Q I1 r1 q1) he hpl
theorem j8 (hc:cN X (.type T) r) (hg:Gl X x) (hm:X.mg x=none) (hv:bootBuiltins x=some (.type T)) (ha:PA X (e :: es) t) (hn:x≠"__name__":=by decide) (hdb:(x == ("__debug__" : Str))=false:=by decide)
  (he:starEach (e :: es) X.env=(false,eval e X.env) :: starEach es X.env:=by rfl) (hpl:(backTo pos (starEach es X.env)).any (·.1)=false:=by rfl):PE X (.Call (.Name x p) (e :: es) [] pos) (tCB r t):=by
 intro pins s σ H Q I h
 refine wpAny_Call_Name_kw (dU I hg hm hv ?_ hn hdb)
 exact PyProof.Rows.callWith_type1 (thn (ha pos pins s σ H _ I h) fun us s1 ⟨vs,H1,I1,r1,q1⟩=>hc pins s1 σ H1 vs us Q I1 r1 q1) he hpl
end
end L2
namespace HT
open PySem PyProof.Rows
section
open PySem.SeqAt
open PySem.AutoSeq1 (wpAny_loadPart')
open PySem.MeetsSeq PySem.MeetsSeq2 PySem.MeetsSeq3
end
section
variable {prog:Program} {w:World} {A:Around} {E:Value→Shared→Prop} {s:Shared}
theorem oA {t b:Addr} {vs ws:List Value} {Q:Value→Shared→Prop} (ht:IsTup s.heap t vs.toArray) (hb:IsTup s.heap b ws.toArray) (hv:vs≠[])
  (h1:ws=[]→Q (.ref t) s) (h2:ws≠[]→Q (.ref s.heap.objs.size) { s with heap:=s.heap.push { cls:=.type "tuple",data:=.seq (vs++ws).toArray } })
  (hsz:vs.length + ws.length≤sizeLine):wpAny (model prog w) A (binaryOp .Add (.ref t) (.ref b)) Q E s:=by
 obtain ⟨⟨cls,dd,data,sl⟩,ho,hc,n,hd⟩:=id ht
 obtain ⟨⟨cls2,dd2,data2,sl2⟩,ho2,hc2,n2,hd2⟩:=id hb
 simp only at hc hd hc2 hd2
 subst hc hd hc2 hd2
 have e:vs.toArray++ws.toArray=(vs++ws).toArray:=by simp
 by_cases hw:ws=[]
 ·exact concat_meets ⟨_,ho,rfl⟩ ⟨_,ho2,rfl⟩ noFill_tuple_add seq_tuple_add PySem.F.slot_tuple_add PySem.F.entry_tuple_add (PySem.F.args_tuple_add_2 _ _)
   (tuple_addW1 t b vs.toArray ws.toArray n n2 dd dd2 sl sl2 (by simpa using hv) (by simp [hw])) ⟨ho,ho2,h1 hw⟩
 ·refine concat_meets ⟨_,ho,rfl⟩ ⟨_,ho2,rfl⟩ noFill_tuple_add seq_tuple_add PySem.F.slot_tuple_add PySem.F.entry_tuple_add (PySem.F.args_tuple_add_2 _ _)
   (tuple_addW2 t b vs.toArray ws.toArray n n2 dd dd2 sl sl2 (by simpa using hv) (by simpa using hw) (by rw [List.size_toArray,List.size_toArray];exact hsz)) ⟨ho,ho2,?_⟩
  rw [e]
  exact h2 hw
noncomputable def sIx (n d:Nat):Option Int→Nat
 | none=>d
 | some v=>if v < 0 then (v + (n:Int)).toNat else min v.toNat n
theorem l5 (n d:Nat):sIx n d none=d:=rfl
theorem oB (n d k:Nat):sIx n d (some (k:Int))=min k n:=by
 show (if (k:Int) < 0 then ((k:Int) + (n:Int)).toNat else min (k:Int).toNat n)=min k n
 rw [if_neg (by lia),Int.toNat_natCast]
theorem j9 (n d:Nat) (hd:d≤n) (o:Option Int):sIx n d o≤n:=by
 cases o with
 | none=>exact hd
 | some v=>
  show (if v < 0 then (v + (n:Int)).toNat else min v.toNat n)≤n
  by_cases hv:v < 0
  ·rw [if_pos hv];lia
  ·rw [if_neg hv];exact Nat.min_le_right _ _
theorem ka (v:Int) (n d:Nat):(if v < 0 then max (v + (n:Int)) 0 else min v (n:Int))=((sIx n d (some v):Nat):Int):=by
 show (if v < 0 then max (v + (n:Int)) 0 else min v (n:Int))=(((if v < 0 then (v + (n:Int)).toNat else min v.toNat n):Nat):Int)
 by_cases hv:v < 0
 ·simp only [if_pos hv];lia
 ·simp only [if_neg hv];lia
theorem jo (lo hi:Option Int) (n:Nat):Builtin.Slice.sliceAdjust lo hi 1 (n:Int)=(((sIx n 0 lo:Nat):Int),((sIx n n hi:Nat):Int)):=by
 have h1:¬ ((1:Int) < 0):=by lia
 unfold Builtin.Slice.sliceAdjust
 simp only [h1,if_false]
 refine Prod.ext ?_ ?_
 ·cases lo with
  | none=>rfl
  | some v=>exact ka v n 0
 ·cases hi with
  | none=>rfl
  | some v=>exact ka v n n
theorem jq (i j:Nat):Builtin.Slice.slicePlaces (i:Int) (j:Int) 1=j - i:=by
 unfold Builtin.Slice.slicePlaces
 have h1:(1:Int) > 0:=by lia
 simp only [h1,if_true,Int.ediv_one]
 split <;> lia
theorem eX {v:Value} {o:Option Int} {Q:Option Int→Shared→Prop} (p:IsPart v o) (h:Q o s):wpAny (model prog w) A (Builtin.Slice.slicePartIndex v) Q E s:=by
 cases p with
 | none=>exact slicePart_none h
 | int i t=>exact slicePart_int h
theorem b8 {sl:Addr} {vl vu:Value} {lo hi:Option Int} {n:Nat} {Q:Int×Int×Nat→Shared→Prop} (hs:s.heap.IsSliceOf sl vl vu .none) (pl:IsPart vl lo) (pu:IsPart vu hi)
  (h:Q (((sIx n 0 lo:Nat):Int),1,sIx n n hi - sIx n 0 lo) s):wpAny (model prog w) A (Builtin.Slice.sliceApplied (.ref sl) (pure (n:Int))) Q E s:=by
 obtain ⟨os,hos,hcs,hds⟩:=id hs
 unfold Builtin.Slice.sliceApplied Builtin.Slice.sliceFields
 refine wpAny_bind (wpAny_bind (wpAny_field hos hds (x:=vl) rfl (wpAny_bind (wpAny_field hos hds (x:=vu) rfl (wpAny_bind (wpAny_field hos hds (x:=.none) rfl (wpAny_pure ?_)))))))
 refine wpAny_bind (slicePart_none ?_)
 show wpAny _ _ (if ((1:Int) == 0)=true then _ else _) _ _ s
 rw [if_neg (by decide)]
 refine wpAny_bind (eX pl (wpAny_bind (eX pu (wpAny_bind (wpAny_pure ?_)))))
 show wpAny _ _ (match Builtin.Slice.sliceAdjust lo hi 1 (n:Int) with | (lo,hi)=>pure (lo,(1:Int),Builtin.Slice.slicePlaces lo hi 1)) _ _ s
 rw [jo lo hi n]
 show wpAny _ _ (pure (((sIx n 0 lo:Nat):Int),(1:Int),Builtin.Slice.slicePlaces ((sIx n 0 lo:Nat):Int) ((sIx n n hi:Nat):Int) 1)) _ _ s
 rw [jq]
 exact wpAny_pure h
theorem l6 (xs:Array Value) (i k:Nat):((List.range k).filterMap fun (m:Nat)=>xs[((i:Int) + (m:Int) * 1).toNat]?).toArray=((xs.toList.drop i).take k).toArray:=by
 have e:(fun (m:Nat)=>xs[((i:Int) + (m:Int) * 1).toNat]?)=fun m=>xs[i + m]?:=by
  funext m
  have:((i:Int) + (m:Int) * 1).toNat=i + m:=by lia
  rw [this]
 rw [e]
 have:=pick_run xs i k
 rw [List.filterMap_map] at this
 have e2:((fun x=>xs[x]?)∘fun x=>i + x)=fun m=>xs[i + m]?:=rfl
 rw [e2] at this
 rw [this]
theorem dk {t sl:Addr} {items:Array Value} {vl vu:Value} {lo hi:Option Int} {Q:Value→Shared→Prop} (ht:IsTup s.heap t items) (hs:s.heap.IsSliceOf sl vl vu .none) (pl:IsPart vl lo) (pu:IsPart vu hi)
  (hw:¬ (sIx items.size 0 lo=0∧sIx items.size items.size hi=items.size))
  (h:Q (.ref s.heap.objs.size) { s with heap:=s.heap.push { cls:=.type "tuple",data:=.seq ((items.toList.drop (sIx items.size 0 lo)).take (sIx items.size items.size hi - sIx items.size 0 lo)).toArray } })
  (hsz:items.size≤sizeLine):wpAny (model prog w) A (getItem (.ref t) (.ref sl)) Q E s:=by
 have htake:sizeOk (.seq ((items.toList.drop (sIx items.size 0 lo)).take (sIx items.size items.size hi - sIx items.size 0 lo)).toArray):=by
  show ((items.toList.drop (sIx items.size 0 lo)).take (sIx items.size items.size hi - sIx items.size 0 lo)).toArray.size≤sizeLine
  rw [List.size_toArray,List.length_take,List.length_drop,Array.length_toList]
  lia
 have hj:sIx items.size items.size hi≤items.size:=j9 _ _ (Nat.le_refl _) hi
 obtain ⟨os,hos,hcs,hds⟩:=id hs
 have hTs:s.TypeIs (.ref sl) "slice":=⟨os,hos,hcs⟩
 unfold getItem
 try with_reducible refine wpAny_holding ?_
 first | refine wpAny_bind (wpAny_pure ?_) | skip
 refine wpAny_bind (wpAny_sequenceKey ht.typeIs (by decide) ?_)
 refine wpAny_bind (wpAny_callSpecial?_slot (name:=Str.ofString "__getitem__") ht.typeIs PyProof.Rows.slot_tuple_getitem
  (wpAny_call_entry PyProof.Rows.slot_tuple_getitem ht.typeIs entry_tuple_getitem ?_ (args_tuple_getitem _ _)))
 show wpAny _ _ (Builtin.Tuple.tupleItemsOf (.ref t) >>= _) _ _ s
 refine wpAny_bind (tupleItemsOf_ ht ?_)
 refine wpAny_bind (wpAny_typeOf hTs ?_)
 rw [if_pos (by decide)]
 refine wpAny_bind (b8 hs pl pu ?_)
 have hno:¬ ((((sIx items.size 0 lo:Nat):Int) == 0 && (1:Int) == 1 && (sIx items.size items.size hi - sIx items.size 0 lo) == items.size)=true):=by
  intro q
  rw [Bool.and_eq_true,Bool.and_eq_true] at q
  have q1:((sIx items.size 0 lo:Nat):Int)=0:=eq_of_beq q.1.1
  have q2:sIx items.size items.size hi - sIx items.size 0 lo=items.size:=eq_of_beq q.2
  exact hw ⟨by lia,by lia⟩
 show wpAny _ _ (if (((sIx items.size 0 lo:Nat):Int) == 0 && (1:Int) == 1 && (sIx items.size items.size hi - sIx items.size 0 lo) == items.size)=true then _ else _) _ _ s
 rw [if_neg hno,l6]
 first
  | exact wpAny_bind (m:=Builtin.Tuple.tupleExact _) (wpAny_newObj_type (wpAny_pure ⟨_,rfl,wpAny_pure h⟩) htake)
  | exact wpAny_bind (m:=Builtin.Tuple.tupleExact _) (wpAny_newObj_type (wpAny_bind (wpAny_pure (wpAny_pure ⟨_,rfl,wpAny_pure h⟩))) htake)
  | exact wpAny_bind (wpAny_bind (m:=Builtin.Tuple.tupleExact _) (wpAny_newObj_type (wpAny_pure (wpAny_pure ⟨_,rfl,wpAny_pure h⟩)) htake))
  | exact wpAny_bind (wpAny_bind (m:=Builtin.Tuple.tupleExact _) (wpAny_newObj_type (wpAny_pure ⟨_,rfl,wpAny_pure h⟩) htake))
end
end HT
namespace L2
open PySem PySem.Spec PyProof.Rows
abbrev TO:=St→Hp→(Option Int→Hp→Prop)→Prop
def PO (X:Cx) (e:Option Expr) (t:TO):Prop:=
 ∀ (pins:List (Addr×Obj)) (s:Shared) (σ:St) (H:Hp) (Q:Option Int→Hp→Prop),Inv X pins σ H s→t σ H Q→
  wpAny (model X.prog X.w) X.A (evalPart e X.env) (fun u s'=>∃ o H',Inv X pins σ H' s'∧IsPart u o∧Q o H') X.xe s
noncomputable def oC:TO:=fun _ H Q=>Q none H
noncomputable def tW (t:TE):TO:=fun σ H Q=>t σ H fun x H1=>∃ i,x=.int i∧Q (some i) H1
section
variable {X:Cx} {e:Expr} {te:TE} {lo hi:Option Expr} {tl th:TO} {pos p2:Pos}
theorem oD:PO X none oC:=by
 intro pins s σ H Q I h
 rw [evalPart_none]
 exact wpAny_pure ⟨none,H,I,.none,h⟩
theorem oE (h:PE X e te):PO X (some e) (tW te):=by
 intro pins s σ H Q I hw
 rw [evalPart_some]
 refine thn (h pins s σ H _ I hw) fun u s1 hqq=>?_
 obtain ⟨x,H1,I1,r1,q1⟩:=hqq
 obtain ⟨i,rfl,q⟩:=q1
 obtain ⟨t,rfl⟩:=r1
 exact ⟨some i,H1,I1,.int i t,q⟩
def SlR (X:Cx) (r:V→Option Int→Option Int→Hp→VK→Prop):Prop:=
 ∀ (pins:List (Addr×Obj)) (s:Shared) (σ:St) (H:Hp) (x:V) (v vl vu:Value) (lo hi:Option Int) (sl:Addr) (Q:VK),Inv X pins σ H s→RelV x v→s.heap.IsSliceOf sl vl vu .none→IsPart vl lo→IsPart vu hi→r x lo hi H Q→
  ∃ T id,typeLookup (.type T) "__getitem__" = pure (some (.builtin id))∧s.TypeIs v T∧wpAny (model X.prog X.w) X.A (getItem v (.ref sl)) (EP X pins σ Q) X.xe s
noncomputable def tSl (r:V→Option Int→Option Int→Hp→VK→Prop) (te:TE) (tl th:TO):TE:=fun σ H Q=>te σ H fun x H1=>tl σ H1 fun l H2=>th σ H2 fun u H3=>r x l u H3 Q
theorem l7 {r:V→Option Int→Option Int→Hp→VK→Prop} (hr:SlR X r) (he:PE X e te) (hl:PO X lo tl) (hu:PO X hi th):PE X (.Subscript e (.Slice lo hi none p2) pos) (tSl r te tl th):=by
 intro pins s σ H Q I h
 refine Subscript_ (thn (he pins s σ H _ I h) fun v s1 hqq=>?_)
 obtain ⟨x,H1,I1,r1,q1⟩:=hqq
 refine wpAny_Slice (thn (hl pins s1 σ H1 _ I1 q1) fun vl s2 ⟨l,H2,I2,pl,q2⟩=>thn (hu pins s2 σ H2 _ I2 q2) fun vu s3 hqq=>?_)
 obtain ⟨u,H3,I3,pu,q3⟩:=hqq
 rw [evalPart_none]
 refine wpAny_pure ?_
 have I4:Inv X pins σ H3 { s3 with heap:=s3.heap.push { cls:=.type "slice",data:=.fields #[vl,vu,.none] } }:=I3.kept (t':=s3.toks) fun b ob q=>Heap.get?_push_of_some _ q
 obtain ⟨T,id,hT,ht,hg⟩:=hr pins { s3 with heap:=s3.heap.push { cls:=.type "slice",data:=.fields #[vl,vu,.none] } } σ H3 x v vl vu l u s3.heap.objs.size Q I4 r1 (Heap.IsSliceOf.new ..) pl pu q3
 show wpAny (model X.prog X.w) X.A (subscriptTail e (.Slice lo hi none p2) v (.ref s3.heap.objs.size)) (EP X pins σ Q) X.xe { s3 with heap:=s3.heap.push { cls:=.type "slice",data:=.fields #[vl,vu,.none] } }
 exact tail_any (ops:=[.ref s3.heap.objs.size,v]) ht hT hg (by with_unfolding_all rfl)
noncomputable def nj (xs:List V) (lo hi:Option Int):List V:=(xs.drop (HT.sIx xs.length 0 lo)).take (HT.sIx xs.length xs.length hi - HT.sIx xs.length 0 lo)
theorem dX (xs:List V) (lo hi:Option Int):(nj xs lo hi).length≤xs.length:=by
 unfold nj
 rw [List.length_take,List.length_drop]
 lia
noncomputable def vG (K:W.Frag):V→Option Int→Option Int→Hp→VK→Prop:=fun x lo hi H Q=>∃ a xs,x=.ref a∧SqT K H a xs∧
 ¬ (HT.sIx xs.length 0 lo=0∧HT.sIx xs.length xs.length hi=xs.length)∧∀ p,H p=none→Q (.ref p) (upd H p (.tup (nj xs lo hi)))
theorem qB:SlR X (vG X.K):=by
 intro pins s σ H x v vl vu lo hi sl Q I rx hs pl pu h
 obtain ⟨a,xs,rfl,hx,hw,q⟩:=h
 cases rx
 obtain ⟨its,r,ht,hz⟩:=I.tuple hx
 have hlen:its.toArray.size=xs.length:=by rw [List.size_toArray];exact r.length.symm
 refine ⟨"tuple",_,PyProof.Rows.slot_tuple_getitem.lookup,ht.typeIs,?_⟩
 refine HT.dk ht hs pl pu (by rw [hlen];exact hw) ?_ (by rw [hlen];exact hz)
 rw [hlen]
 refine ⟨.ref s.heap.objs.size,_,I.laid (t':=s.toks) (o:=.tup (nj xs lo hi)) (fun b ob q=>Heap.get?_push_of_some _ q) (Nat.le_refl _) ?_,rfl,q _ (I.hok.fresh (Nat.le_refl _))⟩
 exact ⟨Nat.le_trans (dX xs lo hi) hz,_,(r.drop (HT.sIx xs.length 0 lo)).take (HT.sIx xs.length xs.length hi - HT.sIx xs.length 0 lo),IsTupN.new _ _⟩
noncomputable def tX (K:W.Frag):R2:=fun x y H Q=>∃ a b xs ys,x=.ref a∧y=.ref b∧SqT K H a xs∧SqT K H b ys∧xs≠[]∧xs.length + ys.length≤sizeLine∧
 (ys=[]→Q (.ref a) H)∧(ys≠[]→∀ p,H p=none→Q (.ref p) (upd H p (.tup (xs++ys))))
theorem Vals.nil_iff {xs:List V} {us:List Value} (r:Vals xs us):us=[]↔xs=[]:=by
 cases r with
 | nil=>simp
 | cons _ _=>simp
theorem oF:OpR X (binaryOp .Add) (tX X.K):=by
 intro pins s σ H x y v u Q I rx ry h
 obtain ⟨a,b,xs,ys,rfl,rfl,ha,hb,hx,hz,q1,q2⟩:=h
 cases rx
 cases ry
 obtain ⟨its,r1,p1,_⟩:=I.tuple ha
 obtain ⟨its2,r2,p2,_⟩:=I.tuple hb
 refine HT.oA p1 p2 (fun z=>hx (r1.nil_iff.mp z)) (fun z=>⟨.ref a,H,I,rfl,q1 (r2.nil_iff.mp z)⟩) (fun z=>?_) (by rw [←r1.length,←r2.length];exact hz)
 refine ⟨.ref s.heap.objs.size,_,I.laid (t':=s.toks) (o:=.tup (xs++ys)) (fun b ob q=>Heap.get?_push_of_some _ q) (Nat.le_refl _) ?_,rfl,q2 (fun w=>z (r2.nil_iff.mpr w)) _ (I.hok.fresh (Nat.le_refl _))⟩
 exact ⟨by rw [List.length_append];exact hz,_,r1.append r2,IsTupN.new _ _⟩
end
noncomputable def ixN (n:Nat) (i:Int):Option Nat:=if 0≤i then (if i < n then some i.toNat else none) else if -(n:Int)≤i then some (i + n).toNat else none
noncomputable def atI {α:Type} (xs:List α) (i:Int):Option α:=(ixN xs.length i).bind fun j=>xs[j]?
theorem kc {n:Nat} {i:Int} {j:Nat} (h:ixN n i=some j):seqIndex? i n=some j∧j < n∧-(n:Int)≤i∧i < n:=by
 unfold ixN at h
 by_cases h0:0≤i
 ·rw [if_pos h0] at h
  by_cases h1:i < n
  ·rw [if_pos h1] at h
   have e:i.toNat=j:=Option.some.inj h
   exact ⟨by rw [seqIndex_of h0 h1,e],by lia,by lia,h1⟩
  ·rw [if_neg h1] at h;cases h
 ·rw [if_neg h0] at h
  by_cases h1 : -(n:Int)≤i
  ·rw [if_pos h1] at h
   have e:(i + n).toNat=j:=Option.some.inj h
   exact ⟨by rw [seqIndex_neg (by lia) h1,e],by lia,h1,by lia⟩
  ·rw [if_neg h1] at h;cases h
theorem hZ {α:Type} {xs:List α} {i:Int} {v:α} (h:atI xs i=some v):∃ j,seqIndex? i xs.length=some j∧xs[j]?=some v∧j < xs.length∧-(xs.length:Int)≤i∧i < xs.length:=by
 unfold atI at h
 cases e:ixN xs.length i with
 | none=>rw [e] at h;cases h
 | some j=>
  rw [e] at h
  obtain ⟨h1,h2,h3,h4⟩:=kc e
  exact ⟨j,h1,h,h2,h3,h4⟩
theorem fB {α:Type} {xs:List α} {j:Nat} {v:α} (h:xs[j]?=some v):atI xs (j:Int)=some v:=by
 have hj:j < xs.length:=(List.getElem?_eq_some_iff.mp h).1
 have e:ixN xs.length (j:Int)=some j:=by
  unfold ixN
  rw [if_pos (by lia),if_pos (by lia)];simp
 unfold atI;rw [e];exact h
def kd (b:Expr):Prop:=∀ o i,subscripted b false o i=operate [o,i] (getItem o i)
def IxR (X:Cx) (r:R2):Prop:=
 ∀ (value slice:Expr) (pins:List (Addr×Obj)) (s:Shared) (σ:St) (H:Hp) (x y:V) (v u:Value) (Q:VK),Inv X pins σ H s→RelV x v→RelV y u→r x y H Q→
  subscripted slice false v u=operate [v,u] (getItem v u)→wpAny (model X.prog X.w) X.A (subscriptTail value slice v u) (EP X pins σ Q) X.xe s
def MtR (X:Cx) (id:String) (r:V→List V→Hp→VK→Prop):Prop:=
 ∀ (pins:List (Addr×Obj)) (s:Shared) (σ:St) (H:Hp) (x:V) (xs:List V) (v:Value) (us:List Value) (Q:VK),Inv X pins σ H s→RelV x v→Vals xs us→r x xs H Q→
  wpAny (model X.prog X.w) X.A (call (.builtin id) (v :: us)) (EP X pins σ Q) X.xe s
section
variable {X:Cx} {a b:Expr} {ta tb:TE} {pos:Pos}
theorem tY {r:R2} (hr:IxR X r) (ha:PE X a ta) (hb:PE X b tb) (hs:kd b):PE X (.Subscript a b pos) (tOp r ta tb):=by
 intro pins s σ H Q I h
 exact Subscript_ (tN ha hb I h fun v u s2 x y H2 I2 rx ry q=>hr a b pins s2 σ H2 x y v u Q I2 rx ry q (hs _ _))
noncomputable def vH (K:W.Frag):R2:=fun x y H Q=>∃ p xs i v,x=.ref p∧y=.int i∧SqL K H p xs∧atI xs i=some v∧Q v H
noncomputable def vI (K:W.Frag):R2:=fun x y H Q=>∃ p xs i v,x=.ref p∧y=.int i∧SqT K H p xs∧atI xs i=some v∧Q v H
noncomputable def vJ:R2:=fun x y H Q=>∃ z i c,x=.str z∧y=.int i∧z.length≤sizeLine∧atI z.cps.toList i=some c∧Q (.str ⟨#[c]⟩) H
theorem oG:IxR X (vH X.K):=by
 intro value slice pins s σ H x y v u Q I rx ry h hs
 obtain ⟨p,xs,i,z,rfl,rfl,hq,he,q⟩:=h
 cases rx
 obtain ⟨t,rfl⟩:=ry
 obtain ⟨its,r,pl,hz⟩:=I.list hq
 obtain ⟨j,h1,h2,h3,h4,h5⟩:=hZ he
 obtain ⟨w,ew,rw'⟩:=r.get h2
 have hl:=r.length
 have hn:=eW
 have fin:EP X pins σ Q w s:=⟨z,H,I,rw',q⟩
 by_cases h0:0≤i
 ·have hj:i.toNat=j:=by
   rw [seqIndex_of h0 h5] at h1
   exact Option.some.inj h1
  exact item_listR pl.isList h0 (by lia) (by rw [hj];simpa using ew) fin hs
 ·have hj:(i + (its.toArray.size:Int)).toNat=j:=by
   rw [seqIndex_neg (by lia) h4] at h1
   rw [List.size_toArray,←hl]
   exact Option.some.inj h1
  exact subscriptTail_builtinR (x:=w) pl.isList.typeIs slot_list_getitem.lookup
   (wpAny_getItem_list_neg (Q:=fun r s'=>r=w∧EP X pins σ Q r s') pl.isList (by lia) (by rw [List.size_toArray] <;> lia) (by lia) (by rw [hj];simpa using ew) ⟨rfl,fin⟩) hs
theorem qC:IxR X (vI X.K):=by
 intro value slice pins s σ H x y v u Q I rx ry h hs
 obtain ⟨p,xs,i,z,rfl,rfl,hq,he,q⟩:=h
 cases rx
 obtain ⟨t,rfl⟩:=ry
 obtain ⟨its,r,pl,hz⟩:=I.tuple hq
 obtain ⟨j,h1,h2,h3,h4,h5⟩:=hZ he
 obtain ⟨w,ew,rw'⟩:=r.get h2
 have hl:=r.length
 have hn:=eW
 have fin:EP X pins σ Q w s:=⟨z,H,I,rw',q⟩
 exact subscriptTail_builtinR (x:=w) pl.typeIs slot_tuple_getitem.lookup
  (getItem_tuple (j:=j) (Q:=fun r s'=>r=w∧EP X pins σ Q r s') pl (by lia) (by lia) (by rw [List.size_toArray,←hl];exact h1) (by simpa using ew) ⟨rfl,fin⟩) hs
theorem qD:IxR X vJ:=by
 intro value slice pins s σ H x y v u Q I rx ry h hs
 obtain ⟨z,i,c,rfl,rfl,hz,he,q⟩:=h
 obtain ⟨t,rfl⟩:=rx
 obtain ⟨t',rfl⟩:=ry
 obtain ⟨j,h1,h2,h3,h4,h5⟩:=hZ he
 have hl:z.cps.toList.length=z.length:=by simp [Str.length]
 rw [hl] at h1 h4 h5
 have hn:=eW
 exact tail_any (typeIs_str s z t) slot_str_getitem.lookup (getItem_str (c:=c) (by
  have e1:decide (i < -(2 ^ 63:Int))=false:=decide_eq_false (by lia)
  have e2:decide (i ≥ 2 ^ 63)=false:=decide_eq_false (by lia)
  rw [e1,e2,Bool.or_false]) (by rw [h1];simpa using h2) ⟨.str ⟨#[c]⟩,H,I.tok _,⟨_,rfl⟩,q⟩) hs
theorem jr (its:List Value) (n j:Nat) (u:Value):Obj.mapSeq (·.setIfInBounds j u) { cls:=.type "list",data:=.seq its.toArray n }={ cls:=.type "list",data:=.seq (its.set j u).toArray n }:=by
 simp [Obj.mapSeq]
theorem Inv.lst {pins:List (Addr×Obj)} {σ:St} {H:Hp} {s:Shared} {p:Addr} {xs:List V} (I:Inv X pins σ H s) (h:H p=some (.lst xs)) :
  ∃ (its:List Value) (n:Nat),Vals xs its∧s.heap.get? p=some { cls:=.type "list",data:=.seq its.toArray n }∧xs.length≤sizeLine:=by
 obtain ⟨z,its,n,r,e⟩:=I.hok p _ h
 exact ⟨its,n,r,e,z⟩
theorem Inv.lstUpd {pins:List (Addr×Obj)} {σ:St} {H:Hp} {s:Shared} {p:Addr} {xs ys:List V} {its its':List Value} {n n':Nat} {f:Obj→Obj} (I:Inv X pins σ H s) (h:H p=some (.lst xs))
  (ho:s.heap.get? p=some { cls:=.type "list",data:=.seq its.toArray n }) (hf:f { cls:=.type "list",data:=.seq its.toArray n }={ cls:=.type "list",data:=.seq its'.toArray n' }) (r:Vals ys its') (hz:ys.length≤sizeLine) (t:Nat) :
  Inv X pins σ (upd H p (.lst ys)) { s with heap:=s.heap.update p f,toks:=t }:=by
 have e:(s.heap.update p f).get? p=some { cls:=.type "list",data:=.seq its'.toArray n' }:=by
  rw [Heap.get?_update_self f ho (by rw [hf] <;> rfl),hf]
 refine I.write (x:=p) (e:=p) (by rw [h];trivial) (.inl rfl) (fun b u hb q=>(Heap.get?_update_other _ _ (Ne.symm hb)).trans q) ⟨_,e⟩ ?_
 exact ⟨hz,its',n',r,e⟩
noncomputable def qE:V→V→V→Hp→(Hp→Prop)→Prop:=fun o i v H Q=>∃ p xs k j,o=.ref p∧i=.int k∧H p=some (.lst xs)∧ixN xs.length k=some j∧Q (upd H p (.lst (xs.set j v)))
theorem l8:vp X qE:=by
 intro pins s σ H o i v ov iv u Q I ro ri rv h
 obtain ⟨p,xs,k,j,rfl,rfl,hp,hj,q⟩:=h
 cases ro
 obtain ⟨t,rfl⟩:=ri
 obtain ⟨its,n,r,ho,hz⟩:=I.lst hp
 obtain ⟨h1,h2,h3,h4⟩:=kc hj
 have hl:=r.length
 have hn:=eW
 have I':Inv X pins σ (upd H p (.lst (xs.set j v))) { s with heap:=s.heap.update p (Obj.mapSeq (·.setIfInBounds j u)) }:=
  I.lstUpd hp ho (jr its n j u) (r.set rv j) (by rw [List.length_set];exact hz) s.toks
 by_cases h0:0≤k
 ·have hk:k.toNat=j:=by
   rw [seqIndex_of h0 h4] at h1
   exact Option.some.inj h1
  exact PySem.W.ki_setAt ho h0 (by lia) (by rw [List.size_toArray,←hl];exact h4) (by rw [hk];exact ⟨_,I',q⟩)
 ·have hk:(k + (its.toArray.size:Int)).toNat=j:=by
   rw [seqIndex_neg (by lia) h3] at h1
   rw [List.size_toArray,←hl]
   exact Option.some.inj h1
  exact PySem.W.ki_setBack ho (by lia) (by rw [List.size_toArray,←hl];exact h3) (by lia) (by rw [hk];exact ⟨_,I',q⟩)
theorem gC (lo hi:Option Int) (n:Nat):(sliceBounds lo hi none n).1=((HT.sIx n 0 lo:Nat):Int)∧(sliceBounds lo hi none n).2.1=((HT.sIx n n hi:Nat):Int)∧(sliceBounds lo hi none n).2.2=1:=by
 refine ⟨?_,?_,rfl⟩
 ·cases lo with
  | none=>simp [sliceBounds,HT.sIx]
  | some i=>
   simp only [sliceBounds,HT.sIx,Option.getD_none,show (1:Int) > 0 by decide,if_true]
   by_cases h:i < 0
   ·simp only [h,if_true] <;> lia
   ·simp only [h,if_false] <;> lia
 ·cases hi with
  | none=>simp [sliceBounds,HT.sIx]
  | some i=>
   simp only [sliceBounds,HT.sIx,Option.getD_none,show (1:Int) > 0 by decide,if_true]
   by_cases h:i < 0
   ·simp only [h,if_true] <;> lia
   ·simp only [h,if_false] <;> lia
theorem fC (its:List Value) (lo hi:Option Int):slicePick its.toArray lo hi none=((its.drop (HT.sIx its.length 0 lo)).take (HT.sIx its.length its.length hi - HT.sIx its.length 0 lo)).toArray:=by
 obtain ⟨h1,h2,h3⟩:=gC lo hi its.toArray.size
 unfold slicePick
 rw [h1,h2,h3]
 simp only [sliceRange_one,pick_run,List.size_toArray] <;> rfl
noncomputable def vK (K:W.Frag):V→Option Int→Option Int→Hp→VK→Prop:=fun x lo hi H Q=>∃ a xs,x=.ref a∧SqL K H a xs∧∀ p,H p=none→Q (.ref p) (upd H p (.lst (nj xs lo hi)))
theorem oH:SlR X (vK X.K):=by
 intro pins s σ H x v vl vu lo hi sl Q I rx hs pl pu h
 obtain ⟨a,xs,rfl,hx,q⟩:=h
 cases rx
 obtain ⟨its,r,ht,hz⟩:=I.list hx
 have hlen:=r.length
 refine ⟨"list",_,slot_list_getitem.lookup,ht.isList.typeIs,?_⟩
 refine wpAny_getItem_list_slice ht.isList hs pl pu .none (by simp) ?_ (by rw [List.size_toArray] <;> lia)
 rw [fC,←hlen]
 refine ⟨.ref s.heap.objs.size,_,I.laid (t':=s.toks) (o:=.lst (nj xs lo hi)) (fun b ob q=>Heap.get?_push_of_some _ q) (Nat.le_refl _) ?_,rfl,q _ (I.hok.fresh (Nat.le_refl _))⟩
 exact ⟨Nat.le_trans (dX xs lo hi) hz,_,0,(r.drop (HT.sIx xs.length 0 lo)).take (HT.sIx xs.length xs.length hi - HT.sIx xs.length 0 lo),Heap.get?_push_size _ rfl⟩
noncomputable def l9:V→Bool
 | .non=>true
 | .bl _=>true
 | .int _=>true
 | .str _=>true
 | _=>false
noncomputable def eqV:V→V→Bool
 | .non,.non=>true
 | .bl a,.bl b=>a == b
 | .bl a,.int b=>(if a then 1 else 0) == b
 | .int a,.bl b=>a == (if b then 1 else 0)
 | .int a,.int b=>a == b
 | .str a,.str b=>a == b
 | _,_=>false
theorem qF {A:Around} {s:Shared} {y x:V} {u v:Value} (ry:RelV y u) (rx:RelV x v) (fy:l9 y=true) (fx:l9 x=true):SeqAt.EqAt A s u v (eqV y x):=by
 cases y with
 | non=>
  cases ry
  cases x with
  | non=>cases rx;exact SeqAt.EqAt.same _
  | bl b=>cases rx;exact SeqAt.EqAt.none_bool b
  | int b=>obtain ⟨t,rfl⟩:=rx;exact SeqAt.EqAt.none_int b t
  | str b=>obtain ⟨t,rfl⟩:=rx;exact SeqAt.EqAt.none_str b t
  | _=>exact absurd (show false=true from fx) Bool.false_ne_true
 | bl a=>
  cases ry
  cases x with
  | non=>cases rx;exact SeqAt.EqAt.bool_none a
  | bl b=>cases rx;exact SeqAt.EqAt.bool_bool a b
  | int b=>obtain ⟨t,rfl⟩:=rx;exact SeqAt.EqAt.bool_int a b t
  | str b=>obtain ⟨t,rfl⟩:=rx;exact SeqAt.EqAt.bool_str a b t
  | _=>exact absurd (show false=true from fx) Bool.false_ne_true
 | int a=>
  obtain ⟨t',rfl⟩:=ry
  cases x with
  | non=>cases rx;exact SeqAt.EqAt.int_none a t'
  | bl b=>cases rx;exact SeqAt.EqAt.int_bool a t' b
  | int b=>obtain ⟨t,rfl⟩:=rx;exact SeqAt.EqAt.int_int a t' b t
  | str b=>obtain ⟨t,rfl⟩:=rx;exact SeqAt.EqAt.int_str a t' b t
  | _=>exact absurd (show false=true from fx) Bool.false_ne_true
 | str a=>
  obtain ⟨t',rfl⟩:=ry
  cases x with
  | non=>cases rx;exact SeqAt.EqAt.str_none a t'
  | bl b=>cases rx;exact SeqAt.EqAt.str_bool a t' b
  | int b=>obtain ⟨t,rfl⟩:=rx;exact SeqAt.EqAt.str_int a t' b t
  | str b=>obtain ⟨t,rfl⟩:=rx;exact SeqAt.EqAt.str_str a t' b t
  | _=>exact absurd (show false=true from fx) Bool.false_ne_true
 | _=>exact absurd (show false=true from fy) Bool.false_ne_true
theorem dy:cN X (.builtin "len") (fun xs H Q=>∃ p ys,xs=[.ref p]∧(SqL X.K H p ys∨SqT X.K H p ys)∧Q (.int ys.length) H):=by
 intro pins s σ H xs us Q I r h
 obtain ⟨p,ys,rfl,hq,q⟩:=h
 obtain ⟨u,rfl,rx⟩:=hX r
 cases rx
 have hn:=eW
 rcases hq with hq | hq
 ·obtain ⟨its,r',pl,hz⟩:=I.list hq
  have hlen:=r'.length
  exact Calls.call_len_list pl.isList (by simp only [List.size_toArray] <;> lia) ⟨.int ys.length,H,I.tok _,⟨s.toks + 1,by rw [List.size_toArray,hlen]⟩,q⟩
 ·obtain ⟨its,r',pl,hz⟩:=I.tuple hq
  have hlen:=r'.length
  exact len_tuple pl (by simp only [List.size_toArray] <;> lia) ⟨.int ys.length,H,I.tok _,⟨s.toks + 1,by rw [List.size_toArray,hlen]⟩,q⟩
theorem gD:cN X (.builtin "len") (fun xs H Q=>∃ z,xs=[.str z]∧z.length≤sizeLine∧Q (.int z.length) H):=by
 intro pins s σ H xs us Q I r h
 obtain ⟨z,rfl,hz,q⟩:=h
 obtain ⟨u,rfl,t,rfl⟩:=hX r
 have hn:=eW
 exact len_str (by lia) ⟨.int z.length,H,I.tok _,⟨_,rfl⟩,q⟩
theorem dA:cN X (.type "list") (fun xs H Q=>∃ p ys,xs=[.ref p]∧(SqL X.K H p ys∨SqT X.K H p ys)∧∀ l,H l=none→Q (.ref l) (upd H l (.lst ys))):=by
 intro pins s σ H xs us Q I r h
 obtain ⟨p,ys,rfl,hq,q⟩:=h
 obtain ⟨u,rfl,rx⟩:=hX r
 cases rx
 have fin:∀ (its:List Value),Vals ys its→ys.length≤sizeLine→∀ (h':Heap) (c':Nat),(∀ b o',s.heap.get? b=some o'→h'.get? b=some o')→
   h'.get? s.heap.objs.size=some { cls:=.type "list",dict:=none,data:=.seq its.toArray c',slots:=#[] }→EP X pins σ Q (.ref s.heap.objs.size) { s with heap:=h' }:=fun its r' hz h' c' kp e=>
  ⟨.ref s.heap.objs.size,_,I.laid (t':=s.toks) kp (Nat.le_refl _) (show ObjOk X.prog X.w _ h' _ (.lst ys) from ⟨hz,its,c',r',e⟩),rfl,q _ (I.hok.fresh (Nat.le_refl _))⟩
 rcases hq with hq | hq
 ·obtain ⟨its,r',pl,hz⟩:=I.list hq
  have hlen:=r'.length
  obtain ⟨o,ho,hc,n,hd⟩:=pl.isList
  exact call_list_seq p (.inl rfl) ho hc hd (fun h' c' kp e=>fin its r' hz h' c' kp e) (by simp only [List.size_toArray] <;> lia)
 ·obtain ⟨its,r',pl,hz⟩:=I.tuple hq
  have hlen:=r'.length
  obtain ⟨o,ho,hc,n,hd⟩:=pl
  exact call_list_seq p (.inr rfl) ho hc hd (fun h' c' kp e=>fin its r' hz h' c' kp e) (by simp only [List.size_toArray] <;> lia)
theorem cT:cN X (.type "tuple") (fun xs H Q=>∃ p ys,xs=[.ref p]∧((SqL X.K H p ys∧∀ l,H l=none→Q (.ref l) (upd H l (.tup ys)))∨(SqT X.K H p ys∧Q (.ref p) H))):=by
 intro pins s σ H xs us Q I r h
 obtain ⟨p,ys,rfl,h⟩:=h
 obtain ⟨u,rfl,rx⟩:=hX r
 cases rx
 rcases h with ⟨hq,q⟩ | ⟨hq,q⟩
 ·obtain ⟨its,r',pl,hz⟩:=I.list hq
  have hlen:=r'.length
  refine call_tuple_list pl.isList (fun h' kp=>?_) (by simp only [List.size_toArray] <;> lia)
  have I1:Inv X pins σ H { s with heap:=h' }:=I.kept (t':=s.toks) kp
  have I2:Inv X pins σ (upd H h'.objs.size (.tup ys)) { s with heap:=h'.push { cls:=.type "tuple",data:=.seq its.toArray } }:=
   I1.laid (t':=s.toks) (fun b o e=>Heap.get?_push_of_some _ e) (Nat.le_refl _) (show ObjOk X.prog X.w _ _ _ (.tup ys) from ⟨hz,its,r',IsTupN.new _ _⟩)
  exact ⟨.ref h'.objs.size,_,I2,rfl,q _ (I1.hok.fresh (Nat.le_refl _))⟩
 ·obtain ⟨its,r',pl,hz⟩:=I.tuple hq
  exact call_tuple_same pl ⟨.ref p,H,I,rfl,q⟩
def tyV (K:W.Frag) (T:String) (x:V) (H:Hp):Prop:=match x with
 | .str _=>T = "str"
 | .int _=>T = "int"
 | .ref p=>(T = "list"∧∃ xs,SqL K H p xs)∨(T = "tuple"∧∃ o,K.lookup p=some o∧o.cls=.type "tuple"∧o.dict=none)∨
   (T = "dict"∧((∃ kvs,H p=some (.dK kvs))∨∃ kvs,H p=some (.dT kvs)))∨(T = "set"∧∃ S n,H p=some (.set S n))
 | _=>False
theorem nq {pins:List (Addr×Obj)} {σ:St} {H:Hp} {s:Shared} {T:String} {x:V} {v:Value} (I:Inv X pins σ H s) (r:RelV x v) (ty:tyV X.K T x H) :
  s.TypeIs v T∧∀ a,v=.ref a→∃ ob,s.heap.get? a=some ob∧ob.dict=none:=by
 cases x with
 | str z=>
  obtain ⟨t,rfl⟩:=r
  cases (show T = "str" from ty)
  exact ⟨typeIs_str s z t,fun _ e=>nomatch e⟩
 | int i=>
  obtain ⟨t,rfl⟩:=r
  cases (show T = "int" from ty)
  exact ⟨typeIs_int s i t,fun _ e=>nomatch e⟩
 | ref p=>
  cases r
  rcases ty with ⟨rfl,xs,hq⟩ | ⟨rfl,o,hk,hc,hd⟩ | ⟨rfl,hk⟩ | ⟨rfl,S,n,hk⟩
  ·obtain ⟨its,_,pl,_⟩:=I.list hq
   refine ⟨pl.isList.typeIs,fun a e=>?_⟩
   cases e
   obtain ⟨o,n,e,c,hd,_⟩:=pl
   exact ⟨o,e,hd⟩
  ·refine ⟨⟨o,I.kIn p o hk,hc⟩,fun a e=>?_⟩
   cases e
   exact ⟨o,I.kIn _ o hk,hd⟩
  ·have z:∃ o,s.heap.get? p=some o∧o.ExactDict:=by
    rcases hk with ⟨kvs,hk⟩ | ⟨kvs,hk⟩
    ·obtain ⟨_,_,_,_,o,_,_,e,ex,_⟩:=I.hok p _ hk
     exact ⟨o,e,ex⟩
    ·obtain ⟨_,_,_,_,o,_,_,e,ex,_⟩:=I.hok p _ hk
     exact ⟨o,e,ex⟩
   obtain ⟨o,e,ex⟩:=z
   refine ⟨⟨o,e,ex.1⟩,fun a e2=>?_⟩
   cases e2
   exact ⟨o,e,ex.2.1⟩
  ·obtain ⟨o,_,_,_,e,ex,_⟩:=I.hok p _ hk
   refine ⟨⟨o,e,ex.1⟩,fun a e2=>?_⟩
   cases e2
   exact ⟨o,e,ex.2.1⟩
 | _=>exact False.elim ty
noncomputable def vL (K:W.Frag) (T:String) (r:V→List V→Hp→VK→Prop) (to:TE):TE:=fun σ H Q=>to σ H fun x H1=>tyV K T x H1∧r x [] H1 Q
noncomputable def tBM (K:W.Frag) (T:String) (r:V→List V→Hp→VK→Prop) (to:TE) (t:TA):TE:=fun σ H Q=>to σ H fun x H1=>tyV K T x H1∧t σ H1 fun xs H2=>r x xs H2 Q
variable {o e:Expr} {es:List Expr} {to:TE} {t:TA} {name:Str} {apos cpos:Pos} {T id:String} {r:V→List V→Hp→VK→Prop}
theorem qG (pa:PlainAttrs T) (slot:Slot T name id) (hty:typeOf (.builtin id)=pure (.type "method_descriptor")) (hm:MtR X id r) (ho:PE X o to)
  (hbase:attributeBase o name X.env (eval o X.env)=eval o X.env:=by rfl) (hline:(apos.endLine == cpos.line)=true:=by rfl):PE X (.Call (.Attribute o name apos) [] [] cpos) (vL X.K T r to):=by
 intro pins s σ H Q I h
 refine wpAny_Call_method0_late hbase hline (thn (ho pins s σ H _ I h) fun v s1 hqq=>?_)
 obtain ⟨x,H1,I1,r1,ty,q1⟩:=hqq
 obtain ⟨h1,h2⟩:=nq I1 r1 ty
 exact ⟨T,id,pa,slot,hty,h1,h2,Calls.callWith_builtin rfl (PySem.evalArgs_none (hm pins s1 σ H1 x [] v [] Q I1 r1 .nil q1))⟩
theorem tZ (pa:PlainAttrs T) (slot:Slot T name id) (hty:typeOf (.builtin id)=pure (.type "method_descriptor")) (hm:MtR X id r) (ho:PE X o to) (ha:PA X (e :: es) t)
  (hbase:attributeBase o name X.env (eval o X.env)=eval o X.env:=by rfl)
  (hfew:((backTo cpos (starEach (e :: es) X.env)).all (fun x=>!x.1) && (backToKw cpos (keywordEach [] X.env)).all (fun x=>x.1.isSome)
   && decide ((e :: es).length + ([]:List Keyword).length + (if ([]:List Keyword).isEmpty then 0 else 1) < 30))=true:=by rfl)
  (hline:(apos.endLine == cpos.line)=true:=by rfl) (hs:starEach (e :: es) X.env=(false,eval e X.env) :: starEach es X.env:=by rfl) (hplain:(backTo cpos (starEach es X.env)).any (·.1)=false:=by rfl) :
  PE X (.Call (.Attribute o name apos) (e :: es) [] cpos) (tBM X.K T r to t):=by
 intro pins s σ H Q I h
 refine wpAny_Call_method_late hbase hfew hline rfl (thn (ho pins s σ H _ I h) fun v s1 hqq=>?_)
 obtain ⟨x,H1,I1,r1,ty,q1⟩:=hqq
 obtain ⟨h1,h2⟩:=nq I1 r1 ty
 refine ⟨T,id,pa,slot,hty,h1,h2,?_⟩
 have hA:=ha cpos pins s1 σ H1 _ I1 q1
 rw [hs] at hA ⊢
 refine Calls.callWith_builtin (by show (false || (backTo cpos (starEach es X.env)).any (·.1))=false;rw [hplain] <;> rfl) (Calls.evalArgs_plain ?_)
 exact thn hA fun us s2 ⟨vs,H2,I2,r2,q2⟩=>hm pins s2 σ H2 x vs v us Q I2 r1 r2 q2
end
def MtM (X:Cx) (id:String) (r:V→List V→Hp→VK→Prop):Prop:=
 ∀ (pins:List (Addr×Obj)) (s:Shared) (σ:St) (H:Hp) (x:V) (xs:List V) (v:Value) (us:List Value) (Q:VK),Inv X pins σ H s→RelV x v→Vals xs us→r x xs H Q→
  wpAny (model X.prog X.w) X.A (call (.builtin id) (v :: us)) (EP X pins σ Q) X.xe s
theorem Vals.one:∀ {x:V} {us:List Value},Vals [x] us→∃ u,us=[u]∧RelV x u
 | _,_,.cons r .nil=>⟨_,rfl,r⟩
theorem Vals.zero:∀ {us:List Value},Vals [] us→us=[]
 | _,.nil=>rfl
theorem Vals.dropLast {xs:List V} {us:List Value} (h:Vals xs us):Vals xs.dropLast us.dropLast:=by
 induction h with
 | nil=>exact .nil
 | cons r t ih=>
  cases t with
  | nil=>exact .nil
  | cons q t'=>exact .cons r ih
theorem Vals.rep {xs:List V} {us:List Value} (h:Vals xs us):∀ k:Nat,Vals (List.replicate k xs).flatten (List.replicate k us).flatten
 | 0=>.nil
 | k + 1=>by
  rw [List.replicate_succ,List.replicate_succ,List.flatten_cons,List.flatten_cons]
  exact Vals.append h (Vals.rep h k)
theorem jt {α:Type} (l:List α):l.eraseIdx (l.length - 1)=l.dropLast:=by
 induction l with
 | nil=>rfl
 | cons a r ih=>
  cases r with
  | nil=>rfl
  | cons b r=>
   have e:(a :: b :: r).length - 1=((b :: r).length - 1) + 1:=by
    have h1:(a :: b :: r).length=r.length + 2:=rfl
    have h2:(b :: r).length=r.length + 1:=rfl
    lia
   rw [e,List.eraseIdx_cons_succ,ih]
   all_goals rfl
theorem dY (its:List Value):∀ (k:Nat) (acc:List Value),
  List.foldl (fun x1 x2=>x1++x2) acc.toArray (List.replicate k its.toArray)=(acc++(List.replicate k its).flatten).toArray
 | 0,acc=>by simp
 | k + 1,acc=>by
  have e:acc.toArray++its.toArray=(acc++its).toArray:=by simp
  have e2:(acc++its)++(List.replicate k its).flatten=acc++(List.replicate (k + 1) its).flatten:=by
   rw [List.replicate_succ,List.flatten_cons,List.append_assoc]
  rw [←e2,←dY its k (acc++its),←e,List.replicate_succ,List.foldl_cons]
section
variable {X:Cx} {pins:List (Addr×Obj)} {σ:St} {H:Hp} {s:Shared} {l b:Addr} {xs ys zs:List V}
theorem Inv.lset {its its':List Value} {n:Nat} {f:Array Value→Array Value} {t':Nat} (I:Inv X pins σ H s) (hH:H l=some (.lst xs))
  (e:s.heap.get? l=some { cls:=.type "list",data:=.seq its.toArray n }) (hf:f its.toArray=its'.toArray) (hv:Vals ys its') (hz:ys.length≤sizeLine) :
  Inv X pins σ (upd H l (.lst ys)) { s with heap:=s.heap.update l (Obj.mapSeq f),toks:=t' }:=by
 have q:=PySem.IsL.update e f
 rw [hf] at q
 refine I.write (x:=l) (e:=l) (by rw [hH];exact trivial) (.inl rfl) (fun b' u hb hu=>(Heap.get?_update_other s.heap (Obj.mapSeq f) (Ne.symm hb)).trans hu) ⟨_,q⟩ ?_
 exact ⟨hz,its',_,hv,q⟩
theorem Inv.lnew {its:List Value} {t':Nat} (I:Inv X pins σ H s) (hv:Vals ys its) (hz:ys.length≤sizeLine) :
  Inv X pins σ (upd H s.heap.objs.size (.lst ys)) { s with heap:=s.heap.push { cls:=.type "list",data:=.seq its.toArray },toks:=t' }:=
 I.laid (fun _ _ q=>Heap.get?_push_of_some _ q) (Nat.le_refl _) ⟨hz,its,0,hv,Heap.get?_push_size _ rfl⟩
theorem Inv.fresh (I:Inv X pins σ H s):H s.heap.objs.size=none:=I.hok.fresh (Nat.le_refl _)
theorem Inv.lstM (I:Inv X pins σ H s) (hH:H l=some (.lst xs)):xs.length≤sizeLine∧∃ (its:List Value) (n:Nat),Vals xs its∧xs.length=its.length∧s.heap.get? l=some { cls:=.type "list",data:=.seq its.toArray n }:=by
 obtain ⟨z,its,n,r,e⟩:=I.hok l _ hH
 exact ⟨z,its,n,r,r.length,e⟩
theorem ma {n:Nat} (h:n≤sizeLine):Builtin.List.listTooLong n=false:=by
 unfold Builtin.List.listTooLong
 exact decide_eq_false (by lia)
end
section
variable {X:Cx}
noncomputable def oJ:V→List V→Hp→VK→Prop:=fun x vs H Q=>∃ l xs y,x=.ref l∧vs=[y]∧H l=some (.lst xs)∧xs.length < sizeLine∧Q .non (upd H l (.lst (xs++[y])))
theorem dZ:MtM X "list.append" oJ:=by
 intro pins s σ H x vs v us Q I rx rv h
 obtain ⟨l,xs,y,rfl,rfl,hH,hz,q⟩:=h
 cases rx
 obtain ⟨u,rfl,ru⟩:=rv.one
 obtain ⟨z,its,n,r,hl,e⟩:=I.lstM hH
 refine call_meets F.slot_list_append ⟨_,e,rfl⟩ F.entry_list_append (F.args_list_append_2 _ _) (PySem.list_append l its.toArray n u (by rw [List.size_toArray];lia)) ⟨e,?_⟩
 refine ⟨.non,_,I.lset (its':=its++[u]) hH e (by simp) (r.append (.cons ru .nil)) ?_,rfl,q⟩
 rw [List.length_append,List.length_singleton]
 lia
noncomputable def vM:V→List V→Hp→VK→Prop:=fun x vs H Q=>∃ l xs y,x=.ref l∧vs=[]∧H l=some (.lst xs)∧xs[xs.length - 1]?=some y∧Q y (upd H l (.lst xs.dropLast))
theorem qH:MtM X "list.pop" vM:=by
 intro pins s σ H x vs v us Q I rx rv h
 obtain ⟨l,xs,y,rfl,rfl,hH,hy,q⟩:=h
 cases rx
 have hus:=rv.zero
 subst hus
 obtain ⟨z,its,n,r,hl,e⟩:=I.lstM hH
 obtain ⟨u,hu,ru⟩:=r.get hy
 have hy':its.toArray[its.toArray.size - 1]?=some u:=by
  show its.toArray[its.length - 1]?=some u
  rw [←Array.getElem?_toList,←hl]
  exact hu
 refine call_meets F.slot_list_pop ⟨_,e,rfl⟩ F.entry_list_pop (F.args_list_pop_1 _) (MeetsSeq.list_pop_last l its.toArray n u hy' (by rw [List.size_toArray];lia)) ⟨e,?_⟩
 refine ⟨y,_,I.lset (its':=its.dropLast) hH e ?_ r.dropLast ?_,ru,q⟩
 ·show its.toArray.eraseIdxIfInBounds (its.toArray.size - 1)=its.dropLast.toArray
  rw [List.size_toArray,List.eraseIdxIfInBounds_toArray,jt]
 ·rw [List.length_dropLast]
  lia
theorem cO {α:Type} (xs:List α) (k:Nat):(List.replicate k xs).flatten.length=k * xs.length:=by
 induction k with
 | zero=>simp
 | succ k ih=>rw [List.replicate_succ,List.flatten_cons,List.length_append,ih,Nat.succ_mul,Nat.add_comm]
end
section
variable {prog:Program} {w:World} {A:Around} {E:Value→Shared→Prop} {s:Shared}
end
section
variable {X:Cx}
end
end L2
namespace Att
open PySem PySem.W PySem.Calls PyProof.Rows
theorem d3 {P:Params} {h:Heap}:∀ (ns:List Int) (vs:List Value),WellAll P h vs (ns.map WData.int)→IntsAre vs ns:=by
 intro ns
 induction ns with
 | nil=>
  intro vs w
  rw [List.map_nil] at w
  cases w
  exact .nil
 | cons n ns ih=>
  intro vs w
  rw [List.map_cons] at w
  cases w with
  | cons a b=>
   cases a
   exact .cons _ _ (ih _ b)
theorem ke {l:OpenLaw} {n:Nat} (hn:l.most=some n) {P:Params} {h:Heap} {args:List WData} {vals:List Value}
  (hpre:l.row.toRowW.claim.pre args=true) (hwl:WellAll P h vals args) :
  ∃ a vs ns,vals=[Value.ref a]∧args=[WData.list (ns.map WData.int)]∧h.get? a=some { cls:=.type "list",data:=.seq vs.toArray }∧IntsAre vs ns∧ns.length≤n:=by
 have hsh:WShape.hasAll [] args [.list .int]=true:=(pre_splitW hpre).1
 have hc:l.pre.holds [] { args:=args }=true:=(pre_splitW hpre).2
 obtain ⟨d,r,rfl,h1,h2⟩:=hasAllW_cons hsh
 obtain rfl:=hasAllW_nil h2
 obtain ⟨xs,rfl,h3⟩:=hasW_list h1
 obtain ⟨ns,rfl⟩:=items_int h3
 have hlen:ns.length≤n:=by
  unfold OpenLaw.pre at hc
  have h4:(WTm.not (.lt (.lit (.int (n:Int))) (.len (.arg 0)))).holds [] { args:=[.list (ns.map .int)] }=true:=by
   have h4:=(holds_andW hc).1
   rw [hn] at h4
   exact h4
  have h5:=condW_of h4 (w_not (w_lt w_lit (w_len_list (w_arg rfl))))
  rw [List.length_map] at h5
  refine Nat.le_of_not_lt fun q=>?_
  have q':(n:Int) < ((ns.length:Nat):Int):=by lia
  first
   | (rw [decide_eq_true q'] at h5;exact absurd h5 (by decide))
   | (simp at h5;lia)
 cases hwl with
 | cons w1 w2=>
  cases w2
  cases w1 with
  | list ho hall=>exact ⟨_,_,ns,rfl,rfl,ho,d3 ns _ hall,hlen⟩
theorem kg (l:OpenLaw) (args:List WData):l.row.toRowW.claim.post args (.bool true) args=true:=
 postW_of (r:=l.row.toRowW) (X:=(true == true))
  (show WShape.has [] (.bool true) .bool=true by first | rfl | decide | simp [WShape.has,WShape.arms,WShape.armsAll])
  (show (WTm.eq .res (.lit (.bool true))).value [] { args:=args,res:=some (.bool true),after:=args }=some (.bool (true == true)) from w_eq_bool (w_res rfl) w_lit) rfl
theorem attach_call {l:OpenLaw} {n:Nat} {q:Program} {loose:List Str} {XP:(Str→Option Value)→Heap→Prop} {YP:World→Heap→Prop} {d:DefRec}
  (hn:l.most=some n) (hdf:d.params.defaults=[])
  (call:∀ (w:World) (s₀ s₁:Shared) (mg mb:Str→Option Value) (fa:Addr) (o:Obj) (pm cd doc:Value) (a:Addr) (vs:List Value) (ns:List Int),
   Ground q loose [] XP w s₀ mg mb s₁.heap→YP w s₁.heap→
   s₁.heap.get? fa=some o→o.data=.func (docDef d.name d.params d.body d.scope pm cd doc)→s₁.heap.CodeRec cd d.name→mg d.name=some (.ref fa)→
   s₁.heap.get? a=some { cls:=.type "list",data:=.seq vs.toArray }→IntsAre vs ns→ns.length≤n→s₁.gens = #[]→
   codeAny (model l.prog w) callerA (.call (.ref fa) ⟨[.ref a],[]⟩) (fun r s'=>r=.ok (.ret (.bool true))∧OldK s₁.heap s'.heap∧s'.os=s₁.os∧AllBare s'.gens) s₁) :
  WalkO q loose XP YP l.row.toRowW d [] (fun f vs=>PySem.call f vs):=by
 intro w s₀ s₁ mg mb G Y fa o pm cd doc dV kV ho hd hcd hD hmg hg args vals as hpre hlay hrd hwl hlo
 obtain rfl:dV=.none:=Dflts.none hD hdf
 obtain rfl:kV=.none:=Dflts.noKw hD
 obtain ⟨a,vs,ns,rfl,rfl,hobj,hints,hlen⟩:=ke hn hpre hwl
 refine enter_call (codeAny_mono (call w s₀ s₁ mg mb fa o pm cd doc a vs ns G Y ho (fd_plain hd) hcd hmg hobj hints hlen hg) fun r s' hq=>?_)
 obtain ⟨rfl,h2,h3,h4⟩:=hq
 exact ⟨.inl ⟨.bool true,.bool true,[],rfl,fun _=>rfl,.bool true,kg l _,fun _=>⟨List.Pairwise.nil,fun _ hm=>(nomatch hm)⟩⟩,h2,h3,h4⟩
section
variable {prog:Program} {w:World} {A:Around} {E:Value→Shared→Prop} {s:Shared} {K:Frag}
end
end Att
namespace L2
open PySem PySem.Spec PyProof.Rows
theorem gE:∀ {vs:List Value} {ns:List Int},IntsAre vs ns→Vals (ns.map V.int) vs
 | _,_,.nil=>.nil
 | _,_,.cons n t h=>.cons ⟨t,rfl⟩ (gE h)
def t4 (H:Hp):Prop:=∀ b,H b=none∨∃ o xs,H b=some (.frz o (.lst xs))
theorem me {P:Program} {w:World} {K:W.Frag} {mg mb:Str→Option Value} {CX:CXT} {k:Nat} {fa a:Addr} {fd:FuncData} {x:Str} {sp:Sp} {s₁:Shared} {vs:List Value} {ns:List Int}
  (KX:K.In s₁.heap) (hns:s₁.heap.Ns mainGlobals mg) (hb:s₁.heap.Ns builtinsNs mb) (hbb:∀ x:Str,x≠"__name__"→mb x=bootBuiltins x) (hlim:s₁.heap.NoLimit) (hg:s₁.gens = #[])
  (ha:s₁.heap.get? a=some { cls:=.type "list",data:=.seq vs.toArray }) (hi:IntsAre vs ns) (hl:ns.length≤sizeLine) (hr:Room k callerA)
  (F:∀ base:Heap,K.In base→base.Ns mainGlobals mg→FnOk P w K mg base CX k fa fd [x] sp) (hbind:∀ (s:Shared) (u:Value),BindsTo s fd ⟨[u],[]⟩ [(x,u)])
  (hsp:∀ H:Hp,t4 H→SqL K H a (ns.map V.int)→sp [.ref a] H (fun v _=>v=.bl true) fun _ _ _=>False)
  (hCX:∀ H e s',CX [] H s₁ (fun _ _ _=>False) e s'→False) :
  codeAny (model P w) callerA (.call (.ref fa) ⟨[.ref a],[]⟩) (fun r s'=>r=.ok (.ret (.bool true))∧OldK s₁.heap s'.heap∧s'.os=s₁.os∧AllBare s'.gens) s₁:=by
 have rv:=gE hi
 have lenV:=hi.length
 have core:∀ H:Hp,t4 H→SqL K H a (ns.map V.int)→HOk P w H s₁.heap→(∀ b,H b≠none→b=a)→(H a≠none→K.lookup a=none)→
   codeAny (model P w) callerA (.call (.ref fa) ⟨[.ref a],[]⟩) (fun r s'=>r=.ok (.ret (.bool true))∧OldK s₁.heap s'.heap∧s'.os=s₁.os∧AllBare s'.gens) s₁:=by
  intro H hO hS hok hA hK
  have base_of:∀ {b:Addr} {o:Obj},s₁.heap.get? b=some o→H b=none→(lQ s₁.heap H).get? b=some o:=fun e n=>lR e n
  have noA:∀ {b:Addr} {o:Obj} {es:Array DictEntry} {ep:Nat},s₁.heap.get? b=some o→o.data=.dict es ep→H b=none:=fun {b o es ep} e d=>by
   cases q:H b with
   | none=>rfl
   | some u=>
    have e':b=a:=hA b (by rw [q];simp)
    subst e'
    rw [ha] at e;cases e
    have d':Data.seq vs.toArray _=Data.dict es ep:=d
    cases d'
  have nsK:∀ {b:Addr} {m:Str→Option Value},s₁.heap.Ns b m→(lQ s₁.heap H).Ns b m:=fun {b m} ⟨o,es,ep,e,d,r⟩=>⟨o,es,ep,base_of e (noA e d),d,r⟩
  have hKb:K.In (lQ s₁.heap H):=fun b o e=>base_of (KX b o e) (by
   cases q:H b with
   | none=>rfl
   | some u=>
    have e':b=a:=hA b (by rw [q];simp)
    subst e'
    rw [hK (by rw [q];simp)] at e;cases e)
  have hM:Mod K mg (lQ s₁.heap H):=⟨hKb,nsK hns,⟨mb,nsK hb,hbb⟩,let ⟨mc,h1,h2⟩:=hlim;⟨mc,nsK h1,h2⟩⟩
  have e0:Env0 P w K mg (lQ s₁.heap H) callerA [] s₁ H:=⟨rfl,hM,fun b o e=>n0 e,Nat.le_of_eq (jU _ _),trivial,fun b hb=>absurd (show b∈([]:List Addr) from hb) (by simp),hok,.of_eq hg⟩
  refine codeAny_mono ((F _ hKb (nsK hns)).run callerA [] s₁ H ⟨[.ref a],[]⟩ [.ref a] [.ref a] _ _ hr e0 (hbind s₁ (.ref a)) (.cons rfl .nil) (hsp H hO hS)) fun r s' h=>?_
  cases r with
  | error e=>exact (hCX H e s' h).elim
  | ok fl=>
   cases fl with
   | next=>exact False.elim h
   | brk=>exact False.elim h
   | cont=>exact False.elim h
   | ret u=>
    obtain ⟨v,H',os,bare,un,hok',r',q⟩:=h
    have q':v=.bl true:=q
    subst q'
    obtain rfl:u=Value.bool true:=r'
    refine ⟨rfl,OldK.of_keep fun b o e=>?_,os,bare⟩
    cases q:H b with
    | none=>exact un.keep b o e q (by intro z;exact absurd (show b∈([]:List Addr) from z) (by simp)) (by simp)
    | some u=>
     rcases hO b with z | ⟨ob,xs,z⟩
     ·rw [q] at z;cases z
     ·have z2:=un.frzs b ob _ z
      obtain ⟨e1,_⟩:=hok b _ z
      obtain ⟨e2,_⟩:=hok' b _ z2
      rw [e] at e1;cases e1
      exact e2
 cases hk:K.lookup a with
 | some o=>
  have e:=KX a o hk
  rw [ha] at e
  cases e
  refine core (fun _=>none) (fun _=>.inl rfl) (.inr ⟨_,vs.toArray,_,hk,rfl,rfl,rfl,by rw [List.size_toArray,lenV];exact hl,by simpa using rv⟩) (fun b u z=>by have z':(none:Option HO)=some u:=z;cases z') (fun b z=>absurd rfl z) fun z=>absurd rfl z
 | none=>
  refine core (fun b=>if b=a then some (.frz { cls:=.type "list",data:=.seq vs.toArray } (.lst (ns.map V.int))) else none) (fun b=>?_) (.inl (.inr ⟨{ cls:=.type "list",data:=.seq vs.toArray },if_pos rfl⟩)) (fun b u z=>?_) (fun b z=>?_) fun _=>hk
  ·by_cases hb:b=a
   ·exact .inr ⟨_,_,if_pos hb⟩
   ·exact .inl (if_neg hb)
  ·by_cases hb:b=a
   ·have z':=(if_pos hb).symm.trans z
    cases z'
    subst hb
    exact ⟨ha,by rw [List.length_map];exact hl,vs,_,rv,ha⟩
   ·have z':=(if_neg hb).symm.trans z
    cases z'
  ·by_cases hb:b=a
   ·exact hb
   ·exact absurd (if_neg hb) z
theorem oK {l:PySem.W.OpenLaw} {n k:Nat} {q:Program} {loose:List Str} {XP:(Str→Option Value)→Heap→Prop} {YP:World→Heap→Prop} {d:DefRec} {K:Params→W.Frag} {CX:World→CXT} {sp:World→Sp} {x:Str}
  (hn:l.most=some n) (hn2:n≤sizeLine) (hdf:d.params.defaults=[]) (hr:Room k callerA)
  (hY:∀ (w:World) (h:Heap),YP w h→(K w.params).In h)
  (F:∀ (w:World) (mg:Str→Option Value) (fa:Addr) (h:Heap),(K w.params).In h→h.Ns mainGlobals mg→mg d.name=some (.ref fa)→
   ∃ fd:FuncData,(∀ (s:Shared) (u:Value),BindsTo s fd ⟨[u],[]⟩ [(x,u)])∧
    ∀ base:Heap,(K w.params).In base→base.Ns mainGlobals mg→FnOk l.prog w (K w.params) mg base (CX w) k fa fd [x] (sp w))
  (hsp:∀ (w:World) (H:Hp) (a:Addr) (ns:List Int),ns.length≤n→t4 H→SqL (K w.params) H a (ns.map V.int)→sp w [.ref a] H (fun v _=>v=.bl true) fun _ _ _=>False)
  (hCX:∀ (w:World) (H:Hp) (s:Shared) (e:Value) (s':Shared),CX w [] H s (fun _ _ _=>False) e s'→False) :
  PySem.W.WalkO q loose XP YP l.row.toRowW d [] (fun f vs=>PySem.call f vs):=by
 refine Att.attach_call hn hdf fun w s₀ s₁ mg mb fa o pm cd doc a vs ns G Y ho hd hcd hmg hobj hints hlen hg=>?_
 have KX:=hY w _ Y
 obtain ⟨fd,hb,hF⟩:=F w mg fa _ KX G.T.g hmg
 exact me KX G.T.g G.T.b G.T.builtins G.T.nolimit hg hobj hints (Nat.le_trans hlen hn2) hr hF hb (fun H hO hS=>hsp w H a ns hlen hO hS) fun H e s'=>hCX w H s₁ e s'
noncomputable def bU (s:Stmt):Arguments:=match s with
 | .FunctionDef _ a _ _ _ _ _ _ _ _=>a
 | _=>{ posonlyargs:=[],args:=[],vararg:=none,kwonlyargs:=[],kw_defaults:=[],kwarg:=none,defaults:=[] }
noncomputable def bj (s:Stmt):List Stmt:=match s with
 | .FunctionDef _ _ b _ _ _ _ _ _ _=>b
 | _=>[]
noncomputable def defScope (s:Stmt):Scope:=match s with
 | .FunctionDef _ _ _ _ _ _ sc _ _ _=>sc
 | _=>{ kind:=.function,names:=[],isGenerator:=false,isCoroutine:=false }
abbrev CX0:CXT:=fun _ _ _ _ _ _=>False
abbrev E0:XK:=fun _ _ _=>False
theorem t5 {X:Cx}:j6 CX0 X E0:=fun _ _ _ _ _ _ _ h=>h.elim
structure Fun (K:W.Frag) (x qual:Str) (st:Stmt) (f:Addr) (fd:FuncData):Prop where
 ex:∃ (oc:Value) (od:Option Addr) (kV doc pm:Value) (an:Option Addr) (cdv ct:Value) (osl:Array (Option Value)),
  fd=PySem.W.fnOf x qual (bU st) (bj st) (defScope st) .none kV doc pm an cdv ct∧K.lookup f=some ⟨oc,od,.func fd,osl⟩∧PySem.W.codeIn K cdv qual=true
 kp:PySem.W.keepIn K (.ref f)=true
section
variable {P:Program} {w:World} {K:W.Frag} {mg:Str→Option Value} {base:Heap}
theorem Fun.ok {x qual:Str} {st:Stmt} {f:Addr} {fd:FuncData} {N ps:List Str} {k:Nat} {sp:Sp} (F:Fun K x qual st f fd) (S:FnScope N ps (defScope st)) (len:∀ vs H Q E,sp vs H Q E→vs.length=ps.length)
  (hbody:∀ (cdv:Value) (A:Around) (outer:List Env) (s:Shared) (H:Hp) (vs:List V) (Q:VK) (E:XK),Room k (A.deeper (envOfC qual (defScope st) s.heap.objs.size f cdv))→sp vs H Q E→
   ∃ t,PSs (lZ CX0 P w K mg base N qual (defScope st) f cdv A outer s H E).nox (bj st) t∧t { nx:=fun _ H'=>Q .non H',rt:=Q } (dW N vs) H):FnOk P w K mg base CX0 (k + 1) f fd ps sp:=by
 obtain ⟨oc,od,kV,doc,pm,an,cdv,ct,osl,rfl,lk,hcd⟩:=F.ex
 refine tV lk hcd S len fun A outer s H vs Q E hr hsp=>?_
 obtain ⟨t,h,q⟩:=hbody cdv A outer s H vs Q E hr hsp
 exact ⟨t,h.nox,q⟩
theorem Fun.binds {x qual:Str} {st:Stmt} {f:Addr} {fd:FuncData} {ps:List Str} (F:Fun K x qual st f fd)
  (h:∀ (kV doc pm:Value) (an:Option Addr) (cdv ct:Value) (us:List Value),us.length=ps.length→bindArgs (PySem.W.fnOf x qual (bU st) (bj st) (defScope st) .none kV doc pm an cdv ct) ⟨us,[]⟩=pure (ps.zip us)):Binds K fd ps []:=by
 obtain ⟨oc,od,kV,doc,pm,an,cdv,ct,osl,rfl,lk,hcd⟩:=F.ex
 exact .all (h kV doc pm an cdv ct)
theorem nr {x qual:Str} {st:Stmt} {f:Addr} {oc:Value} {od an:Option Addr} {osl:Array (Option Value)} {kV doc pm cdv ct:Value} (l:K.lookup f=some ⟨oc,od,.func (PySem.W.fnOf x qual (bU st) (bj st) (defScope st) .none kV doc pm an cdv ct),osl⟩)
  (c:PySem.W.codeIn K cdv qual=true) (k:PySem.W.keepIn K (.ref f)=true):Fun K x qual st f (PySem.W.fnOf x qual (bU st) (bj st) (defScope st) .none kV doc pm an cdv ct):=⟨⟨oc,od,kV,doc,pm,an,cdv,ct,osl,rfl,l,c⟩,k⟩
end
section
variable {X:Cx}
theorem pv (i:Nat) {x:Str} {pos:Pos} (hN:X.N[i]?=some x:=by rfl) (hv:Vis X.env.scope x:=by first | exact Or.inl rfl | exact Or.inr (Or.inl rfl) | exact Or.inr (Or.inr rfl)) (hd:(x == ("__debug__" : Str))=false:=by decide)
  (hcd:(x == ("__classdict__" : Str))=false:=by decide):PE X (.Name x pos) (lS i):=qa hN hv hd hcd
end
theorem iteF {A B:Prop} (h:B):if false=true then A else B:=by
 rw [if_neg Bool.false_ne_true]
 exact h
theorem qI {A B:Prop} (h:A):if true=true then A else B:=by
 rw [if_pos rfl]
 exact h
def Same (H H':Hp):Prop:=∀ b o,H b=some o→H' b=some o
theorem Same.refl (H:Hp):Same H H:=fun _ _ h=>h
theorem Same.trans {H H1 H2:Hp} (a:Same H H1) (b:Same H1 H2):Same H H2:=fun c o h=>b c o (a c o h)
theorem Same.free {H H':Hp} (e:Same H H') {l:Addr} (h:H' l=Option.none):H l=Option.none:=by
 cases q:H l with
 | none=>rfl
 | some o=>
  rw [e l o q] at h
  cases h
theorem Same.seq {K:W.Frag} {H H':Hp} {a:Addr} {xs:List V} (e:Same H H') (h:SqL K H a xs):SqL K H' a xs:=by
 rcases h with (h | ⟨o,h⟩) | h
 ·exact .inl (.inl (e _ _ h))
 ·exact .inl (.inr ⟨o,e _ _ h⟩)
 ·exact .inr h
end L2
set_option maxHeartbeats 4000000
namespace NX
open PySem PySem.Spec PyProof.Rows L2
section
variable {X:Cx}
theorem mf (v:Int) (n:Nat):max (0:Int) (min (if v < 0 then v + (n:Int) else v) (n:Int))=((HT.sIx n 0 (some v):Nat):Int):=by
 show _=(((if v < 0 then (v + (n:Int)).toNat else min v.toNat n):Nat):Int)
 split <;> lia
theorem qJ (a b:Nat):sliceRange (a:Int) (b:Int) 1=(List.range (b - a)).map (fun k=>a + k):=by
 unfold sliceRange
 rw [if_pos (by decide:(1:Int) > 0)]
 by_cases hlt:(a:Int) < b
 ·have e3:(((b:Int) - a + 1 - 1) / 1).toNat=b - a:=by first | lia | (simp;done) | (simp;lia)
  simp only [hlt,if_true,e3]
  refine List.map_congr_left fun k _=>?_
  lia
 ·have:b - a=0:=by lia
  simp [hlt,this]
theorem vN (lo hi:Option Int) (n:Nat):Builtin.Str.strSliceIndices lo hi 1 n=(List.range (HT.sIx n n hi - HT.sIx n 0 lo)).map (fun k=>HT.sIx n 0 lo + k):=by
 rw [←qJ]
 unfold Builtin.Str.strSliceIndices
 simp only [show (1:Int) > 0 from by decide,if_true]
 cases lo with
 | none=>
  cases hi with
  | none=>rfl
  | some v=>exact congrArg (fun z=>sliceRange 0 z 1) (mf v n)
 | some u=>
  cases hi with
  | none=>exact congrArg (fun z=>sliceRange z (n:Int) 1) (mf u n)
  | some v=>exact (congrArg (fun z=>sliceRange z _ 1) (mf u n)).trans (congrArg (fun z=>sliceRange _ z 1) (mf v n))
noncomputable def qK (xs:List Nat) (lo hi:Option Int):List Nat:=(xs.drop (HT.sIx xs.length 0 lo)).take (HT.sIx xs.length xs.length hi - HT.sIx xs.length 0 lo)
theorem nt {α:Type} (l:List α):∀ (n a:Nat),a + n≤l.length→((List.range n).map (fun k=>a + k)).filterMap (l[·]?)=(l.drop a).take n
 | 0,_,_=>by simp
 | n + 1,a,h=>by
  have hlt:a + n < l.length:=by lia
  rw [List.range_succ,List.map_append,List.filterMap_append,nt l n a (by lia),List.take_add_one,List.getElem?_drop]
  simp [List.getElem?_eq_getElem hlt]
theorem kh (x:Str) (lo hi:Option Int):(Txt.slice x lo hi).cps.toList=qK x.cps.toList lo hi:=by
 have hl:x.cps.toList.length=x.length:=Array.length_toList
 have ha:=HT.j9 x.length 0 (Nat.zero_le _) lo
 have hb:=HT.j9 x.length x.length (Nat.le_refl _) hi
 unfold Txt.slice qK
 rw [vN,hl]
 split
 ·rename_i h
  have h2:HT.sIx x.length x.length hi - HT.sIx x.length 0 lo=x.length:=by simpa using h
  have ez:HT.sIx x.length 0 lo=0∨x.length=0:=by lia
  rcases ez with e | e
  ·rw [h2,e,List.drop_zero,List.take_of_length_le (by lia)]
  ·have:x.cps.toList=[]:=List.eq_nil_of_length_eq_zero (by lia)
   rw [this]
   simp
 ·have hk:∀ (f:List Nat),f.filterMap (x.cps[·]?)=f.filterMap (x.cps.toList[·]?):=fun f=>by
   congr 1
   funext i
   simp
  show (List.filterMap _ _).toArray.toList=_
  rw [List.toList_toArray,hk]
  by_cases hle:HT.sIx x.length 0 lo≤HT.sIx x.length x.length hi
  ·rw [nt _ _ _ (by lia)]
  ·have e0:HT.sIx x.length x.length hi - HT.sIx x.length 0 lo=0:=by lia
   rw [e0]
   rfl
abbrev S (l:List Nat):Str:=⟨l.toArray⟩
theorem ju (x:Str):S x.cps.toList=x:=by cases x;simp [S]
theorem oM {a b:List Nat} (h:S a=S b):a=b:=by
 have:=congrArg (fun z:Str=>z.cps.toList) h
 simpa [S] using this
theorem gF (l:List Nat):(S l).length=l.length:=by simp [S,Str.length]
theorem cU (l:List Nat):(S l).cps.toList=l:=by simp [S]
theorem t6 (a b:List Nat):S a++S b=S (a++b):=by
 rw [←ju (S a++S b),PySem.W.KT.app_list,cU,cU]
noncomputable def vO:V→Option Int→Option Int→Hp→VK→Prop:=fun x lo hi H Q=>∃ l,x=.str (S l)∧l.length≤sizeLine∧Q (.str (S (qK l lo hi))) H
theorem qL:SlR X vO:=by
 intro pins s σ H x v vl vu lo hi sl Q I rx hs pl pu h
 obtain ⟨l,rfl,hz,q⟩:=h
 obtain ⟨t,rfl⟩:=rx
 have hz':(S l).length≤sizeLine:=by rw [gF];exact hz
 have e:∀ t' k,EP X pins σ Q (.str (Txt.slice (S l) lo hi) t') { s with toks:=k }:=fun t' k=>by
  refine ⟨.str (S (qK l lo hi)),H,I.tok _,⟨t',?_⟩,q⟩
  have e1:=kh (S l) lo hi
  rw [cU] at e1
  rw [←e1,ju]
 refine ⟨"str",_,PySem.F.slot_str_getitem.lookup,typeIs_str _ _ _,?_⟩
 have key:∀ (pl' pu':Option (Int×Tok)),partValue pl'=vl→partValue pu'=vu→pl'.map (·.1)=lo→pu'.map (·.1)=hi→
   wpAny (model X.prog X.w) X.A (getItem (.str (S l) t) (.ref sl)) (EP X pins σ Q) X.xe s:=by
  rintro pl' pu' rfl rfl rfl rfl
  exact wpAny_getItem_str_slice (l:=pl') (u:=pu') (st:=none) hs rfl (post_val_or_str ⟨Nat.le_trans (Txt.slice_le (S l) _ _) hz',fun t' k=>e t' k⟩)
 cases pl with
 | none=>
  cases pu with
  | none=>exact key none none rfl rfl rfl rfl
  | int j uj=>exact key none (some (j,uj)) rfl rfl rfl rfl
 | int i ui=>
  cases pu with
  | none=>exact key (some (i,ui)) none rfl rfl rfl rfl
  | int j uj=>exact key (some (i,ui)) (some (j,uj)) rfl rfl rfl rfl
end
def Def (K:W.Frag) (mg:Str→Option Value) (x:Str) (st:Stmt):Prop:=∃ f fd,Fun K x x st f fd∧mg x=some (.ref f)
def Ct (P:Program) (w:World) (K:W.Frag) (mg:Str→Option Value) (base:Heap) (x:Str) (k:Nat) (sp:Sp):Prop:=
 ∃ f fd ps,FnOk P w K mg base CX0 k f fd ps sp∧mg x=some (.ref f)∧PySem.W.keepIn K (.ref f)=true∧Binds K fd ps []
theorem Ct.mono {P:Program} {w:World} {K:W.Frag} {mg:Str→Option Value} {base:Heap} {x:Str} {j k:Nat} {sp:Sp} (h:Ct P w K mg base x j sp) (l:j≤k):Ct P w K mg base x k sp:=by
 obtain ⟨f,fd,ps,G,m,kp,b⟩:=h
 exact ⟨f,fd,ps,G.mono l,m,kp,b⟩
section
variable {X:Cx} {e:Expr} {es:List Expr} {t:TA} {x:Str} {p pos:Pos} {k:Nat} {sp:Sp}
theorem qM (C:Ct X.prog X.w X.K X.mg X.base x k sp) (hr:Room k X.A) (hg:Gl X x) (ha:PA X (e :: es) t) (hdb:(x == ("__debug__" : Str))=false:=by decide)
  (he:starEach (e :: es) X.env=(false,eval e X.env) :: starEach es X.env:=by rfl) (hpl:(backTo pos (starEach es X.env)).any (·.1)=false:=by rfl) :
  PE X (.Call (.Name x p) (e :: es) [] pos) (tCall sp [] E0 t):=by
 obtain ⟨f,fd,ps,G,m,kp,b⟩:=C
 exact oz G hr hg m kp b .nil t5 ha hdb he hpl
end
theorem bt_len:bootBuiltins "len" = some (.builtin "len"):=by decide +kernel
theorem fD:bootBuiltins "isinstance" = some (.builtin "isinstance"):=by decide +kernel
theorem ki:bootBuiltins "list" = some (.type "list"):=by decide +kernel
theorem qN:bootBuiltins "int" = some (.type "int"):=by decide +kernel
theorem dM:bootBuiltins "tuple" = some (.type "tuple"):=by decide +kernel
theorem oN:bootBuiltins "bool" = some (.type "bool"):=by decide +kernel
theorem line_eq:sizeLine=16777216:=sizeLine_eq
theorem flat_strs (a:List (List Nat)):(a.map fun l=>V.str (S l)).all l9=true:=by
 rw [List.all_eq_true]
 intro v hv
 obtain ⟨l,_,rfl⟩:=List.mem_map.mp hv
 rfl
section
variable {X:Cx} {e:Expr} {st:Stmt}
end
noncomputable def clOf (scope:Scope) (env:Env):List (Str×Addr):=scope.names.foldl (fun cs y=>if y.2 == NameKind.free then (y.1,(env.cells.lookup y.1).getD 0) :: cs else cs) []
noncomputable def bB (scope:Scope) (env:Env):Bool:=scope.names.all fun y=>y.2 != NameKind.free || env.kindOf y.1 == some .cell || env.kindOf y.1 == some .free
theorem bL (env:Env):∀ (l:List (Str×NameKind)) (cs:List (Str×Addr)),(∀ y∈l,y.2=.free→∃ c,env.cells.lookup y.1=some c)→
  (forIn l cs fun (y:Str×NameKind) (r:List (Str×Addr))=>(do
   if y.2 == NameKind.free then
    let a ←cellOf env y.1
    pure (ForInStep.yield ((y.1,a) :: r))
   else pure (ForInStep.yield r):Sem (ForInStep (List (Str×Addr)))))=pure (l.foldl (fun cs y=>if y.2 == NameKind.free then (y.1,(env.cells.lookup y.1).getD 0) :: cs else cs) cs)
 | [],cs,_=>by simp
 | y :: l,cs,h=>by
  rw [List.forIn_cons,List.foldl_cons]
  by_cases k:y.2=.free
  ·obtain ⟨c,e⟩:=h y List.mem_cons_self k
   have e2:cellOf env y.1=pure c:=by unfold cellOf;rw [e]
   simp only [k,beq_self_eq_true,if_true,e2,e,Option.getD_some,pure_bind]
   exact bL env l _ fun z hz=>h z (List.mem_cons_of_mem _ hz)
  ·have kb:(y.2 == NameKind.free)=false:=by simpa using k
   simp only [kb,Bool.false_eq_true,if_false,pure_bind]
   exact bL env l _ fun z hz=>h z (List.mem_cons_of_mem _ hz)
theorem cG (env:Env) (x:Str) (c:Addr):∀ (l:List (Str×NameKind)) (cs:List (Str×Addr)),(∀ y∈l,y.2=.free→∃ c,env.cells.lookup y.1=some c)→(cs.lookup x=some c→env.cells.lookup x=some c)→
  (l.foldl (fun cs y=>if y.2 == NameKind.free then (y.1,(env.cells.lookup y.1).getD 0) :: cs else cs) cs).lookup x=some c→env.cells.lookup x=some c
 | [],_,_,h,e=>h e
 | y :: l,cs,hf,h,e=>by
  rw [List.foldl_cons] at e
  refine cG env x c l _ (fun z hz=>hf z (List.mem_cons_of_mem _ hz)) (fun q=>?_) e
  split at q
  ·rename_i k
   have k:y.2=.free:=by simpa using k
   obtain ⟨d,ed⟩:=hf y List.mem_cons_self k
   rw [List.lookup_cons] at q
   cases hx:x == y.1 with
   | true=>
    rw [hx] at q
    have exy:x=y.1:=by simpa using hx
    rw [ed,Option.getD_some] at q
    rw [exy,ed]
    exact q
   | false=>
    rw [hx] at q
    exact h q
  ·exact h q
theorem d5 (env:Env) (x:Str):∀ (l:List (Str×NameKind)) (cs:List (Str×Addr)),((∃ d,cs.lookup x=some d)∨(x,NameKind.free)∈l)→
  ∃ d,(l.foldl (fun cs y=>if y.2 == NameKind.free then (y.1,(env.cells.lookup y.1).getD 0) :: cs else cs) cs).lookup x=some d
 | [],_,h=>by
  rcases h with h | h
  ·exact h
  ·cases h
 | y :: l,cs,h=>by
  rw [List.foldl_cons]
  refine d5 env x l _ ?_
  rcases h with ⟨d,h⟩ | h
  ·refine .inl ?_
   split
   ·rw [List.lookup_cons]
    cases hx:x == y.1 with
    | true=>exact ⟨_,rfl⟩
    | false=>exact ⟨d,h⟩
   ·exact ⟨d,h⟩
  ·rcases List.mem_cons.mp h with h | h
   ·refine .inl ?_
    rw [←h]
    refine ⟨(env.cells.lookup x).getD 0,?_⟩
    show List.lookup x ((x,_) :: cs)=_
    rw [List.lookup_cons,beq_self_eq_true]
   ·exact .inr h
noncomputable def ax (X:Cx) (scope:Scope) (N:List Str) (C:Addr) (s:Shared) (H:Hp) (fp:List Addr) (pn:List (Addr×Obj)):Cx:=
 { X with N:=N,s₀:=s,H₀:=H,env:=compEnvC scope (clOf scope X.env) C X.env,outer:=X.stack,ex:=fp,fn:=fun _=>false,pn:=pn,xe:=fun _ _=>False }
noncomputable def cj (ix:List (Option Nat)) (σ:L2.St):L2.St:=ix.map fun i=>i.bind fun i=>(σ[i]?).bind id
noncomputable def kj (wi:TI) (ix:List (Option Nat)) (g:TG) (tc:TT) (te:TE):TE:=fun σ H Q=>wi σ H fun J H1=>∀ D,H1 D=none→∃ W:Nat→Nat→L2.St→Hp→Prop,(∃ m,W 0 m (cj ix σ) (upd H1 D (.lst [])))∧
 ∀ i m σ1 H2,W i m σ1 H2→(J.stop i H2∧Q (.ref D) H2)∨(J.go i H2∧∀ x H3,J.yld i H2 x H3→g x σ1 H3 fun σ2 H4=>tc σ2 H4 fun b H5=>if b=true then te σ2 H5 fun v H6=>
  ∃ ys,H6 D=some (.lst ys)∧ys.length < sizeLine∧∃ m',m' < m∧W (i + 1) m' σ2 (upd H6 D (.lst (ys++[v]))) else ∃ m',m' < m∧W (i + 1) m' σ2 H5)
abbrev NoX:Value→Shared→Prop:=fun _ _=>False
theorem noX {α:Type} {M:Model} {A:Around} {t:Sem α} {Q Q':α→Shared→Prop} {E:Value→Shared→Prop} {s:Shared} (h:wpAny M A t Q NoX s) (k:∀ a s,Q a s→Q' a s):wpAny M A t Q' E s:=wpAny_mono h k fun _ _ z=>z.elim
theorem gG {prog:Program} {w:World} {A:Around} {R:Result→Shared→Prop} {s:Shared} {elt target iter:Expr} {ifs:List Expr} {scope:Scope} {pos:Pos} {it acc:Value} {env:Env} (I:Nat→Shared→Prop)
  (turn:∀ n s,I n s→wpAny (model prog w) A (pyNext it) (fun r s₁=>match r with
   | none=>R (.ok .next) s₁
   | some v=>wpAny (model prog w) A (letOwnedTupleGo target it v) (fun _ s₂=>wpAny (model prog w) A (assign target env v) (fun _ s₃=>
     wpAny (model prog w) A (forIn ifs true fun c r=>if r=true then do let ok ←isTrue c env (eval c env);pure (ForInStep.yield ok) else pure (ForInStep.yield r)) (fun ok s₄=>
      if ok=true then wpAny (model prog w) A (eval elt env) (fun x s₅=>
       wpAny (model prog w) A (call (.builtin "list.append") [acc,x]) (fun _ s₆=>∃ m,m < n∧I m s₆) NoX s₅) NoX s₄
      else ∃ m,m < n∧I m s₄) NoX s₃) NoX s₂) NoX s₁) NoX s)
  (n:Nat) (h:I n s):codeAny (model prog w) A (.compLoop (.ListComp elt [⟨target,iter,ifs,0⟩] scope pos) 0 it acc env) R s:=by
 refine codeAny_loop rfl I (fun n s hI=>?_) n h
 show wpAny _ A ((compTurn (.ListComp elt [⟨target,iter,ifs,0⟩] scope pos) 0 it acc env).onRaise (fun x=>do noteFrame x env;theTreesLotGoes x)) _ _ s
 refine wpAny_noted ?_
 rw [compTurn_list]
 refine wpAny_bind (wpAny_standAt (wpAny_bind (noX (turn n s hI) fun r s₁ h₁=>?_)))
 cases r with
 | none=>exact wpAny_pure h₁
 | some v=>
  refine wpAny_bind (noX h₁ fun _ s₂ h₂=>wpAny_bind (noX h₂ fun _ s₃ h₃=>wpAny_bind (noX h₃ fun ok s₄ h₄=>?_)))
  cases ok with
  | false=>exact wpAny_pure ⟨rfl,h₄⟩
  | true=>exact wpAny_bind (wpAny_bind (noX h₄ fun x s₅ h₅=>wpAny_bind (noX h₅ fun _ s₆ h₆=>wpAny_pure (wpAny_pure ⟨rfl,h₆⟩))))
def PTs (X:Cx) (ifs:List Expr) (t:TT):Prop:=
 ∀ (pins:List (Addr×Obj)) (s:Shared) (σ:L2.St) (H:Hp) (Q:Bool→Hp→Prop),Inv X pins σ H s→t σ H Q→
  wpAny (model X.prog X.w) X.A (forIn ifs true fun c r=>if r=true then do let ok ←isTrue c X.env (eval c X.env);pure (ForInStep.yield ok) else pure (ForInStep.yield r)) (TP X pins σ Q) X.xe s
noncomputable def vP:TT:=fun _ H Q=>Q true H
theorem oO {X:Cx}:PTs X [] vP:=fun _ _ _ H _ I h=>wpAny_tests_nil ⟨H,I,h⟩
noncomputable def g8 (X:Cx) (scope:Scope) (N:List Str) (ix:List (Option Nat)):Bool:=
 N.length == ix.length && (N.zip ix).all fun y=>match y.2 with
  | none=>true
  | some j=>X.N[j]? == some y.1 && scope.names.lookup y.1 == some .free
theorem dB {scope:Scope} {env:Env} {x:Str} (h:scope.names.lookup x=some .free):(relabel scope env).names.lookup x=some .cell∨(relabel scope env).names.lookup x=some .free:=by
 unfold relabel
 dsimp only
 generalize scope.names=l at h
 induction l with
 | nil=>cases h
 | cons y l ih=>
  obtain ⟨n,k⟩:=y
  rw [List.lookup_cons] at h
  rw [List.map_cons]
  cases hx:x == n with
  | true=>
   rw [hx] at h
   have hk:k=.free:=Option.some.inj h
   subst hk
   dsimp only
   split
   ·exact .inl (by rw [List.lookup_cons,hx])
   ·exact .inr (by rw [List.lookup_cons,hx])
  | false=>
   rw [hx] at h
   dsimp only
   split
   ·rw [List.lookup_cons,hx];exact ih h
   ·rw [List.lookup_cons,hx];exact ih h
theorem gH {scope:Scope} {env:Env} {x:Str} (hc:∀ y∈scope.names,y.2≠.cell) (h:(relabel scope env).names.lookup x=some .cell∨(relabel scope env).names.lookup x=some .free):(x,NameKind.free)∈scope.names:=by
 unfold relabel at h
 dsimp only at h
 generalize scope.names=l at h hc
 induction l with
 | nil=>rcases h with h | h <;> cases h
 | cons y l ih=>
  obtain ⟨n,k⟩:=y
  rw [List.map_cons] at h
  dsimp only at h
  have nk:k≠.cell:=hc (n,k) List.mem_cons_self
  have rek:=ih (hc:=fun z hz=>hc z (List.mem_cons_of_mem _ hz))
  by_cases cnd:(k == NameKind.free && env.scope.kind == .function && env.kindOf n == some .cell)=true
  ·rw [if_pos cnd,List.lookup_cons] at h
   have kf:k=.free:=by
    have:(k == NameKind.free)=true:=by
     simp only [Bool.and_eq_true] at cnd
     exact cnd.1.1
    simpa using this
   cases hx:x == n with
   | true=>
    have:x=n:=by simpa using hx
    rw [this,kf]
    exact List.mem_cons_self
   | false=>
    rw [hx] at h
    exact List.mem_cons_of_mem _ (rek h)
  ·rw [if_neg cnd,List.lookup_cons] at h
   cases hx:x == n with
   | true=>
    rw [hx] at h
    have:x=n:=by simpa using hx
    rcases h with h | h
    ·exact absurd (Option.some.inj h) nk
    ·rw [this,←Option.some.inj h]
     exact List.mem_cons_self
   | false=>
    rw [hx] at h
    exact List.mem_cons_of_mem _ (rek h)
section
variable {X:Cx} {pins:List (Addr×Obj)} {σ:L2.St} {H:Hp} {s:Shared} {scope:Scope} {N:List Str} {ix:List (Option Nat)} {fp:List Addr}
theorem dN (ok:X.Ok) (hf:bB scope X.env=true):∀ y∈scope.names,y.2=.free→∃ c,X.env.cells.lookup y.1=some c:=fun y hy k=>by
 have:=List.all_eq_true.mp hf y hy
 rw [k] at this
 simp only [bne_self_eq_false,Bool.false_or,Bool.or_eq_true,beq_iff_eq] at this
 exact ok.has y.1 this
theorem b9 (ok:X.Ok) (hf:bB scope X.env=true) {x:Str} {c:Addr} (h:(clOf scope X.env).lookup x=some c):X.env.cells.lookup x=some c:=
 cG X.env x c scope.names [] (dN ok hf) (fun z=>nomatch z) h
theorem fE (ok:X.Ok) (hf:bB scope X.env=true) {x:Str} (h:(x,NameKind.free)∈scope.names):∃ c,(clOf scope X.env).lookup x=some c∧X.env.cells.lookup x=some c:=by
 obtain ⟨c,e⟩:=d5 X.env x scope.names [] (.inr h)
 exact ⟨c,e,b9 ok hf e⟩
theorem _root_.L2.Inv.block (I:Inv X pins σ H s) (hf:bB scope X.env=true) (hk:scope.kind=.function) (hcell:∀ y∈scope.names,y.2≠.cell) (hix:g8 X scope N ix=true) (fo:∀ b∈fp,g7 X pins H b) (fin:∀ b∈fp,∃ o,s.heap.get? b=some o)
  {h1:Heap} {t1:Nat} {D C:Addr} (hD:D=s.heap.objs.size) (hC:C=s.heap.objs.size + 1) (old:∀ b o,s.heap.get? b=some o→h1.get? b=some o) {n:Nat} (acc:h1.get? D=some { cls:=.type "list",data:=.seq #[] n })
  {m:Str→Option Value} (ns:h1.Ns C m):Inv (ax X scope N C s H fp (X.pn++pins)) [] (cj ix σ) (upd H D (.lst [])) { s with heap:=h1,toks:=t1 }:=by
 have freshC:s.heap.objs.size≤C:=by rw [hC];exact Nat.le_succ _
 have freshD:s.heap.objs.size≤D:=by rw [hD];exact Nat.le_refl _
 have nD:H D=none:=I.hok.fresh freshD
 have DC:D≠C:=by rw [hD,hC];exact Nat.ne_of_lt (Nat.lt_succ_self _)
 have updn:∀ b,H b=none→b≠D→upd H D (.lst []) b=none:=fun b n z=>by rw [ak z];exact n
 have ltD:∀ b o,s.heap.get? b=some o→b≠D:=fun b o e=>Nat.ne_of_lt (Nat.lt_of_lt_of_le (Heap.lt_size e) freshD)
 have ltC:∀ b o,s.heap.get? b=some o→b≠C:=fun b o e=>Nat.ne_of_lt (Nat.lt_of_lt_of_le (Heap.lt_size e) freshC)
 have cellAt:∀ x c,(clOf scope X.env).lookup x=some c→∃ v o,s.heap.get? c=some o∧o.data=.cell v:=fun x c e=>by
  obtain ⟨v,o,ho,hd⟩:=I.cell x c (b9 I.ok hf e)
  exact ⟨v,o,ho,hd⟩
 have okY:(ax X scope N C s H fp (X.pn++pins)).Ok:=by
  refine ⟨I.ok.mod,hk,I.ok.glob,I.ok.blt,freshC,fun x y c e1 e2=>?_,fun x hx=>?_,fun x c z _=>?_,I.ok.hd,I.ok.frames,.inl rfl,fun b hb=>?_,I.bs,?_,fun b o e hb=>?_,fun b hb hs=>?_,I.stack,I.stkFree⟩
  ·exact I.ok.inj x y c (b9 I.ok hf e1) (b9 I.ok hf e2)
  ·obtain ⟨c,e,_⟩:=fE I.ok hf (gH hcell hx)
   exact ⟨c,e⟩
  ·exact absurd (show false=true from z) Bool.false_ne_true
  ·obtain ⟨f0,f1,f2,f3,f4,f5⟩:=fo b hb
   refine ⟨?_,fun x c e=>f4 x c (b9 I.ok hf e)⟩
   intro z
   have z:b=C:=z
   obtain ⟨o,ho⟩:=fin b hb
   exact ltC b o ho z
  ·exact Nat.le_trans I.ok.bsz I.sz
  ·obtain ⟨f0,f1,f2,f3,f4,f5⟩:=fo b hb
   rcases f3 with q | q
   ·exact I.ok.noex b o e q
   ·exact absurd (Nat.lt_of_lt_of_le (Heap.lt_size e) (Nat.le_trans I.ok.bsz q)) (Nat.lt_irrefl _)
  ·obtain ⟨f0,f1,f2,_⟩:=fo b hb
   exact (List.mem_cons.mp (I.stkSub b hs)).elim f1 f2
 refine ⟨okY,rfl,I.bare,Un.laid old freshD nD,⟨m,ns,fun i x v e1 e2 e3=>?_⟩,fun x c e=>?_,?_,fun x c e=>?_,fun p hp=>?_,I.hok.laid old freshD ⟨Nat.zero_le _,[],n,.nil,acc⟩,?_⟩
 ·
  have e2:(ix.map fun i=>i.bind fun i=>(σ[i]?).bind id)[i]?=some (some v):=e2
  have e1:N[i]?=some x:=e1
  unfold g8 at hix
  rw [Bool.and_eq_true] at hix
  rw [List.getElem?_map] at e2
  cases q:ix[i]? with
  | none=>rw [q] at e2;cases e2
  | some o=>
   rw [q] at e2
   have e2:(o.bind fun i=>(σ[i]?).bind id)=some v:=Option.some.inj e2
   cases o with
   | none=>cases e2
   | some j=>
    have e2:(σ[j]?).bind id=some v:=e2
    have hσ:σ[j]?=some (some v):=by
     cases w':σ[j]? with
     | none=>rw [w'] at e2;cases e2
     | some y=>rw [w'] at e2;exact congrArg some e2
    have hz:(N.zip ix)[i]?=some (x,some j):=by
     rw [List.getElem?_zip_eq_some]
     exact ⟨e1,q⟩
    have hy:=List.all_eq_true.mp hix.2 _ (List.mem_of_getElem? hz)
    simp only [Bool.and_eq_true,beq_iff_eq] at hy
    have hfr:(x,NameKind.free)∈scope.names:=PySem.mem_of_lookup hy.2
    obtain ⟨c,c1,c2⟩:=fE I.ok hf hfr
    have hkd:X.env.kindOf x=some .cell∨X.env.kindOf x=some .free:=by
     have:=List.all_eq_true.mp hf _ hfr
     simpa using this
    obtain ⟨mo,hno,hlo⟩:=I.loc
    obtain ⟨u,r,l⟩:=hlo j x v hy.1 hσ (.inr hkd)
    refine ⟨u,r,.inr ⟨dB hy.2,c,c1,?_⟩⟩
    rcases l with ⟨k1,_⟩ | ⟨_,c',e',ho'⟩
    ·rcases hkd with k2 | k2 <;> (rw [k1] at k2;cases k2)
    ·rw [c2] at e'
     cases e'
     obtain ⟨o,ho,hd⟩:=ho'
     exact ⟨o,old c o ho,hd⟩
 ·obtain ⟨v,o,ho,hd⟩:=cellAt x c e
  exact ⟨v,o,old c o ho,hd⟩
 ·exact updn C (I.hok.fresh freshC) (Ne.symm DC)
 ·obtain ⟨v,o,ho,hd⟩:=cellAt x c e
  exact updn c (I.freeC x c (b9 I.ok hf e)) (ltD c o ho)
 ·have hp:p∈X.pn++pins:=by
   have:p∈(X.pn++pins)++[]:=hp
   rwa [List.append_nil] at this
  obtain ⟨e,nn,ne,nf,d⟩:=I.pin p hp
  refine ⟨old _ _ e,updn _ nn (ltD _ _ e),ltC _ _ e,fun z=>?_,d⟩
  exact (List.mem_cons.mp (I.stkSub p.1 z)).elim ne nf
 ·unfold g8 at hix
  rw [Bool.and_eq_true] at hix
  have:N.length=ix.length:=by simpa using hix.1
  show (ix.map _).length=N.length
  rw [List.length_map,this]
theorem _root_.L2.Inv.unblock {C:Addr} {σ1:L2.St} {H1:Hp} {s1:Shared} {h2:Heap} (I:Inv X pins σ H s) (fo:∀ b∈fp,g7 X pins H b) (hC:s.heap.objs.size≤C) (J:Inv (ax X scope N C s H fp (X.pn++pins)) [] σ1 H1 s1) (hs:Heap.SameBut C s1.heap h2) :
  Inv X pins σ H1 { s1 with heap:=h2 }:=by
 have ltC:∀ b o,s.heap.get? b=some o→b≠C:=fun b o e=>Nat.ne_of_lt (Nat.lt_of_lt_of_le (Heap.lt_size e) hC)
 have bb:Un (frs X.stack) fp H H1 s.heap s1.heap:=J.base
 have jf:H1 C=none:=J.free
 refine I.call' (s':={ s1 with heap:=h2 }) (ch:=fp) J.os ⟨fun b o e n hb hx=>?_,fun b o e n hb hx=>?_,bb.free,fun b o e hx=>?_,bb.tups,bb.frzs,bb.tbls⟩ (fun b ob e=>?_) J.bare fun b hb=>?_
 ·exact (hs.2 b (ltC b o e)).trans (bb.keep b o e n hb hx)
 ·obtain ⟨sl,q⟩:=bb.slot b o e n hb hx
  exact ⟨sl,(hs.2 b (ltC b o e)).trans q⟩
 ·obtain ⟨o',q⟩:=bb.there b o e hx
  exact ⟨o',(hs.2 b (ltC b o e)).trans q⟩
 ·refine (J.hok b ob e).stay (fun c w' hc q=>(hs.2 c ?_).trans q) (fun _ q=>q) fun _ _ q=>q
  rintro rfl
  rcases hc with rfl | hc
  ·rw [jf] at e;cases e
  ·rw [jf] at hc;cases hc
 ·obtain ⟨f0,f1,f2,f3,f4,f5⟩:=fo b hb
  exact ⟨f3,f1,f4,f5⟩
end
section
variable {X:Cx} {scope:Scope} {N:List Str} {ix:List (Option Nat)} {tg iter elt:Expr} {ifs:List Expr} {pos:Pos} {wi:TI} {g:TG} {tc:TT} {te:TE}
theorem eY {pins:List (Addr×Obj)} {σ:L2.St} {H2:Hp} {s2:Shared} {J:It} {fp:List Addr} {it:Addr} {tn:Nat→Heap→Prop} {Q:VK} {RR:Value→Addr→Result→Shared→Prop} {E:Value→Shared→Prop}
  (hc:X.calm=true) (I2:Inv X pins σ H2 s2) (T:Turn X.prog X.w X.K tg J fp it tn) (st2:tn 0 s2.heap) (f2:∀ b∈fp,g7 X pins H2 b)
  (hg:∀ C s H fp pn,PG (ax X scope N C s H fp pn) tg g) (ht:∀ C s H fp pn,PTs (ax X scope N C s H fp pn) ifs tc) (he:∀ C s H fp pn,PE (ax X scope N C s H fp pn) elt te)
  (hf:bB scope X.env=true) (hk:scope.kind=.function) (hcell:∀ y∈scope.names,y.2≠.cell) (hix:g8 X scope N ix=true)
  (q:∀ D,H2 D=none→∃ W:Nat→Nat→L2.St→Hp→Prop,(∃ m,W 0 m (cj ix σ) (upd H2 D (.lst [])))∧
   ∀ i m σ1 H3,W i m σ1 H3→(J.stop i H3∧Q (.ref D) H3)∨(J.go i H3∧∀ x H4,J.yld i H3 x H4→g x σ1 H4 fun σ2 H5=>tc σ2 H5 fun b H6=>if b=true then te σ2 H6 fun v H7=>
    ∃ ys,H7 D=some (.lst ys)∧ys.length < sizeLine∧∃ m',m' < m∧W (i + 1) m' σ2 (upd H7 D (.lst (ys++[v]))) else ∃ m',m' < m∧W (i + 1) m' σ2 H6))
  (hRR:∀ (D C:Addr) (σ1:L2.St) (H1:Hp) (s1:Shared),s2.heap.objs.size≤C→Inv (ax X scope N C s2 H2 fp (X.pn++pins)) [] σ1 H1 s1→Q (.ref D) H1→RR (.ref D) C (.ok .next) s1) :
  wpAny (model X.prog X.w) X.A (newList []) (fun acc s₃=>wpAny (model X.prog X.w) X.A (newFunctionEnv scope X.env.globals (clOf scope X.env) [] X.env.qual none .none (some X.env)) (fun cenv s₄=>
   codeAny (model X.prog X.w) X.A (.compStart (.ListComp elt [⟨tg,iter,ifs,0⟩] scope pos) 0 (.ref it) acc { cenv with scope:=relabel scope X.env }) (RR acc cenv.locals) s₄) E s₃) E s2:=by
 refine wpAny_newObj_type (wpAny_newFunctionEnv hcell (by intro y hy;simp at hy) (fun h₁ hns₁ hsb₁=>?_) hk)
 dsimp only at hns₁ hsb₁ ⊢
 generalize hH2:s2.heap.push { cls:=.type "list",dict:=none,data:=.seq ([]:List Value).toArray }=HH at hns₁ hsb₁ ⊢
 have hC:HH.objs.size=s2.heap.objs.size + 1:=by rw [←hH2,Heap.size_push]
 have hDC:s2.heap.objs.size≠HH.objs.size:=by rw [hC];exact Nat.ne_of_lt (Nat.lt_succ_self _)
 have hCle:s2.heap.objs.size≤HH.objs.size:=by rw [hC];exact Nat.le_succ _
 have ltC:∀ b o,s2.heap.get? b=some o→b≠HH.objs.size:=fun b o e=>Nat.ne_of_lt (Nat.lt_of_lt_of_le (Heap.lt_size e) hCle)
 have old:∀ b o,s2.heap.get? b=some o→h₁.get? b=some o:=fun b o e=>hsb₁.extBut b o (ltC b o e) (Heap.get?_push_of_some _ (hH2▸Heap.get?_push_of_some _ e))
 have hacc:h₁.get? s2.heap.objs.size=some { cls:=.type "list",data:=.seq #[] 0 }:=hsb₁.extBut _ _ hDC (Heap.get?_push_of_some _ (hH2▸Heap.get?_push_size _ rfl))
 obtain ⟨W,⟨m0,w0⟩,turn⟩:=q s2.heap.objs.size (I2.hok.fresh (Nat.le_refl _))
 have fin:∀ b∈fp,∃ o,s2.heap.get? b=some o:=fun b hb=>let ⟨o,e,_⟩:=T.obj 0 _ st2 b hb;⟨o,e⟩
 have stat:∀ {H':Hp},(∀ b∈fp,H' b=none)→∀ b∈fp,g7 (ax X scope N HH.objs.size s2 H2 fp (X.pn++pins)) [] H' b:=fun {H'} hn b hb=>by
  obtain ⟨f0,f1,ff,f3,f4,f5⟩:=f2 b hb
  refine ⟨hn b hb,?_,fun z=>?_,.inl hb,fun x c e=>f4 x c (b9 I2.ok hf e),fun p hp=>?_⟩
  ·intro z
   have z:b=HH.objs.size:=z
   obtain ⟨o,ho⟩:=fin b hb
   exact ltC b o ho z
  ·exact (List.mem_cons.mp (I2.stkSub b z)).elim f1 ff
  ·have hp:p∈X.pn++pins:=by
    have:p∈(X.pn++pins)++[]:=hp
    rwa [List.append_nil] at this
   exact f5 p hp
 have loop:∀ s₃:Shared,s₃={ s2 with heap:=h₁,toks:=s2.toks + ([]:List (Str×Value)).length }→
   codeAny (model X.prog X.w) X.A (.compLoop (.ListComp elt [⟨tg,iter,ifs,0⟩] scope pos) 0 (.ref it) (.ref s2.heap.objs.size) (compEnvC scope (clOf scope X.env) HH.objs.size X.env)) (RR (.ref s2.heap.objs.size) HH.objs.size) s₃:=by
  rintro s₃ rfl
  refine gG (fun n s'=>∃ i σ' H',Inv (ax X scope N HH.objs.size s2 H2 fp (X.pn++pins)) [] σ' H' s'∧tn i s'.heap∧(∀ b∈fp,H' b=none)∧W i n σ' H') ?_ m0
   ⟨0,_,_,I2.block hf hk hcell hix f2 fin rfl hC old hacc hns₁,T.keep 0 _ _ st2 fun b _ o e=>old b o e,fun b hb=>?_,w0⟩
  ·rintro n s3 ⟨i,σ3,H3,I3,st3,fr3,w3⟩
   rcases turn i n σ3 H3 w3 with ⟨stop,qn⟩ | ⟨go,step⟩
   ·refine thn (T.done (ax X scope N HH.objs.size s2 H2 fp (X.pn++pins)) rfl rfl rfl hc i [] s3 σ3 H3 NoX I3 (stat fr3) st3 stop) fun r s4 hqq=>?_
    obtain ⟨hr,I4⟩:=hqq
    subst hr
    exact hRR _ _ σ3 H3 s4 hCle I4 qn
   ·refine thn (T.item (ax X scope N HH.objs.size s2 H2 fp (X.pn++pins)) rfl rfl rfl hc i [] s3 σ3 H3 NoX I3 (stat fr3) st3 go) fun r s4 hqq=>?_
    obtain ⟨u,hr,h4⟩:=hqq
    subst hr
    refine thn h4 fun _ s5 hqq=>?_
    obtain ⟨x,H5,I5,r5,y5,st5,fr5⟩:=hqq
    have I5':=I5.pinned (stat fr5) (T.obj _ _ st5)
    refine thn (hg _ _ _ _ _ _ s5 σ3 H5 x u _ I5' r5 (step x H5 y5)) fun _ s6 hqq=>?_
    obtain ⟨σ6,H6,I6,q6⟩:=hqq
    refine thn (ht _ _ _ _ _ _ s6 σ6 H6 _ I6 q6) fun ok s7 hqq=>?_
    obtain ⟨H7,I7,q7⟩:=hqq
    have again:∀ {H8:Hp} {s8:Shared},Inv (ax X scope N HH.objs.size s2 H2 fp (X.pn++pins)) ([]++eV fp s5.heap) σ6 H8 s8→(∃ m',m' < n∧W (i + 1) m' σ6 H8)→
      ∃ m,m < n∧∃ i σ' H',Inv (ax X scope N HH.objs.size s2 H2 fp (X.pn++pins)) [] σ' H' s8∧tn i s8.heap∧(∀ b∈fp,H' b=none)∧W i m σ' H':=fun {H8 s8} I8 ⟨m',hm,w8⟩=>by
     refine ⟨m',hm,i + 1,σ6,H8,I8.unpinned,T.keep _ _ _ st5 fun b hb o e=>(I8.pin (b,o) (List.mem_append_right _ (List.mem_append_right _ (bx hb e)))).1,fun b hb=>?_,w8⟩
     obtain ⟨o,e,d⟩:=T.obj _ _ st5 b hb
     exact (I8.pin (b,o) (List.mem_append_right _ (List.mem_append_right _ (bx hb e)))).2.1
    cases ok with
    | false=>exact again I7 q7
    | true=>
     show wpAny _ _ _ _ _ _
     refine thn (he _ _ _ _ _ _ s7 σ6 H7 _ I7 q7) fun x8 s8 hqq=>?_
     obtain ⟨v8,H8,I8,r8,ys,hys,hlt,q8⟩:=hqq
     refine thn (dZ _ s8 σ6 H8 (.ref s2.heap.objs.size) [v8] (.ref s2.heap.objs.size) [x8] (fun _ H9=>∃ m',m' < n∧W (i + 1) m' σ6 H9) I8 rfl (.cons r8 .nil) ⟨_,ys,v8,rfl,rfl,hys,hlt,q8⟩) fun _ s9 hqq=>?_
     obtain ⟨_,H9,I9,_,q9⟩:=hqq
     exact again I9 q9
  ·rw [ak (fun z=>by
    obtain ⟨o,ho⟩:=fin b hb
    exact absurd z (Nat.ne_of_lt (Heap.lt_size ho)))]
   exact (f2 b hb).1
 exact codeAny_compStart_list (loop _ rfl) (T.self _ 0 _ _ _ (T.keep 0 _ _ st2 fun b _ o e=>old b o e) (loop _ rfl))
theorem kl (ix:List (Option Nat)) (N:List Str) (hc:X.calm=true) (hi:PI X tg iter wi) (hg:∀ C s H fp pn,PG (ax X scope N C s H fp pn) tg g) (ht:∀ C s H fp pn,PTs (ax X scope N C s H fp pn) ifs tc) (he:∀ C s H fp pn,PE (ax X scope N C s H fp pn) elt te)
  (hf:bB scope X.env=true:=by rfl) (hk:scope.kind=.function:=by rfl) (hcell:∀ y∈scope.names,y.2≠.cell:=by decide +kernel) (hnames:∀ y∈scope.names,y.2=.local→scope.names.lookup y.1=some .local:=by decide +kernel) (hix:g8 X scope N ix=true:=by rfl)
  (hs:∀ x,foldedSetIterable iter X.env x=pure x:=by intro _;rfl):PE X (.ListComp elt [⟨tg,iter,ifs,0⟩] scope pos) (kj wi ix g tc te):=by
 intro pins s σ H Q I h
 rw [eval_ListComp]
 have hclos:closureFor scope X.env=pure (clOf scope X.env):=by
  unfold closureFor clOf
  have:=bL X.env scope.names [] (dN I.ok hf)
  simpa using this
 refine wpAny_comprehension_free (use:=none) rfl hs hclos hk hnames (thn (hi pins s σ H _ I h) fun v s1 h1=>thn h1 fun itv s2 h2=>?_)
 obtain ⟨it,fp,tn,J,H2,e,I2,T,st2,f2,q⟩:=h2
 subst e
 refine eY (RR:=fun acc C=>compPost (model X.prog X.w) X.A X.xe none (EP X pins σ Q) acc C) (Q:=Q) (iter:=iter) hc I2 T st2 f2 hg ht he hf hk hcell hix q fun D C σ1 H1 s1 hC J1 q1=>?_
 obtain ⟨m,ns,_⟩:=J1.loc
 exact ⟨m,ns,fun h' hs'=>⟨.ref D,H1,I2.unblock f2 hC J1 hs',rfl,q1⟩⟩
end
section
variable {X:Cx} {scope:Scope} {N:List Str} {ix:List (Option Nat)} {tg iter elt:Expr} {ifs:List Expr} {pos:Pos} {wi:TI} {g:TG} {tc:TT} {te:TE}
theorem km {i:Nat} {y:Str} {py spos:Pos} (ix:List (Option Nat)) (N:List Str) (hN:X.N.Nodup) (hiy:X.N[i]?=some y) (hy:Loc X.env.scope y) (hc:X.calm=true) (hi:PI X tg iter wi) (hg:∀ C s H fp pn,PG (ax X scope N C s H fp pn) tg g) (ht:∀ C s H fp pn,PTs (ax X scope N C s H fp pn) ifs tc)
  (he:∀ C s H fp pn,PE (ax X scope N C s H fp pn) elt te) (hsw:swapsWith (.ListComp elt [⟨tg,iter,ifs,0⟩] scope pos) (some (.Name y py)) spos.line X.env=pure true:=by rfl)
  (hf:bB scope X.env=true:=by rfl) (hk:scope.kind=.function:=by rfl) (hcell:∀ y∈scope.names,y.2≠.cell:=by decide +kernel) (hnames:∀ y∈scope.names,y.2=.local→scope.names.lookup y.1=some .local:=by decide +kernel) (hix:g8 X scope N ix=true:=by rfl)
  (hs:∀ x,foldedSetIterable iter X.env x=pure x:=by intro _;rfl) (hfn:X.fn y=true∨X.env.scope.names.lookup y=some .local:=by first | exact .inl rfl | exact .inr rfl) :
  PS X (.Assign [.Name y py] (.ListComp elt [⟨tg,iter,ifs,0⟩] scope pos) spos) (fun D σ H=>kj wi ix g tc te σ H fun v H'=>D.nx (σ.set i (some v)) H'):=by
 intro pins s σ H Dd I h
 rw [exec_Assign_Name_used _ _ _ _ hsw]
 have hclos:closureFor scope X.env=pure (clOf scope X.env):=by
  unfold closureFor clOf
  have:=bL X.env scope.names [] (dN I.ok hf)
  simpa using this
 refine wpAny_bind (wpAny_standAt (wpAny_bind ?_))
 show wpAny _ X.A (do let _ ←comprehension (.ListComp elt [⟨tg,iter,ifs,0⟩] scope pos) scope X.env _ (newList []) false (eval iter X.env) (some (assign (.Name y py) X.env))) _ _ s
 refine wpAny_bind (wpAny_mono (wpAny_comprehension_free (use:=some (assign (.Name y py) X.env)) (Q:=fun _ s'=>SP X pins Dd .next s') rfl hs hclos hk hnames
  (thn (hi pins s σ H _ I h) fun v s1 h1=>thn h1 fun itv s2 h2=>?_)) (fun _ s' hq=>wpAny_pure (wpAny_pure hq)) fun _ _ e=>e)
 obtain ⟨it,fp,tn,J,H2,e,I2,T,st2,f2,q⟩:=h2
 subst e
 refine eY (RR:=fun acc C=>compPost (model X.prog X.w) X.A X.xe (some (assign (.Name y py) X.env)) (fun _ s'=>SP X pins Dd .next s') acc C) (Q:=fun v H'=>Dd.nx (σ.set i (some v)) H') (iter:=iter) hc I2 T st2 f2 hg ht he hf hk hcell hix q fun D C σ1 H1 s1 hC J1 q1=>?_
 obtain ⟨m,ns,_⟩:=id J1.loc
 have ns:s1.heap.Ns C m:=ns
 have I3:Inv X pins σ H1 s1:=I2.unblock f2 hC J1 (.refl ..)
 show wpAny _ X.A (assign (.Name y py) X.env (.ref D)) _ _ s1
 refine wpAny_assign_Name (gv I3 hN hiy hy (v:=.ref D) rfl (fun s4 I4 ⟨a,sb,ha⟩=>?_) hfn)
 have aC:C≠a:=by
  intro z
  rcases ha with ha | ha
  ·exact Nat.ne_of_lt (Nat.lt_of_lt_of_le I2.lt hC) (ha▸z.symm)
  ·obtain ⟨v,o,ho,_⟩:=I2.cell y a ha
   exact Nat.ne_of_lt (Nat.lt_of_lt_of_le (Heap.lt_size ho) hC) z.symm
 refine ⟨m,ns.sameBut sb aC,fun h' hs'=>?_⟩
 have jf:H1 C=none:=J1.free
 have kk:∀ b o,b≠C→s4.heap.get? b=some o→h'.get? b=some o:=fun b o hb e=>(hs'.2 b hb).trans e
 refine ⟨σ.set i (some (.ref D)),H1,?_,q1⟩
 have z:=I4.turned (t':=s4.toks) kk jf (fun z=>Nat.ne_of_lt (Nat.lt_of_lt_of_le I2.lt hC) z.symm) (.inr (Nat.le_trans I2.sz hC)) (fun x c e z=>by
  obtain ⟨v,o,ho,_⟩:=I2.cell x c e
  exact Nat.ne_of_lt (Nat.lt_of_lt_of_le (Heap.lt_size ho) hC) z) (fun p hp z=>Nat.ne_of_lt (Nat.lt_of_lt_of_le (Heap.lt_size (I2.pin p hp).1) hC) z)
 exact z
end
noncomputable def Itv (val:Nat→V) (n:Nat):It:=⟨fun i _=>i < n,fun i H x H'=>H'=H∧x=val i,fun i _=>i=n⟩
theorem iN {P:Program} {w:World} {K:W.Frag} {tg:Expr} (ty:String) (hty:["enumerate","zip","dict_itemiterator","dict_reverseitemiterator","odict_iterator","itertools.zip_longest","itertools.pairwise"].contains ty=false) (l:List Nat) (t:Tok) (it:Addr)
  (Wk:∀ A:Around,A.handled=none→Walks P w A it [it] [it] (S l).cps.size (SignAt (S l)) (fun i h=>h.IsStrIter it ty (S l) t i))
  (self:∀ (A:Around) (i:Nat) (s:Shared) (Q:Value→Shared→Prop) (E:Value→Shared→Prop),s.heap.IsStrIter it ty (S l) t i→Q (.ref it) s→wpAny (model P w) A (pyIter (.ref it)) Q E s) :
  Turn P w K tg (Itv (fun i=>.str (S [l.getD i 0])) l.length) [it] it (fun i h=>h.IsStrIter it ty (S l) t i) where
 mem:=by simp
 obj:=fun i h st b hb=>by
  have e:b=it:=by simpa using hb
  subst e
  obtain ⟨o,e,c,d⟩:=st
  exact ⟨o,e,fun v z=>by rw [d] at z;cases z⟩
 keep:=fun i h h' st k=>by
  obtain ⟨o,e,r⟩:=st
  exact ⟨o,k it (by simp) o e,r⟩
 item:=by
  intro X hP hw hK hc i pins s σ H E I hf st hg
  subst hP hw hK
  obtain ⟨f0,f1,f2,f3,f4,f5⟩:=hf it (by simp)
  have hg:i < l.length:=hg
  refine (Wk X.A (I.ok.hd hc)).item i s _ _ (by simpa [S] using hg) st fun v h' tk hv st' kk=>?_
  obtain ⟨c,u,hc',rfl⟩:=hv
  have I1:Inv X pins σ H { s with heap:=h',toks:=tk }:=I.turned (fun b o hb e=>kk b o (by simpa using hb) e) f0 f1 f3 f4 f5
  obtain ⟨o,e,cc,d⟩:=id st'
  have hcl:l.getD i 0=c:=by
   have:l[i]?=some c:=by simpa [S] using hc'
   rw [List.getD_eq_getElem?_getD,this]
   rfl
  refine ⟨_,rfl,lX (s:={ s with heap:=h',toks:=tk }) e cc d hty ⟨.str (S [l.getD i 0]),H,I1,⟨u,?_⟩,⟨rfl,rfl⟩,st',fun b hb=>(hf b hb).1⟩⟩
  rw [hcl]
 done:=by
  intro X hP hw hK hc i pins s σ H E I hf st hg
  subst hP hw hK
  obtain ⟨f0,f1,f2,f3,f4,f5⟩:=hf it (by simp)
  have hg:i=l.length:=hg
  have hn:(S l).cps.size=i:=by rw [hg];simp [S]
  refine (Wk X.A (I.ok.hd hc)).done s _ _ (by rw [hn];exact st) fun h' tk kk=>⟨rfl,I.turned (fun b o hb e=>kk b o (by simpa using hb) e) f0 f1 f3 f4 f5⟩
 self:=self
noncomputable def vQ (tl:TE):TI:=fun σ H R=>tl σ H fun x H1=>∃ l,x=.str (S l)∧R (Itv (fun i=>.str (S [l.getD i 0])) l.length) H1
section
variable {X:Cx} {tg:Expr}
theorem qO {l:Expr} {tl:TE} (hl:PE X l tl):PI X tg l (vQ tl):=by
 intro pins s σ H R I h
 refine thn (hl pins s σ H _ I h) fun v s1 hqq=>?_
 obtain ⟨x,H1,I1,r1,l,e,q⟩:=hqq
 subst e
 obtain ⟨t,rfl⟩:=r1
 cases ha:(S l).cps.all (·< 128)
 ·refine wpAny_pyIter_wide ha ?_
  refine ⟨s1.heap.objs.size,[s1.heap.objs.size],_,_,H1,rfl,I1.kept (t':=s1.toks) fun b o e=>Heap.get?_push_of_some _ e,
   iN "str_iterator" (by decide) l t _ (fun A hA=>Walks.strWide hA _ _ _) (fun _ _ _ _ _ st h=>wpAny_pyIter_striter_wide st h),⟨_,Heap.get?_push_size _ rfl,rfl,rfl⟩,fun b hb=>?_,q⟩
  have e:b=s1.heap.objs.size:=by simpa using hb
  subst e
  exact I1.fpOk (Nat.le_refl _) (I1.hok.fresh (Nat.le_refl _))
 ·refine wpAny_pyIter_ascii ha ?_
  refine ⟨s1.heap.objs.size,[s1.heap.objs.size],_,_,H1,rfl,I1.kept (t':=s1.toks) fun b o e=>Heap.get?_push_of_some _ e,
   iN "str_ascii_iterator" (by decide) l t _ (fun A hA=>Walks.strAscii hA _ _ _) (fun _ _ _ _ _ st h=>wpAny_pyIter_striter_ascii st h),⟨_,Heap.get?_push_size _ rfl,rfl,rfl⟩,fun b hb=>?_,q⟩
  have e:b=s1.heap.objs.size:=by simpa using hb
  subst e
  exact I1.fpOk (Nat.le_refl _) (I1.hok.fresh (Nat.le_refl _))
theorem mh {pins:List (Addr×Obj)} {s:Shared} {σ:L2.St} {H:Hp} {p:Addr} {xs:List V} {E:Value→Shared→Prop} {R:Value→Shared→Prop} (hc:X.calm=true) (I:Inv X pins σ H s) (h:SqL X.K H p xs∨SqT X.K H p xs)
  (k:∀ (it:Addr) (fp:List Addr) (o:Obj) (us:List Value) (Sx:Nat→Heap→Prop),Vals xs us→Walks X.prog X.w X.A.in1 it fp [it] us.length (fun i v=>us[i]?=some v) Sx→Sx 0 (s.heap.push o)→(∀ b∈fp,b < (s.heap.push o).objs.size)→it=s.heap.objs.size→R (.ref it) { s with heap:=s.heap.push o }) :
  wpAny (model X.prog X.w) X.A.in1 (pyIter (.ref p)) R E s:=by
 have hh:X.A.in1.handled=none:=I.ok.hd hc
 rcases h with h | h
 ·obtain ⟨us,r,pl,hz⟩:=I.list h
  have hlt:p < s.heap.objs.size:=by obtain ⟨o,ho,_⟩:=pl.isList;exact Heap.lt_size ho
  refine wpAny_pyIter_list pl.isList (k s.heap.objs.size [s.heap.objs.size,p] _ us (fun i h=>h.IsListIter s.heap.objs.size p i∧h.IsList p us.toArray) r (by
   have W:=Walks.list (prog:=X.prog) (w:=X.w) hh s.heap.objs.size p (Nat.ne_of_lt hlt) us.toArray
   simpa using W) ⟨⟨_,Heap.get?_push_size _ rfl,rfl,rfl⟩,pl.isList.at fun o e=>Heap.get?_push_of_some _ e⟩ (fun b hb=>?_) rfl)
  rw [Heap.size_push]
  rcases List.mem_cons.mp hb with rfl | hb
  ·exact Nat.lt_succ_self _
  ·rw [List.mem_singleton] at hb
   rw [hb]
   exact Nat.lt_succ_of_lt hlt
 ·obtain ⟨us,r,pl,hz⟩:=I.tuple h
  have pl':s.heap.IsTuple p us.toArray:=pl
  have hlt:p < s.heap.objs.size:=by obtain ⟨o,ho,_⟩:=pl;exact Heap.lt_size ho
  refine wpAny_pyIter_tuple pl' (k s.heap.objs.size [s.heap.objs.size,p] _ us (fun i h=>h.IsTupleIter s.heap.objs.size p i∧h.IsTuple p us.toArray) r (by
   have W:=Walks.tuple (prog:=X.prog) (w:=X.w) hh s.heap.objs.size p (Nat.ne_of_lt hlt) us.toArray
   simpa using W) ⟨⟨_,Heap.get?_push_size _ rfl,rfl,rfl⟩,pl'.at fun o e=>Heap.get?_push_of_some _ e⟩ (fun b hb=>?_) rfl)
  rw [Heap.size_push]
  rcases List.mem_cons.mp hb with rfl | hb
  ·exact Nat.lt_succ_self _
  ·rw [List.mem_singleton] at hb
   rw [hb]
   exact Nat.lt_succ_of_lt hlt
theorem jv {pins:List (Addr×Obj)} {s:Shared} {σ:L2.St} {H:Hp} {o:Obj} {h':Heap} {tk:Nat} (I:Inv X pins σ H s) (kk:∀ b ob,b∉[s.heap.objs.size]→(s.heap.push o).get? b=some ob→h'.get? b=some ob) :
  Inv X pins σ H { s with heap:=h',toks:=tk }:=I.kept fun b ob e=>kk b ob (fun z=>Nat.ne_of_lt (Heap.lt_size e) (by simpa using z)) (Heap.get?_push_of_some _ e)
theorem kn {α:Type} (l:List α) (i:Nat) (d:α) (h:i < l.length):l.getD i d=l[i]:=by
 rw [List.getD_eq_getElem?_getD,List.getElem?_eq_getElem h]
 rfl
theorem oP {ns:List Int} {us:List Value} (r:Vals (ns.map V.int) us) {i:Nat} {v:Value} (h:us[i]?=some v):∃ t,v=.int (ns.getD i 0) t:=by
 have hl:=r.length
 rw [List.length_map] at hl
 obtain ⟨hi,_⟩:=List.getElem?_eq_some_iff.mp h
 have e1:(ns.map V.int)[i]?=some (.int (ns.getD i 0)):=by
  rw [List.getElem?_map,List.getElem?_eq_getElem (by lia),kn _ _ _ (by lia)]
  rfl
 obtain ⟨u,hu,t,rfl⟩:=r.get e1
 rw [h] at hu
 exact ⟨t,Option.some.inj hu⟩
noncomputable def qP (ns:List Int):Int:=ns.foldl max (ns.headD 0)
noncomputable def t9 (ns:List Int):Int:=ns.foldl min (ns.headD 0)
theorem gJ (ns:List Int):∀ k,k≤ns.length→preSum (fun i=>ns.getD i 0) k=(ns.take k).sum
 | 0,_=>by simp [preSum]
 | k + 1,h=>by
  have et:ns.take (k + 1)=ns.take k++[ns.getD k 0]:=by
   rw [List.take_add_one,List.getElem?_eq_getElem (by lia),kn _ _ _ (by lia)]
   rfl
  rw [et,List.sum_append,←gJ ns k (by lia)]
  simp [preSum]
theorem ko (hc:X.calm=true):cN X (.builtin "sum") (fun vs H Q=>∃ (p:Addr) (ns:List Int),vs=[.ref p]∧(SqL X.K H p (ns.map V.int)∨SqT X.K H p (ns.map V.int))∧Q (.int ns.sum) H):=by
 intro pins s σ H vs us Q I r h
 obtain ⟨p,ns,rfl,hp,q⟩:=h
 obtain ⟨u,rfl,r1⟩:=hX r
 cases r1
 refine call_sum_walkG (mh hc I hp fun it fp o ws Sx rv W st hf hit=>?_)
 have hl:=rv.length
 rw [List.length_map] at hl
 refine ⟨it,fp,[it],_,_,Sx,fun i=>ns.getD i 0,rfl,W,st,hf,fun i v hv=>oP rv hv,fun h' tk t' kk=>?_⟩
 subst hit
 refine ⟨.int ns.sum,H,jv (s:=s) I kk,⟨t',?_⟩,q⟩
 rw [←hl,gJ ns _ (Nat.le_refl _),List.take_length]
end
section
variable {prog:Program} {w:World} {A:Around} {R:Result→Shared→Prop} {it:Addr} {fp wr:List Addr} {n:Nat} {Pv:Nat→Value→Prop} {Sx:Nat→Heap→Prop} {kw:List (Str×Value)}
end
section
variable {X:Cx} {e k:Expr} {te tk:TE} {p pos kpos:Pos}
noncomputable def maxD (ns:List Int) (d:Int):Int:=if ns=[] then d else qP ns
end
section
variable {prog:Program} {w:World} {A:Around} {E:Value→Shared→Prop} {s:Shared}
theorem mi {it t:Addr} {i:Nat} {items:Array Value} {x:Value} {Q:Value→Shared→Prop} (hi:s.heap.IsTupleIter it t i) (ht:s.heap.IsTuple t items) (hx:items[i]?=some x)
  (k:∀ h',h'.IsTupleIter it t (i + 1)→Heap.SameBut it s.heap h'→Q x { s with heap:=h' }):wpAny (model prog w) A (Builtin.SmallTypes.nextOf (.ref it)) Q E s:=by
 obtain ⟨o,ho,oc,od⟩:=id hi
 obtain ⟨q,hq,_,n,qd⟩:=ht
 unfold Builtin.SmallTypes.nextOf
 refine wpAny_bind (wpAny_callSpecial?_slot (name:=Str.ofString "__next__") hi.typeIs F.slot_tuple_iterator_next (wpAny_call_entry F.slot_tuple_iterator_next hi.typeIs F.entry_tuple_iterator_next ?_ (F.args_tuple_iterator_next_1 _)))
 show wpAny _ _ (field (.ref it) 0 >>= _) _ _ s
 refine wpAny_bind (wpAny_field ho od (x:=.ref t) rfl ?_)
 show wpAny _ _ (if (Value.ref t == Value.none)=true then _ else _) _ _ s
 rw [if_neg (fun z:(Value.ref t == Value.none)=true=>Bool.false_ne_true z)]
 show wpAny _ _ (field (.ref it) 1 >>= _) _ _ s
 refine wpAny_bind (wpAny_field ho od (x:=.int i 0) rfl (wpAny_bind (wpAny_seqItems hq qd ?_)))
 simp only [Int.toNat_natCast,hx]
 refine wpAny_bind (wpAny_setField ho od (by simp) (wpAny_pure ⟨x,rfl,wpAny_pure (k _ ⟨_,Heap.get?_update_self _ ho (Obj.isFreed_of_fields (Obj.data_mapFields od _)),(Obj.cls_mapFields ..).trans oc,?_⟩ (Heap.SameBut.update ..))⟩))
 rw [Obj.data_mapFields od]
 simp [rawInt]
theorem oQ {it t:Addr} {i:Nat} {items:Array Value} {Q:Value→Shared→Prop} (hh:A.handled=none) (hi:s.heap.IsTupleIter it t i) (ht:s.heap.IsTuple t items) (hx:items[i]?=none)
  (k:∀ h' e,Heap.ExtBut it s.heap h'→(∃ o,h'.get? e=some o∧o.cls=.type "StopIteration")→E (.ref e) { s with heap:=h' }):wpAny (model prog w) A (Builtin.SmallTypes.nextOf (.ref it)) Q E s:=by
 obtain ⟨o,ho,oc,od⟩:=id hi
 obtain ⟨q,hq,_,n,qd⟩:=ht
 unfold Builtin.SmallTypes.nextOf
 refine wpAny_bind (wpAny_callSpecial?_slot (name:=Str.ofString "__next__") hi.typeIs F.slot_tuple_iterator_next (wpAny_call_entry F.slot_tuple_iterator_next hi.typeIs F.entry_tuple_iterator_next ?_ (F.args_tuple_iterator_next_1 _)))
 show wpAny _ _ (field (.ref it) 0 >>= _) _ _ s
 refine wpAny_bind (wpAny_field ho od (x:=.ref t) rfl ?_)
 show wpAny _ _ (if (Value.ref t == Value.none)=true then _ else _) _ _ s
 rw [if_neg (fun z:(Value.ref t == Value.none)=true=>Bool.false_ne_true z)]
 show wpAny _ _ (field (.ref it) 1 >>= _) _ _ s
 refine wpAny_bind (wpAny_field ho od (x:=.int i 0) rfl (wpAny_bind (wpAny_seqItems hq qd ?_)))
 simp only [Int.toNat_natCast,hx]
 refine wpAny_bind (wpAny_rule (wpAny_bind (wpAny_setField ho od (by simp) ?_)))
 show wpAny _ _ (newExc (.type "StopIteration") [] >>= _) _ _ _
 refine wpAny_bind ?_
 simp only [newExc,newTuple]
 refine wpAny_bind (wpAny_newObj_type (wpAny_bind (m:=firstArgMember _ _) (wpAny_of_eq (a:=Value.none) (by first | rfl | (simp only [firstArgMember];rfl)) (wpAny_newObj_type ?_ (by size_fits)))) (by size_fits))
 simp only [raiseNew]
 refine wpAny_bind (wpAny_handled ?_)
 first
  | rw [show A.in1.handled=none from hh]
  | rw [hh]
 exact wpAny_bind (wpAny_pure (wpAny_throw (k _ _ (((Heap.SameBut.update ..).extBut.push _).push _) ⟨_,Heap.get?_push_size _ rfl,rfl⟩)))
def IsIt (k:Bool) (h:Heap) (it l:Addr) (i:Nat):Prop:=match k with
 | true=>h.IsListIter it l i
 | false=>h.IsTupleIter it l i
def IsSq (k:Bool) (h:Heap) (l:Addr) (xs:Array Value):Prop:=match k with
 | true=>h.IsList l xs
 | false=>h.IsTuple l xs
theorem IsIt.at {k:Bool} {h h':Heap} {it l:Addr} {i:Nat} (x:IsIt k h it l i) (e:∀ o,h.get? it=some o→h'.get? it=some o):IsIt k h' it l i:=by
 cases k with
 | true=>obtain ⟨o,ho,r⟩:=(show h.IsListIter it l i from x);exact (show h'.IsListIter it l i from ⟨o,e o ho,r⟩)
 | false=>obtain ⟨o,ho,r⟩:=(show h.IsTupleIter it l i from x);exact (show h'.IsTupleIter it l i from ⟨o,e o ho,r⟩)
theorem IsSq.at {k:Bool} {h h':Heap} {l:Addr} {xs:Array Value} (x:IsSq k h l xs) (e:∀ o,h.get? l=some o→h'.get? l=some o):IsSq k h' l xs:=by
 cases k with
 | true=>obtain ⟨o,ho,r⟩:=(show h.IsList l xs from x);exact (show h'.IsList l xs from ⟨o,e o ho,r⟩)
 | false=>obtain ⟨o,ho,r⟩:=(show h.IsTuple l xs from x);exact (show h'.IsTuple l xs from ⟨o,e o ho,r⟩)
theorem IsIt.obj {k:Bool} {h:Heap} {it l:Addr} {i:Nat} (x:IsIt k h it l i):∃ o,h.get? it=some o∧∀ v,o.data≠.cell v:=by
 cases k with
 | true=>obtain ⟨o,ho,_,d⟩:=(show h.IsListIter it l i from x);exact ⟨o,ho,fun v z=>by rw [d] at z;cases z⟩
 | false=>obtain ⟨o,ho,_,d⟩:=(show h.IsTupleIter it l i from x);exact ⟨o,ho,fun v z=>by rw [d] at z;cases z⟩
theorem h8 {k:Bool} {it l:Addr} {i:Nat} {xs:Array Value} {x:Value} {Q:Value→Shared→Prop} (hi:IsIt k s.heap it l i) (hl:IsSq k s.heap l xs) (hx:xs[i]?=some x)
  (q:∀ h',IsIt k h' it l (i + 1)→Heap.SameBut it s.heap h'→Q x { s with heap:=h' }):wpAny (model prog w) A (Builtin.SmallTypes.nextOf (.ref it)) Q E s:=by
 cases k with
 | true=>exact wpAny_nextOf_list_item hi hl hx q
 | false=>exact mi hi hl hx q
theorem nv {k:Bool} {it l:Addr} {i:Nat} {xs:Array Value} {Q:Value→Shared→Prop} (hh:A.handled=none) (hi:IsIt k s.heap it l i) (hl:IsSq k s.heap l xs) (hx:xs[i]?=none)
  (q:∀ h' e,Heap.ExtBut it s.heap h'→(∃ o,h'.get? e=some o∧o.cls=.type "StopIteration")→E (.ref e) { s with heap:=h' }):wpAny (model prog w) A (Builtin.SmallTypes.nextOf (.ref it)) Q E s:=by
 cases k with
 | true=>exact wpAny_nextOf_list_end hh hi hl hx q
 | false=>exact oQ hh hi hl hx q
theorem oR {k1 k2:Bool} {z TI TO i1 i2 l1 l2:Addr} {i:Nat} {xs ys:Array Value} {x y a b:Value} {Q:Value→Shared→Prop} (D:ZipApart z TI TO i1 i2 l1 l2) (hz:IsZip s.heap z TI TO .none) (hTI:IsPair s.heap TI (.ref i1) (.ref i2)) (hTO:IsPair s.heap TO a b)
  (h1:IsIt k1 s.heap i1 l1 i) (h2:IsIt k2 s.heap i2 l2 i) (g1:IsSq k1 s.heap l1 xs) (g2:IsSq k2 s.heap l2 ys) (hx:xs[i]?=some x) (hy:ys[i]?=some y)
  (q:∀ h',IsZip h' z TI TO (rawInt s.heap.objs.size)→IsPair h' TO x y→IsIt k1 h' i1 l1 (i + 1)→IsIt k2 h' i2 l2 (i + 1)→IsPair h' s.heap.objs.size x y→
   (∀ c o,c≠z→c≠TO→c≠i1→c≠i2→s.heap.get? c=some o→h'.get? c=some o)→Q (.ref s.heap.objs.size) { s with heap:=h' }) :
  wpAny (model prog w) A (Builtin.«zip.__next__» ⟨[.ref z],[]⟩) (fun fin s'=>∃ v,fin=.done (.ret v)∧Q v s') E s:=by
 show wpAny _ _ (field (.ref z) 2 >>= _) _ _ _
 refine wpAny_bind (wpAny_field hz rfl (x:=.bool false) rfl ?_)
 show wpAny _ _ (field (.ref z) 3 >>= _) _ _ _
 refine wpAny_bind (wpAny_field hz rfl (x:=.ref TI) rfl (wpAny_bind (wpAny_seqItems hTI rfl ?_)))
 show wpAny _ _ (Builtin.SmallTypes.ownedTupleIsFree (.ref z) >>= _) _ _ _
 refine wpAny_bind ?_
 unfold Builtin.SmallTypes.ownedTupleIsFree
 refine wpAny_bind (wpAny_field hz rfl (x:=.none) rfl (wpAny_pure ?_))
 rw [if_pos (by rfl)]
 refine wpAny_bind (wpAny_rule (wpAny_bind (wpAny_field hz rfl (x:=.ref TO) rfl (wpAny_bind (wpAny_setField_rec hz (by simp) fun hA zA sA=>?_)))))
 have zA:IsZip hA z TI TO .ellipsis:=zA
 refine wpAny_bind ?_
 simp only [List.zipIdx_cons,List.zipIdx_nil,List.forIn_cons,List.forIn_nil]
 refine wpAny_bind (wpAny_bind (wpAny_onRaise ?_))
 show wpAny _ _ (Builtin.SmallTypes.nextOf (.ref i1) >>= _) _ _ _
 refine wpAny_bind (h8 (h1.at fun o e=>sA.extBut _ _ D.i1z e) (g1.at fun o e=>sA.extBut _ _ D.l1z e) hx fun hB iB sB=>wpAny_pure ?_)
 have tB:IsPair hB TO a b:=sB.extBut _ _ D.TOi1 (sA.extBut _ _ D.TOz hTO)
 refine wpAny_bind (wpAny_seqItems tB rfl (wpAny_bind (wpAny_updateSeq_pair tB fun hC tC sC=>wpAny_bind (wpAny_letGo (wpAny_pure ?_)))))
 have tC:IsPair hC TO x b:=tC
 refine wpAny_bind (wpAny_bind (wpAny_onRaise ?_))
 show wpAny _ _ (Builtin.SmallTypes.nextOf (.ref i2) >>= _) _ _ _
 refine wpAny_bind (h8 (h2.at fun o e=>sC.extBut _ _ D.TOi2.symm (sB.extBut _ _ D.i12.symm (sA.extBut _ _ D.i2z e))) (g2.at fun o e=>sC.extBut _ _ D.l2TO (sB.extBut _ _ D.l2i1 (sA.extBut _ _ D.l2z e))) hy fun hD iD sD=>wpAny_pure ?_)
 have tD:IsPair hD TO x b:=sD.extBut _ _ D.TOi2 tC
 refine wpAny_bind (wpAny_seqItems tD rfl (wpAny_bind (wpAny_updateSeq_pair tD fun hE tE sE=>wpAny_bind (wpAny_letGo (wpAny_pure (wpAny_pure ?_))))))
 have tE:IsPair hE TO x y:=tE
 refine wpAny_bind (wpAny_seqItems tE rfl (wpAny_bind (wpAny_newTuple ?_)))
 have ez:hE.objs.size=s.heap.objs.size:=by rw [sE.1,sD.1,sC.1,sB.1,sA.1]
 have zE:IsZip hE z TI TO .ellipsis:=sE.extBut _ _ D.TOz.symm (sD.extBut _ _ D.i2z.symm (sC.extBut _ _ D.TOz.symm (sB.extBut _ _ D.i1z.symm zA)))
 have kE:∀ c o,c≠z→c≠TO→c≠i1→c≠i2→s.heap.get? c=some o→hE.get? c=some o:=fun c o c1 c2 c3 c4 e=>sE.extBut _ _ c2 (sD.extBut _ _ c4 (sC.extBut _ _ c2 (sB.extBut _ _ c3 (sA.extBut _ _ c1 e))))
 have i1E:IsIt k1 hE i1 l1 (i + 1):=iB.at fun o e=>sE.extBut _ _ D.TOi1.symm (sD.extBut _ _ D.i12 (sC.extBut _ _ D.TOi1.symm e))
 have i2E:IsIt k2 hE i2 l2 (i + 1):=iD.at fun o e=>sE.extBut _ _ D.TOi2.symm e
 show wpAny _ _ (Builtin.SmallTypes.ownedTupleHandOut (.ref z) (.ref hE.objs.size) >>= _) _ _ _
 refine wpAny_bind ?_
 unfold Builtin.SmallTypes.ownedTupleHandOut
 have zF:IsZip (hE.push { cls:=.type "tuple",data:=.seq #[x,y] }) z TI TO .ellipsis:=Heap.get?_push_of_some _ zE
 refine wpAny_bind (wpAny_setField_rec zF (by simp) fun hG zG sG=>?_)
 have zG:IsZip hG z TI TO (rawInt hE.objs.size):=zG
 refine wpAny_setField_rec zG (by simp) fun hK zK sK=>?_
 have zK:IsZip hK z TI TO (rawInt hE.objs.size):=zK
 have up:∀ c o,c≠z→hE.get? c=some o→hK.get? c=some o:=fun c o c1 e=>sK.extBut _ _ c1 (sG.extBut _ _ c1 (Heap.get?_push_of_some _ e))
 have nz:hE.objs.size≠z:=Nat.ne_of_gt (Heap.lt_size zE)
 have tK:IsPair hK hE.objs.size x y:=sK.extBut _ _ nz (sG.extBut _ _ nz (Heap.get?_push_size _ rfl))
 rw [ez] at zK tK
 refine wpAny_pure ⟨_,rfl,?_⟩
 show Q (.ref hE.objs.size) _
 rw [ez]
 exact q hK zK (up _ _ D.TOz tE) (i1E.at fun o e=>up _ o D.i1z e) (i2E.at fun o e=>up _ o D.i2z e) tK fun c o c1 c2 c3 c4 e=>up c o c1 (kE c o c1 c2 c3 c4 e)
theorem qQ {k1 k2:Bool} {z TI TO i1 i2 l1 l2:Addr} {i:Nat} {xs ys:Array Value} {a b:Value} {Q:Fin→Shared→Prop} (hh:A.handled=none) (D:ZipApart z TI TO i1 i2 l1 l2) (hz:IsZip s.heap z TI TO .none) (hTI:IsPair s.heap TI (.ref i1) (.ref i2)) (hTO:IsPair s.heap TO a b)
  (h1:IsIt k1 s.heap i1 l1 i) (h2:IsIt k2 s.heap i2 l2 i) (g1:IsSq k1 s.heap l1 xs) (g2:IsSq k2 s.heap l2 ys) (he:xs[i]?=none∨ys[i]?=none)
  (q:∀ h' e,(∀ c o,c≠z→c≠TO→c≠i1→c≠i2→s.heap.get? c=some o→h'.get? c=some o)→(∃ o,h'.get? e=some o∧o.cls=.type "StopIteration")→E (.ref e) { s with heap:=h' }) :
  wpAny (model prog w) A (Builtin.«zip.__next__» ⟨[.ref z],[]⟩) Q E s:=by
 show wpAny _ _ (field (.ref z) 2 >>= _) _ _ _
 refine wpAny_bind (wpAny_field hz rfl (x:=.bool false) rfl ?_)
 show wpAny _ _ (field (.ref z) 3 >>= _) _ _ _
 refine wpAny_bind (wpAny_field hz rfl (x:=.ref TI) rfl (wpAny_bind (wpAny_seqItems hTI rfl ?_)))
 show wpAny _ _ (Builtin.SmallTypes.ownedTupleIsFree (.ref z) >>= _) _ _ _
 refine wpAny_bind ?_
 unfold Builtin.SmallTypes.ownedTupleIsFree
 refine wpAny_bind (wpAny_field hz rfl (x:=.none) rfl (wpAny_pure ?_))
 rw [if_pos (by rfl)]
 refine wpAny_bind (wpAny_rule (wpAny_bind (wpAny_field hz rfl (x:=.ref TO) rfl (wpAny_bind (wpAny_setField_rec hz (by simp) fun hA zA sA=>?_)))))
 have zA:IsZip hA z TI TO .ellipsis:=zA
 refine wpAny_bind ?_
 simp only [List.zipIdx_cons,List.zipIdx_nil,List.forIn_cons,List.forIn_nil]
 refine wpAny_bind (wpAny_bind (wpAny_onRaise ?_))
 show wpAny _ _ (Builtin.SmallTypes.nextOf (.ref i1) >>= _) _ _ _
 cases hx:xs[i]? with
 | none=>
  refine wpAny_bind (nv hh (h1.at fun o e=>sA.extBut _ _ D.i1z e) (g1.at fun o e=>sA.extBut _ _ D.l1z e) hx fun hB e sB hqq=>?_)
  obtain ⟨oe,ge,ce⟩:=hqq
  have zB:IsZip hB z TI TO .ellipsis:=sB _ _ D.i1z.symm zA
  have ne:e≠z:=fun x=>by subst x;rw [zB] at ge;cases ge;simp at ce
  exact wpAny_setField_rec zB (by simp) fun hC _ sC=>q hC e (fun c o c1 _ c3 _ x=>sC.extBut _ _ c1 (sB _ _ c3 (sA.extBut _ _ c1 x))) ⟨oe,sC.extBut _ _ ne ge,ce⟩
 | some x=>
  have hy:ys[i]?=none:=by
   rcases he with z | z
   ·rw [hx] at z;cases z
   ·exact z
  refine wpAny_bind (h8 (h1.at fun o e=>sA.extBut _ _ D.i1z e) (g1.at fun o e=>sA.extBut _ _ D.l1z e) hx fun hB iB sB=>wpAny_pure ?_)
  have tB:IsPair hB TO a b:=sB.extBut _ _ D.TOi1 (sA.extBut _ _ D.TOz hTO)
  refine wpAny_bind (wpAny_seqItems tB rfl (wpAny_bind (wpAny_updateSeq_pair tB fun hC tC sC=>wpAny_bind (wpAny_letGo (wpAny_pure ?_)))))
  refine wpAny_bind (wpAny_bind (wpAny_onRaise ?_))
  show wpAny _ _ (Builtin.SmallTypes.nextOf (.ref i2) >>= _) _ _ _
  refine wpAny_bind (nv hh (h2.at fun o e=>sC.extBut _ _ D.TOi2.symm (sB.extBut _ _ D.i12.symm (sA.extBut _ _ D.i2z e))) (g2.at fun o e=>sC.extBut _ _ D.l2TO (sB.extBut _ _ D.l2i1 (sA.extBut _ _ D.l2z e))) hy fun hD e sD hqq=>?_)
  obtain ⟨oe,ge,ce⟩:=hqq
  have zD:IsZip hD z TI TO .ellipsis:=sD _ _ D.i2z.symm (sC.extBut _ _ D.TOz.symm (sB.extBut _ _ D.i1z.symm zA))
  have ne:e≠z:=fun x=>by subst x;rw [zD] at ge;cases ge;simp at ce
  exact wpAny_setField_rec zD (by simp) fun hF _ sF=>q hF e (fun c o c1 c2 c3 c4 x=>sF.extBut _ _ c1 (sD _ _ c4 (sC.extBut _ _ c2 (sB.extBut _ _ c3 (sA.extBut _ _ c1 x))))) ⟨oe,sF.extBut _ _ ne ge,ce⟩
end
noncomputable def itObj (k:Bool) (l:Addr):Obj:=match k with
 | true=>{ cls:=.type "list_iterator",data:=.fields #[.ref l,.int 0 0] }
 | false=>{ cls:=.type "tuple_iterator",data:=.fields #[.ref l,.int 0 0] }
theorem iO (k:Bool) (h:Heap) (l:Addr):IsIt k (h.push (itObj k l)) h.objs.size l 0:=by
 cases k with
 | true=>exact ⟨_,Heap.get?_push_size _ rfl,rfl,rfl⟩
 | false=>exact ⟨_,Heap.get?_push_size _ rfl,rfl,rfl⟩
abbrev zA (h:Heap) (k1:Bool) (l1:Addr):Heap:=h.push (itObj k1 l1)
abbrev zB (h:Heap) (k1 k2:Bool) (l1 l2:Addr):Heap:=(zA h k1 l1).push (itObj k2 l2)
abbrev zC (h:Heap) (k1 k2:Bool) (l1 l2:Addr):Heap:=(zB h k1 k2 l1 l2).push { cls:=.type "tuple",data:=.seq #[.ref h.objs.size,.ref (zA h k1 l1).objs.size] }
abbrev zD (h:Heap) (k1 k2:Bool) (l1 l2:Addr):Heap:=(zC h k1 k2 l1 l2).push { cls:=.type "tuple",data:=.seq #[.none,.none] }
abbrev zE (h:Heap) (k1 k2:Bool) (l1 l2:Addr):Heap:=(zD h k1 k2 l1 l2).push { cls:=.type "zip",data:=.fields #[.none,.bool false,.bool false,.ref (zB h k1 k2 l1 l2).objs.size,.ref (zC h k1 k2 l1 l2).objs.size] }
set_option maxHeartbeats 8000000 in
theorem qR (k1 k2:Bool) (l1 l2:Addr) (xs ys:Array Value) :
  Meets (Builtin.«zip.__new__» ⟨[.type "zip",.ref l1,.ref l2],[]⟩) (fun _ R s=>IsSq k1 s.heap l1 xs∧IsSq k2 s.heap l2 ys∧R (.ok (.ret (.ref (zD s.heap k1 k2 l1 l2).objs.size))) { s with heap:=zE s.heap k1 k2 l1 l2 }):=
 .of_wp fun prog w A R s h=>by
  obtain ⟨hp,g,d,tk,os⟩:=s
  obtain ⟨g1,g2,q⟩:=h
  have hsub:=sub_zip
  cases k1 with
  | true=>
   have e1:Heap.IsList (Shared.heap ⟨hp,g,d,tk,os⟩) l1 xs:=g1
   cases k2 with
   | true=>
    have e2:Heap.IsList (Shared.heap ⟨hp.push { cls:=.type "list_iterator",data:=.fields #[.ref l1,.int 0 0] },g,d,tk,os⟩) l2 ys:=Heap.IsList.push g2 _
    wp_walk using wpAny_pyIter_list e1,wpAny_pyIter_list e2
    exact ⟨_,rfl,q⟩
   | false=>
    have e2:Heap.IsTuple (Shared.heap ⟨hp.push { cls:=.type "list_iterator",data:=.fields #[.ref l1,.int 0 0] },g,d,tk,os⟩) l2 ys:=Heap.IsTuple.push g2 _
    wp_walk using wpAny_pyIter_list e1,wpAny_pyIter_tuple e2
    exact ⟨_,rfl,q⟩
  | false=>
   have e1:Heap.IsTuple (Shared.heap ⟨hp,g,d,tk,os⟩) l1 xs:=g1
   cases k2 with
   | true=>
    have e2:Heap.IsList (Shared.heap ⟨hp.push { cls:=.type "tuple_iterator",data:=.fields #[.ref l1,.int 0 0] },g,d,tk,os⟩) l2 ys:=Heap.IsList.push g2 _
    wp_walk using wpAny_pyIter_tuple e1,wpAny_pyIter_list e2
    exact ⟨_,rfl,q⟩
   | false=>
    have e2:Heap.IsTuple (Shared.heap ⟨hp.push { cls:=.type "tuple_iterator",data:=.fields #[.ref l1,.int 0 0] },g,d,tk,os⟩) l2 ys:=Heap.IsTuple.push g2 _
    wp_walk using wpAny_pyIter_tuple e1,wpAny_pyIter_tuple e2
    exact ⟨_,rfl,q⟩
def ZS (k1 k2:Bool) (z TI TO i1 i2 l1 l2:Addr) (i:Nat) (h:Heap):Prop:=IsZip h z TI TO .none∧IsPair h TI (.ref i1) (.ref i2)∧(∃ a b,IsPair h TO a b)∧IsIt k1 h i1 l1 i∧IsIt k2 h i2 l2 i
theorem oS {prog:Program} {w:World} {A:Around} {E:Value→Shared→Prop} {s:Shared} {k1 k2:Bool} {l1 l2:Addr} {xs ys:Array Value} {Q:Value→Shared→Prop} (g1:IsSq k1 s.heap l1 xs) (g2:IsSq k2 s.heap l2 ys)
  (q:∀ h',ZS k1 k2 (s.heap.objs.size + 4) (s.heap.objs.size + 2) (s.heap.objs.size + 3) s.heap.objs.size (s.heap.objs.size + 1) l1 l2 0 h'→(∀ c o,s.heap.get? c=some o→h'.get? c=some o)→Q (.ref (s.heap.objs.size + 4)) { s with heap:=h' }) :
  wpAny (model prog w) A (call (.type "zip") [.ref l1,.ref l2]) Q E s:=by
 refine callType_new F.called_zip (by decide) (F.typeCall_zip_2 _ _) (F.newCall_zip_2 _ _) (fun obj=>F.args_object_init_3 obj _ _) F.entry_zip_new (qR k1 k2 l1 l2 xs ys) ⟨g1,g2,?_⟩
 have nA:(zA s.heap k1 l1).objs.size=s.heap.objs.size + 1:=Heap.size_push ..
 have nB:(zB s.heap k1 k2 l1 l2).objs.size=s.heap.objs.size + 2:=by rw [Heap.size_push,nA]
 have nC:(zC s.heap k1 k2 l1 l2).objs.size=s.heap.objs.size + 3:=by rw [Heap.size_push,nB]
 have nD:(zD s.heap k1 k2 l1 l2).objs.size=s.heap.objs.size + 4:=by rw [Heap.size_push,nC]
 have pu:∀ {h:Heap} {o:Obj} {c:Addr} {v:Obj},h.get? c=some v→(h.push o).get? c=some v:=fun e=>Heap.get?_push_of_some _ e
 have gz:(zE s.heap k1 k2 l1 l2).get? (zD s.heap k1 k2 l1 l2).objs.size=some _:=Heap.get?_push_size _ rfl
 have go:(zE s.heap k1 k2 l1 l2).get? (zC s.heap k1 k2 l1 l2).objs.size=some _:=pu (Heap.get?_push_size _ rfl)
 have gi:(zE s.heap k1 k2 l1 l2).get? (zB s.heap k1 k2 l1 l2).objs.size=some _:=pu (pu (Heap.get?_push_size _ rfl))
 have j2:IsIt k2 (zE s.heap k1 k2 l1 l2) (zA s.heap k1 l1).objs.size l2 0:=(iO k2 (zA s.heap k1 l1) l2).at fun o e=>pu (pu (pu e))
 have j1:IsIt k1 (zE s.heap k1 k2 l1 l2) s.heap.objs.size l1 0:=(iO k1 s.heap l1).at fun o e=>pu (pu (pu (pu e)))
 show _∧_
 rw [nB,nC,nD] at gz
 rw [nA,nB] at gi
 rw [nC] at go
 rw [nA] at j2
 rw [nD]
 exact ⟨⟨_,gz,rfl⟩,q _ ⟨gz,gi,⟨_,_,go⟩,j1,j2⟩ fun c o x=>pu (pu (pu (pu (pu x))))⟩
noncomputable def Itz (K:W.Frag) (k1 k2:Bool) (a b:Addr):It:=
 ⟨fun i H=>∃ xs ys x y,(if k1 then SqL K H a xs else SqT K H a xs)∧(if k2 then SqL K H b ys else SqT K H b ys)∧xs[i]?=some x∧ys[i]?=some y,
  fun i H v H'=>∃ T,H T=none∧v=.ref T∧∀ xs ys x y,(if k1 then SqL K H a xs else SqT K H a xs)→(if k2 then SqL K H b ys else SqT K H b ys)→xs[i]?=some x→ys[i]?=some y→H'=upd H T (.tup [x,y]),
  fun i H=>∃ xs ys,(if k1 then SqL K H a xs else SqT K H a xs)∧(if k2 then SqL K H b ys else SqT K H b ys)∧i=min xs.length ys.length⟩
section
variable {X:Cx} {pins:List (Addr×Obj)} {σ:L2.St} {H:Hp} {s:Shared}
theorem jw (I:Inv X pins σ H s) {k:Bool} {a:Addr} {xs:List V} (h:if k then SqL X.K H a xs else SqT X.K H a xs):∃ us:List Value,Vals xs us∧IsSq k s.heap a us.toArray:=by
 cases k with
 | true=>
  obtain ⟨us,r,p,_⟩:=I.list (show SqL X.K H a xs from h)
  exact ⟨us,r,p.isList⟩
 | false=>
  obtain ⟨us,r,p,_⟩:=I.tuple (show SqT X.K H a xs from h)
  exact ⟨us,r,(show s.heap.IsTuple a us.toArray from p)⟩
theorem ny (I:Inv X pins σ H s) {k:Bool} {a:Addr} {xs ys:List V} (h:if k then SqL X.K H a xs else SqT X.K H a xs) (h':if k then SqL X.K H a ys else SqT X.K H a ys):xs=ys:=by
 cases k with
 | true=>exact I.list_inj (show SqL X.K H a xs from h) (show SqL X.K H a ys from h')
 | false=>exact I.tuple_inj (show SqT X.K H a xs from h) (show SqT X.K H a ys from h')
theorem cF (I:Inv X pins σ H s) {k:Bool} {a b:Addr} {xs:List V} (h:if k then SqL X.K H a xs else SqT X.K H a xs) (f:g7 X pins H b):a≠b:=by
 rintro rfl
 obtain ⟨f0,_,_,f3,_⟩:=f
 have nb:∀ o,X.K.lookup a=some o→False:=fun o hk=>by
  have e:=I.ok.mod.kin a o hk
  rcases f3 with z | z
  ·exact I.ok.noex a o e z
  ·exact absurd (Nat.lt_of_lt_of_le (Heap.lt_size e) (Nat.le_trans I.ok.bsz z)) (Nat.lt_irrefl _)
 cases k with
 | true=>
  rcases (show SqL X.K H a xs from h) with (h | ⟨o,h⟩) | ⟨o,its,n,hk,_⟩
  ·rw [f0] at h;cases h
  ·rw [f0] at h;cases h
  ·exact nb o hk
 | false=>
  rcases (show SqT X.K H a xs from h) with (h | ⟨o,h⟩) | ⟨o,its,n,hk,_⟩
  ·rw [f0] at h;cases h
  ·rw [f0] at h;cases h
  ·exact nb o hk
end
theorem nx_zip_item {prog:Program} {w:World} {A:Around} {E:Value→Shared→Prop} {s:Shared} {k1 k2:Bool} {z TI TO i1 i2 l1 l2:Addr} {i:Nat} {xs ys:Array Value} {x y:Value} {Q:Option Value→Shared→Prop} (D:ZipApart z TI TO i1 i2 l1 l2) (st:ZS k1 k2 z TI TO i1 i2 l1 l2 i s.heap)
  (g1:IsSq k1 s.heap l1 xs) (g2:IsSq k2 s.heap l2 ys) (hx:xs[i]?=some x) (hy:ys[i]?=some y)
  (q:∀ h',IsZip h' z TI TO (rawInt s.heap.objs.size)→IsPair h' TO x y→IsIt k1 h' i1 l1 (i + 1)→IsIt k2 h' i2 l2 (i + 1)→IsPair h' s.heap.objs.size x y→
   (∀ c o,c≠z→c≠TO→c≠i1→c≠i2→s.heap.get? c=some o→h'.get? c=some o)→Q (some (.ref s.heap.objs.size)) { s with heap:=h' }):wpAny (model prog w) A (pyNext (.ref z)) Q E s:=by
 obtain ⟨hz,hTI,⟨a,b,hTO⟩,h1,h2⟩:=st
 have ty:s.TypeIs (.ref z) "zip":=⟨_,hz,rfl⟩
 unfold pyNext
 exact wpAny_bind (wpAny_attempt (wpAny_callSpecial?_slot (name:=Str.ofString "__next__") ty F.slot_zip_next (wpAny_call_entry F.slot_zip_next ty F.entry_zip_next (oR D hz hTI hTO h1 h2 g1 g2 hx hy fun h' a1 a2 a3 a4 a5 a6=>wpAny_pure (q h' a1 a2 a3 a4 a5 a6)) (F.args_zip_next_1 _))))
theorem jx {prog:Program} {w:World} {A:Around} {E:Value→Shared→Prop} {s:Shared} {k1 k2:Bool} {z TI TO i1 i2 l1 l2:Addr} {i:Nat} {xs ys:Array Value} {Q:Option Value→Shared→Prop} (hh:A.handled=none) (D:ZipApart z TI TO i1 i2 l1 l2) (st:ZS k1 k2 z TI TO i1 i2 l1 l2 i s.heap)
  (g1:IsSq k1 s.heap l1 xs) (g2:IsSq k2 s.heap l2 ys) (he:xs[i]?=none∨ys[i]?=none) (q:∀ h',(∀ c o,c≠z→c≠TO→c≠i1→c≠i2→s.heap.get? c=some o→h'.get? c=some o)→Q none { s with heap:=h' }):wpAny (model prog w) A (pyNext (.ref z)) Q E s:=by
 obtain ⟨hz,hTI,⟨a,b,hTO⟩,h1,h2⟩:=st
 have ty:s.TypeIs (.ref z) "zip":=⟨_,hz,rfl⟩
 unfold pyNext
 refine wpAny_bind (wpAny_attempt (wpAny_callSpecial?_slot (name:=Str.ofString "__next__") ty F.slot_zip_next (wpAny_call_entry F.slot_zip_next ty F.entry_zip_next (qQ hh D hz hTI hTO h1 h2 g1 g2 he fun h' e kk ⟨o,ho,oc⟩=>?_) (F.args_zip_next_1 _))))
 exact wpAny_bind (wpAny_isInstance (T:="StopIteration") (b:=true) ⟨o,ho,oc⟩ isSubtype_stop (wpAny_pure (q _ kk)))
theorem mj {P:Program} {w:World} {K:W.Frag} {es:List Expr} {kt:Nat} {pt:Pos} (k1 k2:Bool) (a b z TI TO i1 i2:Addr) (ne:z≠TI∧z≠TO∧z≠i1∧z≠i2∧TI≠TO∧TI≠i1∧TI≠i2∧TO≠i1∧TO≠i2∧i1≠i2) :
  Turn P w K (.Tuple es kt pt) (Itz K k1 k2 a b) [z,TI,TO,i1,i2] z (ZS k1 k2 z TI TO i1 i2 a b) where
 mem:=by simp
 obj:=fun i h st c hc=>by
  obtain ⟨hz,hTI,⟨x,y,hTO⟩,h1,h2⟩:=st
  simp only [List.mem_cons,List.not_mem_nil,or_false] at hc
  rcases hc with rfl | rfl | rfl | rfl | rfl
  ·exact ⟨_,hz,fun v q=>by cases q⟩
  ·exact ⟨_,hTI,fun v q=>by cases q⟩
  ·exact ⟨_,hTO,fun v q=>by cases q⟩
  ·exact h1.obj
  ·exact h2.obj
 keep:=fun i h h' st k=>by
  obtain ⟨hz,hTI,⟨x,y,hTO⟩,h1,h2⟩:=st
  exact ⟨k z (by simp) _ hz,k TI (by simp) _ hTI,⟨x,y,k TO (by simp) _ hTO⟩,h1.at fun o e=>k i1 (by simp) o e,h2.at fun o e=>k i2 (by simp) o e⟩
 item:=by
  intro X hP hw hK hc i pins s σ H E I hf st hg
  subst hP hw hK
  obtain ⟨xs,ys,x,y,s1,s2,hx,hy⟩:=hg
  obtain ⟨us,r1,q1⟩:=jw I s1
  obtain ⟨ws,r2,q2⟩:=jw I s2
  obtain ⟨u,hu,ru⟩:=r1.get hx
  obtain ⟨v,hv,rv⟩:=r2.get hy
  obtain ⟨n1,n2,n3,n4,n5,n6,n7,n8,n9,n10⟩:=ne
  have f:=fun c hc=>hf c hc
  have D:ZipApart z TI TO i1 i2 a b:=⟨n1.symm,n2.symm,n3.symm,n4.symm,n5,n6,n7,n8,n9,n10,cF I s1 (f z (by simp)),cF I s1 (f TO (by simp)),cF I s1 (f i1 (by simp)),cF I s1 (f i2 (by simp)),
   cF I s2 (f z (by simp)),cF I s2 (f TO (by simp)),cF I s2 (f i1 (by simp)),cF I s2 (f i2 (by simp))⟩
  have hTI:=st.2.1
  refine nx_zip_item D st q1 q2 (by simpa using hu) (by simpa using hv) fun h' z1 t1 j1 j2 tp kk=>⟨_,rfl,?_⟩
  refine wpAny_letOwnedTupleGo_zip z1 fun h2 z2 sb=>?_
  have nT:H s.heap.objs.size=none:=I.hok.fresh (Nat.le_refl _)
  have tT:s.heap.objs.size≠z:=Nat.ne_of_gt (Heap.lt_size st.1)
  have all:∀ c o,c≠z→c≠TO→c≠i1→c≠i2→s.heap.get? c=some o→h2.get? c=some o:=fun c o c1 c2 c3 c4 e=>(sb.2 c c1).trans (kk c o c1 c2 c3 c4 e)
  have fz:=f z (by simp)
  have fo:=f TO (by simp)
  have f1:=f i1 (by simp)
  have f2:=f i2 (by simp)
  have nott:∀ c ob,H c=some ob→c≠z∧c≠TO∧c≠i1∧c≠i2:=fun c ob e=>⟨(fun q=>by rw [q,fz.1] at e;cases e),(fun q=>by rw [q,fo.1] at e;cases e),(fun q=>by rw [q,f1.1] at e;cases e),(fun q=>by rw [q,f2.1] at e;cases e)⟩
  refine ⟨.ref s.heap.objs.size,upd H s.heap.objs.size (.tup [x,y]),?_,rfl,⟨_,nT,rfl,fun xs' ys' x' y' a1 a2 a3 a4=>?_⟩,⟨z2,?_,⟨u,v,(sb.2 TO n2.symm).trans t1⟩,j1.at fun o e=>(sb.2 i1 n3.symm).trans e,j2.at fun o e=>(sb.2 i2 n4.symm).trans e⟩,fun c hc=>?_⟩
  ·have tup2:h2.get? s.heap.objs.size=some { cls:=.type "tuple",data:=.seq #[u,v] }:=(sb.2 _ tT).trans tp
   have S0:Inv X pins σ (upd H s.heap.objs.size (.tup [x,y])) { s with heap:=h2,gens:=s.gens,drawn:=s.drawn,toks:=s.toks }:=by
    refine I.step (ch:=[z,TO,i1,i2]) (fun c hc=>?_) (fun c o _ _ nc e _=>all c o (fun q=>nc (by simp [q])) (fun q=>nc (by simp [q])) (fun q=>nc (by simp [q])) (fun q=>nc (by simp [q])) e)
     (fun c o _ _ nc e _=>⟨o.slots,all c o (fun q=>nc (by simp [q])) (fun q=>nc (by simp [q])) (fun q=>nc (by simp [q])) (fun q=>nc (by simp [q])) e⟩) (fun c o _ e n=>by rw [ak (Nat.ne_of_lt (Heap.lt_size e))];exact n)
     (fun c o nc e=>⟨o,all c o (fun q=>nc (by simp [q])) (fun q=>nc (by simp [q])) (fun q=>nc (by simp [q])) (fun q=>nc (by simp [q])) e⟩) (fun c l e=>by rw [ak (aw e nT)];exact e) (fun c o u' e=>by rw [ak (aw e nT)];exact e)
     (fun c ps e=>⟨#[],by rw [ak (aw e nT),e];simp⟩) (fun m hm=>?_) (fun c ob e=>?_) I.bare
    ·simp only [List.mem_cons,List.not_mem_nil,or_false] at hc
     rcases hc with rfl | rfl | rfl | rfl
     ·exact ⟨fz.2.2.2.1,fz.2.1,fz.2.2.2.2.1,fz.2.2.2.2.2⟩
     ·exact ⟨fo.2.2.2.1,fo.2.1,fo.2.2.2.2.1,fo.2.2.2.2.2⟩
     ·exact ⟨f1.2.2.2.1,f1.2.1,f1.2.2.2.2.1,f1.2.2.2.2.2⟩
     ·exact ⟨f2.2.2.2.1,f2.2.1,f2.2.2.2.2.1,f2.2.2.2.2.2⟩
    ·obtain ⟨o,es,ep,ho,r⟩:=hm
     exact ⟨o,es,ep,all _ o (Ne.symm fz.2.1) (Ne.symm fo.2.1) (Ne.symm f1.2.1) (Ne.symm f2.2.1) ho,r⟩
    ·by_cases ec:c=s.heap.objs.size
     ·subst ec
      rw [aX] at e
      cases e
      exact ⟨by simp only [List.length_cons,List.length_nil];rw [sizeLine_eq];decide,[u,v],.cons ru (.cons rv .nil),⟨_,tup2,rfl,⟨0,rfl⟩,rfl⟩⟩
     ·rw [ak ec] at e
      refine (I.hok c ob e).stay (fun d w' hd q=>?_) (fun d q=>by rw [ak (aw q nT)];exact q) fun d l q=>by rw [ak (aw q nT)];exact q
      have hd':∃ oo,H d=some oo:=by
       rcases hd with rfl | hd
       ·exact ⟨_,e⟩
       ·exact ⟨_,hd⟩
      obtain ⟨oo,hoo⟩:=hd'
      obtain ⟨m1,m2,m3,m4⟩:=nott d oo hoo
      exact all d w' m1 m2 m3 m4 q
   exact S0
  ·have e1:=ny I a1 s1
   have e2:=ny I a2 s2
   subst e1 e2
   rw [hx] at a3
   rw [hy] at a4
   cases a3
   cases a4
   rfl
  ·exact (sb.2 TI n1.symm).trans (kk TI _ n1.symm n5 n6 n7 hTI)
  ·have hc0:=(f c hc).1
   have cs:c≠s.heap.objs.size:=by
    have:=(fun i h st=>by
     exact (by
      obtain ⟨hz,hTI,⟨x,y,hTO⟩,h1,h2⟩:=st
      simp only [List.mem_cons,List.not_mem_nil,or_false] at hc
      rcases hc with rfl | rfl | rfl | rfl | rfl
      ·exact ⟨_,hz⟩
      ·exact ⟨_,hTI⟩
      ·exact ⟨_,hTO⟩
      ·obtain ⟨o,e,_⟩:=h1.obj;exact ⟨o,e⟩
      ·obtain ⟨o,e,_⟩:=h2.obj;exact ⟨o,e⟩:∃ o,h.get? c=some o):∀ i h,ZS k1 k2 z TI TO i1 i2 a b i h→∃ o,h.get? c=some o) i s.heap st
    obtain ⟨o,e⟩:=this
    exact Nat.ne_of_lt (Heap.lt_size e)
   rw [ak cs]
   exact hc0
 done:=by
  intro X hP hw hK hc i pins s σ H E I hf st hg
  subst hP hw hK
  obtain ⟨xs,ys,s1,s2,hi⟩:=hg
  obtain ⟨us,r1,q1⟩:=jw I s1
  obtain ⟨ws,r2,q2⟩:=jw I s2
  have l1:=r1.length
  have l2:=r2.length
  obtain ⟨n1,n2,n3,n4,n5,n6,n7,n8,n9,n10⟩:=ne
  have f:=fun c hc=>hf c hc
  have D:ZipApart z TI TO i1 i2 a b:=⟨n1.symm,n2.symm,n3.symm,n4.symm,n5,n6,n7,n8,n9,n10,cF I s1 (f z (by simp)),cF I s1 (f TO (by simp)),cF I s1 (f i1 (by simp)),cF I s1 (f i2 (by simp)),
   cF I s2 (f z (by simp)),cF I s2 (f TO (by simp)),cF I s2 (f i1 (by simp)),cF I s2 (f i2 (by simp))⟩
  have fz:=f z (by simp)
  have fo:=f TO (by simp)
  have f1:=f i1 (by simp)
  have f2:=f i2 (by simp)
  refine jx (I.ok.hd hc) D st q1 q2 (by
   rcases Nat.le_total us.length ws.length with q | q
   ·exact .inl (by simp;lia)
   ·exact .inr (by simp;lia)) fun h' kk=>⟨rfl,?_⟩
  have nott:∀ c ob,H c=some ob→c≠z∧c≠TO∧c≠i1∧c≠i2:=fun c ob e=>⟨(fun q=>by rw [q,fz.1] at e;cases e),(fun q=>by rw [q,fo.1] at e;cases e),(fun q=>by rw [q,f1.1] at e;cases e),(fun q=>by rw [q,f2.1] at e;cases e)⟩
  have S0:Inv X pins σ H { s with heap:=h',gens:=s.gens,drawn:=s.drawn,toks:=s.toks }:=by
   refine I.step (ch:=[z,TO,i1,i2]) (fun c hc=>?_) (fun c o _ _ nc e _=>kk c o (fun q=>nc (by simp [q])) (fun q=>nc (by simp [q])) (fun q=>nc (by simp [q])) (fun q=>nc (by simp [q])) e)
    (fun c o _ _ nc e _=>⟨o.slots,kk c o (fun q=>nc (by simp [q])) (fun q=>nc (by simp [q])) (fun q=>nc (by simp [q])) (fun q=>nc (by simp [q])) e⟩) (fun c o _ e n=>n)
    (fun c o nc e=>⟨o,kk c o (fun q=>nc (by simp [q])) (fun q=>nc (by simp [q])) (fun q=>nc (by simp [q])) (fun q=>nc (by simp [q])) e⟩) (fun c l e=>e) (fun c o u' e=>e)
    (fun c ps e=>⟨#[],by rw [e];simp⟩) (fun m hm=>?_) (fun c ob e=>?_) I.bare
   ·simp only [List.mem_cons,List.not_mem_nil,or_false] at hc
    rcases hc with rfl | rfl | rfl | rfl
    ·exact ⟨fz.2.2.2.1,fz.2.1,fz.2.2.2.2.1,fz.2.2.2.2.2⟩
    ·exact ⟨fo.2.2.2.1,fo.2.1,fo.2.2.2.2.1,fo.2.2.2.2.2⟩
    ·exact ⟨f1.2.2.2.1,f1.2.1,f1.2.2.2.2.1,f1.2.2.2.2.2⟩
    ·exact ⟨f2.2.2.2.1,f2.2.1,f2.2.2.2.2.1,f2.2.2.2.2.2⟩
   ·obtain ⟨o,es,ep,ho,r⟩:=hm
    exact ⟨o,es,ep,kk _ o (Ne.symm fz.2.1) (Ne.symm fo.2.1) (Ne.symm f1.2.1) (Ne.symm f2.2.1) ho,r⟩
   ·refine (I.hok c ob e).stay (fun d w' hd q=>?_) (fun d q=>q) fun d l q=>q
    have hd':∃ oo,H d=some oo:=by
     rcases hd with rfl | hd
     ·exact ⟨_,e⟩
     ·exact ⟨_,hd⟩
    obtain ⟨oo,hoo⟩:=hd'
    obtain ⟨m1,m2,m3,m4⟩:=nott d oo hoo
    exact kk d w' m1 m2 m3 m4 q
  exact S0
 self:=fun _ _ _ _ _ st h=>wpAny_pyIter_zip st.1 h
section
variable {X:Cx} {es:List Expr} {kt:Nat} {pt:Pos}
noncomputable def vR (K:W.Frag) (k1 k2:Bool) (ta:TA):TI:=fun σ H R=>ta σ H fun vs H1=>∃ a b xs ys,vs=[.ref a,.ref b]∧(if k1 then SqL K H1 a xs else SqT K H1 a xs)∧(if k2 then SqL K H1 b ys else SqT K H1 b ys)∧R (Itz K k1 k2 a b) H1
theorem qS (k1 k2:Bool) {e1 e2:Expr} {ta:TA} {p pos:Pos} (hg:Gl X "zip") (hm:X.mg "zip" = none) (ha:PA X [e1,e2] ta) (he:starEach [e1,e2] X.env=(false,eval e1 X.env) :: starEach [e2] X.env:=by rfl) (hpl:(backTo pos (starEach [e2] X.env)).any (·.1)=false:=by rfl) :
  PI X (.Tuple es kt pt) (.Call (.Name "zip" p) [e1,e2] [] pos) (vR X.K k1 k2 ta):=by
 intro pins s σ H R I h
 refine wpAny_Call_Name_kw (dU I hg hm (by decide +kernel:bootBuiltins "zip" = some (.type "zip")) ?_ (by decide) (by decide))
 refine PyProof.Rows.callWith_type1 (thn (ha pos pins s σ H _ I h) fun us s1 ⟨vs,H1,I1,r1,a,b,xs,ys,e,s1',s2',q⟩=>?_) he hpl
 subst e
 obtain ⟨u,w',rfl,ra,rb⟩:=qx r1
 cases ra
 cases rb
 obtain ⟨us,v1,q1⟩:=jw I1 s1'
 obtain ⟨ws,v2,q2⟩:=jw I1 s2'
 refine oS q1 q2 fun h' st kk=>?_
 refine wpAny_pyIter_zip st.1 ?_
 have fr:∀ j,g7 X pins H1 (s1.heap.objs.size + j):=fun j=>I1.fpOk (Nat.le_add_right _ _) (I1.hok.fresh (Nat.le_add_right _ _))
 have nn:∀ i j:Nat,i≠j→s1.heap.objs.size + i≠s1.heap.objs.size + j:=fun i j h z=>h (Nat.add_left_cancel z)
 refine ⟨_,_,_,_,H1,rfl,I1.kept (t':=s1.toks) kk,mj k1 k2 a b (s1.heap.objs.size + 4) (s1.heap.objs.size + 2) (s1.heap.objs.size + 3) (s1.heap.objs.size + 0) (s1.heap.objs.size + 1)
  ⟨nn 4 2 (by decide),nn 4 3 (by decide),nn 4 0 (by decide),nn 4 1 (by decide),nn 2 3 (by decide),nn 2 0 (by decide),nn 2 1 (by decide),nn 3 0 (by decide),nn 3 1 (by decide),nn 0 1 (by decide)⟩,st,fun c hc=>?_,q⟩
 simp only [List.mem_cons,List.not_mem_nil,or_false] at hc
 rcases hc with rfl | rfl | rfl | rfl | rfl
 ·exact fr 4
 ·exact fr 2
 ·exact fr 3
 ·exact fr 0
 ·exact fr 1
end
end NX
namespace NX
open PySem PySem.W PyProof.Rows
section
variable {n:Nat} {O:KeyOrd} {κ:Nat→O.α} {cmp:Nat→Nat→(Bool→Shared→Prop)→Shared→Prop} {Good:Shared→Prop}
noncomputable def kk (κ:Nat→O.α) (p:Array Nat) (i:Nat):O.α:=κ (p.getD i 0)
structure POk (n:Nat) (p:Array Nat):Prop where
 perm:p.toList.Perm (List.range n)
theorem POk.size {p:Array Nat} (h:POk n p):p.size=n:=by
 have:=h.perm.length_eq
 simpa using this
theorem POk.lt {p:Array Nat} (h:POk n p) {i:Nat} (hi:i < n):p.getD i 0 < n:=by
 have hs:=h.size
 have hi':i < p.size:=by lia
 have e:p.getD i 0=p[i]:=by simp [Array.getD,hi']
 rw [e]
 exact List.mem_range.mp (h.perm.mem_iff.mp (Array.getElem_mem_toList hi'))
variable (hc:∀ i j,i < n→j < n→∀ (Q:Bool→Shared→Prop) s,Good s→(∀ s',Good s'→Q (O.blt (κ i) (κ j)) s')→cmp i j Q s)
include hc
end
end NX
namespace NX
open PySem PySem.W PySem.Spec PyProof.Rows L2
section
variable {prog:Program} {w:World} {A:Around} {E:Value→Shared→Prop} {s:Shared}
end
noncomputable def intO:KeyOrd where
 α:=Int
 blt a b:=decide (a < b)
 irrefl a:=by simp
 trans a b c h1 h2:=by simp only [decide_eq_true_eq] at *;lia
 negTrans a b c h:=by simp only [decide_eq_true_eq] at *;lia
 total a b h1 h2:=by simp only [decide_eq_false_iff_not] at *;lia
noncomputable def ua:KeyOrd where
 α:=Key
 blt a b:=match a,b with
  | .inl i,.inl j=>decide (i < j)
  | .inr x,.inr y=>decide (x.cps.toList < y.cps.toList)
  | .inl _,.inr _=>true
  | .inr _,.inl _=>false
 irrefl a:=by
  cases a with
  | inl i=>simp
  | inr x=>simpa using List.lt_irrefl x.cps.toList
 trans a b c h1 h2:=by
  cases a <;> cases b <;> cases c <;> simp_all
  ·lia
  ·exact List.lt_trans h1 h2
 negTrans a b c h:=by
  cases a <;> cases b <;> cases c <;> simp_all
  ·lia
  ·rename_i x y z
   by_cases q:x.cps.toList < y.cps.toList
   ·exact .inl q
   ·exact .inr (List.lt_of_le_of_lt (List.not_lt.mp q) h)
 total a b h1 h2:=by
  cases a <;> cases b <;> simp_all
  ·lia
  ·rename_i x y
   have e:x.cps.toList=y.cps.toList:=List.le_antisymm (by first | exact h2 | exact List.not_lt.mp h2) (by first | exact h1 | exact List.not_lt.mp h1)
   rw [←ju x,←ju y,e]
noncomputable def iP:List Key→List Key→Bool
 | [],[]=>false
 | [],_ :: _=>true
 | _ :: _,[]=>false
 | a :: r,b :: t=>if a=b then iP r t else ua.blt a b
section
variable {O:KeyOrd}
end
section
variable {X:Cx}
end
noncomputable def kinds (k:List Key):List Bool:=k.map fun x=>x.isLeft
section
variable {prog:Program} {w:World} {A:Around} {s:Shared}
theorem oT (a b:Key):eqV (kV a) (kV b)=decide (a=b):=by
 cases a <;> cases b <;> (rw [Bool.eq_iff_iff];simp [kV,eqV])
theorem iQ (a:Key):l9 (kV a)=true:=by cases a <;> rfl
end
section
variable {X:Cx} {pins:List (Addr×Obj)} {σ:L2.St} {H:Hp} {s:Shared}
end
section
variable {X:Cx}
end
end NX
namespace L2
open PySem PySem.Spec PyProof.Rows
section
variable {κ:Type} [DecidableEq κ]
noncomputable def g9 (kvs:List (κ×V)) (k:κ):Option V:=(kvs.find? fun kv=>decide (kv.1=k)).map (·.2)
noncomputable def sX (kvs:List (κ×V)) (k:κ) (v:V):List (κ×V):=
 if (kvs.any fun kv=>decide (kv.1=k))=true then kvs.map (fun kv=>if kv.1=k then (kv.1,v) else kv) else kvs++[(k,v)]
theorem iR {p:κ×V} {r:List (κ×V)} {k:κ} (e:p.1=k):g9 (p :: r) k=some p.2:=by simp [g9,List.find?_cons,e]
theorem iS {p:κ×V} {r:List (κ×V)} {k:κ} (e:¬ p.1=k):g9 (p :: r) k=g9 r k:=by simp [g9,List.find?_cons,e]
theorem RelO.isSome_eq {o:Option V} {u:Option Value} (r:RelO o u):o.isSome=u.isSome:=by
 cases o with
 | none=>cases u with
  | none=>rfl
  | some _=>exact (show False from r).elim
 | some _=>cases u with
  | none=>exact (show False from r).elim
  | some _=>rfl
theorem RelO.getD {o:Option V} {u:Option Value} {d:V} {d':Value} (r:RelO o u) (rd:RelV d d'):RelV (o.getD d) (u.getD d'):=by
 cases o with
 | none=>cases u with
  | none=>exact rd
  | some _=>exact (show False from r).elim
 | some _=>cases u with
  | none=>exact (show False from r).elim
  | some _=>exact r
theorem KV.val {kvs:List (κ×V)} {vs:List (κ×Value)} (r:KV kvs vs) (k:κ):RelO (g9 kvs k) (valueAt vs k):=by
 unfold KV at r
 induction r with
 | nil=>exact True.intro
 | @cons p q ps qs h t ih=>
  obtain ⟨h1,h2⟩:=h
  by_cases e:p.1=k
  ·have e':q.1=k:=h1.symm.trans e
   have b:valueAt (q :: qs) k=some q.2:=by simp [valueAt,List.find?_cons,e']
   rw [iR e,b];exact h2
  ·have e':¬ q.1=k:=fun z=>e (h1.trans z)
   have b:valueAt (q :: qs) k=valueAt qs k:=by simp [valueAt,List.find?_cons,e']
   rw [iS e,b];exact ih
theorem KV.any {kvs:List (κ×V)} {vs:List (κ×Value)} (r:KV kvs vs) (k:κ):(kvs.any fun kv=>decide (kv.1=k))=vs.any fun kv=>decide (kv.1=k):=by
 unfold KV at r
 induction r with
 | nil=>rfl
 | cons h t ih=>rw [List.any_cons,List.any_cons,ih,h.1]
theorem KV.length {kvs:List (κ×V)} {vs:List (κ×Value)} (r:KV kvs vs):kvs.length=vs.length:=Paired.length r
end
theorem kV_is {P:Program} {w:World} {k:Key} {u:Value} (r:RelV (kV k) u):(mixKind P w).is k u=true:=by
 cases k with
 | inl i=>obtain ⟨t,e⟩:=(show ∃ t,u=Value.int i t from r);subst e;exact hV P w i t
 | inr x=>obtain ⟨t,e⟩:=(show ∃ t,u=Value.str x t from r);subst e;exact hW P w x t
theorem gK {P:Program} {w:World}:∀ {ks:List Key} {us:List Value},Vals (ks.map kV) us→ItemsAre (mixKind P w) ks us
 | [],_,r=>by rw [List.map_nil] at r;cases r;exact .nil
 | k :: ks,_,r=>by
  rw [List.map_cons] at r
  cases r with
  | cons h t=>exact .cons (kV_is h) (gK t)
abbrev KT (H:Hp):List (List Key×V)→List (List Key×Addr×Value)→Prop:=Paired fun p q=>p.1=q.1∧H q.2.1=some (.tup (p.1.map kV))∧RelV p.2 q.2.2
theorem KT.val {H:Hp} {kvs:List (List Key×V)} {xs:List (List Key×Addr×Value)} (r:KT H kvs xs) (k:List Key):RelO (g9 kvs k) ((atKey xs k).map (·.2)):=by
 induction r with
 | nil=>exact True.intro
 | @cons p q ps qs h t ih=>
  obtain ⟨h1,_,h2⟩:=h
  by_cases e:p.1=k
  ·have e':q.1=k:=h1.symm.trans e
   have b:atKey (q :: qs) k=some q.2:=by simp [atKey,List.find?_cons,e']
   rw [iR e,b];exact h2
  ·have e':¬ q.1=k:=fun z=>e (h1.trans z)
   have b:atKey (q :: qs) k=atKey qs k:=by simp [atKey,List.find?_cons,e']
   rw [iS e,b];exact ih
theorem KT.keeps {H H':Hp} {kvs:List (List Key×V)} {xs:List (List Key×Addr×Value)} (r:KT H kvs xs) (ht:∀ b ys,H b=some (.tup ys)→H' b=some (.tup ys)):KT H' kvs xs:=
 Paired.mapP r fun _ _ z=>⟨z.1,ht _ _ z.2.1,z.2.2⟩
section
variable {P:Program} {w:World} {H:Hp} {h:Heap} {a:Addr}
theorem qT {u:HO} (ok:HOk P w H h) (e:Rd H a u):ObjOk P w H h a u:=e.ok ok
theorem qU {kvs:List (Key×V)} (ok:HOk P w H h) (e:Rd H a (.dK kvs)):kvs.length≤sizeLine∧(a == sysModules)=false∧∃ vs,KV kvs vs∧h.DictOf (mixKind P w) a vs:=
 show ObjOk P w H h a (.dK kvs) from qT ok e
theorem kq {ks:List Key} (ok:HOk P w H h) (e:H a=some (.tup (ks.map kV))):(tupleKind (mixKind P w)).is h ks a:=by
 obtain ⟨_,its,r,o,h1,h2,⟨n,h3⟩,_⟩:=(show ObjOk P w H h a (.tup (ks.map kV)) from ok a _ e)
 exact ⟨o,its.toArray,n,h1,h2,h3,by simpa using gK r⟩
theorem qV {kvs:List (List Key×V)} (ok:HOk P w H h) (e:Rd H a (.dT kvs)):kvs.length≤sizeLine∧(a == sysModules)=false∧
  ∃ xs,KT H kvs xs∧h.DictOfH (tupleKind (mixKind P w)) a xs:=by
 obtain ⟨z,y,xs,r,o,es,ep,h1,h2,h3,h4,h5⟩:=(show ObjOk P w H h a (.dT kvs) from qT ok e)
 refine ⟨z,y,xs,r,o,es,ep,h1,h2,h3,h4,fun x hx=>?_,h5⟩
 have all:∀ {l:List (List Key×V)} {m:List (List Key×Addr×Value)},KT H l m→∀ x∈m,(tupleKind (mixKind P w)).is h x.1 x.2.1:=by
  intro l m q
  induction q with
  | nil=>intro x hx;exact nomatch hx
  | @cons p q ps qs hq t ih=>
   intro x hx
   rcases List.mem_cons.mp hx with e | hx
   ·subst e
    exact kq ok (by rw [←hq.1];exact hq.2.1)
   ·exact ih x hx
 exact all r x hx
end
def DGet (H:Hp) (a:Addr) (y:V) (r:Option V):Prop:=
 (∃ kvs k,Rd H a (.dK kvs)∧y=kV k∧r=g9 kvs k)∨∃ kvs k b,Rd H a (.dT kvs)∧y=.ref b∧H b=some (.tup (k.map kV))∧r=g9 kvs k
def DPut (H:Hp) (a:Addr) (y v:V) (H':Hp):Prop:=
 (∃ kvs k,H a=some (.dK kvs)∧y=kV k∧kvs.length < sizeLine∧H'=upd H a (.dK (sX kvs k v)))∨
 ∃ kvs k b,H a=some (.dT kvs)∧y=.ref b∧H b=some (.tup (k.map kV))∧kvs.length < sizeLine∧H'=upd H a (.dT (sX kvs k v))
theorem DGet.k {H:Hp} {a:Addr} {kvs:List (Key×V)} {k:Key} (e:H a=some (.dK kvs)):DGet H a (kV k) (g9 kvs k):=.inl ⟨kvs,k,.inl e,rfl,rfl⟩
theorem DGet.t {H:Hp} {a b:Addr} {kvs:List (List Key×V)} {k:List Key} (e:H a=some (.dT kvs)) (eb:H b=some (.tup (k.map kV))):DGet H a (.ref b) (g9 kvs k):=.inr ⟨kvs,k,b,.inl e,rfl,eb,rfl⟩
theorem DPut.k {H:Hp} {a:Addr} {kvs:List (Key×V)} {k:Key} {v:V} (e:H a=some (.dK kvs)) (hl:kvs.length < sizeLine):DPut H a (kV k) v (upd H a (.dK (sX kvs k v))):=.inl ⟨kvs,k,e,rfl,hl,rfl⟩
theorem DPut.t {H:Hp} {a b:Addr} {kvs:List (List Key×V)} {k:List Key} {v:V} (e:H a=some (.dT kvs)) (eb:H b=some (.tup (k.map kV))) (hl:kvs.length < sizeLine) :
  DPut H a (.ref b) v (upd H a (.dT (sX kvs k v))):=.inr ⟨kvs,k,b,e,rfl,eb,hl,rfl⟩
section
variable {X:Cx} {pins:List (Addr×Obj)} {σ:St} {H:Hp} {s:Shared} {a:Addr} {y v:V} {u r:Value} {o:Option V} {A:Around} {E:Value→Shared→Prop}
theorem vS {Q:Value→Shared→Prop} (hu:A.units + 1 < cLine) (I:Inv X pins σ H s) (g:DGet H a y o) (ry:RelV y u) (h:∀ s',Inv X pins σ H s'→Q (.bool o.isSome) s') :
  wpAny (model X.prog X.w) A (compareOp .In u (.ref a)) Q E s:=by
 rcases g with ⟨kvs,k,e,ey,l⟩ | ⟨kvs,k,b,e,ey,eb,l⟩
 ·subst ey
  obtain ⟨z,hd,vs,rel,dd⟩:=qU I.hok e
  refine wpAny_in_of (kV_is ry) hd dd.mapOf ?_
  rw [←(rel.val k).isSome_eq,←l]
  exact h _ (I.tok _)
 ·subst ey
  cases (show u=Value.ref b from ry)
  obtain ⟨z,hd,xs,rel,dd⟩:=qV I.hok e
  refine wpAny_in_heap (tupleKind_room_in1 hu) (kq I.hok eb) hd dd ?_
  have q:=(rel.val k).isSome_eq
  rw [Option.isSome_map] at q
  rw [←q,←l]
  exact h _ (I.tok _)
theorem oU {Q:Value→Shared→Prop} (hu:A.units + 1 < cLine) (I:Inv X pins σ H s) (g:DGet H a y o) (ry:RelV y u) (h:∀ s',Inv X pins σ H s'→Q (.bool (!o.isSome)) s') :
  wpAny (model X.prog X.w) A (compareOp .NotIn u (.ref a)) Q E s:=by
 rcases g with ⟨kvs,k,e,ey,l⟩ | ⟨kvs,k,b,e,ey,eb,l⟩
 ·subst ey
  obtain ⟨z,hd,vs,rel,dd⟩:=qU I.hok e
  refine wpAny_notIn_of (kV_is ry) hd dd.mapOf ?_
  rw [←(rel.val k).isSome_eq,←l]
  exact h _ (I.tok _)
 ·subst ey
  cases (show u=Value.ref b from ry)
  obtain ⟨z,hd,xs,rel,dd⟩:=qV I.hok e
  refine wpAny_notIn_heap (tupleKind_room_in1 hu) (kq I.hok eb) hd dd ?_
  have q:=(rel.val k).isSome_eq
  rw [Option.isSome_map] at q
  rw [←q,←l]
  exact h _ (I.tok _)
end
section
variable {X:Cx} {pins:List (Addr×Obj)} {σ:St} {H:Hp} {s:Shared} {a:Addr} {kvs:List (Key×V)} {k:Key} {u:Value} {A:Around} {E:Value→Shared→Prop}
end
section
variable {X:Cx} {o i e value:Expr} {pos pos' tpos:Pos} {td ty tv:TE}
end
section
variable {X:Cx} {pos:Pos}
end
section
variable {X:Cx} {pins:List (Addr×Obj)} {σ:St} {H:Hp} {s:Shared} {a:Addr} {y d:V} {u r:Value} {o:Option V} {A:Around} {E:Value→Shared→Prop}
end
section
variable {X:Cx} {o e f:Expr} {apos cpos:Pos} {td ty tx:TE}
end
section
variable {X:Cx} {pins:List (Addr×Obj)} {σ:St} {H:Hp} {s:Shared} {a:Addr} {kvs:List (Key×V)} {A:Around} {E:Value→Shared→Prop}
end
section
variable {X:Cx} {pins:List (Addr×Obj)} {σ:St} {H:Hp} {s:Shared} {a:Addr} {y:V} {u:Value} {A:Around} {E:Value→Shared→Prop}
end
section
variable {κ:Type} [DecidableEq κ]
end
end L2
namespace NX
open PySem PySem.Spec PyProof.Rows L2
def RawD (h:Heap) (d:Addr) (es:Array DictEntry) (ep:Nat):Prop:=∃ o,h.get? d=some o∧o.ExactDict∧o.data=.dict es ep
theorem RawD.at {h h':Heap} {d:Addr} {es:Array DictEntry} {ep:Nat} (x:RawD h d es ep) (e:∀ o,h.get? d=some o→h'.get? d=some o):RawD h' d es ep:=by
 obtain ⟨o,g,r⟩:=x
 exact ⟨o,e o g,r⟩
section
variable {prog:Program} {w:World} {A:Around} {E:Value→Shared→Prop} {s:Shared} {d it:Addr} {es:Array DictEntry} {ep i:Nat}
theorem ml (x:RawD s.heap d es ep):s.TypeIs (.ref d) "dict":=by
 obtain ⟨o,g,ex,_⟩:=x
 exact ⟨o,g,ex.1⟩
end
end NX
namespace NX
open PySem PySem.W PySem.Spec PyProof.Rows L2
section
variable {prog:Program} {w:World} {A:Around} {E:Value→Shared→Prop} {s:Shared}
end
section
variable {X:Cx} {pins:List (Addr×Obj)} {σ:L2.St} {H:Hp} {s:Shared}
end
end NX
namespace NX
open PySem PySem.Spec PyProof.Rows L2
section
open PySem.SeqAt
open PySem.AutoSeq1 (wpAny_loadPart')
open PySem.MeetsSeq PySem.MeetsSeq2 PySem.MeetsSeq3
theorem mm {A:Around} {s:Shared} {a c:Key} {u v:Value} (ra:RelV (kV a) u) (rc:RelV (kV c) v):EqAt A s u v (decide (a=c)):=by
 have h:=qF (A:=A) (s:=s) ra rc (iQ a) (iQ c)
 rw [oT] at h
 exact h
theorem mn {prog:Program} {w:World} {A:Around} {E:Value→Shared→Prop} {s:Shared} {Q:Value→Shared→Prop} {a c:Key} {u v:Value} (ra:RelV (kV a) u) (rc:RelV (kV c) v) (hk:a.isLeft=c.isLeft) (h:Q (.bool (ua.blt a c)) s) :
  wpAny (model prog w) A (richCompare .Lt u v) Q E s:=by
 cases a with
 | inl i=>
  cases c with
  | inr _=>cases hk
  | inl j=>
   obtain ⟨t,rfl⟩:=ra
   obtain ⟨t',rfl⟩:=rc
   exact (PyProof.Rows.lt_int h:wpAny (model prog w) A (compareOp .Lt (.int i t) (.int j t')) Q E s)
 | inr x=>
  cases c with
  | inl _=>cases hk
  | inr y=>
   obtain ⟨t,rfl⟩:=ra
   obtain ⟨t',rfl⟩:=rc
   exact (PyProof.Rows.lt_str h:wpAny (model prog w) A (compareOp .Lt (.str x t) (.str y t')) Q E s)
theorem kr (a c:Key) (r t:List Key):iP (a :: r) (c :: t)=if a=c then iP r t else ua.blt a c:=rfl
theorem fF (l b:Addr) (items items2:Array Value) (n n2:Nat) (dd dd2:Option Addr) (sl sl2:Array (Option Value)) (ks js:List Key) (hi:Vals (ks.map kV) items.toList) (hj:Vals (js.map kV) items2.toList) (hk:kinds ks=kinds js) :
  Meets (Builtin.«tuple.__lt__» ⟨[.ref l,.ref b],[]⟩)
   (fun _ R s=>s.heap.get? l=some { cls:=.type "tuple",dict:=dd,data:=.seq items n,slots:=sl }∧s.heap.get? b=some { cls:=.type "tuple",dict:=dd2,data:=.seq items2 n2,slots:=sl2 }∧R (.ok (.ret (.bool (iP ks js)))) s):=
 .of_wp fun prog w A R s h=>by
  obtain ⟨hp,g,d,tk,os⟩:=s;obtain ⟨hl,hb,h⟩:=h
  have f2:=AutoSeq1.sub_tuple_tuple
  have z1:items.size=ks.length:=by have:=hi.length;simp at this;lia
  have z2:items2.size=js.length:=by have:=hj.length;simp at this;lia
  have z3:ks.length=js.length:=by have:=congrArg List.length hk;simpa [kinds] using this
  wp_walk using wpAny_loadPart' hl,wpAny_loadPart' hb,wpAny_forIn_list _ (fun bG b s'=>b.1=none∧s'=⟨hp,g,d,tk,os⟩∧∃ (vs ws:List Value) (ks' js':List Key),bG=vs.zip ws∧
   Vals (ks'.map kV) vs∧Vals (js'.map kV) ws∧kinds ks'=kinds js'∧R (.ok (.ret (.bool (iP ks' js')))) ⟨hp,g,d,tk,os⟩) _
  case turn=>
   rintro ⟨y,x⟩ bG b s' ⟨hb',rfl,vs,ws,ks',js',hz,hvi,hwi,hkk,hR⟩
   cases ks' with
   | nil=>
    cases hvi
    rw [List.zip_nil_left] at hz;cases hz
   | cons a ks'=>
    cases js' with
    | nil=>cases hkk
    | cons c js'=>
     cases hvi with
     | @cons _ va _ vs' ra hvi'=>
      cases hwi with
      | @cons _ vc _ ws' rc hwi'=>
       rw [List.zip_cons_cons] at hz
       injection hz with hyx hrest
       injection hyx with hy hx
       subst hy hx
       have hk1:a.isLeft=c.isLeft:=(List.cons.inj hkk).1
       have hk2:kinds ks'=kinds js':=(List.cons.inj hkk).2
       rw [kr] at hR
       have he:=mm (A:=A.in1) (s:=⟨hp,g,d,tk,os⟩) ra rc
       refine wpAny_bind (he prog w _ _ ?_)
       by_cases hac:a=c
       ·rw [if_pos hac] at hR
        rw [decide_eq_true hac]
        wp_walk
        exact ⟨rfl,rfl,_,_,_,_,hrest,hvi',hwi',hk2,hR⟩
       ·rw [if_neg hac] at hR
        rw [decide_eq_false hac]
        have hri:=fun E Q=>mn (prog:=prog) (w:=w) (A:=A.in1) (E:=E) (s:=⟨hp,g,d,tk,os⟩) (Q:=Q) ra rc hk1
        wp_walk using hri
        exact ⟨_,rfl,by simpa using hR⟩
  case fin=>
   rintro ⟨b1,b2⟩ s' ⟨hb',rfl,vs,ws,ks',js',hz,hvi,hwi,hkk,hR⟩
   simp only at hb'
   subst hb'
   have hv:iP ks' js'=decide (items.size < items2.size):=by
    cases ks' with
    | nil=>
     cases js' with
     | nil=>exact (decide_eq_false (by lia)).symm
     | cons c js'=>cases hkk
    | cons a ks'=>
     cases js' with
     | nil=>cases hkk
     | cons c js'=>
      cases hvi
      cases hwi
      rw [List.zip_cons_cons] at hz
      cases hz
   rw [hv] at hR
   wp_walk
   exact ⟨_,rfl,by simpa [Builtin.Tuple.tupleCompareSizes] using hR⟩
  case h=>
   exact ⟨rfl,rfl,items.toList,items2.toList,ks,js,rfl,hi,hj,hk,h⟩
end
section
variable {X:Cx}
noncomputable def vT (K:W.Frag) (neg:Bool):R2:=fun x y H Q=>∃ a b ks js,x=.ref a∧y=.ref b∧SqT K H a (ks.map kV)∧SqT K H b (js.map kV)∧kinds ks=kinds js∧Q (.bl (if neg then !iP ks js else iP ks js)) H
theorem qW (hu:X.A.units < cLine):OpR X (compareOp .Lt) (vT X.K false):=by
 intro pins s σ H x y v u Q I rx ry h
 obtain ⟨a,b,ks,js,rfl,rfl,ha,hb,hk,q⟩:=h
 cases rx
 cases ry
 obtain ⟨its,r1,p1,_⟩:=I.tuple ha
 obtain ⟨its2,r2,p2,_⟩:=I.tuple hb
 obtain ⟨⟨cls,dd,data,sl⟩,ho,hc,n,hd⟩:=id p1
 obtain ⟨⟨cls2,dd2,data2,sl2⟩,ho2,hc2,n2,hd2⟩:=id p2
 simp only at hc hd hc2 hd2
 subst hc hd hc2 hd2
 exact richCompare_meets_room (op:=.Lt) ⟨_,ho,rfl⟩ ⟨_,ho2,rfl⟩ PySem.F.slot_tuple_lt PySem.F.entry_tuple_lt (PySem.F.args_tuple_lt_2 _ _) (fF a b _ _ n n2 dd dd2 sl sl2 ks js (by simpa using r1) (by simpa using r2) hk)
  ⟨ho,ho2,show Value.bool (iP ks js)≠Value.notImplemented∧EP X pins σ Q (.bool (iP ks js)) s from ⟨(fun x=>nomatch x),⟨.bl (iP ks js),H,I,rfl,q⟩⟩⟩ hu
end
theorem wp_blockEnv {M:Model} {A:Around} {E:Value→Shared→Prop} {s:Shared} {scope:Scope} {globals:Addr} {cl:List (Str×Addr)} {qual:Str} {outer:Env} {Q:Env→Shared→Prop}
  (hQ:Q (newEnv scope s.heap.objs.size globals (cellsFrom (s.heap.objs.size + 1) scope.names cl) qual none .none (some outer) builtinsNs) { s with heap:=pushCells (s.heap.push { cls:=.type "dict",data:=.dict #[] }) scope.names }) :
  wpAny M A (newFunctionEnv scope globals cl [] qual none .none (some outer)) Q E s:=by
 simp only [newFunctionEnv,Option.isSome_some,if_true]
 refine wpAny_bind (wpAny_alloc ?_)
 refine wpAny_bind (wpAny_layCells _ (fun name kind cells=>by cases hkc:kind == NameKind.cell <;> simp [hkc]) _ _ _ _ ?_)
 rw [show ({ s with heap:=s.heap.push { cls:=.type "dict",data:=.dict #[] } }:Shared).heap.objs.size=s.heap.objs.size + 1 from Heap.size_push ..]
 refine wpAny_bind ?_
 rw [List.forIn_nil]
 exact wpAny_pure (wpAny_pure hQ)
theorem dO {x:Str} {c:Addr}:∀ (nZ:List (Str×NameKind)) (h:Heap) (acc:List (Str×Addr)),(cellsFrom h.objs.size nZ acc).lookup x=some c→acc.lookup x=some c∨(h.objs.size≤c∧(pushCells h nZ).IsCell c none)
 | [],_,_,e=>.inl e
 | (name,kind) :: r,h,acc,e=>by
  unfold cellsFrom at e
  unfold pushCells
  split at e
  ·rename_i hk
   rw [if_pos hk]
   have sz:h.objs.size + 1=(h.push { cls:=.type "cell",data:=.cell none }).objs.size:=(Heap.size_push ..).symm
   rw [sz] at e
   rcases dO r _ _ e with e | ⟨e1,e2⟩
   ·rw [List.lookup_cons] at e
    cases hx:x == name with
    | true=>
     rw [hx] at e
     cases e
     exact .inr ⟨Nat.le_refl _,_,pushCells_keeps r _ _ _ (Heap.get?_push_size _ rfl),rfl⟩
    | false=>
     rw [hx] at e
     exact .inl e
   ·rw [←sz] at e1
    exact .inr ⟨Nat.le_of_succ_le e1,e2⟩
  ·rename_i hk
   rw [if_neg hk]
   exact dO r h acc e
theorem ku:∀ (nZ:List (Str×NameKind)) (n:Nat) (acc:List (Str×Addr)),(∀ x y c,acc.lookup x=some c→acc.lookup y=some c→x=y)→(∀ x c,acc.lookup x=some c→c < n)→
  ∀ x y c,(cellsFrom n nZ acc).lookup x=some c→(cellsFrom n nZ acc).lookup y=some c→x=y
 | [],_,_,h,_=>h
 | (name,kind) :: r,n,acc,h,hl=>by
  unfold cellsFrom
  split
  ·refine ku r (n + 1) ((name,n) :: acc) (fun x y c e1 e2=>?_) (fun x c e=>?_)
   ·rw [List.lookup_cons] at e1 e2
    cases hx:x == name with
    | true=>
     rw [hx] at e1
     cases e1
     cases hy:y == name with
     | true=>exact (beq_iff_eq.mp hx).trans (beq_iff_eq.mp hy).symm
     | false=>
      rw [hy] at e2
      exact absurd (hl y _ e2) (Nat.lt_irrefl _)
    | false=>
     rw [hx] at e1
     cases hy:y == name with
     | true=>
      rw [hy] at e2
      cases e2
      exact absurd (hl x _ e1) (Nat.lt_irrefl _)
     | false=>
      rw [hy] at e2
      exact h x y c e1 e2
   ·rw [List.lookup_cons] at e
    cases hx:x == name with
    | true=>rw [hx] at e;cases e;exact Nat.lt_succ_self _
    | false=>rw [hx] at e;exact Nat.lt_succ_of_lt (hl x c e)
  ·exact ku r n acc h hl
theorem kx {x:Str}:∀ (nZ:List (Str×NameKind)) (n:Nat) (acc:List (Str×Addr)),((∃ d,acc.lookup x=some d)∨(x,NameKind.cell)∈nZ)→∃ d,(cellsFrom n nZ acc).lookup x=some d
 | [],_,_,h=>h.elim id fun z=>nomatch z
 | (name,kind) :: r,n,acc,h=>by
  unfold cellsFrom
  split
  ·rename_i hk
   refine kx r _ _ ?_
   rw [List.lookup_cons]
   cases hx:x == name with
   | true=>exact .inl ⟨_,rfl⟩
   | false=>
    rcases h with h | h
    ·exact .inl h
    ·rcases List.mem_cons.mp h with h | h
     ·cases h
      rw [beq_self_eq_true] at hx
      cases hx
     ·exact .inr h
  ·rename_i hk
   refine kx r _ _ ?_
   rcases h with h | h
   ·exact .inl h
   ·rcases List.mem_cons.mp h with h | h
    ·cases h
     exact absurd rfl hk
    ·exact .inr h
theorem ky {x:Str} {c:Addr} {lo:Nat}:∀ (nZ:List (Str×NameKind)) (n:Nat) (acc:List (Str×Addr)),((∀ c,acc.lookup x=some c→lo≤c)∨(x,NameKind.cell)∈nZ)→lo≤n→(cellsFrom n nZ acc).lookup x=some c→lo≤c
 | [],_,_,h,_,e=>h.elim (fun h=>h c e) fun z=>nomatch z
 | (name,kind) :: r,n,acc,h,hn,e=>by
  unfold cellsFrom at e
  split at e
  ·refine ky r _ _ ?_ (Nat.le_succ_of_le hn) e
   cases hx:x == name with
   | true=>exact .inl fun c e=>by rw [List.lookup_cons,hx] at e;cases e;exact hn
   | false=>
    rcases h with h | h
    ·exact .inl fun c e=>by rw [List.lookup_cons,hx] at e;exact h c e
    ·rcases List.mem_cons.mp h with h | h
     ·cases h
      rw [beq_self_eq_true] at hx
      cases hx
     ·exact .inr h
  ·rename_i hk
   refine ky r _ _ ?_ hn e
   rcases h with h | h
   ·exact .inl h
   ·rcases List.mem_cons.mp h with h | h
    ·cases h
     exact absurd rfl hk
    ·exact .inr h
theorem kz {x:Str}:∀ (nZ:List (Str×NameKind)) (n:Nat) (acc:List (Str×Addr)),(x,NameKind.cell)∉nZ→(cellsFrom n nZ acc).lookup x=acc.lookup x
 | [],_,_,_=>rfl
 | (name,kind) :: r,n,acc,h=>by
  unfold cellsFrom
  split
  ·rename_i hk
   rw [kz r _ _ fun z=>h (List.mem_cons_of_mem _ z),List.lookup_cons]
   cases hx:x == name with
   | true=>
    refine absurd ?_ h
    rw [beq_iff_eq.mp hx,←beq_iff_eq.mp hk]
    exact List.mem_cons_self
   | false=>rfl
  ·exact kz r _ _ fun z=>h (List.mem_cons_of_mem _ z)
theorem fG {scope:Scope} {env:Env} {x:Str} (h:(relabel scope env).names.lookup x=some .cell∨(relabel scope env).names.lookup x=some .free):(x,NameKind.free)∈scope.names∨(x,NameKind.cell)∈scope.names:=by
 unfold relabel at h
 dsimp only at h
 generalize scope.names=l at h
 induction l with
 | nil=>rcases h with h | h <;> cases h
 | cons y l ih=>
  obtain ⟨n,k⟩:=y
  rw [List.map_cons] at h
  dsimp only at h
  have up:((x,NameKind.free)∈l∨(x,NameKind.cell)∈l)→(x,NameKind.free)∈(n,k) :: l∨(x,NameKind.cell)∈(n,k) :: l:=fun z=>z.imp (List.mem_cons_of_mem _) (List.mem_cons_of_mem _)
  by_cases cnd:(k == NameKind.free && env.scope.kind == .function && env.kindOf n == some .cell)=true
  ·rw [if_pos cnd,List.lookup_cons] at h
   have kf:k=.free:=by
    have:(k == NameKind.free)=true:=by
     simp only [Bool.and_eq_true] at cnd
     exact cnd.1.1
    simpa using this
   cases hx:x == n with
   | true=>
    have:x=n:=by simpa using hx
    rw [this,kf]
    exact .inl List.mem_cons_self
   | false=>
    rw [hx] at h
    exact up (ih h)
  ·rw [if_neg cnd,List.lookup_cons] at h
   cases hx:x == n with
   | true=>
    rw [hx] at h
    have:x=n:=by simpa using hx
    rw [this]
    rcases h with h | h
    ·rw [←Option.some.inj h]
     exact .inr List.mem_cons_self
    ·rw [←Option.some.inj h]
     exact .inl List.mem_cons_self
   | false=>
    rw [hx] at h
    exact up (ih h)
noncomputable def aM (X:Cx) (scope:Scope) (N:List Str) (C:Addr) (s:Shared) (H:Hp) (fp:List Addr) (pn:List (Addr×Obj)):Cx:=
 { X with N:=N,s₀:=s,H₀:=H,env:=compEnvC scope (cellsFrom (C + 1) scope.names (clOf scope X.env)) C X.env,outer:=X.stack,ex:=fp,fn:=fun x=>scope.names.lookup x == some .cell,pn:=pn,xe:=fun _ _=>False }
section
variable {X:Cx} {pins:List (Addr×Obj)} {σ:L2.St} {H:Hp} {s:Shared} {scope:Scope} {N:List Str} {ix:List (Option Nat)} {fp:List Addr}
theorem _root_.L2.Inv.blockK (I:Inv X pins σ H s) (hf:bB scope X.env=true) (hk:scope.kind=.function) (hcell:∀ y∈scope.names,y.2=.cell→scope.names.lookup y.1=some .cell) (hix:g8 X scope N ix=true) (fo:∀ b∈fp,g7 X pins H b) (fin:∀ b∈fp,∃ o,s.heap.get? b=some o)
  {h0:Heap} {t1:Nat} {D C:Addr} (hD:D=s.heap.objs.size) (hC:C=s.heap.objs.size + 1) (hsz:h0.objs.size=C + 1) (old0:∀ b o,s.heap.get? b=some o→h0.get? b=some o) {n:Nat} (acc0:h0.get? D=some { cls:=.type "list",data:=.seq #[] n })
  {m:Str→Option Value} (ns0:h0.Ns C m):Inv (aM X scope N C s H fp (X.pn++pins)) [] (cj ix σ) (upd H D (.lst [])) { s with heap:=pushCells h0 scope.names,toks:=t1 }:=by
 have kp:=pushCells_keeps scope.names h0
 have old:∀ b o,s.heap.get? b=some o→(pushCells h0 scope.names).get? b=some o:=fun b o e=>kp b o (old0 b o e)
 have freshC:s.heap.objs.size≤C:=by rw [hC];exact Nat.le_succ _
 have freshD:s.heap.objs.size≤D:=by rw [hD];exact Nat.le_refl _
 have nD:H D=none:=I.hok.fresh freshD
 have DC:D≠C:=by rw [hD,hC];exact Nat.ne_of_lt (Nat.lt_succ_self _)
 have updn:∀ b,H b=none→b≠D→upd H D (.lst []) b=none:=fun b n z=>by rw [ak z];exact n
 have ltD:∀ b o,s.heap.get? b=some o→b≠D:=fun b o e=>Nat.ne_of_lt (Nat.lt_of_lt_of_le (Heap.lt_size e) freshD)
 have ltC:∀ b o,s.heap.get? b=some o→b≠C:=fun b o e=>Nat.ne_of_lt (Nat.lt_of_lt_of_le (Heap.lt_size e) freshC)
 have cs:∀ {x c},(cellsFrom (C + 1) scope.names (clOf scope X.env)).lookup x=some c→X.env.cells.lookup x=some c∨(C + 1≤c∧(pushCells h0 scope.names).IsCell c none):=fun {x c} e=>by
  rw [←hsz] at e
  rcases dO scope.names h0 _ e with e | ⟨e1,e2⟩
  ·exact .inl (b9 I.ok hf e)
  ·exact .inr ⟨hsz▸e1,e2⟩
 have okY:(aM X scope N C s H fp (X.pn++pins)).Ok:=by
  refine ⟨I.ok.mod,hk,I.ok.glob,I.ok.blt,freshC,fun x y c e1 e2=>?_,fun x hx=>?_,fun x c z e=>?_,I.ok.hd,I.ok.frames,.inl rfl,fun b hb=>?_,I.bs,?_,fun b o e hb=>?_,fun b hb hs=>?_,I.stack,I.stkFree⟩
  ·refine ku scope.names (C + 1) (clOf scope X.env) (fun x y c e1 e2=>I.ok.inj x y c (b9 I.ok hf e1) (b9 I.ok hf e2)) (fun x c e=>?_) x y c e1 e2
   obtain ⟨v,q⟩:=I.cell x c (b9 I.ok hf e)
   exact Nat.lt_of_lt_of_le q.lt (Nat.le_trans freshC (Nat.le_succ _))
  ·refine kx scope.names (C + 1) _ ?_
   rcases fG hx with h | h
   ·obtain ⟨c,e,_⟩:=fE I.ok hf h
    exact .inl ⟨c,e⟩
   ·exact .inr h
  ·have z:(scope.names.lookup x == some NameKind.cell)=true:=z
   have z:scope.names.lookup x=some .cell:=by simpa using z
   have:=ky (lo:=C + 1) scope.names (C + 1) _ (.inr (PySem.mem_of_lookup z)) (Nat.le_refl _) e
   exact Nat.le_trans freshC (Nat.le_of_succ_le this)
  ·obtain ⟨f0,f1,f2,f3,f4,f5⟩:=fo b hb
   obtain ⟨o,ho⟩:=fin b hb
   refine ⟨?_,fun x c e=>?_⟩
   ·intro z
    exact ltC b o ho z
   ·rcases cs e with e | ⟨e1,_⟩
    ·exact f4 x c e
    ·intro z
     subst z
     exact absurd (Nat.lt_of_lt_of_le (Heap.lt_size ho) (Nat.le_trans freshC (Nat.le_of_succ_le e1))) (Nat.lt_irrefl _)
  ·exact Nat.le_trans I.ok.bsz I.sz
  ·obtain ⟨f0,f1,f2,f3,f4,f5⟩:=fo b hb
   rcases f3 with q | q
   ·exact I.ok.noex b o e q
   ·exact absurd (Nat.lt_of_lt_of_le (Heap.lt_size e) (Nat.le_trans I.ok.bsz q)) (Nat.lt_irrefl _)
  ·obtain ⟨f0,f1,f2,_⟩:=fo b hb
   exact (List.mem_cons.mp (I.stkSub b hs)).elim f1 f2
 refine ⟨okY,rfl,I.bare,Un.laid old freshD nD,⟨m,ns0.keeps kp,fun i x v e1 e2 e3=>?_⟩,fun x c e=>?_,?_,fun x c e=>?_,fun p hp=>?_,I.hok.laid old freshD ⟨Nat.zero_le _,[],n,.nil,kp _ _ acc0⟩,?_⟩
 ·have e2:(ix.map fun i=>i.bind fun i=>(σ[i]?).bind id)[i]?=some (some v):=e2
  have e1:N[i]?=some x:=e1
  unfold g8 at hix
  rw [Bool.and_eq_true] at hix
  rw [List.getElem?_map] at e2
  cases q:ix[i]? with
  | none=>rw [q] at e2;cases e2
  | some o=>
   rw [q] at e2
   have e2:(o.bind fun i=>(σ[i]?).bind id)=some v:=Option.some.inj e2
   cases o with
   | none=>cases e2
   | some j=>
    have e2:(σ[j]?).bind id=some v:=e2
    have hσ:σ[j]?=some (some v):=by
     cases w':σ[j]? with
     | none=>rw [w'] at e2;cases e2
     | some y=>rw [w'] at e2;exact congrArg some e2
    have hz:(N.zip ix)[i]?=some (x,some j):=by
     rw [List.getElem?_zip_eq_some]
     exact ⟨e1,q⟩
    have hy:=List.all_eq_true.mp hix.2 _ (List.mem_of_getElem? hz)
    simp only [Bool.and_eq_true,beq_iff_eq] at hy
    have hfr:(x,NameKind.free)∈scope.names:=PySem.mem_of_lookup hy.2
    obtain ⟨c,c1,c2⟩:=fE I.ok hf hfr
    have nc:(x,NameKind.cell)∉scope.names:=fun z=>by
     have:=(hcell _ z rfl).symm.trans hy.2
     cases this
    have c1:(cellsFrom (C + 1) scope.names (clOf scope X.env)).lookup x=some c:=(kz _ _ _ nc).trans c1
    have hkd:X.env.kindOf x=some .cell∨X.env.kindOf x=some .free:=by
     have:=List.all_eq_true.mp hf _ hfr
     simpa using this
    obtain ⟨mo,hno,hlo⟩:=I.loc
    obtain ⟨u,r,l⟩:=hlo j x v hy.1 hσ (.inr hkd)
    refine ⟨u,r,.inr ⟨dB hy.2,c,c1,?_⟩⟩
    rcases l with ⟨k1,_⟩ | ⟨_,c',e',ho'⟩
    ·rcases hkd with k2 | k2 <;> (rw [k1] at k2;cases k2)
    ·rw [c2] at e'
     cases e'
     obtain ⟨o,ho,hd⟩:=ho'
     exact ⟨o,old c o ho,hd⟩
 ·rcases cs e with e | ⟨_,e2⟩
  ·obtain ⟨v,q⟩:=I.cell x c e
   exact ⟨v,q.keeps old⟩
  ·exact ⟨none,e2⟩
 ·exact updn C (I.hok.fresh freshC) (Ne.symm DC)
 ·rcases cs e with e | ⟨e1,_⟩
  ·obtain ⟨v,o,ho,hd⟩:=I.cell x c e
   exact updn c (I.freeC x c e) (ltD c o ho)
  ·refine updn c (I.hok.fresh (Nat.le_trans freshC (Nat.le_of_succ_le e1))) fun z=>?_
   subst z
   rw [hD,hC] at e1
   exact absurd (Nat.le_trans (Nat.le_succ _) e1) (Nat.not_succ_le_self _)
 ·have hp:p∈X.pn++pins:=by
   have:p∈(X.pn++pins)++[]:=hp
   rwa [List.append_nil] at this
  obtain ⟨e,nn,ne,nf,d⟩:=I.pin p hp
  refine ⟨old _ _ e,updn _ nn (ltD _ _ e),ltC _ _ e,fun z=>?_,d⟩
  exact (List.mem_cons.mp (I.stkSub p.1 z)).elim ne nf
 ·unfold g8 at hix
  rw [Bool.and_eq_true] at hix
  have:N.length=ix.length:=by simpa using hix.1
  show (ix.map _).length=N.length
  rw [List.length_map,this]
theorem _root_.L2.Inv.unblockK {C:Addr} {σ1:L2.St} {H1:Hp} {s1:Shared} {h2:Heap} (I:Inv X pins σ H s) (fo:∀ b∈fp,g7 X pins H b) (hC:s.heap.objs.size≤C) (J:Inv (aM X scope N C s H fp (X.pn++pins)) [] σ1 H1 s1) (hs:Heap.SameBut C s1.heap h2) :
  Inv X pins σ H1 { s1 with heap:=h2 }:=by
 have ltC:∀ b o,s.heap.get? b=some o→b≠C:=fun b o e=>Nat.ne_of_lt (Nat.lt_of_lt_of_le (Heap.lt_size e) hC)
 have bb:Un (frs X.stack) fp H H1 s.heap s1.heap:=J.base
 have jf:H1 C=none:=J.free
 refine I.call' (s':={ s1 with heap:=h2 }) (ch:=fp) J.os ⟨fun b o e n hb hx=>?_,fun b o e n hb hx=>?_,bb.free,fun b o e hx=>?_,bb.tups,bb.frzs,bb.tbls⟩ (fun b ob e=>?_) J.bare fun b hb=>?_
 ·exact (hs.2 b (ltC b o e)).trans (bb.keep b o e n hb hx)
 ·obtain ⟨sl,q⟩:=bb.slot b o e n hb hx
  exact ⟨sl,(hs.2 b (ltC b o e)).trans q⟩
 ·obtain ⟨o',q⟩:=bb.there b o e hx
  exact ⟨o',(hs.2 b (ltC b o e)).trans q⟩
 ·refine (J.hok b ob e).stay (fun c w' hc q=>(hs.2 c ?_).trans q) (fun _ q=>q) fun _ _ q=>q
  rintro rfl
  rcases hc with rfl | hc
  ·rw [jf] at e;cases e
  ·rw [jf] at hc;cases hc
 ·obtain ⟨f0,f1,f2,f3,f4,f5⟩:=fo b hb
  exact ⟨f3,f1,f4,f5⟩
end
section
variable {X:Cx} {scope:Scope} {N:List Str} {ix:List (Option Nat)} {tg iter elt:Expr} {ifs:List Expr} {pos:Pos} {wi:TI} {g:TG} {tc:TT} {te:TE}
theorem h9 {pins:List (Addr×Obj)} {σ:L2.St} {H2:Hp} {s2:Shared} {J:It} {fp:List Addr} {it:Addr} {tn:Nat→Heap→Prop} {Q:VK} {RR:Value→Addr→Result→Shared→Prop} {E:Value→Shared→Prop}
  (hc:X.calm=true) (I2:Inv X pins σ H2 s2) (T:Turn X.prog X.w X.K tg J fp it tn) (st2:tn 0 s2.heap) (f2:∀ b∈fp,g7 X pins H2 b)
  (hg:∀ C s H fp pn,PG (aM X scope N C s H fp pn) tg g) (ht:∀ C s H fp pn,PTs (aM X scope N C s H fp pn) ifs tc) (he:∀ C s H fp pn,PE (aM X scope N C s H fp pn) elt te)
  (hf:bB scope X.env=true) (hk:scope.kind=.function) (hcell:∀ y∈scope.names,y.2=.cell→scope.names.lookup y.1=some .cell) (hix:g8 X scope N ix=true)
  (q:∀ D,H2 D=none→∃ W:Nat→Nat→L2.St→Hp→Prop,(∃ m,W 0 m (cj ix σ) (upd H2 D (.lst [])))∧
   ∀ i m σ1 H3,W i m σ1 H3→(J.stop i H3∧Q (.ref D) H3)∨(J.go i H3∧∀ x H4,J.yld i H3 x H4→g x σ1 H4 fun σ2 H5=>tc σ2 H5 fun b H6=>if b=true then te σ2 H6 fun v H7=>
    ∃ ys,H7 D=some (.lst ys)∧ys.length < sizeLine∧∃ m',m' < m∧W (i + 1) m' σ2 (upd H7 D (.lst (ys++[v]))) else ∃ m',m' < m∧W (i + 1) m' σ2 H6))
  (hRR:∀ (D C:Addr) (σ1:L2.St) (H1:Hp) (s1:Shared),s2.heap.objs.size≤C→Inv (aM X scope N C s2 H2 fp (X.pn++pins)) [] σ1 H1 s1→Q (.ref D) H1→RR (.ref D) C (.ok .next) s1) :
  wpAny (model X.prog X.w) X.A (newList []) (fun acc s₃=>wpAny (model X.prog X.w) X.A (newFunctionEnv scope X.env.globals (clOf scope X.env) [] X.env.qual none .none (some X.env)) (fun cenv s₄=>
   codeAny (model X.prog X.w) X.A (.compStart (.ListComp elt [⟨tg,iter,ifs,0⟩] scope pos) 0 (.ref it) acc { cenv with scope:=relabel scope X.env }) (RR acc cenv.locals) s₄) E s₃) E s2:=by
 refine wpAny_newObj_type (wp_blockEnv ?_)
 dsimp only
 generalize hH2:s2.heap.push { cls:=.type "list",dict:=none,data:=.seq ([]:List Value).toArray }=HH
 have hC:HH.objs.size=s2.heap.objs.size + 1:=by rw [←hH2,Heap.size_push]
 have hDC:s2.heap.objs.size≠HH.objs.size:=by rw [hC];exact Nat.ne_of_lt (Nat.lt_succ_self _)
 have hCle:s2.heap.objs.size≤HH.objs.size:=by rw [hC];exact Nat.le_succ _
 have ltC:∀ b o,s2.heap.get? b=some o→b≠HH.objs.size:=fun b o e=>Nat.ne_of_lt (Nat.lt_of_lt_of_le (Heap.lt_size e) hCle)
 have old0:∀ b o,s2.heap.get? b=some o→(HH.push { cls:=.type "dict",data:=.dict #[] }).get? b=some o:=fun b o e=>Heap.get?_push_of_some _ (hH2▸Heap.get?_push_of_some _ e)
 have old:∀ b o,s2.heap.get? b=some o→(pushCells (HH.push { cls:=.type "dict",data:=.dict #[] }) scope.names).get? b=some o:=fun b o e=>pushCells_keeps _ _ b o (old0 b o e)
 have hacc:(HH.push { cls:=.type "dict",data:=.dict #[] }).get? s2.heap.objs.size=some { cls:=.type "list",data:=.seq #[] 0 }:=Heap.get?_push_of_some _ (hH2▸Heap.get?_push_size _ rfl)
 obtain ⟨W,⟨m0,w0⟩,turn⟩:=q s2.heap.objs.size (I2.hok.fresh (Nat.le_refl _))
 have fin:∀ b∈fp,∃ o,s2.heap.get? b=some o:=fun b hb=>let ⟨o,e,_⟩:=T.obj 0 _ st2 b hb;⟨o,e⟩
 have stat:∀ {H':Hp},(∀ b∈fp,H' b=none)→∀ b∈fp,g7 (aM X scope N HH.objs.size s2 H2 fp (X.pn++pins)) [] H' b:=fun {H'} hn b hb=>by
  obtain ⟨f0,f1,ff,f3,f4,f5⟩:=f2 b hb
  refine ⟨hn b hb,?_,fun z=>?_,.inl hb,fun x c e=>?_,fun p hp=>?_⟩
  ·intro z
   have z:b=HH.objs.size:=z
   obtain ⟨o,ho⟩:=fin b hb
   exact ltC b o ho z
  ·exact (List.mem_cons.mp (I2.stkSub b z)).elim f1 ff
  ·have e:(cellsFrom (HH.objs.size + 1) scope.names (clOf scope X.env)).lookup x=some c:=e
   have sz:(HH.push { cls:=.type "dict",data:=.dict #[] }).objs.size=HH.objs.size + 1:=Heap.size_push ..
   rw [←sz] at e
   rcases dO scope.names _ _ e with e | ⟨e1,_⟩
   ·exact f4 x c (b9 I2.ok hf e)
   ·intro z
    subst z
    obtain ⟨o,ho⟩:=fin c hb
    rw [sz] at e1
    exact absurd (Nat.lt_of_lt_of_le (Heap.lt_size ho) (Nat.le_trans hCle (Nat.le_of_succ_le e1))) (Nat.lt_irrefl _)
  ·have hp:p∈X.pn++pins:=by
    have:p∈(X.pn++pins)++[]:=hp
    rwa [List.append_nil] at this
   exact f5 p hp
 have loop:∀ s₃:Shared,s₃={ s2 with heap:=pushCells (HH.push { cls:=.type "dict",data:=.dict #[] }) scope.names }→
   codeAny (model X.prog X.w) X.A (.compLoop (.ListComp elt [⟨tg,iter,ifs,0⟩] scope pos) 0 (.ref it) (.ref s2.heap.objs.size) (compEnvC scope (cellsFrom (HH.objs.size + 1) scope.names (clOf scope X.env)) HH.objs.size X.env)) (RR (.ref s2.heap.objs.size) HH.objs.size) s₃:=by
  rintro s₃ rfl
  refine gG (fun n s'=>∃ i σ' H',Inv (aM X scope N HH.objs.size s2 H2 fp (X.pn++pins)) [] σ' H' s'∧tn i s'.heap∧(∀ b∈fp,H' b=none)∧W i n σ' H') ?_ m0
   ⟨0,_,_,I2.blockK hf hk hcell hix f2 fin rfl hC (Heap.size_push ..) old0 hacc (Heap.Ns.new ..),T.keep 0 _ _ st2 fun b _ o e=>old b o e,fun b hb=>?_,w0⟩
  ·rintro n s3 ⟨i,σ3,H3,I3,st3,fr3,w3⟩
   rcases turn i n σ3 H3 w3 with ⟨stop,qn⟩ | ⟨go,step⟩
   ·refine thn (T.done (aM X scope N HH.objs.size s2 H2 fp (X.pn++pins)) rfl rfl rfl hc i [] s3 σ3 H3 NoX I3 (stat fr3) st3 stop) fun r s4 hqq=>?_
    obtain ⟨hr,I4⟩:=hqq
    subst hr
    exact hRR _ _ σ3 H3 s4 hCle I4 qn
   ·refine thn (T.item (aM X scope N HH.objs.size s2 H2 fp (X.pn++pins)) rfl rfl rfl hc i [] s3 σ3 H3 NoX I3 (stat fr3) st3 go) fun r s4 hqq=>?_
    obtain ⟨u,hr,h4⟩:=hqq
    subst hr
    refine thn h4 fun _ s5 hqq=>?_
    obtain ⟨x,H5,I5,r5,y5,st5,fr5⟩:=hqq
    have I5':=I5.pinned (stat fr5) (T.obj _ _ st5)
    refine thn (hg _ _ _ _ _ _ s5 σ3 H5 x u _ I5' r5 (step x H5 y5)) fun _ s6 hqq=>?_
    obtain ⟨σ6,H6,I6,q6⟩:=hqq
    refine thn (ht _ _ _ _ _ _ s6 σ6 H6 _ I6 q6) fun ok s7 hqq=>?_
    obtain ⟨H7,I7,q7⟩:=hqq
    have again:∀ {H8:Hp} {s8:Shared},Inv (aM X scope N HH.objs.size s2 H2 fp (X.pn++pins)) ([]++eV fp s5.heap) σ6 H8 s8→(∃ m',m' < n∧W (i + 1) m' σ6 H8)→
      ∃ m,m < n∧∃ i σ' H',Inv (aM X scope N HH.objs.size s2 H2 fp (X.pn++pins)) [] σ' H' s8∧tn i s8.heap∧(∀ b∈fp,H' b=none)∧W i m σ' H':=fun {H8 s8} I8 ⟨m',hm,w8⟩=>by
     refine ⟨m',hm,i + 1,σ6,H8,I8.unpinned,T.keep _ _ _ st5 fun b hb o e=>(I8.pin (b,o) (List.mem_append_right _ (List.mem_append_right _ (bx hb e)))).1,fun b hb=>?_,w8⟩
     obtain ⟨o,e,d⟩:=T.obj _ _ st5 b hb
     exact (I8.pin (b,o) (List.mem_append_right _ (List.mem_append_right _ (bx hb e)))).2.1
    cases ok with
    | false=>exact again I7 q7
    | true=>
     show wpAny _ _ _ _ _ _
     refine thn (he _ _ _ _ _ _ s7 σ6 H7 _ I7 q7) fun x8 s8 hqq=>?_
     obtain ⟨v8,H8,I8,r8,ys,hys,hlt,q8⟩:=hqq
     refine thn (dZ _ s8 σ6 H8 (.ref s2.heap.objs.size) [v8] (.ref s2.heap.objs.size) [x8] (fun _ H9=>∃ m',m' < n∧W (i + 1) m' σ6 H9) I8 rfl (.cons r8 .nil) ⟨_,ys,v8,rfl,rfl,hys,hlt,q8⟩) fun _ s9 hqq=>?_
     obtain ⟨_,H9,I9,_,q9⟩:=hqq
     exact again I9 q9
  ·rw [ak (fun z=>by
    obtain ⟨o,ho⟩:=fin b hb
    exact absurd z (Nat.ne_of_lt (Heap.lt_size ho)))]
   exact (f2 b hb).1
 exact codeAny_compStart_list (loop _ rfl) (T.self _ 0 _ _ _ (T.keep 0 _ _ st2 fun b _ o e=>old b o e) (loop _ rfl))
theorem mq (ix:List (Option Nat)) (N:List Str) (hc:X.calm=true) (hi:PI X tg iter wi) (hg:∀ C s H fp pn,PG (aM X scope N C s H fp pn) tg g) (ht:∀ C s H fp pn,PTs (aM X scope N C s H fp pn) ifs tc) (he:∀ C s H fp pn,PE (aM X scope N C s H fp pn) elt te)
  (hf:bB scope X.env=true:=by rfl) (hk:scope.kind=.function:=by rfl) (hcell:∀ y∈scope.names,y.2=.cell→scope.names.lookup y.1=some .cell:=by decide +kernel) (hnames:∀ y∈scope.names,y.2=.local→scope.names.lookup y.1=some .local:=by decide +kernel) (hix:g8 X scope N ix=true:=by rfl)
  (hs:∀ x,foldedSetIterable iter X.env x=pure x:=by intro _;rfl):PE X (.ListComp elt [⟨tg,iter,ifs,0⟩] scope pos) (kj wi ix g tc te):=by
 intro pins s σ H Q I h
 rw [eval_ListComp]
 have hclos:closureFor scope X.env=pure (clOf scope X.env):=by
  unfold closureFor clOf
  have:=bL X.env scope.names [] (dN I.ok hf)
  simpa using this
 refine wpAny_comprehension_free (use:=none) rfl hs hclos hk hnames (thn (hi pins s σ H _ I h) fun v s1 h1=>thn h1 fun itv s2 h2=>?_)
 obtain ⟨it,fp,tn,J,H2,e,I2,T,st2,f2,q⟩:=h2
 subst e
 refine h9 (RR:=fun acc C=>compPost (model X.prog X.w) X.A X.xe none (EP X pins σ Q) acc C) (Q:=Q) (iter:=iter) hc I2 T st2 f2 hg ht he hf hk hcell hix q fun D C σ1 H1 s1 hC J1 q1=>?_
 obtain ⟨m,ns,_⟩:=J1.loc
 exact ⟨m,ns,fun h' hs'=>⟨.ref D,H1,I2.unblockK f2 hC J1 hs',rfl,q1⟩⟩
end
end NX
namespace PV
open PySem L2 NX
inductive D where
 | non | bl (b:Bool) | int (i:Int) | str (l:List Nat) | tup (ds:List D) | lst (ds:List D) | dct (tk:Bool) (ks vs:List D)
inductive O where
 | f | l (c:O) | t (cs:List O) | d | pin (p:Addr) (c:O)
abbrev R:=O×D
abbrev Env:=List (Option R)
inductive Res (α:Type) where
 | ok (a:α) | exc (c:List Nat) | bad
noncomputable def kD:Key→D
 | .inl i=>.int i
 | .inr x=>.str x.cps.toList
noncomputable def isM:HO→Bool
 | .lst _=>true
 | .dK _=>true
 | .dT _=>true
 | _=>false
noncomputable def isT:HO→Bool
 | .tup _=>true
 | .frz _ (.tup _)=>true
 | _=>false
noncomputable def u0:Key→Prop
 | .inl _=>True
 | .inr x=>x.cps.toList.length≤sizeLine
def DictO (o:HO) (tk:Bool) (ks:List D) (xs:List V):Prop:=match tk with
 | true=>∃ kvs:List (List Key×V),o=.dT kvs∧ks=kvs.map (fun kv=>D.tup (kv.1.map kD))∧xs=kvs.map (·.2)∧∀ kv∈kvs,∀ k∈kv.1,u0 k
 | false=>∃ kvs:List (Key×V),o=.dK kvs∧ks=kvs.map (fun kv=>kD kv.1)∧xs=kvs.map (·.2)∧∀ kv∈kvs,u0 kv.1
mutual
noncomputable def Rep (K:W.Frag) (G:Hp):D→V→Prop
 | .non,v=>v=.non
 | .bl b,v=>v=.bl b
 | .int i,v=>v=.int i
 | .str l,v=>v=.str (S l)∧l.length≤sizeLine
 | .tup ds,v=>∃ p xs,v=.ref p∧G p=some (.tup xs)∧Reps K G ds xs
 | .lst ds,v=>∃ p xs,v=.ref p∧SqL K G p xs∧Reps K G ds xs
 | .dct tk ks vs,v=>∃ p xs o,v=.ref p∧Rd G p o∧DictO o tk ks xs∧Reps K G vs xs
noncomputable def Reps (K:W.Frag) (G:Hp):List D→List V→Prop
 | [],xs=>xs=[]
 | d :: ds,xs=>∃ y ys,xs=y :: ys∧Rep K G d y∧Reps K G ds ys
end
noncomputable def AllO (P:D→V→List Addr→Prop):List D→List V→List Addr→Prop
 | [],xs,fp=>xs=[]∧fp=[]
 | d :: ds,xs,fp=>∃ y ys a b,xs=y :: ys∧fp=a++b∧P d y a∧AllO P ds ys b
mutual
noncomputable def RepO (K:W.Frag) (G H:Hp):O→D→V→List Addr→Prop
 | .f,d,v,fp=>Rep K G d v∧fp=[]
 | .l c,.lst ds,v,fp=>∃ p xs fp',v=.ref p∧H p=some (.lst xs)∧fp=p :: fp'∧AllO (RepO K G H c) ds xs fp'
 | .t cs,.tup ds,v,fp=>∃ p xs,v=.ref p∧G p=some (.tup xs)∧RepT K G H cs ds xs fp
 | .d,.dct tk ks vs,v,fp=>∃ p xs o,v=.ref p∧H p=some o∧DictO o tk ks xs∧fp=[p]∧Reps K G vs xs
 | .pin p c,d,v,fp=>v=.ref p∧RepO K G H c d v fp
 | _,_,_,_=>False
noncomputable def RepT (K:W.Frag) (G H:Hp):List O→List D→List V→List Addr→Prop
 | [],[],xs,fp=>xs=[]∧fp=[]
 | c :: cs,d :: ds,xs,fp=>∃ y ys a b,xs=y :: ys∧fp=a++b∧RepO K G H c d y a∧RepT K G H cs ds ys b
 | _,_,_,_=>False
end
section
variable {K:W.Frag} {G G' H H':Hp}
theorem Rd.mono {p:Addr} {u:HO} (h:Same G G') (r:Rd G p u):Rd G' p u:=by
 rcases r with r | ⟨o,r⟩
 ·exact .inl (h _ _ r)
 ·exact .inr ⟨o,h _ _ r⟩
theorem cD {p:Addr} {xs:List V} (h:Same G G') (r:SqL K G p xs):SqL K G' p xs:=r.elim (fun r=>.inl (Rd.mono h r)) .inr
theorem aB {p:Addr} {xs:List V} (h:Same G G') (r:SqT K G p xs):SqT K G' p xs:=r.elim (fun r=>.inl (Rd.mono h r)) .inr
mutual
theorem Rep.mono (h:Same G G'):∀ {d:D} {v:V},Rep K G d v→Rep K G' d v
 | .non,_,r=>by simpa only [Rep] using r
 | .bl _,_,r=>by simpa only [Rep] using r
 | .int _,_,r=>by simpa only [Rep] using r
 | .str _,_,r=>by simpa only [Rep] using r
 | .tup ds,_,r=>by
  simp only [Rep] at r ⊢
  obtain ⟨p,xs,e,q,rs⟩:=r
  exact ⟨p,xs,e,h _ _ q,Reps.mono h rs⟩
 | .lst ds,_,r=>by
  simp only [Rep] at r ⊢
  obtain ⟨p,xs,e,q,rs⟩:=r
  exact ⟨p,xs,e,cD h q,Reps.mono h rs⟩
 | .dct tk ks vs,_,r=>by
  simp only [Rep] at r ⊢
  obtain ⟨p,xs,o,e,q,dd,rs⟩:=r
  exact ⟨p,xs,o,e,Rd.mono h q,dd,Reps.mono h rs⟩
theorem Reps.mono (h:Same G G'):∀ {ds:List D} {xs:List V},Reps K G ds xs→Reps K G' ds xs
 | [],_,r=>by simpa only [Reps] using r
 | d :: ds,_,r=>by
  simp only [Reps] at r ⊢
  obtain ⟨y,ys,e,r1,r2⟩:=r
  exact ⟨y,ys,e,Rep.mono h r1,Reps.mono h r2⟩
end
theorem AllO.imp {P P':D→V→List Addr→Prop}:∀ {ds:List D} {xs:List V} {fp:List Addr},(∀ d v a,(∀ p∈a,p∈fp)→P d v a→P' d v a)→AllO P ds xs fp→AllO P' ds xs fp
 | [],_,_,_,r=>r
 | d :: ds,xs,fp,h,r=>by
  obtain ⟨y,ys,a,b,e1,e2,p,q⟩:=r
  subst e2
  exact ⟨y,ys,a,b,e1,rfl,h _ _ _ (fun p hp=>List.mem_append_left _ hp) p,AllO.imp (fun d v c hc=>h d v c fun p hp=>List.mem_append_right _ (hc p hp)) q⟩
mutual
theorem RepO.step (h:Same G G'):∀ {o:O} {d:D} {v:V} {fp:List Addr},(∀ p∈fp,H' p=H p)→RepO K G H o d v fp→RepO K G' H' o d v fp
 | .f,d,v,fp,hk,r=>by
  simp only [RepO] at r ⊢
  exact ⟨Rep.mono h r.1,r.2⟩
 | .pin p c,d,v,fp,hk,r=>by
  simp only [RepO] at r ⊢
  exact ⟨r.1,RepO.step h hk r.2⟩
 | .l c,.lst ds,v,fp,hk,r=>by
  simp only [RepO] at r ⊢
  obtain ⟨p,xs,fp',e,q,e2,a⟩:=r
  subst e2
  exact ⟨p,xs,fp',e,(hk p List.mem_cons_self).trans q,rfl,AllO.imp (fun d v c hc=>RepO.step h fun z hz=>hk z (List.mem_cons_of_mem _ (hc z hz))) a⟩
 | .t cs,.tup ds,v,fp,hk,r=>by
  simp only [RepO] at r ⊢
  obtain ⟨p,xs,e,q,a⟩:=r
  exact ⟨p,xs,e,h _ _ q,RepT.step h hk a⟩
 | .d,.dct tk ks vs,v,fp,hk,r=>by
  simp only [RepO] at r ⊢
  obtain ⟨p,xs,o,e,q,dd,e2,rs⟩:=r
  subst e2
  exact ⟨p,xs,o,e,(hk p List.mem_cons_self).trans q,dd,rfl,Reps.mono h rs⟩
 | .l _,.non,_,_,_,r | .l _,.bl _,_,_,_,r | .l _,.int _,_,_,_,r | .l _,.str _,_,_,_,r | .l _,.tup _,_,_,_,r | .l _,.dct _ _ _,_,_,_,r=>by simp only [RepO] at r
 | .t _,.non,_,_,_,r | .t _,.bl _,_,_,_,r | .t _,.int _,_,_,_,r | .t _,.str _,_,_,_,r | .t _,.lst _,_,_,_,r | .t _,.dct _ _ _,_,_,_,r=>by simp only [RepO] at r
 | .d,.non,_,_,_,r | .d,.bl _,_,_,_,r | .d,.int _,_,_,_,r | .d,.str _,_,_,_,r | .d,.tup _,_,_,_,r | .d,.lst _,_,_,_,r=>by simp only [RepO] at r
theorem RepT.step (h:Same G G'):∀ {cs:List O} {ds:List D} {xs:List V} {fp:List Addr},(∀ p∈fp,H' p=H p)→RepT K G H cs ds xs fp→RepT K G' H' cs ds xs fp
 | [],[],_,_,_,r=>by simpa only [RepT] using r
 | c :: cs,d :: ds,xs,fp,hk,r=>by
  simp only [RepT] at r ⊢
  obtain ⟨y,ys,a,b,e1,e2,r1,r2⟩:=r
  subst e2
  exact ⟨y,ys,a,b,e1,rfl,RepO.step h (fun p hp=>hk p (List.mem_append_left _ hp)) r1,RepT.step h (fun p hp=>hk p (List.mem_append_right _ hp)) r2⟩
 | [],_ :: _,_,_,_,r=>by simp only [RepT] at r
 | _ :: _,[],_,_,_,r=>by simp only [RepT] at r
end
theorem AllO.frozen {P:D→V→List Addr→Prop}:∀ {ds:List D} {xs:List V} {fp:List Addr},(∀ d v a,(∀ p∈a,p∈fp)→P d v a→Rep K G' d v)→AllO P ds xs fp→Reps K G' ds xs
 | [],_,_,_,r=>by simp only [Reps];exact r.1
 | d :: ds,xs,fp,h,r=>by
  obtain ⟨y,ys,a,b,e1,e2,p,q⟩:=r
  subst e2
  simp only [Reps]
  exact ⟨y,ys,e1,h _ _ _ (fun p hp=>List.mem_append_left _ hp) p,AllO.frozen (fun d v c hc=>h d v c fun p hp=>List.mem_append_right _ (hc p hp)) q⟩
mutual
theorem RepO.frozen (h:Same G G'):∀ {o:O} {d:D} {v:V} {fp:List Addr},(∀ p∈fp,∀ u,H p=some u→G' p=some u)→RepO K G H o d v fp→Rep K G' d v
 | .f,d,v,fp,hk,r=>by
  simp only [RepO] at r
  exact Rep.mono h r.1
 | .pin p c,d,v,fp,hk,r=>by
  simp only [RepO] at r
  exact RepO.frozen h hk r.2
 | .l c,.lst ds,v,fp,hk,r=>by
  simp only [RepO] at r
  simp only [Rep]
  obtain ⟨p,xs,fp',e,q,e2,a⟩:=r
  subst e2
  exact ⟨p,xs,e,SqL.of (hk p List.mem_cons_self _ q),AllO.frozen (fun d v c hc=>RepO.frozen h fun z hz=>hk z (List.mem_cons_of_mem _ (hc z hz))) a⟩
 | .t cs,.tup ds,v,fp,hk,r=>by
  simp only [RepO] at r
  simp only [Rep]
  obtain ⟨p,xs,e,q,a⟩:=r
  exact ⟨p,xs,e,h _ _ q,RepT.frozen h hk a⟩
 | .d,.dct tk ks vs,v,fp,hk,r=>by
  simp only [RepO] at r
  simp only [Rep]
  obtain ⟨p,xs,o,e,q,dd,e2,rs⟩:=r
  subst e2
  exact ⟨p,xs,o,e,.inl (hk p List.mem_cons_self _ q),dd,Reps.mono h rs⟩
 | .l _,.non,_,_,_,r | .l _,.bl _,_,_,_,r | .l _,.int _,_,_,_,r | .l _,.str _,_,_,_,r | .l _,.tup _,_,_,_,r | .l _,.dct _ _ _,_,_,_,r=>by simp only [RepO] at r
 | .t _,.non,_,_,_,r | .t _,.bl _,_,_,_,r | .t _,.int _,_,_,_,r | .t _,.str _,_,_,_,r | .t _,.lst _,_,_,_,r | .t _,.dct _ _ _,_,_,_,r=>by simp only [RepO] at r
 | .d,.non,_,_,_,r | .d,.bl _,_,_,_,r | .d,.int _,_,_,_,r | .d,.str _,_,_,_,r | .d,.tup _,_,_,_,r | .d,.lst _,_,_,_,r=>by simp only [RepO] at r
theorem RepT.frozen (h:Same G G'):∀ {cs:List O} {ds:List D} {xs:List V} {fp:List Addr},(∀ p∈fp,∀ u,H p=some u→G' p=some u)→RepT K G H cs ds xs fp→Reps K G' ds xs
 | [],[],_,_,_,r=>by simp only [RepT] at r;simp only [Reps];exact r.1
 | c :: cs,d :: ds,xs,fp,hk,r=>by
  simp only [RepT] at r
  simp only [Reps]
  obtain ⟨y,ys,a,b,e1,e2,r1,r2⟩:=r
  subst e2
  exact ⟨y,ys,e1,RepO.frozen h (fun p hp=>hk p (List.mem_append_left _ hp)) r1,RepT.frozen h (fun p hp=>hk p (List.mem_append_right _ hp)) r2⟩
 | [],_ :: _,_,_,_,r=>by simp only [RepT] at r
 | _ :: _,[],_,_,_,r=>by simp only [RepT] at r
end
theorem AllO.live {P:D→V→List Addr→Prop}:∀ {ds:List D} {xs:List V} {fp:List Addr},(∀ d v a,P d v a→∀ p∈a,∃ u,H p=some u)→AllO P ds xs fp→∀ p∈fp,∃ u,H p=some u
 | [],_,_,_,r=>by rw [r.2];intro p hp;cases hp
 | d :: ds,xs,fp,h,r=>by
  obtain ⟨y,ys,a,b,e1,e2,p,q⟩:=r
  subst e2
  intro z hz
  rcases List.mem_append.mp hz with hz | hz
  ·exact h _ _ _ p z hz
  ·exact AllO.live h q z hz
mutual
theorem RepO.live:∀ {o:O} {d:D} {v:V} {fp:List Addr},RepO K G H o d v fp→∀ p∈fp,∃ u,H p=some u
 | .f,d,v,fp,r=>by
  simp only [RepO] at r
  rw [r.2]
  intro p hp
  cases hp
 | .pin p c,d,v,fp,r=>by
  simp only [RepO] at r
  exact RepO.live r.2
 | .l c,.lst ds,v,fp,r=>by
  simp only [RepO] at r
  obtain ⟨p,xs,fp',e,q,e2,a⟩:=r
  subst e2
  intro z hz
  rcases List.mem_cons.mp hz with rfl | hz
  ·exact ⟨_,q⟩
  ·exact AllO.live (fun d v a=>RepO.live) a z hz
 | .t cs,.tup ds,v,fp,r=>by
  simp only [RepO] at r
  obtain ⟨p,xs,e,q,a⟩:=r
  exact RepT.live a
 | .d,.dct tk ks vs,v,fp,r=>by
  simp only [RepO] at r
  obtain ⟨p,xs,o,e,q,dd,e2,rs⟩:=r
  subst e2
  intro z hz
  rw [List.mem_singleton] at hz
  exact ⟨_,hz▸q⟩
 | .l _,.non,_,_,r | .l _,.bl _,_,_,r | .l _,.int _,_,_,r | .l _,.str _,_,_,r | .l _,.tup _,_,_,r | .l _,.dct _ _ _,_,_,r=>by simp only [RepO] at r
 | .t _,.non,_,_,r | .t _,.bl _,_,_,r | .t _,.int _,_,_,r | .t _,.str _,_,_,r | .t _,.lst _,_,_,r | .t _,.dct _ _ _,_,_,r=>by simp only [RepO] at r
 | .d,.non,_,_,r | .d,.bl _,_,_,r | .d,.int _,_,_,r | .d,.str _,_,_,r | .d,.tup _,_,_,r | .d,.lst _,_,_,r=>by simp only [RepO] at r
theorem RepT.live:∀ {cs:List O} {ds:List D} {xs:List V} {fp:List Addr},RepT K G H cs ds xs fp→∀ p∈fp,∃ u,H p=some u
 | [],[],_,_,r=>by
  simp only [RepT] at r
  rw [r.2]
  intro p hp
  cases hp
 | c :: cs,d :: ds,xs,fp,r=>by
  simp only [RepT] at r
  obtain ⟨y,ys,a,b,e1,e2,r1,r2⟩:=r
  subst e2
  intro z hz
  rcases List.mem_append.mp hz with hz | hz
  ·exact RepO.live r1 z hz
  ·exact RepT.live r2 z hz
 | [],_ :: _,_,_,r=>by simp only [RepT] at r
 | _ :: _,[],_,_,r=>by simp only [RepT] at r
end
theorem DictO.isM {o:HO} {tk:Bool} {ks:List D} {xs:List V} (h:DictO o tk ks xs):PV.isM o=true:=by
 cases tk with
 | true=>
  obtain ⟨kvs,e,_⟩:=h
  rw [e];rfl
 | false=>
  obtain ⟨kvs,e,_⟩:=h
  rw [e];rfl
theorem AllO.mut {P:D→V→List Addr→Prop}:∀ {ds:List D} {xs:List V} {fp:List Addr},(∀ d v a,P d v a→∀ p∈a,∃ u,H p=some u∧isM u=true)→AllO P ds xs fp→∀ p∈fp,∃ u,H p=some u∧isM u=true
 | [],_,_,_,r=>by rw [r.2];intro p hp;cases hp
 | d :: ds,xs,fp,h,r=>by
  obtain ⟨y,ys,a,b,e1,e2,p,q⟩:=r
  subst e2
  intro z hz
  rcases List.mem_append.mp hz with hz | hz
  ·exact h _ _ _ p z hz
  ·exact AllO.mut h q z hz
mutual
theorem RepO.mut:∀ {o:O} {d:D} {v:V} {fp:List Addr},RepO K G H o d v fp→∀ p∈fp,∃ u,H p=some u∧isM u=true
 | .f,d,v,fp,r=>by
  simp only [RepO] at r
  rw [r.2]
  intro p hp
  cases hp
 | .pin p c,d,v,fp,r=>by
  simp only [RepO] at r
  exact RepO.mut r.2
 | .l c,.lst ds,v,fp,r=>by
  simp only [RepO] at r
  obtain ⟨p,xs,fp',e,q,e2,a⟩:=r
  subst e2
  intro z hz
  rcases List.mem_cons.mp hz with rfl | hz
  ·exact ⟨_,q,rfl⟩
  ·exact AllO.mut (fun d v a=>RepO.mut) a z hz
 | .t cs,.tup ds,v,fp,r=>by
  simp only [RepO] at r
  obtain ⟨p,xs,e,q,a⟩:=r
  exact RepT.mut a
 | .d,.dct tk ks vs,v,fp,r=>by
  simp only [RepO] at r
  obtain ⟨p,xs,o,e,q,dd,e2,rs⟩:=r
  subst e2
  intro z hz
  rw [List.mem_singleton] at hz
  exact ⟨_,hz▸q,dd.isM⟩
 | .l _,.non,_,_,r | .l _,.bl _,_,_,r | .l _,.int _,_,_,r | .l _,.str _,_,_,r | .l _,.tup _,_,_,r | .l _,.dct _ _ _,_,_,r=>by simp only [RepO] at r
 | .t _,.non,_,_,r | .t _,.bl _,_,_,r | .t _,.int _,_,_,r | .t _,.str _,_,_,r | .t _,.lst _,_,_,r | .t _,.dct _ _ _,_,_,r=>by simp only [RepO] at r
 | .d,.non,_,_,r | .d,.bl _,_,_,r | .d,.int _,_,_,r | .d,.str _,_,_,r | .d,.tup _,_,_,r | .d,.lst _,_,_,r=>by simp only [RepO] at r
theorem RepT.mut:∀ {cs:List O} {ds:List D} {xs:List V} {fp:List Addr},RepT K G H cs ds xs fp→∀ p∈fp,∃ u,H p=some u∧isM u=true
 | [],[],_,_,r=>by
  simp only [RepT] at r
  rw [r.2]
  intro p hp
  cases hp
 | c :: cs,d :: ds,xs,fp,r=>by
  simp only [RepT] at r
  obtain ⟨y,ys,a,b,e1,e2,r1,r2⟩:=r
  subst e2
  intro z hz
  rcases List.mem_append.mp hz with hz | hz
  ·exact RepO.mut r1 z hz
  ·exact RepT.mut r2 z hz
 | [],_ :: _,_,_,r=>by simp only [RepT] at r
 | _ :: _,[],_,_,r=>by simp only [RepT] at r
end
noncomputable def RepE (K:W.Frag) (G H:Hp):Env→List (Option V)→List Addr→Prop
 | [],vs,fp=>vs=[]∧fp=[]
 | e :: es,vs,fp=>∃ y ys,vs=y :: ys∧match e with
  | none=>RepE K G H es ys fp
  | some r=>∃ v a b,y=some v∧fp=a++b∧RepO K G H r.1 r.2 v a∧RepE K G H es ys b
theorem RepE.step (h:Same G G'):∀ {es:Env} {vs:List (Option V)} {fp:List Addr},(∀ p∈fp,H' p=H p)→RepE K G H es vs fp→RepE K G' H' es vs fp
 | [],_,_,_,r=>r
 | none :: es,vs,fp,hk,r=>by
  obtain ⟨y,ys,e,r⟩:=r
  exact ⟨y,ys,e,RepE.step h hk r⟩
 | some r :: es,vs,fp,hk,q=>by
  obtain ⟨y,ys,e,v,a,b,e1,e2,r1,r2⟩:=q
  subst e2
  exact ⟨y,ys,e,v,a,b,e1,rfl,RepO.step h (fun p hp=>hk p (List.mem_append_left _ hp)) r1,RepE.step h (fun p hp=>hk p (List.mem_append_right _ hp)) r2⟩
theorem RepE.live:∀ {es:Env} {vs:List (Option V)} {fp:List Addr},RepE K G H es vs fp→∀ p∈fp,∃ u,H p=some u
 | [],_,_,r=>by
  rw [r.2]
  intro p hp
  cases hp
 | none :: es,vs,fp,r=>by
  obtain ⟨y,ys,e,r⟩:=r
  exact RepE.live r
 | some r :: es,vs,fp,q=>by
  obtain ⟨y,ys,e,v,a,b,e1,e2,r1,r2⟩:=q
  subst e2
  intro z hz
  rcases List.mem_append.mp hz with hz | hz
  ·exact r1.live z hz
  ·exact RepE.live r2 z hz
theorem RepE.mut:∀ {es:Env} {vs:List (Option V)} {fp:List Addr},RepE K G H es vs fp→∀ p∈fp,∃ u,H p=some u∧isM u=true
 | [],_,_,r=>by
  rw [r.2]
  intro p hp
  cases hp
 | none :: es,vs,fp,r=>by
  obtain ⟨y,ys,e,r⟩:=r
  exact RepE.mut r
 | some r :: es,vs,fp,q=>by
  obtain ⟨y,ys,e,v,a,b,e1,e2,r1,r2⟩:=q
  subst e2
  intro z hz
  rcases List.mem_append.mp hz with hz | hz
  ·exact r1.mut z hz
  ·exact RepE.mut r2 z hz
theorem RepE.length:∀ {es:Env} {vs:List (Option V)} {fp:List Addr},RepE K G H es vs fp→vs.length=es.length
 | [],_,_,r=>by rw [r.1];rfl
 | none :: es,vs,fp,r=>by
  obtain ⟨y,ys,e,r⟩:=r
  rw [e,List.length_cons,List.length_cons,RepE.length r]
 | some r :: es,vs,fp,q=>by
  obtain ⟨y,ys,e,v,a,b,e1,e2,r1,r2⟩:=q
  rw [e,List.length_cons,List.length_cons,RepE.length r2]
theorem RepE.take:∀ {es:Env} {vs:List (Option V)} {fp:List Addr} {i:Nat} {r:R},RepE K G H es vs fp→es[i]?=some (some r)→
  ∃ v a b,vs[i]?=some (some v)∧RepO K G H r.1 r.2 v a∧RepE K G H (es.set i none) vs b∧fp.Perm (a++b)
 | [],_,_,_,_,_,e=>by simp at e
 | none :: es,vs,fp,0,r,q,e=>by simp at e
 | some r' :: es,vs,fp,0,r,q,e=>by
  obtain ⟨y,ys,e0,v,a,b,e1,e2,r1,r2⟩:=q
  simp at e
  subst e
  subst e0
  subst e1
  exact ⟨v,a,b,rfl,r1,⟨some v,ys,rfl,r2⟩,by rw [e2]⟩
 | none :: es,vs,fp,i + 1,r,q,e=>by
  obtain ⟨y,ys,e0,q⟩:=q
  obtain ⟨v,a,b,g1,g2,g3,g4⟩:=RepE.take q (i:=i) (r:=r) (by simpa using e)
  subst e0
  exact ⟨v,a,b,by simpa using g1,g2,⟨y,ys,rfl,g3⟩,g4⟩
 | some r' :: es,vs,fp,i + 1,r,q,e=>by
  obtain ⟨y,ys,e0,v',a',b',e1,e2,r1,r2⟩:=q
  obtain ⟨v,a,b,g1,g2,g3,g4⟩:=RepE.take r2 (i:=i) (r:=r) (by simpa using e)
  subst e0
  refine ⟨v,a,a'++b,by simpa using g1,g2,⟨y,ys,rfl,v',a',b,e1,rfl,r1,g3⟩,?_⟩
  rw [e2]
  refine (List.Perm.append_left a' g4).trans ?_
  rw [←List.append_assoc,←List.append_assoc]
  exact List.Perm.append_right b List.perm_append_comm
theorem RepE.put:∀ {es:Env} {vs:List (Option V)} {b:List Addr} {i:Nat} {r:R} {v:V} {a:List Addr},RepE K G H es vs b→es[i]?=some none→RepO K G H r.1 r.2 v a→
  ∃ fp,RepE K G H (es.set i (some r)) (vs.set i (some v)) fp∧fp.Perm (a++b)
 | [],_,_,_,_,_,_,_,e,_=>by simp at e
 | none :: es,vs,b,0,r,v,a,q,e,ro=>by
  obtain ⟨y,ys,e0,q⟩:=q
  subst e0
  exact ⟨a++b,⟨some v,ys,rfl,v,a,b,rfl,rfl,ro,q⟩,.refl _⟩
 | some r' :: es,vs,b,0,r,v,a,q,e,ro=>by simp at e
 | none :: es,vs,b,i + 1,r,v,a,q,e,ro=>by
  obtain ⟨y,ys,e0,q⟩:=q
  obtain ⟨fp,g1,g2⟩:=RepE.put q (i:=i) (r:=r) (by simpa using e) ro
  subst e0
  exact ⟨fp,⟨y,_,rfl,g1⟩,g2⟩
 | some r' :: es,vs,b,i + 1,r,v,a,q,e,ro=>by
  obtain ⟨y,ys,e0,v',a',b',e1,e2,r1,r2⟩:=q
  obtain ⟨fp,g1,g2⟩:=RepE.put r2 (i:=i) (r:=r) (by simpa using e) ro
  subst e0
  refine ⟨a'++fp,⟨y,_,rfl,v',a',fp,e1,rfl,r1,g1⟩,?_⟩
  rw [e2]
  refine (List.Perm.append_left a' g2).trans ?_
  rw [←List.append_assoc,←List.append_assoc]
  exact List.Perm.append_right b' List.perm_append_comm
theorem RepE.any:∀ {es:Env} {vs:List (Option V)} {fp:List Addr} {i:Nat} {y:Option V},RepE K G H es vs fp→(es[i]?=some none∨es.length≤i)→RepE K G H es (vs.set i y) fp
 | [],_,_,_,_,q,_=>by
  rw [q.1,q.2]
  exact ⟨rfl,rfl⟩
 | none :: es,vs,fp,0,y,q,e=>by
  obtain ⟨y',ys,e0,q⟩:=q
  subst e0
  exact ⟨y,ys,rfl,q⟩
 | some r' :: es,vs,fp,0,y,q,e=>by simp at e
 | none :: es,vs,fp,i + 1,y,q,e=>by
  obtain ⟨y',ys,e0,q⟩:=q
  subst e0
  exact ⟨y',ys.set i y,rfl,RepE.any q (by simpa using e)⟩
 | some r' :: es,vs,fp,i + 1,y,q,e=>by
  obtain ⟨y',ys,e0,v',a',b',e1,e2,r1,r2⟩:=q
  subst e0
  exact ⟨y',ys.set i y,rfl,v',a',b',e1,e2,r1,RepE.any r2 (by simpa using e)⟩
structure Rel (K:W.Frag) (G H:Hp) (es:Env) (vs:List (Option V)) (fp:List Addr):Prop where
 rep:RepE K G H es vs fp
 nd:fp.Nodup
 gn:∀ p∈fp,G p=none
 gh:Same G H
structure Step (G H:Hp) (fp:List Addr) (G' H':Hp) (fp':List Addr):Prop where
 gg:Same G G'
 keep:∀ q u,H q=some u→q∉fp→H' q=some u
 fpn:∀ q∈fp',q∈fp∨H q=none
 gnew:∀ q u,G' q=some u→G q=some u∨q∈fp∨H q=none∨isT u=true∧H q=some u
 there:∀ q u,H q=some u→∃ u',H' q=some u'
theorem Step.refl {fp:List Addr}:Step G H fp G H fp:=⟨.refl _,fun _ _ h _=>h,fun _ h=>.inl h,fun _ _ h=>.inl h,fun _ u h=>⟨u,h⟩⟩
theorem Step.trans {G1 H1 G2 H2:Hp} {fp fp1 fp2:List Addr} (a:Step G H fp G1 H1 fp1) (b:Step G1 H1 fp1 G2 H2 fp2):Step G H fp G2 H2 fp2:=by
 refine ⟨a.gg.trans b.gg,fun q u h n=>?_,fun q hq=>?_,fun q u hq=>?_,fun q u h=>?_⟩
 ·refine b.keep q u (a.keep q u h n) fun hq=>?_
  rcases a.fpn q hq with z | z
  ·exact n z
  ·rw [z] at h;cases h
 ·rcases b.fpn q hq with z | z
  ·exact a.fpn q z
  ·cases e:H q with
   | none=>exact .inr rfl
   | some u=>
    obtain ⟨u',e'⟩:=a.there q u e
    rw [z] at e';cases e'
 ·rcases b.gnew q u hq with z | z | z | ⟨t,z⟩
  ·exact a.gnew q u z
  ·exact .inr ((a.fpn q z).imp_right .inl)
  ·cases e:H q with
   | none=>exact .inr (.inr (.inl rfl))
   | some u=>
    obtain ⟨u',e'⟩:=a.there q u e
    rw [z] at e';cases e'
  ·cases e:H q with
   | none=>exact .inr (.inr (.inl rfl))
   | some u2=>
    by_cases hf:q∈fp
    ·exact .inr (.inl hf)
    ·rw [a.keep q u2 e hf] at z
     cases z
     exact .inr (.inr (.inr ⟨t,rfl⟩))
 ·obtain ⟨u',h'⟩:=a.there q u h
  exact b.there q u' h'
theorem Step.perm {fp fq fp' fq':List Addr} (a:Step G H fp G' H' fp') (h:∀ q,q∈fp↔q∈fq) (h':∀ q∈fq',q∈fp'):Step G H fq G' H' fq':=
 ⟨a.gg,fun q u e n=>a.keep q u e fun z=>n ((h q).mp z),fun q hq=>(a.fpn q (h' q hq)).imp_left (h q).mp,fun q u e=>(a.gnew q u e).imp_right (Or.imp_left (h q).mp),a.there⟩
theorem Step.wide {fp fq fp' fq':List Addr} (a:Step G H fp G' H' fp') (h:∀ q∈fp,q∈fq) (h':∀ q∈fq',q∈fp'∨q∈fq):Step G H fq G' H' fq':=
 ⟨a.gg,fun q u e n=>a.keep q u e fun z=>n (h q z),fun q hq=>(h' q hq).elim (fun z=>(a.fpn q z).imp_left (h q)) .inl,fun q u e=>(a.gnew q u e).imp_right (Or.imp_left (h q)),a.there⟩
theorem Rel.perm {es:Env} {vs:List (Option V)} {fp fq:List Addr} (r:RepE K G H es vs fq) (nd:fp.Nodup) (gn:∀ p∈fp,G p=none) (gh:Same G H) (h:fp.Perm fq):Rel K G H es vs fq:=
 ⟨r,h.nodup_iff.mp nd,fun p hp=>gn p (h.mem_iff.mpr hp),gh⟩
theorem Rel.frame {r:R} {v:V} {es:Env} {vs:List (Option V)} {fp:List Addr} (q:Rel K G H (some r :: es) (some v :: vs) fp) :
  ∃ a b,fp=a++b∧RepO K G H r.1 r.2 v a∧Rel K G H es vs b∧∀ (G' H':Hp) (es':Env) (vs':List (Option V)) (b':List Addr),Step G H b G' H' b'→Rel K G' H' es' vs' b'→
   Rel K G' H' (some r :: es') (some v :: vs') (a++b')∧Step G H (a++b) G' H' (a++b'):=by
 obtain ⟨y,ys,e,v',a,b,e1,e2,r1,r2⟩:=q.rep
 cases e
 cases e1
 subst e2
 have nd:=List.nodup_append.mp q.nd
 refine ⟨a,b,rfl,r1,⟨r2,nd.2.1,fun p hp=>q.gn p (List.mem_append_right _ hp),q.gh⟩,fun G' H' es' vs' b' st k=>?_⟩
 have nb:∀ p∈a,p∉b:=fun p hp hb=>nd.2.2 p hp p hb rfl
 have same:∀ p∈a,H' p=H p:=fun p hp=>by
  obtain ⟨u,hu⟩:=r1.live p hp
  rw [hu]
  exact st.keep p u hu (nb p hp)
 refine ⟨⟨⟨some v,vs',rfl,v,a,b',rfl,rfl,r1.step st.gg same,k.rep⟩,?_,fun p hp=>?_,k.gh⟩,st.wide (fun p hp=>List.mem_append_right _ hp) fun p hp=>?_⟩
 ·rw [List.nodup_append]
  refine ⟨nd.1,k.nd,fun p hp z hz e=>?_⟩
  subst e
  obtain ⟨u,hu⟩:=r1.live p hp
  rcases st.fpn p hz with z | z
  ·exact nb p hp z
  ·rw [z] at hu;cases hu
 ·rcases List.mem_append.mp hp with hp | hp
  ·cases e:G' p with
   | none=>rfl
   | some u=>
    exfalso
    obtain ⟨u',hu⟩:=r1.live p hp
    rcases st.gnew p u e with z | z | z | ⟨t,z⟩
    ·rw [q.gn p (List.mem_append_left _ hp)] at z;cases z
    ·exact nb p hp z
    ·rw [z] at hu;cases hu
    ·obtain ⟨u2,h2,hm⟩:=r1.mut p hp
     rw [z] at h2
     cases h2
     cases u with
     | tup _=>cases hm
     | frz _ _=>cases hm
     | _=>cases t
  ·exact k.gn p hp
 ·rcases List.mem_append.mp hp with hp | hp
  ·exact .inr (List.mem_append_left _ hp)
  ·exact .inl hp
theorem Rel.freeze {r:R} {v:V} {es:Env} {vs:List (Option V)} {fp:List Addr} (q:Rel K G H (some r :: es) (some v :: vs) fp) :
  ∃ G' b,Rep K G' r.2 v∧Rel K G' H es vs b∧Step G H fp G' H b:=by
 obtain ⟨y,ys,e,v',a,b,e1,e2,r1,r2⟩:=q.rep
 cases e
 cases e1
 subst e2
 have nd:=List.nodup_append.mp q.nd
 have nb:∀ p∈a,p∉b:=fun p hp hb=>nd.2.2 p hp p hb rfl
 have hg:Same G (fun p=>if p∈a then H p else G p):=fun p u e=>by
  show (if p∈a then H p else G p)=some u
  by_cases hp:p∈a
  ·rw [if_pos hp]
   exact q.gh p u e
  ·rw [if_neg hp]
   exact e
 refine ⟨fun p=>if p∈a then H p else G p,b,r1.frozen hg fun p hp u e=>?_,⟨r2.step hg fun _ _=>rfl,nd.2.1,fun p hp=>?_,fun p u e=>?_⟩,⟨hg,fun _ _ e _=>e,fun p hp=>.inl (List.mem_append_right _ hp),fun p u e=>?_,fun _ u e=>⟨u,e⟩⟩⟩
 ·show (if p∈a then H p else G p)=some u
  rw [if_pos hp]
  exact e
 ·show (if p∈a then H p else G p)=none
  rw [if_neg (fun z=>nb p z hp)]
  exact q.gn p (List.mem_append_right _ hp)
 ·have e:(if p∈a then H p else G p)=some u:=e
  by_cases hp:p∈a
  ·rw [if_pos hp] at e
   exact e
  ·rw [if_neg hp] at e
   exact q.gh p u e
 ·have e:(if p∈a then H p else G p)=some u:=e
  by_cases hp:p∈a
  ·exact .inr (.inl (List.mem_append_left _ hp))
  ·rw [if_neg hp] at e
   exact .inl e
end
section
variable {K:W.Frag} {G G' H H':Hp} {es:Env} {vs:List (Option V)} {fp:List Addr}
theorem iT:∀ {ds:List D} {xs:List V} {fp:List Addr},AllO (RepO K G H .f) ds xs fp↔Reps K G ds xs∧fp=[]
 | [],xs,fp=>by simp only [AllO,Reps]
 | d :: ds,xs,fp=>by
  simp only [AllO,Reps,RepO]
  constructor
  ·rintro ⟨y,ys,a,b,e1,e2,⟨r,e3⟩,q⟩
   obtain ⟨q1,q2⟩:=iT.mp q
   subst e3
   subst q2
   exact ⟨⟨y,ys,e1,r,q1⟩,e2⟩
  ·rintro ⟨⟨y,ys,e1,r,q1⟩,e⟩
   exact ⟨y,ys,[],[],e1,e,⟨r,rfl⟩,iT.mpr ⟨q1,rfl⟩⟩
theorem d7 {d:D} {v:V} {a:List Addr}:RepO K G H .f d v a↔Rep K G d v∧a=[]:=by simp only [RepO]
theorem bo {ds:List D} {v:V} {a:List Addr}:RepO K G H (.l .f) (.lst ds) v a↔∃ p xs,v=.ref p∧H p=some (.lst xs)∧a=[p]∧Reps K G ds xs:=by
 rw [RepO]
 constructor
 ·rintro ⟨p,xs,b,e,q,e2,r⟩
  obtain ⟨r',eb⟩:=iT.mp r
  subst eb
  exact ⟨p,xs,e,q,e2,r'⟩
 ·rintro ⟨p,xs,e,q,e2,r⟩
  exact ⟨p,xs,[],e,q,e2,iT.mpr ⟨r,rfl⟩⟩
theorem Reps.length:∀ {ds:List D} {xs:List V},Reps K G ds xs→xs.length=ds.length
 | [],xs,r=>by simp only [Reps] at r;rw [r];rfl
 | d :: ds,xs,r=>by
  simp only [Reps] at r
  obtain ⟨y,ys,e,_,q⟩:=r
  rw [e,List.length_cons,List.length_cons,Reps.length q]
theorem Reps.get:∀ {ds:List D} {xs:List V} {i:Nat} {d:D},Reps K G ds xs→ds[i]?=some d→∃ v,xs[i]?=some v∧Rep K G d v
 | [],_,_,_,_,e=>by simp at e
 | d' :: ds,xs,0,d,r,e=>by
  simp only [Reps] at r
  obtain ⟨y,ys,e1,q,_⟩:=r
  simp at e
  subst e
  exact ⟨y,by rw [e1];rfl,q⟩
 | d' :: ds,xs,i + 1,d,r,e=>by
  simp only [Reps] at r
  obtain ⟨y,ys,e1,_,q⟩:=r
  obtain ⟨v,a,b⟩:=Reps.get q (i:=i) (d:=d) (by simpa using e)
  exact ⟨v,by rw [e1];simpa using a,b⟩
theorem Reps.app:∀ {ds es:List D} {xs ys:List V},Reps K G ds xs→Reps K G es ys→Reps K G (ds++es) (xs++ys)
 | [],_,_,_,r,q=>by simp only [Reps] at r;rw [r];exact q
 | d :: ds,es,xs,ys,r,q=>by
  simp only [Reps] at r
  obtain ⟨z,zs,e,r1,r2⟩:=r
  rw [e]
  simp only [List.cons_append,Reps]
  exact ⟨z,_,rfl,r1,r2.app q⟩
theorem Reps.one {d:D} {v:V} (r:Rep K G d v):Reps K G [d] [v]:=by
 simp only [Reps]
 exact ⟨v,[],rfl,r,rfl⟩
theorem Reps.nil:Reps K G [] []:=by simp only [Reps]
theorem Reps.cons {d:D} {v:V} {ds:List D} {xs:List V} (r:Rep K G d v) (q:Reps K G ds xs):Reps K G (d :: ds) (v :: xs):=by
 simp only [Reps]
 exact ⟨v,xs,rfl,r,q⟩
theorem Reps.cons_iff {d:D} {v:V} {ds:List D} {xs:List V}:Reps K G (d :: ds) (v :: xs)↔Rep K G d v∧Reps K G ds xs:=by
 simp only [Reps]
 constructor
 ·rintro ⟨y,ys,e,r,q⟩
  cases e
  exact ⟨r,q⟩
 ·rintro ⟨r,q⟩
  exact ⟨v,xs,rfl,r,q⟩
theorem Reps.take:∀ {ds:List D} {xs:List V} (n:Nat),Reps K G ds xs→Reps K G (ds.take n) (xs.take n)
 | _,_,0,_=>by rw [List.take_zero,List.take_zero];exact Reps.nil
 | [],xs,n + 1,r=>by simp only [Reps] at r;rw [r];exact Reps.nil
 | d :: ds,xs,n + 1,r=>by
  simp only [Reps] at r
  obtain ⟨y,ys,e,r1,r2⟩:=r
  rw [e,List.take_succ_cons,List.take_succ_cons]
  exact .cons r1 (r2.take n)
theorem Reps.drop:∀ {ds:List D} {xs:List V} (n:Nat),Reps K G ds xs→Reps K G (ds.drop n) (xs.drop n)
 | _,_,0,r=>r
 | [],xs,n + 1,r=>by simp only [Reps] at r;rw [r];exact Reps.nil
 | d :: ds,xs,n + 1,r=>by
  simp only [Reps] at r
  obtain ⟨y,ys,e,r1,r2⟩:=r
  rw [e,List.drop_succ_cons,List.drop_succ_cons]
  exact r2.drop n
theorem Reps.set:∀ {ds:List D} {xs:List V} (n:Nat) {d:D} {v:V},Reps K G ds xs→Rep K G d v→Reps K G (ds.set n d) (xs.set n v)
 | [],xs,n,d,v,r,q=>by simp only [Reps] at r;rw [r];exact Reps.nil
 | d' :: ds,xs,0,d,v,r,q=>by
  simp only [Reps] at r
  obtain ⟨y,ys,e,r1,r2⟩:=r
  rw [e]
  exact .cons q r2
 | d' :: ds,xs,n + 1,d,v,r,q=>by
  simp only [Reps] at r
  obtain ⟨y,ys,e,r1,r2⟩:=r
  rw [e]
  exact .cons r1 (r2.set n q)
theorem Step.cut {fq:List Addr} (h:∀ q∈fq,q∈fp):Step G H fp G H fq:=⟨.refl _,fun _ _ e _=>e,fun q hq=>.inl (h q hq),fun _ _ e=>.inl e,fun _ u e=>⟨u,e⟩⟩
theorem Rel.drop {r:R} {y:Option V} (q:Rel K G H (some r :: es) (y :: vs) fp):∃ b,Rel K G H es vs b∧Step G H fp G H b:=by
 obtain ⟨y,ys,e,v',a,b,e1,e2,r1,r2⟩:=q.rep
 cases e
 cases e1
 subst e2
 have nd:=List.nodup_append.mp q.nd
 exact ⟨b,⟨r2,nd.2.1,fun p hp=>q.gn p (List.mem_append_right _ hp),q.gh⟩,Step.cut fun p hp=>List.mem_append_right _ hp⟩
theorem Rel.top {r:R} {v:V} (q:Rel K G H (some r :: es) (some v :: vs) fp):Rep K H r.2 v:=by
 obtain ⟨y,ys,e,v',a,b,e1,e2,r1,r2⟩:=q.rep
 cases e
 cases e1
 exact r1.frozen q.gh fun p hp u e=>e
theorem Rel.out {i:Nat} {r:R} (q:Rel K G H es vs fp) (e:es[i]?=some (some r)):∃ v fq,vs[i]?=some (some v)∧Rel K G H (some r :: es.set i none) (some v :: vs) fq∧Step G H fp G H fq∧Step G H fq G H fp:=by
 obtain ⟨v,a,b,e1,r1,r2,pm⟩:=q.rep.take e
 exact ⟨v,a++b,e1,Rel.perm ⟨some v,vs,rfl,v,a,b,rfl,rfl,r1,r2⟩ q.nd q.gn q.gh pm,Step.cut fun p hp=>pm.mem_iff.mpr hp,Step.cut fun p hp=>pm.mem_iff.mp hp⟩
theorem Rel.view {i:Nat} {r:R} (q:Rel K G H es vs fp) (e:es[i]?=some (some r)):∃ v,vs[i]?=some (some v)∧Rep K H r.2 v:=by
 obtain ⟨v,fq,e1,r1,_⟩:=q.out e
 exact ⟨v,e1,r1.top⟩
theorem dP {α:Type} {l:List α} {i:Nat} {x:α} (h:l[i]?=some x):l.set i x=l:=by
 apply List.ext_getElem?
 intro j
 by_cases e:i=j
 ·subst e
  rw [List.getElem?_set_self (List.getElem?_eq_some_iff.mp h).1,h]
 ·rw [List.getElem?_set_ne e]
theorem Rel.store {i:Nat} {r:R} {v:V} (q:Rel K G H (some r :: es) (some v :: vs) fp) (hi:i < es.length):∃ fq,Rel K G H (es.set i (some r)) (vs.set i (some v)) fq∧Step G H fp G H fq:=by
 obtain ⟨y,ys,e,v',a,b,e1,e2,r1,r2⟩:=q.rep
 cases e
 cases e1
 subst e2
 obtain ⟨c,hc⟩:∃ c,es[i]?=some c:=⟨_,List.getElem?_eq_getElem hi⟩
 have nd:=List.nodup_append.mp q.nd
 have key:∃ b',RepE K G H (es.set i none) vs b'∧(∀ p∈b',p∈b)∧b'.Nodup:=by
  cases c with
  | none=>exact ⟨b,by rw [dP hc];exact r2,fun _ h=>h,nd.2.1⟩
  | some r'=>
   obtain ⟨v2,a2,b2,_,_,g,pm⟩:=r2.take hc
   refine ⟨b2,g,fun p hp=>pm.mem_iff.mpr (List.mem_append_right _ hp),?_⟩
   exact (List.nodup_append.mp (pm.nodup_iff.mp nd.2.1)).2.1
 obtain ⟨b',g,sub,ndb⟩:=key
 obtain ⟨fq,g2,pm⟩:=g.put (i:=i) (r:=r) (v:=v) (by rw [List.getElem?_set_self hi]) r1
 rw [List.set_set] at g2
 have hnd:(a++b').Nodup:=by
  rw [List.nodup_append]
  exact ⟨nd.1,ndb,fun p hp z hz=>nd.2.2 p hp z (sub z hz)⟩
 refine ⟨fq,Rel.perm g2 hnd (fun p hp=>?_) q.gh pm.symm,Step.cut fun p hp=>?_⟩
 ·refine q.gn p ?_
  rcases List.mem_append.mp hp with hp | hp
  ·exact List.mem_append_left _ hp
  ·exact List.mem_append_right _ (sub p hp)
 ·rcases List.mem_append.mp (pm.mem_iff.mp hp) with hp | hp
  ·exact List.mem_append_left _ hp
  ·exact List.mem_append_right _ (sub p hp)
theorem Rel.back {i:Nat} {r:R} {v:V} (q:Rel K G H (some r :: es) (some v :: vs) fp) (hi:i < es.length) (hv:vs[i]?=some (some v)):∃ fq,Rel K G H (es.set i (some r)) vs fq∧Step G H fp G H fq:=by
 obtain ⟨fq,g,st⟩:=q.store hi
 rw [dP hv] at g
 exact ⟨fq,g,st⟩
theorem Rel.any {i:Nat} {y:Option V} (q:Rel K G H es vs fp) (h:es[i]?=some none∨es.length≤i):Rel K G H es (vs.set i y) fp:=⟨q.rep.any h,q.nd,q.gn,q.gh⟩
theorem Rel.freezeAt {i:Nat} {r:R} (q:Rel K G H es vs fp) (e:es[i]?=some (some r)):∃ v G' fq,vs[i]?=some (some v)∧Rep K G' r.2 v∧Rel K G' H (es.set i (some (.f,r.2))) vs fq∧Step G H fp G' H fq:=by
 obtain ⟨v,fq,ev,g,st,_⟩:=q.out e
 obtain ⟨G',b,rv,g2,st2⟩:=g.freeze
 have g3:Rel K G' H (some (.f,r.2) :: es.set i none) (some v :: vs) b:=by
  refine ⟨⟨some v,vs,rfl,v,[],b,rfl,rfl,?_,g2.rep⟩,g2.nd,g2.gn,g2.gh⟩
  exact d7.mpr ⟨rv,rfl⟩
 obtain ⟨fz,g4,st4⟩:=g3.back (i:=i) (by rw [List.length_set];exact (List.getElem?_eq_some_iff.mp e).1) ev
 rw [List.set_set] at g4
 exact ⟨v,G',fz,ev,rv,g4,st.trans (st2.trans st4)⟩
theorem Rel.push {d:D} {v:V} (q:Rel K G H es vs fp) (r:Rep K G d v):Rel K G H (some (.f,d) :: es) (some v :: vs) fp:=by
 refine ⟨⟨some v,vs,rfl,v,[],fp,rfl,rfl,?_,q.rep⟩,q.nd,q.gn,q.gh⟩
 exact d7.mpr ⟨r,rfl⟩
theorem Rel.newF {p:Addr} {u:HO} (q:Rel K G H es vs fp) (hp:H p=none):Rel K (upd G p u) (upd H p u) es vs fp∧Step G H fp (upd G p u) (upd H p u) fp:=by
 have gp:G p=none:=by
  cases e:G p with
  | none=>rfl
  | some o=>rw [q.gh p o e] at hp;cases hp
 have np:p∉fp:=fun z=>by
  obtain ⟨u,e⟩:=q.rep.live p z
  rw [hp] at e;cases e
 have sg:Same G (upd G p u):=fun b o e=>by rw [ak (aw e gp)];exact e
 have sh:Same H (upd H p u):=fun b o e=>by rw [ak (aw e hp)];exact e
 refine ⟨⟨q.rep.step sg fun z hz=>ak fun e=>np (e▸hz),q.nd,fun z hz=>?_,fun b o e=>?_⟩,⟨sg,fun b o e _=>sh b o e,fun _ h=>.inl h,fun b o e=>?_,fun b o e=>⟨o,sh b o e⟩⟩⟩
 ·have:z≠p:=fun e=>np (e▸hz)
  rw [ak this]
  exact q.gn z hz
 ·by_cases hb:b=p
  ·subst hb
   rw [aX] at e ⊢
   exact e
  ·rw [ak hb] at e ⊢
   exact q.gh b o e
 ·by_cases hb:b=p
  ·subst hb
   exact .inr (.inr (.inl hp))
  ·rw [ak hb] at e
   exact .inl e
theorem Rel.newL {p:Addr} {ds:List D} {xs:List V} (q:Rel K G H es vs fp) (hp:H p=none) (r:Reps K G ds xs) :
  Rel K G (upd H p (.lst xs)) (some (.l .f,.lst ds) :: es) (some (.ref p) :: vs) (p :: fp)∧Step G H fp G (upd H p (.lst xs)) (p :: fp):=by
 have gp:G p=none:=by
  cases e:G p with
  | none=>rfl
  | some o=>rw [q.gh p o e] at hp;cases hp
 have np:p∉fp:=fun z=>by
  obtain ⟨u,e⟩:=q.rep.live p z
  rw [hp] at e;cases e
 have sh:Same H (upd H p (.lst xs)):=fun b o e=>by rw [ak (aw e hp)];exact e
 refine ⟨⟨⟨some (.ref p),vs,rfl,.ref p,[p],fp,rfl,rfl,bo.mpr ⟨p,xs,rfl,aX,rfl,r⟩,q.rep.step (.refl _) fun z hz=>ak fun e=>np (e▸hz)⟩,List.nodup_cons.mpr ⟨np,q.nd⟩,fun z hz=>?_,fun b o e=>?_⟩,
  ⟨.refl _,fun b o e _=>sh b o e,fun b hb=>?_,fun b o e=>.inl e,fun b o e=>⟨o,sh b o e⟩⟩⟩
 ·rcases List.mem_cons.mp hz with rfl | hz
  ·exact gp
  ·exact q.gn z hz
 ·exact sh b o (q.gh b o e)
 ·rcases List.mem_cons.mp hb with rfl | hb
  ·exact .inr hp
  ·exact .inl hb
theorem Rel.chg {i:Nat} {ds ds':List D} (q:Rel K G H es vs fp) (e:es[i]?=some (some (.l .f,.lst ds))):∃ p xs,vs[i]?=some (some (.ref p))∧H p=some (.lst xs)∧Reps K G ds xs∧
  ∀ xs',Reps K G ds' xs'→∃ fq,Rel K G (upd H p (.lst xs')) (es.set i (some (.l .f,.lst ds'))) vs fq∧Step G H fp G (upd H p (.lst xs')) fq:=by
 obtain ⟨v,fq,ev,g,st,st'⟩:=q.out e
 obtain ⟨y,ys,e0,v',a,b,e1,e2,r1,r2⟩:=g.rep
 cases e0
 cases e1
 obtain ⟨p,xs,e3,hp,e4,rs⟩:=bo.mp r1
 subst e3
 subst e4
 subst e2
 have nd:=List.nodup_cons.mp (show (p :: b).Nodup from g.nd)
 refine ⟨p,xs,ev,hp,rs,fun xs' rs'=>?_⟩
 have g2:Rel K G (upd H p (.lst xs')) (some (.l .f,.lst ds') :: es.set i none) (some (.ref p) :: vs) (p :: b):=by
  refine ⟨⟨some (.ref p),vs,rfl,.ref p,[p],b,rfl,rfl,bo.mpr ⟨p,xs',rfl,aX,rfl,rs'⟩,r2.step (.refl _) fun z hz=>ak fun e=>nd.1 (e▸hz)⟩,g.nd,g.gn,fun z o ez=>?_⟩
  have:z≠p:=fun w=>by
   subst w
   rw [g.gn z List.mem_cons_self] at ez;cases ez
  rw [ak this]
  exact g.gh z o ez
 have stc:Step G H (p :: b) G (upd H p (.lst xs')) (p :: b):=by
  refine ⟨.refl _,fun z o ez nz=>?_,fun z hz=>.inl hz,fun z o ez=>.inl ez,fun z o ez=>?_⟩
  ·have:z≠p:=fun w=>nz (by rw [w];exact List.mem_cons_self)
   rw [ak this]
   exact ez
  ·by_cases w:z=p
   ·subst w
    exact ⟨_,aX⟩
   ·exact ⟨o,by rw [ak w];exact ez⟩
 obtain ⟨fz,g3,st3⟩:=g2.back (i:=i) (by rw [List.length_set];exact (List.getElem?_eq_some_iff.mp e).1) ev
 rw [List.set_set] at g3
 exact ⟨fz,g3,st.trans (stc.trans st3)⟩
end
mutual
noncomputable def bV:D→Bool
 | .tup ds=>flatDs ds
 | .lst _=>false
 | .dct _ _ _=>false
 | _=>true
noncomputable def flatDs:List D→Bool
 | []=>true
 | d :: ds=>bV d && flatDs ds
end
mutual
noncomputable def ay:O→D→Bool
 | .f,d=>bV d
 | .l c,.lst ds=>ds.all (ay c)
 | .t cs,.tup ds=>iU cs ds
 | .d,.dct _ _ vs=>flatDs vs
 | .pin _ c,d=>ay c d
 | _,_=>false
noncomputable def iU:List O→List D→Bool
 | [],[]=>true
 | c :: cs,d :: ds=>ay c d && iU cs ds
 | _,_=>false
end
noncomputable def frz:Option R→Option R:=Option.map fun r=>(.f,r.2)
theorem bM:∀ ds,flatDs ds=ds.all bV
 | []=>rfl
 | d :: ds=>by rw [flatDs,List.all_cons,bM ds]
section
variable {K:W.Frag} {G G' G2 G3 H H' H2:Hp} {es:Env} {vs:List (Option V)} {fp:List Addr}
mutual
theorem Rep.flat (h:∀ p u,isT u=true→G2 p=some u→G3 p=some u):∀ {d:D} {v:V},bV d=true→Rep K G2 d v→Rep K G3 d v
 | .non,_,_,r=>by simpa only [Rep] using r
 | .bl _,_,_,r=>by simpa only [Rep] using r
 | .int _,_,_,r=>by simpa only [Rep] using r
 | .str _,_,_,r=>by simpa only [Rep] using r
 | .tup ds,_,e,r=>by
  simp only [Rep] at r ⊢
  simp only [bV] at e
  obtain ⟨p,xs,ev,q,rs⟩:=r
  exact ⟨p,xs,ev,h _ _ rfl q,Reps.flat h e rs⟩
 | .lst ds,_,e,r=>by simp only [bV] at e;cases e
 | .dct _ _ _,_,e,r=>by simp only [bV] at e;cases e
theorem Reps.flat (h:∀ p u,isT u=true→G2 p=some u→G3 p=some u):∀ {ds:List D} {xs:List V},flatDs ds=true→Reps K G2 ds xs→Reps K G3 ds xs
 | [],_,_,r=>by simpa only [Reps] using r
 | d :: ds,_,e,r=>by
  simp only [Reps] at r ⊢
  simp only [flatDs,Bool.and_eq_true] at e
  obtain ⟨y,ys,ev,r1,r2⟩:=r
  exact ⟨y,ys,ev,Rep.flat h e.1 r1,Reps.flat h e.2 r2⟩
end
theorem AllO.clean {P P':D→V→List Addr→Prop} {c:D→Bool}:∀ {ds:List D} {xs:List V} {fp:List Addr},(∀ d v a,c d=true→P d v a→P' d v a)→ds.all c=true→AllO P ds xs fp→AllO P' ds xs fp
 | [],_,_,_,_,r=>r
 | d :: ds,xs,fp,h,e,r=>by
  obtain ⟨y,ys,a,b,e1,e2,p,q⟩:=r
  rw [List.all_cons,Bool.and_eq_true] at e
  exact ⟨y,ys,a,b,e1,e2,h _ _ _ e.1 p,AllO.clean h e.2 q⟩
mutual
theorem RepO.clean (h:∀ p u,isT u=true→G2 p=some u→G3 p=some u):∀ {o:O} {d:D} {v:V} {fp:List Addr},ay o d=true→RepO K G2 H o d v fp→RepO K G3 H o d v fp
 | .f,d,v,fp,e,r=>by
  simp only [RepO] at r ⊢
  simp only [ay] at e
  exact ⟨r.1.flat h e,r.2⟩
 | .pin p c,d,v,fp,e,r=>by
  simp only [RepO] at r ⊢
  simp only [ay] at e
  exact ⟨r.1,RepO.clean h e r.2⟩
 | .l c,.lst ds,v,fp,e,r=>by
  rw [RepO] at r ⊢
  rw [ay] at e
  obtain ⟨p,xs,fp',ev,q,e2,a⟩:=r
  exact ⟨p,xs,fp',ev,q,e2,AllO.clean (fun d v a=>RepO.clean h) e a⟩
 | .t cs,.tup ds,v,fp,e,r=>by
  rw [RepO] at r ⊢
  rw [ay] at e
  obtain ⟨p,xs,ev,q,a⟩:=r
  exact ⟨p,xs,ev,h _ _ rfl q,RepT.clean h e a⟩
 | .d,.dct tk ks vs,v,fp,e,r=>by
  rw [RepO] at r ⊢
  rw [ay] at e
  obtain ⟨p,xs,o,ev,q,dd,e2,rs⟩:=r
  exact ⟨p,xs,o,ev,q,dd,e2,rs.flat h e⟩
 | .l _,.non,_,_,_,r | .l _,.bl _,_,_,_,r | .l _,.int _,_,_,_,r | .l _,.str _,_,_,_,r | .l _,.tup _,_,_,_,r | .l _,.dct _ _ _,_,_,_,r=>by simp only [RepO] at r
 | .t _,.non,_,_,_,r | .t _,.bl _,_,_,_,r | .t _,.int _,_,_,_,r | .t _,.str _,_,_,_,r | .t _,.lst _,_,_,_,r | .t _,.dct _ _ _,_,_,_,r=>by simp only [RepO] at r
 | .d,.non,_,_,_,r | .d,.bl _,_,_,_,r | .d,.int _,_,_,_,r | .d,.str _,_,_,_,r | .d,.tup _,_,_,_,r | .d,.lst _,_,_,_,r=>by simp only [RepO] at r
theorem RepT.clean (h:∀ p u,isT u=true→G2 p=some u→G3 p=some u):∀ {cs:List O} {ds:List D} {xs:List V} {fp:List Addr},iU cs ds=true→RepT K G2 H cs ds xs fp→RepT K G3 H cs ds xs fp
 | [],[],_,_,_,r=>by simpa only [RepT] using r
 | c :: cs,d :: ds,xs,fp,e,r=>by
  rw [RepT] at r ⊢
  rw [iU,Bool.and_eq_true] at e
  obtain ⟨y,ys,a,b,e1,e2,r1,r2⟩:=r
  exact ⟨y,ys,a,b,e1,e2,RepO.clean h e.1 r1,RepT.clean h e.2 r2⟩
 | [],_ :: _,_,_,_,r=>by simp only [RepT] at r
 | _ :: _,[],_,_,_,r=>by simp only [RepT] at r
end
theorem RepE.frz (h:Same G G'):∀ {es:Env} {vs:List (Option V)} {fp:List Addr},(∀ p∈fp,∀ u,H p=some u→G' p=some u)→RepE K G H es vs fp→RepE K G' H' (es.map PV.frz) vs []
 | [],_,_,_,r=>⟨r.1,rfl⟩
 | none :: es,vs,fp,hk,r=>by
  obtain ⟨y,ys,e,r⟩:=r
  exact ⟨y,ys,e,RepE.frz h hk r⟩
 | some r :: es,vs,fp,hk,q=>by
  obtain ⟨y,ys,e,v,a,b,e1,e2,r1,r2⟩:=q
  subst e2
  exact ⟨y,ys,e,v,[],[],e1,rfl,d7.mpr ⟨r1.frozen h (fun p hp=>hk p (List.mem_append_left _ hp)),rfl⟩,RepE.frz h (fun p hp=>hk p (List.mem_append_right _ hp)) r2⟩
theorem RepE.rep (h:Same G G'):∀ {es:Env} {vs:List (Option V)} {fp:List Addr} {i:Nat} {r:R} {v:V},(∀ p∈fp,∀ u,H p=some u→G' p=some u)→RepE K G H es vs fp→es[i]?=some (some r)→vs[i]?=some (some v)→Rep K G' r.2 v:=fun {es vs fp i r v} hk q e ev=>by
 obtain ⟨v',a,b,e1,r1,_,pm⟩:=q.take e
 rw [ev] at e1
 cases e1
 exact r1.frozen h fun p hp=>hk p (pm.mem_iff.mpr (List.mem_append_left _ hp))
theorem Rel.lend (q:Rel K G H es vs fp):∃ G1,Same G G1∧Same G1 H∧(∀ (i:Nat) (r:R) (v:V),es[i]?=some (some r)→vs[i]?=some (some v)→Rep K G1 r.2 v)∧
  RepE K G1 H (es.map PV.frz) vs []∧
  ∀ (H2 G2:Hp) (fp2:List Addr) (r:R) (v:V),Step G1 H [] G2 H2 fp2→Rel K G2 H2 [some r] [some v] fp2→
   (ay r.1 r.2=true→∃ G3 fp3,Step G H fp G3 H2 fp3∧Rel K G3 H2 (some r :: es) (some v :: vs) fp3)∧
   ∃ G3 fp3,Step G H fp G3 H2 fp3∧Rel K G3 H2 (some r :: es.map PV.frz) (some v :: vs) fp3:=by
 have hg:Same G (fun p=>if p∈fp then H p else G p):=fun p u e=>by
  show (if p∈fp then H p else G p)=some u
  by_cases hp:p∈fp
  ·rw [if_pos hp]
   exact q.gh p u e
  ·rw [if_neg hp]
   exact e
 have hh:Same (fun p=>if p∈fp then H p else G p) H:=fun p u e=>by
  have e:(if p∈fp then H p else G p)=some u:=e
  by_cases hp:p∈fp
  ·rw [if_pos hp] at e
   exact e
  ·rw [if_neg hp] at e
   exact q.gh p u e
 have hk:∀ p∈fp,∀ u,H p=some u→(fun p=>if p∈fp then H p else G p) p=some u:=fun p hp u e=>by
  show (if p∈fp then H p else G p)=some u
  rw [if_pos hp]
  exact e
 refine ⟨fun p=>if p∈fp then H p else G p,hg,hh,fun i r v e ev=>q.rep.rep hg hk e ev,q.rep.frz hg hk,fun H2 G2 fp2 r v st k=>?_⟩
 obtain ⟨y,ys,e0,v',a,b,e1,e2,r1,r2⟩:=k.rep
 cases e0
 cases e1
 obtain ⟨_,e3⟩:=r2
 subst e3
 rw [List.append_nil] at e2
 subst e2
 have fresh:∀ p∈fp2,H p=none:=fun p hp=>by
  rcases st.fpn p hp with z | z
  ·cases z
  ·exact z
 have kept:∀ p∈fp,H2 p=H p:=fun p hp=>by
  obtain ⟨u,hu⟩:=q.rep.live p hp
  rw [hu]
  exact st.keep p u hu (by simp)
 refine ⟨fun cl=>?_,⟨G2,fp2,⟨hg.trans st.gg,fun p u e n=>st.keep p u e (by simp),fun p hp=>.inr (fresh p hp),fun p u e=>?_,st.there⟩,?_⟩⟩
 ·have apart:∀ p∈fp2,p∉fp:=fun p hp hf=>by
   obtain ⟨u,hu⟩:=q.rep.live p hf
   rw [fresh p hp] at hu;cases hu
  have g3:Same G (fun p=>if p∈fp then none else G2 p):=fun p u e=>by
   show (if p∈fp then none else G2 p)=some u
   rw [if_neg (fun z=>by rw [q.gn p z] at e;cases e)]
   exact st.gg p u (hg p u e)
  refine ⟨fun p=>if p∈fp then none else G2 p,fp2++fp,⟨g3,fun p u e n=>st.keep p u e (by simp),fun p hp=>?_,fun p u e=>?_,st.there⟩,⟨⟨some v,vs,rfl,v,fp2,fp,rfl,rfl,r1.clean (fun p u t e=>?_) cl,q.rep.step g3 kept⟩,?_,fun p hp=>?_,fun p u e=>?_⟩⟩
  ·rcases List.mem_append.mp hp with hp | hp
   ·exact .inr (fresh p hp)
   ·exact .inl hp
  ·have e:(if p∈fp then none else G2 p)=some u:=e
   by_cases hp:p∈fp
   ·rw [if_pos hp] at e;cases e
   ·rw [if_neg hp] at e
    rcases st.gnew p u e with z | z | z
    ·have z:(if p∈fp then H p else G p)=some u:=z
     rw [if_neg hp] at z
     exact .inl z
    ·cases z
    ·exact .inr (.inr z)
  ·show (if p∈fp then none else G2 p)=some u
   by_cases hp:p∈fp
   ·exfalso
    obtain ⟨u',hu,hm⟩:=q.rep.mut p hp
    have:=st.gg p u' (hk p hp u' hu)
    rw [e] at this
    cases this
    cases u with
    | lst _=>cases t
    | dK _=>cases t
    | dT _=>cases t
    | _=>cases hm
   ·rw [if_neg hp]
    exact e
  ·rw [List.nodup_append]
   exact ⟨k.nd,q.nd,fun p hp z hz e=>apart p hp (e▸hz)⟩
  ·show (if p∈fp then none else G2 p)=none
   by_cases hf:p∈fp
   ·rw [if_pos hf]
   ·rw [if_neg hf]
    rcases List.mem_append.mp hp with hp | hp
    ·exact k.gn p hp
    ·exact absurd hp hf
  ·have e:(if p∈fp then none else G2 p)=some u:=e
   by_cases hp:p∈fp
   ·rw [if_pos hp] at e;cases e
   ·rw [if_neg hp] at e
    exact k.gh p u e
 ·rcases st.gnew p u e with z | z | z
  ·have z:(if p∈fp then H p else G p)=some u:=z
   by_cases hp:p∈fp
   ·exact .inr (.inl hp)
   ·rw [if_neg hp] at z
    exact .inl z
  ·cases z
  ·exact .inr (.inr z)
 ·refine ⟨⟨some v,vs,rfl,v,fp2,[],rfl,(List.append_nil _).symm,r1,q.rep.frz (hg.trans st.gg) fun p hp u e=>st.gg p u (hk p hp u e)⟩,k.nd,k.gn,k.gh⟩
end
end PV
namespace PV
open PySem PySem.Spec PyProof.Rows L2 NX
noncomputable def Res.bind {α β:Type}:Res α→(α→Res β)→Res β
 | .ok a,f=>f a
 | .exc c,_=>.exc c
 | .bad,_=>.bad
inductive BindOk {α β:Type} (x:Res α) (f:α→Res β) (b:β):Prop
 | mk (a:α) (h:x=.ok a) (k:f a=.ok b):BindOk x f b
theorem ab {α β:Type} {x:Res α} {f:α→Res β} {b:β} (h:x.bind f=.ok b):BindOk x f b:=by
 cases x with
 | ok a=>exact ⟨a,rfl,h⟩
 | exc c=>cases h
 | bad=>cases h
inductive Opd where
 | val (d:D) | var (i:Nat)
noncomputable def OpdOk (K:W.Frag) (G:Hp) (σ:L2.St):Opd→V→Prop
 | .val d,v=>Rep K G d v
 | .var i,v=>σ[i]?=some (some v)
theorem OpdOk.mono {K:W.Frag} {G G':Hp} {σ:L2.St} {o:Opd} {v:V} (h:Same G G') (r:OpdOk K G σ o v):OpdOk K G' σ o v:=by
 cases o with
 | val d=>exact Rep.mono h r
 | var i=>exact r
noncomputable def OpdsOk (K:W.Frag) (G:Hp) (σ:L2.St):List Opd→List V→Prop
 | [],vs=>vs=[]
 | o :: os,vs=>∃ y ys,vs=y :: ys∧OpdOk K G σ o y∧OpdsOk K G σ os ys
theorem OpdsOk.mono {K:W.Frag} {G G':Hp} {σ:L2.St} (h:Same G G'):∀ {os:List Opd} {vs:List V},OpdsOk K G σ os vs→OpdsOk K G' σ os vs
 | [],_,r=>r
 | _ :: _,_,⟨y,ys,e,r,q⟩=>⟨y,ys,e,r.mono h,OpdsOk.mono h q⟩
noncomputable def lM:O→Bool
 | .f=>true
 | .l .f=>true
 | .d=>true
 | .pin _ .f=>true
 | .pin _ (.l .f)=>true
 | .pin _ .d=>true
 | _=>false
noncomputable def der (env:PV.Env):Opd→Res D
 | .val d=>.ok d
 | .var i=>match env[i]? with
  | some (some r)=>if lM r.1 then .ok r.2 else .bad
  | _=>.bad
noncomputable def jy (env:PV.Env):Opd→Res D
 | .val d=>.ok d
 | .var i=>match env[i]? with
  | some (some r)=>.ok r.2
  | _=>.bad
noncomputable def hJ (env:PV.Env):List Opd→Res (List D)
 | []=>.ok []
 | o :: os=>(der env o).bind fun d=>(hJ env os).bind fun ds=>.ok (d :: ds)
noncomputable def eP (env:PV.Env):List Opd→Res (List D)
 | []=>.ok []
 | o :: os=>(jy env o).bind fun d=>(eP env os).bind fun ds=>.ok (d :: ds)
noncomputable def Vw (K:W.Frag) (G H:Hp):D→V→Prop
 | .lst ds,v=>∃ p xs,v=.ref p∧SqL K H p xs∧Reps K G ds xs
 | .dct tk ks vs,v=>∃ p xs o,v=.ref p∧Rd H p o∧DictO o tk ks xs∧Reps K G vs xs
 | d,v=>Rep K G d v
noncomputable def Vws (K:W.Frag) (G H:Hp):List D→List V→Prop
 | [],vs=>vs=[]
 | d :: ds,vs=>∃ y ys,vs=y :: ys∧Vw K G H d y∧Vws K G H ds ys
section
variable {K:W.Frag} {G G' H H':Hp} {es:PV.Env} {σ:L2.St} {fp:List Addr}
theorem Vw.of {d:D} {v:V} (gh:Same G H) (r:Rep K G d v):Vw K G H d v:=by
 cases d with
 | lst ds=>
  rw [Rep] at r
  obtain ⟨p,xs,e,q,rs⟩:=r
  exact ⟨p,xs,e,cD gh q,rs⟩
 | dct tk ks vs=>
  rw [Rep] at r
  obtain ⟨p,xs,o,e,q,dd,rs⟩:=r
  exact ⟨p,xs,o,e,PV.Rd.mono gh q,dd,rs⟩
 | _=>exact r
theorem Vw.rep {d:D} {v:V} (gh:Same G H) (r:Vw K G H d v):Rep K H d v:=by
 cases d with
 | lst ds=>
  obtain ⟨p,xs,e,q,rs⟩:=r
  rw [Rep]
  exact ⟨p,xs,e,q,rs.mono gh⟩
 | dct tk ks vs=>
  obtain ⟨p,xs,o,e,q,dd,rs⟩:=r
  rw [Rep]
  exact ⟨p,xs,o,e,q,dd,rs.mono gh⟩
 | non=>exact Rep.mono gh r
 | bl b=>exact Rep.mono gh r
 | int i=>exact Rep.mono gh r
 | str l=>exact Rep.mono gh r
 | tup ds=>exact Rep.mono gh r
theorem RepO.vw0 {o:O} {d:D} {v:V} {a:List Addr} (gh:Same G H) (hs:o=.f∨o=.l .f∨o=.d) (r:RepO K G H o d v a):Vw K G H d v:=by
 rcases hs with rfl | rfl | rfl
 ·exact Vw.of gh (d7.mp r).1
 ·cases d with
  | lst ds=>
   obtain ⟨p,xs,e,q,_,rs⟩:=bo.mp r
   exact ⟨p,xs,e,SqL.of q,rs⟩
  | _=>simp only [RepO] at r
 ·cases d with
  | dct tk ks vs=>
   rw [RepO] at r
   obtain ⟨p,xs,o,e,q,dd,_,rs⟩:=r
   exact ⟨p,xs,o,e,.inl q,dd,rs⟩
  | _=>simp only [RepO] at r
theorem RepO.vw {o:O} {d:D} {v:V} {a:List Addr} (gh:Same G H) (hs:lM o=true) (r:RepO K G H o d v a):Vw K G H d v:=by
 unfold lM at hs
 split at hs
 ·exact r.vw0 gh (.inl rfl)
 ·exact r.vw0 gh (.inr (.inl rfl))
 ·exact r.vw0 gh (.inr (.inr rfl))
 ·rw [RepO] at r;exact r.2.vw0 gh (.inl rfl)
 ·rw [RepO] at r;exact r.2.vw0 gh (.inr (.inl rfl))
 ·rw [RepO] at r;exact r.2.vw0 gh (.inr (.inr rfl))
 ·cases hs
theorem Rel.vw {o:Opd} {v:V} {d:D} (q:Rel K G H es σ fp) (k:OpdOk K G σ o v) (e:der es o=.ok d):Vw K G H d v:=by
 cases o with
 | val d'=>
  cases e
  exact Vw.of q.gh k
 | var i=>
  unfold der at e
  dsimp only at e
  split at e
  ·rename_i r hr
   split at e
   ·rename_i hs
    cases e
    obtain ⟨v',a,b,ev,r1,_⟩:=q.rep.take hr
    have k:σ[i]?=some (some v):=k
    rw [k] at ev
    cases ev
    exact r1.vw q.gh hs
   ·cases e
  ·cases e
theorem Rel.vwA {o:Opd} {v:V} {d:D} (q:Rel K G H es σ fp) (k:OpdOk K G σ o v) (e:jy es o=.ok d):Rep K H d v:=by
 cases o with
 | val d'=>
  cases e
  exact Rep.mono q.gh k
 | var i=>
  unfold jy at e
  dsimp only at e
  split at e
  ·rename_i r hr
   cases e
   obtain ⟨v',ev,r1⟩:=q.view hr
   have k:σ[i]?=some (some v):=k
   rw [k] at ev
   cases ev
   exact r1
  ·cases e
theorem Rel.vws (q:Rel K G H es σ fp):∀ {os:List Opd} {vs:List V} {ds:List D},OpdsOk K G σ os vs→hJ es os=.ok ds→Vws K G H ds vs
 | [],_,_,k,e=>by
  cases e
  exact k
 | o :: os,_,_,⟨y,ys,e0,k1,k2⟩,e=>by
  unfold hJ at e
  obtain ⟨d,e1,e⟩:=ab e
  obtain ⟨ds,e2,e⟩:=ab e
  cases e
  exact ⟨y,ys,e0,q.vw k1 e1,Rel.vws q k2 e2⟩
theorem d8 {G1:Hp} (gg:Same G G1) (ht:∀ (i:Nat) (r:R) (v:V),es[i]?=some (some r)→σ[i]?=some (some v)→Rep K G1 r.2 v):∀ {os:List Opd} {vs:List V} {ds:List D},OpdsOk K G σ os vs→eP es os=.ok ds→Reps K G1 ds vs
 | [],_,_,k,e=>by
  cases e
  have k:_=_:=k
  rw [k]
  exact Reps.nil
 | o :: os,_,_,⟨y,ys,e0,k1,k2⟩,e=>by
  unfold eP at e
  obtain ⟨d,e1,e⟩:=ab e
  obtain ⟨ds,e2,e⟩:=ab e
  cases e
  rw [e0]
  refine .cons ?_ (d8 gg ht k2 e2)
  cases o with
  | val d'=>
   cases e1
   exact Rep.mono gg k1
  | var i=>
   unfold jy at e1
   dsimp only at e1
   split at e1
   ·rename_i r hr
    cases e1
    exact ht i r y hr k1
   ·cases e1
end
abbrev FX:=PV.Env→Res (R×PV.Env)
abbrev FO:=PV.Env→Res (Opd×PV.Env)
abbrev FOs:=PV.Env→Res (List Opd×PV.Env)
abbrev FT:=PV.Env→Res (Bool×PV.Env)
inductive Out where
 | nx (env:PV.Env) | rt (r:R) | bk (env:PV.Env) | ct (env:PV.Env)
abbrev FS:=PV.Env→Res Out
inductive tQ (K:W.Frag) (f:FX) (σ:L2.St) (H:Hp) (Q:VK):Prop
 | mk:∀ G env fp r env',Rel K G H env σ fp→f env=.ok (r,env')→(∀ v H' G' fp',Step G H fp G' H' fp'→Rel K G' H' (some r :: env') (some v :: σ) fp'→Q v H')→tQ K f σ H Q
inductive tO (K:W.Frag) (f:FO) (σ:L2.St) (H:Hp) (Q:VK):Prop
 | mk:∀ G env fp o env',Rel K G H env σ fp→f env=.ok (o,env')→(∀ v H' G' fp',Step G H fp G' H' fp'→Rel K G' H' env' σ fp'→OpdOk K G' σ o v→Q v H')→tO K f σ H Q
inductive tOs (K:W.Frag) (f:FOs) (σ:L2.St) (H:Hp) (Q:List V→Hp→Prop):Prop
 | mk:∀ G env fp o env',Rel K G H env σ fp→f env=.ok (o,env')→(∀ v H' G' fp',Step G H fp G' H' fp'→Rel K G' H' env' σ fp'→OpdsOk K G' σ o v→Q v H')→tOs K f σ H Q
inductive tQT (K:W.Frag) (f:FT) (σ:L2.St) (H:Hp) (Q:Bool→Hp→Prop):Prop
 | mk:∀ G env fp b env',Rel K G H env σ fp→f env=.ok (b,env')→(∀ H' G' fp',Step G H fp G' H' fp'→Rel K G' H' env' σ fp'→Q b H')→tQT K f σ H Q
inductive Mode where
 | plain | mut
def u3 (md:Mode) (K:W.Frag) (G H:Hp) (r:R) (v:V) (fp:List Addr):Prop:=match md with
 | .plain=>Rel K G H [some r] [some v] fp
 | .mut=>∃ o d p c d0,r=(.t [o,.pin p c],.tup [d,d0])∧Rel K G H [some (o,d),some (.pin p c,d0)] [some v,some (.ref p)] fp
noncomputable def OutOk {md:Mode} (K:W.Frag) (G H:Hp) (fp:List Addr) (Dd:Ends):Res Out→Prop
 | .ok (.nx env')=>∀ σ' H' G' fp',Step G H fp G' H' fp'→Rel K G' H' env' σ' fp'→Dd.nx σ' H'
 | .ok (.bk env')=>∀ σ' H' G' fp',Step G H fp G' H' fp'→Rel K G' H' env' σ' fp'→Dd.bk σ' H'
 | .ok (.ct env')=>∀ σ' H' G' fp',Step G H fp G' H' fp'→Rel K G' H' env' σ' fp'→Dd.ct σ' H'
 | .ok (.rt r)=>∀ v H' G' fp',Step G H fp G' H' fp'→u3 md K G' H' r v fp'→Dd.rt v H'
 | _=>False
inductive tQS {md:Mode} (K:W.Frag) (g:FS) (Dd:Ends) (σ:L2.St) (H:Hp):Prop
 | mk:∀ G env fp,Rel K G H env σ fp→OutOk (md:=md) K G H fp Dd (g env)→tQS (md:=md) K g Dd σ H
def QE (X:Cx) (e:Expr) (f:FX):Prop:=PE X e (tQ X.K f)
def QO (X:Cx) (e:Expr) (f:FO):Prop:=PE X e (tO X.K f)
def QOs (X:Cx) (es:List Expr) (f:FOs):Prop:=PA X es (tOs X.K f)
def QT (X:Cx) (e:Expr) (f:FT):Prop:=PT X e (tQT X.K f)
def QW (X:Cx) (e:Expr) (f:FT):Prop:=PW X e (tQT X.K f)
def QS {md:Mode} (X:Cx) (st:Stmt) (g:FS):Prop:=PS X st (tQS (md:=md) X.K g)
def QSs {md:Mode} (X:Cx) (st:List Stmt) (g:FS):Prop:=PSs X st (tQS (md:=md) X.K g)
theorem aP {X:Cx} {e:Expr} {t t':TE} (h:PE X e t) (k:∀ σ H Q,t' σ H Q→t σ H Q):PE X e t':=fun pins s σ H Q I w=>h pins s σ H Q I (k σ H Q w)
theorem iV {X:Cx} {e:Expr} {t t':TT} (h:PT X e t) (k:∀ σ H Q,t' σ H Q→t σ H Q):PT X e t':=fun pins s σ H Q I w=>h pins s σ H Q I (k σ H Q w)
theorem qX {X:Cx} {e:Expr} {t t':TT} (h:PW X e t) (k:∀ σ H Q,t' σ H Q→t σ H Q):PW X e t':=fun wh pins s σ H Q I w=>h wh pins s σ H Q I (k σ H Q w)
theorem iW {X:Cx} {e:List Expr} {t t':TA} (h:PA X e t) (k:∀ σ H Q,t' σ H Q→t σ H Q):PA X e t':=fun pos pins s σ H Q I w=>h pos pins s σ H Q I (k σ H Q w)
theorem cH {X:Cx} {e:Stmt} {t t':TS} (h:PS X e t) (k:∀ D σ H,t' D σ H→t D σ H):PS X e t':=fun pins s σ H D I w=>h pins s σ H D I (k D σ H w)
theorem kA {X:Cx} {e:List Stmt} {t t':TS} (h:PSs X e t) (k:∀ D σ H,t' D σ H→t D σ H):PSs X e t':=fun pins s σ H D I w=>h pins s σ H D I (k D σ H w)
theorem OutOk.imp {md:Mode} {K:W.Frag} {G H G1 H1:Hp} {fp fp1:List Addr} {Dd Dd':Ends} {r:Res Out} (st:Step G H fp G1 H1 fp1) (h:OutOk (md:=md) K G H fp Dd r) (n:∀ σ H,Dd.nx σ H→Dd'.nx σ H) (b:∀ σ H,Dd.bk σ H→Dd'.bk σ H) (c:∀ σ H,Dd.ct σ H→Dd'.ct σ H) (t:∀ v H,Dd.rt v H→Dd'.rt v H):OutOk (md:=md) K G1 H1 fp1 Dd' r:=by
 match r,h with
 | .ok (.nx env'),h=>exact fun σ' H' G' fp' s q=>n _ _ (h σ' H' G' fp' (st.trans s) q)
 | .ok (.bk env'),h=>exact fun σ' H' G' fp' s q=>b _ _ (h σ' H' G' fp' (st.trans s) q)
 | .ok (.ct env'),h=>exact fun σ' H' G' fp' s q=>c _ _ (h σ' H' G' fp' (st.trans s) q)
 | .ok (.rt r),h=>exact fun v H' G' fp' s q=>t _ _ (h v H' G' fp' (st.trans s) q)
theorem OutOk.after {md:Mode} {K:W.Frag} {G H G1 H1:Hp} {fp fp1:List Addr} {Dd:Ends} {r:Res Out} (st:Step G H fp G1 H1 fp1) (h:OutOk (md:=md) K G H fp Dd r):OutOk (md:=md) K G1 H1 fp1 Dd r:=h.imp st (fun _ _ z=>z) (fun _ _ z=>z) (fun _ _ z=>z) fun _ _ z=>z
noncomputable def bC (d:D):FX:=fun env=>.ok ((.f,d),env)
noncomputable def fz:O→O
 | .pin p .f=>.pin p .f
 | _=>.f
noncomputable def bF (i:Nat):FX:=fun env=>match env[i]? with
 | some (some r)=>.ok ((.f,r.2),env.set i (some (fz r.1,r.2)))
 | _=>.bad
noncomputable def mr (i:Nat):FX:=fun env=>match env[i]? with
 | some (some r)=>.ok (r,env.set i none)
 | _=>.bad
noncomputable def au (f:FX):FO:=fun env=>(f env).bind fun p=>.ok (.val p.1.2,p.2)
noncomputable def ar (i:Nat):FO:=fun env=>match env[i]? with
 | some (some _)=>.ok (.var i,env)
 | _=>.bad
noncomputable def az:FOs:=fun env=>.ok ([],env)
noncomputable def ah (f:FO) (g:FOs):FOs:=fun env=>(f env).bind fun p=>(g p.2).bind fun q=>.ok (p.1 :: q.1,q.2)
section
variable {X:Cx}
theorem nE {e:Expr} {v:V} {d:D} (h:PE X e (tC v)) (r:∀ G,Rep X.K G d v):QE X e (bC d):=aP h fun σ H Q hq0=>by
 obtain ⟨G,env,fp,rr,env',rel,e,k⟩:=hq0
 cases e
 exact k v H G fp .refl (rel.push (r G))
theorem av {i j pos}:QE X (.Constant (.int i) j pos) (bC (.int i)):=nE qb fun G=>by rw [Rep]
theorem mv {i j pos}:QE X (.Constant (.bool i) j pos) (bC (.bl i)):=nE tq fun G=>by rw [Rep]
theorem aZ {i:Nat} {e:Expr} (h:PE X e (lS i)):QE X e (bF i):=aP h fun σ H Q hq0=>by
 obtain ⟨G,env,fp,rr,env',rel,e,k⟩:=hq0
 unfold bF at e
 split at e
 ·rename_i r hr
  cases e
  by_cases hf:fz r.1=.f
  ·obtain ⟨v,G',fq,ev,rv,rel',st⟩:=rel.freezeAt hr
   rw [hf] at k
   exact ⟨v,ev,k v H G' fq st (rel'.push rv)⟩
  ·have hp:∃ p,r.1=.pin p .f:=by
    unfold fz at hf
    split at hf
    ·rename_i p hp
     exact ⟨p,hp⟩
    ·exact absurd rfl hf
   obtain ⟨p,hp⟩:=hp
   obtain ⟨v,a,b,ev,r1,_,_⟩:=rel.rep.take hr
   rw [hp,RepO] at r1
   have es:env.set i (some (fz r.1,r.2))=env:=by
    refine dP ?_
    rw [hr,hp]
    show some (some r)=some (some (.pin p .f,r.2))
    rw [←hp]
   rw [es] at k
   exact ⟨v,ev,k v H G fp .refl (rel.push (d7.mp r1.2).1)⟩
 ·cases e
theorem oV {i:Nat} {e:Expr} (h:PE X e (lS i)):QE X e (mr i):=aP h fun σ H Q hq0=>by
 obtain ⟨G,env,fp,rr,env',rel,e,k⟩:=hq0
 unfold mr at e
 split at e
 ·rename_i r hr
  cases e
  obtain ⟨v,fq,ev,rel',st,_⟩:=rel.out hr
  exact ⟨v,ev,k v H G fq st rel'⟩
 ·cases e
theorem ae {e:Expr} {f:FX} (h:QE X e f):QO X e (au f):=aP h fun σ H Q hq0=>by
 obtain ⟨G,env,fp,o,env',rel,e,k⟩:=hq0
 obtain ⟨⟨r,env1⟩,e1,e⟩:=ab e
 cases e
 refine ⟨G,env,fp,r,env1,rel,e1,fun v H' G' fp' st rel'=>?_⟩
 obtain ⟨G2,b,rv,rel2,st2⟩:=rel'.freeze
 exact k v H' G2 b (st.trans st2) rel2 rv
theorem ag {i:Nat} {e:Expr} (h:PE X e (lS i)):QO X e (ar i):=aP h fun σ H Q hq0=>by
 obtain ⟨G,env,fp,o,env',rel,e,k⟩:=hq0
 unfold ar at e
 split at e
 ·rename_i r hr
  cases e
  obtain ⟨v,ev,_⟩:=rel.view hr
  exact ⟨v,ev,k v H G fp .refl rel ev⟩
 ·cases e
theorem ai:QOs X [] az:=iW j5 fun σ H Q hq0=>by
 obtain ⟨G,env,fp,o,env',rel,e,k⟩:=hq0
 cases e
 exact k [] H G fp .refl rel rfl
theorem af {e:Expr} {es:List Expr} {f:FO} {g:FOs} (h:QO X e f) (hs:QOs X es g) (hst:starEach (e :: es) X.env=(false,eval e X.env) :: starEach es X.env:=by rfl):QOs X (e :: es) (ah f g):=
 iW (fA h hs hst) fun σ H Q hq0=>by
  obtain ⟨G,env,fp,o,env',rel,e,k⟩:=hq0
  obtain ⟨⟨o1,env1⟩,e1,e⟩:=ab e
  obtain ⟨⟨os,env2⟩,e2,e⟩:=ab e
  cases e
  exact ⟨G,env,fp,o1,env1,rel,e1,fun v H1 G1 fp1 st1 rel1 ok1=>⟨G1,env1,fp1,os,env2,rel1,e2,fun vs H2 G2 fp2 st2 rel2 ok2=>k _ H2 G2 fp2 (st1.trans st2) rel2 ⟨v,vs,rfl,ok1.mono st2.gg,ok2⟩⟩⟩
noncomputable def bh (g:D→D→Res R) (fa fb:FO):FX:=fun env=>(fa env).bind fun p=>(fb p.2).bind fun q=>(der q.2 p.1).bind fun a=>(der q.2 q.1).bind fun b=>(g a b).bind fun r=>.ok (r,q.2)
noncomputable def cV (g:D→D→Res R) (fa fb:FO):FX:=fun env=>(fa env).bind fun p=>(fb p.2).bind fun q=>(jy q.2 p.1).bind fun a=>(jy q.2 q.1).bind fun b=>(g a b).bind fun r=>.ok (r,q.2)
structure Goes (K:W.Frag) (H:Hp) (G:Hp) (fp:List Addr) (es:PV.Env) (vs:L2.St) (r:R) (Q:VK):Prop where
 rel:Rel K G H es vs fp
 goes:∀ v H' G' fp',Step G H fp G' H' fp'→Rel K G' H' (some r :: es) (some v :: vs) fp'→Q v H'
inductive rG (K:W.Frag) (g:D→D→Res R) (x:V) (y:V) (H:Hp) (Q:VK):Prop
 | mk:∀ G fp es vs a b r,Goes K H G fp es vs r Q→Vw K G H a x→Vw K G H b y→g a b=.ok r→rG K g x y H Q
inductive rGA (K:W.Frag) (g:D→D→Res R) (x:V) (y:V) (H:Hp) (Q:VK):Prop
 | mk:∀ G fp es vs a b r,Goes K H G fp es vs r Q→Rep K H a x→Rep K H b y→g a b=.ok r→rGA K g x y H Q
variable {a b c:Expr} {fa fb fc:FO} {pos:Pos} {g g':D→D→Res R}
theorem kB {σ:L2.St} {H:Hp} {Q:VK} (h:tQ X.K (bh g fa fb) σ H Q):tOp (rG X.K g) (tO X.K fa) (tO X.K fb) σ H Q:=by
 obtain ⟨G,env,fp,r,env',rel,e,k⟩:=h
 obtain ⟨⟨oa,e1⟩,ha,e⟩:=ab e
 obtain ⟨⟨ob,e2⟩,hb,e⟩:=ab e
 obtain ⟨da,hda,e⟩:=ab e
 obtain ⟨db,hdb,e⟩:=ab e
 obtain ⟨r',hr,e⟩:=ab e
 cases e
 exact ⟨G,env,fp,oa,e1,rel,ha,fun x H1 G1 fp1 st1 rel1 ok1=>⟨G1,e1,fp1,ob,e2,rel1,hb,fun y H2 G2 fp2 st2 rel2 ok2=>
  ⟨G2,fp2,e2,σ,da,db,r,⟨rel2,fun v H' G' fp' st rel'=>k v H' G' fp' (st1.trans (st2.trans st)) rel'⟩,rel2.vw (ok1.mono st2.gg) hda,rel2.vw ok2 hdb,hr⟩⟩⟩
theorem kC {σ:L2.St} {H:Hp} {Q:VK} (h:tQ X.K (cV g fa fb) σ H Q):tOp (rGA X.K g) (tO X.K fa) (tO X.K fb) σ H Q:=by
 obtain ⟨G,env,fp,r,env',rel,e,k⟩:=h
 obtain ⟨⟨oa,e1⟩,ha,e⟩:=ab e
 obtain ⟨⟨ob,e2⟩,hb,e⟩:=ab e
 obtain ⟨da,hda,e⟩:=ab e
 obtain ⟨db,hdb,e⟩:=ab e
 obtain ⟨r',hr,e⟩:=ab e
 cases e
 exact ⟨G,env,fp,oa,e1,rel,ha,fun x H1 G1 fp1 st1 rel1 ok1=>⟨G1,e1,fp1,ob,e2,rel1,hb,fun y H2 G2 fp2 st2 rel2 ok2=>
  ⟨G2,fp2,e2,σ,da,db,r,⟨rel2,fun v H' G' fp' st rel'=>k v H' G' fp' (st1.trans (st2.trans st)) rel'⟩,rel2.vwA (ok1.mono st2.gg) hda,rel2.vwA ok2 hdb,hr⟩⟩⟩
theorem aV {op:Operator} (ho:OpR X (binaryOp op) (rG X.K g)) (ha:QO X a fa) (hb:QO X b fb):QE X (.BinOp a op b pos) (bh g fa fb):=aP (tP ho ha hb) fun _ _ _=>kB
theorem ia {op:CmpOp} (ho:OpR X (compareOp op) (rGA X.K g)) (ha:QO X a fa) (hb:QO X b fb) (hm:behindInMarks op b=false):QE X (.Compare a [op] [b] pos) (cV g fa fb):=aP (oy ho ha hb hm) fun _ _ _=>kC
noncomputable def eBl (f:FX):FT:=fun env=>(f env).bind fun p=>match p.1.2 with
 | .bl k=>.ok (k,p.2)
 | _=>.bad
theorem oW {f:FX} {σ:L2.St} {H:Hp} {Q:Bool→Hp→Prop} (h:tQT X.K (eBl f) σ H Q):tQ X.K f σ H fun x H'=>∃ k,x=.bl k∧Q k H':=by
 obtain ⟨G,env,fp,k,env',rel,e,q⟩:=h
 obtain ⟨⟨⟨o,d⟩,env1⟩,e1,e⟩:=ab e
 dsimp only at e
 split at e
 ·cases e
  refine ⟨G,env,fp,_,_,rel,e1,fun v H' G' fp' st rel'=>?_⟩
  have hv:=rel'.top
  rw [show ((o,D.bl k):R).2=D.bl k from rfl,Rep] at hv
  obtain ⟨b,rel2,st2⟩:=rel'.drop
  exact ⟨k,hv,q H' G' b (st.trans st2) rel2⟩
 ·cases e
theorem kF {e:Expr} {f:FX} (h:QE X e f) (he:∀ whole,isTrue e X.env whole=(do let v ←whole;standAt e.pos;holding [v] (truthy v)):=by intro _;rfl):QT X e (eBl f):=iV (qc h he) fun _ _ _=>oW
theorem qY {op:CmpOp} (ho:OpR X (compareOp op) (rG X.K g)) (ha:QO X a fa) (hb:QO X b fb) (hm:behindInMarks op b=false):QT X (.Compare a [op] [b] pos) (eBl (bh g fa fb)):=
 iV (j4 ho ha hb hm) fun _ _ _ h=>kB (oW h)
theorem dm {op:CmpOp} (ho:OpR X (compareOp op) (rGA X.K g)) (ha:QO X a fa) (hb:QO X b fb) (hm:behindInMarks op b=false):QT X (.Compare a [op] [b] pos) (eBl (cV g fa fb)):=
 iV (j4 ho ha hb hm) fun _ _ _ h=>kC (oW h)
noncomputable def vU (f g:FT):FT:=fun env=>(f env).bind fun p=>if p.1 then g p.2 else .ok (false,p.2)
noncomputable def bOr (f g:FT):FT:=fun env=>(f env).bind fun p=>if p.1 then .ok (true,p.2) else g p.2
noncomputable def qZ (f:FT):FT:=fun env=>(f env).bind fun p=>.ok (!p.1,p.2)
variable {ga gb:FT} {bG:List Expr}
theorem kG (h:QT X a ga):QW X (.BoolOp .Or [a] pos) ga:=qe h
theorem oX (h:QT X a ga) (h2:QW X (.BoolOp .Or (b :: bG) pos) gb):QW X (.BoolOp .Or (a :: b :: bG) pos) (bOr ga gb):=qX (tu h h2) fun σ H Q hq0=>by
 obtain ⟨G,env,fp,k,env',rel,e,q⟩:=hq0
 obtain ⟨⟨k1,env1⟩,e1,e⟩:=ab e
 refine ⟨G,env,fp,k1,env1,rel,e1,fun H1 G1 fp1 st1 rel1=>?_⟩
 dsimp only at e
 cases k1 with
 | false=>exact ⟨G1,env1,fp1,k,env',rel1,e,fun H2 G2 fp2 st2 rel2=>q H2 G2 fp2 (st1.trans st2) rel2⟩
 | true=>
  cases e
  exact q H1 G1 fp1 st1 rel1
theorem QW.qt {e:Expr} {f:FT} (h:QW X e f):QT X e f:=h.pt
theorem kH (h:QT X a ga):QT X (.UnaryOp .Not a pos) (qZ ga):=iV (qf h) fun σ H Q hq0=>by
 obtain ⟨G,env,fp,k,env',rel,e,q⟩:=hq0
 obtain ⟨⟨k1,env1⟩,e1,e⟩:=ab e
 cases e
 exact ⟨G,env,fp,k1,env1,rel,e1,fun H1 G1 fp1 st1 rel1=>q H1 G1 fp1 st1 rel1⟩
noncomputable def sY (f g:FX):FX:=fun env=>(f env).bind fun p=>match p.1.2 with
 | .bl true=>g p.2
 | .bl false=>.ok ((.f,.bl false),p.2)
 | _=>.bad
noncomputable def eOr (f g:FX):FX:=fun env=>(f env).bind fun p=>match p.1.2 with
 | .bl true=>.ok ((.f,.bl true),p.2)
 | .bl false=>g p.2
 | _=>.bad
noncomputable def ub (f:FX):FX:=fun env=>(f env).bind fun p=>match p.1.2 with
 | .bl k=>.ok ((.f,.bl (!k)),p.2)
 | _=>.bad
noncomputable def eIf (c:FT) (f g:FX):FX:=fun env=>(c env).bind fun p=>if p.1 then f p.2 else g p.2
variable {ea eb:FX}
theorem nF {op} (h:QE X a ea):QE X (.BoolOp op [a] pos) ea:=qg h
theorem bw {K:W.Frag} {G:Hp} (k:Bool):Rep K G (.bl k) (.bl k):=by rw [Rep]
theorem ba {K:W.Frag} {G:Hp} (k:Int):Rep K G (.int k) (.int k):=by rw [Rep]
theorem ib {K:W.Frag} {G:Hp}:Rep K G .non .non:=by rw [Rep]
theorem d9 {K:W.Frag} {G:Hp} {l:List Nat} (h:l.length≤sizeLine):Rep K G (.str l) (.str (S l)):=by
 rw [Rep]
 exact ⟨rfl,h⟩
theorem bu {K:W.Frag} {G:Hp} {k:Bool} {v:V} (h:Rep K G (.bl k) v):v=.bl k:=by rw [Rep] at h;exact h
theorem aI {K:W.Frag} {G:Hp} {k:Int} {v:V} (h:Rep K G (.int k) v):v=.int k:=by rw [Rep] at h;exact h
theorem aW {K:W.Frag} {G:Hp} {v:V} (h:Rep K G .non v):v=.non:=by rw [Rep] at h;exact h
theorem aD {K:W.Frag} {G:Hp} {l:List Nat} {v:V} (h:Rep K G (.str l) v):v=.str (S l)∧l.length≤sizeLine:=by rw [Rep] at h;exact h
inductive OfT (K:W.Frag) (G:Hp) (l:List D) (v:V):Prop
 | mk (p:Addr) (xs:List V) (e:v=.ref p) (q:SqT K G p xs) (r:Reps K G l xs):OfT K G l v
inductive OfL (K:W.Frag) (G:Hp) (l:List D) (v:V):Prop
 | mk (p:Addr) (xs:List V) (e:v=.ref p) (q:SqL K G p xs) (r:Reps K G l xs):OfL K G l v
theorem aE {K:W.Frag} {G:Hp} {l:List D} {v:V} (h:Rep K G (.tup l) v):OfT K G l v:=by
 rw [Rep] at h
 obtain ⟨p,xs,e,q,r⟩:=h
 exact ⟨p,xs,e,SqT.of q,r⟩
theorem oY {K:W.Frag} {G:Hp} {l:List D} {v:V} (h:Rep K G (.tup l) v):∃ p xs,v=.ref p∧G p=some (.tup xs)∧Reps K G l xs:=by rw [Rep] at h;exact h
theorem aF {K:W.Frag} {G:Hp} {l:List D} {v:V} (h:Rep K G (.lst l) v):OfL K G l v:=by
 rw [Rep] at h
 obtain ⟨p,xs,e,q,r⟩:=h
 exact ⟨p,xs,e,q,r⟩
theorem aQ {K:W.Frag} {G H:Hp} {k:Int} {v:V} (h:Vw K G H (.int k) v):v=.int k:=aI (K:=K) (G:=G) h
theorem dC {K:W.Frag} {G H:Hp} {l:List Nat} {v:V} (h:Vw K G H (.str l) v):v=.str (S l)∧l.length≤sizeLine:=aD (K:=K) (G:=G) h
theorem ck {K:W.Frag} {G H:Hp} {l:List D} {v:V} (h:Vw K G H (.tup l) v):OfT K G l v:=aE (K:=K) (G:=G) h
theorem nG (h:QE X a ea) (h2:QE X (.BoolOp .And (b :: bG) pos) eb):QE X (.BoolOp .And (a :: b :: bG) pos) (sY ea eb):=aP (qh h h2) fun σ H Q hq0=>by
 obtain ⟨G,env,fp,r,env',rel,e,q⟩:=hq0
 obtain ⟨⟨⟨o,d⟩,env1⟩,e1,e⟩:=ab e
 refine ⟨G,env,fp,_,env1,rel,e1,fun v H1 G1 fp1 st1 rel1=>?_⟩
 have hv:=rel1.top
 obtain ⟨b',rel2,st2⟩:=rel1.drop
 dsimp only at e hv
 split at e
 ·exact ⟨true,bu hv,qI ⟨G1,env1,b',r,env',rel2,e,fun v H2 G2 fp2 st3 rel3=>q v H2 G2 fp2 (st1.trans (st2.trans st3)) rel3⟩⟩
 ·cases e
  exact ⟨false,bu hv,iteF (q _ H1 G1 b' (st1.trans st2) (rel2.push (bw _)))⟩
 ·cases e
theorem q5 (h:QE X a ea):QE X (.UnaryOp .Not a pos) (ub ea):=aP (qi h) fun σ H Q hq0=>by
 obtain ⟨G,env,fp,r,env',rel,e,q⟩:=hq0
 obtain ⟨⟨⟨o,d⟩,env1⟩,e1,e⟩:=ab e
 refine ⟨G,env,fp,_,env1,rel,e1,fun v H1 G1 fp1 st1 rel1=>?_⟩
 have hv:=rel1.top
 obtain ⟨b',rel2,st2⟩:=rel1.drop
 dsimp only at e hv
 split at e
 ·cases e
  exact ⟨_,bu hv,q _ H1 G1 b' (st1.trans st2) (rel2.push (bw _))⟩
 ·cases e
noncomputable def rg (g g':D→D→Res R) (fa fb fc:FO):FX:=fun env=>(fa env).bind fun p=>(fb p.2).bind fun q=>(der q.2 p.1).bind fun a=>(der q.2 q.1).bind fun b=>(g a b).bind fun r=>match r with
 | (.f,.bl true)=>(fc q.2).bind fun t=>(der t.2 q.1).bind fun b=>(der t.2 t.1).bind fun c=>(g' b c).bind fun r=>.ok (r,t.2)
 | (.f,.bl false)=>.ok ((.f,.bl false),q.2)
 | _=>.bad
inductive rC (K:W.Frag) (g:List D→Res R) (xs:List V) (H:Hp) (Q:VK):Prop
 | mk:∀ G fp es vs ds r,Goes K H G fp es vs r Q→Vws K G H ds xs→g ds=.ok r→rC K g xs H Q
noncomputable def bI (g:List D→Res R) (fs:FOs):FX:=fun env=>(fs env).bind fun p=>(hJ p.2 p.1).bind fun ds=>(g ds).bind fun r=>.ok (r,p.2)
theorem ic {gg:List D→Res R} {fs:FOs} {σ:L2.St} {H:Hp} {Q:VK} (h:tQ X.K (bI gg fs) σ H Q):tCB (rC X.K gg) (tOs X.K fs) σ H Q:=by
 obtain ⟨G,env,fp,r,env',rel,e,k⟩:=h
 obtain ⟨⟨os,e1⟩,ha,e⟩:=ab e
 obtain ⟨ds,hd,e⟩:=ab e
 obtain ⟨r',hr,e⟩:=ab e
 cases e
 exact ⟨G,env,fp,os,e1,rel,ha,fun vs H1 G1 fp1 st1 rel1 ok1=>⟨G1,fp1,e1,σ,ds,r,⟨rel1,fun v H' G' fp' st rel'=>k v H' G' fp' (st1.trans st) rel'⟩,rel1.vws ok1 hd,hr⟩⟩
variable {x:Str} {p:Pos} {e:Expr} {es:List Expr} {gg:List D→Res R} {fs:FOs} {id T:String}
theorem bW (hc:cN X (.builtin id) (rC X.K gg)) (hg:Gl X x) (hm:X.mg x=none) (hv:bootBuiltins x=some (.builtin id)) (ha:QOs X (e :: es) fs) (hn:x≠"__name__":=by decide) (hdb:(x == ("__debug__" : Str))=false:=by decide)
  (he:starEach (e :: es) X.env=(false,eval e X.env) :: starEach es X.env:=by rfl) (hpl:(backTo pos (starEach es X.env)).any (·.1)=false:=by rfl):QE X (.Call (.Name x p) (e :: es) [] pos) (bI gg fs):=
 aP (iM hc hg hm hv ha hn hdb he hpl) fun _ _ _=>ic
theorem cm (hc:cN X (.type T) (rC X.K gg)) (hg:Gl X x) (hm:X.mg x=none) (hv:bootBuiltins x=some (.type T)) (ha:QOs X (e :: es) fs) (hn:x≠"__name__":=by decide) (hdb:(x == ("__debug__" : Str))=false:=by decide)
  (he:starEach (e :: es) X.env=(false,eval e X.env) :: starEach es X.env:=by rfl) (hpl:(backTo pos (starEach es X.env)).any (·.1)=false:=by rfl):QE X (.Call (.Name x p) (e :: es) [] pos) (bI gg fs):=
 aP (j8 hc hg hm hv ha hn hdb he hpl) fun _ _ _=>ic
inductive spF (K:W.Frag) (F:List D→Res R) (vs:List V) (H:Hp) (Q:VK) (zz:XK):Prop
 | mk:∀ G ds r,Same G H→Reps K G ds vs→F ds=.ok r→(∀ v H' G' fp',Step G H [] G' H' fp'→Rel K G' H' [some r] [some v] fp'→Q v H')→spF K F vs H Q zz
noncomputable def jP (F:List D→Res R) (fs:FOs):FX:=fun env=>(fs env).bind fun p=>(eP p.2 p.1).bind fun ds=>(F ds).bind fun r=>.ok (r,if ay r.1 r.2 then p.2 else p.2.map frz)
theorem cW {F:List D→Res R} {k:Nat} (C:Ct X.prog X.w X.K X.mg X.base x k (spF X.K F)) (hr:Room k X.A) (hg:Gl X x) (ha:QOs X (e :: es) fs) (hdb:(x == ("__debug__" : Str))=false:=by decide)
  (he:starEach (e :: es) X.env=(false,eval e X.env) :: starEach es X.env:=by rfl) (hpl:(backTo pos (starEach es X.env)).any (·.1)=false:=by rfl):QE X (.Call (.Name x p) (e :: es) [] pos) (jP F fs):=
 aP (qM C hr hg ha hdb he hpl) fun σ H Q hq0=>by
  obtain ⟨G,env,fp,r,env',rel,e,k⟩:=hq0
  obtain ⟨⟨os,e1⟩,ha,e⟩:=ab e
  obtain ⟨ds,hd,e⟩:=ab e
  obtain ⟨r',hr,e⟩:=ab e
  refine ⟨G,env,fp,os,e1,rel,ha,fun vs H1 G1 fp1 st1 rel1 ok1=>?_⟩
  show spF X.K F (vs++[]) H1 Q _
  rw [List.append_nil]
  obtain ⟨G2,g12,g2h,hrep,_,hback⟩:=rel1.lend
  refine ⟨G2,ds,r',g2h,d8 g12 hrep ok1 hd,hr,fun v H' G' fp' st rel'=>?_⟩
  obtain ⟨k1,k2⟩:=hback H' G' fp' r' v st rel'
  by_cases hc:ay r'.1 r'.2=true
  ·rw [if_pos hc] at e
   cases e
   obtain ⟨G3,fp3,st3,rel3⟩:=k1 hc
   exact k v H' G3 fp3 (st1.trans st3) rel3
  ·rw [if_neg hc] at e
   cases e
   obtain ⟨G3,fp3,st3,rel3⟩:=k2
   exact k v H' G3 fp3 (st1.trans st3) rel3
end
noncomputable def sSeq (g1 g2:FS):FS:=fun env=>(g1 env).bind fun o=>match o with
 | .nx e=>g2 e
 | o=>.ok o
noncomputable def fH:FS:=fun env=>.ok (.nx env)
noncomputable def dI (i:Nat) (f:FX):FS:=fun env=>(f env).bind fun p=>if i < p.2.length then .ok (.nx (p.2.set i (some p.1))) else .bad
noncomputable def mw (f:FX):FS:=fun env=>(f env).bind fun p=>.ok (.nx p.2)
noncomputable def iX (f:FX):FS:=fun env=>(f env).bind fun p=>.ok (.rt p.1)
noncomputable def sIf (c:FT) (g h:FS):FS:=fun env=>(c env).bind fun p=>if p.1 then g p.2 else h p.2
section
variable {md:Mode} {X:Cx} {st:Stmt} {sts:List Stmt} {g h:FS} {f:FX} {c:FT} {pos:Pos} {e:Expr}
theorem dn:QSs (md:=md) X [] fH:=kA oj fun D σ H ⟨G,env,fp,rel,k⟩=>k σ H G fp .refl rel
theorem aA (a:QS (md:=md) X st g):QSs (md:=md) X [st] g:=om a
theorem ao (a:QS (md:=md) X st g) (b:QSs (md:=md) X sts h):QSs (md:=md) X (st :: sts) (sSeq g h):=kA (lU a b) fun D σ H hq0=>by
 obtain ⟨G,env,fp,rel,k⟩:=hq0
 refine ⟨G,env,fp,rel,?_⟩
 have k:OutOk X.K G H fp D ((g env).bind fun o=>match o with | .nx e=>h e | o=>.ok o):=k
 match q:g env,k with
 | .ok (.nx env1),k=>exact fun σ1 H1 G1 fp1 st1 rel1=>⟨G1,env1,fp1,rel1,OutOk.after st1 k⟩
 | .ok (.bk env1),k=>exact k
 | .ok (.ct env1),k=>exact k
 | .ok (.rt r),k=>exact k
theorem ie {K:W.Frag} {G H:Hp} {fp:List Addr} {D:Ends} {i:Nat} {env:PV.Env} {σ:L2.St} (rel:Rel K G H env σ fp) (k:OutOk (md:=md) K G H fp D (dI i f env)):tQ K f σ H fun v H'=>D.nx (σ.set i (some v)) H':=by
 unfold dI at k
 match q:f env,k with
 | .ok (r,env1),k=>
  have k:OutOk K G H fp D (if i < env1.length then .ok (.nx (env1.set i (some r))) else .bad):=k
  by_cases hi:i < env1.length
  ·rw [if_pos hi] at k
   refine ⟨G,env,fp,r,env1,rel,q,fun v H1 G1 fp1 st1 rel1=>?_⟩
   obtain ⟨fq,rel2,st2⟩:=rel1.store hi
   exact k _ H1 G1 fq (st1.trans st2) rel2
  ·rw [if_neg hi] at k
   exact k.elim
theorem bN {i:Nat} {x:Str} {pos':Pos} (hN:X.N.Nodup) (hi:X.N[i]?=some x) (hx:Loc X.env.scope x) (he:QE X e f) (hs:swapsWith e (some (.Name x pos')) pos.line X.env=pure false:=by rfl) (hf:X.fn x=true∨X.env.scope.names.lookup x=some .local:=by first | exact .inl rfl | exact .inr rfl | assumption) :
  QS (md:=md) X (.Assign [.Name x pos'] e pos) (dI i f):=cH (ql (i:=i) hN hi hx he hs hf) fun D σ H ⟨G,env,fp,rel,k⟩=>ie rel k
theorem oZ (he:QE X e f) (hs:swapsWith e none pos.line X.env=pure false:=by rfl):QS (md:=md) X (.Expr e pos) (mw f):=cH (oq he hs) fun D σ H hq0=>by
 obtain ⟨G,env,fp,rel,k⟩:=hq0
 unfold mw at k
 match q:f env,k with
 | .ok (r,env1),k=>
  refine ⟨G,env,fp,r,env1,rel,q,fun v H1 G1 fp1 st1 rel1=>?_⟩
  obtain ⟨b,rel2,st2⟩:=rel1.drop
  exact k _ H1 G1 b (st1.trans st2) rel2
theorem Rel.only {K:W.Frag} {G H:Hp} {r:R} {v:V} {es:PV.Env} {vs:L2.St} {fp:List Addr} (q:Rel K G H (some r :: es) (some v :: vs) fp):∃ a,Rel K G H [some r] [some v] a∧Step G H fp G H a:=by
 obtain ⟨y,ys,e,v',a,b,e1,e2,r1,r2⟩:=q.rep
 cases e
 cases e1
 subst e2
 have nd:=List.nodup_append.mp q.nd
 exact ⟨a,⟨⟨some v,[],rfl,v,a,[],rfl,(List.append_nil _).symm,r1,rfl,rfl⟩,nd.1,fun p hp=>q.gn p (List.mem_append_left _ hp),q.gh⟩,Step.cut fun p hp=>List.mem_append_left _ hp⟩
theorem cp (he:QE X e f):QS (md:=.plain) X (.Return (some e) pos) (iX f):=cH (ni he) fun D σ H hq0=>by
 obtain ⟨G,env,fp,rel,k⟩:=hq0
 unfold iX at k
 match q:f env,k with
 | .ok (r,env1),k=>
  refine ⟨G,env,fp,r,env1,rel,q,fun v H1 G1 fp1 st1 rel1=>?_⟩
  obtain ⟨b,rel2,st2⟩:=rel1.only
  exact k _ H1 G1 b (st1.trans st2) rel2
theorem Rel.nilF {K:W.Frag} {G H:Hp} {es:PV.Env} {vs:L2.St} {fp:List Addr} (q:Rel K G H es vs fp):Rel K G H [] [] []:=⟨⟨rfl,rfl⟩,List.nodup_nil,(fun _ h=>nomatch h),q.gh⟩
theorem jz {a b:List Stmt} {ct:Expr} (hc:QT X ct c) (ha:QSs (md:=md) X a g) (hb:QSs (md:=md) X b h):QS (md:=md) X (.If ct a b pos) (sIf c g h):=cH (tI hc ha hb) fun D σ H hq0=>by
 obtain ⟨G,env,fp,rel,k⟩:=hq0
 unfold sIf at k
 match q:c env,k with
 | .ok (true,env1),k=>exact ⟨G,env,fp,true,env1,rel,q,fun H1 G1 fp1 st1 rel1=>qI ⟨G1,env1,fp1,rel1,OutOk.after st1 k⟩⟩
 | .ok (false,env1),k=>exact ⟨G,env,fp,false,env1,rel,q,fun H1 G1 fp1 st1 rel1=>iteF ⟨G1,env1,fp1,rel1,OutOk.after st1 k⟩⟩
noncomputable def bO (c:FT) (g:FS):Nat→FS
 | 0,_=>.bad
 | n + 1,env=>(c env).bind fun p=>if p.1 then (g p.2).bind fun o=>match o with
  | .nx e=>bO c g n e
  | .ct e=>bO c g n e
  | .bk e=>.ok (.nx e)
  | .rt r=>.ok (.rt r)
  else .ok (.nx p.2)
theorem mx {ct:Expr} {body:List Stmt} (n:Nat) (hp:PassesOwn (model X.prog X.w) X.A X.env X.xe) (hc:QT X ct c) (hb:QSs (md:=md) X body g):QS (md:=md) X (.While ct body [] pos) (bO c g n):=
 cH (lW hp hc hb) fun D σ H hq0=>by
  obtain ⟨G,env,fp,rel,k⟩:=hq0
  refine ⟨fun m σ' H'=>∃ G' env' fp',Rel X.K G' H' env' σ' fp'∧OutOk X.K G' H' fp' D (bO c g m env'),⟨n,G,env,fp,rel,k⟩,?_⟩
  rintro m σ1 H1 ⟨G1,env1,fp1,rel1,k1⟩
  cases m with
  | zero=>exact k1.elim
  | succ m=>
   unfold bO at k1
   match q:c env1,k1 with
   | .ok (false,env2),k1=>exact ⟨G1,env1,fp1,false,env2,rel1,q,fun H2 G2 fp2 st2 rel2=>iteF (k1 _ H2 G2 fp2 st2 rel2)⟩
   | .ok (true,env2),k1=>
    refine ⟨G1,env1,fp1,true,env2,rel1,q,fun H2 G2 fp2 st2 rel2=>qI ?_⟩
    refine ⟨fun σ' H'=>∃ G' env' fp',Rel X.K G' H' env' σ' fp'∧OutOk X.K G' H' fp' D (bO c g m env'),fun σ' H' z=>⟨m,Nat.lt_succ_self _,z⟩,G2,env2,fp2,rel2,?_⟩
    have k2:OutOk X.K G1 H1 fp1 D ((g env2).bind fun o=>match o with | .nx e=>bO c g m e | .ct e=>bO c g m e | .bk e=>.ok (.nx e) | .rt r=>.ok (.rt r)):=k1
    match q2:g env2,k2 with
    | .ok (.nx e),k2=>exact fun σ' H' G' fp' st rel=>⟨G',e,fp',rel,OutOk.after (st2.trans st) k2⟩
    | .ok (.ct e),k2=>exact fun σ' H' G' fp' st rel=>⟨G',e,fp',rel,OutOk.after (st2.trans st) k2⟩
    | .ok (.bk e),k2=>exact fun σ' H' G' fp' st rel=>k2 σ' H' G' fp' (st2.trans st) rel
    | .ok (.rt r),k2=>exact fun v H' G' fp' st rel=>k2 v H' G' fp' (st2.trans st) rel
def Walk (K:W.Frag) (G:Hp) (J:It) (ds:List D):Prop:=∀ G' H' es vs fp,Same G G'→Rel K G' H' es vs fp→∀ i:Nat,
 (∀ d,ds[i]?=some d→J.go i H'∧∀ x H2,J.yld i H' x H2→∃ G2,Rep K G2 d x∧Rel K G2 H2 es vs fp∧Step G' H' fp G2 H2 fp)∧(i=ds.length→J.stop i H')
abbrev FI:=PV.Env→Res (List D×PV.Env)
inductive tQI (K:W.Frag) (f:FI) (σ:L2.St) (H:Hp) (R:It→Hp→Prop):Prop
 | mk:∀ G env fp ds env',Rel K G H env σ fp→f env=.ok (ds,env')→(∀ J H' G' fp',Step G H fp G' H' fp'→Rel K G' H' env' σ fp'→Walk K G' J ds→R J H')→tQI K f σ H R
def QI (X:Cx) (tg e:Expr) (f:FI):Prop:=PI X tg e (tQI X.K f)
theorem eg {X:Cx} {tg e:Expr} {t t':TI} (h:PI X tg e t) (k:∀ σ H R,t' σ H R→t σ H R):PI X tg e t':=fun pins s σ H R I w=>h pins s σ H R I (k σ H R w)
abbrev FG:=D→PV.Env→Res PV.Env
inductive tQG (K:W.Frag) (a:FG) (v:V) (σ:L2.St) (H:Hp) (Q:L2.St→Hp→Prop):Prop
 | mk:∀ G env fp d env',Rel K G H env σ fp→Rep K G d v→a d env=.ok env'→(∀ σ' G' fp',Step G H fp G' H fp'→Rel K G' H env' σ' fp'→Q σ' H)→tQG K a v σ H Q
def QG (X:Cx) (tg:Expr) (a:FG):Prop:=PG X tg (tQG X.K a)
noncomputable def aJ (i:Nat):FG:=fun d env=>if i < env.length then .ok (env.set i (some (.f,d))) else .bad
theorem nH {X:Cx} {tg:Expr} {t t':TG} (h:PG X tg t) (k:∀ v σ H Q,t' v σ H Q→t v σ H Q):PG X tg t':=fun pins s σ H v u Q I r w=>h pins s σ H v u Q I r (k v σ H Q w)
theorem kI {X:Cx} {tg:List Expr} {t t':TGs} (h:PGs X tg t) (k:∀ v σ H Q,t' v σ H Q→t v σ H Q):PGs X tg t':=fun pins s σ H v u Q I r w=>h pins s σ H v u Q I r (k v σ H Q w)
theorem a7 {i:Nat} {x:Str} (hN:X.N.Nodup) (hi:X.N[i]?=some x) (hx:Loc X.env.scope x) (hf:X.fn x=true∨X.env.scope.names.lookup x=some .local:=by first | exact .inl rfl | exact .inr rfl | assumption):QG X (.Name x pos) (aJ i):=
 nH (ot (i:=i) hN hi hx hf) fun v σ H Q hq0=>by
  obtain ⟨G,env,fp,d,env',rel,r,e,k⟩:=hq0
  unfold aJ at e
  split at e
  ·rename_i hl
   cases e
   obtain ⟨fq,rel2,st2⟩:=(rel.push r).store hl
   exact k _ G fq st2 rel2
  ·cases e
abbrev FGs:=List D→PV.Env→Res PV.Env
inductive tQGs (K:W.Frag) (a:FGs) (vs:List V) (σ:L2.St) (H:Hp) (Q:L2.St→Hp→Prop):Prop
 | mk:∀ G env fp ds env',Rel K G H env σ fp→Reps K G ds vs→a ds env=.ok env'→(∀ σ' G' fp',Step G H fp G' H fp'→Rel K G' H env' σ' fp'→Q σ' H)→tQGs K a vs σ H Q
def QGs (X:Cx) (tg:List Expr) (a:FGs):Prop:=PGs X tg (tQGs X.K a)
noncomputable def eh:FGs:=fun ds env=>match ds with
 | []=>.ok env
 | _=>.bad
noncomputable def a8 (a:FG) (b:FGs):FGs:=fun ds env=>match ds with
 | d :: ds=>(a d env).bind fun e=>b ds e
 | _=>.bad
theorem ig:QGs X [] eh:=kI ou fun vs σ H Q hq0=>by
 obtain ⟨G,env,fp,ds,env',rel,r,e,k⟩:=hq0
 cases ds with
 | nil=>
  cases e
  rw [Reps] at r
  exact ⟨r,k σ G fp .refl rel⟩
 | cons d ds=>cases e
theorem cE {tg:Expr} {tgs:List Expr} {a:FG} {b:FGs} (h1:QG X tg a) (h2:QGs X tgs b) (hs:(assignEach (tg :: tgs) X.env).map (·.2)=assign tg X.env :: (assignEach tgs X.env).map (·.2):=by rfl):QGs X (tg :: tgs) (a8 a b):=
 kI (lV h1 h2 hs) fun vs σ H Q hq0=>by
  obtain ⟨G,env,fp,ds,env',rel,r,e,k⟩:=hq0
  cases ds with
  | nil=>cases e
  | cons d ds=>
   rw [Reps] at r
   obtain ⟨y,ys,ev,r1,r2⟩:=r
   obtain ⟨env1,e1,e2⟩:=ab e
   exact ⟨y,ys,ev,G,env,fp,d,env1,rel,r1,e1,fun σ1 G1 fp1 st1 rel1=>⟨G1,env1,fp1,ds,env',rel1,r2.mono st1.gg,e2,fun σ2 G2 fp2 st2 rel2=>k σ2 G2 fp2 (st1.trans st2) rel2⟩⟩
noncomputable def jQ (n:Nat) (a:FGs):FG:=fun d env=>match d with
 | .tup ds=>if ds.length=n then a ds env else .bad
 | _=>.bad
theorem kJ {tgs:List Expr} {k n:Nat} {a:FGs} (hc:X.calm=true) (h:QGs X tgs a) (hn:(assignEach tgs X.env).length=n:=by rfl) (hst:(assignEach tgs X.env).findIdx? (·.1)=none:=by rfl):QG X (.Tuple tgs k pos) (jQ n a):=
 nH (qk hc h hn hst) fun v σ H Q hq0=>by
  obtain ⟨G,env,fp,d,env',rel,r,e,k⟩:=hq0
  unfold jQ at e
  split at e
  ·rename_i ds
   split at e
   ·rename_i hl
    obtain ⟨p,xs,ev,sq,rs⟩:=aE r
    exact ⟨p,xs,ev,aB rel.gh sq,rs.length.trans hl,G,env,fp,ds,env',rel,rs,e,k⟩
   ·cases e
  ·cases e
noncomputable def gs (a:FG) (g:FS):List D→FS
 | [],env=>.ok (.nx env)
 | d :: ds,env=>(a d env).bind fun e=>(g e).bind fun o=>match o with
  | .nx e=>gs a g ds e
  | .ct e=>gs a g ds e
  | .bk e=>.ok (.nx e)
  | .rt r=>.ok (.rt r)
noncomputable def o3 (f:FI) (a:FG) (g:FS):FS:=fun env=>(f env).bind fun p=>gs a g p.1 p.2
theorem iY {tg iter:Expr} {body:List Stmt} {fi:FI} {a:FG} (hp:PassesOwn (model X.prog X.w) X.A X.env X.xe) (hc:X.calm=true) (hi:QI X tg iter fi) (hg:QG X tg a) (hb:QSs (md:=md) X body g) (hs:∀ x,foldedSetIterable iter X.env x=pure x:=by intro _;rfl):QS (md:=md) X (.For tg iter body [] pos) (o3 fi a g):=
 cH (qp hp hc hi hg hb hs) fun D σ H hq0=>by
  obtain ⟨G,env,fp,rel,k⟩:=hq0
  unfold o3 at k
  match q:fi env,k with
  | .ok (ds,env1),k=>
   refine ⟨G,env,fp,ds,env1,rel,q,fun J H1 G1 fp1 st1 rel1 wk=>?_⟩
   have k:OutOk X.K G H fp D (gs a g ds env1):=k
   refine ⟨fun i m σ' H'=>m=ds.length - i∧i≤ds.length∧∃ G' env' fp',Same G1 G'∧Rel X.K G' H' env' σ' fp'∧OutOk X.K G' H' fp' D (gs a g (ds.drop i) env'),⟨_,rfl,Nat.zero_le _,G1,env1,fp1,.refl _,rel1,OutOk.after st1 k⟩,?_⟩
   rintro i m σ2 H2 ⟨rfl,hi,G2,env2,fp2,gg,rel2,k2⟩
   obtain ⟨w1,w2⟩:=wk G2 H2 _ _ _ gg rel2 i
   by_cases hlt:i < ds.length
   ·have hd:ds[i]?=some ds[i]:=List.getElem?_eq_getElem hlt
    obtain ⟨go,yl⟩:=w1 _ hd
    rw [List.drop_eq_getElem_cons hlt] at k2
    refine .inr ⟨go,fun σ' H'=>∃ G' env' fp',Same G1 G'∧Rel X.K G' H' env' σ' fp'∧OutOk X.K G' H' fp' D (gs a g (ds.drop (i + 1)) env'),fun σ' H' z=>⟨ds.length - (i + 1),by lia,rfl,hlt,z⟩,fun x H3 y=>?_⟩
    obtain ⟨G3,rx,rel3,st3⟩:=yl x H3 y
    unfold gs at k2
    match q3:a ds[i] env2,k2 with
    | .ok env3,k2=>
     refine ⟨G3,env2,fp2,ds[i],env3,rel3,rx,q3,fun σ4 G4 fp4 st4 rel4=>⟨G4,env3,fp4,rel4,?_⟩⟩
     have k3:OutOk X.K G2 H2 fp2 D ((g env3).bind fun o=>match o with | .nx e=>gs a g (ds.drop (i + 1)) e | .ct e=>gs a g (ds.drop (i + 1)) e | .bk e=>.ok (.nx e) | .rt r=>.ok (.rt r)):=k2
     match q4:g env3,k3 with
     | .ok (.nx e),k3=>exact fun σ' H' G' fp' st rel=>⟨G',e,fp',gg.trans (st3.gg.trans (st4.gg.trans st.gg)),rel,OutOk.after (st3.trans (st4.trans st)) k3⟩
     | .ok (.ct e),k3=>exact fun σ' H' G' fp' st rel=>⟨G',e,fp',gg.trans (st3.gg.trans (st4.gg.trans st.gg)),rel,OutOk.after (st3.trans (st4.trans st)) k3⟩
     | .ok (.bk e),k3=>exact fun σ' H' G' fp' st rel=>k3 σ' H' G' fp' (st3.trans (st4.trans st)) rel
     | .ok (.rt r),k3=>exact fun v H' G' fp' st rel=>k3 v H' G' fp' (st3.trans (st4.trans st)) rel
   ·have e:i=ds.length:=by lia
    subst e
    rw [List.drop_length] at k2
    exact .inl ⟨w2 rfl,k2 σ2 H2 G2 fp2 .refl rel2⟩
noncomputable def sZ (f:FX):FI:=fun env=>(f env).bind fun p=>match p.1.2 with
 | .lst ds=>.ok (ds,p.2)
 | _=>.bad
noncomputable def jA (f:FX):FI:=fun env=>(f env).bind fun p=>match p.1.2 with
 | .tup ds=>.ok (ds,p.2)
 | _=>.bad
variable {tg l:Expr}
theorem gL {K:W.Frag} {G:Hp} {a:Addr} {xs:List V} {ds:List D} (sq:SqL K G a xs) (rs:Reps K G ds xs):Walk K G (Itl K a) ds:=by
 intro G' H' es vs fp gg rel i
 have sq':SqL K H' a xs:=cD rel.gh (cD gg sq)
 refine ⟨fun d hd=>?_,fun e=>⟨xs,sq',by rw [rs.length];lia⟩⟩
 obtain ⟨x,hx,rx⟩:=rs.get hd
 refine ⟨⟨xs,x,sq',hx⟩,fun y H2 ⟨e,hy⟩=>?_⟩
 subst e
 have:=hy xs sq'
 rw [hx] at this
 cases this
 exact ⟨G',Rep.mono gg rx,rel,.refl⟩
theorem my {K:W.Frag} {G:Hp} {a:Addr} {xs:List V} {ds:List D} (sq:SqT K G a xs) (rs:Reps K G ds xs):Walk K G (Itt K a) ds:=by
 intro G' H' es vs fp gg rel i
 have sq':SqT K H' a xs:=aB rel.gh (aB gg sq)
 refine ⟨fun d hd=>?_,fun e=>⟨xs,sq',by rw [rs.length];lia⟩⟩
 obtain ⟨x,hx,rx⟩:=rs.get hd
 refine ⟨⟨xs,x,sq',hx⟩,fun y H2 ⟨e,hy⟩=>?_⟩
 subst e
 have:=hy xs sq'
 rw [hx] at this
 cases this
 exact ⟨G',Rep.mono gg rx,rel,.refl⟩
theorem o4 (h:QE X l f):QI X tg l (sZ f):=eg (jW h) fun σ H R hq0=>by
 obtain ⟨G,env,fp,ds,env',rel,e,k⟩:=hq0
 obtain ⟨⟨⟨o,d⟩,env1⟩,e1,e⟩:=ab e
 dsimp only at e
 split at e
 ·cases e
  refine ⟨G,env,fp,_,_,rel,e1,fun v H1 G1 fp1 st1 rel1=>?_⟩
  obtain ⟨G2,b,rv,rel2,st2⟩:=rel1.freeze
  obtain ⟨p,xs,ev,sq,rs⟩:=aF rv
  exact ⟨p,ev,⟨xs,cD rel2.gh sq⟩,k _ H1 G2 b (st1.trans st2) rel2 (gL sq rs)⟩
 ·cases e
theorem nJ (h:QE X l f):QI X tg l (jA f):=eg (qo h) fun σ H R hq0=>by
 obtain ⟨G,env,fp,ds,env',rel,e,k⟩:=hq0
 obtain ⟨⟨⟨o,d⟩,env1⟩,e1,e⟩:=ab e
 dsimp only at e
 split at e
 ·cases e
  refine ⟨G,env,fp,_,_,rel,e1,fun v H1 G1 fp1 st1 rel1=>?_⟩
  obtain ⟨G2,b,rv,rel2,st2⟩:=rel1.freeze
  obtain ⟨p,xs,ev,sq,rs⟩:=aE rv
  exact ⟨p,ev,⟨xs,aB rel2.gh sq⟩,k _ H1 G2 b (st1.trans st2) rel2 (my sq rs)⟩
 ·cases e
noncomputable def jB (f:FX):FI:=fun env=>(f env).bind fun p=>match p.1.2 with
 | .str l=>.ok (l.map fun c=>.str [c],p.2)
 | _=>.bad
theorem nK (h:QE X l f):QI X tg l (jB f):=eg (qO h) fun σ H R hq0=>by
 obtain ⟨G,env,fp,ds,env',rel,e,k⟩:=hq0
 obtain ⟨⟨⟨o,d⟩,env1⟩,e1,e⟩:=ab e
 dsimp only at e
 split at e
 ·rename_i cs
  cases e
  refine ⟨G,env,fp,_,_,rel,e1,fun v H1 G1 fp1 st1 rel1=>?_⟩
  obtain ⟨G2,b,rv,rel2,st2⟩:=rel1.freeze
  obtain ⟨ev,hl⟩:=aD rv
  refine ⟨cs,ev,k _ H1 G2 b (st1.trans st2) rel2 fun G' H' es vs fp' gg rel' i=>⟨fun d hd=>?_,fun e=>?_⟩⟩
  ·rw [List.getElem?_map] at hd
   cases hc:cs[i]? with
   | none=>rw [hc] at hd;cases hd
   | some c=>
    rw [hc] at hd
    cases hd
    refine ⟨(List.getElem?_eq_some_iff.mp hc).1,fun x H2 ⟨e1,e2⟩=>?_⟩
    subst e1
    refine ⟨G',?_,rel',.refl⟩
    rw [e2]
    show Rep X.K G' (.str [c]) (.str (S [cs.getD i 0]))
    rw [List.getD_eq_getElem?_getD,hc]
    exact d9 (by rw [line_eq];simp)
  ·rw [List.length_map] at e
   exact e
 ·cases e
noncomputable def bp (f:FO):FI:=fun env=>(f env).bind fun p=>(der p.2 p.1).bind fun d=>match d with
 | .int j=>if -4611686018427387904≤j∧j < 4611686018427387904 then .ok ((List.range j.toNat).map fun (k:Nat)=>D.int (k:Int),p.2) else .bad
 | _=>.bad
theorem jC {K:W.Frag} {G:Hp} (lo:Int) (n:Nat):Walk K G (Itr lo n) ((List.range n).map fun (k:Nat)=>D.int (lo + (k:Int))):=by
 intro G' H' es vs fp gg rel i
 refine ⟨fun d hd=>?_,fun e=>?_⟩
 ·rw [List.getElem?_map] at hd
  cases hc:(List.range n)[i]? with
  | none=>rw [hc] at hd;cases hd
  | some c=>
   rw [hc] at hd
   cases hd
   obtain ⟨h1,h2⟩:=List.getElem?_eq_some_iff.mp hc
   rw [List.length_range] at h1
   rw [List.getElem_range] at h2
   subst h2
   refine ⟨h1,fun x H2 ⟨e1,e2⟩=>?_⟩
   subst e1
   exact ⟨G',by rw [e2];exact ba _,rel,.refl⟩
 ·rw [List.length_map,List.length_range] at e
  exact Nat.le_of_eq e.symm
theorem bD {a:Expr} {fa:FO} {p pos:Pos} (hg:Gl X "range") (hm:X.mg "range" = none) (ha:QO X a fa) (hs:starEach [a] X.env=[(false,eval a X.env)]:=by rfl):QI X tg (.Call (.Name "range" p) [a] [] pos) (bp fa):=
 eg (jX hg hm (af ha ai hs) hs) fun σ H R hq0=>by
  obtain ⟨G,env,fp,ds,env',rel,e,k⟩:=hq0
  obtain ⟨⟨o,env1⟩,e1,e⟩:=ab e
  obtain ⟨d,e2,e⟩:=ab e
  dsimp only at e
  split at e
  ·rename_i j
   split at e
   ·rename_i hj
    cases e
    refine ⟨G,env,fp,[o],_,rel,by show (fa env).bind _=_;rw [e1];rfl,fun vs H1 G1 fp1 st1 rel1 ok1=>?_⟩
    obtain ⟨y,ys,ev,k1,k2⟩:=ok1
    have k2:ys=[]:=k2
    subst k2
    have hv:=aQ (rel1.vw k1 e2)
    subst hv
    refine ⟨j,ev,by lia,by lia,k _ H1 G1 fp1 st1 rel1 ?_⟩
    have w:=jC (K:=X.K) (G:=G1) 0 j.toNat
    simpa using w
   ·cases e
  ·cases e
noncomputable def o5 (fs:FOs):FI:=fun env=>(fs env).bind fun p=>(hJ p.2 p.1).bind fun d=>match d with
 | [.int i,.int j]=>if (-4611686018427387904≤i∧i < 4611686018427387904)∧-4611686018427387904≤j∧j < 4611686018427387904 then .ok ((List.range (j - i).toNat).map fun (k:Nat)=>D.int (i + (k:Int)),p.2) else .bad
 | _=>.bad
noncomputable def dq (k:Bool):D→Res (List D)
 | .lst ds=>if k then .ok ds else .bad
 | .tup ds=>if k then .bad else .ok ds
 | _=>.bad
noncomputable def jD (k1 k2:Bool) (fs:FOs):FI:=fun env=>(fs env).bind fun p=>match p.1 with
 | [.val d1,.val d2]=>(dq k1 d1).bind fun a=>(dq k2 d2).bind fun b=>.ok ((a.zip b).map fun z=>D.tup [z.1,z.2],p.2)
 | _=>.bad
theorem iZ {K:W.Frag} {G:Hp} {k:Bool} {d:D} {ds:List D} {v:V} (e:dq k d=.ok ds) (r:Rep K G d v):∃ p xs,v=.ref p∧(if k then SqL K G p xs else SqT K G p xs)∧Reps K G ds xs:=by
 cases d with
 | lst es=>
  cases k with
  | true=>
   cases e
   obtain ⟨p,xs,e1,q,rs⟩:=aF r
   exact ⟨p,xs,e1,q,rs⟩
  | false=>cases e
 | tup es=>
  cases k with
  | true=>cases e
  | false=>
   cases e
   obtain ⟨p,xs,e1,q,rs⟩:=aE r
   exact ⟨p,xs,e1,q,rs⟩
 | _=>cases e
theorem fI {K:W.Frag} {G G':Hp} {k:Bool} {p:Addr} {xs:List V} (h:Same G G') (r:if k then SqL K G p xs else SqT K G p xs):if k then SqL K G' p xs else SqT K G' p xs:=by
 cases k with
 | true=>exact cD h r
 | false=>exact aB h r
theorem mz {K:W.Frag} {G:Hp} {k1 k2:Bool} {p1 p2:Addr} {xs ys:List V} {as bs:List D} (s1:if k1 then SqL K G p1 xs else SqT K G p1 xs) (s2:if k2 then SqL K G p2 ys else SqT K G p2 ys) (r1:Reps K G as xs) (r2:Reps K G bs ys) :
  Walk K G (Itz K k1 k2 p1 p2) ((as.zip bs).map fun z=>D.tup [z.1,z.2]):=by
 intro G' H' es vs fp gg rel i
 have g1:=fI (gg.trans rel.gh) s1
 have g2:=fI (gg.trans rel.gh) s2
 refine ⟨fun d hd=>?_,fun e=>⟨xs,ys,g1,g2,?_⟩⟩
 ·rw [List.getElem?_map] at hd
  cases hz:(as.zip bs)[i]? with
  | none=>rw [hz] at hd;cases hd
  | some z=>
   rw [hz] at hd
   cases hd
   obtain ⟨h1,h2⟩:=List.getElem?_zip_eq_some.mp hz
   obtain ⟨x,hx,rx⟩:=r1.get h1
   obtain ⟨y,hy,ry⟩:=r2.get h2
   refine ⟨⟨xs,ys,x,y,g1,g2,hx,hy⟩,fun v H2 ⟨T,hT,ev,hh⟩=>?_⟩
   have e2:=hh xs ys x y g1 g2 hx hy
   subst e2
   obtain ⟨rel2,st2⟩:=rel.newF (u:=.tup [x,y]) hT
   refine ⟨_,?_,rel2,st2⟩
   rw [Rep]
   exact ⟨T,[x,y],ev,aX,.cons (Rep.mono (gg.trans st2.gg) rx) (.one (Rep.mono (gg.trans st2.gg) ry))⟩
 ·rw [List.length_map,List.length_zip] at e
  rw [r1.length,r2.length]
  exact e
theorem i0 (k1 k2:Bool) {tgs:List Expr} {kt:Nat} {pt:Pos} {e1 e2:Expr} {fs:FOs} {p pos:Pos} (hg:Gl X "zip") (hm:X.mg "zip" = none) (ha:QOs X [e1,e2] fs) (he:starEach [e1,e2] X.env=(false,eval e1 X.env) :: starEach [e2] X.env:=by rfl) (hpl:(backTo pos (starEach [e2] X.env)).any (·.1)=false:=by rfl) :
  QI X (.Tuple tgs kt pt) (.Call (.Name "zip" p) [e1,e2] [] pos) (jD k1 k2 fs):=
 eg (qS k1 k2 hg hm ha he hpl) fun σ H R hq0=>by
  obtain ⟨G,env,fp,ds,env',rel,e,k⟩:=hq0
  obtain ⟨⟨o,env1⟩,e1,e⟩:=ab e
  dsimp only at e
  split at e
  ·rename_i d1 d2
   obtain ⟨a,ea,e⟩:=ab e
   obtain ⟨b,eb,e⟩:=ab e
   cases e
   refine ⟨G,env,fp,_,_,rel,e1,fun vs H1 G1 fp1 st1 rel1 ok1=>?_⟩
   obtain ⟨y,ys,ev,v1,z,zs,ev2,v2,e3⟩:=ok1
   have e3:zs=[]:=e3
   subst e3
   obtain ⟨p1,xs1,ep1,q1,r1⟩:=iZ ea v1
   obtain ⟨p2,xs2,ep2,q2,r2⟩:=iZ eb v2
   subst ep1
   subst ep2
   subst ev2
   exact ⟨p1,p2,xs1,xs2,ev,fI rel1.gh q1,fI rel1.gh q2,k _ H1 G1 fp1 st1 rel1 (mz q1 q2 r1 r2)⟩
  ·cases e
end
noncomputable def fBody (np nn:Nat) (g:FS):List D→Res R:=fun ds=>if ds.length=np then (g (ds.map (fun d=>some (O.f,d))++List.replicate nn none)).bind fun o=>match o with
 | .rt r=>.ok r
 | .nx _=>.ok (.f,.non)
 | _=>.bad
 else .bad
theorem cX {K:W.Frag} {G H:Hp} (n:Nat):∀ {ds:List D} {vs:List V},Reps K G ds vs→RepE K G H (ds.map (fun d=>some (O.f,d))++List.replicate n none) (vs.map some++List.replicate n none) []
 | [],vs,r=>by
  rw [Reps] at r
  subst r
  show RepE K G H (List.replicate n none) (List.replicate n none) []
  induction n with
  | zero=>exact ⟨rfl,rfl⟩
  | succ n ih=>exact ⟨none,_,rfl,ih⟩
 | d :: ds,vs,r=>by
  rw [Reps] at r
  obtain ⟨y,ys,e,r1,r2⟩:=r
  subst e
  exact ⟨some y,_,rfl,y,[],[],rfl,rfl,d7.mpr ⟨r1,rfl⟩,cX n r2⟩
theorem ij {P:Program} {w:World} {K:W.Frag} {mg:Str→Option Value} {base:Heap} {x:Str} {st:Stmt} {N ps:List Str} {k:Nat} {g:FS} (Df:Def K mg x st) (sc:FnScope N ps (defScope st))
  (hb:∀ (kV doc pm:Value) (an:Option Addr) (cdv ct:Value) (us:List Value),us.length=ps.length→bindArgs (PySem.W.fnOf x x (bU st) (bj st) (defScope st) .none kV doc pm an cdv ct) ⟨us,[]⟩=pure (ps.zip us))
  (body:∀ (f:Addr) (cdv:Value) (A:Around) (outer:List PySem.Env) (s:Shared) (H:Hp) (E:XK),Room k (A.deeper (envOfC x (defScope st) s.heap.objs.size f cdv))→QSs (md:=.plain) (lZ CX0 P w K mg base N x (defScope st) f cdv A outer s H E).nox (bj st) g) :
  Ct P w K mg base x (k + 1) (spF K (fBody ps.length (N.length - ps.length) g)):=by
 obtain ⟨f,fd,F,m⟩:=Df
 refine ⟨f,fd,ps,F.ok sc (fun vs H Q E h=>?_) (fun cdv A outer s H vs Q E hr h=>?_),m,F.kp,F.binds hb⟩
 ·obtain ⟨G,ds,r,_,rs,e,_⟩:=h
  unfold fBody at e
  split at e
  ·rename_i hl
   rw [rs.length,hl]
  ·cases e
 ·obtain ⟨G,ds,r,gh,rs,e,q⟩:=h
  unfold fBody at e
  split at e
  ·rename_i hl
   refine ⟨_,body f cdv A outer s H E hr,G,ds.map (fun d=>some (O.f,d))++List.replicate (N.length - ps.length) none,[],⟨?_,List.nodup_nil,(fun _ h=>nomatch h),gh⟩,?_⟩
   ·have:=cX (K:=K) (G:=G) (H:=H) (N.length - ps.length) rs
    unfold L2.dW
    rw [rs.length,hl]
    exact this
   ·obtain ⟨o,eo,e⟩:=ab e
    rw [eo]
    cases o with
    | rt r'=>
     cases e
     exact fun v H' G' fp' st rel=>q v H' G' fp' st rel
    | nx env'=>
     cases e
     exact fun σ' H' G' fp' st rel=>q .non H' G' [] (st.trans (Step.cut fun _ h=>nomatch h)) (rel.nilF.push ib)
    | bk env'=>cases e
    | ct env'=>cases e
  ·cases e
noncomputable def aT (ix:List (Option Nat)) (env:PV.Env):PV.Env:=ix.map fun j=>j.bind fun j=>match env[j]? with
 | some (some r)=>some (O.f,r.2)
 | _=>none
noncomputable def dt:FT:=fun env=>.ok (true,env)
noncomputable def cq (a:FG) (c:FT) (f:FX):List D→PV.Env→Res (List D)
 | [],_=>.ok []
 | d :: ds,env=>(a d env).bind fun e=>(c e).bind fun p=>if p.1 then (f p.2).bind fun q=>(cq a c f ds q.2).bind fun rs=>.ok (q.1.2 :: rs) else cq a c f ds p.2
noncomputable def ej (fi:FI) (ix:List (Option Nat)) (a:FG) (c:FT) (f:FX):FX:=fun env=>(fi env).bind fun p=>(cq a c f p.1 (aT ix p.2)).bind fun ds=>if ds.length≤sizeLine then .ok ((.l .f,.lst ds),if flatDs ds then p.2 else p.2.map frz) else .bad
theorem cY:∀ ds,ds.all (ay .f)=flatDs ds
 | []=>rfl
 | d :: ds=>by rw [List.all_cons,flatDs,cY ds,ay]
theorem bP {K:W.Frag} {G1 H:Hp} {es:PV.Env} {σ:L2.St} (ht:∀ (i:Nat) (r:R) (v:V),es[i]?=some (some r)→σ[i]?=some (some v)→Rep K G1 r.2 v) (hv:∀ (i:Nat) (r:R),es[i]?=some (some r)→∃ v,σ[i]?=some (some v)) :
  ∀ ix:List (Option Nat),RepE K G1 H (aT ix es) (cj ix σ) []
 | []=>⟨rfl,rfl⟩
 | none :: ix=>⟨none,_,rfl,bP ht hv ix⟩
 | some j :: ix=>by
  show RepE K G1 H ((match es[j]? with | some (some r)=>some (O.f,r.2) | _=>none) :: aT ix es) ((σ[j]?).bind id :: cj ix σ) []
  cases e:es[j]? with
  | none=>exact ⟨_,_,rfl,bP ht hv ix⟩
  | some r=>
   cases r with
   | none=>exact ⟨_,_,rfl,bP ht hv ix⟩
   | some r=>
    obtain ⟨v,ev⟩:=hv j r e
    refine ⟨_,_,rfl,v,[],[],?_,rfl,d7.mpr ⟨ht j r v e ev,rfl⟩,bP ht hv ix⟩
    rw [ev]
    rfl
section
variable {md:Mode} {X:Cx} {scope:Scope} {N:List Str} {tg iter elt:Expr} {ifs:List Expr} {pos:Pos} {fi:FI} {a:FG} {c:FT} {f:FX}
def QTs (X:Cx) (ifs:List Expr) (c:FT):Prop:=PTs X ifs (tQT X.K c)
theorem cu:QTs X [] dt:=fun pins s σ H Q I hq0=>by
 obtain ⟨G,env,fp,b,env',rel,e,k⟩:=hq0
 cases e
 exact oO pins s σ H Q I (k H G fp .refl rel)
end
section
variable {X:Cx}
inductive rCatS (K:W.Frag) (x:V) (y:V) (H:Hp) (Q:VK):Prop
 | mk:∀ l b xs zs,x=.ref l→y=.ref b→SqL K H l xs→SqL K H b zs→xs.length + zs.length≤sizeLine→(∀ p,H p=none→Q (.ref p) (upd H p (.lst (xs++zs))))→rCatS K x y H Q
theorem o6:OpR X (binaryOp .Add) (rCatS X.K):=by
 intro pins s σ H x y v u Q I rx ry h
 obtain ⟨l,b,xs,zs,rfl,rfl,hH,hB,hz,q⟩:=h
 cases rx
 cases ry
 obtain ⟨its,r1,p1,_⟩:=I.list hH
 obtain ⟨its2,r2,p2,_⟩:=I.list hB
 have l1:=r1.length
 have l2:=r2.length
 obtain ⟨⟨cls,dd,data,sl⟩,ho,hc,n,hd⟩:=id p1.isList
 obtain ⟨⟨cls2,dd2,data2,sl2⟩,ho2,hc2,n2,hd2⟩:=id p2.isList
 simp only at hc hd hc2 hd2
 subst hc hd hc2 hd2
 have e:its.toArray++its2.toArray=(its++its2).toArray:=by simp
 refine concat_meets ⟨_,ho,rfl⟩ ⟨_,ho2,rfl⟩ noFill_list_add seq_list_add PySem.F.slot_list_add PySem.F.entry_list_add (PySem.F.args_list_add_2 _ _) (list_addW l b its.toArray its2.toArray n n2 dd dd2 sl sl2 (by rw [List.size_toArray,List.size_toArray];lia)) ⟨ho,ho2,?_⟩
 rw [e]
 exact ⟨.ref _,_,I.lnew (t':=s.toks) (r1.append r2) (by rw [List.length_append];lia),rfl,q _ I.fresh⟩
end
noncomputable def addD:D→D→Res R
 | .int i,.int j=>.ok (.f,.int (i + j))
 | .str a,.str b=>if a.length + b.length≤sizeLine then .ok (.f,.str (a++b)) else .bad
 | .lst a,.lst b=>if a.length + b.length≤sizeLine then .ok (.l .f,.lst (a++b)) else .bad
 | .tup a,.tup b=>if a≠[]∧a.length + b.length≤sizeLine then .ok (.f,.tup (a++b)) else .bad
 | _,_=>.bad
section
variable {X:Cx}
theorem fJ {K:W.Frag} {G H:Hp} {fp:List Addr} {es:PV.Env} {vs:L2.St} {ds:List D} {xs:List V} {p:Addr} (rel:Rel K G H es vs fp) (hp:H p=none) (r:Reps K G ds xs) :
  ∃ G',Rel K G' (upd H p (.tup xs)) (some (.f,.tup ds) :: es) (some (.ref p) :: vs) fp∧Step G H fp G' (upd H p (.tup xs)) fp:=by
 obtain ⟨rel2,st2⟩:=rel.newF (u:=.tup xs) hp
 refine ⟨_,rel2.push ?_,st2⟩
 rw [Rep]
 exact ⟨p,xs,rfl,aX,r.mono st2.gg⟩
theorem rh:OpR X (binaryOp .Add) (rG X.K addD):=by
 rintro pins s σ H x y v u Q I rx ry ⟨G,fp,es,vs,a,b,r,⟨rel,k⟩,va,vb,e⟩
 unfold addD at e
 split at e
 ·rename_i i j
  cases e
  cases aQ va
  cases aQ vb
  exact qq pins s σ H _ _ v u Q I rx ry ⟨i,j,rfl,rfl,k _ H G fp .refl (rel.push (ba _))⟩
 ·rename_i i j
  split at e
  ·rename_i hl
   cases e
   obtain ⟨e1,h1⟩:=dC va
   obtain ⟨e2,h2⟩:=dC vb
   subst e1
   subst e2
   refine jn pins s σ H _ _ v u Q I rx ry ⟨_,_,rfl,rfl,by rw [gF,gF];exact hl,?_⟩
   rw [t6]
   exact k _ H G fp .refl (rel.push (d9 (by rw [List.length_append];exact hl)))
  ·cases e
 ·rename_i i j
  split at e
  ·rename_i hl
   cases e
   obtain ⟨p,xs,e1,h1,r1⟩:=va
   obtain ⟨p2,xs2,e2,h2,r2⟩:=vb
   subst e1
   subst e2
   refine o6 pins s σ H _ _ v u Q I rx ry ⟨p,p2,xs,xs2,rfl,rfl,h1,h2,by rw [r1.length,r2.length];exact hl,fun q hq=>?_⟩
   obtain ⟨rel2,st2⟩:=rel.newL hq (r1.app r2)
   exact k _ _ G _ st2 rel2
  ·cases e
 ·rename_i i j
  split at e
  ·rename_i hl
   cases e
   obtain ⟨p,xs,e1,h1,r1⟩:=ck va
   obtain ⟨p2,xs2,e2,h2,r2⟩:=ck vb
   subst e1
   subst e2
   have hx:xs≠[]:=fun z=>hl.1 (List.eq_nil_of_length_eq_zero (by rw [←r1.length,z];rfl))
   refine oF pins s σ H _ _ v u Q I rx ry ⟨p,p2,xs,xs2,rfl,rfl,aB rel.gh h1,aB rel.gh h2,hx,by rw [r1.length,r2.length];exact hl.2,fun z=>?_,fun z q hq=>?_⟩
   ·have:j=[]:=List.eq_nil_of_length_eq_zero (by rw [←r2.length,z];rfl)
    subst this
    rw [List.append_nil] at k
    exact k _ H G fp .refl (rel.push va)
   ·obtain ⟨G',rel2,st2⟩:=fJ rel hq (r1.app r2)
    exact k _ _ G' _ st2 rel2
  ·cases e
 ·cases e
noncomputable def o7:D→D→Res R
 | .int i,.int j=>.ok (.f,.int (i - j))
 | _,_=>.bad
theorem i4:OpR X (binaryOp .Sub) (rG X.K o7):=by
 rintro pins s σ H x y v u Q I rx ry ⟨G,fp,es,vs,a,b,r,⟨rel,k⟩,va,vb,e⟩
 unfold o7 at e
 split at e
 ·rename_i i j
  cases e
  cases aQ va
  cases aQ vb
  exact qr pins s σ H _ _ v u Q I rx ry ⟨i,j,rfl,rfl,k _ H G fp .refl (rel.push (ba _))⟩
 ·cases e
noncomputable def cZ (i:Int):Bool:=decide (-(2 ^ 64) < i∧i < 2 ^ 64)
noncomputable def uc:D→D→Res R
 | .int i,.int j=>if cZ i || cZ j then .ok (.f,.int (i * j)) else .bad
 | _,_=>.bad
theorem rj:OpR X (binaryOp .Mult) (rG X.K uc):=by
 rintro pins s σ H x y v u Q I rx ry ⟨G,fp,es,vs,a,b,r,⟨rel,k⟩,va,vb,e⟩
 unfold uc at e
 split at e
 ·rename_i i j
  split at e
  ·rename_i hc
   cases e
   cases aQ va
   cases aQ vb
   have hc:CMul i j:=by
    rw [Bool.or_eq_true] at hc
    exact hc.imp of_decide_eq_true of_decide_eq_true
   exact qu pins s σ H _ _ v u Q I rx ry ⟨i,j,rfl,rfl,hc,k _ H G fp .refl (rel.push (ba _))⟩
  ·cases e
 ·cases e
noncomputable def ik:D→D→Res R
 | .int i,.int j=>if 0 < j∧j < 1073741824 then .ok (.f,.int (i / j)) else .bad
 | _,_=>.bad
theorem kK:OpR X (binaryOp .FloorDiv) (rG X.K ik):=by
 rintro pins s σ H x y v u Q I rx ry ⟨G,fp,es,vs,a,b,r,⟨rel,k⟩,va,vb,e⟩
 unfold ik at e
 split at e
 ·rename_i i j
  split at e
  ·rename_i hc
   cases e
   cases aQ va
   cases aQ vb
   exact ox pins s σ H _ _ v u Q I rx ry ⟨i,j,rfl,rfl,hc,k _ H G fp .refl (rel.push (ba _))⟩
  ·cases e
 ·cases e
noncomputable def hU:D→D→Res R
 | .int i,.int j=>if 0 < j then .ok (.f,.int (i % j)) else .bad
 | _,_=>.bad
theorem eu:OpR X (binaryOp .Mod) (rG X.K hU):=by
 rintro pins s σ H x y v u Q I rx ry ⟨G,fp,es,vs,a,b,r,⟨rel,k⟩,va,vb,e⟩
 unfold hU at e
 split at e
 ·rename_i i j
  split at e
  ·rename_i hc
   cases e
   cases aQ va
   cases aQ vb
   exact qv pins s σ H _ _ v u Q I rx ry ⟨i,j,rfl,rfl,hc,k _ H G fp .refl (rel.push (ba _))⟩
  ·cases e
 ·cases e
noncomputable def kM:D→D→Res R
 | .int i,.int j=>if 0≤j∧j≤1000000∧i.natAbs < 2 ^ 64 then .ok (.f,.int (i ^ j.toNat)) else .bad
 | _,_=>.bad
theorem i5:OpR X (binaryOp .Pow) (rG X.K kM):=by
 rintro pins s σ H x y v u Q I rx ry ⟨G,fp,es,vs,a,b,r,⟨rel,k⟩,va,vb,e⟩
 unfold kM at e
 split at e
 ·rename_i i j
  split at e
  ·rename_i hc
   cases e
   cases aQ va
   cases aQ vb
   exact qw pins s σ H _ _ v u Q I rx ry ⟨i,j,rfl,rfl,hc,k _ H G fp .refl (rel.push (ba _))⟩
  ·cases e
 ·cases e
noncomputable def ltD:D→D→Res R
 | .int i,.int j=>.ok (.f,.bl (decide (i < j)))
 | .str a,.str b=>.ok (.f,.bl (decide (a < b)))
 | _,_=>.bad
theorem ud:OpR X (compareOp .Lt) (rG X.K ltD):=by
 rintro pins s σ H x y v u Q I rx ry ⟨G,fp,es,vs,a,b,r,⟨rel,k⟩,va,vb,e⟩
 unfold ltD at e
 split at e
 ·rename_i i j
  cases e
  cases aQ va
  cases aQ vb
  exact tR pins s σ H _ _ v u Q I rx ry ⟨i,j,rfl,rfl,k _ H G fp .refl (rel.push (bw _))⟩
 ·rename_i i j
  cases e
  obtain ⟨e1,h1⟩:=dC va
  obtain ⟨e2,h2⟩:=dC vb
  subst e1
  subst e2
  refine j0 pins s σ H _ _ v u Q I rx ry ⟨_,_,rfl,rfl,?_⟩
  rw [cU,cU]
  exact k _ H G fp .refl (rel.push (bw _))
 ·cases e
noncomputable def leD:D→D→Res R
 | .int i,.int j=>.ok (.f,.bl (decide (i≤j)))
 | .str a,.str b=>.ok (.f,.bl (!decide (b < a)))
 | _,_=>.bad
noncomputable def gtD:D→D→Res R
 | .int i,.int j=>.ok (.f,.bl (decide (j < i)))
 | _,_=>.bad
noncomputable def geD:D→D→Res R
 | .int i,.int j=>.ok (.f,.bl (decide (j≤i)))
 | _,_=>.bad
end
abbrev FDs:=PV.Env→Res (List D×PV.Env)
inductive tDs (K:W.Frag) (f:FDs) (σ:L2.St) (H:Hp) (Q:List V→Hp→Prop):Prop
 | mk:∀ G env fp ds env',Rel K G H env σ fp→f env=.ok (ds,env')→(∀ vs H' G' fp',Step G H fp G' H' fp'→Rel K G' H' env' σ fp'→Reps K G' ds vs→Q vs H')→tDs K f σ H Q
def QDs (X:Cx) (es:List Expr) (f:FDs):Prop:=PA X es (tDs X.K f)
noncomputable def fK:FDs:=fun env=>.ok ([],env)
noncomputable def dD (f:FX) (g:FDs):FDs:=fun env=>(f env).bind fun p=>(g p.2).bind fun q=>.ok (p.1.2 :: q.1,q.2)
section
variable {X:Cx}
theorem cv:QDs X [] fK:=iW j5 fun σ H Q hq0=>by
 obtain ⟨G,env,fp,o,env',rel,e,k⟩:=hq0
 cases e
 exact k [] H G fp .refl rel .nil
theorem bX {e:Expr} {es:List Expr} {f:FX} {g:FDs} (h:QE X e f) (hs:QDs X es g) (hst:starEach (e :: es) X.env=(false,eval e X.env) :: starEach es X.env:=by rfl):QDs X (e :: es) (dD f g):=
 iW (fA h hs hst) fun σ H Q hq0=>by
  obtain ⟨G,env,fp,o,env',rel,e,k⟩:=hq0
  obtain ⟨⟨r,env1⟩,e1,e⟩:=ab e
  obtain ⟨⟨ds,env2⟩,e2,e⟩:=ab e
  cases e
  refine ⟨G,env,fp,r,env1,rel,e1,fun v H1 G1 fp1 st1 rel1=>?_⟩
  obtain ⟨G2,b,rv,rel2,st2⟩:=rel1.freeze
  exact ⟨G2,env1,b,ds,env2,rel2,e2,fun vs H3 G3 fp3 st3 rel3 rs=>k _ H3 G3 fp3 (st1.trans (st2.trans st3)) rel3 (.cons (Rep.mono st3.gg rv) rs)⟩
noncomputable def ue (fs:FDs):FX:=fun env=>(fs env).bind fun p=>if p.1.length≤1000 then .ok ((.f,.tup p.1),p.2) else .bad
noncomputable def nL (fs:FDs):FX:=fun env=>(fs env).bind fun p=>if p.1.length≤1000 then .ok ((.l .f,.lst p.1),p.2) else .bad
variable {es:List Expr} {fs:FDs} {pos:Pos}
theorem rk {x1} (h:QDs X es fs):QE X (.Tuple es x1 pos) (ue fs):=aP (qy h) fun σ H Q hq0=>by
 obtain ⟨G,env,fp,r,env',rel,e,k⟩:=hq0
 obtain ⟨⟨ds,env1⟩,e1,e⟩:=ab e
 dsimp only at e
 split at e
 ·rename_i hl
  cases e
  refine ⟨G,env,fp,ds,env',rel,e1,fun vs H1 G1 fp1 st1 rel1 rs=>⟨by rw [rs.length,line_eq];lia,fun p hp=>?_⟩⟩
  obtain ⟨G2,rel2,st2⟩:=fJ rel1 hp rs
  exact k _ _ G2 _ (st1.trans st2) rel2
 ·cases e
theorem eZ (h:QDs X es fs):QE X (.List es pos) (nL fs):=aP (qz h) fun σ H Q hq0=>by
 obtain ⟨G,env,fp,r,env',rel,e,k⟩:=hq0
 obtain ⟨⟨ds,env1⟩,e1,e⟩:=ab e
 dsimp only at e
 split at e
 ·rename_i hl
  cases e
  refine ⟨G,env,fp,ds,env',rel,e1,fun vs H1 G1 fp1 st1 rel1 rs=>⟨by rw [rs.length,line_eq];lia,fun p hp=>?_⟩⟩
  obtain ⟨rel2,st2⟩:=rel1.newL hp rs
  exact k _ _ G1 _ (st1.trans st2) rel2
 ·cases e
noncomputable def ixD:D→D→Res R
 | .lst ds,.int i=>match atI ds i with
  | some d=>.ok (.f,d)
  | none=>.bad
 | .tup ds,.int i=>match atI ds i with
  | some d=>.ok (.f,d)
  | none=>.bad
 | .str l,.int i=>match atI l i with
  | some c=>.ok (.f,.str [c])
  | none=>.bad
 | _,_=>.bad
theorem i6 {K:W.Frag} {G:Hp} {ds:List D} {xs:List V} {i:Int} {d:D} (r:Reps K G ds xs) (e:atI ds i=some d):∃ v,atI xs i=some v∧Rep K G d v:=by
 unfold atI at e ⊢
 rw [r.length]
 cases hn:ixN ds.length i with
 | none=>rw [hn] at e;cases e
 | some j=>
  rw [hn] at e
  exact r.get e
theorem uf:IxR X (rG X.K ixD):=by
 rintro value slice pins s σ H x y v u Q I rx ry ⟨G,fp,es,vs,a,b,r,⟨rel,k⟩,va,vb,e⟩ hs
 unfold ixD at e
 split at e
 ·rename_i ds i
  split at e
  ·rename_i d hd
   cases e
   obtain ⟨p,xs,ev,sq,rs⟩:=va
   subst ev
   cases aQ vb
   obtain ⟨w',hw,rw'⟩:=i6 rs hd
   exact oG value slice pins s σ H _ _ v u Q I rx ry ⟨p,xs,i,w',rfl,rfl,sq,hw,k _ H G fp .refl (rel.push rw')⟩ hs
  ·cases e
 ·rename_i ds i
  split at e
  ·rename_i d hd
   cases e
   obtain ⟨p,xs,ev,sq,rs⟩:=ck va
   subst ev
   cases aQ vb
   obtain ⟨w',hw,rw'⟩:=i6 rs hd
   exact qC value slice pins s σ H _ _ v u Q I rx ry ⟨p,xs,i,w',rfl,rfl,aB rel.gh sq,hw,k _ H G fp .refl (rel.push rw')⟩ hs
  ·cases e
 ·rename_i l i
  split at e
  ·rename_i c hc
   cases e
   obtain ⟨ev,hl⟩:=dC va
   subst ev
   cases aQ vb
   refine qD value slice pins s σ H _ _ v u Q I rx ry ⟨_,i,c,rfl,rfl,by rw [gF];exact hl,by rw [cU];exact hc,?_⟩ hs
   exact k _ H G fp .refl (rel.push (d9 (l:=[c]) (by rw [line_eq];simp)))
  ·cases e
 ·cases e
variable {a b:Expr} {fa fb:FO}
theorem eA (ha:QO X a fa) (hb:QO X b fb) (hs:kd b:=by exact fun _ _=>rfl):QE X (.Subscript a b pos) (bh ixD fa fb):=aP (tY uf ha hb hs) fun _ _ _=>kB
abbrev FP:=PV.Env→Res (Option Int×PV.Env)
inductive tQP (K:W.Frag) (f:FP) (σ:L2.St) (H:Hp) (Q:Option Int→Hp→Prop):Prop
 | mk:∀ G env fp i env',Rel K G H env σ fp→f env=.ok (i,env')→(∀ H' G' fp',Step G H fp G' H' fp'→Rel K G' H' env' σ fp'→Q i H')→tQP K f σ H Q
def QP (X:Cx) (e:Option Expr) (f:FP):Prop:=PO X e (tQP X.K f)
noncomputable def kN:FP:=fun env=>.ok (none,env)
noncomputable def kO (f:FX):FP:=fun env=>(f env).bind fun p=>match p.1.2 with
 | .int i=>.ok (some i,p.2)
 | _=>.bad
theorem nM {X:Cx} {e:Option Expr} {t t':TO} (h:PO X e t) (k:∀ σ H Q,t' σ H Q→t σ H Q):PO X e t':=fun pins s σ H Q I w=>h pins s σ H Q I (k σ H Q w)
theorem il:QP X none kN:=nM oD fun σ H Q hq0=>by
 obtain ⟨G,env,fp,i,env',rel,e,k⟩:=hq0
 cases e
 exact k H G fp .refl rel
theorem iq {e:Expr} {f:FX} (h:QE X e f):QP X (some e) (kO f):=nM (oE h) fun σ H Q hq0=>by
 obtain ⟨G,env,fp,i,env',rel,e,k⟩:=hq0
 obtain ⟨⟨⟨o,d⟩,env1⟩,e1,e⟩:=ab e
 dsimp only at e
 split at e
 ·rename_i j
  cases e
  refine ⟨G,env,fp,_,_,rel,e1,fun v H1 G1 fp1 st1 rel1=>?_⟩
  have hv:=rel1.top
  obtain ⟨b,rel2,st2⟩:=rel1.drop
  exact ⟨j,aI hv,k H1 G1 b (st1.trans st2) rel2⟩
 ·cases e
noncomputable def e7 {α:Type} (xs:List α) (lo hi:Option Int):List α:=(xs.drop (HT.sIx xs.length 0 lo)).take (HT.sIx xs.length xs.length hi - HT.sIx xs.length 0 lo)
noncomputable def slD (k:D) (lo hi:Option Int):Res R:=match k with
 | .lst ds=>.ok (.l .f,.lst (e7 ds lo hi))
 | .tup ds=>if ¬ (HT.sIx ds.length 0 lo=0∧HT.sIx ds.length ds.length hi=ds.length) then .ok (.f,.tup (e7 ds lo hi)) else .bad
 | .str l=>.ok (.f,.str (e7 l lo hi))
 | _=>.bad
noncomputable def eSl (fa:FO) (lo hi:FP):FX:=fun env=>(fa env).bind fun p=>(lo p.2).bind fun q=>(hi q.2).bind fun t=>(der t.2 p.1).bind fun d=>(slD d q.1 t.1).bind fun r=>.ok (r,t.2)
theorem i7 {K:W.Frag} {G:Hp} {ds:List D} {xs:List V} {lo hi:Option Int} (r:Reps K G ds xs):Reps K G (e7 ds lo hi) (nj xs lo hi):=by
 unfold e7 nj
 rw [r.length]
 exact (r.drop _).take _
theorem o8 {α:Type} (xs:List α) (lo hi:Option Int):(e7 xs lo hi).length≤xs.length:=by
 unfold e7
 rw [List.length_take,List.length_drop]
 lia
inductive rSl (K:W.Frag) (x:V) (lo:Option Int) (hi:Option Int) (H:Hp) (Q:VK):Prop
 | mk:∀ G fp es vs d r,Goes K H G fp es vs r Q→Vw K G H d x→slD d lo hi=.ok r→rSl K x lo hi H Q
theorem rm:SlR X (rSl X.K):=by
 rintro pins s σ H x v vl vu lo hi sl Q I rx hs pl pu ⟨G,fp,es,vs,d,r,⟨rel,k⟩,vd,e⟩
 unfold slD at e
 split at e
 ·rename_i ds
  cases e
  obtain ⟨p,xs,ev,sq,rs⟩:=vd
  subst ev
  refine oH pins s σ H _ v vl vu lo hi sl Q I rx hs pl pu ⟨p,xs,rfl,sq,fun q hq=>?_⟩
  obtain ⟨rel2,st2⟩:=rel.newL hq (i7 (lo:=lo) (hi:=hi) rs)
  exact k _ _ G _ st2 rel2
 ·rename_i ds
  split at e
  ·rename_i hw
   cases e
   obtain ⟨p,xs,ev,sq,rs⟩:=ck vd
   subst ev
   refine qB pins s σ H _ v vl vu lo hi sl Q I rx hs pl pu ⟨p,xs,rfl,aB rel.gh sq,by rw [rs.length];exact hw,fun q hq=>?_⟩
   obtain ⟨G2,rel2,st2⟩:=fJ rel hq (i7 (lo:=lo) (hi:=hi) rs)
   exact k _ _ G2 _ st2 rel2
  ·cases e
 ·rename_i l
  cases e
  obtain ⟨ev,hl⟩:=dC vd
  subst ev
  exact qL pins s σ H _ v vl vu lo hi sl Q I rx hs pl pu ⟨l,rfl,hl,k _ H G fp .refl (rel.push (d9 (l:=qK l lo hi) (Nat.le_trans (o8 l lo hi) hl)))⟩
 ·cases e
noncomputable def kP (env:PV.Env) (i:Nat):Bool:=match env[i]? with
 | some (some (_,.lst _))=>true
 | _=>false
theorem mC {K:W.Frag} {G H:Hp} {es:PV.Env} {σ:L2.St} {fp:List Addr} {i:Nat} (rel:Rel K G H es σ fp) (h:kP es i=true):∃ v,σ[i]?=some (some v)∧tyV K "list" v H:=by
 unfold kP at h
 split at h
 ·rename_i o ds hr
  obtain ⟨v,ev,rv⟩:=rel.view hr
  obtain ⟨p,xs,e,sq,_⟩:=aF rv
  subst e
  exact ⟨_,ev,.inl ⟨rfl,xs,sq⟩⟩
 ·cases h
noncomputable def tf (i:Nat) (f:FX):FX:=fun env=>if kP env i then (f env).bind fun p=>match p.2[i]? with
 | some (some (.l .f,.lst ds))=>if ds.length < sizeLine then .ok ((.f,.non),p.2.set i (some (.l .f,.lst (ds++[p.1.2])))) else .bad
 | _=>.bad
 else .bad
theorem kQ {i:Nat} {o e:Expr} {f:FX} {apos cpos:Pos} (ho:PE X o (lS i)) (he:QE X e f)
  (hbase:attributeBase o "append" X.env (eval o X.env)=eval o X.env:=by rfl)
  (hfew:((backTo cpos (starEach [e] X.env)).all (fun x=>!x.1) && (backToKw cpos (keywordEach [] X.env)).all (fun x=>x.1.isSome) && decide ([e].length + ([]:List Keyword).length + (if ([]:List Keyword).isEmpty then 0 else 1) < 30))=true:=by rfl)
  (hline:(apos.endLine == cpos.line)=true:=by rfl) (hs:starEach [e] X.env=(false,eval e X.env) :: starEach [] X.env:=by rfl) (hplain:(backTo cpos (starEach [] X.env)).any (·.1)=false:=by rfl) :
  QE X (.Call (.Attribute o "append" apos) [e] [] cpos) (tf i f):=by
 refine aP (tZ PySem.F.plainAttrs_list PySem.F.slot_list_append PySem.F.type_list_append dZ ho (bX he cv hs) hbase hfew hline hs hplain) fun σ H Q hqq=>?_
 obtain ⟨G,env,fp,r,env',rel,e,k⟩:=hqq
 unfold tf at e
 split at e
 ·rename_i hil
  obtain ⟨v,ev,ty⟩:=mC rel hil
  obtain ⟨⟨r1,env1⟩,e1,e⟩:=ab e
  dsimp only at e
  split at e
  ·rename_i ds hds
   split at e
   ·rename_i hl
    cases e
    refine ⟨v,ev,ty,G,env,fp,[r1.2],env1,rel,by show (f env).bind _=_;rw [e1];rfl,fun vs H1 G1 fp1 st1 rel1 rs=>?_⟩
    rw [Reps] at rs
    obtain ⟨y,ys,eys,ry,rn⟩:=rs
    rw [Reps] at rn
    subst rn
    obtain ⟨p,xs,ep,hp,rxs,cg⟩:=rel1.chg (ds':=ds++[r1.2]) hds
    rw [ev] at ep
    cases ep
    obtain ⟨fq,rel2,st2⟩:=cg (xs++[y]) (rxs.app (.one ry))
    exact ⟨p,xs,y,rfl,eys,hp,by rw [rxs.length];exact hl,k _ _ G1 fq (st1.trans st2) (rel2.push ib)⟩
   ·cases e
  ·cases e
 ·cases e
noncomputable def ug:List D→Res R
 | [.lst ds]=>.ok (.f,.int ds.length)
 | [.tup ds]=>.ok (.f,.int ds.length)
 | [.str l]=>.ok (.f,.int l.length)
 | _=>.bad
theorem lN {K:W.Frag} {G H:Hp} {d:D} {xs:List V} (h:Vws K G H [d] xs):∃ v,xs=[v]∧Vw K G H d v:=by
 obtain ⟨y,ys,e,v1,e2⟩:=h
 have e2:ys=[]:=e2
 subst e2
 exact ⟨y,e,v1⟩
theorem rp:cN X (.builtin "len") (rC X.K ug):=by
 rintro pins s σ H xs us Q I rx ⟨G,fp,es,vs,ds,r,⟨rel,k⟩,vd,e⟩
 unfold ug at e
 split at e
 ·rename_i ds
  cases e
  obtain ⟨v,ev,p,ys,ep,sq,rs⟩:=lN vd
  subst ev
  subst ep
  refine dy pins s σ H _ us Q I rx ⟨p,ys,rfl,.inl sq,?_⟩
  rw [rs.length]
  exact k _ H G fp .refl (rel.push (ba _))
 ·rename_i ds
  cases e
  obtain ⟨v,ev,vt⟩:=lN vd
  obtain ⟨p,ys,ep,sq,rs⟩:=ck vt
  subst ev
  subst ep
  refine dy pins s σ H _ us Q I rx ⟨p,ys,rfl,.inr (aB rel.gh sq),?_⟩
  rw [rs.length]
  exact k _ H G fp .refl (rel.push (ba _))
 ·rename_i l
  cases e
  obtain ⟨v,ev,vt⟩:=lN vd
  obtain ⟨ep,hl⟩:=dC vt
  subst ev
  subst ep
  refine gD pins s σ H _ us Q I rx ⟨S l,rfl,by rw [gF];exact hl,?_⟩
  rw [gF]
  exact k _ H G fp .refl (rel.push (ba _))
 ·cases e
noncomputable def jE:List D→Res R
 | [.lst ds]=>.ok (.l .f,.lst ds)
 | [.tup ds]=>.ok (.l .f,.lst ds)
 | _=>.bad
theorem kR:cN X (.type "list") (rC X.K jE):=by
 rintro pins s σ H xs us Q I rx ⟨G,fp,es,vs,ds,r,⟨rel,k⟩,vd,e⟩
 unfold jE at e
 split at e
 ·rename_i ds
  cases e
  obtain ⟨v,ev,p,ys,ep,sq,rs⟩:=lN vd
  subst ev
  subst ep
  refine dA pins s σ H _ us Q I rx ⟨p,ys,rfl,.inl sq,fun q hq=>?_⟩
  obtain ⟨rel2,st2⟩:=rel.newL hq rs
  exact k _ _ G _ st2 rel2
 ·rename_i ds
  cases e
  obtain ⟨v,ev,vt⟩:=lN vd
  obtain ⟨p,ys,ep,sq,rs⟩:=ck vt
  subst ev
  subst ep
  refine dA pins s σ H _ us Q I rx ⟨p,ys,rfl,.inr (aB rel.gh sq),fun q hq=>?_⟩
  obtain ⟨rel2,st2⟩:=rel.newL hq rs
  exact k _ _ G _ st2 rel2
 ·cases e
noncomputable def eB:List D→Res R
 | [.lst ds]=>.ok (.f,.tup ds)
 | [.tup ds]=>.ok (.f,.tup ds)
 | _=>.bad
theorem fL:cN X (.type "tuple") (rC X.K eB):=by
 rintro pins s σ H xs us Q I rx ⟨G,fp,es,vs,ds,r,⟨rel,k⟩,vd,e⟩
 unfold eB at e
 split at e
 ·rename_i ds
  cases e
  obtain ⟨v,ev,p,ys,ep,sq,rs⟩:=lN vd
  subst ev
  subst ep
  refine cT pins s σ H _ us Q I rx ⟨p,ys,rfl,.inl ⟨sq,fun q hq=>?_⟩⟩
  obtain ⟨G2,rel2,st2⟩:=fJ rel hq rs
  exact k _ _ G2 _ st2 rel2
 ·rename_i ds
  cases e
  obtain ⟨v,ev,vt⟩:=lN vd
  obtain ⟨p,ys,ep,sq,rs⟩:=ck vt
  subst ev
  subst ep
  exact cT pins s σ H _ us Q I rx ⟨p,ys,rfl,.inr ⟨aB rel.gh sq,k _ H G fp .refl (rel.push vt)⟩⟩
 ·cases e
noncomputable def kS:List D→Option (List Bool)
 | []=>some []
 | .bl b :: ds=>(kS ds).map (b :: ·)
 | _=>none
noncomputable def bH:List D→Option (List Int)
 | []=>some []
 | .int b :: ds=>(bH ds).map (b :: ·)
 | _=>none
theorem eC {K:W.Frag} {G:Hp}:∀ {ds:List D} {bs:List Int} {xs:List V},bH ds=some bs→Reps K G ds xs→xs=bs.map V.int
 | [],_,_,e,r=>by
  cases e
  rw [Reps] at r
  exact r
 | .int b :: ds,_,_,e,r=>by
  rw [bH,Option.map_eq_some_iff] at e
  obtain ⟨bs,e1,e2⟩:=e
  subst e2
  rw [Reps] at r
  obtain ⟨y,ys,e3,r1,r2⟩:=r
  rw [e3,aI r1,eC e1 r2]
  rfl
 | .non :: _,_,_,e,_ | .bl _ :: _,_,_,e,_ | .str _ :: _,_,_,e,_ | .tup _ :: _,_,_,e,_ | .lst _ :: _,_,_,e,_ | .dct _ _ _ :: _,_,_,e,_=>by simp [bH] at e
theorem jF (ns:List Int):bH (ns.map D.int)=some ns:=by
 induction ns with
 | nil=>rfl
 | cons n ns ih=>rw [List.map_cons,bH,ih];rfl
theorem kU (ns:List Bool):kS (ns.map D.bl)=some ns:=by
 induction ns with
 | nil=>rfl
 | cons n ns ih=>rw [List.map_cons,kS,ih];rfl
noncomputable def gu:D→Option (List D)
 | .lst ds=>some ds
 | .tup ds=>some ds
 | _=>none
theorem o9 {K:W.Frag} {G H:Hp} {d:D} {ds:List D} {v:V} (gh:Same G H) (e:gu d=some ds) (h:Vw K G H d v):∃ p xs,v=.ref p∧(SqL K H p xs∨SqT K H p xs)∧Reps K G ds xs:=by
 cases d with
 | lst es=>
  cases e
  obtain ⟨p,xs,ev,sq,rs⟩:=h
  exact ⟨p,xs,ev,.inl sq,rs⟩
 | tup es=>
  cases e
  obtain ⟨p,xs,ev,sq,rs⟩:=aE h
  exact ⟨p,xs,ev,.inr (aB gh sq),rs⟩
 | _=>cases e
noncomputable def u4:List D→Res R
 | [d]=>match (gu d).bind kS with
  | some bs=>.ok (.f,.bl (bs.all id))
  | none=>.bad
 | _=>.bad
noncomputable def nN:List D→Res R
 | [d]=>match (gu d).bind bH with
  | some ns=>.ok (.f,.int ns.sum)
  | none=>.bad
 | _=>.bad
noncomputable def maxD:List D→Res R
 | [d]=>match (gu d).bind bH with
  | some (n :: ns)=>.ok (.f,.int (qP (n :: ns)))
  | _=>.bad
 | [.int i,.int j]=>.ok (.f,.int (if i < j then j else i))
 | _=>.bad
theorem kW {K:W.Frag} {G H:Hp} {d:D} {ns:List Int} {v:V} (gh:Same G H) (hb:(gu d).bind bH=some ns) (vt:Vw K G H d v):∃ p,v=.ref p∧(SqL K H p (ns.map V.int)∨SqT K H p (ns.map V.int)):=by
 obtain ⟨l,hl,hb⟩:=Option.bind_eq_some_iff.mp hb
 obtain ⟨p,ys,ep,sq,rs⟩:=o9 gh hl vt
 have:=eC hb rs
 subst this
 exact ⟨p,ep,sq⟩
theorem kX (hc:X.calm=true):cN X (.builtin "sum") (rC X.K nN):=by
 rintro pins s σ H xs us Q I rx ⟨G,fp,es,vs,ds,r,⟨rel,k⟩,vd,e⟩
 unfold nN at e
 split at e
 ·rename_i d
  split at e
  ·rename_i ns hb
   cases e
   obtain ⟨v,ev,vt⟩:=lN vd
   obtain ⟨p,ep,sq⟩:=kW rel.gh hb vt
   subst ev
   subst ep
   exact ko hc pins s σ H _ us Q I rx ⟨p,ns,rfl,sq,k _ H G fp .refl (rel.push (ba _))⟩
  ·cases e
 ·cases e
end
mutual
noncomputable def eqD:D→D→Bool
 | .non,.non=>true
 | .bl a,.bl b=>a == b
 | .bl a,.int j=>(if a then 1 else 0) == j
 | .int i,.bl b=>i == (if b then 1 else 0)
 | .int i,.int j=>i == j
 | .str a,.str b=>a == b
 | .tup a,.tup b=>dQ a b
 | .lst a,.lst b=>dQ a b
 | _,_=>false
noncomputable def dQ:List D→List D→Bool
 | [],[]=>true
 | a :: as,b :: bs=>eqD a b && dQ as bs
 | _,_=>false
end
mutual
noncomputable def plainD:Nat→D→Bool
 | n + 1,.tup ds=>plainDs n ds
 | n + 1,.lst ds=>plainDs n ds
 | 0,.tup _=>false
 | 0,.lst _=>false
 | _,.dct _ _ _=>false
 | _,_=>true
noncomputable def plainDs:Nat→List D→Bool
 | _,[]=>true
 | n,d :: ds=>plainD n d && plainDs n ds
end
theorem plainDs_mem:∀ {n:Nat} {ds:List D},plainDs n ds=true→∀ {i:Nat} {d:D},ds[i]?=some d→plainD n d=true
 | _,[],_,_,_,e=>by simp at e
 | n,a :: ds,h,0,d,e=>by
  rw [plainDs,Bool.and_eq_true] at h
  simp at e
  rw [←e]
  exact h.1
 | n,a :: ds,h,i + 1,d,e=>by
  rw [plainDs,Bool.and_eq_true] at h
  exact plainDs_mem h.2 (i:=i) (by simpa using e)
theorem c5:∀ {a b:List D},a.length≠b.length→dQ a b=false
 | [],[],h=>absurd rfl h
 | [],_ :: _,_=>by simp only [dQ]
 | _ :: _,[],_=>by simp only [dQ]
 | x :: xs,y :: ys,h=>by
  rw [dQ,c5 (fun e=>h (by simp [e])),Bool.and_false]
theorem bQ:∀ {a b:List D},a.length=b.length→(List.range a.length).all (fun j=>eqD (a.getD j .non) (b.getD j .non))=dQ a b
 | [],[],_=>rfl
 | [],_ :: _,h=>by simp at h
 | _ :: _,[],h=>by simp at h
 | x :: xs,y :: ys,h=>by
  rw [dQ,←bQ (a:=xs) (b:=ys) (by simpa using h),List.length_cons,List.range_succ_eq_map,List.all_cons,List.all_map]
  rfl
section
variable {X:Cx} {pins:List (Addr×Obj)} {σ:L2.St} {H:Hp} {s:Shared}
theorem eD (I:Inv X pins σ H s) {p:Addr} {xs ys:List V} (h:SqL X.K H p xs) (h':SqT X.K H p ys):False:=by
 obtain ⟨us,_,p1,_⟩:=I.list h
 obtain ⟨ws,_,p2,_⟩:=I.tuple h'
 exact SeqAt.ne_of_list_tuple p1.isList (show s.heap.IsTuple p ws.toArray from p2) rfl
mutual
theorem fM (I:Inv X pins σ H s):∀ (d e:D) (x:V) (n:Nat),plainD n d=true→Rep X.K H d x→Rep X.K H e x→d=e
 | .non,e,x,n,_,r,q=>by
  cases aW r
  cases e with
  | non=>rfl
  | bl b=>cases bu q
  | int i=>cases aI q
  | str l=>cases (aD q).1
  | tup l=>obtain ⟨p,xs,ev,_⟩:=aE q;cases ev
  | lst l=>obtain ⟨p,xs,ev,_⟩:=aF q;cases ev
  | dct tk ks vs=>rw [Rep] at q;obtain ⟨p,xs,o,ev,_⟩:=q;cases ev
 | .bl b,e,x,n,_,r,q=>by
  cases bu r
  cases e with
  | non=>cases aW q
  | bl b=>cases bu q;rfl
  | int i=>cases aI q
  | str l=>cases (aD q).1
  | tup l=>obtain ⟨p,xs,ev,_⟩:=aE q;cases ev
  | lst l=>obtain ⟨p,xs,ev,_⟩:=aF q;cases ev
  | dct tk ks vs=>rw [Rep] at q;obtain ⟨p,xs,o,ev,_⟩:=q;cases ev
 | .int i,e,x,n,_,r,q=>by
  cases aI r
  cases e with
  | non=>cases aW q
  | bl b=>cases bu q
  | int i=>cases aI q;rfl
  | str l=>cases (aD q).1
  | tup l=>obtain ⟨p,xs,ev,_⟩:=aE q;cases ev
  | lst l=>obtain ⟨p,xs,ev,_⟩:=aF q;cases ev
  | dct tk ks vs=>rw [Rep] at q;obtain ⟨p,xs,o,ev,_⟩:=q;cases ev
 | .str l,e,x,n,_,r,q=>by
  have hr:=(aD r).1
  subst hr
  cases e with
  | non=>cases aW q
  | bl b=>cases bu q
  | int i=>cases aI q
  | str l'=>
   have hq:=(aD q).1
   injection hq with hq
   rw [oM hq]
  | tup l=>obtain ⟨p,xs,ev,_⟩:=aE q;cases ev
  | lst l=>obtain ⟨p,xs,ev,_⟩:=aF q;cases ev
  | dct tk ks vs=>rw [Rep] at q;obtain ⟨p,xs,o,ev,_⟩:=q;cases ev
 | .tup l,e,x,n,h,r,q=>by
  obtain ⟨p,xs,ev,sq,rs⟩:=aE r
  subst ev
  cases e with
  | non=>cases aW q
  | bl b=>cases bu q
  | int i=>cases aI q
  | str l=>cases (aD q).1
  | tup l'=>
   obtain ⟨p',xs',ev',sq',rs'⟩:=aE q
   cases ev'
   have:=I.tuple_inj sq sq'
   subst this
   cases n with
   | zero=>simp only [plainD] at h;cases h
   | succ n=>
    simp only [plainD] at h
    rw [fN I l l' xs n h rs rs']
  | lst l'=>
   obtain ⟨p',xs',ev',sq',rs'⟩:=aF q
   cases ev'
   exact (eD I sq' sq).elim
  | dct tk ks vs=>
   exfalso
   rw [Rep] at q
   obtain ⟨p',xs',o,ev',rd,dd,_⟩:=q
   cases ev'
   obtain ⟨its,_,ip,_⟩:=I.tuple sq
   obtain ⟨ob,ho,hc,_⟩:=ip
   have hob:=rd.ok I.hok
   cases tk with
   | true=>
    obtain ⟨kvs,eo,_⟩:=dd
    subst eo
    obtain ⟨_,_,_,_,o2,_,_,ho2,ex,_⟩:=hob
    rw [ho] at ho2
    cases ho2
    rw [ex.1] at hc
    exact absurd hc (by decide)
   | false=>
    obtain ⟨kvs,eo,_⟩:=dd
    subst eo
    obtain ⟨_,_,_,_,o2,_,_,ho2,ex,_⟩:=hob
    rw [ho] at ho2
    cases ho2
    rw [ex.1] at hc
    exact absurd hc (by decide)
 | .lst l,e,x,n,h,r,q=>by
  obtain ⟨p,xs,ev,sq,rs⟩:=aF r
  subst ev
  cases e with
  | non=>cases aW q
  | bl b=>cases bu q
  | int i=>cases aI q
  | str l=>cases (aD q).1
  | tup l'=>
   obtain ⟨p',xs',ev',sq',rs'⟩:=aE q
   cases ev'
   exact (eD I sq sq').elim
  | lst l'=>
   obtain ⟨p',xs',ev',sq',rs'⟩:=aF q
   cases ev'
   have:=I.list_inj sq sq'
   subst this
   cases n with
   | zero=>simp only [plainD] at h;cases h
   | succ n=>
    simp only [plainD] at h
    rw [fN I l l' xs n h rs rs']
  | dct tk ks vs=>
   exfalso
   rw [Rep] at q
   obtain ⟨p',xs',o,ev',rd,dd,_⟩:=q
   cases ev'
   obtain ⟨its,_,ip,_⟩:=I.list sq
   obtain ⟨ob,_,ho,hc,_⟩:=ip
   have hob:=rd.ok I.hok
   cases tk with
   | true=>
    obtain ⟨kvs,eo,_⟩:=dd
    subst eo
    obtain ⟨_,_,_,_,o2,_,_,ho2,ex,_⟩:=hob
    rw [ho] at ho2
    cases ho2
    rw [ex.1] at hc
    exact absurd hc (by decide)
   | false=>
    obtain ⟨kvs,eo,_⟩:=dd
    subst eo
    obtain ⟨_,_,_,_,o2,_,_,ho2,ex,_⟩:=hob
    rw [ho] at ho2
    cases ho2
    rw [ex.1] at hc
    exact absurd hc (by decide)
 | .dct _ _ _,_,_,n,h,_,_=>by cases n <;> (simp only [plainD] at h;cases h)
theorem fN (I:Inv X pins σ H s):∀ (ds es:List D) (xs:List V) (n:Nat),plainDs n ds=true→Reps X.K H ds xs→Reps X.K H es xs→ds=es
 | [],es,xs,n,_,r,q=>by
  rw [Reps] at r
  subst r
  cases es with
  | nil=>rfl
  | cons e es=>
   rw [Reps] at q
   obtain ⟨y,ys,ev,_⟩:=q
   cases ev
 | d :: ds,es,xs,n,h,r,q=>by
  rw [Reps] at r
  obtain ⟨y,ys,ev,r1,r2⟩:=r
  subst ev
  rw [plainDs,Bool.and_eq_true] at h
  cases es with
  | nil=>
   rw [Reps] at q
   cases q
  | cons e es=>
   rw [Reps] at q
   obtain ⟨y',ys',ev,q1,q2⟩:=q
   cases ev
   rw [fM I d e y n h.1 r1 q1,fN I ds es ys n h.2 r2 q2]
end
mutual
theorem c6:∀ (d:D) (n:Nat),plainD n d=true→eqD d d=true
 | .non,_,_=>by simp only [eqD]
 | .bl _,_,_=>by simp only [eqD,beq_self_eq_true]
 | .int _,_,_=>by simp only [eqD,beq_self_eq_true]
 | .str _,_,_=>by simp only [eqD,beq_self_eq_true]
 | .tup ds,0,h=>by simp only [plainD] at h;cases h
 | .tup ds,n + 1,h=>by simp only [plainD] at h;simp only [eqD];exact eE ds n h
 | .lst ds,0,h=>by simp only [plainD] at h;cases h
 | .lst ds,n + 1,h=>by simp only [plainD] at h;simp only [eqD];exact eE ds n h
 | .dct _ _ _,n,h=>by cases n <;> (simp only [plainD] at h;cases h)
theorem eE:∀ (ds:List D) (n:Nat),plainDs n ds=true→dQ ds ds=true
 | [],_,_=>by simp only [dQ]
 | d :: ds,n,h=>by
  rw [plainDs,Bool.and_eq_true] at h
  rw [dQ,c6 d n h.1,eE ds n h.2]
  rfl
end
open PySem.SeqAt
theorem aG {n:Nat} {tk:Bool} {ks vs:List D} (h:plainD n (.dct tk ks vs)=true):False:=by cases n <;> (simp only [plainD] at h;cases h)
mutual
theorem rq (I:Inv X pins σ H s):∀ (d e:D) (x y:V) (v u:Value) (A:Around) (n:Nat),plainD n d=true→plainD n e=true→A.units + n < cLine→Rep X.K H d x→Rep X.K H e y→RelV x v→RelV y u→EqAt A s v u (eqD d e)
 | .non,e,x,y,v,u,A,n,h,h',hu,r,q,rx,ry=>by
  cases aW r
  cases rx
  cases e with
  | non=>cases aW q;cases ry;simp only [eqD];exact .same _
  | bl b=>cases bu q;cases ry;simp only [eqD];exact .none_bool _
  | int i=>cases aI q;obtain ⟨t,rfl⟩:=ry;simp only [eqD];exact .none_int _ _
  | str l=>cases (aD q).1;obtain ⟨t,rfl⟩:=ry;simp only [eqD];exact .none_str _ _
  | tup l=>obtain ⟨p,xs,rfl,sq,_⟩:=aE q;cases ry;obtain ⟨its,_,ip,_⟩:=I.tuple sq;simp only [eqD];exact .none_tuple (show s.heap.IsTuple p its.toArray from ip) (by lia)
  | lst l=>obtain ⟨p,xs,rfl,sq,_⟩:=aF q;cases ry;obtain ⟨its,_,ip,_⟩:=I.list sq;simp only [eqD];exact .none_list ip.isList (by lia)
  | dct tk ks vs=>exact (aG h').elim
 | .bl b,e,x,y,v,u,A,n,h,h',hu,r,q,rx,ry=>by
  cases bu r
  cases rx
  cases e with
  | non=>cases aW q;cases ry;simp only [eqD];exact .bool_none _
  | bl b=>cases bu q;cases ry;simp only [eqD];exact .bool_bool _ _
  | int i=>cases aI q;obtain ⟨t,rfl⟩:=ry;simp only [eqD];exact .bool_int _ _ _
  | str l=>cases (aD q).1;obtain ⟨t,rfl⟩:=ry;simp only [eqD];exact .bool_str _ _ _
  | tup l=>obtain ⟨p,xs,rfl,sq,_⟩:=aE q;cases ry;obtain ⟨its,_,ip,_⟩:=I.tuple sq;simp only [eqD];exact .bool_tuple _ (show s.heap.IsTuple p its.toArray from ip) (by lia)
  | lst l=>obtain ⟨p,xs,rfl,sq,_⟩:=aF q;cases ry;obtain ⟨its,_,ip,_⟩:=I.list sq;simp only [eqD];exact .bool_list _ ip.isList (by lia)
  | dct tk ks vs=>exact (aG h').elim
 | .int b,e,x,y,v,u,A,n,h,h',hu,r,q,rx,ry=>by
  cases aI r
  obtain ⟨t0,rfl⟩:=rx
  cases e with
  | non=>cases aW q;cases ry;simp only [eqD];exact .int_none _ _
  | bl b=>cases bu q;cases ry;simp only [eqD];exact .int_bool _ _ _
  | int i=>cases aI q;obtain ⟨t,rfl⟩:=ry;simp only [eqD];exact .int_int _ _ _ _
  | str l=>cases (aD q).1;obtain ⟨t,rfl⟩:=ry;simp only [eqD];exact .int_str _ _ _ _
  | tup l=>obtain ⟨p,xs,rfl,sq,_⟩:=aE q;cases ry;obtain ⟨its,_,ip,_⟩:=I.tuple sq;simp only [eqD];exact .int_tuple _ _ (show s.heap.IsTuple p its.toArray from ip) (by lia)
  | lst l=>obtain ⟨p,xs,rfl,sq,_⟩:=aF q;cases ry;obtain ⟨its,_,ip,_⟩:=I.list sq;simp only [eqD];exact .int_list _ _ ip.isList (by lia)
  | dct tk ks vs=>exact (aG h').elim
 | .str b,e,x,y,v,u,A,n,h,h',hu,r,q,rx,ry=>by
  have hr:=(aD r).1
  subst hr
  obtain ⟨t0,rfl⟩:=rx
  cases e with
  | non=>cases aW q;cases ry;simp only [eqD];exact .str_none _ _
  | bl b=>cases bu q;cases ry;simp only [eqD];exact .str_bool _ _ _
  | int i=>cases aI q;obtain ⟨t,rfl⟩:=ry;simp only [eqD];exact .str_int _ _ _ _
  | str l=>
   have hq:=(aD q).1
   subst hq
   obtain ⟨t,rfl⟩:=ry
   have e1:(b == l)=(S b == S l):=by
    rw [Bool.eq_iff_iff,beq_iff_eq,beq_iff_eq]
    exact ⟨fun z=>by rw [z],oM⟩
   simp only [eqD,e1]
   exact .str_str _ _ _ _
  | tup l=>obtain ⟨p,xs,rfl,sq,_⟩:=aE q;cases ry;obtain ⟨its,_,ip,_⟩:=I.tuple sq;simp only [eqD];exact .str_tuple _ _ (show s.heap.IsTuple p its.toArray from ip) (by lia)
  | lst l=>obtain ⟨p,xs,rfl,sq,_⟩:=aF q;cases ry;obtain ⟨its,_,ip,_⟩:=I.list sq;simp only [eqD];exact .str_list _ _ ip.isList (by lia)
  | dct tk ks vs=>exact (aG h').elim
 | .tup l,e,x,y,v,u,A,n,h,h',hu,r,q,rx,ry=>by
  have rr:=r
  obtain ⟨p,xs,ev,sq,rs⟩:=aE r
  subst ev
  cases rx
  obtain ⟨its,vl,ip,_⟩:=I.tuple sq
  have ip:s.heap.IsTuple p its.toArray:=ip
  cases e with
  | non=>cases aW q;cases ry;simp only [eqD];exact .tuple_none ip (by lia)
  | bl b=>cases bu q;cases ry;simp only [eqD];exact .tuple_bool _ ip (by lia)
  | int i=>cases aI q;obtain ⟨t,rfl⟩:=ry;simp only [eqD];exact .tuple_int _ _ ip (by lia)
  | str l=>cases (aD q).1;obtain ⟨t,rfl⟩:=ry;simp only [eqD];exact .tuple_str _ _ ip (by lia)
  | tup l'=>
   obtain ⟨p',xs',ev',sq',rs'⟩:=aE q
   subst ev'
   cases ry
   by_cases hp:p=p'
   ·subst hp
    have hz:=fM I _ _ _ n h rr q
    rw [←hz,c6 _ n h]
    exact .same _
   ·obtain ⟨its',vl',ip',_⟩:=I.tuple sq'
    have ip':s.heap.IsTuple p' its'.toArray:=ip'
    cases n with
    | zero=>simp only [plainD] at h;cases h
    | succ n=>
     simp only [plainD] at h h'
     have l1:=vl.length
     have l2:=vl'.length
     have l3:=rs.length
     have l4:=rs'.length
     have key:=RcAt.tuples (A:=A) (e:=fun j=>eqD (l.getD j .non) (l'.getD j .non)) ip ip' (by lia) fun j h1 h2=>by
      simp only [List.size_toArray] at h1 h2
      have g1:l[j]?=some (l[j]'(by lia)):=List.getElem?_eq_getElem _
      have g2:l'[j]?=some (l'[j]'(by lia)):=List.getElem?_eq_getElem _
      obtain ⟨w1,hw1,rw1⟩:=rs.get g1
      obtain ⟨w2,hw2,rw2⟩:=rs'.get g2
      obtain ⟨u1,hu1,ru1⟩:=vl.get hw1
      obtain ⟨u2,hu2,ru2⟩:=vl'.get hw2
      have q1:its.toArray[j]=u1:=by rw [List.getElem?_eq_getElem h1] at hu1;simpa using hu1
      have q2:its'.toArray[j]=u2:=by rw [List.getElem?_eq_getElem h2] at hu2;simpa using hu2
      rw [q1,q2,List.getD_eq_getElem?_getD,List.getD_eq_getElem?_getD,g1,g2]
      exact gM I l j _ g1 _ w1 w2 u1 u2 A.in1 n (plainDs_mem h g1) (plainDs_mem h' g2) (by show A.units + 1 + n < cLine;lia) rw1 rw2 ru1 ru2
     simp only [eqD]
     have fin:((List.range (min its.toArray.size its'.toArray.size)).all (fun j=>eqD (l.getD j .non) (l'.getD j .non)) && its.toArray.size == its'.toArray.size)=dQ l l':=by
      simp only [List.size_toArray]
      by_cases hl:l.length=l'.length
      ·rw [←bQ hl,show min its.length its'.length=l.length by lia,show (its.length == its'.length)=true by rw [beq_iff_eq];lia,Bool.and_true]
      ·rw [c5 hl,show (its.length == its'.length)=false by rw [beq_eq_false_iff_ne];lia,Bool.and_false]
     rw [←fin]
     exact .of_refs hp key
  | lst l'=>obtain ⟨p',xs',ev',sq',_⟩:=aF q;subst ev';cases ry;obtain ⟨its',_,ip',_⟩:=I.list sq';simp only [eqD];exact .tuple_list ip ip'.isList (by lia)
  | dct tk ks vs=>exact (aG h').elim
 | .lst l,e,x,y,v,u,A,n,h,h',hu,r,q,rx,ry=>by
  have rr:=r
  obtain ⟨p,xs,ev,sq,rs⟩:=aF r
  subst ev
  cases rx
  obtain ⟨its,vl,ip,_⟩:=I.list sq
  have ip:=ip.isList
  cases e with
  | non=>cases aW q;cases ry;simp only [eqD];exact .list_none ip (by lia)
  | bl b=>cases bu q;cases ry;simp only [eqD];exact .list_bool _ ip (by lia)
  | int i=>cases aI q;obtain ⟨t,rfl⟩:=ry;simp only [eqD];exact .list_int _ _ ip (by lia)
  | str l=>cases (aD q).1;obtain ⟨t,rfl⟩:=ry;simp only [eqD];exact .list_str _ _ ip (by lia)
  | lst l'=>
   obtain ⟨p',xs',ev',sq',rs'⟩:=aF q
   subst ev'
   cases ry
   by_cases hp:p=p'
   ·subst hp
    have hz:=fM I _ _ _ n h rr q
    rw [←hz,c6 _ n h]
    exact .same _
   ·obtain ⟨its',vl',ip',_⟩:=I.list sq'
    have ip':=ip'.isList
    cases n with
    | zero=>simp only [plainD] at h;cases h
    | succ n=>
     simp only [plainD] at h h'
     have l1:=vl.length
     have l2:=vl'.length
     have l3:=rs.length
     have l4:=rs'.length
     simp only [eqD]
     by_cases hl:l.length=l'.length
     ·have key:=RcAt.lists (A:=A) (e:=fun j=>eqD (l.getD j .non) (l'.getD j .non)) ip ip' (by simp only [List.size_toArray];lia) (by lia) fun j h1 h2=>by
       simp only [List.size_toArray] at h1 h2
       have g1:l[j]?=some (l[j]'(by lia)):=List.getElem?_eq_getElem _
       have g2:l'[j]?=some (l'[j]'(by lia)):=List.getElem?_eq_getElem _
       obtain ⟨w1,hw1,rw1⟩:=rs.get g1
       obtain ⟨w2,hw2,rw2⟩:=rs'.get g2
       obtain ⟨u1,hu1,ru1⟩:=vl.get hw1
       obtain ⟨u2,hu2,ru2⟩:=vl'.get hw2
       have q1:its.toArray[j]=u1:=by rw [List.getElem?_eq_getElem h1] at hu1;simpa using hu1
       have q2:its'.toArray[j]=u2:=by rw [List.getElem?_eq_getElem h2] at hu2;simpa using hu2
       rw [q1,q2,List.getD_eq_getElem?_getD,List.getD_eq_getElem?_getD,g1,g2]
       exact gM I l j _ g1 _ w1 w2 u1 u2 A.in1 n (plainDs_mem h g1) (plainDs_mem h' g2) (by show A.units + 1 + n < cLine;lia) rw1 rw2 ru1 ru2
      rw [←bQ hl,show l.length=its.toArray.size by simp only [List.size_toArray];lia]
      exact .of_refs hp key
     ·rw [c5 hl]
      exact .of_refs hp (RcAt.lists_lengths ip ip' (by simp only [List.size_toArray,bne_iff_ne];lia) (by lia))
  | tup l'=>obtain ⟨p',xs',ev',sq',_⟩:=aE q;subst ev';cases ry;obtain ⟨its',_,ip',_⟩:=I.tuple sq';simp only [eqD];exact .list_tuple ip (show s.heap.IsTuple p' its'.toArray from ip') (by lia)
  | dct tk ks vs=>exact (aG h').elim
 | .dct _ _ _,_,_,_,_,_,_,n,h,_,_,_,_,_,_=>(aG h).elim
theorem gM (I:Inv X pins σ H s):∀ (ds:List D) (j:Nat) (d:D),ds[j]?=some d→∀ (e:D) (x y:V) (v u:Value) (A:Around) (n:Nat),plainD n d=true→plainD n e=true→A.units + n < cLine→Rep X.K H d x→Rep X.K H e y→RelV x v→RelV y u→EqAt A s v u (eqD d e)
 | [],_,_,hj=>by simp at hj
 | d' :: ds,0,d,hj=>by
  simp at hj
  subst hj
  exact rq I d'
 | d' :: ds,j + 1,d,hj=>gM I ds j d (by simpa using hj)
end
end
section
variable {X:Cx}
noncomputable def eqO (a b:D):Res R:=if plainD 40 a && plainD 40 b then .ok (.f,.bl (eqD a b)) else .bad
noncomputable def neO (a b:D):Res R:=if plainD 40 a && plainD 40 b then .ok (.f,.bl (!eqD a b)) else .bad
open PySem.SeqAt in
theorem rA {pins:List (Addr×Obj)} {σ:L2.St} {H:Hp} {s:Shared} (I:Inv X pins σ H s) {d e:D} {x y:V} {v u:Value} {A:Around} (h:plainD 40 d=true) (h':plainD 40 e=true) (hu:A.units + 64 < cLine) (r:Rep X.K H d x) (q:Rep X.K H e y) (rx:RelV x v) (ry:RelV y u) :
  RcAt A s v u (eqD d e)∧RcNeAt A s v u (!eqD d e):=by
 cases d with
 | non=>
  cases aW r
  cases rx
  cases e with
  | non=>cases aW q;cases ry;simp only [eqD];exact ⟨.none_none,.none_none⟩
  | bl b=>cases bu q;cases ry;simp only [eqD];exact ⟨.none_bool _,.none_bool _⟩
  | int i=>cases aI q;obtain ⟨t,rfl⟩:=ry;simp only [eqD];exact ⟨.none_int _ _,.none_int _ _⟩
  | str l=>cases (aD q).1;obtain ⟨t,rfl⟩:=ry;simp only [eqD];exact ⟨.none_str _ _,.none_str _ _⟩
  | tup l=>obtain ⟨p,xs,rfl,sq,_⟩:=aE q;cases ry;obtain ⟨its,_,ip,_⟩:=I.tuple sq;simp only [eqD];exact ⟨.none_tuple (show s.heap.IsTuple p its.toArray from ip) (by lia),.none_tuple (show s.heap.IsTuple p its.toArray from ip) (by lia)⟩
  | lst l=>obtain ⟨p,xs,rfl,sq,_⟩:=aF q;cases ry;obtain ⟨its,_,ip,_⟩:=I.list sq;simp only [eqD];exact ⟨.none_list ip.isList (by lia),.none_list ip.isList (by lia)⟩
  | dct tk ks vs=>exact (aG h').elim
 | bl b=>
  cases bu r
  cases rx
  cases e with
  | non=>cases aW q;cases ry;simp only [eqD];exact ⟨.bool_none _,.bool_none _⟩
  | bl b=>cases bu q;cases ry;simp only [eqD];exact ⟨.bool_bool _ _,.bool_bool _ _⟩
  | int i=>cases aI q;obtain ⟨t,rfl⟩:=ry;simp only [eqD];exact ⟨.bool_int _ _ _,.bool_int _ _ _⟩
  | str l=>cases (aD q).1;obtain ⟨t,rfl⟩:=ry;simp only [eqD];exact ⟨.bool_str _ _ _,.bool_str _ _ _⟩
  | tup l=>obtain ⟨p,xs,rfl,sq,_⟩:=aE q;cases ry;obtain ⟨its,_,ip,_⟩:=I.tuple sq;simp only [eqD];exact ⟨.bool_tuple _ (show s.heap.IsTuple p its.toArray from ip) (by lia),.bool_tuple _ (show s.heap.IsTuple p its.toArray from ip) (by lia)⟩
  | lst l=>obtain ⟨p,xs,rfl,sq,_⟩:=aF q;cases ry;obtain ⟨its,_,ip,_⟩:=I.list sq;simp only [eqD];exact ⟨.bool_list _ ip.isList (by lia),.bool_list _ ip.isList (by lia)⟩
  | dct tk ks vs=>exact (aG h').elim
 | int b=>
  cases aI r
  obtain ⟨t0,rfl⟩:=rx
  cases e with
  | non=>cases aW q;cases ry;simp only [eqD];exact ⟨.int_none _ _,.int_none _ _⟩
  | bl b=>cases bu q;cases ry;simp only [eqD];exact ⟨.int_bool _ _ _,.int_bool _ _ _⟩
  | int i=>cases aI q;obtain ⟨t,rfl⟩:=ry;simp only [eqD];exact ⟨.int_int _ _ _ _,.int_int _ _ _ _⟩
  | str l=>cases (aD q).1;obtain ⟨t,rfl⟩:=ry;simp only [eqD];exact ⟨.int_str _ _ _ _,.int_str _ _ _ _⟩
  | tup l=>obtain ⟨p,xs,rfl,sq,_⟩:=aE q;cases ry;obtain ⟨its,_,ip,_⟩:=I.tuple sq;simp only [eqD];exact ⟨.int_tuple _ _ (show s.heap.IsTuple p its.toArray from ip) (by lia),.int_tuple _ _ (show s.heap.IsTuple p its.toArray from ip) (by lia)⟩
  | lst l=>obtain ⟨p,xs,rfl,sq,_⟩:=aF q;cases ry;obtain ⟨its,_,ip,_⟩:=I.list sq;simp only [eqD];exact ⟨.int_list _ _ ip.isList (by lia),.int_list _ _ ip.isList (by lia)⟩
  | dct tk ks vs=>exact (aG h').elim
 | str b=>
  have hr:=(aD r).1
  subst hr
  obtain ⟨t0,rfl⟩:=rx
  cases e with
  | non=>cases aW q;cases ry;simp only [eqD];exact ⟨.str_none _ _,.str_none _ _⟩
  | bl b=>cases bu q;cases ry;simp only [eqD];exact ⟨.str_bool _ _ _,.str_bool _ _ _⟩
  | int i=>cases aI q;obtain ⟨t,rfl⟩:=ry;simp only [eqD];exact ⟨.str_int _ _ _ _,.str_int _ _ _ _⟩
  | str l=>
   have hq:=(aD q).1
   subst hq
   obtain ⟨t,rfl⟩:=ry
   have e1:(b == l)=(S b == S l):=by
    rw [Bool.eq_iff_iff,beq_iff_eq,beq_iff_eq]
    exact ⟨fun z=>by rw [z],oM⟩
   simp only [eqD,e1]
   exact ⟨.str_str _ _ _ _,.str_str _ _ _ _⟩
  | tup l=>obtain ⟨p,xs,rfl,sq,_⟩:=aE q;cases ry;obtain ⟨its,_,ip,_⟩:=I.tuple sq;simp only [eqD];exact ⟨.str_tuple _ _ (show s.heap.IsTuple p its.toArray from ip) (by lia),.str_tuple _ _ (show s.heap.IsTuple p its.toArray from ip) (by lia)⟩
  | lst l=>obtain ⟨p,xs,rfl,sq,_⟩:=aF q;cases ry;obtain ⟨its,_,ip,_⟩:=I.list sq;simp only [eqD];exact ⟨.str_list _ _ ip.isList (by lia),.str_list _ _ ip.isList (by lia)⟩
  | dct tk ks vs=>exact (aG h').elim
 | tup l=>
  obtain ⟨p,xs,ev,sq,rs⟩:=aE r
  subst ev
  cases rx
  obtain ⟨its,vl,ip,_⟩:=I.tuple sq
  have ip:s.heap.IsTuple p its.toArray:=ip
  cases e with
  | non=>cases aW q;cases ry;simp only [eqD];exact ⟨.tuple_none ip (by lia),.tuple_none ip (by lia)⟩
  | bl b=>cases bu q;cases ry;simp only [eqD];exact ⟨.tuple_bool _ ip (by lia),.tuple_bool _ ip (by lia)⟩
  | int i=>cases aI q;obtain ⟨t,rfl⟩:=ry;simp only [eqD];exact ⟨.tuple_int _ _ ip (by lia),.tuple_int _ _ ip (by lia)⟩
  | str l=>cases (aD q).1;obtain ⟨t,rfl⟩:=ry;simp only [eqD];exact ⟨.tuple_str _ _ ip (by lia),.tuple_str _ _ ip (by lia)⟩
  | tup l'=>
   obtain ⟨p',xs',ev',sq',rs'⟩:=aE q
   subst ev'
   cases ry
   obtain ⟨its',vl',ip',_⟩:=I.tuple sq'
   have ip':s.heap.IsTuple p' its'.toArray:=ip'
   simp only [plainD] at h h'
   have l1:=vl.length
   have l2:=vl'.length
   have l3:=rs.length
   have l4:=rs'.length
   have el:∀ j (h1:j < its.toArray.size) (h2:j < its'.toArray.size),EqAt A.in1 s its.toArray[j] its'.toArray[j] ((fun j=>eqD (l.getD j .non) (l'.getD j .non)) j):=fun j h1 h2=>by
    simp only [List.size_toArray] at h1 h2
    have g1:l[j]?=some (l[j]'(by lia)):=List.getElem?_eq_getElem _
    have g2:l'[j]?=some (l'[j]'(by lia)):=List.getElem?_eq_getElem _
    obtain ⟨w1,hw1,rw1⟩:=rs.get g1
    obtain ⟨w2,hw2,rw2⟩:=rs'.get g2
    obtain ⟨u1,hu1,ru1⟩:=vl.get hw1
    obtain ⟨u2,hu2,ru2⟩:=vl'.get hw2
    have q1:its.toArray[j]=u1:=by rw [List.getElem?_eq_getElem h1] at hu1;simpa using hu1
    have q2:its'.toArray[j]=u2:=by rw [List.getElem?_eq_getElem h2] at hu2;simpa using hu2
    dsimp only
    rw [q1,q2,List.getD_eq_getElem?_getD,List.getD_eq_getElem?_getD,g1,g2]
    exact gM I l j _ g1 _ w1 w2 u1 u2 A.in1 39 (plainDs_mem h g1) (plainDs_mem h' g2) (by show A.units + 1 + 39 < cLine;lia) rw1 rw2 ru1 ru2
   simp only [eqD]
   have fin:((List.range (min its.toArray.size its'.toArray.size)).all (fun j=>eqD (l.getD j .non) (l'.getD j .non)) && its.toArray.size == its'.toArray.size)=dQ l l':=by
    simp only [List.size_toArray]
    by_cases hl:l.length=l'.length
    ·rw [←bQ hl,show min its.length its'.length=l.length by lia,show (its.length == its'.length)=true by rw [beq_iff_eq];lia,Bool.and_true]
    ·rw [c5 hl,show (its.length == its'.length)=false by rw [beq_eq_false_iff_ne];lia,Bool.and_false]
   rw [←fin]
   exact ⟨.tuples ip ip' (by lia) el,.tuples ip ip' (by lia) el⟩
  | lst l'=>obtain ⟨p',xs',ev',sq',_⟩:=aF q;subst ev';cases ry;obtain ⟨its',_,ip',_⟩:=I.list sq';simp only [eqD];exact ⟨.tuple_list ip ip'.isList (by lia),.tuple_list ip ip'.isList (by lia)⟩
  | dct tk ks vs=>exact (aG h').elim
 | lst l=>
  obtain ⟨p,xs,ev,sq,rs⟩:=aF r
  subst ev
  cases rx
  obtain ⟨its,vl,ip,_⟩:=I.list sq
  have ip:=ip.isList
  cases e with
  | non=>cases aW q;cases ry;simp only [eqD];exact ⟨.list_none ip (by lia),.list_none ip (by lia)⟩
  | bl b=>cases bu q;cases ry;simp only [eqD];exact ⟨.list_bool _ ip (by lia),.list_bool _ ip (by lia)⟩
  | int i=>cases aI q;obtain ⟨t,rfl⟩:=ry;simp only [eqD];exact ⟨.list_int _ _ ip (by lia),.list_int _ _ ip (by lia)⟩
  | str l=>cases (aD q).1;obtain ⟨t,rfl⟩:=ry;simp only [eqD];exact ⟨.list_str _ _ ip (by lia),.list_str _ _ ip (by lia)⟩
  | lst l'=>
   obtain ⟨p',xs',ev',sq',rs'⟩:=aF q
   subst ev'
   cases ry
   obtain ⟨its',vl',ip',_⟩:=I.list sq'
   have ip':=ip'.isList
   simp only [plainD] at h h'
   have l1:=vl.length
   have l2:=vl'.length
   have l3:=rs.length
   have l4:=rs'.length
   simp only [eqD]
   by_cases hl:l.length=l'.length
   ·have el:∀ j (h1:j < its.toArray.size) (h2:j < its'.toArray.size),EqAt A.in1 s its.toArray[j] its'.toArray[j] ((fun j=>eqD (l.getD j .non) (l'.getD j .non)) j):=fun j h1 h2=>by
     simp only [List.size_toArray] at h1 h2
     have g1:l[j]?=some (l[j]'(by lia)):=List.getElem?_eq_getElem _
     have g2:l'[j]?=some (l'[j]'(by lia)):=List.getElem?_eq_getElem _
     obtain ⟨w1,hw1,rw1⟩:=rs.get g1
     obtain ⟨w2,hw2,rw2⟩:=rs'.get g2
     obtain ⟨u1,hu1,ru1⟩:=vl.get hw1
     obtain ⟨u2,hu2,ru2⟩:=vl'.get hw2
     have q1:its.toArray[j]=u1:=by rw [List.getElem?_eq_getElem h1] at hu1;simpa using hu1
     have q2:its'.toArray[j]=u2:=by rw [List.getElem?_eq_getElem h2] at hu2;simpa using hu2
     dsimp only
     rw [q1,q2,List.getD_eq_getElem?_getD,List.getD_eq_getElem?_getD,g1,g2]
     exact gM I l j _ g1 _ w1 w2 u1 u2 A.in1 39 (plainDs_mem h g1) (plainDs_mem h' g2) (by show A.units + 1 + 39 < cLine;lia) rw1 rw2 ru1 ru2
    rw [←bQ hl,show l.length=its.toArray.size by simp only [List.size_toArray];lia]
    exact ⟨.lists ip ip' (by simp only [List.size_toArray];lia) (by lia) el,.lists ip ip' (by simp only [List.size_toArray];lia) (by lia) el⟩
   ·rw [c5 hl]
    exact ⟨.lists_lengths ip ip' (by simp only [List.size_toArray,bne_iff_ne];lia) (by lia),.lists_lengths ip ip' (by simp only [List.size_toArray,bne_iff_ne];lia) (by lia)⟩
  | tup l'=>obtain ⟨p',xs',ev',sq',_⟩:=aE q;subst ev';cases ry;obtain ⟨its',_,ip',_⟩:=I.tuple sq';simp only [eqD];exact ⟨.list_tuple ip (show s.heap.IsTuple p' its'.toArray from ip') (by lia),.list_tuple ip (show s.heap.IsTuple p' its'.toArray from ip') (by lia)⟩
  | dct tk ks vs=>exact (aG h').elim
 | dct tk ks vs=>exact (aG h).elim
theorem kY (hu:X.A.units + 64 < cLine):OpR X (compareOp .Eq) (rGA X.K eqO):=by
 rintro pins s σ H x y v u Q I rx ry ⟨G,fp,es,vs,a,b,r,⟨rel,k⟩,va,vb,e⟩
 unfold eqO at e
 split at e
 ·rename_i hp
  cases e
  rw [Bool.and_eq_true] at hp
  exact (rA I hp.1 hp.2 hu va vb rx ry).1 _ _ _ _ ⟨.bl _,H,I,rfl,k _ H G fp .refl (rel.push (bw _))⟩
 ·cases e
theorem pb (hu:X.A.units + 64 < cLine):OpR X (compareOp .NotEq) (rGA X.K neO):=by
 rintro pins s σ H x y v u Q I rx ry ⟨G,fp,es,vs,a,b,r,⟨rel,k⟩,va,vb,e⟩
 unfold neO at e
 split at e
 ·rename_i hp
  cases e
  rw [Bool.and_eq_true] at hp
  exact (rA I hp.1 hp.2 hu va vb rx ry).2 _ _ _ _ ⟨.bl _,H,I,rfl,k _ H G fp .refl (rel.push (bw _))⟩
 ·cases e
noncomputable def lO (a:D) (ds:List D):Bool:=ds.any fun d=>eqD d a
noncomputable def inO (a b:D):Res R:=match b with
 | .lst ds=>if plainD 40 a && plainDs 40 ds then .ok (.f,.bl (lO a ds)) else .bad
 | .tup ds=>if plainD 40 a && plainDs 40 ds then .ok (.f,.bl (lO a ds)) else .bad
 | .str l=>match a with
  | .str [c]=>.ok (.f,.bl (decide (c∈l)))
  | _=>.bad
 | _=>.bad
noncomputable def nO (a b:D):Res R:=(inO a b).bind fun r=>match r.2 with
 | .bl k=>.ok (.f,.bl (!k))
 | _=>.bad
open PySem.SeqAt in
theorem i8 {pins:List (Addr×Obj)} {σ:L2.St} {H:Hp} {s:Shared} (I:Inv X pins σ H s) {a:D} {x:V} {v:Value} {A:Around} (h:plainD 40 a=true) (hu:A.units + 64 < cLine) (r:Rep X.K H a x) (rx:RelV x v) :
  ∀ (ds:List D) (xs:List V) (us:List Value),plainDs 40 ds=true→Reps X.K H ds xs→Vals xs us→∃ e:Value→Bool,us.any e=lO a ds∧∀ u∈us,EqAt A s u v (e u):=by
 classical
 intro ds xs us hp rs vl
 refine ⟨fun u=>decide (∃ (j:Nat) (d:D),ds[j]?=some d∧us[j]?=some u∧eqD d a=true),?_,fun u hu'=>?_⟩
 ·rw [Bool.eq_iff_iff,List.any_eq_true]
  unfold lO
  rw [List.any_eq_true]
  constructor
  ·rintro ⟨u,_,hd⟩
   obtain ⟨j,d,h1,_,h2⟩:=of_decide_eq_true hd
   exact ⟨d,List.mem_of_getElem? h1,h2⟩
  ·rintro ⟨d,hd,h2⟩
   obtain ⟨j,hj⟩:=List.mem_iff_getElem?.mp hd
   obtain ⟨w1,hw1,rw1⟩:=rs.get hj
   obtain ⟨u1,hu1,ru1⟩:=vl.get hw1
   exact ⟨u1,List.mem_of_getElem? hu1,decide_eq_true ⟨j,d,hj,hu1,h2⟩⟩
 ·obtain ⟨j,hj⟩:=List.mem_iff_getElem?.mp hu'
  have l1:=vl.length
  have l2:=rs.length
  have hjl:=(List.getElem?_eq_some_iff.mp hj).1
  have g1:ds[j]?=some (ds[j]'(by lia)):=List.getElem?_eq_getElem _
  obtain ⟨w1,hw1,rw1⟩:=rs.get g1
  obtain ⟨u1,hu1,ru1⟩:=vl.get hw1
  rw [hj] at hu1
  cases hu1
  have z:=rq I _ _ w1 x u v A 40 (plainDs_mem hp g1) h (by lia) rw1 r ru1 rx
  have e:decide (∃ (j:Nat) (d:D),ds[j]?=some d∧us[j]?=some u∧eqD d a=true)=eqD (ds[j]'(by lia)) a:=by
   rw [Bool.eq_iff_iff,decide_eq_true_eq]
   constructor
   ·rintro ⟨j2,d2,k1,k2,k3⟩
    obtain ⟨w2,hw2,rw2⟩:=rs.get k1
    obtain ⟨u2,hu2,ru2⟩:=vl.get hw2
    rw [k2] at hu2
    cases hu2
    have:=ru1.inj ru2
    subst this
    rw [fM I _ _ _ 40 (plainDs_mem hp g1) rw1 rw2]
    exact k3
   ·intro k3
    exact ⟨j,_,g1,hj,k3⟩
  show EqAt A s u v (decide (∃ (j:Nat) (d:D),ds[j]?=some d∧us[j]?=some u∧eqD d a=true))
  rw [e]
  exact z
theorem gN (l:List Nat) (c:Nat):(!(Builtin.Str.occurrences (S l) (S [c]) 0 (S l).length 1).isEmpty)=decide (c∈l):=by
 have h:=PySem.StrLaws.found_one (S l) c
 rw [cU] at h
 exact h
theorem fO {e:Value→Bool} (us:List Value):us.toArray.any e=us.any e:=by simp
theorem uh (hu:X.A.units + 65 < cLine):OpR X (compareOp .In) (rGA X.K inO):=by
 rintro pins s σ H x y v u Q I rx ry ⟨G,fp,es,vs,a,b,r,⟨rel,k⟩,va,vb,e⟩
 unfold inO at e
 split at e
 ·rename_i ds
  split at e
  ·rename_i hp
   cases e
   rw [Bool.and_eq_true] at hp
   obtain ⟨p,xs,ev,sq,rs⟩:=aF vb
   subst ev
   cases ry
   obtain ⟨its,vl,ip,_⟩:=I.list sq
   obtain ⟨ef,e1,e2⟩:=i8 (A:=X.A.in1) I hp.1 (by show X.A.units + 1 + 64 < cLine;lia) va rx ds xs its hp.2 rs vl
   refine SeqAt.in_listAt ef ip.isList (fun z hz=>e2 z (by simpa using hz)) ?_
   rw [fO,e1]
   exact ⟨.bl _,H,I,rfl,k _ H G fp .refl (rel.push (bw _))⟩
  ·cases e
 ·rename_i ds
  split at e
  ·rename_i hp
   cases e
   rw [Bool.and_eq_true] at hp
   obtain ⟨p,xs,ev,sq,rs⟩:=aE vb
   subst ev
   cases ry
   obtain ⟨its,vl,ip,_⟩:=I.tuple sq
   obtain ⟨ef,e1,e2⟩:=i8 (A:=X.A.in1) I hp.1 (by show X.A.units + 1 + 64 < cLine;lia) va rx ds xs its hp.2 rs vl
   refine SeqAt.in_tupleAt ef (show s.heap.IsTuple p its.toArray from ip) (fun z hz=>e2 z (by simpa using hz)) ?_
   rw [fO,e1]
   exact ⟨.bl _,H,I,rfl,k _ H G fp .refl (rel.push (bw _))⟩
  ·cases e
 ·rename_i l
  split at e
  ·rename_i c
   cases e
   obtain ⟨e1,h1⟩:=aD va
   obtain ⟨e2,h2⟩:=aD vb
   subst e1
   subst e2
   refine j3 pins s σ H _ _ v u Q I rx ry ⟨_,_,rfl,rfl,?_⟩
   rw [gN]
   exact k _ H G fp .refl (rel.push (bw _))
  ·cases e
 ·cases e
theorem rB (hu:X.A.units + 65 < cLine):OpR X (compareOp .NotIn) (rGA X.K nO):=by
 rintro pins s σ H x y v u Q I rx ry ⟨G,fp,es,vs,a,b,r,⟨rel,k⟩,va,vb,e⟩
 unfold nO at e
 obtain ⟨r0,e0,e⟩:=ab e
 unfold inO at e0
 split at e0
 ·rename_i ds
  split at e0
  ·rename_i hp
   cases e0
   cases e
   rw [Bool.and_eq_true] at hp
   obtain ⟨p,xs,ev,sq,rs⟩:=aF vb
   subst ev
   cases ry
   obtain ⟨its,vl,ip,_⟩:=I.list sq
   obtain ⟨ef,e1,e2⟩:=i8 (A:=X.A.in1) I hp.1 (by show X.A.units + 1 + 64 < cLine;lia) va rx ds xs its hp.2 rs vl
   refine SeqAt.notIn_listAt ef ip.isList (fun z hz=>e2 z (by simpa using hz)) ?_
   rw [fO,e1]
   exact ⟨.bl _,H,I,rfl,k _ H G fp .refl (rel.push (bw _))⟩
  ·cases e0
 ·rename_i ds
  split at e0
  ·rename_i hp
   cases e0
   cases e
   rw [Bool.and_eq_true] at hp
   obtain ⟨p,xs,ev,sq,rs⟩:=aE vb
   subst ev
   cases ry
   obtain ⟨its,vl,ip,_⟩:=I.tuple sq
   obtain ⟨ef,e1,e2⟩:=i8 (A:=X.A.in1) I hp.1 (by show X.A.units + 1 + 64 < cLine;lia) va rx ds xs its hp.2 rs vl
   refine SeqAt.notIn_tupleAt ef (show s.heap.IsTuple p its.toArray from ip) (fun z hz=>e2 z (by simpa using hz)) ?_
   rw [fO,e1]
   exact ⟨.bl _,H,I,rfl,k _ H G fp .refl (rel.push (bw _))⟩
  ·cases e0
 ·rename_i l
  split at e0
  ·rename_i c
   cases e0
   cases e
   obtain ⟨e1,h1⟩:=aD va
   obtain ⟨e2,h2⟩:=aD vb
   subst e1
   subst e2
   refine gw pins s σ H _ _ v u Q I rx ry ⟨_,_,rfl,rfl,?_⟩
   rw [gN]
   exact k _ H G fp .refl (rel.push (bw _))
  ·cases e0
 ·cases e0
noncomputable def isO (a b:D):Res R:=match b with
 | .bl k=>.ok (.f,.bl (match a with | .bl j=>j == k | _=>false))
 | .non=>.ok (.f,.bl (match a with | .non=>true | _=>false))
 | _=>.bad
noncomputable def vV (a b:D):Res R:=(isO a b).bind fun r=>match r.2 with
 | .bl k=>.ok (.f,.bl (!k))
 | _=>.bad
end
section
variable {X:Cx}
noncomputable def uk (f g:FX):FX:=fun env=>(f env).bind fun p=>(g p.2).bind fun q=>match (gu p.1.2).bind bH,q.1.2 with
 | some ns,.int d=>.ok ((.f,.int (NX.maxD ns d)),q.2)
 | _,_=>.bad
noncomputable def vW:List D→Res R
 | [.bl b]=>.ok (.f,.int (if b then 1 else 0))
 | [.int i]=>.ok (.f,.int i)
 | _=>.bad
noncomputable def ir:D→String
 | .non=>"NoneType"
 | .bl _=>"bool"
 | .int _=>"int"
 | .str _=>"str"
 | .tup _=>"tuple"
 | .lst _=>"list"
 | .dct _ _ _=>"dict"
noncomputable def mD (T:String) (d:D):Bool:=ir d == T || (ir d == "bool" && T == "int")
noncomputable def eIs (T:String) (f:FO):FX:=fun env=>(f env).bind fun p=>(jy p.2 p.1).bind fun d=>.ok ((.f,.bl (mD T d)),p.2)
theorem rD (K:W.Frag) (d:D) {T:String} (hT:T = "int"∨T = "bool"∨T = "str"∨T = "list"∨T = "tuple"∨T = "dict"):PySem.W.kitOne K (.type (ir d)) (.type T)=some (mD T d):=by
 rcases hT with rfl | rfl | rfl | rfl | rfl | rfl <;> cases d <;> (unfold PySem.W.kitOne PySem.W.kitCls PySem.W.subIn;kernel_rfl)
theorem mE:cN X (.builtin "isinstance") (fun xs H Q=>∃ d x T,xs=[x,.ty T]∧Rep X.K H d x∧(T = "int"∨T = "bool"∨T = "str"∨T = "list"∨T = "tuple"∨T = "dict")∧Q (.bl (mD T d)) H):=by
 intro pins s σ H xs us Q I r h
 obtain ⟨d,x,T,rfl,rd,hT,q⟩:=h
 obtain ⟨u,w',rfl,r1,r2⟩:=qx r
 cases (show w'=Value.type T from r2)
 have e:=rD X.K d hT
 have fin:∀ tk,EP X pins σ Q (.bool (mD T d)) { s with toks:=tk }:=fun tk=>⟨.bl (mD T d),H,I.tok tk,rfl,q⟩
 cases d with
 | non=>cases aW rd;cases (show u=Value.none from r1);exact PySem.W.kia_one PySem.W.kitx_none I.kIn True.intro e (fun z=>nomatch z) fin
 | bl y=>cases bu rd;cases (show u=Value.bool y from r1);exact PySem.W.kia_one PySem.W.kitx_bool I.kIn True.intro e (fun z=>nomatch z) fin
 | int i=>cases aI rd;obtain ⟨t,z⟩:=(show ∃ t,u=Value.int i t from r1);cases z;exact PySem.W.kia_one PySem.W.kitx_int I.kIn True.intro e (fun z=>nomatch z) fin
 | str l=>
  have hr:=(aD rd).1
  subst hr
  obtain ⟨t,z⟩:=(show ∃ t,u=Value.str (S l) t from r1)
  cases z
  exact PySem.W.kia_one PySem.W.kitx_str I.kIn True.intro e (fun z=>nomatch z) fin
 | lst l=>
  obtain ⟨p,xs,ev,sq,_⟩:=aF rd
  subst ev
  cases (show u=Value.ref p from r1)
  obtain ⟨its,_,ip,_⟩:=I.list sq
  obtain ⟨o,ho,hc,_⟩:=ip.isList
  exact PySem.W.kia_one PySem.W.kitx_list I.kIn ⟨o,ho,hc⟩ e (fun z=>nomatch z) fin
 | tup l=>
  obtain ⟨p,xs,ev,sq,_⟩:=aE rd
  subst ev
  cases (show u=Value.ref p from r1)
  obtain ⟨its,_,ip,_⟩:=I.tuple sq
  obtain ⟨o,ho,hc,_⟩:=ip
  exact PySem.W.kia_one PySem.W.kitx_tuple I.kIn ⟨o,ho,hc⟩ e (fun z=>nomatch z) fin
 | dct tk ks vs=>
  rw [Rep] at rd
  obtain ⟨p,xs,o,ev,hr,dd,_⟩:=rd
  subst ev
  cases (show u=Value.ref p from r1)
  have ok:=hr.ok I.hok
  cases tk with
  | true=>
   obtain ⟨kvs,eo,_⟩:=dd
   subst eo
   obtain ⟨_,_,_,_,o2,_,_,ho2,ex,_⟩:=ok
   exact PySem.W.kia_one PySem.W.kitx_dict I.kIn ⟨o2,ho2,ex.1⟩ e (fun z=>nomatch z) fin
  | false=>
   obtain ⟨kvs,eo,_⟩:=dd
   subst eo
   obtain ⟨_,_,_,_,o2,_,_,ho2,ex,_⟩:=ok
   exact PySem.W.kia_one PySem.W.kitx_dict I.kIn ⟨o2,ho2,ex.1⟩ e (fun z=>nomatch z) fin
theorem pd {T:String} {x:Str} {e:Expr} {f:FO} {p q pos:Pos} (hT:T = "int"∨T = "bool"∨T = "str"∨T = "list"∨T = "tuple"∨T = "dict") (he:QO X e f) (hg:Gl X "isinstance") (hm:X.mg "isinstance" = none) (hg2:Gl X x) (hm2:X.mg x=none) (hv2:bootBuiltins x=some (.type T)) (hn:x≠"__name__":=by decide) (hdb:(x == ("__debug__" : Str))=false:=by decide)
  (hs:starEach [e,.Name x q] X.env=(false,eval e X.env) :: starEach [.Name x q] X.env:=by rfl) (hs2:starEach [.Name x q] X.env=(false,eval (.Name x q) X.env) :: starEach [] X.env:=by rfl) (hpl:(backTo pos (starEach [.Name x q] X.env)).any (·.1)=false:=by rfl) :
  QE X (.Call (.Name "isinstance" p) [e,.Name x q] [] pos) (eIs T f):=
 aP (iM mE hg hm fD (fA he (fA (oi (v:=.ty T) hg2 hm2 hv2 rfl hn hdb) j5 hs2) hs) (by decide) (by decide) hs hpl) fun σ H Q hq0=>by
  obtain ⟨G,env,fp,r,env',rel,e,k⟩:=hq0
  obtain ⟨⟨o,env1⟩,e1,e⟩:=ab e
  obtain ⟨d,e2,e⟩:=ab e
  cases e
  exact ⟨G,env,fp,o,_,rel,e1,fun v H1 G1 fp1 st1 rel1 ok1=>⟨d,v,T,rfl,rel1.vwA ok1 e2,hT,k _ H1 G1 fp1 st1 (rel1.push (bw _))⟩⟩
noncomputable def or2 {α:Type} (f g:PV.Env→Res α):PV.Env→Res α:=fun env=>match f env with
 | .ok a=>.ok a
 | _=>g env
theorem nP {α:Type} {f g:PV.Env→Res α} {env:PV.Env} {a:α} (h:or2 f g env=.ok a):f env=.ok a∨g env=.ok a:=by
 unfold or2 at h
 split at h
 ·rename_i b hb
  cases h
  exact .inl hb
 ·exact .inr h
theorem kZ {tg e:Expr} {f g:FI} (h:QI X tg e f) (h2:QI X tg e g):QI X tg e (or2 f g):=fun pins s σ H R I hq0=>by
 obtain ⟨G,env,fp,ds,env',rel,ee,k⟩:=hq0
 rcases nP ee with z | z
 ·exact h pins s σ H R I ⟨G,env,fp,ds,env',rel,z,k⟩
 ·exact h2 pins s σ H R I ⟨G,env,fp,ds,env',rel,z,k⟩
end
section
variable {α:Type}
noncomputable def ins (lt:α→α→Bool) (x:α):List α→List α
 | []=>[x]
 | y :: ys=>if lt y x then y :: ins lt x ys else x :: y :: ys
noncomputable def pe (lt:α→α→Bool) (l:List α):List α:=l.foldr (ins lt) []
end
noncomputable def ltI (a b:Int):Bool:=decide (a < b)
noncomputable def ltS (a b:List Nat):Bool:=decide (a < b)
noncomputable def k4:List D→Option (List (List Nat))
 | []=>some []
 | .str b :: ds=>(k4 ds).map (b :: ·)
 | _=>none
noncomputable def k5:D→Option Key
 | .int i=>some (.inl i)
 | .str l=>some (.inr (S l))
 | _=>none
noncomputable def fP:List D→Option (List Key)
 | []=>some []
 | d :: ds=>(k5 d).bind fun k=>(fP ds).map (k :: ·)
noncomputable def cP:D→Option (List Key)
 | .tup ds=>fP ds
 | _=>none
noncomputable def nQ:List D→Option (List (List Key))
 | []=>some []
 | d :: ds=>(cP d).bind fun k=>(nQ ds).map (k :: ·)
noncomputable def kT (k:List Key):D:=.tup (k.map kD)
section
variable {K:W.Frag} {G:Hp}
theorem fe {d:D} {k:Key} {v:V} (e:k5 d=some k) (r:Rep K G d v):v=kV k∧d=kD k:=by
 cases d with
 | int i=>
  cases e
  exact ⟨aI r,rfl⟩
 | str l=>
  cases e
  refine ⟨(aD r).1,?_⟩
  show D.str l=D.str (S l).cps.toList
  rw [cU]
 | _=>cases e
theorem dE:∀ {ds:List D} {ks:List Key} {xs:List V},fP ds=some ks→Reps K G ds xs→xs=ks.map kV∧ds=ks.map kD
 | [],_,_,e,r=>by
  cases e
  rw [Reps] at r
  exact ⟨r,rfl⟩
 | d :: ds,_,_,e,r=>by
  rw [fP,Option.bind_eq_some_iff] at e
  obtain ⟨k,e1,e⟩:=e
  rw [Option.map_eq_some_iff] at e
  obtain ⟨ks,e2,e3⟩:=e
  subst e3
  rw [Reps] at r
  obtain ⟨y,ys,e4,r1,r2⟩:=r
  obtain ⟨h1,h2⟩:=fe e1 r1
  obtain ⟨h3,h4⟩:=dE e2 r2
  rw [e4,h1,h2,h3,h4]
  exact ⟨rfl,rfl⟩
theorem cQ {d:D} {ks:List Key} {v:V} (e:cP d=some ks) (r:Rep K G d v):∃ p,v=.ref p∧G p=some (.tup (ks.map kV))∧d=kT ks:=by
 cases d with
 | tup ds=>
  obtain ⟨p,xs,ev,g,rs⟩:=oY r
  obtain ⟨h1,h2⟩:=dE e rs
  subst h1
  exact ⟨p,ev,g,by rw [h2];rfl⟩
 | _=>cases e
theorem i9 {α:Type} {f:α→D} {g:α→V}:∀ {l:List α},(∀ a∈l,Rep K G (f a) (g a))→Reps K G (l.map f) (l.map g)
 | [],_=>Reps.nil
 | a :: l,h=>.cons (h a List.mem_cons_self) (i9 fun b hb=>h b (List.mem_cons_of_mem _ hb))
end
noncomputable def sameKinds (k:List Key) (kss:List (List Key)):Bool:=!k.isEmpty && kss.all fun j=>kinds j == kinds k
noncomputable def um (ds:List D):Option (List D):=match bH ds with
 | some ns=>some ((pe ltI ns).map D.int)
 | none=>match k4 ds with
  | some ls=>some ((pe ltS ls).map D.str)
  | none=>match nQ ds with
   | some (k :: kss)=>if sameKinds k kss then some ((pe iP (k :: kss)).map kT) else none
   | _=>none
section
variable {X:Cx}
noncomputable def ltO (a b:D):Res R:=match cP a,cP b with
 | some ks,some js=>if kinds ks == kinds js then .ok (.f,.bl (iP ks js)) else .bad
 | _,_=>ltD a b
noncomputable def geO (a b:D):Res R:=match cP a,cP b with
 | some ks,some js=>if kinds ks == kinds js then .ok (.f,.bl (!iP ks js)) else .bad
 | _,_=>match a,b with
  | .str a,.str b=>.ok (.f,.bl (!decide (a < b)))
  | a,b=>geD a b
theorem rF (hu:X.A.units < cLine):OpR X (compareOp .Lt) (rG X.K ltO):=by
 rintro pins s σ H x y v u Q I rx ry ⟨G,fp,es,vs,a,b,r,⟨rel,k⟩,va,vb,e⟩
 unfold ltO at e
 split at e
 ·rename_i ks js h1 h2
  split at e
  ·rename_i hk
   cases e
   have ra:Rep X.K G a x:=by cases a <;> first | exact va | cases h1
   have rb:Rep X.K G b y:=by cases b <;> first | exact vb | cases h2
   obtain ⟨p,e1,g1,_⟩:=cQ h1 ra
   obtain ⟨p2,e2,g2,_⟩:=cQ h2 rb
   subst e1
   subst e2
   exact qW hu pins s σ H _ _ v u Q I rx ry ⟨p,p2,ks,js,rfl,rfl,SqT.of (rel.gh _ _ g1),SqT.of (rel.gh _ _ g2),beq_iff_eq.mp hk,k _ H G fp .refl (rel.push (bw _))⟩
  ·cases e
 ·exact ud pins s σ H x y v u Q I rx ry ⟨G,fp,es,vs,a,b,r,⟨rel,k⟩,va,vb,e⟩
end
noncomputable def eNewD (tk:Bool):FX:=fun env=>.ok ((.d,.dct tk [] []),env)
section
variable {md:Mode} {X:Cx}
noncomputable def ti (ks vs:List D) (k v:D):List D×List D:=if ks.any (eqD k) then (ks,(ks.zip vs).map fun p=>if eqD k p.1 then v else p.2) else (ks++[k],vs++[v])
noncomputable def eF (tk:Bool) (k:D):Bool:=if tk then (cP k).isSome else (k5 k).isSome
noncomputable def vX (i:Nat) (fk fv:FX):FS:=fun env=>(fv env).bind fun p=>(fk p.2).bind fun q=>match p.2[i]?,q.2[i]? with
 | some (some _),some (some (.d,.dct tk ks vs))=>if eF tk q.1.2 && decide (ks.length < sizeLine) then .ok (.nx (q.2.set i (some (.d,.dct tk (ti ks vs q.1.2 p.1.2).1 (ti ks vs q.1.2 p.1.2).2)))) else .bad
 | _,_=>.bad
theorem nR (a b:Key):eqD (kD a) (kD b)=decide (a=b):=by
 cases a with
 | inl i=>
  cases b with
  | inl j=>simp only [kD,eqD];rw [Bool.eq_iff_iff];simp
  | inr y=>simp only [kD,eqD];simp
 | inr x=>
  cases b with
  | inl j=>simp only [kD,eqD];simp
  | inr y=>
   simp only [kD,eqD]
   rw [Bool.eq_iff_iff]
   simp only [beq_iff_eq,decide_eq_true_eq,Sum.inr.injEq]
   exact ⟨fun h=>by rw [←ju x,←ju y,h],fun h=>by rw [h]⟩
theorem k6:∀ a b:List Key,dQ (a.map kD) (b.map kD)=decide (a=b)
 | [],[]=>by simp [dQ]
 | [],_ :: _=>by simp [dQ]
 | _ :: _,[]=>by simp [dQ]
 | a :: r,b :: t=>by
  rw [List.map_cons,List.map_cons,dQ,nR,k6 r t,Bool.eq_iff_iff]
  simp
theorem rH (a b:List Key):eqD (kT a) (kT b)=decide (a=b):=by
 unfold kT
 rw [eqD]
 exact k6 a b
end
end PV
namespace NX
open PySem PySem.Spec PyProof.Rows L2
section
variable {prog:Program} {w:World} {A:Around} {E:Value→Shared→Prop} {s:Shared} {d:Addr} {es:Array DictEntry} {ep:Nat}
theorem fQ (nm:(d == sysModules)=false):MeetsIn prog w (Builtin.«dict.__len__» ⟨[.ref d],[]⟩) (fun _ R s=>RawD s.heap d es ep∧R (.ok (.ret (.int es.size s.toks))) { s with toks:=s.toks + 1 }):=
 .of_wp fun A R s hq0=>by
  obtain ⟨⟨o,g,_,dat⟩,h⟩:=hq0
  show wpAny _ _ (dictSize d >>= fun _=>_) _ _ s
  unfold dictSize
  refine wpAny_bind (wpAny_bind (wpAny_dictEntries g dat (wpAny_pure ?_)))
  show wpAny _ _ (Builtin.Dict.pendingCount d >>= fun _=>_) _ _ s
  refine wpAny_bind (wpAny_pendingCount_other nm (wpAny_ret_mkInt ?_))
  rw [Nat.add_zero]
  exact h
theorem pf {Q:Value→Shared→Prop} (nm:(d == sysModules)=false) (x:RawD s.heap d es ep) (hf:(es.size:Int) < 2 ^ 63) (h:Q (.int es.size (s.toks + 1)) { s with toks:=s.toks + 1 + 1 }):wpAny (model prog w) A (call (.builtin "len") [.ref d]) Q E s:=by
 have ty:=ml x
 refine Calls.call_function_entry kind_len plain_len entry_len (args_len1 _) ?_
 unfold Builtin.«len»
 refine wpAny_bind (m:=oneArg "len" _) (wpAny_pure (wpAny_bind (m:=callSpecial? (.ref d) (Str.ofString "__len__")) (wpAny_callSpecial?_slot (name:=Str.ofString "__len__") ty F.slot_dict_len
  (call_meetsIn F.slot_dict_len ty F.entry_dict_len (F.args_dict_len_1 _) (fQ (es:=es) (ep:=ep) nm) ⟨x,?_⟩))))
 show wpAny _ _ _ _ _ { s with toks:=s.toks + 1 }
 refine wpAny_bind (wpAny_holding (wpAny_pure (wpAny_bind (wpAny_letGo ?_))))
 show wpAny _ _ (if ((es.size:Nat):Int) < 0 then _ else _) _ _ _
 rw [if_neg (Int.not_lt.mpr (Int.natCast_nonneg _))]
 show wpAny _ _ (if ((es.size:Nat):Int) ≥ 2 ^ 63 then _ else _) _ _ _
 rw [if_neg (Int.not_le.mpr hf)]
 exact wpAny_bind (wpAny_mkInt (wpAny_pure ⟨_,rfl,h⟩))
end
end NX
namespace PV
open PySem PySem.Spec PyProof.Rows L2 NX
section
variable {X:Cx}
noncomputable def jR:List D→Res R
 | [.dct _ ks _]=>.ok (.f,.int ks.length)
 | ds=>ug ds
theorem rJ {pins:List (Addr×Obj)} {σ:L2.St} {H:Hp} {s:Shared} (I:Inv X pins σ H s) {p:Addr} {o:HO} {tk:Bool} {ks:List D} {xs:List V} (rd:Rd H p o) (dd:DictO o tk ks xs):(p == sysModules)=false∧∃ es ep,RawD s.heap p es ep∧es.size=ks.length∧ks.length≤sizeLine:=by
 have ok:=rd.ok I.hok
 cases tk with
 | true=>
  obtain ⟨kvs,eo,ek,_⟩:=dd
  subst eo
  obtain ⟨z,nm,ws,r,o2,es,ep,h1,h2,h3,h4,_⟩:=ok
  refine ⟨nm,es,ep,⟨o2,h1,h2,h3⟩,?_,by rw [ek,List.length_map];exact z⟩
  have:=congrArg List.length h4
  rw [List.length_map,Array.length_toList,←Paired.length r] at this
  rw [ek,List.length_map]
  exact this
 | false=>
  obtain ⟨kvs,eo,ek,_⟩:=dd
  subst eo
  obtain ⟨z,nm,ws,r,o2,es,ep,h1,h2,h3,h4,h5,_⟩:=ok
  refine ⟨nm,es,ep,⟨o2,h1,h2,h3⟩,?_,by rw [ek,List.length_map];exact z⟩
  have l1:=h5.length
  have l2:kvs.length=ws.length:=Paired.length r
  rw [ek,List.length_map]
  rw [Array.length_toList] at l1
  lia
theorem fR:cN X (.builtin "len") (rC X.K jR):=by
 rintro pins s σ H xs us Q I rx ⟨G,fp,es,vs,ds,r,⟨rel,k⟩,vd,e⟩
 unfold jR at e
 split at e
 ·rename_i tk ks ws
  cases e
  obtain ⟨v,ev,p,ys,o,ep,rd,dd,_⟩:=lN vd
  subst ev
  subst ep
  obtain ⟨u,rfl,ru⟩:=hX rx
  cases ru
  obtain ⟨nm,en,ep,raw,h1,h2⟩:=rJ I rd dd
  refine pf nm raw (by rw [h1];rw [sizeLine_eq] at h2;lia) ?_
  refine ⟨.int ks.length,H,I.tok _,⟨_,by rw [h1]⟩,k _ H G fp .refl (rel.push (ba _))⟩
 ·exact rp pins s σ H xs us Q I rx ⟨G,fp,es,vs,_,r,⟨rel,k⟩,vd,e⟩
noncomputable def vY (g:List Nat→List D→Res R) (fa:FO) (fs:FOs):FX:=fun env=>(fa env).bind fun p=>match der p.2 p.1 with
 | .ok (.str l)=>(fs p.2).bind fun q=>(hJ q.2 q.1).bind fun ds=>(g l ds).bind fun r=>.ok (r,q.2)
 | _=>.bad
end
theorem fnok_of {P:Program} {w:World} {K:W.Frag} {mg:Str→Option Value} {base:Heap} {x:Str} {st:Stmt} {N ps:List Str} {k:Nat} {g:FS} {f:Addr} {fd:FuncData} (F:Fun K x x st f fd) (sc:FnScope N ps (defScope st))
  (body:∀ (cdv:Value) (A:Around) (outer:List PySem.Env) (s:Shared) (H:Hp) (E:XK),Room k (A.deeper (envOfC x (defScope st) s.heap.objs.size f cdv))→QSs (md:=.plain) (lZ CX0 P w K mg base N x (defScope st) f cdv A outer s H E).nox (bj st) g) :
  FnOk P w K mg base CX0 (k + 1) f fd ps (spF K (fBody ps.length (N.length - ps.length) g)):=by
 refine F.ok sc (fun vs H Q E h=>?_) (fun cdv A outer s H vs Q E hr h=>?_)
 ·obtain ⟨G,ds,r,_,rs,e,_⟩:=h
  unfold fBody at e
  split at e
  ·rename_i hl
   rw [rs.length,hl]
  ·cases e
 ·obtain ⟨G,ds,r,gh,rs,e,q⟩:=h
  unfold fBody at e
  split at e
  ·rename_i hl
   refine ⟨_,body cdv A outer s H E hr,G,ds.map (fun d=>some (O.f,d))++List.replicate (N.length - ps.length) none,[],⟨?_,List.nodup_nil,(fun _ h=>nomatch h),gh⟩,?_⟩
   ·have:=cX (K:=K) (G:=G) (H:=H) (N.length - ps.length) rs
    unfold L2.dW
    rw [rs.length,hl]
    exact this
   ·obtain ⟨o,eo,e⟩:=ab e
    rw [eo]
    cases o with
    | rt r'=>
     cases e
     exact fun v H' G' fp' st rel=>q v H' G' fp' st rel
    | nx env'=>
     cases e
     exact fun σ' H' G' fp' st rel=>q .non H' G' [] (st.trans (Step.cut fun _ h=>nomatch h)) (rel.nilF.push ib)
    | bk env'=>cases e
    | ct env'=>cases e
  ·cases e
noncomputable def mF (K:W.Frag):Sp:=fun vs H Q _=>∃ (a:Addr) (ns:List Int),vs=[.ref a]∧SqL K H a (ns.map V.int)∧ns.length≤63∧∀ H',Q (.bl true) H'
theorem rK {K:W.Frag} {F:List D→Res R} (h:∀ ns:List Int,ns.length≤63→∃ o,F [.lst (ns.map D.int)]=.ok (o,.bl true)):∀ vs H Q E,mF K vs H Q E→spF K F vs H Q E:=by
 rintro vs H Q E ⟨a,ns,rfl,sq,hl,q⟩
 obtain ⟨o,e⟩:=h ns hl
 refine ⟨H,_,_,.refl _,?_,e,fun v H' G' fp' st rel=>?_⟩
 ·refine .one ?_
  rw [Rep]
  exact ⟨a,_,rfl,sq,i9 fun n _=>ba n⟩
 ·rw [bu rel.top]
  exact q H'
theorem _root_.L2.Room.u65 {k:Nat} {A:Around} (r:Room k A):A.units + 65 < cLine:=by have:=r.un;lia
noncomputable def vZ (f:FX) (a:FG):FS:=fun env=>(f env).bind fun p=>(a p.1.2 p.2).bind fun e=>.ok (.nx e)
theorem v3 {l:PySem.W.OpenLaw} {q:Program} {loose:List Str} {XP:(Str→Option Value)→Heap→Prop} {YP:World→Heap→Prop} {d:DefRec} {K:Params→W.Frag} {k:Nat} {x:Str} (hn:l.most=some 63) (hdf:d.params.defaults=[]) (hr:Room k PySem.callerA)
  (hY:∀ (w:World) (h:Heap),YP w h→(K w.params).In h)
  (F:∀ (w:World) (mg:Str→Option Value) (fa:Addr) (h:Heap),(K w.params).In h→h.Ns mainGlobals mg→mg d.name=some (.ref fa)→
   ∃ fd:FuncData,(∀ (s:Shared) (u:Value),BindsTo s fd ⟨[u],[]⟩ [(x,u)])∧∀ base:Heap,(K w.params).In base→base.Ns mainGlobals mg→FnOk l.prog w (K w.params) mg base CX0 k fa fd [x] (mF (K w.params))) :
  PySem.W.WalkO q loose XP YP l.row.toRowW d [] (fun f vs=>PySem.call f vs):=
 L2.oK (n:=63) (k:=k) (x:=x) (CX:=fun _=>CX0) (sp:=fun w=>mF (K w.params)) hn (by decide) hdf hr hY F (fun _ _ a ns hl _ hS=>⟨a,ns,rfl,hS,hl,fun _=>rfl⟩) fun _ _ _ _ _ z=>z
theorem k7:bootBuiltins "sum" = some (.builtin "sum"):=by decide +kernel
theorem cI {K:W.Frag} {h:Heap} {mg:Str→Option Value} {x:Str} {st:Stmt} {f:Addr} {oc:Value} {od an:Option Addr} {osl:Array (Option Value)} {kV doc pm cdv ct:Value} (X:K.In h) (G:h.Ns mainGlobals mg)
  (a:PySem.W.nsIn K mainGlobals x=some (some (.ref f))) (l:K.lookup f=some ⟨oc,od,.func (PySem.W.fnOf x x (bU st) (bj st) (defScope st) .none kV doc pm an cdv ct),osl⟩)
  (c:PySem.W.codeIn K cdv x=true) (k:PySem.W.keepIn K (.ref f)=true):Def K mg x st:=⟨f,_,nr l c k,PySem.W.mg_of X G a⟩
inductive tQL (K:W.Frag) (f:FI) (σ:L2.St) (H:Hp) (R:It→Hp→Prop):Prop
 | mk:∀ G env fp ds env',Rel K G H env σ fp→f env=.ok (ds,env')→(∀ J H' G' fp',Step G H fp G' H' fp'→Rel K G' H' env' σ fp'→(∀ G2,Same G' G2→(∀ (i:Nat) (r:PV.R) (v:V),env'[i]?=some (some r)→σ[i]?=some (some v)→Rep K G2 r.2 v)→Walk K G2 J ds)→R J H')→tQL K f σ H R
def QIL (X:Cx) (tg e:Expr) (f:FI):Prop:=PI X tg e (tQL X.K f)
theorem Walk.mono {K:W.Frag} {G G2:Hp} {J:It} {ds:List D} (w:Walk K G J ds) (gg:Same G G2):Walk K G2 J ds:=fun G' H' es vs fp g rel=>w G' H' es vs fp (gg.trans g) rel
theorem k8 {K:W.Frag} {fi:FI} {ix:List (Option Nat)} {a:FG} {c:FT} {f:FX} {σ:L2.St} {H:Hp} {Q:VK} (h:tQ K (ej fi ix a c f) σ H Q):kj (tQL K fi) ix (tQG K a) (tQT K c) (tQ K f) σ H Q:=by
 obtain ⟨G,env,fp,r,env',rel,e,k⟩:=h
 obtain ⟨⟨ds,env1⟩,e1,e⟩:=ab e
 obtain ⟨rs,e2,e⟩:=ab e
 refine ⟨G,env,fp,ds,env1,rel,e1,fun J H1 G1 fp1 st1 rel1 wk D hD=>?_⟩
 dsimp only at e e2
 split at e
 ·rename_i hz
  have er:r=(.l .f,.lst rs):=by cases e;rfl
  have ee:env'=if flatDs rs then env1 else env1.map frz:=by cases e;rfl
  subst er
  obtain ⟨G2,g12,g2h,hrep,hrE,hback⟩:=rel1.lend
  have wk2:=wk G2 g12 hrep
  have rel2:Rel K G2 H1 (aT ix env1) (cj ix σ) []:=⟨bP hrep (fun i r er=>let ⟨v,ev,_⟩:=rel1.view er;⟨v,ev⟩) ix,List.nodup_nil,(fun _ h=>nomatch h),g2h⟩
  obtain ⟨rel3,st3⟩:=rel2.newL (ds:=[]) (xs:=[]) hD .nil
  refine ⟨fun i m σ1 H2=>m=ds.length - i∧i≤ds.length∧∃ G' es fp' acc bG,Step G2 H1 [] G' H2 fp'∧Rel K G' H2 (some (.l .f,.lst acc) :: es) (some (.ref D) :: σ1) fp'∧cq a c f (ds.drop i) es=.ok bG∧acc++bG=rs,
   ⟨_,rfl,Nat.zero_le _,G2,aT ix env1,_,[],rs,st3,rel3,e2,rfl⟩,?_⟩
  rintro i m σ1 H2 ⟨rfl,hi,G3,es,fp3,acc,bG,st4,rel4,e4,eacc⟩
  obtain ⟨w1,w2⟩:=wk2 G3 H2 _ _ _ st4.gg rel4 i
  by_cases hlt:i < ds.length
  ·have hd:ds[i]?=some ds[i]:=List.getElem?_eq_getElem hlt
   obtain ⟨go,yl⟩:=w1 _ hd
   rw [List.drop_eq_getElem_cons hlt] at e4
   unfold cq at e4
   obtain ⟨es1,h1,e4⟩:=ab e4
   obtain ⟨⟨b,es2⟩,h2,e4⟩:=ab e4
   dsimp only at e4
   refine .inr ⟨go,fun x H3 y=>?_⟩
   obtain ⟨G4,rx,rel5,st5⟩:=yl x H3 y
   obtain ⟨fa,fb,efp,ra,relb,bk⟩:=rel5.frame
   refine ⟨G4,es,fb,ds[i],es1,relb,rx,h1,fun σ2 G5 fp5 st6 rel6=>?_⟩
   refine ⟨G5,es1,fp5,b,es2,rel6,h2,fun H6 G6 fp6 st7 rel7=>?_⟩
   have st67:=st6.trans st7
   cases b with
   | false=>
    refine iteF ⟨ds.length - (i + 1),by lia,rfl,hlt,?_⟩
    obtain ⟨relz,stz⟩:=bk G6 H6 es2 σ2 fp6 st67 rel7
    rw [←efp] at stz
    exact ⟨G6,es2,_,acc,bG,st4.trans (st5.trans stz),relz,e4,eacc⟩
   | true=>
    have e4:((f es2).bind fun q=>(cq a c f (ds.drop (i + 1)) q.2).bind fun rs=>.ok (q.1.2 :: rs))=.ok bG:=e4
    obtain ⟨⟨r,es3⟩,h3,e4⟩:=ab e4
    obtain ⟨rest',h4,e4⟩:=ab e4
    cases e4
    refine qI ⟨G6,es2,fp6,r,es3,rel7,h3,fun v H7 G7 fp7 st8 rel8=>?_⟩
    obtain ⟨G8,fp8,rv,rel9,st9⟩:=rel8.freeze
    obtain ⟨relz,stz⟩:=bk G8 H7 es3 σ2 fp8 (st67.trans (st8.trans st9)) rel9
    rw [←efp] at stz
    obtain ⟨p,xs,ep,hp,rxs,cg⟩:=relz.chg (i:=0) (ds:=acc) (ds':=acc++[r.2]) rfl
    have ep:some (some (V.ref D))=some (some (V.ref p)):=ep
    cases ep
    obtain ⟨fq,rely,sty⟩:=cg (xs++[v]) (rxs.app (.one rv))
    refine ⟨xs,hp,?_,ds.length - (i + 1),by lia,rfl,hlt,G8,es3,fq,acc++[r.2],rest',st4.trans (st5.trans (stz.trans sty)),rely,h4,?_⟩
    ·rw [rxs.length]
     have:=congrArg List.length eacc
     rw [List.length_append,List.length_cons] at this
     lia
    ·rw [←eacc,List.append_assoc]
     rfl
  ·have ei:i=ds.length:=by lia
   subst ei
   rw [List.drop_length] at e4
   cases e4
   rw [List.append_nil] at eacc
   subst eacc
   refine .inl ⟨w2 rfl,?_⟩
   obtain ⟨fa,relo,sto⟩:=rel4.only
   obtain ⟨k1,k2⟩:=hback H2 G3 fa _ _ (st4.trans sto) relo
   rw [ee] at k
   by_cases hc:flatDs acc=true
   ·rw [if_pos hc] at k
    obtain ⟨G5,fp5,st5,rel5⟩:=k1 (by rw [ay,cY];exact hc)
    exact k _ H2 G5 fp5 (st1.trans st5) rel5
   ·rw [if_neg hc] at k
    obtain ⟨G5,fp5,st5,rel5⟩:=k2
    exact k _ H2 G5 fp5 (st1.trans st5) rel5
 ·cases e
section
variable {md:Mode} {X:Cx} {scope:Scope} {N:List Str} {tg iter elt:Expr} {ifs:List Expr} {pos:Pos} {fi:FI} {a:FG} {c:FT} {f:FX}
variable {l e:Expr} {g fj:FI}
theorem fg (h:QI X tg e fi):QIL X tg e fi:=eg h fun σ H R ⟨G,env,fp,ds,env',rel,e,k⟩=>⟨G,env,fp,ds,env',rel,e,fun J H' G' fp' st rel' wk=>k J H' G' fp' st rel' fun _ gg _=>wk.mono gg⟩
theorem nS (h:QIL X tg e fi) (h2:QIL X tg e fj):QIL X tg e (or2 fi fj):=fun pins s σ H R I hq0=>by
 obtain ⟨G,env,fp,ds,env',rel,ee,k⟩:=hq0
 rcases nP ee with z | z
 ·exact h pins s σ H R I ⟨G,env,fp,ds,env',rel,z,k⟩
 ·exact h2 pins s σ H R I ⟨G,env,fp,ds,env',rel,z,k⟩
noncomputable def k9 (i:Nat):FI:=fun env=>match env[i]? with
 | some (some (_,.lst ds))=>.ok (ds,env)
 | _=>.bad
theorem pg {i:Nat} (h:PE X l (lS i)):QIL X tg l (k9 i):=eg (jW h) fun σ H R hq0=>by
 obtain ⟨G,env,fp,ds,env',rel,e,k⟩:=hq0
 unfold k9 at e
 split at e
 ·rename_i o ds hr
  cases e
  obtain ⟨v,ev,rv⟩:=rel.view hr
  obtain ⟨p,xs,evp,sq,rs⟩:=aF rv
  refine ⟨v,ev,p,evp,⟨xs,sq⟩,k _ H G fp .refl rel fun G2 gg hrep=>?_⟩
  obtain ⟨p',xs',evp',sq',rs'⟩:=aF (hrep i _ v hr ev)
  rw [evp] at evp'
  cases evp'
  exact gL sq' rs'
 ·cases e
theorem fS (ix:List (Option Nat)) (N:List Str) (hc:X.calm=true) (hi:QIL X tg iter fi) (hg:∀ C s H fp pn,QG (ax X scope N C s H fp pn) tg a) (ht:∀ C s H fp pn,QTs (ax X scope N C s H fp pn) ifs c) (he:∀ C s H fp pn,QE (ax X scope N C s H fp pn) elt f)
  (hf:bB scope X.env=true:=by rfl) (hk:scope.kind=.function:=by rfl) (hcell:∀ y∈scope.names,y.2≠.cell:=by decide +kernel) (hnames:∀ y∈scope.names,y.2=.local→scope.names.lookup y.1=some .local:=by decide +kernel) (hix:g8 X scope N ix=true:=by rfl)
  (hs:∀ x,foldedSetIterable iter X.env x=pure x:=by intro _;rfl):QE X (.ListComp elt [⟨tg,iter,ifs,0⟩] scope pos) (ej fi ix a c f):=
 aP (kl (g:=tQG X.K a) (tc:=tQT X.K c) (te:=tQ X.K f) ix N hc hi hg ht he hf hk hcell hnames hix hs) fun _ _ _=>k8
theorem mG {i:Nat} {y:Str} {py spos:Pos} (ix:List (Option Nat)) (N:List Str) (hN:X.N.Nodup) (hiy:X.N[i]?=some y) (hy:Loc X.env.scope y) (hc:X.calm=true) (hi:QIL X tg iter fi) (hg:∀ C s H fp pn,QG (ax X scope N C s H fp pn) tg a) (ht:∀ C s H fp pn,QTs (ax X scope N C s H fp pn) ifs c)
  (he:∀ C s H fp pn,QE (ax X scope N C s H fp pn) elt f) (hsw:swapsWith (.ListComp elt [⟨tg,iter,ifs,0⟩] scope pos) (some (.Name y py)) spos.line X.env=pure true:=by rfl)
  (hf:bB scope X.env=true:=by rfl) (hk:scope.kind=.function:=by rfl) (hcell:∀ y∈scope.names,y.2≠.cell:=by decide +kernel) (hnames:∀ y∈scope.names,y.2=.local→scope.names.lookup y.1=some .local:=by decide +kernel) (hix:g8 X scope N ix=true:=by rfl)
  (hs:∀ x,foldedSetIterable iter X.env x=pure x:=by intro _;rfl) (hfn:X.fn y=true∨X.env.scope.names.lookup y=some .local:=by first | exact .inl rfl | exact .inr rfl) :
  QS (md:=md) X (.Assign [.Name y py] (.ListComp elt [⟨tg,iter,ifs,0⟩] scope pos) spos) (dI i (ej fi ix a c f)):=
 cH (km (i:=i) (g:=tQG X.K a) (tc:=tQT X.K c) (te:=tQ X.K f) ix N hN hiy hy hc hi hg ht he hsw hf hk hcell hnames hix hs hfn) fun D σ H ⟨G,env,fp,rel,k⟩=>k8 (ie rel k)
end
section
variable {X:Cx} {a:Expr} {pos:Pos} {fa:FO}
noncomputable def v5 (fa:FO):FX:=fun env=>(fa env).bind fun p=>(der p.2 p.1).bind fun d=>match d with
 | .int i=>.ok ((.f,.int (-i)),p.2)
 | _=>.bad
theorem la {i:Int} (h:i.natAbs < 2 ^ 1000):Builtin.Int.intBits i≤2 ^ 20:=by
 unfold Builtin.Int.intBits
 split
 ·exact Nat.zero_le _
 ·rename_i h0
  have h1:i.natAbs≠0:=by
   intro e
   rw [Int.natAbs_eq_zero] at e
   exact h0 (by rw [e];rfl)
  have:=(Nat.log2_lt h1).mpr h
  have e:(2:Nat) ^ 20=1048576:=by decide
  lia
theorem ph:OpR X (binaryOp .Mult) (rI (fun i j=>i.natAbs < 2 ^ 1000∧j.natAbs < 2 ^ 1000) fun i j=>.int (i * j)):=opI fun _ _ _ _ _ _ _ hc q=>mul_int q (.of_bits (la hc.1) (la hc.2))
theorem gO {α:Type}:∀ (ls:List (Array α)) (acc:Array α),(ls.foldl (·++·) acc).toList=acc.toList++(ls.map Array.toList).flatten
 | [],acc=>by simp
 | a :: ls,acc=>by
  rw [List.foldl_cons,gO ls,Array.toList_append,List.map_cons,List.flatten_cons,List.append_assoc]
theorem uo (l:List Nat) (n:Nat):(⟨(List.replicate n (S l).cps).foldl (·++·) #[]⟩:Str)=S (List.replicate n l).flatten:=by
 have h:((List.replicate n (S l).cps).foldl (·++·) #[]).toList=(List.replicate n l).flatten:=by
  rw [gO,List.map_replicate]
  simp only [cU,List.nil_append]
 show Str.mk _=Str.mk _
 rw [←h]
theorem pj (a b:Int):uc (.int a) (.int b)=if cZ a || cZ b then .ok (.f,.int (a * b)) else .bad:=rfl
noncomputable def rL:D→D→Res R
 | .int i,.int j=>if cZ i || cZ j then .ok (.f,.int (i * j)) else if i.natAbs < 2 ^ 1000∧j.natAbs < 2 ^ 1000 then .ok (.f,.int (i * j)) else .bad
 | .str l,.int k=>if 2≤k∧k≤1000∧1≤l.length∧l.length≤1000 then .ok (.f,.str (List.replicate k.toNat l).flatten) else .bad
 | _,_=>.bad
theorem pk:OpR X (binaryOp .Mult) (rG X.K rL):=by
 rintro pins s σ H x y v u Q I rx ry ⟨G,fp,es,vs,a,b,r,⟨rel,k⟩,va,vb,e⟩
 unfold rL at e
 split at e
 ·rename_i i j
  split at e
  ·rename_i hc
   exact rj pins s σ H x y v u Q I rx ry ⟨G,fp,es,vs,.int i,.int j,r,⟨rel,k⟩,va,vb,by rw [pj,if_pos hc];exact e⟩
  ·split at e
   ·rename_i hc
    cases e
    cases aQ va
    cases aQ vb
    exact ph pins s σ H _ _ v u Q I rx ry ⟨i,j,rfl,rfl,hc,k _ H G fp .refl (rel.push (ba _))⟩
   ·cases e
 ·rename_i l j
  split at e
  ·rename_i hc
   cases e
   obtain ⟨ev,hl⟩:=dC va
   subst ev
   cases aQ vb
   obtain ⟨t,rfl⟩:=rx
   obtain ⟨t',rfl⟩:=ry
   have hlen:(S l).length=l.length:=gF l
   have hz:(List.replicate j.toNat l).flatten.length≤1000000:=by
    rw [cO]
    exact Nat.mul_le_mul (by lia:j.toNat≤1000) hc.2.2.2
   have hz2:(List.replicate j.toNat l).flatten.length≤sizeLine:=Nat.le_trans hz (by decide)
   refine PySem.P.mul_str ?_ ?_ ?_ ?_
   ·rw [decide_eq_false (by lia),decide_eq_false (by lia)];rfl
   ·intro _ _
    rw [hlen]
    have h1:1000≤(2 ^ 63 - 1) / j:=(Int.le_ediv_iff_mul_le (by lia)).mpr (by lia)
    lia
   ·intro _ _
    unfold Builtin.Str.tooLong
    rw [decide_eq_false_iff_not,hlen,Nat.mul_comm,←cO]
    lia
   ·rw [if_neg (by lia),if_neg (by rw [hlen,Bool.or_eq_true,beq_iff_eq,beq_iff_eq];lia),uo]
    refine ⟨?_,?_⟩
    ·rw [gF]
     exact hz2
    ·exact ⟨.str (S (List.replicate j.toNat l).flatten),H,I.tok _,⟨_,rfl⟩,k _ H G fp .refl (rel.push (d9 hz2))⟩
  ·cases e
 ·cases e
end
end PV
namespace HT
open PySem PySem.Spec PyProof.Rows L2
variable {prog:Program} {w:World} {A:Around} {E:Value→Shared→Prop} {s:Shared}
theorem c7 {t sl:Addr} {items:Array Value} {vl vu:Value} {lo hi:Option Int} {Q:Value→Shared→Prop} (ht:IsTup s.heap t items) (hs:s.heap.IsSliceOf sl vl vu .none) (pl:IsPart vl lo) (pu:IsPart vu hi)
  (hw:sIx items.size 0 lo=0∧sIx items.size items.size hi=items.size) (h:Q (.ref t) s):wpAny (model prog w) A (getItem (.ref t) (.ref sl)) Q E s:=by
 obtain ⟨os,hos,hcs,hds⟩:=id hs
 have hTs:s.TypeIs (.ref sl) "slice":=⟨os,hos,hcs⟩
 unfold getItem
 try with_reducible refine wpAny_holding ?_
 first | refine wpAny_bind (wpAny_pure ?_) | skip
 refine wpAny_bind (wpAny_sequenceKey ht.typeIs (by decide) ?_)
 refine wpAny_bind (wpAny_callSpecial?_slot (name:=Str.ofString "__getitem__") ht.typeIs PyProof.Rows.slot_tuple_getitem
  (wpAny_call_entry PyProof.Rows.slot_tuple_getitem ht.typeIs entry_tuple_getitem ?_ (args_tuple_getitem _ _)))
 show wpAny _ _ (Builtin.Tuple.tupleItemsOf (.ref t) >>= _) _ _ s
 refine wpAny_bind (tupleItemsOf_ ht ?_)
 refine wpAny_bind (wpAny_typeOf hTs ?_)
 rw [if_pos (by decide)]
 refine wpAny_bind (b8 hs pl pu ?_)
 have hyes:(((sIx items.size 0 lo:Nat):Int) == 0 && (1:Int) == 1 && (sIx items.size items.size hi - sIx items.size 0 lo) == items.size)=true:=by
  rw [hw.1,hw.2]
  simp
 show wpAny _ _ (if (((sIx items.size 0 lo:Nat):Int) == 0 && (1:Int) == 1 && (sIx items.size items.size hi - sIx items.size 0 lo) == items.size)=true then _ else _) _ _ s
 rw [if_pos hyes]
 refine wpAny_bind (m:=Builtin.Tuple.tupleIsExact _) ?_
 unfold Builtin.Tuple.tupleIsExact
 refine wpAny_bind (wpAny_typeOf ht.typeIs (wpAny_pure ?_))
 rw [if_pos (by decide)]
 exact wpAny_bind (wpAny_rule (wpAny_pure ⟨_,rfl,wpAny_pure h⟩))
end HT
namespace PV
open PySem PySem.Spec PyProof.Rows L2 NX
section
variable {X:Cx} {pos:Pos} {fa:FO}
theorem pq:SlR X (fun x lo hi H Q=>∃ a xs,x=.ref a∧SqT X.K H a xs∧(HT.sIx xs.length 0 lo=0∧HT.sIx xs.length xs.length hi=xs.length)∧Q x H):=by
 intro pins s σ H x v vl vu lo hi sl Q I rx hs pl pu h
 obtain ⟨a,xs,rfl,hx,hw,q⟩:=h
 cases rx
 obtain ⟨its,r,ht,hz⟩:=I.tuple hx
 have hlen:its.toArray.size=xs.length:=by rw [List.size_toArray];exact r.length.symm
 refine ⟨"tuple",_,PyProof.Rows.slot_tuple_getitem.lookup,ht.typeIs,?_⟩
 exact HT.c7 ht hs pl pu (by rw [hlen];exact hw) ⟨.ref a,H,I,rfl,q⟩
noncomputable def slO (k:D) (lo hi:Option Int):Res R:=match k with
 | .tup ds=>if HT.sIx ds.length 0 lo=0∧HT.sIx ds.length ds.length hi=ds.length then .ok (.f,.tup ds) else slD k lo hi
 | _=>slD k lo hi
noncomputable def rM (fa:FO) (lo hi:FP):FX:=fun env=>(fa env).bind fun p=>(lo p.2).bind fun q=>(hi q.2).bind fun t=>(der t.2 p.1).bind fun d=>(slO d q.1 t.1).bind fun r=>.ok (r,t.2)
inductive rSlW (K:W.Frag) (x:V) (lo:Option Int) (hi:Option Int) (H:Hp) (Q:VK):Prop
 | mk:∀ G fp es vs d r,Goes K H G fp es vs r Q→Vw K G H d x→slO d lo hi=.ok r→rSlW K x lo hi H Q
theorem rN:SlR X (rSlW X.K):=by
 rintro pins s σ H x v vl vu lo hi sl Q I rx hs pl pu ⟨G,fp,es,vs,d,r,⟨rel,k⟩,vd,e⟩
 unfold slO at e
 split at e
 ·rename_i ds
  split at e
  ·rename_i hw
   cases e
   obtain ⟨p,xs,ev,sq,rs⟩:=ck vd
   subst ev
   refine pq pins s σ H _ v vl vu lo hi sl Q I rx hs pl pu ⟨p,xs,rfl,aB rel.gh sq,by rw [rs.length];exact hw,?_⟩
   exact k _ H G fp .refl (rel.push vd)
  ·exact rm pins s σ H x v vl vu lo hi sl Q I rx hs pl pu ⟨G,fp,es,vs,_,r,⟨rel,k⟩,vd,e⟩
 ·exact rm pins s σ H x v vl vu lo hi sl Q I rx hs pl pu ⟨G,fp,es,vs,_,r,⟨rel,k⟩,vd,e⟩
theorem lb {e:Expr} {lo hi:Option Expr} {p2:Pos} {fl fh:FP} (he:QO X e fa) (hl:QP X lo fl) (hh:QP X hi fh):QE X (.Subscript e (.Slice lo hi none p2) pos) (rM fa fl fh):=
 aP (l7 rN he hl hh) fun σ H Q hq0=>by
  obtain ⟨G,env,fp,r,env',rel,e,k⟩:=hq0
  obtain ⟨⟨o,env1⟩,e1,e⟩:=ab e
  obtain ⟨⟨i,env2⟩,e2,e⟩:=ab e
  obtain ⟨⟨j,env3⟩,e3,e⟩:=ab e
  obtain ⟨d,e4,e⟩:=ab e
  obtain ⟨r',e5,e⟩:=ab e
  cases e
  exact ⟨G,env,fp,o,env1,rel,e1,fun v H1 G1 fp1 st1 rel1 ok1=>⟨G1,env1,fp1,i,env2,rel1,e2,fun H2 G2 fp2 st2 rel2=>⟨G2,env2,fp2,j,env3,rel2,e3,fun H3 G3 fp3 st3 rel3=>
   ⟨G3,fp3,env3,σ,d,r,⟨rel3,fun v H' G' fp' st rel'=>k v H' G' fp' (st1.trans (st2.trans (st3.trans st))) rel'⟩,rel3.vw ((ok1.mono st2.gg).mono st3.gg) e4,e5⟩⟩⟩⟩
end
end PV
namespace L2
open PySem PySem.Spec PyProof.Rows
section
variable {X:Cx} {tg:Expr}
def ja (i j c:Int):Prop:=(-1048576≤i∧i≤1048576)∧(-1048576≤j∧j≤1048576)∧(c = -1∨1≤c)∧c≤1048576
instance (i j c:Int):Decidable (ja i j c):=by unfold ja;infer_instance
end
end L2
namespace PV
open PySem PySem.Spec PyProof.Rows L2 NX
section
variable {X:Cx} {tg:Expr}
noncomputable def v7:List D→Res R
 | [d]=>match (gu d).bind bH with
  | some (n :: ns)=>.ok (.f,.int (t9 (n :: ns)))
  | _=>.bad
 | [.int i,.int j]=>.ok (.f,.int (if j < i then j else i))
 | _=>.bad
noncomputable def v9:List D→Res R
 | [.int i]=>.ok (.f,.int (if i < 0 then -i else i))
 | _=>.bad
noncomputable def pw (fs:FOs):FI:=fun env=>(fs env).bind fun p=>(hJ p.2 p.1).bind fun d=>match d with
 | [.int i,.int j,.int c]=>if ja i j c then .ok ((List.range (Builtin.Range.rangeSize i j c).toNat).map fun (k:Nat)=>D.int (i + (k:Int) * c),p.2) else .bad
 | _=>.bad
end
end PV
namespace NX
open PySem PySem.Spec PyProof.Rows L2
section
open PySem.SeqAt
open PySem.AutoSeq1 (wpAny_loadPart')
end
end NX
namespace L2
open PySem PySem.Spec PyProof.Rows
section
variable {X:Cx} {o e:Expr} {es:List Expr} {to:TE} {t:TA} {name:Str} {apos cpos:Pos} {id:String} {r:V→List V→Hp→VK→Prop}
end
end L2
namespace PV
open PySem PySem.Spec PyProof.Rows L2 NX
section
variable {X:Cx}
noncomputable def wa (g:List D→List D→Res R) (fa:FO) (fs:FOs):FX:=fun env=>(fa env).bind fun p=>(der p.2 p.1).bind fun a=>match a with
 | .tup _=>(fs p.2).bind fun q=>(der q.2 p.1).bind fun a2=>match a2 with
  | .tup l=>(hJ q.2 q.1).bind fun ds=>(g l ds).bind fun r=>.ok (r,q.2)
  | _=>.bad
 | _=>.bad
noncomputable def wb (l:List D):List D→Res R
 | [.str c]=>match k4 l with
  | some bs=>if c∈bs then .ok (.f,.int (bs.idxOf c:Nat)) else .bad
  | none=>.bad
 | _=>.bad
noncomputable def mH (a b:D):Res R:=match a,b with
 | .tup [],.tup l=>.ok (.f,.tup l)
 | a,b=>addD a b
theorem du:OpR X (binaryOp .Add) (rG X.K mH):=by
 rintro pins s σ H x y v u Q I rx ry ⟨G,fp,es,vs,a,b,r,⟨rel,k⟩,va,vb,e⟩
 unfold mH at e
 split at e
 ·rename_i l
  cases e
  obtain ⟨p,xs,e1,h1,r1⟩:=ck va
  obtain ⟨p2,xs2,e2,h2,r2⟩:=ck vb
  subst e1
  subst e2
  cases rx
  cases ry
  have hx:xs=[]:=List.eq_nil_of_length_eq_zero (by rw [r1.length];rfl)
  subst hx
  obtain ⟨its,v1,⟨⟨cls,dd,data,sl⟩,ho,hc,n,hd⟩,_⟩:=I.tuple (aB rel.gh h1)
  obtain ⟨its2,v2,⟨⟨cls2,dd2,data2,sl2⟩,ho2,hc2,n2,hd2⟩,_⟩:=I.tuple (aB rel.gh h2)
  dsimp only at hc hd hc2 hd2
  subst hc hd hc2 hd2
  cases v1
  exact concat_meets ⟨_,ho,rfl⟩ ⟨_,ho2,rfl⟩ noFill_tuple_add seq_tuple_add PySem.F.slot_tuple_add PySem.F.entry_tuple_add (PySem.F.args_tuple_add_2 _ _) (tuple_addW0 p p2 _ _ n n2 dd dd2 sl sl2 rfl) ⟨ho,ho2,⟨.ref p2,H,I,rfl,k _ H G fp .refl (rel.push vb)⟩⟩
 ·exact rh pins s σ H _ _ v u Q I rx ry ⟨G,fp,es,vs,a,b,r,⟨rel,k⟩,va,vb,e⟩
noncomputable def iu (fs:FOs):FI:=or2 (jD true true fs) (or2 (jD true false fs) (or2 (jD false true fs) (jD false false fs)))
theorem iw {tgs:List Expr} {kt:Nat} {pt:Pos} {e1 e2:Expr} {fs:FOs} {p pos:Pos} (hg:Gl X "zip") (hm:X.mg "zip" = none) (ha:QOs X [e1,e2] fs) (he:starEach [e1,e2] X.env=(false,eval e1 X.env) :: starEach [e2] X.env:=by rfl) (hpl:(backTo pos (starEach [e2] X.env)).any (·.1)=false:=by rfl) :
  QI X (.Tuple tgs kt pt) (.Call (.Name "zip" p) [e1,e2] [] pos) (iu fs):=kZ (i0 true true hg hm ha he hpl) (kZ (i0 true false hg hm ha he hpl) (kZ (i0 false true hg hm ha he hpl) (i0 false false hg hm ha he hpl)))
end
end PV
namespace NX
open PySem PySem.Spec PyProof.Rows L2
section
open PySem.AutoSeq1 (wpAny_loadPart')
theorem gP (l:Addr) (items:Array Value) (n:Nat) (dd:Option Addr) (sl:Array (Option Value)) (x:Int) (u:Tok) (h1:¬ (!Builtin.List.listFitsIndex x)=true) (h2:¬ items.size * x.toNat > (2 ^ 63 - 1) / 8) (h3:¬ Builtin.List.listTooLong (items.size * x.toNat)=true) (h4:(List.foldl (fun x1 x2=>x1++x2) #[] (List.replicate (if items.isEmpty=true then 0 else x.toNat) items)).size≤sizeLine) :
  Meets (Builtin.«list.__mul__» ⟨[.ref l,.int x u],[]⟩)
   (fun _ R s=>s.heap.get? l=some { cls:=.type "list",dict:=dd,data:=.seq items n,slots:=sl }∧R (.ok (.ret (.ref s.heap.objs.size))) { s with heap:=s.heap.push { cls:=.type "list",data:=.seq (List.foldl (fun x1 x2=>x1++x2) #[] (List.replicate (if items.isEmpty=true then 0 else x.toNat) items)) } }):=
 .of_wp fun prog w A R s h=>by
  obtain ⟨hp,g,d,tk,os⟩:=s;obtain ⟨hl,h⟩:=h
  wp_walk using wpAny_loadPart' hl
  rw [if_neg (by lia)]
  wp_walk
  exact ⟨_,rfl,h⟩
theorem gQ (a:Int) (t:Tok) (l:Addr) (T:String) (items:Array Value) (n:Nat) (dd:Option Addr) (sl:Array (Option Value)) :
  Meets (Builtin.«int.__rmul__» ⟨[.int a t,.ref l],[]⟩)
   (fun _ R s=>s.heap.get? l=some { cls:=.type "list",dict:=dd,data:=.seq items n,slots:=sl }∧R (.ok (.ret .notImplemented)) s):=
 .of_wp fun prog w A R s h=>by
  obtain ⟨hp,g,d,tk,os⟩:=s;obtain ⟨hl,h⟩:=h
  wp_walk using wpAny_loadPart' hl
  exact ⟨_,rfl,h⟩
end
end NX
namespace PV
open PySem PySem.Spec PyProof.Rows L2 NX
section
variable {md:Mode} {X:Cx}
inductive rRepS (K:W.Frag) (x:V) (y:V) (H:Hp) (Q:VK):Prop
 | mk:∀ l k xs,x=.ref l→y=.int k→SqL K H l xs→-(2 ^ 62)≤k→k < 2 ^ 62→xs.length * k.toNat≤sizeLine→(∀ p,H p=none→Q (.ref p) (upd H p (.lst (List.replicate k.toNat xs).flatten)))→rRepS K x y H Q
theorem px:OpR X (binaryOp .Mult) (rRepS X.K):=by
 intro pins s σ H x y v u Q I rx ry h
 obtain ⟨l,k,xs,rfl,rfl,hH,h1,h2,hz,q⟩:=h
 cases rx
 obtain ⟨t,rfl⟩:=ry
 obtain ⟨its,r,p1,_⟩:=I.list hH
 have hl:=r.length
 obtain ⟨⟨cls,dd,data,sl⟩,ho,hc,n,hd⟩:=id p1.isList
 simp only at hc hd
 subst hc hd
 have hlen:its.toArray.size * k.toNat≤sizeLine:=by rw [List.size_toArray,←hl];exact hz
 have hcap:¬ its.toArray.size * k.toNat > (2 ^ 63 - 1) / 8:=by
  have:(sizeLine:Nat)≤(2 ^ 63 - 1) / 8:=by decide
  lia
 have hfit:¬ (!Builtin.List.listFitsIndex k)=true:=by
  rw [fitsIndex_both (by lia) (by lia)]
  exact Bool.false_ne_true
 have hlong:¬ Builtin.List.listTooLong (its.toArray.size * k.toNat)=true:=by
  rw [ma hlen]
  exact Bool.false_ne_true
 have hnew:List.foldl (fun x1 x2=>x1++x2) #[] (List.replicate (if its.toArray.isEmpty=true then 0 else k.toNat) its.toArray)=(List.replicate k.toNat its).flatten.toArray:=by
  have f0:∀ m:Nat,List.foldl (fun x1 x2=>x1++x2) #[] (List.replicate m its.toArray)=(List.replicate m its).flatten.toArray:=fun m=>by
   have:=dY its m []
   rw [List.nil_append] at this
   exact this
  rw [f0]
  cases its with
  | nil=>simp
  | cons a r'=>rw [if_neg (by simp)]
 have hsz:(List.foldl (fun x1 x2=>x1++x2) #[] (List.replicate (if its.toArray.isEmpty=true then 0 else k.toNat) its.toArray)).size≤sizeLine:=by
  rw [hnew,List.size_toArray,cO,Nat.mul_comm]
  rw [List.size_toArray] at hlen
  exact hlen
 refine wpAny_binaryOp_repeat_ref (T:="list") (U:="int") (by decide) ⟨_,ho,rfl⟩ (fun s'=>typeIs_int s' k t) noFill_list_mul F.fills_int_mul F.slot_int_rmul repeat_list F.slot_int_index.lookup
  (call_meets F.slot_int_rmul (typeIs_int s k t) F.entry_int_rmul (F.args_int_rmul_2 _ _) (gQ k t l "" its.toArray n dd sl)
   ⟨ho,rfl,⟨_,ho,rfl⟩,call_meets F.slot_list_mul ⟨_,ho,rfl⟩ F.entry_list_mul (F.args_list_mul_2 _ _) (gP l its.toArray n dd sl k t hfit hcap hlong hsz) ⟨ho,?_⟩⟩)
 rw [hnew]
 exact ⟨.ref _,_,I.lnew (t':=s.toks) (r.rep k.toNat) (by rw [cO,Nat.mul_comm];exact hz),rfl,q _ I.fresh⟩
theorem fT {K:W.Frag} {G:Hp} {ds:List D} {xs:List V} (r:Reps K G ds xs):∀ n:Nat,Reps K G (List.replicate n ds).flatten (List.replicate n xs).flatten
 | 0=>.nil
 | n + 1=>by
  rw [List.replicate_succ,List.replicate_succ,List.flatten_cons,List.flatten_cons]
  exact r.app (fT r n)
noncomputable def fU (a b:D):Res R:=match a,b with
 | .lst ds,.int k=>if 0≤k∧k < 1000000∧ds.length * k.toNat≤sizeLine then .ok (.l .f,.lst (List.replicate k.toNat ds).flatten) else .bad
 | a,b=>rL a b
theorem cw:OpR X (binaryOp .Mult) (rG X.K fU):=by
 rintro pins s σ H x y v u Q I rx ry ⟨G,fp,es,vs,a,b,r,⟨rel,k⟩,va,vb,e⟩
 unfold fU at e
 split at e
 ·rename_i ds j
  split at e
  ·rename_i hj
   cases e
   obtain ⟨p,xs,e1,h1,r1⟩:=va
   subst e1
   cases aQ vb
   refine px pins s σ H _ _ v u Q I rx ry ⟨p,j,xs,rfl,rfl,h1,by lia,by lia,by rw [r1.length];exact hj.2.2,fun q hq=>?_⟩
   obtain ⟨rel2,st2⟩:=rel.newL hq (fT r1 j.toNat)
   exact k _ _ G _ st2 rel2
  ·cases e
 ·exact pk pins s σ H _ _ v u Q I rx ry ⟨G,fp,es,vs,a,b,r,⟨rel,k⟩,va,vb,e⟩
noncomputable def uq (td ty tv:TE):TS:=fun Dd σ H=>tv σ H fun v H1=>td σ H1 fun x H2=>ty σ H2 fun y H3=>qE x y v H3 fun H4=>Dd.nx σ H4
theorem pA {o i value:Expr} {td ty tv:TE} {pos pos':Pos} (ho:PE X o td) (hi:PE X i ty) (hv:PE X value tv) (hs:swapsWith value (some (.Subscript o i pos')) pos.line X.env=pure false) :
  PS X (.Assign [.Subscript o i pos'] value pos) (uq td ty tv):=by
 intro pins s σ H Dd I h
 refine wpAny_Assign_Subscript (thn (hv pins s σ H _ I h) fun r s1 ⟨v,H1,I1,rv,q1⟩=>thn (ho pins s1 σ H1 _ I1 q1) fun u s2 ⟨x,H2,I2,rx,q2⟩=>thn (hi pins s2 σ H2 _ I2 q2) fun iv s3 ⟨y,H3,I3,ry,q3⟩=>?_) hs
 exact thn (l8 pins s3 σ H3 x y v u iv r _ I3 rx ry rv q3) fun _ s4 ⟨H4,I4,q4⟩=>⟨σ,H4,I4,q4⟩
noncomputable def mI (i:Nat) (fk fv:FX):FS:=fun env=>(fv env).bind fun p=>(fk p.2).bind fun q=>match p.2[i]?,q.2[i]? with
 | some (some _),some (some (.l .f,.lst ds))=>(match q.1.2 with
  | .int k=>(match ixN ds.length k with
   | some j=>.ok (.nx (q.2.set i (some (.l .f,.lst (ds.set j p.1.2)))))
   | none=>.bad)
  | _=>.bad)
 | _,_=>.bad
theorem pB {i:Nat} {o ix value:Expr} {fk fv:FX} {pos pos':Pos} (ho:PE X o (lS i)) (hi:QE X ix fk) (hv:QE X value fv) (hs:swapsWith value (some (.Subscript o ix pos')) pos.line X.env=pure false:=by rfl) :
  QS (md:=md) X (.Assign [.Subscript o ix pos'] value pos) (mI i fk fv):=cH (pA ho hi hv hs) fun Dd σ H hq0=>by
 obtain ⟨G,env,fp,rel,k⟩:=hq0
 unfold mI at k
 match q1:fv env,k with
 | .ok (r1,env1),k=>
  have k:OutOk X.K G H fp Dd ((fk env1).bind fun q=>match env1[i]?,q.2[i]? with
   | some (some _),some (some (.l .f,.lst ds))=>(match q.1.2 with
    | .int k=>(match ixN ds.length k with
     | some j=>.ok (.nx (q.2.set i (some (.l .f,.lst (ds.set j r1.2)))))
     | none=>.bad)
    | _=>.bad)
   | _,_=>.bad):=k
  match q2:fk env1,k with
  | .ok (r2,env2),k=>
   have k:OutOk X.K G H fp Dd (match env1[i]?,env2[i]? with
    | some (some _),some (some (.l .f,.lst ds))=>(match r2.2 with
     | .int k=>(match ixN ds.length k with
      | some j=>.ok (.nx (env2.set i (some (.l .f,.lst (ds.set j r1.2)))))
      | none=>.bad)
     | _=>.bad)
    | _,_=>.bad):=k
   split at k
   ·rename_i rr ds h1 h2
    split at k
    ·rename_i kk hkk
     split at k
     ·rename_i j hj
      refine ⟨G,env,fp,r1,env1,rel,q1,fun y H1 G1 fp1 st1 rel1=>?_⟩
      obtain ⟨G2,b,ry,rel2,st2⟩:=rel1.freeze
      obtain ⟨v0,ev0,_⟩:=rel2.view h1
      refine ⟨v0,ev0,G2,env1,b,r2,env2,rel2,q2,fun z H3 G3 fp3 st3 rel3=>?_⟩
      obtain ⟨G4,b4,rz,rel4,st4⟩:=rel3.freeze
      have ry':Rep X.K G4 r1.2 y:=Rep.mono (st3.gg.trans st4.gg) ry
      obtain ⟨p,xs,ep,hp,rs,cg⟩:=rel4.chg (ds':=ds.set j r1.2) h2
      rw [ev0] at ep
      cases ep
      rw [hkk] at rz
      have hz:=aI rz
      obtain ⟨fq,rel5,st5⟩:=cg _ (rs.set j ry')
      exact ⟨p,xs,kk,j,rfl,hz,hp,by rw [rs.length];exact hj,k _ _ G4 fq (st1.trans (st2.trans (st3.trans (st4.trans st5)))) rel5⟩
     ·exact k.elim
    ·exact k.elim
   ·exact k.elim
end
section
variable {X:Cx}
noncomputable def rO (fk fv:FX):FX:=fun env=>(fk env).bind fun p=>(fv p.2).bind fun q=>if eF false p.1.2 then .ok ((.d,.dct false [p.1.2] [q.1.2]),q.2) else .bad
noncomputable def getD (ks vs:List D) (k:D):Option D:=((ks.zip vs).find? fun p=>eqD k p.1).map (·.2)
theorem eG {κ:Type} [DecidableEq κ] {K:W.Frag} {G:Hp} (f:κ→D) (hf:∀ a b,eqD (f a) (f b)=decide (a=b)) {k:κ}:∀ {kvs:List (κ×V)} {vs:List D},Reps K G vs (kvs.map (·.2))→((getD (kvs.map fun kv=>f kv.1) vs (f k)).isSome=(g9 kvs k).isSome)∧∀ d,getD (kvs.map fun kv=>f kv.1) vs (f k)=some d→∃ v,g9 kvs k=some v∧Rep K G d v
 | [],vs,r=>⟨rfl,fun d h=>nomatch h⟩
 | kv :: kvs,vs,r=>by
  cases vs with
  | nil=>have:=r.length;simp at this
  | cons d0 vs=>
   rw [List.map_cons,Reps.cons_iff] at r
   obtain ⟨h1,h2⟩:=eG f hf (k:=k) r.2
   unfold getD g9 at h1 h2 ⊢
   rw [List.map_cons,List.zip_cons_cons]
   have e:eqD (f k) (f kv.1)=decide (kv.1=k):=by
    rw [hf,Bool.eq_iff_iff,decide_eq_true_eq,decide_eq_true_eq]
    exact ⟨fun z=>z.symm,fun z=>z.symm⟩
   by_cases hk:kv.1=k
   ·rw [List.find?_cons_of_pos (by show eqD (f k) (f kv.1)=true;rw [e];exact decide_eq_true hk),List.find?_cons_of_pos (by exact decide_eq_true hk)]
    refine ⟨rfl,fun d h=>?_⟩
    cases h
    exact ⟨_,rfl,r.1⟩
   ·rw [List.find?_cons_of_neg (by show ¬ eqD (f k) (f kv.1)=true;rw [e];simpa using hk),List.find?_cons_of_neg (by simpa using hk)]
    exact ⟨h1,h2⟩
theorem lg {K:W.Frag} {G H:Hp} (gh:Same G H) {tk:Bool} {ks vs:List D} {xs:List V} {o:HO} {p:Addr} {b:D} {y:V} (rd:Rd H p o) (dd:DictO o tk ks xs) (rs:Reps K G vs xs) (hk:eF tk b=true) (ry:Rep K G b y) :
  ∃ ov,DGet H p y ov∧(getD ks vs b).isSome=ov.isSome∧∀ d,getD ks vs b=some d→∃ v,ov=some v∧Rep K G d v:=by
 unfold eF at hk
 cases tk with
 | true=>
  rw [if_pos rfl,Option.isSome_iff_exists] at hk
  obtain ⟨kk,hk⟩:=hk
  obtain ⟨pz,ez,gz,dz⟩:=cQ hk ry
  obtain ⟨kvs,eo,ek,ex,_⟩:=dd
  subst eo ex ez dz
  have ek:ks=kvs.map fun kv=>kT kv.1:=ek
  obtain ⟨h1,h2⟩:=eG (K:=K) (G:=G) kT rH (k:=kk) rs
  rw [←ek] at h1 h2
  exact ⟨g9 kvs kk,.inr ⟨kvs,kk,pz,rd,rfl,gh _ _ gz,rfl⟩,h1,h2⟩
 | false=>
  rw [if_neg Bool.false_ne_true,Option.isSome_iff_exists] at hk
  obtain ⟨kk,hk⟩:=hk
  obtain ⟨ez,dz⟩:=fe hk ry
  obtain ⟨kvs,eo,ek,ex,_⟩:=dd
  subst eo ex ez dz
  obtain ⟨h1,h2⟩:=eG (K:=K) (G:=G) kD nR (k:=kk) rs
  rw [←ek] at h1 h2
  exact ⟨g9 kvs kk,.inl ⟨kvs,kk,rd,rfl,rfl⟩,h1,h2⟩
noncomputable def dgD (a b:D):Res R:=match a with
 | .dct tk ks vs=>if eF tk b then (match getD ks vs b with
  | some d=>.ok (.f,d)
  | none=>.bad) else .bad
 | _=>.bad
noncomputable def inP (a b:D):Res R:=match b with
 | .dct tk ks vs=>if eF tk a then .ok (.f,.bl (getD ks vs a).isSome) else .bad
 | _=>inO a b
noncomputable def pC (a b:D):Res R:=match b with
 | .dct tk ks vs=>if eF tk a then .ok (.f,.bl (!(getD ks vs a).isSome)) else .bad
 | _=>nO a b
theorem u5 (hu:X.A.units + 65 < cLine):OpR X (compareOp .In) (rGA X.K inP):=by
 rintro pins s σ H x y v u Q I rx ry ⟨G,fp,es,vs,a,b,r,⟨rel,k⟩,va,vb,e⟩
 unfold inP at e
 split at e
 ·rename_i tk ks ws
  split at e
  ·rename_i hkey
   cases e
   obtain ⟨p,xs,o,ev,rd,dd,rs⟩:=vb
   subst ev
   cases ry
   obtain ⟨ov,g,h1,_⟩:=lg (K:=X.K) (G:=H) (fun _ _ z=>z) rd dd rs hkey va
   exact vS (by lia) I g rx fun s' I'=>⟨.bl ov.isSome,H,I',rfl,by rw [←h1];exact k _ H G fp .refl (rel.push (bw _))⟩
  ·cases e
 ·exact uh hu pins s σ H x y v u Q I rx ry ⟨G,fp,es,vs,a,b,r,⟨rel,k⟩,va,vb,e⟩
theorem pD (hu:X.A.units + 65 < cLine):OpR X (compareOp .NotIn) (rGA X.K pC):=by
 rintro pins s σ H x y v u Q I rx ry ⟨G,fp,es,vs,a,b,r,⟨rel,k⟩,va,vb,e⟩
 unfold pC at e
 split at e
 ·rename_i tk ks ws
  split at e
  ·rename_i hkey
   cases e
   obtain ⟨p,xs,o,ev,rd,dd,rs⟩:=vb
   subst ev
   cases ry
   obtain ⟨ov,g,h1,_⟩:=lg (K:=X.K) (G:=H) (fun _ _ z=>z) rd dd rs hkey va
   exact oU (by lia) I g rx fun s' I'=>⟨.bl (!ov.isSome),H,I',rfl,by rw [←h1];exact k _ H G fp .refl (rel.push (bw _))⟩
  ·cases e
 ·exact rB hu pins s σ H x y v u Q I rx ry ⟨G,fp,es,vs,a,b,r,⟨rel,k⟩,va,vb,e⟩
end
noncomputable def isLf:O→Bool
 | .l .f=>true
 | .pin _ (.l .f)=>true
 | _=>false
section
variable {K:W.Frag} {G G' H H':Hp} {es:PV.Env} {vs:L2.St} {fp:List Addr}
theorem nU {ow:O} {ds:List D} {v:V} {a:List Addr} (ho:isLf ow=true) (r:RepO K G H ow (.lst ds) v a):∃ p xs,v=.ref p∧H p=some (.lst xs)∧a=[p]∧Reps K G ds xs∧∀ (H':Hp) (ds':List D) (xs':List V),H' p=some (.lst xs')→Reps K G ds' xs'→RepO K G H' ow (.lst ds') (.ref p) [p]:=by
 unfold isLf at ho
 split at ho
 ·obtain ⟨p,xs,e,hp,ea,rs⟩:=bo.mp r
  exact ⟨p,xs,e,hp,ea,rs,fun H' ds' xs' h rs'=>bo.mpr ⟨p,xs',rfl,h,rfl,rs'⟩⟩
 ·rename_i q
  rw [RepO] at r
  obtain ⟨e0,r⟩:=r
  obtain ⟨p,xs,e,hp,ea,rs⟩:=bo.mp r
  rw [e] at e0
  cases e0
  exact ⟨_,xs,e,hp,ea,rs,fun H' ds' xs' h rs'=>by rw [RepO];exact ⟨rfl,bo.mpr ⟨_,xs',rfl,h,rfl,rs'⟩⟩⟩
 ·cases ho
theorem Rel.chgO {i:Nat} {ow:O} {ds ds':List D} (ho:isLf ow=true) (q:Rel K G H es vs fp) (e:es[i]?=some (some (ow,.lst ds))):∃ p xs,vs[i]?=some (some (.ref p))∧H p=some (.lst xs)∧Reps K G ds xs∧
  ∀ xs',Reps K G ds' xs'→∃ fq,Rel K G (upd H p (.lst xs')) (es.set i (some (ow,.lst ds'))) vs fq∧Step G H fp G (upd H p (.lst xs')) fq:=by
 obtain ⟨v,fq,ev,g,st,st'⟩:=q.out e
 obtain ⟨y,ys,e0,v',a,b,e1,e2,r1,r2⟩:=g.rep
 cases e0
 cases e1
 obtain ⟨p,xs,e3,hp,e4,rs,mk⟩:=nU ho r1
 subst e3
 subst e4
 subst e2
 have nd:=List.nodup_cons.mp (show (p :: b).Nodup from g.nd)
 refine ⟨p,xs,ev,hp,rs,fun xs' rs'=>?_⟩
 have g2:Rel K G (upd H p (.lst xs')) (some (ow,.lst ds') :: es.set i none) (some (.ref p) :: vs) (p :: b):=by
  refine ⟨⟨some (.ref p),vs,rfl,.ref p,[p],b,rfl,rfl,mk _ _ _ aX rs',r2.step (.refl _) fun z hz=>ak fun e=>nd.1 (e▸hz)⟩,g.nd,g.gn,fun z o ez=>?_⟩
  have:z≠p:=fun w=>by
   subst w
   rw [g.gn z List.mem_cons_self] at ez;cases ez
  rw [ak this]
  exact g.gh z o ez
 have stc:Step G H (p :: b) G (upd H p (.lst xs')) (p :: b):=by
  refine ⟨.refl _,fun z o ez nz=>?_,fun z hz=>.inl hz,fun z o ez=>.inl ez,fun z o ez=>?_⟩
  ·have:z≠p:=fun w=>nz (by rw [w];exact List.mem_cons_self)
   rw [ak this]
   exact ez
  ·by_cases w:z=p
   ·subst w
    exact ⟨_,aX⟩
   ·exact ⟨o,by rw [ak w];exact ez⟩
 obtain ⟨fz,g3,st3⟩:=g2.back (i:=i) (by rw [List.length_set];exact (List.getElem?_eq_some_iff.mp e).1) ev
 rw [List.set_set] at g3
 exact ⟨fz,g3,st.trans (stc.trans st3)⟩
theorem RepE.append:∀ {es es':PV.Env} {vs vs':L2.St} {a b:List Addr},RepE K G H es vs a→RepE K G H es' vs' b→RepE K G H (es++es') (vs++vs') (a++b)
 | [],es',vs,vs',a,b,r,q=>by
  rw [r.1,r.2]
  exact q
 | none :: es,es',vs,vs',a,b,r,q=>by
  obtain ⟨y,ys,e,r⟩:=r
  subst e
  exact ⟨y,ys++vs',rfl,RepE.append r q⟩
 | some x :: es,es',vs,vs',a,b,r,q=>by
  obtain ⟨y,ys,e,v,a1,b1,e1,e2,r1,r2⟩:=r
  subst e e2
  exact ⟨y,ys++vs',rfl,v,a1,b1++b,e1,List.append_assoc _ _ _,r1,RepE.append r2 q⟩
theorem RepE.clean {G2 G3:Hp} (h:∀ p u,isT u=true→G2 p=some u→G3 p=some u):∀ {es:PV.Env} {vs:L2.St} {a:List Addr},(∀ r,some r∈es→ay r.1 r.2=true)→RepE K G2 H es vs a→RepE K G3 H es vs a
 | [],_,_,_,r=>r
 | none :: es,vs,a,hc,r=>by
  obtain ⟨y,ys,e,r⟩:=r
  exact ⟨y,ys,e,RepE.clean h (fun r hr=>hc r (List.mem_cons_of_mem _ hr)) r⟩
 | some x :: es,vs,a,hc,r=>by
  obtain ⟨y,ys,e,v,a1,b1,e1,e2,r1,r2⟩:=r
  exact ⟨y,ys,e,v,a1,b1,e1,e2,r1.clean h (hc x List.mem_cons_self),RepE.clean h (fun r hr=>hc r (List.mem_cons_of_mem _ hr)) r2⟩
theorem Rel.lendM (q:Rel K G H es vs fp) (a:List Addr) (ha:∀ z∈a,z∉fp) (hga:∀ z∈a,G z=none):∃ G1,Same G G1∧Same G1 H∧(∀ z∈a,G1 z=none)∧(∀ (i:Nat) (r:R) (v:V),es[i]?=some (some r)→vs[i]?=some (some v)→Rep K G1 r.2 v)∧
  ∀ (H2 G2:Hp) (fp2:List Addr) (rs:PV.Env) (ws:L2.St),Step G1 H a G2 H2 fp2→Rel K G2 H2 rs ws fp2→(∀ r,some r∈rs→ay r.1 r.2=true)→∃ G3 fp3,Step G H (a++fp) G3 H2 fp3∧Rel K G3 H2 (rs++es) (ws++vs) fp3:=by
 have hg:Same G (fun p=>if p∈fp then H p else G p):=fun p u e=>by
  show (if p∈fp then H p else G p)=some u
  by_cases hp:p∈fp
  ·rw [if_pos hp]
   exact q.gh p u e
  ·rw [if_neg hp]
   exact e
 have hh:Same (fun p=>if p∈fp then H p else G p) H:=fun p u e=>by
  have e:(if p∈fp then H p else G p)=some u:=e
  by_cases hp:p∈fp
  ·rw [if_pos hp] at e
   exact e
  ·rw [if_neg hp] at e
   exact q.gh p u e
 have hk:∀ p∈fp,∀ u,H p=some u→(fun p=>if p∈fp then H p else G p) p=some u:=fun p hp u e=>by
  show (if p∈fp then H p else G p)=some u
  rw [if_pos hp]
  exact e
 refine ⟨fun p=>if p∈fp then H p else G p,hg,hh,fun z hz=>?_,fun i r v e ev=>q.rep.rep hg hk e ev,fun H2 G2 fp2 rs ws st k cl=>?_⟩
 ·show (if z∈fp then H z else G z)=none
  rw [if_neg (ha z hz)]
  exact hga z hz
 have kept:∀ p∈fp,H2 p=H p:=fun p hp=>by
  obtain ⟨u,hu⟩:=q.rep.live p hp
  rw [hu]
  exact st.keep p u hu fun z=>ha p z hp
 have apart:∀ p∈fp2,p∉fp:=fun p hp hf=>by
  rcases st.fpn p hp with z | z
  ·exact ha p z hf
  ·obtain ⟨u,hu⟩:=q.rep.live p hf
   rw [z] at hu;cases hu
 have g3:Same G (fun p=>if p∈fp then none else G2 p):=fun p u e=>by
  show (if p∈fp then none else G2 p)=some u
  rw [if_neg (fun z=>by rw [q.gn p z] at e;cases e)]
  exact st.gg p u (hg p u e)
 refine ⟨fun p=>if p∈fp then none else G2 p,fp2++fp,⟨g3,fun p u e n=>?_,fun p hp=>?_,fun p u e=>?_,st.there⟩,⟨RepE.append (RepE.clean (fun p u t e=>?_) cl k.rep) (q.rep.step g3 kept),?_,fun p hp=>?_,fun p u e=>?_⟩⟩
 ·exact st.keep p u e fun z=>n (List.mem_append_left _ z)
 ·rcases List.mem_append.mp hp with hp | hp
  ·exact (st.fpn p hp).imp_left (List.mem_append_left _)
  ·exact .inl (List.mem_append_right _ hp)
 ·have e:(if p∈fp then none else G2 p)=some u:=e
  by_cases hp:p∈fp
  ·rw [if_pos hp] at e;cases e
  ·rw [if_neg hp] at e
   rcases st.gnew p u e with z | z | z
   ·have z:(if p∈fp then H p else G p)=some u:=z
    rw [if_neg hp] at z
    exact .inl z
   ·exact .inr (.inl (List.mem_append_left _ z))
   ·exact .inr (.inr z)
 ·show (if p∈fp then none else G2 p)=some u
  by_cases hp:p∈fp
  ·exfalso
   obtain ⟨u',hu,hm⟩:=q.rep.mut p hp
   have:=st.gg p u' (hk p hp u' hu)
   rw [e] at this
   cases this
   cases u with
   | lst _=>cases t
   | dK _=>cases t
   | dT _=>cases t
   | _=>cases hm
  ·rw [if_neg hp]
   exact e
 ·rw [List.nodup_append]
  exact ⟨k.nd,q.nd,fun p hp z hz e=>apart p hp (e▸hz)⟩
 ·show (if p∈fp then none else G2 p)=none
  by_cases hf:p∈fp
  ·rw [if_pos hf]
  ·rw [if_neg hf]
   rcases List.mem_append.mp hp with hp | hp
   ·exact k.gn p hp
   ·exact absurd hp hf
 ·have e:(if p∈fp then none else G2 p)=some u:=e
  by_cases hp:p∈fp
  ·rw [if_pos hp] at e;cases e
  ·rw [if_neg hp] at e
   exact k.gh p u e
end
section
variable {X:Cx}
noncomputable def ePop (i:Nat):FX:=fun env=>match env[i]? with
 | some (some (ow,.lst ds))=>if isLf ow then (match ds.getLast? with
  | some d=>.ok ((.f,d),env.set i (some (ow,.lst ds.dropLast)))
  | none=>.bad) else .bad
 | _=>.bad
theorem Reps.dropLast {K:W.Frag} {G:Hp}:∀ {ds:List D} {xs:List V},Reps K G ds xs→Reps K G ds.dropLast xs.dropLast
 | [],xs,r=>by rw [Reps] at r;subst r;exact .nil
 | [d],xs,r=>by
  rw [Reps] at r
  obtain ⟨y,ys,e,r1,r2⟩:=r
  rw [Reps] at r2
  subst e r2
  exact .nil
 | d :: d2 :: ds,xs,r=>by
  rw [Reps] at r
  obtain ⟨y,ys,e,r1,r2⟩:=r
  subst e
  have h:=Reps.dropLast r2
  cases ys with
  | nil=>have:=r2.length;simp at this
  | cons z zs=>
   rw [List.dropLast_cons_of_ne_nil (List.cons_ne_nil _ _),List.dropLast_cons_of_ne_nil (List.cons_ne_nil _ _)]
   exact .cons r1 h
theorem rQ {i:Nat} {o:Expr} {apos cpos:Pos} (ho:PE X o (lS i)) (hbase:attributeBase o "pop" X.env (eval o X.env)=eval o X.env:=by rfl) (hline:(apos.endLine == cpos.line)=true:=by rfl) :
  QE X (.Call (.Attribute o "pop" apos) [] [] cpos) (ePop i):=by
 refine aP (qG PySem.F.plainAttrs_list PySem.F.slot_list_pop PySem.F.type_list_pop qH ho hbase hline) fun σ H Q hqq=>?_
 obtain ⟨G,env,fp,r,env',rel,e,k⟩:=hqq
 unfold ePop at e
 split at e
 ·rename_i ow ds hds
  split at e
  ·rename_i hlf
   split at e
   ·rename_i d hd
    cases e
    obtain ⟨p,xs,ev,hp,rs,cg⟩:=rel.chgO (ds':=ds.dropLast) hlf hds
    rw [List.getLast?_eq_getElem?] at hd
    obtain ⟨y,hy,ry⟩:=rs.get hd
    obtain ⟨fq,rel2,st2⟩:=cg xs.dropLast rs.dropLast
    exact ⟨.ref p,ev,.inl ⟨rfl,xs,SqL.of hp⟩,p,xs,y,rfl,rfl,hp,by rw [rs.length];exact hy,k y _ G fq st2 (rel2.push ry)⟩
   ·cases e
  ·cases e
 ·cases e
noncomputable def fV (i:Nat) (f:FX):FS:=fun env=>(f env).bind fun p=>match p.2[i]? with
 | some (some (.pin q c,d0))=>.ok (.rt (.t [p.1.1,.pin q c],.tup [p.1.2,d0]))
 | _=>.bad
theorem eH {i:Nat} {e:Expr} {f:FX} {pos:Pos} (he:QE X e f):QS (md:=.mut) X (.Return (some e) pos) (fV i f):=cH (ni he) fun Dd σ H hq0=>by
 obtain ⟨G,env,fp,rel,k⟩:=hq0
 unfold fV at k
 match q:f env,k with
 | .ok (r,env1),k=>
  have k:OutOk (md:=.mut) X.K G H fp Dd (match env1[i]? with
   | some (some (.pin q c,d0))=>.ok (.rt (.t [r.1,.pin q c],.tup [r.2,d0]))
   | _=>.bad):=k
  split at k
  ·rename_i z c d0 hz
   refine ⟨G,env,fp,r,env1,rel,q,fun v H1 G1 fp1 st1 rel1=>?_⟩
   obtain ⟨y,ys,ey,v',a,b,e1,e2,r1,r2⟩:=rel1.rep
   cases ey
   cases e1
   subst e2
   obtain ⟨v0,a0,b0,ev0,ro,_,pm⟩:=r2.take hz
   have hv0:v0=.ref z:=by
    have:=ro
    rw [RepO] at this
    exact this.1
   subst hv0
   have sub:∀ w∈a++a0,w∈a++b:=fun w hw=>by
    rcases List.mem_append.mp hw with hw | hw
    ·exact List.mem_append_left _ hw
    ·exact List.mem_append_right _ (pm.mem_iff.mpr (List.mem_append_left _ hw))
   have nd:=List.nodup_append.mp rel1.nd
   have nd2:=List.nodup_append.mp (pm.nodup_iff.mp nd.2.1)
   refine k v H1 G1 (a++a0) (st1.trans (Step.cut sub)) ⟨r.1,r.2,z,c,d0,rfl,⟨⟨some v,[some (.ref z)],rfl,v,a,a0,rfl,rfl,r1,some (.ref z),[],rfl,.ref z,a0,[],rfl,(List.append_nil _).symm,ro,rfl,rfl⟩,?_,fun p hp=>rel1.gn p (sub p hp),rel1.gh⟩⟩
   rw [List.nodup_append]
   exact ⟨nd.1,nd2.1,fun p hp w hw e=>nd.2.2 p hp w (pm.mem_iff.mpr (List.mem_append_left _ hw)) e⟩
  ·exact k.elim
noncomputable def dF (np nn:Nat) (c:O) (g:FS) (p:Addr):List D→Res R
 | d0 :: ds=>if ds.length + 1=np then (g (some (.pin p c,d0) :: (ds.map (fun d=>some (O.f,d))++List.replicate nn none))).bind fun o=>match o with
  | .rt r=>.ok r
  | _=>.bad
  else .bad
 | []=>.bad
inductive spM (K:W.Frag) (c:O) (F:Addr→List D→Res R) (vs:List V) (H:Hp) (Q:VK) (zz:XK):Prop
 | mk:∀ G p vs' d0 ds r fp0,Same G H→vs=.ref p :: vs'→RepO K G H c d0 (.ref p) fp0→fp0.Nodup→(∀ z∈fp0,G z=none)→Reps K G ds vs'→F p (d0 :: ds)=.ok r→(∀ v H' G' fp',Step G H fp0 G' H' fp'→u3 .mut K G' H' r v fp'→Q v H')→spM K c F vs H Q zz
theorem lh {P:Program} {w:World} {K:W.Frag} {mg:Str→Option Value} {base:Heap} {x:Str} {st:Stmt} {N ps:List Str} {k:Nat} {c:O} {g:FS} (Df:Def K mg x st) (sc:FnScope N ps (defScope st))
  (hb:∀ (kV doc pm:Value) (an:Option Addr) (cdv ct:Value) (us:List Value),us.length=ps.length→bindArgs (PySem.W.fnOf x x (bU st) (bj st) (defScope st) .none kV doc pm an cdv ct) ⟨us,[]⟩=pure (ps.zip us))
  (body:∀ (f:Addr) (cdv:Value) (A:Around) (outer:List PySem.Env) (s:Shared) (H:Hp) (E:XK),Room k (A.deeper (envOfC x (defScope st) s.heap.objs.size f cdv))→QSs (md:=.mut) (lZ CX0 P w K mg base N x (defScope st) f cdv A outer s H E).nox (bj st) g) :
  Ct P w K mg base x (k + 1) (spM K c (dF ps.length (N.length - ps.length) c g)):=by
 obtain ⟨f,fd,F,m⟩:=Df
 refine ⟨f,fd,ps,F.ok sc (fun vs H Q E h=>?_) (fun cdv A outer s H vs Q E hr h=>?_),m,F.kp,F.binds hb⟩
 ·obtain ⟨G,p,vs',d0,ds,r,fp0,_,ev,_,_,_,rs,e,_⟩:=h
  unfold dF at e
  split at e
  ·rename_i d0' ds' heq
   cases heq
   split at e
   ·rename_i hl
    rw [ev,List.length_cons,rs.length,hl]
   ·cases e
  ·cases e
 ·obtain ⟨G,p,vs',d0,ds,r,fp0,gh,ev,r0,nd,gn,rs,e,q⟩:=h
  unfold dF at e
  split at e
  ·rename_i d0' ds' heq
   cases heq
   split at e
   ·rename_i hl
    refine ⟨_,body f cdv A outer s H E hr,G,some (.pin p c,d0) :: (ds.map (fun d=>some (O.f,d))++List.replicate (N.length - ps.length) none),fp0,⟨?_,nd,gn,gh⟩,?_⟩
    ·have:=cX (K:=K) (G:=G) (H:=H) (N.length - ps.length) rs
     unfold L2.dW
     rw [ev,List.length_cons,rs.length,hl]
     exact ⟨some (.ref p),_,rfl,.ref p,fp0,[],rfl,(List.append_nil _).symm,by rw [RepO];exact ⟨rfl,r0⟩,this⟩
    ·obtain ⟨o,eo,e⟩:=ab e
     rw [eo]
     cases o with
     | rt r'=>
      cases e
      exact fun v H' G' fp' st rel=>q v H' G' fp' st rel
     | nx env'=>cases e
     | bk env'=>cases e
     | ct env'=>cases e
   ·cases e
  ·cases e
noncomputable def jG:O→O→Bool
 | .l .f,.l .f=>true
 | .l .f,.pin _ (.l .f)=>true
 | .d,.d=>true
 | .d,.pin _ .d=>true
 | _,_=>false
theorem rR {K:W.Frag} {G H:Hp} {c ow:O} {d:D} {v:V} {a:List Addr} (h:jG c ow=true) (r:RepO K G H ow d v a):(∃ p,v=.ref p)∧RepO K G H c d v a∧∀ (G' H':Hp) (d':D) (a':List Addr),RepO K G' H' c d' v a'→RepO K G' H' ow d' v a':=by
 have refl_l:∀ {d:D},RepO K G H (.l .f) d v a→∃ p,v=.ref p:=fun {d} r=>by
  cases d with
  | lst ds=>obtain ⟨p,_,e,_⟩:=bo.mp r;exact ⟨p,e⟩
  | _=>simp only [RepO] at r
 have refl_d:∀ {d:D},RepO K G H .d d v a→∃ p,v=.ref p:=fun {d} r=>by
  cases d with
  | dct tk ks ws=>rw [RepO] at r;obtain ⟨p,_,_,e,_⟩:=r;exact ⟨p,e⟩
  | _=>simp only [RepO] at r
 unfold jG at h
 split at h
 ·exact ⟨refl_l r,r,fun _ _ _ _ z=>z⟩
 ·rw [RepO] at r
  exact ⟨⟨_,r.1⟩,r.2,fun _ _ _ _ z=>by rw [RepO];exact ⟨r.1,z⟩⟩
 ·exact ⟨refl_d r,r,fun _ _ _ _ z=>z⟩
 ·rw [RepO] at r
  exact ⟨⟨_,r.1⟩,r.2,fun _ _ _ _ z=>by rw [RepO];exact ⟨r.1,z⟩⟩
 ·cases h
open Classical in
noncomputable def fW (F:Addr→List D→Res R) (c:O) (d0:D) (ds:List D):Res (R×D):=
 if h:∃ x:R×D,∀ p,F p (d0 :: ds)=.ok (.t [x.1.1,.pin p c],.tup [x.1.2,x.2]) then .ok (Classical.choose h) else .bad
theorem fX {F:Addr→List D→Res R} {c:O} {d0:D} {ds:List D} {r:R} {d':D} (h:∀ p,F p (d0 :: ds)=.ok (.t [r.1,.pin p c],.tup [r.2,d'])):fW F c d0 ds=.ok (r,d'):=by
 have h':∃ x:R×D,∀ p,F p (d0 :: ds)=.ok (.t [x.1.1,.pin p c],.tup [x.1.2,x.2]):=⟨(r,d'),h⟩
 unfold fW
 rw [dif_pos h']
 have e:=(Classical.choose_spec h' 0).symm.trans (h 0)
 generalize Classical.choose h'=x at e
 obtain ⟨⟨o,d⟩,d2⟩:=x
 cases e
 rfl
theorem mJ {F:Addr→List D→Res R} {c:O} {d0:D} {ds:List D} {x:R×D} (h:fW F c d0 ds=.ok x) (p:Addr):F p (d0 :: ds)=.ok (.t [x.1.1,.pin p c],.tup [x.1.2,x.2]):=by
 unfold fW at h
 split at h
 ·rename_i h'
  cases h
  exact Classical.choose_spec h' p
 ·cases h
end
section
variable {X:Cx} {x:Str} {p pos:Pos} {e:Expr} {es:List Expr} {fs:FOs}
end
section
variable {K:W.Frag} {G G' H H':Hp}
end
section
variable {X:Cx} {md:Mode}
end
end PV
namespace NX
open PySem PySem.Spec PyProof.Rows L2
end NX
namespace PV
open PySem PySem.Spec PyProof.Rows L2 NX
section
variable {X:Cx}
theorem lj:∀ {xs:List V} {us:List Value},xs.length=us.length→(∀ (i:Nat) (a:V) (b:Value),xs[i]?=some a→us[i]?=some b→RelV a b)→Vals xs us
 | [],[],_,_=>.nil
 | x :: xs,u :: us,hl,h=>.cons (h 0 x u rfl rfl) (lj (by simpa using hl) fun i a b ha hb=>h (i + 1) a b (by simpa using ha) (by simpa using hb))
 | [],_ :: _,hl,_=>by simp at hl
 | _ :: _,[],hl,_=>by simp at hl
end
end PV
namespace NX
open PySem PySem.Spec PyProof.Rows L2
section
variable {prog:Program} {w:World} {A:Around} {E:Value→Shared→Prop} {s:Shared}
theorem pE:typeLookup (.type "list_reverseiterator") "__len__" = pure none:=by rw [typeLookup_type,builtinLookup_eq_fast];kernel_rfl
theorem mK:typeLookup (.type "list_reverseiterator") "__length_hint__" = pure (some (.builtin "list_reverseiterator.__length_hint__")):=by rw [typeLookup_type,builtinLookup_eq_fast];kernel_rfl
theorem mL {r:Addr} {Q:Bool→Shared→Prop} (hT:s.TypeIs (.ref r) "list_reverseiterator") (h:Q false s):wpAny (model prog w) A (Builtin.List.listLengthHint (.ref r)) Q E s:=by
 unfold Builtin.List.listLengthHint
 refine wpAny_bind (wpAny_specialOf hT pE ?_)
 show wpAny _ _ (specialOf (Value.ref r) (Str.ofString "__length_hint__") >>= _) _ _ _
 refine wpAny_bind (wpAny_specialOf hT mK ?_)
 generalize hid:("list_reverseiterator.__length_hint__" : String)=id0
 wp_delta
 rw [show splitId id0=some ("list_reverseiterator","__length_hint__") from by subst hid;decide +kernel]
 subst hid
 refine wpAny_bind (wpAny_isInstance (T:="list_reverseiterator") (b:=true) hT (by rw [isSubtype_type];kernel_rfl) ?_)
 refine wpAny_ite_split (fun hab=>absurd hab (by decide)) (fun _=>?_)
 refine wpAny_ite_split (fun _=>?_) (fun hab=>absurd (by decide +kernel) hab)
 refine wpAny_ite_split (fun hab=>absurd hab (by decide +kernel)) (fun _=>?_)
 exact wpAny_pure h
end
section
variable {prog:Program} {w:World} {A:Around} {E:Value→Shared→Prop} {s:Shared}
theorem pF {R:Result→Shared→Prop} {I l:Addr} {items:Array Value} (hh:A.handled=none) (hne:l≠I) (S:Addr) (hSI:S≠I) (hSl:S≠l) (c0:Nat) (hI:s.heap.IsRevIter I l ((items.size:Int) - 1)) (hl:s.heap.IsList l items) (hS:s.heap.get? S=some { cls:=.type "list",data:=.seq #[] c0 }) (hn:items.size≤sizeLine)
  (hR:∀ h' tk acc' c',(∀ b o,b≠S→b≠I→s.heap.get? b=some o→h'.get? b=some o)→h'.get? S=some { cls:=.type "list",dict:=none,data:=.seq acc' c',slots:=#[] }→ItemsOf (fun i v=>items[items.size - 1 - i]?=some v) acc' items.size→R (.ok (.ret .none)) { s with heap:=h',toks:=tk }) :
  wpAny (model prog w) A.in1 (Builtin.List.listExtendWith (.ref S) (.ref I) .none)
   (fun fin s'=>match fin with | .done f=>R (.ok f) s' | .again c'=>c'.quiet=true∧codeAny (model prog w) A c' R s') (fun e s'=>R (.error e) s') s:=by
 have W:Walks prog w A.in1 I [I,l] [I] items.size (fun i v=>items[items.size - 1 - i]?=some v) (fun i h=>i≤items.size∧h.IsRevIter I l ((items.size:Int) - 1 - (i:Int))∧h.IsList l items):=Walks.listRev (A:=A.in1) (show A.in1.handled=none from hh) I l hne items
 have st:(fun (i:Nat) (h:Heap)=>i≤items.size∧h.IsRevIter I l ((items.size:Int) - 1 - (i:Int))∧h.IsList l items) 0 s.heap:=⟨Nat.zero_le _,by rw [show (items.size:Int) - 1 - ((0:Nat):Int)=(items.size:Int) - 1 by lia];exact hI,hl⟩
 have hT:=hI.typeIs
 have hSf:S∉[I,l]:=by simp only [List.mem_cons,List.not_mem_nil,or_false,not_or];exact ⟨hSI,hSl⟩
 unfold Builtin.List.listExtendWith
 refine wpAny_bind (wpAny_typeOf hT ?_)
 have h1:Builtin.List.listSameRef (.ref S) (.ref I)=false:=by simp [Builtin.List.listSameRef,hSI]
 have h2:(Value.type "list_reverseiterator" == Value.type "list")=false:=by decide
 have h3:(Value.type "list_reverseiterator" == Value.type "tuple")=false:=by decide
 simp only [h1,h2,h3,Bool.or_false,Bool.false_eq_true,if_false]
 refine wpAny_bind (wpAny_pyIter_revIter hI ?_)
 refine wpAny_bind (wpAny_holding (mL hT ?_))
 refine wpAny_ite_split (fun hab=>absurd hab (by decide)) (fun _=>wpAny_pure ⟨plainId_quiet PySem.F.plain_extend_loop _,?_⟩)
 refine codeAny_extend_loopS W.toS hn S hSf .none items.size 0 _ #[] c0 rfl (Nat.zero_le _) st hS (ItemsOf.nil _) fun s' acc' c' hm hS' hacc=>?_
 rw [Moved.eq_with hm]
 refine hR s'.heap s'.toks acc' c' (fun b o hb hb2 e=>hm.heap b o (fun hmem=>?_) e) hS' hacc
 rcases List.mem_cons.mp hmem with e' | hmem
 ·exact hb e'
 ·exact hb2 (List.mem_singleton.mp hmem)
theorem mM {Q:Value→Shared→Prop} {I l:Addr} {items:Array Value} (hh:A.handled=none) (hne:l≠I) (hI:s.heap.IsRevIter I l ((items.size:Int) - 1)) (hl:s.heap.IsList l items) (hn:items.size≤sizeLine)
  (hQ:∀ h' tk acc' c',(∀ b o,b≠I→s.heap.get? b=some o→h'.get? b=some o)→h'.get? s.heap.objs.size=some { cls:=.type "list",dict:=none,data:=.seq acc' c',slots:=#[] }→ItemsOf (fun i v=>items[items.size - 1 - i]?=some v) acc' items.size→Q (.ref s.heap.objs.size) { s with heap:=h',toks:=tk }) :
  wpAny (model prog w) A (call (.type "list") [.ref I]) Q E s:=by
 refine callType_codes (Q₁:=fun obj s₁=>obj=.ref s.heap.objs.size∧s₁={ s with heap:=s.heap.push { cls:=.type "list",data:=.seq #[] } }) PySem.F.called_list (PySem.F.typeCall_list_1 _) PySem.F.entry_list_init
  (code_list_new _ ⟨rfl,rfl⟩) fun obj s₁ h₁=>?_
 obtain ⟨rfl,rfl⟩:=h₁
 have hS:(s.heap.push { cls:=.type "list",data:=.seq #[] }).get? s.heap.objs.size=some { cls:=.type "list",data:=.seq #[] }:=Heap.get?_push_size _ rfl
 obtain ⟨oI,gI,_⟩:=id hI
 obtain ⟨ol,gl,_⟩:=id hl
 have nI:s.heap.objs.size≠I:=Nat.ne_of_gt (Heap.lt_size gI)
 have nl:s.heap.objs.size≠l:=Nat.ne_of_gt (Heap.lt_size gl)
 refine ⟨⟨_,hS,rfl⟩,PySem.F.args_list_init_2 _ _,?_⟩
 show wpAny _ A.in1.in1 (do let old ←Builtin.List.listItems (.ref s.heap.objs.size);Builtin.List.listUpdate (.ref s.heap.objs.size) (fun _=>#[]);letGo old.toList.reverse;Builtin.List.listExtendWith (.ref s.heap.objs.size) (.ref I) .none) _ _ _
 refine wpAny_bind ?_
 unfold Builtin.List.listItems
 refine wpAny_bind (wpAny_seqItems hS rfl (wpAny_pure ?_))
 show wpAny _ _ (updateSeq s.heap.objs.size (fun _=>#[]) >>= fun _=>letGo (#[]:Array Value).toList.reverse >>= fun _=>Builtin.List.listExtendWith (.ref s.heap.objs.size) (.ref I) .none) _ _ _
 refine wpAny_bind (wpAny_updateSeq hS rfl ?_)
 have hS2:=Heap.get?_update_self (Obj.mapSeq (fun _=>(#[]:Array Value))) hS rfl
 have oth:∀ b o,b≠s.heap.objs.size→s.heap.get? b=some o→((s.heap.push { cls:=.type "list",data:=.seq #[] }).update s.heap.objs.size (Obj.mapSeq (fun _=>(#[]:Array Value)))).get? b=some o:=
  fun b o hb e=>(Heap.get?_update_other _ _ (Ne.symm hb)).trans (Heap.get?_push_of_some _ e)
 refine wpAny_bind (wpAny_letGo ?_)
 refine pF (A:=A.in1) hh hne _ nI nl _ (hI.at fun o e=>oth I o (Ne.symm nI) e) (hl.at fun o e=>oth l o (Ne.symm nl) e) hS2 hn fun h' tk acc' c' hk hS' hacc=>?_
 exact ⟨rfl,hQ h' tk acc' c' (fun b o hb e=>hk b o (Nat.ne_of_lt (Heap.lt_size e)) hb (oth b o (Nat.ne_of_lt (Heap.lt_size e)) e)) hS' hacc⟩
end
section
variable {X:Cx} {e:Expr} {ta:TA} {p p2 pos pos2:Pos}
noncomputable def wc (K:W.Frag) (ta:TA):TE:=fun σ H Q=>ta σ H fun vs H1=>∃ a xs,vs=[.ref a]∧SqL K H1 a xs∧∀ l,H1 l=none→Q (.ref l) (upd H1 l (.lst xs.reverse))
theorem rS (hc:X.calm=true) (hg:Gl X "list") (hm:X.mg "list" = none) (hg2:Gl X "reversed") (hm2:X.mg "reversed" = none) (ha:PA X [e] ta)
  (he:starEach [.Call (.Name "reversed" p2) [e] [] pos2] X.env=(false,eval (.Call (.Name "reversed" p2) [e] [] pos2) X.env) :: starEach [] X.env:=by rfl) (hpl:(backTo pos (starEach [] X.env)).any (·.1)=false:=by rfl)
  (he2:starEach [e] X.env=(false,eval e X.env) :: starEach [] X.env:=by rfl) (hpl2:(backTo pos2 (starEach [] X.env)).any (·.1)=false:=by rfl) :
  PE X (.Call (.Name "list" p) [.Call (.Name "reversed" p2) [e] [] pos2] [] pos) (wc X.K ta):=by
 intro pins s σ H Q I h
 refine wpAny_Call_Name_kw (dU I hg hm (by decide +kernel:bootBuiltins "list" = some (.type "list")) ?_ (by decide) (by decide))
 refine PyProof.Rows.callWith_type1 ?_ he hpl
 rw [he]
 show wpAny _ _ (spliced ((false,eval (.Call (.Name "reversed" p2) [e] [] pos2) X.env) :: backTo pos (starEach [] X.env))) _ _ s
 refine Calls.spliced_cons ?_
 refine wpAny_Call_Name_kw (dU I hg2 hm2 (by decide +kernel:bootBuiltins "reversed" = some (.type "reversed")) ?_ (by decide) (by decide))
 refine PyProof.Rows.callWith_type1 (thn (ha pos2 pins s σ H _ I h) fun us s1 ⟨vs,H1,I1,r1,a,xs,ev,sq,q⟩=>?_) he2 hpl2
 subst ev
 obtain ⟨u,rfl,ra⟩:=hX r1
 cases ra
 obtain ⟨its,r',pl,hz⟩:=I1.list sq
 have hl:=pl.isList
 have hlen:=r'.length
 refine call_reversed_list hl ?_
 refine Calls.spliced_nil ?_
 obtain ⟨ol,gl,_⟩:=id hl
 refine mM (I1.ok.hd hc) (Nat.ne_of_lt (Heap.lt_size gl)) ⟨_,Heap.get?_push_size _ rfl,rfl,rfl⟩ (hl.at fun o e=>Heap.get?_push_of_some _ e) (by simp only [List.size_toArray];lia) fun h' tk acc' c' hk hS hacc=>?_
 refine ⟨.ref _,_,I1.laid (o:=.lst xs.reverse) (t':=tk) (fun b o e=>hk b o (Nat.ne_of_lt (Heap.lt_size e)) (Heap.get?_push_of_some _ e)) (by rw [Heap.size_push];exact Nat.le_succ _) ⟨by rw [List.length_reverse];exact hz,acc'.toList,c',?_,by rw [Array.toArray_toList];exact hS⟩,rfl,q _ (I1.hok.fresh (by rw [Heap.size_push];exact Nat.le_succ _))⟩
 have hs:its.toArray.size=xs.length:=by rw [List.size_toArray];exact hlen.symm
 refine PV.lj (by rw [List.length_reverse];exact (hs.symm.trans (hacc.1.symm.trans (Array.length_toList (xs:=acc')).symm))) fun i x y hx hy=>?_
 rw [Array.getElem?_toList] at hy
 have hb:=hacc.2 i y hy
 have hi:i < xs.length:=by have:=(List.getElem?_eq_some_iff.mp hx).1;rw [List.length_reverse] at this;exact this
 rw [List.getElem?_reverse hi] at hx
 rw [hs,List.getElem?_toArray] at hb
 obtain ⟨u,hu,ru⟩:=r'.get hx
 rw [hb] at hu
 cases hu
 exact ru
end
end NX
namespace PV
open PySem PySem.Spec PyProof.Rows L2 NX
theorem Reps.rev {K:W.Frag} {G:Hp}:∀ {ds:List D} {xs:List V},Reps K G ds xs→Reps K G ds.reverse xs.reverse
 | [],xs,r=>by rw [Reps] at r;rw [r];exact .nil
 | d :: ds,xs,r=>by
  rw [Reps] at r
  obtain ⟨y,ys,e,r1,r2⟩:=r
  subst e
  rw [List.reverse_cons,List.reverse_cons]
  exact (Reps.rev r2).app (.one r1)
noncomputable def tj:List D→Res R
 | [.lst ds]=>.ok (.l .f,.lst ds.reverse)
 | _=>.bad
section
variable {X:Cx} {e:Expr} {fs:FOs} {p p2 pos pos2:Pos}
theorem mN {K:W.Frag} {σ:L2.St} {H:Hp} {Q Q':List V→Hp→Prop} (h:tOs K fs σ H Q) (k:∀ vs H,Q vs H→Q' vs H):tOs K fs σ H Q':=by
 obtain ⟨G,env,fp,o,env',rel,e,q⟩:=h
 exact ⟨G,env,fp,o,env',rel,e,fun vs H' G' fp' st rel' ok=>k _ _ (q vs H' G' fp' st rel' ok)⟩
theorem rT (hc:X.calm=true) (hg:Gl X "list") (hm:X.mg "list" = none) (hg2:Gl X "reversed") (hm2:X.mg "reversed" = none) (ha:QOs X [e] fs)
  (he:starEach [.Call (.Name "reversed" p2) [e] [] pos2] X.env=(false,eval (.Call (.Name "reversed" p2) [e] [] pos2) X.env) :: starEach [] X.env:=by rfl) (hpl:(backTo pos (starEach [] X.env)).any (·.1)=false:=by rfl)
  (he2:starEach [e] X.env=(false,eval e X.env) :: starEach [] X.env:=by rfl) (hpl2:(backTo pos2 (starEach [] X.env)).any (·.1)=false:=by rfl) :
  QE X (.Call (.Name "list" p) [.Call (.Name "reversed" p2) [e] [] pos2] [] pos) (bI tj fs):=
 aP (rS hc hg hm hg2 hm2 ha he hpl he2 hpl2) fun σ H Q h=>by
  refine mN (ic h) fun xs H1 hqq=>?_
  obtain ⟨G,fp,es,vs,ds,r,⟨rel,k⟩,vd,e⟩:=hqq
  unfold tj at e
  split at e
  ·rename_i ds
   cases e
   obtain ⟨v,ev,p,ys,ep,sq,rs⟩:=lN vd
   subst ev ep
   refine ⟨p,ys,rfl,sq,fun q hq=>?_⟩
   obtain ⟨rel2,st2⟩:=rel.newL hq rs.rev
   exact k _ _ G _ st2 rel2
  ·cases e
end
noncomputable def compLE (a:FG) (c:FT) (f:FX):List D→PV.Env→Res (List D×PV.Env)
 | [],env=>.ok ([],env)
 | d :: ds,env=>(a d env).bind fun e=>(c e).bind fun p=>if p.1 then (f p.2).bind fun q=>(compLE a c f ds q.2).bind fun rs=>.ok (q.1.2 :: rs.1,rs.2) else compLE a c f ds p.2
def tm (a:FG) (c:FT) (f:FX) (ds:List D) (E:Addr→PV.Env) (k0:Nat) (x:List D×List D):Prop:=∀ q,∃ env2,compLE a c f ds (E q)=.ok (x.1,env2)∧env2[k0]?=some (some (.pin q (.l .f),.lst x.2))
open Classical in
noncomputable def iy (a:FG) (c:FT) (f:FX) (ds:List D) (E:Addr→PV.Env) (k0:Nat):Res (List D×List D):=if h:∃ x,tm a c f ds E k0 x then .ok h.choose else .bad
theorem mO {a:FG} {c:FT} {f:FX} {ds:List D} {E:Addr→PV.Env} {k0:Nat} {x:List D×List D} (h:tm a c f ds E k0 x):iy a c f ds E k0=.ok x:=by
 have ex:∃ x,tm a c f ds E k0 x:=⟨x,h⟩
 unfold iy
 rw [dif_pos ex]
 obtain ⟨e1,h1,h2⟩:=ex.choose_spec 0
 obtain ⟨e2,h3,h4⟩:=h 0
 rw [h1] at h3
 have h5:=Res.ok.inj h3
 have h6:=congrArg Prod.fst h5
 have h7:=congrArg Prod.snd h5
 dsimp only at h6 h7
 subst h7
 rw [h2] at h4
 injection h4 with h4
 injection h4 with h4
 injection h4 with _ h4
 injection h4 with h4
 have:ex.choose=x:=Prod.ext h6 h4
 rw [this]
theorem mP {a:FG} {c:FT} {f:FX} {ds:List D} {E:Addr→PV.Env} {k0:Nat} {x:List D×List D} (h:iy a c f ds E k0=.ok x):tm a c f ds E k0 x:=by
 unfold iy at h
 split at h
 ·rename_i ex
  cases h
  exact ex.choose_spec
 ·cases h
noncomputable def c8 (fi:FI) (ix:List (Option Nat)) (j k0:Nat) (a:FG) (c:FT) (f:FX):FX:=fun env=>(fi env).bind fun p=>match p.2[j]? with
 | some (some (ow,.lst d0))=>if isLf ow then (iy a c f p.1 (fun q=>(aT ix (p.2.set j none)).set k0 (some (.pin q (.l .f),.lst d0))) k0).bind fun x=>if x.1.length≤sizeLine∧flatDs x.1=true∧flatDs x.2=true then .ok ((.l .f,.lst x.1),p.2.set j (some (ow,.lst x.2))) else .bad else .bad
 | _=>.bad
theorem nV {K:W.Frag} {fi:FI} {ix:List (Option Nat)} {j k0:Nat} {a:FG} {c:FT} {f:FX} {σ:L2.St} {H:Hp} {Q:VK} (hk:ix[k0]?=some (some j)) (h:tQ K (c8 fi ix j k0 a c f) σ H Q):kj (tQI K fi) ix (tQG K a) (tQT K c) (tQ K f) σ H Q:=by
 obtain ⟨G,env,fp,r,env',rel,e,k⟩:=h
 obtain ⟨⟨ds,env1⟩,e1,e⟩:=ab e
 refine ⟨G,env,fp,ds,env1,rel,e1,fun J H1 G1 fp1 st1 rel1 wk D hD=>?_⟩
 dsimp only at e
 split at e
 ·rename_i ow d0 hj
  split at e
  ·rename_i hlf
   obtain ⟨⟨rs,d'⟩,e2,e⟩:=ab e
   dsimp only at e
   split at e
   ·rename_i hz
    cases e
    obtain ⟨v0,aa,b,ev,r0,r2,pm⟩:=rel1.rep.take hj
    obtain ⟨q,xs0,eq,hq,ea,rs0,mk⟩:=nU hlf r0
    subst eq ea
    have nd:=List.nodup_append.mp (pm.nodup_iff.mp rel1.nd)
    have relR:Rel K G1 H1 (env1.set j none) σ b:=⟨r2,nd.2.1,fun w hw=>rel1.gn w (pm.mem_iff.mpr (List.mem_append_right _ hw)),rel1.gh⟩
    obtain ⟨G2,g12,g2h,g2a,hrep,hback⟩:=relR.lendM [q] (fun w hw hb=>nd.2.2 w hw w hb rfl) (fun w hw=>rel1.gn w (pm.mem_iff.mpr (List.mem_append_left _ hw)))
    have rE:=bP (H:=H1) hrep (fun i r er=>let ⟨v,ev,_⟩:=relR.view er;⟨v,ev⟩) ix
    have hk1:(aT ix (env1.set j none))[k0]?=some none:=by
     unfold aT
     rw [List.getElem?_map,hk]
     show some (match (env1.set j none)[j]? with | some (some r)=>some (O.f,r.2) | _=>none)=_
     rw [List.getElem?_set_self (List.getElem?_eq_some_iff.mp hj).1]
    have hk2:(cj ix σ)[k0]?=some (some (.ref q)):=by
     unfold cj
     rw [List.getElem?_map,hk]
     show some ((σ[j]?).bind id)=_
     rw [ev]
     rfl
    have rP:RepO K G2 H1 (.pin q (.l .f)) (.lst d0) (.ref q) [q]:=by
     rw [RepO]
     exact ⟨rfl,bo.mpr ⟨q,xs0,rfl,hq,rfl,rs0.mono g12⟩⟩
    obtain ⟨fq0,rE2,pm2⟩:=rE.put (i:=k0) (r:=(.pin q (.l .f),.lst d0)) (v:=.ref q) hk1 rP
    rw [dP hk2] at rE2
    have rel2:Rel K G2 H1 ((aT ix (env1.set j none)).set k0 (some (.pin q (.l .f),.lst d0))) (cj ix σ) fq0:=⟨rE2,pm2.symm.nodup_iff.mp (List.nodup_cons.mpr ⟨List.not_mem_nil,List.nodup_nil⟩),(fun w hw=>g2a w (by have:=pm2.mem_iff.mp hw;simpa using this)),g2h⟩
    have st0:Step G2 H1 [q] G2 H1 fq0:=Step.cut fun w hw=>by have:=pm2.mem_iff.mp hw;simpa using this
    obtain ⟨rel3,st3⟩:=rel2.newL (ds:=[]) (xs:=[]) hD .nil
    obtain ⟨envE,eL,eK⟩:=mP e2 q
    dsimp only at eL eK
    refine ⟨fun i m σ1 H2=>m=ds.length - i∧i≤ds.length∧∃ G' es fp' acc bG,Step G2 H1 [q] G' H2 fp'∧Rel K G' H2 (some (.l .f,.lst acc) :: es) (some (.ref D) :: σ1) fp'∧compLE a c f (ds.drop i) es=.ok (bG,envE)∧acc++bG=rs,
     ⟨_,rfl,Nat.zero_le _,G2,_,_,[],rs,st0.trans st3,rel3,eL,rfl⟩,?_⟩
    rintro i m σ1 H2 ⟨rfl,hi,G3,es,fp3,acc,bG,st4,rel4,e4,eacc⟩
    obtain ⟨w1,w2⟩:=wk G3 H2 _ _ _ (g12.trans st4.gg) rel4 i
    by_cases hlt:i < ds.length
    ·have hd:ds[i]?=some ds[i]:=List.getElem?_eq_getElem hlt
     obtain ⟨go,yl⟩:=w1 _ hd
     rw [List.drop_eq_getElem_cons hlt] at e4
     unfold compLE at e4
     obtain ⟨es1,h1,e4⟩:=ab e4
     obtain ⟨⟨b',es2⟩,h2,e4⟩:=ab e4
     dsimp only at e4
     refine .inr ⟨go,fun x H3 y=>?_⟩
     obtain ⟨G4,rx,rel5,st5⟩:=yl x H3 y
     obtain ⟨fa,fb,efp,ra,relb,bk⟩:=rel5.frame
     refine ⟨G4,es,fb,ds[i],es1,relb,rx,h1,fun σ2 G5 fp5 st6 rel6=>?_⟩
     refine ⟨G5,es1,fp5,b',es2,rel6,h2,fun H6 G6 fp6 st7 rel7=>?_⟩
     have st67:=st6.trans st7
     cases b' with
     | false=>
      refine iteF ⟨ds.length - (i + 1),by lia,rfl,hlt,?_⟩
      obtain ⟨relz,stz⟩:=bk G6 H6 es2 σ2 fp6 st67 rel7
      rw [←efp] at stz
      exact ⟨G6,es2,_,acc,bG,st4.trans (st5.trans stz),relz,e4,eacc⟩
     | true=>
      have e4:((f es2).bind fun q=>(compLE a c f (ds.drop (i + 1)) q.2).bind fun rs=>.ok (q.1.2 :: rs.1,rs.2))=.ok (bG,envE):=e4
      obtain ⟨⟨r,es3⟩,h3,e4⟩:=ab e4
      obtain ⟨⟨rest',envE'⟩,h4,e4⟩:=ab e4
      cases e4
      refine qI ⟨G6,es2,fp6,r,es3,rel7,h3,fun v H7 G7 fp7 st8 rel8=>?_⟩
      obtain ⟨G8,fp8,rv,rel9,st9⟩:=rel8.freeze
      obtain ⟨relz,stz⟩:=bk G8 H7 es3 σ2 fp8 (st67.trans (st8.trans st9)) rel9
      rw [←efp] at stz
      obtain ⟨p,xs,ep,hp,rxs,cg⟩:=relz.chg (i:=0) (ds:=acc) (ds':=acc++[r.2]) rfl
      have ep:some (some (V.ref D))=some (some (V.ref p)):=ep
      cases ep
      obtain ⟨fq,rely,sty⟩:=cg (xs++[v]) (rxs.app (.one rv))
      refine ⟨xs,hp,?_,ds.length - (i + 1),by lia,rfl,hlt,G8,es3,fq,acc++[r.2],rest',st4.trans (st5.trans (stz.trans sty)),rely,h4,?_⟩
      ·rw [rxs.length]
       have:=congrArg List.length eacc
       rw [List.length_append,List.length_cons] at this
       have:=hz.1
       lia
      ·rw [←eacc,List.append_assoc]
       rfl
    ·have ei:i=ds.length:=by lia
     subst ei
     rw [List.drop_length] at e4
     cases e4
     rw [List.append_nil] at eacc
     subst eacc
     refine .inl ⟨w2 rfl,?_⟩
     obtain ⟨fa,fb,efp,ra,relb,bk⟩:=rel4.frame
     obtain ⟨v1,fq1,ev1,relo,sto,_⟩:=relb.out eK
     obtain ⟨fx,relx,stx⟩:=relo.only
     have ev2:v1=.ref q:=by
      obtain ⟨y,ys,ey,v2,a2,b2,e21,e22,r21,r22⟩:=relx.rep
      cases ey
      cases e21
      have r21:RepO K G3 H2 (.pin q (.l .f)) (.lst d') v1 a2:=r21
      rw [RepO] at r21
      exact r21.1
     subst ev2
     obtain ⟨relz,stz⟩:=bk G3 H2 _ _ fx (sto.trans stx) relx
     rw [←efp] at stz
     obtain ⟨G5,fp5,st5,rel5⟩:=hback H2 G3 _ _ _ (st4.trans stz) relz (fun w hw=>by
      rcases List.mem_cons.mp hw with hw | hw
      ·cases hw
       rw [ay,cY]
       exact hz.2.1
      ·rw [List.mem_singleton] at hw
       cases hw
       rw [ay,ay,cY]
       exact hz.2.2)
     obtain ⟨a1,b1,ef,ro,relRest,comb⟩:=Rel.frame rel5
     have relO:Rel K G5 H2 (some (ow,.lst d') :: env1.set j none) (some (.ref q) :: σ) b1:=by
      obtain ⟨y2,ys2,ey2,v2,a2,b2,e21,e22,r21,r22⟩:=relRest.rep
      cases ey2
      cases e21
      have r21:RepO K G5 H2 (.pin q (.l .f)) (.lst d') (.ref q) a2:=r21
      rw [RepO] at r21
      obtain ⟨q',zs,eq',hq',ea',rz⟩:=bo.mp r21.2
      cases eq'
      subst ea'
      have r3:RepO K G1 H1 ow (.lst d0) (.ref q) [q]:=r0
      refine ⟨⟨_,_,rfl,_,[q],b2,rfl,e22,?_,r22⟩,relRest.nd,relRest.gn,relRest.gh⟩
      show RepO K G5 H2 ow (.lst d') (.ref q) [q]
      unfold isLf at hlf
      split at hlf
      ·exact bo.mpr ⟨q,zs,rfl,hq',rfl,rz⟩
      ·rw [RepO] at r3 ⊢
       exact ⟨r3.1,bo.mpr ⟨q,zs,rfl,hq',rfl,rz⟩⟩
      ·cases hlf
     obtain ⟨fq,relB,stB⟩:=relO.back (i:=j) (by rw [List.length_set];exact (List.getElem?_eq_some_iff.mp hj).1) ev
     rw [List.set_set] at relB
     obtain ⟨relF,stF⟩:=comb G5 H2 _ _ fq stB relB
     rw [←ef] at stF
     exact k _ H2 G5 _ (st1.trans ((st5.perm (fun w=>pm.mem_iff.symm) (fun w hw=>hw)).trans stF)) relF
   ·cases e
  ·cases e
 ·cases e
end PV
namespace NX
open PySem PySem.Spec PyProof.Rows L2
section
open PySem.AutoSeq1 (wpAny_loadPart')
theorem dJ:fillsNumberSlot (.type "tuple") "mul" = pure false:=
 PySem.fillsNumberSlot_seq (id:="tuple.__mul__") (r:=some (.builtin "tuple.__rmul__")) F.slot_tuple_mul.lookup (by decide +kernel) F.slot_tuple_rmul.lookup (by decide +kernel)
theorem gR:seqRepeat? (.type "tuple")=pure (some (.builtin "tuple.__mul__")):=by
 unfold seqRepeat?
 rw [PySem.seqSlot_of (T:="tuple") (name:="__mul__") (id:="tuple.__mul__") F.slot_tuple_mul.lookup (by decide +kernel),PySem.seqSlot_of (T:="tuple") (name:="__rmul__") (id:="tuple.__rmul__") F.slot_tuple_rmul.lookup (by decide +kernel)]
 rfl
theorem gS (a:Int) (t:Tok) (l:Addr) (items:Array Value) (n:Nat) (dd:Option Addr) (sl:Array (Option Value)) :
  Meets (Builtin.«int.__rmul__» ⟨[.int a t,.ref l],[]⟩)
   (fun _ R s=>s.heap.get? l=some { cls:=.type "tuple",dict:=dd,data:=.seq items n,slots:=sl }∧R (.ok (.ret .notImplemented)) s):=
 .of_wp fun prog w A R s h=>by
  obtain ⟨hp,g,d,tk,os⟩:=s;obtain ⟨hl,h⟩:=h
  wp_walk using wpAny_loadPart' hl
  exact ⟨_,rfl,h⟩
theorem ll (l:Addr) (items:Array Value) (n:Nat) (dd:Option Addr) (sl:Array (Option Value)) (x:Int) (u:Tok) (hne:items.isEmpty=false) (h0:x=0) :
  Meets (Builtin.«tuple.__mul__» ⟨[.ref l,.int x u],[]⟩)
   (fun _ R s=>s.heap.get? l=some { cls:=.type "tuple",dict:=dd,data:=.seq items n,slots:=sl }∧R (.ok (.ret (.ref s.heap.objs.size))) { s with heap:=s.heap.push { cls:=.type "tuple",data:=.seq #[] } }):=
 .of_wp fun prog w A R s h=>by
  obtain ⟨hp,g,d,tk,os⟩:=s;obtain ⟨hl,h⟩:=h
  subst h0
  wp_walk using wpAny_loadPart' hl
  exact ⟨_,rfl,h⟩
theorem lp (l:Addr) (items:Array Value) (n:Nat) (dd:Option Addr) (sl:Array (Option Value)) (u:Tok) :
  Meets (Builtin.«tuple.__mul__» ⟨[.ref l,.int 1 u],[]⟩)
   (fun _ R s=>s.heap.get? l=some { cls:=.type "tuple",dict:=dd,data:=.seq items n,slots:=sl }∧R (.ok (.ret (.ref l))) s):=
 .of_wp fun prog w A R s h=>by
  obtain ⟨hp,g,d,tk,os⟩:=s;obtain ⟨hl,h⟩:=h
  wp_walk using wpAny_loadPart' hl
  exact ⟨_,rfl,h⟩
theorem lq (l:Addr) (items:Array Value) (n:Nat) (dd:Option Addr) (sl:Array (Option Value)) (x:Int) (u:Tok) (hne:items.isEmpty=false) (h2:(x == 1)=false) (h3:¬ x≤0) (h4:x < 2 ^ 63) (h5:¬ (items.size:Int) * x > (2 ^ 63 - 1) / 8) (h6:((List.replicate x.toNat items).foldl (fun a b=>a++b) #[]).size≤sizeLine) (h7:(items.size:Int) * x≤10000) :
  Meets (Builtin.«tuple.__mul__» ⟨[.ref l,.int x u],[]⟩)
   (fun _ R s=>s.heap.get? l=some { cls:=.type "tuple",dict:=dd,data:=.seq items n,slots:=sl }∧R (.ok (.ret (.ref s.heap.objs.size))) { s with heap:=s.heap.push { cls:=.type "tuple",data:=.seq ((List.replicate x.toNat items).foldl (fun a b=>a++b) #[]) } }):=
 .of_wp fun prog w A R s h=>by
  obtain ⟨hp,g,d,tk,os⟩:=s;obtain ⟨hl,h⟩:=h
  wp_walk using wpAny_loadPart' hl
  rw [if_neg (by rw [Bool.or_eq_true,decide_eq_true_eq,decide_eq_true_eq];lia)]
  wp_walk using wpAny_loadPart' hl
  rw [if_neg h5]
  wp_walk
  rw [if_neg (by unfold Builtin.Tuple.tupleTooMany;rw [decide_eq_true_eq,sizeLine_eq];lia)]
  wp_walk
  exact ⟨_,rfl,h⟩
end
end NX
namespace PV
open PySem PySem.Spec PyProof.Rows L2 NX
section
variable {X:Cx}
inductive rRepU (K:W.Frag) (x:V) (y:V) (H:Hp) (Q:VK):Prop
 | mk:∀ l k xs,x=.ref l→y=.int k→SqT K H l xs→xs≠[]→0≤k→k < 1000→xs.length≤10→((k=1→Q (.ref l) H))→((k≠1→∀ p,H p=none→Q (.ref p) (upd H p (.tup (List.replicate k.toNat xs).flatten))))→rRepU K x y H Q
theorem pG:OpR X (binaryOp .Mult) (rRepU X.K):=by
 intro pins s σ H x y v u Q I rx ry h
 obtain ⟨l,k,xs,rfl,rfl,hH,hne,h1,h2,hz,q1,q2⟩:=h
 cases rx
 obtain ⟨t,rfl⟩:=ry
 obtain ⟨its,r,p1,_⟩:=I.tuple hH
 have hl:=r.length
 obtain ⟨⟨cls,dd,data,sl⟩,ho,hc,n,hd⟩:=id p1
 simp only at hc hd
 subst hc hd
 have hne2:its.toArray.isEmpty=false:=by
  cases its with
  | nil=>exact absurd (List.eq_nil_of_length_eq_zero hl) hne
  | cons a r'=>rfl
 refine wpAny_binaryOp_repeat_ref (T:="tuple") (U:="int") (by decide) ⟨_,ho,rfl⟩ (fun s'=>typeIs_int s' k t) dJ F.fills_int_mul F.slot_int_rmul gR F.slot_int_index.lookup
  (call_meets F.slot_int_rmul (typeIs_int s k t) F.entry_int_rmul (F.args_int_rmul_2 _ _) (gS k t l its.toArray n dd sl) ⟨ho,rfl,⟨_,ho,rfl⟩,?_⟩)
 by_cases k0:k=0
 ·subst k0
  refine call_meets F.slot_tuple_mul ⟨_,ho,rfl⟩ F.entry_tuple_mul (F.args_tuple_mul_2 _ _) (ll l its.toArray n dd sl 0 t hne2 rfl) ⟨ho,?_⟩
  exact ⟨.ref _,_,I.laid (o:=.tup []) (t':=s.toks) (fun b o e=>Heap.get?_push_of_some _ e) (Nat.le_refl _) ⟨Nat.zero_le _,[],.nil,IsTupN.new _ _⟩,rfl,q2 (by decide) _ (I.hok.fresh (Nat.le_refl _))⟩
 ·by_cases k1:k=1
  ·subst k1
   refine call_meets F.slot_tuple_mul ⟨_,ho,rfl⟩ F.entry_tuple_mul (F.args_tuple_mul_2 _ _) (lp l its.toArray n dd sl t) ⟨ho,?_⟩
   exact ⟨.ref l,H,I,rfl,q1 rfl⟩
  ·have hnew:List.foldl (fun x1 x2=>x1++x2) #[] (List.replicate k.toNat its.toArray)=(List.replicate k.toNat its).flatten.toArray:=by
    have:=dY its k.toNat []
    rw [List.nil_append] at this
    exact this
   have hb:(its.length:Int) * k≤10 * 1000:=Int.mul_le_mul (by lia) (by lia) h1 (by decide)
   have hlen:(List.replicate k.toNat its).flatten.length≤10000:=by
    rw [cO]
    have:((k.toNat * its.length:Nat):Int)≤10000:=by
     rw [Int.natCast_mul,Int.toNat_of_nonneg h1,Int.mul_comm]
     lia
    lia
   refine call_meets F.slot_tuple_mul ⟨_,ho,rfl⟩ F.entry_tuple_mul (F.args_tuple_mul_2 _ _) (lq l its.toArray n dd sl k t hne2 (by simpa using k1) (by lia) (by lia) (by rw [List.size_toArray];lia) (by rw [hnew,List.size_toArray,sizeLine_eq];lia) (by rw [List.size_toArray];lia)) ⟨ho,?_⟩
   rw [hnew]
   exact ⟨.ref _,_,I.laid (o:=.tup (List.replicate k.toNat xs).flatten) (t':=s.toks) (fun b o e=>Heap.get?_push_of_some _ e) (Nat.le_refl _) ⟨by rw [cO,hl,←cO,sizeLine_eq];lia,_,r.rep k.toNat,IsTupN.new _ _⟩,rfl,q2 k1 _ (I.hok.fresh (Nat.le_refl _))⟩
noncomputable def rU (a b:D):Res R:=match a,b with
 | .tup ds,.int k=>if ds≠[]∧ds.length≤10∧0≤k∧k < 1000 then .ok (.f,.tup (List.replicate k.toNat ds).flatten) else .bad
 | _,_=>.bad
theorem pH:OpR X (binaryOp .Mult) (rG X.K rU):=by
 rintro pins s σ H x y v u Q I rx ry ⟨G,fp,es,vs,a,b,r,⟨rel,k⟩,va,vb,e⟩
 unfold rU at e
 split at e
 ·rename_i ds j
  split at e
  ·rename_i hj
   cases e
   obtain ⟨p,xs,e1,h1,r1⟩:=ck va
   subst e1
   cases aQ vb
   refine pG pins s σ H _ _ v u Q I rx ry ⟨p,j,xs,rfl,rfl,aB rel.gh h1,?_,hj.2.2.1,hj.2.2.2,by rw [r1.length];exact hj.2.1,fun e=>?_,fun e q hq=>?_⟩
   ·intro z
    have:=r1.length
    rw [z] at this
    exact hj.1 (List.eq_nil_of_length_eq_zero this.symm)
   ·subst e
    refine k _ H G fp .refl (rel.push ?_)
    have e3:(List.replicate (1:Int).toNat ds).flatten=ds:=by simp
    rw [e3]
    exact va
   ·obtain ⟨rel2,st2⟩:=rel.newF (u:=.tup (List.replicate j.toNat xs).flatten) hq
    refine k _ _ _ fp st2 (rel2.push ?_)
    rw [Rep]
    exact ⟨q,_,rfl,aX,Reps.mono st2.gg (fT r1 j.toNat)⟩
  ·cases e
 ·cases e
end
section
variable {md:Mode} {X:Cx} {scope:Scope} {N:List Str} {tg iter elt:Expr} {ifs:List Expr} {pos:Pos} {fi:FI} {a:FG} {c:FT} {f:FX} {j k0:Nat}
theorem mQ (ix:List (Option Nat)) (N:List Str) (hc:X.calm=true) (hi:QI X tg iter fi) (hg:∀ C s H fp pn,QG (ax X scope N C s H fp pn) tg a) (ht:∀ C s H fp pn,QTs (ax X scope N C s H fp pn) ifs c) (he:∀ C s H fp pn,QE (ax X scope N C s H fp pn) elt f)
  (hkj:ix[k0]?=some (some j):=by rfl)
  (hf:bB scope X.env=true:=by rfl) (hk:scope.kind=.function:=by rfl) (hcell:∀ y∈scope.names,y.2≠.cell:=by decide +kernel) (hnames:∀ y∈scope.names,y.2=.local→scope.names.lookup y.1=some .local:=by decide +kernel) (hix:g8 X scope N ix=true:=by rfl)
  (hs:∀ x,foldedSetIterable iter X.env x=pure x:=by intro _;rfl):QE X (.ListComp elt [⟨tg,iter,ifs,0⟩] scope pos) (c8 fi ix j k0 a c f):=
 aP (kl (g:=tQG X.K a) (tc:=tQT X.K c) (te:=tQ X.K f) ix N hc hi hg ht he hf hk hcell hnames hix hs) fun _ _ _=>nV hkj
theorem jb {i:Nat} {y:Str} {py spos:Pos} (ix:List (Option Nat)) (N:List Str) (hN:X.N.Nodup) (hiy:X.N[i]?=some y) (hy:Loc X.env.scope y) (hc:X.calm=true) (hi:QI X tg iter fi) (hg:∀ C s H fp pn,QG (ax X scope N C s H fp pn) tg a) (ht:∀ C s H fp pn,QTs (ax X scope N C s H fp pn) ifs c)
  (he:∀ C s H fp pn,QE (ax X scope N C s H fp pn) elt f) (hkj:ix[k0]?=some (some j):=by rfl) (hsw:swapsWith (.ListComp elt [⟨tg,iter,ifs,0⟩] scope pos) (some (.Name y py)) spos.line X.env=pure true:=by rfl)
  (hf:bB scope X.env=true:=by rfl) (hk:scope.kind=.function:=by rfl) (hcell:∀ y∈scope.names,y.2≠.cell:=by decide +kernel) (hnames:∀ y∈scope.names,y.2=.local→scope.names.lookup y.1=some .local:=by decide +kernel) (hix:g8 X scope N ix=true:=by rfl)
  (hs:∀ x,foldedSetIterable iter X.env x=pure x:=by intro _;rfl) (hfn:X.fn y=true∨X.env.scope.names.lookup y=some .local:=by first | exact .inl rfl | exact .inr rfl) :
  QS (md:=md) X (.Assign [.Name y py] (.ListComp elt [⟨tg,iter,ifs,0⟩] scope pos) spos) (dI i (c8 fi ix j k0 a c f)):=
 cH (km (i:=i) (g:=tQG X.K a) (tc:=tQT X.K c) (te:=tQ X.K f) ix N hN hiy hy hc hi hg ht he hsw hf hk hcell hnames hix hs hfn) fun D σ H ⟨G,env,fp,rel,k⟩=>nV hkj (ie rel k)
end
section
variable {X:Cx} {x:Str} {p pos:Pos} {e:Expr} {es:List Expr} {f0:FX} {fs:FOs}
end
section
variable {X:Cx}
end
end PV
namespace NX
open PySem PySem.Spec PyProof.Rows L2
section
variable {prog:Program} {w:World} {A:Around} {R:Result→Shared→Prop} {it:Addr} {fp wr:List Addr} {n:Nat} {Pv:Nat→Value→Prop} {Sx:Nat→Heap→Prop} {kw:List (Str×Value)}
end
section
variable {X:Cx} {e k:Expr} {te tk:TE} {p pos kpos:Pos}
end
end NX
namespace PV
open PySem PySem.Spec PyProof.Rows L2 NX
section
variable {X:Cx}
end
section
variable {X:Cx}
end
section
variable {K:W.Frag} {G G' H H':Hp} {es:PV.Env} {vs:L2.St} {fp:List Addr}
theorem Rel.lendM2 (q:Rel K G H es vs fp) (a:List Addr) (ha:∀ z∈a,z∉fp) (hga:∀ z∈a,G z=none):∃ G1,Same G G1∧Same G1 H∧(∀ z∈a,G1 z=none)∧(∀ (i:Nat) (r:R) (v:V),es[i]?=some (some r)→vs[i]?=some (some v)→Rep K G1 r.2 v)∧
  ∀ (H2 G2:Hp) (fp2:List Addr) (rs:PV.Env) (ws:L2.St),Step G1 H a G2 H2 fp2→Rel K G2 H2 rs ws fp2→((∀ r,some r∈rs→ay r.1 r.2=true)→∃ G3 fp3,Step G H (a++fp) G3 H2 fp3∧Rel K G3 H2 (rs++es) (ws++vs) fp3)∧∃ G3 fp3,Step G H (a++fp) G3 H2 fp3∧Rel K G3 H2 (rs++es.map PV.frz) (ws++vs) fp3:=by
 have hg:Same G (fun p=>if p∈fp then H p else G p):=fun p u e=>by
  show (if p∈fp then H p else G p)=some u
  by_cases hp:p∈fp
  ·rw [if_pos hp]
   exact q.gh p u e
  ·rw [if_neg hp]
   exact e
 have hh:Same (fun p=>if p∈fp then H p else G p) H:=fun p u e=>by
  have e:(if p∈fp then H p else G p)=some u:=e
  by_cases hp:p∈fp
  ·rw [if_pos hp] at e
   exact e
  ·rw [if_neg hp] at e
   exact q.gh p u e
 have hk:∀ p∈fp,∀ u,H p=some u→(fun p=>if p∈fp then H p else G p) p=some u:=fun p hp u e=>by
  show (if p∈fp then H p else G p)=some u
  rw [if_pos hp]
  exact e
 refine ⟨fun p=>if p∈fp then H p else G p,hg,hh,fun z hz=>?_,fun i r v e ev=>q.rep.rep hg hk e ev,fun H2 G2 fp2 rs ws st k=>⟨fun cl=>?_,?_⟩⟩
 ·show (if z∈fp then H z else G z)=none
  rw [if_neg (ha z hz)]
  exact hga z hz
 ·have kept:∀ p∈fp,H2 p=H p:=fun p hp=>by
   obtain ⟨u,hu⟩:=q.rep.live p hp
   rw [hu]
   exact st.keep p u hu fun z=>ha p z hp
  have apart:∀ p∈fp2,p∉fp:=fun p hp hf=>by
   rcases st.fpn p hp with z | z
   ·exact ha p z hf
   ·obtain ⟨u,hu⟩:=q.rep.live p hf
    rw [z] at hu;cases hu
  have g3:Same G (fun p=>if p∈fp then none else G2 p):=fun p u e=>by
   show (if p∈fp then none else G2 p)=some u
   rw [if_neg (fun z=>by rw [q.gn p z] at e;cases e)]
   exact st.gg p u (hg p u e)
  refine ⟨fun p=>if p∈fp then none else G2 p,fp2++fp,⟨g3,fun p u e n=>?_,fun p hp=>?_,fun p u e=>?_,st.there⟩,⟨RepE.append (RepE.clean (fun p u t e=>?_) cl k.rep) (q.rep.step g3 kept),?_,fun p hp=>?_,fun p u e=>?_⟩⟩
  ·exact st.keep p u e fun z=>n (List.mem_append_left _ z)
  ·rcases List.mem_append.mp hp with hp | hp
   ·exact (st.fpn p hp).imp_left (List.mem_append_left _)
   ·exact .inl (List.mem_append_right _ hp)
  ·have e:(if p∈fp then none else G2 p)=some u:=e
   by_cases hp:p∈fp
   ·rw [if_pos hp] at e;cases e
   ·rw [if_neg hp] at e
    rcases st.gnew p u e with z | z | z
    ·have z:(if p∈fp then H p else G p)=some u:=z
     rw [if_neg hp] at z
     exact .inl z
    ·exact .inr (.inl (List.mem_append_left _ z))
    ·exact .inr (.inr z)
  ·show (if p∈fp then none else G2 p)=some u
   by_cases hp:p∈fp
   ·exfalso
    obtain ⟨u',hu,hm⟩:=q.rep.mut p hp
    have:=st.gg p u' (hk p hp u' hu)
    rw [e] at this
    cases this
    cases u with
    | lst _=>cases t
    | dK _=>cases t
    | dT _=>cases t
    | _=>cases hm
   ·rw [if_neg hp]
    exact e
  ·rw [List.nodup_append]
   exact ⟨k.nd,q.nd,fun p hp z hz e=>apart p hp (e▸hz)⟩
  ·show (if p∈fp then none else G2 p)=none
   by_cases hf:p∈fp
   ·rw [if_pos hf]
   ·rw [if_neg hf]
    rcases List.mem_append.mp hp with hp | hp
    ·exact k.gn p hp
    ·exact absurd hp hf
  ·have e:(if p∈fp then none else G2 p)=some u:=e
   by_cases hp:p∈fp
   ·rw [if_pos hp] at e;cases e
   ·rw [if_neg hp] at e
    exact k.gh p u e
 ·have hgg:=hg.trans st.gg
  have rf:RepE K G2 H2 (es.map PV.frz) vs []:=q.rep.frz hgg fun p hp u e=>st.gg p u (hk p hp u e)
  have ra:=RepE.append k.rep rf
  rw [List.append_nil] at ra
  refine ⟨G2,fp2,⟨hgg,fun p u e n=>st.keep p u e fun z=>n (List.mem_append_left _ z),fun p hp=>(st.fpn p hp).imp_left (List.mem_append_left _),fun p u e=>?_,st.there⟩,⟨ra,k.nd,k.gn,k.gh⟩⟩
  rcases st.gnew p u e with z | z | z
  ·have z:(if p∈fp then H p else G p)=some u:=z
   by_cases hp:p∈fp
   ·exact .inr (.inl (List.mem_append_right _ hp))
   ·rw [if_neg hp] at z
    exact .inl z
  ·exact .inr (.inl (List.mem_append_left _ z))
  ·exact .inr (.inr z)
end
noncomputable def eFunW (c:O) (F:Addr→List D→Res R) (i:Nat) (fs:FOs):FX:=fun env=>(fs env).bind fun p=>match p.1 with
 | .var j :: os=>if j=i then (match p.2[i]? with
  | some (some (ow,d0))=>if jG c ow then (eP (p.2.set i none) os).bind fun ds=>(fW F c d0 ds).bind fun x=>if ay x.1.1 x.1.2 && ay c x.2 then .ok (x.1,(p.2.set i none).set i (some (ow,x.2))) else .ok (x.1,((p.2.set i none).map frz).set i (some (ow,x.2))) else .bad
  | _=>.bad) else .bad
 | _=>.bad
section
variable {X:Cx} {x:Str} {p pos:Pos} {e:Expr} {es:List Expr} {f0:FX} {fs:FOs}
theorem cx {F:Addr→List D→Res R} {c:O} {i k:Nat} (C:Ct X.prog X.w X.K X.mg X.base x k (spM X.K c F)) (hr:Room k X.A) (hg:Gl X x) (ha:QOs X (e :: es) fs) (hdb:(x == ("__debug__" : Str))=false:=by decide)
  (he:starEach (e :: es) X.env=(false,eval e X.env) :: starEach es X.env:=by rfl) (hpl:(backTo pos (starEach es X.env)).any (·.1)=false:=by rfl):QE X (.Call (.Name x p) (e :: es) [] pos) (eFunW c F i fs):=
 aP (qM C hr hg ha hdb he hpl) fun σ H Q hq0=>by
  obtain ⟨G,env,fp,r,env',rel,e,k⟩:=hq0
  obtain ⟨⟨os,e1⟩,ha,e⟩:=ab e
  dsimp only at e
  split at e
  ·rename_i j os'
   split at e
   ·rename_i hj
    subst hj
    split at e
    ·rename_i ow d0 hi
     split at e
     ·rename_i how
      obtain ⟨ds,hd,e⟩:=ab e
      obtain ⟨z,hz,e⟩:=ab e
      refine ⟨G,env,fp,_,e1,rel,ha,fun vs H1 G1 fp1 st1 rel1 ok1=>?_⟩
      show spM X.K c F (vs++[]) H1 Q _
      rw [List.append_nil]
      obtain ⟨y,ys,ey,k1,k2⟩:=ok1
      obtain ⟨v0,a,b,ev,r0,r2,pm⟩:=rel1.rep.take hi
      have k1:σ[j]?=some (some y):=k1
      rw [k1] at ev
      cases ev
      obtain ⟨⟨q,hq⟩,rc,back⟩:=rR how r0
      subst hq
      have nd:=List.nodup_append.mp (pm.nodup_iff.mp rel1.nd)
      have relR:Rel X.K G1 H1 (e1.set j none) σ b:=⟨r2,nd.2.1,fun w hw=>rel1.gn w (pm.mem_iff.mpr (List.mem_append_right _ hw)),rel1.gh⟩
      obtain ⟨G2,g12,g2h,g2a,hrep,hback⟩:=relR.lendM2 a (fun w hw hb=>nd.2.2 w hw w hb rfl) (fun w hw=>rel1.gn w (pm.mem_iff.mpr (List.mem_append_left _ hw)))
      refine ⟨G2,q,ys,d0,ds,_,a,g2h,ey,rc.step g12 (fun _ _=>rfl),nd.1,g2a,d8 g12 hrep k2 hd,mJ hz q,fun v H' G' fp' st rt=>?_⟩
      obtain ⟨o',d',p',c',d0',er,rl⟩:=rt
      cases er
      have fin:∀ (ee:PV.Env),ee.length=e1.length→(∃ G3 fp3,Step G1 H1 (a++b) G3 H' fp3∧Rel X.K G3 H' (some z.1 :: some (.pin q c,z.2) :: ee) (some v :: some (.ref q) :: σ) fp3)→(z.1,ee.set j (some (ow,z.2)))=(r,env')→Q v H':=by
       rintro ee hel ⟨G3,fp3,st3,rel3⟩ eee
       cases eee
       obtain ⟨a1,b1,ef,ro,relRest,comb⟩:=Rel.frame rel3
       have relO:Rel X.K G3 H' (some (ow,z.2) :: ee) (some (.ref q) :: σ) b1:=by
        obtain ⟨y2,ys2,ey2,v2,a2,b2,e21,e22,r21,r22⟩:=relRest.rep
        cases ey2
        cases e21
        rw [RepO] at r21
        exact ⟨⟨_,_,rfl,_,a2,b2,rfl,e22,back _ _ _ _ r21.2,r22⟩,relRest.nd,relRest.gn,relRest.gh⟩
       obtain ⟨fq,relB,stB⟩:=relO.back (i:=j) (by rw [hel];exact (List.getElem?_eq_some_iff.mp hi).1) k1
       obtain ⟨relF,stF⟩:=comb G3 H' _ _ fq stB relB
       rw [←ef] at stF
       exact k v H' G3 _ (st1.trans ((st3.perm (fun w=>pm.mem_iff.symm) (fun w hw=>hw)).trans stF)) relF
      obtain ⟨b1,b2⟩:=hback H' G' fp' _ _ st rl
      split at e
      ·rename_i hcl
       rw [Bool.and_eq_true] at hcl
       have e:=Res.ok.inj e
       refine fin (e1.set j none) (by rw [List.length_set]) (b1 fun w hw=>?_) e
       rcases List.mem_cons.mp hw with hw | hw
       ·cases hw;exact hcl.1
       ·rw [List.mem_singleton] at hw
        cases hw
        simp only [ay]
        exact hcl.2
      ·have e:=Res.ok.inj e
       exact fin ((e1.set j none).map frz) (by rw [List.length_map,List.length_set]) b2 e
     ·cases e
    ·cases e
   ·cases e
  ·cases e
end
section
variable {X:Cx} {pos:Pos} {fa:FO}
end
section
variable {X:Cx}
end
section
variable {X:Cx} {scope:Scope} {N:List Str} {tg iter elt:Expr} {ifs:List Expr} {pos:Pos} {fi:FI} {a:FG} {c:FT} {f:FX}
theorem lr (ix:List (Option Nat)) (N:List Str) (hc:X.calm=true) (hi:QIL X tg iter fi) (hg:∀ C s H fp pn,QG (aM X scope N C s H fp pn) tg a) (ht:∀ C s H fp pn,QTs (aM X scope N C s H fp pn) ifs c) (he:∀ C s H fp pn,QE (aM X scope N C s H fp pn) elt f)
  (hf:bB scope X.env=true:=by rfl) (hk:scope.kind=.function:=by rfl) (hcell:∀ y∈scope.names,y.2=.cell→scope.names.lookup y.1=some .cell:=by decide +kernel) (hnames:∀ y∈scope.names,y.2=.local→scope.names.lookup y.1=some .local:=by decide +kernel) (hix:g8 X scope N ix=true:=by rfl)
  (hs:∀ x,foldedSetIterable iter X.env x=pure x:=by intro _;rfl):QE X (.ListComp elt [⟨tg,iter,ifs,0⟩] scope pos) (ej fi ix a c f):=
 aP (mq (g:=tQG X.K a) (tc:=tQT X.K c) (te:=tQ X.K f) ix N hc hi hg ht he hf hk hcell hnames hix hs) fun _ _ _=>k8
end
end PV
namespace LW
open PySem L2 NX PV
noncomputable def gT:FS:=(iX (bI nN (ah (au (ej (iu (ah (au (bF 0)) (ah (au (bF 1)) az))) [none,none] (jQ 2 (a8 (aJ 0) (a8 (aJ 1) eh))) dt (bh fU (ar 0) (ar 1)))) az)))
noncomputable def bR:List D→Res R:=fBody 2 0 gT
noncomputable def jc:FS:=(iX (bI eB (ah (au (ej (bp (ar 2)) [none,some 0,some 1] (aJ 0) dt (bI nN (ah (au (ej (iu (ah (au (bF 1)) (ah (au (bF 2)) az))) [none,none,some 0] (jQ 2 (a8 (aJ 0) (a8 (aJ 1) eh))) dt (bh fU (au (bh ixD (ar 0) (ar 2))) (ar 1)))) az)))) az)))
noncomputable def bY:List D→Res R:=fBody 3 0 jc
noncomputable def bq:FS:=(sSeq (dI 3 (bh hU (au (bh mH (au (bh mH (au (bh fU (ar 3) (ar 3))) (au (bh fU (au (bC (.int 48271))) (ar 3))))) (au (bI jR (ah (ar 2) az))))) (au (bC (.int 2147483647)))))
  (mw (tf 2 (bF 3))))
noncomputable def cb:FS:=(bO (eBl (bh ltO (au (bI jR (ah (ar 2) az))) (ar 1)))
  bq 100000)
noncomputable def bS:FS:=(iX (bI tj (ah (ar 2) az)))
noncomputable def cJ:FS:=(sSeq (dI 2 (ej (or2 (sZ (rM (ar 0) kN (kO (bF 1)))) (or2 (jA (rM (ar 0) kN (kO (bF 1)))) (jB (rM (ar 0) kN (kO (bF 1)))))) [none] (aJ 0) dt (bh hU (ar 0) (au (bh kM (au (bC (.int 10))) (au (bC (.int 59))))))))
  (sSeq (dI 3 (bh mH (au (bC (.int 48271))) (au (bh hU (au (bI nN (ah (ar 2) az))) (au (bC (.int 2147483647)))))))
  (sSeq cb
  bS)))
noncomputable def aN:List D→Res R:=fBody 2 2 cJ
noncomputable def eI:FS:=(sSeq (sIf (eBl (cV eqO (ar 0) (au (nL fK))))
  (fV 0 (bC (.int 0)))
  fH)
  (fV 0 (bh hU (au (ePop 0)) (ar 1))))
noncomputable def aq:Addr→List D→Res R:=dF 2 0 (.l .f) eI
noncomputable def c9:FS:=(sSeq (dI 1 (eFunW (.l .f) aq 0 (ah (ar 0) (ah (au (bh kM (au (bC (.int 10))) (au (bC (.int 59))))) az))))
  (sSeq (sIf (eBl (cV eqO (au (bh hU (ar 1) (au (bC (.int 4))))) (au (bC (.int 3)))))
  (fV 0 (bh o7 (au (bh hU (au (bh ik (ar 1) (au (bC (.int 4))))) (au (bh mH (au (bh fU (au (bC (.int 2))) (au (bh kM (au (bC (.int 10))) (au (bC (.int 30))))))) (au (bC (.int 1))))))) (au (bh kM (au (bC (.int 10))) (au (bC (.int 30)))))))
  fH)
  (fV 0 (bh o7 (au (bh hU (au (bh ik (ar 1) (au (bC (.int 4))))) (au (bC (.int 7))))) (au (bC (.int 3)))))))
noncomputable def aj:Addr→List D→Res R:=dF 1 1 (.l .f) c9
noncomputable def fm:FS:=(fV 0 (bI eB (ah (au (c8 (bp (ar 1)) [none,some 0] 0 1 (aJ 0) dt (eFunW (.l .f) aj 1 (ah (ar 1) az)))) az)))
noncomputable def aR:Addr→List D→Res R:=dF 2 0 (.l .f) fm
noncomputable def br:FS:=(dI 2 (bh mH (ar 2) (au (bh fU (au (bh ixD (ar 0) (ar 3))) (au (bh ixD (ar 1) (ar 3)))))))
noncomputable def cf:FS:=(o3 (bp (au (bI jR (ah (ar 0) az)))) (aJ 3)
  br)
noncomputable def bT:FS:=(iX (mr 2))
noncomputable def cK:FS:=(sSeq (dI 2 (bC (.int 0)))
  (sSeq cf
  bT))
noncomputable def aO:List D→Res R:=fBody 2 2 cK
noncomputable def bZ:FS:=(mI 3 (bF 6) (bh mH (au (bh ixD (ar 3) (ar 6))) (au (bh fU (au (bh ixD (ar 4) (ar 6))) (ar 5)))))
noncomputable def cy:FS:=(o3 (bp (ar 2)) (aJ 6)
  bZ)
noncomputable def de:FS:=cy
noncomputable def dG:FS:=(o3 (iu (ah (au (bF 0)) (ah (au (bF 1)) az))) (jQ 2 (a8 (aJ 4) (a8 (aJ 5) eh)))
  de)
noncomputable def df:FS:=(iX (bI eB (ah (ar 3) az)))
noncomputable def ft:FS:=(sSeq (dI 3 (bh fU (au (nL (dD (bC (.int 0)) fK))) (ar 2)))
  (sSeq dG
  df))
noncomputable def bz:List D→Res R:=fBody 3 4 ft
noncomputable def dH:FS:=(iX (sY (eIs "int" (ar 0)) (ub (eIs "bool" (ar 0)))))
noncomputable def aH:List D→Res R:=fBody 1 0 dH
noncomputable def dg:FS:=(sSeq (sIf (bOr (qZ (eBl (eIs "tuple" (ar 0)))) (eBl (cV neO (au (bI jR (ah (ar 0) az))) (ar 1))))
  (iX (bC (.bl false)))
  fH)
  (iX (cV pC (au (bC (.bl false))) (au (ej (or2 (k9 0) (or2 (jA (bF 0)) (jB (bF 0)))) [none] (aJ 0) dt (jP aH (ah (ar 0) az)))))))
noncomputable def aS:List D→Res R:=fBody 2 0 dg
noncomputable def fY:FS:=(sSeq (dI 8 (jP bR (ah (au (bh ixD (ar 4) (ar 7))) (ah (au (bh ixD (ar 4) (au (bh o7 (ar 7) (au (bC (.int 1))))))) az))))
  (sIf (bOr (qZ (eBl (jP aH (ah (ar 8) az)))) (eBl (cV neO (ar 8) (au (jP aO (ah (au (bh ixD (ar 4) (ar 7))) (ah (au (bh ixD (ar 4) (au (bh o7 (ar 7) (au (bC (.int 1))))))) az)))))))
  (iX (bC (.bl false)))
  fH))
noncomputable def iz:FS:=(o3 (bp (ar 3)) (aJ 7)
  fY)
noncomputable def fZ:FS:=(sSeq (dI 8 (jP bY (ah (au (bh ixD (ar 6) (au (bC (.int 0))))) (ah (au (bh ixD (ar 6) (au (bC (.int 1))))) (ah (ar 2) az)))))
  (sSeq (sIf (bOr (qZ (eBl (jP aS (ah (ar 8) (ah (ar 2) az))))) (eBl (cV neO (ar 8) (au (jP bz (ah (ar 4) (ah (ar 5) (ah (ar 2) az))))))))
  (iX (bC (.bl false)))
  fH)
  (iX (sY (cV eqO (ar 6) (au (nL (dD (bF 4) (dD (bF 5) fK))))) (cV eqO (au (jP bY (ah (au (nL fK)) (ah (au (nL fK)) (ah (ar 2) az))))) (au (bh rU (au (ue (dD (bC (.int 0)) fK))) (ar 2))))))))
noncomputable def rV:FS:=(sSeq (dI 1 (jP aN (ah (ar 0) (ah (au (bC (.int 480))) az))))
  (sSeq (dI 2 (eFunW (.l .f) aq 1 (ah (ar 1) (ah (au (bC (.int 7))) az))))
  (sSeq (dI 3 (eFunW (.l .f) aq 1 (ah (ar 1) (ah (au (bC (.int 9))) az))))
  (sSeq (sIf (eBl (cV eqO (au (eFunW (.l .f) aq 1 (ah (ar 1) (ah (au (bC (.int 8))) az)))) (au (bC (.int 1)))))
  (dI 3 (eFunW (.l .f) aq 1 (ah (ar 1) (ah (au (bC (.int 61))) az))))
  fH)
  (sSeq (dI 4 (c8 (bp (ar 3)) [none,some 1,some 2] 1 1 (aJ 0) dt (eFunW (.l .f) aR 1 (ah (ar 1) (ah (ar 2) az)))))
  (sSeq (dI 5 (c8 (bp (ar 3)) [none,some 1] 1 1 (aJ 0) dt (eFunW (.l .f) aj 1 (ah (ar 1) az))))
  (sSeq (dI 6 (nL (dD (bI jE (ah (ar 4) az)) (dD (bI jE (ah (ar 5) az)) fK))))
  (sSeq iz
  fZ))))))))
noncomputable def pI:List D→Res R:=fBody 1 8 rV
end LW
namespace LW
open PySem PySem.Spec PyProof.Rows L2 NX PV
theorem u6 {α:Type} {Q:List α→Prop} (h:∀ a,Q [a]):∀ us,us.length=1→Q us
 | [a],_=>h a
theorem p5 {α:Type} {Q:List α→Prop} (h:∀ a b,Q [a,b]):∀ us,us.length=2→Q us
 | [a,b],_=>h a b
theorem u7 {α:Type} {Q:List α→Prop} (h:∀ a b c,Q [a,b,c]):∀ us,us.length=3→Q us
 | [a,b,c],_=>h a b c
noncomputable def top (i:Nat):Stmt:=PySem.Challenge.pw_netfinder_k40_products_and_sums.main.body.getD i (.Pass ⟨0,0,0,0⟩)
section
variable {P:Program} {w:World} {K:W.Frag} {mg:Str→Option Value} {base:Heap}
abbrev eJ:Stmt:=top 1
theorem jH:FnScope ["one","other"] ["one","other"] (defScope eJ):=⟨rfl,rfl,rfl,by decide +kernel,rfl,by decide +kernel,by decide +kernel⟩
theorem jI (Df:Def K mg "product" eJ) (z_sum:mg "sum" = none) (z_zip:mg "zip" = none):Ct P w K mg base "product" 1 (spF K bR):=
 ij Df jH (fun _ _ _ _ _ _=>p5 fun _ _=>rfl) fun f cdv A outer s H E hr=>
  (aA (cp (bW (kX rfl) (by rfl) z_sum k7 (af (ae (fS [none,none] ["number","factor"] rfl (fg (iw (by rfl) z_zip (af (ae (aZ (pv 0))) (af (ae (aZ (pv 1))) ai)))) (fun _ _ _ _ _=>(kJ rfl (cE (a7 (i:=0) (show List.Nodup (["number","factor"]:List Str) from by decide +kernel) rfl (lo rfl)) (cE (a7 (i:=1) (show List.Nodup (["number","factor"]:List Str) from by decide +kernel) rfl (lo rfl)) ig)))) (fun _ _ _ _ _=>cu) (fun _ _ _ _ _=>(aV cw (ag (pv 0)) (ag (pv 1)))))) ai))))
abbrev f6:Stmt:=top 2
theorem lu:FnScope ["rows","numbers","width"] ["rows","numbers","width"] (defScope f6):=⟨rfl,rfl,rfl,by decide +kernel,rfl,by decide +kernel,by decide +kernel⟩
theorem lx (Df:Def K mg "summed" f6) (z_range:mg "range" = none) (z_sum:mg "sum" = none) (z_tuple:mg "tuple" = none) (z_zip:mg "zip" = none):Ct P w K mg base "summed" 1 (spF K bY):=
 ij Df lu (fun _ _ _ _ _ _=>u7 fun _ _ _=>rfl) fun f cdv A outer s H E hr=>
  (aA (cp (cm fL (by rfl) z_tuple dM (af (ae (lr [none,some 0,some 1] ["at","rows","numbers"] rfl (fg (bD (by rfl) z_range (ag (pv 2)))) (fun _ _ _ _ _=>(a7 (i:=0) (show List.Nodup (["at","rows","numbers"]:List Str) from by decide +kernel) rfl (lo rfl))) (fun _ _ _ _ _=>cu) (fun _ _ _ _ _=>(bW (kX rfl) (by rfl) z_sum k7 (af (ae (fS [none,none,some 0] ["row","number","at"] rfl (fg (iw (by rfl) z_zip (af (ae (aZ (pv 1))) (af (ae (aZ (pv 2))) ai)))) (fun _ _ _ _ _=>(kJ rfl (cE (a7 (i:=0) (show List.Nodup (["row","number","at"]:List Str) from by decide +kernel) rfl (lo rfl)) (cE (a7 (i:=1) (show List.Nodup (["row","number","at"]:List Str) from by decide +kernel) rfl (lo rfl)) ig)))) (fun _ _ _ _ _=>cu) (fun _ _ _ _ _=>(aV cw (ae (eA (ag (pv 0)) (ag (pv 2)))) (ag (pv 1)))))) ai))))) ai))))
abbrev bJ:Stmt:=top 4
theorem bc:FnScope ["_law_script","_law_most","_law_deck","_law_last"] ["_law_script","_law_most"] (defScope bJ):=⟨rfl,rfl,rfl,by decide +kernel,rfl,by decide +kernel,by decide +kernel⟩
theorem eM (Df:Def K mg "_law_numbers" bJ) (z_len:mg "len" = none) (z_list:mg "list" = none) (z_reversed:mg "reversed" = none) (z_sum:mg "sum" = none):Ct P w K mg base "_law_numbers" 1 (spF K aN):=
 ij Df bc (fun _ _ _ _ _ _=>p5 fun _ _=>rfl) fun f cdv A outer s H E hr=>
  (ao (mG (i:=2) [none] ["_law_cell"] bc.nd rfl (lo rfl) rfl (fg (kZ (o4 (lb (ag (pv 0)) il (iq (aZ (pv 1))))) (kZ (nJ (lb (ag (pv 0)) il (iq (aZ (pv 1))))) (nK (lb (ag (pv 0)) il (iq (aZ (pv 1)))))))) (fun _ _ _ _ _=>(a7 (i:=0) (show List.Nodup (["_law_cell"]:List Str) from by decide +kernel) rfl (lo rfl))) (fun _ _ _ _ _=>cu) (fun _ _ _ _ _=>(aV eu (ag (pv 0)) (ae (aV i5 (ae av) (ae av))))))
  (ao (bN (i:=3) bc.nd rfl (lo rfl) (aV du (ae av) (ae (aV eu (ae (bW (kX rfl) (by rfl) z_sum k7 (af (ag (pv 2)) ai))) (ae av)))))
  (ao (mx 100000 PassesOwn.never (qY (rF hr.units0) (ae (bW fR (by rfl) z_len bt_len (af (ag (pv 2)) ai))) (ag (pv 1)) (cS _))
  (ao (bN (i:=3) bc.nd rfl (lo rfl) (aV eu (ae (aV du (ae (aV du (ae (aV cw (ag (pv 3)) (ag (pv 3)))) (ae (aV cw (ae av) (ag (pv 3)))))) (ae (bW fR (by rfl) z_len bt_len (af (ag (pv 2)) ai))))) (ae av)))
  (aA (oZ (kQ (pv 2) (aZ (pv 3)))))))
  (aA (cp (rT rfl (by rfl) z_list (by rfl) z_reversed (af (ag (pv 2)) ai)))))))
abbrev cR:Stmt:=top 5
theorem gU:FnScope ["_law_deck","_law_most"] ["_law_deck","_law_most"] (defScope cR):=⟨rfl,rfl,rfl,by decide +kernel,rfl,by decide +kernel,by decide +kernel⟩
theorem gW (Df:Def K mg "_law_draw" cR):Ct P w K mg base "_law_draw" 1 (spM K (.l .f) aq):=
 lh Df gU (fun _ _ _ _ _ _=>p5 fun _ _=>rfl) fun f cdv A outer s H E hr=>
  (ao (jz (dm (kY hr.units) (ag (pv 0)) (ae (eZ cv)) (cS _))
  (aA (eH (i:=0) av))
  dn)
  (aA (eH (i:=0) (aV eu (ae (rQ (pv 0))) (ag (pv 1))))))
abbrev b5:Stmt:=top 6
theorem cM:FnScope ["_law_deck","_law_number_here"] ["_law_deck"] (defScope b5):=⟨rfl,rfl,rfl,by decide +kernel,rfl,by decide +kernel,by decide +kernel⟩
theorem eQ (Df:Def K mg "_law_number" b5) (C__law_draw:Ct P w K mg base "_law_draw" 1 (spM K (.l .f) aq)):Ct P w K mg base "_law_number" 2 (spM K (.l .f) aj):=
 lh Df cM (fun _ _ _ _ _ _=>u6 fun _=>rfl) fun f cdv A outer s H E hr=>
  (ao (bN (i:=1) cM.nd rfl (lo rfl) (cx (i:=0) C__law_draw (hr.mono (by decide)) (by rfl) (af (ag (pv 0)) (af (ae (aV i5 (ae av) (ae av))) ai))))
  (ao (jz (dm (kY hr.units) (ae (aV eu (ag (pv 1)) (ae av))) (ae av) (cS _))
  (aA (eH (i:=0) (aV i4 (ae (aV eu (ae (aV kK (ag (pv 1)) (ae av))) (ae (aV du (ae (aV cw (ae av) (ae (aV i5 (ae av) (ae av))))) (ae av))))) (ae (aV i5 (ae av) (ae av))))))
  dn)
  (aA (eH (i:=0) (aV i4 (ae (aV eu (ae (aV kK (ag (pv 1)) (ae av))) (ae av))) (ae av))))))
abbrev dv:Stmt:=top 7
theorem iA:FnScope ["_law_deck","_law_width"] ["_law_deck","_law_width"] (defScope dv):=⟨rfl,rfl,rfl,by decide +kernel,rfl,by decide +kernel,by decide +kernel⟩
theorem iC (Df:Def K mg "_law_row" dv) (C__law_number:Ct P w K mg base "_law_number" 2 (spM K (.l .f) aj)) (z_range:mg "range" = none) (z_tuple:mg "tuple" = none):Ct P w K mg base "_law_row" 3 (spM K (.l .f) aR):=
 lh Df iA (fun _ _ _ _ _ _=>p5 fun _ _=>rfl) fun f cdv A outer s H E hr=>
  (aA (eH (i:=0) (cm fL (by rfl) z_tuple dM (af (ae (mQ (j:=0) (k0:=1) [none,some 0] ["_law_k","_law_deck"] rfl (bD (by rfl) z_range (ag (pv 1))) (fun _ _ _ _ _=>(a7 (i:=0) (show List.Nodup (["_law_k","_law_deck"]:List Str) from by decide +kernel) rfl (lo rfl))) (fun _ _ _ _ _=>cu) (fun _ _ _ _ _=>(cx (i:=1) C__law_number (hr.mono (by decide)) (by rfl) (af (ag (pv 1)) ai))))) ai))))
abbrev bK:Stmt:=top 8
theorem bf:FnScope ["_law_one","_law_other","_law_total","_law_k"] ["_law_one","_law_other"] (defScope bK):=⟨rfl,rfl,rfl,by decide +kernel,rfl,by decide +kernel,by decide +kernel⟩
theorem eN (Df:Def K mg "_law_product" bK) (z_len:mg "len" = none) (z_range:mg "range" = none):Ct P w K mg base "_law_product" 1 (spF K aO):=
 ij Df bf (fun _ _ _ _ _ _=>p5 fun _ _=>rfl) fun f cdv A outer s H E hr=>
  (ao (bN (i:=2) bf.nd rfl (lo rfl) av)
  (ao (iY PassesOwn.never rfl (bD (by rfl) z_range (ae (bW fR (by rfl) z_len bt_len (af (ag (pv 0)) ai)))) (a7 (i:=3) bf.nd rfl (lo rfl))
  (aA (bN (i:=2) bf.nd rfl (lo rfl) (aV du (ag (pv 2)) (ae (aV cw (ae (eA (ag (pv 0)) (ag (pv 3)))) (ae (eA (ag (pv 1)) (ag (pv 3))))))))))
  (aA (cp (oV (pv 2))))))
abbrev dw:Stmt:=top 9
theorem bE:FnScope ["_law_rows","_law_numbers_here","_law_width","_law_due","_law_row_here","_law_number_here","_law_k"] ["_law_rows","_law_numbers_here","_law_width"] (defScope dw):=⟨rfl,rfl,rfl,by decide +kernel,rfl,by decide +kernel,by decide +kernel⟩
theorem iE (Df:Def K mg "_law_sum" dw) (z_range:mg "range" = none) (z_tuple:mg "tuple" = none) (z_zip:mg "zip" = none):Ct P w K mg base "_law_sum" 1 (spF K bz):=
 ij Df bE (fun _ _ _ _ _ _=>u7 fun _ _ _=>rfl) fun f cdv A outer s H E hr=>
  (ao (bN (i:=3) bE.nd rfl (lo rfl) (aV cw (ae (eZ (bX av cv))) (ag (pv 2))))
  (ao (iY PassesOwn.never rfl (iw (by rfl) z_zip (af (ae (aZ (pv 0))) (af (ae (aZ (pv 1))) ai))) (kJ rfl (cE (a7 (i:=4) bE.nd rfl (lo rfl)) (cE (a7 (i:=5) bE.nd rfl (lo rfl)) ig)))
  (aA (iY PassesOwn.never rfl (bD (by rfl) z_range (ag (pv 2))) (a7 (i:=6) bE.nd rfl (lo rfl))
  (aA (pB (pv 3) (aZ (pv 6)) (aV du (ae (eA (ag (pv 3)) (ag (pv 6)))) (ae (aV cw (ae (eA (ag (pv 4)) (ag (pv 6)))) (ag (pv 5))))))))))
  (aA (cp (cm fL (by rfl) z_tuple dM (af (ag (pv 3)) ai))))))
abbrev cz:Stmt:=top 10
theorem f7:FnScope ["_law_found"] ["_law_found"] (defScope cz):=⟨rfl,rfl,rfl,by decide +kernel,rfl,by decide +kernel,by decide +kernel⟩
theorem f9 (Df:Def K mg "_law_whole" cz) (z_bool:mg "bool" = none) (z_int:mg "int" = none) (z_isinstance:mg "isinstance" = none):Ct P w K mg base "_law_whole" 1 (spF K aH):=
 ij Df f7 (fun _ _ _ _ _ _=>u6 fun _=>rfl) fun f cdv A outer s H E hr=>
  (aA (cp (nG (pd (T:="int") (by decide) (ag (pv 0)) (by rfl) z_isinstance (by rfl) z_int qN) (nF (q5 (pd (T:="bool") (by decide) (ag (pv 0)) (by rfl) z_isinstance (by rfl) z_bool oN))))))
abbrev b6:Stmt:=top 11
theorem eS:FnScope ["_law_told","_law_width"] ["_law_told","_law_width"] (defScope b6):=⟨rfl,rfl,rfl,by decide +kernel,rfl,by decide +kernel,by decide +kernel⟩
theorem eT (Df:Def K mg "_law_is_row" b6) (C__law_whole:Ct P w K mg base "_law_whole" 1 (spF K aH)) (z_isinstance:mg "isinstance" = none) (z_len:mg "len" = none) (z_tuple:mg "tuple" = none):Ct P w K mg base "_law_is_row" 2 (spF K aS):=
 ij Df eS (fun _ _ _ _ _ _=>p5 fun _ _=>rfl) fun f cdv A outer s H E hr=>
  (ao (jz (QW.qt (oX (kH (kF (pd (T:="tuple") (by decide) (ag (pv 0)) (by rfl) z_isinstance (by rfl) z_tuple dM))) (kG (dm (pb hr.units) (ae (bW fR (by rfl) z_len bt_len (af (ag (pv 0)) ai))) (ag (pv 1)) (cS _)))))
  (aA (cp mv))
  dn)
  (aA (cp (ia (pD hr.u65) (ae mv) (ae (fS [none] ["_law_number_here"] rfl (nS (pg (pv 0)) (nS (fg (nJ (aZ (pv 0)))) (fg (nK (aZ (pv 0)))))) (fun _ _ _ _ _=>(a7 (i:=0) (show List.Nodup (["_law_number_here"]:List Str) from by decide +kernel) rfl (lo rfl))) (fun _ _ _ _ _=>cu) (fun _ _ _ _ _=>(cW C__law_whole (hr.mono (by decide)) (by rfl) (af (ag (pv 0)) ai))))) (by with_unfolding_all rfl)))))
abbrev gc:Stmt:=top 13
theorem cA:FnScope ["_law_script","_law_deck","_law_width","_law_count","_law_rows","_law_numbers_here","_law_handed","_law_k","_law_told"] ["_law_script"] (defScope gc):=⟨rfl,rfl,rfl,by decide +kernel,rfl,by decide +kernel,by decide +kernel⟩
theorem rW {f:Addr} {fd:FuncData} (F:Fun K "law" "law" gc f fd) (C__law_draw:Ct P w K mg base "_law_draw" 1 (spM K (.l .f) aq)) (C__law_is_row:Ct P w K mg base "_law_is_row" 2 (spF K aS)) (C__law_number:Ct P w K mg base "_law_number" 2 (spM K (.l .f) aj)) (C__law_numbers:Ct P w K mg base "_law_numbers" 1 (spF K aN)) (C__law_product:Ct P w K mg base "_law_product" 1 (spF K aO)) (C__law_row:Ct P w K mg base "_law_row" 3 (spM K (.l .f) aR)) (C__law_sum:Ct P w K mg base "_law_sum" 1 (spF K bz)) (C__law_whole:Ct P w K mg base "_law_whole" 1 (spF K aH)) (C_product:Ct P w K mg base "product" 1 (spF K bR)) (C_summed:Ct P w K mg base "summed" 1 (spF K bY)) (z_list:mg "list" = none) (z_range:mg "range" = none):FnOk P w K mg base CX0 4 f fd ["_law_script"] (spF K pI):=
 fnok_of F cA fun cdv A outer s H E hr=>
  (ao (bN (i:=1) cA.nd rfl (lo rfl) (cW C__law_numbers (hr.mono (by decide)) (by rfl) (af (ag (pv 0)) (af (ae av) ai))))
  (ao (bN (i:=2) cA.nd rfl (lo rfl) (cx (i:=1) C__law_draw (hr.mono (by decide)) (by rfl) (af (ag (pv 1)) (af (ae av) ai))))
  (ao (bN (i:=3) cA.nd rfl (lo rfl) (cx (i:=1) C__law_draw (hr.mono (by decide)) (by rfl) (af (ag (pv 1)) (af (ae av) ai))))
  (ao (jz (dm (kY hr.units) (ae (cx (i:=1) C__law_draw (hr.mono (by decide)) (by rfl) (af (ag (pv 1)) (af (ae av) ai)))) (ae av) (cS _))
  (aA (bN (i:=3) cA.nd rfl (lo rfl) (cx (i:=1) C__law_draw (hr.mono (by decide)) (by rfl) (af (ag (pv 1)) (af (ae av) ai)))))
  dn)
  (ao (jb (i:=4) (j:=1) (k0:=1) [none,some 1,some 2] ["_law_k","_law_deck","_law_width"] cA.nd rfl (lo rfl) rfl (bD (by rfl) z_range (ag (pv 3))) (fun _ _ _ _ _=>(a7 (i:=0) (show List.Nodup (["_law_k","_law_deck","_law_width"]:List Str) from by decide +kernel) rfl (lo rfl))) (fun _ _ _ _ _=>cu) (fun _ _ _ _ _=>(cx (i:=1) C__law_row (hr.mono (by decide)) (by rfl) (af (ag (pv 1)) (af (ag (pv 2)) ai)))))
  (ao (jb (i:=5) (j:=1) (k0:=1) [none,some 1] ["_law_k","_law_deck"] cA.nd rfl (lo rfl) rfl (bD (by rfl) z_range (ag (pv 3))) (fun _ _ _ _ _=>(a7 (i:=0) (show List.Nodup (["_law_k","_law_deck"]:List Str) from by decide +kernel) rfl (lo rfl))) (fun _ _ _ _ _=>cu) (fun _ _ _ _ _=>(cx (i:=1) C__law_number (hr.mono (by decide)) (by rfl) (af (ag (pv 1)) ai))))
  (ao (bN (i:=6) cA.nd rfl (lo rfl) (eZ (bX (cm kR (by rfl) z_list ki (af (ag (pv 4)) ai)) (bX (cm kR (by rfl) z_list ki (af (ag (pv 5)) ai)) cv))))
  (ao (iY PassesOwn.never rfl (bD (by rfl) z_range (ag (pv 3))) (a7 (i:=7) cA.nd rfl (lo rfl))
  (ao (bN (i:=8) cA.nd rfl (lo rfl) (cW C_product (hr.mono (by decide)) (by rfl) (af (ae (eA (ag (pv 4)) (ag (pv 7)))) (af (ae (eA (ag (pv 4)) (ae (aV i4 (ag (pv 7)) (ae av))))) ai))))
  (aA (jz (QW.qt (oX (kH (kF (cW C__law_whole (hr.mono (by decide)) (by rfl) (af (ag (pv 8)) ai)))) (kG (dm (pb hr.units) (ag (pv 8)) (ae (cW C__law_product (hr.mono (by decide)) (by rfl) (af (ae (eA (ag (pv 4)) (ag (pv 7)))) (af (ae (eA (ag (pv 4)) (ae (aV i4 (ag (pv 7)) (ae av))))) ai)))) (cS _)))))
  (aA (cp mv))
  dn))))
  (ao (bN (i:=8) cA.nd rfl (lo rfl) (cW C_summed (hr.mono (by decide)) (by rfl) (af (ae (eA (ag (pv 6)) (ae av))) (af (ae (eA (ag (pv 6)) (ae av))) (af (ag (pv 2)) ai)))))
  (ao (jz (QW.qt (oX (kH (kF (cW C__law_is_row (hr.mono (by decide)) (by rfl) (af (ag (pv 8)) (af (ag (pv 2)) ai))))) (kG (dm (pb hr.units) (ag (pv 8)) (ae (cW C__law_sum (hr.mono (by decide)) (by rfl) (af (ag (pv 4)) (af (ag (pv 5)) (af (ag (pv 2)) ai))))) (cS _)))))
  (aA (cp mv))
  dn)
  (aA (cp (nG (ia (kY hr.units) (ag (pv 6)) (ae (eZ (bX (aZ (pv 4)) (bX (aZ (pv 5)) cv)))) (cS _)) (nF (ia (kY hr.units) (ae (cW C_summed (hr.mono (by decide)) (by rfl) (af (ae (eZ cv)) (af (ae (eZ cv)) (af (ag (pv 2)) ai))))) (ae (aV pH (ae (rk (bX av cv))) (ag (pv 2)))) (cS _))))))))))))))))
end
end LW
namespace PV
open PySem L2 NX
class Cont (α β:Type) where
 run:α→Res β
noncomputable def Res.bnd {α β:Type} [f:Cont α β] (x:Res α):Res β:=x.bind f.run
theorem bOk {α β:Type} (a:α) (f:α→Res β):Res.bnd (Res.ok a) (f:=⟨f⟩)=f a:=id rfl
theorem bBad {α β:Type} (f:α→Res β):Res.bnd (Res.bad:Res α) (f:=⟨f⟩)=.bad:=id rfl
section
variable (env:PV.Env) (i n:Nat) (d:D) (f g:FX) (c c':FT) (fo fo' fo'':FO) (fs:FOs) (fd:FDs) (s t:FS) (op op':D→D→Res R) (F:List D→Res R) (a:FG) (as:FGs) (fi fj:FI) (fp fp':FP) (T:String)
theorem x_eCon:bC d env=.ok ((.f,d),env):=id rfl
theorem x_eVarF:bF i env=match env[i]? with | some (some r)=>.ok ((.f,r.2),env.set i (some (fz r.1,r.2))) | _=>.bad:=id rfl
theorem x_fzF:fz .f=.f:=id rfl
theorem x_fzL (c:O):fz (.l c)=.f:=id rfl
theorem x_fzT (cs:List O):fz (.t cs)=.f:=id rfl
theorem x_fzD:fz .d=.f:=id rfl
theorem x_fzP (p:Addr):fz (.pin p .f)=.pin p .f:=id rfl
theorem x_fzPL (p:Addr) (c:O):fz (.pin p (.l c))=.f:=id rfl
theorem x_fzPD (p:Addr):fz (.pin p .d)=.f:=id rfl
theorem x_shalP (p:Addr):lM (.pin p .f)=true:=id rfl
theorem x_shalPL (p:Addr):lM (.pin p (.l .f))=true:=id rfl
theorem x_shalPD (p:Addr):lM (.pin p .d)=true:=id rfl
theorem x_eVarM:mr i env=match env[i]? with | some (some r)=>.ok (r,env.set i none) | _=>.bad:=id rfl
theorem x_oVal:au f env=Res.bnd (f env) (f:=⟨fun p=>.ok (.val p.1.2,p.2)⟩):=id rfl
theorem x_oVar:ar i env=match env[i]? with | some (some _)=>.ok (.var i,env) | _=>.bad:=id rfl
theorem x_osNil:az env=.ok ([],env):=id rfl
theorem x_osCons:ah fo fs env=Res.bnd (fo env) (f:=⟨fun p=>Res.bnd (fs p.2) (f:=⟨fun q=>.ok (p.1 :: q.1,q.2)⟩)⟩):=id rfl
theorem x_dsNil:fK env=.ok ([],env):=id rfl
theorem x_dsCons:dD f fd env=Res.bnd (f env) (f:=⟨fun p=>Res.bnd (fd p.2) (f:=⟨fun q=>.ok (p.1.2 :: q.1,q.2)⟩)⟩):=id rfl
theorem x_derV:der env (.val d)=.ok d:=id rfl
theorem x_derI:der env (.var i)=match env[i]? with | some (some r)=>if lM r.1 then .ok r.2 else .bad | _=>.bad:=id rfl
theorem x_derAV:jy env (.val d)=.ok d:=id rfl
theorem x_derAI:jy env (.var i)=match env[i]? with | some (some r)=>.ok r.2 | _=>.bad:=id rfl
theorem x_dersN:hJ env []=.ok []:=id rfl
theorem x_dersC (o:Opd) (os:List Opd):hJ env (o :: os)=Res.bnd (der env o) (f:=⟨fun d=>Res.bnd (hJ env os) (f:=⟨fun ds=>.ok (d :: ds)⟩)⟩):=id rfl
theorem x_dersAN:eP env []=.ok []:=id rfl
theorem x_dersAC (o:Opd) (os:List Opd):eP env (o :: os)=Res.bnd (jy env o) (f:=⟨fun d=>Res.bnd (eP env os) (f:=⟨fun ds=>.ok (d :: ds)⟩)⟩):=id rfl
theorem x_shalF:lM .f=true:=id rfl
theorem x_shalL:lM (.l .f)=true:=id rfl
theorem x_shalD:lM .d=true:=id rfl
theorem x_eBin:bh op fo fo' env=Res.bnd (fo env) (f:=⟨fun p=>Res.bnd (fo' p.2) (f:=⟨fun q=>Res.bnd (der q.2 p.1) (f:=⟨fun a=>Res.bnd (der q.2 q.1) (f:=⟨fun b=>Res.bnd (op a b) (f:=⟨fun r=>.ok (r,q.2)⟩)⟩)⟩)⟩)⟩):=id rfl
theorem x_eBinA:cV op fo fo' env=Res.bnd (fo env) (f:=⟨fun p=>Res.bnd (fo' p.2) (f:=⟨fun q=>Res.bnd (jy q.2 p.1) (f:=⟨fun a=>Res.bnd (jy q.2 q.1) (f:=⟨fun b=>Res.bnd (op a b) (f:=⟨fun r=>.ok (r,q.2)⟩)⟩)⟩)⟩)⟩):=id rfl
theorem x_eBl:eBl f env=Res.bnd (f env) (f:=⟨fun p=>match p.1.2 with | .bl k=>.ok (k,p.2) | _=>.bad⟩):=id rfl
theorem x_bAnd:vU c c' env=Res.bnd (c env) (f:=⟨fun p=>if p.1 then c' p.2 else .ok (false,p.2)⟩):=id rfl
theorem x_bOr:bOr c c' env=Res.bnd (c env) (f:=⟨fun p=>if p.1 then .ok (true,p.2) else c' p.2⟩):=id rfl
theorem x_bNot:qZ c env=Res.bnd (c env) (f:=⟨fun p=>.ok (!p.1,p.2)⟩):=id rfl
theorem x_eAnd:sY f g env=Res.bnd (f env) (f:=⟨fun p=>match p.1.2 with | .bl true=>g p.2 | .bl false=>.ok ((.f,.bl false),p.2) | _=>.bad⟩):=id rfl
theorem x_eOr:eOr f g env=Res.bnd (f env) (f:=⟨fun p=>match p.1.2 with | .bl true=>.ok ((.f,.bl true),p.2) | .bl false=>g p.2 | _=>.bad⟩):=id rfl
theorem x_eNot:ub f env=Res.bnd (f env) (f:=⟨fun p=>match p.1.2 with | .bl k=>.ok ((.f,.bl (!k)),p.2) | _=>.bad⟩):=id rfl
theorem x_eIf:eIf c f g env=Res.bnd (c env) (f:=⟨fun p=>if p.1 then f p.2 else g p.2⟩):=id rfl
theorem x_eChain:rg op op' fo fo' fo'' env=Res.bnd (fo env) (f:=⟨fun p=>Res.bnd (fo' p.2) (f:=⟨fun q=>Res.bnd (der q.2 p.1) (f:=⟨fun a=>Res.bnd (der q.2 q.1) (f:=⟨fun b=>Res.bnd (op a b) (f:=⟨fun r=>match r with
 | (.f,.bl true)=>Res.bnd (fo'' q.2) (f:=⟨fun t=>Res.bnd (der t.2 q.1) (f:=⟨fun b=>Res.bnd (der t.2 t.1) (f:=⟨fun c=>Res.bnd (op' b c) (f:=⟨fun r=>.ok (r,t.2)⟩)⟩)⟩)⟩)
 | (.f,.bl false)=>.ok ((.f,.bl false),q.2)
 | _=>.bad⟩)⟩)⟩)⟩)⟩):=id rfl
theorem x_eCall:bI F fs env=Res.bnd (fs env) (f:=⟨fun p=>Res.bnd (hJ p.2 p.1) (f:=⟨fun ds=>Res.bnd (F ds) (f:=⟨fun r=>.ok (r,p.2)⟩)⟩)⟩):=id rfl
theorem x_eFun:jP F fs env=Res.bnd (fs env) (f:=⟨fun p=>Res.bnd (eP p.2 p.1) (f:=⟨fun ds=>Res.bnd (F ds) (f:=⟨fun r=>.ok (r,if ay r.1 r.2 then p.2 else p.2.map frz)⟩)⟩)⟩):=id rfl
theorem x_eTup:ue fd env=Res.bnd (fd env) (f:=⟨fun p=>if p.1.length≤1000 then .ok ((.f,.tup p.1),p.2) else .bad⟩):=id rfl
theorem x_eLst:nL fd env=Res.bnd (fd env) (f:=⟨fun p=>if p.1.length≤1000 then .ok ((.l .f,.lst p.1),p.2) else .bad⟩):=id rfl
theorem x_eSl:eSl fo fp fp' env=Res.bnd (fo env) (f:=⟨fun p=>Res.bnd (fp p.2) (f:=⟨fun q=>Res.bnd (fp' q.2) (f:=⟨fun t=>Res.bnd (der t.2 p.1) (f:=⟨fun d=>Res.bnd (slD d q.1 t.1) (f:=⟨fun r=>.ok (r,t.2)⟩)⟩)⟩)⟩)⟩):=id rfl
theorem x_pNone:kN env=.ok (none,env):=id rfl
theorem x_pSome:kO f env=Res.bnd (f env) (f:=⟨fun p=>match p.1.2 with | .int i=>.ok (some i,p.2) | _=>.bad⟩):=id rfl
theorem x_eApp:tf i f env=if kP env i then (Res.bnd (f env) (f:=⟨fun (p:R×PV.Env)=>match p.2[i]? with
 | some (some (.l .f,.lst ds))=>if ds.length < sizeLine then .ok ((.f,.non),p.2.set i (some (.l .f,.lst (ds++[p.1.2])))) else .bad
 | _=>.bad⟩)) else .bad:=id rfl
theorem x_isLst:kP env i=match env[i]? with | some (some (_,.lst _))=>true | _=>false:=id rfl
theorem x_eIs:eIs T fo env=Res.bnd (fo env) (f:=⟨fun p=>Res.bnd (jy p.2 p.1) (f:=⟨fun d=>.ok ((.f,.bl (mD T d)),p.2)⟩)⟩):=id rfl
theorem x_eMaxD:uk f g env=Res.bnd (f env) (f:=⟨fun p=>Res.bnd (g p.2) (f:=⟨fun q=>match (gu p.1.2).bind bH,q.1.2 with | some ns,.int d=>.ok ((.f,.int (NX.maxD ns d)),q.2) | _,_=>.bad⟩)⟩):=id rfl
theorem x_eMtS (gg:List Nat→List D→Res R):vY gg fo fs env=Res.bnd (fo env) (f:=⟨fun p=>match der p.2 p.1 with
 | .ok (.str l)=>Res.bnd (fs p.2) (f:=⟨fun q=>Res.bnd (hJ q.2 q.1) (f:=⟨fun ds=>Res.bnd (gg l ds) (f:=⟨fun r=>.ok (r,q.2)⟩)⟩)⟩)
 | _=>.bad⟩):=id rfl
theorem x_eNewD (tk:Bool):eNewD tk env=.ok ((.d,.dct tk [] []),env):=id rfl
theorem x_eComp (ix:List (Option Nat)):ej fi ix a c f env=Res.bnd (fi env) (f:=⟨fun p=>Res.bnd (cq a c f p.1 (aT ix p.2)) (f:=⟨fun ds=>if ds.length≤sizeLine then .ok ((.l .f,.lst ds),if flatDs ds then p.2 else p.2.map frz) else .bad⟩)⟩):=id rfl
theorem x_compEnvN:aT [] env=[]:=id rfl
theorem x_compEnvO (ix:List (Option Nat)):aT (none :: ix) env=none :: aT ix env:=id rfl
theorem x_compEnvS (ix:List (Option Nat)):aT (some i :: ix) env=(match env[i]? with | some (some r)=>some (O.f,r.2) | _=>none) :: aT ix env:=id rfl
theorem x_cYes:dt env=.ok (true,env):=id rfl
theorem x_compLN:cq a c f [] env=.ok []:=id rfl
theorem x_compLC (ds:List D):cq a c f (d :: ds) env=Res.bnd (a d env) (f:=⟨fun e=>Res.bnd (c e) (f:=⟨fun p=>if p.1 then (Res.bnd (f p.2) (f:=⟨fun q=>Res.bnd (cq a c f ds q.2) (f:=⟨fun rs=>.ok (q.1.2 :: rs)⟩)⟩)) else cq a c f ds p.2⟩)⟩):=id rfl
theorem rX:sZ f env=Res.bnd (f env) (f:=⟨fun p=>match p.1.2 with | .lst ds=>.ok (ds,p.2) | _=>.bad⟩):=id rfl
theorem ly:jA f env=Res.bnd (f env) (f:=⟨fun p=>match p.1.2 with | .tup ds=>.ok (ds,p.2) | _=>.bad⟩):=id rfl
theorem lz:jB f env=Res.bnd (f env) (f:=⟨fun p=>match p.1.2 with | .str l=>.ok (l.map fun c=>.str [c],p.2) | _=>.bad⟩):=id rfl
theorem iF:or2 fi fj env=match fi env with | .ok a=>.ok a | _=>fj env:=by
 unfold or2
 cases fi env <;> rfl
theorem x_iAny:or2 (sZ f) (or2 (jA f) (jB f)) env=Res.bnd (f env) (f:=⟨fun p=>match p.1.2 with
 | .lst ds=>.ok (ds,p.2)
 | .tup ds=>.ok (ds,p.2)
 | .str l=>.ok (l.map fun c=>.str [c],p.2)
 | _=>.bad⟩):=by
 rw [iF,iF,rX,ly,lz]
 cases f env with
 | ok p=>
  obtain ⟨⟨o,d⟩,e⟩:=p
  cases d <;> rfl
 | exc c=>rfl
 | bad=>rfl
theorem x_iAnyV:or2 (k9 i) (or2 (jA (bF i)) (jB (bF i))) env=match env[i]? with
 | some (some (_,.lst ds))=>.ok (ds,env)
 | some (some (o,.tup ds))=>.ok (ds,env.set i (some (fz o,.tup ds)))
 | some (some (o,.str l))=>.ok (l.map fun c=>.str [c],env.set i (some (fz o,.str l)))
 | _=>.bad:=by
 rw [iF,iF,ly,lz,x_eVarF]
 unfold k9
 cases env[i]? with
 | none=>rfl
 | some r=>
  cases r with
  | none=>rfl
  | some r=>
   obtain ⟨o,d⟩:=r
   cases d <;> rfl
theorem x_iRange1:bp fo env=Res.bnd (fo env) (f:=⟨fun p=>Res.bnd (der p.2 p.1) (f:=⟨fun d=>match d with
 | .int j=>if -4611686018427387904≤j∧j < 4611686018427387904 then .ok ((List.range j.toNat).map fun (k:Nat)=>D.int (k:Int),p.2) else .bad
 | _=>.bad⟩)⟩):=id rfl
theorem x_iRange2:o5 fs env=Res.bnd (fs env) (f:=⟨fun p=>Res.bnd (hJ p.2 p.1) (f:=⟨fun d=>match d with
 | [.int i,.int j]=>if (-4611686018427387904≤i∧i < 4611686018427387904)∧-4611686018427387904≤j∧j < 4611686018427387904 then .ok ((List.range (j - i).toNat).map fun (k:Nat)=>D.int (i + (k:Int)),p.2) else .bad
 | _=>.bad⟩)⟩):=id rfl
theorem x_iZipD (k1 k2:Bool):jD k1 k2 fs env=Res.bnd (fs env) (f:=⟨fun p=>match p.1 with
 | [.val d1,.val d2]=>Res.bnd (dq k1 d1) (f:=⟨fun a=>Res.bnd (dq k2 d2) (f:=⟨fun b=>.ok ((a.zip b).map fun z=>D.tup [z.1,z.2],p.2)⟩)⟩)
 | _=>.bad⟩):=id rfl
theorem x_aName:aJ i d env=if i < env.length then .ok (env.set i (some (.f,d))) else .bad:=id rfl
theorem x_asNil:eh [] env=.ok env:=id rfl
theorem x_asCons (ds:List D):a8 a as (d :: ds) env=Res.bnd (a d env) (f:=⟨fun e=>as ds e⟩):=id rfl
theorem x_aTup (ds:List D):jQ n as (.tup ds) env=if ds.length=n then as ds env else .bad:=id rfl
theorem x_sSeq:sSeq s t env=Res.bnd (s env) (f:=⟨fun o=>match o with | .nx e=>t e | o=>.ok o⟩):=id rfl
theorem x_sPass:fH env=.ok (.nx env):=id rfl
theorem x_sSet:dI i f env=Res.bnd (f env) (f:=⟨fun p=>if i < p.2.length then .ok (.nx (p.2.set i (some p.1))) else .bad⟩):=id rfl
theorem x_sDrop:mw f env=Res.bnd (f env) (f:=⟨fun p=>.ok (.nx p.2)⟩):=id rfl
theorem x_sRet:iX f env=Res.bnd (f env) (f:=⟨fun p=>.ok (.rt p.1)⟩):=id rfl
theorem x_sIf:sIf c s t env=Res.bnd (c env) (f:=⟨fun p=>if p.1 then s p.2 else t p.2⟩):=id rfl
theorem x_sFor:o3 fi a s env=Res.bnd (fi env) (f:=⟨fun p=>gs a s p.1 p.2⟩):=id rfl
theorem x_forLN:gs a s [] env=.ok (.nx env):=id rfl
theorem x_forLC (ds:List D):gs a s (d :: ds) env=Res.bnd (a d env) (f:=⟨fun e=>Res.bnd (s e) (f:=⟨fun o=>match o with
 | .nx e=>gs a s ds e
 | .ct e=>gs a s ds e
 | .bk e=>.ok (.nx e)
 | .rt r=>.ok (.rt r)⟩)⟩):=id rfl
theorem x_sWhile:bO c s (n + 1) env=Res.bnd (c env) (f:=⟨fun p=>if p.1 then (Res.bnd (s p.2) (f:=⟨fun o=>match o with
  | .nx e=>bO c s n e
  | .ct e=>bO c s n e
  | .bk e=>.ok (.nx e)
  | .rt r=>.ok (.rt r)⟩)) else .ok (.nx p.2)⟩):=id rfl
theorem x_sPut:vX i f g env=Res.bnd (g env) (f:=⟨fun (p:R×PV.Env)=>Res.bnd (f p.2) (f:=⟨fun (q:R×PV.Env)=>match p.2[i]?,q.2[i]? with
 | some (some _),some (some (.d,.dct tk ks vs))=>if eF tk q.1.2 && decide (ks.length < sizeLine) then .ok (.nx (q.2.set i (some (.d,.dct tk (ti ks vs q.1.2 p.1.2).1 (ti ks vs q.1.2 p.1.2).2)))) else .bad
 | _,_=>.bad⟩)⟩):=id rfl
theorem x_sAsg:vZ f a env=Res.bnd (f env) (f:=⟨fun p=>Res.bnd (a p.1.2 p.2) (f:=⟨fun e=>.ok (.nx e)⟩)⟩):=id rfl
theorem cB (ds:List D) (nn:Nat) (h:ds.length=n):fBody n nn s ds=Res.bnd (s (ds.map (fun d=>some (O.f,d))++List.replicate nn none)) (f:=⟨fun o=>match o with
 | .rt r=>.ok r
 | .nx _=>.ok (.f,.non)
 | _=>.bad⟩):=by
 unfold fBody
 rw [if_pos h]
 all_goals cases s (ds.map (fun d=>some (O.f,d))++List.replicate nn none) with
 | ok o=>cases o <;> rfl
 | exc c=>rfl
 | bad=>rfl
end
theorem line_le {n:Nat} (h:n≤16777216):n≤sizeLine:=by rw [line_eq];exact h
section
variable (a b:Int) (x y:List Nat) (p q:Bool) (ds es:List D)
theorem ur:eqO (.int a) (.int b)=.ok (.f,.bl (a == b)):=by simp only [eqO,plainD,eqD,Bool.and_self,if_true]
theorem uu:eqO (.str x) (.str y)=.ok (.f,.bl (x == y)):=by simp only [eqO,plainD,eqD,Bool.and_self,if_true]
theorem rY:neO (.int a) (.int b)=.ok (.f,.bl (!(a == b))):=by simp only [neO,plainD,eqD,Bool.and_self,if_true]
theorem uv:neO (.str x) (.str y)=.ok (.f,.bl (!(x == y))):=by simp only [neO,plainD,eqD,Bool.and_self,if_true]
theorem uw:neO (.bl p) (.bl q)=.ok (.f,.bl (!(p == q))):=by simp only [neO,plainD,eqD,Bool.and_self,if_true]
theorem rZ:addD (.int a) (.int b)=.ok (.f,.int (a + b)):=id rfl
theorem r6:o7 (.int a) (.int b)=.ok (.f,.int (a - b)):=id rfl
theorem pJ:ik (.int a) (.int b)=if 0 < b∧b < 1073741824 then .ok (.f,.int (a / b)) else .bad:=id rfl
theorem r9:hU (.int a) (.int b)=if 0 < b then .ok (.f,.int (a % b)) else .bad:=id rfl
theorem sa:kM (.int a) (.int b)=if 0≤b∧b≤1000000∧a.natAbs < 2 ^ 64 then .ok (.f,.int (a ^ b.toNat)) else .bad:=id rfl
theorem ux:ltO (.int a) (.int b)=.ok (.f,.bl (decide (a < b))):=id rfl
theorem uy:ltO (.str x) (.str y)=.ok (.f,.bl (decide (x < y))):=id rfl
theorem uz:leD (.int a) (.int b)=.ok (.f,.bl (decide (a≤b))):=id rfl
theorem uA:leD (.str x) (.str y)=.ok (.f,.bl (!decide (y < x))):=id rfl
theorem uB:gtD (.int a) (.int b)=.ok (.f,.bl (decide (b < a))):=id rfl
theorem uC:geO (.int a) (.int b)=.ok (.f,.bl (decide (b≤a))):=id rfl
theorem sd:jR [.lst ds]=.ok (.f,.int ds.length):=id rfl
theorem se:jR [.tup ds]=.ok (.f,.int ds.length):=id rfl
theorem sf:jR [.str x]=.ok (.f,.int x.length):=id rfl
theorem si (tk:Bool):jR [.dct tk ds es]=.ok (.f,.int ds.length):=id rfl
theorem pK:jE [.lst ds]=.ok (.l .f,.lst ds):=id rfl
theorem pL:jE [.tup ds]=.ok (.l .f,.lst ds):=id rfl
theorem mR:eB [.lst ds]=.ok (.f,.tup ds):=id rfl
theorem mS:eB [.tup ds]=.ok (.f,.tup ds):=id rfl
theorem sj:vW [.bl p]=.ok (.f,.int (if p then 1 else 0)):=id rfl
theorem uD:ixD (.lst ds) (.int a)=match atI ds a with | some d=>.ok (.f,d) | none=>.bad:=id rfl
theorem uE:ixD (.tup ds) (.int a)=match atI ds a with | some d=>.ok (.f,d) | none=>.bad:=id rfl
theorem uF:ixD (.str x) (.int a)=match atI x a with | some c=>.ok (.f,.str [c]) | none=>.bad:=id rfl
theorem uG (lo hi:Option Int):slD (.lst ds) lo hi=.ok (.l .f,.lst (e7 ds lo hi)):=id rfl
theorem uH (lo hi:Option Int):slD (.str x) lo hi=.ok (.f,.str (e7 x lo hi)):=id rfl
theorem sk:maxD [.int a,.int b]=.ok (.f,.int (if a < b then b else a)):=id rfl
theorem sm (bs:List Bool):u4 [.lst (bs.map D.bl)]=.ok (.f,.bl (bs.all id)):=by
 unfold u4
 show (match kS (bs.map D.bl) with | some bs=>_ | none=>_)=_
 rw [kU]
theorem uI:isO (.bl p) (.bl q)=.ok (.f,.bl (p == q)):=id rfl
theorem so:vV (.bl p) (.bl q)=.ok (.f,.bl (!(p == q))):=id rfl
theorem at0 {α:Type} (d:α) (l:List α):atI (d :: l) 0=some d:=by
 have:=fB (xs:=d :: l) (j:=0) (v:=d) rfl
 simpa using this
theorem at1 {α:Type} (c d:α) (l:List α):atI (c :: d :: l) 1=some d:=by
 have:=fB (xs:=c :: d :: l) (j:=1) (v:=d) rfl
 simpa using this
end
theorem flat_ints (l:List Int):flatDs (l.map D.int)=true:=by
 rw [bM,List.all_map,List.all_eq_true]
 intro b _
 rfl
theorem jd (l:List Bool):flatDs (l.map D.bl)=true:=by
 rw [bM,List.all_map,List.all_eq_true]
 intro b _
 rfl
theorem flat_strs (l:List (List Nat)):flatDs (l.map D.str)=true:=by
 rw [bM,List.all_map,List.all_eq_true]
 intro b _
 rfl
theorem aU (d:D):ay .f d=bV d:=by rw [ay]
theorem bt (ds:List D):ay (.l .f) (.lst ds)=flatDs ds:=by rw [ay,cY]
theorem aY (i:Int):bV (.int i)=true:=by rw [bV];all_goals simp
theorem gd (i:Bool):bV (.bl i)=true:=by rw [bV];all_goals simp
theorem mT (i:List Nat):bV (.str i)=true:=by rw [bV];all_goals simp
theorem dR (ds:List D):bV (.tup ds)=flatDs ds:=by rw [bV]
theorem bA (n:Nat) (l:List Int):plainDs n (l.map D.int)=true:=by
 induction l with
 | nil=>rfl
 | cons a l ih=>rw [List.map_cons,plainDs,ih,plainD];all_goals simp
theorem jJ (n:Nat) (l:List (List Nat)):plainDs n (l.map D.str)=true:=by
 induction l with
 | nil=>rfl
 | cons a l ih=>rw [List.map_cons,plainDs,ih,plainD];all_goals simp
theorem gX:∀ a b:List Int,dQ (a.map D.int) (b.map D.int)=(a == b)
 | [],[]=>by simp [dQ]
 | [],_ :: _=>by simp [dQ]
 | _ :: _,[]=>by simp [dQ]
 | a :: r,b :: t=>by
  rw [List.map_cons,List.map_cons,dQ,eqD,gX r t,Bool.eq_iff_iff]
  simp
theorem mU (a:Int) (l:List Int):lO (.int a) (l.map D.int)=decide (a∈l):=by
 unfold lO
 rw [List.any_map,Bool.eq_iff_iff,List.any_eq_true,decide_eq_true_eq]
 constructor
 ·rintro ⟨x,hx,e⟩
  have e:eqD (.int x) (.int a)=true:=e
  rw [eqD,beq_iff_eq] at e
  rw [←e]
  exact hx
 ·intro h
  refine ⟨a,h,?_⟩
  show eqD (.int a) (.int a)=true
  rw [eqD,beq_self_eq_true]
theorem mV (a:List Nat) (l:List (List Nat)):lO (.str a) (l.map D.str)=decide (a∈l):=by
 unfold lO
 rw [List.any_map,Bool.eq_iff_iff,List.any_eq_true,decide_eq_true_eq]
 constructor
 ·rintro ⟨x,hx,e⟩
  have e:eqD (.str x) (.str a)=true:=e
  rw [eqD,beq_iff_eq] at e
  rw [←e]
  exact hx
 ·intro h
  refine ⟨a,h,?_⟩
  show eqD (.str a) (.str a)=true
  rw [eqD,beq_self_eq_true]
theorem nW (a:Int) (l:List Int):inO (.int a) (.lst (l.map D.int))=.ok (.f,.bl (decide (a∈l))):=by
 unfold inO
 dsimp only
 rw [bA,mU,plainD]
 all_goals simp
theorem pM (a:Int) (l:List Int):nO (.int a) (.lst (l.map D.int))=.ok (.f,.bl (!decide (a∈l))):=by
 unfold nO
 rw [nW]
 rfl
theorem sr (a:List Nat) (l:List (List Nat)):inO (.str a) (.tup (l.map D.str))=.ok (.f,.bl (decide (a∈l))):=by
 unfold inO
 dsimp only
 rw [jJ,mV,plainD]
 all_goals simp
theorem dh {α:Type} {a:FG} {f:FX} {e:α→D} {r:α→D} (I:PV.Env→Prop) (l:List α)
  (h:∀ x∈l,∀ env,I env→∃ env1,a (e x) env=.ok env1∧∃ o env3,f env1=.ok ((o,r x),env3)∧I env3):∀ env,I env→cq a dt f (l.map e) env=.ok (l.map r):=by
 induction l with
 | nil=>intro env _;rfl
 | cons x l ih=>
  intro env hI
  obtain ⟨env1,h1,o,env3,h4,h5⟩:=h x List.mem_cons_self env hI
  have ih:=ih fun y hy=>h y (List.mem_cons_of_mem _ hy)
  rw [List.map_cons,x_compLC,h1,bOk,x_cYes,bOk,if_pos rfl,h4,bOk,ih env3 h5]
  rfl
theorem pN {a:FG} {g:FS} (P:Nat→PV.Env→Prop) (ds:List D) (h:∀ i d env,ds[i]?=some d→P i env→∃ env1,a d env=.ok env1∧∃ env2,(g env1=.ok (.nx env2)∨g env1=.ok (.ct env2))∧P (i + 1) env2) :
  ∀ env,P 0 env→∃ env',gs a g ds env=.ok (.nx env')∧P ds.length env':=by
 have key:∀ (l:List D) (k:Nat) (env:PV.Env),(∀ i d,l[i]?=some d→ds[k + i]?=some d)→P k env→∃ env',gs a g l env=.ok (.nx env')∧P (k + l.length) env':=by
  intro l
  induction l with
  | nil=>exact fun k env _ hp=>⟨env,rfl,hp⟩
  | cons d l ih=>
   intro k env hd hp
   obtain ⟨env1,h1,env2,h2,h3⟩:=h k d env (hd 0 d rfl) hp
   obtain ⟨env',h4,h5⟩:=ih (k + 1) env2 (fun i d e=>by have:=hd (i + 1) d (by simpa using e);rw [show k + 1 + i=k + (i + 1) by lia];exact this) h3
   refine ⟨env',?_,by rw [List.length_cons,show k + (l.length + 1)=k + 1 + l.length by lia];exact h5⟩
   rw [x_forLC,h1,bOk]
   rcases h2 with h2 | h2
   ·rw [h2,bOk]
    exact h4
   ·rw [h2,bOk]
    exact h4
 intro env hp
 obtain ⟨env',h1,h2⟩:=key ds 0 env (fun i d e=>by rw [Nat.zero_add];exact e) hp
 exact ⟨env',h1,by rw [Nat.zero_add] at h2;exact h2⟩
section
variable (env:PV.Env) (fo:FO) (fp fp':FP) (a b:Int) (ds:List D) (x:List Nat)
theorem x_eSlW:rM fo fp fp' env=Res.bnd (fo env) (f:=⟨fun p=>Res.bnd (fp p.2) (f:=⟨fun q=>Res.bnd (fp' q.2) (f:=⟨fun t=>Res.bnd (der t.2 p.1) (f:=⟨fun d=>Res.bnd (slO d q.1 t.1) (f:=⟨fun r=>.ok (r,t.2)⟩)⟩)⟩)⟩)⟩):=id rfl
theorem x_eNeg:v5 fo env=Res.bnd (fo env) (f:=⟨fun p=>Res.bnd (der p.2 p.1) (f:=⟨fun d=>match d with
 | .int i=>.ok ((.f,.int (-i)),p.2)
 | _=>.bad⟩)⟩):=id rfl
theorem su (lo hi:Option Int):slO (.lst ds) lo hi=.ok (.l .f,.lst (e7 ds lo hi)):=id rfl
theorem sv (lo hi:Option Int):slO (.str x) lo hi=.ok (.f,.str (e7 x lo hi)):=id rfl
theorem lA (lo hi:Option Int) (h:HT.sIx ds.length 0 lo=0∧HT.sIx ds.length ds.length hi=ds.length):e7 ds lo hi=ds:=by
 unfold e7
 rw [h.1,h.2,List.drop_zero,Nat.sub_zero,List.take_of_length_le (Nat.le_refl _)]
theorem sx (lo hi:Option Int):slO (.tup ds) lo hi=.ok (.f,.tup (e7 ds lo hi)):=by
 unfold slO
 dsimp only
 split
 ·rename_i h
  rw [lA ds lo hi h]
 ·rename_i h
  unfold slD
  dsimp only
  rw [if_pos h]
theorem lB:rL (.int a) (.int b)=if cZ a || cZ b then .ok (.f,.int (a * b)) else if a.natAbs < 2 ^ 1000∧b.natAbs < 2 ^ 1000 then .ok (.f,.int (a * b)) else .bad:=id rfl
end
section
variable (env:PV.Env) (fo:FO) (fs:FOs) (f g:FX) (a b c:Int) (ds es:List D) (x y:List Nat)
theorem x_eMtT (gg:List D→List D→Res R):wa gg fo fs env=Res.bnd (fo env) (f:=⟨fun p=>Res.bnd (der p.2 p.1) (f:=⟨fun d=>match d with
 | .tup _=>Res.bnd (fs p.2) (f:=⟨fun q=>Res.bnd (der q.2 p.1) (f:=⟨fun d2=>match d2 with
  | .tup l=>Res.bnd (hJ q.2 q.1) (f:=⟨fun ds=>Res.bnd (gg l ds) (f:=⟨fun r=>.ok (r,q.2)⟩)⟩)
  | _=>.bad⟩)⟩)
 | _=>.bad⟩)⟩):=id rfl
theorem x_iRange3:pw fs env=Res.bnd (fs env) (f:=⟨fun p=>Res.bnd (hJ p.2 p.1) (f:=⟨fun d=>match d with
 | [.int i,.int j,.int c]=>if ja i j c then .ok ((List.range (Builtin.Range.rangeSize i j c).toNat).map fun (k:Nat)=>D.int (i + (k:Int) * c),p.2) else .bad
 | _=>.bad⟩)⟩):=id rfl
theorem u9 (d:D):(∃ l,dq true d=.ok l∧dq false d=.bad∧gu d=some l)∨(∃ l,dq true d=.bad∧dq false d=.ok l∧gu d=some l)∨(dq true d=.bad∧dq false d=.bad∧gu d=none):=by
 cases d with
 | lst l=>exact .inl ⟨l,rfl,rfl,rfl⟩
 | tup l=>exact .inr (.inl ⟨l,rfl,rfl,rfl⟩)
 | _=>exact .inr (.inr ⟨rfl,rfl,rfl⟩)
noncomputable def mW (k1 k2:Bool) (e:PV.Env) (d1 d2:D):Res (List D×PV.Env):=(dq k1 d1).bind fun a=>(dq k2 d2).bind fun b=>.ok ((a.zip b).map fun z=>D.tup [z.1,z.2],e)
noncomputable def uJ (e:PV.Env) (d1 d2:D):Res (List D×PV.Env):=match gu d1,gu d2 with | some a,some b=>.ok ((a.zip b).map fun z=>D.tup [z.1,z.2],e) | _,_=>.bad
noncomputable def orR (a b:Res (List D×PV.Env)):Res (List D×PV.Env):=match a with | .ok a=>.ok a | _=>b
noncomputable def lP (g:D→D→Res (List D×PV.Env)) (os:List Opd):Res (List D×PV.Env):=match os with | [.val d1,.val d2]=>g d1 d2 | _=>.bad
theorem iG (g h:D→D→Res (List D×PV.Env)) (os:List Opd):orR (lP g os) (lP h os)=lP (fun a b=>orR (g a b) (h a b)) os:=by
 unfold lP
 split <;> rfl
theorem pO (e:PV.Env) (a b:D):orR (mW true true e a b) (orR (mW true false e a b) (orR (mW false true e a b) (mW false false e a b)))=uJ e a b:=by
 unfold mW uJ
 rcases u9 a with ⟨l,h1,h2,h3⟩ | ⟨l,h1,h2,h3⟩ | ⟨h1,h2,h3⟩ <;> rcases u9 b with ⟨m,i1,i2,i3⟩ | ⟨m,i1,i2,i3⟩ | ⟨i1,i2,i3⟩ <;> rw [h1,h2,h3,i1,i2,i3] <;> rfl
theorem x_iZipA:iu fs env=Res.bnd (fs env) (f:=⟨fun p=>match p.1 with
 | [.val d1,.val d2]=>(match gu d1,gu d2 with | some a,some b=>.ok ((a.zip b).map fun z=>D.tup [z.1,z.2],p.2) | _,_=>.bad)
 | _=>.bad⟩):=by
 unfold iu
 rw [iF,iF,iF,x_iZipD,x_iZipD,x_iZipD,x_iZipD]
 cases fs env with
 | ok p=>
  show orR (lP (mW true true p.2) p.1) (orR (lP (mW true false p.2) p.1) (orR (lP (mW false true p.2) p.1) (lP (mW false false p.2) p.1)))=lP (uJ p.2) p.1
  rw [iG,iG,iG]
  exact congrArg (fun g=>lP g p.1) (funext fun a=>funext fun b=>pO p.2 a b)
 | _=>rfl
theorem x_seqDL:gu (.lst ds)=some ds:=id rfl
theorem x_seqDT:gu (.tup ds)=some ds:=id rfl
theorem x_sPutL (i:Nat):mI i f g env=Res.bnd (g env) (f:=⟨fun (p:R×PV.Env)=>Res.bnd (f p.2) (f:=⟨fun (q:R×PV.Env)=>match p.2[i]?,q.2[i]? with
 | some (some _),some (some (.l .f,.lst ds))=>(match q.1.2 with
  | .int k=>(match ixN ds.length k with
   | some j=>.ok (.nx (q.2.set i (some (.l .f,.lst (ds.set j p.1.2)))))
   | none=>.bad)
  | _=>.bad)
 | _,_=>.bad⟩)⟩):=id rfl
theorem iH:fU (.int a) (.int b)=rL (.int a) (.int b):=id rfl
theorem pP:fU (.lst ds) (.int b)=if 0≤b∧b < 1000000∧ds.length * b.toNat≤sizeLine then .ok (.l .f,.lst (List.replicate b.toNat ds).flatten) else .bad:=id rfl
theorem x_eDict1:rO f g env=Res.bnd (f env) (f:=⟨fun p=>Res.bnd (g p.2) (f:=⟨fun q=>if eF false p.1.2 then .ok ((.d,.dct false [p.1.2] [q.1.2]),q.2) else .bad⟩)⟩):=id rfl
theorem sy (d:D):inP d (.lst ds)=inO d (.lst ds):=id rfl
theorem sH (d:D):inP d (.tup ds)=inO d (.tup ds):=id rfl
theorem sI (d:D):inP d (.str x)=inO d (.str x):=id rfl
theorem lC (d:D):pC d (.lst ds)=nO d (.lst ds):=id rfl
theorem pQ (d:D):pC d (.tup ds)=nO d (.tup ds):=id rfl
theorem sJ:eF false (.int a)=true:=id rfl
theorem sL:eF false (.str x)=true:=id rfl
theorem sM:v7 [.int a,.int b]=.ok (.f,.int (if b < a then b else a)):=id rfl
theorem uK:v9 [.int a]=.ok (.f,.int (if a < 0 then -a else a)):=id rfl
theorem pR:mH (.int a) (.int b)=.ok (.f,.int (a + b)):=id rfl
end
section
variable (env:PV.Env) (f g:FX) (ds ks:List D) (i:Nat)
theorem nX:isLf (.l .f)=true:=id rfl
end
section
variable (env:PV.Env) (f:FX) (fs:FOs) (ds:List D) (i:Nat)
theorem sN:ePop i env=match env[i]? with
 | some (some (ow,.lst ds))=>if isLf ow then (match ds.getLast? with
  | some d=>.ok ((.f,d),env.set i (some (ow,.lst ds.dropLast)))
  | none=>.bad) else .bad
 | _=>.bad:=id rfl
theorem pS (p:Addr):isLf (.pin p (.l .f))=true:=id rfl
theorem di:jG (.l .f) (.l .f)=true:=id rfl
theorem dj (p:Addr):jG (.l .f) (.pin p (.l .f))=true:=id rfl
theorem bg:fV i f env=Res.bnd (f env) (f:=⟨fun (p:R×PV.Env)=>match p.2[i]? with
 | some (some (.pin q c,d))=>.ok (.rt (.t [p.1.1,.pin q c],.tup [p.1.2,d]))
 | _=>.bad⟩):=by
 first
  | exact id rfl
  | (unfold fV;rfl)
theorem gf (fi:FI) (ix:List (Option Nat)) (j k0:Nat) (a:FG) (c:FT):c8 fi ix j k0 a c f env=Res.bnd (fi env) (f:=⟨fun (p:List D×PV.Env)=>match p.2[j]? with
 | some (some (ow,.lst d0))=>if isLf ow then Res.bnd (iy a c f p.1 (fun q=>(aT ix (p.2.set j none)).set k0 (some (.pin q (.l .f),.lst d0))) k0) (f:=⟨fun x=>if x.1.length≤sizeLine∧flatDs x.1=true∧flatDs x.2=true then .ok ((.l .f,.lst x.1),p.2.set j (some (ow,.lst x.2))) else .bad⟩) else .bad
 | _=>.bad⟩):=id rfl
theorem uL:tj [.lst ds]=.ok (.l .f,.lst ds.reverse):=id rfl
theorem sO (k:Int):rU (.tup ds) (.int k)=if ds≠[]∧ds.length≤10∧0≤k∧k < 1000 then .ok (.f,.tup (List.replicate k.toNat ds).flatten) else .bad:=id rfl
theorem gj (np nn:Nat) (c:O) (g:FS) (p:Addr) (d0:D) (h:ds.length + 1=np):dF np nn c g p (d0 :: ds)=Res.bnd (g (some (.pin p c,d0) :: (ds.map (fun d=>some (O.f,d))++List.replicate nn none))) (f:=⟨fun o=>match o with
  | .rt r=>.ok r
  | _=>.bad⟩):=by
 unfold dF
 dsimp only
 rw [if_pos h]
 rfl
theorem fu {α:Type} {a:FG} {f:FX} {e:α→D} (I:Nat→PV.Env→List D→Prop):∀ (l:List α) (n:Nat) (env:PV.Env) (acc:List D),I n env acc→
  (∀ k x env acc,l[k]?=some x→I (n + k) env acc→∃ env1,a (e x) env=.ok env1∧∃ o r env3,f env1=.ok ((o,r),env3)∧I (n + k + 1) env3 (acc++[r]))→∃ rs env2,compLE a dt f (l.map e) env=.ok (rs,env2)∧I (n + l.length) env2 (acc++rs)
 | [],n,env,acc,h,_=>⟨[],env,rfl,by rw [List.append_nil];exact h⟩
 | x :: l,n,env,acc,h,hs=>by
  obtain ⟨env1,h1,o,r,env3,h2,h3⟩:=hs 0 x env acc rfl h
  obtain ⟨rs,env2,h4,h5⟩:=fu I l (n + 1) env3 (acc++[r]) h3 fun k y env acc hk hI=>by
   have:=hs (k + 1) y env acc (by simpa using hk) (by rw [show n + (k + 1)=n + 1 + k by lia];exact hI)
   rw [show n + (k + 1) + 1=n + 1 + k + 1 by lia] at this
   exact this
  refine ⟨r :: rs,env2,?_,?_⟩
  ·rw [List.map_cons]
   show ((a (e x) env).bind fun e=>(dt e).bind fun p=>if p.1 then (f p.2).bind fun q=>(compLE a dt f (l.map _) q.2).bind fun rs=>.ok (q.1.2 :: rs.1,rs.2) else compLE a dt f (l.map _) p.2)=_
   rw [h1]
   show ((f env1).bind fun q=>(compLE a dt f (l.map _) q.2).bind fun rs=>.ok (q.1.2 :: rs.1,rs.2))=_
   rw [h2]
   show ((compLE a dt f (l.map _) env3).bind fun rs=>.ok (r :: rs.1,rs.2))=_
   rw [h4]
   rfl
  ·rw [List.length_cons,show n + (l.length + 1)=n + 1 + l.length by lia]
   rw [List.append_assoc] at h5
   exact h5
end
noncomputable def pv:=(And.intro @bOk (And.intro @bBad (And.intro @x_eCon (And.intro @x_eVarF (And.intro @x_eVarM (And.intro @x_oVal (And.intro @x_oVar (And.intro @x_osNil (And.intro @x_osCons (And.intro @x_dsNil (And.intro @x_dsCons (And.intro @x_derV (And.intro @x_derI (And.intro @x_derAV (And.intro @x_derAI (And.intro @x_dersN (And.intro @x_dersC (And.intro @x_dersAN (And.intro @x_dersAC (And.intro @x_shalF (And.intro @x_shalL (And.intro @x_shalD (And.intro @x_eBin (And.intro @x_eBinA (And.intro @x_eBl (And.intro @x_bAnd (And.intro @x_bOr (And.intro @x_bNot (And.intro @x_eAnd (And.intro @x_eOr (And.intro @x_eNot (And.intro @x_eIf (And.intro @x_eChain (And.intro @x_eCall (And.intro @x_eFun (And.intro @x_eTup (And.intro @x_eLst (And.intro @x_eSl (And.intro @x_eSlW (And.intro @x_eNeg (And.intro @x_pNone (And.intro @x_pSome (And.intro @x_eApp (And.intro @x_isLst (And.intro @x_eIs (And.intro @x_eMaxD (And.intro @x_eMtS (And.intro @x_eNewD (And.intro @x_eComp (And.intro @x_compEnvN (And.intro @x_compEnvO (And.intro @x_compEnvS (And.intro @x_cYes (And.intro @x_compLN (And.intro @x_compLC (And.intro @x_iAny (And.intro @x_iAnyV (And.intro @x_iRange1 (And.intro @x_iRange2 (And.intro @x_iZipD (And.intro @x_aName (And.intro @x_asNil (And.intro @x_asCons (And.intro @x_aTup (And.intro @x_sSeq (And.intro @x_sPass (And.intro @x_sSet (And.intro @x_sDrop (And.intro @x_sRet (And.intro @x_sIf (And.intro @x_sFor (And.intro @x_forLN (And.intro @x_forLC (And.intro @x_sWhile (And.intro @x_sPut (And.intro @x_sAsg (And.intro @List.getElem?_cons_zero.{0} (And.intro @List.getElem?_cons_succ.{0} (And.intro @List.set_cons_zero.{0} (And.intro @List.set_cons_succ.{0} (And.intro @List.length_cons.{0} (And.intro @List.length_nil.{0} (And.intro @List.map_cons.{0,0} (And.intro @List.map_nil.{0,0} (And.intro @List.replicate_succ.{0} (And.intro @List.replicate_zero.{0} (And.intro @List.cons_append.{0} (And.intro @List.nil_append.{0} (And.intro @Nat.zero_add (And.intro @x_eMtT (And.intro @x_iRange3 (And.intro @x_iZipA (And.intro @x_seqDL (And.intro @x_seqDT (And.intro @x_sPutL (And.intro @x_eDict1 (And.intro @x_fzF (And.intro @x_fzL (And.intro @x_fzT (And.intro @x_fzD (And.intro @x_fzP (And.intro @x_fzPL (And.intro @x_fzPD (And.intro @x_shalP (And.intro @x_shalPL @x_shalPD)))))))))))))))))))))))))))))))))))))))))))))))))))))))))))))))))))))))))))))))))))))))))))))))))))))))))
noncomputable def op:=(And.intro @ur (And.intro @uu (And.intro @rY (And.intro @uv (And.intro @uw (And.intro @rZ (And.intro @r6 (And.intro @ux (And.intro @uy (And.intro @uz (And.intro @uA (And.intro @uB (And.intro @uC (And.intro @sd (And.intro @se (And.intro @sf (And.intro @si (And.intro @pK (And.intro @pL (And.intro @mR (And.intro @mS (And.intro @sj (And.intro @uD (And.intro @uE (And.intro @uF (And.intro @uG (And.intro @uH (And.intro @su (And.intro @sv (And.intro @sx (And.intro @sk (And.intro @uI (And.intro @so (And.intro @at0 (And.intro @at1 (And.intro @nW (And.intro @pM (And.intro @sr (And.intro @sm (And.intro @aU (And.intro @bt (And.intro @aY (And.intro @gd (And.intro @mT (And.intro @flat_ints (And.intro @jd (And.intro @PV.flat_strs (And.intro @dR (And.intro @sM (And.intro @uK (And.intro @pR (And.intro @iH (And.intro @sy (And.intro @sH (And.intro @sI (And.intro @lC (And.intro @pQ (And.intro @sJ @sL))))))))))))))))))))))))))))))))))))))))))))))))))))))))))
end PV
namespace LW
open PySem L2 NX PV
theorem for_list {α:Type} {a:FG} {g:FS} {e:α→D} (l:List α) (P:Nat→PV.Env→Prop)
  (h:∀ k x env,l[k]?=some x→P k env→∃ env1,a (e x) env=.ok env1∧∃ env2,g env1=.ok (.nx env2)∧P (k + 1) env2):∀ env,P 0 env→∃ env',gs a g (l.map e) env=.ok (.nx env')∧P l.length env':=by
 intro env h0
 have:=pN (a:=a) (g:=g) P (l.map e) (fun i d env hi hp=>by
  rw [List.getElem?_map,Option.map_eq_some_iff] at hi
  obtain ⟨x,hx,rfl⟩:=hi
  obtain ⟨env1,h1,env2,h2,h3⟩:=h i x env hx hp
  exact ⟨env1,h1,env2,.inl h2,h3⟩) env h0
 rwa [List.length_map] at this
theorem iI {a:FG} {g:FS} {e:Nat→D} (n:Nat) (P:Nat→PV.Env→Prop)
  (h:∀ k env,k < n→P k env→∃ env1,a (e k) env=.ok env1∧∃ env2,g env1=.ok (.nx env2)∧P (k + 1) env2):∀ env,P 0 env→∃ env',gs a g ((List.range n).map e) env=.ok (.nx env')∧P n env':=by
 intro env h0
 have:=for_list (a:=a) (g:=g) (e:=e) (List.range n) P (fun k x env hk hp=>by
  obtain ⟨h1,h2⟩:=List.getElem?_eq_some_iff.mp hk
  rw [List.length_range] at h1
  rw [List.getElem_range] at h2
  subst h2
  exact h k env h1 hp) env h0
 rwa [List.length_range] at this
theorem a9 {s t:FS} {env env':PV.Env} (h:s env=.ok (.nx env')):sSeq s t env=t env':=by rw [x_sSeq,h,bOk]
theorem gY {l:List Int} {k:Nat} (h:k < l.length):atI (l.map D.int) (k:Int)=some (.int (l.getD k 0)):=fB (by rw [List.getElem?_map,List.getD_eq_getElem?_getD,List.getElem?_eq_getElem h];rfl)
theorem eO (x y:D) (t1 t2:Option R) (bG:PV.Env):jQ 2 (a8 (aJ 0) (a8 (aJ 1) eh)) (.tup [x,y]) (t1 :: t2 :: bG)=.ok (some (.f,x) :: some (.f,y) :: bG):=by
 rw [x_aTup,if_pos (by simp),x_asCons,x_aName,if_pos (by simp),bOk,x_asCons,x_aName,if_pos (by simp),bOk]
 rfl
theorem jK (x b:Int) (h:0 < b):0≤x % b∧x % b < b:=⟨Int.emod_nonneg _ (by lia),Int.emod_lt_of_pos _ h⟩
theorem ve (n:Nat) (h:n≤200):kM (.int 10) (.int (n:Int))=.ok (.f,.int (10 ^ n)):=by
 rw [sa,if_pos (by lia),Int.toNat_natCast]
theorem pT (x b:Int) (h:0 < b):hU (.int x) (.int b)=.ok (.f,.int (x % b)):=by rw [r9,if_pos h]
theorem uM (x b:Int) (h:0 < b) (h2:b < 1073741824):ik (.int x) (.int b)=.ok (.f,.int (x / b)):=by rw [pJ,if_pos ⟨h,h2⟩]
theorem mX {α:Type} (l:List α) (k:Nat):e7 l none (some (k:Int))=l.take k:=by
 unfold e7
 rw [HT.l5,HT.oB,List.drop_zero,Nat.sub_zero]
 by_cases h:k≤l.length
 ·rw [Nat.min_eq_left h]
 ·rw [Nat.min_eq_right (by lia),List.take_of_length_le (Nat.le_refl _),List.take_of_length_le (by lia)]
theorem uN (j:Int) (h0:0≤j) (h:j≤1000) (fo:FO) (env env':PV.Env) (o:Opd) (e1:fo env=.ok (o,env')) (e2:der env' o=.ok (.int j)):bp fo env=.ok ((List.range j.toNat).map fun (k:Nat)=>D.int (k:Int),env'):=by
 rw [x_iRange1,e1,bOk]
 dsimp only
 rw [e2,bOk]
 dsimp only
 rw [if_pos (by lia)]
theorem vf (x y:Int) (h:cZ x=true):fU (.int x) (.int y)=.ok (.f,.int (x * y)):=by rw [iH,lB,h,Bool.true_or,if_pos rfl]
theorem gZ (d:D) (h:plainD 40 d=true):eqO d d=.ok (.f,.bl true):=by
 unfold eqO
 rw [h,c6 d 40 h]
 rfl
theorem lD (d:D) (h:plainD 40 d=true):neO d d=.ok (.f,.bl false):=by
 unfold neO
 rw [h,c6 d 40 h]
 rfl
theorem je (l:List Int):plainD 40 (.tup (l.map D.int))=true:=by
 rw [plainD,bA]
theorem pU (n k:Nat) (h:k < n):ixN n (k:Int)=some k:=by
 unfold ixN
 rw [if_pos (by lia),if_pos (by lia)]
 rfl
theorem lE (l:List Int):nN [.lst (l.map D.int)]=.ok (.f,.int l.sum):=by
 unfold nN
 dsimp only
 have:(gu (D.lst (l.map D.int))).bind bH=some l:=jF l
 rw [this]
theorem wd (b:Int):mD "bool" (.int b)=false:=rfl
theorem we (b:Int):mD "int" (.int b)=true:=rfl
theorem isT (ds:List D):mD "tuple" (.tup ds)=true:=rfl
theorem g0 {c:FT} {g:FS} (P:Nat→PV.Env→Prop) (fin:PV.Env→Prop) (h:∀ k env,P k env→(∃ env1,c env=.ok (false,env1)∧fin env1)∨(∃ env1,c env=.ok (true,env1)∧∃ env2 k',g env1=.ok (.nx env2)∧k' < k∧P k' env2)) :
  ∀ n k env,k < n→P k env→∃ env',bO c g n env=.ok (.nx env')∧fin env'
 | 0,k,env,hk,_=>absurd hk (Nat.not_lt_zero _)
 | n + 1,k,env,hk,hp=>by
  rcases h k env hp with ⟨env1,h1,h2⟩ | ⟨env1,h1,env2,k',h2,h3,h4⟩
  ·exact ⟨env1,by rw [x_sWhile,h1,bOk];rfl,h2⟩
  ·obtain ⟨env',e,hf⟩:=g0 P fin h n k' env2 (by lia) h4
   refine ⟨env',?_,hf⟩
   rw [x_sWhile,h1,bOk]
   dsimp only
   rw [if_pos rfl,h2,bOk]
   exact e
theorem pV {α β:Type} (f:α→β) (l:List α) (lo hi:Option Int):e7 (l.map f) lo hi=(e7 l lo hi).map f:=by
 unfold e7
 rw [List.length_map,←List.map_drop,←List.map_take]
theorem uO {α:Type} {l:List α} (h:l.length≤100000):l.length < sizeLine:=Nat.lt_of_lt_of_le (Nat.lt_succ_self _) (line_le (by lia))
section
variable (env:PV.Env) (f:FX) (fs:FOs) (fo:FO)
theorem b7 (i:Nat) (c:O) (F:Addr→List D→Res R):eFunW c F i fs env=Res.bnd (fs env) (f:=⟨fun p=>match p.1 with
 | .var j :: os=>if j=i then (match p.2[i]? with
  | some (some (ow,d0))=>if jG c ow then Res.bnd (eP (p.2.set i none) os) (f:=⟨fun ds=>Res.bnd (fW F c d0 ds) (f:=⟨fun x=>if ay x.1.1 x.1.2 && ay c x.2 then .ok (x.1,(p.2.set i none).set i (some (ow,x.2))) else .ok (x.1,((p.2.set i none).map frz).set i (some (ow,x.2)))⟩)⟩) else .bad
  | _=>.bad) else .bad
 | _=>.bad⟩):=id rfl
end
theorem pop0 (o:O) (h:isLf o=true) (ys:List Int) (x:Int) (env:PV.Env):ePop 0 (some (o,.lst ((ys++[x]).map D.int)) :: env)=.ok ((.f,.int x),some (o,.lst (ys.map D.int)) :: env):=by
 rw [sN]
 simp only [List.getElem?_cons_zero,List.map_append,List.map_cons,List.map_nil,List.getLast?_concat,List.dropLast_concat,h,if_true,List.set_cons_zero]
theorem wg (p:Addr) (ys:List Int) (x:Int) (env:PV.Env):ePop 0 (some (.pin p (.l .f),.lst ((ys++[x]).map D.int)) :: env)=.ok ((.f,.int x),some (.pin p (.l .f),.lst (ys.map D.int)) :: env):=pop0 _ rfl ys x env
theorem g5 {α:Type} (n k:Nat) (g:Nat→α) (v:α):((List.range n).map g).set k v=(List.range n).map fun i=>if i=k then v else g i:=by
 apply List.ext_getElem
 ·rw [List.length_set,List.length_map,List.length_map]
 ·intro i h1 h2
  rw [List.getElem_set,List.getElem_map,List.getElem_map,List.getElem_range]
  by_cases h:i=k
  ·rw [if_pos h.symm,if_pos h]
  ·rw [if_neg (Ne.symm h),if_neg h]
theorem mY (l:List Int) (k:Nat) (h:k < l.length):(l.take (k + 1)).sum=(l.take k).sum + l[k]:=by
 rw [List.take_succ_eq_append_getElem h,List.sum_append_int,List.sum_cons,List.sum_nil,Int.add_zero]
theorem jg (a b:List Int):eqO (.lst (a.map D.int)) (.lst (b.map D.int))=.ok (.f,.bl (a == b)):=by
 unfold eqO
 rw [plainD,plainD,bA,bA,eqD,gX]
 rfl
theorem sP (x y:Int) (hx:x.natAbs < 2 ^ 1000) (hy:y.natAbs < 2 ^ 1000):fU (.int x) (.int y)=.ok (.f,.int (x * y)):=by
 rw [iH,lB]
 split
 ·rfl
 ·rw [if_pos ⟨hx,hy⟩]
theorem sQ:kM (.int 10) (.int 59)=.ok (.f,.int (10 ^ 59)):=ve 59 (by decide)
theorem uP:kM (.int 10) (.int 30)=.ok (.f,.int (10 ^ 30)):=ve 30 (by decide)
theorem p59:(0:Int) < 10 ^ 59:=by decide +kernel
theorem lF (ns:List Int) (h:ns.length≤63):∃ d:List Int,d.length=480∧aN [.lst (ns.map D.int),.int 480]=.ok (.l .f,.lst (d.map D.int)):=by
 have ct:e7 (ns.map D.int) none (some (480:Int))=(ns.take 480).map D.int:=by
  rw [pV]
  exact congrArg (List.map D.int) (mX ns 480)
 have hc:cq (aJ 0) dt (bh hU (ar 0) (au (bh kM (au (bC (.int 10))) (au (bC (.int 59)))))) ((ns.take 480).map D.int) [none]=.ok (((ns.take 480).map fun x=>x % 10 ^ 59).map D.int):=by
  rw [List.map_map]
  refine dh (fun env=>∃ t,env=[t]) _ ?_ _ ⟨_,rfl⟩
  rintro x _ env ⟨t,rfl⟩
  refine ⟨[some (.f,.int x)],by simp only [pv,↓reduceIte,Nat.reduceAdd,Nat.reduceLT,Nat.reduceLeDiff,Nat.reduceEqDiff],?_⟩
  simp only [pv,↓reduceIte,Nat.reduceAdd,Nat.reduceLT,Nat.reduceLeDiff,Nat.reduceEqDiff,op,sQ,pT _ _ p59]
  exact ⟨_,_,rfl,_,rfl⟩
 have hl:((ns.take 480).map fun x=>x % 10 ^ 59).length≤63:=by
  rw [List.length_map,List.length_take]
  lia
 generalize (ns.take 480).map (fun x=>x % 10 ^ 59)=d0 at hc hl
 unfold aN cJ
 rw [cB (h:=by rfl)]
 have fl:(d0.map D.int).length≤sizeLine:=line_le (by rw [List.length_map];lia)
 rw [a9 (env':=[some (.f,.lst (ns.map D.int)),some (.f,.int 480),some (.l .f,.lst (d0.map D.int)),none]) (by simp only [pv,↓reduceIte,Nat.reduceAdd,Nat.reduceLT,Nat.reduceLeDiff,Nat.reduceEqDiff,op,ct,hc,flat_ints,fl])]
 have mB:=pT d0.sum 2147483647 (by decide)
 rw [a9 (env':=[some (.f,.lst (ns.map D.int)),some (.f,.int 480),some (.l .f,.lst (d0.map D.int)),some (.f,.int (48271 + d0.sum % 2147483647))]) (by simp only [pv,↓reduceIte,Nat.reduceAdd,Nat.reduceLT,Nat.reduceLeDiff,Nat.reduceEqDiff,op,lE,mB])]
 have b0:=jK d0.sum 2147483647 (by decide)
 have hb:0≤48271 + d0.sum % 2147483647∧48271 + d0.sum % 2147483647 < 4294967296:=by lia
 clear b0 mB
 generalize 48271 + d0.sum % 2147483647=l0 at hb
 obtain ⟨env',hw,d,l,hd,rfl⟩:=g0 (c:=eBl (bh ltO (au (bI jR (ah (ar 2) az))) (ar 1))) (g:=bq) (fun k env=>∃ (d:List Int) (l:Int),d.length + k=480∧0≤l∧l < 4294967296∧env=[some (.f,.lst (ns.map D.int)),some (.f,.int 480),some (.l .f,.lst (d.map D.int)),some (.f,.int l)])
  (fun env=>∃ (d:List Int) (l:Int),d.length=480∧env=[some (.f,.lst (ns.map D.int)),some (.f,.int 480),some (.l .f,.lst (d.map D.int)),some (.f,.int l)]) (by
   rintro k env ⟨d,l,hk,h0,h1,rfl⟩
   by_cases hlt:d.length < 480
   ·refine .inr ⟨[some (.f,.lst (ns.map D.int)),some (.f,.int 480),some (.l .f,.lst (d.map D.int)),some (.f,.int l)],?_,[some (.f,.lst (ns.map D.int)),some (.f,.int 480),some (.l .f,.lst ((d++[(l * l + 48271 * l + (d.length:Int)) % 2147483647]).map D.int)),some (.f,.int ((l * l + 48271 * l + (d.length:Int)) % 2147483647))],k - 1,?_,by lia,_,_,?_,(jK _ _ (by decide)).1,?_,rfl⟩
    ·have:decide ((d.length:Int) < 480)=true:=decide_eq_true (by lia)
     simp only [pv,↓reduceIte,Nat.reduceAdd,Nat.reduceLT,Nat.reduceLeDiff,Nat.reduceEqDiff,op,List.length_map,this]
    ·have e1:=sP l l (by lia) (by lia)
     have e2:=vf 48271 l (by decide)
     have e3:∀ x,hU (.int x) (.int 2147483647)=.ok (.f,.int (x % 2147483647)):=fun x=>pT x _ (by decide)
     have e4:(d.map D.int).length < sizeLine:=uO (by rw [List.length_map];lia)
     rw [List.map_append]
     unfold bq
     rw [a9 (env':=[some (.f,.lst (ns.map D.int)),some (.f,.int 480),some (.l .f,.lst (d.map D.int)),some (.f,.int ((l * l + 48271 * l + (d.length:Int)) % 2147483647))]) (by simp only [pv,↓reduceIte,Nat.reduceAdd,Nat.reduceLT,Nat.reduceLeDiff,Nat.reduceEqDiff,op,List.length_map,e1,e2,e3])]
     simp only [pv,↓reduceIte,Nat.reduceAdd,Nat.reduceLT,Nat.reduceLeDiff,Nat.reduceEqDiff,e4]
    ·rw [List.length_append,List.length_cons,List.length_nil]
     lia
    ·have:=(jK (l * l + 48271 * l + (d.length:Int)) 2147483647 (by decide)).2
     lia
   ·refine .inl ⟨[some (.f,.lst (ns.map D.int)),some (.f,.int 480),some (.l .f,.lst (d.map D.int)),some (.f,.int l)],?_,d,l,by lia,rfl⟩
    have:decide ((d.length:Int) < 480)=false:=decide_eq_false (by lia)
    simp only [pv,↓reduceIte,Nat.reduceAdd,Nat.reduceLT,Nat.reduceLeDiff,Nat.reduceEqDiff,op,List.length_map,this]) 100000 (480 - d0.length) [some (.f,.lst (ns.map D.int)),some (.f,.int 480),some (.l .f,.lst (d0.map D.int)),some (.f,.int l0)] (by lia) ⟨d0,l0,by lia,hb.1,hb.2,rfl⟩
 refine ⟨d.reverse,by rw [List.length_reverse,hd],?_⟩
 unfold cb bS
 rw [a9 hw]
 simp only [pv,↓reduceIte,Nat.reduceAdd,Nat.reduceLT,Nat.reduceLeDiff,Nat.reduceEqDiff,uL,List.map_reverse]
noncomputable def dr (d:List Int) (m:Int):Int:=match d.getLast? with
 | some x=>x % m
 | none=>0
theorem sR (p:Addr) (d:List Int) (m:Int) (hm:0 < m):aq p [.lst (d.map D.int),.int m]=.ok (.t [.f,.pin p (.l .f)],.tup [.int (dr d m),.lst (d.dropLast.map D.int)]):=by
 unfold aq eI
 rw [gj (h:=by rfl)]
 rcases List.eq_nil_or_concat d with rfl | ⟨ys,x,rfl⟩
 ·have e:=jg [] []
  rw [List.map_nil] at e
  simp only [pv,↓reduceIte,Nat.reduceAdd,Nat.reduceLT,Nat.reduceLeDiff,Nat.reduceEqDiff,bg,List.map_nil,e,beq_self_eq_true]
  rfl
 ·have e:=jg (ys++[x]) []
  have ne:((ys++[x]) == ([]:List Int))=false:=by cases ys <;> rfl
  rw [ne,List.map_nil] at e
  rw [List.concat_eq_append]
  generalize hl:D.lst ((ys++[x]).map D.int)=L at e
  simp only [pv,↓reduceIte,Nat.reduceAdd,Nat.reduceLT,Nat.reduceLeDiff,Nat.reduceEqDiff,e,Bool.false_eq_true]
  rw [←hl]
  simp only [pv,↓reduceIte,Nat.reduceAdd,Nat.reduceLT,Nat.reduceLeDiff,Nat.reduceEqDiff,bg,wg,pT _ _ hm]
  unfold dr
  rw [List.getLast?_concat,List.dropLast_concat]
theorem fw (d:List Int) (m:Int) (hm:0 < m):fW aq (.l .f) (.lst (d.map D.int)) [.int m]=.ok ((.f,.int (dr d m)),.lst (d.dropLast.map D.int)):=fX (r:=(.f,.int (dr d m))) fun p=>sR p d m hm
noncomputable def nu (d:List Int):Int:=if dr d (10 ^ 59) % 4 == 3 then dr d (10 ^ 59) / 4 % (2 * 10 ^ 30 + 1) - 10 ^ 30 else dr d (10 ^ 59) / 4 % 7 - 3
theorem wj (d:List Int):(nu d).natAbs≤10 ^ 30:=by
 unfold nu
 generalize dr d (10 ^ 59) / 4=y
 split
 ·have h:=jK y (2 * 10 ^ 30 + 1) (by decide +kernel)
  generalize y % (2 * 10 ^ 30 + 1)=z at h
  obtain ⟨h1,h2⟩:=h
  lia
 ·have h:=jK y 7 (by decide)
  lia
theorem mZ (p:Addr) (d:List Int):aj p [.lst (d.map D.int)]=.ok (.t [.f,.pin p (.l .f)],.tup [.int (nu d),.lst (d.dropLast.map D.int)]):=by
 unfold aj c9
 rw [gj (h:=by rfl)]
 have m4:∀ x,hU (.int x) (.int 4)=.ok (.f,.int (x % 4)):=fun x=>pT x 4 (by decide)
 have m7:∀ x,hU (.int x) (.int 7)=.ok (.f,.int (x % 7)):=fun x=>pT x 7 (by decide)
 have m30:∀ x,hU (.int x) (.int (2 * 10 ^ 30 + 1))=.ok (.f,.int (x % (2 * 10 ^ 30 + 1))):=fun x=>pT x _ (by decide +kernel)
 have f4:∀ x,ik (.int x) (.int 4)=.ok (.f,.int (x / 4)):=fun x=>uM x 4 (by decide) (by decide)
 have u2:fU (.int 2) (.int (10 ^ 30))=.ok (.f,.int (2 * 10 ^ 30)):=vf 2 _ (by decide)
 rw [List.map_nil,List.nil_append]
 rw [a9 (env':=[some (.pin p (.l .f),.lst (d.dropLast.map D.int)),some (.f,.int (dr d (10 ^ 59)))]) (by simp only [pv,↓reduceIte,Nat.reduceAdd,Nat.reduceLT,Nat.reduceLeDiff,Nat.reduceEqDiff,op,sQ,fw d _ p59,b7,dj,di,bg,x_derAV,x_derAI,aU,bt,aY,flat_ints,Bool.and_self,Bool.true_and,if_true])]
 unfold nu
 generalize dr d (10 ^ 59)=z
 cases h:z % 4 == 3 with
 | true=>
  simp only [pv,↓reduceIte,Nat.reduceAdd,Nat.reduceLT,Nat.reduceLeDiff,Nat.reduceEqDiff,op,m4,m30,f4,u2,uP,h,bg]
 | false=>
  simp only [pv,↓reduceIte,Nat.reduceAdd,Nat.reduceLT,Nat.reduceLeDiff,Nat.reduceEqDiff,op,m4,m7,f4,h,bg,Bool.false_eq_true]
theorem jh (d:List Int):fW aj (.l .f) (.lst (d.map D.int)) []=.ok ((.f,.int (nu d)),.lst (d.dropLast.map D.int)):=fX (r:=(.f,.int (nu d))) fun p=>mZ p d
noncomputable def it (nx:List Int→List Int):Nat→List Int→List Int
 | 0,d=>d
 | n + 1,d=>nx (it nx n d)
theorem m5 {f:FX} {v:List Int→D} {nx:List Int→List Int} (bG:PV.Env) (q:Addr) (hf:∀ (d:List Int) (k:Int),∃ o,f (some (.f,.int k) :: some (.pin q (.l .f),.lst (d.map D.int)) :: bG)=.ok ((o,v d),some (.f,.int k) :: some (.pin q (.l .f),.lst ((nx d).map D.int)) :: bG)) (n:Nat) (d:List Int) (t:Option R) :
  ∃ t',compLE (aJ 0) dt f ((List.range n).map fun (k:Nat)=>D.int (k:Int)) (t :: some (.pin q (.l .f),.lst (d.map D.int)) :: bG)=.ok ((List.range n).map (fun i=>v (it nx i d)),t' :: some (.pin q (.l .f),.lst ((it nx n d).map D.int)) :: bG):=by
 obtain ⟨rs,env2,h1,t',h2,h3⟩:=fu (a:=aJ 0) (f:=f) (e:=fun (k:Nat)=>D.int (k:Int)) (fun n env acc=>∃ t',env=t' :: some (.pin q (.l .f),.lst ((it nx n d).map D.int)) :: bG∧acc=(List.range n).map (fun i=>v (it nx i d))) (List.range n) 0 (t :: some (.pin q (.l .f),.lst (d.map D.int)) :: bG) [] ⟨t,rfl,rfl⟩ (by
  rintro k x env acc hk ⟨t',rfl,rfl⟩
  rw [Nat.zero_add]
  obtain ⟨o,e⟩:=hf (it nx k d) (x:Int)
  exact ⟨some (.f,.int (x:Int)) :: some (.pin q (.l .f),.lst ((it nx k d).map D.int)) :: bG,by rw [x_aName,if_pos (by rw [List.length_cons];exact Nat.succ_pos _)];rfl,o,_,_,e,_,rfl,by rw [List.range_succ,List.map_append];rfl⟩)
 rw [Nat.zero_add,List.length_range] at h2
 rw [Nat.zero_add,List.length_range,List.nil_append] at h3
 subst h2 h3
 exact ⟨t',h1⟩
theorem gm {f:FX} {v:List Int→D} {nx:List Int→List Int} (bG:PV.Env) (hf:∀ (q:Addr) (d:List Int) (k:Int),∃ o,f (some (.f,.int k) :: some (.pin q (.l .f),.lst (d.map D.int)) :: bG)=.ok ((o,v d),some (.f,.int k) :: some (.pin q (.l .f),.lst ((nx d).map D.int)) :: bG)) (n:Nat) (d:List Int) (t:Option R) :
  iy (aJ 0) dt f ((List.range n).map fun (k:Nat)=>D.int (k:Int)) (fun q=>t :: some (.pin q (.l .f),.lst (d.map D.int)) :: bG) 1=.ok ((List.range n).map (fun i=>v (it nx i d)),(it nx n d).map D.int):=by
 refine mO fun q=>?_
 obtain ⟨t',h⟩:=m5 bG q (hf q) n d t
 exact ⟨_,h,rfl⟩
noncomputable def rwv (w:Nat) (d:List Int):List Int:=(List.range w).map fun i=>nu (it List.dropLast i d)
theorem gq (w:Nat) (d:List Int):(rwv w d).length=w:=by unfold rwv;rw [List.length_map,List.length_range]
theorem sS (w:Nat) (d:List Int):∀ x∈rwv w d,x.natAbs≤10 ^ 30:=by
 intro x hx
 unfold rwv at hx
 obtain ⟨i,_,rfl⟩:=List.mem_map.mp hx
 exact wj _
theorem uQ (p:Addr) (d:List Int) (w:Nat) (hw:w≤1000):aR p [.lst (d.map D.int),.int (w:Int)]=.ok (.t [.f,.pin p (.l .f)],.tup [.tup ((rwv w d).map D.int),.lst ((it List.dropLast w d).map D.int)]):=by
 have hc:=gm (f:=eFunW (.l .f) aj 1 (ah (ar 1) az)) (v:=fun d=>.int (nu d)) (nx:=List.dropLast) [] (fun q d k=>⟨.f,by simp only [pv,↓reduceIte,Nat.reduceAdd,Nat.reduceLT,Nat.reduceLeDiff,Nat.reduceEqDiff,jh,b7,dj,di,bg,x_derAV,x_derAI,aU,bt,aY,flat_ints,Bool.and_self,Bool.true_and,if_true]⟩) w d none
 have e1:(List.range w).map (fun i=>D.int (nu (it List.dropLast i d)))=(rwv w d).map D.int:=by
  unfold rwv
  rw [List.map_map]
  rfl
 rw [e1] at hc
 have hl:((rwv w d).map D.int).length≤sizeLine:=line_le (by rw [List.length_map,gq];lia)
 have hr : -4611686018427387904≤(w:Int)∧(w:Int) < 4611686018427387904:=by lia
 unfold aR fm
 rw [gj (h:=by rfl)]
 simp only [List.map_cons,List.map_nil,List.replicate_zero,List.append_nil,List.cons_append,List.nil_append]
 simp only [pv,↓reduceIte,Nat.reduceAdd,Nat.reduceLT,Nat.reduceLeDiff,Nat.reduceEqDiff,op,gf,hr,Int.toNat_natCast,pS,hc,hl,flat_ints,bg,and_self]
theorem uR (d:List Int) (w:Nat) (hw:w≤1000):fW aR (.l .f) (.lst (d.map D.int)) [.int (w:Int)]=.ok ((.f,.tup ((rwv w d).map D.int)),.lst ((it List.dropLast w d).map D.int)):=fX (r:=(.f,.tup ((rwv w d).map D.int))) fun p=>uQ p d w hw
theorem gr {α:Type} (l:List α) (k:Nat) (d:α) (h:k < l.length):l.getD k d=l[k]:=by rw [List.getD_eq_getElem?_getD,List.getElem?_eq_getElem h];rfl
theorem m6 (a b:List Int) (k:Nat) (ha:k < a.length) (hb:k < b.length):(((a.zip b).map fun z=>z.1 * z.2).take (k + 1)).sum=(((a.zip b).map fun z=>z.1 * z.2).take k).sum + a.getD k 0 * b.getD k 0:=by
 have h:k < ((a.zip b).map fun z=>z.1 * z.2).length:=by
  rw [List.length_map,List.length_zip]
  lia
 rw [mY _ k h,List.getElem_map,List.getElem_zip,gr _ _ _ ha,gr _ _ _ hb]
theorem pW (rows:List (List Int)) (uZ:List Int) (j k:Nat) (ha:j < rows.length) (hb:j < uZ.length):(((rows.zip uZ).take (j + 1)).map fun z=>z.1.getD k 0 * z.2).sum=(((rows.zip uZ).take j).map fun z=>z.1.getD k 0 * z.2).sum + (rows[j].getD k 0) * uZ[j]:=by
 have h:j < (rows.zip uZ).length:=by
  rw [List.length_zip]
  lia
 rw [List.take_succ_eq_append_getElem h,List.map_append,List.sum_append_int,List.map_cons,List.map_nil,List.sum_cons,List.sum_nil,Int.add_zero,List.getElem_zip]
theorem dS {l:List Int} {k:Nat} (h:k < l.length):l.getD k 0∈l:=by
 rw [gr _ _ _ h]
 exact List.getElem_mem h
abbrev Big (a:List Int):Prop:=∀ x∈a,x.natAbs≤10 ^ 30
theorem cC {n:Nat} (h:n≤10 ^ 30):n < 2 ^ 1000:=Nat.lt_of_le_of_lt h (by decide +kernel)
noncomputable def eR (r:List Int):D:=.tup (r.map D.int)
noncomputable def dot (a b:List Int):Int:=((a.zip b).map fun z=>z.1 * z.2).sum
theorem m8 (a b:List Int):((a.map D.int).zip (b.map D.int)).map (fun z=>D.tup [z.1,z.2])=(a.zip b).map fun z=>D.tup [.int z.1,.int z.2]:=by
 rw [List.zip_map,List.map_map]
 rfl
theorem lG (a b:List Int) (ha:Big a) (hb:Big b) (hl:a.length≤1000):bR [eR a,eR b]=.ok (.f,.int (dot a b)):=by
 have hc:cq (jQ 2 (a8 (aJ 0) (a8 (aJ 1) eh))) dt (bh fU (ar 0) (ar 1)) ((a.zip b).map fun z=>D.tup [.int z.1,.int z.2]) [none,none]=.ok (((a.zip b).map fun z=>z.1 * z.2).map D.int):=by
  rw [List.map_map]
  refine dh (fun env=>∃ t u,env=[t,u]) _ ?_ _ ⟨_,_,rfl⟩
  rintro ⟨x,y⟩ hz env ⟨t,u,rfl⟩
  have hx:=cC (ha x (List.of_mem_zip hz).1)
  have hy:=cC (hb y (List.of_mem_zip hz).2)
  refine ⟨_,eO _ _ _ _ _,?_⟩
  simp only [pv,↓reduceIte,Nat.reduceAdd,Nat.reduceLT,Nat.reduceLeDiff,Nat.reduceEqDiff,sP x y hx hy]
  exact ⟨_,_,rfl,_,_,rfl⟩
 have hl2:(((a.zip b).map fun z=>z.1 * z.2).map D.int).length≤16777216:=by
  rw [List.length_map,List.length_map,List.length_zip]
  lia
 unfold bR gT eR
 rw [cB (h:=by rfl)]
 simp only [pv,↓reduceIte,Nat.reduceAdd,Nat.reduceLT,Nat.reduceLeDiff,Nat.reduceEqDiff,op,m8,hc,line_le hl2,flat_ints,lE]
 rfl
theorem jL (a b:List Int) (ha:Big a) (hb:Big b) (hl:a.length≤1000) (hab:a.length=b.length):aO [eR a,eR b]=.ok (.f,.int (dot a b)):=by
 have hz:((a.zip b).map fun z=>z.1 * z.2).take a.length=(a.zip b).map fun z=>z.1 * z.2:=by
  rw [List.take_of_length_le]
  rw [List.length_map,List.length_zip]
  lia
 obtain ⟨env',hf,t,rfl⟩:=iI (a:=aJ 3) (g:=br) (e:=fun k=>D.int (k:Int)) a.length (fun k env=>∃ t,env=[some (.f,eR a),some (.f,eR b),some (.f,.int (((a.zip b).map fun z=>z.1 * z.2).take k).sum),t]) (by
  rintro k env hk ⟨t,rfl⟩
  have hk2:k < b.length:=hab▸hk
  refine ⟨[some (.f,eR a),some (.f,eR b),some (.f,.int (((a.zip b).map fun z=>z.1 * z.2).take k).sum),some (.f,.int (k:Int))],by simp only [pv,↓reduceIte,Nat.reduceAdd,Nat.reduceLT,Nat.reduceLeDiff,Nat.reduceEqDiff],[some (.f,eR a),some (.f,eR b),some (.f,.int (((a.zip b).map fun z=>z.1 * z.2).take (k + 1)).sum),some (.f,.int (k:Int))],?_,_,rfl⟩
  have e1:=gY (l:=a) hk
  have e2:=gY (l:=b) hk2
  have e3:=sP (a.getD k 0) (b.getD k 0) (cC (ha _ (dS hk))) (cC (hb _ (dS hk2)))
  rw [m6 a b k hk hk2]
  unfold br eR
  simp only [pv,↓reduceIte,Nat.reduceAdd,Nat.reduceLT,Nat.reduceLeDiff,Nat.reduceEqDiff,op,e1,e2,e3]) [some (.f,eR a),some (.f,eR b),some (.f,.int 0),none] ⟨_,by rw [List.take_zero,List.sum_nil]⟩
 unfold aO cK
 rw [cB (h:=by rfl)]
 have hr:bp (au (bI jR (ah (ar 0) az))) [some (.f,eR a),some (.f,eR b),some (.f,.int 0),none]=.ok ((List.range a.length).map fun (k:Nat)=>D.int (k:Int),[some (.f,eR a),some (.f,eR b),some (.f,.int 0),none]):=by
  refine (uN (a.length:Int) (by lia) (by lia) _ _ _ (.val (.int (a.length:Int))) ?_ rfl)
  unfold eR
  simp only [pv,↓reduceIte,Nat.reduceAdd,Nat.reduceLT,Nat.reduceLeDiff,Nat.reduceEqDiff,op,List.length_map]
 rw [a9 (env':=[some (.f,eR a),some (.f,eR b),some (.f,.int 0),none]) (by simp only [pv,↓reduceIte,Nat.reduceAdd,Nat.reduceLT,Nat.reduceLeDiff,Nat.reduceEqDiff])]
 rw [a9 (env':=[some (.f,eR a),some (.f,eR b),some (.f,.int (dot a b)),t]) (by
  unfold cf
  rw [x_sFor,hr,bOk]
  rw [hz] at hf
  exact hf)]
 unfold bT
 simp only [pv,↓reduceIte,Nat.reduceAdd,Nat.reduceLT,Nat.reduceLeDiff,Nat.reduceEqDiff]
noncomputable def co (rows:List (List Int)) (uZ:List Int) (j k:Nat):Int:=(((rows.zip uZ).take j).map fun z=>z.1.getD k 0 * z.2).sum
theorem ji (rows:List (List Int)) (uZ:List Int):((rows.map eR).zip (uZ.map D.int)).map (fun z=>D.tup [z.1,z.2])=(rows.zip uZ).map fun z=>D.tup [eR z.1,.int z.2]:=by
 rw [List.zip_map,List.map_map]
 rfl
def Rows (w:Nat) (rows:List (List Int)):Prop:=∀ r∈rows,r.length=w∧Big r
theorem pX (rows:List (List Int)):flatDs (rows.map eR)=true:=by
 rw [bM,List.all_map,List.all_eq_true]
 intro r _
 show bV (.tup _)=true
 rw [dR,flat_ints]
theorem uS (w k:Nat) (hk:k < w) (rows:List (List Int)) (uZ:List Int) (hr:Rows w rows) (hn:Big uZ):cq (jQ 2 (a8 (aJ 0) (a8 (aJ 1) eh))) dt (bh fU (au (bh ixD (ar 0) (ar 2))) (ar 1)) ((rows.zip uZ).map fun z=>D.tup [eR z.1,.int z.2]) [none,none,some (.f,.int (k:Int))]=.ok (((rows.zip uZ).map fun z=>z.1.getD k 0 * z.2).map D.int):=by
 rw [List.map_map]
 refine dh (fun env=>∃ t u,env=[t,u,some (.f,.int (k:Int))]) _ ?_ _ ⟨_,_,rfl⟩
 rintro ⟨r,y⟩ hz env ⟨t,u,rfl⟩
 have hm:=List.of_mem_zip hz
 obtain ⟨h1,h2⟩:=hr r hm.1
 have hk2:k < r.length:=h1▸hk
 have e1:=gY (l:=r) hk2
 have e2:=sP (r.getD k 0) y (cC (h2 _ (dS hk2))) (cC (hn y hm.2))
 refine ⟨_,eO _ _ _ _ _,?_⟩
 unfold eR
 simp only [pv,↓reduceIte,Nat.reduceAdd,Nat.reduceLT,Nat.reduceLeDiff,Nat.reduceEqDiff,op,e1,e2]
 exact ⟨_,_,rfl,_,_,rfl⟩
theorem jj (w:Nat) (hw:w≤1000) (rows:List (List Int)) (uZ:List Int) (hr:Rows w rows) (hn:Big uZ) (hl:rows.length≤1000):bY [.lst (rows.map eR),.lst (uZ.map D.int),.int (w:Int)]=.ok (.f,eR ((List.range w).map (co rows uZ rows.length))):=by
 have hco:∀ k,((rows.zip uZ).map fun z=>z.1.getD k 0 * z.2).sum=co rows uZ rows.length k:=fun k=>by
  unfold co
  rw [List.take_of_length_le]
  rw [List.length_zip]
  lia
 have hl2:∀ k,(((rows.zip uZ).map fun z=>z.1.getD k 0 * z.2).map D.int).length≤16777216:=fun k=>by
  rw [List.length_map,List.length_map,List.length_zip]
  lia
 have hc:cq (aJ 0) dt (bI nN (ah (au (ej (iu (ah (au (bF 1)) (ah (au (bF 2)) az))) [none,none,some 0] (jQ 2 (a8 (aJ 0) (a8 (aJ 1) eh))) dt (bh fU (au (bh ixD (ar 0) (ar 2))) (ar 1)))) az)) ((List.range w).map fun (k:Nat)=>D.int (k:Int)) [none,some (.f,.lst (rows.map eR)),some (.f,.lst (uZ.map D.int))]=.ok (((List.range w).map (co rows uZ rows.length)).map D.int):=by
  rw [List.map_map]
  refine dh (fun env=>∃ t,env=[t,some (.f,.lst (rows.map eR)),some (.f,.lst (uZ.map D.int))]) _ ?_ _ ⟨_,rfl⟩
  rintro k hk env ⟨t,rfl⟩
  have hk:k < w:=List.mem_range.mp hk
  refine ⟨[some (.f,.int (k:Int)),some (.f,.lst (rows.map eR)),some (.f,.lst (uZ.map D.int))],by simp only [pv,↓reduceIte,Nat.reduceAdd,Nat.reduceLT,Nat.reduceLeDiff,Nat.reduceEqDiff],?_⟩
  simp only [pv,↓reduceIte,Nat.reduceAdd,Nat.reduceLT,Nat.reduceLeDiff,Nat.reduceEqDiff,op,ji,uS w k hk rows uZ hr hn,line_le (hl2 k),flat_ints,lE,hco]
  exact ⟨_,_,rfl,_,rfl⟩
 have hl3:(((List.range w).map (co rows uZ rows.length)).map D.int).length≤16777216:=by
  rw [List.length_map,List.length_map,List.length_range]
  lia
 unfold bY jc eR
 rw [cB (h:=by rfl)]
 have hr1 : -4611686018427387904≤(w:Int)∧(w:Int) < 4611686018427387904:=by lia
 unfold eR at hc
 simp only [pv,↓reduceIte,Nat.reduceAdd,Nat.reduceLT,Nat.reduceLeDiff,Nat.reduceEqDiff,op,hr1,Int.toNat_natCast,and_self,hc,line_le hl3,flat_ints]
theorem jM (w k:Nat) (f:Nat→Int) (h:k < w):((List.range w).map f).getD k 0=f k:=by
 rw [gr _ _ _ (by rw [List.length_map,List.length_range];exact h),List.getElem_map,List.getElem_range]
theorem pY (x y:D) (a b c d t1 t2 t3:Option R):jQ 2 (a8 (aJ 4) (a8 (aJ 5) eh)) (.tup [x,y]) [a,b,c,d,t1,t2,t3]=.ok [a,b,c,d,some (.f,x),some (.f,y),t3]:=by
 rw [x_aTup,if_pos (by simp),x_asCons,x_aName,if_pos (by simp),bOk,x_asCons,x_aName,if_pos (by simp),bOk]
 rfl
theorem pZ (w:Nat) (hw:w≤1000) (R0 N0:D) (f:Nat→Int) (r:List Int) (y:Int) (hr:r.length=w∧Big r) (hy:y.natAbs≤10 ^ 30) (t:Option R) :
  ∃ t',cy [some (.f,R0),some (.f,N0),some (.f,.int (w:Int)),some (.l .f,.lst (((List.range w).map f).map D.int)),some (.f,eR r),some (.f,.int y),t] =
   .ok (.nx [some (.f,R0),some (.f,N0),some (.f,.int (w:Int)),some (.l .f,.lst (((List.range w).map fun k=>f k + r.getD k 0 * y).map D.int)),some (.f,eR r),some (.f,.int y),t']):=by
 obtain ⟨env',hf,t',rfl⟩:=iI (a:=aJ 6) (g:=bZ) (e:=fun k=>D.int (k:Int)) w (fun k env=>∃ t,env=[some (.f,R0),some (.f,N0),some (.f,.int (w:Int)),some (.l .f,.lst (((List.range w).map fun i=>if i < k then f i + r.getD i 0 * y else f i).map D.int)),some (.f,eR r),some (.f,.int y),t]) (by
  rintro k env hk ⟨t,rfl⟩
  have hk2:k < r.length:=hr.1.symm▸hk
  generalize hg:(fun i=>if i < k then f i + r.getD i 0 * y else f i)=g
  have gk:g k=f k:=by rw [←hg];exact if_neg (Nat.lt_irrefl _)
  have e0:atI (((List.range w).map g).map D.int) (k:Int)=some (.int (f k)):=by
   rw [gY (by rw [List.length_map,List.length_range];exact hk),jM w k g hk,gk]
  have e1:=gY (l:=r) hk2
  have e2:=sP (r.getD k 0) y (cC (hr.2 _ (dS hk2))) (cC hy)
  have e3:ixN (((List.range w).map g).map D.int).length (k:Int)=some k:=pU _ _ (by rw [List.length_map,List.length_map,List.length_range];exact hk)
  have e4:(((List.range w).map g).map D.int).set k (.int (f k + r.getD k 0 * y))=((List.range w).map fun i=>if i < k + 1 then f i + r.getD i 0 * y else f i).map D.int:=by
   rw [List.map_map,g5,List.map_map]
   refine List.map_congr_left fun i _=>?_
   show (if i=k then D.int _ else D.int (g i))=D.int (if i < k + 1 then f i + r.getD i 0 * y else f i)
   by_cases h:i=k
   ·subst h
    rw [if_pos rfl,if_pos (Nat.lt_add_one _)]
   ·rw [if_neg h,←hg]
    dsimp only
    by_cases h2:i < k
    ·rw [if_pos h2,if_pos (by lia)]
    ·rw [if_neg h2,if_neg (by lia)]
  refine ⟨[some (.f,R0),some (.f,N0),some (.f,.int (w:Int)),some (.l .f,.lst (((List.range w).map g).map D.int)),some (.f,eR r),some (.f,.int y),some (.f,.int (k:Int))],by simp only [pv,↓reduceIte,Nat.reduceAdd,Nat.reduceLT,Nat.reduceLeDiff,Nat.reduceEqDiff],
   [some (.f,R0),some (.f,N0),some (.f,.int (w:Int)),some (.l .f,.lst (((List.range w).map fun i=>if i < k + 1 then f i + r.getD i 0 * y else f i).map D.int)),some (.f,eR r),some (.f,.int y),some (.f,.int (k:Int))],?_,_,rfl⟩
  rw [←e4]
  unfold bZ eR
  simp only [pv,↓reduceIte,Nat.reduceAdd,Nat.reduceLT,Nat.reduceLeDiff,Nat.reduceEqDiff,op,e0,e1,e2,e3]) [some (.f,R0),some (.f,N0),some (.f,.int (w:Int)),some (.l .f,.lst (((List.range w).map f).map D.int)),some (.f,eR r),some (.f,.int y),t] ⟨t,by simp only [Nat.not_lt_zero,if_false]⟩
 refine ⟨t',?_⟩
 unfold cy
 rw [x_sFor,uN (w:Int) (by lia) (by lia) _ _ _ (.var 2) rfl rfl,bOk]
 refine hf.trans ?_
 have:(List.range w).map (fun i=>if i < w then f i + r.getD i 0 * y else f i)=(List.range w).map fun k=>f k + r.getD k 0 * y:=List.map_congr_left fun i hi=>if_pos (List.mem_range.mp hi)
 rw [this]
theorem sT (w:Nat) (hw:w≤1000) (rows:List (List Int)) (uZ:List Int) (hr:Rows w rows) (hn:Big uZ) (hl:rows.length≤1000) (hrn:rows.length=uZ.length):bz [.lst (rows.map eR),.lst (uZ.map D.int),.int (w:Int)]=.ok (.f,eR ((List.range w).map (co rows uZ rows.length))):=by
 have zl:(rows.zip uZ).length=rows.length:=by
  rw [List.length_zip]
  lia
 have e0:fU (.lst [.int 0]) (.int (w:Int))=.ok (.l .f,.lst (((List.range w).map fun _=>(0:Int)).map D.int)):=by
  rw [pP,if_pos ⟨by lia,by lia,line_le (by rw [List.length_cons,List.length_nil];lia)⟩,Int.toNat_natCast]
  have:(List.replicate w [D.int 0]).flatten=((List.range w).map fun _=>(0:Int)).map D.int:=by
   rw [List.map_map]
   clear hw hr
   induction w with
   | zero=>rfl
   | succ n ih=>rw [List.replicate_succ',List.flatten_append,ih,List.range_succ,List.map_append];rfl
  rw [this]
 obtain ⟨env',hf,t1,t2,t3,rfl⟩:=for_list (a:=jQ 2 (a8 (aJ 4) (a8 (aJ 5) eh))) (g:=de) (e:=fun z:List Int×Int=>D.tup [eR z.1,.int z.2]) (rows.zip uZ) (fun j env=>∃ t1 t2 t3,env=[some (.f,.lst (rows.map eR)),some (.f,.lst (uZ.map D.int)),some (.f,.int (w:Int)),some (.l .f,.lst (((List.range w).map (co rows uZ j)).map D.int)),t1,t2,t3]) (by
  rintro j ⟨r,y⟩ env hj ⟨t1,t2,t3,rfl⟩
  have hz:(r,y)∈rows.zip uZ:=List.mem_of_getElem? hj
  have hm:=List.of_mem_zip hz
  obtain ⟨q1,q2⟩:=List.getElem?_zip_eq_some.mp hj
  obtain ⟨l1,q1⟩:=List.getElem?_eq_some_iff.mp q1
  obtain ⟨l2,q2⟩:=List.getElem?_eq_some_iff.mp q2
  obtain ⟨t',hs⟩:=pZ w hw (.lst (rows.map eR)) (.lst (uZ.map D.int)) (co rows uZ j) r y (hr r hm.1) (hn y hm.2) t3
  have e:(fun k=>co rows uZ j k + r.getD k 0 * y)=co rows uZ (j + 1):=funext fun k=>by
   unfold co
   rw [pW rows uZ j k l1 l2]
   dsimp only at q1 q2
   rw [q1,q2]
  rw [e] at hs
  exact ⟨_,pY _ _ _ _ _ _ _ _ _,_,hs,_,_,_,rfl⟩) [some (.f,.lst (rows.map eR)),some (.f,.lst (uZ.map D.int)),some (.f,.int (w:Int)),some (.l .f,.lst (((List.range w).map fun _=>(0:Int)).map D.int)),none,none,none] ⟨_,_,_,by
   have:co rows uZ 0=fun _=>(0:Int):=funext fun k=>by unfold co;rw [List.take_zero];rfl
   rw [this]⟩
 unfold bz ft
 rw [cB (h:=by rfl)]
 rw [a9 (env':=[some (.f,.lst (rows.map eR)),some (.f,.lst (uZ.map D.int)),some (.f,.int (w:Int)),some (.l .f,.lst (((List.range w).map fun _=>(0:Int)).map D.int)),none,none,none]) (by simp only [pv,↓reduceIte,Nat.reduceAdd,Nat.reduceLT,Nat.reduceLeDiff,Nat.reduceEqDiff,e0])]
 rw [a9 (env':=[some (.f,.lst (rows.map eR)),some (.f,.lst (uZ.map D.int)),some (.f,.int (w:Int)),some (.l .f,.lst (((List.range w).map (co rows uZ rows.length)).map D.int)),t1,t2,t3]) (by
  unfold dG
  rw [x_sFor]
  simp only [pv,↓reduceIte,Nat.reduceAdd,Nat.reduceLT,Nat.reduceLeDiff,Nat.reduceEqDiff,ji]
  rw [zl] at hf
  exact hf)]
 unfold df
 simp only [pv,↓reduceIte,Nat.reduceAdd,Nat.reduceLT,Nat.reduceLeDiff,Nat.reduceEqDiff,op]
 rfl
theorem lH (x:Int):aH [.int x]=.ok (.f,.bl true):=by
 unfold aH dH
 rw [cB (h:=by rfl)]
 simp only [pv,↓reduceIte,Nat.reduceAdd,Nat.reduceLT,Nat.reduceLeDiff,Nat.reduceEqDiff,we,wd,Bool.not_false]
theorem m9 (n:Nat):pC (.bl false) (.lst (List.replicate n (D.bl true)))=.ok (.f,.bl true):=by
 have h1:∀ n k,plainDs k (List.replicate n (D.bl true))=true:=by
  intro n k
  induction n with
  | zero=>rfl
  | succ n ih=>rw [List.replicate_succ,plainDs,ih,plainD];all_goals simp
 have h2:∀ n,lO (.bl false) (List.replicate n (D.bl true))=false:=by
  intro n
  induction n with
  | zero=>rfl
  | succ n ih=>
   unfold lO at ih ⊢
   rw [List.replicate_succ,List.any_cons,ih]
   rfl
 rw [lC]
 unfold nO inO
 dsimp only
 rw [h1,h2,plainD]
 all_goals simp [Res.bind]
theorem lI {α β:Type} (l:List α) (b:β):l.map (fun _=>b)=List.replicate l.length b:=by
 rw [List.map_const']
theorem ng (r:List Int) (w:Nat) (h:r.length=w) (hw:w≤1000):aS [eR r,.int (w:Int)]=.ok (.f,.bl true):=by
 have hc:cq (aJ 0) dt (jP aH (ah (ar 0) az)) (r.map D.int) [none]=.ok (r.map fun _=>D.bl true):=by
  refine dh (fun env=>∃ t,env=[t]) _ ?_ _ ⟨_,rfl⟩
  rintro x _ env ⟨t,rfl⟩
  refine ⟨[some (.f,.int x)],by simp only [pv,↓reduceIte,Nat.reduceAdd,Nat.reduceLT,Nat.reduceLeDiff,Nat.reduceEqDiff],?_⟩
  simp only [pv,↓reduceIte,Nat.reduceAdd,Nat.reduceLT,Nat.reduceLeDiff,Nat.reduceEqDiff,lH,aU,gd]
  exact ⟨_,_,rfl,_,rfl⟩
 have hf:flatDs (r.map fun _=>D.bl true)=true:=by
  have:=jd (r.map fun _=>true)
  rw [List.map_map] at this
  exact this
 have hl:w≤sizeLine:=line_le (by lia)
 have hn:pC (.bl false) (.lst (r.map fun _=>D.bl true))=.ok (.f,.bl true):=by rw [lI];exact m9 _
 have hne:neO (.int (w:Int)) (.int (w:Int))=.ok (.f,.bl false):=by rw [rY,beq_self_eq_true];rfl
 unfold aS dg eR
 rw [cB (h:=by rfl)]
 simp only [pv,↓reduceIte,Nat.reduceAdd,Nat.reduceLT,Nat.reduceLeDiff,Nat.reduceEqDiff,op,isT,List.length_map,h,hc,hf,hl,hn,beq_self_eq_true,Bool.not_true,Bool.false_eq_true]
theorem uT (d:List Int) (m:Int) (h:0 < m):0≤dr d m∧dr d m < m:=by
 unfold dr
 split
 ·exact jK _ _ h
 ·exact ⟨Int.le_refl _,h⟩
theorem uU (w:Nat):(List.replicate w [D.int 0]).flatten=((List.range w).map fun _=>(0:Int)).map D.int:=by
 rw [List.map_map]
 induction w with
 | zero=>rfl
 | succ n ih=>rw [List.replicate_succ',List.flatten_append,ih,List.range_succ,List.map_append];rfl
theorem jN (n:Nat) (rows:List (List Int)):plainDs (n + 1) (rows.map eR)=true:=by
 induction rows with
 | nil=>rfl
 | cons r rows ih=>rw [List.map_cons,plainDs,ih];show (plainD (n + 1) (.tup _) && true)=true;rw [plainD,bA];rfl
theorem p4 (S0:D) (w:Int) (d:List Int) (c0:Int) (h0:0≤c0) (h1:c0≤60):∃ (d':List Int) (c:Int),0≤c∧c≤60∧
  sIf (eBl (cV eqO (au (eFunW (.l .f) aq 1 (ah (ar 1) (ah (au (bC (.int 8))) az)))) (au (bC (.int 1))))) (dI 3 (eFunW (.l .f) aq 1 (ah (ar 1) (ah (au (bC (.int 61))) az)))) fH
   [some (.f,S0),some (.l .f,.lst (d.map D.int)),some (.f,.int w),some (.f,.int c0),none,none,none,none,none] =
  .ok (.nx [some (.f,S0),some (.l .f,.lst (d'.map D.int)),some (.f,.int w),some (.f,.int c),none,none,none,none,none]):=by
 cases h:dr d 8 == 1 with
 | true=>
  have hb:=uT d.dropLast 61 (by decide)
  refine ⟨d.dropLast.dropLast,dr d.dropLast 61,hb.1,by lia,?_⟩
  simp only [pv,↓reduceIte,Nat.reduceAdd,Nat.reduceLT,Nat.reduceLeDiff,Nat.reduceEqDiff,op,fw d 8 (by decide),fw d.dropLast 61 (by decide),h,b7,dj,di,bg,x_derAV,x_derAI,aU,bt,aY,flat_ints,Bool.and_self,Bool.true_and,if_true]
 | false=>
  refine ⟨d.dropLast,c0,h0,h1,?_⟩
  simp only [pv,↓reduceIte,Nat.reduceAdd,Nat.reduceLT,Nat.reduceLeDiff,Nat.reduceEqDiff,op,fw d 8 (by decide),h,b7,dj,di,bg,x_derAV,x_derAI,aU,bt,aY,flat_ints,Bool.and_self,Bool.true_and,if_true,Bool.false_eq_true]
noncomputable def eU (w:Nat) (c:Nat) (d:List Int):List (List Int):=(List.range c).map fun i=>rwv w (it (it List.dropLast w) i d)
theorem nh (w c:Nat) (d:List Int):Rows w (eU w c d):=by
 intro r hr
 unfold eU at hr
 obtain ⟨i,_,rfl⟩:=List.mem_map.mp hr
 exact ⟨gq _ _,sS _ _⟩
theorem g6 (w c:Nat) (d:List Int):(eU w c d).length=c:=by unfold eU;rw [List.length_map,List.length_range]
theorem sU (S0:D) (w c:Nat) (hw:w≤1000) (hc:c≤1000) (d:List Int):dI 4 (c8 (bp (ar 3)) [none,some 1,some 2] 1 1 (aJ 0) dt (eFunW (.l .f) aR 1 (ah (ar 1) (ah (ar 2) az))))
   [some (.f,S0),some (.l .f,.lst (d.map D.int)),some (.f,.int (w:Int)),some (.f,.int (c:Int)),none,none,none,none,none] =
  .ok (.nx [some (.f,S0),some (.l .f,.lst ((it (it List.dropLast w) c d).map D.int)),some (.f,.int (w:Int)),some (.f,.int (c:Int)),some (.l .f,.lst ((eU w c d).map eR)),none,none,none,none]):=by
 have hm:=gm (f:=eFunW (.l .f) aR 1 (ah (ar 1) (ah (ar 2) az))) (v:=fun d=>.tup ((rwv w d).map D.int)) (nx:=it List.dropLast w) [some (.f,.int (w:Int))] (fun q d k=>⟨.f,by simp only [pv,↓reduceIte,Nat.reduceAdd,Nat.reduceLT,Nat.reduceLeDiff,Nat.reduceEqDiff,uR d w hw,b7,dj,di,bg,x_derAV,x_derAI,aU,bt,aY,flat_ints,Bool.and_self,Bool.true_and,if_true,dR]⟩) c d none
 have e1:(List.range c).map (fun i=>D.tup ((rwv w (it (it List.dropLast w) i d)).map D.int))=(eU w c d).map eR:=by
  unfold eU
  rw [List.map_map]
  rfl
 rw [e1] at hm
 have hl:((eU w c d).map eR).length≤sizeLine:=line_le (by rw [List.length_map,g6];lia)
 have hr : -4611686018427387904≤(c:Int)∧(c:Int) < 4611686018427387904:=by lia
 simp only [pv,↓reduceIte,Nat.reduceAdd,Nat.reduceLT,Nat.reduceLeDiff,Nat.reduceEqDiff,gf,hr,Int.toNat_natCast,nX,hm,hl,flat_ints,pX,and_self]
theorem sV (S0:D) (w:Int) (rows:D) (c:Nat) (hc:c≤1000) (d:List Int):∃ d':List Int,dI 5 (c8 (bp (ar 3)) [none,some 1] 1 1 (aJ 0) dt (eFunW (.l .f) aj 1 (ah (ar 1) az)))
   [some (.f,S0),some (.l .f,.lst (d.map D.int)),some (.f,.int w),some (.f,.int (c:Int)),some (.l .f,rows),none,none,none,none] =
  .ok (.nx [some (.f,S0),some (.l .f,.lst (d'.map D.int)),some (.f,.int w),some (.f,.int (c:Int)),some (.l .f,rows),some (.l .f,.lst ((rwv c d).map D.int)),none,none,none]):=by
 have hm:=gm (f:=eFunW (.l .f) aj 1 (ah (ar 1) az)) (v:=fun d=>.int (nu d)) (nx:=List.dropLast) [] (fun q d k=>⟨.f,by simp only [pv,↓reduceIte,Nat.reduceAdd,Nat.reduceLT,Nat.reduceLeDiff,Nat.reduceEqDiff,jh,b7,dj,di,bg,x_derAV,x_derAI,aU,bt,aY,flat_ints,Bool.and_self,Bool.true_and,if_true]⟩) c d none
 have e1:(List.range c).map (fun i=>D.int (nu (it List.dropLast i d)))=(rwv c d).map D.int:=by
  unfold rwv
  rw [List.map_map]
  rfl
 rw [e1] at hm
 have hl:((rwv c d).map D.int).length≤sizeLine:=line_le (by rw [List.length_map,gq];lia)
 have hr : -4611686018427387904≤(c:Int)∧(c:Int) < 4611686018427387904:=by lia
 refine ⟨it List.dropLast c d,?_⟩
 simp only [pv,↓reduceIte,Nat.reduceAdd,Nat.reduceLT,Nat.reduceLeDiff,Nat.reduceEqDiff,gf,hr,Int.toNat_natCast,nX,hm,hl,flat_ints,and_self]
theorem nY (rows:List (List Int)) (k:Nat) (h:k < rows.length):atI (rows.map eR) (k:Int)=some (eR rows[k]):=fB (by rw [List.getElem?_map,List.getElem?_eq_getElem h];rfl)
theorem lJ (rows:List (List Int)) (k:Nat) (h:k < rows.length):∃ r∈rows,atI (rows.map eR) ((k:Int) - 1)=some (eR r):=by
 cases k with
 | succ n=>
  refine ⟨rows[n],List.getElem_mem _,?_⟩
  rw [show ((n + 1:Nat):Int) - 1=(n:Int) by lia]
  exact nY rows n (by lia)
 | zero=>
  refine ⟨rows[rows.length - 1],List.getElem_mem _,?_⟩
  have e:ixN (rows.map eR).length ((0:Nat) - 1:Int)=some (rows.length - 1):=by
   unfold ixN
   rw [List.length_map]
   rw [if_neg (by lia),if_pos (by lia)]
   congr 1
   lia
  unfold atI
  rw [e]
  show (rows.map eR)[rows.length - 1]?=_
  rw [List.getElem?_map,List.getElem?_eq_getElem (by lia)]
  rfl
theorem jO (S0 D0 H0:D) (w c:Nat) (hw:w≤1000) (hc:c≤1000) (rows:List (List Int)) (uZ:D) (hr:Rows w rows) (hl:rows.length=c):∃ t7 t8,iz [some (.f,S0),some (.l .f,D0),some (.f,.int (w:Int)),some (.f,.int (c:Int)),some (.l .f,.lst (rows.map eR)),some (.l .f,uZ),some (.l .f,H0),none,none] =
  .ok (.nx [some (.f,S0),some (.l .f,D0),some (.f,.int (w:Int)),some (.f,.int (c:Int)),some (.l .f,.lst (rows.map eR)),some (.l .f,uZ),some (.l .f,H0),t7,t8]):=by
 obtain ⟨env',hf,t7,t8,rfl⟩:=iI (a:=aJ 7) (g:=fY) (e:=fun k=>D.int (k:Int)) c (fun k env=>∃ t7 t8,env=[some (.f,S0),some (.l .f,D0),some (.f,.int (w:Int)),some (.f,.int (c:Int)),some (.l .f,.lst (rows.map eR)),some (.l .f,uZ),some (.l .f,H0),t7,t8]) (by
  rintro k env hk ⟨t7,t8,rfl⟩
  have hk2:k < rows.length:=hl.symm▸hk
  obtain ⟨r',hm',e'⟩:=lJ rows k hk2
  have e:=nY rows k hk2
  have hm:rows[k]∈rows:=List.getElem_mem _
  generalize rows[k]=r at e hm
  obtain ⟨l1,b1⟩:=hr r hm
  obtain ⟨l2,b2⟩:=hr r' hm'
  have p1:=lG r r' b1 b2 (by lia)
  have p2:=jL r r' b1 b2 (by lia) (by lia)
  refine ⟨[some (.f,S0),some (.l .f,D0),some (.f,.int (w:Int)),some (.f,.int (c:Int)),some (.l .f,.lst (rows.map eR)),some (.l .f,uZ),some (.l .f,H0),some (.f,.int (k:Int)),t8],by simp only [pv,↓reduceIte,Nat.reduceAdd,Nat.reduceLT,Nat.reduceLeDiff,Nat.reduceEqDiff],
   [some (.f,S0),some (.l .f,D0),some (.f,.int (w:Int)),some (.f,.int (c:Int)),some (.l .f,.lst (rows.map eR)),some (.l .f,uZ),some (.l .f,H0),some (.f,.int (k:Int)),some (.f,.int (dot r r'))],?_,_,_,rfl⟩
  unfold fY
  rw [a9 (env':=[some (.f,S0),some (.l .f,D0),some (.f,.int (w:Int)),some (.f,.int (c:Int)),some (.l .f,.lst (rows.map eR)),some (.l .f,uZ),some (.l .f,H0),some (.f,.int (k:Int)),some (.f,.int (dot r r'))]) (by simp only [pv,↓reduceIte,Nat.reduceAdd,Nat.reduceLT,Nat.reduceLeDiff,Nat.reduceEqDiff,op,e,e',p1,aU,aY])]
  simp only [pv,↓reduceIte,Nat.reduceAdd,Nat.reduceLT,Nat.reduceLeDiff,Nat.reduceEqDiff,op,e,e',p2,lH,aU,aY,gd,beq_self_eq_true,Bool.not_true,Bool.false_eq_true]) _ ⟨none,none,rfl⟩
 refine ⟨t7,t8,?_⟩
 have hr:=uN (c:Int) (by lia) (by lia) (ar 3) [some (.f,S0),some (.l .f,D0),some (.f,.int (w:Int)),some (.f,.int (c:Int)),some (.l .f,.lst (rows.map eR)),some (.l .f,uZ),some (.l .f,H0),none,none] _ (.var 3) rfl rfl
 rw [Int.toNat_natCast] at hr
 unfold iz
 rw [x_sFor,hr,bOk]
 exact hf
theorem uV (S0 D0:D) (w c:Nat) (hw:w≤999) (hc:c≤1000) (rows:List (List Int)) (uZ:List Int) (hr:Rows w rows) (hl:rows.length=c) (hn:Big uZ) (hnl:uZ.length=c) (t7 t8:Option R):∃ o,(fZ [some (.f,S0),some (.l .f,D0),some (.f,.int (w:Int)),some (.f,.int (c:Int)),some (.l .f,.lst (rows.map eR)),some (.l .f,.lst (uZ.map D.int)),some (.l .f,.lst [.lst (rows.map eR),.lst (uZ.map D.int)]),t7,t8])=.ok (.rt (o,.bl true)):=by
 have p1:=jj w (by lia) rows uZ hr hn (by lia)
 have p2:=sT w (by lia) rows uZ hr hn (by lia) (by lia)
 have p0:=jj w (by lia) [] [] (fun _ h=>nomatch h) (fun _ h=>nomatch h) (by simp)
 have z0:(List.range w).map (co [] [] ([]:List (List Int)).length)=(List.range w).map fun _=>(0:Int):=rfl
 rw [z0,List.map_nil,List.map_nil] at p0
 generalize hx:(List.range w).map (co rows uZ rows.length)=x at p1 p2
 have xl:x.length=w:=by rw [←hx,List.length_map,List.length_range]
 have p3:=ng x w xl (by lia)
 have q0:rU (.tup [.int 0]) (.int (w:Int))=.ok (.f,eR ((List.range w).map fun _=>(0:Int))):=by
  rw [sO,if_pos ⟨by simp,by simp,by lia,by lia⟩,Int.toNat_natCast,uU]
  rfl
 have n1:neO (eR x) (eR x)=.ok (.f,.bl false):=lD _ (je _)
 have n2:eqO (eR ((List.range w).map fun _=>(0:Int))) (eR ((List.range w).map fun _=>(0:Int)))=.ok (.f,.bl true):=gZ _ (je _)
 have n3:eqO (.lst [.lst (rows.map eR),.lst (uZ.map D.int)]) (.lst [.lst (rows.map eR),.lst (uZ.map D.int)])=.ok (.f,.bl true):=gZ _ (by simp only [plainD,plainDs,bA,jN,Bool.and_self])
 have fx:∀ x,bV (eR x)=true:=fun x=>by
  show bV (.tup _)=true
  rw [dR,flat_ints]
 unfold fZ
 rw [a9 (env':=[some (.f,S0),some (.l .f,D0),some (.f,.int (w:Int)),some (.f,.int (c:Int)),some (.l .f,.lst (rows.map eR)),some (.l .f,.lst (uZ.map D.int)),some (.l .f,.lst [.lst (rows.map eR),.lst (uZ.map D.int)]),t7,some (.f,eR x)]) (by simp only [pv,↓reduceIte,Nat.reduceAdd,Nat.reduceLT,Nat.reduceLeDiff,Nat.reduceEqDiff,op,at0,at1,p1,aU,fx])]
 rw [a9 (env':=[some (.f,S0),some (.l .f,D0),some (.f,.int (w:Int)),some (.f,.int (c:Int)),some (.l .f,.lst (rows.map eR)),some (.l .f,.lst (uZ.map D.int)),some (.l .f,.lst [.lst (rows.map eR),.lst (uZ.map D.int)]),t7,some (.f,eR x)]) (by simp only [pv,↓reduceIte,Nat.reduceAdd,Nat.reduceLT,Nat.reduceLeDiff,Nat.reduceEqDiff,op,p3,p2,n1,aU,fx,gd,Bool.not_true,Bool.false_eq_true])]
 simp only [pv,↓reduceIte,Nat.reduceAdd,Nat.reduceLT,Nat.reduceLeDiff,Nat.reduceEqDiff,op,n3,p0,q0,n2,aU,fx]
 exact ⟨_,rfl⟩
theorem lK (ns:List Int) (h:ns.length≤63):∃ o,pI [.lst (ns.map D.int)]=.ok (o,.bl true):=by
 obtain ⟨d0,_,e0⟩:=lF ns h
 have b2:=uT d0 7 (by decide)
 have b3:=uT d0.dropLast 9 (by decide)
 obtain ⟨wn,hwn⟩:=Int.eq_ofNat_of_zero_le b2.1
 unfold pI rV
 rw [cB (h:=by rfl)]
 rw [a9 (env':=[some (.f,.lst (ns.map D.int)),some (.l .f,.lst (d0.map D.int)),none,none,none,none,none,none,none]) (by simp only [pv,↓reduceIte,Nat.reduceAdd,Nat.reduceLT,Nat.reduceLeDiff,Nat.reduceEqDiff,op,e0,b7,dj,di,bg,x_derAV,x_derAI,aU,bt,aY,flat_ints,Bool.and_self,Bool.true_and,if_true])]
 rw [a9 (env':=[some (.f,.lst (ns.map D.int)),some (.l .f,.lst (d0.dropLast.map D.int)),some (.f,.int (dr d0 7)),none,none,none,none,none,none]) (by simp only [pv,↓reduceIte,Nat.reduceAdd,Nat.reduceLT,Nat.reduceLeDiff,Nat.reduceEqDiff,op,fw d0 7 (by decide),b7,dj,di,bg,x_derAV,x_derAI,aU,bt,aY,flat_ints,Bool.and_self,Bool.true_and,if_true])]
 rw [a9 (env':=[some (.f,.lst (ns.map D.int)),some (.l .f,.lst (d0.dropLast.dropLast.map D.int)),some (.f,.int (dr d0 7)),some (.f,.int (dr d0.dropLast 9)),none,none,none,none,none]) (by simp only [pv,↓reduceIte,Nat.reduceAdd,Nat.reduceLT,Nat.reduceLeDiff,Nat.reduceEqDiff,op,fw d0.dropLast 9 (by decide),b7,dj,di,bg,x_derAV,x_derAI,aU,bt,aY,flat_ints,Bool.and_self,Bool.true_and,if_true])]
 obtain ⟨d4,c,hc0,hc1,e4⟩:=p4 (.lst (ns.map D.int)) (dr d0 7) d0.dropLast.dropLast (dr d0.dropLast 9) b3.1 (by lia)
 rw [a9 e4]
 obtain ⟨cn,rfl⟩:=Int.eq_ofNat_of_zero_le hc0
 rw [hwn]
 rw [hwn] at b2
 rw [a9 (sU _ wn cn (by lia) (by lia) d4)]
 obtain ⟨d6,e6⟩:=sV (.lst (ns.map D.int)) (wn:Int) (.lst ((eU wn cn d4).map eR)) cn (by lia) (it (it List.dropLast wn) cn d4)
 rw [a9 e6]
 generalize hN:rwv cn (it (it List.dropLast wn) cn d4)=uZ
 have nb:Big uZ:=hN▸sS _ _
 have nl:uZ.length=cn:=hN▸gq _ _
 generalize hR:eU wn cn d4=rows
 have rok:Rows wn rows:=hR▸nh _ _ _
 have rl:rows.length=cn:=hR▸g6 _ _ _
 rw [a9 (env':=[some (.f,.lst (ns.map D.int)),some (.l .f,.lst (d6.map D.int)),some (.f,.int (wn:Int)),some (.f,.int (cn:Int)),some (.l .f,.lst (rows.map eR)),some (.l .f,.lst (uZ.map D.int)),some (.l .f,.lst [.lst (rows.map eR),.lst (uZ.map D.int)]),none,none]) (by simp only [pv,↓reduceIte,Nat.reduceAdd,Nat.reduceLT,Nat.reduceLeDiff,Nat.reduceEqDiff,op])]
 obtain ⟨t7,t8,e8⟩:=jO (.lst (ns.map D.int)) (.lst (d6.map D.int)) (.lst [.lst (rows.map eR),.lst (uZ.map D.int)]) wn cn (by lia) (by lia) rows (.lst (uZ.map D.int)) rok rl
 rw [a9 e8]
 obtain ⟨o,e9⟩:=uV (.lst (ns.map D.int)) (.lst (d6.map D.int)) wn cn (by lia) (by lia) rows uZ rok rl nb nl t7 t8
 rw [e9,bOk]
 exact ⟨o,rfl⟩
end LW
namespace FIN
open PySem PySem.Spec PyProof.Rows L2 NX PV LW
theorem sW {l:PySem.W.OpenLaw} {w:World} {K:W.Frag} {h:Heap} {mg:Str→Option Value} {fa f:Addr} {od an:Option Addr} {sl:Array (Option Value)} {oc kV dc pm cd ct:Value} (X:K.In h) (G:h.Ns mainGlobals mg) (hfa:mg "law" = some (.ref fa))
  (aL:PySem.W.nsIn K mainGlobals "law" = some (some (.ref f))) (lL:K.lookup f=some ⟨oc,od,.func (PySem.W.fnOf "law" "law" (bU gc) (bj gc) (defScope gc) .none kV dc pm an cd ct),sl⟩) (cL:PySem.W.codeIn K cd "law" = true) (kL:PySem.W.keepIn K (.ref f)=true)
  (D_product:Def K mg "product" eJ) (D_summed:Def K mg "summed" f6) (D__law_numbers:Def K mg "_law_numbers" bJ) (D__law_draw:Def K mg "_law_draw" cR) (D__law_number:Def K mg "_law_number" b5) (D__law_row:Def K mg "_law_row" dv) (D__law_product:Def K mg "_law_product" bK) (D__law_sum:Def K mg "_law_sum" dw) (D__law_whole:Def K mg "_law_whole" cz) (D__law_is_row:Def K mg "_law_is_row" b6)
  (z_bool:PySem.W.nsIn K mainGlobals "bool" = some none) (z_int:PySem.W.nsIn K mainGlobals "int" = some none) (z_isinstance:PySem.W.nsIn K mainGlobals "isinstance" = some none) (z_len:PySem.W.nsIn K mainGlobals "len" = some none) (z_list:PySem.W.nsIn K mainGlobals "list" = some none) (z_range:PySem.W.nsIn K mainGlobals "range" = some none) (z_reversed:PySem.W.nsIn K mainGlobals "reversed" = some none) (z_sum:PySem.W.nsIn K mainGlobals "sum" = some none) (z_tuple:PySem.W.nsIn K mainGlobals "tuple" = some none) (z_zip:PySem.W.nsIn K mainGlobals "zip" = some none) :
  ∃ fd:FuncData,(∀ (s:Shared) (v:Value),BindsTo s fd ⟨[v],[]⟩ [("_law_script",v)])∧∀ base:Heap,K.In base→base.Ns mainGlobals mg→FnOk l.prog w K mg base CX0 4 fa fd ["_law_script"] (mF K):=by
 have e:=hfa.symm.trans (PySem.W.mg_of X G aL)
 cases e
 have F:=nr (st:=gc) lL cL kL
 have y_bool:=PySem.W.mg_none_of X G z_bool
 have y_int:=PySem.W.mg_none_of X G z_int
 have y_isinstance:=PySem.W.mg_none_of X G z_isinstance
 have y_len:=PySem.W.mg_none_of X G z_len
 have y_list:=PySem.W.mg_none_of X G z_list
 have y_range:=PySem.W.mg_none_of X G z_range
 have y_reversed:=PySem.W.mg_none_of X G z_reversed
 have y_sum:=PySem.W.mg_none_of X G z_sum
 have y_tuple:=PySem.W.mg_none_of X G z_tuple
 have y_zip:=PySem.W.mg_none_of X G z_zip
 refine ⟨PySem.W.fnOf "law" "law" (bU gc) (bj gc) (defScope gc) .none kV dc pm an cd ct,fun s v=>.of_eq rfl,fun base _ _=>?_⟩
 have c_product:Ct l.prog w K mg base "product" 1 (spF K bR):=jI D_product y_sum y_zip
 have c_summed:Ct l.prog w K mg base "summed" 1 (spF K bY):=lx D_summed y_range y_sum y_tuple y_zip
 have c__law_numbers:Ct l.prog w K mg base "_law_numbers" 1 (spF K aN):=eM D__law_numbers y_len y_list y_reversed y_sum
 have c__law_draw:Ct l.prog w K mg base "_law_draw" 1 (spM K (.l .f) aq):=gW D__law_draw
 have c__law_number:Ct l.prog w K mg base "_law_number" 2 (spM K (.l .f) aj):=eQ D__law_number c__law_draw
 have c__law_row:Ct l.prog w K mg base "_law_row" 3 (spM K (.l .f) aR):=iC D__law_row c__law_number y_range y_tuple
 have c__law_product:Ct l.prog w K mg base "_law_product" 1 (spF K aO):=eN D__law_product y_len y_range
 have c__law_sum:Ct l.prog w K mg base "_law_sum" 1 (spF K bz):=iE D__law_sum y_range y_tuple y_zip
 have c__law_whole:Ct l.prog w K mg base "_law_whole" 1 (spF K aH):=f9 D__law_whole y_bool y_int y_isinstance
 have c__law_is_row:Ct l.prog w K mg base "_law_is_row" 2 (spF K aS):=eT D__law_is_row c__law_whole y_isinstance y_len y_tuple
 exact (rW F c__law_draw c__law_is_row c__law_number c__law_numbers c__law_product c__law_row c__law_sum c__law_whole c_product c_summed y_list y_range).imp (rK lK)
end FIN
open PySem PySem.W PyProof.Rows
set_option maxRecDepth 100000 in
set_option maxHeartbeats 0 in
theorem PySem.Challenge.cw_netfinder_k40_products_and_sums_holds : PySem.Challenge.rw_netfinder_k40_products_and_sums.Holds := by
  w_on; o_law; k_head; (case hw => w_witness2)
  k_fill
  refine PV.v3 (l := PySem.Challenge.rw_netfinder_k40_products_and_sums) (k := 4) (x := "_law_script") rfl rfl ⟨rfl, by decide, by decide⟩ (fun w h Y => PySem.W.kIn_of Y) ?F
  case F =>
    intro w mg fa h KX G hmg
    refine' FIN.sW KX G hmg ?aL ?lL ?cL ?kL ?D_product ?D_summed ?D__law_numbers ?D__law_draw ?D__law_number ?D__law_row ?D__law_product ?D__law_sum ?D__law_whole ?D__law_is_row ?z_bool ?z_int ?z_isinstance ?z_len ?z_list ?z_range ?z_reversed ?z_sum ?z_tuple ?z_zip
    (case aL => k_is); (case lL => k_is); (case cL => k_is); (case kL => k_is)
    (case D_product => (refine' PV.cI KX G ?a ?l ?c ?k; (case a => k_is); (case l => k_is); (case c => k_is); (case k => k_is)))
    (case D_summed => (refine' PV.cI KX G ?a ?l ?c ?k; (case a => k_is); (case l => k_is); (case c => k_is); (case k => k_is)))
    (case D__law_numbers => (refine' PV.cI KX G ?a ?l ?c ?k; (case a => k_is); (case l => k_is); (case c => k_is); (case k => k_is)))
    (case D__law_draw => (refine' PV.cI KX G ?a ?l ?c ?k; (case a => k_is); (case l => k_is); (case c => k_is); (case k => k_is)))
    (case D__law_number => (refine' PV.cI KX G ?a ?l ?c ?k; (case a => k_is); (case l => k_is); (case c => k_is); (case k => k_is)))
    (case D__law_row => (refine' PV.cI KX G ?a ?l ?c ?k; (case a => k_is); (case l => k_is); (case c => k_is); (case k => k_is)))
    (case D__law_product => (refine' PV.cI KX G ?a ?l ?c ?k; (case a => k_is); (case l => k_is); (case c => k_is); (case k => k_is)))
    (case D__law_sum => (refine' PV.cI KX G ?a ?l ?c ?k; (case a => k_is); (case l => k_is); (case c => k_is); (case k => k_is)))
    (case D__law_whole => (refine' PV.cI KX G ?a ?l ?c ?k; (case a => k_is); (case l => k_is); (case c => k_is); (case k => k_is)))
    (case D__law_is_row => (refine' PV.cI KX G ?a ?l ?c ?k; (case a => k_is); (case l => k_is); (case c => k_is); (case k => k_is)))
    (case z_bool => k_is)
    (case z_int => k_is)
    (case z_isinstance => k_is)
    (case z_len => k_is)
    (case z_list => k_is)
    (case z_range => k_is)
    (case z_reversed => k_is)
    (case z_sum => k_is)
    (case z_tuple => k_is)
    (case z_zip => k_is)
