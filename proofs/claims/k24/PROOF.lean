import PyProof.Rows.All
import Wide.All
import OpenK.AllK
import Wide.FinOn
import Lean
import PyProof.EqAt
import PyProof.EqKinds
import PyProof.TupleCall
import PySem.Challenge.RW_netfinder_k24_rings_that_grow
set_option Elab.async false
set_option linter.all false
set_option maxRecDepth 100000
set_option compiler.extract_closed false
set_option bootstrap.genMatcherCode false
noncomputable section
namespace L2
open PySem PySem.Spec PyProof.Rows
def IsTupN (h:Heap) (a:Addr) (items:Array Value):Prop:=∃ o,h.get? a=some o∧o.cls=.type "tuple"∧(∃ n,o.data=.seq items n)∧o.dict=none
theorem IsTupN.tup {h:Heap} {a:Addr} {items:Array Value} (p:IsTupN h a items):IsTup h a items:=by
 obtain ⟨o,e,c,n,_⟩:=p
 exact ⟨o,e,c,n⟩
theorem IsTupN.new (h:Heap) (items:Array Value):IsTupN (h.push { cls:=.type "tuple",data:=.seq items }) h.objs.size items:=⟨_,Heap.get?_push_size _ rfl,rfl,⟨_,rfl⟩,rfl⟩
abbrev Key:=Sum Int Str
noncomputable def mU:Key→Value→Bool
 | .inl k,v=>Value.isInt k v
 | .inr x,v=>Value.isStrOf x v
noncomputable def Ac (w:World):Key→Int
 | .inl k=>hashInt k
 | .inr x=>hashStr w x
theorem be:∀ {k:Key} {v:Value},mU k v=true→(∃ i t,k=Sum.inl i∧v=Value.int i t)∨(∃ x t,k=Sum.inr x∧v=Value.str x t)
 | .inl i,v,h=>by
  obtain ⟨t,e⟩:=Value.isInt_shape (k:=i) (v:=v) h
  exact .inl ⟨i,t,rfl,e⟩
 | .inr x,v,h=>by
  obtain ⟨t,e⟩:=Value.isStrOf_shape (x:=x) (v:=v) h
  exact .inr ⟨x,t,rfl,e⟩
theorem nL (i:Int) (t:Tok):mU (.inl i) (.int i t)=true:=by simp [mU,Value.isInt]
theorem nM (x:Str) (t:Tok):mU (.inr x) (.str x t)=true:=by simp [mU,Value.isStrOf]
theorem vL (a b:Int):decide ((Sum.inl a:Key)=Sum.inl b)=(a == b):=by
 by_cases e:a=b
 ·subst e;simp
 ·have h:¬ (Sum.inl a:Key)=Sum.inl b:=fun q=>e (Sum.inl.inj q)
  rw [decide_eq_false h]
  exact (beq_eq_false_iff_ne.mpr e).symm
theorem vM (a b:Str):decide ((Sum.inr a:Key)=Sum.inr b)=decide (a=b):=by
 by_cases e:a=b
 ·subst e;simp
 ·have h:¬ (Sum.inr a:Key)=Sum.inr b:=fun q=>e (Sum.inr.inj q)
  rw [decide_eq_false h,decide_eq_false e]
theorem vN (a:Int) (b:Str):decide ((Sum.inl a:Key)=Sum.inr b)=false:=decide_eq_false (fun q=>nomatch q)
theorem vO (a:Str) (b:Int):decide ((Sum.inr a:Key)=Sum.inl b)=false:=decide_eq_false (fun q=>nomatch q)
noncomputable def mixKind (prog:Program) (w:World):PySem.KeyKind prog w Key where
 is:=mU
 hash:=Ac w
 inj:=fun v a b ha hb=>by
  rcases be ha with ⟨i,t,rfl,rfl⟩ | ⟨x,t,rfl,rfl⟩
  ·rcases be hb with ⟨j,u,rfl,e⟩ | ⟨y,u,rfl,e⟩
   ·injection e with e1 _;rw [e1]
   ·exact nomatch e
  ·rcases be hb with ⟨j,u,rfl,e⟩ | ⟨y,u,rfl,e⟩
   ·exact nomatch e
   ·injection e with e1 _;rw [e1]
 byValue:=fun k v h=>by
  rcases be h with ⟨i,t,rfl,rfl⟩ | ⟨x,t,rfl,rfl⟩ <;> rfl
 pyHash:=fun hv h=>by
  rcases be hv with ⟨i,t,rfl,rfl⟩ | ⟨x,t,rfl,rfl⟩
  ·exact wpAny_pyHash_int h
  ·exact wpAny_pyHash_str h
 eqBool:=fun hu hv h=>by
  rcases be hu with ⟨i,t,rfl,rfl⟩ | ⟨x,t,rfl,rfl⟩
  ·rcases be hv with ⟨j,u,rfl,rfl⟩ | ⟨y,u,rfl,rfl⟩
   ·rw [vL] at h;exact wpAny_eqBool_int h
   ·rw [vN] at h;exact SeqAt.EqAt.int_str i t y u _ _ _ _ h
  ·rcases be hv with ⟨j,u,rfl,rfl⟩ | ⟨y,u,rfl,rfl⟩
   ·rw [vO] at h;exact SeqAt.EqAt.str_int x t j u _ _ _ _ h
   ·rw [vM] at h;exact wpAny_eqBool_str h
 «strs»:=fun k x t v h=>by
  rcases be h with ⟨i,u,rfl,e⟩ | ⟨y,u,rfl,e⟩
  ·exact nomatch e
  ·injection e with e1 _
   subst e1
   cases v <;> rfl
theorem li (prog:Program) (w:World) (i:Int) (t:Tok):(mixKind prog w).is (.inl i) (.int i t)=true:=nL i t
theorem lj (prog:Program) (w:World) (x:Str) (t:Tok):(mixKind prog w).is (.inr x) (.str x t)=true:=nM x t
inductive V where
 | non | bl (b:Bool) | int (i:Int) | str (x:Str) | byt (b:Array UInt8) | flt (b:UInt64) | ref (a:Addr) | ty (n:String)
 deriving DecidableEq
noncomputable def RelV:V→Value→Prop
 | .non,u=>u=Value.none
 | .bl b,u=>u=Value.bool b
 | .int i,u=>∃ t,u=Value.int i t
 | .str x,u=>∃ t,u=Value.str x t
 | .byt b,u=>∃ t,u=Value.bytes b t
 | .flt b,u=>∃ t,u=Value.float b t
 | .ref a,u=>u=Value.ref a
 | .ty n,u=>u=Value.type n
abbrev Vals:List V→List Value→Prop:=Paired RelV
theorem Vals.length {xs:List V} {us:List Value} (r:Vals xs us):xs.length=us.length:=Paired.length r
theorem Vals.get:∀ {xs:List V} {us:List Value} {i:Nat} {x:V},Vals xs us→xs[i]?=some x→∃ u,us[i]?=some u∧RelV x u
 | _,_,_,_,.nil,e=>by simp at e
 | _,_,0,_,.cons r _,e=>by simp at e;subst e;exact ⟨_,rfl,r⟩
 | _,_,i + 1,x,.cons _ t,e=>by
  obtain ⟨u,h1,h2⟩:=Vals.get (i:=i) (x:=x) t (by simpa using e)
  exact ⟨u,by simpa using h1,h2⟩
theorem Vals.set {x:V} {u:Value} (r:RelV x u):∀ {xs:List V} {us:List Value} (i:Nat),Vals xs us→Vals (xs.set i x) (us.set i u)
 | _,_,_,.nil=>.nil
 | _,_,0,.cons _ t=>.cons r t
 | _,_,i + 1,.cons q t=>.cons q (Vals.set r i t)
theorem Vals.append:∀ {xs ys:List V} {us ws:List Value},Vals xs us→Vals ys ws→Vals (xs++ys) (us++ws)
 | _,_,_,_,.nil,s=>s
 | _,_,_,_,.cons r t,s=>.cons r (Vals.append t s)
theorem Vals.take:∀ {xs:List V} {us:List Value} (n:Nat),Vals xs us→Vals (xs.take n) (us.take n)
 | _,_,0,_=>.nil
 | _,_,_ + 1,.nil=>.nil
 | _,_,n + 1,.cons r t=>.cons r (Vals.take n t)
theorem Vals.drop:∀ {xs:List V} {us:List Value} (n:Nat),Vals xs us→Vals (xs.drop n) (us.drop n)
 | _,_,0,r=>r
 | _,_,_ + 1,.nil=>.nil
 | _,_,n + 1,.cons _ t=>Vals.drop n t
theorem Vals.none_of:∀ {xs:List V} {us:List Value} {i:Nat},Vals xs us→xs[i]?=none→us[i]?=none:=fun {xs us i} r e=>by
 have h1:=r.length
 have h2:xs.length≤i:=List.getElem?_eq_none_iff.mp e
 exact List.getElem?_eq_none_iff.mpr (by lia)
noncomputable def RelO:Option V→Option Value→Prop
 | some v,some u=>RelV v u
 | none,none=>True
 | _,_=>False
noncomputable def KV {κ:Type}:List (κ×V)→List (κ×Value)→Prop:=Paired fun (p:κ×V) (q:κ×Value)=>p.1=q.1∧RelV p.2 q.2
noncomputable def kV:Key→V
 | .inl i=>.int i
 | .inr x=>.str x
inductive HO where
 | lst (xs:List V)
 | tup (xs:List V)
 | dK (kvs:List (Key×V)) | dT (kvs:List (List Key×V))
 | set (S:Int→Bool) (n:Nat)
 | ins (C dx:Addr) (fs:List (Str×V))
 | own (x:Addr)
 | xd (fs:List (Str×V))
 | met (f x:Addr)
 | rng (lo hi:Int)
 | frz (o:Obj) (u:HO)
 | tbl (ps:Array Value)
 | ext (φ:Heap→Prop)
abbrev Hp:=Addr→Option HO
noncomputable def upd (H:Hp) (a:Addr) (o:HO):Hp:=fun b=>if b=a then some o else H b
theorem aY {H:Hp} {a:Addr} {o:HO}:upd H a o a=some o:=by unfold upd;rw [if_pos rfl]
theorem aA {H:Hp} {a b:Addr} {o:HO} (h:b≠a):upd H a o b=H b:=by unfold upd;rw [if_neg h]
theorem vP {H:Hp} {a b:Addr} {o u:HO} (h:H a=some o) (h':H b=some u) (d:o≠u):a≠b:=by
 intro e;subst e;rw [h] at h';exact d (Option.some.inj h')
theorem aM {H:Hp} {a b:Addr} {o:HO} (h:H a=some o) (h':H b=none):a≠b:=by
 intro e;subst e;rw [h] at h';cases h'
section
variable (P:Program) (w:World)
noncomputable def ObjOk (H:Hp) (h:Heap) (a:Addr):HO→Prop
 | .lst xs=>xs.length≤sizeLine∧∃ (its:List Value) (n:Nat),Vals xs its∧h.get? a=some { cls:=.type "list",data:=.seq its.toArray n }
 | .tup xs=>xs.length≤sizeLine∧∃ its:List Value,Vals xs its∧IsTupN h a its.toArray
 | .dK kvs=>kvs.length≤sizeLine∧(a == sysModules)=false∧∃ vs,KV kvs vs∧h.DictOf (mixKind P w) a vs
 | .dT kvs=>kvs.length≤sizeLine∧(a == sysModules)=false∧∃ xs:List (List Key×Addr×Value),
   Paired (fun (p:List Key×V) (q:List Key×Addr×Value)=>p.1=q.1∧H q.2.1=some (.tup (p.1.map kV))∧RelV p.2 q.2.2) kvs xs∧
   ∃ o es ep,h.get? a=some o∧o.ExactDict∧o.data=.dict es ep∧es.toList=xs.map (entryOfKey (tupleKind (mixKind P w)))∧(xs.map (·.1)).Nodup
 | .set S n=>h.SetOf (intKind P w) a S n
 | .ins C dx fs=>H dx=some (.own a)∧fs.length≤1000∧dx≠a∧h.get? a=some (PySem.W.instObj C dx)∧
   ∃ mA,h.Ns1 dx mA∧(∀ f,RelO (fs.lookup f) (mA f))∧PySem.Within mA (fs.map (·.1))
 | .own _=>∃ o,h.get? a=some o
 | .xd fs=>∃ mA,h.Ns1 a mA∧∀ f,RelO (fs.lookup f) (mA f)
 | .rng lo hi=>∃ t u v,h.get? a=some { cls:=.type "range",data:=.fields #[.int lo t,.int hi u,.int 1 v] }
 | .frz o u=>h.get? a=some o∧ObjOk H h a u
 | .tbl ps=>h.get? a=some { cls:=.none,data:=.fields ps }
 | .met f x=>h.get? a=some (PySem.W.methodObj (.ref f) (.ref x))
 | .ext φ=>φ h∧(∃ o,h.get? a=some o)∧∀ h1 h2:Heap,φ h1→(∀ o,h1.get? a=some o→h2.get? a=some o)→φ h2
def HOk (H:Hp) (h:Heap):Prop:=∀ a o,H a=some o→ObjOk P w H h a o
end
section
variable {P:Program} {w:World} {H H':Hp} {h h':Heap} {a:Addr} {o:HO}
theorem ObjOk.lt (x:ObjOk P w H h a o):a < h.objs.size:=by
 cases o with
 | lst xs=>obtain ⟨_,_,_,_,e⟩:=x;exact Heap.lt_size e
 | tup xs=>obtain ⟨_,_,_,p⟩:=x;exact p.tup.lt
 | dK kvs=>obtain ⟨_,_,_,_,o,_,_,e,_⟩:=x;exact Heap.lt_size e
 | dT kvs=>obtain ⟨_,_,_,_,o,_,_,e,_⟩:=x;exact Heap.lt_size e
 | set S n=>obtain ⟨o,_,_,_,e,_⟩:=x;exact Heap.lt_size e
 | ins C dx fs=>obtain ⟨_,_,_,e,_⟩:=x;exact Heap.lt_size e
 | own y=>obtain ⟨_,e⟩:=x;exact Heap.lt_size e
 | xd fs=>obtain ⟨_,⟨_,_,_,e,_⟩,_⟩:=x;exact Heap.lt_size e
 | rng lo hi=>obtain ⟨_,_,_,e⟩:=x;exact Heap.lt_size e
 | frz ob u=>obtain ⟨e,_⟩:=x;exact Heap.lt_size e
 | tbl ps=>exact Heap.lt_size (show h.get? a=some _ from x)
 | met f y=>exact Heap.lt_size (show h.get? a=some _ from x)
 | ext φ=>obtain ⟨_,⟨_,e⟩,_⟩:=x;exact Heap.lt_size e
theorem Paired.mapP {α β:Type} {F G:α→β→Prop}:∀ {l₁:List α} {l₂:List β},Paired F l₁ l₂→(∀ a b,F a b→G a b)→Paired G l₁ l₂
 | _,_,.nil,_=>.nil
 | _,_,.cons r t,f=>.cons (f _ _ r) (Paired.mapP t f)
theorem ObjOk.stay (x:ObjOk P w H h a o) (k:∀ b u,(b=a∨H b=some (.own a))→h.get? b=some u→h'.get? b=some u)
  (ho:∀ b,H b=some (.own a)→H' b=some (.own a)) (ht:∀ b xs,H b=some (.tup xs)→H' b=some (.tup xs)):ObjOk P w H' h' a o:=by
 induction o with
 | lst xs=>obtain ⟨z,its,n,r,e⟩:=x;exact ⟨z,its,n,r,k _ _ (.inl rfl) e⟩
 | tup xs=>obtain ⟨z,its,r,ob,e,c⟩:=x;exact ⟨z,its,r,ob,k _ _ (.inl rfl) e,c⟩
 | dK kvs=>obtain ⟨z,y,vs,r,ob,es,ep,e,c⟩:=x;exact ⟨z,y,vs,r,ob,es,ep,k _ _ (.inl rfl) e,c⟩
 | dT kvs=>
  obtain ⟨z,y,xs,r,ob,es,ep,e,c⟩:=x
  exact ⟨z,y,xs,Paired.mapP r fun p q z=>⟨z.1,ht _ _ z.2.1,z.2.2⟩,ob,es,ep,k _ _ (.inl rfl) e,c⟩
 | set S n=>obtain ⟨ob,es,ep,t,e,c⟩:=x;exact ⟨ob,es,ep,t,k _ _ (.inl rfl) e,c⟩
 | ins C dx fs=>
  obtain ⟨d,z,ne,e,mA,⟨od,es,ep,e2,c⟩,r⟩:=x
  exact ⟨ho _ d,z,ne,k _ _ (.inl rfl) e,mA,⟨od,es,ep,k _ _ (.inr d) e2,c⟩,r⟩
 | own y=>obtain ⟨ob,e⟩:=x;exact ⟨ob,k _ _ (.inl rfl) e⟩
 | xd fs=>obtain ⟨mA,⟨od,es,ep,e,c⟩,r⟩:=x;exact ⟨mA,⟨od,es,ep,k _ _ (.inl rfl) e,c⟩,r⟩
 | rng lo hi=>obtain ⟨t,u,v,e⟩:=x;exact ⟨t,u,v,k _ _ (.inl rfl) e⟩
 | frz ob u ih=>obtain ⟨e,q⟩:=x;exact ⟨k _ _ (.inl rfl) e,ih q⟩
 | tbl ps=>
  have e:h.get? a=some { cls:=.none,data:=.fields ps }:=x
  show h'.get? a=some { cls:=.none,data:=.fields ps }
  exact k a _ (.inl rfl) e
 | met f y=>
  have e:h.get? a=some (PySem.W.methodObj (.ref f) (.ref y)):=x
  show h'.get? a=some (PySem.W.methodObj (.ref f) (.ref y))
  exact k a _ (.inl rfl) e
 | ext φ=>obtain ⟨p,⟨o,e⟩,st⟩:=x;exact ⟨st _ _ p fun o q=>k _ _ (.inl rfl) q,⟨o,k _ _ (.inl rfl) e⟩,st⟩
theorem HOk.lt (x:HOk P w H h) (e:H a=some o):a < h.objs.size:=(x a o e).lt
theorem HOk.fresh (x:HOk P w H h) (e:h.objs.size≤a):H a=none:=by
 cases q:H a with
 | none=>rfl
 | some u=>exact absurd (Nat.lt_of_lt_of_le (x.lt q) e) (Nat.lt_irrefl _)
theorem HOk.kept (x:HOk P w H h) (k:∀ b u,h.get? b=some u→h'.get? b=some u):HOk P w H h':=fun a o e=>
 (x a o e).stay (fun b u _ q=>k b u q) (fun _ q=>q) fun _ _ q=>q
theorem HOk.laid (x:HOk P w H h) (k:∀ b u,h.get? b=some u→h'.get? b=some u) (hp:h.objs.size≤a) (new:ObjOk P w (upd H a o) h' a o):HOk P w (upd H a o) h':=fun b u e=>by
 have hn:=x.fresh hp
 by_cases hb:b=a
 ·subst hb;rw [aY] at e;cases e;exact new
 ·rw [aA hb] at e
  exact (x b u e).stay (fun c v _ q=>k c v q) (fun c q=>by rw [aA (aM q hn)];exact q) fun c xs q=>by rw [aA (aM q hn)];exact q
end
def Rd (H:Hp) (a:Addr) (u:HO):Prop:=H a=some u∨∃ o,H a=some (.frz o u)
theorem Rd.ok {P:Program} {w:World} {H:Hp} {h:Heap} {a:Addr} {u:HO} (r:Rd H a u) (x:HOk P w H h):ObjOk P w H h a u:=by
 rcases r with r | ⟨o,r⟩
 ·exact x a u r
 ·obtain ⟨_,q⟩:=x a _ r
  exact q
noncomputable def Mut:Option HO→Prop
 | some (.lst _)=>True
 | some (.dK _)=>True
 | some (.dT _)=>True
 | some (.set _ _)=>True
 | some (.ins _ _ _)=>True
 | some (.ext _)=>True
 | _=>False
section
variable {P:Program} {w:World} {H:Hp} {h h':Heap} {x e:Addr} {o':HO}
theorem HOk.write (ok:HOk P w H h) (mu:Mut (H x)) (he:e=x∨H e=some (.own x)) (k:∀ b u,b≠e→h.get? b=some u→h'.get? b=some u) (heo:∃ u,h'.get? e=some u)
  (new:ObjOk P w (upd H x o') h' x o'):HOk P w (upd H x o') h':=fun b u q=>by
 have nown:∀ c y,H c=some (.own y)→c≠x:=fun c y r z=>by subst z;rw [r] at mu;exact mu
 have ntup:∀ c xs,H c=some (.tup xs)→c≠x:=fun c xs r z=>by subst z;rw [r] at mu;exact mu
 by_cases hb:b=x
 ·subst hb;rw [aY] at q;cases q;exact new
 ·rw [aA hb] at q
  by_cases hbe:b=e
  ·have q':H b=some (.own x):=by
    rcases he with z | z
    ·exact absurd (hbe.trans z) hb
    ·rw [hbe];exact z
   rw [q] at q';cases q'
   obtain ⟨v,hv⟩:=heo
   exact ⟨v,by rw [hbe];exact hv⟩
  ·refine (ok b u q).stay (fun c v hc r=>k c v ?_ r) (fun c r=>by rw [aA (nown c b r)];exact r) fun c xs r=>by rw [aA (ntup c xs r)];exact r
   rcases hc with rfl | hc
   ·exact hbe
   ·rintro rfl
    rcases he with z | z
    ·exact nown c b hc z
    ·rw [hc] at z;cases z;exact hb rfl
end
structure Un (fs ex:List Addr) (H H':Hp) (h h':Heap):Prop where
 keep:∀ b o,h.get? b=some o→H b=none→b∉fs→b∉ex→h'.get? b=some o
 slot:∀ b o,h.get? b=some o→H b=none→b∈fs→b∉ex→∃ sl,h'.get? b=some { o with slots:=sl }
 free:∀ b o,h.get? b=some o→H b=none→b∉ex→H' b=none
 there:∀ b o,h.get? b=some o→b∉ex→∃ o',h'.get? b=some o'
 tups:∀ b xs,H b=some (.tup xs)→H' b=some (.tup xs)
 frzs:∀ b o u,H b=some (.frz o u)→H' b=some (.frz o u)
 tbls:∀ b ps,H b=some (.tbl ps)→∃ more,H' b=some (.tbl (ps++more))
section
variable {fs fs' ex ex':List Addr} {H H1 H2:Hp} {h h1 h2 h':Heap} {a x e:Addr} {o:HO}
theorem Un.any (u:Un fs ex H H1 h h1) {b:Addr} {ob:Obj} (q:h.get? b=some ob) (n:H b=none) (hx:b∉ex):∃ sl,h1.get? b=some { ob with slots:=sl }:=by
 by_cases hb:b∈fs
 ·exact u.slot b ob q n hb hx
 ·exact ⟨ob.slots,u.keep b ob q n hb hx⟩
theorem Un.trans (a:Un fs ex H H1 h h1) (b:Un fs ex H1 H2 h1 h2):Un fs ex H H2 h h2 where
 keep:=fun c ob q n hc hx=>b.keep c ob (a.keep c ob q n hc hx) (a.free c ob q n hx) hc hx
 slot:=fun c ob q n hc hx=>by
  obtain ⟨sl,e1⟩:=a.slot c ob q n hc hx
  obtain ⟨sl',e2⟩:=b.slot c _ e1 (a.free c ob q n hx) hc hx
  exact ⟨sl',e2⟩
 free:=fun c ob q n hx=>by
  obtain ⟨o',e1⟩:=a.there c ob q hx
  exact b.free c o' e1 (a.free c ob q n hx) hx
 there:=fun c ob q hx=>by
  obtain ⟨o',e1⟩:=a.there c ob q hx
  exact b.there c o' e1 hx
 tups:=fun c xs q=>b.tups c xs (a.tups c xs q)
 frzs:=fun c ob xs q=>b.frzs c ob xs (a.frzs c ob xs q)
 tbls:=fun c ps q=>by
  obtain ⟨m1,e1⟩:=a.tbls c ps q
  obtain ⟨m2,e2⟩:=b.tbls c _ e1
  exact ⟨m1++m2,by rw [e2,Array.append_assoc]⟩
theorem Un.kept (k:∀ b u,h.get? b=some u→h'.get? b=some u):Un fs ex H H h h':=
 ⟨fun b ob q _ _ _=>k b ob q,fun b ob q _ _ _=>⟨ob.slots,k b ob q⟩,fun _ _ _ n _=>n,fun b ob q _=>⟨ob,k b ob q⟩,fun _ _ q=>q,fun _ _ _ q=>q,fun _ ps q=>⟨#[],by rw [q];simp⟩⟩
theorem Un.refl:Un fs ex H H h h:=Un.kept fun _ _ q=>q
theorem Un.laid (k:∀ b u,h.get? b=some u→h'.get? b=some u) (hp:h.objs.size≤a) (hn:H a=none):Un fs ex H (upd H a o) h h' where
 keep:=fun b u q _ _ _=>k b u q
 slot:=fun b u q _ _ _=>⟨u.slots,k b u q⟩
 free:=fun b u q n _=>by rw [aA (Nat.ne_of_lt (Nat.lt_of_lt_of_le (Heap.lt_size q) hp))];exact n
 there:=fun b u q _=>⟨u,k b u q⟩
 tups:=fun b xs q=>by rw [aA (aM q hn)];exact q
 frzs:=fun b u xs q=>by rw [aA (aM q hn)];exact q
 tbls:=fun b ps q=>⟨#[],by rw [aA (aM q hn),q];simp⟩
theorem Un.write (mu:Mut (H x)) (he:e=x∨H e=some (.own x)) (k:∀ b u,b≠e→h.get? b=some u→h'.get? b=some u) (heo:∃ u,h'.get? e=some u):Un fs ex H (upd H x o) h h':=by
 have hx:∀ b,H b=none→b≠x:=fun b n z=>by subst z;rw [n] at mu;exact mu
 have hb:∀ b,H b=none→b≠e:=fun b n z=>by
  subst z
  rcases he with r | r
  ·exact hx b n r
  ·rw [n] at r;cases r
 have hm:∀ b u,H b=some u→¬ Mut (some u)→b≠x:=fun b u q nm z=>by subst z;rw [q] at mu;exact nm mu
 refine ⟨fun b u q n _ _=>k b u (hb b n) q,fun b u q n _ _=>⟨u.slots,k b u (hb b n) q⟩,fun b u q n _=>by rw [aA (hx b n)];exact n,fun b u q _=>?_,
  fun b xs q=>by rw [aA (hm b _ q fun z=>z)];exact q,fun b u xs q=>by rw [aA (hm b _ q fun z=>z)];exact q,fun b ps q=>⟨#[],by rw [aA (hm b _ q fun z=>z),q];simp⟩⟩
 by_cases hbe:b=e
 ·subst hbe;exact heo
 ·exact ⟨u,k b u hbe q⟩
end
noncomputable def trk (h:Heap) (H:Hp):List Addr:=(List.range h.objs.size).filter fun a=>(H a).isSome
noncomputable def pY (h:Heap) (H:Hp):Heap:=PySem.W.hideAll h (trk h H)
theorem nN (h:Heap) (H:Hp):(pY h H).objs.size=h.objs.size:=PySem.W.hideAll_size _ _
theorem pZ {h:Heap} {H:Hp} {b:Addr} {o:Obj} (e:h.get? b=some o) (n:H b=none):(pY h H).get? b=some o:=
 PySem.W.hideAll_get _ e fun hm=>by
  have q:(H b).isSome=true:=(List.mem_filter.mp hm).2
  rw [n] at q;simp at q
theorem sI {h:Heap} {H:Hp} {b:Addr} {o:Obj} (e:(pY h H).get? b=some o):h.get? b=some o∧H b=none:=by
 have e':h.get? b=some o:=PySem.W.of_hideAll (trk h H) e
 refine ⟨e',?_⟩
 cases q:H b with
 | none=>rfl
 | some x=>
  have hm:b∈trk h H:=List.mem_filter.mpr ⟨List.mem_range.mpr (Heap.lt_size e'),by simp [q]⟩
  have z:(pY h H).get? b=none:=PySem.W.hideAll_none (trk h H) hm
  rw [z] at e;cases e
noncomputable def sJ (g h:Heap) (L:Addr):List (Addr×Obj):=(List.range h.objs.size).filterMap fun a=>if a=L∨(g.get? a).isSome=true then none else (h.get? a).map fun o=>(a,o)
noncomputable def cj (g h:Heap) (L d:Addr):List (Addr×Obj):=(sJ g h L).filter fun p=>decide (p.1≠d)
structure Mod (K:W.Frag) (mg:Str→Option Value) (base:Heap):Prop where
 kin:K.In base
 glob:base.Ns mainGlobals mg
 blt:∃ mb,base.Ns builtinsNs mb∧∀ x:Str,x≠"__name__"→mb x=bootBuiltins x
 nolimit:base.NoLimit
structure Cx where
 prog:Program
 w:World
 K:W.Frag
 mg:Str→Option Value
 base:Heap
 A:Around
 N:List Str
 s₀:Shared
 H₀:Hp
 env:Env
 outer:List Env
 stack:List Env
 ex:List Addr
 fn:Str→Bool
 calm:Bool
 pn:List (Addr×Obj)
 xe:Value→Shared→Prop
noncomputable def frs (l:List Env):List Addr:=l.filterMap (·.frame)
abbrev Cx.fs (X:Cx):List Addr:=frs X.outer
def Vis (sc:Scope) (x:Str):Prop:=sc.names.lookup x=some .local∨sc.names.lookup x=some .cell∨sc.names.lookup x=some .free
def Loc (sc:Scope) (x:Str):Prop:=sc.names.lookup x=some .local∨sc.names.lookup x=some .cell
noncomputable def zW (sc:Scope) (x:Str):Bool:=match sc.names.lookup x with
 | some .local=>true
 | some .cell=>true
 | _=>false
theorem lo {sc:Scope} {x:Str} (h:zW sc x=true):Loc sc x:=by
 unfold zW at h
 split at h
 ·exact .inl (by assumption)
 ·exact .inr (by assumption)
 ·cases h

def Ad (env:Env) (h:Heap) (m:Str→Option Value) (x:Str) (u:Value):Prop:=
 (env.kindOf x=some .local∧m x=some u)∨((env.kindOf x=some .cell∨env.kindOf x=some .free)∧∃ c,env.cells.lookup x=some c∧h.IsCell c (some u))
structure Cx.Ok (X:Cx):Prop where
 mod:Mod X.K X.mg X.base
 kind:X.env.scope.kind=.function
 glob:X.env.globals=mainGlobals
 blt:X.env.builtins=builtinsNs
 above:X.s₀.heap.objs.size≤X.env.locals
 inj:∀ x y c,X.env.cells.lookup x=some c→X.env.cells.lookup y=some c→x=y
 has:∀ x,(X.env.kindOf x=some .cell∨X.env.kindOf x=some .free)→∃ c,X.env.cells.lookup x=some c
 cab:∀ x c,X.fn x=true→X.env.cells.lookup x=some c→X.s₀.heap.objs.size≤c
 hd:X.calm=true→X.A.handled=none
 frames:X.A.frames=some X.stack
 stk:X.stack=X.outer∨(X.stack=X.env :: X.outer∧X.env.frame=some X.env.locals)
 exf:∀ b∈X.ex,b≠X.env.locals∧∀ x c,X.env.cells.lookup x=some c→c≠b
 bs:∀ b o,X.base.get? b=some o→X.s₀.heap.get? b=some o∧X.H₀ b=none
 bsz:X.base.objs.size≤X.s₀.heap.objs.size
 noex:∀ b o,X.base.get? b=some o→b∉X.ex
 exfs:∀ b∈X.ex,b∉X.fs
 funs:X.s₀.heap.FunFrames X.base X.outer
 frf:∀ b∈X.fs,X.H₀ b=none
structure Inv (X:Cx) (pins:List (Addr×Obj)) (σ:List (Option V)) (H:Hp) (s:Shared):Prop where
 ok:X.Ok
 os:s.os=X.s₀.os
 bare:AllBare s.gens
 base:Un X.fs X.ex X.H₀ H X.s₀.heap s.heap
 loc:∃ m,s.heap.Ns X.env.locals m∧∀ (i:Nat) (x:Str) (v:V),X.N[i]?=some x→σ[i]?=some (some v)→Vis X.env.scope x→∃ u,RelV v u∧Ad X.env s.heap m x u
 cell:∀ x c,X.env.cells.lookup x=some c→∃ v,s.heap.IsCell c v
 free:H X.env.locals=none
 freeC:∀ x c,X.env.cells.lookup x=some c→H c=none
 pin:∀ p∈X.pn++pins,s.heap.get? p.1=some p.2∧H p.1=none∧p.1≠X.env.locals∧p.1∉X.fs∧∀ v,p.2.data≠.cell v
 hok:HOk X.prog X.w H s.heap
 len:σ.length=X.N.length
section
variable {X:Cx} {pins:List (Addr×Obj)} {σ:List (Option V)} {H H':Hp} {s:Shared} {h':Heap}
theorem Cx.Ok.nofr (ok:X.Ok) {b:Addr} {o:Obj} (e:X.base.get? b=some o):b∉X.fs:=fun hb=>by
 have:=(ok.funs.mem hb).1
 rw [e] at this;cases this
theorem Inv.bs (I:Inv X pins σ H s):∀ b o,X.base.get? b=some o→s.heap.get? b=some o∧H b=none:=fun b o e=>
 ⟨I.base.keep b o (I.ok.bs b o e).1 (I.ok.bs b o e).2 (I.ok.nofr e) (I.ok.noex b o e),I.base.free b o (I.ok.bs b o e).1 (I.ok.bs b o e).2 (I.ok.noex b o e)⟩
theorem Inv.bk (I:Inv X pins σ H s):∀ b o,X.base.get? b=some o→s.heap.get? b=some o:=fun b o e=>(I.bs b o e).1
theorem Inv.mod (I:Inv X pins σ H s):Mod X.K X.mg X.base:=I.ok.mod
theorem Inv.kIn (I:Inv X pins σ H s):X.K.In s.heap:=I.ok.mod.kin.keeps I.bk
theorem Inv.lt (I:Inv X pins σ H s):X.env.locals < s.heap.objs.size:=let ⟨_,hn,_⟩:=I.loc;hn.lt
theorem Inv.sz (I:Inv X pins σ H s):X.s₀.heap.objs.size≤s.heap.objs.size:=Nat.le_trans I.ok.above (Nat.le_of_lt I.lt)
theorem Inv.nofs (I:Inv X pins σ H s) {a:Addr} (h:s.heap.objs.size≤a):a∉X.fs:=fun hb=>by
 obtain ⟨_,o,ho,_⟩:=I.ok.funs.mem hb
 exact absurd (Nat.lt_of_lt_of_le (Heap.lt_size ho) (Nat.le_trans I.sz h)) (Nat.lt_irrefl _)
theorem Inv.cne (I:Inv X pins σ H s):∀ x c,X.env.cells.lookup x=some c→c≠X.env.locals:=fun x c e z=>by
 obtain ⟨v,o,ho,hd⟩:=I.cell x c e
 obtain ⟨m,⟨o',es,ep,ho',hd',_⟩,_⟩:=I.loc
 rw [z,ho'] at ho;cases ho;rw [hd'] at hd;cases hd
theorem Inv.funs (I:Inv X pins σ H s):s.heap.FunFrames X.base X.outer:=by
 have all:∀ (l:List Env),(∀ b∈frs l,b∈X.fs)→X.s₀.heap.FunFrames X.base l→s.heap.FunFrames X.base l:=by
  intro l
  induction l with
  | nil=>intro _ _;trivial
  | cons env r ih=>
   intro hs hl
   obtain ⟨hk,⟨L,o,hf,hn,ho,hd⟩,hr⟩:=hl
   have hL:L∈X.fs:=hs L (by unfold frs;rw [List.filterMap_cons,hf];exact List.mem_cons_self)
   obtain ⟨sl,e⟩:=I.base.slot L o ho (I.ok.frf L hL) hL fun z=>I.ok.exfs L z hL
   exact ⟨hk,⟨L,_,hf,hn,e,hd⟩,ih (fun b hb=>hs b (by unfold frs;rw [List.filterMap_cons,hf];exact List.mem_cons_of_mem _ hb)) hr⟩
 exact all X.outer (fun _ hb=>hb) I.ok.funs
theorem Inv.stack (I:Inv X pins σ H s):s.heap.FunFrames X.base X.stack:=by
 rcases I.ok.stk with e | ⟨e,hf⟩
 ·rw [e];exact I.funs
 ·rw [e]
  obtain ⟨m,hn,_⟩:=I.loc
  refine .cons (by rw [I.ok.kind];decide) hf hn ?_ I.funs
  exact Heap.get?_none_of_le (Nat.le_trans I.ok.bsz I.ok.above)
theorem Inv.stkSub (I:Inv X pins σ H s):∀ b∈frs X.stack,b∈X.env.locals :: X.fs:=fun b hb=>by
 rcases I.ok.stk with e | ⟨e,hf⟩
 ·rw [e] at hb;exact List.mem_cons_of_mem _ hb
 ·rw [e] at hb
  unfold frs at hb
  rw [List.filterMap_cons,hf] at hb
  exact hb
theorem Inv.stkFree (I:Inv X pins σ H s):∀ b∈frs X.stack,H b=none:=fun b hb=>by
 rcases List.mem_cons.mp (I.stkSub b hb) with e | hb
 ·rw [e];exact I.free
 ·obtain ⟨_,o,ho,_⟩:=I.ok.funs.mem hb
  exact I.base.free b o ho (I.ok.frf b hb) fun z=>I.ok.exfs b z hb
theorem Inv.step {g':Array GenState} {t':Nat} {d':Drawn} {ch:List Addr} (I:Inv X pins σ H s)
  (hch:∀ b∈ch,(b∈X.ex∨X.s₀.heap.objs.size≤b)∧b≠X.env.locals∧(∀ x c,X.env.cells.lookup x=some c→c≠b)∧∀ p∈X.pn++pins,p.1≠b)
  (keep:∀ b o,b≠X.env.locals→b∉X.fs→b∉ch→s.heap.get? b=some o→H b=none→h'.get? b=some o)
  (slot:∀ b o,b≠X.env.locals→b∈X.fs→b∉ch→s.heap.get? b=some o→H b=none→∃ sl,h'.get? b=some { o with slots:=sl }) (free:∀ b o,b∉ch→s.heap.get? b=some o→H b=none→H' b=none)
  (there:∀ b o,b∉ch→s.heap.get? b=some o→∃ o',h'.get? b=some o')
  (tups:∀ b xs,H b=some (.tup xs)→H' b=some (.tup xs)) (frzs:∀ b o u,H b=some (.frz o u)→H' b=some (.frz o u)) (tbls:∀ b ps,H b=some (.tbl ps)→∃ more,H' b=some (.tbl (ps++more)))
  (ns:∀ m,s.heap.Ns X.env.locals m→h'.Ns X.env.locals m) (hok:HOk X.prog X.w H' h') (hg:AllBare g') :
  Inv X pins σ H' { s with heap:=h',gens:=g',drawn:=d',toks:=t' }:=by
 have neL:∀ b o,X.s₀.heap.get? b=some o→b≠X.env.locals:=fun b o e=>Nat.ne_of_lt (Nat.lt_of_lt_of_le (Heap.lt_size e) I.ok.above)
 have neC:∀ b o,X.s₀.heap.get? b=some o→b∉X.ex→b∉ch:=fun b o e hx hb=>by
  rcases (hch b hb).1 with z | z
  ·exact hx z
  ·exact absurd (Nat.lt_of_lt_of_le (Heap.lt_size e) z) (Nat.lt_irrefl _)
 have cellK:∀ x c,X.env.cells.lookup x=some c→∀ v,s.heap.IsCell c v→h'.IsCell c v:=fun x c e v hq0=>by
  obtain ⟨o,ho,hd⟩:=hq0
  have nch:c∉ch:=fun z=>(hch c z).2.2.1 x c e rfl
  by_cases hc:c∈X.fs
  ·obtain ⟨sl,q⟩:=slot c o (I.cne x c e) hc nch ho (I.freeC x c e)
   exact ⟨_,q,hd⟩
  ·exact ⟨o,keep c o (I.cne x c e) hc nch ho (I.freeC x c e),hd⟩
 refine ⟨I.ok,I.os,hg,⟨fun b o e n hb hx=>?_,fun b o e n hb hx=>?_,fun b o e n hx=>?_,fun b o e hx=>?_,fun b xs e=>tups b xs (I.base.tups b xs e),fun b o xs e=>frzs b o xs (I.base.frzs b o xs e),fun b ps e=>?_⟩,?_,fun x c e=>?_,?_,fun x c e=>?_,fun p hp=>?_,hok,I.len⟩
 ·exact keep b o (neL b o e) hb (neC b o e hx) (I.base.keep b o e n hb hx) (I.base.free b o e n hx)
 ·obtain ⟨sl,e1⟩:=I.base.slot b o e n hb hx
  obtain ⟨sl',e2⟩:=slot b _ (neL b o e) hb (neC b o e hx) e1 (I.base.free b o e n hx)
  exact ⟨sl',e2⟩
 ·obtain ⟨o',e1⟩:=I.base.there b o e hx
  exact free b o' (neC b o e hx) e1 (I.base.free b o e n hx)
 ·obtain ⟨o',e1⟩:=I.base.there b o e hx
  exact there b o' (neC b o e hx) e1
 ·obtain ⟨m1,e1⟩:=I.base.tbls b ps e
  obtain ⟨m2,e2⟩:=tbls b _ e1
  exact ⟨m1++m2,by rw [e2,Array.append_assoc]⟩
 ·obtain ⟨m,hn,hl⟩:=I.loc
  refine ⟨m,ns m hn,fun i x v e1 e2 e3=>?_⟩
  obtain ⟨u,r,l⟩:=hl i x v e1 e2 e3
  refine ⟨u,r,?_⟩
  rcases l with l | ⟨k,c,e,z⟩
  ·exact .inl l
  ·exact .inr ⟨k,c,e,cellK x c e _ z⟩
 ·obtain ⟨v,z⟩:=I.cell x c e
  exact ⟨v,cellK x c e v z⟩
 ·obtain ⟨m,⟨o,_,_,ho,_⟩,_⟩:=I.loc
  exact free _ o (fun z=>(hch _ z).2.1 rfl) ho I.free
 ·obtain ⟨v,o,ho,hd⟩:=I.cell x c e
  exact free c o (fun z=>(hch c z).2.2.1 x c e rfl) ho (I.freeC x c e)
 ·obtain ⟨e,n,ne,nf,d⟩:=I.pin p hp
  have nch:p.1∉ch:=fun z=>(hch p.1 z).2.2.2 p hp rfl
  exact ⟨keep p.1 p.2 ne nf nch e n,free p.1 p.2 nch e n,ne,nf,d⟩
theorem Inv.un {t':Nat} (I:Inv X pins σ H s) (u:Un X.fs [] H H' s.heap h') (hok:HOk X.prog X.w H' h'):Inv X pins σ H' { s with heap:=h',toks:=t' }:=by
 obtain ⟨m,⟨o,es,ep,ho,r⟩,_⟩:=id I.loc
 obtain ⟨sl,hL⟩:=u.any ho I.free (by simp)
 exact I.step (g':=s.gens) (d':=s.drawn) (ch:=[]) (fun _ z=>nomatch z) (fun b o _ hb _ e n=>u.keep b o e n hb (by simp)) (fun b o _ hb _ e n=>u.slot b o e n hb (by simp)) (fun b o _ e n=>u.free b o e n (by simp)) (fun b o _ e=>u.there b o e (by simp)) u.tups u.frzs u.tbls (fun m' hm=>by
  obtain ⟨o',es',ep',ho',r'⟩:=hm
  rw [ho] at ho';cases ho'
  exact ⟨_,es',ep',hL,r'⟩) hok I.bare
theorem Inv.call {g':Array GenState} {t':Nat} {d':Drawn} {ch:List Addr} (I:Inv X pins σ H s) (u:Un (frs X.stack) ch H H' s.heap h') (hok:HOk X.prog X.w H' h') (hg:AllBare g')
  (hch:∀ b∈ch,(b∈X.ex∨X.s₀.heap.objs.size≤b)∧b≠X.env.locals∧(∀ x c,X.env.cells.lookup x=some c→c≠b)∧∀ p∈X.pn++pins,p.1≠b) :
  Inv X pins σ H' { s with heap:=h',gens:=g',drawn:=d',toks:=t' }:=by
 obtain ⟨m,⟨o,es,ep,ho,r⟩,_⟩:=id I.loc
 obtain ⟨sl,hL⟩:=u.any ho I.free fun z=>(hch _ z).2.1 rfl
 exact I.step (ch:=ch) hch (fun b o hL hb hc e n=>u.keep b o e n (fun z=>(List.mem_cons.mp (I.stkSub b z)).elim hL hb) hc) (fun b o _ _ hc e n=>u.any e n hc) (fun b o hc e n=>u.free b o e n hc) (fun b o hc e=>u.there b o e hc) u.tups u.frzs u.tbls (fun m' hm=>by
  obtain ⟨o',es',ep',ho',r'⟩:=hm
  rw [ho] at ho';cases ho'
  exact ⟨_,es',ep',hL,r'⟩) hok hg
theorem Inv.turned {t':Nat} {it:Addr} (I:Inv X pins σ H s) (k:∀ b o,b≠it→s.heap.get? b=some o→h'.get? b=some o) (hn:H it=none) (hL:it≠X.env.locals)
  (h1:it∈X.ex∨X.s₀.heap.objs.size≤it) (h2:∀ x c,X.env.cells.lookup x=some c→c≠it) (h3:∀ p∈X.pn++pins,p.1≠it):Inv X pins σ H { s with heap:=h',toks:=t' }:=by
 have nit:∀ b u,H b=some u→b≠it:=fun b u e z=>by rw [z,hn] at e;cases e
 refine I.step (g':=s.gens) (d':=s.drawn) (ch:=[it]) (fun b hb=>?_) (fun b o _ _ hc e _=>k b o (fun z=>hc (by simp [z])) e) (fun b o _ _ hc e _=>⟨o.slots,k b o (fun z=>hc (by simp [z])) e⟩) (fun _ _ _ _ n=>n)
  (fun b o hc e=>⟨o,k b o (fun z=>hc (by simp [z])) e⟩) (fun _ _ e=>e) (fun _ _ _ e=>e) (fun b ps e=>⟨#[],by rw [e];simp⟩) (fun m hm=>?_) (fun b u e=>?_) I.bare
 ·have e:b=it:=by simpa using hb
  subst e
  exact ⟨h1,hL,h2,h3⟩
 ·obtain ⟨o,es,ep,ho,r⟩:=hm
  exact ⟨o,es,ep,k _ o (Ne.symm hL) ho,r⟩
 ·refine (I.hok b u e).stay (fun c v hc q=>k c v ?_ q) (fun _ q=>q) fun _ _ q=>q
  rcases hc with z | z
  ·rw [z];exact nit b u e
  ·exact nit c _ z
theorem Inv.tok (I:Inv X pins σ H s) (t:Nat):Inv X pins σ H { s with toks:=t }:=I.un (h':=s.heap) (t':=t) Un.refl I.hok
theorem Inv.kept {t':Nat} (I:Inv X pins σ H s) (k:∀ b u,s.heap.get? b=some u→h'.get? b=some u):Inv X pins σ H { s with heap:=h',toks:=t' }:=I.un (Un.kept k) (I.hok.kept k)
theorem Inv.laid {a:Addr} {o:HO} {t':Nat} (I:Inv X pins σ H s) (k:∀ b u,s.heap.get? b=some u→h'.get? b=some u) (hp:s.heap.objs.size≤a) (new:ObjOk X.prog X.w (upd H a o) h' a o) :
  Inv X pins σ (upd H a o) { s with heap:=h',toks:=t' }:=I.un (Un.laid k hp (I.hok.fresh hp)) (I.hok.laid k hp new)
theorem Inv.write {x e:Addr} {o:HO} {t':Nat} (I:Inv X pins σ H s) (mu:Mut (H x)) (he:e=x∨H e=some (.own x)) (k:∀ b u,b≠e→s.heap.get? b=some u→h'.get? b=some u) (heo:∃ u,h'.get? e=some u)
  (new:ObjOk X.prog X.w (upd H x o) h' x o):Inv X pins σ (upd H x o) { s with heap:=h',toks:=t' }:=I.un (Un.write mu he k heo) (I.hok.write mu he k heo new)
theorem Inv.pins_of {pins':List (Addr×Obj)} (I:Inv X pins σ H s) (h:∀ p∈pins',s.heap.get? p.1=some p.2∧H p.1=none∧p.1≠X.env.locals∧p.1∉X.fs∧∀ v,p.2.data≠.cell v):Inv X pins' σ H s:=
 ⟨I.ok,I.os,I.bare,I.base,I.loc,I.cell,I.free,I.freeC,fun p hp=>(List.mem_append.mp hp).elim (fun z=>I.pin p (List.mem_append_left _ z)) (h p),I.hok,I.len⟩
theorem lM {N:List Str} (hN:N.Nodup) {i j:Nat} {x:Str} (a:N[i]?=some x) (b:N[j]?=some x):i=j:=by
 obtain ⟨h1,e1⟩:=List.getElem?_eq_some_iff.mp a
 obtain ⟨h2,e2⟩:=List.getElem?_eq_some_iff.mp b
 exact (List.getElem_inj hN).mp (e1.trans e2.symm)
theorem j0 {M:Model} {A:Around} {E:Value→Shared→Prop} {i:Nat} {x:Str} {v:V} {u:Value} {Q:Unit→Shared→Prop} (I:Inv X pins σ H s) (hN:X.N.Nodup) (hi:X.N[i]?=some x) (hx:Loc X.env.scope x) (r:RelV v u)
  (h:∀ s',Inv X pins (σ.set i (some v)) H s'→(∃ a,Heap.SameBut a s.heap s'.heap∧(a=X.env.locals∨X.env.cells.lookup x=some a))→Q () s') (hf:X.fn x=true∨X.env.scope.names.lookup x=some .local:=by first | exact .inl rfl | exact .inr rfl | assumption):wpAny M A (storeName X.env x u) Q E s:=by
 obtain ⟨m,hn,hl⟩:=id I.loc
 have hcls:(X.env.scope.kind == .class || (X.env.scope.kind == .module && X.env.locals != X.env.globals))=false:=by rw [I.ok.kind];rfl
 have hiσ:i < σ.length:=by rw [I.len];exact (List.getElem?_eq_some_iff.mp hi).1
 have cne:=I.cne
 have tracked:∀ {a:Addr} {h':Heap},(∃ o,s.heap.get? a=some o∧H a=none)→Heap.SameBut a s.heap h'→HOk X.prog X.w H h':=fun {a h'} ha hs b ob e=>by
  obtain ⟨_,_,hfree⟩:=ha
  refine (I.hok b ob e).stay (fun c w' hc q=>(hs.2 c ?_).trans q) (fun _ q=>q) fun _ _ q=>q
  rintro rfl
  rcases hc with rfl | hc
  ·rw [hfree] at e;cases e
  ·rw [hfree] at hc;cases hc
 rcases hx with hk | hk
 ·refine wpAny_storeName_local hk hn (fun h' hn' hs=>?_) hcls
  obtain ⟨oL,_,_,hoL,_⟩:=id hn
  refine h _ ⟨I.ok,I.os,I.bare,⟨fun b o e n hb hx=>?_,fun b o e n hb hx=>?_,I.base.free,fun b o e hx=>?_,I.base.tups,I.base.frzs,I.base.tbls⟩,⟨_,hn',fun j y v' e1 e2 e3=>?_⟩,fun y c e=>?_,I.free,I.freeC,fun p hp=>?_,tracked ⟨oL,hoL,I.free⟩ hs,by simpa using I.len⟩ ⟨_,hs,.inl rfl⟩
  ·exact (hs.2 b (Nat.ne_of_lt (Nat.lt_of_lt_of_le (Heap.lt_size e) I.ok.above))).trans (I.base.keep b o e n hb hx)
  ·obtain ⟨sl,e1⟩:=I.base.slot b o e n hb hx
   exact ⟨sl,(hs.2 b (Nat.ne_of_lt (Nat.lt_of_lt_of_le (Heap.lt_size e) I.ok.above))).trans e1⟩
  ·obtain ⟨o',e1⟩:=I.base.there b o e hx
   exact ⟨o',(hs.2 b (Nat.ne_of_lt (Nat.lt_of_lt_of_le (Heap.lt_size e) I.ok.above))).trans e1⟩
  ·by_cases hj:j=i
   ·subst hj
    rw [hi] at e1;cases e1
    rw [List.getElem?_set_self hiσ] at e2
    cases e2
    exact ⟨u,r,.inl ⟨hk,by simp⟩⟩
   ·rw [List.getElem?_set_ne (Ne.symm hj)] at e2
    obtain ⟨u',r',q⟩:=hl j y v' e1 e2 e3
    refine ⟨u',r',?_⟩
    rcases q with ⟨k,e⟩ | ⟨k,c,e,z⟩
    ·refine .inl ⟨k,?_⟩
     have:y≠x:=fun e=>hj (lM hN e1 (e▸hi))
     simp [this,e]
    ·exact .inr ⟨k,c,e,z.sameBut hs (cne y c e)⟩
  ·obtain ⟨w',z⟩:=I.cell y c e
   exact ⟨w',z.sameBut hs (cne y c e)⟩
  ·obtain ⟨e,n,ne,nf,d⟩:=I.pin p hp
   exact ⟨(hs.2 p.1 ne).trans e,n,ne,nf,d⟩
 ·have hfn:X.fn x=true:=by
   rcases hf with z | z
   ·exact z
   ·rw [z] at hk;cases hk
  obtain ⟨c,hc⟩:=I.ok.has x (.inl hk)
  obtain ⟨w',z⟩:=I.cell x c hc
  refine wpAny_storeName_cell I.ok.kind hk hc z (fun h' hc' hs=>?_)
  obtain ⟨oc,hoc,hocd⟩:=id z
  refine h { s with heap:=h' } ⟨I.ok,I.os,I.bare,⟨fun b o e n hb hx=>?_,fun b o e n hb hx=>?_,I.base.free,fun b o e hx=>?_,I.base.tups,I.base.frzs,I.base.tbls⟩,⟨m,hn.sameBut hs (Ne.symm (cne x c hc)),fun j y v' e1 e2 e3=>?_⟩,fun y c' e=>?_,I.free,I.freeC,fun p hp=>?_,tracked ⟨oc,hoc,I.freeC x c hc⟩ hs,by simpa using I.len⟩ ⟨c,hs,.inr hc⟩
  ·exact (hs.2 b (Nat.ne_of_lt (Nat.lt_of_lt_of_le (Heap.lt_size e) (I.ok.cab x c hfn hc)))).trans (I.base.keep b o e n hb hx)
  ·obtain ⟨sl,e1⟩:=I.base.slot b o e n hb hx
   exact ⟨sl,(hs.2 b (Nat.ne_of_lt (Nat.lt_of_lt_of_le (Heap.lt_size e) (I.ok.cab x c hfn hc)))).trans e1⟩
  ·obtain ⟨o',e1⟩:=I.base.there b o e hx
   exact ⟨o',(hs.2 b (Nat.ne_of_lt (Nat.lt_of_lt_of_le (Heap.lt_size e) (I.ok.cab x c hfn hc)))).trans e1⟩
  ·by_cases hj:j=i
   ·subst hj
    rw [hi] at e1;cases e1
    rw [List.getElem?_set_self hiσ] at e2
    cases e2
    exact ⟨u,r,.inr ⟨.inl hk,c,hc,hc'⟩⟩
   ·rw [List.getElem?_set_ne (Ne.symm hj)] at e2
    obtain ⟨u',r',q⟩:=hl j y v' e1 e2 e3
    refine ⟨u',r',?_⟩
    rcases q with q | ⟨k,c',e,z'⟩
    ·exact .inl q
    ·refine .inr ⟨k,c',e,z'.sameBut hs ?_⟩
     rintro rfl
     exact hj (lM hN e1 (I.ok.inj _ _ _ e hc▸hi))
  ·by_cases hcc:c'=c
   ·subst hcc;exact ⟨_,hc'⟩
   ·obtain ⟨w2,z2⟩:=I.cell y c' e
    exact ⟨w2,z2.sameBut hs hcc⟩
  ·obtain ⟨e,n,ne,nf,d⟩:=I.pin p hp
   refine ⟨(hs.2 p.1 ?_).trans e,n,ne,nf,d⟩
   intro q
   rw [q,hoc] at e
   have q':oc=p.2:=Option.some.inj e
   exact d w' (by rw [←q'];exact hocd)
theorem lN {M:Model} {A:Around} {E:Value→Shared→Prop} {i:Nat} {x:Str} {v:V} {u:Value} {Q:Unit→Shared→Prop} (I:Inv X pins σ H s) (hN:X.N.Nodup) (hi:X.N[i]?=some x) (hx:Loc X.env.scope x) (r:RelV v u)
  (h:∀ s',Inv X pins (σ.set i (some v)) H s'→Q () s') (hf:X.fn x=true∨X.env.scope.names.lookup x=some .local:=by first | exact .inl rfl | exact .inr rfl | assumption):wpAny M A (storeName X.env x u) Q E s:=
 j0 I hN hi hx r (fun s' I' _=>h s' I') hf
theorem Inv.call' {s':Shared} {ch:List Addr} (I:Inv X pins σ H s) (ho:s'.os=s.os) (u:Un (frs X.stack) ch H H' s.heap s'.heap) (hok:HOk X.prog X.w H' s'.heap) (hg:AllBare s'.gens)
  (hch:∀ b∈ch,(b∈X.ex∨X.s₀.heap.objs.size≤b)∧b≠X.env.locals∧(∀ x c,X.env.cells.lookup x=some c→c≠b)∧∀ p∈X.pn++pins,p.1≠b):Inv X pins σ H' s':=by
 obtain ⟨h',g',d',t',o'⟩:=s'
 have e:o'=s.os:=ho
 subst e
 exact I.call (g':=g') (t':=t') (d':=d') u hok hg hch
end
abbrev XK:=Value→Option Addr→Hp→Prop
abbrev St:=List (Option V)
abbrev VK:=V→Hp→Prop
abbrev TE:=St→Hp→VK→Prop
abbrev TT:=St→Hp→(Bool→Hp→Prop)→Prop
abbrev TA:=St→Hp→(List V→Hp→Prop)→Prop
structure Ends where
 nx:St→Hp→Prop
 rt:VK
 bk:St→Hp→Prop:=fun _ _=>False
 ct:St→Hp→Prop:=fun _ _=>False
abbrev TS:=Ends→St→Hp→Prop
def EP (X:Cx) (pins:List (Addr×Obj)) (σ:St) (Q:VK) (u:Value) (s':Shared):Prop:=∃ v H',Inv X pins σ H' s'∧RelV v u∧Q v H'
def TP (X:Cx) (pins:List (Addr×Obj)) (σ:St) (Q:Bool→Hp→Prop) (b:Bool) (s':Shared):Prop:=∃ H',Inv X pins σ H' s'∧Q b H'
def AP (X:Cx) (pins:List (Addr×Obj)) (σ:St) (Q:List V→Hp→Prop) (us:List Value) (s':Shared):Prop:=∃ vs H',Inv X pins σ H' s'∧Vals vs us∧Q vs H'
def SP (X:Cx) (pins:List (Addr×Obj)) (D:Ends) (f:Flow) (s':Shared):Prop:=
 match f with
 | .next=>∃ σ' H',Inv X pins σ' H' s'∧D.nx σ' H'
 | .brk=>∃ σ' H',Inv X pins σ' H' s'∧D.bk σ' H'
 | .cont=>∃ σ' H',Inv X pins σ' H' s'∧D.ct σ' H'
 | .ret u=>∃ v σ' H',Inv X pins σ' H' s'∧RelV v u∧D.rt v H'
def PE (X:Cx) (e:Expr) (t:TE):Prop:=
 ∀ (pins:List (Addr×Obj)) (s:Shared) (σ:St) (H:Hp) (Q:VK),Inv X pins σ H s→t σ H Q→wpAny (model X.prog X.w) X.A (eval e X.env) (EP X pins σ Q) X.xe s
def PT (X:Cx) (e:Expr) (t:TT):Prop:=
 ∀ (pins:List (Addr×Obj)) (s:Shared) (σ:St) (H:Hp) (Q:Bool→Hp→Prop),Inv X pins σ H s→t σ H Q→wpAny (model X.prog X.w) X.A (isTrue e X.env (eval e X.env)) (TP X pins σ Q) X.xe s
def PW (X:Cx) (e:Expr) (t:TT):Prop:=
 ∀ (whole:Sem Value) (pins:List (Addr×Obj)) (s:Shared) (σ:St) (H:Hp) (Q:Bool→Hp→Prop),Inv X pins σ H s→t σ H Q→wpAny (model X.prog X.w) X.A (isTrue e X.env whole) (TP X pins σ Q) X.xe s
theorem PW.pt {X:Cx} {e:Expr} {t:TT} (h:PW X e t):PT X e t:=h _
def PA (X:Cx) (es:List Expr) (t:TA):Prop:=
 ∀ (pos:Pos) (pins:List (Addr×Obj)) (s:Shared) (σ:St) (H:Hp) (Q:List V→Hp→Prop),Inv X pins σ H s→t σ H Q→wpAny (model X.prog X.w) X.A (spliced (backTo pos (starEach es X.env))) (AP X pins σ Q) X.xe s
def PS (X:Cx) (st:Stmt) (t:TS):Prop:=
 ∀ (pins:List (Addr×Obj)) (s:Shared) (σ:St) (H:Hp) (D:Ends),Inv X pins σ H s→t D σ H→wpAny (model X.prog X.w) X.A (exec st X.env) (SP X pins D) X.xe s
def PSs (X:Cx) (st:List Stmt) (t:TS):Prop:=
 ∀ (pins:List (Addr×Obj)) (s:Shared) (σ:St) (H:Hp) (D:Ends),Inv X pins σ H s→t D σ H→wpAny (model X.prog X.w) X.A (execs st X.env) (SP X pins D) X.xe s
theorem thn {α:Type} {t:Sem α} {Q Q':α→Shared→Prop} {M:Model} {A:Around} {E:Value→Shared→Prop} {s:Shared} (h:wpAny M A t Q E s) (hQ:∀ a s,Q a s→Q' a s):wpAny M A t Q' E s:=wpAny_mono h hQ fun _ _ x=>x
section
variable {X:Cx}
theorem bin {a b:Expr} {ta tb:TE} (ha:PE X a ta) (hb:PE X b tb) {pins:List (Addr×Obj)} {s:Shared} {σ:St} {H:Hp} {R:V→V→Hp→Prop} (I:Inv X pins σ H s) (h:ta σ H fun x H1=>tb σ H1 fun y H2=>R x y H2)
  {α:Type} {Q:α→Shared→Prop} {f:Value→Value→Sem α}
  (hf:∀ v u s2 x y H2,Inv X pins σ H2 s2→RelV x v→RelV y u→R x y H2→wpAny (model X.prog X.w) X.A (f v u) Q X.xe s2) :
  wpAny (model X.prog X.w) X.A (eval a X.env) (fun v s₁=>wpAny (model X.prog X.w) X.A (eval b X.env) (fun u s₂=>wpAny (model X.prog X.w) X.A (f v u) Q X.xe s₂) X.xe s₁) X.xe s:=by
 refine thn (ha pins s σ H _ I h) fun v s1 hqq=>?_
 obtain ⟨x,H1,I1,r1,q1⟩:=hqq
 refine thn (hb pins s1 σ H1 _ I1 q1) fun u s2 hqq=>?_
 obtain ⟨y,H2,I2,r2,q2⟩:=hqq
 exact hf v u s2 x y H2 I2 r1 r2 q2
noncomputable def p3 (i:Nat):TE:=fun σ H Q=>∃ v,σ[i]?=some (some v)∧Q v H
noncomputable def tC (v:V):TE:=fun _ H Q=>Q v H
theorem vQ {i:Nat} {x:Str} {pos:Pos} (hN:X.N[i]?=some x) (hv:Vis X.env.scope x) (hd:(x == ("__debug__" : Str))=false:=by decide) (hcd:(x == ("__classdict__" : Str))=false:=by decide):PE X (.Name x pos) (p3 i):=by
 intro pins s σ H Q I h
 obtain ⟨v,e,h⟩:=h
 obtain ⟨m,hn,hl⟩:=I.loc
 obtain ⟨u,r,l⟩:=hl i x v hN e hv
 have fin:EP X pins σ Q u s:=⟨v,H,I,r,h⟩
 rcases l with ⟨hk,hm⟩ | ⟨hk,c,hc,hcell⟩
 ·exact wpAny_Name (wpAny_loadName_local I.ok.kind hk hn hm fin) hd
 ·rcases hk with hk | hk
  ·exact wpAny_Name (wpAny_loadName_cell I.ok.kind hk hc hcell fin) hd
  ·exact wpAny_Name (wpAny_loadName_free I.ok.kind hk hc hcell fin hcd) hd
theorem vR {i j pos}:PE X (.Constant (.int i) j pos) (tC (.int i)):=fun _ _ _ H _ I h=>wpAny_Constant_int ⟨.int i,H,I.tok _,⟨_,rfl⟩,h⟩
theorem yx {b j pos}:PE X (.Constant (.bool b) j pos) (tC (.bl b)):=fun _ _ _ H _ I h=>Constant_bool ⟨.bl b,H,I,rfl,h⟩
theorem vS {j pos}:PE X (.Constant .none j pos) (tC .non):=fun _ _ _ H _ I h=>Constant_none ⟨.non,H,I,rfl,h⟩
theorem vT {x j pos}:PE X (.Constant (.str x) j pos) (tC (.str x)):=fun _ _ _ H _ I h=>Calls.Constant_str ⟨.str x,H,I.tok _,⟨_,rfl⟩,h⟩
def Gl (X:Cx) (x:Str):Prop:=X.env.kindOf x=some .globalImplicit
theorem h8 {E:Value→Shared→Prop} {pins:List (Addr×Obj)} {s:Shared} {σ:St} {H:Hp} {x:Str} {u:Value} {pos:Pos} {Q:Value→Shared→Prop} (I:Inv X pins σ H s) (hg:Gl X x) (hm:X.mg x=some u) (h:Q u s)
  (hd:(x == ("__debug__" : Str))=false:=by decide):wpAny (model X.prog X.w) X.A (eval (.Name x pos) X.env) Q E s:=
 Calls.Name_function_global I.ok.kind hg (Calls.loadGlobal_global (by rw [I.ok.glob];exact I.mod.glob.keeps I.bk) hm h) hd
theorem j3 {E:Value→Shared→Prop} {pins:List (Addr×Obj)} {s:Shared} {σ:St} {H:Hp} {x:Str} {u:Value} {pos:Pos} {Q:Value→Shared→Prop} (I:Inv X pins σ H s) (hg:Gl X x) (hm:X.mg x=none) (hv:bootBuiltins x=some u) (h:Q u s)
  (hn:x≠"__name__":=by decide) (hd:(x == ("__debug__" : Str))=false:=by decide):wpAny (model X.prog X.w) X.A (eval (.Name x pos) X.env) Q E s:=by
 obtain ⟨mb,h1,h2⟩:=I.mod.blt
 exact Calls.Name_function_global I.ok.kind hg (Calls.loadGlobal_builtin (by rw [I.ok.glob];exact I.mod.glob.keeps I.bk) hm (by rw [I.ok.blt];exact h1.keeps I.bk) ((h2 x hn).trans hv) h) hd
theorem sL {x:Str} {v:V} {u:Value} {pos:Pos} (hg:Gl X x) (hm:X.mg x=some u) (r:RelV v u) (hd:(x == ("__debug__" : Str))=false:=by decide):PE X (.Name x pos) (tC v):=
 fun _ _ _ H _ I h=>h8 I hg hm ⟨v,H,I,r,h⟩ hd
theorem sM {x:Str} {v:V} {u:Value} {pos:Pos} (hg:Gl X x) (hm:X.mg x=none) (hv:bootBuiltins x=some u) (r:RelV v u) (hn:x≠"__name__":=by decide) (hd:(x == ("__debug__" : Str))=false:=by decide):PE X (.Name x pos) (tC v):=
 fun _ _ _ H _ I h=>j3 I hg hm hv ⟨v,H,I,r,h⟩ hn hd
variable {a b:Expr} {ta tb:TE} {pos:Pos}
def PC (X:Cx) (op:CmpOp) (a b:Expr) (t:TE):Prop:=
 ∀ (pins:List (Addr×Obj)) (s:Shared) (σ:St) (H:Hp) (Q:VK),Inv X pins σ H s→t σ H Q→
  wpAny (model X.prog X.w) X.A (eval a X.env) (fun v s₁=>wpAny (model X.prog X.w) X.A (eval b X.env) (fun u s₂=>wpAny (model X.prog X.w) X.A (compareOp op v u) (EP X pins σ Q) X.xe s₂) X.xe s₁) X.xe s
theorem p4 (b:Expr) {op:CmpOp} (h:op≠.In) (h2:op≠.NotIn):behindInMarks op b=false:=by
 have e1:(op == CmpOp.In)=false:=by cases op <;> first | rfl | exact absurd rfl h
 have e2:(op == CmpOp.NotIn)=false:=by cases op <;> first | rfl | exact absurd rfl h2
 cases b <;> simp [behindInMarks,e1,e2]
noncomputable def tB (t:TE):TT:=fun σ H Q=>t σ H fun x H1=>∃ c,x=.bl c∧Q c H1
theorem zX {op:CmpOp} {t:TE} (h:PC X op a b t) (h1:behindInMarks op b=false:=by first | exact p4 _ (by decide) (by decide) | rfl):PT X (.Compare a [op] [b] pos) (tB t):=by
 intro pins s σ H Q I hw
 refine wpAny_isTrue_Compare1 (thn (h pins s σ H _ I hw) fun v s1 h1=>thn h1 fun u s2 h2=>thn h2 fun c s3 ⟨x,H1,I1,r1,q1⟩=>?_) h1
 obtain ⟨d,rfl,q⟩:=q1
 cases r1
 exact wpAny_truthy_bool ⟨H1,I1,q⟩
theorem vU {e:Expr} {t:TE} (h:PE X e t) (he:∀ whole,isTrue e X.env whole=(do let v ←whole;standAt e.pos;holding [v] (truthy v)):=by intro _;rfl):PT X e (tB t):=by
 intro pins s σ H Q I hw
 refine isTrue_plain (thn (h pins s σ H _ I hw) fun v s1 ⟨x,H1,I1,r1,q1⟩=>?_) (he _)
 obtain ⟨d,rfl,q⟩:=q1
 cases r1
 exact wpAny_truthy_bool ⟨H1,I1,q⟩
variable {tA tB':TT} {cj:List Expr}
noncomputable def Ae (t u:TT):TT:=fun σ H Q=>t σ H fun c H1=>if c=true then u σ H1 Q else Q false H1
noncomputable def tOr (t u:TT):TT:=fun σ H Q=>t σ H fun c H1=>if c=true then Q true H1 else u σ H1 Q
noncomputable def Af (t:TT):TT:=fun σ H Q=>t σ H fun c H1=>Q (!c) H1
theorem sN (ha:PT X a tA):PW X (.BoolOp .And [a] pos) tA:=by
 intro wh pins s σ H Q I h
 refine isTrue_and (thn (ha pins s σ H Q I h) fun c s1 e=>?_)
 cases c with
 | true=>exact isTrue_and_nil e
 | false=>exact e
theorem vV (ha:PT X a tA):PW X (.BoolOp .Or [a] pos) tA:=by
 intro wh pins s σ H Q I h
 refine isTrue_or (thn (ha pins s σ H Q I h) fun c s1 e=>?_)
 cases c with
 | false=>exact isTrue_or_nil e
 | true=>exact e
theorem vW (ha:PT X a tA) (hb:PW X (.BoolOp .And (b :: cj) pos) tB'):PW X (.BoolOp .And (a :: b :: cj) pos) (Ae tA tB'):=by
 intro wh pins s σ H Q I h
 refine isTrue_and (thn (ha pins s σ H _ I h) fun c s1 hqq=>?_)
 obtain ⟨H1,I1,q1⟩:=hqq
 cases c with
 | true=>exact hb wh pins s1 σ H1 Q I1 q1
 | false=>exact ⟨H1,I1,q1⟩
theorem yy (ha:PT X a tA) (hb:PW X (.BoolOp .Or (b :: cj) pos) tB'):PW X (.BoolOp .Or (a :: b :: cj) pos) (tOr tA tB'):=by
 intro wh pins s σ H Q I h
 refine isTrue_or (thn (ha pins s σ H _ I h) fun c s1 hqq=>?_)
 obtain ⟨H1,I1,q1⟩:=hqq
 cases c with
 | true=>exact ⟨H1,I1,q1⟩
 | false=>exact hb wh pins s1 σ H1 Q I1 q1
theorem vX (ha:PT X a tA):PT X (.UnaryOp .Not a pos) (Af tA):=by
 intro pins s σ H Q I h
 exact isTrue_not (ha pins s σ H (fun c H1=>Q (!c) H1) I h)
noncomputable def yz (ta tb:TE):TE:=fun σ H Q=>ta σ H fun x H1=>∃ c,x=.bl c∧if c=true then tb σ H1 Q else Q (.bl false) H1
noncomputable def yA (ta:TE):TE:=fun σ H Q=>ta σ H fun x H1=>∃ c,x=.bl c∧Q (.bl (!c)) H1
theorem vY {op} {t:TE} (h:PE X a t):PE X (.BoolOp op [a] pos) t:=fun pins s σ H Q I hw=>BoolOp_one (h pins s σ H Q I hw)
theorem vZ (ha:PE X a ta) (hb:PE X (.BoolOp .And (b :: cj) pos) tb):PE X (.BoolOp .And (a :: b :: cj) pos) (yz ta tb):=by
 intro pins s σ H Q I h
 refine BoolOp_and (thn (ha pins s σ H _ I h) fun v s1 hqq=>?_)
 obtain ⟨x,H1,I1,r1,q1⟩:=hqq
 obtain ⟨c,rfl,q1⟩:=q1
 cases r1
 refine wpAny_truthy_bool ?_
 cases c with
 | true=>exact hb pins s1 σ H1 Q I1 q1
 | false=>exact ⟨.bl false,H1,I1,rfl,q1⟩
theorem v4 (ha:PE X a ta):PE X (.UnaryOp .Not a pos) (yA ta):=by
 intro pins s σ H Q I h
 refine UnaryOp_ (thn (ha pins s σ H _ I h) fun v s1 hqq=>?_)
 obtain ⟨x,H1,I1,r1,q1⟩:=hqq
 obtain ⟨c,rfl,q1⟩:=q1
 cases r1
 exact not_of (wpAny_truthy_bool ⟨.bl (!c),H1,I1,rfl,q1⟩)
end
def SqL (K:W.Frag) (H:Hp) (a:Addr) (xs:List V):Prop:=
 Rd H a (.lst xs)∨
  ∃ (o:Obj) (its:Array Value) (n:Nat),K.lookup a=some o∧o.cls=.type "list"∧o.dict=none∧o.data=.seq its n∧its.size≤sizeLine∧Vals xs its.toList
def SqT (K:W.Frag) (H:Hp) (a:Addr) (xs:List V):Prop:=
 Rd H a (.tup xs)∨
  ∃ (o:Obj) (its:Array Value) (n:Nat),K.lookup a=some o∧o.cls=.type "tuple"∧o.dict=none∧o.data=.seq its n∧its.size≤sizeLine∧Vals xs its.toList
noncomputable def Ag:Value→Option V
 | .none=>some .non
 | .bool b=>some (.bl b)
 | .int i _=>some (.int i)
 | .str x _=>some (.str x)
 | .bytes b _=>some (.byt b)
 | .float b _=>some (.flt b)
 | .ref a=>some (.ref a)
 | .type n=>some (.ty n)
 | _=>none
theorem RelV.abs {x:V} {u:Value} (r:RelV x u):Ag u=some x:=by
 cases x with
 | non=>cases r;rfl
 | bl _=>cases r;rfl
 | int _=>obtain ⟨t,rfl⟩:=r;rfl
 | str _=>obtain ⟨t,rfl⟩:=r;rfl
 | byt _=>obtain ⟨t,rfl⟩:=r;rfl
 | flt _=>obtain ⟨t,rfl⟩:=r;rfl
 | ref _=>cases r;rfl
 | ty _=>cases r;rfl
theorem RelV.inj {x y:V} {u:Value} (r:RelV x u) (q:RelV y u):x=y:=Option.some.inj (r.abs.symm.trans q.abs)
theorem Vals.inj:∀ {xs ys:List V} {us:List Value},Vals xs us→Vals ys us→xs=ys
 | _,_,_,.nil,.nil=>rfl
 | _,_,_,.cons r t,.cons r' t'=>by rw [r.inj r',Vals.inj t t']
section
variable {X:Cx} {pins:List (Addr×Obj)} {σ:St} {H:Hp} {s:Shared} {a:Addr} {xs ys:List V}
theorem SqL.of {K:W.Frag} (h:H a=some (.lst xs)):SqL K H a xs:=.inl (.inl h)
theorem SqT.of {K:W.Frag} (h:H a=some (.tup xs)):SqT K H a xs:=.inl (.inl h)
theorem Inv.list (I:Inv X pins σ H s) (h:SqL X.K H a xs):∃ its:List Value,Vals xs its∧PlainL s.heap a its.toArray∧xs.length≤sizeLine:=by
 rcases h with h | ⟨o,its,n,hk,hc,hd,hs,hz,r⟩
 ·obtain ⟨z,its,n,r,e⟩:=h.ok I.hok
  exact ⟨its,r,⟨_,n,e,rfl,rfl,rfl⟩,z⟩
 ·refine ⟨its.toList,r,⟨o,n,I.kIn a o hk,hc,hd,by simpa using hs⟩,?_⟩
  have e:=r.length
  simp only [Array.length_toList] at e
  lia
theorem Inv.tupleN (I:Inv X pins σ H s) (h:SqT X.K H a xs):∃ its:List Value,Vals xs its∧IsTupN s.heap a its.toArray∧xs.length≤sizeLine:=by
 rcases h with h | ⟨o,its,n,hk,hc,hdn,hs,hz,r⟩
 ·obtain ⟨z,its,r,p⟩:=h.ok I.hok
  exact ⟨its,r,p,z⟩
 ·refine ⟨its.toList,r,⟨o,I.kIn a o hk,hc,⟨n,by simpa using hs⟩,hdn⟩,?_⟩
  have e:=r.length
  simp only [Array.length_toList] at e
  lia
theorem Inv.tuple (I:Inv X pins σ H s) (h:SqT X.K H a xs):∃ its:List Value,Vals xs its∧IsTup s.heap a its.toArray∧xs.length≤sizeLine:=by
 obtain ⟨its,r,p,z⟩:=I.tupleN h
 exact ⟨its,r,p.tup,z⟩
theorem Inv.list_inj (I:Inv X pins σ H s) (h:SqL X.K H a xs) (h':SqL X.K H a ys):xs=ys:=by
 obtain ⟨its,r,⟨o,n,e,_,_,d⟩,_⟩:=I.list h
 obtain ⟨its',r',⟨o',n',e',_,_,d'⟩,_⟩:=I.list h'
 rw [e] at e';cases e'
 rw [d] at d'
 injection d' with d1 _
 have:its=its':=by simpa using congrArg Array.toList d1
 subst this
 exact r.inj r'
theorem Inv.tuple_inj (I:Inv X pins σ H s) (h:SqT X.K H a xs) (h':SqT X.K H a ys):xs=ys:=by
 obtain ⟨its,r,⟨o,e,_,n,d⟩,_⟩:=I.tuple h
 obtain ⟨its',r',⟨o',e',_,n',d'⟩,_⟩:=I.tuple h'
 rw [e] at e';cases e'
 rw [d] at d'
 injection d' with d1 _
 have:its=its':=by simpa using congrArg Array.toList d1
 subst this
 exact r.inj r'
end
abbrev Cx.wish (X:Cx) (E:Value→Shared→Prop):Cx:={ X with xe:=E }
abbrev Cx.nox (X:Cx):Cx:=X.wish fun _ _=>False
theorem Cx.Ok.wish {X:Cx} (ok:X.Ok) (E:Value→Shared→Prop):(X.wish E).Ok:=
 ⟨ok.mod,ok.kind,ok.glob,ok.blt,ok.above,ok.inj,ok.has,ok.cab,ok.hd,ok.frames,ok.stk,ok.exf,ok.bs,ok.bsz,ok.noex,ok.exfs,ok.funs,ok.frf⟩
theorem Cx.Ok.unwish {X:Cx} {E:Value→Shared→Prop} (ok:(X.wish E).Ok):X.Ok:=
 ⟨ok.mod,ok.kind,ok.glob,ok.blt,ok.above,ok.inj,ok.has,ok.cab,ok.hd,ok.frames,ok.stk,ok.exf,ok.bs,ok.bsz,ok.noex,ok.exfs,ok.funs,ok.frf⟩
section
variable {X:Cx} {pins:List (Addr×Obj)} {σ:St} {H:Hp} {s:Shared} {E:Value→Shared→Prop}
theorem Inv.wish (I:Inv X pins σ H s) (E:Value→Shared→Prop):Inv (X.wish E) pins σ H s:=⟨I.ok.wish E,I.os,I.bare,I.base,I.loc,I.cell,I.free,I.freeC,I.pin,I.hok,I.len⟩
theorem Inv.unwish (I:Inv (X.wish E) pins σ H s):Inv X pins σ H s:=⟨I.ok.unwish,I.os,I.bare,I.base,I.loc,I.cell,I.free,I.freeC,I.pin,I.hok,I.len⟩
theorem SP.unwish {D:Ends} {f:Flow} {s':Shared} (h:SP (X.wish E) pins D f s'):SP X pins D f s':=by
 cases f with
 | next=>obtain ⟨σ',H',I,q⟩:=h;exact ⟨σ',H',I.unwish,q⟩
 | brk=>obtain ⟨σ',H',I,q⟩:=h;exact ⟨σ',H',I.unwish,q⟩
 | cont=>obtain ⟨σ',H',I,q⟩:=h;exact ⟨σ',H',I.unwish,q⟩
 | ret u=>obtain ⟨v,σ',H',I,r,q⟩:=h;exact ⟨v,σ',H',I.unwish,r,q⟩
theorem PT.nox {e:Expr} {t:TT} (h:PT X.nox e t):PT X e t:=fun pins s σ H Q I hw=>
 wpAny_mono (h pins s σ H Q (I.wish _) hw) (fun _ _ ⟨H',I',q⟩=>⟨H',I'.unwish,q⟩) fun _ _ z=>False.elim z
theorem PSs.nox {st:List Stmt} {t:TS} (h:PSs X.nox st t):PSs X st t:=fun pins s σ H D I hw=>
 wpAny_mono (h pins s σ H D (I.wish _) hw) (fun _ _ q=>q.unwish) fun _ _ z=>False.elim z
end
section
variable {X:Cx} {st:Stmt} {cj:List Stmt} {t u:TS} {e:Expr} {te:TE} {pos:Pos}
noncomputable def yB:TS:=fun D σ H=>D.nx σ H
noncomputable def Ah (t u:TS):TS:=fun D σ H=>t { D with nx:=u D } σ H
theorem sO:PSs X [] yB:=fun _ _ σ H _ I h=>wpAny_execs_nil ⟨σ,H,I,h⟩
theorem p5 (h1:PS X st t) (h2:PSs X cj u):PSs X (st :: cj) (Ah t u):=by
 intro pins s σ H D I h
 refine wpAny_execs_cons (thn (h1 pins s σ H { D with nx:=u D } I h) fun f s1 q=>?_)
 cases f with
 | next=>
  obtain ⟨σ',H',I',q⟩:=q
  exact h2 pins s1 σ' H' D I' q
 | ret v=>exact q
 | brk=>exact q
 | cont=>exact q
theorem sP (h1:PS X st t):PSs X [st] t:=by
 intro pins s σ H D I h
 refine wpAny_execs_cons (thn (h1 pins s σ H D I h) fun f s1 q=>?_)
 cases f with
 | next=>exact wpAny_execs_nil q
 | ret v=>exact q
 | brk=>exact q
 | cont=>exact q
theorem Inv.quiet {pins:List (Addr×Obj)} {σ:St} {H:Hp} {s:Shared} (I:Inv X pins σ H s):interactive X.env=false:=by simp [interactive,I.ok.kind]
noncomputable def yC (te:TE):TS:=fun D σ H=>te σ H fun _ H1=>D.nx σ H1
theorem sQ (he:PE X e te) (hs:swapsWith e none pos.line X.env=pure false:=by rfl):PS X (.Expr e pos) (yC te):=by
 intro pins s σ H D I h
 exact wpAny_Expr_any (thn (he pins s σ H _ I h) fun v s1 ⟨x,H1,I1,r1,q1⟩=>⟨σ,H1,I1,q1⟩) I.quiet hs
noncomputable def Ai (te:TE):TS:=fun D σ H=>te σ H D.rt
theorem v5 (he:PE X e te):PS X (.Return (some e) pos) (Ai te):=by
 intro pins s σ H D I h
 exact wpAny_Return_some (thn (he pins s σ H _ I h) fun v s1 ⟨x,H1,I1,r1,q1⟩=>⟨x,σ,H1,I1,r1,q1⟩)
noncomputable def Aj (c:TT) (t u:TS):TS:=fun D σ H=>c σ H fun b H1=>if b=true then t D σ H1 else u D σ H1
theorem yD {c:Expr} {a b:List Stmt} {tc:TT} (hc:PT X c tc) (ha:PSs X a t) (hb:PSs X b u):PS X (.If c a b pos) (Aj tc t u):=by
 intro pins s σ H D I h
 refine wpAny_If (thn (hc pins s σ H _ I h) fun d s1 hqq=>?_)
 obtain ⟨H1,I1,q1⟩:=hqq
 cases d with
 | true=>exact ha pins s1 σ H1 D I1 q1
 | false=>exact hb pins s1 σ H1 D I1 q1
noncomputable def v6:TS:=fun _ _ _=>False
theorem p6:PS X st v6:=fun _ _ _ _ _ _ h=>h.elim
end
abbrev TG:=V→St→Hp→(St→Hp→Prop)→Prop
abbrev TGs:=List V→St→Hp→(St→Hp→Prop)→Prop
def PG (X:Cx) (target:Expr) (t:TG):Prop:=
 ∀ (pins:List (Addr×Obj)) (s:Shared) (σ:St) (H:Hp) (v:V) (u:Value) (Q:St→Hp→Prop),Inv X pins σ H s→RelV v u→t v σ H Q→
  wpAny (model X.prog X.w) X.A (assign target X.env u) (fun _ s'=>∃ σ' H',Inv X pins σ' H' s'∧Q σ' H') X.xe s
def PGs (X:Cx) (ts:List Expr) (t:TGs):Prop:=
 ∀ (pins:List (Addr×Obj)) (s:Shared) (σ:St) (H:Hp) (vs:List V) (us:List Value) (Q:St→Hp→Prop),Inv X pins σ H s→Vals vs us→t vs σ H Q→
  wpAny (model X.prog X.w) X.A (assignInOrder ((assignEach ts X.env).map (·.2)) us) (fun _ s'=>∃ σ' H',Inv X pins σ' H' s'∧Q σ' H') X.xe s
abbrev Ak:=V→V→V→Hp→(Hp→Prop)→Prop
def Al (X:Cx) (t:Ak):Prop:=
 ∀ (pins:List (Addr×Obj)) (s:Shared) (σ:St) (H:Hp) (o i v:V) (ov iv u:Value) (Q:Hp→Prop),Inv X pins σ H s→RelV o ov→RelV i iv→RelV v u→t o i v H Q→
  wpAny (model X.prog X.w) X.A (setItem ov iv u) (fun _ s'=>∃ H',Inv X pins σ H' s'∧Q H') X.xe s
section
variable {X:Cx} {pos:Pos}
noncomputable def v7 (i:Nat):TG:=fun v σ H Q=>Q (σ.set i (some v)) H
theorem sR {i:Nat} {x:Str} (hN:X.N.Nodup) (hi:X.N[i]?=some x) (hx:Loc X.env.scope x) (hf:X.fn x=true∨X.env.scope.names.lookup x=some .local:=by first | exact .inl rfl | exact .inr rfl | assumption):PG X (.Name x pos) (v7 i):=by
 intro pins s σ H v u Q I r h
 exact wpAny_assign_Name (lN I hN hi hx r (fun s' I'=>⟨_,H,I',h⟩) hf)
noncomputable def Am:TGs:=fun vs σ H Q=>vs=[]∧Q σ H
noncomputable def yE (t:TG) (u:TGs):TGs:=fun vs σ H Q=>∃ v r,vs=v :: r∧t v σ H fun σ' H'=>u r σ' H' Q
theorem sS:PGs X [] Am:=by
 intro pins s σ H vs us Q I r h
 obtain ⟨e,h⟩:=h
 subst e
 cases r
 exact assignInOrder_nil ⟨σ,H,I,h⟩
theorem p7 {e:Expr} {es:List Expr} {t:TG} {u:TGs} (h1:PG X e t) (h2:PGs X es u)
  (hs:(assignEach (e :: es) X.env).map (·.2)=assign e X.env :: (assignEach es X.env).map (·.2):=by rfl):PGs X (e :: es) (yE t u):=by
 intro pins s σ H vs us Q I r h
 obtain ⟨v,vr,e1,h⟩:=h
 subst e1
 cases r with
 | cons r rr=>
  rw [hs]
  refine assignInOrder_cons (thn (h1 pins s σ H _ _ _ I r h) fun _ s1 hqq=>?_)
  obtain ⟨σ1,H1,I1,q1⟩:=hqq
  exact h2 pins s1 σ1 H1 _ _ Q I1 rr q1
noncomputable def An (K:W.Frag) (n:Nat) (t:TGs):TG:=fun v σ H Q=>∃ a xs,v=.ref a∧SqT K H a xs∧xs.length=n∧t xs σ H Q
theorem v9 {es:List Expr} {k:Nat} {t:TGs} {n:Nat} (hc:X.calm=true) (h:PGs X es t)
  (hn:(assignEach es X.env).length=n:=by rfl) (hst:(assignEach es X.env).findIdx? (·.1)=none:=by rfl):PG X (.Tuple es k pos) (An X.K n t):=by
 intro pins s σ H v u Q I r hw
 obtain ⟨a,xs,e1,hq,hl,hw⟩:=hw
 subst e1
 cases r
 obtain ⟨its,rv,ht,hz⟩:=I.tuple hq
 refine assign_Tuple_tuple (I.ok.hd hc) ht (by simp [hn,←hl,rv.length]) hst fun h' hx=>?_
 have I1:Inv X pins σ H { s with heap:=h' }:=I.kept (t':=s.toks) fun b o e=>hx b o (Nat.ne_of_lt (Heap.lt_size e)) e
 exact h pins _ σ H xs _ Q I1 (by simpa using rv) hw
noncomputable def zY (te:TE) (g:TG):TS:=fun D σ H=>te σ H fun x H1=>g x σ H1 D.nx
theorem wa {tg e:Expr} {te:TE} {g:TG} (he:PE X e te) (hg:PG X tg g) (hs:swapsWithSole [tg] e pos.line X.env=pure false:=by rfl) (hw:swappedStores [tg] e X.env=pure none:=by rfl)
  (h1:(assignEach [tg] X.env).map (·.2)=[assign tg X.env]:=by rfl):PS X (.Assign [tg] e pos) (zY te g):=by
 intro pins s σ H D I h
 refine wpAny_Assign_stores (thn (he pins s σ H _ I h) fun v s1 ⟨x,H1,I1,r1,q1⟩=>?_) hs hw
 rw [h1]
 exact thn (hg pins s1 σ H1 x v _ I1 r1 q1) fun _ s2 q=>q
theorem wb {i:Nat} {x:Str} {e:Expr} {te:TE} {pos':Pos} (hN:X.N.Nodup) (hi:X.N[i]?=some x) (hx:Loc X.env.scope x) (he:PE X e te) (hs:swapsWith e (some (.Name x pos')) pos.line X.env=pure false:=by rfl) (hf:X.fn x=true∨X.env.scope.names.lookup x=some .local:=by first | exact .inl rfl | exact .inr rfl | assumption) :
  PS X (.Assign [.Name x pos'] e pos) (zY te (v7 i)):=by
 intro pins s σ H D I h
 refine wpAny_Assign_Name (thn (he pins s σ H _ I h) fun v s1 ⟨y,H1,I1,r1,q1⟩=>?_) hs
 exact lN I1 hN hi hx r1 (fun s2 I2=>⟨_,H1,I2,q1⟩) hf
end
section
variable {X:Cx} {pos:Pos}
noncomputable def wc (c:TT) (tb:TS):TS:=fun D σ H=>∃ W:Nat→St→Hp→Prop,(∃ m,W m σ H)∧∀ m σ H,W m σ H→
 c σ H fun b H1=>if b=true then ∃ N:St→Hp→Prop,(∀ σ' H',N σ' H'→∃ m',m' < m∧W m' σ' H')∧tb { D with nx:=N,ct:=N,bk:=D.nx } σ H1 else D.nx σ H1
theorem p8 {c:Expr} {body:List Stmt} {tc:TT} {tb:TS} (hp:PassesOwn (model X.prog X.w) X.A X.env X.xe) (hc:PT X c tc) (hb:PSs X body tb):PS X (.While c body [] pos) (wc tc tb):=by
 intro pins s σ H D I h
 obtain ⟨W,⟨m0,w0⟩,turn⟩:=h
 refine wpAny_While (codeAny_whileLoop (fun n s'=>∃ σ' H',Inv X pins σ' H' s'∧W n σ' H') ?_ m0 ⟨σ,H,I,w0⟩)
 rintro n s1 ⟨σ1,H1,I1,w1⟩
 refine wpAny_passesOwn hp (thn (hc pins s1 σ1 H1 _ I1 (turn n σ1 H1 w1)) fun b s2 hqq=>?_)
 obtain ⟨H2,I2,q2⟩:=hqq
 cases b with
 | true=>
  obtain ⟨N,hN,q2⟩:=q2
  rw [if_pos rfl]
  refine wpAny_passesOwn hp (thn (hb pins s2 σ1 H2 _ I2 q2) fun f s3 q3=>?_)
  cases f with
  | next=>
   obtain ⟨σ3,H3,I3,n3⟩:=q3
   obtain ⟨m',hm,w3⟩:=hN σ3 H3 n3
   exact ⟨m',hm,σ3,H3,I3,w3⟩
  | cont=>
   obtain ⟨σ3,H3,I3,n3⟩:=q3
   obtain ⟨m',hm,w3⟩:=hN σ3 H3 n3
   exact ⟨m',hm,σ3,H3,I3,w3⟩
  | brk=>exact q3
  | ret v=>exact q3
 | false=>
  rw [if_neg Bool.false_ne_true]
  exact wpAny_execs_nil ⟨σ1,H2,I2,q2⟩
end
structure It where
 go:Nat→Hp→Prop
 yld:Nat→Hp→V→Hp→Prop
 stop:Nat→Hp→Prop
def nH (X:Cx) (pins:List (Addr×Obj)) (H:Hp) (b:Addr):Prop:=
 H b=none∧b≠X.env.locals∧b∉X.fs∧(b∈X.ex∨X.s₀.heap.objs.size≤b)∧(∀ x c,X.env.cells.lookup x=some c→c≠b)∧∀ p∈X.pn++pins,p.1≠b
theorem Inv.fpOk {X:Cx} {pins:List (Addr×Obj)} {σ:St} {H H':Hp} {s:Shared} {b:Addr} (I:Inv X pins σ H s) (hb:s.heap.objs.size≤b) (hn:H' b=none):nH X pins H' b:=by
 refine ⟨hn,Nat.ne_of_gt (Nat.lt_of_lt_of_le I.lt hb),I.nofs hb,.inr (Nat.le_trans I.sz hb),fun x c e z=>?_,fun p hp z=>?_⟩
 ·obtain ⟨v,q⟩:=I.cell x c e
  exact absurd (Nat.lt_of_lt_of_le q.lt (by rw [z];exact hb)) (Nat.lt_irrefl _)
 ·exact absurd (Nat.lt_of_lt_of_le (Heap.lt_size (I.pin p hp).1) (by rw [z];exact hb)) (Nat.lt_irrefl _)
structure Turn (P:Program) (w:World) (K:W.Frag) (tg:Expr) (J:It) (fp:List Addr) (it:Addr) (tn:Nat→Heap→Prop):Prop where
 mem:it∈fp
 obj:∀ i h,tn i h→∀ b∈fp,∃ o,h.get? b=some o∧∀ v,o.data≠.cell v
 keep:∀ i h h',tn i h→(∀ b∈fp,∀ o,h.get? b=some o→h'.get? b=some o)→tn i h'
 item:∀ (X:Cx),X.prog=P→X.w=w→X.K=K→X.calm=true→∀ (i:Nat) (pins:List (Addr×Obj)) (s:Shared) (σ:St) (H:Hp) (E:Value→Shared→Prop),Inv X pins σ H s→(∀ b∈fp,nH X pins H b)→tn i s.heap→J.go i H→
  wpAny (model P w) X.A (pyNext (.ref it)) (fun r s1=>∃ u,r=some u∧
   wpAny (model P w) X.A (letOwnedTupleGo tg (.ref it) u) (fun _ s2=>∃ x H',Inv X pins σ H' s2∧RelV x u∧J.yld i H x H'∧tn (i + 1) s2.heap∧∀ b∈fp,H' b=none) E s1) E s
 done:∀ (X:Cx),X.prog=P→X.w=w→X.K=K→X.calm=true→∀ (i:Nat) (pins:List (Addr×Obj)) (s:Shared) (σ:St) (H:Hp) (E:Value→Shared→Prop),Inv X pins σ H s→(∀ b∈fp,nH X pins H b)→tn i s.heap→J.stop i H→
  wpAny (model P w) X.A (pyNext (.ref it)) (fun r s1=>r=none∧Inv X pins σ H s1) E s
 self:∀ (A:Around) (i:Nat) (s:Shared) (Q:Value→Shared→Prop) (E:Value→Shared→Prop),tn i s.heap→Q (.ref it) s→wpAny (model P w) A (pyIter (.ref it)) Q E s
abbrev TI:=St→Hp→(It→Hp→Prop)→Prop
def PIE (X:Cx) (pins:List (Addr×Obj)) (σ:St) (tg:Expr) (R:It→Hp→Prop) (itv:Value) (s2:Shared):Prop:=
 ∃ (it:Addr) (fp:List Addr) (tn:Nat→Heap→Prop) (J:It) (H':Hp),itv=.ref it∧Inv X pins σ H' s2∧Turn X.prog X.w X.K tg J fp it tn∧tn 0 s2.heap∧(∀ b∈fp,nH X pins H' b)∧R J H'
def PI (X:Cx) (tg iter:Expr) (wi:TI):Prop:=
 ∀ (pins:List (Addr×Obj)) (s:Shared) (σ:St) (H:Hp) (R:It→Hp→Prop),Inv X pins σ H s→wi σ H R→
  wpAny (model X.prog X.w) X.A (eval iter X.env) (fun v s1=>wpAny (model X.prog X.w) X.A (pyIter v) (PIE X pins σ tg R) X.xe s1) X.xe s
theorem p9 {M : Model} {A : Around} {E : Value → Shared → Prop} {s : Shared} {tg : Expr} {it : Addr} {u : Value} {o : Obj} {n : String} {vs : Array Value} {Q : Unit → Shared → Prop} (ho : s.heap.get? it = some o) (hc : o.cls = .type n) (hd : o.data = .fields vs)
    (hn : ["enumerate", "zip", "dict_itemiterator", "dict_reverseitemiterator", "odict_iterator", "itertools.zip_longest", "itertools.pairwise"].contains n = false) (hQ : Q () s) : wpAny M A (letOwnedTupleGo tg (.ref it) u) Q E s := by
  unfold letOwnedTupleGo
  cases tg <;> first
    | exact wpAny_pure hQ
    | (cases u <;> first
        | exact wpAny_pure hQ
        | (refine wpAny_bind (wpAny_load ho ?_)
           rw [hc, hd]
           show wpAny M A (if (["enumerate", "zip", "dict_itemiterator", "dict_reverseitemiterator", "odict_iterator", "itertools.zip_longest", "itertools.pairwise"].contains n && vs[0]? == some (rawInt _)) = true then _ else _) Q E s
           rw [if_neg (by intro h; rw [hn, Bool.false_and] at h; cases h)]
           exact wpAny_pure hQ))
noncomputable def Itl (K:W.Frag) (a:Addr):It:=
 ⟨fun i H=>∃ xs x,SqL K H a xs∧xs[i]?=some x,fun i H x H'=>H'=H∧∀ xs,SqL K H a xs→xs[i]?=some x,fun i H=>∃ xs,SqL K H a xs∧xs.length≤i⟩
noncomputable def Itt (K:W.Frag) (a:Addr):It:=
 ⟨fun i H=>∃ xs x,SqT K H a xs∧xs[i]?=some x,fun i H x H'=>H'=H∧∀ xs,SqT K H a xs→xs[i]?=some x,fun i H=>∃ xs,SqT K H a xs∧xs.length≤i⟩
noncomputable def Itr (lo:Int) (n:Nat):It:=⟨fun i _=>i < n,fun i H x H'=>H'=H∧x=.int (lo + i),fun i _=>n≤i⟩
theorem nO {P:Program} {w:World} {K:W.Frag} {tg:Expr} (a it:Addr):Turn P w K tg (Itl K a) [it] it (fun i h=>h.IsListIter it a i) where
 mem:=by simp
 obj:=fun i h st b hb=>by
  have e:b=it:=by simpa using hb
  subst e
  obtain ⟨o,e,c,d⟩:=st
  exact ⟨o,e,fun v z=>by rw [d] at z;cases z⟩
 keep:=fun i h h' st k=>st.at fun o e=>k it (by simp) o e
 item:=by
  intro X hP hw hK hc i pins s σ H E I hf st hg
  subst hP hw hK
  obtain ⟨xs,x,hq,hx⟩:=hg
  obtain ⟨its,rv,p,hz⟩:=I.list hq
  obtain ⟨u,hu,ru⟩:=rv.get hx
  obtain ⟨f0,f1,f2,f3,f4,f5⟩:=hf it (by simp)
  refine wpAny_pyNext_list_item st p.isList (x:=u) (by simpa using hu) fun h' st' sb=>?_
  have I1:Inv X pins σ H { s with heap:=h' }:=I.turned (t':=s.toks) (fun b o hb e=>(sb.2 b hb).trans e) f0 f1 f3 f4 f5
  obtain ⟨o,e,c,d⟩:=id st'
  exact ⟨u,rfl,p9 (s:={ s with heap:=h' }) e c d (by decide) ⟨x,H,I1,ru,⟨rfl,fun ys hy=>by rw [I.list_inj hy hq];exact hx⟩,st',fun b hb=>(hf b hb).1⟩⟩
 done:=by
  intro X hP hw hK hc i pins s σ H E I hf st hg
  subst hP hw hK
  obtain ⟨xs,hq,hx⟩:=hg
  obtain ⟨its,rv,p,hz⟩:=I.list hq
  obtain ⟨f0,f1,f2,f3,f4,f5⟩:=hf it (by simp)
  have hl:=rv.length
  exact wpAny_pyNext_list_end (I.ok.hd hc) st p.isList (by simp;lia) fun h' eb=>⟨rfl,I.turned (t':=s.toks) (fun b o hb e=>eb b o hb e) f0 f1 f3 f4 f5⟩
 self:=fun _ _ _ _ _ st h=>wpAny_pyIter_listiter st h
theorem mV {P:Program} {w:World} {K:W.Frag} {tg:Expr} (a it:Addr):Turn P w K tg (Itt K a) [it] it (fun i h=>h.IsTupleIter it a i) where
 mem:=by simp
 obj:=fun i h st b hb=>by
  have e:b=it:=by simpa using hb
  subst e
  obtain ⟨o,e,c,d⟩:=st
  exact ⟨o,e,fun v z=>by rw [d] at z;cases z⟩
 keep:=fun i h h' st k=>st.at fun o e=>k it (by simp) o e
 item:=by
  intro X hP hw hK hc i pins s σ H E I hf st hg
  subst hP hw hK
  obtain ⟨xs,x,hq,hx⟩:=hg
  obtain ⟨its,rv,p,hz⟩:=I.tuple hq
  obtain ⟨u,hu,ru⟩:=rv.get hx
  obtain ⟨f0,f1,f2,f3,f4,f5⟩:=hf it (by simp)
  refine wpAny_pyNext_tuple_item st (show s.heap.IsTuple a its.toArray from p) (x:=u) (by simpa using hu) fun h' st' sb=>?_
  have I1:Inv X pins σ H { s with heap:=h' }:=I.turned (t':=s.toks) (fun b o hb e=>(sb.2 b hb).trans e) f0 f1 f3 f4 f5
  obtain ⟨o,e,c,d⟩:=id st'
  exact ⟨u,rfl,p9 (s:={ s with heap:=h' }) e c d (by decide) ⟨x,H,I1,ru,⟨rfl,fun ys hy=>by rw [I.tuple_inj hy hq];exact hx⟩,st',fun b hb=>(hf b hb).1⟩⟩
 done:=by
  intro X hP hw hK hc i pins s σ H E I hf st hg
  subst hP hw hK
  obtain ⟨xs,hq,hx⟩:=hg
  obtain ⟨its,rv,p,hz⟩:=I.tuple hq
  obtain ⟨f0,f1,f2,f3,f4,f5⟩:=hf it (by simp)
  have hl:=rv.length
  exact wpAny_pyNext_tuple_end (I.ok.hd hc) st (show s.heap.IsTuple a its.toArray from p) (by simp;lia) fun h' eb=>⟨rfl,I.turned (t':=s.toks) (fun b o hb e=>eb b o hb e) f0 f1 f3 f4 f5⟩
 self:=fun _ _ _ _ _ st h=>wpAny_pyIter_tupleiter st h
theorem mW {P:Program} {w:World} {K:W.Frag} {tg:Expr} (it:Addr) (lo:Int) (n:Nat):Turn P w K tg (Itr lo n) [it] it (fun i h=>IsRangeIter h it (lo + (i:Nat) * 1) ((n:Int) - (i:Nat)) 1) where
 mem:=by simp
 obj:=fun i h st b hb=>by
  have e:b=it:=by simpa using hb
  subst e
  exact ⟨_,st,fun v z=>by
   have z':Data.fields _=Data.cell v:=z
   cases z'⟩
 keep:=fun i h h' st k=>k it (by simp) _ st
 item:=by
  intro X hP hw hK hc i pins s σ H E I hf st hg
  subst hP hw hK
  obtain ⟨f0,f1,f2,f3,f4,f5⟩:=hf it (by simp)
  have W:=Walks.range (prog:=X.prog) (w:=X.w) (I.ok.hd hc) it lo 1 n
  refine W.item i s _ _ hg st fun v h' tk hv st' kk=>?_
  obtain ⟨t,rfl⟩:=hv
  have I1:Inv X pins σ H { s with heap:=h',toks:=tk }:=I.turned (fun b o hb e=>kk b o (by simpa using hb) e) f0 f1 f3 f4 f5
  refine ⟨_,rfl,p9 (s:={ s with heap:=h',toks:=tk }) (n:="range_iterator") st' rfl rfl (by decide) ⟨.int (lo + i),H,I1,⟨t,?_⟩,⟨rfl,rfl⟩,st',fun b hb=>(hf b hb).1⟩⟩
  rw [Int.mul_one]
 done:=by
  intro X hP hw hK hc i pins s σ H E I hf st hg
  subst hP hw hK
  obtain ⟨f0,f1,f2,f3,f4,f5⟩:=hf it (by simp)
  exact wpAny_pyNext_range_end (I.ok.hd hc) st (by have:n≤i:=hg;lia) fun h' eb=>⟨rfl,I.turned (t':=s.toks) (fun b o hb e=>eb b o hb e) f0 f1 f3 f4 f5⟩
 self:=fun _ _ _ _ _ st h=>wpAny_pyIter_rangeiter st h
section
variable {X:Cx} {tg:Expr}
noncomputable def yF (K:W.Frag) (tl:TE):TI:=fun σ H R=>tl σ H fun x H1=>∃ a,x=.ref a∧(∃ xs,SqL K H1 a xs)∧R (Itl K a) H1
noncomputable def Ao (K:W.Frag) (tl:TE):TI:=fun σ H R=>tl σ H fun x H1=>∃ a,x=.ref a∧(∃ xs,SqT K H1 a xs)∧R (Itt K a) H1
theorem nP {l:Expr} {tl:TE} (hl:PE X l tl):PI X tg l (yF X.K tl):=by
 intro pins s σ H R I h
 refine thn (hl pins s σ H _ I h) fun v s1 hqq=>?_
 obtain ⟨x,H1,I1,r1,q1⟩:=hqq
 obtain ⟨a,e,⟨xs,hq⟩,q⟩:=q1
 subst e
 cases r1
 obtain ⟨its,rv,p,hz⟩:=I1.list hq
 refine wpAny_pyIter_list p.isList ?_
 refine ⟨s1.heap.objs.size,[s1.heap.objs.size],_,_,H1,rfl,I1.kept (t':=s1.toks) fun b o e=>Heap.get?_push_of_some _ e,nO a _,⟨_,Heap.get?_push_size _ rfl,rfl,rfl⟩,fun b hb=>?_,q⟩
 have e:b=s1.heap.objs.size:=by simpa using hb
 subst e
 exact I1.fpOk (Nat.le_refl _) (I1.hok.fresh (Nat.le_refl _))
theorem we {l:Expr} {tl:TE} (hl:PE X l tl):PI X tg l (Ao X.K tl):=by
 intro pins s σ H R I h
 refine thn (hl pins s σ H _ I h) fun v s1 hqq=>?_
 obtain ⟨x,H1,I1,r1,q1⟩:=hqq
 obtain ⟨a,e,⟨xs,hq⟩,q⟩:=q1
 subst e
 cases r1
 obtain ⟨its,rv,p,hz⟩:=I1.tuple hq
 refine wpAny_pyIter_tuple (show s1.heap.IsTuple a its.toArray from p) ?_
 refine ⟨s1.heap.objs.size,[s1.heap.objs.size],_,_,H1,rfl,I1.kept (t':=s1.toks) fun b o e=>Heap.get?_push_of_some _ e,mV a _,⟨_,Heap.get?_push_size _ rfl,rfl,rfl⟩,fun b hb=>?_,q⟩
 have e:b=s1.heap.objs.size:=by simpa using hb
 subst e
 exact I1.fpOk (Nat.le_refl _) (I1.hok.fresh (Nat.le_refl _))
theorem qa {pins:List (Addr×Obj)} {σ:St} {H:Hp} {s:Shared} {R:It→Hp→Prop} {E:Value→Shared→Prop} {lo hi:Int} {t u v:Tok} {tk:Nat} (I:Inv X pins σ H s) (h1 : -(2 ^ 62)≤lo) (h2:lo < 2 ^ 62) (h3 : -(2 ^ 62)≤hi) (h4:hi < 2 ^ 62)
  (q:R (Itr lo (hi - lo).toNat) H):wpAny (model X.prog X.w) X.A (pyIter (.ref s.heap.objs.size)) (PIE X pins σ tg R) E { s with heap:=s.heap.push { cls:=.type "range",data:=.fields #[.int lo t,.int hi u,.int 1 v] },toks:=tk }:=by
 refine wpAny_pyIter_range (IsRange.new ..) (small_one h1 h2 h3 h4) ?_
 have I1:Inv X pins σ H { s with heap:=s.heap.push { cls:=.type "range",data:=.fields #[.int lo t,.int hi u,.int 1 v] },toks:=tk }:=I.kept fun b o e=>Heap.get?_push_of_some _ e
 refine ⟨(s.heap.push { cls:=.type "range",data:=.fields #[.int lo t,.int hi u,.int 1 v] }).objs.size,[(s.heap.push { cls:=.type "range",data:=.fields #[.int lo t,.int hi u,.int 1 v] }).objs.size],_,_,H,rfl,
  I1.kept (t':=tk) fun b o e=>Heap.get?_push_of_some _ e,mW _ lo (hi - lo).toNat,?_,fun b hb=>?_,q⟩
 ·have e1:lo + ((0:Nat):Int) * 1=lo:=by simp
  have e2:(((hi - lo).toNat:Nat):Int) - ((0:Nat):Int)=Builtin.Range.rangeSize lo hi 1:=by rw [rangeSize_one];split <;> lia
  show IsRangeIter _ _ (lo + ((0:Nat):Int) * 1) ((((hi - lo).toNat:Nat):Int) - ((0:Nat):Int)) 1
  rw [e1,e2]
  exact Heap.get?_push_size _ rfl
 ·have e:b=(s.heap.push { cls:=.type "range",data:=.fields #[.int lo t,.int hi u,.int 1 v] }).objs.size:=by simpa using hb
  subst e
  exact I1.fpOk (Nat.le_refl _) (I1.hok.fresh (Nat.le_refl _))
noncomputable def yG (ta:TA):TI:=fun σ H R=>ta σ H fun vs H1=>∃ j:Int,vs=[.int j]∧-(2 ^ 62)≤j∧j < 2 ^ 62∧R (Itr 0 j.toNat) H1
theorem nQ {a:Expr} {ta:TA} {p pos:Pos} (hg:Gl X "range") (hm:X.mg "range" = none) (ha:PA X [a] ta) (hs:starEach [a] X.env=[(false,eval a X.env)]:=by rfl):PI X tg (.Call (.Name "range" p) [a] [] pos) (yG ta):=by
 intro pins s σ H R I h
 refine Call_ (j3 I hg hm boot_range (PyProof.Rows.callWith_type1 (thn (ha pos pins s σ H _ I h) fun us s1 ⟨vs,H1,I1,r1,q1⟩=>?_) hs rfl))
 obtain ⟨j,e,q1,q2,q⟩:=q1
 subst e
 cases r1 with
 | cons r rr=>
  cases rr
  obtain ⟨t,rfl⟩:=r
  exact call_range_1 (qa I1 (by lia) (by lia) q1 q2 (by simpa using q))
noncomputable def Ap (wi:TI) (g:TG) (tb:TS):TS:=fun D σ H=>wi σ H fun J H1=>∃ W:Nat→Nat→St→Hp→Prop,(∃ m,W 0 m σ H1)∧∀ i m σ H,W i m σ H→
 (J.stop i H∧D.nx σ H)∨(J.go i H∧∃ N:St→Hp→Prop,(∀ σ' H',N σ' H'→∃ m',m' < m∧W (i + 1) m' σ' H')∧∀ x H',J.yld i H x H'→g x σ H' fun σ2 H2=>tb { D with nx:=N,ct:=N,bk:=D.nx } σ2 H2)
noncomputable def j4 (fp:List Addr) (h:Heap):List (Addr×Obj):=fp.filterMap fun b=>(h.get? b).map fun o=>(b,o)
theorem eG {fp:List Addr} {h:Heap} {b:Addr} {o:Obj} (hb:b∈fp) (e:h.get? b=some o):(b,o)∈j4 fp h:=List.mem_filterMap.mpr ⟨b,hb,by rw [e];rfl⟩
theorem nR {fp:List Addr} {h:Heap} {p:Addr×Obj} (hp:p∈j4 fp h):p.1∈fp∧h.get? p.1=some p.2:=by
 obtain ⟨b,hb,e⟩:=List.mem_filterMap.mp hp
 cases q:h.get? b with
 | none=>rw [q] at e;cases e
 | some o=>
  rw [q] at e
  have e':(b,o)=p:=Option.some.inj e
  subst e'
  exact ⟨hb,q⟩
theorem Inv.pinned {pins:List (Addr×Obj)} {σ:St} {H:Hp} {s:Shared} {fp:List Addr} (I:Inv X pins σ H s) (hf:∀ b∈fp,nH X pins H b) (ho:∀ b∈fp,∃ o,s.heap.get? b=some o∧∀ v,o.data≠.cell v):Inv X (pins++j4 fp s.heap) σ H s:=
 I.pins_of fun p hp=>(List.mem_append.mp hp).elim (fun z=>I.pin p (List.mem_append_right _ z)) fun z=>by
  obtain ⟨hb,e⟩:=nR z
  obtain ⟨f0,f1,f2,_⟩:=hf p.1 hb
  obtain ⟨o,e',d⟩:=ho p.1 hb
  rw [e] at e';cases e'
  exact ⟨e,f0,f1,f2,d⟩
theorem Inv.unpinned {pins pl:List (Addr×Obj)} {σ:St} {H:Hp} {s:Shared} (I:Inv X (pins++pl) σ H s):Inv X pins σ H s:=I.pins_of fun p hp=>I.pin p (List.mem_append_right _ (List.mem_append_left _ hp))
theorem wf {iter:Expr} {body:List Stmt} {wi:TI} {g:TG} {tb:TS} {pos:Pos} (hp:PassesOwn (model X.prog X.w) X.A X.env X.xe) (hc:X.calm=true) (hi:PI X tg iter wi) (hg:PG X tg g) (hb:PSs X body tb)
  (hs:∀ x,foldedSetIterable iter X.env x=pure x:=by intro _;rfl):PS X (.For tg iter body [] pos) (Ap wi g tb):=by
 intro pins s σ H D I h
 refine wpAny_For (thn (hi pins s σ H _ I h) fun v s1 h1=>thn h1 fun itv s2 h2=>?_) hs
 obtain ⟨it,fp,tn,J,H2,e,I2,T,st2,f2,W,⟨m0,w0⟩,turn⟩:=h2
 subst e
 have stat:∀ {H':Hp},(∀ b∈fp,H' b=none)→∀ b∈fp,nH X pins H' b:=fun hn b hb=>⟨hn b hb,(f2 b hb).2⟩
 refine codeAny_forLoop_any (fun n s'=>∃ i σ' H',Inv X pins σ' H' s'∧tn i s'.heap∧(∀ b∈fp,H' b=none)∧W i n σ' H') ?_ m0 ⟨0,σ,H2,I2,st2,fun b hb=>(f2 b hb).1,w0⟩
 rintro n s3 ⟨i,σ3,H3,I3,st3,fr3,w3⟩
 rcases turn i n σ3 H3 w3 with ⟨stop,qn⟩ | ⟨go,N,hN,step⟩
 ·refine wpAny_passesOwn hp (thn (T.done X rfl rfl rfl hc i pins s3 σ3 H3 X.xe I3 (stat fr3) st3 stop) fun r s4 hqq=>?_)
  obtain ⟨hr,I4⟩:=hqq
  subst hr
  exact wpAny_execs_nil ⟨σ3,H3,I4,qn⟩
 ·refine wpAny_passesOwn hp (thn (T.item X rfl rfl rfl hc i pins s3 σ3 H3 X.xe I3 (stat fr3) st3 go) fun r s4 hqq=>?_)
  obtain ⟨u,hr,h4⟩:=hqq
  subst hr
  refine wpAny_passesOwn hp (thn h4 fun _ s5 hqq=>?_)
  obtain ⟨x,H5,I5,r5,y5,st5,fr5⟩:=hqq
  have I5':=I5.pinned (stat fr5) (T.obj _ _ st5)
  refine wpAny_passesOwn hp (thn (hg _ s5 σ3 H5 x u _ I5' r5 (step x H5 y5)) fun _ s6 hqq=>?_)
  obtain ⟨σ6,H6,I6,q6⟩:=hqq
  refine wpAny_passesOwn hp (thn (hb _ s6 σ6 H6 _ I6 q6) fun f s7 q7=>?_)
  have again:∀ {σ7:St} {H7:Hp},Inv X (pins++j4 fp s5.heap) σ7 H7 s7→N σ7 H7→∃ m,m < n∧∃ i σ' H',Inv X pins σ' H' s7∧tn i s7.heap∧(∀ b∈fp,H' b=none)∧W i m σ' H':=fun {σ7 H7} I7 n7=>by
   obtain ⟨m',hm,w7⟩:=hN σ7 H7 n7
   refine ⟨m',hm,i + 1,σ7,H7,I7.unpinned,T.keep _ _ _ st5 fun b hb o e=>(I7.pin (b,o) (List.mem_append_right _ (List.mem_append_right _ (eG hb e)))).1,fun b hb=>?_,w7⟩
   obtain ⟨o,e,d⟩:=T.obj _ _ st5 b hb
   exact (I7.pin (b,o) (List.mem_append_right _ (List.mem_append_right _ (eG hb e)))).2.1
  cases f with
  | next=>obtain ⟨σ7,H7,I7,n7⟩:=q7;exact again I7 n7
  | cont=>obtain ⟨σ7,H7,I7,n7⟩:=q7;exact again I7 n7
  | brk=>obtain ⟨σ7,H7,I7,q7⟩:=q7;exact ⟨σ7,H7,I7.unpinned,q7⟩
  | ret v=>obtain ⟨x7,σ7,H7,I7,r7,q7⟩:=q7;exact ⟨x7,σ7,H7,I7.unpinned,r7,q7⟩
end
theorem for_list {K:W.Frag} {a:Addr} {xs:List V} {g:TG} {tb:TS} {D:Ends} {σ:St} {H:Hp} (Pv:Nat→St→Hp→Prop) (h0:Pv 0 σ H) (hl:∀ i σ H,i≤xs.length→Pv i σ H→SqL K H a xs)
  (hs:∀ i x σ H,xs[i]?=some x→Pv i σ H→g x σ H fun σ2 H2=>tb { D with nx:=Pv (i + 1),ct:=Pv (i + 1),bk:=D.nx } σ2 H2) (hd:∀ σ H,Pv xs.length σ H→D.nx σ H) :
  ∃ W:Nat→Nat→St→Hp→Prop,(∃ m,W 0 m σ H)∧∀ i m σ H,W i m σ H→
   ((Itl K a).stop i H∧D.nx σ H)∨((Itl K a).go i H∧∃ N:St→Hp→Prop,(∀ σ' H',N σ' H'→∃ m',m' < m∧W (i + 1) m' σ' H')∧∀ x H',(Itl K a).yld i H x H'→g x σ H' fun σ2 H2=>tb { D with nx:=N,ct:=N,bk:=D.nx } σ2 H2):=by
 refine ⟨fun i m σ H=>m=xs.length - i∧i≤xs.length∧Pv i σ H,⟨xs.length,by simp,Nat.zero_le _,h0⟩,?_⟩
 rintro i m σ H ⟨rfl,hi,p⟩
 have q:=hl i σ H hi p
 by_cases hlt:i < xs.length
 ·refine .inr ⟨⟨xs,xs[i],q,by simp [hlt]⟩,Pv (i + 1),fun σ' H' p'=>⟨xs.length - (i + 1),by lia,rfl,hlt,p'⟩,fun x H' y=>?_⟩
  obtain ⟨e,y⟩:=y
  subst e
  exact hs i x σ _ (y xs q) p
 ·have e:i=xs.length:=by lia
  subst e
  exact .inl ⟨⟨xs,q,Nat.le_refl _⟩,hd σ H p⟩
abbrev R2:=V→V→Hp→VK→Prop
def OpR (X:Cx) (f:Value→Value→Sem Value) (r:R2):Prop:=
 ∀ (pins:List (Addr×Obj)) (s:Shared) (σ:St) (H:Hp) (x y:V) (v u:Value) (Q:VK),Inv X pins σ H s→RelV x v→RelV y u→r x y H Q→
  wpAny (model X.prog X.w) X.A (f v u) (EP X pins σ Q) X.xe s
def cZ (X:Cx) (f:Value) (r:List V→Hp→VK→Prop):Prop:=
 ∀ (pins:List (Addr×Obj)) (s:Shared) (σ:St) (H:Hp) (xs:List V) (us:List Value) (Q:VK),Inv X pins σ H s→Vals xs us→r xs H Q→
  wpAny (model X.prog X.w) X.A (call f us) (EP X pins σ Q) X.xe s
noncomputable def tOp (r:R2) (ta tb:TE):TE:=fun σ H Q=>ta σ H fun x H1=>tb σ H1 fun y H2=>r x y H2 Q
noncomputable def rI (C:Int→Int→Prop) (g:Int→Int→V):R2:=fun x y H Q=>∃ i j,x=.int i∧y=.int j∧C i j∧Q (g i j) H
noncomputable def rI0 (g:Int→Int→V):R2:=fun x y H Q=>∃ i j,x=.int i∧y=.int j∧Q (g i j) H
section
variable {X:Cx} {a b c:Expr} {ta tb tc:TE} {pos:Pos}
theorem yH (ha:PE X a ta) (hb:PE X b tb) {pins:List (Addr×Obj)} {s:Shared} {σ:St} {H:Hp} {R:V→V→Hp→Prop} (I:Inv X pins σ H s)
  (h:ta σ H fun x H1=>tb σ H1 fun y H2=>R x y H2) {Q:Value→Shared→Prop} {f:Value→Value→Sem Value}
  (hf:∀ v u s2 x y H2,Inv X pins σ H2 s2→RelV x v→RelV y u→R x y H2→wpAny (model X.prog X.w) X.A (f v u) Q X.xe s2) :
  wpAny (model X.prog X.w) X.A (eval a X.env) (fun v s₁=>wpAny (model X.prog X.w) X.A (eval b X.env) (fun u s₂=>wpAny (model X.prog X.w) X.A (f v u) Q X.xe s₂) X.xe s₁) X.xe s:=by
 refine thn (ha pins s σ H _ I h) fun v s1 hqq=>?_
 obtain ⟨x,H1,I1,r1,q1⟩:=hqq
 refine thn (hb pins s1 σ H1 _ I1 q1) fun u s2 hqq=>?_
 obtain ⟨y,H2,I2,r2,q2⟩:=hqq
 exact hf v u s2 x y H2 I2 r1 r2 q2
theorem yI {op:Operator} {r:R2} (ho:OpR X (binaryOp op) r) (ha:PE X a ta) (hb:PE X b tb):PE X (.BinOp a op b pos) (tOp r ta tb):=by
 intro pins s σ H Q I h
 exact wpAny_BinOp (yH ha hb I h fun v u s2 x y H2 I2 rx ry q=>ho pins s2 σ H2 x y v u Q I2 rx ry q)
theorem opI {f:Value→Value→Sem Value} {C:Int→Int→Prop} {g:Int→Int→Int}
  (rule:∀ (i j:Int) (t u:Tok) (s:Shared) (Q:Value→Shared→Prop) (E:Value→Shared→Prop),C i j→Q (.int (g i j) s.toks) { s with toks:=s.toks + 1 }→wpAny (model X.prog X.w) X.A (f (.int i t) (.int j u)) Q E s) :
  OpR X f (rI C fun i j=>.int (g i j)):=by
 intro pins s σ H x y v u Q I rx ry h
 obtain ⟨i,j,rfl,rfl,hc,q⟩:=h
 obtain ⟨t,rfl⟩:=rx
 obtain ⟨t',rfl⟩:=ry
 exact rule i j t t' s _ _ hc ⟨.int (g i j),H,I.tok _,⟨_,rfl⟩,q⟩
theorem zZ {f:Value→Value→Sem Value} {g:Int→Int→Int}
  (rule:∀ (i j:Int) (t u:Tok) (s:Shared) (Q:Value→Shared→Prop) (E:Value→Shared→Prop),Q (.int (g i j) s.toks) { s with toks:=s.toks + 1 }→wpAny (model X.prog X.w) X.A (f (.int i t) (.int j u)) Q E s) :
  OpR X f (rI0 fun i j=>.int (g i j)):=by
 intro pins s σ H x y v u Q I rx ry h
 obtain ⟨i,j,rfl,rfl,q⟩:=h
 obtain ⟨t,rfl⟩:=rx
 obtain ⟨t',rfl⟩:=ry
 exact rule i j t t' s _ _ ⟨.int (g i j),H,I.tok _,⟨_,rfl⟩,q⟩
theorem yp {f:Value→Value→Sem Value} {g:Int→Int→Bool}
  (rule:∀ (i j:Int) (t u:Tok) (s:Shared) (Q:Value→Shared→Prop) (E:Value→Shared→Prop),Q (.bool (g i j)) s→wpAny (model X.prog X.w) X.A (f (.int i t) (.int j u)) Q E s) :
  OpR X f (rI0 fun i j=>.bl (g i j)):=by
 intro pins s σ H x y v u Q I rx ry h
 obtain ⟨i,j,rfl,rfl,q⟩:=h
 obtain ⟨t,rfl⟩:=rx
 obtain ⟨t',rfl⟩:=ry
 exact rule i j t t' s _ _ ⟨.bl (g i j),H,I,rfl,q⟩
def Aq (i j:Int):Prop:=0 < j∧j < 1073741824
def Ar (i j:Int):Prop:=0≤j∧j≤1000000∧i.natAbs < 2 ^ 64
def CMul (i j:Int):Prop:=(-(2 ^ 64) < i∧i < 2 ^ 64)∨(-(2 ^ 64) < j∧j < 2 ^ 64)
theorem CMul.ok {i j:Int} (h:CMul i j):IntMulOk i j:=by
 rcases h with ⟨h1,h2⟩ | ⟨h1,h2⟩
 ·exact .of_left (intBits_le_64 h1 h2)
 ·exact .of_right (intBits_le_64 h1 h2)
theorem wg:OpR X (binaryOp .Add) (rI0 fun i j=>.int (i + j)):=zZ fun _ _ _ _ _ _ _ q=>add_int q
theorem wj:OpR X (binaryOp .Sub) (rI0 fun i j=>.int (i - j)):=zZ fun _ _ _ _ _ _ _ q=>sub_int q
theorem wm:OpR X (binaryOp .Mult) (rI CMul fun i j=>.int (i * j)):=opI fun _ _ _ _ _ _ _ hc q=>mul_int q hc.ok
theorem sT:OpR X (binaryOp .FloorDiv) (rI Aq fun i j=>.int (i / j)):=opI fun i j _ _ _ _ _ hc q=>by
 have h1:(0:Int) < j:=hc.1
 have h2:j < 1073741824:=hc.2
 exact floordiv_int (by lia) (by rw [Int.fdiv_eq_ediv_of_nonneg i (by lia)];exact q) (.inl (PyProof.noPylong_small (by lia)))
theorem wn:OpR X (binaryOp .Mod) (rI (fun _ j=>0 < j) fun i j=>.int (i % j)):=opI fun i j _ _ _ _ _ hc q=>by
 have h1:(0:Int) < j:=hc
 exact mod_int' (by lia) (by rw [Int.fmod_eq_emod_of_nonneg i (by lia)];exact q)
theorem wo:OpR X (binaryOp .Pow) (rI Ar fun i j=>.int (i ^ j.toNat)):=opI fun _ _ _ _ _ _ _ hc q=>pow_int_small hc.1 hc.2.1 hc.2.2 q
end
section
variable {X:Cx} {a b c:Expr} {ta tb tc:TE} {pos:Pos}
theorem lO {pins:List (Addr×Obj)} {σ:St} {H:Hp} {s:Shared} {Q:VK} {k k':Bool} (I:Inv X pins σ H s) (q:Q (.bl k) H) (e:k=k'):EP X pins σ Q (.bool k') s:=by
 subst e
 exact ⟨.bl k,H,I,rfl,q⟩
theorem yJ:OpR X (compareOp .Lt) (rI0 fun i j=>.bl (decide (i < j))):=yp fun _ _ _ _ _ _ _ q=>lt_int q
theorem yK:OpR X (compareOp .LtE) (rI0 fun i j=>.bl (decide (i≤j))):=yp fun _ _ _ _ _ _ _ q=>le_int q
theorem yL:OpR X (compareOp .Gt) (rI0 fun i j=>.bl (decide (j < i))):=yp fun _ _ _ _ _ _ _ q=>gt_int q
theorem yM:OpR X (compareOp .GtE) (rI0 fun i j=>.bl (decide (j≤i))):=yp fun _ _ _ _ _ _ _ q=>ge_int q
theorem nS:OpR X (compareOp .Lt) (fun x y H Q=>∃ i j,x=.str i∧y=.str j∧Q (.bl (decide (i.cps.toList < j.cps.toList))) H):=by
 intro pins s σ H x y v u Q I rx ry h
 obtain ⟨i,j,rfl,rfl,q⟩:=h
 obtain ⟨t,rfl⟩:=rx
 obtain ⟨t',rfl⟩:=ry
 exact lt_str (lO I q rfl)
theorem nU:OpR X (compareOp .In) (fun x y H Q=>∃ i j,x=.str i∧y=.str j∧Q (.bl (!(Builtin.Str.occurrences j i 0 j.length 1).isEmpty)) H):=by
 intro pins s σ H x y v u Q I rx ry h
 obtain ⟨i,j,rfl,rfl,q⟩:=h
 obtain ⟨t,rfl⟩:=rx
 obtain ⟨t',rfl⟩:=ry
 exact in_str (lO I q rfl)
theorem j5:OpR X (compareOp .NotIn) (fun x y H Q=>∃ i j,x=.str i∧y=.str j∧Q (.bl (!(!(Builtin.Str.occurrences j i 0 j.length 1).isEmpty))) H):=by
 intro pins s σ H x y v u Q I rx ry h
 obtain ⟨i,j,rfl,rfl,q⟩:=h
 obtain ⟨t,rfl⟩:=rx
 obtain ⟨t',rfl⟩:=ry
 exact notIn_str (lO I q rfl)
theorem bG (b:Expr) {op:CmpOp} (h:op≠.In:=by decide) (h2:op≠.NotIn:=by decide):behindInMarks op b=false:=by
 have e1:(op == CmpOp.In)=false:=by cases op <;> first | rfl | exact absurd rfl h
 have e2:(op == CmpOp.NotIn)=false:=by cases op <;> first | rfl | exact absurd rfl h2
 cases b <;> simp [behindInMarks,e1,e2]
theorem nV {op:CmpOp} {r:R2} (ho:OpR X (compareOp op) r) (ha:PE X a ta) (hb:PE X b tb) (hm:behindInMarks op b=false):PE X (.Compare a [op] [b] pos) (tOp r ta tb):=by
 intro pins s σ H Q I h
 exact wpAny_Compare1 (yH ha hb I h fun v u s2 x y H2 I2 rx ry q=>ho pins s2 σ H2 x y v u Q I2 rx ry q) hm
noncomputable def wp (t:TE):TT:=fun σ H Q=>t σ H fun x H'=>∃ k,x=.bl k∧Q k H'
theorem nW {op:CmpOp} {r:R2} (ho:OpR X (compareOp op) r) (ha:PE X a ta) (hb:PE X b tb) (hm:behindInMarks op b=false):PT X (.Compare a [op] [b] pos) (wp (tOp r ta tb)):=by
 intro pins s σ H Q I h
 refine wpAny_isTrue_Compare1 (thn (ha pins s σ H _ I h) fun v s1 ⟨x,H1,I1,r1,q1⟩=>thn (hb pins s1 σ H1 _ I1 q1) fun u s2 ⟨y,H2,I2,r2,q2⟩=>
  thn (ho pins s2 σ H2 x y v u _ I2 r1 r2 q2) fun c s3 ⟨z,H3,I3,r3,k,e,q3⟩=>?_) hm
 subst e
 cases r3
 exact wpAny_truthy_bool ⟨H3,I3,q3⟩
noncomputable def rB (r r':R2) (ta tb tc:TE):TE:=fun σ H Q=>ta σ H fun x H1=>tb σ H1 fun y H2=>r x y H2 fun z H3=>∃ k,z=.bl k∧
 (if k=true then tc σ H3 fun w' H4=>r' y w' H4 Q else Q (.bl false) H3)
theorem qb {op op':CmpOp} {r r':R2} (ho:OpR X (compareOp op) r) (ho':OpR X (compareOp op') r') (ha:PE X a ta) (hb:PE X b tb) (hc:PE X c tc)
  (hm:lastMarks [op,op'] [b,c]=false:=by with_unfolding_all rfl):PT X (.Compare a [op,op'] [b,c] pos) (wp (rB r r' ta tb tc)):=by
 intro pins s σ H Q I h
 refine isTrue_chain (thn (ha pins s σ H _ I h) fun v s1 ⟨x,H1,I1,r1,q1⟩=>test_link (thn (hb pins s1 σ H1 _ I1 q1) fun u s2 ⟨y,H2,I2,r2,q2⟩=>
  thn (ho pins s2 σ H2 x y v u _ I2 r1 r2 q2) fun d s3 ⟨z,H3,I3,r3,k,e,q3⟩=>?_)) hm
 subst e
 cases r3
 refine wpAny_truthy_bool ?_
 cases k with
 | false=>
  obtain ⟨k',e',q'⟩:=q3
  cases e'
  exact ite_ff ⟨H3,I3,q'⟩
 | true=>
  refine ite_tt (test_last (thn (hc pins s3 σ H3 _ I3 q3) fun w' s4 ⟨z',H4,I4,r4,q4⟩=>thn (ho' pins s4 σ H4 y z' u w' _ I4 r2 r4 q4) fun d' s5 hqq=>?_))
  obtain ⟨z2,H5,I5,r5,k2,e2,q5⟩:=hqq
  subst e2
  cases r5
  exact wpAny_truthy_bool ⟨H5,I5,q5⟩
theorem i5:(sizeLine:Nat) < 2 ^ 63:=by rw [sizeLine_eq];decide
theorem mX:OpR X (binaryOp .Add) (fun x y H Q=>∃ i j,x=.str i∧y=.str j∧i.length + j.length≤sizeLine∧Q (.str (i++j)) H):=by
 intro pins s σ H x y v u Q I rx ry h
 obtain ⟨i,j,rfl,rfl,hz,q⟩:=h
 obtain ⟨t,rfl⟩:=rx
 obtain ⟨t',rfl⟩:=ry
 exact add_str (fun t' tk=>⟨.str (i++j),H,I.tok _,⟨_,rfl⟩,q⟩) hz
theorem gS {x:V} {us:List Value} (r:Vals [x] us):∃ u,us=[u]∧RelV x u:=by
 cases r with
 | cons r1 r2=>cases r2;exact ⟨_,rfl,r1⟩
theorem sU {x y:V} {us:List Value} (r:Vals [x,y] us):∃ u w',us=[u,w']∧RelV x u∧RelV y w':=by
 cases r with
 | cons r1 r2=>
  cases r2 with
  | cons r3 r4=>cases r4;exact ⟨_,_,rfl,r1,r3⟩
end
section
variable {prog:Program} {w:World} {A:Around} {E:Value→Shared→Prop} {s:Shared} {K:W.Frag} {x dx C f:Addr} {mA:Str→Option Value} {name:Str} {v:Value}
end
theorem RelO.some_of {v:V} {o:Option Value} (r:RelO (some v) o):∃ u,o=some u∧RelV v u:=by
 cases o with
 | none=>exact (show False from r).elim
 | some u=>exact ⟨u,rfl,r⟩
theorem RelO.none_of {o:Option Value} (r:RelO none o):o=none:=by
 cases o with
 | none=>rfl
 | some u=>exact (show False from r).elim
section
variable {P:Program} {w:World} {H H':Hp} {h h':Heap} {a C dx:Addr} {fs fs':List (Str×V)}
end
section
variable {X:Cx} {pins:List (Addr×Obj)} {σ:St} {H:Hp} {s:Shared} {a C dx:Addr} {fs:List (Str×V)} {f:Str} {v:V} {A:Around} {E:Value→Shared→Prop}
end
section
variable {X:Cx} {o e value:Expr} {f:Str} {pos pos' tpos:Pos} {ta tv:TE}
end
section
variable {X:Cx} {pins:List (Addr×Obj)} {σ:St} {H:Hp} {s:Shared} {A:Around} {E:Value→Shared→Prop} {Q:Value→Shared→Prop} {c:Value} {b:Bool}
end
structure Room (k:Nat) (A:Around):Prop where
 hd:A.handled=none
 dp:A.depth + 3 * k + 5 < recursionLimit
 un:A.units + 16 * k + 200 < cLine
theorem Room.mono {j k:Nat} {A:Around} (r:Room k A) (h:j≤k):Room j A:=⟨r.hd,by have:=r.dp;lia,by have:=r.un;lia⟩
theorem Room.deeper {k:Nat} {A:Around} (r:Room (k + 1) A) (env:Env):Room k (A.deeper env):=
 ⟨r.hd,by have:=r.dp;show A.depth + 1 + 3 * k + 5 < _;lia,by have:=r.un;show A.units + 3 + 16 * k + 200 < _;lia⟩
theorem Room.depth {k:Nat} {A:Around} (r:Room k A):A.depth < recursionLimit:=by have:=r.dp;lia
theorem Room.units {k:Nat} {A:Around} (r:Room k A):A.units + 64 < cLine:=by have:=r.un;lia
theorem Room.units0 {k:Nat} {A:Around} (r:Room k A):A.units < cLine:=by have:=r.un;lia
noncomputable def As:TA:=fun _ H Q=>Q [] H
noncomputable def yN (ta:TE) (tr:TA):TA:=fun σ H Q=>ta σ H fun x H1=>tr σ H1 fun xs H2=>Q (x :: xs) H2
section
variable {X:Cx} {e:Expr} {es:List Expr} {te:TE} {t:TA} {pos:Pos}
theorem lP:PA X [] As:=fun _ _ _ _ H Q I h=>Calls.spliced_nil ⟨[],H,I,.nil,h⟩
theorem fB (ha:PE X e te) (hr:PA X es t) (hs:starEach (e :: es) X.env=(false,eval e X.env) :: starEach es X.env:=by rfl):PA X (e :: es) (yN te t):=by
 intro pos pins s σ H Q I h
 rw [hs]
 show wpAny _ _ (spliced ((false,eval e X.env) :: backTo pos (starEach es X.env))) _ _ s
 refine Calls.spliced_cons (thn (ha pins s σ H _ I h) fun u s1 hqq=>?_)
 obtain ⟨x,H1,I1,r1,q1⟩:=hqq
 exact thn (hr pos pins s1 σ H1 _ I1 q1) fun us s2 ⟨xs,H2,I2,r2,q2⟩=>⟨x :: xs,H2,I2,.cons r1 r2,q2⟩
noncomputable def At (t:TA):TE:=fun σ H Q=>t σ H fun xs H1=>xs.length≤sizeLine∧∀ p,H1 p=none→Q (.ref p) (upd H1 p (.tup xs))
noncomputable def Au (t:TA):TE:=fun σ H Q=>t σ H fun xs H1=>xs.length≤sizeLine∧∀ p,H1 p=none→Q (.ref p) (upd H1 p (.lst xs))
theorem rD {x1} (h:PA X es t):PE X (.Tuple es x1 pos) (At t):=by
 intro pins s σ H Q I hq
 refine wpAny_Tuple_spliced (thn (h pos pins s σ H _ I hq) fun us s1 ⟨xs,H1,I1,r,z,q⟩=>⟨by rw [←r.length];exact z,?_⟩)
 have hf:H1 s1.heap.objs.size=none:=I1.hok.fresh (Nat.le_refl _)
 refine ⟨.ref s1.heap.objs.size,upd H1 s1.heap.objs.size (.tup xs),I1.laid (t':=s1.toks) (fun b u e=>Heap.get?_push_of_some _ e) (Nat.le_refl _) ?_,rfl,q _ hf⟩
 exact ⟨z,us,r,⟨_,Heap.get?_push_size _ rfl,rfl,⟨_,rfl⟩,rfl⟩⟩
theorem wq (h:PA X es t):PE X (.List es pos) (Au t):=by
 intro pins s σ H Q I hq
 refine wpAny_List_spliced (thn (h pos pins s σ H _ I hq) fun us s1 ⟨xs,H1,I1,r,z,q⟩=>⟨by rw [←r.length];exact z,?_⟩)
 have hf:H1 s1.heap.objs.size=none:=I1.hok.fresh (Nat.le_refl _)
 refine ⟨.ref s1.heap.objs.size,upd H1 s1.heap.objs.size (.lst xs),I1.laid (t':=s1.toks) (fun b u e=>Heap.get?_push_of_some _ e) (Nat.le_refl _) ?_,rfl,q _ hf⟩
 exact ⟨z,us,0,r,Heap.get?_push_size _ rfl⟩
end
abbrev Sp:=List V→Hp→VK→XK→Prop
abbrev CXT:=List Env→Hp→Shared→XK→Value→Shared→Prop
structure Env0 (P:Program) (w:World) (K:W.Frag) (mg:Str→Option Value) (base:Heap) (A:Around) (outer:List Env) (s:Shared) (H:Hp):Prop where
 frames:A.frames=some outer
 mod:Mod K mg base
 bs:∀ b o,base.get? b=some o→s.heap.get? b=some o∧H b=none
 bsz:base.objs.size≤s.heap.objs.size
 funs:s.heap.FunFrames base outer
 frf:∀ b∈frs outer,H b=none
 hok:HOk P w H s.heap
 bare:AllBare s.gens
def CE (outer:List Env) (P:Program) (w:World) (H:Hp) (s:Shared) (Q:VK) (u:Value) (s':Shared):Prop:=
 ∃ v H',s'.os=s.os∧AllBare s'.gens∧Un (frs outer) [] H H' s.heap s'.heap∧HOk P w H' s'.heap∧RelV v u∧Q v H'
def CR (CX:CXT) (outer:List Env) (P:Program) (w:World) (H:Hp) (s:Shared) (Q:VK) (E:XK) (r:Result) (s':Shared):Prop:=
 match r with
 | .ok (.ret u)=>CE outer P w H s Q u s'
 | .ok _=>False
 | .error e=>CX outer H s E e s'
structure FnOk (P:Program) (w:World) (K:W.Frag) (mg:Str→Option Value) (base:Heap) (CX:CXT) (k:Nat) (f:Addr) (fd:FuncData) (ps:List Str) (sp:Sp):Prop where
 len:∀ vs H Q E,sp vs H Q E→vs.length=ps.length
 run:∀ (A:Around) (outer:List Env) (s:Shared) (H:Hp) (args:Args) (us:List Value) (vs:List V) (Q:VK) (E:XK),Room k A→Env0 P w K mg base A outer s H→BindsTo s fd args (ps.zip us)→Vals vs us→sp vs H Q E→
  codeAny (model P w) A (.call (.ref f) args) (CR CX outer P w H s Q E) s
theorem FnOk.imp {P:Program} {w:World} {K:W.Frag} {mg:Str→Option Value} {base:Heap} {CX:CXT} {k:Nat} {f:Addr} {fd:FuncData} {ps:List Str} {sp sp':Sp} (F:FnOk P w K mg base CX k f fd ps sp)
  (h:∀ vs H Q E,sp' vs H Q E→sp vs H Q E):FnOk P w K mg base CX k f fd ps sp':=
 ⟨fun vs H Q E q=>F.len vs H Q E (h _ _ _ _ q),fun A outer s H args us vs Q E hr he hb hv hs=>F.run A outer s H args us vs Q E hr he hb hv (h _ _ _ _ hs)⟩
section
variable {X:Cx} {pins:List (Addr×Obj)} {σ:St} {H:Hp} {s s':Shared}
theorem Inv.env0 (I:Inv X pins σ H s):Env0 X.prog X.w X.K X.mg X.base X.A X.stack s H:=
 ⟨I.ok.frames,I.ok.mod,I.bs,Nat.le_trans I.ok.bsz I.sz,I.stack,I.stkFree,I.hok,I.bare⟩
theorem Inv.after {Q:VK} {u:Value} (I:Inv X pins σ H s) (h:CE X.stack X.prog X.w H s Q u s'):EP X pins σ Q u s':=by
 obtain ⟨v,H',os,bare,un,hok,r,q⟩:=h
 obtain ⟨hh,g,d,t,os'⟩:=s'
 obtain rfl:os'=s.os:=os
 exact ⟨v,H',I.call (h':=hh) (g':=g) (d':=d) (t':=t) (ch:=[]) un hok bare (fun b z=>absurd z (by simp)),r,q⟩
end
noncomputable def tCall (sp:Sp) (dvs:List V) (E:XK) (t:TA):TE:=fun σ H Q=>t σ H fun vs H1=>sp (vs++dvs) H1 Q E
def Binds (K:W.Frag) (fd:FuncData) (ps:List Str) (ds:List Value):Prop:=
 ∀ (s:Shared) (us:List Value),K.In s.heap→(us++ds).length=ps.length→BindsTo s fd ⟨us,[]⟩ (ps.zip (us++ds))
theorem Binds.all {K:W.Frag} {fd:FuncData} {ps:List Str} (h:∀ us:List Value,us.length=ps.length→bindArgs fd ⟨us,[]⟩=pure (ps.zip us)):Binds K fd ps []:=fun s us _ hl=>by
 rw [List.append_nil] at hl ⊢
 exact .of_eq (h us hl)
def nX (CX:CXT) (X:Cx) (E:XK):Prop:=∀ (pins:List (Addr×Obj)) (σ:St) (H:Hp) (s:Shared) (e:Value) (s':Shared),Inv X pins σ H s→CX X.stack H s E e s'→X.xe e s'
section
variable {X:Cx} {CX:CXT} {k:Nat} {f C:Addr} {fd:FuncData} {ps:List Str} {sp:Sp} {dvs:List V} {ds:List Value} {E:XK} {x m:Str} {p pos apos:Pos} {e o:Expr} {es:List Expr} {ta:TE} {t:TA}
theorem wt {pins:List (Addr×Obj)} {σ:St} {H:Hp} {s:Shared} {Q:VK} {us:List Value} {vs:List V} (F:FnOk X.prog X.w X.K X.mg X.base CX k f fd ps sp) (hr:Room k X.A) (hb:Binds X.K fd ps ds) (hd:Vals dvs ds) (hx:nX CX X E)
  (I:Inv X pins σ H s) (r:Vals vs us) (h:sp (vs++dvs) H Q E):wpAny (model X.prog X.w) X.A (call (.ref f) us) (EP X pins σ Q) X.xe s:=by
 have r2:Vals (vs++dvs) (us++ds):=r.append hd
 have hl:(us++ds).length=ps.length:=by rw [←r2.length];exact F.len _ _ _ _ h
 refine wpAny_call (codeAny_mono (F.run X.A X.stack s H ⟨us,[]⟩ (us++ds) (vs++dvs) Q E hr I.env0 (hb s us I.kIn hl) r2 h) fun r s' hq=>?_)
 cases r with
 | error e=>exact hx pins σ H s e s' I hq
 | ok fl=>
  cases fl with
  | ret u=>exact I.after hq
  | next=>exact False.elim hq
  | brk=>exact False.elim hq
  | cont=>exact False.elim hq
theorem sV (F:FnOk X.prog X.w X.K X.mg X.base CX k f fd ps sp) (hr:Room k X.A) (hg:Gl X x) (hm:X.mg x=some (.ref f)) (hk:PySem.W.keepIn X.K (.ref f)=true) (hb:Binds X.K fd ps ds) (hd:Vals dvs ds) (hx:nX CX X E)
  (ha:PA X (e :: es) t) (hdb:(x == ("__debug__" : Str))=false:=by decide) (he:starEach (e :: es) X.env=(false,eval e X.env) :: starEach es X.env:=by rfl) (hpl:(backTo pos (starEach es X.env)).any (·.1)=false:=by rfl) :
  PE X (.Call (.Name x p) (e :: es) [] pos) (tCall sp dvs E t):=by
 intro pins s σ H Q I h
 refine wpAny_Call_Name_kw (h8 I hg hm ?_ hdb)
 refine PySem.W.callWith_K (h₀:=X.base) I.ok.mod.kin hk (thn (ha pos pins s σ H _ I h) fun us s1 ⟨vs,H1,I1,r,q⟩=>⟨I1.kIn,?_⟩) he hpl
 exact wt F hr hb hd hx I1 r q
end
section
variable {X:Cx} {CX:CXT} {k:Nat} {f C:Addr} {fd:FuncData} {ps ks:List Str} {sp:Sp} {E:XK} {x m:Str} {p pos apos kpos:Pos} {e o:Expr} {es:List Expr} {kws:List Keyword} {te ta:TE} {t tk:TA} {nm:Option Str}
variable {g:List Value→List Value→List Value} {gV:List V→List V→List V}
end
structure FnScope (N P:List Str) (sc:Scope):Prop where
 kind:sc.kind=.function
 co:sc.isCoroutine=false
 gen:sc.isGenerator=false
 nd:N.Nodup
 pre:N.take P.length=P
 par:∀ x∈P,sc.names.lookup x=some .local∨sc.names.lookup x=some .cell
 nofree:∀ y∈sc.names,y.2≠.free
theorem j6 {kindOf:Str→Option NameKind} {x:Str}:∀ {binds:List (Str×Value)} {m:Str→Option Value},(∀ v,(x,v)∉binds)→bindL kindOf binds m x=m x
 | [],_,_=>rfl
 | (n,v) :: r,m,h=>by
  unfold bindL
  rw [j6 fun w hw=>h w (List.mem_cons_of_mem _ hw)]
  split
  ·have:x≠n:=by rintro rfl;exact h v List.mem_cons_self
   simp [this]
  ·rfl
theorem j7 {kindOf:Str→Option NameKind} {x:Str}:∀ {binds:List (Str×Value)} {m:Str→Option Value},(∀ v,(x,v)∉binds)→bindC kindOf binds m x=m x
 | [],_,_=>rfl
 | (n,v) :: r,m,h=>by
  unfold bindC
  rw [j7 fun w hw=>h w (List.mem_cons_of_mem _ hw)]
  split
  ·rfl
  ·have:x≠n:=by rintro rfl;exact h v List.mem_cons_self
   simp [this]
theorem j8 {kindOf:Str→Option NameKind} {x:Str} {v:Value}:∀ {P:List Str} {vs:List Value} {i:Nat} {m:Str→Option Value},P.Nodup→P[i]?=some x→vs[i]?=some v→kindOf x=some .local→
  bindL kindOf (P.zip vs) m x=some v
 | [],_,_,_,_,h,_,_=>by simp at h
 | _ :: _,[],_,_,_,_,h,_=>by simp at h
 | p :: P,w :: vs,0,m,nd,h1,h2,hk=>by
  simp at h1 h2;subst h1;subst h2
  show bindL kindOf ((p,w) :: P.zip vs) m p=_
  unfold bindL
  rw [j6 fun v hv=>(List.nodup_cons.mp nd).1 (List.of_mem_zip hv).1,if_pos hk]
  simp
 | p :: P,w :: vs,i + 1,m,nd,h1,h2,hk=>by
  show bindL kindOf ((p,w) :: P.zip vs) m x=_
  unfold bindL
  exact j8 (i:=i) (List.nodup_cons.mp nd).2 (by simpa using h1) (by simpa using h2) hk
theorem j9 {kindOf:Str→Option NameKind} {x:Str} {v:Value}:∀ {P:List Str} {vs:List Value} {i:Nat} {m:Str→Option Value},P.Nodup→P[i]?=some x→vs[i]?=some v→kindOf x≠some .local→
  bindC kindOf (P.zip vs) m x=some v
 | [],_,_,_,_,h,_,_=>by simp at h
 | _ :: _,[],_,_,_,_,h,_=>by simp at h
 | p :: P,w :: vs,0,m,nd,h1,h2,hk=>by
  simp at h1 h2;subst h1;subst h2
  show bindC kindOf ((p,w) :: P.zip vs) m p=_
  unfold bindC
  rw [j7 fun v hv=>(List.nodup_cons.mp nd).1 (List.of_mem_zip hv).1,if_neg hk]
  simp
 | p :: P,w :: vs,i + 1,m,nd,h1,h2,hk=>by
  show bindC kindOf ((p,w) :: P.zip vs) m x=_
  unfold bindC
  exact j9 (i:=i) (List.nodup_cons.mp nd).2 (by simpa using h1) (by simpa using h2) hk
noncomputable def gT (N:List Str) (vs:List V):St:=vs.map some++List.replicate (N.length - vs.length) none
noncomputable def nY (CX:CXT) (P:Program) (w:World) (K:W.Frag) (mg:Str→Option Value) (base:Heap) (N:List Str) (qual:Str) (scope:Scope) (f:Addr) (cd:Value) (A:Around) (outer:List Env) (s:Shared) (H:Hp) (E:XK):Cx where
 prog:=P
 w:=w
 K:=K
 mg:=mg
 base:=base
 A:=A.deeper (envOfC qual scope s.heap.objs.size f cd)
 N:=N
 s₀:=s
 H₀:=H
 env:=envOfC qual scope s.heap.objs.size f cd
 outer:=outer
 stack:=envOfC qual scope s.heap.objs.size f cd :: outer
 ex:=[]
 calm:=true
 fn:=fun _=>true
 pn:=[]
 xe:=fun e s'=>wpAny (model P w) (A.deeper (envOfC qual scope s.heap.objs.size f cd)) (leaving (envOfC qual scope s.heap.objs.size f cd) e) (fun _ s''=>CX outer H s E e s'') (fun e' s''=>CX outer H s E e' s'') s'
theorem lQ {sc:Scope} {n:Nat} {x:Str} (h:sc.names.lookup x=some .cell):∃ c,(cellsFrom n sc.names []).lookup x=some c:=by
 have q:=PySem.W.cellsFrom_some sc.names n [] (.inl h)
 exact Option.isSome_iff_exists.mp q
theorem og {CX:CXT} {P:Program} {w:World} {K:W.Frag} {mg:Str→Option Value} {base:Heap} {N ps:List Str} {qual:Str} {scope:Scope} {f:Addr} {cd:Value} {A:Around} {outer:List Env} {s s1:Shared} {H:Hp} {E:XK} {us:List Value} {vs:List V}
  (S:FnScope N ps scope) (hd:A.handled=none) (e0:Env0 P w K mg base A outer s H) (hl:vs.length=ps.length) (r:Vals vs us)
  (x:InCallC s s.heap.objs.size (bindL (envOfC qual scope s.heap.objs.size f cd).kindOf (ps.zip us) fun _=>none) (cellsFrom (s.heap.objs.size + 1) scope.names []) (bindC (envOfC qual scope s.heap.objs.size f cd).kindOf (ps.zip us) fun _=>none) s1) :
  Inv (nY CX P w K mg base N qual scope f cd A outer s H E) [] (gT N vs) H s1:=by
 have hpl:ps.length≤N.length:=by have:=congrArg List.length S.pre;rw [List.length_take] at this;lia
 obtain ⟨h1,tk,rfl,hk⟩:=x.done
 have noA:∀ b:Addr,b∉(nY CX P w K mg base N qual scope f cd A outer s H E).ex:=fun b z=>absurd (show b∈([]:List Addr) from z) (by simp)
 refine ⟨⟨e0.mod,S.kind,rfl,rfl,Nat.le_refl _,fun y z c h1 h2=>?_,fun y hy=>?_,fun y c _ h=>?_,fun _=>hd,Around.frames_deeper e0.frames,.inr ⟨rfl,rfl⟩,fun b z=>absurd z (noA b),e0.bs,e0.bsz,fun b _ _=>noA b,fun b z=>absurd z (noA b),e0.funs,e0.frf⟩,
  rfl,e0.bare,Un.kept hk,⟨_,x.toInCall.ns,fun i y v h1 h2 h3=>?_⟩,fun y c h=>⟨_,x.cell y c h⟩,e0.hok.fresh (Nat.le_refl _),fun y c h=>?_,fun p hp=>absurd (show p∈([]:List (Addr×Obj)) from hp) (by simp),e0.hok.kept hk,?_⟩
 ·exact name_of_addr x.apart (PySem.mem_of_lookup h1) (PySem.mem_of_lookup h2)
 ·have hy:scope.names.lookup y=some .cell∨scope.names.lookup y=some .free:=hy
  rcases hy with hy | hy
  ·exact lQ hy
  ·exact absurd rfl (S.nofree _ (PySem.mem_of_lookup hy))
 ·exact Nat.le_of_lt (x.above y c (PySem.mem_of_lookup h))
 ·have hi:i < vs.length:=by
   unfold gT at h2
   by_cases hi:i < vs.length
   ·exact hi
   ·rw [List.getElem?_append_right (by simpa using hi)] at h2
    rw [List.getElem?_replicate] at h2
    split at h2 <;> cases h2
  have ha:vs[i]?=some v:=by
   unfold gT at h2
   rw [List.getElem?_append_left (by simpa using hi),List.getElem?_map] at h2
   cases e:vs[i]? with
   | none=>rw [e] at h2;cases h2
   | some a=>rw [e] at h2;cases h2;rfl
  obtain ⟨u,hu,rv⟩:=r.get ha
  have hp:ps[i]?=some y:=by
   rw [←S.pre,List.getElem?_take_of_lt (by lia)];exact h1
  have ndP:ps.Nodup:=by rw [←S.pre];exact S.nd.sublist (List.take_sublist _ _)
  refine ⟨u,rv,?_⟩
  rcases S.par y (List.mem_of_getElem? hp) with k | k
  ·exact .inl ⟨k,j8 ndP hp hu k⟩
  ·obtain ⟨c,e⟩:=lQ (n:=s.heap.objs.size + 1) k
   refine .inr ⟨.inl k,c,e,?_⟩
   have q:=x.cell y c e
   rw [j9 ndP hp hu (by show scope.names.lookup y≠_;rw [k];decide)] at q
   exact q
 ·exact e0.hok.fresh (Nat.le_of_lt (x.above y c (PySem.mem_of_lookup h)))
 ·unfold gT
  show _=N.length
  rw [List.length_append,List.length_map,List.length_replicate]
  lia
theorem wu {CX:CXT} {P:Program} {w:World} {K:W.Frag} {mg:Str→Option Value} {base:Heap} {k:Nat} {f:Addr} {name qual:Str} {params:Arguments} {body:List Stmt} {scope:Scope} {dV kV doc pm cdv ct oc:Value} {an od:Option Addr}
  {osl:Array (Option Value)} {N ps:List Str} {sp:Sp} (lk:K.lookup f=some ⟨oc,od,.func (PySem.W.fnOf name qual params body scope dV kV doc pm an cdv ct),osl⟩) (hcd:PySem.W.codeIn K cdv qual=true) (S:FnScope N ps scope)
  (len:∀ vs H Q E,sp vs H Q E→vs.length=ps.length)
  (hbody:∀ (A:Around) (outer:List Env) (s:Shared) (H:Hp) (vs:List V) (Q:VK) (E:XK),Room k (A.deeper (envOfC qual scope s.heap.objs.size f cdv))→sp vs H Q E→
   ∃ t,PSs (nY CX P w K mg base N qual scope f cdv A outer s H E) body t∧t { nx:=fun _ H'=>Q .non H',rt:=Q } (gT N vs) H) :
  FnOk P w K mg base CX (k + 1) f (PySem.W.fnOf name qual params body scope dV kV doc pm an cdv ct) ps sp:=by
 refine ⟨len,fun A outer s H args us vs Q E hr e0 hb r hsp=>?_⟩
 have hl:=len _ _ _ _ hsp
 have KX:K.In s.heap:=e0.mod.kin.keeps fun b o e=>(e0.bs b o e).1
 have lim:s.heap.NoLimit:=e0.mod.nolimit.keeps fun b o e=>(e0.bs b o e).1
 have hkind:∀ y∈ps.zip us,scope.names.lookup y.1=some .local∨(scope.names.lookup y.1=some .cell∧((cellsFrom (s.heap.objs.size + 1) scope.names []).lookup y.1).isSome=true):=fun hq0 hy=>by
  obtain ⟨n,v⟩:=hq0
  rcases S.par n (List.of_mem_zip hy).1 with q | q
  ·exact .inl q
  ·exact .inr ⟨q,PySem.W.cellsFrom_some _ _ _ (.inl q)⟩
 refine codeAny_call_function hr.depth (KX _ _ lk) rfl S.co S.gen rfl (PySem.W.codeRec_of KX hcd) (hb _ _ _ _ ?_)
 refine wpAny_newFunctionEnv_cells S.kind hkind fun env he s1 x=>?_
 subst he
 refine ⟨lim.keeps x.toInCall.keep,codeAny_func ?_⟩
 obtain ⟨t,ht,hq⟩:=hbody A outer s H vs Q E (hr.deeper _) hsp
 have I:Inv (nY CX P w K mg base N qual scope f cdv A outer s H E) [] (gT N vs) H s1:=og S hr.hd e0 hl r x
 refine wpAny_mono (ht [] s1 (gT N vs) H _ I hq) (fun fl s' hs=>?_) fun e s' hs=>hs
 have fin:∀ {σ':St} {H':Hp} {v:V} {u:Value},Inv (nY CX P w K mg base N qual scope f cdv A outer s H E) [] σ' H' s'→RelV v u→Q v H'→CE outer P w H s Q u s':=
  fun {σ' H' v u} J rv q=>⟨v,H',J.os,J.bare,J.base,J.hok,rv,q⟩
 cases fl with
 | ret u=>
  obtain ⟨v,σ',H',J,rv,q⟩:=hs
  exact fin J rv q
 | next=>
  obtain ⟨σ',H',J,q⟩:=hs
  exact fin (v:=V.non) (u:=Value.none) J rfl q
 | brk=>
  obtain ⟨_,_,_,q⟩:=hs
  exact False.elim q
 | cont=>
  obtain ⟨_,_,_,q⟩:=hs
  exact False.elim q
section
variable {X:Cx} {x:Str} {p pos:Pos} {e:Expr} {es:List Expr} {t:TA} {id T:String} {r:List V→Hp→VK→Prop}
noncomputable def tCB (r:List V→Hp→VK→Prop) (t:TA):TE:=fun σ H Q=>t σ H fun vs H1=>r vs H1 Q
theorem lR (hc:cZ X (.builtin id) r) (hg:Gl X x) (hm:X.mg x=none) (hv:bootBuiltins x=some (.builtin id)) (ha:PA X (e :: es) t) (hn:x≠"__name__":=by decide) (hdb:(x == ("__debug__" : Str))=false:=by decide)
  (he:starEach (e :: es) X.env=(false,eval e X.env) :: starEach es X.env:=by rfl) (hpl:(backTo pos (starEach es X.env)).any (·.1)=false:=by rfl):PE X (.Call (.Name x p) (e :: es) [] pos) (tCB r t):=by
 intro pins s σ H Q I h
 refine wpAny_Call_Name_kw (j3 I hg hm hv ?_ hn hdb)
 exact PyProof.Rows.callWith_builtin1 (thn (ha pos pins s σ H _ I h) fun us s1 ⟨vs,H1,I1,r1,q1⟩=>hc pins s1 σ H1 vs us Q I1 r1 q1) he hpl
theorem oh (hc:cZ X (.type T) r) (hg:Gl X x) (hm:X.mg x=none) (hv:bootBuiltins x=some (.type T)) (ha:PA X (e :: es) t) (hn:x≠"__name__":=by decide) (hdb:(x == ("__debug__" : Str))=false:=by decide)
  (he:starEach (e :: es) X.env=(false,eval e X.env) :: starEach es X.env:=by rfl) (hpl:(backTo pos (starEach es X.env)).any (·.1)=false:=by rfl):PE X (.Call (.Name x p) (e :: es) [] pos) (tCB r t):=by
 intro pins s σ H Q I h
 refine wpAny_Call_Name_kw (j3 I hg hm hv ?_ hn hdb)
 exact PyProof.Rows.callWith_type1 (thn (ha pos pins s σ H _ I h) fun us s1 ⟨vs,H1,I1,r1,q1⟩=>hc pins s1 σ H1 vs us Q I1 r1 q1) he hpl
end
end L2
namespace HT
open PySem PyProof.Rows
section
open PySem.SeqAt
open PySem.AutoSeq1 (wpAny_loadPart')
open PySem.MeetsSeq PySem.MeetsSeq2 PySem.MeetsSeq3
end
section
variable {prog:Program} {w:World} {A:Around} {E:Value→Shared→Prop} {s:Shared}
theorem sW {t b:Addr} {vs ws:List Value} {Q:Value→Shared→Prop} (ht:IsTup s.heap t vs.toArray) (hb:IsTup s.heap b ws.toArray) (hv:vs≠[])
  (h1:ws=[]→Q (.ref t) s) (h2:ws≠[]→Q (.ref s.heap.objs.size) { s with heap:=s.heap.push { cls:=.type "tuple",data:=.seq (vs++ws).toArray } })
  (hsz:vs.length + ws.length≤sizeLine):wpAny (model prog w) A (binaryOp .Add (.ref t) (.ref b)) Q E s:=by
 obtain ⟨⟨cls,dd,data,sl⟩,ho,hc,n,hd⟩:=id ht
 obtain ⟨⟨cls2,dd2,data2,sl2⟩,ho2,hc2,n2,hd2⟩:=id hb
 simp only at hc hd hc2 hd2
 subst hc hd hc2 hd2
 have e:vs.toArray++ws.toArray=(vs++ws).toArray:=by simp
 by_cases hw:ws=[]
 ·exact concat_meets ⟨_,ho,rfl⟩ ⟨_,ho2,rfl⟩ noFill_tuple_add seq_tuple_add PySem.F.slot_tuple_add PySem.F.entry_tuple_add (PySem.F.args_tuple_add_2 _ _)
   (tuple_addW1 t b vs.toArray ws.toArray n n2 dd dd2 sl sl2 (by simpa using hv) (by simp [hw])) ⟨ho,ho2,h1 hw⟩
 ·refine concat_meets ⟨_,ho,rfl⟩ ⟨_,ho2,rfl⟩ noFill_tuple_add seq_tuple_add PySem.F.slot_tuple_add PySem.F.entry_tuple_add (PySem.F.args_tuple_add_2 _ _)
   (tuple_addW2 t b vs.toArray ws.toArray n n2 dd dd2 sl sl2 (by simpa using hv) (by simpa using hw) (by rw [List.size_toArray,List.size_toArray];exact hsz)) ⟨ho,ho2,?_⟩
  rw [e]
  exact h2 hw
noncomputable def sIx (n d:Nat):Option Int→Nat
 | none=>d
 | some v=>if v < 0 then (v + (n:Int)).toNat else min v.toNat n
theorem lS (n d:Nat):sIx n d none=d:=rfl
theorem jm (n d k:Nat):sIx n d (some (k:Int))=min k n:=by
 show (if (k:Int) < 0 then ((k:Int) + (n:Int)).toNat else min (k:Int).toNat n)=min k n
 rw [if_neg (by lia),Int.toNat_natCast]
theorem oi (n d:Nat) (hd:d≤n) (o:Option Int):sIx n d o≤n:=by
 cases o with
 | none=>exact hd
 | some v=>
  show (if v < 0 then (v + (n:Int)).toNat else min v.toNat n)≤n
  by_cases hv:v < 0
  ·rw [if_pos hv];lia
  ·rw [if_neg hv];exact Nat.min_le_right _ _
theorem oj (v:Int) (n d:Nat):(if v < 0 then max (v + (n:Int)) 0 else min v (n:Int))=((sIx n d (some v):Nat):Int):=by
 show (if v < 0 then max (v + (n:Int)) 0 else min v (n:Int))=(((if v < 0 then (v + (n:Int)).toNat else min v.toNat n):Nat):Int)
 by_cases hv:v < 0
 ·simp only [if_pos hv];lia
 ·simp only [if_neg hv];lia
theorem mY (lo hi:Option Int) (n:Nat):Builtin.Slice.sliceAdjust lo hi 1 (n:Int)=(((sIx n 0 lo:Nat):Int),((sIx n n hi:Nat):Int)):=by
 have h1:¬ ((1:Int) < 0):=by lia
 unfold Builtin.Slice.sliceAdjust
 simp only [h1,if_false]
 refine Prod.ext ?_ ?_
 ·cases lo with
  | none=>rfl
  | some v=>exact oj v n 0
 ·cases hi with
  | none=>rfl
  | some v=>exact oj v n n
theorem mZ (i j:Nat):Builtin.Slice.slicePlaces (i:Int) (j:Int) 1=j - i:=by
 unfold Builtin.Slice.slicePlaces
 have h1:(1:Int) > 0:=by lia
 simp only [h1,if_true,Int.ediv_one]
 split <;> lia
theorem i6 {v:Value} {o:Option Int} {Q:Option Int→Shared→Prop} (p:IsPart v o) (h:Q o s):wpAny (model prog w) A (Builtin.Slice.slicePartIndex v) Q E s:=by
 cases p with
 | none=>exact slicePart_none h
 | int i t=>exact slicePart_int h
theorem dH {sl:Addr} {vl vu:Value} {lo hi:Option Int} {n:Nat} {Q:Int×Int×Nat→Shared→Prop} (hs:s.heap.IsSliceOf sl vl vu .none) (pl:IsPart vl lo) (pu:IsPart vu hi)
  (h:Q (((sIx n 0 lo:Nat):Int),1,sIx n n hi - sIx n 0 lo) s):wpAny (model prog w) A (Builtin.Slice.sliceApplied (.ref sl) (pure (n:Int))) Q E s:=by
 obtain ⟨os,hos,hcs,hds⟩:=id hs
 unfold Builtin.Slice.sliceApplied Builtin.Slice.sliceFields
 refine wpAny_bind (wpAny_bind (wpAny_field hos hds (x:=vl) rfl (wpAny_bind (wpAny_field hos hds (x:=vu) rfl (wpAny_bind (wpAny_field hos hds (x:=.none) rfl (wpAny_pure ?_)))))))
 refine wpAny_bind (slicePart_none ?_)
 show wpAny _ _ (if ((1:Int) == 0)=true then _ else _) _ _ s
 rw [if_neg (by decide)]
 refine wpAny_bind (i6 pl (wpAny_bind (i6 pu (wpAny_bind (wpAny_pure ?_)))))
 show wpAny _ _ (match Builtin.Slice.sliceAdjust lo hi 1 (n:Int) with | (lo,hi)=>pure (lo,(1:Int),Builtin.Slice.slicePlaces lo hi 1)) _ _ s
 rw [mY lo hi n]
 show wpAny _ _ (pure (((sIx n 0 lo:Nat):Int),(1:Int),Builtin.Slice.slicePlaces ((sIx n 0 lo:Nat):Int) ((sIx n n hi:Nat):Int) 1)) _ _ s
 rw [mZ]
 exact wpAny_pure h
theorem qc (xs:Array Value) (i k:Nat):((List.range k).filterMap fun (m:Nat)=>xs[((i:Int) + (m:Int) * 1).toNat]?).toArray=((xs.toList.drop i).take k).toArray:=by
 have e:(fun (m:Nat)=>xs[((i:Int) + (m:Int) * 1).toNat]?)=fun m=>xs[i + m]?:=by
  funext m
  have:((i:Int) + (m:Int) * 1).toNat=i + m:=by lia
  rw [this]
 rw [e]
 have:=pick_run xs i k
 rw [List.filterMap_map] at this
 have e2:((fun x=>xs[x]?)∘fun x=>i + x)=fun m=>xs[i + m]?:=rfl
 rw [e2] at this
 rw [this]
theorem gt {t sl:Addr} {items:Array Value} {vl vu:Value} {lo hi:Option Int} {Q:Value→Shared→Prop} (ht:IsTup s.heap t items) (hs:s.heap.IsSliceOf sl vl vu .none) (pl:IsPart vl lo) (pu:IsPart vu hi)
  (hw:¬ (sIx items.size 0 lo=0∧sIx items.size items.size hi=items.size))
  (h:Q (.ref s.heap.objs.size) { s with heap:=s.heap.push { cls:=.type "tuple",data:=.seq ((items.toList.drop (sIx items.size 0 lo)).take (sIx items.size items.size hi - sIx items.size 0 lo)).toArray } })
  (hsz:items.size≤sizeLine):wpAny (model prog w) A (getItem (.ref t) (.ref sl)) Q E s:=by
 have htake:sizeOk (.seq ((items.toList.drop (sIx items.size 0 lo)).take (sIx items.size items.size hi - sIx items.size 0 lo)).toArray):=by
  show ((items.toList.drop (sIx items.size 0 lo)).take (sIx items.size items.size hi - sIx items.size 0 lo)).toArray.size≤sizeLine
  rw [List.size_toArray,List.length_take,List.length_drop,Array.length_toList]
  lia
 have hj:sIx items.size items.size hi≤items.size:=oi _ _ (Nat.le_refl _) hi
 obtain ⟨os,hos,hcs,hds⟩:=id hs
 have hTs:s.TypeIs (.ref sl) "slice":=⟨os,hos,hcs⟩
 unfold getItem
 try with_reducible refine wpAny_holding ?_
 first | refine wpAny_bind (wpAny_pure ?_) | skip
 refine wpAny_bind (wpAny_sequenceKey ht.typeIs (by decide) ?_)
 refine wpAny_bind (wpAny_callSpecial?_slot (name:=Str.ofString "__getitem__") ht.typeIs PyProof.Rows.slot_tuple_getitem
  (wpAny_call_entry PyProof.Rows.slot_tuple_getitem ht.typeIs entry_tuple_getitem ?_ (args_tuple_getitem _ _)))
 show wpAny _ _ (Builtin.Tuple.tupleItemsOf (.ref t) >>= _) _ _ s
 refine wpAny_bind (tupleItemsOf_ ht ?_)
 refine wpAny_bind (wpAny_typeOf hTs ?_)
 rw [if_pos (by decide)]
 refine wpAny_bind (dH hs pl pu ?_)
 have hno:¬ ((((sIx items.size 0 lo:Nat):Int) == 0 && (1:Int) == 1 && (sIx items.size items.size hi - sIx items.size 0 lo) == items.size)=true):=by
  intro q
  rw [Bool.and_eq_true,Bool.and_eq_true] at q
  have q1:((sIx items.size 0 lo:Nat):Int)=0:=eq_of_beq q.1.1
  have q2:sIx items.size items.size hi - sIx items.size 0 lo=items.size:=eq_of_beq q.2
  exact hw ⟨by lia,by lia⟩
 show wpAny _ _ (if (((sIx items.size 0 lo:Nat):Int) == 0 && (1:Int) == 1 && (sIx items.size items.size hi - sIx items.size 0 lo) == items.size)=true then _ else _) _ _ s
 rw [if_neg hno,qc]
 first
  | exact wpAny_bind (m:=Builtin.Tuple.tupleExact _) (wpAny_newObj_type (wpAny_pure ⟨_,rfl,wpAny_pure h⟩) htake)
  | exact wpAny_bind (m:=Builtin.Tuple.tupleExact _) (wpAny_newObj_type (wpAny_bind (wpAny_pure (wpAny_pure ⟨_,rfl,wpAny_pure h⟩))) htake)
  | exact wpAny_bind (wpAny_bind (m:=Builtin.Tuple.tupleExact _) (wpAny_newObj_type (wpAny_pure (wpAny_pure ⟨_,rfl,wpAny_pure h⟩)) htake))
  | exact wpAny_bind (wpAny_bind (m:=Builtin.Tuple.tupleExact _) (wpAny_newObj_type (wpAny_pure ⟨_,rfl,wpAny_pure h⟩) htake))
end
end HT
namespace L2
open PySem PySem.Spec PyProof.Rows
abbrev TO:=St→Hp→(Option Int→Hp→Prop)→Prop
def PO (X:Cx) (e:Option Expr) (t:TO):Prop:=
 ∀ (pins:List (Addr×Obj)) (s:Shared) (σ:St) (H:Hp) (Q:Option Int→Hp→Prop),Inv X pins σ H s→t σ H Q→
  wpAny (model X.prog X.w) X.A (evalPart e X.env) (fun u s'=>∃ o H',Inv X pins σ H' s'∧IsPart u o∧Q o H') X.xe s
noncomputable def sX:TO:=fun _ H Q=>Q none H
noncomputable def yO (t:TE):TO:=fun σ H Q=>t σ H fun x H1=>∃ i,x=.int i∧Q (some i) H1
section
variable {X:Cx} {e:Expr} {te:TE} {lo hi:Option Expr} {tl th:TO} {pos p2:Pos}
theorem sY:PO X none sX:=by
 intro pins s σ H Q I h
 rw [evalPart_none]
 exact wpAny_pure ⟨none,H,I,.none,h⟩
theorem sZ (h:PE X e te):PO X (some e) (yO te):=by
 intro pins s σ H Q I hw
 rw [evalPart_some]
 refine thn (h pins s σ H _ I hw) fun u s1 hqq=>?_
 obtain ⟨x,H1,I1,r1,q1⟩:=hqq
 obtain ⟨i,rfl,q⟩:=q1
 obtain ⟨t,rfl⟩:=r1
 exact ⟨some i,H1,I1,.int i t,q⟩
def SlR (X:Cx) (r:V→Option Int→Option Int→Hp→VK→Prop):Prop:=
 ∀ (pins:List (Addr×Obj)) (s:Shared) (σ:St) (H:Hp) (x:V) (v vl vu:Value) (lo hi:Option Int) (sl:Addr) (Q:VK),Inv X pins σ H s→RelV x v→s.heap.IsSliceOf sl vl vu .none→IsPart vl lo→IsPart vu hi→r x lo hi H Q→
  ∃ T id,typeLookup (.type T) "__getitem__" = pure (some (.builtin id))∧s.TypeIs v T∧wpAny (model X.prog X.w) X.A (getItem v (.ref sl)) (EP X pins σ Q) X.xe s
noncomputable def tSl (r:V→Option Int→Option Int→Hp→VK→Prop) (te:TE) (tl th:TO):TE:=fun σ H Q=>te σ H fun x H1=>tl σ H1 fun l H2=>th σ H2 fun u H3=>r x l u H3 Q
theorem qe {r:V→Option Int→Option Int→Hp→VK→Prop} (hr:SlR X r) (he:PE X e te) (hl:PO X lo tl) (hu:PO X hi th):PE X (.Subscript e (.Slice lo hi none p2) pos) (tSl r te tl th):=by
 intro pins s σ H Q I h
 refine Subscript_ (thn (he pins s σ H _ I h) fun v s1 hqq=>?_)
 obtain ⟨x,H1,I1,r1,q1⟩:=hqq
 refine wpAny_Slice (thn (hl pins s1 σ H1 _ I1 q1) fun vl s2 ⟨l,H2,I2,pl,q2⟩=>thn (hu pins s2 σ H2 _ I2 q2) fun vu s3 hqq=>?_)
 obtain ⟨u,H3,I3,pu,q3⟩:=hqq
 rw [evalPart_none]
 refine wpAny_pure ?_
 have I4:Inv X pins σ H3 { s3 with heap:=s3.heap.push { cls:=.type "slice",data:=.fields #[vl,vu,.none] } }:=I3.kept (t':=s3.toks) fun b ob q=>Heap.get?_push_of_some _ q
 obtain ⟨T,id,hT,ht,hg⟩:=hr pins { s3 with heap:=s3.heap.push { cls:=.type "slice",data:=.fields #[vl,vu,.none] } } σ H3 x v vl vu l u s3.heap.objs.size Q I4 r1 (Heap.IsSliceOf.new ..) pl pu q3
 show wpAny (model X.prog X.w) X.A (subscriptTail e (.Slice lo hi none p2) v (.ref s3.heap.objs.size)) (EP X pins σ Q) X.xe { s3 with heap:=s3.heap.push { cls:=.type "slice",data:=.fields #[vl,vu,.none] } }
 exact tail_any (ops:=[.ref s3.heap.objs.size,v]) ht hT hg (by with_unfolding_all rfl)
noncomputable def rE (xs:List V) (lo hi:Option Int):List V:=(xs.drop (HT.sIx xs.length 0 lo)).take (HT.sIx xs.length xs.length hi - HT.sIx xs.length 0 lo)
theorem h9 (xs:List V) (lo hi:Option Int):(rE xs lo hi).length≤xs.length:=by
 unfold rE
 rw [List.length_take,List.length_drop]
 lia
noncomputable def Av (K:W.Frag):V→Option Int→Option Int→Hp→VK→Prop:=fun x lo hi H Q=>∃ a xs,x=.ref a∧SqT K H a xs∧
 ¬ (HT.sIx xs.length 0 lo=0∧HT.sIx xs.length xs.length hi=xs.length)∧∀ p,H p=none→Q (.ref p) (upd H p (.tup (rE xs lo hi)))
theorem wv:SlR X (Av X.K):=by
 intro pins s σ H x v vl vu lo hi sl Q I rx hs pl pu h
 obtain ⟨a,xs,rfl,hx,hw,q⟩:=h
 cases rx
 obtain ⟨its,r,ht,hz⟩:=I.tuple hx
 have hlen:its.toArray.size=xs.length:=by rw [List.size_toArray];exact r.length.symm
 refine ⟨"tuple",_,PyProof.Rows.slot_tuple_getitem.lookup,ht.typeIs,?_⟩
 refine HT.gt ht hs pl pu (by rw [hlen];exact hw) ?_ (by rw [hlen];exact hz)
 rw [hlen]
 refine ⟨.ref s.heap.objs.size,_,I.laid (t':=s.toks) (o:=.tup (rE xs lo hi)) (fun b ob q=>Heap.get?_push_of_some _ q) (Nat.le_refl _) ?_,rfl,q _ (I.hok.fresh (Nat.le_refl _))⟩
 exact ⟨Nat.le_trans (h9 xs lo hi) hz,_,(r.drop (HT.sIx xs.length 0 lo)).take (HT.sIx xs.length xs.length hi - HT.sIx xs.length 0 lo),IsTupN.new _ _⟩
noncomputable def yP (K:W.Frag):R2:=fun x y H Q=>∃ a b xs ys,x=.ref a∧y=.ref b∧SqT K H a xs∧SqT K H b ys∧xs≠[]∧xs.length + ys.length≤sizeLine∧
 (ys=[]→Q (.ref a) H)∧(ys≠[]→∀ p,H p=none→Q (.ref p) (upd H p (.tup (xs++ys))))
theorem Vals.nil_iff {xs:List V} {us:List Value} (r:Vals xs us):us=[]↔xs=[]:=by
 cases r with
 | nil=>simp
 | cons _ _=>simp
theorem tf:OpR X (binaryOp .Add) (yP X.K):=by
 intro pins s σ H x y v u Q I rx ry h
 obtain ⟨a,b,xs,ys,rfl,rfl,ha,hb,hx,hz,q1,q2⟩:=h
 cases rx
 cases ry
 obtain ⟨its,r1,p1,_⟩:=I.tuple ha
 obtain ⟨its2,r2,p2,_⟩:=I.tuple hb
 refine HT.sW p1 p2 (fun z=>hx (r1.nil_iff.mp z)) (fun z=>⟨.ref a,H,I,rfl,q1 (r2.nil_iff.mp z)⟩) (fun z=>?_) (by rw [←r1.length,←r2.length];exact hz)
 refine ⟨.ref s.heap.objs.size,_,I.laid (t':=s.toks) (o:=.tup (xs++ys)) (fun b ob q=>Heap.get?_push_of_some _ q) (Nat.le_refl _) ?_,rfl,q2 (fun w=>z (r2.nil_iff.mpr w)) _ (I.hok.fresh (Nat.le_refl _))⟩
 exact ⟨by rw [List.length_append];exact hz,_,r1.append r2,IsTupN.new _ _⟩
end
noncomputable def ixN (n:Nat) (i:Int):Option Nat:=if 0≤i then (if i < n then some i.toNat else none) else if -(n:Int)≤i then some (i + n).toNat else none
noncomputable def atI {α:Type} (xs:List α) (i:Int):Option α:=(ixN xs.length i).bind fun j=>xs[j]?
theorem ol {n:Nat} {i:Int} {j:Nat} (h:ixN n i=some j):seqIndex? i n=some j∧j < n∧-(n:Int)≤i∧i < n:=by
 unfold ixN at h
 by_cases h0:0≤i
 ·rw [if_pos h0] at h
  by_cases h1:i < n
  ·rw [if_pos h1] at h
   have e:i.toNat=j:=Option.some.inj h
   exact ⟨by rw [seqIndex_of h0 h1,e],by lia,by lia,h1⟩
  ·rw [if_neg h1] at h;cases h
 ·rw [if_neg h0] at h
  by_cases h1 : -(n:Int)≤i
  ·rw [if_pos h1] at h
   have e:(i + n).toNat=j:=Option.some.inj h
   exact ⟨by rw [seqIndex_neg (by lia) h1,e],by lia,h1,by lia⟩
  ·rw [if_neg h1] at h;cases h
theorem ll {α:Type} {xs:List α} {i:Int} {v:α} (h:atI xs i=some v):∃ j,seqIndex? i xs.length=some j∧xs[j]?=some v∧j < xs.length∧-(xs.length:Int)≤i∧i < xs.length:=by
 unfold atI at h
 cases e:ixN xs.length i with
 | none=>rw [e] at h;cases h
 | some j=>
  rw [e] at h
  obtain ⟨h1,h2,h3,h4⟩:=ol e
  exact ⟨j,h1,h,h2,h3,h4⟩
theorem ia {α:Type} {xs:List α} {j:Nat} {v:α} (h:xs[j]?=some v):atI xs (j:Int)=some v:=by
 have hj:j < xs.length:=(List.getElem?_eq_some_iff.mp h).1
 have e:ixN xs.length (j:Int)=some j:=by
  unfold ixN
  rw [if_pos (by lia),if_pos (by lia)];simp
 unfold atI;rw [e];exact h
def om (b:Expr):Prop:=∀ o i,subscripted b false o i=operate [o,i] (getItem o i)
def IxR (X:Cx) (r:R2):Prop:=
 ∀ (value slice:Expr) (pins:List (Addr×Obj)) (s:Shared) (σ:St) (H:Hp) (x y:V) (v u:Value) (Q:VK),Inv X pins σ H s→RelV x v→RelV y u→r x y H Q→
  subscripted slice false v u=operate [v,u] (getItem v u)→wpAny (model X.prog X.w) X.A (subscriptTail value slice v u) (EP X pins σ Q) X.xe s
def MtR (X:Cx) (id:String) (r:V→List V→Hp→VK→Prop):Prop:=
 ∀ (pins:List (Addr×Obj)) (s:Shared) (σ:St) (H:Hp) (x:V) (xs:List V) (v:Value) (us:List Value) (Q:VK),Inv X pins σ H s→RelV x v→Vals xs us→r x xs H Q→
  wpAny (model X.prog X.w) X.A (call (.builtin id) (v :: us)) (EP X pins σ Q) X.xe s
section
variable {X:Cx} {a b:Expr} {ta tb:TE} {pos:Pos}
theorem yQ {r:R2} (hr:IxR X r) (ha:PE X a ta) (hb:PE X b tb) (hs:om b):PE X (.Subscript a b pos) (tOp r ta tb):=by
 intro pins s σ H Q I h
 exact Subscript_ (yH ha hb I h fun v u s2 x y H2 I2 rx ry q=>hr a b pins s2 σ H2 x y v u Q I2 rx ry q (hs _ _))
noncomputable def Aw (K:W.Frag):R2:=fun x y H Q=>∃ p xs i v,x=.ref p∧y=.int i∧SqL K H p xs∧atI xs i=some v∧Q v H
noncomputable def Ax (K:W.Frag):R2:=fun x y H Q=>∃ p xs i v,x=.ref p∧y=.int i∧SqT K H p xs∧atI xs i=some v∧Q v H
noncomputable def Ay:R2:=fun x y H Q=>∃ z i c,x=.str z∧y=.int i∧z.length≤sizeLine∧atI z.cps.toList i=some c∧Q (.str ⟨#[c]⟩) H
theorem tj:IxR X (Aw X.K):=by
 intro value slice pins s σ H x y v u Q I rx ry h hs
 obtain ⟨p,xs,i,z,rfl,rfl,hq,he,q⟩:=h
 cases rx
 obtain ⟨t,rfl⟩:=ry
 obtain ⟨its,r,pl,hz⟩:=I.list hq
 obtain ⟨j,h1,h2,h3,h4,h5⟩:=ll he
 obtain ⟨w,ew,rw'⟩:=r.get h2
 have hl:=r.length
 have hn:=i5
 have fin:EP X pins σ Q w s:=⟨z,H,I,rw',q⟩
 by_cases h0:0≤i
 ·have hj:i.toNat=j:=by
   rw [seqIndex_of h0 h5] at h1
   exact Option.some.inj h1
  exact item_listR pl.isList h0 (by lia) (by rw [hj];simpa using ew) fin hs
 ·have hj:(i + (its.toArray.size:Int)).toNat=j:=by
   rw [seqIndex_neg (by lia) h4] at h1
   rw [List.size_toArray,←hl]
   exact Option.some.inj h1
  exact subscriptTail_builtinR (x:=w) pl.isList.typeIs slot_list_getitem.lookup
   (wpAny_getItem_list_neg (Q:=fun r s'=>r=w∧EP X pins σ Q r s') pl.isList (by lia) (by rw [List.size_toArray] <;> lia) (by lia) (by rw [hj];simpa using ew) ⟨rfl,fin⟩) hs
theorem ww:IxR X (Ax X.K):=by
 intro value slice pins s σ H x y v u Q I rx ry h hs
 obtain ⟨p,xs,i,z,rfl,rfl,hq,he,q⟩:=h
 cases rx
 obtain ⟨t,rfl⟩:=ry
 obtain ⟨its,r,pl,hz⟩:=I.tuple hq
 obtain ⟨j,h1,h2,h3,h4,h5⟩:=ll he
 obtain ⟨w,ew,rw'⟩:=r.get h2
 have hl:=r.length
 have hn:=i5
 have fin:EP X pins σ Q w s:=⟨z,H,I,rw',q⟩
 exact subscriptTail_builtinR (x:=w) pl.typeIs slot_tuple_getitem.lookup
  (getItem_tuple (j:=j) (Q:=fun r s'=>r=w∧EP X pins σ Q r s') pl (by lia) (by lia) (by rw [List.size_toArray,←hl];exact h1) (by simpa using ew) ⟨rfl,fin⟩) hs
theorem wx:IxR X Ay:=by
 intro value slice pins s σ H x y v u Q I rx ry h hs
 obtain ⟨z,i,c,rfl,rfl,hz,he,q⟩:=h
 obtain ⟨t,rfl⟩:=rx
 obtain ⟨t',rfl⟩:=ry
 obtain ⟨j,h1,h2,h3,h4,h5⟩:=ll he
 have hl:z.cps.toList.length=z.length:=by simp [Str.length]
 rw [hl] at h1 h4 h5
 have hn:=i5
 exact tail_any (typeIs_str s z t) slot_str_getitem.lookup (getItem_str (c:=c) (by
  have e1:decide (i < -(2 ^ 63:Int))=false:=decide_eq_false (by lia)
  have e2:decide (i ≥ 2 ^ 63)=false:=decide_eq_false (by lia)
  rw [e1,e2,Bool.or_false]) (by rw [h1];simpa using h2) ⟨.str ⟨#[c]⟩,H,I.tok _,⟨_,rfl⟩,q⟩) hs
theorem m5 (its:List Value) (n j:Nat) (u:Value):Obj.mapSeq (·.setIfInBounds j u) { cls:=.type "list",data:=.seq its.toArray n }={ cls:=.type "list",data:=.seq (its.set j u).toArray n }:=by
 simp [Obj.mapSeq]
theorem Inv.lst {pins:List (Addr×Obj)} {σ:St} {H:Hp} {s:Shared} {p:Addr} {xs:List V} (I:Inv X pins σ H s) (h:H p=some (.lst xs)) :
  ∃ (its:List Value) (n:Nat),Vals xs its∧s.heap.get? p=some { cls:=.type "list",data:=.seq its.toArray n }∧xs.length≤sizeLine:=by
 obtain ⟨z,its,n,r,e⟩:=I.hok p _ h
 exact ⟨its,n,r,e,z⟩
theorem Inv.lstUpd {pins:List (Addr×Obj)} {σ:St} {H:Hp} {s:Shared} {p:Addr} {xs ys:List V} {its its':List Value} {n n':Nat} {f:Obj→Obj} (I:Inv X pins σ H s) (h:H p=some (.lst xs))
  (ho:s.heap.get? p=some { cls:=.type "list",data:=.seq its.toArray n }) (hf:f { cls:=.type "list",data:=.seq its.toArray n }={ cls:=.type "list",data:=.seq its'.toArray n' }) (r:Vals ys its') (hz:ys.length≤sizeLine) (t:Nat) :
  Inv X pins σ (upd H p (.lst ys)) { s with heap:=s.heap.update p f,toks:=t }:=by
 have e:(s.heap.update p f).get? p=some { cls:=.type "list",data:=.seq its'.toArray n' }:=by
  rw [Heap.get?_update_self f ho (by rw [hf] <;> rfl),hf]
 refine I.write (x:=p) (e:=p) (by rw [h];trivial) (.inl rfl) (fun b u hb q=>(Heap.get?_update_other _ _ (Ne.symm hb)).trans q) ⟨_,e⟩ ?_
 exact ⟨hz,its',n',r,e⟩
noncomputable def wz:V→V→V→Hp→(Hp→Prop)→Prop:=fun o i v H Q=>∃ p xs k j,o=.ref p∧i=.int k∧H p=some (.lst xs)∧ixN xs.length k=some j∧Q (upd H p (.lst (xs.set j v)))
theorem qf:Al X wz:=by
 intro pins s σ H o i v ov iv u Q I ro ri rv h
 obtain ⟨p,xs,k,j,rfl,rfl,hp,hj,q⟩:=h
 cases ro
 obtain ⟨t,rfl⟩:=ri
 obtain ⟨its,n,r,ho,hz⟩:=I.lst hp
 obtain ⟨h1,h2,h3,h4⟩:=ol hj
 have hl:=r.length
 have hn:=i5
 have I':Inv X pins σ (upd H p (.lst (xs.set j v))) { s with heap:=s.heap.update p (Obj.mapSeq (·.setIfInBounds j u)) }:=
  I.lstUpd hp ho (m5 its n j u) (r.set rv j) (by rw [List.length_set];exact hz) s.toks
 by_cases h0:0≤k
 ·have hk:k.toNat=j:=by
   rw [seqIndex_of h0 h4] at h1
   exact Option.some.inj h1
  exact PySem.W.ki_setAt ho h0 (by lia) (by rw [List.size_toArray,←hl];exact h4) (by rw [hk];exact ⟨_,I',q⟩)
 ·have hk:(k + (its.toArray.size:Int)).toNat=j:=by
   rw [seqIndex_neg (by lia) h3] at h1
   rw [List.size_toArray,←hl]
   exact Option.some.inj h1
  exact PySem.W.ki_setBack ho (by lia) (by rw [List.size_toArray,←hl];exact h3) (by lia) (by rw [hk];exact ⟨_,I',q⟩)
theorem ka (lo hi:Option Int) (n:Nat):(sliceBounds lo hi none n).1=((HT.sIx n 0 lo:Nat):Int)∧(sliceBounds lo hi none n).2.1=((HT.sIx n n hi:Nat):Int)∧(sliceBounds lo hi none n).2.2=1:=by
 refine ⟨?_,?_,rfl⟩
 ·cases lo with
  | none=>simp [sliceBounds,HT.sIx]
  | some i=>
   simp only [sliceBounds,HT.sIx,Option.getD_none,show (1:Int) > 0 by decide,if_true]
   by_cases h:i < 0
   ·simp only [h,if_true] <;> lia
   ·simp only [h,if_false] <;> lia
 ·cases hi with
  | none=>simp [sliceBounds,HT.sIx]
  | some i=>
   simp only [sliceBounds,HT.sIx,Option.getD_none,show (1:Int) > 0 by decide,if_true]
   by_cases h:i < 0
   ·simp only [h,if_true] <;> lia
   ·simp only [h,if_false] <;> lia
theorem jn (its:List Value) (lo hi:Option Int):slicePick its.toArray lo hi none=((its.drop (HT.sIx its.length 0 lo)).take (HT.sIx its.length its.length hi - HT.sIx its.length 0 lo)).toArray:=by
 obtain ⟨h1,h2,h3⟩:=ka lo hi its.toArray.size
 unfold slicePick
 rw [h1,h2,h3]
 simp only [sliceRange_one,pick_run,List.size_toArray] <;> rfl
noncomputable def Az (K:W.Frag):V→Option Int→Option Int→Hp→VK→Prop:=fun x lo hi H Q=>∃ a xs,x=.ref a∧SqL K H a xs∧∀ p,H p=none→Q (.ref p) (upd H p (.lst (rE xs lo hi)))
theorem tm:SlR X (Az X.K):=by
 intro pins s σ H x v vl vu lo hi sl Q I rx hs pl pu h
 obtain ⟨a,xs,rfl,hx,q⟩:=h
 cases rx
 obtain ⟨its,r,ht,hz⟩:=I.list hx
 have hlen:=r.length
 refine ⟨"list",_,slot_list_getitem.lookup,ht.isList.typeIs,?_⟩
 refine wpAny_getItem_list_slice ht.isList hs pl pu .none (by simp) ?_ (by rw [List.size_toArray] <;> lia)
 rw [jn,←hlen]
 refine ⟨.ref s.heap.objs.size,_,I.laid (t':=s.toks) (o:=.lst (rE xs lo hi)) (fun b ob q=>Heap.get?_push_of_some _ q) (Nat.le_refl _) ?_,rfl,q _ (I.hok.fresh (Nat.le_refl _))⟩
 exact ⟨Nat.le_trans (h9 xs lo hi) hz,_,0,(r.drop (HT.sIx xs.length 0 lo)).take (HT.sIx xs.length xs.length hi - HT.sIx xs.length 0 lo),Heap.get?_push_size _ rfl⟩
noncomputable def qg:V→Bool
 | .non=>true
 | .bl _=>true
 | .int _=>true
 | .str _=>true
 | _=>false
noncomputable def eqV:V→V→Bool
 | .non,.non=>true
 | .bl a,.bl b=>a == b
 | .bl a,.int b=>(if a then 1 else 0) == b
 | .int a,.bl b=>a == (if b then 1 else 0)
 | .int a,.int b=>a == b
 | .str a,.str b=>a == b
 | _,_=>false
theorem rF {A:Around} {s:Shared} {y x:V} {u v:Value} (ry:RelV y u) (rx:RelV x v) (fy:qg y=true) (fx:qg x=true):SeqAt.EqAt A s u v (eqV y x):=by
 cases y with
 | non=>
  cases ry
  cases x with
  | non=>cases rx;exact SeqAt.EqAt.same _
  | bl b=>cases rx;exact SeqAt.EqAt.none_bool b
  | int b=>obtain ⟨t,rfl⟩:=rx;exact SeqAt.EqAt.none_int b t
  | str b=>obtain ⟨t,rfl⟩:=rx;exact SeqAt.EqAt.none_str b t
  | _=>exact absurd (show false=true from fx) Bool.false_ne_true
 | bl a=>
  cases ry
  cases x with
  | non=>cases rx;exact SeqAt.EqAt.bool_none a
  | bl b=>cases rx;exact SeqAt.EqAt.bool_bool a b
  | int b=>obtain ⟨t,rfl⟩:=rx;exact SeqAt.EqAt.bool_int a b t
  | str b=>obtain ⟨t,rfl⟩:=rx;exact SeqAt.EqAt.bool_str a b t
  | _=>exact absurd (show false=true from fx) Bool.false_ne_true
 | int a=>
  obtain ⟨t',rfl⟩:=ry
  cases x with
  | non=>cases rx;exact SeqAt.EqAt.int_none a t'
  | bl b=>cases rx;exact SeqAt.EqAt.int_bool a t' b
  | int b=>obtain ⟨t,rfl⟩:=rx;exact SeqAt.EqAt.int_int a t' b t
  | str b=>obtain ⟨t,rfl⟩:=rx;exact SeqAt.EqAt.int_str a t' b t
  | _=>exact absurd (show false=true from fx) Bool.false_ne_true
 | str a=>
  obtain ⟨t',rfl⟩:=ry
  cases x with
  | non=>cases rx;exact SeqAt.EqAt.str_none a t'
  | bl b=>cases rx;exact SeqAt.EqAt.str_bool a t' b
  | int b=>obtain ⟨t,rfl⟩:=rx;exact SeqAt.EqAt.str_int a t' b t
  | str b=>obtain ⟨t,rfl⟩:=rx;exact SeqAt.EqAt.str_str a t' b t
  | _=>exact absurd (show false=true from fx) Bool.false_ne_true
 | _=>exact absurd (show false=true from fy) Bool.false_ne_true
theorem gE:cZ X (.builtin "len") (fun xs H Q=>∃ p ys,xs=[.ref p]∧(SqL X.K H p ys∨SqT X.K H p ys)∧Q (.int ys.length) H):=by
 intro pins s σ H xs us Q I r h
 obtain ⟨p,ys,rfl,hq,q⟩:=h
 obtain ⟨u,rfl,rx⟩:=gS r
 cases rx
 have hn:=i5
 rcases hq with hq | hq
 ·obtain ⟨its,r',pl,hz⟩:=I.list hq
  have hlen:=r'.length
  exact Calls.call_len_list pl.isList (by simp only [List.size_toArray] <;> lia) ⟨.int ys.length,H,I.tok _,⟨s.toks + 1,by rw [List.size_toArray,hlen]⟩,q⟩
 ·obtain ⟨its,r',pl,hz⟩:=I.tuple hq
  have hlen:=r'.length
  exact len_tuple pl (by simp only [List.size_toArray] <;> lia) ⟨.int ys.length,H,I.tok _,⟨s.toks + 1,by rw [List.size_toArray,hlen]⟩,q⟩
theorem kc:cZ X (.builtin "len") (fun xs H Q=>∃ z,xs=[.str z]∧z.length≤sizeLine∧Q (.int z.length) H):=by
 intro pins s σ H xs us Q I r h
 obtain ⟨z,rfl,hz,q⟩:=h
 obtain ⟨u,rfl,t,rfl⟩:=gS r
 have hn:=i5
 exact len_str (by lia) ⟨.int z.length,H,I.tok _,⟨_,rfl⟩,q⟩
theorem fQ:cZ X (.type "tuple") (fun xs H Q=>∃ p ys,xs=[.ref p]∧((SqL X.K H p ys∧∀ l,H l=none→Q (.ref l) (upd H l (.tup ys)))∨(SqT X.K H p ys∧Q (.ref p) H))):=by
 intro pins s σ H xs us Q I r h
 obtain ⟨p,ys,rfl,h⟩:=h
 obtain ⟨u,rfl,rx⟩:=gS r
 cases rx
 rcases h with ⟨hq,q⟩ | ⟨hq,q⟩
 ·obtain ⟨its,r',pl,hz⟩:=I.list hq
  have hlen:=r'.length
  refine call_tuple_list pl.isList (fun h' kp=>?_) (by simp only [List.size_toArray] <;> lia)
  have I1:Inv X pins σ H { s with heap:=h' }:=I.kept (t':=s.toks) kp
  have I2:Inv X pins σ (upd H h'.objs.size (.tup ys)) { s with heap:=h'.push { cls:=.type "tuple",data:=.seq its.toArray } }:=
   I1.laid (t':=s.toks) (fun b o e=>Heap.get?_push_of_some _ e) (Nat.le_refl _) (show ObjOk X.prog X.w _ _ _ (.tup ys) from ⟨hz,its,r',IsTupN.new _ _⟩)
  exact ⟨.ref h'.objs.size,_,I2,rfl,q _ (I1.hok.fresh (Nat.le_refl _))⟩
 ·obtain ⟨its,r',pl,hz⟩:=I.tuple hq
  exact call_tuple_same pl ⟨.ref p,H,I,rfl,q⟩
def tyV (K:W.Frag) (T:String) (x:V) (H:Hp):Prop:=match x with
 | .str _=>T = "str"
 | .int _=>T = "int"
 | .ref p=>(T = "list"∧∃ xs,SqL K H p xs)∨(T = "tuple"∧∃ o,K.lookup p=some o∧o.cls=.type "tuple"∧o.dict=none)∨
   (T = "dict"∧((∃ kvs,H p=some (.dK kvs))∨∃ kvs,H p=some (.dT kvs)))∨(T = "set"∧∃ S n,H p=some (.set S n))
 | _=>False
theorem wA {pins:List (Addr×Obj)} {σ:St} {H:Hp} {s:Shared} {T:String} {x:V} {v:Value} (I:Inv X pins σ H s) (r:RelV x v) (ty:tyV X.K T x H) :
  s.TypeIs v T∧∀ a,v=.ref a→∃ ob,s.heap.get? a=some ob∧ob.dict=none:=by
 cases x with
 | str z=>
  obtain ⟨t,rfl⟩:=r
  cases (show T = "str" from ty)
  exact ⟨typeIs_str s z t,fun _ e=>nomatch e⟩
 | int i=>
  obtain ⟨t,rfl⟩:=r
  cases (show T = "int" from ty)
  exact ⟨typeIs_int s i t,fun _ e=>nomatch e⟩
 | ref p=>
  cases r
  rcases ty with ⟨rfl,xs,hq⟩ | ⟨rfl,o,hk,hc,hd⟩ | ⟨rfl,hk⟩ | ⟨rfl,S,n,hk⟩
  ·obtain ⟨its,_,pl,_⟩:=I.list hq
   refine ⟨pl.isList.typeIs,fun a e=>?_⟩
   cases e
   obtain ⟨o,n,e,c,hd,_⟩:=pl
   exact ⟨o,e,hd⟩
  ·refine ⟨⟨o,I.kIn p o hk,hc⟩,fun a e=>?_⟩
   cases e
   exact ⟨o,I.kIn _ o hk,hd⟩
  ·have z:∃ o,s.heap.get? p=some o∧o.ExactDict:=by
    rcases hk with ⟨kvs,hk⟩ | ⟨kvs,hk⟩
    ·obtain ⟨_,_,_,_,o,_,_,e,ex,_⟩:=I.hok p _ hk
     exact ⟨o,e,ex⟩
    ·obtain ⟨_,_,_,_,o,_,_,e,ex,_⟩:=I.hok p _ hk
     exact ⟨o,e,ex⟩
   obtain ⟨o,e,ex⟩:=z
   refine ⟨⟨o,e,ex.1⟩,fun a e2=>?_⟩
   cases e2
   exact ⟨o,e,ex.2.1⟩
  ·obtain ⟨o,_,_,_,e,ex,_⟩:=I.hok p _ hk
   refine ⟨⟨o,e,ex.1⟩,fun a e2=>?_⟩
   cases e2
   exact ⟨o,e,ex.2.1⟩
 | _=>exact False.elim ty
noncomputable def tBM (K:W.Frag) (T:String) (r:V→List V→Hp→VK→Prop) (to:TE) (t:TA):TE:=fun σ H Q=>to σ H fun x H1=>tyV K T x H1∧t σ H1 fun xs H2=>r x xs H2 Q
variable {o e:Expr} {es:List Expr} {to:TE} {t:TA} {name:Str} {apos cpos:Pos} {T id:String} {r:V→List V→Hp→VK→Prop}
theorem wB (pa:PlainAttrs T) (slot:Slot T name id) (hty:typeOf (.builtin id)=pure (.type "method_descriptor")) (hm:MtR X id r) (ho:PE X o to) (ha:PA X (e :: es) t)
  (hbase:attributeBase o name X.env (eval o X.env)=eval o X.env:=by rfl)
  (hfew:((backTo cpos (starEach (e :: es) X.env)).all (fun x=>!x.1) && (backToKw cpos (keywordEach [] X.env)).all (fun x=>x.1.isSome)
   && decide ((e :: es).length + ([]:List Keyword).length + (if ([]:List Keyword).isEmpty then 0 else 1) < 30))=true:=by rfl)
  (hline:(apos.endLine == cpos.line)=true:=by rfl) (hs:starEach (e :: es) X.env=(false,eval e X.env) :: starEach es X.env:=by rfl) (hplain:(backTo cpos (starEach es X.env)).any (·.1)=false:=by rfl) :
  PE X (.Call (.Attribute o name apos) (e :: es) [] cpos) (tBM X.K T r to t):=by
 intro pins s σ H Q I h
 refine wpAny_Call_method_late hbase hfew hline rfl (thn (ho pins s σ H _ I h) fun v s1 hqq=>?_)
 obtain ⟨x,H1,I1,r1,ty,q1⟩:=hqq
 obtain ⟨h1,h2⟩:=wA I1 r1 ty
 refine ⟨T,id,pa,slot,hty,h1,h2,?_⟩
 have hA:=ha cpos pins s1 σ H1 _ I1 q1
 rw [hs] at hA ⊢
 refine Calls.callWith_builtin (by show (false || (backTo cpos (starEach es X.env)).any (·.1))=false;rw [hplain] <;> rfl) (Calls.evalArgs_plain ?_)
 exact thn hA fun us s2 ⟨vs,H2,I2,r2,q2⟩=>hm pins s2 σ H2 x vs v us Q I2 r1 r2 q2
end
def MtM (X:Cx) (id:String) (r:V→List V→Hp→VK→Prop):Prop:=
 ∀ (pins:List (Addr×Obj)) (s:Shared) (σ:St) (H:Hp) (x:V) (xs:List V) (v:Value) (us:List Value) (Q:VK),Inv X pins σ H s→RelV x v→Vals xs us→r x xs H Q→
  wpAny (model X.prog X.w) X.A (call (.builtin id) (v :: us)) (EP X pins σ Q) X.xe s
theorem Vals.one:∀ {x:V} {us:List Value},Vals [x] us→∃ u,us=[u]∧RelV x u
 | _,_,.cons r .nil=>⟨_,rfl,r⟩
theorem Vals.rep {xs:List V} {us:List Value} (h:Vals xs us):∀ k:Nat,Vals (List.replicate k xs).flatten (List.replicate k us).flatten
 | 0=>.nil
 | k + 1=>by
  rw [List.replicate_succ,List.replicate_succ,List.flatten_cons,List.flatten_cons]
  exact Vals.append h (Vals.rep h k)
theorem ke (its:List Value):∀ (k:Nat) (acc:List Value),
  List.foldl (fun x1 x2=>x1++x2) acc.toArray (List.replicate k its.toArray)=(acc++(List.replicate k its).flatten).toArray
 | 0,acc=>by simp
 | k + 1,acc=>by
  have e:acc.toArray++its.toArray=(acc++its).toArray:=by simp
  have e2:(acc++its)++(List.replicate k its).flatten=acc++(List.replicate (k + 1) its).flatten:=by
   rw [List.replicate_succ,List.flatten_cons,List.append_assoc]
  rw [←e2,←ke its k (acc++its),←e,List.replicate_succ,List.foldl_cons]
section
variable {X:Cx} {pins:List (Addr×Obj)} {σ:St} {H:Hp} {s:Shared} {l b:Addr} {xs ys zs:List V}
theorem Inv.lset {its its':List Value} {n:Nat} {f:Array Value→Array Value} {t':Nat} (I:Inv X pins σ H s) (hH:H l=some (.lst xs))
  (e:s.heap.get? l=some { cls:=.type "list",data:=.seq its.toArray n }) (hf:f its.toArray=its'.toArray) (hv:Vals ys its') (hz:ys.length≤sizeLine) :
  Inv X pins σ (upd H l (.lst ys)) { s with heap:=s.heap.update l (Obj.mapSeq f),toks:=t' }:=by
 have q:=PySem.IsL.update e f
 rw [hf] at q
 refine I.write (x:=l) (e:=l) (by rw [hH];exact trivial) (.inl rfl) (fun b' u hb hu=>(Heap.get?_update_other s.heap (Obj.mapSeq f) (Ne.symm hb)).trans hu) ⟨_,q⟩ ?_
 exact ⟨hz,its',_,hv,q⟩
theorem Inv.lnew {its:List Value} {t':Nat} (I:Inv X pins σ H s) (hv:Vals ys its) (hz:ys.length≤sizeLine) :
  Inv X pins σ (upd H s.heap.objs.size (.lst ys)) { s with heap:=s.heap.push { cls:=.type "list",data:=.seq its.toArray },toks:=t' }:=
 I.laid (fun _ _ q=>Heap.get?_push_of_some _ q) (Nat.le_refl _) ⟨hz,its,0,hv,Heap.get?_push_size _ rfl⟩
theorem Inv.fresh (I:Inv X pins σ H s):H s.heap.objs.size=none:=I.hok.fresh (Nat.le_refl _)
theorem Inv.lstM (I:Inv X pins σ H s) (hH:H l=some (.lst xs)):xs.length≤sizeLine∧∃ (its:List Value) (n:Nat),Vals xs its∧xs.length=its.length∧s.heap.get? l=some { cls:=.type "list",data:=.seq its.toArray n }:=by
 obtain ⟨z,its,n,r,e⟩:=I.hok l _ hH
 exact ⟨z,its,n,r,r.length,e⟩
theorem qh {n:Nat} (h:n≤sizeLine):Builtin.List.listTooLong n=false:=by
 unfold Builtin.List.listTooLong
 exact decide_eq_false (by lia)
end
section
variable {X:Cx}
noncomputable def tq:V→List V→Hp→VK→Prop:=fun x vs H Q=>∃ l xs y,x=.ref l∧vs=[y]∧H l=some (.lst xs)∧xs.length < sizeLine∧Q .non (upd H l (.lst (xs++[y])))
theorem kg:MtM X "list.append" tq:=by
 intro pins s σ H x vs v us Q I rx rv h
 obtain ⟨l,xs,y,rfl,rfl,hH,hz,q⟩:=h
 cases rx
 obtain ⟨u,rfl,ru⟩:=rv.one
 obtain ⟨z,its,n,r,hl,e⟩:=I.lstM hH
 refine call_meets F.slot_list_append ⟨_,e,rfl⟩ F.entry_list_append (F.args_list_append_2 _ _) (PySem.list_append l its.toArray n u (by rw [List.size_toArray];lia)) ⟨e,?_⟩
 refine ⟨.non,_,I.lset (its':=its++[u]) hH e (by simp) (r.append (.cons ru .nil)) ?_,rfl,q⟩
 rw [List.length_append,List.length_singleton]
 lia
theorem jo {α:Type} (xs:List α) (k:Nat):(List.replicate k xs).flatten.length=k * xs.length:=by
 induction k with
 | zero=>simp
 | succ k ih=>rw [List.replicate_succ,List.flatten_cons,List.length_append,ih,Nat.succ_mul,Nat.add_comm]
end
section
variable {prog:Program} {w:World} {A:Around} {E:Value→Shared→Prop} {s:Shared}
end
section
variable {X:Cx}
end
end L2
namespace Att
open PySem PySem.W PySem.Calls PyProof.Rows
theorem ib {P:Params} {h:Heap}:∀ (ns:List Int) (vs:List Value),WellAll P h vs (ns.map WData.int)→IntsAre vs ns:=by
 intro ns
 induction ns with
 | nil=>
  intro vs w
  rw [List.map_nil] at w
  cases w
  exact .nil
 | cons n ns ih=>
  intro vs w
  rw [List.map_cons] at w
  cases w with
  | cons a b=>
   cases a
   exact .cons _ _ (ih _ b)
theorem on {l:OpenLaw} {n:Nat} (hn:l.most=some n) {P:Params} {h:Heap} {args:List WData} {vals:List Value}
  (hpre:l.row.toRowW.claim.pre args=true) (hwl:WellAll P h vals args) :
  ∃ a vs ns,vals=[Value.ref a]∧args=[WData.list (ns.map WData.int)]∧h.get? a=some { cls:=.type "list",data:=.seq vs.toArray }∧IntsAre vs ns∧ns.length≤n:=by
 have hsh:WShape.hasAll [] args [.list .int]=true:=(pre_splitW hpre).1
 have hc:l.pre.holds [] { args:=args }=true:=(pre_splitW hpre).2
 obtain ⟨d,r,rfl,h1,h2⟩:=hasAllW_cons hsh
 obtain rfl:=hasAllW_nil h2
 obtain ⟨xs,rfl,h3⟩:=hasW_list h1
 obtain ⟨ns,rfl⟩:=items_int h3
 have hlen:ns.length≤n:=by
  unfold OpenLaw.pre at hc
  have h4:(WTm.not (.lt (.lit (.int (n:Int))) (.len (.arg 0)))).holds [] { args:=[.list (ns.map .int)] }=true:=by
   have h4:=(holds_andW hc).1
   rw [hn] at h4
   exact h4
  have h5:=condW_of h4 (w_not (w_lt w_lit (w_len_list (w_arg rfl))))
  rw [List.length_map] at h5
  refine Nat.le_of_not_lt fun q=>?_
  have q':(n:Int) < ((ns.length:Nat):Int):=by lia
  first
   | (rw [decide_eq_true q'] at h5;exact absurd h5 (by decide))
   | (simp at h5;lia)
 cases hwl with
 | cons w1 w2=>
  cases w2
  cases w1 with
  | list ho hall=>exact ⟨_,_,ns,rfl,rfl,ho,ib ns _ hall,hlen⟩
theorem oq (l:OpenLaw) (args:List WData):l.row.toRowW.claim.post args (.bool true) args=true:=
 postW_of (r:=l.row.toRowW) (X:=(true == true))
  (show WShape.has [] (.bool true) .bool=true by first | rfl | decide | simp [WShape.has,WShape.arms,WShape.armsAll])
  (show (WTm.eq .res (.lit (.bool true))).value [] { args:=args,res:=some (.bool true),after:=args }=some (.bool (true == true)) from w_eq_bool (w_res rfl) w_lit) rfl
theorem attach_call {l:OpenLaw} {n:Nat} {q:Program} {loose:List Str} {XP:(Str→Option Value)→Heap→Prop} {YP:World→Heap→Prop} {d:DefRec}
  (hn:l.most=some n) (hdf:d.params.defaults=[])
  (call:∀ (w:World) (s₀ s₁:Shared) (mg mb:Str→Option Value) (fa:Addr) (o:Obj) (pm cd doc:Value) (a:Addr) (vs:List Value) (ns:List Int),
   Ground q loose [] XP w s₀ mg mb s₁.heap→YP w s₁.heap→
   s₁.heap.get? fa=some o→o.data=.func (docDef d.name d.params d.body d.scope pm cd doc)→s₁.heap.CodeRec cd d.name→mg d.name=some (.ref fa)→
   s₁.heap.get? a=some { cls:=.type "list",data:=.seq vs.toArray }→IntsAre vs ns→ns.length≤n→s₁.gens = #[]→
   codeAny (model l.prog w) callerA (.call (.ref fa) ⟨[.ref a],[]⟩) (fun r s'=>r=.ok (.ret (.bool true))∧OldK s₁.heap s'.heap∧s'.os=s₁.os∧AllBare s'.gens) s₁) :
  WalkO q loose XP YP l.row.toRowW d [] (fun f vs=>PySem.call f vs):=by
 intro w s₀ s₁ mg mb G Y fa o pm cd doc dV kV ho hd hcd hD hmg hg args vals as hpre hlay hrd hwl hlo
 obtain rfl:dV=.none:=Dflts.none hD hdf
 obtain rfl:kV=.none:=Dflts.noKw hD
 obtain ⟨a,vs,ns,rfl,rfl,hobj,hints,hlen⟩:=on hn hpre hwl
 refine enter_call (codeAny_mono (call w s₀ s₁ mg mb fa o pm cd doc a vs ns G Y ho (fd_plain hd) hcd hmg hobj hints hlen hg) fun r s' hq=>?_)
 obtain ⟨rfl,h2,h3,h4⟩:=hq
 exact ⟨.inl ⟨.bool true,.bool true,[],rfl,fun _=>rfl,.bool true,oq l _,fun _=>⟨List.Pairwise.nil,fun _ hm=>(nomatch hm)⟩⟩,h2,h3,h4⟩
section
variable {prog:Program} {w:World} {A:Around} {E:Value→Shared→Prop} {s:Shared} {K:Frag}
end
end Att
namespace L2
open PySem PySem.Spec PyProof.Rows
theorem kh:∀ {vs:List Value} {ns:List Int},IntsAre vs ns→Vals (ns.map V.int) vs
 | _,_,.nil=>.nil
 | _,_,.cons n t h=>.cons ⟨t,rfl⟩ (kh h)
def yR (H:Hp):Prop:=∀ b,H b=none∨∃ o xs,H b=some (.frz o (.lst xs))
theorem qi {P:Program} {w:World} {K:W.Frag} {mg mb:Str→Option Value} {CX:CXT} {k:Nat} {fa a:Addr} {fd:FuncData} {x:Str} {sp:Sp} {s₁:Shared} {vs:List Value} {ns:List Int}
  (KX:K.In s₁.heap) (hns:s₁.heap.Ns mainGlobals mg) (hb:s₁.heap.Ns builtinsNs mb) (hbb:∀ x:Str,x≠"__name__"→mb x=bootBuiltins x) (hlim:s₁.heap.NoLimit) (hg:s₁.gens = #[])
  (ha:s₁.heap.get? a=some { cls:=.type "list",data:=.seq vs.toArray }) (hi:IntsAre vs ns) (hl:ns.length≤sizeLine) (hr:Room k callerA)
  (F:∀ base:Heap,K.In base→base.Ns mainGlobals mg→FnOk P w K mg base CX k fa fd [x] sp) (hbind:∀ (s:Shared) (u:Value),BindsTo s fd ⟨[u],[]⟩ [(x,u)])
  (hsp:∀ H:Hp,yR H→SqL K H a (ns.map V.int)→sp [.ref a] H (fun v _=>v=.bl true) fun _ _ _=>False)
  (hCX:∀ H e s',CX [] H s₁ (fun _ _ _=>False) e s'→False) :
  codeAny (model P w) callerA (.call (.ref fa) ⟨[.ref a],[]⟩) (fun r s'=>r=.ok (.ret (.bool true))∧OldK s₁.heap s'.heap∧s'.os=s₁.os∧AllBare s'.gens) s₁:=by
 have rv:=kh hi
 have lenV:=hi.length
 have core:∀ H:Hp,yR H→SqL K H a (ns.map V.int)→HOk P w H s₁.heap→(∀ b,H b≠none→b=a)→(H a≠none→K.lookup a=none)→
   codeAny (model P w) callerA (.call (.ref fa) ⟨[.ref a],[]⟩) (fun r s'=>r=.ok (.ret (.bool true))∧OldK s₁.heap s'.heap∧s'.os=s₁.os∧AllBare s'.gens) s₁:=by
  intro H hO hS hok hA hK
  have base_of:∀ {b:Addr} {o:Obj},s₁.heap.get? b=some o→H b=none→(pY s₁.heap H).get? b=some o:=fun e n=>pZ e n
  have noA:∀ {b:Addr} {o:Obj} {es:Array DictEntry} {ep:Nat},s₁.heap.get? b=some o→o.data=.dict es ep→H b=none:=fun {b o es ep} e d=>by
   cases q:H b with
   | none=>rfl
   | some u=>
    have e':b=a:=hA b (by rw [q];simp)
    subst e'
    rw [ha] at e;cases e
    have d':Data.seq vs.toArray _=Data.dict es ep:=d
    cases d'
  have nsK:∀ {b:Addr} {m:Str→Option Value},s₁.heap.Ns b m→(pY s₁.heap H).Ns b m:=fun {b m} ⟨o,es,ep,e,d,r⟩=>⟨o,es,ep,base_of e (noA e d),d,r⟩
  have hKb:K.In (pY s₁.heap H):=fun b o e=>base_of (KX b o e) (by
   cases q:H b with
   | none=>rfl
   | some u=>
    have e':b=a:=hA b (by rw [q];simp)
    subst e'
    rw [hK (by rw [q];simp)] at e;cases e)
  have hM:Mod K mg (pY s₁.heap H):=⟨hKb,nsK hns,⟨mb,nsK hb,hbb⟩,let ⟨mc,h1,h2⟩:=hlim;⟨mc,nsK h1,h2⟩⟩
  have e0:Env0 P w K mg (pY s₁.heap H) callerA [] s₁ H:=⟨rfl,hM,fun b o e=>sI e,Nat.le_of_eq (nN _ _),trivial,fun b hb=>absurd (show b∈([]:List Addr) from hb) (by simp),hok,.of_eq hg⟩
  refine codeAny_mono ((F _ hKb (nsK hns)).run callerA [] s₁ H ⟨[.ref a],[]⟩ [.ref a] [.ref a] _ _ hr e0 (hbind s₁ (.ref a)) (.cons rfl .nil) (hsp H hO hS)) fun r s' h=>?_
  cases r with
  | error e=>exact (hCX H e s' h).elim
  | ok fl=>
   cases fl with
   | next=>exact False.elim h
   | brk=>exact False.elim h
   | cont=>exact False.elim h
   | ret u=>
    obtain ⟨v,H',os,bare,un,hok',r',q⟩:=h
    have q':v=.bl true:=q
    subst q'
    obtain rfl:u=Value.bool true:=r'
    refine ⟨rfl,OldK.of_keep fun b o e=>?_,os,bare⟩
    cases q:H b with
    | none=>exact un.keep b o e q (by intro z;exact absurd (show b∈([]:List Addr) from z) (by simp)) (by simp)
    | some u=>
     rcases hO b with z | ⟨ob,xs,z⟩
     ·rw [q] at z;cases z
     ·have z2:=un.frzs b ob _ z
      obtain ⟨e1,_⟩:=hok b _ z
      obtain ⟨e2,_⟩:=hok' b _ z2
      rw [e] at e1;cases e1
      exact e2
 cases hk:K.lookup a with
 | some o=>
  have e:=KX a o hk
  rw [ha] at e
  cases e
  refine core (fun _=>none) (fun _=>.inl rfl) (.inr ⟨_,vs.toArray,_,hk,rfl,rfl,rfl,by rw [List.size_toArray,lenV];exact hl,by simpa using rv⟩) (fun b u z=>by have z':(none:Option HO)=some u:=z;cases z') (fun b z=>absurd rfl z) fun z=>absurd rfl z
 | none=>
  refine core (fun b=>if b=a then some (.frz { cls:=.type "list",data:=.seq vs.toArray } (.lst (ns.map V.int))) else none) (fun b=>?_) (.inl (.inr ⟨{ cls:=.type "list",data:=.seq vs.toArray },if_pos rfl⟩)) (fun b u z=>?_) (fun b z=>?_) fun _=>hk
  ·by_cases hb:b=a
   ·exact .inr ⟨_,_,if_pos hb⟩
   ·exact .inl (if_neg hb)
  ·by_cases hb:b=a
   ·have z':=(if_pos hb).symm.trans z
    cases z'
    subst hb
    exact ⟨ha,by rw [List.length_map];exact hl,vs,_,rv,ha⟩
   ·have z':=(if_neg hb).symm.trans z
    cases z'
  ·by_cases hb:b=a
   ·exact hb
   ·exact absurd (if_neg hb) z
theorem tu {l:PySem.W.OpenLaw} {n k:Nat} {q:Program} {loose:List Str} {XP:(Str→Option Value)→Heap→Prop} {YP:World→Heap→Prop} {d:DefRec} {K:Params→W.Frag} {CX:World→CXT} {sp:World→Sp} {x:Str}
  (hn:l.most=some n) (hn2:n≤sizeLine) (hdf:d.params.defaults=[]) (hr:Room k callerA)
  (hY:∀ (w:World) (h:Heap),YP w h→(K w.params).In h)
  (F:∀ (w:World) (mg:Str→Option Value) (fa:Addr) (h:Heap),(K w.params).In h→h.Ns mainGlobals mg→mg d.name=some (.ref fa)→
   ∃ fd:FuncData,(∀ (s:Shared) (u:Value),BindsTo s fd ⟨[u],[]⟩ [(x,u)])∧
    ∀ base:Heap,(K w.params).In base→base.Ns mainGlobals mg→FnOk l.prog w (K w.params) mg base (CX w) k fa fd [x] (sp w))
  (hsp:∀ (w:World) (H:Hp) (a:Addr) (ns:List Int),ns.length≤n→yR H→SqL (K w.params) H a (ns.map V.int)→sp w [.ref a] H (fun v _=>v=.bl true) fun _ _ _=>False)
  (hCX:∀ (w:World) (H:Hp) (s:Shared) (e:Value) (s':Shared),CX w [] H s (fun _ _ _=>False) e s'→False) :
  PySem.W.WalkO q loose XP YP l.row.toRowW d [] (fun f vs=>PySem.call f vs):=by
 refine Att.attach_call hn hdf fun w s₀ s₁ mg mb fa o pm cd doc a vs ns G Y ho hd hcd hmg hobj hints hlen hg=>?_
 have KX:=hY w _ Y
 obtain ⟨fd,hb,hF⟩:=F w mg fa _ KX G.T.g hmg
 exact qi KX G.T.g G.T.b G.T.builtins G.T.nolimit hg hobj hints (Nat.le_trans hlen hn2) hr hF hb (fun H hO hS=>hsp w H a ns hlen hO hS) fun H e s'=>hCX w H s₁ e s'
noncomputable def dl (s:Stmt):Arguments:=match s with
 | .FunctionDef _ a _ _ _ _ _ _ _ _=>a
 | _=>{ posonlyargs:=[],args:=[],vararg:=none,kwonlyargs:=[],kw_defaults:=[],kwarg:=none,defaults:=[] }
noncomputable def bN (s:Stmt):List Stmt:=match s with
 | .FunctionDef _ _ b _ _ _ _ _ _ _=>b
 | _=>[]
noncomputable def defScope (s:Stmt):Scope:=match s with
 | .FunctionDef _ _ _ _ _ _ sc _ _ _=>sc
 | _=>{ kind:=.function,names:=[],isGenerator:=false,isCoroutine:=false }
abbrev CX0:CXT:=fun _ _ _ _ _ _=>False
abbrev E0:XK:=fun _ _ _=>False
theorem yS {X:Cx}:nX CX0 X E0:=fun _ _ _ _ _ _ _ h=>h.elim
structure Fun (K:W.Frag) (x qual:Str) (st:Stmt) (f:Addr) (fd:FuncData):Prop where
 ex:∃ (oc:Value) (od:Option Addr) (kV doc pm:Value) (an:Option Addr) (cdv ct:Value) (osl:Array (Option Value)),
  fd=PySem.W.fnOf x qual (dl st) (bN st) (defScope st) .none kV doc pm an cdv ct∧K.lookup f=some ⟨oc,od,.func fd,osl⟩∧PySem.W.codeIn K cdv qual=true
 kp:PySem.W.keepIn K (.ref f)=true
section
variable {P:Program} {w:World} {K:W.Frag} {mg:Str→Option Value} {base:Heap}
theorem Fun.ok {x qual:Str} {st:Stmt} {f:Addr} {fd:FuncData} {N ps:List Str} {k:Nat} {sp:Sp} (F:Fun K x qual st f fd) (S:FnScope N ps (defScope st)) (len:∀ vs H Q E,sp vs H Q E→vs.length=ps.length)
  (hbody:∀ (cdv:Value) (A:Around) (outer:List Env) (s:Shared) (H:Hp) (vs:List V) (Q:VK) (E:XK),Room k (A.deeper (envOfC qual (defScope st) s.heap.objs.size f cdv))→sp vs H Q E→
   ∃ t,PSs (nY CX0 P w K mg base N qual (defScope st) f cdv A outer s H E).nox (bN st) t∧t { nx:=fun _ H'=>Q .non H',rt:=Q } (gT N vs) H):FnOk P w K mg base CX0 (k + 1) f fd ps sp:=by
 obtain ⟨oc,od,kV,doc,pm,an,cdv,ct,osl,rfl,lk,hcd⟩:=F.ex
 refine wu lk hcd S len fun A outer s H vs Q E hr hsp=>?_
 obtain ⟨t,h,q⟩:=hbody cdv A outer s H vs Q E hr hsp
 exact ⟨t,h.nox,q⟩
theorem Fun.binds {x qual:Str} {st:Stmt} {f:Addr} {fd:FuncData} {ps:List Str} (F:Fun K x qual st f fd)
  (h:∀ (kV doc pm:Value) (an:Option Addr) (cdv ct:Value) (us:List Value),us.length=ps.length→bindArgs (PySem.W.fnOf x qual (dl st) (bN st) (defScope st) .none kV doc pm an cdv ct) ⟨us,[]⟩=pure (ps.zip us)):Binds K fd ps []:=by
 obtain ⟨oc,od,kV,doc,pm,an,cdv,ct,osl,rfl,lk,hcd⟩:=F.ex
 exact .all (h kV doc pm an cdv ct)
theorem rH {x qual:Str} {st:Stmt} {f:Addr} {oc:Value} {od an:Option Addr} {osl:Array (Option Value)} {kV doc pm cdv ct:Value} (l:K.lookup f=some ⟨oc,od,.func (PySem.W.fnOf x qual (dl st) (bN st) (defScope st) .none kV doc pm an cdv ct),osl⟩)
  (c:PySem.W.codeIn K cdv qual=true) (k:PySem.W.keepIn K (.ref f)=true):Fun K x qual st f (PySem.W.fnOf x qual (dl st) (bN st) (defScope st) .none kV doc pm an cdv ct):=⟨⟨oc,od,kV,doc,pm,an,cdv,ct,osl,rfl,l,c⟩,k⟩
end
theorem hu_of {A:Around} {k:Nat} (hr:Room k A):A.units + 1 < cLine:=Nat.lt_of_le_of_lt (Nat.add_le_add_left (by decide:1≤64) _) hr.units
section
variable {X:Cx}
theorem pv (i:Nat) {x:Str} {pos:Pos} (hN:X.N[i]?=some x:=by rfl) (hv:Vis X.env.scope x:=by first | exact Or.inl rfl | exact Or.inr (Or.inl rfl) | exact Or.inr (Or.inr rfl)) (hd:(x == ("__debug__" : Str))=false:=by decide)
  (hcd:(x == ("__classdict__" : Str))=false:=by decide):PE X (.Name x pos) (p3 i):=vQ hN hv hd hcd
end
theorem iteF {A B:Prop} (h:B):if false=true then A else B:=by
 rw [if_neg Bool.false_ne_true]
 exact h
theorem wC {A B:Prop} (h:A):if true=true then A else B:=by
 rw [if_pos rfl]
 exact h
def Same (H H':Hp):Prop:=∀ b o,H b=some o→H' b=some o
theorem Same.refl (H:Hp):Same H H:=fun _ _ h=>h
theorem Same.trans {H H1 H2:Hp} (a:Same H H1) (b:Same H1 H2):Same H H2:=fun c o h=>b c o (a c o h)
theorem Same.free {H H':Hp} (e:Same H H') {l:Addr} (h:H' l=Option.none):H l=Option.none:=by
 cases q:H l with
 | none=>rfl
 | some o=>
  rw [e l o q] at h
  cases h
theorem Same.seq {K:W.Frag} {H H':Hp} {a:Addr} {xs:List V} (e:Same H H') (h:SqL K H a xs):SqL K H' a xs:=by
 rcases h with (h | ⟨o,h⟩) | h
 ·exact .inl (.inl (e _ _ h))
 ·exact .inl (.inr ⟨o,e _ _ h⟩)
 ·exact .inr h
end L2
set_option maxHeartbeats 4000000
namespace NX
open PySem PySem.Spec PyProof.Rows L2
section
variable {X:Cx}
theorem or:OpR X (compareOp .LtE) (fun x y H Q=>∃ i j,x=.str i∧y=.str j∧Q (.bl (!decide (j.cps.toList < i.cps.toList))) H):=by
 intro pins s σ H x y v u Q I rx ry h
 obtain ⟨i,j,rfl,rfl,q⟩:=h
 obtain ⟨t,rfl⟩:=rx
 obtain ⟨t',rfl⟩:=ry
 exact PySem.P.le_str (lO I q rfl)
theorem qj (v:Int) (n:Nat):max (0:Int) (min (if v < 0 then v + (n:Int) else v) (n:Int))=((HT.sIx n 0 (some v):Nat):Int):=by
 show _=(((if v < 0 then (v + (n:Int)).toNat else min v.toNat n):Nat):Int)
 split <;> lia
theorem wD (a b:Nat):sliceRange (a:Int) (b:Int) 1=(List.range (b - a)).map (fun k=>a + k):=by
 unfold sliceRange
 rw [if_pos (by decide:(1:Int) > 0)]
 by_cases hlt:(a:Int) < b
 ·have e3:(((b:Int) - a + 1 - 1) / 1).toNat=b - a:=by first | lia | (simp;done) | (simp;lia)
  simp only [hlt,if_true,e3]
  refine List.map_congr_left fun k _=>?_
  lia
 ·have:b - a=0:=by lia
  simp [hlt,this]
theorem AA (lo hi:Option Int) (n:Nat):Builtin.Str.strSliceIndices lo hi 1 n=(List.range (HT.sIx n n hi - HT.sIx n 0 lo)).map (fun k=>HT.sIx n 0 lo + k):=by
 rw [←wD]
 unfold Builtin.Str.strSliceIndices
 simp only [show (1:Int) > 0 from by decide,if_true]
 cases lo with
 | none=>
  cases hi with
  | none=>rfl
  | some v=>exact congrArg (fun z=>sliceRange 0 z 1) (qj v n)
 | some u=>
  cases hi with
  | none=>exact congrArg (fun z=>sliceRange z (n:Int) 1) (qj u n)
  | some v=>exact (congrArg (fun z=>sliceRange z _ 1) (qj u n)).trans (congrArg (fun z=>sliceRange _ z 1) (qj v n))
noncomputable def wE (xs:List Nat) (lo hi:Option Int):List Nat:=(xs.drop (HT.sIx xs.length 0 lo)).take (HT.sIx xs.length xs.length hi - HT.sIx xs.length 0 lo)
theorem rJ {α:Type} (l:List α):∀ (n a:Nat),a + n≤l.length→((List.range n).map (fun k=>a + k)).filterMap (l[·]?)=(l.drop a).take n
 | 0,_,_=>by simp
 | n + 1,a,h=>by
  have hlt:a + n < l.length:=by lia
  rw [List.range_succ,List.map_append,List.filterMap_append,rJ l n a (by lia),List.take_add_one,List.getElem?_drop]
  simp [List.getElem?_eq_getElem hlt]
theorem ot (x:Str) (lo hi:Option Int):(Txt.slice x lo hi).cps.toList=wE x.cps.toList lo hi:=by
 have hl:x.cps.toList.length=x.length:=Array.length_toList
 have ha:=HT.oi x.length 0 (Nat.zero_le _) lo
 have hb:=HT.oi x.length x.length (Nat.le_refl _) hi
 unfold Txt.slice wE
 rw [AA,hl]
 split
 ·rename_i h
  have h2:HT.sIx x.length x.length hi - HT.sIx x.length 0 lo=x.length:=by simpa using h
  have ez:HT.sIx x.length 0 lo=0∨x.length=0:=by lia
  rcases ez with e | e
  ·rw [h2,e,List.drop_zero,List.take_of_length_le (by lia)]
  ·have:x.cps.toList=[]:=List.eq_nil_of_length_eq_zero (by lia)
   rw [this]
   simp
 ·have hk:∀ (f:List Nat),f.filterMap (x.cps[·]?)=f.filterMap (x.cps.toList[·]?):=fun f=>by
   congr 1
   funext i
   simp
  show (List.filterMap _ _).toArray.toList=_
  rw [List.toList_toArray,hk]
  by_cases hle:HT.sIx x.length 0 lo≤HT.sIx x.length x.length hi
  ·rw [rJ _ _ _ (by lia)]
  ·have e0:HT.sIx x.length x.length hi - HT.sIx x.length 0 lo=0:=by lia
   rw [e0]
   rfl
abbrev S (l:List Nat):Str:=⟨l.toArray⟩
theorem ki (x:Str):S x.cps.toList=x:=by cases x;simp [S]
theorem tz {a b:List Nat} (h:S a=S b):a=b:=by
 have:=congrArg (fun z:Str=>z.cps.toList) h
 simpa [S] using this
theorem iR (l:List Nat):(S l).length=l.length:=by simp [S,Str.length]
theorem b8 (l:List Nat):(S l).cps.toList=l:=by simp [S]
theorem yT (a b:List Nat):S a++S b=S (a++b):=by
 rw [←ki (S a++S b),PySem.W.KT.app_list,b8,b8]
noncomputable def AB:V→Option Int→Option Int→Hp→VK→Prop:=fun x lo hi H Q=>∃ l,x=.str (S l)∧l.length≤sizeLine∧Q (.str (S (wE l lo hi))) H
theorem wF:SlR X AB:=by
 intro pins s σ H x v vl vu lo hi sl Q I rx hs pl pu h
 obtain ⟨l,rfl,hz,q⟩:=h
 obtain ⟨t,rfl⟩:=rx
 have hz':(S l).length≤sizeLine:=by rw [iR];exact hz
 have e:∀ t' k,EP X pins σ Q (.str (Txt.slice (S l) lo hi) t') { s with toks:=k }:=fun t' k=>by
  refine ⟨.str (S (wE l lo hi)),H,I.tok _,⟨t',?_⟩,q⟩
  have e1:=ot (S l) lo hi
  rw [b8] at e1
  rw [←e1,ki]
 refine ⟨"str",_,PySem.F.slot_str_getitem.lookup,typeIs_str _ _ _,?_⟩
 have key:∀ (pl' pu':Option (Int×Tok)),partValue pl'=vl→partValue pu'=vu→pl'.map (·.1)=lo→pu'.map (·.1)=hi→
   wpAny (model X.prog X.w) X.A (getItem (.str (S l) t) (.ref sl)) (EP X pins σ Q) X.xe s:=by
  rintro pl' pu' rfl rfl rfl rfl
  exact wpAny_getItem_str_slice (l:=pl') (u:=pu') (st:=none) hs rfl (post_val_or_str ⟨Nat.le_trans (Txt.slice_le (S l) _ _) hz',fun t' k=>e t' k⟩)
 cases pl with
 | none=>
  cases pu with
  | none=>exact key none none rfl rfl rfl rfl
  | int j uj=>exact key none (some (j,uj)) rfl rfl rfl rfl
 | int i ui=>
  cases pu with
  | none=>exact key (some (i,ui)) none rfl rfl rfl rfl
  | int j uj=>exact key (some (i,ui)) (some (j,uj)) rfl rfl rfl rfl
theorem tF {xs:List V} {j:Nat} {x:V} (h:xs[j]?=some x):xs.getD j .non=x:=by rw [List.getD_eq_getElem?_getD,h];rfl
end
def Def (K:W.Frag) (mg:Str→Option Value) (x:Str) (st:Stmt):Prop:=∃ f fd,Fun K x x st f fd∧mg x=some (.ref f)
def Ct (P:Program) (w:World) (K:W.Frag) (mg:Str→Option Value) (base:Heap) (x:Str) (k:Nat) (sp:Sp):Prop:=
 ∃ f fd ps,FnOk P w K mg base CX0 k f fd ps sp∧mg x=some (.ref f)∧PySem.W.keepIn K (.ref f)=true∧Binds K fd ps []
section
variable {X:Cx} {e:Expr} {es:List Expr} {t:TA} {x:Str} {p pos:Pos} {k:Nat} {sp:Sp}
theorem yU (C:Ct X.prog X.w X.K X.mg X.base x k sp) (hr:Room k X.A) (hg:Gl X x) (ha:PA X (e :: es) t) (hdb:(x == ("__debug__" : Str))=false:=by decide)
  (he:starEach (e :: es) X.env=(false,eval e X.env) :: starEach es X.env:=by rfl) (hpl:(backTo pos (starEach es X.env)).any (·.1)=false:=by rfl) :
  PE X (.Call (.Name x p) (e :: es) [] pos) (tCall sp [] E0 t):=by
 obtain ⟨f,fd,ps,G,m,kp,b⟩:=C
 exact sV G hr hg m kp b .nil yS ha hdb he hpl
def Gi (mg:Str→Option Value) (x:Str) (n:Int):Prop:=∃ t,mg x=some (.int n t)
theorem yV {n:Int} (h:Gi X.mg x n) (hg:Gl X x) (hd:(x == ("__debug__" : Str))=false:=by decide):PE X (.Name x p) (tC (.int n)):=by
 obtain ⟨t,m⟩:=h
 exact sL hg m ⟨t,rfl⟩ hd
end
theorem bt_len:bootBuiltins "len" = some (.builtin "len"):=by decide +kernel
theorem jp:bootBuiltins "isinstance" = some (.builtin "isinstance"):=by decide +kernel
theorem b5:bootBuiltins "tuple" = some (.type "tuple"):=by decide +kernel
theorem line_eq:sizeLine=16777216:=sizeLine_eq
theorem flat_strs (a:List (List Nat)):(a.map fun l=>V.str (S l)).all qg=true:=by
 rw [List.all_eq_true]
 intro v hv
 obtain ⟨l,_,rfl⟩:=List.mem_map.mp hv
 rfl
section
variable {X:Cx} {e:Expr} {st:Stmt}
end
noncomputable def clOf (scope:Scope) (env:Env):List (Str×Addr):=scope.names.foldl (fun cs y=>if y.2 == NameKind.free then (y.1,(env.cells.lookup y.1).getD 0) :: cs else cs) []
noncomputable def fR (scope:Scope) (env:Env):Bool:=scope.names.all fun y=>y.2 != NameKind.free || env.kindOf y.1 == some .cell || env.kindOf y.1 == some .free
theorem eI (env:Env):∀ (l:List (Str×NameKind)) (cs:List (Str×Addr)),(∀ y∈l,y.2=.free→∃ c,env.cells.lookup y.1=some c)→
  (forIn l cs fun (y:Str×NameKind) (r:List (Str×Addr))=>(do
   if y.2 == NameKind.free then
    let a ←cellOf env y.1
    pure (ForInStep.yield ((y.1,a) :: r))
   else pure (ForInStep.yield r):Sem (ForInStep (List (Str×Addr)))))=pure (l.foldl (fun cs y=>if y.2 == NameKind.free then (y.1,(env.cells.lookup y.1).getD 0) :: cs else cs) cs)
 | [],cs,_=>by simp
 | y :: l,cs,h=>by
  rw [List.forIn_cons,List.foldl_cons]
  by_cases k:y.2=.free
  ·obtain ⟨c,e⟩:=h y List.mem_cons_self k
   have e2:cellOf env y.1=pure c:=by unfold cellOf;rw [e]
   simp only [k,beq_self_eq_true,if_true,e2,e,Option.getD_some,pure_bind]
   exact eI env l _ fun z hz=>h z (List.mem_cons_of_mem _ hz)
  ·have kb:(y.2 == NameKind.free)=false:=by simpa using k
   simp only [kb,Bool.false_eq_true,if_false,pure_bind]
   exact eI env l _ fun z hz=>h z (List.mem_cons_of_mem _ hz)
theorem eZ (env:Env) (x:Str) (c:Addr):∀ (l:List (Str×NameKind)) (cs:List (Str×Addr)),(∀ y∈l,y.2=.free→∃ c,env.cells.lookup y.1=some c)→(cs.lookup x=some c→env.cells.lookup x=some c)→
  (l.foldl (fun cs y=>if y.2 == NameKind.free then (y.1,(env.cells.lookup y.1).getD 0) :: cs else cs) cs).lookup x=some c→env.cells.lookup x=some c
 | [],_,_,h,e=>h e
 | y :: l,cs,hf,h,e=>by
  rw [List.foldl_cons] at e
  refine eZ env x c l _ (fun z hz=>hf z (List.mem_cons_of_mem _ hz)) (fun q=>?_) e
  split at q
  ·rename_i k
   have k:y.2=.free:=by simpa using k
   obtain ⟨d,ed⟩:=hf y List.mem_cons_self k
   rw [List.lookup_cons] at q
   cases hx:x == y.1 with
   | true=>
    rw [hx] at q
    have exy:x=y.1:=by simpa using hx
    rw [ed,Option.getD_some] at q
    rw [exy,ed]
    exact q
   | false=>
    rw [hx] at q
    exact h q
  ·exact h q
theorem ic (env:Env) (x:Str):∀ (l:List (Str×NameKind)) (cs:List (Str×Addr)),((∃ d,cs.lookup x=some d)∨(x,NameKind.free)∈l)→
  ∃ d,(l.foldl (fun cs y=>if y.2 == NameKind.free then (y.1,(env.cells.lookup y.1).getD 0) :: cs else cs) cs).lookup x=some d
 | [],_,h=>by
  rcases h with h | h
  ·exact h
  ·cases h
 | y :: l,cs,h=>by
  rw [List.foldl_cons]
  refine ic env x l _ ?_
  rcases h with ⟨d,h⟩ | h
  ·refine .inl ?_
   split
   ·rw [List.lookup_cons]
    cases hx:x == y.1 with
    | true=>exact ⟨_,rfl⟩
    | false=>exact ⟨d,h⟩
   ·exact ⟨d,h⟩
  ·rcases List.mem_cons.mp h with h | h
   ·refine .inl ?_
    rw [←h]
    refine ⟨(env.cells.lookup x).getD 0,?_⟩
    show List.lookup x ((x,_) :: cs)=_
    rw [List.lookup_cons,beq_self_eq_true]
   ·exact .inr h
noncomputable def bq (X:Cx) (scope:Scope) (N:List Str) (C:Addr) (s:Shared) (H:Hp) (fp:List Addr) (pn:List (Addr×Obj)):Cx:=
 { X with N:=N,s₀:=s,H₀:=H,env:=compEnvC scope (clOf scope X.env) C X.env,outer:=X.stack,ex:=fp,fn:=fun _=>false,pn:=pn,xe:=fun _ _=>False }
noncomputable def i7 (ix:List (Option Nat)) (σ:L2.St):L2.St:=ix.map fun i=>i.bind fun i=>(σ[i]?).bind id
noncomputable def tG (wi:TI) (ix:List (Option Nat)) (g:TG) (tc:TT) (te:TE):TE:=fun σ H Q=>wi σ H fun J H1=>∀ D,H1 D=none→∃ W:Nat→Nat→L2.St→Hp→Prop,(∃ m,W 0 m (i7 ix σ) (upd H1 D (.lst [])))∧
 ∀ i m σ1 H2,W i m σ1 H2→(J.stop i H2∧Q (.ref D) H2)∨(J.go i H2∧∀ x H3,J.yld i H2 x H3→g x σ1 H3 fun σ2 H4=>tc σ2 H4 fun b H5=>if b=true then te σ2 H5 fun v H6=>
  ∃ ys,H6 D=some (.lst ys)∧ys.length < sizeLine∧∃ m',m' < m∧W (i + 1) m' σ2 (upd H6 D (.lst (ys++[v]))) else ∃ m',m' < m∧W (i + 1) m' σ2 H5)
abbrev NoX:Value→Shared→Prop:=fun _ _=>False
theorem noX {α:Type} {M:Model} {A:Around} {t:Sem α} {Q Q':α→Shared→Prop} {E:Value→Shared→Prop} {s:Shared} (h:wpAny M A t Q NoX s) (k:∀ a s,Q a s→Q' a s):wpAny M A t Q' E s:=wpAny_mono h k fun _ _ z=>z.elim
theorem ou {prog:Program} {w:World} {A:Around} {R:Result→Shared→Prop} {s:Shared} {elt target iter:Expr} {ifs:List Expr} {scope:Scope} {pos:Pos} {it acc:Value} {env:Env} (I:Nat→Shared→Prop)
  (turn:∀ n s,I n s→wpAny (model prog w) A (pyNext it) (fun r s₁=>match r with
   | none=>R (.ok .next) s₁
   | some v=>wpAny (model prog w) A (letOwnedTupleGo target it v) (fun _ s₂=>wpAny (model prog w) A (assign target env v) (fun _ s₃=>
     wpAny (model prog w) A (forIn ifs true fun c r=>if r=true then do let ok ←isTrue c env (eval c env);pure (ForInStep.yield ok) else pure (ForInStep.yield r)) (fun ok s₄=>
      if ok=true then wpAny (model prog w) A (eval elt env) (fun x s₅=>
       wpAny (model prog w) A (call (.builtin "list.append") [acc,x]) (fun _ s₆=>∃ m,m < n∧I m s₆) NoX s₅) NoX s₄
      else ∃ m,m < n∧I m s₄) NoX s₃) NoX s₂) NoX s₁) NoX s)
  (n:Nat) (h:I n s):codeAny (model prog w) A (.compLoop (.ListComp elt [⟨target,iter,ifs,0⟩] scope pos) 0 it acc env) R s:=by
 refine codeAny_loop rfl I (fun n s hI=>?_) n h
 show wpAny _ A ((compTurn (.ListComp elt [⟨target,iter,ifs,0⟩] scope pos) 0 it acc env).onRaise (fun x=>do noteFrame x env;theTreesLotGoes x)) _ _ s
 refine wpAny_noted ?_
 rw [compTurn_list]
 refine wpAny_bind (wpAny_standAt (wpAny_bind (noX (turn n s hI) fun r s₁ h₁=>?_)))
 cases r with
 | none=>exact wpAny_pure h₁
 | some v=>
  refine wpAny_bind (noX h₁ fun _ s₂ h₂=>wpAny_bind (noX h₂ fun _ s₃ h₃=>wpAny_bind (noX h₃ fun ok s₄ h₄=>?_)))
  cases ok with
  | false=>exact wpAny_pure ⟨rfl,h₄⟩
  | true=>exact wpAny_bind (wpAny_bind (noX h₄ fun x s₅ h₅=>wpAny_bind (noX h₅ fun _ s₆ h₆=>wpAny_pure (wpAny_pure ⟨rfl,h₆⟩))))
def PTs (X:Cx) (ifs:List Expr) (t:TT):Prop:=
 ∀ (pins:List (Addr×Obj)) (s:Shared) (σ:L2.St) (H:Hp) (Q:Bool→Hp→Prop),Inv X pins σ H s→t σ H Q→
  wpAny (model X.prog X.w) X.A (forIn ifs true fun c r=>if r=true then do let ok ←isTrue c X.env (eval c X.env);pure (ForInStep.yield ok) else pure (ForInStep.yield r)) (TP X pins σ Q) X.xe s
noncomputable def AC:TT:=fun _ H Q=>Q true H
theorem tH {X:Cx}:PTs X [] AC:=fun _ _ _ H _ I h=>wpAny_tests_nil ⟨H,I,h⟩
noncomputable def rK (X:Cx) (scope:Scope) (N:List Str) (ix:List (Option Nat)):Bool:=
 N.length == ix.length && (N.zip ix).all fun y=>match y.2 with
  | none=>true
  | some j=>X.N[j]? == some y.1 && scope.names.lookup y.1 == some .free
theorem kj {scope:Scope} {env:Env} {x:Str} (h:scope.names.lookup x=some .free):(relabel scope env).names.lookup x=some .cell∨(relabel scope env).names.lookup x=some .free:=by
 unfold relabel
 dsimp only
 generalize scope.names=l at h
 induction l with
 | nil=>cases h
 | cons y l ih=>
  obtain ⟨n,k⟩:=y
  rw [List.lookup_cons] at h
  rw [List.map_cons]
  cases hx:x == n with
  | true=>
   rw [hx] at h
   have hk:k=.free:=Option.some.inj h
   subst hk
   dsimp only
   split
   ·exact .inl (by rw [List.lookup_cons,hx])
   ·exact .inr (by rw [List.lookup_cons,hx])
  | false=>
   rw [hx] at h
   dsimp only
   split
   ·rw [List.lookup_cons,hx];exact ih h
   ·rw [List.lookup_cons,hx];exact ih h
theorem kl {scope:Scope} {env:Env} {x:Str} (hc:∀ y∈scope.names,y.2≠.cell) (h:(relabel scope env).names.lookup x=some .cell∨(relabel scope env).names.lookup x=some .free):(x,NameKind.free)∈scope.names:=by
 unfold relabel at h
 dsimp only at h
 generalize scope.names=l at h hc
 induction l with
 | nil=>rcases h with h | h <;> cases h
 | cons y l ih=>
  obtain ⟨n,k⟩:=y
  rw [List.map_cons] at h
  dsimp only at h
  have nk:k≠.cell:=hc (n,k) List.mem_cons_self
  have rek:=ih (hc:=fun z hz=>hc z (List.mem_cons_of_mem _ hz))
  by_cases cnd:(k == NameKind.free && env.scope.kind == .function && env.kindOf n == some .cell)=true
  ·rw [if_pos cnd,List.lookup_cons] at h
   have kf:k=.free:=by
    have:(k == NameKind.free)=true:=by
     simp only [Bool.and_eq_true] at cnd
     exact cnd.1.1
    simpa using this
   cases hx:x == n with
   | true=>
    have:x=n:=by simpa using hx
    rw [this,kf]
    exact List.mem_cons_self
   | false=>
    rw [hx] at h
    exact List.mem_cons_of_mem _ (rek h)
  ·rw [if_neg cnd,List.lookup_cons] at h
   cases hx:x == n with
   | true=>
    rw [hx] at h
    have:x=n:=by simpa using hx
    rcases h with h | h
    ·exact absurd (Option.some.inj h) nk
    ·rw [this,←Option.some.inj h]
     exact List.mem_cons_self
   | false=>
    rw [hx] at h
    exact List.mem_cons_of_mem _ (rek h)
section
variable {X:Cx} {pins:List (Addr×Obj)} {σ:L2.St} {H:Hp} {s:Shared} {scope:Scope} {N:List Str} {ix:List (Option Nat)} {fp:List Addr}
theorem jq (ok:X.Ok) (hf:fR scope X.env=true):∀ y∈scope.names,y.2=.free→∃ c,X.env.cells.lookup y.1=some c:=fun y hy k=>by
 have:=List.all_eq_true.mp hf y hy
 rw [k] at this
 simp only [bne_self_eq_false,Bool.false_or,Bool.or_eq_true,beq_iff_eq] at this
 exact ok.has y.1 this
theorem ie (ok:X.Ok) (hf:fR scope X.env=true) {x:Str} {c:Addr} (h:(clOf scope X.env).lookup x=some c):X.env.cells.lookup x=some c:=
 eZ X.env x c scope.names [] (jq ok hf) (fun z=>nomatch z) h
theorem ow (ok:X.Ok) (hf:fR scope X.env=true) {x:Str} (h:(x,NameKind.free)∈scope.names):∃ c,(clOf scope X.env).lookup x=some c∧X.env.cells.lookup x=some c:=by
 obtain ⟨c,e⟩:=ic X.env x scope.names [] (.inr h)
 exact ⟨c,e,ie ok hf e⟩
theorem _root_.L2.Inv.block (I:Inv X pins σ H s) (hf:fR scope X.env=true) (hk:scope.kind=.function) (hcell:∀ y∈scope.names,y.2≠.cell) (hix:rK X scope N ix=true) (fo:∀ b∈fp,nH X pins H b) (fin:∀ b∈fp,∃ o,s.heap.get? b=some o)
  {h1:Heap} {t1:Nat} {D C:Addr} (hD:D=s.heap.objs.size) (hC:C=s.heap.objs.size + 1) (old:∀ b o,s.heap.get? b=some o→h1.get? b=some o) {n:Nat} (acc:h1.get? D=some { cls:=.type "list",data:=.seq #[] n })
  {m:Str→Option Value} (ns:h1.Ns C m):Inv (bq X scope N C s H fp (X.pn++pins)) [] (i7 ix σ) (upd H D (.lst [])) { s with heap:=h1,toks:=t1 }:=by
 have freshC:s.heap.objs.size≤C:=by rw [hC];exact Nat.le_succ _
 have freshD:s.heap.objs.size≤D:=by rw [hD];exact Nat.le_refl _
 have nD:H D=none:=I.hok.fresh freshD
 have DC:D≠C:=by rw [hD,hC];exact Nat.ne_of_lt (Nat.lt_succ_self _)
 have updn:∀ b,H b=none→b≠D→upd H D (.lst []) b=none:=fun b n z=>by rw [aA z];exact n
 have ltD:∀ b o,s.heap.get? b=some o→b≠D:=fun b o e=>Nat.ne_of_lt (Nat.lt_of_lt_of_le (Heap.lt_size e) freshD)
 have ltC:∀ b o,s.heap.get? b=some o→b≠C:=fun b o e=>Nat.ne_of_lt (Nat.lt_of_lt_of_le (Heap.lt_size e) freshC)
 have cellAt:∀ x c,(clOf scope X.env).lookup x=some c→∃ v o,s.heap.get? c=some o∧o.data=.cell v:=fun x c e=>by
  obtain ⟨v,o,ho,hd⟩:=I.cell x c (ie I.ok hf e)
  exact ⟨v,o,ho,hd⟩
 have okY:(bq X scope N C s H fp (X.pn++pins)).Ok:=by
  refine ⟨I.ok.mod,hk,I.ok.glob,I.ok.blt,freshC,fun x y c e1 e2=>?_,fun x hx=>?_,fun x c z _=>?_,I.ok.hd,I.ok.frames,.inl rfl,fun b hb=>?_,I.bs,?_,fun b o e hb=>?_,fun b hb hs=>?_,I.stack,I.stkFree⟩
  ·exact I.ok.inj x y c (ie I.ok hf e1) (ie I.ok hf e2)
  ·obtain ⟨c,e,_⟩:=ow I.ok hf (kl hcell hx)
   exact ⟨c,e⟩
  ·exact absurd (show false=true from z) Bool.false_ne_true
  ·obtain ⟨f0,f1,f2,f3,f4,f5⟩:=fo b hb
   refine ⟨?_,fun x c e=>f4 x c (ie I.ok hf e)⟩
   intro z
   have z:b=C:=z
   obtain ⟨o,ho⟩:=fin b hb
   exact ltC b o ho z
  ·exact Nat.le_trans I.ok.bsz I.sz
  ·obtain ⟨f0,f1,f2,f3,f4,f5⟩:=fo b hb
   rcases f3 with q | q
   ·exact I.ok.noex b o e q
   ·exact absurd (Nat.lt_of_lt_of_le (Heap.lt_size e) (Nat.le_trans I.ok.bsz q)) (Nat.lt_irrefl _)
  ·obtain ⟨f0,f1,f2,_⟩:=fo b hb
   exact (List.mem_cons.mp (I.stkSub b hs)).elim f1 f2
 refine ⟨okY,rfl,I.bare,Un.laid old freshD nD,⟨m,ns,fun i x v e1 e2 e3=>?_⟩,fun x c e=>?_,?_,fun x c e=>?_,fun p hp=>?_,I.hok.laid old freshD ⟨Nat.zero_le _,[],n,.nil,acc⟩,?_⟩
 ·
  have e2:(ix.map fun i=>i.bind fun i=>(σ[i]?).bind id)[i]?=some (some v):=e2
  have e1:N[i]?=some x:=e1
  unfold rK at hix
  rw [Bool.and_eq_true] at hix
  rw [List.getElem?_map] at e2
  cases q:ix[i]? with
  | none=>rw [q] at e2;cases e2
  | some o=>
   rw [q] at e2
   have e2:(o.bind fun i=>(σ[i]?).bind id)=some v:=Option.some.inj e2
   cases o with
   | none=>cases e2
   | some j=>
    have e2:(σ[j]?).bind id=some v:=e2
    have hσ:σ[j]?=some (some v):=by
     cases w':σ[j]? with
     | none=>rw [w'] at e2;cases e2
     | some y=>rw [w'] at e2;exact congrArg some e2
    have hz:(N.zip ix)[i]?=some (x,some j):=by
     rw [List.getElem?_zip_eq_some]
     exact ⟨e1,q⟩
    have hy:=List.all_eq_true.mp hix.2 _ (List.mem_of_getElem? hz)
    simp only [Bool.and_eq_true,beq_iff_eq] at hy
    have hfr:(x,NameKind.free)∈scope.names:=PySem.mem_of_lookup hy.2
    obtain ⟨c,c1,c2⟩:=ow I.ok hf hfr
    have hkd:X.env.kindOf x=some .cell∨X.env.kindOf x=some .free:=by
     have:=List.all_eq_true.mp hf _ hfr
     simpa using this
    obtain ⟨mo,hno,hlo⟩:=I.loc
    obtain ⟨u,r,l⟩:=hlo j x v hy.1 hσ (.inr hkd)
    refine ⟨u,r,.inr ⟨kj hy.2,c,c1,?_⟩⟩
    rcases l with ⟨k1,_⟩ | ⟨_,c',e',ho'⟩
    ·rcases hkd with k2 | k2 <;> (rw [k1] at k2;cases k2)
    ·rw [c2] at e'
     cases e'
     obtain ⟨o,ho,hd⟩:=ho'
     exact ⟨o,old c o ho,hd⟩
 ·obtain ⟨v,o,ho,hd⟩:=cellAt x c e
  exact ⟨v,o,old c o ho,hd⟩
 ·exact updn C (I.hok.fresh freshC) (Ne.symm DC)
 ·obtain ⟨v,o,ho,hd⟩:=cellAt x c e
  exact updn c (I.freeC x c (ie I.ok hf e)) (ltD c o ho)
 ·have hp:p∈X.pn++pins:=by
   have:p∈(X.pn++pins)++[]:=hp
   rwa [List.append_nil] at this
  obtain ⟨e,nn,ne,nf,d⟩:=I.pin p hp
  refine ⟨old _ _ e,updn _ nn (ltD _ _ e),ltC _ _ e,fun z=>?_,d⟩
  exact (List.mem_cons.mp (I.stkSub p.1 z)).elim ne nf
 ·unfold rK at hix
  rw [Bool.and_eq_true] at hix
  have:N.length=ix.length:=by simpa using hix.1
  show (ix.map _).length=N.length
  rw [List.length_map,this]
theorem _root_.L2.Inv.unblock {C:Addr} {σ1:L2.St} {H1:Hp} {s1:Shared} {h2:Heap} (I:Inv X pins σ H s) (fo:∀ b∈fp,nH X pins H b) (hC:s.heap.objs.size≤C) (J:Inv (bq X scope N C s H fp (X.pn++pins)) [] σ1 H1 s1) (hs:Heap.SameBut C s1.heap h2) :
  Inv X pins σ H1 { s1 with heap:=h2 }:=by
 have ltC:∀ b o,s.heap.get? b=some o→b≠C:=fun b o e=>Nat.ne_of_lt (Nat.lt_of_lt_of_le (Heap.lt_size e) hC)
 have bb:Un (frs X.stack) fp H H1 s.heap s1.heap:=J.base
 have jf:H1 C=none:=J.free
 refine I.call' (s':={ s1 with heap:=h2 }) (ch:=fp) J.os ⟨fun b o e n hb hx=>?_,fun b o e n hb hx=>?_,bb.free,fun b o e hx=>?_,bb.tups,bb.frzs,bb.tbls⟩ (fun b ob e=>?_) J.bare fun b hb=>?_
 ·exact (hs.2 b (ltC b o e)).trans (bb.keep b o e n hb hx)
 ·obtain ⟨sl,q⟩:=bb.slot b o e n hb hx
  exact ⟨sl,(hs.2 b (ltC b o e)).trans q⟩
 ·obtain ⟨o',q⟩:=bb.there b o e hx
  exact ⟨o',(hs.2 b (ltC b o e)).trans q⟩
 ·refine (J.hok b ob e).stay (fun c w' hc q=>(hs.2 c ?_).trans q) (fun _ q=>q) fun _ _ q=>q
  rintro rfl
  rcases hc with rfl | hc
  ·rw [jf] at e;cases e
  ·rw [jf] at hc;cases hc
 ·obtain ⟨f0,f1,f2,f3,f4,f5⟩:=fo b hb
  exact ⟨f3,f1,f4,f5⟩
end
section
variable {X:Cx} {scope:Scope} {N:List Str} {ix:List (Option Nat)} {tg iter elt:Expr} {ifs:List Expr} {pos:Pos} {wi:TI} {g:TG} {tc:TT} {te:TE}
theorem i8 {pins:List (Addr×Obj)} {σ:L2.St} {H2:Hp} {s2:Shared} {J:It} {fp:List Addr} {it:Addr} {tn:Nat→Heap→Prop} {Q:VK} {RR:Value→Addr→Result→Shared→Prop} {E:Value→Shared→Prop}
  (hc:X.calm=true) (I2:Inv X pins σ H2 s2) (T:Turn X.prog X.w X.K tg J fp it tn) (st2:tn 0 s2.heap) (f2:∀ b∈fp,nH X pins H2 b)
  (hg:∀ C s H fp pn,PG (bq X scope N C s H fp pn) tg g) (ht:∀ C s H fp pn,PTs (bq X scope N C s H fp pn) ifs tc) (he:∀ C s H fp pn,PE (bq X scope N C s H fp pn) elt te)
  (hf:fR scope X.env=true) (hk:scope.kind=.function) (hcell:∀ y∈scope.names,y.2≠.cell) (hix:rK X scope N ix=true)
  (q:∀ D,H2 D=none→∃ W:Nat→Nat→L2.St→Hp→Prop,(∃ m,W 0 m (i7 ix σ) (upd H2 D (.lst [])))∧
   ∀ i m σ1 H3,W i m σ1 H3→(J.stop i H3∧Q (.ref D) H3)∨(J.go i H3∧∀ x H4,J.yld i H3 x H4→g x σ1 H4 fun σ2 H5=>tc σ2 H5 fun b H6=>if b=true then te σ2 H6 fun v H7=>
    ∃ ys,H7 D=some (.lst ys)∧ys.length < sizeLine∧∃ m',m' < m∧W (i + 1) m' σ2 (upd H7 D (.lst (ys++[v]))) else ∃ m',m' < m∧W (i + 1) m' σ2 H6))
  (hRR:∀ (D C:Addr) (σ1:L2.St) (H1:Hp) (s1:Shared),s2.heap.objs.size≤C→Inv (bq X scope N C s2 H2 fp (X.pn++pins)) [] σ1 H1 s1→Q (.ref D) H1→RR (.ref D) C (.ok .next) s1) :
  wpAny (model X.prog X.w) X.A (newList []) (fun acc s₃=>wpAny (model X.prog X.w) X.A (newFunctionEnv scope X.env.globals (clOf scope X.env) [] X.env.qual none .none (some X.env)) (fun cenv s₄=>
   codeAny (model X.prog X.w) X.A (.compStart (.ListComp elt [⟨tg,iter,ifs,0⟩] scope pos) 0 (.ref it) acc { cenv with scope:=relabel scope X.env }) (RR acc cenv.locals) s₄) E s₃) E s2:=by
 refine wpAny_newObj_type (wpAny_newFunctionEnv hcell (by intro y hy;simp at hy) (fun h₁ hns₁ hsb₁=>?_) hk)
 dsimp only at hns₁ hsb₁ ⊢
 generalize hH2:s2.heap.push { cls:=.type "list",dict:=none,data:=.seq ([]:List Value).toArray }=HH at hns₁ hsb₁ ⊢
 have hC:HH.objs.size=s2.heap.objs.size + 1:=by rw [←hH2,Heap.size_push]
 have hDC:s2.heap.objs.size≠HH.objs.size:=by rw [hC];exact Nat.ne_of_lt (Nat.lt_succ_self _)
 have hCle:s2.heap.objs.size≤HH.objs.size:=by rw [hC];exact Nat.le_succ _
 have ltC:∀ b o,s2.heap.get? b=some o→b≠HH.objs.size:=fun b o e=>Nat.ne_of_lt (Nat.lt_of_lt_of_le (Heap.lt_size e) hCle)
 have old:∀ b o,s2.heap.get? b=some o→h₁.get? b=some o:=fun b o e=>hsb₁.extBut b o (ltC b o e) (Heap.get?_push_of_some _ (hH2▸Heap.get?_push_of_some _ e))
 have hacc:h₁.get? s2.heap.objs.size=some { cls:=.type "list",data:=.seq #[] 0 }:=hsb₁.extBut _ _ hDC (Heap.get?_push_of_some _ (hH2▸Heap.get?_push_size _ rfl))
 obtain ⟨W,⟨m0,w0⟩,turn⟩:=q s2.heap.objs.size (I2.hok.fresh (Nat.le_refl _))
 have fin:∀ b∈fp,∃ o,s2.heap.get? b=some o:=fun b hb=>let ⟨o,e,_⟩:=T.obj 0 _ st2 b hb;⟨o,e⟩
 have stat:∀ {H':Hp},(∀ b∈fp,H' b=none)→∀ b∈fp,nH (bq X scope N HH.objs.size s2 H2 fp (X.pn++pins)) [] H' b:=fun {H'} hn b hb=>by
  obtain ⟨f0,f1,ff,f3,f4,f5⟩:=f2 b hb
  refine ⟨hn b hb,?_,fun z=>?_,.inl hb,fun x c e=>f4 x c (ie I2.ok hf e),fun p hp=>?_⟩
  ·intro z
   have z:b=HH.objs.size:=z
   obtain ⟨o,ho⟩:=fin b hb
   exact ltC b o ho z
  ·exact (List.mem_cons.mp (I2.stkSub b z)).elim f1 ff
  ·have hp:p∈X.pn++pins:=by
    have:p∈(X.pn++pins)++[]:=hp
    rwa [List.append_nil] at this
   exact f5 p hp
 have loop:∀ s₃:Shared,s₃={ s2 with heap:=h₁,toks:=s2.toks + ([]:List (Str×Value)).length }→
   codeAny (model X.prog X.w) X.A (.compLoop (.ListComp elt [⟨tg,iter,ifs,0⟩] scope pos) 0 (.ref it) (.ref s2.heap.objs.size) (compEnvC scope (clOf scope X.env) HH.objs.size X.env)) (RR (.ref s2.heap.objs.size) HH.objs.size) s₃:=by
  rintro s₃ rfl
  refine ou (fun n s'=>∃ i σ' H',Inv (bq X scope N HH.objs.size s2 H2 fp (X.pn++pins)) [] σ' H' s'∧tn i s'.heap∧(∀ b∈fp,H' b=none)∧W i n σ' H') ?_ m0
   ⟨0,_,_,I2.block hf hk hcell hix f2 fin rfl hC old hacc hns₁,T.keep 0 _ _ st2 fun b _ o e=>old b o e,fun b hb=>?_,w0⟩
  ·rintro n s3 ⟨i,σ3,H3,I3,st3,fr3,w3⟩
   rcases turn i n σ3 H3 w3 with ⟨stop,qn⟩ | ⟨go,step⟩
   ·refine thn (T.done (bq X scope N HH.objs.size s2 H2 fp (X.pn++pins)) rfl rfl rfl hc i [] s3 σ3 H3 NoX I3 (stat fr3) st3 stop) fun r s4 hqq=>?_
    obtain ⟨hr,I4⟩:=hqq
    subst hr
    exact hRR _ _ σ3 H3 s4 hCle I4 qn
   ·refine thn (T.item (bq X scope N HH.objs.size s2 H2 fp (X.pn++pins)) rfl rfl rfl hc i [] s3 σ3 H3 NoX I3 (stat fr3) st3 go) fun r s4 hqq=>?_
    obtain ⟨u,hr,h4⟩:=hqq
    subst hr
    refine thn h4 fun _ s5 hqq=>?_
    obtain ⟨x,H5,I5,r5,y5,st5,fr5⟩:=hqq
    have I5':=I5.pinned (stat fr5) (T.obj _ _ st5)
    refine thn (hg _ _ _ _ _ _ s5 σ3 H5 x u _ I5' r5 (step x H5 y5)) fun _ s6 hqq=>?_
    obtain ⟨σ6,H6,I6,q6⟩:=hqq
    refine thn (ht _ _ _ _ _ _ s6 σ6 H6 _ I6 q6) fun ok s7 hqq=>?_
    obtain ⟨H7,I7,q7⟩:=hqq
    have again:∀ {H8:Hp} {s8:Shared},Inv (bq X scope N HH.objs.size s2 H2 fp (X.pn++pins)) ([]++j4 fp s5.heap) σ6 H8 s8→(∃ m',m' < n∧W (i + 1) m' σ6 H8)→
      ∃ m,m < n∧∃ i σ' H',Inv (bq X scope N HH.objs.size s2 H2 fp (X.pn++pins)) [] σ' H' s8∧tn i s8.heap∧(∀ b∈fp,H' b=none)∧W i m σ' H':=fun {H8 s8} I8 ⟨m',hm,w8⟩=>by
     refine ⟨m',hm,i + 1,σ6,H8,I8.unpinned,T.keep _ _ _ st5 fun b hb o e=>(I8.pin (b,o) (List.mem_append_right _ (List.mem_append_right _ (eG hb e)))).1,fun b hb=>?_,w8⟩
     obtain ⟨o,e,d⟩:=T.obj _ _ st5 b hb
     exact (I8.pin (b,o) (List.mem_append_right _ (List.mem_append_right _ (eG hb e)))).2.1
    cases ok with
    | false=>exact again I7 q7
    | true=>
     show wpAny _ _ _ _ _ _
     refine thn (he _ _ _ _ _ _ s7 σ6 H7 _ I7 q7) fun x8 s8 hqq=>?_
     obtain ⟨v8,H8,I8,r8,ys,hys,hlt,q8⟩:=hqq
     refine thn (kg _ s8 σ6 H8 (.ref s2.heap.objs.size) [v8] (.ref s2.heap.objs.size) [x8] (fun _ H9=>∃ m',m' < n∧W (i + 1) m' σ6 H9) I8 rfl (.cons r8 .nil) ⟨_,ys,v8,rfl,rfl,hys,hlt,q8⟩) fun _ s9 hqq=>?_
     obtain ⟨_,H9,I9,_,q9⟩:=hqq
     exact again I9 q9
  ·rw [aA (fun z=>by
    obtain ⟨o,ho⟩:=fin b hb
    exact absurd z (Nat.ne_of_lt (Heap.lt_size ho)))]
   exact (f2 b hb).1
 exact codeAny_compStart_list (loop _ rfl) (T.self _ 0 _ _ _ (T.keep 0 _ _ st2 fun b _ o e=>old b o e) (loop _ rfl))
theorem tI (ix:List (Option Nat)) (N:List Str) (hc:X.calm=true) (hi:PI X tg iter wi) (hg:∀ C s H fp pn,PG (bq X scope N C s H fp pn) tg g) (ht:∀ C s H fp pn,PTs (bq X scope N C s H fp pn) ifs tc) (he:∀ C s H fp pn,PE (bq X scope N C s H fp pn) elt te)
  (hf:fR scope X.env=true:=by rfl) (hk:scope.kind=.function:=by rfl) (hcell:∀ y∈scope.names,y.2≠.cell:=by decide +kernel) (hnames:∀ y∈scope.names,y.2=.local→scope.names.lookup y.1=some .local:=by decide +kernel) (hix:rK X scope N ix=true:=by rfl)
  (hs:∀ x,foldedSetIterable iter X.env x=pure x:=by intro _;rfl):PE X (.ListComp elt [⟨tg,iter,ifs,0⟩] scope pos) (tG wi ix g tc te):=by
 intro pins s σ H Q I h
 rw [eval_ListComp]
 have hclos:closureFor scope X.env=pure (clOf scope X.env):=by
  unfold closureFor clOf
  have:=eI X.env scope.names [] (jq I.ok hf)
  simpa using this
 refine wpAny_comprehension_free (use:=none) rfl hs hclos hk hnames (thn (hi pins s σ H _ I h) fun v s1 h1=>thn h1 fun itv s2 h2=>?_)
 obtain ⟨it,fp,tn,J,H2,e,I2,T,st2,f2,q⟩:=h2
 subst e
 refine i8 (RR:=fun acc C=>compPost (model X.prog X.w) X.A X.xe none (EP X pins σ Q) acc C) (Q:=Q) (iter:=iter) hc I2 T st2 f2 hg ht he hf hk hcell hix q fun D C σ1 H1 s1 hC J1 q1=>?_
 obtain ⟨m,ns,_⟩:=J1.loc
 exact ⟨m,ns,fun h' hs'=>⟨.ref D,H1,I2.unblock f2 hC J1 hs',rfl,q1⟩⟩
end
section
variable {X:Cx} {scope:Scope} {N:List Str} {ix:List (Option Nat)} {tg iter elt:Expr} {ifs:List Expr} {pos:Pos} {wi:TI} {g:TG} {tc:TT} {te:TE}
theorem tJ {i:Nat} {y:Str} {py spos:Pos} (ix:List (Option Nat)) (N:List Str) (hN:X.N.Nodup) (hiy:X.N[i]?=some y) (hy:Loc X.env.scope y) (hc:X.calm=true) (hi:PI X tg iter wi) (hg:∀ C s H fp pn,PG (bq X scope N C s H fp pn) tg g) (ht:∀ C s H fp pn,PTs (bq X scope N C s H fp pn) ifs tc)
  (he:∀ C s H fp pn,PE (bq X scope N C s H fp pn) elt te) (hsw:swapsWith (.ListComp elt [⟨tg,iter,ifs,0⟩] scope pos) (some (.Name y py)) spos.line X.env=pure true:=by rfl)
  (hf:fR scope X.env=true:=by rfl) (hk:scope.kind=.function:=by rfl) (hcell:∀ y∈scope.names,y.2≠.cell:=by decide +kernel) (hnames:∀ y∈scope.names,y.2=.local→scope.names.lookup y.1=some .local:=by decide +kernel) (hix:rK X scope N ix=true:=by rfl)
  (hs:∀ x,foldedSetIterable iter X.env x=pure x:=by intro _;rfl) (hfn:X.fn y=true∨X.env.scope.names.lookup y=some .local:=by first | exact .inl rfl | exact .inr rfl) :
  PS X (.Assign [.Name y py] (.ListComp elt [⟨tg,iter,ifs,0⟩] scope pos) spos) (fun D σ H=>tG wi ix g tc te σ H fun v H'=>D.nx (σ.set i (some v)) H'):=by
 intro pins s σ H Dd I h
 rw [exec_Assign_Name_used _ _ _ _ hsw]
 have hclos:closureFor scope X.env=pure (clOf scope X.env):=by
  unfold closureFor clOf
  have:=eI X.env scope.names [] (jq I.ok hf)
  simpa using this
 refine wpAny_bind (wpAny_standAt (wpAny_bind ?_))
 show wpAny _ X.A (do let _ ←comprehension (.ListComp elt [⟨tg,iter,ifs,0⟩] scope pos) scope X.env _ (newList []) false (eval iter X.env) (some (assign (.Name y py) X.env))) _ _ s
 refine wpAny_bind (wpAny_mono (wpAny_comprehension_free (use:=some (assign (.Name y py) X.env)) (Q:=fun _ s'=>SP X pins Dd .next s') rfl hs hclos hk hnames
  (thn (hi pins s σ H _ I h) fun v s1 h1=>thn h1 fun itv s2 h2=>?_)) (fun _ s' hq=>wpAny_pure (wpAny_pure hq)) fun _ _ e=>e)
 obtain ⟨it,fp,tn,J,H2,e,I2,T,st2,f2,q⟩:=h2
 subst e
 refine i8 (RR:=fun acc C=>compPost (model X.prog X.w) X.A X.xe (some (assign (.Name y py) X.env)) (fun _ s'=>SP X pins Dd .next s') acc C) (Q:=fun v H'=>Dd.nx (σ.set i (some v)) H') (iter:=iter) hc I2 T st2 f2 hg ht he hf hk hcell hix q fun D C σ1 H1 s1 hC J1 q1=>?_
 obtain ⟨m,ns,_⟩:=id J1.loc
 have ns:s1.heap.Ns C m:=ns
 have I3:Inv X pins σ H1 s1:=I2.unblock f2 hC J1 (.refl ..)
 show wpAny _ X.A (assign (.Name y py) X.env (.ref D)) _ _ s1
 refine wpAny_assign_Name (j0 I3 hN hiy hy (v:=.ref D) rfl (fun s4 I4 ⟨a,sb,ha⟩=>?_) hfn)
 have aC:C≠a:=by
  intro z
  rcases ha with ha | ha
  ·exact Nat.ne_of_lt (Nat.lt_of_lt_of_le I2.lt hC) (ha▸z.symm)
  ·obtain ⟨v,o,ho,_⟩:=I2.cell y a ha
   exact Nat.ne_of_lt (Nat.lt_of_lt_of_le (Heap.lt_size ho) hC) z.symm
 refine ⟨m,ns.sameBut sb aC,fun h' hs'=>?_⟩
 have jf:H1 C=none:=J1.free
 have kk:∀ b o,b≠C→s4.heap.get? b=some o→h'.get? b=some o:=fun b o hb e=>(hs'.2 b hb).trans e
 refine ⟨σ.set i (some (.ref D)),H1,?_,q1⟩
 have z:=I4.turned (t':=s4.toks) kk jf (fun z=>Nat.ne_of_lt (Nat.lt_of_lt_of_le I2.lt hC) z.symm) (.inr (Nat.le_trans I2.sz hC)) (fun x c e z=>by
  obtain ⟨v,o,ho,_⟩:=I2.cell x c e
  exact Nat.ne_of_lt (Nat.lt_of_lt_of_le (Heap.lt_size ho) hC) z) (fun p hp z=>Nat.ne_of_lt (Nat.lt_of_lt_of_le (Heap.lt_size (I2.pin p hp).1) hC) z)
 exact z
end
noncomputable def Itv (val:Nat→V) (n:Nat):It:=⟨fun i _=>i < n,fun i H x H'=>H'=H∧x=val i,fun i _=>i=n⟩
theorem lT {P:Program} {w:World} {K:W.Frag} {tg:Expr} (ty:String) (hty:["enumerate","zip","dict_itemiterator","dict_reverseitemiterator","odict_iterator","itertools.zip_longest","itertools.pairwise"].contains ty=false) (l:List Nat) (t:Tok) (it:Addr)
  (Wk:∀ A:Around,A.handled=none→Walks P w A it [it] [it] (S l).cps.size (SignAt (S l)) (fun i h=>h.IsStrIter it ty (S l) t i))
  (self:∀ (A:Around) (i:Nat) (s:Shared) (Q:Value→Shared→Prop) (E:Value→Shared→Prop),s.heap.IsStrIter it ty (S l) t i→Q (.ref it) s→wpAny (model P w) A (pyIter (.ref it)) Q E s) :
  Turn P w K tg (Itv (fun i=>.str (S [l.getD i 0])) l.length) [it] it (fun i h=>h.IsStrIter it ty (S l) t i) where
 mem:=by simp
 obj:=fun i h st b hb=>by
  have e:b=it:=by simpa using hb
  subst e
  obtain ⟨o,e,c,d⟩:=st
  exact ⟨o,e,fun v z=>by rw [d] at z;cases z⟩
 keep:=fun i h h' st k=>by
  obtain ⟨o,e,r⟩:=st
  exact ⟨o,k it (by simp) o e,r⟩
 item:=by
  intro X hP hw hK hc i pins s σ H E I hf st hg
  subst hP hw hK
  obtain ⟨f0,f1,f2,f3,f4,f5⟩:=hf it (by simp)
  have hg:i < l.length:=hg
  refine (Wk X.A (I.ok.hd hc)).item i s _ _ (by simpa [S] using hg) st fun v h' tk hv st' kk=>?_
  obtain ⟨c,u,hc',rfl⟩:=hv
  have I1:Inv X pins σ H { s with heap:=h',toks:=tk }:=I.turned (fun b o hb e=>kk b o (by simpa using hb) e) f0 f1 f3 f4 f5
  obtain ⟨o,e,cc,d⟩:=id st'
  have hcl:l.getD i 0=c:=by
   have:l[i]?=some c:=by simpa [S] using hc'
   rw [List.getD_eq_getElem?_getD,this]
   rfl
  refine ⟨_,rfl,p9 (s:={ s with heap:=h',toks:=tk }) e cc d hty ⟨.str (S [l.getD i 0]),H,I1,⟨u,?_⟩,⟨rfl,rfl⟩,st',fun b hb=>(hf b hb).1⟩⟩
  rw [hcl]
 done:=by
  intro X hP hw hK hc i pins s σ H E I hf st hg
  subst hP hw hK
  obtain ⟨f0,f1,f2,f3,f4,f5⟩:=hf it (by simp)
  have hg:i=l.length:=hg
  have hn:(S l).cps.size=i:=by rw [hg];simp [S]
  refine (Wk X.A (I.ok.hd hc)).done s _ _ (by rw [hn];exact st) fun h' tk kk=>⟨rfl,I.turned (fun b o hb e=>kk b o (by simpa using hb) e) f0 f1 f3 f4 f5⟩
 self:=self
noncomputable def AD (tl:TE):TI:=fun σ H R=>tl σ H fun x H1=>∃ l,x=.str (S l)∧R (Itv (fun i=>.str (S [l.getD i 0])) l.length) H1
section
variable {X:Cx} {tg:Expr}
theorem wG {l:Expr} {tl:TE} (hl:PE X l tl):PI X tg l (AD tl):=by
 intro pins s σ H R I h
 refine thn (hl pins s σ H _ I h) fun v s1 hqq=>?_
 obtain ⟨x,H1,I1,r1,l,e,q⟩:=hqq
 subst e
 obtain ⟨t,rfl⟩:=r1
 cases ha:(S l).cps.all (·< 128)
 ·refine wpAny_pyIter_wide ha ?_
  refine ⟨s1.heap.objs.size,[s1.heap.objs.size],_,_,H1,rfl,I1.kept (t':=s1.toks) fun b o e=>Heap.get?_push_of_some _ e,
   lT "str_iterator" (by decide) l t _ (fun A hA=>Walks.strWide hA _ _ _) (fun _ _ _ _ _ st h=>wpAny_pyIter_striter_wide st h),⟨_,Heap.get?_push_size _ rfl,rfl,rfl⟩,fun b hb=>?_,q⟩
  have e:b=s1.heap.objs.size:=by simpa using hb
  subst e
  exact I1.fpOk (Nat.le_refl _) (I1.hok.fresh (Nat.le_refl _))
 ·refine wpAny_pyIter_ascii ha ?_
  refine ⟨s1.heap.objs.size,[s1.heap.objs.size],_,_,H1,rfl,I1.kept (t':=s1.toks) fun b o e=>Heap.get?_push_of_some _ e,
   lT "str_ascii_iterator" (by decide) l t _ (fun A hA=>Walks.strAscii hA _ _ _) (fun _ _ _ _ _ st h=>wpAny_pyIter_striter_ascii st h),⟨_,Heap.get?_push_size _ rfl,rfl,rfl⟩,fun b hb=>?_,q⟩
  have e:b=s1.heap.objs.size:=by simpa using hb
  subst e
  exact I1.fpOk (Nat.le_refl _) (I1.hok.fresh (Nat.le_refl _))
theorem lU {pins:List (Addr×Obj)} {s:Shared} {σ:L2.St} {H:Hp} {p:Addr} {xs:List V} {E:Value→Shared→Prop} {R:Value→Shared→Prop} (hc:X.calm=true) (I:Inv X pins σ H s) (h:SqL X.K H p xs∨SqT X.K H p xs)
  (k:∀ (it:Addr) (fp:List Addr) (o:Obj) (us:List Value) (Sx:Nat→Heap→Prop),Vals xs us→Walks X.prog X.w X.A.in1 it fp [it] us.length (fun i v=>us[i]?=some v) Sx→Sx 0 (s.heap.push o)→(∀ b∈fp,b < (s.heap.push o).objs.size)→it=s.heap.objs.size→R (.ref it) { s with heap:=s.heap.push o }) :
  wpAny (model X.prog X.w) X.A.in1 (pyIter (.ref p)) R E s:=by
 have hh:X.A.in1.handled=none:=I.ok.hd hc
 rcases h with h | h
 ·obtain ⟨us,r,pl,hz⟩:=I.list h
  have hlt:p < s.heap.objs.size:=by obtain ⟨o,ho,_⟩:=pl.isList;exact Heap.lt_size ho
  refine wpAny_pyIter_list pl.isList (k s.heap.objs.size [s.heap.objs.size,p] _ us (fun i h=>h.IsListIter s.heap.objs.size p i∧h.IsList p us.toArray) r (by
   have W:=Walks.list (prog:=X.prog) (w:=X.w) hh s.heap.objs.size p (Nat.ne_of_lt hlt) us.toArray
   simpa using W) ⟨⟨_,Heap.get?_push_size _ rfl,rfl,rfl⟩,pl.isList.at fun o e=>Heap.get?_push_of_some _ e⟩ (fun b hb=>?_) rfl)
  rw [Heap.size_push]
  rcases List.mem_cons.mp hb with rfl | hb
  ·exact Nat.lt_succ_self _
  ·rw [List.mem_singleton] at hb
   rw [hb]
   exact Nat.lt_succ_of_lt hlt
 ·obtain ⟨us,r,pl,hz⟩:=I.tuple h
  have pl':s.heap.IsTuple p us.toArray:=pl
  have hlt:p < s.heap.objs.size:=by obtain ⟨o,ho,_⟩:=pl;exact Heap.lt_size ho
  refine wpAny_pyIter_tuple pl' (k s.heap.objs.size [s.heap.objs.size,p] _ us (fun i h=>h.IsTupleIter s.heap.objs.size p i∧h.IsTuple p us.toArray) r (by
   have W:=Walks.tuple (prog:=X.prog) (w:=X.w) hh s.heap.objs.size p (Nat.ne_of_lt hlt) us.toArray
   simpa using W) ⟨⟨_,Heap.get?_push_size _ rfl,rfl,rfl⟩,pl'.at fun o e=>Heap.get?_push_of_some _ e⟩ (fun b hb=>?_) rfl)
  rw [Heap.size_push]
  rcases List.mem_cons.mp hb with rfl | hb
  ·exact Nat.lt_succ_self _
  ·rw [List.mem_singleton] at hb
   rw [hb]
   exact Nat.lt_succ_of_lt hlt
theorem i9 {pins:List (Addr×Obj)} {s:Shared} {σ:L2.St} {H:Hp} {o:Obj} {h':Heap} {tk:Nat} (I:Inv X pins σ H s) (kk:∀ b ob,b∉[s.heap.objs.size]→(s.heap.push o).get? b=some ob→h'.get? b=some ob) :
  Inv X pins σ H { s with heap:=h',toks:=tk }:=I.kept fun b ob e=>kk b ob (fun z=>Nat.ne_of_lt (Heap.lt_size e) (by simpa using z)) (Heap.get?_push_of_some _ e)
theorem aU {α:Type} (l:List α) (i:Nat) (d:α) (h:i < l.length):l.getD i d=l[i]:=by
 rw [List.getD_eq_getElem?_getD,List.getElem?_eq_getElem h]
 rfl
noncomputable def wH:V→Bool
 | .bl b=>b
 | _=>false
noncomputable def yW:V→Bool
 | .bl _=>true
 | _=>false
theorem qk {xs:List V} {us:List Value} (r:Vals xs us) (hb:xs.all yW=true):TruthOf X.prog X.w X.A.in1 (fun i v=>us[i]?=some v) (fun i=>wH (xs.getD i .non)):=by
 intro i v s Q E hv q
 have hl:=r.length
 obtain ⟨hi,_⟩:=List.getElem?_eq_some_iff.mp hv
 have e1:xs[i]?=some (xs[i]'(by lia)):=List.getElem?_eq_getElem _
 obtain ⟨u,hu,ru⟩:=r.get e1
 rw [hv] at hu
 cases hu
 have q:Q (wH (xs.getD i .non)) s:=q
 rw [tF e1] at q
 have bl:=List.all_eq_true.mp hb _ (List.mem_of_getElem? e1)
 generalize xs[i]'(by lia)=x at ru q bl
 cases x <;> first | (exact absurd (show false=true from bl) Bool.false_ne_true) | skip
 cases ru
 exact wpAny_truthy_bool q
theorem ox {xs:List V} (f:V→Bool):(List.range xs.length).all (fun i=>f (xs.getD i .non))=xs.all f:=by
 rw [Bool.eq_iff_iff,List.all_eq_true,List.all_eq_true]
 constructor
 ·intro h x hx
  obtain ⟨i,hi,rfl⟩:=List.getElem_of_mem hx
  have:=h i (List.mem_range.mpr hi)
  rwa [aU _ _ _ hi] at this
 ·intro h i hi
  have hi:=List.mem_range.mp hi
  rw [aU _ _ _ hi]
  exact h _ (List.getElem_mem hi)
theorem ql (hc:X.calm=true):cZ X (.builtin "all") (fun vs H Q=>∃ p xs,vs=[.ref p]∧(SqL X.K H p xs∨SqT X.K H p xs)∧xs.all yW=true∧Q (.bl (xs.all wH)) H):=by
 intro pins s σ H vs us Q I r h
 obtain ⟨p,xs,rfl,hp,hb,q⟩:=h
 obtain ⟨u,rfl,r1⟩:=gS r
 cases r1
 refine call_all_walk (lU hc I hp fun it fp o ws Sx rv W st hf hit=>⟨it,fp,[it],_,_,Sx,_,rfl,W,st,qk rv hb,fun h' tk kk=>?_⟩)
 subst hit
 refine ⟨.bl (xs.all wH),H,i9 (s:=s) I kk,?_,q⟩
 rw [←rv.length,ox]
 rfl
theorem gu {ns:List Int} {us:List Value} (r:Vals (ns.map V.int) us) {i:Nat} {v:Value} (h:us[i]?=some v):∃ t,v=.int (ns.getD i 0) t:=by
 have hl:=r.length
 rw [List.length_map] at hl
 obtain ⟨hi,_⟩:=List.getElem?_eq_some_iff.mp h
 have e1:(ns.map V.int)[i]?=some (.int (ns.getD i 0)):=by
  rw [List.getElem?_map,List.getElem?_eq_getElem (by lia),aU _ _ _ (by lia)]
  rfl
 obtain ⟨u,hu,t,rfl⟩:=r.get e1
 rw [h] at hu
 exact ⟨t,Option.some.inj hu⟩
theorem qm {ns:List Int} {us:List Value} (r:Vals (ns.map V.int) us) (A:Around):CmpOf X.prog X.w A .Gt (fun i v=>us[i]?=some v) (fun i j=>decide (ns.getD j 0 < ns.getD i 0)):=by
 intro i j vi vj s Q E hi hj q
 obtain ⟨t,rfl⟩:=gu r hi
 obtain ⟨t',rfl⟩:=gu r hj
 exact gt_int q
noncomputable def qo (ns:List Int):Int:=ns.foldl max (ns.headD 0)
noncomputable def yX (ns:List Int):Int:=ns.foldl min (ns.headD 0)
theorem lV (ns:List Int):∀ k,k < ns.length→argBest (fun i j=>decide (ns.getD j 0 < ns.getD i 0)) k < ns.length∧ns.getD (argBest (fun i j=>decide (ns.getD j 0 < ns.getD i 0)) k) 0=(ns.take (k + 1)).foldl max (ns.headD 0)
 | 0,h=>by
  refine ⟨h,?_⟩
  cases ns with
  | nil=>cases h
  | cons a l=>show a=max a a;lia
 | k + 1,h=>by
  obtain ⟨ih1,ih2⟩:=lV ns k (by lia)
  have et:ns.take (k + 1 + 1)=ns.take (k + 1)++[ns.getD (k + 1) 0]:=by
   rw [List.take_add_one,List.getElem?_eq_getElem h,aU _ _ _ h]
   rfl
  rw [et,List.foldl_append,←ih2]
  show (if decide (ns.getD (argBest (fun i j=>decide (ns.getD j 0 < ns.getD i 0)) k) 0 < ns.getD (k + 1) 0)=true then k + 1 else argBest (fun i j=>decide (ns.getD j 0 < ns.getD i 0)) k) < ns.length∧
   ns.getD (if decide (ns.getD (argBest (fun i j=>decide (ns.getD j 0 < ns.getD i 0)) k) 0 < ns.getD (k + 1) 0)=true then k + 1 else argBest (fun i j=>decide (ns.getD j 0 < ns.getD i 0)) k) 0=max _ _
  split
  ·rename_i hd
   have:=of_decide_eq_true hd
   exact ⟨h,by lia⟩
  ·rename_i hd
   rw [decide_eq_true_eq] at hd
   exact ⟨ih1,by lia⟩
theorem oy (hc:X.calm=true):cZ X (.builtin "max") (fun vs H Q=>∃ (p:Addr) (ns:List Int),vs=[.ref p]∧(SqL X.K H p (ns.map V.int)∨SqT X.K H p (ns.map V.int))∧ns≠[]∧Q (.int (qo ns)) H):=by
 intro pins s σ H vs us Q I r h
 obtain ⟨p,ns,rfl,hp,hne,q⟩:=h
 obtain ⟨u,rfl,r1⟩:=gS r
 cases r1
 have hn:0 < ns.length:=by cases ns with | nil=>exact absurd rfl hne | cons _ _=>simp
 refine call_max_walk (lU hc I hp fun it fp o ws Sx rv W st hf hit=>?_)
 have hl:=rv.length
 rw [List.length_map] at hl
 refine ⟨it,fp,[it],_,_,Sx,_,rfl,W,st,hf,by lia,qm rv _,fun v h' tk hv kk=>?_⟩
 subst hit
 obtain ⟨b1,b2⟩:=lV ns (ns.length - 1) (by lia)
 rw [←hl] at hv
 obtain ⟨t,rfl⟩:=gu rv hv
 refine ⟨.int (qo ns),H,i9 (s:=s) I kk,⟨t,?_⟩,q⟩
 rw [b2,show ns.length - 1 + 1=ns.length by lia,List.take_length]
 rfl
end
section
variable {prog:Program} {w:World} {A:Around} {R:Result→Shared→Prop} {it:Addr} {fp wr:List Addr} {n:Nat} {Pv:Nat→Value→Prop} {Sx:Nat→Heap→Prop} {kw:List (Str×Value)}
end
section
variable {X:Cx} {e k:Expr} {te tk:TE} {p pos kpos:Pos}
noncomputable def maxD (ns:List Int) (d:Int):Int:=if ns=[] then d else qo ns
end
section
variable {prog:Program} {w:World} {A:Around} {E:Value→Shared→Prop} {s:Shared}
theorem qp {it t:Addr} {i:Nat} {items:Array Value} {x:Value} {Q:Value→Shared→Prop} (hi:s.heap.IsTupleIter it t i) (ht:s.heap.IsTuple t items) (hx:items[i]?=some x)
  (k:∀ h',h'.IsTupleIter it t (i + 1)→Heap.SameBut it s.heap h'→Q x { s with heap:=h' }):wpAny (model prog w) A (Builtin.SmallTypes.nextOf (.ref it)) Q E s:=by
 obtain ⟨o,ho,oc,od⟩:=id hi
 obtain ⟨q,hq,_,n,qd⟩:=ht
 unfold Builtin.SmallTypes.nextOf
 refine wpAny_bind (wpAny_callSpecial?_slot (name:=Str.ofString "__next__") hi.typeIs F.slot_tuple_iterator_next (wpAny_call_entry F.slot_tuple_iterator_next hi.typeIs F.entry_tuple_iterator_next ?_ (F.args_tuple_iterator_next_1 _)))
 show wpAny _ _ (field (.ref it) 0 >>= _) _ _ s
 refine wpAny_bind (wpAny_field ho od (x:=.ref t) rfl ?_)
 show wpAny _ _ (if (Value.ref t == Value.none)=true then _ else _) _ _ s
 rw [if_neg (fun z:(Value.ref t == Value.none)=true=>Bool.false_ne_true z)]
 show wpAny _ _ (field (.ref it) 1 >>= _) _ _ s
 refine wpAny_bind (wpAny_field ho od (x:=.int i 0) rfl (wpAny_bind (wpAny_seqItems hq qd ?_)))
 simp only [Int.toNat_natCast,hx]
 refine wpAny_bind (wpAny_setField ho od (by simp) (wpAny_pure ⟨x,rfl,wpAny_pure (k _ ⟨_,Heap.get?_update_self _ ho (Obj.isFreed_of_fields (Obj.data_mapFields od _)),(Obj.cls_mapFields ..).trans oc,?_⟩ (Heap.SameBut.update ..))⟩))
 rw [Obj.data_mapFields od]
 simp [rawInt]
theorem tL {it t:Addr} {i:Nat} {items:Array Value} {Q:Value→Shared→Prop} (hh:A.handled=none) (hi:s.heap.IsTupleIter it t i) (ht:s.heap.IsTuple t items) (hx:items[i]?=none)
  (k:∀ h' e,Heap.ExtBut it s.heap h'→(∃ o,h'.get? e=some o∧o.cls=.type "StopIteration")→E (.ref e) { s with heap:=h' }):wpAny (model prog w) A (Builtin.SmallTypes.nextOf (.ref it)) Q E s:=by
 obtain ⟨o,ho,oc,od⟩:=id hi
 obtain ⟨q,hq,_,n,qd⟩:=ht
 unfold Builtin.SmallTypes.nextOf
 refine wpAny_bind (wpAny_callSpecial?_slot (name:=Str.ofString "__next__") hi.typeIs F.slot_tuple_iterator_next (wpAny_call_entry F.slot_tuple_iterator_next hi.typeIs F.entry_tuple_iterator_next ?_ (F.args_tuple_iterator_next_1 _)))
 show wpAny _ _ (field (.ref it) 0 >>= _) _ _ s
 refine wpAny_bind (wpAny_field ho od (x:=.ref t) rfl ?_)
 show wpAny _ _ (if (Value.ref t == Value.none)=true then _ else _) _ _ s
 rw [if_neg (fun z:(Value.ref t == Value.none)=true=>Bool.false_ne_true z)]
 show wpAny _ _ (field (.ref it) 1 >>= _) _ _ s
 refine wpAny_bind (wpAny_field ho od (x:=.int i 0) rfl (wpAny_bind (wpAny_seqItems hq qd ?_)))
 simp only [Int.toNat_natCast,hx]
 refine wpAny_bind (wpAny_rule (wpAny_bind (wpAny_setField ho od (by simp) ?_)))
 show wpAny _ _ (newExc (.type "StopIteration") [] >>= _) _ _ _
 refine wpAny_bind ?_
 simp only [newExc,newTuple]
 refine wpAny_bind (wpAny_newObj_type (wpAny_bind (m:=firstArgMember _ _) (wpAny_of_eq (a:=Value.none) (by first | rfl | (simp only [firstArgMember];rfl)) (wpAny_newObj_type ?_ (by size_fits)))) (by size_fits))
 simp only [raiseNew]
 refine wpAny_bind (wpAny_handled ?_)
 first
  | rw [show A.in1.handled=none from hh]
  | rw [hh]
 exact wpAny_bind (wpAny_pure (wpAny_throw (k _ _ (((Heap.SameBut.update ..).extBut.push _).push _) ⟨_,Heap.get?_push_size _ rfl,rfl⟩)))
def IsIt (k:Bool) (h:Heap) (it l:Addr) (i:Nat):Prop:=match k with
 | true=>h.IsListIter it l i
 | false=>h.IsTupleIter it l i
def IsSq (k:Bool) (h:Heap) (l:Addr) (xs:Array Value):Prop:=match k with
 | true=>h.IsList l xs
 | false=>h.IsTuple l xs
theorem IsIt.at {k:Bool} {h h':Heap} {it l:Addr} {i:Nat} (x:IsIt k h it l i) (e:∀ o,h.get? it=some o→h'.get? it=some o):IsIt k h' it l i:=by
 cases k with
 | true=>obtain ⟨o,ho,r⟩:=(show h.IsListIter it l i from x);exact (show h'.IsListIter it l i from ⟨o,e o ho,r⟩)
 | false=>obtain ⟨o,ho,r⟩:=(show h.IsTupleIter it l i from x);exact (show h'.IsTupleIter it l i from ⟨o,e o ho,r⟩)
theorem IsSq.at {k:Bool} {h h':Heap} {l:Addr} {xs:Array Value} (x:IsSq k h l xs) (e:∀ o,h.get? l=some o→h'.get? l=some o):IsSq k h' l xs:=by
 cases k with
 | true=>obtain ⟨o,ho,r⟩:=(show h.IsList l xs from x);exact (show h'.IsList l xs from ⟨o,e o ho,r⟩)
 | false=>obtain ⟨o,ho,r⟩:=(show h.IsTuple l xs from x);exact (show h'.IsTuple l xs from ⟨o,e o ho,r⟩)
theorem IsIt.obj {k:Bool} {h:Heap} {it l:Addr} {i:Nat} (x:IsIt k h it l i):∃ o,h.get? it=some o∧∀ v,o.data≠.cell v:=by
 cases k with
 | true=>obtain ⟨o,ho,_,d⟩:=(show h.IsListIter it l i from x);exact ⟨o,ho,fun v z=>by rw [d] at z;cases z⟩
 | false=>obtain ⟨o,ho,_,d⟩:=(show h.IsTupleIter it l i from x);exact ⟨o,ho,fun v z=>by rw [d] at z;cases z⟩
theorem lp {k:Bool} {it l:Addr} {i:Nat} {xs:Array Value} {x:Value} {Q:Value→Shared→Prop} (hi:IsIt k s.heap it l i) (hl:IsSq k s.heap l xs) (hx:xs[i]?=some x)
  (q:∀ h',IsIt k h' it l (i + 1)→Heap.SameBut it s.heap h'→Q x { s with heap:=h' }):wpAny (model prog w) A (Builtin.SmallTypes.nextOf (.ref it)) Q E s:=by
 cases k with
 | true=>exact wpAny_nextOf_list_item hi hl hx q
 | false=>exact qp hi hl hx q
theorem rL {k:Bool} {it l:Addr} {i:Nat} {xs:Array Value} {Q:Value→Shared→Prop} (hh:A.handled=none) (hi:IsIt k s.heap it l i) (hl:IsSq k s.heap l xs) (hx:xs[i]?=none)
  (q:∀ h' e,Heap.ExtBut it s.heap h'→(∃ o,h'.get? e=some o∧o.cls=.type "StopIteration")→E (.ref e) { s with heap:=h' }):wpAny (model prog w) A (Builtin.SmallTypes.nextOf (.ref it)) Q E s:=by
 cases k with
 | true=>exact wpAny_nextOf_list_end hh hi hl hx q
 | false=>exact tL hh hi hl hx q
theorem tM {k1 k2:Bool} {z TI TO i1 i2 l1 l2:Addr} {i:Nat} {xs ys:Array Value} {x y a b:Value} {Q:Value→Shared→Prop} (D:ZipApart z TI TO i1 i2 l1 l2) (hz:IsZip s.heap z TI TO .none) (hTI:IsPair s.heap TI (.ref i1) (.ref i2)) (hTO:IsPair s.heap TO a b)
  (h1:IsIt k1 s.heap i1 l1 i) (h2:IsIt k2 s.heap i2 l2 i) (g1:IsSq k1 s.heap l1 xs) (g2:IsSq k2 s.heap l2 ys) (hx:xs[i]?=some x) (hy:ys[i]?=some y)
  (q:∀ h',IsZip h' z TI TO (rawInt s.heap.objs.size)→IsPair h' TO x y→IsIt k1 h' i1 l1 (i + 1)→IsIt k2 h' i2 l2 (i + 1)→IsPair h' s.heap.objs.size x y→
   (∀ c o,c≠z→c≠TO→c≠i1→c≠i2→s.heap.get? c=some o→h'.get? c=some o)→Q (.ref s.heap.objs.size) { s with heap:=h' }) :
  wpAny (model prog w) A (Builtin.«zip.__next__» ⟨[.ref z],[]⟩) (fun fin s'=>∃ v,fin=.done (.ret v)∧Q v s') E s:=by
 show wpAny _ _ (field (.ref z) 2 >>= _) _ _ _
 refine wpAny_bind (wpAny_field hz rfl (x:=.bool false) rfl ?_)
 show wpAny _ _ (field (.ref z) 3 >>= _) _ _ _
 refine wpAny_bind (wpAny_field hz rfl (x:=.ref TI) rfl (wpAny_bind (wpAny_seqItems hTI rfl ?_)))
 show wpAny _ _ (Builtin.SmallTypes.ownedTupleIsFree (.ref z) >>= _) _ _ _
 refine wpAny_bind ?_
 unfold Builtin.SmallTypes.ownedTupleIsFree
 refine wpAny_bind (wpAny_field hz rfl (x:=.none) rfl (wpAny_pure ?_))
 rw [if_pos (by rfl)]
 refine wpAny_bind (wpAny_rule (wpAny_bind (wpAny_field hz rfl (x:=.ref TO) rfl (wpAny_bind (wpAny_setField_rec hz (by simp) fun hA zA sA=>?_)))))
 have zA:IsZip hA z TI TO .ellipsis:=zA
 refine wpAny_bind ?_
 simp only [List.zipIdx_cons,List.zipIdx_nil,List.forIn_cons,List.forIn_nil]
 refine wpAny_bind (wpAny_bind (wpAny_onRaise ?_))
 show wpAny _ _ (Builtin.SmallTypes.nextOf (.ref i1) >>= _) _ _ _
 refine wpAny_bind (lp (h1.at fun o e=>sA.extBut _ _ D.i1z e) (g1.at fun o e=>sA.extBut _ _ D.l1z e) hx fun hB iB sB=>wpAny_pure ?_)
 have tB:IsPair hB TO a b:=sB.extBut _ _ D.TOi1 (sA.extBut _ _ D.TOz hTO)
 refine wpAny_bind (wpAny_seqItems tB rfl (wpAny_bind (wpAny_updateSeq_pair tB fun hC tC sC=>wpAny_bind (wpAny_letGo (wpAny_pure ?_)))))
 have tC:IsPair hC TO x b:=tC
 refine wpAny_bind (wpAny_bind (wpAny_onRaise ?_))
 show wpAny _ _ (Builtin.SmallTypes.nextOf (.ref i2) >>= _) _ _ _
 refine wpAny_bind (lp (h2.at fun o e=>sC.extBut _ _ D.TOi2.symm (sB.extBut _ _ D.i12.symm (sA.extBut _ _ D.i2z e))) (g2.at fun o e=>sC.extBut _ _ D.l2TO (sB.extBut _ _ D.l2i1 (sA.extBut _ _ D.l2z e))) hy fun hD iD sD=>wpAny_pure ?_)
 have tD:IsPair hD TO x b:=sD.extBut _ _ D.TOi2 tC
 refine wpAny_bind (wpAny_seqItems tD rfl (wpAny_bind (wpAny_updateSeq_pair tD fun hE tE sE=>wpAny_bind (wpAny_letGo (wpAny_pure (wpAny_pure ?_))))))
 have tE:IsPair hE TO x y:=tE
 refine wpAny_bind (wpAny_seqItems tE rfl (wpAny_bind (wpAny_newTuple ?_)))
 have ez:hE.objs.size=s.heap.objs.size:=by rw [sE.1,sD.1,sC.1,sB.1,sA.1]
 have zE:IsZip hE z TI TO .ellipsis:=sE.extBut _ _ D.TOz.symm (sD.extBut _ _ D.i2z.symm (sC.extBut _ _ D.TOz.symm (sB.extBut _ _ D.i1z.symm zA)))
 have kE:∀ c o,c≠z→c≠TO→c≠i1→c≠i2→s.heap.get? c=some o→hE.get? c=some o:=fun c o c1 c2 c3 c4 e=>sE.extBut _ _ c2 (sD.extBut _ _ c4 (sC.extBut _ _ c2 (sB.extBut _ _ c3 (sA.extBut _ _ c1 e))))
 have i1E:IsIt k1 hE i1 l1 (i + 1):=iB.at fun o e=>sE.extBut _ _ D.TOi1.symm (sD.extBut _ _ D.i12 (sC.extBut _ _ D.TOi1.symm e))
 have i2E:IsIt k2 hE i2 l2 (i + 1):=iD.at fun o e=>sE.extBut _ _ D.TOi2.symm e
 show wpAny _ _ (Builtin.SmallTypes.ownedTupleHandOut (.ref z) (.ref hE.objs.size) >>= _) _ _ _
 refine wpAny_bind ?_
 unfold Builtin.SmallTypes.ownedTupleHandOut
 have zF:IsZip (hE.push { cls:=.type "tuple",data:=.seq #[x,y] }) z TI TO .ellipsis:=Heap.get?_push_of_some _ zE
 refine wpAny_bind (wpAny_setField_rec zF (by simp) fun hG zG sG=>?_)
 have zG:IsZip hG z TI TO (rawInt hE.objs.size):=zG
 refine wpAny_setField_rec zG (by simp) fun hK zK sK=>?_
 have zK:IsZip hK z TI TO (rawInt hE.objs.size):=zK
 have up:∀ c o,c≠z→hE.get? c=some o→hK.get? c=some o:=fun c o c1 e=>sK.extBut _ _ c1 (sG.extBut _ _ c1 (Heap.get?_push_of_some _ e))
 have nz:hE.objs.size≠z:=Nat.ne_of_gt (Heap.lt_size zE)
 have tK:IsPair hK hE.objs.size x y:=sK.extBut _ _ nz (sG.extBut _ _ nz (Heap.get?_push_size _ rfl))
 rw [ez] at zK tK
 refine wpAny_pure ⟨_,rfl,?_⟩
 show Q (.ref hE.objs.size) _
 rw [ez]
 exact q hK zK (up _ _ D.TOz tE) (i1E.at fun o e=>up _ o D.i1z e) (i2E.at fun o e=>up _ o D.i2z e) tK fun c o c1 c2 c3 c4 e=>up c o c1 (kE c o c1 c2 c3 c4 e)
theorem wI {k1 k2:Bool} {z TI TO i1 i2 l1 l2:Addr} {i:Nat} {xs ys:Array Value} {a b:Value} {Q:Fin→Shared→Prop} (hh:A.handled=none) (D:ZipApart z TI TO i1 i2 l1 l2) (hz:IsZip s.heap z TI TO .none) (hTI:IsPair s.heap TI (.ref i1) (.ref i2)) (hTO:IsPair s.heap TO a b)
  (h1:IsIt k1 s.heap i1 l1 i) (h2:IsIt k2 s.heap i2 l2 i) (g1:IsSq k1 s.heap l1 xs) (g2:IsSq k2 s.heap l2 ys) (he:xs[i]?=none∨ys[i]?=none)
  (q:∀ h' e,(∀ c o,c≠z→c≠TO→c≠i1→c≠i2→s.heap.get? c=some o→h'.get? c=some o)→(∃ o,h'.get? e=some o∧o.cls=.type "StopIteration")→E (.ref e) { s with heap:=h' }) :
  wpAny (model prog w) A (Builtin.«zip.__next__» ⟨[.ref z],[]⟩) Q E s:=by
 show wpAny _ _ (field (.ref z) 2 >>= _) _ _ _
 refine wpAny_bind (wpAny_field hz rfl (x:=.bool false) rfl ?_)
 show wpAny _ _ (field (.ref z) 3 >>= _) _ _ _
 refine wpAny_bind (wpAny_field hz rfl (x:=.ref TI) rfl (wpAny_bind (wpAny_seqItems hTI rfl ?_)))
 show wpAny _ _ (Builtin.SmallTypes.ownedTupleIsFree (.ref z) >>= _) _ _ _
 refine wpAny_bind ?_
 unfold Builtin.SmallTypes.ownedTupleIsFree
 refine wpAny_bind (wpAny_field hz rfl (x:=.none) rfl (wpAny_pure ?_))
 rw [if_pos (by rfl)]
 refine wpAny_bind (wpAny_rule (wpAny_bind (wpAny_field hz rfl (x:=.ref TO) rfl (wpAny_bind (wpAny_setField_rec hz (by simp) fun hA zA sA=>?_)))))
 have zA:IsZip hA z TI TO .ellipsis:=zA
 refine wpAny_bind ?_
 simp only [List.zipIdx_cons,List.zipIdx_nil,List.forIn_cons,List.forIn_nil]
 refine wpAny_bind (wpAny_bind (wpAny_onRaise ?_))
 show wpAny _ _ (Builtin.SmallTypes.nextOf (.ref i1) >>= _) _ _ _
 cases hx:xs[i]? with
 | none=>
  refine wpAny_bind (rL hh (h1.at fun o e=>sA.extBut _ _ D.i1z e) (g1.at fun o e=>sA.extBut _ _ D.l1z e) hx fun hB e sB hqq=>?_)
  obtain ⟨oe,ge,ce⟩:=hqq
  have zB:IsZip hB z TI TO .ellipsis:=sB _ _ D.i1z.symm zA
  have ne:e≠z:=fun x=>by subst x;rw [zB] at ge;cases ge;simp at ce
  exact wpAny_setField_rec zB (by simp) fun hC _ sC=>q hC e (fun c o c1 _ c3 _ x=>sC.extBut _ _ c1 (sB _ _ c3 (sA.extBut _ _ c1 x))) ⟨oe,sC.extBut _ _ ne ge,ce⟩
 | some x=>
  have hy:ys[i]?=none:=by
   rcases he with z | z
   ·rw [hx] at z;cases z
   ·exact z
  refine wpAny_bind (lp (h1.at fun o e=>sA.extBut _ _ D.i1z e) (g1.at fun o e=>sA.extBut _ _ D.l1z e) hx fun hB iB sB=>wpAny_pure ?_)
  have tB:IsPair hB TO a b:=sB.extBut _ _ D.TOi1 (sA.extBut _ _ D.TOz hTO)
  refine wpAny_bind (wpAny_seqItems tB rfl (wpAny_bind (wpAny_updateSeq_pair tB fun hC tC sC=>wpAny_bind (wpAny_letGo (wpAny_pure ?_)))))
  refine wpAny_bind (wpAny_bind (wpAny_onRaise ?_))
  show wpAny _ _ (Builtin.SmallTypes.nextOf (.ref i2) >>= _) _ _ _
  refine wpAny_bind (rL hh (h2.at fun o e=>sC.extBut _ _ D.TOi2.symm (sB.extBut _ _ D.i12.symm (sA.extBut _ _ D.i2z e))) (g2.at fun o e=>sC.extBut _ _ D.l2TO (sB.extBut _ _ D.l2i1 (sA.extBut _ _ D.l2z e))) hy fun hD e sD hqq=>?_)
  obtain ⟨oe,ge,ce⟩:=hqq
  have zD:IsZip hD z TI TO .ellipsis:=sD _ _ D.i2z.symm (sC.extBut _ _ D.TOz.symm (sB.extBut _ _ D.i1z.symm zA))
  have ne:e≠z:=fun x=>by subst x;rw [zD] at ge;cases ge;simp at ce
  exact wpAny_setField_rec zD (by simp) fun hF _ sF=>q hF e (fun c o c1 c2 c3 c4 x=>sF.extBut _ _ c1 (sD _ _ c4 (sC.extBut _ _ c2 (sB.extBut _ _ c3 (sA.extBut _ _ c1 x))))) ⟨oe,sF.extBut _ _ ne ge,ce⟩
end
noncomputable def itObj (k:Bool) (l:Addr):Obj:=match k with
 | true=>{ cls:=.type "list_iterator",data:=.fields #[.ref l,.int 0 0] }
 | false=>{ cls:=.type "tuple_iterator",data:=.fields #[.ref l,.int 0 0] }
theorem lW (k:Bool) (h:Heap) (l:Addr):IsIt k (h.push (itObj k l)) h.objs.size l 0:=by
 cases k with
 | true=>exact ⟨_,Heap.get?_push_size _ rfl,rfl,rfl⟩
 | false=>exact ⟨_,Heap.get?_push_size _ rfl,rfl,rfl⟩
abbrev zA (h:Heap) (k1:Bool) (l1:Addr):Heap:=h.push (itObj k1 l1)
abbrev zB (h:Heap) (k1 k2:Bool) (l1 l2:Addr):Heap:=(zA h k1 l1).push (itObj k2 l2)
abbrev zC (h:Heap) (k1 k2:Bool) (l1 l2:Addr):Heap:=(zB h k1 k2 l1 l2).push { cls:=.type "tuple",data:=.seq #[.ref h.objs.size,.ref (zA h k1 l1).objs.size] }
abbrev zD (h:Heap) (k1 k2:Bool) (l1 l2:Addr):Heap:=(zC h k1 k2 l1 l2).push { cls:=.type "tuple",data:=.seq #[.none,.none] }
abbrev zE (h:Heap) (k1 k2:Bool) (l1 l2:Addr):Heap:=(zD h k1 k2 l1 l2).push { cls:=.type "zip",data:=.fields #[.none,.bool false,.bool false,.ref (zB h k1 k2 l1 l2).objs.size,.ref (zC h k1 k2 l1 l2).objs.size] }
set_option maxHeartbeats 8000000 in
theorem wJ (k1 k2:Bool) (l1 l2:Addr) (xs ys:Array Value) :
  Meets (Builtin.«zip.__new__» ⟨[.type "zip",.ref l1,.ref l2],[]⟩) (fun _ R s=>IsSq k1 s.heap l1 xs∧IsSq k2 s.heap l2 ys∧R (.ok (.ret (.ref (zD s.heap k1 k2 l1 l2).objs.size))) { s with heap:=zE s.heap k1 k2 l1 l2 }):=
 .of_wp fun prog w A R s h=>by
  obtain ⟨hp,g,d,tk,os⟩:=s
  obtain ⟨g1,g2,q⟩:=h
  have hsub:=sub_zip
  cases k1 with
  | true=>
   have e1:Heap.IsList (Shared.heap ⟨hp,g,d,tk,os⟩) l1 xs:=g1
   cases k2 with
   | true=>
    have e2:Heap.IsList (Shared.heap ⟨hp.push { cls:=.type "list_iterator",data:=.fields #[.ref l1,.int 0 0] },g,d,tk,os⟩) l2 ys:=Heap.IsList.push g2 _
    wp_walk using wpAny_pyIter_list e1,wpAny_pyIter_list e2
    exact ⟨_,rfl,q⟩
   | false=>
    have e2:Heap.IsTuple (Shared.heap ⟨hp.push { cls:=.type "list_iterator",data:=.fields #[.ref l1,.int 0 0] },g,d,tk,os⟩) l2 ys:=Heap.IsTuple.push g2 _
    wp_walk using wpAny_pyIter_list e1,wpAny_pyIter_tuple e2
    exact ⟨_,rfl,q⟩
  | false=>
   have e1:Heap.IsTuple (Shared.heap ⟨hp,g,d,tk,os⟩) l1 xs:=g1
   cases k2 with
   | true=>
    have e2:Heap.IsList (Shared.heap ⟨hp.push { cls:=.type "tuple_iterator",data:=.fields #[.ref l1,.int 0 0] },g,d,tk,os⟩) l2 ys:=Heap.IsList.push g2 _
    wp_walk using wpAny_pyIter_tuple e1,wpAny_pyIter_list e2
    exact ⟨_,rfl,q⟩
   | false=>
    have e2:Heap.IsTuple (Shared.heap ⟨hp.push { cls:=.type "tuple_iterator",data:=.fields #[.ref l1,.int 0 0] },g,d,tk,os⟩) l2 ys:=Heap.IsTuple.push g2 _
    wp_walk using wpAny_pyIter_tuple e1,wpAny_pyIter_tuple e2
    exact ⟨_,rfl,q⟩
def ZS (k1 k2:Bool) (z TI TO i1 i2 l1 l2:Addr) (i:Nat) (h:Heap):Prop:=IsZip h z TI TO .none∧IsPair h TI (.ref i1) (.ref i2)∧(∃ a b,IsPair h TO a b)∧IsIt k1 h i1 l1 i∧IsIt k2 h i2 l2 i
theorem tN {prog:Program} {w:World} {A:Around} {E:Value→Shared→Prop} {s:Shared} {k1 k2:Bool} {l1 l2:Addr} {xs ys:Array Value} {Q:Value→Shared→Prop} (g1:IsSq k1 s.heap l1 xs) (g2:IsSq k2 s.heap l2 ys)
  (q:∀ h',ZS k1 k2 (s.heap.objs.size + 4) (s.heap.objs.size + 2) (s.heap.objs.size + 3) s.heap.objs.size (s.heap.objs.size + 1) l1 l2 0 h'→(∀ c o,s.heap.get? c=some o→h'.get? c=some o)→Q (.ref (s.heap.objs.size + 4)) { s with heap:=h' }) :
  wpAny (model prog w) A (call (.type "zip") [.ref l1,.ref l2]) Q E s:=by
 refine callType_new F.called_zip (by decide) (F.typeCall_zip_2 _ _) (F.newCall_zip_2 _ _) (fun obj=>F.args_object_init_3 obj _ _) F.entry_zip_new (wJ k1 k2 l1 l2 xs ys) ⟨g1,g2,?_⟩
 have nA:(zA s.heap k1 l1).objs.size=s.heap.objs.size + 1:=Heap.size_push ..
 have nB:(zB s.heap k1 k2 l1 l2).objs.size=s.heap.objs.size + 2:=by rw [Heap.size_push,nA]
 have nC:(zC s.heap k1 k2 l1 l2).objs.size=s.heap.objs.size + 3:=by rw [Heap.size_push,nB]
 have nD:(zD s.heap k1 k2 l1 l2).objs.size=s.heap.objs.size + 4:=by rw [Heap.size_push,nC]
 have pu:∀ {h:Heap} {o:Obj} {c:Addr} {v:Obj},h.get? c=some v→(h.push o).get? c=some v:=fun e=>Heap.get?_push_of_some _ e
 have gz:(zE s.heap k1 k2 l1 l2).get? (zD s.heap k1 k2 l1 l2).objs.size=some _:=Heap.get?_push_size _ rfl
 have go:(zE s.heap k1 k2 l1 l2).get? (zC s.heap k1 k2 l1 l2).objs.size=some _:=pu (Heap.get?_push_size _ rfl)
 have gi:(zE s.heap k1 k2 l1 l2).get? (zB s.heap k1 k2 l1 l2).objs.size=some _:=pu (pu (Heap.get?_push_size _ rfl))
 have j2:IsIt k2 (zE s.heap k1 k2 l1 l2) (zA s.heap k1 l1).objs.size l2 0:=(lW k2 (zA s.heap k1 l1) l2).at fun o e=>pu (pu (pu e))
 have j1:IsIt k1 (zE s.heap k1 k2 l1 l2) s.heap.objs.size l1 0:=(lW k1 s.heap l1).at fun o e=>pu (pu (pu (pu e)))
 show _∧_
 rw [nB,nC,nD] at gz
 rw [nA,nB] at gi
 rw [nC] at go
 rw [nA] at j2
 rw [nD]
 exact ⟨⟨_,gz,rfl⟩,q _ ⟨gz,gi,⟨_,_,go⟩,j1,j2⟩ fun c o x=>pu (pu (pu (pu (pu x))))⟩
noncomputable def Itz (K:W.Frag) (k1 k2:Bool) (a b:Addr):It:=
 ⟨fun i H=>∃ xs ys x y,(if k1 then SqL K H a xs else SqT K H a xs)∧(if k2 then SqL K H b ys else SqT K H b ys)∧xs[i]?=some x∧ys[i]?=some y,
  fun i H v H'=>∃ T,H T=none∧v=.ref T∧∀ xs ys x y,(if k1 then SqL K H a xs else SqT K H a xs)→(if k2 then SqL K H b ys else SqT K H b ys)→xs[i]?=some x→ys[i]?=some y→H'=upd H T (.tup [x,y]),
  fun i H=>∃ xs ys,(if k1 then SqL K H a xs else SqT K H a xs)∧(if k2 then SqL K H b ys else SqT K H b ys)∧i=min xs.length ys.length⟩
section
variable {X:Cx} {pins:List (Addr×Obj)} {σ:L2.St} {H:Hp} {s:Shared}
theorem m6 (I:Inv X pins σ H s) {k:Bool} {a:Addr} {xs:List V} (h:if k then SqL X.K H a xs else SqT X.K H a xs):∃ us:List Value,Vals xs us∧IsSq k s.heap a us.toArray:=by
 cases k with
 | true=>
  obtain ⟨us,r,p,_⟩:=I.list (show SqL X.K H a xs from h)
  exact ⟨us,r,p.isList⟩
 | false=>
  obtain ⟨us,r,p,_⟩:=I.tuple (show SqT X.K H a xs from h)
  exact ⟨us,r,(show s.heap.IsTuple a us.toArray from p)⟩
theorem rM (I:Inv X pins σ H s) {k:Bool} {a:Addr} {xs ys:List V} (h:if k then SqL X.K H a xs else SqT X.K H a xs) (h':if k then SqL X.K H a ys else SqT X.K H a ys):xs=ys:=by
 cases k with
 | true=>exact I.list_inj (show SqL X.K H a xs from h) (show SqL X.K H a ys from h')
 | false=>exact I.tuple_inj (show SqT X.K H a xs from h) (show SqT X.K H a ys from h')
theorem eV (I:Inv X pins σ H s) {k:Bool} {a b:Addr} {xs:List V} (h:if k then SqL X.K H a xs else SqT X.K H a xs) (f:nH X pins H b):a≠b:=by
 rintro rfl
 obtain ⟨f0,_,_,f3,_⟩:=f
 have nb:∀ o,X.K.lookup a=some o→False:=fun o hk=>by
  have e:=I.ok.mod.kin a o hk
  rcases f3 with z | z
  ·exact I.ok.noex a o e z
  ·exact absurd (Nat.lt_of_lt_of_le (Heap.lt_size e) (Nat.le_trans I.ok.bsz z)) (Nat.lt_irrefl _)
 cases k with
 | true=>
  rcases (show SqL X.K H a xs from h) with (h | ⟨o,h⟩) | ⟨o,its,n,hk,_⟩
  ·rw [f0] at h;cases h
  ·rw [f0] at h;cases h
  ·exact nb o hk
 | false=>
  rcases (show SqT X.K H a xs from h) with (h | ⟨o,h⟩) | ⟨o,its,n,hk,_⟩
  ·rw [f0] at h;cases h
  ·rw [f0] at h;cases h
  ·exact nb o hk
end
theorem nx_zip_item {prog:Program} {w:World} {A:Around} {E:Value→Shared→Prop} {s:Shared} {k1 k2:Bool} {z TI TO i1 i2 l1 l2:Addr} {i:Nat} {xs ys:Array Value} {x y:Value} {Q:Option Value→Shared→Prop} (D:ZipApart z TI TO i1 i2 l1 l2) (st:ZS k1 k2 z TI TO i1 i2 l1 l2 i s.heap)
  (g1:IsSq k1 s.heap l1 xs) (g2:IsSq k2 s.heap l2 ys) (hx:xs[i]?=some x) (hy:ys[i]?=some y)
  (q:∀ h',IsZip h' z TI TO (rawInt s.heap.objs.size)→IsPair h' TO x y→IsIt k1 h' i1 l1 (i + 1)→IsIt k2 h' i2 l2 (i + 1)→IsPair h' s.heap.objs.size x y→
   (∀ c o,c≠z→c≠TO→c≠i1→c≠i2→s.heap.get? c=some o→h'.get? c=some o)→Q (some (.ref s.heap.objs.size)) { s with heap:=h' }):wpAny (model prog w) A (pyNext (.ref z)) Q E s:=by
 obtain ⟨hz,hTI,⟨a,b,hTO⟩,h1,h2⟩:=st
 have ty:s.TypeIs (.ref z) "zip":=⟨_,hz,rfl⟩
 unfold pyNext
 exact wpAny_bind (wpAny_attempt (wpAny_callSpecial?_slot (name:=Str.ofString "__next__") ty F.slot_zip_next (wpAny_call_entry F.slot_zip_next ty F.entry_zip_next (tM D hz hTI hTO h1 h2 g1 g2 hx hy fun h' a1 a2 a3 a4 a5 a6=>wpAny_pure (q h' a1 a2 a3 a4 a5 a6)) (F.args_zip_next_1 _))))
theorem m7 {prog:Program} {w:World} {A:Around} {E:Value→Shared→Prop} {s:Shared} {k1 k2:Bool} {z TI TO i1 i2 l1 l2:Addr} {i:Nat} {xs ys:Array Value} {Q:Option Value→Shared→Prop} (hh:A.handled=none) (D:ZipApart z TI TO i1 i2 l1 l2) (st:ZS k1 k2 z TI TO i1 i2 l1 l2 i s.heap)
  (g1:IsSq k1 s.heap l1 xs) (g2:IsSq k2 s.heap l2 ys) (he:xs[i]?=none∨ys[i]?=none) (q:∀ h',(∀ c o,c≠z→c≠TO→c≠i1→c≠i2→s.heap.get? c=some o→h'.get? c=some o)→Q none { s with heap:=h' }):wpAny (model prog w) A (pyNext (.ref z)) Q E s:=by
 obtain ⟨hz,hTI,⟨a,b,hTO⟩,h1,h2⟩:=st
 have ty:s.TypeIs (.ref z) "zip":=⟨_,hz,rfl⟩
 unfold pyNext
 refine wpAny_bind (wpAny_attempt (wpAny_callSpecial?_slot (name:=Str.ofString "__next__") ty F.slot_zip_next (wpAny_call_entry F.slot_zip_next ty F.entry_zip_next (wI hh D hz hTI hTO h1 h2 g1 g2 he fun h' e kk ⟨o,ho,oc⟩=>?_) (F.args_zip_next_1 _))))
 exact wpAny_bind (wpAny_isInstance (T:="StopIteration") (b:=true) ⟨o,ho,oc⟩ isSubtype_stop (wpAny_pure (q _ kk)))
theorem qq {P:Program} {w:World} {K:W.Frag} {es:List Expr} {kt:Nat} {pt:Pos} (k1 k2:Bool) (a b z TI TO i1 i2:Addr) (ne:z≠TI∧z≠TO∧z≠i1∧z≠i2∧TI≠TO∧TI≠i1∧TI≠i2∧TO≠i1∧TO≠i2∧i1≠i2) :
  Turn P w K (.Tuple es kt pt) (Itz K k1 k2 a b) [z,TI,TO,i1,i2] z (ZS k1 k2 z TI TO i1 i2 a b) where
 mem:=by simp
 obj:=fun i h st c hc=>by
  obtain ⟨hz,hTI,⟨x,y,hTO⟩,h1,h2⟩:=st
  simp only [List.mem_cons,List.not_mem_nil,or_false] at hc
  rcases hc with rfl | rfl | rfl | rfl | rfl
  ·exact ⟨_,hz,fun v q=>by cases q⟩
  ·exact ⟨_,hTI,fun v q=>by cases q⟩
  ·exact ⟨_,hTO,fun v q=>by cases q⟩
  ·exact h1.obj
  ·exact h2.obj
 keep:=fun i h h' st k=>by
  obtain ⟨hz,hTI,⟨x,y,hTO⟩,h1,h2⟩:=st
  exact ⟨k z (by simp) _ hz,k TI (by simp) _ hTI,⟨x,y,k TO (by simp) _ hTO⟩,h1.at fun o e=>k i1 (by simp) o e,h2.at fun o e=>k i2 (by simp) o e⟩
 item:=by
  intro X hP hw hK hc i pins s σ H E I hf st hg
  subst hP hw hK
  obtain ⟨xs,ys,x,y,s1,s2,hx,hy⟩:=hg
  obtain ⟨us,r1,q1⟩:=m6 I s1
  obtain ⟨ws,r2,q2⟩:=m6 I s2
  obtain ⟨u,hu,ru⟩:=r1.get hx
  obtain ⟨v,hv,rv⟩:=r2.get hy
  obtain ⟨n1,n2,n3,n4,n5,n6,n7,n8,n9,n10⟩:=ne
  have f:=fun c hc=>hf c hc
  have D:ZipApart z TI TO i1 i2 a b:=⟨n1.symm,n2.symm,n3.symm,n4.symm,n5,n6,n7,n8,n9,n10,eV I s1 (f z (by simp)),eV I s1 (f TO (by simp)),eV I s1 (f i1 (by simp)),eV I s1 (f i2 (by simp)),
   eV I s2 (f z (by simp)),eV I s2 (f TO (by simp)),eV I s2 (f i1 (by simp)),eV I s2 (f i2 (by simp))⟩
  have hTI:=st.2.1
  refine nx_zip_item D st q1 q2 (by simpa using hu) (by simpa using hv) fun h' z1 t1 j1 j2 tp kk=>⟨_,rfl,?_⟩
  refine wpAny_letOwnedTupleGo_zip z1 fun h2 z2 sb=>?_
  have nT:H s.heap.objs.size=none:=I.hok.fresh (Nat.le_refl _)
  have tT:s.heap.objs.size≠z:=Nat.ne_of_gt (Heap.lt_size st.1)
  have all:∀ c o,c≠z→c≠TO→c≠i1→c≠i2→s.heap.get? c=some o→h2.get? c=some o:=fun c o c1 c2 c3 c4 e=>(sb.2 c c1).trans (kk c o c1 c2 c3 c4 e)
  have fz:=f z (by simp)
  have fo:=f TO (by simp)
  have f1:=f i1 (by simp)
  have f2:=f i2 (by simp)
  have nott:∀ c ob,H c=some ob→c≠z∧c≠TO∧c≠i1∧c≠i2:=fun c ob e=>⟨(fun q=>by rw [q,fz.1] at e;cases e),(fun q=>by rw [q,fo.1] at e;cases e),(fun q=>by rw [q,f1.1] at e;cases e),(fun q=>by rw [q,f2.1] at e;cases e)⟩
  refine ⟨.ref s.heap.objs.size,upd H s.heap.objs.size (.tup [x,y]),?_,rfl,⟨_,nT,rfl,fun xs' ys' x' y' a1 a2 a3 a4=>?_⟩,⟨z2,?_,⟨u,v,(sb.2 TO n2.symm).trans t1⟩,j1.at fun o e=>(sb.2 i1 n3.symm).trans e,j2.at fun o e=>(sb.2 i2 n4.symm).trans e⟩,fun c hc=>?_⟩
  ·have tup2:h2.get? s.heap.objs.size=some { cls:=.type "tuple",data:=.seq #[u,v] }:=(sb.2 _ tT).trans tp
   have S0:Inv X pins σ (upd H s.heap.objs.size (.tup [x,y])) { s with heap:=h2,gens:=s.gens,drawn:=s.drawn,toks:=s.toks }:=by
    refine I.step (ch:=[z,TO,i1,i2]) (fun c hc=>?_) (fun c o _ _ nc e _=>all c o (fun q=>nc (by simp [q])) (fun q=>nc (by simp [q])) (fun q=>nc (by simp [q])) (fun q=>nc (by simp [q])) e)
     (fun c o _ _ nc e _=>⟨o.slots,all c o (fun q=>nc (by simp [q])) (fun q=>nc (by simp [q])) (fun q=>nc (by simp [q])) (fun q=>nc (by simp [q])) e⟩) (fun c o _ e n=>by rw [aA (Nat.ne_of_lt (Heap.lt_size e))];exact n)
     (fun c o nc e=>⟨o,all c o (fun q=>nc (by simp [q])) (fun q=>nc (by simp [q])) (fun q=>nc (by simp [q])) (fun q=>nc (by simp [q])) e⟩) (fun c l e=>by rw [aA (aM e nT)];exact e) (fun c o u' e=>by rw [aA (aM e nT)];exact e)
     (fun c ps e=>⟨#[],by rw [aA (aM e nT),e];simp⟩) (fun m hm=>?_) (fun c ob e=>?_) I.bare
    ·simp only [List.mem_cons,List.not_mem_nil,or_false] at hc
     rcases hc with rfl | rfl | rfl | rfl
     ·exact ⟨fz.2.2.2.1,fz.2.1,fz.2.2.2.2.1,fz.2.2.2.2.2⟩
     ·exact ⟨fo.2.2.2.1,fo.2.1,fo.2.2.2.2.1,fo.2.2.2.2.2⟩
     ·exact ⟨f1.2.2.2.1,f1.2.1,f1.2.2.2.2.1,f1.2.2.2.2.2⟩
     ·exact ⟨f2.2.2.2.1,f2.2.1,f2.2.2.2.2.1,f2.2.2.2.2.2⟩
    ·obtain ⟨o,es,ep,ho,r⟩:=hm
     exact ⟨o,es,ep,all _ o (Ne.symm fz.2.1) (Ne.symm fo.2.1) (Ne.symm f1.2.1) (Ne.symm f2.2.1) ho,r⟩
    ·by_cases ec:c=s.heap.objs.size
     ·subst ec
      rw [aY] at e
      cases e
      exact ⟨by simp only [List.length_cons,List.length_nil];rw [sizeLine_eq];decide,[u,v],.cons ru (.cons rv .nil),⟨_,tup2,rfl,⟨0,rfl⟩,rfl⟩⟩
     ·rw [aA ec] at e
      refine (I.hok c ob e).stay (fun d w' hd q=>?_) (fun d q=>by rw [aA (aM q nT)];exact q) fun d l q=>by rw [aA (aM q nT)];exact q
      have hd':∃ oo,H d=some oo:=by
       rcases hd with rfl | hd
       ·exact ⟨_,e⟩
       ·exact ⟨_,hd⟩
      obtain ⟨oo,hoo⟩:=hd'
      obtain ⟨m1,m2,m3,m4⟩:=nott d oo hoo
      exact all d w' m1 m2 m3 m4 q
   exact S0
  ·have e1:=rM I a1 s1
   have e2:=rM I a2 s2
   subst e1 e2
   rw [hx] at a3
   rw [hy] at a4
   cases a3
   cases a4
   rfl
  ·exact (sb.2 TI n1.symm).trans (kk TI _ n1.symm n5 n6 n7 hTI)
  ·have hc0:=(f c hc).1
   have cs:c≠s.heap.objs.size:=by
    have:=(fun i h st=>by
     exact (by
      obtain ⟨hz,hTI,⟨x,y,hTO⟩,h1,h2⟩:=st
      simp only [List.mem_cons,List.not_mem_nil,or_false] at hc
      rcases hc with rfl | rfl | rfl | rfl | rfl
      ·exact ⟨_,hz⟩
      ·exact ⟨_,hTI⟩
      ·exact ⟨_,hTO⟩
      ·obtain ⟨o,e,_⟩:=h1.obj;exact ⟨o,e⟩
      ·obtain ⟨o,e,_⟩:=h2.obj;exact ⟨o,e⟩:∃ o,h.get? c=some o):∀ i h,ZS k1 k2 z TI TO i1 i2 a b i h→∃ o,h.get? c=some o) i s.heap st
    obtain ⟨o,e⟩:=this
    exact Nat.ne_of_lt (Heap.lt_size e)
   rw [aA cs]
   exact hc0
 done:=by
  intro X hP hw hK hc i pins s σ H E I hf st hg
  subst hP hw hK
  obtain ⟨xs,ys,s1,s2,hi⟩:=hg
  obtain ⟨us,r1,q1⟩:=m6 I s1
  obtain ⟨ws,r2,q2⟩:=m6 I s2
  have l1:=r1.length
  have l2:=r2.length
  obtain ⟨n1,n2,n3,n4,n5,n6,n7,n8,n9,n10⟩:=ne
  have f:=fun c hc=>hf c hc
  have D:ZipApart z TI TO i1 i2 a b:=⟨n1.symm,n2.symm,n3.symm,n4.symm,n5,n6,n7,n8,n9,n10,eV I s1 (f z (by simp)),eV I s1 (f TO (by simp)),eV I s1 (f i1 (by simp)),eV I s1 (f i2 (by simp)),
   eV I s2 (f z (by simp)),eV I s2 (f TO (by simp)),eV I s2 (f i1 (by simp)),eV I s2 (f i2 (by simp))⟩
  have fz:=f z (by simp)
  have fo:=f TO (by simp)
  have f1:=f i1 (by simp)
  have f2:=f i2 (by simp)
  refine m7 (I.ok.hd hc) D st q1 q2 (by
   rcases Nat.le_total us.length ws.length with q | q
   ·exact .inl (by simp;lia)
   ·exact .inr (by simp;lia)) fun h' kk=>⟨rfl,?_⟩
  have nott:∀ c ob,H c=some ob→c≠z∧c≠TO∧c≠i1∧c≠i2:=fun c ob e=>⟨(fun q=>by rw [q,fz.1] at e;cases e),(fun q=>by rw [q,fo.1] at e;cases e),(fun q=>by rw [q,f1.1] at e;cases e),(fun q=>by rw [q,f2.1] at e;cases e)⟩
  have S0:Inv X pins σ H { s with heap:=h',gens:=s.gens,drawn:=s.drawn,toks:=s.toks }:=by
   refine I.step (ch:=[z,TO,i1,i2]) (fun c hc=>?_) (fun c o _ _ nc e _=>kk c o (fun q=>nc (by simp [q])) (fun q=>nc (by simp [q])) (fun q=>nc (by simp [q])) (fun q=>nc (by simp [q])) e)
    (fun c o _ _ nc e _=>⟨o.slots,kk c o (fun q=>nc (by simp [q])) (fun q=>nc (by simp [q])) (fun q=>nc (by simp [q])) (fun q=>nc (by simp [q])) e⟩) (fun c o _ e n=>n)
    (fun c o nc e=>⟨o,kk c o (fun q=>nc (by simp [q])) (fun q=>nc (by simp [q])) (fun q=>nc (by simp [q])) (fun q=>nc (by simp [q])) e⟩) (fun c l e=>e) (fun c o u' e=>e)
    (fun c ps e=>⟨#[],by rw [e];simp⟩) (fun m hm=>?_) (fun c ob e=>?_) I.bare
   ·simp only [List.mem_cons,List.not_mem_nil,or_false] at hc
    rcases hc with rfl | rfl | rfl | rfl
    ·exact ⟨fz.2.2.2.1,fz.2.1,fz.2.2.2.2.1,fz.2.2.2.2.2⟩
    ·exact ⟨fo.2.2.2.1,fo.2.1,fo.2.2.2.2.1,fo.2.2.2.2.2⟩
    ·exact ⟨f1.2.2.2.1,f1.2.1,f1.2.2.2.2.1,f1.2.2.2.2.2⟩
    ·exact ⟨f2.2.2.2.1,f2.2.1,f2.2.2.2.2.1,f2.2.2.2.2.2⟩
   ·obtain ⟨o,es,ep,ho,r⟩:=hm
    exact ⟨o,es,ep,kk _ o (Ne.symm fz.2.1) (Ne.symm fo.2.1) (Ne.symm f1.2.1) (Ne.symm f2.2.1) ho,r⟩
   ·refine (I.hok c ob e).stay (fun d w' hd q=>?_) (fun d q=>q) fun d l q=>q
    have hd':∃ oo,H d=some oo:=by
     rcases hd with rfl | hd
     ·exact ⟨_,e⟩
     ·exact ⟨_,hd⟩
    obtain ⟨oo,hoo⟩:=hd'
    obtain ⟨m1,m2,m3,m4⟩:=nott d oo hoo
    exact kk d w' m1 m2 m3 m4 q
  exact S0
 self:=fun _ _ _ _ _ st h=>wpAny_pyIter_zip st.1 h
section
variable {X:Cx} {es:List Expr} {kt:Nat} {pt:Pos}
noncomputable def AE (K:W.Frag) (k1 k2:Bool) (ta:TA):TI:=fun σ H R=>ta σ H fun vs H1=>∃ a b xs ys,vs=[.ref a,.ref b]∧(if k1 then SqL K H1 a xs else SqT K H1 a xs)∧(if k2 then SqL K H1 b ys else SqT K H1 b ys)∧R (Itz K k1 k2 a b) H1
theorem wK (k1 k2:Bool) {e1 e2:Expr} {ta:TA} {p pos:Pos} (hg:Gl X "zip") (hm:X.mg "zip" = none) (ha:PA X [e1,e2] ta) (he:starEach [e1,e2] X.env=(false,eval e1 X.env) :: starEach [e2] X.env:=by rfl) (hpl:(backTo pos (starEach [e2] X.env)).any (·.1)=false:=by rfl) :
  PI X (.Tuple es kt pt) (.Call (.Name "zip" p) [e1,e2] [] pos) (AE X.K k1 k2 ta):=by
 intro pins s σ H R I h
 refine wpAny_Call_Name_kw (j3 I hg hm (by decide +kernel:bootBuiltins "zip" = some (.type "zip")) ?_ (by decide) (by decide))
 refine PyProof.Rows.callWith_type1 (thn (ha pos pins s σ H _ I h) fun us s1 ⟨vs,H1,I1,r1,a,b,xs,ys,e,s1',s2',q⟩=>?_) he hpl
 subst e
 obtain ⟨u,w',rfl,ra,rb⟩:=sU r1
 cases ra
 cases rb
 obtain ⟨us,v1,q1⟩:=m6 I1 s1'
 obtain ⟨ws,v2,q2⟩:=m6 I1 s2'
 refine tN q1 q2 fun h' st kk=>?_
 refine wpAny_pyIter_zip st.1 ?_
 have fr:∀ j,nH X pins H1 (s1.heap.objs.size + j):=fun j=>I1.fpOk (Nat.le_add_right _ _) (I1.hok.fresh (Nat.le_add_right _ _))
 have nn:∀ i j:Nat,i≠j→s1.heap.objs.size + i≠s1.heap.objs.size + j:=fun i j h z=>h (Nat.add_left_cancel z)
 refine ⟨_,_,_,_,H1,rfl,I1.kept (t':=s1.toks) kk,qq k1 k2 a b (s1.heap.objs.size + 4) (s1.heap.objs.size + 2) (s1.heap.objs.size + 3) (s1.heap.objs.size + 0) (s1.heap.objs.size + 1)
  ⟨nn 4 2 (by decide),nn 4 3 (by decide),nn 4 0 (by decide),nn 4 1 (by decide),nn 2 3 (by decide),nn 2 0 (by decide),nn 2 1 (by decide),nn 3 0 (by decide),nn 3 1 (by decide),nn 0 1 (by decide)⟩,st,fun c hc=>?_,q⟩
 simp only [List.mem_cons,List.not_mem_nil,or_false] at hc
 rcases hc with rfl | rfl | rfl | rfl | rfl
 ·exact fr 4
 ·exact fr 2
 ·exact fr 3
 ·exact fr 0
 ·exact fr 1
end
end NX
namespace NX
open PySem PySem.W PyProof.Rows
section
variable {n:Nat} {O:KeyOrd} {κ:Nat→O.α} {cmp:Nat→Nat→(Bool→Shared→Prop)→Shared→Prop} {Good:Shared→Prop}
noncomputable def kk (κ:Nat→O.α) (p:Array Nat) (i:Nat):O.α:=κ (p.getD i 0)
structure POk (n:Nat) (p:Array Nat):Prop where
 perm:p.toList.Perm (List.range n)
theorem POk.size {p:Array Nat} (h:POk n p):p.size=n:=by
 have:=h.perm.length_eq
 simpa using this
theorem POk.lt {p:Array Nat} (h:POk n p) {i:Nat} (hi:i < n):p.getD i 0 < n:=by
 have hs:=h.size
 have hi':i < p.size:=by lia
 have e:p.getD i 0=p[i]:=by simp [Array.getD,hi']
 rw [e]
 exact List.mem_range.mp (h.perm.mem_iff.mp (Array.getElem_mem_toList hi'))
theorem POk.of {p q:Array Nat} (h:POk n p) (hq:q.Perm p):POk n q:=⟨(Array.perm_iff_toList_perm.mp hq).trans h.perm⟩
def aP (κ:Nat→O.α) (p:Array Nat) (m:Nat):Prop:=∀ i j,i≤j→j < m→O.kle (kk κ p i) (kk κ p j)
def dm (κ:Nat→O.α) (p:Array Nat) (m:Nat):Prop:=∀ i j,i≤j→j < m→O.kle (kk κ p j) (kk κ p i)
theorem c5 {p q:Array Nat} {i j:Nat} (h:p[i]?=q[j]?):p.getD i 0=q.getD j 0:=by
 rw [Array.getD_eq_getD_getElem?,Array.getD_eq_getD_getElem?,h]
theorem lX {p:Array Nat} {i j:Nat} (hj:j≤p.size) (k:Nat):kk κ (kas_rev p i j) k=if i≤k∧k < j then kk κ p (i + j - 1 - k) else kk κ p k:=by
 have e:=getElem?_mirror_all (i:=i) hj k
 unfold kk kas_rev
 split
 ·rename_i h
  rw [if_pos h] at e
  rw [c5 e]
 ·rename_i h
  rw [if_neg h] at e
  rw [c5 e]
theorem rN {p:Array Nat} {src d:Nat} (hs:src < p.size) (hd:d≤src) (k:Nat):kk κ (bubble p src d) k=if k=src - d then kk κ p src else if src - d < k∧k≤src then kk κ p (k - 1) else kk κ p k:=by
 have e:=getElem?_bubble hs d hd k
 by_cases h:k=src - d
 ·rw [if_pos h] at e ⊢
  exact congrArg κ (c5 e)
 ·rw [if_neg h] at e ⊢
  by_cases h2:src - d < k∧k≤src
  ·rw [if_pos h2] at e ⊢
   exact congrArg κ (c5 e)
  ·rw [if_neg h2] at e ⊢
   exact congrArg κ (c5 e)
theorem POk.rev {p:Array Nat} (h:POk n p) (i j:Nat):POk n (kas_rev p i j):=h.of (mirror_perm _ _ _ _)
theorem POk.bub {p:Array Nat} (h:POk n p) (i j:Nat):POk n (bubble p i j):=h.of (bubble_perm _ _ _)
theorem m9 (p:Array Nat):aP κ p 1:=fun i j a b=>by
 have e:i=j:=by lia
 rw [e]
 exact KeyOrd.kle_refl _
theorem lq {p:Array Nat} {m:Nat} (h1:1≤m) (h:aP κ p m) (hm:O.kle (kk κ p (m - 1)) (kk κ p m)):aP κ p (m + 1):=by
 intro i j hij hj
 by_cases e:j=m
 ·subst e
  by_cases e2:i=j
  ·subst e2
   exact KeyOrd.kle_refl _
  ·exact KeyOrd.kle_trans (h i (j - 1) (by lia) (by lia)) hm
 ·exact h i j hij (by lia)
theorem c6 {p:Array Nat} {m:Nat} (h1:1≤m) (h:dm κ p m) (hm:O.kle (kk κ p m) (kk κ p (m - 1))):dm κ p (m + 1):=by
 intro i j hij hj
 by_cases e:j=m
 ·subst e
  by_cases e2:i=j
  ·subst e2
   exact KeyOrd.kle_refl _
  ·exact KeyOrd.kle_trans hm (h i (j - 1) (by lia) (by lia))
 ·exact h i j hij (by lia)
variable (hc:∀ i j,i < n→j < n→∀ (Q:Bool→Shared→Prop) s,Good s→(∀ s',Good s'→Q (O.blt (κ i) (κ j)) s')→cmp i j Q s)
include hc
theorem oz {p:Array Nat} (hp:POk n p) {nrem:Nat} (hn:nrem≤n) {Q:Nat→Shared→Prop}:∀ (f m:Nat) (s:Shared),Good s→1≤m→m + f=nrem→aP κ p m→
  (∀ r s',Good s'→m≤r→r≤nrem→aP κ p r→(r < nrem→O.klt (kk κ p r) (kk κ p (r - 1)))→Q r s')→(kas_asc p f m).kasWp cmp Q s
 | 0,m,s,g,h1,hf,hs,k=>k m s g (Nat.le_refl _) (by lia) hs (fun z=>by lia)
 | f + 1,m,s,g,h1,hf,hs,k=>by
  show cmp (p.getD m 0) (p.getD (m - 1) 0) _ s
  refine hc _ _ (hp.lt (by lia)) (hp.lt (by lia)) _ s g fun s' g'=>?_
  cases e:O.blt (κ (p.getD m 0)) (κ (p.getD (m - 1) 0)) with
  | true=>
   (try dsimp only)
   rw [if_pos rfl]
   exact k m s' g' (Nat.le_refl _) (by lia) hs fun _=>e
  | false=>
   (try dsimp only)
   rw [if_neg Bool.false_ne_true]
   exact oz hp hn f (m + 1) s' g' (by lia) (by lia) (lq h1 hs e) fun r s2 g2 a b c d=>k r s2 g2 (by lia) b c d
def tP (κ:Nat→O.α) (p:Array Nat) (m q:Nat):Prop:=∀ k,m - (q + 1)≤k→k < m→kk κ p k=kk κ p (m - 1)
omit hc in
theorem km {p:Array Nat} {m q:Nat} (hm:m≤p.size) (h:tP κ p m q) (k:Nat):kk κ (kas_rev p (m - (q + 1)) m) k=kk κ p k:=by
 rw [lX hm]
 split
 ·rename_i hk
  rw [h _ (by lia) (by lia),h k hk.1 hk.2]
 ·rfl
omit hc in
theorem gv {p p':Array Nat} {m:Nat} (e:∀ k,kk κ p' k=kk κ p k) (h:dm κ p m):dm κ p' m:=fun i j a b=>by rw [e,e];exact h i j a b
theorem jr {nrem:Nat} (hn:nrem≤n) {Q:Array Nat×Nat×Nat→Shared→Prop}:∀ (f:Nat) (p:Array Nat) (m q:Nat) (s:Shared),POk n p→Good s→1≤m→q + 1≤m→m + f=nrem→dm κ p m→tP κ p m q→
  (∀ p' m' q' s',POk n p'→Good s'→m≤m'→m'≤nrem→q' + 1≤m'→dm κ p' m'→tP κ p' m' q'→Q (p',m',q') s')→(kas_desc f p m q).kasWp cmp Q s
 | 0,p,m,q,s,hp,g,h1,hq,hf,hs,ha,k=>k p m q s hp g (Nat.le_refl _) (by lia) hq hs ha
 | f + 1,p,m,q,s,hp,g,h1,hq,hf,hs,ha,k=>by
  show cmp (p.getD m 0) (p.getD (m - 1) 0) _ s
  refine hc _ _ (hp.lt (by lia)) (hp.lt (by lia)) _ s g fun s' g'=>?_
  have hsz:=hp.size
  cases e:O.blt (κ (p.getD m 0)) (κ (p.getD (m - 1) 0)) with
  | true=>
   (try dsimp only)
   rw [if_pos rfl]
   have le:O.kle (kk κ p m) (kk κ p (m - 1)):=KeyOrd.kle_of_klt e
   by_cases h0:q > 0
   ·rw [if_pos h0]
    have same:=km (κ:=κ) (p:=p) (m:=m) (q:=q) (by lia) ha
    refine jr hn f _ (m + 1) 0 s' (hp.rev _ _) g' (by lia) (by lia) (by lia) (c6 h1 (gv same hs) (by rw [same,same];exact le)) ?_ fun p' m' q' s2 a b c d e' f' g2=>k p' m' q' s2 a b (by lia) d e' f' g2
    intro k' a b
    have:k'=m:=by lia
    rw [this]
    rfl
   ·rw [if_neg h0]
    refine jr hn f p (m + 1) 0 s' hp g' (by lia) (by lia) (by lia) (c6 h1 hs le) ?_ fun p' m' q' s2 a b c d e' f' g2=>k p' m' q' s2 a b (by lia) d e' f' g2
    intro k' a b
    have:k'=m:=by lia
    rw [this]
    rfl
  | false=>
   (try dsimp only)
   rw [if_neg Bool.false_ne_true]
   show cmp (p.getD (m - 1) 0) (p.getD m 0) _ s'
   refine hc _ _ (hp.lt (by lia)) (hp.lt (by lia)) _ s' g' fun s2 g2=>?_
   cases e2:O.blt (κ (p.getD (m - 1) 0)) (κ (p.getD m 0)) with
   | true=>
    (try dsimp only)
    rw [if_pos rfl]
    exact k p m q s2 hp g2 (Nat.le_refl _) (by lia) hq hs ha
   | false=>
    (try dsimp only)
    rw [if_neg Bool.false_ne_true]
    have eq:kk κ p (m - 1)=kk κ p m:=KeyOrd.kle_antisymm (O:=O) e e2
    refine jr hn f p (m + 1) (q + 1) s2 hp g2 (by lia) (by lia) (by lia) (c6 h1 hs (by rw [eq];exact KeyOrd.kle_refl _)) ?_ fun p' m' q' s3 a b c d e' f' g3=>k p' m' q' s3 a b (by lia) d e' f' g3
    intro k' a b
    show kk κ p k'=kk κ p m
    by_cases z:k'=m
    ·rw [z]
    ·rw [ha k' (by lia) (by lia),eq]
omit hc in
theorem na {p:Array Nat} {m:Nat} (hm:m≤p.size) (h:dm κ p m):aP κ (kas_rev p 0 m) m:=by
 intro i j a b
 rw [lX hm,lX hm,if_pos (by lia),if_pos (by lia)]
 exact h _ _ (by lia) (by lia)
theorem oA {p:Array Nat} (hp:POk n p) {m nrem:Nat} (hn:nrem≤n) (h1:1≤m) (hm:m≤nrem) (hs:dm κ p m) {Q:Nat×Array Nat→Shared→Prop} {s:Shared} (g:Good s)
  (k:∀ r p' s',POk n p'→Good s'→1≤r→r≤nrem→aP κ p' r→Q (r,p') s'):(kas_tail3 m nrem p).kasWp cmp Q s:=by
 unfold kas_tail3
 rw [KasT.kasWp_bind]
 have hsz:=hp.size
 refine oz hc (hp.rev 0 m) hn (nrem - m) m s g h1 (by lia) (na (by lia) hs) fun r s' g' a b c _=>?_
 exact k r _ s' (hp.rev 0 m) g' (by lia) b c
theorem ig {p:Array Nat} (hp:POk n p) {m nrem:Nat} (hn:nrem≤n) (h1:1≤m) (hm:m + 1≤nrem) (hs:dm κ p (m + 1)) {Q:Nat×Array Nat→Shared→Prop} {s:Shared} (g:Good s)
  (k:∀ r p' s',POk n p'→Good s'→1≤r→r≤nrem→aP κ p' r→Q (r,p') s'):(kas_descPart m nrem p).kasWp cmp Q s:=by
 unfold kas_descPart
 rw [KasT.kasWp_bind]
 refine jr hc hn (nrem - (m + 1)) p (m + 1) 0 s hp g (by lia) (by lia) (by lia) hs ?_ fun p' m' q' s' a b c d e f g2=>?_
 ·intro k' a b
  have:k'=m:=by lia
  rw [this]
  rfl
 ·have hsz:=a.size
  dsimp only
  split
  ·have same:=km (κ:=κ) (p:=p') (m:=m') (q:=q') (by lia) g2
   exact oA hc (a.rev _ _) hn (by lia) d (gv same f) b k
  ·exact oA hc a hn (by lia) d f b k
theorem qr {p:Array Nat} (hp:POk n p) {nrem:Nat} (hn:nrem≤n) (h1:1≤nrem) {Q:Nat×Array Nat→Shared→Prop} {s:Shared} (g:Good s)
  (k:∀ r p' s',POk n p'→Good s'→1≤r→r≤nrem→aP κ p' r→Q (r,p') s'):(kas_count nrem p).kasWp cmp Q s:=by
 unfold kas_count
 rw [KasT.kasWp_bind]
 have hsz:=hp.size
 refine oz hc hp hn (nrem - 1) 1 s g (Nat.le_refl _) (by lia) (m9 p) fun m s' g' a b c d=>?_
 by_cases e:m=nrem
 ·rw [if_pos (by simpa using e)]
  exact k m p s' hp g' (by lia) (by lia) c
 ·rw [if_neg (by simpa using e)]
  have dd:=d (by lia)
  by_cases h2:m > 1
  ·rw [if_pos h2]
   show cmp (p.getD 0 0) (p.getD (m - 1) 0) _ s'
   refine hc _ _ (hp.lt (by lia)) (hp.lt (by lia)) _ s' g' fun s2 g2=>?_
   cases e2:O.blt (κ (p.getD 0 0)) (κ (p.getD (m - 1) 0)) with
   | true=>
    (try dsimp only)
    rw [if_pos rfl]
    exact k m p s2 hp g2 (by lia) b c
   | false=>
    (try dsimp only)
    rw [if_neg Bool.false_ne_true]
    have eq:∀ i,i < m→kk κ p i=kk κ p 0:=fun i hi=>by
     have x1:=c 0 i (by lia) hi
     have x2:=c i (m - 1) (by lia) (by lia)
     exact KeyOrd.kle_antisymm (O:=O) (KeyOrd.kle_trans x2 e2) x1
    have same:∀ i,kk κ (kas_rev p 0 m) i=kk κ p i:=fun i=>by
     rw [lX (by lia)]
     split
     ·rw [eq _ (by lia),eq i (by lia)]
     ·rfl
    refine ig hc (hp.rev 0 m) hn (by lia) (by lia) ?_ g2 k
    refine gv same (c6 (by lia) (fun i j x y=>?_) (KeyOrd.kle_of_klt dd))
    rw [eq i (by lia),eq j y]
    exact KeyOrd.kle_refl _
  ·rw [if_neg h2]
   refine ig hc hp hn (by lia) (by lia) (c6 (by lia) (fun i j x y=>?_) (KeyOrd.kle_of_klt dd)) g' k
   have:i=j:=by lia
   rw [this]
   exact KeyOrd.kle_refl _
theorem jt {p:Array Nat} (hp:POk n p) {t:Nat} (ht:t < n) (hs:aP κ p t) {Q:Nat→Shared→Prop}:∀ (f l r:Nat) (s:Shared),Good s→l≤r→r≤t→r - l≤f→(∀ i,i < l→O.kle (kk κ p i) (kk κ p t))→(∀ i,r≤i→i < t→O.klt (kk κ p t) (kk κ p i))→
  (∀ x s',Good s'→x≤t→(∀ i,i < x→O.kle (kk κ p i) (kk κ p t))→(∀ i,x≤i→i < t→O.klt (kk κ p t) (kk κ p i))→Q x s')→(kas_place p t f l r).kasWp cmp Q s
 | 0,l,r,s,g,h1,h2,h3,lo,hi,k=>k l s g (by lia) lo fun i a b=>hi i (by lia) b
 | f + 1,l,r,s,g,h1,h2,h3,lo,hi,k=>by
  unfold kas_place
  by_cases e:l ≥ r
  ·rw [if_pos e]
   exact k l s g (by lia) lo fun i a b=>hi i (by lia) b
  ·rw [if_neg e]
   show cmp (p.getD t 0) (p.getD ((l + r) / 2) 0) _ s
   refine hc _ _ (hp.lt ht) (hp.lt (by lia)) _ s g fun s' g'=>?_
   cases e2:O.blt (κ (p.getD t 0)) (κ (p.getD ((l + r) / 2) 0)) with
   | true=>
    (try dsimp only)
    rw [if_pos rfl]
    refine jt hp ht hs f l ((l + r) / 2) s' g' (by lia) (by lia) (by lia) lo (fun i a b=>?_) k
    exact KeyOrd.klt_of_klt_of_kle (O:=O) e2 (hs _ i a b)
   | false=>
    (try dsimp only)
    rw [if_neg Bool.false_ne_true]
    refine jt hp ht hs f ((l + r) / 2 + 1) r s' g' (by lia) (by lia) (by lia) (fun i a=>?_) hi k
    exact KeyOrd.kle_trans (O:=O) (hs i ((l + r) / 2) (by lia) (by lia)) e2
theorem rO {Q:Array Nat→Shared→Prop}:∀ (f:Nat) (p:Array Nat) (t:Nat) (s:Shared),POk n p→Good s→t + f=n→aP κ p t→(∀ p' s',POk n p'→Good s'→aP κ p' n→Q p' s')→(kas_bin f p t).kasWp cmp Q s
 | 0,p,t,s,hp,g,hf,hs,k=>k p s hp g (by rw [show n=t by lia];exact hs)
 | f + 1,p,t,s,hp,g,hf,hs,k=>by
  unfold kas_bin
  rw [KasT.kasWp_bind]
  have hsz:=hp.size
  refine jt hc hp (by lia) hs t 0 t s g (Nat.zero_le _) (Nat.le_refl _) (by lia) (fun i a=>by lia) (fun i a b=>by lia) fun x s' g' hx lo hi=>?_
  refine rO f _ (t + 1) s' (hp.bub _ _) g' (by lia) ?_ k
  have ex:t - (t - x)=x:=by lia
  intro i j a b
  rw [rN (by lia) (by lia),rN (by lia) (by lia),ex]
  have lo':=lo
  by_cases i1:i=x
  ·by_cases j1:j=x
   ·rw [if_pos i1,if_pos j1]
    exact KeyOrd.kle_refl _
   ·rw [if_pos i1,if_neg j1,if_pos (by lia)]
    exact KeyOrd.kle_of_klt (hi (j - 1) (by lia) (by lia))
  ·rw [if_neg i1]
   by_cases i2:x < i∧i≤t
   ·rw [if_pos i2,if_neg (by lia),if_pos (by lia)]
    exact hs (i - 1) (j - 1) (by lia) (by lia)
   ·rw [if_neg i2]
    by_cases j1:j=x
    ·rw [if_pos j1]
     exact lo i (by lia)
    ·rw [if_neg j1]
     by_cases j2:x < j∧j≤t
     ·rw [if_pos j2]
      exact hs i (j - 1) (by lia) (by lia)
     ·rw [if_neg j2]
      exact hs i j a (by lia)
theorem tR (h1:1≤n) {Q:Array Nat→Shared→Prop} {s:Shared} (g:Good s) (k:∀ p s',POk n p→Good s'→aP κ p n→Q p s'):(kas_sort n).kasWp cmp Q s:=by
 unfold kas_sort
 rw [KasT.kasWp_bind]
 refine qr hc (p:=List.toArray (List.range n)) ⟨by simp⟩ (Nat.le_refl _) h1 g fun r p' s' hp g' a b c=>?_
 dsimp only
 split
 ·have e:max r 1=r:=by lia
  rw [e]
  exact rO hc (n - r) p' r s' hp g' (by lia) c k
 ·exact k p' s' hp g' (by rw [show n=r by lia];exact c)
end
end NX
namespace NX
open PySem PySem.W PySem.Spec PyProof.Rows L2
section
variable {prog:Program} {w:World} {A:Around} {E:Value→Shared→Prop} {s:Shared}
theorem lY (n:Nat):POk n (List.toArray (List.range n)):=⟨by simp⟩
theorem fS {O:KeyOrd} {key:Nat→O.α} {kd:SortKind} {a:Addr} {vs:List Value} {n:Nat} {P:PySem.Fin→Shared→Prop} (ho:s.heap.get? a=some (seqObj "list" vs.toArray n)) (h64:vs.length < 64)
  (hkind:2≤vs.length→∀ (h':Heap),(∀ b o,b≠a→s.heap.get? b=some o→h'.get? b=some o)→∀ Q:SortKind→Shared→Prop,Q kd { s with heap:=h' }→wpAny (model prog w) A (keyKind' vs.toArray) Q E { s with heap:=h' })
  (hask:∀ i j,i < vs.length→j < vs.length→∀ (h':Heap),(∀ b o,b≠a→s.heap.get? b=some o→h'.get? b=some o)→∀ C:Bool→Shared→Prop,C (O.blt (key i) (key j)) { s with heap:=h' }→kas_ask prog w A kd vs i j C { s with heap:=h' })
  (h:∀ p h',POk vs.length p→aP key p vs.length→(∃ e,h'.get? a=some (seqObj "list" (List.toArray (p.toList.map fun i=>vs.getD i .none)) e))→(∀ b o,b≠a→s.heap.get? b=some o→h'.get? b=some o)→P (.done (.ret .none)) { s with heap:=h' }) :
  wpAny (model prog w) A (Builtin.«list.sort» ⟨[.ref a],[]⟩) P E s:=by
 rw [list_sort_plain]
 have la:a < s.heap.objs.size:=Heap.lt_size ho
 have zs:vs.toArray.size=vs.length:=by simp
 refine wpAny_bind (listItems_at ho rfl (wpAny_bind (listUpdate_at ho rfl ?_ (by rw [zs,sizeLine_eq];lia) (Nat.zero_le _))))
 obtain ⟨e1,h1⟩:∃ e1,(s.heap.update a (Obj.mapSeq fun _=>#[])).get? a=some (seqObj "list" #[] e1):=⟨_,get?_update_seq ho (fun _=>#[])⟩
 refine wpAny_bind (seqEpoch_at h1 rfl (wpAny_bind (wpAny_newTuple (wpAny_bind (wpAny_newList (wpAny_holding ?_))) (by simp only [List.toList_toArray];rw [sizeLine_eq];lia))))
 generalize e6:((s.heap.update a (Obj.mapSeq fun _=>#[])).push { cls:=.type "tuple",data:=.seq vs.toArray.toList.toArray }).push { cls:=.type "list",data:=.seq ([]:List Value).toArray }=h6
 have k6:∀ b o,b≠a→s.heap.get? b=some o→h6.get? b=some o:=fun b o nb e=>by
  rw [←e6]
  exact Heap.get?_push_of_some _ (Heap.get?_push_of_some _ ((Heap.get?_update_other _ _ (Ne.symm nb)).trans e))
 have h6a:h6.get? a=some (seqObj "list" #[] e1):=by
  rw [←e6]
  exact Heap.get?_push_of_some _ (Heap.get?_push_of_some _ h1)
 dsimp only
 have fin:∀ (p:Array Nat),POk vs.length p→aP key p vs.length→∀ out:Array Value,out=List.toArray (p.toList.map fun i=>vs.getD i .none)→
   P (.done (.ret .none)) { s with heap:=h6.update a (Obj.mapSeq fun _=>out) }:=fun p hp hs out eo=>by
  subst eo
  exact h p _ hp hs ⟨_,get?_update_seq h6a _⟩ fun b o nb e=>(Heap.get?_update_other _ _ (Ne.symm nb)).trans (k6 b o nb e)
 have fits:∀ {out:Array Value} {p:Array Nat},POk vs.length p→out=List.toArray (p.toList.map fun i=>vs.getD i .none)→out.size≤sizeLine + 1:=fun {out p} hp e=>by
  rw [e,List.size_toArray,List.length_map,hp.perm.length_eq,List.length_range,sizeLine_eq]
  lia
 by_cases h2:vs.toArray.size < 2
 ·rw [if_pos h2,if_pos h2]
  refine wpAny_bind (wpAny_pure ?_)
  rw [StateT.run_pure]
  refine wpAny_bind (wpAny_pure ?_)
  dsimp only
  have eo:(arrOf (SortSt.mk' general' (vs.toArray.zip vs.toArray) #[] 7 none)).map (·.2)=List.toArray ((List.toArray (List.range vs.length)).toList.map fun i=>vs.getD i .none):=by
   show (vs.toArray.zip vs.toArray).map (·.2)=_
   apply Array.toList_inj.mp
   simp only [Array.toList_map,Array.toList_zip,List.toList_toArray]
   have a1:(vs.zip vs).map (·.2)=vs:=by
    rw [List.map_snd_zip]
    exact Nat.le_refl _
   rw [a1]
   apply List.ext_getElem?
   intro i
   by_cases hi:i < vs.length
   ·simp [hi]
   ·simp [hi]
  refine wpAny_bind (seqEpoch_at h6a rfl (wpAny_bind (listUpdate_at h6a rfl ?_ (Nat.zero_le _) (fits (lY _) eo))))
  simp only [bne_self_eq_false,Bool.false_eq_true,if_false]
  refine wpAny_pure (fin _ (lY _) ?_ _ eo)
  intro i j x y
  have:i=j:=by lia
  rw [this]
  exact KeyOrd.kle_refl _
 ·rw [if_neg h2,if_neg h2]
  have h2':2≤vs.length:=by lia
  refine wpAny_bind (hkind h2' h6 k6 _ ?_)
  refine wpAny_bind (wpAny_mono (kat_run (ks:=vs) (vs:=vs) (Q:=fun st' s'=>∃ p,POk vs.length p∧aP key p vs.length∧arrOf st'=p.map (kas_item (vs.toArray.zip vs.toArray))∧failedOf st'=none∧s'={ s with heap:=h6 })
   (G:=fun p s'=>POk vs.length p∧aP key p vs.length∧s'={ s with heap:=h6 }) rfl h2' h64 (fun p st' s' hz har hf hg=>⟨p,hg.1,hg.2.1,har,hf,hg.2.2⟩)
   (tR (n:=vs.length) (O:=O) (κ:=key) (Good:=fun s'=>s'={ s with heap:=h6 }) (fun i j hi hj Q s' g k=>?_) (by lia) rfl fun p s' hp g hs=>⟨hp,hs,g⟩)) (fun r s' hq=>?_) fun _ _ e=>e)
  ·subst g
   exact hask i j hi hj h6 k6 Q (k _ rfl)
  ·obtain ⟨p,hp,hs,har,hf,rfl⟩:=hq
   have eo:=kat_snds (ks:=vs) (vs:=vs) rfl har
   refine wpAny_bind (seqEpoch_at h6a rfl (wpAny_bind (listUpdate_at h6a rfl ?_ (Nat.zero_le _) (fits hp eo))))
   rw [hf]
   simp only [bne_self_eq_false,Bool.false_eq_true,if_false]
   exact wpAny_pure (fin p hp hs _ eo)
theorem gw {O:KeyOrd} {key:Nat→O.α} {kd:SortKind} {l:Addr} {vs:List Value} {Q:Value→Shared→Prop} (hl:s.heap.IsList l vs.toArray) (h64:vs.length < 64)
  (hkind:2≤vs.length→∀ (A':Around) (E':Value→Shared→Prop) (h':Heap),(∀ b o,s.heap.get? b=some o→h'.get? b=some o)→∀ Q:SortKind→Shared→Prop,Q kd { s with heap:=h' }→wpAny (model prog w) A' (keyKind' vs.toArray) Q E' { s with heap:=h' })
  (hask:∀ i j,i < vs.length→j < vs.length→∀ (h':Heap),(∀ b o,s.heap.get? b=some o→h'.get? b=some o)→∀ C:Bool→Shared→Prop,C (O.blt (key i) (key j)) { s with heap:=h' }→kas_ask prog w A.in1.in1 kd vs i j C { s with heap:=h' })
  (h:∀ p h' e,POk vs.length p→aP key p vs.length→h'.get? (s.heap.objs.size + 1)=some (seqObj "list" (List.toArray (p.toList.map fun i=>vs.getD i .none)) e)→(∀ b o,s.heap.get? b=some o→h'.get? b=some o)→Q (.ref (s.heap.objs.size + 1)) { s with heap:=h' }) :
  wpAny (model prog w) A (call (.builtin "sorted") [.ref l]) Q E s:=by
 refine Calls.call_function_entry kind_sorted plain_sorted entry_sorted (args_sorted1 _) ?_
 unfold Builtin.«sorted»
 refine wpAny_bind (m:=checkCount "sorted" 1 1 _) (wpAny_pure (wpAny_bind (collect_list hl (wpAny_bind (wpAny_newList ?_ (by rw [sizeLine_eq];lia))) (by rw [sizeLine_eq];lia))))
 have zz:((s.heap.push (seqObj "list" #[] 0)).update s.heap.objs.size (Obj.mapSeq (·++vs.toArray))).objs.size=s.heap.objs.size + 1:=by rw [Heap.size_update,size_push']
 generalize e5:(s.heap.push (seqObj "list" #[] 0)).update s.heap.objs.size (Obj.mapSeq (·++vs.toArray))=h5 at zz ⊢
 have k5:∀ b o,s.heap.get? b=some o→(h5.push (seqObj "list" vs.toArray 0)).get? b=some o:=fun b o e=>by
  rw [←e5]
  exact Heap.get?_push_of_some _ ((Heap.get?_update_other _ _ (Ne.symm (Nat.ne_of_lt (Heap.lt_size e)))).trans (Heap.get?_push_of_some _ e))
 have hL:(h5.push (seqObj "list" vs.toArray 0)).get? (s.heap.objs.size + 1)=some (seqObj "list" vs.toArray 0):=by
  rw [←zz]
  exact Heap.get?_push_size _ rfl
 have ne:∀ b o,s.heap.get? b=some o→b≠s.heap.objs.size + 1:=fun b o e=>Nat.ne_of_lt (Nat.lt_succ_of_lt (Heap.lt_size e))
 show wpAny _ _ _ _ _ { s with heap:=h5.push (seqObj "list" vs.toArray 0) }
 rw [zz]
 refine wpAny_bind (wpAny_holding (wpAny_call_entry slot_list_sort ⟨_,hL,rfl⟩ entry_list_sort (fS (key:=key) (kd:=kd) hL h64 (fun h2 h' kk Q' q=>hkind h2 _ _ h' (fun b o e=>kk b o (ne b o e) (k5 b o e)) Q' q)
  (fun i j hi hj h' kk C q=>hask i j hi hj h' (fun b o e=>kk b o (ne b o e) (k5 b o e)) C q) fun p h' hp hs ⟨e,he⟩ kk=>⟨_,rfl,?_⟩) (args_list_sort _)))
 exact wpAny_pure ⟨_,rfl,h p h' e hp hs he fun b o q=>kk b o (ne b o q) (k5 b o q)⟩
end
noncomputable def intO:KeyOrd where
 α:=Int
 blt a b:=decide (a < b)
 irrefl a:=by simp
 trans a b c h1 h2:=by simp only [decide_eq_true_eq] at *;lia
 negTrans a b c h:=by simp only [decide_eq_true_eq] at *;lia
 total a b h1 h2:=by simp only [decide_eq_false_iff_not] at *;lia
abbrev z6:KeyOrd:=strKind.toKeyOrd
noncomputable def lf:KeyOrd where
 α:=Key
 blt a b:=match a,b with
  | .inl i,.inl j=>decide (i < j)
  | .inr x,.inr y=>decide (x.cps.toList < y.cps.toList)
  | .inl _,.inr _=>true
  | .inr _,.inl _=>false
 irrefl a:=by
  cases a with
  | inl i=>simp
  | inr x=>simpa using List.lt_irrefl x.cps.toList
 trans a b c h1 h2:=by
  cases a <;> cases b <;> cases c <;> simp_all
  ·lia
  ·exact List.lt_trans h1 h2
 negTrans a b c h:=by
  cases a <;> cases b <;> cases c <;> simp_all
  ·lia
  ·rename_i x y z
   by_cases q:x.cps.toList < y.cps.toList
   ·exact .inl q
   ·exact .inr (List.lt_of_le_of_lt (List.not_lt.mp q) h)
 total a b h1 h2:=by
  cases a <;> cases b <;> simp_all
  ·lia
  ·rename_i x y
   have e:x.cps.toList=y.cps.toList:=List.le_antisymm (by first | exact h2 | exact List.not_lt.mp h2) (by first | exact h1 | exact List.not_lt.mp h1)
   rw [←ki x,←ki y,e]
noncomputable def cu:List Key→List Key→Bool
 | [],[]=>false
 | [],_ :: _=>true
 | _ :: _,[]=>false
 | a :: r,b :: t=>if a=b then cu r t else lf.blt a b
theorem fC:∀ a:List Key,cu a a=false
 | []=>rfl
 | a :: r=>by
  show (if a=a then cu r r else _)=false
  rw [if_pos rfl]
  exact fC r
theorem tS {a b:Key} (h:lf.blt a b=true):a≠b:=by
 rintro rfl
 have:=lf.irrefl a
 rw [h] at this
 cases this
theorem eJ:∀ a b c:List Key,cu a b=true→cu b c=true→cu a c=true
 | [],[],_,h,_=>by cases h
 | [],_ :: _,[],_,h=>by cases h
 | [],_ :: _,_ :: _,_,_=>rfl
 | _ :: _,[],_,h,_=>by cases h
 | _ :: _,_ :: _,[],_,h=>by cases h
 | a :: r,b :: t,c :: u,h1,h2=>by
  have h1:(if a=b then cu r t else lf.blt a b)=true:=h1
  have h2:(if b=c then cu t u else lf.blt b c)=true:=h2
  show (if a=c then cu r u else lf.blt a c)=true
  by_cases e1:a=b
  ·by_cases e2:b=c
   ·rw [if_pos e1] at h1
    rw [if_pos e2] at h2
    rw [if_pos (e1.trans e2)]
    exact eJ r t u h1 h2
   ·rw [if_neg e2] at h2
    rw [e1,if_neg e2]
    exact h2
  ·rw [if_neg e1] at h1
   by_cases e2:b=c
   ·rw [←e2,if_neg e1]
    exact h1
   ·rw [if_neg e2] at h2
    have h3:=lf.trans a b c h1 h2
    rw [if_neg (tS h3)]
    exact h3
theorem eK:∀ a b:List Key,cu a b=false→cu b a=false→a=b
 | [],[],_,_=>rfl
 | [],_ :: _,h,_=>by cases h
 | _ :: _,[],_,h=>by cases h
 | a :: r,b :: t,h1,h2=>by
  have h1:(if a=b then cu r t else lf.blt a b)=false:=h1
  have h2:(if b=a then cu t r else lf.blt b a)=false:=h2
  by_cases e:a=b
  ·rw [if_pos e] at h1
   rw [if_pos e.symm] at h2
   rw [e,eK r t h1 h2]
  ·rw [if_neg e] at h1
   rw [if_neg (Ne.symm e)] at h2
   exact absurd (lf.total a b h1 h2) e
theorem qu (a b c:List Key) (h:cu a c=true):cu a b=true∨cu b c=true:=by
 cases e:cu a b with
 | true=>exact .inl rfl
 | false=>
  refine .inr ?_
  cases e2:cu b a with
  | true=>exact eJ b a c e2 h
  | false=>
   rw [←eK a b e e2]
   exact h
noncomputable def yq:KeyOrd where
 α:=List Key
 blt:=cu
 irrefl:=fC
 trans:=eJ
 negTrans:=qu
 total:=eK
section
variable {O:KeyOrd}
noncomputable def ng (p:Array Nat) (xs:List V):List V:=p.toList.map fun i=>xs.getD i .non
theorem iS {α:Type} (xs:List α) (d:α):((List.range xs.length).map fun i=>xs.getD i d)=xs:=by
 apply List.ext_getElem?
 intro i
 by_cases hi:i < xs.length
 ·simp [hi]
 ·simp [hi]
theorem g8 {α:Type} {p:Array Nat} {xs:List α} (d:α) (hp:POk xs.length p):(p.toList.map fun i=>xs.getD i d).Perm xs:=by
 have:=hp.perm.map (fun i=>xs.getD i d)
 rwa [iS] at this
theorem eL {α:Type} {p:Array Nat} {xs:List α} (d:α) (key:α→O.α) (hp:POk xs.length p) (hs:aP (O:=O) (fun i=>key (xs.getD i d)) p xs.length):(p.toList.map fun i=>xs.getD i d).Pairwise fun a b=>O.kle (key a) (key b):=by
 rw [List.pairwise_iff_getElem]
 intro i j hi hj hij
 have hsz:=hp.size
 have hi':i < p.size:=by simpa using hi
 have hj':j < p.size:=by simpa using hj
 have h:=hs i j (Nat.le_of_lt hij) (by lia)
 unfold kk at h
 simp only [List.getElem_map,Array.getElem_toList]
 have e1:p.getD i 0=p[i]:=by simp [Array.getD,hi']
 have e2:p.getD j 0=p[j]:=by simp [Array.getD,hj']
 rw [e1,e2] at h
 exact h
theorem vals_pick {xs:List V} {us:List Value} (r:Vals xs us):∀ l:List Nat,(∀ i∈l,i < xs.length)→Vals (l.map fun i=>xs.getD i .non) (l.map fun i=>us.getD i .none)
 | [],_=>.nil
 | i :: l,h=>by
  refine .cons ?_ (vals_pick r l fun j hj=>h j (List.mem_cons_of_mem _ hj))
  have hi:=h i List.mem_cons_self
  have e1:xs[i]?=some (xs.getD i .non):=by rw [aU _ _ _ hi];exact List.getElem?_eq_getElem hi
  obtain ⟨u,hu,ru⟩:=r.get e1
  have e2:us.getD i .none=u:=by rw [List.getD_eq_getElem?_getD,hu];rfl
  show L2.RelV (xs.getD i .non) (us.getD i .none)
  rw [e2]
  exact ru
theorem g9 {xs:List V} {us:List Value} {p:Array Nat} (r:Vals xs us) (hp:POk xs.length p):Vals (ng p xs) (p.toList.map fun i=>us.getD i .none):=
 vals_pick r _ fun i hi=>List.mem_range.mp (hp.perm.mem_iff.mp hi)
end
section
variable {X:Cx}
theorem fT {pins:List (Addr×Obj)} {s:Shared} {σ:L2.St} {H:Hp} {h':Heap} {ys:List V} {us:List Value} {e:Nat} {D:Addr} (I:Inv X pins σ H s) (kk:∀ b o,s.heap.get? b=some o→h'.get? b=some o) (hD:s.heap.objs.size≤D)
  (ho:h'.get? D=some (seqObj "list" (List.toArray us) e)) (r:Vals ys us) (hz:ys.length≤sizeLine):Inv X pins σ (upd H D (.lst ys)) { s with heap:=h' }:=
 I.laid (t':=s.toks) kk hD ⟨hz,us,e,r,ho⟩
theorem gU (hc:X.calm=true):cZ X (.builtin "sorted") (fun vs H Q=>∃ (p:Addr) (ns:List Int),vs=[.ref p]∧SqL X.K H p (ns.map V.int)∧ns.length < 64∧∀ (D:Addr) (ms:List Int),H D=none→ms.Perm ns→ms.Pairwise (·≤·)→Q (.ref D) (upd H D (.lst (ms.map V.int)))):=by
 intro pins s σ H vs us Q I r h
 obtain ⟨p,ns,rfl,hp,h64,q⟩:=h
 obtain ⟨u,rfl,r1⟩:=gS r
 cases r1
 obtain ⟨ws,rv,pl,hz⟩:=I.list hp
 have hl:=rv.length
 rw [List.length_map] at hl
 have isI:∀ v∈ws,∃ n t,v=.int n t:=fun v hv=>by
  obtain ⟨i,hi⟩:=List.mem_iff_getElem?.mp hv
  obtain ⟨t,e⟩:=gu rv hi
  exact ⟨_,t,e⟩
 refine gw (O:=intO) (key:=fun i=>ns.getD i 0) (kd:=oneType') pl.isList (by lia) (fun h2 A' E' h' kk Q' q'=>?_) (fun i j hi hj h' kk C q'=>?_) fun pp h' e hpp hs he kk=>?_
 ·refine kas_kind h2 (T:=.type "int") (fun v hv=>?_) (by decide) (by decide) q'
  obtain ⟨n,t,rfl⟩:=isI v hv
  exact fun A Q E s _ q=>wpAny_typeOf (typeIs_int s n t) q
 ·unfold kas_ask
  have e1:ws[i]?=some (ws.getD i .none):=by rw [aU _ _ _ hi];exact List.getElem?_eq_getElem hi
  have e2:ws[j]?=some (ws.getD j .none):=by rw [aU _ _ _ hj];exact List.getElem?_eq_getElem hj
  obtain ⟨t,e1'⟩:=gu rv e1
  obtain ⟨t',e2'⟩:=gu rv e2
  rw [e1',e2']
  exact kat_lt_int q'
 ·rw [←hl] at hpp hs
  have hpx:POk (ns.map V.int).length pp:=by rw [List.length_map];exact hpp
  have eo:ng pp (ns.map V.int)=(pp.toList.map fun i=>ns.getD i 0).map V.int:=by
   unfold ng
   rw [List.map_map]
   refine List.map_congr_left fun i hi=>?_
   have hi:=List.mem_range.mp (hpp.perm.mem_iff.mp hi)
   show (ns.map V.int).getD i .non=V.int (ns.getD i 0)
   rw [aU _ _ _ (by rw [List.length_map];exact hi),aU _ _ _ hi]
   simp
  have hn:H (s.heap.objs.size + 1)=none:=I.hok.fresh (Nat.le_succ _)
  refine ⟨.ref (s.heap.objs.size + 1),_,fT I kk (Nat.le_succ _) he (g9 rv hpx) ?_,rfl,?_⟩
  ·show (ng pp (ns.map V.int)).length≤sizeLine
   rw [eo,List.length_map,List.length_map,hpp.perm.length_eq,List.length_range,sizeLine_eq]
   lia
  ·rw [eo]
   refine q _ _ hn (g8 0 hpp) ?_
   have:=eL (O:=intO) 0 (fun i:Int=>i) hpp hs
   refine this.imp fun {a b} hab=>?_
   have hab:decide (b < a)=false:=hab
   have:=of_decide_eq_false hab
   lia
theorem lr {ls:List (List Nat)} {us:List Value} (r:Vals (ls.map fun l=>V.str (S l)) us) {i:Nat} {v:Value} (h:us[i]?=some v):∃ t,v=.str (S (ls.getD i [])) t:=by
 have hl:=r.length
 rw [List.length_map] at hl
 obtain ⟨hi,_⟩:=List.getElem?_eq_some_iff.mp h
 have e1:(ls.map fun l=>V.str (S l))[i]?=some (.str (S (ls.getD i []))):=by
  rw [List.getElem?_map,List.getElem?_eq_getElem (by lia),aU _ _ _ (by lia)]
  rfl
 obtain ⟨u,hu,t,rfl⟩:=r.get e1
 rw [h] at hu
 exact ⟨t,Option.some.inj hu⟩
theorem gW (hc:X.calm=true):cZ X (.builtin "sorted") (fun vs H Q=>∃ (p:Addr) (ls:List (List Nat)),vs=[.ref p]∧SqL X.K H p (ls.map fun l=>V.str (S l))∧ls.length < 64∧∀ (D:Addr) (ms:List (List Nat)),H D=none→ms.Perm ls→ms.Pairwise (fun a b=>¬ b < a)→Q (.ref D) (upd H D (.lst (ms.map fun l=>V.str (S l))))):=by
 intro pins s σ H vs us Q I r h
 obtain ⟨p,ls,rfl,hp,h64,q⟩:=h
 obtain ⟨u,rfl,r1⟩:=gS r
 cases r1
 obtain ⟨ws,rv,pl,hz⟩:=I.list hp
 have hl:=rv.length
 rw [List.length_map] at hl
 refine gw (O:=z6) (key:=fun i=>ls.getD i []) (kd:=oneType') pl.isList (by lia) (fun h2 A' E' h' kk Q' q'=>?_) (fun i j hi hj h' kk C q'=>?_) fun pp h' e hpp hs he kk=>?_
 ·refine kas_kind h2 (T:=.type "str") (fun v hv=>?_) (by decide) (by decide) q'
  obtain ⟨i,hi⟩:=List.mem_iff_getElem?.mp hv
  obtain ⟨t,rfl⟩:=lr rv hi
  exact fun A Q E s _ q=>wpAny_typeOf (typeIs_str s _ t) q
 ·unfold kas_ask
  have e1:ws[i]?=some (ws.getD i .none):=by rw [aU _ _ _ hi];exact List.getElem?_eq_getElem hi
  have e2:ws[j]?=some (ws.getD j .none):=by rw [aU _ _ _ hj];exact List.getElem?_eq_getElem hj
  obtain ⟨t,e1'⟩:=lr rv e1
  obtain ⟨t',e2'⟩:=lr rv e2
  rw [e1',e2']
  refine kas_lt_str ?_
  rw [b8,b8]
  exact q'
 ·rw [←hl] at hpp hs
  have hpx:POk (ls.map fun l=>V.str (S l)).length pp:=by rw [List.length_map];exact hpp
  have eo:ng pp (ls.map fun l=>V.str (S l))=(pp.toList.map fun i=>ls.getD i []).map fun l=>V.str (S l):=by
   unfold ng
   rw [List.map_map]
   refine List.map_congr_left fun i hi=>?_
   have hi:=List.mem_range.mp (hpp.perm.mem_iff.mp hi)
   show (ls.map fun l=>V.str (S l)).getD i .non=V.str (S (ls.getD i []))
   rw [aU _ _ _ (by rw [List.length_map];exact hi),aU _ _ _ hi]
   simp
  have hn:H (s.heap.objs.size + 1)=none:=I.hok.fresh (Nat.le_succ _)
  refine ⟨.ref (s.heap.objs.size + 1),_,fT I kk (Nat.le_succ _) he (g9 rv hpx) ?_,rfl,?_⟩
  ·show (ng pp (ls.map fun l=>V.str (S l))).length≤sizeLine
   rw [eo,List.length_map,List.length_map,hpp.perm.length_eq,List.length_range,sizeLine_eq]
   lia
  ·rw [eo]
   refine q _ _ hn (g8 [] hpp) ?_
   have:=eL (O:=z6) [] (fun l:List Nat=>l) hpp hs
   refine this.imp fun {a b} hab=>?_
   have hab:decide (b < a)=false:=hab
   exact of_decide_eq_false hab
end
noncomputable def kinds (k:List Key):List Bool:=k.map fun x=>x.isLeft
section
variable {prog:Program} {w:World} {A:Around} {s:Shared}
theorem oB (a b:Key):eqV (kV a) (kV b)=decide (a=b):=by
 cases a <;> cases b <;> (rw [Bool.eq_iff_iff];simp [kV,eqV])
theorem hJ (a:Key):qg (kV a)=true:=by cases a <;> rfl
theorem wL {a b:Key} {u v:Value} {top:Bool} {Q:Bool→Shared→Prop} (ra:L2.RelV (kV a) u) (rb:L2.RelV (kV b) v) (hk:a.isLeft=b.isLeft) (q:Q (lf.blt a b) s):wpAny (model prog w) A (oneLt' top u v) Q (fun _ _=>False) s:=by
 cases a with
 | inl i=>
  cases b with
  | inr _=>cases hk
  | inl j=>
   obtain ⟨t,rfl⟩:=ra
   obtain ⟨t',rfl⟩:=rb
   cases top with
   | true=>exact kat_lt_int (E:=fun _ _=>False) q
   | false=>exact kat_one _ _ (lt_int q)
 | inr x=>
  cases b with
  | inl _=>cases hk
  | inr y=>
   obtain ⟨t,rfl⟩:=ra
   obtain ⟨t',rfl⟩:=rb
   cases top with
   | true=>exact oneLt_str q
   | false=>exact kat_one _ _ (lt_str q)
theorem ii {Q:Bool→Shared→Prop}:∀ (k1 k2:List Key) (us ws:List Value) (i:Nat),Vals (k1.map kV) us→Vals (k2.map kV) ws→kinds k1=kinds k2→Q (cu k1 k2) s→KatLex prog w A true false Q (us.zip ws) i s
 | [],[],_,_,_,.nil,.nil,_,q=>q
 | [],_ :: _,_,_,_,_,_,h,_=>by cases h
 | _ :: _,[],_,_,_,_,_,h,_=>by cases h
 | a :: r,b :: t,u :: us,v :: ws,i,.cons ru rus,.cons rv rvs,h,q=>by
  have h1:a.isLeft=b.isLeft:=(List.cons.inj h).1
  have h2:kinds r=kinds t:=(List.cons.inj h).2
  have q:Q (if a=b then cu r t else lf.blt a b) s:=q
  refine kat_cons (rF (A:=A) (s:=s) ru rv (hJ a) (hJ b) prog w _ _ ?_)
  rw [oB]
  by_cases e:a=b
  ·rw [if_pos e] at q
   rw [decide_eq_true e]
   exact kat_yes (ii r t us ws (i + 1) rus rvs h2 q)
  ·rw [if_neg e] at q
   rw [decide_eq_false e]
   exact kat_no (wL ru rv h1 q)
end
section
variable {X:Cx} {pins:List (Addr×Obj)} {σ:L2.St} {H:Hp} {s:Shared}
theorem kn (I:Inv X pins σ H s) {a:Addr} {xs:List V} (h:SqT X.K H a xs):∃ (us:List Value) (o:Obj) (n:Nat),Vals xs us∧s.heap.get? a=some o∧o.cls=.type "tuple"∧o.data=.seq us.toArray n:=by
 obtain ⟨us,r,pl,_⟩:=I.tuple h
 obtain ⟨o,ho,oc,n,od⟩:=pl
 exact ⟨us,o,n,r,ho,oc,od⟩
theorem ju {al:List (Addr×List Key)} {us:List Value} (r:Vals (al.map fun a=>V.ref a.1) us) {i:Nat} (h:i < al.length):us.getD i .none=.ref (al.getD i (0,[])).1:=by
 have e1:(al.map fun a=>V.ref a.1)[i]?=some (.ref (al.getD i (0,[])).1):=by
  rw [List.getElem?_map,List.getElem?_eq_getElem h,aU _ _ _ h]
  rfl
 obtain ⟨u,hu,ru⟩:=r.get e1
 rw [List.getD_eq_getElem?_getD,hu]
 exact ru
theorem lZ {al:List (Addr×List Key)} {us:List Value} {h':Heap} (I:Inv X pins σ H s) (kk:∀ b o,s.heap.get? b=some o→h'.get? b=some o) (top:Bool) :
  (r:Vals (al.map fun a=>V.ref a.1) us)→(∀ a∈al,SqT X.K H a.1 (a.2.map kV)∧∃ t,kinds a.2=top :: t)→∃ fs:List Value,KatTups h' us fs∧fs.length=al.length∧∀ v∈fs,∀ M:Model,Looks M h' (typeOf v) (.type (if top then "int" else "str")):=by
 induction al generalizing us with
 | nil=>
  intro r _
  cases r
  exact ⟨[],trivial,rfl,fun v hv=>by cases hv⟩
 | cons a al ih=>
  intro r h
  cases r with
  | cons ra rs=>
   cases ra
   obtain ⟨fs,t1,t2,t3⟩:=ih rs fun b hb=>h b (List.mem_cons_of_mem _ hb)
   obtain ⟨ha,kt,hk⟩:=h a List.mem_cons_self
   obtain ⟨ws,o,n,rv,ho,oc,od⟩:=kn I ha
   cases e2:a.2 with
   | nil=>rw [e2] at hk;cases hk
   | cons k ks=>
    rw [e2] at rv hk
    have hkt:k.isLeft=top:=(List.cons.inj hk).1
    cases rv with
    | @cons _ f _ fr rf rfs=>
     refine ⟨f :: fs,KatTups.cons (kk _ _ ho) oc od (by simp) t1,by simp [t2],fun v hv M=>?_⟩
     rcases List.mem_cons.mp hv with rfl | hv
     ·cases k with
      | inl i=>
       obtain ⟨t,rfl⟩:=rf
       have:top=true:=hkt.symm
       subst this
       exact fun A Q E s _ q=>wpAny_typeOf (typeIs_int s _ t) q
      | inr x=>
       obtain ⟨t,rfl⟩:=rf
       have:top=false:=hkt.symm
       subst this
       exact fun A Q E s _ q=>wpAny_typeOf (typeIs_str s _ t) q
     ·exact t3 v hv M
end
section
variable {X:Cx}
theorem gX (hc:X.calm=true):cZ X (.builtin "sorted") (fun vs H Q=>∃ (p:Addr) (al:List (Addr×List Key)) (top:Bool) (t:List Bool),vs=[.ref p]∧SqL X.K H p (al.map fun a=>V.ref a.1)∧(∀ a∈al,SqT X.K H a.1 (a.2.map kV)∧kinds a.2=top :: t)∧al.length < 64∧
  ∀ (D:Addr) (ms:List (Addr×List Key)),H D=none→ms.Perm al→ms.Pairwise (fun a b=>cu b.2 a.2=false)→Q (.ref D) (upd H D (.lst (ms.map fun a=>V.ref a.1)))):=by
 intro pins s σ H vs us Q I r h
 obtain ⟨p,al,top,kt,rfl,hp,hal,h64,q⟩:=h
 obtain ⟨u,rfl,r1⟩:=gS r
 cases r1
 obtain ⟨ws,rv,pl,hz⟩:=I.list hp
 have hl:=rv.length
 rw [List.length_map] at hl
 refine gw (O:=yq) (key:=fun i=>(al.getD i (0,[])).2) (kd:=tuples' true) pl.isList (by lia) (fun h2 A' E' h' kk Q' q'=>?_) (fun i j hi hj h' kk C q'=>?_) fun pp h' e hpp hs he kk=>?_
 ·obtain ⟨fs,t1,t2,t3⟩:=lZ I kk top rv fun a ha=>⟨(hal a ha).1,kt,(hal a ha).2⟩
  refine kat_kind (T:=.type (if top then "int" else "str")) t1 (by lia) (fun v hv=>t3 v hv _) (by simp) ?_
  have:((Value.type (if top then "int" else "str")) != Value.type "tuple")=true:=by cases top <;> decide
  rw [this]
  exact q'
 ·unfold kas_ask
  have hi':i < al.length:=by lia
  have hj':j < al.length:=by lia
  rw [ju rv hi',ju rv hj']
  have mi:al.getD i (0,[])∈al:=by rw [aU _ _ _ hi'];exact List.getElem_mem _
  have mj:al.getD j (0,[])∈al:=by rw [aU _ _ _ hj'];exact List.getElem_mem _
  obtain ⟨u1,o1,n1,r1,g1,_,d1⟩:=kn I (hal _ mi).1
  obtain ⟨u2,o2,n2,r2,g2,_,d2⟩:=kn I (hal _ mj).1
  have ek:kinds (al.getD i (0,[])).2=kinds (al.getD j (0,[])).2:=by rw [(hal _ mi).2,(hal _ mj).2]
  have el:u1.length=u2.length:=by
   have a1:=r1.length
   have a2:=r2.length
   have a3:=congrArg List.length ek
   simp only [kinds,List.length_map] at a1 a2 a3
   lia
  refine kat_lt (kk _ _ g1) d1 (kk _ _ g2) d2 ?_
  have ef:decide (u1.toArray.size < u2.toArray.size)=false:=by simp [el]
  rw [ef]
  exact ii _ _ _ _ 0 r1 r2 ek q'
 ·rw [←hl] at hpp hs
  have hpx:POk (al.map fun a=>V.ref a.1).length pp:=by rw [List.length_map];exact hpp
  have eo:ng pp (al.map fun a=>V.ref a.1)=(pp.toList.map fun i=>al.getD i (0,[])).map fun a=>V.ref a.1:=by
   unfold ng
   rw [List.map_map]
   refine List.map_congr_left fun i hi=>?_
   have hi:=List.mem_range.mp (hpp.perm.mem_iff.mp hi)
   show (al.map fun a=>V.ref a.1).getD i .non=V.ref (al.getD i (0,[])).1
   rw [aU _ _ _ (by rw [List.length_map];exact hi),aU _ _ _ hi]
   simp
  have hn:H (s.heap.objs.size + 1)=none:=I.hok.fresh (Nat.le_succ _)
  refine ⟨.ref (s.heap.objs.size + 1),_,fT I kk (Nat.le_succ _) he (g9 rv hpx) ?_,rfl,?_⟩
  ·show (ng pp (al.map fun a=>V.ref a.1)).length≤sizeLine
   rw [eo,List.length_map,List.length_map,hpp.perm.length_eq,List.length_range,sizeLine_eq]
   lia
  ·rw [eo]
   refine q _ _ hn (g8 (0,[]) hpp) ?_
   exact eL (O:=yq) (0,[]) (fun a:Addr×List Key=>a.2) hpp hs
end
end NX
namespace L2
open PySem PySem.Spec PyProof.Rows
section
variable {κ:Type} [DecidableEq κ]
noncomputable def ko (kvs:List (κ×V)) (k:κ):Option V:=(kvs.find? fun kv=>decide (kv.1=k)).map (·.2)
noncomputable def iT (kvs:List (κ×V)) (k:κ) (v:V):List (κ×V):=
 if (kvs.any fun kv=>decide (kv.1=k))=true then kvs.map (fun kv=>if kv.1=k then (kv.1,v) else kv) else kvs++[(k,v)]
theorem jv {p:κ×V} {r:List (κ×V)} {k:κ} (e:p.1=k):ko (p :: r) k=some p.2:=by simp [ko,List.find?_cons,e]
theorem jw {p:κ×V} {r:List (κ×V)} {k:κ} (e:¬ p.1=k):ko (p :: r) k=ko r k:=by simp [ko,List.find?_cons,e]
theorem l0 (k:κ):∀ kvs:List (κ×V),(kvs.any fun kv=>decide (kv.1=k))=(ko kvs k).isSome
 | []=>rfl
 | p :: r=>by
  rw [List.any_cons]
  by_cases e:p.1=k
  ·simp only [jv e,decide_eq_true e,Bool.true_or,Option.isSome_some]
  ·rw [jw e,decide_eq_false e,Bool.false_or];exact l0 k r
theorem ij (kvs:List (κ×V)) (k:κ) (v:V):(iT kvs k v).length≤kvs.length + 1:=by
 unfold iT
 split
 ·rw [List.length_map];lia
 ·rw [List.length_append,List.length_cons,List.length_nil];lia
theorem RelO.isSome_eq {o:Option V} {u:Option Value} (r:RelO o u):o.isSome=u.isSome:=by
 cases o with
 | none=>cases u with
  | none=>rfl
  | some _=>exact (show False from r).elim
 | some _=>cases u with
  | none=>exact (show False from r).elim
  | some _=>rfl
theorem KV.val {kvs:List (κ×V)} {vs:List (κ×Value)} (r:KV kvs vs) (k:κ):RelO (ko kvs k) (valueAt vs k):=by
 unfold KV at r
 induction r with
 | nil=>exact True.intro
 | @cons p q ps qs h t ih=>
  obtain ⟨h1,h2⟩:=h
  by_cases e:p.1=k
  ·have e':q.1=k:=h1.symm.trans e
   have b:valueAt (q :: qs) k=some q.2:=by simp [valueAt,List.find?_cons,e']
   rw [jv e,b];exact h2
  ·have e':¬ q.1=k:=fun z=>e (h1.trans z)
   have b:valueAt (q :: qs) k=valueAt qs k:=by simp [valueAt,List.find?_cons,e']
   rw [jw e,b];exact ih
theorem KV.any {kvs:List (κ×V)} {vs:List (κ×Value)} (r:KV kvs vs) (k:κ):(kvs.any fun kv=>decide (kv.1=k))=vs.any fun kv=>decide (kv.1=k):=by
 unfold KV at r
 induction r with
 | nil=>rfl
 | cons h t ih=>rw [List.any_cons,List.any_cons,ih,h.1]
theorem KV.repl {kvs:List (κ×V)} {vs:List (κ×Value)} (r:KV kvs vs) (k:κ) {y:V} {u:Value} (ry:RelV y u) :
  KV (kvs.map fun kv=>if kv.1=k then (kv.1,y) else kv) (vs.map fun kv=>if kv.1=k then (kv.1,u) else kv):=by
 unfold KV at r ⊢
 induction r with
 | nil=>exact .nil
 | @cons p q ps qs h t ih=>
  rw [List.map_cons,List.map_cons]
  refine .cons ?_ ih
  obtain ⟨h1,h2⟩:=h
  by_cases e:p.1=k
  ·rw [if_pos e,if_pos (h1.symm.trans e)];exact ⟨h1,ry⟩
  ·rw [if_neg e,if_neg (fun z=>e (h1.trans z))];exact ⟨h1,h2⟩
theorem KV.put {kvs:List (κ×V)} {vs:List (κ×Value)} (r:KV kvs vs) (k:κ) {y:V} {u:Value} (ry:RelV y u):KV (iT kvs k y) (stored vs k u):=by
 unfold iT stored
 rw [r.any k]
 by_cases e:(vs.any fun kv=>decide (kv.1=k))=true
 ·rw [if_pos e,if_pos e];exact r.repl k ry
 ·rw [if_neg e,if_neg e];exact Paired.snoc r ⟨rfl,ry⟩
theorem KV.length {kvs:List (κ×V)} {vs:List (κ×Value)} (r:KV kvs vs):kvs.length=vs.length:=Paired.length r
end
theorem kV_is {P:Program} {w:World} {k:Key} {u:Value} (r:RelV (kV k) u):(mixKind P w).is k u=true:=by
 cases k with
 | inl i=>obtain ⟨t,e⟩:=(show ∃ t,u=Value.int i t from r);subst e;exact li P w i t
 | inr x=>obtain ⟨t,e⟩:=(show ∃ t,u=Value.str x t from r);subst e;exact lj P w x t
theorem kq {P:Program} {w:World}:∀ {ks:List Key} {us:List Value},Vals (ks.map kV) us→ItemsAre (mixKind P w) ks us
 | [],_,r=>by rw [List.map_nil] at r;cases r;exact .nil
 | k :: ks,_,r=>by
  rw [List.map_cons] at r
  cases r with
  | cons h t=>exact .cons (kV_is h) (kq t)
abbrev KT (H:Hp):List (List Key×V)→List (List Key×Addr×Value)→Prop:=Paired fun p q=>p.1=q.1∧H q.2.1=some (.tup (p.1.map kV))∧RelV p.2 q.2.2
theorem KT.val {H:Hp} {kvs:List (List Key×V)} {xs:List (List Key×Addr×Value)} (r:KT H kvs xs) (k:List Key):RelO (ko kvs k) ((atKey xs k).map (·.2)):=by
 induction r with
 | nil=>exact True.intro
 | @cons p q ps qs h t ih=>
  obtain ⟨h1,_,h2⟩:=h
  by_cases e:p.1=k
  ·have e':q.1=k:=h1.symm.trans e
   have b:atKey (q :: qs) k=some q.2:=by simp [atKey,List.find?_cons,e']
   rw [jv e,b];exact h2
  ·have e':¬ q.1=k:=fun z=>e (h1.trans z)
   have b:atKey (q :: qs) k=atKey qs k:=by simp [atKey,List.find?_cons,e']
   rw [jw e,b];exact ih
theorem KT.repl {H:Hp} {kvs:List (List Key×V)} {xs:List (List Key×Addr×Value)} (r:KT H kvs xs) (k:List Key) {y:V} {u:Value} (ry:RelV y u) :
  KT H (kvs.map fun kv=>if kv.1=k then (kv.1,y) else kv) (xs.map (putAt k u)):=by
 induction r with
 | nil=>exact .nil
 | @cons p q ps qs h t ih=>
  rw [List.map_cons,List.map_cons]
  refine .cons ?_ ih
  obtain ⟨h1,h2,h3⟩:=h
  unfold putAt
  by_cases e:p.1=k
  ·rw [if_pos e,if_pos (h1.symm.trans e)];exact ⟨h1,h2,ry⟩
  ·rw [if_neg e,if_neg (fun z=>e (h1.trans z))];exact ⟨h1,h2,h3⟩
theorem KT.put {H:Hp} {kvs:List (List Key×V)} {xs:List (List Key×Addr×Value)} (r:KT H kvs xs) (k:List Key) {b:Addr} {y:V} {u:Value} (hb:H b=some (.tup (k.map kV))) (ry:RelV y u) :
  KT H (iT kvs k y) (storedH xs k b u):=by
 have e:(kvs.any fun kv=>decide (kv.1=k))=(atKey xs k).isSome:=by
  rw [l0,(r.val k).isSome_eq,Option.isSome_map]
 unfold iT storedH
 rw [e]
 by_cases q:(atKey xs k).isSome=true
 ·rw [if_pos q,if_pos q];exact r.repl k ry
 ·rw [if_neg q,if_neg q];exact Paired.snoc r ⟨rfl,hb,ry⟩
theorem KT.keeps {H H':Hp} {kvs:List (List Key×V)} {xs:List (List Key×Addr×Value)} (r:KT H kvs xs) (ht:∀ b ys,H b=some (.tup ys)→H' b=some (.tup ys)):KT H' kvs xs:=
 Paired.mapP r fun _ _ z=>⟨z.1,ht _ _ z.2.1,z.2.2⟩
section
variable {P:Program} {w:World} {H:Hp} {h:Heap} {a:Addr}
theorem wM {u:HO} (ok:HOk P w H h) (e:Rd H a u):ObjOk P w H h a u:=e.ok ok
theorem oC {kvs:List (Key×V)} (ok:HOk P w H h) (e:Rd H a (.dK kvs)):kvs.length≤sizeLine∧(a == sysModules)=false∧∃ vs,KV kvs vs∧h.DictOf (mixKind P w) a vs:=
 show ObjOk P w H h a (.dK kvs) from wM ok e
theorem yY {kvs:List (Key×V)} (ok:HOk P w H h) (e:H a=some (.dK kvs)):kvs.length≤sizeLine∧(a == sysModules)=false∧∃ vs,KV kvs vs∧h.DictOf (mixKind P w) a vs:=oC ok (.inl e)
theorem ja {ks:List Key} (ok:HOk P w H h) (e:H a=some (.tup (ks.map kV))):(tupleKind (mixKind P w)).is h ks a:=by
 obtain ⟨_,its,r,o,h1,h2,⟨n,h3⟩,_⟩:=(show ObjOk P w H h a (.tup (ks.map kV)) from ok a _ e)
 exact ⟨o,its.toArray,n,h1,h2,h3,by simpa using kq r⟩
theorem oD {kvs:List (List Key×V)} (ok:HOk P w H h) (e:Rd H a (.dT kvs)):kvs.length≤sizeLine∧(a == sysModules)=false∧
  ∃ xs,KT H kvs xs∧h.DictOfH (tupleKind (mixKind P w)) a xs:=by
 obtain ⟨z,y,xs,r,o,es,ep,h1,h2,h3,h4,h5⟩:=(show ObjOk P w H h a (.dT kvs) from wM ok e)
 refine ⟨z,y,xs,r,o,es,ep,h1,h2,h3,h4,fun x hx=>?_,h5⟩
 have all:∀ {l:List (List Key×V)} {m:List (List Key×Addr×Value)},KT H l m→∀ x∈m,(tupleKind (mixKind P w)).is h x.1 x.2.1:=by
  intro l m q
  induction q with
  | nil=>intro x hx;exact nomatch hx
  | @cons p q ps qs hq t ih=>
   intro x hx
   rcases List.mem_cons.mp hx with e | hx
   ·subst e
    exact ja ok (by rw [←hq.1];exact hq.2.1)
   ·exact ih x hx
 exact all r x hx
theorem wN {kvs:List (List Key×V)} (ok:HOk P w H h) (e:H a=some (.dT kvs)):kvs.length≤sizeLine∧(a == sysModules)=false∧
  ∃ xs,KT H kvs xs∧h.DictOfH (tupleKind (mixKind P w)) a xs:=oD ok (.inl e)
end
def DGet (H:Hp) (a:Addr) (y:V) (r:Option V):Prop:=
 (∃ kvs k,Rd H a (.dK kvs)∧y=kV k∧r=ko kvs k)∨∃ kvs k b,Rd H a (.dT kvs)∧y=.ref b∧H b=some (.tup (k.map kV))∧r=ko kvs k
def DPut (H:Hp) (a:Addr) (y v:V) (H':Hp):Prop:=
 (∃ kvs k,H a=some (.dK kvs)∧y=kV k∧kvs.length < sizeLine∧H'=upd H a (.dK (iT kvs k v)))∨
 ∃ kvs k b,H a=some (.dT kvs)∧y=.ref b∧H b=some (.tup (k.map kV))∧kvs.length < sizeLine∧H'=upd H a (.dT (iT kvs k v))
theorem DGet.k {H:Hp} {a:Addr} {kvs:List (Key×V)} {k:Key} (e:H a=some (.dK kvs)):DGet H a (kV k) (ko kvs k):=.inl ⟨kvs,k,.inl e,rfl,rfl⟩
theorem DGet.t {H:Hp} {a b:Addr} {kvs:List (List Key×V)} {k:List Key} (e:H a=some (.dT kvs)) (eb:H b=some (.tup (k.map kV))):DGet H a (.ref b) (ko kvs k):=.inr ⟨kvs,k,b,.inl e,rfl,eb,rfl⟩
theorem DPut.k {H:Hp} {a:Addr} {kvs:List (Key×V)} {k:Key} {v:V} (e:H a=some (.dK kvs)) (hl:kvs.length < sizeLine):DPut H a (kV k) v (upd H a (.dK (iT kvs k v))):=.inl ⟨kvs,k,e,rfl,hl,rfl⟩
theorem DPut.t {H:Hp} {a b:Addr} {kvs:List (List Key×V)} {k:List Key} {v:V} (e:H a=some (.dT kvs)) (eb:H b=some (.tup (k.map kV))) (hl:kvs.length < sizeLine) :
  DPut H a (.ref b) v (upd H a (.dT (iT kvs k v))):=.inr ⟨kvs,k,b,e,rfl,eb,hl,rfl⟩
section
variable {X:Cx} {pins:List (Addr×Obj)} {σ:St} {H:Hp} {s:Shared} {a:Addr} {y v:V} {u r:Value} {o:Option V} {A:Around} {E:Value→Shared→Prop}
theorem Inv.big (I:Inv X pins σ H s):sysModules < s.heap.objs.size:=by
 have h:mainGlobals < s.heap.objs.size:=(I.mod.glob.keeps I.bk).lt
 exact Nat.lt_trans (by decide) h
theorem oE {Q:Value→Shared→Prop} (hu:A.units + 1 < cLine) (I:Inv X pins σ H s) (g:DGet H a y (some v)) (ry:RelV y u) (h:∀ w' s',Inv X pins σ H s'→RelV v w'→Q w' s') :
  wpAny (model X.prog X.w) A (getItem (.ref a) u) Q E s:=by
 rcases g with ⟨kvs,k,e,ey,l⟩ | ⟨kvs,k,b,e,ey,eb,l⟩
 ·subst ey
  obtain ⟨z,hd,vs,rel,dd⟩:=oC I.hok e
  obtain ⟨w',hw,rw'⟩:=RelO.some_of (v:=v) (o:=valueAt vs k) (by rw [l];exact rel.val k)
  exact wpAny_getItem_of (kV_is ry) dd.mapOf hw (h w' _ (I.tok _) rw')
 ·subst ey
  cases (show u=Value.ref b from ry)
  obtain ⟨z,hd,xs,rel,dd⟩:=oD I.hok e
  obtain ⟨w',hw,rw'⟩:=RelO.some_of (v:=v) (o:=(atKey xs k).map (·.2)) (by rw [l];exact rel.val k)
  obtain ⟨p,hp,hp2⟩:=Option.map_eq_some_iff.mp hw
  refine wpAny_getItem_heap (tupleKind_room_in1 hu) (ja I.hok eb) dd hp ?_
  rw [hp2]
  exact h w' _ (I.tok _) rw'
theorem AF {Q:Value→Shared→Prop} (hu:A.units + 1 < cLine) (I:Inv X pins σ H s) (g:DGet H a y o) (ry:RelV y u) (h:∀ s',Inv X pins σ H s'→Q (.bool o.isSome) s') :
  wpAny (model X.prog X.w) A (compareOp .In u (.ref a)) Q E s:=by
 rcases g with ⟨kvs,k,e,ey,l⟩ | ⟨kvs,k,b,e,ey,eb,l⟩
 ·subst ey
  obtain ⟨z,hd,vs,rel,dd⟩:=oC I.hok e
  refine wpAny_in_of (kV_is ry) hd dd.mapOf ?_
  rw [←(rel.val k).isSome_eq,←l]
  exact h _ (I.tok _)
 ·subst ey
  cases (show u=Value.ref b from ry)
  obtain ⟨z,hd,xs,rel,dd⟩:=oD I.hok e
  refine wpAny_in_heap (tupleKind_room_in1 hu) (ja I.hok eb) hd dd ?_
  have q:=(rel.val k).isSome_eq
  rw [Option.isSome_map] at q
  rw [←q,←l]
  exact h _ (I.tok _)
theorem tU {Q:Value→Shared→Prop} (hu:A.units + 1 < cLine) (I:Inv X pins σ H s) (g:DGet H a y o) (ry:RelV y u) (h:∀ s',Inv X pins σ H s'→Q (.bool (!o.isSome)) s') :
  wpAny (model X.prog X.w) A (compareOp .NotIn u (.ref a)) Q E s:=by
 rcases g with ⟨kvs,k,e,ey,l⟩ | ⟨kvs,k,b,e,ey,eb,l⟩
 ·subst ey
  obtain ⟨z,hd,vs,rel,dd⟩:=oC I.hok e
  refine wpAny_notIn_of (kV_is ry) hd dd.mapOf ?_
  rw [←(rel.val k).isSome_eq,←l]
  exact h _ (I.tok _)
 ·subst ey
  cases (show u=Value.ref b from ry)
  obtain ⟨z,hd,xs,rel,dd⟩:=oD I.hok e
  refine wpAny_notIn_heap (tupleKind_room_in1 hu) (ja I.hok eb) hd dd ?_
  have q:=(rel.val k).isSome_eq
  rw [Option.isSome_map] at q
  rw [←q,←l]
  exact h _ (I.tok _)
theorem lu {h':Heap} {t':Nat} {ob:HO} (I:Inv X pins σ H s) (mu:Mut (H a)) (hs:Heap.SameBut a s.heap h') (he:∃ q,h'.get? a=some q) (new:ObjOk X.prog X.w (upd H a ob) h' a ob) :
  Inv X pins σ (upd H a ob) { s with heap:=h',toks:=t' }:=
 I.write (x:=a) (e:=a) mu (.inl rfl) (fun b q hb z=>(hs.2 b hb).trans z) he new
theorem wO {P:Program} {w:World} {H':Hp} {h':Heap} {kvs:List (Key×V)} {vs:List (Key×Value)} (z:kvs.length≤sizeLine) (hd:(a == sysModules)=false) (rel:KV kvs vs) (dd:h'.DictOf (mixKind P w) a vs) :
  ObjOk P w H' h' a (.dK kvs):=⟨z,hd,vs,rel,dd⟩
theorem oF {H':Hp} {Q:Unit→Shared→Prop} (hu:A.units + 1 < cLine) (I:Inv X pins σ H s) (g:DPut H a y v H') (ry:RelV y u) (rv:RelV v r) (h:∀ s',Inv X pins σ H' s'→Q () s') :
  wpAny (model X.prog X.w) A (setItem (.ref a) u r) Q E s:=by
 rcases g with ⟨kvs,k,e,ey,l,eH⟩ | ⟨kvs,k,b,e,ey,eb,l,eH⟩
 ·subst ey eH
  obtain ⟨z,hd,vs,rel,dd⟩:=yY I.hok e
  have hz:vs.length≤sizeLine:=by rw [←rel.length];exact z
  have hl:(iT kvs k v).length≤sizeLine:=by have:=ij kvs k v;lia
  refine wpAny_setItem_pairs (hsz:=hz) (kV_is ry) dd fun h' dd' hs=>h _ ?_
  have he:∃ q,h'.get? a=some q:=let ⟨q,_,_,hq,_⟩:=dd';⟨q,hq⟩
  exact lu I (by rw [e];exact True.intro) hs he (wO hl hd (rel.put k rv) dd')
 ·subst ey eH
  cases (show u=Value.ref b from ry)
  obtain ⟨z,hd,xs,rel,dd⟩:=wN I.hok e
  have hz:xs.length≤sizeLine:=by rw [←Paired.length rel];exact z
  have hl:(iT kvs k v).length≤sizeLine:=by have:=ij kvs k v;lia
  refine wpAny_setItem_heap (hsz:=hz) (tupleKind_room_in1 hu) (ja I.hok eb) dd fun h' dd' hs=>h _ ?_
  obtain ⟨q,es,ep,hq,h2,h3,h4,_,h5⟩:=dd'
  refine lu I (by rw [e];exact True.intro) hs ⟨q,hq⟩ ⟨hl,hd,_,(rel.put k eb rv).keeps fun c ys ec=>?_,q,es,ep,hq,h2,h3,h4,h5⟩
  rw [aA (vP ec e (fun z=>nomatch z))]
  exact ec
end
section
variable {X:Cx} {pins:List (Addr×Obj)} {σ:St} {H:Hp} {s:Shared} {a:Addr} {kvs:List (Key×V)} {k:Key} {u:Value} {A:Around} {E:Value→Shared→Prop}
end
def NoSl (i:Expr):Prop:=∀ ov iv,subscripted i false ov iv=operate [ov,iv] (getItem ov iv)
theorem tV {prog:Program} {w:World} {A:Around} {E:Value→Shared→Prop} {s:Shared} {env:Env} {value slice:Expr} {pos:Pos} {T id:String} {Q:Value→Shared→Prop}
  (hl:typeLookup (.type T) "__getitem__" = pure (some (.builtin id))) (hs:NoSl slice)
  (h:wpAny (model prog w) A (eval value env) (fun o s₁=>wpAny (model prog w) A (eval slice env) (fun i s₂=>s₂.TypeIs o T∧wpAny (model prog w) A (getItem o i) Q E s₂) E s₁) E s) :
  wpAny (model prog w) A (eval (.Subscript value slice pos) env) Q E s:=by
 refine Subscript_ (wpAny_mono h (fun o s₁ h₁=>wpAny_mono h₁ (fun i s₂ h₂=>?_) fun _ _ x=>x) fun _ _ x=>x)
 obtain ⟨hT,h₂⟩:=h₂
 unfold subscriptTail
 refine wpAny_bind ?_
 rw [getitemInPython_of_ne hT.not_modules]
 refine wpAny_bind (wpAny_specialOf hT hl ?_)
 have fin:wpAny (model prog w) A (subscripted slice false o i) (fun r s₃=>wpAny (model prog w) A (letTemporaryGo value o r >>= fun _=>pure r) Q E s₃) E s₂:=by
  rw [hs o i]
  exact wpAny_operating (wpAny_mono h₂ (fun r s₃ h₃=>wpAny_bind (wpAny_letTemporaryGo (wpAny_pure h₃))) fun _ _ x=>x)
 first
  | exact wpAny_pure (wpAny_bind fin)
  | exact wpAny_bind (wpAny_pure (wpAny_bind fin))
  | exact wpAny_bind fin
theorem lv {X:Cx} {pins:List (Addr×Obj)} {σ:St} {H:Hp} {s:Shared} {a:Addr} {y:V} {o:Option V} (I:Inv X pins σ H s) (g:DGet H a y o):s.TypeIs (.ref a) "dict":=by
 rcases g with ⟨kvs,k,e,_,_⟩ | ⟨kvs,k,b,e,_,_,_⟩
 ·obtain ⟨_,_,vs,_,dd⟩:=oC I.hok e
  exact dd.typeIs
 ·obtain ⟨_,_,xs,_,dd⟩:=oD I.hok e
  exact dd.typeIs
noncomputable def yZ (td ty:TE):TE:=fun σ H Q=>td σ H fun x H1=>ty σ H1 fun y H2=>∃ a v,x=.ref a∧DGet H2 a y (some v)∧Q v H2
noncomputable def y0 (td ty tv:TE):TS:=fun D σ H=>tv σ H fun v H1=>td σ H1 fun x H2=>ty σ H2 fun y H3=>∃ a H4,x=.ref a∧DPut H3 a y v H4∧D.nx σ H4
section
variable {X:Cx} {o i e value:Expr} {pos pos' tpos:Pos} {td ty tv:TE}
theorem tW (hu:X.A.units + 1 < cLine) (ho:PE X o td) (hi:PE X i ty) (hs:NoSl i):PE X (.Subscript o i pos) (yZ td ty):=by
 intro pins s σ H Q I h
 refine tV PySem.F.slot_dict_getitem.lookup hs (thn (ho pins s σ H _ I h) fun u s1 ⟨x,H1,I1,rx,q1⟩=>thn (hi pins s1 σ H1 _ I1 q1) fun iv s2 hqq=>?_)
 obtain ⟨y,H2,I2,ry,a,v,ex,g,q2⟩:=hqq
 subst ex
 obtain rfl:u=Value.ref a:=rx
 exact ⟨lv I2 g,oE hu I2 g ry fun w' s3 I3 rw'=>⟨v,H2,I3,rw',q2⟩⟩
theorem tY (hu:X.A.units + 1 < cLine) (ho:PE X o td) (hi:PE X i ty) (hv:PE X value tv) (hs:swapsWith value (some (.Subscript o i pos')) pos.line X.env=pure false) :
  PS X (.Assign [.Subscript o i pos'] value pos) (y0 td ty tv):=by
 intro pins s σ H D I h
 refine wpAny_Assign_Subscript (thn (hv pins s σ H _ I h) fun r s1 ⟨v,H1,I1,rv,q1⟩=>thn (ho pins s1 σ H1 _ I1 q1) fun u s2 ⟨x,H2,I2,rx,q2⟩=>thn (hi pins s2 σ H2 _ I2 q2) fun iv s3 ⟨y,H3,I3,ry,a,H4,ex,g,q3⟩=>?_) hs
 subst ex
 obtain rfl:u=Value.ref a:=rx
 exact oF hu I3 g ry rv fun s4 I4=>⟨σ,H4,I4,q3⟩
end
theorem dt_empty {P:Program} {w:World} {H:Hp} (h:Heap) (hb:sysModules < h.objs.size):ObjOk P w H (h.push { cls:=.type "dict",data:=.dict #[] }) h.objs.size (.dT []):=
 ⟨Nat.zero_le _,beq_eq_false_iff_ne.mpr (Ne.symm (Nat.ne_of_lt hb)),[],.nil,_,#[],0,Heap.get?_push_size _ rfl,⟨rfl,rfl,rfl⟩,rfl,rfl,List.nodup_nil⟩
section
variable {X:Cx} {pos:Pos}
end
noncomputable def tPairs:List (TE×TE)→St→Hp→(List (V×V)→Hp→Prop)→Prop
 | [],_,H,Q=>Q [] H
 | (tk,tv) :: r,σ,H,Q=>tk σ H fun x H1=>tv σ H1 fun y H2=>tPairs r σ H2 fun ps H3=>Q ((x,y) :: ps) H3
abbrev VV:List (V×V)→List (Value×Value)→Prop:=Paired fun p q=>RelV p.1 q.1∧RelV p.2 q.2
def PPs (X:Cx) (pos:Pos) (keys:List (Option Expr)) (values:List Expr) (trs:List (TE×TE)):Prop:=
 ∀ (pins:List (Addr×Obj)) (s:Shared) (σ:St) (H:Hp) (Q:List (V×V)→Hp→Prop),Inv X pins σ H s→tPairs trs σ H Q→
  wpAny (model X.prog X.w) X.A (evalPairs (pairTrees keys values X.env pos)) (fun vs s'=>∃ ps H',Inv X pins σ H' s'∧VV ps vs∧Q ps H') X.xe s
theorem tZ {X:Cx} {pos:Pos}:PPs X pos [] [] []:=fun pins s σ H Q I h=>pairTrees_nil_walk ⟨[],H,I,.nil,h⟩
theorem qv {X:Cx} {pos:Pos} {k v:Expr} {ks:List (Option Expr)} {vs:List Expr} {tk tv:TE} {trs:List (TE×TE)} (hk:PE X k tk) (hv:PE X v tv) (hr:PPs X pos ks vs trs) :
  PPs X pos (some k :: ks) (v :: vs) ((tk,tv) :: trs):=fun pins s σ H Q I h=>
 pairTrees_cons_walk (thn (hk pins s σ H _ I h) fun u s1 ⟨x,H1,I1,rx,q1⟩=>thn (hv pins s1 σ H1 _ I1 q1) fun w2 s2 ⟨y,H2,I2,ry,q2⟩=>
  thn (hr pins s2 σ H2 _ I2 q2) fun ws s3 ⟨ps,H3,I3,rel,q3⟩=>⟨(x,y) :: ps,H3,I3,.cons ⟨rx,ry⟩ rel,q3⟩)
section
variable {X:Cx} {pins:List (Addr×Obj)} {σ:St} {H:Hp} {s:Shared} {a:Addr} {y d:V} {u r:Value} {o:Option V} {A:Around} {E:Value→Shared→Prop}
end
section
variable {X:Cx} {o e f:Expr} {apos cpos:Pos} {td ty tx:TE}
end
section
variable {X:Cx} {pins:List (Addr×Obj)} {σ:St} {H:Hp} {s:Shared} {a:Addr} {kvs:List (Key×V)} {A:Around} {E:Value→Shared→Prop}
end
section
variable {X:Cx} {pins:List (Addr×Obj)} {σ:St} {H:Hp} {s:Shared} {a:Addr} {y:V} {u:Value} {A:Around} {E:Value→Shared→Prop}
end
section
variable {κ:Type} [DecidableEq κ]
end
end L2
namespace NX
open PySem PySem.Spec PyProof.Rows L2
def RawD (h:Heap) (d:Addr) (es:Array DictEntry) (ep:Nat):Prop:=∃ o,h.get? d=some o∧o.ExactDict∧o.data=.dict es ep
theorem RawD.at {h h':Heap} {d:Addr} {es:Array DictEntry} {ep:Nat} (x:RawD h d es ep) (e:∀ o,h.get? d=some o→h'.get? d=some o):RawD h' d es ep:=by
 obtain ⟨o,g,r⟩:=x
 exact ⟨o,e o g,r⟩
section
variable {prog:Program} {w:World} {A:Around} {E:Value→Shared→Prop} {s:Shared} {d it:Addr} {es:Array DictEntry} {ep i:Nat}
theorem hU (x:RawD s.heap d es ep):s.TypeIs (.ref d) "dict":=by
 obtain ⟨o,g,ex,_⟩:=x
 exact ⟨o,g,ex.1⟩
theorem qw {Q:Value→Shared→Prop} (nm:(d == sysModules)=false) (x:RawD s.heap d es ep)
  (q:Q (.ref s.heap.objs.size) { s with heap:=s.heap.push { cls:=.type "dict_keyiterator",data:=.fields #[.ref d,.int 0 0,.int es.size 0,.int ep 0] } }):wpAny (model prog w) A (pyIter (.ref d)) Q E s:=by
 have ty:=hU x
 obtain ⟨o,g,ex,dat⟩:=x
 refine wpAny_pyIter_slot ty F.slot_dict_iter (wpAny_call_entry F.slot_dict_iter ty F.entry_dict_iter (wpAny_bind ?_) (F.args_dict_iter_1 _))
 refine wpAny_bind (wpAny_notOrdered_dict ty (wpAny_pure ?_))
 show wpAny _ _ (Builtin.Dict.showsAll d >>= fun _=>_) _ _ s
 have ns:Builtin.Dict.showsAll d=pure ():=by
  unfold Builtin.Dict.showsAll
  rw [nm]
  rfl
 rw [ns]
 refine wpAny_bind (wpAny_pure (wpAny_bind (wpAny_dictEntries g dat (wpAny_bind (wpAny_dictEpoch g dat (wpAny_bind (wpAny_newObj_type (wpAny_pure ⟨_,rfl,"dict_keyiterator",_,⟨_,Heap.get?_push_size _ rfl,rfl⟩,F.slot_dict_keyiterator_next.lookup,?_⟩))))))))
 exact q
theorem qx {Q:Option Value→Shared→Prop} {e:DictEntry} (hit:s.heap.IsKeyIter it d i es.size ep) (x:RawD s.heap d es ep) (hx:es[i]?=some e)
  (q:∀ h',h'.IsKeyIter it d (i + 1) es.size ep→Heap.SameBut it s.heap h'→Q (some e.key) { s with heap:=h' }):wpAny (model prog w) A (pyNext (.ref it)) Q E s:=by
 have ti:=hit.typeIs
 obtain ⟨o,g,oc,od⟩:=hit
 obtain ⟨ob,gd,_,dat⟩:=x
 have hlt:i < es.size:=(Array.getElem?_eq_some_iff.mp hx).1
 unfold pyNext
 refine wpAny_bind (wpAny_attempt (wpAny_callSpecial?_slot (name:=Str.ofString "__next__") ti F.slot_dict_keyiterator_next (wpAny_call_entry F.slot_dict_keyiterator_next ti F.entry_dict_keyiterator_next
  (wpAny_bind (wpAny_pure (wpAny_bind (wpAny_bind ?_)))) (F.args_dict_keyiterator_next_1 _))))
 refine wpAny_bind (wpAny_typeNameOfWhole_keyiter ti (wpAny_pure (wpAny_bind (wpAny_fieldsOf g od ?_))))
 have nown:Builtin.Dict_items.ownsTuple "dict_keyiterator" = false:=by decide
 simp only [nown,Bool.false_eq_true,if_false]
 show wpAny _ _ (if (Value.ref d == Value.none)=true then _ else _) _ _ s
 have nz:¬ ((Value.ref d == Value.none)=true):=Bool.false_ne_true
 rw [if_neg nz]
 refine wpAny_bind (wpAny_pure (wpAny_bind (wpAny_dictEntries gd dat ?_)))
 rw [if_neg (by simp)]
 refine wpAny_bind (wpAny_pure (wpAny_bind (wpAny_dictEpoch gd dat ?_)))
 rw [if_neg (by simp)]
 refine wpAny_pure ?_
 simp only [if_neg (show ¬ ((i:Int) < 0) by lia),Int.toNat_natCast,hx]
 refine wpAny_bind (wpAny_bind (wpAny_typeNameOfWhole_keyiter ti (wpAny_pure (wpAny_bind (wpAny_isOneOf_keyiter ti ?_)))))
 show wpAny _ _ (setField (.ref it) 1 (rawInt ((i:Int) + 1)) >>= fun _=>_) _ _ s
 refine wpAny_bind (wpAny_setField g od (by simp) ?_)
 have nx:(s.heap.update it (Obj.mapFields fun y=>y.setIfInBounds 1 (rawInt ((i:Int) + 1)))).IsKeyIter it d (i + 1) es.size ep:=
  ⟨_,Heap.get?_update_self _ g (Obj.isFreed_of_fields (Obj.data_mapFields od _)),(Obj.cls_mapFields ..).trans oc,(Obj.data_mapFields od _).trans (by simp [rawInt])⟩
 refine wpAny_bind (wpAny_holding (wpAny_bind (wpAny_isOneOf_keyiter (s:={ s with heap:=s.heap.update it (Obj.mapFields fun y=>y.setIfInBounds 1 (rawInt ((i:Int) + 1))) }) nx.typeIs ?_)))
 show wpAny _ _ (pure e.key) _ _ _
 exact wpAny_pure (wpAny_pure ⟨_,rfl,wpAny_pure (q _ nx (Heap.SameBut.update ..))⟩)
theorem t9 {Q:Option Value→Shared→Prop} (hh:A.handled=none) (hit:s.heap.IsKeyIter it d i es.size ep) (x:RawD s.heap d es ep) (hx:es[i]?=none)
  (q:∀ h',Heap.ExtBut it s.heap h'→Q none { s with heap:=h' }):wpAny (model prog w) A (pyNext (.ref it)) Q E s:=by
 have ti:=hit.typeIs
 obtain ⟨o,g,oc,od⟩:=hit
 obtain ⟨ob,gd,_,dat⟩:=x
 unfold pyNext
 refine wpAny_bind (wpAny_attempt (wpAny_callSpecial?_slot (name:=Str.ofString "__next__") ti F.slot_dict_keyiterator_next (wpAny_call_entry F.slot_dict_keyiterator_next ti F.entry_dict_keyiterator_next
  (wpAny_bind (wpAny_pure (wpAny_bind (wpAny_bind ?_)))) (F.args_dict_keyiterator_next_1 _))))
 refine wpAny_bind (wpAny_typeNameOfWhole_keyiter ti (wpAny_pure (wpAny_bind (wpAny_fieldsOf g od ?_))))
 have nown:Builtin.Dict_items.ownsTuple "dict_keyiterator" = false:=by decide
 simp only [nown,Bool.false_eq_true,if_false]
 show wpAny _ _ (if (Value.ref d == Value.none)=true then _ else _) _ _ s
 have nz:¬ ((Value.ref d == Value.none)=true):=Bool.false_ne_true
 rw [if_neg nz]
 refine wpAny_bind (wpAny_pure (wpAny_bind (wpAny_dictEntries gd dat ?_)))
 rw [if_neg (by simp)]
 refine wpAny_bind (wpAny_pure (wpAny_bind (wpAny_dictEpoch gd dat ?_)))
 rw [if_neg (by simp)]
 refine wpAny_pure ?_
 simp only [if_neg (show ¬ ((i:Int) < 0) by lia),Int.toNat_natCast,hx]
 refine wpAny_bind (wpAny_bind (wpAny_typeNameOfWhole_keyiter ti (wpAny_pure ?_)))
 show wpAny _ _ (setField (.ref it) 0 .none >>= fun _=>_) _ _ s
 refine wpAny_bind (wpAny_setField g od (by simp) ?_)
 show wpAny _ _ (newExc (.type "StopIteration") [] >>= fun _=>_) _ _ _
 refine wpAny_bind ?_
 simp only [newExc,newTuple]
 refine wpAny_bind (wpAny_newObj_type (wpAny_bind (m:=firstArgMember _ _) (wpAny_of_eq (a:=Value.none) (by first | rfl | (simp only [firstArgMember];rfl)) (wpAny_newObj_type ?_ (by size_fits)))) (by size_fits))
 simp only [raiseNew]
 refine wpAny_bind (wpAny_handled ?_)
 rw [show A.in1.handled=none from hh]
 refine wpAny_bind (wpAny_pure (wpAny_throw ?_))
 refine wpAny_bind (wpAny_isInstance (b:=true) (T:="StopIteration") ⟨_,Heap.get?_push_size _ rfl,rfl⟩ isSubtype_stop ?_)
 exact wpAny_pure (q _ (((Heap.SameBut.update ..).extBut.push _).push _))
theorem oG (hh:A.handled=none) (I:Addr) (ne:d≠I):Walks prog w A I [I,d] [I] es.size (fun i v=>∃ e,es[i]?=some e∧v=e.key) (fun i h=>h.IsKeyIter I d i es.size ep∧RawD h d es ep) where
 sub:=fun b hb=>by
  rw [List.mem_singleton] at hb
  rw [hb]
  exact List.mem_cons_self
 frame:=fun _ _ _ st hk=>⟨st.1.at fun o e=>hk I List.mem_cons_self o e,st.2.at fun o e=>hk d (List.mem_cons_of_mem _ List.mem_cons_self) o e⟩
 item:=fun i s Q E hi st hQ=>by
  refine qx st.1 st.2 (Array.getElem?_eq_getElem hi) fun h' it' sb=>?_
  exact hQ _ h' s.toks ⟨_,Array.getElem?_eq_getElem hi,rfl⟩ ⟨it',st.2.at fun o e=>sb.extBut d o ne e⟩ fun b o hb e=>sb.extBut b o (fun z=>hb (by rw [z];exact List.mem_cons_self)) e
 done:=fun s Q E st hQ=>t9 hh st.1 st.2 (Array.getElem?_eq_none (Nat.le_refl _)) fun h' ext=>hQ h' s.toks fun b o hb e=>ext b o (fun z=>hb (by rw [z];exact List.mem_cons_self)) e
 self:=fun _ _ _ _ st hQ=>wpAny_pyIter_keyiter st.1 hQ
theorem ua (nm:(d == sysModules)=false):PySem.W.KdlSrc prog w "dict" d d es.size (fun i v=>∃ e,es[i]?=some e∧v=e.key) (fun h=>RawD h d es ep) where
 type:=fun _ x=>hU x
 there:=fun _ x=>by
  obtain ⟨o,g,_⟩:=x
  exact ⟨Heap.lt_size g,Heap.lt_size g⟩
 keep:=fun _ _ x hk=>x.at fun o e=>hk d (.inl rfl) o e
 notList:=by decide
 notTuple:=by decide
 hint:=fun _ _ _ _ x q=>PySem.W.kdl_hint_dict (hU x) q
 iter:=fun _ s hh x=>⟨_,_,(fun _ _ q=>qw nm x q),oG hh _ (by obtain ⟨o,g,_⟩:=x;exact Nat.ne_of_lt (Heap.lt_size g)),⟨⟨_,Heap.get?_push_size _ rfl,rfl,rfl⟩,x.at fun o e=>Heap.get?_push_of_some _ e⟩⟩
end
end NX
namespace NX
open PySem PySem.W PySem.Spec PyProof.Rows L2
section
variable {prog:Program} {w:World} {A:Around} {E:Value→Shared→Prop} {s:Shared}
theorem nh {O:KeyOrd} {key:Nat→O.α} {kd:SortKind} {l:Addr} {vs:List Value} {Q:Value→Shared→Prop}
  (hcol:∀ Q':List Value→Shared→Prop,(∀ h' tk,(∀ b o,s.heap.get? b=some o→h'.get? b=some o)→Q' vs { s with heap:=h',toks:=tk })→wpAny (model prog w) A.in1 (collect (.ref l)) Q' E s) (h64:vs.length < 64)
  (hkind:2≤vs.length→∀ (A':Around) (E':Value→Shared→Prop) (s':Shared),(∀ b o,s.heap.get? b=some o→s'.heap.get? b=some o)→∀ Q:SortKind→Shared→Prop,Q kd s'→wpAny (model prog w) A' (keyKind' vs.toArray) Q E' s')
  (hask:∀ i j,i < vs.length→j < vs.length→∀ s':Shared,(∀ b o,s.heap.get? b=some o→s'.heap.get? b=some o)→∀ C:Bool→Shared→Prop,C (O.blt (key i) (key j)) s'→kas_ask prog w A.in1.in1 kd vs i j C s')
  (h:∀ (p:Array Nat) (h5 h':Heap) (tk e:Nat),POk vs.length p→aP key p vs.length→(∀ b o,s.heap.get? b=some o→h5.get? b=some o)→(∀ b o,h5.get? b=some o→h'.get? b=some o)→h'.get? h5.objs.size=some (seqObj "list" (List.toArray (p.toList.map fun i=>vs.getD i .none)) e)→Q (.ref h5.objs.size) { s with heap:=h',toks:=tk }) :
  wpAny (model prog w) A (call (.builtin "sorted") [.ref l]) Q E s:=by
 refine Calls.call_function_entry kind_sorted plain_sorted entry_sorted (args_sorted1 _) ?_
 unfold Builtin.«sorted»
 refine wpAny_bind (m:=checkCount "sorted" 1 1 _) (wpAny_pure (wpAny_bind (hcol _ fun h5 tk k5=>?_)))
 refine wpAny_bind (wpAny_newList ?_ (by rw [sizeLine_eq];lia))
 have k6:∀ b o,s.heap.get? b=some o→(h5.push (seqObj "list" vs.toArray 0)).get? b=some o:=fun b o e=>Heap.get?_push_of_some _ (k5 b o e)
 have hL:(h5.push (seqObj "list" vs.toArray 0)).get? h5.objs.size=some (seqObj "list" vs.toArray 0):=Heap.get?_push_size _ rfl
 have lt5:∀ b o,s.heap.get? b=some o→b < h5.objs.size:=fun b o e=>Heap.lt_size (k5 b o e)
 show wpAny _ _ _ _ _ { s with heap:=h5.push (seqObj "list" vs.toArray 0),toks:=tk }
 refine wpAny_bind (wpAny_holding (wpAny_call_entry slot_list_sort ⟨_,hL,rfl⟩ entry_list_sort (fS (key:=key) (kd:=kd) hL h64 (fun h2 h' kk Q' q=>hkind h2 _ _ _ (fun b o e=>kk b o (Nat.ne_of_lt (lt5 b o e)) (k6 b o e)) Q' q)
  (fun i j hi hj h' kk C q=>hask i j hi hj _ (fun b o e=>kk b o (Nat.ne_of_lt (lt5 b o e)) (k6 b o e)) C q) fun p h' hp hs ⟨e,he⟩ kk=>⟨_,rfl,?_⟩) (args_list_sort _)))
 exact wpAny_pure ⟨_,rfl,h p h5 h' tk e hp hs k5 (fun b o q=>kk b o (Nat.ne_of_lt (Heap.lt_size q)) (Heap.get?_push_of_some _ q)) he⟩
end
section
variable {X:Cx} {pins:List (Addr×Obj)} {σ:L2.St} {H:Hp} {s:Shared}
theorem ub {H:Hp} {kvs:List (List Key×V)} {xs:List (List Key×Addr×Value)} (r:KT H kvs xs):xs.map (·.1)=kvs.map (·.1):=by
 induction r with
 | nil=>rfl
 | cons hq _ ih=>rw [List.map_cons,List.map_cons,ih,hq.1]
theorem y1 {H:Hp} {kvs:List (List Key×V)} {xs:List (List Key×Addr×Value)} (r:KT H kvs xs):∀ y∈xs,H y.2.1=some (.tup (y.1.map kV)):=by
 induction r with
 | nil=>exact fun y hy=>nomatch hy
 | cons hq _ ih=>
  intro y hy
  rcases List.mem_cons.mp hy with rfl | hy
  ·rw [←hq.1]
   exact hq.2.1
  ·exact ih y hy
theorem uc (I:Inv X pins σ H s) {a:Addr} {kvs:List (List Key×V)} (h:Rd H a (.dT kvs)):(a == sysModules)=false∧∃ (al:List (Addr×List Key)) (es:Array DictEntry) (ep:Nat),
  RawD s.heap a es ep∧es.toList.map (·.key)=al.map (fun x=>Value.ref x.1)∧al.map (·.2)=kvs.map (·.1)∧∀ x∈al,H x.1=some (.tup (x.2.map kV)):=by
 obtain ⟨_,nm,xs,r,o,es,ep,h1,h2,h3,h4,_⟩:=h.ok I.hok
 refine ⟨nm,xs.map fun x=>(x.2.1,x.1),es,ep,⟨o,h1,h2,h3⟩,?_,?_,?_⟩
 ·rw [h4,List.map_map,List.map_map]
  rfl
 ·rw [List.map_map]
  exact ub r
 ·intro x hx
  obtain ⟨y,hy,rfl⟩:=List.mem_map.mp hx
  exact y1 r y hy
theorem iU (hc:X.calm=true):cZ X (.builtin "sorted") (fun vs H Q=>∃ (p:Addr) (kvs:List (List Key×V)) (top:Bool) (t:List Bool),vs=[.ref p]∧Rd H p (.dT kvs)∧(∀ kv∈kvs,kinds kv.1=top :: t)∧kvs.length < 64∧
  ∀ (D:Addr) (ms:List (Addr×List Key)),H D=none→(∀ a∈ms,H a.1=some (.tup (a.2.map kV)))→(ms.map (·.2)).Perm (kvs.map (·.1))→ms.Pairwise (fun a b=>cu b.2 a.2=false)→Q (.ref D) (upd H D (.lst (ms.map fun a=>V.ref a.1)))):=by
 intro pins s σ H vs us Q I r h
 obtain ⟨p,kvs,top,kt,rfl,hp,hk,h64,q⟩:=h
 obtain ⟨u,rfl,r1⟩:=gS r
 cases r1
 obtain ⟨nm,al,es,ep,raw,ekeys,ekv,hal0⟩:=uc I hp
 have hall:al.length=kvs.length:=by
  have:=congrArg List.length ekv
  simpa using this
 have hal:∀ a∈al,SqT X.K H a.1 (a.2.map kV)∧kinds a.2=top :: kt:=fun a ha=>by
  refine ⟨SqT.of (hal0 a ha),?_⟩
  have:a.2∈kvs.map (·.1):=by rw [←ekv];exact List.mem_map.mpr ⟨a,ha,rfl⟩
  obtain ⟨kv,hkv,e⟩:=List.mem_map.mp this
  rw [←e]
  exact hk kv hkv
 have rv:Vals (al.map fun a=>V.ref a.1) (al.map fun a=>Value.ref a.1):=by
  clear ekeys ekv hal0 hall hal
  induction al with
  | nil=>exact .nil
  | cons a al ih=>exact .cons rfl ih
 have hl:(al.map fun a=>Value.ref a.1).length=al.length:=List.length_map ..
 refine nh (O:=yq) (key:=fun i=>(al.getD i (0,[])).2) (kd:=tuples' true) (vs:=al.map fun a=>Value.ref a.1) (fun Q' hq=>?_) (by lia) (fun h2 A' E' s' kk Q' q'=>?_) (fun i j hi hj s' kk C q'=>?_) fun pp h5 h' tk e hpp hs k5 k' he=>?_
 ·refine kdu_collect (ua nm) (I.ok.hd hc) raw (by have:=congrArg List.length ekeys;simp only [List.length_map,Array.length_toList] at this;rw [sizeLine_eq];lia) fun h' tk acc kk hacc=>?_
  have ea:acc.toList=al.map fun a=>Value.ref a.1:=by
   rw [←ekeys]
   apply List.ext_getElem?
   intro j
   rw [List.getElem?_map,Array.getElem?_toList,Array.getElem?_toList]
   cases hj:acc[j]? with
   | none=>
    have:es[j]?=none:=by
     rw [Array.getElem?_eq_none_iff] at hj ⊢
     rw [←hacc.1]
     exact hj
    rw [this]
    rfl
   | some v=>
    obtain ⟨en,h1,h2⟩:=hacc.2 j v hj
    rw [h1,h2]
    rfl
  have:=hq h' tk kk
  rw [←ea] at this
  exact this
 ·obtain ⟨fs,t1,t2,t3⟩:=lZ (h':=s'.heap) I kk top rv fun a ha=>⟨(hal a ha).1,kt,(hal a ha).2⟩
  refine kat_kind (T:=.type (if top then "int" else "str")) t1 (by lia) (fun v hv=>t3 v hv _) (by simp) ?_
  have:((Value.type (if top then "int" else "str")) != Value.type "tuple")=true:=by cases top <;> decide
  rw [this]
  exact q'
 ·unfold kas_ask
  have hi':i < al.length:=by lia
  have hj':j < al.length:=by lia
  rw [ju rv hi',ju rv hj']
  have mi:al.getD i (0,[])∈al:=by rw [aU _ _ _ hi'];exact List.getElem_mem _
  have mj:al.getD j (0,[])∈al:=by rw [aU _ _ _ hj'];exact List.getElem_mem _
  obtain ⟨u1,o1,n1,r1,g1,_,d1⟩:=kn I (hal _ mi).1
  obtain ⟨u2,o2,n2,r2,g2,_,d2⟩:=kn I (hal _ mj).1
  have ek:kinds (al.getD i (0,[])).2=kinds (al.getD j (0,[])).2:=by rw [(hal _ mi).2,(hal _ mj).2]
  have el:u1.length=u2.length:=by
   have a1:=r1.length
   have a2:=r2.length
   have a3:=congrArg List.length ek
   simp only [kinds,List.length_map] at a1 a2 a3
   lia
  refine kat_lt (kk _ _ g1) d1 (kk _ _ g2) d2 ?_
  have ef:decide (u1.toArray.size < u2.toArray.size)=false:=by simp [el]
  rw [ef]
  exact ii _ _ _ _ 0 r1 r2 ek q'
 ·rw [hl] at hpp hs
  have hpx:POk (al.map fun a=>V.ref a.1).length pp:=by rw [List.length_map];exact hpp
  have eo:ng pp (al.map fun a=>V.ref a.1)=(pp.toList.map fun i=>al.getD i (0,[])).map fun a=>V.ref a.1:=by
   unfold ng
   rw [List.map_map]
   refine List.map_congr_left fun i hi=>?_
   have hi:=List.mem_range.mp (hpp.perm.mem_iff.mp hi)
   show (al.map fun a=>V.ref a.1).getD i .non=V.ref (al.getD i (0,[])).1
   rw [aU _ _ _ (by rw [List.length_map];exact hi),aU _ _ _ hi]
   simp
  have I5:Inv X pins σ H { s with heap:=h5,toks:=tk }:=I.kept k5
  have hn:H h5.objs.size=none:=I5.hok.fresh (Nat.le_refl _)
  refine ⟨.ref h5.objs.size,_,fT (s:={ s with heap:=h5,toks:=tk }) I5 k' (Nat.le_refl _) he (g9 rv hpx) ?_,rfl,?_⟩
  ·show (ng pp (al.map fun a=>V.ref a.1)).length≤sizeLine
   rw [eo,List.length_map,List.length_map,hpp.perm.length_eq,List.length_range,sizeLine_eq]
   lia
  ·rw [eo]
   have pm:=g8 (0,[]) hpp
   refine q _ _ hn (fun a ha=>hal0 a (pm.mem_iff.mp ha)) ?_ ?_
   ·rw [←ekv]
    exact pm.map _
   ·exact eL (O:=yq) (0,[]) (fun a:Addr×List Key=>a.2) hpp hs
end
end NX
namespace NX
open PySem PySem.Spec PyProof.Rows L2
section
open PySem.SeqAt
open PySem.AutoSeq1 (wpAny_loadPart')
open PySem.MeetsSeq PySem.MeetsSeq2 PySem.MeetsSeq3
theorem l5 {A:Around} {s:Shared} {a c:Key} {u v:Value} (ra:RelV (kV a) u) (rc:RelV (kV c) v):EqAt A s u v (decide (a=c)):=by
 have h:=rF (A:=A) (s:=s) ra rc (hJ a) (hJ c)
 rw [oB] at h
 exact h
theorem qy {prog:Program} {w:World} {A:Around} {E:Value→Shared→Prop} {s:Shared} {Q:Value→Shared→Prop} {a c:Key} {u v:Value} (ra:RelV (kV a) u) (rc:RelV (kV c) v) (hk:a.isLeft=c.isLeft) (h:Q (.bool (lf.blt a c)) s) :
  wpAny (model prog w) A (richCompare .Lt u v) Q E s:=by
 cases a with
 | inl i=>
  cases c with
  | inr _=>cases hk
  | inl j=>
   obtain ⟨t,rfl⟩:=ra
   obtain ⟨t',rfl⟩:=rc
   exact (PyProof.Rows.lt_int h:wpAny (model prog w) A (compareOp .Lt (.int i t) (.int j t')) Q E s)
 | inr x=>
  cases c with
  | inl _=>cases hk
  | inr y=>
   obtain ⟨t,rfl⟩:=ra
   obtain ⟨t',rfl⟩:=rc
   exact (PyProof.Rows.lt_str h:wpAny (model prog w) A (compareOp .Lt (.str x t) (.str y t')) Q E s)
theorem qz {prog:Program} {w:World} {A:Around} {E:Value→Shared→Prop} {s:Shared} {Q:Value→Shared→Prop} {a c:Key} {u v:Value} (ra:RelV (kV a) u) (rc:RelV (kV c) v) (hk:a.isLeft=c.isLeft) (h:Q (.bool (!lf.blt a c)) s) :
  wpAny (model prog w) A (richCompare .GtE u v) Q E s:=by
 cases a with
 | inl i=>
  cases c with
  | inr _=>cases hk
  | inl j=>
   obtain ⟨t,rfl⟩:=ra
   obtain ⟨t',rfl⟩:=rc
   refine (PyProof.Rows.ge_int ?_:wpAny (model prog w) A (compareOp .GtE (.int i t) (.int j t')) Q E s)
   have e:(!lf.blt (.inl i) (.inl j))=decide (j≤i):=by
    show (!decide (i < j))=decide (j≤i)
    rw [Bool.eq_iff_iff]
    simp
   rw [e] at h
   exact h
 | inr x=>
  cases c with
  | inl _=>cases hk
  | inr y=>
   obtain ⟨t,rfl⟩:=ra
   obtain ⟨t',rfl⟩:=rc
   exact (PySem.P.ge_str h:wpAny (model prog w) A (compareOp .GtE (.str x t) (.str y t')) Q E s)
theorem kr (a c:Key) (r t:List Key):cu (a :: r) (c :: t)=if a=c then cu r t else lf.blt a c:=rfl
theorem jx (l b:Addr) (items items2:Array Value) (n n2:Nat) (dd dd2:Option Addr) (sl sl2:Array (Option Value)) (ks js:List Key) (hi:Vals (ks.map kV) items.toList) (hj:Vals (js.map kV) items2.toList) (hk:kinds ks=kinds js) :
  Meets (Builtin.«tuple.__lt__» ⟨[.ref l,.ref b],[]⟩)
   (fun _ R s=>s.heap.get? l=some { cls:=.type "tuple",dict:=dd,data:=.seq items n,slots:=sl }∧s.heap.get? b=some { cls:=.type "tuple",dict:=dd2,data:=.seq items2 n2,slots:=sl2 }∧R (.ok (.ret (.bool (cu ks js)))) s):=
 .of_wp fun prog w A R s h=>by
  obtain ⟨hp,g,d,tk,os⟩:=s;obtain ⟨hl,hb,h⟩:=h
  have f2:=AutoSeq1.sub_tuple_tuple
  have z1:items.size=ks.length:=by have:=hi.length;simp at this;lia
  have z2:items2.size=js.length:=by have:=hj.length;simp at this;lia
  have z3:ks.length=js.length:=by have:=congrArg List.length hk;simpa [kinds] using this
  wp_walk using wpAny_loadPart' hl,wpAny_loadPart' hb,wpAny_forIn_list _ (fun cj b s'=>b.1=none∧s'=⟨hp,g,d,tk,os⟩∧∃ (vs ws:List Value) (ks' js':List Key),cj=vs.zip ws∧
   Vals (ks'.map kV) vs∧Vals (js'.map kV) ws∧kinds ks'=kinds js'∧R (.ok (.ret (.bool (cu ks' js')))) ⟨hp,g,d,tk,os⟩) _
  case turn=>
   rintro ⟨y,x⟩ cj b s' ⟨hb',rfl,vs,ws,ks',js',hz,hvi,hwi,hkk,hR⟩
   cases ks' with
   | nil=>
    cases hvi
    rw [List.zip_nil_left] at hz;cases hz
   | cons a ks'=>
    cases js' with
    | nil=>cases hkk
    | cons c js'=>
     cases hvi with
     | @cons _ va _ vs' ra hvi'=>
      cases hwi with
      | @cons _ vc _ ws' rc hwi'=>
       rw [List.zip_cons_cons] at hz
       injection hz with hyx hrest
       injection hyx with hy hx
       subst hy hx
       have hk1:a.isLeft=c.isLeft:=(List.cons.inj hkk).1
       have hk2:kinds ks'=kinds js':=(List.cons.inj hkk).2
       rw [kr] at hR
       have he:=l5 (A:=A.in1) (s:=⟨hp,g,d,tk,os⟩) ra rc
       refine wpAny_bind (he prog w _ _ ?_)
       by_cases hac:a=c
       ·rw [if_pos hac] at hR
        rw [decide_eq_true hac]
        wp_walk
        exact ⟨rfl,rfl,_,_,_,_,hrest,hvi',hwi',hk2,hR⟩
       ·rw [if_neg hac] at hR
        rw [decide_eq_false hac]
        have hri:=fun E Q=>qy (prog:=prog) (w:=w) (A:=A.in1) (E:=E) (s:=⟨hp,g,d,tk,os⟩) (Q:=Q) ra rc hk1
        wp_walk using hri
        exact ⟨_,rfl,by simpa using hR⟩
  case fin=>
   rintro ⟨b1,b2⟩ s' ⟨hb',rfl,vs,ws,ks',js',hz,hvi,hwi,hkk,hR⟩
   simp only at hb'
   subst hb'
   have hv:cu ks' js'=decide (items.size < items2.size):=by
    cases ks' with
    | nil=>
     cases js' with
     | nil=>exact (decide_eq_false (by lia)).symm
     | cons c js'=>cases hkk
    | cons a ks'=>
     cases js' with
     | nil=>cases hkk
     | cons c js'=>
      cases hvi
      cases hwi
      rw [List.zip_cons_cons] at hz
      cases hz
   rw [hv] at hR
   wp_walk
   exact ⟨_,rfl,by simpa [Builtin.Tuple.tupleCompareSizes] using hR⟩
  case h=>
   exact ⟨rfl,rfl,items.toList,items2.toList,ks,js,rfl,hi,hj,hk,h⟩
theorem jy (l b:Addr) (items items2:Array Value) (n n2:Nat) (dd dd2:Option Addr) (sl sl2:Array (Option Value)) (ks js:List Key) (hi:Vals (ks.map kV) items.toList) (hj:Vals (js.map kV) items2.toList) (hk:kinds ks=kinds js) :
  Meets (Builtin.«tuple.__ge__» ⟨[.ref l,.ref b],[]⟩)
   (fun _ R s=>s.heap.get? l=some { cls:=.type "tuple",dict:=dd,data:=.seq items n,slots:=sl }∧s.heap.get? b=some { cls:=.type "tuple",dict:=dd2,data:=.seq items2 n2,slots:=sl2 }∧R (.ok (.ret (.bool (!cu ks js)))) s):=
 .of_wp fun prog w A R s h=>by
  obtain ⟨hp,g,d,tk,os⟩:=s;obtain ⟨hl,hb,h⟩:=h
  have f2:=AutoSeq1.sub_tuple_tuple
  have z1:items.size=ks.length:=by have:=hi.length;simp at this;lia
  have z2:items2.size=js.length:=by have:=hj.length;simp at this;lia
  have z3:ks.length=js.length:=by have:=congrArg List.length hk;simpa [kinds] using this
  wp_walk using wpAny_loadPart' hl,wpAny_loadPart' hb,wpAny_forIn_list _ (fun cj b s'=>b.1=none∧s'=⟨hp,g,d,tk,os⟩∧∃ (vs ws:List Value) (ks' js':List Key),cj=vs.zip ws∧
   Vals (ks'.map kV) vs∧Vals (js'.map kV) ws∧kinds ks'=kinds js'∧R (.ok (.ret (.bool (!cu ks' js')))) ⟨hp,g,d,tk,os⟩) _
  case turn=>
   rintro ⟨y,x⟩ cj b s' ⟨hb',rfl,vs,ws,ks',js',hz,hvi,hwi,hkk,hR⟩
   cases ks' with
   | nil=>
    cases hvi
    rw [List.zip_nil_left] at hz;cases hz
   | cons a ks'=>
    cases js' with
    | nil=>cases hkk
    | cons c js'=>
     cases hvi with
     | @cons _ va _ vs' ra hvi'=>
      cases hwi with
      | @cons _ vc _ ws' rc hwi'=>
       rw [List.zip_cons_cons] at hz
       injection hz with hyx hrest
       injection hyx with hy hx
       subst hy hx
       have hk1:a.isLeft=c.isLeft:=(List.cons.inj hkk).1
       have hk2:kinds ks'=kinds js':=(List.cons.inj hkk).2
       rw [kr] at hR
       have he:=l5 (A:=A.in1) (s:=⟨hp,g,d,tk,os⟩) ra rc
       refine wpAny_bind (he prog w _ _ ?_)
       by_cases hac:a=c
       ·rw [if_pos hac] at hR
        rw [decide_eq_true hac]
        wp_walk
        exact ⟨rfl,rfl,_,_,_,_,hrest,hvi',hwi',hk2,hR⟩
       ·rw [if_neg hac] at hR
        rw [decide_eq_false hac]
        have hri:=fun E Q=>qz (prog:=prog) (w:=w) (A:=A.in1) (E:=E) (s:=⟨hp,g,d,tk,os⟩) (Q:=Q) ra rc hk1
        wp_walk using hri
        exact ⟨_,rfl,by simpa using hR⟩
  case fin=>
   rintro ⟨b1,b2⟩ s' ⟨hb',rfl,vs,ws,ks',js',hz,hvi,hwi,hkk,hR⟩
   simp only at hb'
   subst hb'
   have hv:(!cu ks' js')=decide (items2.size≤items.size):=by
    cases ks' with
    | nil=>
     cases js' with
     | nil=>exact (decide_eq_true (by lia)).symm
     | cons c js'=>cases hkk
    | cons a ks'=>
     cases js' with
     | nil=>cases hkk
     | cons c js'=>
      cases hvi
      cases hwi
      rw [List.zip_cons_cons] at hz
      cases hz
   rw [hv] at hR
   wp_walk
   exact ⟨_,rfl,by simpa [Builtin.Tuple.tupleCompareSizes] using hR⟩
  case h=>
   exact ⟨rfl,rfl,items.toList,items2.toList,ks,js,rfl,hi,hj,hk,h⟩
end
section
variable {X:Cx}
noncomputable def z7 (K:W.Frag) (neg:Bool):R2:=fun x y H Q=>∃ a b ks js,x=.ref a∧y=.ref b∧SqT K H a (ks.map kV)∧SqT K H b (js.map kV)∧kinds ks=kinds js∧Q (.bl (if neg then !cu ks js else cu ks js)) H
theorem wP (hu:X.A.units < cLine):OpR X (compareOp .Lt) (z7 X.K false):=by
 intro pins s σ H x y v u Q I rx ry h
 obtain ⟨a,b,ks,js,rfl,rfl,ha,hb,hk,q⟩:=h
 cases rx
 cases ry
 obtain ⟨its,r1,p1,_⟩:=I.tuple ha
 obtain ⟨its2,r2,p2,_⟩:=I.tuple hb
 obtain ⟨⟨cls,dd,data,sl⟩,ho,hc,n,hd⟩:=id p1
 obtain ⟨⟨cls2,dd2,data2,sl2⟩,ho2,hc2,n2,hd2⟩:=id p2
 simp only at hc hd hc2 hd2
 subst hc hd hc2 hd2
 exact richCompare_meets_room (op:=.Lt) ⟨_,ho,rfl⟩ ⟨_,ho2,rfl⟩ PySem.F.slot_tuple_lt PySem.F.entry_tuple_lt (PySem.F.args_tuple_lt_2 _ _) (jx a b _ _ n n2 dd dd2 sl sl2 ks js (by simpa using r1) (by simpa using r2) hk)
  ⟨ho,ho2,show Value.bool (cu ks js)≠Value.notImplemented∧EP X pins σ Q (.bool (cu ks js)) s from ⟨(fun x=>nomatch x),⟨.bl (cu ks js),H,I,rfl,q⟩⟩⟩ hu
theorem wQ (hu:X.A.units < cLine):OpR X (compareOp .GtE) (z7 X.K true):=by
 intro pins s σ H x y v u Q I rx ry h
 obtain ⟨a,b,ks,js,rfl,rfl,ha,hb,hk,q⟩:=h
 cases rx
 cases ry
 obtain ⟨its,r1,p1,_⟩:=I.tuple ha
 obtain ⟨its2,r2,p2,_⟩:=I.tuple hb
 obtain ⟨⟨cls,dd,data,sl⟩,ho,hc,n,hd⟩:=id p1
 obtain ⟨⟨cls2,dd2,data2,sl2⟩,ho2,hc2,n2,hd2⟩:=id p2
 simp only at hc hd hc2 hd2
 subst hc hd hc2 hd2
 exact richCompare_meets_room (op:=.GtE) ⟨_,ho,rfl⟩ ⟨_,ho2,rfl⟩ PySem.F.slot_tuple_ge PySem.F.entry_tuple_ge (PySem.F.args_tuple_ge_2 _ _) (jy a b _ _ n n2 dd dd2 sl sl2 ks js (by simpa using r1) (by simpa using r2) hk)
  ⟨ho,ho2,show Value.bool (!cu ks js)≠Value.notImplemented∧EP X pins σ Q (.bool (!cu ks js)) s from ⟨(fun x=>nomatch x),⟨.bl (!cu ks js),H,I,rfl,q⟩⟩⟩ hu
end
section
variable {prog:Program} {w:World} {A:Around} {E:Value→Shared→Prop} {s:Shared}
end
noncomputable def tDisp1T (tk tv:TE):TE:=fun σ H Q=>∀ p,H p=none→tk σ (upd H p (.dT [])) fun x H1=>tv σ H1 fun y H2=>H2 p=some (.dT [])∧∃ (ks:List Key) (b:Addr),x=.ref b∧H2 b=some (.tup (ks.map kV))∧Q (.ref p) (upd H2 p (.dT [(ks,y)]))
theorem oH {X:Cx} {pos:Pos} {k v:Expr} {tk tv:TE} (hu:X.A.units + 1 < cLine) (hk:PE X k tk) (hv:PE X v tv):PE X (.Dict [some k] [v] pos) (tDisp1T tk tv):=by
 intro pins s σ H Q I q
 have hn:=I.hok.fresh (Nat.le_refl s.heap.objs.size)
 have I1:=I.laid (a:=s.heap.objs.size) (o:=.dT []) (h':=s.heap.push { cls:=.type "dict",data:=.dict #[] }) (t':=s.toks) (fun _ _ q=>Heap.get?_push_of_some _ q) (Nat.le_refl _) (dt_empty s.heap I.big)
 have hl:(pairTrees [some k] [v] X.env pos).length=1:=pairTrees_length [some k] [v] X.env pos rfl rfl
 rw [arm_eval_Dict,zip_pairTrees [some k] [v] X.env pos rfl rfl,dictDisplay_pairs _ (fun z=>by rw [z] at hl;cases hl) (by rw [hl];decide)]
 refine wpAny_bind (wpAny_standAt (wpAny_bind ?_))
 unfold subDict
 refine wpAny_bind (wpAny_alloc (wpAny_bind (wpAny_holding ?_)))
 rw [if_pos (by rw [hl];decide)]
 refine wpAny_bind ?_
 refine thn (qv (pos:=pos) hk hv (tZ (X:=X)) pins _ σ _ (fun ps H2=>match ps with
  | [(x,y)]=>H2 s.heap.objs.size=some (.dT [])∧∃ (ks:List Key) (b:Addr),x=.ref b∧H2 b=some (.tup (ks.map kV))∧Q (.ref s.heap.objs.size) (upd H2 s.heap.objs.size (.dT [(ks,y)]))
  | _=>False) I1 (q _ hn)) fun vs s2 hh=>?_
 obtain ⟨ps,H2,I2,rel,q2⟩:=hh
 match ps,rel,q2 with
 | [(x,y)],rel,⟨e,ks,b,ex,eb,q3⟩=>
  cases rel with
  | @cons p0 q0 as bs h0 t0=>
   cases t0
   obtain ⟨u,r⟩:=q0
   obtain ⟨rx,ry⟩:=h0
   subst ex
   cases (show u=Value.ref b from rx)
   obtain ⟨z,hd,xs,rl,dd⟩:=wN I2.hok e
   cases rl
   refine wpAny_holding ?_
   refine wpAny_bind ?_
   rw [List.forIn_cons]
   refine wpAny_bind (wpAny_bind (wpAny_dictSet_heap (hsz:=Nat.zero_le _) (knd:=tupleKind (mixKind X.prog X.w)) (Nat.lt_of_le_of_lt (Nat.le_succ _) hu) (ja I2.hok eb) dd fun h' dd' hs=>wpAny_pure ?_))
   dsimp only
   rw [List.forIn_nil]
   refine wpAny_pure (wpAny_pure (wpAny_pure (wpAny_pure ⟨.ref s.heap.objs.size,_,?_,rfl,q3⟩)))
   obtain ⟨q,es,ep,hq,h2,h3,h4,_,h5⟩:=dd'
   refine lu I2 (by rw [e];exact True.intro) hs ⟨q,hq⟩ ⟨by rw [sizeLine_eq];exact (by decide:1≤16777216),hd,_,(KT.put (kvs:=[]) (xs:=[]) .nil ks eb ry).keeps fun c ys ec=>?_,q,es,ep,hq,h2,h3,h4,h5⟩
   rw [aA (vP ec e (fun z=>nomatch z))]
   exact ec
theorem ud {P:Program} {w:World} {H:Hp} {h:Heap} {a:Addr} {o:HO} (x:ObjOk P w H h a o):∃ u,h.get? a=some u:=by
 cases o with
 | lst xs=>obtain ⟨_,_,_,_,e⟩:=x;exact ⟨_,e⟩
 | tup xs=>obtain ⟨_,_,_,_,e,_⟩:=x;exact ⟨_,e⟩
 | dK kvs=>obtain ⟨_,_,_,_,_,_,_,e,_⟩:=x;exact ⟨_,e⟩
 | dT kvs=>obtain ⟨_,_,_,_,_,_,_,e,_⟩:=x;exact ⟨_,e⟩
 | set S n=>obtain ⟨_,_,_,_,e,_⟩:=x;exact ⟨_,e⟩
 | ins C dx fs=>obtain ⟨_,_,_,e,_⟩:=x;exact ⟨_,e⟩
 | own y=>exact x
 | xd fs=>obtain ⟨_,⟨_,_,_,e,_⟩,_⟩:=x;exact ⟨_,e⟩
 | rng lo hi=>obtain ⟨_,_,_,e⟩:=x;exact ⟨_,e⟩
 | frz ob u=>obtain ⟨e,_⟩:=x;exact ⟨_,e⟩
 | tbl ps=>exact ⟨_,x⟩
 | met f y=>exact ⟨_,x⟩
 | ext φ=>obtain ⟨_,e,_⟩:=x;exact e
def XCl (mg:Str→Option Value) (base:Heap) (x:Str) (C:Addr):Prop:=∃ B newId initId bm,ExcBaseFacts B newId initId bm∧OwnCls x C bm newId mg base
theorem wR {K:W.Frag} {h:Heap} {mg:Str→Option Value} {x:Str} {C:Addr} {mB:List Value} {nw:String} (X:K.In h) (G:h.Ns mainGlobals mg) (e:PySem.W.nsIn K mainGlobals x=some (some (.ref C))) (q:PySem.W.excIn K C mB nw=true):OwnCls x C mB nw mg h:=by
 refine ⟨PySem.W.mg_of X G e,?_⟩
 unfold PySem.W.excIn at q
 split at q
 ·rename_i zd cd sl ho
  split at q
  ·rename_i C' mro z0 z1 z2 z3 z4 z5 hm hs
   rw [Bool.and_eq_true,Bool.and_eq_true,Bool.and_eq_true,Bool.and_eq_true,Bool.and_eq_true] at q
   obtain ⟨⟨⟨⟨⟨q1,q2⟩,q3⟩,q4⟩,q5⟩,q6⟩:=q
   have d1:=beq_iff_eq.mp q1
   have d2:=beq_iff_eq.mp q2
   have d6:=beq_iff_eq.mp q6
   have d3:cd.hasDel=false:=by revert q3;cases cd.hasDel <;> decide
   clear q1 q2 q3 q6
   subst d1
   subst d2
   cases cd
   dsimp only at hm d3 q5 d6
   subst hm
   subst d3
   have ez:sl = #[z0,z1,z2,z3,some (.builtin z4),z5]:=by
    cases sl
    dsimp only at hs
    rw [hs]
   subst ez
   exact ⟨_,_,_,_,_,_,_,_,_,_,_,_,_,_,_,_,_,X _ _ ho,.of_isNs (PySem.W.isNs_of_in X q5),PySem.W.nsMap_none_of_in X q5 d6,PySem.W.tail_of_in X q4⟩
  ·cases q
 ·cases q
noncomputable def CXC (P:Program) (w:World) (base:Heap) (C:Addr):CXT:=fun outer H s E e s'=>
 ∃ (a t:Addr) (B:Heap) (H':Hp),e=.ref a∧s'.os=s.os∧AllBare s'.gens∧Un (frs outer) [] H H' s.heap s'.heap∧HOk P w H' s'.heap∧Heap.FlyingW B outer a (.ref C) (.ref t) s'.heap∧
  (∀ b u,s'.heap.get? b=some u→(H' b≠none∨∃ o,s.heap.get? b=some o)→b∉frs outer→B.get? b=some u)∧E (.ref C) none H'
def Acc (X:Cx) (C:Addr) (Ww:Hp→Prop):Prop:=∀ (pins:List (Addr×Obj)) (σ:L2.St) (H:Hp) (s:Shared) (h':Heap) (a:Addr) (args:List Value),Inv X pins σ H s→Ww H→Heap.MadeExcOf s.heap h' a (.ref C) args→X.xe (.ref a) { s with heap:=h' }
theorem wS {P:Program} {w:World} {K:W.Frag} {mg:Str→Option Value} {base:Heap} {N:List Str} {qual:Str} {scope:Scope} {f C:Addr} {cd:Value} {A:Around} {outer:List Env} {s:Shared} {H:Hp} {E:XK} :
  Acc (nY (CXC P w base C) P w K mg base N qual scope f cd A outer s H E) C (fun H'=>E (.ref C) none H'):=by
 intro pins σ H1 s1 h' a args I hW hm
 have hfs:∀ b,b∈frs (envOfC qual scope s.heap.objs.size f cd :: outer)→b∈s.heap.objs.size :: frs outer:=I.stkSub
 have nl:∀ b o,s.heap.get? b=some o→b∉frs outer→b∉frs (envOfC qual scope s.heap.objs.size f cd :: outer):=fun b o e n z=>by
  rcases List.mem_cons.mp (hfs b z) with r | r
  ·exact absurd (Heap.lt_size e) (by rw [r];exact Nat.lt_irrefl _)
  ·exact n r
 have nt:∀ b,H1 b≠none→b∉frs (envOfC qual scope s.heap.objs.size f cd :: outer):=fun b n z=>n (I.stkFree b z)
 refine wpAny_leaves_madeW (base:=PySem.W.hideAll s1.heap (frs (envOfC qual scope s.heap.objs.size f cd :: outer))) (L:=s.heap.objs.size) I.ok.frames rfl (fun b o q=>PySem.W.of_hideAll _ q) (PySem.W.funFrames_hide I.stack fun env he b hb=>List.mem_filterMap.mpr ⟨env,he,hb⟩) hm fun h2 t fly _ _ sm=>?_
 have k:∀ b u,s1.heap.get? b=some u→b∉frs (envOfC qual scope s.heap.objs.size f cd :: outer)→h2.get? b=some u:=fun b u q n=>fly.1 b u (PySem.W.hideAll_get _ q n)
 have sl:∀ b u,s1.heap.get? b=some u→b∈frs outer→∃ z,h2.get? b=some { u with slots:=z }:=fun b u q n=>by
  obtain ⟨_,o,ho,hd⟩:=I.funs.mem n
  rw [q] at ho
  cases ho
  exact sm b u (hm.keeps b u q) hd
 have there:∀ b o,s.heap.get? b=some o→∃ o',s1.heap.get? b=some o':=fun b o q=>I.base.there b o q (fun z=>nomatch z)
 refine ⟨a,t,_,H1,rfl,I.os,I.bare,⟨fun b o q n hb hx=>k b o (I.base.keep b o q n hb hx) (nl b o q hb),fun b o q n hb hx=>?_,I.base.free,fun b o q hx=>?_,I.base.tups,I.base.frzs,I.base.tbls⟩,fun b o e=>?_,fly,fun b u q hb n=>?_,hW⟩
 ·obtain ⟨z,e⟩:=I.base.slot b o q n hb hx
  obtain ⟨z',e'⟩:=sl b _ e hb
  exact ⟨z',e'⟩
 ·obtain ⟨o',e⟩:=there b o q
  by_cases hb:b∈frs outer
  ·obtain ⟨z,e'⟩:=sl b o' e hb
   exact ⟨_,e'⟩
  ·exact ⟨o',k b o' e (nl b o q hb)⟩
 ·refine (I.hok b o e).stay (fun c u hc q=>k c u q (nt c ?_)) (fun _ q=>q) fun _ _ q=>q
  rcases hc with rfl | hc
  ·rw [e];exact fun z=>nomatch z
  ·rw [hc];exact fun z=>nomatch z
 ·have h1:∃ u0,s1.heap.get? b=some u0∧b∉frs (envOfC qual scope s.heap.objs.size f cd :: outer):=by
   rcases hb with hb | ⟨o,ho⟩
   ·cases hq:H1 b with
    | none=>exact absurd hq hb
    | some ho=>
     obtain ⟨u0,e0⟩:=ud (I.hok b ho hq)
     exact ⟨u0,e0,nt b hb⟩
   ·obtain ⟨o',e⟩:=there b o ho
    exact ⟨o',e,nl b o ho n⟩
  obtain ⟨u0,e0,n0⟩:=h1
  have:=k b u0 e0 n0
  rw [show h2.get? b=some u from q] at this
  cases this
  exact PySem.W.hideAll_get _ e0 n0
def PX (X:Cx) (st:List Stmt) (t:L2.St→Hp→Prop):Prop:=
 ∀ (pins:List (Addr×Obj)) (s:Shared) (σ:L2.St) (H:Hp),Inv X pins σ H s→t σ H→wpAny (model X.prog X.w) X.A (execs st X.env) (fun _ _=>False) X.xe s
section
variable {X:Cx} {st:Stmt} {cj:List Stmt} {t:TS} {u u':L2.St→Hp→Prop} {e:Expr} {es:List Expr} {x:Str} {C:Addr} {Ww:Hp→Prop} {np cpos pos:Pos}
theorem qA {ta:TA} (O:XCl X.mg X.base x C) (acc:Acc X C Ww) (hc:X.calm=true) (hg:Gl X x) (ha:PA X (e :: es) ta) (hdb:(x == ("__debug__" : Str))=false:=by decide)
  (he:starEach (e :: es) X.env=(false,eval e X.env) :: starEach es X.env:=by rfl) (hpl:(backTo cpos (starEach es X.env)).any (·.1)=false:=by rfl) :
  PX X (.Raise (some (.Call (.Name x np) (e :: es) [] cpos)) none pos :: cj) (fun σ H=>ta σ H fun vs H1=>vs.length≤sizeLine∧Ww H1):=by
 intro pins s σ H I h
 obtain ⟨B,nw,ini,bm,FB,O⟩:=O
 obtain ⟨tl,N,nm,q,bs,hdct,sn,sub,ab,col,dd,k0,k1,k2,k3,k5,mN,hC,hN,hni,T⟩:=O.obj
 refine wpAny_execs_cons (wpAny_Raise_call_subT (C:=C) (nm:=nm) (q:=q) (N:=N) (bs:=bs) (bm:=tl) (hdct:=hdct) (sn:=sn) (sub:=sub) (ab:=ab) (col:=col) (dd:=dd) (k0:=k0) (k1:=k1) (k2:=k2) (k3:=k3) (k5:=k5) FB (mN:=mN) (T.hasType FB.hasBase) (I.ok.hd hc) (by rw [he];show (false || (backTo cpos (starEach es X.env)).any (·.1))=false;rw [hpl];rfl) hni (h8 I hg O.bound ⟨rfl,?_⟩ hdb))
 have z:=ha cpos pins s σ H _ I h
 rw [he] at z ⊢
 exact Calls.evalArgs_plain (wpAny_mono z (fun us s2 ⟨vs,H1,I1,r,hl,hw⟩=>⟨rfl,by rw [←r.length];exact hl,I1.bk _ _ hC,hN.keeps I1.bk,T.keeps I1.bk,fun h' a hm=>acc pins σ H1 s2 h' a us I1 hw hm⟩) fun _ _ y=>y)
theorem ue (h1:PS X st t) (h2:PX X cj u):PX X (st :: cj) (fun σ H=>t { nx:=u,rt:=fun _ _=>False } σ H):=by
 intro pins s σ H I h
 refine wpAny_execs_cons (thn (h1 pins s σ H _ I h) fun f s1 q=>?_)
 cases f with
 | next=>
  obtain ⟨σ',H',I',q⟩:=q
  exact h2 pins s1 σ' H' I' q
 | ret v=>obtain ⟨_,_,_,_,_,q⟩:=q;exact q
 | brk=>obtain ⟨_,_,_,q⟩:=q;exact q
 | cont=>obtain ⟨_,_,_,q⟩:=q;exact q
theorem y2 {c:Expr} {a b:List Stmt} {tc:TT} (hc:PT X c tc) (ha:PX X a u):PX X (.If c a b pos :: cj) (fun σ H=>tc σ H fun bb H1=>bb=true∧u σ H1):=by
 intro pins s σ H I h
 refine wpAny_execs_cons (wpAny_If (thn (hc pins s σ H _ I h) fun d s1 hqq=>?_))
 obtain ⟨H1,I1,e,q⟩:=hqq
 subst e
 exact wpAny_mono (ha pins s1 σ H1 I1 q) (fun _ _ z=>z.elim) fun _ _ z=>z
theorem oI (h:PX X cj u) (k:∀ σ H,u' σ H→u σ H):PX X cj u':=fun pins s σ H I z=>h pins s σ H I (k σ H z)
theorem wT (h:PX X cj u):PSs X cj (fun _ σ H=>u σ H):=fun pins s σ H _ I z=>wpAny_mono (h pins s σ H I z) (fun _ _ z=>z.elim) fun _ _ z=>z
theorem wU (h:PS X.nox st t):PS X st t:=fun pins s σ H D I hw=>wpAny_mono (h pins s σ H D (I.wish _) hw) (fun _ _ q=>q.unwish) fun _ _ z=>False.elim z
theorem wV {t:TA} (h:PA X.nox es t):PA X es t:=fun p pins s σ H Q I hw=>wpAny_mono (h p pins s σ H Q (I.wish _) hw) (fun _ _ ⟨v,H',I',r,q⟩=>⟨v,H',I'.unwish,r,q⟩) fun _ _ z=>False.elim z
end
def CtX (P:Program) (w:World) (K:W.Frag) (mg:Str→Option Value) (base:Heap) (x:Str) (k:Nat) (C:Addr) (sp:Sp):Prop:=
 ∃ f fd ps,FnOk P w K mg base (CXC P w base C) k f fd ps sp∧mg x=some (.ref f)∧PySem.W.keepIn K (.ref f)=true∧Binds K fd ps []
theorem uf {P:Program} {w:World} {K:W.Frag} {mg:Str→Option Value} {base:Heap} {x qual:Str} {st:Stmt} {f C:Addr} {fd:FuncData} {N ps:List Str} {k:Nat} {sp:Sp} (F:Fun K x qual st f fd) (S:FnScope N ps (defScope st)) (len:∀ vs H Q E,sp vs H Q E→vs.length=ps.length)
  (hbody:∀ (cdv:Value) (A:Around) (outer:List Env) (s:Shared) (H:Hp) (vs:List V) (Q:VK) (E:XK),Room k (A.deeper (envOfC qual (defScope st) s.heap.objs.size f cdv))→sp vs H Q E→
   ∃ t,PX (nY (CXC P w base C) P w K mg base N qual (defScope st) f cdv A outer s H E) (bN st) t∧t (gT N vs) H):FnOk P w K mg base (CXC P w base C) (k + 1) f fd ps sp:=by
 obtain ⟨oc,od,kV,doc,pm,an,cdv,ct,osl,rfl,lk,hcd⟩:=F.ex
 refine wu lk hcd S len fun A outer s H vs Q E hr hsp=>?_
 obtain ⟨t,h,q⟩:=hbody cdv A outer s H vs Q E hr hsp
 exact ⟨_,wT h,q⟩
def XP (X:Cx) (pins:List (Addr×Obj)) (σ:L2.St) (C:Addr) (Ww:Hp→Prop) (e:Value) (s':Shared):Prop:=∃ (s1:Shared) (H1:Hp),Inv X pins σ H1 s1∧CXC X.prog X.w X.base C X.stack H1 s1 (fun _ _ H'=>Ww H') e s'
abbrev TX:=L2.St→Hp→(Hp→Prop)→Prop
def PEX (X:Cx) (e:Expr) (C:Addr) (t:TX):Prop:=∀ (pins:List (Addr×Obj)) (s:Shared) (σ:L2.St) (H:Hp) (Ww:Hp→Prop),Inv X pins σ H s→t σ H Ww→wpAny (model X.prog X.w) X.A (eval e X.env) (fun _ _=>False) (XP X pins σ C Ww) s
def PSX (X:Cx) (st:List Stmt) (C:Addr) (t:TX):Prop:=∀ (pins:List (Addr×Obj)) (s:Shared) (σ:L2.St) (H:Hp) (Ww:Hp→Prop),Inv X pins σ H s→t σ H Ww→wpAny (model X.prog X.w) X.A (execs st X.env) (fun _ _=>False) (XP X pins σ C Ww) s
section
variable {X:Cx} {st:Stmt} {cj:List Stmt} {tx:TX} {e a b:Expr} {es:List Expr} {x:Str} {C:Addr} {k:Nat} {sp:Sp} {p pos:Pos}
theorem qB {t:TA} (c:CtX X.prog X.w X.K X.mg X.base x k C sp) (hr:Room k X.A) (hg:Gl X x) (ha:PA X.nox (e :: es) t) (hdb:(x == ("__debug__" : Str))=false:=by decide)
  (he:starEach (e :: es) X.env=(false,eval e X.env) :: starEach es X.env:=by rfl) (hpl:(backTo pos (starEach es X.env)).any (·.1)=false:=by rfl) :
  PEX X (.Call (.Name x p) (e :: es) [] pos) C (fun σ H Ww=>t σ H fun vs H1=>sp vs H1 (fun _ _=>False) fun _ _ H'=>Ww H'):=by
 intro pins s σ H Ww I h
 obtain ⟨f,fd,ps,F,m,kp,b⟩:=c
 refine wpAny_Call_Name_kw (h8 I hg m ?_ hdb)
 refine PySem.W.callWith_K (h₀:=X.base) I.ok.mod.kin kp (wpAny_mono (ha pos pins s σ H _ (I.wish _) h) (fun us s1 ⟨vs,H1,I1,r,q⟩=>⟨I1.kIn,?_⟩) fun _ _ z=>z.elim) he hpl
 have I1:=I1.unwish
 have hl:us.length=ps.length:=by rw [←r.length];exact F.len _ _ _ _ q
 have hb:BindsTo s1 fd ⟨us,[]⟩ (ps.zip us):=by
  have:=b s1 us I1.kIn (by rw [List.append_nil];exact hl)
  rw [List.append_nil] at this
  exact this
 refine wpAny_call (codeAny_mono (F.run X.A X.stack s1 H1 ⟨us,[]⟩ us vs _ _ hr I1.env0 hb r q) fun r s' hq=>?_)
 cases r with
 | error e=>exact ⟨s1,H1,I1,hq⟩
 | ok fl=>
  cases fl with
  | ret u=>obtain ⟨_,_,_,_,_,_,_,z⟩:=hq;exact z.elim
  | next=>exact False.elim hq
  | brk=>exact False.elim hq
  | cont=>exact False.elim hq
theorem wW (h:PEX X a C tx):PEX X (.Subscript a b pos) C tx:=fun pins s σ H Ww I z=>Subscript_ (wpAny_mono (h pins s σ H Ww I z) (fun _ _ z=>z.elim) fun _ _ z=>z)
theorem ug {y:Str} {pos':Pos} (h:PEX X e C tx) (hs:swapsWith e (some (.Name y pos')) pos.line X.env=pure false:=by rfl):PSX X (.Assign [.Name y pos'] e pos :: cj) C tx:=fun pins s σ H Ww I z=>
 wpAny_execs_cons (wpAny_Assign_Name (wpAny_mono (h pins s σ H Ww I z) (fun _ _ z=>z.elim) fun _ _ z=>z) hs)
end
abbrev handX (X:Cx) (a:Addr):Cx:={ X with A:=X.A.mark (some (.ref a)),calm:=false,xe:=fun _ _=>False }
theorem l6 {X:Cx} {pins:List (Addr×Obj)} {σ:L2.St} {H:Hp} {s:Shared} (I:Inv X pins σ H s) (a:Addr):Inv (handX X a) pins σ H s:=
 ⟨⟨I.ok.mod,I.ok.kind,I.ok.glob,I.ok.blt,I.ok.above,I.ok.inj,I.ok.has,I.ok.cab,(fun z=>nomatch z),I.ok.frames,I.ok.stk,I.ok.exf,I.ok.bs,I.ok.bsz,I.ok.noex,I.ok.exfs,I.ok.funs,I.ok.frf⟩,I.os,I.bare,I.base,I.loc,I.cell,I.free,I.freeC,I.pin,I.hok,I.len⟩
theorem eQ {X:Cx} {pins:List (Addr×Obj)} {σ:L2.St} {H:Hp} {s:Shared} {a:Addr} (ok:X.Ok) (I:Inv (handX X a) pins σ H s):Inv X pins σ H s:=⟨ok,I.os,I.bare,I.base,I.loc,I.cell,I.free,I.freeC,I.pin,I.hok,I.len⟩
theorem oJ {X:Cx} {pins:List (Addr×Obj)} {D:Ends} {f:Flow} {s:Shared} {a:Addr} (ok:X.Ok) (h:SP (handX X a) pins D f s):SP X pins D f s:=by
 cases f with
 | next=>obtain ⟨σ',H',I,q⟩:=h;exact ⟨σ',H',eQ ok I,q⟩
 | brk=>obtain ⟨σ',H',I,q⟩:=h;exact ⟨σ',H',eQ ok I,q⟩
 | cont=>obtain ⟨σ',H',I,q⟩:=h;exact ⟨σ',H',eQ ok I,q⟩
 | ret u=>obtain ⟨v,σ',H',I,r,q⟩:=h;exact ⟨v,σ',H',eQ ok I,r,q⟩
theorem wX {X:Cx} {body suite:List Stmt} {b0:Stmt} {x:Str} {C:Addr} {np hpos pos:Pos} {t th:TS} {tx:TX} (O:XCl X.mg X.base x C) (hg:Gl X x) (hn:PSs X.nox body t) (hx:PSX X body C tx) (hh:∀ a,PSs (handX X a) (b0 :: suite) th)
  (hs:X.stack=X.env :: X.outer:=by rfl) (hf:X.env.frame=some X.env.locals:=by rfl) (hdb:(x == ("__debug__" : Str))=false:=by decide) :
  PS X (.Try body [.ExceptHandler (some (.Name x np)) none (b0 :: suite) hpos] [] [] pos) (fun D σ H=>t D σ H∨tx σ H fun H'=>th D σ H'):=by
 intro pins s σ H D I h
 rcases h with h | h
 ·refine wpAny_Try_except (wpAny_mono (hn pins s σ H D (I.wish _) h) (fun f s1 q=>?_) fun _ _ z=>z.elim)
  have q:=q.unwish
  cases f with
  | next=>exact wpAny_execs_nil q
  | ret v=>exact q
  | brk=>exact q
  | cont=>exact q
 refine wpAny_Try_except (wpAny_mono (hx pins s σ H _ I h) (fun _ _ z=>z.elim) fun e s1 z=>?_)
 obtain ⟨s0,H1,I1,a,tt,B,H',rfl,hos,hgen,un,hok,fly,cov,hW⟩:=z
 have key:∀ h6:Heap,Heap.FlyingW B X.stack a (.ref C) (.ref tt) h6→s1.heap.UpToSlots h6→Inv X pins σ H' { s1 with heap:=h6 }:=fun h6 f6 sm=>by
  have nt:∀ b,H' b≠none→b∉frs X.stack:=fun b n z=>by
   obtain ⟨_,o,ho,_⟩:=I1.stack.mem z
   exact n (un.free b o ho (I1.stkFree b z) fun z=>nomatch z)
  have sl:∀ b u,s1.heap.get? b=some u→b∈frs X.stack→∃ z,h6.get? b=some { u with slots:=z }:=fun b u q n=>by
   obtain ⟨_,o,ho,hd⟩:=fly.2.2.1.mem n
   rw [q] at ho
   cases ho
   exact sm b u q hd
  refine I1.call' (ch:=[]) hos ⟨fun b o q n hb hx=>?_,fun b o q n hb hx=>?_,un.free,fun b o q hx=>?_,un.tups,un.frzs,un.tbls⟩ (fun b o e=>?_) hgen fun b z=>nomatch z
  ·have:=un.keep b o q n hb hx
   exact f6.1 b o (cov b o this (.inr ⟨o,q⟩) hb)
  ·obtain ⟨z,e⟩:=un.slot b o q n hb hx
   obtain ⟨z',e'⟩:=sl b _ e hb
   exact ⟨z',e'⟩
  ·obtain ⟨o',e⟩:=un.there b o q hx
   by_cases hb:b∈frs X.stack
   ·obtain ⟨z,e'⟩:=sl b o' e hb
    exact ⟨_,e'⟩
   ·exact ⟨o',f6.1 b o' (cov b o' e (.inr ⟨o,q⟩) hb)⟩
  ·refine (hok b o e).stay (fun c u hc q=>?_) (fun _ q=>q) fun _ _ q=>q
   have hc:H' c≠none:=by
    rcases hc with rfl | hc
    ·rw [e];exact fun z=>nomatch z
    ·rw [hc];exact fun z=>nomatch z
   exact f6.1 c u (cov c u q (.inl hc) (nt c hc))
 have fl:Heap.FlyingW B (X.env :: X.outer) a (.ref C) (.ref tt) s1.heap:=by rw [←hs];exact fly
 refine wpAny_looks_onW (by rw [←hs];exact I1.ok.frames) hf fl fun h4 held4 sm4=>?_
 refine wpAny_landsW held4 fun h5 fly5 sm5=>?_
 have sm45:=sm4.trans sm5
 have I5:=l6 (key h5 (by rw [hs];exact fly5) sm45) a
 obtain ⟨ob,hob,hobc⟩:=fly5.there
 refine wpAny_handleBy_cons (codeAny_handlers_test (h8 I5 hg (show (handX X a).mg x=some (.ref C) from by obtain ⟨_,_,_,_,_,O⟩:=O;exact O.bound) ?_ hdb)) (by intro q;cases q)
 obtain ⟨_,_,_,bm,FB,O⟩:=O
 obtain ⟨tl,N,nm,q,bs,hdct,sn,sub,ab,col,dd,k0,k1,k2,k3,k5,mN,hC,hN,hni,T⟩:=O.obj
 refine wpAny_excMatches_sub_self (I5.bk _ _ hC) hob hobc (T.hasType FB.hasBase) (codeAny_handlers_suite ?_)
 refine lands_againW fly5 fun h6 fly6 sm6=>?_
 have I6:=key h6 (by rw [hs];exact fly6) (sm45.trans sm6)
 exact wpAny_mono (hh a pins _ σ H' D (l6 I6 a) hW) (fun f s2 q=>oJ I6.ok q) fun _ _ z=>z.elim
end NX
namespace PV
open PySem L2 NX
inductive D where
 | non | bl (b:Bool) | int (i:Int) | str (l:List Nat) | tup (ds:List D) | lst (ds:List D) | dct (tk:Bool) (ks vs:List D)
inductive O where
 | f | l (c:O) | t (cs:List O) | d | pin (p:Addr) (c:O)
abbrev R:=O×D
abbrev Env:=List (Option R)
inductive Res (α:Type) where
 | ok (a:α) | exc (c:List Nat) | bad
noncomputable def kD:Key→D
 | .inl i=>.int i
 | .inr x=>.str x.cps.toList
noncomputable def isM:HO→Bool
 | .lst _=>true
 | .dK _=>true
 | .dT _=>true
 | _=>false
noncomputable def isT:HO→Bool
 | .tup _=>true
 | .frz _ (.tup _)=>true
 | _=>false
noncomputable def qC:Key→Prop
 | .inl _=>True
 | .inr x=>x.cps.toList.length≤sizeLine
def DictO (o:HO) (tk:Bool) (ks:List D) (xs:List V):Prop:=match tk with
 | true=>∃ kvs:List (List Key×V),o=.dT kvs∧ks=kvs.map (fun kv=>D.tup (kv.1.map kD))∧xs=kvs.map (·.2)∧∀ kv∈kvs,∀ k∈kv.1,qC k
 | false=>∃ kvs:List (Key×V),o=.dK kvs∧ks=kvs.map (fun kv=>kD kv.1)∧xs=kvs.map (·.2)∧∀ kv∈kvs,qC kv.1
mutual
noncomputable def Rep (K:W.Frag) (G:Hp):D→V→Prop
 | .non,v=>v=.non
 | .bl b,v=>v=.bl b
 | .int i,v=>v=.int i
 | .str l,v=>v=.str (S l)∧l.length≤sizeLine
 | .tup ds,v=>∃ p xs,v=.ref p∧G p=some (.tup xs)∧Reps K G ds xs
 | .lst ds,v=>∃ p xs,v=.ref p∧SqL K G p xs∧Reps K G ds xs
 | .dct tk ks vs,v=>∃ p xs o,v=.ref p∧Rd G p o∧DictO o tk ks xs∧Reps K G vs xs
noncomputable def Reps (K:W.Frag) (G:Hp):List D→List V→Prop
 | [],xs=>xs=[]
 | d :: ds,xs=>∃ y ys,xs=y :: ys∧Rep K G d y∧Reps K G ds ys
end
noncomputable def AllO (P:D→V→List Addr→Prop):List D→List V→List Addr→Prop
 | [],xs,fp=>xs=[]∧fp=[]
 | d :: ds,xs,fp=>∃ y ys a b,xs=y :: ys∧fp=a++b∧P d y a∧AllO P ds ys b
mutual
noncomputable def RepO (K:W.Frag) (G H:Hp):O→D→V→List Addr→Prop
 | .f,d,v,fp=>Rep K G d v∧fp=[]
 | .l c,.lst ds,v,fp=>∃ p xs fp',v=.ref p∧H p=some (.lst xs)∧fp=p :: fp'∧AllO (RepO K G H c) ds xs fp'
 | .t cs,.tup ds,v,fp=>∃ p xs,v=.ref p∧G p=some (.tup xs)∧RepT K G H cs ds xs fp
 | .d,.dct tk ks vs,v,fp=>∃ p xs o,v=.ref p∧H p=some o∧DictO o tk ks xs∧fp=[p]∧Reps K G vs xs
 | .pin p c,d,v,fp=>v=.ref p∧RepO K G H c d v fp
 | _,_,_,_=>False
noncomputable def RepT (K:W.Frag) (G H:Hp):List O→List D→List V→List Addr→Prop
 | [],[],xs,fp=>xs=[]∧fp=[]
 | c :: cs,d :: ds,xs,fp=>∃ y ys a b,xs=y :: ys∧fp=a++b∧RepO K G H c d y a∧RepT K G H cs ds ys b
 | _,_,_,_=>False
end
section
variable {K:W.Frag} {G G' H H':Hp}
theorem Rd.mono {p:Addr} {u:HO} (h:Same G G') (r:Rd G p u):Rd G' p u:=by
 rcases r with r | ⟨o,r⟩
 ·exact .inl (h _ _ r)
 ·exact .inr ⟨o,h _ _ r⟩
theorem eR {p:Addr} {xs:List V} (h:Same G G') (r:SqL K G p xs):SqL K G' p xs:=r.elim (fun r=>.inl (Rd.mono h r)) .inr
theorem bf {p:Addr} {xs:List V} (h:Same G G') (r:SqT K G p xs):SqT K G' p xs:=r.elim (fun r=>.inl (Rd.mono h r)) .inr
mutual
theorem Rep.mono (h:Same G G'):∀ {d:D} {v:V},Rep K G d v→Rep K G' d v
 | .non,_,r=>by simpa only [Rep] using r
 | .bl _,_,r=>by simpa only [Rep] using r
 | .int _,_,r=>by simpa only [Rep] using r
 | .str _,_,r=>by simpa only [Rep] using r
 | .tup ds,_,r=>by
  simp only [Rep] at r ⊢
  obtain ⟨p,xs,e,q,rs⟩:=r
  exact ⟨p,xs,e,h _ _ q,Reps.mono h rs⟩
 | .lst ds,_,r=>by
  simp only [Rep] at r ⊢
  obtain ⟨p,xs,e,q,rs⟩:=r
  exact ⟨p,xs,e,eR h q,Reps.mono h rs⟩
 | .dct tk ks vs,_,r=>by
  simp only [Rep] at r ⊢
  obtain ⟨p,xs,o,e,q,dd,rs⟩:=r
  exact ⟨p,xs,o,e,Rd.mono h q,dd,Reps.mono h rs⟩
theorem Reps.mono (h:Same G G'):∀ {ds:List D} {xs:List V},Reps K G ds xs→Reps K G' ds xs
 | [],_,r=>by simpa only [Reps] using r
 | d :: ds,_,r=>by
  simp only [Reps] at r ⊢
  obtain ⟨y,ys,e,r1,r2⟩:=r
  exact ⟨y,ys,e,Rep.mono h r1,Reps.mono h r2⟩
end
theorem AllO.imp {P P':D→V→List Addr→Prop}:∀ {ds:List D} {xs:List V} {fp:List Addr},(∀ d v a,(∀ p∈a,p∈fp)→P d v a→P' d v a)→AllO P ds xs fp→AllO P' ds xs fp
 | [],_,_,_,r=>r
 | d :: ds,xs,fp,h,r=>by
  obtain ⟨y,ys,a,b,e1,e2,p,q⟩:=r
  subst e2
  exact ⟨y,ys,a,b,e1,rfl,h _ _ _ (fun p hp=>List.mem_append_left _ hp) p,AllO.imp (fun d v c hc=>h d v c fun p hp=>List.mem_append_right _ (hc p hp)) q⟩
mutual
theorem RepO.step (h:Same G G'):∀ {o:O} {d:D} {v:V} {fp:List Addr},(∀ p∈fp,H' p=H p)→RepO K G H o d v fp→RepO K G' H' o d v fp
 | .f,d,v,fp,hk,r=>by
  simp only [RepO] at r ⊢
  exact ⟨Rep.mono h r.1,r.2⟩
 | .pin p c,d,v,fp,hk,r=>by
  simp only [RepO] at r ⊢
  exact ⟨r.1,RepO.step h hk r.2⟩
 | .l c,.lst ds,v,fp,hk,r=>by
  simp only [RepO] at r ⊢
  obtain ⟨p,xs,fp',e,q,e2,a⟩:=r
  subst e2
  exact ⟨p,xs,fp',e,(hk p List.mem_cons_self).trans q,rfl,AllO.imp (fun d v c hc=>RepO.step h fun z hz=>hk z (List.mem_cons_of_mem _ (hc z hz))) a⟩
 | .t cs,.tup ds,v,fp,hk,r=>by
  simp only [RepO] at r ⊢
  obtain ⟨p,xs,e,q,a⟩:=r
  exact ⟨p,xs,e,h _ _ q,RepT.step h hk a⟩
 | .d,.dct tk ks vs,v,fp,hk,r=>by
  simp only [RepO] at r ⊢
  obtain ⟨p,xs,o,e,q,dd,e2,rs⟩:=r
  subst e2
  exact ⟨p,xs,o,e,(hk p List.mem_cons_self).trans q,dd,rfl,Reps.mono h rs⟩
 | .l _,.non,_,_,_,r | .l _,.bl _,_,_,_,r | .l _,.int _,_,_,_,r | .l _,.str _,_,_,_,r | .l _,.tup _,_,_,_,r | .l _,.dct _ _ _,_,_,_,r=>by simp only [RepO] at r
 | .t _,.non,_,_,_,r | .t _,.bl _,_,_,_,r | .t _,.int _,_,_,_,r | .t _,.str _,_,_,_,r | .t _,.lst _,_,_,_,r | .t _,.dct _ _ _,_,_,_,r=>by simp only [RepO] at r
 | .d,.non,_,_,_,r | .d,.bl _,_,_,_,r | .d,.int _,_,_,_,r | .d,.str _,_,_,_,r | .d,.tup _,_,_,_,r | .d,.lst _,_,_,_,r=>by simp only [RepO] at r
theorem RepT.step (h:Same G G'):∀ {cs:List O} {ds:List D} {xs:List V} {fp:List Addr},(∀ p∈fp,H' p=H p)→RepT K G H cs ds xs fp→RepT K G' H' cs ds xs fp
 | [],[],_,_,_,r=>by simpa only [RepT] using r
 | c :: cs,d :: ds,xs,fp,hk,r=>by
  simp only [RepT] at r ⊢
  obtain ⟨y,ys,a,b,e1,e2,r1,r2⟩:=r
  subst e2
  exact ⟨y,ys,a,b,e1,rfl,RepO.step h (fun p hp=>hk p (List.mem_append_left _ hp)) r1,RepT.step h (fun p hp=>hk p (List.mem_append_right _ hp)) r2⟩
 | [],_ :: _,_,_,_,r=>by simp only [RepT] at r
 | _ :: _,[],_,_,_,r=>by simp only [RepT] at r
end
theorem AllO.frozen {P:D→V→List Addr→Prop}:∀ {ds:List D} {xs:List V} {fp:List Addr},(∀ d v a,(∀ p∈a,p∈fp)→P d v a→Rep K G' d v)→AllO P ds xs fp→Reps K G' ds xs
 | [],_,_,_,r=>by simp only [Reps];exact r.1
 | d :: ds,xs,fp,h,r=>by
  obtain ⟨y,ys,a,b,e1,e2,p,q⟩:=r
  subst e2
  simp only [Reps]
  exact ⟨y,ys,e1,h _ _ _ (fun p hp=>List.mem_append_left _ hp) p,AllO.frozen (fun d v c hc=>h d v c fun p hp=>List.mem_append_right _ (hc p hp)) q⟩
mutual
theorem RepO.frozen (h:Same G G'):∀ {o:O} {d:D} {v:V} {fp:List Addr},(∀ p∈fp,∀ u,H p=some u→G' p=some u)→RepO K G H o d v fp→Rep K G' d v
 | .f,d,v,fp,hk,r=>by
  simp only [RepO] at r
  exact Rep.mono h r.1
 | .pin p c,d,v,fp,hk,r=>by
  simp only [RepO] at r
  exact RepO.frozen h hk r.2
 | .l c,.lst ds,v,fp,hk,r=>by
  simp only [RepO] at r
  simp only [Rep]
  obtain ⟨p,xs,fp',e,q,e2,a⟩:=r
  subst e2
  exact ⟨p,xs,e,SqL.of (hk p List.mem_cons_self _ q),AllO.frozen (fun d v c hc=>RepO.frozen h fun z hz=>hk z (List.mem_cons_of_mem _ (hc z hz))) a⟩
 | .t cs,.tup ds,v,fp,hk,r=>by
  simp only [RepO] at r
  simp only [Rep]
  obtain ⟨p,xs,e,q,a⟩:=r
  exact ⟨p,xs,e,h _ _ q,RepT.frozen h hk a⟩
 | .d,.dct tk ks vs,v,fp,hk,r=>by
  simp only [RepO] at r
  simp only [Rep]
  obtain ⟨p,xs,o,e,q,dd,e2,rs⟩:=r
  subst e2
  exact ⟨p,xs,o,e,.inl (hk p List.mem_cons_self _ q),dd,Reps.mono h rs⟩
 | .l _,.non,_,_,_,r | .l _,.bl _,_,_,_,r | .l _,.int _,_,_,_,r | .l _,.str _,_,_,_,r | .l _,.tup _,_,_,_,r | .l _,.dct _ _ _,_,_,_,r=>by simp only [RepO] at r
 | .t _,.non,_,_,_,r | .t _,.bl _,_,_,_,r | .t _,.int _,_,_,_,r | .t _,.str _,_,_,_,r | .t _,.lst _,_,_,_,r | .t _,.dct _ _ _,_,_,_,r=>by simp only [RepO] at r
 | .d,.non,_,_,_,r | .d,.bl _,_,_,_,r | .d,.int _,_,_,_,r | .d,.str _,_,_,_,r | .d,.tup _,_,_,_,r | .d,.lst _,_,_,_,r=>by simp only [RepO] at r
theorem RepT.frozen (h:Same G G'):∀ {cs:List O} {ds:List D} {xs:List V} {fp:List Addr},(∀ p∈fp,∀ u,H p=some u→G' p=some u)→RepT K G H cs ds xs fp→Reps K G' ds xs
 | [],[],_,_,_,r=>by simp only [RepT] at r;simp only [Reps];exact r.1
 | c :: cs,d :: ds,xs,fp,hk,r=>by
  simp only [RepT] at r
  simp only [Reps]
  obtain ⟨y,ys,a,b,e1,e2,r1,r2⟩:=r
  subst e2
  exact ⟨y,ys,e1,RepO.frozen h (fun p hp=>hk p (List.mem_append_left _ hp)) r1,RepT.frozen h (fun p hp=>hk p (List.mem_append_right _ hp)) r2⟩
 | [],_ :: _,_,_,_,r=>by simp only [RepT] at r
 | _ :: _,[],_,_,_,r=>by simp only [RepT] at r
end
theorem AllO.live {P:D→V→List Addr→Prop}:∀ {ds:List D} {xs:List V} {fp:List Addr},(∀ d v a,P d v a→∀ p∈a,∃ u,H p=some u)→AllO P ds xs fp→∀ p∈fp,∃ u,H p=some u
 | [],_,_,_,r=>by rw [r.2];intro p hp;cases hp
 | d :: ds,xs,fp,h,r=>by
  obtain ⟨y,ys,a,b,e1,e2,p,q⟩:=r
  subst e2
  intro z hz
  rcases List.mem_append.mp hz with hz | hz
  ·exact h _ _ _ p z hz
  ·exact AllO.live h q z hz
mutual
theorem RepO.live:∀ {o:O} {d:D} {v:V} {fp:List Addr},RepO K G H o d v fp→∀ p∈fp,∃ u,H p=some u
 | .f,d,v,fp,r=>by
  simp only [RepO] at r
  rw [r.2]
  intro p hp
  cases hp
 | .pin p c,d,v,fp,r=>by
  simp only [RepO] at r
  exact RepO.live r.2
 | .l c,.lst ds,v,fp,r=>by
  simp only [RepO] at r
  obtain ⟨p,xs,fp',e,q,e2,a⟩:=r
  subst e2
  intro z hz
  rcases List.mem_cons.mp hz with rfl | hz
  ·exact ⟨_,q⟩
  ·exact AllO.live (fun d v a=>RepO.live) a z hz
 | .t cs,.tup ds,v,fp,r=>by
  simp only [RepO] at r
  obtain ⟨p,xs,e,q,a⟩:=r
  exact RepT.live a
 | .d,.dct tk ks vs,v,fp,r=>by
  simp only [RepO] at r
  obtain ⟨p,xs,o,e,q,dd,e2,rs⟩:=r
  subst e2
  intro z hz
  rw [List.mem_singleton] at hz
  exact ⟨_,hz▸q⟩
 | .l _,.non,_,_,r | .l _,.bl _,_,_,r | .l _,.int _,_,_,r | .l _,.str _,_,_,r | .l _,.tup _,_,_,r | .l _,.dct _ _ _,_,_,r=>by simp only [RepO] at r
 | .t _,.non,_,_,r | .t _,.bl _,_,_,r | .t _,.int _,_,_,r | .t _,.str _,_,_,r | .t _,.lst _,_,_,r | .t _,.dct _ _ _,_,_,r=>by simp only [RepO] at r
 | .d,.non,_,_,r | .d,.bl _,_,_,r | .d,.int _,_,_,r | .d,.str _,_,_,r | .d,.tup _,_,_,r | .d,.lst _,_,_,r=>by simp only [RepO] at r
theorem RepT.live:∀ {cs:List O} {ds:List D} {xs:List V} {fp:List Addr},RepT K G H cs ds xs fp→∀ p∈fp,∃ u,H p=some u
 | [],[],_,_,r=>by
  simp only [RepT] at r
  rw [r.2]
  intro p hp
  cases hp
 | c :: cs,d :: ds,xs,fp,r=>by
  simp only [RepT] at r
  obtain ⟨y,ys,a,b,e1,e2,r1,r2⟩:=r
  subst e2
  intro z hz
  rcases List.mem_append.mp hz with hz | hz
  ·exact RepO.live r1 z hz
  ·exact RepT.live r2 z hz
 | [],_ :: _,_,_,r=>by simp only [RepT] at r
 | _ :: _,[],_,_,r=>by simp only [RepT] at r
end
theorem DictO.isM {o:HO} {tk:Bool} {ks:List D} {xs:List V} (h:DictO o tk ks xs):PV.isM o=true:=by
 cases tk with
 | true=>
  obtain ⟨kvs,e,_⟩:=h
  rw [e];rfl
 | false=>
  obtain ⟨kvs,e,_⟩:=h
  rw [e];rfl
theorem AllO.mut {P:D→V→List Addr→Prop}:∀ {ds:List D} {xs:List V} {fp:List Addr},(∀ d v a,P d v a→∀ p∈a,∃ u,H p=some u∧isM u=true)→AllO P ds xs fp→∀ p∈fp,∃ u,H p=some u∧isM u=true
 | [],_,_,_,r=>by rw [r.2];intro p hp;cases hp
 | d :: ds,xs,fp,h,r=>by
  obtain ⟨y,ys,a,b,e1,e2,p,q⟩:=r
  subst e2
  intro z hz
  rcases List.mem_append.mp hz with hz | hz
  ·exact h _ _ _ p z hz
  ·exact AllO.mut h q z hz
mutual
theorem RepO.mut:∀ {o:O} {d:D} {v:V} {fp:List Addr},RepO K G H o d v fp→∀ p∈fp,∃ u,H p=some u∧isM u=true
 | .f,d,v,fp,r=>by
  simp only [RepO] at r
  rw [r.2]
  intro p hp
  cases hp
 | .pin p c,d,v,fp,r=>by
  simp only [RepO] at r
  exact RepO.mut r.2
 | .l c,.lst ds,v,fp,r=>by
  simp only [RepO] at r
  obtain ⟨p,xs,fp',e,q,e2,a⟩:=r
  subst e2
  intro z hz
  rcases List.mem_cons.mp hz with rfl | hz
  ·exact ⟨_,q,rfl⟩
  ·exact AllO.mut (fun d v a=>RepO.mut) a z hz
 | .t cs,.tup ds,v,fp,r=>by
  simp only [RepO] at r
  obtain ⟨p,xs,e,q,a⟩:=r
  exact RepT.mut a
 | .d,.dct tk ks vs,v,fp,r=>by
  simp only [RepO] at r
  obtain ⟨p,xs,o,e,q,dd,e2,rs⟩:=r
  subst e2
  intro z hz
  rw [List.mem_singleton] at hz
  exact ⟨_,hz▸q,dd.isM⟩
 | .l _,.non,_,_,r | .l _,.bl _,_,_,r | .l _,.int _,_,_,r | .l _,.str _,_,_,r | .l _,.tup _,_,_,r | .l _,.dct _ _ _,_,_,r=>by simp only [RepO] at r
 | .t _,.non,_,_,r | .t _,.bl _,_,_,r | .t _,.int _,_,_,r | .t _,.str _,_,_,r | .t _,.lst _,_,_,r | .t _,.dct _ _ _,_,_,r=>by simp only [RepO] at r
 | .d,.non,_,_,r | .d,.bl _,_,_,r | .d,.int _,_,_,r | .d,.str _,_,_,r | .d,.tup _,_,_,r | .d,.lst _,_,_,r=>by simp only [RepO] at r
theorem RepT.mut:∀ {cs:List O} {ds:List D} {xs:List V} {fp:List Addr},RepT K G H cs ds xs fp→∀ p∈fp,∃ u,H p=some u∧isM u=true
 | [],[],_,_,r=>by
  simp only [RepT] at r
  rw [r.2]
  intro p hp
  cases hp
 | c :: cs,d :: ds,xs,fp,r=>by
  simp only [RepT] at r
  obtain ⟨y,ys,a,b,e1,e2,r1,r2⟩:=r
  subst e2
  intro z hz
  rcases List.mem_append.mp hz with hz | hz
  ·exact RepO.mut r1 z hz
  ·exact RepT.mut r2 z hz
 | [],_ :: _,_,_,r=>by simp only [RepT] at r
 | _ :: _,[],_,_,r=>by simp only [RepT] at r
end
noncomputable def RepE (K:W.Frag) (G H:Hp):Env→List (Option V)→List Addr→Prop
 | [],vs,fp=>vs=[]∧fp=[]
 | e :: es,vs,fp=>∃ y ys,vs=y :: ys∧match e with
  | none=>RepE K G H es ys fp
  | some r=>∃ v a b,y=some v∧fp=a++b∧RepO K G H r.1 r.2 v a∧RepE K G H es ys b
theorem RepE.step (h:Same G G'):∀ {es:Env} {vs:List (Option V)} {fp:List Addr},(∀ p∈fp,H' p=H p)→RepE K G H es vs fp→RepE K G' H' es vs fp
 | [],_,_,_,r=>r
 | none :: es,vs,fp,hk,r=>by
  obtain ⟨y,ys,e,r⟩:=r
  exact ⟨y,ys,e,RepE.step h hk r⟩
 | some r :: es,vs,fp,hk,q=>by
  obtain ⟨y,ys,e,v,a,b,e1,e2,r1,r2⟩:=q
  subst e2
  exact ⟨y,ys,e,v,a,b,e1,rfl,RepO.step h (fun p hp=>hk p (List.mem_append_left _ hp)) r1,RepE.step h (fun p hp=>hk p (List.mem_append_right _ hp)) r2⟩
theorem RepE.live:∀ {es:Env} {vs:List (Option V)} {fp:List Addr},RepE K G H es vs fp→∀ p∈fp,∃ u,H p=some u
 | [],_,_,r=>by
  rw [r.2]
  intro p hp
  cases hp
 | none :: es,vs,fp,r=>by
  obtain ⟨y,ys,e,r⟩:=r
  exact RepE.live r
 | some r :: es,vs,fp,q=>by
  obtain ⟨y,ys,e,v,a,b,e1,e2,r1,r2⟩:=q
  subst e2
  intro z hz
  rcases List.mem_append.mp hz with hz | hz
  ·exact r1.live z hz
  ·exact RepE.live r2 z hz
theorem RepE.mut:∀ {es:Env} {vs:List (Option V)} {fp:List Addr},RepE K G H es vs fp→∀ p∈fp,∃ u,H p=some u∧isM u=true
 | [],_,_,r=>by
  rw [r.2]
  intro p hp
  cases hp
 | none :: es,vs,fp,r=>by
  obtain ⟨y,ys,e,r⟩:=r
  exact RepE.mut r
 | some r :: es,vs,fp,q=>by
  obtain ⟨y,ys,e,v,a,b,e1,e2,r1,r2⟩:=q
  subst e2
  intro z hz
  rcases List.mem_append.mp hz with hz | hz
  ·exact r1.mut z hz
  ·exact RepE.mut r2 z hz
theorem RepE.length:∀ {es:Env} {vs:List (Option V)} {fp:List Addr},RepE K G H es vs fp→vs.length=es.length
 | [],_,_,r=>by rw [r.1];rfl
 | none :: es,vs,fp,r=>by
  obtain ⟨y,ys,e,r⟩:=r
  rw [e,List.length_cons,List.length_cons,RepE.length r]
 | some r :: es,vs,fp,q=>by
  obtain ⟨y,ys,e,v,a,b,e1,e2,r1,r2⟩:=q
  rw [e,List.length_cons,List.length_cons,RepE.length r2]
theorem RepE.take:∀ {es:Env} {vs:List (Option V)} {fp:List Addr} {i:Nat} {r:R},RepE K G H es vs fp→es[i]?=some (some r)→
  ∃ v a b,vs[i]?=some (some v)∧RepO K G H r.1 r.2 v a∧RepE K G H (es.set i none) vs b∧fp.Perm (a++b)
 | [],_,_,_,_,_,e=>by simp at e
 | none :: es,vs,fp,0,r,q,e=>by simp at e
 | some r' :: es,vs,fp,0,r,q,e=>by
  obtain ⟨y,ys,e0,v,a,b,e1,e2,r1,r2⟩:=q
  simp at e
  subst e
  subst e0
  subst e1
  exact ⟨v,a,b,rfl,r1,⟨some v,ys,rfl,r2⟩,by rw [e2]⟩
 | none :: es,vs,fp,i + 1,r,q,e=>by
  obtain ⟨y,ys,e0,q⟩:=q
  obtain ⟨v,a,b,g1,g2,g3,g4⟩:=RepE.take q (i:=i) (r:=r) (by simpa using e)
  subst e0
  exact ⟨v,a,b,by simpa using g1,g2,⟨y,ys,rfl,g3⟩,g4⟩
 | some r' :: es,vs,fp,i + 1,r,q,e=>by
  obtain ⟨y,ys,e0,v',a',b',e1,e2,r1,r2⟩:=q
  obtain ⟨v,a,b,g1,g2,g3,g4⟩:=RepE.take r2 (i:=i) (r:=r) (by simpa using e)
  subst e0
  refine ⟨v,a,a'++b,by simpa using g1,g2,⟨y,ys,rfl,v',a',b,e1,rfl,r1,g3⟩,?_⟩
  rw [e2]
  refine (List.Perm.append_left a' g4).trans ?_
  rw [←List.append_assoc,←List.append_assoc]
  exact List.Perm.append_right b List.perm_append_comm
theorem RepE.put:∀ {es:Env} {vs:List (Option V)} {b:List Addr} {i:Nat} {r:R} {v:V} {a:List Addr},RepE K G H es vs b→es[i]?=some none→RepO K G H r.1 r.2 v a→
  ∃ fp,RepE K G H (es.set i (some r)) (vs.set i (some v)) fp∧fp.Perm (a++b)
 | [],_,_,_,_,_,_,_,e,_=>by simp at e
 | none :: es,vs,b,0,r,v,a,q,e,ro=>by
  obtain ⟨y,ys,e0,q⟩:=q
  subst e0
  exact ⟨a++b,⟨some v,ys,rfl,v,a,b,rfl,rfl,ro,q⟩,.refl _⟩
 | some r' :: es,vs,b,0,r,v,a,q,e,ro=>by simp at e
 | none :: es,vs,b,i + 1,r,v,a,q,e,ro=>by
  obtain ⟨y,ys,e0,q⟩:=q
  obtain ⟨fp,g1,g2⟩:=RepE.put q (i:=i) (r:=r) (by simpa using e) ro
  subst e0
  exact ⟨fp,⟨y,_,rfl,g1⟩,g2⟩
 | some r' :: es,vs,b,i + 1,r,v,a,q,e,ro=>by
  obtain ⟨y,ys,e0,v',a',b',e1,e2,r1,r2⟩:=q
  obtain ⟨fp,g1,g2⟩:=RepE.put r2 (i:=i) (r:=r) (by simpa using e) ro
  subst e0
  refine ⟨a'++fp,⟨y,_,rfl,v',a',fp,e1,rfl,r1,g1⟩,?_⟩
  rw [e2]
  refine (List.Perm.append_left a' g2).trans ?_
  rw [←List.append_assoc,←List.append_assoc]
  exact List.Perm.append_right b' List.perm_append_comm
structure Rel (K:W.Frag) (G H:Hp) (es:Env) (vs:List (Option V)) (fp:List Addr):Prop where
 rep:RepE K G H es vs fp
 nd:fp.Nodup
 gn:∀ p∈fp,G p=none
 gh:Same G H
structure Step (G H:Hp) (fp:List Addr) (G' H':Hp) (fp':List Addr):Prop where
 gg:Same G G'
 keep:∀ q u,H q=some u→q∉fp→H' q=some u
 fpn:∀ q∈fp',q∈fp∨H q=none
 gnew:∀ q u,G' q=some u→G q=some u∨q∈fp∨H q=none∨isT u=true∧H q=some u
 there:∀ q u,H q=some u→∃ u',H' q=some u'
theorem Step.refl {fp:List Addr}:Step G H fp G H fp:=⟨.refl _,fun _ _ h _=>h,fun _ h=>.inl h,fun _ _ h=>.inl h,fun _ u h=>⟨u,h⟩⟩
theorem Step.trans {G1 H1 G2 H2:Hp} {fp fp1 fp2:List Addr} (a:Step G H fp G1 H1 fp1) (b:Step G1 H1 fp1 G2 H2 fp2):Step G H fp G2 H2 fp2:=by
 refine ⟨a.gg.trans b.gg,fun q u h n=>?_,fun q hq=>?_,fun q u hq=>?_,fun q u h=>?_⟩
 ·refine b.keep q u (a.keep q u h n) fun hq=>?_
  rcases a.fpn q hq with z | z
  ·exact n z
  ·rw [z] at h;cases h
 ·rcases b.fpn q hq with z | z
  ·exact a.fpn q z
  ·cases e:H q with
   | none=>exact .inr rfl
   | some u=>
    obtain ⟨u',e'⟩:=a.there q u e
    rw [z] at e';cases e'
 ·rcases b.gnew q u hq with z | z | z | ⟨t,z⟩
  ·exact a.gnew q u z
  ·exact .inr ((a.fpn q z).imp_right .inl)
  ·cases e:H q with
   | none=>exact .inr (.inr (.inl rfl))
   | some u=>
    obtain ⟨u',e'⟩:=a.there q u e
    rw [z] at e';cases e'
  ·cases e:H q with
   | none=>exact .inr (.inr (.inl rfl))
   | some u2=>
    by_cases hf:q∈fp
    ·exact .inr (.inl hf)
    ·rw [a.keep q u2 e hf] at z
     cases z
     exact .inr (.inr (.inr ⟨t,rfl⟩))
 ·obtain ⟨u',h'⟩:=a.there q u h
  exact b.there q u' h'
theorem Step.wide {fp fq fp' fq':List Addr} (a:Step G H fp G' H' fp') (h:∀ q∈fp,q∈fq) (h':∀ q∈fq',q∈fp'∨q∈fq):Step G H fq G' H' fq':=
 ⟨a.gg,fun q u e n=>a.keep q u e fun z=>n (h q z),fun q hq=>(h' q hq).elim (fun z=>(a.fpn q z).imp_left (h q)) .inl,fun q u e=>(a.gnew q u e).imp_right (Or.imp_left (h q)),a.there⟩
theorem Rel.perm {es:Env} {vs:List (Option V)} {fp fq:List Addr} (r:RepE K G H es vs fq) (nd:fp.Nodup) (gn:∀ p∈fp,G p=none) (gh:Same G H) (h:fp.Perm fq):Rel K G H es vs fq:=
 ⟨r,h.nodup_iff.mp nd,fun p hp=>gn p (h.mem_iff.mpr hp),gh⟩
theorem Rel.frame {r:R} {v:V} {es:Env} {vs:List (Option V)} {fp:List Addr} (q:Rel K G H (some r :: es) (some v :: vs) fp) :
  ∃ a b,fp=a++b∧RepO K G H r.1 r.2 v a∧Rel K G H es vs b∧∀ (G' H':Hp) (es':Env) (vs':List (Option V)) (b':List Addr),Step G H b G' H' b'→Rel K G' H' es' vs' b'→
   Rel K G' H' (some r :: es') (some v :: vs') (a++b')∧Step G H (a++b) G' H' (a++b'):=by
 obtain ⟨y,ys,e,v',a,b,e1,e2,r1,r2⟩:=q.rep
 cases e
 cases e1
 subst e2
 have nd:=List.nodup_append.mp q.nd
 refine ⟨a,b,rfl,r1,⟨r2,nd.2.1,fun p hp=>q.gn p (List.mem_append_right _ hp),q.gh⟩,fun G' H' es' vs' b' st k=>?_⟩
 have nb:∀ p∈a,p∉b:=fun p hp hb=>nd.2.2 p hp p hb rfl
 have same:∀ p∈a,H' p=H p:=fun p hp=>by
  obtain ⟨u,hu⟩:=r1.live p hp
  rw [hu]
  exact st.keep p u hu (nb p hp)
 refine ⟨⟨⟨some v,vs',rfl,v,a,b',rfl,rfl,r1.step st.gg same,k.rep⟩,?_,fun p hp=>?_,k.gh⟩,st.wide (fun p hp=>List.mem_append_right _ hp) fun p hp=>?_⟩
 ·rw [List.nodup_append]
  refine ⟨nd.1,k.nd,fun p hp z hz e=>?_⟩
  subst e
  obtain ⟨u,hu⟩:=r1.live p hp
  rcases st.fpn p hz with z | z
  ·exact nb p hp z
  ·rw [z] at hu;cases hu
 ·rcases List.mem_append.mp hp with hp | hp
  ·cases e:G' p with
   | none=>rfl
   | some u=>
    exfalso
    obtain ⟨u',hu⟩:=r1.live p hp
    rcases st.gnew p u e with z | z | z | ⟨t,z⟩
    ·rw [q.gn p (List.mem_append_left _ hp)] at z;cases z
    ·exact nb p hp z
    ·rw [z] at hu;cases hu
    ·obtain ⟨u2,h2,hm⟩:=r1.mut p hp
     rw [z] at h2
     cases h2
     cases u with
     | tup _=>cases hm
     | frz _ _=>cases hm
     | _=>cases t
  ·exact k.gn p hp
 ·rcases List.mem_append.mp hp with hp | hp
  ·exact .inr (List.mem_append_left _ hp)
  ·exact .inl hp
theorem Rel.freeze {r:R} {v:V} {es:Env} {vs:List (Option V)} {fp:List Addr} (q:Rel K G H (some r :: es) (some v :: vs) fp) :
  ∃ G' b,Rep K G' r.2 v∧Rel K G' H es vs b∧Step G H fp G' H b:=by
 obtain ⟨y,ys,e,v',a,b,e1,e2,r1,r2⟩:=q.rep
 cases e
 cases e1
 subst e2
 have nd:=List.nodup_append.mp q.nd
 have nb:∀ p∈a,p∉b:=fun p hp hb=>nd.2.2 p hp p hb rfl
 have hg:Same G (fun p=>if p∈a then H p else G p):=fun p u e=>by
  show (if p∈a then H p else G p)=some u
  by_cases hp:p∈a
  ·rw [if_pos hp]
   exact q.gh p u e
  ·rw [if_neg hp]
   exact e
 refine ⟨fun p=>if p∈a then H p else G p,b,r1.frozen hg fun p hp u e=>?_,⟨r2.step hg fun _ _=>rfl,nd.2.1,fun p hp=>?_,fun p u e=>?_⟩,⟨hg,fun _ _ e _=>e,fun p hp=>.inl (List.mem_append_right _ hp),fun p u e=>?_,fun _ u e=>⟨u,e⟩⟩⟩
 ·show (if p∈a then H p else G p)=some u
  rw [if_pos hp]
  exact e
 ·show (if p∈a then H p else G p)=none
  rw [if_neg (fun z=>nb p z hp)]
  exact q.gn p (List.mem_append_right _ hp)
 ·have e:(if p∈a then H p else G p)=some u:=e
  by_cases hp:p∈a
  ·rw [if_pos hp] at e
   exact e
  ·rw [if_neg hp] at e
   exact q.gh p u e
 ·have e:(if p∈a then H p else G p)=some u:=e
  by_cases hp:p∈a
  ·exact .inr (.inl (List.mem_append_left _ hp))
  ·rw [if_neg hp] at e
   exact .inl e
end
section
variable {K:W.Frag} {G G' H H':Hp} {es:Env} {vs:List (Option V)} {fp:List Addr}
theorem l7:∀ {ds:List D} {xs:List V} {fp:List Addr},AllO (RepO K G H .f) ds xs fp↔Reps K G ds xs∧fp=[]
 | [],xs,fp=>by simp only [AllO,Reps]
 | d :: ds,xs,fp=>by
  simp only [AllO,Reps,RepO]
  constructor
  ·rintro ⟨y,ys,a,b,e1,e2,⟨r,e3⟩,q⟩
   obtain ⟨q1,q2⟩:=l7.mp q
   subst e3
   subst q2
   exact ⟨⟨y,ys,e1,r,q1⟩,e2⟩
  ·rintro ⟨⟨y,ys,e1,r,q1⟩,e⟩
   exact ⟨y,ys,[],[],e1,e,⟨r,rfl⟩,l7.mpr ⟨q1,rfl⟩⟩
theorem gF {d:D} {v:V} {a:List Addr}:RepO K G H .f d v a↔Rep K G d v∧a=[]:=by simp only [RepO]
theorem jz {ds:List D} {v:V} {a:List Addr}:RepO K G H (.l .f) (.lst ds) v a↔∃ p xs,v=.ref p∧H p=some (.lst xs)∧a=[p]∧Reps K G ds xs:=by
 rw [RepO]
 constructor
 ·rintro ⟨p,xs,b,e,q,e2,r⟩
  obtain ⟨r',eb⟩:=l7.mp r
  subst eb
  exact ⟨p,xs,e,q,e2,r'⟩
 ·rintro ⟨p,xs,e,q,e2,r⟩
  exact ⟨p,xs,[],e,q,e2,l7.mpr ⟨r,rfl⟩⟩
theorem Reps.length:∀ {ds:List D} {xs:List V},Reps K G ds xs→xs.length=ds.length
 | [],xs,r=>by simp only [Reps] at r;rw [r];rfl
 | d :: ds,xs,r=>by
  simp only [Reps] at r
  obtain ⟨y,ys,e,_,q⟩:=r
  rw [e,List.length_cons,List.length_cons,Reps.length q]
theorem Reps.get:∀ {ds:List D} {xs:List V} {i:Nat} {d:D},Reps K G ds xs→ds[i]?=some d→∃ v,xs[i]?=some v∧Rep K G d v
 | [],_,_,_,_,e=>by simp at e
 | d' :: ds,xs,0,d,r,e=>by
  simp only [Reps] at r
  obtain ⟨y,ys,e1,q,_⟩:=r
  simp at e
  subst e
  exact ⟨y,by rw [e1];rfl,q⟩
 | d' :: ds,xs,i + 1,d,r,e=>by
  simp only [Reps] at r
  obtain ⟨y,ys,e1,_,q⟩:=r
  obtain ⟨v,a,b⟩:=Reps.get q (i:=i) (d:=d) (by simpa using e)
  exact ⟨v,by rw [e1];simpa using a,b⟩
theorem Reps.app:∀ {ds es:List D} {xs ys:List V},Reps K G ds xs→Reps K G es ys→Reps K G (ds++es) (xs++ys)
 | [],_,_,_,r,q=>by simp only [Reps] at r;rw [r];exact q
 | d :: ds,es,xs,ys,r,q=>by
  simp only [Reps] at r
  obtain ⟨z,zs,e,r1,r2⟩:=r
  rw [e]
  simp only [List.cons_append,Reps]
  exact ⟨z,_,rfl,r1,r2.app q⟩
theorem Reps.one {d:D} {v:V} (r:Rep K G d v):Reps K G [d] [v]:=by
 simp only [Reps]
 exact ⟨v,[],rfl,r,rfl⟩
theorem Reps.nil:Reps K G [] []:=by simp only [Reps]
theorem Reps.cons {d:D} {v:V} {ds:List D} {xs:List V} (r:Rep K G d v) (q:Reps K G ds xs):Reps K G (d :: ds) (v :: xs):=by
 simp only [Reps]
 exact ⟨v,xs,rfl,r,q⟩
theorem Reps.cons_iff {d:D} {v:V} {ds:List D} {xs:List V}:Reps K G (d :: ds) (v :: xs)↔Rep K G d v∧Reps K G ds xs:=by
 simp only [Reps]
 constructor
 ·rintro ⟨y,ys,e,r,q⟩
  cases e
  exact ⟨r,q⟩
 ·rintro ⟨r,q⟩
  exact ⟨v,xs,rfl,r,q⟩
theorem Reps.take:∀ {ds:List D} {xs:List V} (n:Nat),Reps K G ds xs→Reps K G (ds.take n) (xs.take n)
 | _,_,0,_=>by rw [List.take_zero,List.take_zero];exact Reps.nil
 | [],xs,n + 1,r=>by simp only [Reps] at r;rw [r];exact Reps.nil
 | d :: ds,xs,n + 1,r=>by
  simp only [Reps] at r
  obtain ⟨y,ys,e,r1,r2⟩:=r
  rw [e,List.take_succ_cons,List.take_succ_cons]
  exact .cons r1 (r2.take n)
theorem Reps.drop:∀ {ds:List D} {xs:List V} (n:Nat),Reps K G ds xs→Reps K G (ds.drop n) (xs.drop n)
 | _,_,0,r=>r
 | [],xs,n + 1,r=>by simp only [Reps] at r;rw [r];exact Reps.nil
 | d :: ds,xs,n + 1,r=>by
  simp only [Reps] at r
  obtain ⟨y,ys,e,r1,r2⟩:=r
  rw [e,List.drop_succ_cons,List.drop_succ_cons]
  exact r2.drop n
theorem Reps.set:∀ {ds:List D} {xs:List V} (n:Nat) {d:D} {v:V},Reps K G ds xs→Rep K G d v→Reps K G (ds.set n d) (xs.set n v)
 | [],xs,n,d,v,r,q=>by simp only [Reps] at r;rw [r];exact Reps.nil
 | d' :: ds,xs,0,d,v,r,q=>by
  simp only [Reps] at r
  obtain ⟨y,ys,e,r1,r2⟩:=r
  rw [e]
  exact .cons q r2
 | d' :: ds,xs,n + 1,d,v,r,q=>by
  simp only [Reps] at r
  obtain ⟨y,ys,e,r1,r2⟩:=r
  rw [e]
  exact .cons r1 (r2.set n q)
theorem Step.cut {fq:List Addr} (h:∀ q∈fq,q∈fp):Step G H fp G H fq:=⟨.refl _,fun _ _ e _=>e,fun q hq=>.inl (h q hq),fun _ _ e=>.inl e,fun _ u e=>⟨u,e⟩⟩
theorem Rel.drop {r:R} {y:Option V} (q:Rel K G H (some r :: es) (y :: vs) fp):∃ b,Rel K G H es vs b∧Step G H fp G H b:=by
 obtain ⟨y,ys,e,v',a,b,e1,e2,r1,r2⟩:=q.rep
 cases e
 cases e1
 subst e2
 have nd:=List.nodup_append.mp q.nd
 exact ⟨b,⟨r2,nd.2.1,fun p hp=>q.gn p (List.mem_append_right _ hp),q.gh⟩,Step.cut fun p hp=>List.mem_append_right _ hp⟩
theorem Rel.top {r:R} {v:V} (q:Rel K G H (some r :: es) (some v :: vs) fp):Rep K H r.2 v:=by
 obtain ⟨y,ys,e,v',a,b,e1,e2,r1,r2⟩:=q.rep
 cases e
 cases e1
 exact r1.frozen q.gh fun p hp u e=>e
theorem Rel.out {i:Nat} {r:R} (q:Rel K G H es vs fp) (e:es[i]?=some (some r)):∃ v fq,vs[i]?=some (some v)∧Rel K G H (some r :: es.set i none) (some v :: vs) fq∧Step G H fp G H fq∧Step G H fq G H fp:=by
 obtain ⟨v,a,b,e1,r1,r2,pm⟩:=q.rep.take e
 exact ⟨v,a++b,e1,Rel.perm ⟨some v,vs,rfl,v,a,b,rfl,rfl,r1,r2⟩ q.nd q.gn q.gh pm,Step.cut fun p hp=>pm.mem_iff.mpr hp,Step.cut fun p hp=>pm.mem_iff.mp hp⟩
theorem Rel.view {i:Nat} {r:R} (q:Rel K G H es vs fp) (e:es[i]?=some (some r)):∃ v,vs[i]?=some (some v)∧Rep K H r.2 v:=by
 obtain ⟨v,fq,e1,r1,_⟩:=q.out e
 exact ⟨v,e1,r1.top⟩
theorem jA {α:Type} {l:List α} {i:Nat} {x:α} (h:l[i]?=some x):l.set i x=l:=by
 apply List.ext_getElem?
 intro j
 by_cases e:i=j
 ·subst e
  rw [List.getElem?_set_self (List.getElem?_eq_some_iff.mp h).1,h]
 ·rw [List.getElem?_set_ne e]
theorem Rel.store {i:Nat} {r:R} {v:V} (q:Rel K G H (some r :: es) (some v :: vs) fp) (hi:i < es.length):∃ fq,Rel K G H (es.set i (some r)) (vs.set i (some v)) fq∧Step G H fp G H fq:=by
 obtain ⟨y,ys,e,v',a,b,e1,e2,r1,r2⟩:=q.rep
 cases e
 cases e1
 subst e2
 obtain ⟨c,hc⟩:∃ c,es[i]?=some c:=⟨_,List.getElem?_eq_getElem hi⟩
 have nd:=List.nodup_append.mp q.nd
 have key:∃ b',RepE K G H (es.set i none) vs b'∧(∀ p∈b',p∈b)∧b'.Nodup:=by
  cases c with
  | none=>exact ⟨b,by rw [jA hc];exact r2,fun _ h=>h,nd.2.1⟩
  | some r'=>
   obtain ⟨v2,a2,b2,_,_,g,pm⟩:=r2.take hc
   refine ⟨b2,g,fun p hp=>pm.mem_iff.mpr (List.mem_append_right _ hp),?_⟩
   exact (List.nodup_append.mp (pm.nodup_iff.mp nd.2.1)).2.1
 obtain ⟨b',g,sub,ndb⟩:=key
 obtain ⟨fq,g2,pm⟩:=g.put (i:=i) (r:=r) (v:=v) (by rw [List.getElem?_set_self hi]) r1
 rw [List.set_set] at g2
 have hnd:(a++b').Nodup:=by
  rw [List.nodup_append]
  exact ⟨nd.1,ndb,fun p hp z hz=>nd.2.2 p hp z (sub z hz)⟩
 refine ⟨fq,Rel.perm g2 hnd (fun p hp=>?_) q.gh pm.symm,Step.cut fun p hp=>?_⟩
 ·refine q.gn p ?_
  rcases List.mem_append.mp hp with hp | hp
  ·exact List.mem_append_left _ hp
  ·exact List.mem_append_right _ (sub p hp)
 ·rcases List.mem_append.mp (pm.mem_iff.mp hp) with hp | hp
  ·exact List.mem_append_left _ hp
  ·exact List.mem_append_right _ (sub p hp)
theorem Rel.back {i:Nat} {r:R} {v:V} (q:Rel K G H (some r :: es) (some v :: vs) fp) (hi:i < es.length) (hv:vs[i]?=some (some v)):∃ fq,Rel K G H (es.set i (some r)) vs fq∧Step G H fp G H fq:=by
 obtain ⟨fq,g,st⟩:=q.store hi
 rw [jA hv] at g
 exact ⟨fq,g,st⟩
theorem Rel.freezeAt {i:Nat} {r:R} (q:Rel K G H es vs fp) (e:es[i]?=some (some r)):∃ v G' fq,vs[i]?=some (some v)∧Rep K G' r.2 v∧Rel K G' H (es.set i (some (.f,r.2))) vs fq∧Step G H fp G' H fq:=by
 obtain ⟨v,fq,ev,g,st,_⟩:=q.out e
 obtain ⟨G',b,rv,g2,st2⟩:=g.freeze
 have g3:Rel K G' H (some (.f,r.2) :: es.set i none) (some v :: vs) b:=by
  refine ⟨⟨some v,vs,rfl,v,[],b,rfl,rfl,?_,g2.rep⟩,g2.nd,g2.gn,g2.gh⟩
  exact gF.mpr ⟨rv,rfl⟩
 obtain ⟨fz,g4,st4⟩:=g3.back (i:=i) (by rw [List.length_set];exact (List.getElem?_eq_some_iff.mp e).1) ev
 rw [List.set_set] at g4
 exact ⟨v,G',fz,ev,rv,g4,st.trans (st2.trans st4)⟩
theorem Rel.push {d:D} {v:V} (q:Rel K G H es vs fp) (r:Rep K G d v):Rel K G H (some (.f,d) :: es) (some v :: vs) fp:=by
 refine ⟨⟨some v,vs,rfl,v,[],fp,rfl,rfl,?_,q.rep⟩,q.nd,q.gn,q.gh⟩
 exact gF.mpr ⟨r,rfl⟩
theorem Rel.newF {p:Addr} {u:HO} (q:Rel K G H es vs fp) (hp:H p=none):Rel K (upd G p u) (upd H p u) es vs fp∧Step G H fp (upd G p u) (upd H p u) fp:=by
 have gp:G p=none:=by
  cases e:G p with
  | none=>rfl
  | some o=>rw [q.gh p o e] at hp;cases hp
 have np:p∉fp:=fun z=>by
  obtain ⟨u,e⟩:=q.rep.live p z
  rw [hp] at e;cases e
 have sg:Same G (upd G p u):=fun b o e=>by rw [aA (aM e gp)];exact e
 have sh:Same H (upd H p u):=fun b o e=>by rw [aA (aM e hp)];exact e
 refine ⟨⟨q.rep.step sg fun z hz=>aA fun e=>np (e▸hz),q.nd,fun z hz=>?_,fun b o e=>?_⟩,⟨sg,fun b o e _=>sh b o e,fun _ h=>.inl h,fun b o e=>?_,fun b o e=>⟨o,sh b o e⟩⟩⟩
 ·have:z≠p:=fun e=>np (e▸hz)
  rw [aA this]
  exact q.gn z hz
 ·by_cases hb:b=p
  ·subst hb
   rw [aY] at e ⊢
   exact e
  ·rw [aA hb] at e ⊢
   exact q.gh b o e
 ·by_cases hb:b=p
  ·subst hb
   exact .inr (.inr (.inl hp))
  ·rw [aA hb] at e
   exact .inl e
theorem Rel.newL {p:Addr} {ds:List D} {xs:List V} (q:Rel K G H es vs fp) (hp:H p=none) (r:Reps K G ds xs) :
  Rel K G (upd H p (.lst xs)) (some (.l .f,.lst ds) :: es) (some (.ref p) :: vs) (p :: fp)∧Step G H fp G (upd H p (.lst xs)) (p :: fp):=by
 have gp:G p=none:=by
  cases e:G p with
  | none=>rfl
  | some o=>rw [q.gh p o e] at hp;cases hp
 have np:p∉fp:=fun z=>by
  obtain ⟨u,e⟩:=q.rep.live p z
  rw [hp] at e;cases e
 have sh:Same H (upd H p (.lst xs)):=fun b o e=>by rw [aA (aM e hp)];exact e
 refine ⟨⟨⟨some (.ref p),vs,rfl,.ref p,[p],fp,rfl,rfl,jz.mpr ⟨p,xs,rfl,aY,rfl,r⟩,q.rep.step (.refl _) fun z hz=>aA fun e=>np (e▸hz)⟩,List.nodup_cons.mpr ⟨np,q.nd⟩,fun z hz=>?_,fun b o e=>?_⟩,
  ⟨.refl _,fun b o e _=>sh b o e,fun b hb=>?_,fun b o e=>.inl e,fun b o e=>⟨o,sh b o e⟩⟩⟩
 ·rcases List.mem_cons.mp hz with rfl | hz
  ·exact gp
  ·exact q.gn z hz
 ·exact sh b o (q.gh b o e)
 ·rcases List.mem_cons.mp hb with rfl | hb
  ·exact .inr hp
  ·exact .inl hb
theorem Rel.chg {i:Nat} {ds ds':List D} (q:Rel K G H es vs fp) (e:es[i]?=some (some (.l .f,.lst ds))):∃ p xs,vs[i]?=some (some (.ref p))∧H p=some (.lst xs)∧Reps K G ds xs∧
  ∀ xs',Reps K G ds' xs'→∃ fq,Rel K G (upd H p (.lst xs')) (es.set i (some (.l .f,.lst ds'))) vs fq∧Step G H fp G (upd H p (.lst xs')) fq:=by
 obtain ⟨v,fq,ev,g,st,st'⟩:=q.out e
 obtain ⟨y,ys,e0,v',a,b,e1,e2,r1,r2⟩:=g.rep
 cases e0
 cases e1
 obtain ⟨p,xs,e3,hp,e4,rs⟩:=jz.mp r1
 subst e3
 subst e4
 subst e2
 have nd:=List.nodup_cons.mp (show (p :: b).Nodup from g.nd)
 refine ⟨p,xs,ev,hp,rs,fun xs' rs'=>?_⟩
 have g2:Rel K G (upd H p (.lst xs')) (some (.l .f,.lst ds') :: es.set i none) (some (.ref p) :: vs) (p :: b):=by
  refine ⟨⟨some (.ref p),vs,rfl,.ref p,[p],b,rfl,rfl,jz.mpr ⟨p,xs',rfl,aY,rfl,rs'⟩,r2.step (.refl _) fun z hz=>aA fun e=>nd.1 (e▸hz)⟩,g.nd,g.gn,fun z o ez=>?_⟩
  have:z≠p:=fun w=>by
   subst w
   rw [g.gn z List.mem_cons_self] at ez;cases ez
  rw [aA this]
  exact g.gh z o ez
 have stc:Step G H (p :: b) G (upd H p (.lst xs')) (p :: b):=by
  refine ⟨.refl _,fun z o ez nz=>?_,fun z hz=>.inl hz,fun z o ez=>.inl ez,fun z o ez=>?_⟩
  ·have:z≠p:=fun w=>nz (by rw [w];exact List.mem_cons_self)
   rw [aA this]
   exact ez
  ·by_cases w:z=p
   ·subst w
    exact ⟨_,aY⟩
   ·exact ⟨o,by rw [aA w];exact ez⟩
 obtain ⟨fz,g3,st3⟩:=g2.back (i:=i) (by rw [List.length_set];exact (List.getElem?_eq_some_iff.mp e).1) ev
 rw [List.set_set] at g3
 exact ⟨fz,g3,st.trans (stc.trans st3)⟩
end
mutual
noncomputable def b9:D→Bool
 | .tup ds=>flatDs ds
 | .lst _=>false
 | .dct _ _ _=>false
 | _=>true
noncomputable def flatDs:List D→Bool
 | []=>true
 | d :: ds=>b9 d && flatDs ds
end
mutual
noncomputable def bA:O→D→Bool
 | .f,d=>b9 d
 | .l c,.lst ds=>ds.all (bA c)
 | .t cs,.tup ds=>ku cs ds
 | .d,.dct _ _ vs=>flatDs vs
 | .pin _ c,d=>bA c d
 | _,_=>false
noncomputable def ku:List O→List D→Bool
 | [],[]=>true
 | c :: cs,d :: ds=>bA c d && ku cs ds
 | _,_=>false
end
noncomputable def frz:Option R→Option R:=Option.map fun r=>(.f,r.2)
theorem bH:∀ ds,flatDs ds=ds.all b9
 | []=>rfl
 | d :: ds=>by rw [flatDs,List.all_cons,bH ds]
section
variable {K:W.Frag} {G G' G2 G3 H H' H2:Hp} {es:Env} {vs:List (Option V)} {fp:List Addr}
mutual
theorem Rep.flat (h:∀ p u,isT u=true→G2 p=some u→G3 p=some u):∀ {d:D} {v:V},b9 d=true→Rep K G2 d v→Rep K G3 d v
 | .non,_,_,r=>by simpa only [Rep] using r
 | .bl _,_,_,r=>by simpa only [Rep] using r
 | .int _,_,_,r=>by simpa only [Rep] using r
 | .str _,_,_,r=>by simpa only [Rep] using r
 | .tup ds,_,e,r=>by
  simp only [Rep] at r ⊢
  simp only [b9] at e
  obtain ⟨p,xs,ev,q,rs⟩:=r
  exact ⟨p,xs,ev,h _ _ rfl q,Reps.flat h e rs⟩
 | .lst ds,_,e,r=>by simp only [b9] at e;cases e
 | .dct _ _ _,_,e,r=>by simp only [b9] at e;cases e
theorem Reps.flat (h:∀ p u,isT u=true→G2 p=some u→G3 p=some u):∀ {ds:List D} {xs:List V},flatDs ds=true→Reps K G2 ds xs→Reps K G3 ds xs
 | [],_,_,r=>by simpa only [Reps] using r
 | d :: ds,_,e,r=>by
  simp only [Reps] at r ⊢
  simp only [flatDs,Bool.and_eq_true] at e
  obtain ⟨y,ys,ev,r1,r2⟩:=r
  exact ⟨y,ys,ev,Rep.flat h e.1 r1,Reps.flat h e.2 r2⟩
end
theorem AllO.clean {P P':D→V→List Addr→Prop} {c:D→Bool}:∀ {ds:List D} {xs:List V} {fp:List Addr},(∀ d v a,c d=true→P d v a→P' d v a)→ds.all c=true→AllO P ds xs fp→AllO P' ds xs fp
 | [],_,_,_,_,r=>r
 | d :: ds,xs,fp,h,e,r=>by
  obtain ⟨y,ys,a,b,e1,e2,p,q⟩:=r
  rw [List.all_cons,Bool.and_eq_true] at e
  exact ⟨y,ys,a,b,e1,e2,h _ _ _ e.1 p,AllO.clean h e.2 q⟩
mutual
theorem RepO.clean (h:∀ p u,isT u=true→G2 p=some u→G3 p=some u):∀ {o:O} {d:D} {v:V} {fp:List Addr},bA o d=true→RepO K G2 H o d v fp→RepO K G3 H o d v fp
 | .f,d,v,fp,e,r=>by
  simp only [RepO] at r ⊢
  simp only [bA] at e
  exact ⟨r.1.flat h e,r.2⟩
 | .pin p c,d,v,fp,e,r=>by
  simp only [RepO] at r ⊢
  simp only [bA] at e
  exact ⟨r.1,RepO.clean h e r.2⟩
 | .l c,.lst ds,v,fp,e,r=>by
  rw [RepO] at r ⊢
  rw [bA] at e
  obtain ⟨p,xs,fp',ev,q,e2,a⟩:=r
  exact ⟨p,xs,fp',ev,q,e2,AllO.clean (fun d v a=>RepO.clean h) e a⟩
 | .t cs,.tup ds,v,fp,e,r=>by
  rw [RepO] at r ⊢
  rw [bA] at e
  obtain ⟨p,xs,ev,q,a⟩:=r
  exact ⟨p,xs,ev,h _ _ rfl q,RepT.clean h e a⟩
 | .d,.dct tk ks vs,v,fp,e,r=>by
  rw [RepO] at r ⊢
  rw [bA] at e
  obtain ⟨p,xs,o,ev,q,dd,e2,rs⟩:=r
  exact ⟨p,xs,o,ev,q,dd,e2,rs.flat h e⟩
 | .l _,.non,_,_,_,r | .l _,.bl _,_,_,_,r | .l _,.int _,_,_,_,r | .l _,.str _,_,_,_,r | .l _,.tup _,_,_,_,r | .l _,.dct _ _ _,_,_,_,r=>by simp only [RepO] at r
 | .t _,.non,_,_,_,r | .t _,.bl _,_,_,_,r | .t _,.int _,_,_,_,r | .t _,.str _,_,_,_,r | .t _,.lst _,_,_,_,r | .t _,.dct _ _ _,_,_,_,r=>by simp only [RepO] at r
 | .d,.non,_,_,_,r | .d,.bl _,_,_,_,r | .d,.int _,_,_,_,r | .d,.str _,_,_,_,r | .d,.tup _,_,_,_,r | .d,.lst _,_,_,_,r=>by simp only [RepO] at r
theorem RepT.clean (h:∀ p u,isT u=true→G2 p=some u→G3 p=some u):∀ {cs:List O} {ds:List D} {xs:List V} {fp:List Addr},ku cs ds=true→RepT K G2 H cs ds xs fp→RepT K G3 H cs ds xs fp
 | [],[],_,_,_,r=>by simpa only [RepT] using r
 | c :: cs,d :: ds,xs,fp,e,r=>by
  rw [RepT] at r ⊢
  rw [ku,Bool.and_eq_true] at e
  obtain ⟨y,ys,a,b,e1,e2,r1,r2⟩:=r
  exact ⟨y,ys,a,b,e1,e2,RepO.clean h e.1 r1,RepT.clean h e.2 r2⟩
 | [],_ :: _,_,_,_,r=>by simp only [RepT] at r
 | _ :: _,[],_,_,_,r=>by simp only [RepT] at r
end
theorem RepE.frz (h:Same G G'):∀ {es:Env} {vs:List (Option V)} {fp:List Addr},(∀ p∈fp,∀ u,H p=some u→G' p=some u)→RepE K G H es vs fp→RepE K G' H' (es.map PV.frz) vs []
 | [],_,_,_,r=>⟨r.1,rfl⟩
 | none :: es,vs,fp,hk,r=>by
  obtain ⟨y,ys,e,r⟩:=r
  exact ⟨y,ys,e,RepE.frz h hk r⟩
 | some r :: es,vs,fp,hk,q=>by
  obtain ⟨y,ys,e,v,a,b,e1,e2,r1,r2⟩:=q
  subst e2
  exact ⟨y,ys,e,v,[],[],e1,rfl,gF.mpr ⟨r1.frozen h (fun p hp=>hk p (List.mem_append_left _ hp)),rfl⟩,RepE.frz h (fun p hp=>hk p (List.mem_append_right _ hp)) r2⟩
theorem RepE.rep (h:Same G G'):∀ {es:Env} {vs:List (Option V)} {fp:List Addr} {i:Nat} {r:R} {v:V},(∀ p∈fp,∀ u,H p=some u→G' p=some u)→RepE K G H es vs fp→es[i]?=some (some r)→vs[i]?=some (some v)→Rep K G' r.2 v:=fun {es vs fp i r v} hk q e ev=>by
 obtain ⟨v',a,b,e1,r1,_,pm⟩:=q.take e
 rw [ev] at e1
 cases e1
 exact r1.frozen h fun p hp=>hk p (pm.mem_iff.mpr (List.mem_append_left _ hp))
theorem Rel.lend (q:Rel K G H es vs fp):∃ G1,Same G G1∧Same G1 H∧(∀ (i:Nat) (r:R) (v:V),es[i]?=some (some r)→vs[i]?=some (some v)→Rep K G1 r.2 v)∧
  RepE K G1 H (es.map PV.frz) vs []∧
  ∀ (H2 G2:Hp) (fp2:List Addr) (r:R) (v:V),Step G1 H [] G2 H2 fp2→Rel K G2 H2 [some r] [some v] fp2→
   (bA r.1 r.2=true→∃ G3 fp3,Step G H fp G3 H2 fp3∧Rel K G3 H2 (some r :: es) (some v :: vs) fp3)∧
   ∃ G3 fp3,Step G H fp G3 H2 fp3∧Rel K G3 H2 (some r :: es.map PV.frz) (some v :: vs) fp3:=by
 have hg:Same G (fun p=>if p∈fp then H p else G p):=fun p u e=>by
  show (if p∈fp then H p else G p)=some u
  by_cases hp:p∈fp
  ·rw [if_pos hp]
   exact q.gh p u e
  ·rw [if_neg hp]
   exact e
 have hh:Same (fun p=>if p∈fp then H p else G p) H:=fun p u e=>by
  have e:(if p∈fp then H p else G p)=some u:=e
  by_cases hp:p∈fp
  ·rw [if_pos hp] at e
   exact e
  ·rw [if_neg hp] at e
   exact q.gh p u e
 have hk:∀ p∈fp,∀ u,H p=some u→(fun p=>if p∈fp then H p else G p) p=some u:=fun p hp u e=>by
  show (if p∈fp then H p else G p)=some u
  rw [if_pos hp]
  exact e
 refine ⟨fun p=>if p∈fp then H p else G p,hg,hh,fun i r v e ev=>q.rep.rep hg hk e ev,q.rep.frz hg hk,fun H2 G2 fp2 r v st k=>?_⟩
 obtain ⟨y,ys,e0,v',a,b,e1,e2,r1,r2⟩:=k.rep
 cases e0
 cases e1
 obtain ⟨_,e3⟩:=r2
 subst e3
 rw [List.append_nil] at e2
 subst e2
 have fresh:∀ p∈fp2,H p=none:=fun p hp=>by
  rcases st.fpn p hp with z | z
  ·cases z
  ·exact z
 have kept:∀ p∈fp,H2 p=H p:=fun p hp=>by
  obtain ⟨u,hu⟩:=q.rep.live p hp
  rw [hu]
  exact st.keep p u hu (by simp)
 refine ⟨fun cl=>?_,⟨G2,fp2,⟨hg.trans st.gg,fun p u e n=>st.keep p u e (by simp),fun p hp=>.inr (fresh p hp),fun p u e=>?_,st.there⟩,?_⟩⟩
 ·have apart:∀ p∈fp2,p∉fp:=fun p hp hf=>by
   obtain ⟨u,hu⟩:=q.rep.live p hf
   rw [fresh p hp] at hu;cases hu
  have g3:Same G (fun p=>if p∈fp then none else G2 p):=fun p u e=>by
   show (if p∈fp then none else G2 p)=some u
   rw [if_neg (fun z=>by rw [q.gn p z] at e;cases e)]
   exact st.gg p u (hg p u e)
  refine ⟨fun p=>if p∈fp then none else G2 p,fp2++fp,⟨g3,fun p u e n=>st.keep p u e (by simp),fun p hp=>?_,fun p u e=>?_,st.there⟩,⟨⟨some v,vs,rfl,v,fp2,fp,rfl,rfl,r1.clean (fun p u t e=>?_) cl,q.rep.step g3 kept⟩,?_,fun p hp=>?_,fun p u e=>?_⟩⟩
  ·rcases List.mem_append.mp hp with hp | hp
   ·exact .inr (fresh p hp)
   ·exact .inl hp
  ·have e:(if p∈fp then none else G2 p)=some u:=e
   by_cases hp:p∈fp
   ·rw [if_pos hp] at e;cases e
   ·rw [if_neg hp] at e
    rcases st.gnew p u e with z | z | z
    ·have z:(if p∈fp then H p else G p)=some u:=z
     rw [if_neg hp] at z
     exact .inl z
    ·cases z
    ·exact .inr (.inr z)
  ·show (if p∈fp then none else G2 p)=some u
   by_cases hp:p∈fp
   ·exfalso
    obtain ⟨u',hu,hm⟩:=q.rep.mut p hp
    have:=st.gg p u' (hk p hp u' hu)
    rw [e] at this
    cases this
    cases u with
    | lst _=>cases t
    | dK _=>cases t
    | dT _=>cases t
    | _=>cases hm
   ·rw [if_neg hp]
    exact e
  ·rw [List.nodup_append]
   exact ⟨k.nd,q.nd,fun p hp z hz e=>apart p hp (e▸hz)⟩
  ·show (if p∈fp then none else G2 p)=none
   by_cases hf:p∈fp
   ·rw [if_pos hf]
   ·rw [if_neg hf]
    rcases List.mem_append.mp hp with hp | hp
    ·exact k.gn p hp
    ·exact absurd hp hf
  ·have e:(if p∈fp then none else G2 p)=some u:=e
   by_cases hp:p∈fp
   ·rw [if_pos hp] at e;cases e
   ·rw [if_neg hp] at e
    exact k.gh p u e
 ·rcases st.gnew p u e with z | z | z
  ·have z:(if p∈fp then H p else G p)=some u:=z
   by_cases hp:p∈fp
   ·exact .inr (.inl hp)
   ·rw [if_neg hp] at z
    exact .inl z
  ·cases z
  ·exact .inr (.inr z)
 ·refine ⟨⟨some v,vs,rfl,v,fp2,[],rfl,(List.append_nil _).symm,r1,q.rep.frz (hg.trans st.gg) fun p hp u e=>st.gg p u (hk p hp u e)⟩,k.nd,k.gn,k.gh⟩
end
end PV
namespace PV
open PySem PySem.Spec PyProof.Rows L2 NX
noncomputable def Res.bind {α β:Type}:Res α→(α→Res β)→Res β
 | .ok a,f=>f a
 | .exc c,_=>.exc c
 | .bad,_=>.bad
inductive BindOk {α β:Type} (x:Res α) (f:α→Res β) (b:β):Prop
 | mk (a:α) (h:x=.ok a) (k:f a=.ok b):BindOk x f b
theorem af {α β:Type} {x:Res α} {f:α→Res β} {b:β} (h:x.bind f=.ok b):BindOk x f b:=by
 cases x with
 | ok a=>exact ⟨a,rfl,h⟩
 | exc c=>cases h
 | bad=>cases h
inductive Opd where
 | val (d:D) | var (i:Nat)
noncomputable def OpdOk (K:W.Frag) (G:Hp) (σ:L2.St):Opd→V→Prop
 | .val d,v=>Rep K G d v
 | .var i,v=>σ[i]?=some (some v)
theorem OpdOk.mono {K:W.Frag} {G G':Hp} {σ:L2.St} {o:Opd} {v:V} (h:Same G G') (r:OpdOk K G σ o v):OpdOk K G' σ o v:=by
 cases o with
 | val d=>exact Rep.mono h r
 | var i=>exact r
noncomputable def kx (K:W.Frag) (G:Hp) (σ:L2.St):List Opd→List V→Prop
 | [],vs=>vs=[]
 | o :: os,vs=>∃ y ys,vs=y :: ys∧OpdOk K G σ o y∧kx K G σ os ys
noncomputable def pV:O→Bool
 | .f=>true
 | .l .f=>true
 | .d=>true
 | .pin _ .f=>true
 | .pin _ (.l .f)=>true
 | .pin _ .d=>true
 | _=>false
noncomputable def der (env:PV.Env):Opd→Res D
 | .val d=>.ok d
 | .var i=>match env[i]? with
  | some (some r)=>if pV r.1 then .ok r.2 else .bad
  | _=>.bad
noncomputable def ni (env:PV.Env):Opd→Res D
 | .val d=>.ok d
 | .var i=>match env[i]? with
  | some (some r)=>.ok r.2
  | _=>.bad
noncomputable def lg (env:PV.Env):List Opd→Res (List D)
 | []=>.ok []
 | o :: os=>(der env o).bind fun d=>(lg env os).bind fun ds=>.ok (d :: ds)
noncomputable def ik (env:PV.Env):List Opd→Res (List D)
 | []=>.ok []
 | o :: os=>(ni env o).bind fun d=>(ik env os).bind fun ds=>.ok (d :: ds)
noncomputable def Vw (K:W.Frag) (G H:Hp):D→V→Prop
 | .lst ds,v=>∃ p xs,v=.ref p∧SqL K H p xs∧Reps K G ds xs
 | .dct tk ks vs,v=>∃ p xs o,v=.ref p∧Rd H p o∧DictO o tk ks xs∧Reps K G vs xs
 | d,v=>Rep K G d v
noncomputable def Vws (K:W.Frag) (G H:Hp):List D→List V→Prop
 | [],vs=>vs=[]
 | d :: ds,vs=>∃ y ys,vs=y :: ys∧Vw K G H d y∧Vws K G H ds ys
section
variable {K:W.Frag} {G G' H H':Hp} {es:PV.Env} {σ:L2.St} {fp:List Addr}
theorem Vw.of {d:D} {v:V} (gh:Same G H) (r:Rep K G d v):Vw K G H d v:=by
 cases d with
 | lst ds=>
  rw [Rep] at r
  obtain ⟨p,xs,e,q,rs⟩:=r
  exact ⟨p,xs,e,eR gh q,rs⟩
 | dct tk ks vs=>
  rw [Rep] at r
  obtain ⟨p,xs,o,e,q,dd,rs⟩:=r
  exact ⟨p,xs,o,e,PV.Rd.mono gh q,dd,rs⟩
 | _=>exact r
theorem Vw.rep {d:D} {v:V} (gh:Same G H) (r:Vw K G H d v):Rep K H d v:=by
 cases d with
 | lst ds=>
  obtain ⟨p,xs,e,q,rs⟩:=r
  rw [Rep]
  exact ⟨p,xs,e,q,rs.mono gh⟩
 | dct tk ks vs=>
  obtain ⟨p,xs,o,e,q,dd,rs⟩:=r
  rw [Rep]
  exact ⟨p,xs,o,e,q,dd,rs.mono gh⟩
 | non=>exact Rep.mono gh r
 | bl b=>exact Rep.mono gh r
 | int i=>exact Rep.mono gh r
 | str l=>exact Rep.mono gh r
 | tup ds=>exact Rep.mono gh r
theorem RepO.vw0 {o:O} {d:D} {v:V} {a:List Addr} (gh:Same G H) (hs:o=.f∨o=.l .f∨o=.d) (r:RepO K G H o d v a):Vw K G H d v:=by
 rcases hs with rfl | rfl | rfl
 ·exact Vw.of gh (gF.mp r).1
 ·cases d with
  | lst ds=>
   obtain ⟨p,xs,e,q,_,rs⟩:=jz.mp r
   exact ⟨p,xs,e,SqL.of q,rs⟩
  | _=>simp only [RepO] at r
 ·cases d with
  | dct tk ks vs=>
   rw [RepO] at r
   obtain ⟨p,xs,o,e,q,dd,_,rs⟩:=r
   exact ⟨p,xs,o,e,.inl q,dd,rs⟩
  | _=>simp only [RepO] at r
theorem RepO.vw {o:O} {d:D} {v:V} {a:List Addr} (gh:Same G H) (hs:pV o=true) (r:RepO K G H o d v a):Vw K G H d v:=by
 unfold pV at hs
 split at hs
 ·exact r.vw0 gh (.inl rfl)
 ·exact r.vw0 gh (.inr (.inl rfl))
 ·exact r.vw0 gh (.inr (.inr rfl))
 ·rw [RepO] at r;exact r.2.vw0 gh (.inl rfl)
 ·rw [RepO] at r;exact r.2.vw0 gh (.inr (.inl rfl))
 ·rw [RepO] at r;exact r.2.vw0 gh (.inr (.inr rfl))
 ·cases hs
theorem Rel.vw {o:Opd} {v:V} {d:D} (q:Rel K G H es σ fp) (k:OpdOk K G σ o v) (e:der es o=.ok d):Vw K G H d v:=by
 cases o with
 | val d'=>
  cases e
  exact Vw.of q.gh k
 | var i=>
  unfold der at e
  dsimp only at e
  split at e
  ·rename_i r hr
   split at e
   ·rename_i hs
    cases e
    obtain ⟨v',a,b,ev,r1,_⟩:=q.rep.take hr
    have k:σ[i]?=some (some v):=k
    rw [k] at ev
    cases ev
    exact r1.vw q.gh hs
   ·cases e
  ·cases e
theorem Rel.vwA {o:Opd} {v:V} {d:D} (q:Rel K G H es σ fp) (k:OpdOk K G σ o v) (e:ni es o=.ok d):Rep K H d v:=by
 cases o with
 | val d'=>
  cases e
  exact Rep.mono q.gh k
 | var i=>
  unfold ni at e
  dsimp only at e
  split at e
  ·rename_i r hr
   cases e
   obtain ⟨v',ev,r1⟩:=q.view hr
   have k:σ[i]?=some (some v):=k
   rw [k] at ev
   cases ev
   exact r1
  ·cases e
theorem Rel.vws (q:Rel K G H es σ fp):∀ {os:List Opd} {vs:List V} {ds:List D},kx K G σ os vs→lg es os=.ok ds→Vws K G H ds vs
 | [],_,_,k,e=>by
  cases e
  exact k
 | o :: os,_,_,⟨y,ys,e0,k1,k2⟩,e=>by
  unfold lg at e
  obtain ⟨d,e1,e⟩:=af e
  obtain ⟨ds,e2,e⟩:=af e
  cases e
  exact ⟨y,ys,e0,q.vw k1 e1,Rel.vws q k2 e2⟩
theorem il {G1:Hp} (gg:Same G G1) (ht:∀ (i:Nat) (r:R) (v:V),es[i]?=some (some r)→σ[i]?=some (some v)→Rep K G1 r.2 v):∀ {os:List Opd} {vs:List V} {ds:List D},kx K G σ os vs→ik es os=.ok ds→Reps K G1 ds vs
 | [],_,_,k,e=>by
  cases e
  have k:_=_:=k
  rw [k]
  exact Reps.nil
 | o :: os,_,_,⟨y,ys,e0,k1,k2⟩,e=>by
  unfold ik at e
  obtain ⟨d,e1,e⟩:=af e
  obtain ⟨ds,e2,e⟩:=af e
  cases e
  rw [e0]
  refine .cons ?_ (il gg ht k2 e2)
  cases o with
  | val d'=>
   cases e1
   exact Rep.mono gg k1
  | var i=>
   unfold ni at e1
   dsimp only at e1
   split at e1
   ·rename_i r hr
    cases e1
    exact ht i r y hr k1
   ·cases e1
end
abbrev FX:=PV.Env→Res (R×PV.Env)
abbrev FO:=PV.Env→Res (Opd×PV.Env)
abbrev FOs:=PV.Env→Res (List Opd×PV.Env)
abbrev FT:=PV.Env→Res (Bool×PV.Env)
inductive Out where
 | nx (env:PV.Env) | rt (r:R) | bk (env:PV.Env) | ct (env:PV.Env)
abbrev FS:=PV.Env→Res Out
inductive tQ (K:W.Frag) (f:FX) (σ:L2.St) (H:Hp) (Q:VK):Prop
 | mk:∀ G env fp r env',Rel K G H env σ fp→f env=.ok (r,env')→(∀ v H' G' fp',Step G H fp G' H' fp'→Rel K G' H' (some r :: env') (some v :: σ) fp'→Q v H')→tQ K f σ H Q
inductive tO (K:W.Frag) (f:FO) (σ:L2.St) (H:Hp) (Q:VK):Prop
 | mk:∀ G env fp o env',Rel K G H env σ fp→f env=.ok (o,env')→(∀ v H' G' fp',Step G H fp G' H' fp'→Rel K G' H' env' σ fp'→OpdOk K G' σ o v→Q v H')→tO K f σ H Q
inductive tOs (K:W.Frag) (f:FOs) (σ:L2.St) (H:Hp) (Q:List V→Hp→Prop):Prop
 | mk:∀ G env fp o env',Rel K G H env σ fp→f env=.ok (o,env')→(∀ v H' G' fp',Step G H fp G' H' fp'→Rel K G' H' env' σ fp'→kx K G' σ o v→Q v H')→tOs K f σ H Q
inductive tQT (K:W.Frag) (f:FT) (σ:L2.St) (H:Hp) (Q:Bool→Hp→Prop):Prop
 | mk:∀ G env fp b env',Rel K G H env σ fp→f env=.ok (b,env')→(∀ H' G' fp',Step G H fp G' H' fp'→Rel K G' H' env' σ fp'→Q b H')→tQT K f σ H Q
inductive Mode where
 | plain | mut
def AG (md:Mode) (K:W.Frag) (G H:Hp) (r:R) (v:V) (fp:List Addr):Prop:=match md with
 | .plain=>Rel K G H [some r] [some v] fp
 | .mut=>∃ o d p c d0,r=(.t [o,.pin p c],.tup [d,d0])∧Rel K G H [some (o,d),some (.pin p c,d0)] [some v,some (.ref p)] fp
noncomputable def OutOk {md:Mode} (K:W.Frag) (G H:Hp) (fp:List Addr) (Dd:Ends):Res Out→Prop
 | .ok (.nx env')=>∀ σ' H' G' fp',Step G H fp G' H' fp'→Rel K G' H' env' σ' fp'→Dd.nx σ' H'
 | .ok (.bk env')=>∀ σ' H' G' fp',Step G H fp G' H' fp'→Rel K G' H' env' σ' fp'→Dd.bk σ' H'
 | .ok (.ct env')=>∀ σ' H' G' fp',Step G H fp G' H' fp'→Rel K G' H' env' σ' fp'→Dd.ct σ' H'
 | .ok (.rt r)=>∀ v H' G' fp',Step G H fp G' H' fp'→AG md K G' H' r v fp'→Dd.rt v H'
 | _=>False
inductive tQS {md:Mode} (K:W.Frag) (g:FS) (Dd:Ends) (σ:L2.St) (H:Hp):Prop
 | mk:∀ G env fp,Rel K G H env σ fp→OutOk (md:=md) K G H fp Dd (g env)→tQS (md:=md) K g Dd σ H
def QE (X:Cx) (e:Expr) (f:FX):Prop:=PE X e (tQ X.K f)
def QO (X:Cx) (e:Expr) (f:FO):Prop:=PE X e (tO X.K f)
def QOs (X:Cx) (es:List Expr) (f:FOs):Prop:=PA X es (tOs X.K f)
def QT (X:Cx) (e:Expr) (f:FT):Prop:=PT X e (tQT X.K f)
def QW (X:Cx) (e:Expr) (f:FT):Prop:=PW X e (tQT X.K f)
def QS {md:Mode} (X:Cx) (st:Stmt) (g:FS):Prop:=PS X st (tQS (md:=md) X.K g)
def QSs {md:Mode} (X:Cx) (st:List Stmt) (g:FS):Prop:=PSs X st (tQS (md:=md) X.K g)
theorem bd {X:Cx} {e:Expr} {t t':TE} (h:PE X e t) (k:∀ σ H Q,t' σ H Q→t σ H Q):PE X e t':=fun pins s σ H Q I w=>h pins s σ H Q I (k σ H Q w)
theorem ky {X:Cx} {e:Expr} {t t':TT} (h:PT X e t) (k:∀ σ H Q,t' σ H Q→t σ H Q):PT X e t':=fun pins s σ H Q I w=>h pins s σ H Q I (k σ H Q w)
theorem rP {X:Cx} {e:Expr} {t t':TT} (h:PW X e t) (k:∀ σ H Q,t' σ H Q→t σ H Q):PW X e t':=fun wh pins s σ H Q I w=>h wh pins s σ H Q I (k σ H Q w)
theorem l8 {X:Cx} {e:List Expr} {t t':TA} (h:PA X e t) (k:∀ σ H Q,t' σ H Q→t σ H Q):PA X e t':=fun pos pins s σ H Q I w=>h pos pins s σ H Q I (k σ H Q w)
theorem dI {X:Cx} {e:Stmt} {t t':TS} (h:PS X e t) (k:∀ D σ H,t' D σ H→t D σ H):PS X e t':=fun pins s σ H D I w=>h pins s σ H D I (k D σ H w)
theorem oK {X:Cx} {e:List Stmt} {t t':TS} (h:PSs X e t) (k:∀ D σ H,t' D σ H→t D σ H):PSs X e t':=fun pins s σ H D I w=>h pins s σ H D I (k D σ H w)
theorem OutOk.imp {md:Mode} {K:W.Frag} {G H G1 H1:Hp} {fp fp1:List Addr} {Dd Dd':Ends} {r:Res Out} (st:Step G H fp G1 H1 fp1) (h:OutOk (md:=md) K G H fp Dd r) (n:∀ σ H,Dd.nx σ H→Dd'.nx σ H) (b:∀ σ H,Dd.bk σ H→Dd'.bk σ H) (c:∀ σ H,Dd.ct σ H→Dd'.ct σ H) (t:∀ v H,Dd.rt v H→Dd'.rt v H):OutOk (md:=md) K G1 H1 fp1 Dd' r:=by
 match r,h with
 | .ok (.nx env'),h=>exact fun σ' H' G' fp' s q=>n _ _ (h σ' H' G' fp' (st.trans s) q)
 | .ok (.bk env'),h=>exact fun σ' H' G' fp' s q=>b _ _ (h σ' H' G' fp' (st.trans s) q)
 | .ok (.ct env'),h=>exact fun σ' H' G' fp' s q=>c _ _ (h σ' H' G' fp' (st.trans s) q)
 | .ok (.rt r),h=>exact fun v H' G' fp' s q=>t _ _ (h v H' G' fp' (st.trans s) q)
theorem OutOk.after {md:Mode} {K:W.Frag} {G H G1 H1:Hp} {fp fp1:List Addr} {Dd:Ends} {r:Res Out} (st:Step G H fp G1 H1 fp1) (h:OutOk (md:=md) K G H fp Dd r):OutOk (md:=md) K G1 H1 fp1 Dd r:=h.imp st (fun _ _ z=>z) (fun _ _ z=>z) (fun _ _ z=>z) fun _ _ z=>z
noncomputable def au (d:D):FX:=fun env=>.ok ((.f,d),env)
noncomputable def fz:O→O
 | .pin p .f=>.pin p .f
 | _=>.f
noncomputable def aI (i:Nat):FX:=fun env=>match env[i]? with
 | some (some r)=>.ok ((.f,r.2),env.set i (some (fz r.1,r.2)))
 | _=>.bad
noncomputable def iV (i:Nat):FX:=fun env=>match env[i]? with
 | some (some r)=>.ok (r,env.set i none)
 | _=>.bad
noncomputable def ai (f:FX):FO:=fun env=>(f env).bind fun p=>.ok (.val p.1.2,p.2)
noncomputable def aj (i:Nat):FO:=fun env=>match env[i]? with
 | some (some _)=>.ok (.var i,env)
 | _=>.bad
noncomputable def aD:FOs:=fun env=>.ok ([],env)
noncomputable def ag (f:FO) (g:FOs):FOs:=fun env=>(f env).bind fun p=>(g p.2).bind fun q=>.ok (p.1 :: q.1,q.2)
section
variable {X:Cx}
theorem kz {e:Expr} {v:V} {d:D} (h:PE X e (tC v)) (r:∀ G,Rep X.K G d v):QE X e (au d):=bd h fun σ H Q hq0=>by
 obtain ⟨G,env,fp,rr,env',rel,e,k⟩:=hq0
 cases e
 exact k v H G fp .refl (rel.push (r G))
theorem ah {i j pos}:QE X (.Constant (.int i) j pos) (au (.int i)):=kz vR fun G=>by rw [Rep]
theorem kA {i j pos}:QE X (.Constant (.bool i) j pos) (au (.bl i)):=kz yx fun G=>by rw [Rep]
theorem dM {j pos}:QE X (.Constant .none j pos) (au .non):=kz vS fun G=>by rw [Rep]
theorem c7 {x j pos} {l:List Nat} (h:x=S l) (hl:l.length≤1000):QE X (.Constant (.str x) j pos) (au (.str l)):=kz vT fun G=>by
 rw [Rep,h]
 exact ⟨rfl,by rw [line_eq];lia⟩
theorem oM {x:Str} {p:Pos} {n:Int} (h:Gi X.mg x n) (hg:Gl X x) (hd:(x == ("__debug__" : Str))=false:=by decide):QE X (.Name x p) (au (.int n)):=kz (yV h hg hd) fun G=>by rw [Rep]
theorem ax {i:Nat} {e:Expr} (h:PE X e (p3 i)):QE X e (aI i):=bd h fun σ H Q hq0=>by
 obtain ⟨G,env,fp,rr,env',rel,e,k⟩:=hq0
 unfold aI at e
 split at e
 ·rename_i r hr
  cases e
  by_cases hf:fz r.1=.f
  ·obtain ⟨v,G',fq,ev,rv,rel',st⟩:=rel.freezeAt hr
   rw [hf] at k
   exact ⟨v,ev,k v H G' fq st (rel'.push rv)⟩
  ·have hp:∃ p,r.1=.pin p .f:=by
    unfold fz at hf
    split at hf
    ·rename_i p hp
     exact ⟨p,hp⟩
    ·exact absurd rfl hf
   obtain ⟨p,hp⟩:=hp
   obtain ⟨v,a,b,ev,r1,_,_⟩:=rel.rep.take hr
   rw [hp,RepO] at r1
   have es:env.set i (some (fz r.1,r.2))=env:=by
    refine jA ?_
    rw [hr,hp]
    show some (some r)=some (some (.pin p .f,r.2))
    rw [←hp]
   rw [es] at k
   exact ⟨v,ev,k v H G fp .refl (rel.push (gF.mp r1.2).1)⟩
 ·cases e
theorem fD {i:Nat} {e:Expr} (h:PE X e (p3 i)):QE X e (iV i):=bd h fun σ H Q hq0=>by
 obtain ⟨G,env,fp,rr,env',rel,e,k⟩:=hq0
 unfold iV at e
 split at e
 ·rename_i r hr
  cases e
  obtain ⟨v,fq,ev,rel',st,_⟩:=rel.out hr
  exact ⟨v,ev,k v H G fq st rel'⟩
 ·cases e
theorem aa {e:Expr} {f:FX} (h:QE X e f):QO X e (ai f):=bd h fun σ H Q hq0=>by
 obtain ⟨G,env,fp,o,env',rel,e,k⟩:=hq0
 obtain ⟨⟨r,env1⟩,e1,e⟩:=af e
 cases e
 refine ⟨G,env,fp,r,env1,rel,e1,fun v H' G' fp' st rel'=>?_⟩
 obtain ⟨G2,b,rv,rel2,st2⟩:=rel'.freeze
 exact k v H' G2 b (st.trans st2) rel2 rv
theorem ac {i:Nat} {e:Expr} (h:PE X e (p3 i)):QO X e (aj i):=bd h fun σ H Q hq0=>by
 obtain ⟨G,env,fp,o,env',rel,e,k⟩:=hq0
 unfold aj at e
 split at e
 ·rename_i r hr
  cases e
  obtain ⟨v,ev,_⟩:=rel.view hr
  exact ⟨v,ev,k v H G fp .refl rel ev⟩
 ·cases e
theorem ak:QOs X [] aD:=l8 lP fun σ H Q hq0=>by
 obtain ⟨G,env,fp,o,env',rel,e,k⟩:=hq0
 cases e
 exact k [] H G fp .refl rel rfl
theorem ad {e:Expr} {es:List Expr} {f:FO} {g:FOs} (h:QO X e f) (hs:QOs X es g) (hst:starEach (e :: es) X.env=(false,eval e X.env) :: starEach es X.env:=by rfl):QOs X (e :: es) (ag f g):=
 l8 (fB h hs hst) fun σ H Q hq0=>by
  obtain ⟨G,env,fp,o,env',rel,e,k⟩:=hq0
  obtain ⟨⟨o1,env1⟩,e1,e⟩:=af e
  obtain ⟨⟨os,env2⟩,e2,e⟩:=af e
  cases e
  exact ⟨G,env,fp,o1,env1,rel,e1,fun v H1 G1 fp1 st1 rel1 ok1=>⟨G1,env1,fp1,os,env2,rel1,e2,fun vs H2 G2 fp2 st2 rel2 ok2=>k _ H2 G2 fp2 (st1.trans st2) rel2 ⟨v,vs,rfl,ok1.mono st2.gg,ok2⟩⟩⟩
noncomputable def ap (g:D→D→Res R) (fa fb:FO):FX:=fun env=>(fa env).bind fun p=>(fb p.2).bind fun q=>(der q.2 p.1).bind fun a=>(der q.2 q.1).bind fun b=>(g a b).bind fun r=>.ok (r,q.2)
noncomputable def c8 (g:D→D→Res R) (fa fb:FO):FX:=fun env=>(fa env).bind fun p=>(fb p.2).bind fun q=>(ni q.2 p.1).bind fun a=>(ni q.2 q.1).bind fun b=>(g a b).bind fun r=>.ok (r,q.2)
structure Goes (K:W.Frag) (H:Hp) (G:Hp) (fp:List Addr) (es:PV.Env) (vs:L2.St) (r:R) (Q:VK):Prop where
 rel:Rel K G H es vs fp
 goes:∀ v H' G' fp',Step G H fp G' H' fp'→Rel K G' H' (some r :: es) (some v :: vs) fp'→Q v H'
inductive rG (K:W.Frag) (g:D→D→Res R) (x:V) (y:V) (H:Hp) (Q:VK):Prop
 | mk:∀ G fp es vs a b r,Goes K H G fp es vs r Q→Vw K G H a x→Vw K G H b y→g a b=.ok r→rG K g x y H Q
inductive rGA (K:W.Frag) (g:D→D→Res R) (x:V) (y:V) (H:Hp) (Q:VK):Prop
 | mk:∀ G fp es vs a b r,Goes K H G fp es vs r Q→Rep K H a x→Rep K H b y→g a b=.ok r→rGA K g x y H Q
variable {a b c:Expr} {fa fb fc:FO} {pos:Pos} {g g':D→D→Res R}
theorem l9 {σ:L2.St} {H:Hp} {Q:VK} (h:tQ X.K (ap g fa fb) σ H Q):tOp (rG X.K g) (tO X.K fa) (tO X.K fb) σ H Q:=by
 obtain ⟨G,env,fp,r,env',rel,e,k⟩:=h
 obtain ⟨⟨oa,e1⟩,ha,e⟩:=af e
 obtain ⟨⟨ob,e2⟩,hb,e⟩:=af e
 obtain ⟨da,hda,e⟩:=af e
 obtain ⟨db,hdb,e⟩:=af e
 obtain ⟨r',hr,e⟩:=af e
 cases e
 exact ⟨G,env,fp,oa,e1,rel,ha,fun x H1 G1 fp1 st1 rel1 ok1=>⟨G1,e1,fp1,ob,e2,rel1,hb,fun y H2 G2 fp2 st2 rel2 ok2=>
  ⟨G2,fp2,e2,σ,da,db,r,⟨rel2,fun v H' G' fp' st rel'=>k v H' G' fp' (st1.trans (st2.trans st)) rel'⟩,rel2.vw (ok1.mono st2.gg) hda,rel2.vw ok2 hdb,hr⟩⟩⟩
theorem oN {σ:L2.St} {H:Hp} {Q:VK} (h:tQ X.K (c8 g fa fb) σ H Q):tOp (rGA X.K g) (tO X.K fa) (tO X.K fb) σ H Q:=by
 obtain ⟨G,env,fp,r,env',rel,e,k⟩:=h
 obtain ⟨⟨oa,e1⟩,ha,e⟩:=af e
 obtain ⟨⟨ob,e2⟩,hb,e⟩:=af e
 obtain ⟨da,hda,e⟩:=af e
 obtain ⟨db,hdb,e⟩:=af e
 obtain ⟨r',hr,e⟩:=af e
 cases e
 exact ⟨G,env,fp,oa,e1,rel,ha,fun x H1 G1 fp1 st1 rel1 ok1=>⟨G1,e1,fp1,ob,e2,rel1,hb,fun y H2 G2 fp2 st2 rel2 ok2=>
  ⟨G2,fp2,e2,σ,da,db,r,⟨rel2,fun v H' G' fp' st rel'=>k v H' G' fp' (st1.trans (st2.trans st)) rel'⟩,rel2.vwA (ok1.mono st2.gg) hda,rel2.vwA ok2 hdb,hr⟩⟩⟩
theorem aB {op:Operator} (ho:OpR X (binaryOp op) (rG X.K g)) (ha:QO X a fa) (hb:QO X b fb):QE X (.BinOp a op b pos) (ap g fa fb):=bd (yI ho ha hb) fun _ _ _=>l9
theorem rQ {op:CmpOp} (ho:OpR X (compareOp op) (rG X.K g)) (ha:QO X a fa) (hb:QO X b fb) (hm:behindInMarks op b=false):QE X (.Compare a [op] [b] pos) (ap g fa fb):=bd (nV ho ha hb hm) fun _ _ _=>l9
theorem uh {op:CmpOp} (ho:OpR X (compareOp op) (rGA X.K g)) (ha:QO X a fa) (hb:QO X b fb) (hm:behindInMarks op b=false):QE X (.Compare a [op] [b] pos) (c8 g fa fb):=bd (nV ho ha hb hm) fun _ _ _=>oN
noncomputable def eBl (f:FX):FT:=fun env=>(f env).bind fun p=>match p.1.2 with
 | .bl k=>.ok (k,p.2)
 | _=>.bad
theorem qD {f:FX} {σ:L2.St} {H:Hp} {Q:Bool→Hp→Prop} (h:tQT X.K (eBl f) σ H Q):tQ X.K f σ H fun x H'=>∃ k,x=.bl k∧Q k H':=by
 obtain ⟨G,env,fp,k,env',rel,e,q⟩:=h
 obtain ⟨⟨⟨o,d⟩,env1⟩,e1,e⟩:=af e
 dsimp only at e
 split at e
 ·cases e
  refine ⟨G,env,fp,_,_,rel,e1,fun v H' G' fp' st rel'=>?_⟩
  have hv:=rel'.top
  rw [show ((o,D.bl k):R).2=D.bl k from rfl,Rep] at hv
  obtain ⟨b,rel2,st2⟩:=rel'.drop
  exact ⟨k,hv,q H' G' b (st.trans st2) rel2⟩
 ·cases e
theorem kB {e:Expr} {f:FX} (h:QE X e f) (he:∀ whole,isTrue e X.env whole=(do let v ←whole;standAt e.pos;holding [v] (truthy v)):=by intro _;rfl):QT X e (eBl f):=ky (vU h he) fun _ _ _=>qD
theorem im {op:CmpOp} (ho:OpR X (compareOp op) (rG X.K g)) (ha:QO X a fa) (hb:QO X b fb) (hm:behindInMarks op b=false):QT X (.Compare a [op] [b] pos) (eBl (ap g fa fb)):=
 ky (nW ho ha hb hm) fun _ _ _ h=>l9 (qD h)
theorem bO {op:CmpOp} (ho:OpR X (compareOp op) (rGA X.K g)) (ha:QO X a fa) (hb:QO X b fb) (hm:behindInMarks op b=false):QT X (.Compare a [op] [b] pos) (eBl (c8 g fa fb)):=
 ky (nW ho ha hb hm) fun _ _ _ h=>oN (qD h)
noncomputable def yr (f g:FT):FT:=fun env=>(f env).bind fun p=>if p.1 then g p.2 else .ok (false,p.2)
noncomputable def bOr (f g:FT):FT:=fun env=>(f env).bind fun p=>if p.1 then .ok (true,p.2) else g p.2
noncomputable def rR (f:FT):FT:=fun env=>(f env).bind fun p=>.ok (!p.1,p.2)
variable {ga gb:FT} {cj:List Expr}
theorem uk (h:QT X a ga):QW X (.BoolOp .And [a] pos) ga:=sN h
theorem oO (h:QT X a ga):QW X (.BoolOp .Or [a] pos) ga:=vV h
theorem wY (h:QT X a ga) (h2:QW X (.BoolOp .And (b :: cj) pos) gb):QW X (.BoolOp .And (a :: b :: cj) pos) (yr ga gb):=rP (vW h h2) fun σ H Q hq0=>by
 obtain ⟨G,env,fp,k,env',rel,e,q⟩:=hq0
 obtain ⟨⟨k1,env1⟩,e1,e⟩:=af e
 refine ⟨G,env,fp,k1,env1,rel,e1,fun H1 G1 fp1 st1 rel1=>?_⟩
 dsimp only at e
 cases k1 with
 | true=>exact ⟨G1,env1,fp1,k,env',rel1,e,fun H2 G2 fp2 st2 rel2=>q H2 G2 fp2 (st1.trans st2) rel2⟩
 | false=>
  cases e
  exact q H1 G1 fp1 st1 rel1
theorem ul (h:QT X a ga) (h2:QW X (.BoolOp .Or (b :: cj) pos) gb):QW X (.BoolOp .Or (a :: b :: cj) pos) (bOr ga gb):=rP (yy h h2) fun σ H Q hq0=>by
 obtain ⟨G,env,fp,k,env',rel,e,q⟩:=hq0
 obtain ⟨⟨k1,env1⟩,e1,e⟩:=af e
 refine ⟨G,env,fp,k1,env1,rel,e1,fun H1 G1 fp1 st1 rel1=>?_⟩
 dsimp only at e
 cases k1 with
 | false=>exact ⟨G1,env1,fp1,k,env',rel1,e,fun H2 G2 fp2 st2 rel2=>q H2 G2 fp2 (st1.trans st2) rel2⟩
 | true=>
  cases e
  exact q H1 G1 fp1 st1 rel1
theorem QW.qt {e:Expr} {f:FT} (h:QW X e f):QT X e f:=h.pt
theorem kC (h:QT X a ga):QT X (.UnaryOp .Not a pos) (rR ga):=ky (vX h) fun σ H Q hq0=>by
 obtain ⟨G,env,fp,k,env',rel,e,q⟩:=hq0
 obtain ⟨⟨k1,env1⟩,e1,e⟩:=af e
 cases e
 exact ⟨G,env,fp,k1,env1,rel,e1,fun H1 G1 fp1 st1 rel1=>q H1 G1 fp1 st1 rel1⟩
noncomputable def yt (f g:FX):FX:=fun env=>(f env).bind fun p=>match p.1.2 with
 | .bl true=>g p.2
 | .bl false=>.ok ((.f,.bl false),p.2)
 | _=>.bad
noncomputable def eOr (f g:FX):FX:=fun env=>(f env).bind fun p=>match p.1.2 with
 | .bl true=>.ok ((.f,.bl true),p.2)
 | .bl false=>g p.2
 | _=>.bad
noncomputable def y3 (f:FX):FX:=fun env=>(f env).bind fun p=>match p.1.2 with
 | .bl k=>.ok ((.f,.bl (!k)),p.2)
 | _=>.bad
noncomputable def eIf (c:FT) (f g:FX):FX:=fun env=>(c env).bind fun p=>if p.1 then f p.2 else g p.2
variable {ea eb:FX}
theorem rS {op} (h:QE X a ea):QE X (.BoolOp op [a] pos) ea:=vY h
theorem br {K:W.Frag} {G:Hp} (k:Bool):Rep K G (.bl k) (.bl k):=by rw [Rep]
theorem bv {K:W.Frag} {G:Hp} (k:Int):Rep K G (.int k) (.int k):=by rw [Rep]
theorem jB {K:W.Frag} {G:Hp}:Rep K G .non .non:=by rw [Rep]
theorem fE {K:W.Frag} {G:Hp} {l:List Nat} (h:l.length≤sizeLine):Rep K G (.str l) (.str (S l)):=by
 rw [Rep]
 exact ⟨rfl,h⟩
theorem bC {K:W.Frag} {G:Hp} {k:Bool} {v:V} (h:Rep K G (.bl k) v):v=.bl k:=by rw [Rep] at h;exact h
theorem aZ {K:W.Frag} {G:Hp} {k:Int} {v:V} (h:Rep K G (.int k) v):v=.int k:=by rw [Rep] at h;exact h
theorem bx {K:W.Frag} {G:Hp} {v:V} (h:Rep K G .non v):v=.non:=by rw [Rep] at h;exact h
theorem aS {K:W.Frag} {G:Hp} {l:List Nat} {v:V} (h:Rep K G (.str l) v):v=.str (S l)∧l.length≤sizeLine:=by rw [Rep] at h;exact h
inductive OfT (K:W.Frag) (G:Hp) (l:List D) (v:V):Prop
 | mk (p:Addr) (xs:List V) (e:v=.ref p) (q:SqT K G p xs) (r:Reps K G l xs):OfT K G l v
inductive OfL (K:W.Frag) (G:Hp) (l:List D) (v:V):Prop
 | mk (p:Addr) (xs:List V) (e:v=.ref p) (q:SqL K G p xs) (r:Reps K G l xs):OfL K G l v
theorem aQ {K:W.Frag} {G:Hp} {l:List D} {v:V} (h:Rep K G (.tup l) v):OfT K G l v:=by
 rw [Rep] at h
 obtain ⟨p,xs,e,q,r⟩:=h
 exact ⟨p,xs,e,SqT.of q,r⟩
theorem oP {K:W.Frag} {G:Hp} {l:List D} {v:V} (h:Rep K G (.tup l) v):∃ p xs,v=.ref p∧G p=some (.tup xs)∧Reps K G l xs:=by rw [Rep] at h;exact h
theorem aV {K:W.Frag} {G:Hp} {l:List D} {v:V} (h:Rep K G (.lst l) v):OfL K G l v:=by
 rw [Rep] at h
 obtain ⟨p,xs,e,q,r⟩:=h
 exact ⟨p,xs,e,q,r⟩
theorem aW {K:W.Frag} {G H:Hp} {k:Int} {v:V} (h:Vw K G H (.int k) v):v=.int k:=aZ (K:=K) (G:=G) h
theorem cO {K:W.Frag} {G H:Hp} {l:List Nat} {v:V} (h:Vw K G H (.str l) v):v=.str (S l)∧l.length≤sizeLine:=aS (K:=K) (G:=G) h
theorem fU {K:W.Frag} {G H:Hp} {l:List D} {v:V} (h:Vw K G H (.tup l) v):OfT K G l v:=aQ (K:=K) (G:=G) h
theorem rT (h:QE X a ea) (h2:QE X (.BoolOp .And (b :: cj) pos) eb):QE X (.BoolOp .And (a :: b :: cj) pos) (yt ea eb):=bd (vZ h h2) fun σ H Q hq0=>by
 obtain ⟨G,env,fp,r,env',rel,e,q⟩:=hq0
 obtain ⟨⟨⟨o,d⟩,env1⟩,e1,e⟩:=af e
 refine ⟨G,env,fp,_,env1,rel,e1,fun v H1 G1 fp1 st1 rel1=>?_⟩
 have hv:=rel1.top
 obtain ⟨b',rel2,st2⟩:=rel1.drop
 dsimp only at e hv
 split at e
 ·exact ⟨true,bC hv,wC ⟨G1,env1,b',r,env',rel2,e,fun v H2 G2 fp2 st3 rel3=>q v H2 G2 fp2 (st1.trans (st2.trans st3)) rel3⟩⟩
 ·cases e
  exact ⟨false,bC hv,iteF (q _ H1 G1 b' (st1.trans st2) (rel2.push (br _)))⟩
 ·cases e
theorem wZ (h:QE X a ea):QE X (.UnaryOp .Not a pos) (y3 ea):=bd (v4 h) fun σ H Q hq0=>by
 obtain ⟨G,env,fp,r,env',rel,e,q⟩:=hq0
 obtain ⟨⟨⟨o,d⟩,env1⟩,e1,e⟩:=af e
 refine ⟨G,env,fp,_,env1,rel,e1,fun v H1 G1 fp1 st1 rel1=>?_⟩
 have hv:=rel1.top
 obtain ⟨b',rel2,st2⟩:=rel1.drop
 dsimp only at e hv
 split at e
 ·cases e
  exact ⟨_,bC hv,q _ H1 G1 b' (st1.trans st2) (rel2.push (br _))⟩
 ·cases e
noncomputable def kF (g g':D→D→Res R) (fa fb fc:FO):FX:=fun env=>(fa env).bind fun p=>(fb p.2).bind fun q=>(der q.2 p.1).bind fun a=>(der q.2 q.1).bind fun b=>(g a b).bind fun r=>match r with
 | (.f,.bl true)=>(fc q.2).bind fun t=>(der t.2 q.1).bind fun b=>(der t.2 t.1).bind fun c=>(g' b c).bind fun r=>.ok (r,t.2)
 | (.f,.bl false)=>.ok ((.f,.bl false),q.2)
 | _=>.bad
theorem qE {σ:L2.St} {H:Hp} {Q:VK} (h:tQ X.K (kF g g' fa fb fc) σ H Q):rB (rG X.K g) (rG X.K g') (tO X.K fa) (tO X.K fb) (tO X.K fc) σ H Q:=by
 obtain ⟨G,env,fp,r,env',rel,e,k⟩:=h
 obtain ⟨⟨oa,e1⟩,ha,e⟩:=af e
 obtain ⟨⟨ob,e2⟩,hb,e⟩:=af e
 obtain ⟨da,hda,e⟩:=af e
 obtain ⟨db,hdb,e⟩:=af e
 obtain ⟨r',hr,e⟩:=af e
 refine ⟨G,env,fp,oa,e1,rel,ha,fun x H1 G1 fp1 st1 rel1 ok1=>⟨G1,e1,fp1,ob,e2,rel1,hb,fun y H2 G2 fp2 st2 rel2 ok2=>
  ⟨G2,fp2,e2,σ,da,db,r',⟨rel2,fun v H3 G3 fp3 st3 rel3=>?_⟩,rel2.vw (ok1.mono st2.gg) hda,rel2.vw ok2 hdb,hr⟩⟩⟩
 have hv:=rel3.top
 obtain ⟨b3,rel4,st4⟩:=rel3.drop
 split at e
 ·refine ⟨true,bC hv,wC ?_⟩
  obtain ⟨⟨oc,e3⟩,hc,e⟩:=af e
  obtain ⟨db',hdb',e⟩:=af e
  obtain ⟨dc,hdc,e⟩:=af e
  obtain ⟨r2,hr2,e⟩:=af e
  cases e
  exact ⟨G3,e2,b3,oc,e3,rel4,hc,fun z H5 G5 fp5 st5 rel5 ok5=>⟨G5,fp5,e3,σ,db',dc,r,⟨rel5,fun v H' G' fp' st rel'=>k v H' G' fp' (st1.trans (st2.trans (st3.trans (st4.trans (st5.trans st))))) rel'⟩,
   rel5.vw ((ok2.mono st3.gg).mono st5.gg) hdb',rel5.vw ok5 hdc,hr2⟩⟩
 ·cases e
  exact ⟨false,bC hv,iteF (k _ H3 G3 b3 (st1.trans (st2.trans (st3.trans st4))) (rel4.push (br _)))⟩
 ·cases e
theorem qF {op op':CmpOp} (ho:OpR X (compareOp op) (rG X.K g)) (ho':OpR X (compareOp op') (rG X.K g')) (ha:QO X a fa) (hb:QO X b fb) (hc:QO X c fc) (hm:lastMarks [op,op'] [b,c]=false:=by with_unfolding_all rfl) :
  QT X (.Compare a [op,op'] [b,c] pos) (eBl (kF g g' fa fb fc)):=ky (qb ho ho' ha hb hc hm) fun _ _ _ h=>qE (qD h)
inductive rC (K:W.Frag) (g:List D→Res R) (xs:List V) (H:Hp) (Q:VK):Prop
 | mk:∀ G fp es vs ds r,Goes K H G fp es vs r Q→Vws K G H ds xs→g ds=.ok r→rC K g xs H Q
noncomputable def bM (g:List D→Res R) (fs:FOs):FX:=fun env=>(fs env).bind fun p=>(lg p.2 p.1).bind fun ds=>(g ds).bind fun r=>.ok (r,p.2)
theorem oQ {gg:List D→Res R} {fs:FOs} {σ:L2.St} {H:Hp} {Q:VK} (h:tQ X.K (bM gg fs) σ H Q):tCB (rC X.K gg) (tOs X.K fs) σ H Q:=by
 obtain ⟨G,env,fp,r,env',rel,e,k⟩:=h
 obtain ⟨⟨os,e1⟩,ha,e⟩:=af e
 obtain ⟨ds,hd,e⟩:=af e
 obtain ⟨r',hr,e⟩:=af e
 cases e
 exact ⟨G,env,fp,os,e1,rel,ha,fun vs H1 G1 fp1 st1 rel1 ok1=>⟨G1,fp1,e1,σ,ds,r,⟨rel1,fun v H' G' fp' st rel'=>k v H' G' fp' (st1.trans st) rel'⟩,rel1.vws ok1 hd,hr⟩⟩
variable {x:Str} {p:Pos} {e:Expr} {es:List Expr} {gg:List D→Res R} {fs:FOs} {id T:String}
theorem bg (hc:cZ X (.builtin id) (rC X.K gg)) (hg:Gl X x) (hm:X.mg x=none) (hv:bootBuiltins x=some (.builtin id)) (ha:QOs X (e :: es) fs) (hn:x≠"__name__":=by decide) (hdb:(x == ("__debug__" : Str))=false:=by decide)
  (he:starEach (e :: es) X.env=(false,eval e X.env) :: starEach es X.env:=by rfl) (hpl:(backTo pos (starEach es X.env)).any (·.1)=false:=by rfl):QE X (.Call (.Name x p) (e :: es) [] pos) (bM gg fs):=
 bd (lR hc hg hm hv ha hn hdb he hpl) fun _ _ _=>oQ
theorem cB (hc:cZ X (.type T) (rC X.K gg)) (hg:Gl X x) (hm:X.mg x=none) (hv:bootBuiltins x=some (.type T)) (ha:QOs X (e :: es) fs) (hn:x≠"__name__":=by decide) (hdb:(x == ("__debug__" : Str))=false:=by decide)
  (he:starEach (e :: es) X.env=(false,eval e X.env) :: starEach es X.env:=by rfl) (hpl:(backTo pos (starEach es X.env)).any (·.1)=false:=by rfl):QE X (.Call (.Name x p) (e :: es) [] pos) (bM gg fs):=
 bd (oh hc hg hm hv ha hn hdb he hpl) fun _ _ _=>oQ
inductive spF (K:W.Frag) (F:List D→Res R) (vs:List V) (H:Hp) (Q:VK) (zz:XK):Prop
 | mk:∀ G ds r,Same G H→Reps K G ds vs→F ds=.ok r→(∀ v H' G' fp',Step G H [] G' H' fp'→Rel K G' H' [some r] [some v] fp'→Q v H')→spF K F vs H Q zz
noncomputable def dL (F:List D→Res R) (fs:FOs):FX:=fun env=>(fs env).bind fun p=>(ik p.2 p.1).bind fun ds=>(F ds).bind fun r=>.ok (r,if bA r.1 r.2 then p.2 else p.2.map frz)
theorem aX {F:List D→Res R} {k:Nat} (C:Ct X.prog X.w X.K X.mg X.base x k (spF X.K F)) (hr:Room k X.A) (hg:Gl X x) (ha:QOs X (e :: es) fs) (hdb:(x == ("__debug__" : Str))=false:=by decide)
  (he:starEach (e :: es) X.env=(false,eval e X.env) :: starEach es X.env:=by rfl) (hpl:(backTo pos (starEach es X.env)).any (·.1)=false:=by rfl):QE X (.Call (.Name x p) (e :: es) [] pos) (dL F fs):=
 bd (yU C hr hg ha hdb he hpl) fun σ H Q hq0=>by
  obtain ⟨G,env,fp,r,env',rel,e,k⟩:=hq0
  obtain ⟨⟨os,e1⟩,ha,e⟩:=af e
  obtain ⟨ds,hd,e⟩:=af e
  obtain ⟨r',hr,e⟩:=af e
  refine ⟨G,env,fp,os,e1,rel,ha,fun vs H1 G1 fp1 st1 rel1 ok1=>?_⟩
  show spF X.K F (vs++[]) H1 Q _
  rw [List.append_nil]
  obtain ⟨G2,g12,g2h,hrep,_,hback⟩:=rel1.lend
  refine ⟨G2,ds,r',g2h,il g12 hrep ok1 hd,hr,fun v H' G' fp' st rel'=>?_⟩
  obtain ⟨k1,k2⟩:=hback H' G' fp' r' v st rel'
  by_cases hc:bA r'.1 r'.2=true
  ·rw [if_pos hc] at e
   cases e
   obtain ⟨G3,fp3,st3,rel3⟩:=k1 hc
   exact k v H' G3 fp3 (st1.trans st3) rel3
  ·rw [if_neg hc] at e
   cases e
   obtain ⟨G3,fp3,st3,rel3⟩:=k2
   exact k v H' G3 fp3 (st1.trans st3) rel3
end
noncomputable def sSeq (g1 g2:FS):FS:=fun env=>(g1 env).bind fun o=>match o with
 | .nx e=>g2 e
 | o=>.ok o
noncomputable def cK:FS:=fun env=>.ok (.nx env)
noncomputable def rU:FS:=fun _=>.bad
noncomputable def bB (i:Nat) (f:FX):FS:=fun env=>(f env).bind fun p=>if i < p.2.length then .ok (.nx (p.2.set i (some p.1))) else .bad
noncomputable def io (f:FX):FS:=fun env=>(f env).bind fun p=>.ok (.nx p.2)
noncomputable def dn (f:FX):FS:=fun env=>(f env).bind fun p=>.ok (.rt p.1)
noncomputable def sIf (c:FT) (g h:FS):FS:=fun env=>(c env).bind fun p=>if p.1 then g p.2 else h p.2
section
variable {md:Mode} {X:Cx} {st:Stmt} {sts:List Stmt} {g h:FS} {f:FX} {c:FT} {pos:Pos} {e:Expr}
theorem a8:QSs (md:=md) X [] cK:=oK sO fun D σ H ⟨G,env,fp,rel,k⟩=>k σ H G fp .refl rel
theorem ao (a:QS (md:=md) X st g):QSs (md:=md) X [st] g:=sP a
theorem ae (a:QS (md:=md) X st g) (b:QSs (md:=md) X sts h):QSs (md:=md) X (st :: sts) (sSeq g h):=oK (p5 a b) fun D σ H hq0=>by
 obtain ⟨G,env,fp,rel,k⟩:=hq0
 refine ⟨G,env,fp,rel,?_⟩
 have k:OutOk X.K G H fp D ((g env).bind fun o=>match o with | .nx e=>h e | o=>.ok o):=k
 match q:g env,k with
 | .ok (.nx env1),k=>exact fun σ1 H1 G1 fp1 st1 rel1=>⟨G1,env1,fp1,rel1,OutOk.after st1 k⟩
 | .ok (.bk env1),k=>exact k
 | .ok (.ct env1),k=>exact k
 | .ok (.rt r),k=>exact k
theorem qG:QS (md:=md) X st rU:=dI p6 fun D σ H ⟨G,env,fp,rel,k⟩=>k
theorem oR {K:W.Frag} {G H:Hp} {fp:List Addr} {D:Ends} {i:Nat} {env:PV.Env} {σ:L2.St} (rel:Rel K G H env σ fp) (k:OutOk (md:=md) K G H fp D (bB i f env)):tQ K f σ H fun v H'=>D.nx (σ.set i (some v)) H':=by
 unfold bB at k
 match q:f env,k with
 | .ok (r,env1),k=>
  have k:OutOk K G H fp D (if i < env1.length then .ok (.nx (env1.set i (some r))) else .bad):=k
  by_cases hi:i < env1.length
  ·rw [if_pos hi] at k
   refine ⟨G,env,fp,r,env1,rel,q,fun v H1 G1 fp1 st1 rel1=>?_⟩
   obtain ⟨fq,rel2,st2⟩:=rel1.store hi
   exact k _ H1 G1 fq (st1.trans st2) rel2
  ·rw [if_neg hi] at k
   exact k.elim
theorem ay {i:Nat} {x:Str} {pos':Pos} (hN:X.N.Nodup) (hi:X.N[i]?=some x) (hx:Loc X.env.scope x) (he:QE X e f) (hs:swapsWith e (some (.Name x pos')) pos.line X.env=pure false:=by rfl) (hf:X.fn x=true∨X.env.scope.names.lookup x=some .local:=by first | exact .inl rfl | exact .inr rfl | assumption) :
  QS (md:=md) X (.Assign [.Name x pos'] e pos) (bB i f):=dI (wb (i:=i) hN hi hx he hs hf) fun D σ H ⟨G,env,fp,rel,k⟩=>oR rel k
theorem dN (he:QE X e f) (hs:swapsWith e none pos.line X.env=pure false:=by rfl):QS (md:=md) X (.Expr e pos) (io f):=dI (sQ he hs) fun D σ H hq0=>by
 obtain ⟨G,env,fp,rel,k⟩:=hq0
 unfold io at k
 match q:f env,k with
 | .ok (r,env1),k=>
  refine ⟨G,env,fp,r,env1,rel,q,fun v H1 G1 fp1 st1 rel1=>?_⟩
  obtain ⟨b,rel2,st2⟩:=rel1.drop
  exact k _ H1 G1 b (st1.trans st2) rel2
theorem Rel.only {K:W.Frag} {G H:Hp} {r:R} {v:V} {es:PV.Env} {vs:L2.St} {fp:List Addr} (q:Rel K G H (some r :: es) (some v :: vs) fp):∃ a,Rel K G H [some r] [some v] a∧Step G H fp G H a:=by
 obtain ⟨y,ys,e,v',a,b,e1,e2,r1,r2⟩:=q.rep
 cases e
 cases e1
 subst e2
 have nd:=List.nodup_append.mp q.nd
 exact ⟨a,⟨⟨some v,[],rfl,v,a,[],rfl,(List.append_nil _).symm,r1,rfl,rfl⟩,nd.1,fun p hp=>q.gn p (List.mem_append_left _ hp),q.gh⟩,Step.cut fun p hp=>List.mem_append_left _ hp⟩
theorem aR (he:QE X e f):QS (md:=.plain) X (.Return (some e) pos) (dn f):=dI (v5 he) fun D σ H hq0=>by
 obtain ⟨G,env,fp,rel,k⟩:=hq0
 unfold dn at k
 match q:f env,k with
 | .ok (r,env1),k=>
  refine ⟨G,env,fp,r,env1,rel,q,fun v H1 G1 fp1 st1 rel1=>?_⟩
  obtain ⟨b,rel2,st2⟩:=rel1.only
  exact k _ H1 G1 b (st1.trans st2) rel2
theorem Rel.nilF {K:W.Frag} {G H:Hp} {es:PV.Env} {vs:L2.St} {fp:List Addr} (q:Rel K G H es vs fp):Rel K G H [] [] []:=⟨⟨rfl,rfl⟩,List.nodup_nil,(fun _ h=>nomatch h),q.gh⟩
theorem c9 {a b:List Stmt} {ct:Expr} (hc:QT X ct c) (ha:QSs (md:=md) X a g) (hb:QSs (md:=md) X b h):QS (md:=md) X (.If ct a b pos) (sIf c g h):=dI (yD hc ha hb) fun D σ H hq0=>by
 obtain ⟨G,env,fp,rel,k⟩:=hq0
 unfold sIf at k
 match q:c env,k with
 | .ok (true,env1),k=>exact ⟨G,env,fp,true,env1,rel,q,fun H1 G1 fp1 st1 rel1=>wC ⟨G1,env1,fp1,rel1,OutOk.after st1 k⟩⟩
 | .ok (false,env1),k=>exact ⟨G,env,fp,false,env1,rel,q,fun H1 G1 fp1 st1 rel1=>iteF ⟨G1,env1,fp1,rel1,OutOk.after st1 k⟩⟩
noncomputable def cP (c:FT) (g:FS):Nat→FS
 | 0,_=>.bad
 | n + 1,env=>(c env).bind fun p=>if p.1 then (g p.2).bind fun o=>match o with
  | .nx e=>cP c g n e
  | .ct e=>cP c g n e
  | .bk e=>.ok (.nx e)
  | .rt r=>.ok (.rt r)
  else .ok (.nx p.2)
theorem ma {ct:Expr} {body:List Stmt} (n:Nat) (hp:PassesOwn (model X.prog X.w) X.A X.env X.xe) (hc:QT X ct c) (hb:QSs (md:=md) X body g):QS (md:=md) X (.While ct body [] pos) (cP c g n):=
 dI (p8 hp hc hb) fun D σ H hq0=>by
  obtain ⟨G,env,fp,rel,k⟩:=hq0
  refine ⟨fun m σ' H'=>∃ G' env' fp',Rel X.K G' H' env' σ' fp'∧OutOk X.K G' H' fp' D (cP c g m env'),⟨n,G,env,fp,rel,k⟩,?_⟩
  rintro m σ1 H1 ⟨G1,env1,fp1,rel1,k1⟩
  cases m with
  | zero=>exact k1.elim
  | succ m=>
   unfold cP at k1
   match q:c env1,k1 with
   | .ok (false,env2),k1=>exact ⟨G1,env1,fp1,false,env2,rel1,q,fun H2 G2 fp2 st2 rel2=>iteF (k1 _ H2 G2 fp2 st2 rel2)⟩
   | .ok (true,env2),k1=>
    refine ⟨G1,env1,fp1,true,env2,rel1,q,fun H2 G2 fp2 st2 rel2=>wC ?_⟩
    refine ⟨fun σ' H'=>∃ G' env' fp',Rel X.K G' H' env' σ' fp'∧OutOk X.K G' H' fp' D (cP c g m env'),fun σ' H' z=>⟨m,Nat.lt_succ_self _,z⟩,G2,env2,fp2,rel2,?_⟩
    have k2:OutOk X.K G1 H1 fp1 D ((g env2).bind fun o=>match o with | .nx e=>cP c g m e | .ct e=>cP c g m e | .bk e=>.ok (.nx e) | .rt r=>.ok (.rt r)):=k1
    match q2:g env2,k2 with
    | .ok (.nx e),k2=>exact fun σ' H' G' fp' st rel=>⟨G',e,fp',rel,OutOk.after (st2.trans st) k2⟩
    | .ok (.ct e),k2=>exact fun σ' H' G' fp' st rel=>⟨G',e,fp',rel,OutOk.after (st2.trans st) k2⟩
    | .ok (.bk e),k2=>exact fun σ' H' G' fp' st rel=>k2 σ' H' G' fp' (st2.trans st) rel
    | .ok (.rt r),k2=>exact fun v H' G' fp' st rel=>k2 v H' G' fp' (st2.trans st) rel
def Walk (K:W.Frag) (G:Hp) (J:It) (ds:List D):Prop:=∀ G' H' es vs fp,Same G G'→Rel K G' H' es vs fp→∀ i:Nat,
 (∀ d,ds[i]?=some d→J.go i H'∧∀ x H2,J.yld i H' x H2→∃ G2,Rep K G2 d x∧Rel K G2 H2 es vs fp∧Step G' H' fp G2 H2 fp)∧(i=ds.length→J.stop i H')
abbrev FI:=PV.Env→Res (List D×PV.Env)
inductive tQI (K:W.Frag) (f:FI) (σ:L2.St) (H:Hp) (R:It→Hp→Prop):Prop
 | mk:∀ G env fp ds env',Rel K G H env σ fp→f env=.ok (ds,env')→(∀ J H' G' fp',Step G H fp G' H' fp'→Rel K G' H' env' σ fp'→Walk K G' J ds→R J H')→tQI K f σ H R
def QI (X:Cx) (tg e:Expr) (f:FI):Prop:=PI X tg e (tQI X.K f)
theorem iq {X:Cx} {tg e:Expr} {t t':TI} (h:PI X tg e t) (k:∀ σ H R,t' σ H R→t σ H R):PI X tg e t':=fun pins s σ H R I w=>h pins s σ H R I (k σ H R w)
abbrev FG:=D→PV.Env→Res PV.Env
inductive tQG (K:W.Frag) (a:FG) (v:V) (σ:L2.St) (H:Hp) (Q:L2.St→Hp→Prop):Prop
 | mk:∀ G env fp d env',Rel K G H env σ fp→Rep K G d v→a d env=.ok env'→(∀ σ' G' fp',Step G H fp G' H fp'→Rel K G' H env' σ' fp'→Q σ' H)→tQG K a v σ H Q
def QG (X:Cx) (tg:Expr) (a:FG):Prop:=PG X tg (tQG X.K a)
noncomputable def aw (i:Nat):FG:=fun d env=>if i < env.length then .ok (env.set i (some (.f,d))) else .bad
theorem rV {X:Cx} {tg:Expr} {t t':TG} (h:PG X tg t) (k:∀ v σ H Q,t' v σ H Q→t v σ H Q):PG X tg t':=fun pins s σ H v u Q I r w=>h pins s σ H v u Q I r (k v σ H Q w)
theorem oS {X:Cx} {tg:List Expr} {t t':TGs} (h:PGs X tg t) (k:∀ v σ H Q,t' v σ H Q→t v σ H Q):PGs X tg t':=fun pins s σ H v u Q I r w=>h pins s σ H v u Q I r (k v σ H Q w)
theorem aE {i:Nat} {x:Str} (hN:X.N.Nodup) (hi:X.N[i]?=some x) (hx:Loc X.env.scope x) (hf:X.fn x=true∨X.env.scope.names.lookup x=some .local:=by first | exact .inl rfl | exact .inr rfl | assumption):QG X (.Name x pos) (aw i):=
 rV (sR (i:=i) hN hi hx hf) fun v σ H Q hq0=>by
  obtain ⟨G,env,fp,d,env',rel,r,e,k⟩:=hq0
  unfold aw at e
  split at e
  ·rename_i hl
   cases e
   obtain ⟨fq,rel2,st2⟩:=(rel.push r).store hl
   exact k _ G fq st2 rel2
  ·cases e
abbrev FGs:=List D→PV.Env→Res PV.Env
inductive tQGs (K:W.Frag) (a:FGs) (vs:List V) (σ:L2.St) (H:Hp) (Q:L2.St→Hp→Prop):Prop
 | mk:∀ G env fp ds env',Rel K G H env σ fp→Reps K G ds vs→a ds env=.ok env'→(∀ σ' G' fp',Step G H fp G' H fp'→Rel K G' H env' σ' fp'→Q σ' H)→tQGs K a vs σ H Q
def QGs (X:Cx) (tg:List Expr) (a:FGs):Prop:=PGs X tg (tQGs X.K a)
noncomputable def cv:FGs:=fun ds env=>match ds with
 | []=>.ok env
 | _=>.bad
noncomputable def az (a:FG) (b:FGs):FGs:=fun ds env=>match ds with
 | d :: ds=>(a d env).bind fun e=>b ds e
 | _=>.bad
theorem dq:QGs X [] cv:=oS sS fun vs σ H Q hq0=>by
 obtain ⟨G,env,fp,ds,env',rel,r,e,k⟩:=hq0
 cases ds with
 | nil=>
  cases e
  rw [Reps] at r
  exact ⟨r,k σ G fp .refl rel⟩
 | cons d ds=>cases e
theorem aK {tg:Expr} {tgs:List Expr} {a:FG} {b:FGs} (h1:QG X tg a) (h2:QGs X tgs b) (hs:(assignEach (tg :: tgs) X.env).map (·.2)=assign tg X.env :: (assignEach tgs X.env).map (·.2):=by rfl):QGs X (tg :: tgs) (az a b):=
 oS (p7 h1 h2 hs) fun vs σ H Q hq0=>by
  obtain ⟨G,env,fp,ds,env',rel,r,e,k⟩:=hq0
  cases ds with
  | nil=>cases e
  | cons d ds=>
   rw [Reps] at r
   obtain ⟨y,ys,ev,r1,r2⟩:=r
   obtain ⟨env1,e1,e2⟩:=af e
   exact ⟨y,ys,ev,G,env,fp,d,env1,rel,r1,e1,fun σ1 G1 fp1 st1 rel1=>⟨G1,env1,fp1,ds,env',rel1,r2.mono st1.gg,e2,fun σ2 G2 fp2 st2 rel2=>k σ2 G2 fp2 (st1.trans st2) rel2⟩⟩
noncomputable def gY (n:Nat) (a:FGs):FG:=fun d env=>match d with
 | .tup ds=>if ds.length=n then a ds env else .bad
 | _=>.bad
theorem fV {tgs:List Expr} {k n:Nat} {a:FGs} (hc:X.calm=true) (h:QGs X tgs a) (hn:(assignEach tgs X.env).length=n:=by rfl) (hst:(assignEach tgs X.env).findIdx? (·.1)=none:=by rfl):QG X (.Tuple tgs k pos) (gY n a):=
 rV (v9 hc h hn hst) fun v σ H Q hq0=>by
  obtain ⟨G,env,fp,d,env',rel,r,e,k⟩:=hq0
  unfold gY at e
  split at e
  ·rename_i ds
   split at e
   ·rename_i hl
    obtain ⟨p,xs,ev,sq,rs⟩:=aQ r
    exact ⟨p,xs,ev,bf rel.gh sq,rs.length.trans hl,G,env,fp,ds,env',rel,rs,e,k⟩
   ·cases e
  ·cases e
noncomputable def gZ (a:FG) (g:FS):List D→FS
 | [],env=>.ok (.nx env)
 | d :: ds,env=>(a d env).bind fun e=>(g e).bind fun o=>match o with
  | .nx e=>gZ a g ds e
  | .ct e=>gZ a g ds e
  | .bk e=>.ok (.nx e)
  | .rt r=>.ok (.rt r)
noncomputable def nj (f:FI) (a:FG) (g:FS):FS:=fun env=>(f env).bind fun p=>gZ a g p.1 p.2
theorem e7 {tg iter:Expr} {body:List Stmt} {fi:FI} {a:FG} (hp:PassesOwn (model X.prog X.w) X.A X.env X.xe) (hc:X.calm=true) (hi:QI X tg iter fi) (hg:QG X tg a) (hb:QSs (md:=md) X body g) (hs:∀ x,foldedSetIterable iter X.env x=pure x:=by intro _;rfl):QS (md:=md) X (.For tg iter body [] pos) (nj fi a g):=
 dI (wf hp hc hi hg hb hs) fun D σ H hq0=>by
  obtain ⟨G,env,fp,rel,k⟩:=hq0
  unfold nj at k
  match q:fi env,k with
  | .ok (ds,env1),k=>
   refine ⟨G,env,fp,ds,env1,rel,q,fun J H1 G1 fp1 st1 rel1 wk=>?_⟩
   have k:OutOk X.K G H fp D (gZ a g ds env1):=k
   refine ⟨fun i m σ' H'=>m=ds.length - i∧i≤ds.length∧∃ G' env' fp',Same G1 G'∧Rel X.K G' H' env' σ' fp'∧OutOk X.K G' H' fp' D (gZ a g (ds.drop i) env'),⟨_,rfl,Nat.zero_le _,G1,env1,fp1,.refl _,rel1,OutOk.after st1 k⟩,?_⟩
   rintro i m σ2 H2 ⟨rfl,hi,G2,env2,fp2,gg,rel2,k2⟩
   obtain ⟨w1,w2⟩:=wk G2 H2 _ _ _ gg rel2 i
   by_cases hlt:i < ds.length
   ·have hd:ds[i]?=some ds[i]:=List.getElem?_eq_getElem hlt
    obtain ⟨go,yl⟩:=w1 _ hd
    rw [List.drop_eq_getElem_cons hlt] at k2
    refine .inr ⟨go,fun σ' H'=>∃ G' env' fp',Same G1 G'∧Rel X.K G' H' env' σ' fp'∧OutOk X.K G' H' fp' D (gZ a g (ds.drop (i + 1)) env'),fun σ' H' z=>⟨ds.length - (i + 1),by lia,rfl,hlt,z⟩,fun x H3 y=>?_⟩
    obtain ⟨G3,rx,rel3,st3⟩:=yl x H3 y
    unfold gZ at k2
    match q3:a ds[i] env2,k2 with
    | .ok env3,k2=>
     refine ⟨G3,env2,fp2,ds[i],env3,rel3,rx,q3,fun σ4 G4 fp4 st4 rel4=>⟨G4,env3,fp4,rel4,?_⟩⟩
     have k3:OutOk X.K G2 H2 fp2 D ((g env3).bind fun o=>match o with | .nx e=>gZ a g (ds.drop (i + 1)) e | .ct e=>gZ a g (ds.drop (i + 1)) e | .bk e=>.ok (.nx e) | .rt r=>.ok (.rt r)):=k2
     match q4:g env3,k3 with
     | .ok (.nx e),k3=>exact fun σ' H' G' fp' st rel=>⟨G',e,fp',gg.trans (st3.gg.trans (st4.gg.trans st.gg)),rel,OutOk.after (st3.trans (st4.trans st)) k3⟩
     | .ok (.ct e),k3=>exact fun σ' H' G' fp' st rel=>⟨G',e,fp',gg.trans (st3.gg.trans (st4.gg.trans st.gg)),rel,OutOk.after (st3.trans (st4.trans st)) k3⟩
     | .ok (.bk e),k3=>exact fun σ' H' G' fp' st rel=>k3 σ' H' G' fp' (st3.trans (st4.trans st)) rel
     | .ok (.rt r),k3=>exact fun v H' G' fp' st rel=>k3 v H' G' fp' (st3.trans (st4.trans st)) rel
   ·have e:i=ds.length:=by lia
    subst e
    rw [List.drop_length] at k2
    exact .inl ⟨w2 rfl,k2 σ2 H2 G2 fp2 .refl rel2⟩
noncomputable def nI (f:FX):FI:=fun env=>(f env).bind fun p=>match p.1.2 with
 | .lst ds=>.ok (ds,p.2)
 | _=>.bad
noncomputable def dr (f:FX):FI:=fun env=>(f env).bind fun p=>match p.1.2 with
 | .tup ds=>.ok (ds,p.2)
 | _=>.bad
variable {tg l:Expr}
theorem kG {K:W.Frag} {G:Hp} {a:Addr} {xs:List V} {ds:List D} (sq:SqL K G a xs) (rs:Reps K G ds xs):Walk K G (Itl K a) ds:=by
 intro G' H' es vs fp gg rel i
 have sq':SqL K H' a xs:=eR rel.gh (eR gg sq)
 refine ⟨fun d hd=>?_,fun e=>⟨xs,sq',by rw [rs.length];lia⟩⟩
 obtain ⟨x,hx,rx⟩:=rs.get hd
 refine ⟨⟨xs,x,sq',hx⟩,fun y H2 ⟨e,hy⟩=>?_⟩
 subst e
 have:=hy xs sq'
 rw [hx] at this
 cases this
 exact ⟨G',Rep.mono gg rx,rel,.refl⟩
theorem qH {K:W.Frag} {G:Hp} {a:Addr} {xs:List V} {ds:List D} (sq:SqT K G a xs) (rs:Reps K G ds xs):Walk K G (Itt K a) ds:=by
 intro G' H' es vs fp gg rel i
 have sq':SqT K H' a xs:=bf rel.gh (bf gg sq)
 refine ⟨fun d hd=>?_,fun e=>⟨xs,sq',by rw [rs.length];lia⟩⟩
 obtain ⟨x,hx,rx⟩:=rs.get hd
 refine ⟨⟨xs,x,sq',hx⟩,fun y H2 ⟨e,hy⟩=>?_⟩
 subst e
 have:=hy xs sq'
 rw [hx] at this
 cases this
 exact ⟨G',Rep.mono gg rx,rel,.refl⟩
theorem fF (h:QE X l f):QI X tg l (nI f):=iq (nP h) fun σ H R hq0=>by
 obtain ⟨G,env,fp,ds,env',rel,e,k⟩:=hq0
 obtain ⟨⟨⟨o,d⟩,env1⟩,e1,e⟩:=af e
 dsimp only at e
 split at e
 ·cases e
  refine ⟨G,env,fp,_,_,rel,e1,fun v H1 G1 fp1 st1 rel1=>?_⟩
  obtain ⟨G2,b,rv,rel2,st2⟩:=rel1.freeze
  obtain ⟨p,xs,ev,sq,rs⟩:=aV rv
  exact ⟨p,ev,⟨xs,eR rel2.gh sq⟩,k _ H1 G2 b (st1.trans st2) rel2 (kG sq rs)⟩
 ·cases e
theorem dO (h:QE X l f):QI X tg l (dr f):=iq (we h) fun σ H R hq0=>by
 obtain ⟨G,env,fp,ds,env',rel,e,k⟩:=hq0
 obtain ⟨⟨⟨o,d⟩,env1⟩,e1,e⟩:=af e
 dsimp only at e
 split at e
 ·cases e
  refine ⟨G,env,fp,_,_,rel,e1,fun v H1 G1 fp1 st1 rel1=>?_⟩
  obtain ⟨G2,b,rv,rel2,st2⟩:=rel1.freeze
  obtain ⟨p,xs,ev,sq,rs⟩:=aQ rv
  exact ⟨p,ev,⟨xs,bf rel2.gh sq⟩,k _ H1 G2 b (st1.trans st2) rel2 (qH sq rs)⟩
 ·cases e
noncomputable def dt (f:FX):FI:=fun env=>(f env).bind fun p=>match p.1.2 with
 | .str l=>.ok (l.map fun c=>.str [c],p.2)
 | _=>.bad
theorem dP (h:QE X l f):QI X tg l (dt f):=iq (wG h) fun σ H R hq0=>by
 obtain ⟨G,env,fp,ds,env',rel,e,k⟩:=hq0
 obtain ⟨⟨⟨o,d⟩,env1⟩,e1,e⟩:=af e
 dsimp only at e
 split at e
 ·rename_i cs
  cases e
  refine ⟨G,env,fp,_,_,rel,e1,fun v H1 G1 fp1 st1 rel1=>?_⟩
  obtain ⟨G2,b,rv,rel2,st2⟩:=rel1.freeze
  obtain ⟨ev,hl⟩:=aS rv
  refine ⟨cs,ev,k _ H1 G2 b (st1.trans st2) rel2 fun G' H' es vs fp' gg rel' i=>⟨fun d hd=>?_,fun e=>?_⟩⟩
  ·rw [List.getElem?_map] at hd
   cases hc:cs[i]? with
   | none=>rw [hc] at hd;cases hd
   | some c=>
    rw [hc] at hd
    cases hd
    refine ⟨(List.getElem?_eq_some_iff.mp hc).1,fun x H2 ⟨e1,e2⟩=>?_⟩
    subst e1
    refine ⟨G',?_,rel',.refl⟩
    rw [e2]
    show Rep X.K G' (.str [c]) (.str (S [cs.getD i 0]))
    rw [List.getD_eq_getElem?_getD,hc]
    exact fE (by rw [line_eq];simp)
  ·rw [List.length_map] at e
   exact e
 ·cases e
noncomputable def cC (f:FO):FI:=fun env=>(f env).bind fun p=>(der p.2 p.1).bind fun d=>match d with
 | .int j=>if -4611686018427387904≤j∧j < 4611686018427387904 then .ok ((List.range j.toNat).map fun (k:Nat)=>D.int (k:Int),p.2) else .bad
 | _=>.bad
theorem no {K:W.Frag} {G:Hp} (lo:Int) (n:Nat):Walk K G (Itr lo n) ((List.range n).map fun (k:Nat)=>D.int (lo + (k:Int))):=by
 intro G' H' es vs fp gg rel i
 refine ⟨fun d hd=>?_,fun e=>?_⟩
 ·rw [List.getElem?_map] at hd
  cases hc:(List.range n)[i]? with
  | none=>rw [hc] at hd;cases hd
  | some c=>
   rw [hc] at hd
   cases hd
   obtain ⟨h1,h2⟩:=List.getElem?_eq_some_iff.mp hc
   rw [List.length_range] at h1
   rw [List.getElem_range] at h2
   subst h2
   refine ⟨h1,fun x H2 ⟨e1,e2⟩=>?_⟩
   subst e1
   exact ⟨G',by rw [e2];exact bv _,rel,.refl⟩
 ·rw [List.length_map,List.length_range] at e
  exact Nat.le_of_eq e.symm
theorem de {a:Expr} {fa:FO} {p pos:Pos} (hg:Gl X "range") (hm:X.mg "range" = none) (ha:QO X a fa) (hs:starEach [a] X.env=[(false,eval a X.env)]:=by rfl):QI X tg (.Call (.Name "range" p) [a] [] pos) (cC fa):=
 iq (nQ hg hm (ad ha ak hs) hs) fun σ H R hq0=>by
  obtain ⟨G,env,fp,ds,env',rel,e,k⟩:=hq0
  obtain ⟨⟨o,env1⟩,e1,e⟩:=af e
  obtain ⟨d,e2,e⟩:=af e
  dsimp only at e
  split at e
  ·rename_i j
   split at e
   ·rename_i hj
    cases e
    refine ⟨G,env,fp,[o],_,rel,by show (fa env).bind _=_;rw [e1];rfl,fun vs H1 G1 fp1 st1 rel1 ok1=>?_⟩
    obtain ⟨y,ys,ev,k1,k2⟩:=ok1
    have k2:ys=[]:=k2
    subst k2
    have hv:=aW (rel1.vw k1 e2)
    subst hv
    refine ⟨j,ev,by lia,by lia,k _ H1 G1 fp1 st1 rel1 ?_⟩
    have w:=no (K:=X.K) (G:=G1) 0 j.toNat
    simpa using w
   ·cases e
  ·cases e
noncomputable def um (fs:FOs):FI:=fun env=>(fs env).bind fun p=>(lg p.2 p.1).bind fun d=>match d with
 | [.int i,.int j]=>if (-4611686018427387904≤i∧i < 4611686018427387904)∧-4611686018427387904≤j∧j < 4611686018427387904 then .ok ((List.range (j - i).toNat).map fun (k:Nat)=>D.int (i + (k:Int)),p.2) else .bad
 | _=>.bad
noncomputable def gy (k:Bool):D→Res (List D)
 | .lst ds=>if k then .ok ds else .bad
 | .tup ds=>if k then .bad else .ok ds
 | _=>.bad
noncomputable def nq (k1 k2:Bool) (fs:FOs):FI:=fun env=>(fs env).bind fun p=>match p.1 with
 | [.val d1,.val d2]=>(gy k1 d1).bind fun a=>(gy k2 d2).bind fun b=>.ok ((a.zip b).map fun z=>D.tup [z.1,z.2],p.2)
 | _=>.bad
theorem me {K:W.Frag} {G:Hp} {k:Bool} {d:D} {ds:List D} {v:V} (e:gy k d=.ok ds) (r:Rep K G d v):∃ p xs,v=.ref p∧(if k then SqL K G p xs else SqT K G p xs)∧Reps K G ds xs:=by
 cases d with
 | lst es=>
  cases k with
  | true=>
   cases e
   obtain ⟨p,xs,e1,q,rs⟩:=aV r
   exact ⟨p,xs,e1,q,rs⟩
  | false=>cases e
 | tup es=>
  cases k with
  | true=>cases e
  | false=>
   cases e
   obtain ⟨p,xs,e1,q,rs⟩:=aQ r
   exact ⟨p,xs,e1,q,rs⟩
 | _=>cases e
theorem jC {K:W.Frag} {G G':Hp} {k:Bool} {p:Addr} {xs:List V} (h:Same G G') (r:if k then SqL K G p xs else SqT K G p xs):if k then SqL K G' p xs else SqT K G' p xs:=by
 cases k with
 | true=>exact eR h r
 | false=>exact bf h r
theorem qI {K:W.Frag} {G:Hp} {k1 k2:Bool} {p1 p2:Addr} {xs ys:List V} {as bs:List D} (s1:if k1 then SqL K G p1 xs else SqT K G p1 xs) (s2:if k2 then SqL K G p2 ys else SqT K G p2 ys) (r1:Reps K G as xs) (r2:Reps K G bs ys) :
  Walk K G (Itz K k1 k2 p1 p2) ((as.zip bs).map fun z=>D.tup [z.1,z.2]):=by
 intro G' H' es vs fp gg rel i
 have g1:=jC (gg.trans rel.gh) s1
 have g2:=jC (gg.trans rel.gh) s2
 refine ⟨fun d hd=>?_,fun e=>⟨xs,ys,g1,g2,?_⟩⟩
 ·rw [List.getElem?_map] at hd
  cases hz:(as.zip bs)[i]? with
  | none=>rw [hz] at hd;cases hd
  | some z=>
   rw [hz] at hd
   cases hd
   obtain ⟨h1,h2⟩:=List.getElem?_zip_eq_some.mp hz
   obtain ⟨x,hx,rx⟩:=r1.get h1
   obtain ⟨y,hy,ry⟩:=r2.get h2
   refine ⟨⟨xs,ys,x,y,g1,g2,hx,hy⟩,fun v H2 ⟨T,hT,ev,hh⟩=>?_⟩
   have e2:=hh xs ys x y g1 g2 hx hy
   subst e2
   obtain ⟨rel2,st2⟩:=rel.newF (u:=.tup [x,y]) hT
   refine ⟨_,?_,rel2,st2⟩
   rw [Rep]
   exact ⟨T,[x,y],ev,aY,.cons (Rep.mono (gg.trans st2.gg) rx) (.one (Rep.mono (gg.trans st2.gg) ry))⟩
 ·rw [List.length_map,List.length_zip] at e
  rw [r1.length,r2.length]
  exact e
theorem mf (k1 k2:Bool) {tgs:List Expr} {kt:Nat} {pt:Pos} {e1 e2:Expr} {fs:FOs} {p pos:Pos} (hg:Gl X "zip") (hm:X.mg "zip" = none) (ha:QOs X [e1,e2] fs) (he:starEach [e1,e2] X.env=(false,eval e1 X.env) :: starEach [e2] X.env:=by rfl) (hpl:(backTo pos (starEach [e2] X.env)).any (·.1)=false:=by rfl) :
  QI X (.Tuple tgs kt pt) (.Call (.Name "zip" p) [e1,e2] [] pos) (nq k1 k2 fs):=
 iq (wK k1 k2 hg hm ha he hpl) fun σ H R hq0=>by
  obtain ⟨G,env,fp,ds,env',rel,e,k⟩:=hq0
  obtain ⟨⟨o,env1⟩,e1,e⟩:=af e
  dsimp only at e
  split at e
  ·rename_i d1 d2
   obtain ⟨a,ea,e⟩:=af e
   obtain ⟨b,eb,e⟩:=af e
   cases e
   refine ⟨G,env,fp,_,_,rel,e1,fun vs H1 G1 fp1 st1 rel1 ok1=>?_⟩
   obtain ⟨y,ys,ev,v1,z,zs,ev2,v2,e3⟩:=ok1
   have e3:zs=[]:=e3
   subst e3
   obtain ⟨p1,xs1,ep1,q1,r1⟩:=me ea v1
   obtain ⟨p2,xs2,ep2,q2,r2⟩:=me eb v2
   subst ep1
   subst ep2
   subst ev2
   exact ⟨p1,p2,xs1,xs2,ev,jC rel1.gh q1,jC rel1.gh q2,k _ H1 G1 fp1 st1 rel1 (qI q1 q2 r1 r2)⟩
  ·cases e
end
noncomputable def fBody (np nn:Nat) (g:FS):List D→Res R:=fun ds=>if ds.length=np then (g (ds.map (fun d=>some (O.f,d))++List.replicate nn none)).bind fun o=>match o with
 | .rt r=>.ok r
 | .nx _=>.ok (.f,.non)
 | _=>.bad
 else .bad
theorem fW {K:W.Frag} {G H:Hp} (n:Nat):∀ {ds:List D} {vs:List V},Reps K G ds vs→RepE K G H (ds.map (fun d=>some (O.f,d))++List.replicate n none) (vs.map some++List.replicate n none) []
 | [],vs,r=>by
  rw [Reps] at r
  subst r
  show RepE K G H (List.replicate n none) (List.replicate n none) []
  induction n with
  | zero=>exact ⟨rfl,rfl⟩
  | succ n ih=>exact ⟨none,_,rfl,ih⟩
 | d :: ds,vs,r=>by
  rw [Reps] at r
  obtain ⟨y,ys,e,r1,r2⟩:=r
  subst e
  exact ⟨some y,_,rfl,y,[],[],rfl,rfl,gF.mpr ⟨r1,rfl⟩,fW n r2⟩
theorem du {P:Program} {w:World} {K:W.Frag} {mg:Str→Option Value} {base:Heap} {x:Str} {st:Stmt} {N ps:List Str} {k:Nat} {g:FS} (Df:Def K mg x st) (sc:FnScope N ps (defScope st))
  (hb:∀ (kV doc pm:Value) (an:Option Addr) (cdv ct:Value) (us:List Value),us.length=ps.length→bindArgs (PySem.W.fnOf x x (dl st) (bN st) (defScope st) .none kV doc pm an cdv ct) ⟨us,[]⟩=pure (ps.zip us))
  (body:∀ (f:Addr) (cdv:Value) (A:Around) (outer:List PySem.Env) (s:Shared) (H:Hp) (E:XK),Room k (A.deeper (envOfC x (defScope st) s.heap.objs.size f cdv))→QSs (md:=.plain) (nY CX0 P w K mg base N x (defScope st) f cdv A outer s H E).nox (bN st) g) :
  Ct P w K mg base x (k + 1) (spF K (fBody ps.length (N.length - ps.length) g)):=by
 obtain ⟨f,fd,F,m⟩:=Df
 refine ⟨f,fd,ps,F.ok sc (fun vs H Q E h=>?_) (fun cdv A outer s H vs Q E hr h=>?_),m,F.kp,F.binds hb⟩
 ·obtain ⟨G,ds,r,_,rs,e,_⟩:=h
  unfold fBody at e
  split at e
  ·rename_i hl
   rw [rs.length,hl]
  ·cases e
 ·obtain ⟨G,ds,r,gh,rs,e,q⟩:=h
  unfold fBody at e
  split at e
  ·rename_i hl
   refine ⟨_,body f cdv A outer s H E hr,G,ds.map (fun d=>some (O.f,d))++List.replicate (N.length - ps.length) none,[],⟨?_,List.nodup_nil,(fun _ h=>nomatch h),gh⟩,?_⟩
   ·have:=fW (K:=K) (G:=G) (H:=H) (N.length - ps.length) rs
    unfold L2.gT
    rw [rs.length,hl]
    exact this
   ·obtain ⟨o,eo,e⟩:=af e
    rw [eo]
    cases o with
    | rt r'=>
     cases e
     exact fun v H' G' fp' st rel=>q v H' G' fp' st rel
    | nx env'=>
     cases e
     exact fun σ' H' G' fp' st rel=>q .non H' G' [] (st.trans (Step.cut fun _ h=>nomatch h)) (rel.nilF.push jB)
    | bk env'=>cases e
    | ct env'=>cases e
  ·cases e
noncomputable def cD (ix:List (Option Nat)) (env:PV.Env):PV.Env:=ix.map fun j=>j.bind fun j=>match env[j]? with
 | some (some r)=>some (O.f,r.2)
 | _=>none
noncomputable def fP:FT:=fun env=>.ok (true,env)
noncomputable def cw (a:FG) (c:FT) (f:FX):List D→PV.Env→Res (List D)
 | [],_=>.ok []
 | d :: ds,env=>(a d env).bind fun e=>(c e).bind fun p=>if p.1 then (f p.2).bind fun q=>(cw a c f ds q.2).bind fun rs=>.ok (q.1.2 :: rs) else cw a c f ds p.2
noncomputable def dv (fi:FI) (ix:List (Option Nat)) (a:FG) (c:FT) (f:FX):FX:=fun env=>(fi env).bind fun p=>(cw a c f p.1 (cD ix p.2)).bind fun ds=>if ds.length≤sizeLine then .ok ((.l .f,.lst ds),if flatDs ds then p.2 else p.2.map frz) else .bad
theorem jD:∀ ds,ds.all (bA .f)=flatDs ds
 | []=>rfl
 | d :: ds=>by rw [List.all_cons,flatDs,jD ds,bA]
theorem dQ {K:W.Frag} {G1 H:Hp} {es:PV.Env} {σ:L2.St} (ht:∀ (i:Nat) (r:R) (v:V),es[i]?=some (some r)→σ[i]?=some (some v)→Rep K G1 r.2 v) (hv:∀ (i:Nat) (r:R),es[i]?=some (some r)→∃ v,σ[i]?=some (some v)) :
  ∀ ix:List (Option Nat),RepE K G1 H (cD ix es) (i7 ix σ) []
 | []=>⟨rfl,rfl⟩
 | none :: ix=>⟨none,_,rfl,dQ ht hv ix⟩
 | some j :: ix=>by
  show RepE K G1 H ((match es[j]? with | some (some r)=>some (O.f,r.2) | _=>none) :: cD ix es) ((σ[j]?).bind id :: i7 ix σ) []
  cases e:es[j]? with
  | none=>exact ⟨_,_,rfl,dQ ht hv ix⟩
  | some r=>
   cases r with
   | none=>exact ⟨_,_,rfl,dQ ht hv ix⟩
   | some r=>
    obtain ⟨v,ev⟩:=hv j r e
    refine ⟨_,_,rfl,v,[],[],?_,rfl,gF.mpr ⟨ht j r v e ev,rfl⟩,dQ ht hv ix⟩
    rw [ev]
    rfl
section
variable {md:Mode} {X:Cx} {scope:Scope} {N:List Str} {tg iter elt:Expr} {ifs:List Expr} {pos:Pos} {fi:FI} {a:FG} {c:FT} {f:FX}
def QTs (X:Cx) (ifs:List Expr) (c:FT):Prop:=PTs X ifs (tQT X.K c)
theorem ck:QTs X [] fP:=fun pins s σ H Q I hq0=>by
 obtain ⟨G,env,fp,b,env',rel,e,k⟩:=hq0
 cases e
 exact tH pins s σ H Q I (k H G fp .refl rel)
end
section
variable {X:Cx}
inductive rCatS (K:W.Frag) (x:V) (y:V) (H:Hp) (Q:VK):Prop
 | mk:∀ l b xs zs,x=.ref l→y=.ref b→SqL K H l xs→SqL K H b zs→xs.length + zs.length≤sizeLine→(∀ p,H p=none→Q (.ref p) (upd H p (.lst (xs++zs))))→rCatS K x y H Q
theorem uo:OpR X (binaryOp .Add) (rCatS X.K):=by
 intro pins s σ H x y v u Q I rx ry h
 obtain ⟨l,b,xs,zs,rfl,rfl,hH,hB,hz,q⟩:=h
 cases rx
 cases ry
 obtain ⟨its,r1,p1,_⟩:=I.list hH
 obtain ⟨its2,r2,p2,_⟩:=I.list hB
 have l1:=r1.length
 have l2:=r2.length
 obtain ⟨⟨cls,dd,data,sl⟩,ho,hc,n,hd⟩:=id p1.isList
 obtain ⟨⟨cls2,dd2,data2,sl2⟩,ho2,hc2,n2,hd2⟩:=id p2.isList
 simp only at hc hd hc2 hd2
 subst hc hd hc2 hd2
 have e:its.toArray++its2.toArray=(its++its2).toArray:=by simp
 refine concat_meets ⟨_,ho,rfl⟩ ⟨_,ho2,rfl⟩ noFill_list_add seq_list_add PySem.F.slot_list_add PySem.F.entry_list_add (PySem.F.args_list_add_2 _ _) (list_addW l b its.toArray its2.toArray n n2 dd dd2 sl sl2 (by rw [List.size_toArray,List.size_toArray];lia)) ⟨ho,ho2,?_⟩
 rw [e]
 exact ⟨.ref _,_,I.lnew (t':=s.toks) (r1.append r2) (by rw [List.length_append];lia),rfl,q _ I.fresh⟩
end
noncomputable def addD:D→D→Res R
 | .int i,.int j=>.ok (.f,.int (i + j))
 | .str a,.str b=>if a.length + b.length≤sizeLine then .ok (.f,.str (a++b)) else .bad
 | .lst a,.lst b=>if a.length + b.length≤sizeLine then .ok (.l .f,.lst (a++b)) else .bad
 | .tup a,.tup b=>if a≠[]∧a.length + b.length≤sizeLine then .ok (.f,.tup (a++b)) else .bad
 | _,_=>.bad
section
variable {X:Cx}
theorem jE {K:W.Frag} {G H:Hp} {fp:List Addr} {es:PV.Env} {vs:L2.St} {ds:List D} {xs:List V} {p:Addr} (rel:Rel K G H es vs fp) (hp:H p=none) (r:Reps K G ds xs) :
  ∃ G',Rel K G' (upd H p (.tup xs)) (some (.f,.tup ds) :: es) (some (.ref p) :: vs) fp∧Step G H fp G' (upd H p (.tup xs)) fp:=by
 obtain ⟨rel2,st2⟩:=rel.newF (u:=.tup xs) hp
 refine ⟨_,rel2.push ?_,st2⟩
 rw [Rep]
 exact ⟨p,xs,rfl,aY,r.mono st2.gg⟩
theorem w4:OpR X (binaryOp .Add) (rG X.K addD):=by
 rintro pins s σ H x y v u Q I rx ry ⟨G,fp,es,vs,a,b,r,⟨rel,k⟩,va,vb,e⟩
 unfold addD at e
 split at e
 ·rename_i i j
  cases e
  cases aW va
  cases aW vb
  exact wg pins s σ H _ _ v u Q I rx ry ⟨i,j,rfl,rfl,k _ H G fp .refl (rel.push (bv _))⟩
 ·rename_i i j
  split at e
  ·rename_i hl
   cases e
   obtain ⟨e1,h1⟩:=cO va
   obtain ⟨e2,h2⟩:=cO vb
   subst e1
   subst e2
   refine mX pins s σ H _ _ v u Q I rx ry ⟨_,_,rfl,rfl,by rw [iR,iR];exact hl,?_⟩
   rw [yT]
   exact k _ H G fp .refl (rel.push (fE (by rw [List.length_append];exact hl)))
  ·cases e
 ·rename_i i j
  split at e
  ·rename_i hl
   cases e
   obtain ⟨p,xs,e1,h1,r1⟩:=va
   obtain ⟨p2,xs2,e2,h2,r2⟩:=vb
   subst e1
   subst e2
   refine uo pins s σ H _ _ v u Q I rx ry ⟨p,p2,xs,xs2,rfl,rfl,h1,h2,by rw [r1.length,r2.length];exact hl,fun q hq=>?_⟩
   obtain ⟨rel2,st2⟩:=rel.newL hq (r1.app r2)
   exact k _ _ G _ st2 rel2
  ·cases e
 ·rename_i i j
  split at e
  ·rename_i hl
   cases e
   obtain ⟨p,xs,e1,h1,r1⟩:=fU va
   obtain ⟨p2,xs2,e2,h2,r2⟩:=fU vb
   subst e1
   subst e2
   have hx:xs≠[]:=fun z=>hl.1 (List.eq_nil_of_length_eq_zero (by rw [←r1.length,z];rfl))
   refine tf pins s σ H _ _ v u Q I rx ry ⟨p,p2,xs,xs2,rfl,rfl,bf rel.gh h1,bf rel.gh h2,hx,by rw [r1.length,r2.length];exact hl.2,fun z=>?_,fun z q hq=>?_⟩
   ·have:j=[]:=List.eq_nil_of_length_eq_zero (by rw [←r2.length,z];rfl)
    subst this
    rw [List.append_nil] at k
    exact k _ H G fp .refl (rel.push va)
   ·obtain ⟨G',rel2,st2⟩:=jE rel hq (r1.app r2)
    exact k _ _ G' _ st2 rel2
  ·cases e
 ·cases e
noncomputable def qJ:D→D→Res R
 | .int i,.int j=>.ok (.f,.int (i - j))
 | _,_=>.bad
theorem kH:OpR X (binaryOp .Sub) (rG X.K qJ):=by
 rintro pins s σ H x y v u Q I rx ry ⟨G,fp,es,vs,a,b,r,⟨rel,k⟩,va,vb,e⟩
 unfold qJ at e
 split at e
 ·rename_i i j
  cases e
  cases aW va
  cases aW vb
  exact wj pins s σ H _ _ v u Q I rx ry ⟨i,j,rfl,rfl,k _ H G fp .refl (rel.push (bv _))⟩
 ·cases e
noncomputable def cp (i:Int):Bool:=decide (-(2 ^ 64) < i∧i < 2 ^ 64)
noncomputable def y4:D→D→Res R
 | .int i,.int j=>if cp i || cp j then .ok (.f,.int (i * j)) else .bad
 | _,_=>.bad
theorem w5:OpR X (binaryOp .Mult) (rG X.K y4):=by
 rintro pins s σ H x y v u Q I rx ry ⟨G,fp,es,vs,a,b,r,⟨rel,k⟩,va,vb,e⟩
 unfold y4 at e
 split at e
 ·rename_i i j
  split at e
  ·rename_i hc
   cases e
   cases aW va
   cases aW vb
   have hc:CMul i j:=by
    rw [Bool.or_eq_true] at hc
    exact hc.imp of_decide_eq_true of_decide_eq_true
   exact wm pins s σ H _ _ v u Q I rx ry ⟨i,j,rfl,rfl,hc,k _ H G fp .refl (rel.push (bv _))⟩
  ·cases e
 ·cases e
noncomputable def eW:D→D→Res R
 | .int i,.int j=>if 0 < j∧j < 1073741824 then .ok (.f,.int (i / j)) else .bad
 | _,_=>.bad
theorem cT:OpR X (binaryOp .FloorDiv) (rG X.K eW):=by
 rintro pins s σ H x y v u Q I rx ry ⟨G,fp,es,vs,a,b,r,⟨rel,k⟩,va,vb,e⟩
 unfold eW at e
 split at e
 ·rename_i i j
  split at e
  ·rename_i hc
   cases e
   cases aW va
   cases aW vb
   exact sT pins s σ H _ _ v u Q I rx ry ⟨i,j,rfl,rfl,hc,k _ H G fp .refl (rel.push (bv _))⟩
  ·cases e
 ·cases e
noncomputable def gA:D→D→Res R
 | .int i,.int j=>if 0 < j then .ok (.f,.int (i % j)) else .bad
 | _,_=>.bad
theorem bP:OpR X (binaryOp .Mod) (rG X.K gA):=by
 rintro pins s σ H x y v u Q I rx ry ⟨G,fp,es,vs,a,b,r,⟨rel,k⟩,va,vb,e⟩
 unfold gA at e
 split at e
 ·rename_i i j
  split at e
  ·rename_i hc
   cases e
   cases aW va
   cases aW vb
   exact wn pins s σ H _ _ v u Q I rx ry ⟨i,j,rfl,rfl,hc,k _ H G fp .refl (rel.push (bv _))⟩
  ·cases e
 ·cases e
noncomputable def vD:D→D→Res R
 | .int i,.int j=>if 0≤j∧j≤1000000∧i.natAbs < 2 ^ 64 then .ok (.f,.int (i ^ j.toNat)) else .bad
 | _,_=>.bad
theorem w6:OpR X (binaryOp .Pow) (rG X.K vD):=by
 rintro pins s σ H x y v u Q I rx ry ⟨G,fp,es,vs,a,b,r,⟨rel,k⟩,va,vb,e⟩
 unfold vD at e
 split at e
 ·rename_i i j
  split at e
  ·rename_i hc
   cases e
   cases aW va
   cases aW vb
   exact wo pins s σ H _ _ v u Q I rx ry ⟨i,j,rfl,rfl,hc,k _ H G fp .refl (rel.push (bv _))⟩
  ·cases e
 ·cases e
noncomputable def ltD:D→D→Res R
 | .int i,.int j=>.ok (.f,.bl (decide (i < j)))
 | .str a,.str b=>.ok (.f,.bl (decide (a < b)))
 | _,_=>.bad
theorem y6:OpR X (compareOp .Lt) (rG X.K ltD):=by
 rintro pins s σ H x y v u Q I rx ry ⟨G,fp,es,vs,a,b,r,⟨rel,k⟩,va,vb,e⟩
 unfold ltD at e
 split at e
 ·rename_i i j
  cases e
  cases aW va
  cases aW vb
  exact yJ pins s σ H _ _ v u Q I rx ry ⟨i,j,rfl,rfl,k _ H G fp .refl (rel.push (br _))⟩
 ·rename_i i j
  cases e
  obtain ⟨e1,h1⟩:=cO va
  obtain ⟨e2,h2⟩:=cO vb
  subst e1
  subst e2
  refine nS pins s σ H _ _ v u Q I rx ry ⟨_,_,rfl,rfl,?_⟩
  rw [b8,b8]
  exact k _ H G fp .refl (rel.push (br _))
 ·cases e
noncomputable def leD:D→D→Res R
 | .int i,.int j=>.ok (.f,.bl (decide (i≤j)))
 | .str a,.str b=>.ok (.f,.bl (!decide (b < a)))
 | _,_=>.bad
theorem w9:OpR X (compareOp .LtE) (rG X.K leD):=by
 rintro pins s σ H x y v u Q I rx ry ⟨G,fp,es,vs,a,b,r,⟨rel,k⟩,va,vb,e⟩
 unfold leD at e
 split at e
 ·rename_i i j
  cases e
  cases aW va
  cases aW vb
  exact L2.yK pins s σ H _ _ v u Q I rx ry ⟨i,j,rfl,rfl,k _ H G fp .refl (rel.push (br _))⟩
 ·rename_i i j
  cases e
  obtain ⟨e1,h1⟩:=cO va
  obtain ⟨e2,h2⟩:=cO vb
  subst e1
  subst e2
  refine or pins s σ H _ _ v u Q I rx ry ⟨_,_,rfl,rfl,?_⟩
  rw [b8,b8]
  exact k _ H G fp .refl (rel.push (br _))
 ·cases e
noncomputable def gtD:D→D→Res R
 | .int i,.int j=>.ok (.f,.bl (decide (j < i)))
 | _,_=>.bad
theorem uq:OpR X (compareOp .Gt) (rG X.K gtD):=by
 rintro pins s σ H x y v u Q I rx ry ⟨G,fp,es,vs,a,b,r,⟨rel,k⟩,va,vb,e⟩
 unfold gtD at e
 split at e
 ·rename_i i j
  cases e
  cases aW va
  cases aW vb
  exact yL pins s σ H _ _ v u Q I rx ry ⟨i,j,rfl,rfl,k _ H G fp .refl (rel.push (br _))⟩
 ·cases e
noncomputable def geD:D→D→Res R
 | .int i,.int j=>.ok (.f,.bl (decide (j≤i)))
 | _,_=>.bad
theorem y7:OpR X (compareOp .GtE) (rG X.K geD):=by
 rintro pins s σ H x y v u Q I rx ry ⟨G,fp,es,vs,a,b,r,⟨rel,k⟩,va,vb,e⟩
 unfold geD at e
 split at e
 ·rename_i i j
  cases e
  cases aW va
  cases aW vb
  exact yM pins s σ H _ _ v u Q I rx ry ⟨i,j,rfl,rfl,k _ H G fp .refl (rel.push (br _))⟩
 ·cases e
end
abbrev FDs:=PV.Env→Res (List D×PV.Env)
inductive tDs (K:W.Frag) (f:FDs) (σ:L2.St) (H:Hp) (Q:List V→Hp→Prop):Prop
 | mk:∀ G env fp ds env',Rel K G H env σ fp→f env=.ok (ds,env')→(∀ vs H' G' fp',Step G H fp G' H' fp'→Rel K G' H' env' σ fp'→Reps K G' ds vs→Q vs H')→tDs K f σ H Q
def QDs (X:Cx) (es:List Expr) (f:FDs):Prop:=PA X es (tDs X.K f)
noncomputable def bW:FDs:=fun env=>.ok ([],env)
noncomputable def aH (f:FX) (g:FDs):FDs:=fun env=>(f env).bind fun p=>(g p.2).bind fun q=>.ok (p.1.2 :: q.1,q.2)
section
variable {X:Cx}
theorem aT:QDs X [] bW:=l8 lP fun σ H Q hq0=>by
 obtain ⟨G,env,fp,o,env',rel,e,k⟩:=hq0
 cases e
 exact k [] H G fp .refl rel .nil
theorem av {e:Expr} {es:List Expr} {f:FX} {g:FDs} (h:QE X e f) (hs:QDs X es g) (hst:starEach (e :: es) X.env=(false,eval e X.env) :: starEach es X.env:=by rfl):QDs X (e :: es) (aH f g):=
 l8 (fB h hs hst) fun σ H Q hq0=>by
  obtain ⟨G,env,fp,o,env',rel,e,k⟩:=hq0
  obtain ⟨⟨r,env1⟩,e1,e⟩:=af e
  obtain ⟨⟨ds,env2⟩,e2,e⟩:=af e
  cases e
  refine ⟨G,env,fp,r,env1,rel,e1,fun v H1 G1 fp1 st1 rel1=>?_⟩
  obtain ⟨G2,b,rv,rel2,st2⟩:=rel1.freeze
  exact ⟨G2,env1,b,ds,env2,rel2,e2,fun vs H3 G3 fp3 st3 rel3 rs=>k _ H3 G3 fp3 (st1.trans (st2.trans st3)) rel3 (.cons (Rep.mono st3.gg rv) rs)⟩
noncomputable def jF (fs:FDs):FX:=fun env=>(fs env).bind fun p=>if p.1.length≤1000 then .ok ((.f,.tup p.1),p.2) else .bad
noncomputable def pW (fs:FDs):FX:=fun env=>(fs env).bind fun p=>if p.1.length≤1000 then .ok ((.l .f,.lst p.1),p.2) else .bad
variable {es:List Expr} {fs:FDs} {pos:Pos}
theorem cE {x1} (h:QDs X es fs):QE X (.Tuple es x1 pos) (jF fs):=bd (rD h) fun σ H Q hq0=>by
 obtain ⟨G,env,fp,r,env',rel,e,k⟩:=hq0
 obtain ⟨⟨ds,env1⟩,e1,e⟩:=af e
 dsimp only at e
 split at e
 ·rename_i hl
  cases e
  refine ⟨G,env,fp,ds,env',rel,e1,fun vs H1 G1 fp1 st1 rel1 rs=>⟨by rw [rs.length,line_eq];lia,fun p hp=>?_⟩⟩
  obtain ⟨G2,rel2,st2⟩:=jE rel1 hp rs
  exact k _ _ G2 _ (st1.trans st2) rel2
 ·cases e
theorem gG (h:QDs X es fs):QE X (.List es pos) (pW fs):=bd (wq h) fun σ H Q hq0=>by
 obtain ⟨G,env,fp,r,env',rel,e,k⟩:=hq0
 obtain ⟨⟨ds,env1⟩,e1,e⟩:=af e
 dsimp only at e
 split at e
 ·rename_i hl
  cases e
  refine ⟨G,env,fp,ds,env',rel,e1,fun vs H1 G1 fp1 st1 rel1 rs=>⟨by rw [rs.length,line_eq];lia,fun p hp=>?_⟩⟩
  obtain ⟨rel2,st2⟩:=rel1.newL hp rs
  exact k _ _ G1 _ (st1.trans st2) rel2
 ·cases e
noncomputable def ixD:D→D→Res R
 | .lst ds,.int i=>match atI ds i with
  | some d=>.ok (.f,d)
  | none=>.bad
 | .tup ds,.int i=>match atI ds i with
  | some d=>.ok (.f,d)
  | none=>.bad
 | .str l,.int i=>match atI l i with
  | some c=>.ok (.f,.str [c])
  | none=>.bad
 | _,_=>.bad
theorem mh {K:W.Frag} {G:Hp} {ds:List D} {xs:List V} {i:Int} {d:D} (r:Reps K G ds xs) (e:atI ds i=some d):∃ v,atI xs i=some v∧Rep K G d v:=by
 unfold atI at e ⊢
 rw [r.length]
 cases hn:ixN ds.length i with
 | none=>rw [hn] at e;cases e
 | some j=>
  rw [hn] at e
  exact r.get e
theorem y8:IxR X (rG X.K ixD):=by
 rintro value slice pins s σ H x y v u Q I rx ry ⟨G,fp,es,vs,a,b,r,⟨rel,k⟩,va,vb,e⟩ hs
 unfold ixD at e
 split at e
 ·rename_i ds i
  split at e
  ·rename_i d hd
   cases e
   obtain ⟨p,xs,ev,sq,rs⟩:=va
   subst ev
   cases aW vb
   obtain ⟨w',hw,rw'⟩:=mh rs hd
   exact tj value slice pins s σ H _ _ v u Q I rx ry ⟨p,xs,i,w',rfl,rfl,sq,hw,k _ H G fp .refl (rel.push rw')⟩ hs
  ·cases e
 ·rename_i ds i
  split at e
  ·rename_i d hd
   cases e
   obtain ⟨p,xs,ev,sq,rs⟩:=fU va
   subst ev
   cases aW vb
   obtain ⟨w',hw,rw'⟩:=mh rs hd
   exact ww value slice pins s σ H _ _ v u Q I rx ry ⟨p,xs,i,w',rfl,rfl,bf rel.gh sq,hw,k _ H G fp .refl (rel.push rw')⟩ hs
  ·cases e
 ·rename_i l i
  split at e
  ·rename_i c hc
   cases e
   obtain ⟨ev,hl⟩:=cO va
   subst ev
   cases aW vb
   refine wx value slice pins s σ H _ _ v u Q I rx ry ⟨_,i,c,rfl,rfl,by rw [iR];exact hl,by rw [b8];exact hc,?_⟩ hs
   exact k _ H G fp .refl (rel.push (fE (l:=[c]) (by rw [line_eq];simp)))
  ·cases e
 ·cases e
variable {a b:Expr} {fa fb:FO}
theorem aF (ha:QO X a fa) (hb:QO X b fb) (hs:om b:=by exact fun _ _=>rfl):QE X (.Subscript a b pos) (ap ixD fa fb):=bd (yQ y8 ha hb hs) fun _ _ _=>l9
abbrev FP:=PV.Env→Res (Option Int×PV.Env)
inductive tQP (K:W.Frag) (f:FP) (σ:L2.St) (H:Hp) (Q:Option Int→Hp→Prop):Prop
 | mk:∀ G env fp i env',Rel K G H env σ fp→f env=.ok (i,env')→(∀ H' G' fp',Step G H fp G' H' fp'→Rel K G' H' env' σ fp'→Q i H')→tQP K f σ H Q
def QP (X:Cx) (e:Option Expr) (f:FP):Prop:=PO X e (tQP X.K f)
noncomputable def oT:FP:=fun env=>.ok (none,env)
noncomputable def eX (f:FX):FP:=fun env=>(f env).bind fun p=>match p.1.2 with
 | .int i=>.ok (some i,p.2)
 | _=>.bad
theorem rW {X:Cx} {e:Option Expr} {t t':TO} (h:PO X e t) (k:∀ σ H Q,t' σ H Q→t σ H Q):PO X e t':=fun pins s σ H Q I w=>h pins s σ H Q I (k σ H Q w)
theorem lw:QP X none oT:=rW sY fun σ H Q hq0=>by
 obtain ⟨G,env,fp,i,env',rel,e,k⟩:=hq0
 cases e
 exact k H G fp .refl rel
theorem bQ {e:Expr} {f:FX} (h:QE X e f):QP X (some e) (eX f):=rW (sZ h) fun σ H Q hq0=>by
 obtain ⟨G,env,fp,i,env',rel,e,k⟩:=hq0
 obtain ⟨⟨⟨o,d⟩,env1⟩,e1,e⟩:=af e
 dsimp only at e
 split at e
 ·rename_i j
  cases e
  refine ⟨G,env,fp,_,_,rel,e1,fun v H1 G1 fp1 st1 rel1=>?_⟩
  have hv:=rel1.top
  obtain ⟨b,rel2,st2⟩:=rel1.drop
  exact ⟨j,aZ hv,k H1 G1 b (st1.trans st2) rel2⟩
 ·cases e
noncomputable def e8 {α:Type} (xs:List α) (lo hi:Option Int):List α:=(xs.drop (HT.sIx xs.length 0 lo)).take (HT.sIx xs.length xs.length hi - HT.sIx xs.length 0 lo)
noncomputable def slD (k:D) (lo hi:Option Int):Res R:=match k with
 | .lst ds=>.ok (.l .f,.lst (e8 ds lo hi))
 | .tup ds=>if ¬ (HT.sIx ds.length 0 lo=0∧HT.sIx ds.length ds.length hi=ds.length) then .ok (.f,.tup (e8 ds lo hi)) else .bad
 | .str l=>.ok (.f,.str (e8 l lo hi))
 | _=>.bad
noncomputable def eSl (fa:FO) (lo hi:FP):FX:=fun env=>(fa env).bind fun p=>(lo p.2).bind fun q=>(hi q.2).bind fun t=>(der t.2 p.1).bind fun d=>(slD d q.1 t.1).bind fun r=>.ok (r,t.2)
theorem ml {K:W.Frag} {G:Hp} {ds:List D} {xs:List V} {lo hi:Option Int} (r:Reps K G ds xs):Reps K G (e8 ds lo hi) (rE xs lo hi):=by
 unfold e8 rE
 rw [r.length]
 exact (r.drop _).take _
theorem ur {α:Type} (xs:List α) (lo hi:Option Int):(e8 xs lo hi).length≤xs.length:=by
 unfold e8
 rw [List.length_take,List.length_drop]
 lia
inductive rSl (K:W.Frag) (x:V) (lo:Option Int) (hi:Option Int) (H:Hp) (Q:VK):Prop
 | mk:∀ G fp es vs d r,Goes K H G fp es vs r Q→Vw K G H d x→slD d lo hi=.ok r→rSl K x lo hi H Q
theorem xa:SlR X (rSl X.K):=by
 rintro pins s σ H x v vl vu lo hi sl Q I rx hs pl pu ⟨G,fp,es,vs,d,r,⟨rel,k⟩,vd,e⟩
 unfold slD at e
 split at e
 ·rename_i ds
  cases e
  obtain ⟨p,xs,ev,sq,rs⟩:=vd
  subst ev
  refine tm pins s σ H _ v vl vu lo hi sl Q I rx hs pl pu ⟨p,xs,rfl,sq,fun q hq=>?_⟩
  obtain ⟨rel2,st2⟩:=rel.newL hq (ml (lo:=lo) (hi:=hi) rs)
  exact k _ _ G _ st2 rel2
 ·rename_i ds
  split at e
  ·rename_i hw
   cases e
   obtain ⟨p,xs,ev,sq,rs⟩:=fU vd
   subst ev
   refine wv pins s σ H _ v vl vu lo hi sl Q I rx hs pl pu ⟨p,xs,rfl,bf rel.gh sq,by rw [rs.length];exact hw,fun q hq=>?_⟩
   obtain ⟨G2,rel2,st2⟩:=jE rel hq (ml (lo:=lo) (hi:=hi) rs)
   exact k _ _ G2 _ st2 rel2
  ·cases e
 ·rename_i l
  cases e
  obtain ⟨ev,hl⟩:=cO vd
  subst ev
  exact wF pins s σ H _ v vl vu lo hi sl Q I rx hs pl pu ⟨l,rfl,hl,k _ H G fp .refl (rel.push (fE (l:=wE l lo hi) (Nat.le_trans (ur l lo hi) hl)))⟩
 ·cases e
noncomputable def oU (env:PV.Env) (i:Nat):Bool:=match env[i]? with
 | some (some (_,.lst _))=>true
 | _=>false
theorem qK {K:W.Frag} {G H:Hp} {es:PV.Env} {σ:L2.St} {fp:List Addr} {i:Nat} (rel:Rel K G H es σ fp) (h:oU es i=true):∃ v,σ[i]?=some (some v)∧tyV K "list" v H:=by
 unfold oU at h
 split at h
 ·rename_i o ds hr
  obtain ⟨v,ev,rv⟩:=rel.view hr
  obtain ⟨p,xs,e,sq,_⟩:=aV rv
  subst e
  exact ⟨_,ev,.inl ⟨rfl,xs,sq⟩⟩
 ·cases h
noncomputable def oV (i:Nat) (f:FX):FX:=fun env=>if oU env i then (f env).bind fun p=>match p.2[i]? with
 | some (some (.l .f,.lst ds))=>if ds.length < sizeLine then .ok ((.f,.non),p.2.set i (some (.l .f,.lst (ds++[p.1.2])))) else .bad
 | _=>.bad
 else .bad
theorem ca {i:Nat} {o e:Expr} {f:FX} {apos cpos:Pos} (ho:PE X o (p3 i)) (he:QE X e f)
  (hbase:attributeBase o "append" X.env (eval o X.env)=eval o X.env:=by rfl)
  (hfew:((backTo cpos (starEach [e] X.env)).all (fun x=>!x.1) && (backToKw cpos (keywordEach [] X.env)).all (fun x=>x.1.isSome) && decide ([e].length + ([]:List Keyword).length + (if ([]:List Keyword).isEmpty then 0 else 1) < 30))=true:=by rfl)
  (hline:(apos.endLine == cpos.line)=true:=by rfl) (hs:starEach [e] X.env=(false,eval e X.env) :: starEach [] X.env:=by rfl) (hplain:(backTo cpos (starEach [] X.env)).any (·.1)=false:=by rfl) :
  QE X (.Call (.Attribute o "append" apos) [e] [] cpos) (oV i f):=by
 refine bd (wB PySem.F.plainAttrs_list PySem.F.slot_list_append PySem.F.type_list_append kg ho (av he aT hs) hbase hfew hline hs hplain) fun σ H Q hqq=>?_
 obtain ⟨G,env,fp,r,env',rel,e,k⟩:=hqq
 unfold oV at e
 split at e
 ·rename_i hil
  obtain ⟨v,ev,ty⟩:=qK rel hil
  obtain ⟨⟨r1,env1⟩,e1,e⟩:=af e
  dsimp only at e
  split at e
  ·rename_i ds hds
   split at e
   ·rename_i hl
    cases e
    refine ⟨v,ev,ty,G,env,fp,[r1.2],env1,rel,by show (f env).bind _=_;rw [e1];rfl,fun vs H1 G1 fp1 st1 rel1 rs=>?_⟩
    rw [Reps] at rs
    obtain ⟨y,ys,eys,ry,rn⟩:=rs
    rw [Reps] at rn
    subst rn
    obtain ⟨p,xs,ep,hp,rxs,cg⟩:=rel1.chg (ds':=ds++[r1.2]) hds
    rw [ev] at ep
    cases ep
    obtain ⟨fq,rel2,st2⟩:=cg (xs++[y]) (rxs.app (.one ry))
    exact ⟨p,xs,y,rfl,eys,hp,by rw [rxs.length];exact hl,k _ _ G1 fq (st1.trans st2) (rel2.push jB)⟩
   ·cases e
  ·cases e
 ·cases e
noncomputable def y9:List D→Res R
 | [.lst ds]=>.ok (.f,.int ds.length)
 | [.tup ds]=>.ok (.f,.int ds.length)
 | [.str l]=>.ok (.f,.int l.length)
 | _=>.bad
theorem nr {K:W.Frag} {G H:Hp} {d:D} {xs:List V} (h:Vws K G H [d] xs):∃ v,xs=[v]∧Vw K G H d v:=by
 obtain ⟨y,ys,e,v1,e2⟩:=h
 have e2:ys=[]:=e2
 subst e2
 exact ⟨y,e,v1⟩
theorem AH {K:W.Frag} {G H:Hp} {d d':D} {xs:List V} (h:Vws K G H [d,d'] xs):∃ v w,xs=[v,w]∧Vw K G H d v∧Vw K G H d' w:=by
 obtain ⟨y,ys,e,v1,h2⟩:=h
 obtain ⟨z,e2,v2⟩:=nr h2
 subst e2
 exact ⟨y,z,e,v1,v2⟩
theorem xb:cZ X (.builtin "len") (rC X.K y9):=by
 rintro pins s σ H xs us Q I rx ⟨G,fp,es,vs,ds,r,⟨rel,k⟩,vd,e⟩
 unfold y9 at e
 split at e
 ·rename_i ds
  cases e
  obtain ⟨v,ev,p,ys,ep,sq,rs⟩:=nr vd
  subst ev
  subst ep
  refine gE pins s σ H _ us Q I rx ⟨p,ys,rfl,.inl sq,?_⟩
  rw [rs.length]
  exact k _ H G fp .refl (rel.push (bv _))
 ·rename_i ds
  cases e
  obtain ⟨v,ev,vt⟩:=nr vd
  obtain ⟨p,ys,ep,sq,rs⟩:=fU vt
  subst ev
  subst ep
  refine gE pins s σ H _ us Q I rx ⟨p,ys,rfl,.inr (bf rel.gh sq),?_⟩
  rw [rs.length]
  exact k _ H G fp .refl (rel.push (bv _))
 ·rename_i l
  cases e
  obtain ⟨v,ev,vt⟩:=nr vd
  obtain ⟨ep,hl⟩:=cO vt
  subst ev
  subst ep
  refine kc pins s σ H _ us Q I rx ⟨S l,rfl,by rw [iR];exact hl,?_⟩
  rw [iR]
  exact k _ H G fp .refl (rel.push (bv _))
 ·cases e
noncomputable def xc:List D→Res R
 | [.lst ds]=>.ok (.l .f,.lst ds)
 | [.tup ds]=>.ok (.l .f,.lst ds)
 | _=>.bad
noncomputable def df:List D→Res R
 | [.lst ds]=>.ok (.f,.tup ds)
 | [.tup ds]=>.ok (.f,.tup ds)
 | _=>.bad
theorem dw:cZ X (.type "tuple") (rC X.K df):=by
 rintro pins s σ H xs us Q I rx ⟨G,fp,es,vs,ds,r,⟨rel,k⟩,vd,e⟩
 unfold df at e
 split at e
 ·rename_i ds
  cases e
  obtain ⟨v,ev,p,ys,ep,sq,rs⟩:=nr vd
  subst ev
  subst ep
  refine fQ pins s σ H _ us Q I rx ⟨p,ys,rfl,.inl ⟨sq,fun q hq=>?_⟩⟩
  obtain ⟨G2,rel2,st2⟩:=jE rel hq rs
  exact k _ _ G2 _ st2 rel2
 ·rename_i ds
  cases e
  obtain ⟨v,ev,vt⟩:=nr vd
  obtain ⟨p,ys,ep,sq,rs⟩:=fU vt
  subst ev
  subst ep
  exact fQ pins s σ H _ us Q I rx ⟨p,ys,rfl,.inr ⟨bf rel.gh sq,k _ H G fp .refl (rel.push vt)⟩⟩
 ·cases e
noncomputable def kI:List D→Option (List Bool)
 | []=>some []
 | .bl b :: ds=>(kI ds).map (b :: ·)
 | _=>none
noncomputable def dR:List D→Option (List Int)
 | []=>some []
 | .int b :: ds=>(dR ds).map (b :: ·)
 | _=>none
theorem jb {K:W.Frag} {G:Hp}:∀ {ds:List D} {bs:List Bool} {xs:List V},kI ds=some bs→Reps K G ds xs→xs=bs.map V.bl
 | [],_,_,e,r=>by
  cases e
  rw [Reps] at r
  exact r
 | .bl b :: ds,_,_,e,r=>by
  rw [kI,Option.map_eq_some_iff] at e
  obtain ⟨bs,e1,e2⟩:=e
  subst e2
  rw [Reps] at r
  obtain ⟨y,ys,e3,r1,r2⟩:=r
  rw [e3,bC r1,jb e1 r2]
  rfl
 | .non :: _,_,_,e,_ | .int _ :: _,_,_,e,_ | .str _ :: _,_,_,e,_ | .tup _ :: _,_,_,e,_ | .lst _ :: _,_,_,e,_ | .dct _ _ _ :: _,_,_,e,_=>by simp [kI] at e
theorem fG {K:W.Frag} {G:Hp}:∀ {ds:List D} {bs:List Int} {xs:List V},dR ds=some bs→Reps K G ds xs→xs=bs.map V.int
 | [],_,_,e,r=>by
  cases e
  rw [Reps] at r
  exact r
 | .int b :: ds,_,_,e,r=>by
  rw [dR,Option.map_eq_some_iff] at e
  obtain ⟨bs,e1,e2⟩:=e
  subst e2
  rw [Reps] at r
  obtain ⟨y,ys,e3,r1,r2⟩:=r
  rw [e3,aZ r1,fG e1 r2]
  rfl
 | .non :: _,_,_,e,_ | .bl _ :: _,_,_,e,_ | .str _ :: _,_,_,e,_ | .tup _ :: _,_,_,e,_ | .lst _ :: _,_,_,e,_ | .dct _ _ _ :: _,_,_,e,_=>by simp [dR] at e
theorem oW (ns:List Bool):kI (ns.map D.bl)=some ns:=by
 induction ns with
 | nil=>rfl
 | cons n ns ih=>rw [List.map_cons,kI,ih];rfl
noncomputable def lh:D→Option (List D)
 | .lst ds=>some ds
 | .tup ds=>some ds
 | _=>none
theorem oX {K:W.Frag} {G H:Hp} {d:D} {ds:List D} {v:V} (gh:Same G H) (e:lh d=some ds) (h:Vw K G H d v):∃ p xs,v=.ref p∧(SqL K H p xs∨SqT K H p xs)∧Reps K G ds xs:=by
 cases d with
 | lst es=>
  cases e
  obtain ⟨p,xs,ev,sq,rs⟩:=h
  exact ⟨p,xs,ev,.inl sq,rs⟩
 | tup es=>
  cases e
  obtain ⟨p,xs,ev,sq,rs⟩:=aQ h
  exact ⟨p,xs,ev,.inr (bf gh sq),rs⟩
 | _=>cases e
noncomputable def vE:List D→Res R
 | [d]=>match (lh d).bind kI with
  | some bs=>.ok (.f,.bl (bs.all id))
  | none=>.bad
 | _=>.bad
theorem qL (bs:List Bool):(bs.map V.bl).all yW=true:=by
 rw [List.all_map,List.all_eq_true]
 intro b _
 rfl
theorem ut (bs:List Bool):(bs.map V.bl).all wH=bs.all id:=by
 rw [List.all_map]
 rfl
theorem rX (hc:X.calm=true):cZ X (.builtin "all") (rC X.K vE):=by
 rintro pins s σ H xs us Q I rx ⟨G,fp,es,vs,ds,r,⟨rel,k⟩,vd,e⟩
 unfold vE at e
 split at e
 ·rename_i d
  split at e
  ·rename_i bs hb
   cases e
   obtain ⟨l,hl,hb⟩:=Option.bind_eq_some_iff.mp hb
   obtain ⟨v,ev,vt⟩:=nr vd
   obtain ⟨p,ys,ep,sq,rs⟩:=oX rel.gh hl vt
   have:=jb hb rs
   subst this
   subst ev
   subst ep
   refine ql hc pins s σ H _ us Q I rx ⟨p,_,rfl,sq,qL bs,?_⟩
   rw [ut]
   exact k _ H G fp .refl (rel.push (br _))
  ·cases e
 ·cases e
noncomputable def maxD:List D→Res R
 | [d]=>match (lh d).bind dR with
  | some (n :: ns)=>.ok (.f,.int (qo (n :: ns)))
  | _=>.bad
 | [.int i,.int j]=>.ok (.f,.int (if i < j then j else i))
 | _=>.bad
theorem oY {K:W.Frag} {G H:Hp} {d:D} {ns:List Int} {v:V} (gh:Same G H) (hb:(lh d).bind dR=some ns) (vt:Vw K G H d v):∃ p,v=.ref p∧(SqL K H p (ns.map V.int)∨SqT K H p (ns.map V.int)):=by
 obtain ⟨l,hl,hb⟩:=Option.bind_eq_some_iff.mp hb
 obtain ⟨p,ys,ep,sq,rs⟩:=oX gh hl vt
 have:=fG hb rs
 subst this
 exact ⟨p,ep,sq⟩
end
mutual
noncomputable def eqD:D→D→Bool
 | .non,.non=>true
 | .bl a,.bl b=>a == b
 | .bl a,.int j=>(if a then 1 else 0) == j
 | .int i,.bl b=>i == (if b then 1 else 0)
 | .int i,.int j=>i == j
 | .str a,.str b=>a == b
 | .tup a,.tup b=>gH a b
 | .lst a,.lst b=>gH a b
 | _,_=>false
noncomputable def gH:List D→List D→Bool
 | [],[]=>true
 | a :: as,b :: bs=>eqD a b && gH as bs
 | _,_=>false
end
mutual
noncomputable def plainD:Nat→D→Bool
 | n + 1,.tup ds=>plainDs n ds
 | n + 1,.lst ds=>plainDs n ds
 | 0,.tup _=>false
 | 0,.lst _=>false
 | _,.dct _ _ _=>false
 | _,_=>true
noncomputable def plainDs:Nat→List D→Bool
 | _,[]=>true
 | n,d :: ds=>plainD n d && plainDs n ds
end
theorem plainDs_mem:∀ {n:Nat} {ds:List D},plainDs n ds=true→∀ {i:Nat} {d:D},ds[i]?=some d→plainD n d=true
 | _,[],_,_,_,e=>by simp at e
 | n,a :: ds,h,0,d,e=>by
  rw [plainDs,Bool.and_eq_true] at h
  simp at e
  rw [←e]
  exact h.1
 | n,a :: ds,h,i + 1,d,e=>by
  rw [plainDs,Bool.and_eq_true] at h
  exact plainDs_mem h.2 (i:=i) (by simpa using e)
theorem fX:∀ {a b:List D},a.length≠b.length→gH a b=false
 | [],[],h=>absurd rfl h
 | [],_ :: _,_=>by simp only [gH]
 | _ :: _,[],_=>by simp only [gH]
 | x :: xs,y :: ys,h=>by
  rw [gH,fX (fun e=>h (by simp [e])),Bool.and_false]
theorem dg:∀ {a b:List D},a.length=b.length→(List.range a.length).all (fun j=>eqD (a.getD j .non) (b.getD j .non))=gH a b
 | [],[],_=>rfl
 | [],_ :: _,h=>by simp at h
 | _ :: _,[],h=>by simp at h
 | x :: xs,y :: ys,h=>by
  rw [gH,←dg (a:=xs) (b:=ys) (by simpa using h),List.length_cons,List.range_succ_eq_map,List.all_cons,List.all_map]
  rfl
section
variable {X:Cx} {pins:List (Addr×Obj)} {σ:L2.St} {H:Hp} {s:Shared}
theorem ir (I:Inv X pins σ H s) {p:Addr} {xs ys:List V} (h:SqL X.K H p xs) (h':SqT X.K H p ys):False:=by
 obtain ⟨us,_,p1,_⟩:=I.list h
 obtain ⟨ws,_,p2,_⟩:=I.tuple h'
 exact SeqAt.ne_of_list_tuple p1.isList (show s.heap.IsTuple p ws.toArray from p2) rfl
mutual
theorem jG (I:Inv X pins σ H s):∀ (d e:D) (x:V) (n:Nat),plainD n d=true→Rep X.K H d x→Rep X.K H e x→d=e
 | .non,e,x,n,_,r,q=>by
  cases bx r
  cases e with
  | non=>rfl
  | bl b=>cases bC q
  | int i=>cases aZ q
  | str l=>cases (aS q).1
  | tup l=>obtain ⟨p,xs,ev,_⟩:=aQ q;cases ev
  | lst l=>obtain ⟨p,xs,ev,_⟩:=aV q;cases ev
  | dct tk ks vs=>rw [Rep] at q;obtain ⟨p,xs,o,ev,_⟩:=q;cases ev
 | .bl b,e,x,n,_,r,q=>by
  cases bC r
  cases e with
  | non=>cases bx q
  | bl b=>cases bC q;rfl
  | int i=>cases aZ q
  | str l=>cases (aS q).1
  | tup l=>obtain ⟨p,xs,ev,_⟩:=aQ q;cases ev
  | lst l=>obtain ⟨p,xs,ev,_⟩:=aV q;cases ev
  | dct tk ks vs=>rw [Rep] at q;obtain ⟨p,xs,o,ev,_⟩:=q;cases ev
 | .int i,e,x,n,_,r,q=>by
  cases aZ r
  cases e with
  | non=>cases bx q
  | bl b=>cases bC q
  | int i=>cases aZ q;rfl
  | str l=>cases (aS q).1
  | tup l=>obtain ⟨p,xs,ev,_⟩:=aQ q;cases ev
  | lst l=>obtain ⟨p,xs,ev,_⟩:=aV q;cases ev
  | dct tk ks vs=>rw [Rep] at q;obtain ⟨p,xs,o,ev,_⟩:=q;cases ev
 | .str l,e,x,n,_,r,q=>by
  have hr:=(aS r).1
  subst hr
  cases e with
  | non=>cases bx q
  | bl b=>cases bC q
  | int i=>cases aZ q
  | str l'=>
   have hq:=(aS q).1
   injection hq with hq
   rw [tz hq]
  | tup l=>obtain ⟨p,xs,ev,_⟩:=aQ q;cases ev
  | lst l=>obtain ⟨p,xs,ev,_⟩:=aV q;cases ev
  | dct tk ks vs=>rw [Rep] at q;obtain ⟨p,xs,o,ev,_⟩:=q;cases ev
 | .tup l,e,x,n,h,r,q=>by
  obtain ⟨p,xs,ev,sq,rs⟩:=aQ r
  subst ev
  cases e with
  | non=>cases bx q
  | bl b=>cases bC q
  | int i=>cases aZ q
  | str l=>cases (aS q).1
  | tup l'=>
   obtain ⟨p',xs',ev',sq',rs'⟩:=aQ q
   cases ev'
   have:=I.tuple_inj sq sq'
   subst this
   cases n with
   | zero=>simp only [plainD] at h;cases h
   | succ n=>
    simp only [plainD] at h
    rw [jH I l l' xs n h rs rs']
  | lst l'=>
   obtain ⟨p',xs',ev',sq',rs'⟩:=aV q
   cases ev'
   exact (ir I sq' sq).elim
  | dct tk ks vs=>
   exfalso
   rw [Rep] at q
   obtain ⟨p',xs',o,ev',rd,dd,_⟩:=q
   cases ev'
   obtain ⟨its,_,ip,_⟩:=I.tuple sq
   obtain ⟨ob,ho,hc,_⟩:=ip
   have hob:=rd.ok I.hok
   cases tk with
   | true=>
    obtain ⟨kvs,eo,_⟩:=dd
    subst eo
    obtain ⟨_,_,_,_,o2,_,_,ho2,ex,_⟩:=hob
    rw [ho] at ho2
    cases ho2
    rw [ex.1] at hc
    exact absurd hc (by decide)
   | false=>
    obtain ⟨kvs,eo,_⟩:=dd
    subst eo
    obtain ⟨_,_,_,_,o2,_,_,ho2,ex,_⟩:=hob
    rw [ho] at ho2
    cases ho2
    rw [ex.1] at hc
    exact absurd hc (by decide)
 | .lst l,e,x,n,h,r,q=>by
  obtain ⟨p,xs,ev,sq,rs⟩:=aV r
  subst ev
  cases e with
  | non=>cases bx q
  | bl b=>cases bC q
  | int i=>cases aZ q
  | str l=>cases (aS q).1
  | tup l'=>
   obtain ⟨p',xs',ev',sq',rs'⟩:=aQ q
   cases ev'
   exact (ir I sq sq').elim
  | lst l'=>
   obtain ⟨p',xs',ev',sq',rs'⟩:=aV q
   cases ev'
   have:=I.list_inj sq sq'
   subst this
   cases n with
   | zero=>simp only [plainD] at h;cases h
   | succ n=>
    simp only [plainD] at h
    rw [jH I l l' xs n h rs rs']
  | dct tk ks vs=>
   exfalso
   rw [Rep] at q
   obtain ⟨p',xs',o,ev',rd,dd,_⟩:=q
   cases ev'
   obtain ⟨its,_,ip,_⟩:=I.list sq
   obtain ⟨ob,_,ho,hc,_⟩:=ip
   have hob:=rd.ok I.hok
   cases tk with
   | true=>
    obtain ⟨kvs,eo,_⟩:=dd
    subst eo
    obtain ⟨_,_,_,_,o2,_,_,ho2,ex,_⟩:=hob
    rw [ho] at ho2
    cases ho2
    rw [ex.1] at hc
    exact absurd hc (by decide)
   | false=>
    obtain ⟨kvs,eo,_⟩:=dd
    subst eo
    obtain ⟨_,_,_,_,o2,_,_,ho2,ex,_⟩:=hob
    rw [ho] at ho2
    cases ho2
    rw [ex.1] at hc
    exact absurd hc (by decide)
 | .dct _ _ _,_,_,n,h,_,_=>by cases n <;> (simp only [plainD] at h;cases h)
theorem jH (I:Inv X pins σ H s):∀ (ds es:List D) (xs:List V) (n:Nat),plainDs n ds=true→Reps X.K H ds xs→Reps X.K H es xs→ds=es
 | [],es,xs,n,_,r,q=>by
  rw [Reps] at r
  subst r
  cases es with
  | nil=>rfl
  | cons e es=>
   rw [Reps] at q
   obtain ⟨y,ys,ev,_⟩:=q
   cases ev
 | d :: ds,es,xs,n,h,r,q=>by
  rw [Reps] at r
  obtain ⟨y,ys,ev,r1,r2⟩:=r
  subst ev
  rw [plainDs,Bool.and_eq_true] at h
  cases es with
  | nil=>
   rw [Reps] at q
   cases q
  | cons e es=>
   rw [Reps] at q
   obtain ⟨y',ys',ev,q1,q2⟩:=q
   cases ev
   rw [jG I d e y n h.1 r1 q1,jH I ds es ys n h.2 r2 q2]
end
mutual
theorem jI:∀ (d:D) (n:Nat),plainD n d=true→eqD d d=true
 | .non,_,_=>by simp only [eqD]
 | .bl _,_,_=>by simp only [eqD,beq_self_eq_true]
 | .int _,_,_=>by simp only [eqD,beq_self_eq_true]
 | .str _,_,_=>by simp only [eqD,beq_self_eq_true]
 | .tup ds,0,h=>by simp only [plainD] at h;cases h
 | .tup ds,n + 1,h=>by simp only [plainD] at h;simp only [eqD];exact iu ds n h
 | .lst ds,0,h=>by simp only [plainD] at h;cases h
 | .lst ds,n + 1,h=>by simp only [plainD] at h;simp only [eqD];exact iu ds n h
 | .dct _ _ _,n,h=>by cases n <;> (simp only [plainD] at h;cases h)
theorem iu:∀ (ds:List D) (n:Nat),plainDs n ds=true→gH ds ds=true
 | [],_,_=>by simp only [gH]
 | d :: ds,n,h=>by
  rw [plainDs,Bool.and_eq_true] at h
  rw [gH,jI d n h.1,iu ds n h.2]
  rfl
end
open PySem.SeqAt
theorem a0 {n:Nat} {tk:Bool} {ks vs:List D} (h:plainD n (.dct tk ks vs)=true):False:=by cases n <;> (simp only [plainD] at h;cases h)
mutual
theorem xf (I:Inv X pins σ H s):∀ (d e:D) (x y:V) (v u:Value) (A:Around) (n:Nat),plainD n d=true→plainD n e=true→A.units + n < cLine→Rep X.K H d x→Rep X.K H e y→RelV x v→RelV y u→EqAt A s v u (eqD d e)
 | .non,e,x,y,v,u,A,n,h,h',hu,r,q,rx,ry=>by
  cases bx r
  cases rx
  cases e with
  | non=>cases bx q;cases ry;simp only [eqD];exact .same _
  | bl b=>cases bC q;cases ry;simp only [eqD];exact .none_bool _
  | int i=>cases aZ q;obtain ⟨t,rfl⟩:=ry;simp only [eqD];exact .none_int _ _
  | str l=>cases (aS q).1;obtain ⟨t,rfl⟩:=ry;simp only [eqD];exact .none_str _ _
  | tup l=>obtain ⟨p,xs,rfl,sq,_⟩:=aQ q;cases ry;obtain ⟨its,_,ip,_⟩:=I.tuple sq;simp only [eqD];exact .none_tuple (show s.heap.IsTuple p its.toArray from ip) (by lia)
  | lst l=>obtain ⟨p,xs,rfl,sq,_⟩:=aV q;cases ry;obtain ⟨its,_,ip,_⟩:=I.list sq;simp only [eqD];exact .none_list ip.isList (by lia)
  | dct tk ks vs=>exact (a0 h').elim
 | .bl b,e,x,y,v,u,A,n,h,h',hu,r,q,rx,ry=>by
  cases bC r
  cases rx
  cases e with
  | non=>cases bx q;cases ry;simp only [eqD];exact .bool_none _
  | bl b=>cases bC q;cases ry;simp only [eqD];exact .bool_bool _ _
  | int i=>cases aZ q;obtain ⟨t,rfl⟩:=ry;simp only [eqD];exact .bool_int _ _ _
  | str l=>cases (aS q).1;obtain ⟨t,rfl⟩:=ry;simp only [eqD];exact .bool_str _ _ _
  | tup l=>obtain ⟨p,xs,rfl,sq,_⟩:=aQ q;cases ry;obtain ⟨its,_,ip,_⟩:=I.tuple sq;simp only [eqD];exact .bool_tuple _ (show s.heap.IsTuple p its.toArray from ip) (by lia)
  | lst l=>obtain ⟨p,xs,rfl,sq,_⟩:=aV q;cases ry;obtain ⟨its,_,ip,_⟩:=I.list sq;simp only [eqD];exact .bool_list _ ip.isList (by lia)
  | dct tk ks vs=>exact (a0 h').elim
 | .int b,e,x,y,v,u,A,n,h,h',hu,r,q,rx,ry=>by
  cases aZ r
  obtain ⟨t0,rfl⟩:=rx
  cases e with
  | non=>cases bx q;cases ry;simp only [eqD];exact .int_none _ _
  | bl b=>cases bC q;cases ry;simp only [eqD];exact .int_bool _ _ _
  | int i=>cases aZ q;obtain ⟨t,rfl⟩:=ry;simp only [eqD];exact .int_int _ _ _ _
  | str l=>cases (aS q).1;obtain ⟨t,rfl⟩:=ry;simp only [eqD];exact .int_str _ _ _ _
  | tup l=>obtain ⟨p,xs,rfl,sq,_⟩:=aQ q;cases ry;obtain ⟨its,_,ip,_⟩:=I.tuple sq;simp only [eqD];exact .int_tuple _ _ (show s.heap.IsTuple p its.toArray from ip) (by lia)
  | lst l=>obtain ⟨p,xs,rfl,sq,_⟩:=aV q;cases ry;obtain ⟨its,_,ip,_⟩:=I.list sq;simp only [eqD];exact .int_list _ _ ip.isList (by lia)
  | dct tk ks vs=>exact (a0 h').elim
 | .str b,e,x,y,v,u,A,n,h,h',hu,r,q,rx,ry=>by
  have hr:=(aS r).1
  subst hr
  obtain ⟨t0,rfl⟩:=rx
  cases e with
  | non=>cases bx q;cases ry;simp only [eqD];exact .str_none _ _
  | bl b=>cases bC q;cases ry;simp only [eqD];exact .str_bool _ _ _
  | int i=>cases aZ q;obtain ⟨t,rfl⟩:=ry;simp only [eqD];exact .str_int _ _ _ _
  | str l=>
   have hq:=(aS q).1
   subst hq
   obtain ⟨t,rfl⟩:=ry
   have e1:(b == l)=(S b == S l):=by
    rw [Bool.eq_iff_iff,beq_iff_eq,beq_iff_eq]
    exact ⟨fun z=>by rw [z],tz⟩
   simp only [eqD,e1]
   exact .str_str _ _ _ _
  | tup l=>obtain ⟨p,xs,rfl,sq,_⟩:=aQ q;cases ry;obtain ⟨its,_,ip,_⟩:=I.tuple sq;simp only [eqD];exact .str_tuple _ _ (show s.heap.IsTuple p its.toArray from ip) (by lia)
  | lst l=>obtain ⟨p,xs,rfl,sq,_⟩:=aV q;cases ry;obtain ⟨its,_,ip,_⟩:=I.list sq;simp only [eqD];exact .str_list _ _ ip.isList (by lia)
  | dct tk ks vs=>exact (a0 h').elim
 | .tup l,e,x,y,v,u,A,n,h,h',hu,r,q,rx,ry=>by
  have rr:=r
  obtain ⟨p,xs,ev,sq,rs⟩:=aQ r
  subst ev
  cases rx
  obtain ⟨its,vl,ip,_⟩:=I.tuple sq
  have ip:s.heap.IsTuple p its.toArray:=ip
  cases e with
  | non=>cases bx q;cases ry;simp only [eqD];exact .tuple_none ip (by lia)
  | bl b=>cases bC q;cases ry;simp only [eqD];exact .tuple_bool _ ip (by lia)
  | int i=>cases aZ q;obtain ⟨t,rfl⟩:=ry;simp only [eqD];exact .tuple_int _ _ ip (by lia)
  | str l=>cases (aS q).1;obtain ⟨t,rfl⟩:=ry;simp only [eqD];exact .tuple_str _ _ ip (by lia)
  | tup l'=>
   obtain ⟨p',xs',ev',sq',rs'⟩:=aQ q
   subst ev'
   cases ry
   by_cases hp:p=p'
   ·subst hp
    have hz:=jG I _ _ _ n h rr q
    rw [←hz,jI _ n h]
    exact .same _
   ·obtain ⟨its',vl',ip',_⟩:=I.tuple sq'
    have ip':s.heap.IsTuple p' its'.toArray:=ip'
    cases n with
    | zero=>simp only [plainD] at h;cases h
    | succ n=>
     simp only [plainD] at h h'
     have l1:=vl.length
     have l2:=vl'.length
     have l3:=rs.length
     have l4:=rs'.length
     have key:=RcAt.tuples (A:=A) (e:=fun j=>eqD (l.getD j .non) (l'.getD j .non)) ip ip' (by lia) fun j h1 h2=>by
      simp only [List.size_toArray] at h1 h2
      have g1:l[j]?=some (l[j]'(by lia)):=List.getElem?_eq_getElem _
      have g2:l'[j]?=some (l'[j]'(by lia)):=List.getElem?_eq_getElem _
      obtain ⟨w1,hw1,rw1⟩:=rs.get g1
      obtain ⟨w2,hw2,rw2⟩:=rs'.get g2
      obtain ⟨u1,hu1,ru1⟩:=vl.get hw1
      obtain ⟨u2,hu2,ru2⟩:=vl'.get hw2
      have q1:its.toArray[j]=u1:=by rw [List.getElem?_eq_getElem h1] at hu1;simpa using hu1
      have q2:its'.toArray[j]=u2:=by rw [List.getElem?_eq_getElem h2] at hu2;simpa using hu2
      rw [q1,q2,List.getD_eq_getElem?_getD,List.getD_eq_getElem?_getD,g1,g2]
      exact kJ I l j _ g1 _ w1 w2 u1 u2 A.in1 n (plainDs_mem h g1) (plainDs_mem h' g2) (by show A.units + 1 + n < cLine;lia) rw1 rw2 ru1 ru2
     simp only [eqD]
     have fin:((List.range (min its.toArray.size its'.toArray.size)).all (fun j=>eqD (l.getD j .non) (l'.getD j .non)) && its.toArray.size == its'.toArray.size)=gH l l':=by
      simp only [List.size_toArray]
      by_cases hl:l.length=l'.length
      ·rw [←dg hl,show min its.length its'.length=l.length by lia,show (its.length == its'.length)=true by rw [beq_iff_eq];lia,Bool.and_true]
      ·rw [fX hl,show (its.length == its'.length)=false by rw [beq_eq_false_iff_ne];lia,Bool.and_false]
     rw [←fin]
     exact .of_refs hp key
  | lst l'=>obtain ⟨p',xs',ev',sq',_⟩:=aV q;subst ev';cases ry;obtain ⟨its',_,ip',_⟩:=I.list sq';simp only [eqD];exact .tuple_list ip ip'.isList (by lia)
  | dct tk ks vs=>exact (a0 h').elim
 | .lst l,e,x,y,v,u,A,n,h,h',hu,r,q,rx,ry=>by
  have rr:=r
  obtain ⟨p,xs,ev,sq,rs⟩:=aV r
  subst ev
  cases rx
  obtain ⟨its,vl,ip,_⟩:=I.list sq
  have ip:=ip.isList
  cases e with
  | non=>cases bx q;cases ry;simp only [eqD];exact .list_none ip (by lia)
  | bl b=>cases bC q;cases ry;simp only [eqD];exact .list_bool _ ip (by lia)
  | int i=>cases aZ q;obtain ⟨t,rfl⟩:=ry;simp only [eqD];exact .list_int _ _ ip (by lia)
  | str l=>cases (aS q).1;obtain ⟨t,rfl⟩:=ry;simp only [eqD];exact .list_str _ _ ip (by lia)
  | lst l'=>
   obtain ⟨p',xs',ev',sq',rs'⟩:=aV q
   subst ev'
   cases ry
   by_cases hp:p=p'
   ·subst hp
    have hz:=jG I _ _ _ n h rr q
    rw [←hz,jI _ n h]
    exact .same _
   ·obtain ⟨its',vl',ip',_⟩:=I.list sq'
    have ip':=ip'.isList
    cases n with
    | zero=>simp only [plainD] at h;cases h
    | succ n=>
     simp only [plainD] at h h'
     have l1:=vl.length
     have l2:=vl'.length
     have l3:=rs.length
     have l4:=rs'.length
     simp only [eqD]
     by_cases hl:l.length=l'.length
     ·have key:=RcAt.lists (A:=A) (e:=fun j=>eqD (l.getD j .non) (l'.getD j .non)) ip ip' (by simp only [List.size_toArray];lia) (by lia) fun j h1 h2=>by
       simp only [List.size_toArray] at h1 h2
       have g1:l[j]?=some (l[j]'(by lia)):=List.getElem?_eq_getElem _
       have g2:l'[j]?=some (l'[j]'(by lia)):=List.getElem?_eq_getElem _
       obtain ⟨w1,hw1,rw1⟩:=rs.get g1
       obtain ⟨w2,hw2,rw2⟩:=rs'.get g2
       obtain ⟨u1,hu1,ru1⟩:=vl.get hw1
       obtain ⟨u2,hu2,ru2⟩:=vl'.get hw2
       have q1:its.toArray[j]=u1:=by rw [List.getElem?_eq_getElem h1] at hu1;simpa using hu1
       have q2:its'.toArray[j]=u2:=by rw [List.getElem?_eq_getElem h2] at hu2;simpa using hu2
       rw [q1,q2,List.getD_eq_getElem?_getD,List.getD_eq_getElem?_getD,g1,g2]
       exact kJ I l j _ g1 _ w1 w2 u1 u2 A.in1 n (plainDs_mem h g1) (plainDs_mem h' g2) (by show A.units + 1 + n < cLine;lia) rw1 rw2 ru1 ru2
      rw [←dg hl,show l.length=its.toArray.size by simp only [List.size_toArray];lia]
      exact .of_refs hp key
     ·rw [fX hl]
      exact .of_refs hp (RcAt.lists_lengths ip ip' (by simp only [List.size_toArray,bne_iff_ne];lia) (by lia))
  | tup l'=>obtain ⟨p',xs',ev',sq',_⟩:=aQ q;subst ev';cases ry;obtain ⟨its',_,ip',_⟩:=I.tuple sq';simp only [eqD];exact .list_tuple ip (show s.heap.IsTuple p' its'.toArray from ip') (by lia)
  | dct tk ks vs=>exact (a0 h').elim
 | .dct _ _ _,_,_,_,_,_,_,n,h,_,_,_,_,_,_=>(a0 h).elim
theorem kJ (I:Inv X pins σ H s):∀ (ds:List D) (j:Nat) (d:D),ds[j]?=some d→∀ (e:D) (x y:V) (v u:Value) (A:Around) (n:Nat),plainD n d=true→plainD n e=true→A.units + n < cLine→Rep X.K H d x→Rep X.K H e y→RelV x v→RelV y u→EqAt A s v u (eqD d e)
 | [],_,_,hj=>by simp at hj
 | d' :: ds,0,d,hj=>by
  simp at hj
  subst hj
  exact xf I d'
 | d' :: ds,j + 1,d,hj=>kJ I ds j d (by simpa using hj)
end
end
section
variable {X:Cx}
noncomputable def eqO (a b:D):Res R:=if plainD 40 a && plainD 40 b then .ok (.f,.bl (eqD a b)) else .bad
noncomputable def neO (a b:D):Res R:=if plainD 40 a && plainD 40 b then .ok (.f,.bl (!eqD a b)) else .bad
open PySem.SeqAt in
theorem za {pins:List (Addr×Obj)} {σ:L2.St} {H:Hp} {s:Shared} (I:Inv X pins σ H s) {d e:D} {x y:V} {v u:Value} {A:Around} (h:plainD 40 d=true) (h':plainD 40 e=true) (hu:A.units + 64 < cLine) (r:Rep X.K H d x) (q:Rep X.K H e y) (rx:RelV x v) (ry:RelV y u) :
  RcAt A s v u (eqD d e)∧RcNeAt A s v u (!eqD d e):=by
 cases d with
 | non=>
  cases bx r
  cases rx
  cases e with
  | non=>cases bx q;cases ry;simp only [eqD];exact ⟨.none_none,.none_none⟩
  | bl b=>cases bC q;cases ry;simp only [eqD];exact ⟨.none_bool _,.none_bool _⟩
  | int i=>cases aZ q;obtain ⟨t,rfl⟩:=ry;simp only [eqD];exact ⟨.none_int _ _,.none_int _ _⟩
  | str l=>cases (aS q).1;obtain ⟨t,rfl⟩:=ry;simp only [eqD];exact ⟨.none_str _ _,.none_str _ _⟩
  | tup l=>obtain ⟨p,xs,rfl,sq,_⟩:=aQ q;cases ry;obtain ⟨its,_,ip,_⟩:=I.tuple sq;simp only [eqD];exact ⟨.none_tuple (show s.heap.IsTuple p its.toArray from ip) (by lia),.none_tuple (show s.heap.IsTuple p its.toArray from ip) (by lia)⟩
  | lst l=>obtain ⟨p,xs,rfl,sq,_⟩:=aV q;cases ry;obtain ⟨its,_,ip,_⟩:=I.list sq;simp only [eqD];exact ⟨.none_list ip.isList (by lia),.none_list ip.isList (by lia)⟩
  | dct tk ks vs=>exact (a0 h').elim
 | bl b=>
  cases bC r
  cases rx
  cases e with
  | non=>cases bx q;cases ry;simp only [eqD];exact ⟨.bool_none _,.bool_none _⟩
  | bl b=>cases bC q;cases ry;simp only [eqD];exact ⟨.bool_bool _ _,.bool_bool _ _⟩
  | int i=>cases aZ q;obtain ⟨t,rfl⟩:=ry;simp only [eqD];exact ⟨.bool_int _ _ _,.bool_int _ _ _⟩
  | str l=>cases (aS q).1;obtain ⟨t,rfl⟩:=ry;simp only [eqD];exact ⟨.bool_str _ _ _,.bool_str _ _ _⟩
  | tup l=>obtain ⟨p,xs,rfl,sq,_⟩:=aQ q;cases ry;obtain ⟨its,_,ip,_⟩:=I.tuple sq;simp only [eqD];exact ⟨.bool_tuple _ (show s.heap.IsTuple p its.toArray from ip) (by lia),.bool_tuple _ (show s.heap.IsTuple p its.toArray from ip) (by lia)⟩
  | lst l=>obtain ⟨p,xs,rfl,sq,_⟩:=aV q;cases ry;obtain ⟨its,_,ip,_⟩:=I.list sq;simp only [eqD];exact ⟨.bool_list _ ip.isList (by lia),.bool_list _ ip.isList (by lia)⟩
  | dct tk ks vs=>exact (a0 h').elim
 | int b=>
  cases aZ r
  obtain ⟨t0,rfl⟩:=rx
  cases e with
  | non=>cases bx q;cases ry;simp only [eqD];exact ⟨.int_none _ _,.int_none _ _⟩
  | bl b=>cases bC q;cases ry;simp only [eqD];exact ⟨.int_bool _ _ _,.int_bool _ _ _⟩
  | int i=>cases aZ q;obtain ⟨t,rfl⟩:=ry;simp only [eqD];exact ⟨.int_int _ _ _ _,.int_int _ _ _ _⟩
  | str l=>cases (aS q).1;obtain ⟨t,rfl⟩:=ry;simp only [eqD];exact ⟨.int_str _ _ _ _,.int_str _ _ _ _⟩
  | tup l=>obtain ⟨p,xs,rfl,sq,_⟩:=aQ q;cases ry;obtain ⟨its,_,ip,_⟩:=I.tuple sq;simp only [eqD];exact ⟨.int_tuple _ _ (show s.heap.IsTuple p its.toArray from ip) (by lia),.int_tuple _ _ (show s.heap.IsTuple p its.toArray from ip) (by lia)⟩
  | lst l=>obtain ⟨p,xs,rfl,sq,_⟩:=aV q;cases ry;obtain ⟨its,_,ip,_⟩:=I.list sq;simp only [eqD];exact ⟨.int_list _ _ ip.isList (by lia),.int_list _ _ ip.isList (by lia)⟩
  | dct tk ks vs=>exact (a0 h').elim
 | str b=>
  have hr:=(aS r).1
  subst hr
  obtain ⟨t0,rfl⟩:=rx
  cases e with
  | non=>cases bx q;cases ry;simp only [eqD];exact ⟨.str_none _ _,.str_none _ _⟩
  | bl b=>cases bC q;cases ry;simp only [eqD];exact ⟨.str_bool _ _ _,.str_bool _ _ _⟩
  | int i=>cases aZ q;obtain ⟨t,rfl⟩:=ry;simp only [eqD];exact ⟨.str_int _ _ _ _,.str_int _ _ _ _⟩
  | str l=>
   have hq:=(aS q).1
   subst hq
   obtain ⟨t,rfl⟩:=ry
   have e1:(b == l)=(S b == S l):=by
    rw [Bool.eq_iff_iff,beq_iff_eq,beq_iff_eq]
    exact ⟨fun z=>by rw [z],tz⟩
   simp only [eqD,e1]
   exact ⟨.str_str _ _ _ _,.str_str _ _ _ _⟩
  | tup l=>obtain ⟨p,xs,rfl,sq,_⟩:=aQ q;cases ry;obtain ⟨its,_,ip,_⟩:=I.tuple sq;simp only [eqD];exact ⟨.str_tuple _ _ (show s.heap.IsTuple p its.toArray from ip) (by lia),.str_tuple _ _ (show s.heap.IsTuple p its.toArray from ip) (by lia)⟩
  | lst l=>obtain ⟨p,xs,rfl,sq,_⟩:=aV q;cases ry;obtain ⟨its,_,ip,_⟩:=I.list sq;simp only [eqD];exact ⟨.str_list _ _ ip.isList (by lia),.str_list _ _ ip.isList (by lia)⟩
  | dct tk ks vs=>exact (a0 h').elim
 | tup l=>
  obtain ⟨p,xs,ev,sq,rs⟩:=aQ r
  subst ev
  cases rx
  obtain ⟨its,vl,ip,_⟩:=I.tuple sq
  have ip:s.heap.IsTuple p its.toArray:=ip
  cases e with
  | non=>cases bx q;cases ry;simp only [eqD];exact ⟨.tuple_none ip (by lia),.tuple_none ip (by lia)⟩
  | bl b=>cases bC q;cases ry;simp only [eqD];exact ⟨.tuple_bool _ ip (by lia),.tuple_bool _ ip (by lia)⟩
  | int i=>cases aZ q;obtain ⟨t,rfl⟩:=ry;simp only [eqD];exact ⟨.tuple_int _ _ ip (by lia),.tuple_int _ _ ip (by lia)⟩
  | str l=>cases (aS q).1;obtain ⟨t,rfl⟩:=ry;simp only [eqD];exact ⟨.tuple_str _ _ ip (by lia),.tuple_str _ _ ip (by lia)⟩
  | tup l'=>
   obtain ⟨p',xs',ev',sq',rs'⟩:=aQ q
   subst ev'
   cases ry
   obtain ⟨its',vl',ip',_⟩:=I.tuple sq'
   have ip':s.heap.IsTuple p' its'.toArray:=ip'
   simp only [plainD] at h h'
   have l1:=vl.length
   have l2:=vl'.length
   have l3:=rs.length
   have l4:=rs'.length
   have el:∀ j (h1:j < its.toArray.size) (h2:j < its'.toArray.size),EqAt A.in1 s its.toArray[j] its'.toArray[j] ((fun j=>eqD (l.getD j .non) (l'.getD j .non)) j):=fun j h1 h2=>by
    simp only [List.size_toArray] at h1 h2
    have g1:l[j]?=some (l[j]'(by lia)):=List.getElem?_eq_getElem _
    have g2:l'[j]?=some (l'[j]'(by lia)):=List.getElem?_eq_getElem _
    obtain ⟨w1,hw1,rw1⟩:=rs.get g1
    obtain ⟨w2,hw2,rw2⟩:=rs'.get g2
    obtain ⟨u1,hu1,ru1⟩:=vl.get hw1
    obtain ⟨u2,hu2,ru2⟩:=vl'.get hw2
    have q1:its.toArray[j]=u1:=by rw [List.getElem?_eq_getElem h1] at hu1;simpa using hu1
    have q2:its'.toArray[j]=u2:=by rw [List.getElem?_eq_getElem h2] at hu2;simpa using hu2
    dsimp only
    rw [q1,q2,List.getD_eq_getElem?_getD,List.getD_eq_getElem?_getD,g1,g2]
    exact kJ I l j _ g1 _ w1 w2 u1 u2 A.in1 39 (plainDs_mem h g1) (plainDs_mem h' g2) (by show A.units + 1 + 39 < cLine;lia) rw1 rw2 ru1 ru2
   simp only [eqD]
   have fin:((List.range (min its.toArray.size its'.toArray.size)).all (fun j=>eqD (l.getD j .non) (l'.getD j .non)) && its.toArray.size == its'.toArray.size)=gH l l':=by
    simp only [List.size_toArray]
    by_cases hl:l.length=l'.length
    ·rw [←dg hl,show min its.length its'.length=l.length by lia,show (its.length == its'.length)=true by rw [beq_iff_eq];lia,Bool.and_true]
    ·rw [fX hl,show (its.length == its'.length)=false by rw [beq_eq_false_iff_ne];lia,Bool.and_false]
   rw [←fin]
   exact ⟨.tuples ip ip' (by lia) el,.tuples ip ip' (by lia) el⟩
  | lst l'=>obtain ⟨p',xs',ev',sq',_⟩:=aV q;subst ev';cases ry;obtain ⟨its',_,ip',_⟩:=I.list sq';simp only [eqD];exact ⟨.tuple_list ip ip'.isList (by lia),.tuple_list ip ip'.isList (by lia)⟩
  | dct tk ks vs=>exact (a0 h').elim
 | lst l=>
  obtain ⟨p,xs,ev,sq,rs⟩:=aV r
  subst ev
  cases rx
  obtain ⟨its,vl,ip,_⟩:=I.list sq
  have ip:=ip.isList
  cases e with
  | non=>cases bx q;cases ry;simp only [eqD];exact ⟨.list_none ip (by lia),.list_none ip (by lia)⟩
  | bl b=>cases bC q;cases ry;simp only [eqD];exact ⟨.list_bool _ ip (by lia),.list_bool _ ip (by lia)⟩
  | int i=>cases aZ q;obtain ⟨t,rfl⟩:=ry;simp only [eqD];exact ⟨.list_int _ _ ip (by lia),.list_int _ _ ip (by lia)⟩
  | str l=>cases (aS q).1;obtain ⟨t,rfl⟩:=ry;simp only [eqD];exact ⟨.list_str _ _ ip (by lia),.list_str _ _ ip (by lia)⟩
  | lst l'=>
   obtain ⟨p',xs',ev',sq',rs'⟩:=aV q
   subst ev'
   cases ry
   obtain ⟨its',vl',ip',_⟩:=I.list sq'
   have ip':=ip'.isList
   simp only [plainD] at h h'
   have l1:=vl.length
   have l2:=vl'.length
   have l3:=rs.length
   have l4:=rs'.length
   simp only [eqD]
   by_cases hl:l.length=l'.length
   ·have el:∀ j (h1:j < its.toArray.size) (h2:j < its'.toArray.size),EqAt A.in1 s its.toArray[j] its'.toArray[j] ((fun j=>eqD (l.getD j .non) (l'.getD j .non)) j):=fun j h1 h2=>by
     simp only [List.size_toArray] at h1 h2
     have g1:l[j]?=some (l[j]'(by lia)):=List.getElem?_eq_getElem _
     have g2:l'[j]?=some (l'[j]'(by lia)):=List.getElem?_eq_getElem _
     obtain ⟨w1,hw1,rw1⟩:=rs.get g1
     obtain ⟨w2,hw2,rw2⟩:=rs'.get g2
     obtain ⟨u1,hu1,ru1⟩:=vl.get hw1
     obtain ⟨u2,hu2,ru2⟩:=vl'.get hw2
     have q1:its.toArray[j]=u1:=by rw [List.getElem?_eq_getElem h1] at hu1;simpa using hu1
     have q2:its'.toArray[j]=u2:=by rw [List.getElem?_eq_getElem h2] at hu2;simpa using hu2
     dsimp only
     rw [q1,q2,List.getD_eq_getElem?_getD,List.getD_eq_getElem?_getD,g1,g2]
     exact kJ I l j _ g1 _ w1 w2 u1 u2 A.in1 39 (plainDs_mem h g1) (plainDs_mem h' g2) (by show A.units + 1 + 39 < cLine;lia) rw1 rw2 ru1 ru2
    rw [←dg hl,show l.length=its.toArray.size by simp only [List.size_toArray];lia]
    exact ⟨.lists ip ip' (by simp only [List.size_toArray];lia) (by lia) el,.lists ip ip' (by simp only [List.size_toArray];lia) (by lia) el⟩
   ·rw [fX hl]
    exact ⟨.lists_lengths ip ip' (by simp only [List.size_toArray,bne_iff_ne];lia) (by lia),.lists_lengths ip ip' (by simp only [List.size_toArray,bne_iff_ne];lia) (by lia)⟩
  | tup l'=>obtain ⟨p',xs',ev',sq',_⟩:=aQ q;subst ev';cases ry;obtain ⟨its',_,ip',_⟩:=I.tuple sq';simp only [eqD];exact ⟨.list_tuple ip (show s.heap.IsTuple p' its'.toArray from ip') (by lia),.list_tuple ip (show s.heap.IsTuple p' its'.toArray from ip') (by lia)⟩
  | dct tk ks vs=>exact (a0 h').elim
 | dct tk ks vs=>exact (a0 h).elim
theorem oZ (hu:X.A.units + 64 < cLine):OpR X (compareOp .Eq) (rGA X.K eqO):=by
 rintro pins s σ H x y v u Q I rx ry ⟨G,fp,es,vs,a,b,r,⟨rel,k⟩,va,vb,e⟩
 unfold eqO at e
 split at e
 ·rename_i hp
  cases e
  rw [Bool.and_eq_true] at hp
  exact (za I hp.1 hp.2 hu va vb rx ry).1 _ _ _ _ ⟨.bl _,H,I,rfl,k _ H G fp .refl (rel.push (br _))⟩
 ·cases e
noncomputable def rY (a:D) (ds:List D):Bool:=ds.any fun d=>eqD d a
noncomputable def inO (a b:D):Res R:=match b with
 | .lst ds=>if plainD 40 a && plainDs 40 ds then .ok (.f,.bl (rY a ds)) else .bad
 | .tup ds=>if plainD 40 a && plainDs 40 ds then .ok (.f,.bl (rY a ds)) else .bad
 | .str l=>match a with
  | .str [c]=>.ok (.f,.bl (decide (c∈l)))
  | _=>.bad
 | _=>.bad
noncomputable def nJ (a b:D):Res R:=(inO a b).bind fun r=>match r.2 with
 | .bl k=>.ok (.f,.bl (!k))
 | _=>.bad
open PySem.SeqAt in
theorem mm {pins:List (Addr×Obj)} {σ:L2.St} {H:Hp} {s:Shared} (I:Inv X pins σ H s) {a:D} {x:V} {v:Value} {A:Around} (h:plainD 40 a=true) (hu:A.units + 64 < cLine) (r:Rep X.K H a x) (rx:RelV x v) :
  ∀ (ds:List D) (xs:List V) (us:List Value),plainDs 40 ds=true→Reps X.K H ds xs→Vals xs us→∃ e:Value→Bool,us.any e=rY a ds∧∀ u∈us,EqAt A s u v (e u):=by
 classical
 intro ds xs us hp rs vl
 refine ⟨fun u=>decide (∃ (j:Nat) (d:D),ds[j]?=some d∧us[j]?=some u∧eqD d a=true),?_,fun u hu'=>?_⟩
 ·rw [Bool.eq_iff_iff,List.any_eq_true]
  unfold rY
  rw [List.any_eq_true]
  constructor
  ·rintro ⟨u,_,hd⟩
   obtain ⟨j,d,h1,_,h2⟩:=of_decide_eq_true hd
   exact ⟨d,List.mem_of_getElem? h1,h2⟩
  ·rintro ⟨d,hd,h2⟩
   obtain ⟨j,hj⟩:=List.mem_iff_getElem?.mp hd
   obtain ⟨w1,hw1,rw1⟩:=rs.get hj
   obtain ⟨u1,hu1,ru1⟩:=vl.get hw1
   exact ⟨u1,List.mem_of_getElem? hu1,decide_eq_true ⟨j,d,hj,hu1,h2⟩⟩
 ·obtain ⟨j,hj⟩:=List.mem_iff_getElem?.mp hu'
  have l1:=vl.length
  have l2:=rs.length
  have hjl:=(List.getElem?_eq_some_iff.mp hj).1
  have g1:ds[j]?=some (ds[j]'(by lia)):=List.getElem?_eq_getElem _
  obtain ⟨w1,hw1,rw1⟩:=rs.get g1
  obtain ⟨u1,hu1,ru1⟩:=vl.get hw1
  rw [hj] at hu1
  cases hu1
  have z:=xf I _ _ w1 x u v A 40 (plainDs_mem hp g1) h (by lia) rw1 r ru1 rx
  have e:decide (∃ (j:Nat) (d:D),ds[j]?=some d∧us[j]?=some u∧eqD d a=true)=eqD (ds[j]'(by lia)) a:=by
   rw [Bool.eq_iff_iff,decide_eq_true_eq]
   constructor
   ·rintro ⟨j2,d2,k1,k2,k3⟩
    obtain ⟨w2,hw2,rw2⟩:=rs.get k1
    obtain ⟨u2,hu2,ru2⟩:=vl.get hw2
    rw [k2] at hu2
    cases hu2
    have:=ru1.inj ru2
    subst this
    rw [jG I _ _ _ 40 (plainDs_mem hp g1) rw1 rw2]
    exact k3
   ·intro k3
    exact ⟨j,_,g1,hj,k3⟩
  show EqAt A s u v (decide (∃ (j:Nat) (d:D),ds[j]?=some d∧us[j]?=some u∧eqD d a=true))
  rw [e]
  exact z
theorem kK (l:List Nat) (c:Nat):(!(Builtin.Str.occurrences (S l) (S [c]) 0 (S l).length 1).isEmpty)=decide (c∈l):=by
 have h:=PySem.StrLaws.found_one (S l) c
 rw [b8] at h
 exact h
theorem jJ {e:Value→Bool} (us:List Value):us.toArray.any e=us.any e:=by simp
theorem zb (hu:X.A.units + 65 < cLine):OpR X (compareOp .In) (rGA X.K inO):=by
 rintro pins s σ H x y v u Q I rx ry ⟨G,fp,es,vs,a,b,r,⟨rel,k⟩,va,vb,e⟩
 unfold inO at e
 split at e
 ·rename_i ds
  split at e
  ·rename_i hp
   cases e
   rw [Bool.and_eq_true] at hp
   obtain ⟨p,xs,ev,sq,rs⟩:=aV vb
   subst ev
   cases ry
   obtain ⟨its,vl,ip,_⟩:=I.list sq
   obtain ⟨ef,e1,e2⟩:=mm (A:=X.A.in1) I hp.1 (by show X.A.units + 1 + 64 < cLine;lia) va rx ds xs its hp.2 rs vl
   refine SeqAt.in_listAt ef ip.isList (fun z hz=>e2 z (by simpa using hz)) ?_
   rw [jJ,e1]
   exact ⟨.bl _,H,I,rfl,k _ H G fp .refl (rel.push (br _))⟩
  ·cases e
 ·rename_i ds
  split at e
  ·rename_i hp
   cases e
   rw [Bool.and_eq_true] at hp
   obtain ⟨p,xs,ev,sq,rs⟩:=aQ vb
   subst ev
   cases ry
   obtain ⟨its,vl,ip,_⟩:=I.tuple sq
   obtain ⟨ef,e1,e2⟩:=mm (A:=X.A.in1) I hp.1 (by show X.A.units + 1 + 64 < cLine;lia) va rx ds xs its hp.2 rs vl
   refine SeqAt.in_tupleAt ef (show s.heap.IsTuple p its.toArray from ip) (fun z hz=>e2 z (by simpa using hz)) ?_
   rw [jJ,e1]
   exact ⟨.bl _,H,I,rfl,k _ H G fp .refl (rel.push (br _))⟩
  ·cases e
 ·rename_i l
  split at e
  ·rename_i c
   cases e
   obtain ⟨e1,h1⟩:=aS va
   obtain ⟨e2,h2⟩:=aS vb
   subst e1
   subst e2
   refine nU pins s σ H _ _ v u Q I rx ry ⟨_,_,rfl,rfl,?_⟩
   rw [kK]
   exact k _ H G fp .refl (rel.push (br _))
  ·cases e
 ·cases e
theorem xg (hu:X.A.units + 65 < cLine):OpR X (compareOp .NotIn) (rGA X.K nJ):=by
 rintro pins s σ H x y v u Q I rx ry ⟨G,fp,es,vs,a,b,r,⟨rel,k⟩,va,vb,e⟩
 unfold nJ at e
 obtain ⟨r0,e0,e⟩:=af e
 unfold inO at e0
 split at e0
 ·rename_i ds
  split at e0
  ·rename_i hp
   cases e0
   cases e
   rw [Bool.and_eq_true] at hp
   obtain ⟨p,xs,ev,sq,rs⟩:=aV vb
   subst ev
   cases ry
   obtain ⟨its,vl,ip,_⟩:=I.list sq
   obtain ⟨ef,e1,e2⟩:=mm (A:=X.A.in1) I hp.1 (by show X.A.units + 1 + 64 < cLine;lia) va rx ds xs its hp.2 rs vl
   refine SeqAt.notIn_listAt ef ip.isList (fun z hz=>e2 z (by simpa using hz)) ?_
   rw [jJ,e1]
   exact ⟨.bl _,H,I,rfl,k _ H G fp .refl (rel.push (br _))⟩
  ·cases e0
 ·rename_i ds
  split at e0
  ·rename_i hp
   cases e0
   cases e
   rw [Bool.and_eq_true] at hp
   obtain ⟨p,xs,ev,sq,rs⟩:=aQ vb
   subst ev
   cases ry
   obtain ⟨its,vl,ip,_⟩:=I.tuple sq
   obtain ⟨ef,e1,e2⟩:=mm (A:=X.A.in1) I hp.1 (by show X.A.units + 1 + 64 < cLine;lia) va rx ds xs its hp.2 rs vl
   refine SeqAt.notIn_tupleAt ef (show s.heap.IsTuple p its.toArray from ip) (fun z hz=>e2 z (by simpa using hz)) ?_
   rw [jJ,e1]
   exact ⟨.bl _,H,I,rfl,k _ H G fp .refl (rel.push (br _))⟩
  ·cases e0
 ·rename_i l
  split at e0
  ·rename_i c
   cases e0
   cases e
   obtain ⟨e1,h1⟩:=aS va
   obtain ⟨e2,h2⟩:=aS vb
   subst e1
   subst e2
   refine j5 pins s σ H _ _ v u Q I rx ry ⟨_,_,rfl,rfl,?_⟩
   rw [kK]
   exact k _ H G fp .refl (rel.push (br _))
  ·cases e0
 ·cases e0
noncomputable def isO (a b:D):Res R:=match b with
 | .bl k=>.ok (.f,.bl (match a with | .bl j=>j == k | _=>false))
 | .non=>.ok (.f,.bl (match a with | .non=>true | _=>false))
 | _=>.bad
noncomputable def o0 (a b:D):Res R:=(isO a b).bind fun r=>match r.2 with
 | .bl k=>.ok (.f,.bl (!k))
 | _=>.bad
theorem mn {K:W.Frag} {H:Hp} {a b:D} {x y:V} {v u:Value} {r:R} (va:Rep K H a x) (vb:Rep K H b y) (rx:RelV x v) (ry:RelV y u) (e:isO a b=.ok r):plainIs v u=true∧r=(.f,.bl (v == u)):=by
 unfold isO at e
 split at e
 ·rename_i k
  cases e
  cases bC vb
  cases ry
  cases a with
  | non=>cases bx va;cases rx;exact ⟨rfl,rfl⟩
  | bl j=>cases bC va;cases rx;refine ⟨rfl,?_⟩;cases j <;> cases k <;> rfl
  | int i=>cases aZ va;obtain ⟨t,rfl⟩:=rx;exact ⟨rfl,rfl⟩
  | str l=>cases (aS va).1;obtain ⟨t,rfl⟩:=rx;exact ⟨rfl,rfl⟩
  | tup l=>obtain ⟨p,xs,rfl,_⟩:=aQ va;cases rx;exact ⟨rfl,rfl⟩
  | lst l=>obtain ⟨p,xs,rfl,_⟩:=aV va;cases rx;exact ⟨rfl,rfl⟩
  | dct tk ks vs=>rw [Rep] at va;obtain ⟨p,xs,o,rfl,_⟩:=va;cases rx;exact ⟨rfl,rfl⟩
 ·cases e
  cases bx vb
  cases ry
  cases a with
  | non=>cases bx va;cases rx;exact ⟨rfl,rfl⟩
  | bl j=>cases bC va;cases rx;exact ⟨rfl,rfl⟩
  | int i=>cases aZ va;obtain ⟨t,rfl⟩:=rx;exact ⟨rfl,rfl⟩
  | str l=>cases (aS va).1;obtain ⟨t,rfl⟩:=rx;exact ⟨rfl,rfl⟩
  | tup l=>obtain ⟨p,xs,rfl,_⟩:=aQ va;cases rx;exact ⟨rfl,rfl⟩
  | lst l=>obtain ⟨p,xs,rfl,_⟩:=aV va;cases rx;exact ⟨rfl,rfl⟩
  | dct tk ks vs=>rw [Rep] at va;obtain ⟨p,xs,o,rfl,_⟩:=va;cases rx;exact ⟨rfl,rfl⟩
 ·cases e
theorem uu:OpR X (compareOp .Is) (rGA X.K isO):=by
 rintro pins s σ H x y v u Q I rx ry ⟨G,fp,es,vs,a,b,r,⟨rel,k⟩,va,vb,e⟩
 obtain ⟨h1,h2⟩:=mn va vb rx ry e
 subst h2
 exact wpAny_is_plain h1 ⟨.bl _,H,I,rfl,k _ H G fp .refl (rel.push (br _))⟩
theorem o4:OpR X (compareOp .IsNot) (rGA X.K o0):=by
 rintro pins s σ H x y v u Q I rx ry ⟨G,fp,es,vs,a,b,r,⟨rel,k⟩,va,vb,e⟩
 obtain ⟨r0,e0,e⟩:=af e
 obtain ⟨h1,h2⟩:=mn va vb rx ry e0
 subst h2
 cases e
 exact wpAny_isNot_plain h1 ⟨.bl _,H,I,rfl,k _ H G fp .refl (rel.push (br _))⟩
end
section
variable {X:Cx}
theorem rZ (hc:X.calm=true):cZ X (.builtin "max") (rC X.K maxD):=by
 rintro pins s σ H xs us Q I rx ⟨G,fp,es,vs,ds,r,⟨rel,k⟩,vd,e⟩
 unfold maxD at e
 split at e
 ·rename_i d
  split at e
  ·rename_i n ns hb
   cases e
   obtain ⟨v,ev,vt⟩:=nr vd
   obtain ⟨p,ep,sq⟩:=oY rel.gh hb vt
   subst ev
   subst ep
   exact oy hc pins s σ H _ us Q I rx ⟨p,n :: ns,rfl,sq,by simp,k _ H G fp .refl (rel.push (bv _))⟩
  ·cases e
 ·rename_i i j
  cases e
  obtain ⟨v,w',ev,v1,v2⟩:=AH vd
  subst ev
  cases aW v1
  cases aW v2
  obtain ⟨u,u',rfl,⟨t,rfl⟩,t',rfl⟩:=sU rx
  refine max_two_ints (I.ok.hd hc) fun h' tk kk=>?_
  have I2:Inv X pins σ H { s with heap:=h',toks:=tk }:=I.kept kk
  refine ⟨.int (if i < j then j else i),H,I2,?_,k _ H G fp .refl (rel.push (bv _))⟩
  by_cases hij:i < j
  ·rw [if_pos hij,if_pos (show j > i from hij)]
   exact ⟨_,rfl⟩
  ·rw [if_neg hij,if_neg (show ¬ j > i from hij)]
   exact ⟨_,rfl⟩
 ·cases e
noncomputable def zc (f g:FX):FX:=fun env=>(f env).bind fun p=>(g p.2).bind fun q=>match (lh p.1.2).bind dR,q.1.2 with
 | some ns,.int d=>.ok ((.f,.int (NX.maxD ns d)),q.2)
 | _,_=>.bad
noncomputable def AI:List D→Res R
 | [.bl b]=>.ok (.f,.int (if b then 1 else 0))
 | [.int i]=>.ok (.f,.int i)
 | _=>.bad
noncomputable def lx:D→String
 | .non=>"NoneType"
 | .bl _=>"bool"
 | .int _=>"int"
 | .str _=>"str"
 | .tup _=>"tuple"
 | .lst _=>"list"
 | .dct _ _ _=>"dict"
noncomputable def o5 (T:String) (d:D):Bool:=lx d == T || (lx d == "bool" && T == "int")
noncomputable def eIs (T:String) (f:FO):FX:=fun env=>(f env).bind fun p=>(ni p.2 p.1).bind fun d=>.ok ((.f,.bl (o5 T d)),p.2)
theorem xh (K:W.Frag) (d:D) {T:String} (hT:T = "int"∨T = "bool"∨T = "str"∨T = "list"∨T = "tuple"∨T = "dict"):PySem.W.kitOne K (.type (lx d)) (.type T)=some (o5 T d):=by
 rcases hT with rfl | rfl | rfl | rfl | rfl | rfl <;> cases d <;> (unfold PySem.W.kitOne PySem.W.kitCls PySem.W.subIn;kernel_rfl)
theorem qM:cZ X (.builtin "isinstance") (fun xs H Q=>∃ d x T,xs=[x,.ty T]∧Rep X.K H d x∧(T = "int"∨T = "bool"∨T = "str"∨T = "list"∨T = "tuple"∨T = "dict")∧Q (.bl (o5 T d)) H):=by
 intro pins s σ H xs us Q I r h
 obtain ⟨d,x,T,rfl,rd,hT,q⟩:=h
 obtain ⟨u,w',rfl,r1,r2⟩:=sU r
 cases (show w'=Value.type T from r2)
 have e:=xh X.K d hT
 have fin:∀ tk,EP X pins σ Q (.bool (o5 T d)) { s with toks:=tk }:=fun tk=>⟨.bl (o5 T d),H,I.tok tk,rfl,q⟩
 cases d with
 | non=>cases bx rd;cases (show u=Value.none from r1);exact PySem.W.kia_one PySem.W.kitx_none I.kIn True.intro e (fun z=>nomatch z) fin
 | bl y=>cases bC rd;cases (show u=Value.bool y from r1);exact PySem.W.kia_one PySem.W.kitx_bool I.kIn True.intro e (fun z=>nomatch z) fin
 | int i=>cases aZ rd;obtain ⟨t,z⟩:=(show ∃ t,u=Value.int i t from r1);cases z;exact PySem.W.kia_one PySem.W.kitx_int I.kIn True.intro e (fun z=>nomatch z) fin
 | str l=>
  have hr:=(aS rd).1
  subst hr
  obtain ⟨t,z⟩:=(show ∃ t,u=Value.str (S l) t from r1)
  cases z
  exact PySem.W.kia_one PySem.W.kitx_str I.kIn True.intro e (fun z=>nomatch z) fin
 | lst l=>
  obtain ⟨p,xs,ev,sq,_⟩:=aV rd
  subst ev
  cases (show u=Value.ref p from r1)
  obtain ⟨its,_,ip,_⟩:=I.list sq
  obtain ⟨o,ho,hc,_⟩:=ip.isList
  exact PySem.W.kia_one PySem.W.kitx_list I.kIn ⟨o,ho,hc⟩ e (fun z=>nomatch z) fin
 | tup l=>
  obtain ⟨p,xs,ev,sq,_⟩:=aQ rd
  subst ev
  cases (show u=Value.ref p from r1)
  obtain ⟨its,_,ip,_⟩:=I.tuple sq
  obtain ⟨o,ho,hc,_⟩:=ip
  exact PySem.W.kia_one PySem.W.kitx_tuple I.kIn ⟨o,ho,hc⟩ e (fun z=>nomatch z) fin
 | dct tk ks vs=>
  rw [Rep] at rd
  obtain ⟨p,xs,o,ev,hr,dd,_⟩:=rd
  subst ev
  cases (show u=Value.ref p from r1)
  have ok:=hr.ok I.hok
  cases tk with
  | true=>
   obtain ⟨kvs,eo,_⟩:=dd
   subst eo
   obtain ⟨_,_,_,_,o2,_,_,ho2,ex,_⟩:=ok
   exact PySem.W.kia_one PySem.W.kitx_dict I.kIn ⟨o2,ho2,ex.1⟩ e (fun z=>nomatch z) fin
  | false=>
   obtain ⟨kvs,eo,_⟩:=dd
   subst eo
   obtain ⟨_,_,_,_,o2,_,_,ho2,ex,_⟩:=ok
   exact PySem.W.kia_one PySem.W.kitx_dict I.kIn ⟨o2,ho2,ex.1⟩ e (fun z=>nomatch z) fin
theorem uv {T:String} {x:Str} {e:Expr} {f:FO} {p q pos:Pos} (hT:T = "int"∨T = "bool"∨T = "str"∨T = "list"∨T = "tuple"∨T = "dict") (he:QO X e f) (hg:Gl X "isinstance") (hm:X.mg "isinstance" = none) (hg2:Gl X x) (hm2:X.mg x=none) (hv2:bootBuiltins x=some (.type T)) (hn:x≠"__name__":=by decide) (hdb:(x == ("__debug__" : Str))=false:=by decide)
  (hs:starEach [e,.Name x q] X.env=(false,eval e X.env) :: starEach [.Name x q] X.env:=by rfl) (hs2:starEach [.Name x q] X.env=(false,eval (.Name x q) X.env) :: starEach [] X.env:=by rfl) (hpl:(backTo pos (starEach [.Name x q] X.env)).any (·.1)=false:=by rfl) :
  QE X (.Call (.Name "isinstance" p) [e,.Name x q] [] pos) (eIs T f):=
 bd (lR qM hg hm jp (fB he (fB (sM (v:=.ty T) hg2 hm2 hv2 rfl hn hdb) lP hs2) hs) (by decide) (by decide) hs hpl) fun σ H Q hq0=>by
  obtain ⟨G,env,fp,r,env',rel,e,k⟩:=hq0
  obtain ⟨⟨o,env1⟩,e1,e⟩:=af e
  obtain ⟨d,e2,e⟩:=af e
  cases e
  exact ⟨G,env,fp,o,_,rel,e1,fun v H1 G1 fp1 st1 rel1 ok1=>⟨d,v,T,rfl,rel1.vwA ok1 e2,hT,k _ H1 G1 fp1 st1 (rel1.push (br _))⟩⟩
noncomputable def or2 {α:Type} (f g:PV.Env→Res α):PV.Env→Res α:=fun env=>match f env with
 | .ok a=>.ok a
 | _=>g env
theorem r6 {α:Type} {f g:PV.Env→Res α} {env:PV.Env} {a:α} (h:or2 f g env=.ok a):f env=.ok a∨g env=.ok a:=by
 unfold or2 at h
 split at h
 ·rename_i b hb
  cases h
  exact .inl hb
 ·exact .inr h
theorem dS {tg e:Expr} {f g:FI} (h:QI X tg e f) (h2:QI X tg e g):QI X tg e (or2 f g):=fun pins s σ H R I hq0=>by
 obtain ⟨G,env,fp,ds,env',rel,ee,k⟩:=hq0
 rcases r6 ee with z | z
 ·exact h pins s σ H R I ⟨G,env,fp,ds,env',rel,z,k⟩
 ·exact h2 pins s σ H R I ⟨G,env,fp,ds,env',rel,z,k⟩
end
section
variable {α:Type}
noncomputable def ins (lt:α→α→Bool) (x:α):List α→List α
 | []=>[x]
 | y :: ys=>if lt y x then y :: ins lt x ys else x :: y :: ys
noncomputable def eY (lt:α→α→Bool) (l:List α):List α:=l.foldr (ins lt) []
structure Ord (lt:α→α→Bool):Prop where
 irr:∀ a,lt a a=false
 trans:∀ a b c,lt a b=true→lt b c=true→lt a c=true
 tot:∀ a b,lt a b=false→lt b a=false→a=b
theorem jK (lt:α→α→Bool) (x:α):∀ l,(ins lt x l).Perm (x :: l)
 | []=>.refl _
 | y :: ys=>by
  unfold ins
  split
  ·exact (List.Perm.cons y (jK lt x ys)).trans (List.Perm.swap x y ys)
  ·exact .refl _
theorem dh (lt:α→α→Bool):∀ l,(eY lt l).Perm l
 | []=>.refl _
 | x :: l=>(jK lt x _).trans (List.Perm.cons x (dh lt l))
theorem jc {lt:α→α→Bool} (o:Ord lt) (x:α):∀ l:List α,l.Pairwise (fun a b=>lt b a=false)→(ins lt x l).Pairwise (fun a b=>lt b a=false)
 | [],_=>by simp [ins]
 | y :: ys,h=>by
  rw [List.pairwise_cons] at h
  unfold ins
  split
  ·rename_i hy
   rw [List.pairwise_cons]
   refine ⟨fun z hz=>?_,jc o x ys h.2⟩
   rcases List.mem_cons.mp ((jK lt x ys).mem_iff.mp hz) with rfl | hz
   ·cases e:lt z y with
    | false=>rfl
    | true=>
     have:=o.trans y z y hy e
     rw [o.irr] at this
     cases this
   ·exact h.1 z hz
  ·rename_i hy
   have hy:lt y x=false:=by simpa using hy
   rw [List.pairwise_cons,List.pairwise_cons]
   refine ⟨fun z hz=>?_,h⟩
   rcases List.mem_cons.mp hz with rfl | hz2
   ·exact hy
   ·cases e:lt z x with
    | false=>rfl
    | true=>
     exfalso
     cases e2:lt x y with
     | true=>
      have:=o.trans z x y e e2
      rw [h.1 z hz2] at this
      cases this
     | false=>
      have hxy:=o.tot x y e2 hy
      rw [hxy,h.1 z hz2] at e
      cases e
theorem cQ {lt:α→α→Bool} (o:Ord lt):∀ l:List α,(eY lt l).Pairwise (fun a b=>lt b a=false)
 | []=>.nil
 | x :: l=>jc o x _ (cQ o l)
theorem kM {lt:α→α→Bool} (o:Ord lt):∀ {a b:List α},a.Perm b→a.Pairwise (fun a b=>lt b a=false)→b.Pairwise (fun a b=>lt b a=false)→a=b
 | [],_,p,_,_=>p.nil_eq
 | x :: xs,[],p,_,_=>absurd p.length_eq (by simp)
 | x :: xs,y :: ys,p,ha,hb=>by
  rw [List.pairwise_cons] at ha hb
  have hx:x∈y :: ys:=p.mem_iff.mp List.mem_cons_self
  have hy:y∈x :: xs:=p.mem_iff.mpr List.mem_cons_self
  have e:x=y:=by
   rcases List.mem_cons.mp hx with e | hx
   ·exact e
   ·rcases List.mem_cons.mp hy with e | hy
    ·exact e.symm
    ·exact o.tot x y (hb.1 x hx) (ha.1 y hy)
  subst e
  rw [kM o p.cons_inv ha.2 hb.2]
theorem fY {lt:α→α→Bool} (o:Ord lt) {l ms:List α} (p:ms.Perm l) (h:ms.Pairwise (fun a b=>lt b a=false)):ms=eY lt l:=kM o (p.trans (dh lt l).symm) h (cQ o l)
end
noncomputable def ltI (a b:Int):Bool:=decide (a < b)
noncomputable def ltS (a b:List Nat):Bool:=decide (a < b)
theorem uw:Ord ltI:=⟨fun a=>by simp [ltI],fun a b c=>by simp only [ltI,decide_eq_true_eq];lia,fun a b=>by simp only [ltI,decide_eq_false_iff_not];lia⟩
theorem ly:Ord ltS:=by
 refine ⟨fun a=>?_,fun a b c h1 h2=>?_,fun a b h1 h2=>?_⟩
 ·unfold ltS
  rw [decide_eq_false_iff_not]
  exact List.lt_irrefl a
 ·unfold ltS at *
  rw [decide_eq_true_eq] at *
  exact List.lt_trans h1 h2
 ·unfold ltS at *
  rw [decide_eq_false_iff_not] at *
  exact List.le_antisymm (List.not_lt.mp h2) (List.not_lt.mp h1)
theorem o6:Ord cu:=⟨fC,eJ,eK⟩
noncomputable def dU:List D→Option (List (List Nat))
 | []=>some []
 | .str b :: ds=>(dU ds).map (b :: ·)
 | _=>none
noncomputable def iw:D→Option Key
 | .int i=>some (.inl i)
 | .str l=>some (.inr (S l))
 | _=>none
noncomputable def cm:List D→Option (List Key)
 | []=>some []
 | d :: ds=>(iw d).bind fun k=>(cm ds).map (k :: ·)
noncomputable def dy:D→Option (List Key)
 | .tup ds=>cm ds
 | _=>none
noncomputable def iy:List D→Option (List (List Key))
 | []=>some []
 | d :: ds=>(dy d).bind fun k=>(iy ds).map (k :: ·)
noncomputable def kT (k:List Key):D:=.tup (k.map kD)
section
variable {K:W.Frag} {G:Hp}
theorem fH:∀ {ds:List D} {bs:List (List Nat)} {xs:List V},dU ds=some bs→Reps K G ds xs→xs=bs.map (fun l=>V.str (S l))∧∀ l∈bs,l.length≤sizeLine
 | [],_,_,e,r=>by
  cases e
  rw [Reps] at r
  exact ⟨r,fun _ h=>nomatch h⟩
 | d :: ds,_,_,e,r=>by
  cases d with
  | str b=>
   rw [dU,Option.map_eq_some_iff] at e
   obtain ⟨bs,e1,e2⟩:=e
   subst e2
   rw [Reps] at r
   obtain ⟨y,ys,e3,r1,r2⟩:=r
   obtain ⟨h1,h2⟩:=fH e1 r2
   obtain ⟨h3,h4⟩:=aS r1
   subst h3
   refine ⟨by rw [e3,h1];rfl,fun l hl=>?_⟩
   rcases List.mem_cons.mp hl with rfl | hl
   ·exact h4
   ·exact h2 l hl
  | _=>simp [dU] at e
theorem gB {d:D} {k:Key} {v:V} (e:iw d=some k) (r:Rep K G d v):v=kV k∧d=kD k:=by
 cases d with
 | int i=>
  cases e
  exact ⟨aZ r,rfl⟩
 | str l=>
  cases e
  refine ⟨(aS r).1,?_⟩
  show D.str l=D.str (S l).cps.toList
  rw [b8]
 | _=>cases e
theorem gI:∀ {ds:List D} {ks:List Key} {xs:List V},cm ds=some ks→Reps K G ds xs→xs=ks.map kV∧ds=ks.map kD
 | [],_,_,e,r=>by
  cases e
  rw [Reps] at r
  exact ⟨r,rfl⟩
 | d :: ds,_,_,e,r=>by
  rw [cm,Option.bind_eq_some_iff] at e
  obtain ⟨k,e1,e⟩:=e
  rw [Option.map_eq_some_iff] at e
  obtain ⟨ks,e2,e3⟩:=e
  subst e3
  rw [Reps] at r
  obtain ⟨y,ys,e4,r1,r2⟩:=r
  obtain ⟨h1,h2⟩:=gB e1 r1
  obtain ⟨h3,h4⟩:=gI e2 r2
  rw [e4,h1,h2,h3,h4]
  exact ⟨rfl,rfl⟩
theorem bz {d:D} {ks:List Key} {v:V} (e:dy d=some ks) (r:Rep K G d v):∃ p,v=.ref p∧G p=some (.tup (ks.map kV))∧d=kT ks:=by
 cases d with
 | tup ds=>
  obtain ⟨p,xs,ev,g,rs⟩:=oP r
  obtain ⟨h1,h2⟩:=gI e rs
  subst h1
  exact ⟨p,ev,g,by rw [h2];rfl⟩
 | _=>cases e
theorem iz:∀ {ds:List D} {kss:List (List Key)} {xs:List V},iy ds=some kss→Reps K G ds xs→∃ al:List (Addr×List Key),xs=al.map (fun a=>V.ref a.1)∧kss=al.map (·.2)∧ds=al.map (fun a=>kT a.2)∧∀ a∈al,G a.1=some (.tup (a.2.map kV))∧Rep K G (kT a.2) (.ref a.1)
 | [],_,_,e,r=>by
  cases e
  rw [Reps] at r
  exact ⟨[],r,rfl,rfl,fun _ h=>nomatch h⟩
 | d :: ds,_,_,e,r=>by
  rw [iy,Option.bind_eq_some_iff] at e
  obtain ⟨k,e1,e⟩:=e
  rw [Option.map_eq_some_iff] at e
  obtain ⟨ks,e2,e3⟩:=e
  subst e3
  rw [Reps] at r
  obtain ⟨y,ys,e4,r1,r2⟩:=r
  obtain ⟨p,h1,h2,h5⟩:=bz e1 r1
  obtain ⟨al,h3,h4,h6,h7⟩:=iz e2 r2
  subst h1
  refine ⟨(p,k) :: al,by rw [e4,h3];rfl,by rw [h4];rfl,by rw [h5,h6];rfl,fun a ha=>?_⟩
  rcases List.mem_cons.mp ha with rfl | ha
  ·exact ⟨h2,by rw [←h5];exact r1⟩
  ·exact h7 a ha
theorem dA {α:Type} {f:α→D} {g:α→V}:∀ {l:List α},(∀ a∈l,Rep K G (f a) (g a))→Reps K G (l.map f) (l.map g)
 | [],_=>Reps.nil
 | a :: l,h=>.cons (h a List.mem_cons_self) (dA fun b hb=>h b (List.mem_cons_of_mem _ hb))
end
noncomputable def sameKinds (k:List Key) (kss:List (List Key)):Bool:=!k.isEmpty && kss.all fun j=>kinds j == kinds k
noncomputable def lz (ds:List D):Option (List D):=match dR ds with
 | some ns=>some ((eY ltI ns).map D.int)
 | none=>match dU ds with
  | some ls=>some ((eY ltS ls).map D.str)
  | none=>match iy ds with
   | some (k :: kss)=>if sameKinds k kss then some ((eY cu (k :: kss)).map kT) else none
   | _=>none
noncomputable def iA:List D→Res R
 | [.lst ds]=>if ds.length < 64 then match lz ds with
  | some l=>.ok (.l .f,.lst l)
  | none=>.bad
  else .bad
 | [.dct true ks _]=>if ks.length < 64 then match ks,iy ks with
  | [],_=>.ok (.l .f,.lst [])
  | _,some (k :: kss)=>if sameKinds k kss then .ok (.l .f,.lst ((eY cu (k :: kss)).map kT)) else .bad
  | _,_=>.bad
  else .bad
 | _=>.bad
theorem fZ {k:List Key} {kss:List (List Key)} (h:sameKinds k kss=true):∃ top t,∀ j∈k :: kss,kinds j=top :: t:=by
 unfold sameKinds at h
 rw [Bool.and_eq_true,List.all_eq_true] at h
 cases k with
 | nil=>simp at h
 | cons a k=>
  refine ⟨a.isLeft,kinds k,fun j hj=>?_⟩
  rcases List.mem_cons.mp hj with rfl | hj
  ·rfl
  ·exact beq_iff_eq.mp (h.2 j hj)
noncomputable def gJ (H G:Hp):Hp:=fun p=>match H p with
 | some (HO.tup xs)=>some (HO.tup xs)
 | _=>G p
theorem nu {H G:Hp} {p:Addr} {xs:List V} (e:H p=some (.tup xs)):gJ H G p=some (.tup xs):=by
 unfold gJ
 rw [e]
theorem iC {H G:Hp} {p:Addr} {u:HO} (e:gJ H G p=some u):G p=some u∨(isT u=true∧H p=some u):=by
 unfold gJ at e
 split at e
 ·rename_i xs hx
  cases e
  exact .inr ⟨rfl,hx⟩
 ·exact .inl e
theorem o7 {H G:Hp} (gh:Same G H):Same G (gJ H G):=fun p u e=>by
 unfold gJ
 rw [gh p u e]
 cases u with
 | tup xs=>rfl
 | _=>exact e
theorem Rel.addT {K:W.Frag} {G H:Hp} {es:PV.Env} {vs:L2.St} {fp:List Addr} (q:Rel K G H es vs fp):∃ G',Rel K G' H es vs fp∧Step G H fp G' H fp∧∀ p xs,H p=some (.tup xs)→G' p=some (.tup xs):=by
 have gg:=o7 q.gh
 refine ⟨gJ H G,⟨q.rep.step gg fun _ _=>rfl,q.nd,fun p hp=>?_,fun p u e=>?_⟩,⟨gg,fun _ _ e _=>e,fun _ h=>.inl h,fun p u e=>(iC e).imp_right fun z=>.inr (.inr z),fun _ u e=>⟨u,e⟩⟩,fun p xs e=>nu e⟩
 ·cases e:gJ H G p with
  | none=>rfl
  | some u=>
   exfalso
   rcases iC e with z | ⟨t,z⟩
   ·rw [q.gn p hp] at z
    cases z
   ·obtain ⟨u2,h2,hm⟩:=q.rep.mut p hp
    rw [z] at h2
    cases h2
    cases u with
    | tup _=>cases hm
    | frz _ _=>cases hm
    | _=>cases t
 ·rcases iC e with z | z
  ·exact q.gh p u z
  ·exact z.2
theorem xi {K:W.Frag} {G:Hp} {k:Key} (h:qC k):Rep K G (kD k) (kV k):=by
 cases k with
 | inl i=>exact bv i
 | inr x=>
  have:=fE (K:=K) (G:=G) (l:=x.cps.toList) h
  rw [ki] at this
  exact this
theorem xj (k:Key):iw (kD k)=some k:=by
 cases k with
 | inl i=>rfl
 | inr x=>
  show some (Sum.inr (S x.cps.toList))=_
  rw [ki]
theorem iE:∀ ks:List Key,cm (ks.map kD)=some ks
 | []=>rfl
 | k :: ks=>by
  rw [List.map_cons,cm,xj,iE ks]
  rfl
theorem jd:∀ kss:List (List Key),iy (kss.map kT)=some kss
 | []=>rfl
 | k :: kss=>by
  rw [List.map_cons,iy]
  show (cm (k.map kD)).bind _=_
  rw [iE,jd kss]
  rfl
section
variable {X:Cx}
theorem nlt {α:Type} {lt:α→α→Bool} {p:α→α→Prop} (h:∀ a b,p a b→lt b a=false) {l:List α} (q:l.Pairwise p):l.Pairwise (fun a b=>lt b a=false):=q.imp (h _ _)
theorem o8 (hc:X.calm=true):cZ X (.builtin "sorted") (rC X.K iA):=by
 rintro pins s σ H xs us Q I rx ⟨G,fp,es,vs,ds,r,⟨rel,k⟩,vd,e⟩
 unfold iA at e
 split at e
 ·rename_i ds
  split at e
  ·rename_i h64
   split at e
   ·rename_i l hl
    cases e
    obtain ⟨v,ev,p,ys,ep,sq,rs⟩:=nr vd
    subst ev
    subst ep
    unfold lz at hl
    split at hl
    ·rename_i ns hns
     cases hl
     have hy:=fG hns rs
     subst hy
     have hlen:ns.length < 64:=by have:=rs.length;rw [List.length_map] at this;lia
     refine gU hc pins s σ H _ us Q I rx ⟨p,ns,rfl,sq,hlen,fun q ms hq pm sm=>?_⟩
     have em:=fY uw pm (nlt (fun a b h=>by unfold ltI;rw [decide_eq_false_iff_not];lia) sm)
     subst em
     obtain ⟨rel2,st2⟩:=rel.newL hq (dA (K:=X.K) (G:=G) (f:=D.int) (g:=V.int) fun a _=>bv a)
     exact k _ _ G _ st2 rel2
    ·split at hl
     ·rename_i ls hls
      cases hl
      obtain ⟨hy,hz⟩:=fH hls rs
      subst hy
      have hlen:ls.length < 64:=by have:=rs.length;rw [List.length_map] at this;lia
      refine gW hc pins s σ H _ us Q I rx ⟨p,ls,rfl,sq,hlen,fun q ms hq pm sm=>?_⟩
      have em:=fY ly pm (nlt (fun a b h=>by unfold ltS;rw [decide_eq_false_iff_not];exact h) sm)
      obtain ⟨rel2,st2⟩:=rel.newL hq (dA (K:=X.K) (G:=G) (f:=D.str) (g:=fun l=>V.str (S l)) (l:=ms) fun a ha=>fE (hz a (pm.mem_iff.mp ha)))
      rw [←em] at k
      exact k _ _ G _ st2 rel2
     ·split at hl
      ·rename_i kk kss hk
       split at hl
       ·rename_i hsk
        cases hl
        obtain ⟨al,h1,h2,h3,h4⟩:=iz hk rs
        obtain ⟨top,t,hkinds⟩:=fZ hsk
        subst h1
        have hlen:al.length < 64:=by have:=rs.length;rw [List.length_map] at this;lia
        refine gX hc pins s σ H _ us Q I rx ⟨p,al,top,t,rfl,sq,fun a ha=>⟨SqT.of (rel.gh _ _ (h4 a ha).1),hkinds a.2 (by rw [h2];exact List.mem_map.mpr ⟨a,ha,rfl⟩)⟩,hlen,fun q ms hq pm sm=>?_⟩
        have em:ms.map (·.2)=eY cu (kk :: kss):=by
         rw [h2]
         refine fY o6 (pm.map _) ?_
         rw [List.pairwise_map]
         exact sm
        obtain ⟨rel2,st2⟩:=rel.newL hq (dA (K:=X.K) (G:=G) (f:=fun a:Addr×List Key=>kT a.2) (g:=fun a=>V.ref a.1) (l:=ms) fun a ha=>(h4 a (pm.mem_iff.mp ha)).2)
        have ek:ms.map (fun a=>kT a.2)=(eY cu (kk :: kss)).map kT:=by rw [←em,List.map_map];rfl
        rw [ek] at rel2
        exact k _ _ G _ st2 rel2
       ·cases hl
      ·cases hl
   ·cases e
  ·cases e
 ·rename_i ks vv
  split at e
  ·rename_i h64
   obtain ⟨v,ev,vt⟩:=nr vd
   obtain ⟨p,ys,o,ep,rd,dd,rs⟩:=vt
   subst ev
   subst ep
   obtain ⟨kvs,eo,ek,ex,hfit⟩:=dd
   subst eo
   have ek:ks=(kvs.map (·.1)).map kT:=by rw [ek,List.map_map];rfl
   have hlen:kvs.length < 64:=by rw [ek,List.length_map,List.length_map] at h64;exact h64
   have go:∀ (top:Bool) (t:List Bool),(∀ kv∈kvs,kinds kv.1=top :: t)→r=(.l .f,.lst ((eY cu (kvs.map (·.1))).map kT))→wpAny (model X.prog X.w) X.A (call (.builtin "sorted") us) (EP X pins σ Q) X.xe s:=fun top t hkinds er=>by
    subst er
    refine iU hc pins s σ H _ us Q I rx ⟨p,kvs,top,t,rfl,rd,hkinds,hlen,fun q ms hq hm pm sm=>?_⟩
    have em:ms.map (·.2)=eY cu (kvs.map (·.1)):=by
     refine fY o6 pm ?_
     rw [List.pairwise_map]
     exact sm
    obtain ⟨G2,rel2,st2,ht⟩:=rel.addT
    have hrep:∀ a∈ms,Rep X.K G2 (kT a.2) (.ref a.1):=fun a ha=>by
     unfold kT
     rw [Rep]
     refine ⟨a.1,_,rfl,ht _ _ (hm a ha),?_⟩
     refine dA (f:=kD) (g:=kV) fun key hkey=>xi ?_
     have:a.2∈kvs.map (·.1):=pm.mem_iff.mp (List.mem_map.mpr ⟨a,ha,rfl⟩)
     obtain ⟨kv,hkv,e2⟩:=List.mem_map.mp this
     exact hfit kv hkv key (by rw [e2];exact hkey)
    obtain ⟨rel3,st3⟩:=rel2.newL hq (dA (K:=X.K) (G:=G2) (f:=fun a:Addr×List Key=>kT a.2) (g:=fun a=>V.ref a.1) (l:=ms) hrep)
    have ek:ms.map (fun a=>kT a.2)=(eY cu (kvs.map (·.1))).map kT:=by rw [←em,List.map_map];rfl
    rw [ek] at rel3
    exact k _ _ G2 _ (st2.trans st3) rel3
   rw [ek,jd] at e
   split at e
   ·rename_i hnil
    cases e
    have:kvs=[]:=by
     cases kvs with
     | nil=>rfl
     | cons a b=>cases hnil
    subst this
    exact go true [] (fun _ h=>nomatch h) rfl
   ·rename_i kk kss heq hne
    split at e
    ·rename_i hsk
     cases e
     obtain ⟨top,t,hkinds⟩:=fZ hsk
     have heq:kvs.map (·.1)=kk :: kss:=by
      injection heq
     refine go top t (fun kv hkv=>hkinds kv.1 ?_) (by rw [heq])
     rw [←heq]
     exact List.mem_map.mpr ⟨kv,hkv,rfl⟩
    ·cases e
   ·cases e
  ·cases e
 ·cases e
noncomputable def ltO (a b:D):Res R:=match dy a,dy b with
 | some ks,some js=>if kinds ks == kinds js then .ok (.f,.bl (cu ks js)) else .bad
 | _,_=>ltD a b
noncomputable def geO (a b:D):Res R:=match dy a,dy b with
 | some ks,some js=>if kinds ks == kinds js then .ok (.f,.bl (!cu ks js)) else .bad
 | _,_=>match a,b with
  | .str a,.str b=>.ok (.f,.bl (!decide (a < b)))
  | a,b=>geD a b
theorem mq (hu:X.A.units < cLine):OpR X (compareOp .Lt) (rG X.K ltO):=by
 rintro pins s σ H x y v u Q I rx ry ⟨G,fp,es,vs,a,b,r,⟨rel,k⟩,va,vb,e⟩
 unfold ltO at e
 split at e
 ·rename_i ks js h1 h2
  split at e
  ·rename_i hk
   cases e
   have ra:Rep X.K G a x:=by cases a <;> first | exact va | cases h1
   have rb:Rep X.K G b y:=by cases b <;> first | exact vb | cases h2
   obtain ⟨p,e1,g1,_⟩:=bz h1 ra
   obtain ⟨p2,e2,g2,_⟩:=bz h2 rb
   subst e1
   subst e2
   exact wP hu pins s σ H _ _ v u Q I rx ry ⟨p,p2,ks,js,rfl,rfl,SqT.of (rel.gh _ _ g1),SqT.of (rel.gh _ _ g2),beq_iff_eq.mp hk,k _ H G fp .refl (rel.push (br _))⟩
  ·cases e
 ·exact y6 pins s σ H x y v u Q I rx ry ⟨G,fp,es,vs,a,b,r,⟨rel,k⟩,va,vb,e⟩
theorem r9 (hu:X.A.units < cLine):OpR X (compareOp .GtE) (rG X.K geO):=by
 rintro pins s σ H x y v u Q I rx ry ⟨G,fp,es,vs,a,b,r,⟨rel,k⟩,va,vb,e⟩
 unfold geO at e
 split at e
 ·rename_i ks js h1 h2
  split at e
  ·rename_i hk
   cases e
   have ra:Rep X.K G a x:=by cases a <;> first | exact va | cases h1
   have rb:Rep X.K G b y:=by cases b <;> first | exact vb | cases h2
   obtain ⟨p,e1,g1,_⟩:=bz h1 ra
   obtain ⟨p2,e2,g2,_⟩:=bz h2 rb
   subst e1
   subst e2
   exact wQ hu pins s σ H _ _ v u Q I rx ry ⟨p,p2,ks,js,rfl,rfl,SqT.of (rel.gh _ _ g1),SqT.of (rel.gh _ _ g2),beq_iff_eq.mp hk,k _ H G fp .refl (rel.push (br _))⟩
  ·cases e
 ·split at e
  ·rename_i l l'
   cases e
   obtain ⟨e1,h1⟩:=cO va
   obtain ⟨e2,h2⟩:=cO vb
   subst e1
   subst e2
   obtain ⟨t,rfl⟩:=rx
   obtain ⟨t',rfl⟩:=ry
   refine PySem.P.ge_str ?_
   rw [b8,b8]
   exact ⟨.bl _,H,I,rfl,k _ H G fp .refl (rel.push (br _))⟩
  ·exact y7 pins s σ H x y v u Q I rx ry ⟨G,fp,es,vs,_,_,r,⟨rel,k⟩,va,vb,e⟩
end
noncomputable def eNewD (tk:Bool):FX:=fun env=>.ok ((.d,.dct tk [] []),env)
section
variable {md:Mode} {X:Cx}
noncomputable def nv (ks vs:List D) (k v:D):List D×List D:=if ks.any (eqD k) then (ks,(ks.zip vs).map fun p=>if eqD k p.1 then v else p.2) else (ks++[k],vs++[v])
noncomputable def cM (tk:Bool) (k:D):Bool:=if tk then (dy k).isSome else (iw k).isSome
noncomputable def yu (i:Nat) (fk fv:FX):FS:=fun env=>(fv env).bind fun p=>(fk p.2).bind fun q=>match p.2[i]?,q.2[i]? with
 | some (some _),some (some (.d,.dct tk ks vs))=>if cM tk q.1.2 && decide (ks.length < sizeLine) then .ok (.nx (q.2.set i (some (.d,.dct tk (nv ks vs q.1.2 p.1.2).1 (nv ks vs q.1.2 p.1.2).2)))) else .bad
 | _,_=>.bad
theorem o9 (a b:Key):eqD (kD a) (kD b)=decide (a=b):=by
 cases a with
 | inl i=>
  cases b with
  | inl j=>simp only [kD,eqD];rw [Bool.eq_iff_iff];simp
  | inr y=>simp only [kD,eqD];simp
 | inr x=>
  cases b with
  | inl j=>simp only [kD,eqD];simp
  | inr y=>
   simp only [kD,eqD]
   rw [Bool.eq_iff_iff]
   simp only [beq_iff_eq,decide_eq_true_eq,Sum.inr.injEq]
   exact ⟨fun h=>by rw [←ki x,←ki y,h],fun h=>by rw [h]⟩
theorem pb:∀ a b:List Key,gH (a.map kD) (b.map kD)=decide (a=b)
 | [],[]=>by simp [gH]
 | [],_ :: _=>by simp [gH]
 | _ :: _,[]=>by simp [gH]
 | a :: r,b :: t=>by
  rw [List.map_cons,List.map_cons,gH,o9,pb r t,Bool.eq_iff_iff]
  simp
theorem sa (a b:List Key):eqD (kT a) (kT b)=decide (a=b):=by
 unfold kT
 rw [eqD]
 exact pb a b
theorem kN {κ:Type} [DecidableEq κ] {K:W.Frag} {G:Hp} (f:κ→D) (hf:∀ a b,eqD (f a) (f b)=decide (a=b)) {kvs:List (κ×V)} {vs:List D} {k:κ} {v:D} {y:V} (r:Reps K G vs (kvs.map (·.2))) (ry:Rep K G v y) :
  (iT kvs k y).map (fun kv=>f kv.1)=(nv (kvs.map fun kv=>f kv.1) vs (f k) v).1∧Reps K G (nv (kvs.map fun kv=>f kv.1) vs (f k) v).2 ((iT kvs k y).map (·.2)):=by
 have e:(kvs.map fun kv=>f kv.1).any (eqD (f k))=kvs.any fun kv=>decide (kv.1=k):=by
  rw [List.any_map]
  congr 1
  funext kv
  show eqD (f k) (f kv.1)=_
  rw [hf,Bool.eq_iff_iff]
  simp only [decide_eq_true_eq]
  exact ⟨fun z=>z.symm,fun z=>z.symm⟩
 unfold nv iT
 rw [e]
 split
 ·refine ⟨?_,?_⟩
  ·rw [List.map_map]
   refine List.map_congr_left fun kv _=>?_
   show f (if kv.1=k then (kv.1,y) else kv).1=f kv.1
   split <;> rfl
  ·rename_i hany
   clear e hany
   induction kvs generalizing vs with
   | nil=>
    have:vs=[]:=List.eq_nil_of_length_eq_zero (by rw [←r.length];rfl)
    subst this
    exact Reps.nil
   | cons kv kvs ih=>
    cases vs with
    | nil=>have:=r.length;simp at this
    | cons d vs=>
     rw [List.map_cons,Reps.cons_iff] at r
     rw [List.map_cons,List.zip_cons_cons,List.map_cons,List.map_cons,List.map_cons]
     refine .cons ?_ (ih r.2)
     show Rep K G (if eqD (f k) (f kv.1)=true then v else d) (if kv.1=k then (kv.1,y) else kv).2
     rw [hf]
     by_cases hk:kv.1=k
     ·rw [if_pos (by simp [hk]),if_pos hk]
      exact ry
     ·rw [if_neg (by simp;exact fun z=>hk z.symm),if_neg hk]
      exact r.1
 ·refine ⟨?_,?_⟩
  ·rw [List.map_append]
   rfl
  ·rw [List.map_append]
   exact r.app (.one ry)
theorem Rel.chgD {K:W.Frag} {G H:Hp} {es:PV.Env} {vs:L2.St} {fp:List Addr} {i:Nat} {tk:Bool} {ks ws:List D} (q:Rel K G H es vs fp) (e:es[i]?=some (some (.d,.dct tk ks ws))):∃ p xs u,vs[i]?=some (some (.ref p))∧H p=some u∧DictO u tk ks xs∧Reps K G ws xs∧
  ∀ u' ks' xs' ws',DictO u' tk ks' xs'→Reps K G ws' xs'→∃ fq,Rel K G (upd H p u') (es.set i (some (.d,.dct tk ks' ws'))) vs fq∧Step G H fp G (upd H p u') fq:=by
 obtain ⟨v,fq,ev,g,st,st'⟩:=q.out e
 obtain ⟨y,ys,e0,v',a,b,e1,e2,r1,r2⟩:=g.rep
 cases e0
 cases e1
 rw [RepO] at r1
 obtain ⟨p,xs,u,e3,hp,dd,e4,rs⟩:=r1
 subst e3
 subst e4
 subst e2
 have nd:=List.nodup_cons.mp (show (p :: b).Nodup from g.nd)
 refine ⟨p,xs,u,ev,hp,dd,rs,fun u' ks' xs' ws' dd' rs'=>?_⟩
 have g2:Rel K G (upd H p u') (some (.d,.dct tk ks' ws') :: es.set i none) (some (.ref p) :: vs) (p :: b):=by
  refine ⟨⟨some (.ref p),vs,rfl,.ref p,[p],b,rfl,rfl,?_,r2.step (.refl _) fun z hz=>aA fun e=>nd.1 (e▸hz)⟩,g.nd,g.gn,fun z o ez=>?_⟩
  ·rw [RepO]
   exact ⟨p,xs',u',rfl,aY,dd',rfl,rs'⟩
  ·have:z≠p:=fun w=>by
    subst w
    rw [g.gn z List.mem_cons_self] at ez;cases ez
   rw [aA this]
   exact g.gh z o ez
 have stc:Step G H (p :: b) G (upd H p u') (p :: b):=by
  refine ⟨.refl _,fun z o ez nz=>?_,fun z hz=>.inl hz,fun z o ez=>.inl ez,fun z o ez=>?_⟩
  ·have:z≠p:=fun w=>nz (by rw [w];exact List.mem_cons_self)
   rw [aA this]
   exact ez
  ·by_cases w:z=p
   ·subst w
    exact ⟨_,aY⟩
   ·exact ⟨o,by rw [aA w];exact ez⟩
 obtain ⟨fz,g3,st3⟩:=g2.back (i:=i) (by rw [List.length_set];exact (List.getElem?_eq_some_iff.mp e).1) ev
 rw [List.set_set] at g3
 exact ⟨fz,g3,st.trans (stc.trans st3)⟩
theorem sd {K:W.Frag} {G:Hp} {d:D} {k:Key} {v:V} (e:iw d=some k) (r:Rep K G d v):qC k:=by
 cases d with
 | int i=>cases e;trivial
 | str l=>
  cases e
  show (S l).cps.toList.length≤sizeLine
  rw [b8]
  exact (aS r).2
 | _=>cases e
theorem lA {K:W.Frag} {G:Hp}:∀ {ds:List D} {ks:List Key} {xs:List V},cm ds=some ks→Reps K G ds xs→∀ k∈ks,qC k
 | [],_,_,e,_=>by
  cases e
  exact fun _ h=>nomatch h
 | d :: ds,_,_,e,r=>by
  rw [cm,Option.bind_eq_some_iff] at e
  obtain ⟨k,e1,e⟩:=e
  rw [Option.map_eq_some_iff] at e
  obtain ⟨ks,e2,e3⟩:=e
  subst e3
  rw [Reps] at r
  obtain ⟨y,ys,e4,r1,r2⟩:=r
  intro z hz
  rcases List.mem_cons.mp hz with rfl | hz
  ·exact sd e1 r1
  ·exact lA e2 r2 z hz
theorem mr {κ:Type} [DecidableEq κ] {P:κ→Prop} {kvs:List (κ×V)} {k:κ} {y:V} (h:∀ kv∈kvs,P kv.1) (hk:P k):∀ kv∈iT kvs k y,P kv.1:=by
 intro kv hkv
 unfold iT at hkv
 split at hkv
 ·obtain ⟨z,hz,e⟩:=List.mem_map.mp hkv
  rw [←e]
  split
  ·exact h z hz
  ·exact h z hz
 ·rcases List.mem_append.mp hkv with hkv | hkv
  ·exact h kv hkv
  ·rw [List.mem_singleton] at hkv
   rw [hkv]
   exact hk
theorem xk {i:Nat} {o ix value:Expr} {fk fv:FX} {pos pos':Pos} (hu:X.A.units + 1 < cLine) (ho:PE X o (p3 i)) (hi:QE X ix fk) (hv:QE X value fv) (hs:swapsWith value (some (.Subscript o ix pos')) pos.line X.env=pure false:=by rfl) :
  QS (md:=md) X (.Assign [.Subscript o ix pos'] value pos) (yu i fk fv):=dI (tY hu ho hi hv hs) fun Dd σ H hq0=>by
 obtain ⟨G,env,fp,rel,k⟩:=hq0
 unfold yu at k
 match q1:fv env,k with
 | .ok (r1,env1),k=>
  have k:OutOk X.K G H fp Dd ((fk env1).bind fun q=>match env1[i]?,q.2[i]? with
   | some (some _),some (some (.d,.dct tk ks vs))=>if cM tk q.1.2 && decide (ks.length < sizeLine) then .ok (.nx (q.2.set i (some (.d,.dct tk (nv ks vs q.1.2 r1.2).1 (nv ks vs q.1.2 r1.2).2)))) else .bad
   | _,_=>.bad):=k
  match q2:fk env1,k with
  | .ok (r2,env2),k=>
   have k:OutOk X.K G H fp Dd (match env1[i]?,env2[i]? with
    | some (some _),some (some (.d,.dct tk ks vs))=>if cM tk r2.2 && decide (ks.length < sizeLine) then .ok (.nx (env2.set i (some (.d,.dct tk (nv ks vs r2.2 r1.2).1 (nv ks vs r2.2 r1.2).2)))) else .bad
    | _,_=>.bad):=k
   split at k
   ·rename_i rr tk ks ws h1 h2
    split at k
    ·rename_i hc
     rw [Bool.and_eq_true,decide_eq_true_eq] at hc
     refine ⟨G,env,fp,r1,env1,rel,q1,fun y H1 G1 fp1 st1 rel1=>?_⟩
     obtain ⟨G2,b,ry,rel2,st2⟩:=rel1.freeze
     obtain ⟨v0,ev0,_⟩:=rel2.view h1
     refine ⟨v0,ev0,G2,env1,b,r2,env2,rel2,q2,fun z H3 G3 fp3 st3 rel3=>?_⟩
     obtain ⟨G4,b4,rz,rel4,st4⟩:=rel3.freeze
     obtain ⟨p,xs,u,ep,hp,dd,rs,cg⟩:=rel4.chgD h2
     rw [ev0] at ep
     cases ep
     have ry':Rep X.K G4 r1.2 y:=Rep.mono (st3.gg.trans st4.gg) ry
     cases tk with
     | true=>
      obtain ⟨kvs,eu,ek,ex,hfit⟩:=dd
      subst eu
      subst ex
      have hk:=hc.1
      unfold cM at hk
      rw [if_pos rfl,Option.isSome_iff_exists] at hk
      obtain ⟨kk,hk⟩:=hk
      obtain ⟨pz,ez,gz,dz⟩:=bz hk rz
      subst ez
      obtain ⟨t1,t2⟩:=kN (K:=X.K) (G:=G4) kT sa (k:=kk) rs ry'
      have ek:ks=kvs.map fun kv=>kT kv.1:=ek
      rw [←ek,←dz] at t1 t2
      have hfk:∀ key∈kk,qC key:=by
       cases hd:r2.2 with
       | tup ds=>
        rw [hd] at hk rz
        obtain ⟨_,xs',_,_,rs'⟩:=oP rz
        exact lA hk rs'
       | _=>rw [hd] at hk;cases hk
      obtain ⟨fq,rel5,st5⟩:=cg (.dT (iT kvs kk y)) _ _ _ ⟨iT kvs kk y,rfl,t1.symm,rfl,mr (P:=fun ks=>∀ k∈ks,qC k) hfit hfk⟩ t2
      have hlen:kvs.length < sizeLine:=by have:=hc.2;rw [ek,List.length_map] at this;exact this
      exact ⟨p,_,rfl,DPut.t hp (rel4.gh _ _ gz) hlen,k _ _ G4 fq (st1.trans (st2.trans (st3.trans (st4.trans st5)))) rel5⟩
     | false=>
      obtain ⟨kvs,eu,ek,ex,hfit⟩:=dd
      subst eu
      subst ex
      have hk:=hc.1
      unfold cM at hk
      rw [if_neg Bool.false_ne_true,Option.isSome_iff_exists] at hk
      obtain ⟨kk,hk⟩:=hk
      obtain ⟨ez,dz⟩:=gB hk rz
      subst ez
      obtain ⟨t1,t2⟩:=kN (K:=X.K) (G:=G4) kD o9 (k:=kk) rs ry'
      rw [←ek,←dz] at t1 t2
      obtain ⟨fq,rel5,st5⟩:=cg (.dK (iT kvs kk y)) _ _ _ ⟨iT kvs kk y,rfl,t1.symm,rfl,mr (P:=qC) hfit (sd hk rz)⟩ t2
      have hlen:kvs.length < sizeLine:=by have:=hc.2;rw [ek,List.length_map] at this;exact this
      exact ⟨p,_,rfl,DPut.k hp hlen,k _ _ G4 fq (st1.trans (st2.trans (st3.trans (st4.trans st5)))) rel5⟩
    ·exact k.elim
   ·exact k.elim
end
end PV
namespace NX
open PySem PySem.Spec PyProof.Rows L2
section
variable {prog:Program} {w:World} {A:Around} {E:Value→Shared→Prop} {s:Shared} {d:Addr} {es:Array DictEntry} {ep:Nat}
theorem jL (nm:(d == sysModules)=false):MeetsIn prog w (Builtin.«dict.__len__» ⟨[.ref d],[]⟩) (fun _ R s=>RawD s.heap d es ep∧R (.ok (.ret (.int es.size s.toks))) { s with toks:=s.toks + 1 }):=
 .of_wp fun A R s hq0=>by
  obtain ⟨⟨o,g,_,dat⟩,h⟩:=hq0
  show wpAny _ _ (dictSize d >>= fun _=>_) _ _ s
  unfold dictSize
  refine wpAny_bind (wpAny_bind (wpAny_dictEntries g dat (wpAny_pure ?_)))
  show wpAny _ _ (Builtin.Dict.pendingCount d >>= fun _=>_) _ _ s
  refine wpAny_bind (wpAny_pendingCount_other nm (wpAny_ret_mkInt ?_))
  rw [Nat.add_zero]
  exact h
theorem ux {Q:Value→Shared→Prop} (nm:(d == sysModules)=false) (x:RawD s.heap d es ep) (hf:(es.size:Int) < 2 ^ 63) (h:Q (.int es.size (s.toks + 1)) { s with toks:=s.toks + 1 + 1 }):wpAny (model prog w) A (call (.builtin "len") [.ref d]) Q E s:=by
 have ty:=hU x
 refine Calls.call_function_entry kind_len plain_len entry_len (args_len1 _) ?_
 unfold Builtin.«len»
 refine wpAny_bind (m:=oneArg "len" _) (wpAny_pure (wpAny_bind (m:=callSpecial? (.ref d) (Str.ofString "__len__")) (wpAny_callSpecial?_slot (name:=Str.ofString "__len__") ty F.slot_dict_len
  (call_meetsIn F.slot_dict_len ty F.entry_dict_len (F.args_dict_len_1 _) (jL (es:=es) (ep:=ep) nm) ⟨x,?_⟩))))
 show wpAny _ _ _ _ _ { s with toks:=s.toks + 1 }
 refine wpAny_bind (wpAny_holding (wpAny_pure (wpAny_bind (wpAny_letGo ?_))))
 show wpAny _ _ (if ((es.size:Nat):Int) < 0 then _ else _) _ _ _
 rw [if_neg (Int.not_lt.mpr (Int.natCast_nonneg _))]
 show wpAny _ _ (if ((es.size:Nat):Int) ≥ 2 ^ 63 then _ else _) _ _ _
 rw [if_neg (Int.not_le.mpr hf)]
 exact wpAny_bind (wpAny_mkInt (wpAny_pure ⟨_,rfl,h⟩))
end
end NX
namespace PV
open PySem PySem.Spec PyProof.Rows L2 NX
section
variable {X:Cx}
noncomputable def jZ:List D→Res R
 | [.dct _ ks _]=>.ok (.f,.int ks.length)
 | ds=>y9 ds
theorem xl {pins:List (Addr×Obj)} {σ:L2.St} {H:Hp} {s:Shared} (I:Inv X pins σ H s) {p:Addr} {o:HO} {tk:Bool} {ks:List D} {xs:List V} (rd:Rd H p o) (dd:DictO o tk ks xs):(p == sysModules)=false∧∃ es ep,RawD s.heap p es ep∧es.size=ks.length∧ks.length≤sizeLine:=by
 have ok:=rd.ok I.hok
 cases tk with
 | true=>
  obtain ⟨kvs,eo,ek,_⟩:=dd
  subst eo
  obtain ⟨z,nm,ws,r,o2,es,ep,h1,h2,h3,h4,_⟩:=ok
  refine ⟨nm,es,ep,⟨o2,h1,h2,h3⟩,?_,by rw [ek,List.length_map];exact z⟩
  have:=congrArg List.length h4
  rw [List.length_map,Array.length_toList,←Paired.length r] at this
  rw [ek,List.length_map]
  exact this
 | false=>
  obtain ⟨kvs,eo,ek,_⟩:=dd
  subst eo
  obtain ⟨z,nm,ws,r,o2,es,ep,h1,h2,h3,h4,h5,_⟩:=ok
  refine ⟨nm,es,ep,⟨o2,h1,h2,h3⟩,?_,by rw [ek,List.length_map];exact z⟩
  have l1:=h5.length
  have l2:kvs.length=ws.length:=Paired.length r
  rw [ek,List.length_map]
  rw [Array.length_toList] at l1
  lia
theorem cU:cZ X (.builtin "len") (rC X.K jZ):=by
 rintro pins s σ H xs us Q I rx ⟨G,fp,es,vs,ds,r,⟨rel,k⟩,vd,e⟩
 unfold jZ at e
 split at e
 ·rename_i tk ks ws
  cases e
  obtain ⟨v,ev,p,ys,o,ep,rd,dd,_⟩:=nr vd
  subst ev
  subst ep
  obtain ⟨u,rfl,ru⟩:=gS rx
  cases ru
  obtain ⟨nm,en,ep,raw,h1,h2⟩:=xl I rd dd
  refine ux nm raw (by rw [h1];rw [sizeLine_eq] at h2;lia) ?_
  refine ⟨.int ks.length,H,I.tok _,⟨_,by rw [h1]⟩,k _ H G fp .refl (rel.push (bv _))⟩
 ·exact xb pins s σ H xs us Q I rx ⟨G,fp,es,vs,_,r,⟨rel,k⟩,vd,e⟩
noncomputable def ze (g:List Nat→List D→Res R) (fa:FO) (fs:FOs):FX:=fun env=>(fa env).bind fun p=>match der p.2 p.1 with
 | .ok (.str l)=>(fs p.2).bind fun q=>(lg q.2 q.1).bind fun ds=>(g l ds).bind fun r=>.ok (r,q.2)
 | _=>.bad
inductive rMtS (K:W.Frag) (g:List Nat→List D→Res R) (x:V) (xs:List V) (H:Hp) (Q:VK):Prop
 | mk:∀ G fp es vs l ds r,Goes K H G fp es vs r Q→x=.str (S l)→l.length≤sizeLine→Vws K G H ds xs→g l ds=.ok r→rMtS K g x xs H Q
theorem xm {g:List Nat→List D→Res R} {id:String} {name:Str} {o e:Expr} {es:List Expr} {fa:FO} {fs:FOs} {apos cpos:Pos} (slot:Slot "str" name id) (hty:typeOf (.builtin id)=pure (.type "method_descriptor")) (hm:MtR X id (rMtS X.K g)) (ho:QO X o fa) (ha:QOs X (e :: es) fs)
  (hbase:attributeBase o name X.env (eval o X.env)=eval o X.env:=by rfl)
  (hfew:((backTo cpos (starEach (e :: es) X.env)).all (fun x=>!x.1) && (backToKw cpos (keywordEach [] X.env)).all (fun x=>x.1.isSome) && decide ((e :: es).length + ([]:List Keyword).length + (if ([]:List Keyword).isEmpty then 0 else 1) < 30))=true:=by rfl)
  (hline:(apos.endLine == cpos.line)=true:=by rfl) (hs:starEach (e :: es) X.env=(false,eval e X.env) :: starEach es X.env:=by rfl) (hplain:(backTo cpos (starEach es X.env)).any (·.1)=false:=by rfl) :
  QE X (.Call (.Attribute o name apos) (e :: es) [] cpos) (ze g fa fs):=by
 refine bd (wB PySem.F.plainAttrs_str slot hty hm ho ha hbase hfew hline hs hplain) fun σ H Q hqq=>?_
 obtain ⟨G,env,fp,r,env',rel,e,k⟩:=hqq
 obtain ⟨⟨oa,env1⟩,e1,e⟩:=af e
 dsimp only at e
 split at e
 ·rename_i l hl
  obtain ⟨⟨os,env2⟩,e2,e⟩:=af e
  obtain ⟨ds,e3,e⟩:=af e
  obtain ⟨r',e4,e⟩:=af e
  cases e
  refine ⟨G,env,fp,oa,env1,rel,e1,fun v H1 G1 fp1 st1 rel1 ok1=>?_⟩
  obtain ⟨ev,hz⟩:=cO (rel1.vw ok1 hl)
  subst ev
  exact ⟨rfl,G1,env1,fp1,os,env2,rel1,e2,fun vs H2 G2 fp2 st2 rel2 ok2=>⟨G2,fp2,env2,σ,l,ds,r,⟨rel2,fun v H' G' fp' st rel'=>k v H' G' fp' (st1.trans (st2.trans st)) rel'⟩,rfl,hz,rel2.vws ok2 e3,e4⟩⟩
 ·cases e
end
theorem fnok_of {P:Program} {w:World} {K:W.Frag} {mg:Str→Option Value} {base:Heap} {x:Str} {st:Stmt} {N ps:List Str} {k:Nat} {g:FS} {f:Addr} {fd:FuncData} (F:Fun K x x st f fd) (sc:FnScope N ps (defScope st))
  (body:∀ (cdv:Value) (A:Around) (outer:List PySem.Env) (s:Shared) (H:Hp) (E:XK),Room k (A.deeper (envOfC x (defScope st) s.heap.objs.size f cdv))→QSs (md:=.plain) (nY CX0 P w K mg base N x (defScope st) f cdv A outer s H E).nox (bN st) g) :
  FnOk P w K mg base CX0 (k + 1) f fd ps (spF K (fBody ps.length (N.length - ps.length) g)):=by
 refine F.ok sc (fun vs H Q E h=>?_) (fun cdv A outer s H vs Q E hr h=>?_)
 ·obtain ⟨G,ds,r,_,rs,e,_⟩:=h
  unfold fBody at e
  split at e
  ·rename_i hl
   rw [rs.length,hl]
  ·cases e
 ·obtain ⟨G,ds,r,gh,rs,e,q⟩:=h
  unfold fBody at e
  split at e
  ·rename_i hl
   refine ⟨_,body cdv A outer s H E hr,G,ds.map (fun d=>some (O.f,d))++List.replicate (N.length - ps.length) none,[],⟨?_,List.nodup_nil,(fun _ h=>nomatch h),gh⟩,?_⟩
   ·have:=fW (K:=K) (G:=G) (H:=H) (N.length - ps.length) rs
    unfold L2.gT
    rw [rs.length,hl]
    exact this
   ·obtain ⟨o,eo,e⟩:=af e
    rw [eo]
    cases o with
    | rt r'=>
     cases e
     exact fun v H' G' fp' st rel=>q v H' G' fp' st rel
    | nx env'=>
     cases e
     exact fun σ' H' G' fp' st rel=>q .non H' G' [] (st.trans (Step.cut fun _ h=>nomatch h)) (rel.nilF.push jB)
    | bk env'=>cases e
    | ct env'=>cases e
  ·cases e
noncomputable def qN (K:W.Frag):Sp:=fun vs H Q _=>∃ (a:Addr) (ns:List Int),vs=[.ref a]∧SqL K H a (ns.map V.int)∧ns.length≤63∧∀ H',Q (.bl true) H'
theorem xn {K:W.Frag} {F:List D→Res R} (h:∀ ns:List Int,ns.length≤63→∃ o,F [.lst (ns.map D.int)]=.ok (o,.bl true)):∀ vs H Q E,qN K vs H Q E→spF K F vs H Q E:=by
 rintro vs H Q E ⟨a,ns,rfl,sq,hl,q⟩
 obtain ⟨o,e⟩:=h ns hl
 refine ⟨H,_,_,.refl _,?_,e,fun v H' G' fp' st rel=>?_⟩
 ·refine .one ?_
  rw [Rep]
  exact ⟨a,_,rfl,sq,dA fun n _=>bv n⟩
 ·rw [bC rel.top]
  exact q H'
theorem _root_.L2.Room.u65 {k:Nat} {A:Around} (r:Room k A):A.units + 65 < cLine:=by have:=r.un;lia
noncomputable def yv (f:FX) (a:FG):FS:=fun env=>(f env).bind fun p=>(a p.1.2 p.2).bind fun e=>.ok (.nx e)
theorem xo {X:Cx} {tg e:Expr} {f:FX} {a:FG} {pos:Pos} (he:QE X e f) (hg:QG X tg a) (hs:swapsWithSole [tg] e pos.line X.env=pure false:=by rfl) (hw:swappedStores [tg] e X.env=pure none:=by rfl)
  (h1:(assignEach [tg] X.env).map (·.2)=[assign tg X.env]:=by rfl):QS (md:=md) X (.Assign [tg] e pos) (yv f a):=dI (wa he hg hs hw h1) fun Dd σ H hq0=>by
 obtain ⟨G,env,fp,rel,k⟩:=hq0
 unfold yv at k
 match q:f env,k with
 | .ok (r,env1),k=>
  have k:OutOk X.K G H fp Dd ((a r.2 env1).bind fun e=>.ok (.nx e)):=k
  match q2:a r.2 env1,k with
  | .ok env2,k=>
   refine ⟨G,env,fp,r,env1,rel,q,fun v H1 G1 fp1 st1 rel1=>?_⟩
   obtain ⟨G2,b,rv,rel2,st2⟩:=rel1.freeze
   exact ⟨G2,env1,b,r.2,env2,rel2,rv,q2,fun σ' G' fp' st rel'=>k σ' H1 G' fp' (st1.trans (st2.trans st)) rel'⟩
theorem AJ {l:PySem.W.OpenLaw} {q:Program} {loose:List Str} {XP:(Str→Option Value)→Heap→Prop} {YP:World→Heap→Prop} {d:DefRec} {K:Params→W.Frag} {k:Nat} {x:Str} (hn:l.most=some 63) (hdf:d.params.defaults=[]) (hr:Room k PySem.callerA)
  (hY:∀ (w:World) (h:Heap),YP w h→(K w.params).In h)
  (F:∀ (w:World) (mg:Str→Option Value) (fa:Addr) (h:Heap),(K w.params).In h→h.Ns mainGlobals mg→mg d.name=some (.ref fa)→
   ∃ fd:FuncData,(∀ (s:Shared) (u:Value),BindsTo s fd ⟨[u],[]⟩ [(x,u)])∧∀ base:Heap,(K w.params).In base→base.Ns mainGlobals mg→FnOk l.prog w (K w.params) mg base CX0 k fa fd [x] (qN (K w.params))) :
  PySem.W.WalkO q loose XP YP l.row.toRowW d [] (fun f vs=>PySem.call f vs):=
 L2.tu (n:=63) (k:=k) (x:=x) (CX:=fun _=>CX0) (sp:=fun w=>qN (K w.params)) hn (by decide) hdf hr hY F (fun _ _ a ns hl _ hS=>⟨a,ns,rfl,hS,hl,fun _=>rfl⟩) fun _ _ _ _ _ z=>z
theorem sf:bootBuiltins "max" = some (.builtin "max"):=by decide +kernel
theorem si:bootBuiltins "all" = some (.builtin "all"):=by decide +kernel
theorem pc:bootBuiltins "sorted" = some (.builtin "sorted"):=by decide +kernel
theorem bR {K:W.Frag} {h:Heap} {mg:Str→Option Value} {x:Str} {st:Stmt} {f:Addr} {oc:Value} {od an:Option Addr} {osl:Array (Option Value)} {kV doc pm cdv ct:Value} (X:K.In h) (G:h.Ns mainGlobals mg)
  (a:PySem.W.nsIn K mainGlobals x=some (some (.ref f))) (l:K.lookup f=some ⟨oc,od,.func (PySem.W.fnOf x x (dl st) (bN st) (defScope st) .none kV doc pm an cdv ct),osl⟩)
  (c:PySem.W.codeIn K cdv x=true) (k:PySem.W.keepIn K (.ref f)=true):Def K mg x st:=⟨f,_,rH l c k,PySem.W.mg_of X G a⟩
theorem zf {K:W.Frag} {h:Heap} {mg:Str→Option Value} {x:Str} {n:Int} {t:Tok} (X:K.In h) (G:h.Ns mainGlobals mg) (a:PySem.W.nsIn K mainGlobals x=some (some (.int n t))):Gi mg x n:=⟨t,PySem.W.mg_of X G a⟩
inductive tQL (K:W.Frag) (f:FI) (σ:L2.St) (H:Hp) (R:It→Hp→Prop):Prop
 | mk:∀ G env fp ds env',Rel K G H env σ fp→f env=.ok (ds,env')→(∀ J H' G' fp',Step G H fp G' H' fp'→Rel K G' H' env' σ fp'→(∀ G2,Same G' G2→(∀ (i:Nat) (r:PV.R) (v:V),env'[i]?=some (some r)→σ[i]?=some (some v)→Rep K G2 r.2 v)→Walk K G2 J ds)→R J H')→tQL K f σ H R
def QIL (X:Cx) (tg e:Expr) (f:FI):Prop:=PI X tg e (tQL X.K f)
theorem Walk.mono {K:W.Frag} {G G2:Hp} {J:It} {ds:List D} (w:Walk K G J ds) (gg:Same G G2):Walk K G2 J ds:=fun G' H' es vs fp g rel=>w G' H' es vs fp (gg.trans g) rel
theorem sj {K:W.Frag} {fi:FI} {ix:List (Option Nat)} {a:FG} {c:FT} {f:FX} {σ:L2.St} {H:Hp} {Q:VK} (h:tQ K (dv fi ix a c f) σ H Q):tG (tQL K fi) ix (tQG K a) (tQT K c) (tQ K f) σ H Q:=by
 obtain ⟨G,env,fp,r,env',rel,e,k⟩:=h
 obtain ⟨⟨ds,env1⟩,e1,e⟩:=af e
 obtain ⟨rs,e2,e⟩:=af e
 refine ⟨G,env,fp,ds,env1,rel,e1,fun J H1 G1 fp1 st1 rel1 wk D hD=>?_⟩
 dsimp only at e e2
 split at e
 ·rename_i hz
  have er:r=(.l .f,.lst rs):=by cases e;rfl
  have ee:env'=if flatDs rs then env1 else env1.map frz:=by cases e;rfl
  subst er
  obtain ⟨G2,g12,g2h,hrep,hrE,hback⟩:=rel1.lend
  have wk2:=wk G2 g12 hrep
  have rel2:Rel K G2 H1 (cD ix env1) (i7 ix σ) []:=⟨dQ hrep (fun i r er=>let ⟨v,ev,_⟩:=rel1.view er;⟨v,ev⟩) ix,List.nodup_nil,(fun _ h=>nomatch h),g2h⟩
  obtain ⟨rel3,st3⟩:=rel2.newL (ds:=[]) (xs:=[]) hD .nil
  refine ⟨fun i m σ1 H2=>m=ds.length - i∧i≤ds.length∧∃ G' es fp' acc cj,Step G2 H1 [] G' H2 fp'∧Rel K G' H2 (some (.l .f,.lst acc) :: es) (some (.ref D) :: σ1) fp'∧cw a c f (ds.drop i) es=.ok cj∧acc++cj=rs,
   ⟨_,rfl,Nat.zero_le _,G2,cD ix env1,_,[],rs,st3,rel3,e2,rfl⟩,?_⟩
  rintro i m σ1 H2 ⟨rfl,hi,G3,es,fp3,acc,cj,st4,rel4,e4,eacc⟩
  obtain ⟨w1,w2⟩:=wk2 G3 H2 _ _ _ st4.gg rel4 i
  by_cases hlt:i < ds.length
  ·have hd:ds[i]?=some ds[i]:=List.getElem?_eq_getElem hlt
   obtain ⟨go,yl⟩:=w1 _ hd
   rw [List.drop_eq_getElem_cons hlt] at e4
   unfold cw at e4
   obtain ⟨es1,h1,e4⟩:=af e4
   obtain ⟨⟨b,es2⟩,h2,e4⟩:=af e4
   dsimp only at e4
   refine .inr ⟨go,fun x H3 y=>?_⟩
   obtain ⟨G4,rx,rel5,st5⟩:=yl x H3 y
   obtain ⟨fa,fb,efp,ra,relb,bk⟩:=rel5.frame
   refine ⟨G4,es,fb,ds[i],es1,relb,rx,h1,fun σ2 G5 fp5 st6 rel6=>?_⟩
   refine ⟨G5,es1,fp5,b,es2,rel6,h2,fun H6 G6 fp6 st7 rel7=>?_⟩
   have st67:=st6.trans st7
   cases b with
   | false=>
    refine iteF ⟨ds.length - (i + 1),by lia,rfl,hlt,?_⟩
    obtain ⟨relz,stz⟩:=bk G6 H6 es2 σ2 fp6 st67 rel7
    rw [←efp] at stz
    exact ⟨G6,es2,_,acc,cj,st4.trans (st5.trans stz),relz,e4,eacc⟩
   | true=>
    have e4:((f es2).bind fun q=>(cw a c f (ds.drop (i + 1)) q.2).bind fun rs=>.ok (q.1.2 :: rs))=.ok cj:=e4
    obtain ⟨⟨r,es3⟩,h3,e4⟩:=af e4
    obtain ⟨rest',h4,e4⟩:=af e4
    cases e4
    refine wC ⟨G6,es2,fp6,r,es3,rel7,h3,fun v H7 G7 fp7 st8 rel8=>?_⟩
    obtain ⟨G8,fp8,rv,rel9,st9⟩:=rel8.freeze
    obtain ⟨relz,stz⟩:=bk G8 H7 es3 σ2 fp8 (st67.trans (st8.trans st9)) rel9
    rw [←efp] at stz
    obtain ⟨p,xs,ep,hp,rxs,cg⟩:=relz.chg (i:=0) (ds:=acc) (ds':=acc++[r.2]) rfl
    have ep:some (some (V.ref D))=some (some (V.ref p)):=ep
    cases ep
    obtain ⟨fq,rely,sty⟩:=cg (xs++[v]) (rxs.app (.one rv))
    refine ⟨xs,hp,?_,ds.length - (i + 1),by lia,rfl,hlt,G8,es3,fq,acc++[r.2],rest',st4.trans (st5.trans (stz.trans sty)),rely,h4,?_⟩
    ·rw [rxs.length]
     have:=congrArg List.length eacc
     rw [List.length_append,List.length_cons] at this
     lia
    ·rw [←eacc,List.append_assoc]
     rfl
  ·have ei:i=ds.length:=by lia
   subst ei
   rw [List.drop_length] at e4
   cases e4
   rw [List.append_nil] at eacc
   subst eacc
   refine .inl ⟨w2 rfl,?_⟩
   obtain ⟨fa,relo,sto⟩:=rel4.only
   obtain ⟨k1,k2⟩:=hback H2 G3 fa _ _ (st4.trans sto) relo
   rw [ee] at k
   by_cases hc:flatDs acc=true
   ·rw [if_pos hc] at k
    obtain ⟨G5,fp5,st5,rel5⟩:=k1 (by rw [bA,jD];exact hc)
    exact k _ H2 G5 fp5 (st1.trans st5) rel5
   ·rw [if_neg hc] at k
    obtain ⟨G5,fp5,st5,rel5⟩:=k2
    exact k _ H2 G5 fp5 (st1.trans st5) rel5
 ·cases e
section
variable {md:Mode} {X:Cx} {scope:Scope} {N:List Str} {tg iter elt:Expr} {ifs:List Expr} {pos:Pos} {fi:FI} {a:FG} {c:FT} {f:FX}
variable {l e:Expr} {g fj:FI}
theorem cq (h:QI X tg e fi):QIL X tg e fi:=iq h fun σ H R ⟨G,env,fp,ds,env',rel,e,k⟩=>⟨G,env,fp,ds,env',rel,e,fun J H' G' fp' st rel' wk=>k J H' G' fp' st rel' fun _ gg _=>wk.mono gg⟩
theorem gK (h:QIL X tg e fi) (h2:QIL X tg e fj):QIL X tg e (or2 fi fj):=fun pins s σ H R I hq0=>by
 obtain ⟨G,env,fp,ds,env',rel,ee,k⟩:=hq0
 rcases r6 ee with z | z
 ·exact h pins s σ H R I ⟨G,env,fp,ds,env',rel,z,k⟩
 ·exact h2 pins s σ H R I ⟨G,env,fp,ds,env',rel,z,k⟩
noncomputable def iW (i:Nat):FI:=fun env=>match env[i]? with
 | some (some (_,.lst ds))=>.ok (ds,env)
 | _=>.bad
theorem jM {i:Nat} (h:PE X l (p3 i)):QIL X tg l (iW i):=iq (nP h) fun σ H R hq0=>by
 obtain ⟨G,env,fp,ds,env',rel,e,k⟩:=hq0
 unfold iW at e
 split at e
 ·rename_i o ds hr
  cases e
  obtain ⟨v,ev,rv⟩:=rel.view hr
  obtain ⟨p,xs,evp,sq,rs⟩:=aV rv
  refine ⟨v,ev,p,evp,⟨xs,sq⟩,k _ H G fp .refl rel fun G2 gg hrep=>?_⟩
  obtain ⟨p',xs',evp',sq',rs'⟩:=aV (hrep i _ v hr ev)
  rw [evp] at evp'
  cases evp'
  exact kG sq' rs'
 ·cases e
theorem cR (ix:List (Option Nat)) (N:List Str) (hc:X.calm=true) (hi:QIL X tg iter fi) (hg:∀ C s H fp pn,QG (bq X scope N C s H fp pn) tg a) (ht:∀ C s H fp pn,QTs (bq X scope N C s H fp pn) ifs c) (he:∀ C s H fp pn,QE (bq X scope N C s H fp pn) elt f)
  (hf:fR scope X.env=true:=by rfl) (hk:scope.kind=.function:=by rfl) (hcell:∀ y∈scope.names,y.2≠.cell:=by decide +kernel) (hnames:∀ y∈scope.names,y.2=.local→scope.names.lookup y.1=some .local:=by decide +kernel) (hix:rK X scope N ix=true:=by rfl)
  (hs:∀ x,foldedSetIterable iter X.env x=pure x:=by intro _;rfl):QE X (.ListComp elt [⟨tg,iter,ifs,0⟩] scope pos) (dv fi ix a c f):=
 bd (tI (g:=tQG X.K a) (tc:=tQT X.K c) (te:=tQ X.K f) ix N hc hi hg ht he hf hk hcell hnames hix hs) fun _ _ _=>sj
theorem hV {i:Nat} {y:Str} {py spos:Pos} (ix:List (Option Nat)) (N:List Str) (hN:X.N.Nodup) (hiy:X.N[i]?=some y) (hy:Loc X.env.scope y) (hc:X.calm=true) (hi:QIL X tg iter fi) (hg:∀ C s H fp pn,QG (bq X scope N C s H fp pn) tg a) (ht:∀ C s H fp pn,QTs (bq X scope N C s H fp pn) ifs c)
  (he:∀ C s H fp pn,QE (bq X scope N C s H fp pn) elt f) (hsw:swapsWith (.ListComp elt [⟨tg,iter,ifs,0⟩] scope pos) (some (.Name y py)) spos.line X.env=pure true:=by rfl)
  (hf:fR scope X.env=true:=by rfl) (hk:scope.kind=.function:=by rfl) (hcell:∀ y∈scope.names,y.2≠.cell:=by decide +kernel) (hnames:∀ y∈scope.names,y.2=.local→scope.names.lookup y.1=some .local:=by decide +kernel) (hix:rK X scope N ix=true:=by rfl)
  (hs:∀ x,foldedSetIterable iter X.env x=pure x:=by intro _;rfl) (hfn:X.fn y=true∨X.env.scope.names.lookup y=some .local:=by first | exact .inl rfl | exact .inr rfl) :
  QS (md:=md) X (.Assign [.Name y py] (.ListComp elt [⟨tg,iter,ifs,0⟩] scope pos) spos) (bB i (dv fi ix a c f)):=
 dI (tJ (i:=i) (g:=tQG X.K a) (tc:=tQT X.K c) (te:=tQ X.K f) ix N hN hiy hy hc hi hg ht he hsw hf hk hcell hnames hix hs hfn) fun D σ H ⟨G,env,fp,rel,k⟩=>sj (oR rel k)
end
section
variable {X:Cx} {a:Expr} {pos:Pos} {fa:FO}
noncomputable def AK (fa:FO):FX:=fun env=>(fa env).bind fun p=>(der p.2 p.1).bind fun d=>match d with
 | .int i=>.ok ((.f,.int (-i)),p.2)
 | _=>.bad
theorem pd {i:Int} (h:i.natAbs < 2 ^ 1000):Builtin.Int.intBits i≤2 ^ 20:=by
 unfold Builtin.Int.intBits
 split
 ·exact Nat.zero_le _
 ·rename_i h0
  have h1:i.natAbs≠0:=by
   intro e
   rw [Int.natAbs_eq_zero] at e
   exact h0 (by rw [e];rfl)
  have:=(Nat.log2_lt h1).mpr h
  have e:(2:Nat) ^ 20=1048576:=by decide
  lia
theorem uy:OpR X (binaryOp .Mult) (rI (fun i j=>i.natAbs < 2 ^ 1000∧j.natAbs < 2 ^ 1000) fun i j=>.int (i * j)):=opI fun _ _ _ _ _ _ _ hc q=>mul_int q (.of_bits (pd hc.1) (pd hc.2))
theorem kO {α:Type}:∀ (ls:List (Array α)) (acc:Array α),(ls.foldl (·++·) acc).toList=acc.toList++(ls.map Array.toList).flatten
 | [],acc=>by simp
 | a :: ls,acc=>by
  rw [List.foldl_cons,kO ls,Array.toList_append,List.map_cons,List.flatten_cons,List.append_assoc]
theorem zg (l:List Nat) (n:Nat):(⟨(List.replicate n (S l).cps).foldl (·++·) #[]⟩:Str)=S (List.replicate n l).flatten:=by
 have h:((List.replicate n (S l).cps).foldl (·++·) #[]).toList=(List.replicate n l).flatten:=by
  rw [kO,List.map_replicate]
  simp only [b8,List.nil_append]
 show Str.mk _=Str.mk _
 rw [←h]
theorem uz (a b:Int):y4 (.int a) (.int b)=if cp a || cp b then .ok (.f,.int (a * b)) else .bad:=rfl
noncomputable def uA:D→D→Res R
 | .int i,.int j=>if cp i || cp j then .ok (.f,.int (i * j)) else if i.natAbs < 2 ^ 1000∧j.natAbs < 2 ^ 1000 then .ok (.f,.int (i * j)) else .bad
 | .str l,.int k=>if 2≤k∧k≤1000∧1≤l.length∧l.length≤1000 then .ok (.f,.str (List.replicate k.toNat l).flatten) else .bad
 | _,_=>.bad
theorem uB:OpR X (binaryOp .Mult) (rG X.K uA):=by
 rintro pins s σ H x y v u Q I rx ry ⟨G,fp,es,vs,a,b,r,⟨rel,k⟩,va,vb,e⟩
 unfold uA at e
 split at e
 ·rename_i i j
  split at e
  ·rename_i hc
   exact w5 pins s σ H x y v u Q I rx ry ⟨G,fp,es,vs,.int i,.int j,r,⟨rel,k⟩,va,vb,by rw [uz,if_pos hc];exact e⟩
  ·split at e
   ·rename_i hc
    cases e
    cases aW va
    cases aW vb
    exact uy pins s σ H _ _ v u Q I rx ry ⟨i,j,rfl,rfl,hc,k _ H G fp .refl (rel.push (bv _))⟩
   ·cases e
 ·rename_i l j
  split at e
  ·rename_i hc
   cases e
   obtain ⟨ev,hl⟩:=cO va
   subst ev
   cases aW vb
   obtain ⟨t,rfl⟩:=rx
   obtain ⟨t',rfl⟩:=ry
   have hlen:(S l).length=l.length:=iR l
   have hz:(List.replicate j.toNat l).flatten.length≤1000000:=by
    rw [jo]
    exact Nat.mul_le_mul (by lia:j.toNat≤1000) hc.2.2.2
   have hz2:(List.replicate j.toNat l).flatten.length≤sizeLine:=Nat.le_trans hz (by decide)
   refine PySem.P.mul_str ?_ ?_ ?_ ?_
   ·rw [decide_eq_false (by lia),decide_eq_false (by lia)];rfl
   ·intro _ _
    rw [hlen]
    have h1:1000≤(2 ^ 63 - 1) / j:=(Int.le_ediv_iff_mul_le (by lia)).mpr (by lia)
    lia
   ·intro _ _
    unfold Builtin.Str.tooLong
    rw [decide_eq_false_iff_not,hlen,Nat.mul_comm,←jo]
    lia
   ·rw [if_neg (by lia),if_neg (by rw [hlen,Bool.or_eq_true,beq_iff_eq,beq_iff_eq];lia),zg]
    refine ⟨?_,?_⟩
    ·rw [iR]
     exact hz2
    ·exact ⟨.str (S (List.replicate j.toNat l).flatten),H,I.tok _,⟨_,rfl⟩,k _ H G fp .refl (rel.push (fE hz2))⟩
  ·cases e
 ·cases e
end
end PV
namespace HT
open PySem PySem.Spec PyProof.Rows L2
variable {prog:Program} {w:World} {A:Around} {E:Value→Shared→Prop} {s:Shared}
theorem f7 {t sl:Addr} {items:Array Value} {vl vu:Value} {lo hi:Option Int} {Q:Value→Shared→Prop} (ht:IsTup s.heap t items) (hs:s.heap.IsSliceOf sl vl vu .none) (pl:IsPart vl lo) (pu:IsPart vu hi)
  (hw:sIx items.size 0 lo=0∧sIx items.size items.size hi=items.size) (h:Q (.ref t) s):wpAny (model prog w) A (getItem (.ref t) (.ref sl)) Q E s:=by
 obtain ⟨os,hos,hcs,hds⟩:=id hs
 have hTs:s.TypeIs (.ref sl) "slice":=⟨os,hos,hcs⟩
 unfold getItem
 try with_reducible refine wpAny_holding ?_
 first | refine wpAny_bind (wpAny_pure ?_) | skip
 refine wpAny_bind (wpAny_sequenceKey ht.typeIs (by decide) ?_)
 refine wpAny_bind (wpAny_callSpecial?_slot (name:=Str.ofString "__getitem__") ht.typeIs PyProof.Rows.slot_tuple_getitem
  (wpAny_call_entry PyProof.Rows.slot_tuple_getitem ht.typeIs entry_tuple_getitem ?_ (args_tuple_getitem _ _)))
 show wpAny _ _ (Builtin.Tuple.tupleItemsOf (.ref t) >>= _) _ _ s
 refine wpAny_bind (tupleItemsOf_ ht ?_)
 refine wpAny_bind (wpAny_typeOf hTs ?_)
 rw [if_pos (by decide)]
 refine wpAny_bind (dH hs pl pu ?_)
 have hyes:(((sIx items.size 0 lo:Nat):Int) == 0 && (1:Int) == 1 && (sIx items.size items.size hi - sIx items.size 0 lo) == items.size)=true:=by
  rw [hw.1,hw.2]
  simp
 show wpAny _ _ (if (((sIx items.size 0 lo:Nat):Int) == 0 && (1:Int) == 1 && (sIx items.size items.size hi - sIx items.size 0 lo) == items.size)=true then _ else _) _ _ s
 rw [if_pos hyes]
 refine wpAny_bind (m:=Builtin.Tuple.tupleIsExact _) ?_
 unfold Builtin.Tuple.tupleIsExact
 refine wpAny_bind (wpAny_typeOf ht.typeIs (wpAny_pure ?_))
 rw [if_pos (by decide)]
 exact wpAny_bind (wpAny_rule (wpAny_pure ⟨_,rfl,wpAny_pure h⟩))
end HT
namespace PV
open PySem PySem.Spec PyProof.Rows L2 NX
section
variable {X:Cx} {pos:Pos} {fa:FO}
theorem uC:SlR X (fun x lo hi H Q=>∃ a xs,x=.ref a∧SqT X.K H a xs∧(HT.sIx xs.length 0 lo=0∧HT.sIx xs.length xs.length hi=xs.length)∧Q x H):=by
 intro pins s σ H x v vl vu lo hi sl Q I rx hs pl pu h
 obtain ⟨a,xs,rfl,hx,hw,q⟩:=h
 cases rx
 obtain ⟨its,r,ht,hz⟩:=I.tuple hx
 have hlen:its.toArray.size=xs.length:=by rw [List.size_toArray];exact r.length.symm
 refine ⟨"tuple",_,PyProof.Rows.slot_tuple_getitem.lookup,ht.typeIs,?_⟩
 exact HT.f7 ht hs pl pu (by rw [hlen];exact hw) ⟨.ref a,H,I,rfl,q⟩
noncomputable def slO (k:D) (lo hi:Option Int):Res R:=match k with
 | .tup ds=>if HT.sIx ds.length 0 lo=0∧HT.sIx ds.length ds.length hi=ds.length then .ok (.f,.tup ds) else slD k lo hi
 | _=>slD k lo hi
noncomputable def vF (fa:FO) (lo hi:FP):FX:=fun env=>(fa env).bind fun p=>(lo p.2).bind fun q=>(hi q.2).bind fun t=>(der t.2 p.1).bind fun d=>(slO d q.1 t.1).bind fun r=>.ok (r,t.2)
inductive rSlW (K:W.Frag) (x:V) (lo:Option Int) (hi:Option Int) (H:Hp) (Q:VK):Prop
 | mk:∀ G fp es vs d r,Goes K H G fp es vs r Q→Vw K G H d x→slO d lo hi=.ok r→rSlW K x lo hi H Q
theorem xp:SlR X (rSlW X.K):=by
 rintro pins s σ H x v vl vu lo hi sl Q I rx hs pl pu ⟨G,fp,es,vs,d,r,⟨rel,k⟩,vd,e⟩
 unfold slO at e
 split at e
 ·rename_i ds
  split at e
  ·rename_i hw
   cases e
   obtain ⟨p,xs,ev,sq,rs⟩:=fU vd
   subst ev
   refine uC pins s σ H _ v vl vu lo hi sl Q I rx hs pl pu ⟨p,xs,rfl,bf rel.gh sq,by rw [rs.length];exact hw,?_⟩
   exact k _ H G fp .refl (rel.push vd)
  ·exact xa pins s σ H x v vl vu lo hi sl Q I rx hs pl pu ⟨G,fp,es,vs,_,r,⟨rel,k⟩,vd,e⟩
 ·exact xa pins s σ H x v vl vu lo hi sl Q I rx hs pl pu ⟨G,fp,es,vs,_,r,⟨rel,k⟩,vd,e⟩
theorem mw {e:Expr} {lo hi:Option Expr} {p2:Pos} {fl fh:FP} (he:QO X e fa) (hl:QP X lo fl) (hh:QP X hi fh):QE X (.Subscript e (.Slice lo hi none p2) pos) (vF fa fl fh):=
 bd (qe xp he hl hh) fun σ H Q hq0=>by
  obtain ⟨G,env,fp,r,env',rel,e,k⟩:=hq0
  obtain ⟨⟨o,env1⟩,e1,e⟩:=af e
  obtain ⟨⟨i,env2⟩,e2,e⟩:=af e
  obtain ⟨⟨j,env3⟩,e3,e⟩:=af e
  obtain ⟨d,e4,e⟩:=af e
  obtain ⟨r',e5,e⟩:=af e
  cases e
  exact ⟨G,env,fp,o,env1,rel,e1,fun v H1 G1 fp1 st1 rel1 ok1=>⟨G1,env1,fp1,i,env2,rel1,e2,fun H2 G2 fp2 st2 rel2=>⟨G2,env2,fp2,j,env3,rel2,e3,fun H3 G3 fp3 st3 rel3=>
   ⟨G3,fp3,env3,σ,d,r,⟨rel3,fun v H' G' fp' st rel'=>k v H' G' fp' (st1.trans (st2.trans (st3.trans st))) rel'⟩,rel3.vw ((ok1.mono st2.gg).mono st3.gg) e4,e5⟩⟩⟩⟩
end
end PV
namespace L2
open PySem PySem.Spec PyProof.Rows
section
variable {X:Cx} {tg:Expr}
def mx (i j c:Int):Prop:=(-1048576≤i∧i≤1048576)∧(-1048576≤j∧j≤1048576)∧(c = -1∨1≤c)∧c≤1048576
instance (i j c:Int):Decidable (mx i j c):=by unfold mx;infer_instance
end
end L2
namespace PV
open PySem PySem.Spec PyProof.Rows L2 NX
section
variable {X:Cx} {tg:Expr}
noncomputable def AL:List D→Res R
 | [d]=>match (lh d).bind dR with
  | some (n :: ns)=>.ok (.f,.int (yX (n :: ns)))
  | _=>.bad
 | [.int i,.int j]=>.ok (.f,.int (if j < i then j else i))
 | _=>.bad
noncomputable def AM:List D→Res R
 | [.int i]=>.ok (.f,.int (if i < 0 then -i else i))
 | _=>.bad
noncomputable def uD (fs:FOs):FI:=fun env=>(fs env).bind fun p=>(lg p.2 p.1).bind fun d=>match d with
 | [.int i,.int j,.int c]=>if mx i j c then .ok ((List.range (Builtin.Range.rangeSize i j c).toNat).map fun (k:Nat)=>D.int (i + (k:Int) * c),p.2) else .bad
 | _=>.bad
end
end PV
namespace NX
open PySem PySem.Spec PyProof.Rows L2
section
open PySem.SeqAt
open PySem.AutoSeq1 (wpAny_loadPart')
theorem iF {M:Model} {A:Around} {E:Value→Shared→Prop} {s:Shared} {β:Type} (f:Nat→β→Sem (ForInStep β)) (n:Nat) (I:Nat→β→Shared→Prop) (Q:β→Shared→Prop)
  (turn:∀ (i:Nat) (b:β) (s:Shared),i < n→I i b s→wpAny M A (f i b) (fun r s'=>match r with | .yield b'=>I (i + 1) b' s' | .done b'=>Q b' s') E s)
  (fin:∀ (b:β) (s:Shared),I n b s→Q b s) (b:β) (h:I 0 b s):wpAny M A (forIn [0:n] b f) Q E s:=by
 rw [Std.Legacy.Range.forIn_eq_forIn_range']
 refine wpAny_forIn_list f (fun cj b s=>∃ i,i≤n∧cj=List.range' i (n - i)∧I i b s) Q ?_ ?_ _ b ?_
 ·rintro x cj b s ⟨i,hi,hr,h⟩
  by_cases hin:i < n
  ·have e:n - i=(n - (i + 1)) + 1:=by lia
   rw [e,List.range'_succ] at hr
   injection hr with h1 h2
   subst h1
   refine thn (turn x b s hin h) fun r s' hr'=>?_
   cases r with
   | yield b'=>exact ⟨x + 1,by lia,h2,hr'⟩
   | done b'=>exact hr'
  ·have e:n - i=0:=by lia
   rw [e] at hr
   cases hr
 ·rintro b s ⟨i,hi,hr,h⟩
  by_cases hin:i < n
  ·have e:n - i=(n - (i + 1)) + 1:=by lia
   rw [e,List.range'_succ] at hr
   cases hr
  ·have e:i=n:=by lia
   subst e
   exact fin b s h
 ·refine ⟨0,Nat.zero_le _,?_,h⟩
  simp [Std.Legacy.Range.size]
theorem g0 (l:Addr) (items:Array Value) (n:Nat) (dd:Option Addr) (sl:Array (Option Value)) (ns:List Str) (c:Str) (t:Tok) (hi:Vals (ns.map V.str) items.toList) (i:Nat) (hx:ns[i]?=some c) (h0:∀ j,j < i→ns[j]?≠some c) :
  Meets (Builtin.«tuple.index» ⟨[.ref l,.str c t],[]⟩)
   (fun _ R s=>s.heap.get? l=some { cls:=.type "tuple",dict:=dd,data:=.seq items n,slots:=sl }∧R (.ok (.ret (.int (i:Int) s.toks))) { s with toks:=s.toks + 1 }):=
 .of_wp fun prog w A R s h=>by
  obtain ⟨hp,g,d,tk,os⟩:=s;obtain ⟨hl,h⟩:=h
  have z1:items.size=ns.length:=by have:=hi.length;simp at this;lia
  have hin:i < ns.length:=(List.getElem?_eq_some_iff.mp hx).1
  have key:∀ (j:Nat),j < ns.length→∃ (b:Str) (u:Tok),items[j]?=some (.str b u)∧ns[j]?=some b:=by
   intro j hj
   obtain ⟨v,hv,hr⟩:=hi.get (i:=j) (x:=V.str ns[j]) (by simp [hj])
   obtain ⟨u,rfl⟩:=hr
   exact ⟨ns[j],u,by rw [←Array.getElem?_toList];exact hv,by simp [hj]⟩
  wp_walk using wpAny_loadPart' hl,iF _ _ (fun j b s'=>b.1=none∧s'=⟨hp,g,d,tk,os⟩∧j≤i) _
  case turn=>
   rintro j ⟨b1,b2⟩ s' hj ⟨hb,rfl,hji⟩
   simp only at hb
   subst hb
   obtain ⟨b,u,e1,e2⟩:=key j (by lia)
   have he:EqAt A.in1 ⟨hp,g,d,tk,os⟩ (.str b u) (.str c t) (b == c):=EqAt.str_str b u c t
   by_cases hbc:b=c
   ·have hji2:j=i:=by
     rcases Nat.lt_or_ge j i with hlt | hge
     ·exact absurd (by rw [e2,hbc]) (h0 j hlt)
     ·lia
    subst hji2 hbc
    rw [e1]
    refine wpAny_bind (he prog w _ _ ?_)
    rw [show (b == b)=true from beq_self_eq_true b]
    wp_walk
    exact ⟨_,rfl,h⟩
   ·rw [e1]
    refine wpAny_bind (he prog w _ _ ?_)
    rw [show (b == c)=false from beq_eq_false_iff_ne.mpr hbc]
    wp_walk
    refine ⟨rfl,rfl,?_⟩
    rcases Nat.lt_or_ge j i with hlt | hge
    ·exact hlt
    ·have:j=i:=by lia
     subst this
     rw [e2] at hx
     cases hx
     exact absurd rfl hbc
  case fin=>
   rintro ⟨b1,b2⟩ s' ⟨hb,rfl,hji⟩
   rw [Nat.min_self] at hji
   lia
  case h=>exact ⟨rfl,rfl,Nat.zero_le _⟩
end
end NX
namespace L2
open PySem PySem.Spec PyProof.Rows
section
variable {X:Cx} {o e:Expr} {es:List Expr} {to:TE} {t:TA} {name:Str} {apos cpos:Pos} {id:String} {r:V→List V→Hp→VK→Prop}
noncomputable def AN (K:W.Frag) (r:V→List V→Hp→VK→Prop) (to:TE) (t:TA):TE:=fun σ H Q=>to σ H fun x H1=>(∃ p ys,x=.ref p∧SqT K H1 p ys)∧t σ H1 fun xs H2=>r x xs H2 Q
theorem xq (slot:Slot "tuple" name id) (hty:typeOf (.builtin id)=pure (.type "method_descriptor")) (hm:MtR X id r) (ho:PE X o to) (ha:PA X (e :: es) t)
  (hbase:attributeBase o name X.env (eval o X.env)=eval o X.env:=by rfl)
  (hfew:((backTo cpos (starEach (e :: es) X.env)).all (fun x=>!x.1) && (backToKw cpos (keywordEach [] X.env)).all (fun x=>x.1.isSome)
   && decide ((e :: es).length + ([]:List Keyword).length + (if ([]:List Keyword).isEmpty then 0 else 1) < 30))=true:=by rfl)
  (hline:(apos.endLine == cpos.line)=true:=by rfl) (hs:starEach (e :: es) X.env=(false,eval e X.env) :: starEach es X.env:=by rfl) (hplain:(backTo cpos (starEach es X.env)).any (·.1)=false:=by rfl) :
  PE X (.Call (.Attribute o name apos) (e :: es) [] cpos) (AN X.K r to t):=by
 intro pins s σ H Q I h
 refine wpAny_Call_method_late hbase hfew hline rfl (thn (ho pins s σ H _ I h) fun v s1 hqq=>?_)
 obtain ⟨x,H1,I1,r1,⟨p,ys,ex,sq⟩,q1⟩:=hqq
 subst ex
 cases r1
 obtain ⟨its,_,⟨ob,ho,hc,⟨n,hd⟩,hn⟩,_⟩:=I1.tupleN sq
 refine ⟨"tuple",id,PySem.F.plainAttrs_tuple,slot,hty,⟨ob,ho,hc⟩,fun a e2=>?_,?_⟩
 ·cases e2
  exact ⟨ob,ho,hn⟩
 have hA:=ha cpos pins s1 σ H1 _ I1 q1
 rw [hs] at hA ⊢
 refine Calls.callWith_builtin (by show (false || (backTo cpos (starEach es X.env)).any (·.1))=false;rw [hplain] <;> rfl) (Calls.evalArgs_plain ?_)
 exact thn hA fun us s2 ⟨vs,H2,I2,r2,q2⟩=>hm pins s2 σ H2 (.ref p) vs _ us Q I2 rfl r2 q2
end
end L2
namespace PV
open PySem PySem.Spec PyProof.Rows L2 NX
section
variable {X:Cx}
noncomputable def xr (g:List D→List D→Res R) (fa:FO) (fs:FOs):FX:=fun env=>(fa env).bind fun p=>(der p.2 p.1).bind fun a=>match a with
 | .tup _=>(fs p.2).bind fun q=>(der q.2 p.1).bind fun a2=>match a2 with
  | .tup l=>(lg q.2 q.1).bind fun ds=>(g l ds).bind fun r=>.ok (r,q.2)
  | _=>.bad
 | _=>.bad
inductive rMtT (K:W.Frag) (g:List D→List D→Res R) (x:V) (xs:List V) (H:Hp) (Q:VK):Prop
 | mk:∀ G fp es vs l ds r,Goes K H G fp es vs r Q→Vw K G H (.tup l) x→Vws K G H ds xs→g l ds=.ok r→rMtT K g x xs H Q
theorem pe {g:List D→List D→Res R} {id:String} {name:Str} {o e:Expr} {es:List Expr} {fa:FO} {fs:FOs} {apos cpos:Pos} (slot:Slot "tuple" name id) (hty:typeOf (.builtin id)=pure (.type "method_descriptor")) (hm:MtR X id (rMtT X.K g)) (ho:QO X o fa) (ha:QOs X (e :: es) fs)
  (hbase:attributeBase o name X.env (eval o X.env)=eval o X.env:=by rfl)
  (hfew:((backTo cpos (starEach (e :: es) X.env)).all (fun x=>!x.1) && (backToKw cpos (keywordEach [] X.env)).all (fun x=>x.1.isSome) && decide ((e :: es).length + ([]:List Keyword).length + (if ([]:List Keyword).isEmpty then 0 else 1) < 30))=true:=by rfl)
  (hline:(apos.endLine == cpos.line)=true:=by rfl) (hs:starEach (e :: es) X.env=(false,eval e X.env) :: starEach es X.env:=by rfl) (hplain:(backTo cpos (starEach es X.env)).any (·.1)=false:=by rfl) :
  QE X (.Call (.Attribute o name apos) (e :: es) [] cpos) (xr g fa fs):=by
 refine bd (xq slot hty hm ho ha hbase hfew hline hs hplain) fun σ H Q hqq=>?_
 obtain ⟨G,env,fp,r,env',rel,e,k⟩:=hqq
 obtain ⟨⟨oa,env1⟩,e1,e⟩:=af e
 obtain ⟨da,hda,e⟩:=af e
 dsimp only at e
 split at e
 ·obtain ⟨⟨os,env2⟩,e2,e⟩:=af e
  obtain ⟨d2,hd2,e⟩:=af e
  dsimp only at e
  split at e
  ·obtain ⟨ds,e3,e⟩:=af e
   obtain ⟨r',e4,e⟩:=af e
   cases e
   refine ⟨G,env,fp,oa,env1,rel,e1,fun v H1 G1 fp1 st1 rel1 ok1=>?_⟩
   obtain ⟨p,xs,ev,sq,_⟩:=aQ (Vw.rep rel1.gh (rel1.vw ok1 hda))
   exact ⟨⟨p,xs,ev,sq⟩,G1,env1,fp1,os,_,rel1,e2,fun vs H2 G2 fp2 st2 rel2 ok2=>⟨G2,fp2,_,σ,_,ds,r,⟨rel2,fun v H' G' fp' st rel'=>k v H' G' fp' (st1.trans (st2.trans st)) rel'⟩,rel2.vw (ok1.mono st2.gg) hd2,rel2.vws ok2 e3,e4⟩⟩
  ·cases e
 ·cases e
noncomputable def kP (l:List D):List D→Res R
 | [.str c]=>match dU l with
  | some bs=>if c∈bs then .ok (.f,.int (bs.idxOf c:Nat)) else .bad
  | none=>.bad
 | _=>.bad
theorem xt {a b:List Nat} (h:S a=S b):a=b:=by
 have:=congrArg (fun s:Str=>s.cps.toList) h
 simpa only [b8] using this
theorem my:∀ (bs:List (List Nat)) (c:List Nat) (j:Nat),bs[j]?=some c→bs.idxOf c≤j
 | [],c,j,h=>by simp at h
 | b :: bs,c,0,h=>by
  simp at h
  subst h
  simp [List.idxOf_cons]
 | b :: bs,c,j + 1,h=>by
  rw [List.getElem?_cons_succ] at h
  have:=my bs c j h
  rw [List.idxOf_cons]
  cases b == c with
  | true=>exact Nat.zero_le _
  | false=>exact Nat.succ_le_succ this
theorem fI:MtR X "tuple.index" (rMtT X.K kP):=by
 rintro pins s σ H x xs v us Q I rx rv ⟨G,fp,es,vs,l,ds,r,⟨rel,k⟩,vx,vd,e⟩
 unfold kP at e
 split at e
 ·rename_i c
  split at e
  ·rename_i bs hb
   split at e
   ·rename_i hc
    cases e
    obtain ⟨p,ys,ev,sq,rs⟩:=aQ (Vw.rep rel.gh vx)
    obtain ⟨hy,_⟩:=fH hb rs
    subst ev
    cases rx
    obtain ⟨w',ew,vc⟩:=nr vd
    obtain ⟨ev,_⟩:=cO vc
    subst ew
    subst ev
    obtain ⟨u,rfl,t',rfl⟩:=gS rv
    obtain ⟨its,vl,⟨ob,h1,h2,⟨n,h3⟩,h4⟩,_⟩:=I.tupleN sq
    subst hy
    obtain ⟨cls,dict,data,slots⟩:=ob
    dsimp only at h2 h3 h4
    subst h2 h3 h4
    have hlt:=List.idxOf_lt_length_of_mem hc
    refine PySem.call_meets PySem.F.slot_tuple_index ⟨_,h1,rfl⟩ PySem.F.entry_tuple_index (PySem.F.args_tuple_index_2 _ _) (g0 p its.toArray n _ _ (bs.map S) (S c) t' (by rw [List.map_map];exact vl) (bs.idxOf c) ?_ ?_) ⟨h1,⟨.int (bs.idxOf c:Nat),H,I.tok _,⟨_,rfl⟩,k _ H G fp .refl (rel.push (bv _))⟩⟩
    ·rw [List.getElem?_map,List.getElem?_eq_getElem hlt,List.getElem_idxOf hlt]
     rfl
    ·intro j hj he
     rw [List.getElem?_map,List.getElem?_eq_getElem (by lia)] at he
     have he:=xt (Option.some.inj he)
     have:=my bs c j (by rw [List.getElem?_eq_getElem (by lia),he])
     lia
   ·cases e
  ·cases e
 ·cases e
noncomputable def cF (a b:D):Res R:=match a,b with
 | .tup [],.tup l=>.ok (.f,.tup l)
 | a,b=>addD a b
theorem aG:OpR X (binaryOp .Add) (rG X.K cF):=by
 rintro pins s σ H x y v u Q I rx ry ⟨G,fp,es,vs,a,b,r,⟨rel,k⟩,va,vb,e⟩
 unfold cF at e
 split at e
 ·rename_i l
  cases e
  obtain ⟨p,xs,e1,h1,r1⟩:=fU va
  obtain ⟨p2,xs2,e2,h2,r2⟩:=fU vb
  subst e1
  subst e2
  cases rx
  cases ry
  have hx:xs=[]:=List.eq_nil_of_length_eq_zero (by rw [r1.length];rfl)
  subst hx
  obtain ⟨its,v1,⟨⟨cls,dd,data,sl⟩,ho,hc,n,hd⟩,_⟩:=I.tuple (bf rel.gh h1)
  obtain ⟨its2,v2,⟨⟨cls2,dd2,data2,sl2⟩,ho2,hc2,n2,hd2⟩,_⟩:=I.tuple (bf rel.gh h2)
  dsimp only at hc hd hc2 hd2
  subst hc hd hc2 hd2
  cases v1
  exact concat_meets ⟨_,ho,rfl⟩ ⟨_,ho2,rfl⟩ noFill_tuple_add seq_tuple_add PySem.F.slot_tuple_add PySem.F.entry_tuple_add (PySem.F.args_tuple_add_2 _ _) (tuple_addW0 p p2 _ _ n n2 dd dd2 sl sl2 rfl) ⟨ho,ho2,⟨.ref p2,H,I,rfl,k _ H G fp .refl (rel.push vb)⟩⟩
 ·exact w4 pins s σ H _ _ v u Q I rx ry ⟨G,fp,es,vs,a,b,r,⟨rel,k⟩,va,vb,e⟩
noncomputable def kQ (fs:FOs):FI:=or2 (nq true true fs) (or2 (nq true false fs) (or2 (nq false true fs) (nq false false fs)))
theorem iG {tgs:List Expr} {kt:Nat} {pt:Pos} {e1 e2:Expr} {fs:FOs} {p pos:Pos} (hg:Gl X "zip") (hm:X.mg "zip" = none) (ha:QOs X [e1,e2] fs) (he:starEach [e1,e2] X.env=(false,eval e1 X.env) :: starEach [e2] X.env:=by rfl) (hpl:(backTo pos (starEach [e2] X.env)).any (·.1)=false:=by rfl) :
  QI X (.Tuple tgs kt pt) (.Call (.Name "zip" p) [e1,e2] [] pos) (kQ fs):=dS (mf true true hg hm ha he hpl) (dS (mf true false hg hm ha he hpl) (dS (mf false true hg hm ha he hpl) (mf false false hg hm ha he hpl)))
end
end PV
namespace NX
open PySem PySem.Spec PyProof.Rows L2
section
open PySem.AutoSeq1 (wpAny_loadPart')
theorem kR (l:Addr) (items:Array Value) (n:Nat) (dd:Option Addr) (sl:Array (Option Value)) (x:Int) (u:Tok) (h1:¬ (!Builtin.List.listFitsIndex x)=true) (h2:¬ items.size * x.toNat > (2 ^ 63 - 1) / 8) (h3:¬ Builtin.List.listTooLong (items.size * x.toNat)=true) (h4:(List.foldl (fun x1 x2=>x1++x2) #[] (List.replicate (if items.isEmpty=true then 0 else x.toNat) items)).size≤sizeLine) :
  Meets (Builtin.«list.__mul__» ⟨[.ref l,.int x u],[]⟩)
   (fun _ R s=>s.heap.get? l=some { cls:=.type "list",dict:=dd,data:=.seq items n,slots:=sl }∧R (.ok (.ret (.ref s.heap.objs.size))) { s with heap:=s.heap.push { cls:=.type "list",data:=.seq (List.foldl (fun x1 x2=>x1++x2) #[] (List.replicate (if items.isEmpty=true then 0 else x.toNat) items)) } }):=
 .of_wp fun prog w A R s h=>by
  obtain ⟨hp,g,d,tk,os⟩:=s;obtain ⟨hl,h⟩:=h
  wp_walk using wpAny_loadPart' hl
  rw [if_neg (by lia)]
  wp_walk
  exact ⟨_,rfl,h⟩
theorem kS (a:Int) (t:Tok) (l:Addr) (T:String) (items:Array Value) (n:Nat) (dd:Option Addr) (sl:Array (Option Value)) :
  Meets (Builtin.«int.__rmul__» ⟨[.int a t,.ref l],[]⟩)
   (fun _ R s=>s.heap.get? l=some { cls:=.type "list",dict:=dd,data:=.seq items n,slots:=sl }∧R (.ok (.ret .notImplemented)) s):=
 .of_wp fun prog w A R s h=>by
  obtain ⟨hp,g,d,tk,os⟩:=s;obtain ⟨hl,h⟩:=h
  wp_walk using wpAny_loadPart' hl
  exact ⟨_,rfl,h⟩
end
end NX
namespace PV
open PySem PySem.Spec PyProof.Rows L2 NX
section
variable {md:Mode} {X:Cx}
inductive rRepS (K:W.Frag) (x:V) (y:V) (H:Hp) (Q:VK):Prop
 | mk:∀ l k xs,x=.ref l→y=.int k→SqL K H l xs→-(2 ^ 62)≤k→k < 2 ^ 62→xs.length * k.toNat≤sizeLine→(∀ p,H p=none→Q (.ref p) (upd H p (.lst (List.replicate k.toNat xs).flatten)))→rRepS K x y H Q
theorem uE:OpR X (binaryOp .Mult) (rRepS X.K):=by
 intro pins s σ H x y v u Q I rx ry h
 obtain ⟨l,k,xs,rfl,rfl,hH,h1,h2,hz,q⟩:=h
 cases rx
 obtain ⟨t,rfl⟩:=ry
 obtain ⟨its,r,p1,_⟩:=I.list hH
 have hl:=r.length
 obtain ⟨⟨cls,dd,data,sl⟩,ho,hc,n,hd⟩:=id p1.isList
 simp only at hc hd
 subst hc hd
 have hlen:its.toArray.size * k.toNat≤sizeLine:=by rw [List.size_toArray,←hl];exact hz
 have hcap:¬ its.toArray.size * k.toNat > (2 ^ 63 - 1) / 8:=by
  have:(sizeLine:Nat)≤(2 ^ 63 - 1) / 8:=by decide
  lia
 have hfit:¬ (!Builtin.List.listFitsIndex k)=true:=by
  rw [fitsIndex_both (by lia) (by lia)]
  exact Bool.false_ne_true
 have hlong:¬ Builtin.List.listTooLong (its.toArray.size * k.toNat)=true:=by
  rw [qh hlen]
  exact Bool.false_ne_true
 have hnew:List.foldl (fun x1 x2=>x1++x2) #[] (List.replicate (if its.toArray.isEmpty=true then 0 else k.toNat) its.toArray)=(List.replicate k.toNat its).flatten.toArray:=by
  have f0:∀ m:Nat,List.foldl (fun x1 x2=>x1++x2) #[] (List.replicate m its.toArray)=(List.replicate m its).flatten.toArray:=fun m=>by
   have:=ke its m []
   rw [List.nil_append] at this
   exact this
  rw [f0]
  cases its with
  | nil=>simp
  | cons a r'=>rw [if_neg (by simp)]
 have hsz:(List.foldl (fun x1 x2=>x1++x2) #[] (List.replicate (if its.toArray.isEmpty=true then 0 else k.toNat) its.toArray)).size≤sizeLine:=by
  rw [hnew,List.size_toArray,jo,Nat.mul_comm]
  rw [List.size_toArray] at hlen
  exact hlen
 refine wpAny_binaryOp_repeat_ref (T:="list") (U:="int") (by decide) ⟨_,ho,rfl⟩ (fun s'=>typeIs_int s' k t) noFill_list_mul F.fills_int_mul F.slot_int_rmul repeat_list F.slot_int_index.lookup
  (call_meets F.slot_int_rmul (typeIs_int s k t) F.entry_int_rmul (F.args_int_rmul_2 _ _) (kS k t l "" its.toArray n dd sl)
   ⟨ho,rfl,⟨_,ho,rfl⟩,call_meets F.slot_list_mul ⟨_,ho,rfl⟩ F.entry_list_mul (F.args_list_mul_2 _ _) (kR l its.toArray n dd sl k t hfit hcap hlong hsz) ⟨ho,?_⟩⟩)
 rw [hnew]
 exact ⟨.ref _,_,I.lnew (t':=s.toks) (r.rep k.toNat) (by rw [jo,Nat.mul_comm];exact hz),rfl,q _ I.fresh⟩
theorem mz {K:W.Frag} {G:Hp} {ds:List D} {xs:List V} (r:Reps K G ds xs):∀ n:Nat,Reps K G (List.replicate n ds).flatten (List.replicate n xs).flatten
 | 0=>.nil
 | n + 1=>by
  rw [List.replicate_succ,List.replicate_succ,List.flatten_cons,List.flatten_cons]
  exact r.app (mz r n)
noncomputable def jN (a b:D):Res R:=match a,b with
 | .lst ds,.int k=>if 0≤k∧k < 1000000∧ds.length * k.toNat≤sizeLine then .ok (.l .f,.lst (List.replicate k.toNat ds).flatten) else .bad
 | a,b=>uA a b
theorem dW:OpR X (binaryOp .Mult) (rG X.K jN):=by
 rintro pins s σ H x y v u Q I rx ry ⟨G,fp,es,vs,a,b,r,⟨rel,k⟩,va,vb,e⟩
 unfold jN at e
 split at e
 ·rename_i ds j
  split at e
  ·rename_i hj
   cases e
   obtain ⟨p,xs,e1,h1,r1⟩:=va
   subst e1
   cases aW vb
   refine uE pins s σ H _ _ v u Q I rx ry ⟨p,j,xs,rfl,rfl,h1,by lia,by lia,by rw [r1.length];exact hj.2.2,fun q hq=>?_⟩
   obtain ⟨rel2,st2⟩:=rel.newL hq (mz r1 j.toNat)
   exact k _ _ G _ st2 rel2
  ·cases e
 ·exact uB pins s σ H _ _ v u Q I rx ry ⟨G,fp,es,vs,a,b,r,⟨rel,k⟩,va,vb,e⟩
noncomputable def zh (td ty tv:TE):TS:=fun Dd σ H=>tv σ H fun v H1=>td σ H1 fun x H2=>ty σ H2 fun y H3=>wz x y v H3 fun H4=>Dd.nx σ H4
theorem uF {o i value:Expr} {td ty tv:TE} {pos pos':Pos} (ho:PE X o td) (hi:PE X i ty) (hv:PE X value tv) (hs:swapsWith value (some (.Subscript o i pos')) pos.line X.env=pure false) :
  PS X (.Assign [.Subscript o i pos'] value pos) (zh td ty tv):=by
 intro pins s σ H Dd I h
 refine wpAny_Assign_Subscript (thn (hv pins s σ H _ I h) fun r s1 ⟨v,H1,I1,rv,q1⟩=>thn (ho pins s1 σ H1 _ I1 q1) fun u s2 ⟨x,H2,I2,rx,q2⟩=>thn (hi pins s2 σ H2 _ I2 q2) fun iv s3 ⟨y,H3,I3,ry,q3⟩=>?_) hs
 exact thn (qf pins s3 σ H3 x y v u iv r _ I3 rx ry rv q3) fun _ s4 ⟨H4,I4,q4⟩=>⟨σ,H4,I4,q4⟩
noncomputable def qO (i:Nat) (fk fv:FX):FS:=fun env=>(fv env).bind fun p=>(fk p.2).bind fun q=>match p.2[i]?,q.2[i]? with
 | some (some _),some (some (.l .f,.lst ds))=>(match q.1.2 with
  | .int k=>(match ixN ds.length k with
   | some j=>.ok (.nx (q.2.set i (some (.l .f,.lst (ds.set j p.1.2)))))
   | none=>.bad)
  | _=>.bad)
 | _,_=>.bad
theorem uG {i:Nat} {o ix value:Expr} {fk fv:FX} {pos pos':Pos} (ho:PE X o (p3 i)) (hi:QE X ix fk) (hv:QE X value fv) (hs:swapsWith value (some (.Subscript o ix pos')) pos.line X.env=pure false:=by rfl) :
  QS (md:=md) X (.Assign [.Subscript o ix pos'] value pos) (qO i fk fv):=dI (uF ho hi hv hs) fun Dd σ H hq0=>by
 obtain ⟨G,env,fp,rel,k⟩:=hq0
 unfold qO at k
 match q1:fv env,k with
 | .ok (r1,env1),k=>
  have k:OutOk X.K G H fp Dd ((fk env1).bind fun q=>match env1[i]?,q.2[i]? with
   | some (some _),some (some (.l .f,.lst ds))=>(match q.1.2 with
    | .int k=>(match ixN ds.length k with
     | some j=>.ok (.nx (q.2.set i (some (.l .f,.lst (ds.set j r1.2)))))
     | none=>.bad)
    | _=>.bad)
   | _,_=>.bad):=k
  match q2:fk env1,k with
  | .ok (r2,env2),k=>
   have k:OutOk X.K G H fp Dd (match env1[i]?,env2[i]? with
    | some (some _),some (some (.l .f,.lst ds))=>(match r2.2 with
     | .int k=>(match ixN ds.length k with
      | some j=>.ok (.nx (env2.set i (some (.l .f,.lst (ds.set j r1.2)))))
      | none=>.bad)
     | _=>.bad)
    | _,_=>.bad):=k
   split at k
   ·rename_i rr ds h1 h2
    split at k
    ·rename_i kk hkk
     split at k
     ·rename_i j hj
      refine ⟨G,env,fp,r1,env1,rel,q1,fun y H1 G1 fp1 st1 rel1=>?_⟩
      obtain ⟨G2,b,ry,rel2,st2⟩:=rel1.freeze
      obtain ⟨v0,ev0,_⟩:=rel2.view h1
      refine ⟨v0,ev0,G2,env1,b,r2,env2,rel2,q2,fun z H3 G3 fp3 st3 rel3=>?_⟩
      obtain ⟨G4,b4,rz,rel4,st4⟩:=rel3.freeze
      have ry':Rep X.K G4 r1.2 y:=Rep.mono (st3.gg.trans st4.gg) ry
      obtain ⟨p,xs,ep,hp,rs,cg⟩:=rel4.chg (ds':=ds.set j r1.2) h2
      rw [ev0] at ep
      cases ep
      rw [hkk] at rz
      have hz:=aZ rz
      obtain ⟨fq,rel5,st5⟩:=cg _ (rs.set j ry')
      exact ⟨p,xs,kk,j,rfl,hz,hp,by rw [rs.length];exact hj,k _ _ G4 fq (st1.trans (st2.trans (st3.trans (st4.trans st5)))) rel5⟩
     ·exact k.elim
    ·exact k.elim
   ·exact k.elim
end
section
variable {X:Cx}
theorem Rel.own {K:W.Frag} {G H:Hp} {es:PV.Env} {vs:L2.St} {fp:List Addr} {p:Addr} {u:HO} {tk:Bool} {ks ws:List D} {xs:List V} (q:Rel K G H es vs fp) (np:p∉fp) (gp:G p=none) (h:DictO u tk ks xs) (rs:Reps K G ws xs) :
  Rel K G (upd H p u) (some (.d,.dct tk ks ws) :: es) (some (.ref p) :: vs) (p :: fp):=by
 refine ⟨⟨some (.ref p),vs,rfl,.ref p,[p],fp,rfl,rfl,?_,q.rep.step (.refl _) fun z hz=>aA fun e=>np (e▸hz)⟩,List.nodup_cons.mpr ⟨np,q.nd⟩,fun z hz=>?_,fun b o e=>?_⟩
 ·rw [RepO]
  exact ⟨p,xs,u,rfl,aY,h,rfl,rs⟩
 ·rcases List.mem_cons.mp hz with rfl | hz
  ·exact gp
  ·exact q.gn z hz
 ·rw [aA fun z=>by subst z;rw [gp] at e;cases e]
  exact q.gh b o e
theorem Rel.aside {K:W.Frag} {G H:Hp} {es:PV.Env} {vs:L2.St} {fp:List Addr} {p:Addr} {u:HO} (q:Rel K G H es vs fp) (hp:H p=none):Rel K G (upd H p u) es vs fp:=by
 have np:p∉fp:=fun z=>by
  obtain ⟨u,e⟩:=q.rep.live p z
  rw [hp] at e;cases e
 exact ⟨q.rep.step (.refl _) fun z hz=>aA fun e=>np (e▸hz),q.nd,q.gn,fun b o e=>by rw [aA (aM (q.gh b o e) hp)];exact q.gh b o e⟩
theorem Step.aside {K:W.Frag} {G H G2 H2:Hp} {es:PV.Env} {vs:L2.St} {fp fp2:List Addr} {p:Addr} {u u2:HO} (q:Rel K G H es vs fp) (hp:H p=none) (hu:isT u=false) (st:Step G (upd H p u) fp G2 H2 fp2) :
  Step G H fp G2 (upd H2 p u2) (p :: fp2)∧p∉fp2∧G2 p=none∧H2 p=some u:=by
 have np:p∉fp:=fun z=>by
  obtain ⟨u,e⟩:=q.rep.live p z
  rw [hp] at e;cases e
 have ne:∀ {b o},H b=some o→b≠p:=fun e=>aM e hp
 refine ⟨⟨st.gg,fun b o e nb=>?_,fun b hb=>?_,fun b o e=>?_,fun b o e=>?_⟩,fun z=>?_,?_,st.keep p u aY np⟩
 ·rw [aA (ne e)]
  exact st.keep b o (by rw [aA (ne e)];exact e) nb
 ·rcases List.mem_cons.mp hb with rfl | hb
  ·exact .inr hp
  ·rcases st.fpn b hb with h | h
   ·exact .inl h
   ·by_cases e:b=p
    ·subst e;exact .inr hp
    ·rw [aA e] at h;exact .inr h
 ·rcases st.gnew b o e with h | h | h | ⟨h1,h2⟩
  ·exact .inl h
  ·exact .inr (.inl h)
  ·by_cases e:b=p
   ·subst e;exact .inr (.inr (.inl hp))
   ·rw [aA e] at h;exact .inr (.inr (.inl h))
  ·by_cases e:b=p
   ·subst e;exact .inr (.inr (.inl hp))
   ·rw [aA e] at h2;exact .inr (.inr (.inr ⟨h1,h2⟩))
 ·obtain ⟨o',h⟩:=st.there b o (by rw [aA (ne e)];exact e)
  exact ⟨o',by rw [aA (ne e)];exact h⟩
 ·rcases st.fpn p z with h | h
  ·exact np h
  ·rw [aY] at h;cases h
 ·cases e:G2 p with
  | none=>rfl
  | some o=>
   rcases st.gnew p o e with h | h | h | ⟨h1,h2⟩
   ·have:=q.gh p o h
    rw [hp] at this;cases this
   ·exact absurd h np
   ·rw [aY] at h;cases h
   ·rw [aY] at h2
    cases h2
    rw [hu] at h1;cases h1
noncomputable def xu (fk fv:FX):FX:=fun env=>(fk env).bind fun p=>(fv p.2).bind fun q=>if cM false p.1.2 then .ok ((.d,.dct false [p.1.2] [q.1.2]),q.2) else .bad
noncomputable def getD (ks vs:List D) (k:D):Option D:=((ks.zip vs).find? fun p=>eqD k p.1).map (·.2)
theorem iH {κ:Type} [DecidableEq κ] {K:W.Frag} {G:Hp} (f:κ→D) (hf:∀ a b,eqD (f a) (f b)=decide (a=b)) {k:κ}:∀ {kvs:List (κ×V)} {vs:List D},Reps K G vs (kvs.map (·.2))→((getD (kvs.map fun kv=>f kv.1) vs (f k)).isSome=(ko kvs k).isSome)∧∀ d,getD (kvs.map fun kv=>f kv.1) vs (f k)=some d→∃ v,ko kvs k=some v∧Rep K G d v
 | [],vs,r=>⟨rfl,fun d h=>nomatch h⟩
 | kv :: kvs,vs,r=>by
  cases vs with
  | nil=>have:=r.length;simp at this
  | cons d0 vs=>
   rw [List.map_cons,Reps.cons_iff] at r
   obtain ⟨h1,h2⟩:=iH f hf (k:=k) r.2
   unfold getD ko at h1 h2 ⊢
   rw [List.map_cons,List.zip_cons_cons]
   have e:eqD (f k) (f kv.1)=decide (kv.1=k):=by
    rw [hf,Bool.eq_iff_iff,decide_eq_true_eq,decide_eq_true_eq]
    exact ⟨fun z=>z.symm,fun z=>z.symm⟩
   by_cases hk:kv.1=k
   ·rw [List.find?_cons_of_pos (by show eqD (f k) (f kv.1)=true;rw [e];exact decide_eq_true hk),List.find?_cons_of_pos (by exact decide_eq_true hk)]
    refine ⟨rfl,fun d h=>?_⟩
    cases h
    exact ⟨_,rfl,r.1⟩
   ·rw [List.find?_cons_of_neg (by show ¬ eqD (f k) (f kv.1)=true;rw [e];simpa using hk),List.find?_cons_of_neg (by simpa using hk)]
    exact ⟨h1,h2⟩
theorem lB {K:W.Frag} {G H:Hp} (gh:Same G H) {tk:Bool} {ks vs:List D} {xs:List V} {o:HO} {p:Addr} {b:D} {y:V} (rd:Rd H p o) (dd:DictO o tk ks xs) (rs:Reps K G vs xs) (hk:cM tk b=true) (ry:Rep K G b y) :
  ∃ ov,DGet H p y ov∧(getD ks vs b).isSome=ov.isSome∧∀ d,getD ks vs b=some d→∃ v,ov=some v∧Rep K G d v:=by
 unfold cM at hk
 cases tk with
 | true=>
  rw [if_pos rfl,Option.isSome_iff_exists] at hk
  obtain ⟨kk,hk⟩:=hk
  obtain ⟨pz,ez,gz,dz⟩:=bz hk ry
  obtain ⟨kvs,eo,ek,ex,_⟩:=dd
  subst eo ex ez dz
  have ek:ks=kvs.map fun kv=>kT kv.1:=ek
  obtain ⟨h1,h2⟩:=iH (K:=K) (G:=G) kT sa (k:=kk) rs
  rw [←ek] at h1 h2
  exact ⟨ko kvs kk,.inr ⟨kvs,kk,pz,rd,rfl,gh _ _ gz,rfl⟩,h1,h2⟩
 | false=>
  rw [if_neg Bool.false_ne_true,Option.isSome_iff_exists] at hk
  obtain ⟨kk,hk⟩:=hk
  obtain ⟨ez,dz⟩:=gB hk ry
  obtain ⟨kvs,eo,ek,ex,_⟩:=dd
  subst eo ex ez dz
  obtain ⟨h1,h2⟩:=iH (K:=K) (G:=G) kD o9 (k:=kk) rs
  rw [←ek] at h1 h2
  exact ⟨ko kvs kk,.inl ⟨kvs,kk,rd,rfl,rfl⟩,h1,h2⟩
noncomputable def dgD (a b:D):Res R:=match a with
 | .dct tk ks vs=>if cM tk b then (match getD ks vs b with
  | some d=>.ok (.f,d)
  | none=>.bad) else .bad
 | _=>.bad
theorem zi {a b:Expr} {fa fb:FO} {pos:Pos} (hu:X.A.units + 1 < cLine) (ha:QO X a fa) (hb:QO X b fb) (hs:NoSl b:=by exact fun _ _=>rfl):QE X (.Subscript a b pos) (ap dgD fa fb):=
 bd (tW hu ha hb hs) fun σ H Q h=>by
  obtain ⟨G,env,fp,r,env',rel,e,k⟩:=h
  obtain ⟨⟨oa,e1⟩,ha,e⟩:=af e
  obtain ⟨⟨ob,e2⟩,hb,e⟩:=af e
  obtain ⟨da,hda,e⟩:=af e
  obtain ⟨db,hdb,e⟩:=af e
  obtain ⟨r',hr,e⟩:=af e
  cases e
  refine ⟨G,env,fp,oa,e1,rel,ha,fun x H1 G1 fp1 st1 rel1 ok1=>⟨G1,e1,fp1,ob,e2,rel1,hb,fun y H2 G2 fp2 st2 rel2 ok2=>?_⟩⟩
  have va:=rel2.vw (ok1.mono st2.gg) hda
  have vb:=rel2.vw ok2 hdb
  unfold dgD at hr
  split at hr
  ·rename_i tk ks vs
   split at hr
   ·rename_i hkey
    split at hr
    ·rename_i d hd
     cases hr
     obtain ⟨p,xs,o,ev,rd,dd,rs⟩:=va
     subst ev
     have vb':Rep X.K G2 db y:=by
      cases db with
      | lst l=>cases tk <;> simp [cM,dy,iw] at hkey
      | dct _ _ _=>cases tk <;> simp [cM,dy,iw] at hkey
      | _=>exact vb
     obtain ⟨ov,g,_,h2⟩:=lB rel2.gh rd dd rs hkey vb'
     obtain ⟨v,ho,rv⟩:=h2 d hd
     subst ho
     exact ⟨p,v,rfl,g,k _ H2 G2 fp2 (st1.trans st2) (rel2.push rv)⟩
    ·cases hr
   ·cases hr
  ·cases hr
noncomputable def inP (a b:D):Res R:=match b with
 | .dct tk ks vs=>if cM tk a then .ok (.f,.bl (getD ks vs a).isSome) else .bad
 | _=>inO a b
noncomputable def pf (a b:D):Res R:=match b with
 | .dct tk ks vs=>if cM tk a then .ok (.f,.bl (!(getD ks vs a).isSome)) else .bad
 | _=>nJ a b
theorem xv (hu:X.A.units + 65 < cLine):OpR X (compareOp .In) (rGA X.K inP):=by
 rintro pins s σ H x y v u Q I rx ry ⟨G,fp,es,vs,a,b,r,⟨rel,k⟩,va,vb,e⟩
 unfold inP at e
 split at e
 ·rename_i tk ks ws
  split at e
  ·rename_i hkey
   cases e
   obtain ⟨p,xs,o,ev,rd,dd,rs⟩:=vb
   subst ev
   cases ry
   obtain ⟨ov,g,h1,_⟩:=lB (K:=X.K) (G:=H) (fun _ _ z=>z) rd dd rs hkey va
   exact AF (by lia) I g rx fun s' I'=>⟨.bl ov.isSome,H,I',rfl,by rw [←h1];exact k _ H G fp .refl (rel.push (br _))⟩
  ·cases e
 ·exact zb hu pins s σ H x y v u Q I rx ry ⟨G,fp,es,vs,a,b,r,⟨rel,k⟩,va,vb,e⟩
theorem lC (hu:X.A.units + 65 < cLine):OpR X (compareOp .NotIn) (rGA X.K pf):=by
 rintro pins s σ H x y v u Q I rx ry ⟨G,fp,es,vs,a,b,r,⟨rel,k⟩,va,vb,e⟩
 unfold pf at e
 split at e
 ·rename_i tk ks ws
  split at e
  ·rename_i hkey
   cases e
   obtain ⟨p,xs,o,ev,rd,dd,rs⟩:=vb
   subst ev
   cases ry
   obtain ⟨ov,g,h1,_⟩:=lB (K:=X.K) (G:=H) (fun _ _ z=>z) rd dd rs hkey va
   exact tU (by lia) I g rx fun s' I'=>⟨.bl (!ov.isSome),H,I',rfl,by rw [←h1];exact k _ H G fp .refl (rel.push (br _))⟩
  ·cases e
 ·exact xg hu pins s σ H x y v u Q I rx ry ⟨G,fp,es,vs,a,b,r,⟨rel,k⟩,va,vb,e⟩
end
section
variable {K:W.Frag} {G G' H H':Hp} {es:PV.Env} {vs:L2.St} {fp:List Addr}
end
section
variable {X:Cx}
end
section
variable {X:Cx} {x:Str} {p pos:Pos} {e:Expr} {es:List Expr} {fs:FOs}
end
section
variable {K:W.Frag} {G G' H H':Hp}
end
section
variable {X:Cx} {md:Mode}
end
end PV
namespace NX
open PySem PySem.Spec PyProof.Rows L2
end NX
namespace PV
open PySem PySem.Spec PyProof.Rows L2 NX
section
variable {X:Cx}
end
end PV
namespace NX
open PySem PySem.Spec PyProof.Rows L2
section
variable {prog:Program} {w:World} {A:Around} {E:Value→Shared→Prop} {s:Shared}
end
section
variable {prog:Program} {w:World} {A:Around} {E:Value→Shared→Prop} {s:Shared}
end
section
variable {X:Cx} {e:Expr} {ta:TA} {p p2 pos pos2:Pos}
end
end NX
namespace PV
open PySem PySem.Spec PyProof.Rows L2 NX
section
variable {X:Cx} {e:Expr} {fs:FOs} {p p2 pos pos2:Pos}
end
end PV
namespace NX
open PySem PySem.Spec PyProof.Rows L2
section
open PySem.AutoSeq1 (wpAny_loadPart')
end
end NX
namespace PV
open PySem PySem.Spec PyProof.Rows L2 NX
section
variable {X:Cx}
end
section
variable {md:Mode} {X:Cx} {scope:Scope} {N:List Str} {tg iter elt:Expr} {ifs:List Expr} {pos:Pos} {fi:FI} {a:FG} {c:FT} {f:FX} {j k0:Nat}
end
section
variable {X:Cx} {x:Str} {p pos:Pos} {e:Expr} {es:List Expr} {f0:FX} {fs:FOs}
end
noncomputable def joinL (sep:List Nat):List (List Nat)→List Nat
 | []=>[]
 | [x]=>x
 | x :: y :: r=>x++sep++joinL sep (y :: r)
noncomputable def pg (sep:List Nat):List D→Res R
 | [.lst ds]=>match dU ds with
  | some ys=>if (ys.map List.length).sum + ys.length * sep.length≤16777216 then .ok (.f,.str (joinL sep ys)) else .bad
  | none=>.bad
 | _=>.bad
theorem ph (sep:List Nat):∀ ys:List (List Nat),Str.join (S sep) (ys.map S)=S (joinL sep ys)
 | []=>rfl
 | [x]=>rfl
 | x :: y :: r=>by
  have ih:=ph sep (y :: r)
  show S x++S sep++Str.join (S sep) ((y :: r).map S)=S (x++sep++joinL sep (y :: r))
  rw [ih]
  apply Str.ext'
  simp [Str.cps_append]
theorem xw (sep:List Nat):∀ ys:List (List Nat),Txt.join (S sep) (ys.map S)=S (joinL sep ys)
 | ys=>by
  show Builtin.Str.glued (S sep) (ys.map S)=_
  rw [StrLaws.glued_eq_join]
  exact ph sep ys
theorem kU (sep:List Nat):∀ ys:List (List Nat),(joinL sep ys).length≤(ys.map List.length).sum + ys.length * sep.length
 | []=>Nat.zero_le _
 | [x]=>by
  show x.length≤_
  rw [List.map_cons,List.sum_cons]
  lia
 | x :: y :: r=>by
  have ih:=kU sep (y :: r)
  show (x++sep++joinL sep (y :: r)).length≤_
  rw [List.length_append,List.length_append,List.map_cons,List.sum_cons,List.length_cons,Nat.add_mul]
  lia
theorem kW {K:W.Frag} {G:Hp}:∀ {ds:List D} {ys:List (List Nat)} {xs:List V} {us:List Value},dU ds=some ys→Reps K G ds xs→Vals xs us→StrsAre us (ys.map S)
 | [],ys,xs,us,e,r,v=>by
  cases e
  rw [Reps] at r
  subst r
  cases v
  exact .nil
 | .str b :: ds,ys,xs,us,e,r,v=>by
  rw [Reps] at r
  obtain ⟨y,zs,ex,r1,r2⟩:=r
  subst ex
  cases v with
  | cons h t=>
   rw [dU,Option.map_eq_some_iff] at e
   obtain ⟨ws,hw,rfl⟩:=e
   rw [Rep] at r1
   obtain ⟨r1,_⟩:=r1
   subst r1
   obtain ⟨tk,rfl⟩:=h
   exact .cons _ tk (kW hw r2 t)
 | .non :: _,_,_,_,e,_,_ | .bl _ :: _,_,_,_,e,_,_ | .int _ :: _,_,_,_,e,_,_ | .tup _ :: _,_,_,_,e,_,_ | .lst _ :: _,_,_,_,e,_,_ | .dct _ _ _ :: _,_,_,_,e,_,_=>by cases e
section
variable {X:Cx}
theorem uH:MtR X "str.join" (rMtS X.K pg):=by
 rintro pins s σ H x xs v us Q I rx rv ⟨G,fp,es,vs,l,ds,r,⟨rel,k⟩,ex,hz,vd,e⟩
 unfold pg at e
 split at e
 ·rename_i ds
  split at e
  ·rename_i ys hys
   split at e
   ·rename_i hb
    cases e
    subst ex
    obtain ⟨w',ew,p,zs,ep,sq,rs⟩:=nr vd
    subst ew ep
    obtain ⟨t,rfl⟩:=rx
    obtain ⟨u,rfl,ru⟩:=gS rv
    cases ru
    obtain ⟨its,r',pl,hz2⟩:=I.list sq
    refine join_list pl.isList (ys:=ys.map S) (kW hys rs r') ?_ fun t' kk=>?_
    ·rw [List.map_map,List.length_map]
     have e1:((fun x:Str=>x.length)∘S)=List.length:=by funext z;exact iR z
     rw [e1,iR]
     exact hb
    ·rw [xw]
     refine ⟨.str (S (joinL l ys)),H,I.tok _,⟨_,rfl⟩,k _ H G fp .refl (rel.push ?_)⟩
     rw [Rep]
     have:=kU l ys
     exact ⟨rfl,by rw [line_eq];lia⟩
   ·cases e
  ·cases e
 ·cases e
end
end PV
namespace NX
open PySem PySem.Spec PyProof.Rows L2
section
variable {prog:Program} {w:World} {A:Around} {R:Result→Shared→Prop} {it:Addr} {fp wr:List Addr} {n:Nat} {Pv:Nat→Value→Prop} {Sx:Nat→Heap→Prop} {kw:List (Str×Value)}
end
section
variable {X:Cx} {e k:Expr} {te tk:TE} {p pos kpos:Pos}
end
end NX
namespace PV
open PySem PySem.Spec PyProof.Rows L2 NX
section
variable {X:Cx}
end
section
variable {X:Cx}
end
section
variable {K:W.Frag} {G G' H H':Hp} {es:PV.Env} {vs:L2.St} {fp:List Addr}
end
section
variable {X:Cx} {x:Str} {p pos:Pos} {e:Expr} {es:List Expr} {f0:FX} {fs:FOs}
end
def SlR3 (X:Cx) (r:V→Option Int→Option Int→Option Int→Hp→VK→Prop):Prop:=
 ∀ (pins:List (Addr×Obj)) (s:Shared) (σ:L2.St) (H:Hp) (x:V) (v vl vu vt:Value) (lo hi st:Option Int) (sl:Addr) (Q:VK),Inv X pins σ H s→RelV x v→s.heap.IsSliceOf sl vl vu vt→IsPart vl lo→IsPart vu hi→IsPart vt st→r x lo hi st H Q→
  ∃ T id,typeLookup (.type T) "__getitem__" = pure (some (.builtin id))∧s.TypeIs v T∧wpAny (model X.prog X.w) X.A (getItem v (.ref sl)) (EP X pins σ Q) X.xe s
noncomputable def AO (r:V→Option Int→Option Int→Option Int→Hp→VK→Prop) (te:TE) (tl th ts:TO):TE:=fun σ H Q=>te σ H fun x H1=>tl σ H1 fun l H2=>th σ H2 fun u H3=>ts σ H3 fun t H4=>r x l u t H4 Q
theorem pi {X:Cx} {e:Expr} {te:TE} {lo hi:Option Expr} {se:Expr} {tl th ts:TO} {pos p2:Pos} {r:V→Option Int→Option Int→Option Int→Hp→VK→Prop} (hr:SlR3 X r) (he:PE X e te) (hl:PO X lo tl) (hu:PO X hi th) (hs:PO X (some se) ts):PE X (.Subscript e (.Slice lo hi (some se) p2) pos) (AO r te tl th ts):=by
 intro pins s σ H Q I h
 refine Subscript_ (thn (he pins s σ H _ I h) fun v s1 hqq=>?_)
 obtain ⟨x,H1,I1,r1,q1⟩:=hqq
 refine wpAny_Slice (thn (hl pins s1 σ H1 _ I1 q1) fun vl s2 ⟨l,H2,I2,pl,q2⟩=>thn (hu pins s2 σ H2 _ I2 q2) fun vu s3 ⟨u,H3,I3,pu,q3⟩=>thn (hs pins s3 σ H3 _ I3 q3) fun vt s4 hqq=>?_)
 obtain ⟨t,H4,I4,pt,q4⟩:=hqq
 have I5:Inv X pins σ H4 { s4 with heap:=s4.heap.push { cls:=.type "slice",data:=.fields #[vl,vu,vt] } }:=I4.kept (t':=s4.toks) fun b ob q=>Heap.get?_push_of_some _ q
 obtain ⟨T,id,hT,ht,hg⟩:=hr pins { s4 with heap:=s4.heap.push { cls:=.type "slice",data:=.fields #[vl,vu,vt] } } σ H4 x v vl vu vt l u t s4.heap.objs.size Q I5 r1 (Heap.IsSliceOf.new ..) pl pu pt q4
 show wpAny (model X.prog X.w) X.A (subscriptTail e (.Slice lo hi (some se) p2) v (.ref s4.heap.objs.size)) (EP X pins σ Q) X.xe { s4 with heap:=s4.heap.push { cls:=.type "slice",data:=.fields #[vl,vu,vt] } }
 exact tail_any (ops:=[v,.ref s4.heap.objs.size]) ht hT hg (by with_unfolding_all rfl)
noncomputable def dX {α:Type} (xs:List α) (lo hi:Option Int) (c:Int):List α:=
 (sliceRange (sliceBounds lo hi (some c) xs.length).1 (sliceBounds lo hi (some c) xs.length).2.1 (sliceBounds lo hi (some c) xs.length).2.2).filterMap (fun i=>xs[i]?)
theorem kX {K:W.Frag} {G:Hp} {ds:List D} {xs:List V} (r:Reps K G ds xs):∀ ix:List Nat,Reps K G (ix.filterMap fun i=>ds[i]?) (ix.filterMap fun i=>xs[i]?)
 | []=>.nil
 | i :: ix=>by
  have ih:=kX r ix
  cases e:ds[i]? with
  | none=>
   have e2:xs[i]?=none:=by
    rw [List.getElem?_eq_none_iff] at e ⊢
    rw [r.length]
    exact e
   rw [List.filterMap_cons_none e,List.filterMap_cons_none e2]
   exact ih
  | some d=>
   obtain ⟨v,e2,rv⟩:=r.get e
   rw [List.filterMap_cons_some e,List.filterMap_cons_some e2]
   exact .cons rv ih
theorem vals_pick {xs:List V} {us:List Value} (r:Vals xs us):∀ ix:List Nat,Vals (ix.filterMap fun i=>xs[i]?) (ix.filterMap fun i=>us[i]?)
 | []=>.nil
 | i :: ix=>by
  have ih:=vals_pick r ix
  cases e:xs[i]? with
  | none=>
   rw [List.filterMap_cons_none e,List.filterMap_cons_none (r.none_of e)]
   exact ih
  | some d=>
   obtain ⟨v,e2,rv⟩:=r.get e
   rw [List.filterMap_cons_some e,List.filterMap_cons_some e2]
   exact .cons rv ih
theorem mC (its:List Value) (lo hi:Option Int) (c:Int):slicePick its.toArray lo hi (some c)=(dX its lo hi c).toArray:=by
 unfold slicePick dX
 simp only [List.size_toArray,List.getElem?_toArray]
theorem uI (its:List Value) (lo hi:Option Int) (c:Int):(dX its lo hi c).length≤its.length:=by
 have:=slicePick_size_le its.toArray lo hi (some c)
 rw [mC] at this
 simpa using this
noncomputable def xx (k:D) (lo hi st:Option Int):Res R:=match k,st with
 | .lst ds,some c=>if c≠0 then .ok (.l .f,.lst (dX ds lo hi c)) else .bad
 | _,_=>.bad
noncomputable def xy (fa:FO) (lo hi st:FP):FX:=fun env=>(fa env).bind fun p=>(lo p.2).bind fun q=>(hi q.2).bind fun t=>(st t.2).bind fun u=>(der u.2 p.1).bind fun d=>(xx d q.1 t.1 u.1).bind fun r=>.ok (r,u.2)
section
variable {X:Cx} {pos:Pos} {fa:FO}
inductive rSl3 (K:W.Frag) (x:V) (lo:Option Int) (hi:Option Int) (st:Option Int) (H:Hp) (Q:VK):Prop
 | mk:∀ G fp es vs d r,Goes K H G fp es vs r Q→Vw K G H d x→xx d lo hi st=.ok r→rSl3 K x lo hi st H Q
theorem xz:SlR3 X (rSl3 X.K):=by
 rintro pins s σ H x v vl vu vt lo hi st sl Q I rx hs pl pu pt ⟨G,fp,es,vs,d,r,⟨rel,k⟩,vd,e⟩
 unfold xx at e
 split at e
 ·rename_i ds c
  split at e
  ·rename_i hc
   cases e
   obtain ⟨p,xs,ev,sq,rs⟩:=vd
   subst ev
   cases rx
   obtain ⟨its,r,ht,hz⟩:=I.list sq
   have hlen:=r.length
   refine ⟨"list",_,slot_list_getitem.lookup,ht.isList.typeIs,?_⟩
   refine wpAny_getItem_list_slice ht.isList hs pl pu pt (fun h=>hc (Option.some.inj h)) ?_ (by rw [List.size_toArray];lia)
   rw [mC]
   have r2:Vals (dX xs lo hi c) (dX its lo hi c):=by
    unfold dX
    rw [hlen]
    exact vals_pick r _
   have rs2:Reps X.K G (dX ds lo hi c) (dX xs lo hi c):=by
    unfold dX
    rw [rs.length]
    exact kX rs _
   have hz2:(dX xs lo hi c).length≤sizeLine:=by
    rw [r2.length]
    have:=uI its lo hi c
    lia
   have hq:=I.hok.fresh (Nat.le_refl s.heap.objs.size)
   obtain ⟨rel2,st2⟩:=rel.newL hq rs2
   refine ⟨.ref s.heap.objs.size,_,I.laid (t':=s.toks) (o:=.lst (dX xs lo hi c)) (fun b ob q=>Heap.get?_push_of_some _ q) (Nat.le_refl _) ?_,rfl,k _ _ G _ st2 rel2⟩
   exact ⟨hz2,_,0,r2,Heap.get?_push_size _ rfl⟩
  ·cases e
 ·cases e
theorem pj {e:Expr} {lo hi:Option Expr} {se:Expr} {p2:Pos} {fl fh fs:FP} (he:QO X e fa) (hl:QP X lo fl) (hh:QP X hi fh) (hs:QP X (some se) fs):QE X (.Subscript e (.Slice lo hi (some se) p2) pos) (xy fa fl fh fs):=
 bd (pi xz he hl hh hs) fun σ H Q hq0=>by
  obtain ⟨G,env,fp,r,env',rel,e,k⟩:=hq0
  obtain ⟨⟨o,env1⟩,e1,e⟩:=af e
  obtain ⟨⟨i,env2⟩,e2,e⟩:=af e
  obtain ⟨⟨j,env3⟩,e3,e⟩:=af e
  obtain ⟨⟨t,env4⟩,e4,e⟩:=af e
  obtain ⟨d,e5,e⟩:=af e
  obtain ⟨r',e6,e⟩:=af e
  cases e
  exact ⟨G,env,fp,o,env1,rel,e1,fun v H1 G1 fp1 st1 rel1 ok1=>⟨G1,env1,fp1,i,env2,rel1,e2,fun H2 G2 fp2 st2 rel2=>⟨G2,env2,fp2,j,env3,rel2,e3,fun H3 G3 fp3 st3 rel3=>⟨G3,env3,fp3,t,env4,rel3,e4,fun H4 G4 fp4 st4 rel4=>
   ⟨G4,fp4,env4,σ,d,r,⟨rel4,fun v H' G' fp' st rel'=>k v H' G' fp' (st1.trans (st2.trans (st3.trans (st4.trans st)))) rel'⟩,rel4.vw (((ok1.mono st2.gg).mono st3.gg).mono st4.gg) e5,e6⟩⟩⟩⟩⟩
end
section
variable {X:Cx}
noncomputable def uJ (fa fb fc:FX):FX:=fun env=>(fa env).bind fun p=>(fb p.2).bind fun q=>(fc q.2).bind fun t=>.ok ((.t [.f,q.1.1,t.1.1],.tup [p.1.2,q.1.2,t.1.2]),t.2)
theorem uK {a b c:Expr} {fa fb fc:FX} {x1} {pos:Pos} (ha:QE X a fa) (hb:QE X b fb) (hc:QE X c fc) (h1:starEach [a,b,c] X.env=(false,eval a X.env) :: starEach [b,c] X.env:=by rfl) (h2:starEach [b,c] X.env=(false,eval b X.env) :: starEach [c] X.env:=by rfl) (h3:starEach [c] X.env=(false,eval c X.env) :: starEach [] X.env:=by rfl) :
  QE X (.Tuple [a,b,c] x1 pos) (uJ fa fb fc):=
 bd (rD (fB ha (fB hb (fB hc lP h3) h2) h1)) fun σ H Q hq0=>by
  obtain ⟨G,env,fp,r,env',rel,e,k⟩:=hq0
  obtain ⟨⟨r1,env1⟩,e1,e⟩:=af e
  obtain ⟨⟨⟨o2,d2⟩,env2⟩,e2,e⟩:=af e
  obtain ⟨⟨⟨o3,d3⟩,env3⟩,e3,e⟩:=af e
  cases e
  refine ⟨G,env,fp,r1,env1,rel,e1,fun v H1 G1 fp1 st1 rel1=>?_⟩
  obtain ⟨G2,b,rv,rel2,st2⟩:=rel1.freeze
  refine ⟨G2,env1,b,(o2,d2),env2,rel2,e2,fun v2 H3 G3 fp3 st3 rel3=>?_⟩
  obtain ⟨a3,b3,ef3,ro3,relb3,bk3⟩:=rel3.frame
  refine ⟨G3,env2,b3,(o3,d3),env3,relb3,e3,fun v3 H4 G4 fp4 st4 rel4=>⟨by rw [line_eq];exact (by decide:3≤16777216),fun p hp=>?_⟩⟩
  obtain ⟨relz,stz⟩:=bk3 G4 H4 _ _ fp4 st4 rel4
  rw [←ef3] at stz
  obtain ⟨rel5,st5⟩:=relz.newF (u:=.tup [v,v2,v3]) hp
  refine k _ _ _ _ (st1.trans (st2.trans (st3.trans (stz.trans st5)))) ?_
  obtain ⟨y,ys,ey,v',a',b',ey2,ef,q1,q2⟩:=rel5.rep
  cases ey
  cases ey2
  obtain ⟨y,ys,ey,v'',a'',b'',ey2,ef',q3,q4⟩:=q2
  cases ey
  cases ey2
  subst ef'
  refine ⟨⟨some (.ref p),σ,rfl,.ref p,a'++a'',b'',rfl,by rw [ef,List.append_assoc],?_,q4⟩,rel5.nd,rel5.gn,rel5.gh⟩
  show RepO X.K _ _ (.t [.f,o2,o3]) (.tup [r1.2,d2,d3]) (.ref p) (a'++a'')
  rw [RepO]
  refine ⟨p,[v,v2,v3],rfl,aY,?_⟩
  rw [RepT]
  refine ⟨v,[v2,v3],[],a'++a'',rfl,rfl,gF.mpr ⟨Rep.mono (st3.gg.trans (stz.gg.trans st5.gg)) rv,rfl⟩,?_⟩
  rw [RepT]
  refine ⟨v2,[v3],a',a'',rfl,rfl,q1,?_⟩
  rw [RepT]
  refine ⟨v3,[],a'',[],rfl,by rw [List.append_nil],q3,?_⟩
  rw [RepT]
  exact ⟨rfl,rfl⟩
end
end PV
namespace L2
open PySem PySem.Spec PyProof.Rows NX
section
variable {X:Cx} {tg:Expr}
end
end L2
namespace PV
open PySem PySem.Spec PyProof.Rows L2 NX
section
variable {X:Cx} {tg:Expr}
noncomputable def pk (fk fv:FX):FX:=fun env=>(fk env).bind fun p=>(fv p.2).bind fun q=>if cM true p.1.2 then .ok ((.d,.dct true [p.1.2] [q.1.2]),q.2) else .bad
theorem qP {k v:Expr} {fk fv:FX} {pos:Pos} (hu:X.A.units + 1 < cLine) (hk:QE X k fk) (hv:QE X v fv):QE X (.Dict [some k] [v] pos) (pk fk fv):=
 bd (oH hu hk hv) fun σ H Q hq p hp=>by
  obtain ⟨G,env,fp,r,env',rel,e,kk⟩:=hq
  obtain ⟨⟨r1,env1⟩,e1,e⟩:=af e
  obtain ⟨⟨r2,env2⟩,e2,e⟩:=af e
  dsimp only at e
  split at e
  ·rename_i hkey
   cases e
   refine ⟨G,env,fp,r1,env1,rel.aside hp,e1,fun x H1 G1 fp1 st1 rel1=>?_⟩
   obtain ⟨G2,b,rx,rel2,st2⟩:=rel1.freeze
   refine ⟨G2,env1,b,r2,_,rel2,e2,fun y H3 G3 fp3 st3 rel3=>?_⟩
   obtain ⟨G4,b4,ry,rel4,st4⟩:=rel3.freeze
   have rx':Rep X.K G4 r1.2 x:=Rep.mono (st3.gg.trans st4.gg) rx
   unfold cM at hkey
   rw [if_pos rfl,Option.isSome_iff_exists] at hkey
   obtain ⟨kd,hkd⟩:=hkey
   obtain ⟨b',ex,gb,dx⟩:=bz hkd rx'
   have fk:∀ k∈kd,qC k:=by
    generalize r1.2=d at hkd rx'
    cases d with
    | tup ds=>
     obtain ⟨_,xs,_,_,rs⟩:=aQ rx'
     exact lA hkd rs
    | _=>cases hkd
   obtain ⟨st,np,gp,hp2⟩:=Step.aside (u2:=.dT [(kd,y)]) rel hp rfl (st1.trans (st2.trans (st3.trans st4)))
   exact ⟨hp2,kd,b',ex,rel4.gh _ _ gb,kk _ _ G4 _ st (rel4.own np gp ⟨[(kd,y)],rfl,by rw [dx];rfl,rfl,fun kv hkv=>by rw [List.mem_singleton.mp hkv];exact fk⟩ (.one ry))⟩
  ·cases e
end
abbrev FB:=PV.Env→Bool
noncomputable def vG (g:FS) (x:FB):FB:=fun env=>match g env with
 | .ok (.nx e)=>x e
 | _=>false
noncomputable def xIf (c:FT) (x:FB):FB:=fun env=>match c env with
 | .ok (true,e)=>x e
 | _=>false
noncomputable def po (fs:FOs):FB:=fun env=>match fs env with
 | .ok (os,_)=>decide (os.length≤3)
 | _=>false
inductive tX (K:W.Frag) (x:FB) (Ww:Hp→Prop) (σ:L2.St) (H:Hp):Prop
 | mk:∀ G env fp,Rel K G H env σ fp→x env=true→(∀ H' G' fp',Step G H fp G' H' fp'→Rel K G' H' [] [] []→Ww H')→tX K x Ww σ H
def QX (X:Cx) (st:List Stmt) (x:FB) (Ww:Hp→Prop):Prop:=PX X st (tX X.K x Ww)
section
variable {X:Cx} {st:Stmt} {sts:List Stmt} {g:FS} {x:FB} {Ww:Hp→Prop} {c:FT} {pos np cpos:Pos} {e:Expr} {es:List Expr} {fs:FOs} {C:Addr} {y:Str}
theorem pq (a:QS (md:=.plain) X.nox st g) (b:QX X sts x Ww):QX X (st :: sts) (vG g x) Ww:=oI (ue (wU a) b) fun σ H hq0=>by
 obtain ⟨G,env,fp,rel,e,k⟩:=hq0
 unfold vG at e
 match q:g env,e with
 | .ok (.nx env1),e=>
  refine ⟨G,env,fp,rel,?_⟩
  rw [q]
  exact fun σ1 H1 G1 fp1 st1 rel1=>⟨G1,env1,fp1,rel1,e,fun H' G' fp' st r=>k H' G' fp' (st1.trans st) r⟩
theorem zj {a b:List Stmt} {ct:Expr} (hc:QT X.nox ct c) (ha:QX X a x Ww):QX X (.If ct a b pos :: sts) (xIf c x) Ww:=oI (y2 (PT.nox hc) ha) fun σ H hq0=>by
 obtain ⟨G,env,fp,rel,e,k⟩:=hq0
 unfold xIf at e
 match q:c env,e with
 | .ok (true,env1),e=>exact ⟨G,env,fp,true,env1,rel,q,fun H1 G1 fp1 st1 rel1=>⟨rfl,G1,env1,fp1,rel1,e,fun H' G' fp' st r=>k H' G' fp' (st1.trans st) r⟩⟩
theorem mD {K:W.Frag} {G:Hp} {σ:L2.St}:∀ {os:List Opd} {vs:List V},kx K G σ os vs→vs.length=os.length
 | [],_,r=>by have r:_=[]:=r;rw [r];rfl
 | _ :: _,_,⟨y,ys,e,_,q⟩=>by rw [e,List.length_cons,List.length_cons,mD q]
theorem qQ (O:XCl X.mg X.base y C) (acc:Acc X C Ww) (hc:X.calm=true) (hg:Gl X y) (ha:QOs X.nox (e :: es) fs) (hdb:(y == ("__debug__" : Str))=false:=by decide)
  (he:starEach (e :: es) X.env=(false,eval e X.env) :: starEach es X.env:=by rfl) (hpl:(backTo cpos (starEach es X.env)).any (·.1)=false:=by rfl) :
  QX X (.Raise (some (.Call (.Name y np) (e :: es) [] cpos)) none pos :: sts) (po fs) Ww:=oI (qA O acc hc hg (wV ha) hdb he hpl) fun σ H hq0=>by
 obtain ⟨G,env,fp,rel,e,k⟩:=hq0
 unfold po at e
 match q:fs env,e with
 | .ok (os,env1),e=>
  refine ⟨G,env,fp,os,env1,rel,q,fun vs H1 G1 fp1 st1 rel1 ok1=>⟨?_,k H1 G1 fp1 st1 rel1.nilF⟩⟩
  rw [mD ok1]
  have e:decide (os.length≤3)=true:=e
  have:=of_decide_eq_true e
  rw [line_eq]
  lia
end
inductive spX (K:W.Frag) (C:Addr) (F:List D→Bool) (vs:List V) (H:Hp) (Q:VK) (E:XK):Prop
 | mk:∀ G ds,Same G H→Reps K G ds vs→F ds=true→(∀ H' G' fp',Step G H [] G' H' fp'→Rel K G' H' [] [] []→E (.ref C) none H')→spX K C F vs H Q E
noncomputable def pr (np nn:Nat) (x:FB):List D→Bool:=fun ds=>decide (ds.length=np) && x (ds.map (fun d=>some (O.f,d))++List.replicate nn none)
theorem xA {P:Program} {w:World} {K:W.Frag} {mg:Str→Option Value} {base:Heap} {x:Str} {st:Stmt} {N ps:List Str} {k:Nat} {gx:FB} {C:Addr} (Df:Def K mg x st) (sc:FnScope N ps (defScope st))
  (hb:∀ (kV doc pm:Value) (an:Option Addr) (cdv ct:Value) (us:List Value),us.length=ps.length→bindArgs (PySem.W.fnOf x x (dl st) (bN st) (defScope st) .none kV doc pm an cdv ct) ⟨us,[]⟩=pure (ps.zip us))
  (body:∀ (f:Addr) (cdv:Value) (A:Around) (outer:List PySem.Env) (s:Shared) (H:Hp) (E:XK),Room k (A.deeper (envOfC x (defScope st) s.heap.objs.size f cdv))→QX (nY (CXC P w base C) P w K mg base N x (defScope st) f cdv A outer s H E) (bN st) gx (fun H'=>E (.ref C) none H')) :
  CtX P w K mg base x (k + 1) C (spX K C (pr ps.length (N.length - ps.length) gx)):=by
 obtain ⟨f,fd,F,m⟩:=Df
 refine ⟨f,fd,ps,uf F sc (fun vs H Q E h=>?_) (fun cdv A outer s H vs Q E hr h=>?_),m,F.kp,F.binds hb⟩
 ·obtain ⟨G,ds,_,rs,e,_⟩:=h
  unfold pr at e
  have:=of_decide_eq_true ((Bool.and_eq_true _ _).mp e).1
  rw [rs.length,this]
 ·obtain ⟨G,ds,gh,rs,e,q⟩:=h
  unfold pr at e
  have hl:=of_decide_eq_true ((Bool.and_eq_true _ _).mp e).1
  have e:=((Bool.and_eq_true _ _).mp e).2
  refine ⟨_,body f cdv A outer s H E hr,G,ds.map (fun d=>some (O.f,d))++List.replicate (N.length - ps.length) none,[],⟨?_,List.nodup_nil,(fun _ h=>nomatch h),gh⟩,e,q⟩
  have:=fW (K:=K) (G:=G) (H:=H) (N.length - ps.length) rs
  unfold L2.gT
  rw [rs.length,hl]
  exact this
abbrev FXE:=PV.Env→Option PV.Env
inductive tQX (K:W.Frag) (x:FXE) (σ:L2.St) (H:Hp) (Ww:Hp→Prop):Prop
 | mk:∀ G env fp env',Rel K G H env σ fp→x env=some env'→(∀ H' G' fp',Step G H fp G' H' fp'→Rel K G' H' env' σ fp'→Ww H')→tQX K x σ H Ww
noncomputable def vH (F:List D→Bool) (fs:FOs):FXE:=fun env=>match fs env with
 | .ok (os,e)=>match ik e os with
  | .ok ds=>if F ds then some e else none
  | _=>none
 | _=>none
def QEX (X:Cx) (e:Expr) (C:Addr) (x:FXE):Prop:=PEX X e C (tQX X.K x)
def QSX (X:Cx) (st:List Stmt) (C:Addr) (x:FXE):Prop:=PSX X st C (tQX X.K x)
noncomputable def uL (x:FXE) (g h:FS):FS:=fun env=>match x env with
 | some e=>h e
 | none=>g env
section
variable {md:Mode} {X:Cx} {x:Str} {p pos:Pos} {e a b:Expr} {es:List Expr} {C:Addr} {F:List D→Bool} {fs:FOs} {k:Nat} {xe:FXE} {cj:List Stmt}
theorem uM (c:CtX X.prog X.w X.K X.mg X.base x k C (spX X.K C F)) (hr:Room k X.A) (hg:Gl X x) (ha:QOs X.nox (e :: es) fs) (hdb:(x == ("__debug__" : Str))=false:=by decide)
  (he:starEach (e :: es) X.env=(false,eval e X.env) :: starEach es X.env:=by rfl) (hpl:(backTo pos (starEach es X.env)).any (·.1)=false:=by rfl):QEX X (.Call (.Name x p) (e :: es) [] pos) C (vH F fs):=
 fun pins s σ H Ww I ⟨G,env,fp,env',rel,e,kk⟩=>qB c hr hg ha hdb he hpl pins s σ H Ww I (by
  unfold vH at e
  match q:fs env,e with
  | .ok (os,e1),e=>
   dsimp only at e
   match q2:ik e1 os,e with
   | .ok ds,e=>
    dsimp only at e
    split at e
    ·rename_i hF
     cases e
     refine ⟨G,env,fp,os,_,rel,q,fun vs H1 G1 fp1 st1 rel1 ok1=>?_⟩
     obtain ⟨G2,g12,g2h,hrep,_,hback⟩:=rel1.lend
     refine ⟨G2,ds,g2h,il g12 hrep ok1 q2,hF,fun H' G' fp' st rel'=>?_⟩
     obtain ⟨k1,_⟩:=hback H' G' [] (.f,.non) .non (st.trans (Step.cut fun _ h=>nomatch h)) (rel'.push jB)
     obtain ⟨G3,fp3,st3,rel3⟩:=k1 rfl
     obtain ⟨fq,rel4,st4⟩:=rel3.drop
     exact kk H' G3 fq (st1.trans (st3.trans st4)) rel4
    ·cases e)
theorem xB (h:QEX X a C xe):QEX X (.Subscript a b pos) C xe:=wW h
theorem uN {y:Str} {pos':Pos} (h:QEX X e C xe) (hs:swapsWith e (some (.Name y pos')) pos.line X.env=pure false:=by rfl):QSX X (.Assign [.Name y pos'] e pos :: cj) C xe:=ug h hs
theorem xC {body suite:List Stmt} {b0:Stmt} {np hpos:Pos} {g h:FS} (O:XCl X.mg X.base x C) (hg:Gl X x) (hn:QSs (md:=md) X.nox body g) (hx:QSX X body C xe) (hh:∀ a,QSs (md:=md) (handX X a) (b0 :: suite) h)
  (hs:X.stack=X.env :: X.outer:=by rfl) (hf:X.env.frame=some X.env.locals:=by rfl) (hdb:(x == ("__debug__" : Str))=false:=by decide) :
  QS (md:=md) X (.Try body [.ExceptHandler (some (.Name x np)) none (b0 :: suite) hpos] [] [] pos) (uL xe g h):=dI (wX (t:=tQS (md:=md) X.K g) (th:=tQS (md:=md) X.K h) (tx:=tQX X.K xe) O hg hn hx (fun a=>hh a) hs hf hdb) fun D σ H hq0=>by
 obtain ⟨G,env,fp,rel,kk⟩:=hq0
 unfold uL at kk
 cases q:xe env with
 | none=>
  rw [q] at kk
  exact .inl ⟨G,env,fp,rel,kk⟩
 | some e=>
  rw [q] at kk
  exact .inr ⟨G,env,fp,e,rel,q,fun H' G' fp' st rel'=>⟨G',e,fp',rel',OutOk.after st kk⟩⟩
end
end PV
namespace LW
open PySem L2 NX PV
noncomputable def dY:FS:=(dn (bM df (ag (ai (dv (or2 (nI (ap ixD (aj 0) (ai (au (.int 1))))) (or2 (dr (ap ixD (aj 0) (ai (au (.int 1))))) (dt (ap ixD (aj 0) (ai (au (.int 1))))))) [none] (aw 0) fP (ap ixD (aj 0) (ai (au (.int 0)))))) aD)))
noncomputable def a9:List D→Res R:=fBody 1 0 dY
noncomputable def mE:FS:=(sSeq (bB 3 (xr kP (ai (ap ixD (aj 0) (ai (au (.int 0))))) (ag (aj 2) aD)))
  (dn (bM vE (ag (ai (dv (kQ (ag (ai (aI 1)) (ag (ai (ap ixD (aj 0) (ai (au (.int 1))))) aD))) [none,none,some 3] (gY 2 (az (aw 0) (az (aw 1) cv))) fP (ap geO (aj 0) (ai (ap ixD (ai (ap ixD (aj 1) (ai (au (.int 1))))) (aj 2)))))) aD))))
noncomputable def eS:List D→Res R:=fBody 3 1 mE
noncomputable def pw:FS:=(sSeq (sIf (rR (eBl (dL eS (ag (aj 0) (ag (aj 1) (ag (aj 2) aD))))))
  (dn (au .non))
  cK)
  (sSeq (bB 3 (xr kP (ai (ap ixD (aj 0) (ai (au (.int 0))))) (ag (aj 2) aD)))
  (dn (bM df (ag (ai (dv (kQ (ag (ai (aI 1)) (ag (ai (ap ixD (aj 0) (ai (au (.int 1))))) aD))) [none,none,some 3] (gY 2 (az (aw 0) (az (aw 1) cv))) fP (ap cF (ai (ap qJ (aj 0) (ai (ap ixD (ai (ap ixD (aj 1) (ai (au (.int 1))))) (aj 2))))) (ai (ap ixD (ai (ap ixD (aj 1) (ai (au (.int 2))))) (aj 2)))))) aD)))))
noncomputable def dZ:List D→Res R:=fBody 3 1 pw
noncomputable def cx:FS:=(sSeq (bB 7 (dL dZ (ag (aj 0) (ag (aj 5) (ag (aj 6) aD)))))
  (sIf (eBl (c8 o0 (aj 7) (ai (au .non))))
  (sSeq (sIf (eBl (c8 pf (aj 7) (aj 2)))
  (sSeq (yu 2 (aI 7) (bM jZ (ag (aj 1) aD)))
  (io (oV 1 (jF (aH (aI 7) (aH (ap cF (ai (ap ixD (ai (ap ixD (aj 1) (aj 4))) (ai (au (.int 1))))) (ai (jF (aH (aI 6) bW)))) (aH (aI 4) bW)))))))
  cK)
  (io (oV 3 (jF (aH (aI 4) (aH (aI 6) (aH (ap dgD (aj 2) (aj 7)) bW)))))))
  cK))
noncomputable def d4:FS:=(nj (or2 (nI (ap ixD (aj 0) (ai (au (.int 0))))) (or2 (dr (ap ixD (aj 0) (ai (au (.int 0))))) (dt (ap ixD (aj 0) (ai (au (.int 0))))))) (aw 6)
  cx)
noncomputable def f8:FS:=(bB 4 (ap cF (aj 4) (ai (au (.int 1)))))
noncomputable def dB:FS:=(sSeq (bB 5 (ap ixD (ai (ap ixD (aj 1) (aj 4))) (ai (au (.int 0)))))
  (sSeq d4
  f8))
noncomputable def gL:FS:=(cP (eBl (kF ltO leD (aj 4) (ai (bM jZ (ag (aj 1) aD))) (ai (au (.int 12)))))
  dB 100000)
noncomputable def f9:FS:=(dn (jF (aH (aI 1) (aH (aI 3) bW))))
noncomputable def je:FS:=(sSeq (bB 1 (pW (aH (jF (aH (dL a9 (ag (aj 0) aD)) (aH (jF bW) (aH (au .non) bW)))) bW)))
  (sSeq (bB 2 (pk (ap ixD (ai (ap ixD (aj 1) (ai (au (.int 0))))) (ai (au (.int 0)))) (au (.int 0))))
  (sSeq (bB 3 (pW bW))
  (sSeq (bB 4 (au (.int 0)))
  (sSeq gL
  f9)))))
noncomputable def ba:List D→Res R:=fBody 1 7 je
noncomputable def mF:FS:=(sSeq (bB 1 (dL ba (ag (aj 0) aD)))
  (sSeq (bB 2 (dv (or2 (nI (ap ixD (aj 1) (ai (au (.int 0))))) (or2 (dr (ap ixD (aj 1) (ai (au (.int 0))))) (dt (ap ixD (aj 1) (ai (au (.int 0))))))) [none,none,none] (gY 3 (az (aw 0) (az (aw 1) (az (aw 2) cv)))) fP (aI 0)))
  (sSeq (sIf (eBl (ap gtD (ai (bM jZ (ag (aj 2) aD))) (ai (au (.int 12)))))
  rU
  cK)
  (dn (jF (aH (jF (aH (ap ixD (aj 0) (ai (au (.int 0)))) (aH (ap ixD (aj 1) (ai (au (.int 1)))) bW))) (aH (aI 2) bW)))))))
noncomputable def eT:List D→Res R:=fBody 1 2 mF
noncomputable def cy:List D→Bool:=pr 1 2 (vG (bB 1 (dL ba (ag (aj 0) aD)))
  (vG (bB 2 (dv (or2 (nI (ap ixD (aj 1) (ai (au (.int 0))))) (or2 (dr (ap ixD (aj 1) (ai (au (.int 0))))) (dt (ap ixD (aj 1) (ai (au (.int 0))))))) [none,none,none] (gY 3 (az (aw 0) (az (aw 1) (az (aw 2) cv)))) fP (aI 0)))
  (xIf (eBl (ap gtD (ai (bM jZ (ag (aj 2) aD))) (ai (au (.int 12))))) (po (ag (ai (au (.str [116,104,101,32,114,117,110,32,104,97,115,32,109,111,114,101,32,116,104,97,110,32,49,50,32,109,97,114,107,105,110,103,115]))) aD)))))
noncomputable def mG:FS:=(dn (bM vE (ag (ai (dv (kQ (ag (ai (aI 0)) (ag (ai (aI 1)) aD))) [none,none] (gY 2 (az (aw 0) (az (aw 1) cv))) fP (ap geO (aj 0) (aj 1)))) aD)))
noncomputable def dC:List D→Res R:=fBody 2 0 mG
noncomputable def a7:FS:=(bB 2 (ap ixD (ai (ap ixD (aj 0) (aj 2))) (ai (au (.int 2)))))
noncomputable def cG:FS:=(cP (yr (eBl (c8 o0 (aj 2) (ai (au .non)))) (rR (eBl (dL dC (ag (ai (ap ixD (ai (ap ixD (aj 0) (aj 1))) (ai (au (.int 0))))) (ag (ai (ap ixD (ai (ap ixD (aj 0) (aj 2))) (ai (au (.int 0))))) aD))))))
  a7 100000)
noncomputable def cr:FS:=(dn (iV 2))
noncomputable def di:FS:=(sSeq (bB 2 (ap ixD (ai (ap ixD (aj 0) (aj 1))) (ai (au (.int 2)))))
  (sSeq cG
  cr))
noncomputable def aN:List D→Res R:=fBody 2 1 di
noncomputable def b6:FS:=(sSeq (bB 3 (dL aN (ag (aj 1) (ag (aj 2) aD))))
  (sIf (eBl (c8 o0 (aj 3) (ai (au .non))))
  (sSeq (bB 4 (ap ixD (ai (ap ixD (aj 1) (aj 3))) (ai (au (.int 1)))))
  (dn (jF (aH (au (.str [103,114,111,119,115])) (aH (aI 4) (aH (vF (ai (ap ixD (ai (ap ixD (aj 1) (aj 2))) (ai (au (.int 1))))) (eX (bM jZ (ag (aj 4) aD))) oT) bW))))))
  cK))
noncomputable def gc:FS:=(nj (cC (ai (ap cF (ai (au (.int 12))) (ai (au (.int 1)))))) (aw 2)
  b6)
noncomputable def e9:FS:=(dn (jF (aH (au (.str [98,101,121,111,110,100])) bW)))
noncomputable def iI:FS:=(sSeq (bB 1 (ap ixD (ai (dL ba (ag (aj 0) aD))) (ai (au (.int 0)))))
  (sSeq (sIf (eBl (ap leD (ai (bM jZ (ag (aj 1) aD))) (ai (au (.int 12)))))
  (dn (jF (aH (au (.str [101,110,100,115])) (aH (bM jZ (ag (aj 1) aD)) bW))))
  cK)
  (sSeq gc
  e9)))
noncomputable def bX:List D→Res R:=fBody 1 4 iI
noncomputable def fe:FS:=(sSeq (sIf (eBl (ap ltO (aj 1) (ai (bM jZ (ag (aj 0) aD)))))
  (dn (ap ixD (aj 0) (aj 1)))
  cK)
  (dn (au (.int 0))))
noncomputable def aq:List D→Res R:=fBody 2 0 fe
noncomputable def gM:FS:=(sSeq (bB 2 (ap cF (ai (ap gA (aj 0) (ai (au (.int 2147483647))))) (ai (ap jN (ai (au (.int 48271))) (ai (ap cF (aj 1) (ai (au (.int 1)))))))))
  (sSeq (bB 2 (ap gA (ai (ap cF (ai (ap jN (aj 2) (aj 2))) (ai (ap jN (ai (au (.int 69621))) (aj 1))))) (ai (au (.int 2147483647)))))
  (dn (ap gA (ai (ap cF (ai (ap cF (ai (ap jN (aj 2) (aj 2))) (ai (ap jN (ai (au (.int 16807))) (aj 1))))) (ai (au (.int 1))))) (ai (au (.int 2147483647)))))))
noncomputable def aJ:List D→Res R:=fBody 2 1 gM
noncomputable def bS:FS:=(sSeq (bB 7 (vF (aj 2) oT (eX (aI 3))))
  (sSeq (qO 7 (aI 4) (ap gA (ai (ap cF (ai (ap ixD (aj 7) (aj 4))) (aj 6))) (ai (au (.int 26)))))
  (sSeq (sIf (eBl (c8 eqO (ai (ap gA (ai (ap eW (aj 0) (ai (au (.int 64))))) (ai (au (.int 4))))) (ai (au (.int 1)))))
  (bB 7 (vF (aj 2) oT (eX (ap cF (aj 6) (ai (au (.int 1)))))))
  cK)
  (io (oV 5 (ze pg (ai (au (.str []))) (ag (ai (dv (or2 (iW 7) (or2 (dr (aI 7)) (dt (aI 7)))) [none,some 1] (aw 0) fP (ap ixD (aj 1) (aj 0)))) aD)))))))
noncomputable def fg:FS:=(nj (cC (ai (au (.int 5)))) (aw 6)
  bS)
noncomputable def d5:FS:=(sSeq (sIf (eBl (c8 inP (ai (au (.str [109,111,118,101,115]))) (aj 5)))
  (bB 5 (dv (or2 (iW 5) (or2 (dr (aI 5)) (dt (aI 5)))) [none] (aw 0) fP (ap cF (ai (au (.str [115]))) (aj 0))))
  cK)
  (dn (bM iA (ag (aj 5) aD))))
noncomputable def gN:FS:=(sSeq (bB 1 (au (.str [97,98,99,100,101,102,103,104,105,106,107,108,109,110,111,112,113,114,115,116,117,118,119,120,121,122])))
  (sSeq (bB 2 (dv (cC (ai (au (.int 8)))) [none,some 0] (aw 0) fP (ap gA (ai (dL aJ (ag (aj 1) (ag (aj 0) aD)))) (ai (au (.int 26))))))
  (sSeq (bB 3 (ap cF (ai (au (.int 1))) (ai (ap gA (aj 0) (ai (au (.int 8)))))))
  (sSeq (bB 4 (ap gA (ai (ap eW (aj 0) (ai (au (.int 8))))) (aj 3)))
  (sSeq (bB 5 (pW bW))
  (sSeq fg
  d5))))))
noncomputable def bI:List D→Res R:=fBody 1 7 gN
noncomputable def bD:FS:=(sSeq (sIf (eBl (ap ltO (aj 5) (ai (ap ixD (ai (ap ixD (aj 6) (ai (au (.int 1))))) (aj 3)))))
  (dn (au .non))
  cK)
  (io (oV 4 (ap cF (ai (ap qJ (aj 5) (ai (ap ixD (ai (ap ixD (aj 6) (ai (au (.int 1))))) (aj 3))))) (ai (ap ixD (ai (ap ixD (aj 6) (ai (au (.int 2))))) (aj 3)))))))
noncomputable def dD:FS:=(nj (kQ (ag (ai (aI 1)) (ag (ai (ap ixD (aj 0) (ai (au (.int 1))))) aD))) (gY 2 (az (aw 5) (az (aw 6) cv)))
  bD)
noncomputable def fm:FS:=(dn (bM df (ag (aj 4) aD)))
noncomputable def iJ:FS:=(sSeq (bB 3 (xr kP (ai (ap ixD (aj 0) (ai (au (.int 0))))) (ag (aj 2) aD)))
  (sSeq (bB 4 (pW bW))
  (sSeq dD
  fm)))
noncomputable def bh:List D→Res R:=fBody 3 4 iJ
noncomputable def cV:FS:=(bB 3 (dL aJ (ag (ai (ap cF (aj 4) (aj 3))) (ag (aj 2) aD))))
noncomputable def gf:FS:=(nj (or2 (nI (xy (aj 0) (eX (ap cF (aj 1) (aj 2))) (eX (ap cF (aj 1) (ai (au (.int 84))))) (eX (au (.int 6))))) (or2 (dr (xy (aj 0) (eX (ap cF (aj 1) (aj 2))) (eX (ap cF (aj 1) (ai (au (.int 84))))) (eX (au (.int 6))))) (dt (xy (aj 0) (eX (ap cF (aj 1) (aj 2))) (eX (ap cF (aj 1) (ai (au (.int 84))))) (eX (au (.int 6))))))) (aw 4)
  cV)
noncomputable def ft:FS:=(dn (iV 3))
noncomputable def iK:FS:=(sSeq (bB 3 (ap cF (ai (au (.int 7))) (aj 2)))
  (sSeq gf
  ft))
noncomputable def bY:List D→Res R:=fBody 3 2 iK
noncomputable def cH:FS:=(sSeq (bB 5 (dL aJ (ag (aj 0) (ag (aj 4) aD))))
  (sSeq (bB 6 (ap qJ (ai (ap gA (aj 5) (ai (au (.int 5))))) (ai (au (.int 2)))))
  (sSeq (bB 7 (ap eW (ai (ap gA (ai (ap eW (aj 5) (ai (au (.int 8))))) (ai (au (.int 4))))) (ai (au (.int 3)))))
  (sSeq (io (oV 2 (ap cF (ai (bM maxD (ag (ai (au (.int 0))) (ag (ai (ap qJ (ai (au (.int 0))) (aj 6))) aD)))) (aj 7))))
  (io (oV 3 (ap cF (ai (bM maxD (ag (ai (au (.int 0))) (ag (aj 6) aD)))) (aj 7))))))))
noncomputable def fu:FS:=(nj (cC (aj 1)) (aw 4)
  cH)
noncomputable def d7:FS:=(dn (uJ (ap gA (ai (ap eW (aj 0) (ai (au (.int 16))))) (ai (au (.int 4)))) (iV 2) (iV 3)))
noncomputable def gO:FS:=(sSeq (bB 2 (pW bW))
  (sSeq (bB 3 (pW bW))
  (sSeq fu
  d7)))
noncomputable def bJ:List D→Res R:=fBody 2 6 gO
noncomputable def gj:FS:=(sSeq (bB 2 (ap cF (ai (au (.int 1))) (ai (ap gA (aj 1) (ai (ap vD (ai (au (.int 10))) (ai (au (.int 50)))))))))
  (sSeq (yv (aI 0) (gY 3 (az (aw 3) (az (aw 4) (az (aw 5) cv)))))
  (sSeq (bB 4 (bM df (ag (ai (dv (or2 (iW 4) (or2 (dr (aI 4)) (dt (aI 4)))) [none,some 2] (aw 0) fP (ap jN (aj 1) (aj 0)))) aD)))
  (dn (jF (aH (ap cF (ai (ap jN (aj 2) (aj 3))) (ai (ap gA (ai (ap eW (aj 1) (ai (au (.int 7))))) (aj 2)))) (aH (aI 4) (aH (bM df (ag (ai (dv (or2 (iW 5) (or2 (dr (aI 5)) (dt (aI 5)))) [none,some 2] (aw 0) fP (ap jN (aj 1) (aj 0)))) aD)) bW))))))))
noncomputable def bi:List D→Res R:=fBody 2 4 gj
noncomputable def bE:FS:=(sSeq (bB 5 (dL bY (ag (aj 0) (ag (aj 1) (ag (aj 4) aD)))))
  (sSeq (bB 6 (dL bJ (ag (aj 5) (ag (aj 2) aD))))
  (sSeq (io (oV 3 (dL bi (ag (aj 6) (ag (ai (dL aq (ag (aj 0) (ag (ai (ap cF (aj 1) (aj 4))) aD)))) aD)))))
  (sIf (eBl (ap gtD (ai (ap gA (ai (ap eW (aj 5) (ai (au (.int 64))))) (ai (au (.int 3))))) (ai (au (.int 0)))))
  (sSeq (bB 7 (jF (aH (ap gA (ai (ap eW (aj 5) (ai (au (.int 256))))) (ai (au (.int 4)))) (aH (ap ixD (ai (aI 6)) (ai (au (.int 2)))) (aH (ap ixD (ai (aI 6)) (ai (au (.int 1)))) bW)))))
  (io (oV 3 (dL bi (ag (aj 7) (ag (ai (dL aq (ag (aj 0) (ag (ai (ap cF (ai (ap cF (aj 1) (ai (au (.int 6))))) (aj 4))) aD)))) aD))))))
  cK))))
noncomputable def d8:FS:=(nj (cC (ai (ap cF (ai (au (.int 1))) (ai (ap gA (ai (ap eW (ai (dL aq (ag (aj 0) (ag (ai (au (.int 1))) aD)))) (ai (au (.int 4))))) (ai (au (.int 4)))))))) (aw 4)
  bE)
noncomputable def dJ:FS:=(dn (iV 3))
noncomputable def gk:FS:=(sSeq (bB 3 (pW bW))
  (sSeq d8
  dJ))
noncomputable def bj:List D→Res R:=fBody 3 5 gk
noncomputable def gP:FS:=(sSeq (bB 1 (dL bI (ag (ai (dL aq (ag (aj 0) (ag (ai (au (.int 0))) aD)))) aD)))
  (sSeq (bB 2 (dL aq (ag (aj 0) (ag (ai (au (.int 1))) aD))))
  (sSeq (bB 3 (ap cF (ai (au (.int 1))) (ai (ap gA (aj 2) (ai (au (.int 3)))))))
  (sSeq (bB 4 (ap gA (ai (ap eW (aj 2) (ai (au (.int 32))))) (ai (ap qJ (ai (au (.int 6))) (aj 3)))))
  (dn (bM df (ag (ai (vF (aj 1) (eX (aI 4)) (eX (ap cF (aj 4) (aj 3))))) aD)))))))
noncomputable def bK:List D→Res R:=fBody 1 4 gP
noncomputable def cW:FS:=(sSeq (sIf (eBl (c8 pf (aj 3) (ai (ap ixD (aj 0) (ai (au (.int 0)))))))
  (dn (au .non))
  cK)
  (sSeq (bB 1 (dL bh (ag (aj 0) (ag (aj 1) (ag (aj 3) aD)))))
  (sIf (eBl (c8 isO (aj 1) (ai (au .non))))
  (dn (au .non))
  cK)))
noncomputable def gl:FS:=(nj (or2 (nI (aI 2)) (or2 (dr (aI 2)) (dt (aI 2)))) (aw 3)
  cW)
noncomputable def fw:FS:=(dn (iV 1))
noncomputable def iL:FS:=(sSeq gl
  fw)
noncomputable def bF:List D→Res R:=fBody 3 1 iL
noncomputable def bT:FS:=(sIf (eBl (ap ltO (aj 8) (aj 7)))
  (dn (au (.bl false)))
  cK)
noncomputable def cX:FS:=(nj (kQ (ag (ai (aI 4)) (ag (ai (aI 6)) aD))) (gY 2 (az (aw 7) (az (aw 8) cv)))
  bT)
noncomputable def d9:FS:=(bB 4 (aI 6))
noncomputable def cI:FS:=(sSeq (bB 6 (dL bF (ag (aj 0) (ag (aj 4) (ag (aj 2) aD)))))
  (sSeq (sIf (bOr (eBl (c8 isO (aj 6) (ai (au .non)))) (eBl (c8 eqO (aj 6) (aj 4))))
  (dn (au (.bl false)))
  cK)
  (sSeq cX
  d9)))
noncomputable def fA:FS:=(nj (cC (aj 3)) (aw 5)
  cI)
noncomputable def eg:FS:=(dn (au (.bl true)))
noncomputable def gQ:FS:=(sSeq (sIf (bOr (rR (eBl (eIs "tuple" (aj 1)))) (rR (eBl (eIs "tuple" (aj 2)))))
  (dn (au (.bl false)))
  cK)
  (sSeq (bB 4 (dL bF (ag (aj 0) (ag (ai (bM df (ag (ai (dv (or2 (nI (ap ixD (aj 0) (ai (au (.int 1))))) (or2 (dr (ap ixD (aj 0) (ai (au (.int 1))))) (dt (ap ixD (aj 0) (ai (au (.int 1))))))) [none,none,none] (gY 3 (az (aw 0) (az (aw 1) (az (aw 2) cv)))) fP (aI 0))) aD))) (ag (aj 1) aD)))))
  (sSeq (sIf (eBl (c8 isO (aj 4) (ai (au .non))))
  (dn (au (.bl false)))
  cK)
  (sSeq fA
  eg))))
noncomputable def bL:List D→Res R:=fBody 4 5 gQ
noncomputable def xD:FS:=(sSeq (bB 1 (dL bK (ag (aj 0) aD)))
  (sSeq (bB 2 (jF (aH (aI 1) (aH (dL bj (ag (aj 0) (ag (ai (au (.int 2))) (ag (ai (bM jZ (ag (aj 1) aD))) aD)))) bW))))
  (sSeq (bB 3 (dL bX (ag (aj 2) aD)))
  (sSeq (bB 4 (au (.bl false)))
  (sSeq (bB 5 (pW bW))
  (sSeq (uL (vH cy (ag (aj 2) aD))
  (bB 5 (ap ixD (ai (dL eT (ag (aj 2) aD))) (ai (au (.int 1)))))
  (bB 4 (au (.bl true))))
  (sSeq (sIf (bOr (rR (eBl (eIs "tuple" (aj 3)))) (eBl (c8 pf (ai (ap ixD (aj 3) (ai (au (.int 0))))) (ai (jF (aH (au (.str [101,110,100,115])) (aH (au (.str [103,114,111,119,115])) (aH (au (.str [98,101,121,111,110,100])) bW))))))))
  (dn (au (.bl false)))
  cK)
  (sSeq (sIf (eBl (c8 eqO (ai (ap ixD (aj 3) (ai (au (.int 0))))) (ai (au (.str [101,110,100,115])))))
  (dn (yt (y3 (aI 4)) (c8 eqO (ai (ap ixD (aj 3) (ai (au (.int 1))))) (ai (bM jZ (ag (aj 5) aD))))))
  cK)
  (sSeq (sIf (eBl (c8 eqO (ai (ap ixD (aj 3) (ai (au (.int 0))))) (ai (au (.str [103,114,111,119,115])))))
  (dn (yt (aI 4) (dL bL (ag (aj 2) (ag (ai (ap ixD (aj 3) (ai (au (.int 1))))) (ag (ai (ap ixD (aj 3) (ai (au (.int 2))))) (ag (ai (ap cF (ai (au (.int 1))) (ai (ap gA (ai (dL aq (ag (aj 0) (ag (ai (au (.int 2))) aD)))) (ai (au (.int 40))))))) aD)))))))
  cK)
  (dn (iV 4)))))))))))
noncomputable def uO:List D→Res R:=fBody 1 5 xD
end LW
namespace LW
open PySem PySem.Spec PyProof.Rows L2 NX PV
theorem uP {α:Type} {Q:List α→Prop} (h:∀ a,Q [a]):∀ us,us.length=1→Q us
 | [a],_=>h a
theorem vI {α:Type} {Q:List α→Prop} (h:∀ a b,Q [a,b]):∀ us,us.length=2→Q us
 | [a,b],_=>h a b
theorem vJ {α:Type} {Q:List α→Prop} (h:∀ a b c,Q [a,b,c]):∀ us,us.length=3→Q us
 | [a,b,c],_=>h a b c
theorem AQ {α:Type} {Q:List α→Prop} (h:∀ a b c d,Q [a,b,c,d]):∀ us,us.length=4→Q us
 | [a,b,c,d],_=>h a b c d
noncomputable def top (i:Nat):Stmt:=PySem.Challenge.pw_netfinder_k24_rings_that_grow.main.body.getD i (.Pass ⟨0,0,0,0⟩)
theorem AR:Str.ofString "the run has more than 12 markings" = S [116,104,101,32,114,117,110,32,104,97,115,32,109,111,114,101,32,116,104,97,110,32,49,50,32,109,97,114,107,105,110,103,115]:=by decide +kernel
theorem z8:Str.ofString "beyond" = S [98,101,121,111,110,100]:=by decide +kernel
theorem zk:Str.ofString "grows" = S [103,114,111,119,115]:=by decide +kernel
theorem zl:Str.ofString "ends" = S [101,110,100,115]:=by decide +kernel
theorem AS:Str.ofString "moves" = S [109,111,118,101,115]:=by decide +kernel
theorem AT:Str.ofString "s" = S [115]:=by decide +kernel
theorem AU:Str.ofString "" = S []:=by decide +kernel
theorem AV:Str.ofString "abcdefghijklmnopqrstuvwxyz" = S [97,98,99,100,101,102,103,104,105,106,107,108,109,110,111,112,113,114,115,116,117,118,119,120,121,122]:=by decide +kernel
section
variable {P:Program} {w:World} {K:W.Frag} {mg:Str→Option Value} {base:Heap}
abbrev cJ:Stmt:=top 5
theorem g5:FnScope ["net"] ["net"] (defScope cJ):=⟨rfl,rfl,rfl,by decide +kernel,rfl,by decide +kernel,by decide +kernel⟩
theorem g6 (Df:Def K mg "first_marking" cJ) (z_tuple:mg "tuple" = none):Ct P w K mg base "first_marking" 1 (spF K a9):=
 du Df g5 (fun _ _ _ _ _ _=>uP fun _=>rfl) fun f cdv A outer s H E hr=>
  (ao (aR (cB dw (by rfl) z_tuple b5 (ad (aa (cR [none] ["place"] rfl (cq (dS (fF (aF (ac (pv 0)) (aa ah))) (dS (dO (aF (ac (pv 0)) (aa ah))) (dP (aF (ac (pv 0)) (aa ah)))))) (fun _ _ _ _ _=>(aE (i:=0) (show List.Nodup (["place"]:List Str) from by decide +kernel) rfl (lo rfl))) (fun _ _ _ _ _=>ck) (fun _ _ _ _ _=>(aF (ac (pv 0)) (aa ah))))) ak))))
abbrev jO:Stmt:=top 6
theorem kY:FnScope ["net","marking","move","at"] ["net","marking","move"] (defScope jO):=⟨rfl,rfl,rfl,by decide +kernel,rfl,by decide +kernel,by decide +kernel⟩
theorem px (Df:Def K mg "can_go" jO) (z_all:mg "all" = none) (z_zip:mg "zip" = none):Ct P w K mg base "can_go" 1 (spF K eS):=
 du Df kY (fun _ _ _ _ _ _=>vJ fun _ _ _=>rfl) fun f cdv A outer s H E hr=>
  (ae (ay (i:=3) kY.nd rfl (lo rfl) (pe PySem.F.slot_tuple_index PySem.F.type_tuple_index fI (aa (aF (ac (pv 0)) (aa ah))) (ad (ac (pv 2)) ak)))
  (ao (aR (bg (rX rfl) (by rfl) z_all si (ad (aa (cR [none,none,some 3] ["beads","place","at"] rfl (cq (iG (by rfl) z_zip (ad (aa (ax (pv 1))) (ad (aa (aF (ac (pv 0)) (aa ah))) ak)))) (fun _ _ _ _ _=>(fV rfl (aK (aE (i:=0) (show List.Nodup (["beads","place","at"]:List Str) from by decide +kernel) rfl (lo rfl)) (aK (aE (i:=1) (show List.Nodup (["beads","place","at"]:List Str) from by decide +kernel) rfl (lo rfl)) dq)))) (fun _ _ _ _ _=>ck) (fun _ _ _ _ _=>(rQ (r9 hr.units0) (ac (pv 0)) (aa (aF (aa (aF (ac (pv 1)) (aa ah))) (ac (pv 2)))) (bG _))))) ak)))))
abbrev lD:Stmt:=top 7
theorem mH:FnScope ["net","marking","move","at"] ["net","marking","move"] (defScope lD):=⟨rfl,rfl,rfl,by decide +kernel,rfl,by decide +kernel,by decide +kernel⟩
theorem qR (Df:Def K mg "moved" lD) (C_can_go:Ct P w K mg base "can_go" 1 (spF K eS)) (z_tuple:mg "tuple" = none) (z_zip:mg "zip" = none):Ct P w K mg base "moved" 2 (spF K dZ):=
 du Df mH (fun _ _ _ _ _ _=>vJ fun _ _ _=>rfl) fun f cdv A outer s H E hr=>
  (ae (c9 (kC (kB (aX C_can_go (hr.mono (by decide)) (by rfl) (ad (ac (pv 0)) (ad (ac (pv 1)) (ad (ac (pv 2)) ak))))))
  (ao (aR dM))
  a8)
  (ae (ay (i:=3) mH.nd rfl (lo rfl) (pe PySem.F.slot_tuple_index PySem.F.type_tuple_index fI (aa (aF (ac (pv 0)) (aa ah))) (ad (ac (pv 2)) ak)))
  (ao (aR (cB dw (by rfl) z_tuple b5 (ad (aa (cR [none,none,some 3] ["beads","place","at"] rfl (cq (iG (by rfl) z_zip (ad (aa (ax (pv 1))) (ad (aa (aF (ac (pv 0)) (aa ah))) ak)))) (fun _ _ _ _ _=>(fV rfl (aK (aE (i:=0) (show List.Nodup (["beads","place","at"]:List Str) from by decide +kernel) rfl (lo rfl)) (aK (aE (i:=1) (show List.Nodup (["beads","place","at"]:List Str) from by decide +kernel) rfl (lo rfl)) dq)))) (fun _ _ _ _ _=>ck) (fun _ _ _ _ _=>(aB aG (aa (aB kH (ac (pv 0)) (aa (aF (aa (aF (ac (pv 1)) (aa ah))) (ac (pv 2)))))) (aa (aF (aa (aF (ac (pv 1)) (aa ah))) (ac (pv 2)))))))) ak))))))
abbrev gC:Stmt:=top 9
theorem bn:FnScope ["net","met","numbers","arcs","looked_at","marking","move","coming"] ["net"] (defScope gC):=⟨rfl,rfl,rfl,by decide +kernel,rfl,by decide +kernel,by decide +kernel⟩
theorem lE (Df:Def K mg "explored" gC) (C_first_marking:Ct P w K mg base "first_marking" 1 (spF K a9)) (C_moved:Ct P w K mg base "moved" 2 (spF K dZ)) (g_MOST_STATES:Gi mg "MOST_STATES" (12)) (z_len:mg "len" = none):Ct P w K mg base "explored" 3 (spF K ba):=
 du Df bn (fun _ _ _ _ _ _=>uP fun _=>rfl) fun f cdv A outer s H E hr=>
  (ae (ay (i:=1) bn.nd rfl (lo rfl) (gG (av (cE (av (aX C_first_marking (hr.mono (by decide)) (by rfl) (ad (ac (pv 0)) ak)) (av (cE aT) (av dM aT)))) aT)))
  (ae (ay (i:=2) bn.nd rfl (lo rfl) (qP (hu_of hr) (aF (aa (aF (ac (pv 1)) (aa ah))) (aa ah)) ah))
  (ae (ay (i:=3) bn.nd rfl (lo rfl) (gG aT))
  (ae (ay (i:=4) bn.nd rfl (lo rfl) ah)
  (ae (ma 100000 PassesOwn.never (qF (mq hr.units0) w9 (ac (pv 4)) (aa (bg cU (by rfl) z_len bt_len (ad (ac (pv 1)) ak))) (aa (oM g_MOST_STATES (by rfl))))
  (ae (ay (i:=5) bn.nd rfl (lo rfl) (aF (aa (aF (ac (pv 1)) (ac (pv 4)))) (aa ah)))
  (ae (e7 PassesOwn.never rfl (dS (fF (aF (ac (pv 0)) (aa ah))) (dS (dO (aF (ac (pv 0)) (aa ah))) (dP (aF (ac (pv 0)) (aa ah))))) (aE (i:=6) bn.nd rfl (lo rfl))
  (ae (ay (i:=7) bn.nd rfl (lo rfl) (aX C_moved (hr.mono (by decide)) (by rfl) (ad (ac (pv 0)) (ad (ac (pv 5)) (ad (ac (pv 6)) ak)))))
  (ao (c9 (bO o4 (ac (pv 7)) (aa dM) (bG _))
  (ae (c9 (bO (lC hr.u65) (ac (pv 7)) (ac (pv 2)) (by with_unfolding_all rfl))
  (ae (xk (hu_of hr) (pv 2) (ax (pv 7)) (bg cU (by rfl) z_len bt_len (ad (ac (pv 1)) ak)))
  (ao (dN (ca (pv 1) (cE (av (ax (pv 7)) (av (aB aG (aa (aF (aa (aF (ac (pv 1)) (ac (pv 4)))) (aa ah))) (aa (cE (av (ax (pv 6)) aT)))) (av (ax (pv 4)) aT))))))))
  a8)
  (ao (dN (ca (pv 3) (cE (av (ax (pv 4)) (av (ax (pv 6)) (av (zi (hu_of hr) (ac (pv 2)) (ac (pv 7))) aT))))))))
  a8))))
  (ao (ay (i:=4) bn.nd rfl (lo rfl) (aB aG (ac (pv 4)) (aa ah)))))))
  (ao (aR (cE (av (ax (pv 1)) (av (ax (pv 3)) aT))))))))))
abbrev hX:Stmt:=top 10
theorem dj:FnScope ["net","found","markings"] ["net"] (defScope hX):=⟨rfl,rfl,rfl,by decide +kernel,rfl,by decide +kernel,by decide +kernel⟩
theorem pA (Df:Def K mg "run_of" hX) (C_explored:Ct P w K mg base "explored" 3 (spF K ba)) (g_MOST_STATES:Gi mg "MOST_STATES" (12)) (z_len:mg "len" = none):Ct P w K mg base "run_of" 4 (spF K eT):=
 du Df dj (fun _ _ _ _ _ _=>uP fun _=>rfl) fun f cdv A outer s H E hr=>
  (ae (ay (i:=1) dj.nd rfl (lo rfl) (aX C_explored (hr.mono (by decide)) (by rfl) (ad (ac (pv 0)) ak)))
  (ae (hV (i:=2) [none,none,none] ["marking","way","ahead"] dj.nd rfl (lo rfl) rfl (cq (dS (fF (aF (ac (pv 1)) (aa ah))) (dS (dO (aF (ac (pv 1)) (aa ah))) (dP (aF (ac (pv 1)) (aa ah)))))) (fun _ _ _ _ _=>(fV rfl (aK (aE (i:=0) (show List.Nodup (["marking","way","ahead"]:List Str) from by decide +kernel) rfl (lo rfl)) (aK (aE (i:=1) (show List.Nodup (["marking","way","ahead"]:List Str) from by decide +kernel) rfl (lo rfl)) (aK (aE (i:=2) (show List.Nodup (["marking","way","ahead"]:List Str) from by decide +kernel) rfl (lo rfl)) dq))))) (fun _ _ _ _ _=>ck) (fun _ _ _ _ _=>(ax (pv 0))))
  (ae (c9 (im uq (aa (bg cU (by rfl) z_len bt_len (ad (ac (pv 2)) ak))) (aa (oM g_MOST_STATES (by rfl))) (bG _))
  (ao qG)
  a8)
  (ao (aR (cE (av (cE (av (aF (ac (pv 0)) (aa ah)) (av (aF (ac (pv 1)) (aa ah)) aT))) (av (ax (pv 2)) aT))))))))
theorem ny (Df:Def K mg "run_of" hX) {cl_TooGreat:Addr} (C_explored:Ct P w K mg base "explored" 3 (spF K ba)) (X_TooGreat:XCl mg base "TooGreat" cl_TooGreat) (g_MOST_STATES:Gi mg "MOST_STATES" (12)) (z_len:mg "len" = none):CtX P w K mg base "run_of" 4 cl_TooGreat (spX K cl_TooGreat cy):=
 xA Df dj (fun _ _ _ _ _ _=>uP fun _=>rfl) fun f cdv A outer s H E hr=>
  (pq (ay (i:=1) dj.nd rfl (lo rfl) (aX C_explored (hr.mono (by decide)) (by rfl) (ad (ac (pv 0)) ak)))
  (pq (hV (i:=2) [none,none,none] ["marking","way","ahead"] dj.nd rfl (lo rfl) rfl (cq (dS (fF (aF (ac (pv 1)) (aa ah))) (dS (dO (aF (ac (pv 1)) (aa ah))) (dP (aF (ac (pv 1)) (aa ah)))))) (fun _ _ _ _ _=>(fV rfl (aK (aE (i:=0) (show List.Nodup (["marking","way","ahead"]:List Str) from by decide +kernel) rfl (lo rfl)) (aK (aE (i:=1) (show List.Nodup (["marking","way","ahead"]:List Str) from by decide +kernel) rfl (lo rfl)) (aK (aE (i:=2) (show List.Nodup (["marking","way","ahead"]:List Str) from by decide +kernel) rfl (lo rfl)) dq))))) (fun _ _ _ _ _=>ck) (fun _ _ _ _ _=>(ax (pv 0))))
  (zj (im uq (aa (bg cU (by rfl) z_len bt_len (ad (ac (pv 2)) ak))) (aa (oM g_MOST_STATES (by rfl))) (bG _)) (qQ X_TooGreat wS rfl (by rfl) (ad (aa (c7 AR (by decide))) ak)))))
abbrev jP:Stmt:=top 11
theorem pB:FnScope ["marking","other"] ["marking","other"] (defScope jP):=⟨rfl,rfl,rfl,by decide +kernel,rfl,by decide +kernel,by decide +kernel⟩
theorem pC (Df:Def K mg "covers" jP) (z_all:mg "all" = none) (z_zip:mg "zip" = none):Ct P w K mg base "covers" 1 (spF K dC):=
 du Df pB (fun _ _ _ _ _ _=>vI fun _ _=>rfl) fun f cdv A outer s H E hr=>
  (ao (aR (bg (rX rfl) (by rfl) z_all si (ad (aa (cR [none,none] ["beads","fewer"] rfl (cq (iG (by rfl) z_zip (ad (aa (ax (pv 0))) (ad (aa (ax (pv 1))) ak)))) (fun _ _ _ _ _=>(fV rfl (aK (aE (i:=0) (show List.Nodup (["beads","fewer"]:List Str) from by decide +kernel) rfl (lo rfl)) (aK (aE (i:=1) (show List.Nodup (["beads","fewer"]:List Str) from by decide +kernel) rfl (lo rfl)) dq)))) (fun _ _ _ _ _=>ck) (fun _ _ _ _ _=>(rQ (r9 hr.units0) (ac (pv 0)) (ac (pv 1)) (bG _))))) ak))))
abbrev bZ:Stmt:=top 12
theorem bU:FnScope ["met","number","ahead"] ["met","number"] (defScope bZ):=⟨rfl,rfl,rfl,by decide +kernel,rfl,by decide +kernel,by decide +kernel⟩
theorem gm (Df:Def K mg "nearest_covered" bZ) (C_covers:Ct P w K mg base "covers" 1 (spF K dC)):Ct P w K mg base "nearest_covered" 2 (spF K aN):=
 du Df bU (fun _ _ _ _ _ _=>vI fun _ _=>rfl) fun f cdv A outer s H E hr=>
  (ae (ay (i:=2) bU.nd rfl (lo rfl) (aF (aa (aF (ac (pv 0)) (ac (pv 1)))) (aa ah)))
  (ae (ma 100000 PassesOwn.never (QW.qt (wY (bO o4 (ac (pv 2)) (aa dM) (bG _)) (uk (kC (kB (aX C_covers (hr.mono (by decide)) (by rfl) (ad (aa (aF (aa (aF (ac (pv 0)) (ac (pv 1)))) (aa ah))) (ad (aa (aF (aa (aF (ac (pv 0)) (ac (pv 2)))) (aa ah))) ak))))))))
  (ao (ay (i:=2) bU.nd rfl (lo rfl) (aF (aa (aF (ac (pv 0)) (ac (pv 2)))) (aa ah)))))
  (ao (aR (fD (pv 2))))))
abbrev fJ:Stmt:=top 13
theorem cb:FnScope ["net","met","number","ahead","way"] ["net"] (defScope fJ):=⟨rfl,rfl,rfl,by decide +kernel,rfl,by decide +kernel,by decide +kernel⟩
theorem kZ (Df:Def K mg "growth_of" fJ) (C_explored:Ct P w K mg base "explored" 3 (spF K ba)) (C_nearest_covered:Ct P w K mg base "nearest_covered" 2 (spF K aN)) (g_MOST_STATES:Gi mg "MOST_STATES" (12)) (z_len:mg "len" = none) (z_range:mg "range" = none):Ct P w K mg base "growth_of" 4 (spF K bX):=
 du Df cb (fun _ _ _ _ _ _=>uP fun _=>rfl) fun f cdv A outer s H E hr=>
  (ae (ay (i:=1) cb.nd rfl (lo rfl) (aF (aa (aX C_explored (hr.mono (by decide)) (by rfl) (ad (ac (pv 0)) ak))) (aa ah)))
  (ae (c9 (im w9 (aa (bg cU (by rfl) z_len bt_len (ad (ac (pv 1)) ak))) (aa (oM g_MOST_STATES (by rfl))) (bG _))
  (ao (aR (cE (av (c7 zl (by decide)) (av (bg cU (by rfl) z_len bt_len (ad (ac (pv 1)) ak)) aT)))))
  a8)
  (ae (e7 PassesOwn.never rfl (de (by rfl) z_range (aa (aB aG (aa (oM g_MOST_STATES (by rfl))) (aa ah)))) (aE (i:=2) cb.nd rfl (lo rfl))
  (ae (ay (i:=3) cb.nd rfl (lo rfl) (aX C_nearest_covered (hr.mono (by decide)) (by rfl) (ad (ac (pv 1)) (ad (ac (pv 2)) ak))))
  (ao (c9 (bO o4 (ac (pv 3)) (aa dM) (bG _))
  (ae (ay (i:=4) cb.nd rfl (lo rfl) (aF (aa (aF (ac (pv 1)) (ac (pv 3)))) (aa ah)))
  (ao (aR (cE (av (c7 zk (by decide)) (av (ax (pv 4)) (av (mw (aa (aF (aa (aF (ac (pv 1)) (ac (pv 2)))) (aa ah))) (bQ (bg cU (by rfl) z_len bt_len (ad (ac (pv 4)) ak))) lw) aT)))))))
  a8))))
  (ao (aR (cE (av (c7 z8 (by decide)) aT)))))))
abbrev cY:Stmt:=top 15
theorem iM:FnScope ["_law_script","_law_k"] ["_law_script","_law_k"] (defScope cY):=⟨rfl,rfl,rfl,by decide +kernel,rfl,by decide +kernel,by decide +kernel⟩
theorem iN (Df:Def K mg "_law_cell_at" cY) (z_len:mg "len" = none):Ct P w K mg base "_law_cell_at" 1 (spF K aq):=
 du Df iM (fun _ _ _ _ _ _=>vI fun _ _=>rfl) fun f cdv A outer s H E hr=>
  (ae (c9 (im (mq hr.units0) (ac (pv 1)) (aa (bg cU (by rfl) z_len bt_len (ad (ac (pv 0)) ak))) (bG _))
  (ao (aR (aF (ac (pv 0)) (ac (pv 1)))))
  a8)
  (ao (aR ah)))
abbrev eh:Stmt:=top 16
theorem dE:FnScope ["_law_cell","_law_k","_law_number"] ["_law_cell","_law_k"] (defScope eh):=⟨rfl,rfl,rfl,by decide +kernel,rfl,by decide +kernel,by decide +kernel⟩
theorem jQ (Df:Def K mg "_law_mixed" eh):Ct P w K mg base "_law_mixed" 1 (spF K aJ):=
 du Df dE (fun _ _ _ _ _ _=>vI fun _ _=>rfl) fun f cdv A outer s H E hr=>
  (ae (ay (i:=2) dE.nd rfl (lo rfl) (aB aG (aa (aB bP (ac (pv 0)) (aa ah))) (aa (aB dW (aa ah) (aa (aB aG (ac (pv 1)) (aa ah)))))))
  (ae (ay (i:=2) dE.nd rfl (lo rfl) (aB bP (aa (aB aG (aa (aB dW (ac (pv 2)) (ac (pv 2)))) (aa (aB dW (aa ah) (ac (pv 1)))))) (aa ah)))
  (ao (aR (aB bP (aa (aB aG (aa (aB aG (aa (aB dW (ac (pv 2)) (ac (pv 2)))) (aa (aB dW (aa ah) (ac (pv 1)))))) (aa ah))) (aa ah))))))
abbrev ej:Stmt:=top 17
theorem aO:FnScope ["_law_cell","_law_letters","_law_base","_law_width","_law_spot","_law_names_here","_law_k","_law_moved_on"] ["_law_cell"] (defScope ej):=⟨rfl,rfl,rfl,by decide +kernel,rfl,by decide +kernel,by decide +kernel⟩
theorem jR (Df:Def K mg "_law_names" ej) (C__law_mixed:Ct P w K mg base "_law_mixed" 1 (spF K aJ)) (z_range:mg "range" = none) (z_sorted:mg "sorted" = none):Ct P w K mg base "_law_names" 2 (spF K bI):=
 du Df aO (fun _ _ _ _ _ _=>uP fun _=>rfl) fun f cdv A outer s H E hr=>
  (ae (ay (i:=1) aO.nd rfl (lo rfl) (c7 AV (by decide)))
  (ae (hV (i:=2) [none,some 0] ["_law_j","_law_cell"] aO.nd rfl (lo rfl) rfl (cq (de (by rfl) z_range (aa ah))) (fun _ _ _ _ _=>(aE (i:=0) (show List.Nodup (["_law_j","_law_cell"]:List Str) from by decide +kernel) rfl (lo rfl))) (fun _ _ _ _ _=>ck) (fun _ _ _ _ _=>(aB bP (aa (aX C__law_mixed (hr.mono (by decide)) (by rfl) (ad (ac (pv 1)) (ad (ac (pv 0)) ak)))) (aa ah))))
  (ae (ay (i:=3) aO.nd rfl (lo rfl) (aB aG (aa ah) (aa (aB bP (ac (pv 0)) (aa ah)))))
  (ae (ay (i:=4) aO.nd rfl (lo rfl) (aB bP (aa (aB cT (ac (pv 0)) (aa ah))) (ac (pv 3))))
  (ae (ay (i:=5) aO.nd rfl (lo rfl) (gG aT))
  (ae (e7 PassesOwn.never rfl (de (by rfl) z_range (aa ah)) (aE (i:=6) aO.nd rfl (lo rfl))
  (ae (ay (i:=7) aO.nd rfl (lo rfl) (mw (ac (pv 2)) lw (bQ (ax (pv 3)))))
  (ae (uG (pv 7) (ax (pv 4)) (aB bP (aa (aB aG (aa (aF (ac (pv 7)) (ac (pv 4)))) (ac (pv 6)))) (aa ah)))
  (ae (c9 (bO (oZ hr.units) (aa (aB bP (aa (aB cT (ac (pv 0)) (aa ah))) (aa ah))) (aa ah) (bG _))
  (ao (ay (i:=7) aO.nd rfl (lo rfl) (mw (ac (pv 2)) lw (bQ (aB aG (ac (pv 6)) (aa ah))))))
  a8)
  (ao (dN (ca (pv 5) (xm PySem.F.slot_str_join PySem.F.type_str_join uH (aa (c7 AU (by decide))) (ad (aa (cR [none,some 1] ["_law_j","_law_letters"] rfl (gK (jM (pv 7)) (gK (cq (dO (ax (pv 7)))) (cq (dP (ax (pv 7)))))) (fun _ _ _ _ _=>(aE (i:=0) (show List.Nodup (["_law_j","_law_letters"]:List Str) from by decide +kernel) rfl (lo rfl))) (fun _ _ _ _ _=>ck) (fun _ _ _ _ _=>(aF (ac (pv 1)) (ac (pv 0)))))) ak)))))))))
  (ae (c9 (bO (xv hr.u65) (aa (c7 AS (by decide))) (ac (pv 5)) (by with_unfolding_all rfl))
  (ao (hV (i:=5) [none] ["_law_name"] aO.nd rfl (lo rfl) rfl (gK (jM (pv 5)) (gK (cq (dO (ax (pv 5)))) (cq (dP (ax (pv 5)))))) (fun _ _ _ _ _=>(aE (i:=0) (show List.Nodup (["_law_name"]:List Str) from by decide +kernel) rfl (lo rfl))) (fun _ _ _ _ _=>ck) (fun _ _ _ _ _=>(aB aG (aa (c7 AT (by decide))) (ac (pv 0))))))
  a8)
  (ao (aR (bg (o8 rfl) (by rfl) z_sorted pc (ad (ac (pv 5)) ak)))))))))))
abbrev fK:Stmt:=top 18
theorem ci:FnScope ["_law_net","_law_marking","_law_move","_law_k","_law_after","_law_beads","_law_place_here"] ["_law_net","_law_marking","_law_move"] (defScope fK):=⟨rfl,rfl,rfl,by decide +kernel,rfl,by decide +kernel,by decide +kernel⟩
theorem k4 (Df:Def K mg "_law_step" fK) (z_tuple:mg "tuple" = none) (z_zip:mg "zip" = none):Ct P w K mg base "_law_step" 1 (spF K bh):=
 du Df ci (fun _ _ _ _ _ _=>vJ fun _ _ _=>rfl) fun f cdv A outer s H E hr=>
  (ae (ay (i:=3) ci.nd rfl (lo rfl) (pe PySem.F.slot_tuple_index PySem.F.type_tuple_index fI (aa (aF (ac (pv 0)) (aa ah))) (ad (ac (pv 2)) ak)))
  (ae (ay (i:=4) ci.nd rfl (lo rfl) (gG aT))
  (ae (e7 PassesOwn.never rfl (iG (by rfl) z_zip (ad (aa (ax (pv 1))) (ad (aa (aF (ac (pv 0)) (aa ah))) ak))) (fV rfl (aK (aE (i:=5) ci.nd rfl (lo rfl)) (aK (aE (i:=6) ci.nd rfl (lo rfl)) dq)))
  (ae (c9 (im (mq hr.units0) (ac (pv 5)) (aa (aF (aa (aF (ac (pv 6)) (aa ah))) (ac (pv 3)))) (bG _))
  (ao (aR dM))
  a8)
  (ao (dN (ca (pv 4) (aB aG (aa (aB kH (ac (pv 5)) (aa (aF (aa (aF (ac (pv 6)) (aa ah))) (ac (pv 3)))))) (aa (aF (aa (aF (ac (pv 6)) (aa ah))) (ac (pv 3))))))))))
  (ao (aR (cB dw (by rfl) z_tuple b5 (ad (ac (pv 4)) ak)))))))
abbrev fL:Stmt:=top 19
theorem cS:FnScope ["_law_script","_law_first","_law_k","_law_number","_law_cell"] ["_law_script","_law_first","_law_k"] (defScope fL):=⟨rfl,rfl,rfl,by decide +kernel,rfl,by decide +kernel,by decide +kernel⟩
theorem k7 (Df:Def K mg "_law_fold" fL) (C__law_mixed:Ct P w K mg base "_law_mixed" 1 (spF K aJ)):Ct P w K mg base "_law_fold" 2 (spF K bY):=
 du Df cS (fun _ _ _ _ _ _=>vJ fun _ _ _=>rfl) fun f cdv A outer s H E hr=>
  (ae (ay (i:=3) cS.nd rfl (lo rfl) (aB aG (aa ah) (ac (pv 2))))
  (ae (e7 PassesOwn.never rfl (dS (fF (pj (ac (pv 0)) (bQ (aB aG (ac (pv 1)) (ac (pv 2)))) (bQ (aB aG (ac (pv 1)) (aa ah))) (bQ ah))) (dS (dO (pj (ac (pv 0)) (bQ (aB aG (ac (pv 1)) (ac (pv 2)))) (bQ (aB aG (ac (pv 1)) (aa ah))) (bQ ah))) (dP (pj (ac (pv 0)) (bQ (aB aG (ac (pv 1)) (ac (pv 2)))) (bQ (aB aG (ac (pv 1)) (aa ah))) (bQ ah))))) (aE (i:=4) cS.nd rfl (lo rfl))
  (ao (ay (i:=3) cS.nd rfl (lo rfl) (aX C__law_mixed (hr.mono (by decide)) (by rfl) (ad (aa (aB aG (ac (pv 4)) (ac (pv 3)))) (ad (ac (pv 2)) ak))))))
  (ao (aR (fD (pv 3))))))
abbrev eA:Stmt:=top 20
theorem bo:FnScope ["_law_number","_law_count","_law_takes","_law_gives","_law_j","_law_mixed_here","_law_step_here","_law_loop"] ["_law_number","_law_count"] (defScope eA):=⟨rfl,rfl,rfl,by decide +kernel,rfl,by decide +kernel,by decide +kernel⟩
theorem jS (Df:Def K mg "_law_place" eA) (C__law_mixed:Ct P w K mg base "_law_mixed" 1 (spF K aJ)) (z_max:mg "max" = none) (z_range:mg "range" = none):Ct P w K mg base "_law_place" 2 (spF K bJ):=
 du Df bo (fun _ _ _ _ _ _=>vI fun _ _=>rfl) fun f cdv A outer s H E hr=>
  (ae (ay (i:=2) bo.nd rfl (lo rfl) (gG aT))
  (ae (ay (i:=3) bo.nd rfl (lo rfl) (gG aT))
  (ae (e7 PassesOwn.never rfl (de (by rfl) z_range (ac (pv 1))) (aE (i:=4) bo.nd rfl (lo rfl))
  (ae (ay (i:=5) bo.nd rfl (lo rfl) (aX C__law_mixed (hr.mono (by decide)) (by rfl) (ad (ac (pv 0)) (ad (ac (pv 4)) ak))))
  (ae (ay (i:=6) bo.nd rfl (lo rfl) (aB kH (aa (aB bP (ac (pv 5)) (aa ah))) (aa ah)))
  (ae (ay (i:=7) bo.nd rfl (lo rfl) (aB cT (aa (aB bP (aa (aB cT (ac (pv 5)) (aa ah))) (aa ah))) (aa ah)))
  (ae (dN (ca (pv 2) (aB aG (aa (bg (rZ rfl) (by rfl) z_max sf (ad (aa ah) (ad (aa (aB kH (aa ah) (ac (pv 6)))) ak)))) (ac (pv 7)))))
  (ao (dN (ca (pv 3) (aB aG (aa (bg (rZ rfl) (by rfl) z_max sf (ad (aa ah) (ad (ac (pv 6)) ak)))) (ac (pv 7)))))))))))
  (ao (aR (uK (aB bP (aa (aB cT (ac (pv 0)) (aa ah))) (aa ah)) (fD (pv 2)) (fD (pv 3))))))))
abbrev dF:Stmt:=top 21
theorem bt:FnScope ["_law_place_here","_law_cell","_law_factor","_law_beads","_law_takes","_law_gives"] ["_law_place_here","_law_cell"] (defScope dF):=⟨rfl,rfl,rfl,by decide +kernel,rfl,by decide +kernel,by decide +kernel⟩
theorem iX (Df:Def K mg "_law_scaled" dF) (z_tuple:mg "tuple" = none):Ct P w K mg base "_law_scaled" 1 (spF K bi):=
 du Df bt (fun _ _ _ _ _ _=>vI fun _ _=>rfl) fun f cdv A outer s H E hr=>
  (ae (ay (i:=2) bt.nd rfl (lo rfl) (aB aG (aa ah) (aa (aB bP (ac (pv 1)) (aa (aB w6 (aa ah) (aa ah)))))))
  (ae (xo (ax (pv 0)) (fV rfl (aK (aE (i:=3) bt.nd rfl (lo rfl)) (aK (aE (i:=4) bt.nd rfl (lo rfl)) (aK (aE (i:=5) bt.nd rfl (lo rfl)) dq)))))
  (ae (ay (i:=4) bt.nd rfl (lo rfl) (cB dw (by rfl) z_tuple b5 (ad (aa (cR [none,some 2] ["_law_take","_law_factor"] rfl (gK (jM (pv 4)) (gK (cq (dO (ax (pv 4)))) (cq (dP (ax (pv 4)))))) (fun _ _ _ _ _=>(aE (i:=0) (show List.Nodup (["_law_take","_law_factor"]:List Str) from by decide +kernel) rfl (lo rfl))) (fun _ _ _ _ _=>ck) (fun _ _ _ _ _=>(aB dW (ac (pv 1)) (ac (pv 0)))))) ak)))
  (ao (aR (cE (av (aB aG (aa (aB dW (ac (pv 2)) (ac (pv 3)))) (aa (aB bP (aa (aB cT (ac (pv 1)) (aa ah))) (ac (pv 2))))) (av (ax (pv 4)) (av (cB dw (by rfl) z_tuple b5 (ad (aa (cR [none,some 2] ["_law_give","_law_factor"] rfl (gK (jM (pv 5)) (gK (cq (dO (ax (pv 5)))) (cq (dP (ax (pv 5)))))) (fun _ _ _ _ _=>(aE (i:=0) (show List.Nodup (["_law_give","_law_factor"]:List Str) from by decide +kernel) rfl (lo rfl))) (fun _ _ _ _ _=>ck) (fun _ _ _ _ _=>(aB dW (ac (pv 1)) (ac (pv 0)))))) ak)) aT)))))))))
abbrev dG:Stmt:=top 22
theorem bu:FnScope ["_law_script","_law_first","_law_count","_law_places_here","_law_k","_law_number","_law_place_here","_law_mate"] ["_law_script","_law_first","_law_count"] (defScope dG):=⟨rfl,rfl,rfl,by decide +kernel,rfl,by decide +kernel,by decide +kernel⟩
theorem iY (Df:Def K mg "_law_places" dG) (C__law_cell_at:Ct P w K mg base "_law_cell_at" 1 (spF K aq)) (C__law_fold:Ct P w K mg base "_law_fold" 2 (spF K bY)) (C__law_place:Ct P w K mg base "_law_place" 2 (spF K bJ)) (C__law_scaled:Ct P w K mg base "_law_scaled" 1 (spF K bi)) (z_range:mg "range" = none):Ct P w K mg base "_law_places" 3 (spF K bj):=
 du Df bu (fun _ _ _ _ _ _=>vJ fun _ _ _=>rfl) fun f cdv A outer s H E hr=>
  (ae (ay (i:=3) bu.nd rfl (lo rfl) (gG aT))
  (ae (e7 PassesOwn.never rfl (de (by rfl) z_range (aa (aB aG (aa ah) (aa (aB bP (aa (aB cT (aa (aX C__law_cell_at (hr.mono (by decide)) (by rfl) (ad (ac (pv 0)) (ad (aa ah) ak)))) (aa ah))) (aa ah)))))) (aE (i:=4) bu.nd rfl (lo rfl))
  (ae (ay (i:=5) bu.nd rfl (lo rfl) (aX C__law_fold (hr.mono (by decide)) (by rfl) (ad (ac (pv 0)) (ad (ac (pv 1)) (ad (ac (pv 4)) ak)))))
  (ae (ay (i:=6) bu.nd rfl (lo rfl) (aX C__law_place (hr.mono (by decide)) (by rfl) (ad (ac (pv 5)) (ad (ac (pv 2)) ak))))
  (ae (dN (ca (pv 3) (aX C__law_scaled (hr.mono (by decide)) (by rfl) (ad (ac (pv 6)) (ad (aa (aX C__law_cell_at (hr.mono (by decide)) (by rfl) (ad (ac (pv 0)) (ad (aa (aB aG (ac (pv 1)) (ac (pv 4)))) ak)))) ak)))))
  (ao (c9 (im uq (aa (aB bP (aa (aB cT (ac (pv 5)) (aa ah))) (aa ah))) (aa ah) (bG _))
  (ae (ay (i:=7) bu.nd rfl (lo rfl) (cE (av (aB bP (aa (aB cT (ac (pv 5)) (aa ah))) (aa ah)) (av (aF (aa (ax (pv 6))) (aa ah)) (av (aF (aa (ax (pv 6))) (aa ah)) aT)))))
  (ao (dN (ca (pv 3) (aX C__law_scaled (hr.mono (by decide)) (by rfl) (ad (ac (pv 7)) (ad (aa (aX C__law_cell_at (hr.mono (by decide)) (by rfl) (ad (ac (pv 0)) (ad (aa (aB aG (aa (aB aG (ac (pv 1)) (aa ah))) (ac (pv 4)))) ak)))) ak)))))))
  a8))))))
  (ao (aR (fD (pv 3))))))
abbrev eB:Stmt:=top 23
theorem bV:FnScope ["_law_script","_law_names_here","_law_cell","_law_count","_law_start"] ["_law_script"] (defScope eB):=⟨rfl,rfl,rfl,by decide +kernel,rfl,by decide +kernel,by decide +kernel⟩
theorem jT (Df:Def K mg "_law_moves" eB) (C__law_cell_at:Ct P w K mg base "_law_cell_at" 1 (spF K aq)) (C__law_names:Ct P w K mg base "_law_names" 2 (spF K bI)) (z_tuple:mg "tuple" = none):Ct P w K mg base "_law_moves" 3 (spF K bK):=
 du Df bV (fun _ _ _ _ _ _=>uP fun _=>rfl) fun f cdv A outer s H E hr=>
  (ae (ay (i:=1) bV.nd rfl (lo rfl) (aX C__law_names (hr.mono (by decide)) (by rfl) (ad (aa (aX C__law_cell_at (hr.mono (by decide)) (by rfl) (ad (ac (pv 0)) (ad (aa ah) ak)))) ak)))
  (ae (ay (i:=2) bV.nd rfl (lo rfl) (aX C__law_cell_at (hr.mono (by decide)) (by rfl) (ad (ac (pv 0)) (ad (aa ah) ak))))
  (ae (ay (i:=3) bV.nd rfl (lo rfl) (aB aG (aa ah) (aa (aB bP (ac (pv 2)) (aa ah)))))
  (ae (ay (i:=4) bV.nd rfl (lo rfl) (aB bP (aa (aB cT (ac (pv 2)) (aa ah))) (aa (aB kH (aa ah) (ac (pv 3))))))
  (ao (aR (cB dw (by rfl) z_tuple b5 (ad (aa (mw (ac (pv 1)) (bQ (ax (pv 4))) (bQ (aB aG (ac (pv 4)) (ac (pv 3)))))) ak))))))))
abbrev fN:Stmt:=top 24
theorem eC:FnScope ["_law_net","_law_marking","_law_way","_law_move"] ["_law_net","_law_marking","_law_way"] (defScope fN):=⟨rfl,rfl,rfl,by decide +kernel,rfl,by decide +kernel,by decide +kernel⟩
theorem k8 (Df:Def K mg "_law_gone" fN) (C__law_step:Ct P w K mg base "_law_step" 1 (spF K bh)):Ct P w K mg base "_law_gone" 2 (spF K bF):=
 du Df eC (fun _ _ _ _ _ _=>vJ fun _ _ _=>rfl) fun f cdv A outer s H E hr=>
  (ae (e7 PassesOwn.never rfl (dS (fF (ax (pv 2))) (dS (dO (ax (pv 2))) (dP (ax (pv 2))))) (aE (i:=3) eC.nd rfl (lo rfl))
  (ae (c9 (bO (lC hr.u65) (ac (pv 3)) (aa (aF (ac (pv 0)) (aa ah))) (by with_unfolding_all rfl))
  (ao (aR dM))
  a8)
  (ae (ay (i:=1) eC.nd rfl (lo rfl) (aX C__law_step (hr.mono (by decide)) (by rfl) (ad (ac (pv 0)) (ad (ac (pv 1)) (ad (ac (pv 3)) ak)))))
  (ao (c9 (bO uu (ac (pv 1)) (aa dM) (bG _))
  (ao (aR dM))
  a8)))))
  (ao (aR (fD (pv 1)))))
abbrev eD:Stmt:=top 25
theorem bp:FnScope ["_law_net","_law_way","_law_ring","_law_often","_law_marking","_law_k","_law_after","_law_one","_law_other"] ["_law_net","_law_way","_law_ring","_law_often"] (defScope eD):=⟨rfl,rfl,rfl,by decide +kernel,rfl,by decide +kernel,by decide +kernel⟩
theorem jU (Df:Def K mg "_law_grows" eD) (C__law_gone:Ct P w K mg base "_law_gone" 2 (spF K bF)) (z_isinstance:mg "isinstance" = none) (z_range:mg "range" = none) (z_tuple:mg "tuple" = none) (z_zip:mg "zip" = none):Ct P w K mg base "_law_grows" 3 (spF K bL):=
 du Df bp (fun _ _ _ _ _ _=>AQ fun _ _ _ _=>rfl) fun f cdv A outer s H E hr=>
  (ae (c9 (QW.qt (ul (kC (kB (uv (T:="tuple") (by decide) (ac (pv 1)) (by rfl) z_isinstance (by rfl) z_tuple b5))) (oO (kC (kB (uv (T:="tuple") (by decide) (ac (pv 2)) (by rfl) z_isinstance (by rfl) z_tuple b5))))))
  (ao (aR kA))
  a8)
  (ae (ay (i:=4) bp.nd rfl (lo rfl) (aX C__law_gone (hr.mono (by decide)) (by rfl) (ad (ac (pv 0)) (ad (aa (cB dw (by rfl) z_tuple b5 (ad (aa (cR [none,none,none] ["_law_beads","_law_takes","_law_gives"] rfl (cq (dS (fF (aF (ac (pv 0)) (aa ah))) (dS (dO (aF (ac (pv 0)) (aa ah))) (dP (aF (ac (pv 0)) (aa ah)))))) (fun _ _ _ _ _=>(fV rfl (aK (aE (i:=0) (show List.Nodup (["_law_beads","_law_takes","_law_gives"]:List Str) from by decide +kernel) rfl (lo rfl)) (aK (aE (i:=1) (show List.Nodup (["_law_beads","_law_takes","_law_gives"]:List Str) from by decide +kernel) rfl (lo rfl)) (aK (aE (i:=2) (show List.Nodup (["_law_beads","_law_takes","_law_gives"]:List Str) from by decide +kernel) rfl (lo rfl)) dq))))) (fun _ _ _ _ _=>ck) (fun _ _ _ _ _=>(ax (pv 0))))) ak))) (ad (ac (pv 1)) ak)))))
  (ae (c9 (bO uu (ac (pv 4)) (aa dM) (bG _))
  (ao (aR kA))
  a8)
  (ae (e7 PassesOwn.never rfl (de (by rfl) z_range (ac (pv 3))) (aE (i:=5) bp.nd rfl (lo rfl))
  (ae (ay (i:=6) bp.nd rfl (lo rfl) (aX C__law_gone (hr.mono (by decide)) (by rfl) (ad (ac (pv 0)) (ad (ac (pv 4)) (ad (ac (pv 2)) ak)))))
  (ae (c9 (QW.qt (ul (bO uu (ac (pv 6)) (aa dM) (bG _)) (oO (bO (oZ hr.units) (ac (pv 6)) (ac (pv 4)) (bG _)))))
  (ao (aR kA))
  a8)
  (ae (e7 PassesOwn.never rfl (iG (by rfl) z_zip (ad (aa (ax (pv 4))) (ad (aa (ax (pv 6))) ak))) (fV rfl (aK (aE (i:=7) bp.nd rfl (lo rfl)) (aK (aE (i:=8) bp.nd rfl (lo rfl)) dq)))
  (ao (c9 (im (mq hr.units0) (ac (pv 8)) (ac (pv 7)) (bG _))
  (ao (aR kA))
  a8)))
  (ao (ay (i:=4) bp.nd rfl (lo rfl) (ax (pv 6))))))))
  (ao (aR kA))))))
abbrev jV:Stmt:=top 26
theorem gR:FnScope ["_law_script","_law_moves_here","_law_net","_law_found","_law_refused","_law_markings"] ["_law_script"] (defScope jV):=⟨rfl,rfl,rfl,by decide +kernel,rfl,by decide +kernel,by decide +kernel⟩
theorem xE {f:Addr} {fd:FuncData} (F:Fun K "law" "law" jV f fd) {cl_TooGreat:Addr} (CX_run_of:CtX P w K mg base "run_of" 4 cl_TooGreat (spX K cl_TooGreat cy)) (C__law_cell_at:Ct P w K mg base "_law_cell_at" 1 (spF K aq)) (C__law_grows:Ct P w K mg base "_law_grows" 3 (spF K bL)) (C__law_moves:Ct P w K mg base "_law_moves" 3 (spF K bK)) (C__law_places:Ct P w K mg base "_law_places" 3 (spF K bj)) (C_growth_of:Ct P w K mg base "growth_of" 4 (spF K bX)) (C_run_of:Ct P w K mg base "run_of" 4 (spF K eT)) (X_TooGreat:XCl mg base "TooGreat" cl_TooGreat) (z_isinstance:mg "isinstance" = none) (z_len:mg "len" = none) (z_tuple:mg "tuple" = none):FnOk P w K mg base CX0 5 f fd ["_law_script"] (spF K uO):=
 fnok_of F gR fun cdv A outer s H E hr=>
  (ae (ay (i:=1) gR.nd rfl (lo rfl) (aX C__law_moves (hr.mono (by decide)) (by rfl) (ad (ac (pv 0)) ak)))
  (ae (ay (i:=2) gR.nd rfl (lo rfl) (cE (av (ax (pv 1)) (av (aX C__law_places (hr.mono (by decide)) (by rfl) (ad (ac (pv 0)) (ad (aa ah) (ad (aa (bg cU (by rfl) z_len bt_len (ad (ac (pv 1)) ak))) ak)))) aT))))
  (ae (ay (i:=3) gR.nd rfl (lo rfl) (aX C_growth_of (hr.mono (by decide)) (by rfl) (ad (ac (pv 2)) ak)))
  (ae (ay (i:=4) gR.nd rfl (lo rfl) kA)
  (ae (ay (i:=5) gR.nd rfl (lo rfl) (gG aT))
  (ae (xC X_TooGreat (by rfl) (ao (ay (i:=5) gR.nd rfl (lo rfl) (aF (aa (aX C_run_of (hr.mono (by decide)) (by rfl) (ad (ac (pv 2)) ak))) (aa ah)))) (uN (xB (uM CX_run_of (hr.mono (by decide)) (by rfl) (ad (ac (pv 2)) ak)))) (fun _=>(ao (ay (i:=4) gR.nd rfl (lo rfl) kA))))
  (ae (c9 (QW.qt (ul (kC (kB (uv (T:="tuple") (by decide) (ac (pv 3)) (by rfl) z_isinstance (by rfl) z_tuple b5))) (oO (bO (lC hr.u65) (aa (aF (ac (pv 3)) (aa ah))) (aa (cE (av (c7 zl (by decide)) (av (c7 zk (by decide)) (av (c7 z8 (by decide)) aT))))) (by with_unfolding_all rfl)))))
  (ao (aR kA))
  a8)
  (ae (c9 (bO (oZ hr.units) (aa (aF (ac (pv 3)) (aa ah))) (aa (c7 zl (by decide))) (bG _))
  (ao (aR (rT (wZ (ax (pv 4))) (rS (uh (oZ hr.units) (aa (aF (ac (pv 3)) (aa ah))) (aa (bg cU (by rfl) z_len bt_len (ad (ac (pv 5)) ak))) (bG _))))))
  a8)
  (ae (c9 (bO (oZ hr.units) (aa (aF (ac (pv 3)) (aa ah))) (aa (c7 zk (by decide))) (bG _))
  (ao (aR (rT (ax (pv 4)) (rS (aX C__law_grows (hr.mono (by decide)) (by rfl) (ad (ac (pv 2)) (ad (aa (aF (ac (pv 3)) (aa ah))) (ad (aa (aF (ac (pv 3)) (aa ah))) (ad (aa (aB aG (aa ah) (aa (aB bP (aa (aX C__law_cell_at (hr.mono (by decide)) (by rfl) (ad (ac (pv 0)) (ad (aa ah) ak)))) (aa ah))))) ak)))))))))
  a8)
  (ao (aR (fD (pv 4)))))))))))))
end
end LW
namespace PV
open PySem L2 NX
class Cont (α β:Type) where
 run:α→Res β
noncomputable def Res.bnd {α β:Type} [f:Cont α β] (x:Res α):Res β:=x.bind f.run
theorem bOk {α β:Type} (a:α) (f:α→Res β):Res.bnd (Res.ok a) (f:=⟨f⟩)=f a:=id rfl
theorem bBad {α β:Type} (f:α→Res β):Res.bnd (Res.bad:Res α) (f:=⟨f⟩)=.bad:=id rfl
section
variable (env:PV.Env) (i n:Nat) (d:D) (f g:FX) (c c':FT) (fo fo' fo'':FO) (fs:FOs) (fd:FDs) (s t:FS) (op op':D→D→Res R) (F:List D→Res R) (a:FG) (as:FGs) (fi fj:FI) (fp fp':FP) (T:String)
theorem x_eCon:au d env=.ok ((.f,d),env):=id rfl
theorem x_eVarF:aI i env=match env[i]? with | some (some r)=>.ok ((.f,r.2),env.set i (some (fz r.1,r.2))) | _=>.bad:=id rfl
theorem x_fzF:fz .f=.f:=id rfl
theorem x_fzL (c:O):fz (.l c)=.f:=id rfl
theorem x_fzT (cs:List O):fz (.t cs)=.f:=id rfl
theorem x_fzD:fz .d=.f:=id rfl
theorem x_fzP (p:Addr):fz (.pin p .f)=.pin p .f:=id rfl
theorem x_fzPL (p:Addr) (c:O):fz (.pin p (.l c))=.f:=id rfl
theorem x_fzPD (p:Addr):fz (.pin p .d)=.f:=id rfl
theorem x_shalP (p:Addr):pV (.pin p .f)=true:=id rfl
theorem x_shalPL (p:Addr):pV (.pin p (.l .f))=true:=id rfl
theorem x_shalPD (p:Addr):pV (.pin p .d)=true:=id rfl
theorem x_eVarM:iV i env=match env[i]? with | some (some r)=>.ok (r,env.set i none) | _=>.bad:=id rfl
theorem x_oVal:ai f env=Res.bnd (f env) (f:=⟨fun p=>.ok (.val p.1.2,p.2)⟩):=id rfl
theorem x_oVar:aj i env=match env[i]? with | some (some _)=>.ok (.var i,env) | _=>.bad:=id rfl
theorem x_osNil:aD env=.ok ([],env):=id rfl
theorem x_osCons:ag fo fs env=Res.bnd (fo env) (f:=⟨fun p=>Res.bnd (fs p.2) (f:=⟨fun q=>.ok (p.1 :: q.1,q.2)⟩)⟩):=id rfl
theorem x_dsNil:bW env=.ok ([],env):=id rfl
theorem x_dsCons:aH f fd env=Res.bnd (f env) (f:=⟨fun p=>Res.bnd (fd p.2) (f:=⟨fun q=>.ok (p.1.2 :: q.1,q.2)⟩)⟩):=id rfl
theorem x_derV:der env (.val d)=.ok d:=id rfl
theorem x_derI:der env (.var i)=match env[i]? with | some (some r)=>if pV r.1 then .ok r.2 else .bad | _=>.bad:=id rfl
theorem x_derAV:ni env (.val d)=.ok d:=id rfl
theorem x_derAI:ni env (.var i)=match env[i]? with | some (some r)=>.ok r.2 | _=>.bad:=id rfl
theorem x_dersN:lg env []=.ok []:=id rfl
theorem x_dersC (o:Opd) (os:List Opd):lg env (o :: os)=Res.bnd (der env o) (f:=⟨fun d=>Res.bnd (lg env os) (f:=⟨fun ds=>.ok (d :: ds)⟩)⟩):=id rfl
theorem x_dersAN:ik env []=.ok []:=id rfl
theorem x_dersAC (o:Opd) (os:List Opd):ik env (o :: os)=Res.bnd (ni env o) (f:=⟨fun d=>Res.bnd (ik env os) (f:=⟨fun ds=>.ok (d :: ds)⟩)⟩):=id rfl
theorem x_shalF:pV .f=true:=id rfl
theorem x_shalL:pV (.l .f)=true:=id rfl
theorem x_shalD:pV .d=true:=id rfl
theorem x_eBin:ap op fo fo' env=Res.bnd (fo env) (f:=⟨fun p=>Res.bnd (fo' p.2) (f:=⟨fun q=>Res.bnd (der q.2 p.1) (f:=⟨fun a=>Res.bnd (der q.2 q.1) (f:=⟨fun b=>Res.bnd (op a b) (f:=⟨fun r=>.ok (r,q.2)⟩)⟩)⟩)⟩)⟩):=id rfl
theorem x_eBinA:c8 op fo fo' env=Res.bnd (fo env) (f:=⟨fun p=>Res.bnd (fo' p.2) (f:=⟨fun q=>Res.bnd (ni q.2 p.1) (f:=⟨fun a=>Res.bnd (ni q.2 q.1) (f:=⟨fun b=>Res.bnd (op a b) (f:=⟨fun r=>.ok (r,q.2)⟩)⟩)⟩)⟩)⟩):=id rfl
theorem x_eBl:eBl f env=Res.bnd (f env) (f:=⟨fun p=>match p.1.2 with | .bl k=>.ok (k,p.2) | _=>.bad⟩):=id rfl
theorem x_bAnd:yr c c' env=Res.bnd (c env) (f:=⟨fun p=>if p.1 then c' p.2 else .ok (false,p.2)⟩):=id rfl
theorem x_bOr:bOr c c' env=Res.bnd (c env) (f:=⟨fun p=>if p.1 then .ok (true,p.2) else c' p.2⟩):=id rfl
theorem x_bNot:rR c env=Res.bnd (c env) (f:=⟨fun p=>.ok (!p.1,p.2)⟩):=id rfl
theorem x_eAnd:yt f g env=Res.bnd (f env) (f:=⟨fun p=>match p.1.2 with | .bl true=>g p.2 | .bl false=>.ok ((.f,.bl false),p.2) | _=>.bad⟩):=id rfl
theorem x_eOr:eOr f g env=Res.bnd (f env) (f:=⟨fun p=>match p.1.2 with | .bl true=>.ok ((.f,.bl true),p.2) | .bl false=>g p.2 | _=>.bad⟩):=id rfl
theorem x_eNot:y3 f env=Res.bnd (f env) (f:=⟨fun p=>match p.1.2 with | .bl k=>.ok ((.f,.bl (!k)),p.2) | _=>.bad⟩):=id rfl
theorem x_eIf:eIf c f g env=Res.bnd (c env) (f:=⟨fun p=>if p.1 then f p.2 else g p.2⟩):=id rfl
theorem x_eChain:kF op op' fo fo' fo'' env=Res.bnd (fo env) (f:=⟨fun p=>Res.bnd (fo' p.2) (f:=⟨fun q=>Res.bnd (der q.2 p.1) (f:=⟨fun a=>Res.bnd (der q.2 q.1) (f:=⟨fun b=>Res.bnd (op a b) (f:=⟨fun r=>match r with
 | (.f,.bl true)=>Res.bnd (fo'' q.2) (f:=⟨fun t=>Res.bnd (der t.2 q.1) (f:=⟨fun b=>Res.bnd (der t.2 t.1) (f:=⟨fun c=>Res.bnd (op' b c) (f:=⟨fun r=>.ok (r,t.2)⟩)⟩)⟩)⟩)
 | (.f,.bl false)=>.ok ((.f,.bl false),q.2)
 | _=>.bad⟩)⟩)⟩)⟩)⟩):=id rfl
theorem x_eCall:bM F fs env=Res.bnd (fs env) (f:=⟨fun p=>Res.bnd (lg p.2 p.1) (f:=⟨fun ds=>Res.bnd (F ds) (f:=⟨fun r=>.ok (r,p.2)⟩)⟩)⟩):=id rfl
theorem x_eFun:dL F fs env=Res.bnd (fs env) (f:=⟨fun p=>Res.bnd (ik p.2 p.1) (f:=⟨fun ds=>Res.bnd (F ds) (f:=⟨fun r=>.ok (r,if bA r.1 r.2 then p.2 else p.2.map frz)⟩)⟩)⟩):=id rfl
theorem x_eTup:jF fd env=Res.bnd (fd env) (f:=⟨fun p=>if p.1.length≤1000 then .ok ((.f,.tup p.1),p.2) else .bad⟩):=id rfl
theorem x_eLst:pW fd env=Res.bnd (fd env) (f:=⟨fun p=>if p.1.length≤1000 then .ok ((.l .f,.lst p.1),p.2) else .bad⟩):=id rfl
theorem x_eSl:eSl fo fp fp' env=Res.bnd (fo env) (f:=⟨fun p=>Res.bnd (fp p.2) (f:=⟨fun q=>Res.bnd (fp' q.2) (f:=⟨fun t=>Res.bnd (der t.2 p.1) (f:=⟨fun d=>Res.bnd (slD d q.1 t.1) (f:=⟨fun r=>.ok (r,t.2)⟩)⟩)⟩)⟩)⟩):=id rfl
theorem x_pNone:oT env=.ok (none,env):=id rfl
theorem x_pSome:eX f env=Res.bnd (f env) (f:=⟨fun p=>match p.1.2 with | .int i=>.ok (some i,p.2) | _=>.bad⟩):=id rfl
theorem x_eApp:oV i f env=if oU env i then (Res.bnd (f env) (f:=⟨fun (p:R×PV.Env)=>match p.2[i]? with
 | some (some (.l .f,.lst ds))=>if ds.length < sizeLine then .ok ((.f,.non),p.2.set i (some (.l .f,.lst (ds++[p.1.2])))) else .bad
 | _=>.bad⟩)) else .bad:=id rfl
theorem x_isLst:oU env i=match env[i]? with | some (some (_,.lst _))=>true | _=>false:=id rfl
theorem x_eIs:eIs T fo env=Res.bnd (fo env) (f:=⟨fun p=>Res.bnd (ni p.2 p.1) (f:=⟨fun d=>.ok ((.f,.bl (o5 T d)),p.2)⟩)⟩):=id rfl
theorem x_eMaxD:zc f g env=Res.bnd (f env) (f:=⟨fun p=>Res.bnd (g p.2) (f:=⟨fun q=>match (lh p.1.2).bind dR,q.1.2 with | some ns,.int d=>.ok ((.f,.int (NX.maxD ns d)),q.2) | _,_=>.bad⟩)⟩):=id rfl
theorem x_eMtS (gg:List Nat→List D→Res R):ze gg fo fs env=Res.bnd (fo env) (f:=⟨fun p=>match der p.2 p.1 with
 | .ok (.str l)=>Res.bnd (fs p.2) (f:=⟨fun q=>Res.bnd (lg q.2 q.1) (f:=⟨fun ds=>Res.bnd (gg l ds) (f:=⟨fun r=>.ok (r,q.2)⟩)⟩)⟩)
 | _=>.bad⟩):=id rfl
theorem x_eNewD (tk:Bool):eNewD tk env=.ok ((.d,.dct tk [] []),env):=id rfl
theorem x_eComp (ix:List (Option Nat)):dv fi ix a c f env=Res.bnd (fi env) (f:=⟨fun p=>Res.bnd (cw a c f p.1 (cD ix p.2)) (f:=⟨fun ds=>if ds.length≤sizeLine then .ok ((.l .f,.lst ds),if flatDs ds then p.2 else p.2.map frz) else .bad⟩)⟩):=id rfl
theorem x_compEnvN:cD [] env=[]:=id rfl
theorem x_compEnvO (ix:List (Option Nat)):cD (none :: ix) env=none :: cD ix env:=id rfl
theorem x_compEnvS (ix:List (Option Nat)):cD (some i :: ix) env=(match env[i]? with | some (some r)=>some (O.f,r.2) | _=>none) :: cD ix env:=id rfl
theorem x_cYes:fP env=.ok (true,env):=id rfl
theorem x_compLN:cw a c f [] env=.ok []:=id rfl
theorem x_compLC (ds:List D):cw a c f (d :: ds) env=Res.bnd (a d env) (f:=⟨fun e=>Res.bnd (c e) (f:=⟨fun p=>if p.1 then (Res.bnd (f p.2) (f:=⟨fun q=>Res.bnd (cw a c f ds q.2) (f:=⟨fun rs=>.ok (q.1.2 :: rs)⟩)⟩)) else cw a c f ds p.2⟩)⟩):=id rfl
theorem xF:nI f env=Res.bnd (f env) (f:=⟨fun p=>match p.1.2 with | .lst ds=>.ok (ds,p.2) | _=>.bad⟩):=id rfl
theorem pD:dr f env=Res.bnd (f env) (f:=⟨fun p=>match p.1.2 with | .tup ds=>.ok (ds,p.2) | _=>.bad⟩):=id rfl
theorem pE:dt f env=Res.bnd (f env) (f:=⟨fun p=>match p.1.2 with | .str l=>.ok (l.map fun c=>.str [c],p.2) | _=>.bad⟩):=id rfl
theorem lF:or2 fi fj env=match fi env with | .ok a=>.ok a | _=>fj env:=by
 unfold or2
 cases fi env <;> rfl
theorem x_iAny:or2 (nI f) (or2 (dr f) (dt f)) env=Res.bnd (f env) (f:=⟨fun p=>match p.1.2 with
 | .lst ds=>.ok (ds,p.2)
 | .tup ds=>.ok (ds,p.2)
 | .str l=>.ok (l.map fun c=>.str [c],p.2)
 | _=>.bad⟩):=by
 rw [lF,lF,xF,pD,pE]
 cases f env with
 | ok p=>
  obtain ⟨⟨o,d⟩,e⟩:=p
  cases d <;> rfl
 | exc c=>rfl
 | bad=>rfl
theorem x_iAnyV:or2 (iW i) (or2 (dr (aI i)) (dt (aI i))) env=match env[i]? with
 | some (some (_,.lst ds))=>.ok (ds,env)
 | some (some (o,.tup ds))=>.ok (ds,env.set i (some (fz o,.tup ds)))
 | some (some (o,.str l))=>.ok (l.map fun c=>.str [c],env.set i (some (fz o,.str l)))
 | _=>.bad:=by
 rw [lF,lF,pD,pE,x_eVarF]
 unfold iW
 cases env[i]? with
 | none=>rfl
 | some r=>
  cases r with
  | none=>rfl
  | some r=>
   obtain ⟨o,d⟩:=r
   cases d <;> rfl
theorem x_iRange1:cC fo env=Res.bnd (fo env) (f:=⟨fun p=>Res.bnd (der p.2 p.1) (f:=⟨fun d=>match d with
 | .int j=>if -4611686018427387904≤j∧j < 4611686018427387904 then .ok ((List.range j.toNat).map fun (k:Nat)=>D.int (k:Int),p.2) else .bad
 | _=>.bad⟩)⟩):=id rfl
theorem x_iRange2:um fs env=Res.bnd (fs env) (f:=⟨fun p=>Res.bnd (lg p.2 p.1) (f:=⟨fun d=>match d with
 | [.int i,.int j]=>if (-4611686018427387904≤i∧i < 4611686018427387904)∧-4611686018427387904≤j∧j < 4611686018427387904 then .ok ((List.range (j - i).toNat).map fun (k:Nat)=>D.int (i + (k:Int)),p.2) else .bad
 | _=>.bad⟩)⟩):=id rfl
theorem x_iZipD (k1 k2:Bool):nq k1 k2 fs env=Res.bnd (fs env) (f:=⟨fun p=>match p.1 with
 | [.val d1,.val d2]=>Res.bnd (gy k1 d1) (f:=⟨fun a=>Res.bnd (gy k2 d2) (f:=⟨fun b=>.ok ((a.zip b).map fun z=>D.tup [z.1,z.2],p.2)⟩)⟩)
 | _=>.bad⟩):=id rfl
theorem x_aName:aw i d env=if i < env.length then .ok (env.set i (some (.f,d))) else .bad:=id rfl
theorem x_asNil:cv [] env=.ok env:=id rfl
theorem x_asCons (ds:List D):az a as (d :: ds) env=Res.bnd (a d env) (f:=⟨fun e=>as ds e⟩):=id rfl
theorem x_aTup (ds:List D):gY n as (.tup ds) env=if ds.length=n then as ds env else .bad:=id rfl
theorem x_sSeq:sSeq s t env=Res.bnd (s env) (f:=⟨fun o=>match o with | .nx e=>t e | o=>.ok o⟩):=id rfl
theorem x_sPass:cK env=.ok (.nx env):=id rfl
theorem x_sSet:bB i f env=Res.bnd (f env) (f:=⟨fun p=>if i < p.2.length then .ok (.nx (p.2.set i (some p.1))) else .bad⟩):=id rfl
theorem x_sDrop:io f env=Res.bnd (f env) (f:=⟨fun p=>.ok (.nx p.2)⟩):=id rfl
theorem x_sRet:dn f env=Res.bnd (f env) (f:=⟨fun p=>.ok (.rt p.1)⟩):=id rfl
theorem x_sIf:sIf c s t env=Res.bnd (c env) (f:=⟨fun p=>if p.1 then s p.2 else t p.2⟩):=id rfl
theorem x_sFor:nj fi a s env=Res.bnd (fi env) (f:=⟨fun p=>gZ a s p.1 p.2⟩):=id rfl
theorem x_forLN:gZ a s [] env=.ok (.nx env):=id rfl
theorem x_forLC (ds:List D):gZ a s (d :: ds) env=Res.bnd (a d env) (f:=⟨fun e=>Res.bnd (s e) (f:=⟨fun o=>match o with
 | .nx e=>gZ a s ds e
 | .ct e=>gZ a s ds e
 | .bk e=>.ok (.nx e)
 | .rt r=>.ok (.rt r)⟩)⟩):=id rfl
theorem x_sWhile:cP c s (n + 1) env=Res.bnd (c env) (f:=⟨fun p=>if p.1 then (Res.bnd (s p.2) (f:=⟨fun o=>match o with
  | .nx e=>cP c s n e
  | .ct e=>cP c s n e
  | .bk e=>.ok (.nx e)
  | .rt r=>.ok (.rt r)⟩)) else .ok (.nx p.2)⟩):=id rfl
theorem x_sPut:yu i f g env=Res.bnd (g env) (f:=⟨fun (p:R×PV.Env)=>Res.bnd (f p.2) (f:=⟨fun (q:R×PV.Env)=>match p.2[i]?,q.2[i]? with
 | some (some _),some (some (.d,.dct tk ks vs))=>if cM tk q.1.2 && decide (ks.length < sizeLine) then .ok (.nx (q.2.set i (some (.d,.dct tk (nv ks vs q.1.2 p.1.2).1 (nv ks vs q.1.2 p.1.2).2)))) else .bad
 | _,_=>.bad⟩)⟩):=id rfl
theorem x_sAsg:yv f a env=Res.bnd (f env) (f:=⟨fun p=>Res.bnd (a p.1.2 p.2) (f:=⟨fun e=>.ok (.nx e)⟩)⟩):=id rfl
theorem bc (ds:List D) (nn:Nat) (h:ds.length=n):fBody n nn s ds=Res.bnd (s (ds.map (fun d=>some (O.f,d))++List.replicate nn none)) (f:=⟨fun o=>match o with
 | .rt r=>.ok r
 | .nx _=>.ok (.f,.non)
 | _=>.bad⟩):=by
 unfold fBody
 rw [if_pos h]
 all_goals cases s (ds.map (fun d=>some (O.f,d))++List.replicate nn none) with
 | ok o=>cases o <;> rfl
 | exc c=>rfl
 | bad=>rfl
end
theorem line_le {n:Nat} (h:n≤16777216):n≤sizeLine:=by rw [line_eq];exact h
section
variable (a b:Int) (x y:List Nat) (p q:Bool) (ds es:List D)
theorem zm:eqO (.int a) (.int b)=.ok (.f,.bl (a == b)):=by simp only [eqO,plainD,eqD,Bool.and_self,if_true]
theorem zn:eqO (.str x) (.str y)=.ok (.f,.bl (x == y)):=by simp only [eqO,plainD,eqD,Bool.and_self,if_true]
theorem zo:neO (.int a) (.int b)=.ok (.f,.bl (!(a == b))):=by simp only [neO,plainD,eqD,Bool.and_self,if_true]
theorem zp:neO (.str x) (.str y)=.ok (.f,.bl (!(x == y))):=by simp only [neO,plainD,eqD,Bool.and_self,if_true]
theorem zq:neO (.bl p) (.bl q)=.ok (.f,.bl (!(p == q))):=by simp only [neO,plainD,eqD,Bool.and_self,if_true]
theorem xG:addD (.int a) (.int b)=.ok (.f,.int (a + b)):=id rfl
theorem xH:qJ (.int a) (.int b)=.ok (.f,.int (a - b)):=id rfl
theorem uQ:eW (.int a) (.int b)=if 0 < b∧b < 1073741824 then .ok (.f,.int (a / b)) else .bad:=id rfl
theorem xI:gA (.int a) (.int b)=if 0 < b then .ok (.f,.int (a % b)) else .bad:=id rfl
theorem xJ:vD (.int a) (.int b)=if 0≤b∧b≤1000000∧a.natAbs < 2 ^ 64 then .ok (.f,.int (a ^ b.toNat)) else .bad:=id rfl
theorem zr:ltO (.int a) (.int b)=.ok (.f,.bl (decide (a < b))):=id rfl
theorem zt:ltO (.str x) (.str y)=.ok (.f,.bl (decide (x < y))):=id rfl
theorem zu:leD (.int a) (.int b)=.ok (.f,.bl (decide (a≤b))):=id rfl
theorem zv:leD (.str x) (.str y)=.ok (.f,.bl (!decide (y < x))):=id rfl
theorem zw:gtD (.int a) (.int b)=.ok (.f,.bl (decide (b < a))):=id rfl
theorem zx:geO (.int a) (.int b)=.ok (.f,.bl (decide (b≤a))):=id rfl
theorem xK:jZ [.lst ds]=.ok (.f,.int ds.length):=id rfl
theorem xL:jZ [.tup ds]=.ok (.f,.int ds.length):=id rfl
theorem xM:jZ [.str x]=.ok (.f,.int x.length):=id rfl
theorem xN (tk:Bool):jZ [.dct tk ds es]=.ok (.f,.int ds.length):=id rfl
theorem uR:xc [.lst ds]=.ok (.l .f,.lst ds):=id rfl
theorem uS:xc [.tup ds]=.ok (.l .f,.lst ds):=id rfl
theorem qS:df [.lst ds]=.ok (.f,.tup ds):=id rfl
theorem qT:df [.tup ds]=.ok (.f,.tup ds):=id rfl
theorem xO:AI [.bl p]=.ok (.f,.int (if p then 1 else 0)):=id rfl
theorem zy:ixD (.lst ds) (.int a)=match atI ds a with | some d=>.ok (.f,d) | none=>.bad:=id rfl
theorem zH:ixD (.tup ds) (.int a)=match atI ds a with | some d=>.ok (.f,d) | none=>.bad:=id rfl
theorem zI:ixD (.str x) (.int a)=match atI x a with | some c=>.ok (.f,.str [c]) | none=>.bad:=id rfl
theorem zJ (lo hi:Option Int):slD (.lst ds) lo hi=.ok (.l .f,.lst (e8 ds lo hi)):=id rfl
theorem zL (lo hi:Option Int):slD (.str x) lo hi=.ok (.f,.str (e8 x lo hi)):=id rfl
theorem xP:maxD [.int a,.int b]=.ok (.f,.int (if a < b then b else a)):=id rfl
theorem pF (bs:List Bool):vE [.lst (bs.map D.bl)]=.ok (.f,.bl (bs.all id)):=by
 unfold vE
 show (match kI (bs.map D.bl) with | some bs=>_ | none=>_)=_
 rw [oW]
theorem zM:isO (.bl p) (.bl q)=.ok (.f,.bl (p == q)):=id rfl
theorem xQ:o0 (.bl p) (.bl q)=.ok (.f,.bl (!(p == q))):=id rfl
theorem at0 {α:Type} (d:α) (l:List α):atI (d :: l) 0=some d:=by
 have:=ia (xs:=d :: l) (j:=0) (v:=d) rfl
 simpa using this
theorem at1 {α:Type} (c d:α) (l:List α):atI (c :: d :: l) 1=some d:=by
 have:=ia (xs:=c :: d :: l) (j:=1) (v:=d) rfl
 simpa using this
end
theorem flat_ints (l:List Int):flatDs (l.map D.int)=true:=by
 rw [bH,List.all_map,List.all_eq_true]
 intro b _
 rfl
theorem jW (l:List Bool):flatDs (l.map D.bl)=true:=by
 rw [bH,List.all_map,List.all_eq_true]
 intro b _
 rfl
theorem flat_strs (l:List (List Nat)):flatDs (l.map D.str)=true:=by
 rw [bH,List.all_map,List.all_eq_true]
 intro b _
 rfl
theorem bw (d:D):bA .f d=b9 d:=by rw [bA]
theorem mI (ds:List D):bA (.l .f) (.lst ds)=flatDs ds:=by rw [bA,jD]
theorem gq (i:Int):b9 (.int i)=true:=by rw [b9];all_goals simp
theorem gD (i:Bool):b9 (.bl i)=true:=by rw [b9];all_goals simp
theorem mJ (i:List Nat):b9 (.str i)=true:=by rw [b9];all_goals simp
theorem cz (ds:List D):b9 (.tup ds)=flatDs ds:=by rw [b9]
theorem jg (n:Nat) (l:List Int):plainDs n (l.map D.int)=true:=by
 induction l with
 | nil=>rfl
 | cons a l ih=>rw [List.map_cons,plainDs,ih,plainD];all_goals simp
theorem jh (n:Nat) (l:List (List Nat)):plainDs n (l.map D.str)=true:=by
 induction l with
 | nil=>rfl
 | cons a l ih=>rw [List.map_cons,plainDs,ih,plainD];all_goals simp
theorem eqDs_ints:∀ a b:List Int,gH (a.map D.int) (b.map D.int)=(a == b)
 | [],[]=>by simp [gH]
 | [],_ :: _=>by simp [gH]
 | _ :: _,[]=>by simp [gH]
 | a :: r,b :: t=>by
  rw [List.map_cons,List.map_cons,gH,eqD,eqDs_ints r t,Bool.eq_iff_iff]
  simp
theorem qU (a:Int) (l:List Int):rY (.int a) (l.map D.int)=decide (a∈l):=by
 unfold rY
 rw [List.any_map,Bool.eq_iff_iff,List.any_eq_true,decide_eq_true_eq]
 constructor
 ·rintro ⟨x,hx,e⟩
  have e:eqD (.int x) (.int a)=true:=e
  rw [eqD,beq_iff_eq] at e
  rw [←e]
  exact hx
 ·intro h
  refine ⟨a,h,?_⟩
  show eqD (.int a) (.int a)=true
  rw [eqD,beq_self_eq_true]
theorem mK (a:List Nat) (l:List (List Nat)):rY (.str a) (l.map D.str)=decide (a∈l):=by
 unfold rY
 rw [List.any_map,Bool.eq_iff_iff,List.any_eq_true,decide_eq_true_eq]
 constructor
 ·rintro ⟨x,hx,e⟩
  have e:eqD (.str x) (.str a)=true:=e
  rw [eqD,beq_iff_eq] at e
  rw [←e]
  exact hx
 ·intro h
  refine ⟨a,h,?_⟩
  show eqD (.str a) (.str a)=true
  rw [eqD,beq_self_eq_true]
theorem sk (a:Int) (l:List Int):inO (.int a) (.lst (l.map D.int))=.ok (.f,.bl (decide (a∈l))):=by
 unfold inO
 dsimp only
 rw [jg,qU,plainD]
 all_goals simp
theorem uT (a:Int) (l:List Int):nJ (.int a) (.lst (l.map D.int))=.ok (.f,.bl (!decide (a∈l))):=by
 unfold nJ
 rw [sk]
 rfl
theorem so (a:List Nat) (l:List (List Nat)):inO (.str a) (.tup (l.map D.str))=.ok (.f,.bl (decide (a∈l))):=by
 unfold inO
 dsimp only
 rw [jh,mK,plainD]
 all_goals simp
theorem b7 {α:Type} {a:FG} {f:FX} {e:α→D} {r:α→D} (I:PV.Env→Prop) (l:List α)
  (h:∀ x∈l,∀ env,I env→∃ env1,a (e x) env=.ok env1∧∃ o env3,f env1=.ok ((o,r x),env3)∧I env3):∀ env,I env→cw a fP f (l.map e) env=.ok (l.map r):=by
 induction l with
 | nil=>intro env _;rfl
 | cons x l ih=>
  intro env hI
  obtain ⟨env1,h1,o,env3,h4,h5⟩:=h x List.mem_cons_self env hI
  have ih:=ih fun y hy=>h y (List.mem_cons_of_mem _ hy)
  rw [List.map_cons,x_compLC,h1,bOk,x_cYes,bOk,if_pos rfl,h4,bOk,ih env3 h5]
  rfl
theorem uU {a:FG} {g:FS} (P:Nat→PV.Env→Prop) (ds:List D) (h:∀ i d env,ds[i]?=some d→P i env→∃ env1,a d env=.ok env1∧∃ env2,(g env1=.ok (.nx env2)∨g env1=.ok (.ct env2))∧P (i + 1) env2) :
  ∀ env,P 0 env→∃ env',gZ a g ds env=.ok (.nx env')∧P ds.length env':=by
 have key:∀ (l:List D) (k:Nat) (env:PV.Env),(∀ i d,l[i]?=some d→ds[k + i]?=some d)→P k env→∃ env',gZ a g l env=.ok (.nx env')∧P (k + l.length) env':=by
  intro l
  induction l with
  | nil=>exact fun k env _ hp=>⟨env,rfl,hp⟩
  | cons d l ih=>
   intro k env hd hp
   obtain ⟨env1,h1,env2,h2,h3⟩:=h k d env (hd 0 d rfl) hp
   obtain ⟨env',h4,h5⟩:=ih (k + 1) env2 (fun i d e=>by have:=hd (i + 1) d (by simpa using e);rw [show k + 1 + i=k + (i + 1) by lia];exact this) h3
   refine ⟨env',?_,by rw [List.length_cons,show k + (l.length + 1)=k + 1 + l.length by lia];exact h5⟩
   rw [x_forLC,h1,bOk]
   rcases h2 with h2 | h2
   ·rw [h2,bOk]
    exact h4
   ·rw [h2,bOk]
    exact h4
 intro env hp
 obtain ⟨env',h1,h2⟩:=key ds 0 env (fun i d e=>by rw [Nat.zero_add];exact e) hp
 exact ⟨env',h1,by rw [Nat.zero_add] at h2;exact h2⟩
section
variable (env:PV.Env) (fo:FO) (fp fp':FP) (a b:Int) (ds:List D) (x:List Nat)
theorem x_eSlW:vF fo fp fp' env=Res.bnd (fo env) (f:=⟨fun p=>Res.bnd (fp p.2) (f:=⟨fun q=>Res.bnd (fp' q.2) (f:=⟨fun t=>Res.bnd (der t.2 p.1) (f:=⟨fun d=>Res.bnd (slO d q.1 t.1) (f:=⟨fun r=>.ok (r,t.2)⟩)⟩)⟩)⟩)⟩):=id rfl
theorem x_eNeg:AK fo env=Res.bnd (fo env) (f:=⟨fun p=>Res.bnd (der p.2 p.1) (f:=⟨fun d=>match d with
 | .int i=>.ok ((.f,.int (-i)),p.2)
 | _=>.bad⟩)⟩):=id rfl
theorem xR (lo hi:Option Int):slO (.lst ds) lo hi=.ok (.l .f,.lst (e8 ds lo hi)):=id rfl
theorem xS (lo hi:Option Int):slO (.str x) lo hi=.ok (.f,.str (e8 x lo hi)):=id rfl
theorem pG (lo hi:Option Int) (h:HT.sIx ds.length 0 lo=0∧HT.sIx ds.length ds.length hi=ds.length):e8 ds lo hi=ds:=by
 unfold e8
 rw [h.1,h.2,List.drop_zero,Nat.sub_zero,List.take_of_length_le (Nat.le_refl _)]
theorem xT (lo hi:Option Int):slO (.tup ds) lo hi=.ok (.f,.tup (e8 ds lo hi)):=by
 unfold slO
 dsimp only
 split
 ·rename_i h
  rw [pG ds lo hi h]
 ·rename_i h
  unfold slD
  dsimp only
  rw [if_pos h]
theorem pH:uA (.int a) (.int b)=if cp a || cp b then .ok (.f,.int (a * b)) else if a.natAbs < 2 ^ 1000∧b.natAbs < 2 ^ 1000 then .ok (.f,.int (a * b)) else .bad:=id rfl
end
section
variable (env:PV.Env) (fo:FO) (fs:FOs) (f g:FX) (a b c:Int) (ds es:List D) (x y:List Nat)
theorem x_eMtT (gg:List D→List D→Res R):xr gg fo fs env=Res.bnd (fo env) (f:=⟨fun p=>Res.bnd (der p.2 p.1) (f:=⟨fun d=>match d with
 | .tup _=>Res.bnd (fs p.2) (f:=⟨fun q=>Res.bnd (der q.2 p.1) (f:=⟨fun d2=>match d2 with
  | .tup l=>Res.bnd (lg q.2 q.1) (f:=⟨fun ds=>Res.bnd (gg l ds) (f:=⟨fun r=>.ok (r,q.2)⟩)⟩)
  | _=>.bad⟩)⟩)
 | _=>.bad⟩)⟩):=id rfl
theorem x_iRange3:uD fs env=Res.bnd (fs env) (f:=⟨fun p=>Res.bnd (lg p.2 p.1) (f:=⟨fun d=>match d with
 | [.int i,.int j,.int c]=>if mx i j c then .ok ((List.range (Builtin.Range.rangeSize i j c).toNat).map fun (k:Nat)=>D.int (i + (k:Int) * c),p.2) else .bad
 | _=>.bad⟩)⟩):=id rfl
theorem z9 (d:D):(∃ l,gy true d=.ok l∧gy false d=.bad∧lh d=some l)∨(∃ l,gy true d=.bad∧gy false d=.ok l∧lh d=some l)∨(gy true d=.bad∧gy false d=.bad∧lh d=none):=by
 cases d with
 | lst l=>exact .inl ⟨l,rfl,rfl,rfl⟩
 | tup l=>exact .inr (.inl ⟨l,rfl,rfl,rfl⟩)
 | _=>exact .inr (.inr ⟨rfl,rfl,rfl⟩)
noncomputable def qV (k1 k2:Bool) (e:PV.Env) (d1 d2:D):Res (List D×PV.Env):=(gy k1 d1).bind fun a=>(gy k2 d2).bind fun b=>.ok ((a.zip b).map fun z=>D.tup [z.1,z.2],e)
noncomputable def zN (e:PV.Env) (d1 d2:D):Res (List D×PV.Env):=match lh d1,lh d2 with | some a,some b=>.ok ((a.zip b).map fun z=>D.tup [z.1,z.2],e) | _,_=>.bad
noncomputable def orR (a b:Res (List D×PV.Env)):Res (List D×PV.Env):=match a with | .ok a=>.ok a | _=>b
noncomputable def pX (g:D→D→Res (List D×PV.Env)) (os:List Opd):Res (List D×PV.Env):=match os with | [.val d1,.val d2]=>g d1 d2 | _=>.bad
theorem lG (g h:D→D→Res (List D×PV.Env)) (os:List Opd):orR (pX g os) (pX h os)=pX (fun a b=>orR (g a b) (h a b)) os:=by
 unfold pX
 split <;> rfl
theorem uV (e:PV.Env) (a b:D):orR (qV true true e a b) (orR (qV true false e a b) (orR (qV false true e a b) (qV false false e a b)))=zN e a b:=by
 unfold qV zN
 rcases z9 a with ⟨l,h1,h2,h3⟩ | ⟨l,h1,h2,h3⟩ | ⟨h1,h2,h3⟩ <;> rcases z9 b with ⟨m,i1,i2,i3⟩ | ⟨m,i1,i2,i3⟩ | ⟨i1,i2,i3⟩ <;> rw [h1,h2,h3,i1,i2,i3] <;> rfl
theorem x_iZipA:kQ fs env=Res.bnd (fs env) (f:=⟨fun p=>match p.1 with
 | [.val d1,.val d2]=>(match lh d1,lh d2 with | some a,some b=>.ok ((a.zip b).map fun z=>D.tup [z.1,z.2],p.2) | _,_=>.bad)
 | _=>.bad⟩):=by
 unfold kQ
 rw [lF,lF,lF,x_iZipD,x_iZipD,x_iZipD,x_iZipD]
 cases fs env with
 | ok p=>
  show orR (pX (qV true true p.2) p.1) (orR (pX (qV true false p.2) p.1) (orR (pX (qV false true p.2) p.1) (pX (qV false false p.2) p.1)))=pX (zN p.2) p.1
  rw [lG,lG,lG]
  exact congrArg (fun g=>pX g p.1) (funext fun a=>funext fun b=>uV p.2 a b)
 | _=>rfl
theorem x_seqDL:lh (.lst ds)=some ds:=id rfl
theorem x_seqDT:lh (.tup ds)=some ds:=id rfl
theorem x_sPutL (i:Nat):qO i f g env=Res.bnd (g env) (f:=⟨fun (p:R×PV.Env)=>Res.bnd (f p.2) (f:=⟨fun (q:R×PV.Env)=>match p.2[i]?,q.2[i]? with
 | some (some _),some (some (.l .f,.lst ds))=>(match q.1.2 with
  | .int k=>(match ixN ds.length k with
   | some j=>.ok (.nx (q.2.set i (some (.l .f,.lst (ds.set j p.1.2)))))
   | none=>.bad)
  | _=>.bad)
 | _,_=>.bad⟩)⟩):=id rfl
theorem uW:jN (.int a) (.int b)=uA (.int a) (.int b):=id rfl
theorem x_eDict1:xu f g env=Res.bnd (f env) (f:=⟨fun p=>Res.bnd (g p.2) (f:=⟨fun q=>if cM false p.1.2 then .ok ((.d,.dct false [p.1.2] [q.1.2]),q.2) else .bad⟩)⟩):=id rfl
theorem xU (d:D):inP d (.lst ds)=inO d (.lst ds):=id rfl
theorem xV (d:D):inP d (.tup ds)=inO d (.tup ds):=id rfl
theorem xW (d:D):inP d (.str x)=inO d (.str x):=id rfl
theorem uX (d:D):pf d (.lst ds)=nJ d (.lst ds):=id rfl
theorem uY (d:D):pf d (.tup ds)=nJ d (.tup ds):=id rfl
theorem xX:cM false (.int a)=true:=id rfl
theorem xY:cM false (.str x)=true:=id rfl
theorem xZ:AL [.int a,.int b]=.ok (.f,.int (if b < a then b else a)):=id rfl
theorem zO:AM [.int a]=.ok (.f,.int (if a < 0 then -a else a)):=id rfl
theorem uZ:cF (.int a) (.int b)=.ok (.f,.int (a + b)):=id rfl
theorem u3:cF (.str x) (.str y)=if x.length + y.length≤sizeLine then .ok (.f,.str (x++y)) else .bad:=id rfl
theorem u4:cF (.tup ds) (.tup es)=if ds.length + es.length≤sizeLine∨ds=[] then .ok (.f,.tup (ds++es)) else .bad:=by
 unfold cF
 cases ds with
 | nil=>rw [if_pos (.inr rfl)];rfl
 | cons d ds=>
  dsimp only
  unfold addD
  dsimp only
  by_cases h:(d :: ds).length + es.length≤sizeLine
  ·rw [if_pos ⟨nofun,h⟩,if_pos (.inl h)]
  ·rw [if_neg (fun z=>h z.2),if_neg (fun z=>z.elim h nofun)]
end
section
variable (env:PV.Env) (f g:FX) (ds ks:List D) (i:Nat)
end
section
variable (env:PV.Env) (f:FX) (fs:FOs) (ds:List D) (i:Nat)
end
noncomputable def pv:=(And.intro @bOk (And.intro @bBad (And.intro @x_eCon (And.intro @x_eVarF (And.intro @x_eVarM (And.intro @x_oVal (And.intro @x_oVar (And.intro @x_osNil (And.intro @x_osCons (And.intro @x_dsNil (And.intro @x_dsCons (And.intro @x_derV (And.intro @x_derI (And.intro @x_derAV (And.intro @x_derAI (And.intro @x_dersN (And.intro @x_dersC (And.intro @x_dersAN (And.intro @x_dersAC (And.intro @x_shalF (And.intro @x_shalL (And.intro @x_shalD (And.intro @x_eBin (And.intro @x_eBinA (And.intro @x_eBl (And.intro @x_bAnd (And.intro @x_bOr (And.intro @x_bNot (And.intro @x_eAnd (And.intro @x_eOr (And.intro @x_eNot (And.intro @x_eIf (And.intro @x_eChain (And.intro @x_eCall (And.intro @x_eFun (And.intro @x_eTup (And.intro @x_eLst (And.intro @x_eSl (And.intro @x_eSlW (And.intro @x_eNeg (And.intro @x_pNone (And.intro @x_pSome (And.intro @x_eApp (And.intro @x_isLst (And.intro @x_eIs (And.intro @x_eMaxD (And.intro @x_eMtS (And.intro @x_eNewD (And.intro @x_eComp (And.intro @x_compEnvN (And.intro @x_compEnvO (And.intro @x_compEnvS (And.intro @x_cYes (And.intro @x_compLN (And.intro @x_compLC (And.intro @x_iAny (And.intro @x_iAnyV (And.intro @x_iRange1 (And.intro @x_iRange2 (And.intro @x_iZipD (And.intro @x_aName (And.intro @x_asNil (And.intro @x_asCons (And.intro @x_aTup (And.intro @x_sSeq (And.intro @x_sPass (And.intro @x_sSet (And.intro @x_sDrop (And.intro @x_sRet (And.intro @x_sIf (And.intro @x_sFor (And.intro @x_forLN (And.intro @x_forLC (And.intro @x_sWhile (And.intro @x_sPut (And.intro @x_sAsg (And.intro @List.getElem?_cons_zero.{0} (And.intro @List.getElem?_cons_succ.{0} (And.intro @List.set_cons_zero.{0} (And.intro @List.set_cons_succ.{0} (And.intro @List.length_cons.{0} (And.intro @List.length_nil.{0} (And.intro @List.map_cons.{0,0} (And.intro @List.map_nil.{0,0} (And.intro @List.replicate_succ.{0} (And.intro @List.replicate_zero.{0} (And.intro @List.cons_append.{0} (And.intro @List.nil_append.{0} (And.intro @Nat.zero_add (And.intro @x_eMtT (And.intro @x_iRange3 (And.intro @x_iZipA (And.intro @x_seqDL (And.intro @x_seqDT (And.intro @x_sPutL (And.intro @x_eDict1 (And.intro @x_fzF (And.intro @x_fzL (And.intro @x_fzT (And.intro @x_fzD (And.intro @x_fzP (And.intro @x_fzPL (And.intro @x_fzPD (And.intro @x_shalP (And.intro @x_shalPL @x_shalPD)))))))))))))))))))))))))))))))))))))))))))))))))))))))))))))))))))))))))))))))))))))))))))))))))))))))))
noncomputable def op:=(And.intro @zm (And.intro @zn (And.intro @zo (And.intro @zp (And.intro @zq (And.intro @xG (And.intro @xH (And.intro @zr (And.intro @zt (And.intro @zu (And.intro @zv (And.intro @zw (And.intro @zx (And.intro @xK (And.intro @xL (And.intro @xM (And.intro @xN (And.intro @uR (And.intro @uS (And.intro @qS (And.intro @qT (And.intro @xO (And.intro @zy (And.intro @zH (And.intro @zI (And.intro @zJ (And.intro @zL (And.intro @xR (And.intro @xS (And.intro @xT (And.intro @xP (And.intro @zM (And.intro @xQ (And.intro @at0 (And.intro @at1 (And.intro @sk (And.intro @uT (And.intro @so (And.intro @pF (And.intro @bw (And.intro @mI (And.intro @gq (And.intro @gD (And.intro @mJ (And.intro @flat_ints (And.intro @jW (And.intro @PV.flat_strs (And.intro @cz (And.intro @xZ (And.intro @zO (And.intro @uZ (And.intro @uW (And.intro @xU (And.intro @xV (And.intro @xW (And.intro @uX (And.intro @uY (And.intro @xX @xY))))))))))))))))))))))))))))))))))))))))))))))))))))))))))
theorem dV (n:Nat) (w:PV.Env):(∃ d,der w (.var n)=.ok d)∨der w (.var n)=.bad:=by
 unfold der
 dsimp only
 split
 ·split
  ·exact .inl ⟨_,rfl⟩
  ·exact .inr rfl
 ·exact .inr rfl
section
variable (w:PV.Env) (op:D→D→Res R) (F:List D→Res R) (f g h:FX) (n n' n'':Nat) (x y:D)
end
section
variable (a b c d e g h i j k l m s t v u:Option R) (z:PV.Env) (r:R) (o:O) (x:D) {ρ:Type}
end
end PV
namespace LW
open PySem L2 NX PV
theorem for_list {α:Type} {a:FG} {g:FS} {e:α→D} (l:List α) (P:Nat→PV.Env→Prop)
  (h:∀ k x env,l[k]?=some x→P k env→∃ env1,a (e x) env=.ok env1∧∃ env2,g env1=.ok (.nx env2)∧P (k + 1) env2):∀ env,P 0 env→∃ env',gZ a g (l.map e) env=.ok (.nx env')∧P l.length env':=by
 intro env h0
 have:=uU (a:=a) (g:=g) P (l.map e) (fun i d env hi hp=>by
  rw [List.getElem?_map,Option.map_eq_some_iff] at hi
  obtain ⟨x,hx,rfl⟩:=hi
  obtain ⟨env1,h1,env2,h2,h3⟩:=h i x env hx hp
  exact ⟨env1,h1,env2,.inl h2,h3⟩) env h0
 rwa [List.length_map] at this
theorem jX {a:FG} {g:FS} {e:Nat→D} (n:Nat) (P:Nat→PV.Env→Prop)
  (h:∀ k env,k < n→P k env→∃ env1,a (e k) env=.ok env1∧∃ env2,g env1=.ok (.nx env2)∧P (k + 1) env2):∀ env,P 0 env→∃ env',gZ a g ((List.range n).map e) env=.ok (.nx env')∧P n env':=by
 intro env h0
 have:=for_list (a:=a) (g:=g) (e:=e) (List.range n) P (fun k x env hk hp=>by
  obtain ⟨h1,h2⟩:=List.getElem?_eq_some_iff.mp hk
  rw [List.length_range] at h1
  rw [List.getElem_range] at h2
  subst h2
  exact h k env h1 hp) env h0
 rwa [List.length_range] at this
theorem am {s t:FS} {env env':PV.Env} (h:s env=.ok (.nx env')):sSeq s t env=t env':=by rw [x_sSeq,h,bOk]
theorem eE {ds:List D} (h:ds.length≤16777216):ds.length≤sizeLine:=line_le h
theorem ji {l:List Int} {k:Nat} (h:k < l.length):atI (l.map D.int) (k:Int)=some (.int (l.getD k 0)):=ia (by rw [List.getElem?_map,List.getD_eq_getElem?_getD,List.getElem?_eq_getElem h];rfl)
theorem at2 {α:Type} (a b c:α):atI [a,b,c] (2:Int)=some c:=rfl
theorem dk:∀ l:List (List Nat),dU (l.map D.str)=some l
 | []=>rfl
 | a :: l=>by
  rw [List.map_cons,dU,dk l]
  rfl
theorem fO (x y:D) (t1 t2:Option R) (cj:PV.Env):gY 2 (az (aw 0) (az (aw 1) cv)) (.tup [x,y]) (t1 :: t2 :: cj)=.ok (some (.f,x) :: some (.f,y) :: cj):=by
 rw [x_aTup,if_pos (by simp),x_asCons,x_aName,if_pos (by simp),bOk,x_asCons,x_aName,if_pos (by simp),bOk]
 rfl
theorem k9 {α:Type} (lt:α→α→Bool) (l:List α):(eY lt l).length=l.length:=(dh lt l).length_eq
theorem pI (l:List (List Nat)) (h:l.length < 64):iA [.lst (l.map D.str)]=.ok (.l .f,.lst ((eY ltS l).map D.str)):=by
 unfold iA
 dsimp only
 rw [if_pos (by rw [List.length_map];exact h)]
 unfold lz
 cases l with
 | nil=>rfl
 | cons a l=>
  have e:dR ((a :: l).map D.str)=none:=rfl
  rw [e,dk]
noncomputable def LET:List Nat:=[97,98,99,100,101,102,103,104,105,106,107,108,109,110,111,112,113,114,115,116,117,118,119,120,121,122]
theorem x0 (j:Nat) (h:j < 26):LET[j]?=some (97 + j):=by
 have:∀ j:_root_.Fin 26,LET[j.1]?=some (97 + j.1):=by decide
 exact this ⟨j,h⟩
theorem x3 (j:Int) (h0:0≤j) (h:j < 26):atI LET j=some (97 + j.toNat):=by
 obtain ⟨n,rfl⟩:=Int.eq_ofNat_of_zero_le h0
 exact ia (x0 n (by lia))
theorem eF (x b:Int) (h:0 < b):0≤x % b∧x % b < b:=⟨Int.emod_nonneg _ (by lia),Int.emod_lt_of_pos _ h⟩
theorem AW (n:Nat) (h:n≤200):vD (.int 10) (.int (n:Int))=.ok (.f,.int (10 ^ n)):=by
 rw [xJ,if_pos (by lia),Int.toNat_natCast]
theorem iZ (x b:Int) (h:0 < b):gA (.int x) (.int b)=.ok (.f,.int (x % b)):=by rw [xI,if_pos h]
theorem g7 (x b:Int) (h:0 < b) (h2:b < 1073741824):eW (.int x) (.int b)=.ok (.f,.int (x / b)):=by rw [uQ,if_pos ⟨h,h2⟩]
theorem AX (x y:List Nat) (h:x.length + y.length≤1000):cF (.str x) (.str y)=.ok (.f,.str (x++y)):=by rw [u3,if_pos (line_le (by lia))]
theorem mL {α:Type} (l:List α) (k:Nat):e8 l none (some (k:Int))=l.take k:=by
 unfold e8
 rw [HT.lS,HT.jm,List.drop_zero,Nat.sub_zero]
 by_cases h:k≤l.length
 ·rw [Nat.min_eq_left h]
 ·rw [Nat.min_eq_right (by lia),List.take_of_length_le (Nat.le_refl _),List.take_of_length_le (by lia)]
theorem qW {α:Type} (l:List α) (k:Nat):e8 l (some (k:Int)) none=l.drop k:=by
 unfold e8
 rw [HT.lS,HT.jm]
 by_cases h:k≤l.length
 ·rw [Nat.min_eq_left h,List.take_of_length_le (by rw [List.length_drop];exact Nat.le_refl _)]
 ·rw [Nat.min_eq_right (by lia),List.drop_eq_nil_of_le (Nat.le_refl _),List.drop_eq_nil_of_le (by lia),List.take_nil]
theorem iO {α:Type} (f:Nat→α) (n:Nat) (h:∀ i j,i < n→j < n→f i=f j→i=j):((List.range n).map f).Nodup:=by
 rw [List.nodup_iff_pairwise_ne,List.pairwise_map]
 refine List.pairwise_lt_range.imp_of_mem fun {a b} ha hb hl e=>?_
 have:=h a b (List.mem_range.mp ha) (List.mem_range.mp hb) e
 lia
theorem Aa (j:Int) (h0:0≤j) (h:j≤1000) (fo:FO) (env env':PV.Env) (o:Opd) (e1:fo env=.ok (o,env')) (e2:der env' o=.ok (.int j)):cC fo env=.ok ((List.range j.toNat).map fun (k:Nat)=>D.int (k:Int),env'):=by
 rw [x_iRange1,e1,bOk]
 dsimp only
 rw [e2,bOk]
 dsimp only
 rw [if_pos (by lia)]
theorem u8 {α:Type} (l:List α) (a b:Nat) (h:a≤b) (hb:b≤l.length):e8 l (some (a:Int)) (some (b:Int))=(l.drop a).take (b - a):=by
 unfold e8
 rw [HT.jm,HT.jm,Nat.min_eq_left hb,Nat.min_eq_left (Nat.le_trans h hb)]
theorem lb (x:Int) (h : -1000000≤x) (h2:x≤1000000):cp x=true:=by
 unfold cp
 rw [decide_eq_true_eq]
 lia
theorem qX (l:List Int):plainD 40 (.tup (l.map D.int))=true:=by
 rw [plainD,jg]
theorem AY {c:FT} {s t:FS} {env env':PV.Env} (h:c env=.ok (false,env')):sIf c s t env=t env':=by rw [x_sIf,h,bOk];rfl
theorem u9 (n k:Nat) (h:k < n):ixN n (k:Int)=some k:=by
 unfold ixN
 rw [if_pos (by lia),if_pos (by lia)]
 rfl
theorem isT (ds:List D):o5 "tuple" (.tup ds)=true:=rfl
theorem iP {c:FT} {g:FS} (P:Nat→PV.Env→Prop) (fin:PV.Env→Prop) (h:∀ k env,P k env→(∃ env1,c env=.ok (false,env1)∧fin env1)∨(∃ env1,c env=.ok (true,env1)∧∃ env2 k',g env1=.ok (.nx env2)∧k' < k∧P k' env2)) :
  ∀ n k env,k < n→P k env→∃ env',cP c g n env=.ok (.nx env')∧fin env'
 | 0,k,env,hk,_=>absurd hk (Nat.not_lt_zero _)
 | n + 1,k,env,hk,hp=>by
  rcases h k env hp with ⟨env1,h1,h2⟩ | ⟨env1,h1,env2,k',h2,h3,h4⟩
  ·exact ⟨env1,by rw [x_sWhile,h1,bOk];rfl,h2⟩
  ·obtain ⟨env',e,hf⟩:=iP P fin h n k' env2 (by lia) h4
   refine ⟨env',?_,hf⟩
   rw [x_sWhile,h1,bOk]
   dsimp only
   rw [if_pos rfl,h2,bOk]
   exact e
theorem ve {α β:Type} (f:α→β) (l:List α) (lo hi:Option Int):e8 (l.map f) lo hi=(e8 l lo hi).map f:=by
 unfold e8
 rw [List.length_map,←List.map_drop,←List.map_take]
theorem i0 {α:Type} {l:List α} (h:l.length≤100000):l.length < sizeLine:=Nat.lt_of_lt_of_le (Nat.lt_succ_self _) (line_le (by lia))
section
variable (env:PV.Env) (f:FX) (fs:FOs) (fo:FO)
theorem zP (r:R):frz (some r)=some (.f,r.2):=id rfl
theorem zQ:frz none=none:=id rfl
end
noncomputable def cell (ns:List Int) (k:Nat):Int:=ns.getD k 0
theorem jj (ns:List Int) (k:Nat):aq [.lst (ns.map D.int),.int (k:Int)]=.ok (.f,.int (cell ns k)):=by
 unfold aq fe cell
 rw [bc (h:=by rfl)]
 simp only [pv,↓reduceIte,Nat.reduceAdd,Nat.reduceLT,Nat.reduceLeDiff,Nat.reduceEqDiff,op,List.length_map]
 by_cases h:k < ns.length
 ·have h1:(k:Int) < (ns.length:Int):=by lia
  simp only [h1,decide_true,pv,↓reduceIte,Nat.reduceAdd,Nat.reduceLT,Nat.reduceLeDiff,Nat.reduceEqDiff,ji h]
 ·have h1:¬ (k:Int) < (ns.length:Int):=by lia
  simp only [h1,decide_false,pv,↓reduceIte,Nat.reduceAdd,Nat.reduceLT,Nat.reduceLeDiff,Nat.reduceEqDiff,Bool.false_eq_true,List.getD_eq_getElem?_getD,List.getElem?_eq_none (Nat.le_of_not_lt h),Option.getD_none]
theorem x4 (x y:Int) (h:cp x=true):uA (.int x) (.int y)=.ok (.f,.int (x * y)):=by rw [pH,h,Bool.true_or,if_pos rfl]
theorem Ab (x y:Int) (h:cp y=true):uA (.int x) (.int y)=.ok (.f,.int (x * y)):=by rw [pH,h,Bool.or_true,if_pos rfl]
theorem mM (x:Int) (h:0≤x) (h2:x≤4294967296):cp x=true:=by
 unfold cp
 rw [decide_eq_true_eq]
 lia
noncomputable def qY (c k:Int):Int:=((((c % 2147483647 + 48271 * (k + 1)) * (c % 2147483647 + 48271 * (k + 1)) + 69621 * k) % 2147483647) * (((c % 2147483647 + 48271 * (k + 1)) * (c % 2147483647 + 48271 * (k + 1)) + 69621 * k) % 2147483647) + 16807 * k + 1) % 2147483647
theorem lH (c k:Int) (hk:0≤k) (hk2:k≤1000):aJ [.int c,.int k]=.ok (.f,.int (qY c k)):=by
 have b1:=eF c 2147483647 (by decide)
 have b2:=eF ((c % 2147483647 + 48271 * (k + 1)) * (c % 2147483647 + 48271 * (k + 1)) + 69621 * k) 2147483647 (by decide)
 unfold aJ gM qY
 rw [bc (h:=by rfl)]
 rw [am (env':=[some (.f,.int c),some (.f,.int k),some (.f,.int (c % 2147483647 + 48271 * (k + 1)))]) (by simp only [pv,↓reduceIte,Nat.reduceAdd,Nat.reduceLT,Nat.reduceLeDiff,Nat.reduceEqDiff,op,iZ _ 2147483647 (by decide),x4 48271 (k + 1) (by decide)])]
 have hs:cp (c % 2147483647 + 48271 * (k + 1))=true:=mM _ (by lia) (by lia)
 generalize c % 2147483647 + 48271 * (k + 1)=x at *
 rw [am (env':=[some (.f,.int c),some (.f,.int k),some (.f,.int ((x * x + 69621 * k) % 2147483647))]) (by simp only [pv,↓reduceIte,Nat.reduceAdd,Nat.reduceLT,Nat.reduceLeDiff,Nat.reduceEqDiff,op,iZ _ 2147483647 (by decide),x4 x x hs,x4 69621 k (by decide)])]
 generalize (x * x + 69621 * k) % 2147483647=y at *
 have hs:cp y=true:=mM _ (by lia) (by lia)
 simp only [pv,↓reduceIte,Nat.reduceAdd,Nat.reduceLT,Nat.reduceLeDiff,Nat.reduceEqDiff,op,iZ _ 2147483647 (by decide),x4 y y hs,x4 16807 k (by decide)]
theorem mO:∀ l:List Nat,joinL [] (l.map fun c=>[c])=l
 | []=>rfl
 | [c]=>rfl
 | c :: d :: l=>by
  have ih:=mO (d :: l)
  show [c]++[]++joinL [] ((d :: l).map fun c=>[c])=_
  rw [ih]
  rfl
theorem pJ:∀ l:List Nat,((l.map fun c=>[c]).map List.length).sum=l.length
 | []=>rfl
 | c :: l=>by
  rw [List.map_cons,List.map_cons,List.sum_cons,pJ l]
  show 1 + l.length=l.length + 1
  lia
theorem vf (l:List Nat) (h:l.length≤1000):pg [] [.lst ((l.map fun c=>[c]).map D.str)]=.ok (.f,.str l):=by
 unfold pg
 dsimp only
 rw [dk]
 dsimp only
 rw [if_pos (by rw [pJ,List.length_nil,Nat.mul_zero];lia),mO]
theorem sr (a:List Nat) (l:List (List Nat)):inO (.str a) (.lst (l.map D.str))=.ok (.f,.bl (decide (a∈l))):=by
 unfold inO
 dsimp only
 rw [jh,mK,plainD]
 all_goals simp
noncomputable def nml (base:List Int) (wd sp:Nat) (tk:Bool) (k:Nat):List Int:=if tk then base.take (k + 1) else (base.take wd).set sp ((base.getD sp 0 + (k:Int)) % 26)
noncomputable def nmw (base:List Int) (wd sp:Nat) (tk:Bool) (k:Nat):List Nat:=(nml base wd sp tk k).map fun j=>97 + j.toNat
theorem vg (l:List Int) (hb:∀ j∈l,0≤j∧j < 26):cw (aw 0) fP (ap ixD (aj 1) (aj 0)) (l.map D.int) [none,some (.f,.str LET)]=.ok (((l.map fun j=>97 + j.toNat).map fun c=>[c]).map D.str):=by
 rw [b7 (r:=fun j:Int=>D.str [97 + j.toNat]) (fun env=>∃ t,env=[t,some (.f,.str LET)]) l ?_ _ ⟨none,rfl⟩]
 ·rw [List.map_map,List.map_map]
  rfl
 ·rintro j hj env ⟨t,rfl⟩
  obtain ⟨h0,h1⟩:=hb j hj
  refine ⟨[some (.f,.int j),some (.f,.str LET)],rfl,.f,[some (.f,.int j),some (.f,.str LET)],?_,_,rfl⟩
  simp only [pv,↓reduceIte,Nat.reduceAdd,Nat.reduceLT,Nat.reduceLeDiff,Nat.reduceEqDiff,op,x3 j h0 h1]
theorem zR (base:List Int) (hb:∀ j∈base,0≤j∧j < 26) (wd sp:Nat) (tk:Bool) (k:Nat):∀ j∈nml base wd sp tk k,0≤j∧j < 26:=by
 intro j hj
 unfold nml at hj
 split at hj
 ·exact hb j (List.mem_of_mem_take hj)
 ·rcases List.mem_or_eq_of_mem_set hj with h | h
  ·exact hb j (List.mem_of_mem_take h)
  ·rw [h]
   exact eF _ _ (by decide)
theorem pK (base:List Int) (hl:base.length=8) (wd sp:Nat) (tk:Bool) (k:Nat):(nml base wd sp tk k).length≤8:=by
 unfold nml
 split
 ·rw [List.length_take];lia
 ·rw [List.length_set,List.length_take];lia
theorem x5 (cel:Int) (base:List Int) (hl:base.length=8) (hb:∀ j∈base,0≤j∧j < 26) (wd sp:Nat) (hw:wd≤8) (hs:sp < wd) (tk:Bool) (etk:(cel / 64 % 4 == 1)=tk) (l:List (List Nat)) (hll:l.length≤10) (k:Nat) (t7:Option R) :
  ∃ u7,bS [some (.f,.int cel),some (.f,.str LET),some (.l .f,.lst (base.map D.int)),some (.f,.int (wd:Int)),some (.f,.int (sp:Int)),some (.l .f,.lst (l.map D.str)),some (.f,.int (k:Int)),t7]=.ok (.nx [some (.f,.int cel),some (.f,.str LET),some (.l .f,.lst (base.map D.int)),some (.f,.int (wd:Int)),some (.f,.int (sp:Int)),some (.l .f,.lst ((l++[nmw base wd sp tk k]).map D.str)),some (.f,.int (k:Int)),u7]):=by
 have hcut:e8 (base.map D.int) none (some (wd:Int))=(base.take wd).map D.int:=by rw [mL,List.map_take]
 have hat:atI ((base.take wd).map D.int) (sp:Int)=some (.int (base.getD sp 0)):=by
  rw [ji (by rw [List.length_take];lia)]
  congr 2
  rw [List.getD_eq_getElem?_getD,List.getD_eq_getElem?_getD,List.getElem?_take_of_lt hs]
 have hix:ixN (base.take wd).length (sp:Int)=some sp:=u9 _ _ (by rw [List.length_take];lia)
 have hnl:=pK base hl wd sp tk k
 have hlet:=vg (nml base wd sp tk k) (zR base hb wd sp tk k)
 have hj:=vf (nmw base wd sp tk k) (by unfold nmw;rw [List.length_map];lia)
 have hz:(l.map D.str).length < sizeLine:=i0 (by rw [List.length_map];lia)
 have hzl:(((nmw base wd sp tk k).map fun c=>[c]).map D.str).length≤sizeLine:=eE (by unfold nmw;rw [List.length_map,List.length_map,List.length_map];lia)
 have hfl:=PV.flat_strs ((nmw base wd sp tk k).map fun c=>[c])
 have hlet:cw (aw 0) fP (ap ixD (aj 1) (aj 0)) ((nml base wd sp tk k).map D.int) [none,some (.f,.str LET)]=.ok (((nmw base wd sp tk k).map fun c=>[c]).map D.str):=hlet
 unfold bS
 rw [am (env':=[some (.f,.int cel),some (.f,.str LET),some (.l .f,.lst (base.map D.int)),some (.f,.int (wd:Int)),some (.f,.int (sp:Int)),some (.l .f,.lst (l.map D.str)),some (.f,.int (k:Int)),some (.l .f,.lst ((base.take wd).map D.int))]) (by simp only [pv,↓reduceIte,Nat.reduceAdd,Nat.reduceLT,Nat.reduceLeDiff,Nat.reduceEqDiff,op,hcut])]
 rw [am (env':=[some (.f,.int cel),some (.f,.str LET),some (.l .f,.lst (base.map D.int)),some (.f,.int (wd:Int)),some (.f,.int (sp:Int)),some (.l .f,.lst (l.map D.str)),some (.f,.int (k:Int)),some (.l .f,.lst (((base.take wd).set sp ((base.getD sp 0 + (k:Int)) % 26)).map D.int))]) (by
  rw [List.map_set]
  simp only [pv,↓reduceIte,Nat.reduceAdd,Nat.reduceLT,Nat.reduceLeDiff,Nat.reduceEqDiff,op,hat,iZ _ 26 (by decide),List.length_map,hix])]
 rw [am (env':=[some (.f,.int cel),some (.f,.str LET),some (.l .f,.lst (base.map D.int)),some (.f,.int (wd:Int)),some (.f,.int (sp:Int)),some (.l .f,.lst (l.map D.str)),some (.f,.int (k:Int)),some (.l .f,.lst ((nml base wd sp tk k).map D.int))]) (by
  unfold nml
  cases tk with
  | true=>
   have hcut2:e8 (base.map D.int) none (some ((k:Int) + 1))=(base.take (k + 1)).map D.int:=by rw [show (k:Int) + 1=((k + 1:Nat):Int) by lia,mL,List.map_take]
   simp only [pv,↓reduceIte,Nat.reduceAdd,Nat.reduceLT,Nat.reduceLeDiff,Nat.reduceEqDiff,op,g7 _ 64 (by decide) (by decide),iZ _ 4 (by decide),etk,hcut2]
  | false=>simp only [pv,↓reduceIte,Nat.reduceAdd,Nat.reduceLT,Nat.reduceLeDiff,Nat.reduceEqDiff,op,g7 _ 64 (by decide) (by decide),iZ _ 4 (by decide),etk,Bool.false_eq_true])]
 refine ⟨some (.l .f,.lst ((nml base wd sp tk k).map D.int)),?_⟩
 generalize nml base wd sp tk k=W at *
 generalize nmw base wd sp tk k=V at *
 rw [List.map_append,List.map_cons,List.map_nil]
 generalize (ap ixD (aj 1) (aj 0))=GG at hlet ⊢
 simp only [pv,↓reduceIte,Nat.reduceAdd,Nat.reduceLT,Nat.reduceLeDiff,Nat.reduceEqDiff,op,hlet,hzl,hfl,hj,hz]
theorem vh (base:List Int) (hl:base.length=8) (hb:∀ j∈base,0≤j∧j < 26) (wd sp:Nat) (hw:wd≤8) (hs:sp < wd) (tk:Bool) (k k':Nat) (hk:k≤5) (hk':k'≤5) (e:nmw base wd sp tk k=nmw base wd sp tk k'):k=k':=by
 unfold nmw nml at e
 cases tk with
 | true=>
  have:=congrArg List.length e
  simp only [if_true,List.length_map,List.length_take] at this
  lia
 | false=>
  have e2:=congrArg (fun l=>l[sp]?) e
  have hlt:sp < (base.take wd).length:=by rw [List.length_take];lia
  simp only [Bool.false_eq_true,if_false,List.getElem?_map,List.getElem?_set_self hlt,Option.map_some,Option.some.injEq] at e2
  have b1:=eF (base.getD sp 0 + (k:Int)) 26 (by decide)
  have b2:=eF (base.getD sp 0 + (k':Int)) 26 (by decide)
  generalize base.getD sp 0=z at *
  lia
theorem vk (cel:Int):∃ l:List (List Nat),l.length=5∧l.Nodup∧l.Pairwise (fun a b=>ltS b a=false)∧bI [.int cel]=.ok (.l .f,.lst (l.map D.str)):=by
 unfold bI gN
 rw [bc (h:=by rfl)]
 rw [am (env':=[some (.f,.int cel),some (.f,.str LET),none,none,none,none,none,none]) (by simp only [pv,↓reduceIte,Nat.reduceAdd,Nat.reduceLT,Nat.reduceLeDiff,Nat.reduceEqDiff,op];rfl)]
 have hc:cw (aw 0) fP (ap gA (ai (dL aJ (ag (aj 1) (ag (aj 0) aD)))) (ai (au (.int 26)))) ((List.range 8).map fun (k:Nat)=>D.int (k:Int)) [none,some (.f,.int cel)]=.ok (((List.range 8).map fun (k:Nat)=>qY cel (k:Int) % 26).map D.int):=by
  rw [b7 (r:=fun k:Nat=>D.int (qY cel (k:Int) % 26)) (fun env=>∃ t,env=[t,some (.f,.int cel)]) (List.range 8) ?_ _ ⟨none,rfl⟩]
  ·rw [List.map_map]
   rfl
  ·rintro k hk env ⟨t,rfl⟩
   have hk:=List.mem_range.mp hk
   refine ⟨[some (.f,.int (k:Int)),some (.f,.int cel)],rfl,.f,[some (.f,.int (k:Int)),some (.f,.int cel)],?_,_,rfl⟩
   simp only [pv,↓reduceIte,Nat.reduceAdd,Nat.reduceLT,Nat.reduceLeDiff,Nat.reduceEqDiff,op,lH cel (k:Int) (by lia) (by lia),iZ _ 26 (by decide)]
 have hbl:((List.range 8).map fun (k:Nat)=>qY cel (k:Int) % 26).length=8:=rfl
 have hbb:∀ j∈((List.range 8).map fun (k:Nat)=>qY cel (k:Int) % 26),0≤j∧j < 26:=by
  intro j hj
  obtain ⟨k,_,rfl⟩:=List.mem_map.mp hj
  exact eF _ _ (by decide)
 generalize ((List.range 8).map fun (k:Nat)=>qY cel (k:Int) % 26)=base at hc hbl hbb
 have hlen:(base.map D.int).length≤sizeLine:=eE (by rw [List.length_map];lia)
 have hff:=flat_ints base
 rw [am (env':=[some (.f,.int cel),some (.f,.str LET),some (.l .f,.lst (base.map D.int)),none,none,none,none,none]) (by
  generalize (ap gA (ai (dL aJ (ag (aj 1) (ag (aj 0) aD)))) (ai (au (.int 26))))=GG at hc ⊢
  simp only [pv,↓reduceIte,Nat.reduceAdd,Nat.reduceLT,Nat.reduceLeDiff,Nat.reduceEqDiff,op]
  rw [if_pos (by decide)]
  simp only [pv,↓reduceIte,Nat.reduceAdd,Nat.reduceLT,Nat.reduceLeDiff,Nat.reduceEqDiff,op,show (8:Int).toNat=8 from rfl,hc,hlen,hff])]
 have m8:=eF cel 8 (by decide)
 obtain ⟨wd,ew⟩:=Int.eq_ofNat_of_zero_le (show 0≤1 + cel % 8 by lia)
 have msp:=eF (cel / 8) (wd:Int) (by lia)
 obtain ⟨sp,es⟩:=Int.eq_ofNat_of_zero_le msp.1
 rw [am (env':=[some (.f,.int cel),some (.f,.str LET),some (.l .f,.lst (base.map D.int)),some (.f,.int (wd:Int)),none,none,none,none]) (by simp only [pv,↓reduceIte,Nat.reduceAdd,Nat.reduceLT,Nat.reduceLeDiff,Nat.reduceEqDiff,op,iZ _ 8 (by decide),ew])]
 rw [am (env':=[some (.f,.int cel),some (.f,.str LET),some (.l .f,.lst (base.map D.int)),some (.f,.int (wd:Int)),some (.f,.int (sp:Int)),none,none,none]) (by simp only [pv,↓reduceIte,Nat.reduceAdd,Nat.reduceLT,Nat.reduceLeDiff,Nat.reduceEqDiff,op,g7 _ 8 (by decide) (by decide),iZ _ (wd:Int) (by lia),es])]
 rw [am (env':=[some (.f,.int cel),some (.f,.str LET),some (.l .f,.lst (base.map D.int)),some (.f,.int (wd:Int)),some (.f,.int (sp:Int)),some (.l .f,.lst []),none,none]) (by simp only [pv,↓reduceIte,Nat.reduceAdd,Nat.reduceLT,Nat.reduceLeDiff,Nat.reduceEqDiff,op])]
 obtain ⟨tk,etk⟩:∃ tk,(cel / 64 % 4 == 1)=tk:=⟨_,rfl⟩
 obtain ⟨env',ef,t6,t7,rfl⟩:=jX (a:=aw 6) (g:=bS) (e:=fun k=>D.int (k:Int)) 5 (fun i env=>∃ (t6 t7:Option R),env=[some (.f,.int cel),some (.f,.str LET),some (.l .f,.lst (base.map D.int)),some (.f,.int (wd:Int)),some (.f,.int (sp:Int)),some (.l .f,.lst (((List.range i).map (nmw base wd sp tk)).map D.str)),t6,t7]) (by
  rintro k env hk ⟨t6,t7,rfl⟩
  obtain ⟨u7,e⟩:=x5 cel base hbl hbb wd sp (by lia) (by lia) tk etk ((List.range k).map (nmw base wd sp tk)) (by rw [List.length_map,List.length_range];lia) k t7
  rw [show ((List.range k).map (nmw base wd sp tk))++[nmw base wd sp tk k]=(List.range (k + 1)).map (nmw base wd sp tk) by rw [List.range_succ,List.map_append];rfl] at e
  exact ⟨_,rfl,_,e,_,_,rfl⟩) _ ⟨none,none,rfl⟩
 rw [List.range_zero,List.map_nil,List.map_nil] at ef
 rw [am (env':=_) (by
  unfold fg
  simp only [pv,↓reduceIte,Nat.reduceAdd,Nat.reduceLT,Nat.reduceLeDiff,Nat.reduceEqDiff,op]
  rw [if_pos (by decide)]
  simp only [pv,↓reduceIte,Nat.reduceAdd,Nat.reduceLT,Nat.reduceLeDiff,Nat.reduceEqDiff,op,show (5:Int).toNat=5 from rfl]
  exact ef)]
 unfold d5
 have hnlen:((List.range 5).map (nmw base wd sp tk)).length=5:=by rw [List.length_map,List.length_range]
 have hnd:((List.range 5).map (nmw base wd sp tk)).Nodup:=iO _ 5 fun i j hi hj e=>vh base hbl hbb wd sp (by lia) (by lia) tk i j (by lia) (by lia) e
 have hnw:∀ n∈((List.range 5).map (nmw base wd sp tk)),n.length≤8:=by
  intro n hn
  obtain ⟨k,_,rfl⟩:=List.mem_map.mp hn
  unfold nmw
  rw [List.length_map]
  exact pK base hbl wd sp tk k
 generalize ((List.range 5).map (nmw base wd sp tk))=l at hnlen hnd hnw
 by_cases hm:[109,111,118,101,115]∈l
 ·have hc2:cw (aw 0) fP (ap cF (ai (au (.str [115]))) (aj 0)) (l.map D.str) [none]=.ok ((l.map fun n=>115 :: n).map D.str):=by
   rw [b7 (r:=fun n:List Nat=>D.str (115 :: n)) (fun env=>∃ t,env=[t]) l ?_ _ ⟨none,rfl⟩]
   ·rw [List.map_map]
    rfl
   ·rintro n hn env ⟨t,rfl⟩
    have:=hnw n hn
    refine ⟨[some (.f,.str n)],rfl,.f,[some (.f,.str n)],?_,_,rfl⟩
    simp only [pv,↓reduceIte,Nat.reduceAdd,Nat.reduceLT,Nat.reduceLeDiff,Nat.reduceEqDiff,op,AX [115] n (by rw [List.length_singleton];lia)]
  have hzz:((l.map fun n=>115 :: n).map D.str).length≤sizeLine:=eE (by rw [List.length_map,List.length_map];lia)
  have hnd2:(l.map fun n=>115 :: n).Nodup:=by
   rw [List.nodup_iff_pairwise_ne,List.pairwise_map]
   exact (List.nodup_iff_pairwise_ne.mp hnd).imp fun {a b} h e=>h (List.cons.inj e).2
  have hfl:=PV.flat_strs (l.map fun n=>115 :: n)
  rw [am (env':=[some (.f,.int cel),some (.f,.str LET),some (.l .f,.lst (base.map D.int)),some (.f,.int (wd:Int)),some (.f,.int (sp:Int)),some (.l .f,.lst ((l.map fun n=>115 :: n).map D.str)),t6,t7]) (by
   generalize (ap cF (ai (au (.str [115]))) (aj 0))=GG at hc2 ⊢
   simp only [pv,↓reduceIte,Nat.reduceAdd,Nat.reduceLT,Nat.reduceLeDiff,Nat.reduceEqDiff,op,sr,hm,decide_true,hc2,hzz,hfl])]
  refine ⟨eY ltS (l.map fun n=>115 :: n),by rw [k9,List.length_map];exact hnlen,(dh ltS _).nodup_iff.mpr hnd2,cQ ly _,?_⟩
  simp only [pv,↓reduceIte,Nat.reduceAdd,Nat.reduceLT,Nat.reduceLeDiff,Nat.reduceEqDiff,op,pI (l.map fun n=>115 :: n) (by rw [List.length_map];lia)]
 ·rw [am (env':=[some (.f,.int cel),some (.f,.str LET),some (.l .f,.lst (base.map D.int)),some (.f,.int (wd:Int)),some (.f,.int (sp:Int)),some (.l .f,.lst (l.map D.str)),t6,t7]) (by simp only [pv,↓reduceIte,Nat.reduceAdd,Nat.reduceLT,Nat.reduceLeDiff,Nat.reduceEqDiff,op,sr,hm,decide_false,Bool.false_eq_true])]
  refine ⟨eY ltS l,by rw [k9];exact hnlen,(dh ltS _).nodup_iff.mpr hnd,cQ ly _,?_⟩
  simp only [pv,↓reduceIte,Nat.reduceAdd,Nat.reduceLT,Nat.reduceLeDiff,Nat.reduceEqDiff,op,pI l (by lia)]
theorem x6 (env:PV.Env) (fo:FO) (fp fp' fq:FP):xy fo fp fp' fq env=Res.bnd (fo env) (f:=⟨fun p=>Res.bnd (fp p.2) (f:=⟨fun q=>Res.bnd (fp' q.2) (f:=⟨fun t=>Res.bnd (fq t.2) (f:=⟨fun u=>Res.bnd (der u.2 p.1) (f:=⟨fun d=>Res.bnd (xx d q.1 t.1 u.1) (f:=⟨fun r=>.ok (r,u.2)⟩)⟩)⟩)⟩)⟩)⟩):=id rfl
theorem vm (env:PV.Env) (fa fb fc:FX):uJ fa fb fc env=Res.bnd (fa env) (f:=⟨fun p=>Res.bnd (fb p.2) (f:=⟨fun q=>Res.bnd (fc q.2) (f:=⟨fun t=>.ok ((.t [.f,q.1.1,t.1.1],.tup [p.1.2,q.1.2,t.1.2]),t.2)⟩)⟩)⟩):=id rfl
theorem qZ {α β:Type} (f:α→β) (l:List α) (lo hi:Option Int) (c:Int):dX (l.map f) lo hi c=(dX l lo hi c).map f:=by
 unfold dX
 rw [List.length_map,List.map_filterMap]
 congr 1
 funext i
 rw [List.getElem?_map]
theorem zS (ds:List D) (lo hi:Option Int):xx (.lst ds) lo hi (some 6)=.ok (.l .f,.lst (dX ds lo hi 6)):=id rfl
theorem x9 (ns:List Int) (first k:Int) (hk:0≤k∧k≤1000):∃ v:Int,bY [.lst (ns.map D.int),.int first,.int k]=.ok (.f,.int v):=by
 unfold bY iK
 rw [bc (h:=by rfl)]
 rw [am (env':=[some (.f,.lst (ns.map D.int)),some (.f,.int first),some (.f,.int k),some (.f,.int (7 + k)),none]) (by simp only [pv,↓reduceIte,Nat.reduceAdd,Nat.reduceLT,Nat.reduceLeDiff,Nat.reduceEqDiff,op])]
 obtain ⟨env',ef,v,t4,rfl⟩:=for_list (a:=aw 4) (g:=cV) (e:=D.int) (dX ns (some (first + k)) (some (first + 84)) 6) (fun j env=>∃ (v:Int) (t4:Option R),env=[some (.f,.lst (ns.map D.int)),some (.f,.int first),some (.f,.int k),some (.f,.int v),t4]) (by
  rintro j c env hj ⟨v,t4,rfl⟩
  refine ⟨_,rfl,_,?_,qY (c + v) k,some (.f,.int c),rfl⟩
  unfold cV
  simp only [pv,↓reduceIte,Nat.reduceAdd,Nat.reduceLT,Nat.reduceLeDiff,Nat.reduceEqDiff,op,lH (c + v) k hk.1 hk.2]) _ ⟨7 + k,none,rfl⟩
 rw [am (env':=_) (by
  unfold gf
  simp only [pv,↓reduceIte,Nat.reduceAdd,Nat.reduceLT,Nat.reduceLeDiff,Nat.reduceEqDiff,op,x6,zS,qZ]
  exact ef)]
 unfold ft
 exact ⟨v,by simp only [pv,↓reduceIte,Nat.reduceAdd,Nat.reduceLT,Nat.reduceLeDiff,Nat.reduceEqDiff,op]⟩
def Tk (l:List Int) (cnt:Nat):Prop:=l.length=cnt∧∀ x∈l,0≤x∧x≤10
theorem Tk.app {l:List Int} {cnt:Nat} (h:Tk l cnt) {x:Int} (hx:0≤x∧x≤10):Tk (l++[x]) (cnt + 1):=by
 refine ⟨by rw [List.length_append,h.1];rfl,fun y hy=>?_⟩
 rcases List.mem_append.mp hy with hy | hy
 ·exact h.2 y hy
 ·rw [List.mem_singleton.mp hy]
  exact hx
theorem vn (number:Int) (cnt:Nat) (hc:cnt≤10):∃ (b:Int) (ts gs:List Int),(0≤b∧b≤10)∧Tk ts cnt∧Tk gs cnt∧bJ [.int number,.int (cnt:Int)]=.ok (.t [.f,.l .f,.l .f],.tup [.int b,.lst (ts.map D.int),.lst (gs.map D.int)]):=by
 unfold bJ gO
 rw [bc (h:=by rfl)]
 rw [am (env':=[some (.f,.int number),some (.f,.int (cnt:Int)),some (.l .f,.lst []),none,none,none,none,none]) (by simp only [pv,↓reduceIte,Nat.reduceAdd,Nat.reduceLT,Nat.reduceLeDiff,Nat.reduceEqDiff,op])]
 rw [am (env':=[some (.f,.int number),some (.f,.int (cnt:Int)),some (.l .f,.lst []),some (.l .f,.lst []),none,none,none,none]) (by simp only [pv,↓reduceIte,Nat.reduceAdd,Nat.reduceLT,Nat.reduceLeDiff,Nat.reduceEqDiff,op])]
 obtain ⟨env',ef,ts,gs,t4,t5,t6,t7,h1,h2,rfl⟩:=jX (a:=aw 4) (g:=cH) (e:=fun k=>D.int (k:Int)) cnt (fun i env=>∃ (ts gs:List Int) (t4 t5 t6 t7:Option R),Tk ts i∧Tk gs i∧env=[some (.f,.int number),some (.f,.int (cnt:Int)),some (.l .f,.lst (ts.map D.int)),some (.l .f,.lst (gs.map D.int)),t4,t5,t6,t7]) (by
  rintro j env hj ⟨ts,gs,t4,t5,t6,t7,h1,h2,rfl⟩
  have z1:(ts.map D.int).length < sizeLine:=i0 (by rw [List.length_map,h1.1];lia)
  have z2:(gs.map D.int).length < sizeLine:=i0 (by rw [List.length_map,h2.1];lia)
  have hmx:=lH number (j:Int) (by lia) (by lia)
  generalize qY number (j:Int)=x at hmx
  have b1:=eF x 5 (by decide)
  have b2:=eF (x / 8) 4 (by decide)
  refine ⟨[some (.f,.int number),some (.f,.int (cnt:Int)),some (.l .f,.lst (ts.map D.int)),some (.l .f,.lst (gs.map D.int)),some (.f,.int (j:Int)),t5,t6,t7],rfl,_,?_,ts++[(if 0 < 0 - (x % 5 - 2) then 0 - (x % 5 - 2) else 0) + x / 8 % 4 / 3],gs++[(if 0 < x % 5 - 2 then x % 5 - 2 else 0) + x / 8 % 4 / 3],some (.f,.int (j:Int)),some (.f,.int x),some (.f,.int (x % 5 - 2)),some (.f,.int (x / 8 % 4 / 3)),h1.app ?_,h2.app ?_,rfl⟩
  ·unfold cH
   rw [am (env':=[some (.f,.int number),some (.f,.int (cnt:Int)),some (.l .f,.lst (ts.map D.int)),some (.l .f,.lst (gs.map D.int)),some (.f,.int (j:Int)),some (.f,.int x),t6,t7]) (by simp only [pv,↓reduceIte,Nat.reduceAdd,Nat.reduceLT,Nat.reduceLeDiff,Nat.reduceEqDiff,op,hmx])]
   rw [am (env':=[some (.f,.int number),some (.f,.int (cnt:Int)),some (.l .f,.lst (ts.map D.int)),some (.l .f,.lst (gs.map D.int)),some (.f,.int (j:Int)),some (.f,.int x),some (.f,.int (x % 5 - 2)),t7]) (by simp only [pv,↓reduceIte,Nat.reduceAdd,Nat.reduceLT,Nat.reduceLeDiff,Nat.reduceEqDiff,op,iZ _ 5 (by decide)])]
   generalize x % 5 - 2=y
   rw [am (env':=[some (.f,.int number),some (.f,.int (cnt:Int)),some (.l .f,.lst (ts.map D.int)),some (.l .f,.lst (gs.map D.int)),some (.f,.int (j:Int)),some (.f,.int x),some (.f,.int y),some (.f,.int (x / 8 % 4 / 3))]) (by simp only [pv,↓reduceIte,Nat.reduceAdd,Nat.reduceLT,Nat.reduceLeDiff,Nat.reduceEqDiff,op,iZ _ 4 (by decide),g7 _ 8 (by decide) (by decide),g7 _ 3 (by decide) (by decide)])]
   generalize x / 8 % 4 / 3=z
   rw [List.map_append,List.map_append,List.map_cons,List.map_cons,List.map_nil]
   rw [am (env':=[some (.f,.int number),some (.f,.int (cnt:Int)),some (.l .f,.lst (ts.map D.int++[.int ((if 0 < 0 - y then 0 - y else 0) + z)])),some (.l .f,.lst (gs.map D.int)),some (.f,.int (j:Int)),some (.f,.int x),some (.f,.int y),some (.f,.int z)]) (by simp only [pv,↓reduceIte,Nat.reduceAdd,Nat.reduceLT,Nat.reduceLeDiff,Nat.reduceEqDiff,op,z1])]
   simp only [pv,↓reduceIte,Nat.reduceAdd,Nat.reduceLT,Nat.reduceLeDiff,Nat.reduceEqDiff,op,z2]
  ·split <;> lia
  ·split <;> lia) _ ⟨[],[],none,none,none,none,⟨rfl,(fun _ h=>nomatch h)⟩,⟨rfl,(fun _ h=>nomatch h)⟩,rfl⟩
 rw [List.map_nil] at ef
 rw [am (env':=_) (by
  unfold fu
  simp only [pv,↓reduceIte,Nat.reduceAdd,Nat.reduceLT,Nat.reduceLeDiff,Nat.reduceEqDiff,op]
  rw [if_pos (by lia)]
  simp only [pv,↓reduceIte,Nat.reduceAdd,Nat.reduceLT,Nat.reduceLeDiff,Nat.reduceEqDiff,op,Int.toNat_natCast]
  exact ef)]
 unfold d7
 have b:=eF (number / 16) 4 (by decide)
 exact ⟨number / 16 % 4,ts,gs,by lia,h1,h2,by simp only [pv,↓reduceIte,Nat.reduceAdd,Nat.reduceLT,Nat.reduceLeDiff,Nat.reduceEqDiff,op,vm,g7 _ 16 (by decide) (by decide),iZ _ 4 (by decide)]⟩
abbrev Pl:=Int×List Int×List Int
noncomputable def eP (p:Pl):D:=.tup [.int p.1,.tup (p.2.1.map D.int),.tup (p.2.2.map D.int)]
def Pok (p:Pl) (cnt:Nat):Prop:=p.2.1.length=cnt∧p.2.2.length=cnt
theorem ya (f:Int) (l:List Int) (h:∀ x∈l,0≤x∧x≤10):cw (aw 0) fP (ap jN (aj 1) (aj 0)) (l.map D.int) [none,some (.f,.int f)]=.ok ((l.map fun x=>f * x).map D.int):=by
 rw [b7 (r:=fun x:Int=>D.int (f * x)) (fun env=>∃ t,env=[t,some (.f,.int f)]) l ?_ _ ⟨none,rfl⟩]
 ·rw [List.map_map]
  rfl
 ·rintro x hx env ⟨t,rfl⟩
  have:=h x hx
  refine ⟨[some (.f,.int x),some (.f,.int f)],rfl,.f,[some (.f,.int x),some (.f,.int f)],?_,_,rfl⟩
  simp only [pv,↓reduceIte,Nat.reduceAdd,Nat.reduceLT,Nat.reduceLeDiff,Nat.reduceEqDiff,op,Ab f x (lb x (by lia) (by lia))]
theorem mP (b:Int) (hb:0≤b∧b≤10) (ts gs:List Int) (cnt:Nat) (hc:cnt≤10) (h1:Tk ts cnt) (h2:Tk gs cnt) (cel:Int):∃ p:Pl,Pok p cnt∧bi [.tup [.int b,.lst (ts.map D.int),.lst (gs.map D.int)],.int cel]=.ok (.f,eP p):=by
 have p50:vD (.int 10) (.int 50)=.ok (.f,.int (10 ^ 50)):=AW 50 (by decide)
 have m50:=eF cel (10 ^ 50) (by decide)
 unfold bi gj
 rw [bc (h:=by rfl)]
 rw [am (env':=[some (.f,.tup [.int b,.lst (ts.map D.int),.lst (gs.map D.int)]),some (.f,.int cel),some (.f,.int (1 + cel % 10 ^ 50)),none,none,none]) (by simp only [pv,↓reduceIte,Nat.reduceAdd,Nat.reduceLT,Nat.reduceLeDiff,Nat.reduceEqDiff,op,p50,iZ _ (10 ^ 50) (by decide)])]
 have hf:0 < 1 + cel % 10 ^ 50:=by
  generalize cel % 10 ^ 50=q at m50
  lia
 generalize 1 + cel % 10 ^ 50=f at hf
 rw [am (env':=[some (.f,.tup [.int b,.lst (ts.map D.int),.lst (gs.map D.int)]),some (.f,.int cel),some (.f,.int f),some (.f,.int b),some (.f,.lst (ts.map D.int)),some (.f,.lst (gs.map D.int))]) (by simp only [pv,↓reduceIte,Nat.reduceAdd,Nat.reduceLT,Nat.reduceLeDiff,Nat.reduceEqDiff,op])]
 have c1:=ya f ts h1.2
 have c2:=ya f gs h2.2
 have l1:((ts.map fun x=>f * x).map D.int).length≤sizeLine:=eE (by rw [List.length_map,List.length_map,h1.1];lia)
 have l2:((gs.map fun x=>f * x).map D.int).length≤sizeLine:=eE (by rw [List.length_map,List.length_map,h2.1];lia)
 have f1:=flat_ints (ts.map fun x=>f * x)
 have f2:=flat_ints (gs.map fun x=>f * x)
 refine ⟨(f * b + cel / 7 % f,ts.map fun x=>f * x,gs.map fun x=>f * x),⟨by rw [List.length_map];exact h1.1,by rw [List.length_map];exact h2.1⟩,?_⟩
 unfold eP
 dsimp only
 generalize (ts.map fun x=>f * x).map D.int=T1 at *
 generalize (gs.map fun x=>f * x).map D.int=T2 at *
 have hmb:=Ab f b (lb b (by lia) (by lia))
 have hmod:=iZ (cel / 7) f hf
 have hdiv:=g7 cel 7 (by decide) (by decide)
 generalize f * b=fb at hmb ⊢
 generalize (cel / 7) % f=cf at hmod ⊢
 rw [am (env':=[some (.f,.tup [.int b,.lst (ts.map D.int),.lst (gs.map D.int)]),some (.f,.int cel),some (.f,.int f),some (.f,.int b),some (.f,.tup T1),some (.f,.lst (gs.map D.int))]) (by
  generalize (ap jN (aj 1) (aj 0))=GG at c1 ⊢
  simp only [pv,↓reduceIte,Nat.reduceAdd,Nat.reduceLT,Nat.reduceLeDiff,Nat.reduceEqDiff,op,c1,l1,f1])]
 have c2':∀ GG,GG=(ap jN (aj 1) (aj 0))→cw (aw 0) fP GG (gs.map D.int) [none,some (.f,.int f)]=.ok T2:=fun GG h=>by rw [h];exact c2
 rw [show (dn (jF (aH (ap cF (ai (ap jN (aj 2) (aj 3))) (ai (ap gA (ai (ap eW (aj 1) (ai (au (.int 7))))) (aj 2)))) (aH (aI 4) (aH (bM df (ag (ai (dv (or2 (iW 5) (or2 (dr (aI 5)) (dt (aI 5)))) [none,some 2] (aw 0) fP (ap jN (aj 1) (aj 0)))) aD)) bW)))))=(fun GG=>dn (jF (aH (ap cF (ai (ap jN (aj 2) (aj 3))) (ai (ap gA (ai (ap eW (aj 1) (ai (au (.int 7))))) (aj 2)))) (aH (aI 4) (aH (bM df (ag (ai (dv (or2 (iW 5) (or2 (dr (aI 5)) (dt (aI 5)))) [none,some 2] (aw 0) fP GG)) aD)) bW))))) (ap jN (aj 1) (aj 0)) from rfl]
 generalize eGG:(ap jN (aj 1) (aj 0))=GG
 have c2:=c2' GG eGG.symm
 clear eGG c2'
 simp only [pv,↓reduceIte,Nat.reduceAdd,Nat.reduceLT,Nat.reduceLeDiff,Nat.reduceEqDiff,op,hmb,hmod,hdiv,c2,l2,f2]
theorem re (ns:List Int) (first:Nat) (cnt:Nat) (hc:cnt≤10) (ps:List Pl) (hps:∀ p∈ps,Pok p cnt) (hl:ps.length≤100) (k:Nat) (hk:k≤100) (t5 t6 t7:Option R) :
  ∃ (ps':List Pl) (u5 u6 u7:Option R),(∀ p∈ps',Pok p cnt)∧ps.length + 1≤ps'.length∧ps'.length≤ps.length + 2∧bE [some (.f,.lst (ns.map D.int)),some (.f,.int (first:Int)),some (.f,.int (cnt:Int)),some (.l .f,.lst (ps.map eP)),some (.f,.int (k:Int)),t5,t6,t7]=.ok (.nx [some (.f,.lst (ns.map D.int)),some (.f,.int (first:Int)),some (.f,.int (cnt:Int)),some (.l .f,.lst (ps'.map eP)),some (.f,.int (k:Int)),u5,u6,u7]):=by
 obtain ⟨v,ev⟩:=x9 ns (first:Int) (k:Int) (by lia)
 obtain ⟨b,ts,gs,hb,h1,h2,ep⟩:=vn v cnt hc
 have c1:=jj ns (first + k)
 rw [show ((first + k:Nat):Int)=(first:Int) + (k:Int) by lia] at c1
 have c2:=jj ns (first + 6 + k)
 rw [show ((first + 6 + k:Nat):Int)=(first:Int) + 6 + (k:Int) by lia] at c2
 obtain ⟨p1,hp1,e1⟩:=mP b hb ts gs cnt hc h1 h2 (cell ns (first + k))
 have m4:=eF (v / 256) 4 (by decide)
 obtain ⟨p2,hp2,e2⟩:=mP (v / 256 % 4) (by lia) gs ts cnt hc h2 h1 (cell ns (first + 6 + k))
 have hcl:bA (.t [.f,.l .f,.l .f]) (.tup [.int b,.lst (ts.map D.int),.lst (gs.map D.int)])=true:=by
  have f1:=flat_ints ts
  have f2:=flat_ints gs
  simp only [bA,ku,b9]
  rw [←bH,←bH,f1,f2]
  rfl
 have hfp:∀ p:Pl,b9 (eP p)=true:=fun p=>by
  unfold eP
  rw [cz]
  simp only [flatDs,cz,flat_ints,gq]
  rfl
 have hz1:(ps.map eP).length < sizeLine:=i0 (by rw [List.length_map];lia)
 have hz2:(ps.map eP++[eP p1]).length < sizeLine:=i0 (by rw [List.length_append,List.length_map,List.length_singleton];lia)
 unfold bE
 rw [am (env':=[some (.f,.lst (ns.map D.int)),some (.f,.int (first:Int)),some (.f,.int (cnt:Int)),some (.l .f,.lst (ps.map eP)),some (.f,.int (k:Int)),some (.f,.int v),t6,t7]) (by simp only [pv,↓reduceIte,Nat.reduceAdd,Nat.reduceLT,Nat.reduceLeDiff,Nat.reduceEqDiff,op,ev])]
 rw [am (env':=[some (.f,.lst (ns.map D.int)),some (.f,.int (first:Int)),some (.f,.int (cnt:Int)),some (.l .f,.lst (ps.map eP)),some (.f,.int (k:Int)),some (.f,.int v),some (.t [.f,.l .f,.l .f],.tup [.int b,.lst (ts.map D.int),.lst (gs.map D.int)]),t7]) (by simp only [pv,↓reduceIte,Nat.reduceAdd,Nat.reduceLT,Nat.reduceLeDiff,Nat.reduceEqDiff,op,ep,hcl])]
 rw [am (env':=[some (.f,.lst (ns.map D.int)),some (.f,.int (first:Int)),some (.f,.int (cnt:Int)),some (.l .f,.lst (ps.map eP++[eP p1])),some (.f,.int (k:Int)),some (.f,.int v),some (.t [.f,.l .f,.l .f],.tup [.int b,.lst (ts.map D.int),.lst (gs.map D.int)]),t7]) (by simp only [pv,↓reduceIte,Nat.reduceAdd,Nat.reduceLT,Nat.reduceLeDiff,Nat.reduceEqDiff,op,c1,e1,hfp,hz1])]
 by_cases h3:0 < v / 64 % 3
 ·refine ⟨ps++[p1,p2],some (.f,.int v),some (.f,.tup [.int b,.lst (ts.map D.int),.lst (gs.map D.int)]),some (.f,.tup [.int (v / 256 % 4),.lst (gs.map D.int),.lst (ts.map D.int)]),fun p hp=>?_,by rw [List.length_append];simp,by rw [List.length_append];simp,?_⟩
  ·rcases List.mem_append.mp hp with hp | hp
   ·exact hps p hp
   ·rcases List.mem_cons.mp hp with rfl | hp
    ·exact hp1
    ·rw [List.mem_singleton.mp hp]
     exact hp2
  ·rw [List.map_append,List.map_cons,List.map_cons,List.map_nil,show ps.map eP++[eP p1,eP p2]=(ps.map eP++[eP p1])++[eP p2] by rw [List.append_assoc];rfl]
   simp only [pv,↓reduceIte,Nat.reduceAdd,Nat.reduceLT,Nat.reduceLeDiff,Nat.reduceEqDiff,op,g7 _ 64 (by decide) (by decide),g7 _ 256 (by decide) (by decide),iZ _ 3 (by decide),iZ _ 4 (by decide),gt_iff_lt,h3,decide_true,at2,c2,e2,hfp,hz2]
 ·refine ⟨ps++[p1],some (.f,.int v),some (.t [.f,.l .f,.l .f],.tup [.int b,.lst (ts.map D.int),.lst (gs.map D.int)]),t7,fun p hp=>?_,by rw [List.length_append];simp,by rw [List.length_append];simp,?_⟩
  ·rcases List.mem_append.mp hp with hp | hp
   ·exact hps p hp
   ·rw [List.mem_singleton.mp hp]
    exact hp1
  ·rw [List.map_append,List.map_cons,List.map_nil]
   simp only [pv,↓reduceIte,Nat.reduceAdd,Nat.reduceLT,Nat.reduceLeDiff,Nat.reduceEqDiff,op,g7 _ 64 (by decide) (by decide),iZ _ 3 (by decide),gt_iff_lt,h3,decide_false,Bool.false_eq_true]
theorem rg (ns:List Int) (first:Nat) (cnt:Nat) (hc:cnt≤10):∃ ps:List Pl,(∀ p∈ps,Pok p cnt)∧ps≠[]∧ps.length≤8∧bj [.lst (ns.map D.int),.int (first:Int),.int (cnt:Int)]=.ok (.l .f,.lst (ps.map eP)):=by
 have c1:aq [.lst (ns.map D.int),.int 1]=.ok (.f,.int (cell ns 1)):=jj ns 1
 have m4:=eF (cell ns 1 / 4) 4 (by decide)
 unfold bj gk
 rw [bc (h:=by rfl)]
 rw [am (env':=[some (.f,.lst (ns.map D.int)),some (.f,.int (first:Int)),some (.f,.int (cnt:Int)),some (.l .f,.lst []),none,none,none,none]) (by simp only [pv,↓reduceIte,Nat.reduceAdd,Nat.reduceLT,Nat.reduceLeDiff,Nat.reduceEqDiff,op])]
 obtain ⟨env',ef,ps,t4,t5,t6,t7,h1,h2,h3,rfl⟩:=jX (a:=aw 4) (g:=bE) (e:=fun k=>D.int (k:Int)) (1 + cell ns 1 / 4 % 4).toNat (fun i env=>∃ (ps:List Pl) (t4 t5 t6 t7:Option R),(∀ p∈ps,Pok p cnt)∧i≤ps.length∧ps.length≤2 * i∧env=[some (.f,.lst (ns.map D.int)),some (.f,.int (first:Int)),some (.f,.int (cnt:Int)),some (.l .f,.lst (ps.map eP)),t4,t5,t6,t7]) (by
  rintro k env hk ⟨ps,t4,t5,t6,t7,h1,h2,h3,rfl⟩
  obtain ⟨ps',u5,u6,u7,h1',h2',h3',e⟩:=re ns first cnt hc ps h1 (by lia) k (by lia) t5 t6 t7
  exact ⟨_,rfl,_,e,ps',_,_,_,_,h1',by lia,by lia,rfl⟩) _ ⟨[],none,none,none,none,(fun _ h=>nomatch h),Nat.le_refl _,Nat.le_refl _,rfl⟩
 rw [List.map_nil] at ef
 rw [am (env':=_) (by
  unfold d8
  simp only [pv,↓reduceIte,Nat.reduceAdd,Nat.reduceLT,Nat.reduceLeDiff,Nat.reduceEqDiff,op,c1,g7 _ 4 (by decide) (by decide),iZ _ 4 (by decide)]
  rw [if_pos (by lia)]
  simp only [pv,↓reduceIte,Nat.reduceAdd,Nat.reduceLT,Nat.reduceLeDiff,Nat.reduceEqDiff,op]
  exact ef)]
 unfold dJ
 refine ⟨ps,h1,?_,by lia,by simp only [pv,↓reduceIte,Nat.reduceAdd,Nat.reduceLT,Nat.reduceLeDiff,Nat.reduceEqDiff,op]⟩
 intro h
 rw [h,List.length_nil] at h2
 lia
theorem yb {α:Type} {l:List α} (h:l.Nodup) (lo hi:Option Int):(e8 l lo hi).Nodup:=by
 unfold e8
 exact (h.sublist (List.drop_sublist _ _)).sublist (List.take_sublist _ _)
theorem yc {α:Type} {l:List α} {r:α→α→Prop} (h:l.Pairwise r) (lo hi:Option Int):(e8 l lo hi).Pairwise r:=by
 unfold e8
 exact (h.sublist (List.drop_sublist _ _)).sublist (List.take_sublist _ _)
theorem vo (ns:List Int):∃ nZ:List (List Nat),nZ≠[]∧nZ.length≤3∧nZ.Nodup∧nZ.Pairwise (fun a b=>ltS b a=false)∧bK [.lst (ns.map D.int)]=.ok (.f,.tup (nZ.map D.str)):=by
 have c0:aq [.lst (ns.map D.int),.int 0]=.ok (.f,.int (cell ns 0)):=jj ns 0
 have c1:aq [.lst (ns.map D.int),.int 1]=.ok (.f,.int (cell ns 1)):=jj ns 1
 obtain ⟨l,hl,hnd,hpw,en⟩:=vk (cell ns 0)
 have m3:=eF (cell ns 1) 3 (by decide)
 unfold bK gP
 rw [bc (h:=by rfl)]
 rw [am (env':=[some (.f,.lst (ns.map D.int)),some (.l .f,.lst (l.map D.str)),none,none,none]) (by simp only [pv,↓reduceIte,Nat.reduceAdd,Nat.reduceLT,Nat.reduceLeDiff,Nat.reduceEqDiff,op,c0,en])]
 rw [am (env':=[some (.f,.lst (ns.map D.int)),some (.l .f,.lst (l.map D.str)),some (.f,.int (cell ns 1)),none,none]) (by simp only [pv,↓reduceIte,Nat.reduceAdd,Nat.reduceLT,Nat.reduceLeDiff,Nat.reduceEqDiff,op,c1])]
 rw [am (env':=[some (.f,.lst (ns.map D.int)),some (.l .f,.lst (l.map D.str)),some (.f,.int (cell ns 1)),some (.f,.int (1 + cell ns 1 % 3)),none]) (by simp only [pv,↓reduceIte,Nat.reduceAdd,Nat.reduceLT,Nat.reduceLeDiff,Nat.reduceEqDiff,op,iZ _ 3 (by decide)])]
 obtain ⟨cnt,ec⟩:=Int.eq_ofNat_of_zero_le (show 0≤1 + cell ns 1 % 3 by lia)
 rw [ec]
 have ms:=eF (cell ns 1 / 32) (6 - (cnt:Int)) (by lia)
 obtain ⟨st,es⟩:=Int.eq_ofNat_of_zero_le ms.1
 rw [am (env':=[some (.f,.lst (ns.map D.int)),some (.l .f,.lst (l.map D.str)),some (.f,.int (cell ns 1)),some (.f,.int (cnt:Int)),some (.f,.int (st:Int))]) (by simp only [pv,↓reduceIte,Nat.reduceAdd,Nat.reduceLT,Nat.reduceLeDiff,Nat.reduceEqDiff,op,g7 _ 32 (by decide) (by decide),iZ _ (6 - (cnt:Int)) (by lia),es])]
 have hcut:=u8 l st (st + cnt) (by lia) (by lia)
 have hlen:(e8 l (some (st:Int)) (some ((st + cnt:Nat):Int))).length=cnt:=by
  rw [hcut,List.length_take,List.length_drop]
  lia
 rw [show ((st + cnt:Nat):Int)=(st:Int) + (cnt:Int) by lia] at hlen
 refine ⟨e8 l (some (st:Int)) (some ((st:Int) + (cnt:Int))),?_,by lia,yb hnd _ _,yc hpw _ _,?_⟩
 ·intro h
  rw [h,List.length_nil] at hlen
  lia
 ·simp only [pv,↓reduceIte,Nat.reduceAdd,Nat.reduceLT,Nat.reduceLeDiff,Nat.reduceEqDiff,op,ve]
noncomputable def cA (k:Nat):List (Int×Pl)→Option (List Int)
 | []=>some []
 | z :: zs=>if z.1 < z.2.2.1.getD k 0 then none else (cA k zs).map fun r=>(z.1 - z.2.2.1.getD k 0 + z.2.2.2.getD k 0) :: r
theorem iQ (k:Nat):∀ {zs:List (Int×Pl)} {r:List Int},cA k zs=some r→r.length=zs.length
 | [],r,h=>by cases h;rfl
 | z :: zs,r,h=>by
  rw [cA] at h
  split at h
  ·cases h
  ·rw [Option.map_eq_some_iff] at h
   obtain ⟨r',h1,rfl⟩:=h
   rw [List.length_cons,List.length_cons,iQ k h1]
theorem yd (A0 A1 A2:Option R) (k cnt:Nat) (hk:k < cnt) (acc:List Int) (hl:acc.length≤1000) (z:Int×Pl) (hz:Pok z.2 cnt):bD [A0,A1,A2,some (.f,.int (k:Int)),some (.l .f,.lst (acc.map D.int)),some (.f,.int z.1),some (.f,eP z.2)]=if z.1 < z.2.2.1.getD k 0 then .ok (.rt (.f,.non)) else .ok (.nx [A0,A1,A2,some (.f,.int (k:Int)),some (.l .f,.lst ((acc++[z.1 - z.2.2.1.getD k 0 + z.2.2.2.getD k 0]).map D.int)),some (.f,.int z.1),some (.f,eP z.2)]):=by
 have h1:atI (z.2.2.1.map D.int) (k:Int)=some (.int (z.2.2.1.getD k 0)):=ji (by rw [hz.1];exact hk)
 have h2:atI (z.2.2.2.map D.int) (k:Int)=some (.int (z.2.2.2.getD k 0)):=ji (by rw [hz.2];exact hk)
 have hzz:(acc.map D.int).length < sizeLine:=i0 (by rw [List.length_map];lia)
 unfold bD eP
 by_cases h:z.1 < z.2.2.1.getD k 0
 ·rw [if_pos h]
  simp only [pv,↓reduceIte,Nat.reduceAdd,Nat.reduceLT,Nat.reduceLeDiff,Nat.reduceEqDiff,op,h1,h,decide_true]
 ·rw [if_neg h,List.map_append,List.map_cons,List.map_nil]
  simp only [pv,↓reduceIte,Nat.reduceAdd,Nat.reduceLT,Nat.reduceLeDiff,Nat.reduceEqDiff,op,h1,h2,at2,h,decide_false,Bool.false_eq_true,hzz]
theorem lc (A0 A1 A2:Option R) (k cnt:Nat) (hk:k < cnt):∀ (zs:List (Int×Pl)) (acc:List Int) (t5 t6:Option R),acc.length + zs.length≤1000→(∀ z∈zs,Pok z.2 cnt)→
  (cA k zs=none∧gZ (gY 2 (az (aw 5) (az (aw 6) cv))) bD (zs.map fun z:Int×Pl=>D.tup [D.int z.1,eP z.2]) [A0,A1,A2,some (.f,.int (k:Int)),some (.l .f,.lst (acc.map D.int)),t5,t6]=.ok (.rt (.f,.non)))∨
  ∃ r u5 u6,cA k zs=some r∧gZ (gY 2 (az (aw 5) (az (aw 6) cv))) bD (zs.map fun z:Int×Pl=>D.tup [D.int z.1,eP z.2]) [A0,A1,A2,some (.f,.int (k:Int)),some (.l .f,.lst (acc.map D.int)),t5,t6]=.ok (.nx [A0,A1,A2,some (.f,.int (k:Int)),some (.l .f,.lst ((acc++r).map D.int)),u5,u6])
 | [],acc,t5,t6,_,_=>.inr ⟨[],t5,t6,rfl,by rw [List.append_nil];rfl⟩
 | z :: zs,acc,t5,t6,hl,hp=>by
  have h1:=yd A0 A1 A2 k cnt hk acc (by rw [List.length_cons] at hl;lia) z (hp z List.mem_cons_self)
  have ha:gY 2 (az (aw 5) (az (aw 6) cv)) (D.tup [D.int z.1,eP z.2]) [A0,A1,A2,some (.f,.int (k:Int)),some (.l .f,.lst (acc.map D.int)),t5,t6]=.ok [A0,A1,A2,some (.f,.int (k:Int)),some (.l .f,.lst (acc.map D.int)),some (.f,.int z.1),some (.f,eP z.2)]:=by simp only [pv,↓reduceIte,Nat.reduceAdd,Nat.reduceLT,Nat.reduceLeDiff,Nat.reduceEqDiff]
  rw [List.map_cons,x_forLC,ha,bOk,h1,cA]
  by_cases h:z.1 < z.2.2.1.getD k 0
  ·left
   rw [if_pos h,if_pos h]
   exact ⟨rfl,by rw [bOk]⟩
  ·rw [if_neg h,if_neg h,bOk]
   rcases lc A0 A1 A2 k cnt hk zs (acc++[z.1 - z.2.2.1.getD k 0 + z.2.2.2.getD k 0]) (some (.f,.int z.1)) (some (.f,eP z.2)) (by rw [List.length_cons] at hl;rw [List.length_append,List.length_singleton];lia) (fun y hy=>hp y (List.mem_cons_of_mem _ hy)) with ⟨e1,e2⟩ | ⟨r,u5,u6,e1,e2⟩
   ·left
    exact ⟨by rw [e1];rfl,e2⟩
   ·right
    refine ⟨_,u5,u6,by rw [e1];rfl,?_⟩
    rw [List.append_assoc] at e2
    exact e2
noncomputable def eN (nZ:List (List Nat)) (ps:List Pl):D:=.tup [.tup (nZ.map D.str),.lst (ps.map eP)]
noncomputable def eM (m:List Int):D:=.tup (m.map D.int)
theorem lI {nZ : List (List Nat)} {m : List Nat} (h : m ∈ nZ) : kP (nZ.map D.str) [.str m] = .ok (.f, .int ((nZ.idxOf m : Nat) : Int)) := by
  first
    | (unfold kP
       dsimp only
       rw [dk]
       dsimp only
       rw [if_pos h])
    | (unfold kP
       simp only [dk, h, if_true])
theorem eU {α β:Type} (f:α→D) (g:β→D) (xs:List α) (ys:List β):((xs.map f).zip (ys.map g)).map (fun z=>D.tup [z.1,z.2])=(xs.zip ys).map fun z=>D.tup [f z.1,g z.2]:=by
 rw [List.zip_map,List.map_map]
 rfl
theorem ye (nZ:List (List Nat)) (ps:List Pl) (hl:ps.length≤100) (hp:∀ p∈ps,Pok p nZ.length) (m:List Int) (mv:List Nat) (hm:mv∈nZ) :
  (cA (nZ.idxOf mv) (m.zip ps)=none∧bh [eN nZ ps,eM m,.str mv]=.ok (.f,.non))∨∃ r,cA (nZ.idxOf mv) (m.zip ps)=some r∧bh [eN nZ ps,eM m,.str mv]=.ok (.f,eM r):=by
 have hix:=lI hm
 have hk:=List.idxOf_lt_length_of_mem hm
 generalize nZ.idxOf mv=k at hix hk
 unfold bh iJ eN eM
 rw [bc (h:=by rfl)]
 rw [am (env':=[some (.f,.tup [.tup (nZ.map D.str),.lst (ps.map eP)]),some (.f,.tup (m.map D.int)),some (.f,.str mv),some (.f,.int (k:Int)),none,none,none]) (by simp only [pv,↓reduceIte,Nat.reduceAdd,Nat.reduceLT,Nat.reduceLeDiff,Nat.reduceEqDiff,op,hix])]
 rw [am (env':=[some (.f,.tup [.tup (nZ.map D.str),.lst (ps.map eP)]),some (.f,.tup (m.map D.int)),some (.f,.str mv),some (.f,.int (k:Int)),some (.l .f,.lst []),none,none]) (by simp only [pv,↓reduceIte,Nat.reduceAdd,Nat.reduceLT,Nat.reduceLeDiff,Nat.reduceEqDiff,op])]
 rcases lc (some (.f,.tup [.tup (nZ.map D.str),.lst (ps.map eP)])) (some (.f,.tup (m.map D.int))) (some (.f,.str mv)) k nZ.length hk (m.zip ps) [] none none (by rw [List.length_nil,List.length_zip];lia) (fun z hz=>hp _ (List.of_mem_zip (show (z.1,z.2)∈m.zip ps from hz)).2) with ⟨e1,e2⟩ | ⟨r,u5,u6,e1,e2⟩
 ·left
  refine ⟨e1,?_⟩
  rw [List.map_nil] at e2
  unfold dD
  simp only [pv,↓reduceIte,Nat.reduceAdd,Nat.reduceLT,Nat.reduceLeDiff,Nat.reduceEqDiff,op,eU,e2]
 ·right
  refine ⟨r,e1,?_⟩
  rw [List.map_nil,List.nil_append] at e2
  unfold dD fm
  simp only [pv,↓reduceIte,Nat.reduceAdd,Nat.reduceLT,Nat.reduceLeDiff,Nat.reduceEqDiff,op,eU,e2]
theorem eqDs_ints:∀ a b:List Int,gH (a.map D.int) (b.map D.int)=decide (a=b)
 | [],[]=>rfl
 | [],_ :: _=>rfl
 | _ :: _,[]=>rfl
 | x :: a,y :: b=>by
  rw [List.map_cons,List.map_cons,gH,eqDs_ints a b,eqD,Bool.eq_iff_iff]
  simp
theorem rh (a b:List Int):eqD (eM a) (eM b)=decide (a=b):=by
 unfold eM
 rw [eqD,eqDs_ints]
theorem pL (a:List Int):plainD 40 (eM a)=true:=qX a
theorem jk (t:List Int):b9 (eM t)=true:=by
 unfold eM
 rw [cz,flat_ints]
theorem yf (p:Pl):b9 (eP p)=true:=by
 unfold eP
 rw [cz]
 simp only [flatDs,cz,flat_ints,gq]
 rfl
theorem vp (ps:List Pl):flatDs (ps.map eP)=true:=by
 rw [bH,List.all_map,List.all_eq_true]
 exact fun p _=>yf p
noncomputable def tkA (k:Nat) (p:Pl):Int:=p.2.1.getD k 0
noncomputable def gvA (k:Nat) (p:Pl):Int:=p.2.2.getD k 0
noncomputable def yg (k:Nat) (zs:List (Int×Pl)):Bool:=zs.all fun z=>decide (tkA k z.2≤z.1)
theorem mQ (k:Nat):∀ zs:List (Int×Pl),cA k zs=if yg k zs then some (zs.map fun z=>z.1 - tkA k z.2 + gvA k z.2) else none
 | []=>rfl
 | z :: zs=>by
  rw [cA,mQ k zs]
  unfold yg
  rw [List.all_cons]
  by_cases h:z.1 < z.2.2.1.getD k 0
  ·have h2:decide (tkA k z.2≤z.1)=false:=decide_eq_false (by unfold tkA;lia)
   rw [if_pos h,h2,Bool.false_and,if_neg Bool.false_ne_true]
  ·have h2:decide (tkA k z.2≤z.1)=true:=decide_eq_true (by unfold tkA;lia)
   rw [if_neg h,h2,Bool.true_and]
   cases (zs.all fun z=>decide (tkA k z.2≤z.1)) with
   | true=>rw [if_pos rfl,if_pos rfl];rfl
   | false=>rw [if_neg Bool.false_ne_true,if_neg Bool.false_ne_true];rfl
theorem vq (nZ:List (List Nat)) (ps:List Pl) (hl:ps.length≤100):a9 [eN nZ ps]=.ok (.f,eM (ps.map (·.1))):=by
 have hc:cw (aw 0) fP (ap ixD (aj 0) (ai (au (.int 0)))) (ps.map eP) [none]=.ok ((ps.map (·.1)).map D.int):=by
  rw [List.map_map]
  refine b7 (fun env=>∃ t,env=[t]) _ ?_ _ ⟨_,rfl⟩
  rintro p _ env ⟨t,rfl⟩
  refine ⟨[some (.f,eP p)],by simp only [pv,↓reduceIte,Nat.reduceAdd,Nat.reduceLT,Nat.reduceLeDiff,Nat.reduceEqDiff],?_⟩
  unfold eP
  simp only [pv,↓reduceIte,Nat.reduceAdd,Nat.reduceLT,Nat.reduceLeDiff,Nat.reduceEqDiff,op,at0]
  exact ⟨_,_,rfl,_,rfl⟩
 have hl2:((ps.map (·.1)).map D.int).length≤sizeLine:=line_le (by rw [List.length_map,List.length_map];lia)
 unfold a9 dY eN
 rw [bc (h:=by rfl)]
 simp only [pv,↓reduceIte,Nat.reduceAdd,Nat.reduceLT,Nat.reduceLeDiff,Nat.reduceEqDiff,op,at1,hc,hl2,flat_ints]
 rfl
theorem yh {p:Pl} {k cnt:Nat} (h:Pok p cnt) (hk:k < cnt):atI (p.2.1.map D.int) (k:Int)=some (.int (tkA k p)):=ji (by rw [h.1];exact hk)
theorem zT {p:Pl} {k cnt:Nat} (h:Pok p cnt) (hk:k < cnt):atI (p.2.2.map D.int) (k:Int)=some (.int (gvA k p)):=ji (by rw [h.2];exact hk)
theorem rj (nZ:List (List Nat)) (ps:List Pl) (hl:ps.length≤100) (hp:∀ p∈ps,Pok p nZ.length) (m:List Int) (mv:List Nat) (hm:mv∈nZ):eS [eN nZ ps,eM m,.str mv]=.ok (.f,.bl (yg (nZ.idxOf mv) (m.zip ps))):=by
 have hix:=lI hm
 have hk:=List.idxOf_lt_length_of_mem hm
 generalize nZ.idxOf mv=k at hix hk
 have hc:cw (gY 2 (az (aw 0) (az (aw 1) cv))) fP (ap geO (aj 0) (ai (ap ixD (ai (ap ixD (aj 1) (ai (au (.int 1))))) (aj 2)))) ((m.zip ps).map fun z=>D.tup [.int z.1,eP z.2]) [none,none,some (.f,.int (k:Int))]=.ok (((m.zip ps).map fun z=>decide (tkA k z.2≤z.1)).map D.bl):=by
  rw [List.map_map]
  refine b7 (fun env=>∃ t u,env=[t,u,some (.f,.int (k:Int))]) _ ?_ _ ⟨_,_,rfl⟩
  rintro ⟨x,p⟩ hz env ⟨t,u,rfl⟩
  have e1:=yh (hp p (List.of_mem_zip hz).2) hk
  refine ⟨_,fO _ _ _ _ _,?_⟩
  unfold eP
  simp only [pv,↓reduceIte,Nat.reduceAdd,Nat.reduceLT,Nat.reduceLeDiff,Nat.reduceEqDiff,op,at1,e1]
  exact ⟨_,_,rfl,_,_,rfl⟩
 have hl2:(((m.zip ps).map fun z=>decide (tkA k z.2≤z.1)).map D.bl).length≤sizeLine:=line_le (by rw [List.length_map,List.length_map,List.length_zip];lia)
 unfold eS mE eN eM
 rw [bc (h:=by rfl)]
 rw [am (env':=[some (.f,.tup [.tup (nZ.map D.str),.lst (ps.map eP)]),some (.f,.tup (m.map D.int)),some (.f,.str mv),some (.f,.int (k:Int))]) (by simp only [pv,↓reduceIte,Nat.reduceAdd,Nat.reduceLT,Nat.reduceLeDiff,Nat.reduceEqDiff,op,at0,hix])]
 simp only [pv,↓reduceIte,Nat.reduceAdd,Nat.reduceLT,Nat.reduceLeDiff,Nat.reduceEqDiff,op,at1,eU,hc,hl2,jW,pF]
 unfold yg
 rw [List.all_map]
 rfl
noncomputable def eO:Option (List Int)→D
 | none=>.non
 | some r=>eM r
theorem vy (o:Option (List Int)):b9 (eO o)=true:=by
 cases o with
 | none=>rfl
 | some r=>exact jk r
theorem vz (nZ:List (List Nat)) (ps:List Pl) (hl:ps.length≤100) (hp:∀ p∈ps,Pok p nZ.length) (m:List Int) (mv:List Nat) (hm:mv∈nZ):dZ [eN nZ ps,eM m,.str mv]=.ok (.f,eO (cA (nZ.idxOf mv) (m.zip ps))):=by
 have hg:=rj nZ ps hl hp m mv hm
 have hix:=lI hm
 have hk:=List.idxOf_lt_length_of_mem hm
 rw [mQ]
 generalize nZ.idxOf mv=k at hix hk hg
 have hc:cw (gY 2 (az (aw 0) (az (aw 1) cv))) fP (ap cF (ai (ap qJ (aj 0) (ai (ap ixD (ai (ap ixD (aj 1) (ai (au (.int 1))))) (aj 2))))) (ai (ap ixD (ai (ap ixD (aj 1) (ai (au (.int 2))))) (aj 2)))) ((m.zip ps).map fun z=>D.tup [.int z.1,eP z.2]) [none,none,some (.f,.int (k:Int))]=.ok (((m.zip ps).map fun z=>z.1 - tkA k z.2 + gvA k z.2).map D.int):=by
  rw [List.map_map]
  refine b7 (fun env=>∃ t u,env=[t,u,some (.f,.int (k:Int))]) _ ?_ _ ⟨_,_,rfl⟩
  rintro ⟨x,p⟩ hz env ⟨t,u,rfl⟩
  have e1:=yh (hp p (List.of_mem_zip hz).2) hk
  have e2:=zT (hp p (List.of_mem_zip hz).2) hk
  refine ⟨_,fO _ _ _ _ _,?_⟩
  unfold eP
  simp only [pv,↓reduceIte,Nat.reduceAdd,Nat.reduceLT,Nat.reduceLeDiff,Nat.reduceEqDiff,op,at1,at2,e1,e2]
  exact ⟨_,_,rfl,_,_,rfl⟩
 have hl2:(((m.zip ps).map fun z=>z.1 - tkA k z.2 + gvA k z.2).map D.int).length≤sizeLine:=line_le (by rw [List.length_map,List.length_map,List.length_zip];lia)
 unfold dZ pw
 rw [bc (h:=by rfl)]
 cases hz:yg k (m.zip ps) with
 | false=>
  rw [hz] at hg
  simp only [pv,↓reduceIte,Nat.reduceAdd,Nat.reduceLT,Nat.reduceLeDiff,Nat.reduceEqDiff,hg,bw,gD,Bool.not_false,Bool.false_eq_true]
  rfl
 | true=>
  rw [hz] at hg
  unfold eN eM at hg ⊢
  rw [am (env':=[some (.f,.tup [.tup (nZ.map D.str),.lst (ps.map eP)]),some (.f,.tup (m.map D.int)),some (.f,.str mv),none]) (by simp only [pv,↓reduceIte,Nat.reduceAdd,Nat.reduceLT,Nat.reduceLeDiff,Nat.reduceEqDiff,hg,bw,gD,Bool.not_true,Bool.false_eq_true])]
  rw [am (env':=[some (.f,.tup [.tup (nZ.map D.str),.lst (ps.map eP)]),some (.f,.tup (m.map D.int)),some (.f,.str mv),some (.f,.int (k:Int))]) (by simp only [pv,↓reduceIte,Nat.reduceAdd,Nat.reduceLT,Nat.reduceLeDiff,Nat.reduceEqDiff,op,at0,hix])]
  simp only [pv,↓reduceIte,Nat.reduceAdd,Nat.reduceLT,Nat.reduceLeDiff,Nat.reduceEqDiff,op,at1,eU,hc,hl2,flat_ints]
  rfl
theorem vA (nZ:List (List Nat)) (ps:List Pl) (hl:ps.length≤100) (hp:∀ p∈ps,Pok p nZ.length) (m:List Int) (mv:List Nat) (hm:mv∈nZ):bh [eN nZ ps,eM m,.str mv]=.ok (.f,eO (cA (nZ.idxOf mv) (m.zip ps))):=by
 rcases ye nZ ps hl hp m mv hm with ⟨e1,e2⟩ | ⟨r,e1,e2⟩
 ·rw [e1,e2];rfl
 ·rw [e1,e2];rfl
noncomputable def cov (a b:List Int):Bool:=(a.zip b).all fun z=>decide (z.2≤z.1)
theorem rk (a b:List Int) (hl:a.length≤100):dC [eM a,eM b]=.ok (.f,.bl (cov a b)):=by
 have hc:cw (gY 2 (az (aw 0) (az (aw 1) cv))) fP (ap geO (aj 0) (aj 1)) ((a.zip b).map fun z=>D.tup [.int z.1,.int z.2]) [none,none]=.ok (((a.zip b).map fun z=>decide (z.2≤z.1)).map D.bl):=by
  rw [List.map_map]
  refine b7 (fun env=>∃ t u,env=[t,u]) _ ?_ _ ⟨_,_,rfl⟩
  rintro ⟨x,y⟩ hz env ⟨t,u,rfl⟩
  refine ⟨_,fO _ _ _ _ _,?_⟩
  simp only [pv,↓reduceIte,Nat.reduceAdd,Nat.reduceLT,Nat.reduceLeDiff,Nat.reduceEqDiff,op]
  exact ⟨_,_,rfl,_,_,rfl⟩
 have hl2:(((a.zip b).map fun z=>decide (z.2≤z.1)).map D.bl).length≤sizeLine:=line_le (by rw [List.length_map,List.length_map,List.length_zip];lia)
 unfold dC mG eM
 rw [bc (h:=by rfl)]
 simp only [pv,↓reduceIte,Nat.reduceAdd,Nat.reduceLT,Nat.reduceLeDiff,Nat.reduceEqDiff,op,eU,hc,hl2,jW,pF]
 unfold cov
 rw [List.all_map]
 rfl
abbrev Me:=List Int×List (List Nat)×Option Nat
noncomputable def cN (nZ:List (List Nat)) (ps:List Pl) (d:Nat) (mk:List Int) (wy:List (List Nat)) (L:List Me) (mv:List Nat):List Me:=match cA (nZ.idxOf mv) (mk.zip ps) with
 | none=>L
 | some r=>if r∈L.map (·.1) then L else L++[(r,wy++[mv],some d)]
noncomputable def cn (nZ:List (List Nat)) (ps:List Pl) (d:Nat) (L:List Me):List Me:=match L[d]? with
 | none=>L
 | some e=>nZ.foldl (cN nZ ps d e.1 e.2.1) L
noncomputable def goE (nZ:List (List Nat)) (ps:List Pl):Nat→Nat→List Me→List Me
 | 0,_,L=>L
 | f + 1,d,L=>if d < L.length∧L.length≤12 then goE nZ ps f (d + 1) (cn nZ ps d L) else L
structure Ex (nZ:List (List Nat)) (ps:List Pl) (L:List Me):Prop where
 nd:(L.map (·.1)).Nodup
 z:L[0]?=some (ps.map (·.1),[],none)
 ln:∀ e∈L,e.1.length=ps.length
 up:∀ i e,L[i]?=some e→0 < i→∃ a ea mv,e.2.2=some a∧a < i∧L[a]?=some ea∧e.2.1=ea.2.1++[mv]∧cA (nZ.idxOf mv) (ea.1.zip ps)=some e.1
theorem Ex.zero (nZ:List (List Nat)) (ps:List Pl):Ex nZ ps [(ps.map (·.1),[],none)]:=by
 refine ⟨by simp,rfl,fun e he=>?_,fun i e he hi=>?_⟩
 ·rw [List.mem_singleton.mp he]
  exact List.length_map _
 ·obtain ⟨n,rfl⟩:∃ n,i=n + 1:=⟨i - 1,by lia⟩
  rw [List.getElem?_cons_succ] at he
  cases he
theorem Ex.add {nZ:List (List Nat)} {ps:List Pl} {L:List Me} (x:Ex nZ ps L) {d:Nat} {e0:Me} (hd:L[d]?=some e0) (mv:List Nat):Ex nZ ps (cN nZ ps d e0.1 e0.2.1 L mv)∧∃ l,cN nZ ps d e0.1 e0.2.1 L mv=L++l∧l.length≤1:=by
 unfold cN
 cases hf:cA (nZ.idxOf mv) (e0.1.zip ps) with
 | none=>exact ⟨x,[],(List.append_nil _).symm,by simp⟩
 | some r=>
  dsimp only
  by_cases h:r∈L.map (·.1)
  ·rw [if_pos h]
   exact ⟨x,[],(List.append_nil _).symm,by simp⟩
  ·rw [if_neg h]
   have hdl:=(List.getElem?_eq_some_iff.mp hd).1
   refine ⟨⟨?_,?_,fun e he=>?_,fun i e he hi=>?_⟩,_,rfl,Nat.le_refl _⟩
   ·rw [List.map_append]
    refine List.nodup_append.mpr ⟨x.nd,by simp,fun a ha b hb=>?_⟩
    rw [List.mem_singleton.mp hb]
    rintro rfl
    exact h ha
   ·rw [List.getElem?_append_left (by lia)]
    exact x.z
   ·rcases List.mem_append.mp he with he | he
    ·exact x.ln e he
    ·rw [List.mem_singleton.mp he]
     have:=iQ _ hf
     rw [this,List.length_zip,x.ln e0 (List.mem_of_getElem? hd)]
     lia
   ·by_cases hi2:i < L.length
    ·rw [List.getElem?_append_left hi2] at he
     obtain ⟨a,ea,m,h1,h2,h3,h4⟩:=x.up i e he hi
     exact ⟨a,ea,m,h1,h2,by rw [List.getElem?_append_left (by lia)];exact h3,h4⟩
    ·rw [List.getElem?_append_right (by lia)] at he
     have hi3:i - L.length=0:=by
      have:=(List.getElem?_eq_some_iff.mp he).1
      rw [List.length_singleton] at this
      lia
     rw [hi3] at he
     cases he
     exact ⟨d,e0,mv,rfl,by lia,by rw [List.getElem?_append_left hdl];exact hd,rfl,hf⟩
theorem Ex.fold {nZ:List (List Nat)} {ps:List Pl} {d:Nat} {e0:Me}:∀ (l:List (List Nat)) {L:List Me},Ex nZ ps L→L[d]?=some e0→Ex nZ ps (l.foldl (cN nZ ps d e0.1 e0.2.1) L)∧∃ m,l.foldl (cN nZ ps d e0.1 e0.2.1) L=L++m∧m.length≤l.length
 | [],L,x,_=>⟨x,[],(List.append_nil _).symm,Nat.le_refl _⟩
 | mv :: l,L,x,hd=>by
  obtain ⟨x1,l1,e1,h1⟩:=x.add hd mv
  have hdl:=(List.getElem?_eq_some_iff.mp hd).1
  obtain ⟨x2,l2,e2,h2⟩:=Ex.fold l x1 (d:=d) (e0:=e0) (by rw [e1,List.getElem?_append_left hdl];exact hd)
  refine ⟨x2,l1++l2,?_,by rw [List.length_append,List.length_cons];lia⟩
  rw [List.foldl_cons,e2,e1,List.append_assoc]
theorem Ex.wl {nZ:List (List Nat)} {ps:List Pl} {L:List Me} (x:Ex nZ ps L):∀ (i:Nat) (e:Me),L[i]?=some e→e.2.1.length≤i:=by
 intro i
 induction i using Nat.strongRecOn with
 | ind i ih=>
  intro e he
  by_cases h0:i=0
  ·subst h0
   rw [x.z] at he
   cases he
   exact Nat.le_refl _
  ·obtain ⟨a,ea,mv,_,h2,h3,h4,_⟩:=x.up i e he (by lia)
   have:=ih a h2 ea h3
   rw [h4,List.length_append,List.length_singleton]
   lia
theorem Ex.inj {nZ:List (List Nat)} {ps:List Pl} {L:List Me} (x:Ex nZ ps L):∀ (i j:Nat) (e e':Me),L[i]?=some e→L[j]?=some e'→e.2.1=e'.2.1→i=j:=by
 intro i
 induction i using Nat.strongRecOn with
 | ind i ih=>
  intro j e e' he he' hw
  by_cases h0:i=0
  ·subst h0
   rw [x.z] at he
   cases he
   by_cases hj:j=0
   ·exact hj.symm
   ·obtain ⟨a,ea,mv,_,_,_,h4,_⟩:=x.up j e' he' (by lia)
    rw [h4] at hw
    have:=congrArg List.length hw
    rw [List.length_append,List.length_singleton] at this
    simp at this
  ·obtain ⟨a,ea,mv,_,h2,h3,h4,h5⟩:=x.up i e he (by lia)
   by_cases hj:j=0
   ·subst hj
    rw [x.z] at he'
    cases he'
    rw [h4] at hw
    have:=congrArg List.length hw
    rw [List.length_append,List.length_singleton] at this
    simp at this
   ·obtain ⟨a',ea',mv',_,h2',h3',h4',h5'⟩:=x.up j e' he' (by lia)
    rw [h4,h4'] at hw
    obtain ⟨hw1,hw2⟩:=List.append_inj' hw rfl
    have ha:=ih a h2 a' ea ea' h3 h3' hw1
    subst ha
    rw [h3] at h3'
    cases h3'
    cases hw2
    rw [h5] at h5'
    have hm:e.1=e'.1:=Option.some.inj h5'
    have q1:(L.map (·.1))[i]?=some e.1:=by rw [List.getElem?_map,he];rfl
    have q2:(L.map (·.1))[j]?=some e.1:=by rw [List.getElem?_map,he',hm];rfl
    obtain ⟨l1,p1⟩:=List.getElem?_eq_some_iff.mp q1
    obtain ⟨l2,p2⟩:=List.getElem?_eq_some_iff.mp q2
    exact (List.getElem_inj x.nd).mp (p1.trans p2.symm)
noncomputable def eAh:Option Nat→D
 | none=>.non
 | some n=>.int (n:Int)
noncomputable def eWy (w:List (List Nat)):D:=.tup (w.map D.str)
noncomputable def eMe (e:Me):D:=.tup [eM e.1,eWy e.2.1,eAh e.2.2]
theorem yi:∀ r:List Int,cm (r.map D.int)=some (r.map Sum.inl)
 | []=>rfl
 | x :: r=>by
  rw [List.map_cons,cm,yi r]
  rfl
theorem vK (r:List Int):cM true (eM r)=true:=by
 unfold cM eM
 rw [if_pos rfl]
 show (cm (r.map D.int)).isSome=true
 rw [yi]
 rfl
theorem gdM (r:List Int):∀ (ms:List (List Int)) (vs:List D),vs.length=ms.length→(PV.getD (ms.map eM) vs (eM r)).isSome=decide (r∈ms)
 | [],vs,_=>by
  unfold PV.getD
  rw [List.map_nil,List.zip_nil_left]
  rfl
 | m :: ms,[],h=>by cases h
 | m :: ms,v :: vs,h=>by
  have ih:=gdM r ms vs (by simpa using h)
  unfold PV.getD at ih ⊢
  rw [List.map_cons,List.zip_cons_cons]
  by_cases e:r=m
  ·rw [List.find?_cons_of_pos (by show eqD (eM r) (eM m)=true;rw [rh];exact decide_eq_true e)]
   rw [decide_eq_true (by rw [e];exact List.mem_cons_self)]
   rfl
  ·rw [List.find?_cons_of_neg (by show ¬ eqD (eM r) (eM m)=true;rw [rh,decide_eq_true_eq];exact e),ih,Bool.eq_iff_iff,decide_eq_true_eq,decide_eq_true_eq,List.mem_cons]
   exact ⟨.inr,fun z=>z.resolve_left e⟩
theorem AZ (r:List Int) (ms:List (List Int)) (vs:List D) (d:D) (h:r∉ms):nv (ms.map eM) vs (eM r) d=((ms++[r]).map eM,vs++[d]):=by
 have e:(ms.map eM).any (eqD (eM r))=false:=by
  rw [List.any_map,List.any_eq_false]
  intro m hm
  show ¬ eqD (eM r) (eM m)=true
  rw [rh,decide_eq_true_eq]
  rintro rfl
  exact h hm
 unfold nv
 rw [e,if_neg Bool.false_ne_true,List.map_append]
 rfl
theorem ss (o:Option (List Int)):o0 (eO o) .non=.ok (.f,.bl o.isSome):=by cases o <;> rfl
theorem nE {L:List Me} {d:Nat} {e:Me} (h:L[d]?=some e):atI (L.map eMe) (d:Int)=some (eMe e):=ia (by rw [List.getElem?_map,h];rfl)
theorem A7 (w:List (List Nat)) (mv:List Nat) (h:w.length≤1000):cF (.tup (w.map D.str)) (.tup [.str mv])=.ok (.f,.tup ((w++[mv]).map D.str)):=by
 rw [u4,if_pos (.inl (line_le (by rw [List.length_map,List.length_singleton];lia))),List.map_append]
 rfl
theorem A8 (nZ:List (List Nat)) (ps:List Pl) (hl:ps.length≤100) (hp:∀ p∈ps,Pok p nZ.length) (L:List Me) (hL:L.length≤1000) (x:Ex nZ ps L) (d:Nat) (e0:Me) (hd:L[d]?=some e0) (vs ar:List D) (hv:vs.length=L.length) (ha:ar.length≤10000) (mv:List Nat) (hm:mv∈nZ) (t7:Option R) :
  ∃ (vs' ar':List D) (t7':Option R),vs'.length=(cN nZ ps d e0.1 e0.2.1 L mv).length∧ar'.length≤ar.length + 1∧
   cx [some (.f,eN nZ ps),some (.l .f,.lst (L.map eMe)),some (.d,.dct true ((L.map (·.1)).map eM) vs),some (.l .f,.lst ar),some (.f,.int (d:Int)),some (.f,eM e0.1),some (.f,.str mv),t7] =
   .ok (.nx [some (.f,eN nZ ps),some (.l .f,.lst ((cN nZ ps d e0.1 e0.2.1 L mv).map eMe)),some (.d,.dct true (((cN nZ ps d e0.1 e0.2.1 L mv).map (·.1)).map eM) vs'),some (.l .f,.lst ar'),some (.f,.int (d:Int)),some (.f,eM e0.1),some (.f,.str mv),t7']):=by
 have hmv:=vz nZ ps hl hp e0.1 mv hm
 have hwl:=x.wl d e0 hd
 have hdl:=(List.getElem?_eq_some_iff.mp hd).1
 have hat:=nE hd
 have hlm:(L.map eMe).length < sizeLine:=i0 (by rw [List.length_map];lia)
 have hla:ar.length < sizeLine:=i0 (by lia)
 have hlk:((L.map (·.1)).map eM).length < sizeLine:=i0 (by rw [List.length_map,List.length_map];lia)
 unfold cx cN
 cases hf:cA (nZ.idxOf mv) (e0.1.zip ps) with
 | none=>
  rw [hf] at hmv
  have hi:=ss none
  refine ⟨vs,ar,some (.f,eO none),hv,by lia,?_⟩
  rw [am (env':=[some (.f,eN nZ ps),some (.l .f,.lst (L.map eMe)),some (.d,.dct true ((L.map (·.1)).map eM) vs),some (.l .f,.lst ar),some (.f,.int (d:Int)),some (.f,eM e0.1),some (.f,.str mv),some (.f,eO none)]) (by simp only [pv,↓reduceIte,Nat.reduceAdd,Nat.reduceLT,Nat.reduceLeDiff,Nat.reduceEqDiff,hmv,bw,vy])]
  simp only [pv,↓reduceIte,Nat.reduceAdd,Nat.reduceLT,Nat.reduceLeDiff,Nat.reduceEqDiff,hi,Option.isSome_none,Bool.false_eq_true]
 | some r=>
  rw [hf] at hmv
  have hi:o0 (eM r) .non=.ok (.f,.bl true):=ss (some r)
  have hmv:dZ [eN nZ ps,eM e0.1,.str mv]=.ok (.f,eM r):=hmv
  have hg:=gdM r (L.map (·.1)) vs (by rw [List.length_map];exact hv)
  dsimp only
  rw [show ∀ t:FS,sSeq (bB 7 (dL dZ (ag (aj 0) (ag (aj 5) (ag (aj 6) aD))))) t [some (.f,eN nZ ps),some (.l .f,.lst (L.map eMe)),some (.d,.dct true ((L.map (·.1)).map eM) vs),some (.l .f,.lst ar),some (.f,.int (d:Int)),some (.f,eM e0.1),some (.f,.str mv),t7]=t [some (.f,eN nZ ps),some (.l .f,.lst (L.map eMe)),some (.d,.dct true ((L.map (·.1)).map eM) vs),some (.l .f,.lst ar),some (.f,.int (d:Int)),some (.f,eM e0.1),some (.f,.str mv),some (.f,eM r)] from fun t=>am (by simp only [pv,↓reduceIte,Nat.reduceAdd,Nat.reduceLT,Nat.reduceLeDiff,Nat.reduceEqDiff,hmv,bw,jk])]
  by_cases h:r∈L.map (·.1)
  ·rw [if_pos h]
   rw [decide_eq_true h] at hg
   obtain ⟨v,hv2⟩:=Option.isSome_iff_exists.mp hg
   have hn:pf (eM r) (.dct true ((L.map (·.1)).map eM) vs)=.ok (.f,.bl false):=by
    unfold pf
    dsimp only
    rw [vK,if_pos rfl,hg]
    rfl
   have hdg:dgD (.dct true ((L.map (·.1)).map eM) vs) (eM r)=.ok (.f,v):=by
    unfold dgD
    dsimp only
    rw [vK,if_pos rfl,hv2]
   refine ⟨vs,ar++[.tup [.int (d:Int),.str mv,v]],some (.f,eM r),hv,by rw [List.length_append,List.length_singleton];lia,?_⟩
   simp only [pv,↓reduceIte,Nat.reduceAdd,Nat.reduceLT,Nat.reduceLeDiff,Nat.reduceEqDiff,hi,hn,hdg,hla,Bool.false_eq_true]
  ·rw [if_neg h]
   rw [decide_eq_false h] at hg
   have hn:pf (eM r) (.dct true ((L.map (·.1)).map eM) vs)=.ok (.f,.bl true):=by
    unfold pf
    dsimp only
    rw [vK,if_pos rfl,hg]
    rfl
   have hpt:=AZ r (L.map (·.1)) vs (.int (L.length:Int)) h
   have hg2:=gdM r (L.map (·.1)++[r]) (vs++[.int (L.length:Int)]) (by rw [List.length_append,List.length_append,List.length_map,hv];rfl)
   rw [decide_eq_true (List.mem_append_right _ List.mem_cons_self)] at hg2
   obtain ⟨v,hv2⟩:=Option.isSome_iff_exists.mp hg2
   have hdg:dgD (.dct true ((L.map (·.1)++[r]).map eM) (vs++[.int (L.length:Int)])) (eM r)=.ok (.f,v):=by
    unfold dgD
    dsimp only
    rw [vK,if_pos rfl,hv2]
   have hw:=A7 e0.2.1 mv (by lia)
   refine ⟨vs++[.int (L.length:Int)],ar++[.tup [.int (d:Int),.str mv,v]],some (.f,eM r),by rw [List.length_append,List.length_append,hv];rfl,by rw [List.length_append,List.length_singleton];lia,?_⟩
   rw [List.map_append,List.map_append (f:=fun e:Me=>e.1)]
   unfold eMe eWy at hat ⊢
   have hlL:L.length < sizeLine:=i0 (by lia)
   simp only [pv,↓reduceIte,Nat.reduceAdd,Nat.reduceLT,Nat.reduceLeDiff,Nat.reduceEqDiff,op,hi,hn,vK,hlL,decide_true,Bool.and_self,List.length_map,hpt,hat,at1,hw,hdg,hla]
   rfl
theorem yj (nZ:List (List Nat)) (hn:nZ.length≤10) (ps:List Pl) (hl:ps.length≤100) (hp:∀ p∈ps,Pok p nZ.length) (L:List Me) (hL:L.length≤100) (x:Ex nZ ps L) (d:Nat) (e0:Me) (hd:L[d]?=some e0) (vs ar:List D) (hv:vs.length=L.length) (ha:ar.length≤1000) (t6 t7:Option R) :
  ∃ (vs' ar':List D) (t6' t7':Option R),vs'.length=(cn nZ ps d L).length∧ar'.length≤ar.length + 10∧
   d4 [some (.f,eN nZ ps),some (.l .f,.lst (L.map eMe)),some (.d,.dct true ((L.map (·.1)).map eM) vs),some (.l .f,.lst ar),some (.f,.int (d:Int)),some (.f,eM e0.1),t6,t7] =
   .ok (.nx [some (.f,eN nZ ps),some (.l .f,.lst ((cn nZ ps d L).map eMe)),some (.d,.dct true (((cn nZ ps d L).map (·.1)).map eM) vs'),some (.l .f,.lst ar'),some (.f,.int (d:Int)),some (.f,eM e0.1),t6',t7']):=by
 have hdl:=(List.getElem?_eq_some_iff.mp hd).1
 obtain ⟨env',hf,vs',ar',t6',t7',h1,h2,rfl⟩:=for_list (a:=aw 6) (g:=cx) (e:=D.str) nZ (fun j env=>∃ (vs' ar':List D) (t6 t7:Option R),vs'.length=((nZ.take j).foldl (cN nZ ps d e0.1 e0.2.1) L).length∧ar'.length≤ar.length + j∧
   env=[some (.f,eN nZ ps),some (.l .f,.lst (((nZ.take j).foldl (cN nZ ps d e0.1 e0.2.1) L).map eMe)),some (.d,.dct true ((((nZ.take j).foldl (cN nZ ps d e0.1 e0.2.1) L).map (·.1)).map eM) vs'),some (.l .f,.lst ar'),some (.f,.int (d:Int)),some (.f,eM e0.1),t6,t7]) (by
  rintro j mv env hj ⟨vs1,ar1,t6,t7,q1,q2,rfl⟩
  obtain ⟨hj1,hj2⟩:=List.getElem?_eq_some_iff.mp hj
  obtain ⟨x1,m,em,lm⟩:=Ex.fold (d:=d) (e0:=e0) (nZ.take j) x hd
  have hm:mv∈nZ:=List.mem_of_getElem? hj
  have e1:(nZ.take (j + 1)).foldl (cN nZ ps d e0.1 e0.2.1) L=cN nZ ps d e0.1 e0.2.1 ((nZ.take j).foldl (cN nZ ps d e0.1 e0.2.1) L) mv:=by
   rw [List.take_succ_eq_append_getElem hj1,List.foldl_append,hj2]
   rfl
  have hd1:((nZ.take j).foldl (cN nZ ps d e0.1 e0.2.1) L)[d]?=some e0:=by
   rw [em,List.getElem?_append_left hdl]
   exact hd
  have hl1:((nZ.take j).foldl (cN nZ ps d e0.1 e0.2.1) L).length≤1000:=by
   rw [List.length_take] at lm
   rw [em,List.length_append]
   lia
  obtain ⟨vs2,ar2,t72,r1,r2,r3⟩:=A8 nZ ps hl hp _ hl1 x1 d e0 hd1 vs1 ar1 q1 (by lia) mv hm t7
  rw [e1]
  exact ⟨_,by simp only [pv,↓reduceIte,Nat.reduceAdd,Nat.reduceLT,Nat.reduceLeDiff,Nat.reduceEqDiff],_,r3,vs2,ar2,_,t72,r1,by lia,rfl⟩) [some (.f,eN nZ ps),some (.l .f,.lst (L.map eMe)),some (.d,.dct true ((L.map (·.1)).map eM) vs),some (.l .f,.lst ar),some (.f,.int (d:Int)),some (.f,eM e0.1),t6,t7] ⟨vs,ar,t6,t7,hv,by lia,rfl⟩
 have es:cn nZ ps d L=(nZ.take nZ.length).foldl (cN nZ ps d e0.1 e0.2.1) L:=by
  unfold cn
  rw [hd,List.take_length]
 rw [←es] at h1 hf
 refine ⟨vs',ar',t6',t7',h1,by lia,?_⟩
 unfold d4
 rw [x_sFor,←hf]
 unfold eN
 simp only [pv,↓reduceIte,Nat.reduceAdd,Nat.reduceLT,Nat.reduceLeDiff,Nat.reduceEqDiff,op,at0]
theorem rm (env:PV.Env) (f g:FX):pk f g env=Res.bnd (f env) (f:=⟨fun p=>Res.bnd (g p.2) (f:=⟨fun q=>if cM true p.1.2 then .ok ((.d,.dct true [p.1.2] [q.1.2]),q.2) else .bad⟩)⟩):=id rfl
noncomputable def L0 (ps:List Pl):List Me:=[(ps.map (·.1),[],none)]
theorem jY (nZ:List (List Nat)) (ps:List Pl) {L:List Me} (x:Ex nZ ps L) (d:Nat) (hd:d < L.length):Ex nZ ps (cn nZ ps d L)∧(cn nZ ps d L).length≤L.length + nZ.length:=by
 have e:L[d]?=some L[d]:=List.getElem?_eq_getElem hd
 unfold cn
 rw [e]
 obtain ⟨x1,m,em,lm⟩:=Ex.fold (d:=d) (e0:=L[d]) nZ x e
 refine ⟨x1,?_⟩
 dsimp only
 rw [em,List.length_append]
 lia
theorem pM (nZ:List (List Nat)) (ps:List Pl):∀ (f d:Nat) {L:List Me},Ex nZ ps L→Ex nZ ps (goE nZ ps f d L)
 | 0,_,_,x=>x
 | f + 1,d,L,x=>by
  rw [goE]
  split
  ·rename_i h
   exact pM nZ ps f (d + 1) (jY nZ ps x d h.1).1
  ·exact x
theorem jl (nZ:List (List Nat)) (hn:nZ.length≤10) (ps:List Pl) (hl:ps.length≤100) (hp:∀ p∈ps,Pok p nZ.length):∃ ar:List D,ba [eN nZ ps]=.ok (.f,.tup [.lst ((goE nZ ps 13 0 (L0 ps)).map eMe),.lst ar]):=by
 have hfm:=vq nZ ps hl
 have fM:=jk (ps.map (·.1))
 generalize hG:goE nZ ps 13 0 (L0 ps)=G
 obtain ⟨env',hw,vs,ar,d,t5,t6,t7,rfl⟩:=iP (c:=eBl (kF ltO leD (aj 4) (ai (bM jZ (ag (aj 1) aD))) (ai (au (.int 12))))) (g:=dB) (fun k env=>∃ (L:List Me) (d:Nat) (vs ar:List D) (t5 t6 t7:Option R),d + k=13∧Ex nZ ps L∧L.length≤30∧vs.length=L.length∧ar.length≤10 * d∧goE nZ ps k d L=G∧
   env=[some (.f,eN nZ ps),some (.l .f,.lst (L.map eMe)),some (.d,.dct true ((L.map (·.1)).map eM) vs),some (.l .f,.lst ar),some (.f,.int (d:Int)),t5,t6,t7])
  (fun env=>∃ (vs ar:List D) (d:Nat) (t5 t6 t7:Option R),env=[some (.f,eN nZ ps),some (.l .f,.lst (G.map eMe)),some (.d,.dct true ((G.map (·.1)).map eM) vs),some (.l .f,.lst ar),some (.f,.int (d:Int)),t5,t6,t7]) (by
   rintro k env ⟨L,d,vs,ar,t5,t6,t7,hk,x,hL,hv,ha,hg,rfl⟩
   by_cases h:d < L.length∧L.length≤12
   ·obtain ⟨k',rfl⟩:∃ k',k=k' + 1:=⟨k - 1,by lia⟩
    rw [goE,if_pos h] at hg
    have hd:L[d]?=some L[d]:=List.getElem?_eq_getElem h.1
    obtain ⟨x1,l1⟩:=jY nZ ps x d h.1
    have c1:decide ((d:Int) < (L.length:Int))=true:=decide_eq_true (by lia)
    have c2:decide ((L.length:Int)≤12)=true:=decide_eq_true (by lia)
    generalize L[d]=e0 at hd
    have hat:=nE hd
    obtain ⟨vs',ar',t6',t7',r1,r2,r3⟩:=yj nZ hn ps hl hp L (by lia) x d e0 hd vs ar hv (by lia) t6 t7
    refine .inr ⟨[some (.f,eN nZ ps),some (.l .f,.lst (L.map eMe)),some (.d,.dct true ((L.map (·.1)).map eM) vs),some (.l .f,.lst ar),some (.f,.int (d:Int)),t5,t6,t7],?_,[some (.f,eN nZ ps),some (.l .f,.lst ((cn nZ ps d L).map eMe)),some (.d,.dct true (((cn nZ ps d L).map (·.1)).map eM) vs'),some (.l .f,.lst ar'),some (.f,.int ((d + 1:Nat):Int)),some (.f,eM e0.1),t6',t7'],k',?_,Nat.lt_succ_self _,_,d + 1,vs',ar',_,_,_,by lia,x1,by lia,r1,by lia,hg,rfl⟩
    ·simp only [pv,↓reduceIte,Nat.reduceAdd,Nat.reduceLT,Nat.reduceLeDiff,Nat.reduceEqDiff,op,List.length_map,c1,c2]
    ·unfold dB
     rw [am (env':=[some (.f,eN nZ ps),some (.l .f,.lst (L.map eMe)),some (.d,.dct true ((L.map (·.1)).map eM) vs),some (.l .f,.lst ar),some (.f,.int (d:Int)),some (.f,eM e0.1),t6,t7]) (by
      unfold eMe at hat ⊢
      simp only [pv,↓reduceIte,Nat.reduceAdd,Nat.reduceLT,Nat.reduceLeDiff,Nat.reduceEqDiff,op,hat,at0])]
     rw [am r3]
     unfold f8
     simp only [pv,↓reduceIte,Nat.reduceAdd,Nat.reduceLT,Nat.reduceLeDiff,Nat.reduceEqDiff,op]
     rfl
   ·left
    have hgL:L=G:=by
     cases k with
     | zero=>exact hg
     | succ k=>rw [goE,if_neg h] at hg;exact hg
    subst hgL
    refine ⟨_,?_,vs,ar,d,t5,t6,t7,rfl⟩
    by_cases h1:d < L.length
    ·have c1:decide ((d:Int) < (L.length:Int))=true:=decide_eq_true (by lia)
     have c2:decide ((L.length:Int)≤12)=false:=decide_eq_false (by lia)
     simp only [pv,↓reduceIte,Nat.reduceAdd,Nat.reduceLT,Nat.reduceLeDiff,Nat.reduceEqDiff,op,List.length_map,c1,c2]
    ·have c1:decide ((d:Int) < (L.length:Int))=false:=decide_eq_false (by lia)
     simp only [pv,↓reduceIte,Nat.reduceAdd,Nat.reduceLT,Nat.reduceLeDiff,Nat.reduceEqDiff,op,List.length_map,c1]) 100000 13 [some (.f,eN nZ ps),some (.l .f,.lst ((L0 ps).map eMe)),some (.d,.dct true (((L0 ps).map (·.1)).map eM) [.int 0]),some (.l .f,.lst []),some (.f,.int ((0:Nat):Int)),none,none,none] (by decide) ⟨L0 ps,0,[.int 0],[],none,none,none,rfl,Ex.zero nZ ps,(by decide:1≤30),rfl,Nat.zero_le _,hG,rfl⟩
 refine ⟨ar,?_⟩
 unfold ba je
 rw [bc (h:=by rfl)]
 rw [am (env':=[some (.f,eN nZ ps),some (.l .f,.lst ((L0 ps).map eMe)),none,none,none,none,none,none]) (by
  simp only [pv,↓reduceIte,Nat.reduceAdd,Nat.reduceLT,Nat.reduceLeDiff,Nat.reduceEqDiff,hfm,bw,fM]
  rfl)]
 rw [am (env':=[some (.f,eN nZ ps),some (.l .f,.lst ((L0 ps).map eMe)),some (.d,.dct true (((L0 ps).map (·.1)).map eM) [.int 0]),none,none,none,none,none]) (by
  unfold L0 eMe
  simp only [pv,↓reduceIte,Nat.reduceAdd,Nat.reduceLT,Nat.reduceLeDiff,Nat.reduceEqDiff,op,rm,at0,vK])]
 rw [am (env':=[some (.f,eN nZ ps),some (.l .f,.lst ((L0 ps).map eMe)),some (.d,.dct true (((L0 ps).map (·.1)).map eM) [.int 0]),some (.l .f,.lst []),none,none,none,none]) (by simp only [pv,↓reduceIte,Nat.reduceAdd,Nat.reduceLT,Nat.reduceLeDiff,Nat.reduceEqDiff])]
 rw [am (env':=[some (.f,eN nZ ps),some (.l .f,.lst ((L0 ps).map eMe)),some (.d,.dct true (((L0 ps).map (·.1)).map eM) [.int 0]),some (.l .f,.lst []),some (.f,.int ((0:Nat):Int)),none,none,none]) (by simp only [pv,↓reduceIte,Nat.reduceAdd,Nat.reduceLT,Nat.reduceLeDiff,Nat.reduceEqDiff];rfl)]
 unfold gL f9
 rw [am hw]
 simp only [pv,↓reduceIte,Nat.reduceAdd,Nat.reduceLT,Nat.reduceLeDiff,Nat.reduceEqDiff]
theorem pN {a:FG} {g:FS} (P:Nat→PV.Env→Prop) (r:Nat→Option R) (ds:List D) (h:∀ i d env,ds[i]?=some d→P i env→∃ env1,a d env=.ok env1∧((r i=none∧∃ env2,g env1=.ok (.nx env2)∧P (i + 1) env2)∨∃ v,r i=some v∧g env1=.ok (.rt v))) :
  ∀ env,P 0 env→((List.range ds.length).findSome? r=none∧∃ env',gZ a g ds env=.ok (.nx env')∧P ds.length env')∨∃ v,(List.range ds.length).findSome? r=some v∧gZ a g ds env=.ok (.rt v):=by
 have key:∀ (l:List D) (k:Nat) (env:PV.Env),(∀ i d,l[i]?=some d→ds[k + i]?=some d)→P k env→((List.range' k l.length).findSome? r=none∧∃ env',gZ a g l env=.ok (.nx env')∧P (k + l.length) env')∨∃ v,(List.range' k l.length).findSome? r=some v∧gZ a g l env=.ok (.rt v):=by
  intro l
  induction l with
  | nil=>exact fun k env _ hp=>.inl ⟨rfl,env,rfl,hp⟩
  | cons d l ih=>
   intro k env hd hp
   obtain ⟨env1,h1,h2⟩:=h k d env (hd 0 d rfl) hp
   rw [List.length_cons,List.range'_succ,List.findSome?_cons]
   rcases h2 with ⟨h2,env2,h3,h4⟩ | ⟨v,h2,h3⟩
   ·rw [h2]
    dsimp only
    have:=ih (k + 1) env2 (fun i d e=>by have:=hd (i + 1) d (by simpa using e);rw [show k + 1 + i=k + (i + 1) by lia];exact this) h4
    rw [x_forLC,h1,bOk,h3,bOk,show k + (l.length + 1)=k + 1 + l.length by lia]
    exact this
   ·rw [h2]
    dsimp only
    refine .inr ⟨v,rfl,?_⟩
    rw [x_forLC,h1,bOk,h3,bOk]
 intro env hp
 have:=key ds 0 env (fun i d e=>by rw [Nat.zero_add];exact e) hp
 rw [Nat.zero_add,←List.range_eq_range'] at this
 exact this
noncomputable def pO (L:List Me) (mk:List Int):Nat→Option Nat→Option Nat
 | _,none=>none
 | 0,some _=>none
 | f + 1,some a=>match L[a]? with
  | some e=>if cov mk e.1 then some a else pO L mk f e.2.2
  | none=>none
noncomputable def grD (w v:List (List Nat)):D:=.tup [.str [103,114,111,119,115],eWy w,eWy v]
noncomputable def grw (L:List Me) (k:Nat):Option R:=match L[k]? with
 | some e=>(match pO L e.1 k e.2.2 with
  | some a=>(match L[a]? with
   | some ea=>some (.f,grD ea.2.1 (e.2.1.drop ea.2.1.length))
   | none=>none)
  | none=>none)
 | none=>none
theorem su (o:Option Nat):o0 (eAh o) .non=.ok (.f,.bl o.isSome):=by cases o <;> rfl
theorem pP {nZ:List (List Nat)} {ps:List Pl} (hl:ps.length≤100) {L:List Me} (hL:L.length≤100) (x:Ex nZ ps L) {k:Nat} {e:Me} (hk:L[k]?=some e):aN [.lst (L.map eMe),.int (k:Int)]=.ok (.f,eAh (pO L e.1 k e.2.2)):=by
 have hkl:=(List.getElem?_eq_some_iff.mp hk).1
 have hat:=nE hk
 have hln:=x.ln e (List.mem_of_getElem? hk)
 have hup:∀ a,e.2.2=some a→a < k:=fun a ha=>by
  rcases Nat.eq_zero_or_pos k with h | h
  ·subst h
   rw [x.z] at hk
   cases hk
   cases ha
  ·obtain ⟨a',_,_,h1,h2,_⟩:=x.up k e hk h
   rw [ha] at h1
   cases h1
   exact h2
 generalize hG:pO L e.1 k e.2.2=G
 obtain ⟨env',hw,rfl⟩:=iP (c:=yr (eBl (c8 o0 (aj 2) (ai (au .non)))) (rR (eBl (dL dC (ag (ai (ap ixD (ai (ap ixD (aj 0) (aj 1))) (ai (au (.int 0))))) (ag (ai (ap ixD (ai (ap ixD (aj 0) (aj 2))) (ai (au (.int 0))))) aD)))))) (g:=a7) (fun f env=>∃ o:Option Nat,(∀ a,o=some a→a < f)∧(∀ a,o=some a→a < k)∧pO L e.1 f o=G∧env=[some (.f,.lst (L.map eMe)),some (.f,.int (k:Int)),some (.f,eAh o)])
  (fun env=>env=[some (.f,.lst (L.map eMe)),some (.f,.int (k:Int)),some (.f,eAh G)]) (by
   rintro f env ⟨o,ho,hok,hg,rfl⟩
   have hi:=su o
   cases o with
   | none=>
    have hg:G=none:=by rw [←hg];cases f <;> rfl
    subst hg
    refine .inl ⟨_,?_,rfl⟩
    simp only [pv,↓reduceIte,Nat.reduceAdd,Nat.reduceLT,Nat.reduceLeDiff,Nat.reduceEqDiff,hi,Option.isSome_none,Bool.false_eq_true]
   | some a=>
    have haf:=ho a rfl
    have hak:=hok a rfl
    obtain ⟨f',rfl⟩:∃ f',f=f' + 1:=⟨f - 1,by lia⟩
    have ha:L[a]?=some L[a]:=List.getElem?_eq_getElem (by lia)
    generalize L[a]=ea at ha
    have hat2:=nE ha
    have hcv:=rk e.1 ea.1 (by lia)
    rw [pO,ha] at hg
    dsimp only at hg
    have hi:o0 (.int (a:Int)) .non=.ok (.f,.bl true):=hi
    cases hc:cov e.1 ea.1 with
    | true=>
     rw [hc,if_pos rfl] at hg
     rw [hc] at hcv
     subst hg
     refine .inl ⟨_,?_,rfl⟩
     unfold eAh
     unfold eMe at hat hat2 ⊢
     simp only [pv,↓reduceIte,Nat.reduceAdd,Nat.reduceLT,Nat.reduceLeDiff,Nat.reduceEqDiff,op,hi,hat,hat2,at0,hcv,bw,gD,Bool.not_true]
    | false=>
     rw [hc,if_neg Bool.false_ne_true] at hg
     rw [hc] at hcv
     refine .inr ⟨[some (.f,.lst (L.map eMe)),some (.f,.int (k:Int)),some (.f,eAh (some a))],?_,[some (.f,.lst (L.map eMe)),some (.f,.int (k:Int)),some (.f,eAh ea.2.2)],f',?_,Nat.lt_succ_self _,ea.2.2,?_,?_,hg,rfl⟩
     ·unfold eAh
      unfold eMe at hat hat2 ⊢
      simp only [pv,↓reduceIte,Nat.reduceAdd,Nat.reduceLT,Nat.reduceLeDiff,Nat.reduceEqDiff,op,hi,hat,hat2,at0,hcv,bw,gD,Bool.not_false]
     ·show a7 [some (.f,.lst (L.map eMe)),some (.f,.int (k:Int)),some (.f,.int (a:Int))]=_
      unfold a7 eMe
      unfold eMe at hat2
      simp only [pv,↓reduceIte,Nat.reduceAdd,Nat.reduceLT,Nat.reduceLeDiff,Nat.reduceEqDiff,op,hat2,at2]
     ·intro a' ha'
      rcases Nat.eq_zero_or_pos a with h | h
      ·subst h
       rw [x.z] at ha
       cases ha
       cases ha'
      ·obtain ⟨a2,_,_,h1,h2,_⟩:=x.up a ea ha h
       rw [ha'] at h1
       cases h1
       lia
     ·intro a' ha'
      rcases Nat.eq_zero_or_pos a with h | h
      ·subst h
       rw [x.z] at ha
       cases ha
       cases ha'
      ·obtain ⟨a2,_,_,h1,h2,_⟩:=x.up a ea ha h
       rw [ha'] at h1
       cases h1
       lia) 100000 k [some (.f,.lst (L.map eMe)),some (.f,.int (k:Int)),some (.f,eAh e.2.2)] (by lia) ⟨e.2.2,hup,hup,hG,rfl⟩
 unfold aN di
 rw [bc (h:=by rfl)]
 rw [am (env':=[some (.f,.lst (L.map eMe)),some (.f,.int (k:Int)),some (.f,eAh e.2.2)]) (by
  unfold eMe at hat ⊢
  simp only [pv,↓reduceIte,Nat.reduceAdd,Nat.reduceLT,Nat.reduceLeDiff,Nat.reduceEqDiff,op,hat,at2])]
 unfold cG cr
 rw [am hw]
 simp only [pv,↓reduceIte,Nat.reduceAdd,Nat.reduceLT,Nat.reduceLeDiff,Nat.reduceEqDiff]
noncomputable def i4 (n:Nat):D:=.tup [.str [101,110,100,115],.int (n:Int)]
noncomputable def nK:D:=.tup [.str [98,101,121,111,110,100]]
noncomputable def lJ (L:List Me):R:=if L.length≤12 then (.f,i4 L.length) else (match (List.range 13).findSome? (grw L) with
 | some v=>v
 | none=>(.f,nK))
theorem nF (w:List (List Nat)):b9 (eWy w)=true:=by
 unfold eWy
 rw [cz,PV.flat_strs]
theorem lK (nZ:List (List Nat)) (hn:nZ.length≤10) (ps:List Pl):∀ (f d:Nat) {L:List Me},Ex nZ ps L→L.length≤22→(goE nZ ps f d L).length≤22
 | 0,_,_,_,h=>h
 | f + 1,d,L,x,h=>by
  rw [goE]
  split
  ·rename_i z
   obtain ⟨x1,l1⟩:=jY nZ ps x d z.1
   exact lK nZ hn ps f (d + 1) x1 (by lia)
  ·exact h
theorem ld (L:List Me) (mk:List Int):∀ (f:Nat) (o:Option Nat) (a:Nat),pO L mk f o=some a→∃ ea,L[a]?=some ea
 | 0,none,_,h=>by cases h
 | 0,some _,_,h=>by cases h
 | f + 1,none,_,h=>by cases h
 | f + 1,some b,a,h=>by
  rw [pO] at h
  cases hb:L[b]? with
  | none=>rw [hb] at h;cases h
  | some e=>
   rw [hb] at h
   dsimp only at h
   split at h
   ·cases h
    exact ⟨e,hb⟩
   ·exact ld L mk f _ a h
theorem rp (nZ:List (List Nat)) (hn:nZ.length≤10) (ps:List Pl) (hl:ps.length≤100) (hp:∀ p∈ps,Pok p nZ.length):bX [eN nZ ps]=.ok (lJ (goE nZ ps 13 0 (L0 ps))):=by
 obtain ⟨ar,he⟩:=jl nZ hn ps hl hp
 have x:=pM nZ ps 13 0 (Ex.zero nZ ps)
 have hL:(goE nZ ps 13 0 (L0 ps)).length≤100:=Nat.le_trans (lK nZ hn ps 13 0 (Ex.zero nZ ps) (by decide:1≤22)) (by decide)
 change Ex nZ ps (goE nZ ps 13 0 (L0 ps)) at x
 generalize goE nZ ps 13 0 (L0 ps)=L at he x hL
 unfold bX iI lJ
 rw [bc (h:=by rfl)]
 rw [am (env':=[some (.f,eN nZ ps),some (.f,.lst (L.map eMe)),none,none,none]) (by simp only [pv,↓reduceIte,Nat.reduceAdd,Nat.reduceLT,Nat.reduceLeDiff,Nat.reduceEqDiff,op,he,at0,List.map_cons,List.map_nil,zP,zQ,ite_self])]
 by_cases h12:L.length≤12
 ·have c1:decide ((L.length:Int)≤12)=true:=decide_eq_true (by lia)
  rw [if_pos h12]
  simp only [pv,↓reduceIte,Nat.reduceAdd,Nat.reduceLT,Nat.reduceLeDiff,Nat.reduceEqDiff,op,List.length_map,c1]
  rfl
 ·have c1:decide ((L.length:Int)≤12)=false:=decide_eq_false (by lia)
  rw [if_neg h12]
  rw [am (env':=[some (.f,eN nZ ps),some (.f,.lst (L.map eMe)),none,none,none]) (by simp only [pv,↓reduceIte,Nat.reduceAdd,Nat.reduceLT,Nat.reduceLeDiff,Nat.reduceEqDiff,op,List.length_map,c1,Bool.false_eq_true])]
  have ff:=pN (a:=aw 2) (g:=b6) (fun _ env=>∃ t2 t3 t4:Option R,env=[some (.f,eN nZ ps),some (.f,.lst (L.map eMe)),t2,t3,t4]) (grw L) ((List.range 13).map fun (k:Nat)=>D.int (k:Int)) (by
   rintro i d env hd ⟨t2,t3,t4,rfl⟩
   rw [List.getElem?_map,Option.map_eq_some_iff] at hd
   obtain ⟨k,hk,rfl⟩:=hd
   obtain ⟨h1,h2⟩:=List.getElem?_eq_some_iff.mp hk
   rw [List.length_range] at h1
   rw [List.getElem_range] at h2
   subst h2
   have hk2:L[i]?=some L[i]:=List.getElem?_eq_getElem (by lia)
   generalize L[i]=e at hk2
   have hnr:=pP hl hL x hk2
   have hat:=nE hk2
   refine ⟨[some (.f,eN nZ ps),some (.f,.lst (L.map eMe)),some (.f,.int (i:Int)),t3,t4],by simp only [pv,↓reduceIte,Nat.reduceAdd,Nat.reduceLT,Nat.reduceLeDiff,Nat.reduceEqDiff],?_⟩
   unfold grw
   rw [hk2]
   dsimp only
   have hfa:∀ o:Option Nat,b9 (eAh o)=true:=fun o=>by cases o <;> rfl
   cases hN:pO L e.1 i e.2.2 with
   | none=>
    rw [hN] at hnr
    have hi:=su none
    refine .inl ⟨rfl,[some (.f,eN nZ ps),some (.f,.lst (L.map eMe)),some (.f,.int (i:Int)),some (.f,eAh none),t4],?_,_,_,_,rfl⟩
    unfold b6
    simp only [pv,↓reduceIte,Nat.reduceAdd,Nat.reduceLT,Nat.reduceLeDiff,Nat.reduceEqDiff,hnr,bw,hfa,hi,Option.isSome_none,Bool.false_eq_true]
   | some a=>
    rw [hN] at hnr
    obtain ⟨ea,hea⟩:=ld L e.1 i e.2.2 a hN
    have hat2:=nE hea
    have hi:o0 (.int (a:Int)) .non=.ok (.f,.bl true):=rfl
    have hnr:aN [.lst (L.map eMe),.int (i:Int)]=.ok (.f,.int (a:Int)):=hnr
    have hcd:e8 (e.2.1.map D.str) (some (ea.2.1.length:Int)) none=(e.2.1.drop ea.2.1.length).map D.str:=by
     rw [qW,List.map_drop]
    dsimp only
    rw [hea]
    refine .inr ⟨_,rfl,?_⟩
    unfold b6
    rw [am (env':=[some (.f,eN nZ ps),some (.f,.lst (L.map eMe)),some (.f,.int (i:Int)),some (.f,.int (a:Int)),t4]) (by simp only [pv,↓reduceIte,Nat.reduceAdd,Nat.reduceLT,Nat.reduceLeDiff,Nat.reduceEqDiff,hnr,bw,gq])]
    unfold grD eWy
    unfold eMe eWy at hat hat2 ⊢
    simp only [pv,↓reduceIte,Nat.reduceAdd,Nat.reduceLT,Nat.reduceLeDiff,Nat.reduceEqDiff,op,hi,hat,hat2,at1,List.length_map,hcd]) [some (.f,eN nZ ps),some (.f,.lst (L.map eMe)),none,none,none] ⟨_,_,_,rfl⟩
  have hr:cC (ai (ap cF (ai (au (.int 12))) (ai (au (.int 1))))) [some (.f,eN nZ ps),some (.f,.lst (L.map eMe)),none,none,none]=.ok ((List.range 13).map fun (k:Nat)=>D.int (k:Int),[some (.f,eN nZ ps),some (.f,.lst (L.map eMe)),none,none,none]):=Aa (12 + 1) (by decide) (by decide) _ _ _ (.val (.int (12 + 1))) (by simp only [pv,↓reduceIte,Nat.reduceAdd,Nat.reduceLT,Nat.reduceLeDiff,Nat.reduceEqDiff,op]) rfl
  rw [List.length_map,List.length_range] at ff
  unfold gc
  rw [x_sSeq,x_sFor,hr,bOk]
  dsimp only
  rcases ff with ⟨f1,env',f2,t2,t3,t4,rfl⟩ | ⟨v,f1,f2⟩
  ·rw [f1,f2,bOk]
   unfold e9
   simp only [pv,↓reduceIte,Nat.reduceAdd,Nat.reduceLT,Nat.reduceLeDiff,Nat.reduceEqDiff]
   rfl
  ·rw [f1,f2,bOk]
   rfl
def Wn (nZ:List (List Nat)) (L:List Me):Prop:=∀ e∈L,∀ mv∈e.2.1,mv∈nZ
theorem Wn.add {nZ:List (List Nat)} {ps:List Pl} {d:Nat} {mk:List Int} {wy:List (List Nat)} {L:List Me} {mv:List Nat} (h:Wn nZ L) (hw:∀ m∈wy,m∈nZ) (hm:mv∈nZ):Wn nZ (cN nZ ps d mk wy L mv):=by
 unfold cN
 split
 ·exact h
 ·split
  ·exact h
  ·intro e he m hm'
   rcases List.mem_append.mp he with he | he
   ·exact h e he m hm'
   ·rw [List.mem_singleton.mp he] at hm'
    rcases List.mem_append.mp hm' with q | q
    ·exact hw m q
    ·rw [List.mem_singleton.mp q]
     exact hm
theorem Wn.fold {nZ:List (List Nat)} {ps:List Pl} {d:Nat} {mk:List Int} {wy:List (List Nat)} (hw:∀ m∈wy,m∈nZ):∀ (l:List (List Nat)) {L:List Me},(∀ m∈l,m∈nZ)→Wn nZ L→Wn nZ (l.foldl (cN nZ ps d mk wy) L)
 | [],_,_,h=>h
 | m :: l,L,hl,h=>by
  rw [List.foldl_cons]
  exact Wn.fold hw l (fun m hm=>hl m (List.mem_cons_of_mem _ hm)) (h.add hw (hl m List.mem_cons_self))
theorem Wn.go (nZ:List (List Nat)) (ps:List Pl):∀ (f d:Nat) {L:List Me},Wn nZ L→Wn nZ (goE nZ ps f d L)
 | 0,_,_,h=>h
 | f + 1,d,L,h=>by
  rw [goE]
  split
  ·refine Wn.go nZ ps f (d + 1) ?_
   unfold cn
   split
   ·exact h
   ·rename_i e he
    exact Wn.fold (h e (List.mem_of_getElem? he)) nZ (fun _ hm=>hm) h
  ·exact h
noncomputable def gn (nZ:List (List Nat)) (ps:List Pl):List Int→List (List Nat)→Option (List Int)
 | m,[]=>some m
 | m,v :: w=>match cA (nZ.idxOf v) (m.zip ps) with
  | some r=>gn nZ ps r w
  | none=>none
theorem pQ (nZ:List (List Nat)) (ps:List Pl):∀ (w:List (List Nat)) (m:List Int) (u:List (List Nat)),gn nZ ps m (w++u)=(gn nZ ps m w).bind fun r=>gn nZ ps r u
 | [],m,u=>rfl
 | v :: w,m,u=>by
  simp only [List.cons_append,gn]
  cases cA (nZ.idxOf v) (m.zip ps) with
  | none=>rfl
  | some r=>exact pQ nZ ps w r u
theorem Ex.gone {nZ:List (List Nat)} {ps:List Pl} {L:List Me} (x:Ex nZ ps L):∀ (n i:Nat) (e:Me),i≤n→L[i]?=some e→gn nZ ps (ps.map (·.1)) e.2.1=some e.1:=by
 intro n
 induction n with
 | zero=>
  intro i e hi he
  obtain rfl:i=0:=by lia
  rw [x.z] at he
  cases he
  rfl
 | succ n ih=>
  intro i e hi he
  rcases Nat.eq_zero_or_pos i with h | h
  ·exact ih i e (by lia) he
  ·obtain ⟨a,ea,mv,_,h2,h3,h4,h5⟩:=x.up i e he h
   rw [h4,pQ,ih a ea (by lia) h3]
   show gn nZ ps ea.1 [mv]=_
   simp only [gn,h5]
noncomputable def hZ (m d:List Int):List Int:=List.zipWith (·+ ·) m d
theorem mR (k:Nat):∀ (m d:List Int) (ps:List Pl) (r:List Int),d.length=m.length→(∀ x∈d,0≤x)→cA k (m.zip ps)=some r→cA k ((hZ m d).zip ps)=some (hZ r d)
 | [],[],ps,r,_,_,h=>by
  cases h
  rfl
 | [],_ :: _,_,_,hl,_,_=>by cases hl
 | _ :: _,[],_,_,hl,_,_=>by cases hl
 | x :: m,y :: d,[],r,_,_,h=>by
  cases h
  rfl
 | x :: m,y :: d,p :: ps,r,hl,hd,h=>by
  have h:(if x < p.2.1.getD k 0 then none else (cA k (m.zip ps)).map fun r=>(x - p.2.1.getD k 0 + p.2.2.getD k 0) :: r)=some r:=h
  split at h
  ·cases h
  ·rename_i hx
   obtain ⟨r',h1,rfl⟩:=Option.map_eq_some_iff.mp h
   have hy:=hd y List.mem_cons_self
   show (if x + y < p.2.1.getD k 0 then none else (cA k ((hZ m d).zip ps)).map fun r=>(x + y - p.2.1.getD k 0 + p.2.2.getD k 0) :: r)=some ((x - p.2.1.getD k 0 + p.2.2.getD k 0 + y) :: hZ r' d)
   rw [if_neg (by lia),mR k m d ps r' (Nat.succ.inj hl) (fun z hz=>hd z (List.mem_cons_of_mem _ hz)) h1,Option.map_some,show x + y - p.2.1.getD k 0 + p.2.2.getD k 0=x - p.2.1.getD k 0 + p.2.2.getD k 0 + y by lia]
theorem sv (nZ:List (List Nat)) (ps:List Pl) (d:List Int) (hd:∀ x∈d,0≤x):∀ (w:List (List Nat)) (m r:List Int),d.length=m.length→m.length=ps.length→gn nZ ps m w=some r→gn nZ ps (hZ m d) w=some (hZ r d)
 | [],m,r,_,_,h=>by
  cases h
  rfl
 | v :: w,m,r,hl,hp,h=>by
  simp only [gn] at h ⊢
  cases hf:cA (nZ.idxOf v) (m.zip ps) with
  | none=>rw [hf] at h;cases h
  | some r1=>
   rw [hf] at h
   have hr:r1.length=m.length:=by
    have:=iQ _ hf
    rw [List.length_zip] at this
    lia
   rw [mR _ m d ps r1 hl hd hf]
   exact sv nZ ps d hd w r1 r (by lia) (by lia) h
noncomputable def mt (a d:List Int):Nat→List Int
 | 0=>a
 | t + 1=>hZ (mt a d t) d
theorem mS (a d:List Int) (h:d.length=a.length):∀ t,(mt a d t).length=a.length
 | 0=>rfl
 | t + 1=>by
  rw [mt,hZ,List.length_zipWith,mS a d h t,h,Nat.min_self]
theorem yk (nZ:List (List Nat)) (ps:List Pl) {a d:List Int} (hd:∀ x∈d,0≤x) (hl:d.length=a.length) (hp:a.length=ps.length) {u:List (List Nat)} (h:gn nZ ps a u=some (hZ a d)):∀ t,gn nZ ps (mt a d t) u=some (mt a d (t + 1))
 | 0=>h
 | t + 1=>sv nZ ps d hd u _ _ (by rw [mS a d hl];exact hl) (by rw [mS a d hl];exact hp) (yk nZ ps hd hl hp h t)
theorem mT:∀ (b a:List Int),b.length=a.length→cov b a=true→∃ d:List Int,d.length=a.length∧(∀ x∈d,0≤x)∧hZ a d=b
 | [],[],_,_=>⟨[],rfl,(fun _ h=>nomatch h),rfl⟩
 | [],_ :: _,hl,_=>by cases hl
 | _ :: _,[],hl,_=>by cases hl
 | x :: b,y :: a,hl,h=>by
  have h:(decide (y≤x) && cov b a)=true:=h
  obtain ⟨h1,h2⟩:=(Bool.and_eq_true _ _).mp h
  have h1:=of_decide_eq_true h1
  obtain ⟨d,l,n,e⟩:=mT b a (Nat.succ.inj hl) h2
  refine ⟨(x - y) :: d,congrArg Nat.succ l,fun z hz=>?_,?_⟩
  ·rcases List.mem_cons.mp hz with rfl | hz
   ·lia
   ·exact n z hz
  ·show (y + (x - y)) :: hZ a d=x :: b
   rw [e,show y + (x - y)=x by lia]
theorem pR:∀ (m d:List Int),d.length=m.length→hZ m d=m→∀ x∈d,x=0
 | [],[],_,_=>fun _ h=>nomatch h
 | [],_ :: _,hl,_=>by cases hl
 | _ :: _,[],hl,_=>by cases hl
 | x :: m,y :: d,hl,h=>by
  have h:(x + y) :: hZ m d=x :: m:=h
  injection h with h1 h2
  intro z hz
  rcases List.mem_cons.mp hz with rfl | hz
  ·lia
  ·exact pR m d (Nat.succ.inj hl) h2 z hz
theorem pS:∀ (a d:List Int),d.length=a.length→(∀ x∈d,x=0)→hZ a d=a
 | [],[],_,_=>rfl
 | [],_ :: _,hl,_=>by cases hl
 | _ :: _,[],hl,_=>by cases hl
 | x :: a,y :: d,hl,h=>by
  show (x + y) :: hZ a d=x :: a
  rw [pS a d (Nat.succ.inj hl) fun z hz=>h z (List.mem_cons_of_mem _ hz),h y List.mem_cons_self,Int.add_zero]
theorem zU {a d:List Int} (hl:d.length=a.length) (h:hZ a d≠a) (t:Nat):mt a d (t + 1)≠mt a d t:=fun e=>
 h (pS a d hl (pR (mt a d t) d (by rw [mS a d hl];exact hl) e))
theorem sw:∀ (m d:List Int),(∀ x∈d,0≤x)→∀ z∈m.zip (hZ m d),z.1≤z.2
 | [],_,_=>fun _ h=>nomatch h
 | _ :: _,[],_=>fun _ h=>nomatch h
 | x :: m,y :: d,h=>by
  intro z hz
  have hz:z∈(x,x + y) :: m.zip (hZ m d):=hz
  rcases List.mem_cons.mp hz with rfl | hz
  ·have:=h y List.mem_cons_self
   show x≤x + y
   lia
  ·exact sw m d (fun z hz=>h z (List.mem_cons_of_mem _ hz)) z hz
theorem rq {nZ:List (List Nat)} {ps:List Pl} {L:List Me} (x:Ex nZ ps L) (mk:List Int) (wk:List (List Nat)):∀ (f i:Nat) (ei:Me) (a:Nat),L[i]?=some ei→(∃ r,wk=ei.2.1++r)→pO L mk f ei.2.2=some a→∃ ea r,L[a]?=some ea∧a < i∧wk=ea.2.1++r∧cov mk ea.1=true:=by
 intro f
 induction f with
 | zero=>
  intro i ei a _ _ h
  cases hq:ei.2.2 <;> (rw [hq] at h;cases h)
 | succ f ih=>
  intro i ei a hi hr h
  rcases Nat.eq_zero_or_pos i with h0 | h0
  ·subst h0
   rw [x.z] at hi
   cases hi
   cases h
  ·obtain ⟨b,eb,mv,h1,h2,h3,h4,_⟩:=x.up i ei hi h0
   obtain ⟨r,hr⟩:=hr
   have hr2:wk=eb.2.1++(mv :: r):=by rw [hr,h4,List.append_assoc];rfl
   rw [h1,pO,h3] at h
   dsimp only at h
   split at h
   ·rename_i hc
    cases h
    exact ⟨eb,_,h3,h2,hr2,hc⟩
   ·obtain ⟨ea,r',q1,q2,q3,q4⟩:=ih b eb a h3 ⟨_,hr2⟩ h
    exact ⟨ea,r',q1,by lia,q3,q4⟩
theorem pT {nZ:List (List Nat)} {ps:List Pl} {L:List Me} (x:Ex nZ ps L) (hw:Wn nZ L) {k:Nat} {v:R} (h:grw L k=some v):∃ (w u:List (List Nat)) (a d:List Int),v=(.f,grD w u)∧(∀ m∈w,m∈nZ)∧(∀ m∈u,m∈nZ)∧gn nZ ps (ps.map (·.1)) w=some a∧a.length=ps.length∧d.length=a.length∧(∀ y∈d,0≤y)∧hZ a d≠a∧gn nZ ps a u=some (hZ a d):=by
 unfold grw at h
 split at h
 ·rename_i e hk
  split at h
  ·rename_i a ha
   obtain ⟨ea,r,q1,q2,q3,q4⟩:=rq x e.1 e.2.1 k k e a hk ⟨[],(List.append_nil _).symm⟩ ha
   rw [q1] at h
   cases h
   have l1:=x.ln e (List.mem_of_getElem? hk)
   have l2:=x.ln ea (List.mem_of_getElem? q1)
   obtain ⟨d,d1,d2,d3⟩:=mT e.1 ea.1 (by lia) q4
   have g1:=x.gone k k e (Nat.le_refl _) hk
   have g2:=x.gone a a ea (Nat.le_refl _) q1
   have hr:e.2.1.drop ea.2.1.length=r:=by rw [q3,List.drop_left]
   rw [q3,pQ,g2] at g1
   have g1:gn nZ ps ea.1 r=some e.1:=g1
   rw [hr]
   refine ⟨_,_,ea.1,d,rfl,hw ea (List.mem_of_getElem? q1),fun m hm=>hw e (List.mem_of_getElem? hk) m (by rw [q3];exact List.mem_append_right _ hm),g2,l2,d1,d2,?_,by rw [d3];exact g1⟩
   rw [d3]
   intro z
   have n1:(L.map (·.1))[k]?=some e.1:=by rw [List.getElem?_map,hk];rfl
   have n2:(L.map (·.1))[a]?=some e.1:=by rw [List.getElem?_map,q1,z];rfl
   obtain ⟨b1,c1⟩:=List.getElem?_eq_some_iff.mp n1
   obtain ⟨b2,c2⟩:=List.getElem?_eq_some_iff.mp n2
   have i1:=x.nd.idxOf_getElem k b1
   have i2:=x.nd.idxOf_getElem a b2
   rw [c1] at i1
   rw [c2] at i2
   lia
  ·cases h
 ·cases h
theorem yw (a:List Nat) (l:List (List Nat)):nJ (.str a) (.tup (l.map D.str))=.ok (.f,.bl (!decide (a∈l))):=by
 unfold nJ
 rw [so]
 rfl
theorem vB (m:List Int):isO (eM m) .non=.ok (.f,.bl false):=rfl
theorem sx (nZ:List (List Nat)) (ps:List Pl) (hl:ps.length≤100) (hp:∀ p∈ps,Pok p nZ.length) (w:List (List Nat)) (m r:List Int) (hw:∀ v∈w,v∈nZ) (h:gn nZ ps m w=some r):bF [eN nZ ps,eM m,eWy w]=.ok (.f,eM r):=by
 obtain ⟨env',hf,m',t3,h1,rfl⟩:=for_list (a:=aw 3) (g:=cW) (e:=D.str) w (fun k env=>∃ (m':List Int) (t3:Option R),gn nZ ps m' (w.drop k)=some r∧env=[some (.f,eN nZ ps),some (.f,eM m'),some (.f,eWy w),t3]) (by
  rintro k v env hk ⟨m',t3,h1,rfl⟩
  have hv:=hw v (List.mem_of_getElem? hk)
  obtain ⟨hlt,hx⟩:=List.getElem?_eq_some_iff.mp hk
  rw [List.drop_eq_getElem_cons hlt,hx] at h1
  simp only [gn] at h1
  have hs:=vA nZ ps hl hp m' v hv
  cases hz:cA (nZ.idxOf v) (m'.zip ps) with
  | none=>rw [hz] at h1;cases h1
  | some r1=>
   rw [hz] at h1 hs
   have hs:bh [eN nZ ps,eM m',.str v]=.ok (.f,eM r1):=hs
   have hi:=vB r1
   have hn:=yw v nZ
   rw [decide_eq_true hv] at hn
   refine ⟨[some (.f,eN nZ ps),some (.f,eM m'),some (.f,eWy w),some (.f,.str v)],by simp only [pv,↓reduceIte,Nat.reduceAdd,Nat.reduceLT,Nat.reduceLeDiff,Nat.reduceEqDiff],[some (.f,eN nZ ps),some (.f,eM r1),some (.f,eWy w),some (.f,.str v)],?_,r1,_,h1,rfl⟩
   unfold cW
   rw [am (env':=[some (.f,eN nZ ps),some (.f,eM m'),some (.f,eWy w),some (.f,.str v)]) (by
    unfold eN
    simp only [pv,↓reduceIte,Nat.reduceAdd,Nat.reduceLT,Nat.reduceLeDiff,Nat.reduceEqDiff,op,at0,hn,Bool.not_true,Bool.false_eq_true])]
   rw [am (env':=[some (.f,eN nZ ps),some (.f,eM r1),some (.f,eWy w),some (.f,.str v)]) (by simp only [pv,↓reduceIte,Nat.reduceAdd,Nat.reduceLT,Nat.reduceLeDiff,Nat.reduceEqDiff,hs,bw,jk])]
   simp only [pv,↓reduceIte,Nat.reduceAdd,Nat.reduceLT,Nat.reduceLeDiff,Nat.reduceEqDiff,hi,Bool.false_eq_true]) [some (.f,eN nZ ps),some (.f,eM m),some (.f,eWy w),none] ⟨m,none,h,rfl⟩
 rw [List.drop_length] at h1
 cases h1
 unfold bF iL
 rw [bc (h:=by rfl),show (List.map (fun d=>some (O.f,d)) [eN nZ ps,eM m,eWy w]++List.replicate 1 none:PV.Env)=[some (.f,eN nZ ps),some (.f,eM m),some (.f,eWy w),none] from rfl]
 unfold gl fw
 have hr:(or2 (nI (aI 2)) (or2 (dr (aI 2)) (dt (aI 2)))) [some (.f,eN nZ ps),some (.f,eM m),some (.f,eWy w),none]=.ok (w.map D.str,[some (.f,eN nZ ps),some (.f,eM m),some (.f,eWy w),none]):=by
  unfold eWy
  simp only [pv,↓reduceIte,Nat.reduceAdd,Nat.reduceLT,Nat.reduceLeDiff,Nat.reduceEqDiff]
 rw [x_sSeq,x_sFor,hr,bOk]
 dsimp only
 rw [hf,bOk]
 simp only [pv,↓reduceIte,Nat.reduceAdd,Nat.reduceLT,Nat.reduceLeDiff,Nat.reduceEqDiff]
theorem gr (x y z:D) (t1 t2 t3:Option R) (cj:PV.Env):gY 3 (az (aw 0) (az (aw 1) (az (aw 2) cv))) (.tup [x,y,z]) (t1 :: t2 :: t3 :: cj)=.ok (some (.f,x) :: some (.f,y) :: some (.f,z) :: cj):=by
 rw [x_aTup,if_pos (by simp),x_asCons,x_aName,if_pos (by simp),bOk,x_asCons,x_aName,if_pos (by simp),bOk,x_asCons,x_aName,if_pos (by simp),bOk]
 rfl
theorem rA (A0 A1 A2 A3 A4 A5 A6:Option R) (zs:List (Int×Int)) (h:∀ z∈zs,z.1≤z.2) (t7 t8:Option R):∃ t7' t8',gZ (gY 2 (az (aw 7) (az (aw 8) cv))) bT (zs.map fun z=>D.tup [.int z.1,.int z.2]) [A0,A1,A2,A3,A4,A5,A6,t7,t8]=.ok (.nx [A0,A1,A2,A3,A4,A5,A6,t7',t8']):=by
 obtain ⟨env',hf,t7',t8',rfl⟩:=for_list (a:=gY 2 (az (aw 7) (az (aw 8) cv))) (g:=bT) (e:=fun z:Int×Int=>D.tup [.int z.1,.int z.2]) zs (fun _ env=>∃ t7 t8:Option R,env=[A0,A1,A2,A3,A4,A5,A6,t7,t8]) (by
  rintro k z env hk ⟨t7,t8,rfl⟩
  have hz:=h z (List.mem_of_getElem? hk)
  have c:decide (z.2 < z.1)=false:=decide_eq_false (by lia)
  refine ⟨[A0,A1,A2,A3,A4,A5,A6,some (.f,.int z.1),some (.f,.int z.2)],by simp only [pv,↓reduceIte,Nat.reduceAdd,Nat.reduceLT,Nat.reduceLeDiff,Nat.reduceEqDiff],[A0,A1,A2,A3,A4,A5,A6,some (.f,.int z.1),some (.f,.int z.2)],?_,_,_,rfl⟩
  unfold bT
  simp only [pv,↓reduceIte,Nat.reduceAdd,Nat.reduceLT,Nat.reduceLeDiff,Nat.reduceEqDiff,op,c,Bool.false_eq_true]) [A0,A1,A2,A3,A4,A5,A6,t7,t8] ⟨_,_,rfl⟩
 exact ⟨t7',t8',hf⟩
theorem vC (nZ:List (List Nat)) (ps:List Pl) (hl:ps.length≤100) (hp:∀ p∈ps,Pok p nZ.length) (w u:List (List Nat)) (a d:List Int) (hw:∀ v∈w,v∈nZ) (hu:∀ v∈u,v∈nZ) (g1:gn nZ ps (ps.map (·.1)) w=some a) (hal:a.length=ps.length) (hdl:d.length=a.length) (hd0:∀ y∈d,0≤y) (hne:hZ a d≠a) (g2:gn nZ ps a u=some (hZ a d)) (n:Nat) (hn:n≤100) :
  bL [eN nZ ps,eWy w,eWy u,.int (n:Int)]=.ok (.f,.bl true):=by
 have hc:cw (gY 3 (az (aw 0) (az (aw 1) (az (aw 2) cv)))) fP (aI 0) (ps.map eP) [none,none,none]=.ok ((ps.map (·.1)).map D.int):=by
  rw [List.map_map]
  refine b7 (fun env=>∃ t u v,env=[t,u,v]) _ ?_ _ ⟨_,_,_,rfl⟩
  rintro p _ env ⟨t,u,v,rfl⟩
  refine ⟨_,gr _ _ _ _ _ _ _,?_⟩
  simp only [pv,↓reduceIte,Nat.reduceAdd,Nat.reduceLT,Nat.reduceLeDiff,Nat.reduceEqDiff]
  exact ⟨_,_,rfl,_,_,_,rfl⟩
 have hl2:((ps.map (·.1)).map D.int).length≤sizeLine:=line_le (by rw [List.length_map,List.length_map];lia)
 have hgo:=sx nZ ps hl hp w (ps.map (·.1)) a hw g1
 have tw:∀ w,o5 "tuple" (eWy w)=true:=fun _=>rfl
 obtain ⟨env',hf,t5,t6,t7,t8,rfl⟩:=jX (a:=aw 5) (g:=cI) (e:=fun k=>D.int (k:Int)) n (fun k env=>∃ t5 t6 t7 t8:Option R,env=[some (.f,eN nZ ps),some (.f,eWy w),some (.f,eWy u),some (.f,.int (n:Int)),some (.f,eM (mt a d k)),t5,t6,t7,t8]) (by
  rintro k env hk ⟨t5,t6,t7,t8,rfl⟩
  have hg:=sx nZ ps hl hp u (mt a d k) (mt a d (k + 1)) hu (yk nZ ps hd0 hdl hal g2 k)
  have hi:=vB (mt a d (k + 1))
  have hq:eqO (eM (mt a d (k + 1))) (eM (mt a d k))=.ok (.f,.bl false):=by
   unfold eqO
   rw [pL,pL,Bool.and_self,if_pos rfl,rh,decide_eq_false (zU hdl hne k)]
  refine ⟨[some (.f,eN nZ ps),some (.f,eWy w),some (.f,eWy u),some (.f,.int (n:Int)),some (.f,eM (mt a d k)),some (.f,.int (k:Int)),t6,t7,t8],by simp only [pv,↓reduceIte,Nat.reduceAdd,Nat.reduceLT,Nat.reduceLeDiff,Nat.reduceEqDiff],?_⟩
  obtain ⟨t7',t8',hz⟩:=rA (some (.f,eN nZ ps)) (some (.f,eWy w)) (some (.f,eWy u)) (some (.f,.int (n:Int))) (some (.f,eM (mt a d k))) (some (.f,.int (k:Int))) (some (.f,eM (mt a d (k + 1)))) ((mt a d k).zip (mt a d (k + 1))) (sw (mt a d k) d hd0) t7 t8
  refine ⟨[some (.f,eN nZ ps),some (.f,eWy w),some (.f,eWy u),some (.f,.int (n:Int)),some (.f,eM (mt a d (k + 1))),some (.f,.int (k:Int)),some (.f,eM (mt a d (k + 1))),t7',t8'],?_,_,_,_,_,rfl⟩
  unfold cI
  rw [am (env':=[some (.f,eN nZ ps),some (.f,eWy w),some (.f,eWy u),some (.f,.int (n:Int)),some (.f,eM (mt a d k)),some (.f,.int (k:Int)),some (.f,eM (mt a d (k + 1))),t7,t8]) (by simp only [pv,↓reduceIte,Nat.reduceAdd,Nat.reduceLT,Nat.reduceLeDiff,Nat.reduceEqDiff,hg,bw,jk])]
  rw [am (env':=[some (.f,eN nZ ps),some (.f,eWy w),some (.f,eWy u),some (.f,.int (n:Int)),some (.f,eM (mt a d k)),some (.f,.int (k:Int)),some (.f,eM (mt a d (k + 1))),t7,t8]) (by simp only [pv,↓reduceIte,Nat.reduceAdd,Nat.reduceLT,Nat.reduceLeDiff,Nat.reduceEqDiff,hi,hq,Bool.false_eq_true])]
  have hs:cX [some (.f,eN nZ ps),some (.f,eWy w),some (.f,eWy u),some (.f,.int (n:Int)),some (.f,eM (mt a d k)),some (.f,.int (k:Int)),some (.f,eM (mt a d (k + 1))),t7,t8]=.ok (.nx [some (.f,eN nZ ps),some (.f,eWy w),some (.f,eWy u),some (.f,.int (n:Int)),some (.f,eM (mt a d k)),some (.f,.int (k:Int)),some (.f,eM (mt a d (k + 1))),t7',t8']):=by
   unfold cX
   unfold eM at hz ⊢
   simp only [pv,↓reduceIte,Nat.reduceAdd,Nat.reduceLT,Nat.reduceLeDiff,Nat.reduceEqDiff,op,eU,hz]
  rw [am hs]
  unfold d9
  simp only [pv,↓reduceIte,Nat.reduceAdd,Nat.reduceLT,Nat.reduceLeDiff,Nat.reduceEqDiff]) [some (.f,eN nZ ps),some (.f,eWy w),some (.f,eWy u),some (.f,.int (n:Int)),some (.f,eM (mt a d 0)),none,none,none,none] ⟨_,_,_,_,rfl⟩
 unfold bL gQ
 rw [bc (h:=by rfl)]
 rw [am (env':=[some (.f,eN nZ ps),some (.f,eWy w),some (.f,eWy u),some (.f,.int (n:Int)),none,none,none,none,none]) (by simp only [pv,↓reduceIte,Nat.reduceAdd,Nat.reduceLT,Nat.reduceLeDiff,Nat.reduceEqDiff,tw,Bool.not_true,Bool.false_eq_true])]
 rw [am (env':=[some (.f,eN nZ ps),some (.f,eWy w),some (.f,eWy u),some (.f,.int (n:Int)),some (.f,eM a),none,none,none,none]) (by
  unfold eN at hgo ⊢
  unfold eM at hgo
  simp only [pv,↓reduceIte,Nat.reduceAdd,Nat.reduceLT,Nat.reduceLeDiff,Nat.reduceEqDiff,op,at1,hc,hl2,flat_ints,hgo,bw]
  rfl)]
 have hi:=vB a
 rw [am (env':=[some (.f,eN nZ ps),some (.f,eWy w),some (.f,eWy u),some (.f,.int (n:Int)),some (.f,eM a),none,none,none,none]) (by simp only [pv,↓reduceIte,Nat.reduceAdd,Nat.reduceLT,Nat.reduceLeDiff,Nat.reduceEqDiff,hi,Bool.false_eq_true])]
 have hr:cC (aj 3) [some (.f,eN nZ ps),some (.f,eWy w),some (.f,eWy u),some (.f,.int (n:Int)),some (.f,eM a),none,none,none,none]=.ok ((List.range n).map fun (k:Nat)=>D.int (k:Int),[some (.f,eN nZ ps),some (.f,eWy w),some (.f,eWy u),some (.f,.int (n:Int)),some (.f,eM a),none,none,none,none]):=by
  have:=Aa (n:Int) (by lia) (by lia) (aj 3) [some (.f,eN nZ ps),some (.f,eWy w),some (.f,eWy u),some (.f,.int (n:Int)),some (.f,eM a),none,none,none,none] [some (.f,eN nZ ps),some (.f,eWy w),some (.f,eWy u),some (.f,.int (n:Int)),some (.f,eM a),none,none,none,none] (.var 3) (by simp only [pv,↓reduceIte,Nat.reduceAdd,Nat.reduceLT,Nat.reduceLeDiff,Nat.reduceEqDiff]) rfl
  rw [Int.toNat_natCast] at this
  exact this
 unfold fA eg
 rw [x_sSeq,x_sFor,hr,bOk]
 dsimp only
 rw [show eM a=eM (mt a d 0) from rfl,hf,bOk]
 simp only [pv,↓reduceIte,Nat.reduceAdd,Nat.reduceLT,Nat.reduceLeDiff,Nat.reduceEqDiff]
theorem sy {g:FS} {x:FB} {env e:PV.Env} (h:g env=.ok (.nx e)):vG g x env=x e:=by
 unfold vG
 rw [h]
theorem zV (nZ:List (List Nat)) (hn:nZ.length≤10) (ps:List Pl) (hl:ps.length≤100) (hp:∀ p∈ps,Pok p nZ.length):(12 < (goE nZ ps 13 0 (L0 ps)).length∧cy [eN nZ ps]=true)∨((goE nZ ps 13 0 (L0 ps)).length≤12∧cy [eN nZ ps]=false∧∃ X,eT [eN nZ ps]=.ok (.f,.tup [X,.lst (((goE nZ ps 13 0 (L0 ps)).map (·.1)).map eM)])):=by
 obtain ⟨ar,he⟩:=jl nZ hn ps hl hp
 have hL:(goE nZ ps 13 0 (L0 ps)).length≤100:=Nat.le_trans (lK nZ hn ps 13 0 (Ex.zero nZ ps) (by decide:1≤22)) (by decide)
 generalize goE nZ ps 13 0 (L0 ps)=L at he hL
 have hc:cw (gY 3 (az (aw 0) (az (aw 1) (az (aw 2) cv)))) fP (aI 0) (L.map eMe) [none,none,none]=.ok ((L.map (·.1)).map eM):=by
  rw [List.map_map]
  refine b7 (fun env=>∃ t u v,env=[t,u,v]) _ ?_ _ ⟨_,_,_,rfl⟩
  rintro p _ env ⟨t,u,v,rfl⟩
  refine ⟨_,gr _ _ _ _ _ _ _,?_⟩
  simp only [pv,↓reduceIte,Nat.reduceAdd,Nat.reduceLT,Nat.reduceLeDiff,Nat.reduceEqDiff]
  exact ⟨_,_,rfl,_,_,_,rfl⟩
 have hl2:((L.map (·.1)).map eM).length≤sizeLine:=line_le (by rw [List.length_map,List.length_map];lia)
 have hfl:flatDs ((L.map (·.1)).map eM)=true:=by
  rw [bH,List.all_map,List.all_eq_true]
  intro e _
  exact jk e
 have s1:∃ E:D,E=.tup [.lst (L.map eMe),.lst ar]:=⟨_,rfl⟩
 obtain ⟨E,hE⟩:=s1
 have a1:bB 1 (dL ba (ag (aj 0) aD)) [some (.f,eN nZ ps),none,none]=.ok (.nx [some (.f,eN nZ ps),some (.f,E),none]):=by
  rw [hE]
  simp only [pv,↓reduceIte,Nat.reduceAdd,Nat.reduceLT,Nat.reduceLeDiff,Nat.reduceEqDiff,he,zP,zQ,ite_self,List.map_cons,List.map_nil]
 have a2:bB 2 (dv (or2 (nI (ap ixD (aj 1) (ai (au (.int 0))))) (or2 (dr (ap ixD (aj 1) (ai (au (.int 0))))) (dt (ap ixD (aj 1) (ai (au (.int 0))))))) [none,none,none] (gY 3 (az (aw 0) (az (aw 1) (az (aw 2) cv)))) fP (aI 0)) [some (.f,eN nZ ps),some (.f,E),none]=.ok (.nx [some (.f,eN nZ ps),some (.f,E),some (.l .f,.lst ((L.map (·.1)).map eM))]):=by
  rw [hE]
  simp only [pv,↓reduceIte,Nat.reduceAdd,Nat.reduceLT,Nat.reduceLeDiff,Nat.reduceEqDiff,op,at0,hc,hl2,hfl]
 have hz:∀ b,decide ((L.length:Int) > 12)=b→eBl (ap gtD (ai (bM jZ (ag (aj 2) aD))) (ai (au (.int 12)))) [some (.f,eN nZ ps),some (.f,E),some (.l .f,.lst ((L.map (·.1)).map eM))]=.ok (b,[some (.f,eN nZ ps),some (.f,E),some (.l .f,.lst ((L.map (·.1)).map eM))]):=by
  intro b hb
  have hb:decide (12 < (L.length:Int))=b:=hb
  simp only [pv,↓reduceIte,Nat.reduceAdd,Nat.reduceLT,Nat.reduceLeDiff,Nat.reduceEqDiff,op,List.length_map,hb]
 have hx:∀ b,decide ((L.length:Int) > 12)=b→cy [eN nZ ps]=b:=by
  intro b hb
  unfold cy pr
  rw [show (List.map (fun d=>some (O.f,d)) [eN nZ ps]++List.replicate 2 none:PV.Env)=[some (.f,eN nZ ps),none,none] from rfl,sy a1,sy a2]
  unfold xIf
  rw [hz b hb]
  cases b <;> rfl
 by_cases h:12 < L.length
 ·exact .inl ⟨h,hx true (decide_eq_true (by lia))⟩
 ·refine .inr ⟨by lia,hx false (decide_eq_false (by lia)),.tup [.tup (nZ.map D.str),.lst ar],?_⟩
  have z:=hz false (decide_eq_false (by lia))
  unfold eT mF
  rw [bc (h:=by rfl),show (List.map (fun d=>some (O.f,d)) [eN nZ ps]++List.replicate 2 none:PV.Env)=[some (.f,eN nZ ps),none,none] from rfl,am a1,am a2]
  rw [am (env':=[some (.f,eN nZ ps),some (.f,E),some (.l .f,.lst ((L.map (·.1)).map eM))]) (by rw [AY z];rfl)]
  rw [hE]
  unfold eN
  simp only [pv,↓reduceIte,Nat.reduceAdd,Nat.reduceLT,Nat.reduceLeDiff,Nat.reduceEqDiff,op,at0,at1]
theorem nG {nZ:List (List Nat)} {ps:List Pl} {L:List Me} (x:Ex nZ ps L) (hw:Wn nZ L):(L.length≤12∧lJ L=(.f,i4 L.length))∨(12 < L.length∧∃ (w u:List (List Nat)) (a d:List Int),lJ L=(.f,grD w u)∧(∀ m∈w,m∈nZ)∧(∀ m∈u,m∈nZ)∧gn nZ ps (ps.map (·.1)) w=some a∧a.length=ps.length∧d.length=a.length∧(∀ y∈d,0≤y)∧hZ a d≠a∧gn nZ ps a u=some (hZ a d))∨(12 < L.length∧lJ L=(.f,nK)):=by
 unfold lJ
 by_cases h12:L.length≤12
 ·rw [if_pos h12]
  exact .inl ⟨h12,rfl⟩
 ·rw [if_neg h12]
  cases h:(List.range 13).findSome? (grw L) with
  | none=>exact .inr (.inr ⟨by lia,rfl⟩)
  | some v=>
   obtain ⟨k,_,hk⟩:=List.exists_of_findSome?_eq_some h
   obtain ⟨w,u,a,d,e,r⟩:=pT x hw hk
   exact .inr (.inl ⟨by lia,w,u,a,d,e,r⟩)
theorem sH {x:FXE} {g h:FS} {env e:PV.Env} (q:x env=some e):uL x g h env=h e:=by
 unfold uL
 rw [q]
theorem ym {x:FXE} {g h:FS} {env:PV.Env} (q:x env=none):uL x g h env=g env:=by
 unfold uL
 rw [q]
theorem yn {F:List D→Bool} {fs:FOs} {env e:PV.Env} {os:List Opd} {ds:List D} (h:fs env=.ok (os,e)) (h2:ik e os=.ok ds):vH F fs env=if F ds then some e else none:=by
 unfold vH
 rw [h]
 dsimp only
 rw [h2]
theorem pU (ns:List Int) (h:ns.length≤63):∃ o,uO [.lst (ns.map D.int)]=.ok (o,.bl true):=by
 obtain ⟨nZ,hn0,hn3,hnd,_,hmv⟩:=vo ns
 obtain ⟨ps,hpk,hp0,hp8,hpl⟩:=rg ns 2 nZ.length (by lia)
 have hpl:bj [.lst (ns.map D.int),.int 2,.int (nZ.length:Int)]=.ok (.l .f,.lst (ps.map eP)):=hpl
 have hgr:=rp nZ (by lia) ps (by lia) hpk
 have hrn:=zV nZ (by lia) ps (by lia) hpk
 have x:=pM nZ ps 13 0 (Ex.zero nZ ps)
 change Ex nZ ps (goE nZ ps 13 0 (L0 ps)) at x
 have hw:Wn nZ (goE nZ ps 13 0 (L0 ps)):=Wn.go nZ ps 13 0 (fun e he m hm=>by
  rw [List.mem_singleton.mp he] at hm
  cases hm)
 have hfm:=nG x hw
 generalize goE nZ ps 13 0 (L0 ps)=L at hgr hrn hfm
 have hfs:b9 (.tup (nZ.map D.str))=true:=by rw [cz,PV.flat_strs]
 have hcl:=jj ns 2
 have hcl:aq [.lst (ns.map D.int),.int 2]=.ok (.f,.int (cell ns 2)):=hcl
 have hm40:=iZ (cell ns 2) 40 (by decide)
 obtain ⟨b0,b1⟩:=eF (cell ns 2) 40 (by decide)
 unfold uO xD
 rw [bc (h:=by rfl)]
 rw [am (env':=[some (.f,.lst (ns.map D.int)),some (.f,.tup (nZ.map D.str)),none,none,none,none]) (by simp only [pv,↓reduceIte,Nat.reduceAdd,Nat.reduceLT,Nat.reduceLeDiff,Nat.reduceEqDiff,hmv,bw,hfs])]
 rw [am (env':=[some (.f,.lst (ns.map D.int)),some (.f,.tup (nZ.map D.str)),some (.f,eN nZ ps),none,none,none]) (by
  unfold eN
  simp only [pv,↓reduceIte,Nat.reduceAdd,Nat.reduceLT,Nat.reduceLeDiff,Nat.reduceEqDiff,op,List.length_map,hpl,mI,vp])]
 have hff:∀ dd,lJ L=(.f,dd)→b9 dd=true:=by
  intro dd hd
  rcases hfm with ⟨_,e⟩ | ⟨_,w,u,a,d,e,_⟩ | ⟨_,e⟩
  ·rw [e] at hd
   cases hd
   rfl
  ·rw [e] at hd
   cases hd
   unfold grD
   rw [cz]
   simp only [flatDs,nF,mJ]
   rfl
  ·rw [e] at hd
   cases hd
   rfl
 have hxf:∀ (A3 A4 A5:Option R),vH cy (ag (aj 2) aD) [some (.f,.lst (ns.map D.int)),some (.f,.tup (nZ.map D.str)),some (.f,eN nZ ps),A3,A4,A5]=if cy [eN nZ ps] then some [some (.f,.lst (ns.map D.int)),some (.f,.tup (nZ.map D.str)),some (.f,eN nZ ps),A3,A4,A5] else none:=fun A3 A4 A5=>yn (os:=[.var 2]) (by simp only [pv,↓reduceIte,Nat.reduceAdd,Nat.reduceLT,Nat.reduceLeDiff,Nat.reduceEqDiff]) (by simp only [pv,↓reduceIte,Nat.reduceAdd,Nat.reduceLT,Nat.reduceLeDiff,Nat.reduceEqDiff])
 have te:(([103,114,111,119,115]:List Nat) == [101,110,100,115])=false:=by decide
 have tb:(([98,101,121,111,110,100]:List Nat) == [101,110,100,115])=false:=by decide
 have tc:(([98,101,121,111,110,100]:List Nat) == [103,114,111,119,115])=false:=by decide
 rcases hfm with ⟨hle,hG⟩ | ⟨hgt,w,u,a,d,hG,q1,q2,q3,q4,q5,q6,q7,q8⟩ | ⟨hgt,hG⟩
 ·have hd:=hff _ hG
  rw [hG] at hgr
  rcases hrn with ⟨z,_⟩ | ⟨_,hx,X,hrn⟩
  ·lia
  have tt:o5 "tuple" (i4 L.length)=true:=rfl
  have hfl2:flatDs [X,.lst ((L.map (·.1)).map eM)]=false:=by
   show (b9 X && (false && true))=false
   rw [Bool.false_and,Bool.and_false]
  have hin:nJ (.str [101,110,100,115]) (.tup [.str [101,110,100,115],.str [103,114,111,119,115],.str [98,101,121,111,110,100]])=.ok (.f,.bl false):=yw _ [[101,110,100,115],[103,114,111,119,115],[98,101,121,111,110,100]]
  rw [am (env':=[some (.f,.lst (ns.map D.int)),some (.f,.tup (nZ.map D.str)),some (.f,eN nZ ps),some (.f,i4 L.length),none,none]) (by simp only [pv,↓reduceIte,Nat.reduceAdd,Nat.reduceLT,Nat.reduceLeDiff,Nat.reduceEqDiff,hgr,bw,hd])]
  rw [am (env':=[some (.f,.lst (ns.map D.int)),some (.f,.tup (nZ.map D.str)),some (.f,eN nZ ps),some (.f,i4 L.length),some (.f,.bl false),none]) (by simp only [pv,↓reduceIte,Nat.reduceAdd,Nat.reduceLT,Nat.reduceLeDiff,Nat.reduceEqDiff])]
  rw [am (env':=[some (.f,.lst (ns.map D.int)),some (.f,.tup (nZ.map D.str)),some (.f,eN nZ ps),some (.f,i4 L.length),some (.f,.bl false),some (.l .f,.lst [])]) (by simp only [pv,↓reduceIte,Nat.reduceAdd,Nat.reduceLT,Nat.reduceLeDiff,Nat.reduceEqDiff,op])]
  rw [am (env':=[some (.f,.lst (ns.map D.int)),some (.f,.tup (nZ.map D.str)),some (.f,eN nZ ps),some (.f,i4 L.length),some (.f,.bl false),some (.f,.lst ((L.map (·.1)).map eM))]) (by
   rw [ym (by rw [hxf,hx];rfl)]
   simp only [pv,↓reduceIte,Nat.reduceAdd,Nat.reduceLT,Nat.reduceLeDiff,Nat.reduceEqDiff,op,hrn,hfl2,Bool.false_eq_true,at1,zP,zQ,List.map_cons,List.map_nil])]
  rw [am (env':=[some (.f,.lst (ns.map D.int)),some (.f,.tup (nZ.map D.str)),some (.f,eN nZ ps),some (.f,i4 L.length),some (.f,.bl false),some (.f,.lst ((L.map (·.1)).map eM))]) (by
   unfold i4 at tt ⊢
   simp only [pv,↓reduceIte,Nat.reduceAdd,Nat.reduceLT,Nat.reduceLeDiff,Nat.reduceEqDiff,op,tt,at0,hin,Bool.not_true,Bool.false_eq_true])]
  unfold i4
  simp only [pv,↓reduceIte,Nat.reduceAdd,Nat.reduceLT,Nat.reduceLeDiff,Nat.reduceEqDiff,op,at0,at1,List.length_map,beq_self_eq_true,Bool.not_false]
  exact ⟨_,rfl⟩
 ·have hd:=hff _ hG
  rw [hG] at hgr
  rcases hrn with ⟨_,hx⟩ | ⟨z,_⟩
  rotate_left
  ·lia
  obtain ⟨n,hnn⟩:∃ n:Nat,(n:Int)=1 + cell ns 2 % 40:=⟨(1 + cell ns 2 % 40).toNat,by lia⟩
  have hgs:=vC nZ ps (by lia) hpk w u a d q1 q2 q3 q4 q5 q6 q7 q8 n (by lia)
  rw [hnn] at hgs
  have tt:o5 "tuple" (grD w u)=true:=rfl
  have hin:nJ (.str [103,114,111,119,115]) (.tup [.str [101,110,100,115],.str [103,114,111,119,115],.str [98,101,121,111,110,100]])=.ok (.f,.bl false):=yw _ [[101,110,100,115],[103,114,111,119,115],[98,101,121,111,110,100]]
  rw [am (env':=[some (.f,.lst (ns.map D.int)),some (.f,.tup (nZ.map D.str)),some (.f,eN nZ ps),some (.f,grD w u),none,none]) (by simp only [pv,↓reduceIte,Nat.reduceAdd,Nat.reduceLT,Nat.reduceLeDiff,Nat.reduceEqDiff,hgr,bw,hd])]
  rw [am (env':=[some (.f,.lst (ns.map D.int)),some (.f,.tup (nZ.map D.str)),some (.f,eN nZ ps),some (.f,grD w u),some (.f,.bl false),none]) (by simp only [pv,↓reduceIte,Nat.reduceAdd,Nat.reduceLT,Nat.reduceLeDiff,Nat.reduceEqDiff])]
  rw [am (env':=[some (.f,.lst (ns.map D.int)),some (.f,.tup (nZ.map D.str)),some (.f,eN nZ ps),some (.f,grD w u),some (.f,.bl false),some (.l .f,.lst [])]) (by simp only [pv,↓reduceIte,Nat.reduceAdd,Nat.reduceLT,Nat.reduceLeDiff,Nat.reduceEqDiff,op])]
  rw [am (env':=[some (.f,.lst (ns.map D.int)),some (.f,.tup (nZ.map D.str)),some (.f,eN nZ ps),some (.f,grD w u),some (.f,.bl true),some (.l .f,.lst [])]) (by
   rw [sH (by rw [hxf,hx];rfl)]
   simp only [pv,↓reduceIte,Nat.reduceAdd,Nat.reduceLT,Nat.reduceLeDiff,Nat.reduceEqDiff])]
  rw [am (env':=[some (.f,.lst (ns.map D.int)),some (.f,.tup (nZ.map D.str)),some (.f,eN nZ ps),some (.f,grD w u),some (.f,.bl true),some (.l .f,.lst [])]) (by
   unfold grD at tt ⊢
   simp only [pv,↓reduceIte,Nat.reduceAdd,Nat.reduceLT,Nat.reduceLeDiff,Nat.reduceEqDiff,op,tt,at0,hin,Bool.not_true,Bool.false_eq_true])]
  rw [am (env':=[some (.f,.lst (ns.map D.int)),some (.f,.tup (nZ.map D.str)),some (.f,eN nZ ps),some (.f,grD w u),some (.f,.bl true),some (.l .f,.lst [])]) (by
   unfold grD
   simp only [pv,↓reduceIte,Nat.reduceAdd,Nat.reduceLT,Nat.reduceLeDiff,Nat.reduceEqDiff,op,at0,te,Bool.false_eq_true])]
  unfold grD
  simp only [pv,↓reduceIte,Nat.reduceAdd,Nat.reduceLT,Nat.reduceLeDiff,Nat.reduceEqDiff,op,at0,at1,at2,beq_self_eq_true,hcl,bw,gq,hm40,hgs,gD]
  exact ⟨_,rfl⟩
 ·have hd:=hff _ hG
  rw [hG] at hgr
  rcases hrn with ⟨_,hx⟩ | ⟨z,_⟩
  rotate_left
  ·lia
  have tt:o5 "tuple" nK=true:=rfl
  have hin:nJ (.str [98,101,121,111,110,100]) (.tup [.str [101,110,100,115],.str [103,114,111,119,115],.str [98,101,121,111,110,100]])=.ok (.f,.bl false):=yw _ [[101,110,100,115],[103,114,111,119,115],[98,101,121,111,110,100]]
  rw [am (env':=[some (.f,.lst (ns.map D.int)),some (.f,.tup (nZ.map D.str)),some (.f,eN nZ ps),some (.f,nK),none,none]) (by simp only [pv,↓reduceIte,Nat.reduceAdd,Nat.reduceLT,Nat.reduceLeDiff,Nat.reduceEqDiff,hgr,bw,hd])]
  rw [am (env':=[some (.f,.lst (ns.map D.int)),some (.f,.tup (nZ.map D.str)),some (.f,eN nZ ps),some (.f,nK),some (.f,.bl false),none]) (by simp only [pv,↓reduceIte,Nat.reduceAdd,Nat.reduceLT,Nat.reduceLeDiff,Nat.reduceEqDiff])]
  rw [am (env':=[some (.f,.lst (ns.map D.int)),some (.f,.tup (nZ.map D.str)),some (.f,eN nZ ps),some (.f,nK),some (.f,.bl false),some (.l .f,.lst [])]) (by simp only [pv,↓reduceIte,Nat.reduceAdd,Nat.reduceLT,Nat.reduceLeDiff,Nat.reduceEqDiff,op])]
  rw [am (env':=[some (.f,.lst (ns.map D.int)),some (.f,.tup (nZ.map D.str)),some (.f,eN nZ ps),some (.f,nK),some (.f,.bl true),some (.l .f,.lst [])]) (by
   rw [sH (by rw [hxf,hx];rfl)]
   simp only [pv,↓reduceIte,Nat.reduceAdd,Nat.reduceLT,Nat.reduceLeDiff,Nat.reduceEqDiff])]
  rw [am (env':=[some (.f,.lst (ns.map D.int)),some (.f,.tup (nZ.map D.str)),some (.f,eN nZ ps),some (.f,nK),some (.f,.bl true),some (.l .f,.lst [])]) (by
   unfold nK at tt ⊢
   simp only [pv,↓reduceIte,Nat.reduceAdd,Nat.reduceLT,Nat.reduceLeDiff,Nat.reduceEqDiff,op,tt,at0,hin,Bool.not_true,Bool.false_eq_true])]
  rw [am (env':=[some (.f,.lst (ns.map D.int)),some (.f,.tup (nZ.map D.str)),some (.f,eN nZ ps),some (.f,nK),some (.f,.bl true),some (.l .f,.lst [])]) (by
   unfold nK
   simp only [pv,↓reduceIte,Nat.reduceAdd,Nat.reduceLT,Nat.reduceLeDiff,Nat.reduceEqDiff,op,at0,tb,Bool.false_eq_true])]
  unfold nK
  simp only [pv,↓reduceIte,Nat.reduceAdd,Nat.reduceLT,Nat.reduceLeDiff,Nat.reduceEqDiff,op,at0,tc,Bool.false_eq_true]
  exact ⟨_,rfl⟩
end LW
namespace FIN
open PySem PySem.Spec PyProof.Rows L2 NX PV LW
theorem yo {l:PySem.W.OpenLaw} {w:World} {K:W.Frag} {h:Heap} {mg:Str→Option Value} {fa f:Addr} {od an:Option Addr} {sl:Array (Option Value)} {oc kV dc pm cd ct:Value} (X:K.In h) (G:h.Ns mainGlobals mg) (hfa:mg "law" = some (.ref fa))
  (aL:PySem.W.nsIn K mainGlobals "law" = some (some (.ref f))) (lL:K.lookup f=some ⟨oc,od,.func (PySem.W.fnOf "law" "law" (dl jV) (bN jV) (defScope jV) .none kV dc pm an cd ct),sl⟩) (cL:PySem.W.codeIn K cd "law" = true) (kL:PySem.W.keepIn K (.ref f)=true)
  (D_first_marking:Def K mg "first_marking" cJ) (D_can_go:Def K mg "can_go" jO) (D_moved:Def K mg "moved" lD) (D_explored:Def K mg "explored" gC) (D_run_of:Def K mg "run_of" hX) (D_covers:Def K mg "covers" jP) (D_nearest_covered:Def K mg "nearest_covered" bZ) (D_growth_of:Def K mg "growth_of" fJ) (D__law_cell_at:Def K mg "_law_cell_at" cY) (D__law_mixed:Def K mg "_law_mixed" eh) (D__law_names:Def K mg "_law_names" ej) (D__law_step:Def K mg "_law_step" fK) (D__law_fold:Def K mg "_law_fold" fL) (D__law_place:Def K mg "_law_place" eA) (D__law_scaled:Def K mg "_law_scaled" dF) (D__law_places:Def K mg "_law_places" dG) (D__law_moves:Def K mg "_law_moves" eB) (D__law_gone:Def K mg "_law_gone" fN) (D__law_grows:Def K mg "_law_grows" eD)
  (g_MOST_STATES:Gi mg "MOST_STATES" (12))
  (z_all:PySem.W.nsIn K mainGlobals "all" = some none) (z_isinstance:PySem.W.nsIn K mainGlobals "isinstance" = some none) (z_len:PySem.W.nsIn K mainGlobals "len" = some none) (z_max:PySem.W.nsIn K mainGlobals "max" = some none) (z_range:PySem.W.nsIn K mainGlobals "range" = some none) (z_sorted:PySem.W.nsIn K mainGlobals "sorted" = some none) (z_tuple:PySem.W.nsIn K mainGlobals "tuple" = some none) (z_zip:PySem.W.nsIn K mainGlobals "zip" = some none) {cl_TooGreat:Addr} (X_TooGreat:PySem.W.nsIn K mainGlobals "TooGreat" = some (some (.ref cl_TooGreat))) (Y_TooGreat:PySem.W.excIn K cl_TooGreat [.type "ValueError",.type "Exception",.type "BaseException",.type "object"] "ValueError.__new__" = true) :
  ∃ fd:FuncData,(∀ (s:Shared) (v:Value),BindsTo s fd ⟨[v],[]⟩ [("_law_script",v)])∧∀ base:Heap,K.In base→base.Ns mainGlobals mg→FnOk l.prog w K mg base CX0 5 fa fd ["_law_script"] (qN K):=by
 have e:=hfa.symm.trans (PySem.W.mg_of X G aL)
 cases e
 have F:=rH (st:=jV) lL cL kL
 have y_all:=PySem.W.mg_none_of X G z_all
 have y_isinstance:=PySem.W.mg_none_of X G z_isinstance
 have y_len:=PySem.W.mg_none_of X G z_len
 have y_max:=PySem.W.mg_none_of X G z_max
 have y_range:=PySem.W.mg_none_of X G z_range
 have y_sorted:=PySem.W.mg_none_of X G z_sorted
 have y_tuple:=PySem.W.mg_none_of X G z_tuple
 have y_zip:=PySem.W.mg_none_of X G z_zip
 refine ⟨PySem.W.fnOf "law" "law" (dl jV) (bN jV) (defScope jV) .none kV dc pm an cd ct,fun s v=>.of_eq rfl,fun base KB GB=>?_⟩
 have x_TooGreat:XCl mg base "TooGreat" cl_TooGreat:=⟨_,_,_,_,PySem.F.excBase_ValueError,wR KB GB X_TooGreat Y_TooGreat⟩
 have c_first_marking:Ct l.prog w K mg base "first_marking" 1 (spF K a9):=g6 D_first_marking y_tuple
 have c_can_go:Ct l.prog w K mg base "can_go" 1 (spF K eS):=px D_can_go y_all y_zip
 have c_moved:Ct l.prog w K mg base "moved" 2 (spF K dZ):=qR D_moved c_can_go y_tuple y_zip
 have c_explored:Ct l.prog w K mg base "explored" 3 (spF K ba):=lE D_explored c_first_marking c_moved g_MOST_STATES y_len
 have c_run_of:Ct l.prog w K mg base "run_of" 4 (spF K eT):=pA D_run_of c_explored g_MOST_STATES y_len
 have cx_run_of:=ny (P:=l.prog) (w:=w) (K:=K) (mg:=mg) (base:=base) D_run_of c_explored x_TooGreat g_MOST_STATES y_len
 have c_covers:Ct l.prog w K mg base "covers" 1 (spF K dC):=pC D_covers y_all y_zip
 have c_nearest_covered:Ct l.prog w K mg base "nearest_covered" 2 (spF K aN):=gm D_nearest_covered c_covers
 have c_growth_of:Ct l.prog w K mg base "growth_of" 4 (spF K bX):=kZ D_growth_of c_explored c_nearest_covered g_MOST_STATES y_len y_range
 have c__law_cell_at:Ct l.prog w K mg base "_law_cell_at" 1 (spF K aq):=iN D__law_cell_at y_len
 have c__law_mixed:Ct l.prog w K mg base "_law_mixed" 1 (spF K aJ):=jQ D__law_mixed
 have c__law_names:Ct l.prog w K mg base "_law_names" 2 (spF K bI):=jR D__law_names c__law_mixed y_range y_sorted
 have c__law_step:Ct l.prog w K mg base "_law_step" 1 (spF K bh):=k4 D__law_step y_tuple y_zip
 have c__law_fold:Ct l.prog w K mg base "_law_fold" 2 (spF K bY):=k7 D__law_fold c__law_mixed
 have c__law_place:Ct l.prog w K mg base "_law_place" 2 (spF K bJ):=jS D__law_place c__law_mixed y_max y_range
 have c__law_scaled:Ct l.prog w K mg base "_law_scaled" 1 (spF K bi):=iX D__law_scaled y_tuple
 have c__law_places:Ct l.prog w K mg base "_law_places" 3 (spF K bj):=iY D__law_places c__law_cell_at c__law_fold c__law_place c__law_scaled y_range
 have c__law_moves:Ct l.prog w K mg base "_law_moves" 3 (spF K bK):=jT D__law_moves c__law_cell_at c__law_names y_tuple
 have c__law_gone:Ct l.prog w K mg base "_law_gone" 2 (spF K bF):=k8 D__law_gone c__law_step
 have c__law_grows:Ct l.prog w K mg base "_law_grows" 3 (spF K bL):=jU D__law_grows c__law_gone y_isinstance y_range y_tuple y_zip
 exact (xE F cx_run_of c__law_cell_at c__law_grows c__law_moves c__law_places c_growth_of c_run_of x_TooGreat y_isinstance y_len y_tuple).imp (xn pU)
end FIN
def PySem.W.Fast.tw792513927382835290:=0
def PySem.W.Fast.tw10142026489727793677:=0
def PySem.W.Fast.tw2483015412907084031:=0
def PySem.W.Fast.tw4368970691880297829:=0
def PySem.W.Fast.tw3077791386537976734:=0
def PySem.W.Fast.tw1153447137143185845:=0
def PySem.W.Fast.tw4144228765088814214:=0
def PySem.W.Fast.tw10841032801210708650:=0
def PySem.W.Fast.tw9286265932210997358:=0
def PySem.W.Fast.tw12531671260003056362:=0
def PySem.W.Fast.tw13075238365937928213:=0
def PySem.W.Fast.tw2338465486161866860:=0
def PySem.W.Fast.tw6573037872336451618:=0
def PySem.W.Fast.tw6653162636098905968:=0
def PySem.W.Fast.tw4048777893668375405:=0
def PySem.W.Fast.tw7152089819812979506:=0
def PySem.W.Fast.tw5173832904079798922:=0
def PySem.W.Fast.tw8224575861394065822:=0
def PySem.W.Fast.tw1801355980454983249:=0
def PySem.W.Fast.tw14363400193661591011:=0
def PySem.W.Fast.tw1433268458237126835:=0
def PySem.W.Fast.tw616557599602354638:=0
def PySem.W.Fast.tw17563878512889604927:=0
def PySem.W.Fast.tw7194077053037441673:=0
def PySem.W.Fast.tw5188682523926915993:=0
def PySem.W.Fast.tw5208448932441477191:=0
open PySem PySem.W PyProof.Rows
set_option maxRecDepth 100000 in
set_option maxHeartbeats 0 in
theorem PySem.Challenge.cw_netfinder_k24_rings_that_grow_holds : PySem.Challenge.rw_netfinder_k24_rings_that_grow.Holds := by
  w_on; o_law; k_head; (case hw => w_witness2)
  k_fill
  refine PV.AJ (l := PySem.Challenge.rw_netfinder_k24_rings_that_grow) (k := 5) (x := "_law_script") rfl rfl ⟨rfl, by decide, by decide⟩ (fun w h Y => PySem.W.kIn_of Y) ?F
  case F =>
    intro w mg fa h KX G hmg
    refine' FIN.yo KX G hmg ?aL ?lL ?cL ?kL ?D_first_marking ?D_can_go ?D_moved ?D_explored ?D_run_of ?D_covers ?D_nearest_covered ?D_growth_of ?D__law_cell_at ?D__law_mixed ?D__law_names ?D__law_step ?D__law_fold ?D__law_place ?D__law_scaled ?D__law_places ?D__law_moves ?D__law_gone ?D__law_grows ?g_MOST_STATES ?z_all ?z_isinstance ?z_len ?z_max ?z_range ?z_sorted ?z_tuple ?z_zip ?X_TooGreat ?Y_TooGreat
    (case aL => k_is); (case lL => k_is); (case cL => k_is); (case kL => k_is)
    (case D_first_marking => (refine' PV.bR KX G ?a ?l ?c ?k; (case a => k_is); (case l => k_is); (case c => k_is); (case k => k_is)))
    (case D_can_go => (refine' PV.bR KX G ?a ?l ?c ?k; (case a => k_is); (case l => k_is); (case c => k_is); (case k => k_is)))
    (case D_moved => (refine' PV.bR KX G ?a ?l ?c ?k; (case a => k_is); (case l => k_is); (case c => k_is); (case k => k_is)))
    (case D_explored => (refine' PV.bR KX G ?a ?l ?c ?k; (case a => k_is); (case l => k_is); (case c => k_is); (case k => k_is)))
    (case D_run_of => (refine' PV.bR KX G ?a ?l ?c ?k; (case a => k_is); (case l => k_is); (case c => k_is); (case k => k_is)))
    (case D_covers => (refine' PV.bR KX G ?a ?l ?c ?k; (case a => k_is); (case l => k_is); (case c => k_is); (case k => k_is)))
    (case D_nearest_covered => (refine' PV.bR KX G ?a ?l ?c ?k; (case a => k_is); (case l => k_is); (case c => k_is); (case k => k_is)))
    (case D_growth_of => (refine' PV.bR KX G ?a ?l ?c ?k; (case a => k_is); (case l => k_is); (case c => k_is); (case k => k_is)))
    (case D__law_cell_at => (refine' PV.bR KX G ?a ?l ?c ?k; (case a => k_is); (case l => k_is); (case c => k_is); (case k => k_is)))
    (case D__law_mixed => (refine' PV.bR KX G ?a ?l ?c ?k; (case a => k_is); (case l => k_is); (case c => k_is); (case k => k_is)))
    (case D__law_names => (refine' PV.bR KX G ?a ?l ?c ?k; (case a => k_is); (case l => k_is); (case c => k_is); (case k => k_is)))
    (case D__law_step => (refine' PV.bR KX G ?a ?l ?c ?k; (case a => k_is); (case l => k_is); (case c => k_is); (case k => k_is)))
    (case D__law_fold => (refine' PV.bR KX G ?a ?l ?c ?k; (case a => k_is); (case l => k_is); (case c => k_is); (case k => k_is)))
    (case D__law_place => (refine' PV.bR KX G ?a ?l ?c ?k; (case a => k_is); (case l => k_is); (case c => k_is); (case k => k_is)))
    (case D__law_scaled => (refine' PV.bR KX G ?a ?l ?c ?k; (case a => k_is); (case l => k_is); (case c => k_is); (case k => k_is)))
    (case D__law_places => (refine' PV.bR KX G ?a ?l ?c ?k; (case a => k_is); (case l => k_is); (case c => k_is); (case k => k_is)))
    (case D__law_moves => (refine' PV.bR KX G ?a ?l ?c ?k; (case a => k_is); (case l => k_is); (case c => k_is); (case k => k_is)))
    (case D__law_gone => (refine' PV.bR KX G ?a ?l ?c ?k; (case a => k_is); (case l => k_is); (case c => k_is); (case k => k_is)))
    (case D__law_grows => (refine' PV.bR KX G ?a ?l ?c ?k; (case a => k_is); (case l => k_is); (case c => k_is); (case k => k_is)))
    (case g_MOST_STATES => (refine' PV.zf KX G ?a; (case a => k_is)))
    (case z_all => k_is)
    (case z_isinstance => k_is)
    (case z_len => k_is)
    (case z_max => k_is)
    (case z_range => k_is)
    (case z_sorted => k_is)
    (case z_tuple => k_is)
    (case z_zip => k_is)
    (case X_TooGreat => k_is); (case Y_TooGreat => k_exc)
