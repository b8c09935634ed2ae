import PyProof.Rows.All
import Wide.All
import OpenK.AllK
import Wide.FinOn
import Lean
import PyProof.EqAt
import PyProof.EqKinds
import PyProof.TupleCall
import PySem.Challenge.RW_netfinder_k34_rings_and_arcs
set_option Elab.async false
set_option linter.all false
set_option maxRecDepth 100000
noncomputable section
namespace L2
open PySem PySem.Spec PyProof.Rows
def IsTupN (h:Heap) (a:Addr) (items:Array Value):Prop:=∃ o,h.get? a=some o∧o.cls=.type "tuple"∧(∃ n,o.data=.seq items n)∧o.dict=none
theorem IsTupN.tup {h:Heap} {a:Addr} {items:Array Value} (p:IsTupN h a items):IsTup h a items:=by
 obtain ⟨o,e,c,n,_⟩:=p
 exact ⟨o,e,c,n⟩
theorem IsTupN.new (h:Heap) (items:Array Value):IsTupN (h.push { cls:=.type "tuple",data:=.seq items }) h.objs.size items:=⟨_,Heap.get?_push_size _ rfl,rfl,⟨_,rfl⟩,rfl⟩
abbrev Key:=Sum Int Str
noncomputable def pP:Key→Value→Bool
 | .inl k,v=>Value.isInt k v
 | .inr x,v=>Value.isStrOf x v
noncomputable def CL (w:World):Key→Int
 | .inl k=>hashInt k
 | .inr x=>hashStr w x
theorem bN:∀ {k:Key} {v:Value},pP k v=true→(∃ i t,k=Sum.inl i∧v=Value.int i t)∨(∃ x t,k=Sum.inr x∧v=Value.str x t)
 | .inl i,v,h=>by
  obtain ⟨t,e⟩:=Value.isInt_shape (k:=i) (v:=v) h
  exact .inl ⟨i,t,rfl,e⟩
 | .inr x,v,h=>by
  obtain ⟨t,e⟩:=Value.isStrOf_shape (x:=x) (v:=v) h
  exact .inr ⟨x,t,rfl,e⟩
theorem qz (i:Int) (t:Tok):pP (.inl i) (.int i t)=true:=by simp [pP,Value.isInt]
theorem qA (x:Str) (t:Tok):pP (.inr x) (.str x t)=true:=by simp [pP,Value.isStrOf]
theorem yE (a b:Int):decide ((Sum.inl a:Key)=Sum.inl b)=(a == b):=by
 by_cases e:a=b
 ·subst e;simp
 ·have h:¬ (Sum.inl a:Key)=Sum.inl b:=fun q=>e (Sum.inl.inj q)
  rw [decide_eq_false h]
  exact (beq_eq_false_iff_ne.mpr e).symm
theorem yF (a b:Str):decide ((Sum.inr a:Key)=Sum.inr b)=decide (a=b):=by
 by_cases e:a=b
 ·subst e;simp
 ·have h:¬ (Sum.inr a:Key)=Sum.inr b:=fun q=>e (Sum.inr.inj q)
  rw [decide_eq_false h,decide_eq_false e]
theorem yG (a:Int) (b:Str):decide ((Sum.inl a:Key)=Sum.inr b)=false:=decide_eq_false (fun q=>nomatch q)
theorem yH (a:Str) (b:Int):decide ((Sum.inr a:Key)=Sum.inl b)=false:=decide_eq_false (fun q=>nomatch q)
noncomputable def mixKind (prog:Program) (w:World):PySem.KeyKind prog w Key where
 is:=pP
 hash:=CL w
 inj:=fun v a b ha hb=>by
  rcases bN ha with ⟨i,t,rfl,rfl⟩ | ⟨x,t,rfl,rfl⟩
  ·rcases bN hb with ⟨j,u,rfl,e⟩ | ⟨y,u,rfl,e⟩
   ·injection e with e1 _;rw [e1]
   ·exact nomatch e
  ·rcases bN hb with ⟨j,u,rfl,e⟩ | ⟨y,u,rfl,e⟩
   ·exact nomatch e
   ·injection e with e1 _;rw [e1]
 byValue:=fun k v h=>by
  rcases bN h with ⟨i,t,rfl,rfl⟩ | ⟨x,t,rfl,rfl⟩ <;> rfl
 pyHash:=fun hv h=>by
  rcases bN hv with ⟨i,t,rfl,rfl⟩ | ⟨x,t,rfl,rfl⟩
  ·exact wpAny_pyHash_int h
  ·exact wpAny_pyHash_str h
 eqBool:=fun hu hv h=>by
  rcases bN hu with ⟨i,t,rfl,rfl⟩ | ⟨x,t,rfl,rfl⟩
  ·rcases bN hv with ⟨j,u,rfl,rfl⟩ | ⟨y,u,rfl,rfl⟩
   ·rw [yE] at h;exact wpAny_eqBool_int h
   ·rw [yG] at h;exact SeqAt.EqAt.int_str i t y u _ _ _ _ h
  ·rcases bN hv with ⟨j,u,rfl,rfl⟩ | ⟨y,u,rfl,rfl⟩
   ·rw [yH] at h;exact SeqAt.EqAt.str_int x t j u _ _ _ _ h
   ·rw [yF] at h;exact wpAny_eqBool_str h
 «strs»:=fun k x t v h=>by
  rcases bN h with ⟨i,u,rfl,e⟩ | ⟨y,u,rfl,e⟩
  ·exact nomatch e
  ·injection e with e1 _
   subst e1
   cases v <;> rfl
theorem m9 (prog:Program) (w:World) (i:Int) (t:Tok):(mixKind prog w).is (.inl i) (.int i t)=true:=qz i t
theorem ng (prog:Program) (w:World) (x:Str) (t:Tok):(mixKind prog w).is (.inr x) (.str x t)=true:=qA x t
inductive V where
 | non | bl (b:Bool) | int (i:Int) | str (x:Str) | byt (b:Array UInt8) | flt (b:UInt64) | ref (a:Addr) | ty (n:String)
 deriving DecidableEq
noncomputable def RelV:V→Value→Prop
 | .non,u=>u=Value.none
 | .bl b,u=>u=Value.bool b
 | .int i,u=>∃ t,u=Value.int i t
 | .str x,u=>∃ t,u=Value.str x t
 | .byt b,u=>∃ t,u=Value.bytes b t
 | .flt b,u=>∃ t,u=Value.float b t
 | .ref a,u=>u=Value.ref a
 | .ty n,u=>u=Value.type n
abbrev Vals:List V→List Value→Prop:=Paired RelV
theorem Vals.length {xs:List V} {us:List Value} (r:Vals xs us):xs.length=us.length:=Paired.length r
theorem Vals.get:∀ {xs:List V} {us:List Value} {i:Nat} {x:V},Vals xs us→xs[i]?=some x→∃ u,us[i]?=some u∧RelV x u
 | _,_,_,_,.nil,e=>by simp at e
 | _,_,0,_,.cons r _,e=>by simp at e;subst e;exact ⟨_,rfl,r⟩
 | _,_,i + 1,x,.cons _ t,e=>by
  obtain ⟨u,h1,h2⟩:=Vals.get (i:=i) (x:=x) t (by simpa using e)
  exact ⟨u,by simpa using h1,h2⟩
theorem Vals.set {x:V} {u:Value} (r:RelV x u):∀ {xs:List V} {us:List Value} (i:Nat),Vals xs us→Vals (xs.set i x) (us.set i u)
 | _,_,_,.nil=>.nil
 | _,_,0,.cons _ t=>.cons r t
 | _,_,i + 1,.cons q t=>.cons q (Vals.set r i t)
theorem Vals.append:∀ {xs ys:List V} {us ws:List Value},Vals xs us→Vals ys ws→Vals (xs++ys) (us++ws)
 | _,_,_,_,.nil,s=>s
 | _,_,_,_,.cons r t,s=>.cons r (Vals.append t s)
theorem Vals.take:∀ {xs:List V} {us:List Value} (n:Nat),Vals xs us→Vals (xs.take n) (us.take n)
 | _,_,0,_=>.nil
 | _,_,_ + 1,.nil=>.nil
 | _,_,n + 1,.cons r t=>.cons r (Vals.take n t)
theorem Vals.drop:∀ {xs:List V} {us:List Value} (n:Nat),Vals xs us→Vals (xs.drop n) (us.drop n)
 | _,_,0,r=>r
 | _,_,_ + 1,.nil=>.nil
 | _,_,n + 1,.cons _ t=>Vals.drop n t
theorem Vals.none_of:∀ {xs:List V} {us:List Value} {i:Nat},Vals xs us→xs[i]?=none→us[i]?=none:=fun {xs us i} r e=>by
 have h1:=r.length
 have h2:xs.length≤i:=List.getElem?_eq_none_iff.mp e
 exact List.getElem?_eq_none_iff.mpr (by lia)
noncomputable def RelO:Option V→Option Value→Prop
 | some v,some u=>RelV v u
 | none,none=>True
 | _,_=>False
noncomputable def KV {κ:Type}:List (κ×V)→List (κ×Value)→Prop:=Paired fun (p:κ×V) (q:κ×Value)=>p.1=q.1∧RelV p.2 q.2
noncomputable def kV:Key→V
 | .inl i=>.int i
 | .inr x=>.str x
inductive HO where
 | lst (xs:List V)
 | tup (xs:List V)
 | dK (kvs:List (Key×V)) | dT (kvs:List (List Key×V))
 | set (S:Int→Bool) (n:Nat)
 | ins (C dx:Addr) (fs:List (Str×V))
 | own (x:Addr)
 | xd (fs:List (Str×V))
 | met (f x:Addr)
 | rng (lo hi:Int)
 | frz (o:Obj) (u:HO)
 | tbl (ps:Array Value)
 | ext (φ:Heap→Prop)
abbrev Hp:=Addr→Option HO
noncomputable def upd (H:Hp) (a:Addr) (o:HO):Hp:=fun b=>if b=a then some o else H b
theorem bj {H:Hp} {a:Addr} {o:HO}:upd H a o a=some o:=by unfold upd;rw [if_pos rfl]
theorem aG {H:Hp} {a b:Addr} {o:HO} (h:b≠a):upd H a o b=H b:=by unfold upd;rw [if_neg h]
theorem Bi {H:Hp} {a b:Addr} {o u:HO} (h:H a=some o) (h':H b=some u) (d:o≠u):a≠b:=by
 intro e;subst e;rw [h] at h';exact d (Option.some.inj h')
theorem aU {H:Hp} {a b:Addr} {o:HO} (h:H a=some o) (h':H b=none):a≠b:=by
 intro e;subst e;rw [h] at h';cases h'
section
variable (P:Program) (w:World)
noncomputable def ObjOk (H:Hp) (h:Heap) (a:Addr):HO→Prop
 | .lst xs=>xs.length≤sizeLine∧∃ (its:List Value) (n:Nat),Vals xs its∧h.get? a=some { cls:=.type "list",data:=.seq its.toArray n }
 | .tup xs=>xs.length≤sizeLine∧∃ its:List Value,Vals xs its∧IsTupN h a its.toArray
 | .dK kvs=>kvs.length≤sizeLine∧(a == sysModules)=false∧∃ vs,KV kvs vs∧h.DictOf (mixKind P w) a vs
 | .dT kvs=>kvs.length≤sizeLine∧(a == sysModules)=false∧∃ xs:List (List Key×Addr×Value),
   Paired (fun (p:List Key×V) (q:List Key×Addr×Value)=>p.1=q.1∧H q.2.1=some (.tup (p.1.map kV))∧RelV p.2 q.2.2) kvs xs∧
   ∃ o es ep,h.get? a=some o∧o.ExactDict∧o.data=.dict es ep∧es.toList=xs.map (entryOfKey (tupleKind (mixKind P w)))∧(xs.map (·.1)).Nodup
 | .set S n=>h.SetOf (intKind P w) a S n
 | .ins C dx fs=>H dx=some (.own a)∧fs.length≤1000∧dx≠a∧h.get? a=some (PySem.W.instObj C dx)∧
   ∃ mA,h.Ns1 dx mA∧(∀ f,RelO (fs.lookup f) (mA f))∧PySem.Within mA (fs.map (·.1))
 | .own _=>∃ o,h.get? a=some o
 | .xd fs=>∃ mA,h.Ns1 a mA∧∀ f,RelO (fs.lookup f) (mA f)
 | .rng lo hi=>∃ t u v,h.get? a=some { cls:=.type "range",data:=.fields #[.int lo t,.int hi u,.int 1 v] }
 | .frz o u=>h.get? a=some o∧ObjOk H h a u
 | .tbl ps=>h.get? a=some { cls:=.none,data:=.fields ps }
 | .met f x=>h.get? a=some (PySem.W.methodObj (.ref f) (.ref x))
 | .ext φ=>φ h∧(∃ o,h.get? a=some o)∧∀ h1 h2:Heap,φ h1→(∀ o,h1.get? a=some o→h2.get? a=some o)→φ h2
def HOk (H:Hp) (h:Heap):Prop:=∀ a o,H a=some o→ObjOk P w H h a o
end
section
variable {P:Program} {w:World} {H H':Hp} {h h':Heap} {a:Addr} {o:HO}
theorem ObjOk.lt (x:ObjOk P w H h a o):a < h.objs.size:=by
 cases o with
 | lst xs=>obtain ⟨_,_,_,_,e⟩:=x;exact Heap.lt_size e
 | tup xs=>obtain ⟨_,_,_,p⟩:=x;exact p.tup.lt
 | dK kvs=>obtain ⟨_,_,_,_,o,_,_,e,_⟩:=x;exact Heap.lt_size e
 | dT kvs=>obtain ⟨_,_,_,_,o,_,_,e,_⟩:=x;exact Heap.lt_size e
 | set S n=>obtain ⟨o,_,_,_,e,_⟩:=x;exact Heap.lt_size e
 | ins C dx fs=>obtain ⟨_,_,_,e,_⟩:=x;exact Heap.lt_size e
 | own y=>obtain ⟨_,e⟩:=x;exact Heap.lt_size e
 | xd fs=>obtain ⟨_,⟨_,_,_,e,_⟩,_⟩:=x;exact Heap.lt_size e
 | rng lo hi=>obtain ⟨_,_,_,e⟩:=x;exact Heap.lt_size e
 | frz ob u=>obtain ⟨e,_⟩:=x;exact Heap.lt_size e
 | tbl ps=>exact Heap.lt_size (show h.get? a=some _ from x)
 | met f y=>exact Heap.lt_size (show h.get? a=some _ from x)
 | ext φ=>obtain ⟨_,⟨_,e⟩,_⟩:=x;exact Heap.lt_size e
theorem Paired.mapP {α β:Type} {F G:α→β→Prop}:∀ {l₁:List α} {l₂:List β},Paired F l₁ l₂→(∀ a b,F a b→G a b)→Paired G l₁ l₂
 | _,_,.nil,_=>.nil
 | _,_,.cons r t,f=>.cons (f _ _ r) (Paired.mapP t f)
theorem ObjOk.stay (x:ObjOk P w H h a o) (k:∀ b u,(b=a∨H b=some (.own a))→h.get? b=some u→h'.get? b=some u)
  (ho:∀ b,H b=some (.own a)→H' b=some (.own a)) (ht:∀ b xs,H b=some (.tup xs)→H' b=some (.tup xs)):ObjOk P w H' h' a o:=by
 induction o with
 | lst xs=>obtain ⟨z,its,n,r,e⟩:=x;exact ⟨z,its,n,r,k _ _ (.inl rfl) e⟩
 | tup xs=>obtain ⟨z,its,r,ob,e,c⟩:=x;exact ⟨z,its,r,ob,k _ _ (.inl rfl) e,c⟩
 | dK kvs=>obtain ⟨z,y,vs,r,ob,es,ep,e,c⟩:=x;exact ⟨z,y,vs,r,ob,es,ep,k _ _ (.inl rfl) e,c⟩
 | dT kvs=>
  obtain ⟨z,y,xs,r,ob,es,ep,e,c⟩:=x
  exact ⟨z,y,xs,Paired.mapP r fun p q z=>⟨z.1,ht _ _ z.2.1,z.2.2⟩,ob,es,ep,k _ _ (.inl rfl) e,c⟩
 | set S n=>obtain ⟨ob,es,ep,t,e,c⟩:=x;exact ⟨ob,es,ep,t,k _ _ (.inl rfl) e,c⟩
 | ins C dx fs=>
  obtain ⟨d,z,ne,e,mA,⟨od,es,ep,e2,c⟩,r⟩:=x
  exact ⟨ho _ d,z,ne,k _ _ (.inl rfl) e,mA,⟨od,es,ep,k _ _ (.inr d) e2,c⟩,r⟩
 | own y=>obtain ⟨ob,e⟩:=x;exact ⟨ob,k _ _ (.inl rfl) e⟩
 | xd fs=>obtain ⟨mA,⟨od,es,ep,e,c⟩,r⟩:=x;exact ⟨mA,⟨od,es,ep,k _ _ (.inl rfl) e,c⟩,r⟩
 | rng lo hi=>obtain ⟨t,u,v,e⟩:=x;exact ⟨t,u,v,k _ _ (.inl rfl) e⟩
 | frz ob u ih=>obtain ⟨e,q⟩:=x;exact ⟨k _ _ (.inl rfl) e,ih q⟩
 | tbl ps=>
  have e:h.get? a=some { cls:=.none,data:=.fields ps }:=x
  show h'.get? a=some { cls:=.none,data:=.fields ps }
  exact k a _ (.inl rfl) e
 | met f y=>
  have e:h.get? a=some (PySem.W.methodObj (.ref f) (.ref y)):=x
  show h'.get? a=some (PySem.W.methodObj (.ref f) (.ref y))
  exact k a _ (.inl rfl) e
 | ext φ=>obtain ⟨p,⟨o,e⟩,st⟩:=x;exact ⟨st _ _ p fun o q=>k _ _ (.inl rfl) q,⟨o,k _ _ (.inl rfl) e⟩,st⟩
theorem HOk.lt (x:HOk P w H h) (e:H a=some o):a < h.objs.size:=(x a o e).lt
theorem HOk.fresh (x:HOk P w H h) (e:h.objs.size≤a):H a=none:=by
 cases q:H a with
 | none=>rfl
 | some u=>exact absurd (Nat.lt_of_lt_of_le (x.lt q) e) (Nat.lt_irrefl _)
theorem HOk.kept (x:HOk P w H h) (k:∀ b u,h.get? b=some u→h'.get? b=some u):HOk P w H h':=fun a o e=>
 (x a o e).stay (fun b u _ q=>k b u q) (fun _ q=>q) fun _ _ q=>q
theorem HOk.laid (x:HOk P w H h) (k:∀ b u,h.get? b=some u→h'.get? b=some u) (hp:h.objs.size≤a) (new:ObjOk P w (upd H a o) h' a o):HOk P w (upd H a o) h':=fun b u e=>by
 have hn:=x.fresh hp
 by_cases hb:b=a
 ·subst hb;rw [bj] at e;cases e;exact new
 ·rw [aG hb] at e
  exact (x b u e).stay (fun c v _ q=>k c v q) (fun c q=>by rw [aG (aU q hn)];exact q) fun c xs q=>by rw [aG (aU q hn)];exact q
end
def Rd (H:Hp) (a:Addr) (u:HO):Prop:=H a=some u∨∃ o,H a=some (.frz o u)
theorem Rd.ok {P:Program} {w:World} {H:Hp} {h:Heap} {a:Addr} {u:HO} (r:Rd H a u) (x:HOk P w H h):ObjOk P w H h a u:=by
 rcases r with r | ⟨o,r⟩
 ·exact x a u r
 ·obtain ⟨_,q⟩:=x a _ r
  exact q
noncomputable def Mut:Option HO→Prop
 | some (.lst _)=>True
 | some (.dK _)=>True
 | some (.dT _)=>True
 | some (.set _ _)=>True
 | some (.ins _ _ _)=>True
 | some (.ext _)=>True
 | _=>False
section
variable {P:Program} {w:World} {H:Hp} {h h':Heap} {x e:Addr} {o':HO}
theorem HOk.write (ok:HOk P w H h) (mu:Mut (H x)) (he:e=x∨H e=some (.own x)) (k:∀ b u,b≠e→h.get? b=some u→h'.get? b=some u) (heo:∃ u,h'.get? e=some u)
  (new:ObjOk P w (upd H x o') h' x o'):HOk P w (upd H x o') h':=fun b u q=>by
 have nown:∀ c y,H c=some (.own y)→c≠x:=fun c y r z=>by subst z;rw [r] at mu;exact mu
 have ntup:∀ c xs,H c=some (.tup xs)→c≠x:=fun c xs r z=>by subst z;rw [r] at mu;exact mu
 by_cases hb:b=x
 ·subst hb;rw [bj] at q;cases q;exact new
 ·rw [aG hb] at q
  by_cases hbe:b=e
  ·have q':H b=some (.own x):=by
    rcases he with z | z
    ·exact absurd (hbe.trans z) hb
    ·rw [hbe];exact z
   rw [q] at q';cases q'
   obtain ⟨v,hv⟩:=heo
   exact ⟨v,by rw [hbe];exact hv⟩
  ·refine (ok b u q).stay (fun c v hc r=>k c v ?_ r) (fun c r=>by rw [aG (nown c b r)];exact r) fun c xs r=>by rw [aG (ntup c xs r)];exact r
   rcases hc with rfl | hc
   ·exact hbe
   ·rintro rfl
    rcases he with z | z
    ·exact nown c b hc z
    ·rw [hc] at z;cases z;exact hb rfl
end
structure Un (fs ex:List Addr) (H H':Hp) (h h':Heap):Prop where
 keep:∀ b o,h.get? b=some o→H b=none→b∉fs→b∉ex→h'.get? b=some o
 slot:∀ b o,h.get? b=some o→H b=none→b∈fs→b∉ex→∃ sl,h'.get? b=some { o with slots:=sl }
 free:∀ b o,h.get? b=some o→H b=none→b∉ex→H' b=none
 there:∀ b o,h.get? b=some o→b∉ex→∃ o',h'.get? b=some o'
 tups:∀ b xs,H b=some (.tup xs)→H' b=some (.tup xs)
 frzs:∀ b o u,H b=some (.frz o u)→H' b=some (.frz o u)
 tbls:∀ b ps,H b=some (.tbl ps)→∃ more,H' b=some (.tbl (ps++more))
section
variable {fs fs' ex ex':List Addr} {H H1 H2:Hp} {h h1 h2 h':Heap} {a x e:Addr} {o:HO}
theorem Un.any (u:Un fs ex H H1 h h1) {b:Addr} {ob:Obj} (q:h.get? b=some ob) (n:H b=none) (hx:b∉ex):∃ sl,h1.get? b=some { ob with slots:=sl }:=by
 by_cases hb:b∈fs
 ·exact u.slot b ob q n hb hx
 ·exact ⟨ob.slots,u.keep b ob q n hb hx⟩
theorem Un.trans (a:Un fs ex H H1 h h1) (b:Un fs ex H1 H2 h1 h2):Un fs ex H H2 h h2 where
 keep:=fun c ob q n hc hx=>b.keep c ob (a.keep c ob q n hc hx) (a.free c ob q n hx) hc hx
 slot:=fun c ob q n hc hx=>by
  obtain ⟨sl,e1⟩:=a.slot c ob q n hc hx
  obtain ⟨sl',e2⟩:=b.slot c _ e1 (a.free c ob q n hx) hc hx
  exact ⟨sl',e2⟩
 free:=fun c ob q n hx=>by
  obtain ⟨o',e1⟩:=a.there c ob q hx
  exact b.free c o' e1 (a.free c ob q n hx) hx
 there:=fun c ob q hx=>by
  obtain ⟨o',e1⟩:=a.there c ob q hx
  exact b.there c o' e1 hx
 tups:=fun c xs q=>b.tups c xs (a.tups c xs q)
 frzs:=fun c ob xs q=>b.frzs c ob xs (a.frzs c ob xs q)
 tbls:=fun c ps q=>by
  obtain ⟨m1,e1⟩:=a.tbls c ps q
  obtain ⟨m2,e2⟩:=b.tbls c _ e1
  exact ⟨m1++m2,by rw [e2,Array.append_assoc]⟩
theorem Un.kept (k:∀ b u,h.get? b=some u→h'.get? b=some u):Un fs ex H H h h':=
 ⟨fun b ob q _ _ _=>k b ob q,fun b ob q _ _ _=>⟨ob.slots,k b ob q⟩,fun _ _ _ n _=>n,fun b ob q _=>⟨ob,k b ob q⟩,fun _ _ q=>q,fun _ _ _ q=>q,fun _ ps q=>⟨#[],by rw [q];simp⟩⟩
theorem Un.refl:Un fs ex H H h h:=Un.kept fun _ _ q=>q
theorem Un.laid (k:∀ b u,h.get? b=some u→h'.get? b=some u) (hp:h.objs.size≤a) (hn:H a=none):Un fs ex H (upd H a o) h h' where
 keep:=fun b u q _ _ _=>k b u q
 slot:=fun b u q _ _ _=>⟨u.slots,k b u q⟩
 free:=fun b u q n _=>by rw [aG (Nat.ne_of_lt (Nat.lt_of_lt_of_le (Heap.lt_size q) hp))];exact n
 there:=fun b u q _=>⟨u,k b u q⟩
 tups:=fun b xs q=>by rw [aG (aU q hn)];exact q
 frzs:=fun b u xs q=>by rw [aG (aU q hn)];exact q
 tbls:=fun b ps q=>⟨#[],by rw [aG (aU q hn),q];simp⟩
theorem Un.write (mu:Mut (H x)) (he:e=x∨H e=some (.own x)) (k:∀ b u,b≠e→h.get? b=some u→h'.get? b=some u) (heo:∃ u,h'.get? e=some u):Un fs ex H (upd H x o) h h':=by
 have hx:∀ b,H b=none→b≠x:=fun b n z=>by subst z;rw [n] at mu;exact mu
 have hb:∀ b,H b=none→b≠e:=fun b n z=>by
  subst z
  rcases he with r | r
  ·exact hx b n r
  ·rw [n] at r;cases r
 have hm:∀ b u,H b=some u→¬ Mut (some u)→b≠x:=fun b u q nm z=>by subst z;rw [q] at mu;exact nm mu
 refine ⟨fun b u q n _ _=>k b u (hb b n) q,fun b u q n _ _=>⟨u.slots,k b u (hb b n) q⟩,fun b u q n _=>by rw [aG (hx b n)];exact n,fun b u q _=>?_,
  fun b xs q=>by rw [aG (hm b _ q fun z=>z)];exact q,fun b u xs q=>by rw [aG (hm b _ q fun z=>z)];exact q,fun b ps q=>⟨#[],by rw [aG (hm b _ q fun z=>z),q];simp⟩⟩
 by_cases hbe:b=e
 ·subst hbe;exact heo
 ·exact ⟨u,k b u hbe q⟩
end
noncomputable def trk (h:Heap) (H:Hp):List Addr:=(List.range h.objs.size).filter fun a=>(H a).isSome
noncomputable def tP (h:Heap) (H:Hp):Heap:=PySem.W.hideAll h (trk h H)
theorem qB (h:Heap) (H:Hp):(tP h H).objs.size=h.objs.size:=PySem.W.hideAll_size _ _
theorem tR {h:Heap} {H:Hp} {b:Addr} {o:Obj} (e:h.get? b=some o) (n:H b=none):(tP h H).get? b=some o:=
 PySem.W.hideAll_get _ e fun hm=>by
  have q:(H b).isSome=true:=(List.mem_filter.mp hm).2
  rw [n] at q;simp at q
theorem wj {h:Heap} {H:Hp} {b:Addr} {o:Obj} (e:(tP h H).get? b=some o):h.get? b=some o∧H b=none:=by
 have e':h.get? b=some o:=PySem.W.of_hideAll (trk h H) e
 refine ⟨e',?_⟩
 cases q:H b with
 | none=>rfl
 | some x=>
  have hm:b∈trk h H:=List.mem_filter.mpr ⟨List.mem_range.mpr (Heap.lt_size e'),by simp [q]⟩
  have z:(tP h H).get? b=none:=PySem.W.hideAll_none (trk h H) hm
  rw [z] at e;cases e
noncomputable def wm (g h:Heap) (L:Addr):List (Addr×Obj):=(List.range h.objs.size).filterMap fun a=>if a=L∨(g.get? a).isSome=true then none else (h.get? a).map fun o=>(a,o)
noncomputable def dh (g h:Heap) (L d:Addr):List (Addr×Obj):=(wm g h L).filter fun p=>decide (p.1≠d)
structure Mod (K:W.Frag) (mg:Str→Option Value) (base:Heap):Prop where
 kin:K.In base
 glob:base.Ns mainGlobals mg
 blt:∃ mb,base.Ns builtinsNs mb∧∀ x:Str,x≠"__name__"→mb x=bootBuiltins x
 nolimit:base.NoLimit
structure Cx where
 prog:Program
 w:World
 K:W.Frag
 mg:Str→Option Value
 base:Heap
 A:Around
 N:List Str
 s₀:Shared
 H₀:Hp
 env:Env
 outer:List Env
 stack:List Env
 ex:List Addr
 fn:Str→Bool
 calm:Bool
 pn:List (Addr×Obj)
 xe:Value→Shared→Prop
noncomputable def frs (l:List Env):List Addr:=l.filterMap (·.frame)
abbrev Cx.fs (X:Cx):List Addr:=frs X.outer
def Vis (sc:Scope) (x:Str):Prop:=sc.names.lookup x=some .local∨sc.names.lookup x=some .cell∨sc.names.lookup x=some .free
def Loc (sc:Scope) (x:Str):Prop:=sc.names.lookup x=some .local∨sc.names.lookup x=some .cell
noncomputable def Cv (sc:Scope) (x:Str):Bool:=match sc.names.lookup x with
 | some .local=>true
 | some .cell=>true
 | _=>false
theorem lo {sc:Scope} {x:Str} (h:Cv sc x=true):Loc sc x:=by
 unfold Cv at h
 split at h
 ·exact .inl (by assumption)
 ·exact .inr (by assumption)
 ·cases h

def CM (env:Env) (h:Heap) (m:Str→Option Value) (x:Str) (u:Value):Prop:=
 (env.kindOf x=some .local∧m x=some u)∨((env.kindOf x=some .cell∨env.kindOf x=some .free)∧∃ c,env.cells.lookup x=some c∧h.IsCell c (some u))
structure Cx.Ok (X:Cx):Prop where
 mod:Mod X.K X.mg X.base
 kind:X.env.scope.kind=.function
 glob:X.env.globals=mainGlobals
 blt:X.env.builtins=builtinsNs
 above:X.s₀.heap.objs.size≤X.env.locals
 inj:∀ x y c,X.env.cells.lookup x=some c→X.env.cells.lookup y=some c→x=y
 has:∀ x,(X.env.kindOf x=some .cell∨X.env.kindOf x=some .free)→∃ c,X.env.cells.lookup x=some c
 cab:∀ x c,X.fn x=true→X.env.cells.lookup x=some c→X.s₀.heap.objs.size≤c
 hd:X.calm=true→X.A.handled=none
 frames:X.A.frames=some X.stack
 stk:X.stack=X.outer∨(X.stack=X.env :: X.outer∧X.env.frame=some X.env.locals)
 exf:∀ b∈X.ex,b≠X.env.locals∧∀ x c,X.env.cells.lookup x=some c→c≠b
 bs:∀ b o,X.base.get? b=some o→X.s₀.heap.get? b=some o∧X.H₀ b=none
 bsz:X.base.objs.size≤X.s₀.heap.objs.size
 noex:∀ b o,X.base.get? b=some o→b∉X.ex
 exfs:∀ b∈X.ex,b∉X.fs
 funs:X.s₀.heap.FunFrames X.base X.outer
 frf:∀ b∈X.fs,X.H₀ b=none
structure Inv (X:Cx) (pins:List (Addr×Obj)) (σ:List (Option V)) (H:Hp) (s:Shared):Prop where
 ok:X.Ok
 os:s.os=X.s₀.os
 bare:AllBare s.gens
 base:Un X.fs X.ex X.H₀ H X.s₀.heap s.heap
 loc:∃ m,s.heap.Ns X.env.locals m∧∀ (i:Nat) (x:Str) (v:V),X.N[i]?=some x→σ[i]?=some (some v)→Vis X.env.scope x→∃ u,RelV v u∧CM X.env s.heap m x u
 cell:∀ x c,X.env.cells.lookup x=some c→∃ v,s.heap.IsCell c v
 free:H X.env.locals=none
 freeC:∀ x c,X.env.cells.lookup x=some c→H c=none
 pin:∀ p∈X.pn++pins,s.heap.get? p.1=some p.2∧H p.1=none∧p.1≠X.env.locals∧p.1∉X.fs∧∀ v,p.2.data≠.cell v
 hok:HOk X.prog X.w H s.heap
 len:σ.length=X.N.length
section
variable {X:Cx} {pins:List (Addr×Obj)} {σ:List (Option V)} {H H':Hp} {s:Shared} {h':Heap}
theorem Cx.Ok.nofr (ok:X.Ok) {b:Addr} {o:Obj} (e:X.base.get? b=some o):b∉X.fs:=fun hb=>by
 have:=(ok.funs.mem hb).1
 rw [e] at this;cases this
theorem Inv.bs (I:Inv X pins σ H s):∀ b o,X.base.get? b=some o→s.heap.get? b=some o∧H b=none:=fun b o e=>
 ⟨I.base.keep b o (I.ok.bs b o e).1 (I.ok.bs b o e).2 (I.ok.nofr e) (I.ok.noex b o e),I.base.free b o (I.ok.bs b o e).1 (I.ok.bs b o e).2 (I.ok.noex b o e)⟩
theorem Inv.bk (I:Inv X pins σ H s):∀ b o,X.base.get? b=some o→s.heap.get? b=some o:=fun b o e=>(I.bs b o e).1
theorem Inv.mod (I:Inv X pins σ H s):Mod X.K X.mg X.base:=I.ok.mod
theorem Inv.kIn (I:Inv X pins σ H s):X.K.In s.heap:=I.ok.mod.kin.keeps I.bk
theorem Inv.lt (I:Inv X pins σ H s):X.env.locals < s.heap.objs.size:=let ⟨_,hn,_⟩:=I.loc;hn.lt
theorem Inv.sz (I:Inv X pins σ H s):X.s₀.heap.objs.size≤s.heap.objs.size:=Nat.le_trans I.ok.above (Nat.le_of_lt I.lt)
theorem Inv.nofs (I:Inv X pins σ H s) {a:Addr} (h:s.heap.objs.size≤a):a∉X.fs:=fun hb=>by
 obtain ⟨_,o,ho,_⟩:=I.ok.funs.mem hb
 exact absurd (Nat.lt_of_lt_of_le (Heap.lt_size ho) (Nat.le_trans I.sz h)) (Nat.lt_irrefl _)
theorem Inv.cne (I:Inv X pins σ H s):∀ x c,X.env.cells.lookup x=some c→c≠X.env.locals:=fun x c e z=>by
 obtain ⟨v,o,ho,hd⟩:=I.cell x c e
 obtain ⟨m,⟨o',es,ep,ho',hd',_⟩,_⟩:=I.loc
 rw [z,ho'] at ho;cases ho;rw [hd'] at hd;cases hd
theorem Inv.funs (I:Inv X pins σ H s):s.heap.FunFrames X.base X.outer:=by
 have all:∀ (l:List Env),(∀ b∈frs l,b∈X.fs)→X.s₀.heap.FunFrames X.base l→s.heap.FunFrames X.base l:=by
  intro l
  induction l with
  | nil=>intro _ _;trivial
  | cons env r ih=>
   intro hs hl
   obtain ⟨hk,⟨L,o,hf,hn,ho,hd⟩,hr⟩:=hl
   have hL:L∈X.fs:=hs L (by unfold frs;rw [List.filterMap_cons,hf];exact List.mem_cons_self)
   obtain ⟨sl,e⟩:=I.base.slot L o ho (I.ok.frf L hL) hL fun z=>I.ok.exfs L z hL
   exact ⟨hk,⟨L,_,hf,hn,e,hd⟩,ih (fun b hb=>hs b (by unfold frs;rw [List.filterMap_cons,hf];exact List.mem_cons_of_mem _ hb)) hr⟩
 exact all X.outer (fun _ hb=>hb) I.ok.funs
theorem Inv.stack (I:Inv X pins σ H s):s.heap.FunFrames X.base X.stack:=by
 rcases I.ok.stk with e | ⟨e,hf⟩
 ·rw [e];exact I.funs
 ·rw [e]
  obtain ⟨m,hn,_⟩:=I.loc
  refine .cons (by rw [I.ok.kind];decide) hf hn ?_ I.funs
  exact Heap.get?_none_of_le (Nat.le_trans I.ok.bsz I.ok.above)
theorem Inv.stkSub (I:Inv X pins σ H s):∀ b∈frs X.stack,b∈X.env.locals :: X.fs:=fun b hb=>by
 rcases I.ok.stk with e | ⟨e,hf⟩
 ·rw [e] at hb;exact List.mem_cons_of_mem _ hb
 ·rw [e] at hb
  unfold frs at hb
  rw [List.filterMap_cons,hf] at hb
  exact hb
theorem Inv.stkFree (I:Inv X pins σ H s):∀ b∈frs X.stack,H b=none:=fun b hb=>by
 rcases List.mem_cons.mp (I.stkSub b hb) with e | hb
 ·rw [e];exact I.free
 ·obtain ⟨_,o,ho,_⟩:=I.ok.funs.mem hb
  exact I.base.free b o ho (I.ok.frf b hb) fun z=>I.ok.exfs b z hb
theorem Inv.step {g':Array GenState} {t':Nat} {d':Drawn} {ch:List Addr} (I:Inv X pins σ H s)
  (hch:∀ b∈ch,(b∈X.ex∨X.s₀.heap.objs.size≤b)∧b≠X.env.locals∧(∀ x c,X.env.cells.lookup x=some c→c≠b)∧∀ p∈X.pn++pins,p.1≠b)
  (keep:∀ b o,b≠X.env.locals→b∉X.fs→b∉ch→s.heap.get? b=some o→H b=none→h'.get? b=some o)
  (slot:∀ b o,b≠X.env.locals→b∈X.fs→b∉ch→s.heap.get? b=some o→H b=none→∃ sl,h'.get? b=some { o with slots:=sl }) (free:∀ b o,b∉ch→s.heap.get? b=some o→H b=none→H' b=none)
  (there:∀ b o,b∉ch→s.heap.get? b=some o→∃ o',h'.get? b=some o')
  (tups:∀ b xs,H b=some (.tup xs)→H' b=some (.tup xs)) (frzs:∀ b o u,H b=some (.frz o u)→H' b=some (.frz o u)) (tbls:∀ b ps,H b=some (.tbl ps)→∃ more,H' b=some (.tbl (ps++more)))
  (ns:∀ m,s.heap.Ns X.env.locals m→h'.Ns X.env.locals m) (hok:HOk X.prog X.w H' h') (hg:AllBare g') :
  Inv X pins σ H' { s with heap:=h',gens:=g',drawn:=d',toks:=t' }:=by
 have neL:∀ b o,X.s₀.heap.get? b=some o→b≠X.env.locals:=fun b o e=>Nat.ne_of_lt (Nat.lt_of_lt_of_le (Heap.lt_size e) I.ok.above)
 have neC:∀ b o,X.s₀.heap.get? b=some o→b∉X.ex→b∉ch:=fun b o e hx hb=>by
  rcases (hch b hb).1 with z | z
  ·exact hx z
  ·exact absurd (Nat.lt_of_lt_of_le (Heap.lt_size e) z) (Nat.lt_irrefl _)
 have cellK:∀ x c,X.env.cells.lookup x=some c→∀ v,s.heap.IsCell c v→h'.IsCell c v:=fun x c e v hq0=>by
  obtain ⟨o,ho,hd⟩:=hq0
  have nch:c∉ch:=fun z=>(hch c z).2.2.1 x c e rfl
  by_cases hc:c∈X.fs
  ·obtain ⟨sl,q⟩:=slot c o (I.cne x c e) hc nch ho (I.freeC x c e)
   exact ⟨_,q,hd⟩
  ·exact ⟨o,keep c o (I.cne x c e) hc nch ho (I.freeC x c e),hd⟩
 refine ⟨I.ok,I.os,hg,⟨fun b o e n hb hx=>?_,fun b o e n hb hx=>?_,fun b o e n hx=>?_,fun b o e hx=>?_,fun b xs e=>tups b xs (I.base.tups b xs e),fun b o xs e=>frzs b o xs (I.base.frzs b o xs e),fun b ps e=>?_⟩,?_,fun x c e=>?_,?_,fun x c e=>?_,fun p hp=>?_,hok,I.len⟩
 ·exact keep b o (neL b o e) hb (neC b o e hx) (I.base.keep b o e n hb hx) (I.base.free b o e n hx)
 ·obtain ⟨sl,e1⟩:=I.base.slot b o e n hb hx
  obtain ⟨sl',e2⟩:=slot b _ (neL b o e) hb (neC b o e hx) e1 (I.base.free b o e n hx)
  exact ⟨sl',e2⟩
 ·obtain ⟨o',e1⟩:=I.base.there b o e hx
  exact free b o' (neC b o e hx) e1 (I.base.free b o e n hx)
 ·obtain ⟨o',e1⟩:=I.base.there b o e hx
  exact there b o' (neC b o e hx) e1
 ·obtain ⟨m1,e1⟩:=I.base.tbls b ps e
  obtain ⟨m2,e2⟩:=tbls b _ e1
  exact ⟨m1++m2,by rw [e2,Array.append_assoc]⟩
 ·obtain ⟨m,hn,hl⟩:=I.loc
  refine ⟨m,ns m hn,fun i x v e1 e2 e3=>?_⟩
  obtain ⟨u,r,l⟩:=hl i x v e1 e2 e3
  refine ⟨u,r,?_⟩
  rcases l with l | ⟨k,c,e,z⟩
  ·exact .inl l
  ·exact .inr ⟨k,c,e,cellK x c e _ z⟩
 ·obtain ⟨v,z⟩:=I.cell x c e
  exact ⟨v,cellK x c e v z⟩
 ·obtain ⟨m,⟨o,_,_,ho,_⟩,_⟩:=I.loc
  exact free _ o (fun z=>(hch _ z).2.1 rfl) ho I.free
 ·obtain ⟨v,o,ho,hd⟩:=I.cell x c e
  exact free c o (fun z=>(hch c z).2.2.1 x c e rfl) ho (I.freeC x c e)
 ·obtain ⟨e,n,ne,nf,d⟩:=I.pin p hp
  have nch:p.1∉ch:=fun z=>(hch p.1 z).2.2.2 p hp rfl
  exact ⟨keep p.1 p.2 ne nf nch e n,free p.1 p.2 nch e n,ne,nf,d⟩
theorem Inv.un {t':Nat} (I:Inv X pins σ H s) (u:Un X.fs [] H H' s.heap h') (hok:HOk X.prog X.w H' h'):Inv X pins σ H' { s with heap:=h',toks:=t' }:=by
 obtain ⟨m,⟨o,es,ep,ho,r⟩,_⟩:=id I.loc
 obtain ⟨sl,hL⟩:=u.any ho I.free (by simp)
 exact I.step (g':=s.gens) (d':=s.drawn) (ch:=[]) (fun _ z=>nomatch z) (fun b o _ hb _ e n=>u.keep b o e n hb (by simp)) (fun b o _ hb _ e n=>u.slot b o e n hb (by simp)) (fun b o _ e n=>u.free b o e n (by simp)) (fun b o _ e=>u.there b o e (by simp)) u.tups u.frzs u.tbls (fun m' hm=>by
  obtain ⟨o',es',ep',ho',r'⟩:=hm
  rw [ho] at ho';cases ho'
  exact ⟨_,es',ep',hL,r'⟩) hok I.bare
theorem Inv.call {g':Array GenState} {t':Nat} {d':Drawn} {ch:List Addr} (I:Inv X pins σ H s) (u:Un (frs X.stack) ch H H' s.heap h') (hok:HOk X.prog X.w H' h') (hg:AllBare g')
  (hch:∀ b∈ch,(b∈X.ex∨X.s₀.heap.objs.size≤b)∧b≠X.env.locals∧(∀ x c,X.env.cells.lookup x=some c→c≠b)∧∀ p∈X.pn++pins,p.1≠b) :
  Inv X pins σ H' { s with heap:=h',gens:=g',drawn:=d',toks:=t' }:=by
 obtain ⟨m,⟨o,es,ep,ho,r⟩,_⟩:=id I.loc
 obtain ⟨sl,hL⟩:=u.any ho I.free fun z=>(hch _ z).2.1 rfl
 exact I.step (ch:=ch) hch (fun b o hL hb hc e n=>u.keep b o e n (fun z=>(List.mem_cons.mp (I.stkSub b z)).elim hL hb) hc) (fun b o _ _ hc e n=>u.any e n hc) (fun b o hc e n=>u.free b o e n hc) (fun b o hc e=>u.there b o e hc) u.tups u.frzs u.tbls (fun m' hm=>by
  obtain ⟨o',es',ep',ho',r'⟩:=hm
  rw [ho] at ho';cases ho'
  exact ⟨_,es',ep',hL,r'⟩) hok hg
theorem Inv.turned {t':Nat} {it:Addr} (I:Inv X pins σ H s) (k:∀ b o,b≠it→s.heap.get? b=some o→h'.get? b=some o) (hn:H it=none) (hL:it≠X.env.locals)
  (h1:it∈X.ex∨X.s₀.heap.objs.size≤it) (h2:∀ x c,X.env.cells.lookup x=some c→c≠it) (h3:∀ p∈X.pn++pins,p.1≠it):Inv X pins σ H { s with heap:=h',toks:=t' }:=by
 have nit:∀ b u,H b=some u→b≠it:=fun b u e z=>by rw [z,hn] at e;cases e
 refine I.step (g':=s.gens) (d':=s.drawn) (ch:=[it]) (fun b hb=>?_) (fun b o _ _ hc e _=>k b o (fun z=>hc (by simp [z])) e) (fun b o _ _ hc e _=>⟨o.slots,k b o (fun z=>hc (by simp [z])) e⟩) (fun _ _ _ _ n=>n)
  (fun b o hc e=>⟨o,k b o (fun z=>hc (by simp [z])) e⟩) (fun _ _ e=>e) (fun _ _ _ e=>e) (fun b ps e=>⟨#[],by rw [e];simp⟩) (fun m hm=>?_) (fun b u e=>?_) I.bare
 ·have e:b=it:=by simpa using hb
  subst e
  exact ⟨h1,hL,h2,h3⟩
 ·obtain ⟨o,es,ep,ho,r⟩:=hm
  exact ⟨o,es,ep,k _ o (Ne.symm hL) ho,r⟩
 ·refine (I.hok b u e).stay (fun c v hc q=>k c v ?_ q) (fun _ q=>q) fun _ _ q=>q
  rcases hc with z | z
  ·rw [z];exact nit b u e
  ·exact nit c _ z
theorem Inv.tok (I:Inv X pins σ H s) (t:Nat):Inv X pins σ H { s with toks:=t }:=I.un (h':=s.heap) (t':=t) Un.refl I.hok
theorem Inv.kept {t':Nat} (I:Inv X pins σ H s) (k:∀ b u,s.heap.get? b=some u→h'.get? b=some u):Inv X pins σ H { s with heap:=h',toks:=t' }:=I.un (Un.kept k) (I.hok.kept k)
theorem Inv.laid {a:Addr} {o:HO} {t':Nat} (I:Inv X pins σ H s) (k:∀ b u,s.heap.get? b=some u→h'.get? b=some u) (hp:s.heap.objs.size≤a) (new:ObjOk X.prog X.w (upd H a o) h' a o) :
  Inv X pins σ (upd H a o) { s with heap:=h',toks:=t' }:=I.un (Un.laid k hp (I.hok.fresh hp)) (I.hok.laid k hp new)
theorem Inv.write {x e:Addr} {o:HO} {t':Nat} (I:Inv X pins σ H s) (mu:Mut (H x)) (he:e=x∨H e=some (.own x)) (k:∀ b u,b≠e→s.heap.get? b=some u→h'.get? b=some u) (heo:∃ u,h'.get? e=some u)
  (new:ObjOk X.prog X.w (upd H x o) h' x o):Inv X pins σ (upd H x o) { s with heap:=h',toks:=t' }:=I.un (Un.write mu he k heo) (I.hok.write mu he k heo new)
theorem Inv.pins_of {pins':List (Addr×Obj)} (I:Inv X pins σ H s) (h:∀ p∈pins',s.heap.get? p.1=some p.2∧H p.1=none∧p.1≠X.env.locals∧p.1∉X.fs∧∀ v,p.2.data≠.cell v):Inv X pins' σ H s:=
 ⟨I.ok,I.os,I.bare,I.base,I.loc,I.cell,I.free,I.freeC,fun p hp=>(List.mem_append.mp hp).elim (fun z=>I.pin p (List.mem_append_left _ z)) (h p),I.hok,I.len⟩
theorem oE {N:List Str} (hN:N.Nodup) {i j:Nat} {x:Str} (a:N[i]?=some x) (b:N[j]?=some x):i=j:=by
 obtain ⟨h1,e1⟩:=List.getElem?_eq_some_iff.mp a
 obtain ⟨h2,e2⟩:=List.getElem?_eq_some_iff.mp b
 exact (List.getElem_inj hN).mp (e1.trans e2.symm)
theorem lP {M:Model} {A:Around} {E:Value→Shared→Prop} {i:Nat} {x:Str} {v:V} {u:Value} {Q:Unit→Shared→Prop} (I:Inv X pins σ H s) (hN:X.N.Nodup) (hi:X.N[i]?=some x) (hx:Loc X.env.scope x) (r:RelV v u)
  (h:∀ s',Inv X pins (σ.set i (some v)) H s'→(∃ a,Heap.SameBut a s.heap s'.heap∧(a=X.env.locals∨X.env.cells.lookup x=some a))→Q () s') (hf:X.fn x=true∨X.env.scope.names.lookup x=some .local:=by first | exact .inl rfl | exact .inr rfl | assumption):wpAny M A (storeName X.env x u) Q E s:=by
 obtain ⟨m,hn,hl⟩:=id I.loc
 have hcls:(X.env.scope.kind == .class || (X.env.scope.kind == .module && X.env.locals != X.env.globals))=false:=by rw [I.ok.kind];rfl
 have hiσ:i < σ.length:=by rw [I.len];exact (List.getElem?_eq_some_iff.mp hi).1
 have cne:=I.cne
 have tracked:∀ {a:Addr} {h':Heap},(∃ o,s.heap.get? a=some o∧H a=none)→Heap.SameBut a s.heap h'→HOk X.prog X.w H h':=fun {a h'} ha hs b ob e=>by
  obtain ⟨_,_,hfree⟩:=ha
  refine (I.hok b ob e).stay (fun c w' hc q=>(hs.2 c ?_).trans q) (fun _ q=>q) fun _ _ q=>q
  rintro rfl
  rcases hc with rfl | hc
  ·rw [hfree] at e;cases e
  ·rw [hfree] at hc;cases hc
 rcases hx with hk | hk
 ·refine wpAny_storeName_local hk hn (fun h' hn' hs=>?_) hcls
  obtain ⟨oL,_,_,hoL,_⟩:=id hn
  refine h _ ⟨I.ok,I.os,I.bare,⟨fun b o e n hb hx=>?_,fun b o e n hb hx=>?_,I.base.free,fun b o e hx=>?_,I.base.tups,I.base.frzs,I.base.tbls⟩,⟨_,hn',fun j y v' e1 e2 e3=>?_⟩,fun y c e=>?_,I.free,I.freeC,fun p hp=>?_,tracked ⟨oL,hoL,I.free⟩ hs,by simpa using I.len⟩ ⟨_,hs,.inl rfl⟩
  ·exact (hs.2 b (Nat.ne_of_lt (Nat.lt_of_lt_of_le (Heap.lt_size e) I.ok.above))).trans (I.base.keep b o e n hb hx)
  ·obtain ⟨sl,e1⟩:=I.base.slot b o e n hb hx
   exact ⟨sl,(hs.2 b (Nat.ne_of_lt (Nat.lt_of_lt_of_le (Heap.lt_size e) I.ok.above))).trans e1⟩
  ·obtain ⟨o',e1⟩:=I.base.there b o e hx
   exact ⟨o',(hs.2 b (Nat.ne_of_lt (Nat.lt_of_lt_of_le (Heap.lt_size e) I.ok.above))).trans e1⟩
  ·by_cases hj:j=i
   ·subst hj
    rw [hi] at e1;cases e1
    rw [List.getElem?_set_self hiσ] at e2
    cases e2
    exact ⟨u,r,.inl ⟨hk,by simp⟩⟩
   ·rw [List.getElem?_set_ne (Ne.symm hj)] at e2
    obtain ⟨u',r',q⟩:=hl j y v' e1 e2 e3
    refine ⟨u',r',?_⟩
    rcases q with ⟨k,e⟩ | ⟨k,c,e,z⟩
    ·refine .inl ⟨k,?_⟩
     have:y≠x:=fun e=>hj (oE hN e1 (e▸hi))
     simp [this,e]
    ·exact .inr ⟨k,c,e,z.sameBut hs (cne y c e)⟩
  ·obtain ⟨w',z⟩:=I.cell y c e
   exact ⟨w',z.sameBut hs (cne y c e)⟩
  ·obtain ⟨e,n,ne,nf,d⟩:=I.pin p hp
   exact ⟨(hs.2 p.1 ne).trans e,n,ne,nf,d⟩
 ·have hfn:X.fn x=true:=by
   rcases hf with z | z
   ·exact z
   ·rw [z] at hk;cases hk
  obtain ⟨c,hc⟩:=I.ok.has x (.inl hk)
  obtain ⟨w',z⟩:=I.cell x c hc
  refine wpAny_storeName_cell I.ok.kind hk hc z (fun h' hc' hs=>?_)
  obtain ⟨oc,hoc,hocd⟩:=id z
  refine h { s with heap:=h' } ⟨I.ok,I.os,I.bare,⟨fun b o e n hb hx=>?_,fun b o e n hb hx=>?_,I.base.free,fun b o e hx=>?_,I.base.tups,I.base.frzs,I.base.tbls⟩,⟨m,hn.sameBut hs (Ne.symm (cne x c hc)),fun j y v' e1 e2 e3=>?_⟩,fun y c' e=>?_,I.free,I.freeC,fun p hp=>?_,tracked ⟨oc,hoc,I.freeC x c hc⟩ hs,by simpa using I.len⟩ ⟨c,hs,.inr hc⟩
  ·exact (hs.2 b (Nat.ne_of_lt (Nat.lt_of_lt_of_le (Heap.lt_size e) (I.ok.cab x c hfn hc)))).trans (I.base.keep b o e n hb hx)
  ·obtain ⟨sl,e1⟩:=I.base.slot b o e n hb hx
   exact ⟨sl,(hs.2 b (Nat.ne_of_lt (Nat.lt_of_lt_of_le (Heap.lt_size e) (I.ok.cab x c hfn hc)))).trans e1⟩
  ·obtain ⟨o',e1⟩:=I.base.there b o e hx
   exact ⟨o',(hs.2 b (Nat.ne_of_lt (Nat.lt_of_lt_of_le (Heap.lt_size e) (I.ok.cab x c hfn hc)))).trans e1⟩
  ·by_cases hj:j=i
   ·subst hj
    rw [hi] at e1;cases e1
    rw [List.getElem?_set_self hiσ] at e2
    cases e2
    exact ⟨u,r,.inr ⟨.inl hk,c,hc,hc'⟩⟩
   ·rw [List.getElem?_set_ne (Ne.symm hj)] at e2
    obtain ⟨u',r',q⟩:=hl j y v' e1 e2 e3
    refine ⟨u',r',?_⟩
    rcases q with q | ⟨k,c',e,z'⟩
    ·exact .inl q
    ·refine .inr ⟨k,c',e,z'.sameBut hs ?_⟩
     rintro rfl
     exact hj (oE hN e1 (I.ok.inj _ _ _ e hc▸hi))
  ·by_cases hcc:c'=c
   ·subst hcc;exact ⟨_,hc'⟩
   ·obtain ⟨w2,z2⟩:=I.cell y c' e
    exact ⟨w2,z2.sameBut hs hcc⟩
  ·obtain ⟨e,n,ne,nf,d⟩:=I.pin p hp
   refine ⟨(hs.2 p.1 ?_).trans e,n,ne,nf,d⟩
   intro q
   rw [q,hoc] at e
   have q':oc=p.2:=Option.some.inj e
   exact d w' (by rw [←q'];exact hocd)
theorem oF {M:Model} {A:Around} {E:Value→Shared→Prop} {i:Nat} {x:Str} {v:V} {u:Value} {Q:Unit→Shared→Prop} (I:Inv X pins σ H s) (hN:X.N.Nodup) (hi:X.N[i]?=some x) (hx:Loc X.env.scope x) (r:RelV v u)
  (h:∀ s',Inv X pins (σ.set i (some v)) H s'→Q () s') (hf:X.fn x=true∨X.env.scope.names.lookup x=some .local:=by first | exact .inl rfl | exact .inr rfl | assumption):wpAny M A (storeName X.env x u) Q E s:=
 lP I hN hi hx r (fun s' I' _=>h s' I') hf
theorem Inv.call' {s':Shared} {ch:List Addr} (I:Inv X pins σ H s) (ho:s'.os=s.os) (u:Un (frs X.stack) ch H H' s.heap s'.heap) (hok:HOk X.prog X.w H' s'.heap) (hg:AllBare s'.gens)
  (hch:∀ b∈ch,(b∈X.ex∨X.s₀.heap.objs.size≤b)∧b≠X.env.locals∧(∀ x c,X.env.cells.lookup x=some c→c≠b)∧∀ p∈X.pn++pins,p.1≠b):Inv X pins σ H' s':=by
 obtain ⟨h',g',d',t',o'⟩:=s'
 have e:o'=s.os:=ho
 subst e
 exact I.call (g':=g') (t':=t') (d':=d') u hok hg hch
end
abbrev XK:=Value→Option Addr→Hp→Prop
abbrev St:=List (Option V)
abbrev VK:=V→Hp→Prop
abbrev TE:=St→Hp→VK→Prop
abbrev TT:=St→Hp→(Bool→Hp→Prop)→Prop
abbrev TA:=St→Hp→(List V→Hp→Prop)→Prop
structure Ends where
 nx:St→Hp→Prop
 rt:VK
 bk:St→Hp→Prop:=fun _ _=>False
 ct:St→Hp→Prop:=fun _ _=>False
abbrev TS:=Ends→St→Hp→Prop
def EP (X:Cx) (pins:List (Addr×Obj)) (σ:St) (Q:VK) (u:Value) (s':Shared):Prop:=∃ v H',Inv X pins σ H' s'∧RelV v u∧Q v H'
def TP (X:Cx) (pins:List (Addr×Obj)) (σ:St) (Q:Bool→Hp→Prop) (b:Bool) (s':Shared):Prop:=∃ H',Inv X pins σ H' s'∧Q b H'
def AP (X:Cx) (pins:List (Addr×Obj)) (σ:St) (Q:List V→Hp→Prop) (us:List Value) (s':Shared):Prop:=∃ vs H',Inv X pins σ H' s'∧Vals vs us∧Q vs H'
def SP (X:Cx) (pins:List (Addr×Obj)) (D:Ends) (f:Flow) (s':Shared):Prop:=
 match f with
 | .next=>∃ σ' H',Inv X pins σ' H' s'∧D.nx σ' H'
 | .brk=>∃ σ' H',Inv X pins σ' H' s'∧D.bk σ' H'
 | .cont=>∃ σ' H',Inv X pins σ' H' s'∧D.ct σ' H'
 | .ret u=>∃ v σ' H',Inv X pins σ' H' s'∧RelV v u∧D.rt v H'
def PE (X:Cx) (e:Expr) (t:TE):Prop:=
 ∀ (pins:List (Addr×Obj)) (s:Shared) (σ:St) (H:Hp) (Q:VK),Inv X pins σ H s→t σ H Q→wpAny (model X.prog X.w) X.A (eval e X.env) (EP X pins σ Q) X.xe s
def PT (X:Cx) (e:Expr) (t:TT):Prop:=
 ∀ (pins:List (Addr×Obj)) (s:Shared) (σ:St) (H:Hp) (Q:Bool→Hp→Prop),Inv X pins σ H s→t σ H Q→wpAny (model X.prog X.w) X.A (isTrue e X.env (eval e X.env)) (TP X pins σ Q) X.xe s
def PW (X:Cx) (e:Expr) (t:TT):Prop:=
 ∀ (whole:Sem Value) (pins:List (Addr×Obj)) (s:Shared) (σ:St) (H:Hp) (Q:Bool→Hp→Prop),Inv X pins σ H s→t σ H Q→wpAny (model X.prog X.w) X.A (isTrue e X.env whole) (TP X pins σ Q) X.xe s
theorem PW.pt {X:Cx} {e:Expr} {t:TT} (h:PW X e t):PT X e t:=h _
def PA (X:Cx) (es:List Expr) (t:TA):Prop:=
 ∀ (pos:Pos) (pins:List (Addr×Obj)) (s:Shared) (σ:St) (H:Hp) (Q:List V→Hp→Prop),Inv X pins σ H s→t σ H Q→wpAny (model X.prog X.w) X.A (spliced (backTo pos (starEach es X.env))) (AP X pins σ Q) X.xe s
def PS (X:Cx) (st:Stmt) (t:TS):Prop:=
 ∀ (pins:List (Addr×Obj)) (s:Shared) (σ:St) (H:Hp) (D:Ends),Inv X pins σ H s→t D σ H→wpAny (model X.prog X.w) X.A (exec st X.env) (SP X pins D) X.xe s
def PSs (X:Cx) (st:List Stmt) (t:TS):Prop:=
 ∀ (pins:List (Addr×Obj)) (s:Shared) (σ:St) (H:Hp) (D:Ends),Inv X pins σ H s→t D σ H→wpAny (model X.prog X.w) X.A (execs st X.env) (SP X pins D) X.xe s
theorem thn {α:Type} {t:Sem α} {Q Q':α→Shared→Prop} {M:Model} {A:Around} {E:Value→Shared→Prop} {s:Shared} (h:wpAny M A t Q E s) (hQ:∀ a s,Q a s→Q' a s):wpAny M A t Q' E s:=wpAny_mono h hQ fun _ _ x=>x
section
variable {X:Cx}
theorem bin {a b:Expr} {ta tb:TE} (ha:PE X a ta) (hb:PE X b tb) {pins:List (Addr×Obj)} {s:Shared} {σ:St} {H:Hp} {R:V→V→Hp→Prop} (I:Inv X pins σ H s) (h:ta σ H fun x H1=>tb σ H1 fun y H2=>R x y H2)
  {α:Type} {Q:α→Shared→Prop} {f:Value→Value→Sem α}
  (hf:∀ v u s2 x y H2,Inv X pins σ H2 s2→RelV x v→RelV y u→R x y H2→wpAny (model X.prog X.w) X.A (f v u) Q X.xe s2) :
  wpAny (model X.prog X.w) X.A (eval a X.env) (fun v s₁=>wpAny (model X.prog X.w) X.A (eval b X.env) (fun u s₂=>wpAny (model X.prog X.w) X.A (f v u) Q X.xe s₂) X.xe s₁) X.xe s:=by
 refine thn (ha pins s σ H _ I h) fun v s1 hqq=>?_
 obtain ⟨x,H1,I1,r1,q1⟩:=hqq
 refine thn (hb pins s1 σ H1 _ I1 q1) fun u s2 hqq=>?_
 obtain ⟨y,H2,I2,r2,q2⟩:=hqq
 exact hf v u s2 x y H2 I2 r1 r2 q2
noncomputable def tJ (i:Nat):TE:=fun σ H Q=>∃ v,σ[i]?=some (some v)∧Q v H
noncomputable def tC (v:V):TE:=fun _ H Q=>Q v H
theorem yI {i:Nat} {x:Str} {pos:Pos} (hN:X.N[i]?=some x) (hv:Vis X.env.scope x) (hd:(x == ("__debug__" : Str))=false:=by decide) (hcd:(x == ("__classdict__" : Str))=false:=by decide):PE X (.Name x pos) (tJ i):=by
 intro pins s σ H Q I h
 obtain ⟨v,e,h⟩:=h
 obtain ⟨m,hn,hl⟩:=I.loc
 obtain ⟨u,r,l⟩:=hl i x v hN e hv
 have fin:EP X pins σ Q u s:=⟨v,H,I,r,h⟩
 rcases l with ⟨hk,hm⟩ | ⟨hk,c,hc,hcell⟩
 ·exact wpAny_Name (wpAny_loadName_local I.ok.kind hk hn hm fin) hd
 ·rcases hk with hk | hk
  ·exact wpAny_Name (wpAny_loadName_cell I.ok.kind hk hc hcell fin) hd
  ·exact wpAny_Name (wpAny_loadName_free I.ok.kind hk hc hcell fin hcd) hd
theorem yJ {i j pos}:PE X (.Constant (.int i) j pos) (tC (.int i)):=fun _ _ _ H _ I h=>wpAny_Constant_int ⟨.int i,H,I.tok _,⟨_,rfl⟩,h⟩
theorem Bj {b j pos}:PE X (.Constant (.bool b) j pos) (tC (.bl b)):=fun _ _ _ H _ I h=>Constant_bool ⟨.bl b,H,I,rfl,h⟩
theorem yK {j pos}:PE X (.Constant .none j pos) (tC .non):=fun _ _ _ H _ I h=>Constant_none ⟨.non,H,I,rfl,h⟩
theorem yL {x j pos}:PE X (.Constant (.str x) j pos) (tC (.str x)):=fun _ _ _ H _ I h=>Calls.Constant_str ⟨.str x,H,I.tok _,⟨_,rfl⟩,h⟩
def Gl (X:Cx) (x:Str):Prop:=X.env.kindOf x=some .globalImplicit
theorem wo {E:Value→Shared→Prop} {pins:List (Addr×Obj)} {s:Shared} {σ:St} {H:Hp} {x:Str} {u:Value} {pos:Pos} {Q:Value→Shared→Prop} (I:Inv X pins σ H s) (hg:Gl X x) (hm:X.mg x=some u) (h:Q u s)
  (hd:(x == ("__debug__" : Str))=false:=by decide):wpAny (model X.prog X.w) X.A (eval (.Name x pos) X.env) Q E s:=
 Calls.Name_function_global I.ok.kind hg (Calls.loadGlobal_global (by rw [I.ok.glob];exact I.mod.glob.keeps I.bk) hm h) hd
theorem jr {E:Value→Shared→Prop} {pins:List (Addr×Obj)} {s:Shared} {σ:St} {H:Hp} {x:Str} {u:Value} {pos:Pos} {Q:Value→Shared→Prop} (I:Inv X pins σ H s) (hg:Gl X x) (hm:X.mg x=none) (hv:bootBuiltins x=some u) (h:Q u s)
  (hn:x≠"__name__":=by decide) (hd:(x == ("__debug__" : Str))=false:=by decide):wpAny (model X.prog X.w) X.A (eval (.Name x pos) X.env) Q E s:=by
 obtain ⟨mb,h1,h2⟩:=I.mod.blt
 exact Calls.Name_function_global I.ok.kind hg (Calls.loadGlobal_builtin (by rw [I.ok.glob];exact I.mod.glob.keeps I.bk) hm (by rw [I.ok.blt];exact h1.keeps I.bk) ((h2 x hn).trans hv) h) hd
theorem wq {x:Str} {v:V} {u:Value} {pos:Pos} (hg:Gl X x) (hm:X.mg x=none) (hv:bootBuiltins x=some u) (r:RelV v u) (hn:x≠"__name__":=by decide) (hd:(x == ("__debug__" : Str))=false:=by decide):PE X (.Name x pos) (tC v):=
 fun _ _ _ H _ I h=>jr I hg hm hv ⟨v,H,I,r,h⟩ hn hd
variable {a b:Expr} {ta tb:TE} {pos:Pos}
def PC (X:Cx) (op:CmpOp) (a b:Expr) (t:TE):Prop:=
 ∀ (pins:List (Addr×Obj)) (s:Shared) (σ:St) (H:Hp) (Q:VK),Inv X pins σ H s→t σ H Q→
  wpAny (model X.prog X.w) X.A (eval a X.env) (fun v s₁=>wpAny (model X.prog X.w) X.A (eval b X.env) (fun u s₂=>wpAny (model X.prog X.w) X.A (compareOp op v u) (EP X pins σ Q) X.xe s₂) X.xe s₁) X.xe s
theorem tS (b:Expr) {op:CmpOp} (h:op≠.In) (h2:op≠.NotIn):behindInMarks op b=false:=by
 have e1:(op == CmpOp.In)=false:=by cases op <;> first | rfl | exact absurd rfl h
 have e2:(op == CmpOp.NotIn)=false:=by cases op <;> first | rfl | exact absurd rfl h2
 cases b <;> simp [behindInMarks,e1,e2]
noncomputable def tB (t:TE):TT:=fun σ H Q=>t σ H fun x H1=>∃ c,x=.bl c∧Q c H1
theorem Cw {op:CmpOp} {t:TE} (h:PC X op a b t) (h1:behindInMarks op b=false:=by first | exact tS _ (by decide) (by decide) | rfl):PT X (.Compare a [op] [b] pos) (tB t):=by
 intro pins s σ H Q I hw
 refine wpAny_isTrue_Compare1 (thn (h pins s σ H _ I hw) fun v s1 h1=>thn h1 fun u s2 h2=>thn h2 fun c s3 ⟨x,H1,I1,r1,q1⟩=>?_) h1
 obtain ⟨d,rfl,q⟩:=q1
 cases r1
 exact wpAny_truthy_bool ⟨H1,I1,q⟩
theorem yM {e:Expr} {t:TE} (h:PE X e t) (he:∀ whole,isTrue e X.env whole=(do let v ←whole;standAt e.pos;holding [v] (truthy v)):=by intro _;rfl):PT X e (tB t):=by
 intro pins s σ H Q I hw
 refine isTrue_plain (thn (h pins s σ H _ I hw) fun v s1 ⟨x,H1,I1,r1,q1⟩=>?_) (he _)
 obtain ⟨d,rfl,q⟩:=q1
 cases r1
 exact wpAny_truthy_bool ⟨H1,I1,q⟩
variable {tA tB':TT} {dh:List Expr}
noncomputable def CN (t u:TT):TT:=fun σ H Q=>t σ H fun c H1=>if c=true then u σ H1 Q else Q false H1
noncomputable def tOr (t u:TT):TT:=fun σ H Q=>t σ H fun c H1=>if c=true then Q true H1 else u σ H1 Q
noncomputable def CO (t:TT):TT:=fun σ H Q=>t σ H fun c H1=>Q (!c) H1
theorem wt (ha:PT X a tA):PW X (.BoolOp .And [a] pos) tA:=by
 intro wh pins s σ H Q I h
 refine isTrue_and (thn (ha pins s σ H Q I h) fun c s1 e=>?_)
 cases c with
 | true=>exact isTrue_and_nil e
 | false=>exact e
theorem yN (ha:PT X a tA):PW X (.BoolOp .Or [a] pos) tA:=by
 intro wh pins s σ H Q I h
 refine isTrue_or (thn (ha pins s σ H Q I h) fun c s1 e=>?_)
 cases c with
 | false=>exact isTrue_or_nil e
 | true=>exact e
theorem yO (ha:PT X a tA) (hb:PW X (.BoolOp .And (b :: dh) pos) tB'):PW X (.BoolOp .And (a :: b :: dh) pos) (CN tA tB'):=by
 intro wh pins s σ H Q I h
 refine isTrue_and (thn (ha pins s σ H _ I h) fun c s1 hqq=>?_)
 obtain ⟨H1,I1,q1⟩:=hqq
 cases c with
 | true=>exact hb wh pins s1 σ H1 Q I1 q1
 | false=>exact ⟨H1,I1,q1⟩
theorem Bk (ha:PT X a tA) (hb:PW X (.BoolOp .Or (b :: dh) pos) tB'):PW X (.BoolOp .Or (a :: b :: dh) pos) (tOr tA tB'):=by
 intro wh pins s σ H Q I h
 refine isTrue_or (thn (ha pins s σ H _ I h) fun c s1 hqq=>?_)
 obtain ⟨H1,I1,q1⟩:=hqq
 cases c with
 | true=>exact ⟨H1,I1,q1⟩
 | false=>exact hb wh pins s1 σ H1 Q I1 q1
theorem yP (ha:PT X a tA):PT X (.UnaryOp .Not a pos) (CO tA):=by
 intro pins s σ H Q I h
 exact isTrue_not (ha pins s σ H (fun c H1=>Q (!c) H1) I h)
noncomputable def Bl (ta tb:TE):TE:=fun σ H Q=>ta σ H fun x H1=>∃ c,x=.bl c∧if c=true then tb σ H1 Q else Q (.bl false) H1
noncomputable def Bm (ta:TE):TE:=fun σ H Q=>ta σ H fun x H1=>∃ c,x=.bl c∧Q (.bl (!c)) H1
theorem yQ {op} {t:TE} (h:PE X a t):PE X (.BoolOp op [a] pos) t:=fun pins s σ H Q I hw=>BoolOp_one (h pins s σ H Q I hw)
theorem yR (ha:PE X a ta) (hb:PE X (.BoolOp .And (b :: dh) pos) tb):PE X (.BoolOp .And (a :: b :: dh) pos) (Bl ta tb):=by
 intro pins s σ H Q I h
 refine BoolOp_and (thn (ha pins s σ H _ I h) fun v s1 hqq=>?_)
 obtain ⟨x,H1,I1,r1,q1⟩:=hqq
 obtain ⟨c,rfl,q1⟩:=q1
 cases r1
 refine wpAny_truthy_bool ?_
 cases c with
 | true=>exact hb pins s1 σ H1 Q I1 q1
 | false=>exact ⟨.bl false,H1,I1,rfl,q1⟩
theorem yS (ha:PE X a ta):PE X (.UnaryOp .Not a pos) (Bm ta):=by
 intro pins s σ H Q I h
 refine UnaryOp_ (thn (ha pins s σ H _ I h) fun v s1 hqq=>?_)
 obtain ⟨x,H1,I1,r1,q1⟩:=hqq
 obtain ⟨c,rfl,q1⟩:=q1
 cases r1
 exact not_of (wpAny_truthy_bool ⟨.bl (!c),H1,I1,rfl,q1⟩)
end
def SqL (K:W.Frag) (H:Hp) (a:Addr) (xs:List V):Prop:=
 Rd H a (.lst xs)∨
  ∃ (o:Obj) (its:Array Value) (n:Nat),K.lookup a=some o∧o.cls=.type "list"∧o.dict=none∧o.data=.seq its n∧its.size≤sizeLine∧Vals xs its.toList
def SqT (K:W.Frag) (H:Hp) (a:Addr) (xs:List V):Prop:=
 Rd H a (.tup xs)∨
  ∃ (o:Obj) (its:Array Value) (n:Nat),K.lookup a=some o∧o.cls=.type "tuple"∧o.dict=none∧o.data=.seq its n∧its.size≤sizeLine∧Vals xs its.toList
noncomputable def CP:Value→Option V
 | .none=>some .non
 | .bool b=>some (.bl b)
 | .int i _=>some (.int i)
 | .str x _=>some (.str x)
 | .bytes b _=>some (.byt b)
 | .float b _=>some (.flt b)
 | .ref a=>some (.ref a)
 | .type n=>some (.ty n)
 | _=>none
theorem RelV.abs {x:V} {u:Value} (r:RelV x u):CP u=some x:=by
 cases x with
 | non=>cases r;rfl
 | bl _=>cases r;rfl
 | int _=>obtain ⟨t,rfl⟩:=r;rfl
 | str _=>obtain ⟨t,rfl⟩:=r;rfl
 | byt _=>obtain ⟨t,rfl⟩:=r;rfl
 | flt _=>obtain ⟨t,rfl⟩:=r;rfl
 | ref _=>cases r;rfl
 | ty _=>cases r;rfl
theorem RelV.inj {x y:V} {u:Value} (r:RelV x u) (q:RelV y u):x=y:=Option.some.inj (r.abs.symm.trans q.abs)
theorem Vals.inj:∀ {xs ys:List V} {us:List Value},Vals xs us→Vals ys us→xs=ys
 | _,_,_,.nil,.nil=>rfl
 | _,_,_,.cons r t,.cons r' t'=>by rw [r.inj r',Vals.inj t t']
section
variable {X:Cx} {pins:List (Addr×Obj)} {σ:St} {H:Hp} {s:Shared} {a:Addr} {xs ys:List V}
theorem SqL.of {K:W.Frag} (h:H a=some (.lst xs)):SqL K H a xs:=.inl (.inl h)
theorem SqT.of {K:W.Frag} (h:H a=some (.tup xs)):SqT K H a xs:=.inl (.inl h)
theorem Inv.list (I:Inv X pins σ H s) (h:SqL X.K H a xs):∃ its:List Value,Vals xs its∧PlainL s.heap a its.toArray∧xs.length≤sizeLine:=by
 rcases h with h | ⟨o,its,n,hk,hc,hd,hs,hz,r⟩
 ·obtain ⟨z,its,n,r,e⟩:=h.ok I.hok
  exact ⟨its,r,⟨_,n,e,rfl,rfl,rfl⟩,z⟩
 ·refine ⟨its.toList,r,⟨o,n,I.kIn a o hk,hc,hd,by simpa using hs⟩,?_⟩
  have e:=r.length
  simp only [Array.length_toList] at e
  lia
theorem Inv.tupleN (I:Inv X pins σ H s) (h:SqT X.K H a xs):∃ its:List Value,Vals xs its∧IsTupN s.heap a its.toArray∧xs.length≤sizeLine:=by
 rcases h with h | ⟨o,its,n,hk,hc,hdn,hs,hz,r⟩
 ·obtain ⟨z,its,r,p⟩:=h.ok I.hok
  exact ⟨its,r,p,z⟩
 ·refine ⟨its.toList,r,⟨o,I.kIn a o hk,hc,⟨n,by simpa using hs⟩,hdn⟩,?_⟩
  have e:=r.length
  simp only [Array.length_toList] at e
  lia
theorem Inv.tuple (I:Inv X pins σ H s) (h:SqT X.K H a xs):∃ its:List Value,Vals xs its∧IsTup s.heap a its.toArray∧xs.length≤sizeLine:=by
 obtain ⟨its,r,p,z⟩:=I.tupleN h
 exact ⟨its,r,p.tup,z⟩
theorem Inv.list_inj (I:Inv X pins σ H s) (h:SqL X.K H a xs) (h':SqL X.K H a ys):xs=ys:=by
 obtain ⟨its,r,⟨o,n,e,_,_,d⟩,_⟩:=I.list h
 obtain ⟨its',r',⟨o',n',e',_,_,d'⟩,_⟩:=I.list h'
 rw [e] at e';cases e'
 rw [d] at d'
 injection d' with d1 _
 have:its=its':=by simpa using congrArg Array.toList d1
 subst this
 exact r.inj r'
theorem Inv.tuple_inj (I:Inv X pins σ H s) (h:SqT X.K H a xs) (h':SqT X.K H a ys):xs=ys:=by
 obtain ⟨its,r,⟨o,e,_,n,d⟩,_⟩:=I.tuple h
 obtain ⟨its',r',⟨o',e',_,n',d'⟩,_⟩:=I.tuple h'
 rw [e] at e';cases e'
 rw [d] at d'
 injection d' with d1 _
 have:its=its':=by simpa using congrArg Array.toList d1
 subst this
 exact r.inj r'
end
abbrev Cx.wish (X:Cx) (E:Value→Shared→Prop):Cx:={ X with xe:=E }
abbrev Cx.nox (X:Cx):Cx:=X.wish fun _ _=>False
theorem Cx.Ok.wish {X:Cx} (ok:X.Ok) (E:Value→Shared→Prop):(X.wish E).Ok:=
 ⟨ok.mod,ok.kind,ok.glob,ok.blt,ok.above,ok.inj,ok.has,ok.cab,ok.hd,ok.frames,ok.stk,ok.exf,ok.bs,ok.bsz,ok.noex,ok.exfs,ok.funs,ok.frf⟩
theorem Cx.Ok.unwish {X:Cx} {E:Value→Shared→Prop} (ok:(X.wish E).Ok):X.Ok:=
 ⟨ok.mod,ok.kind,ok.glob,ok.blt,ok.above,ok.inj,ok.has,ok.cab,ok.hd,ok.frames,ok.stk,ok.exf,ok.bs,ok.bsz,ok.noex,ok.exfs,ok.funs,ok.frf⟩
section
variable {X:Cx} {pins:List (Addr×Obj)} {σ:St} {H:Hp} {s:Shared} {E:Value→Shared→Prop}
theorem Inv.wish (I:Inv X pins σ H s) (E:Value→Shared→Prop):Inv (X.wish E) pins σ H s:=⟨I.ok.wish E,I.os,I.bare,I.base,I.loc,I.cell,I.free,I.freeC,I.pin,I.hok,I.len⟩
theorem Inv.unwish (I:Inv (X.wish E) pins σ H s):Inv X pins σ H s:=⟨I.ok.unwish,I.os,I.bare,I.base,I.loc,I.cell,I.free,I.freeC,I.pin,I.hok,I.len⟩
theorem SP.unwish {D:Ends} {f:Flow} {s':Shared} (h:SP (X.wish E) pins D f s'):SP X pins D f s':=by
 cases f with
 | next=>obtain ⟨σ',H',I,q⟩:=h;exact ⟨σ',H',I.unwish,q⟩
 | brk=>obtain ⟨σ',H',I,q⟩:=h;exact ⟨σ',H',I.unwish,q⟩
 | cont=>obtain ⟨σ',H',I,q⟩:=h;exact ⟨σ',H',I.unwish,q⟩
 | ret u=>obtain ⟨v,σ',H',I,r,q⟩:=h;exact ⟨v,σ',H',I.unwish,r,q⟩
theorem PSs.nox {st:List Stmt} {t:TS} (h:PSs X.nox st t):PSs X st t:=fun pins s σ H D I hw=>
 wpAny_mono (h pins s σ H D (I.wish _) hw) (fun _ _ q=>q.unwish) fun _ _ z=>False.elim z
end
section
variable {X:Cx} {st:Stmt} {dh:List Stmt} {t u:TS} {e:Expr} {te:TE} {pos:Pos}
noncomputable def Bn:TS:=fun D σ H=>D.nx σ H
noncomputable def CQ (t u:TS):TS:=fun D σ H=>t { D with nx:=u D } σ H
theorem wu:PSs X [] Bn:=fun _ _ σ H _ I h=>wpAny_execs_nil ⟨σ,H,I,h⟩
theorem tU (h1:PS X st t) (h2:PSs X dh u):PSs X (st :: dh) (CQ t u):=by
 intro pins s σ H D I h
 refine wpAny_execs_cons (thn (h1 pins s σ H { D with nx:=u D } I h) fun f s1 q=>?_)
 cases f with
 | next=>
  obtain ⟨σ',H',I',q⟩:=q
  exact h2 pins s1 σ' H' D I' q
 | ret v=>exact q
 | brk=>exact q
 | cont=>exact q
theorem wx (h1:PS X st t):PSs X [st] t:=by
 intro pins s σ H D I h
 refine wpAny_execs_cons (thn (h1 pins s σ H D I h) fun f s1 q=>?_)
 cases f with
 | next=>exact wpAny_execs_nil q
 | ret v=>exact q
 | brk=>exact q
 | cont=>exact q
theorem Inv.quiet {pins:List (Addr×Obj)} {σ:St} {H:Hp} {s:Shared} (I:Inv X pins σ H s):interactive X.env=false:=by simp [interactive,I.ok.kind]
noncomputable def Bo (te:TE):TS:=fun D σ H=>te σ H fun _ H1=>D.nx σ H1
theorem wy (he:PE X e te) (hs:swapsWith e none pos.line X.env=pure false:=by rfl):PS X (.Expr e pos) (Bo te):=by
 intro pins s σ H D I h
 exact wpAny_Expr_any (thn (he pins s σ H _ I h) fun v s1 ⟨x,H1,I1,r1,q1⟩=>⟨σ,H1,I1,q1⟩) I.quiet hs
noncomputable def CS (te:TE):TS:=fun D σ H=>te σ H D.rt
theorem vz (he:PE X e te):PS X (.Return (some e) pos) (CS te):=by
 intro pins s σ H D I h
 exact wpAny_Return_some (thn (he pins s σ H _ I h) fun v s1 ⟨x,H1,I1,r1,q1⟩=>⟨x,σ,H1,I1,r1,q1⟩)
noncomputable def CT (c:TT) (t u:TS):TS:=fun D σ H=>c σ H fun b H1=>if b=true then t D σ H1 else u D σ H1
theorem Bp {c:Expr} {a b:List Stmt} {tc:TT} (hc:PT X c tc) (ha:PSs X a t) (hb:PSs X b u):PS X (.If c a b pos) (CT tc t u):=by
 intro pins s σ H D I h
 refine wpAny_If (thn (hc pins s σ H _ I h) fun d s1 hqq=>?_)
 obtain ⟨H1,I1,q1⟩:=hqq
 cases d with
 | true=>exact ha pins s1 σ H1 D I1 q1
 | false=>exact hb pins s1 σ H1 D I1 q1
end
abbrev TG:=V→St→Hp→(St→Hp→Prop)→Prop
abbrev TGs:=List V→St→Hp→(St→Hp→Prop)→Prop
def PG (X:Cx) (target:Expr) (t:TG):Prop:=
 ∀ (pins:List (Addr×Obj)) (s:Shared) (σ:St) (H:Hp) (v:V) (u:Value) (Q:St→Hp→Prop),Inv X pins σ H s→RelV v u→t v σ H Q→
  wpAny (model X.prog X.w) X.A (assign target X.env u) (fun _ s'=>∃ σ' H',Inv X pins σ' H' s'∧Q σ' H') X.xe s
def PGs (X:Cx) (ts:List Expr) (t:TGs):Prop:=
 ∀ (pins:List (Addr×Obj)) (s:Shared) (σ:St) (H:Hp) (vs:List V) (us:List Value) (Q:St→Hp→Prop),Inv X pins σ H s→Vals vs us→t vs σ H Q→
  wpAny (model X.prog X.w) X.A (assignInOrder ((assignEach ts X.env).map (·.2)) us) (fun _ s'=>∃ σ' H',Inv X pins σ' H' s'∧Q σ' H') X.xe s
abbrev CU:=V→V→V→Hp→(Hp→Prop)→Prop
def CV (X:Cx) (t:CU):Prop:=
 ∀ (pins:List (Addr×Obj)) (s:Shared) (σ:St) (H:Hp) (o i v:V) (ov iv u:Value) (Q:Hp→Prop),Inv X pins σ H s→RelV o ov→RelV i iv→RelV v u→t o i v H Q→
  wpAny (model X.prog X.w) X.A (setItem ov iv u) (fun _ s'=>∃ H',Inv X pins σ H' s'∧Q H') X.xe s
section
variable {X:Cx} {pos:Pos}
noncomputable def yT (i:Nat):TG:=fun v σ H Q=>Q (σ.set i (some v)) H
theorem wz {i:Nat} {x:Str} (hN:X.N.Nodup) (hi:X.N[i]?=some x) (hx:Loc X.env.scope x) (hf:X.fn x=true∨X.env.scope.names.lookup x=some .local:=by first | exact .inl rfl | exact .inr rfl | assumption):PG X (.Name x pos) (yT i):=by
 intro pins s σ H v u Q I r h
 exact wpAny_assign_Name (oF I hN hi hx r (fun s' I'=>⟨_,H,I',h⟩) hf)
noncomputable def CW:TGs:=fun vs σ H Q=>vs=[]∧Q σ H
noncomputable def Bq (t:TG) (u:TGs):TGs:=fun vs σ H Q=>∃ v r,vs=v :: r∧t v σ H fun σ' H'=>u r σ' H' Q
theorem wA:PGs X [] CW:=by
 intro pins s σ H vs us Q I r h
 obtain ⟨e,h⟩:=h
 subst e
 cases r
 exact assignInOrder_nil ⟨σ,H,I,h⟩
theorem tV {e:Expr} {es:List Expr} {t:TG} {u:TGs} (h1:PG X e t) (h2:PGs X es u)
  (hs:(assignEach (e :: es) X.env).map (·.2)=assign e X.env :: (assignEach es X.env).map (·.2):=by rfl):PGs X (e :: es) (Bq t u):=by
 intro pins s σ H vs us Q I r h
 obtain ⟨v,vr,e1,h⟩:=h
 subst e1
 cases r with
 | cons r rr=>
  rw [hs]
  refine assignInOrder_cons (thn (h1 pins s σ H _ _ _ I r h) fun _ s1 hqq=>?_)
  obtain ⟨σ1,H1,I1,q1⟩:=hqq
  exact h2 pins s1 σ1 H1 _ _ Q I1 rr q1
noncomputable def CY (K:W.Frag) (n:Nat) (t:TGs):TG:=fun v σ H Q=>∃ a xs,v=.ref a∧SqT K H a xs∧xs.length=n∧t xs σ H Q
theorem yU {es:List Expr} {k:Nat} {t:TGs} {n:Nat} (hc:X.calm=true) (h:PGs X es t)
  (hn:(assignEach es X.env).length=n:=by rfl) (hst:(assignEach es X.env).findIdx? (·.1)=none:=by rfl):PG X (.Tuple es k pos) (CY X.K n t):=by
 intro pins s σ H v u Q I r hw
 obtain ⟨a,xs,e1,hq,hl,hw⟩:=hw
 subst e1
 cases r
 obtain ⟨its,rv,ht,hz⟩:=I.tuple hq
 refine assign_Tuple_tuple (I.ok.hd hc) ht (by simp [hn,←hl,rv.length]) hst fun h' hx=>?_
 have I1:Inv X pins σ H { s with heap:=h' }:=I.kept (t':=s.toks) fun b o e=>hx b o (Nat.ne_of_lt (Heap.lt_size e)) e
 exact h pins _ σ H xs _ Q I1 (by simpa using rv) hw
noncomputable def Cy (te:TE) (g:TG):TS:=fun D σ H=>te σ H fun x H1=>g x σ H1 D.nx
theorem yV {tg e:Expr} {te:TE} {g:TG} (he:PE X e te) (hg:PG X tg g) (hs:swapsWithSole [tg] e pos.line X.env=pure false:=by rfl) (hw:swappedStores [tg] e X.env=pure none:=by rfl)
  (h1:(assignEach [tg] X.env).map (·.2)=[assign tg X.env]:=by rfl):PS X (.Assign [tg] e pos) (Cy te g):=by
 intro pins s σ H D I h
 refine wpAny_Assign_stores (thn (he pins s σ H _ I h) fun v s1 ⟨x,H1,I1,r1,q1⟩=>?_) hs hw
 rw [h1]
 exact thn (hg pins s1 σ H1 x v _ I1 r1 q1) fun _ s2 q=>q
theorem yW {i:Nat} {x:Str} {e:Expr} {te:TE} {pos':Pos} (hN:X.N.Nodup) (hi:X.N[i]?=some x) (hx:Loc X.env.scope x) (he:PE X e te) (hs:swapsWith e (some (.Name x pos')) pos.line X.env=pure false:=by rfl) (hf:X.fn x=true∨X.env.scope.names.lookup x=some .local:=by first | exact .inl rfl | exact .inr rfl | assumption) :
  PS X (.Assign [.Name x pos'] e pos) (Cy te (yT i)):=by
 intro pins s σ H D I h
 refine wpAny_Assign_Name (thn (he pins s σ H _ I h) fun v s1 ⟨y,H1,I1,r1,q1⟩=>?_) hs
 exact oF I1 hN hi hx r1 (fun s2 I2=>⟨_,H1,I2,q1⟩) hf
end
section
variable {X:Cx} {pos:Pos}
noncomputable def yX (c:TT) (tb:TS):TS:=fun D σ H=>∃ W:Nat→St→Hp→Prop,(∃ m,W m σ H)∧∀ m σ H,W m σ H→
 c σ H fun b H1=>if b=true then ∃ N:St→Hp→Prop,(∀ σ' H',N σ' H'→∃ m',m' < m∧W m' σ' H')∧tb { D with nx:=N,ct:=N,bk:=D.nx } σ H1 else D.nx σ H1
theorem tW {c:Expr} {body:List Stmt} {tc:TT} {tb:TS} (hp:PassesOwn (model X.prog X.w) X.A X.env X.xe) (hc:PT X c tc) (hb:PSs X body tb):PS X (.While c body [] pos) (yX tc tb):=by
 intro pins s σ H D I h
 obtain ⟨W,⟨m0,w0⟩,turn⟩:=h
 refine wpAny_While (codeAny_whileLoop (fun n s'=>∃ σ' H',Inv X pins σ' H' s'∧W n σ' H') ?_ m0 ⟨σ,H,I,w0⟩)
 rintro n s1 ⟨σ1,H1,I1,w1⟩
 refine wpAny_passesOwn hp (thn (hc pins s1 σ1 H1 _ I1 (turn n σ1 H1 w1)) fun b s2 hqq=>?_)
 obtain ⟨H2,I2,q2⟩:=hqq
 cases b with
 | true=>
  obtain ⟨N,hN,q2⟩:=q2
  rw [if_pos rfl]
  refine wpAny_passesOwn hp (thn (hb pins s2 σ1 H2 _ I2 q2) fun f s3 q3=>?_)
  cases f with
  | next=>
   obtain ⟨σ3,H3,I3,n3⟩:=q3
   obtain ⟨m',hm,w3⟩:=hN σ3 H3 n3
   exact ⟨m',hm,σ3,H3,I3,w3⟩
  | cont=>
   obtain ⟨σ3,H3,I3,n3⟩:=q3
   obtain ⟨m',hm,w3⟩:=hN σ3 H3 n3
   exact ⟨m',hm,σ3,H3,I3,w3⟩
  | brk=>exact q3
  | ret v=>exact q3
 | false=>
  rw [if_neg Bool.false_ne_true]
  exact wpAny_execs_nil ⟨σ1,H2,I2,q2⟩
end
structure It where
 go:Nat→Hp→Prop
 yld:Nat→Hp→V→Hp→Prop
 stop:Nat→Hp→Prop
def qv (X:Cx) (pins:List (Addr×Obj)) (H:Hp) (b:Addr):Prop:=
 H b=none∧b≠X.env.locals∧b∉X.fs∧(b∈X.ex∨X.s₀.heap.objs.size≤b)∧(∀ x c,X.env.cells.lookup x=some c→c≠b)∧∀ p∈X.pn++pins,p.1≠b
theorem Inv.fpOk {X:Cx} {pins:List (Addr×Obj)} {σ:St} {H H':Hp} {s:Shared} {b:Addr} (I:Inv X pins σ H s) (hb:s.heap.objs.size≤b) (hn:H' b=none):qv X pins H' b:=by
 refine ⟨hn,Nat.ne_of_gt (Nat.lt_of_lt_of_le I.lt hb),I.nofs hb,.inr (Nat.le_trans I.sz hb),fun x c e z=>?_,fun p hp z=>?_⟩
 ·obtain ⟨v,q⟩:=I.cell x c e
  exact absurd (Nat.lt_of_lt_of_le q.lt (by rw [z];exact hb)) (Nat.lt_irrefl _)
 ·exact absurd (Nat.lt_of_lt_of_le (Heap.lt_size (I.pin p hp).1) (by rw [z];exact hb)) (Nat.lt_irrefl _)
structure Turn (P:Program) (w:World) (K:W.Frag) (tg:Expr) (J:It) (fp:List Addr) (it:Addr) (tn:Nat→Heap→Prop):Prop where
 mem:it∈fp
 obj:∀ i h,tn i h→∀ b∈fp,∃ o,h.get? b=some o∧∀ v,o.data≠.cell v
 keep:∀ i h h',tn i h→(∀ b∈fp,∀ o,h.get? b=some o→h'.get? b=some o)→tn i h'
 item:∀ (X:Cx),X.prog=P→X.w=w→X.K=K→X.calm=true→∀ (i:Nat) (pins:List (Addr×Obj)) (s:Shared) (σ:St) (H:Hp) (E:Value→Shared→Prop),Inv X pins σ H s→(∀ b∈fp,qv X pins H b)→tn i s.heap→J.go i H→
  wpAny (model P w) X.A (pyNext (.ref it)) (fun r s1=>∃ u,r=some u∧
   wpAny (model P w) X.A (letOwnedTupleGo tg (.ref it) u) (fun _ s2=>∃ x H',Inv X pins σ H' s2∧RelV x u∧J.yld i H x H'∧tn (i + 1) s2.heap∧∀ b∈fp,H' b=none) E s1) E s
 done:∀ (X:Cx),X.prog=P→X.w=w→X.K=K→X.calm=true→∀ (i:Nat) (pins:List (Addr×Obj)) (s:Shared) (σ:St) (H:Hp) (E:Value→Shared→Prop),Inv X pins σ H s→(∀ b∈fp,qv X pins H b)→tn i s.heap→J.stop i H→
  wpAny (model P w) X.A (pyNext (.ref it)) (fun r s1=>r=none∧Inv X pins σ H s1) E s
 self:∀ (A:Around) (i:Nat) (s:Shared) (Q:Value→Shared→Prop) (E:Value→Shared→Prop),tn i s.heap→Q (.ref it) s→wpAny (model P w) A (pyIter (.ref it)) Q E s
abbrev TI:=St→Hp→(It→Hp→Prop)→Prop
def PIE (X:Cx) (pins:List (Addr×Obj)) (σ:St) (tg:Expr) (R:It→Hp→Prop) (itv:Value) (s2:Shared):Prop:=
 ∃ (it:Addr) (fp:List Addr) (tn:Nat→Heap→Prop) (J:It) (H':Hp),itv=.ref it∧Inv X pins σ H' s2∧Turn X.prog X.w X.K tg J fp it tn∧tn 0 s2.heap∧(∀ b∈fp,qv X pins H' b)∧R J H'
def PI (X:Cx) (tg iter:Expr) (wi:TI):Prop:=
 ∀ (pins:List (Addr×Obj)) (s:Shared) (σ:St) (H:Hp) (R:It→Hp→Prop),Inv X pins σ H s→wi σ H R→
  wpAny (model X.prog X.w) X.A (eval iter X.env) (fun v s1=>wpAny (model X.prog X.w) X.A (pyIter v) (PIE X pins σ tg R) X.xe s1) X.xe s
theorem tX {M : Model} {A : Around} {E : Value → Shared → Prop} {s : Shared} {tg : Expr} {it : Addr} {u : Value} {o : Obj} {n : String} {vs : Array Value} {Q : Unit → Shared → Prop} (ho : s.heap.get? it = some o) (hc : o.cls = .type n) (hd : o.data = .fields vs)
    (hn : ["enumerate", "zip", "dict_itemiterator", "dict_reverseitemiterator", "odict_iterator", "itertools.zip_longest", "itertools.pairwise"].contains n = false) (hQ : Q () s) : wpAny M A (letOwnedTupleGo tg (.ref it) u) Q E s := by
  unfold letOwnedTupleGo
  cases tg <;> first
    | exact wpAny_pure hQ
    | (cases u <;> first
        | exact wpAny_pure hQ
        | (refine wpAny_bind (wpAny_load ho ?_)
           rw [hc, hd]
           show wpAny M A (if (["enumerate", "zip", "dict_itemiterator", "dict_reverseitemiterator", "odict_iterator", "itertools.zip_longest", "itertools.pairwise"].contains n && vs[0]? == some (rawInt _)) = true then _ else _) Q E s
           rw [if_neg (by intro h; rw [hn, Bool.false_and] at h; cases h)]
           exact wpAny_pure hQ))
noncomputable def Itl (K:W.Frag) (a:Addr):It:=
 ⟨fun i H=>∃ xs x,SqL K H a xs∧xs[i]?=some x,fun i H x H'=>H'=H∧∀ xs,SqL K H a xs→xs[i]?=some x,fun i H=>∃ xs,SqL K H a xs∧xs.length≤i⟩
noncomputable def Itt (K:W.Frag) (a:Addr):It:=
 ⟨fun i H=>∃ xs x,SqT K H a xs∧xs[i]?=some x,fun i H x H'=>H'=H∧∀ xs,SqT K H a xs→xs[i]?=some x,fun i H=>∃ xs,SqT K H a xs∧xs.length≤i⟩
noncomputable def Itr (lo:Int) (n:Nat):It:=⟨fun i _=>i < n,fun i H x H'=>H'=H∧x=.int (lo + i),fun i _=>n≤i⟩
theorem qC {P:Program} {w:World} {K:W.Frag} {tg:Expr} (a it:Addr):Turn P w K tg (Itl K a) [it] it (fun i h=>h.IsListIter it a i) where
 mem:=by simp
 obj:=fun i h st b hb=>by
  have e:b=it:=by simpa using hb
  subst e
  obtain ⟨o,e,c,d⟩:=st
  exact ⟨o,e,fun v z=>by rw [d] at z;cases z⟩
 keep:=fun i h h' st k=>st.at fun o e=>k it (by simp) o e
 item:=by
  intro X hP hw hK hc i pins s σ H E I hf st hg
  subst hP hw hK
  obtain ⟨xs,x,hq,hx⟩:=hg
  obtain ⟨its,rv,p,hz⟩:=I.list hq
  obtain ⟨u,hu,ru⟩:=rv.get hx
  obtain ⟨f0,f1,f2,f3,f4,f5⟩:=hf it (by simp)
  refine wpAny_pyNext_list_item st p.isList (x:=u) (by simpa using hu) fun h' st' sb=>?_
  have I1:Inv X pins σ H { s with heap:=h' }:=I.turned (t':=s.toks) (fun b o hb e=>(sb.2 b hb).trans e) f0 f1 f3 f4 f5
  obtain ⟨o,e,c,d⟩:=id st'
  exact ⟨u,rfl,tX (s:={ s with heap:=h' }) e c d (by decide) ⟨x,H,I1,ru,⟨rfl,fun ys hy=>by rw [I.list_inj hy hq];exact hx⟩,st',fun b hb=>(hf b hb).1⟩⟩
 done:=by
  intro X hP hw hK hc i pins s σ H E I hf st hg
  subst hP hw hK
  obtain ⟨xs,hq,hx⟩:=hg
  obtain ⟨its,rv,p,hz⟩:=I.list hq
  obtain ⟨f0,f1,f2,f3,f4,f5⟩:=hf it (by simp)
  have hl:=rv.length
  exact wpAny_pyNext_list_end (I.ok.hd hc) st p.isList (by simp;lia) fun h' eb=>⟨rfl,I.turned (t':=s.toks) (fun b o hb e=>eb b o hb e) f0 f1 f3 f4 f5⟩
 self:=fun _ _ _ _ _ st h=>wpAny_pyIter_listiter st h
theorem pQ {P:Program} {w:World} {K:W.Frag} {tg:Expr} (a it:Addr):Turn P w K tg (Itt K a) [it] it (fun i h=>h.IsTupleIter it a i) where
 mem:=by simp
 obj:=fun i h st b hb=>by
  have e:b=it:=by simpa using hb
  subst e
  obtain ⟨o,e,c,d⟩:=st
  exact ⟨o,e,fun v z=>by rw [d] at z;cases z⟩
 keep:=fun i h h' st k=>st.at fun o e=>k it (by simp) o e
 item:=by
  intro X hP hw hK hc i pins s σ H E I hf st hg
  subst hP hw hK
  obtain ⟨xs,x,hq,hx⟩:=hg
  obtain ⟨its,rv,p,hz⟩:=I.tuple hq
  obtain ⟨u,hu,ru⟩:=rv.get hx
  obtain ⟨f0,f1,f2,f3,f4,f5⟩:=hf it (by simp)
  refine wpAny_pyNext_tuple_item st (show s.heap.IsTuple a its.toArray from p) (x:=u) (by simpa using hu) fun h' st' sb=>?_
  have I1:Inv X pins σ H { s with heap:=h' }:=I.turned (t':=s.toks) (fun b o hb e=>(sb.2 b hb).trans e) f0 f1 f3 f4 f5
  obtain ⟨o,e,c,d⟩:=id st'
  exact ⟨u,rfl,tX (s:={ s with heap:=h' }) e c d (by decide) ⟨x,H,I1,ru,⟨rfl,fun ys hy=>by rw [I.tuple_inj hy hq];exact hx⟩,st',fun b hb=>(hf b hb).1⟩⟩
 done:=by
  intro X hP hw hK hc i pins s σ H E I hf st hg
  subst hP hw hK
  obtain ⟨xs,hq,hx⟩:=hg
  obtain ⟨its,rv,p,hz⟩:=I.tuple hq
  obtain ⟨f0,f1,f2,f3,f4,f5⟩:=hf it (by simp)
  have hl:=rv.length
  exact wpAny_pyNext_tuple_end (I.ok.hd hc) st (show s.heap.IsTuple a its.toArray from p) (by simp;lia) fun h' eb=>⟨rfl,I.turned (t':=s.toks) (fun b o hb e=>eb b o hb e) f0 f1 f3 f4 f5⟩
 self:=fun _ _ _ _ _ st h=>wpAny_pyIter_tupleiter st h
theorem pR {P:Program} {w:World} {K:W.Frag} {tg:Expr} (it:Addr) (lo:Int) (n:Nat):Turn P w K tg (Itr lo n) [it] it (fun i h=>IsRangeIter h it (lo + (i:Nat) * 1) ((n:Int) - (i:Nat)) 1) where
 mem:=by simp
 obj:=fun i h st b hb=>by
  have e:b=it:=by simpa using hb
  subst e
  exact ⟨_,st,fun v z=>by
   have z':Data.fields _=Data.cell v:=z
   cases z'⟩
 keep:=fun i h h' st k=>k it (by simp) _ st
 item:=by
  intro X hP hw hK hc i pins s σ H E I hf st hg
  subst hP hw hK
  obtain ⟨f0,f1,f2,f3,f4,f5⟩:=hf it (by simp)
  have W:=Walks.range (prog:=X.prog) (w:=X.w) (I.ok.hd hc) it lo 1 n
  refine W.item i s _ _ hg st fun v h' tk hv st' kk=>?_
  obtain ⟨t,rfl⟩:=hv
  have I1:Inv X pins σ H { s with heap:=h',toks:=tk }:=I.turned (fun b o hb e=>kk b o (by simpa using hb) e) f0 f1 f3 f4 f5
  refine ⟨_,rfl,tX (s:={ s with heap:=h',toks:=tk }) (n:="range_iterator") st' rfl rfl (by decide) ⟨.int (lo + i),H,I1,⟨t,?_⟩,⟨rfl,rfl⟩,st',fun b hb=>(hf b hb).1⟩⟩
  rw [Int.mul_one]
 done:=by
  intro X hP hw hK hc i pins s σ H E I hf st hg
  subst hP hw hK
  obtain ⟨f0,f1,f2,f3,f4,f5⟩:=hf it (by simp)
  exact wpAny_pyNext_range_end (I.ok.hd hc) st (by have:n≤i:=hg;lia) fun h' eb=>⟨rfl,I.turned (t':=s.toks) (fun b o hb e=>eb b o hb e) f0 f1 f3 f4 f5⟩
 self:=fun _ _ _ _ _ st h=>wpAny_pyIter_rangeiter st h
section
variable {X:Cx} {tg:Expr}
noncomputable def Br (K:W.Frag) (tl:TE):TI:=fun σ H R=>tl σ H fun x H1=>∃ a,x=.ref a∧(∃ xs,SqL K H1 a xs)∧R (Itl K a) H1
noncomputable def CZ (K:W.Frag) (tl:TE):TI:=fun σ H R=>tl σ H fun x H1=>∃ a,x=.ref a∧(∃ xs,SqT K H1 a xs)∧R (Itt K a) H1
theorem qD {l:Expr} {tl:TE} (hl:PE X l tl):PI X tg l (Br X.K tl):=by
 intro pins s σ H R I h
 refine thn (hl pins s σ H _ I h) fun v s1 hqq=>?_
 obtain ⟨x,H1,I1,r1,q1⟩:=hqq
 obtain ⟨a,e,⟨xs,hq⟩,q⟩:=q1
 subst e
 cases r1
 obtain ⟨its,rv,p,hz⟩:=I1.list hq
 refine wpAny_pyIter_list p.isList ?_
 refine ⟨s1.heap.objs.size,[s1.heap.objs.size],_,_,H1,rfl,I1.kept (t':=s1.toks) fun b o e=>Heap.get?_push_of_some _ e,qC a _,⟨_,Heap.get?_push_size _ rfl,rfl,rfl⟩,fun b hb=>?_,q⟩
 have e:b=s1.heap.objs.size:=by simpa using hb
 subst e
 exact I1.fpOk (Nat.le_refl _) (I1.hok.fresh (Nat.le_refl _))
theorem yY {l:Expr} {tl:TE} (hl:PE X l tl):PI X tg l (CZ X.K tl):=by
 intro pins s σ H R I h
 refine thn (hl pins s σ H _ I h) fun v s1 hqq=>?_
 obtain ⟨x,H1,I1,r1,q1⟩:=hqq
 obtain ⟨a,e,⟨xs,hq⟩,q⟩:=q1
 subst e
 cases r1
 obtain ⟨its,rv,p,hz⟩:=I1.tuple hq
 refine wpAny_pyIter_tuple (show s1.heap.IsTuple a its.toArray from p) ?_
 refine ⟨s1.heap.objs.size,[s1.heap.objs.size],_,_,H1,rfl,I1.kept (t':=s1.toks) fun b o e=>Heap.get?_push_of_some _ e,pQ a _,⟨_,Heap.get?_push_size _ rfl,rfl,rfl⟩,fun b hb=>?_,q⟩
 have e:b=s1.heap.objs.size:=by simpa using hb
 subst e
 exact I1.fpOk (Nat.le_refl _) (I1.hok.fresh (Nat.le_refl _))
theorem oG {pins:List (Addr×Obj)} {σ:St} {H:Hp} {s:Shared} {R:It→Hp→Prop} {E:Value→Shared→Prop} {lo hi:Int} {t u v:Tok} {tk:Nat} (I:Inv X pins σ H s) (h1 : -(2 ^ 62)≤lo) (h2:lo < 2 ^ 62) (h3 : -(2 ^ 62)≤hi) (h4:hi < 2 ^ 62)
  (q:R (Itr lo (hi - lo).toNat) H):wpAny (model X.prog X.w) X.A (pyIter (.ref s.heap.objs.size)) (PIE X pins σ tg R) E { s with heap:=s.heap.push { cls:=.type "range",data:=.fields #[.int lo t,.int hi u,.int 1 v] },toks:=tk }:=by
 refine wpAny_pyIter_range (IsRange.new ..) (small_one h1 h2 h3 h4) ?_
 have I1:Inv X pins σ H { s with heap:=s.heap.push { cls:=.type "range",data:=.fields #[.int lo t,.int hi u,.int 1 v] },toks:=tk }:=I.kept fun b o e=>Heap.get?_push_of_some _ e
 refine ⟨(s.heap.push { cls:=.type "range",data:=.fields #[.int lo t,.int hi u,.int 1 v] }).objs.size,[(s.heap.push { cls:=.type "range",data:=.fields #[.int lo t,.int hi u,.int 1 v] }).objs.size],_,_,H,rfl,
  I1.kept (t':=tk) fun b o e=>Heap.get?_push_of_some _ e,pR _ lo (hi - lo).toNat,?_,fun b hb=>?_,q⟩
 ·have e1:lo + ((0:Nat):Int) * 1=lo:=by simp
  have e2:(((hi - lo).toNat:Nat):Int) - ((0:Nat):Int)=Builtin.Range.rangeSize lo hi 1:=by rw [rangeSize_one];split <;> lia
  show IsRangeIter _ _ (lo + ((0:Nat):Int) * 1) ((((hi - lo).toNat:Nat):Int) - ((0:Nat):Int)) 1
  rw [e1,e2]
  exact Heap.get?_push_size _ rfl
 ·have e:b=(s.heap.push { cls:=.type "range",data:=.fields #[.int lo t,.int hi u,.int 1 v] }).objs.size:=by simpa using hb
  subst e
  exact I1.fpOk (Nat.le_refl _) (I1.hok.fresh (Nat.le_refl _))
noncomputable def Bs (ta:TA):TI:=fun σ H R=>ta σ H fun vs H1=>∃ j:Int,vs=[.int j]∧-(2 ^ 62)≤j∧j < 2 ^ 62∧R (Itr 0 j.toNat) H1
noncomputable def Bt (ta:TA):TI:=fun σ H R=>ta σ H fun vs H1=>∃ i j:Int,vs=[.int i,.int j]∧(-(2 ^ 62)≤i∧i < 2 ^ 62∧-(2 ^ 62)≤j∧j < 2 ^ 62)∧R (Itr i (j - i).toNat) H1
theorem qE {a:Expr} {ta:TA} {p pos:Pos} (hg:Gl X "range") (hm:X.mg "range" = none) (ha:PA X [a] ta) (hs:starEach [a] X.env=[(false,eval a X.env)]:=by rfl):PI X tg (.Call (.Name "range" p) [a] [] pos) (Bs ta):=by
 intro pins s σ H R I h
 refine Call_ (jr I hg hm boot_range (PyProof.Rows.callWith_type1 (thn (ha pos pins s σ H _ I h) fun us s1 ⟨vs,H1,I1,r1,q1⟩=>?_) hs rfl))
 obtain ⟨j,e,q1,q2,q⟩:=q1
 subst e
 cases r1 with
 | cons r rr=>
  cases rr
  obtain ⟨t,rfl⟩:=r
  exact call_range_1 (oG I1 (by lia) (by lia) q1 q2 (by simpa using q))
theorem qF {a b:Expr} {ta:TA} {p pos:Pos} (hg:Gl X "range") (hm:X.mg "range" = none) (ha:PA X [a,b] ta) (hs:starEach [a,b] X.env=[(false,eval a X.env),(false,eval b X.env)]:=by rfl) (hs2:starEach [b] X.env=[(false,eval b X.env)]:=by rfl) :
  PI X tg (.Call (.Name "range" p) [a,b] [] pos) (Bt ta):=by
 intro pins s σ H R I h
 refine Call_ (jr I hg hm boot_range (PyProof.Rows.callWith_type1 (thn (ha pos pins s σ H _ I h) fun us s1 ⟨vs,H1,I1,r1,q1⟩=>?_) (by rw [hs,hs2]) (by rw [hs2];rfl)))
 obtain ⟨i,j,e,⟨q1,q2,q3,q4⟩,q⟩:=q1
 subst e
 cases r1 with
 | cons r rr=>
  cases rr with
  | cons r' rr=>
   cases rr
   obtain ⟨t,rfl⟩:=r
   obtain ⟨t',rfl⟩:=r'
   exact call_range_2 (oG I1 q1 q2 q3 q4 q)
noncomputable def C0 (wi:TI) (g:TG) (tb:TS):TS:=fun D σ H=>wi σ H fun J H1=>∃ W:Nat→Nat→St→Hp→Prop,(∃ m,W 0 m σ H1)∧∀ i m σ H,W i m σ H→
 (J.stop i H∧D.nx σ H)∨(J.go i H∧∃ N:St→Hp→Prop,(∀ σ' H',N σ' H'→∃ m',m' < m∧W (i + 1) m' σ' H')∧∀ x H',J.yld i H x H'→g x σ H' fun σ2 H2=>tb { D with nx:=N,ct:=N,bk:=D.nx } σ2 H2)
noncomputable def lQ (fp:List Addr) (h:Heap):List (Addr×Obj):=fp.filterMap fun b=>(h.get? b).map fun o=>(b,o)
theorem fR {fp:List Addr} {h:Heap} {b:Addr} {o:Obj} (hb:b∈fp) (e:h.get? b=some o):(b,o)∈lQ fp h:=List.mem_filterMap.mpr ⟨b,hb,by rw [e];rfl⟩
theorem qG {fp:List Addr} {h:Heap} {p:Addr×Obj} (hp:p∈lQ fp h):p.1∈fp∧h.get? p.1=some p.2:=by
 obtain ⟨b,hb,e⟩:=List.mem_filterMap.mp hp
 cases q:h.get? b with
 | none=>rw [q] at e;cases e
 | some o=>
  rw [q] at e
  have e':(b,o)=p:=Option.some.inj e
  subst e'
  exact ⟨hb,q⟩
theorem Inv.pinned {pins:List (Addr×Obj)} {σ:St} {H:Hp} {s:Shared} {fp:List Addr} (I:Inv X pins σ H s) (hf:∀ b∈fp,qv X pins H b) (ho:∀ b∈fp,∃ o,s.heap.get? b=some o∧∀ v,o.data≠.cell v):Inv X (pins++lQ fp s.heap) σ H s:=
 I.pins_of fun p hp=>(List.mem_append.mp hp).elim (fun z=>I.pin p (List.mem_append_right _ z)) fun z=>by
  obtain ⟨hb,e⟩:=qG z
  obtain ⟨f0,f1,f2,_⟩:=hf p.1 hb
  obtain ⟨o,e',d⟩:=ho p.1 hb
  rw [e] at e';cases e'
  exact ⟨e,f0,f1,f2,d⟩
theorem Inv.unpinned {pins pl:List (Addr×Obj)} {σ:St} {H:Hp} {s:Shared} (I:Inv X (pins++pl) σ H s):Inv X pins σ H s:=I.pins_of fun p hp=>I.pin p (List.mem_append_right _ (List.mem_append_left _ hp))
theorem yZ {iter:Expr} {body:List Stmt} {wi:TI} {g:TG} {tb:TS} {pos:Pos} (hp:PassesOwn (model X.prog X.w) X.A X.env X.xe) (hc:X.calm=true) (hi:PI X tg iter wi) (hg:PG X tg g) (hb:PSs X body tb)
  (hs:∀ x,foldedSetIterable iter X.env x=pure x:=by intro _;rfl):PS X (.For tg iter body [] pos) (C0 wi g tb):=by
 intro pins s σ H D I h
 refine wpAny_For (thn (hi pins s σ H _ I h) fun v s1 h1=>thn h1 fun itv s2 h2=>?_) hs
 obtain ⟨it,fp,tn,J,H2,e,I2,T,st2,f2,W,⟨m0,w0⟩,turn⟩:=h2
 subst e
 have stat:∀ {H':Hp},(∀ b∈fp,H' b=none)→∀ b∈fp,qv X pins H' b:=fun hn b hb=>⟨hn b hb,(f2 b hb).2⟩
 refine codeAny_forLoop_any (fun n s'=>∃ i σ' H',Inv X pins σ' H' s'∧tn i s'.heap∧(∀ b∈fp,H' b=none)∧W i n σ' H') ?_ m0 ⟨0,σ,H2,I2,st2,fun b hb=>(f2 b hb).1,w0⟩
 rintro n s3 ⟨i,σ3,H3,I3,st3,fr3,w3⟩
 rcases turn i n σ3 H3 w3 with ⟨stop,qn⟩ | ⟨go,N,hN,step⟩
 ·refine wpAny_passesOwn hp (thn (T.done X rfl rfl rfl hc i pins s3 σ3 H3 X.xe I3 (stat fr3) st3 stop) fun r s4 hqq=>?_)
  obtain ⟨hr,I4⟩:=hqq
  subst hr
  exact wpAny_execs_nil ⟨σ3,H3,I4,qn⟩
 ·refine wpAny_passesOwn hp (thn (T.item X rfl rfl rfl hc i pins s3 σ3 H3 X.xe I3 (stat fr3) st3 go) fun r s4 hqq=>?_)
  obtain ⟨u,hr,h4⟩:=hqq
  subst hr
  refine wpAny_passesOwn hp (thn h4 fun _ s5 hqq=>?_)
  obtain ⟨x,H5,I5,r5,y5,st5,fr5⟩:=hqq
  have I5':=I5.pinned (stat fr5) (T.obj _ _ st5)
  refine wpAny_passesOwn hp (thn (hg _ s5 σ3 H5 x u _ I5' r5 (step x H5 y5)) fun _ s6 hqq=>?_)
  obtain ⟨σ6,H6,I6,q6⟩:=hqq
  refine wpAny_passesOwn hp (thn (hb _ s6 σ6 H6 _ I6 q6) fun f s7 q7=>?_)
  have again:∀ {σ7:St} {H7:Hp},Inv X (pins++lQ fp s5.heap) σ7 H7 s7→N σ7 H7→∃ m,m < n∧∃ i σ' H',Inv X pins σ' H' s7∧tn i s7.heap∧(∀ b∈fp,H' b=none)∧W i m σ' H':=fun {σ7 H7} I7 n7=>by
   obtain ⟨m',hm,w7⟩:=hN σ7 H7 n7
   refine ⟨m',hm,i + 1,σ7,H7,I7.unpinned,T.keep _ _ _ st5 fun b hb o e=>(I7.pin (b,o) (List.mem_append_right _ (List.mem_append_right _ (fR hb e)))).1,fun b hb=>?_,w7⟩
   obtain ⟨o,e,d⟩:=T.obj _ _ st5 b hb
   exact (I7.pin (b,o) (List.mem_append_right _ (List.mem_append_right _ (fR hb e)))).2.1
  cases f with
  | next=>obtain ⟨σ7,H7,I7,n7⟩:=q7;exact again I7 n7
  | cont=>obtain ⟨σ7,H7,I7,n7⟩:=q7;exact again I7 n7
  | brk=>obtain ⟨σ7,H7,I7,q7⟩:=q7;exact ⟨σ7,H7,I7.unpinned,q7⟩
  | ret v=>obtain ⟨x7,σ7,H7,I7,r7,q7⟩:=q7;exact ⟨x7,σ7,H7,I7.unpinned,r7,q7⟩
end
theorem for_list {K:W.Frag} {a:Addr} {xs:List V} {g:TG} {tb:TS} {D:Ends} {σ:St} {H:Hp} (Pv:Nat→St→Hp→Prop) (h0:Pv 0 σ H) (hl:∀ i σ H,i≤xs.length→Pv i σ H→SqL K H a xs)
  (hs:∀ i x σ H,xs[i]?=some x→Pv i σ H→g x σ H fun σ2 H2=>tb { D with nx:=Pv (i + 1),ct:=Pv (i + 1),bk:=D.nx } σ2 H2) (hd:∀ σ H,Pv xs.length σ H→D.nx σ H) :
  ∃ W:Nat→Nat→St→Hp→Prop,(∃ m,W 0 m σ H)∧∀ i m σ H,W i m σ H→
   ((Itl K a).stop i H∧D.nx σ H)∨((Itl K a).go i H∧∃ N:St→Hp→Prop,(∀ σ' H',N σ' H'→∃ m',m' < m∧W (i + 1) m' σ' H')∧∀ x H',(Itl K a).yld i H x H'→g x σ H' fun σ2 H2=>tb { D with nx:=N,ct:=N,bk:=D.nx } σ2 H2):=by
 refine ⟨fun i m σ H=>m=xs.length - i∧i≤xs.length∧Pv i σ H,⟨xs.length,by simp,Nat.zero_le _,h0⟩,?_⟩
 rintro i m σ H ⟨rfl,hi,p⟩
 have q:=hl i σ H hi p
 by_cases hlt:i < xs.length
 ·refine .inr ⟨⟨xs,xs[i],q,by simp [hlt]⟩,Pv (i + 1),fun σ' H' p'=>⟨xs.length - (i + 1),by lia,rfl,hlt,p'⟩,fun x H' y=>?_⟩
  obtain ⟨e,y⟩:=y
  subst e
  exact hs i x σ _ (y xs q) p
 ·have e:i=xs.length:=by lia
  subst e
  exact .inl ⟨⟨xs,q,Nat.le_refl _⟩,hd σ H p⟩
abbrev R2:=V→V→Hp→VK→Prop
def OpR (X:Cx) (f:Value→Value→Sem Value) (r:R2):Prop:=
 ∀ (pins:List (Addr×Obj)) (s:Shared) (σ:St) (H:Hp) (x y:V) (v u:Value) (Q:VK),Inv X pins σ H s→RelV x v→RelV y u→r x y H Q→
  wpAny (model X.prog X.w) X.A (f v u) (EP X pins σ Q) X.xe s
def cT (X:Cx) (f:Value) (r:List V→Hp→VK→Prop):Prop:=
 ∀ (pins:List (Addr×Obj)) (s:Shared) (σ:St) (H:Hp) (xs:List V) (us:List Value) (Q:VK),Inv X pins σ H s→Vals xs us→r xs H Q→
  wpAny (model X.prog X.w) X.A (call f us) (EP X pins σ Q) X.xe s
noncomputable def tOp (r:R2) (ta tb:TE):TE:=fun σ H Q=>ta σ H fun x H1=>tb σ H1 fun y H2=>r x y H2 Q
noncomputable def rI (C:Int→Int→Prop) (g:Int→Int→V):R2:=fun x y H Q=>∃ i j,x=.int i∧y=.int j∧C i j∧Q (g i j) H
noncomputable def rI0 (g:Int→Int→V):R2:=fun x y H Q=>∃ i j,x=.int i∧y=.int j∧Q (g i j) H
section
variable {X:Cx} {a b c:Expr} {ta tb tc:TE} {pos:Pos}
theorem Bu (ha:PE X a ta) (hb:PE X b tb) {pins:List (Addr×Obj)} {s:Shared} {σ:St} {H:Hp} {R:V→V→Hp→Prop} (I:Inv X pins σ H s)
  (h:ta σ H fun x H1=>tb σ H1 fun y H2=>R x y H2) {Q:Value→Shared→Prop} {f:Value→Value→Sem Value}
  (hf:∀ v u s2 x y H2,Inv X pins σ H2 s2→RelV x v→RelV y u→R x y H2→wpAny (model X.prog X.w) X.A (f v u) Q X.xe s2) :
  wpAny (model X.prog X.w) X.A (eval a X.env) (fun v s₁=>wpAny (model X.prog X.w) X.A (eval b X.env) (fun u s₂=>wpAny (model X.prog X.w) X.A (f v u) Q X.xe s₂) X.xe s₁) X.xe s:=by
 refine thn (ha pins s σ H _ I h) fun v s1 hqq=>?_
 obtain ⟨x,H1,I1,r1,q1⟩:=hqq
 refine thn (hb pins s1 σ H1 _ I1 q1) fun u s2 hqq=>?_
 obtain ⟨y,H2,I2,r2,q2⟩:=hqq
 exact hf v u s2 x y H2 I2 r1 r2 q2
theorem Bv {op:Operator} {r:R2} (ho:OpR X (binaryOp op) r) (ha:PE X a ta) (hb:PE X b tb):PE X (.BinOp a op b pos) (tOp r ta tb):=by
 intro pins s σ H Q I h
 exact wpAny_BinOp (Bu ha hb I h fun v u s2 x y H2 I2 rx ry q=>ho pins s2 σ H2 x y v u Q I2 rx ry q)
theorem opI {f:Value→Value→Sem Value} {C:Int→Int→Prop} {g:Int→Int→Int}
  (rule:∀ (i j:Int) (t u:Tok) (s:Shared) (Q:Value→Shared→Prop) (E:Value→Shared→Prop),C i j→Q (.int (g i j) s.toks) { s with toks:=s.toks + 1 }→wpAny (model X.prog X.w) X.A (f (.int i t) (.int j u)) Q E s) :
  OpR X f (rI C fun i j=>.int (g i j)):=by
 intro pins s σ H x y v u Q I rx ry h
 obtain ⟨i,j,rfl,rfl,hc,q⟩:=h
 obtain ⟨t,rfl⟩:=rx
 obtain ⟨t',rfl⟩:=ry
 exact rule i j t t' s _ _ hc ⟨.int (g i j),H,I.tok _,⟨_,rfl⟩,q⟩
theorem Cz {f:Value→Value→Sem Value} {g:Int→Int→Int}
  (rule:∀ (i j:Int) (t u:Tok) (s:Shared) (Q:Value→Shared→Prop) (E:Value→Shared→Prop),Q (.int (g i j) s.toks) { s with toks:=s.toks + 1 }→wpAny (model X.prog X.w) X.A (f (.int i t) (.int j u)) Q E s) :
  OpR X f (rI0 fun i j=>.int (g i j)):=by
 intro pins s σ H x y v u Q I rx ry h
 obtain ⟨i,j,rfl,rfl,q⟩:=h
 obtain ⟨t,rfl⟩:=rx
 obtain ⟨t',rfl⟩:=ry
 exact rule i j t t' s _ _ ⟨.int (g i j),H,I.tok _,⟨_,rfl⟩,q⟩
theorem CA {f:Value→Value→Sem Value} {g:Int→Int→Bool}
  (rule:∀ (i j:Int) (t u:Tok) (s:Shared) (Q:Value→Shared→Prop) (E:Value→Shared→Prop),Q (.bool (g i j)) s→wpAny (model X.prog X.w) X.A (f (.int i t) (.int j u)) Q E s) :
  OpR X f (rI0 fun i j=>.bl (g i j)):=by
 intro pins s σ H x y v u Q I rx ry h
 obtain ⟨i,j,rfl,rfl,q⟩:=h
 obtain ⟨t,rfl⟩:=rx
 obtain ⟨t',rfl⟩:=ry
 exact rule i j t t' s _ _ ⟨.bl (g i j),H,I,rfl,q⟩
def C1 (i j:Int):Prop:=0 < j∧j < 1073741824
def C2 (i j:Int):Prop:=0≤j∧j≤1000000∧i.natAbs < 2 ^ 64
def CMul (i j:Int):Prop:=(-(2 ^ 64) < i∧i < 2 ^ 64)∨(-(2 ^ 64) < j∧j < 2 ^ 64)
theorem CMul.ok {i j:Int} (h:CMul i j):IntMulOk i j:=by
 rcases h with ⟨h1,h2⟩ | ⟨h1,h2⟩
 ·exact .of_left (intBits_le_64 h1 h2)
 ·exact .of_right (intBits_le_64 h1 h2)
theorem y7:OpR X (binaryOp .Add) (rI0 fun i j=>.int (i + j)):=Cz fun _ _ _ _ _ _ _ q=>add_int q
theorem y8:OpR X (binaryOp .Sub) (rI0 fun i j=>.int (i - j)):=Cz fun _ _ _ _ _ _ _ q=>sub_int q
theorem y9:OpR X (binaryOp .Mult) (rI CMul fun i j=>.int (i * j)):=opI fun _ _ _ _ _ _ _ hc q=>mul_int q hc.ok
theorem wB:OpR X (binaryOp .FloorDiv) (rI C1 fun i j=>.int (i / j)):=opI fun i j _ _ _ _ _ hc q=>by
 have h1:(0:Int) < j:=hc.1
 have h2:j < 1073741824:=hc.2
 exact floordiv_int (by lia) (by rw [Int.fdiv_eq_ediv_of_nonneg i (by lia)];exact q) (.inl (PyProof.noPylong_small (by lia)))
theorem za:OpR X (binaryOp .Mod) (rI (fun _ j=>0 < j) fun i j=>.int (i % j)):=opI fun i j _ _ _ _ _ hc q=>by
 have h1:(0:Int) < j:=hc
 exact mod_int' (by lia) (by rw [Int.fmod_eq_emod_of_nonneg i (by lia)];exact q)
theorem zb:OpR X (binaryOp .Pow) (rI C2 fun i j=>.int (i ^ j.toNat)):=opI fun _ _ _ _ _ _ _ hc q=>pow_int_small hc.1 hc.2.1 hc.2.2 q
end
section
variable {X:Cx} {a b c:Expr} {ta tb tc:TE} {pos:Pos}
theorem qH {pins:List (Addr×Obj)} {σ:St} {H:Hp} {s:Shared} {Q:VK} {k k':Bool} (I:Inv X pins σ H s) (q:Q (.bl k) H) (e:k=k'):EP X pins σ Q (.bool k') s:=by
 subst e
 exact ⟨.bl k,H,I,rfl,q⟩
theorem Bw:OpR X (compareOp .Lt) (rI0 fun i j=>.bl (decide (i < j))):=CA fun _ _ _ _ _ _ _ q=>lt_int q
theorem Bx:OpR X (compareOp .Gt) (rI0 fun i j=>.bl (decide (j < i))):=CA fun _ _ _ _ _ _ _ q=>gt_int q
theorem qI:OpR X (compareOp .Lt) (fun x y H Q=>∃ i j,x=.str i∧y=.str j∧Q (.bl (decide (i.cps.toList < j.cps.toList))) H):=by
 intro pins s σ H x y v u Q I rx ry h
 obtain ⟨i,j,rfl,rfl,q⟩:=h
 obtain ⟨t,rfl⟩:=rx
 obtain ⟨t',rfl⟩:=ry
 exact lt_str (qH I q rfl)
theorem qJ:OpR X (compareOp .In) (fun x y H Q=>∃ i j,x=.str i∧y=.str j∧Q (.bl (!(Builtin.Str.occurrences j i 0 j.length 1).isEmpty)) H):=by
 intro pins s σ H x y v u Q I rx ry h
 obtain ⟨i,j,rfl,rfl,q⟩:=h
 obtain ⟨t,rfl⟩:=rx
 obtain ⟨t',rfl⟩:=ry
 exact in_str (qH I q rfl)
theorem lR:OpR X (compareOp .NotIn) (fun x y H Q=>∃ i j,x=.str i∧y=.str j∧Q (.bl (!(!(Builtin.Str.occurrences j i 0 j.length 1).isEmpty))) H):=by
 intro pins s σ H x y v u Q I rx ry h
 obtain ⟨i,j,rfl,rfl,q⟩:=h
 obtain ⟨t,rfl⟩:=rx
 obtain ⟨t',rfl⟩:=ry
 exact notIn_str (qH I q rfl)
theorem bR (b:Expr) {op:CmpOp} (h:op≠.In:=by decide) (h2:op≠.NotIn:=by decide):behindInMarks op b=false:=by
 have e1:(op == CmpOp.In)=false:=by cases op <;> first | rfl | exact absurd rfl h
 have e2:(op == CmpOp.NotIn)=false:=by cases op <;> first | rfl | exact absurd rfl h2
 cases b <;> simp [behindInMarks,e1,e2]
theorem wC {op:CmpOp} {r:R2} (ho:OpR X (compareOp op) r) (ha:PE X a ta) (hb:PE X b tb) (hm:behindInMarks op b=false):PE X (.Compare a [op] [b] pos) (tOp r ta tb):=by
 intro pins s σ H Q I h
 exact wpAny_Compare1 (Bu ha hb I h fun v u s2 x y H2 I2 rx ry q=>ho pins s2 σ H2 x y v u Q I2 rx ry q) hm
noncomputable def By (t:TE):TT:=fun σ H Q=>t σ H fun x H'=>∃ k,x=.bl k∧Q k H'
theorem qK {op:CmpOp} {r:R2} (ho:OpR X (compareOp op) r) (ha:PE X a ta) (hb:PE X b tb) (hm:behindInMarks op b=false):PT X (.Compare a [op] [b] pos) (By (tOp r ta tb)):=by
 intro pins s σ H Q I h
 refine wpAny_isTrue_Compare1 (thn (ha pins s σ H _ I h) fun v s1 ⟨x,H1,I1,r1,q1⟩=>thn (hb pins s1 σ H1 _ I1 q1) fun u s2 ⟨y,H2,I2,r2,q2⟩=>
  thn (ho pins s2 σ H2 x y v u _ I2 r1 r2 q2) fun c s3 ⟨z,H3,I3,r3,k,e,q3⟩=>?_) hm
 subst e
 cases r3
 exact wpAny_truthy_bool ⟨H3,I3,q3⟩
theorem kq:(sizeLine:Nat) < 2 ^ 63:=by rw [sizeLine_eq];decide
theorem pS:OpR X (binaryOp .Add) (fun x y H Q=>∃ i j,x=.str i∧y=.str j∧i.length + j.length≤sizeLine∧Q (.str (i++j)) H):=by
 intro pins s σ H x y v u Q I rx ry h
 obtain ⟨i,j,rfl,rfl,hz,q⟩:=h
 obtain ⟨t,rfl⟩:=rx
 obtain ⟨t',rfl⟩:=ry
 exact add_str (fun t' tk=>⟨.str (i++j),H,I.tok _,⟨_,rfl⟩,q⟩) hz
theorem fm {x:V} {us:List Value} (r:Vals [x] us):∃ u,us=[u]∧RelV x u:=by
 cases r with
 | cons r1 r2=>cases r2;exact ⟨_,rfl,r1⟩
theorem tY {x y:V} {us:List Value} (r:Vals [x,y] us):∃ u w',us=[u,w']∧RelV x u∧RelV y w':=by
 cases r with
 | cons r1 r2=>
  cases r2 with
  | cons r3 r4=>cases r4;exact ⟨_,_,rfl,r1,r3⟩
theorem qL (hc:X.calm=true):cT X (.builtin "min") (fun xs H Q=>∃ i j,xs=[.int i,.int j]∧Q (.int (if j < i then j else i)) H):=by
 intro pins s σ H xs us Q I r h
 obtain ⟨i,j,rfl,q⟩:=h
 obtain ⟨u,w',rfl,⟨t,rfl⟩,⟨t',rfl⟩⟩:=tY r
 refine min_two_ints (I.ok.hd hc) fun h' tk k=>⟨_,H,I.kept k,?_,q⟩
 by_cases hj:j < i
 ·rw [if_pos hj,if_pos hj];exact ⟨_,rfl⟩
 ·rw [if_neg hj,if_neg hj];exact ⟨_,rfl⟩
end
section
variable {prog:Program} {w:World} {A:Around} {E:Value→Shared→Prop} {s:Shared} {K:W.Frag} {x dx C f:Addr} {mA:Str→Option Value} {name:Str} {v:Value}
end
theorem RelO.some_of {v:V} {o:Option Value} (r:RelO (some v) o):∃ u,o=some u∧RelV v u:=by
 cases o with
 | none=>exact (show False from r).elim
 | some u=>exact ⟨u,rfl,r⟩
theorem RelO.none_of {o:Option Value} (r:RelO none o):o=none:=by
 cases o with
 | none=>rfl
 | some u=>exact (show False from r).elim
section
variable {P:Program} {w:World} {H H':Hp} {h h':Heap} {a C dx:Addr} {fs fs':List (Str×V)}
end
structure Cls (K:W.Frag) (C:Addr):Prop where
 pg:PySem.W.plainGet K C Str.empty=true
 hd:PySem.W.hasDictIn K C=true
 po:PySem.W.plainOver K C=true
 sa:PySem.W.findIn K (.ref C) "__setattr__" = some (some (.builtin "object.__setattr__"))
theorem Cls.get {K:W.Frag} {C:Addr} (c:Cls K C) (f:Str):PySem.W.plainGet K C f=true:=c.pg
section
variable {X:Cx} {pins:List (Addr×Obj)} {σ:St} {H:Hp} {s:Shared} {a C dx:Addr} {fs:List (Str×V)} {f:Str} {v:V} {A:Around} {E:Value→Shared→Prop}
end
section
variable {X:Cx} {o e value:Expr} {f:Str} {pos pos' tpos:Pos} {ta tv:TE}
end
section
variable {X:Cx} {pins:List (Addr×Obj)} {σ:St} {H:Hp} {s:Shared} {A:Around} {E:Value→Shared→Prop} {Q:Value→Shared→Prop} {c:Value} {b:Bool}
end
structure Room (k:Nat) (A:Around):Prop where
 hd:A.handled=none
 dp:A.depth + 3 * k + 5 < recursionLimit
 un:A.units + 16 * k + 200 < cLine
theorem Room.mono {j k:Nat} {A:Around} (r:Room k A) (h:j≤k):Room j A:=⟨r.hd,by have:=r.dp;lia,by have:=r.un;lia⟩
theorem Room.deeper {k:Nat} {A:Around} (r:Room (k + 1) A) (env:Env):Room k (A.deeper env):=
 ⟨r.hd,by have:=r.dp;show A.depth + 1 + 3 * k + 5 < _;lia,by have:=r.un;show A.units + 3 + 16 * k + 200 < _;lia⟩
theorem Room.depth {k:Nat} {A:Around} (r:Room k A):A.depth < recursionLimit:=by have:=r.dp;lia
theorem Room.units {k:Nat} {A:Around} (r:Room k A):A.units + 64 < cLine:=by have:=r.un;lia
theorem Room.units0 {k:Nat} {A:Around} (r:Room k A):A.units < cLine:=by have:=r.un;lia
noncomputable def Bf:TA:=fun _ H Q=>Q [] H
noncomputable def tZ (ta:TE) (tr:TA):TA:=fun σ H Q=>ta σ H fun x H1=>tr σ H1 fun xs H2=>Q (x :: xs) H2
section
variable {X:Cx} {e:Expr} {es:List Expr} {te:TE} {t:TA} {pos:Pos}
theorem oH:PA X [] Bf:=fun _ _ _ _ H Q I h=>Calls.spliced_nil ⟨[],H,I,.nil,h⟩
theorem il (ha:PE X e te) (hr:PA X es t) (hs:starEach (e :: es) X.env=(false,eval e X.env) :: starEach es X.env:=by rfl):PA X (e :: es) (tZ te t):=by
 intro pos pins s σ H Q I h
 rw [hs]
 show wpAny _ _ (spliced ((false,eval e X.env) :: backTo pos (starEach es X.env))) _ _ s
 refine Calls.spliced_cons (thn (ha pins s σ H _ I h) fun u s1 hqq=>?_)
 obtain ⟨x,H1,I1,r1,q1⟩:=hqq
 exact thn (hr pos pins s1 σ H1 _ I1 q1) fun us s2 ⟨xs,H2,I2,r2,q2⟩=>⟨x :: xs,H2,I2,.cons r1 r2,q2⟩
noncomputable def C3 (t:TA):TE:=fun σ H Q=>t σ H fun xs H1=>xs.length≤sizeLine∧∀ p,H1 p=none→Q (.ref p) (upd H1 p (.tup xs))
noncomputable def C4 (t:TA):TE:=fun σ H Q=>t σ H fun xs H1=>xs.length≤sizeLine∧∀ p,H1 p=none→Q (.ref p) (upd H1 p (.lst xs))
theorem zc {x1} (h:PA X es t):PE X (.Tuple es x1 pos) (C3 t):=by
 intro pins s σ H Q I hq
 refine wpAny_Tuple_spliced (thn (h pos pins s σ H _ I hq) fun us s1 ⟨xs,H1,I1,r,z,q⟩=>⟨by rw [←r.length];exact z,?_⟩)
 have hf:H1 s1.heap.objs.size=none:=I1.hok.fresh (Nat.le_refl _)
 refine ⟨.ref s1.heap.objs.size,upd H1 s1.heap.objs.size (.tup xs),I1.laid (t':=s1.toks) (fun b u e=>Heap.get?_push_of_some _ e) (Nat.le_refl _) ?_,rfl,q _ hf⟩
 exact ⟨z,us,r,⟨_,Heap.get?_push_size _ rfl,rfl,⟨_,rfl⟩,rfl⟩⟩
theorem zd (h:PA X es t):PE X (.List es pos) (C4 t):=by
 intro pins s σ H Q I hq
 refine wpAny_List_spliced (thn (h pos pins s σ H _ I hq) fun us s1 ⟨xs,H1,I1,r,z,q⟩=>⟨by rw [←r.length];exact z,?_⟩)
 have hf:H1 s1.heap.objs.size=none:=I1.hok.fresh (Nat.le_refl _)
 refine ⟨.ref s1.heap.objs.size,upd H1 s1.heap.objs.size (.lst xs),I1.laid (t':=s1.toks) (fun b u e=>Heap.get?_push_of_some _ e) (Nat.le_refl _) ?_,rfl,q _ hf⟩
 exact ⟨z,us,0,r,Heap.get?_push_size _ rfl⟩
end
abbrev Sp:=List V→Hp→VK→XK→Prop
abbrev CXT:=List Env→Hp→Shared→XK→Value→Shared→Prop
structure Env0 (P:Program) (w:World) (K:W.Frag) (mg:Str→Option Value) (base:Heap) (A:Around) (outer:List Env) (s:Shared) (H:Hp):Prop where
 frames:A.frames=some outer
 mod:Mod K mg base
 bs:∀ b o,base.get? b=some o→s.heap.get? b=some o∧H b=none
 bsz:base.objs.size≤s.heap.objs.size
 funs:s.heap.FunFrames base outer
 frf:∀ b∈frs outer,H b=none
 hok:HOk P w H s.heap
 bare:AllBare s.gens
def CE (outer:List Env) (P:Program) (w:World) (H:Hp) (s:Shared) (Q:VK) (u:Value) (s':Shared):Prop:=
 ∃ v H',s'.os=s.os∧AllBare s'.gens∧Un (frs outer) [] H H' s.heap s'.heap∧HOk P w H' s'.heap∧RelV v u∧Q v H'
def CR (CX:CXT) (outer:List Env) (P:Program) (w:World) (H:Hp) (s:Shared) (Q:VK) (E:XK) (r:Result) (s':Shared):Prop:=
 match r with
 | .ok (.ret u)=>CE outer P w H s Q u s'
 | .ok _=>False
 | .error e=>CX outer H s E e s'
structure FnOk (P:Program) (w:World) (K:W.Frag) (mg:Str→Option Value) (base:Heap) (CX:CXT) (k:Nat) (f:Addr) (fd:FuncData) (ps:List Str) (sp:Sp):Prop where
 len:∀ vs H Q E,sp vs H Q E→vs.length=ps.length
 run:∀ (A:Around) (outer:List Env) (s:Shared) (H:Hp) (args:Args) (us:List Value) (vs:List V) (Q:VK) (E:XK),Room k A→Env0 P w K mg base A outer s H→BindsTo s fd args (ps.zip us)→Vals vs us→sp vs H Q E→
  codeAny (model P w) A (.call (.ref f) args) (CR CX outer P w H s Q E) s
theorem FnOk.imp {P:Program} {w:World} {K:W.Frag} {mg:Str→Option Value} {base:Heap} {CX:CXT} {k:Nat} {f:Addr} {fd:FuncData} {ps:List Str} {sp sp':Sp} (F:FnOk P w K mg base CX k f fd ps sp)
  (h:∀ vs H Q E,sp' vs H Q E→sp vs H Q E):FnOk P w K mg base CX k f fd ps sp':=
 ⟨fun vs H Q E q=>F.len vs H Q E (h _ _ _ _ q),fun A outer s H args us vs Q E hr he hb hv hs=>F.run A outer s H args us vs Q E hr he hb hv (h _ _ _ _ hs)⟩
section
variable {X:Cx} {pins:List (Addr×Obj)} {σ:St} {H:Hp} {s s':Shared}
theorem Inv.env0 (I:Inv X pins σ H s):Env0 X.prog X.w X.K X.mg X.base X.A X.stack s H:=
 ⟨I.ok.frames,I.ok.mod,I.bs,Nat.le_trans I.ok.bsz I.sz,I.stack,I.stkFree,I.hok,I.bare⟩
theorem Inv.after {Q:VK} {u:Value} (I:Inv X pins σ H s) (h:CE X.stack X.prog X.w H s Q u s'):EP X pins σ Q u s':=by
 obtain ⟨v,H',os,bare,un,hok,r,q⟩:=h
 obtain ⟨hh,g,d,t,os'⟩:=s'
 obtain rfl:os'=s.os:=os
 exact ⟨v,H',I.call (h':=hh) (g':=g) (d':=d) (t':=t) (ch:=[]) un hok bare (fun b z=>absurd z (by simp)),r,q⟩
end
noncomputable def tCall (sp:Sp) (dvs:List V) (E:XK) (t:TA):TE:=fun σ H Q=>t σ H fun vs H1=>sp (vs++dvs) H1 Q E
def Binds (K:W.Frag) (fd:FuncData) (ps:List Str) (ds:List Value):Prop:=
 ∀ (s:Shared) (us:List Value),K.In s.heap→(us++ds).length=ps.length→BindsTo s fd ⟨us,[]⟩ (ps.zip (us++ds))
theorem Binds.all {K:W.Frag} {fd:FuncData} {ps:List Str} (h:∀ us:List Value,us.length=ps.length→bindArgs fd ⟨us,[]⟩=pure (ps.zip us)):Binds K fd ps []:=fun s us _ hl=>by
 rw [List.append_nil] at hl ⊢
 exact .of_eq (h us hl)
def qM (CX:CXT) (X:Cx) (E:XK):Prop:=∀ (pins:List (Addr×Obj)) (σ:St) (H:Hp) (s:Shared) (e:Value) (s':Shared),Inv X pins σ H s→CX X.stack H s E e s'→X.xe e s'
section
variable {X:Cx} {CX:CXT} {k:Nat} {f C:Addr} {fd:FuncData} {ps:List Str} {sp:Sp} {dvs:List V} {ds:List Value} {E:XK} {x m:Str} {p pos apos:Pos} {e o:Expr} {es:List Expr} {ta:TE} {t:TA}
theorem ze {pins:List (Addr×Obj)} {σ:St} {H:Hp} {s:Shared} {Q:VK} {us:List Value} {vs:List V} (F:FnOk X.prog X.w X.K X.mg X.base CX k f fd ps sp) (hr:Room k X.A) (hb:Binds X.K fd ps ds) (hd:Vals dvs ds) (hx:qM CX X E)
  (I:Inv X pins σ H s) (r:Vals vs us) (h:sp (vs++dvs) H Q E):wpAny (model X.prog X.w) X.A (call (.ref f) us) (EP X pins σ Q) X.xe s:=by
 have r2:Vals (vs++dvs) (us++ds):=r.append hd
 have hl:(us++ds).length=ps.length:=by rw [←r2.length];exact F.len _ _ _ _ h
 refine wpAny_call (codeAny_mono (F.run X.A X.stack s H ⟨us,[]⟩ (us++ds) (vs++dvs) Q E hr I.env0 (hb s us I.kIn hl) r2 h) fun r s' hq=>?_)
 cases r with
 | error e=>exact hx pins σ H s e s' I hq
 | ok fl=>
  cases fl with
  | ret u=>exact I.after hq
  | next=>exact False.elim hq
  | brk=>exact False.elim hq
  | cont=>exact False.elim hq
theorem wF (F:FnOk X.prog X.w X.K X.mg X.base CX k f fd ps sp) (hr:Room k X.A) (hg:Gl X x) (hm:X.mg x=some (.ref f)) (hk:PySem.W.keepIn X.K (.ref f)=true) (hb:Binds X.K fd ps ds) (hd:Vals dvs ds) (hx:qM CX X E)
  (ha:PA X (e :: es) t) (hdb:(x == ("__debug__" : Str))=false:=by decide) (he:starEach (e :: es) X.env=(false,eval e X.env) :: starEach es X.env:=by rfl) (hpl:(backTo pos (starEach es X.env)).any (·.1)=false:=by rfl) :
  PE X (.Call (.Name x p) (e :: es) [] pos) (tCall sp dvs E t):=by
 intro pins s σ H Q I h
 refine wpAny_Call_Name_kw (wo I hg hm ?_ hdb)
 refine PySem.W.callWith_K (h₀:=X.base) I.ok.mod.kin hk (thn (ha pos pins s σ H _ I h) fun us s1 ⟨vs,H1,I1,r,q⟩=>⟨I1.kIn,?_⟩) he hpl
 exact ze F hr hb hd hx I1 r q
end
def PK (X:Cx) (kws:List Keyword) (t:TA):Prop:=
 ∀ (pos:Pos) (pins:List (Addr×Obj)) (s:Shared) (σ:St) (H:Hp) (Q:List V→Hp→Prop),Inv X pins σ H s→t σ H Q→wpAny (model X.prog X.w) X.A (evalAll ((backToKw pos (keywordEach kws X.env)).map (·.2))) (AP X pins σ Q) X.xe s
section
variable {X:Cx} {CX:CXT} {k:Nat} {f C:Addr} {fd:FuncData} {ps ks:List Str} {sp:Sp} {E:XK} {x m:Str} {p pos apos kpos:Pos} {e o:Expr} {es:List Expr} {kws:List Keyword} {te ta:TE} {t tk:TA} {nm:Option Str}
theorem zf:PK X [] Bf:=fun _ _ _ _ H Q I h=>wpAny_evalAll_nil ⟨[],H,I,.nil,h⟩
theorem wG (ha:PE X e te) (hr:PK X kws t):PK X (⟨nm,e,kpos⟩ :: kws) (tZ te t):=by
 intro pos pins s σ H Q I h
 show wpAny _ _ (evalAll ((do let v ←eval e X.env;standAt pos;pure v) :: (backToKw pos (keywordEach kws X.env)).map (·.2))) _ _ s
 refine wpAny_evalAll_cons (wpAny_bind (thn (ha pins s σ H _ I h) fun u s1 ⟨x,H1,I1,r1,q1⟩=>wpAny_bind (wpAny_standAt (wpAny_pure ?_))))
 exact thn (hr pos pins s1 σ H1 _ I1 q1) fun us s2 ⟨xs,H2,I2,r2,q2⟩=>⟨x :: xs,H2,I2,.cons r1 r2,q2⟩
variable {g:List Value→List Value→List Value} {gV:List V→List V→List V}
end
structure FnScope (N P:List Str) (sc:Scope):Prop where
 kind:sc.kind=.function
 co:sc.isCoroutine=false
 gen:sc.isGenerator=false
 nd:N.Nodup
 pre:N.take P.length=P
 par:∀ x∈P,sc.names.lookup x=some .local∨sc.names.lookup x=some .cell
 nofree:∀ y∈sc.names,y.2≠.free
theorem lS {kindOf:Str→Option NameKind} {x:Str}:∀ {binds:List (Str×Value)} {m:Str→Option Value},(∀ v,(x,v)∉binds)→bindL kindOf binds m x=m x
 | [],_,_=>rfl
 | (n,v) :: r,m,h=>by
  unfold bindL
  rw [lS fun w hw=>h w (List.mem_cons_of_mem _ hw)]
  split
  ·have:x≠n:=by rintro rfl;exact h v List.mem_cons_self
   simp [this]
  ·rfl
theorem lT {kindOf:Str→Option NameKind} {x:Str}:∀ {binds:List (Str×Value)} {m:Str→Option Value},(∀ v,(x,v)∉binds)→bindC kindOf binds m x=m x
 | [],_,_=>rfl
 | (n,v) :: r,m,h=>by
  unfold bindC
  rw [lT fun w hw=>h w (List.mem_cons_of_mem _ hw)]
  split
  ·rfl
  ·have:x≠n:=by rintro rfl;exact h v List.mem_cons_self
   simp [this]
theorem lU {kindOf:Str→Option NameKind} {x:Str} {v:Value}:∀ {P:List Str} {vs:List Value} {i:Nat} {m:Str→Option Value},P.Nodup→P[i]?=some x→vs[i]?=some v→kindOf x=some .local→
  bindL kindOf (P.zip vs) m x=some v
 | [],_,_,_,_,h,_,_=>by simp at h
 | _ :: _,[],_,_,_,_,h,_=>by simp at h
 | p :: P,w :: vs,0,m,nd,h1,h2,hk=>by
  simp at h1 h2;subst h1;subst h2
  show bindL kindOf ((p,w) :: P.zip vs) m p=_
  unfold bindL
  rw [lS fun v hv=>(List.nodup_cons.mp nd).1 (List.of_mem_zip hv).1,if_pos hk]
  simp
 | p :: P,w :: vs,i + 1,m,nd,h1,h2,hk=>by
  show bindL kindOf ((p,w) :: P.zip vs) m x=_
  unfold bindL
  exact lU (i:=i) (List.nodup_cons.mp nd).2 (by simpa using h1) (by simpa using h2) hk
theorem lV {kindOf:Str→Option NameKind} {x:Str} {v:Value}:∀ {P:List Str} {vs:List Value} {i:Nat} {m:Str→Option Value},P.Nodup→P[i]?=some x→vs[i]?=some v→kindOf x≠some .local→
  bindC kindOf (P.zip vs) m x=some v
 | [],_,_,_,_,h,_,_=>by simp at h
 | _ :: _,[],_,_,_,_,h,_=>by simp at h
 | p :: P,w :: vs,0,m,nd,h1,h2,hk=>by
  simp at h1 h2;subst h1;subst h2
  show bindC kindOf ((p,w) :: P.zip vs) m p=_
  unfold bindC
  rw [lT fun v hv=>(List.nodup_cons.mp nd).1 (List.of_mem_zip hv).1,if_neg hk]
  simp
 | p :: P,w :: vs,i + 1,m,nd,h1,h2,hk=>by
  show bindC kindOf ((p,w) :: P.zip vs) m x=_
  unfold bindC
  exact lV (i:=i) (List.nodup_cons.mp nd).2 (by simpa using h1) (by simpa using h2) hk
noncomputable def start (N:List Str) (vs:List V):St:=vs.map some++List.replicate (N.length - vs.length) none
noncomputable def ua (CX:CXT) (P:Program) (w:World) (K:W.Frag) (mg:Str→Option Value) (base:Heap) (N:List Str) (qual:Str) (scope:Scope) (f:Addr) (cd:Value) (A:Around) (outer:List Env) (s:Shared) (H:Hp) (E:XK):Cx where
 prog:=P
 w:=w
 K:=K
 mg:=mg
 base:=base
 A:=A.deeper (envOfC qual scope s.heap.objs.size f cd)
 N:=N
 s₀:=s
 H₀:=H
 env:=envOfC qual scope s.heap.objs.size f cd
 outer:=outer
 stack:=envOfC qual scope s.heap.objs.size f cd :: outer
 ex:=[]
 calm:=true
 fn:=fun _=>true
 pn:=[]
 xe:=fun e s'=>wpAny (model P w) (A.deeper (envOfC qual scope s.heap.objs.size f cd)) (leaving (envOfC qual scope s.heap.objs.size f cd) e) (fun _ s''=>CX outer H s E e s'') (fun e' s''=>CX outer H s E e' s'') s'
theorem oI {sc:Scope} {n:Nat} {x:Str} (h:sc.names.lookup x=some .cell):∃ c,(cellsFrom n sc.names []).lookup x=some c:=by
 have q:=PySem.W.cellsFrom_some sc.names n [] (.inl h)
 exact Option.isSome_iff_exists.mp q
theorem qN {CX:CXT} {P:Program} {w:World} {K:W.Frag} {mg:Str→Option Value} {base:Heap} {N ps:List Str} {qual:Str} {scope:Scope} {f:Addr} {cd:Value} {A:Around} {outer:List Env} {s s1:Shared} {H:Hp} {E:XK} {us:List Value} {vs:List V}
  (S:FnScope N ps scope) (hd:A.handled=none) (e0:Env0 P w K mg base A outer s H) (hl:vs.length=ps.length) (r:Vals vs us)
  (x:InCallC s s.heap.objs.size (bindL (envOfC qual scope s.heap.objs.size f cd).kindOf (ps.zip us) fun _=>none) (cellsFrom (s.heap.objs.size + 1) scope.names []) (bindC (envOfC qual scope s.heap.objs.size f cd).kindOf (ps.zip us) fun _=>none) s1) :
  Inv (ua CX P w K mg base N qual scope f cd A outer s H E) [] (start N vs) H s1:=by
 have hpl:ps.length≤N.length:=by have:=congrArg List.length S.pre;rw [List.length_take] at this;lia
 obtain ⟨h1,tk,rfl,hk⟩:=x.done
 have noA:∀ b:Addr,b∉(ua CX P w K mg base N qual scope f cd A outer s H E).ex:=fun b z=>absurd (show b∈([]:List Addr) from z) (by simp)
 refine ⟨⟨e0.mod,S.kind,rfl,rfl,Nat.le_refl _,fun y z c h1 h2=>?_,fun y hy=>?_,fun y c _ h=>?_,fun _=>hd,Around.frames_deeper e0.frames,.inr ⟨rfl,rfl⟩,fun b z=>absurd z (noA b),e0.bs,e0.bsz,fun b _ _=>noA b,fun b z=>absurd z (noA b),e0.funs,e0.frf⟩,
  rfl,e0.bare,Un.kept hk,⟨_,x.toInCall.ns,fun i y v h1 h2 h3=>?_⟩,fun y c h=>⟨_,x.cell y c h⟩,e0.hok.fresh (Nat.le_refl _),fun y c h=>?_,fun p hp=>absurd (show p∈([]:List (Addr×Obj)) from hp) (by simp),e0.hok.kept hk,?_⟩
 ·exact name_of_addr x.apart (PySem.mem_of_lookup h1) (PySem.mem_of_lookup h2)
 ·have hy:scope.names.lookup y=some .cell∨scope.names.lookup y=some .free:=hy
  rcases hy with hy | hy
  ·exact oI hy
  ·exact absurd rfl (S.nofree _ (PySem.mem_of_lookup hy))
 ·exact Nat.le_of_lt (x.above y c (PySem.mem_of_lookup h))
 ·have hi:i < vs.length:=by
   unfold start at h2
   by_cases hi:i < vs.length
   ·exact hi
   ·rw [List.getElem?_append_right (by simpa using hi)] at h2
    rw [List.getElem?_replicate] at h2
    split at h2 <;> cases h2
  have ha:vs[i]?=some v:=by
   unfold start at h2
   rw [List.getElem?_append_left (by simpa using hi),List.getElem?_map] at h2
   cases e:vs[i]? with
   | none=>rw [e] at h2;cases h2
   | some a=>rw [e] at h2;cases h2;rfl
  obtain ⟨u,hu,rv⟩:=r.get ha
  have hp:ps[i]?=some y:=by
   rw [←S.pre,List.getElem?_take_of_lt (by lia)];exact h1
  have ndP:ps.Nodup:=by rw [←S.pre];exact S.nd.sublist (List.take_sublist _ _)
  refine ⟨u,rv,?_⟩
  rcases S.par y (List.mem_of_getElem? hp) with k | k
  ·exact .inl ⟨k,lU ndP hp hu k⟩
  ·obtain ⟨c,e⟩:=oI (n:=s.heap.objs.size + 1) k
   refine .inr ⟨.inl k,c,e,?_⟩
   have q:=x.cell y c e
   rw [lV ndP hp hu (by show scope.names.lookup y≠_;rw [k];decide)] at q
   exact q
 ·exact e0.hok.fresh (Nat.le_of_lt (x.above y c (PySem.mem_of_lookup h)))
 ·unfold start
  show _=N.length
  rw [List.length_append,List.length_map,List.length_replicate]
  lia
theorem Bz {CX:CXT} {P:Program} {w:World} {K:W.Frag} {mg:Str→Option Value} {base:Heap} {k:Nat} {f:Addr} {name qual:Str} {params:Arguments} {body:List Stmt} {scope:Scope} {dV kV doc pm cdv ct oc:Value} {an od:Option Addr}
  {osl:Array (Option Value)} {N ps:List Str} {sp:Sp} (lk:K.lookup f=some ⟨oc,od,.func (PySem.W.fnOf name qual params body scope dV kV doc pm an cdv ct),osl⟩) (hcd:PySem.W.codeIn K cdv qual=true) (S:FnScope N ps scope)
  (len:∀ vs H Q E,sp vs H Q E→vs.length=ps.length)
  (hbody:∀ (A:Around) (outer:List Env) (s:Shared) (H:Hp) (vs:List V) (Q:VK) (E:XK),Room k (A.deeper (envOfC qual scope s.heap.objs.size f cdv))→sp vs H Q E→
   ∃ t,PSs (ua CX P w K mg base N qual scope f cdv A outer s H E) body t∧t { nx:=fun _ H'=>Q .non H',rt:=Q } (start N vs) H) :
  FnOk P w K mg base CX (k + 1) f (PySem.W.fnOf name qual params body scope dV kV doc pm an cdv ct) ps sp:=by
 refine ⟨len,fun A outer s H args us vs Q E hr e0 hb r hsp=>?_⟩
 have hl:=len _ _ _ _ hsp
 have KX:K.In s.heap:=e0.mod.kin.keeps fun b o e=>(e0.bs b o e).1
 have lim:s.heap.NoLimit:=e0.mod.nolimit.keeps fun b o e=>(e0.bs b o e).1
 have hkind:∀ y∈ps.zip us,scope.names.lookup y.1=some .local∨(scope.names.lookup y.1=some .cell∧((cellsFrom (s.heap.objs.size + 1) scope.names []).lookup y.1).isSome=true):=fun hq0 hy=>by
  obtain ⟨n,v⟩:=hq0
  rcases S.par n (List.of_mem_zip hy).1 with q | q
  ·exact .inl q
  ·exact .inr ⟨q,PySem.W.cellsFrom_some _ _ _ (.inl q)⟩
 refine codeAny_call_function hr.depth (KX _ _ lk) rfl S.co S.gen rfl (PySem.W.codeRec_of KX hcd) (hb _ _ _ _ ?_)
 refine wpAny_newFunctionEnv_cells S.kind hkind fun env he s1 x=>?_
 subst he
 refine ⟨lim.keeps x.toInCall.keep,codeAny_func ?_⟩
 obtain ⟨t,ht,hq⟩:=hbody A outer s H vs Q E (hr.deeper _) hsp
 have I:Inv (ua CX P w K mg base N qual scope f cdv A outer s H E) [] (start N vs) H s1:=qN S hr.hd e0 hl r x
 refine wpAny_mono (ht [] s1 (start N vs) H _ I hq) (fun fl s' hs=>?_) fun e s' hs=>hs
 have fin:∀ {σ':St} {H':Hp} {v:V} {u:Value},Inv (ua CX P w K mg base N qual scope f cdv A outer s H E) [] σ' H' s'→RelV v u→Q v H'→CE outer P w H s Q u s':=
  fun {σ' H' v u} J rv q=>⟨v,H',J.os,J.bare,J.base,J.hok,rv,q⟩
 cases fl with
 | ret u=>
  obtain ⟨v,σ',H',J,rv,q⟩:=hs
  exact fin J rv q
 | next=>
  obtain ⟨σ',H',J,q⟩:=hs
  exact fin (v:=V.non) (u:=Value.none) J rfl q
 | brk=>
  obtain ⟨_,_,_,q⟩:=hs
  exact False.elim q
 | cont=>
  obtain ⟨_,_,_,q⟩:=hs
  exact False.elim q
section
variable {X:Cx} {x:Str} {p pos:Pos} {e:Expr} {es:List Expr} {t:TA} {id T:String} {r:List V→Hp→VK→Prop}
noncomputable def tCB (r:List V→Hp→VK→Prop) (t:TA):TE:=fun σ H Q=>t σ H fun vs H1=>r vs H1 Q
theorem oJ (hc:cT X (.builtin id) r) (hg:Gl X x) (hm:X.mg x=none) (hv:bootBuiltins x=some (.builtin id)) (ha:PA X (e :: es) t) (hn:x≠"__name__":=by decide) (hdb:(x == ("__debug__" : Str))=false:=by decide)
  (he:starEach (e :: es) X.env=(false,eval e X.env) :: starEach es X.env:=by rfl) (hpl:(backTo pos (starEach es X.env)).any (·.1)=false:=by rfl):PE X (.Call (.Name x p) (e :: es) [] pos) (tCB r t):=by
 intro pins s σ H Q I h
 refine wpAny_Call_Name_kw (jr I hg hm hv ?_ hn hdb)
 exact PyProof.Rows.callWith_builtin1 (thn (ha pos pins s σ H _ I h) fun us s1 ⟨vs,H1,I1,r1,q1⟩=>hc pins s1 σ H1 vs us Q I1 r1 q1) he hpl
theorem qO (hc:cT X (.type T) r) (hg:Gl X x) (hm:X.mg x=none) (hv:bootBuiltins x=some (.type T)) (ha:PA X (e :: es) t) (hn:x≠"__name__":=by decide) (hdb:(x == ("__debug__" : Str))=false:=by decide)
  (he:starEach (e :: es) X.env=(false,eval e X.env) :: starEach es X.env:=by rfl) (hpl:(backTo pos (starEach es X.env)).any (·.1)=false:=by rfl):PE X (.Call (.Name x p) (e :: es) [] pos) (tCB r t):=by
 intro pins s σ H Q I h
 refine wpAny_Call_Name_kw (jr I hg hm hv ?_ hn hdb)
 exact PyProof.Rows.callWith_type1 (thn (ha pos pins s σ H _ I h) fun us s1 ⟨vs,H1,I1,r1,q1⟩=>hc pins s1 σ H1 vs us Q I1 r1 q1) he hpl
end
end L2
namespace HT
open PySem PyProof.Rows
section
open PySem.SeqAt
open PySem.AutoSeq1 (wpAny_loadPart')
open PySem.MeetsSeq PySem.MeetsSeq2 PySem.MeetsSeq3
end
section
variable {prog:Program} {w:World} {A:Around} {E:Value→Shared→Prop} {s:Shared}
theorem wH {t b:Addr} {vs ws:List Value} {Q:Value→Shared→Prop} (ht:IsTup s.heap t vs.toArray) (hb:IsTup s.heap b ws.toArray) (hv:vs≠[])
  (h1:ws=[]→Q (.ref t) s) (h2:ws≠[]→Q (.ref s.heap.objs.size) { s with heap:=s.heap.push { cls:=.type "tuple",data:=.seq (vs++ws).toArray } })
  (hsz:vs.length + ws.length≤sizeLine):wpAny (model prog w) A (binaryOp .Add (.ref t) (.ref b)) Q E s:=by
 obtain ⟨⟨cls,dd,data,sl⟩,ho,hc,n,hd⟩:=id ht
 obtain ⟨⟨cls2,dd2,data2,sl2⟩,ho2,hc2,n2,hd2⟩:=id hb
 simp only at hc hd hc2 hd2
 subst hc hd hc2 hd2
 have e:vs.toArray++ws.toArray=(vs++ws).toArray:=by simp
 by_cases hw:ws=[]
 ·exact concat_meets ⟨_,ho,rfl⟩ ⟨_,ho2,rfl⟩ noFill_tuple_add seq_tuple_add PySem.F.slot_tuple_add PySem.F.entry_tuple_add (PySem.F.args_tuple_add_2 _ _)
   (tuple_addW1 t b vs.toArray ws.toArray n n2 dd dd2 sl sl2 (by simpa using hv) (by simp [hw])) ⟨ho,ho2,h1 hw⟩
 ·refine concat_meets ⟨_,ho,rfl⟩ ⟨_,ho2,rfl⟩ noFill_tuple_add seq_tuple_add PySem.F.slot_tuple_add PySem.F.entry_tuple_add (PySem.F.args_tuple_add_2 _ _)
   (tuple_addW2 t b vs.toArray ws.toArray n n2 dd dd2 sl sl2 (by simpa using hv) (by simpa using hw) (by rw [List.size_toArray,List.size_toArray];exact hsz)) ⟨ho,ho2,?_⟩
  rw [e]
  exact h2 hw
noncomputable def sIx (n d:Nat):Option Int→Nat
 | none=>d
 | some v=>if v < 0 then (v + (n:Int)).toNat else min v.toNat n
theorem oK (n d:Nat):sIx n d none=d:=rfl
theorem qP (n d k:Nat):sIx n d (some (k:Int))=min k n:=by
 show (if (k:Int) < 0 then ((k:Int) + (n:Int)).toNat else min (k:Int).toNat n)=min k n
 rw [if_neg (by lia),Int.toNat_natCast]
theorem qQ (n d:Nat) (hd:d≤n) (o:Option Int):sIx n d o≤n:=by
 cases o with
 | none=>exact hd
 | some v=>
  show (if v < 0 then (v + (n:Int)).toNat else min v.toNat n)≤n
  by_cases hv:v < 0
  ·rw [if_pos hv];lia
  ·rw [if_neg hv];exact Nat.min_le_right _ _
theorem qR (v:Int) (n d:Nat):(if v < 0 then max (v + (n:Int)) 0 else min v (n:Int))=((sIx n d (some v):Nat):Int):=by
 show (if v < 0 then max (v + (n:Int)) 0 else min v (n:Int))=(((if v < 0 then (v + (n:Int)).toNat else min v.toNat n):Nat):Int)
 by_cases hv:v < 0
 ·simp only [if_pos hv];lia
 ·simp only [if_neg hv];lia
theorem pT (lo hi:Option Int) (n:Nat):Builtin.Slice.sliceAdjust lo hi 1 (n:Int)=(((sIx n 0 lo:Nat):Int),((sIx n n hi:Nat):Int)):=by
 have h1:¬ ((1:Int) < 0):=by lia
 unfold Builtin.Slice.sliceAdjust
 simp only [h1,if_false]
 refine Prod.ext ?_ ?_
 ·cases lo with
  | none=>rfl
  | some v=>exact qR v n 0
 ·cases hi with
  | none=>rfl
  | some v=>exact qR v n n
theorem pU (i j:Nat):Builtin.Slice.slicePlaces (i:Int) (j:Int) 1=j - i:=by
 unfold Builtin.Slice.slicePlaces
 have h1:(1:Int) > 0:=by lia
 simp only [h1,if_true,Int.ediv_one]
 split <;> lia
theorem kr {v:Value} {o:Option Int} {Q:Option Int→Shared→Prop} (p:IsPart v o) (h:Q o s):wpAny (model prog w) A (Builtin.Slice.slicePartIndex v) Q E s:=by
 cases p with
 | none=>exact slicePart_none h
 | int i t=>exact slicePart_int h
theorem eU {sl:Addr} {vl vu:Value} {lo hi:Option Int} {n:Nat} {Q:Int×Int×Nat→Shared→Prop} (hs:s.heap.IsSliceOf sl vl vu .none) (pl:IsPart vl lo) (pu:IsPart vu hi)
  (h:Q (((sIx n 0 lo:Nat):Int),1,sIx n n hi - sIx n 0 lo) s):wpAny (model prog w) A (Builtin.Slice.sliceApplied (.ref sl) (pure (n:Int))) Q E s:=by
 obtain ⟨os,hos,hcs,hds⟩:=id hs
 unfold Builtin.Slice.sliceApplied Builtin.Slice.sliceFields
 refine wpAny_bind (wpAny_bind (wpAny_field hos hds (x:=vl) rfl (wpAny_bind (wpAny_field hos hds (x:=vu) rfl (wpAny_bind (wpAny_field hos hds (x:=.none) rfl (wpAny_pure ?_)))))))
 refine wpAny_bind (slicePart_none ?_)
 show wpAny _ _ (if ((1:Int) == 0)=true then _ else _) _ _ s
 rw [if_neg (by decide)]
 refine wpAny_bind (kr pl (wpAny_bind (kr pu (wpAny_bind (wpAny_pure ?_)))))
 show wpAny _ _ (match Builtin.Slice.sliceAdjust lo hi 1 (n:Int) with | (lo,hi)=>pure (lo,(1:Int),Builtin.Slice.slicePlaces lo hi 1)) _ _ s
 rw [pT lo hi n]
 show wpAny _ _ (pure (((sIx n 0 lo:Nat):Int),(1:Int),Builtin.Slice.slicePlaces ((sIx n 0 lo:Nat):Int) ((sIx n n hi:Nat):Int) 1)) _ _ s
 rw [pU]
 exact wpAny_pure h
theorem ub (xs:Array Value) (i k:Nat):((List.range k).filterMap fun (m:Nat)=>xs[((i:Int) + (m:Int) * 1).toNat]?).toArray=((xs.toList.drop i).take k).toArray:=by
 have e:(fun (m:Nat)=>xs[((i:Int) + (m:Int) * 1).toNat]?)=fun m=>xs[i + m]?:=by
  funext m
  have:((i:Int) + (m:Int) * 1).toNat=i + m:=by lia
  rw [this]
 rw [e]
 have:=pick_run xs i k
 rw [List.filterMap_map] at this
 have e2:((fun x=>xs[x]?)∘fun x=>i + x)=fun m=>xs[i + m]?:=rfl
 rw [e2] at this
 rw [this]
theorem iq {t sl:Addr} {items:Array Value} {vl vu:Value} {lo hi:Option Int} {Q:Value→Shared→Prop} (ht:IsTup s.heap t items) (hs:s.heap.IsSliceOf sl vl vu .none) (pl:IsPart vl lo) (pu:IsPart vu hi)
  (hw:¬ (sIx items.size 0 lo=0∧sIx items.size items.size hi=items.size))
  (h:Q (.ref s.heap.objs.size) { s with heap:=s.heap.push { cls:=.type "tuple",data:=.seq ((items.toList.drop (sIx items.size 0 lo)).take (sIx items.size items.size hi - sIx items.size 0 lo)).toArray } })
  (hsz:items.size≤sizeLine):wpAny (model prog w) A (getItem (.ref t) (.ref sl)) Q E s:=by
 have htake:sizeOk (.seq ((items.toList.drop (sIx items.size 0 lo)).take (sIx items.size items.size hi - sIx items.size 0 lo)).toArray):=by
  show ((items.toList.drop (sIx items.size 0 lo)).take (sIx items.size items.size hi - sIx items.size 0 lo)).toArray.size≤sizeLine
  rw [List.size_toArray,List.length_take,List.length_drop,Array.length_toList]
  lia
 have hj:sIx items.size items.size hi≤items.size:=qQ _ _ (Nat.le_refl _) hi
 obtain ⟨os,hos,hcs,hds⟩:=id hs
 have hTs:s.TypeIs (.ref sl) "slice":=⟨os,hos,hcs⟩
 unfold getItem
 try with_reducible refine wpAny_holding ?_
 first | refine wpAny_bind (wpAny_pure ?_) | skip
 refine wpAny_bind (wpAny_sequenceKey ht.typeIs (by decide) ?_)
 refine wpAny_bind (wpAny_callSpecial?_slot (name:=Str.ofString "__getitem__") ht.typeIs PyProof.Rows.slot_tuple_getitem
  (wpAny_call_entry PyProof.Rows.slot_tuple_getitem ht.typeIs entry_tuple_getitem ?_ (args_tuple_getitem _ _)))
 show wpAny _ _ (Builtin.Tuple.tupleItemsOf (.ref t) >>= _) _ _ s
 refine wpAny_bind (tupleItemsOf_ ht ?_)
 refine wpAny_bind (wpAny_typeOf hTs ?_)
 rw [if_pos (by decide)]
 refine wpAny_bind (eU hs pl pu ?_)
 have hno:¬ ((((sIx items.size 0 lo:Nat):Int) == 0 && (1:Int) == 1 && (sIx items.size items.size hi - sIx items.size 0 lo) == items.size)=true):=by
  intro q
  rw [Bool.and_eq_true,Bool.and_eq_true] at q
  have q1:((sIx items.size 0 lo:Nat):Int)=0:=eq_of_beq q.1.1
  have q2:sIx items.size items.size hi - sIx items.size 0 lo=items.size:=eq_of_beq q.2
  exact hw ⟨by lia,by lia⟩
 show wpAny _ _ (if (((sIx items.size 0 lo:Nat):Int) == 0 && (1:Int) == 1 && (sIx items.size items.size hi - sIx items.size 0 lo) == items.size)=true then _ else _) _ _ s
 rw [if_neg hno,ub]
 first
  | exact wpAny_bind (m:=Builtin.Tuple.tupleExact _) (wpAny_newObj_type (wpAny_pure ⟨_,rfl,wpAny_pure h⟩) htake)
  | exact wpAny_bind (m:=Builtin.Tuple.tupleExact _) (wpAny_newObj_type (wpAny_bind (wpAny_pure (wpAny_pure ⟨_,rfl,wpAny_pure h⟩))) htake)
  | exact wpAny_bind (wpAny_bind (m:=Builtin.Tuple.tupleExact _) (wpAny_newObj_type (wpAny_pure (wpAny_pure ⟨_,rfl,wpAny_pure h⟩)) htake))
  | exact wpAny_bind (wpAny_bind (m:=Builtin.Tuple.tupleExact _) (wpAny_newObj_type (wpAny_pure ⟨_,rfl,wpAny_pure h⟩) htake))
end
end HT
namespace L2
open PySem PySem.Spec PyProof.Rows
abbrev TO:=St→Hp→(Option Int→Hp→Prop)→Prop
def PO (X:Cx) (e:Option Expr) (t:TO):Prop:=
 ∀ (pins:List (Addr×Obj)) (s:Shared) (σ:St) (H:Hp) (Q:Option Int→Hp→Prop),Inv X pins σ H s→t σ H Q→
  wpAny (model X.prog X.w) X.A (evalPart e X.env) (fun u s'=>∃ o H',Inv X pins σ H' s'∧IsPart u o∧Q o H') X.xe s
noncomputable def wI:TO:=fun _ H Q=>Q none H
noncomputable def BA (t:TE):TO:=fun σ H Q=>t σ H fun x H1=>∃ i,x=.int i∧Q (some i) H1
section
variable {X:Cx} {e:Expr} {te:TE} {lo hi:Option Expr} {tl th:TO} {pos p2:Pos}
theorem wJ:PO X none wI:=by
 intro pins s σ H Q I h
 rw [evalPart_none]
 exact wpAny_pure ⟨none,H,I,.none,h⟩
theorem wK (h:PE X e te):PO X (some e) (BA te):=by
 intro pins s σ H Q I hw
 rw [evalPart_some]
 refine thn (h pins s σ H _ I hw) fun u s1 hqq=>?_
 obtain ⟨x,H1,I1,r1,q1⟩:=hqq
 obtain ⟨i,rfl,q⟩:=q1
 obtain ⟨t,rfl⟩:=r1
 exact ⟨some i,H1,I1,.int i t,q⟩
def SlR (X:Cx) (r:V→Option Int→Option Int→Hp→VK→Prop):Prop:=
 ∀ (pins:List (Addr×Obj)) (s:Shared) (σ:St) (H:Hp) (x:V) (v vl vu:Value) (lo hi:Option Int) (sl:Addr) (Q:VK),Inv X pins σ H s→RelV x v→s.heap.IsSliceOf sl vl vu .none→IsPart vl lo→IsPart vu hi→r x lo hi H Q→
  ∃ T id,typeLookup (.type T) "__getitem__" = pure (some (.builtin id))∧s.TypeIs v T∧wpAny (model X.prog X.w) X.A (getItem v (.ref sl)) (EP X pins σ Q) X.xe s
noncomputable def tSl (r:V→Option Int→Option Int→Hp→VK→Prop) (te:TE) (tl th:TO):TE:=fun σ H Q=>te σ H fun x H1=>tl σ H1 fun l H2=>th σ H2 fun u H3=>r x l u H3 Q
theorem uc {r:V→Option Int→Option Int→Hp→VK→Prop} (hr:SlR X r) (he:PE X e te) (hl:PO X lo tl) (hu:PO X hi th):PE X (.Subscript e (.Slice lo hi none p2) pos) (tSl r te tl th):=by
 intro pins s σ H Q I h
 refine Subscript_ (thn (he pins s σ H _ I h) fun v s1 hqq=>?_)
 obtain ⟨x,H1,I1,r1,q1⟩:=hqq
 refine wpAny_Slice (thn (hl pins s1 σ H1 _ I1 q1) fun vl s2 ⟨l,H2,I2,pl,q2⟩=>thn (hu pins s2 σ H2 _ I2 q2) fun vu s3 hqq=>?_)
 obtain ⟨u,H3,I3,pu,q3⟩:=hqq
 rw [evalPart_none]
 refine wpAny_pure ?_
 have I4:Inv X pins σ H3 { s3 with heap:=s3.heap.push { cls:=.type "slice",data:=.fields #[vl,vu,.none] } }:=I3.kept (t':=s3.toks) fun b ob q=>Heap.get?_push_of_some _ q
 obtain ⟨T,id,hT,ht,hg⟩:=hr pins { s3 with heap:=s3.heap.push { cls:=.type "slice",data:=.fields #[vl,vu,.none] } } σ H3 x v vl vu l u s3.heap.objs.size Q I4 r1 (Heap.IsSliceOf.new ..) pl pu q3
 show wpAny (model X.prog X.w) X.A (subscriptTail e (.Slice lo hi none p2) v (.ref s3.heap.objs.size)) (EP X pins σ Q) X.xe { s3 with heap:=s3.heap.push { cls:=.type "slice",data:=.fields #[vl,vu,.none] } }
 exact tail_any (ops:=[.ref s3.heap.objs.size,v]) ht hT hg (by with_unfolding_all rfl)
noncomputable def vA (xs:List V) (lo hi:Option Int):List V:=(xs.drop (HT.sIx xs.length 0 lo)).take (HT.sIx xs.length xs.length hi - HT.sIx xs.length 0 lo)
theorem jt (xs:List V) (lo hi:Option Int):(vA xs lo hi).length≤xs.length:=by
 unfold vA
 rw [List.length_take,List.length_drop]
 lia
noncomputable def C5 (K:W.Frag):V→Option Int→Option Int→Hp→VK→Prop:=fun x lo hi H Q=>∃ a xs,x=.ref a∧SqT K H a xs∧
 ¬ (HT.sIx xs.length 0 lo=0∧HT.sIx xs.length xs.length hi=xs.length)∧∀ p,H p=none→Q (.ref p) (upd H p (.tup (vA xs lo hi)))
theorem zg:SlR X (C5 X.K):=by
 intro pins s σ H x v vl vu lo hi sl Q I rx hs pl pu h
 obtain ⟨a,xs,rfl,hx,hw,q⟩:=h
 cases rx
 obtain ⟨its,r,ht,hz⟩:=I.tuple hx
 have hlen:its.toArray.size=xs.length:=by rw [List.size_toArray];exact r.length.symm
 refine ⟨"tuple",_,PyProof.Rows.slot_tuple_getitem.lookup,ht.typeIs,?_⟩
 refine HT.iq ht hs pl pu (by rw [hlen];exact hw) ?_ (by rw [hlen];exact hz)
 rw [hlen]
 refine ⟨.ref s.heap.objs.size,_,I.laid (t':=s.toks) (o:=.tup (vA xs lo hi)) (fun b ob q=>Heap.get?_push_of_some _ q) (Nat.le_refl _) ?_,rfl,q _ (I.hok.fresh (Nat.le_refl _))⟩
 exact ⟨Nat.le_trans (jt xs lo hi) hz,_,(r.drop (HT.sIx xs.length 0 lo)).take (HT.sIx xs.length xs.length hi - HT.sIx xs.length 0 lo),IsTupN.new _ _⟩
noncomputable def BB (K:W.Frag):R2:=fun x y H Q=>∃ a b xs ys,x=.ref a∧y=.ref b∧SqT K H a xs∧SqT K H b ys∧xs≠[]∧xs.length + ys.length≤sizeLine∧
 (ys=[]→Q (.ref a) H)∧(ys≠[]→∀ p,H p=none→Q (.ref p) (upd H p (.tup (xs++ys))))
theorem Vals.nil_iff {xs:List V} {us:List Value} (r:Vals xs us):us=[]↔xs=[]:=by
 cases r with
 | nil=>simp
 | cons _ _=>simp
theorem wL:OpR X (binaryOp .Add) (BB X.K):=by
 intro pins s σ H x y v u Q I rx ry h
 obtain ⟨a,b,xs,ys,rfl,rfl,ha,hb,hx,hz,q1,q2⟩:=h
 cases rx
 cases ry
 obtain ⟨its,r1,p1,_⟩:=I.tuple ha
 obtain ⟨its2,r2,p2,_⟩:=I.tuple hb
 refine HT.wH p1 p2 (fun z=>hx (r1.nil_iff.mp z)) (fun z=>⟨.ref a,H,I,rfl,q1 (r2.nil_iff.mp z)⟩) (fun z=>?_) (by rw [←r1.length,←r2.length];exact hz)
 refine ⟨.ref s.heap.objs.size,_,I.laid (t':=s.toks) (o:=.tup (xs++ys)) (fun b ob q=>Heap.get?_push_of_some _ q) (Nat.le_refl _) ?_,rfl,q2 (fun w=>z (r2.nil_iff.mpr w)) _ (I.hok.fresh (Nat.le_refl _))⟩
 exact ⟨by rw [List.length_append];exact hz,_,r1.append r2,IsTupN.new _ _⟩
end
noncomputable def ixN (n:Nat) (i:Int):Option Nat:=if 0≤i then (if i < n then some i.toNat else none) else if -(n:Int)≤i then some (i + n).toNat else none
noncomputable def atI {α:Type} (xs:List α) (i:Int):Option α:=(ixN xs.length i).bind fun j=>xs[j]?
theorem qS {n:Nat} {i:Int} {j:Nat} (h:ixN n i=some j):seqIndex? i n=some j∧j < n∧-(n:Int)≤i∧i < n:=by
 unfold ixN at h
 by_cases h0:0≤i
 ·rw [if_pos h0] at h
  by_cases h1:i < n
  ·rw [if_pos h1] at h
   have e:i.toNat=j:=Option.some.inj h
   exact ⟨by rw [seqIndex_of h0 h1,e],by lia,by lia,h1⟩
  ·rw [if_neg h1] at h;cases h
 ·rw [if_neg h0] at h
  by_cases h1 : -(n:Int)≤i
  ·rw [if_pos h1] at h
   have e:(i + n).toNat=j:=Option.some.inj h
   exact ⟨by rw [seqIndex_neg (by lia) h1,e],by lia,h1,by lia⟩
  ·rw [if_neg h1] at h;cases h
theorem nh {α:Type} {xs:List α} {i:Int} {v:α} (h:atI xs i=some v):∃ j,seqIndex? i xs.length=some j∧xs[j]?=some v∧j < xs.length∧-(xs.length:Int)≤i∧i < xs.length:=by
 unfold atI at h
 cases e:ixN xs.length i with
 | none=>rw [e] at h;cases h
 | some j=>
  rw [e] at h
  obtain ⟨h1,h2,h3,h4⟩:=qS e
  exact ⟨j,h1,h,h2,h3,h4⟩
theorem eg {α:Type} {xs:List α} {j:Nat} {v:α} (h:xs[j]?=some v):atI xs (j:Int)=some v:=by
 have hj:j < xs.length:=(List.getElem?_eq_some_iff.mp h).1
 have e:ixN xs.length (j:Int)=some j:=by
  unfold ixN
  rw [if_pos (by lia),if_pos (by lia)];simp
 unfold atI;rw [e];exact h
def qT (b:Expr):Prop:=∀ o i,subscripted b false o i=operate [o,i] (getItem o i)
def IxR (X:Cx) (r:R2):Prop:=
 ∀ (value slice:Expr) (pins:List (Addr×Obj)) (s:Shared) (σ:St) (H:Hp) (x y:V) (v u:Value) (Q:VK),Inv X pins σ H s→RelV x v→RelV y u→r x y H Q→
  subscripted slice false v u=operate [v,u] (getItem v u)→wpAny (model X.prog X.w) X.A (subscriptTail value slice v u) (EP X pins σ Q) X.xe s
def MtR (X:Cx) (id:String) (r:V→List V→Hp→VK→Prop):Prop:=
 ∀ (pins:List (Addr×Obj)) (s:Shared) (σ:St) (H:Hp) (x:V) (xs:List V) (v:Value) (us:List Value) (Q:VK),Inv X pins σ H s→RelV x v→Vals xs us→r x xs H Q→
  wpAny (model X.prog X.w) X.A (call (.builtin id) (v :: us)) (EP X pins σ Q) X.xe s
section
variable {X:Cx} {a b:Expr} {ta tb:TE} {pos:Pos}
theorem BC {r:R2} (hr:IxR X r) (ha:PE X a ta) (hb:PE X b tb) (hs:qT b):PE X (.Subscript a b pos) (tOp r ta tb):=by
 intro pins s σ H Q I h
 exact Subscript_ (Bu ha hb I h fun v u s2 x y H2 I2 rx ry q=>hr a b pins s2 σ H2 x y v u Q I2 rx ry q (hs _ _))
noncomputable def C6 (K:W.Frag):R2:=fun x y H Q=>∃ p xs i v,x=.ref p∧y=.int i∧SqL K H p xs∧atI xs i=some v∧Q v H
noncomputable def C7 (K:W.Frag):R2:=fun x y H Q=>∃ p xs i v,x=.ref p∧y=.int i∧SqT K H p xs∧atI xs i=some v∧Q v H
noncomputable def C8:R2:=fun x y H Q=>∃ z i c,x=.str z∧y=.int i∧z.length≤sizeLine∧atI z.cps.toList i=some c∧Q (.str ⟨#[c]⟩) H
theorem wM:IxR X (C6 X.K):=by
 intro value slice pins s σ H x y v u Q I rx ry h hs
 obtain ⟨p,xs,i,z,rfl,rfl,hq,he,q⟩:=h
 cases rx
 obtain ⟨t,rfl⟩:=ry
 obtain ⟨its,r,pl,hz⟩:=I.list hq
 obtain ⟨j,h1,h2,h3,h4,h5⟩:=nh he
 obtain ⟨w,ew,rw'⟩:=r.get h2
 have hl:=r.length
 have hn:=kq
 have fin:EP X pins σ Q w s:=⟨z,H,I,rw',q⟩
 by_cases h0:0≤i
 ·have hj:i.toNat=j:=by
   rw [seqIndex_of h0 h5] at h1
   exact Option.some.inj h1
  exact item_listR pl.isList h0 (by lia) (by rw [hj];simpa using ew) fin hs
 ·have hj:(i + (its.toArray.size:Int)).toNat=j:=by
   rw [seqIndex_neg (by lia) h4] at h1
   rw [List.size_toArray,←hl]
   exact Option.some.inj h1
  exact subscriptTail_builtinR (x:=w) pl.isList.typeIs slot_list_getitem.lookup
   (wpAny_getItem_list_neg (Q:=fun r s'=>r=w∧EP X pins σ Q r s') pl.isList (by lia) (by rw [List.size_toArray] <;> lia) (by lia) (by rw [hj];simpa using ew) ⟨rfl,fin⟩) hs
theorem zh:IxR X (C7 X.K):=by
 intro value slice pins s σ H x y v u Q I rx ry h hs
 obtain ⟨p,xs,i,z,rfl,rfl,hq,he,q⟩:=h
 cases rx
 obtain ⟨t,rfl⟩:=ry
 obtain ⟨its,r,pl,hz⟩:=I.tuple hq
 obtain ⟨j,h1,h2,h3,h4,h5⟩:=nh he
 obtain ⟨w,ew,rw'⟩:=r.get h2
 have hl:=r.length
 have hn:=kq
 have fin:EP X pins σ Q w s:=⟨z,H,I,rw',q⟩
 exact subscriptTail_builtinR (x:=w) pl.typeIs slot_tuple_getitem.lookup
  (getItem_tuple (j:=j) (Q:=fun r s'=>r=w∧EP X pins σ Q r s') pl (by lia) (by lia) (by rw [List.size_toArray,←hl];exact h1) (by simpa using ew) ⟨rfl,fin⟩) hs
theorem zi:IxR X C8:=by
 intro value slice pins s σ H x y v u Q I rx ry h hs
 obtain ⟨z,i,c,rfl,rfl,hz,he,q⟩:=h
 obtain ⟨t,rfl⟩:=rx
 obtain ⟨t',rfl⟩:=ry
 obtain ⟨j,h1,h2,h3,h4,h5⟩:=nh he
 have hl:z.cps.toList.length=z.length:=by simp [Str.length]
 rw [hl] at h1 h4 h5
 have hn:=kq
 exact tail_any (typeIs_str s z t) slot_str_getitem.lookup (getItem_str (c:=c) (by
  have e1:decide (i < -(2 ^ 63:Int))=false:=decide_eq_false (by lia)
  have e2:decide (i ≥ 2 ^ 63)=false:=decide_eq_false (by lia)
  rw [e1,e2,Bool.or_false]) (by rw [h1];simpa using h2) ⟨.str ⟨#[c]⟩,H,I.tok _,⟨_,rfl⟩,q⟩) hs
theorem pV (its:List Value) (n j:Nat) (u:Value):Obj.mapSeq (·.setIfInBounds j u) { cls:=.type "list",data:=.seq its.toArray n }={ cls:=.type "list",data:=.seq (its.set j u).toArray n }:=by
 simp [Obj.mapSeq]
theorem Inv.lst {pins:List (Addr×Obj)} {σ:St} {H:Hp} {s:Shared} {p:Addr} {xs:List V} (I:Inv X pins σ H s) (h:H p=some (.lst xs)) :
  ∃ (its:List Value) (n:Nat),Vals xs its∧s.heap.get? p=some { cls:=.type "list",data:=.seq its.toArray n }∧xs.length≤sizeLine:=by
 obtain ⟨z,its,n,r,e⟩:=I.hok p _ h
 exact ⟨its,n,r,e,z⟩
theorem Inv.lstUpd {pins:List (Addr×Obj)} {σ:St} {H:Hp} {s:Shared} {p:Addr} {xs ys:List V} {its its':List Value} {n n':Nat} {f:Obj→Obj} (I:Inv X pins σ H s) (h:H p=some (.lst xs))
  (ho:s.heap.get? p=some { cls:=.type "list",data:=.seq its.toArray n }) (hf:f { cls:=.type "list",data:=.seq its.toArray n }={ cls:=.type "list",data:=.seq its'.toArray n' }) (r:Vals ys its') (hz:ys.length≤sizeLine) (t:Nat) :
  Inv X pins σ (upd H p (.lst ys)) { s with heap:=s.heap.update p f,toks:=t }:=by
 have e:(s.heap.update p f).get? p=some { cls:=.type "list",data:=.seq its'.toArray n' }:=by
  rw [Heap.get?_update_self f ho (by rw [hf] <;> rfl),hf]
 refine I.write (x:=p) (e:=p) (by rw [h];trivial) (.inl rfl) (fun b u hb q=>(Heap.get?_update_other _ _ (Ne.symm hb)).trans q) ⟨_,e⟩ ?_
 exact ⟨hz,its',n',r,e⟩
noncomputable def zj:V→V→V→Hp→(Hp→Prop)→Prop:=fun o i v H Q=>∃ p xs k j,o=.ref p∧i=.int k∧H p=some (.lst xs)∧ixN xs.length k=some j∧Q (upd H p (.lst (xs.set j v)))
theorem ud:CV X zj:=by
 intro pins s σ H o i v ov iv u Q I ro ri rv h
 obtain ⟨p,xs,k,j,rfl,rfl,hp,hj,q⟩:=h
 cases ro
 obtain ⟨t,rfl⟩:=ri
 obtain ⟨its,n,r,ho,hz⟩:=I.lst hp
 obtain ⟨h1,h2,h3,h4⟩:=qS hj
 have hl:=r.length
 have hn:=kq
 have I':Inv X pins σ (upd H p (.lst (xs.set j v))) { s with heap:=s.heap.update p (Obj.mapSeq (·.setIfInBounds j u)) }:=
  I.lstUpd hp ho (pV its n j u) (r.set rv j) (by rw [List.length_set];exact hz) s.toks
 by_cases h0:0≤k
 ·have hk:k.toNat=j:=by
   rw [seqIndex_of h0 h4] at h1
   exact Option.some.inj h1
  exact PySem.W.ki_setAt ho h0 (by lia) (by rw [List.size_toArray,←hl];exact h4) (by rw [hk];exact ⟨_,I',q⟩)
 ·have hk:(k + (its.toArray.size:Int)).toNat=j:=by
   rw [seqIndex_neg (by lia) h3] at h1
   rw [List.size_toArray,←hl]
   exact Option.some.inj h1
  exact PySem.W.ki_setBack ho (by lia) (by rw [List.size_toArray,←hl];exact h3) (by lia) (by rw [hk];exact ⟨_,I',q⟩)
theorem lW (lo hi:Option Int) (n:Nat):(sliceBounds lo hi none n).1=((HT.sIx n 0 lo:Nat):Int)∧(sliceBounds lo hi none n).2.1=((HT.sIx n n hi:Nat):Int)∧(sliceBounds lo hi none n).2.2=1:=by
 refine ⟨?_,?_,rfl⟩
 ·cases lo with
  | none=>simp [sliceBounds,HT.sIx]
  | some i=>
   simp only [sliceBounds,HT.sIx,Option.getD_none,show (1:Int) > 0 by decide,if_true]
   by_cases h:i < 0
   ·simp only [h,if_true] <;> lia
   ·simp only [h,if_false] <;> lia
 ·cases hi with
  | none=>simp [sliceBounds,HT.sIx]
  | some i=>
   simp only [sliceBounds,HT.sIx,Option.getD_none,show (1:Int) > 0 by decide,if_true]
   by_cases h:i < 0
   ·simp only [h,if_true] <;> lia
   ·simp only [h,if_false] <;> lia
theorem kN (its:List Value) (lo hi:Option Int):slicePick its.toArray lo hi none=((its.drop (HT.sIx its.length 0 lo)).take (HT.sIx its.length its.length hi - HT.sIx its.length 0 lo)).toArray:=by
 obtain ⟨h1,h2,h3⟩:=lW lo hi its.toArray.size
 unfold slicePick
 rw [h1,h2,h3]
 simp only [sliceRange_one,pick_run,List.size_toArray] <;> rfl
noncomputable def C9 (K:W.Frag):V→Option Int→Option Int→Hp→VK→Prop:=fun x lo hi H Q=>∃ a xs,x=.ref a∧SqL K H a xs∧∀ p,H p=none→Q (.ref p) (upd H p (.lst (vA xs lo hi)))
theorem wN:SlR X (C9 X.K):=by
 intro pins s σ H x v vl vu lo hi sl Q I rx hs pl pu h
 obtain ⟨a,xs,rfl,hx,q⟩:=h
 cases rx
 obtain ⟨its,r,ht,hz⟩:=I.list hx
 have hlen:=r.length
 refine ⟨"list",_,slot_list_getitem.lookup,ht.isList.typeIs,?_⟩
 refine wpAny_getItem_list_slice ht.isList hs pl pu .none (by simp) ?_ (by rw [List.size_toArray] <;> lia)
 rw [kN,←hlen]
 refine ⟨.ref s.heap.objs.size,_,I.laid (t':=s.toks) (o:=.lst (vA xs lo hi)) (fun b ob q=>Heap.get?_push_of_some _ q) (Nat.le_refl _) ?_,rfl,q _ (I.hok.fresh (Nat.le_refl _))⟩
 exact ⟨Nat.le_trans (jt xs lo hi) hz,_,0,(r.drop (HT.sIx xs.length 0 lo)).take (HT.sIx xs.length xs.length hi - HT.sIx xs.length 0 lo),Heap.get?_push_size _ rfl⟩
noncomputable def ue:V→Bool
 | .non=>true
 | .bl _=>true
 | .int _=>true
 | .str _=>true
 | _=>false
noncomputable def eqV:V→V→Bool
 | .non,.non=>true
 | .bl a,.bl b=>a == b
 | .bl a,.int b=>(if a then 1 else 0) == b
 | .int a,.bl b=>a == (if b then 1 else 0)
 | .int a,.int b=>a == b
 | .str a,.str b=>a == b
 | _,_=>false
theorem vB {A:Around} {s:Shared} {y x:V} {u v:Value} (ry:RelV y u) (rx:RelV x v) (fy:ue y=true) (fx:ue x=true):SeqAt.EqAt A s u v (eqV y x):=by
 cases y with
 | non=>
  cases ry
  cases x with
  | non=>cases rx;exact SeqAt.EqAt.same _
  | bl b=>cases rx;exact SeqAt.EqAt.none_bool b
  | int b=>obtain ⟨t,rfl⟩:=rx;exact SeqAt.EqAt.none_int b t
  | str b=>obtain ⟨t,rfl⟩:=rx;exact SeqAt.EqAt.none_str b t
  | _=>exact absurd (show false=true from fx) Bool.false_ne_true
 | bl a=>
  cases ry
  cases x with
  | non=>cases rx;exact SeqAt.EqAt.bool_none a
  | bl b=>cases rx;exact SeqAt.EqAt.bool_bool a b
  | int b=>obtain ⟨t,rfl⟩:=rx;exact SeqAt.EqAt.bool_int a b t
  | str b=>obtain ⟨t,rfl⟩:=rx;exact SeqAt.EqAt.bool_str a b t
  | _=>exact absurd (show false=true from fx) Bool.false_ne_true
 | int a=>
  obtain ⟨t',rfl⟩:=ry
  cases x with
  | non=>cases rx;exact SeqAt.EqAt.int_none a t'
  | bl b=>cases rx;exact SeqAt.EqAt.int_bool a t' b
  | int b=>obtain ⟨t,rfl⟩:=rx;exact SeqAt.EqAt.int_int a t' b t
  | str b=>obtain ⟨t,rfl⟩:=rx;exact SeqAt.EqAt.int_str a t' b t
  | _=>exact absurd (show false=true from fx) Bool.false_ne_true
 | str a=>
  obtain ⟨t',rfl⟩:=ry
  cases x with
  | non=>cases rx;exact SeqAt.EqAt.str_none a t'
  | bl b=>cases rx;exact SeqAt.EqAt.str_bool a t' b
  | int b=>obtain ⟨t,rfl⟩:=rx;exact SeqAt.EqAt.str_int a t' b t
  | str b=>obtain ⟨t,rfl⟩:=rx;exact SeqAt.EqAt.str_str a t' b t
  | _=>exact absurd (show false=true from fx) Bool.false_ne_true
 | _=>exact absurd (show false=true from fy) Bool.false_ne_true
theorem iF:cT X (.builtin "len") (fun xs H Q=>∃ p ys,xs=[.ref p]∧(SqL X.K H p ys∨SqT X.K H p ys)∧Q (.int ys.length) H):=by
 intro pins s σ H xs us Q I r h
 obtain ⟨p,ys,rfl,hq,q⟩:=h
 obtain ⟨u,rfl,rx⟩:=fm r
 cases rx
 have hn:=kq
 rcases hq with hq | hq
 ·obtain ⟨its,r',pl,hz⟩:=I.list hq
  have hlen:=r'.length
  exact Calls.call_len_list pl.isList (by simp only [List.size_toArray] <;> lia) ⟨.int ys.length,H,I.tok _,⟨s.toks + 1,by rw [List.size_toArray,hlen]⟩,q⟩
 ·obtain ⟨its,r',pl,hz⟩:=I.tuple hq
  have hlen:=r'.length
  exact len_tuple pl (by simp only [List.size_toArray] <;> lia) ⟨.int ys.length,H,I.tok _,⟨s.toks + 1,by rw [List.size_toArray,hlen]⟩,q⟩
theorem lX:cT X (.builtin "len") (fun xs H Q=>∃ z,xs=[.str z]∧z.length≤sizeLine∧Q (.int z.length) H):=by
 intro pins s σ H xs us Q I r h
 obtain ⟨z,rfl,hz,q⟩:=h
 obtain ⟨u,rfl,t,rfl⟩:=fm r
 have hn:=kq
 exact len_str (by lia) ⟨.int z.length,H,I.tok _,⟨_,rfl⟩,q⟩
theorem iG:cT X (.type "list") (fun xs H Q=>∃ p ys,xs=[.ref p]∧(SqL X.K H p ys∨SqT X.K H p ys)∧∀ l,H l=none→Q (.ref l) (upd H l (.lst ys))):=by
 intro pins s σ H xs us Q I r h
 obtain ⟨p,ys,rfl,hq,q⟩:=h
 obtain ⟨u,rfl,rx⟩:=fm r
 cases rx
 have fin:∀ (its:List Value),Vals ys its→ys.length≤sizeLine→∀ (h':Heap) (c':Nat),(∀ b o',s.heap.get? b=some o'→h'.get? b=some o')→
   h'.get? s.heap.objs.size=some { cls:=.type "list",dict:=none,data:=.seq its.toArray c',slots:=#[] }→EP X pins σ Q (.ref s.heap.objs.size) { s with heap:=h' }:=fun its r' hz h' c' kp e=>
  ⟨.ref s.heap.objs.size,_,I.laid (t':=s.toks) kp (Nat.le_refl _) (show ObjOk X.prog X.w _ h' _ (.lst ys) from ⟨hz,its,c',r',e⟩),rfl,q _ (I.hok.fresh (Nat.le_refl _))⟩
 rcases hq with hq | hq
 ·obtain ⟨its,r',pl,hz⟩:=I.list hq
  have hlen:=r'.length
  obtain ⟨o,ho,hc,n,hd⟩:=pl.isList
  exact call_list_seq p (.inl rfl) ho hc hd (fun h' c' kp e=>fin its r' hz h' c' kp e) (by simp only [List.size_toArray] <;> lia)
 ·obtain ⟨its,r',pl,hz⟩:=I.tuple hq
  have hlen:=r'.length
  obtain ⟨o,ho,hc,n,hd⟩:=pl
  exact call_list_seq p (.inr rfl) ho hc hd (fun h' c' kp e=>fin its r' hz h' c' kp e) (by simp only [List.size_toArray] <;> lia)
theorem gP:cT X (.type "tuple") (fun xs H Q=>∃ p ys,xs=[.ref p]∧((SqL X.K H p ys∧∀ l,H l=none→Q (.ref l) (upd H l (.tup ys)))∨(SqT X.K H p ys∧Q (.ref p) H))):=by
 intro pins s σ H xs us Q I r h
 obtain ⟨p,ys,rfl,h⟩:=h
 obtain ⟨u,rfl,rx⟩:=fm r
 cases rx
 rcases h with ⟨hq,q⟩ | ⟨hq,q⟩
 ·obtain ⟨its,r',pl,hz⟩:=I.list hq
  have hlen:=r'.length
  refine call_tuple_list pl.isList (fun h' kp=>?_) (by simp only [List.size_toArray] <;> lia)
  have I1:Inv X pins σ H { s with heap:=h' }:=I.kept (t':=s.toks) kp
  have I2:Inv X pins σ (upd H h'.objs.size (.tup ys)) { s with heap:=h'.push { cls:=.type "tuple",data:=.seq its.toArray } }:=
   I1.laid (t':=s.toks) (fun b o e=>Heap.get?_push_of_some _ e) (Nat.le_refl _) (show ObjOk X.prog X.w _ _ _ (.tup ys) from ⟨hz,its,r',IsTupN.new _ _⟩)
  exact ⟨.ref h'.objs.size,_,I2,rfl,q _ (I1.hok.fresh (Nat.le_refl _))⟩
 ·obtain ⟨its,r',pl,hz⟩:=I.tuple hq
  exact call_tuple_same pl ⟨.ref p,H,I,rfl,q⟩
def tyV (K:W.Frag) (T:String) (x:V) (H:Hp):Prop:=match x with
 | .str _=>T = "str"
 | .int _=>T = "int"
 | .ref p=>(T = "list"∧∃ xs,SqL K H p xs)∨(T = "tuple"∧∃ o,K.lookup p=some o∧o.cls=.type "tuple"∧o.dict=none)∨
   (T = "dict"∧((∃ kvs,H p=some (.dK kvs))∨∃ kvs,H p=some (.dT kvs)))∨(T = "set"∧∃ S n,H p=some (.set S n))
 | _=>False
theorem vC {pins:List (Addr×Obj)} {σ:St} {H:Hp} {s:Shared} {T:String} {x:V} {v:Value} (I:Inv X pins σ H s) (r:RelV x v) (ty:tyV X.K T x H) :
  s.TypeIs v T∧∀ a,v=.ref a→∃ ob,s.heap.get? a=some ob∧ob.dict=none:=by
 cases x with
 | str z=>
  obtain ⟨t,rfl⟩:=r
  cases (show T = "str" from ty)
  exact ⟨typeIs_str s z t,fun _ e=>nomatch e⟩
 | int i=>
  obtain ⟨t,rfl⟩:=r
  cases (show T = "int" from ty)
  exact ⟨typeIs_int s i t,fun _ e=>nomatch e⟩
 | ref p=>
  cases r
  rcases ty with ⟨rfl,xs,hq⟩ | ⟨rfl,o,hk,hc,hd⟩ | ⟨rfl,hk⟩ | ⟨rfl,S,n,hk⟩
  ·obtain ⟨its,_,pl,_⟩:=I.list hq
   refine ⟨pl.isList.typeIs,fun a e=>?_⟩
   cases e
   obtain ⟨o,n,e,c,hd,_⟩:=pl
   exact ⟨o,e,hd⟩
  ·refine ⟨⟨o,I.kIn p o hk,hc⟩,fun a e=>?_⟩
   cases e
   exact ⟨o,I.kIn _ o hk,hd⟩
  ·have z:∃ o,s.heap.get? p=some o∧o.ExactDict:=by
    rcases hk with ⟨kvs,hk⟩ | ⟨kvs,hk⟩
    ·obtain ⟨_,_,_,_,o,_,_,e,ex,_⟩:=I.hok p _ hk
     exact ⟨o,e,ex⟩
    ·obtain ⟨_,_,_,_,o,_,_,e,ex,_⟩:=I.hok p _ hk
     exact ⟨o,e,ex⟩
   obtain ⟨o,e,ex⟩:=z
   refine ⟨⟨o,e,ex.1⟩,fun a e2=>?_⟩
   cases e2
   exact ⟨o,e,ex.2.1⟩
  ·obtain ⟨o,_,_,_,e,ex,_⟩:=I.hok p _ hk
   refine ⟨⟨o,e,ex.1⟩,fun a e2=>?_⟩
   cases e2
   exact ⟨o,e,ex.2.1⟩
 | _=>exact False.elim ty
noncomputable def Dc (K:W.Frag) (T:String) (r:V→List V→Hp→VK→Prop) (to:TE):TE:=fun σ H Q=>to σ H fun x H1=>tyV K T x H1∧r x [] H1 Q
noncomputable def tBM (K:W.Frag) (T:String) (r:V→List V→Hp→VK→Prop) (to:TE) (t:TA):TE:=fun σ H Q=>to σ H fun x H1=>tyV K T x H1∧t σ H1 fun xs H2=>r x xs H2 Q
variable {o e:Expr} {es:List Expr} {to:TE} {t:TA} {name:Str} {apos cpos:Pos} {T id:String} {r:V→List V→Hp→VK→Prop}
theorem zk (pa:PlainAttrs T) (slot:Slot T name id) (hty:typeOf (.builtin id)=pure (.type "method_descriptor")) (hm:MtR X id r) (ho:PE X o to)
  (hbase:attributeBase o name X.env (eval o X.env)=eval o X.env:=by rfl) (hline:(apos.endLine == cpos.line)=true:=by rfl):PE X (.Call (.Attribute o name apos) [] [] cpos) (Dc X.K T r to):=by
 intro pins s σ H Q I h
 refine wpAny_Call_method0_late hbase hline (thn (ho pins s σ H _ I h) fun v s1 hqq=>?_)
 obtain ⟨x,H1,I1,r1,ty,q1⟩:=hqq
 obtain ⟨h1,h2⟩:=vC I1 r1 ty
 exact ⟨T,id,pa,slot,hty,h1,h2,Calls.callWith_builtin rfl (PySem.evalArgs_none (hm pins s1 σ H1 x [] v [] Q I1 r1 .nil q1))⟩
theorem zl (pa:PlainAttrs T) (slot:Slot T name id) (hty:typeOf (.builtin id)=pure (.type "method_descriptor")) (hm:MtR X id r) (ho:PE X o to) (ha:PA X (e :: es) t)
  (hbase:attributeBase o name X.env (eval o X.env)=eval o X.env:=by rfl)
  (hfew:((backTo cpos (starEach (e :: es) X.env)).all (fun x=>!x.1) && (backToKw cpos (keywordEach [] X.env)).all (fun x=>x.1.isSome)
   && decide ((e :: es).length + ([]:List Keyword).length + (if ([]:List Keyword).isEmpty then 0 else 1) < 30))=true:=by rfl)
  (hline:(apos.endLine == cpos.line)=true:=by rfl) (hs:starEach (e :: es) X.env=(false,eval e X.env) :: starEach es X.env:=by rfl) (hplain:(backTo cpos (starEach es X.env)).any (·.1)=false:=by rfl) :
  PE X (.Call (.Attribute o name apos) (e :: es) [] cpos) (tBM X.K T r to t):=by
 intro pins s σ H Q I h
 refine wpAny_Call_method_late hbase hfew hline rfl (thn (ho pins s σ H _ I h) fun v s1 hqq=>?_)
 obtain ⟨x,H1,I1,r1,ty,q1⟩:=hqq
 obtain ⟨h1,h2⟩:=vC I1 r1 ty
 refine ⟨T,id,pa,slot,hty,h1,h2,?_⟩
 have hA:=ha cpos pins s1 σ H1 _ I1 q1
 rw [hs] at hA ⊢
 refine Calls.callWith_builtin (by show (false || (backTo cpos (starEach es X.env)).any (·.1))=false;rw [hplain] <;> rfl) (Calls.evalArgs_plain ?_)
 exact thn hA fun us s2 ⟨vs,H2,I2,r2,q2⟩=>hm pins s2 σ H2 x vs v us Q I2 r1 r2 q2
end
def MtM (X:Cx) (id:String) (r:V→List V→Hp→VK→Prop):Prop:=
 ∀ (pins:List (Addr×Obj)) (s:Shared) (σ:St) (H:Hp) (x:V) (xs:List V) (v:Value) (us:List Value) (Q:VK),Inv X pins σ H s→RelV x v→Vals xs us→r x xs H Q→
  wpAny (model X.prog X.w) X.A (call (.builtin id) (v :: us)) (EP X pins σ Q) X.xe s
theorem Vals.one:∀ {x:V} {us:List Value},Vals [x] us→∃ u,us=[u]∧RelV x u
 | _,_,.cons r .nil=>⟨_,rfl,r⟩
theorem Vals.zero:∀ {us:List Value},Vals [] us→us=[]
 | _,.nil=>rfl
theorem Vals.dropLast {xs:List V} {us:List Value} (h:Vals xs us):Vals xs.dropLast us.dropLast:=by
 induction h with
 | nil=>exact .nil
 | cons r t ih=>
  cases t with
  | nil=>exact .nil
  | cons q t'=>exact .cons r ih
theorem Vals.rep {xs:List V} {us:List Value} (h:Vals xs us):∀ k:Nat,Vals (List.replicate k xs).flatten (List.replicate k us).flatten
 | 0=>.nil
 | k + 1=>by
  rw [List.replicate_succ,List.replicate_succ,List.flatten_cons,List.flatten_cons]
  exact Vals.append h (Vals.rep h k)
theorem pW {α:Type} (l:List α):l.eraseIdx (l.length - 1)=l.dropLast:=by
 induction l with
 | nil=>rfl
 | cons a r ih=>
  cases r with
  | nil=>rfl
  | cons b r=>
   have e:(a :: b :: r).length - 1=((b :: r).length - 1) + 1:=by
    have h1:(a :: b :: r).length=r.length + 2:=rfl
    have h2:(b :: r).length=r.length + 1:=rfl
    lia
   rw [e,List.eraseIdx_cons_succ,ih]
   all_goals rfl
theorem lY (its:List Value):∀ (k:Nat) (acc:List Value),
  List.foldl (fun x1 x2=>x1++x2) acc.toArray (List.replicate k its.toArray)=(acc++(List.replicate k its).flatten).toArray
 | 0,acc=>by simp
 | k + 1,acc=>by
  have e:acc.toArray++its.toArray=(acc++its).toArray:=by simp
  have e2:(acc++its)++(List.replicate k its).flatten=acc++(List.replicate (k + 1) its).flatten:=by
   rw [List.replicate_succ,List.flatten_cons,List.append_assoc]
  rw [←e2,←lY its k (acc++its),←e,List.replicate_succ,List.foldl_cons]
section
variable {X:Cx} {pins:List (Addr×Obj)} {σ:St} {H:Hp} {s:Shared} {l b:Addr} {xs ys zs:List V}
theorem Inv.lset {its its':List Value} {n:Nat} {f:Array Value→Array Value} {t':Nat} (I:Inv X pins σ H s) (hH:H l=some (.lst xs))
  (e:s.heap.get? l=some { cls:=.type "list",data:=.seq its.toArray n }) (hf:f its.toArray=its'.toArray) (hv:Vals ys its') (hz:ys.length≤sizeLine) :
  Inv X pins σ (upd H l (.lst ys)) { s with heap:=s.heap.update l (Obj.mapSeq f),toks:=t' }:=by
 have q:=PySem.IsL.update e f
 rw [hf] at q
 refine I.write (x:=l) (e:=l) (by rw [hH];exact trivial) (.inl rfl) (fun b' u hb hu=>(Heap.get?_update_other s.heap (Obj.mapSeq f) (Ne.symm hb)).trans hu) ⟨_,q⟩ ?_
 exact ⟨hz,its',_,hv,q⟩
theorem Inv.lnew {its:List Value} {t':Nat} (I:Inv X pins σ H s) (hv:Vals ys its) (hz:ys.length≤sizeLine) :
  Inv X pins σ (upd H s.heap.objs.size (.lst ys)) { s with heap:=s.heap.push { cls:=.type "list",data:=.seq its.toArray },toks:=t' }:=
 I.laid (fun _ _ q=>Heap.get?_push_of_some _ q) (Nat.le_refl _) ⟨hz,its,0,hv,Heap.get?_push_size _ rfl⟩
theorem Inv.fresh (I:Inv X pins σ H s):H s.heap.objs.size=none:=I.hok.fresh (Nat.le_refl _)
theorem Inv.lstM (I:Inv X pins σ H s) (hH:H l=some (.lst xs)):xs.length≤sizeLine∧∃ (its:List Value) (n:Nat),Vals xs its∧xs.length=its.length∧s.heap.get? l=some { cls:=.type "list",data:=.seq its.toArray n }:=by
 obtain ⟨z,its,n,r,e⟩:=I.hok l _ hH
 exact ⟨z,its,n,r,r.length,e⟩
theorem uf {n:Nat} (h:n≤sizeLine):Builtin.List.listTooLong n=false:=by
 unfold Builtin.List.listTooLong
 exact decide_eq_false (by lia)
end
section
variable {X:Cx}
noncomputable def wO:V→List V→Hp→VK→Prop:=fun x vs H Q=>∃ l xs y,x=.ref l∧vs=[y]∧H l=some (.lst xs)∧xs.length < sizeLine∧Q .non (upd H l (.lst (xs++[y])))
theorem lZ:MtM X "list.append" wO:=by
 intro pins s σ H x vs v us Q I rx rv h
 obtain ⟨l,xs,y,rfl,rfl,hH,hz,q⟩:=h
 cases rx
 obtain ⟨u,rfl,ru⟩:=rv.one
 obtain ⟨z,its,n,r,hl,e⟩:=I.lstM hH
 refine call_meets F.slot_list_append ⟨_,e,rfl⟩ F.entry_list_append (F.args_list_append_2 _ _) (PySem.list_append l its.toArray n u (by rw [List.size_toArray];lia)) ⟨e,?_⟩
 refine ⟨.non,_,I.lset (its':=its++[u]) hH e (by simp) (r.append (.cons ru .nil)) ?_,rfl,q⟩
 rw [List.length_append,List.length_singleton]
 lia
noncomputable def De:V→List V→Hp→VK→Prop:=fun x vs H Q=>∃ l xs y,x=.ref l∧vs=[]∧H l=some (.lst xs)∧xs[xs.length - 1]?=some y∧Q y (upd H l (.lst xs.dropLast))
theorem zm:MtM X "list.pop" De:=by
 intro pins s σ H x vs v us Q I rx rv h
 obtain ⟨l,xs,y,rfl,rfl,hH,hy,q⟩:=h
 cases rx
 have hus:=rv.zero
 subst hus
 obtain ⟨z,its,n,r,hl,e⟩:=I.lstM hH
 obtain ⟨u,hu,ru⟩:=r.get hy
 have hy':its.toArray[its.toArray.size - 1]?=some u:=by
  show its.toArray[its.length - 1]?=some u
  rw [←Array.getElem?_toList,←hl]
  exact hu
 refine call_meets F.slot_list_pop ⟨_,e,rfl⟩ F.entry_list_pop (F.args_list_pop_1 _) (MeetsSeq.list_pop_last l its.toArray n u hy' (by rw [List.size_toArray];lia)) ⟨e,?_⟩
 refine ⟨y,_,I.lset (its':=its.dropLast) hH e ?_ r.dropLast ?_,ru,q⟩
 ·show its.toArray.eraseIdxIfInBounds (its.toArray.size - 1)=its.dropLast.toArray
  rw [List.size_toArray,List.eraseIdxIfInBounds_toArray,pW]
 ·rw [List.length_dropLast]
  lia
theorem kO {α:Type} (xs:List α) (k:Nat):(List.replicate k xs).flatten.length=k * xs.length:=by
 induction k with
 | zero=>simp
 | succ k ih=>rw [List.replicate_succ,List.flatten_cons,List.length_append,ih,Nat.succ_mul,Nat.add_comm]
end
section
variable {prog:Program} {w:World} {A:Around} {E:Value→Shared→Prop} {s:Shared}
end
section
variable {X:Cx}
end
end L2
namespace Att
open PySem PySem.W PySem.Calls PyProof.Rows
theorem ju {P:Params} {h:Heap}:∀ (ns:List Int) (vs:List Value),WellAll P h vs (ns.map WData.int)→IntsAre vs ns:=by
 intro ns
 induction ns with
 | nil=>
  intro vs w
  rw [List.map_nil] at w
  cases w
  exact .nil
 | cons n ns ih=>
  intro vs w
  rw [List.map_cons] at w
  cases w with
  | cons a b=>
   cases a
   exact .cons _ _ (ih _ b)
theorem qU {l:OpenLaw} {n:Nat} (hn:l.most=some n) {P:Params} {h:Heap} {args:List WData} {vals:List Value}
  (hpre:l.row.toRowW.claim.pre args=true) (hwl:WellAll P h vals args) :
  ∃ a vs ns,vals=[Value.ref a]∧args=[WData.list (ns.map WData.int)]∧h.get? a=some { cls:=.type "list",data:=.seq vs.toArray }∧IntsAre vs ns∧ns.length≤n:=by
 have hsh:WShape.hasAll [] args [.list .int]=true:=(pre_splitW hpre).1
 have hc:l.pre.holds [] { args:=args }=true:=(pre_splitW hpre).2
 obtain ⟨d,r,rfl,h1,h2⟩:=hasAllW_cons hsh
 obtain rfl:=hasAllW_nil h2
 obtain ⟨xs,rfl,h3⟩:=hasW_list h1
 obtain ⟨ns,rfl⟩:=items_int h3
 have hlen:ns.length≤n:=by
  unfold OpenLaw.pre at hc
  have h4:(WTm.not (.lt (.lit (.int (n:Int))) (.len (.arg 0)))).holds [] { args:=[.list (ns.map .int)] }=true:=by
   have h4:=(holds_andW hc).1
   rw [hn] at h4
   exact h4
  have h5:=condW_of h4 (w_not (w_lt w_lit (w_len_list (w_arg rfl))))
  rw [List.length_map] at h5
  refine Nat.le_of_not_lt fun q=>?_
  have q':(n:Int) < ((ns.length:Nat):Int):=by lia
  first
   | (rw [decide_eq_true q'] at h5;exact absurd h5 (by decide))
   | (simp at h5;lia)
 cases hwl with
 | cons w1 w2=>
  cases w2
  cases w1 with
  | list ho hall=>exact ⟨_,_,ns,rfl,rfl,ho,ju ns _ hall,hlen⟩
theorem qV (l:OpenLaw) (args:List WData):l.row.toRowW.claim.post args (.bool true) args=true:=
 postW_of (r:=l.row.toRowW) (X:=(true == true))
  (show WShape.has [] (.bool true) .bool=true by first | rfl | decide | simp [WShape.has,WShape.arms,WShape.armsAll])
  (show (WTm.eq .res (.lit (.bool true))).value [] { args:=args,res:=some (.bool true),after:=args }=some (.bool (true == true)) from w_eq_bool (w_res rfl) w_lit) rfl
theorem attach_call {l:OpenLaw} {n:Nat} {q:Program} {loose:List Str} {XP:(Str→Option Value)→Heap→Prop} {YP:World→Heap→Prop} {d:DefRec}
  (hn:l.most=some n) (hdf:d.params.defaults=[])
  (call:∀ (w:World) (s₀ s₁:Shared) (mg mb:Str→Option Value) (fa:Addr) (o:Obj) (pm cd doc:Value) (a:Addr) (vs:List Value) (ns:List Int),
   Ground q loose [] XP w s₀ mg mb s₁.heap→YP w s₁.heap→
   s₁.heap.get? fa=some o→o.data=.func (docDef d.name d.params d.body d.scope pm cd doc)→s₁.heap.CodeRec cd d.name→mg d.name=some (.ref fa)→
   s₁.heap.get? a=some { cls:=.type "list",data:=.seq vs.toArray }→IntsAre vs ns→ns.length≤n→s₁.gens = #[]→
   codeAny (model l.prog w) callerA (.call (.ref fa) ⟨[.ref a],[]⟩) (fun r s'=>r=.ok (.ret (.bool true))∧OldK s₁.heap s'.heap∧s'.os=s₁.os∧AllBare s'.gens) s₁) :
  WalkO q loose XP YP l.row.toRowW d [] (fun f vs=>PySem.call f vs):=by
 intro w s₀ s₁ mg mb G Y fa o pm cd doc dV kV ho hd hcd hD hmg hg args vals as hpre hlay hrd hwl hlo
 obtain rfl:dV=.none:=Dflts.none hD hdf
 obtain rfl:kV=.none:=Dflts.noKw hD
 obtain ⟨a,vs,ns,rfl,rfl,hobj,hints,hlen⟩:=qU hn hpre hwl
 refine enter_call (codeAny_mono (call w s₀ s₁ mg mb fa o pm cd doc a vs ns G Y ho (fd_plain hd) hcd hmg hobj hints hlen hg) fun r s' hq=>?_)
 obtain ⟨rfl,h2,h3,h4⟩:=hq
 exact ⟨.inl ⟨.bool true,.bool true,[],rfl,fun _=>rfl,.bool true,qV l _,fun _=>⟨List.Pairwise.nil,fun _ hm=>(nomatch hm)⟩⟩,h2,h3,h4⟩
section
variable {prog:Program} {w:World} {A:Around} {E:Value→Shared→Prop} {s:Shared} {K:Frag}
end
end Att
namespace L2
open PySem PySem.Spec PyProof.Rows
theorem l5:∀ {vs:List Value} {ns:List Int},IntsAre vs ns→Vals (ns.map V.int) vs
 | _,_,.nil=>.nil
 | _,_,.cons n t h=>.cons ⟨t,rfl⟩ (l5 h)
def BD (H:Hp):Prop:=∀ b,H b=none∨∃ o xs,H b=some (.frz o (.lst xs))
theorem ug {P:Program} {w:World} {K:W.Frag} {mg mb:Str→Option Value} {CX:CXT} {k:Nat} {fa a:Addr} {fd:FuncData} {x:Str} {sp:Sp} {s₁:Shared} {vs:List Value} {ns:List Int}
  (KX:K.In s₁.heap) (hns:s₁.heap.Ns mainGlobals mg) (hb:s₁.heap.Ns builtinsNs mb) (hbb:∀ x:Str,x≠"__name__"→mb x=bootBuiltins x) (hlim:s₁.heap.NoLimit) (hg:s₁.gens = #[])
  (ha:s₁.heap.get? a=some { cls:=.type "list",data:=.seq vs.toArray }) (hi:IntsAre vs ns) (hl:ns.length≤sizeLine) (hr:Room k callerA)
  (F:∀ base:Heap,K.In base→base.Ns mainGlobals mg→FnOk P w K mg base CX k fa fd [x] sp) (hbind:∀ (s:Shared) (u:Value),BindsTo s fd ⟨[u],[]⟩ [(x,u)])
  (hsp:∀ H:Hp,BD H→SqL K H a (ns.map V.int)→sp [.ref a] H (fun v _=>v=.bl true) fun _ _ _=>False)
  (hCX:∀ H e s',CX [] H s₁ (fun _ _ _=>False) e s'→False) :
  codeAny (model P w) callerA (.call (.ref fa) ⟨[.ref a],[]⟩) (fun r s'=>r=.ok (.ret (.bool true))∧OldK s₁.heap s'.heap∧s'.os=s₁.os∧AllBare s'.gens) s₁:=by
 have rv:=l5 hi
 have lenV:=hi.length
 have core:∀ H:Hp,BD H→SqL K H a (ns.map V.int)→HOk P w H s₁.heap→(∀ b,H b≠none→b=a)→(H a≠none→K.lookup a=none)→
   codeAny (model P w) callerA (.call (.ref fa) ⟨[.ref a],[]⟩) (fun r s'=>r=.ok (.ret (.bool true))∧OldK s₁.heap s'.heap∧s'.os=s₁.os∧AllBare s'.gens) s₁:=by
  intro H hO hS hok hA hK
  have base_of:∀ {b:Addr} {o:Obj},s₁.heap.get? b=some o→H b=none→(tP s₁.heap H).get? b=some o:=fun e n=>tR e n
  have noA:∀ {b:Addr} {o:Obj} {es:Array DictEntry} {ep:Nat},s₁.heap.get? b=some o→o.data=.dict es ep→H b=none:=fun {b o es ep} e d=>by
   cases q:H b with
   | none=>rfl
   | some u=>
    have e':b=a:=hA b (by rw [q];simp)
    subst e'
    rw [ha] at e;cases e
    have d':Data.seq vs.toArray _=Data.dict es ep:=d
    cases d'
  have nsK:∀ {b:Addr} {m:Str→Option Value},s₁.heap.Ns b m→(tP s₁.heap H).Ns b m:=fun {b m} ⟨o,es,ep,e,d,r⟩=>⟨o,es,ep,base_of e (noA e d),d,r⟩
  have hKb:K.In (tP s₁.heap H):=fun b o e=>base_of (KX b o e) (by
   cases q:H b with
   | none=>rfl
   | some u=>
    have e':b=a:=hA b (by rw [q];simp)
    subst e'
    rw [hK (by rw [q];simp)] at e;cases e)
  have hM:Mod K mg (tP s₁.heap H):=⟨hKb,nsK hns,⟨mb,nsK hb,hbb⟩,let ⟨mc,h1,h2⟩:=hlim;⟨mc,nsK h1,h2⟩⟩
  have e0:Env0 P w K mg (tP s₁.heap H) callerA [] s₁ H:=⟨rfl,hM,fun b o e=>wj e,Nat.le_of_eq (qB _ _),trivial,fun b hb=>absurd (show b∈([]:List Addr) from hb) (by simp),hok,.of_eq hg⟩
  refine codeAny_mono ((F _ hKb (nsK hns)).run callerA [] s₁ H ⟨[.ref a],[]⟩ [.ref a] [.ref a] _ _ hr e0 (hbind s₁ (.ref a)) (.cons rfl .nil) (hsp H hO hS)) fun r s' h=>?_
  cases r with
  | error e=>exact (hCX H e s' h).elim
  | ok fl=>
   cases fl with
   | next=>exact False.elim h
   | brk=>exact False.elim h
   | cont=>exact False.elim h
   | ret u=>
    obtain ⟨v,H',os,bare,un,hok',r',q⟩:=h
    have q':v=.bl true:=q
    subst q'
    obtain rfl:u=Value.bool true:=r'
    refine ⟨rfl,OldK.of_keep fun b o e=>?_,os,bare⟩
    cases q:H b with
    | none=>exact un.keep b o e q (by intro z;exact absurd (show b∈([]:List Addr) from z) (by simp)) (by simp)
    | some u=>
     rcases hO b with z | ⟨ob,xs,z⟩
     ·rw [q] at z;cases z
     ·have z2:=un.frzs b ob _ z
      obtain ⟨e1,_⟩:=hok b _ z
      obtain ⟨e2,_⟩:=hok' b _ z2
      rw [e] at e1;cases e1
      exact e2
 cases hk:K.lookup a with
 | some o=>
  have e:=KX a o hk
  rw [ha] at e
  cases e
  refine core (fun _=>none) (fun _=>.inl rfl) (.inr ⟨_,vs.toArray,_,hk,rfl,rfl,rfl,by rw [List.size_toArray,lenV];exact hl,by simpa using rv⟩) (fun b u z=>by have z':(none:Option HO)=some u:=z;cases z') (fun b z=>absurd rfl z) fun z=>absurd rfl z
 | none=>
  refine core (fun b=>if b=a then some (.frz { cls:=.type "list",data:=.seq vs.toArray } (.lst (ns.map V.int))) else none) (fun b=>?_) (.inl (.inr ⟨{ cls:=.type "list",data:=.seq vs.toArray },if_pos rfl⟩)) (fun b u z=>?_) (fun b z=>?_) fun _=>hk
  ·by_cases hb:b=a
   ·exact .inr ⟨_,_,if_pos hb⟩
   ·exact .inl (if_neg hb)
  ·by_cases hb:b=a
   ·have z':=(if_pos hb).symm.trans z
    cases z'
    subst hb
    exact ⟨ha,by rw [List.length_map];exact hl,vs,_,rv,ha⟩
   ·have z':=(if_neg hb).symm.trans z
    cases z'
  ·by_cases hb:b=a
   ·exact hb
   ·exact absurd (if_neg hb) z
theorem wQ {l:PySem.W.OpenLaw} {n k:Nat} {q:Program} {loose:List Str} {XP:(Str→Option Value)→Heap→Prop} {YP:World→Heap→Prop} {d:DefRec} {K:Params→W.Frag} {CX:World→CXT} {sp:World→Sp} {x:Str}
  (hn:l.most=some n) (hn2:n≤sizeLine) (hdf:d.params.defaults=[]) (hr:Room k callerA)
  (hY:∀ (w:World) (h:Heap),YP w h→(K w.params).In h)
  (F:∀ (w:World) (mg:Str→Option Value) (fa:Addr) (h:Heap),(K w.params).In h→h.Ns mainGlobals mg→mg d.name=some (.ref fa)→
   ∃ fd:FuncData,(∀ (s:Shared) (u:Value),BindsTo s fd ⟨[u],[]⟩ [(x,u)])∧
    ∀ base:Heap,(K w.params).In base→base.Ns mainGlobals mg→FnOk l.prog w (K w.params) mg base (CX w) k fa fd [x] (sp w))
  (hsp:∀ (w:World) (H:Hp) (a:Addr) (ns:List Int),ns.length≤n→BD H→SqL (K w.params) H a (ns.map V.int)→sp w [.ref a] H (fun v _=>v=.bl true) fun _ _ _=>False)
  (hCX:∀ (w:World) (H:Hp) (s:Shared) (e:Value) (s':Shared),CX w [] H s (fun _ _ _=>False) e s'→False) :
  PySem.W.WalkO q loose XP YP l.row.toRowW d [] (fun f vs=>PySem.call f vs):=by
 refine Att.attach_call hn hdf fun w s₀ s₁ mg mb fa o pm cd doc a vs ns G Y ho hd hcd hmg hobj hints hlen hg=>?_
 have KX:=hY w _ Y
 obtain ⟨fd,hb,hF⟩:=F w mg fa _ KX G.T.g hmg
 exact ug KX G.T.g G.T.b G.T.builtins G.T.nolimit hg hobj hints (Nat.le_trans hlen hn2) hr hF hb (fun H hO hS=>hsp w H a ns hlen hO hS) fun H e s'=>hCX w H s₁ e s'
noncomputable def eh (s:Stmt):Arguments:=match s with
 | .FunctionDef _ a _ _ _ _ _ _ _ _=>a
 | _=>{ posonlyargs:=[],args:=[],vararg:=none,kwonlyargs:=[],kw_defaults:=[],kwarg:=none,defaults:=[] }
noncomputable def cF (s:Stmt):List Stmt:=match s with
 | .FunctionDef _ _ b _ _ _ _ _ _ _=>b
 | _=>[]
noncomputable def defScope (s:Stmt):Scope:=match s with
 | .FunctionDef _ _ _ _ _ _ sc _ _ _=>sc
 | _=>{ kind:=.function,names:=[],isGenerator:=false,isCoroutine:=false }
abbrev CX0:CXT:=fun _ _ _ _ _ _=>False
abbrev E0:XK:=fun _ _ _=>False
theorem BE {X:Cx}:qM CX0 X E0:=fun _ _ _ _ _ _ _ h=>h.elim
structure Fun (K:W.Frag) (x qual:Str) (st:Stmt) (f:Addr) (fd:FuncData):Prop where
 ex:∃ (oc:Value) (od:Option Addr) (kV doc pm:Value) (an:Option Addr) (cdv ct:Value) (osl:Array (Option Value)),
  fd=PySem.W.fnOf x qual (eh st) (cF st) (defScope st) .none kV doc pm an cdv ct∧K.lookup f=some ⟨oc,od,.func fd,osl⟩∧PySem.W.codeIn K cdv qual=true
 kp:PySem.W.keepIn K (.ref f)=true
section
variable {P:Program} {w:World} {K:W.Frag} {mg:Str→Option Value} {base:Heap}
theorem Fun.ok {x qual:Str} {st:Stmt} {f:Addr} {fd:FuncData} {N ps:List Str} {k:Nat} {sp:Sp} (F:Fun K x qual st f fd) (S:FnScope N ps (defScope st)) (len:∀ vs H Q E,sp vs H Q E→vs.length=ps.length)
  (hbody:∀ (cdv:Value) (A:Around) (outer:List Env) (s:Shared) (H:Hp) (vs:List V) (Q:VK) (E:XK),Room k (A.deeper (envOfC qual (defScope st) s.heap.objs.size f cdv))→sp vs H Q E→
   ∃ t,PSs (ua CX0 P w K mg base N qual (defScope st) f cdv A outer s H E).nox (cF st) t∧t { nx:=fun _ H'=>Q .non H',rt:=Q } (start N vs) H):FnOk P w K mg base CX0 (k + 1) f fd ps sp:=by
 obtain ⟨oc,od,kV,doc,pm,an,cdv,ct,osl,rfl,lk,hcd⟩:=F.ex
 refine Bz lk hcd S len fun A outer s H vs Q E hr hsp=>?_
 obtain ⟨t,h,q⟩:=hbody cdv A outer s H vs Q E hr hsp
 exact ⟨t,h.nox,q⟩
theorem Fun.binds {x qual:Str} {st:Stmt} {f:Addr} {fd:FuncData} {ps:List Str} (F:Fun K x qual st f fd)
  (h:∀ (kV doc pm:Value) (an:Option Addr) (cdv ct:Value) (us:List Value),us.length=ps.length→bindArgs (PySem.W.fnOf x qual (eh st) (cF st) (defScope st) .none kV doc pm an cdv ct) ⟨us,[]⟩=pure (ps.zip us)):Binds K fd ps []:=by
 obtain ⟨oc,od,kV,doc,pm,an,cdv,ct,osl,rfl,lk,hcd⟩:=F.ex
 exact .all (h kV doc pm an cdv ct)
theorem vD {x qual:Str} {st:Stmt} {f:Addr} {oc:Value} {od an:Option Addr} {osl:Array (Option Value)} {kV doc pm cdv ct:Value} (l:K.lookup f=some ⟨oc,od,.func (PySem.W.fnOf x qual (eh st) (cF st) (defScope st) .none kV doc pm an cdv ct),osl⟩)
  (c:PySem.W.codeIn K cdv qual=true) (k:PySem.W.keepIn K (.ref f)=true):Fun K x qual st f (PySem.W.fnOf x qual (eh st) (cF st) (defScope st) .none kV doc pm an cdv ct):=⟨⟨oc,od,kV,doc,pm,an,cdv,ct,osl,rfl,l,c⟩,k⟩
end
theorem hu_of {A:Around} {k:Nat} (hr:Room k A):A.units + 1 < cLine:=Nat.lt_of_le_of_lt (Nat.add_le_add_left (by decide:1≤64) _) hr.units
section
variable {X:Cx}
theorem pv (i:Nat) {x:Str} {pos:Pos} (hN:X.N[i]?=some x:=by rfl) (hv:Vis X.env.scope x:=by first | exact Or.inl rfl | exact Or.inr (Or.inl rfl) | exact Or.inr (Or.inr rfl)) (hd:(x == ("__debug__" : Str))=false:=by decide)
  (hcd:(x == ("__classdict__" : Str))=false:=by decide):PE X (.Name x pos) (tJ i):=yI hN hv hd hcd
end
theorem iteF {A B:Prop} (h:B):if false=true then A else B:=by
 rw [if_neg Bool.false_ne_true]
 exact h
theorem zo {A B:Prop} (h:A):if true=true then A else B:=by
 rw [if_pos rfl]
 exact h
def Same (H H':Hp):Prop:=∀ b o,H b=some o→H' b=some o
theorem Same.refl (H:Hp):Same H H:=fun _ _ h=>h
theorem Same.trans {H H1 H2:Hp} (a:Same H H1) (b:Same H1 H2):Same H H2:=fun c o h=>b c o (a c o h)
theorem Same.free {H H':Hp} (e:Same H H') {l:Addr} (h:H' l=Option.none):H l=Option.none:=by
 cases q:H l with
 | none=>rfl
 | some o=>
  rw [e l o q] at h
  cases h
theorem Same.seq {K:W.Frag} {H H':Hp} {a:Addr} {xs:List V} (e:Same H H') (h:SqL K H a xs):SqL K H' a xs:=by
 rcases h with (h | ⟨o,h⟩) | h
 ·exact .inl (.inl (e _ _ h))
 ·exact .inl (.inr ⟨o,e _ _ h⟩)
 ·exact .inr h
end L2
set_option maxHeartbeats 4000000
namespace NX
open PySem PySem.Spec PyProof.Rows L2
section
variable {X:Cx}
theorem uh (v:Int) (n:Nat):max (0:Int) (min (if v < 0 then v + (n:Int) else v) (n:Int))=((HT.sIx n 0 (some v):Nat):Int):=by
 show _=(((if v < 0 then (v + (n:Int)).toNat else min v.toNat n):Nat):Int)
 split <;> lia
theorem zp (a b:Nat):sliceRange (a:Int) (b:Int) 1=(List.range (b - a)).map (fun k=>a + k):=by
 unfold sliceRange
 rw [if_pos (by decide:(1:Int) > 0)]
 by_cases hlt:(a:Int) < b
 ·have e3:(((b:Int) - a + 1 - 1) / 1).toNat=b - a:=by first | lia | (simp;done) | (simp;lia)
  simp only [hlt,if_true,e3]
  refine List.map_congr_left fun k _=>?_
  lia
 ·have:b - a=0:=by lia
  simp [hlt,this]
theorem Dg (lo hi:Option Int) (n:Nat):Builtin.Str.strSliceIndices lo hi 1 n=(List.range (HT.sIx n n hi - HT.sIx n 0 lo)).map (fun k=>HT.sIx n 0 lo + k):=by
 rw [←zp]
 unfold Builtin.Str.strSliceIndices
 simp only [show (1:Int) > 0 from by decide,if_true]
 cases lo with
 | none=>
  cases hi with
  | none=>rfl
  | some v=>exact congrArg (fun z=>sliceRange 0 z 1) (uh v n)
 | some u=>
  cases hi with
  | none=>exact congrArg (fun z=>sliceRange z (n:Int) 1) (uh u n)
  | some v=>exact (congrArg (fun z=>sliceRange z _ 1) (uh u n)).trans (congrArg (fun z=>sliceRange _ z 1) (uh v n))
noncomputable def zq (xs:List Nat) (lo hi:Option Int):List Nat:=(xs.drop (HT.sIx xs.length 0 lo)).take (HT.sIx xs.length xs.length hi - HT.sIx xs.length 0 lo)
theorem vE {α:Type} (l:List α):∀ (n a:Nat),a + n≤l.length→((List.range n).map (fun k=>a + k)).filterMap (l[·]?)=(l.drop a).take n
 | 0,_,_=>by simp
 | n + 1,a,h=>by
  have hlt:a + n < l.length:=by lia
  rw [List.range_succ,List.map_append,List.filterMap_append,vE l n a (by lia),List.take_add_one,List.getElem?_drop]
  simp [List.getElem?_eq_getElem hlt]
theorem qW (x:Str) (lo hi:Option Int):(Txt.slice x lo hi).cps.toList=zq x.cps.toList lo hi:=by
 have hl:x.cps.toList.length=x.length:=Array.length_toList
 have ha:=HT.qQ x.length 0 (Nat.zero_le _) lo
 have hb:=HT.qQ x.length x.length (Nat.le_refl _) hi
 unfold Txt.slice zq
 rw [Dg,hl]
 split
 ·rename_i h
  have h2:HT.sIx x.length x.length hi - HT.sIx x.length 0 lo=x.length:=by simpa using h
  have ez:HT.sIx x.length 0 lo=0∨x.length=0:=by lia
  rcases ez with e | e
  ·rw [h2,e,List.drop_zero,List.take_of_length_le (by lia)]
  ·have:x.cps.toList=[]:=List.eq_nil_of_length_eq_zero (by lia)
   rw [this]
   simp
 ·have hk:∀ (f:List Nat),f.filterMap (x.cps[·]?)=f.filterMap (x.cps.toList[·]?):=fun f=>by
   congr 1
   funext i
   simp
  show (List.filterMap _ _).toArray.toList=_
  rw [List.toList_toArray,hk]
  by_cases hle:HT.sIx x.length 0 lo≤HT.sIx x.length x.length hi
  ·rw [vE _ _ _ (by lia)]
  ·have e0:HT.sIx x.length x.length hi - HT.sIx x.length 0 lo=0:=by lia
   rw [e0]
   rfl
abbrev S (l:List Nat):Str:=⟨l.toArray⟩
theorem l6 (x:Str):S x.cps.toList=x:=by cases x;simp [S]
theorem S_inj {a b:List Nat} (h:S a=S b):a=b:=by
 have:=congrArg (fun z:Str=>z.cps.toList) h
 simpa [S] using this
theorem l7 (l:List Nat):(S l).length=l.length:=by simp [S,Str.length]
theorem di (l:List Nat):(S l).cps.toList=l:=by simp [S]
theorem BF (a b:List Nat):S a++S b=S (a++b):=by
 rw [←l6 (S a++S b),PySem.W.KT.app_list,di,di]
noncomputable def Dh:V→Option Int→Option Int→Hp→VK→Prop:=fun x lo hi H Q=>∃ l,x=.str (S l)∧l.length≤sizeLine∧Q (.str (S (zq l lo hi))) H
theorem zr:SlR X Dh:=by
 intro pins s σ H x v vl vu lo hi sl Q I rx hs pl pu h
 obtain ⟨l,rfl,hz,q⟩:=h
 obtain ⟨t,rfl⟩:=rx
 have hz':(S l).length≤sizeLine:=by rw [l7];exact hz
 have e:∀ t' k,EP X pins σ Q (.str (Txt.slice (S l) lo hi) t') { s with toks:=k }:=fun t' k=>by
  refine ⟨.str (S (zq l lo hi)),H,I.tok _,⟨t',?_⟩,q⟩
  have e1:=qW (S l) lo hi
  rw [di] at e1
  rw [←e1,l6]
 refine ⟨"str",_,PySem.F.slot_str_getitem.lookup,typeIs_str _ _ _,?_⟩
 have key:∀ (pl' pu':Option (Int×Tok)),partValue pl'=vl→partValue pu'=vu→pl'.map (·.1)=lo→pu'.map (·.1)=hi→
   wpAny (model X.prog X.w) X.A (getItem (.str (S l) t) (.ref sl)) (EP X pins σ Q) X.xe s:=by
  rintro pl' pu' rfl rfl rfl rfl
  exact wpAny_getItem_str_slice (l:=pl') (u:=pu') (st:=none) hs rfl (post_val_or_str ⟨Nat.le_trans (Txt.slice_le (S l) _ _) hz',fun t' k=>e t' k⟩)
 cases pl with
 | none=>
  cases pu with
  | none=>exact key none none rfl rfl rfl rfl
  | int j uj=>exact key none (some (j,uj)) rfl rfl rfl rfl
 | int i ui=>
  cases pu with
  | none=>exact key (some (i,ui)) none rfl rfl rfl rfl
  | int j uj=>exact key (some (i,ui)) (some (j,uj)) rfl rfl rfl rfl
end
def Def (K:W.Frag) (mg:Str→Option Value) (x:Str) (st:Stmt):Prop:=∃ f fd,Fun K x x st f fd∧mg x=some (.ref f)
def Ct (P:Program) (w:World) (K:W.Frag) (mg:Str→Option Value) (base:Heap) (x:Str) (k:Nat) (sp:Sp):Prop:=
 ∃ f fd ps,FnOk P w K mg base CX0 k f fd ps sp∧mg x=some (.ref f)∧PySem.W.keepIn K (.ref f)=true∧Binds K fd ps []
section
variable {X:Cx} {e:Expr} {es:List Expr} {t:TA} {x:Str} {p pos:Pos} {k:Nat} {sp:Sp}
theorem wR (C:Ct X.prog X.w X.K X.mg X.base x k sp) (hr:Room k X.A) (hg:Gl X x) (ha:PA X (e :: es) t) (hdb:(x == ("__debug__" : Str))=false:=by decide)
  (he:starEach (e :: es) X.env=(false,eval e X.env) :: starEach es X.env:=by rfl) (hpl:(backTo pos (starEach es X.env)).any (·.1)=false:=by rfl) :
  PE X (.Call (.Name x p) (e :: es) [] pos) (tCall sp [] E0 t):=by
 obtain ⟨f,fd,ps,G,m,kp,b⟩:=C
 exact wF G hr hg m kp b .nil BE ha hdb he hpl
end
theorem bt_len:bootBuiltins "len" = some (.builtin "len"):=by decide +kernel
theorem kP:bootBuiltins "isinstance" = some (.builtin "isinstance"):=by decide +kernel
theorem ni:bootBuiltins "list" = some (.type "list"):=by decide +kernel
theorem zt:bootBuiltins "int" = some (.type "int"):=by decide +kernel
theorem gQ:bootBuiltins "tuple" = some (.type "tuple"):=by decide +kernel
theorem wU:bootBuiltins "bool" = some (.type "bool"):=by decide +kernel
theorem line_eq:sizeLine=16777216:=sizeLine_eq
theorem flat_strs (a:List (List Nat)):(a.map fun l=>V.str (S l)).all ue=true:=by
 rw [List.all_eq_true]
 intro v hv
 obtain ⟨l,_,rfl⟩:=List.mem_map.mp hv
 rfl
section
variable {X:Cx} {e:Expr} {st:Stmt}
end
noncomputable def clOf (scope:Scope) (env:Env):List (Str×Addr):=scope.names.foldl (fun cs y=>if y.2 == NameKind.free then (y.1,(env.cells.lookup y.1).getD 0) :: cs else cs) []
noncomputable def gf (scope:Scope) (env:Env):Bool:=scope.names.all fun y=>y.2 != NameKind.free || env.kindOf y.1 == some .cell || env.kindOf y.1 == some .free
theorem fS (env:Env):∀ (l:List (Str×NameKind)) (cs:List (Str×Addr)),(∀ y∈l,y.2=.free→∃ c,env.cells.lookup y.1=some c)→
  (forIn l cs fun (y:Str×NameKind) (r:List (Str×Addr))=>(do
   if y.2 == NameKind.free then
    let a ←cellOf env y.1
    pure (ForInStep.yield ((y.1,a) :: r))
   else pure (ForInStep.yield r):Sem (ForInStep (List (Str×Addr)))))=pure (l.foldl (fun cs y=>if y.2 == NameKind.free then (y.1,(env.cells.lookup y.1).getD 0) :: cs else cs) cs)
 | [],cs,_=>by simp
 | y :: l,cs,h=>by
  rw [List.forIn_cons,List.foldl_cons]
  by_cases k:y.2=.free
  ·obtain ⟨c,e⟩:=h y List.mem_cons_self k
   have e2:cellOf env y.1=pure c:=by unfold cellOf;rw [e]
   simp only [k,beq_self_eq_true,if_true,e2,e,Option.getD_some,pure_bind]
   exact fS env l _ fun z hz=>h z (List.mem_cons_of_mem _ hz)
  ·have kb:(y.2 == NameKind.free)=false:=by simpa using k
   simp only [kb,Bool.false_eq_true,if_false,pure_bind]
   exact fS env l _ fun z hz=>h z (List.mem_cons_of_mem _ hz)
theorem gj (env:Env) (x:Str) (c:Addr):∀ (l:List (Str×NameKind)) (cs:List (Str×Addr)),(∀ y∈l,y.2=.free→∃ c,env.cells.lookup y.1=some c)→(cs.lookup x=some c→env.cells.lookup x=some c)→
  (l.foldl (fun cs y=>if y.2 == NameKind.free then (y.1,(env.cells.lookup y.1).getD 0) :: cs else cs) cs).lookup x=some c→env.cells.lookup x=some c
 | [],_,_,h,e=>h e
 | y :: l,cs,hf,h,e=>by
  rw [List.foldl_cons] at e
  refine gj env x c l _ (fun z hz=>hf z (List.mem_cons_of_mem _ hz)) (fun q=>?_) e
  split at q
  ·rename_i k
   have k:y.2=.free:=by simpa using k
   obtain ⟨d,ed⟩:=hf y List.mem_cons_self k
   rw [List.lookup_cons] at q
   cases hx:x == y.1 with
   | true=>
    rw [hx] at q
    have exy:x=y.1:=by simpa using hx
    rw [ed,Option.getD_some] at q
    rw [exy,ed]
    exact q
   | false=>
    rw [hx] at q
    exact h q
  ·exact h q
theorem jv (env:Env) (x:Str):∀ (l:List (Str×NameKind)) (cs:List (Str×Addr)),((∃ d,cs.lookup x=some d)∨(x,NameKind.free)∈l)→
  ∃ d,(l.foldl (fun cs y=>if y.2 == NameKind.free then (y.1,(env.cells.lookup y.1).getD 0) :: cs else cs) cs).lookup x=some d
 | [],_,h=>by
  rcases h with h | h
  ·exact h
  ·cases h
 | y :: l,cs,h=>by
  rw [List.foldl_cons]
  refine jv env x l _ ?_
  rcases h with ⟨d,h⟩ | h
  ·refine .inl ?_
   split
   ·rw [List.lookup_cons]
    cases hx:x == y.1 with
    | true=>exact ⟨_,rfl⟩
    | false=>exact ⟨d,h⟩
   ·exact ⟨d,h⟩
  ·rcases List.mem_cons.mp h with h | h
   ·refine .inl ?_
    rw [←h]
    refine ⟨(env.cells.lookup x).getD 0,?_⟩
    show List.lookup x ((x,_) :: cs)=_
    rw [List.lookup_cons,beq_self_eq_true]
   ·exact .inr h
noncomputable def bE (X:Cx) (scope:Scope) (N:List Str) (C:Addr) (s:Shared) (H:Hp) (fp:List Addr) (pn:List (Addr×Obj)):Cx:=
 { X with N:=N,s₀:=s,H₀:=H,env:=compEnvC scope (clOf scope X.env) C X.env,outer:=X.stack,ex:=fp,fn:=fun _=>false,pn:=pn,xe:=fun _ _=>False }
noncomputable def gR (ix:List (Option Nat)) (σ:L2.St):L2.St:=ix.map fun i=>i.bind fun i=>(σ[i]?).bind id
noncomputable def uk (wi:TI) (ix:List (Option Nat)) (g:TG) (tc:TT) (te:TE):TE:=fun σ H Q=>wi σ H fun J H1=>∀ D,H1 D=none→∃ W:Nat→Nat→L2.St→Hp→Prop,(∃ m,W 0 m (gR ix σ) (upd H1 D (.lst [])))∧
 ∀ i m σ1 H2,W i m σ1 H2→(J.stop i H2∧Q (.ref D) H2)∨(J.go i H2∧∀ x H3,J.yld i H2 x H3→g x σ1 H3 fun σ2 H4=>tc σ2 H4 fun b H5=>if b=true then te σ2 H5 fun v H6=>
  ∃ ys,H6 D=some (.lst ys)∧ys.length < sizeLine∧∃ m',m' < m∧W (i + 1) m' σ2 (upd H6 D (.lst (ys++[v]))) else ∃ m',m' < m∧W (i + 1) m' σ2 H5)
abbrev NoX:Value→Shared→Prop:=fun _ _=>False
theorem noX {α:Type} {M:Model} {A:Around} {t:Sem α} {Q Q':α→Shared→Prop} {E:Value→Shared→Prop} {s:Shared} (h:wpAny M A t Q NoX s) (k:∀ a s,Q a s→Q' a s):wpAny M A t Q' E s:=wpAny_mono h k fun _ _ z=>z.elim
theorem qX {prog:Program} {w:World} {A:Around} {R:Result→Shared→Prop} {s:Shared} {elt target iter:Expr} {ifs:List Expr} {scope:Scope} {pos:Pos} {it acc:Value} {env:Env} (I:Nat→Shared→Prop)
  (turn:∀ n s,I n s→wpAny (model prog w) A (pyNext it) (fun r s₁=>match r with
   | none=>R (.ok .next) s₁
   | some v=>wpAny (model prog w) A (letOwnedTupleGo target it v) (fun _ s₂=>wpAny (model prog w) A (assign target env v) (fun _ s₃=>
     wpAny (model prog w) A (forIn ifs true fun c r=>if r=true then do let ok ←isTrue c env (eval c env);pure (ForInStep.yield ok) else pure (ForInStep.yield r)) (fun ok s₄=>
      if ok=true then wpAny (model prog w) A (eval elt env) (fun x s₅=>
       wpAny (model prog w) A (call (.builtin "list.append") [acc,x]) (fun _ s₆=>∃ m,m < n∧I m s₆) NoX s₅) NoX s₄
      else ∃ m,m < n∧I m s₄) NoX s₃) NoX s₂) NoX s₁) NoX s)
  (n:Nat) (h:I n s):codeAny (model prog w) A (.compLoop (.ListComp elt [⟨target,iter,ifs,0⟩] scope pos) 0 it acc env) R s:=by
 refine codeAny_loop rfl I (fun n s hI=>?_) n h
 show wpAny _ A ((compTurn (.ListComp elt [⟨target,iter,ifs,0⟩] scope pos) 0 it acc env).onRaise (fun x=>do noteFrame x env;theTreesLotGoes x)) _ _ s
 refine wpAny_noted ?_
 rw [compTurn_list]
 refine wpAny_bind (wpAny_standAt (wpAny_bind (noX (turn n s hI) fun r s₁ h₁=>?_)))
 cases r with
 | none=>exact wpAny_pure h₁
 | some v=>
  refine wpAny_bind (noX h₁ fun _ s₂ h₂=>wpAny_bind (noX h₂ fun _ s₃ h₃=>wpAny_bind (noX h₃ fun ok s₄ h₄=>?_)))
  cases ok with
  | false=>exact wpAny_pure ⟨rfl,h₄⟩
  | true=>exact wpAny_bind (wpAny_bind (noX h₄ fun x s₅ h₅=>wpAny_bind (noX h₅ fun _ s₆ h₆=>wpAny_pure (wpAny_pure ⟨rfl,h₆⟩))))
def PTs (X:Cx) (ifs:List Expr) (t:TT):Prop:=
 ∀ (pins:List (Addr×Obj)) (s:Shared) (σ:L2.St) (H:Hp) (Q:Bool→Hp→Prop),Inv X pins σ H s→t σ H Q→
  wpAny (model X.prog X.w) X.A (forIn ifs true fun c r=>if r=true then do let ok ←isTrue c X.env (eval c X.env);pure (ForInStep.yield ok) else pure (ForInStep.yield r)) (TP X pins σ Q) X.xe s
noncomputable def Di:TT:=fun _ H Q=>Q true H
theorem wV {X:Cx}:PTs X [] Di:=fun _ _ _ H _ I h=>wpAny_tests_nil ⟨H,I,h⟩
theorem wW {X:Cx} {c:Expr} {t:TT} (h:PT X c t):PTs X [c] t:=fun pins s σ H Q I k=>wpAny_tests_one (h pins s σ H Q I k)
noncomputable def um (X:Cx) (scope:Scope) (N:List Str) (ix:List (Option Nat)):Bool:=
 N.length == ix.length && (N.zip ix).all fun y=>match y.2 with
  | none=>true
  | some j=>X.N[j]? == some y.1 && scope.names.lookup y.1 == some .free
theorem l8 {scope:Scope} {env:Env} {x:Str} (h:scope.names.lookup x=some .free):(relabel scope env).names.lookup x=some .cell∨(relabel scope env).names.lookup x=some .free:=by
 unfold relabel
 dsimp only
 generalize scope.names=l at h
 induction l with
 | nil=>cases h
 | cons y l ih=>
  obtain ⟨n,k⟩:=y
  rw [List.lookup_cons] at h
  rw [List.map_cons]
  cases hx:x == n with
  | true=>
   rw [hx] at h
   have hk:k=.free:=Option.some.inj h
   subst hk
   dsimp only
   split
   ·exact .inl (by rw [List.lookup_cons,hx])
   ·exact .inr (by rw [List.lookup_cons,hx])
  | false=>
   rw [hx] at h
   dsimp only
   split
   ·rw [List.lookup_cons,hx];exact ih h
   ·rw [List.lookup_cons,hx];exact ih h
theorem l9 {scope:Scope} {env:Env} {x:Str} (hc:∀ y∈scope.names,y.2≠.cell) (h:(relabel scope env).names.lookup x=some .cell∨(relabel scope env).names.lookup x=some .free):(x,NameKind.free)∈scope.names:=by
 unfold relabel at h
 dsimp only at h
 generalize scope.names=l at h hc
 induction l with
 | nil=>rcases h with h | h <;> cases h
 | cons y l ih=>
  obtain ⟨n,k⟩:=y
  rw [List.map_cons] at h
  dsimp only at h
  have nk:k≠.cell:=hc (n,k) List.mem_cons_self
  have rek:=ih (hc:=fun z hz=>hc z (List.mem_cons_of_mem _ hz))
  by_cases cnd:(k == NameKind.free && env.scope.kind == .function && env.kindOf n == some .cell)=true
  ·rw [if_pos cnd,List.lookup_cons] at h
   have kf:k=.free:=by
    have:(k == NameKind.free)=true:=by
     simp only [Bool.and_eq_true] at cnd
     exact cnd.1.1
    simpa using this
   cases hx:x == n with
   | true=>
    have:x=n:=by simpa using hx
    rw [this,kf]
    exact List.mem_cons_self
   | false=>
    rw [hx] at h
    exact List.mem_cons_of_mem _ (rek h)
  ·rw [if_neg cnd,List.lookup_cons] at h
   cases hx:x == n with
   | true=>
    rw [hx] at h
    have:x=n:=by simpa using hx
    rcases h with h | h
    ·exact absurd (Option.some.inj h) nk
    ·rw [this,←Option.some.inj h]
     exact List.mem_cons_self
   | false=>
    rw [hx] at h
    exact List.mem_cons_of_mem _ (rek h)
section
variable {X:Cx} {pins:List (Addr×Obj)} {σ:L2.St} {H:Hp} {s:Shared} {scope:Scope} {N:List Str} {ix:List (Option Nat)} {fp:List Addr}
theorem kQ (ok:X.Ok) (hf:gf scope X.env=true):∀ y∈scope.names,y.2=.free→∃ c,X.env.cells.lookup y.1=some c:=fun y hy k=>by
 have:=List.all_eq_true.mp hf y hy
 rw [k] at this
 simp only [bne_self_eq_false,Bool.false_or,Bool.or_eq_true,beq_iff_eq] at this
 exact ok.has y.1 this
theorem jw (ok:X.Ok) (hf:gf scope X.env=true) {x:Str} {c:Addr} (h:(clOf scope X.env).lookup x=some c):X.env.cells.lookup x=some c:=
 gj X.env x c scope.names [] (kQ ok hf) (fun z=>nomatch z) h
theorem qY (ok:X.Ok) (hf:gf scope X.env=true) {x:Str} (h:(x,NameKind.free)∈scope.names):∃ c,(clOf scope X.env).lookup x=some c∧X.env.cells.lookup x=some c:=by
 obtain ⟨c,e⟩:=jv X.env x scope.names [] (.inr h)
 exact ⟨c,e,jw ok hf e⟩
theorem _root_.L2.Inv.block (I:Inv X pins σ H s) (hf:gf scope X.env=true) (hk:scope.kind=.function) (hcell:∀ y∈scope.names,y.2≠.cell) (hix:um X scope N ix=true) (fo:∀ b∈fp,qv X pins H b) (fin:∀ b∈fp,∃ o,s.heap.get? b=some o)
  {h1:Heap} {t1:Nat} {D C:Addr} (hD:D=s.heap.objs.size) (hC:C=s.heap.objs.size + 1) (old:∀ b o,s.heap.get? b=some o→h1.get? b=some o) {n:Nat} (acc:h1.get? D=some { cls:=.type "list",data:=.seq #[] n })
  {m:Str→Option Value} (ns:h1.Ns C m):Inv (bE X scope N C s H fp (X.pn++pins)) [] (gR ix σ) (upd H D (.lst [])) { s with heap:=h1,toks:=t1 }:=by
 have freshC:s.heap.objs.size≤C:=by rw [hC];exact Nat.le_succ _
 have freshD:s.heap.objs.size≤D:=by rw [hD];exact Nat.le_refl _
 have nD:H D=none:=I.hok.fresh freshD
 have DC:D≠C:=by rw [hD,hC];exact Nat.ne_of_lt (Nat.lt_succ_self _)
 have updn:∀ b,H b=none→b≠D→upd H D (.lst []) b=none:=fun b n z=>by rw [aG z];exact n
 have ltD:∀ b o,s.heap.get? b=some o→b≠D:=fun b o e=>Nat.ne_of_lt (Nat.lt_of_lt_of_le (Heap.lt_size e) freshD)
 have ltC:∀ b o,s.heap.get? b=some o→b≠C:=fun b o e=>Nat.ne_of_lt (Nat.lt_of_lt_of_le (Heap.lt_size e) freshC)
 have cellAt:∀ x c,(clOf scope X.env).lookup x=some c→∃ v o,s.heap.get? c=some o∧o.data=.cell v:=fun x c e=>by
  obtain ⟨v,o,ho,hd⟩:=I.cell x c (jw I.ok hf e)
  exact ⟨v,o,ho,hd⟩
 have okY:(bE X scope N C s H fp (X.pn++pins)).Ok:=by
  refine ⟨I.ok.mod,hk,I.ok.glob,I.ok.blt,freshC,fun x y c e1 e2=>?_,fun x hx=>?_,fun x c z _=>?_,I.ok.hd,I.ok.frames,.inl rfl,fun b hb=>?_,I.bs,?_,fun b o e hb=>?_,fun b hb hs=>?_,I.stack,I.stkFree⟩
  ·exact I.ok.inj x y c (jw I.ok hf e1) (jw I.ok hf e2)
  ·obtain ⟨c,e,_⟩:=qY I.ok hf (l9 hcell hx)
   exact ⟨c,e⟩
  ·exact absurd (show false=true from z) Bool.false_ne_true
  ·obtain ⟨f0,f1,f2,f3,f4,f5⟩:=fo b hb
   refine ⟨?_,fun x c e=>f4 x c (jw I.ok hf e)⟩
   intro z
   have z:b=C:=z
   obtain ⟨o,ho⟩:=fin b hb
   exact ltC b o ho z
  ·exact Nat.le_trans I.ok.bsz I.sz
  ·obtain ⟨f0,f1,f2,f3,f4,f5⟩:=fo b hb
   rcases f3 with q | q
   ·exact I.ok.noex b o e q
   ·exact absurd (Nat.lt_of_lt_of_le (Heap.lt_size e) (Nat.le_trans I.ok.bsz q)) (Nat.lt_irrefl _)
  ·obtain ⟨f0,f1,f2,_⟩:=fo b hb
   exact (List.mem_cons.mp (I.stkSub b hs)).elim f1 f2
 refine ⟨okY,rfl,I.bare,Un.laid old freshD nD,⟨m,ns,fun i x v e1 e2 e3=>?_⟩,fun x c e=>?_,?_,fun x c e=>?_,fun p hp=>?_,I.hok.laid old freshD ⟨Nat.zero_le _,[],n,.nil,acc⟩,?_⟩
 ·
  have e2:(ix.map fun i=>i.bind fun i=>(σ[i]?).bind id)[i]?=some (some v):=e2
  have e1:N[i]?=some x:=e1
  unfold um at hix
  rw [Bool.and_eq_true] at hix
  rw [List.getElem?_map] at e2
  cases q:ix[i]? with
  | none=>rw [q] at e2;cases e2
  | some o=>
   rw [q] at e2
   have e2:(o.bind fun i=>(σ[i]?).bind id)=some v:=Option.some.inj e2
   cases o with
   | none=>cases e2
   | some j=>
    have e2:(σ[j]?).bind id=some v:=e2
    have hσ:σ[j]?=some (some v):=by
     cases w':σ[j]? with
     | none=>rw [w'] at e2;cases e2
     | some y=>rw [w'] at e2;exact congrArg some e2
    have hz:(N.zip ix)[i]?=some (x,some j):=by
     rw [List.getElem?_zip_eq_some]
     exact ⟨e1,q⟩
    have hy:=List.all_eq_true.mp hix.2 _ (List.mem_of_getElem? hz)
    simp only [Bool.and_eq_true,beq_iff_eq] at hy
    have hfr:(x,NameKind.free)∈scope.names:=PySem.mem_of_lookup hy.2
    obtain ⟨c,c1,c2⟩:=qY I.ok hf hfr
    have hkd:X.env.kindOf x=some .cell∨X.env.kindOf x=some .free:=by
     have:=List.all_eq_true.mp hf _ hfr
     simpa using this
    obtain ⟨mo,hno,hlo⟩:=I.loc
    obtain ⟨u,r,l⟩:=hlo j x v hy.1 hσ (.inr hkd)
    refine ⟨u,r,.inr ⟨l8 hy.2,c,c1,?_⟩⟩
    rcases l with ⟨k1,_⟩ | ⟨_,c',e',ho'⟩
    ·rcases hkd with k2 | k2 <;> (rw [k1] at k2;cases k2)
    ·rw [c2] at e'
     cases e'
     obtain ⟨o,ho,hd⟩:=ho'
     exact ⟨o,old c o ho,hd⟩
 ·obtain ⟨v,o,ho,hd⟩:=cellAt x c e
  exact ⟨v,o,old c o ho,hd⟩
 ·exact updn C (I.hok.fresh freshC) (Ne.symm DC)
 ·obtain ⟨v,o,ho,hd⟩:=cellAt x c e
  exact updn c (I.freeC x c (jw I.ok hf e)) (ltD c o ho)
 ·have hp:p∈X.pn++pins:=by
   have:p∈(X.pn++pins)++[]:=hp
   rwa [List.append_nil] at this
  obtain ⟨e,nn,ne,nf,d⟩:=I.pin p hp
  refine ⟨old _ _ e,updn _ nn (ltD _ _ e),ltC _ _ e,fun z=>?_,d⟩
  exact (List.mem_cons.mp (I.stkSub p.1 z)).elim ne nf
 ·unfold um at hix
  rw [Bool.and_eq_true] at hix
  have:N.length=ix.length:=by simpa using hix.1
  show (ix.map _).length=N.length
  rw [List.length_map,this]
theorem _root_.L2.Inv.unblock {C:Addr} {σ1:L2.St} {H1:Hp} {s1:Shared} {h2:Heap} (I:Inv X pins σ H s) (fo:∀ b∈fp,qv X pins H b) (hC:s.heap.objs.size≤C) (J:Inv (bE X scope N C s H fp (X.pn++pins)) [] σ1 H1 s1) (hs:Heap.SameBut C s1.heap h2) :
  Inv X pins σ H1 { s1 with heap:=h2 }:=by
 have ltC:∀ b o,s.heap.get? b=some o→b≠C:=fun b o e=>Nat.ne_of_lt (Nat.lt_of_lt_of_le (Heap.lt_size e) hC)
 have bb:Un (frs X.stack) fp H H1 s.heap s1.heap:=J.base
 have jf:H1 C=none:=J.free
 refine I.call' (s':={ s1 with heap:=h2 }) (ch:=fp) J.os ⟨fun b o e n hb hx=>?_,fun b o e n hb hx=>?_,bb.free,fun b o e hx=>?_,bb.tups,bb.frzs,bb.tbls⟩ (fun b ob e=>?_) J.bare fun b hb=>?_
 ·exact (hs.2 b (ltC b o e)).trans (bb.keep b o e n hb hx)
 ·obtain ⟨sl,q⟩:=bb.slot b o e n hb hx
  exact ⟨sl,(hs.2 b (ltC b o e)).trans q⟩
 ·obtain ⟨o',q⟩:=bb.there b o e hx
  exact ⟨o',(hs.2 b (ltC b o e)).trans q⟩
 ·refine (J.hok b ob e).stay (fun c w' hc q=>(hs.2 c ?_).trans q) (fun _ q=>q) fun _ _ q=>q
  rintro rfl
  rcases hc with rfl | hc
  ·rw [jf] at e;cases e
  ·rw [jf] at hc;cases hc
 ·obtain ⟨f0,f1,f2,f3,f4,f5⟩:=fo b hb
  exact ⟨f3,f1,f4,f5⟩
end
section
variable {X:Cx} {scope:Scope} {N:List Str} {ix:List (Option Nat)} {tg iter elt:Expr} {ifs:List Expr} {pos:Pos} {wi:TI} {g:TG} {tc:TT} {te:TE}
theorem ku {pins:List (Addr×Obj)} {σ:L2.St} {H2:Hp} {s2:Shared} {J:It} {fp:List Addr} {it:Addr} {tn:Nat→Heap→Prop} {Q:VK} {RR:Value→Addr→Result→Shared→Prop} {E:Value→Shared→Prop}
  (hc:X.calm=true) (I2:Inv X pins σ H2 s2) (T:Turn X.prog X.w X.K tg J fp it tn) (st2:tn 0 s2.heap) (f2:∀ b∈fp,qv X pins H2 b)
  (hg:∀ C s H fp pn,PG (bE X scope N C s H fp pn) tg g) (ht:∀ C s H fp pn,PTs (bE X scope N C s H fp pn) ifs tc) (he:∀ C s H fp pn,PE (bE X scope N C s H fp pn) elt te)
  (hf:gf scope X.env=true) (hk:scope.kind=.function) (hcell:∀ y∈scope.names,y.2≠.cell) (hix:um X scope N ix=true)
  (q:∀ D,H2 D=none→∃ W:Nat→Nat→L2.St→Hp→Prop,(∃ m,W 0 m (gR ix σ) (upd H2 D (.lst [])))∧
   ∀ i m σ1 H3,W i m σ1 H3→(J.stop i H3∧Q (.ref D) H3)∨(J.go i H3∧∀ x H4,J.yld i H3 x H4→g x σ1 H4 fun σ2 H5=>tc σ2 H5 fun b H6=>if b=true then te σ2 H6 fun v H7=>
    ∃ ys,H7 D=some (.lst ys)∧ys.length < sizeLine∧∃ m',m' < m∧W (i + 1) m' σ2 (upd H7 D (.lst (ys++[v]))) else ∃ m',m' < m∧W (i + 1) m' σ2 H6))
  (hRR:∀ (D C:Addr) (σ1:L2.St) (H1:Hp) (s1:Shared),s2.heap.objs.size≤C→Inv (bE X scope N C s2 H2 fp (X.pn++pins)) [] σ1 H1 s1→Q (.ref D) H1→RR (.ref D) C (.ok .next) s1) :
  wpAny (model X.prog X.w) X.A (newList []) (fun acc s₃=>wpAny (model X.prog X.w) X.A (newFunctionEnv scope X.env.globals (clOf scope X.env) [] X.env.qual none .none (some X.env)) (fun cenv s₄=>
   codeAny (model X.prog X.w) X.A (.compStart (.ListComp elt [⟨tg,iter,ifs,0⟩] scope pos) 0 (.ref it) acc { cenv with scope:=relabel scope X.env }) (RR acc cenv.locals) s₄) E s₃) E s2:=by
 refine wpAny_newObj_type (wpAny_newFunctionEnv hcell (by intro y hy;simp at hy) (fun h₁ hns₁ hsb₁=>?_) hk)
 dsimp only at hns₁ hsb₁ ⊢
 generalize hH2:s2.heap.push { cls:=.type "list",dict:=none,data:=.seq ([]:List Value).toArray }=HH at hns₁ hsb₁ ⊢
 have hC:HH.objs.size=s2.heap.objs.size + 1:=by rw [←hH2,Heap.size_push]
 have hDC:s2.heap.objs.size≠HH.objs.size:=by rw [hC];exact Nat.ne_of_lt (Nat.lt_succ_self _)
 have hCle:s2.heap.objs.size≤HH.objs.size:=by rw [hC];exact Nat.le_succ _
 have ltC:∀ b o,s2.heap.get? b=some o→b≠HH.objs.size:=fun b o e=>Nat.ne_of_lt (Nat.lt_of_lt_of_le (Heap.lt_size e) hCle)
 have old:∀ b o,s2.heap.get? b=some o→h₁.get? b=some o:=fun b o e=>hsb₁.extBut b o (ltC b o e) (Heap.get?_push_of_some _ (hH2▸Heap.get?_push_of_some _ e))
 have hacc:h₁.get? s2.heap.objs.size=some { cls:=.type "list",data:=.seq #[] 0 }:=hsb₁.extBut _ _ hDC (Heap.get?_push_of_some _ (hH2▸Heap.get?_push_size _ rfl))
 obtain ⟨W,⟨m0,w0⟩,turn⟩:=q s2.heap.objs.size (I2.hok.fresh (Nat.le_refl _))
 have fin:∀ b∈fp,∃ o,s2.heap.get? b=some o:=fun b hb=>let ⟨o,e,_⟩:=T.obj 0 _ st2 b hb;⟨o,e⟩
 have stat:∀ {H':Hp},(∀ b∈fp,H' b=none)→∀ b∈fp,qv (bE X scope N HH.objs.size s2 H2 fp (X.pn++pins)) [] H' b:=fun {H'} hn b hb=>by
  obtain ⟨f0,f1,ff,f3,f4,f5⟩:=f2 b hb
  refine ⟨hn b hb,?_,fun z=>?_,.inl hb,fun x c e=>f4 x c (jw I2.ok hf e),fun p hp=>?_⟩
  ·intro z
   have z:b=HH.objs.size:=z
   obtain ⟨o,ho⟩:=fin b hb
   exact ltC b o ho z
  ·exact (List.mem_cons.mp (I2.stkSub b z)).elim f1 ff
  ·have hp:p∈X.pn++pins:=by
    have:p∈(X.pn++pins)++[]:=hp
    rwa [List.append_nil] at this
   exact f5 p hp
 have loop:∀ s₃:Shared,s₃={ s2 with heap:=h₁,toks:=s2.toks + ([]:List (Str×Value)).length }→
   codeAny (model X.prog X.w) X.A (.compLoop (.ListComp elt [⟨tg,iter,ifs,0⟩] scope pos) 0 (.ref it) (.ref s2.heap.objs.size) (compEnvC scope (clOf scope X.env) HH.objs.size X.env)) (RR (.ref s2.heap.objs.size) HH.objs.size) s₃:=by
  rintro s₃ rfl
  refine qX (fun n s'=>∃ i σ' H',Inv (bE X scope N HH.objs.size s2 H2 fp (X.pn++pins)) [] σ' H' s'∧tn i s'.heap∧(∀ b∈fp,H' b=none)∧W i n σ' H') ?_ m0
   ⟨0,_,_,I2.block hf hk hcell hix f2 fin rfl hC old hacc hns₁,T.keep 0 _ _ st2 fun b _ o e=>old b o e,fun b hb=>?_,w0⟩
  ·rintro n s3 ⟨i,σ3,H3,I3,st3,fr3,w3⟩
   rcases turn i n σ3 H3 w3 with ⟨stop,qn⟩ | ⟨go,step⟩
   ·refine thn (T.done (bE X scope N HH.objs.size s2 H2 fp (X.pn++pins)) rfl rfl rfl hc i [] s3 σ3 H3 NoX I3 (stat fr3) st3 stop) fun r s4 hqq=>?_
    obtain ⟨hr,I4⟩:=hqq
    subst hr
    exact hRR _ _ σ3 H3 s4 hCle I4 qn
   ·refine thn (T.item (bE X scope N HH.objs.size s2 H2 fp (X.pn++pins)) rfl rfl rfl hc i [] s3 σ3 H3 NoX I3 (stat fr3) st3 go) fun r s4 hqq=>?_
    obtain ⟨u,hr,h4⟩:=hqq
    subst hr
    refine thn h4 fun _ s5 hqq=>?_
    obtain ⟨x,H5,I5,r5,y5,st5,fr5⟩:=hqq
    have I5':=I5.pinned (stat fr5) (T.obj _ _ st5)
    refine thn (hg _ _ _ _ _ _ s5 σ3 H5 x u _ I5' r5 (step x H5 y5)) fun _ s6 hqq=>?_
    obtain ⟨σ6,H6,I6,q6⟩:=hqq
    refine thn (ht _ _ _ _ _ _ s6 σ6 H6 _ I6 q6) fun ok s7 hqq=>?_
    obtain ⟨H7,I7,q7⟩:=hqq
    have again:∀ {H8:Hp} {s8:Shared},Inv (bE X scope N HH.objs.size s2 H2 fp (X.pn++pins)) ([]++lQ fp s5.heap) σ6 H8 s8→(∃ m',m' < n∧W (i + 1) m' σ6 H8)→
      ∃ m,m < n∧∃ i σ' H',Inv (bE X scope N HH.objs.size s2 H2 fp (X.pn++pins)) [] σ' H' s8∧tn i s8.heap∧(∀ b∈fp,H' b=none)∧W i m σ' H':=fun {H8 s8} I8 ⟨m',hm,w8⟩=>by
     refine ⟨m',hm,i + 1,σ6,H8,I8.unpinned,T.keep _ _ _ st5 fun b hb o e=>(I8.pin (b,o) (List.mem_append_right _ (List.mem_append_right _ (fR hb e)))).1,fun b hb=>?_,w8⟩
     obtain ⟨o,e,d⟩:=T.obj _ _ st5 b hb
     exact (I8.pin (b,o) (List.mem_append_right _ (List.mem_append_right _ (fR hb e)))).2.1
    cases ok with
    | false=>exact again I7 q7
    | true=>
     show wpAny _ _ _ _ _ _
     refine thn (he _ _ _ _ _ _ s7 σ6 H7 _ I7 q7) fun x8 s8 hqq=>?_
     obtain ⟨v8,H8,I8,r8,ys,hys,hlt,q8⟩:=hqq
     refine thn (lZ _ s8 σ6 H8 (.ref s2.heap.objs.size) [v8] (.ref s2.heap.objs.size) [x8] (fun _ H9=>∃ m',m' < n∧W (i + 1) m' σ6 H9) I8 rfl (.cons r8 .nil) ⟨_,ys,v8,rfl,rfl,hys,hlt,q8⟩) fun _ s9 hqq=>?_
     obtain ⟨_,H9,I9,_,q9⟩:=hqq
     exact again I9 q9
  ·rw [aG (fun z=>by
    obtain ⟨o,ho⟩:=fin b hb
    exact absurd z (Nat.ne_of_lt (Heap.lt_size ho)))]
   exact (f2 b hb).1
 exact codeAny_compStart_list (loop _ rfl) (T.self _ 0 _ _ _ (T.keep 0 _ _ st2 fun b _ o e=>old b o e) (loop _ rfl))
theorem wX (ix:List (Option Nat)) (N:List Str) (hc:X.calm=true) (hi:PI X tg iter wi) (hg:∀ C s H fp pn,PG (bE X scope N C s H fp pn) tg g) (ht:∀ C s H fp pn,PTs (bE X scope N C s H fp pn) ifs tc) (he:∀ C s H fp pn,PE (bE X scope N C s H fp pn) elt te)
  (hf:gf scope X.env=true:=by rfl) (hk:scope.kind=.function:=by rfl) (hcell:∀ y∈scope.names,y.2≠.cell:=by decide +kernel) (hnames:∀ y∈scope.names,y.2=.local→scope.names.lookup y.1=some .local:=by decide +kernel) (hix:um X scope N ix=true:=by rfl)
  (hs:∀ x,foldedSetIterable iter X.env x=pure x:=by intro _;rfl):PE X (.ListComp elt [⟨tg,iter,ifs,0⟩] scope pos) (uk wi ix g tc te):=by
 intro pins s σ H Q I h
 rw [eval_ListComp]
 have hclos:closureFor scope X.env=pure (clOf scope X.env):=by
  unfold closureFor clOf
  have:=fS X.env scope.names [] (kQ I.ok hf)
  simpa using this
 refine wpAny_comprehension_free (use:=none) rfl hs hclos hk hnames (thn (hi pins s σ H _ I h) fun v s1 h1=>thn h1 fun itv s2 h2=>?_)
 obtain ⟨it,fp,tn,J,H2,e,I2,T,st2,f2,q⟩:=h2
 subst e
 refine ku (RR:=fun acc C=>compPost (model X.prog X.w) X.A X.xe none (EP X pins σ Q) acc C) (Q:=Q) (iter:=iter) hc I2 T st2 f2 hg ht he hf hk hcell hix q fun D C σ1 H1 s1 hC J1 q1=>?_
 obtain ⟨m,ns,_⟩:=J1.loc
 exact ⟨m,ns,fun h' hs'=>⟨.ref D,H1,I2.unblock f2 hC J1 hs',rfl,q1⟩⟩
end
section
variable {X:Cx} {scope:Scope} {N:List Str} {ix:List (Option Nat)} {tg iter elt:Expr} {ifs:List Expr} {pos:Pos} {wi:TI} {g:TG} {tc:TT} {te:TE}
theorem qZ {i:Nat} {y:Str} {py spos:Pos} (ix:List (Option Nat)) (N:List Str) (hN:X.N.Nodup) (hiy:X.N[i]?=some y) (hy:Loc X.env.scope y) (hc:X.calm=true) (hi:PI X tg iter wi) (hg:∀ C s H fp pn,PG (bE X scope N C s H fp pn) tg g) (ht:∀ C s H fp pn,PTs (bE X scope N C s H fp pn) ifs tc)
  (he:∀ C s H fp pn,PE (bE X scope N C s H fp pn) elt te) (hsw:swapsWith (.ListComp elt [⟨tg,iter,ifs,0⟩] scope pos) (some (.Name y py)) spos.line X.env=pure true:=by rfl)
  (hf:gf scope X.env=true:=by rfl) (hk:scope.kind=.function:=by rfl) (hcell:∀ y∈scope.names,y.2≠.cell:=by decide +kernel) (hnames:∀ y∈scope.names,y.2=.local→scope.names.lookup y.1=some .local:=by decide +kernel) (hix:um X scope N ix=true:=by rfl)
  (hs:∀ x,foldedSetIterable iter X.env x=pure x:=by intro _;rfl) (hfn:X.fn y=true∨X.env.scope.names.lookup y=some .local:=by first | exact .inl rfl | exact .inr rfl) :
  PS X (.Assign [.Name y py] (.ListComp elt [⟨tg,iter,ifs,0⟩] scope pos) spos) (fun D σ H=>uk wi ix g tc te σ H fun v H'=>D.nx (σ.set i (some v)) H'):=by
 intro pins s σ H Dd I h
 rw [exec_Assign_Name_used _ _ _ _ hsw]
 have hclos:closureFor scope X.env=pure (clOf scope X.env):=by
  unfold closureFor clOf
  have:=fS X.env scope.names [] (kQ I.ok hf)
  simpa using this
 refine wpAny_bind (wpAny_standAt (wpAny_bind ?_))
 show wpAny _ X.A (do let _ ←comprehension (.ListComp elt [⟨tg,iter,ifs,0⟩] scope pos) scope X.env _ (newList []) false (eval iter X.env) (some (assign (.Name y py) X.env))) _ _ s
 refine wpAny_bind (wpAny_mono (wpAny_comprehension_free (use:=some (assign (.Name y py) X.env)) (Q:=fun _ s'=>SP X pins Dd .next s') rfl hs hclos hk hnames
  (thn (hi pins s σ H _ I h) fun v s1 h1=>thn h1 fun itv s2 h2=>?_)) (fun _ s' hq=>wpAny_pure (wpAny_pure hq)) fun _ _ e=>e)
 obtain ⟨it,fp,tn,J,H2,e,I2,T,st2,f2,q⟩:=h2
 subst e
 refine ku (RR:=fun acc C=>compPost (model X.prog X.w) X.A X.xe (some (assign (.Name y py) X.env)) (fun _ s'=>SP X pins Dd .next s') acc C) (Q:=fun v H'=>Dd.nx (σ.set i (some v)) H') (iter:=iter) hc I2 T st2 f2 hg ht he hf hk hcell hix q fun D C σ1 H1 s1 hC J1 q1=>?_
 obtain ⟨m,ns,_⟩:=id J1.loc
 have ns:s1.heap.Ns C m:=ns
 have I3:Inv X pins σ H1 s1:=I2.unblock f2 hC J1 (.refl ..)
 show wpAny _ X.A (assign (.Name y py) X.env (.ref D)) _ _ s1
 refine wpAny_assign_Name (lP I3 hN hiy hy (v:=.ref D) rfl (fun s4 I4 ⟨a,sb,ha⟩=>?_) hfn)
 have aC:C≠a:=by
  intro z
  rcases ha with ha | ha
  ·exact Nat.ne_of_lt (Nat.lt_of_lt_of_le I2.lt hC) (ha▸z.symm)
  ·obtain ⟨v,o,ho,_⟩:=I2.cell y a ha
   exact Nat.ne_of_lt (Nat.lt_of_lt_of_le (Heap.lt_size ho) hC) z.symm
 refine ⟨m,ns.sameBut sb aC,fun h' hs'=>?_⟩
 have jf:H1 C=none:=J1.free
 have kk:∀ b o,b≠C→s4.heap.get? b=some o→h'.get? b=some o:=fun b o hb e=>(hs'.2 b hb).trans e
 refine ⟨σ.set i (some (.ref D)),H1,?_,q1⟩
 have z:=I4.turned (t':=s4.toks) kk jf (fun z=>Nat.ne_of_lt (Nat.lt_of_lt_of_le I2.lt hC) z.symm) (.inr (Nat.le_trans I2.sz hC)) (fun x c e z=>by
  obtain ⟨v,o,ho,_⟩:=I2.cell x c e
  exact Nat.ne_of_lt (Nat.lt_of_lt_of_le (Heap.lt_size ho) hC) z) (fun p hp z=>Nat.ne_of_lt (Nat.lt_of_lt_of_le (Heap.lt_size (I2.pin p hp).1) hC) z)
 exact z
end
noncomputable def Itv (val:Nat→V) (n:Nat):It:=⟨fun i _=>i < n,fun i H x H'=>H'=H∧x=val i,fun i _=>i=n⟩
theorem oM {P:Program} {w:World} {K:W.Frag} {tg:Expr} (ty:String) (hty:["enumerate","zip","dict_itemiterator","dict_reverseitemiterator","odict_iterator","itertools.zip_longest","itertools.pairwise"].contains ty=false) (l:List Nat) (t:Tok) (it:Addr)
  (Wk:∀ A:Around,A.handled=none→Walks P w A it [it] [it] (S l).cps.size (SignAt (S l)) (fun i h=>h.IsStrIter it ty (S l) t i))
  (self:∀ (A:Around) (i:Nat) (s:Shared) (Q:Value→Shared→Prop) (E:Value→Shared→Prop),s.heap.IsStrIter it ty (S l) t i→Q (.ref it) s→wpAny (model P w) A (pyIter (.ref it)) Q E s) :
  Turn P w K tg (Itv (fun i=>.str (S [l.getD i 0])) l.length) [it] it (fun i h=>h.IsStrIter it ty (S l) t i) where
 mem:=by simp
 obj:=fun i h st b hb=>by
  have e:b=it:=by simpa using hb
  subst e
  obtain ⟨o,e,c,d⟩:=st
  exact ⟨o,e,fun v z=>by rw [d] at z;cases z⟩
 keep:=fun i h h' st k=>by
  obtain ⟨o,e,r⟩:=st
  exact ⟨o,k it (by simp) o e,r⟩
 item:=by
  intro X hP hw hK hc i pins s σ H E I hf st hg
  subst hP hw hK
  obtain ⟨f0,f1,f2,f3,f4,f5⟩:=hf it (by simp)
  have hg:i < l.length:=hg
  refine (Wk X.A (I.ok.hd hc)).item i s _ _ (by simpa [S] using hg) st fun v h' tk hv st' kk=>?_
  obtain ⟨c,u,hc',rfl⟩:=hv
  have I1:Inv X pins σ H { s with heap:=h',toks:=tk }:=I.turned (fun b o hb e=>kk b o (by simpa using hb) e) f0 f1 f3 f4 f5
  obtain ⟨o,e,cc,d⟩:=id st'
  have hcl:l.getD i 0=c:=by
   have:l[i]?=some c:=by simpa [S] using hc'
   rw [List.getD_eq_getElem?_getD,this]
   rfl
  refine ⟨_,rfl,tX (s:={ s with heap:=h',toks:=tk }) e cc d hty ⟨.str (S [l.getD i 0]),H,I1,⟨u,?_⟩,⟨rfl,rfl⟩,st',fun b hb=>(hf b hb).1⟩⟩
  rw [hcl]
 done:=by
  intro X hP hw hK hc i pins s σ H E I hf st hg
  subst hP hw hK
  obtain ⟨f0,f1,f2,f3,f4,f5⟩:=hf it (by simp)
  have hg:i=l.length:=hg
  have hn:(S l).cps.size=i:=by rw [hg];simp [S]
  refine (Wk X.A (I.ok.hd hc)).done s _ _ (by rw [hn];exact st) fun h' tk kk=>⟨rfl,I.turned (fun b o hb e=>kk b o (by simpa using hb) e) f0 f1 f3 f4 f5⟩
 self:=self
noncomputable def Dj (tl:TE):TI:=fun σ H R=>tl σ H fun x H1=>∃ l,x=.str (S l)∧R (Itv (fun i=>.str (S [l.getD i 0])) l.length) H1
section
variable {X:Cx} {tg:Expr}
theorem zu {l:Expr} {tl:TE} (hl:PE X l tl):PI X tg l (Dj tl):=by
 intro pins s σ H R I h
 refine thn (hl pins s σ H _ I h) fun v s1 hqq=>?_
 obtain ⟨x,H1,I1,r1,l,e,q⟩:=hqq
 subst e
 obtain ⟨t,rfl⟩:=r1
 cases ha:(S l).cps.all (·< 128)
 ·refine wpAny_pyIter_wide ha ?_
  refine ⟨s1.heap.objs.size,[s1.heap.objs.size],_,_,H1,rfl,I1.kept (t':=s1.toks) fun b o e=>Heap.get?_push_of_some _ e,
   oM "str_iterator" (by decide) l t _ (fun A hA=>Walks.strWide hA _ _ _) (fun _ _ _ _ _ st h=>wpAny_pyIter_striter_wide st h),⟨_,Heap.get?_push_size _ rfl,rfl,rfl⟩,fun b hb=>?_,q⟩
  have e:b=s1.heap.objs.size:=by simpa using hb
  subst e
  exact I1.fpOk (Nat.le_refl _) (I1.hok.fresh (Nat.le_refl _))
 ·refine wpAny_pyIter_ascii ha ?_
  refine ⟨s1.heap.objs.size,[s1.heap.objs.size],_,_,H1,rfl,I1.kept (t':=s1.toks) fun b o e=>Heap.get?_push_of_some _ e,
   oM "str_ascii_iterator" (by decide) l t _ (fun A hA=>Walks.strAscii hA _ _ _) (fun _ _ _ _ _ st h=>wpAny_pyIter_striter_ascii st h),⟨_,Heap.get?_push_size _ rfl,rfl,rfl⟩,fun b hb=>?_,q⟩
  have e:b=s1.heap.objs.size:=by simpa using hb
  subst e
  exact I1.fpOk (Nat.le_refl _) (I1.hok.fresh (Nat.le_refl _))
theorem jc {pins:List (Addr×Obj)} {s:Shared} {σ:L2.St} {H:Hp} {p:Addr} {xs:List V} {E:Value→Shared→Prop} {R:Value→Shared→Prop} (hc:X.calm=true) (I:Inv X pins σ H s) (h:SqL X.K H p xs∨SqT X.K H p xs)
  (k:∀ (it:Addr) (fp:List Addr) (o:Obj) (us:List Value) (Sx:Nat→Heap→Prop),Vals xs us→Walks X.prog X.w X.A.in1 it fp [it] us.length (fun i v=>us[i]?=some v) Sx→Sx 0 (s.heap.push o)→(∀ b∈fp,b < (s.heap.push o).objs.size)→it=s.heap.objs.size→R (.ref it) { s with heap:=s.heap.push o }) :
  wpAny (model X.prog X.w) X.A.in1 (pyIter (.ref p)) R E s:=by
 have hh:X.A.in1.handled=none:=I.ok.hd hc
 rcases h with h | h
 ·obtain ⟨us,r,pl,hz⟩:=I.list h
  have hlt:p < s.heap.objs.size:=by obtain ⟨o,ho,_⟩:=pl.isList;exact Heap.lt_size ho
  refine wpAny_pyIter_list pl.isList (k s.heap.objs.size [s.heap.objs.size,p] _ us (fun i h=>h.IsListIter s.heap.objs.size p i∧h.IsList p us.toArray) r (by
   have W:=Walks.list (prog:=X.prog) (w:=X.w) hh s.heap.objs.size p (Nat.ne_of_lt hlt) us.toArray
   simpa using W) ⟨⟨_,Heap.get?_push_size _ rfl,rfl,rfl⟩,pl.isList.at fun o e=>Heap.get?_push_of_some _ e⟩ (fun b hb=>?_) rfl)
  rw [Heap.size_push]
  rcases List.mem_cons.mp hb with rfl | hb
  ·exact Nat.lt_succ_self _
  ·rw [List.mem_singleton] at hb
   rw [hb]
   exact Nat.lt_succ_of_lt hlt
 ·obtain ⟨us,r,pl,hz⟩:=I.tuple h
  have pl':s.heap.IsTuple p us.toArray:=pl
  have hlt:p < s.heap.objs.size:=by obtain ⟨o,ho,_⟩:=pl;exact Heap.lt_size ho
  refine wpAny_pyIter_tuple pl' (k s.heap.objs.size [s.heap.objs.size,p] _ us (fun i h=>h.IsTupleIter s.heap.objs.size p i∧h.IsTuple p us.toArray) r (by
   have W:=Walks.tuple (prog:=X.prog) (w:=X.w) hh s.heap.objs.size p (Nat.ne_of_lt hlt) us.toArray
   simpa using W) ⟨⟨_,Heap.get?_push_size _ rfl,rfl,rfl⟩,pl'.at fun o e=>Heap.get?_push_of_some _ e⟩ (fun b hb=>?_) rfl)
  rw [Heap.size_push]
  rcases List.mem_cons.mp hb with rfl | hb
  ·exact Nat.lt_succ_self _
  ·rw [List.mem_singleton] at hb
   rw [hb]
   exact Nat.lt_succ_of_lt hlt
theorem fT {pins:List (Addr×Obj)} {s:Shared} {σ:L2.St} {H:Hp} {o:Obj} {h':Heap} {tk:Nat} (I:Inv X pins σ H s) (kk:∀ b ob,b∉[s.heap.objs.size]→(s.heap.push o).get? b=some ob→h'.get? b=some ob) :
  Inv X pins σ H { s with heap:=h',toks:=tk }:=I.kept fun b ob e=>kk b ob (fun z=>Nat.ne_of_lt (Heap.lt_size e) (by simpa using z)) (Heap.get?_push_of_some _ e)
theorem br {α:Type} (l:List α) (i:Nat) (d:α) (h:i < l.length):l.getD i d=l[i]:=by
 rw [List.getD_eq_getElem?_getD,List.getElem?_eq_getElem h]
 rfl
theorem dj {ns:List Int} {us:List Value} (r:Vals (ns.map V.int) us) {i:Nat} {v:Value} (h:us[i]?=some v):∃ t,v=.int (ns.getD i 0) t:=by
 have hl:=r.length
 rw [List.length_map] at hl
 obtain ⟨hi,_⟩:=List.getElem?_eq_some_iff.mp h
 have e1:(ns.map V.int)[i]?=some (.int (ns.getD i 0)):=by
  rw [List.getElem?_map,List.getElem?_eq_getElem (by lia),br _ _ _ (by lia)]
  rfl
 obtain ⟨u,hu,t,rfl⟩:=r.get e1
 rw [h] at hu
 exact ⟨t,Option.some.inj hu⟩
theorem oN {ns:List Int} {us:List Value} (r:Vals (ns.map V.int) us) (A:Around):CmpOf X.prog X.w A .Gt (fun i v=>us[i]?=some v) (fun i j=>decide (ns.getD j 0 < ns.getD i 0)):=by
 intro i j vi vj s Q E hi hj q
 obtain ⟨t,rfl⟩:=dj r hi
 obtain ⟨t',rfl⟩:=dj r hj
 exact gt_int q
theorem rg {ns:List Int} {us:List Value} (r:Vals (ns.map V.int) us) (A:Around):CmpOf X.prog X.w A .Lt (fun i v=>us[i]?=some v) (fun i j=>decide (ns.getD i 0 < ns.getD j 0)):=by
 intro i j vi vj s Q E hi hj q
 obtain ⟨t,rfl⟩:=dj r hi
 obtain ⟨t',rfl⟩:=dj r hj
 exact lt_int q
noncomputable def pX (ns:List Int):Int:=ns.foldl max (ns.headD 0)
noncomputable def wY (ns:List Int):Int:=ns.foldl min (ns.headD 0)
theorem kR (ns:List Int):∀ k,k < ns.length→argBest (fun i j=>decide (ns.getD j 0 < ns.getD i 0)) k < ns.length∧ns.getD (argBest (fun i j=>decide (ns.getD j 0 < ns.getD i 0)) k) 0=(ns.take (k + 1)).foldl max (ns.headD 0)
 | 0,h=>by
  refine ⟨h,?_⟩
  cases ns with
  | nil=>cases h
  | cons a l=>show a=max a a;lia
 | k + 1,h=>by
  obtain ⟨ih1,ih2⟩:=kR ns k (by lia)
  have et:ns.take (k + 1 + 1)=ns.take (k + 1)++[ns.getD (k + 1) 0]:=by
   rw [List.take_add_one,List.getElem?_eq_getElem h,br _ _ _ h]
   rfl
  rw [et,List.foldl_append,←ih2]
  show (if decide (ns.getD (argBest (fun i j=>decide (ns.getD j 0 < ns.getD i 0)) k) 0 < ns.getD (k + 1) 0)=true then k + 1 else argBest (fun i j=>decide (ns.getD j 0 < ns.getD i 0)) k) < ns.length∧
   ns.getD (if decide (ns.getD (argBest (fun i j=>decide (ns.getD j 0 < ns.getD i 0)) k) 0 < ns.getD (k + 1) 0)=true then k + 1 else argBest (fun i j=>decide (ns.getD j 0 < ns.getD i 0)) k) 0=max _ _
  split
  ·rename_i hd
   have:=of_decide_eq_true hd
   exact ⟨h,by lia⟩
  ·rename_i hd
   rw [decide_eq_true_eq] at hd
   exact ⟨ih1,by lia⟩
theorem oO (ns:List Int):∀ k,k < ns.length→argBest (fun i j=>decide (ns.getD i 0 < ns.getD j 0)) k < ns.length∧ns.getD (argBest (fun i j=>decide (ns.getD i 0 < ns.getD j 0)) k) 0=(ns.take (k + 1)).foldl min (ns.headD 0)
 | 0,h=>by
  refine ⟨h,?_⟩
  cases ns with
  | nil=>cases h
  | cons a l=>show a=min a a;lia
 | k + 1,h=>by
  obtain ⟨ih1,ih2⟩:=oO ns k (by lia)
  have et:ns.take (k + 1 + 1)=ns.take (k + 1)++[ns.getD (k + 1) 0]:=by
   rw [List.take_add_one,List.getElem?_eq_getElem h,br _ _ _ h]
   rfl
  rw [et,List.foldl_append,←ih2]
  show (if decide (ns.getD (k + 1) 0 < ns.getD (argBest (fun i j=>decide (ns.getD i 0 < ns.getD j 0)) k) 0)=true then k + 1 else argBest (fun i j=>decide (ns.getD i 0 < ns.getD j 0)) k) < ns.length∧
   ns.getD (if decide (ns.getD (k + 1) 0 < ns.getD (argBest (fun i j=>decide (ns.getD i 0 < ns.getD j 0)) k) 0)=true then k + 1 else argBest (fun i j=>decide (ns.getD i 0 < ns.getD j 0)) k) 0=min _ _
  split
  ·rename_i hd
   have:=of_decide_eq_true hd
   exact ⟨h,by lia⟩
  ·rename_i hd
   rw [decide_eq_true_eq] at hd
   exact ⟨ih1,by lia⟩
theorem rh (hc:X.calm=true):cT X (.builtin "max") (fun vs H Q=>∃ (p:Addr) (ns:List Int),vs=[.ref p]∧(SqL X.K H p (ns.map V.int)∨SqT X.K H p (ns.map V.int))∧ns≠[]∧Q (.int (pX ns)) H):=by
 intro pins s σ H vs us Q I r h
 obtain ⟨p,ns,rfl,hp,hne,q⟩:=h
 obtain ⟨u,rfl,r1⟩:=fm r
 cases r1
 have hn:0 < ns.length:=by cases ns with | nil=>exact absurd rfl hne | cons _ _=>simp
 refine call_max_walk (jc hc I hp fun it fp o ws Sx rv W st hf hit=>?_)
 have hl:=rv.length
 rw [List.length_map] at hl
 refine ⟨it,fp,[it],_,_,Sx,_,rfl,W,st,hf,by lia,oN rv _,fun v h' tk hv kk=>?_⟩
 subst hit
 obtain ⟨b1,b2⟩:=kR ns (ns.length - 1) (by lia)
 rw [←hl] at hv
 obtain ⟨t,rfl⟩:=dj rv hv
 refine ⟨.int (pX ns),H,fT (s:=s) I kk,⟨t,?_⟩,q⟩
 rw [b2,show ns.length - 1 + 1=ns.length by lia,List.take_length]
 rfl
theorem rj (hc:X.calm=true):cT X (.builtin "min") (fun vs H Q=>∃ (p:Addr) (ns:List Int),vs=[.ref p]∧(SqL X.K H p (ns.map V.int)∨SqT X.K H p (ns.map V.int))∧ns≠[]∧Q (.int (wY ns)) H):=by
 intro pins s σ H vs us Q I r h
 obtain ⟨p,ns,rfl,hp,hne,q⟩:=h
 obtain ⟨u,rfl,r1⟩:=fm r
 cases r1
 have hn:0 < ns.length:=by cases ns with | nil=>exact absurd rfl hne | cons _ _=>simp
 refine call_min_walk (jc hc I hp fun it fp o ws Sx rv W st hf hit=>?_)
 have hl:=rv.length
 rw [List.length_map] at hl
 refine ⟨it,fp,[it],_,_,Sx,_,rfl,W,st,hf,by lia,rg rv _,fun v h' tk hv kk=>?_⟩
 subst hit
 obtain ⟨b1,b2⟩:=oO ns (ns.length - 1) (by lia)
 rw [←hl] at hv
 obtain ⟨t,rfl⟩:=dj rv hv
 refine ⟨.int (wY ns),H,fT (s:=s) I kk,⟨t,?_⟩,q⟩
 rw [b2,show ns.length - 1 + 1=ns.length by lia,List.take_length]
 rfl
theorem ma (ns:List Int):∀ k,k≤ns.length→preSum (fun i=>ns.getD i 0) k=(ns.take k).sum
 | 0,_=>by simp [preSum]
 | k + 1,h=>by
  have et:ns.take (k + 1)=ns.take k++[ns.getD k 0]:=by
   rw [List.take_add_one,List.getElem?_eq_getElem (by lia),br _ _ _ (by lia)]
   rfl
  rw [et,List.sum_append,←ma ns k (by lia)]
  simp [preSum]
theorem rm (hc:X.calm=true):cT X (.builtin "sum") (fun vs H Q=>∃ (p:Addr) (ns:List Int),vs=[.ref p]∧(SqL X.K H p (ns.map V.int)∨SqT X.K H p (ns.map V.int))∧Q (.int ns.sum) H):=by
 intro pins s σ H vs us Q I r h
 obtain ⟨p,ns,rfl,hp,q⟩:=h
 obtain ⟨u,rfl,r1⟩:=fm r
 cases r1
 refine call_sum_walkG (jc hc I hp fun it fp o ws Sx rv W st hf hit=>?_)
 have hl:=rv.length
 rw [List.length_map] at hl
 refine ⟨it,fp,[it],_,_,Sx,fun i=>ns.getD i 0,rfl,W,st,hf,fun i v hv=>dj rv hv,fun h' tk t' kk=>?_⟩
 subst hit
 refine ⟨.int ns.sum,H,fT (s:=s) I kk,⟨t',?_⟩,q⟩
 rw [←hl,ma ns _ (Nat.le_refl _),List.take_length]
end
section
variable {prog:Program} {w:World} {A:Around} {R:Result→Shared→Prop} {it:Addr} {fp wr:List Addr} {n:Nat} {Pv:Nat→Value→Prop} {Sx:Nat→Heap→Prop} {kw:List (Str×Value)}
theorem kS:(toString "max"++toString ".loop" : String) = "max.loop":=by decide
theorem BG (Wk:Walks prog w A.in1 it fp wr n Pv Sx) (bt:Nat→Nat→Bool) (cm:CmpOf prog w A.in1 .Gt Pv bt) (T:Addr) (nT:T∉fp):∀ (k j:Nat) (s:Shared) (vb:Value) (c:Nat),n - (j + 1)=k→j + 1≤n→Sx (j + 1) s.heap→Pv (argBest bt j) vb→
   s.heap.get? T=some { cls:=.type "list",dict:=none,data:=.seq #[vb,vb] c,slots:=#[] }→
   (∀ v h' tk,Pv (argBest bt (n - 1)) v→(∀ b o,b∉wr→b≠T→s.heap.get? b=some o→h'.get? b=some o)→R (.ok (.ret v)) { s with heap:=h',toks:=tk })→codeAny (model prog w) A (.builtin "max.loop" ⟨[.ref it,.none,.ref T],kw⟩) R s:=by
 have nTw:T∉wr:=fun z=>nT (Wk.sub _ z)
 intro k
 induction k with
 | zero=>
  intro j s vb c hk hj st hp hT fin
  have ej:j + 1=n:=by lia
  refine codeAny_builtin F.entry_max_loop ?_
  rw [Around.under_plainId F.plain_max_loop _]
  show wpAny _ A.in1 (seqItems? (.ref T) >>= _) _ _ s
  refine wpAny_bind (wpAny_seqItems hT rfl ?_)
  show wpAny _ A.in1 (tryCatch (pyNext (.ref it)) _ >>= _) _ _ s
  refine wpAny_bind (wpAny_tryCatch (Wk.done s _ _ (ej▸st) fun h' tk kk=>?_))
  have hT':=kk T _ nTw hT
  show wpAny _ A.in1 (updateSeq T (fun _=>#[]) >>= _) _ _ _
  refine wpAny_bind (wpAny_updateSeq hT' rfl (wpAny_bind (wpAny_letGo (wpAny_pure ?_))))
  exact fin vb _ tk (by rw [←ej];exact hp) fun b o bw bT e=>(Heap.get?_update_other _ _ (Ne.symm bT)).trans (kk b o bw e)
 | succ k ih=>
  intro j s vb c hk hj st hp hT fin
  have jn:j + 1 < n:=by lia
  refine codeAny_builtin F.entry_max_loop ?_
  rw [Around.under_plainId F.plain_max_loop _]
  show wpAny _ A.in1 (seqItems? (.ref T) >>= _) _ _ s
  refine wpAny_bind (wpAny_seqItems hT rfl ?_)
  show wpAny _ A.in1 (tryCatch (pyNext (.ref it)) _ >>= _) _ _ s
  refine wpAny_bind (wpAny_tryCatch (Wk.item (j + 1) s _ _ jn st fun v h' tk pv st' kk=>?_))
  have hT':=kk T _ nTw hT
  show wpAny _ A.in1 (tryCatch (holding [v,v] (richCompare .Gt v vb >>= _)) _ >>= _) _ _ _
  refine wpAny_bind (wpAny_tryCatch (wpAny_holding (wpAny_bind (cm (j + 1) (argBest bt j) v vb _ _ _ pv hp (wpAny_bind (wpAny_holding (wpAny_truthy_bool (wpAny_bind (wpAny_letGo (wpAny_pure ?_))))))))))
  cases eb:bt (j + 1) (argBest bt j) with
  | true=>
   rw [if_pos rfl]
   refine wpAny_bind (wpAny_updateSeq hT' rfl (wpAny_bind (wpAny_letGo ?_)))
   rw [kS]
   refine wpAny_pure ⟨plainId_quiet F.plain_max_loop _,ih (j + 1) _ v _ (by lia) jn (Wk.frame _ _ _ st' fun b bf o e=>?_) (by simp only [argBest,eb,if_true];exact pv) (Heap.get?_update_self _ hT' rfl) fun v2 h2 t2 p2 k2=>?_⟩
   ·exact (Heap.get?_update_other _ _ (fun z:T=b=>nT (by rw [z];exact bf))).trans e
   ·exact fin v2 h2 t2 p2 fun b o bw bT e=>k2 b o bw bT ((Heap.get?_update_other _ _ (Ne.symm bT)).trans (kk b o bw e))
  | false=>
   rw [if_neg Bool.false_ne_true]
   refine wpAny_bind (wpAny_letGo ?_)
   rw [kS]
   refine wpAny_pure ⟨plainId_quiet F.plain_max_loop _,ih (j + 1) _ vb c (by lia) jn st' (by simp only [argBest,eb,Bool.false_eq_true,if_false];exact hp) hT' fun v2 h2 t2 p2 k2=>?_⟩
   exact fin v2 h2 t2 p2 fun b o bw bT e=>k2 b o bw bT (kk b o bw e)
theorem uo (Wk:Walks prog w A.in1 it fp wr n Pv Sx) (bt:Nat→Nat→Bool) (cm:CmpOf prog w A.in1 .Gt Pv bt) (T:Addr) (nT:T∉fp) {s:Shared} {c:Nat} {d:Value} (hkw:kw=[(Str.ofString "default",d)]) (st:Sx 0 s.heap)
  (hT:s.heap.get? T=some { cls:=.type "list",dict:=none,data:=.seq #[] c,slots:=#[] }) (fin:∀ v h' tk,(if n=0 then v=d else Pv (argBest bt (n - 1)) v)→(∀ b o,b∉wr→b≠T→s.heap.get? b=some o→h'.get? b=some o)→R (.ok (.ret v)) { s with heap:=h',toks:=tk }) :
  codeAny (model prog w) A (.builtin "max.loop" ⟨[.ref it,.none,.ref T],kw⟩) R s:=by
 have nTw:T∉wr:=fun z=>nT (Wk.sub _ z)
 refine codeAny_builtin F.entry_max_loop ?_
 rw [Around.under_plainId F.plain_max_loop _]
 show wpAny _ A.in1 (seqItems? (.ref T) >>= _) _ _ s
 refine wpAny_bind (wpAny_seqItems hT rfl ?_)
 show wpAny _ A.in1 (tryCatch (pyNext (.ref it)) _ >>= _) _ _ s
 by_cases hn:n=0
 ·refine wpAny_bind (wpAny_tryCatch (Wk.done s _ _ (by rw [hn];exact st) fun h' tk kk=>?_))
  subst hkw
  refine wpAny_bind (wpAny_rule (wpAny_pure ?_))
  exact fin d _ tk (by rw [if_pos hn]) fun b o bw bT e=>kk b o bw e
 ·refine wpAny_bind (wpAny_tryCatch (Wk.item 0 s _ _ (by lia) st fun v h' tk pv st' kk=>?_))
  have hT':=kk T _ nTw hT
  show wpAny _ A.in1 (updateSeq T (fun _=>#[v,v]) >>= _) _ _ _
  refine wpAny_bind (wpAny_updateSeq hT' rfl ?_)
  rw [kS]
  refine wpAny_pure ⟨plainId_quiet F.plain_max_loop _,BG Wk bt cm T nT _ 0 _ v _ rfl (by lia) (Wk.frame _ _ _ st' fun b bf o e=>?_) pv (Heap.get?_update_self _ hT' rfl) fun v2 h2 t2 p2 k2=>?_⟩
  ·exact (Heap.get?_update_other _ _ (fun z:T=b=>nT (by rw [z];exact bf))).trans e
  ·exact fin v2 h2 t2 (by rw [if_neg hn];exact p2) fun b o bw bT e=>k2 b o bw bT ((Heap.get?_update_other _ _ (Ne.symm bT)).trans (kk b o bw e))
end
theorem tree_kw {prog:Program} {w:World} {A:Around} {E:Value→Shared→Prop} {s:Shared} {id:String} {bf:Builtin} {args:List Value} {kw:List (Str×Value)} {Q:Value→Shared→Prop} (hk:builtinKind id=none) (hp:plainId id=true)
  (hb:entryFor table id=some bf) (ha:argsOk id ⟨args,kw⟩)
  (hc:wpAny (model prog w) A.in1 (bf ⟨args,kw⟩) (fun fin s'=>match fin with
   | .done f=>(match (Except.ok f:Result) with | .ok (.ret v)=>Q v s' | .ok _=>False | .error e=>E e s')
   | .again c'=>c'.quiet=true∧codeAny (model prog w) A c' (fun r s'=>match r with | .ok (.ret v)=>Q v s' | .ok _=>False | .error e=>E e s') s') E s):wpAny (model prog w) A (call (.builtin id) args kw) Q E s:=by
 refine wpAny_call (codeAny_call_builtin hp hb ?_)
 simp only [checkBuiltinCall,hk]
 cases hsig:Manifest.signature? id with
 | none=>exact wpAny_pure hc
 | some sig=>
  have ha2:Bind.checkArgs id sig ⟨args,kw⟩=pure ():=by simpa only [argsOk,hsig] using ha
  simp only [ha2]
  exact wpAny_pure hc
theorem rp (a d:Value):argsOk "max" ⟨[a],[(Str.ofString "default",d)]⟩:=by unfold argsOk;kernel_rfl
section
variable {X:Cx} {e k:Expr} {te tk:TE} {p pos kpos:Pos}
noncomputable def maxD (ns:List Int) (d:Int):Int:=if ns=[] then d else pX ns
noncomputable def BH (K:W.Frag) (te tk:TE):TE:=fun σ H Q=>tZ te Bf σ H fun vs H1=>tZ tk Bf σ H1 fun ks H2=>∃ (a:Addr) (ns:List Int) (d:Int),vs=[.ref a]∧ks=[.int d]∧(SqL K H2 a (ns.map V.int)∨SqT K H2 a (ns.map V.int))∧Q (.int (maxD ns d)) H2
theorem wZ (hc:X.calm=true) (hg:Gl X "max") (hm:X.mg "max" = none) (he:PE X e te) (hk:PE X k tk) (hs:starEach [e] X.env=[(false,eval e X.env)]:=by rfl) :
  PE X (.Call (.Name "max" p) [e] [⟨some "default",k,kpos⟩] pos) (BH X.K te tk):=by
 intro pins s σ H Q I h
 refine wpAny_Call_Name_kw (jr I hg hm (by decide +kernel:bootBuiltins "max" = some (.builtin "max")) ?_ (by decide) (by decide))
 refine callWith_kw (thn (il he oH (hs:=hs) pos pins s σ H _ I h) fun us s1 ⟨vs,H1,I1,r1,q1⟩=>?_) (by rw [hs];rfl) (by rw [hs];rfl)
 refine thn (wG hk zf pos pins s1 σ H1 _ I1 q1) fun ws s2 hqq=>?_
 obtain ⟨ks,H2,I2,r2,a,ns,d,e1,e2,hp,q⟩:=hqq
 subst e1 e2
 obtain ⟨u,rfl,ru⟩:=fm r1
 obtain ⟨w',rfl,t,rfl⟩:=fm r2
 cases ru
 show wpAny _ _ (call (.builtin "max") [.ref a] [(Str.ofString "default",.int d t)]) _ _ s2
 refine tree_kw F.kind_max F.plain_max F.entry_max (rp _ _) ?_
 show wpAny _ X.A.in1 (Builtin.Builtins.bindParams "max" ["key","default"] 0 ⟨[],[(Str.ofString "default",.int d t)]⟩ >>= _) _ _ s2
 refine wpAny_bind (wpAny_of_eq (show Builtin.Builtins.bindParams "max" ["key","default"] 0 ⟨[],[(Str.ofString "default",.int d t)]⟩=pure [none,some (.int d t)] from rfl) ?_)
 refine wpAny_bind (wpAny_pure ?_)
 refine wpAny_bind (jc hc I2 hp fun it fp o ws Sx rv Wk st hf hit=>?_)
 have hl:=rv.length
 rw [List.length_map] at hl
 refine wpAny_bind (wpAny_newObj_type ?_)
 have nT:(s2.heap.push o).objs.size∉fp:=fun z=>Nat.lt_irrefl _ (hf _ z)
 rw [kS]
 refine wpAny_pure ⟨plainId_quiet F.plain_max_loop _,uo Wk _ (oN rv _) (s2.heap.push o).objs.size nT rfl (Wk.frame _ _ _ st fun b _ ob e=>Heap.get?_push_of_some _ e) (Heap.get?_push_size _ rfl) fun v h' tk' hv kk=>?_⟩
 subst hit
 have I3:Inv X pins σ H2 { s2 with heap:=h',toks:=tk' }:=fT (s:=s2) (o:=o) I2 fun b ob nb e=>kk b ob nb (Nat.ne_of_lt (Heap.lt_size e)) (Heap.get?_push_of_some _ e)
 refine ⟨.int (maxD ns d),H2,I3,?_,q⟩
 unfold maxD
 by_cases hn:ns=[]
 ·rw [if_pos (by rw [←hl,hn];rfl)] at hv
  rw [if_pos hn,hv]
  exact ⟨t,rfl⟩
 ·have h0:0 < ns.length:=List.length_pos_iff.mpr hn
  rw [if_neg (by lia)] at hv
  rw [if_neg hn]
  obtain ⟨b1,b2⟩:=kR ns (ns.length - 1) (by lia)
  rw [←hl] at hv
  obtain ⟨t2,rfl⟩:=dj rv hv
  refine ⟨t2,?_⟩
  rw [b2,show ns.length - 1 + 1=ns.length by lia,List.take_length]
  rfl
end
section
variable {prog:Program} {w:World} {A:Around} {E:Value→Shared→Prop} {s:Shared}
theorem uq {it t:Addr} {i:Nat} {items:Array Value} {x:Value} {Q:Value→Shared→Prop} (hi:s.heap.IsTupleIter it t i) (ht:s.heap.IsTuple t items) (hx:items[i]?=some x)
  (k:∀ h',h'.IsTupleIter it t (i + 1)→Heap.SameBut it s.heap h'→Q x { s with heap:=h' }):wpAny (model prog w) A (Builtin.SmallTypes.nextOf (.ref it)) Q E s:=by
 obtain ⟨o,ho,oc,od⟩:=id hi
 obtain ⟨q,hq,_,n,qd⟩:=ht
 unfold Builtin.SmallTypes.nextOf
 refine wpAny_bind (wpAny_callSpecial?_slot (name:=Str.ofString "__next__") hi.typeIs F.slot_tuple_iterator_next (wpAny_call_entry F.slot_tuple_iterator_next hi.typeIs F.entry_tuple_iterator_next ?_ (F.args_tuple_iterator_next_1 _)))
 show wpAny _ _ (field (.ref it) 0 >>= _) _ _ s
 refine wpAny_bind (wpAny_field ho od (x:=.ref t) rfl ?_)
 show wpAny _ _ (if (Value.ref t == Value.none)=true then _ else _) _ _ s
 rw [if_neg (fun z:(Value.ref t == Value.none)=true=>Bool.false_ne_true z)]
 show wpAny _ _ (field (.ref it) 1 >>= _) _ _ s
 refine wpAny_bind (wpAny_field ho od (x:=.int i 0) rfl (wpAny_bind (wpAny_seqItems hq qd ?_)))
 simp only [Int.toNat_natCast,hx]
 refine wpAny_bind (wpAny_setField ho od (by simp) (wpAny_pure ⟨x,rfl,wpAny_pure (k _ ⟨_,Heap.get?_update_self _ ho (Obj.isFreed_of_fields (Obj.data_mapFields od _)),(Obj.cls_mapFields ..).trans oc,?_⟩ (Heap.SameBut.update ..))⟩))
 rw [Obj.data_mapFields od]
 simp [rawInt]
theorem w4 {it t:Addr} {i:Nat} {items:Array Value} {Q:Value→Shared→Prop} (hh:A.handled=none) (hi:s.heap.IsTupleIter it t i) (ht:s.heap.IsTuple t items) (hx:items[i]?=none)
  (k:∀ h' e,Heap.ExtBut it s.heap h'→(∃ o,h'.get? e=some o∧o.cls=.type "StopIteration")→E (.ref e) { s with heap:=h' }):wpAny (model prog w) A (Builtin.SmallTypes.nextOf (.ref it)) Q E s:=by
 obtain ⟨o,ho,oc,od⟩:=id hi
 obtain ⟨q,hq,_,n,qd⟩:=ht
 unfold Builtin.SmallTypes.nextOf
 refine wpAny_bind (wpAny_callSpecial?_slot (name:=Str.ofString "__next__") hi.typeIs F.slot_tuple_iterator_next (wpAny_call_entry F.slot_tuple_iterator_next hi.typeIs F.entry_tuple_iterator_next ?_ (F.args_tuple_iterator_next_1 _)))
 show wpAny _ _ (field (.ref it) 0 >>= _) _ _ s
 refine wpAny_bind (wpAny_field ho od (x:=.ref t) rfl ?_)
 show wpAny _ _ (if (Value.ref t == Value.none)=true then _ else _) _ _ s
 rw [if_neg (fun z:(Value.ref t == Value.none)=true=>Bool.false_ne_true z)]
 show wpAny _ _ (field (.ref it) 1 >>= _) _ _ s
 refine wpAny_bind (wpAny_field ho od (x:=.int i 0) rfl (wpAny_bind (wpAny_seqItems hq qd ?_)))
 simp only [Int.toNat_natCast,hx]
 refine wpAny_bind (wpAny_rule (wpAny_bind (wpAny_setField ho od (by simp) ?_)))
 show wpAny _ _ (newExc (.type "StopIteration") [] >>= _) _ _ _
 refine wpAny_bind ?_
 simp only [newExc,newTuple]
 refine wpAny_bind (wpAny_newObj_type (wpAny_bind (m:=firstArgMember _ _) (wpAny_of_eq (a:=Value.none) (by first | rfl | (simp only [firstArgMember];rfl)) (wpAny_newObj_type ?_ (by size_fits)))) (by size_fits))
 simp only [raiseNew]
 refine wpAny_bind (wpAny_handled ?_)
 first
  | rw [show A.in1.handled=none from hh]
  | rw [hh]
 exact wpAny_bind (wpAny_pure (wpAny_throw (k _ _ (((Heap.SameBut.update ..).extBut.push _).push _) ⟨_,Heap.get?_push_size _ rfl,rfl⟩)))
def IsIt (k:Bool) (h:Heap) (it l:Addr) (i:Nat):Prop:=match k with
 | true=>h.IsListIter it l i
 | false=>h.IsTupleIter it l i
def IsSq (k:Bool) (h:Heap) (l:Addr) (xs:Array Value):Prop:=match k with
 | true=>h.IsList l xs
 | false=>h.IsTuple l xs
theorem IsIt.at {k:Bool} {h h':Heap} {it l:Addr} {i:Nat} (x:IsIt k h it l i) (e:∀ o,h.get? it=some o→h'.get? it=some o):IsIt k h' it l i:=by
 cases k with
 | true=>obtain ⟨o,ho,r⟩:=(show h.IsListIter it l i from x);exact (show h'.IsListIter it l i from ⟨o,e o ho,r⟩)
 | false=>obtain ⟨o,ho,r⟩:=(show h.IsTupleIter it l i from x);exact (show h'.IsTupleIter it l i from ⟨o,e o ho,r⟩)
theorem IsSq.at {k:Bool} {h h':Heap} {l:Addr} {xs:Array Value} (x:IsSq k h l xs) (e:∀ o,h.get? l=some o→h'.get? l=some o):IsSq k h' l xs:=by
 cases k with
 | true=>obtain ⟨o,ho,r⟩:=(show h.IsList l xs from x);exact (show h'.IsList l xs from ⟨o,e o ho,r⟩)
 | false=>obtain ⟨o,ho,r⟩:=(show h.IsTuple l xs from x);exact (show h'.IsTuple l xs from ⟨o,e o ho,r⟩)
theorem IsIt.obj {k:Bool} {h:Heap} {it l:Addr} {i:Nat} (x:IsIt k h it l i):∃ o,h.get? it=some o∧∀ v,o.data≠.cell v:=by
 cases k with
 | true=>obtain ⟨o,ho,_,d⟩:=(show h.IsListIter it l i from x);exact ⟨o,ho,fun v z=>by rw [d] at z;cases z⟩
 | false=>obtain ⟨o,ho,_,d⟩:=(show h.IsTupleIter it l i from x);exact ⟨o,ho,fun v z=>by rw [d] at z;cases z⟩
theorem IsSq.get {k:Bool} {h:Heap} {l:Addr} {xs:Array Value} (x:IsSq k h l xs):∃ o,h.get? l=some o:=by
 cases k with
 | true=>obtain ⟨o,ho,_⟩:=(show h.IsList l xs from x);exact ⟨o,ho⟩
 | false=>obtain ⟨o,ho,_⟩:=(show h.IsTuple l xs from x);exact ⟨o,ho⟩
theorem nj {k:Bool} {it l:Addr} {i:Nat} {xs:Array Value} {x:Value} {Q:Value→Shared→Prop} (hi:IsIt k s.heap it l i) (hl:IsSq k s.heap l xs) (hx:xs[i]?=some x)
  (q:∀ h',IsIt k h' it l (i + 1)→Heap.SameBut it s.heap h'→Q x { s with heap:=h' }):wpAny (model prog w) A (Builtin.SmallTypes.nextOf (.ref it)) Q E s:=by
 cases k with
 | true=>exact wpAny_nextOf_list_item hi hl hx q
 | false=>exact uq hi hl hx q
theorem vF {k:Bool} {it l:Addr} {i:Nat} {xs:Array Value} {Q:Value→Shared→Prop} (hh:A.handled=none) (hi:IsIt k s.heap it l i) (hl:IsSq k s.heap l xs) (hx:xs[i]?=none)
  (q:∀ h' e,Heap.ExtBut it s.heap h'→(∃ o,h'.get? e=some o∧o.cls=.type "StopIteration")→E (.ref e) { s with heap:=h' }):wpAny (model prog w) A (Builtin.SmallTypes.nextOf (.ref it)) Q E s:=by
 cases k with
 | true=>exact wpAny_nextOf_list_end hh hi hl hx q
 | false=>exact w4 hh hi hl hx q
theorem w5 {k1 k2:Bool} {z TI TO i1 i2 l1 l2:Addr} {i:Nat} {xs ys:Array Value} {x y a b:Value} {Q:Value→Shared→Prop} (D:ZipApart z TI TO i1 i2 l1 l2) (hz:IsZip s.heap z TI TO .none) (hTI:IsPair s.heap TI (.ref i1) (.ref i2)) (hTO:IsPair s.heap TO a b)
  (h1:IsIt k1 s.heap i1 l1 i) (h2:IsIt k2 s.heap i2 l2 i) (g1:IsSq k1 s.heap l1 xs) (g2:IsSq k2 s.heap l2 ys) (hx:xs[i]?=some x) (hy:ys[i]?=some y)
  (q:∀ h',IsZip h' z TI TO (rawInt s.heap.objs.size)→IsPair h' TO x y→IsIt k1 h' i1 l1 (i + 1)→IsIt k2 h' i2 l2 (i + 1)→IsPair h' s.heap.objs.size x y→
   (∀ c o,c≠z→c≠TO→c≠i1→c≠i2→s.heap.get? c=some o→h'.get? c=some o)→Q (.ref s.heap.objs.size) { s with heap:=h' }) :
  wpAny (model prog w) A (Builtin.«zip.__next__» ⟨[.ref z],[]⟩) (fun fin s'=>∃ v,fin=.done (.ret v)∧Q v s') E s:=by
 show wpAny _ _ (field (.ref z) 2 >>= _) _ _ _
 refine wpAny_bind (wpAny_field hz rfl (x:=.bool false) rfl ?_)
 show wpAny _ _ (field (.ref z) 3 >>= _) _ _ _
 refine wpAny_bind (wpAny_field hz rfl (x:=.ref TI) rfl (wpAny_bind (wpAny_seqItems hTI rfl ?_)))
 show wpAny _ _ (Builtin.SmallTypes.ownedTupleIsFree (.ref z) >>= _) _ _ _
 refine wpAny_bind ?_
 unfold Builtin.SmallTypes.ownedTupleIsFree
 refine wpAny_bind (wpAny_field hz rfl (x:=.none) rfl (wpAny_pure ?_))
 rw [if_pos (by rfl)]
 refine wpAny_bind (wpAny_rule (wpAny_bind (wpAny_field hz rfl (x:=.ref TO) rfl (wpAny_bind (wpAny_setField_rec hz (by simp) fun hA zA sA=>?_)))))
 have zA:IsZip hA z TI TO .ellipsis:=zA
 refine wpAny_bind ?_
 simp only [List.zipIdx_cons,List.zipIdx_nil,List.forIn_cons,List.forIn_nil]
 refine wpAny_bind (wpAny_bind (wpAny_onRaise ?_))
 show wpAny _ _ (Builtin.SmallTypes.nextOf (.ref i1) >>= _) _ _ _
 refine wpAny_bind (nj (h1.at fun o e=>sA.extBut _ _ D.i1z e) (g1.at fun o e=>sA.extBut _ _ D.l1z e) hx fun hB iB sB=>wpAny_pure ?_)
 have tB:IsPair hB TO a b:=sB.extBut _ _ D.TOi1 (sA.extBut _ _ D.TOz hTO)
 refine wpAny_bind (wpAny_seqItems tB rfl (wpAny_bind (wpAny_updateSeq_pair tB fun hC tC sC=>wpAny_bind (wpAny_letGo (wpAny_pure ?_)))))
 have tC:IsPair hC TO x b:=tC
 refine wpAny_bind (wpAny_bind (wpAny_onRaise ?_))
 show wpAny _ _ (Builtin.SmallTypes.nextOf (.ref i2) >>= _) _ _ _
 refine wpAny_bind (nj (h2.at fun o e=>sC.extBut _ _ D.TOi2.symm (sB.extBut _ _ D.i12.symm (sA.extBut _ _ D.i2z e))) (g2.at fun o e=>sC.extBut _ _ D.l2TO (sB.extBut _ _ D.l2i1 (sA.extBut _ _ D.l2z e))) hy fun hD iD sD=>wpAny_pure ?_)
 have tD:IsPair hD TO x b:=sD.extBut _ _ D.TOi2 tC
 refine wpAny_bind (wpAny_seqItems tD rfl (wpAny_bind (wpAny_updateSeq_pair tD fun hE tE sE=>wpAny_bind (wpAny_letGo (wpAny_pure (wpAny_pure ?_))))))
 have tE:IsPair hE TO x y:=tE
 refine wpAny_bind (wpAny_seqItems tE rfl (wpAny_bind (wpAny_newTuple ?_)))
 have ez:hE.objs.size=s.heap.objs.size:=by rw [sE.1,sD.1,sC.1,sB.1,sA.1]
 have zE:IsZip hE z TI TO .ellipsis:=sE.extBut _ _ D.TOz.symm (sD.extBut _ _ D.i2z.symm (sC.extBut _ _ D.TOz.symm (sB.extBut _ _ D.i1z.symm zA)))
 have kE:∀ c o,c≠z→c≠TO→c≠i1→c≠i2→s.heap.get? c=some o→hE.get? c=some o:=fun c o c1 c2 c3 c4 e=>sE.extBut _ _ c2 (sD.extBut _ _ c4 (sC.extBut _ _ c2 (sB.extBut _ _ c3 (sA.extBut _ _ c1 e))))
 have i1E:IsIt k1 hE i1 l1 (i + 1):=iB.at fun o e=>sE.extBut _ _ D.TOi1.symm (sD.extBut _ _ D.i12 (sC.extBut _ _ D.TOi1.symm e))
 have i2E:IsIt k2 hE i2 l2 (i + 1):=iD.at fun o e=>sE.extBut _ _ D.TOi2.symm e
 show wpAny _ _ (Builtin.SmallTypes.ownedTupleHandOut (.ref z) (.ref hE.objs.size) >>= _) _ _ _
 refine wpAny_bind ?_
 unfold Builtin.SmallTypes.ownedTupleHandOut
 have zF:IsZip (hE.push { cls:=.type "tuple",data:=.seq #[x,y] }) z TI TO .ellipsis:=Heap.get?_push_of_some _ zE
 refine wpAny_bind (wpAny_setField_rec zF (by simp) fun hG zG sG=>?_)
 have zG:IsZip hG z TI TO (rawInt hE.objs.size):=zG
 refine wpAny_setField_rec zG (by simp) fun hK zK sK=>?_
 have zK:IsZip hK z TI TO (rawInt hE.objs.size):=zK
 have up:∀ c o,c≠z→hE.get? c=some o→hK.get? c=some o:=fun c o c1 e=>sK.extBut _ _ c1 (sG.extBut _ _ c1 (Heap.get?_push_of_some _ e))
 have nz:hE.objs.size≠z:=Nat.ne_of_gt (Heap.lt_size zE)
 have tK:IsPair hK hE.objs.size x y:=sK.extBut _ _ nz (sG.extBut _ _ nz (Heap.get?_push_size _ rfl))
 rw [ez] at zK tK
 refine wpAny_pure ⟨_,rfl,?_⟩
 show Q (.ref hE.objs.size) _
 rw [ez]
 exact q hK zK (up _ _ D.TOz tE) (i1E.at fun o e=>up _ o D.i1z e) (i2E.at fun o e=>up _ o D.i2z e) tK fun c o c1 c2 c3 c4 e=>up c o c1 (kE c o c1 c2 c3 c4 e)
theorem zv {k1 k2:Bool} {z TI TO i1 i2 l1 l2:Addr} {i:Nat} {xs ys:Array Value} {a b:Value} {Q:Fin→Shared→Prop} (hh:A.handled=none) (D:ZipApart z TI TO i1 i2 l1 l2) (hz:IsZip s.heap z TI TO .none) (hTI:IsPair s.heap TI (.ref i1) (.ref i2)) (hTO:IsPair s.heap TO a b)
  (h1:IsIt k1 s.heap i1 l1 i) (h2:IsIt k2 s.heap i2 l2 i) (g1:IsSq k1 s.heap l1 xs) (g2:IsSq k2 s.heap l2 ys) (he:xs[i]?=none∨ys[i]?=none)
  (q:∀ h' e,(∀ c o,c≠z→c≠TO→c≠i1→c≠i2→s.heap.get? c=some o→h'.get? c=some o)→(∃ o,h'.get? e=some o∧o.cls=.type "StopIteration")→E (.ref e) { s with heap:=h' }) :
  wpAny (model prog w) A (Builtin.«zip.__next__» ⟨[.ref z],[]⟩) Q E s:=by
 show wpAny _ _ (field (.ref z) 2 >>= _) _ _ _
 refine wpAny_bind (wpAny_field hz rfl (x:=.bool false) rfl ?_)
 show wpAny _ _ (field (.ref z) 3 >>= _) _ _ _
 refine wpAny_bind (wpAny_field hz rfl (x:=.ref TI) rfl (wpAny_bind (wpAny_seqItems hTI rfl ?_)))
 show wpAny _ _ (Builtin.SmallTypes.ownedTupleIsFree (.ref z) >>= _) _ _ _
 refine wpAny_bind ?_
 unfold Builtin.SmallTypes.ownedTupleIsFree
 refine wpAny_bind (wpAny_field hz rfl (x:=.none) rfl (wpAny_pure ?_))
 rw [if_pos (by rfl)]
 refine wpAny_bind (wpAny_rule (wpAny_bind (wpAny_field hz rfl (x:=.ref TO) rfl (wpAny_bind (wpAny_setField_rec hz (by simp) fun hA zA sA=>?_)))))
 have zA:IsZip hA z TI TO .ellipsis:=zA
 refine wpAny_bind ?_
 simp only [List.zipIdx_cons,List.zipIdx_nil,List.forIn_cons,List.forIn_nil]
 refine wpAny_bind (wpAny_bind (wpAny_onRaise ?_))
 show wpAny _ _ (Builtin.SmallTypes.nextOf (.ref i1) >>= _) _ _ _
 cases hx:xs[i]? with
 | none=>
  refine wpAny_bind (vF hh (h1.at fun o e=>sA.extBut _ _ D.i1z e) (g1.at fun o e=>sA.extBut _ _ D.l1z e) hx fun hB e sB hqq=>?_)
  obtain ⟨oe,ge,ce⟩:=hqq
  have zB:IsZip hB z TI TO .ellipsis:=sB _ _ D.i1z.symm zA
  have ne:e≠z:=fun x=>by subst x;rw [zB] at ge;cases ge;simp at ce
  exact wpAny_setField_rec zB (by simp) fun hC _ sC=>q hC e (fun c o c1 _ c3 _ x=>sC.extBut _ _ c1 (sB _ _ c3 (sA.extBut _ _ c1 x))) ⟨oe,sC.extBut _ _ ne ge,ce⟩
 | some x=>
  have hy:ys[i]?=none:=by
   rcases he with z | z
   ·rw [hx] at z;cases z
   ·exact z
  refine wpAny_bind (nj (h1.at fun o e=>sA.extBut _ _ D.i1z e) (g1.at fun o e=>sA.extBut _ _ D.l1z e) hx fun hB iB sB=>wpAny_pure ?_)
  have tB:IsPair hB TO a b:=sB.extBut _ _ D.TOi1 (sA.extBut _ _ D.TOz hTO)
  refine wpAny_bind (wpAny_seqItems tB rfl (wpAny_bind (wpAny_updateSeq_pair tB fun hC tC sC=>wpAny_bind (wpAny_letGo (wpAny_pure ?_)))))
  refine wpAny_bind (wpAny_bind (wpAny_onRaise ?_))
  show wpAny _ _ (Builtin.SmallTypes.nextOf (.ref i2) >>= _) _ _ _
  refine wpAny_bind (vF hh (h2.at fun o e=>sC.extBut _ _ D.TOi2.symm (sB.extBut _ _ D.i12.symm (sA.extBut _ _ D.i2z e))) (g2.at fun o e=>sC.extBut _ _ D.l2TO (sB.extBut _ _ D.l2i1 (sA.extBut _ _ D.l2z e))) hy fun hD e sD hqq=>?_)
  obtain ⟨oe,ge,ce⟩:=hqq
  have zD:IsZip hD z TI TO .ellipsis:=sD _ _ D.i2z.symm (sC.extBut _ _ D.TOz.symm (sB.extBut _ _ D.i1z.symm zA))
  have ne:e≠z:=fun x=>by subst x;rw [zD] at ge;cases ge;simp at ce
  exact wpAny_setField_rec zD (by simp) fun hF _ sF=>q hF e (fun c o c1 c2 c3 c4 x=>sF.extBut _ _ c1 (sD _ _ c4 (sC.extBut _ _ c2 (sB.extBut _ _ c3 (sA.extBut _ _ c1 x))))) ⟨oe,sF.extBut _ _ ne ge,ce⟩
end
noncomputable def itObj (k:Bool) (l:Addr):Obj:=match k with
 | true=>{ cls:=.type "list_iterator",data:=.fields #[.ref l,.int 0 0] }
 | false=>{ cls:=.type "tuple_iterator",data:=.fields #[.ref l,.int 0 0] }
theorem oP (k:Bool) (h:Heap) (l:Addr):IsIt k (h.push (itObj k l)) h.objs.size l 0:=by
 cases k with
 | true=>exact ⟨_,Heap.get?_push_size _ rfl,rfl,rfl⟩
 | false=>exact ⟨_,Heap.get?_push_size _ rfl,rfl,rfl⟩
abbrev zA (h:Heap) (k1:Bool) (l1:Addr):Heap:=h.push (itObj k1 l1)
abbrev zB (h:Heap) (k1 k2:Bool) (l1 l2:Addr):Heap:=(zA h k1 l1).push (itObj k2 l2)
abbrev zC (h:Heap) (k1 k2:Bool) (l1 l2:Addr):Heap:=(zB h k1 k2 l1 l2).push { cls:=.type "tuple",data:=.seq #[.ref h.objs.size,.ref (zA h k1 l1).objs.size] }
abbrev zD (h:Heap) (k1 k2:Bool) (l1 l2:Addr):Heap:=(zC h k1 k2 l1 l2).push { cls:=.type "tuple",data:=.seq #[.none,.none] }
abbrev zE (h:Heap) (k1 k2:Bool) (l1 l2:Addr):Heap:=(zD h k1 k2 l1 l2).push { cls:=.type "zip",data:=.fields #[.none,.bool false,.bool false,.ref (zB h k1 k2 l1 l2).objs.size,.ref (zC h k1 k2 l1 l2).objs.size] }
set_option maxHeartbeats 8000000 in
theorem zw (k1 k2:Bool) (l1 l2:Addr) (xs ys:Array Value) :
  Meets (Builtin.«zip.__new__» ⟨[.type "zip",.ref l1,.ref l2],[]⟩) (fun _ R s=>IsSq k1 s.heap l1 xs∧IsSq k2 s.heap l2 ys∧R (.ok (.ret (.ref (zD s.heap k1 k2 l1 l2).objs.size))) { s with heap:=zE s.heap k1 k2 l1 l2 }):=
 .of_wp fun prog w A R s h=>by
  obtain ⟨hp,g,d,tk,os⟩:=s
  obtain ⟨g1,g2,q⟩:=h
  have hsub:=sub_zip
  cases k1 with
  | true=>
   have e1:Heap.IsList (Shared.heap ⟨hp,g,d,tk,os⟩) l1 xs:=g1
   cases k2 with
   | true=>
    have e2:Heap.IsList (Shared.heap ⟨hp.push { cls:=.type "list_iterator",data:=.fields #[.ref l1,.int 0 0] },g,d,tk,os⟩) l2 ys:=Heap.IsList.push g2 _
    wp_walk using wpAny_pyIter_list e1,wpAny_pyIter_list e2
    exact ⟨_,rfl,q⟩
   | false=>
    have e2:Heap.IsTuple (Shared.heap ⟨hp.push { cls:=.type "list_iterator",data:=.fields #[.ref l1,.int 0 0] },g,d,tk,os⟩) l2 ys:=Heap.IsTuple.push g2 _
    wp_walk using wpAny_pyIter_list e1,wpAny_pyIter_tuple e2
    exact ⟨_,rfl,q⟩
  | false=>
   have e1:Heap.IsTuple (Shared.heap ⟨hp,g,d,tk,os⟩) l1 xs:=g1
   cases k2 with
   | true=>
    have e2:Heap.IsList (Shared.heap ⟨hp.push { cls:=.type "tuple_iterator",data:=.fields #[.ref l1,.int 0 0] },g,d,tk,os⟩) l2 ys:=Heap.IsList.push g2 _
    wp_walk using wpAny_pyIter_tuple e1,wpAny_pyIter_list e2
    exact ⟨_,rfl,q⟩
   | false=>
    have e2:Heap.IsTuple (Shared.heap ⟨hp.push { cls:=.type "tuple_iterator",data:=.fields #[.ref l1,.int 0 0] },g,d,tk,os⟩) l2 ys:=Heap.IsTuple.push g2 _
    wp_walk using wpAny_pyIter_tuple e1,wpAny_pyIter_tuple e2
    exact ⟨_,rfl,q⟩
def ZS (k1 k2:Bool) (z TI TO i1 i2 l1 l2:Addr) (i:Nat) (h:Heap):Prop:=IsZip h z TI TO .none∧IsPair h TI (.ref i1) (.ref i2)∧(∃ a b,IsPair h TO a b)∧IsIt k1 h i1 l1 i∧IsIt k2 h i2 l2 i
theorem w6 {prog:Program} {w:World} {A:Around} {E:Value→Shared→Prop} {s:Shared} {k1 k2:Bool} {l1 l2:Addr} {xs ys:Array Value} {Q:Value→Shared→Prop} (g1:IsSq k1 s.heap l1 xs) (g2:IsSq k2 s.heap l2 ys)
  (q:∀ h',ZS k1 k2 (s.heap.objs.size + 4) (s.heap.objs.size + 2) (s.heap.objs.size + 3) s.heap.objs.size (s.heap.objs.size + 1) l1 l2 0 h'→(∀ c o,s.heap.get? c=some o→h'.get? c=some o)→Q (.ref (s.heap.objs.size + 4)) { s with heap:=h' }) :
  wpAny (model prog w) A (call (.type "zip") [.ref l1,.ref l2]) Q E s:=by
 refine callType_new F.called_zip (by decide) (F.typeCall_zip_2 _ _) (F.newCall_zip_2 _ _) (fun obj=>F.args_object_init_3 obj _ _) F.entry_zip_new (zw k1 k2 l1 l2 xs ys) ⟨g1,g2,?_⟩
 have nA:(zA s.heap k1 l1).objs.size=s.heap.objs.size + 1:=Heap.size_push ..
 have nB:(zB s.heap k1 k2 l1 l2).objs.size=s.heap.objs.size + 2:=by rw [Heap.size_push,nA]
 have nC:(zC s.heap k1 k2 l1 l2).objs.size=s.heap.objs.size + 3:=by rw [Heap.size_push,nB]
 have nD:(zD s.heap k1 k2 l1 l2).objs.size=s.heap.objs.size + 4:=by rw [Heap.size_push,nC]
 have pu:∀ {h:Heap} {o:Obj} {c:Addr} {v:Obj},h.get? c=some v→(h.push o).get? c=some v:=fun e=>Heap.get?_push_of_some _ e
 have gz:(zE s.heap k1 k2 l1 l2).get? (zD s.heap k1 k2 l1 l2).objs.size=some _:=Heap.get?_push_size _ rfl
 have go:(zE s.heap k1 k2 l1 l2).get? (zC s.heap k1 k2 l1 l2).objs.size=some _:=pu (Heap.get?_push_size _ rfl)
 have gi:(zE s.heap k1 k2 l1 l2).get? (zB s.heap k1 k2 l1 l2).objs.size=some _:=pu (pu (Heap.get?_push_size _ rfl))
 have j2:IsIt k2 (zE s.heap k1 k2 l1 l2) (zA s.heap k1 l1).objs.size l2 0:=(oP k2 (zA s.heap k1 l1) l2).at fun o e=>pu (pu (pu e))
 have j1:IsIt k1 (zE s.heap k1 k2 l1 l2) s.heap.objs.size l1 0:=(oP k1 s.heap l1).at fun o e=>pu (pu (pu (pu e)))
 show _∧_
 rw [nB,nC,nD] at gz
 rw [nA,nB] at gi
 rw [nC] at go
 rw [nA] at j2
 rw [nD]
 exact ⟨⟨_,gz,rfl⟩,q _ ⟨gz,gi,⟨_,_,go⟩,j1,j2⟩ fun c o x=>pu (pu (pu (pu (pu x))))⟩
noncomputable def Itz (K:W.Frag) (k1 k2:Bool) (a b:Addr):It:=
 ⟨fun i H=>∃ xs ys x y,(if k1 then SqL K H a xs else SqT K H a xs)∧(if k2 then SqL K H b ys else SqT K H b ys)∧xs[i]?=some x∧ys[i]?=some y,
  fun i H v H'=>∃ T,H T=none∧v=.ref T∧∀ xs ys x y,(if k1 then SqL K H a xs else SqT K H a xs)→(if k2 then SqL K H b ys else SqT K H b ys)→xs[i]?=some x→ys[i]?=some y→H'=upd H T (.tup [x,y]),
  fun i H=>∃ xs ys,(if k1 then SqL K H a xs else SqT K H a xs)∧(if k2 then SqL K H b ys else SqT K H b ys)∧i=min xs.length ys.length⟩
section
variable {X:Cx} {pins:List (Addr×Obj)} {σ:L2.St} {H:Hp} {s:Shared}
theorem pY (I:Inv X pins σ H s) {k:Bool} {a:Addr} {xs:List V} (h:if k then SqL X.K H a xs else SqT X.K H a xs):∃ us:List Value,Vals xs us∧IsSq k s.heap a us.toArray:=by
 cases k with
 | true=>
  obtain ⟨us,r,p,_⟩:=I.list (show SqL X.K H a xs from h)
  exact ⟨us,r,p.isList⟩
 | false=>
  obtain ⟨us,r,p,_⟩:=I.tuple (show SqT X.K H a xs from h)
  exact ⟨us,r,(show s.heap.IsTuple a us.toArray from p)⟩
theorem vG (I:Inv X pins σ H s) {k:Bool} {a:Addr} {xs ys:List V} (h:if k then SqL X.K H a xs else SqT X.K H a xs) (h':if k then SqL X.K H a ys else SqT X.K H a ys):xs=ys:=by
 cases k with
 | true=>exact I.list_inj (show SqL X.K H a xs from h) (show SqL X.K H a ys from h')
 | false=>exact I.tuple_inj (show SqT X.K H a xs from h) (show SqT X.K H a ys from h')
theorem f9 (I:Inv X pins σ H s) {k:Bool} {a b:Addr} {xs:List V} (h:if k then SqL X.K H a xs else SqT X.K H a xs) (f:qv X pins H b):a≠b:=by
 rintro rfl
 obtain ⟨f0,_,_,f3,_⟩:=f
 have nb:∀ o,X.K.lookup a=some o→False:=fun o hk=>by
  have e:=I.ok.mod.kin a o hk
  rcases f3 with z | z
  ·exact I.ok.noex a o e z
  ·exact absurd (Nat.lt_of_lt_of_le (Heap.lt_size e) (Nat.le_trans I.ok.bsz z)) (Nat.lt_irrefl _)
 cases k with
 | true=>
  rcases (show SqL X.K H a xs from h) with (h | ⟨o,h⟩) | ⟨o,its,n,hk,_⟩
  ·rw [f0] at h;cases h
  ·rw [f0] at h;cases h
  ·exact nb o hk
 | false=>
  rcases (show SqT X.K H a xs from h) with (h | ⟨o,h⟩) | ⟨o,its,n,hk,_⟩
  ·rw [f0] at h;cases h
  ·rw [f0] at h;cases h
  ·exact nb o hk
end
theorem nx_zip_item {prog:Program} {w:World} {A:Around} {E:Value→Shared→Prop} {s:Shared} {k1 k2:Bool} {z TI TO i1 i2 l1 l2:Addr} {i:Nat} {xs ys:Array Value} {x y:Value} {Q:Option Value→Shared→Prop} (D:ZipApart z TI TO i1 i2 l1 l2) (st:ZS k1 k2 z TI TO i1 i2 l1 l2 i s.heap)
  (g1:IsSq k1 s.heap l1 xs) (g2:IsSq k2 s.heap l2 ys) (hx:xs[i]?=some x) (hy:ys[i]?=some y)
  (q:∀ h',IsZip h' z TI TO (rawInt s.heap.objs.size)→IsPair h' TO x y→IsIt k1 h' i1 l1 (i + 1)→IsIt k2 h' i2 l2 (i + 1)→IsPair h' s.heap.objs.size x y→
   (∀ c o,c≠z→c≠TO→c≠i1→c≠i2→s.heap.get? c=some o→h'.get? c=some o)→Q (some (.ref s.heap.objs.size)) { s with heap:=h' }):wpAny (model prog w) A (pyNext (.ref z)) Q E s:=by
 obtain ⟨hz,hTI,⟨a,b,hTO⟩,h1,h2⟩:=st
 have ty:s.TypeIs (.ref z) "zip":=⟨_,hz,rfl⟩
 unfold pyNext
 exact wpAny_bind (wpAny_attempt (wpAny_callSpecial?_slot (name:=Str.ofString "__next__") ty F.slot_zip_next (wpAny_call_entry F.slot_zip_next ty F.entry_zip_next (w5 D hz hTI hTO h1 h2 g1 g2 hx hy fun h' a1 a2 a3 a4 a5 a6=>wpAny_pure (q h' a1 a2 a3 a4 a5 a6)) (F.args_zip_next_1 _))))
theorem pZ {prog:Program} {w:World} {A:Around} {E:Value→Shared→Prop} {s:Shared} {k1 k2:Bool} {z TI TO i1 i2 l1 l2:Addr} {i:Nat} {xs ys:Array Value} {Q:Option Value→Shared→Prop} (hh:A.handled=none) (D:ZipApart z TI TO i1 i2 l1 l2) (st:ZS k1 k2 z TI TO i1 i2 l1 l2 i s.heap)
  (g1:IsSq k1 s.heap l1 xs) (g2:IsSq k2 s.heap l2 ys) (he:xs[i]?=none∨ys[i]?=none) (q:∀ h',(∀ c o,c≠z→c≠TO→c≠i1→c≠i2→s.heap.get? c=some o→h'.get? c=some o)→Q none { s with heap:=h' }):wpAny (model prog w) A (pyNext (.ref z)) Q E s:=by
 obtain ⟨hz,hTI,⟨a,b,hTO⟩,h1,h2⟩:=st
 have ty:s.TypeIs (.ref z) "zip":=⟨_,hz,rfl⟩
 unfold pyNext
 refine wpAny_bind (wpAny_attempt (wpAny_callSpecial?_slot (name:=Str.ofString "__next__") ty F.slot_zip_next (wpAny_call_entry F.slot_zip_next ty F.entry_zip_next (zv hh D hz hTI hTO h1 h2 g1 g2 he fun h' e kk ⟨o,ho,oc⟩=>?_) (F.args_zip_next_1 _))))
 exact wpAny_bind (wpAny_isInstance (T:="StopIteration") (b:=true) ⟨o,ho,oc⟩ isSubtype_stop (wpAny_pure (q _ kk)))
theorem ur {P:Program} {w:World} {K:W.Frag} {es:List Expr} {kt:Nat} {pt:Pos} (k1 k2:Bool) (a b z TI TO i1 i2:Addr) (ne:z≠TI∧z≠TO∧z≠i1∧z≠i2∧TI≠TO∧TI≠i1∧TI≠i2∧TO≠i1∧TO≠i2∧i1≠i2) :
  Turn P w K (.Tuple es kt pt) (Itz K k1 k2 a b) [z,TI,TO,i1,i2] z (ZS k1 k2 z TI TO i1 i2 a b) where
 mem:=by simp
 obj:=fun i h st c hc=>by
  obtain ⟨hz,hTI,⟨x,y,hTO⟩,h1,h2⟩:=st
  simp only [List.mem_cons,List.not_mem_nil,or_false] at hc
  rcases hc with rfl | rfl | rfl | rfl | rfl
  ·exact ⟨_,hz,fun v q=>by cases q⟩
  ·exact ⟨_,hTI,fun v q=>by cases q⟩
  ·exact ⟨_,hTO,fun v q=>by cases q⟩
  ·exact h1.obj
  ·exact h2.obj
 keep:=fun i h h' st k=>by
  obtain ⟨hz,hTI,⟨x,y,hTO⟩,h1,h2⟩:=st
  exact ⟨k z (by simp) _ hz,k TI (by simp) _ hTI,⟨x,y,k TO (by simp) _ hTO⟩,h1.at fun o e=>k i1 (by simp) o e,h2.at fun o e=>k i2 (by simp) o e⟩
 item:=by
  intro X hP hw hK hc i pins s σ H E I hf st hg
  subst hP hw hK
  obtain ⟨xs,ys,x,y,s1,s2,hx,hy⟩:=hg
  obtain ⟨us,r1,q1⟩:=pY I s1
  obtain ⟨ws,r2,q2⟩:=pY I s2
  obtain ⟨u,hu,ru⟩:=r1.get hx
  obtain ⟨v,hv,rv⟩:=r2.get hy
  obtain ⟨n1,n2,n3,n4,n5,n6,n7,n8,n9,n10⟩:=ne
  have f:=fun c hc=>hf c hc
  have D:ZipApart z TI TO i1 i2 a b:=⟨n1.symm,n2.symm,n3.symm,n4.symm,n5,n6,n7,n8,n9,n10,f9 I s1 (f z (by simp)),f9 I s1 (f TO (by simp)),f9 I s1 (f i1 (by simp)),f9 I s1 (f i2 (by simp)),
   f9 I s2 (f z (by simp)),f9 I s2 (f TO (by simp)),f9 I s2 (f i1 (by simp)),f9 I s2 (f i2 (by simp))⟩
  have hTI:=st.2.1
  refine nx_zip_item D st q1 q2 (by simpa using hu) (by simpa using hv) fun h' z1 t1 j1 j2 tp kk=>⟨_,rfl,?_⟩
  refine wpAny_letOwnedTupleGo_zip z1 fun h2 z2 sb=>?_
  have nT:H s.heap.objs.size=none:=I.hok.fresh (Nat.le_refl _)
  have tT:s.heap.objs.size≠z:=Nat.ne_of_gt (Heap.lt_size st.1)
  have all:∀ c o,c≠z→c≠TO→c≠i1→c≠i2→s.heap.get? c=some o→h2.get? c=some o:=fun c o c1 c2 c3 c4 e=>(sb.2 c c1).trans (kk c o c1 c2 c3 c4 e)
  have fz:=f z (by simp)
  have fo:=f TO (by simp)
  have f1:=f i1 (by simp)
  have f2:=f i2 (by simp)
  have nott:∀ c ob,H c=some ob→c≠z∧c≠TO∧c≠i1∧c≠i2:=fun c ob e=>⟨(fun q=>by rw [q,fz.1] at e;cases e),(fun q=>by rw [q,fo.1] at e;cases e),(fun q=>by rw [q,f1.1] at e;cases e),(fun q=>by rw [q,f2.1] at e;cases e)⟩
  refine ⟨.ref s.heap.objs.size,upd H s.heap.objs.size (.tup [x,y]),?_,rfl,⟨_,nT,rfl,fun xs' ys' x' y' a1 a2 a3 a4=>?_⟩,⟨z2,?_,⟨u,v,(sb.2 TO n2.symm).trans t1⟩,j1.at fun o e=>(sb.2 i1 n3.symm).trans e,j2.at fun o e=>(sb.2 i2 n4.symm).trans e⟩,fun c hc=>?_⟩
  ·have tup2:h2.get? s.heap.objs.size=some { cls:=.type "tuple",data:=.seq #[u,v] }:=(sb.2 _ tT).trans tp
   have S0:Inv X pins σ (upd H s.heap.objs.size (.tup [x,y])) { s with heap:=h2,gens:=s.gens,drawn:=s.drawn,toks:=s.toks }:=by
    refine I.step (ch:=[z,TO,i1,i2]) (fun c hc=>?_) (fun c o _ _ nc e _=>all c o (fun q=>nc (by simp [q])) (fun q=>nc (by simp [q])) (fun q=>nc (by simp [q])) (fun q=>nc (by simp [q])) e)
     (fun c o _ _ nc e _=>⟨o.slots,all c o (fun q=>nc (by simp [q])) (fun q=>nc (by simp [q])) (fun q=>nc (by simp [q])) (fun q=>nc (by simp [q])) e⟩) (fun c o _ e n=>by rw [aG (Nat.ne_of_lt (Heap.lt_size e))];exact n)
     (fun c o nc e=>⟨o,all c o (fun q=>nc (by simp [q])) (fun q=>nc (by simp [q])) (fun q=>nc (by simp [q])) (fun q=>nc (by simp [q])) e⟩) (fun c l e=>by rw [aG (aU e nT)];exact e) (fun c o u' e=>by rw [aG (aU e nT)];exact e)
     (fun c ps e=>⟨#[],by rw [aG (aU e nT),e];simp⟩) (fun m hm=>?_) (fun c ob e=>?_) I.bare
    ·simp only [List.mem_cons,List.not_mem_nil,or_false] at hc
     rcases hc with rfl | rfl | rfl | rfl
     ·exact ⟨fz.2.2.2.1,fz.2.1,fz.2.2.2.2.1,fz.2.2.2.2.2⟩
     ·exact ⟨fo.2.2.2.1,fo.2.1,fo.2.2.2.2.1,fo.2.2.2.2.2⟩
     ·exact ⟨f1.2.2.2.1,f1.2.1,f1.2.2.2.2.1,f1.2.2.2.2.2⟩
     ·exact ⟨f2.2.2.2.1,f2.2.1,f2.2.2.2.2.1,f2.2.2.2.2.2⟩
    ·obtain ⟨o,es,ep,ho,r⟩:=hm
     exact ⟨o,es,ep,all _ o (Ne.symm fz.2.1) (Ne.symm fo.2.1) (Ne.symm f1.2.1) (Ne.symm f2.2.1) ho,r⟩
    ·by_cases ec:c=s.heap.objs.size
     ·subst ec
      rw [bj] at e
      cases e
      exact ⟨by simp only [List.length_cons,List.length_nil];rw [sizeLine_eq];decide,[u,v],.cons ru (.cons rv .nil),⟨_,tup2,rfl,⟨0,rfl⟩,rfl⟩⟩
     ·rw [aG ec] at e
      refine (I.hok c ob e).stay (fun d w' hd q=>?_) (fun d q=>by rw [aG (aU q nT)];exact q) fun d l q=>by rw [aG (aU q nT)];exact q
      have hd':∃ oo,H d=some oo:=by
       rcases hd with rfl | hd
       ·exact ⟨_,e⟩
       ·exact ⟨_,hd⟩
      obtain ⟨oo,hoo⟩:=hd'
      obtain ⟨m1,m2,m3,m4⟩:=nott d oo hoo
      exact all d w' m1 m2 m3 m4 q
   exact S0
  ·have e1:=vG I a1 s1
   have e2:=vG I a2 s2
   subst e1 e2
   rw [hx] at a3
   rw [hy] at a4
   cases a3
   cases a4
   rfl
  ·exact (sb.2 TI n1.symm).trans (kk TI _ n1.symm n5 n6 n7 hTI)
  ·have hc0:=(f c hc).1
   have cs:c≠s.heap.objs.size:=by
    have:=(fun i h st=>by
     exact (by
      obtain ⟨hz,hTI,⟨x,y,hTO⟩,h1,h2⟩:=st
      simp only [List.mem_cons,List.not_mem_nil,or_false] at hc
      rcases hc with rfl | rfl | rfl | rfl | rfl
      ·exact ⟨_,hz⟩
      ·exact ⟨_,hTI⟩
      ·exact ⟨_,hTO⟩
      ·obtain ⟨o,e,_⟩:=h1.obj;exact ⟨o,e⟩
      ·obtain ⟨o,e,_⟩:=h2.obj;exact ⟨o,e⟩:∃ o,h.get? c=some o):∀ i h,ZS k1 k2 z TI TO i1 i2 a b i h→∃ o,h.get? c=some o) i s.heap st
    obtain ⟨o,e⟩:=this
    exact Nat.ne_of_lt (Heap.lt_size e)
   rw [aG cs]
   exact hc0
 done:=by
  intro X hP hw hK hc i pins s σ H E I hf st hg
  subst hP hw hK
  obtain ⟨xs,ys,s1,s2,hi⟩:=hg
  obtain ⟨us,r1,q1⟩:=pY I s1
  obtain ⟨ws,r2,q2⟩:=pY I s2
  have l1:=r1.length
  have l2:=r2.length
  obtain ⟨n1,n2,n3,n4,n5,n6,n7,n8,n9,n10⟩:=ne
  have f:=fun c hc=>hf c hc
  have D:ZipApart z TI TO i1 i2 a b:=⟨n1.symm,n2.symm,n3.symm,n4.symm,n5,n6,n7,n8,n9,n10,f9 I s1 (f z (by simp)),f9 I s1 (f TO (by simp)),f9 I s1 (f i1 (by simp)),f9 I s1 (f i2 (by simp)),
   f9 I s2 (f z (by simp)),f9 I s2 (f TO (by simp)),f9 I s2 (f i1 (by simp)),f9 I s2 (f i2 (by simp))⟩
  have fz:=f z (by simp)
  have fo:=f TO (by simp)
  have f1:=f i1 (by simp)
  have f2:=f i2 (by simp)
  refine pZ (I.ok.hd hc) D st q1 q2 (by
   rcases Nat.le_total us.length ws.length with q | q
   ·exact .inl (by simp;lia)
   ·exact .inr (by simp;lia)) fun h' kk=>⟨rfl,?_⟩
  have nott:∀ c ob,H c=some ob→c≠z∧c≠TO∧c≠i1∧c≠i2:=fun c ob e=>⟨(fun q=>by rw [q,fz.1] at e;cases e),(fun q=>by rw [q,fo.1] at e;cases e),(fun q=>by rw [q,f1.1] at e;cases e),(fun q=>by rw [q,f2.1] at e;cases e)⟩
  have S0:Inv X pins σ H { s with heap:=h',gens:=s.gens,drawn:=s.drawn,toks:=s.toks }:=by
   refine I.step (ch:=[z,TO,i1,i2]) (fun c hc=>?_) (fun c o _ _ nc e _=>kk c o (fun q=>nc (by simp [q])) (fun q=>nc (by simp [q])) (fun q=>nc (by simp [q])) (fun q=>nc (by simp [q])) e)
    (fun c o _ _ nc e _=>⟨o.slots,kk c o (fun q=>nc (by simp [q])) (fun q=>nc (by simp [q])) (fun q=>nc (by simp [q])) (fun q=>nc (by simp [q])) e⟩) (fun c o _ e n=>n)
    (fun c o nc e=>⟨o,kk c o (fun q=>nc (by simp [q])) (fun q=>nc (by simp [q])) (fun q=>nc (by simp [q])) (fun q=>nc (by simp [q])) e⟩) (fun c l e=>e) (fun c o u' e=>e)
    (fun c ps e=>⟨#[],by rw [e];simp⟩) (fun m hm=>?_) (fun c ob e=>?_) I.bare
   ·simp only [List.mem_cons,List.not_mem_nil,or_false] at hc
    rcases hc with rfl | rfl | rfl | rfl
    ·exact ⟨fz.2.2.2.1,fz.2.1,fz.2.2.2.2.1,fz.2.2.2.2.2⟩
    ·exact ⟨fo.2.2.2.1,fo.2.1,fo.2.2.2.2.1,fo.2.2.2.2.2⟩
    ·exact ⟨f1.2.2.2.1,f1.2.1,f1.2.2.2.2.1,f1.2.2.2.2.2⟩
    ·exact ⟨f2.2.2.2.1,f2.2.1,f2.2.2.2.2.1,f2.2.2.2.2.2⟩
   ·obtain ⟨o,es,ep,ho,r⟩:=hm
    exact ⟨o,es,ep,kk _ o (Ne.symm fz.2.1) (Ne.symm fo.2.1) (Ne.symm f1.2.1) (Ne.symm f2.2.1) ho,r⟩
   ·refine (I.hok c ob e).stay (fun d w' hd q=>?_) (fun d q=>q) fun d l q=>q
    have hd':∃ oo,H d=some oo:=by
     rcases hd with rfl | hd
     ·exact ⟨_,e⟩
     ·exact ⟨_,hd⟩
    obtain ⟨oo,hoo⟩:=hd'
    obtain ⟨m1,m2,m3,m4⟩:=nott d oo hoo
    exact kk d w' m1 m2 m3 m4 q
  exact S0
 self:=fun _ _ _ _ _ st h=>wpAny_pyIter_zip st.1 h
section
variable {X:Cx} {es:List Expr} {kt:Nat} {pt:Pos}
noncomputable def Dk (K:W.Frag) (k1 k2:Bool) (ta:TA):TI:=fun σ H R=>ta σ H fun vs H1=>∃ a b xs ys,vs=[.ref a,.ref b]∧(if k1 then SqL K H1 a xs else SqT K H1 a xs)∧(if k2 then SqL K H1 b ys else SqT K H1 b ys)∧R (Itz K k1 k2 a b) H1
theorem zx (k1 k2:Bool) {e1 e2:Expr} {ta:TA} {p pos:Pos} (hg:Gl X "zip") (hm:X.mg "zip" = none) (ha:PA X [e1,e2] ta) (he:starEach [e1,e2] X.env=(false,eval e1 X.env) :: starEach [e2] X.env:=by rfl) (hpl:(backTo pos (starEach [e2] X.env)).any (·.1)=false:=by rfl) :
  PI X (.Tuple es kt pt) (.Call (.Name "zip" p) [e1,e2] [] pos) (Dk X.K k1 k2 ta):=by
 intro pins s σ H R I h
 refine wpAny_Call_Name_kw (jr I hg hm (by decide +kernel:bootBuiltins "zip" = some (.type "zip")) ?_ (by decide) (by decide))
 refine PyProof.Rows.callWith_type1 (thn (ha pos pins s σ H _ I h) fun us s1 ⟨vs,H1,I1,r1,a,b,xs,ys,e,s1',s2',q⟩=>?_) he hpl
 subst e
 obtain ⟨u,w',rfl,ra,rb⟩:=tY r1
 cases ra
 cases rb
 obtain ⟨us,v1,q1⟩:=pY I1 s1'
 obtain ⟨ws,v2,q2⟩:=pY I1 s2'
 refine w6 q1 q2 fun h' st kk=>?_
 refine wpAny_pyIter_zip st.1 ?_
 have fr:∀ j,qv X pins H1 (s1.heap.objs.size + j):=fun j=>I1.fpOk (Nat.le_add_right _ _) (I1.hok.fresh (Nat.le_add_right _ _))
 have nn:∀ i j:Nat,i≠j→s1.heap.objs.size + i≠s1.heap.objs.size + j:=fun i j h z=>h (Nat.add_left_cancel z)
 refine ⟨_,_,_,_,H1,rfl,I1.kept (t':=s1.toks) kk,ur k1 k2 a b (s1.heap.objs.size + 4) (s1.heap.objs.size + 2) (s1.heap.objs.size + 3) (s1.heap.objs.size + 0) (s1.heap.objs.size + 1)
  ⟨nn 4 2 (by decide),nn 4 3 (by decide),nn 4 0 (by decide),nn 4 1 (by decide),nn 2 3 (by decide),nn 2 0 (by decide),nn 2 1 (by decide),nn 3 0 (by decide),nn 3 1 (by decide),nn 0 1 (by decide)⟩,st,fun c hc=>?_,q⟩
 simp only [List.mem_cons,List.not_mem_nil,or_false] at hc
 rcases hc with rfl | rfl | rfl | rfl | rfl
 ·exact fr 4
 ·exact fr 2
 ·exact fr 3
 ·exact fr 0
 ·exact fr 1
end
end NX
namespace NX
open PySem PySem.W PyProof.Rows
section
variable {n:Nat} {O:KeyOrd} {κ:Nat→O.α} {cmp:Nat→Nat→(Bool→Shared→Prop)→Shared→Prop} {Good:Shared→Prop}
noncomputable def kk (κ:Nat→O.α) (p:Array Nat) (i:Nat):O.α:=κ (p.getD i 0)
structure POk (n:Nat) (p:Array Nat):Prop where
 perm:p.toList.Perm (List.range n)
theorem POk.size {p:Array Nat} (h:POk n p):p.size=n:=by
 have:=h.perm.length_eq
 simpa using this
theorem POk.lt {p:Array Nat} (h:POk n p) {i:Nat} (hi:i < n):p.getD i 0 < n:=by
 have hs:=h.size
 have hi':i < p.size:=by lia
 have e:p.getD i 0=p[i]:=by simp [Array.getD,hi']
 rw [e]
 exact List.mem_range.mp (h.perm.mem_iff.mp (Array.getElem_mem_toList hi'))
theorem POk.of {p q:Array Nat} (h:POk n p) (hq:q.Perm p):POk n q:=⟨(Array.perm_iff_toList_perm.mp hq).trans h.perm⟩
def bc (κ:Nat→O.α) (p:Array Nat) (m:Nat):Prop:=∀ i j,i≤j→j < m→O.kle (kk κ p i) (kk κ p j)
def eB (κ:Nat→O.α) (p:Array Nat) (m:Nat):Prop:=∀ i j,i≤j→j < m→O.kle (kk κ p j) (kk κ p i)
theorem dS {p q:Array Nat} {i j:Nat} (h:p[i]?=q[j]?):p.getD i 0=q.getD j 0:=by
 rw [Array.getD_eq_getD_getElem?,Array.getD_eq_getD_getElem?,h]
theorem oQ {p:Array Nat} {i j:Nat} (hj:j≤p.size) (k:Nat):kk κ (kas_rev p i j) k=if i≤k∧k < j then kk κ p (i + j - 1 - k) else kk κ p k:=by
 have e:=getElem?_mirror_all (i:=i) hj k
 unfold kk kas_rev
 split
 ·rename_i h
  rw [if_pos h] at e
  rw [dS e]
 ·rename_i h
  rw [if_neg h] at e
  rw [dS e]
theorem vH {p:Array Nat} {src d:Nat} (hs:src < p.size) (hd:d≤src) (k:Nat):kk κ (bubble p src d) k=if k=src - d then kk κ p src else if src - d < k∧k≤src then kk κ p (k - 1) else kk κ p k:=by
 have e:=getElem?_bubble hs d hd k
 by_cases h:k=src - d
 ·rw [if_pos h] at e ⊢
  exact congrArg κ (dS e)
 ·rw [if_neg h] at e ⊢
  by_cases h2:src - d < k∧k≤src
  ·rw [if_pos h2] at e ⊢
   exact congrArg κ (dS e)
  ·rw [if_neg h2] at e ⊢
   exact congrArg κ (dS e)
theorem POk.rev {p:Array Nat} (h:POk n p) (i j:Nat):POk n (kas_rev p i j):=h.of (mirror_perm _ _ _ _)
theorem POk.bub {p:Array Nat} (h:POk n p) (i j:Nat):POk n (bubble p i j):=h.of (bubble_perm _ _ _)
theorem p0 (p:Array Nat):bc κ p 1:=fun i j a b=>by
 have e:i=j:=by lia
 rw [e]
 exact KeyOrd.kle_refl _
theorem nq {p:Array Nat} {m:Nat} (h1:1≤m) (h:bc κ p m) (hm:O.kle (kk κ p (m - 1)) (kk κ p m)):bc κ p (m + 1):=by
 intro i j hij hj
 by_cases e:j=m
 ·subst e
  by_cases e2:i=j
  ·subst e2
   exact KeyOrd.kle_refl _
  ·exact KeyOrd.kle_trans (h i (j - 1) (by lia) (by lia)) hm
 ·exact h i j hij (by lia)
theorem dU {p:Array Nat} {m:Nat} (h1:1≤m) (h:eB κ p m) (hm:O.kle (kk κ p m) (kk κ p (m - 1))):eB κ p (m + 1):=by
 intro i j hij hj
 by_cases e:j=m
 ·subst e
  by_cases e2:i=j
  ·subst e2
   exact KeyOrd.kle_refl _
  ·exact KeyOrd.kle_trans hm (h i (j - 1) (by lia) (by lia))
 ·exact h i j hij (by lia)
variable (hc:∀ i j,i < n→j < n→∀ (Q:Bool→Shared→Prop) s,Good s→(∀ s',Good s'→Q (O.blt (κ i) (κ j)) s')→cmp i j Q s)
include hc
theorem rq {p:Array Nat} (hp:POk n p) {nrem:Nat} (hn:nrem≤n) {Q:Nat→Shared→Prop}:∀ (f m:Nat) (s:Shared),Good s→1≤m→m + f=nrem→bc κ p m→
  (∀ r s',Good s'→m≤r→r≤nrem→bc κ p r→(r < nrem→O.klt (kk κ p r) (kk κ p (r - 1)))→Q r s')→(kas_asc p f m).kasWp cmp Q s
 | 0,m,s,g,h1,hf,hs,k=>k m s g (Nat.le_refl _) (by lia) hs (fun z=>by lia)
 | f + 1,m,s,g,h1,hf,hs,k=>by
  show cmp (p.getD m 0) (p.getD (m - 1) 0) _ s
  refine hc _ _ (hp.lt (by lia)) (hp.lt (by lia)) _ s g fun s' g'=>?_
  cases e:O.blt (κ (p.getD m 0)) (κ (p.getD (m - 1) 0)) with
  | true=>
   (try dsimp only)
   rw [if_pos rfl]
   exact k m s' g' (Nat.le_refl _) (by lia) hs fun _=>e
  | false=>
   (try dsimp only)
   rw [if_neg Bool.false_ne_true]
   exact rq hp hn f (m + 1) s' g' (by lia) (by lia) (nq h1 hs e) fun r s2 g2 a b c d=>k r s2 g2 (by lia) b c d
def w9 (κ:Nat→O.α) (p:Array Nat) (m q:Nat):Prop:=∀ k,m - (q + 1)≤k→k < m→kk κ p k=kk κ p (m - 1)
omit hc in
theorem me {p:Array Nat} {m q:Nat} (hm:m≤p.size) (h:w9 κ p m q) (k:Nat):kk κ (kas_rev p (m - (q + 1)) m) k=kk κ p k:=by
 rw [oQ hm]
 split
 ·rename_i hk
  rw [h _ (by lia) (by lia),h k hk.1 hk.2]
 ·rfl
omit hc in
theorem ir {p p':Array Nat} {m:Nat} (e:∀ k,kk κ p' k=kk κ p k) (h:eB κ p m):eB κ p' m:=fun i j a b=>by rw [e,e];exact h i j a b
theorem kU {nrem:Nat} (hn:nrem≤n) {Q:Array Nat×Nat×Nat→Shared→Prop}:∀ (f:Nat) (p:Array Nat) (m q:Nat) (s:Shared),POk n p→Good s→1≤m→q + 1≤m→m + f=nrem→eB κ p m→w9 κ p m q→
  (∀ p' m' q' s',POk n p'→Good s'→m≤m'→m'≤nrem→q' + 1≤m'→eB κ p' m'→w9 κ p' m' q'→Q (p',m',q') s')→(kas_desc f p m q).kasWp cmp Q s
 | 0,p,m,q,s,hp,g,h1,hq,hf,hs,ha,k=>k p m q s hp g (Nat.le_refl _) (by lia) hq hs ha
 | f + 1,p,m,q,s,hp,g,h1,hq,hf,hs,ha,k=>by
  show cmp (p.getD m 0) (p.getD (m - 1) 0) _ s
  refine hc _ _ (hp.lt (by lia)) (hp.lt (by lia)) _ s g fun s' g'=>?_
  have hsz:=hp.size
  cases e:O.blt (κ (p.getD m 0)) (κ (p.getD (m - 1) 0)) with
  | true=>
   (try dsimp only)
   rw [if_pos rfl]
   have le:O.kle (kk κ p m) (kk κ p (m - 1)):=KeyOrd.kle_of_klt e
   by_cases h0:q > 0
   ·rw [if_pos h0]
    have same:=me (κ:=κ) (p:=p) (m:=m) (q:=q) (by lia) ha
    refine kU hn f _ (m + 1) 0 s' (hp.rev _ _) g' (by lia) (by lia) (by lia) (dU h1 (ir same hs) (by rw [same,same];exact le)) ?_ fun p' m' q' s2 a b c d e' f' g2=>k p' m' q' s2 a b (by lia) d e' f' g2
    intro k' a b
    have:k'=m:=by lia
    rw [this]
    rfl
   ·rw [if_neg h0]
    refine kU hn f p (m + 1) 0 s' hp g' (by lia) (by lia) (by lia) (dU h1 hs le) ?_ fun p' m' q' s2 a b c d e' f' g2=>k p' m' q' s2 a b (by lia) d e' f' g2
    intro k' a b
    have:k'=m:=by lia
    rw [this]
    rfl
  | false=>
   (try dsimp only)
   rw [if_neg Bool.false_ne_true]
   show cmp (p.getD (m - 1) 0) (p.getD m 0) _ s'
   refine hc _ _ (hp.lt (by lia)) (hp.lt (by lia)) _ s' g' fun s2 g2=>?_
   cases e2:O.blt (κ (p.getD (m - 1) 0)) (κ (p.getD m 0)) with
   | true=>
    (try dsimp only)
    rw [if_pos rfl]
    exact k p m q s2 hp g2 (Nat.le_refl _) (by lia) hq hs ha
   | false=>
    (try dsimp only)
    rw [if_neg Bool.false_ne_true]
    have eq:kk κ p (m - 1)=kk κ p m:=KeyOrd.kle_antisymm (O:=O) e e2
    refine kU hn f p (m + 1) (q + 1) s2 hp g2 (by lia) (by lia) (by lia) (dU h1 hs (by rw [eq];exact KeyOrd.kle_refl _)) ?_ fun p' m' q' s3 a b c d e' f' g3=>k p' m' q' s3 a b (by lia) d e' f' g3
    intro k' a b
    show kk κ p k'=kk κ p m
    by_cases z:k'=m
    ·rw [z]
    ·rw [ha k' (by lia) (by lia),eq]
omit hc in
theorem p3 {p:Array Nat} {m:Nat} (hm:m≤p.size) (h:eB κ p m):bc κ (kas_rev p 0 m) m:=by
 intro i j a b
 rw [oQ hm,oQ hm,if_pos (by lia),if_pos (by lia)]
 exact h _ _ (by lia) (by lia)
theorem rA {p:Array Nat} (hp:POk n p) {m nrem:Nat} (hn:nrem≤n) (h1:1≤m) (hm:m≤nrem) (hs:eB κ p m) {Q:Nat×Array Nat→Shared→Prop} {s:Shared} (g:Good s)
  (k:∀ r p' s',POk n p'→Good s'→1≤r→r≤nrem→bc κ p' r→Q (r,p') s'):(kas_tail3 m nrem p).kasWp cmp Q s:=by
 unfold kas_tail3
 rw [KasT.kasWp_bind]
 have hsz:=hp.size
 refine rq hc (hp.rev 0 m) hn (nrem - m) m s g h1 (by lia) (p3 (by lia) hs) fun r s' g' a b c _=>?_
 exact k r _ s' (hp.rev 0 m) g' (by lia) b c
theorem jx {p:Array Nat} (hp:POk n p) {m nrem:Nat} (hn:nrem≤n) (h1:1≤m) (hm:m + 1≤nrem) (hs:eB κ p (m + 1)) {Q:Nat×Array Nat→Shared→Prop} {s:Shared} (g:Good s)
  (k:∀ r p' s',POk n p'→Good s'→1≤r→r≤nrem→bc κ p' r→Q (r,p') s'):(kas_descPart m nrem p).kasWp cmp Q s:=by
 unfold kas_descPart
 rw [KasT.kasWp_bind]
 refine kU hc hn (nrem - (m + 1)) p (m + 1) 0 s hp g (by lia) (by lia) (by lia) hs ?_ fun p' m' q' s' a b c d e f g2=>?_
 ·intro k' a b
  have:k'=m:=by lia
  rw [this]
  rfl
 ·have hsz:=a.size
  dsimp only
  split
  ·have same:=me (κ:=κ) (p:=p') (m:=m') (q:=q') (by lia) g2
   exact rA hc (a.rev _ _) hn (by lia) d (ir same f) b k
  ·exact rA hc a hn (by lia) d f b k
theorem uu {p:Array Nat} (hp:POk n p) {nrem:Nat} (hn:nrem≤n) (h1:1≤nrem) {Q:Nat×Array Nat→Shared→Prop} {s:Shared} (g:Good s)
  (k:∀ r p' s',POk n p'→Good s'→1≤r→r≤nrem→bc κ p' r→Q (r,p') s'):(kas_count nrem p).kasWp cmp Q s:=by
 unfold kas_count
 rw [KasT.kasWp_bind]
 have hsz:=hp.size
 refine rq hc hp hn (nrem - 1) 1 s g (Nat.le_refl _) (by lia) (p0 p) fun m s' g' a b c d=>?_
 by_cases e:m=nrem
 ·rw [if_pos (by simpa using e)]
  exact k m p s' hp g' (by lia) (by lia) c
 ·rw [if_neg (by simpa using e)]
  have dd:=d (by lia)
  by_cases h2:m > 1
  ·rw [if_pos h2]
   show cmp (p.getD 0 0) (p.getD (m - 1) 0) _ s'
   refine hc _ _ (hp.lt (by lia)) (hp.lt (by lia)) _ s' g' fun s2 g2=>?_
   cases e2:O.blt (κ (p.getD 0 0)) (κ (p.getD (m - 1) 0)) with
   | true=>
    (try dsimp only)
    rw [if_pos rfl]
    exact k m p s2 hp g2 (by lia) b c
   | false=>
    (try dsimp only)
    rw [if_neg Bool.false_ne_true]
    have eq:∀ i,i < m→kk κ p i=kk κ p 0:=fun i hi=>by
     have x1:=c 0 i (by lia) hi
     have x2:=c i (m - 1) (by lia) (by lia)
     exact KeyOrd.kle_antisymm (O:=O) (KeyOrd.kle_trans x2 e2) x1
    have same:∀ i,kk κ (kas_rev p 0 m) i=kk κ p i:=fun i=>by
     rw [oQ (by lia)]
     split
     ·rw [eq _ (by lia),eq i (by lia)]
     ·rfl
    refine jx hc (hp.rev 0 m) hn (by lia) (by lia) ?_ g2 k
    refine ir same (dU (by lia) (fun i j x y=>?_) (KeyOrd.kle_of_klt dd))
    rw [eq i (by lia),eq j y]
    exact KeyOrd.kle_refl _
  ·rw [if_neg h2]
   refine jx hc hp hn (by lia) (by lia) (dU (by lia) (fun i j x y=>?_) (KeyOrd.kle_of_klt dd)) g' k
   have:i=j:=by lia
   rw [this]
   exact KeyOrd.kle_refl _
theorem kW {p:Array Nat} (hp:POk n p) {t:Nat} (ht:t < n) (hs:bc κ p t) {Q:Nat→Shared→Prop}:∀ (f l r:Nat) (s:Shared),Good s→l≤r→r≤t→r - l≤f→(∀ i,i < l→O.kle (kk κ p i) (kk κ p t))→(∀ i,r≤i→i < t→O.klt (kk κ p t) (kk κ p i))→
  (∀ x s',Good s'→x≤t→(∀ i,i < x→O.kle (kk κ p i) (kk κ p t))→(∀ i,x≤i→i < t→O.klt (kk κ p t) (kk κ p i))→Q x s')→(kas_place p t f l r).kasWp cmp Q s
 | 0,l,r,s,g,h1,h2,h3,lo,hi,k=>k l s g (by lia) lo fun i a b=>hi i (by lia) b
 | f + 1,l,r,s,g,h1,h2,h3,lo,hi,k=>by
  unfold kas_place
  by_cases e:l ≥ r
  ·rw [if_pos e]
   exact k l s g (by lia) lo fun i a b=>hi i (by lia) b
  ·rw [if_neg e]
   show cmp (p.getD t 0) (p.getD ((l + r) / 2) 0) _ s
   refine hc _ _ (hp.lt ht) (hp.lt (by lia)) _ s g fun s' g'=>?_
   cases e2:O.blt (κ (p.getD t 0)) (κ (p.getD ((l + r) / 2) 0)) with
   | true=>
    (try dsimp only)
    rw [if_pos rfl]
    refine kW hp ht hs f l ((l + r) / 2) s' g' (by lia) (by lia) (by lia) lo (fun i a b=>?_) k
    exact KeyOrd.klt_of_klt_of_kle (O:=O) e2 (hs _ i a b)
   | false=>
    (try dsimp only)
    rw [if_neg Bool.false_ne_true]
    refine kW hp ht hs f ((l + r) / 2 + 1) r s' g' (by lia) (by lia) (by lia) (fun i a=>?_) hi k
    exact KeyOrd.kle_trans (O:=O) (hs i ((l + r) / 2) (by lia) (by lia)) e2
theorem vI {Q:Array Nat→Shared→Prop}:∀ (f:Nat) (p:Array Nat) (t:Nat) (s:Shared),POk n p→Good s→t + f=n→bc κ p t→(∀ p' s',POk n p'→Good s'→bc κ p' n→Q p' s')→(kas_bin f p t).kasWp cmp Q s
 | 0,p,t,s,hp,g,hf,hs,k=>k p s hp g (by rw [show n=t by lia];exact hs)
 | f + 1,p,t,s,hp,g,hf,hs,k=>by
  unfold kas_bin
  rw [KasT.kasWp_bind]
  have hsz:=hp.size
  refine kW hc hp (by lia) hs t 0 t s g (Nat.zero_le _) (Nat.le_refl _) (by lia) (fun i a=>by lia) (fun i a b=>by lia) fun x s' g' hx lo hi=>?_
  refine vI f _ (t + 1) s' (hp.bub _ _) g' (by lia) ?_ k
  have ex:t - (t - x)=x:=by lia
  intro i j a b
  rw [vH (by lia) (by lia),vH (by lia) (by lia),ex]
  have lo':=lo
  by_cases i1:i=x
  ·by_cases j1:j=x
   ·rw [if_pos i1,if_pos j1]
    exact KeyOrd.kle_refl _
   ·rw [if_pos i1,if_neg j1,if_pos (by lia)]
    exact KeyOrd.kle_of_klt (hi (j - 1) (by lia) (by lia))
  ·rw [if_neg i1]
   by_cases i2:x < i∧i≤t
   ·rw [if_pos i2,if_neg (by lia),if_pos (by lia)]
    exact hs (i - 1) (j - 1) (by lia) (by lia)
   ·rw [if_neg i2]
    by_cases j1:j=x
    ·rw [if_pos j1]
     exact lo i (by lia)
    ·rw [if_neg j1]
     by_cases j2:x < j∧j≤t
     ·rw [if_pos j2]
      exact hs i (j - 1) (by lia) (by lia)
     ·rw [if_neg j2]
      exact hs i j a (by lia)
theorem xa (h1:1≤n) {Q:Array Nat→Shared→Prop} {s:Shared} (g:Good s) (k:∀ p s',POk n p→Good s'→bc κ p n→Q p s'):(kas_sort n).kasWp cmp Q s:=by
 unfold kas_sort
 rw [KasT.kasWp_bind]
 refine uu hc (p:=List.toArray (List.range n)) ⟨by simp⟩ (Nat.le_refl _) h1 g fun r p' s' hp g' a b c=>?_
 dsimp only
 split
 ·have e:max r 1=r:=by lia
  rw [e]
  exact vI hc (n - r) p' r s' hp g' (by lia) c k
 ·exact k p' s' hp g' (by rw [show n=r by lia];exact c)
end
end NX
namespace NX
open PySem PySem.W PySem.Spec PyProof.Rows L2
section
variable {prog:Program} {w:World} {A:Around} {E:Value→Shared→Prop} {s:Shared}
theorem oR (n:Nat):POk n (List.toArray (List.range n)):=⟨by simp⟩
theorem gS {O:KeyOrd} {key:Nat→O.α} {kd:SortKind} {a:Addr} {vs:List Value} {n:Nat} {P:PySem.Fin→Shared→Prop} (ho:s.heap.get? a=some (seqObj "list" vs.toArray n)) (h64:vs.length < 64)
  (hkind:2≤vs.length→∀ (h':Heap),(∀ b o,b≠a→s.heap.get? b=some o→h'.get? b=some o)→∀ Q:SortKind→Shared→Prop,Q kd { s with heap:=h' }→wpAny (model prog w) A (keyKind' vs.toArray) Q E { s with heap:=h' })
  (hask:∀ i j,i < vs.length→j < vs.length→∀ (h':Heap),(∀ b o,b≠a→s.heap.get? b=some o→h'.get? b=some o)→∀ C:Bool→Shared→Prop,C (O.blt (key i) (key j)) { s with heap:=h' }→kas_ask prog w A kd vs i j C { s with heap:=h' })
  (h:∀ p h',POk vs.length p→bc key p vs.length→(∃ e,h'.get? a=some (seqObj "list" (List.toArray (p.toList.map fun i=>vs.getD i .none)) e))→(∀ b o,b≠a→s.heap.get? b=some o→h'.get? b=some o)→P (.done (.ret .none)) { s with heap:=h' }) :
  wpAny (model prog w) A (Builtin.«list.sort» ⟨[.ref a],[]⟩) P E s:=by
 rw [list_sort_plain]
 have la:a < s.heap.objs.size:=Heap.lt_size ho
 have zs:vs.toArray.size=vs.length:=by simp
 refine wpAny_bind (listItems_at ho rfl (wpAny_bind (listUpdate_at ho rfl ?_ (by rw [zs,sizeLine_eq];lia) (Nat.zero_le _))))
 obtain ⟨e1,h1⟩:∃ e1,(s.heap.update a (Obj.mapSeq fun _=>#[])).get? a=some (seqObj "list" #[] e1):=⟨_,get?_update_seq ho (fun _=>#[])⟩
 refine wpAny_bind (seqEpoch_at h1 rfl (wpAny_bind (wpAny_newTuple (wpAny_bind (wpAny_newList (wpAny_holding ?_))) (by simp only [List.toList_toArray];rw [sizeLine_eq];lia))))
 generalize e6:((s.heap.update a (Obj.mapSeq fun _=>#[])).push { cls:=.type "tuple",data:=.seq vs.toArray.toList.toArray }).push { cls:=.type "list",data:=.seq ([]:List Value).toArray }=h6
 have k6:∀ b o,b≠a→s.heap.get? b=some o→h6.get? b=some o:=fun b o nb e=>by
  rw [←e6]
  exact Heap.get?_push_of_some _ (Heap.get?_push_of_some _ ((Heap.get?_update_other _ _ (Ne.symm nb)).trans e))
 have h6a:h6.get? a=some (seqObj "list" #[] e1):=by
  rw [←e6]
  exact Heap.get?_push_of_some _ (Heap.get?_push_of_some _ h1)
 dsimp only
 have fin:∀ (p:Array Nat),POk vs.length p→bc key p vs.length→∀ out:Array Value,out=List.toArray (p.toList.map fun i=>vs.getD i .none)→
   P (.done (.ret .none)) { s with heap:=h6.update a (Obj.mapSeq fun _=>out) }:=fun p hp hs out eo=>by
  subst eo
  exact h p _ hp hs ⟨_,get?_update_seq h6a _⟩ fun b o nb e=>(Heap.get?_update_other _ _ (Ne.symm nb)).trans (k6 b o nb e)
 have fits:∀ {out:Array Value} {p:Array Nat},POk vs.length p→out=List.toArray (p.toList.map fun i=>vs.getD i .none)→out.size≤sizeLine + 1:=fun {out p} hp e=>by
  rw [e,List.size_toArray,List.length_map,hp.perm.length_eq,List.length_range,sizeLine_eq]
  lia
 by_cases h2:vs.toArray.size < 2
 ·rw [if_pos h2,if_pos h2]
  refine wpAny_bind (wpAny_pure ?_)
  rw [StateT.run_pure]
  refine wpAny_bind (wpAny_pure ?_)
  dsimp only
  have eo:(arrOf (SortSt.mk' general' (vs.toArray.zip vs.toArray) #[] 7 none)).map (·.2)=List.toArray ((List.toArray (List.range vs.length)).toList.map fun i=>vs.getD i .none):=by
   show (vs.toArray.zip vs.toArray).map (·.2)=_
   apply Array.toList_inj.mp
   simp only [Array.toList_map,Array.toList_zip,List.toList_toArray]
   have a1:(vs.zip vs).map (·.2)=vs:=by
    rw [List.map_snd_zip]
    exact Nat.le_refl _
   rw [a1]
   apply List.ext_getElem?
   intro i
   by_cases hi:i < vs.length
   ·simp [hi]
   ·simp [hi]
  refine wpAny_bind (seqEpoch_at h6a rfl (wpAny_bind (listUpdate_at h6a rfl ?_ (Nat.zero_le _) (fits (oR _) eo))))
  simp only [bne_self_eq_false,Bool.false_eq_true,if_false]
  refine wpAny_pure (fin _ (oR _) ?_ _ eo)
  intro i j x y
  have:i=j:=by lia
  rw [this]
  exact KeyOrd.kle_refl _
 ·rw [if_neg h2,if_neg h2]
  have h2':2≤vs.length:=by lia
  refine wpAny_bind (hkind h2' h6 k6 _ ?_)
  refine wpAny_bind (wpAny_mono (kat_run (ks:=vs) (vs:=vs) (Q:=fun st' s'=>∃ p,POk vs.length p∧bc key p vs.length∧arrOf st'=p.map (kas_item (vs.toArray.zip vs.toArray))∧failedOf st'=none∧s'={ s with heap:=h6 })
   (G:=fun p s'=>POk vs.length p∧bc key p vs.length∧s'={ s with heap:=h6 }) rfl h2' h64 (fun p st' s' hz har hf hg=>⟨p,hg.1,hg.2.1,har,hf,hg.2.2⟩)
   (xa (n:=vs.length) (O:=O) (κ:=key) (Good:=fun s'=>s'={ s with heap:=h6 }) (fun i j hi hj Q s' g k=>?_) (by lia) rfl fun p s' hp g hs=>⟨hp,hs,g⟩)) (fun r s' hq=>?_) fun _ _ e=>e)
  ·subst g
   exact hask i j hi hj h6 k6 Q (k _ rfl)
  ·obtain ⟨p,hp,hs,har,hf,rfl⟩:=hq
   have eo:=kat_snds (ks:=vs) (vs:=vs) rfl har
   refine wpAny_bind (seqEpoch_at h6a rfl (wpAny_bind (listUpdate_at h6a rfl ?_ (Nat.zero_le _) (fits hp eo))))
   rw [hf]
   simp only [bne_self_eq_false,Bool.false_eq_true,if_false]
   exact wpAny_pure (fin p hp hs _ eo)
theorem iu {O:KeyOrd} {key:Nat→O.α} {kd:SortKind} {l:Addr} {vs:List Value} {Q:Value→Shared→Prop} (hl:s.heap.IsList l vs.toArray) (h64:vs.length < 64)
  (hkind:2≤vs.length→∀ (A':Around) (E':Value→Shared→Prop) (h':Heap),(∀ b o,s.heap.get? b=some o→h'.get? b=some o)→∀ Q:SortKind→Shared→Prop,Q kd { s with heap:=h' }→wpAny (model prog w) A' (keyKind' vs.toArray) Q E' { s with heap:=h' })
  (hask:∀ i j,i < vs.length→j < vs.length→∀ (h':Heap),(∀ b o,s.heap.get? b=some o→h'.get? b=some o)→∀ C:Bool→Shared→Prop,C (O.blt (key i) (key j)) { s with heap:=h' }→kas_ask prog w A.in1.in1 kd vs i j C { s with heap:=h' })
  (h:∀ p h' e,POk vs.length p→bc key p vs.length→h'.get? (s.heap.objs.size + 1)=some (seqObj "list" (List.toArray (p.toList.map fun i=>vs.getD i .none)) e)→(∀ b o,s.heap.get? b=some o→h'.get? b=some o)→Q (.ref (s.heap.objs.size + 1)) { s with heap:=h' }) :
  wpAny (model prog w) A (call (.builtin "sorted") [.ref l]) Q E s:=by
 refine Calls.call_function_entry kind_sorted plain_sorted entry_sorted (args_sorted1 _) ?_
 unfold Builtin.«sorted»
 refine wpAny_bind (m:=checkCount "sorted" 1 1 _) (wpAny_pure (wpAny_bind (collect_list hl (wpAny_bind (wpAny_newList ?_ (by rw [sizeLine_eq];lia))) (by rw [sizeLine_eq];lia))))
 have zz:((s.heap.push (seqObj "list" #[] 0)).update s.heap.objs.size (Obj.mapSeq (·++vs.toArray))).objs.size=s.heap.objs.size + 1:=by rw [Heap.size_update,size_push']
 generalize e5:(s.heap.push (seqObj "list" #[] 0)).update s.heap.objs.size (Obj.mapSeq (·++vs.toArray))=h5 at zz ⊢
 have k5:∀ b o,s.heap.get? b=some o→(h5.push (seqObj "list" vs.toArray 0)).get? b=some o:=fun b o e=>by
  rw [←e5]
  exact Heap.get?_push_of_some _ ((Heap.get?_update_other _ _ (Ne.symm (Nat.ne_of_lt (Heap.lt_size e)))).trans (Heap.get?_push_of_some _ e))
 have hL:(h5.push (seqObj "list" vs.toArray 0)).get? (s.heap.objs.size + 1)=some (seqObj "list" vs.toArray 0):=by
  rw [←zz]
  exact Heap.get?_push_size _ rfl
 have ne:∀ b o,s.heap.get? b=some o→b≠s.heap.objs.size + 1:=fun b o e=>Nat.ne_of_lt (Nat.lt_succ_of_lt (Heap.lt_size e))
 show wpAny _ _ _ _ _ { s with heap:=h5.push (seqObj "list" vs.toArray 0) }
 rw [zz]
 refine wpAny_bind (wpAny_holding (wpAny_call_entry slot_list_sort ⟨_,hL,rfl⟩ entry_list_sort (gS (key:=key) (kd:=kd) hL h64 (fun h2 h' kk Q' q=>hkind h2 _ _ h' (fun b o e=>kk b o (ne b o e) (k5 b o e)) Q' q)
  (fun i j hi hj h' kk C q=>hask i j hi hj h' (fun b o e=>kk b o (ne b o e) (k5 b o e)) C q) fun p h' hp hs ⟨e,he⟩ kk=>⟨_,rfl,?_⟩) (args_list_sort _)))
 exact wpAny_pure ⟨_,rfl,h p h' e hp hs he fun b o q=>kk b o (ne b o q) (k5 b o q)⟩
end
noncomputable def intO:KeyOrd where
 α:=Int
 blt a b:=decide (a < b)
 irrefl a:=by simp
 trans a b c h1 h2:=by simp only [decide_eq_true_eq] at *;lia
 negTrans a b c h:=by simp only [decide_eq_true_eq] at *;lia
 total a b h1 h2:=by simp only [decide_eq_false_iff_not] at *;lia
abbrev CB:KeyOrd:=strKind.toKeyOrd
noncomputable def m6:KeyOrd where
 α:=Key
 blt a b:=match a,b with
  | .inl i,.inl j=>decide (i < j)
  | .inr x,.inr y=>decide (x.cps.toList < y.cps.toList)
  | .inl _,.inr _=>true
  | .inr _,.inl _=>false
 irrefl a:=by
  cases a with
  | inl i=>simp
  | inr x=>simpa using List.lt_irrefl x.cps.toList
 trans a b c h1 h2:=by
  cases a <;> cases b <;> cases c <;> simp_all
  ·lia
  ·exact List.lt_trans h1 h2
 negTrans a b c h:=by
  cases a <;> cases b <;> cases c <;> simp_all
  ·lia
  ·rename_i x y z
   by_cases q:x.cps.toList < y.cps.toList
   ·exact .inl q
   ·exact .inr (List.lt_of_le_of_lt (List.not_lt.mp q) h)
 total a b h1 h2:=by
  cases a <;> cases b <;> simp_all
  ·lia
  ·rename_i x y
   have e:x.cps.toList=y.cps.toList:=List.le_antisymm (by first | exact h2 | exact List.not_lt.mp h2) (by first | exact h1 | exact List.not_lt.mp h1)
   rw [←l6 x,←l6 y,e]
noncomputable def dk:List Key→List Key→Bool
 | [],[]=>false
 | [],_ :: _=>true
 | _ :: _,[]=>false
 | a :: r,b :: t=>if a=b then dk r t else m6.blt a b
theorem gC:∀ a:List Key,dk a a=false
 | []=>rfl
 | a :: r=>by
  show (if a=a then dk r r else _)=false
  rw [if_pos rfl]
  exact gC r
theorem xb {a b:Key} (h:m6.blt a b=true):a≠b:=by
 rintro rfl
 have:=m6.irrefl a
 rw [h] at this
 cases this
theorem fU:∀ a b c:List Key,dk a b=true→dk b c=true→dk a c=true
 | [],[],_,h,_=>by cases h
 | [],_ :: _,[],_,h=>by cases h
 | [],_ :: _,_ :: _,_,_=>rfl
 | _ :: _,[],_,h,_=>by cases h
 | _ :: _,_ :: _,[],_,h=>by cases h
 | a :: r,b :: t,c :: u,h1,h2=>by
  have h1:(if a=b then dk r t else m6.blt a b)=true:=h1
  have h2:(if b=c then dk t u else m6.blt b c)=true:=h2
  show (if a=c then dk r u else m6.blt a c)=true
  by_cases e1:a=b
  ·by_cases e2:b=c
   ·rw [if_pos e1] at h1
    rw [if_pos e2] at h2
    rw [if_pos (e1.trans e2)]
    exact fU r t u h1 h2
   ·rw [if_neg e2] at h2
    rw [e1,if_neg e2]
    exact h2
  ·rw [if_neg e1] at h1
   by_cases e2:b=c
   ·rw [←e2,if_neg e1]
    exact h1
   ·rw [if_neg e2] at h2
    have h3:=m6.trans a b c h1 h2
    rw [if_neg (xb h3)]
    exact h3
theorem fV:∀ a b:List Key,dk a b=false→dk b a=false→a=b
 | [],[],_,_=>rfl
 | [],_ :: _,h,_=>by cases h
 | _ :: _,[],_,h=>by cases h
 | a :: r,b :: t,h1,h2=>by
  have h1:(if a=b then dk r t else m6.blt a b)=false:=h1
  have h2:(if b=a then dk t r else m6.blt b a)=false:=h2
  by_cases e:a=b
  ·rw [if_pos e] at h1
   rw [if_pos e.symm] at h2
   rw [e,fV r t h1 h2]
  ·rw [if_neg e] at h1
   rw [if_neg (Ne.symm e)] at h2
   exact absurd (m6.total a b h1 h2) e
theorem uv (a b c:List Key) (h:dk a c=true):dk a b=true∨dk b c=true:=by
 cases e:dk a b with
 | true=>exact .inl rfl
 | false=>
  refine .inr ?_
  cases e2:dk b a with
  | true=>exact fU b a c e2 h
  | false=>
   rw [←fV a b e e2]
   exact h
noncomputable def Bg:KeyOrd where
 α:=List Key
 blt:=dk
 irrefl:=gC
 trans:=fU
 negTrans:=uv
 total:=fV
section
variable {O:KeyOrd}
noncomputable def p4 (p:Array Nat) (xs:List V):List V:=p.toList.map fun i=>xs.getD i .non
theorem ki {α:Type} (xs:List α) (d:α):((List.range xs.length).map fun i=>xs.getD i d)=xs:=by
 apply List.ext_getElem?
 intro i
 by_cases hi:i < xs.length
 ·simp [hi]
 ·simp [hi]
theorem jd {α:Type} {p:Array Nat} {xs:List α} (d:α) (hp:POk xs.length p):(p.toList.map fun i=>xs.getD i d).Perm xs:=by
 have:=hp.perm.map (fun i=>xs.getD i d)
 rwa [ki] at this
theorem fW {α:Type} {p:Array Nat} {xs:List α} (d:α) (key:α→O.α) (hp:POk xs.length p) (hs:bc (O:=O) (fun i=>key (xs.getD i d)) p xs.length):(p.toList.map fun i=>xs.getD i d).Pairwise fun a b=>O.kle (key a) (key b):=by
 rw [List.pairwise_iff_getElem]
 intro i j hi hj hij
 have hsz:=hp.size
 have hi':i < p.size:=by simpa using hi
 have hj':j < p.size:=by simpa using hj
 have h:=hs i j (Nat.le_of_lt hij) (by lia)
 unfold kk at h
 simp only [List.getElem_map,Array.getElem_toList]
 have e1:p.getD i 0=p[i]:=by simp [Array.getD,hi']
 have e2:p.getD j 0=p[j]:=by simp [Array.getD,hj']
 rw [e1,e2] at h
 exact h
theorem vals_pick {xs:List V} {us:List Value} (r:Vals xs us):∀ l:List Nat,(∀ i∈l,i < xs.length)→Vals (l.map fun i=>xs.getD i .non) (l.map fun i=>us.getD i .none)
 | [],_=>.nil
 | i :: l,h=>by
  refine .cons ?_ (vals_pick r l fun j hj=>h j (List.mem_cons_of_mem _ hj))
  have hi:=h i List.mem_cons_self
  have e1:xs[i]?=some (xs.getD i .non):=by rw [br _ _ _ hi];exact List.getElem?_eq_getElem hi
  obtain ⟨u,hu,ru⟩:=r.get e1
  have e2:us.getD i .none=u:=by rw [List.getD_eq_getElem?_getD,hu];rfl
  show L2.RelV (xs.getD i .non) (us.getD i .none)
  rw [e2]
  exact ru
theorem je {xs:List V} {us:List Value} {p:Array Nat} (r:Vals xs us) (hp:POk xs.length p):Vals (p4 p xs) (p.toList.map fun i=>us.getD i .none):=
 vals_pick r _ fun i hi=>List.mem_range.mp (hp.perm.mem_iff.mp hi)
end
section
variable {X:Cx}
theorem gT {pins:List (Addr×Obj)} {s:Shared} {σ:L2.St} {H:Hp} {h':Heap} {ys:List V} {us:List Value} {e:Nat} {D:Addr} (I:Inv X pins σ H s) (kk:∀ b o,s.heap.get? b=some o→h'.get? b=some o) (hD:s.heap.objs.size≤D)
  (ho:h'.get? D=some (seqObj "list" (List.toArray us) e)) (r:Vals ys us) (hz:ys.length≤sizeLine):Inv X pins σ (upd H D (.lst ys)) { s with heap:=h' }:=
 I.laid (t':=s.toks) kk hD ⟨hz,us,e,r,ho⟩
theorem iZ (hc:X.calm=true):cT X (.builtin "sorted") (fun vs H Q=>∃ (p:Addr) (ns:List Int),vs=[.ref p]∧SqL X.K H p (ns.map V.int)∧ns.length < 64∧∀ (D:Addr) (ms:List Int),H D=none→ms.Perm ns→ms.Pairwise (·≤·)→Q (.ref D) (upd H D (.lst (ms.map V.int)))):=by
 intro pins s σ H vs us Q I r h
 obtain ⟨p,ns,rfl,hp,h64,q⟩:=h
 obtain ⟨u,rfl,r1⟩:=fm r
 cases r1
 obtain ⟨ws,rv,pl,hz⟩:=I.list hp
 have hl:=rv.length
 rw [List.length_map] at hl
 have isI:∀ v∈ws,∃ n t,v=.int n t:=fun v hv=>by
  obtain ⟨i,hi⟩:=List.mem_iff_getElem?.mp hv
  obtain ⟨t,e⟩:=dj rv hi
  exact ⟨_,t,e⟩
 refine iu (O:=intO) (key:=fun i=>ns.getD i 0) (kd:=oneType') pl.isList (by lia) (fun h2 A' E' h' kk Q' q'=>?_) (fun i j hi hj h' kk C q'=>?_) fun pp h' e hpp hs he kk=>?_
 ·refine kas_kind h2 (T:=.type "int") (fun v hv=>?_) (by decide) (by decide) q'
  obtain ⟨n,t,rfl⟩:=isI v hv
  exact fun A Q E s _ q=>wpAny_typeOf (typeIs_int s n t) q
 ·unfold kas_ask
  have e1:ws[i]?=some (ws.getD i .none):=by rw [br _ _ _ hi];exact List.getElem?_eq_getElem hi
  have e2:ws[j]?=some (ws.getD j .none):=by rw [br _ _ _ hj];exact List.getElem?_eq_getElem hj
  obtain ⟨t,e1'⟩:=dj rv e1
  obtain ⟨t',e2'⟩:=dj rv e2
  rw [e1',e2']
  exact kat_lt_int q'
 ·rw [←hl] at hpp hs
  have hpx:POk (ns.map V.int).length pp:=by rw [List.length_map];exact hpp
  have eo:p4 pp (ns.map V.int)=(pp.toList.map fun i=>ns.getD i 0).map V.int:=by
   unfold p4
   rw [List.map_map]
   refine List.map_congr_left fun i hi=>?_
   have hi:=List.mem_range.mp (hpp.perm.mem_iff.mp hi)
   show (ns.map V.int).getD i .non=V.int (ns.getD i 0)
   rw [br _ _ _ (by rw [List.length_map];exact hi),br _ _ _ hi]
   simp
  have hn:H (s.heap.objs.size + 1)=none:=I.hok.fresh (Nat.le_succ _)
  refine ⟨.ref (s.heap.objs.size + 1),_,gT I kk (Nat.le_succ _) he (je rv hpx) ?_,rfl,?_⟩
  ·show (p4 pp (ns.map V.int)).length≤sizeLine
   rw [eo,List.length_map,List.length_map,hpp.perm.length_eq,List.length_range,sizeLine_eq]
   lia
  ·rw [eo]
   refine q _ _ hn (jd 0 hpp) ?_
   have:=fW (O:=intO) 0 (fun i:Int=>i) hpp hs
   refine this.imp fun {a b} hab=>?_
   have hab:decide (b < a)=false:=hab
   have:=of_decide_eq_false hab
   lia
theorem nr {ls:List (List Nat)} {us:List Value} (r:Vals (ls.map fun l=>V.str (S l)) us) {i:Nat} {v:Value} (h:us[i]?=some v):∃ t,v=.str (S (ls.getD i [])) t:=by
 have hl:=r.length
 rw [List.length_map] at hl
 obtain ⟨hi,_⟩:=List.getElem?_eq_some_iff.mp h
 have e1:(ls.map fun l=>V.str (S l))[i]?=some (.str (S (ls.getD i []))):=by
  rw [List.getElem?_map,List.getElem?_eq_getElem (by lia),br _ _ _ (by lia)]
  rfl
 obtain ⟨u,hu,t,rfl⟩:=r.get e1
 rw [h] at hu
 exact ⟨t,Option.some.inj hu⟩
theorem i0 (hc:X.calm=true):cT X (.builtin "sorted") (fun vs H Q=>∃ (p:Addr) (ls:List (List Nat)),vs=[.ref p]∧SqL X.K H p (ls.map fun l=>V.str (S l))∧ls.length < 64∧∀ (D:Addr) (ms:List (List Nat)),H D=none→ms.Perm ls→ms.Pairwise (fun a b=>¬ b < a)→Q (.ref D) (upd H D (.lst (ms.map fun l=>V.str (S l))))):=by
 intro pins s σ H vs us Q I r h
 obtain ⟨p,ls,rfl,hp,h64,q⟩:=h
 obtain ⟨u,rfl,r1⟩:=fm r
 cases r1
 obtain ⟨ws,rv,pl,hz⟩:=I.list hp
 have hl:=rv.length
 rw [List.length_map] at hl
 refine iu (O:=CB) (key:=fun i=>ls.getD i []) (kd:=oneType') pl.isList (by lia) (fun h2 A' E' h' kk Q' q'=>?_) (fun i j hi hj h' kk C q'=>?_) fun pp h' e hpp hs he kk=>?_
 ·refine kas_kind h2 (T:=.type "str") (fun v hv=>?_) (by decide) (by decide) q'
  obtain ⟨i,hi⟩:=List.mem_iff_getElem?.mp hv
  obtain ⟨t,rfl⟩:=nr rv hi
  exact fun A Q E s _ q=>wpAny_typeOf (typeIs_str s _ t) q
 ·unfold kas_ask
  have e1:ws[i]?=some (ws.getD i .none):=by rw [br _ _ _ hi];exact List.getElem?_eq_getElem hi
  have e2:ws[j]?=some (ws.getD j .none):=by rw [br _ _ _ hj];exact List.getElem?_eq_getElem hj
  obtain ⟨t,e1'⟩:=nr rv e1
  obtain ⟨t',e2'⟩:=nr rv e2
  rw [e1',e2']
  refine kas_lt_str ?_
  rw [di,di]
  exact q'
 ·rw [←hl] at hpp hs
  have hpx:POk (ls.map fun l=>V.str (S l)).length pp:=by rw [List.length_map];exact hpp
  have eo:p4 pp (ls.map fun l=>V.str (S l))=(pp.toList.map fun i=>ls.getD i []).map fun l=>V.str (S l):=by
   unfold p4
   rw [List.map_map]
   refine List.map_congr_left fun i hi=>?_
   have hi:=List.mem_range.mp (hpp.perm.mem_iff.mp hi)
   show (ls.map fun l=>V.str (S l)).getD i .non=V.str (S (ls.getD i []))
   rw [br _ _ _ (by rw [List.length_map];exact hi),br _ _ _ hi]
   simp
  have hn:H (s.heap.objs.size + 1)=none:=I.hok.fresh (Nat.le_succ _)
  refine ⟨.ref (s.heap.objs.size + 1),_,gT I kk (Nat.le_succ _) he (je rv hpx) ?_,rfl,?_⟩
  ·show (p4 pp (ls.map fun l=>V.str (S l))).length≤sizeLine
   rw [eo,List.length_map,List.length_map,hpp.perm.length_eq,List.length_range,sizeLine_eq]
   lia
  ·rw [eo]
   refine q _ _ hn (jd [] hpp) ?_
   have:=fW (O:=CB) [] (fun l:List Nat=>l) hpp hs
   refine this.imp fun {a b} hab=>?_
   have hab:decide (b < a)=false:=hab
   exact of_decide_eq_false hab
end
noncomputable def kinds (k:List Key):List Bool:=k.map fun x=>x.isLeft
section
variable {prog:Program} {w:World} {A:Around} {s:Shared}
theorem rB (a b:Key):eqV (kV a) (kV b)=decide (a=b):=by
 cases a <;> cases b <;> (rw [Bool.eq_iff_iff];simp [kV,eqV])
theorem jg (a:Key):ue (kV a)=true:=by cases a <;> rfl
theorem zy {a b:Key} {u v:Value} {top:Bool} {Q:Bool→Shared→Prop} (ra:L2.RelV (kV a) u) (rb:L2.RelV (kV b) v) (hk:a.isLeft=b.isLeft) (q:Q (m6.blt a b) s):wpAny (model prog w) A (oneLt' top u v) Q (fun _ _=>False) s:=by
 cases a with
 | inl i=>
  cases b with
  | inr _=>cases hk
  | inl j=>
   obtain ⟨t,rfl⟩:=ra
   obtain ⟨t',rfl⟩:=rb
   cases top with
   | true=>exact kat_lt_int (E:=fun _ _=>False) q
   | false=>exact kat_one _ _ (lt_int q)
 | inr x=>
  cases b with
  | inl _=>cases hk
  | inr y=>
   obtain ⟨t,rfl⟩:=ra
   obtain ⟨t',rfl⟩:=rb
   cases top with
   | true=>exact oneLt_str q
   | false=>exact kat_one _ _ (lt_str q)
theorem jy {Q:Bool→Shared→Prop}:∀ (k1 k2:List Key) (us ws:List Value) (i:Nat),Vals (k1.map kV) us→Vals (k2.map kV) ws→kinds k1=kinds k2→Q (dk k1 k2) s→KatLex prog w A true false Q (us.zip ws) i s
 | [],[],_,_,_,.nil,.nil,_,q=>q
 | [],_ :: _,_,_,_,_,_,h,_=>by cases h
 | _ :: _,[],_,_,_,_,_,h,_=>by cases h
 | a :: r,b :: t,u :: us,v :: ws,i,.cons ru rus,.cons rv rvs,h,q=>by
  have h1:a.isLeft=b.isLeft:=(List.cons.inj h).1
  have h2:kinds r=kinds t:=(List.cons.inj h).2
  have q:Q (if a=b then dk r t else m6.blt a b) s:=q
  refine kat_cons (vB (A:=A) (s:=s) ru rv (jg a) (jg b) prog w _ _ ?_)
  rw [rB]
  by_cases e:a=b
  ·rw [if_pos e] at q
   rw [decide_eq_true e]
   exact kat_yes (jy r t us ws (i + 1) rus rvs h2 q)
  ·rw [if_neg e] at q
   rw [decide_eq_false e]
   exact kat_no (zy ru rv h1 q)
end
section
variable {X:Cx} {pins:List (Addr×Obj)} {σ:L2.St} {H:Hp} {s:Shared}
theorem mf (I:Inv X pins σ H s) {a:Addr} {xs:List V} (h:SqT X.K H a xs):∃ (us:List Value) (o:Obj) (n:Nat),Vals xs us∧s.heap.get? a=some o∧o.cls=.type "tuple"∧o.data=.seq us.toArray n:=by
 obtain ⟨us,r,pl,_⟩:=I.tuple h
 obtain ⟨o,ho,oc,n,od⟩:=pl
 exact ⟨us,o,n,r,ho,oc,od⟩
theorem kX {al:List (Addr×List Key)} {us:List Value} (r:Vals (al.map fun a=>V.ref a.1) us) {i:Nat} (h:i < al.length):us.getD i .none=.ref (al.getD i (0,[])).1:=by
 have e1:(al.map fun a=>V.ref a.1)[i]?=some (.ref (al.getD i (0,[])).1):=by
  rw [List.getElem?_map,List.getElem?_eq_getElem h,br _ _ _ h]
  rfl
 obtain ⟨u,hu,ru⟩:=r.get e1
 rw [List.getD_eq_getElem?_getD,hu]
 exact ru
theorem oS {al:List (Addr×List Key)} {us:List Value} {h':Heap} (I:Inv X pins σ H s) (kk:∀ b o,s.heap.get? b=some o→h'.get? b=some o) (top:Bool) :
  (r:Vals (al.map fun a=>V.ref a.1) us)→(∀ a∈al,SqT X.K H a.1 (a.2.map kV)∧∃ t,kinds a.2=top :: t)→∃ fs:List Value,KatTups h' us fs∧fs.length=al.length∧∀ v∈fs,∀ M:Model,Looks M h' (typeOf v) (.type (if top then "int" else "str")):=by
 induction al generalizing us with
 | nil=>
  intro r _
  cases r
  exact ⟨[],trivial,rfl,fun v hv=>by cases hv⟩
 | cons a al ih=>
  intro r h
  cases r with
  | cons ra rs=>
   cases ra
   obtain ⟨fs,t1,t2,t3⟩:=ih rs fun b hb=>h b (List.mem_cons_of_mem _ hb)
   obtain ⟨ha,kt,hk⟩:=h a List.mem_cons_self
   obtain ⟨ws,o,n,rv,ho,oc,od⟩:=mf I ha
   cases e2:a.2 with
   | nil=>rw [e2] at hk;cases hk
   | cons k ks=>
    rw [e2] at rv hk
    have hkt:k.isLeft=top:=(List.cons.inj hk).1
    cases rv with
    | @cons _ f _ fr rf rfs=>
     refine ⟨f :: fs,KatTups.cons (kk _ _ ho) oc od (by simp) t1,by simp [t2],fun v hv M=>?_⟩
     rcases List.mem_cons.mp hv with rfl | hv
     ·cases k with
      | inl i=>
       obtain ⟨t,rfl⟩:=rf
       have:top=true:=hkt.symm
       subst this
       exact fun A Q E s _ q=>wpAny_typeOf (typeIs_int s _ t) q
      | inr x=>
       obtain ⟨t,rfl⟩:=rf
       have:top=false:=hkt.symm
       subst this
       exact fun A Q E s _ q=>wpAny_typeOf (typeIs_str s _ t) q
     ·exact t3 v hv M
end
section
variable {X:Cx}
theorem i4 (hc:X.calm=true):cT X (.builtin "sorted") (fun vs H Q=>∃ (p:Addr) (al:List (Addr×List Key)) (top:Bool) (t:List Bool),vs=[.ref p]∧SqL X.K H p (al.map fun a=>V.ref a.1)∧(∀ a∈al,SqT X.K H a.1 (a.2.map kV)∧kinds a.2=top :: t)∧al.length < 64∧
  ∀ (D:Addr) (ms:List (Addr×List Key)),H D=none→ms.Perm al→ms.Pairwise (fun a b=>dk b.2 a.2=false)→Q (.ref D) (upd H D (.lst (ms.map fun a=>V.ref a.1)))):=by
 intro pins s σ H vs us Q I r h
 obtain ⟨p,al,top,kt,rfl,hp,hal,h64,q⟩:=h
 obtain ⟨u,rfl,r1⟩:=fm r
 cases r1
 obtain ⟨ws,rv,pl,hz⟩:=I.list hp
 have hl:=rv.length
 rw [List.length_map] at hl
 refine iu (O:=Bg) (key:=fun i=>(al.getD i (0,[])).2) (kd:=tuples' true) pl.isList (by lia) (fun h2 A' E' h' kk Q' q'=>?_) (fun i j hi hj h' kk C q'=>?_) fun pp h' e hpp hs he kk=>?_
 ·obtain ⟨fs,t1,t2,t3⟩:=oS I kk top rv fun a ha=>⟨(hal a ha).1,kt,(hal a ha).2⟩
  refine kat_kind (T:=.type (if top then "int" else "str")) t1 (by lia) (fun v hv=>t3 v hv _) (by simp) ?_
  have:((Value.type (if top then "int" else "str")) != Value.type "tuple")=true:=by cases top <;> decide
  rw [this]
  exact q'
 ·unfold kas_ask
  have hi':i < al.length:=by lia
  have hj':j < al.length:=by lia
  rw [kX rv hi',kX rv hj']
  have mi:al.getD i (0,[])∈al:=by rw [br _ _ _ hi'];exact List.getElem_mem _
  have mj:al.getD j (0,[])∈al:=by rw [br _ _ _ hj'];exact List.getElem_mem _
  obtain ⟨u1,o1,n1,r1,g1,_,d1⟩:=mf I (hal _ mi).1
  obtain ⟨u2,o2,n2,r2,g2,_,d2⟩:=mf I (hal _ mj).1
  have ek:kinds (al.getD i (0,[])).2=kinds (al.getD j (0,[])).2:=by rw [(hal _ mi).2,(hal _ mj).2]
  have el:u1.length=u2.length:=by
   have a1:=r1.length
   have a2:=r2.length
   have a3:=congrArg List.length ek
   simp only [kinds,List.length_map] at a1 a2 a3
   lia
  refine kat_lt (kk _ _ g1) d1 (kk _ _ g2) d2 ?_
  have ef:decide (u1.toArray.size < u2.toArray.size)=false:=by simp [el]
  rw [ef]
  exact jy _ _ _ _ 0 r1 r2 ek q'
 ·rw [←hl] at hpp hs
  have hpx:POk (al.map fun a=>V.ref a.1).length pp:=by rw [List.length_map];exact hpp
  have eo:p4 pp (al.map fun a=>V.ref a.1)=(pp.toList.map fun i=>al.getD i (0,[])).map fun a=>V.ref a.1:=by
   unfold p4
   rw [List.map_map]
   refine List.map_congr_left fun i hi=>?_
   have hi:=List.mem_range.mp (hpp.perm.mem_iff.mp hi)
   show (al.map fun a=>V.ref a.1).getD i .non=V.ref (al.getD i (0,[])).1
   rw [br _ _ _ (by rw [List.length_map];exact hi),br _ _ _ hi]
   simp
  have hn:H (s.heap.objs.size + 1)=none:=I.hok.fresh (Nat.le_succ _)
  refine ⟨.ref (s.heap.objs.size + 1),_,gT I kk (Nat.le_succ _) he (je rv hpx) ?_,rfl,?_⟩
  ·show (p4 pp (al.map fun a=>V.ref a.1)).length≤sizeLine
   rw [eo,List.length_map,List.length_map,hpp.perm.length_eq,List.length_range,sizeLine_eq]
   lia
  ·rw [eo]
   refine q _ _ hn (jd (0,[]) hpp) ?_
   exact fW (O:=Bg) (0,[]) (fun a:Addr×List Key=>a.2) hpp hs
end
end NX
namespace L2
open PySem PySem.Spec PyProof.Rows
section
variable {κ:Type} [DecidableEq κ]
noncomputable def mh (kvs:List (κ×V)) (k:κ):Option V:=(kvs.find? fun kv=>decide (kv.1=k)).map (·.2)
noncomputable def i5 (kvs:List (κ×V)) (k:κ) (v:V):List (κ×V):=
 if (kvs.any fun kv=>decide (kv.1=k))=true then kvs.map (fun kv=>if kv.1=k then (kv.1,v) else kv) else kvs++[(k,v)]
theorem kY {p:κ×V} {r:List (κ×V)} {k:κ} (e:p.1=k):mh (p :: r) k=some p.2:=by simp [mh,List.find?_cons,e]
theorem kZ {p:κ×V} {r:List (κ×V)} {k:κ} (e:¬ p.1=k):mh (p :: r) k=mh r k:=by simp [mh,List.find?_cons,e]
theorem oT (k:κ):∀ kvs:List (κ×V),(kvs.any fun kv=>decide (kv.1=k))=(mh kvs k).isSome
 | []=>rfl
 | p :: r=>by
  rw [List.any_cons]
  by_cases e:p.1=k
  ·simp only [kY e,decide_eq_true e,Bool.true_or,Option.isSome_some]
  ·rw [kZ e,decide_eq_false e,Bool.false_or];exact oT k r
theorem gD (kvs:List (κ×V)) (k:κ) (v:V):(i5 kvs k v).length≤kvs.length + 1:=by
 unfold i5
 split
 ·rw [List.length_map];lia
 ·rw [List.length_append,List.length_cons,List.length_nil];lia
theorem RelO.isSome_eq {o:Option V} {u:Option Value} (r:RelO o u):o.isSome=u.isSome:=by
 cases o with
 | none=>cases u with
  | none=>rfl
  | some _=>exact (show False from r).elim
 | some _=>cases u with
  | none=>exact (show False from r).elim
  | some _=>rfl
theorem KV.val {kvs:List (κ×V)} {vs:List (κ×Value)} (r:KV kvs vs) (k:κ):RelO (mh kvs k) (valueAt vs k):=by
 unfold KV at r
 induction r with
 | nil=>exact True.intro
 | @cons p q ps qs h t ih=>
  obtain ⟨h1,h2⟩:=h
  by_cases e:p.1=k
  ·have e':q.1=k:=h1.symm.trans e
   have b:valueAt (q :: qs) k=some q.2:=by simp [valueAt,List.find?_cons,e']
   rw [kY e,b];exact h2
  ·have e':¬ q.1=k:=fun z=>e (h1.trans z)
   have b:valueAt (q :: qs) k=valueAt qs k:=by simp [valueAt,List.find?_cons,e']
   rw [kZ e,b];exact ih
theorem KV.any {kvs:List (κ×V)} {vs:List (κ×Value)} (r:KV kvs vs) (k:κ):(kvs.any fun kv=>decide (kv.1=k))=vs.any fun kv=>decide (kv.1=k):=by
 unfold KV at r
 induction r with
 | nil=>rfl
 | cons h t ih=>rw [List.any_cons,List.any_cons,ih,h.1]
theorem KV.repl {kvs:List (κ×V)} {vs:List (κ×Value)} (r:KV kvs vs) (k:κ) {y:V} {u:Value} (ry:RelV y u) :
  KV (kvs.map fun kv=>if kv.1=k then (kv.1,y) else kv) (vs.map fun kv=>if kv.1=k then (kv.1,u) else kv):=by
 unfold KV at r ⊢
 induction r with
 | nil=>exact .nil
 | @cons p q ps qs h t ih=>
  rw [List.map_cons,List.map_cons]
  refine .cons ?_ ih
  obtain ⟨h1,h2⟩:=h
  by_cases e:p.1=k
  ·rw [if_pos e,if_pos (h1.symm.trans e)];exact ⟨h1,ry⟩
  ·rw [if_neg e,if_neg (fun z=>e (h1.trans z))];exact ⟨h1,h2⟩
theorem KV.put {kvs:List (κ×V)} {vs:List (κ×Value)} (r:KV kvs vs) (k:κ) {y:V} {u:Value} (ry:RelV y u):KV (i5 kvs k y) (stored vs k u):=by
 unfold i5 stored
 rw [r.any k]
 by_cases e:(vs.any fun kv=>decide (kv.1=k))=true
 ·rw [if_pos e,if_pos e];exact r.repl k ry
 ·rw [if_neg e,if_neg e];exact Paired.snoc r ⟨rfl,ry⟩
theorem KV.length {kvs:List (κ×V)} {vs:List (κ×Value)} (r:KV kvs vs):kvs.length=vs.length:=Paired.length r
end
theorem kV_is {P:Program} {w:World} {k:Key} {u:Value} (r:RelV (kV k) u):(mixKind P w).is k u=true:=by
 cases k with
 | inl i=>obtain ⟨t,e⟩:=(show ∃ t,u=Value.int i t from r);subst e;exact m9 P w i t
 | inr x=>obtain ⟨t,e⟩:=(show ∃ t,u=Value.str x t from r);subst e;exact ng P w x t
theorem ml {P:Program} {w:World}:∀ {ks:List Key} {us:List Value},Vals (ks.map kV) us→ItemsAre (mixKind P w) ks us
 | [],_,r=>by rw [List.map_nil] at r;cases r;exact .nil
 | k :: ks,_,r=>by
  rw [List.map_cons] at r
  cases r with
  | cons h t=>exact .cons (kV_is h) (ml t)
abbrev KT (H:Hp):List (List Key×V)→List (List Key×Addr×Value)→Prop:=Paired fun p q=>p.1=q.1∧H q.2.1=some (.tup (p.1.map kV))∧RelV p.2 q.2.2
theorem KT.val {H:Hp} {kvs:List (List Key×V)} {xs:List (List Key×Addr×Value)} (r:KT H kvs xs) (k:List Key):RelO (mh kvs k) ((atKey xs k).map (·.2)):=by
 induction r with
 | nil=>exact True.intro
 | @cons p q ps qs h t ih=>
  obtain ⟨h1,_,h2⟩:=h
  by_cases e:p.1=k
  ·have e':q.1=k:=h1.symm.trans e
   have b:atKey (q :: qs) k=some q.2:=by simp [atKey,List.find?_cons,e']
   rw [kY e,b];exact h2
  ·have e':¬ q.1=k:=fun z=>e (h1.trans z)
   have b:atKey (q :: qs) k=atKey qs k:=by simp [atKey,List.find?_cons,e']
   rw [kZ e,b];exact ih
theorem KT.repl {H:Hp} {kvs:List (List Key×V)} {xs:List (List Key×Addr×Value)} (r:KT H kvs xs) (k:List Key) {y:V} {u:Value} (ry:RelV y u) :
  KT H (kvs.map fun kv=>if kv.1=k then (kv.1,y) else kv) (xs.map (putAt k u)):=by
 induction r with
 | nil=>exact .nil
 | @cons p q ps qs h t ih=>
  rw [List.map_cons,List.map_cons]
  refine .cons ?_ ih
  obtain ⟨h1,h2,h3⟩:=h
  unfold putAt
  by_cases e:p.1=k
  ·rw [if_pos e,if_pos (h1.symm.trans e)];exact ⟨h1,h2,ry⟩
  ·rw [if_neg e,if_neg (fun z=>e (h1.trans z))];exact ⟨h1,h2,h3⟩
theorem KT.put {H:Hp} {kvs:List (List Key×V)} {xs:List (List Key×Addr×Value)} (r:KT H kvs xs) (k:List Key) {b:Addr} {y:V} {u:Value} (hb:H b=some (.tup (k.map kV))) (ry:RelV y u) :
  KT H (i5 kvs k y) (storedH xs k b u):=by
 have e:(kvs.any fun kv=>decide (kv.1=k))=(atKey xs k).isSome:=by
  rw [oT,(r.val k).isSome_eq,Option.isSome_map]
 unfold i5 storedH
 rw [e]
 by_cases q:(atKey xs k).isSome=true
 ·rw [if_pos q,if_pos q];exact r.repl k ry
 ·rw [if_neg q,if_neg q];exact Paired.snoc r ⟨rfl,hb,ry⟩
theorem KT.keeps {H H':Hp} {kvs:List (List Key×V)} {xs:List (List Key×Addr×Value)} (r:KT H kvs xs) (ht:∀ b ys,H b=some (.tup ys)→H' b=some (.tup ys)):KT H' kvs xs:=
 Paired.mapP r fun _ _ z=>⟨z.1,ht _ _ z.2.1,z.2.2⟩
section
variable {P:Program} {w:World} {H:Hp} {h:Heap} {a:Addr}
theorem zH {u:HO} (ok:HOk P w H h) (e:Rd H a u):ObjOk P w H h a u:=e.ok ok
theorem rD {kvs:List (Key×V)} (ok:HOk P w H h) (e:Rd H a (.dK kvs)):kvs.length≤sizeLine∧(a == sysModules)=false∧∃ vs,KV kvs vs∧h.DictOf (mixKind P w) a vs:=
 show ObjOk P w H h a (.dK kvs) from zH ok e
theorem zI {kvs:List (Key×V)} (ok:HOk P w H h) (e:H a=some (.dK kvs)):kvs.length≤sizeLine∧(a == sysModules)=false∧∃ vs,KV kvs vs∧h.DictOf (mixKind P w) a vs:=rD ok (.inl e)
theorem mn {ks:List Key} (ok:HOk P w H h) (e:H a=some (.tup (ks.map kV))):(tupleKind (mixKind P w)).is h ks a:=by
 obtain ⟨_,its,r,o,h1,h2,⟨n,h3⟩,_⟩:=(show ObjOk P w H h a (.tup (ks.map kV)) from ok a _ e)
 exact ⟨o,its.toArray,n,h1,h2,h3,by simpa using ml r⟩
theorem rF {kvs:List (List Key×V)} (ok:HOk P w H h) (e:Rd H a (.dT kvs)):kvs.length≤sizeLine∧(a == sysModules)=false∧
  ∃ xs,KT H kvs xs∧h.DictOfH (tupleKind (mixKind P w)) a xs:=by
 obtain ⟨z,y,xs,r,o,es,ep,h1,h2,h3,h4,h5⟩:=(show ObjOk P w H h a (.dT kvs) from zH ok e)
 refine ⟨z,y,xs,r,o,es,ep,h1,h2,h3,h4,fun x hx=>?_,h5⟩
 have all:∀ {l:List (List Key×V)} {m:List (List Key×Addr×Value)},KT H l m→∀ x∈m,(tupleKind (mixKind P w)).is h x.1 x.2.1:=by
  intro l m q
  induction q with
  | nil=>intro x hx;exact nomatch hx
  | @cons p q ps qs hq t ih=>
   intro x hx
   rcases List.mem_cons.mp hx with e | hx
   ·subst e
    exact mn ok (by rw [←hq.1];exact hq.2.1)
   ·exact ih x hx
 exact all r x hx
theorem BI {kvs:List (List Key×V)} (ok:HOk P w H h) (e:H a=some (.dT kvs)):kvs.length≤sizeLine∧(a == sysModules)=false∧
  ∃ xs,KT H kvs xs∧h.DictOfH (tupleKind (mixKind P w)) a xs:=rF ok (.inl e)
end
def DGet (H:Hp) (a:Addr) (y:V) (r:Option V):Prop:=
 (∃ kvs k,Rd H a (.dK kvs)∧y=kV k∧r=mh kvs k)∨∃ kvs k b,Rd H a (.dT kvs)∧y=.ref b∧H b=some (.tup (k.map kV))∧r=mh kvs k
def DPut (H:Hp) (a:Addr) (y v:V) (H':Hp):Prop:=
 (∃ kvs k,H a=some (.dK kvs)∧y=kV k∧kvs.length < sizeLine∧H'=upd H a (.dK (i5 kvs k v)))∨
 ∃ kvs k b,H a=some (.dT kvs)∧y=.ref b∧H b=some (.tup (k.map kV))∧kvs.length < sizeLine∧H'=upd H a (.dT (i5 kvs k v))
theorem DGet.k {H:Hp} {a:Addr} {kvs:List (Key×V)} {k:Key} (e:H a=some (.dK kvs)):DGet H a (kV k) (mh kvs k):=.inl ⟨kvs,k,.inl e,rfl,rfl⟩
theorem DGet.t {H:Hp} {a b:Addr} {kvs:List (List Key×V)} {k:List Key} (e:H a=some (.dT kvs)) (eb:H b=some (.tup (k.map kV))):DGet H a (.ref b) (mh kvs k):=.inr ⟨kvs,k,b,.inl e,rfl,eb,rfl⟩
theorem DPut.k {H:Hp} {a:Addr} {kvs:List (Key×V)} {k:Key} {v:V} (e:H a=some (.dK kvs)) (hl:kvs.length < sizeLine):DPut H a (kV k) v (upd H a (.dK (i5 kvs k v))):=.inl ⟨kvs,k,e,rfl,hl,rfl⟩
theorem DPut.t {H:Hp} {a b:Addr} {kvs:List (List Key×V)} {k:List Key} {v:V} (e:H a=some (.dT kvs)) (eb:H b=some (.tup (k.map kV))) (hl:kvs.length < sizeLine) :
  DPut H a (.ref b) v (upd H a (.dT (i5 kvs k v))):=.inr ⟨kvs,k,b,e,rfl,eb,hl,rfl⟩
section
variable {X:Cx} {pins:List (Addr×Obj)} {σ:St} {H:Hp} {s:Shared} {a:Addr} {y v:V} {u r:Value} {o:Option V} {A:Around} {E:Value→Shared→Prop}
theorem Inv.big (I:Inv X pins σ H s):sysModules < s.heap.objs.size:=by
 have h:mainGlobals < s.heap.objs.size:=(I.mod.glob.keeps I.bk).lt
 exact Nat.lt_trans (by decide) h
theorem rH {Q:Value→Shared→Prop} (hu:A.units + 1 < cLine) (I:Inv X pins σ H s) (g:DGet H a y (some v)) (ry:RelV y u) (h:∀ w' s',Inv X pins σ H s'→RelV v w'→Q w' s') :
  wpAny (model X.prog X.w) A (getItem (.ref a) u) Q E s:=by
 rcases g with ⟨kvs,k,e,ey,l⟩ | ⟨kvs,k,b,e,ey,eb,l⟩
 ·subst ey
  obtain ⟨z,hd,vs,rel,dd⟩:=rD I.hok e
  obtain ⟨w',hw,rw'⟩:=RelO.some_of (v:=v) (o:=valueAt vs k) (by rw [l];exact rel.val k)
  exact wpAny_getItem_of (kV_is ry) dd.mapOf hw (h w' _ (I.tok _) rw')
 ·subst ey
  cases (show u=Value.ref b from ry)
  obtain ⟨z,hd,xs,rel,dd⟩:=rF I.hok e
  obtain ⟨w',hw,rw'⟩:=RelO.some_of (v:=v) (o:=(atKey xs k).map (·.2)) (by rw [l];exact rel.val k)
  obtain ⟨p,hp,hp2⟩:=Option.map_eq_some_iff.mp hw
  refine wpAny_getItem_heap (tupleKind_room_in1 hu) (mn I.hok eb) dd hp ?_
  rw [hp2]
  exact h w' _ (I.tok _) rw'
theorem Dl {Q:Value→Shared→Prop} (hu:A.units + 1 < cLine) (I:Inv X pins σ H s) (g:DGet H a y o) (ry:RelV y u) (h:∀ s',Inv X pins σ H s'→Q (.bool o.isSome) s') :
  wpAny (model X.prog X.w) A (compareOp .In u (.ref a)) Q E s:=by
 rcases g with ⟨kvs,k,e,ey,l⟩ | ⟨kvs,k,b,e,ey,eb,l⟩
 ·subst ey
  obtain ⟨z,hd,vs,rel,dd⟩:=rD I.hok e
  refine wpAny_in_of (kV_is ry) hd dd.mapOf ?_
  rw [←(rel.val k).isSome_eq,←l]
  exact h _ (I.tok _)
 ·subst ey
  cases (show u=Value.ref b from ry)
  obtain ⟨z,hd,xs,rel,dd⟩:=rF I.hok e
  refine wpAny_in_heap (tupleKind_room_in1 hu) (mn I.hok eb) hd dd ?_
  have q:=(rel.val k).isSome_eq
  rw [Option.isSome_map] at q
  rw [←q,←l]
  exact h _ (I.tok _)
theorem xc {Q:Value→Shared→Prop} (hu:A.units + 1 < cLine) (I:Inv X pins σ H s) (g:DGet H a y o) (ry:RelV y u) (h:∀ s',Inv X pins σ H s'→Q (.bool (!o.isSome)) s') :
  wpAny (model X.prog X.w) A (compareOp .NotIn u (.ref a)) Q E s:=by
 rcases g with ⟨kvs,k,e,ey,l⟩ | ⟨kvs,k,b,e,ey,eb,l⟩
 ·subst ey
  obtain ⟨z,hd,vs,rel,dd⟩:=rD I.hok e
  refine wpAny_notIn_of (kV_is ry) hd dd.mapOf ?_
  rw [←(rel.val k).isSome_eq,←l]
  exact h _ (I.tok _)
 ·subst ey
  cases (show u=Value.ref b from ry)
  obtain ⟨z,hd,xs,rel,dd⟩:=rF I.hok e
  refine wpAny_notIn_heap (tupleKind_room_in1 hu) (mn I.hok eb) hd dd ?_
  have q:=(rel.val k).isSome_eq
  rw [Option.isSome_map] at q
  rw [←q,←l]
  exact h _ (I.tok _)
theorem nt {h':Heap} {t':Nat} {ob:HO} (I:Inv X pins σ H s) (mu:Mut (H a)) (hs:Heap.SameBut a s.heap h') (he:∃ q,h'.get? a=some q) (new:ObjOk X.prog X.w (upd H a ob) h' a ob) :
  Inv X pins σ (upd H a ob) { s with heap:=h',toks:=t' }:=
 I.write (x:=a) (e:=a) mu (.inl rfl) (fun b q hb z=>(hs.2 b hb).trans z) he new
theorem vJ {P:Program} {w:World} {H':Hp} {h':Heap} {kvs:List (Key×V)} {vs:List (Key×Value)} (z:kvs.length≤sizeLine) (hd:(a == sysModules)=false) (rel:KV kvs vs) (dd:h'.DictOf (mixKind P w) a vs) :
  ObjOk P w H' h' a (.dK kvs):=⟨z,hd,vs,rel,dd⟩
theorem rJ {H':Hp} {Q:Unit→Shared→Prop} (hu:A.units + 1 < cLine) (I:Inv X pins σ H s) (g:DPut H a y v H') (ry:RelV y u) (rv:RelV v r) (h:∀ s',Inv X pins σ H' s'→Q () s') :
  wpAny (model X.prog X.w) A (setItem (.ref a) u r) Q E s:=by
 rcases g with ⟨kvs,k,e,ey,l,eH⟩ | ⟨kvs,k,b,e,ey,eb,l,eH⟩
 ·subst ey eH
  obtain ⟨z,hd,vs,rel,dd⟩:=zI I.hok e
  have hz:vs.length≤sizeLine:=by rw [←rel.length];exact z
  have hl:(i5 kvs k v).length≤sizeLine:=by have:=gD kvs k v;lia
  refine wpAny_setItem_pairs (hsz:=hz) (kV_is ry) dd fun h' dd' hs=>h _ ?_
  have he:∃ q,h'.get? a=some q:=let ⟨q,_,_,hq,_⟩:=dd';⟨q,hq⟩
  exact nt I (by rw [e];exact True.intro) hs he (vJ hl hd (rel.put k rv) dd')
 ·subst ey eH
  cases (show u=Value.ref b from ry)
  obtain ⟨z,hd,xs,rel,dd⟩:=BI I.hok e
  have hz:xs.length≤sizeLine:=by rw [←Paired.length rel];exact z
  have hl:(i5 kvs k v).length≤sizeLine:=by have:=gD kvs k v;lia
  refine wpAny_setItem_heap (hsz:=hz) (tupleKind_room_in1 hu) (mn I.hok eb) dd fun h' dd' hs=>h _ ?_
  obtain ⟨q,es,ep,hq,h2,h3,h4,_,h5⟩:=dd'
  refine nt I (by rw [e];exact True.intro) hs ⟨q,hq⟩ ⟨hl,hd,_,(rel.put k eb rv).keeps fun c ys ec=>?_,q,es,ep,hq,h2,h3,h4,h5⟩
  rw [aG (Bi ec e (fun z=>nomatch z))]
  exact ec
end
section
variable {X:Cx} {pins:List (Addr×Obj)} {σ:St} {H:Hp} {s:Shared} {a:Addr} {kvs:List (Key×V)} {k:Key} {u:Value} {A:Around} {E:Value→Shared→Prop}
end
def NoSl (i:Expr):Prop:=∀ ov iv,subscripted i false ov iv=operate [ov,iv] (getItem ov iv)
theorem xf {prog:Program} {w:World} {A:Around} {E:Value→Shared→Prop} {s:Shared} {env:Env} {value slice:Expr} {pos:Pos} {T id:String} {Q:Value→Shared→Prop}
  (hl:typeLookup (.type T) "__getitem__" = pure (some (.builtin id))) (hs:NoSl slice)
  (h:wpAny (model prog w) A (eval value env) (fun o s₁=>wpAny (model prog w) A (eval slice env) (fun i s₂=>s₂.TypeIs o T∧wpAny (model prog w) A (getItem o i) Q E s₂) E s₁) E s) :
  wpAny (model prog w) A (eval (.Subscript value slice pos) env) Q E s:=by
 refine Subscript_ (wpAny_mono h (fun o s₁ h₁=>wpAny_mono h₁ (fun i s₂ h₂=>?_) fun _ _ x=>x) fun _ _ x=>x)
 obtain ⟨hT,h₂⟩:=h₂
 unfold subscriptTail
 refine wpAny_bind ?_
 rw [getitemInPython_of_ne hT.not_modules]
 refine wpAny_bind (wpAny_specialOf hT hl ?_)
 have fin:wpAny (model prog w) A (subscripted slice false o i) (fun r s₃=>wpAny (model prog w) A (letTemporaryGo value o r >>= fun _=>pure r) Q E s₃) E s₂:=by
  rw [hs o i]
  exact wpAny_operating (wpAny_mono h₂ (fun r s₃ h₃=>wpAny_bind (wpAny_letTemporaryGo (wpAny_pure h₃))) fun _ _ x=>x)
 first
  | exact wpAny_pure (wpAny_bind fin)
  | exact wpAny_bind (wpAny_pure (wpAny_bind fin))
  | exact wpAny_bind fin
theorem nu {X:Cx} {pins:List (Addr×Obj)} {σ:St} {H:Hp} {s:Shared} {a:Addr} {y:V} {o:Option V} (I:Inv X pins σ H s) (g:DGet H a y o):s.TypeIs (.ref a) "dict":=by
 rcases g with ⟨kvs,k,e,_,_⟩ | ⟨kvs,k,b,e,_,_,_⟩
 ·obtain ⟨_,_,vs,_,dd⟩:=rD I.hok e
  exact dd.typeIs
 ·obtain ⟨_,_,xs,_,dd⟩:=rF I.hok e
  exact dd.typeIs
noncomputable def BJ (td ty:TE):TE:=fun σ H Q=>td σ H fun x H1=>ty σ H1 fun y H2=>∃ a v,x=.ref a∧DGet H2 a y (some v)∧Q v H2
noncomputable def BK (td ty tv:TE):TS:=fun D σ H=>tv σ H fun v H1=>td σ H1 fun x H2=>ty σ H2 fun y H3=>∃ a H4,x=.ref a∧DPut H3 a y v H4∧D.nx σ H4
section
variable {X:Cx} {o i e value:Expr} {pos pos' tpos:Pos} {td ty tv:TE}
theorem xg (hu:X.A.units + 1 < cLine) (ho:PE X o td) (hi:PE X i ty) (hs:NoSl i):PE X (.Subscript o i pos) (BJ td ty):=by
 intro pins s σ H Q I h
 refine xf PySem.F.slot_dict_getitem.lookup hs (thn (ho pins s σ H _ I h) fun u s1 ⟨x,H1,I1,rx,q1⟩=>thn (hi pins s1 σ H1 _ I1 q1) fun iv s2 hqq=>?_)
 obtain ⟨y,H2,I2,ry,a,v,ex,g,q2⟩:=hqq
 subst ex
 obtain rfl:u=Value.ref a:=rx
 exact ⟨nu I2 g,rH hu I2 g ry fun w' s3 I3 rw'=>⟨v,H2,I3,rw',q2⟩⟩
theorem xh (hu:X.A.units + 1 < cLine) (ho:PE X o td) (hi:PE X i ty) (hv:PE X value tv) (hs:swapsWith value (some (.Subscript o i pos')) pos.line X.env=pure false) :
  PS X (.Assign [.Subscript o i pos'] value pos) (BK td ty tv):=by
 intro pins s σ H D I h
 refine wpAny_Assign_Subscript (thn (hv pins s σ H _ I h) fun r s1 ⟨v,H1,I1,rv,q1⟩=>thn (ho pins s1 σ H1 _ I1 q1) fun u s2 ⟨x,H2,I2,rx,q2⟩=>thn (hi pins s2 σ H2 _ I2 q2) fun iv s3 ⟨y,H3,I3,ry,a,H4,ex,g,q3⟩=>?_) hs
 subst ex
 obtain rfl:u=Value.ref a:=rx
 exact rJ hu I3 g ry rv fun s4 I4=>⟨σ,H4,I4,q3⟩
end
theorem dk_empty {P:Program} {w:World} {H:Hp} (h:Heap) (hb:sysModules < h.objs.size):ObjOk P w H (h.push { cls:=.type "dict",data:=.dict #[] }) h.objs.size (.dK []):=
 ⟨Nat.zero_le _,beq_eq_false_iff_ne.mpr (Ne.symm (Nat.ne_of_lt hb)),[],.nil,Heap.DictOf.new h⟩
theorem uw {P:Program} {w:World} {H:Hp} (h:Heap) (hb:sysModules < h.objs.size):ObjOk P w H (h.push { cls:=.type "dict",data:=.dict #[] }) h.objs.size (.dT []):=
 ⟨Nat.zero_le _,beq_eq_false_iff_ne.mpr (Ne.symm (Nat.ne_of_lt hb)),[],.nil,_,#[],0,Heap.get?_push_size _ rfl,⟨rfl,rfl,rfl⟩,rfl,rfl,List.nodup_nil⟩
noncomputable def zJ:TE:=fun _ H Q=>∀ p,H p=none→Q (.ref p) (upd H p (.dT []))
section
variable {X:Cx} {pos:Pos}
theorem ux:PE X (.Dict [] [] pos) zJ:=fun pins s σ H Q I h=>
 wpAny_Dict_empty ⟨.ref s.heap.objs.size,_,I.laid (a:=s.heap.objs.size) (o:=.dT []) (t':=s.toks) (fun _ _ q=>Heap.get?_push_of_some _ q) (Nat.le_refl _) (uw s.heap I.big),rfl,h _ (I.hok.fresh (Nat.le_refl _))⟩
end
noncomputable def tPairs:List (TE×TE)→St→Hp→(List (V×V)→Hp→Prop)→Prop
 | [],_,H,Q=>Q [] H
 | (tk,tv) :: r,σ,H,Q=>tk σ H fun x H1=>tv σ H1 fun y H2=>tPairs r σ H2 fun ps H3=>Q ((x,y) :: ps) H3
abbrev VV:List (V×V)→List (Value×Value)→Prop:=Paired fun p q=>RelV p.1 q.1∧RelV p.2 q.2
def PPs (X:Cx) (pos:Pos) (keys:List (Option Expr)) (values:List Expr) (trs:List (TE×TE)):Prop:=
 ∀ (pins:List (Addr×Obj)) (s:Shared) (σ:St) (H:Hp) (Q:List (V×V)→Hp→Prop),Inv X pins σ H s→tPairs trs σ H Q→
  wpAny (model X.prog X.w) X.A (evalPairs (pairTrees keys values X.env pos)) (fun vs s'=>∃ ps H',Inv X pins σ H' s'∧VV ps vs∧Q ps H') X.xe s
theorem xi {X:Cx} {pos:Pos}:PPs X pos [] [] []:=fun pins s σ H Q I h=>pairTrees_nil_walk ⟨[],H,I,.nil,h⟩
theorem uy {X:Cx} {pos:Pos} {k v:Expr} {ks:List (Option Expr)} {vs:List Expr} {tk tv:TE} {trs:List (TE×TE)} (hk:PE X k tk) (hv:PE X v tv) (hr:PPs X pos ks vs trs) :
  PPs X pos (some k :: ks) (v :: vs) ((tk,tv) :: trs):=fun pins s σ H Q I h=>
 pairTrees_cons_walk (thn (hk pins s σ H _ I h) fun u s1 ⟨x,H1,I1,rx,q1⟩=>thn (hv pins s1 σ H1 _ I1 q1) fun w2 s2 ⟨y,H2,I2,ry,q2⟩=>
  thn (hr pins s2 σ H2 _ I2 q2) fun ws s3 ⟨ps,H3,I3,rel,q3⟩=>⟨(x,y) :: ps,H3,I3,.cons ⟨rx,ry⟩ rel,q3⟩)
noncomputable def mq (kvs more:List (Key×V)):List (Key×V):=more.foldl (fun acc kv=>i5 acc kv.1 kv.2) kvs
theorem KV.merge:∀ {more:List (Key×V)} {rs:List (Key×Value)} {kvs:List (Key×V)} {vs:List (Key×Value)},KV more rs→KV kvs vs→KV (mq kvs more) (merged vs rs):=by
 intro more rs kvs vs r
 unfold KV at r
 induction r generalizing kvs vs with
 | nil=>intro q;exact q
 | @cons p q ps qs h t ih=>
  intro r0
  have e:KV (i5 kvs p.1 p.2) (stored vs q.1 q.2):=by
   have:=r0.put p.1 h.2
   rw [←h.1];exact this
  exact ih e
theorem gU:∀ (more kvs:List (Key×V)),(mq kvs more).length≤kvs.length + more.length
 | [],kvs=>by show kvs.length≤kvs.length + 0;lia
 | p :: r,kvs=>by
  have h1:=gU r (i5 kvs p.1 p.2)
  have h2:=gD kvs p.1 p.2
  show (mq (i5 kvs p.1 p.2) r).length≤_
  rw [List.length_cons];lia
theorem kx {P:Program} {w:World}:∀ {kvs:List (Key×V)} {ws:List (Value×Value)},VV (kvs.map fun kv=>(kV kv.1,kv.2)) ws→∃ rs,Carries (mixKind P w) ws rs∧KV kvs rs
 | [],_,r=>by rw [List.map_nil] at r;cases r;exact ⟨[],True.intro,.nil⟩
 | p :: kvs,_,r=>by
  rw [List.map_cons] at r
  cases r with
  | @cons a b as bs h t=>
   obtain ⟨rs,c,q⟩:=kx (P:=P) (w:=w) t
   obtain ⟨b1,b2⟩:=b
   exact ⟨(p.1,b2) :: rs,⟨kV_is h.1,rfl,c⟩,.cons ⟨rfl,h.2⟩ q⟩
noncomputable def BL (trs:List (TE×TE)):TE:=fun σ H Q=>∀ p,H p=none→tPairs trs σ (upd H p (.dK [])) fun ps H2=>H2 p=some (.dK [])∧∃ kvs:List (Key×V),ps=kvs.map (fun kv=>(kV kv.1,kv.2))∧kvs.length≤15∧Q (.ref p) (upd H2 p (.dK (mq [] kvs)))
theorem xj {X:Cx} {pos:Pos} {keys:List (Option Expr)} {values:List Expr} {trs:List (TE×TE)} (h:PPs X pos keys values trs) (hall:keys.all (·.isSome)=true) (hl:keys.length=values.length) (h0:keys≠[])
  (h15:keys.length≤15):PE X (.Dict keys values pos) (BL trs):=by
 intro pins s σ H Q I q
 have hn:=I.hok.fresh (Nat.le_refl s.heap.objs.size)
 have I1:=I.laid (a:=s.heap.objs.size) (o:=.dK []) (h':=s.heap.push { cls:=.type "dict",data:=.dict #[] }) (t':=s.toks) (fun _ _ q=>Heap.get?_push_of_some _ q) (Nat.le_refl _) (dk_empty s.heap I.big)
 refine wpAny_Dict_walk (knd:=mixKind X.prog X.w) hall hl h0 h15 (thn (h pins _ σ _ _ I1 (q _ hn)) fun ws s2 hqq=>?_)
 obtain ⟨ps,H2,I2,rel,e,kvs,ep,lk,q2⟩:=hqq
 subst ep
 obtain ⟨rs,c,rk⟩:=kx (P:=X.prog) (w:=X.w) rel
 obtain ⟨z,hd,vs0,r0,dd⟩:=zI I2.hok e
 cases r0
 refine ⟨rs,c,dd,fun h' dd' hs=>⟨.ref s.heap.objs.size,_,?_,rfl,q2⟩⟩
 have hz:(mq [] kvs).length≤sizeLine:=by
  have h1:=gU kvs []
  rw [List.length_nil] at h1
  rw [sizeLine_eq];lia
 have he:∃ q,h'.get? s.heap.objs.size=some q:=let ⟨q,_,_,hq,_⟩:=dd';⟨q,hq⟩
 exact nt I2 (by rw [e];exact True.intro) hs he (vJ hz hd (rk.merge .nil) dd')
section
variable {X:Cx} {pins:List (Addr×Obj)} {σ:St} {H:Hp} {s:Shared} {a:Addr} {y d:V} {u r:Value} {o:Option V} {A:Around} {E:Value→Shared→Prop}
end
section
variable {X:Cx} {o e f:Expr} {apos cpos:Pos} {td ty tx:TE}
end
section
variable {X:Cx} {pins:List (Addr×Obj)} {σ:St} {H:Hp} {s:Shared} {a:Addr} {kvs:List (Key×V)} {A:Around} {E:Value→Shared→Prop}
end
section
variable {X:Cx} {pins:List (Addr×Obj)} {σ:St} {H:Hp} {s:Shared} {a:Addr} {y:V} {u:Value} {A:Around} {E:Value→Shared→Prop}
end
section
variable {κ:Type} [DecidableEq κ]
end
end L2
namespace NX
open PySem PySem.Spec PyProof.Rows L2
def RawD (h:Heap) (d:Addr) (es:Array DictEntry) (ep:Nat):Prop:=∃ o,h.get? d=some o∧o.ExactDict∧o.data=.dict es ep
theorem RawD.at {h h':Heap} {d:Addr} {es:Array DictEntry} {ep:Nat} (x:RawD h d es ep) (e:∀ o,h.get? d=some o→h'.get? d=some o):RawD h' d es ep:=by
 obtain ⟨o,g,r⟩:=x
 exact ⟨o,e o g,r⟩
section
variable {prog:Program} {w:World} {A:Around} {E:Value→Shared→Prop} {s:Shared} {d it:Addr} {es:Array DictEntry} {ep i:Nat}
theorem jh (x:RawD s.heap d es ep):s.TypeIs (.ref d) "dict":=by
 obtain ⟨o,g,ex,_⟩:=x
 exact ⟨o,g,ex.1⟩
theorem uz {Q:Value→Shared→Prop} (nm:(d == sysModules)=false) (x:RawD s.heap d es ep)
  (q:Q (.ref s.heap.objs.size) { s with heap:=s.heap.push { cls:=.type "dict_keyiterator",data:=.fields #[.ref d,.int 0 0,.int es.size 0,.int ep 0] } }):wpAny (model prog w) A (pyIter (.ref d)) Q E s:=by
 have ty:=jh x
 obtain ⟨o,g,ex,dat⟩:=x
 refine wpAny_pyIter_slot ty F.slot_dict_iter (wpAny_call_entry F.slot_dict_iter ty F.entry_dict_iter (wpAny_bind ?_) (F.args_dict_iter_1 _))
 refine wpAny_bind (wpAny_notOrdered_dict ty (wpAny_pure ?_))
 show wpAny _ _ (Builtin.Dict.showsAll d >>= fun _=>_) _ _ s
 have ns:Builtin.Dict.showsAll d=pure ():=by
  unfold Builtin.Dict.showsAll
  rw [nm]
  rfl
 rw [ns]
 refine wpAny_bind (wpAny_pure (wpAny_bind (wpAny_dictEntries g dat (wpAny_bind (wpAny_dictEpoch g dat (wpAny_bind (wpAny_newObj_type (wpAny_pure ⟨_,rfl,"dict_keyiterator",_,⟨_,Heap.get?_push_size _ rfl,rfl⟩,F.slot_dict_keyiterator_next.lookup,?_⟩))))))))
 exact q
theorem uA {Q:Option Value→Shared→Prop} {e:DictEntry} (hit:s.heap.IsKeyIter it d i es.size ep) (x:RawD s.heap d es ep) (hx:es[i]?=some e)
  (q:∀ h',h'.IsKeyIter it d (i + 1) es.size ep→Heap.SameBut it s.heap h'→Q (some e.key) { s with heap:=h' }):wpAny (model prog w) A (pyNext (.ref it)) Q E s:=by
 have ti:=hit.typeIs
 obtain ⟨o,g,oc,od⟩:=hit
 obtain ⟨ob,gd,_,dat⟩:=x
 have hlt:i < es.size:=(Array.getElem?_eq_some_iff.mp hx).1
 unfold pyNext
 refine wpAny_bind (wpAny_attempt (wpAny_callSpecial?_slot (name:=Str.ofString "__next__") ti F.slot_dict_keyiterator_next (wpAny_call_entry F.slot_dict_keyiterator_next ti F.entry_dict_keyiterator_next
  (wpAny_bind (wpAny_pure (wpAny_bind (wpAny_bind ?_)))) (F.args_dict_keyiterator_next_1 _))))
 refine wpAny_bind (wpAny_typeNameOfWhole_keyiter ti (wpAny_pure (wpAny_bind (wpAny_fieldsOf g od ?_))))
 have nown:Builtin.Dict_items.ownsTuple "dict_keyiterator" = false:=by decide
 simp only [nown,Bool.false_eq_true,if_false]
 show wpAny _ _ (if (Value.ref d == Value.none)=true then _ else _) _ _ s
 have nz:¬ ((Value.ref d == Value.none)=true):=Bool.false_ne_true
 rw [if_neg nz]
 refine wpAny_bind (wpAny_pure (wpAny_bind (wpAny_dictEntries gd dat ?_)))
 rw [if_neg (by simp)]
 refine wpAny_bind (wpAny_pure (wpAny_bind (wpAny_dictEpoch gd dat ?_)))
 rw [if_neg (by simp)]
 refine wpAny_pure ?_
 simp only [if_neg (show ¬ ((i:Int) < 0) by lia),Int.toNat_natCast,hx]
 refine wpAny_bind (wpAny_bind (wpAny_typeNameOfWhole_keyiter ti (wpAny_pure (wpAny_bind (wpAny_isOneOf_keyiter ti ?_)))))
 show wpAny _ _ (setField (.ref it) 1 (rawInt ((i:Int) + 1)) >>= fun _=>_) _ _ s
 refine wpAny_bind (wpAny_setField g od (by simp) ?_)
 have nx:(s.heap.update it (Obj.mapFields fun y=>y.setIfInBounds 1 (rawInt ((i:Int) + 1)))).IsKeyIter it d (i + 1) es.size ep:=
  ⟨_,Heap.get?_update_self _ g (Obj.isFreed_of_fields (Obj.data_mapFields od _)),(Obj.cls_mapFields ..).trans oc,(Obj.data_mapFields od _).trans (by simp [rawInt])⟩
 refine wpAny_bind (wpAny_holding (wpAny_bind (wpAny_isOneOf_keyiter (s:={ s with heap:=s.heap.update it (Obj.mapFields fun y=>y.setIfInBounds 1 (rawInt ((i:Int) + 1))) }) nx.typeIs ?_)))
 show wpAny _ _ (pure e.key) _ _ _
 exact wpAny_pure (wpAny_pure ⟨_,rfl,wpAny_pure (q _ nx (Heap.SameBut.update ..))⟩)
theorem xk {Q:Option Value→Shared→Prop} (hh:A.handled=none) (hit:s.heap.IsKeyIter it d i es.size ep) (x:RawD s.heap d es ep) (hx:es[i]?=none)
  (q:∀ h',Heap.ExtBut it s.heap h'→Q none { s with heap:=h' }):wpAny (model prog w) A (pyNext (.ref it)) Q E s:=by
 have ti:=hit.typeIs
 obtain ⟨o,g,oc,od⟩:=hit
 obtain ⟨ob,gd,_,dat⟩:=x
 unfold pyNext
 refine wpAny_bind (wpAny_attempt (wpAny_callSpecial?_slot (name:=Str.ofString "__next__") ti F.slot_dict_keyiterator_next (wpAny_call_entry F.slot_dict_keyiterator_next ti F.entry_dict_keyiterator_next
  (wpAny_bind (wpAny_pure (wpAny_bind (wpAny_bind ?_)))) (F.args_dict_keyiterator_next_1 _))))
 refine wpAny_bind (wpAny_typeNameOfWhole_keyiter ti (wpAny_pure (wpAny_bind (wpAny_fieldsOf g od ?_))))
 have nown:Builtin.Dict_items.ownsTuple "dict_keyiterator" = false:=by decide
 simp only [nown,Bool.false_eq_true,if_false]
 show wpAny _ _ (if (Value.ref d == Value.none)=true then _ else _) _ _ s
 have nz:¬ ((Value.ref d == Value.none)=true):=Bool.false_ne_true
 rw [if_neg nz]
 refine wpAny_bind (wpAny_pure (wpAny_bind (wpAny_dictEntries gd dat ?_)))
 rw [if_neg (by simp)]
 refine wpAny_bind (wpAny_pure (wpAny_bind (wpAny_dictEpoch gd dat ?_)))
 rw [if_neg (by simp)]
 refine wpAny_pure ?_
 simp only [if_neg (show ¬ ((i:Int) < 0) by lia),Int.toNat_natCast,hx]
 refine wpAny_bind (wpAny_bind (wpAny_typeNameOfWhole_keyiter ti (wpAny_pure ?_)))
 show wpAny _ _ (setField (.ref it) 0 .none >>= fun _=>_) _ _ s
 refine wpAny_bind (wpAny_setField g od (by simp) ?_)
 show wpAny _ _ (newExc (.type "StopIteration") [] >>= fun _=>_) _ _ _
 refine wpAny_bind ?_
 simp only [newExc,newTuple]
 refine wpAny_bind (wpAny_newObj_type (wpAny_bind (m:=firstArgMember _ _) (wpAny_of_eq (a:=Value.none) (by first | rfl | (simp only [firstArgMember];rfl)) (wpAny_newObj_type ?_ (by size_fits)))) (by size_fits))
 simp only [raiseNew]
 refine wpAny_bind (wpAny_handled ?_)
 rw [show A.in1.handled=none from hh]
 refine wpAny_bind (wpAny_pure (wpAny_throw ?_))
 refine wpAny_bind (wpAny_isInstance (b:=true) (T:="StopIteration") ⟨_,Heap.get?_push_size _ rfl,rfl⟩ isSubtype_stop ?_)
 exact wpAny_pure (q _ (((Heap.SameBut.update ..).extBut.push _).push _))
theorem rK (hh:A.handled=none) (I:Addr) (ne:d≠I):Walks prog w A I [I,d] [I] es.size (fun i v=>∃ e,es[i]?=some e∧v=e.key) (fun i h=>h.IsKeyIter I d i es.size ep∧RawD h d es ep) where
 sub:=fun b hb=>by
  rw [List.mem_singleton] at hb
  rw [hb]
  exact List.mem_cons_self
 frame:=fun _ _ _ st hk=>⟨st.1.at fun o e=>hk I List.mem_cons_self o e,st.2.at fun o e=>hk d (List.mem_cons_of_mem _ List.mem_cons_self) o e⟩
 item:=fun i s Q E hi st hQ=>by
  refine uA st.1 st.2 (Array.getElem?_eq_getElem hi) fun h' it' sb=>?_
  exact hQ _ h' s.toks ⟨_,Array.getElem?_eq_getElem hi,rfl⟩ ⟨it',st.2.at fun o e=>sb.extBut d o ne e⟩ fun b o hb e=>sb.extBut b o (fun z=>hb (by rw [z];exact List.mem_cons_self)) e
 done:=fun s Q E st hQ=>xk hh st.1 st.2 (Array.getElem?_eq_none (Nat.le_refl _)) fun h' ext=>hQ h' s.toks fun b o hb e=>ext b o (fun z=>hb (by rw [z];exact List.mem_cons_self)) e
 self:=fun _ _ _ _ st hQ=>wpAny_pyIter_keyiter st.1 hQ
theorem xl (nm:(d == sysModules)=false):PySem.W.KdlSrc prog w "dict" d d es.size (fun i v=>∃ e,es[i]?=some e∧v=e.key) (fun h=>RawD h d es ep) where
 type:=fun _ x=>jh x
 there:=fun _ x=>by
  obtain ⟨o,g,_⟩:=x
  exact ⟨Heap.lt_size g,Heap.lt_size g⟩
 keep:=fun _ _ x hk=>x.at fun o e=>hk d (.inl rfl) o e
 notList:=by decide
 notTuple:=by decide
 hint:=fun _ _ _ _ x q=>PySem.W.kdl_hint_dict (jh x) q
 iter:=fun _ s hh x=>⟨_,_,(fun _ _ q=>uz nm x q),rK hh _ (by obtain ⟨o,g,_⟩:=x;exact Nat.ne_of_lt (Heap.lt_size g)),⟨⟨_,Heap.get?_push_size _ rfl,rfl,rfl⟩,x.at fun o e=>Heap.get?_push_of_some _ e⟩⟩
end
end NX
namespace NX
open PySem PySem.W PySem.Spec PyProof.Rows L2
section
variable {prog:Program} {w:World} {A:Around} {E:Value→Shared→Prop} {s:Shared}
theorem p5 {O:KeyOrd} {key:Nat→O.α} {kd:SortKind} {l:Addr} {vs:List Value} {Q:Value→Shared→Prop}
  (hcol:∀ Q':List Value→Shared→Prop,(∀ h' tk,(∀ b o,s.heap.get? b=some o→h'.get? b=some o)→Q' vs { s with heap:=h',toks:=tk })→wpAny (model prog w) A.in1 (collect (.ref l)) Q' E s) (h64:vs.length < 64)
  (hkind:2≤vs.length→∀ (A':Around) (E':Value→Shared→Prop) (s':Shared),(∀ b o,s.heap.get? b=some o→s'.heap.get? b=some o)→∀ Q:SortKind→Shared→Prop,Q kd s'→wpAny (model prog w) A' (keyKind' vs.toArray) Q E' s')
  (hask:∀ i j,i < vs.length→j < vs.length→∀ s':Shared,(∀ b o,s.heap.get? b=some o→s'.heap.get? b=some o)→∀ C:Bool→Shared→Prop,C (O.blt (key i) (key j)) s'→kas_ask prog w A.in1.in1 kd vs i j C s')
  (h:∀ (p:Array Nat) (h5 h':Heap) (tk e:Nat),POk vs.length p→bc key p vs.length→(∀ b o,s.heap.get? b=some o→h5.get? b=some o)→(∀ b o,h5.get? b=some o→h'.get? b=some o)→h'.get? h5.objs.size=some (seqObj "list" (List.toArray (p.toList.map fun i=>vs.getD i .none)) e)→Q (.ref h5.objs.size) { s with heap:=h',toks:=tk }) :
  wpAny (model prog w) A (call (.builtin "sorted") [.ref l]) Q E s:=by
 refine Calls.call_function_entry kind_sorted plain_sorted entry_sorted (args_sorted1 _) ?_
 unfold Builtin.«sorted»
 refine wpAny_bind (m:=checkCount "sorted" 1 1 _) (wpAny_pure (wpAny_bind (hcol _ fun h5 tk k5=>?_)))
 refine wpAny_bind (wpAny_newList ?_ (by rw [sizeLine_eq];lia))
 have k6:∀ b o,s.heap.get? b=some o→(h5.push (seqObj "list" vs.toArray 0)).get? b=some o:=fun b o e=>Heap.get?_push_of_some _ (k5 b o e)
 have hL:(h5.push (seqObj "list" vs.toArray 0)).get? h5.objs.size=some (seqObj "list" vs.toArray 0):=Heap.get?_push_size _ rfl
 have lt5:∀ b o,s.heap.get? b=some o→b < h5.objs.size:=fun b o e=>Heap.lt_size (k5 b o e)
 show wpAny _ _ _ _ _ { s with heap:=h5.push (seqObj "list" vs.toArray 0),toks:=tk }
 refine wpAny_bind (wpAny_holding (wpAny_call_entry slot_list_sort ⟨_,hL,rfl⟩ entry_list_sort (gS (key:=key) (kd:=kd) hL h64 (fun h2 h' kk Q' q=>hkind h2 _ _ _ (fun b o e=>kk b o (Nat.ne_of_lt (lt5 b o e)) (k6 b o e)) Q' q)
  (fun i j hi hj h' kk C q=>hask i j hi hj _ (fun b o e=>kk b o (Nat.ne_of_lt (lt5 b o e)) (k6 b o e)) C q) fun p h' hp hs ⟨e,he⟩ kk=>⟨_,rfl,?_⟩) (args_list_sort _)))
 exact wpAny_pure ⟨_,rfl,h p h5 h' tk e hp hs k5 (fun b o q=>kk b o (Nat.ne_of_lt (Heap.lt_size q)) (Heap.get?_push_of_some _ q)) he⟩
end
section
variable {X:Cx} {pins:List (Addr×Obj)} {σ:L2.St} {H:Hp} {s:Shared}
theorem xm {H:Hp} {kvs:List (List Key×V)} {xs:List (List Key×Addr×Value)} (r:KT H kvs xs):xs.map (·.1)=kvs.map (·.1):=by
 induction r with
 | nil=>rfl
 | cons hq _ ih=>rw [List.map_cons,List.map_cons,ih,hq.1]
theorem BM {H:Hp} {kvs:List (List Key×V)} {xs:List (List Key×Addr×Value)} (r:KT H kvs xs):∀ y∈xs,H y.2.1=some (.tup (y.1.map kV)):=by
 induction r with
 | nil=>exact fun y hy=>nomatch hy
 | cons hq _ ih=>
  intro y hy
  rcases List.mem_cons.mp hy with rfl | hy
  ·rw [←hq.1]
   exact hq.2.1
  ·exact ih y hy
theorem xn (I:Inv X pins σ H s) {a:Addr} {kvs:List (List Key×V)} (h:Rd H a (.dT kvs)):(a == sysModules)=false∧∃ (al:List (Addr×List Key)) (es:Array DictEntry) (ep:Nat),
  RawD s.heap a es ep∧es.toList.map (·.key)=al.map (fun x=>Value.ref x.1)∧al.map (·.2)=kvs.map (·.1)∧∀ x∈al,H x.1=some (.tup (x.2.map kV)):=by
 obtain ⟨_,nm,xs,r,o,es,ep,h1,h2,h3,h4,_⟩:=h.ok I.hok
 refine ⟨nm,xs.map fun x=>(x.2.1,x.1),es,ep,⟨o,h1,h2,h3⟩,?_,?_,?_⟩
 ·rw [h4,List.map_map,List.map_map]
  rfl
 ·rw [List.map_map]
  exact xm r
 ·intro x hx
  obtain ⟨y,hy,rfl⟩:=List.mem_map.mp hx
  exact BM r y hy
theorem kj (hc:X.calm=true):cT X (.builtin "sorted") (fun vs H Q=>∃ (p:Addr) (kvs:List (List Key×V)) (top:Bool) (t:List Bool),vs=[.ref p]∧Rd H p (.dT kvs)∧(∀ kv∈kvs,kinds kv.1=top :: t)∧kvs.length < 64∧
  ∀ (D:Addr) (ms:List (Addr×List Key)),H D=none→(∀ a∈ms,H a.1=some (.tup (a.2.map kV)))→(ms.map (·.2)).Perm (kvs.map (·.1))→ms.Pairwise (fun a b=>dk b.2 a.2=false)→Q (.ref D) (upd H D (.lst (ms.map fun a=>V.ref a.1)))):=by
 intro pins s σ H vs us Q I r h
 obtain ⟨p,kvs,top,kt,rfl,hp,hk,h64,q⟩:=h
 obtain ⟨u,rfl,r1⟩:=fm r
 cases r1
 obtain ⟨nm,al,es,ep,raw,ekeys,ekv,hal0⟩:=xn I hp
 have hall:al.length=kvs.length:=by
  have:=congrArg List.length ekv
  simpa using this
 have hal:∀ a∈al,SqT X.K H a.1 (a.2.map kV)∧kinds a.2=top :: kt:=fun a ha=>by
  refine ⟨SqT.of (hal0 a ha),?_⟩
  have:a.2∈kvs.map (·.1):=by rw [←ekv];exact List.mem_map.mpr ⟨a,ha,rfl⟩
  obtain ⟨kv,hkv,e⟩:=List.mem_map.mp this
  rw [←e]
  exact hk kv hkv
 have rv:Vals (al.map fun a=>V.ref a.1) (al.map fun a=>Value.ref a.1):=by
  clear ekeys ekv hal0 hall hal
  induction al with
  | nil=>exact .nil
  | cons a al ih=>exact .cons rfl ih
 have hl:(al.map fun a=>Value.ref a.1).length=al.length:=List.length_map ..
 refine p5 (O:=Bg) (key:=fun i=>(al.getD i (0,[])).2) (kd:=tuples' true) (vs:=al.map fun a=>Value.ref a.1) (fun Q' hq=>?_) (by lia) (fun h2 A' E' s' kk Q' q'=>?_) (fun i j hi hj s' kk C q'=>?_) fun pp h5 h' tk e hpp hs k5 k' he=>?_
 ·refine kdu_collect (xl nm) (I.ok.hd hc) raw (by have:=congrArg List.length ekeys;simp only [List.length_map,Array.length_toList] at this;rw [sizeLine_eq];lia) fun h' tk acc kk hacc=>?_
  have ea:acc.toList=al.map fun a=>Value.ref a.1:=by
   rw [←ekeys]
   apply List.ext_getElem?
   intro j
   rw [List.getElem?_map,Array.getElem?_toList,Array.getElem?_toList]
   cases hj:acc[j]? with
   | none=>
    have:es[j]?=none:=by
     rw [Array.getElem?_eq_none_iff] at hj ⊢
     rw [←hacc.1]
     exact hj
    rw [this]
    rfl
   | some v=>
    obtain ⟨en,h1,h2⟩:=hacc.2 j v hj
    rw [h1,h2]
    rfl
  have:=hq h' tk kk
  rw [←ea] at this
  exact this
 ·obtain ⟨fs,t1,t2,t3⟩:=oS (h':=s'.heap) I kk top rv fun a ha=>⟨(hal a ha).1,kt,(hal a ha).2⟩
  refine kat_kind (T:=.type (if top then "int" else "str")) t1 (by lia) (fun v hv=>t3 v hv _) (by simp) ?_
  have:((Value.type (if top then "int" else "str")) != Value.type "tuple")=true:=by cases top <;> decide
  rw [this]
  exact q'
 ·unfold kas_ask
  have hi':i < al.length:=by lia
  have hj':j < al.length:=by lia
  rw [kX rv hi',kX rv hj']
  have mi:al.getD i (0,[])∈al:=by rw [br _ _ _ hi'];exact List.getElem_mem _
  have mj:al.getD j (0,[])∈al:=by rw [br _ _ _ hj'];exact List.getElem_mem _
  obtain ⟨u1,o1,n1,r1,g1,_,d1⟩:=mf I (hal _ mi).1
  obtain ⟨u2,o2,n2,r2,g2,_,d2⟩:=mf I (hal _ mj).1
  have ek:kinds (al.getD i (0,[])).2=kinds (al.getD j (0,[])).2:=by rw [(hal _ mi).2,(hal _ mj).2]
  have el:u1.length=u2.length:=by
   have a1:=r1.length
   have a2:=r2.length
   have a3:=congrArg List.length ek
   simp only [kinds,List.length_map] at a1 a2 a3
   lia
  refine kat_lt (kk _ _ g1) d1 (kk _ _ g2) d2 ?_
  have ef:decide (u1.toArray.size < u2.toArray.size)=false:=by simp [el]
  rw [ef]
  exact jy _ _ _ _ 0 r1 r2 ek q'
 ·rw [hl] at hpp hs
  have hpx:POk (al.map fun a=>V.ref a.1).length pp:=by rw [List.length_map];exact hpp
  have eo:p4 pp (al.map fun a=>V.ref a.1)=(pp.toList.map fun i=>al.getD i (0,[])).map fun a=>V.ref a.1:=by
   unfold p4
   rw [List.map_map]
   refine List.map_congr_left fun i hi=>?_
   have hi:=List.mem_range.mp (hpp.perm.mem_iff.mp hi)
   show (al.map fun a=>V.ref a.1).getD i .non=V.ref (al.getD i (0,[])).1
   rw [br _ _ _ (by rw [List.length_map];exact hi),br _ _ _ hi]
   simp
  have I5:Inv X pins σ H { s with heap:=h5,toks:=tk }:=I.kept k5
  have hn:H h5.objs.size=none:=I5.hok.fresh (Nat.le_refl _)
  refine ⟨.ref h5.objs.size,_,gT (s:={ s with heap:=h5,toks:=tk }) I5 k' (Nat.le_refl _) he (je rv hpx) ?_,rfl,?_⟩
  ·show (p4 pp (al.map fun a=>V.ref a.1)).length≤sizeLine
   rw [eo,List.length_map,List.length_map,hpp.perm.length_eq,List.length_range,sizeLine_eq]
   lia
  ·rw [eo]
   have pm:=jd (0,[]) hpp
   refine q _ _ hn (fun a ha=>hal0 a (pm.mem_iff.mp ha)) ?_ ?_
   ·rw [←ekv]
    exact pm.map _
   ·exact fW (O:=Bg) (0,[]) (fun a:Addr×List Key=>a.2) hpp hs
end
end NX
namespace NX
open PySem PySem.Spec PyProof.Rows L2
section
open PySem.SeqAt
open PySem.AutoSeq1 (wpAny_loadPart')
open PySem.MeetsSeq PySem.MeetsSeq2 PySem.MeetsSeq3
theorem uB {A:Around} {s:Shared} {a c:Key} {u v:Value} (ra:RelV (kV a) u) (rc:RelV (kV c) v):EqAt A s u v (decide (a=c)):=by
 have h:=vB (A:=A) (s:=s) ra rc (jg a) (jg c)
 rw [rB] at h
 exact h
theorem uC {prog:Program} {w:World} {A:Around} {E:Value→Shared→Prop} {s:Shared} {Q:Value→Shared→Prop} {a c:Key} {u v:Value} (ra:RelV (kV a) u) (rc:RelV (kV c) v) (hk:a.isLeft=c.isLeft) (h:Q (.bool (m6.blt a c)) s) :
  wpAny (model prog w) A (richCompare .Lt u v) Q E s:=by
 cases a with
 | inl i=>
  cases c with
  | inr _=>cases hk
  | inl j=>
   obtain ⟨t,rfl⟩:=ra
   obtain ⟨t',rfl⟩:=rc
   exact (PyProof.Rows.lt_int h:wpAny (model prog w) A (compareOp .Lt (.int i t) (.int j t')) Q E s)
 | inr x=>
  cases c with
  | inl _=>cases hk
  | inr y=>
   obtain ⟨t,rfl⟩:=ra
   obtain ⟨t',rfl⟩:=rc
   exact (PyProof.Rows.lt_str h:wpAny (model prog w) A (compareOp .Lt (.str x t) (.str y t')) Q E s)
theorem rL (a c:Key) (r t:List Key):dk (a :: r) (c :: t)=if a=c then dk r t else m6.blt a c:=rfl
theorem k4 (l b:Addr) (items items2:Array Value) (n n2:Nat) (dd dd2:Option Addr) (sl sl2:Array (Option Value)) (ks js:List Key) (hi:Vals (ks.map kV) items.toList) (hj:Vals (js.map kV) items2.toList) (hk:kinds ks=kinds js) :
  Meets (Builtin.«tuple.__lt__» ⟨[.ref l,.ref b],[]⟩)
   (fun _ R s=>s.heap.get? l=some { cls:=.type "tuple",dict:=dd,data:=.seq items n,slots:=sl }∧s.heap.get? b=some { cls:=.type "tuple",dict:=dd2,data:=.seq items2 n2,slots:=sl2 }∧R (.ok (.ret (.bool (dk ks js)))) s):=
 .of_wp fun prog w A R s h=>by
  obtain ⟨hp,g,d,tk,os⟩:=s;obtain ⟨hl,hb,h⟩:=h
  have f2:=AutoSeq1.sub_tuple_tuple
  have z1:items.size=ks.length:=by have:=hi.length;simp at this;lia
  have z2:items2.size=js.length:=by have:=hj.length;simp at this;lia
  have z3:ks.length=js.length:=by have:=congrArg List.length hk;simpa [kinds] using this
  wp_walk using wpAny_loadPart' hl,wpAny_loadPart' hb,wpAny_forIn_list _ (fun dh b s'=>b.1=none∧s'=⟨hp,g,d,tk,os⟩∧∃ (vs ws:List Value) (ks' js':List Key),dh=vs.zip ws∧
   Vals (ks'.map kV) vs∧Vals (js'.map kV) ws∧kinds ks'=kinds js'∧R (.ok (.ret (.bool (dk ks' js')))) ⟨hp,g,d,tk,os⟩) _
  case turn=>
   rintro ⟨y,x⟩ dh b s' ⟨hb',rfl,vs,ws,ks',js',hz,hvi,hwi,hkk,hR⟩
   cases ks' with
   | nil=>
    cases hvi
    rw [List.zip_nil_left] at hz;cases hz
   | cons a ks'=>
    cases js' with
    | nil=>cases hkk
    | cons c js'=>
     cases hvi with
     | @cons _ va _ vs' ra hvi'=>
      cases hwi with
      | @cons _ vc _ ws' rc hwi'=>
       rw [List.zip_cons_cons] at hz
       injection hz with hyx hrest
       injection hyx with hy hx
       subst hy hx
       have hk1:a.isLeft=c.isLeft:=(List.cons.inj hkk).1
       have hk2:kinds ks'=kinds js':=(List.cons.inj hkk).2
       rw [rL] at hR
       have he:=uB (A:=A.in1) (s:=⟨hp,g,d,tk,os⟩) ra rc
       refine wpAny_bind (he prog w _ _ ?_)
       by_cases hac:a=c
       ·rw [if_pos hac] at hR
        rw [decide_eq_true hac]
        wp_walk
        exact ⟨rfl,rfl,_,_,_,_,hrest,hvi',hwi',hk2,hR⟩
       ·rw [if_neg hac] at hR
        rw [decide_eq_false hac]
        have hri:=fun E Q=>uC (prog:=prog) (w:=w) (A:=A.in1) (E:=E) (s:=⟨hp,g,d,tk,os⟩) (Q:=Q) ra rc hk1
        wp_walk using hri
        exact ⟨_,rfl,by simpa using hR⟩
  case fin=>
   rintro ⟨b1,b2⟩ s' ⟨hb',rfl,vs,ws,ks',js',hz,hvi,hwi,hkk,hR⟩
   simp only at hb'
   subst hb'
   have hv:dk ks' js'=decide (items.size < items2.size):=by
    cases ks' with
    | nil=>
     cases js' with
     | nil=>exact (decide_eq_false (by lia)).symm
     | cons c js'=>cases hkk
    | cons a ks'=>
     cases js' with
     | nil=>cases hkk
     | cons c js'=>
      cases hvi
      cases hwi
      rw [List.zip_cons_cons] at hz
      cases hz
   rw [hv] at hR
   wp_walk
   exact ⟨_,rfl,by simpa [Builtin.Tuple.tupleCompareSizes] using hR⟩
  case h=>
   exact ⟨rfl,rfl,items.toList,items2.toList,ks,js,rfl,hi,hj,hk,h⟩
end
section
variable {X:Cx}
noncomputable def Dm (K:W.Frag) (neg:Bool):R2:=fun x y H Q=>∃ a b ks js,x=.ref a∧y=.ref b∧SqT K H a (ks.map kV)∧SqT K H b (js.map kV)∧kinds ks=kinds js∧Q (.bl (if neg then !dk ks js else dk ks js)) H
theorem zL (hu:X.A.units < cLine):OpR X (compareOp .Lt) (Dm X.K false):=by
 intro pins s σ H x y v u Q I rx ry h
 obtain ⟨a,b,ks,js,rfl,rfl,ha,hb,hk,q⟩:=h
 cases rx
 cases ry
 obtain ⟨its,r1,p1,_⟩:=I.tuple ha
 obtain ⟨its2,r2,p2,_⟩:=I.tuple hb
 obtain ⟨⟨cls,dd,data,sl⟩,ho,hc,n,hd⟩:=id p1
 obtain ⟨⟨cls2,dd2,data2,sl2⟩,ho2,hc2,n2,hd2⟩:=id p2
 simp only at hc hd hc2 hd2
 subst hc hd hc2 hd2
 exact richCompare_meets_room (op:=.Lt) ⟨_,ho,rfl⟩ ⟨_,ho2,rfl⟩ PySem.F.slot_tuple_lt PySem.F.entry_tuple_lt (PySem.F.args_tuple_lt_2 _ _) (k4 a b _ _ n n2 dd dd2 sl sl2 ks js (by simpa using r1) (by simpa using r2) hk)
  ⟨ho,ho2,show Value.bool (dk ks js)≠Value.notImplemented∧EP X pins σ Q (.bool (dk ks js)) s from ⟨(fun x=>nomatch x),⟨.bl (dk ks js),H,I,rfl,q⟩⟩⟩ hu
end
end NX
namespace PV
open PySem L2 NX
inductive D where
 | non | bl (b:Bool) | int (i:Int) | str (l:List Nat) | tup (ds:List D) | lst (ds:List D) | dct (tk:Bool) (ks vs:List D)
inductive O where
 | f | l (c:O) | t (cs:List O) | d | pin (p:Addr) (c:O)
abbrev R:=O×D
abbrev Env:=List (Option R)
inductive Res (α:Type) where
 | ok (a:α) | exc (c:List Nat) | bad
noncomputable def kD:Key→D
 | .inl i=>.int i
 | .inr x=>.str x.cps.toList
noncomputable def isM:HO→Bool
 | .lst _=>true
 | .dK _=>true
 | .dT _=>true
 | _=>false
noncomputable def isT:HO→Bool
 | .tup _=>true
 | .frz _ (.tup _)=>true
 | _=>false
noncomputable def vL:Key→Prop
 | .inl _=>True
 | .inr x=>x.cps.toList.length≤sizeLine
def DictO (o:HO) (tk:Bool) (ks:List D) (xs:List V):Prop:=match tk with
 | true=>∃ kvs:List (List Key×V),o=.dT kvs∧ks=kvs.map (fun kv=>D.tup (kv.1.map kD))∧xs=kvs.map (·.2)∧∀ kv∈kvs,∀ k∈kv.1,vL k
 | false=>∃ kvs:List (Key×V),o=.dK kvs∧ks=kvs.map (fun kv=>kD kv.1)∧xs=kvs.map (·.2)∧∀ kv∈kvs,vL kv.1
mutual
noncomputable def Rep (K:W.Frag) (G:Hp):D→V→Prop
 | .non,v=>v=.non
 | .bl b,v=>v=.bl b
 | .int i,v=>v=.int i
 | .str l,v=>v=.str (S l)∧l.length≤sizeLine
 | .tup ds,v=>∃ p xs,v=.ref p∧G p=some (.tup xs)∧Reps K G ds xs
 | .lst ds,v=>∃ p xs,v=.ref p∧SqL K G p xs∧Reps K G ds xs
 | .dct tk ks vs,v=>∃ p xs o,v=.ref p∧Rd G p o∧DictO o tk ks xs∧Reps K G vs xs
noncomputable def Reps (K:W.Frag) (G:Hp):List D→List V→Prop
 | [],xs=>xs=[]
 | d :: ds,xs=>∃ y ys,xs=y :: ys∧Rep K G d y∧Reps K G ds ys
end
noncomputable def AllO (P:D→V→List Addr→Prop):List D→List V→List Addr→Prop
 | [],xs,fp=>xs=[]∧fp=[]
 | d :: ds,xs,fp=>∃ y ys a b,xs=y :: ys∧fp=a++b∧P d y a∧AllO P ds ys b
mutual
noncomputable def RepO (K:W.Frag) (G H:Hp):O→D→V→List Addr→Prop
 | .f,d,v,fp=>Rep K G d v∧fp=[]
 | .l c,.lst ds,v,fp=>∃ p xs fp',v=.ref p∧H p=some (.lst xs)∧fp=p :: fp'∧AllO (RepO K G H c) ds xs fp'
 | .t cs,.tup ds,v,fp=>∃ p xs,v=.ref p∧G p=some (.tup xs)∧RepT K G H cs ds xs fp
 | .d,.dct tk ks vs,v,fp=>∃ p xs o,v=.ref p∧H p=some o∧DictO o tk ks xs∧fp=[p]∧Reps K G vs xs
 | .pin p c,d,v,fp=>v=.ref p∧RepO K G H c d v fp
 | _,_,_,_=>False
noncomputable def RepT (K:W.Frag) (G H:Hp):List O→List D→List V→List Addr→Prop
 | [],[],xs,fp=>xs=[]∧fp=[]
 | c :: cs,d :: ds,xs,fp=>∃ y ys a b,xs=y :: ys∧fp=a++b∧RepO K G H c d y a∧RepT K G H cs ds ys b
 | _,_,_,_=>False
end
section
variable {K:W.Frag} {G G' H H':Hp}
theorem Rd.mono {p:Addr} {u:HO} (h:Same G G') (r:Rd G p u):Rd G' p u:=by
 rcases r with r | ⟨o,r⟩
 ·exact .inl (h _ _ r)
 ·exact .inr ⟨o,h _ _ r⟩
theorem fX {p:Addr} {xs:List V} (h:Same G G') (r:SqL K G p xs):SqL K G' p xs:=r.elim (fun r=>.inl (Rd.mono h r)) .inr
theorem bH {p:Addr} {xs:List V} (h:Same G G') (r:SqT K G p xs):SqT K G' p xs:=r.elim (fun r=>.inl (Rd.mono h r)) .inr
mutual
theorem Rep.mono (h:Same G G'):∀ {d:D} {v:V},Rep K G d v→Rep K G' d v
 | .non,_,r=>by simpa only [Rep] using r
 | .bl _,_,r=>by simpa only [Rep] using r
 | .int _,_,r=>by simpa only [Rep] using r
 | .str _,_,r=>by simpa only [Rep] using r
 | .tup ds,_,r=>by
  simp only [Rep] at r ⊢
  obtain ⟨p,xs,e,q,rs⟩:=r
  exact ⟨p,xs,e,h _ _ q,Reps.mono h rs⟩
 | .lst ds,_,r=>by
  simp only [Rep] at r ⊢
  obtain ⟨p,xs,e,q,rs⟩:=r
  exact ⟨p,xs,e,fX h q,Reps.mono h rs⟩
 | .dct tk ks vs,_,r=>by
  simp only [Rep] at r ⊢
  obtain ⟨p,xs,o,e,q,dd,rs⟩:=r
  exact ⟨p,xs,o,e,Rd.mono h q,dd,Reps.mono h rs⟩
theorem Reps.mono (h:Same G G'):∀ {ds:List D} {xs:List V},Reps K G ds xs→Reps K G' ds xs
 | [],_,r=>by simpa only [Reps] using r
 | d :: ds,_,r=>by
  simp only [Reps] at r ⊢
  obtain ⟨y,ys,e,r1,r2⟩:=r
  exact ⟨y,ys,e,Rep.mono h r1,Reps.mono h r2⟩
end
theorem AllO.imp {P P':D→V→List Addr→Prop}:∀ {ds:List D} {xs:List V} {fp:List Addr},(∀ d v a,(∀ p∈a,p∈fp)→P d v a→P' d v a)→AllO P ds xs fp→AllO P' ds xs fp
 | [],_,_,_,r=>r
 | d :: ds,xs,fp,h,r=>by
  obtain ⟨y,ys,a,b,e1,e2,p,q⟩:=r
  subst e2
  exact ⟨y,ys,a,b,e1,rfl,h _ _ _ (fun p hp=>List.mem_append_left _ hp) p,AllO.imp (fun d v c hc=>h d v c fun p hp=>List.mem_append_right _ (hc p hp)) q⟩
mutual
theorem RepO.step (h:Same G G'):∀ {o:O} {d:D} {v:V} {fp:List Addr},(∀ p∈fp,H' p=H p)→RepO K G H o d v fp→RepO K G' H' o d v fp
 | .f,d,v,fp,hk,r=>by
  simp only [RepO] at r ⊢
  exact ⟨Rep.mono h r.1,r.2⟩
 | .pin p c,d,v,fp,hk,r=>by
  simp only [RepO] at r ⊢
  exact ⟨r.1,RepO.step h hk r.2⟩
 | .l c,.lst ds,v,fp,hk,r=>by
  simp only [RepO] at r ⊢
  obtain ⟨p,xs,fp',e,q,e2,a⟩:=r
  subst e2
  exact ⟨p,xs,fp',e,(hk p List.mem_cons_self).trans q,rfl,AllO.imp (fun d v c hc=>RepO.step h fun z hz=>hk z (List.mem_cons_of_mem _ (hc z hz))) a⟩
 | .t cs,.tup ds,v,fp,hk,r=>by
  simp only [RepO] at r ⊢
  obtain ⟨p,xs,e,q,a⟩:=r
  exact ⟨p,xs,e,h _ _ q,RepT.step h hk a⟩
 | .d,.dct tk ks vs,v,fp,hk,r=>by
  simp only [RepO] at r ⊢
  obtain ⟨p,xs,o,e,q,dd,e2,rs⟩:=r
  subst e2
  exact ⟨p,xs,o,e,(hk p List.mem_cons_self).trans q,dd,rfl,Reps.mono h rs⟩
 | .l _,.non,_,_,_,r | .l _,.bl _,_,_,_,r | .l _,.int _,_,_,_,r | .l _,.str _,_,_,_,r | .l _,.tup _,_,_,_,r | .l _,.dct _ _ _,_,_,_,r=>by simp only [RepO] at r
 | .t _,.non,_,_,_,r | .t _,.bl _,_,_,_,r | .t _,.int _,_,_,_,r | .t _,.str _,_,_,_,r | .t _,.lst _,_,_,_,r | .t _,.dct _ _ _,_,_,_,r=>by simp only [RepO] at r
 | .d,.non,_,_,_,r | .d,.bl _,_,_,_,r | .d,.int _,_,_,_,r | .d,.str _,_,_,_,r | .d,.tup _,_,_,_,r | .d,.lst _,_,_,_,r=>by simp only [RepO] at r
theorem RepT.step (h:Same G G'):∀ {cs:List O} {ds:List D} {xs:List V} {fp:List Addr},(∀ p∈fp,H' p=H p)→RepT K G H cs ds xs fp→RepT K G' H' cs ds xs fp
 | [],[],_,_,_,r=>by simpa only [RepT] using r
 | c :: cs,d :: ds,xs,fp,hk,r=>by
  simp only [RepT] at r ⊢
  obtain ⟨y,ys,a,b,e1,e2,r1,r2⟩:=r
  subst e2
  exact ⟨y,ys,a,b,e1,rfl,RepO.step h (fun p hp=>hk p (List.mem_append_left _ hp)) r1,RepT.step h (fun p hp=>hk p (List.mem_append_right _ hp)) r2⟩
 | [],_ :: _,_,_,_,r=>by simp only [RepT] at r
 | _ :: _,[],_,_,_,r=>by simp only [RepT] at r
end
theorem AllO.frozen {P:D→V→List Addr→Prop}:∀ {ds:List D} {xs:List V} {fp:List Addr},(∀ d v a,(∀ p∈a,p∈fp)→P d v a→Rep K G' d v)→AllO P ds xs fp→Reps K G' ds xs
 | [],_,_,_,r=>by simp only [Reps];exact r.1
 | d :: ds,xs,fp,h,r=>by
  obtain ⟨y,ys,a,b,e1,e2,p,q⟩:=r
  subst e2
  simp only [Reps]
  exact ⟨y,ys,e1,h _ _ _ (fun p hp=>List.mem_append_left _ hp) p,AllO.frozen (fun d v c hc=>h d v c fun p hp=>List.mem_append_right _ (hc p hp)) q⟩
mutual
theorem RepO.frozen (h:Same G G'):∀ {o:O} {d:D} {v:V} {fp:List Addr},(∀ p∈fp,∀ u,H p=some u→G' p=some u)→RepO K G H o d v fp→Rep K G' d v
 | .f,d,v,fp,hk,r=>by
  simp only [RepO] at r
  exact Rep.mono h r.1
 | .pin p c,d,v,fp,hk,r=>by
  simp only [RepO] at r
  exact RepO.frozen h hk r.2
 | .l c,.lst ds,v,fp,hk,r=>by
  simp only [RepO] at r
  simp only [Rep]
  obtain ⟨p,xs,fp',e,q,e2,a⟩:=r
  subst e2
  exact ⟨p,xs,e,SqL.of (hk p List.mem_cons_self _ q),AllO.frozen (fun d v c hc=>RepO.frozen h fun z hz=>hk z (List.mem_cons_of_mem _ (hc z hz))) a⟩
 | .t cs,.tup ds,v,fp,hk,r=>by
  simp only [RepO] at r
  simp only [Rep]
  obtain ⟨p,xs,e,q,a⟩:=r
  exact ⟨p,xs,e,h _ _ q,RepT.frozen h hk a⟩
 | .d,.dct tk ks vs,v,fp,hk,r=>by
  simp only [RepO] at r
  simp only [Rep]
  obtain ⟨p,xs,o,e,q,dd,e2,rs⟩:=r
  subst e2
  exact ⟨p,xs,o,e,.inl (hk p List.mem_cons_self _ q),dd,Reps.mono h rs⟩
 | .l _,.non,_,_,_,r | .l _,.bl _,_,_,_,r | .l _,.int _,_,_,_,r | .l _,.str _,_,_,_,r | .l _,.tup _,_,_,_,r | .l _,.dct _ _ _,_,_,_,r=>by simp only [RepO] at r
 | .t _,.non,_,_,_,r | .t _,.bl _,_,_,_,r | .t _,.int _,_,_,_,r | .t _,.str _,_,_,_,r | .t _,.lst _,_,_,_,r | .t _,.dct _ _ _,_,_,_,r=>by simp only [RepO] at r
 | .d,.non,_,_,_,r | .d,.bl _,_,_,_,r | .d,.int _,_,_,_,r | .d,.str _,_,_,_,r | .d,.tup _,_,_,_,r | .d,.lst _,_,_,_,r=>by simp only [RepO] at r
theorem RepT.frozen (h:Same G G'):∀ {cs:List O} {ds:List D} {xs:List V} {fp:List Addr},(∀ p∈fp,∀ u,H p=some u→G' p=some u)→RepT K G H cs ds xs fp→Reps K G' ds xs
 | [],[],_,_,_,r=>by simp only [RepT] at r;simp only [Reps];exact r.1
 | c :: cs,d :: ds,xs,fp,hk,r=>by
  simp only [RepT] at r
  simp only [Reps]
  obtain ⟨y,ys,a,b,e1,e2,r1,r2⟩:=r
  subst e2
  exact ⟨y,ys,e1,RepO.frozen h (fun p hp=>hk p (List.mem_append_left _ hp)) r1,RepT.frozen h (fun p hp=>hk p (List.mem_append_right _ hp)) r2⟩
 | [],_ :: _,_,_,_,r=>by simp only [RepT] at r
 | _ :: _,[],_,_,_,r=>by simp only [RepT] at r
end
theorem AllO.live {P:D→V→List Addr→Prop}:∀ {ds:List D} {xs:List V} {fp:List Addr},(∀ d v a,P d v a→∀ p∈a,∃ u,H p=some u)→AllO P ds xs fp→∀ p∈fp,∃ u,H p=some u
 | [],_,_,_,r=>by rw [r.2];intro p hp;cases hp
 | d :: ds,xs,fp,h,r=>by
  obtain ⟨y,ys,a,b,e1,e2,p,q⟩:=r
  subst e2
  intro z hz
  rcases List.mem_append.mp hz with hz | hz
  ·exact h _ _ _ p z hz
  ·exact AllO.live h q z hz
mutual
theorem RepO.live:∀ {o:O} {d:D} {v:V} {fp:List Addr},RepO K G H o d v fp→∀ p∈fp,∃ u,H p=some u
 | .f,d,v,fp,r=>by
  simp only [RepO] at r
  rw [r.2]
  intro p hp
  cases hp
 | .pin p c,d,v,fp,r=>by
  simp only [RepO] at r
  exact RepO.live r.2
 | .l c,.lst ds,v,fp,r=>by
  simp only [RepO] at r
  obtain ⟨p,xs,fp',e,q,e2,a⟩:=r
  subst e2
  intro z hz
  rcases List.mem_cons.mp hz with rfl | hz
  ·exact ⟨_,q⟩
  ·exact AllO.live (fun d v a=>RepO.live) a z hz
 | .t cs,.tup ds,v,fp,r=>by
  simp only [RepO] at r
  obtain ⟨p,xs,e,q,a⟩:=r
  exact RepT.live a
 | .d,.dct tk ks vs,v,fp,r=>by
  simp only [RepO] at r
  obtain ⟨p,xs,o,e,q,dd,e2,rs⟩:=r
  subst e2
  intro z hz
  rw [List.mem_singleton] at hz
  exact ⟨_,hz▸q⟩
 | .l _,.non,_,_,r | .l _,.bl _,_,_,r | .l _,.int _,_,_,r | .l _,.str _,_,_,r | .l _,.tup _,_,_,r | .l _,.dct _ _ _,_,_,r=>by simp only [RepO] at r
 | .t _,.non,_,_,r | .t _,.bl _,_,_,r | .t _,.int _,_,_,r | .t _,.str _,_,_,r | .t _,.lst _,_,_,r | .t _,.dct _ _ _,_,_,r=>by simp only [RepO] at r
 | .d,.non,_,_,r | .d,.bl _,_,_,r | .d,.int _,_,_,r | .d,.str _,_,_,r | .d,.tup _,_,_,r | .d,.lst _,_,_,r=>by simp only [RepO] at r
theorem RepT.live:∀ {cs:List O} {ds:List D} {xs:List V} {fp:List Addr},RepT K G H cs ds xs fp→∀ p∈fp,∃ u,H p=some u
 | [],[],_,_,r=>by
  simp only [RepT] at r
  rw [r.2]
  intro p hp
  cases hp
 | c :: cs,d :: ds,xs,fp,r=>by
  simp only [RepT] at r
  obtain ⟨y,ys,a,b,e1,e2,r1,r2⟩:=r
  subst e2
  intro z hz
  rcases List.mem_append.mp hz with hz | hz
  ·exact RepO.live r1 z hz
  ·exact RepT.live r2 z hz
 | [],_ :: _,_,_,r=>by simp only [RepT] at r
 | _ :: _,[],_,_,r=>by simp only [RepT] at r
end
theorem DictO.isM {o:HO} {tk:Bool} {ks:List D} {xs:List V} (h:DictO o tk ks xs):PV.isM o=true:=by
 cases tk with
 | true=>
  obtain ⟨kvs,e,_⟩:=h
  rw [e];rfl
 | false=>
  obtain ⟨kvs,e,_⟩:=h
  rw [e];rfl
theorem AllO.mut {P:D→V→List Addr→Prop}:∀ {ds:List D} {xs:List V} {fp:List Addr},(∀ d v a,P d v a→∀ p∈a,∃ u,H p=some u∧isM u=true)→AllO P ds xs fp→∀ p∈fp,∃ u,H p=some u∧isM u=true
 | [],_,_,_,r=>by rw [r.2];intro p hp;cases hp
 | d :: ds,xs,fp,h,r=>by
  obtain ⟨y,ys,a,b,e1,e2,p,q⟩:=r
  subst e2
  intro z hz
  rcases List.mem_append.mp hz with hz | hz
  ·exact h _ _ _ p z hz
  ·exact AllO.mut h q z hz
mutual
theorem RepO.mut:∀ {o:O} {d:D} {v:V} {fp:List Addr},RepO K G H o d v fp→∀ p∈fp,∃ u,H p=some u∧isM u=true
 | .f,d,v,fp,r=>by
  simp only [RepO] at r
  rw [r.2]
  intro p hp
  cases hp
 | .pin p c,d,v,fp,r=>by
  simp only [RepO] at r
  exact RepO.mut r.2
 | .l c,.lst ds,v,fp,r=>by
  simp only [RepO] at r
  obtain ⟨p,xs,fp',e,q,e2,a⟩:=r
  subst e2
  intro z hz
  rcases List.mem_cons.mp hz with rfl | hz
  ·exact ⟨_,q,rfl⟩
  ·exact AllO.mut (fun d v a=>RepO.mut) a z hz
 | .t cs,.tup ds,v,fp,r=>by
  simp only [RepO] at r
  obtain ⟨p,xs,e,q,a⟩:=r
  exact RepT.mut a
 | .d,.dct tk ks vs,v,fp,r=>by
  simp only [RepO] at r
  obtain ⟨p,xs,o,e,q,dd,e2,rs⟩:=r
  subst e2
  intro z hz
  rw [List.mem_singleton] at hz
  exact ⟨_,hz▸q,dd.isM⟩
 | .l _,.non,_,_,r | .l _,.bl _,_,_,r | .l _,.int _,_,_,r | .l _,.str _,_,_,r | .l _,.tup _,_,_,r | .l _,.dct _ _ _,_,_,r=>by simp only [RepO] at r
 | .t _,.non,_,_,r | .t _,.bl _,_,_,r | .t _,.int _,_,_,r | .t _,.str _,_,_,r | .t _,.lst _,_,_,r | .t _,.dct _ _ _,_,_,r=>by simp only [RepO] at r
 | .d,.non,_,_,r | .d,.bl _,_,_,r | .d,.int _,_,_,r | .d,.str _,_,_,r | .d,.tup _,_,_,r | .d,.lst _,_,_,r=>by simp only [RepO] at r
theorem RepT.mut:∀ {cs:List O} {ds:List D} {xs:List V} {fp:List Addr},RepT K G H cs ds xs fp→∀ p∈fp,∃ u,H p=some u∧isM u=true
 | [],[],_,_,r=>by
  simp only [RepT] at r
  rw [r.2]
  intro p hp
  cases hp
 | c :: cs,d :: ds,xs,fp,r=>by
  simp only [RepT] at r
  obtain ⟨y,ys,a,b,e1,e2,r1,r2⟩:=r
  subst e2
  intro z hz
  rcases List.mem_append.mp hz with hz | hz
  ·exact RepO.mut r1 z hz
  ·exact RepT.mut r2 z hz
 | [],_ :: _,_,_,r=>by simp only [RepT] at r
 | _ :: _,[],_,_,r=>by simp only [RepT] at r
end
noncomputable def RepE (K:W.Frag) (G H:Hp):Env→List (Option V)→List Addr→Prop
 | [],vs,fp=>vs=[]∧fp=[]
 | e :: es,vs,fp=>∃ y ys,vs=y :: ys∧match e with
  | none=>RepE K G H es ys fp
  | some r=>∃ v a b,y=some v∧fp=a++b∧RepO K G H r.1 r.2 v a∧RepE K G H es ys b
theorem RepE.step (h:Same G G'):∀ {es:Env} {vs:List (Option V)} {fp:List Addr},(∀ p∈fp,H' p=H p)→RepE K G H es vs fp→RepE K G' H' es vs fp
 | [],_,_,_,r=>r
 | none :: es,vs,fp,hk,r=>by
  obtain ⟨y,ys,e,r⟩:=r
  exact ⟨y,ys,e,RepE.step h hk r⟩
 | some r :: es,vs,fp,hk,q=>by
  obtain ⟨y,ys,e,v,a,b,e1,e2,r1,r2⟩:=q
  subst e2
  exact ⟨y,ys,e,v,a,b,e1,rfl,RepO.step h (fun p hp=>hk p (List.mem_append_left _ hp)) r1,RepE.step h (fun p hp=>hk p (List.mem_append_right _ hp)) r2⟩
theorem RepE.live:∀ {es:Env} {vs:List (Option V)} {fp:List Addr},RepE K G H es vs fp→∀ p∈fp,∃ u,H p=some u
 | [],_,_,r=>by
  rw [r.2]
  intro p hp
  cases hp
 | none :: es,vs,fp,r=>by
  obtain ⟨y,ys,e,r⟩:=r
  exact RepE.live r
 | some r :: es,vs,fp,q=>by
  obtain ⟨y,ys,e,v,a,b,e1,e2,r1,r2⟩:=q
  subst e2
  intro z hz
  rcases List.mem_append.mp hz with hz | hz
  ·exact r1.live z hz
  ·exact RepE.live r2 z hz
theorem RepE.mut:∀ {es:Env} {vs:List (Option V)} {fp:List Addr},RepE K G H es vs fp→∀ p∈fp,∃ u,H p=some u∧isM u=true
 | [],_,_,r=>by
  rw [r.2]
  intro p hp
  cases hp
 | none :: es,vs,fp,r=>by
  obtain ⟨y,ys,e,r⟩:=r
  exact RepE.mut r
 | some r :: es,vs,fp,q=>by
  obtain ⟨y,ys,e,v,a,b,e1,e2,r1,r2⟩:=q
  subst e2
  intro z hz
  rcases List.mem_append.mp hz with hz | hz
  ·exact r1.mut z hz
  ·exact RepE.mut r2 z hz
theorem RepE.length:∀ {es:Env} {vs:List (Option V)} {fp:List Addr},RepE K G H es vs fp→vs.length=es.length
 | [],_,_,r=>by rw [r.1];rfl
 | none :: es,vs,fp,r=>by
  obtain ⟨y,ys,e,r⟩:=r
  rw [e,List.length_cons,List.length_cons,RepE.length r]
 | some r :: es,vs,fp,q=>by
  obtain ⟨y,ys,e,v,a,b,e1,e2,r1,r2⟩:=q
  rw [e,List.length_cons,List.length_cons,RepE.length r2]
theorem RepE.take:∀ {es:Env} {vs:List (Option V)} {fp:List Addr} {i:Nat} {r:R},RepE K G H es vs fp→es[i]?=some (some r)→
  ∃ v a b,vs[i]?=some (some v)∧RepO K G H r.1 r.2 v a∧RepE K G H (es.set i none) vs b∧fp.Perm (a++b)
 | [],_,_,_,_,_,e=>by simp at e
 | none :: es,vs,fp,0,r,q,e=>by simp at e
 | some r' :: es,vs,fp,0,r,q,e=>by
  obtain ⟨y,ys,e0,v,a,b,e1,e2,r1,r2⟩:=q
  simp at e
  subst e
  subst e0
  subst e1
  exact ⟨v,a,b,rfl,r1,⟨some v,ys,rfl,r2⟩,by rw [e2]⟩
 | none :: es,vs,fp,i + 1,r,q,e=>by
  obtain ⟨y,ys,e0,q⟩:=q
  obtain ⟨v,a,b,g1,g2,g3,g4⟩:=RepE.take q (i:=i) (r:=r) (by simpa using e)
  subst e0
  exact ⟨v,a,b,by simpa using g1,g2,⟨y,ys,rfl,g3⟩,g4⟩
 | some r' :: es,vs,fp,i + 1,r,q,e=>by
  obtain ⟨y,ys,e0,v',a',b',e1,e2,r1,r2⟩:=q
  obtain ⟨v,a,b,g1,g2,g3,g4⟩:=RepE.take r2 (i:=i) (r:=r) (by simpa using e)
  subst e0
  refine ⟨v,a,a'++b,by simpa using g1,g2,⟨y,ys,rfl,v',a',b,e1,rfl,r1,g3⟩,?_⟩
  rw [e2]
  refine (List.Perm.append_left a' g4).trans ?_
  rw [←List.append_assoc,←List.append_assoc]
  exact List.Perm.append_right b List.perm_append_comm
theorem RepE.put:∀ {es:Env} {vs:List (Option V)} {b:List Addr} {i:Nat} {r:R} {v:V} {a:List Addr},RepE K G H es vs b→es[i]?=some none→RepO K G H r.1 r.2 v a→
  ∃ fp,RepE K G H (es.set i (some r)) (vs.set i (some v)) fp∧fp.Perm (a++b)
 | [],_,_,_,_,_,_,_,e,_=>by simp at e
 | none :: es,vs,b,0,r,v,a,q,e,ro=>by
  obtain ⟨y,ys,e0,q⟩:=q
  subst e0
  exact ⟨a++b,⟨some v,ys,rfl,v,a,b,rfl,rfl,ro,q⟩,.refl _⟩
 | some r' :: es,vs,b,0,r,v,a,q,e,ro=>by simp at e
 | none :: es,vs,b,i + 1,r,v,a,q,e,ro=>by
  obtain ⟨y,ys,e0,q⟩:=q
  obtain ⟨fp,g1,g2⟩:=RepE.put q (i:=i) (r:=r) (by simpa using e) ro
  subst e0
  exact ⟨fp,⟨y,_,rfl,g1⟩,g2⟩
 | some r' :: es,vs,b,i + 1,r,v,a,q,e,ro=>by
  obtain ⟨y,ys,e0,v',a',b',e1,e2,r1,r2⟩:=q
  obtain ⟨fp,g1,g2⟩:=RepE.put r2 (i:=i) (r:=r) (by simpa using e) ro
  subst e0
  refine ⟨a'++fp,⟨y,_,rfl,v',a',fp,e1,rfl,r1,g1⟩,?_⟩
  rw [e2]
  refine (List.Perm.append_left a' g2).trans ?_
  rw [←List.append_assoc,←List.append_assoc]
  exact List.Perm.append_right b' List.perm_append_comm
structure Rel (K:W.Frag) (G H:Hp) (es:Env) (vs:List (Option V)) (fp:List Addr):Prop where
 rep:RepE K G H es vs fp
 nd:fp.Nodup
 gn:∀ p∈fp,G p=none
 gh:Same G H
structure Step (G H:Hp) (fp:List Addr) (G' H':Hp) (fp':List Addr):Prop where
 gg:Same G G'
 keep:∀ q u,H q=some u→q∉fp→H' q=some u
 fpn:∀ q∈fp',q∈fp∨H q=none
 gnew:∀ q u,G' q=some u→G q=some u∨q∈fp∨H q=none∨isT u=true∧H q=some u
 there:∀ q u,H q=some u→∃ u',H' q=some u'
theorem Step.refl {fp:List Addr}:Step G H fp G H fp:=⟨.refl _,fun _ _ h _=>h,fun _ h=>.inl h,fun _ _ h=>.inl h,fun _ u h=>⟨u,h⟩⟩
theorem Step.trans {G1 H1 G2 H2:Hp} {fp fp1 fp2:List Addr} (a:Step G H fp G1 H1 fp1) (b:Step G1 H1 fp1 G2 H2 fp2):Step G H fp G2 H2 fp2:=by
 refine ⟨a.gg.trans b.gg,fun q u h n=>?_,fun q hq=>?_,fun q u hq=>?_,fun q u h=>?_⟩
 ·refine b.keep q u (a.keep q u h n) fun hq=>?_
  rcases a.fpn q hq with z | z
  ·exact n z
  ·rw [z] at h;cases h
 ·rcases b.fpn q hq with z | z
  ·exact a.fpn q z
  ·cases e:H q with
   | none=>exact .inr rfl
   | some u=>
    obtain ⟨u',e'⟩:=a.there q u e
    rw [z] at e';cases e'
 ·rcases b.gnew q u hq with z | z | z | ⟨t,z⟩
  ·exact a.gnew q u z
  ·exact .inr ((a.fpn q z).imp_right .inl)
  ·cases e:H q with
   | none=>exact .inr (.inr (.inl rfl))
   | some u=>
    obtain ⟨u',e'⟩:=a.there q u e
    rw [z] at e';cases e'
  ·cases e:H q with
   | none=>exact .inr (.inr (.inl rfl))
   | some u2=>
    by_cases hf:q∈fp
    ·exact .inr (.inl hf)
    ·rw [a.keep q u2 e hf] at z
     cases z
     exact .inr (.inr (.inr ⟨t,rfl⟩))
 ·obtain ⟨u',h'⟩:=a.there q u h
  exact b.there q u' h'
theorem Step.perm {fp fq fp' fq':List Addr} (a:Step G H fp G' H' fp') (h:∀ q,q∈fp↔q∈fq) (h':∀ q∈fq',q∈fp'):Step G H fq G' H' fq':=
 ⟨a.gg,fun q u e n=>a.keep q u e fun z=>n ((h q).mp z),fun q hq=>(a.fpn q (h' q hq)).imp_left (h q).mp,fun q u e=>(a.gnew q u e).imp_right (Or.imp_left (h q).mp),a.there⟩
theorem Step.wide {fp fq fp' fq':List Addr} (a:Step G H fp G' H' fp') (h:∀ q∈fp,q∈fq) (h':∀ q∈fq',q∈fp'∨q∈fq):Step G H fq G' H' fq':=
 ⟨a.gg,fun q u e n=>a.keep q u e fun z=>n (h q z),fun q hq=>(h' q hq).elim (fun z=>(a.fpn q z).imp_left (h q)) .inl,fun q u e=>(a.gnew q u e).imp_right (Or.imp_left (h q)),a.there⟩
theorem Rel.perm {es:Env} {vs:List (Option V)} {fp fq:List Addr} (r:RepE K G H es vs fq) (nd:fp.Nodup) (gn:∀ p∈fp,G p=none) (gh:Same G H) (h:fp.Perm fq):Rel K G H es vs fq:=
 ⟨r,h.nodup_iff.mp nd,fun p hp=>gn p (h.mem_iff.mpr hp),gh⟩
theorem Rel.frame {r:R} {v:V} {es:Env} {vs:List (Option V)} {fp:List Addr} (q:Rel K G H (some r :: es) (some v :: vs) fp) :
  ∃ a b,fp=a++b∧RepO K G H r.1 r.2 v a∧Rel K G H es vs b∧∀ (G' H':Hp) (es':Env) (vs':List (Option V)) (b':List Addr),Step G H b G' H' b'→Rel K G' H' es' vs' b'→
   Rel K G' H' (some r :: es') (some v :: vs') (a++b')∧Step G H (a++b) G' H' (a++b'):=by
 obtain ⟨y,ys,e,v',a,b,e1,e2,r1,r2⟩:=q.rep
 cases e
 cases e1
 subst e2
 have nd:=List.nodup_append.mp q.nd
 refine ⟨a,b,rfl,r1,⟨r2,nd.2.1,fun p hp=>q.gn p (List.mem_append_right _ hp),q.gh⟩,fun G' H' es' vs' b' st k=>?_⟩
 have nb:∀ p∈a,p∉b:=fun p hp hb=>nd.2.2 p hp p hb rfl
 have same:∀ p∈a,H' p=H p:=fun p hp=>by
  obtain ⟨u,hu⟩:=r1.live p hp
  rw [hu]
  exact st.keep p u hu (nb p hp)
 refine ⟨⟨⟨some v,vs',rfl,v,a,b',rfl,rfl,r1.step st.gg same,k.rep⟩,?_,fun p hp=>?_,k.gh⟩,st.wide (fun p hp=>List.mem_append_right _ hp) fun p hp=>?_⟩
 ·rw [List.nodup_append]
  refine ⟨nd.1,k.nd,fun p hp z hz e=>?_⟩
  subst e
  obtain ⟨u,hu⟩:=r1.live p hp
  rcases st.fpn p hz with z | z
  ·exact nb p hp z
  ·rw [z] at hu;cases hu
 ·rcases List.mem_append.mp hp with hp | hp
  ·cases e:G' p with
   | none=>rfl
   | some u=>
    exfalso
    obtain ⟨u',hu⟩:=r1.live p hp
    rcases st.gnew p u e with z | z | z | ⟨t,z⟩
    ·rw [q.gn p (List.mem_append_left _ hp)] at z;cases z
    ·exact nb p hp z
    ·rw [z] at hu;cases hu
    ·obtain ⟨u2,h2,hm⟩:=r1.mut p hp
     rw [z] at h2
     cases h2
     cases u with
     | tup _=>cases hm
     | frz _ _=>cases hm
     | _=>cases t
  ·exact k.gn p hp
 ·rcases List.mem_append.mp hp with hp | hp
  ·exact .inr (List.mem_append_left _ hp)
  ·exact .inl hp
theorem Rel.freeze {r:R} {v:V} {es:Env} {vs:List (Option V)} {fp:List Addr} (q:Rel K G H (some r :: es) (some v :: vs) fp) :
  ∃ G' b,Rep K G' r.2 v∧Rel K G' H es vs b∧Step G H fp G' H b:=by
 obtain ⟨y,ys,e,v',a,b,e1,e2,r1,r2⟩:=q.rep
 cases e
 cases e1
 subst e2
 have nd:=List.nodup_append.mp q.nd
 have nb:∀ p∈a,p∉b:=fun p hp hb=>nd.2.2 p hp p hb rfl
 have hg:Same G (fun p=>if p∈a then H p else G p):=fun p u e=>by
  show (if p∈a then H p else G p)=some u
  by_cases hp:p∈a
  ·rw [if_pos hp]
   exact q.gh p u e
  ·rw [if_neg hp]
   exact e
 refine ⟨fun p=>if p∈a then H p else G p,b,r1.frozen hg fun p hp u e=>?_,⟨r2.step hg fun _ _=>rfl,nd.2.1,fun p hp=>?_,fun p u e=>?_⟩,⟨hg,fun _ _ e _=>e,fun p hp=>.inl (List.mem_append_right _ hp),fun p u e=>?_,fun _ u e=>⟨u,e⟩⟩⟩
 ·show (if p∈a then H p else G p)=some u
  rw [if_pos hp]
  exact e
 ·show (if p∈a then H p else G p)=none
  rw [if_neg (fun z=>nb p z hp)]
  exact q.gn p (List.mem_append_right _ hp)
 ·have e:(if p∈a then H p else G p)=some u:=e
  by_cases hp:p∈a
  ·rw [if_pos hp] at e
   exact e
  ·rw [if_neg hp] at e
   exact q.gh p u e
 ·have e:(if p∈a then H p else G p)=some u:=e
  by_cases hp:p∈a
  ·exact .inr (.inl (List.mem_append_left _ hp))
  ·rw [if_neg hp] at e
   exact .inl e
end
section
variable {K:W.Frag} {G G' H H':Hp} {es:Env} {vs:List (Option V)} {fp:List Addr}
theorem oU:∀ {ds:List D} {xs:List V} {fp:List Addr},AllO (RepO K G H .f) ds xs fp↔Reps K G ds xs∧fp=[]
 | [],xs,fp=>by simp only [AllO,Reps]
 | d :: ds,xs,fp=>by
  simp only [AllO,Reps,RepO]
  constructor
  ·rintro ⟨y,ys,a,b,e1,e2,⟨r,e3⟩,q⟩
   obtain ⟨q1,q2⟩:=oU.mp q
   subst e3
   subst q2
   exact ⟨⟨y,ys,e1,r,q1⟩,e2⟩
  ·rintro ⟨⟨y,ys,e1,r,q1⟩,e⟩
   exact ⟨y,ys,[],[],e1,e,⟨r,rfl⟩,oU.mpr ⟨q1,rfl⟩⟩
theorem jz {d:D} {v:V} {a:List Addr}:RepO K G H .f d v a↔Rep K G d v∧a=[]:=by simp only [RepO]
theorem cG {ds:List D} {v:V} {a:List Addr}:RepO K G H (.l .f) (.lst ds) v a↔∃ p xs,v=.ref p∧H p=some (.lst xs)∧a=[p]∧Reps K G ds xs:=by
 rw [RepO]
 constructor
 ·rintro ⟨p,xs,b,e,q,e2,r⟩
  obtain ⟨r',eb⟩:=oU.mp r
  subst eb
  exact ⟨p,xs,e,q,e2,r'⟩
 ·rintro ⟨p,xs,e,q,e2,r⟩
  exact ⟨p,xs,[],e,q,e2,oU.mpr ⟨r,rfl⟩⟩
theorem Reps.length:∀ {ds:List D} {xs:List V},Reps K G ds xs→xs.length=ds.length
 | [],xs,r=>by simp only [Reps] at r;rw [r];rfl
 | d :: ds,xs,r=>by
  simp only [Reps] at r
  obtain ⟨y,ys,e,_,q⟩:=r
  rw [e,List.length_cons,List.length_cons,Reps.length q]
theorem Reps.get:∀ {ds:List D} {xs:List V} {i:Nat} {d:D},Reps K G ds xs→ds[i]?=some d→∃ v,xs[i]?=some v∧Rep K G d v
 | [],_,_,_,_,e=>by simp at e
 | d' :: ds,xs,0,d,r,e=>by
  simp only [Reps] at r
  obtain ⟨y,ys,e1,q,_⟩:=r
  simp at e
  subst e
  exact ⟨y,by rw [e1];rfl,q⟩
 | d' :: ds,xs,i + 1,d,r,e=>by
  simp only [Reps] at r
  obtain ⟨y,ys,e1,_,q⟩:=r
  obtain ⟨v,a,b⟩:=Reps.get q (i:=i) (d:=d) (by simpa using e)
  exact ⟨v,by rw [e1];simpa using a,b⟩
theorem Reps.app:∀ {ds es:List D} {xs ys:List V},Reps K G ds xs→Reps K G es ys→Reps K G (ds++es) (xs++ys)
 | [],_,_,_,r,q=>by simp only [Reps] at r;rw [r];exact q
 | d :: ds,es,xs,ys,r,q=>by
  simp only [Reps] at r
  obtain ⟨z,zs,e,r1,r2⟩:=r
  rw [e]
  simp only [List.cons_append,Reps]
  exact ⟨z,_,rfl,r1,r2.app q⟩
theorem Reps.one {d:D} {v:V} (r:Rep K G d v):Reps K G [d] [v]:=by
 simp only [Reps]
 exact ⟨v,[],rfl,r,rfl⟩
theorem Reps.nil:Reps K G [] []:=by simp only [Reps]
theorem Reps.cons {d:D} {v:V} {ds:List D} {xs:List V} (r:Rep K G d v) (q:Reps K G ds xs):Reps K G (d :: ds) (v :: xs):=by
 simp only [Reps]
 exact ⟨v,xs,rfl,r,q⟩
theorem Reps.cons_iff {d:D} {v:V} {ds:List D} {xs:List V}:Reps K G (d :: ds) (v :: xs)↔Rep K G d v∧Reps K G ds xs:=by
 simp only [Reps]
 constructor
 ·rintro ⟨y,ys,e,r,q⟩
  cases e
  exact ⟨r,q⟩
 ·rintro ⟨r,q⟩
  exact ⟨v,xs,rfl,r,q⟩
theorem Reps.take:∀ {ds:List D} {xs:List V} (n:Nat),Reps K G ds xs→Reps K G (ds.take n) (xs.take n)
 | _,_,0,_=>by rw [List.take_zero,List.take_zero];exact Reps.nil
 | [],xs,n + 1,r=>by simp only [Reps] at r;rw [r];exact Reps.nil
 | d :: ds,xs,n + 1,r=>by
  simp only [Reps] at r
  obtain ⟨y,ys,e,r1,r2⟩:=r
  rw [e,List.take_succ_cons,List.take_succ_cons]
  exact .cons r1 (r2.take n)
theorem Reps.drop:∀ {ds:List D} {xs:List V} (n:Nat),Reps K G ds xs→Reps K G (ds.drop n) (xs.drop n)
 | _,_,0,r=>r
 | [],xs,n + 1,r=>by simp only [Reps] at r;rw [r];exact Reps.nil
 | d :: ds,xs,n + 1,r=>by
  simp only [Reps] at r
  obtain ⟨y,ys,e,r1,r2⟩:=r
  rw [e,List.drop_succ_cons,List.drop_succ_cons]
  exact r2.drop n
theorem Reps.set:∀ {ds:List D} {xs:List V} (n:Nat) {d:D} {v:V},Reps K G ds xs→Rep K G d v→Reps K G (ds.set n d) (xs.set n v)
 | [],xs,n,d,v,r,q=>by simp only [Reps] at r;rw [r];exact Reps.nil
 | d' :: ds,xs,0,d,v,r,q=>by
  simp only [Reps] at r
  obtain ⟨y,ys,e,r1,r2⟩:=r
  rw [e]
  exact .cons q r2
 | d' :: ds,xs,n + 1,d,v,r,q=>by
  simp only [Reps] at r
  obtain ⟨y,ys,e,r1,r2⟩:=r
  rw [e]
  exact .cons r1 (r2.set n q)
theorem Step.cut {fq:List Addr} (h:∀ q∈fq,q∈fp):Step G H fp G H fq:=⟨.refl _,fun _ _ e _=>e,fun q hq=>.inl (h q hq),fun _ _ e=>.inl e,fun _ u e=>⟨u,e⟩⟩
theorem Rel.drop {r:R} {y:Option V} (q:Rel K G H (some r :: es) (y :: vs) fp):∃ b,Rel K G H es vs b∧Step G H fp G H b:=by
 obtain ⟨y,ys,e,v',a,b,e1,e2,r1,r2⟩:=q.rep
 cases e
 cases e1
 subst e2
 have nd:=List.nodup_append.mp q.nd
 exact ⟨b,⟨r2,nd.2.1,fun p hp=>q.gn p (List.mem_append_right _ hp),q.gh⟩,Step.cut fun p hp=>List.mem_append_right _ hp⟩
theorem Rel.top {r:R} {v:V} (q:Rel K G H (some r :: es) (some v :: vs) fp):Rep K H r.2 v:=by
 obtain ⟨y,ys,e,v',a,b,e1,e2,r1,r2⟩:=q.rep
 cases e
 cases e1
 exact r1.frozen q.gh fun p hp u e=>e
theorem Rel.out {i:Nat} {r:R} (q:Rel K G H es vs fp) (e:es[i]?=some (some r)):∃ v fq,vs[i]?=some (some v)∧Rel K G H (some r :: es.set i none) (some v :: vs) fq∧Step G H fp G H fq∧Step G H fq G H fp:=by
 obtain ⟨v,a,b,e1,r1,r2,pm⟩:=q.rep.take e
 exact ⟨v,a++b,e1,Rel.perm ⟨some v,vs,rfl,v,a,b,rfl,rfl,r1,r2⟩ q.nd q.gn q.gh pm,Step.cut fun p hp=>pm.mem_iff.mpr hp,Step.cut fun p hp=>pm.mem_iff.mp hp⟩
theorem Rel.view {i:Nat} {r:R} (q:Rel K G H es vs fp) (e:es[i]?=some (some r)):∃ v,vs[i]?=some (some v)∧Rep K H r.2 v:=by
 obtain ⟨v,fq,e1,r1,_⟩:=q.out e
 exact ⟨v,e1,r1.top⟩
theorem ji {α:Type} {l:List α} {i:Nat} {x:α} (h:l[i]?=some x):l.set i x=l:=by
 apply List.ext_getElem?
 intro j
 by_cases e:i=j
 ·subst e
  rw [List.getElem?_set_self (List.getElem?_eq_some_iff.mp h).1,h]
 ·rw [List.getElem?_set_ne e]
theorem Rel.store {i:Nat} {r:R} {v:V} (q:Rel K G H (some r :: es) (some v :: vs) fp) (hi:i < es.length):∃ fq,Rel K G H (es.set i (some r)) (vs.set i (some v)) fq∧Step G H fp G H fq:=by
 obtain ⟨y,ys,e,v',a,b,e1,e2,r1,r2⟩:=q.rep
 cases e
 cases e1
 subst e2
 obtain ⟨c,hc⟩:∃ c,es[i]?=some c:=⟨_,List.getElem?_eq_getElem hi⟩
 have nd:=List.nodup_append.mp q.nd
 have key:∃ b',RepE K G H (es.set i none) vs b'∧(∀ p∈b',p∈b)∧b'.Nodup:=by
  cases c with
  | none=>exact ⟨b,by rw [ji hc];exact r2,fun _ h=>h,nd.2.1⟩
  | some r'=>
   obtain ⟨v2,a2,b2,_,_,g,pm⟩:=r2.take hc
   refine ⟨b2,g,fun p hp=>pm.mem_iff.mpr (List.mem_append_right _ hp),?_⟩
   exact (List.nodup_append.mp (pm.nodup_iff.mp nd.2.1)).2.1
 obtain ⟨b',g,sub,ndb⟩:=key
 obtain ⟨fq,g2,pm⟩:=g.put (i:=i) (r:=r) (v:=v) (by rw [List.getElem?_set_self hi]) r1
 rw [List.set_set] at g2
 have hnd:(a++b').Nodup:=by
  rw [List.nodup_append]
  exact ⟨nd.1,ndb,fun p hp z hz=>nd.2.2 p hp z (sub z hz)⟩
 refine ⟨fq,Rel.perm g2 hnd (fun p hp=>?_) q.gh pm.symm,Step.cut fun p hp=>?_⟩
 ·refine q.gn p ?_
  rcases List.mem_append.mp hp with hp | hp
  ·exact List.mem_append_left _ hp
  ·exact List.mem_append_right _ (sub p hp)
 ·rcases List.mem_append.mp (pm.mem_iff.mp hp) with hp | hp
  ·exact List.mem_append_left _ hp
  ·exact List.mem_append_right _ (sub p hp)
theorem Rel.back {i:Nat} {r:R} {v:V} (q:Rel K G H (some r :: es) (some v :: vs) fp) (hi:i < es.length) (hv:vs[i]?=some (some v)):∃ fq,Rel K G H (es.set i (some r)) vs fq∧Step G H fp G H fq:=by
 obtain ⟨fq,g,st⟩:=q.store hi
 rw [ji hv] at g
 exact ⟨fq,g,st⟩
theorem Rel.freezeAt {i:Nat} {r:R} (q:Rel K G H es vs fp) (e:es[i]?=some (some r)):∃ v G' fq,vs[i]?=some (some v)∧Rep K G' r.2 v∧Rel K G' H (es.set i (some (.f,r.2))) vs fq∧Step G H fp G' H fq:=by
 obtain ⟨v,fq,ev,g,st,_⟩:=q.out e
 obtain ⟨G',b,rv,g2,st2⟩:=g.freeze
 have g3:Rel K G' H (some (.f,r.2) :: es.set i none) (some v :: vs) b:=by
  refine ⟨⟨some v,vs,rfl,v,[],b,rfl,rfl,?_,g2.rep⟩,g2.nd,g2.gn,g2.gh⟩
  exact jz.mpr ⟨rv,rfl⟩
 obtain ⟨fz,g4,st4⟩:=g3.back (i:=i) (by rw [List.length_set];exact (List.getElem?_eq_some_iff.mp e).1) ev
 rw [List.set_set] at g4
 exact ⟨v,G',fz,ev,rv,g4,st.trans (st2.trans st4)⟩
theorem Rel.push {d:D} {v:V} (q:Rel K G H es vs fp) (r:Rep K G d v):Rel K G H (some (.f,d) :: es) (some v :: vs) fp:=by
 refine ⟨⟨some v,vs,rfl,v,[],fp,rfl,rfl,?_,q.rep⟩,q.nd,q.gn,q.gh⟩
 exact jz.mpr ⟨r,rfl⟩
theorem Rel.newF {p:Addr} {u:HO} (q:Rel K G H es vs fp) (hp:H p=none):Rel K (upd G p u) (upd H p u) es vs fp∧Step G H fp (upd G p u) (upd H p u) fp:=by
 have gp:G p=none:=by
  cases e:G p with
  | none=>rfl
  | some o=>rw [q.gh p o e] at hp;cases hp
 have np:p∉fp:=fun z=>by
  obtain ⟨u,e⟩:=q.rep.live p z
  rw [hp] at e;cases e
 have sg:Same G (upd G p u):=fun b o e=>by rw [aG (aU e gp)];exact e
 have sh:Same H (upd H p u):=fun b o e=>by rw [aG (aU e hp)];exact e
 refine ⟨⟨q.rep.step sg fun z hz=>aG fun e=>np (e▸hz),q.nd,fun z hz=>?_,fun b o e=>?_⟩,⟨sg,fun b o e _=>sh b o e,fun _ h=>.inl h,fun b o e=>?_,fun b o e=>⟨o,sh b o e⟩⟩⟩
 ·have:z≠p:=fun e=>np (e▸hz)
  rw [aG this]
  exact q.gn z hz
 ·by_cases hb:b=p
  ·subst hb
   rw [bj] at e ⊢
   exact e
  ·rw [aG hb] at e ⊢
   exact q.gh b o e
 ·by_cases hb:b=p
  ·subst hb
   exact .inr (.inr (.inl hp))
  ·rw [aG hb] at e
   exact .inl e
theorem Rel.newL {p:Addr} {ds:List D} {xs:List V} (q:Rel K G H es vs fp) (hp:H p=none) (r:Reps K G ds xs) :
  Rel K G (upd H p (.lst xs)) (some (.l .f,.lst ds) :: es) (some (.ref p) :: vs) (p :: fp)∧Step G H fp G (upd H p (.lst xs)) (p :: fp):=by
 have gp:G p=none:=by
  cases e:G p with
  | none=>rfl
  | some o=>rw [q.gh p o e] at hp;cases hp
 have np:p∉fp:=fun z=>by
  obtain ⟨u,e⟩:=q.rep.live p z
  rw [hp] at e;cases e
 have sh:Same H (upd H p (.lst xs)):=fun b o e=>by rw [aG (aU e hp)];exact e
 refine ⟨⟨⟨some (.ref p),vs,rfl,.ref p,[p],fp,rfl,rfl,cG.mpr ⟨p,xs,rfl,bj,rfl,r⟩,q.rep.step (.refl _) fun z hz=>aG fun e=>np (e▸hz)⟩,List.nodup_cons.mpr ⟨np,q.nd⟩,fun z hz=>?_,fun b o e=>?_⟩,
  ⟨.refl _,fun b o e _=>sh b o e,fun b hb=>?_,fun b o e=>.inl e,fun b o e=>⟨o,sh b o e⟩⟩⟩
 ·rcases List.mem_cons.mp hz with rfl | hz
  ·exact gp
  ·exact q.gn z hz
 ·exact sh b o (q.gh b o e)
 ·rcases List.mem_cons.mp hb with rfl | hb
  ·exact .inr hp
  ·exact .inl hb
theorem Rel.chg {i:Nat} {ds ds':List D} (q:Rel K G H es vs fp) (e:es[i]?=some (some (.l .f,.lst ds))):∃ p xs,vs[i]?=some (some (.ref p))∧H p=some (.lst xs)∧Reps K G ds xs∧
  ∀ xs',Reps K G ds' xs'→∃ fq,Rel K G (upd H p (.lst xs')) (es.set i (some (.l .f,.lst ds'))) vs fq∧Step G H fp G (upd H p (.lst xs')) fq:=by
 obtain ⟨v,fq,ev,g,st,st'⟩:=q.out e
 obtain ⟨y,ys,e0,v',a,b,e1,e2,r1,r2⟩:=g.rep
 cases e0
 cases e1
 obtain ⟨p,xs,e3,hp,e4,rs⟩:=cG.mp r1
 subst e3
 subst e4
 subst e2
 have nd:=List.nodup_cons.mp (show (p :: b).Nodup from g.nd)
 refine ⟨p,xs,ev,hp,rs,fun xs' rs'=>?_⟩
 have g2:Rel K G (upd H p (.lst xs')) (some (.l .f,.lst ds') :: es.set i none) (some (.ref p) :: vs) (p :: b):=by
  refine ⟨⟨some (.ref p),vs,rfl,.ref p,[p],b,rfl,rfl,cG.mpr ⟨p,xs',rfl,bj,rfl,rs'⟩,r2.step (.refl _) fun z hz=>aG fun e=>nd.1 (e▸hz)⟩,g.nd,g.gn,fun z o ez=>?_⟩
  have:z≠p:=fun w=>by
   subst w
   rw [g.gn z List.mem_cons_self] at ez;cases ez
  rw [aG this]
  exact g.gh z o ez
 have stc:Step G H (p :: b) G (upd H p (.lst xs')) (p :: b):=by
  refine ⟨.refl _,fun z o ez nz=>?_,fun z hz=>.inl hz,fun z o ez=>.inl ez,fun z o ez=>?_⟩
  ·have:z≠p:=fun w=>nz (by rw [w];exact List.mem_cons_self)
   rw [aG this]
   exact ez
  ·by_cases w:z=p
   ·subst w
    exact ⟨_,bj⟩
   ·exact ⟨o,by rw [aG w];exact ez⟩
 obtain ⟨fz,g3,st3⟩:=g2.back (i:=i) (by rw [List.length_set];exact (List.getElem?_eq_some_iff.mp e).1) ev
 rw [List.set_set] at g3
 exact ⟨fz,g3,st.trans (stc.trans st3)⟩
end
mutual
noncomputable def cH:D→Bool
 | .tup ds=>flatDs ds
 | .lst _=>false
 | .dct _ _ _=>false
 | _=>true
noncomputable def flatDs:List D→Bool
 | []=>true
 | d :: ds=>cH d && flatDs ds
end
mutual
noncomputable def a8:O→D→Bool
 | .f,d=>cH d
 | .l c,.lst ds=>ds.all (a8 c)
 | .t cs,.tup ds=>oV cs ds
 | .d,.dct _ _ vs=>flatDs vs
 | .pin _ c,d=>a8 c d
 | _,_=>false
noncomputable def oV:List O→List D→Bool
 | [],[]=>true
 | c :: cs,d :: ds=>a8 c d && oV cs ds
 | _,_=>false
end
noncomputable def frz:Option R→Option R:=Option.map fun r=>(.f,r.2)
theorem bC:∀ ds,flatDs ds=ds.all cH
 | []=>rfl
 | d :: ds=>by rw [flatDs,List.all_cons,bC ds]
section
variable {K:W.Frag} {G G' G2 G3 H H' H2:Hp} {es:Env} {vs:List (Option V)} {fp:List Addr}
mutual
theorem Rep.flat (h:∀ p u,isT u=true→G2 p=some u→G3 p=some u):∀ {d:D} {v:V},cH d=true→Rep K G2 d v→Rep K G3 d v
 | .non,_,_,r=>by simpa only [Rep] using r
 | .bl _,_,_,r=>by simpa only [Rep] using r
 | .int _,_,_,r=>by simpa only [Rep] using r
 | .str _,_,_,r=>by simpa only [Rep] using r
 | .tup ds,_,e,r=>by
  simp only [Rep] at r ⊢
  simp only [cH] at e
  obtain ⟨p,xs,ev,q,rs⟩:=r
  exact ⟨p,xs,ev,h _ _ rfl q,Reps.flat h e rs⟩
 | .lst ds,_,e,r=>by simp only [cH] at e;cases e
 | .dct _ _ _,_,e,r=>by simp only [cH] at e;cases e
theorem Reps.flat (h:∀ p u,isT u=true→G2 p=some u→G3 p=some u):∀ {ds:List D} {xs:List V},flatDs ds=true→Reps K G2 ds xs→Reps K G3 ds xs
 | [],_,_,r=>by simpa only [Reps] using r
 | d :: ds,_,e,r=>by
  simp only [Reps] at r ⊢
  simp only [flatDs,Bool.and_eq_true] at e
  obtain ⟨y,ys,ev,r1,r2⟩:=r
  exact ⟨y,ys,ev,Rep.flat h e.1 r1,Reps.flat h e.2 r2⟩
end
theorem AllO.clean {P P':D→V→List Addr→Prop} {c:D→Bool}:∀ {ds:List D} {xs:List V} {fp:List Addr},(∀ d v a,c d=true→P d v a→P' d v a)→ds.all c=true→AllO P ds xs fp→AllO P' ds xs fp
 | [],_,_,_,_,r=>r
 | d :: ds,xs,fp,h,e,r=>by
  obtain ⟨y,ys,a,b,e1,e2,p,q⟩:=r
  rw [List.all_cons,Bool.and_eq_true] at e
  exact ⟨y,ys,a,b,e1,e2,h _ _ _ e.1 p,AllO.clean h e.2 q⟩
mutual
theorem RepO.clean (h:∀ p u,isT u=true→G2 p=some u→G3 p=some u):∀ {o:O} {d:D} {v:V} {fp:List Addr},a8 o d=true→RepO K G2 H o d v fp→RepO K G3 H o d v fp
 | .f,d,v,fp,e,r=>by
  simp only [RepO] at r ⊢
  simp only [a8] at e
  exact ⟨r.1.flat h e,r.2⟩
 | .pin p c,d,v,fp,e,r=>by
  simp only [RepO] at r ⊢
  simp only [a8] at e
  exact ⟨r.1,RepO.clean h e r.2⟩
 | .l c,.lst ds,v,fp,e,r=>by
  rw [RepO] at r ⊢
  rw [a8] at e
  obtain ⟨p,xs,fp',ev,q,e2,a⟩:=r
  exact ⟨p,xs,fp',ev,q,e2,AllO.clean (fun d v a=>RepO.clean h) e a⟩
 | .t cs,.tup ds,v,fp,e,r=>by
  rw [RepO] at r ⊢
  rw [a8] at e
  obtain ⟨p,xs,ev,q,a⟩:=r
  exact ⟨p,xs,ev,h _ _ rfl q,RepT.clean h e a⟩
 | .d,.dct tk ks vs,v,fp,e,r=>by
  rw [RepO] at r ⊢
  rw [a8] at e
  obtain ⟨p,xs,o,ev,q,dd,e2,rs⟩:=r
  exact ⟨p,xs,o,ev,q,dd,e2,rs.flat h e⟩
 | .l _,.non,_,_,_,r | .l _,.bl _,_,_,_,r | .l _,.int _,_,_,_,r | .l _,.str _,_,_,_,r | .l _,.tup _,_,_,_,r | .l _,.dct _ _ _,_,_,_,r=>by simp only [RepO] at r
 | .t _,.non,_,_,_,r | .t _,.bl _,_,_,_,r | .t _,.int _,_,_,_,r | .t _,.str _,_,_,_,r | .t _,.lst _,_,_,_,r | .t _,.dct _ _ _,_,_,_,r=>by simp only [RepO] at r
 | .d,.non,_,_,_,r | .d,.bl _,_,_,_,r | .d,.int _,_,_,_,r | .d,.str _,_,_,_,r | .d,.tup _,_,_,_,r | .d,.lst _,_,_,_,r=>by simp only [RepO] at r
theorem RepT.clean (h:∀ p u,isT u=true→G2 p=some u→G3 p=some u):∀ {cs:List O} {ds:List D} {xs:List V} {fp:List Addr},oV cs ds=true→RepT K G2 H cs ds xs fp→RepT K G3 H cs ds xs fp
 | [],[],_,_,_,r=>by simpa only [RepT] using r
 | c :: cs,d :: ds,xs,fp,e,r=>by
  rw [RepT] at r ⊢
  rw [oV,Bool.and_eq_true] at e
  obtain ⟨y,ys,a,b,e1,e2,r1,r2⟩:=r
  exact ⟨y,ys,a,b,e1,e2,RepO.clean h e.1 r1,RepT.clean h e.2 r2⟩
 | [],_ :: _,_,_,_,r=>by simp only [RepT] at r
 | _ :: _,[],_,_,_,r=>by simp only [RepT] at r
end
theorem RepE.frz (h:Same G G'):∀ {es:Env} {vs:List (Option V)} {fp:List Addr},(∀ p∈fp,∀ u,H p=some u→G' p=some u)→RepE K G H es vs fp→RepE K G' H' (es.map PV.frz) vs []
 | [],_,_,_,r=>⟨r.1,rfl⟩
 | none :: es,vs,fp,hk,r=>by
  obtain ⟨y,ys,e,r⟩:=r
  exact ⟨y,ys,e,RepE.frz h hk r⟩
 | some r :: es,vs,fp,hk,q=>by
  obtain ⟨y,ys,e,v,a,b,e1,e2,r1,r2⟩:=q
  subst e2
  exact ⟨y,ys,e,v,[],[],e1,rfl,jz.mpr ⟨r1.frozen h (fun p hp=>hk p (List.mem_append_left _ hp)),rfl⟩,RepE.frz h (fun p hp=>hk p (List.mem_append_right _ hp)) r2⟩
theorem RepE.rep (h:Same G G'):∀ {es:Env} {vs:List (Option V)} {fp:List Addr} {i:Nat} {r:R} {v:V},(∀ p∈fp,∀ u,H p=some u→G' p=some u)→RepE K G H es vs fp→es[i]?=some (some r)→vs[i]?=some (some v)→Rep K G' r.2 v:=fun {es vs fp i r v} hk q e ev=>by
 obtain ⟨v',a,b,e1,r1,_,pm⟩:=q.take e
 rw [ev] at e1
 cases e1
 exact r1.frozen h fun p hp=>hk p (pm.mem_iff.mpr (List.mem_append_left _ hp))
theorem Rel.lend (q:Rel K G H es vs fp):∃ G1,Same G G1∧Same G1 H∧(∀ (i:Nat) (r:R) (v:V),es[i]?=some (some r)→vs[i]?=some (some v)→Rep K G1 r.2 v)∧
  RepE K G1 H (es.map PV.frz) vs []∧
  ∀ (H2 G2:Hp) (fp2:List Addr) (r:R) (v:V),Step G1 H [] G2 H2 fp2→Rel K G2 H2 [some r] [some v] fp2→
   (a8 r.1 r.2=true→∃ G3 fp3,Step G H fp G3 H2 fp3∧Rel K G3 H2 (some r :: es) (some v :: vs) fp3)∧
   ∃ G3 fp3,Step G H fp G3 H2 fp3∧Rel K G3 H2 (some r :: es.map PV.frz) (some v :: vs) fp3:=by
 have hg:Same G (fun p=>if p∈fp then H p else G p):=fun p u e=>by
  show (if p∈fp then H p else G p)=some u
  by_cases hp:p∈fp
  ·rw [if_pos hp]
   exact q.gh p u e
  ·rw [if_neg hp]
   exact e
 have hh:Same (fun p=>if p∈fp then H p else G p) H:=fun p u e=>by
  have e:(if p∈fp then H p else G p)=some u:=e
  by_cases hp:p∈fp
  ·rw [if_pos hp] at e
   exact e
  ·rw [if_neg hp] at e
   exact q.gh p u e
 have hk:∀ p∈fp,∀ u,H p=some u→(fun p=>if p∈fp then H p else G p) p=some u:=fun p hp u e=>by
  show (if p∈fp then H p else G p)=some u
  rw [if_pos hp]
  exact e
 refine ⟨fun p=>if p∈fp then H p else G p,hg,hh,fun i r v e ev=>q.rep.rep hg hk e ev,q.rep.frz hg hk,fun H2 G2 fp2 r v st k=>?_⟩
 obtain ⟨y,ys,e0,v',a,b,e1,e2,r1,r2⟩:=k.rep
 cases e0
 cases e1
 obtain ⟨_,e3⟩:=r2
 subst e3
 rw [List.append_nil] at e2
 subst e2
 have fresh:∀ p∈fp2,H p=none:=fun p hp=>by
  rcases st.fpn p hp with z | z
  ·cases z
  ·exact z
 have kept:∀ p∈fp,H2 p=H p:=fun p hp=>by
  obtain ⟨u,hu⟩:=q.rep.live p hp
  rw [hu]
  exact st.keep p u hu (by simp)
 refine ⟨fun cl=>?_,⟨G2,fp2,⟨hg.trans st.gg,fun p u e n=>st.keep p u e (by simp),fun p hp=>.inr (fresh p hp),fun p u e=>?_,st.there⟩,?_⟩⟩
 ·have apart:∀ p∈fp2,p∉fp:=fun p hp hf=>by
   obtain ⟨u,hu⟩:=q.rep.live p hf
   rw [fresh p hp] at hu;cases hu
  have g3:Same G (fun p=>if p∈fp then none else G2 p):=fun p u e=>by
   show (if p∈fp then none else G2 p)=some u
   rw [if_neg (fun z=>by rw [q.gn p z] at e;cases e)]
   exact st.gg p u (hg p u e)
  refine ⟨fun p=>if p∈fp then none else G2 p,fp2++fp,⟨g3,fun p u e n=>st.keep p u e (by simp),fun p hp=>?_,fun p u e=>?_,st.there⟩,⟨⟨some v,vs,rfl,v,fp2,fp,rfl,rfl,r1.clean (fun p u t e=>?_) cl,q.rep.step g3 kept⟩,?_,fun p hp=>?_,fun p u e=>?_⟩⟩
  ·rcases List.mem_append.mp hp with hp | hp
   ·exact .inr (fresh p hp)
   ·exact .inl hp
  ·have e:(if p∈fp then none else G2 p)=some u:=e
   by_cases hp:p∈fp
   ·rw [if_pos hp] at e;cases e
   ·rw [if_neg hp] at e
    rcases st.gnew p u e with z | z | z
    ·have z:(if p∈fp then H p else G p)=some u:=z
     rw [if_neg hp] at z
     exact .inl z
    ·cases z
    ·exact .inr (.inr z)
  ·show (if p∈fp then none else G2 p)=some u
   by_cases hp:p∈fp
   ·exfalso
    obtain ⟨u',hu,hm⟩:=q.rep.mut p hp
    have:=st.gg p u' (hk p hp u' hu)
    rw [e] at this
    cases this
    cases u with
    | lst _=>cases t
    | dK _=>cases t
    | dT _=>cases t
    | _=>cases hm
   ·rw [if_neg hp]
    exact e
  ·rw [List.nodup_append]
   exact ⟨k.nd,q.nd,fun p hp z hz e=>apart p hp (e▸hz)⟩
  ·show (if p∈fp then none else G2 p)=none
   by_cases hf:p∈fp
   ·rw [if_pos hf]
   ·rw [if_neg hf]
    rcases List.mem_append.mp hp with hp | hp
    ·exact k.gn p hp
    ·exact absurd hp hf
  ·have e:(if p∈fp then none else G2 p)=some u:=e
   by_cases hp:p∈fp
   ·rw [if_pos hp] at e;cases e
   ·rw [if_neg hp] at e
    exact k.gh p u e
 ·rcases st.gnew p u e with z | z | z
  ·have z:(if p∈fp then H p else G p)=some u:=z
   by_cases hp:p∈fp
   ·exact .inr (.inl hp)
   ·rw [if_neg hp] at z
    exact .inl z
  ·cases z
  ·exact .inr (.inr z)
 ·refine ⟨⟨some v,vs,rfl,v,fp2,[],rfl,(List.append_nil _).symm,r1,q.rep.frz (hg.trans st.gg) fun p hp u e=>st.gg p u (hk p hp u e)⟩,k.nd,k.gn,k.gh⟩
end
end PV
namespace PV
open PySem PySem.Spec PyProof.Rows L2 NX
noncomputable def Res.bind {α β:Type}:Res α→(α→Res β)→Res β
 | .ok a,f=>f a
 | .exc c,_=>.exc c
 | .bad,_=>.bad
inductive BindOk {α β:Type} (x:Res α) (f:α→Res β) (b:β):Prop
 | mk (a:α) (h:x=.ok a) (k:f a=.ok b):BindOk x f b
theorem aj {α β:Type} {x:Res α} {f:α→Res β} {b:β} (h:x.bind f=.ok b):BindOk x f b:=by
 cases x with
 | ok a=>exact ⟨a,rfl,h⟩
 | exc c=>cases h
 | bad=>cases h
inductive Opd where
 | val (d:D) | var (i:Nat)
noncomputable def OpdOk (K:W.Frag) (G:Hp) (σ:L2.St):Opd→V→Prop
 | .val d,v=>Rep K G d v
 | .var i,v=>σ[i]?=some (some v)
theorem OpdOk.mono {K:W.Frag} {G G':Hp} {σ:L2.St} {o:Opd} {v:V} (h:Same G G') (r:OpdOk K G σ o v):OpdOk K G' σ o v:=by
 cases o with
 | val d=>exact Rep.mono h r
 | var i=>exact r
noncomputable def oW (K:W.Frag) (G:Hp) (σ:L2.St):List Opd→List V→Prop
 | [],vs=>vs=[]
 | o :: os,vs=>∃ y ys,vs=y :: ys∧OpdOk K G σ o y∧oW K G σ os ys
noncomputable def tL:O→Bool
 | .f=>true
 | .l .f=>true
 | .d=>true
 | .pin _ .f=>true
 | .pin _ (.l .f)=>true
 | .pin _ .d=>true
 | _=>false
noncomputable def der (env:PV.Env):Opd→Res D
 | .val d=>.ok d
 | .var i=>match env[i]? with
  | some (some r)=>if tL r.1 then .ok r.2 else .bad
  | _=>.bad
noncomputable def p6 (env:PV.Env):Opd→Res D
 | .val d=>.ok d
 | .var i=>match env[i]? with
  | some (some r)=>.ok r.2
  | _=>.bad
noncomputable def lO (env:PV.Env):List Opd→Res (List D)
 | []=>.ok []
 | o :: os=>(der env o).bind fun d=>(lO env os).bind fun ds=>.ok (d :: ds)
noncomputable def i6 (env:PV.Env):List Opd→Res (List D)
 | []=>.ok []
 | o :: os=>(p6 env o).bind fun d=>(i6 env os).bind fun ds=>.ok (d :: ds)
noncomputable def Vw (K:W.Frag) (G H:Hp):D→V→Prop
 | .lst ds,v=>∃ p xs,v=.ref p∧SqL K H p xs∧Reps K G ds xs
 | .dct tk ks vs,v=>∃ p xs o,v=.ref p∧Rd H p o∧DictO o tk ks xs∧Reps K G vs xs
 | d,v=>Rep K G d v
noncomputable def Vws (K:W.Frag) (G H:Hp):List D→List V→Prop
 | [],vs=>vs=[]
 | d :: ds,vs=>∃ y ys,vs=y :: ys∧Vw K G H d y∧Vws K G H ds ys
section
variable {K:W.Frag} {G G' H H':Hp} {es:PV.Env} {σ:L2.St} {fp:List Addr}
theorem Vw.of {d:D} {v:V} (gh:Same G H) (r:Rep K G d v):Vw K G H d v:=by
 cases d with
 | lst ds=>
  rw [Rep] at r
  obtain ⟨p,xs,e,q,rs⟩:=r
  exact ⟨p,xs,e,fX gh q,rs⟩
 | dct tk ks vs=>
  rw [Rep] at r
  obtain ⟨p,xs,o,e,q,dd,rs⟩:=r
  exact ⟨p,xs,o,e,PV.Rd.mono gh q,dd,rs⟩
 | _=>exact r
theorem Vw.rep {d:D} {v:V} (gh:Same G H) (r:Vw K G H d v):Rep K H d v:=by
 cases d with
 | lst ds=>
  obtain ⟨p,xs,e,q,rs⟩:=r
  rw [Rep]
  exact ⟨p,xs,e,q,rs.mono gh⟩
 | dct tk ks vs=>
  obtain ⟨p,xs,o,e,q,dd,rs⟩:=r
  rw [Rep]
  exact ⟨p,xs,o,e,q,dd,rs.mono gh⟩
 | non=>exact Rep.mono gh r
 | bl b=>exact Rep.mono gh r
 | int i=>exact Rep.mono gh r
 | str l=>exact Rep.mono gh r
 | tup ds=>exact Rep.mono gh r
theorem RepO.vw0 {o:O} {d:D} {v:V} {a:List Addr} (gh:Same G H) (hs:o=.f∨o=.l .f∨o=.d) (r:RepO K G H o d v a):Vw K G H d v:=by
 rcases hs with rfl | rfl | rfl
 ·exact Vw.of gh (jz.mp r).1
 ·cases d with
  | lst ds=>
   obtain ⟨p,xs,e,q,_,rs⟩:=cG.mp r
   exact ⟨p,xs,e,SqL.of q,rs⟩
  | _=>simp only [RepO] at r
 ·cases d with
  | dct tk ks vs=>
   rw [RepO] at r
   obtain ⟨p,xs,o,e,q,dd,_,rs⟩:=r
   exact ⟨p,xs,o,e,.inl q,dd,rs⟩
  | _=>simp only [RepO] at r
theorem RepO.vw {o:O} {d:D} {v:V} {a:List Addr} (gh:Same G H) (hs:tL o=true) (r:RepO K G H o d v a):Vw K G H d v:=by
 unfold tL at hs
 split at hs
 ·exact r.vw0 gh (.inl rfl)
 ·exact r.vw0 gh (.inr (.inl rfl))
 ·exact r.vw0 gh (.inr (.inr rfl))
 ·rw [RepO] at r;exact r.2.vw0 gh (.inl rfl)
 ·rw [RepO] at r;exact r.2.vw0 gh (.inr (.inl rfl))
 ·rw [RepO] at r;exact r.2.vw0 gh (.inr (.inr rfl))
 ·cases hs
theorem Rel.vw {o:Opd} {v:V} {d:D} (q:Rel K G H es σ fp) (k:OpdOk K G σ o v) (e:der es o=.ok d):Vw K G H d v:=by
 cases o with
 | val d'=>
  cases e
  exact Vw.of q.gh k
 | var i=>
  unfold der at e
  dsimp only at e
  split at e
  ·rename_i r hr
   split at e
   ·rename_i hs
    cases e
    obtain ⟨v',a,b,ev,r1,_⟩:=q.rep.take hr
    have k:σ[i]?=some (some v):=k
    rw [k] at ev
    cases ev
    exact r1.vw q.gh hs
   ·cases e
  ·cases e
theorem Rel.vwA {o:Opd} {v:V} {d:D} (q:Rel K G H es σ fp) (k:OpdOk K G σ o v) (e:p6 es o=.ok d):Rep K H d v:=by
 cases o with
 | val d'=>
  cases e
  exact Rep.mono q.gh k
 | var i=>
  unfold p6 at e
  dsimp only at e
  split at e
  ·rename_i r hr
   cases e
   obtain ⟨v',ev,r1⟩:=q.view hr
   have k:σ[i]?=some (some v):=k
   rw [k] at ev
   cases ev
   exact r1
  ·cases e
theorem Rel.vws (q:Rel K G H es σ fp):∀ {os:List Opd} {vs:List V} {ds:List D},oW K G σ os vs→lO es os=.ok ds→Vws K G H ds vs
 | [],_,_,k,e=>by
  cases e
  exact k
 | o :: os,_,_,⟨y,ys,e0,k1,k2⟩,e=>by
  unfold lO at e
  obtain ⟨d,e1,e⟩:=aj e
  obtain ⟨ds,e2,e⟩:=aj e
  cases e
  exact ⟨y,ys,e0,q.vw k1 e1,Rel.vws q k2 e2⟩
theorem gW {G1:Hp} (gg:Same G G1) (ht:∀ (i:Nat) (r:R) (v:V),es[i]?=some (some r)→σ[i]?=some (some v)→Rep K G1 r.2 v):∀ {os:List Opd} {vs:List V} {ds:List D},oW K G σ os vs→i6 es os=.ok ds→Reps K G1 ds vs
 | [],_,_,k,e=>by
  cases e
  have k:_=_:=k
  rw [k]
  exact Reps.nil
 | o :: os,_,_,⟨y,ys,e0,k1,k2⟩,e=>by
  unfold i6 at e
  obtain ⟨d,e1,e⟩:=aj e
  obtain ⟨ds,e2,e⟩:=aj e
  cases e
  rw [e0]
  refine .cons ?_ (gW gg ht k2 e2)
  cases o with
  | val d'=>
   cases e1
   exact Rep.mono gg k1
  | var i=>
   unfold p6 at e1
   dsimp only at e1
   split at e1
   ·rename_i r hr
    cases e1
    exact ht i r y hr k1
   ·cases e1
end
abbrev FX:=PV.Env→Res (R×PV.Env)
abbrev FO:=PV.Env→Res (Opd×PV.Env)
abbrev FOs:=PV.Env→Res (List Opd×PV.Env)
abbrev FT:=PV.Env→Res (Bool×PV.Env)
inductive Out where
 | nx (env:PV.Env) | rt (r:R) | bk (env:PV.Env) | ct (env:PV.Env)
abbrev FS:=PV.Env→Res Out
inductive tQ (K:W.Frag) (f:FX) (σ:L2.St) (H:Hp) (Q:VK):Prop
 | mk:∀ G env fp r env',Rel K G H env σ fp→f env=.ok (r,env')→(∀ v H' G' fp',Step G H fp G' H' fp'→Rel K G' H' (some r :: env') (some v :: σ) fp'→Q v H')→tQ K f σ H Q
inductive tO (K:W.Frag) (f:FO) (σ:L2.St) (H:Hp) (Q:VK):Prop
 | mk:∀ G env fp o env',Rel K G H env σ fp→f env=.ok (o,env')→(∀ v H' G' fp',Step G H fp G' H' fp'→Rel K G' H' env' σ fp'→OpdOk K G' σ o v→Q v H')→tO K f σ H Q
inductive tOs (K:W.Frag) (f:FOs) (σ:L2.St) (H:Hp) (Q:List V→Hp→Prop):Prop
 | mk:∀ G env fp o env',Rel K G H env σ fp→f env=.ok (o,env')→(∀ v H' G' fp',Step G H fp G' H' fp'→Rel K G' H' env' σ fp'→oW K G' σ o v→Q v H')→tOs K f σ H Q
inductive tQT (K:W.Frag) (f:FT) (σ:L2.St) (H:Hp) (Q:Bool→Hp→Prop):Prop
 | mk:∀ G env fp b env',Rel K G H env σ fp→f env=.ok (b,env')→(∀ H' G' fp',Step G H fp G' H' fp'→Rel K G' H' env' σ fp'→Q b H')→tQT K f σ H Q
inductive Mode where
 | plain | mut
def CD (md:Mode) (K:W.Frag) (G H:Hp) (r:R) (v:V) (fp:List Addr):Prop:=match md with
 | .plain=>Rel K G H [some r] [some v] fp
 | .mut=>∃ o d p c d0,r=(.t [o,.pin p c],.tup [d,d0])∧Rel K G H [some (o,d),some (.pin p c,d0)] [some v,some (.ref p)] fp
noncomputable def OutOk {md:Mode} (K:W.Frag) (G H:Hp) (fp:List Addr) (Dd:Ends):Res Out→Prop
 | .ok (.nx env')=>∀ σ' H' G' fp',Step G H fp G' H' fp'→Rel K G' H' env' σ' fp'→Dd.nx σ' H'
 | .ok (.bk env')=>∀ σ' H' G' fp',Step G H fp G' H' fp'→Rel K G' H' env' σ' fp'→Dd.bk σ' H'
 | .ok (.ct env')=>∀ σ' H' G' fp',Step G H fp G' H' fp'→Rel K G' H' env' σ' fp'→Dd.ct σ' H'
 | .ok (.rt r)=>∀ v H' G' fp',Step G H fp G' H' fp'→CD md K G' H' r v fp'→Dd.rt v H'
 | _=>False
inductive tQS {md:Mode} (K:W.Frag) (g:FS) (Dd:Ends) (σ:L2.St) (H:Hp):Prop
 | mk:∀ G env fp,Rel K G H env σ fp→OutOk (md:=md) K G H fp Dd (g env)→tQS (md:=md) K g Dd σ H
def QE (X:Cx) (e:Expr) (f:FX):Prop:=PE X e (tQ X.K f)
def QO (X:Cx) (e:Expr) (f:FO):Prop:=PE X e (tO X.K f)
def QOs (X:Cx) (es:List Expr) (f:FOs):Prop:=PA X es (tOs X.K f)
def QT (X:Cx) (e:Expr) (f:FT):Prop:=PT X e (tQT X.K f)
def QW (X:Cx) (e:Expr) (f:FT):Prop:=PW X e (tQT X.K f)
def QS {md:Mode} (X:Cx) (st:Stmt) (g:FS):Prop:=PS X st (tQS (md:=md) X.K g)
def QSs {md:Mode} (X:Cx) (st:List Stmt) (g:FS):Prop:=PSs X st (tQS (md:=md) X.K g)
theorem bF {X:Cx} {e:Expr} {t t':TE} (h:PE X e t) (k:∀ σ H Q,t' σ H Q→t σ H Q):PE X e t':=fun pins s σ H Q I w=>h pins s σ H Q I (k σ H Q w)
theorem oX {X:Cx} {e:Expr} {t t':TT} (h:PT X e t) (k:∀ σ H Q,t' σ H Q→t σ H Q):PT X e t':=fun pins s σ H Q I w=>h pins s σ H Q I (k σ H Q w)
theorem vM {X:Cx} {e:Expr} {t t':TT} (h:PW X e t) (k:∀ σ H Q,t' σ H Q→t σ H Q):PW X e t':=fun wh pins s σ H Q I w=>h wh pins s σ H Q I (k σ H Q w)
theorem oY {X:Cx} {e:List Expr} {t t':TA} (h:PA X e t) (k:∀ σ H Q,t' σ H Q→t σ H Q):PA X e t':=fun pos pins s σ H Q I w=>h pos pins s σ H Q I (k σ H Q w)
theorem eV {X:Cx} {e:Stmt} {t t':TS} (h:PS X e t) (k:∀ D σ H,t' D σ H→t D σ H):PS X e t':=fun pins s σ H D I w=>h pins s σ H D I (k D σ H w)
theorem rM {X:Cx} {e:List Stmt} {t t':TS} (h:PSs X e t) (k:∀ D σ H,t' D σ H→t D σ H):PSs X e t':=fun pins s σ H D I w=>h pins s σ H D I (k D σ H w)
theorem OutOk.imp {md:Mode} {K:W.Frag} {G H G1 H1:Hp} {fp fp1:List Addr} {Dd Dd':Ends} {r:Res Out} (st:Step G H fp G1 H1 fp1) (h:OutOk (md:=md) K G H fp Dd r) (n:∀ σ H,Dd.nx σ H→Dd'.nx σ H) (b:∀ σ H,Dd.bk σ H→Dd'.bk σ H) (c:∀ σ H,Dd.ct σ H→Dd'.ct σ H) (t:∀ v H,Dd.rt v H→Dd'.rt v H):OutOk (md:=md) K G1 H1 fp1 Dd' r:=by
 match r,h with
 | .ok (.nx env'),h=>exact fun σ' H' G' fp' s q=>n _ _ (h σ' H' G' fp' (st.trans s) q)
 | .ok (.bk env'),h=>exact fun σ' H' G' fp' s q=>b _ _ (h σ' H' G' fp' (st.trans s) q)
 | .ok (.ct env'),h=>exact fun σ' H' G' fp' s q=>c _ _ (h σ' H' G' fp' (st.trans s) q)
 | .ok (.rt r),h=>exact fun v H' G' fp' s q=>t _ _ (h v H' G' fp' (st.trans s) q)
theorem OutOk.after {md:Mode} {K:W.Frag} {G H G1 H1:Hp} {fp fp1:List Addr} {Dd:Ends} {r:Res Out} (st:Step G H fp G1 H1 fp1) (h:OutOk (md:=md) K G H fp Dd r):OutOk (md:=md) K G1 H1 fp1 Dd r:=h.imp st (fun _ _ z=>z) (fun _ _ z=>z) (fun _ _ z=>z) fun _ _ z=>z
noncomputable def aE (d:D):FX:=fun env=>.ok ((.f,d),env)
noncomputable def fz:O→O
 | .pin p .f=>.pin p .f
 | _=>.f
noncomputable def aM (i:Nat):FX:=fun env=>match env[i]? with
 | some (some r)=>.ok ((.f,r.2),env.set i (some (fz r.1,r.2)))
 | _=>.bad
noncomputable def mr (i:Nat):FX:=fun env=>match env[i]? with
 | some (some r)=>.ok (r,env.set i none)
 | _=>.bad
noncomputable def ao (f:FX):FO:=fun env=>(f env).bind fun p=>.ok (.val p.1.2,p.2)
noncomputable def av (i:Nat):FO:=fun env=>match env[i]? with
 | some (some _)=>.ok (.var i,env)
 | _=>.bad
noncomputable def az:FOs:=fun env=>.ok ([],env)
noncomputable def ah (f:FO) (g:FOs):FOs:=fun env=>(f env).bind fun p=>(g p.2).bind fun q=>.ok (p.1 :: q.1,q.2)
section
variable {X:Cx}
theorem oZ {e:Expr} {v:V} {d:D} (h:PE X e (tC v)) (r:∀ G,Rep X.K G d v):QE X e (aE d):=bF h fun σ H Q hq0=>by
 obtain ⟨G,env,fp,rr,env',rel,e,k⟩:=hq0
 cases e
 exact k v H G fp .refl (rel.push (r G))
theorem aq {i j pos}:QE X (.Constant (.int i) j pos) (aE (.int i)):=oZ yJ fun G=>by rw [Rep]
theorem jA {i j pos}:QE X (.Constant (.bool i) j pos) (aE (.bl i)):=oZ Bj fun G=>by rw [Rep]
theorem vN {j pos}:QE X (.Constant .none j pos) (aE .non):=oZ yK fun G=>by rw [Rep]
theorem o3 {x j pos} {l:List Nat} (h:x=S l) (hl:l.length≤1000):QE X (.Constant (.str x) j pos) (aE (.str l)):=oZ yL fun G=>by
 rw [Rep,h]
 exact ⟨rfl,by rw [line_eq];lia⟩
theorem ax {i:Nat} {e:Expr} (h:PE X e (tJ i)):QE X e (aM i):=bF h fun σ H Q hq0=>by
 obtain ⟨G,env,fp,rr,env',rel,e,k⟩:=hq0
 unfold aM at e
 split at e
 ·rename_i r hr
  cases e
  by_cases hf:fz r.1=.f
  ·obtain ⟨v,G',fq,ev,rv,rel',st⟩:=rel.freezeAt hr
   rw [hf] at k
   exact ⟨v,ev,k v H G' fq st (rel'.push rv)⟩
  ·have hp:∃ p,r.1=.pin p .f:=by
    unfold fz at hf
    split at hf
    ·rename_i p hp
     exact ⟨p,hp⟩
    ·exact absurd rfl hf
   obtain ⟨p,hp⟩:=hp
   obtain ⟨v,a,b,ev,r1,_,_⟩:=rel.rep.take hr
   rw [hp,RepO] at r1
   have es:env.set i (some (fz r.1,r.2))=env:=by
    refine ji ?_
    rw [hr,hp]
    show some (some r)=some (some (.pin p .f,r.2))
    rw [←hp]
   rw [es] at k
   exact ⟨v,ev,k v H G fp .refl (rel.push (jz.mp r1.2).1)⟩
 ·cases e
theorem jB {i:Nat} {e:Expr} (h:PE X e (tJ i)):QE X e (mr i):=bF h fun σ H Q hq0=>by
 obtain ⟨G,env,fp,rr,env',rel,e,k⟩:=hq0
 unfold mr at e
 split at e
 ·rename_i r hr
  cases e
  obtain ⟨v,fq,ev,rel',st,_⟩:=rel.out hr
  exact ⟨v,ev,k v H G fq st rel'⟩
 ·cases e
theorem ae {e:Expr} {f:FX} (h:QE X e f):QO X e (ao f):=bF h fun σ H Q hq0=>by
 obtain ⟨G,env,fp,o,env',rel,e,k⟩:=hq0
 obtain ⟨⟨r,env1⟩,e1,e⟩:=aj e
 cases e
 refine ⟨G,env,fp,r,env1,rel,e1,fun v H' G' fp' st rel'=>?_⟩
 obtain ⟨G2,b,rv,rel2,st2⟩:=rel'.freeze
 exact k v H' G2 b (st.trans st2) rel2 rv
theorem ag {i:Nat} {e:Expr} (h:PE X e (tJ i)):QO X e (av i):=bF h fun σ H Q hq0=>by
 obtain ⟨G,env,fp,o,env',rel,e,k⟩:=hq0
 unfold av at e
 split at e
 ·rename_i r hr
  cases e
  obtain ⟨v,ev,_⟩:=rel.view hr
  exact ⟨v,ev,k v H G fp .refl rel ev⟩
 ·cases e
theorem ar:QOs X [] az:=oY oH fun σ H Q hq0=>by
 obtain ⟨G,env,fp,o,env',rel,e,k⟩:=hq0
 cases e
 exact k [] H G fp .refl rel rfl
theorem af {e:Expr} {es:List Expr} {f:FO} {g:FOs} (h:QO X e f) (hs:QOs X es g) (hst:starEach (e :: es) X.env=(false,eval e X.env) :: starEach es X.env:=by rfl):QOs X (e :: es) (ah f g):=
 oY (il h hs hst) fun σ H Q hq0=>by
  obtain ⟨G,env,fp,o,env',rel,e,k⟩:=hq0
  obtain ⟨⟨o1,env1⟩,e1,e⟩:=aj e
  obtain ⟨⟨os,env2⟩,e2,e⟩:=aj e
  cases e
  exact ⟨G,env,fp,o1,env1,rel,e1,fun v H1 G1 fp1 st1 rel1 ok1=>⟨G1,env1,fp1,os,env2,rel1,e2,fun vs H2 G2 fp2 st2 rel2 ok2=>k _ H2 G2 fp2 (st1.trans st2) rel2 ⟨v,vs,rfl,ok1.mono st2.gg,ok2⟩⟩⟩
noncomputable def aA (g:D→D→Res R) (fa fb:FO):FX:=fun env=>(fa env).bind fun p=>(fb p.2).bind fun q=>(der q.2 p.1).bind fun a=>(der q.2 q.1).bind fun b=>(g a b).bind fun r=>.ok (r,q.2)
noncomputable def b6 (g:D→D→Res R) (fa fb:FO):FX:=fun env=>(fa env).bind fun p=>(fb p.2).bind fun q=>(p6 q.2 p.1).bind fun a=>(p6 q.2 q.1).bind fun b=>(g a b).bind fun r=>.ok (r,q.2)
structure Goes (K:W.Frag) (H:Hp) (G:Hp) (fp:List Addr) (es:PV.Env) (vs:L2.St) (r:R) (Q:VK):Prop where
 rel:Rel K G H es vs fp
 goes:∀ v H' G' fp',Step G H fp G' H' fp'→Rel K G' H' (some r :: es) (some v :: vs) fp'→Q v H'
inductive rG (K:W.Frag) (g:D→D→Res R) (x:V) (y:V) (H:Hp) (Q:VK):Prop
 | mk:∀ G fp es vs a b r,Goes K H G fp es vs r Q→Vw K G H a x→Vw K G H b y→g a b=.ok r→rG K g x y H Q
inductive rGA (K:W.Frag) (g:D→D→Res R) (x:V) (y:V) (H:Hp) (Q:VK):Prop
 | mk:∀ G fp es vs a b r,Goes K H G fp es vs r Q→Rep K H a x→Rep K H b y→g a b=.ok r→rGA K g x y H Q
variable {a b c:Expr} {fa fb fc:FO} {pos:Pos} {g g':D→D→Res R}
theorem rN {σ:L2.St} {H:Hp} {Q:VK} (h:tQ X.K (aA g fa fb) σ H Q):tOp (rG X.K g) (tO X.K fa) (tO X.K fb) σ H Q:=by
 obtain ⟨G,env,fp,r,env',rel,e,k⟩:=h
 obtain ⟨⟨oa,e1⟩,ha,e⟩:=aj e
 obtain ⟨⟨ob,e2⟩,hb,e⟩:=aj e
 obtain ⟨da,hda,e⟩:=aj e
 obtain ⟨db,hdb,e⟩:=aj e
 obtain ⟨r',hr,e⟩:=aj e
 cases e
 exact ⟨G,env,fp,oa,e1,rel,ha,fun x H1 G1 fp1 st1 rel1 ok1=>⟨G1,e1,fp1,ob,e2,rel1,hb,fun y H2 G2 fp2 st2 rel2 ok2=>
  ⟨G2,fp2,e2,σ,da,db,r,⟨rel2,fun v H' G' fp' st rel'=>k v H' G' fp' (st1.trans (st2.trans st)) rel'⟩,rel2.vw (ok1.mono st2.gg) hda,rel2.vw ok2 hdb,hr⟩⟩⟩
theorem rO {σ:L2.St} {H:Hp} {Q:VK} (h:tQ X.K (b6 g fa fb) σ H Q):tOp (rGA X.K g) (tO X.K fa) (tO X.K fb) σ H Q:=by
 obtain ⟨G,env,fp,r,env',rel,e,k⟩:=h
 obtain ⟨⟨oa,e1⟩,ha,e⟩:=aj e
 obtain ⟨⟨ob,e2⟩,hb,e⟩:=aj e
 obtain ⟨da,hda,e⟩:=aj e
 obtain ⟨db,hdb,e⟩:=aj e
 obtain ⟨r',hr,e⟩:=aj e
 cases e
 exact ⟨G,env,fp,oa,e1,rel,ha,fun x H1 G1 fp1 st1 rel1 ok1=>⟨G1,e1,fp1,ob,e2,rel1,hb,fun y H2 G2 fp2 st2 rel2 ok2=>
  ⟨G2,fp2,e2,σ,da,db,r,⟨rel2,fun v H' G' fp' st rel'=>k v H' G' fp' (st1.trans (st2.trans st)) rel'⟩,rel2.vwA (ok1.mono st2.gg) hda,rel2.vwA ok2 hdb,hr⟩⟩⟩
theorem aI {op:Operator} (ho:OpR X (binaryOp op) (rG X.K g)) (ha:QO X a fa) (hb:QO X b fb):QE X (.BinOp a op b pos) (aA g fa fb):=bF (Bv ho ha hb) fun _ _ _=>rN
theorem rQ {op:CmpOp} (ho:OpR X (compareOp op) (rGA X.K g)) (ha:QO X a fa) (hb:QO X b fb) (hm:behindInMarks op b=false):QE X (.Compare a [op] [b] pos) (b6 g fa fb):=bF (wC ho ha hb hm) fun _ _ _=>rO
noncomputable def eBl (f:FX):FT:=fun env=>(f env).bind fun p=>match p.1.2 with
 | .bl k=>.ok (k,p.2)
 | _=>.bad
theorem xo {f:FX} {σ:L2.St} {H:Hp} {Q:Bool→Hp→Prop} (h:tQT X.K (eBl f) σ H Q):tQ X.K f σ H fun x H'=>∃ k,x=.bl k∧Q k H':=by
 obtain ⟨G,env,fp,k,env',rel,e,q⟩:=h
 obtain ⟨⟨⟨o,d⟩,env1⟩,e1,e⟩:=aj e
 dsimp only at e
 split at e
 ·cases e
  refine ⟨G,env,fp,_,_,rel,e1,fun v H' G' fp' st rel'=>?_⟩
  have hv:=rel'.top
  rw [show ((o,D.bl k):R).2=D.bl k from rfl,Rep] at hv
  obtain ⟨b,rel2,st2⟩:=rel'.drop
  exact ⟨k,hv,q H' G' b (st.trans st2) rel2⟩
 ·cases e
theorem mv {e:Expr} {f:FX} (h:QE X e f) (he:∀ whole,isTrue e X.env whole=(do let v ←whole;standAt e.pos;holding [v] (truthy v)):=by intro _;rfl):QT X e (eBl f):=oX (yM h he) fun _ _ _=>xo
theorem jC {op:CmpOp} (ho:OpR X (compareOp op) (rG X.K g)) (ha:QO X a fa) (hb:QO X b fb) (hm:behindInMarks op b=false):QT X (.Compare a [op] [b] pos) (eBl (aA g fa fb)):=
 oX (qK ho ha hb hm) fun _ _ _ h=>rN (xo h)
theorem bO {op:CmpOp} (ho:OpR X (compareOp op) (rGA X.K g)) (ha:QO X a fa) (hb:QO X b fb) (hm:behindInMarks op b=false):QT X (.Compare a [op] [b] pos) (eBl (b6 g fa fb)):=
 oX (qK ho ha hb hm) fun _ _ _ h=>rO (xo h)
noncomputable def BN (f g:FT):FT:=fun env=>(f env).bind fun p=>if p.1 then g p.2 else .ok (false,p.2)
noncomputable def bOr (f g:FT):FT:=fun env=>(f env).bind fun p=>if p.1 then .ok (true,p.2) else g p.2
noncomputable def uD (f:FT):FT:=fun env=>(f env).bind fun p=>.ok (!p.1,p.2)
variable {ga gb:FT} {dh:List Expr}
theorem xp (h:QT X a ga):QW X (.BoolOp .And [a] pos) ga:=wt h
theorem o4 (h:QT X a ga):QW X (.BoolOp .Or [a] pos) ga:=yN h
theorem zM (h:QT X a ga) (h2:QW X (.BoolOp .And (b :: dh) pos) gb):QW X (.BoolOp .And (a :: b :: dh) pos) (BN ga gb):=vM (yO h h2) fun σ H Q hq0=>by
 obtain ⟨G,env,fp,k,env',rel,e,q⟩:=hq0
 obtain ⟨⟨k1,env1⟩,e1,e⟩:=aj e
 refine ⟨G,env,fp,k1,env1,rel,e1,fun H1 G1 fp1 st1 rel1=>?_⟩
 dsimp only at e
 cases k1 with
 | true=>exact ⟨G1,env1,fp1,k,env',rel1,e,fun H2 G2 fp2 st2 rel2=>q H2 G2 fp2 (st1.trans st2) rel2⟩
 | false=>
  cases e
  exact q H1 G1 fp1 st1 rel1
theorem uE (h:QT X a ga) (h2:QW X (.BoolOp .Or (b :: dh) pos) gb):QW X (.BoolOp .Or (a :: b :: dh) pos) (bOr ga gb):=vM (Bk h h2) fun σ H Q hq0=>by
 obtain ⟨G,env,fp,k,env',rel,e,q⟩:=hq0
 obtain ⟨⟨k1,env1⟩,e1,e⟩:=aj e
 refine ⟨G,env,fp,k1,env1,rel,e1,fun H1 G1 fp1 st1 rel1=>?_⟩
 dsimp only at e
 cases k1 with
 | false=>exact ⟨G1,env1,fp1,k,env',rel1,e,fun H2 G2 fp2 st2 rel2=>q H2 G2 fp2 (st1.trans st2) rel2⟩
 | true=>
  cases e
  exact q H1 G1 fp1 st1 rel1
theorem QW.qt {e:Expr} {f:FT} (h:QW X e f):QT X e f:=h.pt
theorem mw (h:QT X a ga):QT X (.UnaryOp .Not a pos) (uD ga):=oX (yP h) fun σ H Q hq0=>by
 obtain ⟨G,env,fp,k,env',rel,e,q⟩:=hq0
 obtain ⟨⟨k1,env1⟩,e1,e⟩:=aj e
 cases e
 exact ⟨G,env,fp,k1,env1,rel,e1,fun H1 G1 fp1 st1 rel1=>q H1 G1 fp1 st1 rel1⟩
noncomputable def BO (f g:FX):FX:=fun env=>(f env).bind fun p=>match p.1.2 with
 | .bl true=>g p.2
 | .bl false=>.ok ((.f,.bl false),p.2)
 | _=>.bad
noncomputable def eOr (f g:FX):FX:=fun env=>(f env).bind fun p=>match p.1.2 with
 | .bl true=>.ok ((.f,.bl true),p.2)
 | .bl false=>g p.2
 | _=>.bad
noncomputable def BP (f:FX):FX:=fun env=>(f env).bind fun p=>match p.1.2 with
 | .bl k=>.ok ((.f,.bl (!k)),p.2)
 | _=>.bad
noncomputable def eIf (c:FT) (f g:FX):FX:=fun env=>(c env).bind fun p=>if p.1 then f p.2 else g p.2
variable {ea eb:FX}
theorem zN {op} (h:QE X a ea):QE X (.BoolOp op [a] pos) ea:=yQ h
theorem cC {K:W.Frag} {G:Hp} (k:Bool):Rep K G (.bl k) (.bl k):=by rw [Rep]
theorem bo {K:W.Frag} {G:Hp} (k:Int):Rep K G (.int k) (.int k):=by rw [Rep]
theorem nv {K:W.Frag} {G:Hp}:Rep K G .non .non:=by rw [Rep]
theorem gE {K:W.Frag} {G:Hp} {l:List Nat} (h:l.length≤sizeLine):Rep K G (.str l) (.str (S l)):=by
 rw [Rep]
 exact ⟨rfl,h⟩
theorem cv {K:W.Frag} {G:Hp} {k:Bool} {v:V} (h:Rep K G (.bl k) v):v=.bl k:=by rw [Rep] at h;exact h
theorem bA {K:W.Frag} {G:Hp} {k:Int} {v:V} (h:Rep K G (.int k) v):v=.int k:=by rw [Rep] at h;exact h
theorem bS {K:W.Frag} {G:Hp} {v:V} (h:Rep K G .non v):v=.non:=by rw [Rep] at h;exact h
theorem bh {K:W.Frag} {G:Hp} {l:List Nat} {v:V} (h:Rep K G (.str l) v):v=.str (S l)∧l.length≤sizeLine:=by rw [Rep] at h;exact h
inductive OfT (K:W.Frag) (G:Hp) (l:List D) (v:V):Prop
 | mk (p:Addr) (xs:List V) (e:v=.ref p) (q:SqT K G p xs) (r:Reps K G l xs):OfT K G l v
inductive OfL (K:W.Frag) (G:Hp) (l:List D) (v:V):Prop
 | mk (p:Addr) (xs:List V) (e:v=.ref p) (q:SqL K G p xs) (r:Reps K G l xs):OfL K G l v
theorem bg {K:W.Frag} {G:Hp} {l:List D} {v:V} (h:Rep K G (.tup l) v):OfT K G l v:=by
 rw [Rep] at h
 obtain ⟨p,xs,e,q,r⟩:=h
 exact ⟨p,xs,e,SqT.of q,r⟩
theorem rR {K:W.Frag} {G:Hp} {l:List D} {v:V} (h:Rep K G (.tup l) v):∃ p xs,v=.ref p∧G p=some (.tup xs)∧Reps K G l xs:=by rw [Rep] at h;exact h
theorem bu {K:W.Frag} {G:Hp} {l:List D} {v:V} (h:Rep K G (.lst l) v):OfL K G l v:=by
 rw [Rep] at h
 obtain ⟨p,xs,e,q,r⟩:=h
 exact ⟨p,xs,e,q,r⟩
theorem bB {K:W.Frag} {G H:Hp} {k:Int} {v:V} (h:Vw K G H (.int k) v):v=.int k:=bA (K:=K) (G:=G) h
theorem gk {K:W.Frag} {G H:Hp} {l:List Nat} {v:V} (h:Vw K G H (.str l) v):v=.str (S l)∧l.length≤sizeLine:=bh (K:=K) (G:=G) h
theorem gm {K:W.Frag} {G H:Hp} {l:List D} {v:V} (h:Vw K G H (.tup l) v):OfT K G l v:=bg (K:=K) (G:=G) h
theorem zO (h:QE X a ea) (h2:QE X (.BoolOp .And (b :: dh) pos) eb):QE X (.BoolOp .And (a :: b :: dh) pos) (BO ea eb):=bF (yR h h2) fun σ H Q hq0=>by
 obtain ⟨G,env,fp,r,env',rel,e,q⟩:=hq0
 obtain ⟨⟨⟨o,d⟩,env1⟩,e1,e⟩:=aj e
 refine ⟨G,env,fp,_,env1,rel,e1,fun v H1 G1 fp1 st1 rel1=>?_⟩
 have hv:=rel1.top
 obtain ⟨b',rel2,st2⟩:=rel1.drop
 dsimp only at e hv
 split at e
 ·exact ⟨true,cv hv,zo ⟨G1,env1,b',r,env',rel2,e,fun v H2 G2 fp2 st3 rel3=>q v H2 G2 fp2 (st1.trans (st2.trans st3)) rel3⟩⟩
 ·cases e
  exact ⟨false,cv hv,iteF (q _ H1 G1 b' (st1.trans st2) (rel2.push (cC _)))⟩
 ·cases e
theorem zP (h:QE X a ea):QE X (.UnaryOp .Not a pos) (BP ea):=bF (yS h) fun σ H Q hq0=>by
 obtain ⟨G,env,fp,r,env',rel,e,q⟩:=hq0
 obtain ⟨⟨⟨o,d⟩,env1⟩,e1,e⟩:=aj e
 refine ⟨G,env,fp,_,env1,rel,e1,fun v H1 G1 fp1 st1 rel1=>?_⟩
 have hv:=rel1.top
 obtain ⟨b',rel2,st2⟩:=rel1.drop
 dsimp only at e hv
 split at e
 ·cases e
  exact ⟨_,cv hv,q _ H1 G1 b' (st1.trans st2) (rel2.push (cC _))⟩
 ·cases e
noncomputable def zQ (g g':D→D→Res R) (fa fb fc:FO):FX:=fun env=>(fa env).bind fun p=>(fb p.2).bind fun q=>(der q.2 p.1).bind fun a=>(der q.2 q.1).bind fun b=>(g a b).bind fun r=>match r with
 | (.f,.bl true)=>(fc q.2).bind fun t=>(der t.2 q.1).bind fun b=>(der t.2 t.1).bind fun c=>(g' b c).bind fun r=>.ok (r,t.2)
 | (.f,.bl false)=>.ok ((.f,.bl false),q.2)
 | _=>.bad
inductive rC (K:W.Frag) (g:List D→Res R) (xs:List V) (H:Hp) (Q:VK):Prop
 | mk:∀ G fp es vs ds r,Goes K H G fp es vs r Q→Vws K G H ds xs→g ds=.ok r→rC K g xs H Q
noncomputable def bx (g:List D→Res R) (fs:FOs):FX:=fun env=>(fs env).bind fun p=>(lO p.2 p.1).bind fun ds=>(g ds).bind fun r=>.ok (r,p.2)
theorem rS {gg:List D→Res R} {fs:FOs} {σ:L2.St} {H:Hp} {Q:VK} (h:tQ X.K (bx gg fs) σ H Q):tCB (rC X.K gg) (tOs X.K fs) σ H Q:=by
 obtain ⟨G,env,fp,r,env',rel,e,k⟩:=h
 obtain ⟨⟨os,e1⟩,ha,e⟩:=aj e
 obtain ⟨ds,hd,e⟩:=aj e
 obtain ⟨r',hr,e⟩:=aj e
 cases e
 exact ⟨G,env,fp,os,e1,rel,ha,fun vs H1 G1 fp1 st1 rel1 ok1=>⟨G1,fp1,e1,σ,ds,r,⟨rel1,fun v H' G' fp' st rel'=>k v H' G' fp' (st1.trans st) rel'⟩,rel1.vws ok1 hd,hr⟩⟩
variable {x:Str} {p:Pos} {e:Expr} {es:List Expr} {gg:List D→Res R} {fs:FOs} {id T:String}
theorem aN (hc:cT X (.builtin id) (rC X.K gg)) (hg:Gl X x) (hm:X.mg x=none) (hv:bootBuiltins x=some (.builtin id)) (ha:QOs X (e :: es) fs) (hn:x≠"__name__":=by decide) (hdb:(x == ("__debug__" : Str))=false:=by decide)
  (he:starEach (e :: es) X.env=(false,eval e X.env) :: starEach es X.env:=by rfl) (hpl:(backTo pos (starEach es X.env)).any (·.1)=false:=by rfl):QE X (.Call (.Name x p) (e :: es) [] pos) (bx gg fs):=
 bF (oJ hc hg hm hv ha hn hdb he hpl) fun _ _ _=>rS
theorem dW (hc:cT X (.type T) (rC X.K gg)) (hg:Gl X x) (hm:X.mg x=none) (hv:bootBuiltins x=some (.type T)) (ha:QOs X (e :: es) fs) (hn:x≠"__name__":=by decide) (hdb:(x == ("__debug__" : Str))=false:=by decide)
  (he:starEach (e :: es) X.env=(false,eval e X.env) :: starEach es X.env:=by rfl) (hpl:(backTo pos (starEach es X.env)).any (·.1)=false:=by rfl):QE X (.Call (.Name x p) (e :: es) [] pos) (bx gg fs):=
 bF (qO hc hg hm hv ha hn hdb he hpl) fun _ _ _=>rS
inductive spF (K:W.Frag) (F:List D→Res R) (vs:List V) (H:Hp) (Q:VK) (zz:XK):Prop
 | mk:∀ G ds r,Same G H→Reps K G ds vs→F ds=.ok r→(∀ v H' G' fp',Step G H [] G' H' fp'→Rel K G' H' [some r] [some v] fp'→Q v H')→spF K F vs H Q zz
noncomputable def cP (F:List D→Res R) (fs:FOs):FX:=fun env=>(fs env).bind fun p=>(i6 p.2 p.1).bind fun ds=>(F ds).bind fun r=>.ok (r,if a8 r.1 r.2 then p.2 else p.2.map frz)
theorem aQ {F:List D→Res R} {k:Nat} (C:Ct X.prog X.w X.K X.mg X.base x k (spF X.K F)) (hr:Room k X.A) (hg:Gl X x) (ha:QOs X (e :: es) fs) (hdb:(x == ("__debug__" : Str))=false:=by decide)
  (he:starEach (e :: es) X.env=(false,eval e X.env) :: starEach es X.env:=by rfl) (hpl:(backTo pos (starEach es X.env)).any (·.1)=false:=by rfl):QE X (.Call (.Name x p) (e :: es) [] pos) (cP F fs):=
 bF (wR C hr hg ha hdb he hpl) fun σ H Q hq0=>by
  obtain ⟨G,env,fp,r,env',rel,e,k⟩:=hq0
  obtain ⟨⟨os,e1⟩,ha,e⟩:=aj e
  obtain ⟨ds,hd,e⟩:=aj e
  obtain ⟨r',hr,e⟩:=aj e
  refine ⟨G,env,fp,os,e1,rel,ha,fun vs H1 G1 fp1 st1 rel1 ok1=>?_⟩
  show spF X.K F (vs++[]) H1 Q _
  rw [List.append_nil]
  obtain ⟨G2,g12,g2h,hrep,_,hback⟩:=rel1.lend
  refine ⟨G2,ds,r',g2h,gW g12 hrep ok1 hd,hr,fun v H' G' fp' st rel'=>?_⟩
  obtain ⟨k1,k2⟩:=hback H' G' fp' r' v st rel'
  by_cases hc:a8 r'.1 r'.2=true
  ·rw [if_pos hc] at e
   cases e
   obtain ⟨G3,fp3,st3,rel3⟩:=k1 hc
   exact k v H' G3 fp3 (st1.trans st3) rel3
  ·rw [if_neg hc] at e
   cases e
   obtain ⟨G3,fp3,st3,rel3⟩:=k2
   exact k v H' G3 fp3 (st1.trans st3) rel3
end
noncomputable def sSeq (g1 g2:FS):FS:=fun env=>(g1 env).bind fun o=>match o with
 | .nx e=>g2 e
 | o=>.ok o
noncomputable def cU:FS:=fun env=>.ok (.nx env)
noncomputable def bW (i:Nat) (f:FX):FS:=fun env=>(f env).bind fun p=>if i < p.2.length then .ok (.nx (p.2.set i (some p.1))) else .bad
noncomputable def gX (f:FX):FS:=fun env=>(f env).bind fun p=>.ok (.nx p.2)
noncomputable def gO (f:FX):FS:=fun env=>(f env).bind fun p=>.ok (.rt p.1)
noncomputable def sIf (c:FT) (g h:FS):FS:=fun env=>(c env).bind fun p=>if p.1 then g p.2 else h p.2
section
variable {md:Mode} {X:Cx} {st:Stmt} {sts:List Stmt} {g h:FS} {f:FX} {c:FT} {pos:Pos} {e:Expr}
theorem bI:QSs (md:=md) X [] cU:=rM wu fun D σ H ⟨G,env,fp,rel,k⟩=>k σ H G fp .refl rel
theorem aw (a:QS (md:=md) X st g):QSs (md:=md) X [st] g:=wx a
theorem ai (a:QS (md:=md) X st g) (b:QSs (md:=md) X sts h):QSs (md:=md) X (st :: sts) (sSeq g h):=rM (tU a b) fun D σ H hq0=>by
 obtain ⟨G,env,fp,rel,k⟩:=hq0
 refine ⟨G,env,fp,rel,?_⟩
 have k:OutOk X.K G H fp D ((g env).bind fun o=>match o with | .nx e=>h e | o=>.ok o):=k
 match q:g env,k with
 | .ok (.nx env1),k=>exact fun σ1 H1 G1 fp1 st1 rel1=>⟨G1,env1,fp1,rel1,OutOk.after st1 k⟩
 | .ok (.bk env1),k=>exact k
 | .ok (.ct env1),k=>exact k
 | .ok (.rt r),k=>exact k
theorem ny {K:W.Frag} {G H:Hp} {fp:List Addr} {D:Ends} {i:Nat} {env:PV.Env} {σ:L2.St} (rel:Rel K G H env σ fp) (k:OutOk (md:=md) K G H fp D (bW i f env)):tQ K f σ H fun v H'=>D.nx (σ.set i (some v)) H':=by
 unfold bW at k
 match q:f env,k with
 | .ok (r,env1),k=>
  have k:OutOk K G H fp D (if i < env1.length then .ok (.nx (env1.set i (some r))) else .bad):=k
  by_cases hi:i < env1.length
  ·rw [if_pos hi] at k
   refine ⟨G,env,fp,r,env1,rel,q,fun v H1 G1 fp1 st1 rel1=>?_⟩
   obtain ⟨fq,rel2,st2⟩:=rel1.store hi
   exact k _ H1 G1 fq (st1.trans st2) rel2
  ·rw [if_neg hi] at k
   exact k.elim
theorem aH {i:Nat} {x:Str} {pos':Pos} (hN:X.N.Nodup) (hi:X.N[i]?=some x) (hx:Loc X.env.scope x) (he:QE X e f) (hs:swapsWith e (some (.Name x pos')) pos.line X.env=pure false:=by rfl) (hf:X.fn x=true∨X.env.scope.names.lookup x=some .local:=by first | exact .inl rfl | exact .inr rfl | assumption) :
  QS (md:=md) X (.Assign [.Name x pos'] e pos) (bW i f):=eV (yW (i:=i) hN hi hx he hs hf) fun D σ H ⟨G,env,fp,rel,k⟩=>ny rel k
theorem dm (he:QE X e f) (hs:swapsWith e none pos.line X.env=pure false:=by rfl):QS (md:=md) X (.Expr e pos) (gX f):=eV (wy he hs) fun D σ H hq0=>by
 obtain ⟨G,env,fp,rel,k⟩:=hq0
 unfold gX at k
 match q:f env,k with
 | .ok (r,env1),k=>
  refine ⟨G,env,fp,r,env1,rel,q,fun v H1 G1 fp1 st1 rel1=>?_⟩
  obtain ⟨b,rel2,st2⟩:=rel1.drop
  exact k _ H1 G1 b (st1.trans st2) rel2
theorem Rel.only {K:W.Frag} {G H:Hp} {r:R} {v:V} {es:PV.Env} {vs:L2.St} {fp:List Addr} (q:Rel K G H (some r :: es) (some v :: vs) fp):∃ a,Rel K G H [some r] [some v] a∧Step G H fp G H a:=by
 obtain ⟨y,ys,e,v',a,b,e1,e2,r1,r2⟩:=q.rep
 cases e
 cases e1
 subst e2
 have nd:=List.nodup_append.mp q.nd
 exact ⟨a,⟨⟨some v,[],rfl,v,a,[],rfl,(List.append_nil _).symm,r1,rfl,rfl⟩,nd.1,fun p hp=>q.gn p (List.mem_append_left _ hp),q.gh⟩,Step.cut fun p hp=>List.mem_append_left _ hp⟩
theorem bJ (he:QE X e f):QS (md:=.plain) X (.Return (some e) pos) (gO f):=eV (vz he) fun D σ H hq0=>by
 obtain ⟨G,env,fp,rel,k⟩:=hq0
 unfold gO at k
 match q:f env,k with
 | .ok (r,env1),k=>
  refine ⟨G,env,fp,r,env1,rel,q,fun v H1 G1 fp1 st1 rel1=>?_⟩
  obtain ⟨b,rel2,st2⟩:=rel1.only
  exact k _ H1 G1 b (st1.trans st2) rel2
theorem Rel.nilF {K:W.Frag} {G H:Hp} {es:PV.Env} {vs:L2.St} {fp:List Addr} (q:Rel K G H es vs fp):Rel K G H [] [] []:=⟨⟨rfl,rfl⟩,List.nodup_nil,(fun _ h=>nomatch h),q.gh⟩
theorem dC {a b:List Stmt} {ct:Expr} (hc:QT X ct c) (ha:QSs (md:=md) X a g) (hb:QSs (md:=md) X b h):QS (md:=md) X (.If ct a b pos) (sIf c g h):=eV (Bp hc ha hb) fun D σ H hq0=>by
 obtain ⟨G,env,fp,rel,k⟩:=hq0
 unfold sIf at k
 match q:c env,k with
 | .ok (true,env1),k=>exact ⟨G,env,fp,true,env1,rel,q,fun H1 G1 fp1 st1 rel1=>zo ⟨G1,env1,fp1,rel1,OutOk.after st1 k⟩⟩
 | .ok (false,env1),k=>exact ⟨G,env,fp,false,env1,rel,q,fun H1 G1 fp1 st1 rel1=>iteF ⟨G1,env1,fp1,rel1,OutOk.after st1 k⟩⟩
noncomputable def dE (c:FT) (g:FS):Nat→FS
 | 0,_=>.bad
 | n + 1,env=>(c env).bind fun p=>if p.1 then (g p.2).bind fun o=>match o with
  | .nx e=>dE c g n e
  | .ct e=>dE c g n e
  | .bk e=>.ok (.nx e)
  | .rt r=>.ok (.rt r)
  else .ok (.nx p.2)
theorem o5 {ct:Expr} {body:List Stmt} (n:Nat) (hp:PassesOwn (model X.prog X.w) X.A X.env X.xe) (hc:QT X ct c) (hb:QSs (md:=md) X body g):QS (md:=md) X (.While ct body [] pos) (dE c g n):=
 eV (tW hp hc hb) fun D σ H hq0=>by
  obtain ⟨G,env,fp,rel,k⟩:=hq0
  refine ⟨fun m σ' H'=>∃ G' env' fp',Rel X.K G' H' env' σ' fp'∧OutOk X.K G' H' fp' D (dE c g m env'),⟨n,G,env,fp,rel,k⟩,?_⟩
  rintro m σ1 H1 ⟨G1,env1,fp1,rel1,k1⟩
  cases m with
  | zero=>exact k1.elim
  | succ m=>
   unfold dE at k1
   match q:c env1,k1 with
   | .ok (false,env2),k1=>exact ⟨G1,env1,fp1,false,env2,rel1,q,fun H2 G2 fp2 st2 rel2=>iteF (k1 _ H2 G2 fp2 st2 rel2)⟩
   | .ok (true,env2),k1=>
    refine ⟨G1,env1,fp1,true,env2,rel1,q,fun H2 G2 fp2 st2 rel2=>zo ?_⟩
    refine ⟨fun σ' H'=>∃ G' env' fp',Rel X.K G' H' env' σ' fp'∧OutOk X.K G' H' fp' D (dE c g m env'),fun σ' H' z=>⟨m,Nat.lt_succ_self _,z⟩,G2,env2,fp2,rel2,?_⟩
    have k2:OutOk X.K G1 H1 fp1 D ((g env2).bind fun o=>match o with | .nx e=>dE c g m e | .ct e=>dE c g m e | .bk e=>.ok (.nx e) | .rt r=>.ok (.rt r)):=k1
    match q2:g env2,k2 with
    | .ok (.nx e),k2=>exact fun σ' H' G' fp' st rel=>⟨G',e,fp',rel,OutOk.after (st2.trans st) k2⟩
    | .ok (.ct e),k2=>exact fun σ' H' G' fp' st rel=>⟨G',e,fp',rel,OutOk.after (st2.trans st) k2⟩
    | .ok (.bk e),k2=>exact fun σ' H' G' fp' st rel=>k2 σ' H' G' fp' (st2.trans st) rel
    | .ok (.rt r),k2=>exact fun v H' G' fp' st rel=>k2 v H' G' fp' (st2.trans st) rel
def Walk (K:W.Frag) (G:Hp) (J:It) (ds:List D):Prop:=∀ G' H' es vs fp,Same G G'→Rel K G' H' es vs fp→∀ i:Nat,
 (∀ d,ds[i]?=some d→J.go i H'∧∀ x H2,J.yld i H' x H2→∃ G2,Rep K G2 d x∧Rel K G2 H2 es vs fp∧Step G' H' fp G2 H2 fp)∧(i=ds.length→J.stop i H')
abbrev FI:=PV.Env→Res (List D×PV.Env)
inductive tQI (K:W.Frag) (f:FI) (σ:L2.St) (H:Hp) (R:It→Hp→Prop):Prop
 | mk:∀ G env fp ds env',Rel K G H env σ fp→f env=.ok (ds,env')→(∀ J H' G' fp',Step G H fp G' H' fp'→Rel K G' H' env' σ fp'→Walk K G' J ds→R J H')→tQI K f σ H R
def QI (X:Cx) (tg e:Expr) (f:FI):Prop:=PI X tg e (tQI X.K f)
theorem iH {X:Cx} {tg e:Expr} {t t':TI} (h:PI X tg e t) (k:∀ σ H R,t' σ H R→t σ H R):PI X tg e t':=fun pins s σ H R I w=>h pins s σ H R I (k σ H R w)
abbrev FG:=D→PV.Env→Res PV.Env
inductive tQG (K:W.Frag) (a:FG) (v:V) (σ:L2.St) (H:Hp) (Q:L2.St→Hp→Prop):Prop
 | mk:∀ G env fp d env',Rel K G H env σ fp→Rep K G d v→a d env=.ok env'→(∀ σ' G' fp',Step G H fp G' H fp'→Rel K G' H env' σ' fp'→Q σ' H)→tQG K a v σ H Q
def QG (X:Cx) (tg:Expr) (a:FG):Prop:=PG X tg (tQG X.K a)
noncomputable def aB (i:Nat):FG:=fun d env=>if i < env.length then .ok (env.set i (some (.f,d))) else .bad
theorem vO {X:Cx} {tg:Expr} {t t':TG} (h:PG X tg t) (k:∀ v σ H Q,t' v σ H Q→t v σ H Q):PG X tg t':=fun pins s σ H v u Q I r w=>h pins s σ H v u Q I r (k v σ H Q w)
theorem rT {X:Cx} {tg:List Expr} {t t':TGs} (h:PGs X tg t) (k:∀ v σ H Q,t' v σ H Q→t v σ H Q):PGs X tg t':=fun pins s σ H v u Q I r w=>h pins s σ H v u Q I r (k v σ H Q w)
theorem aF {i:Nat} {x:Str} (hN:X.N.Nodup) (hi:X.N[i]?=some x) (hx:Loc X.env.scope x) (hf:X.fn x=true∨X.env.scope.names.lookup x=some .local:=by first | exact .inl rfl | exact .inr rfl | assumption):QG X (.Name x pos) (aB i):=
 vO (wz (i:=i) hN hi hx hf) fun v σ H Q hq0=>by
  obtain ⟨G,env,fp,d,env',rel,r,e,k⟩:=hq0
  unfold aB at e
  split at e
  ·rename_i hl
   cases e
   obtain ⟨fq,rel2,st2⟩:=(rel.push r).store hl
   exact k _ G fq st2 rel2
  ·cases e
abbrev FGs:=List D→PV.Env→Res PV.Env
inductive tQGs (K:W.Frag) (a:FGs) (vs:List V) (σ:L2.St) (H:Hp) (Q:L2.St→Hp→Prop):Prop
 | mk:∀ G env fp ds env',Rel K G H env σ fp→Reps K G ds vs→a ds env=.ok env'→(∀ σ' G' fp',Step G H fp G' H fp'→Rel K G' H env' σ' fp'→Q σ' H)→tQGs K a vs σ H Q
def QGs (X:Cx) (tg:List Expr) (a:FGs):Prop:=PGs X tg (tQGs X.K a)
noncomputable def dX:FGs:=fun ds env=>match ds with
 | []=>.ok env
 | _=>.bad
noncomputable def aK (a:FG) (b:FGs):FGs:=fun ds env=>match ds with
 | d :: ds=>(a d env).bind fun e=>b ds e
 | _=>.bad
theorem eC:QGs X [] dX:=rT wA fun vs σ H Q hq0=>by
 obtain ⟨G,env,fp,ds,env',rel,r,e,k⟩:=hq0
 cases ds with
 | nil=>
  cases e
  rw [Reps] at r
  exact ⟨r,k σ G fp .refl rel⟩
 | cons d ds=>cases e
theorem aR {tg:Expr} {tgs:List Expr} {a:FG} {b:FGs} (h1:QG X tg a) (h2:QGs X tgs b) (hs:(assignEach (tg :: tgs) X.env).map (·.2)=assign tg X.env :: (assignEach tgs X.env).map (·.2):=by rfl):QGs X (tg :: tgs) (aK a b):=
 rT (tV h1 h2 hs) fun vs σ H Q hq0=>by
  obtain ⟨G,env,fp,ds,env',rel,r,e,k⟩:=hq0
  cases ds with
  | nil=>cases e
  | cons d ds=>
   rw [Reps] at r
   obtain ⟨y,ys,ev,r1,r2⟩:=r
   obtain ⟨env1,e1,e2⟩:=aj e
   exact ⟨y,ys,ev,G,env,fp,d,env1,rel,r1,e1,fun σ1 G1 fp1 st1 rel1=>⟨G1,env1,fp1,ds,env',rel1,r2.mono st1.gg,e2,fun σ2 G2 fp2 st2 rel2=>k σ2 G2 fp2 (st1.trans st2) rel2⟩⟩
noncomputable def kl (n:Nat) (a:FGs):FG:=fun d env=>match d with
 | .tup ds=>if ds.length=n then a ds env else .bad
 | _=>.bad
theorem gY {tgs:List Expr} {k n:Nat} {a:FGs} (hc:X.calm=true) (h:QGs X tgs a) (hn:(assignEach tgs X.env).length=n:=by rfl) (hst:(assignEach tgs X.env).findIdx? (·.1)=none:=by rfl):QG X (.Tuple tgs k pos) (kl n a):=
 vO (yU hc h hn hst) fun v σ H Q hq0=>by
  obtain ⟨G,env,fp,d,env',rel,r,e,k⟩:=hq0
  unfold kl at e
  split at e
  ·rename_i ds
   split at e
   ·rename_i hl
    obtain ⟨p,xs,ev,sq,rs⟩:=bg r
    exact ⟨p,xs,ev,bH rel.gh sq,rs.length.trans hl,G,env,fp,ds,env',rel,rs,e,k⟩
   ·cases e
  ·cases e
noncomputable def kh (a:FG) (g:FS):List D→FS
 | [],env=>.ok (.nx env)
 | d :: ds,env=>(a d env).bind fun e=>(g e).bind fun o=>match o with
  | .nx e=>kh a g ds e
  | .ct e=>kh a g ds e
  | .bk e=>.ok (.nx e)
  | .rt r=>.ok (.rt r)
noncomputable def ky (f:FI) (a:FG) (g:FS):FS:=fun env=>(f env).bind fun p=>kh a g p.1 p.2
theorem cR {tg iter:Expr} {body:List Stmt} {fi:FI} {a:FG} (hp:PassesOwn (model X.prog X.w) X.A X.env X.xe) (hc:X.calm=true) (hi:QI X tg iter fi) (hg:QG X tg a) (hb:QSs (md:=md) X body g) (hs:∀ x,foldedSetIterable iter X.env x=pure x:=by intro _;rfl):QS (md:=md) X (.For tg iter body [] pos) (ky fi a g):=
 eV (yZ hp hc hi hg hb hs) fun D σ H hq0=>by
  obtain ⟨G,env,fp,rel,k⟩:=hq0
  unfold ky at k
  match q:fi env,k with
  | .ok (ds,env1),k=>
   refine ⟨G,env,fp,ds,env1,rel,q,fun J H1 G1 fp1 st1 rel1 wk=>?_⟩
   have k:OutOk X.K G H fp D (kh a g ds env1):=k
   refine ⟨fun i m σ' H'=>m=ds.length - i∧i≤ds.length∧∃ G' env' fp',Same G1 G'∧Rel X.K G' H' env' σ' fp'∧OutOk X.K G' H' fp' D (kh a g (ds.drop i) env'),⟨_,rfl,Nat.zero_le _,G1,env1,fp1,.refl _,rel1,OutOk.after st1 k⟩,?_⟩
   rintro i m σ2 H2 ⟨rfl,hi,G2,env2,fp2,gg,rel2,k2⟩
   obtain ⟨w1,w2⟩:=wk G2 H2 _ _ _ gg rel2 i
   by_cases hlt:i < ds.length
   ·have hd:ds[i]?=some ds[i]:=List.getElem?_eq_getElem hlt
    obtain ⟨go,yl⟩:=w1 _ hd
    rw [List.drop_eq_getElem_cons hlt] at k2
    refine .inr ⟨go,fun σ' H'=>∃ G' env' fp',Same G1 G'∧Rel X.K G' H' env' σ' fp'∧OutOk X.K G' H' fp' D (kh a g (ds.drop (i + 1)) env'),fun σ' H' z=>⟨ds.length - (i + 1),by lia,rfl,hlt,z⟩,fun x H3 y=>?_⟩
    obtain ⟨G3,rx,rel3,st3⟩:=yl x H3 y
    unfold kh at k2
    match q3:a ds[i] env2,k2 with
    | .ok env3,k2=>
     refine ⟨G3,env2,fp2,ds[i],env3,rel3,rx,q3,fun σ4 G4 fp4 st4 rel4=>⟨G4,env3,fp4,rel4,?_⟩⟩
     have k3:OutOk X.K G2 H2 fp2 D ((g env3).bind fun o=>match o with | .nx e=>kh a g (ds.drop (i + 1)) e | .ct e=>kh a g (ds.drop (i + 1)) e | .bk e=>.ok (.nx e) | .rt r=>.ok (.rt r)):=k2
     match q4:g env3,k3 with
     | .ok (.nx e),k3=>exact fun σ' H' G' fp' st rel=>⟨G',e,fp',gg.trans (st3.gg.trans (st4.gg.trans st.gg)),rel,OutOk.after (st3.trans (st4.trans st)) k3⟩
     | .ok (.ct e),k3=>exact fun σ' H' G' fp' st rel=>⟨G',e,fp',gg.trans (st3.gg.trans (st4.gg.trans st.gg)),rel,OutOk.after (st3.trans (st4.trans st)) k3⟩
     | .ok (.bk e),k3=>exact fun σ' H' G' fp' st rel=>k3 σ' H' G' fp' (st3.trans (st4.trans st)) rel
     | .ok (.rt r),k3=>exact fun v H' G' fp' st rel=>k3 v H' G' fp' (st3.trans (st4.trans st)) rel
   ·have e:i=ds.length:=by lia
    subst e
    rw [List.drop_length] at k2
    exact .inl ⟨w2 rfl,k2 σ2 H2 G2 fp2 .refl rel2⟩
noncomputable def p7 (f:FX):FI:=fun env=>(f env).bind fun p=>match p.1.2 with
 | .lst ds=>.ok (ds,p.2)
 | _=>.bad
noncomputable def eD (f:FX):FI:=fun env=>(f env).bind fun p=>match p.1.2 with
 | .tup ds=>.ok (ds,p.2)
 | _=>.bad
variable {tg l:Expr}
theorem mx {K:W.Frag} {G:Hp} {a:Addr} {xs:List V} {ds:List D} (sq:SqL K G a xs) (rs:Reps K G ds xs):Walk K G (Itl K a) ds:=by
 intro G' H' es vs fp gg rel i
 have sq':SqL K H' a xs:=fX rel.gh (fX gg sq)
 refine ⟨fun d hd=>?_,fun e=>⟨xs,sq',by rw [rs.length];lia⟩⟩
 obtain ⟨x,hx,rx⟩:=rs.get hd
 refine ⟨⟨xs,x,sq',hx⟩,fun y H2 ⟨e,hy⟩=>?_⟩
 subst e
 have:=hy xs sq'
 rw [hx] at this
 cases this
 exact ⟨G',Rep.mono gg rx,rel,.refl⟩
theorem uF {K:W.Frag} {G:Hp} {a:Addr} {xs:List V} {ds:List D} (sq:SqT K G a xs) (rs:Reps K G ds xs):Walk K G (Itt K a) ds:=by
 intro G' H' es vs fp gg rel i
 have sq':SqT K H' a xs:=bH rel.gh (bH gg sq)
 refine ⟨fun d hd=>?_,fun e=>⟨xs,sq',by rw [rs.length];lia⟩⟩
 obtain ⟨x,hx,rx⟩:=rs.get hd
 refine ⟨⟨xs,x,sq',hx⟩,fun y H2 ⟨e,hy⟩=>?_⟩
 subst e
 have:=hy xs sq'
 rw [hx] at this
 cases this
 exact ⟨G',Rep.mono gg rx,rel,.refl⟩
theorem dM (h:QE X l f):QI X tg l (p7 f):=iH (qD h) fun σ H R hq0=>by
 obtain ⟨G,env,fp,ds,env',rel,e,k⟩:=hq0
 obtain ⟨⟨⟨o,d⟩,env1⟩,e1,e⟩:=aj e
 dsimp only at e
 split at e
 ·cases e
  refine ⟨G,env,fp,_,_,rel,e1,fun v H1 G1 fp1 st1 rel1=>?_⟩
  obtain ⟨G2,b,rv,rel2,st2⟩:=rel1.freeze
  obtain ⟨p,xs,ev,sq,rs⟩:=bu rv
  exact ⟨p,ev,⟨xs,fX rel2.gh sq⟩,k _ H1 G2 b (st1.trans st2) rel2 (mx sq rs)⟩
 ·cases e
theorem dn (h:QE X l f):QI X tg l (eD f):=iH (yY h) fun σ H R hq0=>by
 obtain ⟨G,env,fp,ds,env',rel,e,k⟩:=hq0
 obtain ⟨⟨⟨o,d⟩,env1⟩,e1,e⟩:=aj e
 dsimp only at e
 split at e
 ·cases e
  refine ⟨G,env,fp,_,_,rel,e1,fun v H1 G1 fp1 st1 rel1=>?_⟩
  obtain ⟨G2,b,rv,rel2,st2⟩:=rel1.freeze
  obtain ⟨p,xs,ev,sq,rs⟩:=bg rv
  exact ⟨p,ev,⟨xs,bH rel2.gh sq⟩,k _ H1 G2 b (st1.trans st2) rel2 (uF sq rs)⟩
 ·cases e
noncomputable def eE (f:FX):FI:=fun env=>(f env).bind fun p=>match p.1.2 with
 | .str l=>.ok (l.map fun c=>.str [c],p.2)
 | _=>.bad
theorem dq (h:QE X l f):QI X tg l (eE f):=iH (zu h) fun σ H R hq0=>by
 obtain ⟨G,env,fp,ds,env',rel,e,k⟩:=hq0
 obtain ⟨⟨⟨o,d⟩,env1⟩,e1,e⟩:=aj e
 dsimp only at e
 split at e
 ·rename_i cs
  cases e
  refine ⟨G,env,fp,_,_,rel,e1,fun v H1 G1 fp1 st1 rel1=>?_⟩
  obtain ⟨G2,b,rv,rel2,st2⟩:=rel1.freeze
  obtain ⟨ev,hl⟩:=bh rv
  refine ⟨cs,ev,k _ H1 G2 b (st1.trans st2) rel2 fun G' H' es vs fp' gg rel' i=>⟨fun d hd=>?_,fun e=>?_⟩⟩
  ·rw [List.getElem?_map] at hd
   cases hc:cs[i]? with
   | none=>rw [hc] at hd;cases hd
   | some c=>
    rw [hc] at hd
    cases hd
    refine ⟨(List.getElem?_eq_some_iff.mp hc).1,fun x H2 ⟨e1,e2⟩=>?_⟩
    subst e1
    refine ⟨G',?_,rel',.refl⟩
    rw [e2]
    show Rep X.K G' (.str [c]) (.str (S [cs.getD i 0]))
    rw [List.getD_eq_getElem?_getD,hc]
    exact gE (by rw [line_eq];simp)
  ·rw [List.length_map] at e
   exact e
 ·cases e
noncomputable def dr (f:FO):FI:=fun env=>(f env).bind fun p=>(der p.2 p.1).bind fun d=>match d with
 | .int j=>if -4611686018427387904≤j∧j < 4611686018427387904 then .ok ((List.range j.toNat).map fun (k:Nat)=>D.int (k:Int),p.2) else .bad
 | _=>.bad
theorem kz {K:W.Frag} {G:Hp} (lo:Int) (n:Nat):Walk K G (Itr lo n) ((List.range n).map fun (k:Nat)=>D.int (lo + (k:Int))):=by
 intro G' H' es vs fp gg rel i
 refine ⟨fun d hd=>?_,fun e=>?_⟩
 ·rw [List.getElem?_map] at hd
  cases hc:(List.range n)[i]? with
  | none=>rw [hc] at hd;cases hd
  | some c=>
   rw [hc] at hd
   cases hd
   obtain ⟨h1,h2⟩:=List.getElem?_eq_some_iff.mp hc
   rw [List.length_range] at h1
   rw [List.getElem_range] at h2
   subst h2
   refine ⟨h1,fun x H2 ⟨e1,e2⟩=>?_⟩
   subst e1
   exact ⟨G',by rw [e2];exact bo _,rel,.refl⟩
 ·rw [List.length_map,List.length_range] at e
  exact Nat.le_of_eq e.symm
theorem cw {a:Expr} {fa:FO} {p pos:Pos} (hg:Gl X "range") (hm:X.mg "range" = none) (ha:QO X a fa) (hs:starEach [a] X.env=[(false,eval a X.env)]:=by rfl):QI X tg (.Call (.Name "range" p) [a] [] pos) (dr fa):=
 iH (qE hg hm (af ha ar hs) hs) fun σ H R hq0=>by
  obtain ⟨G,env,fp,ds,env',rel,e,k⟩:=hq0
  obtain ⟨⟨o,env1⟩,e1,e⟩:=aj e
  obtain ⟨d,e2,e⟩:=aj e
  dsimp only at e
  split at e
  ·rename_i j
   split at e
   ·rename_i hj
    cases e
    refine ⟨G,env,fp,[o],_,rel,by show (fa env).bind _=_;rw [e1];rfl,fun vs H1 G1 fp1 st1 rel1 ok1=>?_⟩
    obtain ⟨y,ys,ev,k1,k2⟩:=ok1
    have k2:ys=[]:=k2
    subst k2
    have hv:=bB (rel1.vw k1 e2)
    subst hv
    refine ⟨j,ev,by lia,by lia,k _ H1 G1 fp1 st1 rel1 ?_⟩
    have w:=kz (K:=X.K) (G:=G1) 0 j.toNat
    simpa using w
   ·cases e
  ·cases e
noncomputable def nE (fs:FOs):FI:=fun env=>(fs env).bind fun p=>(lO p.2 p.1).bind fun d=>match d with
 | [.int i,.int j]=>if (-4611686018427387904≤i∧i < 4611686018427387904)∧-4611686018427387904≤j∧j < 4611686018427387904 then .ok ((List.range (j - i).toNat).map fun (k:Nat)=>D.int (i + (k:Int)),p.2) else .bad
 | _=>.bad
theorem rU {a b:Expr} {fs:FOs} {p pos:Pos} (hg:Gl X "range") (hm:X.mg "range" = none) (ha:QOs X [a,b] fs) (hs:starEach [a,b] X.env=[(false,eval a X.env),(false,eval b X.env)]:=by rfl) (hs2:starEach [b] X.env=[(false,eval b X.env)]:=by rfl) :
  QI X tg (.Call (.Name "range" p) [a,b] [] pos) (nE fs):=
 iH (qF hg hm ha hs hs2) fun σ H R hq0=>by
  obtain ⟨G,env,fp,ds,env',rel,e,k⟩:=hq0
  obtain ⟨⟨o,env1⟩,e1,e⟩:=aj e
  obtain ⟨d,e2,e⟩:=aj e
  dsimp only at e
  split at e
  ·rename_i i j
   split at e
   ·rename_i hj
    cases e
    refine ⟨G,env,fp,o,_,rel,e1,fun vs H1 G1 fp1 st1 rel1 ok1=>?_⟩
    obtain ⟨y,ys,ev,v1,z,zs,ev2,v2,e3⟩:=rel1.vws ok1 e2
    have e3:zs=[]:=e3
    subst e3
    have h1:=bB v1
    have h2:=bB v2
    subst h1
    subst h2
    subst ev2
    exact ⟨i,j,ev,⟨by lia,by lia,by lia,by lia⟩,k _ H1 G1 fp1 st1 rel1 (kz i _)⟩
   ·cases e
  ·cases e
noncomputable def iw (k:Bool):D→Res (List D)
 | .lst ds=>if k then .ok ds else .bad
 | .tup ds=>if k then .bad else .ok ds
 | _=>.bad
noncomputable def p8 (k1 k2:Bool) (fs:FOs):FI:=fun env=>(fs env).bind fun p=>match p.1 with
 | [.val d1,.val d2]=>(iw k1 d1).bind fun a=>(iw k2 d2).bind fun b=>.ok ((a.zip b).map fun z=>D.tup [z.1,z.2],p.2)
 | _=>.bad
theorem o6 {K:W.Frag} {G:Hp} {k:Bool} {d:D} {ds:List D} {v:V} (e:iw k d=.ok ds) (r:Rep K G d v):∃ p xs,v=.ref p∧(if k then SqL K G p xs else SqT K G p xs)∧Reps K G ds xs:=by
 cases d with
 | lst es=>
  cases k with
  | true=>
   cases e
   obtain ⟨p,xs,e1,q,rs⟩:=bu r
   exact ⟨p,xs,e1,q,rs⟩
  | false=>cases e
 | tup es=>
  cases k with
  | true=>cases e
  | false=>
   cases e
   obtain ⟨p,xs,e1,q,rs⟩:=bg r
   exact ⟨p,xs,e1,q,rs⟩
 | _=>cases e
theorem k7 {K:W.Frag} {G G':Hp} {k:Bool} {p:Addr} {xs:List V} (h:Same G G') (r:if k then SqL K G p xs else SqT K G p xs):if k then SqL K G' p xs else SqT K G' p xs:=by
 cases k with
 | true=>exact fX h r
 | false=>exact bH h r
theorem uG {K:W.Frag} {G:Hp} {k1 k2:Bool} {p1 p2:Addr} {xs ys:List V} {as bs:List D} (s1:if k1 then SqL K G p1 xs else SqT K G p1 xs) (s2:if k2 then SqL K G p2 ys else SqT K G p2 ys) (r1:Reps K G as xs) (r2:Reps K G bs ys) :
  Walk K G (Itz K k1 k2 p1 p2) ((as.zip bs).map fun z=>D.tup [z.1,z.2]):=by
 intro G' H' es vs fp gg rel i
 have g1:=k7 (gg.trans rel.gh) s1
 have g2:=k7 (gg.trans rel.gh) s2
 refine ⟨fun d hd=>?_,fun e=>⟨xs,ys,g1,g2,?_⟩⟩
 ·rw [List.getElem?_map] at hd
  cases hz:(as.zip bs)[i]? with
  | none=>rw [hz] at hd;cases hd
  | some z=>
   rw [hz] at hd
   cases hd
   obtain ⟨h1,h2⟩:=List.getElem?_zip_eq_some.mp hz
   obtain ⟨x,hx,rx⟩:=r1.get h1
   obtain ⟨y,hy,ry⟩:=r2.get h2
   refine ⟨⟨xs,ys,x,y,g1,g2,hx,hy⟩,fun v H2 ⟨T,hT,ev,hh⟩=>?_⟩
   have e2:=hh xs ys x y g1 g2 hx hy
   subst e2
   obtain ⟨rel2,st2⟩:=rel.newF (u:=.tup [x,y]) hT
   refine ⟨_,?_,rel2,st2⟩
   rw [Rep]
   exact ⟨T,[x,y],ev,bj,.cons (Rep.mono (gg.trans st2.gg) rx) (.one (Rep.mono (gg.trans st2.gg) ry))⟩
 ·rw [List.length_map,List.length_zip] at e
  rw [r1.length,r2.length]
  exact e
theorem o7 (k1 k2:Bool) {tgs:List Expr} {kt:Nat} {pt:Pos} {e1 e2:Expr} {fs:FOs} {p pos:Pos} (hg:Gl X "zip") (hm:X.mg "zip" = none) (ha:QOs X [e1,e2] fs) (he:starEach [e1,e2] X.env=(false,eval e1 X.env) :: starEach [e2] X.env:=by rfl) (hpl:(backTo pos (starEach [e2] X.env)).any (·.1)=false:=by rfl) :
  QI X (.Tuple tgs kt pt) (.Call (.Name "zip" p) [e1,e2] [] pos) (p8 k1 k2 fs):=
 iH (zx k1 k2 hg hm ha he hpl) fun σ H R hq0=>by
  obtain ⟨G,env,fp,ds,env',rel,e,k⟩:=hq0
  obtain ⟨⟨o,env1⟩,e1,e⟩:=aj e
  dsimp only at e
  split at e
  ·rename_i d1 d2
   obtain ⟨a,ea,e⟩:=aj e
   obtain ⟨b,eb,e⟩:=aj e
   cases e
   refine ⟨G,env,fp,_,_,rel,e1,fun vs H1 G1 fp1 st1 rel1 ok1=>?_⟩
   obtain ⟨y,ys,ev,v1,z,zs,ev2,v2,e3⟩:=ok1
   have e3:zs=[]:=e3
   subst e3
   obtain ⟨p1,xs1,ep1,q1,r1⟩:=o6 ea v1
   obtain ⟨p2,xs2,ep2,q2,r2⟩:=o6 eb v2
   subst ep1
   subst ep2
   subst ev2
   exact ⟨p1,p2,xs1,xs2,ev,k7 rel1.gh q1,k7 rel1.gh q2,k _ H1 G1 fp1 st1 rel1 (uG q1 q2 r1 r2)⟩
  ·cases e
end
noncomputable def fBody (np nn:Nat) (g:FS):List D→Res R:=fun ds=>if ds.length=np then (g (ds.map (fun d=>some (O.f,d))++List.replicate nn none)).bind fun o=>match o with
 | .rt r=>.ok r
 | .nx _=>.ok (.f,.non)
 | _=>.bad
 else .bad
theorem gZ {K:W.Frag} {G H:Hp} (n:Nat):∀ {ds:List D} {vs:List V},Reps K G ds vs→RepE K G H (ds.map (fun d=>some (O.f,d))++List.replicate n none) (vs.map some++List.replicate n none) []
 | [],vs,r=>by
  rw [Reps] at r
  subst r
  show RepE K G H (List.replicate n none) (List.replicate n none) []
  induction n with
  | zero=>exact ⟨rfl,rfl⟩
  | succ n ih=>exact ⟨none,_,rfl,ih⟩
 | d :: ds,vs,r=>by
  rw [Reps] at r
  obtain ⟨y,ys,e,r1,r2⟩:=r
  subst e
  exact ⟨some y,_,rfl,y,[],[],rfl,rfl,jz.mpr ⟨r1,rfl⟩,gZ n r2⟩
theorem eF {P:Program} {w:World} {K:W.Frag} {mg:Str→Option Value} {base:Heap} {x:Str} {st:Stmt} {N ps:List Str} {k:Nat} {g:FS} (Df:Def K mg x st) (sc:FnScope N ps (defScope st))
  (hb:∀ (kV doc pm:Value) (an:Option Addr) (cdv ct:Value) (us:List Value),us.length=ps.length→bindArgs (PySem.W.fnOf x x (eh st) (cF st) (defScope st) .none kV doc pm an cdv ct) ⟨us,[]⟩=pure (ps.zip us))
  (body:∀ (f:Addr) (cdv:Value) (A:Around) (outer:List PySem.Env) (s:Shared) (H:Hp) (E:XK),Room k (A.deeper (envOfC x (defScope st) s.heap.objs.size f cdv))→QSs (md:=.plain) (ua CX0 P w K mg base N x (defScope st) f cdv A outer s H E).nox (cF st) g) :
  Ct P w K mg base x (k + 1) (spF K (fBody ps.length (N.length - ps.length) g)):=by
 obtain ⟨f,fd,F,m⟩:=Df
 refine ⟨f,fd,ps,F.ok sc (fun vs H Q E h=>?_) (fun cdv A outer s H vs Q E hr h=>?_),m,F.kp,F.binds hb⟩
 ·obtain ⟨G,ds,r,_,rs,e,_⟩:=h
  unfold fBody at e
  split at e
  ·rename_i hl
   rw [rs.length,hl]
  ·cases e
 ·obtain ⟨G,ds,r,gh,rs,e,q⟩:=h
  unfold fBody at e
  split at e
  ·rename_i hl
   refine ⟨_,body f cdv A outer s H E hr,G,ds.map (fun d=>some (O.f,d))++List.replicate (N.length - ps.length) none,[],⟨?_,List.nodup_nil,(fun _ h=>nomatch h),gh⟩,?_⟩
   ·have:=gZ (K:=K) (G:=G) (H:=H) (N.length - ps.length) rs
    unfold L2.start
    rw [rs.length,hl]
    exact this
   ·obtain ⟨o,eo,e⟩:=aj e
    rw [eo]
    cases o with
    | rt r'=>
     cases e
     exact fun v H' G' fp' st rel=>q v H' G' fp' st rel
    | nx env'=>
     cases e
     exact fun σ' H' G' fp' st rel=>q .non H' G' [] (st.trans (Step.cut fun _ h=>nomatch h)) (rel.nilF.push nv)
    | bk env'=>cases e
    | ct env'=>cases e
  ·cases e
noncomputable def bZ (ix:List (Option Nat)) (env:PV.Env):PV.Env:=ix.map fun j=>j.bind fun j=>match env[j]? with
 | some (some r)=>some (O.f,r.2)
 | _=>none
noncomputable def ik:FT:=fun env=>.ok (true,env)
noncomputable def dt (a:FG) (c:FT) (f:FX):List D→PV.Env→Res (List D)
 | [],_=>.ok []
 | d :: ds,env=>(a d env).bind fun e=>(c e).bind fun p=>if p.1 then (f p.2).bind fun q=>(dt a c f ds q.2).bind fun rs=>.ok (q.1.2 :: rs) else dt a c f ds p.2
noncomputable def gF (fi:FI) (ix:List (Option Nat)) (a:FG) (c:FT) (f:FX):FX:=fun env=>(fi env).bind fun p=>(dt a c f p.1 (bZ ix p.2)).bind fun ds=>if ds.length≤sizeLine then .ok ((.l .f,.lst ds),if flatDs ds then p.2 else p.2.map frz) else .bad
theorem g0:∀ ds,ds.all (a8 .f)=flatDs ds
 | []=>rfl
 | d :: ds=>by rw [List.all_cons,flatDs,g0 ds,a8]
theorem dY {K:W.Frag} {G1 H:Hp} {es:PV.Env} {σ:L2.St} (ht:∀ (i:Nat) (r:R) (v:V),es[i]?=some (some r)→σ[i]?=some (some v)→Rep K G1 r.2 v) (hv:∀ (i:Nat) (r:R),es[i]?=some (some r)→∃ v,σ[i]?=some (some v)) :
  ∀ ix:List (Option Nat),RepE K G1 H (bZ ix es) (gR ix σ) []
 | []=>⟨rfl,rfl⟩
 | none :: ix=>⟨none,_,rfl,dY ht hv ix⟩
 | some j :: ix=>by
  show RepE K G1 H ((match es[j]? with | some (some r)=>some (O.f,r.2) | _=>none) :: bZ ix es) ((σ[j]?).bind id :: gR ix σ) []
  cases e:es[j]? with
  | none=>exact ⟨_,_,rfl,dY ht hv ix⟩
  | some r=>
   cases r with
   | none=>exact ⟨_,_,rfl,dY ht hv ix⟩
   | some r=>
    obtain ⟨v,ev⟩:=hv j r e
    refine ⟨_,_,rfl,v,[],[],?_,rfl,jz.mpr ⟨ht j r v e ev,rfl⟩,dY ht hv ix⟩
    rw [ev]
    rfl
section
variable {md:Mode} {X:Cx} {scope:Scope} {N:List Str} {tg iter elt:Expr} {ifs:List Expr} {pos:Pos} {fi:FI} {a:FG} {c:FT} {f:FX}
def QTs (X:Cx) (ifs:List Expr) (c:FT):Prop:=PTs X ifs (tQT X.K c)
theorem dN:QTs X [] ik:=fun pins s σ H Q I hq0=>by
 obtain ⟨G,env,fp,b,env',rel,e,k⟩:=hq0
 cases e
 exact wV pins s σ H Q I (k H G fp .refl rel)
theorem rV {t:Expr} (h:QT X t c):QTs X [t] c:=wW h
end
section
variable {X:Cx}
inductive rCatS (K:W.Frag) (x:V) (y:V) (H:Hp) (Q:VK):Prop
 | mk:∀ l b xs zs,x=.ref l→y=.ref b→SqL K H l xs→SqL K H b zs→xs.length + zs.length≤sizeLine→(∀ p,H p=none→Q (.ref p) (upd H p (.lst (xs++zs))))→rCatS K x y H Q
theorem xq:OpR X (binaryOp .Add) (rCatS X.K):=by
 intro pins s σ H x y v u Q I rx ry h
 obtain ⟨l,b,xs,zs,rfl,rfl,hH,hB,hz,q⟩:=h
 cases rx
 cases ry
 obtain ⟨its,r1,p1,_⟩:=I.list hH
 obtain ⟨its2,r2,p2,_⟩:=I.list hB
 have l1:=r1.length
 have l2:=r2.length
 obtain ⟨⟨cls,dd,data,sl⟩,ho,hc,n,hd⟩:=id p1.isList
 obtain ⟨⟨cls2,dd2,data2,sl2⟩,ho2,hc2,n2,hd2⟩:=id p2.isList
 simp only at hc hd hc2 hd2
 subst hc hd hc2 hd2
 have e:its.toArray++its2.toArray=(its++its2).toArray:=by simp
 refine concat_meets ⟨_,ho,rfl⟩ ⟨_,ho2,rfl⟩ noFill_list_add seq_list_add PySem.F.slot_list_add PySem.F.entry_list_add (PySem.F.args_list_add_2 _ _) (list_addW l b its.toArray its2.toArray n n2 dd dd2 sl sl2 (by rw [List.size_toArray,List.size_toArray];lia)) ⟨ho,ho2,?_⟩
 rw [e]
 exact ⟨.ref _,_,I.lnew (t':=s.toks) (r1.append r2) (by rw [List.length_append];lia),rfl,q _ I.fresh⟩
end
noncomputable def addD:D→D→Res R
 | .int i,.int j=>.ok (.f,.int (i + j))
 | .str a,.str b=>if a.length + b.length≤sizeLine then .ok (.f,.str (a++b)) else .bad
 | .lst a,.lst b=>if a.length + b.length≤sizeLine then .ok (.l .f,.lst (a++b)) else .bad
 | .tup a,.tup b=>if a≠[]∧a.length + b.length≤sizeLine then .ok (.f,.tup (a++b)) else .bad
 | _,_=>.bad
section
variable {X:Cx}
theorem k8 {K:W.Frag} {G H:Hp} {fp:List Addr} {es:PV.Env} {vs:L2.St} {ds:List D} {xs:List V} {p:Addr} (rel:Rel K G H es vs fp) (hp:H p=none) (r:Reps K G ds xs) :
  ∃ G',Rel K G' (upd H p (.tup xs)) (some (.f,.tup ds) :: es) (some (.ref p) :: vs) fp∧Step G H fp G' (upd H p (.tup xs)) fp:=by
 obtain ⟨rel2,st2⟩:=rel.newF (u:=.tup xs) hp
 refine ⟨_,rel2.push ?_,st2⟩
 rw [Rep]
 exact ⟨p,xs,rfl,bj,r.mono st2.gg⟩
theorem zR:OpR X (binaryOp .Add) (rG X.K addD):=by
 rintro pins s σ H x y v u Q I rx ry ⟨G,fp,es,vs,a,b,r,⟨rel,k⟩,va,vb,e⟩
 unfold addD at e
 split at e
 ·rename_i i j
  cases e
  cases bB va
  cases bB vb
  exact y7 pins s σ H _ _ v u Q I rx ry ⟨i,j,rfl,rfl,k _ H G fp .refl (rel.push (bo _))⟩
 ·rename_i i j
  split at e
  ·rename_i hl
   cases e
   obtain ⟨e1,h1⟩:=gk va
   obtain ⟨e2,h2⟩:=gk vb
   subst e1
   subst e2
   refine pS pins s σ H _ _ v u Q I rx ry ⟨_,_,rfl,rfl,by rw [l7,l7];exact hl,?_⟩
   rw [BF]
   exact k _ H G fp .refl (rel.push (gE (by rw [List.length_append];exact hl)))
  ·cases e
 ·rename_i i j
  split at e
  ·rename_i hl
   cases e
   obtain ⟨p,xs,e1,h1,r1⟩:=va
   obtain ⟨p2,xs2,e2,h2,r2⟩:=vb
   subst e1
   subst e2
   refine xq pins s σ H _ _ v u Q I rx ry ⟨p,p2,xs,xs2,rfl,rfl,h1,h2,by rw [r1.length,r2.length];exact hl,fun q hq=>?_⟩
   obtain ⟨rel2,st2⟩:=rel.newL hq (r1.app r2)
   exact k _ _ G _ st2 rel2
  ·cases e
 ·rename_i i j
  split at e
  ·rename_i hl
   cases e
   obtain ⟨p,xs,e1,h1,r1⟩:=gm va
   obtain ⟨p2,xs2,e2,h2,r2⟩:=gm vb
   subst e1
   subst e2
   have hx:xs≠[]:=fun z=>hl.1 (List.eq_nil_of_length_eq_zero (by rw [←r1.length,z];rfl))
   refine wL pins s σ H _ _ v u Q I rx ry ⟨p,p2,xs,xs2,rfl,rfl,bH rel.gh h1,bH rel.gh h2,hx,by rw [r1.length,r2.length];exact hl.2,fun z=>?_,fun z q hq=>?_⟩
   ·have:j=[]:=List.eq_nil_of_length_eq_zero (by rw [←r2.length,z];rfl)
    subst this
    rw [List.append_nil] at k
    exact k _ H G fp .refl (rel.push va)
   ·obtain ⟨G',rel2,st2⟩:=k8 rel hq (r1.app r2)
    exact k _ _ G' _ st2 rel2
  ·cases e
 ·cases e
noncomputable def qw:D→D→Res R
 | .int i,.int j=>.ok (.f,.int (i - j))
 | _,_=>.bad
theorem kA:OpR X (binaryOp .Sub) (rG X.K qw):=by
 rintro pins s σ H x y v u Q I rx ry ⟨G,fp,es,vs,a,b,r,⟨rel,k⟩,va,vb,e⟩
 unfold qw at e
 split at e
 ·rename_i i j
  cases e
  cases bB va
  cases bB vb
  exact y8 pins s σ H _ _ v u Q I rx ry ⟨i,j,rfl,rfl,k _ H G fp .refl (rel.push (bo _))⟩
 ·cases e
noncomputable def cn (i:Int):Bool:=decide (-(2 ^ 64) < i∧i < 2 ^ 64)
noncomputable def BQ:D→D→Res R
 | .int i,.int j=>if cn i || cn j then .ok (.f,.int (i * j)) else .bad
 | _,_=>.bad
theorem zS:OpR X (binaryOp .Mult) (rG X.K BQ):=by
 rintro pins s σ H x y v u Q I rx ry ⟨G,fp,es,vs,a,b,r,⟨rel,k⟩,va,vb,e⟩
 unfold BQ at e
 split at e
 ·rename_i i j
  split at e
  ·rename_i hc
   cases e
   cases bB va
   cases bB vb
   have hc:CMul i j:=by
    rw [Bool.or_eq_true] at hc
    exact hc.imp of_decide_eq_true of_decide_eq_true
   exact y9 pins s σ H _ _ v u Q I rx ry ⟨i,j,rfl,rfl,hc,k _ H G fp .refl (rel.push (bo _))⟩
  ·cases e
 ·cases e
noncomputable def my:D→D→Res R
 | .int i,.int j=>if 0 < j∧j < 1073741824 then .ok (.f,.int (i / j)) else .bad
 | _,_=>.bad
theorem k9:OpR X (binaryOp .FloorDiv) (rG X.K my):=by
 rintro pins s σ H x y v u Q I rx ry ⟨G,fp,es,vs,a,b,r,⟨rel,k⟩,va,vb,e⟩
 unfold my at e
 split at e
 ·rename_i i j
  split at e
  ·rename_i hc
   cases e
   cases bB va
   cases bB vb
   exact wB pins s σ H _ _ v u Q I rx ry ⟨i,j,rfl,rfl,hc,k _ H G fp .refl (rel.push (bo _))⟩
  ·cases e
 ·cases e
noncomputable def dF:D→D→Res R
 | .int i,.int j=>if 0 < j then .ok (.f,.int (i % j)) else .bad
 | _,_=>.bad
theorem bz:OpR X (binaryOp .Mod) (rG X.K dF):=by
 rintro pins s σ H x y v u Q I rx ry ⟨G,fp,es,vs,a,b,r,⟨rel,k⟩,va,vb,e⟩
 unfold dF at e
 split at e
 ·rename_i i j
  split at e
  ·rename_i hc
   cases e
   cases bB va
   cases bB vb
   exact za pins s σ H _ _ v u Q I rx ry ⟨i,j,rfl,rfl,hc,k _ H G fp .refl (rel.push (bo _))⟩
  ·cases e
 ·cases e
noncomputable def qx:D→D→Res R
 | .int i,.int j=>if 0≤j∧j≤1000000∧i.natAbs < 2 ^ 64 then .ok (.f,.int (i ^ j.toNat)) else .bad
 | _,_=>.bad
theorem vP:OpR X (binaryOp .Pow) (rG X.K qx):=by
 rintro pins s σ H x y v u Q I rx ry ⟨G,fp,es,vs,a,b,r,⟨rel,k⟩,va,vb,e⟩
 unfold qx at e
 split at e
 ·rename_i i j
  split at e
  ·rename_i hc
   cases e
   cases bB va
   cases bB vb
   exact zb pins s σ H _ _ v u Q I rx ry ⟨i,j,rfl,rfl,hc,k _ H G fp .refl (rel.push (bo _))⟩
  ·cases e
 ·cases e
noncomputable def ltD:D→D→Res R
 | .int i,.int j=>.ok (.f,.bl (decide (i < j)))
 | .str a,.str b=>.ok (.f,.bl (decide (a < b)))
 | _,_=>.bad
theorem BR:OpR X (compareOp .Lt) (rG X.K ltD):=by
 rintro pins s σ H x y v u Q I rx ry ⟨G,fp,es,vs,a,b,r,⟨rel,k⟩,va,vb,e⟩
 unfold ltD at e
 split at e
 ·rename_i i j
  cases e
  cases bB va
  cases bB vb
  exact Bw pins s σ H _ _ v u Q I rx ry ⟨i,j,rfl,rfl,k _ H G fp .refl (rel.push (cC _))⟩
 ·rename_i i j
  cases e
  obtain ⟨e1,h1⟩:=gk va
  obtain ⟨e2,h2⟩:=gk vb
  subst e1
  subst e2
  refine qI pins s σ H _ _ v u Q I rx ry ⟨_,_,rfl,rfl,?_⟩
  rw [di,di]
  exact k _ H G fp .refl (rel.push (cC _))
 ·cases e
noncomputable def leD:D→D→Res R
 | .int i,.int j=>.ok (.f,.bl (decide (i≤j)))
 | .str a,.str b=>.ok (.f,.bl (!decide (b < a)))
 | _,_=>.bad
noncomputable def gtD:D→D→Res R
 | .int i,.int j=>.ok (.f,.bl (decide (j < i)))
 | _,_=>.bad
theorem zT:OpR X (compareOp .Gt) (rG X.K gtD):=by
 rintro pins s σ H x y v u Q I rx ry ⟨G,fp,es,vs,a,b,r,⟨rel,k⟩,va,vb,e⟩
 unfold gtD at e
 split at e
 ·rename_i i j
  cases e
  cases bB va
  cases bB vb
  exact Bx pins s σ H _ _ v u Q I rx ry ⟨i,j,rfl,rfl,k _ H G fp .refl (rel.push (cC _))⟩
 ·cases e
noncomputable def geD:D→D→Res R
 | .int i,.int j=>.ok (.f,.bl (decide (j≤i)))
 | _,_=>.bad
end
abbrev FDs:=PV.Env→Res (List D×PV.Env)
inductive tDs (K:W.Frag) (f:FDs) (σ:L2.St) (H:Hp) (Q:List V→Hp→Prop):Prop
 | mk:∀ G env fp ds env',Rel K G H env σ fp→f env=.ok (ds,env')→(∀ vs H' G' fp',Step G H fp G' H' fp'→Rel K G' H' env' σ fp'→Reps K G' ds vs→Q vs H')→tDs K f σ H Q
def QDs (X:Cx) (es:List Expr) (f:FDs):Prop:=PA X es (tDs X.K f)
noncomputable def b5:FDs:=fun env=>.ok ([],env)
noncomputable def aJ (f:FX) (g:FDs):FDs:=fun env=>(f env).bind fun p=>(g p.2).bind fun q=>.ok (p.1.2 :: q.1,q.2)
section
variable {X:Cx}
theorem aW:QDs X [] b5:=oY oH fun σ H Q hq0=>by
 obtain ⟨G,env,fp,o,env',rel,e,k⟩:=hq0
 cases e
 exact k [] H G fp .refl rel .nil
theorem aD {e:Expr} {es:List Expr} {f:FX} {g:FDs} (h:QE X e f) (hs:QDs X es g) (hst:starEach (e :: es) X.env=(false,eval e X.env) :: starEach es X.env:=by rfl):QDs X (e :: es) (aJ f g):=
 oY (il h hs hst) fun σ H Q hq0=>by
  obtain ⟨G,env,fp,o,env',rel,e,k⟩:=hq0
  obtain ⟨⟨r,env1⟩,e1,e⟩:=aj e
  obtain ⟨⟨ds,env2⟩,e2,e⟩:=aj e
  cases e
  refine ⟨G,env,fp,r,env1,rel,e1,fun v H1 G1 fp1 st1 rel1=>?_⟩
  obtain ⟨G2,b,rv,rel2,st2⟩:=rel1.freeze
  exact ⟨G2,env1,b,ds,env2,rel2,e2,fun vs H3 G3 fp3 st3 rel3 rs=>k _ H3 G3 fp3 (st1.trans (st2.trans st3)) rel3 (.cons (Rep.mono st3.gg rv) rs)⟩
noncomputable def kB (fs:FDs):FX:=fun env=>(fs env).bind fun p=>if p.1.length≤1000 then .ok ((.f,.tup p.1),p.2) else .bad
noncomputable def nF (fs:FDs):FX:=fun env=>(fs env).bind fun p=>if p.1.length≤1000 then .ok ((.l .f,.lst p.1),p.2) else .bad
variable {es:List Expr} {fs:FDs} {pos:Pos}
theorem dG {x1} (h:QDs X es fs):QE X (.Tuple es x1 pos) (kB fs):=bF (zc h) fun σ H Q hq0=>by
 obtain ⟨G,env,fp,r,env',rel,e,k⟩:=hq0
 obtain ⟨⟨ds,env1⟩,e1,e⟩:=aj e
 dsimp only at e
 split at e
 ·rename_i hl
  cases e
  refine ⟨G,env,fp,ds,env',rel,e1,fun vs H1 G1 fp1 st1 rel1 rs=>⟨by rw [rs.length,line_eq];lia,fun p hp=>?_⟩⟩
  obtain ⟨G2,rel2,st2⟩:=k8 rel1 hp rs
  exact k _ _ G2 _ (st1.trans st2) rel2
 ·cases e
theorem eW (h:QDs X es fs):QE X (.List es pos) (nF fs):=bF (zd h) fun σ H Q hq0=>by
 obtain ⟨G,env,fp,r,env',rel,e,k⟩:=hq0
 obtain ⟨⟨ds,env1⟩,e1,e⟩:=aj e
 dsimp only at e
 split at e
 ·rename_i hl
  cases e
  refine ⟨G,env,fp,ds,env',rel,e1,fun vs H1 G1 fp1 st1 rel1 rs=>⟨by rw [rs.length,line_eq];lia,fun p hp=>?_⟩⟩
  obtain ⟨rel2,st2⟩:=rel1.newL hp rs
  exact k _ _ G1 _ (st1.trans st2) rel2
 ·cases e
noncomputable def ixD:D→D→Res R
 | .lst ds,.int i=>match atI ds i with
  | some d=>.ok (.f,d)
  | none=>.bad
 | .tup ds,.int i=>match atI ds i with
  | some d=>.ok (.f,d)
  | none=>.bad
 | .str l,.int i=>match atI l i with
  | some c=>.ok (.f,.str [c])
  | none=>.bad
 | _,_=>.bad
theorem o8 {K:W.Frag} {G:Hp} {ds:List D} {xs:List V} {i:Int} {d:D} (r:Reps K G ds xs) (e:atI ds i=some d):∃ v,atI xs i=some v∧Rep K G d v:=by
 unfold atI at e ⊢
 rw [r.length]
 cases hn:ixN ds.length i with
 | none=>rw [hn] at e;cases e
 | some j=>
  rw [hn] at e
  exact r.get e
theorem BS:IxR X (rG X.K ixD):=by
 rintro value slice pins s σ H x y v u Q I rx ry ⟨G,fp,es,vs,a,b,r,⟨rel,k⟩,va,vb,e⟩ hs
 unfold ixD at e
 split at e
 ·rename_i ds i
  split at e
  ·rename_i d hd
   cases e
   obtain ⟨p,xs,ev,sq,rs⟩:=va
   subst ev
   cases bB vb
   obtain ⟨w',hw,rw'⟩:=o8 rs hd
   exact wM value slice pins s σ H _ _ v u Q I rx ry ⟨p,xs,i,w',rfl,rfl,sq,hw,k _ H G fp .refl (rel.push rw')⟩ hs
  ·cases e
 ·rename_i ds i
  split at e
  ·rename_i d hd
   cases e
   obtain ⟨p,xs,ev,sq,rs⟩:=gm va
   subst ev
   cases bB vb
   obtain ⟨w',hw,rw'⟩:=o8 rs hd
   exact zh value slice pins s σ H _ _ v u Q I rx ry ⟨p,xs,i,w',rfl,rfl,bH rel.gh sq,hw,k _ H G fp .refl (rel.push rw')⟩ hs
  ·cases e
 ·rename_i l i
  split at e
  ·rename_i c hc
   cases e
   obtain ⟨ev,hl⟩:=gk va
   subst ev
   cases bB vb
   refine zi value slice pins s σ H _ _ v u Q I rx ry ⟨_,i,c,rfl,rfl,by rw [l7];exact hl,by rw [di];exact hc,?_⟩ hs
   exact k _ H G fp .refl (rel.push (gE (l:=[c]) (by rw [line_eq];simp)))
  ·cases e
 ·cases e
variable {a b:Expr} {fa fb:FO}
theorem aX (ha:QO X a fa) (hb:QO X b fb) (hs:qT b:=by exact fun _ _=>rfl):QE X (.Subscript a b pos) (aA ixD fa fb):=bF (BC BS ha hb hs) fun _ _ _=>rN
abbrev FP:=PV.Env→Res (Option Int×PV.Env)
inductive tQP (K:W.Frag) (f:FP) (σ:L2.St) (H:Hp) (Q:Option Int→Hp→Prop):Prop
 | mk:∀ G env fp i env',Rel K G H env σ fp→f env=.ok (i,env')→(∀ H' G' fp',Step G H fp G' H' fp'→Rel K G' H' env' σ fp'→Q i H')→tQP K f σ H Q
def QP (X:Cx) (e:Option Expr) (f:FP):Prop:=PO X e (tQP X.K f)
noncomputable def nG:FP:=fun env=>.ok (none,env)
noncomputable def lb (f:FX):FP:=fun env=>(f env).bind fun p=>match p.1.2 with
 | .int i=>.ok (some i,p.2)
 | _=>.bad
theorem vQ {X:Cx} {e:Option Expr} {t t':TO} (h:PO X e t) (k:∀ σ H Q,t' σ H Q→t σ H Q):PO X e t':=fun pins s σ H Q I w=>h pins s σ H Q I (k σ H Q w)
theorem nH:QP X none nG:=vQ wJ fun σ H Q hq0=>by
 obtain ⟨G,env,fp,i,env',rel,e,k⟩:=hq0
 cases e
 exact k H G fp .refl rel
theorem jD {e:Expr} {f:FX} (h:QE X e f):QP X (some e) (lb f):=vQ (wK h) fun σ H Q hq0=>by
 obtain ⟨G,env,fp,i,env',rel,e,k⟩:=hq0
 obtain ⟨⟨⟨o,d⟩,env1⟩,e1,e⟩:=aj e
 dsimp only at e
 split at e
 ·rename_i j
  cases e
  refine ⟨G,env,fp,_,_,rel,e1,fun v H1 G1 fp1 st1 rel1=>?_⟩
  have hv:=rel1.top
  obtain ⟨b,rel2,st2⟩:=rel1.drop
  exact ⟨j,bA hv,k H1 G1 b (st1.trans st2) rel2⟩
 ·cases e
noncomputable def i7 {α:Type} (xs:List α) (lo hi:Option Int):List α:=(xs.drop (HT.sIx xs.length 0 lo)).take (HT.sIx xs.length xs.length hi - HT.sIx xs.length 0 lo)
noncomputable def slD (k:D) (lo hi:Option Int):Res R:=match k with
 | .lst ds=>.ok (.l .f,.lst (i7 ds lo hi))
 | .tup ds=>if ¬ (HT.sIx ds.length 0 lo=0∧HT.sIx ds.length ds.length hi=ds.length) then .ok (.f,.tup (i7 ds lo hi)) else .bad
 | .str l=>.ok (.f,.str (i7 l lo hi))
 | _=>.bad
noncomputable def eSl (fa:FO) (lo hi:FP):FX:=fun env=>(fa env).bind fun p=>(lo p.2).bind fun q=>(hi q.2).bind fun t=>(der t.2 p.1).bind fun d=>(slD d q.1 t.1).bind fun r=>.ok (r,t.2)
theorem o9 {K:W.Frag} {G:Hp} {ds:List D} {xs:List V} {lo hi:Option Int} (r:Reps K G ds xs):Reps K G (i7 ds lo hi) (vA xs lo hi):=by
 unfold i7 vA
 rw [r.length]
 exact (r.drop _).take _
theorem xr {α:Type} (xs:List α) (lo hi:Option Int):(i7 xs lo hi).length≤xs.length:=by
 unfold i7
 rw [List.length_take,List.length_drop]
 lia
inductive rSl (K:W.Frag) (x:V) (lo:Option Int) (hi:Option Int) (H:Hp) (Q:VK):Prop
 | mk:∀ G fp es vs d r,Goes K H G fp es vs r Q→Vw K G H d x→slD d lo hi=.ok r→rSl K x lo hi H Q
theorem zU:SlR X (rSl X.K):=by
 rintro pins s σ H x v vl vu lo hi sl Q I rx hs pl pu ⟨G,fp,es,vs,d,r,⟨rel,k⟩,vd,e⟩
 unfold slD at e
 split at e
 ·rename_i ds
  cases e
  obtain ⟨p,xs,ev,sq,rs⟩:=vd
  subst ev
  refine wN pins s σ H _ v vl vu lo hi sl Q I rx hs pl pu ⟨p,xs,rfl,sq,fun q hq=>?_⟩
  obtain ⟨rel2,st2⟩:=rel.newL hq (o9 (lo:=lo) (hi:=hi) rs)
  exact k _ _ G _ st2 rel2
 ·rename_i ds
  split at e
  ·rename_i hw
   cases e
   obtain ⟨p,xs,ev,sq,rs⟩:=gm vd
   subst ev
   refine zg pins s σ H _ v vl vu lo hi sl Q I rx hs pl pu ⟨p,xs,rfl,bH rel.gh sq,by rw [rs.length];exact hw,fun q hq=>?_⟩
   obtain ⟨G2,rel2,st2⟩:=k8 rel hq (o9 (lo:=lo) (hi:=hi) rs)
   exact k _ _ G2 _ st2 rel2
  ·cases e
 ·rename_i l
  cases e
  obtain ⟨ev,hl⟩:=gk vd
  subst ev
  exact zr pins s σ H _ v vl vu lo hi sl Q I rx hs pl pu ⟨l,rfl,hl,k _ H G fp .refl (rel.push (gE (l:=zq l lo hi) (Nat.le_trans (xr l lo hi) hl)))⟩
 ·cases e
noncomputable def rW (env:PV.Env) (i:Nat):Bool:=match env[i]? with
 | some (some (_,.lst _))=>true
 | _=>false
theorem uH {K:W.Frag} {G H:Hp} {es:PV.Env} {σ:L2.St} {fp:List Addr} {i:Nat} (rel:Rel K G H es σ fp) (h:rW es i=true):∃ v,σ[i]?=some (some v)∧tyV K "list" v H:=by
 unfold rW at h
 split at h
 ·rename_i o ds hr
  obtain ⟨v,ev,rv⟩:=rel.view hr
  obtain ⟨p,xs,e,sq,_⟩:=bu rv
  subst e
  exact ⟨_,ev,.inl ⟨rfl,xs,sq⟩⟩
 ·cases h
noncomputable def pb (i:Nat) (f:FX):FX:=fun env=>if rW env i then (f env).bind fun p=>match p.2[i]? with
 | some (some (.l .f,.lst ds))=>if ds.length < sizeLine then .ok ((.f,.non),p.2.set i (some (.l .f,.lst (ds++[p.1.2])))) else .bad
 | _=>.bad
 else .bad
theorem bU {i:Nat} {o e:Expr} {f:FX} {apos cpos:Pos} (ho:PE X o (tJ i)) (he:QE X e f)
  (hbase:attributeBase o "append" X.env (eval o X.env)=eval o X.env:=by rfl)
  (hfew:((backTo cpos (starEach [e] X.env)).all (fun x=>!x.1) && (backToKw cpos (keywordEach [] X.env)).all (fun x=>x.1.isSome) && decide ([e].length + ([]:List Keyword).length + (if ([]:List Keyword).isEmpty then 0 else 1) < 30))=true:=by rfl)
  (hline:(apos.endLine == cpos.line)=true:=by rfl) (hs:starEach [e] X.env=(false,eval e X.env) :: starEach [] X.env:=by rfl) (hplain:(backTo cpos (starEach [] X.env)).any (·.1)=false:=by rfl) :
  QE X (.Call (.Attribute o "append" apos) [e] [] cpos) (pb i f):=by
 refine bF (zl PySem.F.plainAttrs_list PySem.F.slot_list_append PySem.F.type_list_append lZ ho (aD he aW hs) hbase hfew hline hs hplain) fun σ H Q hqq=>?_
 obtain ⟨G,env,fp,r,env',rel,e,k⟩:=hqq
 unfold pb at e
 split at e
 ·rename_i hil
  obtain ⟨v,ev,ty⟩:=uH rel hil
  obtain ⟨⟨r1,env1⟩,e1,e⟩:=aj e
  dsimp only at e
  split at e
  ·rename_i ds hds
   split at e
   ·rename_i hl
    cases e
    refine ⟨v,ev,ty,G,env,fp,[r1.2],env1,rel,by show (f env).bind _=_;rw [e1];rfl,fun vs H1 G1 fp1 st1 rel1 rs=>?_⟩
    rw [Reps] at rs
    obtain ⟨y,ys,eys,ry,rn⟩:=rs
    rw [Reps] at rn
    subst rn
    obtain ⟨p,xs,ep,hp,rxs,cg⟩:=rel1.chg (ds':=ds++[r1.2]) hds
    rw [ev] at ep
    cases ep
    obtain ⟨fq,rel2,st2⟩:=cg (xs++[y]) (rxs.app (.one ry))
    exact ⟨p,xs,y,rfl,eys,hp,by rw [rxs.length];exact hl,k _ _ G1 fq (st1.trans st2) (rel2.push nv)⟩
   ·cases e
  ·cases e
 ·cases e
noncomputable def BU:List D→Res R
 | [.lst ds]=>.ok (.f,.int ds.length)
 | [.tup ds]=>.ok (.f,.int ds.length)
 | [.str l]=>.ok (.f,.int l.length)
 | _=>.bad
theorem mz {K:W.Frag} {G H:Hp} {d:D} {xs:List V} (h:Vws K G H [d] xs):∃ v,xs=[v]∧Vw K G H d v:=by
 obtain ⟨y,ys,e,v1,e2⟩:=h
 have e2:ys=[]:=e2
 subst e2
 exact ⟨y,e,v1⟩
theorem CF {K:W.Frag} {G H:Hp} {d d':D} {xs:List V} (h:Vws K G H [d,d'] xs):∃ v w,xs=[v,w]∧Vw K G H d v∧Vw K G H d' w:=by
 obtain ⟨y,ys,e,v1,h2⟩:=h
 obtain ⟨z,e2,v2⟩:=mz h2
 subst e2
 exact ⟨y,z,e,v1,v2⟩
theorem zV:cT X (.builtin "len") (rC X.K BU):=by
 rintro pins s σ H xs us Q I rx ⟨G,fp,es,vs,ds,r,⟨rel,k⟩,vd,e⟩
 unfold BU at e
 split at e
 ·rename_i ds
  cases e
  obtain ⟨v,ev,p,ys,ep,sq,rs⟩:=mz vd
  subst ev
  subst ep
  refine iF pins s σ H _ us Q I rx ⟨p,ys,rfl,.inl sq,?_⟩
  rw [rs.length]
  exact k _ H G fp .refl (rel.push (bo _))
 ·rename_i ds
  cases e
  obtain ⟨v,ev,vt⟩:=mz vd
  obtain ⟨p,ys,ep,sq,rs⟩:=gm vt
  subst ev
  subst ep
  refine iF pins s σ H _ us Q I rx ⟨p,ys,rfl,.inr (bH rel.gh sq),?_⟩
  rw [rs.length]
  exact k _ H G fp .refl (rel.push (bo _))
 ·rename_i l
  cases e
  obtain ⟨v,ev,vt⟩:=mz vd
  obtain ⟨ep,hl⟩:=gk vt
  subst ev
  subst ep
  refine lX pins s σ H _ us Q I rx ⟨S l,rfl,by rw [l7];exact hl,?_⟩
  rw [l7]
  exact k _ H G fp .refl (rel.push (bo _))
 ·cases e
noncomputable def p9:List D→Res R
 | [.lst ds]=>.ok (.l .f,.lst ds)
 | [.tup ds]=>.ok (.l .f,.lst ds)
 | _=>.bad
theorem rX:cT X (.type "list") (rC X.K p9):=by
 rintro pins s σ H xs us Q I rx ⟨G,fp,es,vs,ds,r,⟨rel,k⟩,vd,e⟩
 unfold p9 at e
 split at e
 ·rename_i ds
  cases e
  obtain ⟨v,ev,p,ys,ep,sq,rs⟩:=mz vd
  subst ev
  subst ep
  refine iG pins s σ H _ us Q I rx ⟨p,ys,rfl,.inl sq,fun q hq=>?_⟩
  obtain ⟨rel2,st2⟩:=rel.newL hq rs
  exact k _ _ G _ st2 rel2
 ·rename_i ds
  cases e
  obtain ⟨v,ev,vt⟩:=mz vd
  obtain ⟨p,ys,ep,sq,rs⟩:=gm vt
  subst ev
  subst ep
  refine iG pins s σ H _ us Q I rx ⟨p,ys,rfl,.inr (bH rel.gh sq),fun q hq=>?_⟩
  obtain ⟨rel2,st2⟩:=rel.newL hq rs
  exact k _ _ G _ st2 rel2
 ·cases e
noncomputable def iI:List D→Res R
 | [.lst ds]=>.ok (.f,.tup ds)
 | [.tup ds]=>.ok (.f,.tup ds)
 | _=>.bad
theorem jj:cT X (.type "tuple") (rC X.K iI):=by
 rintro pins s σ H xs us Q I rx ⟨G,fp,es,vs,ds,r,⟨rel,k⟩,vd,e⟩
 unfold iI at e
 split at e
 ·rename_i ds
  cases e
  obtain ⟨v,ev,p,ys,ep,sq,rs⟩:=mz vd
  subst ev
  subst ep
  refine gP pins s σ H _ us Q I rx ⟨p,ys,rfl,.inl ⟨sq,fun q hq=>?_⟩⟩
  obtain ⟨G2,rel2,st2⟩:=k8 rel hq rs
  exact k _ _ G2 _ st2 rel2
 ·rename_i ds
  cases e
  obtain ⟨v,ev,vt⟩:=mz vd
  obtain ⟨p,ys,ep,sq,rs⟩:=gm vt
  subst ev
  subst ep
  exact gP pins s σ H _ us Q I rx ⟨p,ys,rfl,.inr ⟨bH rel.gh sq,k _ H G fp .refl (rel.push vt)⟩⟩
 ·cases e
noncomputable def rY:List D→Option (List Bool)
 | []=>some []
 | .bl b :: ds=>(rY ds).map (b :: ·)
 | _=>none
noncomputable def cD:List D→Option (List Int)
 | []=>some []
 | .int b :: ds=>(cD ds).map (b :: ·)
 | _=>none
theorem gG {K:W.Frag} {G:Hp}:∀ {ds:List D} {bs:List Int} {xs:List V},cD ds=some bs→Reps K G ds xs→xs=bs.map V.int
 | [],_,_,e,r=>by
  cases e
  rw [Reps] at r
  exact r
 | .int b :: ds,_,_,e,r=>by
  rw [cD,Option.map_eq_some_iff] at e
  obtain ⟨bs,e1,e2⟩:=e
  subst e2
  rw [Reps] at r
  obtain ⟨y,ys,e3,r1,r2⟩:=r
  rw [e3,bA r1,gG e1 r2]
  rfl
 | .non :: _,_,_,e,_ | .bl _ :: _,_,_,e,_ | .str _ :: _,_,_,e,_ | .tup _ :: _,_,_,e,_ | .lst _ :: _,_,_,e,_ | .dct _ _ _ :: _,_,_,e,_=>by simp [cD] at e
theorem kC (ns:List Int):cD (ns.map D.int)=some ns:=by
 induction ns with
 | nil=>rfl
 | cons n ns ih=>rw [List.map_cons,cD,ih];rfl
theorem rZ (ns:List Bool):rY (ns.map D.bl)=some ns:=by
 induction ns with
 | nil=>rfl
 | cons n ns ih=>rw [List.map_cons,rY,ih];rfl
noncomputable def lh:D→Option (List D)
 | .lst ds=>some ds
 | .tup ds=>some ds
 | _=>none
theorem xt {K:W.Frag} {G H:Hp} {d:D} {ds:List D} {v:V} (gh:Same G H) (e:lh d=some ds) (h:Vw K G H d v):∃ p xs,v=.ref p∧(SqL K H p xs∨SqT K H p xs)∧Reps K G ds xs:=by
 cases d with
 | lst es=>
  cases e
  obtain ⟨p,xs,ev,sq,rs⟩:=h
  exact ⟨p,xs,ev,.inl sq,rs⟩
 | tup es=>
  cases e
  obtain ⟨p,xs,ev,sq,rs⟩:=bg h
  exact ⟨p,xs,ev,.inr (bH gh sq),rs⟩
 | _=>cases e
noncomputable def CG:List D→Res R
 | [d]=>match (lh d).bind rY with
  | some bs=>.ok (.f,.bl (bs.all id))
  | none=>.bad
 | _=>.bad
noncomputable def zW:List D→Res R
 | [d]=>match (lh d).bind cD with
  | some ns=>.ok (.f,.int ns.sum)
  | none=>.bad
 | _=>.bad
noncomputable def maxD:List D→Res R
 | [d]=>match (lh d).bind cD with
  | some (n :: ns)=>.ok (.f,.int (pX (n :: ns)))
  | _=>.bad
 | [.int i,.int j]=>.ok (.f,.int (if i < j then j else i))
 | _=>.bad
theorem g5 {K:W.Frag} {G H:Hp} {d:D} {ns:List Int} {v:V} (gh:Same G H) (hb:(lh d).bind cD=some ns) (vt:Vw K G H d v):∃ p,v=.ref p∧(SqL K H p (ns.map V.int)∨SqT K H p (ns.map V.int)):=by
 obtain ⟨l,hl,hb⟩:=Option.bind_eq_some_iff.mp hb
 obtain ⟨p,ys,ep,sq,rs⟩:=xt gh hl vt
 have:=gG hb rs
 subst this
 exact ⟨p,ep,sq⟩
theorem zX (hc:X.calm=true):cT X (.builtin "sum") (rC X.K zW):=by
 rintro pins s σ H xs us Q I rx ⟨G,fp,es,vs,ds,r,⟨rel,k⟩,vd,e⟩
 unfold zW at e
 split at e
 ·rename_i d
  split at e
  ·rename_i ns hb
   cases e
   obtain ⟨v,ev,vt⟩:=mz vd
   obtain ⟨p,ep,sq⟩:=g5 rel.gh hb vt
   subst ev
   subst ep
   exact rm hc pins s σ H _ us Q I rx ⟨p,ns,rfl,sq,k _ H G fp .refl (rel.push (bo _))⟩
  ·cases e
 ·cases e
end
mutual
noncomputable def eqD:D→D→Bool
 | .non,.non=>true
 | .bl a,.bl b=>a == b
 | .bl a,.int j=>(if a then 1 else 0) == j
 | .int i,.bl b=>i == (if b then 1 else 0)
 | .int i,.int j=>i == j
 | .str a,.str b=>a == b
 | .tup a,.tup b=>km a b
 | .lst a,.lst b=>km a b
 | _,_=>false
noncomputable def km:List D→List D→Bool
 | [],[]=>true
 | a :: as,b :: bs=>eqD a b && km as bs
 | _,_=>false
end
mutual
noncomputable def plainD:Nat→D→Bool
 | n + 1,.tup ds=>plainDs n ds
 | n + 1,.lst ds=>plainDs n ds
 | 0,.tup _=>false
 | 0,.lst _=>false
 | _,.dct _ _ _=>false
 | _,_=>true
noncomputable def plainDs:Nat→List D→Bool
 | _,[]=>true
 | n,d :: ds=>plainD n d && plainDs n ds
end
theorem plainDs_mem:∀ {n:Nat} {ds:List D},plainDs n ds=true→∀ {i:Nat} {d:D},ds[i]?=some d→plainD n d=true
 | _,[],_,_,_,e=>by simp at e
 | n,a :: ds,h,0,d,e=>by
  rw [plainDs,Bool.and_eq_true] at h
  simp at e
  rw [←e]
  exact h.1
 | n,a :: ds,h,i + 1,d,e=>by
  rw [plainDs,Bool.and_eq_true] at h
  exact plainDs_mem h.2 (i:=i) (by simpa using e)
theorem g6:∀ {a b:List D},a.length≠b.length→km a b=false
 | [],[],h=>absurd rfl h
 | [],_ :: _,_=>by simp only [km]
 | _ :: _,[],_=>by simp only [km]
 | x :: xs,y :: ys,h=>by
  rw [km,g6 (fun e=>h (by simp [e])),Bool.and_false]
theorem dZ:∀ {a b:List D},a.length=b.length→(List.range a.length).all (fun j=>eqD (a.getD j .non) (b.getD j .non))=km a b
 | [],[],_=>rfl
 | [],_ :: _,h=>by simp at h
 | _ :: _,[],h=>by simp at h
 | x :: xs,y :: ys,h=>by
  rw [km,←dZ (a:=xs) (b:=ys) (by simpa using h),List.length_cons,List.range_succ_eq_map,List.all_cons,List.all_map]
  rfl
section
variable {X:Cx} {pins:List (Addr×Obj)} {σ:L2.St} {H:Hp} {s:Shared}
theorem jE (I:Inv X pins σ H s) {p:Addr} {xs ys:List V} (h:SqL X.K H p xs) (h':SqT X.K H p ys):False:=by
 obtain ⟨us,_,p1,_⟩:=I.list h
 obtain ⟨ws,_,p2,_⟩:=I.tuple h'
 exact SeqAt.ne_of_list_tuple p1.isList (show s.heap.IsTuple p ws.toArray from p2) rfl
mutual
theorem jF (I:Inv X pins σ H s):∀ (d e:D) (x:V) (n:Nat),plainD n d=true→Rep X.K H d x→Rep X.K H e x→d=e
 | .non,e,x,n,_,r,q=>by
  cases bS r
  cases e with
  | non=>rfl
  | bl b=>cases cv q
  | int i=>cases bA q
  | str l=>cases (bh q).1
  | tup l=>obtain ⟨p,xs,ev,_⟩:=bg q;cases ev
  | lst l=>obtain ⟨p,xs,ev,_⟩:=bu q;cases ev
  | dct tk ks vs=>rw [Rep] at q;obtain ⟨p,xs,o,ev,_⟩:=q;cases ev
 | .bl b,e,x,n,_,r,q=>by
  cases cv r
  cases e with
  | non=>cases bS q
  | bl b=>cases cv q;rfl
  | int i=>cases bA q
  | str l=>cases (bh q).1
  | tup l=>obtain ⟨p,xs,ev,_⟩:=bg q;cases ev
  | lst l=>obtain ⟨p,xs,ev,_⟩:=bu q;cases ev
  | dct tk ks vs=>rw [Rep] at q;obtain ⟨p,xs,o,ev,_⟩:=q;cases ev
 | .int i,e,x,n,_,r,q=>by
  cases bA r
  cases e with
  | non=>cases bS q
  | bl b=>cases cv q
  | int i=>cases bA q;rfl
  | str l=>cases (bh q).1
  | tup l=>obtain ⟨p,xs,ev,_⟩:=bg q;cases ev
  | lst l=>obtain ⟨p,xs,ev,_⟩:=bu q;cases ev
  | dct tk ks vs=>rw [Rep] at q;obtain ⟨p,xs,o,ev,_⟩:=q;cases ev
 | .str l,e,x,n,_,r,q=>by
  have hr:=(bh r).1
  subst hr
  cases e with
  | non=>cases bS q
  | bl b=>cases cv q
  | int i=>cases bA q
  | str l'=>
   have hq:=(bh q).1
   injection hq with hq
   rw [S_inj hq]
  | tup l=>obtain ⟨p,xs,ev,_⟩:=bg q;cases ev
  | lst l=>obtain ⟨p,xs,ev,_⟩:=bu q;cases ev
  | dct tk ks vs=>rw [Rep] at q;obtain ⟨p,xs,o,ev,_⟩:=q;cases ev
 | .tup l,e,x,n,h,r,q=>by
  obtain ⟨p,xs,ev,sq,rs⟩:=bg r
  subst ev
  cases e with
  | non=>cases bS q
  | bl b=>cases cv q
  | int i=>cases bA q
  | str l=>cases (bh q).1
  | tup l'=>
   obtain ⟨p',xs',ev',sq',rs'⟩:=bg q
   cases ev'
   have:=I.tuple_inj sq sq'
   subst this
   cases n with
   | zero=>simp only [plainD] at h;cases h
   | succ n=>
    simp only [plainD] at h
    rw [lj I l l' xs n h rs rs']
  | lst l'=>
   obtain ⟨p',xs',ev',sq',rs'⟩:=bu q
   cases ev'
   exact (jE I sq' sq).elim
  | dct tk ks vs=>
   exfalso
   rw [Rep] at q
   obtain ⟨p',xs',o,ev',rd,dd,_⟩:=q
   cases ev'
   obtain ⟨its,_,ip,_⟩:=I.tuple sq
   obtain ⟨ob,ho,hc,_⟩:=ip
   have hob:=rd.ok I.hok
   cases tk with
   | true=>
    obtain ⟨kvs,eo,_⟩:=dd
    subst eo
    obtain ⟨_,_,_,_,o2,_,_,ho2,ex,_⟩:=hob
    rw [ho] at ho2
    cases ho2
    rw [ex.1] at hc
    exact absurd hc (by decide)
   | false=>
    obtain ⟨kvs,eo,_⟩:=dd
    subst eo
    obtain ⟨_,_,_,_,o2,_,_,ho2,ex,_⟩:=hob
    rw [ho] at ho2
    cases ho2
    rw [ex.1] at hc
    exact absurd hc (by decide)
 | .lst l,e,x,n,h,r,q=>by
  obtain ⟨p,xs,ev,sq,rs⟩:=bu r
  subst ev
  cases e with
  | non=>cases bS q
  | bl b=>cases cv q
  | int i=>cases bA q
  | str l=>cases (bh q).1
  | tup l'=>
   obtain ⟨p',xs',ev',sq',rs'⟩:=bg q
   cases ev'
   exact (jE I sq sq').elim
  | lst l'=>
   obtain ⟨p',xs',ev',sq',rs'⟩:=bu q
   cases ev'
   have:=I.list_inj sq sq'
   subst this
   cases n with
   | zero=>simp only [plainD] at h;cases h
   | succ n=>
    simp only [plainD] at h
    rw [lj I l l' xs n h rs rs']
  | dct tk ks vs=>
   exfalso
   rw [Rep] at q
   obtain ⟨p',xs',o,ev',rd,dd,_⟩:=q
   cases ev'
   obtain ⟨its,_,ip,_⟩:=I.list sq
   obtain ⟨ob,_,ho,hc,_⟩:=ip
   have hob:=rd.ok I.hok
   cases tk with
   | true=>
    obtain ⟨kvs,eo,_⟩:=dd
    subst eo
    obtain ⟨_,_,_,_,o2,_,_,ho2,ex,_⟩:=hob
    rw [ho] at ho2
    cases ho2
    rw [ex.1] at hc
    exact absurd hc (by decide)
   | false=>
    obtain ⟨kvs,eo,_⟩:=dd
    subst eo
    obtain ⟨_,_,_,_,o2,_,_,ho2,ex,_⟩:=hob
    rw [ho] at ho2
    cases ho2
    rw [ex.1] at hc
    exact absurd hc (by decide)
 | .dct _ _ _,_,_,n,h,_,_=>by cases n <;> (simp only [plainD] at h;cases h)
theorem lj (I:Inv X pins σ H s):∀ (ds es:List D) (xs:List V) (n:Nat),plainDs n ds=true→Reps X.K H ds xs→Reps X.K H es xs→ds=es
 | [],es,xs,n,_,r,q=>by
  rw [Reps] at r
  subst r
  cases es with
  | nil=>rfl
  | cons e es=>
   rw [Reps] at q
   obtain ⟨y,ys,ev,_⟩:=q
   cases ev
 | d :: ds,es,xs,n,h,r,q=>by
  rw [Reps] at r
  obtain ⟨y,ys,ev,r1,r2⟩:=r
  subst ev
  rw [plainDs,Bool.and_eq_true] at h
  cases es with
  | nil=>
   rw [Reps] at q
   cases q
  | cons e es=>
   rw [Reps] at q
   obtain ⟨y',ys',ev,q1,q2⟩:=q
   cases ev
   rw [jF I d e y n h.1 r1 q1,lj I ds es ys n h.2 r2 q2]
end
mutual
theorem jk:∀ (d:D) (n:Nat),plainD n d=true→eqD d d=true
 | .non,_,_=>by simp only [eqD]
 | .bl _,_,_=>by simp only [eqD,beq_self_eq_true]
 | .int _,_,_=>by simp only [eqD,beq_self_eq_true]
 | .str _,_,_=>by simp only [eqD,beq_self_eq_true]
 | .tup ds,0,h=>by simp only [plainD] at h;cases h
 | .tup ds,n + 1,h=>by simp only [plainD] at h;simp only [eqD];exact jG ds n h
 | .lst ds,0,h=>by simp only [plainD] at h;cases h
 | .lst ds,n + 1,h=>by simp only [plainD] at h;simp only [eqD];exact jG ds n h
 | .dct _ _ _,n,h=>by cases n <;> (simp only [plainD] at h;cases h)
theorem jG:∀ (ds:List D) (n:Nat),plainDs n ds=true→km ds ds=true
 | [],_,_=>by simp only [km]
 | d :: ds,n,h=>by
  rw [plainDs,Bool.and_eq_true] at h
  rw [km,jk d n h.1,jG ds n h.2]
  rfl
end
open PySem.SeqAt
theorem bD {n:Nat} {tk:Bool} {ks vs:List D} (h:plainD n (.dct tk ks vs)=true):False:=by cases n <;> (simp only [plainD] at h;cases h)
mutual
theorem xu (I:Inv X pins σ H s):∀ (d e:D) (x y:V) (v u:Value) (A:Around) (n:Nat),plainD n d=true→plainD n e=true→A.units + n < cLine→Rep X.K H d x→Rep X.K H e y→RelV x v→RelV y u→EqAt A s v u (eqD d e)
 | .non,e,x,y,v,u,A,n,h,h',hu,r,q,rx,ry=>by
  cases bS r
  cases rx
  cases e with
  | non=>cases bS q;cases ry;simp only [eqD];exact .same _
  | bl b=>cases cv q;cases ry;simp only [eqD];exact .none_bool _
  | int i=>cases bA q;obtain ⟨t,rfl⟩:=ry;simp only [eqD];exact .none_int _ _
  | str l=>cases (bh q).1;obtain ⟨t,rfl⟩:=ry;simp only [eqD];exact .none_str _ _
  | tup l=>obtain ⟨p,xs,rfl,sq,_⟩:=bg q;cases ry;obtain ⟨its,_,ip,_⟩:=I.tuple sq;simp only [eqD];exact .none_tuple (show s.heap.IsTuple p its.toArray from ip) (by lia)
  | lst l=>obtain ⟨p,xs,rfl,sq,_⟩:=bu q;cases ry;obtain ⟨its,_,ip,_⟩:=I.list sq;simp only [eqD];exact .none_list ip.isList (by lia)
  | dct tk ks vs=>exact (bD h').elim
 | .bl b,e,x,y,v,u,A,n,h,h',hu,r,q,rx,ry=>by
  cases cv r
  cases rx
  cases e with
  | non=>cases bS q;cases ry;simp only [eqD];exact .bool_none _
  | bl b=>cases cv q;cases ry;simp only [eqD];exact .bool_bool _ _
  | int i=>cases bA q;obtain ⟨t,rfl⟩:=ry;simp only [eqD];exact .bool_int _ _ _
  | str l=>cases (bh q).1;obtain ⟨t,rfl⟩:=ry;simp only [eqD];exact .bool_str _ _ _
  | tup l=>obtain ⟨p,xs,rfl,sq,_⟩:=bg q;cases ry;obtain ⟨its,_,ip,_⟩:=I.tuple sq;simp only [eqD];exact .bool_tuple _ (show s.heap.IsTuple p its.toArray from ip) (by lia)
  | lst l=>obtain ⟨p,xs,rfl,sq,_⟩:=bu q;cases ry;obtain ⟨its,_,ip,_⟩:=I.list sq;simp only [eqD];exact .bool_list _ ip.isList (by lia)
  | dct tk ks vs=>exact (bD h').elim
 | .int b,e,x,y,v,u,A,n,h,h',hu,r,q,rx,ry=>by
  cases bA r
  obtain ⟨t0,rfl⟩:=rx
  cases e with
  | non=>cases bS q;cases ry;simp only [eqD];exact .int_none _ _
  | bl b=>cases cv q;cases ry;simp only [eqD];exact .int_bool _ _ _
  | int i=>cases bA q;obtain ⟨t,rfl⟩:=ry;simp only [eqD];exact .int_int _ _ _ _
  | str l=>cases (bh q).1;obtain ⟨t,rfl⟩:=ry;simp only [eqD];exact .int_str _ _ _ _
  | tup l=>obtain ⟨p,xs,rfl,sq,_⟩:=bg q;cases ry;obtain ⟨its,_,ip,_⟩:=I.tuple sq;simp only [eqD];exact .int_tuple _ _ (show s.heap.IsTuple p its.toArray from ip) (by lia)
  | lst l=>obtain ⟨p,xs,rfl,sq,_⟩:=bu q;cases ry;obtain ⟨its,_,ip,_⟩:=I.list sq;simp only [eqD];exact .int_list _ _ ip.isList (by lia)
  | dct tk ks vs=>exact (bD h').elim
 | .str b,e,x,y,v,u,A,n,h,h',hu,r,q,rx,ry=>by
  have hr:=(bh r).1
  subst hr
  obtain ⟨t0,rfl⟩:=rx
  cases e with
  | non=>cases bS q;cases ry;simp only [eqD];exact .str_none _ _
  | bl b=>cases cv q;cases ry;simp only [eqD];exact .str_bool _ _ _
  | int i=>cases bA q;obtain ⟨t,rfl⟩:=ry;simp only [eqD];exact .str_int _ _ _ _
  | str l=>
   have hq:=(bh q).1
   subst hq
   obtain ⟨t,rfl⟩:=ry
   have e1:(b == l)=(S b == S l):=by
    rw [Bool.eq_iff_iff,beq_iff_eq,beq_iff_eq]
    exact ⟨fun z=>by rw [z],S_inj⟩
   simp only [eqD,e1]
   exact .str_str _ _ _ _
  | tup l=>obtain ⟨p,xs,rfl,sq,_⟩:=bg q;cases ry;obtain ⟨its,_,ip,_⟩:=I.tuple sq;simp only [eqD];exact .str_tuple _ _ (show s.heap.IsTuple p its.toArray from ip) (by lia)
  | lst l=>obtain ⟨p,xs,rfl,sq,_⟩:=bu q;cases ry;obtain ⟨its,_,ip,_⟩:=I.list sq;simp only [eqD];exact .str_list _ _ ip.isList (by lia)
  | dct tk ks vs=>exact (bD h').elim
 | .tup l,e,x,y,v,u,A,n,h,h',hu,r,q,rx,ry=>by
  have rr:=r
  obtain ⟨p,xs,ev,sq,rs⟩:=bg r
  subst ev
  cases rx
  obtain ⟨its,vl,ip,_⟩:=I.tuple sq
  have ip:s.heap.IsTuple p its.toArray:=ip
  cases e with
  | non=>cases bS q;cases ry;simp only [eqD];exact .tuple_none ip (by lia)
  | bl b=>cases cv q;cases ry;simp only [eqD];exact .tuple_bool _ ip (by lia)
  | int i=>cases bA q;obtain ⟨t,rfl⟩:=ry;simp only [eqD];exact .tuple_int _ _ ip (by lia)
  | str l=>cases (bh q).1;obtain ⟨t,rfl⟩:=ry;simp only [eqD];exact .tuple_str _ _ ip (by lia)
  | tup l'=>
   obtain ⟨p',xs',ev',sq',rs'⟩:=bg q
   subst ev'
   cases ry
   by_cases hp:p=p'
   ·subst hp
    have hz:=jF I _ _ _ n h rr q
    rw [←hz,jk _ n h]
    exact .same _
   ·obtain ⟨its',vl',ip',_⟩:=I.tuple sq'
    have ip':s.heap.IsTuple p' its'.toArray:=ip'
    cases n with
    | zero=>simp only [plainD] at h;cases h
    | succ n=>
     simp only [plainD] at h h'
     have l1:=vl.length
     have l2:=vl'.length
     have l3:=rs.length
     have l4:=rs'.length
     have key:=RcAt.tuples (A:=A) (e:=fun j=>eqD (l.getD j .non) (l'.getD j .non)) ip ip' (by lia) fun j h1 h2=>by
      simp only [List.size_toArray] at h1 h2
      have g1:l[j]?=some (l[j]'(by lia)):=List.getElem?_eq_getElem _
      have g2:l'[j]?=some (l'[j]'(by lia)):=List.getElem?_eq_getElem _
      obtain ⟨w1,hw1,rw1⟩:=rs.get g1
      obtain ⟨w2,hw2,rw2⟩:=rs'.get g2
      obtain ⟨u1,hu1,ru1⟩:=vl.get hw1
      obtain ⟨u2,hu2,ru2⟩:=vl'.get hw2
      have q1:its.toArray[j]=u1:=by rw [List.getElem?_eq_getElem h1] at hu1;simpa using hu1
      have q2:its'.toArray[j]=u2:=by rw [List.getElem?_eq_getElem h2] at hu2;simpa using hu2
      rw [q1,q2,List.getD_eq_getElem?_getD,List.getD_eq_getElem?_getD,g1,g2]
      exact mB I l j _ g1 _ w1 w2 u1 u2 A.in1 n (plainDs_mem h g1) (plainDs_mem h' g2) (by show A.units + 1 + n < cLine;lia) rw1 rw2 ru1 ru2
     simp only [eqD]
     have fin:((List.range (min its.toArray.size its'.toArray.size)).all (fun j=>eqD (l.getD j .non) (l'.getD j .non)) && its.toArray.size == its'.toArray.size)=km l l':=by
      simp only [List.size_toArray]
      by_cases hl:l.length=l'.length
      ·rw [←dZ hl,show min its.length its'.length=l.length by lia,show (its.length == its'.length)=true by rw [beq_iff_eq];lia,Bool.and_true]
      ·rw [g6 hl,show (its.length == its'.length)=false by rw [beq_eq_false_iff_ne];lia,Bool.and_false]
     rw [←fin]
     exact .of_refs hp key
  | lst l'=>obtain ⟨p',xs',ev',sq',_⟩:=bu q;subst ev';cases ry;obtain ⟨its',_,ip',_⟩:=I.list sq';simp only [eqD];exact .tuple_list ip ip'.isList (by lia)
  | dct tk ks vs=>exact (bD h').elim
 | .lst l,e,x,y,v,u,A,n,h,h',hu,r,q,rx,ry=>by
  have rr:=r
  obtain ⟨p,xs,ev,sq,rs⟩:=bu r
  subst ev
  cases rx
  obtain ⟨its,vl,ip,_⟩:=I.list sq
  have ip:=ip.isList
  cases e with
  | non=>cases bS q;cases ry;simp only [eqD];exact .list_none ip (by lia)
  | bl b=>cases cv q;cases ry;simp only [eqD];exact .list_bool _ ip (by lia)
  | int i=>cases bA q;obtain ⟨t,rfl⟩:=ry;simp only [eqD];exact .list_int _ _ ip (by lia)
  | str l=>cases (bh q).1;obtain ⟨t,rfl⟩:=ry;simp only [eqD];exact .list_str _ _ ip (by lia)
  | lst l'=>
   obtain ⟨p',xs',ev',sq',rs'⟩:=bu q
   subst ev'
   cases ry
   by_cases hp:p=p'
   ·subst hp
    have hz:=jF I _ _ _ n h rr q
    rw [←hz,jk _ n h]
    exact .same _
   ·obtain ⟨its',vl',ip',_⟩:=I.list sq'
    have ip':=ip'.isList
    cases n with
    | zero=>simp only [plainD] at h;cases h
    | succ n=>
     simp only [plainD] at h h'
     have l1:=vl.length
     have l2:=vl'.length
     have l3:=rs.length
     have l4:=rs'.length
     simp only [eqD]
     by_cases hl:l.length=l'.length
     ·have key:=RcAt.lists (A:=A) (e:=fun j=>eqD (l.getD j .non) (l'.getD j .non)) ip ip' (by simp only [List.size_toArray];lia) (by lia) fun j h1 h2=>by
       simp only [List.size_toArray] at h1 h2
       have g1:l[j]?=some (l[j]'(by lia)):=List.getElem?_eq_getElem _
       have g2:l'[j]?=some (l'[j]'(by lia)):=List.getElem?_eq_getElem _
       obtain ⟨w1,hw1,rw1⟩:=rs.get g1
       obtain ⟨w2,hw2,rw2⟩:=rs'.get g2
       obtain ⟨u1,hu1,ru1⟩:=vl.get hw1
       obtain ⟨u2,hu2,ru2⟩:=vl'.get hw2
       have q1:its.toArray[j]=u1:=by rw [List.getElem?_eq_getElem h1] at hu1;simpa using hu1
       have q2:its'.toArray[j]=u2:=by rw [List.getElem?_eq_getElem h2] at hu2;simpa using hu2
       rw [q1,q2,List.getD_eq_getElem?_getD,List.getD_eq_getElem?_getD,g1,g2]
       exact mB I l j _ g1 _ w1 w2 u1 u2 A.in1 n (plainDs_mem h g1) (plainDs_mem h' g2) (by show A.units + 1 + n < cLine;lia) rw1 rw2 ru1 ru2
      rw [←dZ hl,show l.length=its.toArray.size by simp only [List.size_toArray];lia]
      exact .of_refs hp key
     ·rw [g6 hl]
      exact .of_refs hp (RcAt.lists_lengths ip ip' (by simp only [List.size_toArray,bne_iff_ne];lia) (by lia))
  | tup l'=>obtain ⟨p',xs',ev',sq',_⟩:=bg q;subst ev';cases ry;obtain ⟨its',_,ip',_⟩:=I.tuple sq';simp only [eqD];exact .list_tuple ip (show s.heap.IsTuple p' its'.toArray from ip') (by lia)
  | dct tk ks vs=>exact (bD h').elim
 | .dct _ _ _,_,_,_,_,_,_,n,h,_,_,_,_,_,_=>(bD h).elim
theorem mB (I:Inv X pins σ H s):∀ (ds:List D) (j:Nat) (d:D),ds[j]?=some d→∀ (e:D) (x y:V) (v u:Value) (A:Around) (n:Nat),plainD n d=true→plainD n e=true→A.units + n < cLine→Rep X.K H d x→Rep X.K H e y→RelV x v→RelV y u→EqAt A s v u (eqD d e)
 | [],_,_,hj=>by simp at hj
 | d' :: ds,0,d,hj=>by
  simp at hj
  subst hj
  exact xu I d'
 | d' :: ds,j + 1,d,hj=>mB I ds j d (by simpa using hj)
end
end
section
variable {X:Cx}
noncomputable def eqO (a b:D):Res R:=if plainD 40 a && plainD 40 b then .ok (.f,.bl (eqD a b)) else .bad
noncomputable def neO (a b:D):Res R:=if plainD 40 a && plainD 40 b then .ok (.f,.bl (!eqD a b)) else .bad
open PySem.SeqAt in
theorem zY {pins:List (Addr×Obj)} {σ:L2.St} {H:Hp} {s:Shared} (I:Inv X pins σ H s) {d e:D} {x y:V} {v u:Value} {A:Around} (h:plainD 40 d=true) (h':plainD 40 e=true) (hu:A.units + 64 < cLine) (r:Rep X.K H d x) (q:Rep X.K H e y) (rx:RelV x v) (ry:RelV y u) :
  RcAt A s v u (eqD d e)∧RcNeAt A s v u (!eqD d e):=by
 cases d with
 | non=>
  cases bS r
  cases rx
  cases e with
  | non=>cases bS q;cases ry;simp only [eqD];exact ⟨.none_none,.none_none⟩
  | bl b=>cases cv q;cases ry;simp only [eqD];exact ⟨.none_bool _,.none_bool _⟩
  | int i=>cases bA q;obtain ⟨t,rfl⟩:=ry;simp only [eqD];exact ⟨.none_int _ _,.none_int _ _⟩
  | str l=>cases (bh q).1;obtain ⟨t,rfl⟩:=ry;simp only [eqD];exact ⟨.none_str _ _,.none_str _ _⟩
  | tup l=>obtain ⟨p,xs,rfl,sq,_⟩:=bg q;cases ry;obtain ⟨its,_,ip,_⟩:=I.tuple sq;simp only [eqD];exact ⟨.none_tuple (show s.heap.IsTuple p its.toArray from ip) (by lia),.none_tuple (show s.heap.IsTuple p its.toArray from ip) (by lia)⟩
  | lst l=>obtain ⟨p,xs,rfl,sq,_⟩:=bu q;cases ry;obtain ⟨its,_,ip,_⟩:=I.list sq;simp only [eqD];exact ⟨.none_list ip.isList (by lia),.none_list ip.isList (by lia)⟩
  | dct tk ks vs=>exact (bD h').elim
 | bl b=>
  cases cv r
  cases rx
  cases e with
  | non=>cases bS q;cases ry;simp only [eqD];exact ⟨.bool_none _,.bool_none _⟩
  | bl b=>cases cv q;cases ry;simp only [eqD];exact ⟨.bool_bool _ _,.bool_bool _ _⟩
  | int i=>cases bA q;obtain ⟨t,rfl⟩:=ry;simp only [eqD];exact ⟨.bool_int _ _ _,.bool_int _ _ _⟩
  | str l=>cases (bh q).1;obtain ⟨t,rfl⟩:=ry;simp only [eqD];exact ⟨.bool_str _ _ _,.bool_str _ _ _⟩
  | tup l=>obtain ⟨p,xs,rfl,sq,_⟩:=bg q;cases ry;obtain ⟨its,_,ip,_⟩:=I.tuple sq;simp only [eqD];exact ⟨.bool_tuple _ (show s.heap.IsTuple p its.toArray from ip) (by lia),.bool_tuple _ (show s.heap.IsTuple p its.toArray from ip) (by lia)⟩
  | lst l=>obtain ⟨p,xs,rfl,sq,_⟩:=bu q;cases ry;obtain ⟨its,_,ip,_⟩:=I.list sq;simp only [eqD];exact ⟨.bool_list _ ip.isList (by lia),.bool_list _ ip.isList (by lia)⟩
  | dct tk ks vs=>exact (bD h').elim
 | int b=>
  cases bA r
  obtain ⟨t0,rfl⟩:=rx
  cases e with
  | non=>cases bS q;cases ry;simp only [eqD];exact ⟨.int_none _ _,.int_none _ _⟩
  | bl b=>cases cv q;cases ry;simp only [eqD];exact ⟨.int_bool _ _ _,.int_bool _ _ _⟩
  | int i=>cases bA q;obtain ⟨t,rfl⟩:=ry;simp only [eqD];exact ⟨.int_int _ _ _ _,.int_int _ _ _ _⟩
  | str l=>cases (bh q).1;obtain ⟨t,rfl⟩:=ry;simp only [eqD];exact ⟨.int_str _ _ _ _,.int_str _ _ _ _⟩
  | tup l=>obtain ⟨p,xs,rfl,sq,_⟩:=bg q;cases ry;obtain ⟨its,_,ip,_⟩:=I.tuple sq;simp only [eqD];exact ⟨.int_tuple _ _ (show s.heap.IsTuple p its.toArray from ip) (by lia),.int_tuple _ _ (show s.heap.IsTuple p its.toArray from ip) (by lia)⟩
  | lst l=>obtain ⟨p,xs,rfl,sq,_⟩:=bu q;cases ry;obtain ⟨its,_,ip,_⟩:=I.list sq;simp only [eqD];exact ⟨.int_list _ _ ip.isList (by lia),.int_list _ _ ip.isList (by lia)⟩
  | dct tk ks vs=>exact (bD h').elim
 | str b=>
  have hr:=(bh r).1
  subst hr
  obtain ⟨t0,rfl⟩:=rx
  cases e with
  | non=>cases bS q;cases ry;simp only [eqD];exact ⟨.str_none _ _,.str_none _ _⟩
  | bl b=>cases cv q;cases ry;simp only [eqD];exact ⟨.str_bool _ _ _,.str_bool _ _ _⟩
  | int i=>cases bA q;obtain ⟨t,rfl⟩:=ry;simp only [eqD];exact ⟨.str_int _ _ _ _,.str_int _ _ _ _⟩
  | str l=>
   have hq:=(bh q).1
   subst hq
   obtain ⟨t,rfl⟩:=ry
   have e1:(b == l)=(S b == S l):=by
    rw [Bool.eq_iff_iff,beq_iff_eq,beq_iff_eq]
    exact ⟨fun z=>by rw [z],S_inj⟩
   simp only [eqD,e1]
   exact ⟨.str_str _ _ _ _,.str_str _ _ _ _⟩
  | tup l=>obtain ⟨p,xs,rfl,sq,_⟩:=bg q;cases ry;obtain ⟨its,_,ip,_⟩:=I.tuple sq;simp only [eqD];exact ⟨.str_tuple _ _ (show s.heap.IsTuple p its.toArray from ip) (by lia),.str_tuple _ _ (show s.heap.IsTuple p its.toArray from ip) (by lia)⟩
  | lst l=>obtain ⟨p,xs,rfl,sq,_⟩:=bu q;cases ry;obtain ⟨its,_,ip,_⟩:=I.list sq;simp only [eqD];exact ⟨.str_list _ _ ip.isList (by lia),.str_list _ _ ip.isList (by lia)⟩
  | dct tk ks vs=>exact (bD h').elim
 | tup l=>
  obtain ⟨p,xs,ev,sq,rs⟩:=bg r
  subst ev
  cases rx
  obtain ⟨its,vl,ip,_⟩:=I.tuple sq
  have ip:s.heap.IsTuple p its.toArray:=ip
  cases e with
  | non=>cases bS q;cases ry;simp only [eqD];exact ⟨.tuple_none ip (by lia),.tuple_none ip (by lia)⟩
  | bl b=>cases cv q;cases ry;simp only [eqD];exact ⟨.tuple_bool _ ip (by lia),.tuple_bool _ ip (by lia)⟩
  | int i=>cases bA q;obtain ⟨t,rfl⟩:=ry;simp only [eqD];exact ⟨.tuple_int _ _ ip (by lia),.tuple_int _ _ ip (by lia)⟩
  | str l=>cases (bh q).1;obtain ⟨t,rfl⟩:=ry;simp only [eqD];exact ⟨.tuple_str _ _ ip (by lia),.tuple_str _ _ ip (by lia)⟩
  | tup l'=>
   obtain ⟨p',xs',ev',sq',rs'⟩:=bg q
   subst ev'
   cases ry
   obtain ⟨its',vl',ip',_⟩:=I.tuple sq'
   have ip':s.heap.IsTuple p' its'.toArray:=ip'
   simp only [plainD] at h h'
   have l1:=vl.length
   have l2:=vl'.length
   have l3:=rs.length
   have l4:=rs'.length
   have el:∀ j (h1:j < its.toArray.size) (h2:j < its'.toArray.size),EqAt A.in1 s its.toArray[j] its'.toArray[j] ((fun j=>eqD (l.getD j .non) (l'.getD j .non)) j):=fun j h1 h2=>by
    simp only [List.size_toArray] at h1 h2
    have g1:l[j]?=some (l[j]'(by lia)):=List.getElem?_eq_getElem _
    have g2:l'[j]?=some (l'[j]'(by lia)):=List.getElem?_eq_getElem _
    obtain ⟨w1,hw1,rw1⟩:=rs.get g1
    obtain ⟨w2,hw2,rw2⟩:=rs'.get g2
    obtain ⟨u1,hu1,ru1⟩:=vl.get hw1
    obtain ⟨u2,hu2,ru2⟩:=vl'.get hw2
    have q1:its.toArray[j]=u1:=by rw [List.getElem?_eq_getElem h1] at hu1;simpa using hu1
    have q2:its'.toArray[j]=u2:=by rw [List.getElem?_eq_getElem h2] at hu2;simpa using hu2
    dsimp only
    rw [q1,q2,List.getD_eq_getElem?_getD,List.getD_eq_getElem?_getD,g1,g2]
    exact mB I l j _ g1 _ w1 w2 u1 u2 A.in1 39 (plainDs_mem h g1) (plainDs_mem h' g2) (by show A.units + 1 + 39 < cLine;lia) rw1 rw2 ru1 ru2
   simp only [eqD]
   have fin:((List.range (min its.toArray.size its'.toArray.size)).all (fun j=>eqD (l.getD j .non) (l'.getD j .non)) && its.toArray.size == its'.toArray.size)=km l l':=by
    simp only [List.size_toArray]
    by_cases hl:l.length=l'.length
    ·rw [←dZ hl,show min its.length its'.length=l.length by lia,show (its.length == its'.length)=true by rw [beq_iff_eq];lia,Bool.and_true]
    ·rw [g6 hl,show (its.length == its'.length)=false by rw [beq_eq_false_iff_ne];lia,Bool.and_false]
   rw [←fin]
   exact ⟨.tuples ip ip' (by lia) el,.tuples ip ip' (by lia) el⟩
  | lst l'=>obtain ⟨p',xs',ev',sq',_⟩:=bu q;subst ev';cases ry;obtain ⟨its',_,ip',_⟩:=I.list sq';simp only [eqD];exact ⟨.tuple_list ip ip'.isList (by lia),.tuple_list ip ip'.isList (by lia)⟩
  | dct tk ks vs=>exact (bD h').elim
 | lst l=>
  obtain ⟨p,xs,ev,sq,rs⟩:=bu r
  subst ev
  cases rx
  obtain ⟨its,vl,ip,_⟩:=I.list sq
  have ip:=ip.isList
  cases e with
  | non=>cases bS q;cases ry;simp only [eqD];exact ⟨.list_none ip (by lia),.list_none ip (by lia)⟩
  | bl b=>cases cv q;cases ry;simp only [eqD];exact ⟨.list_bool _ ip (by lia),.list_bool _ ip (by lia)⟩
  | int i=>cases bA q;obtain ⟨t,rfl⟩:=ry;simp only [eqD];exact ⟨.list_int _ _ ip (by lia),.list_int _ _ ip (by lia)⟩
  | str l=>cases (bh q).1;obtain ⟨t,rfl⟩:=ry;simp only [eqD];exact ⟨.list_str _ _ ip (by lia),.list_str _ _ ip (by lia)⟩
  | lst l'=>
   obtain ⟨p',xs',ev',sq',rs'⟩:=bu q
   subst ev'
   cases ry
   obtain ⟨its',vl',ip',_⟩:=I.list sq'
   have ip':=ip'.isList
   simp only [plainD] at h h'
   have l1:=vl.length
   have l2:=vl'.length
   have l3:=rs.length
   have l4:=rs'.length
   simp only [eqD]
   by_cases hl:l.length=l'.length
   ·have el:∀ j (h1:j < its.toArray.size) (h2:j < its'.toArray.size),EqAt A.in1 s its.toArray[j] its'.toArray[j] ((fun j=>eqD (l.getD j .non) (l'.getD j .non)) j):=fun j h1 h2=>by
     simp only [List.size_toArray] at h1 h2
     have g1:l[j]?=some (l[j]'(by lia)):=List.getElem?_eq_getElem _
     have g2:l'[j]?=some (l'[j]'(by lia)):=List.getElem?_eq_getElem _
     obtain ⟨w1,hw1,rw1⟩:=rs.get g1
     obtain ⟨w2,hw2,rw2⟩:=rs'.get g2
     obtain ⟨u1,hu1,ru1⟩:=vl.get hw1
     obtain ⟨u2,hu2,ru2⟩:=vl'.get hw2
     have q1:its.toArray[j]=u1:=by rw [List.getElem?_eq_getElem h1] at hu1;simpa using hu1
     have q2:its'.toArray[j]=u2:=by rw [List.getElem?_eq_getElem h2] at hu2;simpa using hu2
     dsimp only
     rw [q1,q2,List.getD_eq_getElem?_getD,List.getD_eq_getElem?_getD,g1,g2]
     exact mB I l j _ g1 _ w1 w2 u1 u2 A.in1 39 (plainDs_mem h g1) (plainDs_mem h' g2) (by show A.units + 1 + 39 < cLine;lia) rw1 rw2 ru1 ru2
    rw [←dZ hl,show l.length=its.toArray.size by simp only [List.size_toArray];lia]
    exact ⟨.lists ip ip' (by simp only [List.size_toArray];lia) (by lia) el,.lists ip ip' (by simp only [List.size_toArray];lia) (by lia) el⟩
   ·rw [g6 hl]
    exact ⟨.lists_lengths ip ip' (by simp only [List.size_toArray,bne_iff_ne];lia) (by lia),.lists_lengths ip ip' (by simp only [List.size_toArray,bne_iff_ne];lia) (by lia)⟩
  | tup l'=>obtain ⟨p',xs',ev',sq',_⟩:=bg q;subst ev';cases ry;obtain ⟨its',_,ip',_⟩:=I.tuple sq';simp only [eqD];exact ⟨.list_tuple ip (show s.heap.IsTuple p' its'.toArray from ip') (by lia),.list_tuple ip (show s.heap.IsTuple p' its'.toArray from ip') (by lia)⟩
  | dct tk ks vs=>exact (bD h').elim
 | dct tk ks vs=>exact (bD h).elim
theorem i8 (hu:X.A.units + 64 < cLine):OpR X (compareOp .Eq) (rGA X.K eqO):=by
 rintro pins s σ H x y v u Q I rx ry ⟨G,fp,es,vs,a,b,r,⟨rel,k⟩,va,vb,e⟩
 unfold eqO at e
 split at e
 ·rename_i hp
  cases e
  rw [Bool.and_eq_true] at hp
  exact (zY I hp.1 hp.2 hu va vb rx ry).1 _ _ _ _ ⟨.bl _,H,I,rfl,k _ H G fp .refl (rel.push (cC _))⟩
 ·cases e
theorem uI (hu:X.A.units + 64 < cLine):OpR X (compareOp .NotEq) (rGA X.K neO):=by
 rintro pins s σ H x y v u Q I rx ry ⟨G,fp,es,vs,a,b,r,⟨rel,k⟩,va,vb,e⟩
 unfold neO at e
 split at e
 ·rename_i hp
  cases e
  rw [Bool.and_eq_true] at hp
  exact (zY I hp.1 hp.2 hu va vb rx ry).2 _ _ _ _ ⟨.bl _,H,I,rfl,k _ H G fp .refl (rel.push (cC _))⟩
 ·cases e
noncomputable def qy (a:D) (ds:List D):Bool:=ds.any fun d=>eqD d a
noncomputable def inO (a b:D):Res R:=match b with
 | .lst ds=>if plainD 40 a && plainDs 40 ds then .ok (.f,.bl (qy a ds)) else .bad
 | .tup ds=>if plainD 40 a && plainDs 40 ds then .ok (.f,.bl (qy a ds)) else .bad
 | .str l=>match a with
  | .str [c]=>.ok (.f,.bl (decide (c∈l)))
  | _=>.bad
 | _=>.bad
noncomputable def r6 (a b:D):Res R:=(inO a b).bind fun r=>match r.2 with
 | .bl k=>.ok (.f,.bl (!k))
 | _=>.bad
open PySem.SeqAt in
theorem pd {pins:List (Addr×Obj)} {σ:L2.St} {H:Hp} {s:Shared} (I:Inv X pins σ H s) {a:D} {x:V} {v:Value} {A:Around} (h:plainD 40 a=true) (hu:A.units + 64 < cLine) (r:Rep X.K H a x) (rx:RelV x v) :
  ∀ (ds:List D) (xs:List V) (us:List Value),plainDs 40 ds=true→Reps X.K H ds xs→Vals xs us→∃ e:Value→Bool,us.any e=qy a ds∧∀ u∈us,EqAt A s u v (e u):=by
 classical
 intro ds xs us hp rs vl
 refine ⟨fun u=>decide (∃ (j:Nat) (d:D),ds[j]?=some d∧us[j]?=some u∧eqD d a=true),?_,fun u hu'=>?_⟩
 ·rw [Bool.eq_iff_iff,List.any_eq_true]
  unfold qy
  rw [List.any_eq_true]
  constructor
  ·rintro ⟨u,_,hd⟩
   obtain ⟨j,d,h1,_,h2⟩:=of_decide_eq_true hd
   exact ⟨d,List.mem_of_getElem? h1,h2⟩
  ·rintro ⟨d,hd,h2⟩
   obtain ⟨j,hj⟩:=List.mem_iff_getElem?.mp hd
   obtain ⟨w1,hw1,rw1⟩:=rs.get hj
   obtain ⟨u1,hu1,ru1⟩:=vl.get hw1
   exact ⟨u1,List.mem_of_getElem? hu1,decide_eq_true ⟨j,d,hj,hu1,h2⟩⟩
 ·obtain ⟨j,hj⟩:=List.mem_iff_getElem?.mp hu'
  have l1:=vl.length
  have l2:=rs.length
  have hjl:=(List.getElem?_eq_some_iff.mp hj).1
  have g1:ds[j]?=some (ds[j]'(by lia)):=List.getElem?_eq_getElem _
  obtain ⟨w1,hw1,rw1⟩:=rs.get g1
  obtain ⟨u1,hu1,ru1⟩:=vl.get hw1
  rw [hj] at hu1
  cases hu1
  have z:=xu I _ _ w1 x u v A 40 (plainDs_mem hp g1) h (by lia) rw1 r ru1 rx
  have e:decide (∃ (j:Nat) (d:D),ds[j]?=some d∧us[j]?=some u∧eqD d a=true)=eqD (ds[j]'(by lia)) a:=by
   rw [Bool.eq_iff_iff,decide_eq_true_eq]
   constructor
   ·rintro ⟨j2,d2,k1,k2,k3⟩
    obtain ⟨w2,hw2,rw2⟩:=rs.get k1
    obtain ⟨u2,hu2,ru2⟩:=vl.get hw2
    rw [k2] at hu2
    cases hu2
    have:=ru1.inj ru2
    subst this
    rw [jF I _ _ _ 40 (plainDs_mem hp g1) rw1 rw2]
    exact k3
   ·intro k3
    exact ⟨j,_,g1,hj,k3⟩
  show EqAt A s u v (decide (∃ (j:Nat) (d:D),ds[j]?=some d∧us[j]?=some u∧eqD d a=true))
  rw [e]
  exact z
theorem mC (l:List Nat) (c:Nat):(!(Builtin.Str.occurrences (S l) (S [c]) 0 (S l).length 1).isEmpty)=decide (c∈l):=by
 have h:=PySem.StrLaws.found_one (S l) c
 rw [di] at h
 exact h
theorem ll {e:Value→Bool} (us:List Value):us.toArray.any e=us.any e:=by simp
theorem BV (hu:X.A.units + 65 < cLine):OpR X (compareOp .In) (rGA X.K inO):=by
 rintro pins s σ H x y v u Q I rx ry ⟨G,fp,es,vs,a,b,r,⟨rel,k⟩,va,vb,e⟩
 unfold inO at e
 split at e
 ·rename_i ds
  split at e
  ·rename_i hp
   cases e
   rw [Bool.and_eq_true] at hp
   obtain ⟨p,xs,ev,sq,rs⟩:=bu vb
   subst ev
   cases ry
   obtain ⟨its,vl,ip,_⟩:=I.list sq
   obtain ⟨ef,e1,e2⟩:=pd (A:=X.A.in1) I hp.1 (by show X.A.units + 1 + 64 < cLine;lia) va rx ds xs its hp.2 rs vl
   refine SeqAt.in_listAt ef ip.isList (fun z hz=>e2 z (by simpa using hz)) ?_
   rw [ll,e1]
   exact ⟨.bl _,H,I,rfl,k _ H G fp .refl (rel.push (cC _))⟩
  ·cases e
 ·rename_i ds
  split at e
  ·rename_i hp
   cases e
   rw [Bool.and_eq_true] at hp
   obtain ⟨p,xs,ev,sq,rs⟩:=bg vb
   subst ev
   cases ry
   obtain ⟨its,vl,ip,_⟩:=I.tuple sq
   obtain ⟨ef,e1,e2⟩:=pd (A:=X.A.in1) I hp.1 (by show X.A.units + 1 + 64 < cLine;lia) va rx ds xs its hp.2 rs vl
   refine SeqAt.in_tupleAt ef (show s.heap.IsTuple p its.toArray from ip) (fun z hz=>e2 z (by simpa using hz)) ?_
   rw [ll,e1]
   exact ⟨.bl _,H,I,rfl,k _ H G fp .refl (rel.push (cC _))⟩
  ·cases e
 ·rename_i l
  split at e
  ·rename_i c
   cases e
   obtain ⟨e1,h1⟩:=bh va
   obtain ⟨e2,h2⟩:=bh vb
   subst e1
   subst e2
   refine qJ pins s σ H _ _ v u Q I rx ry ⟨_,_,rfl,rfl,?_⟩
   rw [mC]
   exact k _ H G fp .refl (rel.push (cC _))
  ·cases e
 ·cases e
theorem zZ (hu:X.A.units + 65 < cLine):OpR X (compareOp .NotIn) (rGA X.K r6):=by
 rintro pins s σ H x y v u Q I rx ry ⟨G,fp,es,vs,a,b,r,⟨rel,k⟩,va,vb,e⟩
 unfold r6 at e
 obtain ⟨r0,e0,e⟩:=aj e
 unfold inO at e0
 split at e0
 ·rename_i ds
  split at e0
  ·rename_i hp
   cases e0
   cases e
   rw [Bool.and_eq_true] at hp
   obtain ⟨p,xs,ev,sq,rs⟩:=bu vb
   subst ev
   cases ry
   obtain ⟨its,vl,ip,_⟩:=I.list sq
   obtain ⟨ef,e1,e2⟩:=pd (A:=X.A.in1) I hp.1 (by show X.A.units + 1 + 64 < cLine;lia) va rx ds xs its hp.2 rs vl
   refine SeqAt.notIn_listAt ef ip.isList (fun z hz=>e2 z (by simpa using hz)) ?_
   rw [ll,e1]
   exact ⟨.bl _,H,I,rfl,k _ H G fp .refl (rel.push (cC _))⟩
  ·cases e0
 ·rename_i ds
  split at e0
  ·rename_i hp
   cases e0
   cases e
   rw [Bool.and_eq_true] at hp
   obtain ⟨p,xs,ev,sq,rs⟩:=bg vb
   subst ev
   cases ry
   obtain ⟨its,vl,ip,_⟩:=I.tuple sq
   obtain ⟨ef,e1,e2⟩:=pd (A:=X.A.in1) I hp.1 (by show X.A.units + 1 + 64 < cLine;lia) va rx ds xs its hp.2 rs vl
   refine SeqAt.notIn_tupleAt ef (show s.heap.IsTuple p its.toArray from ip) (fun z hz=>e2 z (by simpa using hz)) ?_
   rw [ll,e1]
   exact ⟨.bl _,H,I,rfl,k _ H G fp .refl (rel.push (cC _))⟩
  ·cases e0
 ·rename_i l
  split at e0
  ·rename_i c
   cases e0
   cases e
   obtain ⟨e1,h1⟩:=bh va
   obtain ⟨e2,h2⟩:=bh vb
   subst e1
   subst e2
   refine lR pins s σ H _ _ v u Q I rx ry ⟨_,_,rfl,rfl,?_⟩
   rw [mC]
   exact k _ H G fp .refl (rel.push (cC _))
  ·cases e0
 ·cases e0
noncomputable def isO (a b:D):Res R:=match b with
 | .bl k=>.ok (.f,.bl (match a with | .bl j=>j == k | _=>false))
 | .non=>.ok (.f,.bl (match a with | .non=>true | _=>false))
 | _=>.bad
noncomputable def isnO (a b:D):Res R:=(isO a b).bind fun r=>match r.2 with
 | .bl k=>.ok (.f,.bl (!k))
 | _=>.bad
theorem uJ {K:W.Frag} {H:Hp} {a b:D} {x y:V} {v u:Value} {r:R} (va:Rep K H a x) (vb:Rep K H b y) (rx:RelV x v) (ry:RelV y u) (e:isO a b=.ok r):plainIs v u=true∧r=(.f,.bl (v == u)):=by
 unfold isO at e
 split at e
 ·rename_i k
  cases e
  cases cv vb
  cases ry
  cases a with
  | non=>cases bS va;cases rx;exact ⟨rfl,rfl⟩
  | bl j=>cases cv va;cases rx;refine ⟨rfl,?_⟩;cases j <;> cases k <;> rfl
  | int i=>cases bA va;obtain ⟨t,rfl⟩:=rx;exact ⟨rfl,rfl⟩
  | str l=>cases (bh va).1;obtain ⟨t,rfl⟩:=rx;exact ⟨rfl,rfl⟩
  | tup l=>obtain ⟨p,xs,rfl,_⟩:=bg va;cases rx;exact ⟨rfl,rfl⟩
  | lst l=>obtain ⟨p,xs,rfl,_⟩:=bu va;cases rx;exact ⟨rfl,rfl⟩
  | dct tk ks vs=>rw [Rep] at va;obtain ⟨p,xs,o,rfl,_⟩:=va;cases rx;exact ⟨rfl,rfl⟩
 ·cases e
  cases bS vb
  cases ry
  cases a with
  | non=>cases bS va;cases rx;exact ⟨rfl,rfl⟩
  | bl j=>cases cv va;cases rx;exact ⟨rfl,rfl⟩
  | int i=>cases bA va;obtain ⟨t,rfl⟩:=rx;exact ⟨rfl,rfl⟩
  | str l=>cases (bh va).1;obtain ⟨t,rfl⟩:=rx;exact ⟨rfl,rfl⟩
  | tup l=>obtain ⟨p,xs,rfl,_⟩:=bg va;cases rx;exact ⟨rfl,rfl⟩
  | lst l=>obtain ⟨p,xs,rfl,_⟩:=bu va;cases rx;exact ⟨rfl,rfl⟩
  | dct tk ks vs=>rw [Rep] at va;obtain ⟨p,xs,o,rfl,_⟩:=va;cases rx;exact ⟨rfl,rfl⟩
 ·cases e
theorem z0:OpR X (compareOp .IsNot) (rGA X.K isnO):=by
 rintro pins s σ H x y v u Q I rx ry ⟨G,fp,es,vs,a,b,r,⟨rel,k⟩,va,vb,e⟩
 obtain ⟨r0,e0,e⟩:=aj e
 obtain ⟨h1,h2⟩:=uJ va vb rx ry e0
 subst h2
 cases e
 exact wpAny_isNot_plain h1 ⟨.bl _,H,I,rfl,k _ H G fp .refl (rel.push (cC _))⟩
end
section
variable {X:Cx}
theorem vR (hc:X.calm=true):cT X (.builtin "max") (rC X.K maxD):=by
 rintro pins s σ H xs us Q I rx ⟨G,fp,es,vs,ds,r,⟨rel,k⟩,vd,e⟩
 unfold maxD at e
 split at e
 ·rename_i d
  split at e
  ·rename_i n ns hb
   cases e
   obtain ⟨v,ev,vt⟩:=mz vd
   obtain ⟨p,ep,sq⟩:=g5 rel.gh hb vt
   subst ev
   subst ep
   exact rh hc pins s σ H _ us Q I rx ⟨p,n :: ns,rfl,sq,by simp,k _ H G fp .refl (rel.push (bo _))⟩
  ·cases e
 ·rename_i i j
  cases e
  obtain ⟨v,w',ev,v1,v2⟩:=CF vd
  subst ev
  cases bB v1
  cases bB v2
  obtain ⟨u,u',rfl,⟨t,rfl⟩,t',rfl⟩:=tY rx
  refine max_two_ints (I.ok.hd hc) fun h' tk kk=>?_
  have I2:Inv X pins σ H { s with heap:=h',toks:=tk }:=I.kept kk
  refine ⟨.int (if i < j then j else i),H,I2,?_,k _ H G fp .refl (rel.push (bo _))⟩
  by_cases hij:i < j
  ·rw [if_pos hij,if_pos (show j > i from hij)]
   exact ⟨_,rfl⟩
  ·rw [if_neg hij,if_neg (show ¬ j > i from hij)]
   exact ⟨_,rfl⟩
 ·cases e
noncomputable def xv (f g:FX):FX:=fun env=>(f env).bind fun p=>(g p.2).bind fun q=>match (lh p.1.2).bind cD,q.1.2 with
 | some ns,.int d=>.ok ((.f,.int (NX.maxD ns d)),q.2)
 | _,_=>.bad
theorem xw {e k:Expr} {f g:FX} {p pos kpos:Pos} (hc:X.calm=true) (hg:Gl X "max") (hm:X.mg "max" = none) (he:QE X e f) (hk:QE X k g) (hs:starEach [e] X.env=[(false,eval e X.env)]:=by rfl) :
  QE X (.Call (.Name "max" p) [e] [⟨some "default",k,kpos⟩] pos) (xv f g):=bF (wZ hc hg hm he hk hs) fun σ H Q hq0=>by
 obtain ⟨G,env,fp,r,env',rel,e,k⟩:=hq0
 obtain ⟨⟨r1,env1⟩,e1,e⟩:=aj e
 obtain ⟨⟨r2,env2⟩,e2,e⟩:=aj e
 dsimp only at e
 split at e
 ·rename_i ns d hns hd
  cases e
  refine ⟨G,env,fp,r1,env1,rel,e1,fun v H1 G1 fp1 st1 rel1=>?_⟩
  obtain ⟨G2,b,rv,rel2,st2⟩:=rel1.freeze
  refine ⟨G2,env1,b,r2,_,rel2,e2,fun w' H3 G3 fp3 st3 rel3=>?_⟩
  have hw:=rel3.top
  obtain ⟨b3,rel4,st4⟩:=rel3.drop
  rw [hd] at hw
  obtain ⟨p',ep,sq⟩:=g5 rel4.gh hns (Vw.of rel4.gh (Rep.mono st3.gg rv))
  subst ep
  exact ⟨p',ns,d,rfl,by rw [bA hw],sq,k _ H3 G3 b3 (st1.trans (st2.trans (st3.trans st4))) (rel4.push (bo _))⟩
 ·cases e
noncomputable def Dn:List D→Res R
 | [.bl b]=>.ok (.f,.int (if b then 1 else 0))
 | [.int i]=>.ok (.f,.int i)
 | _=>.bad
noncomputable def nI:D→String
 | .non=>"NoneType"
 | .bl _=>"bool"
 | .int _=>"int"
 | .str _=>"str"
 | .tup _=>"tuple"
 | .lst _=>"list"
 | .dct _ _ _=>"dict"
noncomputable def tM (T:String) (d:D):Bool:=nI d == T || (nI d == "bool" && T == "int")
noncomputable def eIs (T:String) (f:FO):FX:=fun env=>(f env).bind fun p=>(p6 p.2 p.1).bind fun d=>.ok ((.f,.bl (tM T d)),p.2)
theorem z4 (K:W.Frag) (d:D) {T:String} (hT:T = "int"∨T = "bool"∨T = "str"∨T = "list"∨T = "tuple"∨T = "dict"):PySem.W.kitOne K (.type (nI d)) (.type T)=some (tM T d):=by
 rcases hT with rfl | rfl | rfl | rfl | rfl | rfl <;> cases d <;> (unfold PySem.W.kitOne PySem.W.kitCls PySem.W.subIn;kernel_rfl)
theorem uK:cT X (.builtin "isinstance") (fun xs H Q=>∃ d x T,xs=[x,.ty T]∧Rep X.K H d x∧(T = "int"∨T = "bool"∨T = "str"∨T = "list"∨T = "tuple"∨T = "dict")∧Q (.bl (tM T d)) H):=by
 intro pins s σ H xs us Q I r h
 obtain ⟨d,x,T,rfl,rd,hT,q⟩:=h
 obtain ⟨u,w',rfl,r1,r2⟩:=tY r
 cases (show w'=Value.type T from r2)
 have e:=z4 X.K d hT
 have fin:∀ tk,EP X pins σ Q (.bool (tM T d)) { s with toks:=tk }:=fun tk=>⟨.bl (tM T d),H,I.tok tk,rfl,q⟩
 cases d with
 | non=>cases bS rd;cases (show u=Value.none from r1);exact PySem.W.kia_one PySem.W.kitx_none I.kIn True.intro e (fun z=>nomatch z) fin
 | bl y=>cases cv rd;cases (show u=Value.bool y from r1);exact PySem.W.kia_one PySem.W.kitx_bool I.kIn True.intro e (fun z=>nomatch z) fin
 | int i=>cases bA rd;obtain ⟨t,z⟩:=(show ∃ t,u=Value.int i t from r1);cases z;exact PySem.W.kia_one PySem.W.kitx_int I.kIn True.intro e (fun z=>nomatch z) fin
 | str l=>
  have hr:=(bh rd).1
  subst hr
  obtain ⟨t,z⟩:=(show ∃ t,u=Value.str (S l) t from r1)
  cases z
  exact PySem.W.kia_one PySem.W.kitx_str I.kIn True.intro e (fun z=>nomatch z) fin
 | lst l=>
  obtain ⟨p,xs,ev,sq,_⟩:=bu rd
  subst ev
  cases (show u=Value.ref p from r1)
  obtain ⟨its,_,ip,_⟩:=I.list sq
  obtain ⟨o,ho,hc,_⟩:=ip.isList
  exact PySem.W.kia_one PySem.W.kitx_list I.kIn ⟨o,ho,hc⟩ e (fun z=>nomatch z) fin
 | tup l=>
  obtain ⟨p,xs,ev,sq,_⟩:=bg rd
  subst ev
  cases (show u=Value.ref p from r1)
  obtain ⟨its,_,ip,_⟩:=I.tuple sq
  obtain ⟨o,ho,hc,_⟩:=ip
  exact PySem.W.kia_one PySem.W.kitx_tuple I.kIn ⟨o,ho,hc⟩ e (fun z=>nomatch z) fin
 | dct tk ks vs=>
  rw [Rep] at rd
  obtain ⟨p,xs,o,ev,hr,dd,_⟩:=rd
  subst ev
  cases (show u=Value.ref p from r1)
  have ok:=hr.ok I.hok
  cases tk with
  | true=>
   obtain ⟨kvs,eo,_⟩:=dd
   subst eo
   obtain ⟨_,_,_,_,o2,_,_,ho2,ex,_⟩:=ok
   exact PySem.W.kia_one PySem.W.kitx_dict I.kIn ⟨o2,ho2,ex.1⟩ e (fun z=>nomatch z) fin
  | false=>
   obtain ⟨kvs,eo,_⟩:=dd
   subst eo
   obtain ⟨_,_,_,_,o2,_,_,ho2,ex,_⟩:=ok
   exact PySem.W.kia_one PySem.W.kitx_dict I.kIn ⟨o2,ho2,ex.1⟩ e (fun z=>nomatch z) fin
theorem uL {T:String} {x:Str} {e:Expr} {f:FO} {p q pos:Pos} (hT:T = "int"∨T = "bool"∨T = "str"∨T = "list"∨T = "tuple"∨T = "dict") (he:QO X e f) (hg:Gl X "isinstance") (hm:X.mg "isinstance" = none) (hg2:Gl X x) (hm2:X.mg x=none) (hv2:bootBuiltins x=some (.type T)) (hn:x≠"__name__":=by decide) (hdb:(x == ("__debug__" : Str))=false:=by decide)
  (hs:starEach [e,.Name x q] X.env=(false,eval e X.env) :: starEach [.Name x q] X.env:=by rfl) (hs2:starEach [.Name x q] X.env=(false,eval (.Name x q) X.env) :: starEach [] X.env:=by rfl) (hpl:(backTo pos (starEach [.Name x q] X.env)).any (·.1)=false:=by rfl) :
  QE X (.Call (.Name "isinstance" p) [e,.Name x q] [] pos) (eIs T f):=
 bF (oJ uK hg hm kP (il he (il (wq (v:=.ty T) hg2 hm2 hv2 rfl hn hdb) oH hs2) hs) (by decide) (by decide) hs hpl) fun σ H Q hq0=>by
  obtain ⟨G,env,fp,r,env',rel,e,k⟩:=hq0
  obtain ⟨⟨o,env1⟩,e1,e⟩:=aj e
  obtain ⟨d,e2,e⟩:=aj e
  cases e
  exact ⟨G,env,fp,o,_,rel,e1,fun v H1 G1 fp1 st1 rel1 ok1=>⟨d,v,T,rfl,rel1.vwA ok1 e2,hT,k _ H1 G1 fp1 st1 (rel1.push (cC _))⟩⟩
noncomputable def or2 {α:Type} (f g:PV.Env→Res α):PV.Env→Res α:=fun env=>match f env with
 | .ok a=>.ok a
 | _=>g env
theorem vS {α:Type} {f g:PV.Env→Res α} {env:PV.Env} {a:α} (h:or2 f g env=.ok a):f env=.ok a∨g env=.ok a:=by
 unfold or2 at h
 split at h
 ·rename_i b hb
  cases h
  exact .inl hb
 ·exact .inr h
theorem du {tg e:Expr} {f g:FI} (h:QI X tg e f) (h2:QI X tg e g):QI X tg e (or2 f g):=fun pins s σ H R I hq0=>by
 obtain ⟨G,env,fp,ds,env',rel,ee,k⟩:=hq0
 rcases vS ee with z | z
 ·exact h pins s σ H R I ⟨G,env,fp,ds,env',rel,z,k⟩
 ·exact h2 pins s σ H R I ⟨G,env,fp,ds,env',rel,z,k⟩
end
section
variable {α:Type}
noncomputable def ins (lt:α→α→Bool) (x:α):List α→List α
 | []=>[x]
 | y :: ys=>if lt y x then y :: ins lt x ys else x :: y :: ys
noncomputable def bG (lt:α→α→Bool) (l:List α):List α:=l.foldr (ins lt) []
structure Ord (lt:α→α→Bool):Prop where
 irr:∀ a,lt a a=false
 trans:∀ a b c,lt a b=true→lt b c=true→lt a c=true
 tot:∀ a b,lt a b=false→lt b a=false→a=b
theorem lp (lt:α→α→Bool) (x:α):∀ l,(ins lt x l).Perm (x :: l)
 | []=>.refl _
 | y :: ys=>by
  unfold ins
  split
  ·exact (List.Perm.cons y (lp lt x ys)).trans (List.Perm.swap x y ys)
  ·exact .refl _
theorem d3 (lt:α→α→Bool):∀ l,(bG lt l).Perm l
 | []=>.refl _
 | x :: l=>(lp lt x _).trans (List.Perm.cons x (d3 lt l))
theorem kF {lt:α→α→Bool} (o:Ord lt) (x:α):∀ l:List α,l.Pairwise (fun a b=>lt b a=false)→(ins lt x l).Pairwise (fun a b=>lt b a=false)
 | [],_=>by simp [ins]
 | y :: ys,h=>by
  rw [List.pairwise_cons] at h
  unfold ins
  split
  ·rename_i hy
   rw [List.pairwise_cons]
   refine ⟨fun z hz=>?_,kF o x ys h.2⟩
   rcases List.mem_cons.mp ((lp lt x ys).mem_iff.mp hz) with rfl | hz
   ·cases e:lt z y with
    | false=>rfl
    | true=>
     have:=o.trans y z y hy e
     rw [o.irr] at this
     cases this
   ·exact h.1 z hz
  ·rename_i hy
   have hy:lt y x=false:=by simpa using hy
   rw [List.pairwise_cons,List.pairwise_cons]
   refine ⟨fun z hz=>?_,h⟩
   rcases List.mem_cons.mp hz with rfl | hz2
   ·exact hy
   ·cases e:lt z x with
    | false=>rfl
    | true=>
     exfalso
     cases e2:lt x y with
     | true=>
      have:=o.trans z x y e e2
      rw [h.1 z hz2] at this
      cases this
     | false=>
      have hxy:=o.tot x y e2 hy
      rw [hxy,h.1 z hz2] at e
      cases e
theorem dH {lt:α→α→Bool} (o:Ord lt):∀ l:List α,(bG lt l).Pairwise (fun a b=>lt b a=false)
 | []=>.nil
 | x :: l=>kF o x _ (dH o l)
theorem mD {lt:α→α→Bool} (o:Ord lt):∀ {a b:List α},a.Perm b→a.Pairwise (fun a b=>lt b a=false)→b.Pairwise (fun a b=>lt b a=false)→a=b
 | [],_,p,_,_=>p.nil_eq
 | x :: xs,[],p,_,_=>absurd p.length_eq (by simp)
 | x :: xs,y :: ys,p,ha,hb=>by
  rw [List.pairwise_cons] at ha hb
  have hx:x∈y :: ys:=p.mem_iff.mp List.mem_cons_self
  have hy:y∈x :: xs:=p.mem_iff.mpr List.mem_cons_self
  have e:x=y:=by
   rcases List.mem_cons.mp hx with e | hx
   ·exact e
   ·rcases List.mem_cons.mp hy with e | hy
    ·exact e.symm
    ·exact o.tot x y (hb.1 x hx) (ha.1 y hy)
  subst e
  rw [mD o p.cons_inv ha.2 hb.2]
theorem g7 {lt:α→α→Bool} (o:Ord lt) {l ms:List α} (p:ms.Perm l) (h:ms.Pairwise (fun a b=>lt b a=false)):ms=bG lt l:=mD o (p.trans (d3 lt l).symm) h (dH o l)
end
noncomputable def ltI (a b:Int):Bool:=decide (a < b)
noncomputable def ltS (a b:List Nat):Bool:=decide (a < b)
theorem xx:Ord ltI:=⟨fun a=>by simp [ltI],fun a b c=>by simp only [ltI,decide_eq_true_eq];lia,fun a b=>by simp only [ltI,decide_eq_false_iff_not];lia⟩
theorem r9:Ord ltS:=by
 refine ⟨fun a=>?_,fun a b c h1 h2=>?_,fun a b h1 h2=>?_⟩
 ·unfold ltS
  rw [decide_eq_false_iff_not]
  exact List.lt_irrefl a
 ·unfold ltS at *
  rw [decide_eq_true_eq] at *
  exact List.lt_trans h1 h2
 ·unfold ltS at *
  rw [decide_eq_false_iff_not] at *
  exact List.le_antisymm (List.not_lt.mp h2) (List.not_lt.mp h1)
theorem jH:Ord dk:=⟨gC,fU,fV⟩
noncomputable def gq:List D→Option (List (List Nat))
 | []=>some []
 | .str b :: ds=>(gq ds).map (b :: ·)
 | _=>none
noncomputable def jI:D→Option Key
 | .int i=>some (.inl i)
 | .str l=>some (.inr (S l))
 | _=>none
noncomputable def eI:List D→Option (List Key)
 | []=>some []
 | d :: ds=>(jI d).bind fun k=>(eI ds).map (k :: ·)
noncomputable def eJ:D→Option (List Key)
 | .tup ds=>eI ds
 | _=>none
noncomputable def g8:List D→Option (List (List Key))
 | []=>some []
 | d :: ds=>(eJ d).bind fun k=>(g8 ds).map (k :: ·)
noncomputable def kT (k:List Key):D:=.tup (k.map kD)
section
variable {K:W.Frag} {G:Hp}
theorem eM:∀ {ds:List D} {bs:List (List Nat)} {xs:List V},gq ds=some bs→Reps K G ds xs→xs=bs.map (fun l=>V.str (S l))∧∀ l∈bs,l.length≤sizeLine
 | [],_,_,e,r=>by
  cases e
  rw [Reps] at r
  exact ⟨r,fun _ h=>nomatch h⟩
 | d :: ds,_,_,e,r=>by
  cases d with
  | str b=>
   rw [gq,Option.map_eq_some_iff] at e
   obtain ⟨bs,e1,e2⟩:=e
   subst e2
   rw [Reps] at r
   obtain ⟨y,ys,e3,r1,r2⟩:=r
   obtain ⟨h1,h2⟩:=eM e1 r2
   obtain ⟨h3,h4⟩:=bh r1
   subst h3
   refine ⟨by rw [e3,h1];rfl,fun l hl=>?_⟩
   rcases List.mem_cons.mp hl with rfl | hl
   ·exact h4
   ·exact h2 l hl
  | _=>simp [gq] at e
theorem fY {d:D} {k:Key} {v:V} (e:jI d=some k) (r:Rep K G d v):v=kV k∧d=kD k:=by
 cases d with
 | int i=>
  cases e
  exact ⟨bA r,rfl⟩
 | str l=>
  cases e
  refine ⟨(bh r).1,?_⟩
  show D.str l=D.str (S l).cps.toList
  rw [di]
 | _=>cases e
theorem iJ:∀ {ds:List D} {ks:List Key} {xs:List V},eI ds=some ks→Reps K G ds xs→xs=ks.map kV∧ds=ks.map kD
 | [],_,_,e,r=>by
  cases e
  rw [Reps] at r
  exact ⟨r,rfl⟩
 | d :: ds,_,_,e,r=>by
  rw [eI,Option.bind_eq_some_iff] at e
  obtain ⟨k,e1,e⟩:=e
  rw [Option.map_eq_some_iff] at e
  obtain ⟨ks,e2,e3⟩:=e
  subst e3
  rw [Reps] at r
  obtain ⟨y,ys,e4,r1,r2⟩:=r
  obtain ⟨h1,h2⟩:=fY e1 r1
  obtain ⟨h3,h4⟩:=iJ e2 r2
  rw [e4,h1,h2,h3,h4]
  exact ⟨rfl,rfl⟩
theorem dv {d:D} {ks:List Key} {v:V} (e:eJ d=some ks) (r:Rep K G d v):∃ p,v=.ref p∧G p=some (.tup (ks.map kV))∧d=kT ks:=by
 cases d with
 | tup ds=>
  obtain ⟨p,xs,ev,g,rs⟩:=rR r
  obtain ⟨h1,h2⟩:=iJ e rs
  subst h1
  exact ⟨p,ev,g,by rw [h2];rfl⟩
 | _=>cases e
theorem jJ:∀ {ds:List D} {kss:List (List Key)} {xs:List V},g8 ds=some kss→Reps K G ds xs→∃ al:List (Addr×List Key),xs=al.map (fun a=>V.ref a.1)∧kss=al.map (·.2)∧ds=al.map (fun a=>kT a.2)∧∀ a∈al,G a.1=some (.tup (a.2.map kV))∧Rep K G (kT a.2) (.ref a.1)
 | [],_,_,e,r=>by
  cases e
  rw [Reps] at r
  exact ⟨[],r,rfl,rfl,fun _ h=>nomatch h⟩
 | d :: ds,_,_,e,r=>by
  rw [g8,Option.bind_eq_some_iff] at e
  obtain ⟨k,e1,e⟩:=e
  rw [Option.map_eq_some_iff] at e
  obtain ⟨ks,e2,e3⟩:=e
  subst e3
  rw [Reps] at r
  obtain ⟨y,ys,e4,r1,r2⟩:=r
  obtain ⟨p,h1,h2,h5⟩:=dv e1 r1
  obtain ⟨al,h3,h4,h6,h7⟩:=jJ e2 r2
  subst h1
  refine ⟨(p,k) :: al,by rw [e4,h3];rfl,by rw [h4];rfl,by rw [h5,h6];rfl,fun a ha=>?_⟩
  rcases List.mem_cons.mp ha with rfl | ha
  ·exact ⟨h2,by rw [←h5];exact r1⟩
  ·exact h7 a ha
theorem eN {α:Type} {f:α→D} {g:α→V}:∀ {l:List α},(∀ a∈l,Rep K G (f a) (g a))→Reps K G (l.map f) (l.map g)
 | [],_=>Reps.nil
 | a :: l,h=>.cons (h a List.mem_cons_self) (eN fun b hb=>h b (List.mem_cons_of_mem _ hb))
end
noncomputable def sameKinds (k:List Key) (kss:List (List Key)):Bool:=!k.isEmpty && kss.all fun j=>kinds j == kinds k
noncomputable def jK (ds:List D):Option (List D):=match cD ds with
 | some ns=>some ((bG ltI ns).map D.int)
 | none=>match gq ds with
  | some ls=>some ((bG ltS ls).map D.str)
  | none=>match g8 ds with
   | some (k :: kss)=>if sameKinds k kss then some ((bG dk (k :: kss)).map kT) else none
   | _=>none
noncomputable def cV:List D→Res R
 | [.lst ds]=>if ds.length < 64 then match jK ds with
  | some l=>.ok (.l .f,.lst l)
  | none=>.bad
  else .bad
 | [.dct true ks _]=>if ks.length < 64 then match ks,g8 ks with
  | [],_=>.ok (.l .f,.lst [])
  | _,some (k :: kss)=>if sameKinds k kss then .ok (.l .f,.lst ((bG dk (k :: kss)).map kT)) else .bad
  | _,_=>.bad
  else .bad
 | _=>.bad
theorem g9 {k:List Key} {kss:List (List Key)} (h:sameKinds k kss=true):∃ top t,∀ j∈k :: kss,kinds j=top :: t:=by
 unfold sameKinds at h
 rw [Bool.and_eq_true,List.all_eq_true] at h
 cases k with
 | nil=>simp at h
 | cons a k=>
  refine ⟨a.isLeft,kinds k,fun j hj=>?_⟩
  rcases List.mem_cons.mp hj with rfl | hj
  ·rfl
  ·exact beq_iff_eq.mp (h.2 j hj)
noncomputable def iK (H G:Hp):Hp:=fun p=>match H p with
 | some (HO.tup xs)=>some (HO.tup xs)
 | _=>G p
theorem qa {H G:Hp} {p:Addr} {xs:List V} (e:H p=some (.tup xs)):iK H G p=some (.tup xs):=by
 unfold iK
 rw [e]
theorem jL {H G:Hp} {p:Addr} {u:HO} (e:iK H G p=some u):G p=some u∨(isT u=true∧H p=some u):=by
 unfold iK at e
 split at e
 ·rename_i xs hx
  cases e
  exact .inr ⟨rfl,hx⟩
 ·exact .inl e
theorem se {H G:Hp} (gh:Same G H):Same G (iK H G):=fun p u e=>by
 unfold iK
 rw [gh p u e]
 cases u with
 | tup xs=>rfl
 | _=>exact e
theorem Rel.addT {K:W.Frag} {G H:Hp} {es:PV.Env} {vs:L2.St} {fp:List Addr} (q:Rel K G H es vs fp):∃ G',Rel K G' H es vs fp∧Step G H fp G' H fp∧∀ p xs,H p=some (.tup xs)→G' p=some (.tup xs):=by
 have gg:=se q.gh
 refine ⟨iK H G,⟨q.rep.step gg fun _ _=>rfl,q.nd,fun p hp=>?_,fun p u e=>?_⟩,⟨gg,fun _ _ e _=>e,fun _ h=>.inl h,fun p u e=>(jL e).imp_right fun z=>.inr (.inr z),fun _ u e=>⟨u,e⟩⟩,fun p xs e=>qa e⟩
 ·cases e:iK H G p with
  | none=>rfl
  | some u=>
   exfalso
   rcases jL e with z | ⟨t,z⟩
   ·rw [q.gn p hp] at z
    cases z
   ·obtain ⟨u2,h2,hm⟩:=q.rep.mut p hp
    rw [z] at h2
    cases h2
    cases u with
    | tup _=>cases hm
    | frz _ _=>cases hm
    | _=>cases t
 ·rcases jL e with z | z
  ·exact q.gh p u z
  ·exact z.2
theorem z5 {K:W.Frag} {G:Hp} {k:Key} (h:vL k):Rep K G (kD k) (kV k):=by
 cases k with
 | inl i=>exact bo i
 | inr x=>
  have:=gE (K:=K) (G:=G) (l:=x.cps.toList) h
  rw [l6] at this
  exact this
theorem z6 (k:Key):jI (kD k)=some k:=by
 cases k with
 | inl i=>rfl
 | inr x=>
  show some (Sum.inr (S x.cps.toList))=_
  rw [l6]
theorem jM:∀ ks:List Key,eI (ks.map kD)=some ks
 | []=>rfl
 | k :: ks=>by
  rw [List.map_cons,eI,z6,jM ks]
  rfl
theorem fZ:∀ kss:List (List Key),g8 (kss.map kT)=some kss
 | []=>rfl
 | k :: kss=>by
  rw [List.map_cons,g8]
  show (eI (k.map kD)).bind _=_
  rw [jM,fZ kss]
  rfl
section
variable {X:Cx}
theorem nlt {α:Type} {lt:α→α→Bool} {p:α→α→Prop} (h:∀ a b,p a b→lt b a=false) {l:List α} (q:l.Pairwise p):l.Pairwise (fun a b=>lt b a=false):=q.imp (h _ _)
theorem hJ (hc:X.calm=true):cT X (.builtin "sorted") (rC X.K cV):=by
 rintro pins s σ H xs us Q I rx ⟨G,fp,es,vs,ds,r,⟨rel,k⟩,vd,e⟩
 unfold cV at e
 split at e
 ·rename_i ds
  split at e
  ·rename_i h64
   split at e
   ·rename_i l hl
    cases e
    obtain ⟨v,ev,p,ys,ep,sq,rs⟩:=mz vd
    subst ev
    subst ep
    unfold jK at hl
    split at hl
    ·rename_i ns hns
     cases hl
     have hy:=gG hns rs
     subst hy
     have hlen:ns.length < 64:=by have:=rs.length;rw [List.length_map] at this;lia
     refine iZ hc pins s σ H _ us Q I rx ⟨p,ns,rfl,sq,hlen,fun q ms hq pm sm=>?_⟩
     have em:=g7 xx pm (nlt (fun a b h=>by unfold ltI;rw [decide_eq_false_iff_not];lia) sm)
     subst em
     obtain ⟨rel2,st2⟩:=rel.newL hq (eN (K:=X.K) (G:=G) (f:=D.int) (g:=V.int) fun a _=>bo a)
     exact k _ _ G _ st2 rel2
    ·split at hl
     ·rename_i ls hls
      cases hl
      obtain ⟨hy,hz⟩:=eM hls rs
      subst hy
      have hlen:ls.length < 64:=by have:=rs.length;rw [List.length_map] at this;lia
      refine i0 hc pins s σ H _ us Q I rx ⟨p,ls,rfl,sq,hlen,fun q ms hq pm sm=>?_⟩
      have em:=g7 r9 pm (nlt (fun a b h=>by unfold ltS;rw [decide_eq_false_iff_not];exact h) sm)
      obtain ⟨rel2,st2⟩:=rel.newL hq (eN (K:=X.K) (G:=G) (f:=D.str) (g:=fun l=>V.str (S l)) (l:=ms) fun a ha=>gE (hz a (pm.mem_iff.mp ha)))
      rw [←em] at k
      exact k _ _ G _ st2 rel2
     ·split at hl
      ·rename_i kk kss hk
       split at hl
       ·rename_i hsk
        cases hl
        obtain ⟨al,h1,h2,h3,h4⟩:=jJ hk rs
        obtain ⟨top,t,hkinds⟩:=g9 hsk
        subst h1
        have hlen:al.length < 64:=by have:=rs.length;rw [List.length_map] at this;lia
        refine i4 hc pins s σ H _ us Q I rx ⟨p,al,top,t,rfl,sq,fun a ha=>⟨SqT.of (rel.gh _ _ (h4 a ha).1),hkinds a.2 (by rw [h2];exact List.mem_map.mpr ⟨a,ha,rfl⟩)⟩,hlen,fun q ms hq pm sm=>?_⟩
        have em:ms.map (·.2)=bG dk (kk :: kss):=by
         rw [h2]
         refine g7 jH (pm.map _) ?_
         rw [List.pairwise_map]
         exact sm
        obtain ⟨rel2,st2⟩:=rel.newL hq (eN (K:=X.K) (G:=G) (f:=fun a:Addr×List Key=>kT a.2) (g:=fun a=>V.ref a.1) (l:=ms) fun a ha=>(h4 a (pm.mem_iff.mp ha)).2)
        have ek:ms.map (fun a=>kT a.2)=(bG dk (kk :: kss)).map kT:=by rw [←em,List.map_map];rfl
        rw [ek] at rel2
        exact k _ _ G _ st2 rel2
       ·cases hl
      ·cases hl
   ·cases e
  ·cases e
 ·rename_i ks vv
  split at e
  ·rename_i h64
   obtain ⟨v,ev,vt⟩:=mz vd
   obtain ⟨p,ys,o,ep,rd,dd,rs⟩:=vt
   subst ev
   subst ep
   obtain ⟨kvs,eo,ek,ex,hfit⟩:=dd
   subst eo
   have ek:ks=(kvs.map (·.1)).map kT:=by rw [ek,List.map_map];rfl
   have hlen:kvs.length < 64:=by rw [ek,List.length_map,List.length_map] at h64;exact h64
   have go:∀ (top:Bool) (t:List Bool),(∀ kv∈kvs,kinds kv.1=top :: t)→r=(.l .f,.lst ((bG dk (kvs.map (·.1))).map kT))→wpAny (model X.prog X.w) X.A (call (.builtin "sorted") us) (EP X pins σ Q) X.xe s:=fun top t hkinds er=>by
    subst er
    refine kj hc pins s σ H _ us Q I rx ⟨p,kvs,top,t,rfl,rd,hkinds,hlen,fun q ms hq hm pm sm=>?_⟩
    have em:ms.map (·.2)=bG dk (kvs.map (·.1)):=by
     refine g7 jH pm ?_
     rw [List.pairwise_map]
     exact sm
    obtain ⟨G2,rel2,st2,ht⟩:=rel.addT
    have hrep:∀ a∈ms,Rep X.K G2 (kT a.2) (.ref a.1):=fun a ha=>by
     unfold kT
     rw [Rep]
     refine ⟨a.1,_,rfl,ht _ _ (hm a ha),?_⟩
     refine eN (f:=kD) (g:=kV) fun key hkey=>z5 ?_
     have:a.2∈kvs.map (·.1):=pm.mem_iff.mp (List.mem_map.mpr ⟨a,ha,rfl⟩)
     obtain ⟨kv,hkv,e2⟩:=List.mem_map.mp this
     exact hfit kv hkv key (by rw [e2];exact hkey)
    obtain ⟨rel3,st3⟩:=rel2.newL hq (eN (K:=X.K) (G:=G2) (f:=fun a:Addr×List Key=>kT a.2) (g:=fun a=>V.ref a.1) (l:=ms) hrep)
    have ek:ms.map (fun a=>kT a.2)=(bG dk (kvs.map (·.1))).map kT:=by rw [←em,List.map_map];rfl
    rw [ek] at rel3
    exact k _ _ G2 _ (st2.trans st3) rel3
   rw [ek,fZ] at e
   split at e
   ·rename_i hnil
    cases e
    have:kvs=[]:=by
     cases kvs with
     | nil=>rfl
     | cons a b=>cases hnil
    subst this
    exact go true [] (fun _ h=>nomatch h) rfl
   ·rename_i kk kss heq hne
    split at e
    ·rename_i hsk
     cases e
     obtain ⟨top,t,hkinds⟩:=g9 hsk
     have heq:kvs.map (·.1)=kk :: kss:=by
      injection heq
     refine go top t (fun kv hkv=>hkinds kv.1 ?_) (by rw [heq])
     rw [←heq]
     exact List.mem_map.mpr ⟨kv,hkv,rfl⟩
    ·cases e
   ·cases e
  ·cases e
 ·cases e
noncomputable def ltO (a b:D):Res R:=match eJ a,eJ b with
 | some ks,some js=>if kinds ks == kinds js then .ok (.f,.bl (dk ks js)) else .bad
 | _,_=>ltD a b
noncomputable def geO (a b:D):Res R:=match eJ a,eJ b with
 | some ks,some js=>if kinds ks == kinds js then .ok (.f,.bl (!dk ks js)) else .bad
 | _,_=>match a,b with
  | .str a,.str b=>.ok (.f,.bl (!decide (a < b)))
  | a,b=>geD a b
theorem mE (hu:X.A.units < cLine):OpR X (compareOp .Lt) (rG X.K ltO):=by
 rintro pins s σ H x y v u Q I rx ry ⟨G,fp,es,vs,a,b,r,⟨rel,k⟩,va,vb,e⟩
 unfold ltO at e
 split at e
 ·rename_i ks js h1 h2
  split at e
  ·rename_i hk
   cases e
   have ra:Rep X.K G a x:=by cases a <;> first | exact va | cases h1
   have rb:Rep X.K G b y:=by cases b <;> first | exact vb | cases h2
   obtain ⟨p,e1,g1,_⟩:=dv h1 ra
   obtain ⟨p2,e2,g2,_⟩:=dv h2 rb
   subst e1
   subst e2
   exact zL hu pins s σ H _ _ v u Q I rx ry ⟨p,p2,ks,js,rfl,rfl,SqT.of (rel.gh _ _ g1),SqT.of (rel.gh _ _ g2),beq_iff_eq.mp hk,k _ H G fp .refl (rel.push (cC _))⟩
  ·cases e
 ·exact BR pins s σ H x y v u Q I rx ry ⟨G,fp,es,vs,a,b,r,⟨rel,k⟩,va,vb,e⟩
end
noncomputable def eNewD (tk:Bool):FX:=fun env=>.ok ((.d,.dct tk [] []),env)
section
variable {md:Mode} {X:Cx}
theorem Rel.newD {K:W.Frag} {G H:Hp} {es:PV.Env} {vs:L2.St} {fp:List Addr} {p:Addr} {u:HO} {tk:Bool} (q:Rel K G H es vs fp) (hp:H p=none) (h:DictO u tk [] []) :
  Rel K G (upd H p u) (some (.d,.dct tk [] []) :: es) (some (.ref p) :: vs) (p :: fp)∧Step G H fp G (upd H p u) (p :: fp):=by
 have gp:G p=none:=by
  cases e:G p with
  | none=>rfl
  | some o=>rw [q.gh p o e] at hp;cases hp
 have np:p∉fp:=fun z=>by
  obtain ⟨u,e⟩:=q.rep.live p z
  rw [hp] at e;cases e
 have sh:Same H (upd H p u):=fun b o e=>by rw [aG (aU e hp)];exact e
 refine ⟨⟨⟨some (.ref p),vs,rfl,.ref p,[p],fp,rfl,rfl,?_,q.rep.step (.refl _) fun z hz=>aG fun e=>np (e▸hz)⟩,List.nodup_cons.mpr ⟨np,q.nd⟩,fun z hz=>?_,fun b o e=>?_⟩,
  ⟨.refl _,fun b o e _=>sh b o e,fun b hb=>?_,fun b o e=>.inl e,fun b o e=>⟨o,sh b o e⟩⟩⟩
 ·rw [RepO]
  exact ⟨p,[],u,rfl,bj,h,rfl,Reps.nil⟩
 ·rcases List.mem_cons.mp hz with rfl | hz
  ·exact gp
  ·exact q.gn z hz
 ·exact sh b o (q.gh b o e)
 ·rcases List.mem_cons.mp hb with rfl | hb
  ·exact .inr hp
  ·exact .inl hb
theorem xy {pos:Pos}:QE X (.Dict [] [] pos) (eNewD true):=bF ux fun σ H Q hq0 p hp=>by
 obtain ⟨G,env,fp,r,env',rel,e,k⟩:=hq0
 cases e
 obtain ⟨rel2,st2⟩:=rel.newD (tk:=true) (u:=.dT []) hp ⟨[],rfl,rfl,rfl,fun _ h=>nomatch h⟩
 exact k _ _ G _ st2 rel2
noncomputable def mF (ks vs:List D) (k v:D):List D×List D:=if ks.any (eqD k) then (ks,(ks.zip vs).map fun p=>if eqD k p.1 then v else p.2) else (ks++[k],vs++[v])
noncomputable def dD (tk:Bool) (k:D):Bool:=if tk then (eJ k).isSome else (jI k).isSome
noncomputable def xA (i:Nat) (fk fv:FX):FS:=fun env=>(fv env).bind fun p=>(fk p.2).bind fun q=>match p.2[i]?,q.2[i]? with
 | some (some _),some (some (.d,.dct tk ks vs))=>if dD tk q.1.2 && decide (ks.length < sizeLine) then .ok (.nx (q.2.set i (some (.d,.dct tk (mF ks vs q.1.2 p.1.2).1 (mF ks vs q.1.2 p.1.2).2)))) else .bad
 | _,_=>.bad
theorem sf (a b:Key):eqD (kD a) (kD b)=decide (a=b):=by
 cases a with
 | inl i=>
  cases b with
  | inl j=>simp only [kD,eqD];rw [Bool.eq_iff_iff];simp
  | inr y=>simp only [kD,eqD];simp
 | inr x=>
  cases b with
  | inl j=>simp only [kD,eqD];simp
  | inr y=>
   simp only [kD,eqD]
   rw [Bool.eq_iff_iff]
   simp only [beq_iff_eq,decide_eq_true_eq,Sum.inr.injEq]
   exact ⟨fun h=>by rw [←l6 x,←l6 y,h],fun h=>by rw [h]⟩
theorem si:∀ a b:List Key,km (a.map kD) (b.map kD)=decide (a=b)
 | [],[]=>by simp [km]
 | [],_ :: _=>by simp [km]
 | _ :: _,[]=>by simp [km]
 | a :: r,b :: t=>by
  rw [List.map_cons,List.map_cons,km,sf,si r t,Bool.eq_iff_iff]
  simp
theorem vT (a b:List Key):eqD (kT a) (kT b)=decide (a=b):=by
 unfold kT
 rw [eqD]
 exact si a b
theorem mG {κ:Type} [DecidableEq κ] {K:W.Frag} {G:Hp} (f:κ→D) (hf:∀ a b,eqD (f a) (f b)=decide (a=b)) {kvs:List (κ×V)} {vs:List D} {k:κ} {v:D} {y:V} (r:Reps K G vs (kvs.map (·.2))) (ry:Rep K G v y) :
  (i5 kvs k y).map (fun kv=>f kv.1)=(mF (kvs.map fun kv=>f kv.1) vs (f k) v).1∧Reps K G (mF (kvs.map fun kv=>f kv.1) vs (f k) v).2 ((i5 kvs k y).map (·.2)):=by
 have e:(kvs.map fun kv=>f kv.1).any (eqD (f k))=kvs.any fun kv=>decide (kv.1=k):=by
  rw [List.any_map]
  congr 1
  funext kv
  show eqD (f k) (f kv.1)=_
  rw [hf,Bool.eq_iff_iff]
  simp only [decide_eq_true_eq]
  exact ⟨fun z=>z.symm,fun z=>z.symm⟩
 unfold mF i5
 rw [e]
 split
 ·refine ⟨?_,?_⟩
  ·rw [List.map_map]
   refine List.map_congr_left fun kv _=>?_
   show f (if kv.1=k then (kv.1,y) else kv).1=f kv.1
   split <;> rfl
  ·rename_i hany
   clear e hany
   induction kvs generalizing vs with
   | nil=>
    have:vs=[]:=List.eq_nil_of_length_eq_zero (by rw [←r.length];rfl)
    subst this
    exact Reps.nil
   | cons kv kvs ih=>
    cases vs with
    | nil=>have:=r.length;simp at this
    | cons d vs=>
     rw [List.map_cons,Reps.cons_iff] at r
     rw [List.map_cons,List.zip_cons_cons,List.map_cons,List.map_cons,List.map_cons]
     refine .cons ?_ (ih r.2)
     show Rep K G (if eqD (f k) (f kv.1)=true then v else d) (if kv.1=k then (kv.1,y) else kv).2
     rw [hf]
     by_cases hk:kv.1=k
     ·rw [if_pos (by simp [hk]),if_pos hk]
      exact ry
     ·rw [if_neg (by simp;exact fun z=>hk z.symm),if_neg hk]
      exact r.1
 ·refine ⟨?_,?_⟩
  ·rw [List.map_append]
   rfl
  ·rw [List.map_append]
   exact r.app (.one ry)
theorem Rel.chgD {K:W.Frag} {G H:Hp} {es:PV.Env} {vs:L2.St} {fp:List Addr} {i:Nat} {tk:Bool} {ks ws:List D} (q:Rel K G H es vs fp) (e:es[i]?=some (some (.d,.dct tk ks ws))):∃ p xs u,vs[i]?=some (some (.ref p))∧H p=some u∧DictO u tk ks xs∧Reps K G ws xs∧
  ∀ u' ks' xs' ws',DictO u' tk ks' xs'→Reps K G ws' xs'→∃ fq,Rel K G (upd H p u') (es.set i (some (.d,.dct tk ks' ws'))) vs fq∧Step G H fp G (upd H p u') fq:=by
 obtain ⟨v,fq,ev,g,st,st'⟩:=q.out e
 obtain ⟨y,ys,e0,v',a,b,e1,e2,r1,r2⟩:=g.rep
 cases e0
 cases e1
 rw [RepO] at r1
 obtain ⟨p,xs,u,e3,hp,dd,e4,rs⟩:=r1
 subst e3
 subst e4
 subst e2
 have nd:=List.nodup_cons.mp (show (p :: b).Nodup from g.nd)
 refine ⟨p,xs,u,ev,hp,dd,rs,fun u' ks' xs' ws' dd' rs'=>?_⟩
 have g2:Rel K G (upd H p u') (some (.d,.dct tk ks' ws') :: es.set i none) (some (.ref p) :: vs) (p :: b):=by
  refine ⟨⟨some (.ref p),vs,rfl,.ref p,[p],b,rfl,rfl,?_,r2.step (.refl _) fun z hz=>aG fun e=>nd.1 (e▸hz)⟩,g.nd,g.gn,fun z o ez=>?_⟩
  ·rw [RepO]
   exact ⟨p,xs',u',rfl,bj,dd',rfl,rs'⟩
  ·have:z≠p:=fun w=>by
    subst w
    rw [g.gn z List.mem_cons_self] at ez;cases ez
   rw [aG this]
   exact g.gh z o ez
 have stc:Step G H (p :: b) G (upd H p u') (p :: b):=by
  refine ⟨.refl _,fun z o ez nz=>?_,fun z hz=>.inl hz,fun z o ez=>.inl ez,fun z o ez=>?_⟩
  ·have:z≠p:=fun w=>nz (by rw [w];exact List.mem_cons_self)
   rw [aG this]
   exact ez
  ·by_cases w:z=p
   ·subst w
    exact ⟨_,bj⟩
   ·exact ⟨o,by rw [aG w];exact ez⟩
 obtain ⟨fz,g3,st3⟩:=g2.back (i:=i) (by rw [List.length_set];exact (List.getElem?_eq_some_iff.mp e).1) ev
 rw [List.set_set] at g3
 exact ⟨fz,g3,st.trans (stc.trans st3)⟩
theorem sj {K:W.Frag} {G:Hp} {d:D} {k:Key} {v:V} (e:jI d=some k) (r:Rep K G d v):vL k:=by
 cases d with
 | int i=>cases e;trivial
 | str l=>
  cases e
  show (S l).cps.toList.length≤sizeLine
  rw [di]
  exact (bh r).2
 | _=>cases e
theorem sk {K:W.Frag} {G:Hp}:∀ {ds:List D} {ks:List Key} {xs:List V},eI ds=some ks→Reps K G ds xs→∀ k∈ks,vL k
 | [],_,_,e,_=>by
  cases e
  exact fun _ h=>nomatch h
 | d :: ds,_,_,e,r=>by
  rw [eI,Option.bind_eq_some_iff] at e
  obtain ⟨k,e1,e⟩:=e
  rw [Option.map_eq_some_iff] at e
  obtain ⟨ks,e2,e3⟩:=e
  subst e3
  rw [Reps] at r
  obtain ⟨y,ys,e4,r1,r2⟩:=r
  intro z hz
  rcases List.mem_cons.mp hz with rfl | hz
  ·exact sj e1 r1
  ·exact sk e2 r2 z hz
theorem pe {κ:Type} [DecidableEq κ] {P:κ→Prop} {kvs:List (κ×V)} {k:κ} {y:V} (h:∀ kv∈kvs,P kv.1) (hk:P k):∀ kv∈i5 kvs k y,P kv.1:=by
 intro kv hkv
 unfold i5 at hkv
 split at hkv
 ·obtain ⟨z,hz,e⟩:=List.mem_map.mp hkv
  rw [←e]
  split
  ·exact h z hz
  ·exact h z hz
 ·rcases List.mem_append.mp hkv with hkv | hkv
  ·exact h kv hkv
  ·rw [List.mem_singleton] at hkv
   rw [hkv]
   exact hk
theorem pf {i:Nat} {o ix value:Expr} {fk fv:FX} {pos pos':Pos} (hu:X.A.units + 1 < cLine) (ho:PE X o (tJ i)) (hi:QE X ix fk) (hv:QE X value fv) (hs:swapsWith value (some (.Subscript o ix pos')) pos.line X.env=pure false:=by rfl) :
  QS (md:=md) X (.Assign [.Subscript o ix pos'] value pos) (xA i fk fv):=eV (xh hu ho hi hv hs) fun Dd σ H hq0=>by
 obtain ⟨G,env,fp,rel,k⟩:=hq0
 unfold xA at k
 match q1:fv env,k with
 | .ok (r1,env1),k=>
  have k:OutOk X.K G H fp Dd ((fk env1).bind fun q=>match env1[i]?,q.2[i]? with
   | some (some _),some (some (.d,.dct tk ks vs))=>if dD tk q.1.2 && decide (ks.length < sizeLine) then .ok (.nx (q.2.set i (some (.d,.dct tk (mF ks vs q.1.2 r1.2).1 (mF ks vs q.1.2 r1.2).2)))) else .bad
   | _,_=>.bad):=k
  match q2:fk env1,k with
  | .ok (r2,env2),k=>
   have k:OutOk X.K G H fp Dd (match env1[i]?,env2[i]? with
    | some (some _),some (some (.d,.dct tk ks vs))=>if dD tk r2.2 && decide (ks.length < sizeLine) then .ok (.nx (env2.set i (some (.d,.dct tk (mF ks vs r2.2 r1.2).1 (mF ks vs r2.2 r1.2).2)))) else .bad
    | _,_=>.bad):=k
   split at k
   ·rename_i rr tk ks ws h1 h2
    split at k
    ·rename_i hc
     rw [Bool.and_eq_true,decide_eq_true_eq] at hc
     refine ⟨G,env,fp,r1,env1,rel,q1,fun y H1 G1 fp1 st1 rel1=>?_⟩
     obtain ⟨G2,b,ry,rel2,st2⟩:=rel1.freeze
     obtain ⟨v0,ev0,_⟩:=rel2.view h1
     refine ⟨v0,ev0,G2,env1,b,r2,env2,rel2,q2,fun z H3 G3 fp3 st3 rel3=>?_⟩
     obtain ⟨G4,b4,rz,rel4,st4⟩:=rel3.freeze
     obtain ⟨p,xs,u,ep,hp,dd,rs,cg⟩:=rel4.chgD h2
     rw [ev0] at ep
     cases ep
     have ry':Rep X.K G4 r1.2 y:=Rep.mono (st3.gg.trans st4.gg) ry
     cases tk with
     | true=>
      obtain ⟨kvs,eu,ek,ex,hfit⟩:=dd
      subst eu
      subst ex
      have hk:=hc.1
      unfold dD at hk
      rw [if_pos rfl,Option.isSome_iff_exists] at hk
      obtain ⟨kk,hk⟩:=hk
      obtain ⟨pz,ez,gz,dz⟩:=dv hk rz
      subst ez
      obtain ⟨t1,t2⟩:=mG (K:=X.K) (G:=G4) kT vT (k:=kk) rs ry'
      have ek:ks=kvs.map fun kv=>kT kv.1:=ek
      rw [←ek,←dz] at t1 t2
      have hfk:∀ key∈kk,vL key:=by
       cases hd:r2.2 with
       | tup ds=>
        rw [hd] at hk rz
        obtain ⟨_,xs',_,_,rs'⟩:=rR rz
        exact sk hk rs'
       | _=>rw [hd] at hk;cases hk
      obtain ⟨fq,rel5,st5⟩:=cg (.dT (i5 kvs kk y)) _ _ _ ⟨i5 kvs kk y,rfl,t1.symm,rfl,pe (P:=fun ks=>∀ k∈ks,vL k) hfit hfk⟩ t2
      have hlen:kvs.length < sizeLine:=by have:=hc.2;rw [ek,List.length_map] at this;exact this
      exact ⟨p,_,rfl,DPut.t hp (rel4.gh _ _ gz) hlen,k _ _ G4 fq (st1.trans (st2.trans (st3.trans (st4.trans st5)))) rel5⟩
     | false=>
      obtain ⟨kvs,eu,ek,ex,hfit⟩:=dd
      subst eu
      subst ex
      have hk:=hc.1
      unfold dD at hk
      rw [if_neg Bool.false_ne_true,Option.isSome_iff_exists] at hk
      obtain ⟨kk,hk⟩:=hk
      obtain ⟨ez,dz⟩:=fY hk rz
      subst ez
      obtain ⟨t1,t2⟩:=mG (K:=X.K) (G:=G4) kD sf (k:=kk) rs ry'
      rw [←ek,←dz] at t1 t2
      obtain ⟨fq,rel5,st5⟩:=cg (.dK (i5 kvs kk y)) _ _ _ ⟨i5 kvs kk y,rfl,t1.symm,rfl,pe (P:=vL) hfit (sj hk rz)⟩ t2
      have hlen:kvs.length < sizeLine:=by have:=hc.2;rw [ek,List.length_map] at this;exact this
      exact ⟨p,_,rfl,DPut.k hp hlen,k _ _ G4 fq (st1.trans (st2.trans (st3.trans (st4.trans st5)))) rel5⟩
    ·exact k.elim
   ·exact k.elim
end
end PV
namespace NX
open PySem PySem.Spec PyProof.Rows L2
section
variable {prog:Program} {w:World} {A:Around} {E:Value→Shared→Prop} {s:Shared} {d:Addr} {es:Array DictEntry} {ep:Nat}
theorem lq (nm:(d == sysModules)=false):MeetsIn prog w (Builtin.«dict.__len__» ⟨[.ref d],[]⟩) (fun _ R s=>RawD s.heap d es ep∧R (.ok (.ret (.int es.size s.toks))) { s with toks:=s.toks + 1 }):=
 .of_wp fun A R s hq0=>by
  obtain ⟨⟨o,g,_,dat⟩,h⟩:=hq0
  show wpAny _ _ (dictSize d >>= fun _=>_) _ _ s
  unfold dictSize
  refine wpAny_bind (wpAny_bind (wpAny_dictEntries g dat (wpAny_pure ?_)))
  show wpAny _ _ (Builtin.Dict.pendingCount d >>= fun _=>_) _ _ s
  refine wpAny_bind (wpAny_pendingCount_other nm (wpAny_ret_mkInt ?_))
  rw [Nat.add_zero]
  exact h
theorem xB {Q:Value→Shared→Prop} (nm:(d == sysModules)=false) (x:RawD s.heap d es ep) (hf:(es.size:Int) < 2 ^ 63) (h:Q (.int es.size (s.toks + 1)) { s with toks:=s.toks + 1 + 1 }):wpAny (model prog w) A (call (.builtin "len") [.ref d]) Q E s:=by
 have ty:=jh x
 refine Calls.call_function_entry kind_len plain_len entry_len (args_len1 _) ?_
 unfold Builtin.«len»
 refine wpAny_bind (m:=oneArg "len" _) (wpAny_pure (wpAny_bind (m:=callSpecial? (.ref d) (Str.ofString "__len__")) (wpAny_callSpecial?_slot (name:=Str.ofString "__len__") ty F.slot_dict_len
  (call_meetsIn F.slot_dict_len ty F.entry_dict_len (F.args_dict_len_1 _) (lq (es:=es) (ep:=ep) nm) ⟨x,?_⟩))))
 show wpAny _ _ _ _ _ { s with toks:=s.toks + 1 }
 refine wpAny_bind (wpAny_holding (wpAny_pure (wpAny_bind (wpAny_letGo ?_))))
 show wpAny _ _ (if ((es.size:Nat):Int) < 0 then _ else _) _ _ _
 rw [if_neg (Int.not_lt.mpr (Int.natCast_nonneg _))]
 show wpAny _ _ (if ((es.size:Nat):Int) ≥ 2 ^ 63 then _ else _) _ _ _
 rw [if_neg (Int.not_le.mpr hf)]
 exact wpAny_bind (wpAny_mkInt (wpAny_pure ⟨_,rfl,h⟩))
end
end NX
namespace PV
open PySem PySem.Spec PyProof.Rows L2 NX
section
variable {X:Cx}
noncomputable def ft:List D→Res R
 | [.dct _ ks _]=>.ok (.f,.int ks.length)
 | ds=>BU ds
theorem z7 {pins:List (Addr×Obj)} {σ:L2.St} {H:Hp} {s:Shared} (I:Inv X pins σ H s) {p:Addr} {o:HO} {tk:Bool} {ks:List D} {xs:List V} (rd:Rd H p o) (dd:DictO o tk ks xs):(p == sysModules)=false∧∃ es ep,RawD s.heap p es ep∧es.size=ks.length∧ks.length≤sizeLine:=by
 have ok:=rd.ok I.hok
 cases tk with
 | true=>
  obtain ⟨kvs,eo,ek,_⟩:=dd
  subst eo
  obtain ⟨z,nm,ws,r,o2,es,ep,h1,h2,h3,h4,_⟩:=ok
  refine ⟨nm,es,ep,⟨o2,h1,h2,h3⟩,?_,by rw [ek,List.length_map];exact z⟩
  have:=congrArg List.length h4
  rw [List.length_map,Array.length_toList,←Paired.length r] at this
  rw [ek,List.length_map]
  exact this
 | false=>
  obtain ⟨kvs,eo,ek,_⟩:=dd
  subst eo
  obtain ⟨z,nm,ws,r,o2,es,ep,h1,h2,h3,h4,h5,_⟩:=ok
  refine ⟨nm,es,ep,⟨o2,h1,h2,h3⟩,?_,by rw [ek,List.length_map];exact z⟩
  have l1:=h5.length
  have l2:kvs.length=ws.length:=Paired.length r
  rw [ek,List.length_map]
  rw [Array.length_toList] at l1
  lia
theorem bP:cT X (.builtin "len") (rC X.K ft):=by
 rintro pins s σ H xs us Q I rx ⟨G,fp,es,vs,ds,r,⟨rel,k⟩,vd,e⟩
 unfold ft at e
 split at e
 ·rename_i tk ks ws
  cases e
  obtain ⟨v,ev,p,ys,o,ep,rd,dd,_⟩:=mz vd
  subst ev
  subst ep
  obtain ⟨u,rfl,ru⟩:=fm rx
  cases ru
  obtain ⟨nm,en,ep,raw,h1,h2⟩:=z7 I rd dd
  refine xB nm raw (by rw [h1];rw [sizeLine_eq] at h2;lia) ?_
  refine ⟨.int ks.length,H,I.tok _,⟨_,by rw [h1]⟩,k _ H G fp .refl (rel.push (bo _))⟩
 ·exact zV pins s σ H xs us Q I rx ⟨G,fp,es,vs,_,r,⟨rel,k⟩,vd,e⟩
noncomputable def Dp (g:List Nat→List D→Res R) (fa:FO) (fs:FOs):FX:=fun env=>(fa env).bind fun p=>match der p.2 p.1 with
 | .ok (.str l)=>(fs p.2).bind fun q=>(lO q.2 q.1).bind fun ds=>(g l ds).bind fun r=>.ok (r,q.2)
 | _=>.bad
end
theorem fnok_of {P:Program} {w:World} {K:W.Frag} {mg:Str→Option Value} {base:Heap} {x:Str} {st:Stmt} {N ps:List Str} {k:Nat} {g:FS} {f:Addr} {fd:FuncData} (F:Fun K x x st f fd) (sc:FnScope N ps (defScope st))
  (body:∀ (cdv:Value) (A:Around) (outer:List PySem.Env) (s:Shared) (H:Hp) (E:XK),Room k (A.deeper (envOfC x (defScope st) s.heap.objs.size f cdv))→QSs (md:=.plain) (ua CX0 P w K mg base N x (defScope st) f cdv A outer s H E).nox (cF st) g) :
  FnOk P w K mg base CX0 (k + 1) f fd ps (spF K (fBody ps.length (N.length - ps.length) g)):=by
 refine F.ok sc (fun vs H Q E h=>?_) (fun cdv A outer s H vs Q E hr h=>?_)
 ·obtain ⟨G,ds,r,_,rs,e,_⟩:=h
  unfold fBody at e
  split at e
  ·rename_i hl
   rw [rs.length,hl]
  ·cases e
 ·obtain ⟨G,ds,r,gh,rs,e,q⟩:=h
  unfold fBody at e
  split at e
  ·rename_i hl
   refine ⟨_,body cdv A outer s H E hr,G,ds.map (fun d=>some (O.f,d))++List.replicate (N.length - ps.length) none,[],⟨?_,List.nodup_nil,(fun _ h=>nomatch h),gh⟩,?_⟩
   ·have:=gZ (K:=K) (G:=G) (H:=H) (N.length - ps.length) rs
    unfold L2.start
    rw [rs.length,hl]
    exact this
   ·obtain ⟨o,eo,e⟩:=aj e
    rw [eo]
    cases o with
    | rt r'=>
     cases e
     exact fun v H' G' fp' st rel=>q v H' G' fp' st rel
    | nx env'=>
     cases e
     exact fun σ' H' G' fp' st rel=>q .non H' G' [] (st.trans (Step.cut fun _ h=>nomatch h)) (rel.nilF.push nv)
    | bk env'=>cases e
    | ct env'=>cases e
  ·cases e
noncomputable def uM (K:W.Frag):Sp:=fun vs H Q _=>∃ (a:Addr) (ns:List Int),vs=[.ref a]∧SqL K H a (ns.map V.int)∧ns.length≤63∧∀ H',Q (.bl true) H'
theorem z8 {K:W.Frag} {F:List D→Res R} (h:∀ ns:List Int,ns.length≤63→∃ o,F [.lst (ns.map D.int)]=.ok (o,.bl true)):∀ vs H Q E,uM K vs H Q E→spF K F vs H Q E:=by
 rintro vs H Q E ⟨a,ns,rfl,sq,hl,q⟩
 obtain ⟨o,e⟩:=h ns hl
 refine ⟨H,_,_,.refl _,?_,e,fun v H' G' fp' st rel=>?_⟩
 ·refine .one ?_
  rw [Rep]
  exact ⟨a,_,rfl,sq,eN fun n _=>bo n⟩
 ·rw [cv rel.top]
  exact q H'
theorem _root_.L2.Room.u65 {k:Nat} {A:Around} (r:Room k A):A.units + 65 < cLine:=by have:=r.un;lia
noncomputable def z9 (f:FX) (a:FG):FS:=fun env=>(f env).bind fun p=>(a p.1.2 p.2).bind fun e=>.ok (.nx e)
theorem Aa {X:Cx} {tg e:Expr} {f:FX} {a:FG} {pos:Pos} (he:QE X e f) (hg:QG X tg a) (hs:swapsWithSole [tg] e pos.line X.env=pure false:=by rfl) (hw:swappedStores [tg] e X.env=pure none:=by rfl)
  (h1:(assignEach [tg] X.env).map (·.2)=[assign tg X.env]:=by rfl):QS (md:=md) X (.Assign [tg] e pos) (z9 f a):=eV (yV he hg hs hw h1) fun Dd σ H hq0=>by
 obtain ⟨G,env,fp,rel,k⟩:=hq0
 unfold z9 at k
 match q:f env,k with
 | .ok (r,env1),k=>
  have k:OutOk X.K G H fp Dd ((a r.2 env1).bind fun e=>.ok (.nx e)):=k
  match q2:a r.2 env1,k with
  | .ok env2,k=>
   refine ⟨G,env,fp,r,env1,rel,q,fun v H1 G1 fp1 st1 rel1=>?_⟩
   obtain ⟨G2,b,rv,rel2,st2⟩:=rel1.freeze
   exact ⟨G2,env1,b,r.2,env2,rel2,rv,q2,fun σ' G' fp' st rel'=>k σ' H1 G' fp' (st1.trans (st2.trans st)) rel'⟩
theorem Dq {l:PySem.W.OpenLaw} {q:Program} {loose:List Str} {XP:(Str→Option Value)→Heap→Prop} {YP:World→Heap→Prop} {d:DefRec} {K:Params→W.Frag} {k:Nat} {x:Str} (hn:l.most=some 63) (hdf:d.params.defaults=[]) (hr:Room k PySem.callerA)
  (hY:∀ (w:World) (h:Heap),YP w h→(K w.params).In h)
  (F:∀ (w:World) (mg:Str→Option Value) (fa:Addr) (h:Heap),(K w.params).In h→h.Ns mainGlobals mg→mg d.name=some (.ref fa)→
   ∃ fd:FuncData,(∀ (s:Shared) (u:Value),BindsTo s fd ⟨[u],[]⟩ [(x,u)])∧∀ base:Heap,(K w.params).In base→base.Ns mainGlobals mg→FnOk l.prog w (K w.params) mg base CX0 k fa fd [x] (uM (K w.params))) :
  PySem.W.WalkO q loose XP YP l.row.toRowW d [] (fun f vs=>PySem.call f vs):=
 L2.wQ (n:=63) (k:=k) (x:=x) (CX:=fun _=>CX0) (sp:=fun w=>uM (K w.params)) hn (by decide) hdf hr hY F (fun _ _ a ns hl _ hS=>⟨a,ns,rfl,hS,hl,fun _=>rfl⟩) fun _ _ _ _ _ z=>z
theorem vU:bootBuiltins "max" = some (.builtin "max"):=by decide +kernel
theorem Ab:bootBuiltins "min" = some (.builtin "min"):=by decide +kernel
theorem Ac:bootBuiltins "sum" = some (.builtin "sum"):=by decide +kernel
theorem hU:bootBuiltins "sorted" = some (.builtin "sorted"):=by decide +kernel
theorem bY {K:W.Frag} {h:Heap} {mg:Str→Option Value} {x:Str} {st:Stmt} {f:Addr} {oc:Value} {od an:Option Addr} {osl:Array (Option Value)} {kV doc pm cdv ct:Value} (X:K.In h) (G:h.Ns mainGlobals mg)
  (a:PySem.W.nsIn K mainGlobals x=some (some (.ref f))) (l:K.lookup f=some ⟨oc,od,.func (PySem.W.fnOf x x (eh st) (cF st) (defScope st) .none kV doc pm an cdv ct),osl⟩)
  (c:PySem.W.codeIn K cdv x=true) (k:PySem.W.keepIn K (.ref f)=true):Def K mg x st:=⟨f,_,vD l c k,PySem.W.mg_of X G a⟩
inductive tQL (K:W.Frag) (f:FI) (σ:L2.St) (H:Hp) (R:It→Hp→Prop):Prop
 | mk:∀ G env fp ds env',Rel K G H env σ fp→f env=.ok (ds,env')→(∀ J H' G' fp',Step G H fp G' H' fp'→Rel K G' H' env' σ fp'→(∀ G2,Same G' G2→(∀ (i:Nat) (r:PV.R) (v:V),env'[i]?=some (some r)→σ[i]?=some (some v)→Rep K G2 r.2 v)→Walk K G2 J ds)→R J H')→tQL K f σ H R
def QIL (X:Cx) (tg e:Expr) (f:FI):Prop:=PI X tg e (tQL X.K f)
theorem Walk.mono {K:W.Frag} {G G2:Hp} {J:It} {ds:List D} (w:Walk K G J ds) (gg:Same G G2):Walk K G2 J ds:=fun G' H' es vs fp g rel=>w G' H' es vs fp (gg.trans g) rel
theorem vV {K:W.Frag} {fi:FI} {ix:List (Option Nat)} {a:FG} {c:FT} {f:FX} {σ:L2.St} {H:Hp} {Q:VK} (h:tQ K (gF fi ix a c f) σ H Q):uk (tQL K fi) ix (tQG K a) (tQT K c) (tQ K f) σ H Q:=by
 obtain ⟨G,env,fp,r,env',rel,e,k⟩:=h
 obtain ⟨⟨ds,env1⟩,e1,e⟩:=aj e
 obtain ⟨rs,e2,e⟩:=aj e
 refine ⟨G,env,fp,ds,env1,rel,e1,fun J H1 G1 fp1 st1 rel1 wk D hD=>?_⟩
 dsimp only at e e2
 split at e
 ·rename_i hz
  have er:r=(.l .f,.lst rs):=by cases e;rfl
  have ee:env'=if flatDs rs then env1 else env1.map frz:=by cases e;rfl
  subst er
  obtain ⟨G2,g12,g2h,hrep,hrE,hback⟩:=rel1.lend
  have wk2:=wk G2 g12 hrep
  have rel2:Rel K G2 H1 (bZ ix env1) (gR ix σ) []:=⟨dY hrep (fun i r er=>let ⟨v,ev,_⟩:=rel1.view er;⟨v,ev⟩) ix,List.nodup_nil,(fun _ h=>nomatch h),g2h⟩
  obtain ⟨rel3,st3⟩:=rel2.newL (ds:=[]) (xs:=[]) hD .nil
  refine ⟨fun i m σ1 H2=>m=ds.length - i∧i≤ds.length∧∃ G' es fp' acc dh,Step G2 H1 [] G' H2 fp'∧Rel K G' H2 (some (.l .f,.lst acc) :: es) (some (.ref D) :: σ1) fp'∧dt a c f (ds.drop i) es=.ok dh∧acc++dh=rs,
   ⟨_,rfl,Nat.zero_le _,G2,bZ ix env1,_,[],rs,st3,rel3,e2,rfl⟩,?_⟩
  rintro i m σ1 H2 ⟨rfl,hi,G3,es,fp3,acc,dh,st4,rel4,e4,eacc⟩
  obtain ⟨w1,w2⟩:=wk2 G3 H2 _ _ _ st4.gg rel4 i
  by_cases hlt:i < ds.length
  ·have hd:ds[i]?=some ds[i]:=List.getElem?_eq_getElem hlt
   obtain ⟨go,yl⟩:=w1 _ hd
   rw [List.drop_eq_getElem_cons hlt] at e4
   unfold dt at e4
   obtain ⟨es1,h1,e4⟩:=aj e4
   obtain ⟨⟨b,es2⟩,h2,e4⟩:=aj e4
   dsimp only at e4
   refine .inr ⟨go,fun x H3 y=>?_⟩
   obtain ⟨G4,rx,rel5,st5⟩:=yl x H3 y
   obtain ⟨fa,fb,efp,ra,relb,bk⟩:=rel5.frame
   refine ⟨G4,es,fb,ds[i],es1,relb,rx,h1,fun σ2 G5 fp5 st6 rel6=>?_⟩
   refine ⟨G5,es1,fp5,b,es2,rel6,h2,fun H6 G6 fp6 st7 rel7=>?_⟩
   have st67:=st6.trans st7
   cases b with
   | false=>
    refine iteF ⟨ds.length - (i + 1),by lia,rfl,hlt,?_⟩
    obtain ⟨relz,stz⟩:=bk G6 H6 es2 σ2 fp6 st67 rel7
    rw [←efp] at stz
    exact ⟨G6,es2,_,acc,dh,st4.trans (st5.trans stz),relz,e4,eacc⟩
   | true=>
    have e4:((f es2).bind fun q=>(dt a c f (ds.drop (i + 1)) q.2).bind fun rs=>.ok (q.1.2 :: rs))=.ok dh:=e4
    obtain ⟨⟨r,es3⟩,h3,e4⟩:=aj e4
    obtain ⟨rest',h4,e4⟩:=aj e4
    cases e4
    refine zo ⟨G6,es2,fp6,r,es3,rel7,h3,fun v H7 G7 fp7 st8 rel8=>?_⟩
    obtain ⟨G8,fp8,rv,rel9,st9⟩:=rel8.freeze
    obtain ⟨relz,stz⟩:=bk G8 H7 es3 σ2 fp8 (st67.trans (st8.trans st9)) rel9
    rw [←efp] at stz
    obtain ⟨p,xs,ep,hp,rxs,cg⟩:=relz.chg (i:=0) (ds:=acc) (ds':=acc++[r.2]) rfl
    have ep:some (some (V.ref D))=some (some (V.ref p)):=ep
    cases ep
    obtain ⟨fq,rely,sty⟩:=cg (xs++[v]) (rxs.app (.one rv))
    refine ⟨xs,hp,?_,ds.length - (i + 1),by lia,rfl,hlt,G8,es3,fq,acc++[r.2],rest',st4.trans (st5.trans (stz.trans sty)),rely,h4,?_⟩
    ·rw [rxs.length]
     have:=congrArg List.length eacc
     rw [List.length_append,List.length_cons] at this
     lia
    ·rw [←eacc,List.append_assoc]
     rfl
  ·have ei:i=ds.length:=by lia
   subst ei
   rw [List.drop_length] at e4
   cases e4
   rw [List.append_nil] at eacc
   subst eacc
   refine .inl ⟨w2 rfl,?_⟩
   obtain ⟨fa,relo,sto⟩:=rel4.only
   obtain ⟨k1,k2⟩:=hback H2 G3 fa _ _ (st4.trans sto) relo
   rw [ee] at k
   by_cases hc:flatDs acc=true
   ·rw [if_pos hc] at k
    obtain ⟨G5,fp5,st5,rel5⟩:=k1 (by rw [a8,g0];exact hc)
    exact k _ H2 G5 fp5 (st1.trans st5) rel5
   ·rw [if_neg hc] at k
    obtain ⟨G5,fp5,st5,rel5⟩:=k2
    exact k _ H2 G5 fp5 (st1.trans st5) rel5
 ·cases e
section
variable {md:Mode} {X:Cx} {scope:Scope} {N:List Str} {tg iter elt:Expr} {ifs:List Expr} {pos:Pos} {fi:FI} {a:FG} {c:FT} {f:FX}
variable {l e:Expr} {g fj:FI}
theorem cY (h:QI X tg e fi):QIL X tg e fi:=iH h fun σ H R ⟨G,env,fp,ds,env',rel,e,k⟩=>⟨G,env,fp,ds,env',rel,e,fun J H' G' fp' st rel' wk=>k J H' G' fp' st rel' fun _ gg _=>wk.mono gg⟩
theorem gr (h:QIL X tg e fi) (h2:QIL X tg e fj):QIL X tg e (or2 fi fj):=fun pins s σ H R I hq0=>by
 obtain ⟨G,env,fp,ds,env',rel,ee,k⟩:=hq0
 rcases vS ee with z | z
 ·exact h pins s σ H R I ⟨G,env,fp,ds,env',rel,z,k⟩
 ·exact h2 pins s σ H R I ⟨G,env,fp,ds,env',rel,z,k⟩
noncomputable def lr (i:Nat):FI:=fun env=>match env[i]? with
 | some (some (_,.lst ds))=>.ok (ds,env)
 | _=>.bad
theorem jN {i:Nat} (h:PE X l (tJ i)):QIL X tg l (lr i):=iH (qD h) fun σ H R hq0=>by
 obtain ⟨G,env,fp,ds,env',rel,e,k⟩:=hq0
 unfold lr at e
 split at e
 ·rename_i o ds hr
  cases e
  obtain ⟨v,ev,rv⟩:=rel.view hr
  obtain ⟨p,xs,evp,sq,rs⟩:=bu rv
  refine ⟨v,ev,p,evp,⟨xs,sq⟩,k _ H G fp .refl rel fun G2 gg hrep=>?_⟩
  obtain ⟨p',xs',evp',sq',rs'⟩:=bu (hrep i _ v hr ev)
  rw [evp] at evp'
  cases evp'
  exact mx sq' rs'
 ·cases e
theorem cQ (ix:List (Option Nat)) (N:List Str) (hc:X.calm=true) (hi:QIL X tg iter fi) (hg:∀ C s H fp pn,QG (bE X scope N C s H fp pn) tg a) (ht:∀ C s H fp pn,QTs (bE X scope N C s H fp pn) ifs c) (he:∀ C s H fp pn,QE (bE X scope N C s H fp pn) elt f)
  (hf:gf scope X.env=true:=by rfl) (hk:scope.kind=.function:=by rfl) (hcell:∀ y∈scope.names,y.2≠.cell:=by decide +kernel) (hnames:∀ y∈scope.names,y.2=.local→scope.names.lookup y.1=some .local:=by decide +kernel) (hix:um X scope N ix=true:=by rfl)
  (hs:∀ x,foldedSetIterable iter X.env x=pure x:=by intro _;rfl):QE X (.ListComp elt [⟨tg,iter,ifs,0⟩] scope pos) (gF fi ix a c f):=
 bF (wX (g:=tQG X.K a) (tc:=tQT X.K c) (te:=tQ X.K f) ix N hc hi hg ht he hf hk hcell hnames hix hs) fun _ _ _=>vV
theorem uN {i:Nat} {y:Str} {py spos:Pos} (ix:List (Option Nat)) (N:List Str) (hN:X.N.Nodup) (hiy:X.N[i]?=some y) (hy:Loc X.env.scope y) (hc:X.calm=true) (hi:QIL X tg iter fi) (hg:∀ C s H fp pn,QG (bE X scope N C s H fp pn) tg a) (ht:∀ C s H fp pn,QTs (bE X scope N C s H fp pn) ifs c)
  (he:∀ C s H fp pn,QE (bE X scope N C s H fp pn) elt f) (hsw:swapsWith (.ListComp elt [⟨tg,iter,ifs,0⟩] scope pos) (some (.Name y py)) spos.line X.env=pure true:=by rfl)
  (hf:gf scope X.env=true:=by rfl) (hk:scope.kind=.function:=by rfl) (hcell:∀ y∈scope.names,y.2≠.cell:=by decide +kernel) (hnames:∀ y∈scope.names,y.2=.local→scope.names.lookup y.1=some .local:=by decide +kernel) (hix:um X scope N ix=true:=by rfl)
  (hs:∀ x,foldedSetIterable iter X.env x=pure x:=by intro _;rfl) (hfn:X.fn y=true∨X.env.scope.names.lookup y=some .local:=by first | exact .inl rfl | exact .inr rfl) :
  QS (md:=md) X (.Assign [.Name y py] (.ListComp elt [⟨tg,iter,ifs,0⟩] scope pos) spos) (bW i (gF fi ix a c f)):=
 eV (qZ (i:=i) (g:=tQG X.K a) (tc:=tQT X.K c) (te:=tQ X.K f) ix N hN hiy hy hc hi hg ht he hsw hf hk hcell hnames hix hs hfn) fun D σ H ⟨G,env,fp,rel,k⟩=>vV (ny rel k)
end
section
variable {X:Cx} {a:Expr} {pos:Pos} {fa:FO}
noncomputable def Dr (fa:FO):FX:=fun env=>(fa env).bind fun p=>(der p.2 p.1).bind fun d=>match d with
 | .int i=>.ok ((.f,.int (-i)),p.2)
 | _=>.bad
theorem so {i:Int} (h:i.natAbs < 2 ^ 1000):Builtin.Int.intBits i≤2 ^ 20:=by
 unfold Builtin.Int.intBits
 split
 ·exact Nat.zero_le _
 ·rename_i h0
  have h1:i.natAbs≠0:=by
   intro e
   rw [Int.natAbs_eq_zero] at e
   exact h0 (by rw [e];rfl)
  have:=(Nat.log2_lt h1).mpr h
  have e:(2:Nat) ^ 20=1048576:=by decide
  lia
theorem xC:OpR X (binaryOp .Mult) (rI (fun i j=>i.natAbs < 2 ^ 1000∧j.natAbs < 2 ^ 1000) fun i j=>.int (i * j)):=opI fun _ _ _ _ _ _ _ hc q=>mul_int q (.of_bits (so hc.1) (so hc.2))
theorem mH {α:Type}:∀ (ls:List (Array α)) (acc:Array α),(ls.foldl (·++·) acc).toList=acc.toList++(ls.map Array.toList).flatten
 | [],acc=>by simp
 | a :: ls,acc=>by
  rw [List.foldl_cons,mH ls,Array.toList_append,List.map_cons,List.flatten_cons,List.append_assoc]
theorem BW (l:List Nat) (n:Nat):(⟨(List.replicate n (S l).cps).foldl (·++·) #[]⟩:Str)=S (List.replicate n l).flatten:=by
 have h:((List.replicate n (S l).cps).foldl (·++·) #[]).toList=(List.replicate n l).flatten:=by
  rw [mH,List.map_replicate]
  simp only [di,List.nil_append]
 show Str.mk _=Str.mk _
 rw [←h]
theorem xD (a b:Int):BQ (.int a) (.int b)=if cn a || cn b then .ok (.f,.int (a * b)) else .bad:=rfl
noncomputable def yB:D→D→Res R
 | .int i,.int j=>if cn i || cn j then .ok (.f,.int (i * j)) else if i.natAbs < 2 ^ 1000∧j.natAbs < 2 ^ 1000 then .ok (.f,.int (i * j)) else .bad
 | .str l,.int k=>if 2≤k∧k≤1000∧1≤l.length∧l.length≤1000 then .ok (.f,.str (List.replicate k.toNat l).flatten) else .bad
 | _,_=>.bad
theorem xE:OpR X (binaryOp .Mult) (rG X.K yB):=by
 rintro pins s σ H x y v u Q I rx ry ⟨G,fp,es,vs,a,b,r,⟨rel,k⟩,va,vb,e⟩
 unfold yB at e
 split at e
 ·rename_i i j
  split at e
  ·rename_i hc
   exact zS pins s σ H x y v u Q I rx ry ⟨G,fp,es,vs,.int i,.int j,r,⟨rel,k⟩,va,vb,by rw [xD,if_pos hc];exact e⟩
  ·split at e
   ·rename_i hc
    cases e
    cases bB va
    cases bB vb
    exact xC pins s σ H _ _ v u Q I rx ry ⟨i,j,rfl,rfl,hc,k _ H G fp .refl (rel.push (bo _))⟩
   ·cases e
 ·rename_i l j
  split at e
  ·rename_i hc
   cases e
   obtain ⟨ev,hl⟩:=gk va
   subst ev
   cases bB vb
   obtain ⟨t,rfl⟩:=rx
   obtain ⟨t',rfl⟩:=ry
   have hlen:(S l).length=l.length:=l7 l
   have hz:(List.replicate j.toNat l).flatten.length≤1000000:=by
    rw [kO]
    exact Nat.mul_le_mul (by lia:j.toNat≤1000) hc.2.2.2
   have hz2:(List.replicate j.toNat l).flatten.length≤sizeLine:=Nat.le_trans hz (by decide)
   refine PySem.P.mul_str ?_ ?_ ?_ ?_
   ·rw [decide_eq_false (by lia),decide_eq_false (by lia)];rfl
   ·intro _ _
    rw [hlen]
    have h1:1000≤(2 ^ 63 - 1) / j:=(Int.le_ediv_iff_mul_le (by lia)).mpr (by lia)
    lia
   ·intro _ _
    unfold Builtin.Str.tooLong
    rw [decide_eq_false_iff_not,hlen,Nat.mul_comm,←kO]
    lia
   ·rw [if_neg (by lia),if_neg (by rw [hlen,Bool.or_eq_true,beq_iff_eq,beq_iff_eq];lia),BW]
    refine ⟨?_,?_⟩
    ·rw [l7]
     exact hz2
    ·exact ⟨.str (S (List.replicate j.toNat l).flatten),H,I.tok _,⟨_,rfl⟩,k _ H G fp .refl (rel.push (gE hz2))⟩
  ·cases e
 ·cases e
end
end PV
namespace HT
open PySem PySem.Spec PyProof.Rows L2
variable {prog:Program} {w:World} {A:Around} {E:Value→Shared→Prop} {s:Shared}
theorem hV {t sl:Addr} {items:Array Value} {vl vu:Value} {lo hi:Option Int} {Q:Value→Shared→Prop} (ht:IsTup s.heap t items) (hs:s.heap.IsSliceOf sl vl vu .none) (pl:IsPart vl lo) (pu:IsPart vu hi)
  (hw:sIx items.size 0 lo=0∧sIx items.size items.size hi=items.size) (h:Q (.ref t) s):wpAny (model prog w) A (getItem (.ref t) (.ref sl)) Q E s:=by
 obtain ⟨os,hos,hcs,hds⟩:=id hs
 have hTs:s.TypeIs (.ref sl) "slice":=⟨os,hos,hcs⟩
 unfold getItem
 try with_reducible refine wpAny_holding ?_
 first | refine wpAny_bind (wpAny_pure ?_) | skip
 refine wpAny_bind (wpAny_sequenceKey ht.typeIs (by decide) ?_)
 refine wpAny_bind (wpAny_callSpecial?_slot (name:=Str.ofString "__getitem__") ht.typeIs PyProof.Rows.slot_tuple_getitem
  (wpAny_call_entry PyProof.Rows.slot_tuple_getitem ht.typeIs entry_tuple_getitem ?_ (args_tuple_getitem _ _)))
 show wpAny _ _ (Builtin.Tuple.tupleItemsOf (.ref t) >>= _) _ _ s
 refine wpAny_bind (tupleItemsOf_ ht ?_)
 refine wpAny_bind (wpAny_typeOf hTs ?_)
 rw [if_pos (by decide)]
 refine wpAny_bind (eU hs pl pu ?_)
 have hyes:(((sIx items.size 0 lo:Nat):Int) == 0 && (1:Int) == 1 && (sIx items.size items.size hi - sIx items.size 0 lo) == items.size)=true:=by
  rw [hw.1,hw.2]
  simp
 show wpAny _ _ (if (((sIx items.size 0 lo:Nat):Int) == 0 && (1:Int) == 1 && (sIx items.size items.size hi - sIx items.size 0 lo) == items.size)=true then _ else _) _ _ s
 rw [if_pos hyes]
 refine wpAny_bind (m:=Builtin.Tuple.tupleIsExact _) ?_
 unfold Builtin.Tuple.tupleIsExact
 refine wpAny_bind (wpAny_typeOf ht.typeIs (wpAny_pure ?_))
 rw [if_pos (by decide)]
 exact wpAny_bind (wpAny_rule (wpAny_pure ⟨_,rfl,wpAny_pure h⟩))
end HT
namespace PV
open PySem PySem.Spec PyProof.Rows L2 NX
section
variable {X:Cx} {pos:Pos} {fa:FO}
theorem xF:SlR X (fun x lo hi H Q=>∃ a xs,x=.ref a∧SqT X.K H a xs∧(HT.sIx xs.length 0 lo=0∧HT.sIx xs.length xs.length hi=xs.length)∧Q x H):=by
 intro pins s σ H x v vl vu lo hi sl Q I rx hs pl pu h
 obtain ⟨a,xs,rfl,hx,hw,q⟩:=h
 cases rx
 obtain ⟨its,r,ht,hz⟩:=I.tuple hx
 have hlen:its.toArray.size=xs.length:=by rw [List.size_toArray];exact r.length.symm
 refine ⟨"tuple",_,PyProof.Rows.slot_tuple_getitem.lookup,ht.typeIs,?_⟩
 exact HT.hV ht hs pl pu (by rw [hlen];exact hw) ⟨.ref a,H,I,rfl,q⟩
noncomputable def slO (k:D) (lo hi:Option Int):Res R:=match k with
 | .tup ds=>if HT.sIx ds.length 0 lo=0∧HT.sIx ds.length ds.length hi=ds.length then .ok (.f,.tup ds) else slD k lo hi
 | _=>slD k lo hi
noncomputable def vW (fa:FO) (lo hi:FP):FX:=fun env=>(fa env).bind fun p=>(lo p.2).bind fun q=>(hi q.2).bind fun t=>(der t.2 p.1).bind fun d=>(slO d q.1 t.1).bind fun r=>.ok (r,t.2)
inductive rSlW (K:W.Frag) (x:V) (lo:Option Int) (hi:Option Int) (H:Hp) (Q:VK):Prop
 | mk:∀ G fp es vs d r,Goes K H G fp es vs r Q→Vw K G H d x→slO d lo hi=.ok r→rSlW K x lo hi H Q
theorem Ad:SlR X (rSlW X.K):=by
 rintro pins s σ H x v vl vu lo hi sl Q I rx hs pl pu ⟨G,fp,es,vs,d,r,⟨rel,k⟩,vd,e⟩
 unfold slO at e
 split at e
 ·rename_i ds
  split at e
  ·rename_i hw
   cases e
   obtain ⟨p,xs,ev,sq,rs⟩:=gm vd
   subst ev
   refine xF pins s σ H _ v vl vu lo hi sl Q I rx hs pl pu ⟨p,xs,rfl,bH rel.gh sq,by rw [rs.length];exact hw,?_⟩
   exact k _ H G fp .refl (rel.push vd)
  ·exact zU pins s σ H x v vl vu lo hi sl Q I rx hs pl pu ⟨G,fp,es,vs,_,r,⟨rel,k⟩,vd,e⟩
 ·exact zU pins s σ H x v vl vu lo hi sl Q I rx hs pl pu ⟨G,fp,es,vs,_,r,⟨rel,k⟩,vd,e⟩
theorem ph {e:Expr} {lo hi:Option Expr} {p2:Pos} {fl fh:FP} (he:QO X e fa) (hl:QP X lo fl) (hh:QP X hi fh):QE X (.Subscript e (.Slice lo hi none p2) pos) (vW fa fl fh):=
 bF (uc Ad he hl hh) fun σ H Q hq0=>by
  obtain ⟨G,env,fp,r,env',rel,e,k⟩:=hq0
  obtain ⟨⟨o,env1⟩,e1,e⟩:=aj e
  obtain ⟨⟨i,env2⟩,e2,e⟩:=aj e
  obtain ⟨⟨j,env3⟩,e3,e⟩:=aj e
  obtain ⟨d,e4,e⟩:=aj e
  obtain ⟨r',e5,e⟩:=aj e
  cases e
  exact ⟨G,env,fp,o,env1,rel,e1,fun v H1 G1 fp1 st1 rel1 ok1=>⟨G1,env1,fp1,i,env2,rel1,e2,fun H2 G2 fp2 st2 rel2=>⟨G2,env2,fp2,j,env3,rel2,e3,fun H3 G3 fp3 st3 rel3=>
   ⟨G3,fp3,env3,σ,d,r,⟨rel3,fun v H' G' fp' st rel'=>k v H' G' fp' (st1.trans (st2.trans (st3.trans st))) rel'⟩,rel3.vw ((ok1.mono st2.gg).mono st3.gg) e4,e5⟩⟩⟩⟩
end
end PV
namespace L2
open PySem PySem.Spec PyProof.Rows
section
variable {X:Cx} {tg:Expr}
def pj (i j c:Int):Prop:=(-1048576≤i∧i≤1048576)∧(-1048576≤j∧j≤1048576)∧(c = -1∨1≤c)∧c≤1048576
instance (i j c:Int):Decidable (pj i j c):=by unfold pj;infer_instance
end
end L2
namespace PV
open PySem PySem.Spec PyProof.Rows L2 NX
section
variable {X:Cx} {tg:Expr}
noncomputable def Bh:List D→Res R
 | [d]=>match (lh d).bind cD with
  | some (n :: ns)=>.ok (.f,.int (wY (n :: ns)))
  | _=>.bad
 | [.int i,.int j]=>.ok (.f,.int (if j < i then j else i))
 | _=>.bad
theorem Ae (hc:X.calm=true):cT X (.builtin "min") (rC X.K Bh):=by
 rintro pins s σ H xs us Q I rx ⟨G,fp,es,vs,ds,r,⟨rel,k⟩,vd,e⟩
 unfold Bh at e
 split at e
 ·rename_i d
  split at e
  ·rename_i n ns hb
   cases e
   obtain ⟨v,ev,vt⟩:=mz vd
   obtain ⟨p,ep,sq⟩:=g5 rel.gh hb vt
   subst ev
   subst ep
   exact rj hc pins s σ H _ us Q I rx ⟨p,n :: ns,rfl,sq,by simp,k _ H G fp .refl (rel.push (bo _))⟩
  ·cases e
 ·rename_i i j
  cases e
  obtain ⟨v,w',ev,v1,v2⟩:=CF vd
  subst ev
  cases bB v1
  cases bB v2
  exact qL hc pins s σ H _ us Q I rx ⟨i,j,rfl,k _ H G fp .refl (rel.push (bo _))⟩
 ·cases e
noncomputable def Ds:List D→Res R
 | [.int i]=>.ok (.f,.int (if i < 0 then -i else i))
 | _=>.bad
noncomputable def xG (fs:FOs):FI:=fun env=>(fs env).bind fun p=>(lO p.2 p.1).bind fun d=>match d with
 | [.int i,.int j,.int c]=>if pj i j c then .ok ((List.range (Builtin.Range.rangeSize i j c).toNat).map fun (k:Nat)=>D.int (i + (k:Int) * c),p.2) else .bad
 | _=>.bad
end
end PV
namespace NX
open PySem PySem.Spec PyProof.Rows L2
section
open PySem.SeqAt
open PySem.AutoSeq1 (wpAny_loadPart')
theorem jO {M:Model} {A:Around} {E:Value→Shared→Prop} {s:Shared} {β:Type} (f:Nat→β→Sem (ForInStep β)) (n:Nat) (I:Nat→β→Shared→Prop) (Q:β→Shared→Prop)
  (turn:∀ (i:Nat) (b:β) (s:Shared),i < n→I i b s→wpAny M A (f i b) (fun r s'=>match r with | .yield b'=>I (i + 1) b' s' | .done b'=>Q b' s') E s)
  (fin:∀ (b:β) (s:Shared),I n b s→Q b s) (b:β) (h:I 0 b s):wpAny M A (forIn [0:n] b f) Q E s:=by
 rw [Std.Legacy.Range.forIn_eq_forIn_range']
 refine wpAny_forIn_list f (fun dh b s=>∃ i,i≤n∧dh=List.range' i (n - i)∧I i b s) Q ?_ ?_ _ b ?_
 ·rintro x dh b s ⟨i,hi,hr,h⟩
  by_cases hin:i < n
  ·have e:n - i=(n - (i + 1)) + 1:=by lia
   rw [e,List.range'_succ] at hr
   injection hr with h1 h2
   subst h1
   refine thn (turn x b s hin h) fun r s' hr'=>?_
   cases r with
   | yield b'=>exact ⟨x + 1,by lia,h2,hr'⟩
   | done b'=>exact hr'
  ·have e:n - i=0:=by lia
   rw [e] at hr
   cases hr
 ·rintro b s ⟨i,hi,hr,h⟩
  by_cases hin:i < n
  ·have e:n - i=(n - (i + 1)) + 1:=by lia
   rw [e,List.range'_succ] at hr
   cases hr
  ·have e:i=n:=by lia
   subst e
   exact fin b s h
 ·refine ⟨0,Nat.zero_le _,?_,h⟩
  simp [Std.Legacy.Range.size]
theorem i9 (l:Addr) (items:Array Value) (n:Nat) (dd:Option Addr) (sl:Array (Option Value)) (ns:List Str) (c:Str) (t:Tok) (hi:Vals (ns.map V.str) items.toList) (i:Nat) (hx:ns[i]?=some c) (h0:∀ j,j < i→ns[j]?≠some c) :
  Meets (Builtin.«tuple.index» ⟨[.ref l,.str c t],[]⟩)
   (fun _ R s=>s.heap.get? l=some { cls:=.type "tuple",dict:=dd,data:=.seq items n,slots:=sl }∧R (.ok (.ret (.int (i:Int) s.toks))) { s with toks:=s.toks + 1 }):=
 .of_wp fun prog w A R s h=>by
  obtain ⟨hp,g,d,tk,os⟩:=s;obtain ⟨hl,h⟩:=h
  have z1:items.size=ns.length:=by have:=hi.length;simp at this;lia
  have hin:i < ns.length:=(List.getElem?_eq_some_iff.mp hx).1
  have key:∀ (j:Nat),j < ns.length→∃ (b:Str) (u:Tok),items[j]?=some (.str b u)∧ns[j]?=some b:=by
   intro j hj
   obtain ⟨v,hv,hr⟩:=hi.get (i:=j) (x:=V.str ns[j]) (by simp [hj])
   obtain ⟨u,rfl⟩:=hr
   exact ⟨ns[j],u,by rw [←Array.getElem?_toList];exact hv,by simp [hj]⟩
  wp_walk using wpAny_loadPart' hl,jO _ _ (fun j b s'=>b.1=none∧s'=⟨hp,g,d,tk,os⟩∧j≤i) _
  case turn=>
   rintro j ⟨b1,b2⟩ s' hj ⟨hb,rfl,hji⟩
   simp only at hb
   subst hb
   obtain ⟨b,u,e1,e2⟩:=key j (by lia)
   have he:EqAt A.in1 ⟨hp,g,d,tk,os⟩ (.str b u) (.str c t) (b == c):=EqAt.str_str b u c t
   by_cases hbc:b=c
   ·have hji2:j=i:=by
     rcases Nat.lt_or_ge j i with hlt | hge
     ·exact absurd (by rw [e2,hbc]) (h0 j hlt)
     ·lia
    subst hji2 hbc
    rw [e1]
    refine wpAny_bind (he prog w _ _ ?_)
    rw [show (b == b)=true from beq_self_eq_true b]
    wp_walk
    exact ⟨_,rfl,h⟩
   ·rw [e1]
    refine wpAny_bind (he prog w _ _ ?_)
    rw [show (b == c)=false from beq_eq_false_iff_ne.mpr hbc]
    wp_walk
    refine ⟨rfl,rfl,?_⟩
    rcases Nat.lt_or_ge j i with hlt | hge
    ·exact hlt
    ·have:j=i:=by lia
     subst this
     rw [e2] at hx
     cases hx
     exact absurd rfl hbc
  case fin=>
   rintro ⟨b1,b2⟩ s' ⟨hb,rfl,hji⟩
   rw [Nat.min_self] at hji
   lia
  case h=>exact ⟨rfl,rfl,Nat.zero_le _⟩
end
end NX
namespace L2
open PySem PySem.Spec PyProof.Rows
section
variable {X:Cx} {o e:Expr} {es:List Expr} {to:TE} {t:TA} {name:Str} {apos cpos:Pos} {id:String} {r:V→List V→Hp→VK→Prop}
noncomputable def Dt (K:W.Frag) (r:V→List V→Hp→VK→Prop) (to:TE) (t:TA):TE:=fun σ H Q=>to σ H fun x H1=>(∃ p ys,x=.ref p∧SqT K H1 p ys)∧t σ H1 fun xs H2=>r x xs H2 Q
theorem Af (slot:Slot "tuple" name id) (hty:typeOf (.builtin id)=pure (.type "method_descriptor")) (hm:MtR X id r) (ho:PE X o to) (ha:PA X (e :: es) t)
  (hbase:attributeBase o name X.env (eval o X.env)=eval o X.env:=by rfl)
  (hfew:((backTo cpos (starEach (e :: es) X.env)).all (fun x=>!x.1) && (backToKw cpos (keywordEach [] X.env)).all (fun x=>x.1.isSome)
   && decide ((e :: es).length + ([]:List Keyword).length + (if ([]:List Keyword).isEmpty then 0 else 1) < 30))=true:=by rfl)
  (hline:(apos.endLine == cpos.line)=true:=by rfl) (hs:starEach (e :: es) X.env=(false,eval e X.env) :: starEach es X.env:=by rfl) (hplain:(backTo cpos (starEach es X.env)).any (·.1)=false:=by rfl) :
  PE X (.Call (.Attribute o name apos) (e :: es) [] cpos) (Dt X.K r to t):=by
 intro pins s σ H Q I h
 refine wpAny_Call_method_late hbase hfew hline rfl (thn (ho pins s σ H _ I h) fun v s1 hqq=>?_)
 obtain ⟨x,H1,I1,r1,⟨p,ys,ex,sq⟩,q1⟩:=hqq
 subst ex
 cases r1
 obtain ⟨its,_,⟨ob,ho,hc,⟨n,hd⟩,hn⟩,_⟩:=I1.tupleN sq
 refine ⟨"tuple",id,PySem.F.plainAttrs_tuple,slot,hty,⟨ob,ho,hc⟩,fun a e2=>?_,?_⟩
 ·cases e2
  exact ⟨ob,ho,hn⟩
 have hA:=ha cpos pins s1 σ H1 _ I1 q1
 rw [hs] at hA ⊢
 refine Calls.callWith_builtin (by show (false || (backTo cpos (starEach es X.env)).any (·.1))=false;rw [hplain] <;> rfl) (Calls.evalArgs_plain ?_)
 exact thn hA fun us s2 ⟨vs,H2,I2,r2,q2⟩=>hm pins s2 σ H2 (.ref p) vs _ us Q I2 rfl r2 q2
end
end L2
namespace PV
open PySem PySem.Spec PyProof.Rows L2 NX
section
variable {X:Cx}
noncomputable def Ag (g:List D→List D→Res R) (fa:FO) (fs:FOs):FX:=fun env=>(fa env).bind fun p=>(der p.2 p.1).bind fun a=>match a with
 | .tup _=>(fs p.2).bind fun q=>(der q.2 p.1).bind fun a2=>match a2 with
  | .tup l=>(lO q.2 q.1).bind fun ds=>(g l ds).bind fun r=>.ok (r,q.2)
  | _=>.bad
 | _=>.bad
inductive rMtT (K:W.Frag) (g:List D→List D→Res R) (x:V) (xs:List V) (H:Hp) (Q:VK):Prop
 | mk:∀ G fp es vs l ds r,Goes K H G fp es vs r Q→Vw K G H (.tup l) x→Vws K G H ds xs→g l ds=.ok r→rMtT K g x xs H Q
theorem vX {g:List D→List D→Res R} {id:String} {name:Str} {o e:Expr} {es:List Expr} {fa:FO} {fs:FOs} {apos cpos:Pos} (slot:Slot "tuple" name id) (hty:typeOf (.builtin id)=pure (.type "method_descriptor")) (hm:MtR X id (rMtT X.K g)) (ho:QO X o fa) (ha:QOs X (e :: es) fs)
  (hbase:attributeBase o name X.env (eval o X.env)=eval o X.env:=by rfl)
  (hfew:((backTo cpos (starEach (e :: es) X.env)).all (fun x=>!x.1) && (backToKw cpos (keywordEach [] X.env)).all (fun x=>x.1.isSome) && decide ((e :: es).length + ([]:List Keyword).length + (if ([]:List Keyword).isEmpty then 0 else 1) < 30))=true:=by rfl)
  (hline:(apos.endLine == cpos.line)=true:=by rfl) (hs:starEach (e :: es) X.env=(false,eval e X.env) :: starEach es X.env:=by rfl) (hplain:(backTo cpos (starEach es X.env)).any (·.1)=false:=by rfl) :
  QE X (.Call (.Attribute o name apos) (e :: es) [] cpos) (Ag g fa fs):=by
 refine bF (Af slot hty hm ho ha hbase hfew hline hs hplain) fun σ H Q hqq=>?_
 obtain ⟨G,env,fp,r,env',rel,e,k⟩:=hqq
 obtain ⟨⟨oa,env1⟩,e1,e⟩:=aj e
 obtain ⟨da,hda,e⟩:=aj e
 dsimp only at e
 split at e
 ·obtain ⟨⟨os,env2⟩,e2,e⟩:=aj e
  obtain ⟨d2,hd2,e⟩:=aj e
  dsimp only at e
  split at e
  ·obtain ⟨ds,e3,e⟩:=aj e
   obtain ⟨r',e4,e⟩:=aj e
   cases e
   refine ⟨G,env,fp,oa,env1,rel,e1,fun v H1 G1 fp1 st1 rel1 ok1=>?_⟩
   obtain ⟨p,xs,ev,sq,_⟩:=bg (Vw.rep rel1.gh (rel1.vw ok1 hda))
   exact ⟨⟨p,xs,ev,sq⟩,G1,env1,fp1,os,_,rel1,e2,fun vs H2 G2 fp2 st2 rel2 ok2=>⟨G2,fp2,_,σ,_,ds,r,⟨rel2,fun v H' G' fp' st rel'=>k v H' G' fp' (st1.trans (st2.trans st)) rel'⟩,rel2.vw (ok1.mono st2.gg) hd2,rel2.vws ok2 e3,e4⟩⟩
  ·cases e
 ·cases e
noncomputable def qb (l:List D):List D→Res R
 | [.str c]=>match gq l with
  | some bs=>if c∈bs then .ok (.f,.int (bs.idxOf c:Nat)) else .bad
  | none=>.bad
 | _=>.bad
noncomputable def yC (l:List D):List D→Res R
 | [.str c]=>match gq l with
  | some bs=>.ok (.f,.int (bs.count c:Nat))
  | none=>.bad
 | _=>.bad
theorem vY {a b:List Nat} (h:S a=S b):a=b:=by
 have:=congrArg (fun s:Str=>s.cps.toList) h
 simpa only [di] using this
theorem pk:∀ (bs:List (List Nat)) (c:List Nat) (j:Nat),bs[j]?=some c→bs.idxOf c≤j
 | [],c,j,h=>by simp at h
 | b :: bs,c,0,h=>by
  simp at h
  subst h
  simp [List.idxOf_cons]
 | b :: bs,c,j + 1,h=>by
  rw [List.getElem?_cons_succ] at h
  have:=pk bs c j h
  rw [List.idxOf_cons]
  cases b == c with
  | true=>exact Nat.zero_le _
  | false=>exact Nat.succ_le_succ this
noncomputable def isS (c:Str):Value→Bool
 | .str b _=>b == c
 | _=>false
theorem kG (c:List Nat):∀ (bs:List (List Nat)) (its:List Value),Vals (bs.map fun l=>V.str (S l)) its→its.countP (isS (S c))=bs.count c
 | [],its,h=>by cases h;rfl
 | b :: bs,its,h=>by
  cases h with
  | cons r rr=>
   obtain ⟨t,rfl⟩:=r
   rw [List.countP_cons,List.count_cons,kG c bs _ rr]
   congr 1
   show (if (S b == S c)=true then 1 else 0)=_
   by_cases hbc:b=c
   ·rw [hbc,if_pos (beq_self_eq_true _),if_pos (beq_self_eq_true _)]
   ·rw [if_neg (by rw [beq_iff_eq];exact fun e=>hbc (vY e)),if_neg (by rw [beq_iff_eq];exact hbc)]
theorem nJ:MtR X "tuple.count" (rMtT X.K yC):=by
 rintro pins s σ H x xs v us Q I rx rv ⟨G,fp,es,vs,l,ds,r,⟨rel,k⟩,vx,vd,e⟩
 unfold yC at e
 split at e
 ·rename_i c
  split at e
  ·rename_i bs hb
   cases e
   obtain ⟨p,ys,ev,sq,rs⟩:=bg (Vw.rep rel.gh vx)
   obtain ⟨hy,_⟩:=eM hb rs
   subst ev
   cases rx
   obtain ⟨w',ew,vc⟩:=mz vd
   obtain ⟨ev,_⟩:=gk vc
   subst ew
   subst ev
   obtain ⟨u,rfl,t',rfl⟩:=fm rv
   obtain ⟨its,vl,⟨ob,h1,h2,⟨n,h3⟩,h4⟩,_⟩:=I.tupleN sq
   subst hy
   obtain ⟨cls,dict,data,slots⟩:=ob
   dsimp only at h2 h3 h4
   subst h2 h3 h4
   refine PySem.call_meets PySem.F.slot_tuple_count ⟨_,h1,rfl⟩ PySem.F.entry_tuple_count (PySem.F.args_tuple_count_2 _ _) (PySem.SeqAt.tuple_countAt p its.toArray n _ _ (.str (S c) t') (isS (S c))) ⟨h1,fun y hy=>?_,⟨.int (bs.count c:Nat),H,I.tok _,⟨s.toks,?_⟩,k _ H G fp .refl (rel.push (bo _))⟩⟩
   ·have hy:y∈its:=by simpa using hy
    obtain ⟨i,hi,rfl⟩:=List.getElem_of_mem hy
    have hl:=vl.length
    rw [List.length_map] at hl
    obtain ⟨v,hv,hr⟩:=vl.get (i:=i) (x:=V.str (S bs[i])) (by rw [List.getElem?_map,List.getElem?_eq_getElem (by lia)];rfl)
    rw [List.getElem?_eq_getElem hi] at hv
    cases hv
    obtain ⟨t,e⟩:=hr
    rw [e]
    exact PySem.SeqAt.EqAt.str_str _ _ _ _
   ·rw [List.toList_toArray,kG c bs its vl]
  ·cases e
 ·cases e
theorem nK:MtR X "tuple.index" (rMtT X.K qb):=by
 rintro pins s σ H x xs v us Q I rx rv ⟨G,fp,es,vs,l,ds,r,⟨rel,k⟩,vx,vd,e⟩
 unfold qb at e
 split at e
 ·rename_i c
  split at e
  ·rename_i bs hb
   split at e
   ·rename_i hc
    cases e
    obtain ⟨p,ys,ev,sq,rs⟩:=bg (Vw.rep rel.gh vx)
    obtain ⟨hy,_⟩:=eM hb rs
    subst ev
    cases rx
    obtain ⟨w',ew,vc⟩:=mz vd
    obtain ⟨ev,_⟩:=gk vc
    subst ew
    subst ev
    obtain ⟨u,rfl,t',rfl⟩:=fm rv
    obtain ⟨its,vl,⟨ob,h1,h2,⟨n,h3⟩,h4⟩,_⟩:=I.tupleN sq
    subst hy
    obtain ⟨cls,dict,data,slots⟩:=ob
    dsimp only at h2 h3 h4
    subst h2 h3 h4
    have hlt:=List.idxOf_lt_length_of_mem hc
    refine PySem.call_meets PySem.F.slot_tuple_index ⟨_,h1,rfl⟩ PySem.F.entry_tuple_index (PySem.F.args_tuple_index_2 _ _) (i9 p its.toArray n _ _ (bs.map S) (S c) t' (by rw [List.map_map];exact vl) (bs.idxOf c) ?_ ?_) ⟨h1,⟨.int (bs.idxOf c:Nat),H,I.tok _,⟨_,rfl⟩,k _ H G fp .refl (rel.push (bo _))⟩⟩
    ·rw [List.getElem?_map,List.getElem?_eq_getElem hlt,List.getElem_idxOf hlt]
     rfl
    ·intro j hj he
     rw [List.getElem?_map,List.getElem?_eq_getElem (by lia)] at he
     have he:=vY (Option.some.inj he)
     have:=pk bs c j (by rw [List.getElem?_eq_getElem (by lia),he])
     lia
   ·cases e
  ·cases e
 ·cases e
noncomputable def cS (a b:D):Res R:=match a,b with
 | .tup [],.tup l=>.ok (.f,.tup l)
 | a,b=>addD a b
theorem aS:OpR X (binaryOp .Add) (rG X.K cS):=by
 rintro pins s σ H x y v u Q I rx ry ⟨G,fp,es,vs,a,b,r,⟨rel,k⟩,va,vb,e⟩
 unfold cS at e
 split at e
 ·rename_i l
  cases e
  obtain ⟨p,xs,e1,h1,r1⟩:=gm va
  obtain ⟨p2,xs2,e2,h2,r2⟩:=gm vb
  subst e1
  subst e2
  cases rx
  cases ry
  have hx:xs=[]:=List.eq_nil_of_length_eq_zero (by rw [r1.length];rfl)
  subst hx
  obtain ⟨its,v1,⟨⟨cls,dd,data,sl⟩,ho,hc,n,hd⟩,_⟩:=I.tuple (bH rel.gh h1)
  obtain ⟨its2,v2,⟨⟨cls2,dd2,data2,sl2⟩,ho2,hc2,n2,hd2⟩,_⟩:=I.tuple (bH rel.gh h2)
  dsimp only at hc hd hc2 hd2
  subst hc hd hc2 hd2
  cases v1
  exact concat_meets ⟨_,ho,rfl⟩ ⟨_,ho2,rfl⟩ noFill_tuple_add seq_tuple_add PySem.F.slot_tuple_add PySem.F.entry_tuple_add (PySem.F.args_tuple_add_2 _ _) (tuple_addW0 p p2 _ _ n n2 dd dd2 sl sl2 rfl) ⟨ho,ho2,⟨.ref p2,H,I,rfl,k _ H G fp .refl (rel.push vb)⟩⟩
 ·exact zR pins s σ H _ _ v u Q I rx ry ⟨G,fp,es,vs,a,b,r,⟨rel,k⟩,va,vb,e⟩
noncomputable def nL (fs:FOs):FI:=or2 (p8 true true fs) (or2 (p8 true false fs) (or2 (p8 false true fs) (p8 false false fs)))
theorem lu {tgs:List Expr} {kt:Nat} {pt:Pos} {e1 e2:Expr} {fs:FOs} {p pos:Pos} (hg:Gl X "zip") (hm:X.mg "zip" = none) (ha:QOs X [e1,e2] fs) (he:starEach [e1,e2] X.env=(false,eval e1 X.env) :: starEach [e2] X.env:=by rfl) (hpl:(backTo pos (starEach [e2] X.env)).any (·.1)=false:=by rfl) :
  QI X (.Tuple tgs kt pt) (.Call (.Name "zip" p) [e1,e2] [] pos) (nL fs):=du (o7 true true hg hm ha he hpl) (du (o7 true false hg hm ha he hpl) (du (o7 false true hg hm ha he hpl) (o7 false false hg hm ha he hpl)))
end
end PV
namespace NX
open PySem PySem.Spec PyProof.Rows L2
section
open PySem.AutoSeq1 (wpAny_loadPart')
theorem mI (l:Addr) (items:Array Value) (n:Nat) (dd:Option Addr) (sl:Array (Option Value)) (x:Int) (u:Tok) (h1:¬ (!Builtin.List.listFitsIndex x)=true) (h2:¬ items.size * x.toNat > (2 ^ 63 - 1) / 8) (h3:¬ Builtin.List.listTooLong (items.size * x.toNat)=true) (h4:(List.foldl (fun x1 x2=>x1++x2) #[] (List.replicate (if items.isEmpty=true then 0 else x.toNat) items)).size≤sizeLine) :
  Meets (Builtin.«list.__mul__» ⟨[.ref l,.int x u],[]⟩)
   (fun _ R s=>s.heap.get? l=some { cls:=.type "list",dict:=dd,data:=.seq items n,slots:=sl }∧R (.ok (.ret (.ref s.heap.objs.size))) { s with heap:=s.heap.push { cls:=.type "list",data:=.seq (List.foldl (fun x1 x2=>x1++x2) #[] (List.replicate (if items.isEmpty=true then 0 else x.toNat) items)) } }):=
 .of_wp fun prog w A R s h=>by
  obtain ⟨hp,g,d,tk,os⟩:=s;obtain ⟨hl,h⟩:=h
  wp_walk using wpAny_loadPart' hl
  rw [if_neg (by lia)]
  wp_walk
  exact ⟨_,rfl,h⟩
theorem mJ (a:Int) (t:Tok) (l:Addr) (T:String) (items:Array Value) (n:Nat) (dd:Option Addr) (sl:Array (Option Value)) :
  Meets (Builtin.«int.__rmul__» ⟨[.int a t,.ref l],[]⟩)
   (fun _ R s=>s.heap.get? l=some { cls:=.type "list",dict:=dd,data:=.seq items n,slots:=sl }∧R (.ok (.ret .notImplemented)) s):=
 .of_wp fun prog w A R s h=>by
  obtain ⟨hp,g,d,tk,os⟩:=s;obtain ⟨hl,h⟩:=h
  wp_walk using wpAny_loadPart' hl
  exact ⟨_,rfl,h⟩
end
end NX
namespace PV
open PySem PySem.Spec PyProof.Rows L2 NX
section
variable {md:Mode} {X:Cx}
inductive rRepS (K:W.Frag) (x:V) (y:V) (H:Hp) (Q:VK):Prop
 | mk:∀ l k xs,x=.ref l→y=.int k→SqL K H l xs→-(2 ^ 62)≤k→k < 2 ^ 62→xs.length * k.toNat≤sizeLine→(∀ p,H p=none→Q (.ref p) (upd H p (.lst (List.replicate k.toNat xs).flatten)))→rRepS K x y H Q
theorem xH:OpR X (binaryOp .Mult) (rRepS X.K):=by
 intro pins s σ H x y v u Q I rx ry h
 obtain ⟨l,k,xs,rfl,rfl,hH,h1,h2,hz,q⟩:=h
 cases rx
 obtain ⟨t,rfl⟩:=ry
 obtain ⟨its,r,p1,_⟩:=I.list hH
 have hl:=r.length
 obtain ⟨⟨cls,dd,data,sl⟩,ho,hc,n,hd⟩:=id p1.isList
 simp only at hc hd
 subst hc hd
 have hlen:its.toArray.size * k.toNat≤sizeLine:=by rw [List.size_toArray,←hl];exact hz
 have hcap:¬ its.toArray.size * k.toNat > (2 ^ 63 - 1) / 8:=by
  have:(sizeLine:Nat)≤(2 ^ 63 - 1) / 8:=by decide
  lia
 have hfit:¬ (!Builtin.List.listFitsIndex k)=true:=by
  rw [fitsIndex_both (by lia) (by lia)]
  exact Bool.false_ne_true
 have hlong:¬ Builtin.List.listTooLong (its.toArray.size * k.toNat)=true:=by
  rw [uf hlen]
  exact Bool.false_ne_true
 have hnew:List.foldl (fun x1 x2=>x1++x2) #[] (List.replicate (if its.toArray.isEmpty=true then 0 else k.toNat) its.toArray)=(List.replicate k.toNat its).flatten.toArray:=by
  have f0:∀ m:Nat,List.foldl (fun x1 x2=>x1++x2) #[] (List.replicate m its.toArray)=(List.replicate m its).flatten.toArray:=fun m=>by
   have:=lY its m []
   rw [List.nil_append] at this
   exact this
  rw [f0]
  cases its with
  | nil=>simp
  | cons a r'=>rw [if_neg (by simp)]
 have hsz:(List.foldl (fun x1 x2=>x1++x2) #[] (List.replicate (if its.toArray.isEmpty=true then 0 else k.toNat) its.toArray)).size≤sizeLine:=by
  rw [hnew,List.size_toArray,kO,Nat.mul_comm]
  rw [List.size_toArray] at hlen
  exact hlen
 refine wpAny_binaryOp_repeat_ref (T:="list") (U:="int") (by decide) ⟨_,ho,rfl⟩ (fun s'=>typeIs_int s' k t) noFill_list_mul F.fills_int_mul F.slot_int_rmul repeat_list F.slot_int_index.lookup
  (call_meets F.slot_int_rmul (typeIs_int s k t) F.entry_int_rmul (F.args_int_rmul_2 _ _) (mJ k t l "" its.toArray n dd sl)
   ⟨ho,rfl,⟨_,ho,rfl⟩,call_meets F.slot_list_mul ⟨_,ho,rfl⟩ F.entry_list_mul (F.args_list_mul_2 _ _) (mI l its.toArray n dd sl k t hfit hcap hlong hsz) ⟨ho,?_⟩⟩)
 rw [hnew]
 exact ⟨.ref _,_,I.lnew (t':=s.toks) (r.rep k.toNat) (by rw [kO,Nat.mul_comm];exact hz),rfl,q _ I.fresh⟩
theorem pq {K:W.Frag} {G:Hp} {ds:List D} {xs:List V} (r:Reps K G ds xs):∀ n:Nat,Reps K G (List.replicate n ds).flatten (List.replicate n xs).flatten
 | 0=>.nil
 | n + 1=>by
  rw [List.replicate_succ,List.replicate_succ,List.flatten_cons,List.flatten_cons]
  exact r.app (pq r n)
noncomputable def m7 (a b:D):Res R:=match a,b with
 | .lst ds,.int k=>if 0≤k∧k < 1000000∧ds.length * k.toNat≤sizeLine then .ok (.l .f,.lst (List.replicate k.toNat ds).flatten) else .bad
 | a,b=>yB a b
theorem fu:OpR X (binaryOp .Mult) (rG X.K m7):=by
 rintro pins s σ H x y v u Q I rx ry ⟨G,fp,es,vs,a,b,r,⟨rel,k⟩,va,vb,e⟩
 unfold m7 at e
 split at e
 ·rename_i ds j
  split at e
  ·rename_i hj
   cases e
   obtain ⟨p,xs,e1,h1,r1⟩:=va
   subst e1
   cases bB vb
   refine xH pins s σ H _ _ v u Q I rx ry ⟨p,j,xs,rfl,rfl,h1,by lia,by lia,by rw [r1.length];exact hj.2.2,fun q hq=>?_⟩
   obtain ⟨rel2,st2⟩:=rel.newL hq (pq r1 j.toNat)
   exact k _ _ G _ st2 rel2
  ·cases e
 ·exact xE pins s σ H _ _ v u Q I rx ry ⟨G,fp,es,vs,a,b,r,⟨rel,k⟩,va,vb,e⟩
noncomputable def BX (td ty tv:TE):TS:=fun Dd σ H=>tv σ H fun v H1=>td σ H1 fun x H2=>ty σ H2 fun y H3=>zj x y v H3 fun H4=>Dd.nx σ H4
theorem xI {o i value:Expr} {td ty tv:TE} {pos pos':Pos} (ho:PE X o td) (hi:PE X i ty) (hv:PE X value tv) (hs:swapsWith value (some (.Subscript o i pos')) pos.line X.env=pure false) :
  PS X (.Assign [.Subscript o i pos'] value pos) (BX td ty tv):=by
 intro pins s σ H Dd I h
 refine wpAny_Assign_Subscript (thn (hv pins s σ H _ I h) fun r s1 ⟨v,H1,I1,rv,q1⟩=>thn (ho pins s1 σ H1 _ I1 q1) fun u s2 ⟨x,H2,I2,rx,q2⟩=>thn (hi pins s2 σ H2 _ I2 q2) fun iv s3 ⟨y,H3,I3,ry,q3⟩=>?_) hs
 exact thn (ud pins s3 σ H3 x y v u iv r _ I3 rx ry rv q3) fun _ s4 ⟨H4,I4,q4⟩=>⟨σ,H4,I4,q4⟩
noncomputable def sr (i:Nat) (fk fv:FX):FS:=fun env=>(fv env).bind fun p=>(fk p.2).bind fun q=>match p.2[i]?,q.2[i]? with
 | some (some _),some (some (.l .f,.lst ds))=>(match q.1.2 with
  | .int k=>(match ixN ds.length k with
   | some j=>.ok (.nx (q.2.set i (some (.l .f,.lst (ds.set j p.1.2)))))
   | none=>.bad)
  | _=>.bad)
 | _,_=>.bad
theorem xJ {i:Nat} {o ix value:Expr} {fk fv:FX} {pos pos':Pos} (ho:PE X o (tJ i)) (hi:QE X ix fk) (hv:QE X value fv) (hs:swapsWith value (some (.Subscript o ix pos')) pos.line X.env=pure false:=by rfl) :
  QS (md:=md) X (.Assign [.Subscript o ix pos'] value pos) (sr i fk fv):=eV (xI ho hi hv hs) fun Dd σ H hq0=>by
 obtain ⟨G,env,fp,rel,k⟩:=hq0
 unfold sr at k
 match q1:fv env,k with
 | .ok (r1,env1),k=>
  have k:OutOk X.K G H fp Dd ((fk env1).bind fun q=>match env1[i]?,q.2[i]? with
   | some (some _),some (some (.l .f,.lst ds))=>(match q.1.2 with
    | .int k=>(match ixN ds.length k with
     | some j=>.ok (.nx (q.2.set i (some (.l .f,.lst (ds.set j r1.2)))))
     | none=>.bad)
    | _=>.bad)
   | _,_=>.bad):=k
  match q2:fk env1,k with
  | .ok (r2,env2),k=>
   have k:OutOk X.K G H fp Dd (match env1[i]?,env2[i]? with
    | some (some _),some (some (.l .f,.lst ds))=>(match r2.2 with
     | .int k=>(match ixN ds.length k with
      | some j=>.ok (.nx (env2.set i (some (.l .f,.lst (ds.set j r1.2)))))
      | none=>.bad)
     | _=>.bad)
    | _,_=>.bad):=k
   split at k
   ·rename_i rr ds h1 h2
    split at k
    ·rename_i kk hkk
     split at k
     ·rename_i j hj
      refine ⟨G,env,fp,r1,env1,rel,q1,fun y H1 G1 fp1 st1 rel1=>?_⟩
      obtain ⟨G2,b,ry,rel2,st2⟩:=rel1.freeze
      obtain ⟨v0,ev0,_⟩:=rel2.view h1
      refine ⟨v0,ev0,G2,env1,b,r2,env2,rel2,q2,fun z H3 G3 fp3 st3 rel3=>?_⟩
      obtain ⟨G4,b4,rz,rel4,st4⟩:=rel3.freeze
      have ry':Rep X.K G4 r1.2 y:=Rep.mono (st3.gg.trans st4.gg) ry
      obtain ⟨p,xs,ep,hp,rs,cg⟩:=rel4.chg (ds':=ds.set j r1.2) h2
      rw [ev0] at ep
      cases ep
      rw [hkk] at rz
      have hz:=bA rz
      obtain ⟨fq,rel5,st5⟩:=cg _ (rs.set j ry')
      exact ⟨p,xs,kk,j,rfl,hz,hp,by rw [rs.length];exact hj,k _ _ G4 fq (st1.trans (st2.trans (st3.trans (st4.trans st5)))) rel5⟩
     ·exact k.elim
    ·exact k.elim
   ·exact k.elim
end
section
variable {X:Cx}
theorem Rel.own {K:W.Frag} {G H:Hp} {es:PV.Env} {vs:L2.St} {fp:List Addr} {p:Addr} {u:HO} {tk:Bool} {ks ws:List D} {xs:List V} (q:Rel K G H es vs fp) (np:p∉fp) (gp:G p=none) (h:DictO u tk ks xs) (rs:Reps K G ws xs) :
  Rel K G (upd H p u) (some (.d,.dct tk ks ws) :: es) (some (.ref p) :: vs) (p :: fp):=by
 refine ⟨⟨some (.ref p),vs,rfl,.ref p,[p],fp,rfl,rfl,?_,q.rep.step (.refl _) fun z hz=>aG fun e=>np (e▸hz)⟩,List.nodup_cons.mpr ⟨np,q.nd⟩,fun z hz=>?_,fun b o e=>?_⟩
 ·rw [RepO]
  exact ⟨p,xs,u,rfl,bj,h,rfl,rs⟩
 ·rcases List.mem_cons.mp hz with rfl | hz
  ·exact gp
  ·exact q.gn z hz
 ·rw [aG fun z=>by subst z;rw [gp] at e;cases e]
  exact q.gh b o e
theorem Rel.aside {K:W.Frag} {G H:Hp} {es:PV.Env} {vs:L2.St} {fp:List Addr} {p:Addr} {u:HO} (q:Rel K G H es vs fp) (hp:H p=none):Rel K G (upd H p u) es vs fp:=by
 have np:p∉fp:=fun z=>by
  obtain ⟨u,e⟩:=q.rep.live p z
  rw [hp] at e;cases e
 exact ⟨q.rep.step (.refl _) fun z hz=>aG fun e=>np (e▸hz),q.nd,q.gn,fun b o e=>by rw [aG (aU (q.gh b o e) hp)];exact q.gh b o e⟩
theorem Step.aside {K:W.Frag} {G H G2 H2:Hp} {es:PV.Env} {vs:L2.St} {fp fp2:List Addr} {p:Addr} {u u2:HO} (q:Rel K G H es vs fp) (hp:H p=none) (hu:isT u=false) (st:Step G (upd H p u) fp G2 H2 fp2) :
  Step G H fp G2 (upd H2 p u2) (p :: fp2)∧p∉fp2∧G2 p=none∧H2 p=some u:=by
 have np:p∉fp:=fun z=>by
  obtain ⟨u,e⟩:=q.rep.live p z
  rw [hp] at e;cases e
 have ne:∀ {b o},H b=some o→b≠p:=fun e=>aU e hp
 refine ⟨⟨st.gg,fun b o e nb=>?_,fun b hb=>?_,fun b o e=>?_,fun b o e=>?_⟩,fun z=>?_,?_,st.keep p u bj np⟩
 ·rw [aG (ne e)]
  exact st.keep b o (by rw [aG (ne e)];exact e) nb
 ·rcases List.mem_cons.mp hb with rfl | hb
  ·exact .inr hp
  ·rcases st.fpn b hb with h | h
   ·exact .inl h
   ·by_cases e:b=p
    ·subst e;exact .inr hp
    ·rw [aG e] at h;exact .inr h
 ·rcases st.gnew b o e with h | h | h | ⟨h1,h2⟩
  ·exact .inl h
  ·exact .inr (.inl h)
  ·by_cases e:b=p
   ·subst e;exact .inr (.inr (.inl hp))
   ·rw [aG e] at h;exact .inr (.inr (.inl h))
  ·by_cases e:b=p
   ·subst e;exact .inr (.inr (.inl hp))
   ·rw [aG e] at h2;exact .inr (.inr (.inr ⟨h1,h2⟩))
 ·obtain ⟨o',h⟩:=st.there b o (by rw [aG (ne e)];exact e)
  exact ⟨o',by rw [aG (ne e)];exact h⟩
 ·rcases st.fpn p z with h | h
  ·exact np h
  ·rw [bj] at h;cases h
 ·cases e:G2 p with
  | none=>rfl
  | some o=>
   rcases st.gnew p o e with h | h | h | ⟨h1,h2⟩
   ·have:=q.gh p o h
    rw [hp] at this;cases this
   ·exact absurd h np
   ·rw [bj] at h;cases h
   ·rw [bj] at h2
    cases h2
    rw [hu] at h1;cases h1
noncomputable def pw (fk fv:FX):FX:=fun env=>(fk env).bind fun p=>(fv p.2).bind fun q=>if dD false p.1.2 then .ok ((.d,.dct false [p.1.2] [q.1.2]),q.2) else .bad
theorem px {k v:Expr} {fk fv:FX} {pos:Pos} (hk:QE X k fk) (hv:QE X v fv):QE X (.Dict [some k] [v] pos) (pw fk fv):=
 bF (xj (uy hk hv xi) rfl rfl (List.cons_ne_nil _ _) (show 1≤15 by decide)) fun σ H Q hq0 p hp=>by
  obtain ⟨G,env,fp,r,env',rel,e,kk⟩:=hq0
  obtain ⟨⟨r1,env1⟩,e1,e⟩:=aj e
  obtain ⟨⟨r2,env2⟩,e2,e⟩:=aj e
  dsimp only at e
  split at e
  ·rename_i hkey
   cases e
   refine ⟨G,env,fp,r1,env1,rel.aside hp,e1,fun x H1 G1 fp1 st1 rel1=>?_⟩
   obtain ⟨G2,b,rx,rel2,st2⟩:=rel1.freeze
   refine ⟨G2,env1,b,r2,_,rel2,e2,fun y H3 G3 fp3 st3 rel3=>?_⟩
   obtain ⟨G4,b4,ry,rel4,st4⟩:=rel3.freeze
   have rx':Rep X.K G4 r1.2 x:=Rep.mono (st3.gg.trans st4.gg) rx
   unfold dD at hkey
   rw [if_neg Bool.false_ne_true,Option.isSome_iff_exists] at hkey
   obtain ⟨kd,hkd⟩:=hkey
   obtain ⟨ex,dx⟩:=fY hkd rx'
   obtain ⟨st,np,gp,hp2⟩:=Step.aside (u2:=.dK [(kd,y)]) rel hp rfl (st1.trans (st2.trans (st3.trans st4)))
   refine ⟨hp2,[(kd,y)],by rw [ex];rfl,(show 1≤15 by decide),?_⟩
   exact kk _ _ G4 _ st (rel4.own np gp ⟨[(kd,y)],rfl,by rw [dx];rfl,rfl,fun kv hkv=>by rw [List.mem_singleton.mp hkv];exact sj hkd rx'⟩ (.one ry))
  ·cases e
noncomputable def getD (ks vs:List D) (k:D):Option D:=((ks.zip vs).find? fun p=>eqD k p.1).map (·.2)
theorem jP {κ:Type} [DecidableEq κ] {K:W.Frag} {G:Hp} (f:κ→D) (hf:∀ a b,eqD (f a) (f b)=decide (a=b)) {k:κ}:∀ {kvs:List (κ×V)} {vs:List D},Reps K G vs (kvs.map (·.2))→((getD (kvs.map fun kv=>f kv.1) vs (f k)).isSome=(mh kvs k).isSome)∧∀ d,getD (kvs.map fun kv=>f kv.1) vs (f k)=some d→∃ v,mh kvs k=some v∧Rep K G d v
 | [],vs,r=>⟨rfl,fun d h=>nomatch h⟩
 | kv :: kvs,vs,r=>by
  cases vs with
  | nil=>have:=r.length;simp at this
  | cons d0 vs=>
   rw [List.map_cons,Reps.cons_iff] at r
   obtain ⟨h1,h2⟩:=jP f hf (k:=k) r.2
   unfold getD mh at h1 h2 ⊢
   rw [List.map_cons,List.zip_cons_cons]
   have e:eqD (f k) (f kv.1)=decide (kv.1=k):=by
    rw [hf,Bool.eq_iff_iff,decide_eq_true_eq,decide_eq_true_eq]
    exact ⟨fun z=>z.symm,fun z=>z.symm⟩
   by_cases hk:kv.1=k
   ·rw [List.find?_cons_of_pos (by show eqD (f k) (f kv.1)=true;rw [e];exact decide_eq_true hk),List.find?_cons_of_pos (by exact decide_eq_true hk)]
    refine ⟨rfl,fun d h=>?_⟩
    cases h
    exact ⟨_,rfl,r.1⟩
   ·rw [List.find?_cons_of_neg (by show ¬ eqD (f k) (f kv.1)=true;rw [e];simpa using hk),List.find?_cons_of_neg (by simpa using hk)]
    exact ⟨h1,h2⟩
theorem nM {K:W.Frag} {G H:Hp} (gh:Same G H) {tk:Bool} {ks vs:List D} {xs:List V} {o:HO} {p:Addr} {b:D} {y:V} (rd:Rd H p o) (dd:DictO o tk ks xs) (rs:Reps K G vs xs) (hk:dD tk b=true) (ry:Rep K G b y) :
  ∃ ov,DGet H p y ov∧(getD ks vs b).isSome=ov.isSome∧∀ d,getD ks vs b=some d→∃ v,ov=some v∧Rep K G d v:=by
 unfold dD at hk
 cases tk with
 | true=>
  rw [if_pos rfl,Option.isSome_iff_exists] at hk
  obtain ⟨kk,hk⟩:=hk
  obtain ⟨pz,ez,gz,dz⟩:=dv hk ry
  obtain ⟨kvs,eo,ek,ex,_⟩:=dd
  subst eo ex ez dz
  have ek:ks=kvs.map fun kv=>kT kv.1:=ek
  obtain ⟨h1,h2⟩:=jP (K:=K) (G:=G) kT vT (k:=kk) rs
  rw [←ek] at h1 h2
  exact ⟨mh kvs kk,.inr ⟨kvs,kk,pz,rd,rfl,gh _ _ gz,rfl⟩,h1,h2⟩
 | false=>
  rw [if_neg Bool.false_ne_true,Option.isSome_iff_exists] at hk
  obtain ⟨kk,hk⟩:=hk
  obtain ⟨ez,dz⟩:=fY hk ry
  obtain ⟨kvs,eo,ek,ex,_⟩:=dd
  subst eo ex ez dz
  obtain ⟨h1,h2⟩:=jP (K:=K) (G:=G) kD sf (k:=kk) rs
  rw [←ek] at h1 h2
  exact ⟨mh kvs kk,.inl ⟨kvs,kk,rd,rfl,rfl⟩,h1,h2⟩
noncomputable def dgD (a b:D):Res R:=match a with
 | .dct tk ks vs=>if dD tk b then (match getD ks vs b with
  | some d=>.ok (.f,d)
  | none=>.bad) else .bad
 | _=>.bad
theorem Ah {a b:Expr} {fa fb:FO} {pos:Pos} (hu:X.A.units + 1 < cLine) (ha:QO X a fa) (hb:QO X b fb) (hs:NoSl b:=by exact fun _ _=>rfl):QE X (.Subscript a b pos) (aA dgD fa fb):=
 bF (xg hu ha hb hs) fun σ H Q h=>by
  obtain ⟨G,env,fp,r,env',rel,e,k⟩:=h
  obtain ⟨⟨oa,e1⟩,ha,e⟩:=aj e
  obtain ⟨⟨ob,e2⟩,hb,e⟩:=aj e
  obtain ⟨da,hda,e⟩:=aj e
  obtain ⟨db,hdb,e⟩:=aj e
  obtain ⟨r',hr,e⟩:=aj e
  cases e
  refine ⟨G,env,fp,oa,e1,rel,ha,fun x H1 G1 fp1 st1 rel1 ok1=>⟨G1,e1,fp1,ob,e2,rel1,hb,fun y H2 G2 fp2 st2 rel2 ok2=>?_⟩⟩
  have va:=rel2.vw (ok1.mono st2.gg) hda
  have vb:=rel2.vw ok2 hdb
  unfold dgD at hr
  split at hr
  ·rename_i tk ks vs
   split at hr
   ·rename_i hkey
    split at hr
    ·rename_i d hd
     cases hr
     obtain ⟨p,xs,o,ev,rd,dd,rs⟩:=va
     subst ev
     have vb':Rep X.K G2 db y:=by
      cases db with
      | lst l=>cases tk <;> simp [dD,eJ,jI] at hkey
      | dct _ _ _=>cases tk <;> simp [dD,eJ,jI] at hkey
      | _=>exact vb
     obtain ⟨ov,g,_,h2⟩:=nM rel2.gh rd dd rs hkey vb'
     obtain ⟨v,ho,rv⟩:=h2 d hd
     subst ho
     exact ⟨p,v,rfl,g,k _ H2 G2 fp2 (st1.trans st2) (rel2.push rv)⟩
    ·cases hr
   ·cases hr
  ·cases hr
noncomputable def inP (a b:D):Res R:=match b with
 | .dct tk ks vs=>if dD tk a then .ok (.f,.bl (getD ks vs a).isSome) else .bad
 | _=>inO a b
noncomputable def xK (a b:D):Res R:=match b with
 | .dct tk ks vs=>if dD tk a then .ok (.f,.bl (!(getD ks vs a).isSome)) else .bad
 | _=>r6 a b
theorem Ai (hu:X.A.units + 65 < cLine):OpR X (compareOp .In) (rGA X.K inP):=by
 rintro pins s σ H x y v u Q I rx ry ⟨G,fp,es,vs,a,b,r,⟨rel,k⟩,va,vb,e⟩
 unfold inP at e
 split at e
 ·rename_i tk ks ws
  split at e
  ·rename_i hkey
   cases e
   obtain ⟨p,xs,o,ev,rd,dd,rs⟩:=vb
   subst ev
   cases ry
   obtain ⟨ov,g,h1,_⟩:=nM (K:=X.K) (G:=H) (fun _ _ z=>z) rd dd rs hkey va
   exact Dl (by lia) I g rx fun s' I'=>⟨.bl ov.isSome,H,I',rfl,by rw [←h1];exact k _ H G fp .refl (rel.push (cC _))⟩
  ·cases e
 ·exact BV hu pins s σ H x y v u Q I rx ry ⟨G,fp,es,vs,a,b,r,⟨rel,k⟩,va,vb,e⟩
theorem nN (hu:X.A.units + 65 < cLine):OpR X (compareOp .NotIn) (rGA X.K xK):=by
 rintro pins s σ H x y v u Q I rx ry ⟨G,fp,es,vs,a,b,r,⟨rel,k⟩,va,vb,e⟩
 unfold xK at e
 split at e
 ·rename_i tk ks ws
  split at e
  ·rename_i hkey
   cases e
   obtain ⟨p,xs,o,ev,rd,dd,rs⟩:=vb
   subst ev
   cases ry
   obtain ⟨ov,g,h1,_⟩:=nM (K:=X.K) (G:=H) (fun _ _ z=>z) rd dd rs hkey va
   exact xc (by lia) I g rx fun s' I'=>⟨.bl (!ov.isSome),H,I',rfl,by rw [←h1];exact k _ H G fp .refl (rel.push (cC _))⟩
  ·cases e
 ·exact zZ hu pins s σ H x y v u Q I rx ry ⟨G,fp,es,vs,a,b,r,⟨rel,k⟩,va,vb,e⟩
end
noncomputable def isLf:O→Bool
 | .l .f=>true
 | .pin _ (.l .f)=>true
 | _=>false
section
variable {K:W.Frag} {G G' H H':Hp} {es:PV.Env} {vs:L2.St} {fp:List Addr}
theorem vZ {ow:O} {ds:List D} {v:V} {a:List Addr} (ho:isLf ow=true) (r:RepO K G H ow (.lst ds) v a):∃ p xs,v=.ref p∧H p=some (.lst xs)∧a=[p]∧Reps K G ds xs∧∀ (H':Hp) (ds':List D) (xs':List V),H' p=some (.lst xs')→Reps K G ds' xs'→RepO K G H' ow (.lst ds') (.ref p) [p]:=by
 unfold isLf at ho
 split at ho
 ·obtain ⟨p,xs,e,hp,ea,rs⟩:=cG.mp r
  exact ⟨p,xs,e,hp,ea,rs,fun H' ds' xs' h rs'=>cG.mpr ⟨p,xs',rfl,h,rfl,rs'⟩⟩
 ·rename_i q
  rw [RepO] at r
  obtain ⟨e0,r⟩:=r
  obtain ⟨p,xs,e,hp,ea,rs⟩:=cG.mp r
  rw [e] at e0
  cases e0
  exact ⟨_,xs,e,hp,ea,rs,fun H' ds' xs' h rs'=>by rw [RepO];exact ⟨rfl,cG.mpr ⟨_,xs',rfl,h,rfl,rs'⟩⟩⟩
 ·cases ho
theorem Rel.chgO {i:Nat} {ow:O} {ds ds':List D} (ho:isLf ow=true) (q:Rel K G H es vs fp) (e:es[i]?=some (some (ow,.lst ds))):∃ p xs,vs[i]?=some (some (.ref p))∧H p=some (.lst xs)∧Reps K G ds xs∧
  ∀ xs',Reps K G ds' xs'→∃ fq,Rel K G (upd H p (.lst xs')) (es.set i (some (ow,.lst ds'))) vs fq∧Step G H fp G (upd H p (.lst xs')) fq:=by
 obtain ⟨v,fq,ev,g,st,st'⟩:=q.out e
 obtain ⟨y,ys,e0,v',a,b,e1,e2,r1,r2⟩:=g.rep
 cases e0
 cases e1
 obtain ⟨p,xs,e3,hp,e4,rs,mk⟩:=vZ ho r1
 subst e3
 subst e4
 subst e2
 have nd:=List.nodup_cons.mp (show (p :: b).Nodup from g.nd)
 refine ⟨p,xs,ev,hp,rs,fun xs' rs'=>?_⟩
 have g2:Rel K G (upd H p (.lst xs')) (some (ow,.lst ds') :: es.set i none) (some (.ref p) :: vs) (p :: b):=by
  refine ⟨⟨some (.ref p),vs,rfl,.ref p,[p],b,rfl,rfl,mk _ _ _ bj rs',r2.step (.refl _) fun z hz=>aG fun e=>nd.1 (e▸hz)⟩,g.nd,g.gn,fun z o ez=>?_⟩
  have:z≠p:=fun w=>by
   subst w
   rw [g.gn z List.mem_cons_self] at ez;cases ez
  rw [aG this]
  exact g.gh z o ez
 have stc:Step G H (p :: b) G (upd H p (.lst xs')) (p :: b):=by
  refine ⟨.refl _,fun z o ez nz=>?_,fun z hz=>.inl hz,fun z o ez=>.inl ez,fun z o ez=>?_⟩
  ·have:z≠p:=fun w=>nz (by rw [w];exact List.mem_cons_self)
   rw [aG this]
   exact ez
  ·by_cases w:z=p
   ·subst w
    exact ⟨_,bj⟩
   ·exact ⟨o,by rw [aG w];exact ez⟩
 obtain ⟨fz,g3,st3⟩:=g2.back (i:=i) (by rw [List.length_set];exact (List.getElem?_eq_some_iff.mp e).1) ev
 rw [List.set_set] at g3
 exact ⟨fz,g3,st.trans (stc.trans st3)⟩
theorem RepE.append:∀ {es es':PV.Env} {vs vs':L2.St} {a b:List Addr},RepE K G H es vs a→RepE K G H es' vs' b→RepE K G H (es++es') (vs++vs') (a++b)
 | [],es',vs,vs',a,b,r,q=>by
  rw [r.1,r.2]
  exact q
 | none :: es,es',vs,vs',a,b,r,q=>by
  obtain ⟨y,ys,e,r⟩:=r
  subst e
  exact ⟨y,ys++vs',rfl,RepE.append r q⟩
 | some x :: es,es',vs,vs',a,b,r,q=>by
  obtain ⟨y,ys,e,v,a1,b1,e1,e2,r1,r2⟩:=r
  subst e e2
  exact ⟨y,ys++vs',rfl,v,a1,b1++b,e1,List.append_assoc _ _ _,r1,RepE.append r2 q⟩
theorem RepE.clean {G2 G3:Hp} (h:∀ p u,isT u=true→G2 p=some u→G3 p=some u):∀ {es:PV.Env} {vs:L2.St} {a:List Addr},(∀ r,some r∈es→a8 r.1 r.2=true)→RepE K G2 H es vs a→RepE K G3 H es vs a
 | [],_,_,_,r=>r
 | none :: es,vs,a,hc,r=>by
  obtain ⟨y,ys,e,r⟩:=r
  exact ⟨y,ys,e,RepE.clean h (fun r hr=>hc r (List.mem_cons_of_mem _ hr)) r⟩
 | some x :: es,vs,a,hc,r=>by
  obtain ⟨y,ys,e,v,a1,b1,e1,e2,r1,r2⟩:=r
  exact ⟨y,ys,e,v,a1,b1,e1,e2,r1.clean h (hc x List.mem_cons_self),RepE.clean h (fun r hr=>hc r (List.mem_cons_of_mem _ hr)) r2⟩
theorem Rel.lendM (q:Rel K G H es vs fp) (a:List Addr) (ha:∀ z∈a,z∉fp) (hga:∀ z∈a,G z=none):∃ G1,Same G G1∧Same G1 H∧(∀ z∈a,G1 z=none)∧(∀ (i:Nat) (r:R) (v:V),es[i]?=some (some r)→vs[i]?=some (some v)→Rep K G1 r.2 v)∧
  ∀ (H2 G2:Hp) (fp2:List Addr) (rs:PV.Env) (ws:L2.St),Step G1 H a G2 H2 fp2→Rel K G2 H2 rs ws fp2→(∀ r,some r∈rs→a8 r.1 r.2=true)→∃ G3 fp3,Step G H (a++fp) G3 H2 fp3∧Rel K G3 H2 (rs++es) (ws++vs) fp3:=by
 have hg:Same G (fun p=>if p∈fp then H p else G p):=fun p u e=>by
  show (if p∈fp then H p else G p)=some u
  by_cases hp:p∈fp
  ·rw [if_pos hp]
   exact q.gh p u e
  ·rw [if_neg hp]
   exact e
 have hh:Same (fun p=>if p∈fp then H p else G p) H:=fun p u e=>by
  have e:(if p∈fp then H p else G p)=some u:=e
  by_cases hp:p∈fp
  ·rw [if_pos hp] at e
   exact e
  ·rw [if_neg hp] at e
   exact q.gh p u e
 have hk:∀ p∈fp,∀ u,H p=some u→(fun p=>if p∈fp then H p else G p) p=some u:=fun p hp u e=>by
  show (if p∈fp then H p else G p)=some u
  rw [if_pos hp]
  exact e
 refine ⟨fun p=>if p∈fp then H p else G p,hg,hh,fun z hz=>?_,fun i r v e ev=>q.rep.rep hg hk e ev,fun H2 G2 fp2 rs ws st k cl=>?_⟩
 ·show (if z∈fp then H z else G z)=none
  rw [if_neg (ha z hz)]
  exact hga z hz
 have kept:∀ p∈fp,H2 p=H p:=fun p hp=>by
  obtain ⟨u,hu⟩:=q.rep.live p hp
  rw [hu]
  exact st.keep p u hu fun z=>ha p z hp
 have apart:∀ p∈fp2,p∉fp:=fun p hp hf=>by
  rcases st.fpn p hp with z | z
  ·exact ha p z hf
  ·obtain ⟨u,hu⟩:=q.rep.live p hf
   rw [z] at hu;cases hu
 have g3:Same G (fun p=>if p∈fp then none else G2 p):=fun p u e=>by
  show (if p∈fp then none else G2 p)=some u
  rw [if_neg (fun z=>by rw [q.gn p z] at e;cases e)]
  exact st.gg p u (hg p u e)
 refine ⟨fun p=>if p∈fp then none else G2 p,fp2++fp,⟨g3,fun p u e n=>?_,fun p hp=>?_,fun p u e=>?_,st.there⟩,⟨RepE.append (RepE.clean (fun p u t e=>?_) cl k.rep) (q.rep.step g3 kept),?_,fun p hp=>?_,fun p u e=>?_⟩⟩
 ·exact st.keep p u e fun z=>n (List.mem_append_left _ z)
 ·rcases List.mem_append.mp hp with hp | hp
  ·exact (st.fpn p hp).imp_left (List.mem_append_left _)
  ·exact .inl (List.mem_append_right _ hp)
 ·have e:(if p∈fp then none else G2 p)=some u:=e
  by_cases hp:p∈fp
  ·rw [if_pos hp] at e;cases e
  ·rw [if_neg hp] at e
   rcases st.gnew p u e with z | z | z
   ·have z:(if p∈fp then H p else G p)=some u:=z
    rw [if_neg hp] at z
    exact .inl z
   ·exact .inr (.inl (List.mem_append_left _ z))
   ·exact .inr (.inr z)
 ·show (if p∈fp then none else G2 p)=some u
  by_cases hp:p∈fp
  ·exfalso
   obtain ⟨u',hu,hm⟩:=q.rep.mut p hp
   have:=st.gg p u' (hk p hp u' hu)
   rw [e] at this
   cases this
   cases u with
   | lst _=>cases t
   | dK _=>cases t
   | dT _=>cases t
   | _=>cases hm
  ·rw [if_neg hp]
   exact e
 ·rw [List.nodup_append]
  exact ⟨k.nd,q.nd,fun p hp z hz e=>apart p hp (e▸hz)⟩
 ·show (if p∈fp then none else G2 p)=none
  by_cases hf:p∈fp
  ·rw [if_pos hf]
  ·rw [if_neg hf]
   rcases List.mem_append.mp hp with hp | hp
   ·exact k.gn p hp
   ·exact absurd hp hf
 ·have e:(if p∈fp then none else G2 p)=some u:=e
  by_cases hp:p∈fp
  ·rw [if_pos hp] at e;cases e
  ·rw [if_neg hp] at e
   exact k.gh p u e
end
section
variable {X:Cx}
noncomputable def hW (i:Nat):FX:=fun env=>match env[i]? with
 | some (some (ow,.lst ds))=>if isLf ow then (match ds.getLast? with
  | some d=>.ok ((.f,d),env.set i (some (ow,.lst ds.dropLast)))
  | none=>.bad) else .bad
 | _=>.bad
theorem Reps.dropLast {K:W.Frag} {G:Hp}:∀ {ds:List D} {xs:List V},Reps K G ds xs→Reps K G ds.dropLast xs.dropLast
 | [],xs,r=>by rw [Reps] at r;subst r;exact .nil
 | [d],xs,r=>by
  rw [Reps] at r
  obtain ⟨y,ys,e,r1,r2⟩:=r
  rw [Reps] at r2
  subst e r2
  exact .nil
 | d :: d2 :: ds,xs,r=>by
  rw [Reps] at r
  obtain ⟨y,ys,e,r1,r2⟩:=r
  subst e
  have h:=Reps.dropLast r2
  cases ys with
  | nil=>have:=r2.length;simp at this
  | cons z zs=>
   rw [List.dropLast_cons_of_ne_nil (List.cons_ne_nil _ _),List.dropLast_cons_of_ne_nil (List.cons_ne_nil _ _)]
   exact .cons r1 h
theorem cx {i:Nat} {o:Expr} {apos cpos:Pos} (ho:PE X o (tJ i)) (hbase:attributeBase o "pop" X.env (eval o X.env)=eval o X.env:=by rfl) (hline:(apos.endLine == cpos.line)=true:=by rfl) :
  QE X (.Call (.Attribute o "pop" apos) [] [] cpos) (hW i):=by
 refine bF (zk PySem.F.plainAttrs_list PySem.F.slot_list_pop PySem.F.type_list_pop zm ho hbase hline) fun σ H Q hqq=>?_
 obtain ⟨G,env,fp,r,env',rel,e,k⟩:=hqq
 unfold hW at e
 split at e
 ·rename_i ow ds hds
  split at e
  ·rename_i hlf
   split at e
   ·rename_i d hd
    cases e
    obtain ⟨p,xs,ev,hp,rs,cg⟩:=rel.chgO (ds':=ds.dropLast) hlf hds
    rw [List.getLast?_eq_getElem?] at hd
    obtain ⟨y,hy,ry⟩:=rs.get hd
    obtain ⟨fq,rel2,st2⟩:=cg xs.dropLast rs.dropLast
    exact ⟨.ref p,ev,.inl ⟨rfl,xs,SqL.of hp⟩,p,xs,y,rfl,rfl,hp,by rw [rs.length];exact hy,k y _ G fq st2 (rel2.push ry)⟩
   ·cases e
  ·cases e
 ·cases e
noncomputable def nO (i:Nat) (f:FX):FS:=fun env=>(f env).bind fun p=>match p.2[i]? with
 | some (some (.pin q c,d0))=>.ok (.rt (.t [p.1.1,.pin q c],.tup [p.1.2,d0]))
 | _=>.bad
theorem nP {i:Nat} {e:Expr} {f:FX} {pos:Pos} (he:QE X e f):QS (md:=.mut) X (.Return (some e) pos) (nO i f):=eV (vz he) fun Dd σ H hq0=>by
 obtain ⟨G,env,fp,rel,k⟩:=hq0
 unfold nO at k
 match q:f env,k with
 | .ok (r,env1),k=>
  have k:OutOk (md:=.mut) X.K G H fp Dd (match env1[i]? with
   | some (some (.pin q c,d0))=>.ok (.rt (.t [r.1,.pin q c],.tup [r.2,d0]))
   | _=>.bad):=k
  split at k
  ·rename_i z c d0 hz
   refine ⟨G,env,fp,r,env1,rel,q,fun v H1 G1 fp1 st1 rel1=>?_⟩
   obtain ⟨y,ys,ey,v',a,b,e1,e2,r1,r2⟩:=rel1.rep
   cases ey
   cases e1
   subst e2
   obtain ⟨v0,a0,b0,ev0,ro,_,pm⟩:=r2.take hz
   have hv0:v0=.ref z:=by
    have:=ro
    rw [RepO] at this
    exact this.1
   subst hv0
   have sub:∀ w∈a++a0,w∈a++b:=fun w hw=>by
    rcases List.mem_append.mp hw with hw | hw
    ·exact List.mem_append_left _ hw
    ·exact List.mem_append_right _ (pm.mem_iff.mpr (List.mem_append_left _ hw))
   have nd:=List.nodup_append.mp rel1.nd
   have nd2:=List.nodup_append.mp (pm.nodup_iff.mp nd.2.1)
   refine k v H1 G1 (a++a0) (st1.trans (Step.cut sub)) ⟨r.1,r.2,z,c,d0,rfl,⟨⟨some v,[some (.ref z)],rfl,v,a,a0,rfl,rfl,r1,some (.ref z),[],rfl,.ref z,a0,[],rfl,(List.append_nil _).symm,ro,rfl,rfl⟩,?_,fun p hp=>rel1.gn p (sub p hp),rel1.gh⟩⟩
   rw [List.nodup_append]
   exact ⟨nd.1,nd2.1,fun p hp w hw e=>nd.2.2 p hp w (pm.mem_iff.mpr (List.mem_append_left _ hw)) e⟩
  ·exact k.elim
noncomputable def iL (np nn:Nat) (c:O) (g:FS) (p:Addr):List D→Res R
 | d0 :: ds=>if ds.length + 1=np then (g (some (.pin p c,d0) :: (ds.map (fun d=>some (O.f,d))++List.replicate nn none))).bind fun o=>match o with
  | .rt r=>.ok r
  | _=>.bad
  else .bad
 | []=>.bad
inductive spM (K:W.Frag) (c:O) (F:Addr→List D→Res R) (vs:List V) (H:Hp) (Q:VK) (zz:XK):Prop
 | mk:∀ G p vs' d0 ds r fp0,Same G H→vs=.ref p :: vs'→RepO K G H c d0 (.ref p) fp0→fp0.Nodup→(∀ z∈fp0,G z=none)→Reps K G ds vs'→F p (d0 :: ds)=.ok r→(∀ v H' G' fp',Step G H fp0 G' H' fp'→CD .mut K G' H' r v fp'→Q v H')→spM K c F vs H Q zz
theorem su {P:Program} {w:World} {K:W.Frag} {mg:Str→Option Value} {base:Heap} {x:Str} {st:Stmt} {N ps:List Str} {k:Nat} {c:O} {g:FS} (Df:Def K mg x st) (sc:FnScope N ps (defScope st))
  (hb:∀ (kV doc pm:Value) (an:Option Addr) (cdv ct:Value) (us:List Value),us.length=ps.length→bindArgs (PySem.W.fnOf x x (eh st) (cF st) (defScope st) .none kV doc pm an cdv ct) ⟨us,[]⟩=pure (ps.zip us))
  (body:∀ (f:Addr) (cdv:Value) (A:Around) (outer:List PySem.Env) (s:Shared) (H:Hp) (E:XK),Room k (A.deeper (envOfC x (defScope st) s.heap.objs.size f cdv))→QSs (md:=.mut) (ua CX0 P w K mg base N x (defScope st) f cdv A outer s H E).nox (cF st) g) :
  Ct P w K mg base x (k + 1) (spM K c (iL ps.length (N.length - ps.length) c g)):=by
 obtain ⟨f,fd,F,m⟩:=Df
 refine ⟨f,fd,ps,F.ok sc (fun vs H Q E h=>?_) (fun cdv A outer s H vs Q E hr h=>?_),m,F.kp,F.binds hb⟩
 ·obtain ⟨G,p,vs',d0,ds,r,fp0,_,ev,_,_,_,rs,e,_⟩:=h
  unfold iL at e
  split at e
  ·rename_i d0' ds' heq
   cases heq
   split at e
   ·rename_i hl
    rw [ev,List.length_cons,rs.length,hl]
   ·cases e
  ·cases e
 ·obtain ⟨G,p,vs',d0,ds,r,fp0,gh,ev,r0,nd,gn,rs,e,q⟩:=h
  unfold iL at e
  split at e
  ·rename_i d0' ds' heq
   cases heq
   split at e
   ·rename_i hl
    refine ⟨_,body f cdv A outer s H E hr,G,some (.pin p c,d0) :: (ds.map (fun d=>some (O.f,d))++List.replicate (N.length - ps.length) none),fp0,⟨?_,nd,gn,gh⟩,?_⟩
    ·have:=gZ (K:=K) (G:=G) (H:=H) (N.length - ps.length) rs
     unfold L2.start
     rw [ev,List.length_cons,rs.length,hl]
     exact ⟨some (.ref p),_,rfl,.ref p,fp0,[],rfl,(List.append_nil _).symm,by rw [RepO];exact ⟨rfl,r0⟩,this⟩
    ·obtain ⟨o,eo,e⟩:=aj e
     rw [eo]
     cases o with
     | rt r'=>
      cases e
      exact fun v H' G' fp' st rel=>q v H' G' fp' st rel
     | nx env'=>cases e
     | bk env'=>cases e
     | ct env'=>cases e
   ·cases e
  ·cases e
noncomputable def nQ:O→O→Bool
 | .l .f,.l .f=>true
 | .l .f,.pin _ (.l .f)=>true
 | .d,.d=>true
 | .d,.pin _ .d=>true
 | _,_=>false
theorem v3 {K:W.Frag} {G H:Hp} {c ow:O} {d:D} {v:V} {a:List Addr} (h:nQ c ow=true) (r:RepO K G H ow d v a):(∃ p,v=.ref p)∧RepO K G H c d v a∧∀ (G' H':Hp) (d':D) (a':List Addr),RepO K G' H' c d' v a'→RepO K G' H' ow d' v a':=by
 have refl_l:∀ {d:D},RepO K G H (.l .f) d v a→∃ p,v=.ref p:=fun {d} r=>by
  cases d with
  | lst ds=>obtain ⟨p,_,e,_⟩:=cG.mp r;exact ⟨p,e⟩
  | _=>simp only [RepO] at r
 have refl_d:∀ {d:D},RepO K G H .d d v a→∃ p,v=.ref p:=fun {d} r=>by
  cases d with
  | dct tk ks ws=>rw [RepO] at r;obtain ⟨p,_,_,e,_⟩:=r;exact ⟨p,e⟩
  | _=>simp only [RepO] at r
 unfold nQ at h
 split at h
 ·exact ⟨refl_l r,r,fun _ _ _ _ z=>z⟩
 ·rw [RepO] at r
  exact ⟨⟨_,r.1⟩,r.2,fun _ _ _ _ z=>by rw [RepO];exact ⟨r.1,z⟩⟩
 ·exact ⟨refl_d r,r,fun _ _ _ _ z=>z⟩
 ·rw [RepO] at r
  exact ⟨⟨_,r.1⟩,r.2,fun _ _ _ _ z=>by rw [RepO];exact ⟨r.1,z⟩⟩
 ·cases h
open Classical in
noncomputable def mK (F:Addr→List D→Res R) (c:O) (d0:D) (ds:List D):Res (R×D):=
 if h:∃ x:R×D,∀ p,F p (d0 :: ds)=.ok (.t [x.1.1,.pin p c],.tup [x.1.2,x.2]) then .ok (Classical.choose h) else .bad
theorem jl {F:Addr→List D→Res R} {c:O} {d0:D} {ds:List D} {r:R} {d':D} (h:∀ p,F p (d0 :: ds)=.ok (.t [r.1,.pin p c],.tup [r.2,d'])):mK F c d0 ds=.ok (r,d'):=by
 have h':∃ x:R×D,∀ p,F p (d0 :: ds)=.ok (.t [x.1.1,.pin p c],.tup [x.1.2,x.2]):=⟨(r,d'),h⟩
 unfold mK
 rw [dif_pos h']
 have e:=(Classical.choose_spec h' 0).symm.trans (h 0)
 generalize Classical.choose h'=x at e
 obtain ⟨⟨o,d⟩,d2⟩:=x
 cases e
 rfl
theorem pA {F:Addr→List D→Res R} {c:O} {d0:D} {ds:List D} {x:R×D} (h:mK F c d0 ds=.ok x) (p:Addr):F p (d0 :: ds)=.ok (.t [x.1.1,.pin p c],.tup [x.1.2,x.2]):=by
 unfold mK at h
 split at h
 ·rename_i h'
  cases h
  exact Classical.choose_spec h' p
 ·cases h
end
section
variable {X:Cx} {x:Str} {p pos:Pos} {e:Expr} {es:List Expr} {fs:FOs}
end
section
variable {K:W.Frag} {G G' H H':Hp}
end
section
variable {X:Cx} {md:Mode}
end
end PV
namespace NX
open PySem PySem.Spec PyProof.Rows L2
end NX
namespace PV
open PySem PySem.Spec PyProof.Rows L2 NX
section
variable {X:Cx}
end
end PV
namespace NX
open PySem PySem.Spec PyProof.Rows L2
section
variable {prog:Program} {w:World} {A:Around} {E:Value→Shared→Prop} {s:Shared}
end
section
variable {prog:Program} {w:World} {A:Around} {E:Value→Shared→Prop} {s:Shared}
end
section
variable {X:Cx} {e:Expr} {ta:TA} {p p2 pos pos2:Pos}
end
end NX
namespace PV
open PySem PySem.Spec PyProof.Rows L2 NX
noncomputable def DJ:List D→Res R
 | [.lst ds]=>.ok (.l .f,.lst ds.reverse)
 | _=>.bad
section
variable {X:Cx} {e:Expr} {fs:FOs} {p p2 pos pos2:Pos}
end
noncomputable def compLE (a:FG) (c:FT) (f:FX):List D→PV.Env→Res (List D×PV.Env)
 | [],env=>.ok ([],env)
 | d :: ds,env=>(a d env).bind fun e=>(c e).bind fun p=>if p.1 then (f p.2).bind fun q=>(compLE a c f ds q.2).bind fun rs=>.ok (q.1.2 :: rs.1,rs.2) else compLE a c f ds p.2
def Aj (a:FG) (c:FT) (f:FX) (ds:List D) (E:Addr→PV.Env) (k0:Nat) (x:List D×List D):Prop:=∀ q,∃ env2,compLE a c f ds (E q)=.ok (x.1,env2)∧env2[k0]?=some (some (.pin q (.l .f),.lst x.2))
open Classical in
noncomputable def qc (a:FG) (c:FT) (f:FX) (ds:List D) (E:Addr→PV.Env) (k0:Nat):Res (List D×List D):=if h:∃ x,Aj a c f ds E k0 x then .ok h.choose else .bad
theorem uO {a:FG} {c:FT} {f:FX} {ds:List D} {E:Addr→PV.Env} {k0:Nat} {x:List D×List D} (h:Aj a c f ds E k0 x):qc a c f ds E k0=.ok x:=by
 have ex:∃ x,Aj a c f ds E k0 x:=⟨x,h⟩
 unfold qc
 rw [dif_pos ex]
 obtain ⟨e1,h1,h2⟩:=ex.choose_spec 0
 obtain ⟨e2,h3,h4⟩:=h 0
 rw [h1] at h3
 have h5:=Res.ok.inj h3
 have h6:=congrArg Prod.fst h5
 have h7:=congrArg Prod.snd h5
 dsimp only at h6 h7
 subst h7
 rw [h2] at h4
 injection h4 with h4
 injection h4 with h4
 injection h4 with _ h4
 injection h4 with h4
 have:ex.choose=x:=Prod.ext h6 h4
 rw [this]
theorem uP {a:FG} {c:FT} {f:FX} {ds:List D} {E:Addr→PV.Env} {k0:Nat} {x:List D×List D} (h:qc a c f ds E k0=.ok x):Aj a c f ds E k0 x:=by
 unfold qc at h
 split at h
 ·rename_i ex
  cases h
  exact ex.choose_spec
 ·cases h
noncomputable def pB (fi:FI) (ix:List (Option Nat)) (j k0:Nat) (a:FG) (c:FT) (f:FX):FX:=fun env=>(fi env).bind fun p=>match p.2[j]? with
 | some (some (ow,.lst d0))=>if isLf ow then (qc a c f p.1 (fun q=>(bZ ix (p.2.set j none)).set k0 (some (.pin q (.l .f),.lst d0))) k0).bind fun x=>if x.1.length≤sizeLine∧flatDs x.1=true∧flatDs x.2=true then .ok ((.l .f,.lst x.1),p.2.set j (some (ow,.lst x.2))) else .bad else .bad
 | _=>.bad
theorem Ak {K:W.Frag} {fi:FI} {ix:List (Option Nat)} {j k0:Nat} {a:FG} {c:FT} {f:FX} {σ:L2.St} {H:Hp} {Q:VK} (hk:ix[k0]?=some (some j)) (h:tQ K (pB fi ix j k0 a c f) σ H Q):uk (tQI K fi) ix (tQG K a) (tQT K c) (tQ K f) σ H Q:=by
 obtain ⟨G,env,fp,r,env',rel,e,k⟩:=h
 obtain ⟨⟨ds,env1⟩,e1,e⟩:=aj e
 refine ⟨G,env,fp,ds,env1,rel,e1,fun J H1 G1 fp1 st1 rel1 wk D hD=>?_⟩
 dsimp only at e
 split at e
 ·rename_i ow d0 hj
  split at e
  ·rename_i hlf
   obtain ⟨⟨rs,d'⟩,e2,e⟩:=aj e
   dsimp only at e
   split at e
   ·rename_i hz
    cases e
    obtain ⟨v0,aa,b,ev,r0,r2,pm⟩:=rel1.rep.take hj
    obtain ⟨q,xs0,eq,hq,ea,rs0,mk⟩:=vZ hlf r0
    subst eq ea
    have nd:=List.nodup_append.mp (pm.nodup_iff.mp rel1.nd)
    have relR:Rel K G1 H1 (env1.set j none) σ b:=⟨r2,nd.2.1,fun w hw=>rel1.gn w (pm.mem_iff.mpr (List.mem_append_right _ hw)),rel1.gh⟩
    obtain ⟨G2,g12,g2h,g2a,hrep,hback⟩:=relR.lendM [q] (fun w hw hb=>nd.2.2 w hw w hb rfl) (fun w hw=>rel1.gn w (pm.mem_iff.mpr (List.mem_append_left _ hw)))
    have rE:=dY (H:=H1) hrep (fun i r er=>let ⟨v,ev,_⟩:=relR.view er;⟨v,ev⟩) ix
    have hk1:(bZ ix (env1.set j none))[k0]?=some none:=by
     unfold bZ
     rw [List.getElem?_map,hk]
     show some (match (env1.set j none)[j]? with | some (some r)=>some (O.f,r.2) | _=>none)=_
     rw [List.getElem?_set_self (List.getElem?_eq_some_iff.mp hj).1]
    have hk2:(gR ix σ)[k0]?=some (some (.ref q)):=by
     unfold gR
     rw [List.getElem?_map,hk]
     show some ((σ[j]?).bind id)=_
     rw [ev]
     rfl
    have rP:RepO K G2 H1 (.pin q (.l .f)) (.lst d0) (.ref q) [q]:=by
     rw [RepO]
     exact ⟨rfl,cG.mpr ⟨q,xs0,rfl,hq,rfl,rs0.mono g12⟩⟩
    obtain ⟨fq0,rE2,pm2⟩:=rE.put (i:=k0) (r:=(.pin q (.l .f),.lst d0)) (v:=.ref q) hk1 rP
    rw [ji hk2] at rE2
    have rel2:Rel K G2 H1 ((bZ ix (env1.set j none)).set k0 (some (.pin q (.l .f),.lst d0))) (gR ix σ) fq0:=⟨rE2,pm2.symm.nodup_iff.mp (List.nodup_cons.mpr ⟨List.not_mem_nil,List.nodup_nil⟩),(fun w hw=>g2a w (by have:=pm2.mem_iff.mp hw;simpa using this)),g2h⟩
    have st0:Step G2 H1 [q] G2 H1 fq0:=Step.cut fun w hw=>by have:=pm2.mem_iff.mp hw;simpa using this
    obtain ⟨rel3,st3⟩:=rel2.newL (ds:=[]) (xs:=[]) hD .nil
    obtain ⟨envE,eL,eK⟩:=uP e2 q
    dsimp only at eL eK
    refine ⟨fun i m σ1 H2=>m=ds.length - i∧i≤ds.length∧∃ G' es fp' acc dh,Step G2 H1 [q] G' H2 fp'∧Rel K G' H2 (some (.l .f,.lst acc) :: es) (some (.ref D) :: σ1) fp'∧compLE a c f (ds.drop i) es=.ok (dh,envE)∧acc++dh=rs,
     ⟨_,rfl,Nat.zero_le _,G2,_,_,[],rs,st0.trans st3,rel3,eL,rfl⟩,?_⟩
    rintro i m σ1 H2 ⟨rfl,hi,G3,es,fp3,acc,dh,st4,rel4,e4,eacc⟩
    obtain ⟨w1,w2⟩:=wk G3 H2 _ _ _ (g12.trans st4.gg) rel4 i
    by_cases hlt:i < ds.length
    ·have hd:ds[i]?=some ds[i]:=List.getElem?_eq_getElem hlt
     obtain ⟨go,yl⟩:=w1 _ hd
     rw [List.drop_eq_getElem_cons hlt] at e4
     unfold compLE at e4
     obtain ⟨es1,h1,e4⟩:=aj e4
     obtain ⟨⟨b',es2⟩,h2,e4⟩:=aj e4
     dsimp only at e4
     refine .inr ⟨go,fun x H3 y=>?_⟩
     obtain ⟨G4,rx,rel5,st5⟩:=yl x H3 y
     obtain ⟨fa,fb,efp,ra,relb,bk⟩:=rel5.frame
     refine ⟨G4,es,fb,ds[i],es1,relb,rx,h1,fun σ2 G5 fp5 st6 rel6=>?_⟩
     refine ⟨G5,es1,fp5,b',es2,rel6,h2,fun H6 G6 fp6 st7 rel7=>?_⟩
     have st67:=st6.trans st7
     cases b' with
     | false=>
      refine iteF ⟨ds.length - (i + 1),by lia,rfl,hlt,?_⟩
      obtain ⟨relz,stz⟩:=bk G6 H6 es2 σ2 fp6 st67 rel7
      rw [←efp] at stz
      exact ⟨G6,es2,_,acc,dh,st4.trans (st5.trans stz),relz,e4,eacc⟩
     | true=>
      have e4:((f es2).bind fun q=>(compLE a c f (ds.drop (i + 1)) q.2).bind fun rs=>.ok (q.1.2 :: rs.1,rs.2))=.ok (dh,envE):=e4
      obtain ⟨⟨r,es3⟩,h3,e4⟩:=aj e4
      obtain ⟨⟨rest',envE'⟩,h4,e4⟩:=aj e4
      cases e4
      refine zo ⟨G6,es2,fp6,r,es3,rel7,h3,fun v H7 G7 fp7 st8 rel8=>?_⟩
      obtain ⟨G8,fp8,rv,rel9,st9⟩:=rel8.freeze
      obtain ⟨relz,stz⟩:=bk G8 H7 es3 σ2 fp8 (st67.trans (st8.trans st9)) rel9
      rw [←efp] at stz
      obtain ⟨p,xs,ep,hp,rxs,cg⟩:=relz.chg (i:=0) (ds:=acc) (ds':=acc++[r.2]) rfl
      have ep:some (some (V.ref D))=some (some (V.ref p)):=ep
      cases ep
      obtain ⟨fq,rely,sty⟩:=cg (xs++[v]) (rxs.app (.one rv))
      refine ⟨xs,hp,?_,ds.length - (i + 1),by lia,rfl,hlt,G8,es3,fq,acc++[r.2],rest',st4.trans (st5.trans (stz.trans sty)),rely,h4,?_⟩
      ·rw [rxs.length]
       have:=congrArg List.length eacc
       rw [List.length_append,List.length_cons] at this
       have:=hz.1
       lia
      ·rw [←eacc,List.append_assoc]
       rfl
    ·have ei:i=ds.length:=by lia
     subst ei
     rw [List.drop_length] at e4
     cases e4
     rw [List.append_nil] at eacc
     subst eacc
     refine .inl ⟨w2 rfl,?_⟩
     obtain ⟨fa,fb,efp,ra,relb,bk⟩:=rel4.frame
     obtain ⟨v1,fq1,ev1,relo,sto,_⟩:=relb.out eK
     obtain ⟨fx,relx,stx⟩:=relo.only
     have ev2:v1=.ref q:=by
      obtain ⟨y,ys,ey,v2,a2,b2,e21,e22,r21,r22⟩:=relx.rep
      cases ey
      cases e21
      have r21:RepO K G3 H2 (.pin q (.l .f)) (.lst d') v1 a2:=r21
      rw [RepO] at r21
      exact r21.1
     subst ev2
     obtain ⟨relz,stz⟩:=bk G3 H2 _ _ fx (sto.trans stx) relx
     rw [←efp] at stz
     obtain ⟨G5,fp5,st5,rel5⟩:=hback H2 G3 _ _ _ (st4.trans stz) relz (fun w hw=>by
      rcases List.mem_cons.mp hw with hw | hw
      ·cases hw
       rw [a8,g0]
       exact hz.2.1
      ·rw [List.mem_singleton] at hw
       cases hw
       rw [a8,a8,g0]
       exact hz.2.2)
     obtain ⟨a1,b1,ef,ro,relRest,comb⟩:=Rel.frame rel5
     have relO:Rel K G5 H2 (some (ow,.lst d') :: env1.set j none) (some (.ref q) :: σ) b1:=by
      obtain ⟨y2,ys2,ey2,v2,a2,b2,e21,e22,r21,r22⟩:=relRest.rep
      cases ey2
      cases e21
      have r21:RepO K G5 H2 (.pin q (.l .f)) (.lst d') (.ref q) a2:=r21
      rw [RepO] at r21
      obtain ⟨q',zs,eq',hq',ea',rz⟩:=cG.mp r21.2
      cases eq'
      subst ea'
      have r3:RepO K G1 H1 ow (.lst d0) (.ref q) [q]:=r0
      refine ⟨⟨_,_,rfl,_,[q],b2,rfl,e22,?_,r22⟩,relRest.nd,relRest.gn,relRest.gh⟩
      show RepO K G5 H2 ow (.lst d') (.ref q) [q]
      unfold isLf at hlf
      split at hlf
      ·exact cG.mpr ⟨q,zs,rfl,hq',rfl,rz⟩
      ·rw [RepO] at r3 ⊢
       exact ⟨r3.1,cG.mpr ⟨q,zs,rfl,hq',rfl,rz⟩⟩
      ·cases hlf
     obtain ⟨fq,relB,stB⟩:=relO.back (i:=j) (by rw [List.length_set];exact (List.getElem?_eq_some_iff.mp hj).1) ev
     rw [List.set_set] at relB
     obtain ⟨relF,stF⟩:=comb G5 H2 _ _ fq stB relB
     rw [←ef] at stF
     exact k _ H2 G5 _ (st1.trans ((st5.perm (fun w=>pm.mem_iff.symm) (fun w hw=>hw)).trans stF)) relF
   ·cases e
  ·cases e
 ·cases e
end PV
namespace NX
open PySem PySem.Spec PyProof.Rows L2
section
open PySem.AutoSeq1 (wpAny_loadPart')
end
end NX
namespace PV
open PySem PySem.Spec PyProof.Rows L2 NX
section
variable {X:Cx}
end
section
variable {md:Mode} {X:Cx} {scope:Scope} {N:List Str} {tg iter elt:Expr} {ifs:List Expr} {pos:Pos} {fi:FI} {a:FG} {c:FT} {f:FX} {j k0:Nat}
theorem uQ {i:Nat} {y:Str} {py spos:Pos} (ix:List (Option Nat)) (N:List Str) (hN:X.N.Nodup) (hiy:X.N[i]?=some y) (hy:Loc X.env.scope y) (hc:X.calm=true) (hi:QI X tg iter fi) (hg:∀ C s H fp pn,QG (bE X scope N C s H fp pn) tg a) (ht:∀ C s H fp pn,QTs (bE X scope N C s H fp pn) ifs c)
  (he:∀ C s H fp pn,QE (bE X scope N C s H fp pn) elt f) (hkj:ix[k0]?=some (some j):=by rfl) (hsw:swapsWith (.ListComp elt [⟨tg,iter,ifs,0⟩] scope pos) (some (.Name y py)) spos.line X.env=pure true:=by rfl)
  (hf:gf scope X.env=true:=by rfl) (hk:scope.kind=.function:=by rfl) (hcell:∀ y∈scope.names,y.2≠.cell:=by decide +kernel) (hnames:∀ y∈scope.names,y.2=.local→scope.names.lookup y.1=some .local:=by decide +kernel) (hix:um X scope N ix=true:=by rfl)
  (hs:∀ x,foldedSetIterable iter X.env x=pure x:=by intro _;rfl) (hfn:X.fn y=true∨X.env.scope.names.lookup y=some .local:=by first | exact .inl rfl | exact .inr rfl) :
  QS (md:=md) X (.Assign [.Name y py] (.ListComp elt [⟨tg,iter,ifs,0⟩] scope pos) spos) (bW i (pB fi ix j k0 a c f)):=
 eV (qZ (i:=i) (g:=tQG X.K a) (tc:=tQT X.K c) (te:=tQ X.K f) ix N hN hiy hy hc hi hg ht he hsw hf hk hcell hnames hix hs hfn) fun D σ H ⟨G,env,fp,rel,k⟩=>Ak hkj (ny rel k)
end
section
variable {X:Cx} {x:Str} {p pos:Pos} {e:Expr} {es:List Expr} {f0:FX} {fs:FOs}
end
section
variable {X:Cx}
end
end PV
namespace NX
open PySem PySem.Spec PyProof.Rows L2
section
variable {prog:Program} {w:World} {A:Around} {R:Result→Shared→Prop} {it:Addr} {fp wr:List Addr} {n:Nat} {Pv:Nat→Value→Prop} {Sx:Nat→Heap→Prop} {kw:List (Str×Value)}
end
section
variable {X:Cx} {e k:Expr} {te tk:TE} {p pos kpos:Pos}
end
end NX
namespace PV
open PySem PySem.Spec PyProof.Rows L2 NX
section
variable {X:Cx}
end
section
variable {X:Cx}
noncomputable def BY (g:List D→List D→Res R) (fa:FO) (fs:FOs):FX:=fun env=>(fa env).bind fun p=>(der p.2 p.1).bind fun a=>match a with
 | .lst _=>(fs p.2).bind fun q=>(der q.2 p.1).bind fun a2=>match a2 with
  | .lst l=>(lO q.2 q.1).bind fun ds=>(g l ds).bind fun r=>.ok (r,q.2)
  | _=>.bad
 | _=>.bad
inductive rMtL (K:W.Frag) (g:List D→List D→Res R) (x:V) (xs:List V) (H:Hp) (Q:VK):Prop
 | mk:∀ G fp es vs l ds r,Goes K H G fp es vs r Q→Vw K G H (.lst l) x→Vws K G H ds xs→g l ds=.ok r→rMtL K g x xs H Q
theorem Al {g:List D→List D→Res R} {id:String} {name:Str} {o e:Expr} {es:List Expr} {fa:FO} {fs:FOs} {apos cpos:Pos} (slot:Slot "list" name id) (hty:typeOf (.builtin id)=pure (.type "method_descriptor")) (hm:MtR X id (rMtL X.K g)) (ho:QO X o fa) (ha:QOs X (e :: es) fs)
  (hbase:attributeBase o name X.env (eval o X.env)=eval o X.env:=by rfl)
  (hfew:((backTo cpos (starEach (e :: es) X.env)).all (fun x=>!x.1) && (backToKw cpos (keywordEach [] X.env)).all (fun x=>x.1.isSome) && decide ((e :: es).length + ([]:List Keyword).length + (if ([]:List Keyword).isEmpty then 0 else 1) < 30))=true:=by rfl)
  (hline:(apos.endLine == cpos.line)=true:=by rfl) (hs:starEach (e :: es) X.env=(false,eval e X.env) :: starEach es X.env:=by rfl) (hplain:(backTo cpos (starEach es X.env)).any (·.1)=false:=by rfl) :
  QE X (.Call (.Attribute o name apos) (e :: es) [] cpos) (BY g fa fs):=by
 refine bF (zl PySem.F.plainAttrs_list slot hty hm ho ha hbase hfew hline hs hplain) fun σ H Q hqq=>?_
 obtain ⟨G,env,fp,r,env',rel,e,k⟩:=hqq
 obtain ⟨⟨oa,env1⟩,e1,e⟩:=aj e
 obtain ⟨da,hda,e⟩:=aj e
 dsimp only at e
 split at e
 ·obtain ⟨⟨os,env2⟩,e2,e⟩:=aj e
  obtain ⟨d2,hd2,e⟩:=aj e
  dsimp only at e
  split at e
  ·obtain ⟨ds,e3,e⟩:=aj e
   obtain ⟨r',e4,e⟩:=aj e
   cases e
   refine ⟨G,env,fp,oa,env1,rel,e1,fun v H1 G1 fp1 st1 rel1 ok1=>?_⟩
   obtain ⟨p,xs,ev,sq,_⟩:=rel1.vw ok1 hda
   subst ev
   exact ⟨.inl ⟨rfl,xs,sq⟩,G1,env1,fp1,os,_,rel1,e2,fun vs H2 G2 fp2 st2 rel2 ok2=>⟨G2,fp2,_,σ,_,ds,r,⟨rel2,fun v H' G' fp' st rel'=>k v H' G' fp' (st1.trans (st2.trans st)) rel'⟩,rel2.vw (ok1.mono st2.gg) hd2,rel2.vws ok2 e3,e4⟩⟩
  ·cases e
 ·cases e
open PySem.SeqAt in
theorem xM {pins:List (Addr×Obj)} {σ:L2.St} {H:Hp} {s:Shared} (I:Inv X pins σ H s) {a:D} {x:V} {v:Value} {A:Around} (h:plainD 40 a=true) (hu:A.units + 64 < cLine) (r:Rep X.K H a x) (rx:RelV x v) :
  ∀ (ds:List D) (xs:List V) (us:List Value),plainDs 40 ds=true→Reps X.K H ds xs→Vals xs us→∃ e:Value→Bool,(∀ (j:Nat) (d:D) (u:Value),ds[j]?=some d→us[j]?=some u→e u=eqD d a)∧∀ u∈us,EqAt A s u v (e u):=by
 classical
 intro ds xs us hp rs vl
 have key:∀ (j:Nat) (d:D) (u:Value),ds[j]?=some d→us[j]?=some u→decide (∃ (j:Nat) (d:D),ds[j]?=some d∧us[j]?=some u∧eqD d a=true)=eqD d a:=by
  intro j d u hd hj
  obtain ⟨w1,hw1,rw1⟩:=rs.get hd
  obtain ⟨u1,hu1,ru1⟩:=vl.get hw1
  rw [hj] at hu1
  cases hu1
  rw [Bool.eq_iff_iff,decide_eq_true_eq]
  constructor
  ·rintro ⟨j2,d2,k1,k2,k3⟩
   obtain ⟨w2,hw2,rw2⟩:=rs.get k1
   obtain ⟨u2,hu2,ru2⟩:=vl.get hw2
   rw [k2] at hu2
   cases hu2
   have:=ru1.inj ru2
   subst this
   rw [jF I _ _ _ 40 (plainDs_mem hp hd) rw1 rw2]
   exact k3
  ·intro k3
   exact ⟨j,_,hd,hj,k3⟩
 refine ⟨fun u=>decide (∃ (j:Nat) (d:D),ds[j]?=some d∧us[j]?=some u∧eqD d a=true),key,fun u hu'=>?_⟩
 obtain ⟨j,hj⟩:=List.mem_iff_getElem?.mp hu'
 have l1:=vl.length
 have l2:=rs.length
 have hjl:=(List.getElem?_eq_some_iff.mp hj).1
 have g1:ds[j]?=some (ds[j]'(by lia)):=List.getElem?_eq_getElem _
 obtain ⟨w1,hw1,rw1⟩:=rs.get g1
 obtain ⟨u1,hu1,ru1⟩:=vl.get hw1
 rw [hj] at hu1
 cases hu1
 have z:=xu I _ _ w1 x u v A 40 (plainDs_mem hp g1) h (by lia) rw1 r ru1 rx
 show EqAt A s u v (decide (∃ (j:Nat) (d:D),ds[j]?=some d∧us[j]?=some u∧eqD d a=true))
 rw [key j _ u g1 hj]
 exact z
noncomputable def nR (l:List D):List D→Res R
 | [a]=>if plainD 40 a && plainDs 40 l && l.any (fun d=>eqD d a) then .ok (.f,.int (l.findIdx (fun d=>eqD d a):Nat)) else .bad
 | _=>.bad
theorem nS (hu:X.A.units + 65 < cLine):MtR X "list.index" (rMtL X.K nR):=by
 rintro pins s σ H x xs v us Q I rx rv ⟨G,fp,es,vs,l,ds,r,⟨rel,k⟩,vx,vd,e⟩
 unfold nR at e
 split at e
 ·rename_i a
  split at e
  ·rename_i hp
   rw [Bool.and_eq_true,Bool.and_eq_true] at hp
   cases e
   obtain ⟨p,ys,ev,sq,rs⟩:=vx
   subst ev
   cases rx
   obtain ⟨w',ew,va⟩:=mz vd
   subst ew
   obtain ⟨u,rfl,ru⟩:=fm rv
   obtain ⟨its,vl,pl,hz⟩:=I.list sq
   obtain ⟨⟨cls,dd,data,sl⟩,ho,hc,n,hd⟩:=id pl.isList
   simp only at hc hd
   subst hc hd
   obtain ⟨ef,he1,he2⟩:=xM (A:=X.A.in1) I hp.1.1 (by first | lia | (simp only [Around.in1_units];lia)) (va.rep rel.gh) ru l ys its hp.1.2 (Reps.mono rel.gh rs) vl
   have hlt:l.findIdx (fun d=>eqD d a) < l.length:=List.findIdx_lt_length.mpr (by rw [←List.any_eq_true];exact hp.2)
   have l1:=vl.length
   have l2:=rs.length
   have hlt2:l.findIdx (fun d=>eqD d a) < its.toArray.size:=by rw [List.size_toArray];lia
   have hb:(l.findIdx (fun d=>eqD d a):Int) < 2 ^ 63 - 1:=by
    rw [sizeLine_eq] at hz
    lia
   refine PySem.call_meets PySem.F.slot_list_index ⟨_,ho,rfl⟩ PySem.F.entry_list_index (PySem.F.args_list_index_2 _ _) (PySem.SeqAt.list_indexAt p its.toArray n _ _ u ef (l.findIdx fun d=>eqD d a) hlt2 hb ?_ ?_) ⟨ho,fun y hy=>?_,⟨.int (l.findIdx (fun d=>eqD d a):Nat),H,I.tok _,⟨_,rfl⟩,k _ H G fp .refl (rel.push (bo _))⟩⟩
   ·rw [he1 _ _ _ (List.getElem?_eq_getElem hlt) (by rw [List.getElem_toArray];exact List.getElem?_eq_getElem _)]
    exact List.findIdx_getElem (w:=hlt)
   ·intro m hm hlt3
    rw [he1 m (l[m]'(by lia)) _ (List.getElem?_eq_getElem _) (by rw [List.getElem_toArray];exact List.getElem?_eq_getElem _)]
    exact List.not_of_lt_findIdx hlt3
   ·exact he2 y (by simpa using hy)
  ·cases e
 ·cases e
end
section
variable {K:W.Frag} {G G' H H':Hp} {es:PV.Env} {vs:L2.St} {fp:List Addr}
theorem Rel.lendM2 (q:Rel K G H es vs fp) (a:List Addr) (ha:∀ z∈a,z∉fp) (hga:∀ z∈a,G z=none):∃ G1,Same G G1∧Same G1 H∧(∀ z∈a,G1 z=none)∧(∀ (i:Nat) (r:R) (v:V),es[i]?=some (some r)→vs[i]?=some (some v)→Rep K G1 r.2 v)∧
  ∀ (H2 G2:Hp) (fp2:List Addr) (rs:PV.Env) (ws:L2.St),Step G1 H a G2 H2 fp2→Rel K G2 H2 rs ws fp2→((∀ r,some r∈rs→a8 r.1 r.2=true)→∃ G3 fp3,Step G H (a++fp) G3 H2 fp3∧Rel K G3 H2 (rs++es) (ws++vs) fp3)∧∃ G3 fp3,Step G H (a++fp) G3 H2 fp3∧Rel K G3 H2 (rs++es.map PV.frz) (ws++vs) fp3:=by
 have hg:Same G (fun p=>if p∈fp then H p else G p):=fun p u e=>by
  show (if p∈fp then H p else G p)=some u
  by_cases hp:p∈fp
  ·rw [if_pos hp]
   exact q.gh p u e
  ·rw [if_neg hp]
   exact e
 have hh:Same (fun p=>if p∈fp then H p else G p) H:=fun p u e=>by
  have e:(if p∈fp then H p else G p)=some u:=e
  by_cases hp:p∈fp
  ·rw [if_pos hp] at e
   exact e
  ·rw [if_neg hp] at e
   exact q.gh p u e
 have hk:∀ p∈fp,∀ u,H p=some u→(fun p=>if p∈fp then H p else G p) p=some u:=fun p hp u e=>by
  show (if p∈fp then H p else G p)=some u
  rw [if_pos hp]
  exact e
 refine ⟨fun p=>if p∈fp then H p else G p,hg,hh,fun z hz=>?_,fun i r v e ev=>q.rep.rep hg hk e ev,fun H2 G2 fp2 rs ws st k=>⟨fun cl=>?_,?_⟩⟩
 ·show (if z∈fp then H z else G z)=none
  rw [if_neg (ha z hz)]
  exact hga z hz
 ·have kept:∀ p∈fp,H2 p=H p:=fun p hp=>by
   obtain ⟨u,hu⟩:=q.rep.live p hp
   rw [hu]
   exact st.keep p u hu fun z=>ha p z hp
  have apart:∀ p∈fp2,p∉fp:=fun p hp hf=>by
   rcases st.fpn p hp with z | z
   ·exact ha p z hf
   ·obtain ⟨u,hu⟩:=q.rep.live p hf
    rw [z] at hu;cases hu
  have g3:Same G (fun p=>if p∈fp then none else G2 p):=fun p u e=>by
   show (if p∈fp then none else G2 p)=some u
   rw [if_neg (fun z=>by rw [q.gn p z] at e;cases e)]
   exact st.gg p u (hg p u e)
  refine ⟨fun p=>if p∈fp then none else G2 p,fp2++fp,⟨g3,fun p u e n=>?_,fun p hp=>?_,fun p u e=>?_,st.there⟩,⟨RepE.append (RepE.clean (fun p u t e=>?_) cl k.rep) (q.rep.step g3 kept),?_,fun p hp=>?_,fun p u e=>?_⟩⟩
  ·exact st.keep p u e fun z=>n (List.mem_append_left _ z)
  ·rcases List.mem_append.mp hp with hp | hp
   ·exact (st.fpn p hp).imp_left (List.mem_append_left _)
   ·exact .inl (List.mem_append_right _ hp)
  ·have e:(if p∈fp then none else G2 p)=some u:=e
   by_cases hp:p∈fp
   ·rw [if_pos hp] at e;cases e
   ·rw [if_neg hp] at e
    rcases st.gnew p u e with z | z | z
    ·have z:(if p∈fp then H p else G p)=some u:=z
     rw [if_neg hp] at z
     exact .inl z
    ·exact .inr (.inl (List.mem_append_left _ z))
    ·exact .inr (.inr z)
  ·show (if p∈fp then none else G2 p)=some u
   by_cases hp:p∈fp
   ·exfalso
    obtain ⟨u',hu,hm⟩:=q.rep.mut p hp
    have:=st.gg p u' (hk p hp u' hu)
    rw [e] at this
    cases this
    cases u with
    | lst _=>cases t
    | dK _=>cases t
    | dT _=>cases t
    | _=>cases hm
   ·rw [if_neg hp]
    exact e
  ·rw [List.nodup_append]
   exact ⟨k.nd,q.nd,fun p hp z hz e=>apart p hp (e▸hz)⟩
  ·show (if p∈fp then none else G2 p)=none
   by_cases hf:p∈fp
   ·rw [if_pos hf]
   ·rw [if_neg hf]
    rcases List.mem_append.mp hp with hp | hp
    ·exact k.gn p hp
    ·exact absurd hp hf
  ·have e:(if p∈fp then none else G2 p)=some u:=e
   by_cases hp:p∈fp
   ·rw [if_pos hp] at e;cases e
   ·rw [if_neg hp] at e
    exact k.gh p u e
 ·have hgg:=hg.trans st.gg
  have rf:RepE K G2 H2 (es.map PV.frz) vs []:=q.rep.frz hgg fun p hp u e=>st.gg p u (hk p hp u e)
  have ra:=RepE.append k.rep rf
  rw [List.append_nil] at ra
  refine ⟨G2,fp2,⟨hgg,fun p u e n=>st.keep p u e fun z=>n (List.mem_append_left _ z),fun p hp=>(st.fpn p hp).imp_left (List.mem_append_left _),fun p u e=>?_,st.there⟩,⟨ra,k.nd,k.gn,k.gh⟩⟩
  rcases st.gnew p u e with z | z | z
  ·have z:(if p∈fp then H p else G p)=some u:=z
   by_cases hp:p∈fp
   ·exact .inr (.inl (List.mem_append_right _ hp))
   ·rw [if_neg hp] at z
    exact .inl z
  ·exact .inr (.inl (List.mem_append_left _ z))
  ·exact .inr (.inr z)
end
noncomputable def eFunW (c:O) (F:Addr→List D→Res R) (i:Nat) (fs:FOs):FX:=fun env=>(fs env).bind fun p=>match p.1 with
 | .var j :: os=>if j=i then (match p.2[i]? with
  | some (some (ow,d0))=>if nQ c ow then (i6 (p.2.set i none) os).bind fun ds=>(mK F c d0 ds).bind fun x=>if a8 x.1.1 x.1.2 && a8 c x.2 then .ok (x.1,(p.2.set i none).set i (some (ow,x.2))) else .ok (x.1,((p.2.set i none).map frz).set i (some (ow,x.2))) else .bad
  | _=>.bad) else .bad
 | _=>.bad
noncomputable def xN (c:O) (F:Addr→List D→Res R) (f0:FX) (fs:FOs):FX:=fun env=>(f0 env).bind fun p=>if nQ c p.1.1 then (fs p.2).bind fun q=>(i6 q.2 q.1).bind fun ds=>(mK F c p.1.2 ds).bind fun z=>if a8 z.1.1 z.1.2 then .ok (z.1,q.2) else .ok (z.1,q.2.map frz) else .bad
section
variable {X:Cx} {x:Str} {p pos:Pos} {e:Expr} {es:List Expr} {f0:FX} {fs:FOs}
theorem nU {F:Addr→List D→Res R} {c:O} {i k:Nat} (C:Ct X.prog X.w X.K X.mg X.base x k (spM X.K c F)) (hr:Room k X.A) (hg:Gl X x) (ha:QOs X (e :: es) fs) (hdb:(x == ("__debug__" : Str))=false:=by decide)
  (he:starEach (e :: es) X.env=(false,eval e X.env) :: starEach es X.env:=by rfl) (hpl:(backTo pos (starEach es X.env)).any (·.1)=false:=by rfl):QE X (.Call (.Name x p) (e :: es) [] pos) (eFunW c F i fs):=
 bF (wR C hr hg ha hdb he hpl) fun σ H Q hq0=>by
  obtain ⟨G,env,fp,r,env',rel,e,k⟩:=hq0
  obtain ⟨⟨os,e1⟩,ha,e⟩:=aj e
  dsimp only at e
  split at e
  ·rename_i j os'
   split at e
   ·rename_i hj
    subst hj
    split at e
    ·rename_i ow d0 hi
     split at e
     ·rename_i how
      obtain ⟨ds,hd,e⟩:=aj e
      obtain ⟨z,hz,e⟩:=aj e
      refine ⟨G,env,fp,_,e1,rel,ha,fun vs H1 G1 fp1 st1 rel1 ok1=>?_⟩
      show spM X.K c F (vs++[]) H1 Q _
      rw [List.append_nil]
      obtain ⟨y,ys,ey,k1,k2⟩:=ok1
      obtain ⟨v0,a,b,ev,r0,r2,pm⟩:=rel1.rep.take hi
      have k1:σ[j]?=some (some y):=k1
      rw [k1] at ev
      cases ev
      obtain ⟨⟨q,hq⟩,rc,back⟩:=v3 how r0
      subst hq
      have nd:=List.nodup_append.mp (pm.nodup_iff.mp rel1.nd)
      have relR:Rel X.K G1 H1 (e1.set j none) σ b:=⟨r2,nd.2.1,fun w hw=>rel1.gn w (pm.mem_iff.mpr (List.mem_append_right _ hw)),rel1.gh⟩
      obtain ⟨G2,g12,g2h,g2a,hrep,hback⟩:=relR.lendM2 a (fun w hw hb=>nd.2.2 w hw w hb rfl) (fun w hw=>rel1.gn w (pm.mem_iff.mpr (List.mem_append_left _ hw)))
      refine ⟨G2,q,ys,d0,ds,_,a,g2h,ey,rc.step g12 (fun _ _=>rfl),nd.1,g2a,gW g12 hrep k2 hd,pA hz q,fun v H' G' fp' st rt=>?_⟩
      obtain ⟨o',d',p',c',d0',er,rl⟩:=rt
      cases er
      have fin:∀ (ee:PV.Env),ee.length=e1.length→(∃ G3 fp3,Step G1 H1 (a++b) G3 H' fp3∧Rel X.K G3 H' (some z.1 :: some (.pin q c,z.2) :: ee) (some v :: some (.ref q) :: σ) fp3)→(z.1,ee.set j (some (ow,z.2)))=(r,env')→Q v H':=by
       rintro ee hel ⟨G3,fp3,st3,rel3⟩ eee
       cases eee
       obtain ⟨a1,b1,ef,ro,relRest,comb⟩:=Rel.frame rel3
       have relO:Rel X.K G3 H' (some (ow,z.2) :: ee) (some (.ref q) :: σ) b1:=by
        obtain ⟨y2,ys2,ey2,v2,a2,b2,e21,e22,r21,r22⟩:=relRest.rep
        cases ey2
        cases e21
        rw [RepO] at r21
        exact ⟨⟨_,_,rfl,_,a2,b2,rfl,e22,back _ _ _ _ r21.2,r22⟩,relRest.nd,relRest.gn,relRest.gh⟩
       obtain ⟨fq,relB,stB⟩:=relO.back (i:=j) (by rw [hel];exact (List.getElem?_eq_some_iff.mp hi).1) k1
       obtain ⟨relF,stF⟩:=comb G3 H' _ _ fq stB relB
       rw [←ef] at stF
       exact k v H' G3 _ (st1.trans ((st3.perm (fun w=>pm.mem_iff.symm) (fun w hw=>hw)).trans stF)) relF
      obtain ⟨b1,b2⟩:=hback H' G' fp' _ _ st rl
      split at e
      ·rename_i hcl
       rw [Bool.and_eq_true] at hcl
       have e:=Res.ok.inj e
       refine fin (e1.set j none) (by rw [List.length_set]) (b1 fun w hw=>?_) e
       rcases List.mem_cons.mp hw with hw | hw
       ·cases hw;exact hcl.1
       ·rw [List.mem_singleton] at hw
        cases hw
        simp only [a8]
        exact hcl.2
      ·have e:=Res.ok.inj e
       exact fin ((e1.set j none).map frz) (by rw [List.length_map,List.length_set]) b2 e
     ·cases e
    ·cases e
   ·cases e
  ·cases e
theorem xO {F:Addr→List D→Res R} {c:O} {k:Nat} (C:Ct X.prog X.w X.K X.mg X.base x k (spM X.K c F)) (hr:Room k X.A) (hg:Gl X x) (h0:QE X e f0) (ha:QOs X es fs) (hdb:(x == ("__debug__" : Str))=false:=by decide)
  (he:starEach (e :: es) X.env=(false,eval e X.env) :: starEach es X.env:=by rfl) (hpl:(backTo pos (starEach es X.env)).any (·.1)=false:=by rfl):QE X (.Call (.Name x p) (e :: es) [] pos) (xN c F f0 fs):=
 bF (wR C hr hg (il h0 ha he) hdb he hpl) fun σ H Q hq0=>by
  obtain ⟨G,env,fp,r,env',rel,e,k⟩:=hq0
  obtain ⟨⟨r0,env1⟩,e1,e⟩:=aj e
  dsimp only at e
  split at e
  ·rename_i how
   obtain ⟨⟨os,env2⟩,e2,e⟩:=aj e
   obtain ⟨ds,hd,e⟩:=aj e
   obtain ⟨z,hz,e⟩:=aj e
   dsimp only at e
   ·refine ⟨G,env,fp,r0,env1,rel,e1,fun v0 H1 G1 fp1 st1 rel1=>?_⟩
    obtain ⟨a,b,efp,ro,relb,bk⟩:=rel1.frame
    refine ⟨G1,env1,b,os,env2,relb,e2,fun vs H2 G2 fp2 st2 rel2 ok2=>?_⟩
    show spM X.K c F (v0 :: vs++[]) H2 Q _
    rw [List.append_nil]
    obtain ⟨relz,stz⟩:=bk G2 H2 env2 σ fp2 st2 rel2
    rw [←efp] at stz
    obtain ⟨y,ys,ey,v1,a1,b1,ey1,ef1,q1,q2⟩:=relz.rep
    cases ey
    cases ey1
    obtain ⟨⟨q,hq⟩,rc,_⟩:=v3 how q1
    subst hq
    have nd:=List.nodup_append.mp (ef1▸relz.nd)
    have relR:Rel X.K G2 H2 env2 σ b1:=⟨q2,nd.2.1,fun w hw=>relz.gn w (by rw [ef1];exact List.mem_append_right _ hw),relz.gh⟩
    obtain ⟨G3,g23,g3h,g3a,hrep,hback⟩:=relR.lendM2 a1 (fun w hw hb=>nd.2.2 w hw w hb rfl) (fun w hw=>relz.gn w (by rw [ef1];exact List.mem_append_left _ hw))
    refine ⟨G3,q,vs,r0.2,ds,_,a1,g3h,rfl,rc.step g23 (fun _ _=>rfl),nd.1,g3a,gW g23 hrep ok2 hd,pA hz q,fun v H' G' fp' st rt=>?_⟩
    obtain ⟨o',d',p',c',d0',er,rl⟩:=rt
    cases er
    obtain ⟨fa,relo,sto⟩:=rl.only
    obtain ⟨bb1,bb2⟩:=hback H' G' fa _ _ (st.trans sto) relo
    split at e
    ·rename_i hcl
     cases e
     obtain ⟨G5,fp5,st5,rel5⟩:=bb1 (fun w hw=>by
      rw [List.mem_singleton] at hw
      cases hw
      exact hcl)
     rw [←ef1] at st5
     exact k v H' G5 _ (st1.trans (stz.trans st5)) rel5
    ·cases e
     obtain ⟨G5,fp5,st5,rel5⟩:=bb2
     rw [←ef1] at st5
     exact k v H' G5 _ (st1.trans (stz.trans st5)) rel5
  ·cases e
end
theorem vals_pick {xs:List V} {us:List Value} (r:Vals xs us):∀ ix:List Nat,Vals (ix.filterMap fun i=>xs[i]?) (ix.filterMap fun i=>us[i]?)
 | []=>.nil
 | i :: ix=>by
  have ih:=vals_pick r ix
  cases e:xs[i]? with
  | none=>
   rw [List.filterMap_cons_none e,List.filterMap_cons_none (r.none_of e)]
   exact ih
  | some d=>
   obtain ⟨v,e2,rv⟩:=r.get e
   rw [List.filterMap_cons_some e,List.filterMap_cons_some e2]
   exact .cons rv ih
section
variable {X:Cx} {pos:Pos} {fa:FO}
end
section
variable {X:Cx}
end
end PV
namespace LW
open PySem L2 NX PV
noncomputable def jQ:FS:=(gO (aA cS (ao (aE (.int 1))) (ao (xv (gF (or2 (p7 (aA ixD (av 0) (ao (aE (.int 1))))) (or2 (eD (aA ixD (av 0) (ao (aE (.int 1))))) (eE (aA ixD (av 0) (ao (aE (.int 1))))))) [none,none,none] (kl 3 (aK (aB 0) (aK (aB 1) (aK (aB 2) dX)))) ik (bx maxD (ah (av 0) (ah (av 2) az)))) (aE (.int 0))))))
noncomputable def cI:List D→Res R:=fBody 1 0 jQ
noncomputable def dI:FS:=(sIf (BN (eBl (b6 eqO (ao (aA ixD (av 4) (ao (aE (.int 0))))) (ao (aA ixD (av 1) (av 3))))) (eBl (b6 xK (ao (aA ixD (av 4) (ao (aE (.int 2))))) (av 1))))
  (sSeq (gX (pb 1 (aA ixD (av 4) (ao (aE (.int 2))))))
  (gX (pb 2 (aM 4))))
  cU)
noncomputable def jR:FS:=(ky (or2 (p7 (aM 0)) (or2 (eD (aM 0)) (eE (aM 0)))) (aB 4)
  dI)
noncomputable def iM:FS:=(bW 3 (aA cS (av 3) (ao (aE (.int 1)))))
noncomputable def fA:FS:=(sSeq jR
  iM)
noncomputable def jS:FS:=(dE (eBl (aA ltO (av 3) (ao (bx ft (ah (av 1) az)))))
  fA 100000)
noncomputable def iN:FS:=(gO (mr 2))
noncomputable def mL:FS:=(sSeq (bW 1 (nF (aJ (aE (.int 0)) b5)))
  (sSeq (bW 2 (nF b5))
  (sSeq (bW 3 (aE (.int 0)))
  (sSeq jS
  iN))))
noncomputable def bQ:List D→Res R:=fBody 1 4 mL
noncomputable def v5:FS:=(gO (bx iI (ah (ao (gF (nL (ah (ao (aM 0)) (ah (ao (aM 1)) az))) [none,none] (kl 2 (aK (aB 0) (aK (aB 1) dX))) ik (aA qw (av 0) (av 1)))) az)))
noncomputable def jT:List D→Res R:=fBody 2 0 v5
noncomputable def fB:FS:=(xA 1 (aM 4) (aA cS (ao (aA dgD (av 1) (av 2))) (ao (kB (aJ (aM 3) b5)))))
noncomputable def jU:FS:=(ky (or2 (p7 (cP bQ (ah (ao (aA ixD (av 0) (ao (aE (.int 1))))) az))) (or2 (eD (cP bQ (ah (ao (aA ixD (av 0) (ao (aE (.int 1))))) az))) (eE (cP bQ (ah (ao (aA ixD (av 0) (ao (aE (.int 1))))) az))))) (kl 3 (aK (aB 2) (aK (aB 3) (aK (aB 4) dX))))
  fB)
noncomputable def iO:FS:=(gO (gF (dr (ao (cP cI (ah (av 0) az)))) [none,some 1] (aB 0) ik (aA dgD (av 1) (av 0))))
noncomputable def mM:FS:=(sSeq (bW 1 (pw (aE (.int 0)) (kB b5)))
  (sSeq jU
  iO))
noncomputable def bK:List D→Res R:=fBody 1 4 mM
noncomputable def mN:FS:=(gO (bx iI (ah (ao (gF (or2 (lr 0) (or2 (eD (aM 0)) (eE (aM 0)))) [none,some 1] (aB 0) ik (Ag yC (av 1) (ah (av 0) az)))) az)))
noncomputable def b7:List D→Res R:=fBody 2 0 mN
noncomputable def jV:FS:=(gO (gF (or2 (p7 (cP bK (ah (av 0) az))) (or2 (eD (cP bK (ah (av 0) az))) (eE (cP bK (ah (av 0) az))))) [none,some 0] (aB 0) ik (cP b7 (ah (ao (aA ixD (av 1) (ao (aE (.int 0))))) (ah (av 0) az)))))
noncomputable def cJ:List D→Res R:=fBody 1 0 jV
noncomputable def eO:FS:=(sIf (eBl (b6 xK (av 4) (av 2)))
  (gX (pb 3 (cP jT (ah (ao (cP b7 (ah (ao (aA ixD (av 0) (ao (aE (.int 0))))) (ah (ao (aA cS (ao (aA ixD (av 1) (ao (aA ixD (av 4) (ao (aE (.int 0))))))) (ao (kB (aJ (aA ixD (av 4) (ao (aE (.int 1)))) b5))))) az)))) (ah (ao (cP b7 (ah (ao (aA ixD (av 0) (ao (aE (.int 0))))) (ah (ao (aA ixD (av 1) (ao (aA ixD (av 4) (ao (aE (.int 2))))))) az)))) az)))))
  cU)
noncomputable def iP:FS:=(ky (or2 (p7 (aA ixD (av 0) (ao (aE (.int 1))))) (or2 (eD (aA ixD (av 0) (ao (aE (.int 1))))) (eE (aA ixD (av 0) (ao (aE (.int 1))))))) (aB 4)
  eO)
noncomputable def hX:FS:=(gO (mr 3))
noncomputable def kH:FS:=(sSeq (bW 1 (cP bK (ah (av 0) az)))
  (sSeq (bW 2 (cP bQ (ah (ao (aA ixD (av 0) (ao (aE (.int 1))))) az)))
  (sSeq (bW 3 (nF b5))
  (sSeq iP
  hX))))
noncomputable def c9:List D→Res R:=fBody 1 4 kH
noncomputable def gu:FS:=(sSeq (sIf (eBl (aA ltO (av 1) (ao (bx ft (ah (av 0) az)))))
  (gO (aA ixD (av 0) (av 1)))
  cU)
  (gO (aE (.int 0))))
noncomputable def au:List D→Res R:=fBody 2 0 gu
noncomputable def cW:FS:=(sSeq (bW 3 (aA dF (ao (aA cS (ao (aA cS (ao (aA cS (ao (aA m7 (av 3) (av 3))) (ao (aA m7 (ao (aE (.int 69069))) (av 3))))) (ao (aA m7 (ao (aE (.int 5))) (av 4))))) (ao (aE (.int 1))))) (ao (aE (.int 2147483629)))))
  (gX (pb 2 (aA my (av 3) (ao (aE (.int 16)))))))
noncomputable def fC:FS:=(ky (dr (av 1)) (aB 4)
  cW)
noncomputable def eX:FS:=(gO (mr 2))
noncomputable def hZ:FS:=(sSeq (bW 2 (nF b5))
  (sSeq (bW 3 (aA cS (ao (aA dF (av 0) (ao (aE (.int 2147483629))))) (ao (aE (.int 7)))))
  (sSeq fC
  eX)))
noncomputable def aY:List D→Res R:=fBody 2 3 hZ
noncomputable def cy:FS:=(sSeq (bW 9 (aA cS (ao (aA my (av 0) (ao (aA cS (av 8) (ao (aE (.int 64))))))) (ao (aA m7 (av 8) (av 8)))))
  (sSeq (sIf (eBl (b6 eqO (av 8) (av 4)))
  (bW 9 (aA cS (av 9) (av 6)))
  cU)
  (bW 7 (aA cS (av 7) (ao (aA ixD (av 2) (ao (aA dF (av 9) (ao (aE (.int 26)))))))))))
noncomputable def gv:FS:=(ky (dr (av 3)) (aB 8)
  cy)
noncomputable def fD:FS:=(sSeq (sIf (eBl (b6 eqO (av 7) (ao (aE (.str [109,111,118,101,115])))))
  (bW 7 (aE (.str [109,111,118,101,115,97])))
  cU)
  (gX (pb 5 (aM 7))))
noncomputable def cz:FS:=(sSeq (bW 7 (aE (.str [])))
  (sSeq gv
  fD))
noncomputable def gw:FS:=(ky (dr (av 1)) (aB 6)
  cz)
noncomputable def fE:FS:=(gO (bx cV (ah (av 5) az)))
noncomputable def iQ:FS:=(sSeq (bW 2 (aE (.str [97,98,99,100,101,102,103,104,105,106,107,108,109,110,111,112,113,114,115,116,117,118,119,120,121,122])))
  (sSeq (bW 3 (aA cS (ao (aE (.int 1))) (ao (aA dF (av 0) (ao (aE (.int 8)))))))
  (sSeq (bW 4 (aA dF (ao (aA my (av 0) (ao (aE (.int 8))))) (av 3)))
  (sSeq (bW 5 (nF b5))
  (sSeq gw
  fE)))))
noncomputable def cp:List D→Res R:=fBody 2 8 iQ
noncomputable def bX:FS:=(sIf (eBl (b6 inP (av 3) (av 1)))
  (xA 1 (aM 5) (aE (.bl true)))
  cU)
noncomputable def eY:FS:=(ky (or2 (p7 (aM 0)) (or2 (eD (aM 0)) (eE (aM 0)))) (kl 3 (aK (aB 3) (aK (aB 4) (aK (aB 5) dX))))
  bX)
noncomputable def cK:FS:=eY
noncomputable def eZ:FS:=(ky (dr (ao (bx ft (ah (av 0) az)))) (aB 2)
  cK)
noncomputable def d4:FS:=(gO (mr 1))
noncomputable def gx:FS:=(sSeq (bW 1 (pw (aE (.int 0)) (aE (.bl true))))
  (sSeq eZ
  d4))
noncomputable def aZ:List D→Res R:=fBody 1 5 gx
noncomputable def cX:FS:=(sSeq (bW 8 (aA qw (ao (aA dF (ao (hW 0)) (ao (aA cS (ao (aA m7 (ao (aE (.int 2))) (av 7))) (ao (aE (.int 1))))))) (av 7)))
  (sSeq (bW 9 (aA cS (ao (bx maxD (ah (ao (aE (.int 0))) (ah (ao (aA qw (ao (aE (.int 0))) (av 8))) az)))) (ao (aA dF (ao (hW 0)) (ao (aE (.int 2)))))))
  (sSeq (bW 10 (aA qw (ao (bx Bh (ah (av 7) (ah (ao (aA qw (av 7) (av 8))) az)))) (ao (aA my (ao (aA dF (ao (hW 0)) (ao (aE (.int 4))))) (ao (aE (.int 3)))))))
  (gX (pb 6 (kB (aJ (aM 9) (aJ (aM 10) (aJ (aM 8) b5)))))))))
noncomputable def fF:FS:=(ky (or2 (p7 (aM 2)) (or2 (eD (aM 2)) (eE (aM 2)))) (aB 7)
  cX)
noncomputable def e7:FS:=(gX (pb 4 (aM 6)))
noncomputable def cb:FS:=(sSeq (bW 6 (nF b5))
  (sSeq fF
  e7))
noncomputable def fG:FS:=(ky (dr (av 1)) (aB 5)
  cb)
noncomputable def e8:FS:=(nO 0 (kB (aJ (aM 2) (aJ (aM 3) (aJ (aM 4) b5)))))
noncomputable def h9:FS:=(sSeq (bW 2 (nF (aJ (aA cS (ao (aE (.int 1))) (ao (aA dF (ao (hW 0)) (ao (aE (.int 3)))))) (aJ (aA dF (ao (hW 0)) (ao (aE (.int 2)))) b5))))
  (sSeq (bW 3 (kB (aJ (aA dF (ao (hW 0)) (ao (aA cS (ao (aA ixD (av 2) (ao (aE (.int 0))))) (ao (aE (.int 1)))))) (aJ (aA dF (ao (hW 0)) (ao (aA cS (ao (aA ixD (av 2) (ao (aE (.int 1))))) (ao (aE (.int 1)))))) b5))))
  (sSeq (bW 4 (nF b5))
  (sSeq fG
  e8))))
noncomputable def bp:Addr→List D→Res R:=iL 2 9 (.l .f) h9
noncomputable def dO:FS:=(sSeq (sIf (bOr (eBl (aA ltO (av 3) (ao (aA ixD (av 4) (ao (aE (.int 0))))))) (eBl (aA gtD (av 3) (ao (aA ixD (av 4) (ao (aE (.int 1))))))))
  (gO (aE .non))
  cU)
  (gX (pb 2 (aA cS (av 3) (ao (aA ixD (av 4) (ao (aE (.int 2)))))))))
noncomputable def ia:FS:=(ky (nL (ah (ao (aM 0)) (ah (ao (aM 1)) az))) (kl 2 (aK (aB 3) (aK (aB 4) dX)))
  dO)
noncomputable def gy:FS:=(gO (bx iI (ah (av 2) az)))
noncomputable def jW:FS:=(sSeq (bW 2 (nF b5))
  (sSeq ia
  gy))
noncomputable def cf:List D→Res R:=fBody 2 3 jW
noncomputable def cZ:FS:=(sSeq (bW 8 (cP cf (ah (ao (aA ixD (av 3) (av 5))) (ah (av 7) az))))
  (sIf (eBl (b6 isnO (av 8) (ao (aE .non))))
  (sSeq (sIf (eBl (b6 xK (av 8) (av 3)))
  (gX (pb 3 (aM 8)))
  cU)
  (gX (pb 4 (kB (aJ (aM 5) (aJ (aM 6) (aJ (BY nR (av 3) (ah (av 8) az)) b5)))))))
  cU))
noncomputable def iR:FS:=(ky (nL (ah (ao (aM 0)) (ah (ao (aM 2)) az))) (kl 2 (aK (aB 6) (aK (aB 7) dX)))
  cZ)
noncomputable def ib:FS:=(bW 5 (aA cS (av 5) (ao (aE (.int 1)))))
noncomputable def eP:FS:=(sSeq iR
  ib)
noncomputable def iS:FS:=(dE (eBl (aA ltO (av 5) (ao (bx ft (ah (av 3) az)))))
  eP 100000)
noncomputable def ic:FS:=(gO (bx cV (ah (av 4) az)))
noncomputable def kI:FS:=(sSeq (bW 3 (nF (aJ (aM 1) b5)))
  (sSeq (bW 4 (nF b5))
  (sSeq (bW 5 (aE (.int 0)))
  (sSeq iS
  ic))))
noncomputable def cM:List D→Res R:=fBody 3 6 kI
noncomputable def c5:FS:=(xA 3 (kB (aJ (aA dF (ao (hW 0)) (av 2)) (aJ (aA ixD (av 1) (ao (aA dF (ao (hW 0)) (ao (bx ft (ah (av 1) az)))))) (aJ (aA dF (ao (hW 0)) (av 2)) b5)))) (aE (.bl true)))
noncomputable def iT:FS:=(ky (dr (ao (aA dF (ao (hW 0)) (ao (aE (.int 4)))))) (aB 4)
  c5)
noncomputable def ie:FS:=(nO 0 (bx cV (ah (av 3) az)))
noncomputable def c6:FS:=(xA 3 (kB (aJ (aA dF (ao (hW 0)) (av 4)) (aJ (aA ixD (av 1) (ao (aA dF (ao (hW 0)) (ao (bx ft (ah (av 1) az)))))) (aJ (aM 4) b5)))) (aE (.bl true)))
noncomputable def iU:FS:=(ky (nE (ah (ao (aE (.int 1))) (ah (av 2) az))) (aB 4)
  c6)
noncomputable def ig:FS:=(sSeq iT
  ie)
noncomputable def kJ:FS:=(sSeq (bW 2 (aA cS (ao (aE (.int 1))) (ao (aA dF (ao (hW 0)) (ao (aE (.int 6)))))))
  (sSeq (bW 3 (eNewD true))
  (sSeq iU
  ig)))
noncomputable def de:Addr→List D→Res R:=iL 2 3 (.l .f) kJ
noncomputable def gH:FS:=(sSeq (bW 2 (aA cS (ao (aE (.int 1))) (ao (aA dF (ao (hW 0)) (ao (aE (.int 7)))))))
  (sSeq (bW 3 (pB (dr (av 2)) [none,some 1,some 0] 0 2 (aB 0) ik (kB (aJ (aM 0) (aJ (aA ixD (av 1) (ao (aA dF (ao (hW 2)) (ao (bx ft (ah (av 1) az)))))) (aJ (aA cS (av 0) (ao (aE (.int 1)))) b5))))))
  (sSeq (sIf (eBl (b6 eqO (ao (aA dF (ao (hW 0)) (ao (aE (.int 3))))) (ao (aE (.int 0)))))
  (gX (pb 3 (kB (aJ (aM 2) (aJ (aA ixD (av 1) (ao (aA dF (ao (hW 0)) (ao (bx ft (ah (av 1) az)))))) (aJ (aA dF (ao (hW 0)) (av 2)) b5))))))
  cU)
  (nO 0 (bx cV (ah (av 3) az))))))
noncomputable def cj:Addr→List D→Res R:=iL 2 2 (.l .f) gH
noncomputable def cA:FS:=(sIf (eBl (b6 neO (av 0) (ao (nF b5))))
  (sSeq (bW 3 (aA dF (av 2) (ao (bx ft (ah (av 0) az)))))
  (sSeq (bW 4 (aA cS (ao (vW (av 0) nG (lb (aM 3)))) (ao (vW (av 0) (lb (aA cS (av 3) (ao (aE (.int 1))))) nG))))
  (sIf (eBl (b6 eqO (ao (bx ft (ah (ao (cP aZ (ah (av 4) az))) az))) (ao (bx ft (ah (ao (cP aZ (ah (av 0) az))) az)))))
  (bW 0 (aM 4))
  cU)))
  cU)
noncomputable def gA:FS:=(ky (or2 (p7 (aM 1)) (or2 (eD (aM 1)) (eE (aM 1)))) (aB 2)
  cA)
noncomputable def fH:FS:=(gO (mr 0))
noncomputable def iV:FS:=(sSeq gA
  fH)
noncomputable def cq:List D→Res R:=fBody 2 3 iV
noncomputable def iW:FS:=(sSeq (bW 1 (cP cp (ah (ao (cP au (ah (av 0) (ah (ao (aE (.int 0))) az)))) (ah (ao (aA cS (ao (aE (.int 1))) (ao (aA dF (ao (cP au (ah (av 0) (ah (ao (aE (.int 1))) az)))) (ao (aE (.int 3))))))) az))))
  (sSeq (bW 2 (cP aY (ah (ao (cP au (ah (av 0) (ah (ao (aE (.int 2))) az)))) (ah (ao (aE (.int 40))) az))))
  (sSeq (bW 3 (aA dF (ao (cP au (ah (av 0) (ah (ao (aE (.int 3))) az)))) (ao (aE (.int 4)))))
  (sSeq (sIf (eBl (b6 eqO (av 3) (ao (aE (.int 0)))))
  (bW 4 (eFunW (.l .f) de 2 (ah (av 2) (ah (av 1) az))))
  (sIf (eBl (b6 eqO (av 3) (ao (aE (.int 1)))))
  (bW 4 (eFunW (.l .f) cj 2 (ah (av 2) (ah (av 1) az))))
  (sSeq (z9 (eFunW (.l .f) bp 2 (ah (av 2) (ah (ao (bx ft (ah (av 1) az))) az))) (kl 3 (aK (aB 5) (aK (aB 6) (aK (aB 7) dX)))))
  (sSeq (bW 4 (cP cM (ah (av 1) (ah (av 6) (ah (av 7) az)))))
  (sIf (eBl (b6 eqO (av 3) (ao (aE (.int 3)))))
  (bW 4 (cP cq (ah (av 4) (ah (ao (vW (av 0) (lb (aE (.int 4))) (lb (aE (.int 8))))) az))))
  cU)))))
  (gO (kB (aJ (bx iI (ah (av 1) az)) (aJ (aM 4) b5))))))))
noncomputable def cu:List D→Res R:=fBody 1 7 iW
noncomputable def fI:FS:=(gO (BO (eIs "int" (av 0)) (BP (eIs "bool" (av 0)))))
noncomputable def a9:List D→Res R:=fBody 1 0 fI
noncomputable def cN:FS:=(sSeq (sIf (bOr (uD (eBl (eIs "tuple" (av 2)))) (eBl (b6 neO (ao (bx ft (ah (av 2) az))) (av 1))))
  (gO (aE (.bl false)))
  cU)
  (sIf (eBl (aA gtD (ao (bx ft (ah (ao (gF (or2 (lr 2) (or2 (eD (aM 2)) (eE (aM 2)))) [none] (aB 0) (uD (eBl (cP a9 (ah (av 0) az)))) (aM 0))) az))) (ao (aE (.int 0)))))
  (gO (aE (.bl false)))
  cU))
noncomputable def e9:FS:=(ky (or2 (p7 (aM 0)) (or2 (eD (aM 0)) (eE (aM 0)))) (aB 2)
  cN)
noncomputable def d5:FS:=(gO (aE (.bl true)))
noncomputable def gB:FS:=(sSeq (sIf (uD (eBl (eIs "list" (av 0))))
  (gO (aE (.bl false)))
  cU)
  (sSeq e9
  d5))
noncomputable def bq:List D→Res R:=fBody 2 1 gB
noncomputable def iX:FS:=(gO (bx zW (ah (ao (gF (nL (ah (ao (aM 0)) (ah (ao (aM 1)) az))) [none,none] (kl 2 (aK (aB 0) (aK (aB 1) dX))) ik (aA m7 (av 0) (av 1)))) az)))
noncomputable def ba:List D→Res R:=fBody 2 0 iX
noncomputable def kK:FS:=(sSeq (bW 2 (gF (dr (ao (aE (.int 5)))) [none,some 0] (aB 0) ik (aA qw (ao (aA dF (ao (cP au (ah (av 1) (ah (ao (aA cS (ao (aE (.int 9))) (av 0))) az)))) (ao (aA qx (ao (aE (.int 10))) (ao (aE (.int 30))))))) (ao (aA qx (ao (aE (.int 10))) (ao (aE (.int 29))))))))
  (sSeq (sIf (bOr (eBl (aA ltO (ao (aA dF (ao (cP au (ah (av 0) (ah (ao (aE (.int 3))) az)))) (ao (aE (.int 4))))) (ao (aE (.int 2))))) (eBl (b6 eqO (ao (aA dF (ao (cP au (ah (av 0) (ah (ao (aE (.int 8))) az)))) (ao (aE (.int 3))))) (ao (aE (.int 0))))))
  (gO (vW (av 2) nG (lb (bx ft (ah (av 1) az)))))
  cU)
  (sSeq (sIf (eBl (b6 eqO (ao (aA dF (ao (cP au (ah (av 0) (ah (ao (aE (.int 8))) az)))) (ao (aE (.int 3))))) (ao (aE (.int 1)))))
  (sr 2 (aE (.int 4)) (aE (.int 0)))
  cU)
  (sSeq (bW 3 (aA ixD (ao (xN (.l .f) bp (cP aY (ah (ao (cP au (ah (av 0) (ah (ao (aE (.int 2))) az)))) (ah (ao (aE (.int 40))) az))) (ah (ao (bx ft (ah (av 1) az))) az))) (ao (aE (.int 2)))))
  (gO (gF (or2 (lr 3) (or2 (eD (aM 3)) (eE (aM 3)))) [none,some 2] (aB 0) ik (aA cS (ao (aA m7 (ao (aA ixD (av 1) (ao (aE (.int 3))))) (ao (aA ixD (ao (aA ixD (av 0) (ao (aE (.int 0))))) (ao (aE (.int 2))))))) (ao (aA m7 (ao (aA ixD (av 1) (ao (aE (.int 4))))) (ao (aA ixD (ao (aA ixD (av 0) (ao (aE (.int 1))))) (ao (aE (.int 2))))))))))))))
noncomputable def df:List D→Res R:=fBody 2 2 kK
noncomputable def jm:FS:=(sIf (eBl (b6 neO (ao (aA cS (ao (aA ixD (av 6) (av 8))) (ao (aA ixD (av 2) (ao (Ag qb (ao (aA ixD (av 1) (ao (aE (.int 0))))) (ah (av 9) az))))))) (ao (aA ixD (av 6) (av 10)))))
  (bW 7 (aE (.bl false)))
  cU)
noncomputable def sv:FS:=(ky (or2 (p7 (aA ixD (av 1) (ao (aE (.int 1))))) (or2 (eD (aA ixD (av 1) (ao (aE (.int 1))))) (eE (aA ixD (av 1) (ao (aE (.int 1))))))) (kl 3 (aK (aB 8) (aK (aB 9) (aK (aB 10) dX))))
  jm)
noncomputable def pC:FS:=(gO (b6 eqO (av 5) (av 7)))
noncomputable def Am:FS:=(sSeq (bW 1 (cP cu (ah (av 0) az)))
  (sSeq (bW 2 (cP df (ah (av 0) (ah (ao (aA ixD (av 1) (ao (aE (.int 0))))) az))))
  (sSeq (bW 3 (cP c9 (ah (ao (kB (aJ (aA ixD (av 1) (ao (aE (.int 0)))) (aJ (bx p9 (ah (ao (aA ixD (av 1) (ao (aE (.int 1))))) az)) b5)))) az)))
  (sSeq (bW 4 (cP cJ (ah (ao (kB (aJ (aA ixD (av 1) (ao (aE (.int 0)))) (aJ (bx p9 (ah (ao (aA ixD (av 1) (ao (aE (.int 1))))) az)) b5)))) az)))
  (sSeq (sIf (bOr (uD (eBl (cP bq (ah (av 3) (ah (ao (bx ft (ah (ao (aA ixD (av 1) (ao (aE (.int 0))))) az))) az))))) (uD (eBl (cP bq (ah (av 4) (ah (ao (bx ft (ah (ao (aA ixD (av 1) (ao (aE (.int 0))))) az))) az))))))
  (gO (aE (.bl false)))
  cU)
  (sSeq (bW 5 (b6 eqO (ao (bx ft (ah (ao (gF (or2 (lr 3) (or2 (eD (aM 3)) (eE (aM 3)))) [none,some 2] (aB 0) (eBl (b6 neO (ao (cP ba (ah (av 0) (ah (av 1) az)))) (ao (aE (.int 0))))) (aM 0))) az))) (ao (aE (.int 0)))))
  (sSeq (bW 6 (gF (or2 (lr 4) (or2 (eD (aM 4)) (eE (aM 4)))) [none,some 2] (aB 0) ik (cP ba (ah (av 0) (ah (av 1) az)))))
  (sSeq (bW 7 (aE (.bl true)))
  (sSeq sv
  pC)))))))))
noncomputable def xP:List D→Res R:=fBody 1 10 Am
end LW
namespace LW
open PySem PySem.Spec PyProof.Rows L2 NX PV
theorem v7 {α:Type} {Q:List α→Prop} (h:∀ a,Q [a]):∀ us,us.length=1→Q us
 | [a],_=>h a
theorem qe {α:Type} {Q:List α→Prop} (h:∀ a b,Q [a,b]):∀ us,us.length=2→Q us
 | [a,b],_=>h a b
theorem Du {α:Type} {Q:List α→Prop} (h:∀ a b c,Q [a,b,c]):∀ us,us.length=3→Q us
 | [a,b,c],_=>h a b c
noncomputable def top (i:Nat):Stmt:=PySem.Challenge.pw_netfinder_k34_rings_and_arcs.main.body.getD i (.Pass ⟨0,0,0,0⟩)
theorem Dv:Str.ofString "moves" = S [109,111,118,101,115]:=by decide +kernel
theorem Dw:Str.ofString "movesa" = S [109,111,118,101,115,97]:=by decide +kernel
theorem Dx:Str.ofString "" = S []:=by decide +kernel
theorem Dy:Str.ofString "abcdefghijklmnopqrstuvwxyz" = S [97,98,99,100,101,102,103,104,105,106,107,108,109,110,111,112,113,114,115,116,117,118,119,120,121,122]:=by decide +kernel
section
variable {P:Program} {w:World} {K:W.Frag} {mg:Str→Option Value} {base:Heap}
abbrev gI:Stmt:=top 1
theorem mO:FnScope ["chart"] ["chart"] (defScope gI):=⟨rfl,rfl,rfl,by decide +kernel,rfl,by decide +kernel,by decide +kernel⟩
theorem mP (Df:Def K mg "states_of" gI) (z_max:mg "max" = none):Ct P w K mg base "states_of" 1 (spF K cI):=
 eF Df mO (fun _ _ _ _ _ _=>v7 fun _=>rfl) fun f cdv A outer s H E hr=>
  (aw (bJ (aI aS (ae aq) (ae (xw rfl (by rfl) z_max (cQ [none,none,none] ["first","move","second"] rfl (cY (du (dM (aX (ag (pv 0)) (ae aq))) (du (dn (aX (ag (pv 0)) (ae aq))) (dq (aX (ag (pv 0)) (ae aq)))))) (fun _ _ _ _ _=>(gY rfl (aR (aF (i:=0) (show List.Nodup (["first","move","second"]:List Str) from by decide +kernel) rfl (lo rfl)) (aR (aF (i:=1) (show List.Nodup (["first","move","second"]:List Str) from by decide +kernel) rfl (lo rfl)) (aR (aF (i:=2) (show List.Nodup (["first","move","second"]:List Str) from by decide +kernel) rfl (lo rfl)) eC))))) (fun _ _ _ _ _=>dN) (fun _ _ _ _ _=>(aN (vR rfl) (by rfl) z_max vU (af (ag (pv 0)) (af (ag (pv 2)) ar))))) aq)))))
abbrev jX:Stmt:=top 2
theorem dg:FnScope ["arcs","met","tree","looked_at","arc"] ["arcs"] (defScope jX):=⟨rfl,rfl,rfl,by decide +kernel,rfl,by decide +kernel,by decide +kernel⟩
theorem qf (Df:Def K mg "tree_of" jX) (z_len:mg "len" = none):Ct P w K mg base "tree_of" 1 (spF K bQ):=
 eF Df dg (fun _ _ _ _ _ _=>v7 fun _=>rfl) fun f cdv A outer s H E hr=>
  (ai (aH (i:=1) dg.nd rfl (lo rfl) (eW (aD aq aW)))
  (ai (aH (i:=2) dg.nd rfl (lo rfl) (eW aW))
  (ai (aH (i:=3) dg.nd rfl (lo rfl) aq)
  (ai (o5 100000 PassesOwn.never (jC (mE hr.units0) (ag (pv 3)) (ae (aN bP (by rfl) z_len bt_len (af (ag (pv 1)) ar))) (bR _))
  (ai (cR PassesOwn.never rfl (du (dM (ax (pv 0))) (du (dn (ax (pv 0))) (dq (ax (pv 0))))) (aF (i:=4) dg.nd rfl (lo rfl))
  (aw (dC (QW.qt (zM (bO (i8 hr.units) (ae (aX (ag (pv 4)) (ae aq))) (ae (aX (ag (pv 1)) (ag (pv 3)))) (bR _)) (xp (bO (nN hr.u65) (ae (aX (ag (pv 4)) (ae aq))) (ag (pv 1)) (by with_unfolding_all rfl)))))
  (ai (dm (bU (pv 1) (aX (ag (pv 4)) (ae aq))))
  (aw (dm (bU (pv 2) (ax (pv 4))))))
  bI)))
  (aw (aH (i:=3) dg.nd rfl (lo rfl) (aI aS (ag (pv 3)) (ae aq))))))
  (aw (bJ (jB (pv 2))))))))
abbrev sx:Stmt:=top 4
theorem xQ:FnScope ["row","other"] ["row","other"] (defScope sx):=⟨rfl,rfl,rfl,by decide +kernel,rfl,by decide +kernel,by decide +kernel⟩
theorem xR (Df:Def K mg "less" sx) (z_tuple:mg "tuple" = none) (z_zip:mg "zip" = none):Ct P w K mg base "less" 1 (spF K jT):=
 eF Df xQ (fun _ _ _ _ _ _=>qe fun _ _=>rfl) fun f cdv A outer s H E hr=>
  (aw (bJ (dW jj (by rfl) z_tuple gQ (af (ae (cQ [none,none] ["number","taken"] rfl (cY (lu (by rfl) z_zip (af (ae (ax (pv 0))) (af (ae (ax (pv 1))) ar)))) (fun _ _ _ _ _=>(gY rfl (aR (aF (i:=0) (show List.Nodup (["number","taken"]:List Str) from by decide +kernel) rfl (lo rfl)) (aR (aF (i:=1) (show List.Nodup (["number","taken"]:List Str) from by decide +kernel) rfl (lo rfl)) eC)))) (fun _ _ _ _ _=>dN) (fun _ _ _ _ _=>(aI kA (ag (pv 0)) (ag (pv 1)))))) ar))))
abbrev jY:Stmt:=top 6
theorem d6:FnScope ["chart","ways","first","move","second"] ["chart"] (defScope jY):=⟨rfl,rfl,rfl,by decide +kernel,rfl,by decide +kernel,by decide +kernel⟩
theorem qg (Df:Def K mg "ways_of" jY) (C_states_of:Ct P w K mg base "states_of" 1 (spF K cI)) (C_tree_of:Ct P w K mg base "tree_of" 1 (spF K bQ)) (z_range:mg "range" = none):Ct P w K mg base "ways_of" 2 (spF K bK):=
 eF Df d6 (fun _ _ _ _ _ _=>v7 fun _=>rfl) fun f cdv A outer s H E hr=>
  (ai (aH (i:=1) d6.nd rfl (lo rfl) (px aq (dG aW)))
  (ai (cR PassesOwn.never rfl (du (dM (aQ C_tree_of (hr.mono (by decide)) (by rfl) (af (ae (aX (ag (pv 0)) (ae aq))) ar))) (du (dn (aQ C_tree_of (hr.mono (by decide)) (by rfl) (af (ae (aX (ag (pv 0)) (ae aq))) ar))) (dq (aQ C_tree_of (hr.mono (by decide)) (by rfl) (af (ae (aX (ag (pv 0)) (ae aq))) ar))))) (gY rfl (aR (aF (i:=2) d6.nd rfl (lo rfl)) (aR (aF (i:=3) d6.nd rfl (lo rfl)) (aR (aF (i:=4) d6.nd rfl (lo rfl)) eC))))
  (aw (pf (hu_of hr) (pv 1) (ax (pv 4)) (aI aS (ae (Ah (hu_of hr) (ag (pv 1)) (ag (pv 2)))) (ae (dG (aD (ax (pv 3)) aW)))))))
  (aw (bJ (cQ [none,some 1] ["state","ways"] rfl (cY (cw (by rfl) z_range (ae (aQ C_states_of (hr.mono (by decide)) (by rfl) (af (ag (pv 0)) ar))))) (fun _ _ _ _ _=>(aF (i:=0) (show List.Nodup (["state","ways"]:List Str) from by decide +kernel) rfl (lo rfl))) (fun _ _ _ _ _=>dN) (fun _ _ _ _ _=>(Ah (hu_of hr) (ag (pv 1)) (ag (pv 0)))))))))
abbrev jZ:Stmt:=top 7
theorem qh:FnScope ["moves","way"] ["moves","way"] (defScope jZ):=⟨rfl,rfl,rfl,by decide +kernel,rfl,by decide +kernel,by decide +kernel⟩
theorem qi (Df:Def K mg "counted" jZ) (z_tuple:mg "tuple" = none):Ct P w K mg base "counted" 1 (spF K b7):=
 eF Df qh (fun _ _ _ _ _ _=>qe fun _ _=>rfl) fun f cdv A outer s H E hr=>
  (aw (bJ (dW jj (by rfl) z_tuple gQ (af (ae (cQ [none,some 1] ["move","way"] rfl (gr (jN (pv 0)) (gr (cY (dn (ax (pv 0)))) (cY (dq (ax (pv 0)))))) (fun _ _ _ _ _=>(aF (i:=0) (show List.Nodup (["move","way"]:List Str) from by decide +kernel) rfl (lo rfl))) (fun _ _ _ _ _=>dN) (fun _ _ _ _ _=>(vX PySem.F.slot_tuple_count PySem.F.type_tuple_count nJ (ag (pv 1)) (af (ag (pv 0)) ar))))) ar))))
abbrev gJ:Stmt:=top 8
theorem mQ:FnScope ["chart"] ["chart"] (defScope gJ):=⟨rfl,rfl,rfl,by decide +kernel,rfl,by decide +kernel,by decide +kernel⟩
theorem mR (Df:Def K mg "counts_of" gJ) (C_counted:Ct P w K mg base "counted" 1 (spF K b7)) (C_ways_of:Ct P w K mg base "ways_of" 2 (spF K bK)):Ct P w K mg base "counts_of" 3 (spF K cJ):=
 eF Df mQ (fun _ _ _ _ _ _=>v7 fun _=>rfl) fun f cdv A outer s H E hr=>
  (aw (bJ (cQ [none,some 0] ["way","chart"] rfl (cY (du (dM (aQ C_ways_of (hr.mono (by decide)) (by rfl) (af (ag (pv 0)) ar))) (du (dn (aQ C_ways_of (hr.mono (by decide)) (by rfl) (af (ag (pv 0)) ar))) (dq (aQ C_ways_of (hr.mono (by decide)) (by rfl) (af (ag (pv 0)) ar)))))) (fun _ _ _ _ _=>(aF (i:=0) (show List.Nodup (["way","chart"]:List Str) from by decide +kernel) rfl (lo rfl))) (fun _ _ _ _ _=>dN) (fun _ _ _ _ _=>(aQ C_counted (hr.mono (by decide)) (by rfl) (af (ae (aX (ag (pv 1)) (ae aq))) (af (ag (pv 0)) ar)))))))
abbrev iy:Stmt:=top 9
theorem dw:FnScope ["chart","ways","tree","rings","arc"] ["chart"] (defScope iy):=⟨rfl,rfl,rfl,by decide +kernel,rfl,by decide +kernel,by decide +kernel⟩
theorem nV (Df:Def K mg "rings_of" iy) (C_counted:Ct P w K mg base "counted" 1 (spF K b7)) (C_less:Ct P w K mg base "less" 1 (spF K jT)) (C_tree_of:Ct P w K mg base "tree_of" 1 (spF K bQ)) (C_ways_of:Ct P w K mg base "ways_of" 2 (spF K bK)):Ct P w K mg base "rings_of" 3 (spF K c9):=
 eF Df dw (fun _ _ _ _ _ _=>v7 fun _=>rfl) fun f cdv A outer s H E hr=>
  (ai (aH (i:=1) dw.nd rfl (lo rfl) (aQ C_ways_of (hr.mono (by decide)) (by rfl) (af (ag (pv 0)) ar)))
  (ai (aH (i:=2) dw.nd rfl (lo rfl) (aQ C_tree_of (hr.mono (by decide)) (by rfl) (af (ae (aX (ag (pv 0)) (ae aq))) ar)))
  (ai (aH (i:=3) dw.nd rfl (lo rfl) (eW aW))
  (ai (cR PassesOwn.never rfl (du (dM (aX (ag (pv 0)) (ae aq))) (du (dn (aX (ag (pv 0)) (ae aq))) (dq (aX (ag (pv 0)) (ae aq))))) (aF (i:=4) dw.nd rfl (lo rfl))
  (aw (dC (bO (nN hr.u65) (ag (pv 4)) (ag (pv 2)) (by with_unfolding_all rfl))
  (aw (dm (bU (pv 3) (aQ C_less (hr.mono (by decide)) (by rfl) (af (ae (aQ C_counted (hr.mono (by decide)) (by rfl) (af (ae (aX (ag (pv 0)) (ae aq))) (af (ae (aI aS (ae (aX (ag (pv 1)) (ae (aX (ag (pv 4)) (ae aq))))) (ae (dG (aD (aX (ag (pv 4)) (ae aq)) aW))))) ar)))) (af (ae (aQ C_counted (hr.mono (by decide)) (by rfl) (af (ae (aX (ag (pv 0)) (ae aq))) (af (ae (aX (ag (pv 1)) (ae (aX (ag (pv 4)) (ae aq))))) ar)))) ar))))))
  bI)))
  (aw (bJ (jB (pv 3))))))))
abbrev dP:Stmt:=top 11
theorem j0:FnScope ["_law_script","_law_k"] ["_law_script","_law_k"] (defScope dP):=⟨rfl,rfl,rfl,by decide +kernel,rfl,by decide +kernel,by decide +kernel⟩
theorem j3 (Df:Def K mg "_law_cell_at" dP) (z_len:mg "len" = none):Ct P w K mg base "_law_cell_at" 1 (spF K au):=
 eF Df j0 (fun _ _ _ _ _ _=>qe fun _ _=>rfl) fun f cdv A outer s H E hr=>
  (ai (dC (jC (mE hr.units0) (ag (pv 1)) (ae (aN bP (by rfl) z_len bt_len (af (ag (pv 0)) ar))) (bR _))
  (aw (bJ (aX (ag (pv 0)) (ag (pv 1)))))
  bI)
  (aw (bJ aq)))
abbrev eQ:Stmt:=top 12
theorem b8:FnScope ["_law_cell","_law_count","_law_found","_law_x","_law_k"] ["_law_cell","_law_count"] (defScope eQ):=⟨rfl,rfl,rfl,by decide +kernel,rfl,by decide +kernel,by decide +kernel⟩
theorem kn (Df:Def K mg "_law_stream" eQ) (z_range:mg "range" = none):Ct P w K mg base "_law_stream" 1 (spF K aY):=
 eF Df b8 (fun _ _ _ _ _ _=>qe fun _ _=>rfl) fun f cdv A outer s H E hr=>
  (ai (aH (i:=2) b8.nd rfl (lo rfl) (eW aW))
  (ai (aH (i:=3) b8.nd rfl (lo rfl) (aI aS (ae (aI bz (ag (pv 0)) (ae aq))) (ae aq)))
  (ai (cR PassesOwn.never rfl (cw (by rfl) z_range (ag (pv 1))) (aF (i:=4) b8.nd rfl (lo rfl))
  (ai (aH (i:=3) b8.nd rfl (lo rfl) (aI bz (ae (aI aS (ae (aI aS (ae (aI aS (ae (aI fu (ag (pv 3)) (ag (pv 3)))) (ae (aI fu (ae aq) (ag (pv 3)))))) (ae (aI fu (ae aq) (ag (pv 4)))))) (ae aq))) (ae aq)))
  (aw (dm (bU (pv 2) (aI k9 (ag (pv 3)) (ae aq)))))))
  (aw (bJ (jB (pv 2)))))))
abbrev fJ:Stmt:=top 13
theorem aO:FnScope ["_law_cell","_law_count","_law_letters","_law_long","_law_spot","_law_listed","_law_k","_law_name","_law_j","_law_step"] ["_law_cell","_law_count"] (defScope fJ):=⟨rfl,rfl,rfl,by decide +kernel,rfl,by decide +kernel,by decide +kernel⟩
theorem lx (Df:Def K mg "_law_names" fJ) (z_range:mg "range" = none) (z_sorted:mg "sorted" = none):Ct P w K mg base "_law_names" 1 (spF K cp):=
 eF Df aO (fun _ _ _ _ _ _=>qe fun _ _=>rfl) fun f cdv A outer s H E hr=>
  (ai (aH (i:=2) aO.nd rfl (lo rfl) (o3 Dy (by decide)))
  (ai (aH (i:=3) aO.nd rfl (lo rfl) (aI aS (ae aq) (ae (aI bz (ag (pv 0)) (ae aq)))))
  (ai (aH (i:=4) aO.nd rfl (lo rfl) (aI bz (ae (aI k9 (ag (pv 0)) (ae aq))) (ag (pv 3))))
  (ai (aH (i:=5) aO.nd rfl (lo rfl) (eW aW))
  (ai (cR PassesOwn.never rfl (cw (by rfl) z_range (ag (pv 1))) (aF (i:=6) aO.nd rfl (lo rfl))
  (ai (aH (i:=7) aO.nd rfl (lo rfl) (o3 Dx (by decide)))
  (ai (cR PassesOwn.never rfl (cw (by rfl) z_range (ag (pv 3))) (aF (i:=8) aO.nd rfl (lo rfl))
  (ai (aH (i:=9) aO.nd rfl (lo rfl) (aI aS (ae (aI k9 (ag (pv 0)) (ae (aI aS (ag (pv 8)) (ae aq))))) (ae (aI fu (ag (pv 8)) (ag (pv 8))))))
  (ai (dC (bO (i8 hr.units) (ag (pv 8)) (ag (pv 4)) (bR _))
  (aw (aH (i:=9) aO.nd rfl (lo rfl) (aI aS (ag (pv 9)) (ag (pv 6)))))
  bI)
  (aw (aH (i:=7) aO.nd rfl (lo rfl) (aI aS (ag (pv 7)) (ae (aX (ag (pv 2)) (ae (aI bz (ag (pv 9)) (ae aq)))))))))))
  (ai (dC (bO (i8 hr.units) (ag (pv 7)) (ae (o3 Dv (by decide))) (bR _))
  (aw (aH (i:=7) aO.nd rfl (lo rfl) (o3 Dw (by decide))))
  bI)
  (aw (dm (bU (pv 5) (ax (pv 7)))))))))
  (aw (bJ (aN (hJ rfl) (by rfl) z_sorted hU (af (ag (pv 5)) ar)))))))))
abbrev dQ:Stmt:=top 14
theorem bL:FnScope ["_law_arcs","_law_there","_law_k","_law_one","_law_move","_law_other"] ["_law_arcs"] (defScope dQ):=⟨rfl,rfl,rfl,by decide +kernel,rfl,by decide +kernel,by decide +kernel⟩
theorem j4 (Df:Def K mg "_law_come_to" dQ) (z_len:mg "len" = none) (z_range:mg "range" = none):Ct P w K mg base "_law_come_to" 1 (spF K aZ):=
 eF Df bL (fun _ _ _ _ _ _=>v7 fun _=>rfl) fun f cdv A outer s H E hr=>
  (ai (aH (i:=1) bL.nd rfl (lo rfl) (px aq jA))
  (ai (cR PassesOwn.never rfl (cw (by rfl) z_range (ae (aN bP (by rfl) z_len bt_len (af (ag (pv 0)) ar)))) (aF (i:=2) bL.nd rfl (lo rfl))
  (aw (cR PassesOwn.never rfl (du (dM (ax (pv 0))) (du (dn (ax (pv 0))) (dq (ax (pv 0))))) (gY rfl (aR (aF (i:=3) bL.nd rfl (lo rfl)) (aR (aF (i:=4) bL.nd rfl (lo rfl)) (aR (aF (i:=5) bL.nd rfl (lo rfl)) eC))))
  (aw (dC (bO (Ai hr.u65) (ag (pv 3)) (ag (pv 1)) (by with_unfolding_all rfl))
  (aw (pf (hu_of hr) (pv 1) (ax (pv 5)) jA))
  bI)))))
  (aw (bJ (jB (pv 1))))))
abbrev eR:Stmt:=top 15
theorem aP:FnScope ["_law_xs","_law_count","_law_tops","_law_start","_law_guards_here","_law_k","_law_sides","_law_most","_law_change","_law_low","_law_high"] ["_law_xs","_law_count"] (defScope eR):=⟨rfl,rfl,rfl,by decide +kernel,rfl,by decide +kernel,by decide +kernel⟩
theorem ko (Df:Def K mg "_law_guards" eR) (z_max:mg "max" = none) (z_min:mg "min" = none) (z_range:mg "range" = none):Ct P w K mg base "_law_guards" 1 (spM K (.l .f) bp):=
 su Df aP (fun _ _ _ _ _ _=>qe fun _ _=>rfl) fun f cdv A outer s H E hr=>
  (ai (aH (i:=2) aP.nd rfl (lo rfl) (eW (aD (aI aS (ae aq) (ae (aI bz (ae (cx (pv 0))) (ae aq)))) (aD (aI bz (ae (cx (pv 0))) (ae aq)) aW))))
  (ai (aH (i:=3) aP.nd rfl (lo rfl) (dG (aD (aI bz (ae (cx (pv 0))) (ae (aI aS (ae (aX (ag (pv 2)) (ae aq))) (ae aq)))) (aD (aI bz (ae (cx (pv 0))) (ae (aI aS (ae (aX (ag (pv 2)) (ae aq))) (ae aq)))) aW))))
  (ai (aH (i:=4) aP.nd rfl (lo rfl) (eW aW))
  (ai (cR PassesOwn.never rfl (cw (by rfl) z_range (ag (pv 1))) (aF (i:=5) aP.nd rfl (lo rfl))
  (ai (aH (i:=6) aP.nd rfl (lo rfl) (eW aW))
  (ai (cR PassesOwn.never rfl (du (dM (ax (pv 2))) (du (dn (ax (pv 2))) (dq (ax (pv 2))))) (aF (i:=7) aP.nd rfl (lo rfl))
  (ai (aH (i:=8) aP.nd rfl (lo rfl) (aI kA (ae (aI bz (ae (cx (pv 0))) (ae (aI aS (ae (aI fu (ae aq) (ag (pv 7)))) (ae aq))))) (ag (pv 7))))
  (ai (aH (i:=9) aP.nd rfl (lo rfl) (aI aS (ae (aN (vR rfl) (by rfl) z_max vU (af (ae aq) (af (ae (aI kA (ae aq) (ag (pv 8)))) ar)))) (ae (aI bz (ae (cx (pv 0))) (ae aq)))))
  (ai (aH (i:=10) aP.nd rfl (lo rfl) (aI kA (ae (aN (Ae rfl) (by rfl) z_min Ab (af (ag (pv 7)) (af (ae (aI kA (ag (pv 7)) (ag (pv 8)))) ar)))) (ae (aI k9 (ae (aI bz (ae (cx (pv 0))) (ae aq))) (ae aq)))))
  (aw (dm (bU (pv 6) (dG (aD (ax (pv 9)) (aD (ax (pv 10)) (aD (ax (pv 8)) aW)))))))))))
  (aw (dm (bU (pv 4) (ax (pv 6))))))))
  (aw (nP (i:=0) (dG (aD (ax (pv 2)) (aD (ax (pv 3)) (aD (ax (pv 4)) aW))))))))))
abbrev gK:Stmt:=top 16
theorem dJ:FnScope ["_law_spot","_law_sides","_law_there","_law_number","_law_side"] ["_law_spot","_law_sides"] (defScope gK):=⟨rfl,rfl,rfl,by decide +kernel,rfl,by decide +kernel,by decide +kernel⟩
theorem mS (Df:Def K mg "_law_gone" gK) (z_tuple:mg "tuple" = none) (z_zip:mg "zip" = none):Ct P w K mg base "_law_gone" 1 (spF K cf):=
 eF Df dJ (fun _ _ _ _ _ _=>qe fun _ _=>rfl) fun f cdv A outer s H E hr=>
  (ai (aH (i:=2) dJ.nd rfl (lo rfl) (eW aW))
  (ai (cR PassesOwn.never rfl (lu (by rfl) z_zip (af (ae (ax (pv 0))) (af (ae (ax (pv 1))) ar))) (gY rfl (aR (aF (i:=3) dJ.nd rfl (lo rfl)) (aR (aF (i:=4) dJ.nd rfl (lo rfl)) eC)))
  (ai (dC (QW.qt (uE (jC (mE hr.units0) (ag (pv 3)) (ae (aX (ag (pv 4)) (ae aq))) (bR _)) (o4 (jC zT (ag (pv 3)) (ae (aX (ag (pv 4)) (ae aq))) (bR _)))))
  (aw (bJ vN))
  bI)
  (aw (dm (bU (pv 2) (aI aS (ag (pv 3)) (ae (aX (ag (pv 4)) (ae aq)))))))))
  (aw (bJ (dW jj (by rfl) z_tuple gQ (af (ag (pv 2)) ar))))))
abbrev iz:Stmt:=top 17
theorem bV:FnScope ["_law_names_here","_law_start","_law_guards_here","_law_spots","_law_arcs","_law_done","_law_name","_law_sides","_law_there"] ["_law_names_here","_law_start","_law_guards_here"] (defScope iz):=⟨rfl,rfl,rfl,by decide +kernel,rfl,by decide +kernel,by decide +kernel⟩
theorem nW (Df:Def K mg "_law_run" iz) (C__law_gone:Ct P w K mg base "_law_gone" 1 (spF K cf)) (z_len:mg "len" = none) (z_sorted:mg "sorted" = none) (z_zip:mg "zip" = none):Ct P w K mg base "_law_run" 2 (spF K cM):=
 eF Df bV (fun _ _ _ _ _ _=>Du fun _ _ _=>rfl) fun f cdv A outer s H E hr=>
  (ai (aH (i:=3) bV.nd rfl (lo rfl) (eW (aD (ax (pv 1)) aW)))
  (ai (aH (i:=4) bV.nd rfl (lo rfl) (eW aW))
  (ai (aH (i:=5) bV.nd rfl (lo rfl) aq)
  (ai (o5 100000 PassesOwn.never (jC (mE hr.units0) (ag (pv 5)) (ae (aN bP (by rfl) z_len bt_len (af (ag (pv 3)) ar))) (bR _))
  (ai (cR PassesOwn.never rfl (lu (by rfl) z_zip (af (ae (ax (pv 0))) (af (ae (ax (pv 2))) ar))) (gY rfl (aR (aF (i:=6) bV.nd rfl (lo rfl)) (aR (aF (i:=7) bV.nd rfl (lo rfl)) eC)))
  (ai (aH (i:=8) bV.nd rfl (lo rfl) (aQ C__law_gone (hr.mono (by decide)) (by rfl) (af (ae (aX (ag (pv 3)) (ag (pv 5)))) (af (ag (pv 7)) ar))))
  (aw (dC (bO z0 (ag (pv 8)) (ae vN) (bR _))
  (ai (dC (bO (nN hr.u65) (ag (pv 8)) (ag (pv 3)) (by with_unfolding_all rfl))
  (aw (dm (bU (pv 3) (ax (pv 8)))))
  bI)
  (aw (dm (bU (pv 4) (dG (aD (ax (pv 5)) (aD (ax (pv 6)) (aD (Al PySem.F.slot_list_index PySem.F.type_list_index (nS hr.u65) (ag (pv 3)) (af (ag (pv 8)) ar)) aW))))))))
  bI))))
  (aw (aH (i:=5) bV.nd rfl (lo rfl) (aI aS (ag (pv 5)) (ae aq))))))
  (aw (bJ (aN (hJ rfl) (by rfl) z_sorted hU (af (ag (pv 4)) ar))))))))
abbrev iA:Stmt:=top 18
theorem dy:FnScope ["_law_xs","_law_names_here","_law_many","_law_arcs","_law_k"] ["_law_xs","_law_names_here"] (defScope iA):=⟨rfl,rfl,rfl,by decide +kernel,rfl,by decide +kernel,by decide +kernel⟩
theorem nX (Df:Def K mg "_law_few" iA) (z_len:mg "len" = none) (z_range:mg "range" = none) (z_sorted:mg "sorted" = none):Ct P w K mg base "_law_few" 1 (spM K (.l .f) de):=
 su Df dy (fun _ _ _ _ _ _=>qe fun _ _=>rfl) fun f cdv A outer s H E hr=>
  (ai (aH (i:=2) dy.nd rfl (lo rfl) (aI aS (ae aq) (ae (aI bz (ae (cx (pv 0))) (ae aq)))))
  (ai (aH (i:=3) dy.nd rfl (lo rfl) xy)
  (ai (cR PassesOwn.never rfl (rU (by rfl) z_range (af (ae aq) (af (ag (pv 2)) ar))) (aF (i:=4) dy.nd rfl (lo rfl))
  (aw (pf (hu_of hr) (pv 3) (dG (aD (aI bz (ae (cx (pv 0))) (ag (pv 4))) (aD (aX (ag (pv 1)) (ae (aI bz (ae (cx (pv 0))) (ae (aN bP (by rfl) z_len bt_len (af (ag (pv 1)) ar)))))) (aD (ax (pv 4)) aW)))) jA)))
  (ai (cR PassesOwn.never rfl (cw (by rfl) z_range (ae (aI bz (ae (cx (pv 0))) (ae aq)))) (aF (i:=4) dy.nd rfl (lo rfl))
  (aw (pf (hu_of hr) (pv 3) (dG (aD (aI bz (ae (cx (pv 0))) (ag (pv 2))) (aD (aX (ag (pv 1)) (ae (aI bz (ae (cx (pv 0))) (ae (aN bP (by rfl) z_len bt_len (af (ag (pv 1)) ar)))))) (aD (aI bz (ae (cx (pv 0))) (ag (pv 2))) aW)))) jA)))
  (aw (nP (i:=0) (aN (hJ rfl) (by rfl) z_sorted hU (af (ag (pv 3)) ar))))))))
abbrev gL:Stmt:=top 19
theorem fK:FnScope ["_law_xs","_law_names_here","_law_long","_law_arcs"] ["_law_xs","_law_names_here"] (defScope gL):=⟨rfl,rfl,rfl,by decide +kernel,rfl,by decide +kernel,by decide +kernel⟩
theorem mT (Df:Def K mg "_law_word" gL) (z_len:mg "len" = none) (z_range:mg "range" = none) (z_sorted:mg "sorted" = none):Ct P w K mg base "_law_word" 1 (spM K (.l .f) cj):=
 su Df fK (fun _ _ _ _ _ _=>qe fun _ _=>rfl) fun f cdv A outer s H E hr=>
  (ai (aH (i:=2) fK.nd rfl (lo rfl) (aI aS (ae aq) (ae (aI bz (ae (cx (pv 0))) (ae aq)))))
  (ai (uQ (i:=3) (j:=0) (k0:=2) [none,some 1,some 0] ["_law_k","_law_names_here","_law_xs"] fK.nd rfl (lo rfl) rfl (cw (by rfl) z_range (ag (pv 2))) (fun _ _ _ _ _=>(aF (i:=0) (show List.Nodup (["_law_k","_law_names_here","_law_xs"]:List Str) from by decide +kernel) rfl (lo rfl))) (fun _ _ _ _ _=>dN) (fun _ _ _ _ _=>(dG (aD (ax (pv 0)) (aD (aX (ag (pv 1)) (ae (aI bz (ae (cx (pv 2))) (ae (aN bP (by rfl) z_len bt_len (af (ag (pv 1)) ar)))))) (aD (aI aS (ag (pv 0)) (ae aq)) aW))))))
  (ai (dC (bO (i8 hr.units) (ae (aI bz (ae (cx (pv 0))) (ae aq))) (ae aq) (bR _))
  (aw (dm (bU (pv 3) (dG (aD (ax (pv 2)) (aD (aX (ag (pv 1)) (ae (aI bz (ae (cx (pv 0))) (ae (aN bP (by rfl) z_len bt_len (af (ag (pv 1)) ar)))))) (aD (aI bz (ae (cx (pv 0))) (ag (pv 2))) aW)))))))
  bI)
  (aw (nP (i:=0) (aN (hJ rfl) (by rfl) z_sorted hU (af (ag (pv 3)) ar)))))))
abbrev fL:Stmt:=top 20
theorem cB:FnScope ["_law_arcs","_law_cells","_law_cell","_law_k","_law_rest"] ["_law_arcs","_law_cells"] (defScope fL):=⟨rfl,rfl,rfl,by decide +kernel,rfl,by decide +kernel,by decide +kernel⟩
theorem ly (Df:Def K mg "_law_fewer" fL) (C__law_come_to:Ct P w K mg base "_law_come_to" 1 (spF K aZ)) (z_len:mg "len" = none):Ct P w K mg base "_law_fewer" 2 (spF K cq):=
 eF Df cB (fun _ _ _ _ _ _=>qe fun _ _=>rfl) fun f cdv A outer s H E hr=>
  (ai (cR PassesOwn.never rfl (du (dM (ax (pv 1))) (du (dn (ax (pv 1))) (dq (ax (pv 1))))) (aF (i:=2) cB.nd rfl (lo rfl))
  (aw (dC (bO (uI hr.units) (ag (pv 0)) (ae (eW aW)) (bR _))
  (ai (aH (i:=3) cB.nd rfl (lo rfl) (aI bz (ag (pv 2)) (ae (aN bP (by rfl) z_len bt_len (af (ag (pv 0)) ar)))))
  (ai (aH (i:=4) cB.nd rfl (lo rfl) (aI aS (ae (ph (ag (pv 0)) nH (jD (ax (pv 3))))) (ae (ph (ag (pv 0)) (jD (aI aS (ag (pv 3)) (ae aq))) nH))))
  (aw (dC (bO (i8 hr.units) (ae (aN bP (by rfl) z_len bt_len (af (ae (aQ C__law_come_to (hr.mono (by decide)) (by rfl) (af (ag (pv 4)) ar))) ar))) (ae (aN bP (by rfl) z_len bt_len (af (ae (aQ C__law_come_to (hr.mono (by decide)) (by rfl) (af (ag (pv 0)) ar))) ar))) (bR _))
  (aw (aH (i:=0) cB.nd rfl (lo rfl) (ax (pv 4))))
  bI))))
  bI)))
  (aw (bJ (jB (pv 0)))))
abbrev fM:Stmt:=top 21
theorem aT:FnScope ["_law_script","_law_names_here","_law_xs","_law_kind","_law_arcs","_law_tops","_law_start","_law_guards_here"] ["_law_script"] (defScope fM):=⟨rfl,rfl,rfl,by decide +kernel,rfl,by decide +kernel,by decide +kernel⟩
theorem lz (Df:Def K mg "_law_chart" fM) (C__law_cell_at:Ct P w K mg base "_law_cell_at" 1 (spF K au)) (C__law_few:Ct P w K mg base "_law_few" 1 (spM K (.l .f) de)) (C__law_fewer:Ct P w K mg base "_law_fewer" 2 (spF K cq)) (C__law_guards:Ct P w K mg base "_law_guards" 1 (spM K (.l .f) bp)) (C__law_names:Ct P w K mg base "_law_names" 1 (spF K cp)) (C__law_run:Ct P w K mg base "_law_run" 2 (spF K cM)) (C__law_stream:Ct P w K mg base "_law_stream" 1 (spF K aY)) (C__law_word:Ct P w K mg base "_law_word" 1 (spM K (.l .f) cj)) (z_len:mg "len" = none) (z_tuple:mg "tuple" = none):Ct P w K mg base "_law_chart" 3 (spF K cu):=
 eF Df aT (fun _ _ _ _ _ _=>v7 fun _=>rfl) fun f cdv A outer s H E hr=>
  (ai (aH (i:=1) aT.nd rfl (lo rfl) (aQ C__law_names (hr.mono (by decide)) (by rfl) (af (ae (aQ C__law_cell_at (hr.mono (by decide)) (by rfl) (af (ag (pv 0)) (af (ae aq) ar)))) (af (ae (aI aS (ae aq) (ae (aI bz (ae (aQ C__law_cell_at (hr.mono (by decide)) (by rfl) (af (ag (pv 0)) (af (ae aq) ar)))) (ae aq))))) ar))))
  (ai (aH (i:=2) aT.nd rfl (lo rfl) (aQ C__law_stream (hr.mono (by decide)) (by rfl) (af (ae (aQ C__law_cell_at (hr.mono (by decide)) (by rfl) (af (ag (pv 0)) (af (ae aq) ar)))) (af (ae aq) ar))))
  (ai (aH (i:=3) aT.nd rfl (lo rfl) (aI bz (ae (aQ C__law_cell_at (hr.mono (by decide)) (by rfl) (af (ag (pv 0)) (af (ae aq) ar)))) (ae aq)))
  (ai (dC (bO (i8 hr.units) (ag (pv 3)) (ae aq) (bR _))
  (aw (aH (i:=4) aT.nd rfl (lo rfl) (nU (i:=2) C__law_few (hr.mono (by decide)) (by rfl) (af (ag (pv 2)) (af (ag (pv 1)) ar)))))
  (aw (dC (bO (i8 hr.units) (ag (pv 3)) (ae aq) (bR _))
  (aw (aH (i:=4) aT.nd rfl (lo rfl) (nU (i:=2) C__law_word (hr.mono (by decide)) (by rfl) (af (ag (pv 2)) (af (ag (pv 1)) ar)))))
  (ai (Aa (nU (i:=2) C__law_guards (hr.mono (by decide)) (by rfl) (af (ag (pv 2)) (af (ae (aN bP (by rfl) z_len bt_len (af (ag (pv 1)) ar))) ar))) (gY rfl (aR (aF (i:=5) aT.nd rfl (lo rfl)) (aR (aF (i:=6) aT.nd rfl (lo rfl)) (aR (aF (i:=7) aT.nd rfl (lo rfl)) eC)))))
  (ai (aH (i:=4) aT.nd rfl (lo rfl) (aQ C__law_run (hr.mono (by decide)) (by rfl) (af (ag (pv 1)) (af (ag (pv 6)) (af (ag (pv 7)) ar)))))
  (aw (dC (bO (i8 hr.units) (ag (pv 3)) (ae aq) (bR _))
  (aw (aH (i:=4) aT.nd rfl (lo rfl) (aQ C__law_fewer (hr.mono (by decide)) (by rfl) (af (ag (pv 4)) (af (ae (ph (ag (pv 0)) (jD aq) (jD aq))) ar)))))
  bI)))))))
  (aw (bJ (dG (aD (dW jj (by rfl) z_tuple gQ (af (ag (pv 1)) ar)) (aD (ax (pv 4)) aW)))))))))
abbrev dA:Stmt:=top 22
theorem ja:FnScope ["_law_told"] ["_law_told"] (defScope dA):=⟨rfl,rfl,rfl,by decide +kernel,rfl,by decide +kernel,by decide +kernel⟩
theorem jb (Df:Def K mg "_law_is_whole" dA) (z_bool:mg "bool" = none) (z_int:mg "int" = none) (z_isinstance:mg "isinstance" = none):Ct P w K mg base "_law_is_whole" 1 (spF K a9):=
 eF Df ja (fun _ _ _ _ _ _=>v7 fun _=>rfl) fun f cdv A outer s H E hr=>
  (aw (bJ (zO (uL (T:="int") (by decide) (ag (pv 0)) (by rfl) z_isinstance (by rfl) z_int zt) (zN (zP (uL (T:="bool") (by decide) (ag (pv 0)) (by rfl) z_isinstance (by rfl) z_bool wU))))))
abbrev dR:Stmt:=top 23
theorem fN:FnScope ["_law_told","_law_width","_law_row_here"] ["_law_told","_law_width"] (defScope dR):=⟨rfl,rfl,rfl,by decide +kernel,rfl,by decide +kernel,by decide +kernel⟩
theorem j5 (Df:Def K mg "_law_is_rows" dR) (C__law_is_whole:Ct P w K mg base "_law_is_whole" 1 (spF K a9)) (z_isinstance:mg "isinstance" = none) (z_len:mg "len" = none) (z_list:mg "list" = none) (z_tuple:mg "tuple" = none):Ct P w K mg base "_law_is_rows" 2 (spF K bq):=
 eF Df fN (fun _ _ _ _ _ _=>qe fun _ _=>rfl) fun f cdv A outer s H E hr=>
  (ai (dC (mw (mv (uL (T:="list") (by decide) (ag (pv 0)) (by rfl) z_isinstance (by rfl) z_list ni)))
  (aw (bJ jA))
  bI)
  (ai (cR PassesOwn.never rfl (du (dM (ax (pv 0))) (du (dn (ax (pv 0))) (dq (ax (pv 0))))) (aF (i:=2) fN.nd rfl (lo rfl))
  (ai (dC (QW.qt (uE (mw (mv (uL (T:="tuple") (by decide) (ag (pv 2)) (by rfl) z_isinstance (by rfl) z_tuple gQ))) (o4 (bO (uI hr.units) (ae (aN bP (by rfl) z_len bt_len (af (ag (pv 2)) ar))) (ag (pv 1)) (bR _)))))
  (aw (bJ jA))
  bI)
  (aw (dC (jC zT (ae (aN bP (by rfl) z_len bt_len (af (ae (cQ [none] ["_law_number"] rfl (gr (jN (pv 2)) (gr (cY (dn (ax (pv 2)))) (cY (dq (ax (pv 2)))))) (fun _ _ _ _ _=>(aF (i:=0) (show List.Nodup (["_law_number"]:List Str) from by decide +kernel) rfl (lo rfl))) (fun _ _ _ _ _=>(rV (mw (mv (aQ C__law_is_whole (hr.mono (by decide)) (by rfl) (af (ag (pv 0)) ar)))))) (fun _ _ _ _ _=>(ax (pv 0))))) ar))) (ae aq) (bR _))
  (aw (bJ jA))
  bI))))
  (aw (bJ jA))))
abbrev fO:Stmt:=top 24
theorem lA:FnScope ["_law_row_here","_law_numbers"] ["_law_row_here","_law_numbers"] (defScope fO):=⟨rfl,rfl,rfl,by decide +kernel,rfl,by decide +kernel,by decide +kernel⟩
theorem lB (Df:Def K mg "_law_taken" fO) (z_sum:mg "sum" = none) (z_zip:mg "zip" = none):Ct P w K mg base "_law_taken" 1 (spF K ba):=
 eF Df lA (fun _ _ _ _ _ _=>qe fun _ _=>rfl) fun f cdv A outer s H E hr=>
  (aw (bJ (aN (zX rfl) (by rfl) z_sum Ac (af (ae (cQ [none,none] ["_law_one","_law_other"] rfl (cY (lu (by rfl) z_zip (af (ae (ax (pv 0))) (af (ae (ax (pv 1))) ar)))) (fun _ _ _ _ _=>(gY rfl (aR (aF (i:=0) (show List.Nodup (["_law_one","_law_other"]:List Str) from by decide +kernel) rfl (lo rfl)) (aR (aF (i:=1) (show List.Nodup (["_law_one","_law_other"]:List Str) from by decide +kernel) rfl (lo rfl)) eC)))) (fun _ _ _ _ _=>dN) (fun _ _ _ _ _=>(aI fu (ag (pv 0)) (ag (pv 1)))))) ar))))
abbrev iC:Stmt:=top 25
theorem gM:FnScope ["_law_script","_law_names_here","_law_far","_law_guards_here"] ["_law_script","_law_names_here"] (defScope iC):=⟨rfl,rfl,rfl,by decide +kernel,rfl,by decide +kernel,by decide +kernel⟩
theorem nY (Df:Def K mg "_law_row" iC) (C__law_cell_at:Ct P w K mg base "_law_cell_at" 1 (spF K au)) (C__law_guards:Ct P w K mg base "_law_guards" 1 (spM K (.l .f) bp)) (C__law_stream:Ct P w K mg base "_law_stream" 1 (spF K aY)) (z_len:mg "len" = none) (z_range:mg "range" = none):Ct P w K mg base "_law_row" 2 (spF K df):=
 eF Df gM (fun _ _ _ _ _ _=>qe fun _ _=>rfl) fun f cdv A outer s H E hr=>
  (ai (aH (i:=2) gM.nd rfl (lo rfl) (cQ [none,some 0] ["_law_k","_law_script"] rfl (cY (cw (by rfl) z_range (ae aq))) (fun _ _ _ _ _=>(aF (i:=0) (show List.Nodup (["_law_k","_law_script"]:List Str) from by decide +kernel) rfl (lo rfl))) (fun _ _ _ _ _=>dN) (fun _ _ _ _ _=>(aI kA (ae (aI bz (ae (aQ C__law_cell_at (hr.mono (by decide)) (by rfl) (af (ag (pv 1)) (af (ae (aI aS (ae aq) (ag (pv 0)))) ar)))) (ae (aI vP (ae aq) (ae aq))))) (ae (aI vP (ae aq) (ae aq)))))))
  (ai (dC (QW.qt (uE (jC (mE hr.units0) (ae (aI bz (ae (aQ C__law_cell_at (hr.mono (by decide)) (by rfl) (af (ag (pv 0)) (af (ae aq) ar)))) (ae aq))) (ae aq) (bR _)) (o4 (bO (i8 hr.units) (ae (aI bz (ae (aQ C__law_cell_at (hr.mono (by decide)) (by rfl) (af (ag (pv 0)) (af (ae aq) ar)))) (ae aq))) (ae aq) (bR _)))))
  (aw (bJ (ph (ag (pv 2)) nH (jD (aN bP (by rfl) z_len bt_len (af (ag (pv 1)) ar))))))
  bI)
  (ai (dC (bO (i8 hr.units) (ae (aI bz (ae (aQ C__law_cell_at (hr.mono (by decide)) (by rfl) (af (ag (pv 0)) (af (ae aq) ar)))) (ae aq))) (ae aq) (bR _))
  (aw (xJ (pv 2) aq aq))
  bI)
  (ai (aH (i:=3) gM.nd rfl (lo rfl) (aX (ae (xO C__law_guards (hr.mono (by decide)) (by rfl) (aQ C__law_stream (hr.mono (by decide)) (by rfl) (af (ae (aQ C__law_cell_at (hr.mono (by decide)) (by rfl) (af (ag (pv 0)) (af (ae aq) ar)))) (af (ae aq) ar))) (af (ae (aN bP (by rfl) z_len bt_len (af (ag (pv 1)) ar))) ar))) (ae aq)))
  (aw (bJ (cQ [none,some 2] ["_law_sides","_law_far"] rfl (gr (jN (pv 3)) (gr (cY (dn (ax (pv 3)))) (cY (dq (ax (pv 3)))))) (fun _ _ _ _ _=>(aF (i:=0) (show List.Nodup (["_law_sides","_law_far"]:List Str) from by decide +kernel) rfl (lo rfl))) (fun _ _ _ _ _=>dN) (fun _ _ _ _ _=>(aI aS (ae (aI fu (ae (aX (ag (pv 1)) (ae aq))) (ae (aX (ae (aX (ag (pv 0)) (ae aq))) (ae aq))))) (ae (aI fu (ae (aX (ag (pv 1)) (ae aq))) (ae (aX (ae (aX (ag (pv 0)) (ae aq))) (ae aq))))))))))))))
abbrev lC:Stmt:=top 26
theorem fe:FnScope ["_law_script","_law_chart_here","_law_numbers","_law_rings","_law_counts","_law_closed","_law_there","_law_fits","_law_one","_law_move","_law_other"] ["_law_script"] (defScope lC):=⟨rfl,rfl,rfl,by decide +kernel,rfl,by decide +kernel,by decide +kernel⟩
theorem An {f:Addr} {fd:FuncData} (F:Fun K "law" "law" lC f fd) (C__law_chart:Ct P w K mg base "_law_chart" 3 (spF K cu)) (C__law_is_rows:Ct P w K mg base "_law_is_rows" 2 (spF K bq)) (C__law_row:Ct P w K mg base "_law_row" 2 (spF K df)) (C__law_taken:Ct P w K mg base "_law_taken" 1 (spF K ba)) (C_counts_of:Ct P w K mg base "counts_of" 3 (spF K cJ)) (C_rings_of:Ct P w K mg base "rings_of" 3 (spF K c9)) (z_len:mg "len" = none) (z_list:mg "list" = none):FnOk P w K mg base CX0 4 f fd ["_law_script"] (spF K xP):=
 fnok_of F fe fun cdv A outer s H E hr=>
  (ai (aH (i:=1) fe.nd rfl (lo rfl) (aQ C__law_chart (hr.mono (by decide)) (by rfl) (af (ag (pv 0)) ar)))
  (ai (aH (i:=2) fe.nd rfl (lo rfl) (aQ C__law_row (hr.mono (by decide)) (by rfl) (af (ag (pv 0)) (af (ae (aX (ag (pv 1)) (ae aq))) ar))))
  (ai (aH (i:=3) fe.nd rfl (lo rfl) (aQ C_rings_of (hr.mono (by decide)) (by rfl) (af (ae (dG (aD (aX (ag (pv 1)) (ae aq)) (aD (dW rX (by rfl) z_list ni (af (ae (aX (ag (pv 1)) (ae aq))) ar)) aW)))) ar)))
  (ai (aH (i:=4) fe.nd rfl (lo rfl) (aQ C_counts_of (hr.mono (by decide)) (by rfl) (af (ae (dG (aD (aX (ag (pv 1)) (ae aq)) (aD (dW rX (by rfl) z_list ni (af (ae (aX (ag (pv 1)) (ae aq))) ar)) aW)))) ar)))
  (ai (dC (QW.qt (uE (mw (mv (aQ C__law_is_rows (hr.mono (by decide)) (by rfl) (af (ag (pv 3)) (af (ae (aN bP (by rfl) z_len bt_len (af (ae (aX (ag (pv 1)) (ae aq))) ar))) ar))))) (o4 (mw (mv (aQ C__law_is_rows (hr.mono (by decide)) (by rfl) (af (ag (pv 4)) (af (ae (aN bP (by rfl) z_len bt_len (af (ae (aX (ag (pv 1)) (ae aq))) ar))) ar))))))))
  (aw (bJ jA))
  bI)
  (ai (aH (i:=5) fe.nd rfl (lo rfl) (rQ (i8 hr.units) (ae (aN bP (by rfl) z_len bt_len (af (ae (cQ [none,some 2] ["_law_ring","_law_numbers"] rfl (gr (jN (pv 3)) (gr (cY (dn (ax (pv 3)))) (cY (dq (ax (pv 3)))))) (fun _ _ _ _ _=>(aF (i:=0) (show List.Nodup (["_law_ring","_law_numbers"]:List Str) from by decide +kernel) rfl (lo rfl))) (fun _ _ _ _ _=>(rV (bO (uI hr.units) (ae (aQ C__law_taken (hr.mono (by decide)) (by rfl) (af (ag (pv 0)) (af (ag (pv 1)) ar)))) (ae aq) (bR _)))) (fun _ _ _ _ _=>(ax (pv 0))))) ar))) (ae aq) (bR _)))
  (ai (uN (i:=6) [none,some 2] ["_law_count","_law_numbers"] fe.nd rfl (lo rfl) rfl (gr (jN (pv 4)) (gr (cY (dn (ax (pv 4)))) (cY (dq (ax (pv 4)))))) (fun _ _ _ _ _=>(aF (i:=0) (show List.Nodup (["_law_count","_law_numbers"]:List Str) from by decide +kernel) rfl (lo rfl))) (fun _ _ _ _ _=>dN) (fun _ _ _ _ _=>(aQ C__law_taken (hr.mono (by decide)) (by rfl) (af (ag (pv 0)) (af (ag (pv 1)) ar)))))
  (ai (aH (i:=7) fe.nd rfl (lo rfl) jA)
  (ai (cR PassesOwn.never rfl (du (dM (aX (ag (pv 1)) (ae aq))) (du (dn (aX (ag (pv 1)) (ae aq))) (dq (aX (ag (pv 1)) (ae aq))))) (gY rfl (aR (aF (i:=8) fe.nd rfl (lo rfl)) (aR (aF (i:=9) fe.nd rfl (lo rfl)) (aR (aF (i:=10) fe.nd rfl (lo rfl)) eC))))
  (aw (dC (bO (uI hr.units) (ae (aI aS (ae (aX (ag (pv 6)) (ag (pv 8)))) (ae (aX (ag (pv 2)) (ae (vX PySem.F.slot_tuple_index PySem.F.type_tuple_index nK (ae (aX (ag (pv 1)) (ae aq))) (af (ag (pv 9)) ar))))))) (ae (aX (ag (pv 6)) (ag (pv 10)))) (bR _))
  (aw (aH (i:=7) fe.nd rfl (lo rfl) jA))
  bI)))
  (aw (bJ (rQ (i8 hr.units) (ag (pv 5)) (ag (pv 7)) (bR _)))))))))))))
end
end LW
namespace PV
open PySem L2 NX
class Cont (α β:Type) where
 run:α→Res β
noncomputable def Res.bnd {α β:Type} [f:Cont α β] (x:Res α):Res β:=x.bind f.run
theorem bOk {α β:Type} (a:α) (f:α→Res β):Res.bnd (Res.ok a) (f:=⟨f⟩)=f a:=id rfl
theorem bBad {α β:Type} (f:α→Res β):Res.bnd (Res.bad:Res α) (f:=⟨f⟩)=.bad:=id rfl
section
variable (env:PV.Env) (i n:Nat) (d:D) (f g:FX) (c c':FT) (fo fo' fo'':FO) (fs:FOs) (fd:FDs) (s t:FS) (op op':D→D→Res R) (F:List D→Res R) (a:FG) (as:FGs) (fi fj:FI) (fp fp':FP) (T:String)
theorem x_eCon:aE d env=.ok ((.f,d),env):=id rfl
theorem x_eVarF:aM i env=match env[i]? with | some (some r)=>.ok ((.f,r.2),env.set i (some (fz r.1,r.2))) | _=>.bad:=id rfl
theorem x_fzF:fz .f=.f:=id rfl
theorem x_fzL (c:O):fz (.l c)=.f:=id rfl
theorem x_fzT (cs:List O):fz (.t cs)=.f:=id rfl
theorem x_fzD:fz .d=.f:=id rfl
theorem x_fzP (p:Addr):fz (.pin p .f)=.pin p .f:=id rfl
theorem x_fzPL (p:Addr) (c:O):fz (.pin p (.l c))=.f:=id rfl
theorem x_fzPD (p:Addr):fz (.pin p .d)=.f:=id rfl
theorem x_shalP (p:Addr):tL (.pin p .f)=true:=id rfl
theorem x_shalPL (p:Addr):tL (.pin p (.l .f))=true:=id rfl
theorem x_shalPD (p:Addr):tL (.pin p .d)=true:=id rfl
theorem x_eVarM:mr i env=match env[i]? with | some (some r)=>.ok (r,env.set i none) | _=>.bad:=id rfl
theorem x_oVal:ao f env=Res.bnd (f env) (f:=⟨fun p=>.ok (.val p.1.2,p.2)⟩):=id rfl
theorem x_oVar:av i env=match env[i]? with | some (some _)=>.ok (.var i,env) | _=>.bad:=id rfl
theorem x_osNil:az env=.ok ([],env):=id rfl
theorem x_osCons:ah fo fs env=Res.bnd (fo env) (f:=⟨fun p=>Res.bnd (fs p.2) (f:=⟨fun q=>.ok (p.1 :: q.1,q.2)⟩)⟩):=id rfl
theorem x_dsNil:b5 env=.ok ([],env):=id rfl
theorem x_dsCons:aJ f fd env=Res.bnd (f env) (f:=⟨fun p=>Res.bnd (fd p.2) (f:=⟨fun q=>.ok (p.1.2 :: q.1,q.2)⟩)⟩):=id rfl
theorem x_derV:der env (.val d)=.ok d:=id rfl
theorem x_derI:der env (.var i)=match env[i]? with | some (some r)=>if tL r.1 then .ok r.2 else .bad | _=>.bad:=id rfl
theorem x_derAV:p6 env (.val d)=.ok d:=id rfl
theorem x_derAI:p6 env (.var i)=match env[i]? with | some (some r)=>.ok r.2 | _=>.bad:=id rfl
theorem x_dersN:lO env []=.ok []:=id rfl
theorem x_dersC (o:Opd) (os:List Opd):lO env (o :: os)=Res.bnd (der env o) (f:=⟨fun d=>Res.bnd (lO env os) (f:=⟨fun ds=>.ok (d :: ds)⟩)⟩):=id rfl
theorem x_dersAN:i6 env []=.ok []:=id rfl
theorem x_dersAC (o:Opd) (os:List Opd):i6 env (o :: os)=Res.bnd (p6 env o) (f:=⟨fun d=>Res.bnd (i6 env os) (f:=⟨fun ds=>.ok (d :: ds)⟩)⟩):=id rfl
theorem x_shalF:tL .f=true:=id rfl
theorem x_shalL:tL (.l .f)=true:=id rfl
theorem x_shalD:tL .d=true:=id rfl
theorem x_eBin:aA op fo fo' env=Res.bnd (fo env) (f:=⟨fun p=>Res.bnd (fo' p.2) (f:=⟨fun q=>Res.bnd (der q.2 p.1) (f:=⟨fun a=>Res.bnd (der q.2 q.1) (f:=⟨fun b=>Res.bnd (op a b) (f:=⟨fun r=>.ok (r,q.2)⟩)⟩)⟩)⟩)⟩):=id rfl
theorem x_eBinA:b6 op fo fo' env=Res.bnd (fo env) (f:=⟨fun p=>Res.bnd (fo' p.2) (f:=⟨fun q=>Res.bnd (p6 q.2 p.1) (f:=⟨fun a=>Res.bnd (p6 q.2 q.1) (f:=⟨fun b=>Res.bnd (op a b) (f:=⟨fun r=>.ok (r,q.2)⟩)⟩)⟩)⟩)⟩):=id rfl
theorem x_eBl:eBl f env=Res.bnd (f env) (f:=⟨fun p=>match p.1.2 with | .bl k=>.ok (k,p.2) | _=>.bad⟩):=id rfl
theorem x_bAnd:BN c c' env=Res.bnd (c env) (f:=⟨fun p=>if p.1 then c' p.2 else .ok (false,p.2)⟩):=id rfl
theorem x_bOr:bOr c c' env=Res.bnd (c env) (f:=⟨fun p=>if p.1 then .ok (true,p.2) else c' p.2⟩):=id rfl
theorem x_bNot:uD c env=Res.bnd (c env) (f:=⟨fun p=>.ok (!p.1,p.2)⟩):=id rfl
theorem x_eAnd:BO f g env=Res.bnd (f env) (f:=⟨fun p=>match p.1.2 with | .bl true=>g p.2 | .bl false=>.ok ((.f,.bl false),p.2) | _=>.bad⟩):=id rfl
theorem x_eOr:eOr f g env=Res.bnd (f env) (f:=⟨fun p=>match p.1.2 with | .bl true=>.ok ((.f,.bl true),p.2) | .bl false=>g p.2 | _=>.bad⟩):=id rfl
theorem x_eNot:BP f env=Res.bnd (f env) (f:=⟨fun p=>match p.1.2 with | .bl k=>.ok ((.f,.bl (!k)),p.2) | _=>.bad⟩):=id rfl
theorem x_eIf:eIf c f g env=Res.bnd (c env) (f:=⟨fun p=>if p.1 then f p.2 else g p.2⟩):=id rfl
theorem x_eChain:zQ op op' fo fo' fo'' env=Res.bnd (fo env) (f:=⟨fun p=>Res.bnd (fo' p.2) (f:=⟨fun q=>Res.bnd (der q.2 p.1) (f:=⟨fun a=>Res.bnd (der q.2 q.1) (f:=⟨fun b=>Res.bnd (op a b) (f:=⟨fun r=>match r with
 | (.f,.bl true)=>Res.bnd (fo'' q.2) (f:=⟨fun t=>Res.bnd (der t.2 q.1) (f:=⟨fun b=>Res.bnd (der t.2 t.1) (f:=⟨fun c=>Res.bnd (op' b c) (f:=⟨fun r=>.ok (r,t.2)⟩)⟩)⟩)⟩)
 | (.f,.bl false)=>.ok ((.f,.bl false),q.2)
 | _=>.bad⟩)⟩)⟩)⟩)⟩):=id rfl
theorem x_eCall:bx F fs env=Res.bnd (fs env) (f:=⟨fun p=>Res.bnd (lO p.2 p.1) (f:=⟨fun ds=>Res.bnd (F ds) (f:=⟨fun r=>.ok (r,p.2)⟩)⟩)⟩):=id rfl
theorem x_eFun:cP F fs env=Res.bnd (fs env) (f:=⟨fun p=>Res.bnd (i6 p.2 p.1) (f:=⟨fun ds=>Res.bnd (F ds) (f:=⟨fun r=>.ok (r,if a8 r.1 r.2 then p.2 else p.2.map frz)⟩)⟩)⟩):=id rfl
theorem x_eTup:kB fd env=Res.bnd (fd env) (f:=⟨fun p=>if p.1.length≤1000 then .ok ((.f,.tup p.1),p.2) else .bad⟩):=id rfl
theorem x_eLst:nF fd env=Res.bnd (fd env) (f:=⟨fun p=>if p.1.length≤1000 then .ok ((.l .f,.lst p.1),p.2) else .bad⟩):=id rfl
theorem x_eSl:eSl fo fp fp' env=Res.bnd (fo env) (f:=⟨fun p=>Res.bnd (fp p.2) (f:=⟨fun q=>Res.bnd (fp' q.2) (f:=⟨fun t=>Res.bnd (der t.2 p.1) (f:=⟨fun d=>Res.bnd (slD d q.1 t.1) (f:=⟨fun r=>.ok (r,t.2)⟩)⟩)⟩)⟩)⟩):=id rfl
theorem x_pNone:nG env=.ok (none,env):=id rfl
theorem x_pSome:lb f env=Res.bnd (f env) (f:=⟨fun p=>match p.1.2 with | .int i=>.ok (some i,p.2) | _=>.bad⟩):=id rfl
theorem x_eApp:pb i f env=if rW env i then (Res.bnd (f env) (f:=⟨fun (p:R×PV.Env)=>match p.2[i]? with
 | some (some (.l .f,.lst ds))=>if ds.length < sizeLine then .ok ((.f,.non),p.2.set i (some (.l .f,.lst (ds++[p.1.2])))) else .bad
 | _=>.bad⟩)) else .bad:=id rfl
theorem x_isLst:rW env i=match env[i]? with | some (some (_,.lst _))=>true | _=>false:=id rfl
theorem x_eIs:eIs T fo env=Res.bnd (fo env) (f:=⟨fun p=>Res.bnd (p6 p.2 p.1) (f:=⟨fun d=>.ok ((.f,.bl (tM T d)),p.2)⟩)⟩):=id rfl
theorem x_eMaxD:xv f g env=Res.bnd (f env) (f:=⟨fun p=>Res.bnd (g p.2) (f:=⟨fun q=>match (lh p.1.2).bind cD,q.1.2 with | some ns,.int d=>.ok ((.f,.int (NX.maxD ns d)),q.2) | _,_=>.bad⟩)⟩):=id rfl
theorem x_eMtS (gg:List Nat→List D→Res R):Dp gg fo fs env=Res.bnd (fo env) (f:=⟨fun p=>match der p.2 p.1 with
 | .ok (.str l)=>Res.bnd (fs p.2) (f:=⟨fun q=>Res.bnd (lO q.2 q.1) (f:=⟨fun ds=>Res.bnd (gg l ds) (f:=⟨fun r=>.ok (r,q.2)⟩)⟩)⟩)
 | _=>.bad⟩):=id rfl
theorem x_eNewD (tk:Bool):eNewD tk env=.ok ((.d,.dct tk [] []),env):=id rfl
theorem x_eComp (ix:List (Option Nat)):gF fi ix a c f env=Res.bnd (fi env) (f:=⟨fun p=>Res.bnd (dt a c f p.1 (bZ ix p.2)) (f:=⟨fun ds=>if ds.length≤sizeLine then .ok ((.l .f,.lst ds),if flatDs ds then p.2 else p.2.map frz) else .bad⟩)⟩):=id rfl
theorem x_compEnvN:bZ [] env=[]:=id rfl
theorem x_compEnvO (ix:List (Option Nat)):bZ (none :: ix) env=none :: bZ ix env:=id rfl
theorem x_compEnvS (ix:List (Option Nat)):bZ (some i :: ix) env=(match env[i]? with | some (some r)=>some (O.f,r.2) | _=>none) :: bZ ix env:=id rfl
theorem x_cYes:ik env=.ok (true,env):=id rfl
theorem x_compLN:dt a c f [] env=.ok []:=id rfl
theorem x_compLC (ds:List D):dt a c f (d :: ds) env=Res.bnd (a d env) (f:=⟨fun e=>Res.bnd (c e) (f:=⟨fun p=>if p.1 then (Res.bnd (f p.2) (f:=⟨fun q=>Res.bnd (dt a c f ds q.2) (f:=⟨fun rs=>.ok (q.1.2 :: rs)⟩)⟩)) else dt a c f ds p.2⟩)⟩):=id rfl
theorem Ao:p7 f env=Res.bnd (f env) (f:=⟨fun p=>match p.1.2 with | .lst ds=>.ok (ds,p.2) | _=>.bad⟩):=id rfl
theorem sy:eD f env=Res.bnd (f env) (f:=⟨fun p=>match p.1.2 with | .tup ds=>.ok (ds,p.2) | _=>.bad⟩):=id rfl
theorem sH:eE f env=Res.bnd (f env) (f:=⟨fun p=>match p.1.2 with | .str l=>.ok (l.map fun c=>.str [c],p.2) | _=>.bad⟩):=id rfl
theorem n0:or2 fi fj env=match fi env with | .ok a=>.ok a | _=>fj env:=by
 unfold or2
 cases fi env <;> rfl
theorem x_iAny:or2 (p7 f) (or2 (eD f) (eE f)) env=Res.bnd (f env) (f:=⟨fun p=>match p.1.2 with
 | .lst ds=>.ok (ds,p.2)
 | .tup ds=>.ok (ds,p.2)
 | .str l=>.ok (l.map fun c=>.str [c],p.2)
 | _=>.bad⟩):=by
 rw [n0,n0,Ao,sy,sH]
 cases f env with
 | ok p=>
  obtain ⟨⟨o,d⟩,e⟩:=p
  cases d <;> rfl
 | exc c=>rfl
 | bad=>rfl
theorem x_iAnyV:or2 (lr i) (or2 (eD (aM i)) (eE (aM i))) env=match env[i]? with
 | some (some (_,.lst ds))=>.ok (ds,env)
 | some (some (o,.tup ds))=>.ok (ds,env.set i (some (fz o,.tup ds)))
 | some (some (o,.str l))=>.ok (l.map fun c=>.str [c],env.set i (some (fz o,.str l)))
 | _=>.bad:=by
 rw [n0,n0,sy,sH,x_eVarF]
 unfold lr
 cases env[i]? with
 | none=>rfl
 | some r=>
  cases r with
  | none=>rfl
  | some r=>
   obtain ⟨o,d⟩:=r
   cases d <;> rfl
theorem x_iRange1:dr fo env=Res.bnd (fo env) (f:=⟨fun p=>Res.bnd (der p.2 p.1) (f:=⟨fun d=>match d with
 | .int j=>if -4611686018427387904≤j∧j < 4611686018427387904 then .ok ((List.range j.toNat).map fun (k:Nat)=>D.int (k:Int),p.2) else .bad
 | _=>.bad⟩)⟩):=id rfl
theorem x_iRange2:nE fs env=Res.bnd (fs env) (f:=⟨fun p=>Res.bnd (lO p.2 p.1) (f:=⟨fun d=>match d with
 | [.int i,.int j]=>if (-4611686018427387904≤i∧i < 4611686018427387904)∧-4611686018427387904≤j∧j < 4611686018427387904 then .ok ((List.range (j - i).toNat).map fun (k:Nat)=>D.int (i + (k:Int)),p.2) else .bad
 | _=>.bad⟩)⟩):=id rfl
theorem x_iZipD (k1 k2:Bool):p8 k1 k2 fs env=Res.bnd (fs env) (f:=⟨fun p=>match p.1 with
 | [.val d1,.val d2]=>Res.bnd (iw k1 d1) (f:=⟨fun a=>Res.bnd (iw k2 d2) (f:=⟨fun b=>.ok ((a.zip b).map fun z=>D.tup [z.1,z.2],p.2)⟩)⟩)
 | _=>.bad⟩):=id rfl
theorem x_aName:aB i d env=if i < env.length then .ok (env.set i (some (.f,d))) else .bad:=id rfl
theorem x_asNil:dX [] env=.ok env:=id rfl
theorem x_asCons (ds:List D):aK a as (d :: ds) env=Res.bnd (a d env) (f:=⟨fun e=>as ds e⟩):=id rfl
theorem x_aTup (ds:List D):kl n as (.tup ds) env=if ds.length=n then as ds env else .bad:=id rfl
theorem x_sSeq:sSeq s t env=Res.bnd (s env) (f:=⟨fun o=>match o with | .nx e=>t e | o=>.ok o⟩):=id rfl
theorem x_sPass:cU env=.ok (.nx env):=id rfl
theorem x_sSet:bW i f env=Res.bnd (f env) (f:=⟨fun p=>if i < p.2.length then .ok (.nx (p.2.set i (some p.1))) else .bad⟩):=id rfl
theorem x_sDrop:gX f env=Res.bnd (f env) (f:=⟨fun p=>.ok (.nx p.2)⟩):=id rfl
theorem x_sRet:gO f env=Res.bnd (f env) (f:=⟨fun p=>.ok (.rt p.1)⟩):=id rfl
theorem x_sIf:sIf c s t env=Res.bnd (c env) (f:=⟨fun p=>if p.1 then s p.2 else t p.2⟩):=id rfl
theorem x_sFor:ky fi a s env=Res.bnd (fi env) (f:=⟨fun p=>kh a s p.1 p.2⟩):=id rfl
theorem x_forLN:kh a s [] env=.ok (.nx env):=id rfl
theorem x_forLC (ds:List D):kh a s (d :: ds) env=Res.bnd (a d env) (f:=⟨fun e=>Res.bnd (s e) (f:=⟨fun o=>match o with
 | .nx e=>kh a s ds e
 | .ct e=>kh a s ds e
 | .bk e=>.ok (.nx e)
 | .rt r=>.ok (.rt r)⟩)⟩):=id rfl
theorem x_sWhile:dE c s (n + 1) env=Res.bnd (c env) (f:=⟨fun p=>if p.1 then (Res.bnd (s p.2) (f:=⟨fun o=>match o with
  | .nx e=>dE c s n e
  | .ct e=>dE c s n e
  | .bk e=>.ok (.nx e)
  | .rt r=>.ok (.rt r)⟩)) else .ok (.nx p.2)⟩):=id rfl
theorem x_sPut:xA i f g env=Res.bnd (g env) (f:=⟨fun (p:R×PV.Env)=>Res.bnd (f p.2) (f:=⟨fun (q:R×PV.Env)=>match p.2[i]?,q.2[i]? with
 | some (some _),some (some (.d,.dct tk ks vs))=>if dD tk q.1.2 && decide (ks.length < sizeLine) then .ok (.nx (q.2.set i (some (.d,.dct tk (mF ks vs q.1.2 p.1.2).1 (mF ks vs q.1.2 p.1.2).2)))) else .bad
 | _,_=>.bad⟩)⟩):=id rfl
theorem x_sAsg:z9 f a env=Res.bnd (f env) (f:=⟨fun p=>Res.bnd (a p.1.2 p.2) (f:=⟨fun e=>.ok (.nx e)⟩)⟩):=id rfl
theorem bM (ds:List D) (nn:Nat) (h:ds.length=n):fBody n nn s ds=Res.bnd (s (ds.map (fun d=>some (O.f,d))++List.replicate nn none)) (f:=⟨fun o=>match o with
 | .rt r=>.ok r
 | .nx _=>.ok (.f,.non)
 | _=>.bad⟩):=by
 unfold fBody
 rw [if_pos h]
 all_goals cases s (ds.map (fun d=>some (O.f,d))++List.replicate nn none) with
 | ok o=>cases o <;> rfl
 | exc c=>rfl
 | bad=>rfl
end
theorem line_le {n:Nat} (h:n≤16777216):n≤sizeLine:=by rw [line_eq];exact h
section
variable (a b:Int) (x y:List Nat) (p q:Bool) (ds es:List D)
theorem BZ:eqO (.int a) (.int b)=.ok (.f,.bl (a == b)):=by simp only [eqO,plainD,eqD,Bool.and_self,if_true]
theorem B0:eqO (.str x) (.str y)=.ok (.f,.bl (x == y)):=by simp only [eqO,plainD,eqD,Bool.and_self,if_true]
theorem B1:neO (.int a) (.int b)=.ok (.f,.bl (!(a == b))):=by simp only [neO,plainD,eqD,Bool.and_self,if_true]
theorem B2:neO (.str x) (.str y)=.ok (.f,.bl (!(x == y))):=by simp only [neO,plainD,eqD,Bool.and_self,if_true]
theorem B3:neO (.bl p) (.bl q)=.ok (.f,.bl (!(p == q))):=by simp only [neO,plainD,eqD,Bool.and_self,if_true]
theorem Ap:addD (.int a) (.int b)=.ok (.f,.int (a + b)):=id rfl
theorem Aq:qw (.int a) (.int b)=.ok (.f,.int (a - b)):=id rfl
theorem xS:my (.int a) (.int b)=if 0 < b∧b < 1073741824 then .ok (.f,.int (a / b)) else .bad:=id rfl
theorem Ar:dF (.int a) (.int b)=if 0 < b then .ok (.f,.int (a % b)) else .bad:=id rfl
theorem As:qx (.int a) (.int b)=if 0≤b∧b≤1000000∧a.natAbs < 2 ^ 64 then .ok (.f,.int (a ^ b.toNat)) else .bad:=id rfl
theorem B4:ltO (.int a) (.int b)=.ok (.f,.bl (decide (a < b))):=id rfl
theorem B5:ltO (.str x) (.str y)=.ok (.f,.bl (decide (x < y))):=id rfl
theorem B6:leD (.int a) (.int b)=.ok (.f,.bl (decide (a≤b))):=id rfl
theorem B7:leD (.str x) (.str y)=.ok (.f,.bl (!decide (y < x))):=id rfl
theorem B8:gtD (.int a) (.int b)=.ok (.f,.bl (decide (b < a))):=id rfl
theorem B9:geO (.int a) (.int b)=.ok (.f,.bl (decide (b≤a))):=id rfl
theorem Au:ft [.lst ds]=.ok (.f,.int ds.length):=id rfl
theorem Av:ft [.tup ds]=.ok (.f,.int ds.length):=id rfl
theorem Aw:ft [.str x]=.ok (.f,.int x.length):=id rfl
theorem Ax (tk:Bool):ft [.dct tk ds es]=.ok (.f,.int ds.length):=id rfl
theorem xT:p9 [.lst ds]=.ok (.l .f,.lst ds):=id rfl
theorem xU:p9 [.tup ds]=.ok (.l .f,.lst ds):=id rfl
theorem uR:iI [.lst ds]=.ok (.f,.tup ds):=id rfl
theorem uS:iI [.tup ds]=.ok (.f,.tup ds):=id rfl
theorem Ay:Dn [.bl p]=.ok (.f,.int (if p then 1 else 0)):=id rfl
theorem Az:ixD (.lst ds) (.int a)=match atI ds a with | some d=>.ok (.f,d) | none=>.bad:=id rfl
theorem Ca:ixD (.tup ds) (.int a)=match atI ds a with | some d=>.ok (.f,d) | none=>.bad:=id rfl
theorem Cb:ixD (.str x) (.int a)=match atI x a with | some c=>.ok (.f,.str [c]) | none=>.bad:=id rfl
theorem Cc (lo hi:Option Int):slD (.lst ds) lo hi=.ok (.l .f,.lst (i7 ds lo hi)):=id rfl
theorem Cd (lo hi:Option Int):slD (.str x) lo hi=.ok (.f,.str (i7 x lo hi)):=id rfl
theorem AA:maxD [.int a,.int b]=.ok (.f,.int (if a < b then b else a)):=id rfl
theorem AB (bs:List Bool):CG [.lst (bs.map D.bl)]=.ok (.f,.bl (bs.all id)):=by
 unfold CG
 show (match rY (bs.map D.bl) with | some bs=>_ | none=>_)=_
 rw [rZ]
theorem Ce:isO (.bl p) (.bl q)=.ok (.f,.bl (p == q)):=id rfl
theorem AD:isnO (.bl p) (.bl q)=.ok (.f,.bl (!(p == q))):=id rfl
theorem at0 {α:Type} (d:α) (l:List α):atI (d :: l) 0=some d:=by
 have:=eg (xs:=d :: l) (j:=0) (v:=d) rfl
 simpa using this
theorem at1 {α:Type} (c d:α) (l:List α):atI (c :: d :: l) 1=some d:=by
 have:=eg (xs:=c :: d :: l) (j:=1) (v:=d) rfl
 simpa using this
end
theorem flat_ints (l:List Int):flatDs (l.map D.int)=true:=by
 rw [bC,List.all_map,List.all_eq_true]
 intro b _
 rfl
theorem uT (l:List Bool):flatDs (l.map D.bl)=true:=by
 rw [bC,List.all_map,List.all_eq_true]
 intro b _
 rfl
theorem flat_strs (l:List (List Nat)):flatDs (l.map D.str)=true:=by
 rw [bC,List.all_map,List.all_eq_true]
 intro b _
 rfl
theorem xV (d:D):a8 .f d=cH d:=by rw [a8]
theorem uU (ds:List D):a8 (.l .f) (.lst ds)=flatDs ds:=by rw [a8,g0]
theorem pD (i:Int):cH (.int i)=true:=by rw [cH];all_goals simp
theorem xW (i:Bool):cH (.bl i)=true:=by rw [cH];all_goals simp
theorem uV (i:List Nat):cH (.str i)=true:=by rw [cH];all_goals simp
theorem f6 (ds:List D):cH (.tup ds)=flatDs ds:=by rw [cH]
theorem qj (n:Nat) (l:List Int):plainDs n (l.map D.int)=true:=by
 induction l with
 | nil=>rfl
 | cons a l ih=>rw [List.map_cons,plainDs,ih,plainD];all_goals simp
theorem qk (n:Nat) (l:List (List Nat)):plainDs n (l.map D.str)=true:=by
 induction l with
 | nil=>rfl
 | cons a l ih=>rw [List.map_cons,plainDs,ih,plainD];all_goals simp
theorem uW (a:Int) (l:List Int):qy (.int a) (l.map D.int)=decide (a∈l):=by
 unfold qy
 rw [List.any_map,Bool.eq_iff_iff,List.any_eq_true,decide_eq_true_eq]
 constructor
 ·rintro ⟨x,hx,e⟩
  have e:eqD (.int x) (.int a)=true:=e
  rw [eqD,beq_iff_eq] at e
  rw [←e]
  exact hx
 ·intro h
  refine ⟨a,h,?_⟩
  show eqD (.int a) (.int a)=true
  rw [eqD,beq_self_eq_true]
theorem uX (a:List Nat) (l:List (List Nat)):qy (.str a) (l.map D.str)=decide (a∈l):=by
 unfold qy
 rw [List.any_map,Bool.eq_iff_iff,List.any_eq_true,decide_eq_true_eq]
 constructor
 ·rintro ⟨x,hx,e⟩
  have e:eqD (.str x) (.str a)=true:=e
  rw [eqD,beq_iff_eq] at e
  rw [←e]
  exact hx
 ·intro h
  refine ⟨a,h,?_⟩
  show eqD (.str a) (.str a)=true
  rw [eqD,beq_self_eq_true]
theorem wa (a:Int) (l:List Int):inO (.int a) (.lst (l.map D.int))=.ok (.f,.bl (decide (a∈l))):=by
 unfold inO
 dsimp only
 rw [qj,uW,plainD]
 all_goals simp
theorem xX (a:Int) (l:List Int):r6 (.int a) (.lst (l.map D.int))=.ok (.f,.bl (!decide (a∈l))):=by
 unfold r6
 rw [wa]
 rfl
theorem AE (a:List Nat) (l:List (List Nat)):inO (.str a) (.tup (l.map D.str))=.ok (.f,.bl (decide (a∈l))):=by
 unfold inO
 dsimp only
 rw [qk,uX,plainD]
 all_goals simp
theorem pE {α:Type} {a:FG} {c:FT} {f:FX} {e:α→D} {p:α→Bool} {r:α→D} (I:PV.Env→Prop) (l:List α)
  (h:∀ x∈l,∀ env,I env→∃ env1,a (e x) env=.ok env1∧∃ env2,c env1=.ok (p x,env2)∧if p x then ∃ o env3,f env2=.ok ((o,r x),env3)∧I env3 else I env2):∀ env,I env→dt a c f (l.map e) env=.ok ((l.filter p).map r):=by
 induction l with
 | nil=>intro env _;rfl
 | cons x l ih=>
  intro env hI
  obtain ⟨env1,h1,env2,h2,h3⟩:=h x List.mem_cons_self env hI
  have ih:=ih fun y hy=>h y (List.mem_cons_of_mem _ hy)
  rw [List.map_cons,x_compLC,h1,bOk,h2,bOk]
  cases hp:p x with
  | true=>
   rw [hp] at h3
   obtain ⟨o,env3,h4,h5⟩:=h3
   rw [if_pos rfl,h4,bOk,ih env3 h5,bOk,List.filter_cons_of_pos hp]
   rfl
  | false=>
   rw [hp] at h3
   rw [if_neg Bool.false_ne_true,ih env2 h3,List.filter_cons_of_neg (by rw [hp];exact Bool.false_ne_true)]
theorem c7 {α:Type} {a:FG} {f:FX} {e:α→D} {r:α→D} (I:PV.Env→Prop) (l:List α)
  (h:∀ x∈l,∀ env,I env→∃ env1,a (e x) env=.ok env1∧∃ o env3,f env1=.ok ((o,r x),env3)∧I env3):∀ env,I env→dt a ik f (l.map e) env=.ok (l.map r):=by
 induction l with
 | nil=>intro env _;rfl
 | cons x l ih=>
  intro env hI
  obtain ⟨env1,h1,o,env3,h4,h5⟩:=h x List.mem_cons_self env hI
  have ih:=ih fun y hy=>h y (List.mem_cons_of_mem _ hy)
  rw [List.map_cons,x_compLC,h1,bOk,x_cYes,bOk,if_pos rfl,h4,bOk,ih env3 h5]
  rfl
theorem xY {a:FG} {g:FS} (P:Nat→PV.Env→Prop) (ds:List D) (h:∀ i d env,ds[i]?=some d→P i env→∃ env1,a d env=.ok env1∧∃ env2,(g env1=.ok (.nx env2)∨g env1=.ok (.ct env2))∧P (i + 1) env2) :
  ∀ env,P 0 env→∃ env',kh a g ds env=.ok (.nx env')∧P ds.length env':=by
 have key:∀ (l:List D) (k:Nat) (env:PV.Env),(∀ i d,l[i]?=some d→ds[k + i]?=some d)→P k env→∃ env',kh a g l env=.ok (.nx env')∧P (k + l.length) env':=by
  intro l
  induction l with
  | nil=>exact fun k env _ hp=>⟨env,rfl,hp⟩
  | cons d l ih=>
   intro k env hd hp
   obtain ⟨env1,h1,env2,h2,h3⟩:=h k d env (hd 0 d rfl) hp
   obtain ⟨env',h4,h5⟩:=ih (k + 1) env2 (fun i d e=>by have:=hd (i + 1) d (by simpa using e);rw [show k + 1 + i=k + (i + 1) by lia];exact this) h3
   refine ⟨env',?_,by rw [List.length_cons,show k + (l.length + 1)=k + 1 + l.length by lia];exact h5⟩
   rw [x_forLC,h1,bOk]
   rcases h2 with h2 | h2
   ·rw [h2,bOk]
    exact h4
   ·rw [h2,bOk]
    exact h4
 intro env hp
 obtain ⟨env',h1,h2⟩:=key ds 0 env (fun i d e=>by rw [Nat.zero_add];exact e) hp
 exact ⟨env',h1,by rw [Nat.zero_add] at h2;exact h2⟩
section
variable (env:PV.Env) (fo:FO) (fp fp':FP) (a b:Int) (ds:List D) (x:List Nat)
theorem x_eSlW:vW fo fp fp' env=Res.bnd (fo env) (f:=⟨fun p=>Res.bnd (fp p.2) (f:=⟨fun q=>Res.bnd (fp' q.2) (f:=⟨fun t=>Res.bnd (der t.2 p.1) (f:=⟨fun d=>Res.bnd (slO d q.1 t.1) (f:=⟨fun r=>.ok (r,t.2)⟩)⟩)⟩)⟩)⟩):=id rfl
theorem x_eNeg:Dr fo env=Res.bnd (fo env) (f:=⟨fun p=>Res.bnd (der p.2 p.1) (f:=⟨fun d=>match d with
 | .int i=>.ok ((.f,.int (-i)),p.2)
 | _=>.bad⟩)⟩):=id rfl
theorem AF (lo hi:Option Int):slO (.lst ds) lo hi=.ok (.l .f,.lst (i7 ds lo hi)):=id rfl
theorem AG (lo hi:Option Int):slO (.str x) lo hi=.ok (.f,.str (i7 x lo hi)):=id rfl
theorem sI (lo hi:Option Int) (h:HT.sIx ds.length 0 lo=0∧HT.sIx ds.length ds.length hi=ds.length):i7 ds lo hi=ds:=by
 unfold i7
 rw [h.1,h.2,List.drop_zero,Nat.sub_zero,List.take_of_length_le (Nat.le_refl _)]
theorem AH (lo hi:Option Int):slO (.tup ds) lo hi=.ok (.f,.tup (i7 ds lo hi)):=by
 unfold slO
 dsimp only
 split
 ·rename_i h
  rw [sI ds lo hi h]
 ·rename_i h
  unfold slD
  dsimp only
  rw [if_pos h]
theorem sJ:yB (.int a) (.int b)=if cn a || cn b then .ok (.f,.int (a * b)) else if a.natAbs < 2 ^ 1000∧b.natAbs < 2 ^ 1000 then .ok (.f,.int (a * b)) else .bad:=id rfl
end
section
variable (env:PV.Env) (fo:FO) (fs:FOs) (f g:FX) (a b c:Int) (ds es:List D) (x y:List Nat)
theorem x_eMtT (gg:List D→List D→Res R):Ag gg fo fs env=Res.bnd (fo env) (f:=⟨fun p=>Res.bnd (der p.2 p.1) (f:=⟨fun d=>match d with
 | .tup _=>Res.bnd (fs p.2) (f:=⟨fun q=>Res.bnd (der q.2 p.1) (f:=⟨fun d2=>match d2 with
  | .tup l=>Res.bnd (lO q.2 q.1) (f:=⟨fun ds=>Res.bnd (gg l ds) (f:=⟨fun r=>.ok (r,q.2)⟩)⟩)
  | _=>.bad⟩)⟩)
 | _=>.bad⟩)⟩):=id rfl
theorem x_iRange3:xG fs env=Res.bnd (fs env) (f:=⟨fun p=>Res.bnd (lO p.2 p.1) (f:=⟨fun d=>match d with
 | [.int i,.int j,.int c]=>if pj i j c then .ok ((List.range (Builtin.Range.rangeSize i j c).toNat).map fun (k:Nat)=>D.int (i + (k:Int) * c),p.2) else .bad
 | _=>.bad⟩)⟩):=id rfl
theorem CH (d:D):(∃ l,iw true d=.ok l∧iw false d=.bad∧lh d=some l)∨(∃ l,iw true d=.bad∧iw false d=.ok l∧lh d=some l)∨(iw true d=.bad∧iw false d=.bad∧lh d=none):=by
 cases d with
 | lst l=>exact .inl ⟨l,rfl,rfl,rfl⟩
 | tup l=>exact .inr (.inl ⟨l,rfl,rfl,rfl⟩)
 | _=>exact .inr (.inr ⟨rfl,rfl,rfl⟩)
noncomputable def uY (k1 k2:Bool) (e:PV.Env) (d1 d2:D):Res (List D×PV.Env):=(iw k1 d1).bind fun a=>(iw k2 d2).bind fun b=>.ok ((a.zip b).map fun z=>D.tup [z.1,z.2],e)
noncomputable def Cf (e:PV.Env) (d1 d2:D):Res (List D×PV.Env):=match lh d1,lh d2 with | some a,some b=>.ok ((a.zip b).map fun z=>D.tup [z.1,z.2],e) | _,_=>.bad
noncomputable def orR (a b:Res (List D×PV.Env)):Res (List D×PV.Env):=match a with | .ok a=>.ok a | _=>b
noncomputable def tN (g:D→D→Res (List D×PV.Env)) (os:List Opd):Res (List D×PV.Env):=match os with | [.val d1,.val d2]=>g d1 d2 | _=>.bad
theorem og (g h:D→D→Res (List D×PV.Env)) (os:List Opd):orR (tN g os) (tN h os)=tN (fun a b=>orR (g a b) (h a b)) os:=by
 unfold tN
 split <;> rfl
theorem xZ (e:PV.Env) (a b:D):orR (uY true true e a b) (orR (uY true false e a b) (orR (uY false true e a b) (uY false false e a b)))=Cf e a b:=by
 unfold uY Cf
 rcases CH a with ⟨l,h1,h2,h3⟩ | ⟨l,h1,h2,h3⟩ | ⟨h1,h2,h3⟩ <;> rcases CH b with ⟨m,i1,i2,i3⟩ | ⟨m,i1,i2,i3⟩ | ⟨i1,i2,i3⟩ <;> rw [h1,h2,h3,i1,i2,i3] <;> rfl
theorem x_iZipA:nL fs env=Res.bnd (fs env) (f:=⟨fun p=>match p.1 with
 | [.val d1,.val d2]=>(match lh d1,lh d2 with | some a,some b=>.ok ((a.zip b).map fun z=>D.tup [z.1,z.2],p.2) | _,_=>.bad)
 | _=>.bad⟩):=by
 unfold nL
 rw [n0,n0,n0,x_iZipD,x_iZipD,x_iZipD,x_iZipD]
 cases fs env with
 | ok p=>
  show orR (tN (uY true true p.2) p.1) (orR (tN (uY true false p.2) p.1) (orR (tN (uY false true p.2) p.1) (tN (uY false false p.2) p.1)))=tN (Cf p.2) p.1
  rw [og,og,og]
  exact congrArg (fun g=>tN g p.1) (funext fun a=>funext fun b=>xZ p.2 a b)
 | _=>rfl
theorem x_seqDL:lh (.lst ds)=some ds:=id rfl
theorem x_seqDT:lh (.tup ds)=some ds:=id rfl
theorem x_sPutL (i:Nat):sr i f g env=Res.bnd (g env) (f:=⟨fun (p:R×PV.Env)=>Res.bnd (f p.2) (f:=⟨fun (q:R×PV.Env)=>match p.2[i]?,q.2[i]? with
 | some (some _),some (some (.l .f,.lst ds))=>(match q.1.2 with
  | .int k=>(match ixN ds.length k with
   | some j=>.ok (.nx (q.2.set i (some (.l .f,.lst (ds.set j p.1.2)))))
   | none=>.bad)
  | _=>.bad)
 | _,_=>.bad⟩)⟩):=id rfl
theorem x3:m7 (.int a) (.int b)=yB (.int a) (.int b):=id rfl
theorem x_eDict1:pw f g env=Res.bnd (f env) (f:=⟨fun p=>Res.bnd (g p.2) (f:=⟨fun q=>if dD false p.1.2 then .ok ((.d,.dct false [p.1.2] [q.1.2]),q.2) else .bad⟩)⟩):=id rfl
theorem AI (d:D):inP d (.lst ds)=inO d (.lst ds):=id rfl
theorem AJ (d:D):inP d (.tup ds)=inO d (.tup ds):=id rfl
theorem AK (d:D):inP d (.str x)=inO d (.str x):=id rfl
theorem x4 (d:D):xK d (.lst ds)=r6 d (.lst ds):=id rfl
theorem x5 (d:D):xK d (.tup ds)=r6 d (.tup ds):=id rfl
theorem AL:dD false (.int a)=true:=id rfl
theorem AM:dD false (.str x)=true:=id rfl
theorem AN:Bh [.int a,.int b]=.ok (.f,.int (if b < a then b else a)):=id rfl
theorem Cg:Ds [.int a]=.ok (.f,.int (if a < 0 then -a else a)):=id rfl
theorem x6:cS (.int a) (.int b)=.ok (.f,.int (a + b)):=id rfl
theorem x9:cS (.str x) (.str y)=if x.length + y.length≤sizeLine then .ok (.f,.str (x++y)) else .bad:=id rfl
theorem ya:cS (.lst ds) (.lst es)=if ds.length + es.length≤sizeLine then .ok (.l .f,.lst (ds++es)) else .bad:=id rfl
theorem yb:cS (.tup ds) (.tup es)=if ds.length + es.length≤sizeLine∨ds=[] then .ok (.f,.tup (ds++es)) else .bad:=by
 unfold cS
 cases ds with
 | nil=>rw [if_pos (.inr rfl)];rfl
 | cons d ds=>
  dsimp only
  unfold addD
  dsimp only
  by_cases h:(d :: ds).length + es.length≤sizeLine
  ·rw [if_pos ⟨nofun,h⟩,if_pos (.inl h)]
  ·rw [if_neg (fun z=>h z.2),if_neg (fun z=>z.elim h nofun)]
end
section
variable (env:PV.Env) (f g:FX) (ds ks:List D) (i:Nat)
end
section
variable (env:PV.Env) (f:FX) (fs:FOs) (ds:List D) (i:Nat)
theorem wb:hW i env=match env[i]? with
 | some (some (ow,.lst ds))=>if isLf ow then (match ds.getLast? with
  | some d=>.ok ((.f,d),env.set i (some (ow,.lst ds.dropLast)))
  | none=>.bad) else .bad
 | _=>.bad:=id rfl
theorem oh (p:Addr):isLf (.pin p (.l .f))=true:=id rfl
theorem pF:nQ (.l .f) (.l .f)=true:=id rfl
theorem lD:nO i f env=Res.bnd (f env) (f:=⟨fun (p:R×PV.Env)=>match p.2[i]? with
 | some (some (.pin q c,d))=>.ok (.rt (.t [p.1.1,.pin q c],.tup [p.1.2,d]))
 | _=>.bad⟩):=by
 first
  | exact id rfl
  | (unfold nO;rfl)
theorem pG (fi:FI) (ix:List (Option Nat)) (j k0:Nat) (a:FG) (c:FT):pB fi ix j k0 a c f env=Res.bnd (fi env) (f:=⟨fun (p:List D×PV.Env)=>match p.2[j]? with
 | some (some (ow,.lst d0))=>if isLf ow then Res.bnd (qc a c f p.1 (fun q=>(bZ ix (p.2.set j none)).set k0 (some (.pin q (.l .f),.lst d0))) k0) (f:=⟨fun x=>if x.1.length≤sizeLine∧flatDs x.1=true∧flatDs x.2=true then .ok ((.l .f,.lst x.1),p.2.set j (some (ow,.lst x.2))) else .bad⟩) else .bad
 | _=>.bad⟩):=id rfl
theorem jo (np nn:Nat) (c:O) (g:FS) (p:Addr) (d0:D) (h:ds.length + 1=np):iL np nn c g p (d0 :: ds)=Res.bnd (g (some (.pin p c,d0) :: (ds.map (fun d=>some (O.f,d))++List.replicate nn none))) (f:=⟨fun o=>match o with
  | .rt r=>.ok r
  | _=>.bad⟩):=by
 unfold iL
 dsimp only
 rw [if_pos h]
 rfl
end
noncomputable def pv:=(And.intro @bOk (And.intro @bBad (And.intro @x_eCon (And.intro @x_eVarF (And.intro @x_eVarM (And.intro @x_oVal (And.intro @x_oVar (And.intro @x_osNil (And.intro @x_osCons (And.intro @x_dsNil (And.intro @x_dsCons (And.intro @x_derV (And.intro @x_derI (And.intro @x_derAV (And.intro @x_derAI (And.intro @x_dersN (And.intro @x_dersC (And.intro @x_dersAN (And.intro @x_dersAC (And.intro @x_shalF (And.intro @x_shalL (And.intro @x_shalD (And.intro @x_eBin (And.intro @x_eBinA (And.intro @x_eBl (And.intro @x_bAnd (And.intro @x_bOr (And.intro @x_bNot (And.intro @x_eAnd (And.intro @x_eOr (And.intro @x_eNot (And.intro @x_eIf (And.intro @x_eChain (And.intro @x_eCall (And.intro @x_eFun (And.intro @x_eTup (And.intro @x_eLst (And.intro @x_eSl (And.intro @x_eSlW (And.intro @x_eNeg (And.intro @x_pNone (And.intro @x_pSome (And.intro @x_eApp (And.intro @x_isLst (And.intro @x_eIs (And.intro @x_eMaxD (And.intro @x_eMtS (And.intro @x_eNewD (And.intro @x_eComp (And.intro @x_compEnvN (And.intro @x_compEnvO (And.intro @x_compEnvS (And.intro @x_cYes (And.intro @x_compLN (And.intro @x_compLC (And.intro @x_iAny (And.intro @x_iAnyV (And.intro @x_iRange1 (And.intro @x_iRange2 (And.intro @x_iZipD (And.intro @x_aName (And.intro @x_asNil (And.intro @x_asCons (And.intro @x_aTup (And.intro @x_sSeq (And.intro @x_sPass (And.intro @x_sSet (And.intro @x_sDrop (And.intro @x_sRet (And.intro @x_sIf (And.intro @x_sFor (And.intro @x_forLN (And.intro @x_forLC (And.intro @x_sWhile (And.intro @x_sPut (And.intro @x_sAsg (And.intro @List.getElem?_cons_zero.{0} (And.intro @List.getElem?_cons_succ.{0} (And.intro @List.set_cons_zero.{0} (And.intro @List.set_cons_succ.{0} (And.intro @List.length_cons.{0} (And.intro @List.length_nil.{0} (And.intro @List.map_cons.{0,0} (And.intro @List.map_nil.{0,0} (And.intro @List.replicate_succ.{0} (And.intro @List.replicate_zero.{0} (And.intro @List.cons_append.{0} (And.intro @List.nil_append.{0} (And.intro @Nat.zero_add (And.intro @x_eMtT (And.intro @x_iRange3 (And.intro @x_iZipA (And.intro @x_seqDL (And.intro @x_seqDT (And.intro @x_sPutL (And.intro @x_eDict1 (And.intro @x_fzF (And.intro @x_fzL (And.intro @x_fzT (And.intro @x_fzD (And.intro @x_fzP (And.intro @x_fzPL (And.intro @x_fzPD (And.intro @x_shalP (And.intro @x_shalPL @x_shalPD)))))))))))))))))))))))))))))))))))))))))))))))))))))))))))))))))))))))))))))))))))))))))))))))))))))))))
noncomputable def op:=(And.intro @BZ (And.intro @B0 (And.intro @B1 (And.intro @B2 (And.intro @B3 (And.intro @Ap (And.intro @Aq (And.intro @B4 (And.intro @B5 (And.intro @B6 (And.intro @B7 (And.intro @B8 (And.intro @B9 (And.intro @Au (And.intro @Av (And.intro @Aw (And.intro @Ax (And.intro @xT (And.intro @xU (And.intro @uR (And.intro @uS (And.intro @Ay (And.intro @Az (And.intro @Ca (And.intro @Cb (And.intro @Cc (And.intro @Cd (And.intro @AF (And.intro @AG (And.intro @AH (And.intro @AA (And.intro @Ce (And.intro @AD (And.intro @at0 (And.intro @at1 (And.intro @wa (And.intro @xX (And.intro @AE (And.intro @AB (And.intro @xV (And.intro @uU (And.intro @pD (And.intro @xW (And.intro @uV (And.intro @flat_ints (And.intro @uT (And.intro @PV.flat_strs (And.intro @f6 (And.intro @AN (And.intro @Cg (And.intro @x6 (And.intro @x3 (And.intro @AI (And.intro @AJ (And.intro @AK (And.intro @x4 (And.intro @x5 (And.intro @AL @AM))))))))))))))))))))))))))))))))))))))))))))))))))))))))))
end PV
namespace LW
open PySem L2 NX PV
theorem for_list {α:Type} {a:FG} {g:FS} {e:α→D} (l:List α) (P:Nat→PV.Env→Prop)
  (h:∀ k x env,l[k]?=some x→P k env→∃ env1,a (e x) env=.ok env1∧∃ env2,g env1=.ok (.nx env2)∧P (k + 1) env2):∀ env,P 0 env→∃ env',kh a g (l.map e) env=.ok (.nx env')∧P l.length env':=by
 intro env h0
 have:=xY (a:=a) (g:=g) P (l.map e) (fun i d env hi hp=>by
  rw [List.getElem?_map,Option.map_eq_some_iff] at hi
  obtain ⟨x,hx,rfl⟩:=hi
  obtain ⟨env1,h1,env2,h2,h3⟩:=h i x env hx hp
  exact ⟨env1,h1,env2,.inl h2,h3⟩) env h0
 rwa [List.length_map] at this
theorem lE {a:FG} {g:FS} {e:Nat→D} (n:Nat) (P:Nat→PV.Env→Prop)
  (h:∀ k env,k < n→P k env→∃ env1,a (e k) env=.ok env1∧∃ env2,g env1=.ok (.nx env2)∧P (k + 1) env2):∀ env,P 0 env→∃ env',kh a g ((List.range n).map e) env=.ok (.nx env')∧P n env':=by
 intro env h0
 have:=for_list (a:=a) (g:=g) (e:=e) (List.range n) P (fun k x env hk hp=>by
  obtain ⟨h1,h2⟩:=List.getElem?_eq_some_iff.mp hk
  rw [List.length_range] at h1
  rw [List.getElem_range] at h2
  subst h2
  exact h k env h1 hp) env h0
 rwa [List.length_range] at this
theorem ay {s t:FS} {env env':PV.Env} (h:s env=.ok (.nx env')):sSeq s t env=t env':=by rw [x_sSeq,h,bOk]
theorem b9 {ds:List D} (h:ds.length≤16777216):ds.length≤sizeLine:=line_le h
theorem pH {l:List Int} {k:Nat} (h:k < l.length):atI (l.map D.int) (k:Int)=some (.int (l.getD k 0)):=eg (by rw [List.getElem?_map,List.getD_eq_getElem?_getD,List.getElem?_eq_getElem h];rfl)
theorem at2 {α:Type} (a b c:α):atI [a,b,c] (2:Int)=some c:=rfl
theorem d7:∀ l:List (List Nat),gq (l.map D.str)=some l
 | []=>rfl
 | a :: l=>by
  rw [List.map_cons,gq,d7 l]
  rfl
theorem oi (x y:D) (t1 t2:Option R) (dh:PV.Env):kl 2 (aK (aB 0) (aK (aB 1) dX)) (.tup [x,y]) (t1 :: t2 :: dh)=.ok (some (.f,x) :: some (.f,y) :: dh):=by
 rw [x_aTup,if_pos (by simp),x_asCons,x_aName,if_pos (by simp),bOk,x_asCons,x_aName,if_pos (by simp),bOk]
 rfl
theorem mU {α:Type} (lt:α→α→Bool) (l:List α):(bG lt l).length=l.length:=(d3 lt l).length_eq
theorem yc (l:List (List Nat)) (h:l.length < 64):cV [.lst (l.map D.str)]=.ok (.l .f,.lst ((bG ltS l).map D.str)):=by
 unfold cV
 dsimp only
 rw [if_pos (by rw [List.length_map];exact h)]
 unfold jK
 cases l with
 | nil=>rfl
 | cons a l=>
  have e:cD ((a :: l).map D.str)=none:=rfl
  rw [e,d7]
noncomputable def mV:List Nat:=[109,111,118,101,115]
noncomputable def LET:List Nat:=[97,98,99,100,101,102,103,104,105,106,107,108,109,110,111,112,113,114,115,116,117,118,119,120,121,122]
theorem AO (j:Nat) (h:j < 26):LET[j]?=some (97 + j):=by
 have:∀ j:_root_.Fin 26,LET[j.1]?=some (97 + j.1):=by decide
 exact this ⟨j,h⟩
theorem AQ (j:Int) (h0:0≤j) (h:j < 26):atI LET j=some (97 + j.toNat):=by
 obtain ⟨n,rfl⟩:=Int.eq_ofNat_of_zero_le h0
 exact eg (AO n (by lia))
theorem dB (x b:Int) (h:0 < b):0≤x % b∧x % b < b:=⟨Int.emod_nonneg _ (by lia),Int.emod_lt_of_pos _ h⟩
theorem CI (n:Nat) (h:n≤200):qx (.int 10) (.int (n:Int))=.ok (.f,.int (10 ^ n)):=by
 rw [As,if_pos (by lia),Int.toNat_natCast]
theorem fg (x b:Int) (h:0 < b):dF (.int x) (.int b)=.ok (.f,.int (x % b)):=by rw [Ar,if_pos h]
theorem u0 (x b:Int) (h:0 < b) (h2:b < 1073741824):my (.int x) (.int b)=.ok (.f,.int (x / b)):=by rw [xS,if_pos ⟨h,h2⟩]
theorem mW (k:Nat) (h:k≤1000000):cn (k:Int)=true:=by
 unfold cn
 rw [decide_eq_true_eq]
 lia
theorem Dz (x y:List Nat) (h:x.length + y.length≤1000):cS (.str x) (.str y)=.ok (.f,.str (x++y)):=by rw [x9,if_pos (line_le (by lia))]
noncomputable def fix (t:List Nat):List Nat:=if t == mV then [109,111,118,101,115,97] else t
theorem pI {α:Type} (l:List α) (k:Nat):i7 l none (some (k:Int))=l.take k:=by
 unfold i7
 rw [HT.oK,HT.qP,List.drop_zero,Nat.sub_zero]
 by_cases h:k≤l.length
 ·rw [Nat.min_eq_left h]
 ·rw [Nat.min_eq_right (by lia),List.take_of_length_le (Nat.le_refl _),List.take_of_length_le (by lia)]
theorem u6 {α:Type} (l:List α) (k:Nat):i7 l (some (k:Int)) none=l.drop k:=by
 unfold i7
 rw [HT.oK,HT.qP]
 by_cases h:k≤l.length
 ·rw [Nat.min_eq_left h,List.take_of_length_le (by rw [List.length_drop];exact Nat.le_refl _)]
 ·rw [Nat.min_eq_right (by lia),List.drop_eq_nil_of_le (Nat.le_refl _),List.drop_eq_nil_of_le (by lia),List.take_nil]
theorem yd {s t:List Nat} (h:s.length=t.length) (e:fix s=fix t):s=t:=by
 unfold fix at e
 cases h1:s == mV with
 | true=>
  cases h2:t == mV with
  | true=>rw [beq_iff_eq.mp h1,beq_iff_eq.mp h2]
  | false=>
   rw [h1,h2,if_pos rfl,if_neg Bool.false_ne_true] at e
   rw [←e,beq_iff_eq.mp h1] at h
   cases h
 | false=>
  cases h2:t == mV with
  | true=>
   rw [h1,h2,if_pos rfl,if_neg Bool.false_ne_true] at e
   rw [e,beq_iff_eq.mp h2] at h
   cases h
  | false=>
   rw [h1,h2,if_neg Bool.false_ne_true,if_neg Bool.false_ne_true] at e
   exact e
theorem fP {α:Type} (f:Nat→α) (n:Nat) (h:∀ i j,i < n→j < n→f i=f j→i=j):((List.range n).map f).Nodup:=by
 rw [List.nodup_iff_pairwise_ne,List.pairwise_map]
 refine List.pairwise_lt_range.imp_of_mem fun {a b} ha hb hl e=>?_
 have:=h a b (List.mem_range.mp ha) (List.mem_range.mp hb) e
 lia
theorem j6 (x:Int) (h : -1000000≤x) (h2:x≤1000000):cn x=true:=by
 unfold cn
 rw [decide_eq_true_eq]
 lia
theorem sL (d:D) (h:plainD 40 d=true):eqO d d=.ok (.f,.bl true):=by
 unfold eqO
 rw [h,jk d 40 h]
 rfl
theorem CJ {c:FT} {s t:FS} {env env':PV.Env} (h:c env=.ok (false,env')):sIf c s t env=t env':=by rw [x_sIf,h,bOk];rfl
theorem ye (n k:Nat) (h:k < n):ixN n (k:Int)=some k:=by
 unfold ixN
 rw [if_pos (by lia),if_pos (by lia)]
 rfl
theorem AR (l:List Int):zW [.lst (l.map D.int)]=.ok (.f,.int l.sum):=by
 unfold zW
 dsimp only
 have:(lh (D.lst (l.map D.int))).bind cD=some l:=kC l
 rw [this]
theorem DA (b:Int):tM "bool" (.int b)=false:=rfl
theorem DB (b:Int):tM "int" (.int b)=true:=rfl
theorem isT (ds:List D):tM "tuple" (.tup ds)=true:=rfl
theorem ve {α:Type} {a:FG} {g:FS} {e:α→D} (l:List α) (env:Option R→PV.Env) (h:∀ x∈l,∀ t,∃ t',a (e x) (env t)=.ok (env t')∧g (env t')=.ok (.nx (env t'))) (t:Option R):∃ t',kh a g (l.map e) (env t)=.ok (.nx (env t')):=by
 obtain ⟨env',ef,t',rfl⟩:=for_list (a:=a) (g:=g) (e:=e) l (fun _ E=>∃ t,E=env t) (by
  rintro k x E hk ⟨t,rfl⟩
  obtain ⟨t',h1,h2⟩:=h x (List.mem_of_getElem? hk) t
  exact ⟨_,h1,_,h2,t',rfl⟩) _ ⟨t,rfl⟩
 exact ⟨t',ef⟩
theorem j7 {c:FT} {g:FS} (P:Nat→PV.Env→Prop) (fin:PV.Env→Prop) (h:∀ k env,P k env→(∃ env1,c env=.ok (false,env1)∧fin env1)∨(∃ env1,c env=.ok (true,env1)∧∃ env2 k',g env1=.ok (.nx env2)∧k' < k∧P k' env2)) :
  ∀ n k env,k < n→P k env→∃ env',dE c g n env=.ok (.nx env')∧fin env'
 | 0,k,env,hk,_=>absurd hk (Nat.not_lt_zero _)
 | n + 1,k,env,hk,hp=>by
  rcases h k env hp with ⟨env1,h1,h2⟩ | ⟨env1,h1,env2,k',h2,h3,h4⟩
  ·exact ⟨env1,by rw [x_sWhile,h1,bOk];rfl,h2⟩
  ·obtain ⟨env',e,hf⟩:=j7 P fin h n k' env2 (by lia) h4
   refine ⟨env',?_,hf⟩
   rw [x_sWhile,h1,bOk]
   dsimp only
   rw [if_pos rfl,h2,bOk]
   exact e
theorem yf {α β:Type} (f:α→β) (l:List α) (lo hi:Option Int):i7 (l.map f) lo hi=(i7 l lo hi).map f:=by
 unfold i7
 rw [List.length_map,←List.map_drop,←List.map_take]
theorem gc {α:Type} {l:List α} (h:l.length≤100000):l.length < sizeLine:=Nat.lt_of_lt_of_le (Nat.lt_succ_self _) (line_le (by lia))
section
variable (env:PV.Env) (f:FX) (fs:FOs) (fo:FO)
theorem yg (c:O) (F:Addr→List D→Res R):xN c F f fs env=Res.bnd (f env) (f:=⟨fun p=>if nQ c p.1.1 then Res.bnd (fs p.2) (f:=⟨fun q=>Res.bnd (i6 q.2 q.1) (f:=⟨fun ds=>Res.bnd (mK F c p.1.2 ds) (f:=⟨fun z=>if a8 z.1.1 z.1.2 then .ok (z.1,q.2) else .ok (z.1,q.2.map frz)⟩)⟩)⟩) else .bad⟩):=id rfl
theorem oj (i:Nat) (c:O) (F:Addr→List D→Res R):eFunW c F i fs env=Res.bnd (fs env) (f:=⟨fun p=>match p.1 with
 | .var j :: os=>if j=i then (match p.2[i]? with
  | some (some (ow,d0))=>if nQ c ow then Res.bnd (i6 (p.2.set i none) os) (f:=⟨fun ds=>Res.bnd (mK F c d0 ds) (f:=⟨fun x=>if a8 x.1.1 x.1.2 && a8 c x.2 then .ok (x.1,(p.2.set i none).set i (some (ow,x.2))) else .ok (x.1,((p.2.set i none).map frz).set i (some (ow,x.2)))⟩)⟩) else .bad
  | _=>.bad) else .bad
 | _=>.bad⟩):=id rfl
theorem Ci (r:R):frz (some r)=some (.f,r.2):=id rfl
theorem Cj:frz none=none:=id rfl
theorem wc (gg:List D→List D→Res R):BY gg fo fs env=Res.bnd (fo env) (f:=⟨fun p=>Res.bnd (der p.2 p.1) (f:=⟨fun d=>match d with
 | .lst _=>Res.bnd (fs p.2) (f:=⟨fun q=>Res.bnd (der q.2 p.1) (f:=⟨fun d2=>match d2 with
  | .lst l=>Res.bnd (lO q.2 q.1) (f:=⟨fun ds=>Res.bnd (gg l ds) (f:=⟨fun r=>.ok (r,q.2)⟩)⟩)
  | _=>.bad⟩)⟩)
 | _=>.bad⟩)⟩):=id rfl
end
theorem o_isnN:isnO .non .non=.ok (.f,.bl false):=id rfl
theorem DD (o:O) (h:isLf o=true) (ys:List Int) (x:Int) (env:PV.Env):hW 0 (some (o,.lst ((ys++[x]).map D.int)) :: env)=.ok ((.f,.int x),some (o,.lst (ys.map D.int)) :: env):=by
 rw [wb]
 simp only [List.getElem?_cons_zero,List.map_append,List.map_cons,List.map_nil,List.getLast?_concat,List.dropLast_concat,h,if_true,List.set_cons_zero]
theorem ql (p:Addr) (ys:List Int) (x:Int) (env:PV.Env):hW 0 (some (.pin p (.l .f),.lst ((ys++[x]).map D.int)) :: env)=.ok ((.f,.int x),some (.pin p (.l .f),.lst (ys.map D.int)) :: env):=DD _ rfl ys x env
theorem Ck (p:Addr) (ys:List Int) (x:Int) (a b:Option R) (env:PV.Env):hW 2 (a :: b :: some (.pin p (.l .f),.lst ((ys++[x]).map D.int)) :: env)=.ok ((.f,.int x),a :: b :: some (.pin p (.l .f),.lst (ys.map D.int)) :: env):=by
 rw [wb]
 simp only [List.getElem?_cons_zero,List.getElem?_cons_succ,List.map_append,List.map_cons,List.map_nil,List.getLast?_concat,List.dropLast_concat,oh,if_true,List.set_cons_zero,List.set_cons_succ]
theorem unc {xs:List Int} (h:0 < xs.length):∃ ys x,xs=ys++[x]∧ys.length + 1=xs.length:=by
 have hn:xs≠[]:=List.length_pos_iff.mp h
 refine ⟨xs.dropLast,xs.getLast hn,(List.dropLast_concat_getLast hn).symm,?_⟩
 rw [List.length_dropLast]
 lia
theorem sM {α:Type} {a:FG} {g:FS} {e:α→D} (l:List α) (P:Nat→(Addr→PV.Env)→Prop)
  (h:∀ k x E,l[k]?=some x→P k E→∃ E1:Addr→PV.Env,(∀ p,a (e x) (E p)=.ok (E1 p))∧∃ E2:Addr→PV.Env,(∀ p,g (E1 p)=.ok (.nx (E2 p)))∧P (k + 1) E2):∀ E,P 0 E→∃ E',(∀ p,kh a g (l.map e) (E p)=.ok (.nx (E' p)))∧P l.length E':=by
 have key:∀ (l':List α) (k:Nat) (E:Addr→PV.Env),(∀ i x,l'[i]?=some x→l[k + i]?=some x)→P k E→∃ E',(∀ p,kh a g (l'.map e) (E p)=.ok (.nx (E' p)))∧P (k + l'.length) E':=by
  intro l'
  induction l' with
  | nil=>exact fun k E _ hp=>⟨E,fun p=>rfl,hp⟩
  | cons d l' ih=>
   intro k E hd hp
   obtain ⟨E1,h1,E2,h2,h3⟩:=h k d E (hd 0 d rfl) hp
   obtain ⟨E',h4,h5⟩:=ih (k + 1) E2 (fun i x e=>by have:=hd (i + 1) x (by simpa using e);rw [show k + 1 + i=k + (i + 1) by lia];exact this) h3
   refine ⟨E',fun p=>?_,by rw [List.length_cons,show k + (l'.length + 1)=k + 1 + l'.length by lia];exact h5⟩
   rw [List.map_cons,x_forLC,h1,bOk,h2,bOk]
   exact h4 p
 intro E hp
 have:=key l 0 E (fun i x e=>by rw [Nat.zero_add];exact e) hp
 rwa [Nat.zero_add] at this
theorem lF {a:FG} {g:FS} {e:Nat→D} (n:Nat) (P:Nat→(Addr→PV.Env)→Prop)
  (h:∀ k E,k < n→P k E→∃ E1:Addr→PV.Env,(∀ p,a (e k) (E p)=.ok (E1 p))∧∃ E2:Addr→PV.Env,(∀ p,g (E1 p)=.ok (.nx (E2 p)))∧P (k + 1) E2):∀ E,P 0 E→∃ E',(∀ p,kh a g ((List.range n).map e) (E p)=.ok (.nx (E' p)))∧P n E':=by
 intro E h0
 have:=sM (a:=a) (g:=g) (e:=e) (List.range n) P (fun k x E hk hp=>by
  obtain ⟨h1,h2⟩:=List.getElem?_eq_some_iff.mp hk
  rw [List.length_range] at h1
  rw [List.getElem_range] at h2
  subst h2
  exact h k E h1 hp) E h0
 rwa [List.length_range] at this
theorem j8 {α:Type} {a:FG} {f:FX} {e:α→D} (I:Nat→(Addr→PV.Env)→List D→Prop):∀ (l:List α) (n:Nat) (E:Addr→PV.Env) (acc:List D),I n E acc→
  (∀ k x E acc,l[k]?=some x→I (n + k) E acc→∃ E1:Addr→PV.Env,(∀ p,a (e x) (E p)=.ok (E1 p))∧∃ (o:O) (r:D) (E3:Addr→PV.Env),(∀ p,f (E1 p)=.ok ((o,r),E3 p))∧I (n + k + 1) E3 (acc++[r]))→∃ (rs:List D) (E2:Addr→PV.Env),(∀ p,compLE a ik f (l.map e) (E p)=.ok (rs,E2 p))∧I (n + l.length) E2 (acc++rs)
 | [],n,E,acc,h,_=>⟨[],E,fun _=>rfl,by rw [List.append_nil];exact h⟩
 | x :: l,n,E,acc,h,hs=>by
  obtain ⟨E1,h1,o,r,E3,h2,h3⟩:=hs 0 x E acc rfl h
  obtain ⟨rs,E2,h4,h5⟩:=j8 I l (n + 1) E3 (acc++[r]) h3 fun k y E acc hk hI=>by
   have:=hs (k + 1) y E acc (by simpa using hk) (by rw [show n + (k + 1)=n + 1 + k by lia];exact hI)
   rw [show n + (k + 1) + 1=n + 1 + k + 1 by lia] at this
   exact this
  refine ⟨r :: rs,E2,fun p=>?_,?_⟩
  ·rw [List.map_cons]
   show ((a (e x) (E p)).bind fun e=>(ik e).bind fun p=>if p.1 then (f p.2).bind fun q=>(compLE a ik f (l.map _) q.2).bind fun rs=>.ok (q.1.2 :: rs.1,rs.2) else compLE a ik f (l.map _) p.2)=_
   rw [h1 p]
   show ((f (E1 p)).bind fun q=>(compLE a ik f (l.map _) q.2).bind fun rs=>.ok (q.1.2 :: rs.1,rs.2))=_
   rw [h2 p]
   show ((compLE a ik f (l.map _) (E3 p)).bind fun rs=>.ok (r :: rs.1,rs.2))=_
   rw [h4 p]
   rfl
  ·rw [List.length_cons,show n + (l.length + 1)=n + 1 + l.length by lia]
   rw [List.append_assoc] at h5
   exact h5
abbrev Arc:=Int×List Nat×Int
noncomputable def eA (a:Arc):D:=.tup [.int a.1,.str a.2.1,.int a.2.2]
abbrev Nd:=Int×List (List Nat)
noncomputable def met (T:List Arc):List Int:=0 :: T.map (·.2.2)
noncomputable def qm (c:Int) (T:List Arc) (a:Arc):List Arc:=if a.1=c∧a.2.2∉met T then T++[a] else T
inductive Run (arcs:List Arc):Nat→List Arc→Prop where
 | z:Run arcs 0 []
 | s {i:Nat} {T:List Arc} {c:Int}:Run arcs i T→(met T)[i]?=some c→Run arcs (i + 1) (arcs.foldl (qm c) T)
theorem Run.inj {arcs:List Arc}:∀ {i:Nat} {T T':List Arc},Run arcs i T→Run arcs i T'→T=T'
 | 0,_,_,.z,.z=>rfl
 | i + 1,_,_,.s r h,.s r' h'=>by
  have e:=Run.inj r r'
  subst e
  rw [h] at h'
  cases h'
  rfl
theorem Run.before {arcs:List Arc}:∀ {j:Nat} {T:List Arc},Run arcs j T→∀ i,i < j→∃ T',Run arcs i T'∧i < (met T').length
 | 0,_,_,i,h=>absurd h (Nat.not_lt_zero _)
 | j + 1,_,.s r h,i,hi=>by
  by_cases e:i=j
  ·subst e
   exact ⟨_,r,(List.getElem?_eq_some_iff.mp h).1⟩
  ·exact Run.before r i (by lia)
structure Bfs (arcs:List Arc) (i:Nat) (pre:List Arc) (N:List Nd) (T:List Arc):Prop where
 z:N[0]?=some (0,[])
 len:N.length=T.length + 1
 nd:(N.map (·.1)).Nodup
 bd:∀ n∈N,0≤n.1∧n.1 < 12
 tr:∀ (j:Nat) (a:Arc),T[j]?=some a→a∈arcs∧∃ (k:Nat) (n:Nd),k≤j∧N[k]?=some n∧a.1=n.1∧N[j + 1]?=some (a.2.2,n.2++[a.2.1])
 mono:∀ (j k:Nat) (n m:Nd),j≤k→N[j]?=some n→N[k]?=some m→n.2.length≤m.2.length
 top:∀ n∈N,∀ c:Nd,N[i]?=some c→n.2.length≤c.2.length + 1
 clo:∀ k,k < i→∀ n:Nd,N[k]?=some n→∀ a∈arcs,a.1=n.1→∃ m∈N,m.1=a.2.2∧m.2.length≤n.2.length + 1
 cur:∀ a∈pre,∀ c:Nd,N[i]?=some c→a.1=c.1→∃ m∈N,m.1=a.2.2∧m.2.length≤c.2.length + 1
 nm:N.map (·.1)=met T
theorem Bfs.start (arcs:List Arc):Bfs arcs 0 [] [(0,[])] []:=by
 refine ⟨rfl,rfl,List.nodup_cons.mpr ⟨List.not_mem_nil,List.nodup_nil⟩,fun n hn=>?_,fun j a h=>by simp at h,fun j k n m _ h1 h2=>?_,fun n hn c hc=>?_,fun k hk=>absurd hk (Nat.not_lt_zero _),(fun a ha=>nomatch ha),rfl⟩
 ·rw [List.mem_singleton.mp hn]
  exact ⟨Int.le_refl _,by decide⟩
 ·rw [List.mem_singleton.mp (List.mem_of_getElem? h1)]
  exact Nat.zero_le _
 ·rw [List.mem_singleton.mp hn]
  exact Nat.zero_le _
theorem gN {α:Type} {l:List α} {x:α} {j:Nat} {y:α} (h:l[j]?=some y):(l++[x])[j]?=some y:=by
 rw [List.getElem?_append_left (List.getElem?_eq_some_iff.mp h).1]
 exact h
theorem d8 {α:Type} {l:List α} {x:α} {j:Nat} {y:α} (h:(l++[x])[j]?=some y):l[j]?=some y∨(j=l.length∧y=x):=by
 by_cases hj:j < l.length
 ·rw [List.getElem?_append_left hj] at h
  exact .inl h
 ·rw [List.getElem?_append_right (by lia)] at h
  by_cases e:j - l.length=0
  ·rw [e] at h
   exact .inr ⟨by lia,by simpa using h.symm⟩
  ·rw [List.getElem?_eq_none (by simp;lia)] at h
   cases h
theorem Bfs.skip {arcs:List Arc} {i:Nat} {pre:List Arc} {N:List Nd} {T:List Arc} (b:Bfs arcs i pre N T) {a:Arc} {c:Nd} (hc:N[i]?=some c) (h:a.1≠c.1∨a.2.2∈N.map (·.1)):Bfs arcs i (pre++[a]) N T:=by
 refine ⟨b.z,b.len,b.nd,b.bd,b.tr,b.mono,b.top,b.clo,fun x hx c' hc' e=>?_,b.nm⟩
 rcases List.mem_append.mp hx with hx | hx
 ·exact b.cur x hx c' hc' e
 ·rw [List.mem_singleton.mp hx] at e ⊢
  rw [hc] at hc'
  cases hc'
  rcases h with h | h
  ·exact absurd e h
  ·obtain ⟨m,hm,em⟩:=List.mem_map.mp h
   exact ⟨m,hm,em,b.top m hm c hc⟩
theorem Bfs.take {arcs:List Arc} {i:Nat} {pre:List Arc} {N:List Nd} {T:List Arc} (b:Bfs arcs i pre N T) {a:Arc} {c:Nd} (hc:N[i]?=some c) (ha:a∈arcs) (ha2:0≤a.2.2∧a.2.2 < 12) (h1:a.1=c.1) (h2:a.2.2∉N.map (·.1)):Bfs arcs i (pre++[a]) (N++[(a.2.2,c.2++[a.2.1])]) (T++[a]):=by
 have hi:=(List.getElem?_eq_some_iff.mp hc).1
 have hcl:(c.2++[a.2.1]).length=c.2.length + 1:=by rw [List.length_append];rfl
 have up:∀ {x:Int} {B:Nat},(∃ m∈N,m.1=x∧m.2.length≤B)→∃ m∈N++[(a.2.2,c.2++[a.2.1])],m.1=x∧m.2.length≤B:=fun ⟨m,hm,q⟩=>⟨m,List.mem_append_left _ hm,q⟩
 refine ⟨gN b.z,by rw [List.length_append,List.length_append,b.len];rfl,?_,fun n hn=>?_,fun j x hx=>?_,fun j k n m hjk hn hm=>?_,fun n hn c' hc'=>?_,fun k hk n hn x hx e=>?_,fun x hx c' hc' e=>?_,by unfold met;rw [List.map_append,List.map_append,b.nm];rfl⟩
 ·rw [List.map_append,List.nodup_append]
  refine ⟨b.nd,List.nodup_cons.mpr ⟨List.not_mem_nil,List.nodup_nil⟩,fun x hx y hy=>?_⟩
  have:y=a.2.2:=by simpa using hy
  rw [this]
  rintro rfl
  exact h2 hx
 ·rcases List.mem_append.mp hn with hn | hn
  ·exact b.bd n hn
  ·rw [List.mem_singleton.mp hn]
   exact ha2
 ·rcases d8 hx with hx | ⟨rfl,rfl⟩
  ·obtain ⟨q,k,n,hk,hn,e,hn2⟩:=b.tr j x hx
   exact ⟨q,k,n,hk,gN hn,e,gN hn2⟩
  ·refine ⟨ha,i,c,?_,gN hc,h1,?_⟩
   ·have:=b.len
    lia
   ·rw [←b.len,List.getElem?_append_right (Nat.le_refl _),Nat.sub_self]
    rfl
 ·rcases d8 hn with hn | ⟨rfl,rfl⟩
  ·rcases d8 hm with hm | ⟨rfl,rfl⟩
   ·exact b.mono j k n m hjk hn hm
   ·show n.2.length≤(c.2++[a.2.1]).length
    rw [hcl]
    exact b.top n (List.mem_of_getElem? hn) c hc
  ·rcases d8 hm with hm | ⟨rfl,rfl⟩
   ·have:=(List.getElem?_eq_some_iff.mp hm).1
    lia
   ·exact Nat.le_refl _
 ·have:c'=c:=by
   rw [gN hc] at hc'
   exact (Option.some.inj hc').symm
  subst this
  rcases List.mem_append.mp hn with hn | hn
  ·exact b.top n hn c' hc
  ·rw [List.mem_singleton.mp hn]
   exact Nat.le_of_eq hcl
 ·rcases d8 hn with hn | ⟨rfl,rfl⟩
  ·exact up (b.clo k hk n hn x hx e)
  ·lia
 ·have:c'=c:=by
   rw [gN hc] at hc'
   exact (Option.some.inj hc').symm
  subst this
  rcases List.mem_append.mp hx with hx | hx
  ·exact up (b.cur x hx c' hc e)
  ·rw [List.mem_singleton.mp hx]
   exact ⟨_,List.mem_append_right _ List.mem_cons_self,rfl,Nat.le_of_eq hcl⟩
theorem Bfs.next {arcs:List Arc} {i:Nat} {N:List Nd} {T:List Arc} (b:Bfs arcs i arcs N T) {c:Nd} (hc:N[i]?=some c):Bfs arcs (i + 1) [] N T:=by
 refine ⟨b.z,b.len,b.nd,b.bd,b.tr,b.mono,fun n hn c' hc'=>?_,fun k hk n hn a ha e=>?_,(fun a ha=>nomatch ha),b.nm⟩
 ·have h1:=b.top n hn c hc
  have h2:=b.mono i (i + 1) c c' (Nat.le_succ _) hc hc'
  lia
 ·by_cases hki:k=i
  ·subst hki
   rw [hc] at hn
   cases hn
   exact b.cur a ha c hc e
  ·exact b.clo k (by lia) n hn a ha e
theorem f7:∀ (n:Nat) {l:List Int},l.Nodup→(∀ x∈l,0≤x∧x < (n:Int))→l.length≤n
 | 0,l,_,hb=>by
  cases l with
  | nil=>exact Nat.le_refl _
  | cons a l=>have:=hb a List.mem_cons_self;lia
 | n + 1,l,nd,hb=>by
  have h1:=f7 n (l:=l.erase (n:Int)) (nd.erase _) fun x hx=>by
   have h2:=(nd.mem_erase_iff.mp hx)
   have h3:=hb x h2.2
   have h4:=h2.1
   lia
  have:=List.length_erase_le (a:=(n:Int)) (l:=l)
  have h5:l.length≤(l.erase (n:Int)).length + 1:=by
   by_cases hm:(n:Int)∈l
   ·rw [List.length_erase_of_mem hm]
    have:=List.length_pos_of_mem hm
    lia
   ·rw [List.erase_of_not_mem hm]
    lia
  lia
theorem Bfs.le12 {arcs:List Arc} {i:Nat} {pre:List Arc} {N:List Nd} {T:List Arc} (b:Bfs arcs i pre N T):N.length≤12:=by
 have:=f7 12 b.nd fun x hx=>by
  obtain ⟨n,hn,rfl⟩:=List.mem_map.mp hx
  exact b.bd n hn
 rw [List.length_map] at this
 exact this
theorem sN (arcs:List Arc) (i:Nat) (pre:List Arc) (N:List Nd) (T:List Arc) (b:Bfs arcs i pre N T) (c:Nd) (hc:N[i]?=some c) (a:Arc) (ha:a∈arcs) (ha2:0≤a.2.2∧a.2.2 < 12) :
  ∃ N' T',T'=qm c.1 T a∧Bfs arcs i (pre++[a]) N' T'∧N'[i]?=some c∧dI [some (.f,.lst (arcs.map eA)),some (.l .f,.lst ((N.map (·.1)).map D.int)),some (.l .f,.lst (T.map eA)),some (.f,.int (i:Int)),some (.f,eA a)]=.ok (.nx [some (.f,.lst (arcs.map eA)),some (.l .f,.lst ((N'.map (·.1)).map D.int)),some (.l .f,.lst (T'.map eA)),some (.f,.int (i:Int)),some (.f,eA a)]):=by
 have h12:=b.le12
 have hlt:=(List.getElem?_eq_some_iff.mp hc).1
 have hat:atI ((N.map (·.1)).map D.int) (i:Int)=some (.int c.1):=eg (by rw [List.getElem?_map,List.getElem?_map,hc];rfl)
 have z1:((N.map (·.1)).map D.int).length < sizeLine:=gc (by rw [List.length_map,List.length_map];lia)
 have z2:(T.map eA).length < sizeLine:=gc (by rw [List.length_map];have:=b.len;lia)
 unfold dI eA
 by_cases h1:a.1=c.1
 ·by_cases h2:a.2.2∈N.map (·.1)
  ·refine ⟨N,T,by unfold qm;rw [if_neg (by rw [←b.nm];exact fun z=>z.2 h2)],b.skip hc (.inr h2),hc,?_⟩
   have e1:(a.1 == c.1)=true:=beq_iff_eq.mpr h1
   simp only [pv,↓reduceIte,Nat.reduceAdd,Nat.reduceLT,Nat.reduceLeDiff,Nat.reduceEqDiff,op,hat,e1,at2,h2,decide_true,Bool.not_true,Bool.false_eq_true]
  ·refine ⟨_,_,by unfold qm;rw [if_pos (by rw [←b.nm];exact ⟨h1,h2⟩)],b.take hc ha ha2 h1 h2,gN hc,?_⟩
   have e1:(a.1 == c.1)=true:=beq_iff_eq.mpr h1
   have e:(fun a:Arc=>D.tup [D.int a.1,D.str a.2.1,D.int a.2.2])=eA:=rfl
   rw [e] at *
   simp only [pv,↓reduceIte,Nat.reduceAdd,Nat.reduceLT,Nat.reduceLeDiff,Nat.reduceEqDiff,op,hat,e1,at2,h2,decide_false,Bool.not_false,z1,z2,List.map_append]
   rfl
 ·refine ⟨N,T,by unfold qm;rw [if_neg (fun z=>h1 z.1)],b.skip hc (.inl h1),hc,?_⟩
  have e1:(a.1 == c.1)=false:=beq_eq_false_iff_ne.mpr h1
  simp only [pv,↓reduceIte,Nat.reduceAdd,Nat.reduceLT,Nat.reduceLeDiff,Nat.reduceEqDiff,op,hat,e1,Bool.false_eq_true]
theorem sO (arcs:List Arc) (hl:arcs.length≤1000) (hb:∀ a∈arcs,0≤a.2.2∧a.2.2 < 12):∃ N T,Bfs arcs N.length [] N T∧Run arcs N.length T∧bQ [.lst (arcs.map eA)]=.ok (.l .f,.lst (T.map eA)):=by
 unfold bQ mL
 rw [bM (h:=by rfl)]
 rw [ay (env':=[some (.f,.lst (arcs.map eA)),some (.l .f,.lst [.int 0]),none,none,none]) (by simp only [pv,↓reduceIte,Nat.reduceAdd,Nat.reduceLT,Nat.reduceLeDiff,Nat.reduceEqDiff,op])]
 rw [ay (env':=[some (.f,.lst (arcs.map eA)),some (.l .f,.lst [.int 0]),some (.l .f,.lst []),none,none]) (by simp only [pv,↓reduceIte,Nat.reduceAdd,Nat.reduceLT,Nat.reduceLeDiff,Nat.reduceEqDiff,op])]
 rw [ay (env':=[some (.f,.lst (arcs.map eA)),some (.l .f,.lst [.int 0]),some (.l .f,.lst []),some (.f,.int 0),none]) (by simp only [pv,↓reduceIte,Nat.reduceAdd,Nat.reduceLT,Nat.reduceLeDiff,Nat.reduceEqDiff,op])]
 obtain ⟨env',ew,N,T,i,t4,b,hi,hrun,rfl⟩:=j7 (c:=(eBl (aA ltO (av 3) (ao (bx ft (ah (av 1) az)))))) (g:=fA)
  (fun k env=>∃ N T i t4,Bfs arcs i [] N T∧i≤N.length∧Run arcs i T∧k=13 - i∧env=[some (.f,.lst (arcs.map eA)),some (.l .f,.lst ((N.map (·.1)).map D.int)),some (.l .f,.lst (T.map eA)),some (.f,.int ((i:Nat):Int)),t4]) (fun env=>∃ N T i t4,Bfs arcs i [] N T∧i=N.length∧Run arcs i T∧env=[some (.f,.lst (arcs.map eA)),some (.l .f,.lst ((N.map (·.1)).map D.int)),some (.l .f,.lst (T.map eA)),some (.f,.int ((i:Nat):Int)),t4]) (by
  rintro k env ⟨N,T,i,t4,b,hi,hrun,rfl,rfl⟩
  have h12:=b.le12
  by_cases hlt:i < N.length
  ·refine .inr ⟨[some (.f,.lst (arcs.map eA)),some (.l .f,.lst ((N.map (·.1)).map D.int)),some (.l .f,.lst (T.map eA)),some (.f,.int ((i:Nat):Int)),t4],?_,?_⟩
   ·have:(i:Int) < (N.length:Int):=by lia
    simp only [pv,↓reduceIte,Nat.reduceAdd,Nat.reduceLT,Nat.reduceLeDiff,Nat.reduceEqDiff,op,List.length_map,this,decide_true]
   ·obtain ⟨c,hc⟩:∃ c,N[i]?=some c:=⟨N[i],List.getElem?_eq_getElem hlt⟩
    have hrun':=Run.s hrun (c:=c.1) (by rw [←b.nm,List.getElem?_map,hc];rfl)
    obtain ⟨env',ef,N',T',t4',b',hc',eT,rfl⟩:=for_list (a:=aB 4) (g:=dI) (e:=eA) arcs (fun j env=>∃ N T2 t4,Bfs arcs i (arcs.take j) N T2∧N[i]?=some c∧T2=(arcs.take j).foldl (qm c.1) T∧env=[some (.f,.lst (arcs.map eA)),some (.l .f,.lst ((N.map (·.1)).map D.int)),some (.l .f,.lst (T2.map eA)),some (.f,.int ((i:Nat):Int)),t4]) (by
     rintro j a env hj ⟨N,T2,t4,b,hc,eT,rfl⟩
     have ham:=List.mem_of_getElem? hj
     obtain ⟨N',T',eT',b',hc',e⟩:=sN arcs i _ N T2 b c hc a ham (hb a ham)
     have ht:arcs.take (j + 1)=arcs.take j++[a]:=by rw [List.take_add_one,hj];rfl
     exact ⟨_,rfl,_,e,N',T',some (.f,eA a),by rw [ht];exact b',hc',by rw [eT',eT,ht,List.foldl_append];rfl,rfl⟩) _ ⟨N,T,t4,by rw [List.take_zero];exact b,hc,by rw [List.take_zero];rfl,rfl⟩
    rw [List.take_length] at b' eT
    have hlt':=(List.getElem?_eq_some_iff.mp hc').1
    refine ⟨_,13 - (i + 1),?_,by lia,N',T',i + 1,t4',b'.next hc',by lia,by rw [eT];exact hrun',rfl,rfl⟩
    unfold fA
    rw [ay (env':=_) (by
     unfold jR
     simp only [pv,↓reduceIte,Nat.reduceAdd,Nat.reduceLT,Nat.reduceLeDiff,Nat.reduceEqDiff,op]
     exact ef)]
    unfold iM
    simp only [pv,↓reduceIte,Nat.reduceAdd,Nat.reduceLT,Nat.reduceLeDiff,Nat.reduceEqDiff,op,Int.natCast_add,Int.cast_ofNat_Int]
  ·refine .inl ⟨_,?_,N,T,i,t4,b,by lia,hrun,rfl⟩
   have:¬ (i:Int) < (N.length:Int):=by lia
   simp only [pv,↓reduceIte,Nat.reduceAdd,Nat.reduceLT,Nat.reduceLeDiff,Nat.reduceEqDiff,op,List.length_map,this,decide_false]) 100000 13 _ (by decide) ⟨[(0,[])],[],0,none,Bfs.start arcs,Nat.zero_le _,.z,rfl,rfl⟩
 subst hi
 rw [ay (env':=_) (by
  unfold jS
  exact ew)]
 unfold iN
 exact ⟨N,T,b,hrun,by simp only [pv,↓reduceIte,Nat.reduceAdd,Nat.reduceLT,Nat.reduceLeDiff,Nat.reduceEqDiff,op]⟩
noncomputable def eCh (nZ:List (List Nat)) (arcs:List Arc):D:=.tup [.tup (nZ.map D.str),.lst (arcs.map eA)]
theorem om (a:Arc) (t1 t2 t3:Option R) (dh:PV.Env):kl 3 (aK (aB 0) (aK (aB 1) (aK (aB 2) dX))) (eA a) (t1 :: t2 :: t3 :: dh)=.ok (some (.f,.int a.1) :: some (.f,.str a.2.1) :: some (.f,.int a.2.2) :: dh):=by
 unfold eA
 rw [x_aTup,if_pos (by simp),x_asCons,x_aName,if_pos (by simp),bOk,x_asCons,x_aName,if_pos (by simp),bOk,x_asCons,x_aName,if_pos (by simp),bOk]
 rfl
theorem AS (l:List Int):(lh (.lst (l.map D.int))).bind cD=some l:=kC l
noncomputable def pJ (a:Arc):Int:=if a.1 < a.2.2 then a.2.2 else a.1
noncomputable def a7 (arcs:List Arc):Int:=1 + NX.maxD (arcs.map pJ) 0
theorem vf {α:Type} {f:α→D} {l:List α} (h:∀ a,cH (f a)=true):flatDs (l.map f)=true:=by
 rw [bC,List.all_map,List.all_eq_true]
 intro a _
 exact h a
theorem oq (nZ:List (List Nat)) (arcs:List Arc) (hl:arcs.length≤16777216):cI [eCh nZ arcs]=.ok (.f,.int (a7 arcs)):=by
 unfold cI jQ
 rw [bM (h:=by rfl)]
 simp only [pv,↓reduceIte,Nat.reduceAdd,Nat.reduceLT,Nat.reduceLeDiff,Nat.reduceEqDiff,op,eCh]
 rw [c7 (r:=fun a:Arc=>D.int (pJ a)) (fun env=>∃ t1 t2 t3,env=[t1,t2,t3]) arcs ?_ _ ⟨_,_,_,rfl⟩]
 ·rw [bOk,if_pos (b9 (by rw [List.length_map];exact hl)),bOk,vf fun a=>pD _]
  simp only [pv,↓reduceIte,Nat.reduceAdd,Nat.reduceLT,Nat.reduceLeDiff,Nat.reduceEqDiff,op]
  have e:(some (arcs.map fun a=>D.int (pJ a))).bind cD=some (arcs.map pJ):=by
   have:=AS (arcs.map pJ)
   rw [List.map_map] at this
   exact this
  rw [e]
  rfl
 ·rintro a _ env ⟨t1,t2,t3,rfl⟩
  refine ⟨_,om a t1 t2 t3 _,?_⟩
  simp only [pv,↓reduceIte,Nat.reduceAdd,Nat.reduceLT,Nat.reduceLeDiff,Nat.reduceEqDiff,op]
  exact ⟨_,_,rfl,_,_,_,rfl⟩
noncomputable def pK (n:Nd):D:=.tup (n.2.map D.str)
theorem ot:∀ (N:List Nd) (k:Nat) (n:Nd),(N.map (·.1)).Nodup→N[k]?=some n→getD (N.map fun n=>D.int n.1) (N.map pK) (.int n.1)=some (pK n)
 | [],_,_,_,h=>by simp at h
 | m :: N,0,n,_,h=>by
  simp at h
  subst h
  unfold getD
  rw [List.map_cons,List.map_cons,List.zip_cons_cons,List.find?_cons_of_pos (by show eqD (.int m.1) (.int m.1)=true;rw [eqD];exact beq_self_eq_true _)]
  rfl
 | m :: N,k + 1,n,nd,h=>by
  rw [List.getElem?_cons_succ] at h
  rw [List.map_cons,List.nodup_cons] at nd
  have ih:=ot N k n nd.2 h
  unfold getD at ih ⊢
  have hne:n.1≠m.1:=fun e=>nd.1 (by rw [←e];exact List.mem_map.mpr ⟨n,List.mem_of_getElem? h,rfl⟩)
  rw [List.map_cons,List.map_cons,List.zip_cons_cons,List.find?_cons_of_neg (by show ¬ eqD (.int n.1) (.int m.1)=true;rw [eqD,beq_iff_eq];exact hne)]
  exact ih
theorem yh (N:List Nd) (n:Nd) (h:n.1∉N.map (·.1)):mF (N.map fun n=>D.int n.1) (N.map pK) (.int n.1) (pK n)=((N++[n]).map (fun n=>D.int n.1),(N++[n]).map pK):=by
 have e:(N.map fun n=>D.int n.1).any (eqD (.int n.1))=false:=by
  rw [List.any_map,List.any_eq_false]
  intro m hm
  show ¬ eqD (.int n.1) (.int m.1)=true
  rw [eqD,beq_iff_eq]
  intro e
  exact h (by rw [e];exact List.mem_map.mpr ⟨m,hm,rfl⟩)
 unfold mF
 rw [e,if_neg Bool.false_ne_true,List.map_append,List.map_append]
 rfl
theorem yi (a:Arc):cH (eA a)=true:=rfl
theorem iE (as:List Arc):flatDs (as.map eA)=true:=by
 rw [bC,List.all_map,List.all_eq_true]
 exact fun p _=>yi p
theorem CK (w:List (List Nat)) (m:List Nat) (h:w.length≤1000):cS (.tup (w.map D.str)) (.tup [.str m])=.ok (.f,.tup ((w++[m]).map D.str)):=by
 rw [yb,if_pos (.inl (line_le (by rw [List.length_map,List.length_cons,List.length_nil];lia))),List.map_append]
 rfl
structure Found (arcs:List Arc) (N:List Nd):Prop where
 z:N[0]?=some (0,[])
 nd:(N.map (·.1)).Nodup
 le:N.length≤12
 bd:∀ n∈N,0≤n.1∧n.1 < 12
 wl:∀ n∈N,n.2.length≤12
 par:∀ n∈N,n=(0,[])∨∃ a∈arcs,∃ m∈N,a.1=m.1∧n=(a.2.2,m.2++[a.2.1])
 clo:∀ n∈N,∀ a∈arcs,a.1=n.1→∃ m∈N,m.1=a.2.2∧m.2.length≤n.2.length + 1
theorem Bfs.wlen {arcs:List Arc} {i:Nat} {pre:List Arc} {N:List Nd} {T:List Arc} (b:Bfs arcs i pre N T):∀ (j:Nat) (n:Nd),N[j]?=some n→n.2.length≤j:=by
 intro j
 induction j using Nat.strongRecOn with
 | _ j ih=>
  intro n hn
  cases j with
  | zero=>
   rw [b.z] at hn
   cases hn
   exact Nat.le_refl _
  | succ j=>
   have hlt:=(List.getElem?_eq_some_iff.mp hn).1
   have hl:=b.len
   obtain ⟨_,k,m,hk,hm,_,hn2⟩:=b.tr j T[j] (List.getElem?_eq_getElem (by lia))
   rw [hn] at hn2
   cases hn2
   have:=ih k (by lia) m hm
   show (m.2++[_]).length≤_
   rw [List.length_append,List.length_cons,List.length_nil]
   lia
theorem Bfs.found {arcs:List Arc} {N:List Nd} {T:List Arc} (b:Bfs arcs N.length [] N T):Found arcs N:=by
 refine ⟨b.z,b.nd,b.le12,b.bd,fun n hn=>?_,fun n hn=>?_,fun n hn a ha e=>?_⟩
 ·obtain ⟨j,hj⟩:=List.mem_iff_getElem?.mp hn
  have:=b.wlen j n hj
  have:=(List.getElem?_eq_some_iff.mp hj).1
  have:=b.le12
  lia
 ·obtain ⟨j,hj⟩:=List.mem_iff_getElem?.mp hn
  cases j with
  | zero=>
   rw [b.z] at hj
   cases hj
   exact .inl rfl
  | succ j=>
   have hlt:=(List.getElem?_eq_some_iff.mp hj).1
   have hl:=b.len
   obtain ⟨ha,k,m,hk,hm,e,hn2⟩:=b.tr j T[j] (List.getElem?_eq_getElem (by lia))
   rw [hj] at hn2
   cases hn2
   exact .inr ⟨_,ha,m,List.mem_of_getElem? hm,e,rfl⟩
 ·obtain ⟨j,hj⟩:=List.mem_iff_getElem?.mp hn
  exact b.clo j (List.getElem?_eq_some_iff.mp hj).1 n hj a ha e
noncomputable def aV (N:List Nd) (s:Int):List (List Nat):=((N.find? fun n=>n.1 == s).map (·.2)).getD []
theorem lG {N:List Nd} (nd:(N.map (·.1)).Nodup) {n:Nd} (h:n∈N):aV N n.1=n.2:=by
 unfold aV
 induction N with
 | nil=>cases h
 | cons m N ih=>
  rw [List.map_cons,List.nodup_cons] at nd
  rcases List.mem_cons.mp h with rfl | h
  ·rw [List.find?_cons_of_pos (by exact beq_self_eq_true _)]
   rfl
  ·have hne:m.1≠n.1:=fun e=>nd.1 (by rw [e];exact List.mem_map.mpr ⟨n,h,rfl⟩)
   rw [List.find?_cons_of_neg (by simpa using hne)]
   exact ih nd.2 h
theorem sP (nZ:List (List Nat)) (arcs:List Arc) (hl:arcs.length≤1000) (hb:∀ a∈arcs,0≤a.2.2∧a.2.2 < 12) (all:∀ N,Found arcs N→∀ s:Int,0≤s→s < a7 arcs→s∈N.map (·.1)) (hs:0≤a7 arcs∧a7 arcs≤100) :
  ∃ N T,Bfs arcs N.length [] N T∧Run arcs N.length T∧bQ [.lst (arcs.map eA)]=.ok (.l .f,.lst (T.map eA))∧bK [eCh nZ arcs]=.ok (.l .f,.lst ((List.range (a7 arcs).toNat).map fun (s:Nat)=>.tup ((aV N (s:Int)).map D.str))):=by
 obtain ⟨N,T,b,hrun,et⟩:=sO arcs hl hb
 refine ⟨N,T,b,hrun,et,?_⟩
 have F:=b.found
 unfold bK mM
 rw [bM (h:=by rfl)]
 rw [ay (env':=[some (.f,eCh nZ arcs),some (.d,.dct false [.int 0] [.tup []]),none,none,none]) (by simp only [pv,↓reduceIte,Nat.reduceAdd,Nat.reduceLT,Nat.reduceLeDiff,Nat.reduceEqDiff,op])]
 have hlen:=b.len
 have h12:=F.le
 obtain ⟨env',ef,t2,t3,t4,rfl⟩:=for_list (a:=kl 3 (aK (aB 2) (aK (aB 3) (aK (aB 4) dX)))) (g:=fB) (e:=eA) T (fun j env=>∃ t2 t3 t4,env=[some (.f,eCh nZ arcs),some (.d,.dct false ((N.take (j + 1)).map fun n=>D.int n.1) ((N.take (j + 1)).map pK)),t2,t3,t4]) (by
  rintro j a env hj ⟨t2,t3,t4,rfl⟩
  refine ⟨[some (.f,eCh nZ arcs),some (.d,.dct false ((N.take (j + 1)).map fun n=>D.int n.1) ((N.take (j + 1)).map pK)),some (.f,.int a.1),some (.f,.str a.2.1),some (.f,.int a.2.2)],rfl,_,?_,some (.f,.int a.1),some (.f,.str a.2.1),some (.f,.int a.2.2),rfl⟩
  obtain ⟨_,k,n,hk,hn,e,hn2⟩:=b.tr j a hj
  have ht:N.take (j + 1 + 1)=N.take (j + 1)++[(a.2.2,n.2++[a.2.1])]:=by rw [List.take_add_one,hn2];rfl
  have ndt:((N.take (j + 1)).map (·.1)).Nodup:=by rw [List.map_take];exact F.nd.take
  have hk2:(N.take (j + 1))[k]?=some n:=by rw [List.getElem?_take_of_lt (by lia)];exact hn
  have hg:=ot (N.take (j + 1)) k n ndt hk2
  have hnew:a.2.2∉(N.take (j + 1)).map (·.1):=by
   have nd2:((N.take (j + 1 + 1)).map (·.1)).Nodup:=by rw [List.map_take];exact F.nd.take
   rw [ht,List.map_append,List.nodup_append] at nd2
   intro hm
   exact nd2.2.2 _ hm a.2.2 (by simp) rfl
  have hp:=yh (N.take (j + 1)) (a.2.2,n.2++[a.2.1]) hnew
  have hw:=F.wl n (List.mem_of_getElem? hn)
  have ha:=CK n.2 a.2.1 (by lia)
  have hd:dgD (.dct false ((N.take (j + 1)).map fun n=>D.int n.1) ((N.take (j + 1)).map pK)) (.int a.1)=.ok (.f,.tup (n.2.map D.str)):=by
   unfold dgD
   dsimp only
   rw [if_pos (show dD false (.int a.1)=true from rfl),e,hg]
   rfl
  have hz:(decide (((N.take (j + 1)).map fun n=>D.int n.1).length < sizeLine))=true:=decide_eq_true (gc (by rw [List.length_map,List.length_take];lia))
  unfold pK at hp
  dsimp only at hp
  have ew:(fun n:Nd=>D.tup (n.2.map D.str))=pK:=rfl
  rw [ew] at hp
  rw [ht]
  unfold fB
  simp only [pv,↓reduceIte,Nat.reduceAdd,Nat.reduceLT,Nat.reduceLeDiff,Nat.reduceEqDiff,op,hd,ha,hz,Bool.and_self,hp]) _ ⟨none,none,none,rfl⟩
 rw [show N.take (T.length + 1)=N by rw [←hlen];exact List.take_length] at ef
 have h0:N.take (0 + 1)=[(0,[])]:=by rw [List.take_add_one,F.z];rfl
 rw [h0] at ef
 rw [ay (env':=_) (by
  unfold jU
  unfold eCh at ef ⊢
  simp only [pv,↓reduceIte,Nat.reduceAdd,Nat.reduceLT,Nat.reduceLeDiff,Nat.reduceEqDiff,op,et,iE]
  exact ef)]
 clear ef
 unfold iO
 have hst:=oq nZ arcs (by lia)
 have hc:dt (aB 0) ik (aA dgD (av 1) (av 0)) ((List.range (a7 arcs).toNat).map fun (k:Nat)=>D.int (k:Int)) [none,some (.f,.dct false (N.map fun n=>D.int n.1) (N.map pK))]=.ok ((List.range (a7 arcs).toNat).map fun (s:Nat)=>.tup ((aV N (s:Int)).map D.str)):=by
  refine c7 (r:=fun s:Nat=>D.tup ((aV N (s:Int)).map D.str)) (fun env=>∃ t1,env=[t1,some (.f,.dct false (N.map fun n=>D.int n.1) (N.map pK))]) (List.range (a7 arcs).toNat) ?_ _ ⟨_,rfl⟩
  rintro s hs2 env ⟨t1,rfl⟩
  rw [List.mem_range] at hs2
  obtain ⟨n,hn,en⟩:=List.mem_map.mp (all N F (s:Int) (by lia) (by lia))
  obtain ⟨k,hk⟩:=List.mem_iff_getElem?.mp hn
  have hd:dgD (.dct false (N.map fun n=>D.int n.1) (N.map pK)) (.int (s:Int))=.ok (.f,.tup ((aV N (s:Int)).map D.str)):=by
   unfold dgD
   dsimp only
   rw [if_pos (show dD false (.int (s:Int))=true from rfl),←en,ot N k n F.nd hk,lG F.nd hn]
   rfl
  refine ⟨[some (.f,.int (s:Int)),some (.f,.dct false (N.map fun n=>D.int n.1) (N.map pK))],rfl,?_⟩
  simp only [pv,↓reduceIte,Nat.reduceAdd,Nat.reduceLT,Nat.reduceLeDiff,Nat.reduceEqDiff,op,hd]
  exact ⟨_,_,rfl,_,rfl⟩
 have hf:flatDs ((List.range (a7 arcs).toNat).map fun (s:Nat)=>D.tup ((aV N (s:Int)).map D.str))=true:=by
  rw [bC,List.all_map,List.all_eq_true]
  intro s _
  show cH (.tup _)=true
  rw [f6,PV.flat_strs]
 unfold eCh at hst
 simp only [pv,↓reduceIte,Nat.reduceAdd,Nat.reduceLT,Nat.reduceLeDiff,Nat.reduceEqDiff,op,hst]
 rw [if_pos (by lia)]
 simp only [pv,↓reduceIte,Nat.reduceAdd,Nat.reduceLT,Nat.reduceLeDiff,Nat.reduceEqDiff,op,hc]
 rw [if_pos (b9 (by rw [List.length_map,List.length_range];lia)),hf]
 simp only [pv,↓reduceIte,Nat.reduceAdd,Nat.reduceLT,Nat.reduceLeDiff,Nat.reduceEqDiff,op]
noncomputable def ak (a:Arc):List Key:=[.inl a.1,.inr (S a.2.1),.inl a.2.2]
noncomputable def cO (a b:Arc):Bool:=dk (ak a) (ak b)
theorem S_inj {a b:List Nat} (h:S a=S b):a=b:=by
 have:=congrArg (fun s:Str=>s.cps.toList) h
 simpa only [di] using this
theorem AU {a b:Arc} (h:ak a=ak b):a=b:=by
 unfold ak at h
 injection h with h1 h2
 injection h2 with h2 h3
 injection h3 with h3 _
 injection h1 with h1
 injection h2 with h2
 injection h3 with h3
 obtain ⟨x,y,z⟩:=a
 obtain ⟨x',y',z'⟩:=b
 simp only at h1 h2 h3
 rw [h1,S_inj h2,h3]
theorem Cm (a:Arc):kT (ak a)=eA a:=by
 unfold kT ak eA
 simp only [List.map_cons,List.map_nil,kD,di]
theorem sQ {α β:Type} (f:α→β) (lt:β→β→Bool) (x:α):∀ l:List α,ins lt (f x) (l.map f)=(ins (fun a b=>lt (f a) (f b)) x l).map f
 | []=>rfl
 | y :: ys=>by
  rw [List.map_cons,ins,ins]
  cases lt (f y) (f x) with
  | true=>rw [if_pos rfl,if_pos rfl,sQ f lt x ys,List.map_cons]
  | false=>rw [if_neg Bool.false_ne_true,if_neg Bool.false_ne_true,List.map_cons,List.map_cons]
theorem j9 {α β:Type} (f:α→β) (lt:β→β→Bool):∀ l:List α,bG lt (l.map f)=(bG (fun a b=>lt (f a) (f b)) l).map f
 | []=>rfl
 | x :: l=>by
  show ins lt (f x) (bG lt (l.map f))=_
  rw [j9 f lt l,sQ]
  rfl
theorem lH (as:List Arc):as.map eA=(as.map ak).map kT:=by
 rw [List.map_map]
 exact List.map_congr_left fun a _=>(Cm a).symm
theorem yj (as:List Arc) (vs:List D) (h:as.length < 64):cV [.dct true (as.map eA) vs]=.ok (.l .f,.lst ((bG cO as).map eA)):=by
 unfold cV
 dsimp only
 rw [if_pos (by rw [List.length_map];exact h)]
 cases as with
 | nil=>rfl
 | cons a as=>
  have e1:g8 ((a :: as).map eA)=some ((a :: as).map ak):=by rw [lH,fZ]
  have e2:sameKinds (ak a) (as.map ak)=true:=by
   unfold sameKinds
   rw [List.all_map,Bool.and_eq_true,List.all_eq_true]
   exact ⟨rfl,fun b _=>rfl⟩
  rw [e1,List.map_cons,List.map_cons]
  dsimp only
  rw [if_pos e2,←List.map_cons,j9 ak dk,lH]
  rfl
theorem vg (a b:Arc):eqD (eA a) (eA b)=decide (a=b):=by
 obtain ⟨x,y,z⟩:=a
 obtain ⟨x',y',z'⟩:=b
 unfold eA
 simp only [eqD,km]
 rw [Bool.eq_iff_iff]
 simp
noncomputable def sR (as:List Arc) (a:Arc):List Arc:=if a∈as then as else as++[a]
theorem sS (as:List Arc) (vs:List D) (a:Arc) (v:D):∃ vs',mF (as.map eA) vs (eA a) v=((sR as a).map eA,vs'):=by
 have e:(as.map eA).any (eqD (eA a))=decide (a∈as):=by
  rw [List.any_map,Bool.eq_iff_iff,List.any_eq_true,decide_eq_true_eq]
  constructor
  ·rintro ⟨b,hb,h⟩
   have h:eqD (eA a) (eA b)=true:=h
   rw [vg,decide_eq_true_eq] at h
   rw [h]
   exact hb
  ·intro h
   refine ⟨a,h,?_⟩
   show eqD (eA a) (eA a)=true
   rw [vg,decide_eq_true_eq]
 unfold mF sR
 rw [e]
 by_cases h:a∈as
 ·rw [if_pos h,if_pos (decide_eq_true h)]
  exact ⟨_,rfl⟩
 ·rw [if_neg h,if_neg (by simpa using h),List.map_append]
  exact ⟨_,rfl⟩
theorem eS {as:List Arc} {a b:Arc}:b∈sR as a↔b∈as∨b=a:=by
 unfold sR
 split
 ·rename_i h
  exact ⟨.inl,fun g=>g.elim id fun e=>e▸h⟩
 ·rw [List.mem_append,List.mem_singleton]
theorem lI (as:List Arc) (a:Arc):(sR as a).length≤as.length + 1:=by
 unfold sR
 split
 ·lia
 ·rw [List.length_append];exact Nat.le_refl _
theorem lJ (nZ:List (List Nat)) (h0:nZ≠[]) (x:Int):∃ m∈nZ,ixD (.lst (nZ.map D.str)) (.int (x % (nZ.length:Int)))=.ok (.f,.str m):=by
 have hp:=List.length_pos_iff.mpr h0
 have h1:0≤x % (nZ.length:Int):=Int.emod_nonneg _ (by lia)
 have h2:x % (nZ.length:Int) < (nZ.length:Int):=Int.emod_lt_of_pos _ (by lia)
 obtain ⟨j,ej⟩:=Int.eq_ofNat_of_zero_le h1
 have hj:j < nZ.length:=by lia
 refine ⟨nZ[j],List.getElem_mem hj,?_⟩
 have e:atI (nZ.map D.str) (j:Int)=some (.str nZ[j]):=eg (by rw [List.getElem?_map,List.getElem?_eq_getElem hj];rfl)
 rw [ej,Az,e]
theorem AV (x z:Int) (m:List Nat):dD true (.tup [.int x,.str m,.int z])=true:=rfl
theorem fQ:∀ (l:List Int) (b:Int),b≤l.foldl max b∧(∀ x∈l,x≤l.foldl max b)∧(l.foldl max b=b∨l.foldl max b∈l)
 | [],b=>⟨Int.le_refl _,fun _ h=>(nomatch h),.inl rfl⟩
 | a :: l,b=>by
  obtain ⟨h1,h2,h3⟩:=fQ l (max b a)
  rw [List.foldl_cons]
  refine ⟨by lia,fun x hx=>?_,?_⟩
  ·rcases List.mem_cons.mp hx with rfl | hx
   ·lia
   ·exact h2 x hx
  ·rcases h3 with h3 | h3
   ·rw [h3]
    by_cases h:b≤a
    ·exact .inr (by rw [Int.max_eq_right h];exact List.mem_cons_self)
    ·exact .inl (Int.max_eq_left (by lia))
   ·exact .inr (List.mem_cons_of_mem _ h3)
theorem vh {ns:List Int} {x:Int} (h:x∈ns):x≤pX ns:=(fQ ns _).2.1 x h
theorem vk {ns:List Int} (h:ns≠[]):pX ns∈ns:=by
 cases ns with
 | nil=>exact absurd rfl h
 | cons a l=>
  rcases (fQ (a :: l) a).2.2 with e | e
  ·show List.foldl max a (a :: l)∈a :: l
   rw [e]
   exact List.mem_cons_self
  ·exact e
theorem yk {ns:List Int} {d x:Int} (h:x∈ns):x≤NX.maxD ns d:=by
 unfold NX.maxD
 rw [if_neg (List.ne_nil_of_mem h)]
 exact vh h
theorem sT (ns:List Int) (d:Int):(ns=[]∧NX.maxD ns d=d)∨NX.maxD ns d∈ns:=by
 unfold NX.maxD
 by_cases h:ns=[]
 ·exact .inl ⟨h,if_pos h⟩
 ·rw [if_neg h]
  exact .inr (vk h)
theorem ou (a:Arc):a.1≤pJ a∧a.2.2≤pJ a∧(pJ a=a.1∨pJ a=a.2.2):=by
 unfold pJ
 split
 ·exact ⟨by lia,by lia,.inr rfl⟩
 ·exact ⟨by lia,by lia,.inl rfl⟩
theorem sU {arcs:List Arc} {a:Arc} (h:a∈arcs):a.1 < a7 arcs∧a.2.2 < a7 arcs:=by
 have h1:=yk (d:=0) (List.mem_map.mpr ⟨a,h,rfl⟩:pJ a∈arcs.map pJ)
 obtain ⟨h2,h3,_⟩:=ou a
 unfold a7
 lia
theorem qo {arcs:List Arc} (h:∀ a∈arcs,0≤a.1∧0≤a.2.2):1≤a7 arcs:=by
 unfold a7
 rcases sT (arcs.map pJ) 0 with ⟨_,e⟩ | e
 ·lia
 ·obtain ⟨a,ha,e2⟩:=List.mem_map.mp e
  have:=h a ha
  obtain ⟨h1,h2,_⟩:=ou a
  lia
theorem sV {α:Type} (lt:α→α→Bool) {l:List α} {a:α}:a∈bG lt l↔a∈l:=(d3 lt l).mem_iff
noncomputable def cell (ns:List Int) (k:Nat):Int:=ns.getD k 0
theorem iY (ns:List Int) (k:Nat):au [.lst (ns.map D.int),.int (k:Int)]=.ok (.f,.int (cell ns k)):=by
 unfold au gu cell
 rw [bM (h:=by rfl)]
 simp only [pv,↓reduceIte,Nat.reduceAdd,Nat.reduceLT,Nat.reduceLeDiff,Nat.reduceEqDiff,op,List.length_map]
 by_cases h:k < ns.length
 ·have h1:(k:Int) < (ns.length:Int):=by lia
  simp only [h1,decide_true,pv,↓reduceIte,Nat.reduceAdd,Nat.reduceLT,Nat.reduceLeDiff,Nat.reduceEqDiff,pH h]
 ·have h1:¬ (k:Int) < (ns.length:Int):=by lia
  simp only [h1,decide_false,pv,↓reduceIte,Nat.reduceAdd,Nat.reduceLT,Nat.reduceLeDiff,Nat.reduceEqDiff,Bool.false_eq_true,List.getD_eq_getElem?_getD,List.getElem?_eq_none (Nat.le_of_not_lt h),Option.getD_none]
theorem yD (x y:Int) (h:cn x=true):yB (.int x) (.int y)=.ok (.f,.int (x * y)):=by rw [sJ,h,Bool.true_or,if_pos rfl]
theorem vm (x:Int) (h:0≤x) (h2:x≤4294967296):cn x=true:=by
 unfold cn
 rw [decide_eq_true_eq]
 lia
theorem pL (c:Int) (n:Nat) (hn:n≤1000):∃ xs:List Int,xs.length=n∧aY [.int c,.int (n:Int)]=.ok (.l .f,.lst (xs.map D.int)):=by
 unfold aY hZ
 rw [bM (h:=by rfl)]
 rw [ay (env':=[some (.f,.int c),some (.f,.int (n:Int)),some (.l .f,.lst []),none,none]) (by simp only [pv,↓reduceIte,Nat.reduceAdd,Nat.reduceLT,Nat.reduceLeDiff,Nat.reduceEqDiff,op])]
 rw [ay (env':=[some (.f,.int c),some (.f,.int (n:Int)),some (.l .f,.lst []),some (.f,.int (c % 2147483629 + 7)),none]) (by simp only [pv,↓reduceIte,Nat.reduceAdd,Nat.reduceLT,Nat.reduceLeDiff,Nat.reduceEqDiff,op,fg _ 2147483629 (by decide)])]
 have hm:=dB c 2147483629 (by decide)
 obtain ⟨env',ef,xs,x,t4,hx,h0,h1,rfl⟩:=lE (a:=aB 4) (g:=cW) (e:=fun k=>D.int (k:Int)) n (fun i env=>∃ (xs:List Int) (x:Int) (t4:Option R),xs.length=i∧0≤x∧x≤2147483640∧env=[some (.f,.int c),some (.f,.int (n:Int)),some (.l .f,.lst (xs.map D.int)),some (.f,.int x),t4]) (by
  rintro k env hk ⟨xs,x,t4,hx,h0,h1,rfl⟩
  have q:=dB (x * x + 69069 * x + 5 * (k:Int) + 1) 2147483629 (by decide)
  refine ⟨_,rfl,_,?_,xs++[(x * x + 69069 * x + 5 * (k:Int) + 1) % 2147483629 / 16],(x * x + 69069 * x + 5 * (k:Int) + 1) % 2147483629,some (.f,.int (k:Int)),by rw [List.length_append,hx];rfl,q.1,by lia,rfl⟩
  have z:(xs.map D.int).length < sizeLine:=gc (by rw [List.length_map];lia)
  unfold cW
  simp only [pv,↓reduceIte,Nat.reduceAdd,Nat.reduceLT,Nat.reduceLeDiff,Nat.reduceEqDiff,op,yD x x (vm x h0 (by lia)),yD 69069 x (by decide),yD 5 (k:Int) (by decide),fg _ 2147483629 (by decide),u0 _ 16 (by decide) (by decide),z,List.map_append]) _ ⟨[],c % 2147483629 + 7,none,rfl,by lia,by lia,rfl⟩
 rw [List.map_nil] at ef
 rw [ay (env':=_) (by
  unfold fC
  simp only [pv,↓reduceIte,Nat.reduceAdd,Nat.reduceLT,Nat.reduceLeDiff,Nat.reduceEqDiff,op]
  rw [if_pos (by lia)]
  simp only [pv,↓reduceIte,Nat.reduceAdd,Nat.reduceLT,Nat.reduceLeDiff,Nat.reduceEqDiff,op,Int.toNat_natCast]
  exact ef)]
 unfold eX
 exact ⟨xs,hx,by simp only [pv,↓reduceIte,Nat.reduceAdd,Nat.reduceLT,Nat.reduceLeDiff,Nat.reduceEqDiff,op]⟩
noncomputable def nch (cel:Int) (sp:Int) (k j:Nat):Nat:=97 + ((cel / ((j:Int) + 64) + (j:Int) * (j:Int) + (if ((j:Int) == sp)=true then (k:Int) else 0)) % 26).toNat
noncomputable def nmw (cel:Int) (lg:Nat) (sp:Int) (k:Nat):List Nat:=(List.range lg).map (nch cel sp k)
theorem ym (cel:Int) (lg:Nat) (sp:Int) (h0:0≤sp) (h1:sp < (lg:Int)) (k k':Nat) (hk:k≤5) (hk':k'≤5) (e:fix (nmw cel lg sp k)=fix (nmw cel lg sp k')):k=k':=by
 have e:=yd (by unfold nmw;rw [List.length_map,List.length_map]) e
 obtain ⟨j,rfl⟩:=Int.eq_ofNat_of_zero_le h0
 have e2:=congrArg (fun l=>l[j]?) e
 unfold nmw at e2
 simp only [List.getElem?_map,List.getElem?_range (show j < lg by lia),Option.map_some,Option.some.injEq] at e2
 unfold nch at e2
 rw [if_pos (beq_self_eq_true _),if_pos (beq_self_eq_true _)] at e2
 have b1:=dB (cel / ((j:Int) + 64) + (j:Int) * (j:Int) + (k:Int)) 26 (by decide)
 have b2:=dB (cel / ((j:Int) + 64) + (j:Int) * (j:Int) + (k':Int)) 26 (by decide)
 generalize cel / ((j:Int) + 64) + (j:Int) * (j:Int)=z at *
 lia
theorem AW (cel:Int) (cnt:Nat) (lg sp:Int) (LL:Option R) (k j:Nat) (hj:j≤10) (t9:Option R):∃ t9',cy [some (.f,.int cel),some (.f,.int (cnt:Int)),some (.f,.str LET),some (.f,.int lg),some (.f,.int sp),LL,some (.f,.int (k:Int)),some (.f,.str ((List.range j).map (nch cel sp k))),some (.f,.int (j:Int)),t9]=.ok (.nx [some (.f,.int cel),some (.f,.int (cnt:Int)),some (.f,.str LET),some (.f,.int lg),some (.f,.int sp),LL,some (.f,.int (k:Int)),some (.f,.str ((List.range (j + 1)).map (nch cel sp k))),some (.f,.int (j:Int)),t9']):=by
 have hjj:=yD (j:Int) (j:Int) (mW j (by lia))
 have hd:=u0 cel ((j:Int) + 64) (by lia) (by lia)
 have hlen:((List.range j).map (nch cel sp k)).length≤10:=by rw [List.length_map,List.length_range];lia
 rw [List.range_succ,List.map_append,List.map_cons,List.map_nil]
 generalize (List.range j).map (nch cel sp k)=w at hlen ⊢
 have key:∀ st:Int,(bW 7 (aA cS (av 7) (ao (aA ixD (av 2) (ao (aA dF (av 9) (ao (aE (.int 26))))))))) [some (.f,.int cel),some (.f,.int (cnt:Int)),some (.f,.str LET),some (.f,.int lg),some (.f,.int sp),LL,some (.f,.int (k:Int)),some (.f,.str w),some (.f,.int (j:Int)),some (.f,.int st)]=.ok (.nx [some (.f,.int cel),some (.f,.int (cnt:Int)),some (.f,.str LET),some (.f,.int lg),some (.f,.int sp),LL,some (.f,.int (k:Int)),some (.f,.str (w++[97 + (st % 26).toNat])),some (.f,.int (j:Int)),some (.f,.int st)]):=by
  intro st
  obtain ⟨m1,m2⟩:=dB st 26 (by decide)
  simp only [pv,↓reduceIte,Nat.reduceAdd,Nat.reduceLT,Nat.reduceLeDiff,Nat.reduceEqDiff,op,fg _ 26 (by decide),AQ _ m1 m2,Dz w [97 + (st % 26).toNat] (by rw [List.length_cons,List.length_nil];lia)]
 unfold cy
 rw [ay (env':=[some (.f,.int cel),some (.f,.int (cnt:Int)),some (.f,.str LET),some (.f,.int lg),some (.f,.int sp),LL,some (.f,.int (k:Int)),some (.f,.str w),some (.f,.int (j:Int)),some (.f,.int (cel / ((j:Int) + 64) + (j:Int) * (j:Int)))]) (by simp only [pv,↓reduceIte,Nat.reduceAdd,Nat.reduceLT,Nat.reduceLeDiff,Nat.reduceEqDiff,op,hd,hjj])]
 unfold nch
 generalize cel / ((j:Int) + 64) + (j:Int) * (j:Int)=st
 cases he:(j:Int) == sp with
 | true=>
  refine ⟨some (.f,.int (st + (k:Int))),?_⟩
  rw [ay (env':=[some (.f,.int cel),some (.f,.int (cnt:Int)),some (.f,.str LET),some (.f,.int lg),some (.f,.int sp),LL,some (.f,.int (k:Int)),some (.f,.str w),some (.f,.int (j:Int)),some (.f,.int (st + (k:Int)))]) (by simp only [pv,↓reduceIte,Nat.reduceAdd,Nat.reduceLT,Nat.reduceLeDiff,Nat.reduceEqDiff,op,he])]
  rw [if_pos rfl]
  exact key _
 | false=>
  refine ⟨some (.f,.int st),?_⟩
  rw [ay (env':=[some (.f,.int cel),some (.f,.int (cnt:Int)),some (.f,.str LET),some (.f,.int lg),some (.f,.int sp),LL,some (.f,.int (k:Int)),some (.f,.str w),some (.f,.int (j:Int)),some (.f,.int st)]) (by simp only [pv,↓reduceIte,Nat.reduceAdd,Nat.reduceLT,Nat.reduceLeDiff,Nat.reduceEqDiff,op,he,Bool.false_eq_true])]
  rw [if_neg Bool.false_ne_true,Int.add_zero]
  exact key _
theorem AX (cel:Int) (cnt:Nat) (lg sp:Int) (hlg:0≤lg∧lg≤8) (l:List (List Nat)) (hl:l.length≤10) (k:Nat) (t7 t8 t9:Option R):∃ u7 u8 u9,cz [some (.f,.int cel),some (.f,.int (cnt:Int)),some (.f,.str LET),some (.f,.int lg),some (.f,.int sp),some (.l .f,.lst (l.map D.str)),some (.f,.int (k:Int)),t7,t8,t9]=.ok (.nx [some (.f,.int cel),some (.f,.int (cnt:Int)),some (.f,.str LET),some (.f,.int lg),some (.f,.int sp),some (.l .f,.lst ((l++[fix (nmw cel lg.toNat sp k)]).map D.str)),some (.f,.int (k:Int)),u7,u8,u9]):=by
 unfold cz
 rw [ay (env':=[some (.f,.int cel),some (.f,.int (cnt:Int)),some (.f,.str LET),some (.f,.int lg),some (.f,.int sp),some (.l .f,.lst (l.map D.str)),some (.f,.int (k:Int)),some (.f,.str []),t8,t9]) (by simp only [pv,↓reduceIte,Nat.reduceAdd,Nat.reduceLT,Nat.reduceLeDiff,Nat.reduceEqDiff,op])]
 obtain ⟨env',ef,t8',t9',rfl⟩:=lE (a:=aB 8) (g:=cy) (e:=fun k=>D.int (k:Int)) lg.toNat (fun i env=>∃ (t8 t9:Option R),env=[some (.f,.int cel),some (.f,.int (cnt:Int)),some (.f,.str LET),some (.f,.int lg),some (.f,.int sp),some (.l .f,.lst (l.map D.str)),some (.f,.int (k:Int)),some (.f,.str ((List.range i).map (nch cel sp k))),t8,t9]) (by
  rintro j env hj ⟨t8,t9,rfl⟩
  obtain ⟨t9',e⟩:=AW cel cnt lg sp (some (.l .f,.lst (l.map D.str))) k j (by lia) t9
  exact ⟨_,rfl,_,e,_,_,rfl⟩) _ ⟨t8,t9,rfl⟩
 rw [List.range_zero,List.map_nil] at ef
 rw [ay (env':=_) (by
  unfold gv
  simp only [pv,↓reduceIte,Nat.reduceAdd,Nat.reduceLT,Nat.reduceLeDiff,Nat.reduceEqDiff,op]
  rw [if_pos (by lia)]
  simp only [pv,↓reduceIte,Nat.reduceAdd,Nat.reduceLT,Nat.reduceLeDiff,Nat.reduceEqDiff,op]
  exact ef)]
 unfold fD
 have z:(l.map D.str).length < sizeLine:=gc (by rw [List.length_map];lia)
 rw [show (List.range lg.toNat).map (nch cel sp k)=nmw cel lg.toNat sp k from rfl]
 generalize nmw cel lg.toNat sp k=w
 unfold fix mV
 cases he:w == [109,111,118,101,115] with
 | true=>exact ⟨some (.f,.str [109,111,118,101,115,97]),t8',t9',by simp only [pv,↓reduceIte,Nat.reduceAdd,Nat.reduceLT,Nat.reduceLeDiff,Nat.reduceEqDiff,op,he,z,List.map_append]⟩
 | false=>exact ⟨some (.f,.str w),t8',t9',by simp only [pv,↓reduceIte,Nat.reduceAdd,Nat.reduceLT,Nat.reduceLeDiff,Nat.reduceEqDiff,op,he,z,Bool.false_eq_true,List.map_append]⟩
theorem yn (cel:Int) (cnt:Nat) (h5:cnt≤5):∃ l:List (List Nat),l.length=cnt∧l.Nodup∧l.Pairwise (fun a b=>ltS b a=false)∧cp [.int cel,.int (cnt:Int)]=.ok (.l .f,.lst (l.map D.str)):=by
 unfold cp iQ
 rw [bM (h:=by rfl)]
 rw [ay (env':=[some (.f,.int cel),some (.f,.int (cnt:Int)),some (.f,.str LET),none,none,none,none,none,none,none]) (by simp only [pv,↓reduceIte,Nat.reduceAdd,Nat.reduceLT,Nat.reduceLeDiff,Nat.reduceEqDiff,op];rfl)]
 have m8:=dB cel 8 (by decide)
 rw [ay (env':=[some (.f,.int cel),some (.f,.int (cnt:Int)),some (.f,.str LET),some (.f,.int (1 + cel % 8)),none,none,none,none,none,none]) (by simp only [pv,↓reduceIte,Nat.reduceAdd,Nat.reduceLT,Nat.reduceLeDiff,Nat.reduceEqDiff,op,fg _ 8 (by decide)])]
 generalize hlg:1 + cel % 8=lg
 rw [ay (env':=[some (.f,.int cel),some (.f,.int (cnt:Int)),some (.f,.str LET),some (.f,.int lg),some (.f,.int (cel / 8 % lg)),none,none,none,none,none]) (by simp only [pv,↓reduceIte,Nat.reduceAdd,Nat.reduceLT,Nat.reduceLeDiff,Nat.reduceEqDiff,op,u0 _ 8 (by decide) (by decide),fg _ lg (by lia)])]
 have hsp:=dB (cel / 8) lg (by lia)
 generalize cel / 8 % lg=sp at hsp
 rw [ay (env':=[some (.f,.int cel),some (.f,.int (cnt:Int)),some (.f,.str LET),some (.f,.int lg),some (.f,.int sp),some (.l .f,.lst []),none,none,none,none]) (by simp only [pv,↓reduceIte,Nat.reduceAdd,Nat.reduceLT,Nat.reduceLeDiff,Nat.reduceEqDiff,op])]
 obtain ⟨env',ef,t6,t7,t8,t9,rfl⟩:=lE (a:=aB 6) (g:=cz) (e:=fun k=>D.int (k:Int)) cnt (fun i env=>∃ (t6 t7 t8 t9:Option R),env=[some (.f,.int cel),some (.f,.int (cnt:Int)),some (.f,.str LET),some (.f,.int lg),some (.f,.int sp),some (.l .f,.lst (((List.range i).map fun k=>fix (nmw cel lg.toNat sp k)).map D.str)),t6,t7,t8,t9]) (by
  rintro k env hk ⟨t6,t7,t8,t9,rfl⟩
  obtain ⟨u7,u8,u9,e⟩:=AX cel cnt lg sp (by lia) ((List.range k).map fun k=>fix (nmw cel lg.toNat sp k)) (by rw [List.length_map,List.length_range];lia) k t7 t8 t9
  rw [show ((List.range k).map fun k=>fix (nmw cel lg.toNat sp k))++[fix (nmw cel lg.toNat sp k)]=(List.range (k + 1)).map fun k=>fix (nmw cel lg.toNat sp k) by rw [List.range_succ,List.map_append];rfl] at e
  exact ⟨_,rfl,_,e,_,_,_,_,rfl⟩) _ ⟨none,none,none,none,rfl⟩
 rw [List.range_zero,List.map_nil,List.map_nil] at ef
 rw [ay (env':=_) (by
  unfold gw
  simp only [pv,↓reduceIte,Nat.reduceAdd,Nat.reduceLT,Nat.reduceLeDiff,Nat.reduceEqDiff,op]
  rw [if_pos (by lia)]
  simp only [pv,↓reduceIte,Nat.reduceAdd,Nat.reduceLT,Nat.reduceLeDiff,Nat.reduceEqDiff,op,Int.toNat_natCast]
  exact ef)]
 unfold fE
 have hlen:((List.range cnt).map fun k=>fix (nmw cel lg.toNat sp k)).length=cnt:=by rw [List.length_map,List.length_range]
 have hnd:((List.range cnt).map fun k=>fix (nmw cel lg.toNat sp k)).Nodup:=fP _ cnt fun i j hi hj e=>ym cel lg.toNat sp hsp.1 (by lia) i j (by lia) (by lia) e
 generalize ((List.range cnt).map fun k=>fix (nmw cel lg.toNat sp k))=l at hlen hnd
 exact ⟨bG ltS l,by rw [mU];exact hlen,(d3 ltS l).nodup_iff.mpr hnd,dH r9 l,by simp only [pv,↓reduceIte,Nat.reduceAdd,Nat.reduceLT,Nat.reduceLeDiff,Nat.reduceEqDiff,op,yc l (by lia)]⟩
noncomputable def wD (w:List (List Nat)):D:=.tup (w.map D.str)
theorem AY (w:List (List Nat)) (m:List Nat):yC (w.map D.str) [.str m]=.ok (.f,.int ((w.count m:Nat):Int)):=by
 unfold yC
 dsimp only
 rw [d7]
noncomputable def row (nZ w:List (List Nat)):List Int:=nZ.map fun m=>((w.count m:Nat):Int)
theorem ka (nZ w:List (List Nat)) (hl:nZ.length≤1000):b7 [.tup (nZ.map D.str),.tup (w.map D.str)]=.ok (.f,.tup ((row nZ w).map D.int)):=by
 unfold b7 mN
 rw [bM (h:=by rfl)]
 have hc:dt (aB 0) ik (Ag yC (av 1) (ah (av 0) az)) (nZ.map D.str) [none,some (.f,.tup (w.map D.str))]=.ok ((row nZ w).map D.int):=by
  rw [c7 (r:=fun m:List Nat=>D.int ((w.count m:Nat):Int)) (fun env=>∃ t1,env=[t1,some (.f,.tup (w.map D.str))]) nZ ?_ _ ⟨_,rfl⟩]
  ·unfold row
   rw [List.map_map]
   rfl
  ·rintro m _ env ⟨t1,rfl⟩
   refine ⟨[some (.f,.str m),some (.f,.tup (w.map D.str))],rfl,?_⟩
   simp only [pv,↓reduceIte,Nat.reduceAdd,Nat.reduceLT,Nat.reduceLeDiff,Nat.reduceEqDiff,op,AY]
   exact ⟨_,_,rfl,_,rfl⟩
 simp only [pv,↓reduceIte,Nat.reduceAdd,Nat.reduceLT,Nat.reduceLeDiff,Nat.reduceEqDiff,op,hc]
 rw [if_pos (b9 (by unfold row;rw [List.length_map,List.length_map];lia))]
 simp only [pv,↓reduceIte,Nat.reduceAdd,Nat.reduceLT,Nat.reduceLeDiff,Nat.reduceEqDiff,op]
theorem yo (i:Int):a9 [.int i]=.ok (.f,.bl true):=by
 unfold a9 fI
 rw [bM (h:=by rfl)]
 simp only [pv,↓reduceIte,Nat.reduceAdd,Nat.reduceLT,Nat.reduceLeDiff,Nat.reduceEqDiff,DB,DA]
 rfl
theorem DE (l:List D):tM "list" (.lst l)=true:=rfl
theorem mX (rows:List (List Int)) (w:Nat) (hw:∀ r∈rows,r.length=w):bq [.lst (rows.map fun r=>.tup (r.map D.int)),.int (w:Int)]=.ok (.f,.bl true):=by
 unfold bq gB
 rw [bM (h:=by rfl)]
 rw [ay (env':=[some (.f,.lst (rows.map fun r=>.tup (r.map D.int))),some (.f,.int (w:Int)),none]) (by simp only [pv,↓reduceIte,Nat.reduceAdd,Nat.reduceLT,Nat.reduceLeDiff,Nat.reduceEqDiff,op,DE,Bool.not_true,Bool.false_eq_true])]
 obtain ⟨t,ef⟩:=ve (a:=aB 2) (g:=cN) (e:=fun r:List Int=>D.tup (r.map D.int)) rows (fun t=>[some (.f,.lst (rows.map fun r=>.tup (r.map D.int))),some (.f,.int (w:Int)),t]) (by
  intro r hr t
  refine ⟨some (.f,.tup (r.map D.int)),rfl,?_⟩
  have hc:dt (aB 0) (uD (eBl (cP a9 (ah (av 0) az)))) (aM 0) (r.map D.int) [none]=.ok []:=by
   have e:=pE (a:=aB 0) (c:=(uD (eBl (cP a9 (ah (av 0) az))))) (f:=aM 0) (e:=D.int) (p:=fun _=>false) (r:=D.int) (fun env=>∃ t1,env=[t1]) r ?_ _ ⟨none,rfl⟩
   ·rw [e,List.filter_eq_nil_iff.mpr fun _ _=>Bool.false_ne_true]
    rfl
   ·rintro x _ env ⟨t1,rfl⟩
    refine ⟨[some (.f,.int x)],rfl,[some (.f,.int x)],?_,?_⟩
    ·simp only [pv,↓reduceIte,Nat.reduceAdd,Nat.reduceLT,Nat.reduceLeDiff,Nat.reduceEqDiff,op,yo,Bool.not_true]
    ·rw [if_neg Bool.false_ne_true]
     exact ⟨_,rfl⟩
  have hlt:¬ (0:Int) < ((0:Nat):Int):=by lia
  unfold cN
  simp only [pv,↓reduceIte,Nat.reduceAdd,Nat.reduceLT,Nat.reduceLeDiff,Nat.reduceEqDiff,op,isT,List.length_map,hw r hr,beq_self_eq_true,Bool.not_true,Bool.false_eq_true,hc]
  rw [if_pos (Nat.zero_le _),show flatDs []=true from rfl]
  simp only [pv,↓reduceIte,Nat.reduceAdd,Nat.reduceLT,Nat.reduceLeDiff,Nat.reduceEqDiff,op,hlt,decide_false,Bool.false_eq_true]) none
 rw [ay (env':=_) (by
  unfold e9
  simp only [pv,↓reduceIte,Nat.reduceAdd,Nat.reduceLT,Nat.reduceLeDiff,Nat.reduceEqDiff,op]
  exact ef)]
 unfold d5
 simp only [pv,↓reduceIte,Nat.reduceAdd,Nat.reduceLT,Nat.reduceLeDiff,Nat.reduceEqDiff,op]
theorem yp (ws:List (List (List Nat))):flatDs (ws.map wD)=true:=by
 rw [bC,List.all_map,List.all_eq_true]
 intro s _
 show cH (.tup _)=true
 rw [f6,PV.flat_strs]
theorem AZ (l:List (Int×Int)) (hl:l.length≤1000):jT [.tup (l.map fun p=>.int p.1),.tup (l.map fun p=>.int p.2)]=.ok (.f,.tup ((l.map fun p=>p.1 - p.2).map D.int)):=by
 unfold jT v5
 rw [bM (h:=by rfl)]
 have ez:((l.map fun p=>D.int p.1).zip (l.map fun p=>D.int p.2)).map (fun z=>D.tup [z.1,z.2])=l.map fun p=>D.tup [.int p.1,.int p.2]:=by
  rw [List.zip_map',List.map_map]
  rfl
 have hc:dt (kl 2 (aK (aB 0) (aK (aB 1) dX))) ik (aA qw (av 0) (av 1)) (l.map fun p=>D.tup [.int p.1,.int p.2]) [none,none]=.ok ((l.map fun p=>p.1 - p.2).map D.int):=by
  rw [c7 (r:=fun p:Int×Int=>D.int (p.1 - p.2)) (fun env=>∃ t1 t2,env=[t1,t2]) l ?_ _ ⟨_,_,rfl⟩]
  ·rw [List.map_map]
   rfl
  ·rintro p _ env ⟨t1,t2,rfl⟩
   refine ⟨_,oi _ _ t1 t2 [],?_⟩
   simp only [pv,↓reduceIte,Nat.reduceAdd,Nat.reduceLT,Nat.reduceLeDiff,Nat.reduceEqDiff,op]
   exact ⟨_,_,rfl,_,_,rfl⟩
 simp only [pv,↓reduceIte,Nat.reduceAdd,Nat.reduceLT,Nat.reduceLeDiff,Nat.reduceEqDiff,op,ez,hc]
 rw [if_pos (b9 (by rw [List.length_map,List.length_map];lia))]
 simp only [pv,↓reduceIte,Nat.reduceAdd,Nat.reduceLT,Nat.reduceLeDiff,Nat.reduceEqDiff,op]
noncomputable def sW (nZ:List (List Nat)) (N:List Nd) (a:Arc):List Int:=(nZ.map fun m=>((((aV N a.1++[a.2.1]).count m:Nat):Int),(((aV N a.2.2).count m:Nat):Int))).map fun p=>p.1 - p.2
theorem yq (nZ w w':List (List Nat)) (hl:nZ.length≤1000):jT [.tup ((row nZ w).map D.int),.tup ((row nZ w').map D.int)]=.ok (.f,.tup (((nZ.map fun m=>(((w.count m:Nat):Int),((w'.count m:Nat):Int))).map fun p=>p.1 - p.2).map D.int)):=by
 have h:=AZ (nZ.map fun m=>(((w.count m:Nat):Int),((w'.count m:Nat):Int))) (by rw [List.length_map];exact hl)
 rw [←h]
 unfold row
 rw [List.map_map,List.map_map,List.map_map,List.map_map]
 rfl
theorem sX {N:List Nd} {many:Nat} {s:Int} (h0:0≤s) (h:s < (many:Int)):atI (((List.range many).map fun (s:Nat)=>aV N (s:Int)).map wD) s=some (.tup ((aV N s).map D.str)):=by
 obtain ⟨k,rfl⟩:=Int.eq_ofNat_of_zero_le h0
 exact eg (by rw [List.getElem?_map,List.getElem?_map,List.getElem?_range (by lia)];rfl)
theorem kM (n:Nat) (arcs:List Arc):plainDs (n + 3) (arcs.map eA)=true:=by
 induction arcs with
 | nil=>rfl
 | cons a l ih=>
  rw [List.map_cons,plainDs,ih]
  rfl
theorem vn (T:List Arc) (a:Arc):r6 (eA a) (.lst (T.map eA))=.ok (.f,.bl (!decide (a∈T))):=by
 have e:qy (eA a) (T.map eA)=decide (a∈T):=by
  unfold qy
  rw [List.any_map,Bool.eq_iff_iff,List.any_eq_true,decide_eq_true_eq]
  constructor
  ·rintro ⟨x,hx,e⟩
   have e:eqD (eA x) (eA a)=true:=e
   rw [vg,decide_eq_true_eq] at e
   rw [←e]
   exact hx
  ·intro h
   refine ⟨a,h,?_⟩
   show eqD (eA a) (eA a)=true
   rw [vg,decide_eq_true_eq]
 unfold r6 inO
 dsimp only
 rw [show plainD 40 (eA a)=true from rfl,kM 37 T,Bool.and_self,if_pos rfl,e]
 rfl
noncomputable def rgs (nZ:List (List Nat)) (N:List Nd) (T arcs:List Arc):List (List Int):=(arcs.filter fun a=>!decide (a∈T)).map (sW nZ N)
theorem yr (nZ:List (List Nat)) (N:List Nd) (T l:List Arc) (a:Arc):rgs nZ N T (l++[a])=if a∈T then rgs nZ N T l else rgs nZ N T l++[sW nZ N a]:=by
 unfold rgs
 rw [List.filter_append,List.map_append]
 by_cases h:a∈T
 ·rw [if_pos h,List.filter_cons_of_neg (by simpa using h)]
  simp
 ·rw [if_neg h,List.filter_cons_of_pos (by simpa using h)]
  rfl
theorem sY (nZ:List (List Nat)) (N:List Nd) (T l:List Arc):(rgs nZ N T l).length≤l.length:=by
 unfold rgs
 rw [List.length_map]
 exact List.length_filter_le _ _
theorem qp {nZ:List (List Nat)} {arcs:List Arc} {N:List Nd} {T:List Arc} {many:Nat} (ew:bK [eCh nZ arcs]=.ok (.l .f,.lst (((List.range many).map fun (s:Nat)=>aV N (s:Int)).map wD))) (et:bQ [.lst (arcs.map eA)]=.ok (.l .f,.lst (T.map eA)))
  (hb:∀ a∈arcs,(0≤a.1∧a.1 < (many:Int))∧0≤a.2.2∧a.2.2 < (many:Int)) (hw:∀ s:Int,(aV N s).length≤1000) (hn:nZ.length≤1000) (hl:arcs.length≤1000):c9 [eCh nZ arcs]=.ok (.l .f,.lst ((rgs nZ N T arcs).map fun r=>D.tup (r.map D.int))):=by
 unfold c9 kH
 rw [bM (h:=by rfl)]
 have hf:=yp ((List.range many).map fun (s:Nat)=>aV N (s:Int))
 rw [ay (env':=[some (.f,eCh nZ arcs),some (.l .f,.lst (((List.range many).map fun (s:Nat)=>aV N (s:Int)).map wD)),none,none,none]) (by simp only [pv,↓reduceIte,Nat.reduceAdd,Nat.reduceLT,Nat.reduceLeDiff,Nat.reduceEqDiff,op,ew,hf])]
 rw [ay (env':=[some (.f,eCh nZ arcs),some (.l .f,.lst (((List.range many).map fun (s:Nat)=>aV N (s:Int)).map wD)),some (.l .f,.lst (T.map eA)),none,none]) (by unfold eCh;simp only [pv,↓reduceIte,Nat.reduceAdd,Nat.reduceLT,Nat.reduceLeDiff,Nat.reduceEqDiff,op,et,iE])]
 rw [ay (env':=[some (.f,eCh nZ arcs),some (.l .f,.lst (((List.range many).map fun (s:Nat)=>aV N (s:Int)).map wD)),some (.l .f,.lst (T.map eA)),some (.l .f,.lst []),none]) (by simp only [pv,↓reduceIte,Nat.reduceAdd,Nat.reduceLT,Nat.reduceLeDiff,Nat.reduceEqDiff,op])]
 obtain ⟨env',ef,t4,rfl⟩:=for_list (a:=aB 4) (g:=eO) (e:=eA) arcs (fun j env=>∃ t4,env=[some (.f,eCh nZ arcs),some (.l .f,.lst (((List.range many).map fun (s:Nat)=>aV N (s:Int)).map wD)),some (.l .f,.lst (T.map eA)),some (.l .f,.lst ((rgs nZ N T (arcs.take j)).map fun r=>D.tup (r.map D.int))),t4]) (by
  rintro j a env hj ⟨t4,rfl⟩
  have ham:=List.mem_of_getElem? hj
  have hba:=hb a ham
  have ht:arcs.take (j + 1)=arcs.take j++[a]:=by rw [List.take_add_one,hj];rfl
  refine ⟨[some (.f,eCh nZ arcs),some (.l .f,.lst (((List.range many).map fun (s:Nat)=>aV N (s:Int)).map wD)),some (.l .f,.lst (T.map eA)),some (.l .f,.lst ((rgs nZ N T (arcs.take j)).map fun r=>D.tup (r.map D.int))),some (.f,eA a)],rfl,_,?_,some (.f,eA a),rfl⟩
  have hnt:=vn T a
  rw [ht,yr]
  unfold eO
  by_cases h:a∈T
  ·rw [if_pos h]
   simp only [pv,↓reduceIte,Nat.reduceAdd,Nat.reduceLT,Nat.reduceLeDiff,Nat.reduceEqDiff,op,hnt,h,decide_true,Bool.not_true,Bool.false_eq_true]
  ·rw [if_neg h]
   have w1:=sX (N:=N) (many:=many) (s:=a.1) hba.1.1 hba.1.2
   have w2:=sX (N:=N) (many:=many) (s:=a.2.2) hba.2.1 hba.2.2
   have hz:((rgs nZ N T (arcs.take j)).map fun r=>D.tup (r.map D.int)).length < sizeLine:=gc (by
    have:=sY nZ N T (arcs.take j)
    rw [List.length_take] at this
    rw [List.length_map]
    lia)
   have hr:=yq nZ (aV N a.1++[a.2.1]) (aV N a.2.2) hn
   have hc1:=ka nZ (aV N a.1++[a.2.1]) hn
   have hc2:=ka nZ (aV N a.2.2) hn
   have ha:=CK (aV N a.1) a.2.1 (hw _)
   have hrr:((nZ.map fun m=>((((aV N a.1++[a.2.1]).count m:Nat):Int),(((aV N a.2.2).count m:Nat):Int))).map fun p=>p.1 - p.2)=sW nZ N a:=rfl
   rw [hrr] at hr
   rw [List.map_append,List.map_cons,List.map_nil]
   generalize ((rgs nZ N T (arcs.take j)).map fun r=>D.tup (r.map D.int))=RR at hz ⊢
   generalize (((List.range many).map fun (s:Nat)=>aV N (s:Int)).map wD)=WW at w1 w2 ⊢
   generalize ((aV N a.1++[a.2.1]).map D.str)=WA at ha hc1
   generalize (row nZ (aV N a.1++[a.2.1]))=R1 at hr hc1
   generalize (row nZ (aV N a.2.2))=R2 at hr hc2
   generalize T.map eA=TT at hnt ⊢
   unfold eCh
   rw [show eA a=.tup [.int a.1,.str a.2.1,.int a.2.2] from rfl] at hnt ⊢
   simp only [pv,↓reduceIte,Nat.reduceAdd,Nat.reduceLT,Nat.reduceLeDiff,Nat.reduceEqDiff,op,hnt,h,decide_false,Bool.not_false,w1,w2,at2,ha,hc1,hc2,hr,hz]) _ ⟨none,rfl⟩
 rw [List.take_length] at ef
 rw [ay (env':=_) (by
  unfold iP
  unfold eCh at ef ⊢
  simp only [pv,↓reduceIte,Nat.reduceAdd,Nat.reduceLT,Nat.reduceLeDiff,Nat.reduceEqDiff,op]
  exact ef)]
 unfold hX
 simp only [pv,↓reduceIte,Nat.reduceAdd,Nat.reduceLT,Nat.reduceLeDiff,Nat.reduceEqDiff,op]
theorem wd (nZ:List (List Nat)) (N:List Nd) (many:Nat):flatDs ((List.range many).map fun (s:Nat)=>D.tup ((row nZ (aV N (s:Int))).map D.int))=true:=by
 rw [bC,List.all_map,List.all_eq_true]
 intro s _
 show cH (.tup _)=true
 rw [f6,flat_ints]
theorem A6 (N:List Nd) (many:Nat):flatDs ((List.range many).map fun (s:Nat)=>D.tup ((aV N (s:Int)).map D.str))=true:=by
 rw [bC,List.all_map,List.all_eq_true]
 intro s _
 show cH (.tup _)=true
 rw [f6,PV.flat_strs]
theorem ox {nZ:List (List Nat)} {arcs:List Arc} {N:List Nd} {many:Nat} (hm:many≤12) (hl:nZ.length≤1000) (ew:bK [eCh nZ arcs]=.ok (.l .f,.lst ((List.range many).map fun (s:Nat)=>D.tup ((aV N (s:Int)).map D.str)))):cJ [eCh nZ arcs]=.ok (.l .f,.lst ((List.range many).map fun (s:Nat)=>D.tup ((row nZ (aV N (s:Int))).map D.int))):=by
 unfold cJ jV
 rw [bM (h:=by rfl)]
 have hc:dt (aB 0) ik (cP b7 (ah (ao (aA ixD (av 1) (ao (aE (.int 0))))) (ah (av 0) az))) ((List.range many).map fun (s:Nat)=>D.tup ((aV N (s:Int)).map D.str)) [none,some (.f,eCh nZ arcs)]=.ok ((List.range many).map fun (s:Nat)=>D.tup ((row nZ (aV N (s:Int))).map D.int)):=by
  refine c7 (r:=fun s:Nat=>D.tup ((row nZ (aV N (s:Int))).map D.int)) (fun env=>∃ t1,env=[t1,some (.f,eCh nZ arcs)]) (List.range many) ?_ _ ⟨_,rfl⟩
  rintro s _ env ⟨t1,rfl⟩
  refine ⟨[some (.f,.tup ((aV N (s:Int)).map D.str)),some (.f,eCh nZ arcs)],rfl,?_⟩
  unfold eCh
  simp only [pv,↓reduceIte,Nat.reduceAdd,Nat.reduceLT,Nat.reduceLeDiff,Nat.reduceEqDiff,op,ka nZ _ hl]
  exact ⟨_,_,rfl,_,rfl⟩
 simp only [pv,↓reduceIte,Nat.reduceAdd,Nat.reduceLT,Nat.reduceLeDiff,Nat.reduceEqDiff,op,ew,A6]
 rw [hc,bOk,if_pos (b9 (by rw [List.length_map,List.length_range];lia)),wd]
 simp only [pv,↓reduceIte,Nat.reduceAdd,Nat.reduceLT,Nat.reduceLeDiff,Nat.reduceEqDiff,op]
theorem yt:Ord cO:=⟨fun a=>jH.irr (ak a),fun a b c=>jH.trans (ak a) (ak b) (ak c),fun a b h1 h2=>AU (jH.tot _ _ h1 h2)⟩
theorem Found.zero {arcs:List Arc} {N:List Nd} (F:Found arcs N):(0:Int)∈N.map (·.1):=List.mem_map.mpr ⟨(0,[]),List.mem_of_getElem? F.z,rfl⟩
structure Ch (nZ:List (List Nat)) (arcs:List Arc):Prop where
 al:arcs.length≤60
 bd:∀ a∈arcs,(0≤a.1∧a.1 < 12)∧0≤a.2.2∧a.2.2 < 12
 nm:∀ a∈arcs,a.2.1∈nZ
 st:1≤a7 arcs∧a7 arcs≤12
 all:∀ N,Found arcs N→∀ s:Int,0≤s→s < a7 arcs→s∈N.map (·.1)
structure Ra (nZ:List (List Nat)) (as:List Arc) (many:Nat):Prop where
 mm:1≤many∧many≤12
 len:as.length≤60
 bd:∀ a∈as,(0≤a.1∧a.1 < (many:Int))∧0≤a.2.2∧a.2.2 < (many:Int)
 nm:∀ a∈as,a.2.1∈nZ
 rc:∀ j:Nat,1≤j→j < many→∃ a∈as,a.2.2=(j:Int)∧∃ b:Nat,b < j∧a.1=(b:Int)
theorem mY {arcs:List Arc} {many:Nat} (hm:1≤many) (h:∀ a∈arcs,(0≤a.1∧a.1 < (many:Int))∧0≤a.2.2∧a.2.2 < (many:Int)):1≤a7 arcs∧a7 arcs≤(many:Int):=by
 refine ⟨qo fun a ha=>?_,?_⟩
 ·have:=h a ha
  lia
 ·unfold a7
  rcases sT (arcs.map pJ) 0 with ⟨_,e⟩ | e
  ·lia
  ·obtain ⟨a,ha,e2⟩:=List.mem_map.mp e
   have:=h a ha
   obtain ⟨h1,h2,h3⟩:=ou a
   lia
theorem Ra.sort {nZ:List (List Nat)} {as:List Arc} {many:Nat} (r:Ra nZ as many):Ra nZ (bG cO as) many:=by
 have mem:∀ {a:Arc},a∈bG cO as↔a∈as:=sV cO
 refine ⟨r.mm,by rw [mU];exact r.len,fun a ha=>r.bd a (mem.mp ha),fun a ha=>r.nm a (mem.mp ha),fun j h1 h2=>?_⟩
 obtain ⟨a,ha,q⟩:=r.rc j h1 h2
 exact ⟨a,mem.mpr ha,q⟩
theorem Ra.ch {nZ:List (List Nat)} {as:List Arc} {many:Nat} (r:Ra nZ as many):Ch nZ as:=by
 have hm:=r.mm
 have hst:=mY hm.1 r.bd
 refine ⟨r.len,fun a ha=>?_,r.nm,by lia,fun N F s h0 h1=>?_⟩
 ·have:=r.bd a ha
  lia
 ·have key:∀ j:Nat,j < many→(j:Int)∈N.map (·.1):=by
   intro j
   induction j using Nat.strongRecOn with
   | _ j ih=>
    intro hj
    cases j with
    | zero=>exact F.zero
    | succ j=>
     obtain ⟨a,ha,e1,b,hbj,e2⟩:=r.rc (j + 1) (by lia) hj
     obtain ⟨n,hn,en⟩:=List.mem_map.mp (ih b hbj (by lia))
     obtain ⟨m,hm,em,_⟩:=F.clo n hn a ha (by rw [e2,en])
     exact List.mem_map.mpr ⟨m,hm,by rw [em,e1]⟩
  obtain ⟨k,rfl⟩:=Int.eq_ofNat_of_zero_le h0
  exact key k (by lia)
theorem oy (as:List Arc) (h:as.length < 64):cV [.lst (as.map eA)]=.ok (.l .f,.lst ((bG cO as).map eA)):=by
 have key:jK (as.map eA)=some ((bG cO as).map eA):=by
  cases as with
  | nil=>rfl
  | cons a as=>
   have e1:g8 ((a :: as).map eA)=some ((a :: as).map ak):=by rw [lH,fZ]
   have e2:sameKinds (ak a) (as.map ak)=true:=by
    unfold sameKinds
    rw [List.all_map,Bool.and_eq_true,List.all_eq_true]
    exact ⟨rfl,fun b _=>rfl⟩
   unfold jK
   rw [e1,List.map_cons,List.map_cons]
   dsimp only [eA,cD,gq]
   rw [if_pos e2,←List.map_cons,j9 ak dk,lH]
   rfl
 unfold cV
 dsimp only
 rw [if_pos (by rw [List.length_map];exact h),key]
theorem DF (nZ:List (List Nat)) (h0:nZ≠[]) (many:Nat) (hm:1≤many∧many≤6) (k:Nat) (hk:k + 1 < many) (as:List Arc) (hl:as.length≤100) (vs:List D) (ys:List Int) (y1 y2:Int) (t4:Option R) :
  ∃ (nm:List Nat) (b:Nat) (vs':List D),nm∈nZ∧b < k + 1∧∀ p,
   c6 [some (.pin p (.l .f),.lst (((ys++[y2])++[y1]).map D.int)),some (.f,.lst (nZ.map D.str)),some (.f,.int (many:Int)),some (.d,.dct true (as.map eA) vs),some (.f,.int (1 + (k:Int)))]=.ok (.nx [some (.pin p (.l .f),.lst (ys.map D.int)),some (.f,.lst (nZ.map D.str)),some (.f,.int (many:Int)),some (.d,.dct true ((sR as ((b:Int),nm,1 + (k:Int))).map eA) vs'),some (.f,.int (1 + (k:Int)))]):=by
 have hbm:=dB y1 (1 + (k:Int)) (by lia)
 obtain ⟨b,eb⟩:=Int.eq_ofNat_of_zero_le hbm.1
 obtain ⟨nm,hnm,em⟩:=lJ nZ h0 y2
 obtain ⟨vs',ep⟩:=sS as vs ((b:Int),nm,1 + (k:Int)) (.bl true)
 have hp:=List.length_pos_iff.mpr h0
 have hz:(decide (as.length < sizeLine))=true:=decide_eq_true (gc (by lia))
 unfold eA at ep
 dsimp only at ep
 have ee:(fun a:Arc=>D.tup [D.int a.1,D.str a.2.1,D.int a.2.2])=eA:=rfl
 rw [ee] at ep
 refine ⟨nm,b,vs',hnm,by lia,fun p=>?_⟩
 unfold c6
 simp only [pv,↓reduceIte,Nat.reduceAdd,Nat.reduceLT,Nat.reduceLeDiff,Nat.reduceEqDiff,op,ql,List.length_map,fg _ (1 + (k:Int)) (by lia),eb,fg _ (nZ.length:Int) (by lia),em,AV,ep,hz,Bool.and_self]
theorem DG (nZ:List (List Nat)) (h0:nZ≠[]) (many:Nat) (hm:1≤many∧many≤6) (as:List Arc) (hl:as.length≤100) (vs:List D) (ys:List Int) (y1 y2 y3:Int) (t4:Option R) :
  ∃ (a:Arc) (vs':List D),((0≤a.1∧a.1 < (many:Int))∧0≤a.2.2∧a.2.2 < (many:Int))∧a.2.1∈nZ∧∀ p,
   c5 [some (.pin p (.l .f),.lst ((((ys++[y3])++[y2])++[y1]).map D.int)),some (.f,.lst (nZ.map D.str)),some (.f,.int (many:Int)),some (.d,.dct true (as.map eA) vs),t4]=.ok (.nx [some (.pin p (.l .f),.lst (ys.map D.int)),some (.f,.lst (nZ.map D.str)),some (.f,.int (many:Int)),some (.d,.dct true ((sR as a).map eA) vs'),t4]):=by
 obtain ⟨nm,hnm,em⟩:=lJ nZ h0 y2
 obtain ⟨vs',ep⟩:=sS as vs (y1 % (many:Int),nm,y3 % (many:Int)) (.bl true)
 have hp:=List.length_pos_iff.mpr h0
 have hz:(decide (as.length < sizeLine))=true:=decide_eq_true (gc (by lia))
 unfold eA at ep
 dsimp only at ep
 have ee:(fun a:Arc=>D.tup [D.int a.1,D.str a.2.1,D.int a.2.2])=eA:=rfl
 rw [ee] at ep
 refine ⟨(y1 % (many:Int),nm,y3 % (many:Int)),vs',⟨dB _ _ (by lia),dB _ _ (by lia)⟩,hnm,fun p=>?_⟩
 unfold c5
 simp only [pv,↓reduceIte,Nat.reduceAdd,Nat.reduceLT,Nat.reduceLeDiff,Nat.reduceEqDiff,op,ql,List.length_map,fg _ (many:Int) (by lia),fg _ (nZ.length:Int) (by lia),em,AV,ep,hz,Bool.and_self]
theorem Ra.add {nZ:List (List Nat)} {as:List Arc} {many:Nat} (r:Ra nZ as many) {a:Arc} (hl:as.length < 60) (hb:(0≤a.1∧a.1 < (many:Int))∧0≤a.2.2∧a.2.2 < (many:Int)) (hn:a.2.1∈nZ):Ra nZ (sR as a) many:=by
 refine ⟨r.mm,by have:=lI as a;lia,fun x hx=>?_,fun x hx=>?_,fun j j1 j2=>?_⟩
 ·rcases eS.mp hx with hx | rfl
  ·exact r.bd x hx
  ·exact hb
 ·rcases eS.mp hx with hx | rfl
  ·exact r.nm x hx
  ·exact hn
 ·obtain ⟨x,hx,q⟩:=r.rc j j1 j2
  exact ⟨x,eS.mpr (.inl hx),q⟩
theorem Cn (nZ:List (List Nat)) (h0:nZ≠[]) (xs:List Int) (hxs:xs.length=40):∃ (as:List Arc) (many:Nat) (ys:List Int),Ra nZ as many∧∀ p,de p [.lst (xs.map D.int),.lst (nZ.map D.str)]=.ok (.t [.l .f,.pin p (.l .f)],.tup [.lst ((bG cO as).map eA),.lst (ys.map D.int)]):=by
 obtain ⟨xs,x0,rfl,h1⟩:=unc (xs:=xs) (by lia)
 have hm:=dB x0 6 (by decide)
 obtain ⟨many,em⟩:=Int.eq_ofNat_of_zero_le (show 0≤1 + x0 % 6 by lia)
 obtain ⟨E',ef,as,vs,ys,t4,hy,hl,hb,hnm,hr,rfl⟩:=lF (a:=aB 4) (g:=c6) (e:=fun k=>D.int (1 + (k:Int))) (many - 1) (fun i E=>∃ (as:List Arc) (vs:List D) (ys:List Int) (t4:Option R),ys.length + 2 * i=39∧as.length≤i∧(∀ a∈as,(0≤a.1∧a.1 < (many:Int))∧0≤a.2.2∧a.2.2 < (many:Int))∧(∀ a∈as,a.2.1∈nZ)∧(∀ j:Nat,1≤j→j < i + 1→∃ a∈as,a.2.2=(j:Int)∧∃ b:Nat,b < j∧a.1=(b:Int))∧E=fun p=>[some (.pin p (.l .f),.lst (ys.map D.int)),some (.f,.lst (nZ.map D.str)),some (.f,.int (many:Int)),some (.d,.dct true (as.map eA) vs),t4]) (by
  rintro k E hk ⟨as,vs,ys,t4,hy,hl,hb,hnm,hr,rfl⟩
  obtain ⟨ys,y1,rfl,q1⟩:=unc (xs:=ys) (by lia)
  obtain ⟨ys,y2,rfl,q2⟩:=unc (xs:=ys) (by lia)
  obtain ⟨nm,b,vs',n1,n2,e⟩:=DF nZ h0 many (by lia) k (by lia) as (by lia) vs ys y1 y2 t4
  refine ⟨_,fun p=>rfl,_,e,sR as ((b:Int),nm,1 + (k:Int)),vs',ys,_,by lia,by have:=lI as ((b:Int),nm,1 + (k:Int));lia,fun a ha=>?_,fun a ha=>?_,fun j j1 j2=>?_,rfl⟩
  ·rcases eS.mp ha with ha | rfl
   ·exact hb a ha
   ·dsimp only
    lia
  ·rcases eS.mp ha with ha | rfl
   ·exact hnm a ha
   ·exact n1
  ·by_cases hj:j=k + 1
   ·subst hj
    exact ⟨_,eS.mpr (.inr rfl),by dsimp only;lia,b,n2,rfl⟩
   ·obtain ⟨a,ha,q⟩:=hr j j1 (by lia)
    exact ⟨a,eS.mpr (.inl ha),q⟩) _ ⟨[],[],xs,none,by lia,Nat.le_refl _,(fun _ h=>nomatch h),(fun _ h=>nomatch h),(fun j j1 j2=>by lia),rfl⟩
 have r:Ra nZ as many:=⟨by lia,by lia,hb,hnm,fun j j1 j2=>hr j j1 (by lia)⟩
 obtain ⟨ys,y1,rfl,q1⟩:=unc (xs:=ys) (by lia)
 have hm4:=dB y1 4 (by decide)
 obtain ⟨E',ef2,as2,vs2,ys2,t42,hy2,hl2,r2,rfl⟩:=lF (a:=aB 4) (g:=c5) (e:=fun k=>D.int (k:Int)) (y1 % 4).toNat (fun i E=>∃ (as:List Arc) (vs:List D) (ys:List Int) (t4:Option R),12≤ys.length + 3 * i∧as.length≤6 + i∧Ra nZ as many∧E=fun p=>[some (.pin p (.l .f),.lst (ys.map D.int)),some (.f,.lst (nZ.map D.str)),some (.f,.int (many:Int)),some (.d,.dct true (as.map eA) vs),t4]) (by
  rintro k E hk ⟨as,vs,ys,t4,hy,hl,r,rfl⟩
  obtain ⟨ys,y1,rfl,q1⟩:=unc (xs:=ys) (by lia)
  obtain ⟨ys,y2,rfl,q2⟩:=unc (xs:=ys) (by lia)
  obtain ⟨ys,y3,rfl,q3⟩:=unc (xs:=ys) (by lia)
  obtain ⟨a,vs',n1,n2,e⟩:=DG nZ h0 many (by lia) as (by lia) vs ys y1 y2 y3 (some (.f,.int (k:Int)))
  exact ⟨_,fun p=>rfl,_,e,sR as a,vs',ys,_,by lia,by have:=lI as a;lia,r.add (by lia) n1 n2,rfl⟩) _ ⟨as,vs,ys,t4,by lia,by lia,r,rfl⟩
 refine ⟨as2,many,ys2,r2,fun p=>?_⟩
 unfold de kJ
 rw [jo (h:=by rfl)]
 rw [ay (env':=[some (.pin p (.l .f),.lst (xs.map D.int)),some (.f,.lst (nZ.map D.str)),some (.f,.int (many:Int)),none,none]) (by simp only [pv,↓reduceIte,Nat.reduceAdd,Nat.reduceLT,Nat.reduceLeDiff,Nat.reduceEqDiff,op,ql,fg _ 6 (by decide),em])]
 rw [ay (env':=[some (.pin p (.l .f),.lst (xs.map D.int)),some (.f,.lst (nZ.map D.str)),some (.f,.int (many:Int)),some (.d,.dct true [] []),none]) (by simp only [pv,↓reduceIte,Nat.reduceAdd,Nat.reduceLT,Nat.reduceLeDiff,Nat.reduceEqDiff,op])]
 have ef:=ef p
 rw [List.map_nil] at ef
 rw [ay (env':=_) (by
  unfold iU
  simp only [pv,↓reduceIte,Nat.reduceAdd,Nat.reduceLT,Nat.reduceLeDiff,Nat.reduceEqDiff,op]
  rw [if_pos (by lia),show ((many:Int) - 1).toNat=many - 1 by lia]
  simp only [pv,↓reduceIte,Nat.reduceAdd,Nat.reduceLT,Nat.reduceLeDiff,Nat.reduceEqDiff,op]
  exact ef)]
 unfold ig
 rw [ay (env':=_) (by
  unfold iT
  simp only [pv,↓reduceIte,Nat.reduceAdd,Nat.reduceLT,Nat.reduceLeDiff,Nat.reduceEqDiff,op,ql,fg _ 4 (by decide)]
  rw [if_pos (by lia)]
  simp only [pv,↓reduceIte,Nat.reduceAdd,Nat.reduceLT,Nat.reduceLeDiff,Nat.reduceEqDiff,op]
  exact ef2 p)]
 unfold ie
 simp only [pv,↓reduceIte,Nat.reduceAdd,Nat.reduceLT,Nat.reduceLeDiff,Nat.reduceEqDiff,op,yj as2 vs2 (by lia),lD]
theorem yu (ys:List Int):flatDs (ys.map D.int)=true:=flat_ints ys
theorem sZ (nZ:List (List Nat)) (h0:nZ≠[]) (lg:Nat) (xs:List Int) (hx:lg≤xs.length):∃ (as:List Arc) (ys:List Int),ys.length + lg=xs.length∧as.length=lg∧(∀ a∈as,∃ k:Nat,k < lg∧a.1=(k:Int)∧a.2.2=(k:Int) + 1∧a.2.1∈nZ)∧(∀ k:Nat,k < lg→∃ a∈as,a.1=(k:Int)∧a.2.2=(k:Int) + 1)∧
  Aj (aB 0) ik (kB (aJ (aM 0) (aJ (aA ixD (av 1) (ao (aA dF (ao (hW 2)) (ao (bx ft (ah (av 1) az)))))) (aJ (aA cS (av 0) (ao (aE (.int 1)))) b5)))) ((List.range lg).map fun (k:Nat)=>D.int (k:Int)) (fun q=>[none,some (.f,.lst (nZ.map D.str)),some (.pin q (.l .f),.lst (xs.map D.int))]) 2 (as.map eA,ys.map D.int):=by
 obtain ⟨rs,E2,h1,as,ys,t0,hy,hl,hb,hr,ers,rfl⟩:=j8 (a:=aB 0) (f:=kB (aJ (aM 0) (aJ (aA ixD (av 1) (ao (aA dF (ao (hW 2)) (ao (bx ft (ah (av 1) az)))))) (aJ (aA cS (av 0) (ao (aE (.int 1)))) b5)))) (e:=fun (k:Nat)=>D.int (k:Int)) (fun i E acc=>∃ (as:List Arc) (ys:List Int) (t0:Option R),ys.length + i=xs.length∧as.length=i∧(∀ a∈as,∃ k:Nat,k < i∧a.1=(k:Int)∧a.2.2=(k:Int) + 1∧a.2.1∈nZ)∧(∀ k:Nat,k < i→∃ a∈as,a.1=(k:Int)∧a.2.2=(k:Int) + 1)∧acc=as.map eA∧E=fun q=>[t0,some (.f,.lst (nZ.map D.str)),some (.pin q (.l .f),.lst (ys.map D.int))]) (List.range lg) 0 (fun q=>[none,some (.f,.lst (nZ.map D.str)),some (.pin q (.l .f),.lst (xs.map D.int))]) [] ⟨[],xs,none,by lia,rfl,(fun _ h=>nomatch h),(fun k hk=>by lia),rfl,rfl⟩ (by
  rintro k x E acc hk ⟨as,ys,t0,hy,hl,hb,hr,rfl,rfl⟩
  obtain ⟨hk1,hk2⟩:=List.getElem?_eq_some_iff.mp hk
  rw [List.length_range] at hk1
  rw [List.getElem_range] at hk2
  subst hk2
  obtain ⟨ys,y1,rfl,q1⟩:=unc (xs:=ys) (by lia)
  obtain ⟨nm,hnm,em⟩:=lJ nZ h0 y1
  have hp:=List.length_pos_iff.mpr h0
  refine ⟨fun q=>[some (.f,.int (k:Int)),some (.f,.lst (nZ.map D.str)),some (.pin q (.l .f),.lst ((ys++[y1]).map D.int))],fun p=>rfl,.f,eA ((k:Int),nm,(k:Int) + 1),fun q=>[some (.f,.int (k:Int)),some (.f,.lst (nZ.map D.str)),some (.pin q (.l .f),.lst (ys.map D.int))],fun p=>?_,as++[((k:Int),nm,(k:Int) + 1)],ys,some (.f,.int (k:Int)),by lia,by rw [List.length_append,hl];rfl,fun a ha=>?_,fun j hj=>?_,by rw [List.map_append];rfl,rfl⟩
  ·simp only [pv,↓reduceIte,Nat.reduceAdd,Nat.reduceLT,Nat.reduceLeDiff,Nat.reduceEqDiff,op,Ck,List.length_map,fg _ (nZ.length:Int) (by lia),em]
   rfl
  ·rcases List.mem_append.mp ha with ha | ha
   ·obtain ⟨j,h1,h2⟩:=hb a ha
    exact ⟨j,by lia,h2⟩
   ·rw [List.mem_singleton.mp ha]
    exact ⟨k,by lia,rfl,rfl,hnm⟩
  ·by_cases e:j=k
   ·subst e
    exact ⟨_,List.mem_append_right _ (List.mem_singleton.mpr rfl),rfl,rfl⟩
   ·obtain ⟨a,ha,q⟩:=hr j (by lia)
    exact ⟨a,List.mem_append_left _ ha,q⟩)
 rw [List.length_range,Nat.zero_add] at *
 rw [List.nil_append] at ers
 exact ⟨as,ys,hy,hl,hb,hr,fun q=>⟨_,by rw [h1 q,ers],rfl⟩⟩
theorem A7 (nZ:List (List Nat)) (h0:nZ≠[]) (xs:List Int) (hxs:xs.length=40):∃ (as:List Arc) (many:Nat) (ys:List Int),Ra nZ as many∧∀ p,cj p [.lst (xs.map D.int),.lst (nZ.map D.str)]=.ok (.t [.l .f,.pin p (.l .f)],.tup [.lst ((bG cO as).map eA),.lst (ys.map D.int)]):=by
 obtain ⟨xs,x0,rfl,h1⟩:=unc (xs:=xs) (by lia)
 have hm:=dB x0 7 (by decide)
 obtain ⟨lg,em⟩:=Int.eq_ofNat_of_zero_le (show 0≤1 + x0 % 7 by lia)
 obtain ⟨as,ys,hy,hl,hb,hr,hc⟩:=sZ nZ h0 lg xs (by lia)
 have hc:=uO hc
 obtain ⟨ys,y0,rfl,q0⟩:=unc (xs:=ys) (by lia)
 obtain ⟨zs,y1,rfl,q1⟩:=unc (xs:=ys) (by lia)
 obtain ⟨zs,y2,rfl,q2⟩:=unc (xs:=zs) (by lia)
 have hp:=List.length_pos_iff.mpr h0
 obtain ⟨nm,hnm,em1⟩:=lJ nZ h0 y1
 have hz:(as.map eA).length < sizeLine:=gc (by rw [List.length_map];lia)
 have hz':(as.map eA).length≤sizeLine:=Nat.le_of_lt hz
 have m3:=dB y2 (lg:Int) (by lia)
 have hfl:=iE as
 have hfi:=yu (((zs++[y2])++[y1])++[y0])
 have ra:Ra nZ as (lg + 1):=by
  refine ⟨by lia,by lia,fun a ha=>?_,fun a ha=>?_,fun j j1 j2=>?_⟩
  ·obtain ⟨k,h1,h2,h3,_⟩:=hb a ha
   lia
  ·obtain ⟨k,h1,h2,h3,h4⟩:=hb a ha
   exact h4
  ·obtain ⟨a,ha,h1,h2⟩:=hr (j - 1) (by lia)
   exact ⟨a,ha,by lia,j - 1,by lia,h1⟩
 cases he:(y0 % 3 == 0) with
 | false=>
  refine ⟨as,lg + 1,(zs++[y2])++[y1],ra,fun p=>?_⟩
  unfold cj gH
  rw [jo (h:=by rfl)]
  rw [ay (env':=[some (.pin p (.l .f),.lst (xs.map D.int)),some (.f,.lst (nZ.map D.str)),some (.f,.int (lg:Int)),none]) (by simp only [pv,↓reduceIte,Nat.reduceAdd,Nat.reduceLT,Nat.reduceLeDiff,Nat.reduceEqDiff,op,ql,fg _ 7 (by decide),em])]
  rw [ay (env':=[some (.pin p (.l .f),.lst ((((zs++[y2])++[y1])++[y0]).map D.int)),some (.f,.lst (nZ.map D.str)),some (.f,.int (lg:Int)),some (.l .f,.lst (as.map eA))]) (by
   generalize (kB (aJ (aM 0) (aJ (aA ixD (av 1) (ao (aA dF (ao (hW 2)) (ao (bx ft (ah (av 1) az)))))) (aJ (aA cS (av 0) (ao (aE (.int 1)))) b5))))=FF at hc ⊢
   simp only [x_sSet,pG,pv,↓reduceIte,Nat.reduceAdd,Nat.reduceLT,Nat.reduceLeDiff,Nat.reduceEqDiff,op]
   rw [if_pos (by lia)]
   simp only [pv,↓reduceIte,Nat.reduceAdd,Nat.reduceLT,Nat.reduceLeDiff,Nat.reduceEqDiff,op,Int.toNat_natCast,oh,hc,hz',hfl,hfi,and_self])]
  rw [ay (env':=[some (.pin p (.l .f),.lst (((zs++[y2])++[y1]).map D.int)),some (.f,.lst (nZ.map D.str)),some (.f,.int (lg:Int)),some (.l .f,.lst (as.map eA))]) (by
   simp only [pv,↓reduceIte,Nat.reduceAdd,Nat.reduceLT,Nat.reduceLeDiff,Nat.reduceEqDiff,op,ql,fg _ 3 (by decide),he,Bool.false_eq_true])]
  simp only [pv,↓reduceIte,Nat.reduceAdd,Nat.reduceLT,Nat.reduceLeDiff,Nat.reduceEqDiff,op,oy as (by lia),lD]
 | true=>
  refine ⟨as++[((lg:Int),nm,y2 % (lg:Int))],lg + 1,zs,?_,fun p=>?_⟩
  ·refine ⟨ra.mm,by rw [List.length_append,List.length_singleton];lia,fun a ha=>?_,fun a ha=>?_,fun j j1 j2=>?_⟩
   ·rcases List.mem_append.mp ha with ha | ha
    ·exact ra.bd a ha
    ·rw [List.mem_singleton.mp ha]
     dsimp only
     lia
   ·rcases List.mem_append.mp ha with ha | ha
    ·exact ra.nm a ha
    ·rw [List.mem_singleton.mp ha]
     exact hnm
   ·obtain ⟨a,ha,q⟩:=ra.rc j j1 j2
    exact ⟨a,List.mem_append_left _ ha,q⟩
  unfold cj gH
  rw [jo (h:=by rfl)]
  rw [ay (env':=[some (.pin p (.l .f),.lst (xs.map D.int)),some (.f,.lst (nZ.map D.str)),some (.f,.int (lg:Int)),none]) (by simp only [pv,↓reduceIte,Nat.reduceAdd,Nat.reduceLT,Nat.reduceLeDiff,Nat.reduceEqDiff,op,ql,fg _ 7 (by decide),em])]
  rw [ay (env':=[some (.pin p (.l .f),.lst ((((zs++[y2])++[y1])++[y0]).map D.int)),some (.f,.lst (nZ.map D.str)),some (.f,.int (lg:Int)),some (.l .f,.lst (as.map eA))]) (by
   generalize (kB (aJ (aM 0) (aJ (aA ixD (av 1) (ao (aA dF (ao (hW 2)) (ao (bx ft (ah (av 1) az)))))) (aJ (aA cS (av 0) (ao (aE (.int 1)))) b5))))=FF at hc ⊢
   simp only [x_sSet,pG,pv,↓reduceIte,Nat.reduceAdd,Nat.reduceLT,Nat.reduceLeDiff,Nat.reduceEqDiff,op]
   rw [if_pos (by lia)]
   simp only [pv,↓reduceIte,Nat.reduceAdd,Nat.reduceLT,Nat.reduceLeDiff,Nat.reduceEqDiff,op,Int.toNat_natCast,oh,hc,hz',hfl,hfi,and_self])]
  rw [ay (env':=[some (.pin p (.l .f),.lst (zs.map D.int)),some (.f,.lst (nZ.map D.str)),some (.f,.int (lg:Int)),some (.l .f,.lst ((as++[((lg:Int),nm,y2 % (lg:Int))]).map eA))]) (by
   rw [show (as++[((lg:Int),nm,y2 % (lg:Int))]).map eA=as.map eA++[.tup [.int (lg:Int),.str nm,.int (y2 % (lg:Int))]] by rw [List.map_append];rfl]
   simp only [pv,↓reduceIte,Nat.reduceAdd,Nat.reduceLT,Nat.reduceLeDiff,Nat.reduceEqDiff,op,ql,fg _ 3 (by decide),he,List.length_map,fg _ (nZ.length:Int) (by lia),fg _ (lg:Int) (by lia),em1,(gc (by lia):as.length < sizeLine)])]
  simp only [pv,↓reduceIte,Nat.reduceAdd,Nat.reduceLT,Nat.reduceLeDiff,Nat.reduceEqDiff,op,oy (as++[((lg:Int),nm,y2 % (lg:Int))]) (by rw [List.length_append,List.length_singleton];lia),lD]
abbrev Gd:=Int×Int×Int
abbrev Sd:=Gd×Gd
abbrev Sp:=Int×Int
noncomputable def eG (g:Gd):D:=.tup [.int g.1,.int g.2.1,.int g.2.2]
noncomputable def eSd (s:Sd):D:=.lst [eG s.1,eG s.2]
noncomputable def eSp (s:Sp):D:=.tup [.int s.1,.int s.2]
def Gok (t:Int) (g:Gd):Prop:=(-3≤g.2.2∧g.2.2≤3)∧∀ n,g.1≤n→n≤g.2.1→0≤n + g.2.2∧n + g.2.2≤t
theorem pM (sd:List D) (hsd:sd.length≤100) (t:Int) (ht:0≤t∧t≤3) (ys:List Int) (y1 y2 y3:Int):∃ (g:Gd) (u8 u9 u10:Option R),Gok t g∧∀ (p:Addr) (A1 A2 A3 A4 A5 t8 t9 t10:Option R),
  cX [some (.pin p (.l .f),.lst ((((ys++[y3])++[y2])++[y1]).map D.int)),A1,A2,A3,A4,A5,some (.l .f,.lst sd),some (.f,.int t),t8,t9,t10]=.ok (.nx [some (.pin p (.l .f),.lst (ys.map D.int)),A1,A2,A3,A4,A5,some (.l .f,.lst (sd++[eG g])),some (.f,.int t),u8,u9,u10]):=by
 have hz:sd.length < sizeLine:=gc (by lia)
 have b1:=dB y1 (2 * t + 1) (by lia)
 have b2:=dB y2 2 (by decide)
 have b3:=dB y3 4 (by decide)
 refine ⟨((if 0 < 0 - (y1 % (2 * t + 1) - t) then 0 - (y1 % (2 * t + 1) - t) else 0) + y2 % 2,(if t - (y1 % (2 * t + 1) - t) < t then t - (y1 % (2 * t + 1) - t) else t) - y3 % 4 / 3,y1 % (2 * t + 1) - t),some (.f,.int (y1 % (2 * t + 1) - t)),some (.f,.int ((if 0 < 0 - (y1 % (2 * t + 1) - t) then 0 - (y1 % (2 * t + 1) - t) else 0) + y2 % 2)),some (.f,.int ((if t - (y1 % (2 * t + 1) - t) < t then t - (y1 % (2 * t + 1) - t) else t) - y3 % 4 / 3)),?_,fun p A1 A2 A3 A4 A5 t8 t9 t10=>?_⟩
 ·generalize y1 % (2 * t + 1)=c at b1
  refine ⟨by dsimp only;lia,?_⟩
  intro n h1 h2
  dsimp only at h1 h2 ⊢
  split at h1 <;> split at h2 <;> lia
 ·unfold cX eG
  rw [ay (env':=[some (.pin p (.l .f),.lst (((ys++[y3])++[y2]).map D.int)),A1,A2,A3,A4,A5,some (.l .f,.lst sd),some (.f,.int t),some (.f,.int (y1 % (2 * t + 1) - t)),t9,t10]) (by simp only [pv,↓reduceIte,Nat.reduceAdd,Nat.reduceLT,Nat.reduceLeDiff,Nat.reduceEqDiff,op,ql,yD 2 t (by decide),fg _ (2 * t + 1) (by lia)])]
  generalize y1 % (2 * t + 1) - t=c
  rw [ay (env':=[some (.pin p (.l .f),.lst ((ys++[y3]).map D.int)),A1,A2,A3,A4,A5,some (.l .f,.lst sd),some (.f,.int t),some (.f,.int c),some (.f,.int ((if 0 < 0 - c then 0 - c else 0) + y2 % 2)),t10]) (by simp only [pv,↓reduceIte,Nat.reduceAdd,Nat.reduceLT,Nat.reduceLeDiff,Nat.reduceEqDiff,op,ql,fg _ 2 (by decide)])]
  rw [ay (env':=[some (.pin p (.l .f),.lst (ys.map D.int)),A1,A2,A3,A4,A5,some (.l .f,.lst sd),some (.f,.int t),some (.f,.int c),some (.f,.int ((if 0 < 0 - c then 0 - c else 0) + y2 % 2)),some (.f,.int ((if t - c < t then t - c else t) - y3 % 4 / 3))]) (by simp only [pv,↓reduceIte,Nat.reduceAdd,Nat.reduceLT,Nat.reduceLeDiff,Nat.reduceEqDiff,op,ql,fg _ 4 (by decide),u0 _ 3 (by decide) (by decide)])]
  simp only [pv,↓reduceIte,Nat.reduceAdd,Nat.reduceLT,Nat.reduceLeDiff,Nat.reduceEqDiff,op,hz]
theorem qq (cnt:Nat) (t0 t1:Int) (h0:0≤t0∧t0≤3) (h1:0≤t1∧t1≤3) (s:Sp) (gs:List Sd) (hg:gs.length≤100) (o2:O) (ho:fz o2=.f) (ys:List Int) (hy:6≤ys.length) (k:Int) (t6 t7 t8 t9 t10:Option R) :
  ∃ (g:Sd) (zs:List Int) (u7 u8 u9 u10:Option R),Gok t0 g.1∧Gok t1 g.2∧zs.length + 6=ys.length∧∀ p:Addr,cb [some (.pin p (.l .f),.lst (ys.map D.int)),some (.f,.int (cnt:Int)),some (o2,.lst [.int t0,.int t1]),some (.f,eSp s),some (.l .f,.lst (gs.map eSd)),some (.f,.int k),t6,t7,t8,t9,t10]=.ok (.nx [some (.pin p (.l .f),.lst (zs.map D.int)),some (.f,.int (cnt:Int)),some (.f,.lst [.int t0,.int t1]),some (.f,eSp s),some (.l .f,.lst ((gs++[g]).map eSd)),some (.f,.int k),some (.f,eSd g),u7,u8,u9,u10]):=by
 obtain ⟨ys,y1,rfl,q1⟩:=unc (xs:=ys) (by lia)
 obtain ⟨ys,y2,rfl,q2⟩:=unc (xs:=ys) (by lia)
 obtain ⟨ys,y3,rfl,q3⟩:=unc (xs:=ys) (by lia)
 obtain ⟨ys,y4,rfl,q4⟩:=unc (xs:=ys) (by lia)
 obtain ⟨ys,y5,rfl,q5⟩:=unc (xs:=ys) (by lia)
 obtain ⟨ys,y6,rfl,q6⟩:=unc (xs:=ys) (by lia)
 obtain ⟨g1,u8,u9,u10,k1,e1⟩:=pM [] (by decide) t0 h0 (((ys++[y6])++[y5])++[y4]) y1 y2 y3
 obtain ⟨g2,v8,v9,v10,k2,e2⟩:=pM [eG g1] (by simp) t1 h1 ys y4 y5 y6
 rw [List.nil_append] at e1
 rw [List.cons_append,List.nil_append] at e2
 have hz:(gs.map eSd).length < sizeLine:=gc (by rw [List.length_map];lia)
 refine ⟨(g1,g2),ys,some (.f,.int t1),v8,v9,v10,k1,k2,by lia,fun p=>?_⟩
 unfold cb
 rw [ay (env':=[some (.pin p (.l .f),.lst (((((((ys++[y6])++[y5])++[y4])++[y3])++[y2])++[y1]).map D.int)),some (.f,.int (cnt:Int)),some (o2,.lst [.int t0,.int t1]),some (.f,eSp s),some (.l .f,.lst (gs.map eSd)),some (.f,.int k),some (.l .f,.lst []),t7,t8,t9,t10]) (by simp only [pv,↓reduceIte,Nat.reduceAdd,Nat.reduceLT,Nat.reduceLeDiff,Nat.reduceEqDiff,op])]
 rw [ay (env':=[some (.pin p (.l .f),.lst (ys.map D.int)),some (.f,.int (cnt:Int)),some (.f,.lst [.int t0,.int t1]),some (.f,eSp s),some (.l .f,.lst (gs.map eSd)),some (.f,.int k),some (.l .f,.lst [eG g1,eG g2]),some (.f,.int t1),v8,v9,v10]) (by
  unfold fF
  simp only [pv,↓reduceIte,Nat.reduceAdd,Nat.reduceLT,Nat.reduceLeDiff,Nat.reduceEqDiff,op,ho,e1,e2])]
 unfold e7
 rw [List.map_append,List.map_cons,List.map_nil,show eSd (g1,g2)=.lst [eG g1,eG g2] from rfl]
 simp only [pv,↓reduceIte,Nat.reduceAdd,Nat.reduceLT,Nat.reduceLeDiff,Nat.reduceEqDiff,op,hz]
theorem pN (cnt:Nat) (hc:cnt≤5) (xs:List Int) (hxs:xs.length=40):∃ (t0 t1:Int) (s:Sp) (gs:List Sd) (ys:List Int),(0≤t0∧t0≤3)∧(0≤t1∧t1≤1)∧(0≤s.1∧s.1≤t0)∧(0≤s.2∧s.2≤t1)∧gs.length=cnt∧(∀ g∈gs,Gok t0 g.1∧Gok t1 g.2)∧
  ∀ p:Addr,bp p [.lst (xs.map D.int),.int (cnt:Int)]=.ok (.t [.f,.pin p (.l .f)],.tup [.tup [.lst [.int t0,.int t1],eSp s,.lst (gs.map eSd)],.lst (ys.map D.int)]):=by
 obtain ⟨ys,y1,rfl,q1⟩:=unc (xs:=xs) (by lia)
 obtain ⟨ys,y2,rfl,q2⟩:=unc (xs:=ys) (by lia)
 obtain ⟨ys,y3,rfl,q3⟩:=unc (xs:=ys) (by lia)
 obtain ⟨ys,y4,rfl,q4⟩:=unc (xs:=ys) (by lia)
 have b1:=dB y1 3 (by decide)
 have b2:=dB y2 2 (by decide)
 have b3:=dB y3 (1 + y1 % 3 + 1) (by lia)
 have b4:=dB y4 (y2 % 2 + 1) (by lia)
 obtain ⟨E',ef,gs,zs,o2,t5,t6,t7,t8,t9,t10,ho,hy,hl,hg,rfl⟩:=lF (a:=aB 5) (g:=cb) (e:=fun k=>D.int (k:Int)) cnt (fun i E=>∃ (gs:List Sd) (zs:List Int) (o2:O) (t5 t6 t7 t8 t9 t10:Option R),fz o2=.f∧zs.length + 6 * i=36∧gs.length=i∧(∀ g∈gs,Gok (1 + y1 % 3) g.1∧Gok (y2 % 2) g.2)∧E=fun p=>[some (.pin p (.l .f),.lst (zs.map D.int)),some (.f,.int (cnt:Int)),some (o2,.lst [.int (1 + y1 % 3),.int (y2 % 2)]),some (.f,eSp (y3 % (1 + y1 % 3 + 1),y4 % (y2 % 2 + 1))),some (.l .f,.lst (gs.map eSd)),t5,t6,t7,t8,t9,t10]) (by
  rintro k E hk ⟨gs,zs,o2,t5,t6,t7,t8,t9,t10,ho,hy,hl,hg,rfl⟩
  obtain ⟨g,zs',u7,u8,u9,u10,k1,k2,hy',e⟩:=qq cnt (1 + y1 % 3) (y2 % 2) (by lia) (by lia) (y3 % (1 + y1 % 3 + 1),y4 % (y2 % 2 + 1)) gs (by lia) o2 ho zs (by lia) (k:Int) t6 t7 t8 t9 t10
  refine ⟨_,fun p=>rfl,_,e,gs++[g],zs',.f,_,_,_,_,_,_,rfl,by lia,by rw [List.length_append,hl];rfl,fun x hx=>?_,rfl⟩
  rcases List.mem_append.mp hx with hx | hx
  ·exact hg x hx
  ·rw [List.mem_singleton.mp hx]
   exact ⟨k1,k2⟩) _ ⟨[],ys,.l .f,none,none,none,none,none,none,rfl,by lia,rfl,(fun _ h=>nomatch h),rfl⟩
 refine ⟨1 + y1 % 3,y2 % 2,(y3 % (1 + y1 % 3 + 1),y4 % (y2 % 2 + 1)),gs,zs,by lia,by lia,by dsimp only;lia,by dsimp only;lia,hl,hg,fun p=>?_⟩
 unfold bp h9
 rw [jo (h:=by rfl)]
 rw [ay (env':=[some (.pin p (.l .f),.lst (((ys++[y4])++[y3]).map D.int)),some (.f,.int (cnt:Int)),some (.l .f,.lst [.int (1 + y1 % 3),.int (y2 % 2)]),none,none,none,none,none,none,none,none]) (by simp only [pv,↓reduceIte,Nat.reduceAdd,Nat.reduceLT,Nat.reduceLeDiff,Nat.reduceEqDiff,op,ql,fg _ 3 (by decide),fg _ 2 (by decide)])]
 rw [ay (env':=[some (.pin p (.l .f),.lst (ys.map D.int)),some (.f,.int (cnt:Int)),some (.l .f,.lst [.int (1 + y1 % 3),.int (y2 % 2)]),some (.f,eSp (y3 % (1 + y1 % 3 + 1),y4 % (y2 % 2 + 1))),none,none,none,none,none,none,none]) (by
  unfold eSp
  simp only [pv,↓reduceIte,Nat.reduceAdd,Nat.reduceLT,Nat.reduceLeDiff,Nat.reduceEqDiff,op,ql,fg _ (1 + y1 % 3 + 1) (by lia),fg _ (y2 % 2 + 1) (by lia)])]
 rw [ay (env':=[some (.pin p (.l .f),.lst (ys.map D.int)),some (.f,.int (cnt:Int)),some (.l .f,.lst [.int (1 + y1 % 3),.int (y2 % 2)]),some (.f,eSp (y3 % (1 + y1 % 3 + 1),y4 % (y2 % 2 + 1))),some (.l .f,.lst []),none,none,none,none,none,none]) (by simp only [pv,↓reduceIte,Nat.reduceAdd,Nat.reduceLT,Nat.reduceLeDiff,Nat.reduceEqDiff,op])]
 have ef:=ef p
 rw [List.map_nil] at ef
 rw [ay (env':=_) (by
  unfold fG
  simp only [pv,↓reduceIte,Nat.reduceAdd,Nat.reduceLT,Nat.reduceLeDiff,Nat.reduceEqDiff,op]
  rw [if_pos (by lia)]
  simp only [pv,↓reduceIte,Nat.reduceAdd,Nat.reduceLT,Nat.reduceLeDiff,Nat.reduceEqDiff,op,Int.toNat_natCast]
  exact ef)]
 unfold e8
 simp only [pv,↓reduceIte,Nat.reduceAdd,Nat.reduceLT,Nat.reduceLeDiff,Nat.reduceEqDiff,op,lD]
theorem tf (A0 A1:Option R) (l:List D) (hl:l.length≤100) (n:Int) (g:Gd):dO [A0,A1,some (.l .f,.lst l),some (.f,.int n),some (.f,eG g)]=if n < g.1∨g.2.1 < n then .ok (.rt (.f,.non)) else .ok (.nx [A0,A1,some (.l .f,.lst (l++[.int (n + g.2.2)])),some (.f,.int n),some (.f,eG g)]):=by
 have hz:l.length < sizeLine:=gc (by lia)
 unfold dO eG
 by_cases h1:n < g.1
 ·rw [if_pos (.inl h1)]
  simp only [pv,↓reduceIte,Nat.reduceAdd,Nat.reduceLT,Nat.reduceLeDiff,Nat.reduceEqDiff,op,h1,decide_true]
 ·by_cases h2:g.2.1 < n
  ·rw [if_pos (.inr h2)]
   simp only [pv,↓reduceIte,Nat.reduceAdd,Nat.reduceLT,Nat.reduceLeDiff,Nat.reduceEqDiff,op,h1,h2,decide_true,decide_false,gt_iff_lt,Bool.false_eq_true]
  ·rw [if_neg (fun h=>h.elim h1 h2)]
   simp only [pv,↓reduceIte,Nat.reduceAdd,Nat.reduceLT,Nat.reduceLeDiff,Nat.reduceEqDiff,op,h1,h2,decide_false,gt_iff_lt,Bool.false_eq_true,at2,hz]
theorem A8 (s:Sp) (d:Sd):((d.1.1≤s.1∧s.1≤d.1.2.1)∧(d.2.1≤s.2∧s.2≤d.2.2.1)∧cf [eSp s,eSd d]=.ok (.f,eSp (s.1 + d.1.2.2,s.2 + d.2.2.2)))∨cf [eSp s,eSd d]=.ok (.f,.non):=by
 have e1:=tf (some (.f,eSp s)) (some (.f,eSd d)) [] (by decide) s.1 d.1
 have e2:=tf (some (.f,eSp s)) (some (.f,eSd d)) [.int (s.1 + d.1.2.2)] (by simp) s.2 d.2
 rw [List.nil_append] at e1
 unfold cf jW ia gy
 rw [bM (h:=by rfl)]
 rw [ay (env':=[some (.f,eSp s),some (.f,eSd d),some (.l .f,.lst []),none,none]) (by simp only [pv,↓reduceIte,Nat.reduceAdd,Nat.reduceLT,Nat.reduceLeDiff,Nat.reduceEqDiff,op])]
 unfold eSp eSd at *
 by_cases h1:s.1 < d.1.1∨d.1.2.1 < s.1
 ·rw [if_pos h1] at e1
  right
  simp only [pv,↓reduceIte,Nat.reduceAdd,Nat.reduceLT,Nat.reduceLeDiff,Nat.reduceEqDiff,op,List.zip_cons_cons,List.zip_nil_right,e1]
 ·rw [if_neg h1] at e1
  by_cases h2:s.2 < d.2.1∨d.2.2.1 < s.2
  ·rw [if_pos h2] at e2
   right
   simp only [pv,↓reduceIte,Nat.reduceAdd,Nat.reduceLT,Nat.reduceLeDiff,Nat.reduceEqDiff,op,List.zip_cons_cons,List.zip_nil_right,e1,e2]
  ·rw [if_neg h2] at e2
   left
   refine ⟨by lia,by lia,?_⟩
   simp only [pv,↓reduceIte,Nat.reduceAdd,Nat.reduceLT,Nat.reduceLeDiff,Nat.reduceEqDiff,op,List.zip_cons_cons,List.zip_nil_right,e1,e2]
theorem ixL {α:Type} [DecidableEq α] {e:α→D} (he:∀ a b,eqD (e a) (e b)=decide (a=b)) (hp:∀ l:List α,plainDs 40 (l.map e)=true) (hq:∀ a,plainD 40 (e a)=true) (l:List α) (a:α) (h:a∈l):∃ i:Nat,l[i]?=some a∧nR (l.map e) [e a]=.ok (.f,.int (i:Int)):=by
 have e1:(l.map e).any (fun d=>eqD d (e a))=true:=by
  rw [List.any_map,List.any_eq_true]
  exact ⟨a,h,by show eqD (e a) (e a)=true;rw [he,decide_eq_true rfl]⟩
 have e2:(l.map e).findIdx (fun d=>eqD d (e a))=l.findIdx fun x=>decide (x=a):=by
  rw [List.findIdx_map]
  congr 1
  funext x
  exact he x a
 have h3:(l.findIdx fun x=>decide (x=a)) < l.length:=List.findIdx_lt_length_of_exists ⟨a,h,decide_eq_true rfl⟩
 have h4:=List.findIdx_getElem (p:=fun x=>decide (x=a)) (xs:=l) (w:=h3)
 refine ⟨l.findIdx fun x=>decide (x=a),by rw [List.getElem?_eq_getElem h3];congr 1;simpa using h4,?_⟩
 unfold nR
 dsimp only
 rw [hq,hp,e1,e2]
 rfl
theorem kc {α:Type} [DecidableEq α] (a:α):∀ l:List α,a∉l→((l++[a]).findIdx fun x=>decide (x=a))=l.length
 | [],_=>by simp
 | x :: l,h=>by
  rw [List.mem_cons,not_or] at h
  rw [List.cons_append,List.findIdx_cons,kc a l h.2,decide_eq_false (fun e=>h.1 e.symm)]
  rfl
theorem Co {α:Type} [DecidableEq α] {e:α→D} (he:∀ a b,eqD (e a) (e b)=decide (a=b)) (hp:∀ l:List α,plainDs 40 (l.map e)=true) (hq:∀ a,plainD 40 (e a)=true) (l:List α) (a:α) (h:a∉l):nR (l.map e++[e a]) [e a]=.ok (.f,.int (l.length:Int)):=by
 have e0:l.map e++[e a]=(l++[a]).map e:=by rw [List.map_append];rfl
 have e1:((l++[a]).map e).any (fun d=>eqD d (e a))=true:=by
  rw [List.any_map,List.any_eq_true]
  exact ⟨a,List.mem_append_right _ (List.mem_singleton.mpr rfl),by show eqD (e a) (e a)=true;rw [he,decide_eq_true rfl]⟩
 have e2:((l++[a]).map e).findIdx (fun d=>eqD d (e a))=l.length:=by
  rw [List.findIdx_map]
  rw [←kc a l h]
  congr 1
  funext x
  exact he x a
 unfold nR
 dsimp only
 rw [e0,hq,hp,e1,e2]
 rfl
theorem DH {α:Type} [DecidableEq α] {e:α→D} (he:∀ a b,eqD (e a) (e b)=decide (a=b)) (hp:∀ l:List α,plainDs 40 (l.map e)=true) (hq:∀ a,plainD 40 (e a)=true) (l:List α) (a:α):r6 (e a) (.lst (l.map e))=.ok (.f,.bl (!decide (a∈l))):=by
 have e1:qy (e a) (l.map e)=decide (a∈l):=by
  unfold qy
  rw [List.any_map,Bool.eq_iff_iff,List.any_eq_true,decide_eq_true_eq]
  constructor
  ·rintro ⟨x,hx,e1⟩
   have e1:eqD (e x) (e a)=true:=e1
   rw [he,decide_eq_true_eq] at e1
   rw [←e1]
   exact hx
  ·intro h
   refine ⟨a,h,?_⟩
   show eqD (e a) (e a)=true
   rw [he,decide_eq_true_eq]
 unfold r6 inO
 dsimp only
 rw [hq,hp,Bool.and_self,if_pos rfl,e1]
 rfl
theorem tj (a b:Sp):eqD (eSp a) (eSp b)=decide (a=b):=by
 obtain ⟨x,y⟩:=a
 obtain ⟨x',y'⟩:=b
 unfold eSp
 simp only [eqD,km]
 rw [Bool.eq_iff_iff]
 simp
theorem lK (a:Sp):plainD 40 (eSp a)=true:=rfl
theorem ke (l:List Sp):plainDs 40 (l.map eSp)=true:=by
 induction l with
 | nil=>rfl
 | cons a l ih=>
  rw [List.map_cons,plainDs,ih]
  rfl
structure Rs (nZ:List (List Nat)) (t0 t1:Int) (S:List Sp) (A:List Arc) (m:Nat):Prop where
 nd:S.Nodup
 ne:1≤S.length
 bd:∀ s∈S,(0≤s.1∧s.1≤t0)∧0≤s.2∧s.2≤t1
 ab:∀ a∈A,(0≤a.1∧a.1 < (m:Int))∧0≤a.2.2∧a.2.2 < (S.length:Int)
 nm:∀ a∈A,a.2.1∈nZ
 rc:∀ j:Nat,1≤j→j < S.length→∃ a∈A,a.2.2=(j:Int)∧∃ b:Nat,b < j∧a.1=(b:Int)
theorem Rs.le8 {nZ:List (List Nat)} {t0 t1:Int} {S:List Sp} {A:List Arc} {m:Nat} (r:Rs nZ t0 t1 S A m) (h0:t0≤3) (h1:t1≤1):S.length≤8:=by
 have nd:(S.map fun s=>2 * s.1 + s.2).Nodup:=by
  rw [List.nodup_iff_pairwise_ne,List.pairwise_map]
  refine (List.nodup_iff_pairwise_ne.mp r.nd).imp_of_mem fun {a b} ha hb hne e=>hne ?_
  have q1:=r.bd a ha
  have q2:=r.bd b hb
  exact Prod.ext (by lia) (by lia)
 have:=f7 8 nd fun x hx=>by
  obtain ⟨s,hs,rfl⟩:=List.mem_map.mp hx
  have:=r.bd s hs
  lia
 rwa [List.length_map] at this
theorem Rs.more {nZ:List (List Nat)} {t0 t1:Int} {S:List Sp} {A:List Arc} {m m':Nat} (r:Rs nZ t0 t1 S A m) (h:m≤m'):Rs nZ t0 t1 S A m':=⟨r.nd,r.ne,r.bd,fun a ha=>by have:=r.ab a ha;lia,r.nm,r.rc⟩
theorem Rs.old {nZ:List (List Nat)} {t0 t1:Int} {S:List Sp} {A:List Arc} {d i:Nat} (r:Rs nZ t0 t1 S A (d + 1)) {nm:List Nat} (hn:nm∈nZ) (hi:i < S.length):Rs nZ t0 t1 S (A++[((d:Int),nm,(i:Int))]) (d + 1):=by
 refine ⟨r.nd,r.ne,r.bd,fun a ha=>?_,fun a ha=>?_,fun j j1 j2=>?_⟩
 ·rcases List.mem_append.mp ha with ha | ha
  ·exact r.ab a ha
  ·rw [List.mem_singleton.mp ha]
   dsimp only
   lia
 ·rcases List.mem_append.mp ha with ha | ha
  ·exact r.nm a ha
  ·rw [List.mem_singleton.mp ha]
   exact hn
 ·obtain ⟨a,ha,q⟩:=r.rc j j1 j2
  exact ⟨a,List.mem_append_left _ ha,q⟩
theorem Rs.new {nZ:List (List Nat)} {t0 t1:Int} {S:List Sp} {A:List Arc} {d:Nat} (r:Rs nZ t0 t1 S A (d + 1)) {nm:List Nat} (hn:nm∈nZ) (hd:d < S.length) {t:Sp} (ht:t∉S) (hb:(0≤t.1∧t.1≤t0)∧0≤t.2∧t.2≤t1):Rs nZ t0 t1 (S++[t]) (A++[((d:Int),nm,(S.length:Int))]) (d + 1):=by
 have hl:(S++[t]).length=S.length + 1:=by rw [List.length_append];rfl
 refine ⟨List.nodup_append.mpr ⟨r.nd,List.nodup_cons.mpr ⟨List.not_mem_nil,List.nodup_nil⟩,fun x hx y hy=>?_⟩,by lia,fun s hs=>?_,fun a ha=>?_,fun a ha=>?_,fun j j1 j2=>?_⟩
 ·rw [List.mem_singleton.mp hy]
  rintro rfl
  exact ht hx
 ·rcases List.mem_append.mp hs with hs | hs
  ·exact r.bd s hs
  ·rw [List.mem_singleton.mp hs]
   exact hb
 ·rw [hl]
  rcases List.mem_append.mp ha with ha | ha
  ·have:=r.ab a ha
   lia
  ·rw [List.mem_singleton.mp ha]
   dsimp only
   lia
 ·rcases List.mem_append.mp ha with ha | ha
  ·exact r.nm a ha
  ·rw [List.mem_singleton.mp ha]
   exact hn
 ·by_cases e:j=S.length
  ·subst e
   exact ⟨_,List.mem_append_right _ (List.mem_singleton.mpr rfl),rfl,d,hd,rfl⟩
  ·obtain ⟨a,ha,q⟩:=r.rc j j1 (by lia)
   exact ⟨a,List.mem_append_left _ ha,q⟩
theorem A9 (nZ:List (List Nat)) (s:Sp) (gs:List Sd) (t0 t1:Int) (h0:t0≤3) (h1:t1≤1) (S:List Sp) (A:List Arc) (hA:A.length≤1000) (d:Nat) (r:Rs nZ t0 t1 S A (d + 1)) (hd:d < S.length) (nm:List Nat) (hn:nm∈nZ) (g:Sd) (hg:Gok t0 g.1∧Gok t1 g.2) (t8:Option R) :
  ∃ (S':List Sp) (A':List Arc) (u8:Option R),Rs nZ t0 t1 S' A' (d + 1)∧S.length≤S'.length∧A'.length≤A.length + 1∧cZ [some (.f,.lst (nZ.map D.str)),some (.f,eSp s),some (.f,.lst (gs.map eSd)),some (.l .f,.lst (S.map eSp)),some (.l .f,.lst (A.map eA)),some (.f,.int ((d:Nat):Int)),some (.f,.str nm),some (.f,eSd g),t8]=.ok (.nx [some (.f,.lst (nZ.map D.str)),some (.f,eSp s),some (.f,.lst (gs.map eSd)),some (.l .f,.lst (S'.map eSp)),some (.l .f,.lst (A'.map eA)),some (.f,.int ((d:Nat):Int)),some (.f,.str nm),some (.f,eSd g),u8]):=by
 have hat:atI (S.map eSp) (d:Int)=some (eSp S[d]):=eg (by rw [List.getElem?_map,List.getElem?_eq_getElem hd];rfl)
 have h8:=r.le8 h0 h1
 have hzA:(A.map eA).length < sizeLine:=gc (by rw [List.length_map];lia)
 have hzS:(S.map eSp).length < sizeLine:=gc (by rw [List.length_map];lia)
 unfold cZ
 have hcl:∀ t:Sp,cH (eSp t)=true:=fun t=>rfl
 have hcn:cH .non=true:=rfl
 rcases A8 S[d] g with ⟨k1,k2,e⟩ | e
 ·have hb:=And.intro (hg.1.2 _ k1.1 k1.2) (hg.2.2 _ k2.1 k2.2)
  generalize ht:((S[d].1 + g.1.2.2,S[d].2 + g.2.2.2):Sp)=t at e
  have hb:(0≤t.1∧t.1≤t0)∧0≤t.2∧t.2≤t1:=by
   rw [←ht]
   exact hb
  have hnin:=DH tj ke lK S t
  have his:isnO (eSp t) .non=.ok (.f,.bl true):=id rfl
  rw [ay (env':=[some (.f,.lst (nZ.map D.str)),some (.f,eSp s),some (.f,.lst (gs.map eSd)),some (.l .f,.lst (S.map eSp)),some (.l .f,.lst (A.map eA)),some (.f,.int ((d:Nat):Int)),some (.f,.str nm),some (.f,eSd g),some (.f,eSp t)]) (by simp only [pv,↓reduceIte,Nat.reduceAdd,Nat.reduceLT,Nat.reduceLeDiff,Nat.reduceEqDiff,op,hat,e,hcl])]
  by_cases hm:t∈S
  ·obtain ⟨i,hi,hix⟩:=ixL tj ke lK S t hm
   refine ⟨S,A++[((d:Int),nm,(i:Int))],some (.f,eSp t),r.old hn (List.getElem?_eq_some_iff.mp hi).1,Nat.le_refl _,by rw [List.length_append];exact Nat.le_refl _,?_⟩
   rw [List.map_append]
   simp only [pv,↓reduceIte,Nat.reduceAdd,Nat.reduceLT,Nat.reduceLeDiff,Nat.reduceEqDiff,op,his,hnin,hm,decide_true,Bool.not_true,Bool.false_eq_true,wc,hix,hzA]
   rfl
  ·have hix:=Co tj ke lK S t hm
   refine ⟨S++[t],A++[((d:Int),nm,(S.length:Int))],some (.f,eSp t),r.new hn hd hm hb,by rw [List.length_append];lia,by rw [List.length_append];exact Nat.le_refl _,?_⟩
   rw [List.map_append,List.map_append,List.map_cons,List.map_nil]
   simp only [pv,↓reduceIte,Nat.reduceAdd,Nat.reduceLT,Nat.reduceLeDiff,Nat.reduceEqDiff,op,his,hnin,hm,decide_false,Bool.not_false,wc,hix,hzA,hzS]
   rfl
 ·refine ⟨S,A,some (.f,.non),r,Nat.le_refl _,by lia,?_⟩
  rw [ay (env':=[some (.f,.lst (nZ.map D.str)),some (.f,eSp s),some (.f,.lst (gs.map eSd)),some (.l .f,.lst (S.map eSp)),some (.l .f,.lst (A.map eA)),some (.f,.int ((d:Nat):Int)),some (.f,.str nm),some (.f,eSd g),some (.f,.non)]) (by simp only [pv,↓reduceIte,Nat.reduceAdd,Nat.reduceLT,Nat.reduceLeDiff,Nat.reduceEqDiff,op,hat,e,hcn])]
  simp only [pv,↓reduceIte,Nat.reduceAdd,Nat.reduceLT,Nat.reduceLeDiff,Nat.reduceEqDiff,op,o_isnN,Bool.false_eq_true]
theorem pO {α β:Type} (f:α→D) (g:β→D) (xs:List α) (ys:List β):((xs.map f).zip (ys.map g)).map (fun z=>D.tup [z.1,z.2])=(xs.zip ys).map fun z=>D.tup [f z.1,g z.2]:=by
 rw [List.zip_map,List.map_map]
 rfl
theorem Cp (nZ:List (List Nat)) (hn:nZ.length≤3) (t0 t1:Int) (h0:t0≤3) (h1:t1≤1) (s:Sp) (hs:(0≤s.1∧s.1≤t0)∧0≤s.2∧s.2≤t1) (gs:List Sd) (hg:∀ g∈gs,Gok t0 g.1∧Gok t1 g.2) :
  ∃ (as:List Arc) (many:Nat),Ra nZ as many∧cM [.lst (nZ.map D.str),eSp s,.lst (gs.map eSd)]=.ok (.l .f,.lst ((bG cO as).map eA)):=by
 unfold cM kI
 rw [bM (h:=by rfl)]
 rw [ay (env':=[some (.f,.lst (nZ.map D.str)),some (.f,eSp s),some (.f,.lst (gs.map eSd)),some (.l .f,.lst [eSp s]),none,none,none,none,none]) (by simp only [pv,↓reduceIte,Nat.reduceAdd,Nat.reduceLT,Nat.reduceLeDiff,Nat.reduceEqDiff,op])]
 rw [ay (env':=[some (.f,.lst (nZ.map D.str)),some (.f,eSp s),some (.f,.lst (gs.map eSd)),some (.l .f,.lst [eSp s]),some (.l .f,.lst []),none,none,none,none]) (by simp only [pv,↓reduceIte,Nat.reduceAdd,Nat.reduceLT,Nat.reduceLeDiff,Nat.reduceEqDiff,op])]
 rw [ay (env':=[some (.f,.lst (nZ.map D.str)),some (.f,eSp s),some (.f,.lst (gs.map eSd)),some (.l .f,.lst [eSp s]),some (.l .f,.lst []),some (.f,.int 0),none,none,none]) (by simp only [pv,↓reduceIte,Nat.reduceAdd,Nat.reduceLT,Nat.reduceLeDiff,Nat.reduceEqDiff,op])]
 obtain ⟨env',ew,S,A,d,t6,t7,t8,r,hd,hA,rfl⟩:=j7 (c:=(eBl (aA ltO (av 5) (ao (bx ft (ah (av 3) az)))))) (g:=eP)
  (fun k env=>∃ S A d t6 t7 t8,Rs nZ t0 t1 S A d∧d≤S.length∧A.length≤3 * d∧k=9 - d∧env=[some (.f,.lst (nZ.map D.str)),some (.f,eSp s),some (.f,.lst (gs.map eSd)),some (.l .f,.lst (S.map eSp)),some (.l .f,.lst (A.map eA)),some (.f,.int ((d:Nat):Int)),t6,t7,t8]) (fun env=>∃ S A d t6 t7 t8,Rs nZ t0 t1 S A d∧d=S.length∧A.length≤3 * d∧env=[some (.f,.lst (nZ.map D.str)),some (.f,eSp s),some (.f,.lst (gs.map eSd)),some (.l .f,.lst (S.map eSp)),some (.l .f,.lst (A.map eA)),some (.f,.int ((d:Nat):Int)),t6,t7,t8]) (by
  rintro k env ⟨S,A,d,t6,t7,t8,r,hd,hA,rfl,rfl⟩
  have h8:=r.le8 h0 h1
  by_cases hlt:d < S.length
  ·refine .inr ⟨[some (.f,.lst (nZ.map D.str)),some (.f,eSp s),some (.f,.lst (gs.map eSd)),some (.l .f,.lst (S.map eSp)),some (.l .f,.lst (A.map eA)),some (.f,.int ((d:Nat):Int)),t6,t7,t8],?_,?_⟩
   ·have:(d:Int) < (S.length:Int):=by lia
    simp only [pv,↓reduceIte,Nat.reduceAdd,Nat.reduceLT,Nat.reduceLeDiff,Nat.reduceEqDiff,op,List.length_map,this,decide_true]
   ·obtain ⟨env',ef,S',A',t6',t7',t8',r',hd',hA',rfl⟩:=for_list (a:=kl 2 (aK (aB 6) (aK (aB 7) dX))) (g:=cZ) (e:=fun z:List Nat×Sd=>D.tup [D.str z.1,eSd z.2]) (nZ.zip gs) (fun j env=>∃ S' A' t6 t7 t8,Rs nZ t0 t1 S' A' (d + 1)∧S.length≤S'.length∧A'.length≤3 * d + j∧env=[some (.f,.lst (nZ.map D.str)),some (.f,eSp s),some (.f,.lst (gs.map eSd)),some (.l .f,.lst (S'.map eSp)),some (.l .f,.lst (A'.map eA)),some (.f,.int ((d:Nat):Int)),t6,t7,t8]) (by
     rintro j z env hj ⟨S',A',t6,t7,t8,r',hd',hA',rfl⟩
     have hz:=List.mem_of_getElem? hj
     have hjl:=(List.getElem?_eq_some_iff.mp hj).1
     rw [List.length_zip] at hjl
     obtain ⟨hz1,hz2⟩:=List.of_mem_zip (show (z.1,z.2)∈nZ.zip gs from hz)
     have h8:=r'.le8 h0 h1
     obtain ⟨S2,A2,u8,r2,hd2,hA2,e⟩:=A9 nZ s gs t0 t1 h0 h1 S' A' (by lia) d r' (by lia) z.1 hz1 z.2 (hg _ hz2) t8
     exact ⟨_,by simp only [pv,↓reduceIte,Nat.reduceAdd,Nat.reduceLT,Nat.reduceLeDiff,Nat.reduceEqDiff],_,e,S2,A2,_,_,_,r2,by lia,by lia,rfl⟩) _ ⟨S,A,t6,t7,t8,r.more (by lia),Nat.le_refl _,by lia,rfl⟩
    rw [List.length_zip] at hA'
    have h8':=r'.le8 h0 h1
    refine ⟨_,9 - (d + 1),?_,by lia,S',A',d + 1,t6',t7',t8',r',by lia,by lia,rfl,rfl⟩
    unfold eP
    rw [ay (env':=_) (by
     unfold iR
     simp only [pv,↓reduceIte,Nat.reduceAdd,Nat.reduceLT,Nat.reduceLeDiff,Nat.reduceEqDiff,op,pO]
     exact ef)]
    unfold ib
    simp only [pv,↓reduceIte,Nat.reduceAdd,Nat.reduceLT,Nat.reduceLeDiff,Nat.reduceEqDiff,op,Int.natCast_add,Int.cast_ofNat_Int]
  ·refine .inl ⟨_,?_,S,A,d,t6,t7,t8,r,by lia,hA,rfl⟩
   have:¬ (d:Int) < (S.length:Int):=by lia
   simp only [pv,↓reduceIte,Nat.reduceAdd,Nat.reduceLT,Nat.reduceLeDiff,Nat.reduceEqDiff,op,List.length_map,this,decide_false]) 100000 9 _ (by decide) ⟨[s],[],0,none,none,none,⟨List.nodup_cons.mpr ⟨List.not_mem_nil,List.nodup_nil⟩,Nat.le_refl _,fun x hx=>by rw [List.mem_singleton.mp hx];exact hs,(fun _ h=>nomatch h),(fun _ h=>nomatch h),fun j j1 j2=>by rw [List.length_singleton] at j2;lia⟩,Nat.zero_le _,Nat.le_refl _,rfl,rfl⟩
 have h8:=r.le8 h0 h1
 have hne:=r.ne
 rw [ay (env':=_) (by
  unfold iS
  exact ew)]
 unfold ic
 refine ⟨A,S.length,⟨by lia,by lia,fun a ha=>?_,r.nm,r.rc⟩,?_⟩
 ·have:=r.ab a ha
  lia
 ·simp only [pv,↓reduceIte,Nat.reduceAdd,Nat.reduceLT,Nat.reduceLeDiff,Nat.reduceEqDiff,op,oy A (by lia)]
noncomputable def we (K:List Int) (x:Int):List Int:=if x∈K then K else K++[x]
noncomputable def d9 (K:List Int) (a:Arc):List Int:=if a.1∈K then we K a.2.2 else K
noncomputable def Ba (arcs:List Arc) (K:List Int):List Int:=arcs.foldl d9 K
noncomputable def cE (arcs:List Arc):Nat→List Int
 | 0=>[0]
 | n + 1=>Ba arcs (cE arcs n)
theorem lM {K:List Int} {x y:Int}:y∈we K x↔y∈K∨y=x:=by
 unfold we
 split
 ·rename_i h
  constructor
  ·exact .inl
  ·rintro (h2 | rfl)
   ·exact h2
   ·exact h
 ·rw [List.mem_append,List.mem_singleton]
theorem yv {K:List Int} {x:Int} (h:K.Nodup):(we K x).Nodup:=by
 unfold we
 split
 ·exact h
 ·rename_i hx
  refine List.nodup_append.mpr ⟨h,List.nodup_cons.mpr ⟨List.not_mem_nil,List.nodup_nil⟩,fun z hz y hy=>?_⟩
  rw [List.mem_singleton.mp hy]
  rintro rfl
  exact hx hz
theorem tm {K:List Int} {a:Arc} {y:Int} (h:y∈K):y∈d9 K a:=by
 unfold d9
 split
 ·exact lM.mpr (.inl h)
 ·exact h
theorem vo {K:List Int} {a:Arc} (h:K.Nodup):(d9 K a).Nodup:=by
 unfold d9
 split
 ·exact yv h
 ·exact h
theorem jq {y:Int}:∀ (L:List Arc) (K:List Int),y∈K→y∈L.foldl d9 K
 | [],_,h=>h
 | a :: L,K,h=>jq L (d9 K a) (tm h)
theorem oz:∀ (L:List Arc) (K:List Int),K.Nodup→(L.foldl d9 K).Nodup
 | [],_,h=>h
 | a :: L,K,h=>oz L (d9 K a) (vo h)
theorem oA {C:Int→Prop}:∀ (L:List Arc) (K:List Int),(∀ a∈L,C a.1→C a.2.2)→(∀ y∈K,C y)→∀ y∈L.foldl d9 K,C y
 | [],_,_,h=>h
 | a :: L,K,hc,h=>oA L (d9 K a) (fun b hb=>hc b (List.mem_cons_of_mem _ hb)) fun y hy=>by
  unfold d9 at hy
  split at hy
  ·rename_i ha
   rcases lM.mp hy with hy | rfl
   ·exact h y hy
   ·exact hc a List.mem_cons_self (h _ ha)
  ·exact h y hy
theorem lN (arcs:List Arc):∀ n,(cE arcs n).Nodup
 | 0=>List.nodup_cons.mpr ⟨List.not_mem_nil,List.nodup_nil⟩
 | n + 1=>oz arcs _ (lN arcs n)
theorem kg {C:Int→Prop} {arcs:List Arc} (h0:C 0) (hc:∀ a∈arcs,C a.1→C a.2.2):∀ n,∀ y∈cE arcs n,C y
 | 0=>fun y hy=>by rw [List.mem_singleton.mp hy];exact h0
 | n + 1=>oA arcs _ hc (kg h0 hc n)
theorem tq {arcs:List Arc} {y:Int}:∀ n m,y∈cE arcs n→y∈cE arcs (n + m)
 | n,0,h=>h
 | n,m + 1,h=>jq arcs _ (tq n m h)
theorem vp:∀ (i:Nat) (L:List Arc),L.Pairwise (fun a b=>a.1≤b.1)→(∀ j:Nat,1≤j→j≤i→∃ a∈L,a.2.2=(j:Int)∧∃ b:Nat,b < j∧a.1=(b:Int))→(i:Int)∈L.foldl d9 [0]:=by
 intro i
 induction i using Nat.strongRecOn with
 | _ i ih=>
  intro L hs hr
  cases i with
  | zero=>exact jq L [0] (List.mem_singleton.mpr rfl)
  | succ i=>
   obtain ⟨a,ha,e1,b,hb,e2⟩:=hr (i + 1) (by lia) (Nat.le_refl _)
   obtain ⟨L1,L2,rfl⟩:=List.append_of_mem ha
   have hs2:=List.pairwise_append.mp hs
   have hb1:(b:Int)∈L1.foldl d9 [0]:=ih b hb L1 hs2.1 fun j j1 j2=>by
    obtain ⟨x,hx,q1,c,q2,q3⟩:=hr j j1 (by lia)
    rcases List.mem_append.mp hx with hx | hx
    ·exact ⟨x,hx,q1,c,q2,q3⟩
    ·exfalso
     rcases List.mem_cons.mp hx with hx | hx
     ·rw [hx] at q3
      lia
     ·have:=(List.pairwise_cons.mp hs2.2.1).1 x hx
      lia
   rw [List.foldl_append,List.foldl_cons]
   refine jq L2 _ ?_
   unfold d9
   rw [if_pos (by rw [e2];exact hb1),e1]
   exact lM.mpr (.inr rfl)
theorem yw {arcs:List Arc} (h:arcs.Pairwise (fun a b=>cO b a=false)):arcs.Pairwise (fun a b=>a.1≤b.1):=by
 refine h.imp fun {a b} hab=>?_
 refine Int.not_lt.mp fun hl=>?_
 unfold cO ak at hab
 rw [dk,if_neg (fun e=>by have:=Sum.inl.inj e;lia)] at hab
 have:m6.blt (Sum.inl b.1) (Sum.inl a.1)=true:=by
  first
   | exact decide_eq_true hl
   | simpa [m6] using hl
 rw [this] at hab
 cases hab
theorem tu {α:Type} [DecidableEq α]:∀ (l m:List α),l.Nodup→(∀ x∈l,x∈m)→l.length≤m.length
 | [],m,_,_=>Nat.zero_le _
 | a :: l,m,nd,h=>by
  rw [List.nodup_cons] at nd
  have ha:=h a List.mem_cons_self
  have:=tu l (m.erase a) nd.2 fun x hx=>(List.mem_erase_of_ne (fun e=>nd.1 (by rw [←e];exact hx))).mpr (h x (List.mem_cons_of_mem _ hx))
  rw [List.length_erase_of_mem ha] at this
  have:=List.length_pos_of_mem ha
  rw [List.length_cons]
  lia
theorem Ra.come {nZ:List (List Nat)} {as:List Arc} {many:Nat} (r:Ra nZ as many):(cE (bG cO as) (bG cO as).length).length=many:=by
 have rs:=r.sort
 have hm:=r.mm
 have hs:=yw (dH yt as)
 generalize bG cO as=L at rs hs
 refine Nat.le_antisymm (f7 many (lN L _) (kg (C:=fun y=>0≤y∧y < (many:Int)) (by lia) (fun a ha _=>(rs.bd a ha).2) _)) ?_
 have:=tu ((List.range many).map fun (k:Nat)=>(k:Int)) (cE L L.length) (fP _ _ fun i j _ _ e=>by lia) fun x hx=>by
  obtain ⟨k,hk,rfl⟩:=List.mem_map.mp hx
  have hk:=List.mem_range.mp hk
  cases hL:L.length with
  | zero=>
   cases k with
   | zero=>exact List.mem_singleton.mpr rfl
   | succ k=>
    obtain ⟨a,ha,_⟩:=rs.rc (k + 1) (by lia) hk
    rw [List.eq_nil_of_length_eq_zero hL] at ha
    exact nomatch ha
  | succ n=>
   have:=tq 1 n (arcs:=L) (y:=(k:Int)) (vp k L hs fun j j1 j2=>rs.rc j j1 (by lia))
   rwa [Nat.add_comm] at this
 rwa [List.length_map,List.length_range] at this
noncomputable def vK (K:List Int):List D:=K.map fun _=>D.bl true
theorem Bb:∀ (ks:List Int) (x:Int),(getD (ks.map D.int) (vK ks) (.int x)).isSome=decide (x∈ks)
 | [],x=>rfl
 | k :: ks,x=>by
  have ih:=Bb ks x
  unfold getD at ih ⊢
  unfold vK at ih ⊢
  rw [List.map_cons,List.map_cons,List.zip_cons_cons]
  by_cases e:x=k
  ·subst e
   rw [List.find?_cons_of_pos (by show eqD (.int x) (.int x)=true;rw [eqD];exact beq_self_eq_true _)]
   simp
  ·rw [List.find?_cons_of_neg (by show ¬ eqD (.int x) (.int k)=true;rw [eqD,beq_iff_eq];exact e),ih]
   simp [e]
theorem DI (K:List Int) (x:Int):inP (.int x) (.dct false (K.map D.int) (vK K))=.ok (.f,.bl (decide (x∈K))):=by
 have e:=Bb K x
 unfold inP
 dsimp only
 rw [if_pos (show dD false (.int x)=true from rfl),e]
theorem Cq (K:List Int) (x:Int):mF (K.map D.int) (vK K) (.int x) (.bl true)=((we K x).map D.int,vK (we K x)):=by
 have e:(K.map D.int).any (eqD (.int x))=decide (x∈K):=by
  rw [List.any_map,Bool.eq_iff_iff,List.any_eq_true,decide_eq_true_eq]
  constructor
  ·rintro ⟨y,hy,h⟩
   have h:eqD (.int x) (.int y)=true:=h
   rw [eqD,beq_iff_eq] at h
   rw [h]
   exact hy
  ·intro h
   exact ⟨x,h,by show eqD (.int x) (.int x)=true;rw [eqD];exact beq_self_eq_true _⟩
 unfold mF we vK
 rw [e]
 by_cases h:x∈K
 ·rw [if_pos h,if_pos (decide_eq_true h),List.zip_map',List.map_map]
  congr 1
  refine List.map_congr_left fun y _=>?_
  show (if _ then D.bl true else D.bl true)=_
  split <;> rfl
 ·rw [if_neg h,decide_eq_false h,if_neg Bool.false_ne_true,List.map_append,List.map_append]
  rfl
theorem Bc (A0 A2:Option R) (K:List Int) (hK:K.length≤1000) (a:Arc):bX [A0,some (.d,.dct false (K.map D.int) (vK K)),A2,some (.f,.int a.1),some (.f,.str a.2.1),some (.f,.int a.2.2)]=.ok (.nx [A0,some (.d,.dct false ((d9 K a).map D.int) (vK (d9 K a))),A2,some (.f,.int a.1),some (.f,.str a.2.1),some (.f,.int a.2.2)]):=by
 have hi:=DI K a.1
 have hz:decide (K.length < sizeLine)=true:=decide_eq_true (gc (by lia))
 have h2:=Cq K a.2.2
 unfold bX d9
 by_cases h:a.1∈K
 ·rw [if_pos h]
  simp only [pv,↓reduceIte,Nat.reduceAdd,Nat.reduceLT,Nat.reduceLeDiff,Nat.reduceEqDiff,op,hi,h,decide_true,List.length_map,hz,Bool.and_self,h2]
 ·rw [if_neg h]
  simp only [pv,↓reduceIte,Nat.reduceAdd,Nat.reduceLT,Nat.reduceLeDiff,Nat.reduceEqDiff,op,hi,h,decide_false,Bool.false_eq_true]
theorem mZ (arcs:List Arc) (hl:arcs.length≤1000) (m:Nat) (hm:1≤m∧m≤12) (hb:∀ a∈arcs,0≤a.2.2∧a.2.2 < (m:Int)):aZ [.lst (arcs.map eA)]=.ok (.d,.dct false ((cE arcs arcs.length).map D.int) (vK (cE arcs arcs.length))):=by
 unfold aZ gx
 rw [bM (h:=by rfl)]
 rw [ay (env':=[some (.f,.lst (arcs.map eA)),some (.d,.dct false [.int 0] [.bl true]),none,none,none,none]) (by simp only [pv,↓reduceIte,Nat.reduceAdd,Nat.reduceLT,Nat.reduceLeDiff,Nat.reduceEqDiff,op])]
 obtain ⟨env',ef,K,t2,t3,t4,t5,eK,rfl⟩:=lE (a:=aB 2) (g:=cK) (e:=fun k=>D.int (k:Int)) arcs.length (fun i env=>∃ K t2 t3 t4 t5,K=cE arcs i∧env=[some (.f,.lst (arcs.map eA)),some (.d,.dct false (K.map D.int) (vK K)),t2,t3,t4,t5]) (by
  rintro k env hk ⟨K0,t2,t3,t4,t5,eK0,rfl⟩
  have hc:∀ y∈K0,0≤y∧y < (m:Int):=by
   rw [eK0]
   exact kg (C:=fun y=>0≤y∧y < (m:Int)) (by lia) (fun a ha _=>hb a ha) k
  have hnd:K0.Nodup:=by
   rw [eK0]
   exact lN arcs k
  obtain ⟨env',ef,K,u3,u4,u5,eK,rfl⟩:=for_list (a:=kl 3 (aK (aB 3) (aK (aB 4) (aK (aB 5) dX)))) (g:=bX) (e:=eA) arcs (fun j env=>∃ K t3 t4 t5,K=(arcs.take j).foldl d9 K0∧env=[some (.f,.lst (arcs.map eA)),some (.d,.dct false (K.map D.int) (vK K)),some (.f,.int (k:Int)),t3,t4,t5]) (by
   rintro j a env hj ⟨K,t3,t4,t5,eK,rfl⟩
   have ht:arcs.take (j + 1)=arcs.take j++[a]:=by rw [List.take_add_one,hj];rfl
   have hlen:K.length≤m:=by
    rw [eK]
    exact f7 m (oz _ _ hnd) (oA (C:=fun y=>0≤y∧y < (m:Int)) _ _ (fun a ha _=>hb a (List.mem_of_mem_take ha)) hc)
   have h2:=Bc (some (.f,.lst (arcs.map eA))) (some (.f,.int (k:Int))) K (by lia) a
   refine ⟨_,by unfold eA;simp only [pv,↓reduceIte,Nat.reduceAdd,Nat.reduceLT,Nat.reduceLeDiff,Nat.reduceEqDiff],_,h2,d9 K a,_,_,_,?_,rfl⟩
   rw [ht,List.foldl_append,eK]
   rfl) _ ⟨K0,t3,t4,t5,by rw [List.take_zero];rfl,rfl⟩
  rw [List.take_length] at eK
  refine ⟨_,rfl,_,?_,K,some (.f,.int (k:Int)),u3,u4,u5,by rw [eK,eK0];rfl,rfl⟩
  unfold cK eY
  simp only [pv,↓reduceIte,Nat.reduceAdd,Nat.reduceLT,Nat.reduceLeDiff,Nat.reduceEqDiff,op]
  exact ef) _ ⟨[0],none,none,none,none,rfl,rfl⟩
 rw [ay (env':=_) (by
  unfold eZ
  simp only [pv,↓reduceIte,Nat.reduceAdd,Nat.reduceLT,Nat.reduceLeDiff,Nat.reduceEqDiff,op,List.length_map]
  rw [if_pos (by lia)]
  simp only [pv,↓reduceIte,Nat.reduceAdd,Nat.reduceLT,Nat.reduceLeDiff,Nat.reduceEqDiff,op,Int.toNat_natCast]
  exact ef)]
 unfold d4
 rw [←eK]
 simp only [pv,↓reduceIte,Nat.reduceAdd,Nat.reduceLT,Nat.reduceLeDiff,Nat.reduceEqDiff,op]
theorem tw (K:List Int):flatDs (vK K)=true:=by
 unfold vK
 rw [bC,List.all_map,List.all_eq_true]
 exact fun _ _=>rfl
structure Fw (nZ:List (List Nat)) (arcs:List Arc) (many:Nat):Prop where
 mm:1≤many∧many≤12
 len:arcs.length≤60
 bd:∀ a∈arcs,(0≤a.1∧a.1 < (many:Int))∧0≤a.2.2∧a.2.2 < (many:Int)
 nm:∀ a∈arcs,a.2.1∈nZ
 ct:(cE arcs arcs.length).length=many
theorem Fw.ch {nZ:List (List Nat)} {arcs:List Arc} {many:Nat} (r:Fw nZ arcs many):Ch nZ arcs:=by
 have hm:=r.mm
 have hst:=mY hm.1 r.bd
 refine ⟨r.len,fun a ha=>?_,r.nm,by lia,fun N F s h0 h1=>?_⟩
 ·have:=r.bd a ha
  lia
 ·have hin:s∈cE arcs arcs.length:=by
   refine Decidable.byContradiction fun hn=>?_
   have:=f7 many (l:=s :: cE arcs arcs.length) (List.nodup_cons.mpr ⟨hn,lN arcs _⟩) fun x hx=>by
    rcases List.mem_cons.mp hx with rfl | hx
    ·lia
    ·exact kg (C:=fun y=>0≤y∧y < (many:Int)) (by lia) (fun a ha _=>(r.bd a ha).2) _ x hx
   rw [List.length_cons,r.ct] at this
   lia
  refine kg (C:=fun y=>y∈N.map (·.1)) F.zero (fun a ha h=>?_) _ s hin
  obtain ⟨n,hn,en⟩:=List.mem_map.mp h
  obtain ⟨m,hm,em,_⟩:=F.clo n hn a ha (by rw [en])
  exact List.mem_map.mpr ⟨m,hm,em⟩
theorem Cr (x y:List D) (h:x.length + y.length≤1000):cS (.lst x) (.lst y)=.ok (.l .f,.lst (x++y)):=by
 first
  | rw [ya,if_pos (line_le (by lia))]
  | (unfold cS;rw [if_pos (line_le (by lia))])
  | (unfold cS addD;rw [if_pos (line_le (by lia))])
theorem Bd (arcs:List Arc):neO (.lst (arcs.map eA)) (.lst [])=.ok (.f,.bl (!arcs.isEmpty)):=by
 unfold neO
 rw [plainD,kM 36 arcs]
 cases arcs <;> rfl
theorem yx (nZ:List (List Nat)) (many:Nat) (cs:List Int) (arcs:List Arc) (r:Fw nZ arcs many) (c:Int) (t3 t4:Option R):∃ arcs' u3 u4,Fw nZ arcs' many∧cA [some (.f,.lst (arcs.map eA)),some (.f,.lst (cs.map D.int)),some (.f,.int c),t3,t4]=.ok (.nx [some (.f,.lst (arcs'.map eA)),some (.f,.lst (cs.map D.int)),some (.f,.int c),u3,u4]):=by
 unfold cA
 have hne:=Bd arcs
 cases he:arcs with
 | nil=>
  rw [he] at hne
  subst he
  refine ⟨[],t3,t4,r,?_⟩
  simp only [pv,↓reduceIte,Nat.reduceAdd,Nat.reduceLT,Nat.reduceLeDiff,Nat.reduceEqDiff,op,hne,List.isEmpty_nil,Bool.not_true,Bool.false_eq_true] at hne ⊢
  simp only [pv,↓reduceIte,Nat.reduceAdd,Nat.reduceLT,Nat.reduceLeDiff,Nat.reduceEqDiff,op,hne,Bool.false_eq_true]
 | cons a0 l0=>
  rw [←he]
  have he2:arcs.isEmpty=false:=by rw [he];rfl
  have hpos:0 < arcs.length:=by rw [he];exact Nat.succ_pos _
  rw [he2,Bool.not_false] at hne
  clear he he2
  have hlen:=r.len
  have hm:=r.mm
  have b:=dB c (arcs.length:Int) (by lia)
  obtain ⟨k,ek⟩:=Int.eq_ofNat_of_zero_le b.1
  have c1:=mZ arcs (by lia) many hm fun a ha=>(r.bd a ha).2
  have hsub:∀ a∈arcs.take k++arcs.drop (k + 1),a∈arcs:=fun a ha=>by
   rcases List.mem_append.mp ha with h | h
   ·exact List.mem_of_mem_take h
   ·exact List.mem_of_mem_drop h
  have hl2:(arcs.take k++arcs.drop (k + 1)).length≤arcs.length:=by
   rw [List.length_append,List.length_take,List.length_drop]
   lia
  have c2:=mZ (arcs.take k++arcs.drop (k + 1)) (by lia) many hm fun a ha=>(r.bd a (hsub a ha)).2
  have hadd:=Cr ((arcs.take k).map eA) ((arcs.drop (k + 1)).map eA) (by rw [List.length_map,List.length_map];rw [List.length_append] at hl2;lia)
  rw [←List.map_append] at hadd
  have hcut1:i7 (arcs.map eA) none (some (k:Int))=(arcs.take k).map eA:=by rw [pI,List.map_take]
  have hcut2:i7 (arcs.map eA) (some ((k:Int) + 1)) none=(arcs.drop (k + 1)).map eA:=by rw [show (k:Int) + 1=((k + 1:Nat):Int) by lia,u6,List.map_drop]
  have f1:=tw (cE arcs arcs.length)
  have f2:=tw (cE (arcs.take k++arcs.drop (k + 1)) (arcs.take k++arcs.drop (k + 1)).length)
  have hct:=r.ct
  have fw:(cE (arcs.take k++arcs.drop (k + 1)) (arcs.take k++arcs.drop (k + 1)).length).length=many→Fw nZ (arcs.take k++arcs.drop (k + 1)) many:=fun h=>⟨hm,by lia,fun a ha=>r.bd a (hsub a ha),fun a ha=>r.nm a (hsub a ha),h⟩
  generalize arcs.take k++arcs.drop (k + 1)=dh at *
  generalize cE dh dh.length=K2 at *
  generalize cE arcs arcs.length=K1 at *
  have cl1:a8 .d (.dct false (K1.map D.int) (vK K1))=true:=f1
  have cl2:a8 .d (.dct false (K2.map D.int) (vK K2))=true:=f2
  have key:∀ b:Bool,((K2.length:Int) == (K1.length:Int))=b→∃ arcs' u3 u4,Fw nZ arcs' many∧sIf (eBl (b6 neO (av 0) (ao (nF b5)))) (sSeq (bW 3 (aA dF (av 2) (ao (bx ft (ah (av 0) az))))) (sSeq (bW 4 (aA cS (ao (vW (av 0) nG (lb (aM 3)))) (ao (vW (av 0) (lb (aA cS (av 3) (ao (aE (.int 1))))) nG)))) (sIf (eBl (b6 eqO (ao (bx ft (ah (ao (cP aZ (ah (av 4) az))) az))) (ao (bx ft (ah (ao (cP aZ (ah (av 0) az))) az))))) (bW 0 (aM 4)) cU))) cU [some (.f,.lst (arcs.map eA)),some (.f,.lst (cs.map D.int)),some (.f,.int c),t3,t4]=.ok (.nx [some (.f,.lst (arcs'.map eA)),some (.f,.lst (cs.map D.int)),some (.f,.int c),u3,u4]):=by
   intro b hb
   cases b with
   | true=>
    have hb':K2.length=many:=by
     have:=beq_iff_eq.mp hb
     lia
    refine ⟨dh,some (.f,.int (k:Int)),some (.f,.lst (dh.map eA)),fw hb',?_⟩
    simp only [pv,↓reduceIte,Nat.reduceAdd,Nat.reduceLT,Nat.reduceLeDiff,Nat.reduceEqDiff,op,hne,List.length_map,fg _ (arcs.length:Int) (by lia),ek,hcut1,hcut2,hadd,c1,c2,cl1,cl2,hb]
   | false=>
    refine ⟨arcs,some (.f,.int (k:Int)),some (.l .f,.lst (dh.map eA)),r,?_⟩
    simp only [pv,↓reduceIte,Nat.reduceAdd,Nat.reduceLT,Nat.reduceLeDiff,Nat.reduceEqDiff,op,hne,List.length_map,fg _ (arcs.length:Int) (by lia),ek,hcut1,hcut2,hadd,c1,c2,cl1,cl2,hb,Bool.false_eq_true]
  exact key _ rfl
theorem yy (nZ:List (List Nat)) (many:Nat) (cs:List Int) (arcs:List Arc) (r:Fw nZ arcs many):∃ arcs',Fw nZ arcs' many∧cq [.lst (arcs.map eA),.lst (cs.map D.int)]=.ok (.f,.lst (arcs'.map eA)):=by
 unfold cq iV
 rw [bM (h:=by rfl)]
 obtain ⟨env',ef,arcs',t2,t3,t4,r',rfl⟩:=for_list (a:=aB 2) (g:=cA) (e:=D.int) cs (fun j env=>∃ arcs t2 t3 t4,Fw nZ arcs many∧env=[some (.f,.lst (arcs.map eA)),some (.f,.lst (cs.map D.int)),t2,t3,t4]) (by
  rintro j c env hj ⟨arcs,t2,t3,t4,r,rfl⟩
  obtain ⟨arcs',u3,u4,r',e⟩:=yx nZ many cs arcs r c t3 t4
  exact ⟨_,rfl,_,e,arcs',_,u3,u4,r',rfl⟩) _ ⟨arcs,none,none,none,r,rfl⟩
 rw [ay (env':=_) (by
  unfold gA
  simp only [pv,↓reduceIte,Nat.reduceAdd,Nat.reduceLT,Nat.reduceLeDiff,Nat.reduceEqDiff,op]
  exact ef)]
 unfold fH
 exact ⟨arcs',r',by simp only [pv,↓reduceIte,Nat.reduceAdd,Nat.reduceLT,Nat.reduceLeDiff,Nat.reduceEqDiff,op]⟩
theorem vq (ds:List D):cH (.lst ds)=false:=rfl
theorem yz (ns:List Int):∃ nZ arcs,Ch nZ arcs∧nZ.Nodup∧nZ.length≤3∧cu [.lst (ns.map D.int)]=.ok (.f,eCh nZ arcs):=by
 have c0:au [.lst (ns.map D.int),.int 0]=.ok (.f,.int (cell ns 0)):=iY ns 0
 have c1:au [.lst (ns.map D.int),.int 1]=.ok (.f,.int (cell ns 1)):=iY ns 1
 have c2:au [.lst (ns.map D.int),.int 2]=.ok (.f,.int (cell ns 2)):=iY ns 2
 have c3:au [.lst (ns.map D.int),.int 3]=.ok (.f,.int (cell ns 3)):=iY ns 3
 have m3:=dB (cell ns 1) 3 (by decide)
 obtain ⟨cnt,ec⟩:=Int.eq_ofNat_of_zero_le (show 0≤1 + cell ns 1 % 3 by lia)
 obtain ⟨nZ,hnl,hnd,_,en⟩:=yn (cell ns 0) cnt (by lia)
 obtain ⟨xs,hxs,ex⟩:=pL (cell ns 2) 40 (by lia)
 have ex:aY [.int (cell ns 2),.int 40]=.ok (.l .f,.lst (xs.map D.int)):=ex
 have h0:nZ≠[]:=by
  intro h
  rw [h,List.length_nil] at hnl
  lia
 unfold cu iW
 rw [bM (h:=by rfl)]
 rw [ay (env':=[some (.f,.lst (ns.map D.int)),some (.l .f,.lst (nZ.map D.str)),none,none,none,none,none,none]) (by simp only [pv,↓reduceIte,Nat.reduceAdd,Nat.reduceLT,Nat.reduceLeDiff,Nat.reduceEqDiff,op,c0,c1,fg _ 3 (by decide),ec,en])]
 rw [ay (env':=[some (.f,.lst (ns.map D.int)),some (.l .f,.lst (nZ.map D.str)),some (.l .f,.lst (xs.map D.int)),none,none,none,none,none]) (by simp only [pv,↓reduceIte,Nat.reduceAdd,Nat.reduceLT,Nat.reduceLeDiff,Nat.reduceEqDiff,op,c2,ex])]
 rw [ay (env':=[some (.f,.lst (ns.map D.int)),some (.l .f,.lst (nZ.map D.str)),some (.l .f,.lst (xs.map D.int)),some (.f,.int (cell ns 3 % 4)),none,none,none,none]) (by simp only [pv,↓reduceIte,Nat.reduceAdd,Nat.reduceLT,Nat.reduceLeDiff,Nat.reduceEqDiff,op,c3,fg _ 4 (by decide)])]
 generalize cell ns 3 % 4=kind
 cases hk0:(kind == 0) with
 | true=>
  obtain ⟨as,many,ys,ra,e⟩:=Cn nZ h0 xs hxs
  have e:=jl (r:=(.l .f,.lst ((bG cO as).map eA))) e
  have hf:=iE (bG cO as)
  refine ⟨nZ,bG cO as,ra.sort.ch,hnd,by lia,?_⟩
  rw [ay (env':=[some (.f,.lst (ns.map D.int)),some (.l .f,.lst (nZ.map D.str)),some (.l .f,.lst (ys.map D.int)),some (.f,.int kind),some (.l .f,.lst ((bG cO as).map eA)),none,none,none]) (by simp only [pv,↓reduceIte,Nat.reduceAdd,Nat.reduceLT,Nat.reduceLeDiff,Nat.reduceEqDiff,op,hk0,oj,pF,e,hf,Bool.and_self])]
  simp only [pv,↓reduceIte,Nat.reduceAdd,Nat.reduceLT,Nat.reduceLeDiff,Nat.reduceEqDiff,op,eCh]
 | false=>
  cases hk1:(kind == 1) with
  | true=>
   obtain ⟨as,many,ys,ra,e⟩:=A7 nZ h0 xs hxs
   have e:=jl (r:=(.l .f,.lst ((bG cO as).map eA))) e
   have hf:=iE (bG cO as)
   refine ⟨nZ,bG cO as,ra.sort.ch,hnd,by lia,?_⟩
   rw [ay (env':=[some (.f,.lst (ns.map D.int)),some (.l .f,.lst (nZ.map D.str)),some (.l .f,.lst (ys.map D.int)),some (.f,.int kind),some (.l .f,.lst ((bG cO as).map eA)),none,none,none]) (by simp only [pv,↓reduceIte,Nat.reduceAdd,Nat.reduceLT,Nat.reduceLeDiff,Nat.reduceEqDiff,op,hk0,hk1,Bool.false_eq_true,oj,pF,e,hf,Bool.and_self])]
   simp only [pv,↓reduceIte,Nat.reduceAdd,Nat.reduceLT,Nat.reduceLeDiff,Nat.reduceEqDiff,op,eCh]
  | false=>
   obtain ⟨t0,t1,s,gs,ys,b0,b1,bs0,bs1,hgl,hg,e⟩:=pN nZ.length (by lia) xs hxs
   have e:=jl (r:=(.f,.tup [.lst [.int t0,.int t1],eSp s,.lst (gs.map eSd)])) e
   obtain ⟨as,many,ra,er⟩:=Cp nZ (by lia) t0 t1 b0.2 b1.2 s ⟨bs0,bs1⟩ gs hg
   have hf:=iE (bG cO as)
   have hfl:flatDs [.lst [.int t0,.int t1],eSp s,.lst (gs.map eSd)]=false:=rfl
   have s1:z9 (eFunW (.l .f) bp 2 (ah (av 2) (ah (ao (bx ft (ah (av 1) az))) az))) (kl 3 (aK (aB 5) (aK (aB 6) (aK (aB 7) dX)))) [some (.f,.lst (ns.map D.int)),some (.l .f,.lst (nZ.map D.str)),some (.l .f,.lst (xs.map D.int)),some (.f,.int kind),none,none,none,none]=.ok (.nx [some (.f,.lst (ns.map D.int)),some (.f,.lst (nZ.map D.str)),some (.l .f,.lst (ys.map D.int)),some (.f,.int kind),none,some (.f,.lst [.int t0,.int t1]),some (.f,eSp s),some (.f,.lst (gs.map eSd))]):=by
    simp only [pv,↓reduceIte,Nat.reduceAdd,Nat.reduceLT,Nat.reduceLeDiff,Nat.reduceEqDiff,op,oj,pF,List.length_map,e,hfl,Bool.false_and,Bool.false_eq_true,Ci,Cj]
   have s2:bW 4 (cP cM (ah (av 1) (ah (av 6) (ah (av 7) az)))) [some (.f,.lst (ns.map D.int)),some (.f,.lst (nZ.map D.str)),some (.l .f,.lst (ys.map D.int)),some (.f,.int kind),none,some (.f,.lst [.int t0,.int t1]),some (.f,eSp s),some (.f,.lst (gs.map eSd))]=.ok (.nx [some (.f,.lst (ns.map D.int)),some (.f,.lst (nZ.map D.str)),some (.l .f,.lst (ys.map D.int)),some (.f,.int kind),some (.l .f,.lst ((bG cO as).map eA)),some (.f,.lst [.int t0,.int t1]),some (.f,eSp s),some (.f,.lst (gs.map eSd))]):=by
    simp only [pv,↓reduceIte,Nat.reduceAdd,Nat.reduceLT,Nat.reduceLeDiff,Nat.reduceEqDiff,op,er,hf]
   rw [show (sSeq (sIf (eBl (b6 eqO (av 3) (ao (aE (.int 0))))) _ _) _)=sSeq (sIf (eBl (b6 eqO (av 3) (ao (aE (.int 0))))) _ _) _ from rfl]
   rw [x_sSeq,CJ (env':=[some (.f,.lst (ns.map D.int)),some (.l .f,.lst (nZ.map D.str)),some (.l .f,.lst (xs.map D.int)),some (.f,.int kind),none,none,none,none]) (by simp only [pv,↓reduceIte,Nat.reduceAdd,Nat.reduceLT,Nat.reduceLeDiff,Nat.reduceEqDiff,op,hk0]),CJ (env':=[some (.f,.lst (ns.map D.int)),some (.l .f,.lst (nZ.map D.str)),some (.l .f,.lst (xs.map D.int)),some (.f,.int kind),none,none,none,none]) (by simp only [pv,↓reduceIte,Nat.reduceAdd,Nat.reduceLT,Nat.reduceLeDiff,Nat.reduceEqDiff,op,hk1]),ay s1,ay s2]
   cases hk3:(kind == 3) with
   | false=>
    refine ⟨nZ,bG cO as,ra.sort.ch,hnd,by lia,?_⟩
    simp only [pv,↓reduceIte,Nat.reduceAdd,Nat.reduceLT,Nat.reduceLeDiff,Nat.reduceEqDiff,op,hk3,Bool.false_eq_true,eCh]
   | true=>
    have rs:=ra.sort
    obtain ⟨arcs,fw,ef⟩:=yy nZ many (i7 ns (some 4) (some 8)) (bG cO as) ⟨rs.mm,rs.len,rs.bd,rs.nm,ra.come⟩
    rw [←yf] at ef
    refine ⟨nZ,arcs,fw.ch,hnd,by lia,?_⟩
    simp only [pv,↓reduceIte,Nat.reduceAdd,Nat.reduceLT,Nat.reduceLeDiff,Nat.reduceEqDiff,op,hk3,ef,vq,Bool.false_eq_true,Ci,Cj,eCh]
noncomputable def dot (r uZ:List Int):Int:=((r.zip uZ).map fun p=>p.1 * p.2).sum
theorem tF (r uZ:List Int) (hl:r.length≤1000) (hs:∀ x∈r,cn x=true):ba [.tup (r.map D.int),.lst (uZ.map D.int)]=.ok (.f,.int (dot r uZ)):=by
 unfold ba iX
 rw [bM (h:=by rfl)]
 have hc:dt (kl 2 (aK (aB 0) (aK (aB 1) dX))) ik (aA m7 (av 0) (av 1)) ((r.zip uZ).map fun z=>D.tup [D.int z.1,D.int z.2]) [none,none]=.ok (((r.zip uZ).map fun p=>p.1 * p.2).map D.int):=by
  rw [c7 (r:=fun z:Int×Int=>D.int (z.1 * z.2)) (fun env=>∃ t u,env=[t,u]) (r.zip uZ) ?_ _ ⟨none,none,rfl⟩]
  ·rw [List.map_map]
   rfl
  ·rintro z hz env ⟨t,u,rfl⟩
   have hz1:=(List.of_mem_zip (show (z.1,z.2)∈r.zip uZ from hz)).1
   refine ⟨[some (.f,.int z.1),some (.f,.int z.2)],rfl,.f,[some (.f,.int z.1),some (.f,.int z.2)],?_,_,_,rfl⟩
   simp only [pv,↓reduceIte,Nat.reduceAdd,Nat.reduceLT,Nat.reduceLeDiff,Nat.reduceEqDiff,op,yD z.1 z.2 (hs _ hz1)]
 have hlen:(((r.zip uZ).map fun p=>p.1 * p.2).map D.int).length≤sizeLine:=b9 (by
  rw [List.length_map,List.length_map,List.length_zip]
  lia)
 have hfl:=flat_ints ((r.zip uZ).map fun p=>p.1 * p.2)
 simp only [pv,↓reduceIte,Nat.reduceAdd,Nat.reduceLT,Nat.reduceLeDiff,Nat.reduceEqDiff,op,pO,hc,hlen,hfl,AR]
 rfl
theorem ij (a b:Int) (r s:List Int):dot (a :: r) (b :: s)=a * b + dot r s:=by
 unfold dot
 rw [List.zip_cons_cons,List.map_cons,List.sum_cons]
theorem oB (w:List (List Nat)) (m:List Nat):∀ (nZ:List (List Nat)) (uZ:List Int),nZ.Nodup→uZ.length=nZ.length→m∈nZ→dot (row nZ (w++[m])) uZ=dot (row nZ w) uZ + uZ.getD (nZ.idxOf m) 0
 | [],_,_,_,h=>nomatch h
 | x :: nZ,[],_,h,_=>by simp at h
 | x :: nZ,b :: uZ,nd,hl,hm=>by
  have nd:=List.nodup_cons.mp nd
  have e1:∀ v:List (List Nat),row (x :: nZ) v=((v.count x:Nat):Int) :: row nZ v:=fun v=>rfl
  rw [e1,e1,ij,ij]
  by_cases hx:x=m
  ·subst hx
   have e2:row nZ (w++[x])=row nZ w:=by
    unfold row
    refine List.map_congr_left fun y hy=>?_
    have hne:y≠x:=fun h=>nd.1 (h▸hy)
    rw [List.count_append,List.count_cons_of_ne (fun h=>hne h.symm),List.count_nil,Nat.add_zero]
   rw [e2,List.count_append,List.count_singleton_self,List.idxOf_cons_self,List.getD_cons_zero]
   have:(((w.count x + 1:Nat)):Int)=(w.count x:Int) + 1:=by lia
   rw [this,Int.add_mul]
   lia
  ·have hm:=(List.mem_cons.mp hm).resolve_left fun h=>hx h.symm
   have ih:=oB w m nZ uZ nd.2 (by simpa using hl) hm
   rw [ih,List.count_append,List.count_cons_of_ne (fun h=>hx h.symm),List.count_nil,Nat.add_zero,List.idxOf_cons,beq_false_of_ne hx,cond_false,List.getD_cons_succ]
   lia
theorem tG:∀ (l:List (Int×Int)) (uZ:List Int),dot (l.map fun p=>p.1 - p.2) uZ=dot (l.map fun p=>p.1) uZ - dot (l.map fun p=>p.2) uZ
 | [],uZ=>rfl
 | p :: l,[]=>rfl
 | p :: l,b :: uZ=>by
  rw [List.map_cons,List.map_cons,List.map_cons,ij,ij,ij,tG l uZ,Int.sub_mul]
  lia
theorem vy (nZ:List (List Nat)) (N:List Nd) (a:Arc) (uZ:List Int) (nd:nZ.Nodup) (hl:uZ.length=nZ.length) (hm:a.2.1∈nZ):dot (sW nZ N a) uZ=dot (row nZ (aV N a.1)) uZ + uZ.getD (nZ.idxOf a.2.1) 0 - dot (row nZ (aV N a.2.2)) uZ:=by
 rw [←oB _ _ nZ uZ nd hl hm]
 unfold sW
 rw [tG,List.map_map,List.map_map]
 rfl
theorem Cs (ns:List Int) (nZ:List (List Nat)) (hn:nZ.length≤3):∃ uZ:List Int,uZ.length=nZ.length∧df [.lst (ns.map D.int),.tup (nZ.map D.str)]=.ok (.l .f,.lst (uZ.map D.int)):=by
 have c2:au [.lst (ns.map D.int),.int 2]=.ok (.f,.int (cell ns 2)):=iY ns 2
 have c3:au [.lst (ns.map D.int),.int 3]=.ok (.f,.int (cell ns 3)):=iY ns 3
 have c8:au [.lst (ns.map D.int),.int 8]=.ok (.f,.int (cell ns 8)):=iY ns 8
 have p30:qx (.int 10) (.int 30)=.ok (.f,.int (10 ^ 30)):=CI 30 (by decide)
 have p29:qx (.int 10) (.int 29)=.ok (.f,.int (10 ^ 29)):=CI 29 (by decide)
 have hc:dt (aB 0) ik (aA qw (ao (aA dF (ao (cP au (ah (av 1) (ah (ao (aA cS (ao (aE (.int 9))) (av 0))) az)))) (ao (aA qx (ao (aE (.int 10))) (ao (aE (.int 30))))))) (ao (aA qx (ao (aE (.int 10))) (ao (aE (.int 29)))))) ((List.range 5).map fun (k:Nat)=>D.int (k:Int)) [none,some (.f,.lst (ns.map D.int))]=.ok (((List.range 5).map fun k=>cell ns (9 + k) % 10 ^ 30 - 10 ^ 29).map D.int):=by
  rw [c7 (r:=fun k:Nat=>D.int (cell ns (9 + k) % 10 ^ 30 - 10 ^ 29)) (fun env=>∃ t,env=[t,some (.f,.lst (ns.map D.int))]) (List.range 5) ?_ _ ⟨none,rfl⟩]
  ·rw [List.map_map]
   rfl
  ·rintro k _ env ⟨t,rfl⟩
   have ck:=iY ns (9 + k)
   rw [show ((9 + k:Nat):Int)=9 + (k:Int) by lia] at ck
   refine ⟨[some (.f,.int (k:Int)),some (.f,.lst (ns.map D.int))],rfl,.f,[some (.f,.int (k:Int)),some (.f,.lst (ns.map D.int))],?_,_,rfl⟩
   simp only [pv,↓reduceIte,Nat.reduceAdd,Nat.reduceLT,Nat.reduceLeDiff,Nat.reduceEqDiff,op,ck,p30,p29,fg _ (10 ^ 30) (by decide)]
 have hfar:((List.range 5).map fun k=>cell ns (9 + k) % 10 ^ 30 - 10 ^ 29).length=5:=rfl
 unfold df kK
 rw [bM (h:=by rfl)]
 generalize ((List.range 5).map fun k=>cell ns (9 + k) % 10 ^ 30 - 10 ^ 29)=far at hc hfar
 have hlen:(far.map D.int).length≤sizeLine:=b9 (by rw [List.length_map];lia)
 have hff:=flat_ints far
 rw [ay (env':=[some (.f,.lst (ns.map D.int)),some (.f,.tup (nZ.map D.str)),some (.l .f,.lst (far.map D.int)),none]) (by
  generalize (aA qw (ao (aA dF (ao (cP au (ah (av 1) (ah (ao (aA cS (ao (aE (.int 9))) (av 0))) az)))) (ao (aA qx (ao (aE (.int 10))) (ao (aE (.int 30))))))) (ao (aA qx (ao (aE (.int 10))) (ao (aE (.int 29))))))=FF at hc ⊢
  simp only [pv,↓reduceIte,Nat.reduceAdd,Nat.reduceLT,Nat.reduceLeDiff,Nat.reduceEqDiff,op]
  rw [if_pos (by decide)]
  simp only [pv,↓reduceIte,Nat.reduceAdd,Nat.reduceLT,Nat.reduceLeDiff,Nat.reduceEqDiff,op,show (5:Int).toNat=5 from rfl,hc,hlen,hff])]
 by_cases hA:cell ns 3 % 4 < 2∨(cell ns 8 % 3 == 0)=true
 ·refine ⟨far.take nZ.length,by rw [List.length_take];lia,?_⟩
  have hcut:i7 (far.map D.int) none (some (nZ.length:Int))=(far.take nZ.length).map D.int:=by rw [pI,List.map_take]
  by_cases h1:cell ns 3 % 4 < 2
  ·simp only [pv,↓reduceIte,Nat.reduceAdd,Nat.reduceLT,Nat.reduceLeDiff,Nat.reduceEqDiff,op,c3,fg _ 4 (by decide),h1,decide_true,List.length_map,hcut]
  ·have h2:=hA.resolve_left h1
   simp only [pv,↓reduceIte,Nat.reduceAdd,Nat.reduceLT,Nat.reduceLeDiff,Nat.reduceEqDiff,op,c3,c8,fg _ 4 (by decide),fg _ 3 (by decide),h1,h2,decide_false,Bool.false_eq_true,List.length_map,hcut]
 ·have h1:¬ cell ns 3 % 4 < 2:=fun h=>hA (.inl h)
  have h2:(cell ns 8 % 3 == 0)=false:=Bool.eq_false_iff.mpr fun h=>hA (.inr h)
  rw [ay (env':=[some (.f,.lst (ns.map D.int)),some (.f,.tup (nZ.map D.str)),some (.l .f,.lst (far.map D.int)),none]) (by simp only [pv,↓reduceIte,Nat.reduceAdd,Nat.reduceLT,Nat.reduceLeDiff,Nat.reduceEqDiff,op,c3,c8,fg _ 4 (by decide),fg _ 3 (by decide),h1,h2,decide_false,Bool.false_eq_true])]
  obtain ⟨far',hf',s1⟩:∃ far':List Int,far'.length=5∧sIf (eBl (b6 eqO (ao (aA dF (ao (cP au (ah (av 0) (ah (ao (aE (.int 8))) az)))) (ao (aE (.int 3))))) (ao (aE (.int 1))))) (sr 2 (aE (.int 4)) (aE (.int 0))) cU [some (.f,.lst (ns.map D.int)),some (.f,.tup (nZ.map D.str)),some (.l .f,.lst (far.map D.int)),none]=.ok (.nx [some (.f,.lst (ns.map D.int)),some (.f,.tup (nZ.map D.str)),some (.l .f,.lst (far'.map D.int)),none]):=by
   cases h3:(cell ns 8 % 3 == 1) with
   | true=>
    refine ⟨far.set 4 0,by rw [List.length_set];exact hfar,?_⟩
    have hix:ixN far.length (4:Int)=some 4:=ye far.length 4 (by lia)
    rw [List.map_set]
    simp only [pv,↓reduceIte,Nat.reduceAdd,Nat.reduceLT,Nat.reduceLeDiff,Nat.reduceEqDiff,op,c8,fg _ 3 (by decide),h3,List.length_map,hix]
   | false=>exact ⟨far,hfar,by simp only [pv,↓reduceIte,Nat.reduceAdd,Nat.reduceLT,Nat.reduceLeDiff,Nat.reduceEqDiff,op,c8,fg _ 3 (by decide),h3,Bool.false_eq_true]⟩
  rw [ay s1]
  obtain ⟨xs,hxs,ex⟩:=pL (cell ns 2) 40 (by lia)
  have ex:aY [.int (cell ns 2),.int 40]=.ok (.l .f,.lst (xs.map D.int)):=ex
  obtain ⟨t0,t1,s,gs,ys,b0,b1,bs0,bs1,hgl,hg,e⟩:=pN nZ.length (by lia) xs hxs
  have e:=jl (r:=(.f,.tup [.lst [.int t0,.int t1],eSp s,.lst (gs.map eSd)])) e
  have hfl:flatDs [.lst [.int t0,.int t1],eSp s,.lst (gs.map eSd)]=false:=rfl
  rw [ay (env':=[some (.f,.lst (ns.map D.int)),some (.f,.tup (nZ.map D.str)),some (.f,.lst (far'.map D.int)),some (.f,.lst (gs.map eSd))]) (by simp only [pv,↓reduceIte,Nat.reduceAdd,Nat.reduceLT,Nat.reduceLeDiff,Nat.reduceEqDiff,op,c2,ex,yg,pF,List.length_map,e,hfl,Bool.false_eq_true,Ci,Cj,at2])]
  have h3:atI (far'.map D.int) 3=some (.int (far'.getD 3 0)):=pH (k:=3) (by lia)
  have h4:atI (far'.map D.int) 4=some (.int (far'.getD 4 0)):=pH (k:=4) (by lia)
  have hc2:dt (aB 0) ik (aA cS (ao (aA m7 (ao (aA ixD (av 1) (ao (aE (.int 3))))) (ao (aA ixD (ao (aA ixD (av 0) (ao (aE (.int 0))))) (ao (aE (.int 2))))))) (ao (aA m7 (ao (aA ixD (av 1) (ao (aE (.int 4))))) (ao (aA ixD (ao (aA ixD (av 0) (ao (aE (.int 1))))) (ao (aE (.int 2)))))))) (gs.map eSd) [none,some (.f,.lst (far'.map D.int))]=.ok ((gs.map fun g=>far'.getD 3 0 * g.1.2.2 + far'.getD 4 0 * g.2.2.2).map D.int):=by
   rw [c7 (r:=fun g:Sd=>D.int (far'.getD 3 0 * g.1.2.2 + far'.getD 4 0 * g.2.2.2)) (fun env=>∃ t,env=[t,some (.f,.lst (far'.map D.int))]) gs ?_ _ ⟨none,rfl⟩]
   ·rw [List.map_map]
    rfl
   ·rintro g hgm env ⟨t,rfl⟩
    have hgg:=hg g hgm
    refine ⟨[some (.f,eSd g),some (.f,.lst (far'.map D.int))],rfl,.f,[some (.f,eSd g),some (.f,.lst (far'.map D.int))],?_,_,rfl⟩
    unfold eSd eG
    simp only [pv,↓reduceIte,Nat.reduceAdd,Nat.reduceLT,Nat.reduceLeDiff,Nat.reduceEqDiff,op,h3,h4,at2,sJ,j6 g.1.2.2 (by have:=hgg.1.1;lia) (by have:=hgg.1.1;lia),j6 g.2.2.2 (by have:=hgg.2.1;lia) (by have:=hgg.2.1;lia),Bool.or_true]
  have hgl2:((gs.map fun g=>far'.getD 3 0 * g.1.2.2 + far'.getD 4 0 * g.2.2.2).map D.int).length≤sizeLine:=b9 (by rw [List.length_map,List.length_map];lia)
  have hgf:=flat_ints (gs.map fun g=>far'.getD 3 0 * g.1.2.2 + far'.getD 4 0 * g.2.2.2)
  refine ⟨gs.map fun g=>far'.getD 3 0 * g.1.2.2 + far'.getD 4 0 * g.2.2.2,by rw [List.length_map];exact hgl,?_⟩
  generalize (aA cS (ao (aA m7 (ao (aA ixD (av 1) (ao (aE (.int 3))))) (ao (aA ixD (ao (aA ixD (av 0) (ao (aE (.int 0))))) (ao (aE (.int 2))))))) (ao (aA m7 (ao (aA ixD (av 1) (ao (aE (.int 4))))) (ao (aA ixD (ao (aA ixD (av 0) (ao (aE (.int 1))))) (ao (aE (.int 2))))))))=FF at hc2 ⊢
  simp only [pv,↓reduceIte,Nat.reduceAdd,Nat.reduceLT,Nat.reduceLeDiff,Nat.reduceEqDiff,op,hc2,hgl2,hgf]
theorem qr (nZ:List (List Nat)) (N:List Nd) (a:Arc) (hw:∀ s:Int,(aV N s).length≤1000):∀ x∈sW nZ N a,cn x=true:=by
 intro x hx
 unfold sW at hx
 obtain ⟨p,hp,rfl⟩:=List.mem_map.mp hx
 obtain ⟨m,_,rfl⟩:=List.mem_map.mp hp
 have h1:=List.count_le_length (a:=m) (l:=aV N a.1++[a.2.1])
 have h2:=List.count_le_length (a:=m) (l:=aV N a.2.2)
 have h3:=hw a.1
 have h4:=hw a.2.2
 rw [List.length_append,List.length_singleton] at h1
 refine j6 _ ?_ ?_ <;> dsimp only <;> lia
theorem tH (nZ w:List (List Nat)) (hw:w.length≤1000):∀ x∈row nZ w,cn x=true:=by
 intro x hx
 unfold row at hx
 obtain ⟨m,_,rfl⟩:=List.mem_map.mp hx
 have h1:=List.count_le_length (a:=m) (l:=w)
 exact mW _ (by lia)
theorem Bfs.way {arcs:List Arc} {N:List Nd} {T:List Arc} {i:Nat} (b:Bfs arcs i [] N T) (nd:(N.map (·.1)).Nodup) {a:Arc} (h:a∈T):aV N a.2.2=aV N a.1++[a.2.1]:=by
 obtain ⟨j,hj⟩:=List.mem_iff_getElem?.mp h
 obtain ⟨_,k,n,hk,hn,e,hn2⟩:=b.tr j a hj
 have e1:=lG nd (List.mem_of_getElem? hn)
 have e2:=lG nd (List.mem_of_getElem? hn2)
 dsimp only at e2
 rw [e,e1,e2]
noncomputable def th (nZ:List (List Nat)) (N:List Nd) (uZ:List Int) (s:Int):Int:=dot (row nZ (aV N s)) uZ
noncomputable def wg (nZ:List (List Nat)) (N:List Nd) (uZ:List Int) (a:Arc):Bool:=th nZ N uZ a.1 + uZ.getD (nZ.idxOf a.2.1) 0 == th nZ N uZ a.2.2
theorem oC {nZ:List (List Nat)} {arcs:List Arc} {N:List Nd} {T:List Arc} {i:Nat} (b:Bfs arcs i [] N T) (nd:(N.map (·.1)).Nodup) (nn:nZ.Nodup) (uZ:List Int) (hl:uZ.length=nZ.length) (hm:∀ a∈arcs,a.2.1∈nZ) (hT:∀ a∈T,a∈arcs) :
  (((((rgs nZ N T arcs).filter fun r=>!(dot r uZ == 0)).map fun r=>D.tup (r.map D.int)).length:Int) == 0)=arcs.all (wg nZ N uZ):=by
 rw [List.length_map,Bool.eq_iff_iff,beq_iff_eq,List.all_eq_true]
 have hdr:∀ a∈arcs,dot (sW nZ N a) uZ=th nZ N uZ a.1 + uZ.getD (nZ.idxOf a.2.1) 0 - th nZ N uZ a.2.2:=fun a ha=>vy nZ N a uZ nn hl (hm a ha)
 have hfi:∀ a∈arcs,(dot (sW nZ N a) uZ=0↔wg nZ N uZ a=true):=fun a ha=>by
  rw [hdr a ha]
  unfold wg
  rw [beq_iff_eq]
  lia
 constructor
 ·intro h a ha
  have h:(rgs nZ N T arcs).filter (fun r=>!(dot r uZ == 0))=[]:=List.eq_nil_of_length_eq_zero (by lia)
  rw [List.filter_eq_nil_iff] at h
  rw [←hfi a ha]
  by_cases hat:a∈T
  ·rw [hdr a ha]
   have:=b.way nd hat
   unfold th
   rw [this,oB _ _ nZ uZ nn hl (hm a ha)]
   lia
  ·have:=h (sW nZ N a) (List.mem_map.mpr ⟨a,List.mem_filter.mpr ⟨ha,by rw [decide_eq_false hat];rfl⟩,rfl⟩)
   simpa using this
 ·intro h
  have:(rgs nZ N T arcs).filter (fun r=>!(dot r uZ == 0))=[]:=by
   rw [List.filter_eq_nil_iff]
   intro r hr
   obtain ⟨a,ha,rfl⟩:=List.mem_map.mp hr
   have ha:=(List.mem_filter.mp ha).1
   have:=(hfi a ha).mpr (h a ha)
   simpa using this
  rw [this]
  rfl
theorem m5 (rows:List (List Int)):flatDs (rows.map fun r=>D.tup (r.map D.int))=true:=by
 rw [bC,List.all_map,List.all_eq_true]
 intro s _
 show cH (.tup _)=true
 rw [f6,flat_ints]
theorem yA {nZ : List (List Nat)} {m : List Nat} (h : m ∈ nZ) : qb (nZ.map D.str) [.str m] = .ok (.f, .int ((nZ.idxOf m : Nat) : Int)) := by
  first
    | (unfold qb
       dsimp only
       rw [d7]
       dsimp only
       rw [if_pos h])
    | (unfold qb
       simp only [d7, h, if_true])
theorem oD (rs:List (List Int)) (uZ:List Int) (hs:∀ r∈rs,(∀ x∈r,cn x=true)∧r.length≤1000):dt (aB 0) (eBl (b6 neO (ao (cP ba (ah (av 0) (ah (av 1) az)))) (ao (aE (.int 0))))) (aM 0) (rs.map fun r=>D.tup (r.map D.int)) [none,some (.f,.lst (uZ.map D.int))]=.ok ((rs.filter fun r=>!(dot r uZ == 0)).map fun r=>D.tup (r.map D.int)):=by
 refine pE (e:=fun r:List Int=>D.tup (r.map D.int)) (p:=fun r=>!(dot r uZ == 0)) (r:=fun r=>D.tup (r.map D.int)) (fun env=>∃ t1,env=[t1,some (.f,.lst (uZ.map D.int))]) rs ?_ _ ⟨none,rfl⟩
 rintro r hr env ⟨t1,rfl⟩
 have hst:=hs r hr
 have ht:=tF r uZ hst.2 hst.1
 refine ⟨[some (.f,.tup (r.map D.int)),some (.f,.lst (uZ.map D.int))],rfl,[some (.f,.tup (r.map D.int)),some (.f,.lst (uZ.map D.int))],?_,?_⟩
 ·simp only [pv,↓reduceIte,Nat.reduceAdd,Nat.reduceLT,Nat.reduceLeDiff,Nat.reduceEqDiff,op,ht]
 ·split
  ·exact ⟨.f,_,rfl,_,rfl⟩
  ·exact ⟨_,rfl⟩
theorem qu (nZ:List (List Nat)) (N:List Nd) (many:Nat) (uZ:List Int) (hn:nZ.length≤1000) (hw:∀ s:Int,(aV N s).length≤1000):dt (aB 0) ik (cP ba (ah (av 0) (ah (av 1) az))) ((List.range many).map fun (s:Nat)=>D.tup ((row nZ (aV N (s:Int))).map D.int)) [none,some (.f,.lst (uZ.map D.int))]=.ok (((List.range many).map fun (s:Nat)=>th nZ N uZ (s:Int)).map D.int):=by
 rw [c7 (r:=fun s:Nat=>D.int (th nZ N uZ (s:Int))) (fun env=>∃ t1,env=[t1,some (.f,.lst (uZ.map D.int))]) (List.range many) ?_ _ ⟨none,rfl⟩]
 ·rw [List.map_map]
  rfl
 ·rintro s _ env ⟨t1,rfl⟩
  have ht:=tF (row nZ (aV N (s:Int))) uZ (by unfold row;rw [List.length_map];exact hn) (tH nZ _ (hw _))
  refine ⟨[some (.f,.tup ((row nZ (aV N (s:Int))).map D.int)),some (.f,.lst (uZ.map D.int))],rfl,.f,[some (.f,.tup ((row nZ (aV N (s:Int))).map D.int)),some (.f,.lst (uZ.map D.int))],?_,_,rfl⟩
  simp only [pv,↓reduceIte,Nat.reduceAdd,Nat.reduceLT,Nat.reduceLeDiff,Nat.reduceEqDiff,op,ht]
  rfl
theorem Cu (A0 A3 A4 A5:Option R) (nZ:List (List Nat)) (arcs:List Arc) (N:List Nd) (many:Nat) (uZ:List Int) (hl:uZ.length=nZ.length) (a:Arc) (hm:a.2.1∈nZ) (hb:(0≤a.1∧a.1 < (many:Int))∧0≤a.2.2∧a.2.2 < (many:Int)) (bb:Bool) :
  jm [A0,some (.f,.tup [.tup (nZ.map D.str),.lst (arcs.map eA)]),some (.l .f,.lst (uZ.map D.int)),A3,A4,A5,some (.l .f,.lst (((List.range many).map fun (s:Nat)=>th nZ N uZ (s:Int)).map D.int)),some (.f,.bl bb),some (.f,.int a.1),some (.f,.str a.2.1),some (.f,.int a.2.2)]=.ok (.nx [A0,some (.f,.tup [.tup (nZ.map D.str),.lst (arcs.map eA)]),some (.l .f,.lst (uZ.map D.int)),A3,A4,A5,some (.l .f,.lst (((List.range many).map fun (s:Nat)=>th nZ N uZ (s:Int)).map D.int)),some (.f,.bl (bb && wg nZ N uZ a)),some (.f,.int a.1),some (.f,.str a.2.1),some (.f,.int a.2.2)]):=by
 have hat:∀ s:Int,0≤s→s < (many:Int)→atI (((List.range many).map fun (s:Nat)=>th nZ N uZ (s:Int)).map D.int) s=some (.int (th nZ N uZ s)):=fun s h0 h1=>by
  obtain ⟨k,rfl⟩:=Int.eq_ofNat_of_zero_le h0
  exact eg (by rw [List.getElem?_map,List.getElem?_map,List.getElem?_range (by lia)];rfl)
 have h1:=hat a.1 hb.1.1 hb.1.2
 have h2:=hat a.2.2 hb.2.1 hb.2.2
 have h3:=yA hm
 have h4:atI (uZ.map D.int) ((nZ.idxOf a.2.1:Nat):Int)=some (.int (uZ.getD (nZ.idxOf a.2.1) 0)):=pH (by rw [hl];exact List.idxOf_lt_length_of_mem hm)
 generalize ((List.range many).map fun (s:Nat)=>th nZ N uZ (s:Int)).map D.int=TH at h1 h2 ⊢
 unfold jm wg
 cases he:(th nZ N uZ a.1 + uZ.getD (nZ.idxOf a.2.1) 0 == th nZ N uZ a.2.2) with
 | true=>
  rw [Bool.and_true]
  simp only [pv,↓reduceIte,Nat.reduceAdd,Nat.reduceLT,Nat.reduceLeDiff,Nat.reduceEqDiff,op,h1,h2,h3,h4,he,Bool.not_true,Bool.false_eq_true]
 | false=>
  rw [Bool.and_false]
  simp only [pv,↓reduceIte,Nat.reduceAdd,Nat.reduceLT,Nat.reduceLeDiff,Nat.reduceEqDiff,op,h1,h2,h3,h4,he,Bool.not_false]
theorem tI:∀ ns:List Int,ns.length≤63→∃ o,xP [.lst (ns.map D.int)]=.ok (o,.bl true):=by
 intro ns _
 obtain ⟨nZ,arcs,C,nn,hnl,ew⟩:=yz ns
 obtain ⟨uZ,hnu,er⟩:=Cs ns nZ hnl
 have hal:=C.al
 have hst:=C.st
 obtain ⟨N,T,b,hrun,et,eww⟩:=sP nZ arcs (by lia) (fun a ha=>(C.bd a ha).2) C.all (by lia)
 have F:=b.found
 have hwl:∀ s:Int,(aV N s).length≤1000:=by
  intro s
  unfold aV
  cases hf:(N.find? fun n=>n.1 == s) with
  | none=>exact Nat.zero_le _
  | some n=>
   have:=F.wl n (List.mem_of_find?_eq_some hf)
   show n.2.length≤1000
   lia
 obtain ⟨many,em⟩:∃ many:Nat,(a7 arcs).toNat=many:=⟨_,rfl⟩
 rw [em] at eww
 have hbb:∀ a∈arcs,(0≤a.1∧a.1 < (many:Int))∧0≤a.2.2∧a.2.2 < (many:Int):=by
  intro a ha
  have h1:=C.bd a ha
  have h2:=sU ha
  lia
 have e2:=ox (by lia) (by lia) eww
 have eww2:bK [eCh nZ arcs]=.ok (.l .f,.lst (((List.range many).map fun (s:Nat)=>aV N (s:Int)).map wD)):=by
  rw [eww,List.map_map]
  rfl
 have e1:=qp eww2 et hbb hwl (by lia) (by lia)
 have hrl:∀ r∈rgs nZ N T arcs,r.length=nZ.length∧∀ x∈r,cn x=true:=by
  intro r hr
  obtain ⟨a,_,rfl⟩:=List.mem_map.mp hr
  refine ⟨?_,qr nZ N a hwl⟩
  unfold sW
  rw [List.length_map,List.length_map]
 have hir:=mX (rgs nZ N T arcs) nZ.length fun r hr=>(hrl r hr).1
 have hic:=mX ((List.range many).map fun (s:Nat)=>row nZ (aV N (s:Int))) nZ.length fun r hr=>by
  obtain ⟨s,_,rfl⟩:=List.mem_map.mp hr
  unfold row
  rw [List.length_map]
 rw [List.map_map] at hic
 have hic:bq [.lst ((List.range many).map fun (s:Nat)=>D.tup ((row nZ (aV N (s:Int))).map D.int)),.int (nZ.length:Int)]=.ok (.f,.bl true):=hic
 have hcc:=oD (rgs nZ N T arcs) uZ fun r hr=>⟨(hrl r hr).2,by have:=(hrl r hr).1;lia⟩
 have hct:=qu nZ N many uZ (by lia) hwl
 have hcf:=oC b F.nd nn uZ hnu C.nm (fun a ha=>by
  obtain ⟨j,hj⟩:=List.mem_iff_getElem?.mp ha
  exact (b.tr j a hj).1)
 have hf1:=m5 (rgs nZ N T arcs)
 have hf2:=wd nZ N many
 have hf3:=m5 ((rgs nZ N T arcs).filter fun r=>!(dot r uZ == 0))
 have hl3:(((rgs nZ N T arcs).filter fun r=>!(dot r uZ == 0)).map fun r=>D.tup (r.map D.int)).length≤sizeLine:=b9 (by
  rw [List.length_map]
  have h1:=List.length_filter_le (fun r=>!(dot r uZ == 0)) (rgs nZ N T arcs)
  have h2:=sY nZ N T arcs
  lia)
 have hf4:=flat_ints ((List.range many).map fun (s:Nat)=>th nZ N uZ (s:Int))
 have hl4:(((List.range many).map fun (s:Nat)=>th nZ N uZ (s:Int)).map D.int).length≤sizeLine:=b9 (by rw [List.length_map,List.length_map,List.length_range];lia)
 have hfn:=flat_ints uZ
 generalize ((rgs nZ N T arcs).filter fun r=>!(dot r uZ == 0)).map (fun r=>D.tup (r.map D.int))=CC at hcc hcf hf3 hl3
 generalize ((rgs nZ N T arcs).map fun r=>D.tup (r.map D.int))=RR at e1 hir hcc hf1
 generalize ((List.range many).map fun (s:Nat)=>D.tup ((row nZ (aV N (s:Int))).map D.int))=KK at e2 hic hct hf2
 unfold xP Am
 rw [bM (h:=by rfl)]
 rw [ay (env':=[some (.f,.lst (ns.map D.int)),some (.f,eCh nZ arcs),none,none,none,none,none,none,none,none,none]) (by
  simp only [pv,↓reduceIte,Nat.reduceAdd,Nat.reduceLT,Nat.reduceLeDiff,Nat.reduceEqDiff,op,ew]
  cases cH (eCh nZ arcs) <;> rfl)]
 unfold eCh at e1 e2 ⊢
 rw [ay (env':=[some (.f,.lst (ns.map D.int)),some (.f,.tup [.tup (nZ.map D.str),.lst (arcs.map eA)]),some (.l .f,.lst (uZ.map D.int)),none,none,none,none,none,none,none,none]) (by simp only [pv,↓reduceIte,Nat.reduceAdd,Nat.reduceLT,Nat.reduceLeDiff,Nat.reduceEqDiff,op,er,hfn])]
 rw [ay (env':=[some (.f,.lst (ns.map D.int)),some (.f,.tup [.tup (nZ.map D.str),.lst (arcs.map eA)]),some (.l .f,.lst (uZ.map D.int)),some (.l .f,.lst RR),none,none,none,none,none,none,none]) (by simp only [pv,↓reduceIte,Nat.reduceAdd,Nat.reduceLT,Nat.reduceLeDiff,Nat.reduceEqDiff,op,e1,hf1])]
 rw [ay (env':=[some (.f,.lst (ns.map D.int)),some (.f,.tup [.tup (nZ.map D.str),.lst (arcs.map eA)]),some (.l .f,.lst (uZ.map D.int)),some (.l .f,.lst RR),some (.l .f,.lst KK),none,none,none,none,none,none]) (by simp only [pv,↓reduceIte,Nat.reduceAdd,Nat.reduceLT,Nat.reduceLeDiff,Nat.reduceEqDiff,op,e2,hf2])]
 rw [ay (env':=[some (.f,.lst (ns.map D.int)),some (.f,.tup [.tup (nZ.map D.str),.lst (arcs.map eA)]),some (.l .f,.lst (uZ.map D.int)),some (.l .f,.lst RR),some (.l .f,.lst KK),none,none,none,none,none,none]) (by simp only [pv,↓reduceIte,Nat.reduceAdd,Nat.reduceLT,Nat.reduceLeDiff,Nat.reduceEqDiff,op,List.length_map,hir,hic,Bool.not_true,Bool.false_eq_true])]
 rw [ay (env':=[some (.f,.lst (ns.map D.int)),some (.f,.tup [.tup (nZ.map D.str),.lst (arcs.map eA)]),some (.l .f,.lst (uZ.map D.int)),some (.l .f,.lst RR),some (.l .f,.lst KK),some (.f,.bl ((CC.length:Int) == 0)),none,none,none,none,none]) (by
  generalize (eBl (b6 neO (ao (cP ba (ah (av 0) (ah (av 1) az)))) (ao (aE (.int 0)))))=GG at hcc ⊢
  simp only [pv,↓reduceIte,Nat.reduceAdd,Nat.reduceLT,Nat.reduceLeDiff,Nat.reduceEqDiff,op,hcc,hl3,hf3])]
 rw [ay (env':=[some (.f,.lst (ns.map D.int)),some (.f,.tup [.tup (nZ.map D.str),.lst (arcs.map eA)]),some (.l .f,.lst (uZ.map D.int)),some (.l .f,.lst RR),some (.l .f,.lst KK),some (.f,.bl ((CC.length:Int) == 0)),some (.l .f,.lst (((List.range many).map fun (s:Nat)=>th nZ N uZ (s:Int)).map D.int)),none,none,none,none]) (by
  generalize (((List.range many).map fun (s:Nat)=>th nZ N uZ (s:Int)).map D.int)=TH at hct hf4 hl4 ⊢
  generalize (cP ba (ah (av 0) (ah (av 1) az)))=GG at hct ⊢
  simp only [pv,↓reduceIte,Nat.reduceAdd,Nat.reduceLT,Nat.reduceLeDiff,Nat.reduceEqDiff,op,hct,hl4,hf4])]
 rw [ay (env':=[some (.f,.lst (ns.map D.int)),some (.f,.tup [.tup (nZ.map D.str),.lst (arcs.map eA)]),some (.l .f,.lst (uZ.map D.int)),some (.l .f,.lst RR),some (.l .f,.lst KK),some (.f,.bl ((CC.length:Int) == 0)),some (.l .f,.lst (((List.range many).map fun (s:Nat)=>th nZ N uZ (s:Int)).map D.int)),some (.f,.bl true),none,none,none]) (by simp only [pv,↓reduceIte,Nat.reduceAdd,Nat.reduceLT,Nat.reduceLeDiff,Nat.reduceEqDiff,op])]
 obtain ⟨env',ef,t8,t9,t10,rfl⟩:=for_list (a:=kl 3 (aK (aB 8) (aK (aB 9) (aK (aB 10) dX)))) (g:=jm) (e:=eA) arcs (fun j env=>∃ t8 t9 t10,env=[some (.f,.lst (ns.map D.int)),some (.f,.tup [.tup (nZ.map D.str),.lst (arcs.map eA)]),some (.l .f,.lst (uZ.map D.int)),some (.l .f,.lst RR),some (.l .f,.lst KK),some (.f,.bl ((CC.length:Int) == 0)),some (.l .f,.lst (((List.range many).map fun (s:Nat)=>th nZ N uZ (s:Int)).map D.int)),some (.f,.bl ((arcs.take j).all (wg nZ N uZ))),t8,t9,t10]) (by
  rintro j a env hj ⟨t8,t9,t10,rfl⟩
  have ham:=List.mem_of_getElem? hj
  have ht:arcs.take (j + 1)=arcs.take j++[a]:=by rw [List.take_add_one,hj];rfl
  refine ⟨[some (.f,.lst (ns.map D.int)),some (.f,.tup [.tup (nZ.map D.str),.lst (arcs.map eA)]),some (.l .f,.lst (uZ.map D.int)),some (.l .f,.lst RR),some (.l .f,.lst KK),some (.f,.bl ((CC.length:Int) == 0)),some (.l .f,.lst (((List.range many).map fun (s:Nat)=>th nZ N uZ (s:Int)).map D.int)),some (.f,.bl ((arcs.take j).all (wg nZ N uZ))),some (.f,.int a.1),some (.f,.str a.2.1),some (.f,.int a.2.2)],rfl,_,Cu _ _ _ _ nZ arcs N many uZ hnu a (C.nm a ham) (hbb a ham) _,some (.f,.int a.1),some (.f,.str a.2.1),some (.f,.int a.2.2),?_⟩
  rw [ht,List.all_append,List.all_cons,List.all_nil,Bool.and_true]) _ ⟨none,none,none,rfl⟩
 rw [List.take_zero,List.all_nil,List.take_length] at ef
 rw [ay (env':=_) (by
  unfold sv
  simp only [pv,↓reduceIte,Nat.reduceAdd,Nat.reduceLT,Nat.reduceLeDiff,Nat.reduceEqDiff,op]
  exact ef)]
 unfold pC
 rw [hcf]
 have hee:=sL (.bl (arcs.all (wg nZ N uZ))) rfl
 refine ⟨.f,?_⟩
 simp only [pv,↓reduceIte,Nat.reduceAdd,Nat.reduceLT,Nat.reduceLeDiff,Nat.reduceEqDiff,op,hee]
end LW
namespace FIN
open PySem PySem.Spec PyProof.Rows L2 NX PV LW
theorem Be {l:PySem.W.OpenLaw} {w:World} {K:W.Frag} {h:Heap} {mg:Str→Option Value} {fa f:Addr} {od an:Option Addr} {sl:Array (Option Value)} {oc kV dc pm cd ct:Value} (X:K.In h) (G:h.Ns mainGlobals mg) (hfa:mg "law" = some (.ref fa))
  (aL:PySem.W.nsIn K mainGlobals "law" = some (some (.ref f))) (lL:K.lookup f=some ⟨oc,od,.func (PySem.W.fnOf "law" "law" (eh lC) (cF lC) (defScope lC) .none kV dc pm an cd ct),sl⟩) (cL:PySem.W.codeIn K cd "law" = true) (kL:PySem.W.keepIn K (.ref f)=true)
  (D_states_of:Def K mg "states_of" gI) (D_tree_of:Def K mg "tree_of" jX) (D_less:Def K mg "less" sx) (D_ways_of:Def K mg "ways_of" jY) (D_counted:Def K mg "counted" jZ) (D_counts_of:Def K mg "counts_of" gJ) (D_rings_of:Def K mg "rings_of" iy) (D__law_cell_at:Def K mg "_law_cell_at" dP) (D__law_stream:Def K mg "_law_stream" eQ) (D__law_names:Def K mg "_law_names" fJ) (D__law_come_to:Def K mg "_law_come_to" dQ) (D__law_guards:Def K mg "_law_guards" eR) (D__law_gone:Def K mg "_law_gone" gK) (D__law_run:Def K mg "_law_run" iz) (D__law_few:Def K mg "_law_few" iA) (D__law_word:Def K mg "_law_word" gL) (D__law_fewer:Def K mg "_law_fewer" fL) (D__law_chart:Def K mg "_law_chart" fM) (D__law_is_whole:Def K mg "_law_is_whole" dA) (D__law_is_rows:Def K mg "_law_is_rows" dR) (D__law_taken:Def K mg "_law_taken" fO) (D__law_row:Def K mg "_law_row" iC)
  (z_bool:PySem.W.nsIn K mainGlobals "bool" = some none) (z_int:PySem.W.nsIn K mainGlobals "int" = some none) (z_isinstance:PySem.W.nsIn K mainGlobals "isinstance" = some none) (z_len:PySem.W.nsIn K mainGlobals "len" = some none) (z_list:PySem.W.nsIn K mainGlobals "list" = some none) (z_max:PySem.W.nsIn K mainGlobals "max" = some none) (z_min:PySem.W.nsIn K mainGlobals "min" = some none) (z_range:PySem.W.nsIn K mainGlobals "range" = some none) (z_sorted:PySem.W.nsIn K mainGlobals "sorted" = some none) (z_sum:PySem.W.nsIn K mainGlobals "sum" = some none) (z_tuple:PySem.W.nsIn K mainGlobals "tuple" = some none) (z_zip:PySem.W.nsIn K mainGlobals "zip" = some none) :
  ∃ fd:FuncData,(∀ (s:Shared) (v:Value),BindsTo s fd ⟨[v],[]⟩ [("_law_script",v)])∧∀ base:Heap,K.In base→base.Ns mainGlobals mg→FnOk l.prog w K mg base CX0 4 fa fd ["_law_script"] (uM K):=by
 have e:=hfa.symm.trans (PySem.W.mg_of X G aL)
 cases e
 have F:=vD (st:=lC) lL cL kL
 have y_bool:=PySem.W.mg_none_of X G z_bool
 have y_int:=PySem.W.mg_none_of X G z_int
 have y_isinstance:=PySem.W.mg_none_of X G z_isinstance
 have y_len:=PySem.W.mg_none_of X G z_len
 have y_list:=PySem.W.mg_none_of X G z_list
 have y_max:=PySem.W.mg_none_of X G z_max
 have y_min:=PySem.W.mg_none_of X G z_min
 have y_range:=PySem.W.mg_none_of X G z_range
 have y_sorted:=PySem.W.mg_none_of X G z_sorted
 have y_sum:=PySem.W.mg_none_of X G z_sum
 have y_tuple:=PySem.W.mg_none_of X G z_tuple
 have y_zip:=PySem.W.mg_none_of X G z_zip
 refine ⟨PySem.W.fnOf "law" "law" (eh lC) (cF lC) (defScope lC) .none kV dc pm an cd ct,fun s v=>.of_eq rfl,fun base _ _=>?_⟩
 have c_states_of:Ct l.prog w K mg base "states_of" 1 (spF K cI):=mP D_states_of y_max
 have c_tree_of:Ct l.prog w K mg base "tree_of" 1 (spF K bQ):=qf D_tree_of y_len
 have c_less:Ct l.prog w K mg base "less" 1 (spF K jT):=xR D_less y_tuple y_zip
 have c_ways_of:Ct l.prog w K mg base "ways_of" 2 (spF K bK):=qg D_ways_of c_states_of c_tree_of y_range
 have c_counted:Ct l.prog w K mg base "counted" 1 (spF K b7):=qi D_counted y_tuple
 have c_counts_of:Ct l.prog w K mg base "counts_of" 3 (spF K cJ):=mR D_counts_of c_counted c_ways_of
 have c_rings_of:Ct l.prog w K mg base "rings_of" 3 (spF K c9):=nV D_rings_of c_counted c_less c_tree_of c_ways_of
 have c__law_cell_at:Ct l.prog w K mg base "_law_cell_at" 1 (spF K au):=j3 D__law_cell_at y_len
 have c__law_stream:Ct l.prog w K mg base "_law_stream" 1 (spF K aY):=kn D__law_stream y_range
 have c__law_names:Ct l.prog w K mg base "_law_names" 1 (spF K cp):=lx D__law_names y_range y_sorted
 have c__law_come_to:Ct l.prog w K mg base "_law_come_to" 1 (spF K aZ):=j4 D__law_come_to y_len y_range
 have c__law_guards:Ct l.prog w K mg base "_law_guards" 1 (spM K (.l .f) bp):=ko D__law_guards y_max y_min y_range
 have c__law_gone:Ct l.prog w K mg base "_law_gone" 1 (spF K cf):=mS D__law_gone y_tuple y_zip
 have c__law_run:Ct l.prog w K mg base "_law_run" 2 (spF K cM):=nW D__law_run c__law_gone y_len y_sorted y_zip
 have c__law_few:Ct l.prog w K mg base "_law_few" 1 (spM K (.l .f) de):=nX D__law_few y_len y_range y_sorted
 have c__law_word:Ct l.prog w K mg base "_law_word" 1 (spM K (.l .f) cj):=mT D__law_word y_len y_range y_sorted
 have c__law_fewer:Ct l.prog w K mg base "_law_fewer" 2 (spF K cq):=ly D__law_fewer c__law_come_to y_len
 have c__law_chart:Ct l.prog w K mg base "_law_chart" 3 (spF K cu):=lz D__law_chart c__law_cell_at c__law_few c__law_fewer c__law_guards c__law_names c__law_run c__law_stream c__law_word y_len y_tuple
 have c__law_is_whole:Ct l.prog w K mg base "_law_is_whole" 1 (spF K a9):=jb D__law_is_whole y_bool y_int y_isinstance
 have c__law_is_rows:Ct l.prog w K mg base "_law_is_rows" 2 (spF K bq):=j5 D__law_is_rows c__law_is_whole y_isinstance y_len y_list y_tuple
 have c__law_taken:Ct l.prog w K mg base "_law_taken" 1 (spF K ba):=lB D__law_taken y_sum y_zip
 have c__law_row:Ct l.prog w K mg base "_law_row" 2 (spF K df):=nY D__law_row c__law_cell_at c__law_guards c__law_stream y_len y_range
 exact (An F c__law_chart c__law_is_rows c__law_row c__law_taken c_counts_of c_rings_of y_len y_list).imp (z8 tI)
end FIN
open PySem PySem.W PyProof.Rows
set_option maxRecDepth 100000 in
set_option maxHeartbeats 0 in
theorem PySem.Challenge.cw_netfinder_k34_rings_and_arcs_holds : PySem.Challenge.rw_netfinder_k34_rings_and_arcs.Holds := by
  w_on; o_law; k_head; (case hw => w_witness2)
  k_fill
  refine PV.Dq (l := PySem.Challenge.rw_netfinder_k34_rings_and_arcs) (k := 4) (x := "_law_script") rfl rfl ⟨rfl, by decide, by decide⟩ (fun w h Y => PySem.W.kIn_of Y) ?F
  case F =>
    intro w mg fa h KX G hmg
    refine' FIN.Be KX G hmg ?aL ?lL ?cL ?kL ?D_states_of ?D_tree_of ?D_less ?D_ways_of ?D_counted ?D_counts_of ?D_rings_of ?D__law_cell_at ?D__law_stream ?D__law_names ?D__law_come_to ?D__law_guards ?D__law_gone ?D__law_run ?D__law_few ?D__law_word ?D__law_fewer ?D__law_chart ?D__law_is_whole ?D__law_is_rows ?D__law_taken ?D__law_row ?z_bool ?z_int ?z_isinstance ?z_len ?z_list ?z_max ?z_min ?z_range ?z_sorted ?z_sum ?z_tuple ?z_zip
    (case aL => k_is); (case lL => k_is); (case cL => k_is); (case kL => k_is)
    (case D_states_of => (refine' PV.bY KX G ?a ?l ?c ?k; (case a => k_is); (case l => k_is); (case c => k_is); (case k => k_is)))
    (case D_tree_of => (refine' PV.bY KX G ?a ?l ?c ?k; (case a => k_is); (case l => k_is); (case c => k_is); (case k => k_is)))
    (case D_less => (refine' PV.bY KX G ?a ?l ?c ?k; (case a => k_is); (case l => k_is); (case c => k_is); (case k => k_is)))
    (case D_ways_of => (refine' PV.bY KX G ?a ?l ?c ?k; (case a => k_is); (case l => k_is); (case c => k_is); (case k => k_is)))
    (case D_counted => (refine' PV.bY KX G ?a ?l ?c ?k; (case a => k_is); (case l => k_is); (case c => k_is); (case k => k_is)))
    (case D_counts_of => (refine' PV.bY KX G ?a ?l ?c ?k; (case a => k_is); (case l => k_is); (case c => k_is); (case k => k_is)))
    (case D_rings_of => (refine' PV.bY KX G ?a ?l ?c ?k; (case a => k_is); (case l => k_is); (case c => k_is); (case k => k_is)))
    (case D__law_cell_at => (refine' PV.bY KX G ?a ?l ?c ?k; (case a => k_is); (case l => k_is); (case c => k_is); (case k => k_is)))
    (case D__law_stream => (refine' PV.bY KX G ?a ?l ?c ?k; (case a => k_is); (case l => k_is); (case c => k_is); (case k => k_is)))
    (case D__law_names => (refine' PV.bY KX G ?a ?l ?c ?k; (case a => k_is); (case l => k_is); (case c => k_is); (case k => k_is)))
    (case D__law_come_to => (refine' PV.bY KX G ?a ?l ?c ?k; (case a => k_is); (case l => k_is); (case c => k_is); (case k => k_is)))
    (case D__law_guards => (refine' PV.bY KX G ?a ?l ?c ?k; (case a => k_is); (case l => k_is); (case c => k_is); (case k => k_is)))
    (case D__law_gone => (refine' PV.bY KX G ?a ?l ?c ?k; (case a => k_is); (case l => k_is); (case c => k_is); (case k => k_is)))
    (case D__law_run => (refine' PV.bY KX G ?a ?l ?c ?k; (case a => k_is); (case l => k_is); (case c => k_is); (case k => k_is)))
    (case D__law_few => (refine' PV.bY KX G ?a ?l ?c ?k; (case a => k_is); (case l => k_is); (case c => k_is); (case k => k_is)))
    (case D__law_word => (refine' PV.bY KX G ?a ?l ?c ?k; (case a => k_is); (case l => k_is); (case c => k_is); (case k => k_is)))
    (case D__law_fewer => (refine' PV.bY KX G ?a ?l ?c ?k; (case a => k_is); (case l => k_is); (case c => k_is); (case k => k_is)))
    (case D__law_chart => (refine' PV.bY KX G ?a ?l ?c ?k; (case a => k_is); (case l => k_is); (case c => k_is); (case k => k_is)))
    (case D__law_is_whole => (refine' PV.bY KX G ?a ?l ?c ?k; (case a => k_is); (case l => k_is); (case c => k_is); (case k => k_is)))
    (case D__law_is_rows => (refine' PV.bY KX G ?a ?l ?c ?k; (case a => k_is); (case l => k_is); (case c => k_is); (case k => k_is)))
    (case D__law_taken => (refine' PV.bY KX G ?a ?l ?c ?k; (case a => k_is); (case l => k_is); (case c => k_is); (case k => k_is)))
    (case D__law_row => (refine' PV.bY KX G ?a ?l ?c ?k; (case a => k_is); (case l => k_is); (case c => k_is); (case k => k_is)))
    (case z_bool => k_is)
    (case z_int => k_is)
    (case z_isinstance => k_is)
    (case z_len => k_is)
    (case z_list => k_is)
    (case z_max => k_is)
    (case z_min => k_is)
    (case z_range => k_is)
    (case z_sorted => k_is)
    (case z_sum => k_is)
    (case z_tuple => k_is)
    (case z_zip => k_is)
