import PyProof.Rows.All
import Wide.All
import OpenK.AllK
import Wide.FinOn
import Lean
import PyProof.EqAt
import PyProof.EqKinds
import PyProof.TupleCall
import PySem.Challenge.RW_netfinder_k50_places_that_let_go
set_option Elab.async false
set_option linter.all false
set_option maxRecDepth 100000
set_option compiler.extract_closed false
set_option bootstrap.genMatcherCode false
noncomputable section
namespace L2
open PySem PySem.Spec PyProof.Rows
def IsTupN (h:Heap) (a:Addr) (items:Array Value):Prop:=∃ o,h.get? a=some o∧o.cls=.type "tuple"∧(∃ n,o.data=.seq items n)∧o.dict=none
theorem IsTupN.tup {h:Heap} {a:Addr} {items:Array Value} (p:IsTupN h a items):IsTup h a items:=by
 obtain ⟨o,e,c,n,_⟩:=p
 exact ⟨o,e,c,n⟩
theorem IsTupN.new (h:Heap) (items:Array Value):IsTupN (h.push { cls:=.type "tuple",data:=.seq items }) h.objs.size items:=⟨_,Heap.get?_push_size _ rfl,rfl,⟨_,rfl⟩,rfl⟩
abbrev Key:=Sum Int Str
noncomputable def qJ:Key→Value→Bool
 | .inl k,v=>Value.isInt k v
 | .inr x,v=>Value.isStrOf x v
noncomputable def C0 (w:World):Key→Int
 | .inl k=>hashInt k
 | .inr x=>hashStr w x
theorem bW:∀ {k:Key} {v:Value},qJ k v=true→(∃ i t,k=Sum.inl i∧v=Value.int i t)∨(∃ x t,k=Sum.inr x∧v=Value.str x t)
 | .inl i,v,h=>by
  obtain ⟨t,e⟩:=Value.isInt_shape (k:=i) (v:=v) h
  exact .inl ⟨i,t,rfl,e⟩
 | .inr x,v,h=>by
  obtain ⟨t,e⟩:=Value.isStrOf_shape (x:=x) (v:=v) h
  exact .inr ⟨x,t,rfl,e⟩
theorem rJ (i:Int) (t:Tok):qJ (.inl i) (.int i t)=true:=by simp [qJ,Value.isInt]
theorem rK (x:Str) (t:Tok):qJ (.inr x) (.str x t)=true:=by simp [qJ,Value.isStrOf]
theorem yV (a b:Int):decide ((Sum.inl a:Key)=Sum.inl b)=(a == b):=by
 by_cases e:a=b
 ·subst e;simp
 ·have h:¬ (Sum.inl a:Key)=Sum.inl b:=fun q=>e (Sum.inl.inj q)
  rw [decide_eq_false h]
  exact (beq_eq_false_iff_ne.mpr e).symm
theorem yW (a b:Str):decide ((Sum.inr a:Key)=Sum.inr b)=decide (a=b):=by
 by_cases e:a=b
 ·subst e;simp
 ·have h:¬ (Sum.inr a:Key)=Sum.inr b:=fun q=>e (Sum.inr.inj q)
  rw [decide_eq_false h,decide_eq_false e]
theorem yX (a:Int) (b:Str):decide ((Sum.inl a:Key)=Sum.inr b)=false:=decide_eq_false (fun q=>nomatch q)
theorem yY (a:Str) (b:Int):decide ((Sum.inr a:Key)=Sum.inl b)=false:=decide_eq_false (fun q=>nomatch q)
noncomputable def mixKind (prog:Program) (w:World):PySem.KeyKind prog w Key where
 is:=qJ
 hash:=C0 w
 inj:=fun v a b ha hb=>by
  rcases bW ha with ⟨i,t,rfl,rfl⟩ | ⟨x,t,rfl,rfl⟩
  ·rcases bW hb with ⟨j,u,rfl,e⟩ | ⟨y,u,rfl,e⟩
   ·injection e with e1 _;rw [e1]
   ·exact nomatch e
  ·rcases bW hb with ⟨j,u,rfl,e⟩ | ⟨y,u,rfl,e⟩
   ·exact nomatch e
   ·injection e with e1 _;rw [e1]
 byValue:=fun k v h=>by
  rcases bW h with ⟨i,t,rfl,rfl⟩ | ⟨x,t,rfl,rfl⟩ <;> rfl
 pyHash:=fun hv h=>by
  rcases bW hv with ⟨i,t,rfl,rfl⟩ | ⟨x,t,rfl,rfl⟩
  ·exact wpAny_pyHash_int h
  ·exact wpAny_pyHash_str h
 eqBool:=fun hu hv h=>by
  rcases bW hu with ⟨i,t,rfl,rfl⟩ | ⟨x,t,rfl,rfl⟩
  ·rcases bW hv with ⟨j,u,rfl,rfl⟩ | ⟨y,u,rfl,rfl⟩
   ·rw [yV] at h;exact wpAny_eqBool_int h
   ·rw [yX] at h;exact SeqAt.EqAt.int_str i t y u _ _ _ _ h
  ·rcases bW hv with ⟨j,u,rfl,rfl⟩ | ⟨y,u,rfl,rfl⟩
   ·rw [yY] at h;exact SeqAt.EqAt.str_int x t j u _ _ _ _ h
   ·rw [yW] at h;exact wpAny_eqBool_str h
 «strs»:=fun k x t v h=>by
  rcases bW h with ⟨i,u,rfl,e⟩ | ⟨y,u,rfl,e⟩
  ·exact nomatch e
  ·injection e with e1 _
   subst e1
   cases v <;> rfl
theorem oR (prog:Program) (w:World) (i:Int) (t:Tok):(mixKind prog w).is (.inl i) (.int i t)=true:=rJ i t
theorem oS (prog:Program) (w:World) (x:Str) (t:Tok):(mixKind prog w).is (.inr x) (.str x t)=true:=rK x t
inductive V where
 | non | bl (b:Bool) | int (i:Int) | str (x:Str) | byt (b:Array UInt8) | flt (b:UInt64) | ref (a:Addr) | ty (n:String)
 deriving DecidableEq
noncomputable def RelV:V→Value→Prop
 | .non,u=>u=Value.none
 | .bl b,u=>u=Value.bool b
 | .int i,u=>∃ t,u=Value.int i t
 | .str x,u=>∃ t,u=Value.str x t
 | .byt b,u=>∃ t,u=Value.bytes b t
 | .flt b,u=>∃ t,u=Value.float b t
 | .ref a,u=>u=Value.ref a
 | .ty n,u=>u=Value.type n
abbrev Vals:List V→List Value→Prop:=Paired RelV
theorem Vals.length {xs:List V} {us:List Value} (r:Vals xs us):xs.length=us.length:=Paired.length r
theorem Vals.get:∀ {xs:List V} {us:List Value} {i:Nat} {x:V},Vals xs us→xs[i]?=some x→∃ u,us[i]?=some u∧RelV x u
 | _,_,_,_,.nil,e=>by simp at e
 | _,_,0,_,.cons r _,e=>by simp at e;subst e;exact ⟨_,rfl,r⟩
 | _,_,i + 1,x,.cons _ t,e=>by
  obtain ⟨u,h1,h2⟩:=Vals.get (i:=i) (x:=x) t (by simpa using e)
  exact ⟨u,by simpa using h1,h2⟩
theorem Vals.set {x:V} {u:Value} (r:RelV x u):∀ {xs:List V} {us:List Value} (i:Nat),Vals xs us→Vals (xs.set i x) (us.set i u)
 | _,_,_,.nil=>.nil
 | _,_,0,.cons _ t=>.cons r t
 | _,_,i + 1,.cons q t=>.cons q (Vals.set r i t)
theorem Vals.append:∀ {xs ys:List V} {us ws:List Value},Vals xs us→Vals ys ws→Vals (xs++ys) (us++ws)
 | _,_,_,_,.nil,s=>s
 | _,_,_,_,.cons r t,s=>.cons r (Vals.append t s)
theorem Vals.take:∀ {xs:List V} {us:List Value} (n:Nat),Vals xs us→Vals (xs.take n) (us.take n)
 | _,_,0,_=>.nil
 | _,_,_ + 1,.nil=>.nil
 | _,_,n + 1,.cons r t=>.cons r (Vals.take n t)
theorem Vals.drop:∀ {xs:List V} {us:List Value} (n:Nat),Vals xs us→Vals (xs.drop n) (us.drop n)
 | _,_,0,r=>r
 | _,_,_ + 1,.nil=>.nil
 | _,_,n + 1,.cons _ t=>Vals.drop n t
theorem Vals.none_of:∀ {xs:List V} {us:List Value} {i:Nat},Vals xs us→xs[i]?=none→us[i]?=none:=fun {xs us i} r e=>by
 have h1:=r.length
 have h2:xs.length≤i:=List.getElem?_eq_none_iff.mp e
 exact List.getElem?_eq_none_iff.mpr (by lia)
noncomputable def RelO:Option V→Option Value→Prop
 | some v,some u=>RelV v u
 | none,none=>True
 | _,_=>False
noncomputable def KV {κ:Type}:List (κ×V)→List (κ×Value)→Prop:=Paired fun (p:κ×V) (q:κ×Value)=>p.1=q.1∧RelV p.2 q.2
noncomputable def kV:Key→V
 | .inl i=>.int i
 | .inr x=>.str x
inductive HO where
 | lst (xs:List V)
 | tup (xs:List V)
 | dK (DT:List (Key×V)) | dT (DT:List (List Key×V))
 | set (S:Int→Bool) (n:Nat)
 | ins (C dx:Addr) (fs:List (Str×V))
 | own (x:Addr)
 | xd (fs:List (Str×V))
 | met (f x:Addr)
 | rng (lo hi:Int)
 | frz (o:Obj) (u:HO)
 | tbl (ps:Array Value)
 | ext (φ:Heap→Prop)
abbrev Hp:=Addr→Option HO
noncomputable def upd (H:Hp) (a:Addr) (o:HO):Hp:=fun b=>if b=a then some o else H b
theorem bI {H:Hp} {a:Addr} {o:HO}:upd H a o a=some o:=by unfold upd;rw [if_pos rfl]
theorem aP {H:Hp} {a b:Addr} {o:HO} (h:b≠a):upd H a o b=H b:=by unfold upd;rw [if_neg h]
theorem Bv {H:Hp} {a b:Addr} {o u:HO} (h:H a=some o) (h':H b=some u) (d:o≠u):a≠b:=by
 intro e;subst e;rw [h] at h';exact d (Option.some.inj h')
theorem a9 {H:Hp} {a b:Addr} {o:HO} (h:H a=some o) (h':H b=none):a≠b:=by
 intro e;subst e;rw [h] at h';cases h'
section
variable (P:Program) (w:World)
noncomputable def ObjOk (H:Hp) (h:Heap) (a:Addr):HO→Prop
 | .lst xs=>xs.length≤sizeLine∧∃ (DS:List Value) (n:Nat),Vals xs DS∧h.get? a=some { cls:=.type "list",data:=.seq DS.toArray n }
 | .tup xs=>xs.length≤sizeLine∧∃ DS:List Value,Vals xs DS∧IsTupN h a DS.toArray
 | .dK DT=>DT.length≤sizeLine∧(a == sysModules)=false∧∃ vs,KV DT vs∧h.DictOf (mixKind P w) a vs
 | .dT DT=>DT.length≤sizeLine∧(a == sysModules)=false∧∃ xs:List (List Key×Addr×Value),
   Paired (fun (p:List Key×V) (q:List Key×Addr×Value)=>p.1=q.1∧H q.2.1=some (.tup (p.1.map kV))∧RelV p.2 q.2.2) DT xs∧
   ∃ o es ep,h.get? a=some o∧o.ExactDict∧o.data=.dict es ep∧es.toList=xs.map (entryOfKey (tupleKind (mixKind P w)))∧(xs.map (·.1)).Nodup
 | .set S n=>h.SetOf (intKind P w) a S n
 | .ins C dx fs=>H dx=some (.own a)∧fs.length≤1000∧dx≠a∧h.get? a=some (PySem.W.instObj C dx)∧
   ∃ mA,h.Ns1 dx mA∧(∀ f,RelO (fs.lookup f) (mA f))∧PySem.Within mA (fs.map (·.1))
 | .own _=>∃ o,h.get? a=some o
 | .xd fs=>∃ mA,h.Ns1 a mA∧∀ f,RelO (fs.lookup f) (mA f)
 | .rng lo hi=>∃ t u v,h.get? a=some { cls:=.type "range",data:=.fields #[.int lo t,.int hi u,.int 1 v] }
 | .frz o u=>h.get? a=some o∧ObjOk H h a u
 | .tbl ps=>h.get? a=some { cls:=.none,data:=.fields ps }
 | .met f x=>h.get? a=some (PySem.W.methodObj (.ref f) (.ref x))
 | .ext φ=>φ h∧(∃ o,h.get? a=some o)∧∀ h1 h2:Heap,φ h1→(∀ o,h1.get? a=some o→h2.get? a=some o)→φ h2
def HOk (H:Hp) (h:Heap):Prop:=∀ a o,H a=some o→ObjOk P w H h a o
end
section
variable {P:Program} {w:World} {H H':Hp} {h h':Heap} {a:Addr} {o:HO}
theorem ObjOk.lt (x:ObjOk P w H h a o):a < h.objs.size:=by
 cases o with
 | lst xs=>obtain ⟨_,_,_,_,e⟩:=x;exact Heap.lt_size e
 | tup xs=>obtain ⟨_,_,_,p⟩:=x;exact p.tup.lt
 | dK DT=>obtain ⟨_,_,_,_,o,_,_,e,_⟩:=x;exact Heap.lt_size e
 | dT DT=>obtain ⟨_,_,_,_,o,_,_,e,_⟩:=x;exact Heap.lt_size e
 | set S n=>obtain ⟨o,_,_,_,e,_⟩:=x;exact Heap.lt_size e
 | ins C dx fs=>obtain ⟨_,_,_,e,_⟩:=x;exact Heap.lt_size e
 | own y=>obtain ⟨_,e⟩:=x;exact Heap.lt_size e
 | xd fs=>obtain ⟨_,⟨_,_,_,e,_⟩,_⟩:=x;exact Heap.lt_size e
 | rng lo hi=>obtain ⟨_,_,_,e⟩:=x;exact Heap.lt_size e
 | frz ob u=>obtain ⟨e,_⟩:=x;exact Heap.lt_size e
 | tbl ps=>exact Heap.lt_size (show h.get? a=some _ from x)
 | met f y=>exact Heap.lt_size (show h.get? a=some _ from x)
 | ext φ=>obtain ⟨_,⟨_,e⟩,_⟩:=x;exact Heap.lt_size e
theorem Paired.mapP {α β:Type} {F G:α→β→Prop}:∀ {l₁:List α} {l₂:List β},Paired F l₁ l₂→(∀ a b,F a b→G a b)→Paired G l₁ l₂
 | _,_,.nil,_=>.nil
 | _,_,.cons r t,f=>.cons (f _ _ r) (Paired.mapP t f)
theorem ObjOk.stay (x:ObjOk P w H h a o) (k:∀ b u,(b=a∨H b=some (.own a))→h.get? b=some u→h'.get? b=some u)
  (ho:∀ b,H b=some (.own a)→H' b=some (.own a)) (ht:∀ b xs,H b=some (.tup xs)→H' b=some (.tup xs)):ObjOk P w H' h' a o:=by
 induction o with
 | lst xs=>obtain ⟨z,DS,n,r,e⟩:=x;exact ⟨z,DS,n,r,k _ _ (.inl rfl) e⟩
 | tup xs=>obtain ⟨z,DS,r,ob,e,c⟩:=x;exact ⟨z,DS,r,ob,k _ _ (.inl rfl) e,c⟩
 | dK DT=>obtain ⟨z,y,vs,r,ob,es,ep,e,c⟩:=x;exact ⟨z,y,vs,r,ob,es,ep,k _ _ (.inl rfl) e,c⟩
 | dT DT=>
  obtain ⟨z,y,xs,r,ob,es,ep,e,c⟩:=x
  exact ⟨z,y,xs,Paired.mapP r fun p q z=>⟨z.1,ht _ _ z.2.1,z.2.2⟩,ob,es,ep,k _ _ (.inl rfl) e,c⟩
 | set S n=>obtain ⟨ob,es,ep,t,e,c⟩:=x;exact ⟨ob,es,ep,t,k _ _ (.inl rfl) e,c⟩
 | ins C dx fs=>
  obtain ⟨d,z,ne,e,mA,⟨od,es,ep,e2,c⟩,r⟩:=x
  exact ⟨ho _ d,z,ne,k _ _ (.inl rfl) e,mA,⟨od,es,ep,k _ _ (.inr d) e2,c⟩,r⟩
 | own y=>obtain ⟨ob,e⟩:=x;exact ⟨ob,k _ _ (.inl rfl) e⟩
 | xd fs=>obtain ⟨mA,⟨od,es,ep,e,c⟩,r⟩:=x;exact ⟨mA,⟨od,es,ep,k _ _ (.inl rfl) e,c⟩,r⟩
 | rng lo hi=>obtain ⟨t,u,v,e⟩:=x;exact ⟨t,u,v,k _ _ (.inl rfl) e⟩
 | frz ob u ih=>obtain ⟨e,q⟩:=x;exact ⟨k _ _ (.inl rfl) e,ih q⟩
 | tbl ps=>
  have e:h.get? a=some { cls:=.none,data:=.fields ps }:=x
  show h'.get? a=some { cls:=.none,data:=.fields ps }
  exact k a _ (.inl rfl) e
 | met f y=>
  have e:h.get? a=some (PySem.W.methodObj (.ref f) (.ref y)):=x
  show h'.get? a=some (PySem.W.methodObj (.ref f) (.ref y))
  exact k a _ (.inl rfl) e
 | ext φ=>obtain ⟨p,⟨o,e⟩,st⟩:=x;exact ⟨st _ _ p fun o q=>k _ _ (.inl rfl) q,⟨o,k _ _ (.inl rfl) e⟩,st⟩
theorem HOk.lt (x:HOk P w H h) (e:H a=some o):a < h.objs.size:=(x a o e).lt
theorem HOk.fresh (x:HOk P w H h) (e:h.objs.size≤a):H a=none:=by
 cases q:H a with
 | none=>rfl
 | some u=>exact absurd (Nat.lt_of_lt_of_le (x.lt q) e) (Nat.lt_irrefl _)
theorem HOk.kept (x:HOk P w H h) (k:∀ b u,h.get? b=some u→h'.get? b=some u):HOk P w H h':=fun a o e=>
 (x a o e).stay (fun b u _ q=>k b u q) (fun _ q=>q) fun _ _ q=>q
theorem HOk.laid (x:HOk P w H h) (k:∀ b u,h.get? b=some u→h'.get? b=some u) (hp:h.objs.size≤a) (new:ObjOk P w (upd H a o) h' a o):HOk P w (upd H a o) h':=fun b u e=>by
 have hn:=x.fresh hp
 by_cases hb:b=a
 ·subst hb;rw [bI] at e;cases e;exact new
 ·rw [aP hb] at e
  exact (x b u e).stay (fun c v _ q=>k c v q) (fun c q=>by rw [aP (a9 q hn)];exact q) fun c xs q=>by rw [aP (a9 q hn)];exact q
end
def Rd (H:Hp) (a:Addr) (u:HO):Prop:=H a=some u∨∃ o,H a=some (.frz o u)
theorem Rd.ok {P:Program} {w:World} {H:Hp} {h:Heap} {a:Addr} {u:HO} (r:Rd H a u) (x:HOk P w H h):ObjOk P w H h a u:=by
 rcases r with r | ⟨o,r⟩
 ·exact x a u r
 ·obtain ⟨_,q⟩:=x a _ r
  exact q
noncomputable def LL:Option HO→Prop
 | some (.lst _)=>True
 | some (.dK _)=>True
 | some (.dT _)=>True
 | some (.set _ _)=>True
 | some (.ins _ _ _)=>True
 | some (.ext _)=>True
 | _=>False
section
variable {P:Program} {w:World} {H:Hp} {h h':Heap} {x e:Addr} {o':HO}
theorem HOk.write (ok:HOk P w H h) (mu:LL (H x)) (he:e=x∨H e=some (.own x)) (k:∀ b u,b≠e→h.get? b=some u→h'.get? b=some u) (Lu:∃ u,h'.get? e=some u)
  (new:ObjOk P w (upd H x o') h' x o'):HOk P w (upd H x o') h':=fun b u q=>by
 have HQ:∀ c y,H c=some (.own y)→c≠x:=fun c y r z=>by subst z;rw [r] at mu;exact mu
 have ntup:∀ c xs,H c=some (.tup xs)→c≠x:=fun c xs r z=>by subst z;rw [r] at mu;exact mu
 by_cases hb:b=x
 ·subst hb;rw [bI] at q;cases q;exact new
 ·rw [aP hb] at q
  by_cases hbe:b=e
  ·have q':H b=some (.own x):=by
    rcases he with z | z
    ·exact absurd (hbe.trans z) hb
    ·rw [hbe];exact z
   rw [q] at q';cases q'
   obtain ⟨v,hv⟩:=Lu
   exact ⟨v,by rw [hbe];exact hv⟩
  ·refine (ok b u q).stay (fun c v hc r=>k c v ?_ r) (fun c r=>by rw [aP (HQ c b r)];exact r) fun c xs r=>by rw [aP (ntup c xs r)];exact r
   rcases hc with rfl | hc
   ·exact hbe
   ·rintro rfl
    rcases he with z | z
    ·exact HQ c b hc z
    ·rw [hc] at z;cases z;exact hb rfl
end
structure Un (fs ex:List Addr) (H H':Hp) (h h':Heap):Prop where
 keep:∀ b o,h.get? b=some o→H b=none→b∉fs→b∉ex→h'.get? b=some o
 slot:∀ b o,h.get? b=some o→H b=none→b∈fs→b∉ex→∃ sl,h'.get? b=some { o with slots:=sl }
 free:∀ b o,h.get? b=some o→H b=none→b∉ex→H' b=none
 there:∀ b o,h.get? b=some o→b∉ex→∃ o',h'.get? b=some o'
 tups:∀ b xs,H b=some (.tup xs)→H' b=some (.tup xs)
 frzs:∀ b o u,H b=some (.frz o u)→H' b=some (.frz o u)
 tbls:∀ b ps,H b=some (.tbl ps)→∃ more,H' b=some (.tbl (ps++more))
section
variable {fs fs' ex ex':List Addr} {H H1 H2:Hp} {h h1 h2 h':Heap} {a x e:Addr} {o:HO}
theorem Un.any (u:Un fs ex H H1 h h1) {b:Addr} {ob:Obj} (q:h.get? b=some ob) (n:H b=none) (hx:b∉ex):∃ sl,h1.get? b=some { ob with slots:=sl }:=by
 by_cases hb:b∈fs
 ·exact u.slot b ob q n hb hx
 ·exact ⟨ob.slots,u.keep b ob q n hb hx⟩
theorem Un.trans (a:Un fs ex H H1 h h1) (b:Un fs ex H1 H2 h1 h2):Un fs ex H H2 h h2 where
 keep:=fun c ob q n hc hx=>b.keep c ob (a.keep c ob q n hc hx) (a.free c ob q n hx) hc hx
 slot:=fun c ob q n hc hx=>by
  obtain ⟨sl,e1⟩:=a.slot c ob q n hc hx
  obtain ⟨NF,e2⟩:=b.slot c _ e1 (a.free c ob q n hx) hc hx
  exact ⟨NF,e2⟩
 free:=fun c ob q n hx=>by
  obtain ⟨o',e1⟩:=a.there c ob q hx
  exact b.free c o' e1 (a.free c ob q n hx) hx
 there:=fun c ob q hx=>by
  obtain ⟨o',e1⟩:=a.there c ob q hx
  exact b.there c o' e1 hx
 tups:=fun c xs q=>b.tups c xs (a.tups c xs q)
 frzs:=fun c ob xs q=>b.frzs c ob xs (a.frzs c ob xs q)
 tbls:=fun c ps q=>by
  obtain ⟨m1,e1⟩:=a.tbls c ps q
  obtain ⟨m2,e2⟩:=b.tbls c _ e1
  exact ⟨m1++m2,by rw [e2,Array.append_assoc]⟩
theorem Un.kept (k:∀ b u,h.get? b=some u→h'.get? b=some u):Un fs ex H H h h':=
 ⟨fun b ob q _ _ _=>k b ob q,fun b ob q _ _ _=>⟨ob.slots,k b ob q⟩,fun _ _ _ n _=>n,fun b ob q _=>⟨ob,k b ob q⟩,fun _ _ q=>q,fun _ _ _ q=>q,fun _ ps q=>⟨#[],by rw [q];simp⟩⟩
theorem Un.refl:Un fs ex H H h h:=Un.kept fun _ _ q=>q
theorem Un.laid (k:∀ b u,h.get? b=some u→h'.get? b=some u) (hp:h.objs.size≤a) (hn:H a=none):Un fs ex H (upd H a o) h h' where
 keep:=fun b u q _ _ _=>k b u q
 slot:=fun b u q _ _ _=>⟨u.slots,k b u q⟩
 free:=fun b u q n _=>by rw [aP (Nat.ne_of_lt (Nat.lt_of_lt_of_le (Heap.lt_size q) hp))];exact n
 there:=fun b u q _=>⟨u,k b u q⟩
 tups:=fun b xs q=>by rw [aP (a9 q hn)];exact q
 frzs:=fun b u xs q=>by rw [aP (a9 q hn)];exact q
 tbls:=fun b ps q=>⟨#[],by rw [aP (a9 q hn),q];simp⟩
theorem Un.write (mu:LL (H x)) (he:e=x∨H e=some (.own x)) (k:∀ b u,b≠e→h.get? b=some u→h'.get? b=some u) (Lu:∃ u,h'.get? e=some u):Un fs ex H (upd H x o) h h':=by
 have hx:∀ b,H b=none→b≠x:=fun b n z=>by subst z;rw [n] at mu;exact mu
 have hb:∀ b,H b=none→b≠e:=fun b n z=>by
  subst z
  rcases he with r | r
  ·exact hx b n r
  ·rw [n] at r;cases r
 have hm:∀ b u,H b=some u→¬ LL (some u)→b≠x:=fun b u q nm z=>by subst z;rw [q] at mu;exact nm mu
 refine ⟨fun b u q n _ _=>k b u (hb b n) q,fun b u q n _ _=>⟨u.slots,k b u (hb b n) q⟩,fun b u q n _=>by rw [aP (hx b n)];exact n,fun b u q _=>?_,
  fun b xs q=>by rw [aP (hm b _ q fun z=>z)];exact q,fun b u xs q=>by rw [aP (hm b _ q fun z=>z)];exact q,fun b ps q=>⟨#[],by rw [aP (hm b _ q fun z=>z),q];simp⟩⟩
 by_cases hbe:b=e
 ·subst hbe;exact Lu
 ·exact ⟨u,k b u hbe q⟩
end
noncomputable def trk (h:Heap) (H:Hp):List Addr:=(List.range h.objs.size).filter fun a=>(H a).isSome
noncomputable def uK (h:Heap) (H:Hp):Heap:=PySem.W.hideAll h (trk h H)
theorem rL (h:Heap) (H:Hp):(uK h H).objs.size=h.objs.size:=PySem.W.hideAll_size _ _
theorem uL {h:Heap} {H:Hp} {b:Addr} {o:Obj} (e:h.get? b=some o) (n:H b=none):(uK h H).get? b=some o:=
 PySem.W.hideAll_get _ e fun hm=>by
  have q:(H b).isSome=true:=(List.mem_filter.mp hm).2
  rw [n] at q;simp at q
theorem wO {h:Heap} {H:Hp} {b:Addr} {o:Obj} (e:(uK h H).get? b=some o):h.get? b=some o∧H b=none:=by
 have e':h.get? b=some o:=PySem.W.of_hideAll (trk h H) e
 refine ⟨e',?_⟩
 cases q:H b with
 | none=>rfl
 | some x=>
  have hm:b∈trk h H:=List.mem_filter.mpr ⟨List.mem_range.mpr (Heap.lt_size e'),by simp [q]⟩
  have z:(uK h H).get? b=none:=PySem.W.hideAll_none (trk h H) hm
  rw [z] at e;cases e
noncomputable def wQ (g h:Heap) (L:Addr):List (Addr×Obj):=(List.range h.objs.size).filterMap fun a=>if a=L∨(g.get? a).isSome=true then none else (h.get? a).map fun o=>(a,o)
noncomputable def eL (g h:Heap) (L d:Addr):List (Addr×Obj):=(wQ g h L).filter fun p=>decide (p.1≠d)
structure Mod (K:W.Frag) (mg:Str→Option Value) (base:Heap):Prop where
 kin:K.In base
 glob:base.Ns mainGlobals mg
 blt:∃ mb,base.Ns builtinsNs mb∧∀ x:Str,x≠"__name__"→mb x=bootBuiltins x
 nolimit:base.NoLimit
structure Cx where
 prog:Program
 w:World
 K:W.Frag
 mg:Str→Option Value
 base:Heap
 A:Around
 N:List Str
 s₀:Shared
 H₀:Hp
 env:Env
 outer:List Env
 stack:List Env
 ex:List Addr
 fn:Str→Bool
 calm:Bool
 pn:List (Addr×Obj)
 xe:Value→Shared→Prop
noncomputable def Iw (l:List Env):List Addr:=l.filterMap (·.frame)
abbrev Cx.fs (X:Cx):List Addr:=Iw X.outer
def NG (sc:Scope) (x:Str):Prop:=sc.names.lookup x=some .local∨sc.names.lookup x=some .cell∨sc.names.lookup x=some .free
def Loc (sc:Scope) (x:Str):Prop:=sc.names.lookup x=some .local∨sc.names.lookup x=some .cell
noncomputable def CO (sc:Scope) (x:Str):Bool:=match sc.names.lookup x with
 | some .local=>true
 | some .cell=>true
 | _=>false
theorem lo {sc:Scope} {x:Str} (h:CO sc x=true):Loc sc x:=by
 unfold CO at h
 split at h
 ·exact .inl (by assumption)
 ·exact .inr (by assumption)
 ·cases h

def C1 (env:Env) (h:Heap) (m:Str→Option Value) (x:Str) (u:Value):Prop:=
 (env.kindOf x=some .local∧m x=some u)∨((env.kindOf x=some .cell∨env.kindOf x=some .free)∧∃ c,env.cells.lookup x=some c∧h.IsCell c (some u))
structure Cx.Ok (X:Cx):Prop where
 mod:Mod X.K X.mg X.base
 kind:X.env.scope.kind=.function
 glob:X.env.globals=mainGlobals
 blt:X.env.builtins=builtinsNs
 above:X.s₀.heap.objs.size≤X.env.locals
 inj:∀ x y c,X.env.cells.lookup x=some c→X.env.cells.lookup y=some c→x=y
 has:∀ x,(X.env.kindOf x=some .cell∨X.env.kindOf x=some .free)→∃ c,X.env.cells.lookup x=some c
 cab:∀ x c,X.fn x=true→X.env.cells.lookup x=some c→X.s₀.heap.objs.size≤c
 hd:X.calm=true→X.A.handled=none
 frames:X.A.frames=some X.stack
 stk:X.stack=X.outer∨(X.stack=X.env :: X.outer∧X.env.frame=some X.env.locals)
 exf:∀ b∈X.ex,b≠X.env.locals∧∀ x c,X.env.cells.lookup x=some c→c≠b
 bs:∀ b o,X.base.get? b=some o→X.s₀.heap.get? b=some o∧X.H₀ b=none
 bsz:X.base.objs.size≤X.s₀.heap.objs.size
 noex:∀ b o,X.base.get? b=some o→b∉X.ex
 exfs:∀ b∈X.ex,b∉X.fs
 funs:X.s₀.heap.FunFrames X.base X.outer
 frf:∀ b∈X.fs,X.H₀ b=none
structure Inv (X:Cx) (pins:List (Addr×Obj)) (σ:List (Option V)) (H:Hp) (s:Shared):Prop where
 ok:X.Ok
 os:s.os=X.s₀.os
 bare:AllBare s.gens
 base:Un X.fs X.ex X.H₀ H X.s₀.heap s.heap
 loc:∃ m,s.heap.Ns X.env.locals m∧∀ (i:Nat) (x:Str) (v:V),X.N[i]?=some x→σ[i]?=some (some v)→NG X.env.scope x→∃ u,RelV v u∧C1 X.env s.heap m x u
 cell:∀ x c,X.env.cells.lookup x=some c→∃ v,s.heap.IsCell c v
 free:H X.env.locals=none
 freeC:∀ x c,X.env.cells.lookup x=some c→H c=none
 pin:∀ p∈X.pn++pins,s.heap.get? p.1=some p.2∧H p.1=none∧p.1≠X.env.locals∧p.1∉X.fs∧∀ v,p.2.data≠.cell v
 hok:HOk X.prog X.w H s.heap
 len:σ.length=X.N.length
section
variable {X:Cx} {pins:List (Addr×Obj)} {σ:List (Option V)} {H H':Hp} {s:Shared} {h':Heap}
theorem Cx.Ok.nofr (ok:X.Ok) {b:Addr} {o:Obj} (e:X.base.get? b=some o):b∉X.fs:=fun hb=>by
 have:=(ok.funs.mem hb).1
 rw [e] at this;cases this
theorem Inv.bs (I:Inv X pins σ H s):∀ b o,X.base.get? b=some o→s.heap.get? b=some o∧H b=none:=fun b o e=>
 ⟨I.base.keep b o (I.ok.bs b o e).1 (I.ok.bs b o e).2 (I.ok.nofr e) (I.ok.noex b o e),I.base.free b o (I.ok.bs b o e).1 (I.ok.bs b o e).2 (I.ok.noex b o e)⟩
theorem Inv.bk (I:Inv X pins σ H s):∀ b o,X.base.get? b=some o→s.heap.get? b=some o:=fun b o e=>(I.bs b o e).1
theorem Inv.mod (I:Inv X pins σ H s):Mod X.K X.mg X.base:=I.ok.mod
theorem Inv.kIn (I:Inv X pins σ H s):X.K.In s.heap:=I.ok.mod.kin.keeps I.bk
theorem Inv.lt (I:Inv X pins σ H s):X.env.locals < s.heap.objs.size:=let ⟨_,hn,_⟩:=I.loc;hn.lt
theorem Inv.sz (I:Inv X pins σ H s):X.s₀.heap.objs.size≤s.heap.objs.size:=Nat.le_trans I.ok.above (Nat.le_of_lt I.lt)
theorem Inv.nofs (I:Inv X pins σ H s) {a:Addr} (h:s.heap.objs.size≤a):a∉X.fs:=fun hb=>by
 obtain ⟨_,o,ho,_⟩:=I.ok.funs.mem hb
 exact absurd (Nat.lt_of_lt_of_le (Heap.lt_size ho) (Nat.le_trans I.sz h)) (Nat.lt_irrefl _)
theorem Inv.cne (I:Inv X pins σ H s):∀ x c,X.env.cells.lookup x=some c→c≠X.env.locals:=fun x c e z=>by
 obtain ⟨v,o,ho,hd⟩:=I.cell x c e
 obtain ⟨m,⟨o',es,ep,Jw,Ky,_⟩,_⟩:=I.loc
 rw [z,Jw] at ho;cases ho;rw [Ky] at hd;cases hd
theorem Inv.funs (I:Inv X pins σ H s):s.heap.FunFrames X.base X.outer:=by
 have all:∀ (l:List Env),(∀ b∈Iw l,b∈X.fs)→X.s₀.heap.FunFrames X.base l→s.heap.FunFrames X.base l:=by
  intro l
  induction l with
  | nil=>intro _ _;trivial
  | cons env r ih=>
   intro hs hl
   obtain ⟨hk,⟨L,o,hf,hn,ho,hd⟩,hr⟩:=hl
   have hL:L∈X.fs:=hs L (by unfold Iw;rw [List.filterMap_cons,hf];exact List.mem_cons_self)
   obtain ⟨sl,e⟩:=I.base.slot L o ho (I.ok.frf L hL) hL fun z=>I.ok.exfs L z hL
   exact ⟨hk,⟨L,_,hf,hn,e,hd⟩,ih (fun b hb=>hs b (by unfold Iw;rw [List.filterMap_cons,hf];exact List.mem_cons_of_mem _ hb)) hr⟩
 exact all X.outer (fun _ hb=>hb) I.ok.funs
theorem Inv.stack (I:Inv X pins σ H s):s.heap.FunFrames X.base X.stack:=by
 rcases I.ok.stk with e | ⟨e,hf⟩
 ·rw [e];exact I.funs
 ·rw [e]
  obtain ⟨m,hn,_⟩:=I.loc
  refine .cons (by rw [I.ok.kind];decide) hf hn ?_ I.funs
  exact Heap.get?_none_of_le (Nat.le_trans I.ok.bsz I.ok.above)
theorem Inv.stkSub (I:Inv X pins σ H s):∀ b∈Iw X.stack,b∈X.env.locals :: X.fs:=fun b hb=>by
 rcases I.ok.stk with e | ⟨e,hf⟩
 ·rw [e] at hb;exact List.mem_cons_of_mem _ hb
 ·rw [e] at hb
  unfold Iw at hb
  rw [List.filterMap_cons,hf] at hb
  exact hb
theorem Inv.stkFree (I:Inv X pins σ H s):∀ b∈Iw X.stack,H b=none:=fun b hb=>by
 rcases List.mem_cons.mp (I.stkSub b hb) with e | hb
 ·rw [e];exact I.free
 ·obtain ⟨_,o,ho,_⟩:=I.ok.funs.mem hb
  exact I.base.free b o ho (I.ok.frf b hb) fun z=>I.ok.exfs b z hb
theorem Inv.step {g':Array GenState} {t':Nat} {d':Drawn} {ch:List Addr} (I:Inv X pins σ H s)
  (Jk:∀ b∈ch,(b∈X.ex∨X.s₀.heap.objs.size≤b)∧b≠X.env.locals∧(∀ x c,X.env.cells.lookup x=some c→c≠b)∧∀ p∈X.pn++pins,p.1≠b)
  (keep:∀ b o,b≠X.env.locals→b∉X.fs→b∉ch→s.heap.get? b=some o→H b=none→h'.get? b=some o)
  (slot:∀ b o,b≠X.env.locals→b∈X.fs→b∉ch→s.heap.get? b=some o→H b=none→∃ sl,h'.get? b=some { o with slots:=sl }) (free:∀ b o,b∉ch→s.heap.get? b=some o→H b=none→H' b=none)
  (there:∀ b o,b∉ch→s.heap.get? b=some o→∃ o',h'.get? b=some o')
  (tups:∀ b xs,H b=some (.tup xs)→H' b=some (.tup xs)) (frzs:∀ b o u,H b=some (.frz o u)→H' b=some (.frz o u)) (tbls:∀ b ps,H b=some (.tbl ps)→∃ more,H' b=some (.tbl (ps++more)))
  (ns:∀ m,s.heap.Ns X.env.locals m→h'.Ns X.env.locals m) (hok:HOk X.prog X.w H' h') (hg:AllBare g') :
  Inv X pins σ H' { s with heap:=h',gens:=g',drawn:=d',toks:=t' }:=by
 have OA:∀ b o,X.s₀.heap.get? b=some o→b≠X.env.locals:=fun b o e=>Nat.ne_of_lt (Nat.lt_of_lt_of_le (Heap.lt_size e) I.ok.above)
 have Nb:∀ b o,X.s₀.heap.get? b=some o→b∉X.ex→b∉ch:=fun b o e hx hb=>by
  rcases (Jk b hb).1 with z | z
  ·exact hx z
  ·exact absurd (Nat.lt_of_lt_of_le (Heap.lt_size e) z) (Nat.lt_irrefl _)
 have cellK:∀ x c,X.env.cells.lookup x=some c→∀ v,s.heap.IsCell c v→h'.IsCell c v:=fun x c e v D6=>by
  obtain ⟨o,ho,hd⟩:=D6
  have LM:c∉ch:=fun z=>(Jk c z).2.2.1 x c e rfl
  by_cases hc:c∈X.fs
  ·obtain ⟨sl,q⟩:=slot c o (I.cne x c e) hc LM ho (I.freeC x c e)
   exact ⟨_,q,hd⟩
  ·exact ⟨o,keep c o (I.cne x c e) hc LM ho (I.freeC x c e),hd⟩
 refine ⟨I.ok,I.os,hg,⟨fun b o e n hb hx=>?_,fun b o e n hb hx=>?_,fun b o e n hx=>?_,fun b o e hx=>?_,fun b xs e=>tups b xs (I.base.tups b xs e),fun b o xs e=>frzs b o xs (I.base.frzs b o xs e),fun b ps e=>?_⟩,?_,fun x c e=>?_,?_,fun x c e=>?_,fun p hp=>?_,hok,I.len⟩
 ·exact keep b o (OA b o e) hb (Nb b o e hx) (I.base.keep b o e n hb hx) (I.base.free b o e n hx)
 ·obtain ⟨sl,e1⟩:=I.base.slot b o e n hb hx
  obtain ⟨NF,e2⟩:=slot b _ (OA b o e) hb (Nb b o e hx) e1 (I.base.free b o e n hx)
  exact ⟨NF,e2⟩
 ·obtain ⟨o',e1⟩:=I.base.there b o e hx
  exact free b o' (Nb b o e hx) e1 (I.base.free b o e n hx)
 ·obtain ⟨o',e1⟩:=I.base.there b o e hx
  exact there b o' (Nb b o e hx) e1
 ·obtain ⟨m1,e1⟩:=I.base.tbls b ps e
  obtain ⟨m2,e2⟩:=tbls b _ e1
  exact ⟨m1++m2,by rw [e2,Array.append_assoc]⟩
 ·obtain ⟨m,hn,hl⟩:=I.loc
  refine ⟨m,ns m hn,fun i x v e1 e2 e3=>?_⟩
  obtain ⟨u,r,l⟩:=hl i x v e1 e2 e3
  refine ⟨u,r,?_⟩
  rcases l with l | ⟨k,c,e,z⟩
  ·exact .inl l
  ·exact .inr ⟨k,c,e,cellK x c e _ z⟩
 ·obtain ⟨v,z⟩:=I.cell x c e
  exact ⟨v,cellK x c e v z⟩
 ·obtain ⟨m,⟨o,_,_,ho,_⟩,_⟩:=I.loc
  exact free _ o (fun z=>(Jk _ z).2.1 rfl) ho I.free
 ·obtain ⟨v,o,ho,hd⟩:=I.cell x c e
  exact free c o (fun z=>(Jk c z).2.2.1 x c e rfl) ho (I.freeC x c e)
 ·obtain ⟨e,n,ne,nf,d⟩:=I.pin p hp
  have LM:p.1∉ch:=fun z=>(Jk p.1 z).2.2.2 p hp rfl
  exact ⟨keep p.1 p.2 ne nf LM e n,free p.1 p.2 LM e n,ne,nf,d⟩
theorem Inv.un {t':Nat} (I:Inv X pins σ H s) (u:Un X.fs [] H H' s.heap h') (hok:HOk X.prog X.w H' h'):Inv X pins σ H' { s with heap:=h',toks:=t' }:=by
 obtain ⟨m,⟨o,es,ep,ho,r⟩,_⟩:=id I.loc
 obtain ⟨sl,hL⟩:=u.any ho I.free (by simp)
 exact I.step (g':=s.gens) (d':=s.drawn) (ch:=[]) (fun _ z=>nomatch z) (fun b o _ hb _ e n=>u.keep b o e n hb (by simp)) (fun b o _ hb _ e n=>u.slot b o e n hb (by simp)) (fun b o _ e n=>u.free b o e n (by simp)) (fun b o _ e=>u.there b o e (by simp)) u.tups u.frzs u.tbls (fun m' hm=>by
  obtain ⟨o',Kz,NH,Jw,r'⟩:=hm
  rw [ho] at Jw;cases Jw
  exact ⟨_,Kz,NH,hL,r'⟩) hok I.bare
theorem Inv.call {g':Array GenState} {t':Nat} {d':Drawn} {ch:List Addr} (I:Inv X pins σ H s) (u:Un (Iw X.stack) ch H H' s.heap h') (hok:HOk X.prog X.w H' h') (hg:AllBare g')
  (Jk:∀ b∈ch,(b∈X.ex∨X.s₀.heap.objs.size≤b)∧b≠X.env.locals∧(∀ x c,X.env.cells.lookup x=some c→c≠b)∧∀ p∈X.pn++pins,p.1≠b) :
  Inv X pins σ H' { s with heap:=h',gens:=g',drawn:=d',toks:=t' }:=by
 obtain ⟨m,⟨o,es,ep,ho,r⟩,_⟩:=id I.loc
 obtain ⟨sl,hL⟩:=u.any ho I.free fun z=>(Jk _ z).2.1 rfl
 exact I.step (ch:=ch) Jk (fun b o hL hb hc e n=>u.keep b o e n (fun z=>(List.mem_cons.mp (I.stkSub b z)).elim hL hb) hc) (fun b o _ _ hc e n=>u.any e n hc) (fun b o hc e n=>u.free b o e n hc) (fun b o hc e=>u.there b o e hc) u.tups u.frzs u.tbls (fun m' hm=>by
  obtain ⟨o',Kz,NH,Jw,r'⟩:=hm
  rw [ho] at Jw;cases Jw
  exact ⟨_,Kz,NH,hL,r'⟩) hok hg
theorem Inv.turned {t':Nat} {it:Addr} (I:Inv X pins σ H s) (k:∀ b o,b≠it→s.heap.get? b=some o→h'.get? b=some o) (hn:H it=none) (hL:it≠X.env.locals)
  (h1:it∈X.ex∨X.s₀.heap.objs.size≤it) (h2:∀ x c,X.env.cells.lookup x=some c→c≠it) (h3:∀ p∈X.pn++pins,p.1≠it):Inv X pins σ H { s with heap:=h',toks:=t' }:=by
 have OB:∀ b u,H b=some u→b≠it:=fun b u e z=>by rw [z,hn] at e;cases e
 refine I.step (g':=s.gens) (d':=s.drawn) (ch:=[it]) (fun b hb=>?_) (fun b o _ _ hc e _=>k b o (fun z=>hc (by simp [z])) e) (fun b o _ _ hc e _=>⟨o.slots,k b o (fun z=>hc (by simp [z])) e⟩) (fun _ _ _ _ n=>n)
  (fun b o hc e=>⟨o,k b o (fun z=>hc (by simp [z])) e⟩) (fun _ _ e=>e) (fun _ _ _ e=>e) (fun b ps e=>⟨#[],by rw [e];simp⟩) (fun m hm=>?_) (fun b u e=>?_) I.bare
 ·have e:b=it:=by simpa using hb
  subst e
  exact ⟨h1,hL,h2,h3⟩
 ·obtain ⟨o,es,ep,ho,r⟩:=hm
  exact ⟨o,es,ep,k _ o (Ne.symm hL) ho,r⟩
 ·refine (I.hok b u e).stay (fun c v hc q=>k c v ?_ q) (fun _ q=>q) fun _ _ q=>q
  rcases hc with z | z
  ·rw [z];exact OB b u e
  ·exact OB c _ z
theorem Inv.tok (I:Inv X pins σ H s) (t:Nat):Inv X pins σ H { s with toks:=t }:=I.un (h':=s.heap) (t':=t) Un.refl I.hok
theorem Inv.kept {t':Nat} (I:Inv X pins σ H s) (k:∀ b u,s.heap.get? b=some u→h'.get? b=some u):Inv X pins σ H { s with heap:=h',toks:=t' }:=I.un (Un.kept k) (I.hok.kept k)
theorem Inv.laid {a:Addr} {o:HO} {t':Nat} (I:Inv X pins σ H s) (k:∀ b u,s.heap.get? b=some u→h'.get? b=some u) (hp:s.heap.objs.size≤a) (new:ObjOk X.prog X.w (upd H a o) h' a o) :
  Inv X pins σ (upd H a o) { s with heap:=h',toks:=t' }:=I.un (Un.laid k hp (I.hok.fresh hp)) (I.hok.laid k hp new)
theorem Inv.write {x e:Addr} {o:HO} {t':Nat} (I:Inv X pins σ H s) (mu:LL (H x)) (he:e=x∨H e=some (.own x)) (k:∀ b u,b≠e→s.heap.get? b=some u→h'.get? b=some u) (Lu:∃ u,h'.get? e=some u)
  (new:ObjOk X.prog X.w (upd H x o) h' x o):Inv X pins σ (upd H x o) { s with heap:=h',toks:=t' }:=I.un (Un.write mu he k Lu) (I.hok.write mu he k Lu new)
theorem Inv.pins_of {Kh:List (Addr×Obj)} (I:Inv X pins σ H s) (h:∀ p∈Kh,s.heap.get? p.1=some p.2∧H p.1=none∧p.1≠X.env.locals∧p.1∉X.fs∧∀ v,p.2.data≠.cell v):Inv X Kh σ H s:=
 ⟨I.ok,I.os,I.bare,I.base,I.loc,I.cell,I.free,I.freeC,fun p hp=>(List.mem_append.mp hp).elim (fun z=>I.pin p (List.mem_append_left _ z)) (h p),I.hok,I.len⟩
theorem pN {N:List Str} (hN:N.Nodup) {i j:Nat} {x:Str} (a:N[i]?=some x) (b:N[j]?=some x):i=j:=by
 obtain ⟨h1,e1⟩:=List.getElem?_eq_some_iff.mp a
 obtain ⟨h2,e2⟩:=List.getElem?_eq_some_iff.mp b
 exact (List.getElem_inj hN).mp (e1.trans e2.symm)
theorem m7 {M:Model} {A:Around} {E:Value→Shared→Prop} {i:Nat} {x:Str} {v:V} {u:Value} {Q:Unit→Shared→Prop} (I:Inv X pins σ H s) (hN:X.N.Nodup) (hi:X.N[i]?=some x) (hx:Loc X.env.scope x) (r:RelV v u)
  (h:∀ s',Inv X pins (σ.set i (some v)) H s'→(∃ a,Heap.SameBut a s.heap s'.heap∧(a=X.env.locals∨X.env.cells.lookup x=some a))→Q () s') (hf:X.fn x=true∨X.env.scope.names.lookup x=some .local:=by first | exact .inl rfl | exact .inr rfl | assumption):wpAny M A (storeName X.env x u) Q E s:=by
 obtain ⟨m,hn,hl⟩:=id I.loc
 have hcls:(X.env.scope.kind == .class || (X.env.scope.kind == .module && X.env.locals != X.env.globals))=false:=by rw [I.ok.kind];rfl
 have hiσ:i < σ.length:=by rw [I.len];exact (List.getElem?_eq_some_iff.mp hi).1
 have cne:=I.cne
 have tracked:∀ {a:Addr} {h':Heap},(∃ o,s.heap.get? a=some o∧H a=none)→Heap.SameBut a s.heap h'→HOk X.prog X.w H h':=fun {a h'} ha hs b ob e=>by
  obtain ⟨_,_,Ki⟩:=ha
  refine (I.hok b ob e).stay (fun c w' hc q=>(hs.2 c ?_).trans q) (fun _ q=>q) fun _ _ q=>q
  rintro rfl
  rcases hc with rfl | hc
  ·rw [Ki] at e;cases e
  ·rw [Ki] at hc;cases hc
 rcases hx with hk | hk
 ·refine wpAny_storeName_local hk hn (fun h' hn' hs=>?_) hcls
  obtain ⟨oL,_,_,hoL,_⟩:=id hn
  refine h _ ⟨I.ok,I.os,I.bare,⟨fun b o e n hb hx=>?_,fun b o e n hb hx=>?_,I.base.free,fun b o e hx=>?_,I.base.tups,I.base.frzs,I.base.tbls⟩,⟨_,hn',fun j y v' e1 e2 e3=>?_⟩,fun y c e=>?_,I.free,I.freeC,fun p hp=>?_,tracked ⟨oL,hoL,I.free⟩ hs,by simpa using I.len⟩ ⟨_,hs,.inl rfl⟩
  ·exact (hs.2 b (Nat.ne_of_lt (Nat.lt_of_lt_of_le (Heap.lt_size e) I.ok.above))).trans (I.base.keep b o e n hb hx)
  ·obtain ⟨sl,e1⟩:=I.base.slot b o e n hb hx
   exact ⟨sl,(hs.2 b (Nat.ne_of_lt (Nat.lt_of_lt_of_le (Heap.lt_size e) I.ok.above))).trans e1⟩
  ·obtain ⟨o',e1⟩:=I.base.there b o e hx
   exact ⟨o',(hs.2 b (Nat.ne_of_lt (Nat.lt_of_lt_of_le (Heap.lt_size e) I.ok.above))).trans e1⟩
  ·by_cases hj:j=i
   ·subst hj
    rw [hi] at e1;cases e1
    rw [List.getElem?_set_self hiσ] at e2
    cases e2
    exact ⟨u,r,.inl ⟨hk,by simp⟩⟩
   ·rw [List.getElem?_set_ne (Ne.symm hj)] at e2
    obtain ⟨u',r',q⟩:=hl j y v' e1 e2 e3
    refine ⟨u',r',?_⟩
    rcases q with ⟨k,e⟩ | ⟨k,c,e,z⟩
    ·refine .inl ⟨k,?_⟩
     have:y≠x:=fun e=>hj (pN hN e1 (e▸hi))
     simp [this,e]
    ·exact .inr ⟨k,c,e,z.sameBut hs (cne y c e)⟩
  ·obtain ⟨w',z⟩:=I.cell y c e
   exact ⟨w',z.sameBut hs (cne y c e)⟩
  ·obtain ⟨e,n,ne,nf,d⟩:=I.pin p hp
   exact ⟨(hs.2 p.1 ne).trans e,n,ne,nf,d⟩
 ·have Jx:X.fn x=true:=by
   rcases hf with z | z
   ·exact z
   ·rw [z] at hk;cases hk
  obtain ⟨c,hc⟩:=I.ok.has x (.inl hk)
  obtain ⟨w',z⟩:=I.cell x c hc
  refine wpAny_storeName_cell I.ok.kind hk hc z (fun h' F2 hs=>?_)
  obtain ⟨oc,OC,hocd⟩:=id z
  refine h { s with heap:=h' } ⟨I.ok,I.os,I.bare,⟨fun b o e n hb hx=>?_,fun b o e n hb hx=>?_,I.base.free,fun b o e hx=>?_,I.base.tups,I.base.frzs,I.base.tbls⟩,⟨m,hn.sameBut hs (Ne.symm (cne x c hc)),fun j y v' e1 e2 e3=>?_⟩,fun y c' e=>?_,I.free,I.freeC,fun p hp=>?_,tracked ⟨oc,OC,I.freeC x c hc⟩ hs,by simpa using I.len⟩ ⟨c,hs,.inr hc⟩
  ·exact (hs.2 b (Nat.ne_of_lt (Nat.lt_of_lt_of_le (Heap.lt_size e) (I.ok.cab x c Jx hc)))).trans (I.base.keep b o e n hb hx)
  ·obtain ⟨sl,e1⟩:=I.base.slot b o e n hb hx
   exact ⟨sl,(hs.2 b (Nat.ne_of_lt (Nat.lt_of_lt_of_le (Heap.lt_size e) (I.ok.cab x c Jx hc)))).trans e1⟩
  ·obtain ⟨o',e1⟩:=I.base.there b o e hx
   exact ⟨o',(hs.2 b (Nat.ne_of_lt (Nat.lt_of_lt_of_le (Heap.lt_size e) (I.ok.cab x c Jx hc)))).trans e1⟩
  ·by_cases hj:j=i
   ·subst hj
    rw [hi] at e1;cases e1
    rw [List.getElem?_set_self hiσ] at e2
    cases e2
    exact ⟨u,r,.inr ⟨.inl hk,c,hc,F2⟩⟩
   ·rw [List.getElem?_set_ne (Ne.symm hj)] at e2
    obtain ⟨u',r',q⟩:=hl j y v' e1 e2 e3
    refine ⟨u',r',?_⟩
    rcases q with q | ⟨k,c',e,z'⟩
    ·exact .inl q
    ·refine .inr ⟨k,c',e,z'.sameBut hs ?_⟩
     rintro rfl
     exact hj (pN hN e1 (I.ok.inj _ _ _ e hc▸hi))
  ·by_cases LN:c'=c
   ·subst LN;exact ⟨_,F2⟩
   ·obtain ⟨w2,z2⟩:=I.cell y c' e
    exact ⟨w2,z2.sameBut hs LN⟩
  ·obtain ⟨e,n,ne,nf,d⟩:=I.pin p hp
   refine ⟨(hs.2 p.1 ?_).trans e,n,ne,nf,d⟩
   intro q
   rw [q,OC] at e
   have q':oc=p.2:=Option.some.inj e
   exact d w' (by rw [←q'];exact hocd)
theorem pO {M:Model} {A:Around} {E:Value→Shared→Prop} {i:Nat} {x:Str} {v:V} {u:Value} {Q:Unit→Shared→Prop} (I:Inv X pins σ H s) (hN:X.N.Nodup) (hi:X.N[i]?=some x) (hx:Loc X.env.scope x) (r:RelV v u)
  (h:∀ s',Inv X pins (σ.set i (some v)) H s'→Q () s') (hf:X.fn x=true∨X.env.scope.names.lookup x=some .local:=by first | exact .inl rfl | exact .inr rfl | assumption):wpAny M A (storeName X.env x u) Q E s:=
 m7 I hN hi hx r (fun s' I' _=>h s' I') hf
theorem Inv.call' {s':Shared} {ch:List Addr} (I:Inv X pins σ H s) (ho:s'.os=s.os) (u:Un (Iw X.stack) ch H H' s.heap s'.heap) (hok:HOk X.prog X.w H' s'.heap) (hg:AllBare s'.gens)
  (Jk:∀ b∈ch,(b∈X.ex∨X.s₀.heap.objs.size≤b)∧b≠X.env.locals∧(∀ x c,X.env.cells.lookup x=some c→c≠b)∧∀ p∈X.pn++pins,p.1≠b):Inv X pins σ H' s':=by
 obtain ⟨h',g',d',t',o'⟩:=s'
 have e:o'=s.os:=ho
 subst e
 exact I.call (g':=g') (t':=t') (d':=d') u hok hg Jk
end
abbrev XK:=Value→Option Addr→Hp→Prop
abbrev St:=List (Option V)
abbrev VK:=V→Hp→Prop
abbrev TE:=St→Hp→VK→Prop
abbrev TT:=St→Hp→(Bool→Hp→Prop)→Prop
abbrev TA:=St→Hp→(List V→Hp→Prop)→Prop
structure Ends where
 nx:St→Hp→Prop
 rt:VK
 bk:St→Hp→Prop:=fun _ _=>False
 ct:St→Hp→Prop:=fun _ _=>False
abbrev TS:=Ends→St→Hp→Prop
def EP (X:Cx) (pins:List (Addr×Obj)) (σ:St) (Q:VK) (u:Value) (s':Shared):Prop:=∃ v H',Inv X pins σ H' s'∧RelV v u∧Q v H'
def TP (X:Cx) (pins:List (Addr×Obj)) (σ:St) (Q:Bool→Hp→Prop) (b:Bool) (s':Shared):Prop:=∃ H',Inv X pins σ H' s'∧Q b H'
def AP (X:Cx) (pins:List (Addr×Obj)) (σ:St) (Q:List V→Hp→Prop) (us:List Value) (s':Shared):Prop:=∃ vs H',Inv X pins σ H' s'∧Vals vs us∧Q vs H'
def SP (X:Cx) (pins:List (Addr×Obj)) (D:Ends) (f:Flow) (s':Shared):Prop:=
 match f with
 | .next=>∃ σ' H',Inv X pins σ' H' s'∧D.nx σ' H'
 | .brk=>∃ σ' H',Inv X pins σ' H' s'∧D.bk σ' H'
 | .cont=>∃ σ' H',Inv X pins σ' H' s'∧D.ct σ' H'
 | .ret u=>∃ v σ' H',Inv X pins σ' H' s'∧RelV v u∧D.rt v H'
def PE (X:Cx) (e:Expr) (t:TE):Prop:=
 ∀ (pins:List (Addr×Obj)) (s:Shared) (σ:St) (H:Hp) (Q:VK),Inv X pins σ H s→t σ H Q→wpAny (model X.prog X.w) X.A (eval e X.env) (EP X pins σ Q) X.xe s
def PT (X:Cx) (e:Expr) (t:TT):Prop:=
 ∀ (pins:List (Addr×Obj)) (s:Shared) (σ:St) (H:Hp) (Q:Bool→Hp→Prop),Inv X pins σ H s→t σ H Q→wpAny (model X.prog X.w) X.A (isTrue e X.env (eval e X.env)) (TP X pins σ Q) X.xe s
def PW (X:Cx) (e:Expr) (t:TT):Prop:=
 ∀ (whole:Sem Value) (pins:List (Addr×Obj)) (s:Shared) (σ:St) (H:Hp) (Q:Bool→Hp→Prop),Inv X pins σ H s→t σ H Q→wpAny (model X.prog X.w) X.A (isTrue e X.env whole) (TP X pins σ Q) X.xe s
theorem PW.pt {X:Cx} {e:Expr} {t:TT} (h:PW X e t):PT X e t:=h _
def PA (X:Cx) (es:List Expr) (t:TA):Prop:=
 ∀ (pos:Pos) (pins:List (Addr×Obj)) (s:Shared) (σ:St) (H:Hp) (Q:List V→Hp→Prop),Inv X pins σ H s→t σ H Q→wpAny (model X.prog X.w) X.A (spliced (backTo pos (starEach es X.env))) (AP X pins σ Q) X.xe s
def PS (X:Cx) (st:Stmt) (t:TS):Prop:=
 ∀ (pins:List (Addr×Obj)) (s:Shared) (σ:St) (H:Hp) (D:Ends),Inv X pins σ H s→t D σ H→wpAny (model X.prog X.w) X.A (exec st X.env) (SP X pins D) X.xe s
def PSs (X:Cx) (st:List Stmt) (t:TS):Prop:=
 ∀ (pins:List (Addr×Obj)) (s:Shared) (σ:St) (H:Hp) (D:Ends),Inv X pins σ H s→t D σ H→wpAny (model X.prog X.w) X.A (execs st X.env) (SP X pins D) X.xe s
theorem Ea {α:Type} {t:Sem α} {Q Q':α→Shared→Prop} {M:Model} {A:Around} {E:Value→Shared→Prop} {s:Shared} (h:wpAny M A t Q E s) (hQ:∀ a s,Q a s→Q' a s):wpAny M A t Q' E s:=wpAny_mono h hQ fun _ _ x=>x
section
variable {X:Cx}
theorem bin {a b:Expr} {ta tb:TE} (ha:PE X a ta) (hb:PE X b tb) {pins:List (Addr×Obj)} {s:Shared} {σ:St} {H:Hp} {R:V→V→Hp→Prop} (I:Inv X pins σ H s) (h:ta σ H fun x H1=>tb σ H1 fun y H2=>R x y H2)
  {α:Type} {Q:α→Shared→Prop} {f:Value→Value→Sem α}
  (hf:∀ v u s2 x y H2,Inv X pins σ H2 s2→RelV x v→RelV y u→R x y H2→wpAny (model X.prog X.w) X.A (f v u) Q X.xe s2) :
  wpAny (model X.prog X.w) X.A (eval a X.env) (fun v s₁=>wpAny (model X.prog X.w) X.A (eval b X.env) (fun u s₂=>wpAny (model X.prog X.w) X.A (f v u) Q X.xe s₂) X.xe s₁) X.xe s:=by
 refine Ea (ha pins s σ H _ I h) fun v s1 Ee=>?_
 obtain ⟨x,H1,I1,r1,q1⟩:=Ee
 refine Ea (hb pins s1 σ H1 _ I1 q1) fun u s2 Ee=>?_
 obtain ⟨y,H2,I2,r2,q2⟩:=Ee
 exact hf v u s2 x y H2 I2 r1 r2 q2
noncomputable def uM (i:Nat):TE:=fun σ H Q=>∃ v,σ[i]?=some (some v)∧Q v H
noncomputable def tC (v:V):TE:=fun _ H Q=>Q v H
theorem yZ {i:Nat} {x:Str} {pos:Pos} (hN:X.N[i]?=some x) (hv:NG X.env.scope x) (hd:(x == ("__debug__" : Str))=false:=by decide) (ID:(x == ("__classdict__" : Str))=false:=by decide):PE X (.Name x pos) (uM i):=by
 intro pins s σ H Q I h
 obtain ⟨v,e,h⟩:=h
 obtain ⟨m,hn,hl⟩:=I.loc
 obtain ⟨u,r,l⟩:=hl i x v hN e hv
 have fin:EP X pins σ Q u s:=⟨v,H,I,r,h⟩
 rcases l with ⟨hk,hm⟩ | ⟨hk,c,hc,ED⟩
 ·exact wpAny_Name (wpAny_loadName_local I.ok.kind hk hn hm fin) hd
 ·rcases hk with hk | hk
  ·exact wpAny_Name (wpAny_loadName_cell I.ok.kind hk hc ED fin) hd
  ·exact wpAny_Name (wpAny_loadName_free I.ok.kind hk hc ED fin ID) hd
theorem y0 {i j pos}:PE X (.Constant (.int i) j pos) (tC (.int i)):=fun _ _ _ H _ I h=>wpAny_Constant_int ⟨.int i,H,I.tok _,⟨_,rfl⟩,h⟩
theorem Bw {b j pos}:PE X (.Constant (.bool b) j pos) (tC (.bl b)):=fun _ _ _ H _ I h=>Constant_bool ⟨.bl b,H,I,rfl,h⟩
theorem y1 {j pos}:PE X (.Constant .none j pos) (tC .non):=fun _ _ _ H _ I h=>Constant_none ⟨.non,H,I,rfl,h⟩
theorem y2 {x j pos}:PE X (.Constant (.str x) j pos) (tC (.str x)):=fun _ _ _ H _ I h=>Calls.Constant_str ⟨.str x,H,I.tok _,⟨_,rfl⟩,h⟩
def Gl (X:Cx) (x:Str):Prop:=X.env.kindOf x=some .globalImplicit
theorem wR {E:Value→Shared→Prop} {pins:List (Addr×Obj)} {s:Shared} {σ:St} {H:Hp} {x:Str} {u:Value} {pos:Pos} {Q:Value→Shared→Prop} (I:Inv X pins σ H s) (hg:Gl X x) (hm:X.mg x=some u) (h:Q u s)
  (hd:(x == ("__debug__" : Str))=false:=by decide):wpAny (model X.prog X.w) X.A (eval (.Name x pos) X.env) Q E s:=
 Calls.Name_function_global I.ok.kind hg (Calls.loadGlobal_global (by rw [I.ok.glob];exact I.mod.glob.keeps I.bk) hm h) hd
theorem j8 {E:Value→Shared→Prop} {pins:List (Addr×Obj)} {s:Shared} {σ:St} {H:Hp} {x:Str} {u:Value} {pos:Pos} {Q:Value→Shared→Prop} (I:Inv X pins σ H s) (hg:Gl X x) (hm:X.mg x=none) (hv:bootBuiltins x=some u) (h:Q u s)
  (hn:x≠"__name__":=by decide) (hd:(x == ("__debug__" : Str))=false:=by decide):wpAny (model X.prog X.w) X.A (eval (.Name x pos) X.env) Q E s:=by
 obtain ⟨mb,h1,h2⟩:=I.mod.blt
 exact Calls.Name_function_global I.ok.kind hg (Calls.loadGlobal_builtin (by rw [I.ok.glob];exact I.mod.glob.keeps I.bk) hm (by rw [I.ok.blt];exact h1.keeps I.bk) ((h2 x hn).trans hv) h) hd
theorem wU {x:Str} {v:V} {u:Value} {pos:Pos} (hg:Gl X x) (hm:X.mg x=none) (hv:bootBuiltins x=some u) (r:RelV v u) (hn:x≠"__name__":=by decide) (hd:(x == ("__debug__" : Str))=false:=by decide):PE X (.Name x pos) (tC v):=
 fun _ _ _ H _ I h=>j8 I hg hm hv ⟨v,H,I,r,h⟩ hn hd
variable {a b:Expr} {ta tb:TE} {pos:Pos}
def PC (X:Cx) (op:CmpOp) (a b:Expr) (t:TE):Prop:=
 ∀ (pins:List (Addr×Obj)) (s:Shared) (σ:St) (H:Hp) (Q:VK),Inv X pins σ H s→t σ H Q→
  wpAny (model X.prog X.w) X.A (eval a X.env) (fun v s₁=>wpAny (model X.prog X.w) X.A (eval b X.env) (fun u s₂=>wpAny (model X.prog X.w) X.A (compareOp op v u) (EP X pins σ Q) X.xe s₂) X.xe s₁) X.xe s
theorem uN (b:Expr) {op:CmpOp} (h:op≠.In) (h2:op≠.NotIn):behindInMarks op b=false:=by
 have e1:(op == CmpOp.In)=false:=by cases op <;> first | rfl | exact absurd rfl h
 have e2:(op == CmpOp.NotIn)=false:=by cases op <;> first | rfl | exact absurd rfl h2
 cases b <;> simp [behindInMarks,e1,e2]
noncomputable def tB (t:TE):TT:=fun σ H Q=>t σ H fun x H1=>∃ c,x=.bl c∧Q c H1
theorem CP {op:CmpOp} {t:TE} (h:PC X op a b t) (h1:behindInMarks op b=false:=by first | exact uN _ (by decide) (by decide) | rfl):PT X (.Compare a [op] [b] pos) (tB t):=by
 intro pins s σ H Q I hw
 refine wpAny_isTrue_Compare1 (Ea (h pins s σ H _ I hw) fun v s1 h1=>Ea h1 fun u s2 h2=>Ea h2 fun c s3 ⟨x,H1,I1,r1,q1⟩=>?_) h1
 obtain ⟨d,rfl,q⟩:=q1
 cases r1
 exact wpAny_truthy_bool ⟨H1,I1,q⟩
theorem y3 {e:Expr} {t:TE} (h:PE X e t) (he:∀ whole,isTrue e X.env whole=(do let v ←whole;standAt e.pos;holding [v] (truthy v)):=by intro _;rfl):PT X e (tB t):=by
 intro pins s σ H Q I hw
 refine isTrue_plain (Ea (h pins s σ H _ I hw) fun v s1 ⟨x,H1,I1,r1,q1⟩=>?_) (he _)
 obtain ⟨d,rfl,q⟩:=q1
 cases r1
 exact wpAny_truthy_bool ⟨H1,I1,q⟩
variable {tA Nc:TT} {eL:List Expr}
noncomputable def C2 (t u:TT):TT:=fun σ H Q=>t σ H fun c H1=>if c=true then u σ H1 Q else Q false H1
noncomputable def tOr (t u:TT):TT:=fun σ H Q=>t σ H fun c H1=>if c=true then Q true H1 else u σ H1 Q
noncomputable def C3 (t:TT):TT:=fun σ H Q=>t σ H fun c H1=>Q (!c) H1
theorem wV (ha:PT X a tA):PW X (.BoolOp .And [a] pos) tA:=by
 intro wh pins s σ H Q I h
 refine isTrue_and (Ea (ha pins s σ H Q I h) fun c s1 e=>?_)
 cases c with
 | true=>exact isTrue_and_nil e
 | false=>exact e
theorem y4 (ha:PT X a tA):PW X (.BoolOp .Or [a] pos) tA:=by
 intro wh pins s σ H Q I h
 refine isTrue_or (Ea (ha pins s σ H Q I h) fun c s1 e=>?_)
 cases c with
 | false=>exact isTrue_or_nil e
 | true=>exact e
theorem y6 (ha:PT X a tA) (hb:PW X (.BoolOp .And (b :: eL) pos) Nc):PW X (.BoolOp .And (a :: b :: eL) pos) (C2 tA Nc):=by
 intro wh pins s σ H Q I h
 refine isTrue_and (Ea (ha pins s σ H _ I h) fun c s1 Ee=>?_)
 obtain ⟨H1,I1,q1⟩:=Ee
 cases c with
 | true=>exact hb wh pins s1 σ H1 Q I1 q1
 | false=>exact ⟨H1,I1,q1⟩
theorem Bx (ha:PT X a tA) (hb:PW X (.BoolOp .Or (b :: eL) pos) Nc):PW X (.BoolOp .Or (a :: b :: eL) pos) (tOr tA Nc):=by
 intro wh pins s σ H Q I h
 refine isTrue_or (Ea (ha pins s σ H _ I h) fun c s1 Ee=>?_)
 obtain ⟨H1,I1,q1⟩:=Ee
 cases c with
 | true=>exact ⟨H1,I1,q1⟩
 | false=>exact hb wh pins s1 σ H1 Q I1 q1
theorem y7 (ha:PT X a tA):PT X (.UnaryOp .Not a pos) (C3 tA):=by
 intro pins s σ H Q I h
 exact isTrue_not (ha pins s σ H (fun c H1=>Q (!c) H1) I h)
end
def SqL (K:W.Frag) (H:Hp) (a:Addr) (xs:List V):Prop:=
 Rd H a (.lst xs)∨
  ∃ (o:Obj) (DS:Array Value) (n:Nat),K.lookup a=some o∧o.cls=.type "list"∧o.dict=none∧o.data=.seq DS n∧DS.size≤sizeLine∧Vals xs DS.toList
def SqT (K:W.Frag) (H:Hp) (a:Addr) (xs:List V):Prop:=
 Rd H a (.tup xs)∨
  ∃ (o:Obj) (DS:Array Value) (n:Nat),K.lookup a=some o∧o.cls=.type "tuple"∧o.dict=none∧o.data=.seq DS n∧DS.size≤sizeLine∧Vals xs DS.toList
noncomputable def C4:Value→Option V
 | .none=>some .non
 | .bool b=>some (.bl b)
 | .int i _=>some (.int i)
 | .str x _=>some (.str x)
 | .bytes b _=>some (.byt b)
 | .float b _=>some (.flt b)
 | .ref a=>some (.ref a)
 | .type n=>some (.ty n)
 | _=>none
theorem RelV.abs {x:V} {u:Value} (r:RelV x u):C4 u=some x:=by
 cases x with
 | non=>cases r;rfl
 | bl _=>cases r;rfl
 | int _=>obtain ⟨t,rfl⟩:=r;rfl
 | str _=>obtain ⟨t,rfl⟩:=r;rfl
 | byt _=>obtain ⟨t,rfl⟩:=r;rfl
 | flt _=>obtain ⟨t,rfl⟩:=r;rfl
 | ref _=>cases r;rfl
 | ty _=>cases r;rfl
theorem RelV.inj {x y:V} {u:Value} (r:RelV x u) (q:RelV y u):x=y:=Option.some.inj (r.abs.symm.trans q.abs)
theorem Vals.inj:∀ {xs ys:List V} {us:List Value},Vals xs us→Vals ys us→xs=ys
 | _,_,_,.nil,.nil=>rfl
 | _,_,_,.cons r t,.cons r' t'=>by rw [r.inj r',Vals.inj t t']
section
variable {X:Cx} {pins:List (Addr×Obj)} {σ:St} {H:Hp} {s:Shared} {a:Addr} {xs ys:List V}
theorem SqL.of {K:W.Frag} (h:H a=some (.lst xs)):SqL K H a xs:=.inl (.inl h)
theorem SqT.of {K:W.Frag} (h:H a=some (.tup xs)):SqT K H a xs:=.inl (.inl h)
theorem Inv.list (I:Inv X pins σ H s) (h:SqL X.K H a xs):∃ DS:List Value,Vals xs DS∧PlainL s.heap a DS.toArray∧xs.length≤sizeLine:=by
 rcases h with h | ⟨o,DS,n,hk,hc,hd,hs,hz,r⟩
 ·obtain ⟨z,DS,n,r,e⟩:=h.ok I.hok
  exact ⟨DS,r,⟨_,n,e,rfl,rfl,rfl⟩,z⟩
 ·refine ⟨DS.toList,r,⟨o,n,I.kIn a o hk,hc,hd,by simpa using hs⟩,?_⟩
  have e:=r.length
  simp only [Array.length_toList] at e
  lia
theorem Inv.tupleN (I:Inv X pins σ H s) (h:SqT X.K H a xs):∃ DS:List Value,Vals xs DS∧IsTupN s.heap a DS.toArray∧xs.length≤sizeLine:=by
 rcases h with h | ⟨o,DS,n,hk,hc,hdn,hs,hz,r⟩
 ·obtain ⟨z,DS,r,p⟩:=h.ok I.hok
  exact ⟨DS,r,p,z⟩
 ·refine ⟨DS.toList,r,⟨o,I.kIn a o hk,hc,⟨n,by simpa using hs⟩,hdn⟩,?_⟩
  have e:=r.length
  simp only [Array.length_toList] at e
  lia
theorem Inv.tuple (I:Inv X pins σ H s) (h:SqT X.K H a xs):∃ DS:List Value,Vals xs DS∧IsTup s.heap a DS.toArray∧xs.length≤sizeLine:=by
 obtain ⟨DS,r,p,z⟩:=I.tupleN h
 exact ⟨DS,r,p.tup,z⟩
theorem Inv.list_inj (I:Inv X pins σ H s) (h:SqL X.K H a xs) (h':SqL X.K H a ys):xs=ys:=by
 obtain ⟨DS,r,⟨o,n,e,_,_,d⟩,_⟩:=I.list h
 obtain ⟨its',r',⟨o',n',e',_,_,d'⟩,_⟩:=I.list h'
 rw [e] at e';cases e'
 rw [d] at d'
 injection d' with d1 _
 have:DS=its':=by simpa using congrArg Array.toList d1
 subst this
 exact r.inj r'
theorem Inv.tuple_inj (I:Inv X pins σ H s) (h:SqT X.K H a xs) (h':SqT X.K H a ys):xs=ys:=by
 obtain ⟨DS,r,⟨o,e,_,n,d⟩,_⟩:=I.tuple h
 obtain ⟨its',r',⟨o',e',_,n',d'⟩,_⟩:=I.tuple h'
 rw [e] at e';cases e'
 rw [d] at d'
 injection d' with d1 _
 have:DS=its':=by simpa using congrArg Array.toList d1
 subst this
 exact r.inj r'
end
abbrev Cx.wish (X:Cx) (E:Value→Shared→Prop):Cx:={ X with xe:=E }
abbrev Cx.nox (X:Cx):Cx:=X.wish fun _ _=>False
theorem Cx.Ok.wish {X:Cx} (ok:X.Ok) (E:Value→Shared→Prop):(X.wish E).Ok:=
 ⟨ok.mod,ok.kind,ok.glob,ok.blt,ok.above,ok.inj,ok.has,ok.cab,ok.hd,ok.frames,ok.stk,ok.exf,ok.bs,ok.bsz,ok.noex,ok.exfs,ok.funs,ok.frf⟩
theorem Cx.Ok.unwish {X:Cx} {E:Value→Shared→Prop} (ok:(X.wish E).Ok):X.Ok:=
 ⟨ok.mod,ok.kind,ok.glob,ok.blt,ok.above,ok.inj,ok.has,ok.cab,ok.hd,ok.frames,ok.stk,ok.exf,ok.bs,ok.bsz,ok.noex,ok.exfs,ok.funs,ok.frf⟩
section
variable {X:Cx} {pins:List (Addr×Obj)} {σ:St} {H:Hp} {s:Shared} {E:Value→Shared→Prop}
theorem Inv.wish (I:Inv X pins σ H s) (E:Value→Shared→Prop):Inv (X.wish E) pins σ H s:=⟨I.ok.wish E,I.os,I.bare,I.base,I.loc,I.cell,I.free,I.freeC,I.pin,I.hok,I.len⟩
theorem Inv.unwish (I:Inv (X.wish E) pins σ H s):Inv X pins σ H s:=⟨I.ok.unwish,I.os,I.bare,I.base,I.loc,I.cell,I.free,I.freeC,I.pin,I.hok,I.len⟩
theorem SP.unwish {D:Ends} {f:Flow} {s':Shared} (h:SP (X.wish E) pins D f s'):SP X pins D f s':=by
 cases f with
 | next=>obtain ⟨σ',H',I,q⟩:=h;exact ⟨σ',H',I.unwish,q⟩
 | brk=>obtain ⟨σ',H',I,q⟩:=h;exact ⟨σ',H',I.unwish,q⟩
 | cont=>obtain ⟨σ',H',I,q⟩:=h;exact ⟨σ',H',I.unwish,q⟩
 | ret u=>obtain ⟨v,σ',H',I,r,q⟩:=h;exact ⟨v,σ',H',I.unwish,r,q⟩
theorem PSs.nox {st:List Stmt} {t:TS} (h:PSs X.nox st t):PSs X st t:=fun pins s σ H D I hw=>
 wpAny_mono (h pins s σ H D (I.wish _) hw) (fun _ _ q=>q.unwish) fun _ _ z=>False.elim z
end
section
variable {X:Cx} {st:Stmt} {eL:List Stmt} {t u:TS} {e:Expr} {te:TE} {pos:Pos}
noncomputable def By:TS:=fun D σ H=>D.nx σ H
noncomputable def C5 (t u:TS):TS:=fun D σ H=>t { D with nx:=u D } σ H
theorem wW:PSs X [] By:=fun _ _ σ H _ I h=>wpAny_execs_nil ⟨σ,H,I,h⟩
theorem uO (h1:PS X st t) (h2:PSs X eL u):PSs X (st :: eL) (C5 t u):=by
 intro pins s σ H D I h
 refine wpAny_execs_cons (Ea (h1 pins s σ H { D with nx:=u D } I h) fun f s1 q=>?_)
 cases f with
 | next=>
  obtain ⟨σ',H',I',q⟩:=q
  exact h2 pins s1 σ' H' D I' q
 | ret v=>exact q
 | brk=>exact q
 | cont=>exact q
theorem wX (h1:PS X st t):PSs X [st] t:=by
 intro pins s σ H D I h
 refine wpAny_execs_cons (Ea (h1 pins s σ H D I h) fun f s1 q=>?_)
 cases f with
 | next=>exact wpAny_execs_nil q
 | ret v=>exact q
 | brk=>exact q
 | cont=>exact q
theorem Inv.quiet {pins:List (Addr×Obj)} {σ:St} {H:Hp} {s:Shared} (I:Inv X pins σ H s):interactive X.env=false:=by simp [interactive,I.ok.kind]
noncomputable def Bz (te:TE):TS:=fun D σ H=>te σ H fun _ H1=>D.nx σ H1
theorem wY (he:PE X e te) (hs:swapsWith e none pos.line X.env=pure false:=by rfl):PS X (.Expr e pos) (Bz te):=by
 intro pins s σ H D I h
 exact wpAny_Expr_any (Ea (he pins s σ H _ I h) fun v s1 ⟨x,H1,I1,r1,q1⟩=>⟨σ,H1,I1,q1⟩) I.quiet hs
noncomputable def C6 (te:TE):TS:=fun D σ H=>te σ H D.rt
theorem y8 (he:PE X e te):PS X (.Return (some e) pos) (C6 te):=by
 intro pins s σ H D I h
 exact wpAny_Return_some (Ea (he pins s σ H _ I h) fun v s1 ⟨x,H1,I1,r1,q1⟩=>⟨x,σ,H1,I1,r1,q1⟩)
noncomputable def C7 (c:TT) (t u:TS):TS:=fun D σ H=>c σ H fun b H1=>if b=true then t D σ H1 else u D σ H1
theorem BA {c:Expr} {a b:List Stmt} {tc:TT} (hc:PT X c tc) (ha:PSs X a t) (hb:PSs X b u):PS X (.If c a b pos) (C7 tc t u):=by
 intro pins s σ H D I h
 refine wpAny_If (Ea (hc pins s σ H _ I h) fun d s1 Ee=>?_)
 obtain ⟨H1,I1,q1⟩:=Ee
 cases d with
 | true=>exact ha pins s1 σ H1 D I1 q1
 | false=>exact hb pins s1 σ H1 D I1 q1
end
abbrev TG:=V→St→Hp→(St→Hp→Prop)→Prop
abbrev Kj:=List V→St→Hp→(St→Hp→Prop)→Prop
def PG (X:Cx) (target:Expr) (t:TG):Prop:=
 ∀ (pins:List (Addr×Obj)) (s:Shared) (σ:St) (H:Hp) (v:V) (u:Value) (Q:St→Hp→Prop),Inv X pins σ H s→RelV v u→t v σ H Q→
  wpAny (model X.prog X.w) X.A (assign target X.env u) (fun _ s'=>∃ σ' H',Inv X pins σ' H' s'∧Q σ' H') X.xe s
def KA (X:Cx) (ts:List Expr) (t:Kj):Prop:=
 ∀ (pins:List (Addr×Obj)) (s:Shared) (σ:St) (H:Hp) (vs:List V) (us:List Value) (Q:St→Hp→Prop),Inv X pins σ H s→Vals vs us→t vs σ H Q→
  wpAny (model X.prog X.w) X.A (assignInOrder ((assignEach ts X.env).map (·.2)) us) (fun _ s'=>∃ σ' H',Inv X pins σ' H' s'∧Q σ' H') X.xe s
abbrev C8:=V→V→V→Hp→(Hp→Prop)→Prop
def C9 (X:Cx) (t:C8):Prop:=
 ∀ (pins:List (Addr×Obj)) (s:Shared) (σ:St) (H:Hp) (o i v:V) (ov iv u:Value) (Q:Hp→Prop),Inv X pins σ H s→RelV o ov→RelV i iv→RelV v u→t o i v H Q→
  wpAny (model X.prog X.w) X.A (setItem ov iv u) (fun _ s'=>∃ H',Inv X pins σ H' s'∧Q H') X.xe s
section
variable {X:Cx} {pos:Pos}
noncomputable def y9 (i:Nat):TG:=fun v σ H Q=>Q (σ.set i (some v)) H
theorem wZ {i:Nat} {x:Str} (hN:X.N.Nodup) (hi:X.N[i]?=some x) (hx:Loc X.env.scope x) (hf:X.fn x=true∨X.env.scope.names.lookup x=some .local:=by first | exact .inl rfl | exact .inr rfl | assumption):PG X (.Name x pos) (y9 i):=by
 intro pins s σ H v u Q I r h
 exact wpAny_assign_Name (pO I hN hi hx r (fun s' I'=>⟨_,H,I',h⟩) hf)
noncomputable def Dc:Kj:=fun vs σ H Q=>vs=[]∧Q σ H
noncomputable def BC (t:TG) (u:Kj):Kj:=fun vs σ H Q=>∃ v r,vs=v :: r∧t v σ H fun σ' H'=>u r σ' H' Q
theorem w4:KA X [] Dc:=by
 intro pins s σ H vs us Q I r h
 obtain ⟨e,h⟩:=h
 subst e
 cases r
 exact assignInOrder_nil ⟨σ,H,I,h⟩
theorem uP {e:Expr} {es:List Expr} {t:TG} {u:Kj} (h1:PG X e t) (h2:KA X es u)
  (hs:(assignEach (e :: es) X.env).map (·.2)=assign e X.env :: (assignEach es X.env).map (·.2):=by rfl):KA X (e :: es) (BC t u):=by
 intro pins s σ H vs us Q I r h
 obtain ⟨v,vr,e1,h⟩:=h
 subst e1
 cases r with
 | cons r rr=>
  rw [hs]
  refine assignInOrder_cons (Ea (h1 pins s σ H _ _ _ I r h) fun _ s1 Ee=>?_)
  obtain ⟨σ1,H1,I1,q1⟩:=Ee
  exact h2 pins s1 σ1 H1 _ _ Q I1 rr q1
noncomputable def De (K:W.Frag) (n:Nat) (t:Kj):TG:=fun v σ H Q=>∃ a xs,v=.ref a∧SqT K H a xs∧xs.length=n∧t xs σ H Q
theorem za {es:List Expr} {k:Nat} {t:Kj} {n:Nat} (hc:X.calm=true) (h:KA X es t)
  (hn:(assignEach es X.env).length=n:=by rfl) (Hk:(assignEach es X.env).findIdx? (·.1)=none:=by rfl):PG X (.Tuple es k pos) (De X.K n t):=by
 intro pins s σ H v u Q I r hw
 obtain ⟨a,xs,e1,hq,hl,hw⟩:=hw
 subst e1
 cases r
 obtain ⟨DS,rv,ht,hz⟩:=I.tuple hq
 refine assign_Tuple_tuple (I.ok.hd hc) ht (by simp [hn,←hl,rv.length]) Hk fun h' hx=>?_
 have I1:Inv X pins σ H { s with heap:=h' }:=I.kept (t':=s.toks) fun b o e=>hx b o (Nat.ne_of_lt (Heap.lt_size e)) e
 exact h pins _ σ H xs _ Q I1 (by simpa using rv) hw
noncomputable def CQ (te:TE) (g:TG):TS:=fun D σ H=>te σ H fun x H1=>g x σ H1 D.nx
theorem zb {tg e:Expr} {te:TE} {g:TG} (he:PE X e te) (hg:PG X tg g) (hs:swapsWithSole [tg] e pos.line X.env=pure false:=by rfl) (hw:swappedStores [tg] e X.env=pure none:=by rfl)
  (h1:(assignEach [tg] X.env).map (·.2)=[assign tg X.env]:=by rfl):PS X (.Assign [tg] e pos) (CQ te g):=by
 intro pins s σ H D I h
 refine wpAny_Assign_stores (Ea (he pins s σ H _ I h) fun v s1 ⟨x,H1,I1,r1,q1⟩=>?_) hs hw
 rw [h1]
 exact Ea (hg pins s1 σ H1 x v _ I1 r1 q1) fun _ s2 q=>q
theorem zc {i:Nat} {x:Str} {e:Expr} {te:TE} {pos':Pos} (hN:X.N.Nodup) (hi:X.N[i]?=some x) (hx:Loc X.env.scope x) (he:PE X e te) (hs:swapsWith e (some (.Name x pos')) pos.line X.env=pure false:=by rfl) (hf:X.fn x=true∨X.env.scope.names.lookup x=some .local:=by first | exact .inl rfl | exact .inr rfl | assumption) :
  PS X (.Assign [.Name x pos'] e pos) (CQ te (y9 i)):=by
 intro pins s σ H D I h
 refine wpAny_Assign_Name (Ea (he pins s σ H _ I h) fun v s1 ⟨y,H1,I1,r1,q1⟩=>?_) hs
 exact pO I1 hN hi hx r1 (fun s2 I2=>⟨_,H1,I2,q1⟩) hf
end
section
variable {X:Cx} {pos:Pos}
noncomputable def zd (c:TT) (tb:TS):TS:=fun D σ H=>∃ W:Nat→St→Hp→Prop,(∃ m,W m σ H)∧∀ m σ H,W m σ H→
 c σ H fun b H1=>if b=true then ∃ N:St→Hp→Prop,(∀ σ' H',N σ' H'→∃ m',m' < m∧W m' σ' H')∧tb { D with nx:=N,ct:=N,bk:=D.nx } σ H1 else D.nx σ H1
theorem uQ {c:Expr} {body:List Stmt} {tc:TT} {tb:TS} (hp:PassesOwn (model X.prog X.w) X.A X.env X.xe) (hc:PT X c tc) (hb:PSs X body tb):PS X (.While c body [] pos) (zd tc tb):=by
 intro pins s σ H D I h
 obtain ⟨W,⟨m0,w0⟩,turn⟩:=h
 refine wpAny_While (codeAny_whileLoop (fun n s'=>∃ σ' H',Inv X pins σ' H' s'∧W n σ' H') ?_ m0 ⟨σ,H,I,w0⟩)
 rintro n s1 ⟨σ1,H1,I1,w1⟩
 refine wpAny_passesOwn hp (Ea (hc pins s1 σ1 H1 _ I1 (turn n σ1 H1 w1)) fun b s2 Ee=>?_)
 obtain ⟨H2,I2,q2⟩:=Ee
 cases b with
 | true=>
  obtain ⟨N,hN,q2⟩:=q2
  rw [if_pos rfl]
  refine wpAny_passesOwn hp (Ea (hb pins s2 σ1 H2 _ I2 q2) fun f s3 q3=>?_)
  cases f with
  | next=>
   obtain ⟨σ3,H3,I3,n3⟩:=q3
   obtain ⟨m',hm,w3⟩:=hN σ3 H3 n3
   exact ⟨m',hm,σ3,H3,I3,w3⟩
  | cont=>
   obtain ⟨σ3,H3,I3,n3⟩:=q3
   obtain ⟨m',hm,w3⟩:=hN σ3 H3 n3
   exact ⟨m',hm,σ3,H3,I3,w3⟩
  | brk=>exact q3
  | ret v=>exact q3
 | false=>
  rw [if_neg Bool.false_ne_true]
  exact wpAny_execs_nil ⟨σ1,H2,I2,q2⟩
end
structure It where
 go:Nat→Hp→Prop
 yld:Nat→Hp→V→Hp→Prop
 stop:Nat→Hp→Prop
def rE (X:Cx) (pins:List (Addr×Obj)) (H:Hp) (b:Addr):Prop:=
 H b=none∧b≠X.env.locals∧b∉X.fs∧(b∈X.ex∨X.s₀.heap.objs.size≤b)∧(∀ x c,X.env.cells.lookup x=some c→c≠b)∧∀ p∈X.pn++pins,p.1≠b
theorem Inv.fpOk {X:Cx} {pins:List (Addr×Obj)} {σ:St} {H H':Hp} {s:Shared} {b:Addr} (I:Inv X pins σ H s) (hb:s.heap.objs.size≤b) (hn:H' b=none):rE X pins H' b:=by
 refine ⟨hn,Nat.ne_of_gt (Nat.lt_of_lt_of_le I.lt hb),I.nofs hb,.inr (Nat.le_trans I.sz hb),fun x c e z=>?_,fun p hp z=>?_⟩
 ·obtain ⟨v,q⟩:=I.cell x c e
  exact absurd (Nat.lt_of_lt_of_le q.lt (by rw [z];exact hb)) (Nat.lt_irrefl _)
 ·exact absurd (Nat.lt_of_lt_of_le (Heap.lt_size (I.pin p hp).1) (by rw [z];exact hb)) (Nat.lt_irrefl _)
structure Turn (P:Program) (w:World) (K:W.Frag) (tg:Expr) (J:It) (fp:List Addr) (it:Addr) (tn:Nat→Heap→Prop):Prop where
 mem:it∈fp
 obj:∀ i h,tn i h→∀ b∈fp,∃ o,h.get? b=some o∧∀ v,o.data≠.cell v
 keep:∀ i h h',tn i h→(∀ b∈fp,∀ o,h.get? b=some o→h'.get? b=some o)→tn i h'
 item:∀ (X:Cx),X.prog=P→X.w=w→X.K=K→X.calm=true→∀ (i:Nat) (pins:List (Addr×Obj)) (s:Shared) (σ:St) (H:Hp) (E:Value→Shared→Prop),Inv X pins σ H s→(∀ b∈fp,rE X pins H b)→tn i s.heap→J.go i H→
  wpAny (model P w) X.A (pyNext (.ref it)) (fun r s1=>∃ u,r=some u∧
   wpAny (model P w) X.A (letOwnedTupleGo tg (.ref it) u) (fun _ s2=>∃ x H',Inv X pins σ H' s2∧RelV x u∧J.yld i H x H'∧tn (i + 1) s2.heap∧∀ b∈fp,H' b=none) E s1) E s
 done:∀ (X:Cx),X.prog=P→X.w=w→X.K=K→X.calm=true→∀ (i:Nat) (pins:List (Addr×Obj)) (s:Shared) (σ:St) (H:Hp) (E:Value→Shared→Prop),Inv X pins σ H s→(∀ b∈fp,rE X pins H b)→tn i s.heap→J.stop i H→
  wpAny (model P w) X.A (pyNext (.ref it)) (fun r s1=>r=none∧Inv X pins σ H s1) E s
 self:∀ (A:Around) (i:Nat) (s:Shared) (Q:Value→Shared→Prop) (E:Value→Shared→Prop),tn i s.heap→Q (.ref it) s→wpAny (model P w) A (pyIter (.ref it)) Q E s
abbrev TI:=St→Hp→(It→Hp→Prop)→Prop
def OD (X:Cx) (pins:List (Addr×Obj)) (σ:St) (tg:Expr) (R:It→Hp→Prop) (Nf:Value) (s2:Shared):Prop:=
 ∃ (it:Addr) (fp:List Addr) (tn:Nat→Heap→Prop) (J:It) (H':Hp),Nf=.ref it∧Inv X pins σ H' s2∧Turn X.prog X.w X.K tg J fp it tn∧tn 0 s2.heap∧(∀ b∈fp,rE X pins H' b)∧R J H'
def PI (X:Cx) (tg iter:Expr) (wi:TI):Prop:=
 ∀ (pins:List (Addr×Obj)) (s:Shared) (σ:St) (H:Hp) (R:It→Hp→Prop),Inv X pins σ H s→wi σ H R→
  wpAny (model X.prog X.w) X.A (eval iter X.env) (fun v s1=>wpAny (model X.prog X.w) X.A (pyIter v) (OD X pins σ tg R) X.xe s1) X.xe s
theorem uR {M : Model} {A : Around} {E : Value → Shared → Prop} {s : Shared} {tg : Expr} {it : Addr} {u : Value} {o : Obj} {n : String} {vs : Array Value} {Q : Unit → Shared → Prop} (ho : s.heap.get? it = some o) (hc : o.cls = .type n) (hd : o.data = .fields vs)
    (hn : ["enumerate", "zip", "dict_itemiterator", "dict_reverseitemiterator", "odict_iterator", "itertools.zip_longest", "itertools.pairwise"].contains n = false) (hQ : Q () s) : wpAny M A (letOwnedTupleGo tg (.ref it) u) Q E s := by
  unfold letOwnedTupleGo
  cases tg <;> first
    | exact wpAny_pure hQ
    | (cases u <;> first
        | exact wpAny_pure hQ
        | (refine wpAny_bind (wpAny_load ho ?_)
           rw [hc, hd]
           show wpAny M A (if (["enumerate", "zip", "dict_itemiterator", "dict_reverseitemiterator", "odict_iterator", "itertools.zip_longest", "itertools.pairwise"].contains n && vs[0]? == some (rawInt _)) = true then _ else _) Q E s
           rw [if_neg (by intro h; rw [hn, Bool.false_and] at h; cases h)]
           exact wpAny_pure hQ))
noncomputable def Lw (K:W.Frag) (a:Addr):It:=
 ⟨fun i H=>∃ xs x,SqL K H a xs∧xs[i]?=some x,fun i H x H'=>H'=H∧∀ xs,SqL K H a xs→xs[i]?=some x,fun i H=>∃ xs,SqL K H a xs∧xs.length≤i⟩
noncomputable def NI (K:W.Frag) (a:Addr):It:=
 ⟨fun i H=>∃ xs x,SqT K H a xs∧xs[i]?=some x,fun i H x H'=>H'=H∧∀ xs,SqT K H a xs→xs[i]?=some x,fun i H=>∃ xs,SqT K H a xs∧xs.length≤i⟩
noncomputable def LO (lo:Int) (n:Nat):It:=⟨fun i _=>i < n,fun i H x H'=>H'=H∧x=.int (lo + i),fun i _=>n≤i⟩
theorem rM {P:Program} {w:World} {K:W.Frag} {tg:Expr} (a it:Addr):Turn P w K tg (Lw K a) [it] it (fun i h=>h.IsListIter it a i) where
 mem:=by simp
 obj:=fun i h st b hb=>by
  have e:b=it:=by simpa using hb
  subst e
  obtain ⟨o,e,c,d⟩:=st
  exact ⟨o,e,fun v z=>by rw [d] at z;cases z⟩
 keep:=fun i h h' st k=>st.at fun o e=>k it (by simp) o e
 item:=by
  intro X hP hw hK hc i pins s σ H E I hf st hg
  subst hP hw hK
  obtain ⟨xs,x,hq,hx⟩:=hg
  obtain ⟨DS,rv,p,hz⟩:=I.list hq
  obtain ⟨u,hu,ru⟩:=rv.get hx
  obtain ⟨f0,f1,f2,f3,f4,f5⟩:=hf it (by simp)
  refine wpAny_pyNext_list_item st p.isList (x:=u) (by simpa using hu) fun h' Gg sb=>?_
  have I1:Inv X pins σ H { s with heap:=h' }:=I.turned (t':=s.toks) (fun b o hb e=>(sb.2 b hb).trans e) f0 f1 f3 f4 f5
  obtain ⟨o,e,c,d⟩:=id Gg
  exact ⟨u,rfl,uR (s:={ s with heap:=h' }) e c d (by decide) ⟨x,H,I1,ru,⟨rfl,fun ys hy=>by rw [I.list_inj hy hq];exact hx⟩,Gg,fun b hb=>(hf b hb).1⟩⟩
 done:=by
  intro X hP hw hK hc i pins s σ H E I hf st hg
  subst hP hw hK
  obtain ⟨xs,hq,hx⟩:=hg
  obtain ⟨DS,rv,p,hz⟩:=I.list hq
  obtain ⟨f0,f1,f2,f3,f4,f5⟩:=hf it (by simp)
  have hl:=rv.length
  exact wpAny_pyNext_list_end (I.ok.hd hc) st p.isList (by simp;lia) fun h' eb=>⟨rfl,I.turned (t':=s.toks) (fun b o hb e=>eb b o hb e) f0 f1 f3 f4 f5⟩
 self:=fun _ _ _ _ _ st h=>wpAny_pyIter_listiter st h
theorem qK {P:Program} {w:World} {K:W.Frag} {tg:Expr} (a it:Addr):Turn P w K tg (NI K a) [it] it (fun i h=>h.IsTupleIter it a i) where
 mem:=by simp
 obj:=fun i h st b hb=>by
  have e:b=it:=by simpa using hb
  subst e
  obtain ⟨o,e,c,d⟩:=st
  exact ⟨o,e,fun v z=>by rw [d] at z;cases z⟩
 keep:=fun i h h' st k=>st.at fun o e=>k it (by simp) o e
 item:=by
  intro X hP hw hK hc i pins s σ H E I hf st hg
  subst hP hw hK
  obtain ⟨xs,x,hq,hx⟩:=hg
  obtain ⟨DS,rv,p,hz⟩:=I.tuple hq
  obtain ⟨u,hu,ru⟩:=rv.get hx
  obtain ⟨f0,f1,f2,f3,f4,f5⟩:=hf it (by simp)
  refine wpAny_pyNext_tuple_item st (show s.heap.IsTuple a DS.toArray from p) (x:=u) (by simpa using hu) fun h' Gg sb=>?_
  have I1:Inv X pins σ H { s with heap:=h' }:=I.turned (t':=s.toks) (fun b o hb e=>(sb.2 b hb).trans e) f0 f1 f3 f4 f5
  obtain ⟨o,e,c,d⟩:=id Gg
  exact ⟨u,rfl,uR (s:={ s with heap:=h' }) e c d (by decide) ⟨x,H,I1,ru,⟨rfl,fun ys hy=>by rw [I.tuple_inj hy hq];exact hx⟩,Gg,fun b hb=>(hf b hb).1⟩⟩
 done:=by
  intro X hP hw hK hc i pins s σ H E I hf st hg
  subst hP hw hK
  obtain ⟨xs,hq,hx⟩:=hg
  obtain ⟨DS,rv,p,hz⟩:=I.tuple hq
  obtain ⟨f0,f1,f2,f3,f4,f5⟩:=hf it (by simp)
  have hl:=rv.length
  exact wpAny_pyNext_tuple_end (I.ok.hd hc) st (show s.heap.IsTuple a DS.toArray from p) (by simp;lia) fun h' eb=>⟨rfl,I.turned (t':=s.toks) (fun b o hb e=>eb b o hb e) f0 f1 f3 f4 f5⟩
 self:=fun _ _ _ _ _ st h=>wpAny_pyIter_tupleiter st h
theorem qL {P:Program} {w:World} {K:W.Frag} {tg:Expr} (it:Addr) (lo:Int) (n:Nat):Turn P w K tg (LO lo n) [it] it (fun i h=>IsRangeIter h it (lo + (i:Nat) * 1) ((n:Int) - (i:Nat)) 1) where
 mem:=by simp
 obj:=fun i h st b hb=>by
  have e:b=it:=by simpa using hb
  subst e
  exact ⟨_,st,fun v z=>by
   have z':Data.fields _=Data.cell v:=z
   cases z'⟩
 keep:=fun i h h' st k=>k it (by simp) _ st
 item:=by
  intro X hP hw hK hc i pins s σ H E I hf st hg
  subst hP hw hK
  obtain ⟨f0,f1,f2,f3,f4,f5⟩:=hf it (by simp)
  have W:=Walks.range (prog:=X.prog) (w:=X.w) (I.ok.hd hc) it lo 1 n
  refine W.item i s _ _ hg st fun v h' tk hv Gg kk=>?_
  obtain ⟨t,rfl⟩:=hv
  have I1:Inv X pins σ H { s with heap:=h',toks:=tk }:=I.turned (fun b o hb e=>kk b o (by simpa using hb) e) f0 f1 f3 f4 f5
  refine ⟨_,rfl,uR (s:={ s with heap:=h',toks:=tk }) (n:="range_iterator") Gg rfl rfl (by decide) ⟨.int (lo + i),H,I1,⟨t,?_⟩,⟨rfl,rfl⟩,Gg,fun b hb=>(hf b hb).1⟩⟩
  rw [Int.mul_one]
 done:=by
  intro X hP hw hK hc i pins s σ H E I hf st hg
  subst hP hw hK
  obtain ⟨f0,f1,f2,f3,f4,f5⟩:=hf it (by simp)
  exact wpAny_pyNext_range_end (I.ok.hd hc) st (by have:n≤i:=hg;lia) fun h' eb=>⟨rfl,I.turned (t':=s.toks) (fun b o hb e=>eb b o hb e) f0 f1 f3 f4 f5⟩
 self:=fun _ _ _ _ _ st h=>wpAny_pyIter_rangeiter st h
section
variable {X:Cx} {tg:Expr}
noncomputable def BD (K:W.Frag) (tl:TE):TI:=fun σ H R=>tl σ H fun x H1=>∃ a,x=.ref a∧(∃ xs,SqL K H1 a xs)∧R (Lw K a) H1
noncomputable def Dg (K:W.Frag) (tl:TE):TI:=fun σ H R=>tl σ H fun x H1=>∃ a,x=.ref a∧(∃ xs,SqT K H1 a xs)∧R (NI K a) H1
theorem rN {l:Expr} {tl:TE} (hl:PE X l tl):PI X tg l (BD X.K tl):=by
 intro pins s σ H R I h
 refine Ea (hl pins s σ H _ I h) fun v s1 Ee=>?_
 obtain ⟨x,H1,I1,r1,q1⟩:=Ee
 obtain ⟨a,e,⟨xs,hq⟩,q⟩:=q1
 subst e
 cases r1
 obtain ⟨DS,rv,p,hz⟩:=I1.list hq
 refine wpAny_pyIter_list p.isList ?_
 refine ⟨s1.heap.objs.size,[s1.heap.objs.size],_,_,H1,rfl,I1.kept (t':=s1.toks) fun b o e=>Heap.get?_push_of_some _ e,rM a _,⟨_,Heap.get?_push_size _ rfl,rfl,rfl⟩,fun b hb=>?_,q⟩
 have e:b=s1.heap.objs.size:=by simpa using hb
 subst e
 exact I1.fpOk (Nat.le_refl _) (I1.hok.fresh (Nat.le_refl _))
theorem ze {l:Expr} {tl:TE} (hl:PE X l tl):PI X tg l (Dg X.K tl):=by
 intro pins s σ H R I h
 refine Ea (hl pins s σ H _ I h) fun v s1 Ee=>?_
 obtain ⟨x,H1,I1,r1,q1⟩:=Ee
 obtain ⟨a,e,⟨xs,hq⟩,q⟩:=q1
 subst e
 cases r1
 obtain ⟨DS,rv,p,hz⟩:=I1.tuple hq
 refine wpAny_pyIter_tuple (show s1.heap.IsTuple a DS.toArray from p) ?_
 refine ⟨s1.heap.objs.size,[s1.heap.objs.size],_,_,H1,rfl,I1.kept (t':=s1.toks) fun b o e=>Heap.get?_push_of_some _ e,qK a _,⟨_,Heap.get?_push_size _ rfl,rfl,rfl⟩,fun b hb=>?_,q⟩
 have e:b=s1.heap.objs.size:=by simpa using hb
 subst e
 exact I1.fpOk (Nat.le_refl _) (I1.hok.fresh (Nat.le_refl _))
theorem pP {pins:List (Addr×Obj)} {σ:St} {H:Hp} {s:Shared} {R:It→Hp→Prop} {E:Value→Shared→Prop} {lo hi:Int} {t u v:Tok} {tk:Nat} (I:Inv X pins σ H s) (h1 : -(2 ^ 62)≤lo) (h2:lo < 2 ^ 62) (h3 : -(2 ^ 62)≤hi) (h4:hi < 2 ^ 62)
  (q:R (LO lo (hi - lo).toNat) H):wpAny (model X.prog X.w) X.A (pyIter (.ref s.heap.objs.size)) (OD X pins σ tg R) E { s with heap:=s.heap.push { cls:=.type "range",data:=.fields #[.int lo t,.int hi u,.int 1 v] },toks:=tk }:=by
 refine wpAny_pyIter_range (IsRange.new ..) (small_one h1 h2 h3 h4) ?_
 have I1:Inv X pins σ H { s with heap:=s.heap.push { cls:=.type "range",data:=.fields #[.int lo t,.int hi u,.int 1 v] },toks:=tk }:=I.kept fun b o e=>Heap.get?_push_of_some _ e
 refine ⟨(s.heap.push { cls:=.type "range",data:=.fields #[.int lo t,.int hi u,.int 1 v] }).objs.size,[(s.heap.push { cls:=.type "range",data:=.fields #[.int lo t,.int hi u,.int 1 v] }).objs.size],_,_,H,rfl,
  I1.kept (t':=tk) fun b o e=>Heap.get?_push_of_some _ e,qL _ lo (hi - lo).toNat,?_,fun b hb=>?_,q⟩
 ·have e1:lo + ((0:Nat):Int) * 1=lo:=by simp
  have e2:(((hi - lo).toNat:Nat):Int) - ((0:Nat):Int)=Builtin.Range.rangeSize lo hi 1:=by rw [rangeSize_one];split <;> lia
  show IsRangeIter _ _ (lo + ((0:Nat):Int) * 1) ((((hi - lo).toNat:Nat):Int) - ((0:Nat):Int)) 1
  rw [e1,e2]
  exact Heap.get?_push_size _ rfl
 ·have e:b=(s.heap.push { cls:=.type "range",data:=.fields #[.int lo t,.int hi u,.int 1 v] }).objs.size:=by simpa using hb
  subst e
  exact I1.fpOk (Nat.le_refl _) (I1.hok.fresh (Nat.le_refl _))
noncomputable def BE (ta:TA):TI:=fun σ H R=>ta σ H fun vs H1=>∃ j:Int,vs=[.int j]∧-(2 ^ 62)≤j∧j < 2 ^ 62∧R (LO 0 j.toNat) H1
noncomputable def BF (ta:TA):TI:=fun σ H R=>ta σ H fun vs H1=>∃ i j:Int,vs=[.int i,.int j]∧(-(2 ^ 62)≤i∧i < 2 ^ 62∧-(2 ^ 62)≤j∧j < 2 ^ 62)∧R (LO i (j - i).toNat) H1
theorem rO {a:Expr} {ta:TA} {p pos:Pos} (hg:Gl X "range") (hm:X.mg "range" = none) (ha:PA X [a] ta) (hs:starEach [a] X.env=[(false,eval a X.env)]:=by rfl):PI X tg (.Call (.Name "range" p) [a] [] pos) (BE ta):=by
 intro pins s σ H R I h
 refine Call_ (j8 I hg hm boot_range (PyProof.Rows.callWith_type1 (Ea (ha pos pins s σ H _ I h) fun us s1 ⟨vs,H1,I1,r1,q1⟩=>?_) hs rfl))
 obtain ⟨j,e,q1,q2,q⟩:=q1
 subst e
 cases r1 with
 | cons r rr=>
  cases rr
  obtain ⟨t,rfl⟩:=r
  exact call_range_1 (pP I1 (by lia) (by lia) q1 q2 (by simpa using q))
theorem rP {a b:Expr} {ta:TA} {p pos:Pos} (hg:Gl X "range") (hm:X.mg "range" = none) (ha:PA X [a,b] ta) (hs:starEach [a,b] X.env=[(false,eval a X.env),(false,eval b X.env)]:=by rfl) (Kk:starEach [b] X.env=[(false,eval b X.env)]:=by rfl) :
  PI X tg (.Call (.Name "range" p) [a,b] [] pos) (BF ta):=by
 intro pins s σ H R I h
 refine Call_ (j8 I hg hm boot_range (PyProof.Rows.callWith_type1 (Ea (ha pos pins s σ H _ I h) fun us s1 ⟨vs,H1,I1,r1,q1⟩=>?_) (by rw [hs,Kk]) (by rw [Kk];rfl)))
 obtain ⟨i,j,e,⟨q1,q2,q3,q4⟩,q⟩:=q1
 subst e
 cases r1 with
 | cons r rr=>
  cases rr with
  | cons r' rr=>
   cases rr
   obtain ⟨t,rfl⟩:=r
   obtain ⟨t',rfl⟩:=r'
   exact call_range_2 (pP I1 q1 q2 q3 q4 q)
noncomputable def Dh (wi:TI) (g:TG) (tb:TS):TS:=fun D σ H=>wi σ H fun J H1=>∃ W:Nat→Nat→St→Hp→Prop,(∃ m,W 0 m σ H1)∧∀ i m σ H,W i m σ H→
 (J.stop i H∧D.nx σ H)∨(J.go i H∧∃ N:St→Hp→Prop,(∀ σ' H',N σ' H'→∃ m',m' < m∧W (i + 1) m' σ' H')∧∀ x H',J.yld i H x H'→g x σ H' fun σ2 H2=>tb { D with nx:=N,ct:=N,bk:=D.nx } σ2 H2)
noncomputable def m9 (fp:List Addr) (h:Heap):List (Addr×Obj):=fp.filterMap fun b=>(h.get? b).map fun o=>(b,o)
theorem gT {fp:List Addr} {h:Heap} {b:Addr} {o:Obj} (hb:b∈fp) (e:h.get? b=some o):(b,o)∈m9 fp h:=List.mem_filterMap.mpr ⟨b,hb,by rw [e];rfl⟩
theorem rQ {fp:List Addr} {h:Heap} {p:Addr×Obj} (hp:p∈m9 fp h):p.1∈fp∧h.get? p.1=some p.2:=by
 obtain ⟨b,hb,e⟩:=List.mem_filterMap.mp hp
 cases q:h.get? b with
 | none=>rw [q] at e;cases e
 | some o=>
  rw [q] at e
  have e':(b,o)=p:=Option.some.inj e
  subst e'
  exact ⟨hb,q⟩
theorem Inv.pinned {pins:List (Addr×Obj)} {σ:St} {H:Hp} {s:Shared} {fp:List Addr} (I:Inv X pins σ H s) (hf:∀ b∈fp,rE X pins H b) (ho:∀ b∈fp,∃ o,s.heap.get? b=some o∧∀ v,o.data≠.cell v):Inv X (pins++m9 fp s.heap) σ H s:=
 I.pins_of fun p hp=>(List.mem_append.mp hp).elim (fun z=>I.pin p (List.mem_append_right _ z)) fun z=>by
  obtain ⟨hb,e⟩:=rQ z
  obtain ⟨f0,f1,f2,_⟩:=hf p.1 hb
  obtain ⟨o,e',d⟩:=ho p.1 hb
  rw [e] at e';cases e'
  exact ⟨e,f0,f1,f2,d⟩
theorem Inv.unpinned {pins pl:List (Addr×Obj)} {σ:St} {H:Hp} {s:Shared} (I:Inv X (pins++pl) σ H s):Inv X pins σ H s:=I.pins_of fun p hp=>I.pin p (List.mem_append_right _ (List.mem_append_left _ hp))
theorem zf {iter:Expr} {body:List Stmt} {wi:TI} {g:TG} {tb:TS} {pos:Pos} (hp:PassesOwn (model X.prog X.w) X.A X.env X.xe) (hc:X.calm=true) (hi:PI X tg iter wi) (hg:PG X tg g) (hb:PSs X body tb)
  (hs:∀ x,foldedSetIterable iter X.env x=pure x:=by intro _;rfl):PS X (.For tg iter body [] pos) (Dh wi g tb):=by
 intro pins s σ H D I h
 refine wpAny_For (Ea (hi pins s σ H _ I h) fun v s1 h1=>Ea h1 fun Nf s2 h2=>?_) hs
 obtain ⟨it,fp,tn,J,H2,e,I2,T,D1,f2,W,⟨m0,w0⟩,turn⟩:=h2
 subst e
 have Hl:∀ {H':Hp},(∀ b∈fp,H' b=none)→∀ b∈fp,rE X pins H' b:=fun hn b hb=>⟨hn b hb,(f2 b hb).2⟩
 refine codeAny_forLoop_any (fun n s'=>∃ i σ' H',Inv X pins σ' H' s'∧tn i s'.heap∧(∀ b∈fp,H' b=none)∧W i n σ' H') ?_ m0 ⟨0,σ,H2,I2,D1,fun b hb=>(f2 b hb).1,w0⟩
 rintro n s3 ⟨i,σ3,H3,I3,Ez,KC,w3⟩
 rcases turn i n σ3 H3 w3 with ⟨stop,qn⟩ | ⟨go,N,hN,step⟩
 ·refine wpAny_passesOwn hp (Ea (T.done X rfl rfl rfl hc i pins s3 σ3 H3 X.xe I3 (Hl KC) Ez stop) fun r s4 Ee=>?_)
  obtain ⟨hr,I4⟩:=Ee
  subst hr
  exact wpAny_execs_nil ⟨σ3,H3,I4,qn⟩
 ·refine wpAny_passesOwn hp (Ea (T.item X rfl rfl rfl hc i pins s3 σ3 H3 X.xe I3 (Hl KC) Ez go) fun r s4 Ee=>?_)
  obtain ⟨u,hr,h4⟩:=Ee
  subst hr
  refine wpAny_passesOwn hp (Ea h4 fun _ s5 Ee=>?_)
  obtain ⟨x,H5,I5,r5,y5,F3,NJ⟩:=Ee
  have NK:=I5.pinned (Hl NJ) (T.obj _ _ F3)
  refine wpAny_passesOwn hp (Ea (hg _ s5 σ3 H5 x u _ NK r5 (step x H5 y5)) fun _ s6 Ee=>?_)
  obtain ⟨σ6,H6,I6,q6⟩:=Ee
  refine wpAny_passesOwn hp (Ea (hb _ s6 σ6 H6 _ I6 q6) fun f s7 q7=>?_)
  have again:∀ {σ7:St} {H7:Hp},Inv X (pins++m9 fp s5.heap) σ7 H7 s7→N σ7 H7→∃ m,m < n∧∃ i σ' H',Inv X pins σ' H' s7∧tn i s7.heap∧(∀ b∈fp,H' b=none)∧W i m σ' H':=fun {σ7 H7} I7 n7=>by
   obtain ⟨m',hm,w7⟩:=hN σ7 H7 n7
   refine ⟨m',hm,i + 1,σ7,H7,I7.unpinned,T.keep _ _ _ F3 fun b hb o e=>(I7.pin (b,o) (List.mem_append_right _ (List.mem_append_right _ (gT hb e)))).1,fun b hb=>?_,w7⟩
   obtain ⟨o,e,d⟩:=T.obj _ _ F3 b hb
   exact (I7.pin (b,o) (List.mem_append_right _ (List.mem_append_right _ (gT hb e)))).2.1
  cases f with
  | next=>obtain ⟨σ7,H7,I7,n7⟩:=q7;exact again I7 n7
  | cont=>obtain ⟨σ7,H7,I7,n7⟩:=q7;exact again I7 n7
  | brk=>obtain ⟨σ7,H7,I7,q7⟩:=q7;exact ⟨σ7,H7,I7.unpinned,q7⟩
  | ret v=>obtain ⟨x7,σ7,H7,I7,r7,q7⟩:=q7;exact ⟨x7,σ7,H7,I7.unpinned,r7,q7⟩
end
theorem for_list {K:W.Frag} {a:Addr} {xs:List V} {g:TG} {tb:TS} {D:Ends} {σ:St} {H:Hp} (Pv:Nat→St→Hp→Prop) (h0:Pv 0 σ H) (hl:∀ i σ H,i≤xs.length→Pv i σ H→SqL K H a xs)
  (hs:∀ i x σ H,xs[i]?=some x→Pv i σ H→g x σ H fun σ2 H2=>tb { D with nx:=Pv (i + 1),ct:=Pv (i + 1),bk:=D.nx } σ2 H2) (hd:∀ σ H,Pv xs.length σ H→D.nx σ H) :
  ∃ W:Nat→Nat→St→Hp→Prop,(∃ m,W 0 m σ H)∧∀ i m σ H,W i m σ H→
   ((Lw K a).stop i H∧D.nx σ H)∨((Lw K a).go i H∧∃ N:St→Hp→Prop,(∀ σ' H',N σ' H'→∃ m',m' < m∧W (i + 1) m' σ' H')∧∀ x H',(Lw K a).yld i H x H'→g x σ H' fun σ2 H2=>tb { D with nx:=N,ct:=N,bk:=D.nx } σ2 H2):=by
 refine ⟨fun i m σ H=>m=xs.length - i∧i≤xs.length∧Pv i σ H,⟨xs.length,by simp,Nat.zero_le _,h0⟩,?_⟩
 rintro i m σ H ⟨rfl,hi,p⟩
 have q:=hl i σ H hi p
 by_cases Eu:i < xs.length
 ·refine .inr ⟨⟨xs,xs[i],q,by simp [Eu]⟩,Pv (i + 1),fun σ' H' p'=>⟨xs.length - (i + 1),by lia,rfl,Eu,p'⟩,fun x H' y=>?_⟩
  obtain ⟨e,y⟩:=y
  subst e
  exact hs i x σ _ (y xs q) p
 ·have e:i=xs.length:=by lia
  subst e
  exact .inl ⟨⟨xs,q,Nat.le_refl _⟩,hd σ H p⟩
abbrev R2:=V→V→Hp→VK→Prop
def EE (X:Cx) (f:Value→Value→Sem Value) (r:R2):Prop:=
 ∀ (pins:List (Addr×Obj)) (s:Shared) (σ:St) (H:Hp) (x y:V) (v u:Value) (Q:VK),Inv X pins σ H s→RelV x v→RelV y u→r x y H Q→
  wpAny (model X.prog X.w) X.A (f v u) (EP X pins σ Q) X.xe s
def NL (X:Cx) (f:Value→Sem Value) (r:V→Hp→VK→Prop):Prop:=
 ∀ (pins:List (Addr×Obj)) (s:Shared) (σ:St) (H:Hp) (x:V) (v:Value) (Q:VK),Inv X pins σ H s→RelV x v→r x H Q→
  wpAny (model X.prog X.w) X.A (f v) (EP X pins σ Q) X.xe s
def dE (X:Cx) (f:Value) (r:List V→Hp→VK→Prop):Prop:=
 ∀ (pins:List (Addr×Obj)) (s:Shared) (σ:St) (H:Hp) (xs:List V) (us:List Value) (Q:VK),Inv X pins σ H s→Vals xs us→r xs H Q→
  wpAny (model X.prog X.w) X.A (call f us) (EP X pins σ Q) X.xe s
noncomputable def Lx (r:R2) (ta tb:TE):TE:=fun σ H Q=>ta σ H fun x H1=>tb σ H1 fun y H2=>r x y H2 Q
noncomputable def tUn (r:V→Hp→VK→Prop) (ta:TE):TE:=fun σ H Q=>ta σ H fun x H1=>r x H1 Q
noncomputable def rI (C:Int→Int→Prop) (g:Int→Int→V):R2:=fun x y H Q=>∃ i j,x=.int i∧y=.int j∧C i j∧Q (g i j) H
noncomputable def Ly (g:Int→Int→V):R2:=fun x y H Q=>∃ i j,x=.int i∧y=.int j∧Q (g i j) H
noncomputable def rU (g:Int→V):V→Hp→VK→Prop:=fun x H Q=>∃ i,x=.int i∧Q (g i) H
section
variable {X:Cx} {a b c:Expr} {ta tb tc:TE} {pos:Pos}
theorem BG (ha:PE X a ta) (hb:PE X b tb) {pins:List (Addr×Obj)} {s:Shared} {σ:St} {H:Hp} {R:V→V→Hp→Prop} (I:Inv X pins σ H s)
  (h:ta σ H fun x H1=>tb σ H1 fun y H2=>R x y H2) {Q:Value→Shared→Prop} {f:Value→Value→Sem Value}
  (hf:∀ v u s2 x y H2,Inv X pins σ H2 s2→RelV x v→RelV y u→R x y H2→wpAny (model X.prog X.w) X.A (f v u) Q X.xe s2) :
  wpAny (model X.prog X.w) X.A (eval a X.env) (fun v s₁=>wpAny (model X.prog X.w) X.A (eval b X.env) (fun u s₂=>wpAny (model X.prog X.w) X.A (f v u) Q X.xe s₂) X.xe s₁) X.xe s:=by
 refine Ea (ha pins s σ H _ I h) fun v s1 Ee=>?_
 obtain ⟨x,H1,I1,r1,q1⟩:=Ee
 refine Ea (hb pins s1 σ H1 _ I1 q1) fun u s2 Ee=>?_
 obtain ⟨y,H2,I2,r2,q2⟩:=Ee
 exact hf v u s2 x y H2 I2 r1 r2 q2
theorem BH {op:Operator} {r:R2} (ho:EE X (binaryOp op) r) (ha:PE X a ta) (hb:PE X b tb):PE X (.BinOp a op b pos) (Lx r ta tb):=by
 intro pins s σ H Q I h
 exact wpAny_BinOp (BG ha hb I h fun v u s2 x y H2 I2 rx ry q=>ho pins s2 σ H2 x y v u Q I2 rx ry q)
theorem BI {op:UnaryOp} {r:V→Hp→VK→Prop} (ho:NL X (unaryOp op) r) (ha:PE X a ta):PE X (.UnaryOp op a pos) (tUn r ta):=by
 intro pins s σ H Q I h
 exact UnaryOp_ (Ea (ha pins s σ H _ I h) fun v s1 ⟨x,H1,I1,r1,q1⟩=>ho pins s1 σ H1 x v Q I1 r1 q1)
theorem LP {f:Value→Value→Sem Value} {C:Int→Int→Prop} {g:Int→Int→Int}
  (rule:∀ (i j:Int) (t u:Tok) (s:Shared) (Q:Value→Shared→Prop) (E:Value→Shared→Prop),C i j→Q (.int (g i j) s.toks) { s with toks:=s.toks + 1 }→wpAny (model X.prog X.w) X.A (f (.int i t) (.int j u)) Q E s) :
  EE X f (rI C fun i j=>.int (g i j)):=by
 intro pins s σ H x y v u Q I rx ry h
 obtain ⟨i,j,rfl,rfl,hc,q⟩:=h
 obtain ⟨t,rfl⟩:=rx
 obtain ⟨t',rfl⟩:=ry
 exact rule i j t t' s _ _ hc ⟨.int (g i j),H,I.tok _,⟨_,rfl⟩,q⟩
theorem CS {f:Value→Value→Sem Value} {g:Int→Int→Int}
  (rule:∀ (i j:Int) (t u:Tok) (s:Shared) (Q:Value→Shared→Prop) (E:Value→Shared→Prop),Q (.int (g i j) s.toks) { s with toks:=s.toks + 1 }→wpAny (model X.prog X.w) X.A (f (.int i t) (.int j u)) Q E s) :
  EE X f (Ly fun i j=>.int (g i j)):=by
 intro pins s σ H x y v u Q I rx ry h
 obtain ⟨i,j,rfl,rfl,q⟩:=h
 obtain ⟨t,rfl⟩:=rx
 obtain ⟨t',rfl⟩:=ry
 exact rule i j t t' s _ _ ⟨.int (g i j),H,I.tok _,⟨_,rfl⟩,q⟩
theorem CT {f:Value→Value→Sem Value} {g:Int→Int→Bool}
  (rule:∀ (i j:Int) (t u:Tok) (s:Shared) (Q:Value→Shared→Prop) (E:Value→Shared→Prop),Q (.bool (g i j)) s→wpAny (model X.prog X.w) X.A (f (.int i t) (.int j u)) Q E s) :
  EE X f (Ly fun i j=>.bl (g i j)):=by
 intro pins s σ H x y v u Q I rx ry h
 obtain ⟨i,j,rfl,rfl,q⟩:=h
 obtain ⟨t,rfl⟩:=rx
 obtain ⟨t',rfl⟩:=ry
 exact rule i j t t' s _ _ ⟨.bl (g i j),H,I,rfl,q⟩
def Di (i j:Int):Prop:=0 < j∧j < 1073741824
def Dj (i j:Int):Prop:=0≤j∧j≤1000000∧i.natAbs < 2 ^ 64
def CMul (i j:Int):Prop:=(-(2 ^ 64) < i∧i < 2 ^ 64)∨(-(2 ^ 64) < j∧j < 2 ^ 64)
theorem CMul.ok {i j:Int} (h:CMul i j):IntMulOk i j:=by
 rcases h with ⟨h1,h2⟩ | ⟨h1,h2⟩
 ·exact .of_left (intBits_le_64 h1 h2)
 ·exact .of_right (intBits_le_64 h1 h2)
theorem zg:EE X (binaryOp .Add) (Ly fun i j=>.int (i + j)):=CS fun _ _ _ _ _ _ _ q=>add_int q
theorem zh:EE X (binaryOp .Sub) (Ly fun i j=>.int (i - j)):=CS fun _ _ _ _ _ _ _ q=>sub_int q
theorem zi:EE X (binaryOp .Mult) (rI CMul fun i j=>.int (i * j)):=LP fun _ _ _ _ _ _ _ hc q=>mul_int q hc.ok
theorem w5:EE X (binaryOp .FloorDiv) (rI Di fun i j=>.int (i / j)):=LP fun i j _ _ _ _ _ hc q=>by
 have h1:(0:Int) < j:=hc.1
 have h2:j < 1073741824:=hc.2
 exact floordiv_int (by lia) (by rw [Int.fdiv_eq_ediv_of_nonneg i (by lia)];exact q) (.inl (PyProof.noPylong_small (by lia)))
theorem zj:EE X (binaryOp .Mod) (rI (fun _ j=>0 < j) fun i j=>.int (i % j)):=LP fun i j _ _ _ _ _ hc q=>by
 have h1:(0:Int) < j:=hc
 exact mod_int' (by lia) (by rw [Int.fmod_eq_emod_of_nonneg i (by lia)];exact q)
theorem zk:EE X (binaryOp .Pow) (rI Dj fun i j=>.int (i ^ j.toNat)):=LP fun _ _ _ _ _ _ _ hc q=>pow_int_small hc.1 hc.2.1 hc.2.2 q
theorem unI {f:Value→Sem Value} {g:Int→Int}
  (rule:∀ (i:Int) (t:Tok) (s:Shared) (Q:Value→Shared→Prop) (E:Value→Shared→Prop),Q (.int (g i) s.toks) { s with toks:=s.toks + 1 }→wpAny (model X.prog X.w) X.A (f (.int i t)) Q E s) :
  NL X f (rU fun i=>.int (g i)):=by
 intro pins s σ H x v Q I rx h
 obtain ⟨i,rfl,q⟩:=h
 obtain ⟨t,rfl⟩:=rx
 exact rule i t s _ _ ⟨.int (g i),H,I.tok _,⟨_,rfl⟩,q⟩
theorem zl:NL X (unaryOp .USub) (rU fun i=>.int (-i)):=unI fun _ _ _ _ _ q=>neg_int q
end
section
variable {X:Cx} {a b c:Expr} {ta tb tc:TE} {pos:Pos}
theorem rR {pins:List (Addr×Obj)} {σ:St} {H:Hp} {s:Shared} {Q:VK} {k k':Bool} (I:Inv X pins σ H s) (q:Q (.bl k) H) (e:k=k'):EP X pins σ Q (.bool k') s:=by
 subst e
 exact ⟨.bl k,H,I,rfl,q⟩
theorem BJ:EE X (compareOp .Lt) (Ly fun i j=>.bl (decide (i < j))):=CT fun _ _ _ _ _ _ _ q=>lt_int q
theorem BK:EE X (compareOp .Gt) (Ly fun i j=>.bl (decide (j < i))):=CT fun _ _ _ _ _ _ _ q=>gt_int q
theorem rS:EE X (compareOp .Lt) (fun x y H Q=>∃ i j,x=.str i∧y=.str j∧Q (.bl (decide (i.cps.toList < j.cps.toList))) H):=by
 intro pins s σ H x y v u Q I rx ry h
 obtain ⟨i,j,rfl,rfl,q⟩:=h
 obtain ⟨t,rfl⟩:=rx
 obtain ⟨t',rfl⟩:=ry
 exact lt_str (rR I q rfl)
theorem rT:EE X (compareOp .In) (fun x y H Q=>∃ i j,x=.str i∧y=.str j∧Q (.bl (!(Builtin.Str.occurrences j i 0 j.length 1).isEmpty)) H):=by
 intro pins s σ H x y v u Q I rx ry h
 obtain ⟨i,j,rfl,rfl,q⟩:=h
 obtain ⟨t,rfl⟩:=rx
 obtain ⟨t',rfl⟩:=ry
 exact in_str (rR I q rfl)
theorem ng:EE X (compareOp .NotIn) (fun x y H Q=>∃ i j,x=.str i∧y=.str j∧Q (.bl (!(!(Builtin.Str.occurrences j i 0 j.length 1).isEmpty))) H):=by
 intro pins s σ H x y v u Q I rx ry h
 obtain ⟨i,j,rfl,rfl,q⟩:=h
 obtain ⟨t,rfl⟩:=rx
 obtain ⟨t',rfl⟩:=ry
 exact notIn_str (rR I q rfl)
theorem bJ (b:Expr) {op:CmpOp} (h:op≠.In:=by decide) (h2:op≠.NotIn:=by decide):behindInMarks op b=false:=by
 have e1:(op == CmpOp.In)=false:=by cases op <;> first | rfl | exact absurd rfl h
 have e2:(op == CmpOp.NotIn)=false:=by cases op <;> first | rfl | exact absurd rfl h2
 cases b <;> simp [behindInMarks,e1,e2]
theorem w6 {op:CmpOp} {r:R2} (ho:EE X (compareOp op) r) (ha:PE X a ta) (hb:PE X b tb) (hm:behindInMarks op b=false):PE X (.Compare a [op] [b] pos) (Lx r ta tb):=by
 intro pins s σ H Q I h
 exact wpAny_Compare1 (BG ha hb I h fun v u s2 x y H2 I2 rx ry q=>ho pins s2 σ H2 x y v u Q I2 rx ry q) hm
noncomputable def BL (t:TE):TT:=fun σ H Q=>t σ H fun x H'=>∃ k,x=.bl k∧Q k H'
theorem rV {op:CmpOp} {r:R2} (ho:EE X (compareOp op) r) (ha:PE X a ta) (hb:PE X b tb) (hm:behindInMarks op b=false):PT X (.Compare a [op] [b] pos) (BL (Lx r ta tb)):=by
 intro pins s σ H Q I h
 refine wpAny_isTrue_Compare1 (Ea (ha pins s σ H _ I h) fun v s1 ⟨x,H1,I1,r1,q1⟩=>Ea (hb pins s1 σ H1 _ I1 q1) fun u s2 ⟨y,H2,I2,r2,q2⟩=>
  Ea (ho pins s2 σ H2 x y v u _ I2 r1 r2 q2) fun c s3 ⟨z,H3,I3,r3,k,e,q3⟩=>?_) hm
 subst e
 cases r3
 exact wpAny_truthy_bool ⟨H3,I3,q3⟩
theorem lD:(sizeLine:Nat) < 2 ^ 63:=by rw [sizeLine_eq];decide
theorem qM:EE X (binaryOp .Add) (fun x y H Q=>∃ i j,x=.str i∧y=.str j∧i.length + j.length≤sizeLine∧Q (.str (i++j)) H):=by
 intro pins s σ H x y v u Q I rx ry h
 obtain ⟨i,j,rfl,rfl,hz,q⟩:=h
 obtain ⟨t,rfl⟩:=rx
 obtain ⟨t',rfl⟩:=ry
 exact add_str (fun t' tk=>⟨.str (i++j),H,I.tok _,⟨_,rfl⟩,q⟩) hz
theorem gc {x:V} {us:List Value} (r:Vals [x] us):∃ u,us=[u]∧RelV x u:=by
 cases r with
 | cons r1 r2=>cases r2;exact ⟨_,rfl,r1⟩
theorem uS {x y:V} {us:List Value} (r:Vals [x,y] us):∃ u w',us=[u,w']∧RelV x u∧RelV y w':=by
 cases r with
 | cons r1 r2=>
  cases r2 with
  | cons r3 r4=>cases r4;exact ⟨_,_,rfl,r1,r3⟩
theorem rW (hc:X.calm=true):dE X (.builtin "min") (fun xs H Q=>∃ i j,xs=[.int i,.int j]∧Q (.int (if j < i then j else i)) H):=by
 intro pins s σ H xs us Q I r h
 obtain ⟨i,j,rfl,q⟩:=h
 obtain ⟨u,w',rfl,⟨t,rfl⟩,⟨t',rfl⟩⟩:=uS r
 refine min_two_ints (I.ok.hd hc) fun h' tk k=>⟨_,H,I.kept k,?_,q⟩
 by_cases hj:j < i
 ·rw [if_pos hj,if_pos hj];exact ⟨_,rfl⟩
 ·rw [if_neg hj,if_neg hj];exact ⟨_,rfl⟩
end
section
variable {prog:Program} {w:World} {A:Around} {E:Value→Shared→Prop} {s:Shared} {K:W.Frag} {x dx C f:Addr} {mA:Str→Option Value} {name:Str} {v:Value}
end
theorem RelO.some_of {v:V} {o:Option Value} (r:RelO (some v) o):∃ u,o=some u∧RelV v u:=by
 cases o with
 | none=>exact (show False from r).elim
 | some u=>exact ⟨u,rfl,r⟩
theorem RelO.none_of {o:Option Value} (r:RelO none o):o=none:=by
 cases o with
 | none=>rfl
 | some u=>exact (show False from r).elim
section
variable {P:Program} {w:World} {H H':Hp} {h h':Heap} {a C dx:Addr} {fs fs':List (Str×V)}
end
section
variable {X:Cx} {pins:List (Addr×Obj)} {σ:St} {H:Hp} {s:Shared} {a C dx:Addr} {fs:List (Str×V)} {f:Str} {v:V} {A:Around} {E:Value→Shared→Prop}
end
section
variable {X:Cx} {o e value:Expr} {f:Str} {pos pos' tpos:Pos} {ta tv:TE}
end
section
variable {X:Cx} {pins:List (Addr×Obj)} {σ:St} {H:Hp} {s:Shared} {A:Around} {E:Value→Shared→Prop} {Q:Value→Shared→Prop} {c:Value} {b:Bool}
end
structure Room (k:Nat) (A:Around):Prop where
 hd:A.handled=none
 dp:A.depth + 3 * k + 5 < recursionLimit
 un:A.units + 16 * k + 200 < cLine
theorem Room.mono {j k:Nat} {A:Around} (r:Room k A) (h:j≤k):Room j A:=⟨r.hd,by have:=r.dp;lia,by have:=r.un;lia⟩
theorem Room.m {j k:Nat} {A:Around} (r:Room k A) (h:j≤k:=by decide):Room j A:=r.mono h
theorem Room.deeper {k:Nat} {A:Around} (r:Room (k + 1) A) (env:Env):Room k (A.deeper env):=
 ⟨r.hd,by have:=r.dp;show A.depth + 1 + 3 * k + 5 < _;lia,by have:=r.un;show A.units + 3 + 16 * k + 200 < _;lia⟩
theorem Room.depth {k:Nat} {A:Around} (r:Room k A):A.depth < recursionLimit:=by have:=r.dp;lia
theorem Room.units {k:Nat} {A:Around} (r:Room k A):A.units + 64 < cLine:=by have:=r.un;lia
theorem Room.units0 {k:Nat} {A:Around} (r:Room k A):A.units < cLine:=by have:=r.un;lia
noncomputable def Bo:TA:=fun _ H Q=>Q [] H
noncomputable def uT (ta:TE) (tr:TA):TA:=fun σ H Q=>ta σ H fun x H1=>tr σ H1 fun xs H2=>Q (x :: xs) H2
section
variable {X:Cx} {e:Expr} {es:List Expr} {te:TE} {t:TA} {pos:Pos}
theorem nh:PA X [] Bo:=fun _ _ _ _ H Q I h=>Calls.spliced_nil ⟨[],H,I,.nil,h⟩
theorem gf (ha:PE X e te) (hr:PA X es t) (hs:starEach (e :: es) X.env=(false,eval e X.env) :: starEach es X.env:=by rfl):PA X (e :: es) (uT te t):=by
 intro pos pins s σ H Q I h
 rw [hs]
 show wpAny _ _ (spliced ((false,eval e X.env) :: backTo pos (starEach es X.env))) _ _ s
 refine Calls.spliced_cons (Ea (ha pins s σ H _ I h) fun u s1 Ee=>?_)
 obtain ⟨x,H1,I1,r1,q1⟩:=Ee
 exact Ea (hr pos pins s1 σ H1 _ I1 q1) fun us s2 ⟨xs,H2,I2,r2,q2⟩=>⟨x :: xs,H2,I2,.cons r1 r2,q2⟩
noncomputable def Dk (t:TA):TE:=fun σ H Q=>t σ H fun xs H1=>xs.length≤sizeLine∧∀ p,H1 p=none→Q (.ref p) (upd H1 p (.tup xs))
noncomputable def Dl (t:TA):TE:=fun σ H Q=>t σ H fun xs H1=>xs.length≤sizeLine∧∀ p,H1 p=none→Q (.ref p) (upd H1 p (.lst xs))
theorem v5 {x1} (h:PA X es t):PE X (.Tuple es x1 pos) (Dk t):=by
 intro pins s σ H Q I hq
 refine wpAny_Tuple_spliced (Ea (h pos pins s σ H _ I hq) fun us s1 ⟨xs,H1,I1,r,z,q⟩=>⟨by rw [←r.length];exact z,?_⟩)
 have hf:H1 s1.heap.objs.size=none:=I1.hok.fresh (Nat.le_refl _)
 refine ⟨.ref s1.heap.objs.size,upd H1 s1.heap.objs.size (.tup xs),I1.laid (t':=s1.toks) (fun b u e=>Heap.get?_push_of_some _ e) (Nat.le_refl _) ?_,rfl,q _ hf⟩
 exact ⟨z,us,r,⟨_,Heap.get?_push_size _ rfl,rfl,⟨_,rfl⟩,rfl⟩⟩
theorem zm (h:PA X es t):PE X (.List es pos) (Dl t):=by
 intro pins s σ H Q I hq
 refine wpAny_List_spliced (Ea (h pos pins s σ H _ I hq) fun us s1 ⟨xs,H1,I1,r,z,q⟩=>⟨by rw [←r.length];exact z,?_⟩)
 have hf:H1 s1.heap.objs.size=none:=I1.hok.fresh (Nat.le_refl _)
 refine ⟨.ref s1.heap.objs.size,upd H1 s1.heap.objs.size (.lst xs),I1.laid (t':=s1.toks) (fun b u e=>Heap.get?_push_of_some _ e) (Nat.le_refl _) ?_,rfl,q _ hf⟩
 exact ⟨z,us,0,r,Heap.get?_push_size _ rfl⟩
end
abbrev Sp:=List V→Hp→VK→XK→Prop
abbrev Iy:=List Env→Hp→Shared→XK→Value→Shared→Prop
structure Env0 (P:Program) (w:World) (K:W.Frag) (mg:Str→Option Value) (base:Heap) (A:Around) (outer:List Env) (s:Shared) (H:Hp):Prop where
 frames:A.frames=some outer
 mod:Mod K mg base
 bs:∀ b o,base.get? b=some o→s.heap.get? b=some o∧H b=none
 bsz:base.objs.size≤s.heap.objs.size
 funs:s.heap.FunFrames base outer
 frf:∀ b∈Iw outer,H b=none
 hok:HOk P w H s.heap
 bare:AllBare s.gens
def CE (outer:List Env) (P:Program) (w:World) (H:Hp) (s:Shared) (Q:VK) (u:Value) (s':Shared):Prop:=
 ∃ v H',s'.os=s.os∧AllBare s'.gens∧Un (Iw outer) [] H H' s.heap s'.heap∧HOk P w H' s'.heap∧RelV v u∧Q v H'
def CR (CX:Iy) (outer:List Env) (P:Program) (w:World) (H:Hp) (s:Shared) (Q:VK) (E:XK) (r:Result) (s':Shared):Prop:=
 match r with
 | .ok (.ret u)=>CE outer P w H s Q u s'
 | .ok _=>False
 | .error e=>CX outer H s E e s'
structure FnOk (P:Program) (w:World) (K:W.Frag) (mg:Str→Option Value) (base:Heap) (CX:Iy) (k:Nat) (f:Addr) (fd:FuncData) (ps:List Str) (sp:Sp):Prop where
 len:∀ vs H Q E,sp vs H Q E→vs.length=ps.length
 run:∀ (A:Around) (outer:List Env) (s:Shared) (H:Hp) (args:Args) (us:List Value) (vs:List V) (Q:VK) (E:XK),Room k A→Env0 P w K mg base A outer s H→BindsTo s fd args (ps.zip us)→Vals vs us→sp vs H Q E→
  codeAny (model P w) A (.call (.ref f) args) (CR CX outer P w H s Q E) s
theorem FnOk.imp {P:Program} {w:World} {K:W.Frag} {mg:Str→Option Value} {base:Heap} {CX:Iy} {k:Nat} {f:Addr} {fd:FuncData} {ps:List Str} {sp OE:Sp} (F:FnOk P w K mg base CX k f fd ps sp)
  (h:∀ vs H Q E,OE vs H Q E→sp vs H Q E):FnOk P w K mg base CX k f fd ps OE:=
 ⟨fun vs H Q E q=>F.len vs H Q E (h _ _ _ _ q),fun A outer s H args us vs Q E hr he hb hv hs=>F.run A outer s H args us vs Q E hr he hb hv (h _ _ _ _ hs)⟩
section
variable {X:Cx} {pins:List (Addr×Obj)} {σ:St} {H:Hp} {s s':Shared}
theorem Inv.env0 (I:Inv X pins σ H s):Env0 X.prog X.w X.K X.mg X.base X.A X.stack s H:=
 ⟨I.ok.frames,I.ok.mod,I.bs,Nat.le_trans I.ok.bsz I.sz,I.stack,I.stkFree,I.hok,I.bare⟩
theorem Inv.after {Q:VK} {u:Value} (I:Inv X pins σ H s) (h:CE X.stack X.prog X.w H s Q u s'):EP X pins σ Q u s':=by
 obtain ⟨v,H',os,bare,un,hok,r,q⟩:=h
 obtain ⟨hh,g,d,t,os'⟩:=s'
 obtain rfl:os'=s.os:=os
 exact ⟨v,H',I.call (h':=hh) (g':=g) (d':=d) (t':=t) (ch:=[]) un hok bare (fun b z=>absurd z (by simp)),r,q⟩
end
noncomputable def tCall (sp:Sp) (Kl:List V) (E:XK) (t:TA):TE:=fun σ H Q=>t σ H fun vs H1=>sp (vs++Kl) H1 Q E
def Binds (K:W.Frag) (fd:FuncData) (ps:List Str) (ds:List Value):Prop:=
 ∀ (s:Shared) (us:List Value),K.In s.heap→(us++ds).length=ps.length→BindsTo s fd ⟨us,[]⟩ (ps.zip (us++ds))
theorem Binds.all {K:W.Frag} {fd:FuncData} {ps:List Str} (h:∀ us:List Value,us.length=ps.length→bindArgs fd ⟨us,[]⟩=pure (ps.zip us)):Binds K fd ps []:=fun s us _ hl=>by
 rw [List.append_nil] at hl ⊢
 exact .of_eq (h us hl)
def rX (CX:Iy) (X:Cx) (E:XK):Prop:=∀ (pins:List (Addr×Obj)) (σ:St) (H:Hp) (s:Shared) (e:Value) (s':Shared),Inv X pins σ H s→CX X.stack H s E e s'→X.xe e s'
section
variable {X:Cx} {CX:Iy} {k:Nat} {f C:Addr} {fd:FuncData} {ps:List Str} {sp:Sp} {Kl:List V} {ds:List Value} {E:XK} {x m:Str} {p pos apos:Pos} {e o:Expr} {es:List Expr} {ta:TE} {t:TA}
theorem zo {pins:List (Addr×Obj)} {σ:St} {H:Hp} {s:Shared} {Q:VK} {us:List Value} {vs:List V} (F:FnOk X.prog X.w X.K X.mg X.base CX k f fd ps sp) (hr:Room k X.A) (hb:Binds X.K fd ps ds) (hd:Vals Kl ds) (hx:rX CX X E)
  (I:Inv X pins σ H s) (r:Vals vs us) (h:sp (vs++Kl) H Q E):wpAny (model X.prog X.w) X.A (call (.ref f) us) (EP X pins σ Q) X.xe s:=by
 have r2:Vals (vs++Kl) (us++ds):=r.append hd
 have hl:(us++ds).length=ps.length:=by rw [←r2.length];exact F.len _ _ _ _ h
 refine wpAny_call (codeAny_mono (F.run X.A X.stack s H ⟨us,[]⟩ (us++ds) (vs++Kl) Q E hr I.env0 (hb s us I.kIn hl) r2 h) fun r s' hq=>?_)
 cases r with
 | error e=>exact hx pins σ H s e s' I hq
 | ok fl=>
  cases fl with
  | ret u=>exact I.after hq
  | next=>exact False.elim hq
  | brk=>exact False.elim hq
  | cont=>exact False.elim hq
theorem w9 (F:FnOk X.prog X.w X.K X.mg X.base CX k f fd ps sp) (hr:Room k X.A) (hg:Gl X x) (hm:X.mg x=some (.ref f)) (hk:PySem.W.keepIn X.K (.ref f)=true) (hb:Binds X.K fd ps ds) (hd:Vals Kl ds) (hx:rX CX X E)
  (ha:PA X (e :: es) t) (Gi:(x == ("__debug__" : Str))=false:=by decide) (he:starEach (e :: es) X.env=(false,eval e X.env) :: starEach es X.env:=by rfl) (FZ:(backTo pos (starEach es X.env)).any (·.1)=false:=by rfl) :
  PE X (.Call (.Name x p) (e :: es) [] pos) (tCall sp Kl E t):=by
 intro pins s σ H Q I h
 refine wpAny_Call_Name_kw (wR I hg hm ?_ Gi)
 refine PySem.W.callWith_K (h₀:=X.base) I.ok.mod.kin hk (Ea (ha pos pins s σ H _ I h) fun us s1 ⟨vs,H1,I1,r,q⟩=>⟨I1.kIn,?_⟩) he FZ
 exact zo F hr hb hd hx I1 r q
end
def PK (X:Cx) (LQ:List Keyword) (t:TA):Prop:=
 ∀ (pos:Pos) (pins:List (Addr×Obj)) (s:Shared) (σ:St) (H:Hp) (Q:List V→Hp→Prop),Inv X pins σ H s→t σ H Q→wpAny (model X.prog X.w) X.A (evalAll ((backToKw pos (keywordEach LQ X.env)).map (·.2))) (AP X pins σ Q) X.xe s
section
variable {X:Cx} {CX:Iy} {k:Nat} {f C:Addr} {fd:FuncData} {ps ks:List Str} {sp:Sp} {E:XK} {x m:Str} {p pos apos HR:Pos} {e o:Expr} {es:List Expr} {LQ:List Keyword} {te ta:TE} {t tk:TA} {nm:Option Str}
theorem zp:PK X [] Bo:=fun _ _ _ _ H Q I h=>wpAny_evalAll_nil ⟨[],H,I,.nil,h⟩
theorem xa (ha:PE X e te) (hr:PK X LQ t):PK X (⟨nm,e,HR⟩ :: LQ) (uT te t):=by
 intro pos pins s σ H Q I h
 show wpAny _ _ (evalAll ((do let v ←eval e X.env;standAt pos;pure v) :: (backToKw pos (keywordEach LQ X.env)).map (·.2))) _ _ s
 refine wpAny_evalAll_cons (wpAny_bind (Ea (ha pins s σ H _ I h) fun u s1 ⟨x,H1,I1,r1,q1⟩=>wpAny_bind (wpAny_standAt (wpAny_pure ?_))))
 exact Ea (hr pos pins s1 σ H1 _ I1 q1) fun us s2 ⟨xs,H2,I2,r2,q2⟩=>⟨x :: xs,H2,I2,.cons r1 r2,q2⟩
variable {g:List Value→List Value→List Value} {gV:List V→List V→List V}
end
structure FnScope (N P:List Str) (sc:Scope):Prop where
 kind:sc.kind=.function
 co:sc.isCoroutine=false
 gen:sc.isGenerator=false
 nd:N.Nodup
 pre:N.take P.length=P
 par:∀ x∈P,sc.names.lookup x=some .local∨sc.names.lookup x=some .cell
 nofree:∀ y∈sc.names,y.2≠.free
theorem fs {N P:List Str} {sc:Scope} (a:sc.kind=.function:=by rfl) (b:sc.isCoroutine=false:=by rfl) (c:sc.isGenerator=false:=by rfl) (d:N.Nodup:=by decide +kernel) (e:N.take P.length=P:=by rfl) (f:∀ x∈P,sc.names.lookup x=some .local∨sc.names.lookup x=some .cell:=by decide +kernel) (g:∀ y∈sc.names,y.2≠.free:=by decide +kernel):FnScope N P sc:=⟨a,b,c,d,e,f,g⟩
theorem ni {kindOf:Str→Option NameKind} {x:Str}:∀ {binds:List (Str×Value)} {m:Str→Option Value},(∀ v,(x,v)∉binds)→bindL kindOf binds m x=m x
 | [],_,_=>rfl
 | (n,v) :: r,m,h=>by
  unfold bindL
  rw [ni fun w hw=>h w (List.mem_cons_of_mem _ hw)]
  split
  ·have:x≠n:=by rintro rfl;exact h v List.mem_cons_self
   simp [this]
  ·rfl
theorem nj {kindOf:Str→Option NameKind} {x:Str}:∀ {binds:List (Str×Value)} {m:Str→Option Value},(∀ v,(x,v)∉binds)→bindC kindOf binds m x=m x
 | [],_,_=>rfl
 | (n,v) :: r,m,h=>by
  unfold bindC
  rw [nj fun w hw=>h w (List.mem_cons_of_mem _ hw)]
  split
  ·rfl
  ·have:x≠n:=by rintro rfl;exact h v List.mem_cons_self
   simp [this]
theorem nq {kindOf:Str→Option NameKind} {x:Str} {v:Value}:∀ {P:List Str} {vs:List Value} {i:Nat} {m:Str→Option Value},P.Nodup→P[i]?=some x→vs[i]?=some v→kindOf x=some .local→
  bindL kindOf (P.zip vs) m x=some v
 | [],_,_,_,_,h,_,_=>by simp at h
 | _ :: _,[],_,_,_,_,h,_=>by simp at h
 | p :: P,w :: vs,0,m,nd,h1,h2,hk=>by
  simp at h1 h2;subst h1;subst h2
  show bindL kindOf ((p,w) :: P.zip vs) m p=_
  unfold bindL
  rw [ni fun v hv=>(List.nodup_cons.mp nd).1 (List.of_mem_zip hv).1,if_pos hk]
  simp
 | p :: P,w :: vs,i + 1,m,nd,h1,h2,hk=>by
  show bindL kindOf ((p,w) :: P.zip vs) m x=_
  unfold bindL
  exact nq (i:=i) (List.nodup_cons.mp nd).2 (by simpa using h1) (by simpa using h2) hk
theorem nr {kindOf:Str→Option NameKind} {x:Str} {v:Value}:∀ {P:List Str} {vs:List Value} {i:Nat} {m:Str→Option Value},P.Nodup→P[i]?=some x→vs[i]?=some v→kindOf x≠some .local→
  bindC kindOf (P.zip vs) m x=some v
 | [],_,_,_,_,h,_,_=>by simp at h
 | _ :: _,[],_,_,_,_,h,_=>by simp at h
 | p :: P,w :: vs,0,m,nd,h1,h2,hk=>by
  simp at h1 h2;subst h1;subst h2
  show bindC kindOf ((p,w) :: P.zip vs) m p=_
  unfold bindC
  rw [nj fun v hv=>(List.nodup_cons.mp nd).1 (List.of_mem_zip hv).1,if_neg hk]
  simp
 | p :: P,w :: vs,i + 1,m,nd,h1,h2,hk=>by
  show bindC kindOf ((p,w) :: P.zip vs) m x=_
  unfold bindC
  exact nr (i:=i) (List.nodup_cons.mp nd).2 (by simpa using h1) (by simpa using h2) hk
noncomputable def start (N:List Str) (vs:List V):St:=vs.map some++List.replicate (N.length - vs.length) none
noncomputable def v7 (CX:Iy) (P:Program) (w:World) (K:W.Frag) (mg:Str→Option Value) (base:Heap) (N:List Str) (qual:Str) (scope:Scope) (f:Addr) (cd:Value) (A:Around) (outer:List Env) (s:Shared) (H:Hp) (E:XK):Cx where
 prog:=P
 w:=w
 K:=K
 mg:=mg
 base:=base
 A:=A.deeper (envOfC qual scope s.heap.objs.size f cd)
 N:=N
 s₀:=s
 H₀:=H
 env:=envOfC qual scope s.heap.objs.size f cd
 outer:=outer
 stack:=envOfC qual scope s.heap.objs.size f cd :: outer
 ex:=[]
 calm:=true
 fn:=fun _=>true
 pn:=[]
 xe:=fun e s'=>wpAny (model P w) (A.deeper (envOfC qual scope s.heap.objs.size f cd)) (leaving (envOfC qual scope s.heap.objs.size f cd) e) (fun _ NM=>CX outer H s E e NM) (fun e' NM=>CX outer H s E e' NM) s'
theorem pQ {sc:Scope} {n:Nat} {x:Str} (h:sc.names.lookup x=some .cell):∃ c,(cellsFrom n sc.names []).lookup x=some c:=by
 have q:=PySem.W.cellsFrom_some sc.names n [] (.inl h)
 exact Option.isSome_iff_exists.mp q
theorem rY {CX:Iy} {P:Program} {w:World} {K:W.Frag} {mg:Str→Option Value} {base:Heap} {N ps:List Str} {qual:Str} {scope:Scope} {f:Addr} {cd:Value} {A:Around} {outer:List Env} {s s1:Shared} {H:Hp} {E:XK} {us:List Value} {vs:List V}
  (S:FnScope N ps scope) (hd:A.handled=none) (e0:Env0 P w K mg base A outer s H) (hl:vs.length=ps.length) (r:Vals vs us)
  (x:InCallC s s.heap.objs.size (bindL (envOfC qual scope s.heap.objs.size f cd).kindOf (ps.zip us) fun _=>none) (cellsFrom (s.heap.objs.size + 1) scope.names []) (bindC (envOfC qual scope s.heap.objs.size f cd).kindOf (ps.zip us) fun _=>none) s1) :
  Inv (v7 CX P w K mg base N qual scope f cd A outer s H E) [] (start N vs) H s1:=by
 have FZ:ps.length≤N.length:=by have:=congrArg List.length S.pre;rw [List.length_take] at this;lia
 obtain ⟨h1,tk,rfl,hk⟩:=x.done
 have LR:∀ b:Addr,b∉(v7 CX P w K mg base N qual scope f cd A outer s H E).ex:=fun b z=>absurd (show b∈([]:List Addr) from z) (by simp)
 refine ⟨⟨e0.mod,S.kind,rfl,rfl,Nat.le_refl _,fun y z c h1 h2=>?_,fun y hy=>?_,fun y c _ h=>?_,fun _=>hd,Around.frames_deeper e0.frames,.inr ⟨rfl,rfl⟩,fun b z=>absurd z (LR b),e0.bs,e0.bsz,fun b _ _=>LR b,fun b z=>absurd z (LR b),e0.funs,e0.frf⟩,
  rfl,e0.bare,Un.kept hk,⟨_,x.toInCall.ns,fun i y v h1 h2 h3=>?_⟩,fun y c h=>⟨_,x.cell y c h⟩,e0.hok.fresh (Nat.le_refl _),fun y c h=>?_,fun p hp=>absurd (show p∈([]:List (Addr×Obj)) from hp) (by simp),e0.hok.kept hk,?_⟩
 ·exact name_of_addr x.apart (PySem.mem_of_lookup h1) (PySem.mem_of_lookup h2)
 ·have hy:scope.names.lookup y=some .cell∨scope.names.lookup y=some .free:=hy
  rcases hy with hy | hy
  ·exact pQ hy
  ·exact absurd rfl (S.nofree _ (PySem.mem_of_lookup hy))
 ·exact Nat.le_of_lt (x.above y c (PySem.mem_of_lookup h))
 ·have hi:i < vs.length:=by
   unfold start at h2
   by_cases hi:i < vs.length
   ·exact hi
   ·rw [List.getElem?_append_right (by simpa using hi)] at h2
    rw [List.getElem?_replicate] at h2
    split at h2 <;> cases h2
  have ha:vs[i]?=some v:=by
   unfold start at h2
   rw [List.getElem?_append_left (by simpa using hi),List.getElem?_map] at h2
   cases e:vs[i]? with
   | none=>rw [e] at h2;cases h2
   | some a=>rw [e] at h2;cases h2;rfl
  obtain ⟨u,hu,rv⟩:=r.get ha
  have hp:ps[i]?=some y:=by
   rw [←S.pre,List.getElem?_take_of_lt (by lia)];exact h1
  have OF:ps.Nodup:=by rw [←S.pre];exact S.nd.sublist (List.take_sublist _ _)
  refine ⟨u,rv,?_⟩
  rcases S.par y (List.mem_of_getElem? hp) with k | k
  ·exact .inl ⟨k,nq OF hp hu k⟩
  ·obtain ⟨c,e⟩:=pQ (n:=s.heap.objs.size + 1) k
   refine .inr ⟨.inl k,c,e,?_⟩
   have q:=x.cell y c e
   rw [nr OF hp hu (by show scope.names.lookup y≠_;rw [k];decide)] at q
   exact q
 ·exact e0.hok.fresh (Nat.le_of_lt (x.above y c (PySem.mem_of_lookup h)))
 ·unfold start
  show _=N.length
  rw [List.length_append,List.length_map,List.length_replicate]
  lia
theorem BM {CX:Iy} {P:Program} {w:World} {K:W.Frag} {mg:Str→Option Value} {base:Heap} {k:Nat} {f:Addr} {name qual:Str} {params:Arguments} {body:List Stmt} {scope:Scope} {dV kV doc pm Ej ct oc:Value} {an od:Option Addr}
  {Jl:Array (Option Value)} {N ps:List Str} {sp:Sp} (lk:K.lookup f=some ⟨oc,od,.func (PySem.W.fnOf name qual params body scope dV kV doc pm an Ej ct),Jl⟩) (ID:PySem.W.codeIn K Ej qual=true) (S:FnScope N ps scope)
  (len:∀ vs H Q E,sp vs H Q E→vs.length=ps.length)
  (IE:∀ (A:Around) (outer:List Env) (s:Shared) (H:Hp) (vs:List V) (Q:VK) (E:XK),Room k (A.deeper (envOfC qual scope s.heap.objs.size f Ej))→sp vs H Q E→
   ∃ t,PSs (v7 CX P w K mg base N qual scope f Ej A outer s H E) body t∧t { nx:=fun _ H'=>Q .non H',rt:=Q } (start N vs) H) :
  FnOk P w K mg base CX (k + 1) f (PySem.W.fnOf name qual params body scope dV kV doc pm an Ej ct) ps sp:=by
 refine ⟨len,fun A outer s H args us vs Q E hr e0 hb r IF=>?_⟩
 have hl:=len _ _ _ _ IF
 have KX:K.In s.heap:=e0.mod.kin.keeps fun b o e=>(e0.bs b o e).1
 have lim:s.heap.NoLimit:=e0.mod.nolimit.keeps fun b o e=>(e0.bs b o e).1
 have F4:∀ y∈ps.zip us,scope.names.lookup y.1=some .local∨(scope.names.lookup y.1=some .cell∧((cellsFrom (s.heap.objs.size + 1) scope.names []).lookup y.1).isSome=true):=fun D6 hy=>by
  obtain ⟨n,v⟩:=D6
  rcases S.par n (List.of_mem_zip hy).1 with q | q
  ·exact .inl q
  ·exact .inr ⟨q,PySem.W.cellsFrom_some _ _ _ (.inl q)⟩
 refine codeAny_call_function hr.depth (KX _ _ lk) rfl S.co S.gen rfl (PySem.W.codeRec_of KX ID) (hb _ _ _ _ ?_)
 refine wpAny_newFunctionEnv_cells S.kind F4 fun env he s1 x=>?_
 subst he
 refine ⟨lim.keeps x.toInCall.keep,codeAny_func ?_⟩
 obtain ⟨t,ht,hq⟩:=IE A outer s H vs Q E (hr.deeper _) IF
 have I:Inv (v7 CX P w K mg base N qual scope f Ej A outer s H E) [] (start N vs) H s1:=rY S hr.hd e0 hl r x
 refine wpAny_mono (ht [] s1 (start N vs) H _ I hq) (fun fl s' hs=>?_) fun e s' hs=>hs
 have fin:∀ {σ':St} {H':Hp} {v:V} {u:Value},Inv (v7 CX P w K mg base N qual scope f Ej A outer s H E) [] σ' H' s'→RelV v u→Q v H'→CE outer P w H s Q u s':=
  fun {σ' H' v u} J rv q=>⟨v,H',J.os,J.bare,J.base,J.hok,rv,q⟩
 cases fl with
 | ret u=>
  obtain ⟨v,σ',H',J,rv,q⟩:=hs
  exact fin J rv q
 | next=>
  obtain ⟨σ',H',J,q⟩:=hs
  exact fin (v:=V.non) (u:=Value.none) J rfl q
 | brk=>
  obtain ⟨_,_,_,q⟩:=hs
  exact False.elim q
 | cont=>
  obtain ⟨_,_,_,q⟩:=hs
  exact False.elim q
section
variable {X:Cx} {x:Str} {p pos:Pos} {e:Expr} {es:List Expr} {t:TA} {id T:String} {r:List V→Hp→VK→Prop}
noncomputable def NN (r:List V→Hp→VK→Prop) (t:TA):TE:=fun σ H Q=>t σ H fun vs H1=>r vs H1 Q
theorem pR (hc:dE X (.builtin id) r) (hg:Gl X x) (hm:X.mg x=none) (hv:bootBuiltins x=some (.builtin id)) (ha:PA X (e :: es) t) (hn:x≠"__name__":=by decide) (Gi:(x == ("__debug__" : Str))=false:=by decide)
  (he:starEach (e :: es) X.env=(false,eval e X.env) :: starEach es X.env:=by rfl) (FZ:(backTo pos (starEach es X.env)).any (·.1)=false:=by rfl):PE X (.Call (.Name x p) (e :: es) [] pos) (NN r t):=by
 intro pins s σ H Q I h
 refine wpAny_Call_Name_kw (j8 I hg hm hv ?_ hn Gi)
 exact PyProof.Rows.callWith_builtin1 (Ea (ha pos pins s σ H _ I h) fun us s1 ⟨vs,H1,I1,r1,q1⟩=>hc pins s1 σ H1 vs us Q I1 r1 q1) he FZ
theorem rZ (hc:dE X (.type T) r) (hg:Gl X x) (hm:X.mg x=none) (hv:bootBuiltins x=some (.type T)) (ha:PA X (e :: es) t) (hn:x≠"__name__":=by decide) (Gi:(x == ("__debug__" : Str))=false:=by decide)
  (he:starEach (e :: es) X.env=(false,eval e X.env) :: starEach es X.env:=by rfl) (FZ:(backTo pos (starEach es X.env)).any (·.1)=false:=by rfl):PE X (.Call (.Name x p) (e :: es) [] pos) (NN r t):=by
 intro pins s σ H Q I h
 refine wpAny_Call_Name_kw (j8 I hg hm hv ?_ hn Gi)
 exact PyProof.Rows.callWith_type1 (Ea (ha pos pins s σ H _ I h) fun us s1 ⟨vs,H1,I1,r1,q1⟩=>hc pins s1 σ H1 vs us Q I1 r1 q1) he FZ
end
end L2
namespace HT
open PySem PyProof.Rows
section
open PySem.SeqAt
open PySem.AutoSeq1 (wpAny_loadPart')
open PySem.MeetsSeq PySem.MeetsSeq2 PySem.MeetsSeq3
end
section
variable {prog:Program} {w:World} {A:Around} {E:Value→Shared→Prop} {s:Shared}
theorem xb {t b:Addr} {vs ws:List Value} {Q:Value→Shared→Prop} (ht:IsTup s.heap t vs.toArray) (hb:IsTup s.heap b ws.toArray) (hv:vs≠[])
  (h1:ws=[]→Q (.ref t) s) (h2:ws≠[]→Q (.ref s.heap.objs.size) { s with heap:=s.heap.push { cls:=.type "tuple",data:=.seq (vs++ws).toArray } })
  (hsz:vs.length + ws.length≤sizeLine):wpAny (model prog w) A (binaryOp .Add (.ref t) (.ref b)) Q E s:=by
 obtain ⟨⟨cls,dd,data,sl⟩,ho,hc,n,hd⟩:=id ht
 obtain ⟨⟨KD,Jm,data2,Jn⟩,FA,GQ,n2,hd2⟩:=id hb
 simp only at hc hd GQ hd2
 subst hc hd GQ hd2
 have e:vs.toArray++ws.toArray=(vs++ws).toArray:=by simp
 by_cases hw:ws=[]
 ·exact concat_meets ⟨_,ho,rfl⟩ ⟨_,FA,rfl⟩ noFill_tuple_add seq_tuple_add PySem.F.slot_tuple_add PySem.F.entry_tuple_add (PySem.F.args_tuple_add_2 _ _)
   (tuple_addW1 t b vs.toArray ws.toArray n n2 dd Jm sl Jn (by simpa using hv) (by simp [hw])) ⟨ho,FA,h1 hw⟩
 ·refine concat_meets ⟨_,ho,rfl⟩ ⟨_,FA,rfl⟩ noFill_tuple_add seq_tuple_add PySem.F.slot_tuple_add PySem.F.entry_tuple_add (PySem.F.args_tuple_add_2 _ _)
   (tuple_addW2 t b vs.toArray ws.toArray n n2 dd Jm sl Jn (by simpa using hv) (by simpa using hw) (by rw [List.size_toArray,List.size_toArray];exact hsz)) ⟨ho,FA,?_⟩
  rw [e]
  exact h2 hw
noncomputable def sIx (n d:Nat):Option Int→Nat
 | none=>d
 | some v=>if v < 0 then (v + (n:Int)).toNat else min v.toNat n
theorem pS (n d:Nat):sIx n d none=d:=rfl
theorem lU (n d k:Nat):sIx n d (some (k:Int))=min k n:=by
 show (if (k:Int) < 0 then ((k:Int) + (n:Int)).toNat else min (k:Int).toNat n)=min k n
 rw [if_neg (by lia),Int.toNat_natCast]
theorem r6 (n d:Nat) (hd:d≤n) (o:Option Int):sIx n d o≤n:=by
 cases o with
 | none=>exact hd
 | some v=>
  show (if v < 0 then (v + (n:Int)).toNat else min v.toNat n)≤n
  by_cases hv:v < 0
  ·rw [if_pos hv];lia
  ·rw [if_neg hv];exact Nat.min_le_right _ _
theorem r9 (v:Int) (n d:Nat):(if v < 0 then max (v + (n:Int)) 0 else min v (n:Int))=((sIx n d (some v):Nat):Int):=by
 show (if v < 0 then max (v + (n:Int)) 0 else min v (n:Int))=(((if v < 0 then (v + (n:Int)).toNat else min v.toNat n):Nat):Int)
 by_cases hv:v < 0
 ·simp only [if_pos hv];lia
 ·simp only [if_neg hv];lia
theorem qN (lo hi:Option Int) (n:Nat):Builtin.Slice.sliceAdjust lo hi 1 (n:Int)=(((sIx n 0 lo:Nat):Int),((sIx n n hi:Nat):Int)):=by
 have h1:¬ ((1:Int) < 0):=by lia
 unfold Builtin.Slice.sliceAdjust
 simp only [h1,if_false]
 refine Prod.ext ?_ ?_
 ·cases lo with
  | none=>rfl
  | some v=>exact r9 v n 0
 ·cases hi with
  | none=>rfl
  | some v=>exact r9 v n n
theorem qO (i j:Nat):Builtin.Slice.slicePlaces (i:Int) (j:Int) 1=j - i:=by
 unfold Builtin.Slice.slicePlaces
 have h1:(1:Int) > 0:=by lia
 simp only [h1,if_true,Int.ediv_one]
 split <;> lia
theorem lE {v:Value} {o:Option Int} {Q:Option Int→Shared→Prop} (p:IsPart v o) (h:Q o s):wpAny (model prog w) A (Builtin.Slice.slicePartIndex v) Q E s:=by
 cases p with
 | none=>exact slicePart_none h
 | int i t=>exact slicePart_int h
theorem fU {sl:Addr} {vl vu:Value} {lo hi:Option Int} {n:Nat} {Q:Int×Int×Nat→Shared→Prop} (hs:s.heap.IsSliceOf sl vl vu .none) (pl:IsPart vl lo) (pu:IsPart vu hi)
  (h:Q (((sIx n 0 lo:Nat):Int),1,sIx n n hi - sIx n 0 lo) s):wpAny (model prog w) A (Builtin.Slice.sliceApplied (.ref sl) (pure (n:Int))) Q E s:=by
 obtain ⟨os,KG,Ng,KH⟩:=id hs
 unfold Builtin.Slice.sliceApplied Builtin.Slice.sliceFields
 refine wpAny_bind (wpAny_bind (wpAny_field KG KH (x:=vl) rfl (wpAny_bind (wpAny_field KG KH (x:=vu) rfl (wpAny_bind (wpAny_field KG KH (x:=.none) rfl (wpAny_pure ?_)))))))
 refine wpAny_bind (slicePart_none ?_)
 show wpAny _ _ (if ((1:Int) == 0)=true then _ else _) _ _ s
 rw [if_neg (by decide)]
 refine wpAny_bind (lE pl (wpAny_bind (lE pu (wpAny_bind (wpAny_pure ?_)))))
 show wpAny _ _ (match Builtin.Slice.sliceAdjust lo hi 1 (n:Int) with | (lo,hi)=>pure (lo,(1:Int),Builtin.Slice.slicePlaces lo hi 1)) _ _ s
 rw [qN lo hi n]
 show wpAny _ _ (pure (((sIx n 0 lo:Nat):Int),(1:Int),Builtin.Slice.slicePlaces ((sIx n 0 lo:Nat):Int) ((sIx n n hi:Nat):Int) 1)) _ _ s
 rw [qO]
 exact wpAny_pure h
theorem uU (xs:Array Value) (i k:Nat):((List.range k).filterMap fun (m:Nat)=>xs[((i:Int) + (m:Int) * 1).toNat]?).toArray=((xs.toList.drop i).take k).toArray:=by
 have e:(fun (m:Nat)=>xs[((i:Int) + (m:Int) * 1).toNat]?)=fun m=>xs[i + m]?:=by
  funext m
  have:((i:Int) + (m:Int) * 1).toNat=i + m:=by lia
  rw [this]
 rw [e]
 have:=pick_run xs i k
 rw [List.filterMap_map] at this
 have e2:((fun x=>xs[x]?)∘fun x=>i + x)=fun m=>xs[i + m]?:=rfl
 rw [e2] at this
 rw [this]
theorem jd {t sl:Addr} {items:Array Value} {vl vu:Value} {lo hi:Option Int} {Q:Value→Shared→Prop} (ht:IsTup s.heap t items) (hs:s.heap.IsSliceOf sl vl vu .none) (pl:IsPart vl lo) (pu:IsPart vu hi)
  (hw:¬ (sIx items.size 0 lo=0∧sIx items.size items.size hi=items.size))
  (h:Q (.ref s.heap.objs.size) { s with heap:=s.heap.push { cls:=.type "tuple",data:=.seq ((items.toList.drop (sIx items.size 0 lo)).take (sIx items.size items.size hi - sIx items.size 0 lo)).toArray } })
  (hsz:items.size≤sizeLine):wpAny (model prog w) A (getItem (.ref t) (.ref sl)) Q E s:=by
 have HF:sizeOk (.seq ((items.toList.drop (sIx items.size 0 lo)).take (sIx items.size items.size hi - sIx items.size 0 lo)).toArray):=by
  show ((items.toList.drop (sIx items.size 0 lo)).take (sIx items.size items.size hi - sIx items.size 0 lo)).toArray.size≤sizeLine
  rw [List.size_toArray,List.length_take,List.length_drop,Array.length_toList]
  lia
 have hj:sIx items.size items.size hi≤items.size:=r6 _ _ (Nat.le_refl _) hi
 obtain ⟨os,KG,Ng,KH⟩:=id hs
 have NO:s.TypeIs (.ref sl) "slice":=⟨os,KG,Ng⟩
 unfold getItem
 try with_reducible refine wpAny_holding ?_
 first | refine wpAny_bind (wpAny_pure ?_) | skip
 refine wpAny_bind (wpAny_sequenceKey ht.typeIs (by decide) ?_)
 refine wpAny_bind (wpAny_callSpecial?_slot (name:=Str.ofString "__getitem__") ht.typeIs PyProof.Rows.slot_tuple_getitem
  (wpAny_call_entry PyProof.Rows.slot_tuple_getitem ht.typeIs entry_tuple_getitem ?_ (args_tuple_getitem _ _)))
 show wpAny _ _ (Builtin.Tuple.tupleItemsOf (.ref t) >>= _) _ _ s
 refine wpAny_bind (tupleItemsOf_ ht ?_)
 refine wpAny_bind (wpAny_typeOf NO ?_)
 rw [if_pos (by decide)]
 refine wpAny_bind (fU hs pl pu ?_)
 have OG:¬ ((((sIx items.size 0 lo:Nat):Int) == 0 && (1:Int) == 1 && (sIx items.size items.size hi - sIx items.size 0 lo) == items.size)=true):=by
  intro q
  rw [Bool.and_eq_true,Bool.and_eq_true] at q
  have q1:((sIx items.size 0 lo:Nat):Int)=0:=eq_of_beq q.1.1
  have q2:sIx items.size items.size hi - sIx items.size 0 lo=items.size:=eq_of_beq q.2
  exact hw ⟨by lia,by lia⟩
 show wpAny _ _ (if (((sIx items.size 0 lo:Nat):Int) == 0 && (1:Int) == 1 && (sIx items.size items.size hi - sIx items.size 0 lo) == items.size)=true then _ else _) _ _ s
 rw [if_neg OG,uU]
 first
  | exact wpAny_bind (m:=Builtin.Tuple.tupleExact _) (wpAny_newObj_type (wpAny_pure ⟨_,rfl,wpAny_pure h⟩) HF)
  | exact wpAny_bind (m:=Builtin.Tuple.tupleExact _) (wpAny_newObj_type (wpAny_bind (wpAny_pure (wpAny_pure ⟨_,rfl,wpAny_pure h⟩))) HF)
  | exact wpAny_bind (wpAny_bind (m:=Builtin.Tuple.tupleExact _) (wpAny_newObj_type (wpAny_pure (wpAny_pure ⟨_,rfl,wpAny_pure h⟩)) HF))
  | exact wpAny_bind (wpAny_bind (m:=Builtin.Tuple.tupleExact _) (wpAny_newObj_type (wpAny_pure ⟨_,rfl,wpAny_pure h⟩) HF))
end
end HT
namespace L2
open PySem PySem.Spec PyProof.Rows
abbrev TO:=St→Hp→(Option Int→Hp→Prop)→Prop
def PO (X:Cx) (e:Option Expr) (t:TO):Prop:=
 ∀ (pins:List (Addr×Obj)) (s:Shared) (σ:St) (H:Hp) (Q:Option Int→Hp→Prop),Inv X pins σ H s→t σ H Q→
  wpAny (model X.prog X.w) X.A (evalPart e X.env) (fun u s'=>∃ o H',Inv X pins σ H' s'∧IsPart u o∧Q o H') X.xe s
noncomputable def xc:TO:=fun _ H Q=>Q none H
noncomputable def BN (t:TE):TO:=fun σ H Q=>t σ H fun x H1=>∃ i,x=.int i∧Q (some i) H1
section
variable {X:Cx} {e:Expr} {te:TE} {lo hi:Option Expr} {tl th:TO} {pos p2:Pos}
theorem xf:PO X none xc:=by
 intro pins s σ H Q I h
 rw [evalPart_none]
 exact wpAny_pure ⟨none,H,I,.none,h⟩
theorem xg (h:PE X e te):PO X (some e) (BN te):=by
 intro pins s σ H Q I hw
 rw [evalPart_some]
 refine Ea (h pins s σ H _ I hw) fun u s1 Ee=>?_
 obtain ⟨x,H1,I1,r1,q1⟩:=Ee
 obtain ⟨i,rfl,q⟩:=q1
 obtain ⟨t,rfl⟩:=r1
 exact ⟨some i,H1,I1,.int i t,q⟩
def KI (X:Cx) (r:V→Option Int→Option Int→Hp→VK→Prop):Prop:=
 ∀ (pins:List (Addr×Obj)) (s:Shared) (σ:St) (H:Hp) (x:V) (v vl vu:Value) (lo hi:Option Int) (sl:Addr) (Q:VK),Inv X pins σ H s→RelV x v→s.heap.IsSliceOf sl vl vu .none→IsPart vl lo→IsPart vu hi→r x lo hi H Q→
  ∃ T id,typeLookup (.type T) "__getitem__" = pure (some (.builtin id))∧s.TypeIs v T∧wpAny (model X.prog X.w) X.A (getItem v (.ref sl)) (EP X pins σ Q) X.xe s
noncomputable def tSl (r:V→Option Int→Option Int→Hp→VK→Prop) (te:TE) (tl th:TO):TE:=fun σ H Q=>te σ H fun x H1=>tl σ H1 fun l H2=>th σ H2 fun u H3=>r x l u H3 Q
theorem uV {r:V→Option Int→Option Int→Hp→VK→Prop} (hr:KI X r) (he:PE X e te) (hl:PO X lo tl) (hu:PO X hi th):PE X (.Subscript e (.Slice lo hi none p2) pos) (tSl r te tl th):=by
 intro pins s σ H Q I h
 refine Subscript_ (Ea (he pins s σ H _ I h) fun v s1 Ee=>?_)
 obtain ⟨x,H1,I1,r1,q1⟩:=Ee
 refine wpAny_Slice (Ea (hl pins s1 σ H1 _ I1 q1) fun vl s2 ⟨l,H2,I2,pl,q2⟩=>Ea (hu pins s2 σ H2 _ I2 q2) fun vu s3 Ee=>?_)
 obtain ⟨u,H3,I3,pu,q3⟩:=Ee
 rw [evalPart_none]
 refine wpAny_pure ?_
 have I4:Inv X pins σ H3 { s3 with heap:=s3.heap.push { cls:=.type "slice",data:=.fields #[vl,vu,.none] } }:=I3.kept (t':=s3.toks) fun b ob q=>Heap.get?_push_of_some _ q
 obtain ⟨T,id,hT,ht,hg⟩:=hr pins { s3 with heap:=s3.heap.push { cls:=.type "slice",data:=.fields #[vl,vu,.none] } } σ H3 x v vl vu l u s3.heap.objs.size Q I4 r1 (Heap.IsSliceOf.new ..) pl pu q3
 show wpAny (model X.prog X.w) X.A (subscriptTail e (.Slice lo hi none p2) v (.ref s3.heap.objs.size)) (EP X pins σ Q) X.xe { s3 with heap:=s3.heap.push { cls:=.type "slice",data:=.fields #[vl,vu,.none] } }
 exact tail_any (ops:=[.ref s3.heap.objs.size,v]) ht hT hg (by with_unfolding_all rfl)
noncomputable def v9 (xs:List V) (lo hi:Option Int):List V:=(xs.drop (HT.sIx xs.length 0 lo)).take (HT.sIx xs.length xs.length hi - HT.sIx xs.length 0 lo)
theorem j9 (xs:List V) (lo hi:Option Int):(v9 xs lo hi).length≤xs.length:=by
 unfold v9
 rw [List.length_take,List.length_drop]
 lia
noncomputable def Dm (K:W.Frag):V→Option Int→Option Int→Hp→VK→Prop:=fun x lo hi H Q=>∃ a xs,x=.ref a∧SqT K H a xs∧
 ¬ (HT.sIx xs.length 0 lo=0∧HT.sIx xs.length xs.length hi=xs.length)∧∀ p,H p=none→Q (.ref p) (upd H p (.tup (v9 xs lo hi)))
theorem zq:KI X (Dm X.K):=by
 intro pins s σ H x v vl vu lo hi sl Q I rx hs pl pu h
 obtain ⟨a,xs,rfl,hx,hw,q⟩:=h
 cases rx
 obtain ⟨DS,r,ht,hz⟩:=I.tuple hx
 have hlen:DS.toArray.size=xs.length:=by rw [List.size_toArray];exact r.length.symm
 refine ⟨"tuple",_,PyProof.Rows.slot_tuple_getitem.lookup,ht.typeIs,?_⟩
 refine HT.jd ht hs pl pu (by rw [hlen];exact hw) ?_ (by rw [hlen];exact hz)
 rw [hlen]
 refine ⟨.ref s.heap.objs.size,_,I.laid (t':=s.toks) (o:=.tup (v9 xs lo hi)) (fun b ob q=>Heap.get?_push_of_some _ q) (Nat.le_refl _) ?_,rfl,q _ (I.hok.fresh (Nat.le_refl _))⟩
 exact ⟨Nat.le_trans (j9 xs lo hi) hz,_,(r.drop (HT.sIx xs.length 0 lo)).take (HT.sIx xs.length xs.length hi - HT.sIx xs.length 0 lo),IsTupN.new _ _⟩
noncomputable def BO (K:W.Frag):R2:=fun x y H Q=>∃ a b xs ys,x=.ref a∧y=.ref b∧SqT K H a xs∧SqT K H b ys∧xs≠[]∧xs.length + ys.length≤sizeLine∧
 (ys=[]→Q (.ref a) H)∧(ys≠[]→∀ p,H p=none→Q (.ref p) (upd H p (.tup (xs++ys))))
theorem Vals.nil_iff {xs:List V} {us:List Value} (r:Vals xs us):us=[]↔xs=[]:=by
 cases r with
 | nil=>simp
 | cons _ _=>simp
theorem xh:EE X (binaryOp .Add) (BO X.K):=by
 intro pins s σ H x y v u Q I rx ry h
 obtain ⟨a,b,xs,ys,rfl,rfl,ha,hb,hx,hz,q1,q2⟩:=h
 cases rx
 cases ry
 obtain ⟨DS,r1,p1,_⟩:=I.tuple ha
 obtain ⟨HS,r2,p2,_⟩:=I.tuple hb
 refine HT.xb p1 p2 (fun z=>hx (r1.nil_iff.mp z)) (fun z=>⟨.ref a,H,I,rfl,q1 (r2.nil_iff.mp z)⟩) (fun z=>?_) (by rw [←r1.length,←r2.length];exact hz)
 refine ⟨.ref s.heap.objs.size,_,I.laid (t':=s.toks) (o:=.tup (xs++ys)) (fun b ob q=>Heap.get?_push_of_some _ q) (Nat.le_refl _) ?_,rfl,q2 (fun w=>z (r2.nil_iff.mpr w)) _ (I.hok.fresh (Nat.le_refl _))⟩
 exact ⟨by rw [List.length_append];exact hz,_,r1.append r2,IsTupN.new _ _⟩
end
noncomputable def ixN (n:Nat) (i:Int):Option Nat:=if 0≤i then (if i < n then some i.toNat else none) else if -(n:Int)≤i then some (i + n).toNat else none
noncomputable def EV {α:Type} (xs:List α) (i:Int):Option α:=(ixN xs.length i).bind fun j=>xs[j]?
theorem sa {n:Nat} {i:Int} {j:Nat} (h:ixN n i=some j):seqIndex? i n=some j∧j < n∧-(n:Int)≤i∧i < n:=by
 unfold ixN at h
 by_cases h0:0≤i
 ·rw [if_pos h0] at h
  by_cases h1:i < n
  ·rw [if_pos h1] at h
   have e:i.toNat=j:=Option.some.inj h
   exact ⟨by rw [seqIndex_of h0 h1,e],by lia,by lia,h1⟩
  ·rw [if_neg h1] at h;cases h
 ·rw [if_neg h0] at h
  by_cases h1 : -(n:Int)≤i
  ·rw [if_pos h1] at h
   have e:(i + n).toNat=j:=Option.some.inj h
   exact ⟨by rw [seqIndex_neg (by lia) h1,e],by lia,h1,by lia⟩
  ·rw [if_neg h1] at h;cases h
theorem oT {α:Type} {xs:List α} {i:Int} {v:α} (h:EV xs i=some v):∃ j,seqIndex? i xs.length=some j∧xs[j]?=some v∧j < xs.length∧-(xs.length:Int)≤i∧i < xs.length:=by
 unfold EV at h
 cases e:ixN xs.length i with
 | none=>rw [e] at h;cases h
 | some j=>
  rw [e] at h
  obtain ⟨h1,h2,h3,h4⟩:=sa e
  exact ⟨j,h1,h,h2,h3,h4⟩
theorem dX {α:Type} {xs:List α} {j:Nat} {v:α} (h:xs[j]?=some v):EV xs (j:Int)=some v:=by
 have hj:j < xs.length:=(List.getElem?_eq_some_iff.mp h).1
 have e:ixN xs.length (j:Int)=some j:=by
  unfold ixN
  rw [if_pos (by lia),if_pos (by lia)];simp
 unfold EV;rw [e];exact h
def sd (b:Expr):Prop:=∀ o i,subscripted b false o i=operate [o,i] (getItem o i)
def LS (X:Cx) (r:R2):Prop:=
 ∀ (value slice:Expr) (pins:List (Addr×Obj)) (s:Shared) (σ:St) (H:Hp) (x y:V) (v u:Value) (Q:VK),Inv X pins σ H s→RelV x v→RelV y u→r x y H Q→
  subscripted slice false v u=operate [v,u] (getItem v u)→wpAny (model X.prog X.w) X.A (subscriptTail value slice v u) (EP X pins σ Q) X.xe s
def Jy (X:Cx) (id:String) (r:V→List V→Hp→VK→Prop):Prop:=
 ∀ (pins:List (Addr×Obj)) (s:Shared) (σ:St) (H:Hp) (x:V) (xs:List V) (v:Value) (us:List Value) (Q:VK),Inv X pins σ H s→RelV x v→Vals xs us→r x xs H Q→
  wpAny (model X.prog X.w) X.A (call (.builtin id) (v :: us)) (EP X pins σ Q) X.xe s
section
variable {X:Cx} {a b:Expr} {ta tb:TE} {pos:Pos}
theorem BP {r:R2} (hr:LS X r) (ha:PE X a ta) (hb:PE X b tb) (hs:sd b):PE X (.Subscript a b pos) (Lx r ta tb):=by
 intro pins s σ H Q I h
 exact Subscript_ (BG ha hb I h fun v u s2 x y H2 I2 rx ry q=>hr a b pins s2 σ H2 x y v u Q I2 rx ry q (hs _ _))
noncomputable def Dn (K:W.Frag):R2:=fun x y H Q=>∃ p xs i v,x=.ref p∧y=.int i∧SqL K H p xs∧EV xs i=some v∧Q v H
noncomputable def Dp (K:W.Frag):R2:=fun x y H Q=>∃ p xs i v,x=.ref p∧y=.int i∧SqT K H p xs∧EV xs i=some v∧Q v H
noncomputable def Dq:R2:=fun x y H Q=>∃ z i c,x=.str z∧y=.int i∧z.length≤sizeLine∧EV z.cps.toList i=some c∧Q (.str ⟨#[c]⟩) H
theorem xi:LS X (Dn X.K):=by
 intro value slice pins s σ H x y v u Q I rx ry h hs
 obtain ⟨p,xs,i,z,rfl,rfl,hq,he,q⟩:=h
 cases rx
 obtain ⟨t,rfl⟩:=ry
 obtain ⟨DS,r,pl,hz⟩:=I.list hq
 obtain ⟨j,h1,h2,h3,h4,h5⟩:=oT he
 obtain ⟨w,ew,HU⟩:=r.get h2
 have hl:=r.length
 have hn:=lD
 have fin:EP X pins σ Q w s:=⟨z,H,I,HU,q⟩
 by_cases h0:0≤i
 ·have hj:i.toNat=j:=by
   rw [seqIndex_of h0 h5] at h1
   exact Option.some.inj h1
  exact item_listR pl.isList h0 (by lia) (by rw [hj];simpa using ew) fin hs
 ·have hj:(i + (DS.toArray.size:Int)).toNat=j:=by
   rw [seqIndex_neg (by lia) h4] at h1
   rw [List.size_toArray,←hl]
   exact Option.some.inj h1
  exact subscriptTail_builtinR (x:=w) pl.isList.typeIs slot_list_getitem.lookup
   (wpAny_getItem_list_neg (Q:=fun r s'=>r=w∧EP X pins σ Q r s') pl.isList (by lia) (by rw [List.size_toArray] <;> lia) (by lia) (by rw [hj];simpa using ew) ⟨rfl,fin⟩) hs
theorem zr:LS X (Dp X.K):=by
 intro value slice pins s σ H x y v u Q I rx ry h hs
 obtain ⟨p,xs,i,z,rfl,rfl,hq,he,q⟩:=h
 cases rx
 obtain ⟨t,rfl⟩:=ry
 obtain ⟨DS,r,pl,hz⟩:=I.tuple hq
 obtain ⟨j,h1,h2,h3,h4,h5⟩:=oT he
 obtain ⟨w,ew,HU⟩:=r.get h2
 have hl:=r.length
 have hn:=lD
 have fin:EP X pins σ Q w s:=⟨z,H,I,HU,q⟩
 exact subscriptTail_builtinR (x:=w) pl.typeIs slot_tuple_getitem.lookup
  (getItem_tuple (j:=j) (Q:=fun r s'=>r=w∧EP X pins σ Q r s') pl (by lia) (by lia) (by rw [List.size_toArray,←hl];exact h1) (by simpa using ew) ⟨rfl,fin⟩) hs
theorem zt:LS X Dq:=by
 intro value slice pins s σ H x y v u Q I rx ry h hs
 obtain ⟨z,i,c,rfl,rfl,hz,he,q⟩:=h
 obtain ⟨t,rfl⟩:=rx
 obtain ⟨t',rfl⟩:=ry
 obtain ⟨j,h1,h2,h3,h4,h5⟩:=oT he
 have hl:z.cps.toList.length=z.length:=by simp [Str.length]
 rw [hl] at h1 h4 h5
 have hn:=lD
 exact tail_any (typeIs_str s z t) slot_str_getitem.lookup (getItem_str (c:=c) (by
  have e1:decide (i < -(2 ^ 63:Int))=false:=decide_eq_false (by lia)
  have e2:decide (i ≥ 2 ^ 63)=false:=decide_eq_false (by lia)
  rw [e1,e2,Bool.or_false]) (by rw [h1];simpa using h2) ⟨.str ⟨#[c]⟩,H,I.tok _,⟨_,rfl⟩,q⟩) hs
theorem qP (DS:List Value) (n j:Nat) (u:Value):Obj.mapSeq (·.setIfInBounds j u) { cls:=.type "list",data:=.seq DS.toArray n }={ cls:=.type "list",data:=.seq (DS.set j u).toArray n }:=by
 simp [Obj.mapSeq]
theorem Inv.lst {pins:List (Addr×Obj)} {σ:St} {H:Hp} {s:Shared} {p:Addr} {xs:List V} (I:Inv X pins σ H s) (h:H p=some (.lst xs)) :
  ∃ (DS:List Value) (n:Nat),Vals xs DS∧s.heap.get? p=some { cls:=.type "list",data:=.seq DS.toArray n }∧xs.length≤sizeLine:=by
 obtain ⟨z,DS,n,r,e⟩:=I.hok p _ h
 exact ⟨DS,n,r,e,z⟩
theorem Inv.lstUpd {pins:List (Addr×Obj)} {σ:St} {H:Hp} {s:Shared} {p:Addr} {xs ys:List V} {DS its':List Value} {n n':Nat} {f:Obj→Obj} (I:Inv X pins σ H s) (h:H p=some (.lst xs))
  (ho:s.heap.get? p=some { cls:=.type "list",data:=.seq DS.toArray n }) (hf:f { cls:=.type "list",data:=.seq DS.toArray n }={ cls:=.type "list",data:=.seq its'.toArray n' }) (r:Vals ys its') (hz:ys.length≤sizeLine) (t:Nat) :
  Inv X pins σ (upd H p (.lst ys)) { s with heap:=s.heap.update p f,toks:=t }:=by
 have e:(s.heap.update p f).get? p=some { cls:=.type "list",data:=.seq its'.toArray n' }:=by
  rw [Heap.get?_update_self f ho (by rw [hf] <;> rfl),hf]
 refine I.write (x:=p) (e:=p) (by rw [h];trivial) (.inl rfl) (fun b u hb q=>(Heap.get?_update_other _ _ (Ne.symm hb)).trans q) ⟨_,e⟩ ?_
 exact ⟨hz,its',n',r,e⟩
noncomputable def zu:V→V→V→Hp→(Hp→Prop)→Prop:=fun o i v H Q=>∃ p xs k j,o=.ref p∧i=.int k∧H p=some (.lst xs)∧ixN xs.length k=some j∧Q (upd H p (.lst (xs.set j v)))
theorem uW:C9 X zu:=by
 intro pins s σ H o i v ov iv u Q I ro ri rv h
 obtain ⟨p,xs,k,j,rfl,rfl,hp,hj,q⟩:=h
 cases ro
 obtain ⟨t,rfl⟩:=ri
 obtain ⟨DS,n,r,ho,hz⟩:=I.lst hp
 obtain ⟨h1,h2,h3,h4⟩:=sa hj
 have hl:=r.length
 have hn:=lD
 have I':Inv X pins σ (upd H p (.lst (xs.set j v))) { s with heap:=s.heap.update p (Obj.mapSeq (·.setIfInBounds j u)) }:=
  I.lstUpd hp ho (qP DS n j u) (r.set rv j) (by rw [List.length_set];exact hz) s.toks
 by_cases h0:0≤k
 ·have hk:k.toNat=j:=by
   rw [seqIndex_of h0 h4] at h1
   exact Option.some.inj h1
  exact PySem.W.ki_setAt ho h0 (by lia) (by rw [List.size_toArray,←hl];exact h4) (by rw [hk];exact ⟨_,I',q⟩)
 ·have hk:(k + (DS.toArray.size:Int)).toNat=j:=by
   rw [seqIndex_neg (by lia) h3] at h1
   rw [List.size_toArray,←hl]
   exact Option.some.inj h1
  exact PySem.W.ki_setBack ho (by lia) (by rw [List.size_toArray,←hl];exact h3) (by lia) (by rw [hk];exact ⟨_,I',q⟩)
theorem nt (lo hi:Option Int) (n:Nat):(sliceBounds lo hi none n).1=((HT.sIx n 0 lo:Nat):Int)∧(sliceBounds lo hi none n).2.1=((HT.sIx n n hi:Nat):Int)∧(sliceBounds lo hi none n).2.2=1:=by
 refine ⟨?_,?_,rfl⟩
 ·cases lo with
  | none=>simp [sliceBounds,HT.sIx]
  | some i=>
   simp only [sliceBounds,HT.sIx,Option.getD_none,show (1:Int) > 0 by decide,if_true]
   by_cases h:i < 0
   ·simp only [h,if_true] <;> lia
   ·simp only [h,if_false] <;> lia
 ·cases hi with
  | none=>simp [sliceBounds,HT.sIx]
  | some i=>
   simp only [sliceBounds,HT.sIx,Option.getD_none,show (1:Int) > 0 by decide,if_true]
   by_cases h:i < 0
   ·simp only [h,if_true] <;> lia
   ·simp only [h,if_false] <;> lia
theorem lV (DS:List Value) (lo hi:Option Int):slicePick DS.toArray lo hi none=((DS.drop (HT.sIx DS.length 0 lo)).take (HT.sIx DS.length DS.length hi - HT.sIx DS.length 0 lo)).toArray:=by
 obtain ⟨h1,h2,h3⟩:=nt lo hi DS.toArray.size
 unfold slicePick
 rw [h1,h2,h3]
 simp only [sliceRange_one,pick_run,List.size_toArray] <;> rfl
noncomputable def Dr (K:W.Frag):V→Option Int→Option Int→Hp→VK→Prop:=fun x lo hi H Q=>∃ a xs,x=.ref a∧SqL K H a xs∧∀ p,H p=none→Q (.ref p) (upd H p (.lst (v9 xs lo hi)))
theorem xj:KI X (Dr X.K):=by
 intro pins s σ H x v vl vu lo hi sl Q I rx hs pl pu h
 obtain ⟨a,xs,rfl,hx,q⟩:=h
 cases rx
 obtain ⟨DS,r,ht,hz⟩:=I.list hx
 have hlen:=r.length
 refine ⟨"list",_,slot_list_getitem.lookup,ht.isList.typeIs,?_⟩
 refine wpAny_getItem_list_slice ht.isList hs pl pu .none (by simp) ?_ (by rw [List.size_toArray] <;> lia)
 rw [lV,←hlen]
 refine ⟨.ref s.heap.objs.size,_,I.laid (t':=s.toks) (o:=.lst (v9 xs lo hi)) (fun b ob q=>Heap.get?_push_of_some _ q) (Nat.le_refl _) ?_,rfl,q _ (I.hok.fresh (Nat.le_refl _))⟩
 exact ⟨Nat.le_trans (j9 xs lo hi) hz,_,0,(r.drop (HT.sIx xs.length 0 lo)).take (HT.sIx xs.length xs.length hi - HT.sIx xs.length 0 lo),Heap.get?_push_size _ rfl⟩
noncomputable def uX:V→Bool
 | .non=>true
 | .bl _=>true
 | .int _=>true
 | .str _=>true
 | _=>false
noncomputable def NP:V→V→Bool
 | .non,.non=>true
 | .bl a,.bl b=>a == b
 | .bl a,.int b=>(if a then 1 else 0) == b
 | .int a,.bl b=>a == (if b then 1 else 0)
 | .int a,.int b=>a == b
 | .str a,.str b=>a == b
 | _,_=>false
theorem wa {A:Around} {s:Shared} {y x:V} {u v:Value} (ry:RelV y u) (rx:RelV x v) (fy:uX y=true) (fx:uX x=true):SeqAt.EqAt A s u v (NP y x):=by
 cases y with
 | non=>
  cases ry
  cases x with
  | non=>cases rx;exact SeqAt.EqAt.same _
  | bl b=>cases rx;exact SeqAt.EqAt.none_bool b
  | int b=>obtain ⟨t,rfl⟩:=rx;exact SeqAt.EqAt.none_int b t
  | str b=>obtain ⟨t,rfl⟩:=rx;exact SeqAt.EqAt.none_str b t
  | _=>exact absurd (show false=true from fx) Bool.false_ne_true
 | bl a=>
  cases ry
  cases x with
  | non=>cases rx;exact SeqAt.EqAt.bool_none a
  | bl b=>cases rx;exact SeqAt.EqAt.bool_bool a b
  | int b=>obtain ⟨t,rfl⟩:=rx;exact SeqAt.EqAt.bool_int a b t
  | str b=>obtain ⟨t,rfl⟩:=rx;exact SeqAt.EqAt.bool_str a b t
  | _=>exact absurd (show false=true from fx) Bool.false_ne_true
 | int a=>
  obtain ⟨t',rfl⟩:=ry
  cases x with
  | non=>cases rx;exact SeqAt.EqAt.int_none a t'
  | bl b=>cases rx;exact SeqAt.EqAt.int_bool a t' b
  | int b=>obtain ⟨t,rfl⟩:=rx;exact SeqAt.EqAt.int_int a t' b t
  | str b=>obtain ⟨t,rfl⟩:=rx;exact SeqAt.EqAt.int_str a t' b t
  | _=>exact absurd (show false=true from fx) Bool.false_ne_true
 | str a=>
  obtain ⟨t',rfl⟩:=ry
  cases x with
  | non=>cases rx;exact SeqAt.EqAt.str_none a t'
  | bl b=>cases rx;exact SeqAt.EqAt.str_bool a t' b
  | int b=>obtain ⟨t,rfl⟩:=rx;exact SeqAt.EqAt.str_int a t' b t
  | str b=>obtain ⟨t,rfl⟩:=rx;exact SeqAt.EqAt.str_str a t' b t
  | _=>exact absurd (show false=true from fx) Bool.false_ne_true
 | _=>exact absurd (show false=true from fy) Bool.false_ne_true
theorem jx:dE X (.builtin "len") (fun xs H Q=>∃ p ys,xs=[.ref p]∧(SqL X.K H p ys∨SqT X.K H p ys)∧Q (.int ys.length) H):=by
 intro pins s σ H xs us Q I r h
 obtain ⟨p,ys,rfl,hq,q⟩:=h
 obtain ⟨u,rfl,rx⟩:=gc r
 cases rx
 have hn:=lD
 rcases hq with hq | hq
 ·obtain ⟨DS,r',pl,hz⟩:=I.list hq
  have hlen:=r'.length
  exact Calls.call_len_list pl.isList (by simp only [List.size_toArray] <;> lia) ⟨.int ys.length,H,I.tok _,⟨s.toks + 1,by rw [List.size_toArray,hlen]⟩,q⟩
 ·obtain ⟨DS,r',pl,hz⟩:=I.tuple hq
  have hlen:=r'.length
  exact len_tuple pl (by simp only [List.size_toArray] <;> lia) ⟨.int ys.length,H,I.tok _,⟨s.toks + 1,by rw [List.size_toArray,hlen]⟩,q⟩
theorem ny:dE X (.builtin "len") (fun xs H Q=>∃ z,xs=[.str z]∧z.length≤sizeLine∧Q (.int z.length) H):=by
 intro pins s σ H xs us Q I r h
 obtain ⟨z,rfl,hz,q⟩:=h
 obtain ⟨u,rfl,t,rfl⟩:=gc r
 have hn:=lD
 exact len_str (by lia) ⟨.int z.length,H,I.tok _,⟨_,rfl⟩,q⟩
theorem jy:dE X (.type "list") (fun xs H Q=>∃ p ys,xs=[.ref p]∧(SqL X.K H p ys∨SqT X.K H p ys)∧∀ l,H l=none→Q (.ref l) (upd H l (.lst ys))):=by
 intro pins s σ H xs us Q I r h
 obtain ⟨p,ys,rfl,hq,q⟩:=h
 obtain ⟨u,rfl,rx⟩:=gc r
 cases rx
 have fin:∀ (DS:List Value),Vals ys DS→ys.length≤sizeLine→∀ (h':Heap) (c':Nat),(∀ b o',s.heap.get? b=some o'→h'.get? b=some o')→
   h'.get? s.heap.objs.size=some { cls:=.type "list",dict:=none,data:=.seq DS.toArray c',slots:=#[] }→EP X pins σ Q (.ref s.heap.objs.size) { s with heap:=h' }:=fun DS r' hz h' c' kp e=>
  ⟨.ref s.heap.objs.size,_,I.laid (t':=s.toks) kp (Nat.le_refl _) (show ObjOk X.prog X.w _ h' _ (.lst ys) from ⟨hz,DS,c',r',e⟩),rfl,q _ (I.hok.fresh (Nat.le_refl _))⟩
 rcases hq with hq | hq
 ·obtain ⟨DS,r',pl,hz⟩:=I.list hq
  have hlen:=r'.length
  obtain ⟨o,ho,hc,n,hd⟩:=pl.isList
  exact call_list_seq p (.inl rfl) ho hc hd (fun h' c' kp e=>fin DS r' hz h' c' kp e) (by simp only [List.size_toArray] <;> lia)
 ·obtain ⟨DS,r',pl,hz⟩:=I.tuple hq
  have hlen:=r'.length
  obtain ⟨o,ho,hc,n,hd⟩:=pl
  exact call_list_seq p (.inr rfl) ho hc hd (fun h' c' kp e=>fin DS r' hz h' c' kp e) (by simp only [List.size_toArray] <;> lia)
theorem iI:dE X (.type "tuple") (fun xs H Q=>∃ p ys,xs=[.ref p]∧((SqL X.K H p ys∧∀ l,H l=none→Q (.ref l) (upd H l (.tup ys)))∨(SqT X.K H p ys∧Q (.ref p) H))):=by
 intro pins s σ H xs us Q I r h
 obtain ⟨p,ys,rfl,h⟩:=h
 obtain ⟨u,rfl,rx⟩:=gc r
 cases rx
 rcases h with ⟨hq,q⟩ | ⟨hq,q⟩
 ·obtain ⟨DS,r',pl,hz⟩:=I.list hq
  have hlen:=r'.length
  refine call_tuple_list pl.isList (fun h' kp=>?_) (by simp only [List.size_toArray] <;> lia)
  have I1:Inv X pins σ H { s with heap:=h' }:=I.kept (t':=s.toks) kp
  have I2:Inv X pins σ (upd H h'.objs.size (.tup ys)) { s with heap:=h'.push { cls:=.type "tuple",data:=.seq DS.toArray } }:=
   I1.laid (t':=s.toks) (fun b o e=>Heap.get?_push_of_some _ e) (Nat.le_refl _) (show ObjOk X.prog X.w _ _ _ (.tup ys) from ⟨hz,DS,r',IsTupN.new _ _⟩)
  exact ⟨.ref h'.objs.size,_,I2,rfl,q _ (I1.hok.fresh (Nat.le_refl _))⟩
 ·obtain ⟨DS,r',pl,hz⟩:=I.tuple hq
  exact call_tuple_same pl ⟨.ref p,H,I,rfl,q⟩
def NQ (K:W.Frag) (T:String) (x:V) (H:Hp):Prop:=match x with
 | .str _=>T = "str"
 | .int _=>T = "int"
 | .ref p=>(T = "list"∧∃ xs,SqL K H p xs)∨(T = "tuple"∧∃ o,K.lookup p=some o∧o.cls=.type "tuple"∧o.dict=none)∨
   (T = "dict"∧((∃ DT,H p=some (.dK DT))∨∃ DT,H p=some (.dT DT)))∨(T = "set"∧∃ S n,H p=some (.set S n))
 | _=>False
theorem zv {pins:List (Addr×Obj)} {σ:St} {H:Hp} {s:Shared} {T:String} {x:V} {v:Value} (I:Inv X pins σ H s) (r:RelV x v) (ty:NQ X.K T x H) :
  s.TypeIs v T∧∀ a,v=.ref a→∃ ob,s.heap.get? a=some ob∧ob.dict=none:=by
 cases x with
 | str z=>
  obtain ⟨t,rfl⟩:=r
  cases (show T = "str" from ty)
  exact ⟨typeIs_str s z t,fun _ e=>nomatch e⟩
 | int i=>
  obtain ⟨t,rfl⟩:=r
  cases (show T = "int" from ty)
  exact ⟨typeIs_int s i t,fun _ e=>nomatch e⟩
 | ref p=>
  cases r
  rcases ty with ⟨rfl,xs,hq⟩ | ⟨rfl,o,hk,hc,hd⟩ | ⟨rfl,hk⟩ | ⟨rfl,S,n,hk⟩
  ·obtain ⟨DS,_,pl,_⟩:=I.list hq
   refine ⟨pl.isList.typeIs,fun a e=>?_⟩
   cases e
   obtain ⟨o,n,e,c,hd,_⟩:=pl
   exact ⟨o,e,hd⟩
  ·refine ⟨⟨o,I.kIn p o hk,hc⟩,fun a e=>?_⟩
   cases e
   exact ⟨o,I.kIn _ o hk,hd⟩
  ·have z:∃ o,s.heap.get? p=some o∧o.ExactDict:=by
    rcases hk with ⟨DT,hk⟩ | ⟨DT,hk⟩
    ·obtain ⟨_,_,_,_,o,_,_,e,ex,_⟩:=I.hok p _ hk
     exact ⟨o,e,ex⟩
    ·obtain ⟨_,_,_,_,o,_,_,e,ex,_⟩:=I.hok p _ hk
     exact ⟨o,e,ex⟩
   obtain ⟨o,e,ex⟩:=z
   refine ⟨⟨o,e,ex.1⟩,fun a e2=>?_⟩
   cases e2
   exact ⟨o,e,ex.2.1⟩
  ·obtain ⟨o,_,_,_,e,ex,_⟩:=I.hok p _ hk
   refine ⟨⟨o,e,ex.1⟩,fun a e2=>?_⟩
   cases e2
   exact ⟨o,e,ex.2.1⟩
 | _=>exact False.elim ty
noncomputable def tBM (K:W.Frag) (T:String) (r:V→List V→Hp→VK→Prop) (to:TE) (t:TA):TE:=fun σ H Q=>to σ H fun x H1=>NQ K T x H1∧t σ H1 fun xs H2=>r x xs H2 Q
variable {o e:Expr} {es:List Expr} {to:TE} {t:TA} {name:Str} {apos Ec:Pos} {T id:String} {r:V→List V→Hp→VK→Prop}
theorem xk (pa:PlainAttrs T) (slot:Slot T name id) (IG:typeOf (.builtin id)=pure (.type "method_descriptor")) (hm:Jy X id r) (ho:PE X o to) (ha:PA X (e :: es) t)
  (E7:attributeBase o name X.env (eval o X.env)=eval o X.env:=by rfl)
  (F5:((backTo Ec (starEach (e :: es) X.env)).all (fun x=>!x.1) && (backToKw Ec (keywordEach [] X.env)).all (fun x=>x.1.isSome)
   && decide ((e :: es).length + ([]:List Keyword).length + (if ([]:List Keyword).isEmpty then 0 else 1) < 30))=true:=by rfl)
  (E8:(apos.endLine == Ec.line)=true:=by rfl) (hs:starEach (e :: es) X.env=(false,eval e X.env) :: starEach es X.env:=by rfl) (EF:(backTo Ec (starEach es X.env)).any (·.1)=false:=by rfl) :
  PE X (.Call (.Attribute o name apos) (e :: es) [] Ec) (tBM X.K T r to t):=by
 intro pins s σ H Q I h
 refine wpAny_Call_method_late E7 F5 E8 rfl (Ea (ho pins s σ H _ I h) fun v s1 Ee=>?_)
 obtain ⟨x,H1,I1,r1,ty,q1⟩:=Ee
 obtain ⟨h1,h2⟩:=zv I1 r1 ty
 refine ⟨T,id,pa,slot,IG,h1,h2,?_⟩
 have hA:=ha Ec pins s1 σ H1 _ I1 q1
 rw [hs] at hA ⊢
 refine Calls.callWith_builtin (by show (false || (backTo Ec (starEach es X.env)).any (·.1))=false;rw [EF] <;> rfl) (Calls.evalArgs_plain ?_)
 exact Ea hA fun us s2 ⟨vs,H2,I2,r2,q2⟩=>hm pins s2 σ H2 x vs v us Q I2 r1 r2 q2
end
def MtM (X:Cx) (id:String) (r:V→List V→Hp→VK→Prop):Prop:=
 ∀ (pins:List (Addr×Obj)) (s:Shared) (σ:St) (H:Hp) (x:V) (xs:List V) (v:Value) (us:List Value) (Q:VK),Inv X pins σ H s→RelV x v→Vals xs us→r x xs H Q→
  wpAny (model X.prog X.w) X.A (call (.builtin id) (v :: us)) (EP X pins σ Q) X.xe s
theorem Vals.one:∀ {x:V} {us:List Value},Vals [x] us→∃ u,us=[u]∧RelV x u
 | _,_,.cons r .nil=>⟨_,rfl,r⟩
theorem Vals.rep {xs:List V} {us:List Value} (h:Vals xs us):∀ k:Nat,Vals (List.replicate k xs).flatten (List.replicate k us).flatten
 | 0=>.nil
 | k + 1=>by
  rw [List.replicate_succ,List.replicate_succ,List.flatten_cons,List.flatten_cons]
  exact Vals.append h (Vals.rep h k)
theorem nE (DS:List Value):∀ (k:Nat) (acc:List Value),
  List.foldl (fun x1 x2=>x1++x2) acc.toArray (List.replicate k DS.toArray)=(acc++(List.replicate k DS).flatten).toArray
 | 0,acc=>by simp
 | k + 1,acc=>by
  have e:acc.toArray++DS.toArray=(acc++DS).toArray:=by simp
  have e2:(acc++DS)++(List.replicate k DS).flatten=acc++(List.replicate (k + 1) DS).flatten:=by
   rw [List.replicate_succ,List.flatten_cons,List.append_assoc]
  rw [←e2,←nE DS k (acc++DS),←e,List.replicate_succ,List.foldl_cons]
section
variable {X:Cx} {pins:List (Addr×Obj)} {σ:St} {H:Hp} {s:Shared} {l b:Addr} {xs ys zs:List V}
theorem Inv.lset {DS its':List Value} {n:Nat} {f:Array Value→Array Value} {t':Nat} (I:Inv X pins σ H s) (hH:H l=some (.lst xs))
  (e:s.heap.get? l=some { cls:=.type "list",data:=.seq DS.toArray n }) (hf:f DS.toArray=its'.toArray) (hv:Vals ys its') (hz:ys.length≤sizeLine) :
  Inv X pins σ (upd H l (.lst ys)) { s with heap:=s.heap.update l (Obj.mapSeq f),toks:=t' }:=by
 have q:=PySem.IsL.update e f
 rw [hf] at q
 refine I.write (x:=l) (e:=l) (by rw [hH];exact trivial) (.inl rfl) (fun b' u hb hu=>(Heap.get?_update_other s.heap (Obj.mapSeq f) (Ne.symm hb)).trans hu) ⟨_,q⟩ ?_
 exact ⟨hz,its',_,hv,q⟩
theorem Inv.lnew {DS:List Value} {t':Nat} (I:Inv X pins σ H s) (hv:Vals ys DS) (hz:ys.length≤sizeLine) :
  Inv X pins σ (upd H s.heap.objs.size (.lst ys)) { s with heap:=s.heap.push { cls:=.type "list",data:=.seq DS.toArray },toks:=t' }:=
 I.laid (fun _ _ q=>Heap.get?_push_of_some _ q) (Nat.le_refl _) ⟨hz,DS,0,hv,Heap.get?_push_size _ rfl⟩
theorem Inv.fresh (I:Inv X pins σ H s):H s.heap.objs.size=none:=I.hok.fresh (Nat.le_refl _)
theorem Inv.lstM (I:Inv X pins σ H s) (hH:H l=some (.lst xs)):xs.length≤sizeLine∧∃ (DS:List Value) (n:Nat),Vals xs DS∧xs.length=DS.length∧s.heap.get? l=some { cls:=.type "list",data:=.seq DS.toArray n }:=by
 obtain ⟨z,DS,n,r,e⟩:=I.hok l _ hH
 exact ⟨z,DS,n,r,r.length,e⟩
theorem uY {n:Nat} (h:n≤sizeLine):Builtin.List.listTooLong n=false:=by
 unfold Builtin.List.listTooLong
 exact decide_eq_false (by lia)
end
section
variable {X:Cx}
noncomputable def xl:V→List V→Hp→VK→Prop:=fun x vs H Q=>∃ l xs y,x=.ref l∧vs=[y]∧H l=some (.lst xs)∧xs.length < sizeLine∧Q .non (upd H l (.lst (xs++[y])))
theorem nF:MtM X "list.append" xl:=by
 intro pins s σ H x vs v us Q I rx rv h
 obtain ⟨l,xs,y,rfl,rfl,hH,hz,q⟩:=h
 cases rx
 obtain ⟨u,rfl,ru⟩:=rv.one
 obtain ⟨z,DS,n,r,hl,e⟩:=I.lstM hH
 refine call_meets F.slot_list_append ⟨_,e,rfl⟩ F.entry_list_append (F.args_list_append_2 _ _) (PySem.list_append l DS.toArray n u (by rw [List.size_toArray];lia)) ⟨e,?_⟩
 refine ⟨.non,_,I.lset (its':=DS++[u]) hH e (by simp) (r.append (.cons ru .nil)) ?_,rfl,q⟩
 rw [List.length_append,List.length_singleton]
 lia
theorem lW {α:Type} (xs:List α) (k:Nat):(List.replicate k xs).flatten.length=k * xs.length:=by
 induction k with
 | zero=>simp
 | succ k ih=>rw [List.replicate_succ,List.flatten_cons,List.length_append,ih,Nat.succ_mul,Nat.add_comm]
end
section
variable {prog:Program} {w:World} {A:Around} {E:Value→Shared→Prop} {s:Shared}
end
section
variable {X:Cx}
end
end L2
namespace Att
open PySem PySem.W PySem.Calls PyProof.Rows
theorem ka {P:Params} {h:Heap}:∀ (ns:List Int) (vs:List Value),WellAll P h vs (ns.map WData.int)→IntsAre vs ns:=by
 intro ns
 induction ns with
 | nil=>
  intro vs w
  rw [List.map_nil] at w
  cases w
  exact .nil
 | cons n ns ih=>
  intro vs w
  rw [List.map_cons] at w
  cases w with
  | cons a b=>
   cases a
   exact .cons _ _ (ih _ b)
theorem sf {l:OpenLaw} {n:Nat} (hn:l.most=some n) {P:Params} {h:Heap} {args:List WData} {vals:List Value}
  (Jz:l.row.toRowW.claim.pre args=true) (LU:WellAll P h vals args) :
  ∃ a vs ns,vals=[Value.ref a]∧args=[WData.list (ns.map WData.int)]∧h.get? a=some { cls:=.type "list",data:=.seq vs.toArray }∧IntsAre vs ns∧ns.length≤n:=by
 have hsh:WShape.hasAll [] args [.list .int]=true:=(pre_splitW Jz).1
 have hc:l.pre.holds [] { args:=args }=true:=(pre_splitW Jz).2
 obtain ⟨d,r,rfl,h1,h2⟩:=hasAllW_cons hsh
 obtain rfl:=hasAllW_nil h2
 obtain ⟨xs,rfl,h3⟩:=hasW_list h1
 obtain ⟨ns,rfl⟩:=items_int h3
 have hlen:ns.length≤n:=by
  unfold OpenLaw.pre at hc
  have h4:(WTm.not (.lt (.lit (.int (n:Int))) (.len (.arg 0)))).holds [] { args:=[.list (ns.map .int)] }=true:=by
   have h4:=(holds_andW hc).1
   rw [hn] at h4
   exact h4
  have h5:=condW_of h4 (w_not (w_lt w_lit (w_len_list (w_arg rfl))))
  rw [List.length_map] at h5
  refine Nat.le_of_not_lt fun q=>?_
  have q':(n:Int) < ((ns.length:Nat):Int):=by lia
  first
   | (rw [decide_eq_true q'] at h5;exact absurd h5 (by decide))
   | (simp at h5;lia)
 cases LU with
 | cons w1 w2=>
  cases w2
  cases w1 with
  | list ho EW=>exact ⟨_,_,ns,rfl,rfl,ho,ka ns _ EW,hlen⟩
theorem si (l:OpenLaw) (args:List WData):l.row.toRowW.claim.post args (.bool true) args=true:=
 postW_of (r:=l.row.toRowW) (X:=(true == true))
  (show WShape.has [] (.bool true) .bool=true by first | rfl | decide | simp [WShape.has,WShape.arms,WShape.armsAll])
  (show (WTm.eq .res (.lit (.bool true))).value [] { args:=args,res:=some (.bool true),after:=args }=some (.bool (true == true)) from w_eq_bool (w_res rfl) w_lit) rfl
theorem attach_call {l:OpenLaw} {n:Nat} {q:Program} {loose:List Str} {XP:(Str→Option Value)→Heap→Prop} {YP:World→Heap→Prop} {d:DefRec}
  (hn:l.most=some n) (LV:d.params.defaults=[])
  (call:∀ (w:World) (s₀ s₁:Shared) (mg mb:Str→Option Value) (fa:Addr) (o:Obj) (pm cd doc:Value) (a:Addr) (vs:List Value) (ns:List Int),
   Ground q loose [] XP w s₀ mg mb s₁.heap→YP w s₁.heap→
   s₁.heap.get? fa=some o→o.data=.func (docDef d.name d.params d.body d.scope pm cd doc)→s₁.heap.CodeRec cd d.name→mg d.name=some (.ref fa)→
   s₁.heap.get? a=some { cls:=.type "list",data:=.seq vs.toArray }→IntsAre vs ns→ns.length≤n→s₁.gens = #[]→
   codeAny (model l.prog w) callerA (.call (.ref fa) ⟨[.ref a],[]⟩) (fun r s'=>r=.ok (.ret (.bool true))∧OldK s₁.heap s'.heap∧s'.os=s₁.os∧AllBare s'.gens) s₁) :
  WalkO q loose XP YP l.row.toRowW d [] (fun f vs=>PySem.call f vs):=by
 intro w s₀ s₁ mg mb G Y fa o pm cd doc dV kV ho hd ID hD LX hg args vals as Jz hlay hrd LU OH
 obtain rfl:dV=.none:=Dflts.none hD LV
 obtain rfl:kV=.none:=Dflts.noKw hD
 obtain ⟨a,vs,ns,rfl,rfl,KJ,hints,hlen⟩:=sf hn Jz LU
 refine enter_call (codeAny_mono (call w s₀ s₁ mg mb fa o pm cd doc a vs ns G Y ho (fd_plain hd) ID LX KJ hints hlen hg) fun r s' hq=>?_)
 obtain ⟨rfl,h2,h3,h4⟩:=hq
 exact ⟨.inl ⟨.bool true,.bool true,[],rfl,fun _=>rfl,.bool true,si l _,fun _=>⟨List.Pairwise.nil,fun _ hm=>(nomatch hm)⟩⟩,h2,h3,h4⟩
section
variable {prog:Program} {w:World} {A:Around} {E:Value→Shared→Prop} {s:Shared} {K:Frag}
end
end Att
namespace L2
open PySem PySem.Spec PyProof.Rows
theorem nG:∀ {vs:List Value} {ns:List Int},IntsAre vs ns→Vals (ns.map V.int) vs
 | _,_,.nil=>.nil
 | _,_,.cons n t h=>.cons ⟨t,rfl⟩ (nG h)
def BQ (H:Hp):Prop:=∀ b,H b=none∨∃ o xs,H b=some (.frz o (.lst xs))
theorem u0 {P:Program} {w:World} {K:W.Frag} {mg mb:Str→Option Value} {CX:Iy} {k:Nat} {fa a:Addr} {fd:FuncData} {x:Str} {sp:Sp} {s₁:Shared} {vs:List Value} {ns:List Int}
  (KX:K.In s₁.heap) (Lz:s₁.heap.Ns mainGlobals mg) (hb:s₁.heap.Ns builtinsNs mb) (IH:∀ x:Str,x≠"__name__"→mb x=bootBuiltins x) (hlim:s₁.heap.NoLimit) (hg:s₁.gens = #[])
  (ha:s₁.heap.get? a=some { cls:=.type "list",data:=.seq vs.toArray }) (hi:IntsAre vs ns) (hl:ns.length≤sizeLine) (hr:Room k callerA)
  (F:∀ base:Heap,K.In base→base.Ns mainGlobals mg→FnOk P w K mg base CX k fa fd [x] sp) (LY:∀ (s:Shared) (u:Value),BindsTo s fd ⟨[u],[]⟩ [(x,u)])
  (IF:∀ H:Hp,BQ H→SqL K H a (ns.map V.int)→sp [.ref a] H (fun v _=>v=.bl true) fun _ _ _=>False)
  (NR:∀ H e s',CX [] H s₁ (fun _ _ _=>False) e s'→False) :
  codeAny (model P w) callerA (.call (.ref fa) ⟨[.ref a],[]⟩) (fun r s'=>r=.ok (.ret (.bool true))∧OldK s₁.heap s'.heap∧s'.os=s₁.os∧AllBare s'.gens) s₁:=by
 have rv:=nG hi
 have lenV:=hi.length
 have core:∀ H:Hp,BQ H→SqL K H a (ns.map V.int)→HOk P w H s₁.heap→(∀ b,H b≠none→b=a)→(H a≠none→K.lookup a=none)→
   codeAny (model P w) callerA (.call (.ref fa) ⟨[.ref a],[]⟩) (fun r s'=>r=.ok (.ret (.bool true))∧OldK s₁.heap s'.heap∧s'.os=s₁.os∧AllBare s'.gens) s₁:=by
  intro H hO hS hok hA hK
  have HG:∀ {b:Addr} {o:Obj},s₁.heap.get? b=some o→H b=none→(uK s₁.heap H).get? b=some o:=fun e n=>uL e n
  have LR:∀ {b:Addr} {o:Obj} {es:Array DictEntry} {ep:Nat},s₁.heap.get? b=some o→o.data=.dict es ep→H b=none:=fun {b o es ep} e d=>by
   cases q:H b with
   | none=>rfl
   | some u=>
    have e':b=a:=hA b (by rw [q];simp)
    subst e'
    rw [ha] at e;cases e
    have d':Data.seq vs.toArray _=Data.dict es ep:=d
    cases d'
  have Nh:∀ {b:Addr} {m:Str→Option Value},s₁.heap.Ns b m→(uK s₁.heap H).Ns b m:=fun {b m} ⟨o,es,ep,e,d,r⟩=>⟨o,es,ep,HG e (LR e d),d,r⟩
  have OI:K.In (uK s₁.heap H):=fun b o e=>HG (KX b o e) (by
   cases q:H b with
   | none=>rfl
   | some u=>
    have e':b=a:=hA b (by rw [q];simp)
    subst e'
    rw [hK (by rw [q];simp)] at e;cases e)
  have hM:Mod K mg (uK s₁.heap H):=⟨OI,Nh Lz,⟨mb,Nh hb,IH⟩,let ⟨mc,h1,h2⟩:=hlim;⟨mc,Nh h1,h2⟩⟩
  have e0:Env0 P w K mg (uK s₁.heap H) callerA [] s₁ H:=⟨rfl,hM,fun b o e=>wO e,Nat.le_of_eq (rL _ _),trivial,fun b hb=>absurd (show b∈([]:List Addr) from hb) (by simp),hok,.of_eq hg⟩
  refine codeAny_mono ((F _ OI (Nh Lz)).run callerA [] s₁ H ⟨[.ref a],[]⟩ [.ref a] [.ref a] _ _ hr e0 (LY s₁ (.ref a)) (.cons rfl .nil) (IF H hO hS)) fun r s' h=>?_
  cases r with
  | error e=>exact (NR H e s' h).elim
  | ok fl=>
   cases fl with
   | next=>exact False.elim h
   | brk=>exact False.elim h
   | cont=>exact False.elim h
   | ret u=>
    obtain ⟨v,H',os,bare,un,hok',r',q⟩:=h
    have q':v=.bl true:=q
    subst q'
    obtain rfl:u=Value.bool true:=r'
    refine ⟨rfl,OldK.of_keep fun b o e=>?_,os,bare⟩
    cases q:H b with
    | none=>exact un.keep b o e q (by intro z;exact absurd (show b∈([]:List Addr) from z) (by simp)) (by simp)
    | some u=>
     rcases hO b with z | ⟨ob,xs,z⟩
     ·rw [q] at z;cases z
     ·have z2:=un.frzs b ob _ z
      obtain ⟨e1,_⟩:=hok b _ z
      obtain ⟨e2,_⟩:=hok' b _ z2
      rw [e] at e1;cases e1
      exact e2
 cases hk:K.lookup a with
 | some o=>
  have e:=KX a o hk
  rw [ha] at e
  cases e
  refine core (fun _=>none) (fun _=>.inl rfl) (.inr ⟨_,vs.toArray,_,hk,rfl,rfl,rfl,by rw [List.size_toArray,lenV];exact hl,by simpa using rv⟩) (fun b u z=>by have z':(none:Option HO)=some u:=z;cases z') (fun b z=>absurd rfl z) fun z=>absurd rfl z
 | none=>
  refine core (fun b=>if b=a then some (.frz { cls:=.type "list",data:=.seq vs.toArray } (.lst (ns.map V.int))) else none) (fun b=>?_) (.inl (.inr ⟨{ cls:=.type "list",data:=.seq vs.toArray },if_pos rfl⟩)) (fun b u z=>?_) (fun b z=>?_) fun _=>hk
  ·by_cases hb:b=a
   ·exact .inr ⟨_,_,if_pos hb⟩
   ·exact .inl (if_neg hb)
  ·by_cases hb:b=a
   ·have z':=(if_pos hb).symm.trans z
    cases z'
    subst hb
    exact ⟨ha,by rw [List.length_map];exact hl,vs,_,rv,ha⟩
   ·have z':=(if_neg hb).symm.trans z
    cases z'
  ·by_cases hb:b=a
   ·exact hb
   ·exact absurd (if_neg hb) z
theorem xm {l:PySem.W.OpenLaw} {n k:Nat} {q:Program} {loose:List Str} {XP:(Str→Option Value)→Heap→Prop} {YP:World→Heap→Prop} {d:DefRec} {K:Params→W.Frag} {CX:World→Iy} {sp:World→Sp} {x:Str}
  (hn:l.most=some n) (II:n≤sizeLine) (LV:d.params.defaults=[]) (hr:Room k callerA)
  (hY:∀ (w:World) (h:Heap),YP w h→(K w.params).In h)
  (F:∀ (w:World) (mg:Str→Option Value) (fa:Addr) (h:Heap),(K w.params).In h→h.Ns mainGlobals mg→mg d.name=some (.ref fa)→
   ∃ fd:FuncData,(∀ (s:Shared) (u:Value),BindsTo s fd ⟨[u],[]⟩ [(x,u)])∧
    ∀ base:Heap,(K w.params).In base→base.Ns mainGlobals mg→FnOk l.prog w (K w.params) mg base (CX w) k fa fd [x] (sp w))
  (IF:∀ (w:World) (H:Hp) (a:Addr) (ns:List Int),ns.length≤n→BQ H→SqL (K w.params) H a (ns.map V.int)→sp w [.ref a] H (fun v _=>v=.bl true) fun _ _ _=>False)
  (NR:∀ (w:World) (H:Hp) (s:Shared) (e:Value) (s':Shared),CX w [] H s (fun _ _ _=>False) e s'→False) :
  PySem.W.WalkO q loose XP YP l.row.toRowW d [] (fun f vs=>PySem.call f vs):=by
 refine Att.attach_call hn LV fun w s₀ s₁ mg mb fa o pm cd doc a vs ns G Y ho hd ID LX KJ hints hlen hg=>?_
 have KX:=hY w _ Y
 obtain ⟨fd,hb,hF⟩:=F w mg fa _ KX G.T.g LX
 exact u0 KX G.T.g G.T.b G.T.builtins G.T.nolimit hg KJ hints (Nat.le_trans hlen II) hr hF hb (fun H hO hS=>IF w H a ns hlen hO hS) fun H e s'=>NR w H s₁ e s'
noncomputable def gj (s:Stmt):Arguments:=match s with
 | .FunctionDef _ a _ _ _ _ _ _ _ _=>a
 | _=>{ posonlyargs:=[],args:=[],vararg:=none,kwonlyargs:=[],kw_defaults:=[],kwarg:=none,defaults:=[] }
noncomputable def dY (s:Stmt):List Stmt:=match s with
 | .FunctionDef _ _ b _ _ _ _ _ _ _=>b
 | _=>[]
noncomputable def defScope (s:Stmt):Scope:=match s with
 | .FunctionDef _ _ _ _ _ _ sc _ _ _=>sc
 | _=>{ kind:=.function,names:=[],isGenerator:=false,isCoroutine:=false }
abbrev IJ:Iy:=fun _ _ _ _ _ _=>False
abbrev E0:XK:=fun _ _ _=>False
theorem BR {X:Cx}:rX IJ X E0:=fun _ _ _ _ _ _ _ h=>h.elim
structure Fun (K:W.Frag) (x qual:Str) (st:Stmt) (f:Addr) (fd:FuncData):Prop where
 ex:∃ (oc:Value) (od:Option Addr) (kV doc pm:Value) (an:Option Addr) (Ej ct:Value) (Jl:Array (Option Value)),
  fd=PySem.W.fnOf x qual (gj st) (dY st) (defScope st) .none kV doc pm an Ej ct∧K.lookup f=some ⟨oc,od,.func fd,Jl⟩∧PySem.W.codeIn K Ej qual=true
 kp:PySem.W.keepIn K (.ref f)=true
section
variable {P:Program} {w:World} {K:W.Frag} {mg:Str→Option Value} {base:Heap}
theorem Fun.ok {x qual:Str} {st:Stmt} {f:Addr} {fd:FuncData} {N ps:List Str} {k:Nat} {sp:Sp} (F:Fun K x qual st f fd) (S:FnScope N ps (defScope st)) (len:∀ vs H Q E,sp vs H Q E→vs.length=ps.length)
  (IE:∀ (Ej:Value) (A:Around) (outer:List Env) (s:Shared) (H:Hp) (vs:List V) (Q:VK) (E:XK),Room k (A.deeper (envOfC qual (defScope st) s.heap.objs.size f Ej))→sp vs H Q E→
   ∃ t,PSs (v7 IJ P w K mg base N qual (defScope st) f Ej A outer s H E).nox (dY st) t∧t { nx:=fun _ H'=>Q .non H',rt:=Q } (start N vs) H):FnOk P w K mg base IJ (k + 1) f fd ps sp:=by
 obtain ⟨oc,od,kV,doc,pm,an,Ej,ct,Jl,rfl,lk,ID⟩:=F.ex
 refine BM lk ID S len fun A outer s H vs Q E hr IF=>?_
 obtain ⟨t,h,q⟩:=IE Ej A outer s H vs Q E hr IF
 exact ⟨t,h.nox,q⟩
theorem Fun.binds {x qual:Str} {st:Stmt} {f:Addr} {fd:FuncData} {ps:List Str} (F:Fun K x qual st f fd)
  (h:∀ (kV doc pm:Value) (an:Option Addr) (Ej ct:Value) (us:List Value),us.length=ps.length→bindArgs (PySem.W.fnOf x qual (gj st) (dY st) (defScope st) .none kV doc pm an Ej ct) ⟨us,[]⟩=pure (ps.zip us)):Binds K fd ps []:=by
 obtain ⟨oc,od,kV,doc,pm,an,Ej,ct,Jl,rfl,lk,ID⟩:=F.ex
 exact .all (h kV doc pm an Ej ct)
theorem wb {x qual:Str} {st:Stmt} {f:Addr} {oc:Value} {od an:Option Addr} {Jl:Array (Option Value)} {kV doc pm Ej ct:Value} (l:K.lookup f=some ⟨oc,od,.func (PySem.W.fnOf x qual (gj st) (dY st) (defScope st) .none kV doc pm an Ej ct),Jl⟩)
  (c:PySem.W.codeIn K Ej qual=true) (k:PySem.W.keepIn K (.ref f)=true):Fun K x qual st f (PySem.W.fnOf x qual (gj st) (dY st) (defScope st) .none kV doc pm an Ej ct):=⟨⟨oc,od,kV,doc,pm,an,Ej,ct,Jl,rfl,l,c⟩,k⟩
end
theorem hu_of {A:Around} {k:Nat} (hr:Room k A):A.units + 1 < cLine:=Nat.lt_of_le_of_lt (Nat.add_le_add_left (by decide:1≤64) _) hr.units
section
variable {X:Cx}
theorem pv (i:Nat) {x:Str} {pos:Pos} (hN:X.N[i]?=some x:=by rfl) (hv:NG X.env.scope x:=by first | exact Or.inl rfl | exact Or.inr (Or.inl rfl) | exact Or.inr (Or.inr rfl)) (hd:(x == ("__debug__" : Str))=false:=by decide)
  (ID:(x == ("__classdict__" : Str))=false:=by decide):PE X (.Name x pos) (uM i):=yZ hN hv hd ID
end
theorem iteF {A B:Prop} (h:B):if false=true then A else B:=by
 rw [if_neg Bool.false_ne_true]
 exact h
theorem BS {A B:Prop} (h:A):if true=true then A else B:=by
 rw [if_pos rfl]
 exact h
def Same (H H':Hp):Prop:=∀ b o,H b=some o→H' b=some o
theorem Same.refl (H:Hp):Same H H:=fun _ _ h=>h
theorem Same.trans {H H1 H2:Hp} (a:Same H H1) (b:Same H1 H2):Same H H2:=fun c o h=>b c o (a c o h)
theorem Same.free {H H':Hp} (e:Same H H') {l:Addr} (h:H' l=Option.none):H l=Option.none:=by
 cases q:H l with
 | none=>rfl
 | some o=>
  rw [e l o q] at h
  cases h
theorem Same.seq {K:W.Frag} {H H':Hp} {a:Addr} {xs:List V} (e:Same H H') (h:SqL K H a xs):SqL K H' a xs:=by
 rcases h with (h | ⟨o,h⟩) | h
 ·exact .inl (.inl (e _ _ h))
 ·exact .inl (.inr ⟨o,e _ _ h⟩)
 ·exact .inr h
end L2
set_option maxHeartbeats 4000000
namespace NX
open PySem PySem.Spec PyProof.Rows L2
section
variable {X:Cx}
theorem ve (v:Int) (n:Nat):max (0:Int) (min (if v < 0 then v + (n:Int) else v) (n:Int))=((HT.sIx n 0 (some v):Nat):Int):=by
 show _=(((if v < 0 then (v + (n:Int)).toNat else min v.toNat n):Nat):Int)
 split <;> lia
theorem zw (a b:Nat):sliceRange (a:Int) (b:Int) 1=(List.range (b - a)).map (fun k=>a + k):=by
 unfold sliceRange
 rw [if_pos (by decide:(1:Int) > 0)]
 by_cases Eu:(a:Int) < b
 ·have e3:(((b:Int) - a + 1 - 1) / 1).toNat=b - a:=by first | lia | (simp;done) | (simp;lia)
  simp only [Eu,if_true,e3]
  refine List.map_congr_left fun k _=>?_
  lia
 ·have:b - a=0:=by lia
  simp [Eu,this]
theorem Ds (lo hi:Option Int) (n:Nat):Builtin.Str.strSliceIndices lo hi 1 n=(List.range (HT.sIx n n hi - HT.sIx n 0 lo)).map (fun k=>HT.sIx n 0 lo + k):=by
 rw [←zw]
 unfold Builtin.Str.strSliceIndices
 simp only [show (1:Int) > 0 from by decide,if_true]
 cases lo with
 | none=>
  cases hi with
  | none=>rfl
  | some v=>exact congrArg (fun z=>sliceRange 0 z 1) (ve v n)
 | some u=>
  cases hi with
  | none=>exact congrArg (fun z=>sliceRange z (n:Int) 1) (ve u n)
  | some v=>exact (congrArg (fun z=>sliceRange z _ 1) (ve u n)).trans (congrArg (fun z=>sliceRange _ z 1) (ve v n))
noncomputable def zx (xs:List Nat) (lo hi:Option Int):List Nat:=(xs.drop (HT.sIx xs.length 0 lo)).take (HT.sIx xs.length xs.length hi - HT.sIx xs.length 0 lo)
theorem wc {α:Type} (l:List α):∀ (n a:Nat),a + n≤l.length→((List.range n).map (fun k=>a + k)).filterMap (l[·]?)=(l.drop a).take n
 | 0,_,_=>by simp
 | n + 1,a,h=>by
  have Eu:a + n < l.length:=by lia
  rw [List.range_succ,List.map_append,List.filterMap_append,wc l n a (by lia),List.take_add_one,List.getElem?_drop]
  simp [List.getElem?_eq_getElem Eu]
theorem sj (x:Str) (lo hi:Option Int):(Txt.slice x lo hi).cps.toList=zx x.cps.toList lo hi:=by
 have hl:x.cps.toList.length=x.length:=Array.length_toList
 have ha:=HT.r6 x.length 0 (Nat.zero_le _) lo
 have hb:=HT.r6 x.length x.length (Nat.le_refl _) hi
 unfold Txt.slice zx
 rw [Ds,hl]
 split
 ·rename_i h
  have h2:HT.sIx x.length x.length hi - HT.sIx x.length 0 lo=x.length:=by simpa using h
  have ez:HT.sIx x.length 0 lo=0∨x.length=0:=by lia
  rcases ez with e | e
  ·rw [h2,e,List.drop_zero,List.take_of_length_le (by lia)]
  ·have:x.cps.toList=[]:=List.eq_nil_of_length_eq_zero (by lia)
   rw [this]
   simp
 ·have hk:∀ (f:List Nat),f.filterMap (x.cps[·]?)=f.filterMap (x.cps.toList[·]?):=fun f=>by
   congr 1
   funext i
   simp
  show (List.filterMap _ _).toArray.toList=_
  rw [List.toList_toArray,hk]
  by_cases hle:HT.sIx x.length 0 lo≤HT.sIx x.length x.length hi
  ·rw [wc _ _ _ (by lia)]
  ·have e0:HT.sIx x.length x.length hi - HT.sIx x.length 0 lo=0:=by lia
   rw [e0]
   rfl
abbrev S (l:List Nat):Str:=⟨l.toArray⟩
theorem nH (x:Str):S x.cps.toList=x:=by cases x;simp [S]
theorem S_inj {a b:List Nat} (h:S a=S b):a=b:=by
 have:=congrArg (fun z:Str=>z.cps.toList) h
 simpa [S] using this
theorem lr (l:List Nat):(S l).length=l.length:=by simp [S,Str.length]
theorem dZ (l:List Nat):(S l).cps.toList=l:=by simp [S]
theorem BU (a b:List Nat):S a++S b=S (a++b):=by
 rw [←nH (S a++S b),PySem.W.KT.app_list,dZ,dZ]
noncomputable def Dt:V→Option Int→Option Int→Hp→VK→Prop:=fun x lo hi H Q=>∃ l,x=.str (S l)∧l.length≤sizeLine∧Q (.str (S (zx l lo hi))) H
theorem zy:KI X Dt:=by
 intro pins s σ H x v vl vu lo hi sl Q I rx hs pl pu h
 obtain ⟨l,rfl,hz,q⟩:=h
 obtain ⟨t,rfl⟩:=rx
 have hz':(S l).length≤sizeLine:=by rw [lr];exact hz
 have e:∀ t' k,EP X pins σ Q (.str (Txt.slice (S l) lo hi) t') { s with toks:=k }:=fun t' k=>by
  refine ⟨.str (S (zx l lo hi)),H,I.tok _,⟨t',?_⟩,q⟩
  have e1:=sj (S l) lo hi
  rw [dZ] at e1
  rw [←e1,nH]
 refine ⟨"str",_,PySem.F.slot_str_getitem.lookup,typeIs_str _ _ _,?_⟩
 have key:∀ (KL Ni:Option (Int×Tok)),partValue KL=vl→partValue Ni=vu→KL.map (·.1)=lo→Ni.map (·.1)=hi→
   wpAny (model X.prog X.w) X.A (getItem (.str (S l) t) (.ref sl)) (EP X pins σ Q) X.xe s:=by
  rintro KL Ni rfl rfl rfl rfl
  exact wpAny_getItem_str_slice (l:=KL) (u:=Ni) (st:=none) hs rfl (post_val_or_str ⟨Nat.le_trans (Txt.slice_le (S l) _ _) hz',fun t' k=>e t' k⟩)
 cases pl with
 | none=>
  cases pu with
  | none=>exact key none none rfl rfl rfl rfl
  | int j uj=>exact key none (some (j,uj)) rfl rfl rfl rfl
 | int i ui=>
  cases pu with
  | none=>exact key (some (i,ui)) none rfl rfl rfl rfl
  | int j uj=>exact key (some (i,ui)) (some (j,uj)) rfl rfl rfl rfl
theorem getD_of {xs:List V} {j:Nat} {x:V} (h:xs[j]?=some x):xs.getD j .non=x:=by rw [List.getD_eq_getElem?_getD,h];rfl
end
def Def (K:W.Frag) (mg:Str→Option Value) (x:Str) (st:Stmt):Prop:=∃ f fd,Fun K x x st f fd∧mg x=some (.ref f)
def Ct (P:Program) (w:World) (K:W.Frag) (mg:Str→Option Value) (base:Heap) (x:Str) (k:Nat) (sp:Sp):Prop:=
 ∃ f fd ps,FnOk P w K mg base IJ k f fd ps sp∧mg x=some (.ref f)∧PySem.W.keepIn K (.ref f)=true∧Binds K fd ps []
section
variable {X:Cx} {e:Expr} {es:List Expr} {t:TA} {x:Str} {p pos:Pos} {k:Nat} {sp:Sp}
theorem BV (C:Ct X.prog X.w X.K X.mg X.base x k sp) (hr:Room k X.A) (hg:Gl X x) (ha:PA X (e :: es) t) (Gi:(x == ("__debug__" : Str))=false:=by decide)
  (he:starEach (e :: es) X.env=(false,eval e X.env) :: starEach es X.env:=by rfl) (FZ:(backTo pos (starEach es X.env)).any (·.1)=false:=by rfl) :
  PE X (.Call (.Name x p) (e :: es) [] pos) (tCall sp [] E0 t):=by
 obtain ⟨f,fd,ps,G,m,kp,b⟩:=C
 exact w9 G hr hg m kp b .nil BR ha Gi he FZ
end
theorem bt_len:bootBuiltins "len" = some (.builtin "len"):=by decide +kernel
theorem lX:bootBuiltins "isinstance" = some (.builtin "isinstance"):=by decide +kernel
theorem lY:bootBuiltins "list" = some (.type "list"):=by decide +kernel
theorem cS:bootBuiltins "tuple" = some (.type "tuple"):=by decide +kernel
theorem xn:bootBuiltins "bool" = some (.type "bool"):=by decide +kernel
theorem line_eq:sizeLine=16777216:=sizeLine_eq
theorem flat_strs (a:List (List Nat)):(a.map fun l=>V.str (S l)).all uX=true:=by
 rw [List.all_eq_true]
 intro v hv
 obtain ⟨l,_,rfl⟩:=List.mem_map.mp hv
 rfl
section
variable {X:Cx} {e:Expr} {st:Stmt}
end
noncomputable def clOf (scope:Scope) (env:Env):List (Str×Addr):=scope.names.foldl (fun cs y=>if y.2 == NameKind.free then (y.1,(env.cells.lookup y.1).getD 0) :: cs else cs) []
noncomputable def iJ (scope:Scope) (env:Env):Bool:=scope.names.all fun y=>y.2 != NameKind.free || env.kindOf y.1 == some .cell || env.kindOf y.1 == some .free
theorem gU (env:Env):∀ (l:List (Str×NameKind)) (cs:List (Str×Addr)),(∀ y∈l,y.2=.free→∃ c,env.cells.lookup y.1=some c)→
  (forIn l cs fun (y:Str×NameKind) (r:List (Str×Addr))=>(do
   if y.2 == NameKind.free then
    let a ←cellOf env y.1
    pure (ForInStep.yield ((y.1,a) :: r))
   else pure (ForInStep.yield r):Sem (ForInStep (List (Str×Addr)))))=pure (l.foldl (fun cs y=>if y.2 == NameKind.free then (y.1,(env.cells.lookup y.1).getD 0) :: cs else cs) cs)
 | [],cs,_=>by simp
 | y :: l,cs,h=>by
  rw [List.forIn_cons,List.foldl_cons]
  by_cases k:y.2=.free
  ·obtain ⟨c,e⟩:=h y List.mem_cons_self k
   have e2:cellOf env y.1=pure c:=by unfold cellOf;rw [e]
   simp only [k,beq_self_eq_true,if_true,e2,e,Option.getD_some,pure_bind]
   exact gU env l _ fun z hz=>h z (List.mem_cons_of_mem _ hz)
  ·have kb:(y.2 == NameKind.free)=false:=by simpa using k
   simp only [kb,Bool.false_eq_true,if_false,pure_bind]
   exact gU env l _ fun z hz=>h z (List.mem_cons_of_mem _ hz)
theorem hU (env:Env) (x:Str) (c:Addr):∀ (l:List (Str×NameKind)) (cs:List (Str×Addr)),(∀ y∈l,y.2=.free→∃ c,env.cells.lookup y.1=some c)→(cs.lookup x=some c→env.cells.lookup x=some c)→
  (l.foldl (fun cs y=>if y.2 == NameKind.free then (y.1,(env.cells.lookup y.1).getD 0) :: cs else cs) cs).lookup x=some c→env.cells.lookup x=some c
 | [],_,_,h,e=>h e
 | y :: l,cs,hf,h,e=>by
  rw [List.foldl_cons] at e
  refine hU env x c l _ (fun z hz=>hf z (List.mem_cons_of_mem _ hz)) (fun q=>?_) e
  split at q
  ·rename_i k
   have k:y.2=.free:=by simpa using k
   obtain ⟨d,ed⟩:=hf y List.mem_cons_self k
   rw [List.lookup_cons] at q
   cases hx:x == y.1 with
   | true=>
    rw [hx] at q
    have exy:x=y.1:=by simpa using hx
    rw [ed,Option.getD_some] at q
    rw [exy,ed]
    exact q
   | false=>
    rw [hx] at q
    exact h q
  ·exact h q
theorem kc (env:Env) (x:Str):∀ (l:List (Str×NameKind)) (cs:List (Str×Addr)),((∃ d,cs.lookup x=some d)∨(x,NameKind.free)∈l)→
  ∃ d,(l.foldl (fun cs y=>if y.2 == NameKind.free then (y.1,(env.cells.lookup y.1).getD 0) :: cs else cs) cs).lookup x=some d
 | [],_,h=>by
  rcases h with h | h
  ·exact h
  ·cases h
 | y :: l,cs,h=>by
  rw [List.foldl_cons]
  refine kc env x l _ ?_
  rcases h with ⟨d,h⟩ | h
  ·refine .inl ?_
   split
   ·rw [List.lookup_cons]
    cases hx:x == y.1 with
    | true=>exact ⟨_,rfl⟩
    | false=>exact ⟨d,h⟩
   ·exact ⟨d,h⟩
  ·rcases List.mem_cons.mp h with h | h
   ·refine .inl ?_
    rw [←h]
    refine ⟨(env.cells.lookup x).getD 0,?_⟩
    show List.lookup x ((x,_) :: cs)=_
    rw [List.lookup_cons,beq_self_eq_true]
   ·exact .inr h
noncomputable def b6 (X:Cx) (scope:Scope) (N:List Str) (C:Addr) (s:Shared) (H:Hp) (fp:List Addr) (pn:List (Addr×Obj)):Cx:=
 { X with N:=N,s₀:=s,H₀:=H,env:=compEnvC scope (clOf scope X.env) C X.env,outer:=X.stack,ex:=fp,fn:=fun _=>false,pn:=pn,xe:=fun _ _=>False }
noncomputable def lF (ix:List (Option Nat)) (σ:L2.St):L2.St:=ix.map fun i=>i.bind fun i=>(σ[i]?).bind id
noncomputable def xo (wi:TI) (ix:List (Option Nat)) (g:TG) (tc:TT) (te:TE):TE:=fun σ H Q=>wi σ H fun J H1=>∀ D,H1 D=none→∃ W:Nat→Nat→L2.St→Hp→Prop,(∃ m,W 0 m (lF ix σ) (upd H1 D (.lst [])))∧
 ∀ i m σ1 H2,W i m σ1 H2→(J.stop i H2∧Q (.ref D) H2)∨(J.go i H2∧∀ x H3,J.yld i H2 x H3→g x σ1 H3 fun σ2 H4=>tc σ2 H4 fun b H5=>if b=true then te σ2 H5 fun v H6=>
  ∃ ys,H6 D=some (.lst ys)∧ys.length < sizeLine∧∃ m',m' < m∧W (i + 1) m' σ2 (upd H6 D (.lst (ys++[v]))) else ∃ m',m' < m∧W (i + 1) m' σ2 H5)
abbrev JA:Value→Shared→Prop:=fun _ _=>False
theorem LA {α:Type} {M:Model} {A:Around} {t:Sem α} {Q Q':α→Shared→Prop} {E:Value→Shared→Prop} {s:Shared} (h:wpAny M A t Q JA s) (k:∀ a s,Q a s→Q' a s):wpAny M A t Q' E s:=wpAny_mono h k fun _ _ z=>z.elim
theorem sk {prog:Program} {w:World} {A:Around} {R:Result→Shared→Prop} {s:Shared} {elt target iter:Expr} {ifs:List Expr} {scope:Scope} {pos:Pos} {it acc:Value} {env:Env} (I:Nat→Shared→Prop)
  (turn:∀ n s,I n s→wpAny (model prog w) A (pyNext it) (fun r s₁=>match r with
   | none=>R (.ok .next) s₁
   | some v=>wpAny (model prog w) A (letOwnedTupleGo target it v) (fun _ s₂=>wpAny (model prog w) A (assign target env v) (fun _ s₃=>
     wpAny (model prog w) A (forIn ifs true fun c r=>if r=true then do let ok ←isTrue c env (eval c env);pure (ForInStep.yield ok) else pure (ForInStep.yield r)) (fun ok s₄=>
      if ok=true then wpAny (model prog w) A (eval elt env) (fun x s₅=>
       wpAny (model prog w) A (call (.builtin "list.append") [acc,x]) (fun _ s₆=>∃ m,m < n∧I m s₆) JA s₅) JA s₄
      else ∃ m,m < n∧I m s₄) JA s₃) JA s₂) JA s₁) JA s)
  (n:Nat) (h:I n s):codeAny (model prog w) A (.compLoop (.ListComp elt [⟨target,iter,ifs,0⟩] scope pos) 0 it acc env) R s:=by
 refine codeAny_loop rfl I (fun n s hI=>?_) n h
 show wpAny _ A ((compTurn (.ListComp elt [⟨target,iter,ifs,0⟩] scope pos) 0 it acc env).onRaise (fun x=>do noteFrame x env;theTreesLotGoes x)) _ _ s
 refine wpAny_noted ?_
 rw [compTurn_list]
 refine wpAny_bind (wpAny_standAt (wpAny_bind (LA (turn n s hI) fun r s₁ h₁=>?_)))
 cases r with
 | none=>exact wpAny_pure h₁
 | some v=>
  refine wpAny_bind (LA h₁ fun _ s₂ h₂=>wpAny_bind (LA h₂ fun _ s₃ h₃=>wpAny_bind (LA h₃ fun ok s₄ h₄=>?_)))
  cases ok with
  | false=>exact wpAny_pure ⟨rfl,h₄⟩
  | true=>exact wpAny_bind (wpAny_bind (LA h₄ fun x s₅ h₅=>wpAny_bind (LA h₅ fun _ s₆ h₆=>wpAny_pure (wpAny_pure ⟨rfl,h₆⟩))))
def LZ (X:Cx) (ifs:List Expr) (t:TT):Prop:=
 ∀ (pins:List (Addr×Obj)) (s:Shared) (σ:L2.St) (H:Hp) (Q:Bool→Hp→Prop),Inv X pins σ H s→t σ H Q→
  wpAny (model X.prog X.w) X.A (forIn ifs true fun c r=>if r=true then do let ok ←isTrue c X.env (eval c X.env);pure (ForInStep.yield ok) else pure (ForInStep.yield r)) (TP X pins σ Q) X.xe s
noncomputable def Du:TT:=fun _ H Q=>Q true H
theorem xp {X:Cx}:LZ X [] Du:=fun _ _ _ H _ I h=>wpAny_tests_nil ⟨H,I,h⟩
noncomputable def we (X:Cx) (scope:Scope) (N:List Str) (ix:List (Option Nat)):Bool:=
 N.length == ix.length && (N.zip ix).all fun y=>match y.2 with
  | none=>true
  | some j=>X.N[j]? == some y.1 && scope.names.lookup y.1 == some .free
theorem nI {scope:Scope} {env:Env} {x:Str} (h:scope.names.lookup x=some .free):(relabel scope env).names.lookup x=some .cell∨(relabel scope env).names.lookup x=some .free:=by
 unfold relabel
 dsimp only
 generalize scope.names=l at h
 induction l with
 | nil=>cases h
 | cons y l ih=>
  obtain ⟨n,k⟩:=y
  rw [List.lookup_cons] at h
  rw [List.map_cons]
  cases hx:x == n with
  | true=>
   rw [hx] at h
   have hk:k=.free:=Option.some.inj h
   subst hk
   dsimp only
   split
   ·exact .inl (by rw [List.lookup_cons,hx])
   ·exact .inr (by rw [List.lookup_cons,hx])
  | false=>
   rw [hx] at h
   dsimp only
   split
   ·rw [List.lookup_cons,hx];exact ih h
   ·rw [List.lookup_cons,hx];exact ih h
theorem nJ {scope:Scope} {env:Env} {x:Str} (hc:∀ y∈scope.names,y.2≠.cell) (h:(relabel scope env).names.lookup x=some .cell∨(relabel scope env).names.lookup x=some .free):(x,NameKind.free)∈scope.names:=by
 unfold relabel at h
 dsimp only at h
 generalize scope.names=l at h hc
 induction l with
 | nil=>rcases h with h | h <;> cases h
 | cons y l ih=>
  obtain ⟨n,k⟩:=y
  rw [List.map_cons] at h
  dsimp only at h
  have nk:k≠.cell:=hc (n,k) List.mem_cons_self
  have OJ:=ih (hc:=fun z hz=>hc z (List.mem_cons_of_mem _ hz))
  by_cases cnd:(k == NameKind.free && env.scope.kind == .function && env.kindOf n == some .cell)=true
  ·rw [if_pos cnd,List.lookup_cons] at h
   have kf:k=.free:=by
    have:(k == NameKind.free)=true:=by
     simp only [Bool.and_eq_true] at cnd
     exact cnd.1.1
    simpa using this
   cases hx:x == n with
   | true=>
    have:x=n:=by simpa using hx
    rw [this,kf]
    exact List.mem_cons_self
   | false=>
    rw [hx] at h
    exact List.mem_cons_of_mem _ (OJ h)
  ·rw [if_neg cnd,List.lookup_cons] at h
   cases hx:x == n with
   | true=>
    rw [hx] at h
    have:x=n:=by simpa using hx
    rcases h with h | h
    ·exact absurd (Option.some.inj h) nk
    ·rw [this,←Option.some.inj h]
     exact List.mem_cons_self
   | false=>
    rw [hx] at h
    exact List.mem_cons_of_mem _ (OJ h)
section
variable {X:Cx} {pins:List (Addr×Obj)} {σ:L2.St} {H:Hp} {s:Shared} {scope:Scope} {N:List Str} {ix:List (Option Nat)} {fp:List Addr}
theorem lZ (ok:X.Ok) (hf:iJ scope X.env=true):∀ y∈scope.names,y.2=.free→∃ c,X.env.cells.lookup y.1=some c:=fun y hy k=>by
 have:=List.all_eq_true.mp hf y hy
 rw [k] at this
 simp only [bne_self_eq_false,Bool.false_or,Bool.or_eq_true,beq_iff_eq] at this
 exact ok.has y.1 this
theorem ke (ok:X.Ok) (hf:iJ scope X.env=true) {x:Str} {c:Addr} (h:(clOf scope X.env).lookup x=some c):X.env.cells.lookup x=some c:=
 hU X.env x c scope.names [] (lZ ok hf) (fun z=>nomatch z) h
theorem so (ok:X.Ok) (hf:iJ scope X.env=true) {x:Str} (h:(x,NameKind.free)∈scope.names):∃ c,(clOf scope X.env).lookup x=some c∧X.env.cells.lookup x=some c:=by
 obtain ⟨c,e⟩:=kc X.env x scope.names [] (.inr h)
 exact ⟨c,e,ke ok hf e⟩
theorem _root_.L2.Inv.block (I:Inv X pins σ H s) (hf:iJ scope X.env=true) (hk:scope.kind=.function) (ED:∀ y∈scope.names,y.2≠.cell) (EX:we X scope N ix=true) (fo:∀ b∈fp,rE X pins H b) (fin:∀ b∈fp,∃ o,s.heap.get? b=some o)
  {h1:Heap} {t1:Nat} {D C:Addr} (hD:D=s.heap.objs.size) (hC:C=s.heap.objs.size + 1) (old:∀ b o,s.heap.get? b=some o→h1.get? b=some o) {n:Nat} (acc:h1.get? D=some { cls:=.type "list",data:=.seq #[] n })
  {m:Str→Option Value} (ns:h1.Ns C m):Inv (b6 X scope N C s H fp (X.pn++pins)) [] (lF ix σ) (upd H D (.lst [])) { s with heap:=h1,toks:=t1 }:=by
 have Hm:s.heap.objs.size≤C:=by rw [hC];exact Nat.le_succ _
 have freshD:s.heap.objs.size≤D:=by rw [hD];exact Nat.le_refl _
 have nD:H D=none:=I.hok.fresh freshD
 have DC:D≠C:=by rw [hD,hC];exact Nat.ne_of_lt (Nat.lt_succ_self _)
 have KN:∀ b,H b=none→b≠D→upd H D (.lst []) b=none:=fun b n z=>by rw [aP z];exact n
 have LB:∀ b o,s.heap.get? b=some o→b≠D:=fun b o e=>Nat.ne_of_lt (Nat.lt_of_lt_of_le (Heap.lt_size e) freshD)
 have JB:∀ b o,s.heap.get? b=some o→b≠C:=fun b o e=>Nat.ne_of_lt (Nat.lt_of_lt_of_le (Heap.lt_size e) Hm)
 have cellAt:∀ x c,(clOf scope X.env).lookup x=some c→∃ v o,s.heap.get? c=some o∧o.data=.cell v:=fun x c e=>by
  obtain ⟨v,o,ho,hd⟩:=I.cell x c (ke I.ok hf e)
  exact ⟨v,o,ho,hd⟩
 have okY:(b6 X scope N C s H fp (X.pn++pins)).Ok:=by
  refine ⟨I.ok.mod,hk,I.ok.glob,I.ok.blt,Hm,fun x y c e1 e2=>?_,fun x hx=>?_,fun x c z _=>?_,I.ok.hd,I.ok.frames,.inl rfl,fun b hb=>?_,I.bs,?_,fun b o e hb=>?_,fun b hb hs=>?_,I.stack,I.stkFree⟩
  ·exact I.ok.inj x y c (ke I.ok hf e1) (ke I.ok hf e2)
  ·obtain ⟨c,e,_⟩:=so I.ok hf (nJ ED hx)
   exact ⟨c,e⟩
  ·exact absurd (show false=true from z) Bool.false_ne_true
  ·obtain ⟨f0,f1,f2,f3,f4,f5⟩:=fo b hb
   refine ⟨?_,fun x c e=>f4 x c (ke I.ok hf e)⟩
   intro z
   have z:b=C:=z
   obtain ⟨o,ho⟩:=fin b hb
   exact JB b o ho z
  ·exact Nat.le_trans I.ok.bsz I.sz
  ·obtain ⟨f0,f1,f2,f3,f4,f5⟩:=fo b hb
   rcases f3 with q | q
   ·exact I.ok.noex b o e q
   ·exact absurd (Nat.lt_of_lt_of_le (Heap.lt_size e) (Nat.le_trans I.ok.bsz q)) (Nat.lt_irrefl _)
  ·obtain ⟨f0,f1,f2,_⟩:=fo b hb
   exact (List.mem_cons.mp (I.stkSub b hs)).elim f1 f2
 refine ⟨okY,rfl,I.bare,Un.laid old freshD nD,⟨m,ns,fun i x v e1 e2 e3=>?_⟩,fun x c e=>?_,?_,fun x c e=>?_,fun p hp=>?_,I.hok.laid old freshD ⟨Nat.zero_le _,[],n,.nil,acc⟩,?_⟩
 ·
  have e2:(ix.map fun i=>i.bind fun i=>(σ[i]?).bind id)[i]?=some (some v):=e2
  have e1:N[i]?=some x:=e1
  unfold we at EX
  rw [Bool.and_eq_true] at EX
  rw [List.getElem?_map] at e2
  cases q:ix[i]? with
  | none=>rw [q] at e2;cases e2
  | some o=>
   rw [q] at e2
   have e2:(o.bind fun i=>(σ[i]?).bind id)=some v:=Option.some.inj e2
   cases o with
   | none=>cases e2
   | some j=>
    have e2:(σ[j]?).bind id=some v:=e2
    have hσ:σ[j]?=some (some v):=by
     cases w':σ[j]? with
     | none=>rw [w'] at e2;cases e2
     | some y=>rw [w'] at e2;exact congrArg some e2
    have hz:(N.zip ix)[i]?=some (x,some j):=by
     rw [List.getElem?_zip_eq_some]
     exact ⟨e1,q⟩
    have hy:=List.all_eq_true.mp EX.2 _ (List.mem_of_getElem? hz)
    simp only [Bool.and_eq_true,beq_iff_eq] at hy
    have OK:(x,NameKind.free)∈scope.names:=PySem.mem_of_lookup hy.2
    obtain ⟨c,c1,c2⟩:=so I.ok hf OK
    have L0:X.env.kindOf x=some .cell∨X.env.kindOf x=some .free:=by
     have:=List.all_eq_true.mp hf _ OK
     simpa using this
    obtain ⟨mo,OG,OH⟩:=I.loc
    obtain ⟨u,r,l⟩:=OH j x v hy.1 hσ (.inr L0)
    refine ⟨u,r,.inr ⟨nI hy.2,c,c1,?_⟩⟩
    rcases l with ⟨k1,_⟩ | ⟨_,c',e',Jw⟩
    ·rcases L0 with k2 | k2 <;> (rw [k1] at k2;cases k2)
    ·rw [c2] at e'
     cases e'
     obtain ⟨o,ho,hd⟩:=Jw
     exact ⟨o,old c o ho,hd⟩
 ·obtain ⟨v,o,ho,hd⟩:=cellAt x c e
  exact ⟨v,o,old c o ho,hd⟩
 ·exact KN C (I.hok.fresh Hm) (Ne.symm DC)
 ·obtain ⟨v,o,ho,hd⟩:=cellAt x c e
  exact KN c (I.freeC x c (ke I.ok hf e)) (LB c o ho)
 ·have hp:p∈X.pn++pins:=by
   have:p∈(X.pn++pins)++[]:=hp
   rwa [List.append_nil] at this
  obtain ⟨e,nn,ne,nf,d⟩:=I.pin p hp
  refine ⟨old _ _ e,KN _ nn (LB _ _ e),JB _ _ e,fun z=>?_,d⟩
  exact (List.mem_cons.mp (I.stkSub p.1 z)).elim ne nf
 ·unfold we at EX
  rw [Bool.and_eq_true] at EX
  have:N.length=ix.length:=by simpa using EX.1
  show (ix.map _).length=N.length
  rw [List.length_map,this]
theorem _root_.L2.Inv.unblock {C:Addr} {σ1:L2.St} {H1:Hp} {s1:Shared} {h2:Heap} (I:Inv X pins σ H s) (fo:∀ b∈fp,rE X pins H b) (hC:s.heap.objs.size≤C) (J:Inv (b6 X scope N C s H fp (X.pn++pins)) [] σ1 H1 s1) (hs:Heap.SameBut C s1.heap h2) :
  Inv X pins σ H1 { s1 with heap:=h2 }:=by
 have JB:∀ b o,s.heap.get? b=some o→b≠C:=fun b o e=>Nat.ne_of_lt (Nat.lt_of_lt_of_le (Heap.lt_size e) hC)
 have bb:Un (Iw X.stack) fp H H1 s.heap s1.heap:=J.base
 have jf:H1 C=none:=J.free
 refine I.call' (s':={ s1 with heap:=h2 }) (ch:=fp) J.os ⟨fun b o e n hb hx=>?_,fun b o e n hb hx=>?_,bb.free,fun b o e hx=>?_,bb.tups,bb.frzs,bb.tbls⟩ (fun b ob e=>?_) J.bare fun b hb=>?_
 ·exact (hs.2 b (JB b o e)).trans (bb.keep b o e n hb hx)
 ·obtain ⟨sl,q⟩:=bb.slot b o e n hb hx
  exact ⟨sl,(hs.2 b (JB b o e)).trans q⟩
 ·obtain ⟨o',q⟩:=bb.there b o e hx
  exact ⟨o',(hs.2 b (JB b o e)).trans q⟩
 ·refine (J.hok b ob e).stay (fun c w' hc q=>(hs.2 c ?_).trans q) (fun _ q=>q) fun _ _ q=>q
  rintro rfl
  rcases hc with rfl | hc
  ·rw [jf] at e;cases e
  ·rw [jf] at hc;cases hc
 ·obtain ⟨f0,f1,f2,f3,f4,f5⟩:=fo b hb
  exact ⟨f3,f1,f4,f5⟩
end
section
variable {X:Cx} {scope:Scope} {N:List Str} {ix:List (Option Nat)} {tg iter elt:Expr} {ifs:List Expr} {pos:Pos} {wi:TI} {g:TG} {tc:TT} {te:TE}
theorem lG {pins:List (Addr×Obj)} {σ:L2.St} {H2:Hp} {s2:Shared} {J:It} {fp:List Addr} {it:Addr} {tn:Nat→Heap→Prop} {Q:VK} {RR:Value→Addr→Result→Shared→Prop} {E:Value→Shared→Prop}
  (hc:X.calm=true) (I2:Inv X pins σ H2 s2) (T:Turn X.prog X.w X.K tg J fp it tn) (D1:tn 0 s2.heap) (f2:∀ b∈fp,rE X pins H2 b)
  (hg:∀ C s H fp pn,PG (b6 X scope N C s H fp pn) tg g) (ht:∀ C s H fp pn,LZ (b6 X scope N C s H fp pn) ifs tc) (he:∀ C s H fp pn,PE (b6 X scope N C s H fp pn) elt te)
  (hf:iJ scope X.env=true) (hk:scope.kind=.function) (ED:∀ y∈scope.names,y.2≠.cell) (EX:we X scope N ix=true)
  (q:∀ D,H2 D=none→∃ W:Nat→Nat→L2.St→Hp→Prop,(∃ m,W 0 m (lF ix σ) (upd H2 D (.lst [])))∧
   ∀ i m σ1 H3,W i m σ1 H3→(J.stop i H3∧Q (.ref D) H3)∨(J.go i H3∧∀ x H4,J.yld i H3 x H4→g x σ1 H4 fun σ2 H5=>tc σ2 H5 fun b H6=>if b=true then te σ2 H6 fun v H7=>
    ∃ ys,H7 D=some (.lst ys)∧ys.length < sizeLine∧∃ m',m' < m∧W (i + 1) m' σ2 (upd H7 D (.lst (ys++[v]))) else ∃ m',m' < m∧W (i + 1) m' σ2 H6))
  (hRR:∀ (D C:Addr) (σ1:L2.St) (H1:Hp) (s1:Shared),s2.heap.objs.size≤C→Inv (b6 X scope N C s2 H2 fp (X.pn++pins)) [] σ1 H1 s1→Q (.ref D) H1→RR (.ref D) C (.ok .next) s1) :
  wpAny (model X.prog X.w) X.A (newList []) (fun acc s₃=>wpAny (model X.prog X.w) X.A (newFunctionEnv scope X.env.globals (clOf scope X.env) [] X.env.qual none .none (some X.env)) (fun L1 s₄=>
   codeAny (model X.prog X.w) X.A (.compStart (.ListComp elt [⟨tg,iter,ifs,0⟩] scope pos) 0 (.ref it) acc { L1 with scope:=relabel scope X.env }) (RR acc L1.locals) s₄) E s₃) E s2:=by
 refine wpAny_newObj_type (wpAny_newFunctionEnv ED (by intro y hy;simp at hy) (fun h₁ hns₁ hsb₁=>?_) hk)
 dsimp only at hns₁ hsb₁ ⊢
 generalize hH2:s2.heap.push { cls:=.type "list",dict:=none,data:=.seq ([]:List Value).toArray }=HH at hns₁ hsb₁ ⊢
 have hC:HH.objs.size=s2.heap.objs.size + 1:=by rw [←hH2,Heap.size_push]
 have hDC:s2.heap.objs.size≠HH.objs.size:=by rw [hC];exact Nat.ne_of_lt (Nat.lt_succ_self _)
 have L4:s2.heap.objs.size≤HH.objs.size:=by rw [hC];exact Nat.le_succ _
 have JB:∀ b o,s2.heap.get? b=some o→b≠HH.objs.size:=fun b o e=>Nat.ne_of_lt (Nat.lt_of_lt_of_le (Heap.lt_size e) L4)
 have old:∀ b o,s2.heap.get? b=some o→h₁.get? b=some o:=fun b o e=>hsb₁.extBut b o (JB b o e) (Heap.get?_push_of_some _ (hH2▸Heap.get?_push_of_some _ e))
 have JC:h₁.get? s2.heap.objs.size=some { cls:=.type "list",data:=.seq #[] 0 }:=hsb₁.extBut _ _ hDC (Heap.get?_push_of_some _ (hH2▸Heap.get?_push_size _ rfl))
 obtain ⟨W,⟨m0,w0⟩,turn⟩:=q s2.heap.objs.size (I2.hok.fresh (Nat.le_refl _))
 have fin:∀ b∈fp,∃ o,s2.heap.get? b=some o:=fun b hb=>let ⟨o,e,_⟩:=T.obj 0 _ D1 b hb;⟨o,e⟩
 have Hl:∀ {H':Hp},(∀ b∈fp,H' b=none)→∀ b∈fp,rE (b6 X scope N HH.objs.size s2 H2 fp (X.pn++pins)) [] H' b:=fun {H'} hn b hb=>by
  obtain ⟨f0,f1,ff,f3,f4,f5⟩:=f2 b hb
  refine ⟨hn b hb,?_,fun z=>?_,.inl hb,fun x c e=>f4 x c (ke I2.ok hf e),fun p hp=>?_⟩
  ·intro z
   have z:b=HH.objs.size:=z
   obtain ⟨o,ho⟩:=fin b hb
   exact JB b o ho z
  ·exact (List.mem_cons.mp (I2.stkSub b z)).elim f1 ff
  ·have hp:p∈X.pn++pins:=by
    have:p∈(X.pn++pins)++[]:=hp
    rwa [List.append_nil] at this
   exact f5 p hp
 have loop:∀ s₃:Shared,s₃={ s2 with heap:=h₁,toks:=s2.toks + ([]:List (Str×Value)).length }→
   codeAny (model X.prog X.w) X.A (.compLoop (.ListComp elt [⟨tg,iter,ifs,0⟩] scope pos) 0 (.ref it) (.ref s2.heap.objs.size) (compEnvC scope (clOf scope X.env) HH.objs.size X.env)) (RR (.ref s2.heap.objs.size) HH.objs.size) s₃:=by
  rintro s₃ rfl
  refine sk (fun n s'=>∃ i σ' H',Inv (b6 X scope N HH.objs.size s2 H2 fp (X.pn++pins)) [] σ' H' s'∧tn i s'.heap∧(∀ b∈fp,H' b=none)∧W i n σ' H') ?_ m0
   ⟨0,_,_,I2.block hf hk ED EX f2 fin rfl hC old JC hns₁,T.keep 0 _ _ D1 fun b _ o e=>old b o e,fun b hb=>?_,w0⟩
  ·rintro n s3 ⟨i,σ3,H3,I3,Ez,KC,w3⟩
   rcases turn i n σ3 H3 w3 with ⟨stop,qn⟩ | ⟨go,step⟩
   ·refine Ea (T.done (b6 X scope N HH.objs.size s2 H2 fp (X.pn++pins)) rfl rfl rfl hc i [] s3 σ3 H3 JA I3 (Hl KC) Ez stop) fun r s4 Ee=>?_
    obtain ⟨hr,I4⟩:=Ee
    subst hr
    exact hRR _ _ σ3 H3 s4 L4 I4 qn
   ·refine Ea (T.item (b6 X scope N HH.objs.size s2 H2 fp (X.pn++pins)) rfl rfl rfl hc i [] s3 σ3 H3 JA I3 (Hl KC) Ez go) fun r s4 Ee=>?_
    obtain ⟨u,hr,h4⟩:=Ee
    subst hr
    refine Ea h4 fun _ s5 Ee=>?_
    obtain ⟨x,H5,I5,r5,y5,F3,NJ⟩:=Ee
    have NK:=I5.pinned (Hl NJ) (T.obj _ _ F3)
    refine Ea (hg _ _ _ _ _ _ s5 σ3 H5 x u _ NK r5 (step x H5 y5)) fun _ s6 Ee=>?_
    obtain ⟨σ6,H6,I6,q6⟩:=Ee
    refine Ea (ht _ _ _ _ _ _ s6 σ6 H6 _ I6 q6) fun ok s7 Ee=>?_
    obtain ⟨H7,I7,q7⟩:=Ee
    have again:∀ {H8:Hp} {s8:Shared},Inv (b6 X scope N HH.objs.size s2 H2 fp (X.pn++pins)) ([]++m9 fp s5.heap) σ6 H8 s8→(∃ m',m' < n∧W (i + 1) m' σ6 H8)→
      ∃ m,m < n∧∃ i σ' H',Inv (b6 X scope N HH.objs.size s2 H2 fp (X.pn++pins)) [] σ' H' s8∧tn i s8.heap∧(∀ b∈fp,H' b=none)∧W i m σ' H':=fun {H8 s8} I8 ⟨m',hm,w8⟩=>by
     refine ⟨m',hm,i + 1,σ6,H8,I8.unpinned,T.keep _ _ _ F3 fun b hb o e=>(I8.pin (b,o) (List.mem_append_right _ (List.mem_append_right _ (gT hb e)))).1,fun b hb=>?_,w8⟩
     obtain ⟨o,e,d⟩:=T.obj _ _ F3 b hb
     exact (I8.pin (b,o) (List.mem_append_right _ (List.mem_append_right _ (gT hb e)))).2.1
    cases ok with
    | false=>exact again I7 q7
    | true=>
     show wpAny _ _ _ _ _ _
     refine Ea (he _ _ _ _ _ _ s7 σ6 H7 _ I7 q7) fun x8 s8 Ee=>?_
     obtain ⟨v8,H8,I8,r8,ys,NS,Eu,q8⟩:=Ee
     refine Ea (nF _ s8 σ6 H8 (.ref s2.heap.objs.size) [v8] (.ref s2.heap.objs.size) [x8] (fun _ H9=>∃ m',m' < n∧W (i + 1) m' σ6 H9) I8 rfl (.cons r8 .nil) ⟨_,ys,v8,rfl,rfl,NS,Eu,q8⟩) fun _ s9 Ee=>?_
     obtain ⟨_,H9,I9,_,q9⟩:=Ee
     exact again I9 q9
  ·rw [aP (fun z=>by
    obtain ⟨o,ho⟩:=fin b hb
    exact absurd z (Nat.ne_of_lt (Heap.lt_size ho)))]
   exact (f2 b hb).1
 exact codeAny_compStart_list (loop _ rfl) (T.self _ 0 _ _ _ (T.keep 0 _ _ D1 fun b _ o e=>old b o e) (loop _ rfl))
theorem xq (ix:List (Option Nat)) (N:List Str) (hc:X.calm=true) (hi:PI X tg iter wi) (hg:∀ C s H fp pn,PG (b6 X scope N C s H fp pn) tg g) (ht:∀ C s H fp pn,LZ (b6 X scope N C s H fp pn) ifs tc) (he:∀ C s H fp pn,PE (b6 X scope N C s H fp pn) elt te)
  (hf:iJ scope X.env=true:=by rfl) (hk:scope.kind=.function:=by rfl) (ED:∀ y∈scope.names,y.2≠.cell:=by decide +kernel) (Fp:∀ y∈scope.names,y.2=.local→scope.names.lookup y.1=some .local:=by decide +kernel) (EX:we X scope N ix=true:=by rfl)
  (hs:∀ x,foldedSetIterable iter X.env x=pure x:=by intro _;rfl):PE X (.ListComp elt [⟨tg,iter,ifs,0⟩] scope pos) (xo wi ix g tc te):=by
 intro pins s σ H Q I h
 rw [eval_ListComp]
 have IK:closureFor scope X.env=pure (clOf scope X.env):=by
  unfold closureFor clOf
  have:=gU X.env scope.names [] (lZ I.ok hf)
  simpa using this
 refine wpAny_comprehension_free (use:=none) rfl hs IK hk Fp (Ea (hi pins s σ H _ I h) fun v s1 h1=>Ea h1 fun Nf s2 h2=>?_)
 obtain ⟨it,fp,tn,J,H2,e,I2,T,D1,f2,q⟩:=h2
 subst e
 refine lG (RR:=fun acc C=>compPost (model X.prog X.w) X.A X.xe none (EP X pins σ Q) acc C) (Q:=Q) (iter:=iter) hc I2 T D1 f2 hg ht he hf hk ED EX q fun D C σ1 H1 s1 hC J1 q1=>?_
 obtain ⟨m,ns,_⟩:=J1.loc
 exact ⟨m,ns,fun h' NT=>⟨.ref D,H1,I2.unblock f2 hC J1 NT,rfl,q1⟩⟩
end
section
variable {X:Cx} {scope:Scope} {N:List Str} {ix:List (Option Nat)} {tg iter elt:Expr} {ifs:List Expr} {pos:Pos} {wi:TI} {g:TG} {tc:TT} {te:TE}
theorem xr {i:Nat} {y:Str} {py IL:Pos} (ix:List (Option Nat)) (N:List Str) (hN:X.N.Nodup) (NU:X.N[i]?=some y) (hy:Loc X.env.scope y) (hc:X.calm=true) (hi:PI X tg iter wi) (hg:∀ C s H fp pn,PG (b6 X scope N C s H fp pn) tg g) (ht:∀ C s H fp pn,LZ (b6 X scope N C s H fp pn) ifs tc)
  (he:∀ C s H fp pn,PE (b6 X scope N C s H fp pn) elt te) (NV:swapsWith (.ListComp elt [⟨tg,iter,ifs,0⟩] scope pos) (some (.Name y py)) IL.line X.env=pure true:=by rfl)
  (hf:iJ scope X.env=true:=by rfl) (hk:scope.kind=.function:=by rfl) (ED:∀ y∈scope.names,y.2≠.cell:=by decide +kernel) (Fp:∀ y∈scope.names,y.2=.local→scope.names.lookup y.1=some .local:=by decide +kernel) (EX:we X scope N ix=true:=by rfl)
  (hs:∀ x,foldedSetIterable iter X.env x=pure x:=by intro _;rfl) (Jx:X.fn y=true∨X.env.scope.names.lookup y=some .local:=by first | exact .inl rfl | exact .inr rfl) :
  PS X (.Assign [.Name y py] (.ListComp elt [⟨tg,iter,ifs,0⟩] scope pos) IL) (fun D σ H=>xo wi ix g tc te σ H fun v H'=>D.nx (σ.set i (some v)) H'):=by
 intro pins s σ H Dd I h
 rw [exec_Assign_Name_used _ _ _ _ NV]
 have IK:closureFor scope X.env=pure (clOf scope X.env):=by
  unfold closureFor clOf
  have:=gU X.env scope.names [] (lZ I.ok hf)
  simpa using this
 refine wpAny_bind (wpAny_standAt (wpAny_bind ?_))
 show wpAny _ X.A (do let _ ←comprehension (.ListComp elt [⟨tg,iter,ifs,0⟩] scope pos) scope X.env _ (newList []) false (eval iter X.env) (some (assign (.Name y py) X.env))) _ _ s
 refine wpAny_bind (wpAny_mono (wpAny_comprehension_free (use:=some (assign (.Name y py) X.env)) (Q:=fun _ s'=>SP X pins Dd .next s') rfl hs IK hk Fp
  (Ea (hi pins s σ H _ I h) fun v s1 h1=>Ea h1 fun Nf s2 h2=>?_)) (fun _ s' hq=>wpAny_pure (wpAny_pure hq)) fun _ _ e=>e)
 obtain ⟨it,fp,tn,J,H2,e,I2,T,D1,f2,q⟩:=h2
 subst e
 refine lG (RR:=fun acc C=>compPost (model X.prog X.w) X.A X.xe (some (assign (.Name y py) X.env)) (fun _ s'=>SP X pins Dd .next s') acc C) (Q:=fun v H'=>Dd.nx (σ.set i (some v)) H') (iter:=iter) hc I2 T D1 f2 hg ht he hf hk ED EX q fun D C σ1 H1 s1 hC J1 q1=>?_
 obtain ⟨m,ns,_⟩:=id J1.loc
 have ns:s1.heap.Ns C m:=ns
 have I3:Inv X pins σ H1 s1:=I2.unblock f2 hC J1 (.refl ..)
 show wpAny _ X.A (assign (.Name y py) X.env (.ref D)) _ _ s1
 refine wpAny_assign_Name (m7 I3 hN NU hy (v:=.ref D) rfl (fun s4 I4 ⟨a,sb,ha⟩=>?_) Jx)
 have aC:C≠a:=by
  intro z
  rcases ha with ha | ha
  ·exact Nat.ne_of_lt (Nat.lt_of_lt_of_le I2.lt hC) (ha▸z.symm)
  ·obtain ⟨v,o,ho,_⟩:=I2.cell y a ha
   exact Nat.ne_of_lt (Nat.lt_of_lt_of_le (Heap.lt_size ho) hC) z.symm
 refine ⟨m,ns.sameBut sb aC,fun h' NT=>?_⟩
 have jf:H1 C=none:=J1.free
 have kk:∀ b o,b≠C→s4.heap.get? b=some o→h'.get? b=some o:=fun b o hb e=>(NT.2 b hb).trans e
 refine ⟨σ.set i (some (.ref D)),H1,?_,q1⟩
 have z:=I4.turned (t':=s4.toks) kk jf (fun z=>Nat.ne_of_lt (Nat.lt_of_lt_of_le I2.lt hC) z.symm) (.inr (Nat.le_trans I2.sz hC)) (fun x c e z=>by
  obtain ⟨v,o,ho,_⟩:=I2.cell x c e
  exact Nat.ne_of_lt (Nat.lt_of_lt_of_le (Heap.lt_size ho) hC) z) (fun p hp z=>Nat.ne_of_lt (Nat.lt_of_lt_of_le (Heap.lt_size (I2.pin p hp).1) hC) z)
 exact z
end
noncomputable def Itv (val:Nat→V) (n:Nat):It:=⟨fun i _=>i < n,fun i H x H'=>H'=H∧x=val i,fun i _=>i=n⟩
theorem pT {P:Program} {w:World} {K:W.Frag} {tg:Expr} (ty:String) (IG:["enumerate","zip","dict_itemiterator","dict_reverseitemiterator","odict_iterator","itertools.zip_longest","itertools.pairwise"].contains ty=false) (l:List Nat) (t:Tok) (it:Addr)
  (Wk:∀ A:Around,A.handled=none→Walks P w A it [it] [it] (S l).cps.size (SignAt (S l)) (fun i h=>h.IsStrIter it ty (S l) t i))
  (self:∀ (A:Around) (i:Nat) (s:Shared) (Q:Value→Shared→Prop) (E:Value→Shared→Prop),s.heap.IsStrIter it ty (S l) t i→Q (.ref it) s→wpAny (model P w) A (pyIter (.ref it)) Q E s) :
  Turn P w K tg (Itv (fun i=>.str (S [l.getD i 0])) l.length) [it] it (fun i h=>h.IsStrIter it ty (S l) t i) where
 mem:=by simp
 obj:=fun i h st b hb=>by
  have e:b=it:=by simpa using hb
  subst e
  obtain ⟨o,e,c,d⟩:=st
  exact ⟨o,e,fun v z=>by rw [d] at z;cases z⟩
 keep:=fun i h h' st k=>by
  obtain ⟨o,e,r⟩:=st
  exact ⟨o,k it (by simp) o e,r⟩
 item:=by
  intro X hP hw hK hc i pins s σ H E I hf st hg
  subst hP hw hK
  obtain ⟨f0,f1,f2,f3,f4,f5⟩:=hf it (by simp)
  have hg:i < l.length:=hg
  refine (Wk X.A (I.ok.hd hc)).item i s _ _ (by simpa [S] using hg) st fun v h' tk hv Gg kk=>?_
  obtain ⟨c,u,F2,rfl⟩:=hv
  have I1:Inv X pins σ H { s with heap:=h',toks:=tk }:=I.turned (fun b o hb e=>kk b o (by simpa using hb) e) f0 f1 f3 f4 f5
  obtain ⟨o,e,cc,d⟩:=id Gg
  have Iz:l.getD i 0=c:=by
   have:l[i]?=some c:=by simpa [S] using F2
   rw [List.getD_eq_getElem?_getD,this]
   rfl
  refine ⟨_,rfl,uR (s:={ s with heap:=h',toks:=tk }) e cc d IG ⟨.str (S [l.getD i 0]),H,I1,⟨u,?_⟩,⟨rfl,rfl⟩,Gg,fun b hb=>(hf b hb).1⟩⟩
  rw [Iz]
 done:=by
  intro X hP hw hK hc i pins s σ H E I hf st hg
  subst hP hw hK
  obtain ⟨f0,f1,f2,f3,f4,f5⟩:=hf it (by simp)
  have hg:i=l.length:=hg
  have hn:(S l).cps.size=i:=by rw [hg];simp [S]
  refine (Wk X.A (I.ok.hd hc)).done s _ _ (by rw [hn];exact st) fun h' tk kk=>⟨rfl,I.turned (fun b o hb e=>kk b o (by simpa using hb) e) f0 f1 f3 f4 f5⟩
 self:=self
noncomputable def Dv (tl:TE):TI:=fun σ H R=>tl σ H fun x H1=>∃ l,x=.str (S l)∧R (Itv (fun i=>.str (S [l.getD i 0])) l.length) H1
section
variable {X:Cx} {tg:Expr}
theorem zH {l:Expr} {tl:TE} (hl:PE X l tl):PI X tg l (Dv tl):=by
 intro pins s σ H R I h
 refine Ea (hl pins s σ H _ I h) fun v s1 Ee=>?_
 obtain ⟨x,H1,I1,r1,l,e,q⟩:=Ee
 subst e
 obtain ⟨t,rfl⟩:=r1
 cases ha:(S l).cps.all (·< 128)
 ·refine wpAny_pyIter_wide ha ?_
  refine ⟨s1.heap.objs.size,[s1.heap.objs.size],_,_,H1,rfl,I1.kept (t':=s1.toks) fun b o e=>Heap.get?_push_of_some _ e,
   pT "str_iterator" (by decide) l t _ (fun A hA=>Walks.strWide hA _ _ _) (fun _ _ _ _ _ st h=>wpAny_pyIter_striter_wide st h),⟨_,Heap.get?_push_size _ rfl,rfl,rfl⟩,fun b hb=>?_,q⟩
  have e:b=s1.heap.objs.size:=by simpa using hb
  subst e
  exact I1.fpOk (Nat.le_refl _) (I1.hok.fresh (Nat.le_refl _))
 ·refine wpAny_pyIter_ascii ha ?_
  refine ⟨s1.heap.objs.size,[s1.heap.objs.size],_,_,H1,rfl,I1.kept (t':=s1.toks) fun b o e=>Heap.get?_push_of_some _ e,
   pT "str_ascii_iterator" (by decide) l t _ (fun A hA=>Walks.strAscii hA _ _ _) (fun _ _ _ _ _ st h=>wpAny_pyIter_striter_ascii st h),⟨_,Heap.get?_push_size _ rfl,rfl,rfl⟩,fun b hb=>?_,q⟩
  have e:b=s1.heap.objs.size:=by simpa using hb
  subst e
  exact I1.fpOk (Nat.le_refl _) (I1.hok.fresh (Nat.le_refl _))
theorem jW {pins:List (Addr×Obj)} {s:Shared} {σ:L2.St} {H:Hp} {p:Addr} {xs:List V} {E:Value→Shared→Prop} {R:Value→Shared→Prop} (hc:X.calm=true) (I:Inv X pins σ H s) (h:SqL X.K H p xs∨SqT X.K H p xs)
  (k:∀ (it:Addr) (fp:List Addr) (o:Obj) (us:List Value) (Sx:Nat→Heap→Prop),Vals xs us→Walks X.prog X.w X.A.in1 it fp [it] us.length (fun i v=>us[i]?=some v) Sx→Sx 0 (s.heap.push o)→(∀ b∈fp,b < (s.heap.push o).objs.size)→it=s.heap.objs.size→R (.ref it) { s with heap:=s.heap.push o }) :
  wpAny (model X.prog X.w) X.A.in1 (pyIter (.ref p)) R E s:=by
 have hh:X.A.in1.handled=none:=I.ok.hd hc
 rcases h with h | h
 ·obtain ⟨us,r,pl,hz⟩:=I.list h
  have Eu:p < s.heap.objs.size:=by obtain ⟨o,ho,_⟩:=pl.isList;exact Heap.lt_size ho
  refine wpAny_pyIter_list pl.isList (k s.heap.objs.size [s.heap.objs.size,p] _ us (fun i h=>h.IsListIter s.heap.objs.size p i∧h.IsList p us.toArray) r (by
   have W:=Walks.list (prog:=X.prog) (w:=X.w) hh s.heap.objs.size p (Nat.ne_of_lt Eu) us.toArray
   simpa using W) ⟨⟨_,Heap.get?_push_size _ rfl,rfl,rfl⟩,pl.isList.at fun o e=>Heap.get?_push_of_some _ e⟩ (fun b hb=>?_) rfl)
  rw [Heap.size_push]
  rcases List.mem_cons.mp hb with rfl | hb
  ·exact Nat.lt_succ_self _
  ·rw [List.mem_singleton] at hb
   rw [hb]
   exact Nat.lt_succ_of_lt Eu
 ·obtain ⟨us,r,pl,hz⟩:=I.tuple h
  have KL:s.heap.IsTuple p us.toArray:=pl
  have Eu:p < s.heap.objs.size:=by obtain ⟨o,ho,_⟩:=pl;exact Heap.lt_size ho
  refine wpAny_pyIter_tuple KL (k s.heap.objs.size [s.heap.objs.size,p] _ us (fun i h=>h.IsTupleIter s.heap.objs.size p i∧h.IsTuple p us.toArray) r (by
   have W:=Walks.tuple (prog:=X.prog) (w:=X.w) hh s.heap.objs.size p (Nat.ne_of_lt Eu) us.toArray
   simpa using W) ⟨⟨_,Heap.get?_push_size _ rfl,rfl,rfl⟩,KL.at fun o e=>Heap.get?_push_of_some _ e⟩ (fun b hb=>?_) rfl)
  rw [Heap.size_push]
  rcases List.mem_cons.mp hb with rfl | hb
  ·exact Nat.lt_succ_self _
  ·rw [List.mem_singleton] at hb
   rw [hb]
   exact Nat.lt_succ_of_lt Eu
theorem gW {pins:List (Addr×Obj)} {s:Shared} {σ:L2.St} {H:Hp} {o:Obj} {h':Heap} {tk:Nat} (I:Inv X pins σ H s) (kk:∀ b ob,b∉[s.heap.objs.size]→(s.heap.push o).get? b=some ob→h'.get? b=some ob) :
  Inv X pins σ H { s with heap:=h',toks:=tk }:=I.kept fun b ob e=>kk b ob (fun z=>Nat.ne_of_lt (Heap.lt_size e) (by simpa using z)) (Heap.get?_push_of_some _ e)
theorem bA {α:Type} (l:List α) (i:Nat) (d:α) (h:i < l.length):l.getD i d=l[i]:=by
 rw [List.getD_eq_getElem?_getD,List.getElem?_eq_getElem h]
 rfl
theorem d4 {ns:List Int} {us:List Value} (r:Vals (ns.map V.int) us) {i:Nat} {v:Value} (h:us[i]?=some v):∃ t,v=.int (ns.getD i 0) t:=by
 have hl:=r.length
 rw [List.length_map] at hl
 obtain ⟨hi,_⟩:=List.getElem?_eq_some_iff.mp h
 have e1:(ns.map V.int)[i]?=some (.int (ns.getD i 0)):=by
  rw [List.getElem?_map,List.getElem?_eq_getElem (by lia),bA _ _ _ (by lia)]
  rfl
 obtain ⟨u,hu,t,rfl⟩:=r.get e1
 rw [h] at hu
 exact ⟨t,Option.some.inj hu⟩
theorem pU {ns:List Int} {us:List Value} (r:Vals (ns.map V.int) us) (A:Around):CmpOf X.prog X.w A .Gt (fun i v=>us[i]?=some v) (fun i j=>decide (ns.getD j 0 < ns.getD i 0)):=by
 intro i j vi vj s Q E hi hj q
 obtain ⟨t,rfl⟩:=d4 r hi
 obtain ⟨t',rfl⟩:=d4 r hj
 exact gt_int q
theorem sr {ns:List Int} {us:List Value} (r:Vals (ns.map V.int) us) (A:Around):CmpOf X.prog X.w A .Lt (fun i v=>us[i]?=some v) (fun i j=>decide (ns.getD i 0 < ns.getD j 0)):=by
 intro i j vi vj s Q E hi hj q
 obtain ⟨t,rfl⟩:=d4 r hi
 obtain ⟨t',rfl⟩:=d4 r hj
 exact lt_int q
noncomputable def fD (ns:List Int):Int:=ns.foldl max (ns.headD 0)
noncomputable def xt (ns:List Int):Int:=ns.foldl min (ns.headD 0)
theorem l5 (ns:List Int):∀ k,k < ns.length→argBest (fun i j=>decide (ns.getD j 0 < ns.getD i 0)) k < ns.length∧ns.getD (argBest (fun i j=>decide (ns.getD j 0 < ns.getD i 0)) k) 0=(ns.take (k + 1)).foldl max (ns.headD 0)
 | 0,h=>by
  refine ⟨h,?_⟩
  cases ns with
  | nil=>cases h
  | cons a l=>show a=max a a;lia
 | k + 1,h=>by
  obtain ⟨NW,NY⟩:=l5 ns k (by lia)
  have et:ns.take (k + 1 + 1)=ns.take (k + 1)++[ns.getD (k + 1) 0]:=by
   rw [List.take_add_one,List.getElem?_eq_getElem h,bA _ _ _ h]
   rfl
  rw [et,List.foldl_append,←NY]
  show (if decide (ns.getD (argBest (fun i j=>decide (ns.getD j 0 < ns.getD i 0)) k) 0 < ns.getD (k + 1) 0)=true then k + 1 else argBest (fun i j=>decide (ns.getD j 0 < ns.getD i 0)) k) < ns.length∧
   ns.getD (if decide (ns.getD (argBest (fun i j=>decide (ns.getD j 0 < ns.getD i 0)) k) 0 < ns.getD (k + 1) 0)=true then k + 1 else argBest (fun i j=>decide (ns.getD j 0 < ns.getD i 0)) k) 0=max _ _
  split
  ·rename_i hd
   have:=of_decide_eq_true hd
   exact ⟨h,by lia⟩
  ·rename_i hd
   rw [decide_eq_true_eq] at hd
   exact ⟨NW,by lia⟩
theorem pV (ns:List Int):∀ k,k < ns.length→argBest (fun i j=>decide (ns.getD i 0 < ns.getD j 0)) k < ns.length∧ns.getD (argBest (fun i j=>decide (ns.getD i 0 < ns.getD j 0)) k) 0=(ns.take (k + 1)).foldl min (ns.headD 0)
 | 0,h=>by
  refine ⟨h,?_⟩
  cases ns with
  | nil=>cases h
  | cons a l=>show a=min a a;lia
 | k + 1,h=>by
  obtain ⟨NW,NY⟩:=pV ns k (by lia)
  have et:ns.take (k + 1 + 1)=ns.take (k + 1)++[ns.getD (k + 1) 0]:=by
   rw [List.take_add_one,List.getElem?_eq_getElem h,bA _ _ _ h]
   rfl
  rw [et,List.foldl_append,←NY]
  show (if decide (ns.getD (k + 1) 0 < ns.getD (argBest (fun i j=>decide (ns.getD i 0 < ns.getD j 0)) k) 0)=true then k + 1 else argBest (fun i j=>decide (ns.getD i 0 < ns.getD j 0)) k) < ns.length∧
   ns.getD (if decide (ns.getD (k + 1) 0 < ns.getD (argBest (fun i j=>decide (ns.getD i 0 < ns.getD j 0)) k) 0)=true then k + 1 else argBest (fun i j=>decide (ns.getD i 0 < ns.getD j 0)) k) 0=min _ _
  split
  ·rename_i hd
   have:=of_decide_eq_true hd
   exact ⟨h,by lia⟩
  ·rename_i hd
   rw [decide_eq_true_eq] at hd
   exact ⟨NW,by lia⟩
theorem su (hc:X.calm=true):dE X (.builtin "max") (fun vs H Q=>∃ (p:Addr) (ns:List Int),vs=[.ref p]∧(SqL X.K H p (ns.map V.int)∨SqT X.K H p (ns.map V.int))∧ns≠[]∧Q (.int (fD ns)) H):=by
 intro pins s σ H vs us Q I r h
 obtain ⟨p,ns,rfl,hp,IA,q⟩:=h
 obtain ⟨u,rfl,r1⟩:=gc r
 cases r1
 have hn:0 < ns.length:=by cases ns with | nil=>exact absurd rfl IA | cons _ _=>simp
 refine call_max_walk (jW hc I hp fun it fp o ws Sx rv W st hf hit=>?_)
 have hl:=rv.length
 rw [List.length_map] at hl
 refine ⟨it,fp,[it],_,_,Sx,_,rfl,W,st,hf,by lia,pU rv _,fun v h' tk hv kk=>?_⟩
 subst hit
 obtain ⟨b1,b2⟩:=l5 ns (ns.length - 1) (by lia)
 rw [←hl] at hv
 obtain ⟨t,rfl⟩:=d4 rv hv
 refine ⟨.int (fD ns),H,gW (s:=s) I kk,⟨t,?_⟩,q⟩
 rw [b2,show ns.length - 1 + 1=ns.length by lia,List.take_length]
 rfl
theorem sv (hc:X.calm=true):dE X (.builtin "min") (fun vs H Q=>∃ (p:Addr) (ns:List Int),vs=[.ref p]∧(SqL X.K H p (ns.map V.int)∨SqT X.K H p (ns.map V.int))∧ns≠[]∧Q (.int (xt ns)) H):=by
 intro pins s σ H vs us Q I r h
 obtain ⟨p,ns,rfl,hp,IA,q⟩:=h
 obtain ⟨u,rfl,r1⟩:=gc r
 cases r1
 have hn:0 < ns.length:=by cases ns with | nil=>exact absurd rfl IA | cons _ _=>simp
 refine call_min_walk (jW hc I hp fun it fp o ws Sx rv W st hf hit=>?_)
 have hl:=rv.length
 rw [List.length_map] at hl
 refine ⟨it,fp,[it],_,_,Sx,_,rfl,W,st,hf,by lia,sr rv _,fun v h' tk hv kk=>?_⟩
 subst hit
 obtain ⟨b1,b2⟩:=pV ns (ns.length - 1) (by lia)
 rw [←hl] at hv
 obtain ⟨t,rfl⟩:=d4 rv hv
 refine ⟨.int (xt ns),H,gW (s:=s) I kk,⟨t,?_⟩,q⟩
 rw [b2,show ns.length - 1 + 1=ns.length by lia,List.take_length]
 rfl
theorem nK (ns:List Int):∀ k,k≤ns.length→preSum (fun i=>ns.getD i 0) k=(ns.take k).sum
 | 0,_=>by simp [preSum]
 | k + 1,h=>by
  have et:ns.take (k + 1)=ns.take k++[ns.getD k 0]:=by
   rw [List.take_add_one,List.getElem?_eq_getElem (by lia),bA _ _ _ (by lia)]
   rfl
  rw [et,List.sum_append,←nK ns k (by lia)]
  simp [preSum]
theorem sx (hc:X.calm=true):dE X (.builtin "sum") (fun vs H Q=>∃ (p:Addr) (ns:List Int),vs=[.ref p]∧(SqL X.K H p (ns.map V.int)∨SqT X.K H p (ns.map V.int))∧Q (.int ns.sum) H):=by
 intro pins s σ H vs us Q I r h
 obtain ⟨p,ns,rfl,hp,q⟩:=h
 obtain ⟨u,rfl,r1⟩:=gc r
 cases r1
 refine call_sum_walkG (jW hc I hp fun it fp o ws Sx rv W st hf hit=>?_)
 have hl:=rv.length
 rw [List.length_map] at hl
 refine ⟨it,fp,[it],_,_,Sx,fun i=>ns.getD i 0,rfl,W,st,hf,fun i v hv=>d4 rv hv,fun h' tk t' kk=>?_⟩
 subst hit
 refine ⟨.int ns.sum,H,gW (s:=s) I kk,⟨t',?_⟩,q⟩
 rw [←hl,nK ns _ (Nat.le_refl _),List.take_length]
end
section
variable {prog:Program} {w:World} {A:Around} {R:Result→Shared→Prop} {it:Addr} {fp wr:List Addr} {n:Nat} {Pv:Nat→Value→Prop} {Sx:Nat→Heap→Prop} {kw:List (Str×Value)}
theorem l6:(toString "max"++toString ".loop" : String) = "max.loop":=by decide
theorem BW (Wk:Walks prog w A.in1 it fp wr n Pv Sx) (bt:Nat→Nat→Bool) (cm:CmpOf prog w A.in1 .Gt Pv bt) (T:Addr) (nT:T∉fp):∀ (k j:Nat) (s:Shared) (vb:Value) (c:Nat),n - (j + 1)=k→j + 1≤n→Sx (j + 1) s.heap→Pv (argBest bt j) vb→
   s.heap.get? T=some { cls:=.type "list",dict:=none,data:=.seq #[vb,vb] c,slots:=#[] }→
   (∀ v h' tk,Pv (argBest bt (n - 1)) v→(∀ b o,b∉wr→b≠T→s.heap.get? b=some o→h'.get? b=some o)→R (.ok (.ret v)) { s with heap:=h',toks:=tk })→codeAny (model prog w) A (.builtin "max.loop" ⟨[.ref it,.none,.ref T],kw⟩) R s:=by
 have Nj:T∉wr:=fun z=>nT (Wk.sub _ z)
 intro k
 induction k with
 | zero=>
  intro j s vb c hk hj st hp hT fin
  have ej:j + 1=n:=by lia
  refine codeAny_builtin F.entry_max_loop ?_
  rw [Around.under_plainId F.plain_max_loop _]
  show wpAny _ A.in1 (seqItems? (.ref T) >>= _) _ _ s
  refine wpAny_bind (wpAny_seqItems hT rfl ?_)
  show wpAny _ A.in1 (tryCatch (pyNext (.ref it)) _ >>= _) _ _ s
  refine wpAny_bind (wpAny_tryCatch (Wk.done s _ _ (ej▸st) fun h' tk kk=>?_))
  have Km:=kk T _ Nj hT
  show wpAny _ A.in1 (updateSeq T (fun _=>#[]) >>= _) _ _ _
  refine wpAny_bind (wpAny_updateSeq Km rfl (wpAny_bind (wpAny_letGo (wpAny_pure ?_))))
  exact fin vb _ tk (by rw [←ej];exact hp) fun b o bw bT e=>(Heap.get?_update_other _ _ (Ne.symm bT)).trans (kk b o bw e)
 | succ k ih=>
  intro j s vb c hk hj st hp hT fin
  have jn:j + 1 < n:=by lia
  refine codeAny_builtin F.entry_max_loop ?_
  rw [Around.under_plainId F.plain_max_loop _]
  show wpAny _ A.in1 (seqItems? (.ref T) >>= _) _ _ s
  refine wpAny_bind (wpAny_seqItems hT rfl ?_)
  show wpAny _ A.in1 (tryCatch (pyNext (.ref it)) _ >>= _) _ _ s
  refine wpAny_bind (wpAny_tryCatch (Wk.item (j + 1) s _ _ jn st fun v h' tk pv Gg kk=>?_))
  have Km:=kk T _ Nj hT
  show wpAny _ A.in1 (tryCatch (holding [v,v] (richCompare .Gt v vb >>= _)) _ >>= _) _ _ _
  refine wpAny_bind (wpAny_tryCatch (wpAny_holding (wpAny_bind (cm (j + 1) (argBest bt j) v vb _ _ _ pv hp (wpAny_bind (wpAny_holding (wpAny_truthy_bool (wpAny_bind (wpAny_letGo (wpAny_pure ?_))))))))))
  cases eb:bt (j + 1) (argBest bt j) with
  | true=>
   rw [if_pos rfl]
   refine wpAny_bind (wpAny_updateSeq Km rfl (wpAny_bind (wpAny_letGo ?_)))
   rw [l6]
   refine wpAny_pure ⟨plainId_quiet F.plain_max_loop _,ih (j + 1) _ v _ (by lia) jn (Wk.frame _ _ _ Gg fun b bf o e=>?_) (by simp only [argBest,eb,if_true];exact pv) (Heap.get?_update_self _ Km rfl) fun v2 h2 t2 p2 k2=>?_⟩
   ·exact (Heap.get?_update_other _ _ (fun z:T=b=>nT (by rw [z];exact bf))).trans e
   ·exact fin v2 h2 t2 p2 fun b o bw bT e=>k2 b o bw bT ((Heap.get?_update_other _ _ (Ne.symm bT)).trans (kk b o bw e))
  | false=>
   rw [if_neg Bool.false_ne_true]
   refine wpAny_bind (wpAny_letGo ?_)
   rw [l6]
   refine wpAny_pure ⟨plainId_quiet F.plain_max_loop _,ih (j + 1) _ vb c (by lia) jn Gg (by simp only [argBest,eb,Bool.false_eq_true,if_false];exact hp) Km fun v2 h2 t2 p2 k2=>?_⟩
   exact fin v2 h2 t2 p2 fun b o bw bT e=>k2 b o bw bT (kk b o bw e)
theorem vf (Wk:Walks prog w A.in1 it fp wr n Pv Sx) (bt:Nat→Nat→Bool) (cm:CmpOf prog w A.in1 .Gt Pv bt) (T:Addr) (nT:T∉fp) {s:Shared} {c:Nat} {d:Value} (hkw:kw=[(Str.ofString "default",d)]) (st:Sx 0 s.heap)
  (hT:s.heap.get? T=some { cls:=.type "list",dict:=none,data:=.seq #[] c,slots:=#[] }) (fin:∀ v h' tk,(if n=0 then v=d else Pv (argBest bt (n - 1)) v)→(∀ b o,b∉wr→b≠T→s.heap.get? b=some o→h'.get? b=some o)→R (.ok (.ret v)) { s with heap:=h',toks:=tk }) :
  codeAny (model prog w) A (.builtin "max.loop" ⟨[.ref it,.none,.ref T],kw⟩) R s:=by
 have Nj:T∉wr:=fun z=>nT (Wk.sub _ z)
 refine codeAny_builtin F.entry_max_loop ?_
 rw [Around.under_plainId F.plain_max_loop _]
 show wpAny _ A.in1 (seqItems? (.ref T) >>= _) _ _ s
 refine wpAny_bind (wpAny_seqItems hT rfl ?_)
 show wpAny _ A.in1 (tryCatch (pyNext (.ref it)) _ >>= _) _ _ s
 by_cases hn:n=0
 ·refine wpAny_bind (wpAny_tryCatch (Wk.done s _ _ (by rw [hn];exact st) fun h' tk kk=>?_))
  subst hkw
  refine wpAny_bind (wpAny_rule (wpAny_pure ?_))
  exact fin d _ tk (by rw [if_pos hn]) fun b o bw bT e=>kk b o bw e
 ·refine wpAny_bind (wpAny_tryCatch (Wk.item 0 s _ _ (by lia) st fun v h' tk pv Gg kk=>?_))
  have Km:=kk T _ Nj hT
  show wpAny _ A.in1 (updateSeq T (fun _=>#[v,v]) >>= _) _ _ _
  refine wpAny_bind (wpAny_updateSeq Km rfl ?_)
  rw [l6]
  refine wpAny_pure ⟨plainId_quiet F.plain_max_loop _,BW Wk bt cm T nT _ 0 _ v _ rfl (by lia) (Wk.frame _ _ _ Gg fun b bf o e=>?_) pv (Heap.get?_update_self _ Km rfl) fun v2 h2 t2 p2 k2=>?_⟩
  ·exact (Heap.get?_update_other _ _ (fun z:T=b=>nT (by rw [z];exact bf))).trans e
  ·exact fin v2 h2 t2 (by rw [if_neg hn];exact p2) fun b o bw bT e=>k2 b o bw bT ((Heap.get?_update_other _ _ (Ne.symm bT)).trans (kk b o bw e))
end
theorem tree_kw {prog:Program} {w:World} {A:Around} {E:Value→Shared→Prop} {s:Shared} {id:String} {bf:Builtin} {args:List Value} {kw:List (Str×Value)} {Q:Value→Shared→Prop} (hk:builtinKind id=none) (hp:plainId id=true)
  (hb:entryFor table id=some bf) (ha:argsOk id ⟨args,kw⟩)
  (hc:wpAny (model prog w) A.in1 (bf ⟨args,kw⟩) (fun fin s'=>match fin with
   | .done f=>(match (Except.ok f:Result) with | .ok (.ret v)=>Q v s' | .ok _=>False | .error e=>E e s')
   | .again c'=>c'.quiet=true∧codeAny (model prog w) A c' (fun r s'=>match r with | .ok (.ret v)=>Q v s' | .ok _=>False | .error e=>E e s') s') E s):wpAny (model prog w) A (call (.builtin id) args kw) Q E s:=by
 refine wpAny_call (codeAny_call_builtin hp hb ?_)
 simp only [checkBuiltinCall,hk]
 cases hsig:Manifest.signature? id with
 | none=>exact wpAny_pure hc
 | some sig=>
  have Jo:Bind.checkArgs id sig ⟨args,kw⟩=pure ():=by simpa only [argsOk,hsig] using ha
  simp only [Jo]
  exact wpAny_pure hc
theorem sy (a d:Value):argsOk "max" ⟨[a],[(Str.ofString "default",d)]⟩:=by unfold argsOk;kernel_rfl
section
variable {X:Cx} {e k:Expr} {te tk:TE} {p pos HR:Pos}
noncomputable def maxD (ns:List Int) (d:Int):Int:=if ns=[] then d else fD ns
noncomputable def BX (K:W.Frag) (te tk:TE):TE:=fun σ H Q=>uT te Bo σ H fun vs H1=>uT tk Bo σ H1 fun ks H2=>∃ (a:Addr) (ns:List Int) (d:Int),vs=[.ref a]∧ks=[.int d]∧(SqL K H2 a (ns.map V.int)∨SqT K H2 a (ns.map V.int))∧Q (.int (maxD ns d)) H2
theorem xu (hc:X.calm=true) (hg:Gl X "max") (hm:X.mg "max" = none) (he:PE X e te) (hk:PE X k tk) (hs:starEach [e] X.env=[(false,eval e X.env)]:=by rfl) :
  PE X (.Call (.Name "max" p) [e] [⟨some "default",k,HR⟩] pos) (BX X.K te tk):=by
 intro pins s σ H Q I h
 refine wpAny_Call_Name_kw (j8 I hg hm (by decide +kernel:bootBuiltins "max" = some (.builtin "max")) ?_ (by decide) (by decide))
 refine callWith_kw (Ea (gf he nh (hs:=hs) pos pins s σ H _ I h) fun us s1 ⟨vs,H1,I1,r1,q1⟩=>?_) (by rw [hs];rfl) (by rw [hs];rfl)
 refine Ea (xa hk zp pos pins s1 σ H1 _ I1 q1) fun ws s2 Ee=>?_
 obtain ⟨ks,H2,I2,r2,a,ns,d,e1,e2,hp,q⟩:=Ee
 subst e1 e2
 obtain ⟨u,rfl,ru⟩:=gc r1
 obtain ⟨w',rfl,t,rfl⟩:=gc r2
 cases ru
 show wpAny _ _ (call (.builtin "max") [.ref a] [(Str.ofString "default",.int d t)]) _ _ s2
 refine tree_kw F.kind_max F.plain_max F.entry_max (sy _ _) ?_
 show wpAny _ X.A.in1 (Builtin.Builtins.bindParams "max" ["key","default"] 0 ⟨[],[(Str.ofString "default",.int d t)]⟩ >>= _) _ _ s2
 refine wpAny_bind (wpAny_of_eq (show Builtin.Builtins.bindParams "max" ["key","default"] 0 ⟨[],[(Str.ofString "default",.int d t)]⟩=pure [none,some (.int d t)] from rfl) ?_)
 refine wpAny_bind (wpAny_pure ?_)
 refine wpAny_bind (jW hc I2 hp fun it fp o ws Sx rv Wk st hf hit=>?_)
 have hl:=rv.length
 rw [List.length_map] at hl
 refine wpAny_bind (wpAny_newObj_type ?_)
 have nT:(s2.heap.push o).objs.size∉fp:=fun z=>Nat.lt_irrefl _ (hf _ z)
 rw [l6]
 refine wpAny_pure ⟨plainId_quiet F.plain_max_loop _,vf Wk _ (pU rv _) (s2.heap.push o).objs.size nT rfl (Wk.frame _ _ _ st fun b _ ob e=>Heap.get?_push_of_some _ e) (Heap.get?_push_size _ rfl) fun v h' tk' hv kk=>?_⟩
 subst hit
 have I3:Inv X pins σ H2 { s2 with heap:=h',toks:=tk' }:=gW (s:=s2) (o:=o) I2 fun b ob nb e=>kk b ob nb (Nat.ne_of_lt (Heap.lt_size e)) (Heap.get?_push_of_some _ e)
 refine ⟨.int (maxD ns d),H2,I3,?_,q⟩
 unfold maxD
 by_cases hn:ns=[]
 ·rw [if_pos (by rw [←hl,hn];rfl)] at hv
  rw [if_pos hn,hv]
  exact ⟨t,rfl⟩
 ·have h0:0 < ns.length:=List.length_pos_iff.mpr hn
  rw [if_neg (by lia)] at hv
  rw [if_neg hn]
  obtain ⟨b1,b2⟩:=l5 ns (ns.length - 1) (by lia)
  rw [←hl] at hv
  obtain ⟨t2,rfl⟩:=d4 rv hv
  refine ⟨t2,?_⟩
  rw [b2,show ns.length - 1 + 1=ns.length by lia,List.take_length]
  rfl
end
section
variable {prog:Program} {w:World} {A:Around} {E:Value→Shared→Prop} {s:Shared}
theorem vg {it t:Addr} {i:Nat} {items:Array Value} {x:Value} {Q:Value→Shared→Prop} (hi:s.heap.IsTupleIter it t i) (ht:s.heap.IsTuple t items) (hx:items[i]?=some x)
  (k:∀ h',h'.IsTupleIter it t (i + 1)→Heap.SameBut it s.heap h'→Q x { s with heap:=h' }):wpAny (model prog w) A (Builtin.SmallTypes.nextOf (.ref it)) Q E s:=by
 obtain ⟨o,ho,oc,od⟩:=id hi
 obtain ⟨q,hq,_,n,qd⟩:=ht
 unfold Builtin.SmallTypes.nextOf
 refine wpAny_bind (wpAny_callSpecial?_slot (name:=Str.ofString "__next__") hi.typeIs F.slot_tuple_iterator_next (wpAny_call_entry F.slot_tuple_iterator_next hi.typeIs F.entry_tuple_iterator_next ?_ (F.args_tuple_iterator_next_1 _)))
 show wpAny _ _ (field (.ref it) 0 >>= _) _ _ s
 refine wpAny_bind (wpAny_field ho od (x:=.ref t) rfl ?_)
 show wpAny _ _ (if (Value.ref t == Value.none)=true then _ else _) _ _ s
 rw [if_neg (fun z:(Value.ref t == Value.none)=true=>Bool.false_ne_true z)]
 show wpAny _ _ (field (.ref it) 1 >>= _) _ _ s
 refine wpAny_bind (wpAny_field ho od (x:=.int i 0) rfl (wpAny_bind (wpAny_seqItems hq qd ?_)))
 simp only [Int.toNat_natCast,hx]
 refine wpAny_bind (wpAny_setField ho od (by simp) (wpAny_pure ⟨x,rfl,wpAny_pure (k _ ⟨_,Heap.get?_update_self _ ho (Obj.isFreed_of_fields (Obj.data_mapFields od _)),(Obj.cls_mapFields ..).trans oc,?_⟩ (Heap.SameBut.update ..))⟩))
 rw [Obj.data_mapFields od]
 simp [rawInt]
theorem xv {it t:Addr} {i:Nat} {items:Array Value} {Q:Value→Shared→Prop} (hh:A.handled=none) (hi:s.heap.IsTupleIter it t i) (ht:s.heap.IsTuple t items) (hx:items[i]?=none)
  (k:∀ h' e,Heap.ExtBut it s.heap h'→(∃ o,h'.get? e=some o∧o.cls=.type "StopIteration")→E (.ref e) { s with heap:=h' }):wpAny (model prog w) A (Builtin.SmallTypes.nextOf (.ref it)) Q E s:=by
 obtain ⟨o,ho,oc,od⟩:=id hi
 obtain ⟨q,hq,_,n,qd⟩:=ht
 unfold Builtin.SmallTypes.nextOf
 refine wpAny_bind (wpAny_callSpecial?_slot (name:=Str.ofString "__next__") hi.typeIs F.slot_tuple_iterator_next (wpAny_call_entry F.slot_tuple_iterator_next hi.typeIs F.entry_tuple_iterator_next ?_ (F.args_tuple_iterator_next_1 _)))
 show wpAny _ _ (field (.ref it) 0 >>= _) _ _ s
 refine wpAny_bind (wpAny_field ho od (x:=.ref t) rfl ?_)
 show wpAny _ _ (if (Value.ref t == Value.none)=true then _ else _) _ _ s
 rw [if_neg (fun z:(Value.ref t == Value.none)=true=>Bool.false_ne_true z)]
 show wpAny _ _ (field (.ref it) 1 >>= _) _ _ s
 refine wpAny_bind (wpAny_field ho od (x:=.int i 0) rfl (wpAny_bind (wpAny_seqItems hq qd ?_)))
 simp only [Int.toNat_natCast,hx]
 refine wpAny_bind (wpAny_rule (wpAny_bind (wpAny_setField ho od (by simp) ?_)))
 show wpAny _ _ (newExc (.type "StopIteration") [] >>= _) _ _ _
 refine wpAny_bind ?_
 simp only [newExc,newTuple]
 refine wpAny_bind (wpAny_newObj_type (wpAny_bind (m:=firstArgMember _ _) (wpAny_of_eq (a:=Value.none) (by first | rfl | (simp only [firstArgMember];rfl)) (wpAny_newObj_type ?_ (by size_fits)))) (by size_fits))
 simp only [raiseNew]
 refine wpAny_bind (wpAny_handled ?_)
 first
  | rw [show A.in1.handled=none from hh]
  | rw [hh]
 exact wpAny_bind (wpAny_pure (wpAny_throw (k _ _ (((Heap.SameBut.update ..).extBut.push _).push _) ⟨_,Heap.get?_push_size _ rfl,rfl⟩)))
def IsIt (k:Bool) (h:Heap) (it l:Addr) (i:Nat):Prop:=match k with
 | true=>h.IsListIter it l i
 | false=>h.IsTupleIter it l i
def IsSq (k:Bool) (h:Heap) (l:Addr) (xs:Array Value):Prop:=match k with
 | true=>h.IsList l xs
 | false=>h.IsTuple l xs
theorem IsIt.at {k:Bool} {h h':Heap} {it l:Addr} {i:Nat} (x:IsIt k h it l i) (e:∀ o,h.get? it=some o→h'.get? it=some o):IsIt k h' it l i:=by
 cases k with
 | true=>obtain ⟨o,ho,r⟩:=(show h.IsListIter it l i from x);exact (show h'.IsListIter it l i from ⟨o,e o ho,r⟩)
 | false=>obtain ⟨o,ho,r⟩:=(show h.IsTupleIter it l i from x);exact (show h'.IsTupleIter it l i from ⟨o,e o ho,r⟩)
theorem IsSq.at {k:Bool} {h h':Heap} {l:Addr} {xs:Array Value} (x:IsSq k h l xs) (e:∀ o,h.get? l=some o→h'.get? l=some o):IsSq k h' l xs:=by
 cases k with
 | true=>obtain ⟨o,ho,r⟩:=(show h.IsList l xs from x);exact (show h'.IsList l xs from ⟨o,e o ho,r⟩)
 | false=>obtain ⟨o,ho,r⟩:=(show h.IsTuple l xs from x);exact (show h'.IsTuple l xs from ⟨o,e o ho,r⟩)
theorem IsIt.obj {k:Bool} {h:Heap} {it l:Addr} {i:Nat} (x:IsIt k h it l i):∃ o,h.get? it=some o∧∀ v,o.data≠.cell v:=by
 cases k with
 | true=>obtain ⟨o,ho,_,d⟩:=(show h.IsListIter it l i from x);exact ⟨o,ho,fun v z=>by rw [d] at z;cases z⟩
 | false=>obtain ⟨o,ho,_,d⟩:=(show h.IsTupleIter it l i from x);exact ⟨o,ho,fun v z=>by rw [d] at z;cases z⟩
theorem oU {k:Bool} {it l:Addr} {i:Nat} {xs:Array Value} {x:Value} {Q:Value→Shared→Prop} (hi:IsIt k s.heap it l i) (hl:IsSq k s.heap l xs) (hx:xs[i]?=some x)
  (q:∀ h',IsIt k h' it l (i + 1)→Heap.SameBut it s.heap h'→Q x { s with heap:=h' }):wpAny (model prog w) A (Builtin.SmallTypes.nextOf (.ref it)) Q E s:=by
 cases k with
 | true=>exact wpAny_nextOf_list_item hi hl hx q
 | false=>exact vg hi hl hx q
theorem wg {k:Bool} {it l:Addr} {i:Nat} {xs:Array Value} {Q:Value→Shared→Prop} (hh:A.handled=none) (hi:IsIt k s.heap it l i) (hl:IsSq k s.heap l xs) (hx:xs[i]?=none)
  (q:∀ h' e,Heap.ExtBut it s.heap h'→(∃ o,h'.get? e=some o∧o.cls=.type "StopIteration")→E (.ref e) { s with heap:=h' }):wpAny (model prog w) A (Builtin.SmallTypes.nextOf (.ref it)) Q E s:=by
 cases k with
 | true=>exact wpAny_nextOf_list_end hh hi hl hx q
 | false=>exact xv hh hi hl hx q
theorem xw {k1 k2:Bool} {z TI TO i1 i2 l1 l2:Addr} {i:Nat} {xs ys:Array Value} {x y a b:Value} {Q:Value→Shared→Prop} (D:ZipApart z TI TO i1 i2 l1 l2) (hz:IsZip s.heap z TI TO .none) (Hn:IsPair s.heap TI (.ref i1) (.ref i2)) (HV:IsPair s.heap TO a b)
  (h1:IsIt k1 s.heap i1 l1 i) (h2:IsIt k2 s.heap i2 l2 i) (g1:IsSq k1 s.heap l1 xs) (g2:IsSq k2 s.heap l2 ys) (hx:xs[i]?=some x) (hy:ys[i]?=some y)
  (q:∀ h',IsZip h' z TI TO (rawInt s.heap.objs.size)→IsPair h' TO x y→IsIt k1 h' i1 l1 (i + 1)→IsIt k2 h' i2 l2 (i + 1)→IsPair h' s.heap.objs.size x y→
   (∀ c o,c≠z→c≠TO→c≠i1→c≠i2→s.heap.get? c=some o→h'.get? c=some o)→Q (.ref s.heap.objs.size) { s with heap:=h' }) :
  wpAny (model prog w) A (Builtin.«zip.__next__» ⟨[.ref z],[]⟩) (fun fin s'=>∃ v,fin=.done (.ret v)∧Q v s') E s:=by
 show wpAny _ _ (field (.ref z) 2 >>= _) _ _ _
 refine wpAny_bind (wpAny_field hz rfl (x:=.bool false) rfl ?_)
 show wpAny _ _ (field (.ref z) 3 >>= _) _ _ _
 refine wpAny_bind (wpAny_field hz rfl (x:=.ref TI) rfl (wpAny_bind (wpAny_seqItems Hn rfl ?_)))
 show wpAny _ _ (Builtin.SmallTypes.ownedTupleIsFree (.ref z) >>= _) _ _ _
 refine wpAny_bind ?_
 unfold Builtin.SmallTypes.ownedTupleIsFree
 refine wpAny_bind (wpAny_field hz rfl (x:=.none) rfl (wpAny_pure ?_))
 rw [if_pos (by rfl)]
 refine wpAny_bind (wpAny_rule (wpAny_bind (wpAny_field hz rfl (x:=.ref TO) rfl (wpAny_bind (wpAny_setField_rec hz (by simp) fun hA zA sA=>?_)))))
 have zA:IsZip hA z TI TO .ellipsis:=zA
 refine wpAny_bind ?_
 simp only [List.zipIdx_cons,List.zipIdx_nil,List.forIn_cons,List.forIn_nil]
 refine wpAny_bind (wpAny_bind (wpAny_onRaise ?_))
 show wpAny _ _ (Builtin.SmallTypes.nextOf (.ref i1) >>= _) _ _ _
 refine wpAny_bind (oU (h1.at fun o e=>sA.extBut _ _ D.i1z e) (g1.at fun o e=>sA.extBut _ _ D.l1z e) hx fun hB iB sB=>wpAny_pure ?_)
 have tB:IsPair hB TO a b:=sB.extBut _ _ D.TOi1 (sA.extBut _ _ D.TOz HV)
 refine wpAny_bind (wpAny_seqItems tB rfl (wpAny_bind (wpAny_updateSeq_pair tB fun hC tC sC=>wpAny_bind (wpAny_letGo (wpAny_pure ?_)))))
 have tC:IsPair hC TO x b:=tC
 refine wpAny_bind (wpAny_bind (wpAny_onRaise ?_))
 show wpAny _ _ (Builtin.SmallTypes.nextOf (.ref i2) >>= _) _ _ _
 refine wpAny_bind (oU (h2.at fun o e=>sC.extBut _ _ D.TOi2.symm (sB.extBut _ _ D.i12.symm (sA.extBut _ _ D.i2z e))) (g2.at fun o e=>sC.extBut _ _ D.l2TO (sB.extBut _ _ D.l2i1 (sA.extBut _ _ D.l2z e))) hy fun hD iD sD=>wpAny_pure ?_)
 have tD:IsPair hD TO x b:=sD.extBut _ _ D.TOi2 tC
 refine wpAny_bind (wpAny_seqItems tD rfl (wpAny_bind (wpAny_updateSeq_pair tD fun hE tE sE=>wpAny_bind (wpAny_letGo (wpAny_pure (wpAny_pure ?_))))))
 have tE:IsPair hE TO x y:=tE
 refine wpAny_bind (wpAny_seqItems tE rfl (wpAny_bind (wpAny_newTuple ?_)))
 have ez:hE.objs.size=s.heap.objs.size:=by rw [sE.1,sD.1,sC.1,sB.1,sA.1]
 have zE:IsZip hE z TI TO .ellipsis:=sE.extBut _ _ D.TOz.symm (sD.extBut _ _ D.i2z.symm (sC.extBut _ _ D.TOz.symm (sB.extBut _ _ D.i1z.symm zA)))
 have kE:∀ c o,c≠z→c≠TO→c≠i1→c≠i2→s.heap.get? c=some o→hE.get? c=some o:=fun c o c1 c2 c3 c4 e=>sE.extBut _ _ c2 (sD.extBut _ _ c4 (sC.extBut _ _ c2 (sB.extBut _ _ c3 (sA.extBut _ _ c1 e))))
 have i1E:IsIt k1 hE i1 l1 (i + 1):=iB.at fun o e=>sE.extBut _ _ D.TOi1.symm (sD.extBut _ _ D.i12 (sC.extBut _ _ D.TOi1.symm e))
 have i2E:IsIt k2 hE i2 l2 (i + 1):=iD.at fun o e=>sE.extBut _ _ D.TOi2.symm e
 show wpAny _ _ (Builtin.SmallTypes.ownedTupleHandOut (.ref z) (.ref hE.objs.size) >>= _) _ _ _
 refine wpAny_bind ?_
 unfold Builtin.SmallTypes.ownedTupleHandOut
 have zF:IsZip (hE.push { cls:=.type "tuple",data:=.seq #[x,y] }) z TI TO .ellipsis:=Heap.get?_push_of_some _ zE
 refine wpAny_bind (wpAny_setField_rec zF (by simp) fun hG zG sG=>?_)
 have zG:IsZip hG z TI TO (rawInt hE.objs.size):=zG
 refine wpAny_setField_rec zG (by simp) fun hK zK sK=>?_
 have zK:IsZip hK z TI TO (rawInt hE.objs.size):=zK
 have up:∀ c o,c≠z→hE.get? c=some o→hK.get? c=some o:=fun c o c1 e=>sK.extBut _ _ c1 (sG.extBut _ _ c1 (Heap.get?_push_of_some _ e))
 have nz:hE.objs.size≠z:=Nat.ne_of_gt (Heap.lt_size zE)
 have tK:IsPair hK hE.objs.size x y:=sK.extBut _ _ nz (sG.extBut _ _ nz (Heap.get?_push_size _ rfl))
 rw [ez] at zK tK
 refine wpAny_pure ⟨_,rfl,?_⟩
 show Q (.ref hE.objs.size) _
 rw [ez]
 exact q hK zK (up _ _ D.TOz tE) (i1E.at fun o e=>up _ o D.i1z e) (i2E.at fun o e=>up _ o D.i2z e) tK fun c o c1 c2 c3 c4 e=>up c o c1 (kE c o c1 c2 c3 c4 e)
theorem zI {k1 k2:Bool} {z TI TO i1 i2 l1 l2:Addr} {i:Nat} {xs ys:Array Value} {a b:Value} {Q:Fin→Shared→Prop} (hh:A.handled=none) (D:ZipApart z TI TO i1 i2 l1 l2) (hz:IsZip s.heap z TI TO .none) (Hn:IsPair s.heap TI (.ref i1) (.ref i2)) (HV:IsPair s.heap TO a b)
  (h1:IsIt k1 s.heap i1 l1 i) (h2:IsIt k2 s.heap i2 l2 i) (g1:IsSq k1 s.heap l1 xs) (g2:IsSq k2 s.heap l2 ys) (he:xs[i]?=none∨ys[i]?=none)
  (q:∀ h' e,(∀ c o,c≠z→c≠TO→c≠i1→c≠i2→s.heap.get? c=some o→h'.get? c=some o)→(∃ o,h'.get? e=some o∧o.cls=.type "StopIteration")→E (.ref e) { s with heap:=h' }) :
  wpAny (model prog w) A (Builtin.«zip.__next__» ⟨[.ref z],[]⟩) Q E s:=by
 show wpAny _ _ (field (.ref z) 2 >>= _) _ _ _
 refine wpAny_bind (wpAny_field hz rfl (x:=.bool false) rfl ?_)
 show wpAny _ _ (field (.ref z) 3 >>= _) _ _ _
 refine wpAny_bind (wpAny_field hz rfl (x:=.ref TI) rfl (wpAny_bind (wpAny_seqItems Hn rfl ?_)))
 show wpAny _ _ (Builtin.SmallTypes.ownedTupleIsFree (.ref z) >>= _) _ _ _
 refine wpAny_bind ?_
 unfold Builtin.SmallTypes.ownedTupleIsFree
 refine wpAny_bind (wpAny_field hz rfl (x:=.none) rfl (wpAny_pure ?_))
 rw [if_pos (by rfl)]
 refine wpAny_bind (wpAny_rule (wpAny_bind (wpAny_field hz rfl (x:=.ref TO) rfl (wpAny_bind (wpAny_setField_rec hz (by simp) fun hA zA sA=>?_)))))
 have zA:IsZip hA z TI TO .ellipsis:=zA
 refine wpAny_bind ?_
 simp only [List.zipIdx_cons,List.zipIdx_nil,List.forIn_cons,List.forIn_nil]
 refine wpAny_bind (wpAny_bind (wpAny_onRaise ?_))
 show wpAny _ _ (Builtin.SmallTypes.nextOf (.ref i1) >>= _) _ _ _
 cases hx:xs[i]? with
 | none=>
  refine wpAny_bind (wg hh (h1.at fun o e=>sA.extBut _ _ D.i1z e) (g1.at fun o e=>sA.extBut _ _ D.l1z e) hx fun hB e sB Ee=>?_)
  obtain ⟨oe,ge,ce⟩:=Ee
  have zB:IsZip hB z TI TO .ellipsis:=sB _ _ D.i1z.symm zA
  have ne:e≠z:=fun x=>by subst x;rw [zB] at ge;cases ge;simp at ce
  exact wpAny_setField_rec zB (by simp) fun hC _ sC=>q hC e (fun c o c1 _ c3 _ x=>sC.extBut _ _ c1 (sB _ _ c3 (sA.extBut _ _ c1 x))) ⟨oe,sC.extBut _ _ ne ge,ce⟩
 | some x=>
  have hy:ys[i]?=none:=by
   rcases he with z | z
   ·rw [hx] at z;cases z
   ·exact z
  refine wpAny_bind (oU (h1.at fun o e=>sA.extBut _ _ D.i1z e) (g1.at fun o e=>sA.extBut _ _ D.l1z e) hx fun hB iB sB=>wpAny_pure ?_)
  have tB:IsPair hB TO a b:=sB.extBut _ _ D.TOi1 (sA.extBut _ _ D.TOz HV)
  refine wpAny_bind (wpAny_seqItems tB rfl (wpAny_bind (wpAny_updateSeq_pair tB fun hC tC sC=>wpAny_bind (wpAny_letGo (wpAny_pure ?_)))))
  refine wpAny_bind (wpAny_bind (wpAny_onRaise ?_))
  show wpAny _ _ (Builtin.SmallTypes.nextOf (.ref i2) >>= _) _ _ _
  refine wpAny_bind (wg hh (h2.at fun o e=>sC.extBut _ _ D.TOi2.symm (sB.extBut _ _ D.i12.symm (sA.extBut _ _ D.i2z e))) (g2.at fun o e=>sC.extBut _ _ D.l2TO (sB.extBut _ _ D.l2i1 (sA.extBut _ _ D.l2z e))) hy fun hD e sD Ee=>?_)
  obtain ⟨oe,ge,ce⟩:=Ee
  have zD:IsZip hD z TI TO .ellipsis:=sD _ _ D.i2z.symm (sC.extBut _ _ D.TOz.symm (sB.extBut _ _ D.i1z.symm zA))
  have ne:e≠z:=fun x=>by subst x;rw [zD] at ge;cases ge;simp at ce
  exact wpAny_setField_rec zD (by simp) fun hF _ sF=>q hF e (fun c o c1 c2 c3 c4 x=>sF.extBut _ _ c1 (sD _ _ c4 (sC.extBut _ _ c2 (sB.extBut _ _ c3 (sA.extBut _ _ c1 x))))) ⟨oe,sF.extBut _ _ ne ge,ce⟩
end
noncomputable def itObj (k:Bool) (l:Addr):Obj:=match k with
 | true=>{ cls:=.type "list_iterator",data:=.fields #[.ref l,.int 0 0] }
 | false=>{ cls:=.type "tuple_iterator",data:=.fields #[.ref l,.int 0 0] }
theorem pW (k:Bool) (h:Heap) (l:Addr):IsIt k (h.push (itObj k l)) h.objs.size l 0:=by
 cases k with
 | true=>exact ⟨_,Heap.get?_push_size _ rfl,rfl,rfl⟩
 | false=>exact ⟨_,Heap.get?_push_size _ rfl,rfl,rfl⟩
abbrev zA (h:Heap) (k1:Bool) (l1:Addr):Heap:=h.push (itObj k1 l1)
abbrev zB (h:Heap) (k1 k2:Bool) (l1 l2:Addr):Heap:=(zA h k1 l1).push (itObj k2 l2)
abbrev zC (h:Heap) (k1 k2:Bool) (l1 l2:Addr):Heap:=(zB h k1 k2 l1 l2).push { cls:=.type "tuple",data:=.seq #[.ref h.objs.size,.ref (zA h k1 l1).objs.size] }
abbrev zD (h:Heap) (k1 k2:Bool) (l1 l2:Addr):Heap:=(zC h k1 k2 l1 l2).push { cls:=.type "tuple",data:=.seq #[.none,.none] }
abbrev zE (h:Heap) (k1 k2:Bool) (l1 l2:Addr):Heap:=(zD h k1 k2 l1 l2).push { cls:=.type "zip",data:=.fields #[.none,.bool false,.bool false,.ref (zB h k1 k2 l1 l2).objs.size,.ref (zC h k1 k2 l1 l2).objs.size] }
set_option maxHeartbeats 8000000 in
theorem zJ (k1 k2:Bool) (l1 l2:Addr) (xs ys:Array Value) :
  Meets (Builtin.«zip.__new__» ⟨[.type "zip",.ref l1,.ref l2],[]⟩) (fun _ R s=>IsSq k1 s.heap l1 xs∧IsSq k2 s.heap l2 ys∧R (.ok (.ret (.ref (zD s.heap k1 k2 l1 l2).objs.size))) { s with heap:=zE s.heap k1 k2 l1 l2 }):=
 .of_wp fun prog w A R s h=>by
  obtain ⟨hp,g,d,tk,os⟩:=s
  obtain ⟨g1,g2,q⟩:=h
  have GR:=sub_zip
  cases k1 with
  | true=>
   have e1:Heap.IsList (Shared.heap ⟨hp,g,d,tk,os⟩) l1 xs:=g1
   cases k2 with
   | true=>
    have e2:Heap.IsList (Shared.heap ⟨hp.push { cls:=.type "list_iterator",data:=.fields #[.ref l1,.int 0 0] },g,d,tk,os⟩) l2 ys:=Heap.IsList.push g2 _
    wp_walk using wpAny_pyIter_list e1,wpAny_pyIter_list e2
    exact ⟨_,rfl,q⟩
   | false=>
    have e2:Heap.IsTuple (Shared.heap ⟨hp.push { cls:=.type "list_iterator",data:=.fields #[.ref l1,.int 0 0] },g,d,tk,os⟩) l2 ys:=Heap.IsTuple.push g2 _
    wp_walk using wpAny_pyIter_list e1,wpAny_pyIter_tuple e2
    exact ⟨_,rfl,q⟩
  | false=>
   have e1:Heap.IsTuple (Shared.heap ⟨hp,g,d,tk,os⟩) l1 xs:=g1
   cases k2 with
   | true=>
    have e2:Heap.IsList (Shared.heap ⟨hp.push { cls:=.type "tuple_iterator",data:=.fields #[.ref l1,.int 0 0] },g,d,tk,os⟩) l2 ys:=Heap.IsList.push g2 _
    wp_walk using wpAny_pyIter_tuple e1,wpAny_pyIter_list e2
    exact ⟨_,rfl,q⟩
   | false=>
    have e2:Heap.IsTuple (Shared.heap ⟨hp.push { cls:=.type "tuple_iterator",data:=.fields #[.ref l1,.int 0 0] },g,d,tk,os⟩) l2 ys:=Heap.IsTuple.push g2 _
    wp_walk using wpAny_pyIter_tuple e1,wpAny_pyIter_tuple e2
    exact ⟨_,rfl,q⟩
def ZS (k1 k2:Bool) (z TI TO i1 i2 l1 l2:Addr) (i:Nat) (h:Heap):Prop:=IsZip h z TI TO .none∧IsPair h TI (.ref i1) (.ref i2)∧(∃ a b,IsPair h TO a b)∧IsIt k1 h i1 l1 i∧IsIt k2 h i2 l2 i
theorem xx {prog:Program} {w:World} {A:Around} {E:Value→Shared→Prop} {s:Shared} {k1 k2:Bool} {l1 l2:Addr} {xs ys:Array Value} {Q:Value→Shared→Prop} (g1:IsSq k1 s.heap l1 xs) (g2:IsSq k2 s.heap l2 ys)
  (q:∀ h',ZS k1 k2 (s.heap.objs.size + 4) (s.heap.objs.size + 2) (s.heap.objs.size + 3) s.heap.objs.size (s.heap.objs.size + 1) l1 l2 0 h'→(∀ c o,s.heap.get? c=some o→h'.get? c=some o)→Q (.ref (s.heap.objs.size + 4)) { s with heap:=h' }) :
  wpAny (model prog w) A (call (.type "zip") [.ref l1,.ref l2]) Q E s:=by
 refine callType_new F.called_zip (by decide) (F.typeCall_zip_2 _ _) (F.newCall_zip_2 _ _) (fun obj=>F.args_object_init_3 obj _ _) F.entry_zip_new (zJ k1 k2 l1 l2 xs ys) ⟨g1,g2,?_⟩
 have nA:(zA s.heap k1 l1).objs.size=s.heap.objs.size + 1:=Heap.size_push ..
 have nB:(zB s.heap k1 k2 l1 l2).objs.size=s.heap.objs.size + 2:=by rw [Heap.size_push,nA]
 have nC:(zC s.heap k1 k2 l1 l2).objs.size=s.heap.objs.size + 3:=by rw [Heap.size_push,nB]
 have nD:(zD s.heap k1 k2 l1 l2).objs.size=s.heap.objs.size + 4:=by rw [Heap.size_push,nC]
 have pu:∀ {h:Heap} {o:Obj} {c:Addr} {v:Obj},h.get? c=some v→(h.push o).get? c=some v:=fun e=>Heap.get?_push_of_some _ e
 have gz:(zE s.heap k1 k2 l1 l2).get? (zD s.heap k1 k2 l1 l2).objs.size=some _:=Heap.get?_push_size _ rfl
 have go:(zE s.heap k1 k2 l1 l2).get? (zC s.heap k1 k2 l1 l2).objs.size=some _:=pu (Heap.get?_push_size _ rfl)
 have gi:(zE s.heap k1 k2 l1 l2).get? (zB s.heap k1 k2 l1 l2).objs.size=some _:=pu (pu (Heap.get?_push_size _ rfl))
 have j2:IsIt k2 (zE s.heap k1 k2 l1 l2) (zA s.heap k1 l1).objs.size l2 0:=(pW k2 (zA s.heap k1 l1) l2).at fun o e=>pu (pu (pu e))
 have j1:IsIt k1 (zE s.heap k1 k2 l1 l2) s.heap.objs.size l1 0:=(pW k1 s.heap l1).at fun o e=>pu (pu (pu (pu e)))
 show _∧_
 rw [nB,nC,nD] at gz
 rw [nA,nB] at gi
 rw [nC] at go
 rw [nA] at j2
 rw [nD]
 exact ⟨⟨_,gz,rfl⟩,q _ ⟨gz,gi,⟨_,_,go⟩,j1,j2⟩ fun c o x=>pu (pu (pu (pu (pu x))))⟩
noncomputable def NZ (K:W.Frag) (k1 k2:Bool) (a b:Addr):It:=
 ⟨fun i H=>∃ xs ys x y,(if k1 then SqL K H a xs else SqT K H a xs)∧(if k2 then SqL K H b ys else SqT K H b ys)∧xs[i]?=some x∧ys[i]?=some y,
  fun i H v H'=>∃ T,H T=none∧v=.ref T∧∀ xs ys x y,(if k1 then SqL K H a xs else SqT K H a xs)→(if k2 then SqL K H b ys else SqT K H b ys)→xs[i]?=some x→ys[i]?=some y→H'=upd H T (.tup [x,y]),
  fun i H=>∃ xs ys,(if k1 then SqL K H a xs else SqT K H a xs)∧(if k2 then SqL K H b ys else SqT K H b ys)∧i=min xs.length ys.length⟩
section
variable {X:Cx} {pins:List (Addr×Obj)} {σ:L2.St} {H:Hp} {s:Shared}
theorem qQ (I:Inv X pins σ H s) {k:Bool} {a:Addr} {xs:List V} (h:if k then SqL X.K H a xs else SqT X.K H a xs):∃ us:List Value,Vals xs us∧IsSq k s.heap a us.toArray:=by
 cases k with
 | true=>
  obtain ⟨us,r,p,_⟩:=I.list (show SqL X.K H a xs from h)
  exact ⟨us,r,p.isList⟩
 | false=>
  obtain ⟨us,r,p,_⟩:=I.tuple (show SqT X.K H a xs from h)
  exact ⟨us,r,(show s.heap.IsTuple a us.toArray from p)⟩
theorem wj (I:Inv X pins σ H s) {k:Bool} {a:Addr} {xs ys:List V} (h:if k then SqL X.K H a xs else SqT X.K H a xs) (h':if k then SqL X.K H a ys else SqT X.K H a ys):xs=ys:=by
 cases k with
 | true=>exact I.list_inj (show SqL X.K H a xs from h) (show SqL X.K H a ys from h')
 | false=>exact I.tuple_inj (show SqT X.K H a xs from h) (show SqT X.K H a ys from h')
theorem g7 (I:Inv X pins σ H s) {k:Bool} {a b:Addr} {xs:List V} (h:if k then SqL X.K H a xs else SqT X.K H a xs) (f:rE X pins H b):a≠b:=by
 rintro rfl
 obtain ⟨f0,_,_,f3,_⟩:=f
 have nb:∀ o,X.K.lookup a=some o→False:=fun o hk=>by
  have e:=I.ok.mod.kin a o hk
  rcases f3 with z | z
  ·exact I.ok.noex a o e z
  ·exact absurd (Nat.lt_of_lt_of_le (Heap.lt_size e) (Nat.le_trans I.ok.bsz z)) (Nat.lt_irrefl _)
 cases k with
 | true=>
  rcases (show SqL X.K H a xs from h) with (h | ⟨o,h⟩) | ⟨o,DS,n,hk,_⟩
  ·rw [f0] at h;cases h
  ·rw [f0] at h;cases h
  ·exact nb o hk
 | false=>
  rcases (show SqT X.K H a xs from h) with (h | ⟨o,h⟩) | ⟨o,DS,n,hk,_⟩
  ·rw [f0] at h;cases h
  ·rw [f0] at h;cases h
  ·exact nb o hk
end
theorem nx_zip_item {prog:Program} {w:World} {A:Around} {E:Value→Shared→Prop} {s:Shared} {k1 k2:Bool} {z TI TO i1 i2 l1 l2:Addr} {i:Nat} {xs ys:Array Value} {x y:Value} {Q:Option Value→Shared→Prop} (D:ZipApart z TI TO i1 i2 l1 l2) (st:ZS k1 k2 z TI TO i1 i2 l1 l2 i s.heap)
  (g1:IsSq k1 s.heap l1 xs) (g2:IsSq k2 s.heap l2 ys) (hx:xs[i]?=some x) (hy:ys[i]?=some y)
  (q:∀ h',IsZip h' z TI TO (rawInt s.heap.objs.size)→IsPair h' TO x y→IsIt k1 h' i1 l1 (i + 1)→IsIt k2 h' i2 l2 (i + 1)→IsPair h' s.heap.objs.size x y→
   (∀ c o,c≠z→c≠TO→c≠i1→c≠i2→s.heap.get? c=some o→h'.get? c=some o)→Q (some (.ref s.heap.objs.size)) { s with heap:=h' }):wpAny (model prog w) A (pyNext (.ref z)) Q E s:=by
 obtain ⟨hz,Hn,⟨a,b,HV⟩,h1,h2⟩:=st
 have ty:s.TypeIs (.ref z) "zip":=⟨_,hz,rfl⟩
 unfold pyNext
 exact wpAny_bind (wpAny_attempt (wpAny_callSpecial?_slot (name:=Str.ofString "__next__") ty F.slot_zip_next (wpAny_call_entry F.slot_zip_next ty F.entry_zip_next (xw D hz Hn HV h1 h2 g1 g2 hx hy fun h' a1 a2 a3 a4 a5 a6=>wpAny_pure (q h' a1 a2 a3 a4 a5 a6)) (F.args_zip_next_1 _))))
theorem qR {prog:Program} {w:World} {A:Around} {E:Value→Shared→Prop} {s:Shared} {k1 k2:Bool} {z TI TO i1 i2 l1 l2:Addr} {i:Nat} {xs ys:Array Value} {Q:Option Value→Shared→Prop} (hh:A.handled=none) (D:ZipApart z TI TO i1 i2 l1 l2) (st:ZS k1 k2 z TI TO i1 i2 l1 l2 i s.heap)
  (g1:IsSq k1 s.heap l1 xs) (g2:IsSq k2 s.heap l2 ys) (he:xs[i]?=none∨ys[i]?=none) (q:∀ h',(∀ c o,c≠z→c≠TO→c≠i1→c≠i2→s.heap.get? c=some o→h'.get? c=some o)→Q none { s with heap:=h' }):wpAny (model prog w) A (pyNext (.ref z)) Q E s:=by
 obtain ⟨hz,Hn,⟨a,b,HV⟩,h1,h2⟩:=st
 have ty:s.TypeIs (.ref z) "zip":=⟨_,hz,rfl⟩
 unfold pyNext
 refine wpAny_bind (wpAny_attempt (wpAny_callSpecial?_slot (name:=Str.ofString "__next__") ty F.slot_zip_next (wpAny_call_entry F.slot_zip_next ty F.entry_zip_next (zI hh D hz Hn HV h1 h2 g1 g2 he fun h' e kk ⟨o,ho,oc⟩=>?_) (F.args_zip_next_1 _))))
 exact wpAny_bind (wpAny_isInstance (T:="StopIteration") (b:=true) ⟨o,ho,oc⟩ isSubtype_stop (wpAny_pure (q _ kk)))
theorem vh {P:Program} {w:World} {K:W.Frag} {es:List Expr} {kt:Nat} {pt:Pos} (k1 k2:Bool) (a b z TI TO i1 i2:Addr) (ne:z≠TI∧z≠TO∧z≠i1∧z≠i2∧TI≠TO∧TI≠i1∧TI≠i2∧TO≠i1∧TO≠i2∧i1≠i2) :
  Turn P w K (.Tuple es kt pt) (NZ K k1 k2 a b) [z,TI,TO,i1,i2] z (ZS k1 k2 z TI TO i1 i2 a b) where
 mem:=by simp
 obj:=fun i h st c hc=>by
  obtain ⟨hz,Hn,⟨x,y,HV⟩,h1,h2⟩:=st
  simp only [List.mem_cons,List.not_mem_nil,or_false] at hc
  rcases hc with rfl | rfl | rfl | rfl | rfl
  ·exact ⟨_,hz,fun v q=>by cases q⟩
  ·exact ⟨_,Hn,fun v q=>by cases q⟩
  ·exact ⟨_,HV,fun v q=>by cases q⟩
  ·exact h1.obj
  ·exact h2.obj
 keep:=fun i h h' st k=>by
  obtain ⟨hz,Hn,⟨x,y,HV⟩,h1,h2⟩:=st
  exact ⟨k z (by simp) _ hz,k TI (by simp) _ Hn,⟨x,y,k TO (by simp) _ HV⟩,h1.at fun o e=>k i1 (by simp) o e,h2.at fun o e=>k i2 (by simp) o e⟩
 item:=by
  intro X hP hw hK hc i pins s σ H E I hf st hg
  subst hP hw hK
  obtain ⟨xs,ys,x,y,s1,s2,hx,hy⟩:=hg
  obtain ⟨us,r1,q1⟩:=qQ I s1
  obtain ⟨ws,r2,q2⟩:=qQ I s2
  obtain ⟨u,hu,ru⟩:=r1.get hx
  obtain ⟨v,hv,rv⟩:=r2.get hy
  obtain ⟨n1,n2,n3,n4,n5,n6,n7,n8,n9,N1⟩:=ne
  have f:=fun c hc=>hf c hc
  have D:ZipApart z TI TO i1 i2 a b:=⟨n1.symm,n2.symm,n3.symm,n4.symm,n5,n6,n7,n8,n9,N1,g7 I s1 (f z (by simp)),g7 I s1 (f TO (by simp)),g7 I s1 (f i1 (by simp)),g7 I s1 (f i2 (by simp)),
   g7 I s2 (f z (by simp)),g7 I s2 (f TO (by simp)),g7 I s2 (f i1 (by simp)),g7 I s2 (f i2 (by simp))⟩
  have Hn:=st.2.1
  refine nx_zip_item D st q1 q2 (by simpa using hu) (by simpa using hv) fun h' z1 t1 j1 j2 tp kk=>⟨_,rfl,?_⟩
  refine wpAny_letOwnedTupleGo_zip z1 fun h2 z2 sb=>?_
  have nT:H s.heap.objs.size=none:=I.hok.fresh (Nat.le_refl _)
  have tT:s.heap.objs.size≠z:=Nat.ne_of_gt (Heap.lt_size st.1)
  have all:∀ c o,c≠z→c≠TO→c≠i1→c≠i2→s.heap.get? c=some o→h2.get? c=some o:=fun c o c1 c2 c3 c4 e=>(sb.2 c c1).trans (kk c o c1 c2 c3 c4 e)
  have fz:=f z (by simp)
  have fo:=f TO (by simp)
  have f1:=f i1 (by simp)
  have f2:=f i2 (by simp)
  have KO:∀ c ob,H c=some ob→c≠z∧c≠TO∧c≠i1∧c≠i2:=fun c ob e=>⟨(fun q=>by rw [q,fz.1] at e;cases e),(fun q=>by rw [q,fo.1] at e;cases e),(fun q=>by rw [q,f1.1] at e;cases e),(fun q=>by rw [q,f2.1] at e;cases e)⟩
  refine ⟨.ref s.heap.objs.size,upd H s.heap.objs.size (.tup [x,y]),?_,rfl,⟨_,nT,rfl,fun FC ys' x' y' a1 a2 a3 a4=>?_⟩,⟨z2,?_,⟨u,v,(sb.2 TO n2.symm).trans t1⟩,j1.at fun o e=>(sb.2 i1 n3.symm).trans e,j2.at fun o e=>(sb.2 i2 n4.symm).trans e⟩,fun c hc=>?_⟩
  ·have tup2:h2.get? s.heap.objs.size=some { cls:=.type "tuple",data:=.seq #[u,v] }:=(sb.2 _ tT).trans tp
   have S0:Inv X pins σ (upd H s.heap.objs.size (.tup [x,y])) { s with heap:=h2,gens:=s.gens,drawn:=s.drawn,toks:=s.toks }:=by
    refine I.step (ch:=[z,TO,i1,i2]) (fun c hc=>?_) (fun c o _ _ nc e _=>all c o (fun q=>nc (by simp [q])) (fun q=>nc (by simp [q])) (fun q=>nc (by simp [q])) (fun q=>nc (by simp [q])) e)
     (fun c o _ _ nc e _=>⟨o.slots,all c o (fun q=>nc (by simp [q])) (fun q=>nc (by simp [q])) (fun q=>nc (by simp [q])) (fun q=>nc (by simp [q])) e⟩) (fun c o _ e n=>by rw [aP (Nat.ne_of_lt (Heap.lt_size e))];exact n)
     (fun c o nc e=>⟨o,all c o (fun q=>nc (by simp [q])) (fun q=>nc (by simp [q])) (fun q=>nc (by simp [q])) (fun q=>nc (by simp [q])) e⟩) (fun c l e=>by rw [aP (a9 e nT)];exact e) (fun c o u' e=>by rw [aP (a9 e nT)];exact e)
     (fun c ps e=>⟨#[],by rw [aP (a9 e nT),e];simp⟩) (fun m hm=>?_) (fun c ob e=>?_) I.bare
    ·simp only [List.mem_cons,List.not_mem_nil,or_false] at hc
     rcases hc with rfl | rfl | rfl | rfl
     ·exact ⟨fz.2.2.2.1,fz.2.1,fz.2.2.2.2.1,fz.2.2.2.2.2⟩
     ·exact ⟨fo.2.2.2.1,fo.2.1,fo.2.2.2.2.1,fo.2.2.2.2.2⟩
     ·exact ⟨f1.2.2.2.1,f1.2.1,f1.2.2.2.2.1,f1.2.2.2.2.2⟩
     ·exact ⟨f2.2.2.2.1,f2.2.1,f2.2.2.2.2.1,f2.2.2.2.2.2⟩
    ·obtain ⟨o,es,ep,ho,r⟩:=hm
     exact ⟨o,es,ep,all _ o (Ne.symm fz.2.1) (Ne.symm fo.2.1) (Ne.symm f1.2.1) (Ne.symm f2.2.1) ho,r⟩
    ·by_cases ec:c=s.heap.objs.size
     ·subst ec
      rw [bI] at e
      cases e
      exact ⟨by simp only [List.length_cons,List.length_nil];rw [sizeLine_eq];decide,[u,v],.cons ru (.cons rv .nil),⟨_,tup2,rfl,⟨0,rfl⟩,rfl⟩⟩
     ·rw [aP ec] at e
      refine (I.hok c ob e).stay (fun d w' hd q=>?_) (fun d q=>by rw [aP (a9 q nT)];exact q) fun d l q=>by rw [aP (a9 q nT)];exact q
      have Ky:∃ oo,H d=some oo:=by
       rcases hd with rfl | hd
       ·exact ⟨_,e⟩
       ·exact ⟨_,hd⟩
      obtain ⟨oo,N2⟩:=Ky
      obtain ⟨m1,m2,m3,m4⟩:=KO d oo N2
      exact all d w' m1 m2 m3 m4 q
   exact S0
  ·have e1:=wj I a1 s1
   have e2:=wj I a2 s2
   subst e1 e2
   rw [hx] at a3
   rw [hy] at a4
   cases a3
   cases a4
   rfl
  ·exact (sb.2 TI n1.symm).trans (kk TI _ n1.symm n5 n6 n7 Hn)
  ·have hc0:=(f c hc).1
   have cs:c≠s.heap.objs.size:=by
    have:=(fun i h st=>by
     exact (by
      obtain ⟨hz,Hn,⟨x,y,HV⟩,h1,h2⟩:=st
      simp only [List.mem_cons,List.not_mem_nil,or_false] at hc
      rcases hc with rfl | rfl | rfl | rfl | rfl
      ·exact ⟨_,hz⟩
      ·exact ⟨_,Hn⟩
      ·exact ⟨_,HV⟩
      ·obtain ⟨o,e,_⟩:=h1.obj;exact ⟨o,e⟩
      ·obtain ⟨o,e,_⟩:=h2.obj;exact ⟨o,e⟩:∃ o,h.get? c=some o):∀ i h,ZS k1 k2 z TI TO i1 i2 a b i h→∃ o,h.get? c=some o) i s.heap st
    obtain ⟨o,e⟩:=this
    exact Nat.ne_of_lt (Heap.lt_size e)
   rw [aP cs]
   exact hc0
 done:=by
  intro X hP hw hK hc i pins s σ H E I hf st hg
  subst hP hw hK
  obtain ⟨xs,ys,s1,s2,hi⟩:=hg
  obtain ⟨us,r1,q1⟩:=qQ I s1
  obtain ⟨ws,r2,q2⟩:=qQ I s2
  have l1:=r1.length
  have l2:=r2.length
  obtain ⟨n1,n2,n3,n4,n5,n6,n7,n8,n9,N1⟩:=ne
  have f:=fun c hc=>hf c hc
  have D:ZipApart z TI TO i1 i2 a b:=⟨n1.symm,n2.symm,n3.symm,n4.symm,n5,n6,n7,n8,n9,N1,g7 I s1 (f z (by simp)),g7 I s1 (f TO (by simp)),g7 I s1 (f i1 (by simp)),g7 I s1 (f i2 (by simp)),
   g7 I s2 (f z (by simp)),g7 I s2 (f TO (by simp)),g7 I s2 (f i1 (by simp)),g7 I s2 (f i2 (by simp))⟩
  have fz:=f z (by simp)
  have fo:=f TO (by simp)
  have f1:=f i1 (by simp)
  have f2:=f i2 (by simp)
  refine qR (I.ok.hd hc) D st q1 q2 (by
   rcases Nat.le_total us.length ws.length with q | q
   ·exact .inl (by simp;lia)
   ·exact .inr (by simp;lia)) fun h' kk=>⟨rfl,?_⟩
  have KO:∀ c ob,H c=some ob→c≠z∧c≠TO∧c≠i1∧c≠i2:=fun c ob e=>⟨(fun q=>by rw [q,fz.1] at e;cases e),(fun q=>by rw [q,fo.1] at e;cases e),(fun q=>by rw [q,f1.1] at e;cases e),(fun q=>by rw [q,f2.1] at e;cases e)⟩
  have S0:Inv X pins σ H { s with heap:=h',gens:=s.gens,drawn:=s.drawn,toks:=s.toks }:=by
   refine I.step (ch:=[z,TO,i1,i2]) (fun c hc=>?_) (fun c o _ _ nc e _=>kk c o (fun q=>nc (by simp [q])) (fun q=>nc (by simp [q])) (fun q=>nc (by simp [q])) (fun q=>nc (by simp [q])) e)
    (fun c o _ _ nc e _=>⟨o.slots,kk c o (fun q=>nc (by simp [q])) (fun q=>nc (by simp [q])) (fun q=>nc (by simp [q])) (fun q=>nc (by simp [q])) e⟩) (fun c o _ e n=>n)
    (fun c o nc e=>⟨o,kk c o (fun q=>nc (by simp [q])) (fun q=>nc (by simp [q])) (fun q=>nc (by simp [q])) (fun q=>nc (by simp [q])) e⟩) (fun c l e=>e) (fun c o u' e=>e)
    (fun c ps e=>⟨#[],by rw [e];simp⟩) (fun m hm=>?_) (fun c ob e=>?_) I.bare
   ·simp only [List.mem_cons,List.not_mem_nil,or_false] at hc
    rcases hc with rfl | rfl | rfl | rfl
    ·exact ⟨fz.2.2.2.1,fz.2.1,fz.2.2.2.2.1,fz.2.2.2.2.2⟩
    ·exact ⟨fo.2.2.2.1,fo.2.1,fo.2.2.2.2.1,fo.2.2.2.2.2⟩
    ·exact ⟨f1.2.2.2.1,f1.2.1,f1.2.2.2.2.1,f1.2.2.2.2.2⟩
    ·exact ⟨f2.2.2.2.1,f2.2.1,f2.2.2.2.2.1,f2.2.2.2.2.2⟩
   ·obtain ⟨o,es,ep,ho,r⟩:=hm
    exact ⟨o,es,ep,kk _ o (Ne.symm fz.2.1) (Ne.symm fo.2.1) (Ne.symm f1.2.1) (Ne.symm f2.2.1) ho,r⟩
   ·refine (I.hok c ob e).stay (fun d w' hd q=>?_) (fun d q=>q) fun d l q=>q
    have Ky:∃ oo,H d=some oo:=by
     rcases hd with rfl | hd
     ·exact ⟨_,e⟩
     ·exact ⟨_,hd⟩
    obtain ⟨oo,N2⟩:=Ky
    obtain ⟨m1,m2,m3,m4⟩:=KO d oo N2
    exact kk d w' m1 m2 m3 m4 q
  exact S0
 self:=fun _ _ _ _ _ st h=>wpAny_pyIter_zip st.1 h
section
variable {X:Cx} {es:List Expr} {kt:Nat} {pt:Pos}
noncomputable def Dw (K:W.Frag) (k1 k2:Bool) (ta:TA):TI:=fun σ H R=>ta σ H fun vs H1=>∃ a b xs ys,vs=[.ref a,.ref b]∧(if k1 then SqL K H1 a xs else SqT K H1 a xs)∧(if k2 then SqL K H1 b ys else SqT K H1 b ys)∧R (NZ K k1 k2 a b) H1
theorem zL (k1 k2:Bool) {e1 e2:Expr} {ta:TA} {p pos:Pos} (hg:Gl X "zip") (hm:X.mg "zip" = none) (ha:PA X [e1,e2] ta) (he:starEach [e1,e2] X.env=(false,eval e1 X.env) :: starEach [e2] X.env:=by rfl) (FZ:(backTo pos (starEach [e2] X.env)).any (·.1)=false:=by rfl) :
  PI X (.Tuple es kt pt) (.Call (.Name "zip" p) [e1,e2] [] pos) (Dw X.K k1 k2 ta):=by
 intro pins s σ H R I h
 refine wpAny_Call_Name_kw (j8 I hg hm (by decide +kernel:bootBuiltins "zip" = some (.type "zip")) ?_ (by decide) (by decide))
 refine PyProof.Rows.callWith_type1 (Ea (ha pos pins s σ H _ I h) fun us s1 ⟨vs,H1,I1,r1,a,b,xs,ys,e,s1',s2',q⟩=>?_) he FZ
 subst e
 obtain ⟨u,w',rfl,ra,rb⟩:=uS r1
 cases ra
 cases rb
 obtain ⟨us,v1,q1⟩:=qQ I1 s1'
 obtain ⟨ws,v2,q2⟩:=qQ I1 s2'
 refine xx q1 q2 fun h' st kk=>?_
 refine wpAny_pyIter_zip st.1 ?_
 have fr:∀ j,rE X pins H1 (s1.heap.objs.size + j):=fun j=>I1.fpOk (Nat.le_add_right _ _) (I1.hok.fresh (Nat.le_add_right _ _))
 have nn:∀ i j:Nat,i≠j→s1.heap.objs.size + i≠s1.heap.objs.size + j:=fun i j h z=>h (Nat.add_left_cancel z)
 refine ⟨_,_,_,_,H1,rfl,I1.kept (t':=s1.toks) kk,vh k1 k2 a b (s1.heap.objs.size + 4) (s1.heap.objs.size + 2) (s1.heap.objs.size + 3) (s1.heap.objs.size + 0) (s1.heap.objs.size + 1)
  ⟨nn 4 2 (by decide),nn 4 3 (by decide),nn 4 0 (by decide),nn 4 1 (by decide),nn 2 3 (by decide),nn 2 0 (by decide),nn 2 1 (by decide),nn 3 0 (by decide),nn 3 1 (by decide),nn 0 1 (by decide)⟩,st,fun c hc=>?_,q⟩
 simp only [List.mem_cons,List.not_mem_nil,or_false] at hc
 rcases hc with rfl | rfl | rfl | rfl | rfl
 ·exact fr 4
 ·exact fr 2
 ·exact fr 3
 ·exact fr 0
 ·exact fr 1
end
end NX
namespace NX
open PySem PySem.W PyProof.Rows
section
variable {n:Nat} {O:KeyOrd} {κ:Nat→O.α} {cmp:Nat→Nat→(Bool→Shared→Prop)→Shared→Prop} {Good:Shared→Prop}
noncomputable def kk (κ:Nat→O.α) (p:Array Nat) (i:Nat):O.α:=κ (p.getD i 0)
structure POk (n:Nat) (p:Array Nat):Prop where
 perm:p.toList.Perm (List.range n)
theorem POk.size {p:Array Nat} (h:POk n p):p.size=n:=by
 have:=h.perm.length_eq
 simpa using this
theorem POk.lt {p:Array Nat} (h:POk n p) {i:Nat} (hi:i < n):p.getD i 0 < n:=by
 have hs:=h.size
 have Jp:i < p.size:=by lia
 have e:p.getD i 0=p[i]:=by simp [Array.getD,Jp]
 rw [e]
 exact List.mem_range.mp (h.perm.mem_iff.mp (Array.getElem_mem_toList Jp))
theorem POk.of {p q:Array Nat} (h:POk n p) (hq:q.Perm p):POk n q:=⟨(Array.perm_iff_toList_perm.mp hq).trans h.perm⟩
def bo (κ:Nat→O.α) (p:Array Nat) (m:Nat):Prop:=∀ i j,i≤j→j < m→O.kle (kk κ p i) (kk κ p j)
def fE (κ:Nat→O.α) (p:Array Nat) (m:Nat):Prop:=∀ i j,i≤j→j < m→O.kle (kk κ p j) (kk κ p i)
theorem fg {p q:Array Nat} {i j:Nat} (h:p[i]?=q[j]?):p.getD i 0=q.getD j 0:=by
 rw [Array.getD_eq_getD_getElem?,Array.getD_eq_getD_getElem?,h]
theorem pX {p:Array Nat} {i j:Nat} (hj:j≤p.size) (k:Nat):kk κ (kas_rev p i j) k=if i≤k∧k < j then kk κ p (i + j - 1 - k) else kk κ p k:=by
 have e:=getElem?_mirror_all (i:=i) hj k
 unfold kk kas_rev
 split
 ·rename_i h
  rw [if_pos h] at e
  rw [fg e]
 ·rename_i h
  rw [if_neg h] at e
  rw [fg e]
theorem wm {p:Array Nat} {src d:Nat} (hs:src < p.size) (hd:d≤src) (k:Nat):kk κ (bubble p src d) k=if k=src - d then kk κ p src else if src - d < k∧k≤src then kk κ p (k - 1) else kk κ p k:=by
 have e:=getElem?_bubble hs d hd k
 by_cases h:k=src - d
 ·rw [if_pos h] at e ⊢
  exact congrArg κ (fg e)
 ·rw [if_neg h] at e ⊢
  by_cases h2:src - d < k∧k≤src
  ·rw [if_pos h2] at e ⊢
   exact congrArg κ (fg e)
  ·rw [if_neg h2] at e ⊢
   exact congrArg κ (fg e)
theorem POk.rev {p:Array Nat} (h:POk n p) (i j:Nat):POk n (kas_rev p i j):=h.of (mirror_perm _ _ _ _)
theorem POk.bub {p:Array Nat} (h:POk n p) (i j:Nat):POk n (bubble p i j):=h.of (bubble_perm _ _ _)
theorem qS (p:Array Nat):bo κ p 1:=fun i j a b=>by
 have e:i=j:=by lia
 rw [e]
 exact KeyOrd.kle_refl _
theorem oW {p:Array Nat} {m:Nat} (h1:1≤m) (h:bo κ p m) (hm:O.kle (kk κ p (m - 1)) (kk κ p m)):bo κ p (m + 1):=by
 intro i j Jq hj
 by_cases e:j=m
 ·subst e
  by_cases e2:i=j
  ·subst e2
   exact KeyOrd.kle_refl _
  ·exact KeyOrd.kle_trans (h i (j - 1) (by lia) (by lia)) hm
 ·exact h i j Jq (by lia)
theorem fm {p:Array Nat} {m:Nat} (h1:1≤m) (h:fE κ p m) (hm:O.kle (kk κ p m) (kk κ p (m - 1))):fE κ p (m + 1):=by
 intro i j Jq hj
 by_cases e:j=m
 ·subst e
  by_cases e2:i=j
  ·subst e2
   exact KeyOrd.kle_refl _
  ·exact KeyOrd.kle_trans hm (h i (j - 1) (by lia) (by lia))
 ·exact h i j Jq (by lia)
variable (hc:∀ i j,i < n→j < n→∀ (Q:Bool→Shared→Prop) s,Good s→(∀ s',Good s'→Q (O.blt (κ i) (κ j)) s')→cmp i j Q s)
include hc
theorem sH {p:Array Nat} (hp:POk n p) {Ew:Nat} (hn:Ew≤n) {Q:Nat→Shared→Prop}:∀ (f m:Nat) (s:Shared),Good s→1≤m→m + f=Ew→bo κ p m→
  (∀ r s',Good s'→m≤r→r≤Ew→bo κ p r→(r < Ew→O.klt (kk κ p r) (kk κ p (r - 1)))→Q r s')→(kas_asc p f m).kasWp cmp Q s
 | 0,m,s,g,h1,hf,hs,k=>k m s g (Nat.le_refl _) (by lia) hs (fun z=>by lia)
 | f + 1,m,s,g,h1,hf,hs,k=>by
  show cmp (p.getD m 0) (p.getD (m - 1) 0) _ s
  refine hc _ _ (hp.lt (by lia)) (hp.lt (by lia)) _ s g fun s' g'=>?_
  cases e:O.blt (κ (p.getD m 0)) (κ (p.getD (m - 1) 0)) with
  | true=>
   (try dsimp only)
   rw [if_pos rfl]
   exact k m s' g' (Nat.le_refl _) (by lia) hs fun _=>e
  | false=>
   (try dsimp only)
   rw [if_neg Bool.false_ne_true]
   exact sH hp hn f (m + 1) s' g' (by lia) (by lia) (oW h1 hs e) fun r s2 g2 a b c d=>k r s2 g2 (by lia) b c d
def xy (κ:Nat→O.α) (p:Array Nat) (m q:Nat):Prop:=∀ k,m - (q + 1)≤k→k < m→kk κ p k=kk κ p (m - 1)
omit hc in
theorem nL {p:Array Nat} {m q:Nat} (hm:m≤p.size) (h:xy κ p m q) (k:Nat):kk κ (kas_rev p (m - (q + 1)) m) k=kk κ p k:=by
 rw [pX hm]
 split
 ·rename_i hk
  rw [h _ (by lia) (by lia),h k hk.1 hk.2]
 ·rfl
omit hc in
theorem je {p p':Array Nat} {m:Nat} (e:∀ k,kk κ p' k=kk κ p k) (h:fE κ p m):fE κ p' m:=fun i j a b=>by rw [e,e];exact h i j a b
theorem l7 {Ew:Nat} (hn:Ew≤n) {Q:Array Nat×Nat×Nat→Shared→Prop}:∀ (f:Nat) (p:Array Nat) (m q:Nat) (s:Shared),POk n p→Good s→1≤m→q + 1≤m→m + f=Ew→fE κ p m→xy κ p m q→
  (∀ p' m' q' s',POk n p'→Good s'→m≤m'→m'≤Ew→q' + 1≤m'→fE κ p' m'→xy κ p' m' q'→Q (p',m',q') s')→(kas_desc f p m q).kasWp cmp Q s
 | 0,p,m,q,s,hp,g,h1,hq,hf,hs,ha,k=>k p m q s hp g (Nat.le_refl _) (by lia) hq hs ha
 | f + 1,p,m,q,s,hp,g,h1,hq,hf,hs,ha,k=>by
  show cmp (p.getD m 0) (p.getD (m - 1) 0) _ s
  refine hc _ _ (hp.lt (by lia)) (hp.lt (by lia)) _ s g fun s' g'=>?_
  have hsz:=hp.size
  cases e:O.blt (κ (p.getD m 0)) (κ (p.getD (m - 1) 0)) with
  | true=>
   (try dsimp only)
   rw [if_pos rfl]
   have le:O.kle (kk κ p m) (kk κ p (m - 1)):=KeyOrd.kle_of_klt e
   by_cases h0:q > 0
   ·rw [if_pos h0]
    have same:=nL (κ:=κ) (p:=p) (m:=m) (q:=q) (by lia) ha
    refine l7 hn f _ (m + 1) 0 s' (hp.rev _ _) g' (by lia) (by lia) (by lia) (fm h1 (je same hs) (by rw [same,same];exact le)) ?_ fun p' m' q' s2 a b c d e' f' g2=>k p' m' q' s2 a b (by lia) d e' f' g2
    intro k' a b
    have:k'=m:=by lia
    rw [this]
    rfl
   ·rw [if_neg h0]
    refine l7 hn f p (m + 1) 0 s' hp g' (by lia) (by lia) (by lia) (fm h1 hs le) ?_ fun p' m' q' s2 a b c d e' f' g2=>k p' m' q' s2 a b (by lia) d e' f' g2
    intro k' a b
    have:k'=m:=by lia
    rw [this]
    rfl
  | false=>
   (try dsimp only)
   rw [if_neg Bool.false_ne_true]
   show cmp (p.getD (m - 1) 0) (p.getD m 0) _ s'
   refine hc _ _ (hp.lt (by lia)) (hp.lt (by lia)) _ s' g' fun s2 g2=>?_
   cases e2:O.blt (κ (p.getD (m - 1) 0)) (κ (p.getD m 0)) with
   | true=>
    (try dsimp only)
    rw [if_pos rfl]
    exact k p m q s2 hp g2 (Nat.le_refl _) (by lia) hq hs ha
   | false=>
    (try dsimp only)
    rw [if_neg Bool.false_ne_true]
    have eq:kk κ p (m - 1)=kk κ p m:=KeyOrd.kle_antisymm (O:=O) e e2
    refine l7 hn f p (m + 1) (q + 1) s2 hp g2 (by lia) (by lia) (by lia) (fm h1 hs (by rw [eq];exact KeyOrd.kle_refl _)) ?_ fun p' m' q' s3 a b c d e' f' g3=>k p' m' q' s3 a b (by lia) d e' f' g3
    intro k' a b
    show kk κ p k'=kk κ p m
    by_cases z:k'=m
    ·rw [z]
    ·rw [ha k' (by lia) (by lia),eq]
omit hc in
theorem qT {p:Array Nat} {m:Nat} (hm:m≤p.size) (h:fE κ p m):bo κ (kas_rev p 0 m) m:=by
 intro i j a b
 rw [pX hm,pX hm,if_pos (by lia),if_pos (by lia)]
 exact h _ _ (by lia) (by lia)
theorem sI {p:Array Nat} (hp:POk n p) {m Ew:Nat} (hn:Ew≤n) (h1:1≤m) (hm:m≤Ew) (hs:fE κ p m) {Q:Nat×Array Nat→Shared→Prop} {s:Shared} (g:Good s)
  (k:∀ r p' s',POk n p'→Good s'→1≤r→r≤Ew→bo κ p' r→Q (r,p') s'):(kas_tail3 m Ew p).kasWp cmp Q s:=by
 unfold kas_tail3
 rw [KasT.kasWp_bind]
 have hsz:=hp.size
 refine sH hc (hp.rev 0 m) hn (Ew - m) m s g h1 (by lia) (qT (by lia) hs) fun r s' g' a b c _=>?_
 exact k r _ s' (hp.rev 0 m) g' (by lia) b c
theorem kg {p:Array Nat} (hp:POk n p) {m Ew:Nat} (hn:Ew≤n) (h1:1≤m) (hm:m + 1≤Ew) (hs:fE κ p (m + 1)) {Q:Nat×Array Nat→Shared→Prop} {s:Shared} (g:Good s)
  (k:∀ r p' s',POk n p'→Good s'→1≤r→r≤Ew→bo κ p' r→Q (r,p') s'):(kas_descPart m Ew p).kasWp cmp Q s:=by
 unfold kas_descPart
 rw [KasT.kasWp_bind]
 refine l7 hc hn (Ew - (m + 1)) p (m + 1) 0 s hp g (by lia) (by lia) (by lia) hs ?_ fun p' m' q' s' a b c d e f g2=>?_
 ·intro k' a b
  have:k'=m:=by lia
  rw [this]
  rfl
 ·have hsz:=a.size
  dsimp only
  split
  ·have same:=nL (κ:=κ) (p:=p') (m:=m') (q:=q') (by lia) g2
   exact sI hc (a.rev _ _) hn (by lia) d (je same f) b k
  ·exact sI hc a hn (by lia) d f b k
theorem vk {p:Array Nat} (hp:POk n p) {Ew:Nat} (hn:Ew≤n) (h1:1≤Ew) {Q:Nat×Array Nat→Shared→Prop} {s:Shared} (g:Good s)
  (k:∀ r p' s',POk n p'→Good s'→1≤r→r≤Ew→bo κ p' r→Q (r,p') s'):(kas_count Ew p).kasWp cmp Q s:=by
 unfold kas_count
 rw [KasT.kasWp_bind]
 have hsz:=hp.size
 refine sH hc hp hn (Ew - 1) 1 s g (Nat.le_refl _) (by lia) (qS p) fun m s' g' a b c d=>?_
 by_cases e:m=Ew
 ·rw [if_pos (by simpa using e)]
  exact k m p s' hp g' (by lia) (by lia) c
 ·rw [if_neg (by simpa using e)]
  have dd:=d (by lia)
  by_cases h2:m > 1
  ·rw [if_pos h2]
   show cmp (p.getD 0 0) (p.getD (m - 1) 0) _ s'
   refine hc _ _ (hp.lt (by lia)) (hp.lt (by lia)) _ s' g' fun s2 g2=>?_
   cases e2:O.blt (κ (p.getD 0 0)) (κ (p.getD (m - 1) 0)) with
   | true=>
    (try dsimp only)
    rw [if_pos rfl]
    exact k m p s2 hp g2 (by lia) b c
   | false=>
    (try dsimp only)
    rw [if_neg Bool.false_ne_true]
    have eq:∀ i,i < m→kk κ p i=kk κ p 0:=fun i hi=>by
     have x1:=c 0 i (by lia) hi
     have x2:=c i (m - 1) (by lia) (by lia)
     exact KeyOrd.kle_antisymm (O:=O) (KeyOrd.kle_trans x2 e2) x1
    have same:∀ i,kk κ (kas_rev p 0 m) i=kk κ p i:=fun i=>by
     rw [pX (by lia)]
     split
     ·rw [eq _ (by lia),eq i (by lia)]
     ·rfl
    refine kg hc (hp.rev 0 m) hn (by lia) (by lia) ?_ g2 k
    refine je same (fm (by lia) (fun i j x y=>?_) (KeyOrd.kle_of_klt dd))
    rw [eq i (by lia),eq j y]
    exact KeyOrd.kle_refl _
  ·rw [if_neg h2]
   refine kg hc hp hn (by lia) (by lia) (fm (by lia) (fun i j x y=>?_) (KeyOrd.kle_of_klt dd)) g' k
   have:i=j:=by lia
   rw [this]
   exact KeyOrd.kle_refl _
theorem l8 {p:Array Nat} (hp:POk n p) {t:Nat} (ht:t < n) (hs:bo κ p t) {Q:Nat→Shared→Prop}:∀ (f l r:Nat) (s:Shared),Good s→l≤r→r≤t→r - l≤f→(∀ i,i < l→O.kle (kk κ p i) (kk κ p t))→(∀ i,r≤i→i < t→O.klt (kk κ p t) (kk κ p i))→
  (∀ x s',Good s'→x≤t→(∀ i,i < x→O.kle (kk κ p i) (kk κ p t))→(∀ i,x≤i→i < t→O.klt (kk κ p t) (kk κ p i))→Q x s')→(kas_place p t f l r).kasWp cmp Q s
 | 0,l,r,s,g,h1,h2,h3,lo,hi,k=>k l s g (by lia) lo fun i a b=>hi i (by lia) b
 | f + 1,l,r,s,g,h1,h2,h3,lo,hi,k=>by
  unfold kas_place
  by_cases e:l ≥ r
  ·rw [if_pos e]
   exact k l s g (by lia) lo fun i a b=>hi i (by lia) b
  ·rw [if_neg e]
   show cmp (p.getD t 0) (p.getD ((l + r) / 2) 0) _ s
   refine hc _ _ (hp.lt ht) (hp.lt (by lia)) _ s g fun s' g'=>?_
   cases e2:O.blt (κ (p.getD t 0)) (κ (p.getD ((l + r) / 2) 0)) with
   | true=>
    (try dsimp only)
    rw [if_pos rfl]
    refine l8 hp ht hs f l ((l + r) / 2) s' g' (by lia) (by lia) (by lia) lo (fun i a b=>?_) k
    exact KeyOrd.klt_of_klt_of_kle (O:=O) e2 (hs _ i a b)
   | false=>
    (try dsimp only)
    rw [if_neg Bool.false_ne_true]
    refine l8 hp ht hs f ((l + r) / 2 + 1) r s' g' (by lia) (by lia) (by lia) (fun i a=>?_) hi k
    exact KeyOrd.kle_trans (O:=O) (hs i ((l + r) / 2) (by lia) (by lia)) e2
theorem wo {Q:Array Nat→Shared→Prop}:∀ (f:Nat) (p:Array Nat) (t:Nat) (s:Shared),POk n p→Good s→t + f=n→bo κ p t→(∀ p' s',POk n p'→Good s'→bo κ p' n→Q p' s')→(kas_bin f p t).kasWp cmp Q s
 | 0,p,t,s,hp,g,hf,hs,k=>k p s hp g (by rw [show n=t by lia];exact hs)
 | f + 1,p,t,s,hp,g,hf,hs,k=>by
  unfold kas_bin
  rw [KasT.kasWp_bind]
  have hsz:=hp.size
  refine l8 hc hp (by lia) hs t 0 t s g (Nat.zero_le _) (Nat.le_refl _) (by lia) (fun i a=>by lia) (fun i a b=>by lia) fun x s' g' hx lo hi=>?_
  refine wo f _ (t + 1) s' (hp.bub _ _) g' (by lia) ?_ k
  have ex:t - (t - x)=x:=by lia
  intro i j a b
  rw [wm (by lia) (by lia),wm (by lia) (by lia),ex]
  have lo':=lo
  by_cases i1:i=x
  ·by_cases j1:j=x
   ·rw [if_pos i1,if_pos j1]
    exact KeyOrd.kle_refl _
   ·rw [if_pos i1,if_neg j1,if_pos (by lia)]
    exact KeyOrd.kle_of_klt (hi (j - 1) (by lia) (by lia))
  ·rw [if_neg i1]
   by_cases i2:x < i∧i≤t
   ·rw [if_pos i2,if_neg (by lia),if_pos (by lia)]
    exact hs (i - 1) (j - 1) (by lia) (by lia)
   ·rw [if_neg i2]
    by_cases j1:j=x
    ·rw [if_pos j1]
     exact lo i (by lia)
    ·rw [if_neg j1]
     by_cases j2:x < j∧j≤t
     ·rw [if_pos j2]
      exact hs i (j - 1) (by lia) (by lia)
     ·rw [if_neg j2]
      exact hs i j a (by lia)
theorem xA (h1:1≤n) {Q:Array Nat→Shared→Prop} {s:Shared} (g:Good s) (k:∀ p s',POk n p→Good s'→bo κ p n→Q p s'):(kas_sort n).kasWp cmp Q s:=by
 unfold kas_sort
 rw [KasT.kasWp_bind]
 refine vk hc (p:=List.toArray (List.range n)) ⟨by simp⟩ (Nat.le_refl _) h1 g fun r p' s' hp g' a b c=>?_
 dsimp only
 split
 ·have e:max r 1=r:=by lia
  rw [e]
  exact wo hc (n - r) p' r s' hp g' (by lia) c k
 ·exact k p' s' hp g' (by rw [show n=r by lia];exact c)
end
end NX
namespace NX
open PySem PySem.W PySem.Spec PyProof.Rows L2
section
variable {prog:Program} {w:World} {A:Around} {E:Value→Shared→Prop} {s:Shared}
theorem pY (n:Nat):POk n (List.toArray (List.range n)):=⟨by simp⟩
theorem iK {O:KeyOrd} {key:Nat→O.α} {kd:SortKind} {a:Addr} {vs:List Value} {n:Nat} {P:PySem.Fin→Shared→Prop} (ho:s.heap.get? a=some (seqObj "list" vs.toArray n)) (HW:vs.length < 64)
  (F4:2≤vs.length→∀ (h':Heap),(∀ b o,b≠a→s.heap.get? b=some o→h'.get? b=some o)→∀ Q:SortKind→Shared→Prop,Q kd { s with heap:=h' }→wpAny (model prog w) A (keyKind' vs.toArray) Q E { s with heap:=h' })
  (IM:∀ i j,i < vs.length→j < vs.length→∀ (h':Heap),(∀ b o,b≠a→s.heap.get? b=some o→h'.get? b=some o)→∀ C:Bool→Shared→Prop,C (O.blt (key i) (key j)) { s with heap:=h' }→kas_ask prog w A kd vs i j C { s with heap:=h' })
  (h:∀ p h',POk vs.length p→bo key p vs.length→(∃ e,h'.get? a=some (seqObj "list" (List.toArray (p.toList.map fun i=>vs.getD i .none)) e))→(∀ b o,b≠a→s.heap.get? b=some o→h'.get? b=some o)→P (.done (.ret .none)) { s with heap:=h' }) :
  wpAny (model prog w) A (Builtin.«list.sort» ⟨[.ref a],[]⟩) P E s:=by
 rw [list_sort_plain]
 have la:a < s.heap.objs.size:=Heap.lt_size ho
 have zs:vs.toArray.size=vs.length:=by simp
 refine wpAny_bind (listItems_at ho rfl (wpAny_bind (listUpdate_at ho rfl ?_ (by rw [zs,sizeLine_eq];lia) (Nat.zero_le _))))
 obtain ⟨e1,h1⟩:∃ e1,(s.heap.update a (Obj.mapSeq fun _=>#[])).get? a=some (seqObj "list" #[] e1):=⟨_,get?_update_seq ho (fun _=>#[])⟩
 refine wpAny_bind (seqEpoch_at h1 rfl (wpAny_bind (wpAny_newTuple (wpAny_bind (wpAny_newList (wpAny_holding ?_))) (by simp only [List.toList_toArray];rw [sizeLine_eq];lia))))
 generalize e6:((s.heap.update a (Obj.mapSeq fun _=>#[])).push { cls:=.type "tuple",data:=.seq vs.toArray.toList.toArray }).push { cls:=.type "list",data:=.seq ([]:List Value).toArray }=h6
 have k6:∀ b o,b≠a→s.heap.get? b=some o→h6.get? b=some o:=fun b o nb e=>by
  rw [←e6]
  exact Heap.get?_push_of_some _ (Heap.get?_push_of_some _ ((Heap.get?_update_other _ _ (Ne.symm nb)).trans e))
 have L5:h6.get? a=some (seqObj "list" #[] e1):=by
  rw [←e6]
  exact Heap.get?_push_of_some _ (Heap.get?_push_of_some _ h1)
 dsimp only
 have fin:∀ (p:Array Nat),POk vs.length p→bo key p vs.length→∀ out:Array Value,out=List.toArray (p.toList.map fun i=>vs.getD i .none)→
   P (.done (.ret .none)) { s with heap:=h6.update a (Obj.mapSeq fun _=>out) }:=fun p hp hs out eo=>by
  subst eo
  exact h p _ hp hs ⟨_,get?_update_seq L5 _⟩ fun b o nb e=>(Heap.get?_update_other _ _ (Ne.symm nb)).trans (k6 b o nb e)
 have fits:∀ {out:Array Value} {p:Array Nat},POk vs.length p→out=List.toArray (p.toList.map fun i=>vs.getD i .none)→out.size≤sizeLine + 1:=fun {out p} hp e=>by
  rw [e,List.size_toArray,List.length_map,hp.perm.length_eq,List.length_range,sizeLine_eq]
  lia
 by_cases h2:vs.toArray.size < 2
 ·rw [if_pos h2,if_pos h2]
  refine wpAny_bind (wpAny_pure ?_)
  rw [StateT.run_pure]
  refine wpAny_bind (wpAny_pure ?_)
  dsimp only
  have eo:(arrOf (SortSt.mk' general' (vs.toArray.zip vs.toArray) #[] 7 none)).map (·.2)=List.toArray ((List.toArray (List.range vs.length)).toList.map fun i=>vs.getD i .none):=by
   show (vs.toArray.zip vs.toArray).map (·.2)=_
   apply Array.toList_inj.mp
   simp only [Array.toList_map,Array.toList_zip,List.toList_toArray]
   have a1:(vs.zip vs).map (·.2)=vs:=by
    rw [List.map_snd_zip]
    exact Nat.le_refl _
   rw [a1]
   apply List.ext_getElem?
   intro i
   by_cases hi:i < vs.length
   ·simp [hi]
   ·simp [hi]
  refine wpAny_bind (seqEpoch_at L5 rfl (wpAny_bind (listUpdate_at L5 rfl ?_ (Nat.zero_le _) (fits (pY _) eo))))
  simp only [bne_self_eq_false,Bool.false_eq_true,if_false]
  refine wpAny_pure (fin _ (pY _) ?_ _ eo)
  intro i j x y
  have:i=j:=by lia
  rw [this]
  exact KeyOrd.kle_refl _
 ·rw [if_neg h2,if_neg h2]
  have N3:2≤vs.length:=by lia
  refine wpAny_bind (F4 N3 h6 k6 _ ?_)
  refine wpAny_bind (wpAny_mono (kat_run (ks:=vs) (vs:=vs) (Q:=fun Gg s'=>∃ p,POk vs.length p∧bo key p vs.length∧arrOf Gg=p.map (kas_item (vs.toArray.zip vs.toArray))∧failedOf Gg=none∧s'={ s with heap:=h6 })
   (G:=fun p s'=>POk vs.length p∧bo key p vs.length∧s'={ s with heap:=h6 }) rfl N3 HW (fun p Gg s' hz KP hf hg=>⟨p,hg.1,hg.2.1,KP,hf,hg.2.2⟩)
   (xA (n:=vs.length) (O:=O) (κ:=key) (Good:=fun s'=>s'={ s with heap:=h6 }) (fun i j hi hj Q s' g k=>?_) (by lia) rfl fun p s' hp g hs=>⟨hp,hs,g⟩)) (fun r s' hq=>?_) fun _ _ e=>e)
  ·subst g
   exact IM i j hi hj h6 k6 Q (k _ rfl)
  ·obtain ⟨p,hp,hs,KP,hf,rfl⟩:=hq
   have eo:=kat_snds (ks:=vs) (vs:=vs) rfl KP
   refine wpAny_bind (seqEpoch_at L5 rfl (wpAny_bind (listUpdate_at L5 rfl ?_ (Nat.zero_le _) (fits hp eo))))
   rw [hf]
   simp only [bne_self_eq_false,Bool.false_eq_true,if_false]
   exact wpAny_pure (fin p hp hs _ eo)
theorem jg {O:KeyOrd} {key:Nat→O.α} {kd:SortKind} {l:Addr} {vs:List Value} {Q:Value→Shared→Prop} (hl:s.heap.IsList l vs.toArray) (HW:vs.length < 64)
  (F4:2≤vs.length→∀ (A':Around) (E':Value→Shared→Prop) (h':Heap),(∀ b o,s.heap.get? b=some o→h'.get? b=some o)→∀ Q:SortKind→Shared→Prop,Q kd { s with heap:=h' }→wpAny (model prog w) A' (keyKind' vs.toArray) Q E' { s with heap:=h' })
  (IM:∀ i j,i < vs.length→j < vs.length→∀ (h':Heap),(∀ b o,s.heap.get? b=some o→h'.get? b=some o)→∀ C:Bool→Shared→Prop,C (O.blt (key i) (key j)) { s with heap:=h' }→kas_ask prog w A.in1.in1 kd vs i j C { s with heap:=h' })
  (h:∀ p h' e,POk vs.length p→bo key p vs.length→h'.get? (s.heap.objs.size + 1)=some (seqObj "list" (List.toArray (p.toList.map fun i=>vs.getD i .none)) e)→(∀ b o,s.heap.get? b=some o→h'.get? b=some o)→Q (.ref (s.heap.objs.size + 1)) { s with heap:=h' }) :
  wpAny (model prog w) A (call (.builtin "sorted") [.ref l]) Q E s:=by
 refine Calls.call_function_entry kind_sorted plain_sorted entry_sorted (args_sorted1 _) ?_
 unfold Builtin.«sorted»
 refine wpAny_bind (m:=checkCount "sorted" 1 1 _) (wpAny_pure (wpAny_bind (collect_list hl (wpAny_bind (wpAny_newList ?_ (by rw [sizeLine_eq];lia))) (by rw [sizeLine_eq];lia))))
 have zz:((s.heap.push (seqObj "list" #[] 0)).update s.heap.objs.size (Obj.mapSeq (·++vs.toArray))).objs.size=s.heap.objs.size + 1:=by rw [Heap.size_update,size_push']
 generalize e5:(s.heap.push (seqObj "list" #[] 0)).update s.heap.objs.size (Obj.mapSeq (·++vs.toArray))=h5 at zz ⊢
 have k5:∀ b o,s.heap.get? b=some o→(h5.push (seqObj "list" vs.toArray 0)).get? b=some o:=fun b o e=>by
  rw [←e5]
  exact Heap.get?_push_of_some _ ((Heap.get?_update_other _ _ (Ne.symm (Nat.ne_of_lt (Heap.lt_size e)))).trans (Heap.get?_push_of_some _ e))
 have hL:(h5.push (seqObj "list" vs.toArray 0)).get? (s.heap.objs.size + 1)=some (seqObj "list" vs.toArray 0):=by
  rw [←zz]
  exact Heap.get?_push_size _ rfl
 have ne:∀ b o,s.heap.get? b=some o→b≠s.heap.objs.size + 1:=fun b o e=>Nat.ne_of_lt (Nat.lt_succ_of_lt (Heap.lt_size e))
 show wpAny _ _ _ _ _ { s with heap:=h5.push (seqObj "list" vs.toArray 0) }
 rw [zz]
 refine wpAny_bind (wpAny_holding (wpAny_call_entry slot_list_sort ⟨_,hL,rfl⟩ entry_list_sort (iK (key:=key) (kd:=kd) hL HW (fun h2 h' kk Q' q=>F4 h2 _ _ h' (fun b o e=>kk b o (ne b o e) (k5 b o e)) Q' q)
  (fun i j hi hj h' kk C q=>IM i j hi hj h' (fun b o e=>kk b o (ne b o e) (k5 b o e)) C q) fun p h' hp hs ⟨e,he⟩ kk=>⟨_,rfl,?_⟩) (args_list_sort _)))
 exact wpAny_pure ⟨_,rfl,h p h' e hp hs he fun b o q=>kk b o (ne b o q) (k5 b o q)⟩
end
noncomputable def intO:KeyOrd where
 α:=Int
 blt a b:=decide (a < b)
 irrefl a:=by simp
 trans a b c h1 h2:=by simp only [decide_eq_true_eq] at *;lia
 negTrans a b c h:=by simp only [decide_eq_true_eq] at *;lia
 total a b h1 h2:=by simp only [decide_eq_false_iff_not] at *;lia
abbrev CU:KeyOrd:=strKind.toKeyOrd
noncomputable def pZ:KeyOrd where
 α:=Key
 blt a b:=match a,b with
  | .inl i,.inl j=>decide (i < j)
  | .inr x,.inr y=>decide (x.cps.toList < y.cps.toList)
  | .inl _,.inr _=>true
  | .inr _,.inl _=>false
 irrefl a:=by
  cases a with
  | inl i=>simp
  | inr x=>simpa using List.lt_irrefl x.cps.toList
 trans a b c h1 h2:=by
  cases a <;> cases b <;> cases c <;> simp_all
  ·lia
  ·exact List.lt_trans h1 h2
 negTrans a b c h:=by
  cases a <;> cases b <;> cases c <;> simp_all
  ·lia
  ·rename_i x y z
   by_cases q:x.cps.toList < y.cps.toList
   ·exact .inl q
   ·exact .inr (List.lt_of_le_of_lt (List.not_lt.mp q) h)
 total a b h1 h2:=by
  cases a <;> cases b <;> simp_all
  ·lia
  ·rename_i x y
   have e:x.cps.toList=y.cps.toList:=List.le_antisymm (by first | exact h2 | exact List.not_lt.mp h2) (by first | exact h1 | exact List.not_lt.mp h1)
   rw [←nH x,←nH y,e]
noncomputable def eO:List Key→List Key→Bool
 | [],[]=>false
 | [],_ :: _=>true
 | _ :: _,[]=>false
 | a :: r,b :: t=>if a=b then eO r t else pZ.blt a b
theorem ik:∀ a:List Key,eO a a=false
 | []=>rfl
 | a :: r=>by
  show (if a=a then eO r r else _)=false
  rw [if_pos rfl]
  exact ik r
theorem xB {a b:Key} (h:pZ.blt a b=true):a≠b:=by
 rintro rfl
 have:=pZ.irrefl a
 rw [h] at this
 cases this
theorem gX:∀ a b c:List Key,eO a b=true→eO b c=true→eO a c=true
 | [],[],_,h,_=>by cases h
 | [],_ :: _,[],_,h=>by cases h
 | [],_ :: _,_ :: _,_,_=>rfl
 | _ :: _,[],_,h,_=>by cases h
 | _ :: _,_ :: _,[],_,h=>by cases h
 | a :: r,b :: t,c :: u,h1,h2=>by
  have h1:(if a=b then eO r t else pZ.blt a b)=true:=h1
  have h2:(if b=c then eO t u else pZ.blt b c)=true:=h2
  show (if a=c then eO r u else pZ.blt a c)=true
  by_cases e1:a=b
  ·by_cases e2:b=c
   ·rw [if_pos e1] at h1
    rw [if_pos e2] at h2
    rw [if_pos (e1.trans e2)]
    exact gX r t u h1 h2
   ·rw [if_neg e2] at h2
    rw [e1,if_neg e2]
    exact h2
  ·rw [if_neg e1] at h1
   by_cases e2:b=c
   ·rw [←e2,if_neg e1]
    exact h1
   ·rw [if_neg e2] at h2
    have h3:=pZ.trans a b c h1 h2
    rw [if_neg (xB h3)]
    exact h3
theorem gY:∀ a b:List Key,eO a b=false→eO b a=false→a=b
 | [],[],_,_=>rfl
 | [],_ :: _,h,_=>by cases h
 | _ :: _,[],_,h=>by cases h
 | a :: r,b :: t,h1,h2=>by
  have h1:(if a=b then eO r t else pZ.blt a b)=false:=h1
  have h2:(if b=a then eO t r else pZ.blt b a)=false:=h2
  by_cases e:a=b
  ·rw [if_pos e] at h1
   rw [if_pos e.symm] at h2
   rw [e,gY r t h1 h2]
  ·rw [if_neg e] at h1
   rw [if_neg (Ne.symm e)] at h2
   exact absurd (pZ.total a b h1 h2) e
theorem vm (a b c:List Key) (h:eO a c=true):eO a b=true∨eO b c=true:=by
 cases e:eO a b with
 | true=>exact .inl rfl
 | false=>
  refine .inr ?_
  cases e2:eO b a with
  | true=>exact gX b a c e2 h
  | false=>
   rw [←gY a b e e2]
   exact h
noncomputable def Bp:KeyOrd where
 α:=List Key
 blt:=eO
 irrefl:=ik
 trans:=gX
 negTrans:=vm
 total:=gY
section
variable {O:KeyOrd}
noncomputable def qU (p:Array Nat) (xs:List V):List V:=p.toList.map fun i=>xs.getD i .non
theorem lu {α:Type} (xs:List α) (d:α):((List.range xs.length).map fun i=>xs.getD i d)=xs:=by
 apply List.ext_getElem?
 intro i
 by_cases hi:i < xs.length
 ·simp [hi]
 ·simp [hi]
theorem jX {α:Type} {p:Array Nat} {xs:List α} (d:α) (hp:POk xs.length p):(p.toList.map fun i=>xs.getD i d).Perm xs:=by
 have:=hp.perm.map (fun i=>xs.getD i d)
 rwa [lu] at this
theorem gZ {α:Type} {p:Array Nat} {xs:List α} (d:α) (key:α→O.α) (hp:POk xs.length p) (hs:bo (O:=O) (fun i=>key (xs.getD i d)) p xs.length):(p.toList.map fun i=>xs.getD i d).Pairwise fun a b=>O.kle (key a) (key b):=by
 rw [List.pairwise_iff_getElem]
 intro i j hi hj Jq
 have hsz:=hp.size
 have Jp:i < p.size:=by simpa using hi
 have KQ:j < p.size:=by simpa using hj
 have h:=hs i j (Nat.le_of_lt Jq) (by lia)
 unfold kk at h
 simp only [List.getElem_map,Array.getElem_toList]
 have e1:p.getD i 0=p[i]:=by simp [Array.getD,Jp]
 have e2:p.getD j 0=p[j]:=by simp [Array.getD,KQ]
 rw [e1,e2] at h
 exact h
theorem vals_pick {xs:List V} {us:List Value} (r:Vals xs us):∀ l:List Nat,(∀ i∈l,i < xs.length)→Vals (l.map fun i=>xs.getD i .non) (l.map fun i=>us.getD i .none)
 | [],_=>.nil
 | i :: l,h=>by
  refine .cons ?_ (vals_pick r l fun j hj=>h j (List.mem_cons_of_mem _ hj))
  have hi:=h i List.mem_cons_self
  have e1:xs[i]?=some (xs.getD i .non):=by rw [bA _ _ _ hi];exact List.getElem?_eq_getElem hi
  obtain ⟨u,hu,ru⟩:=r.get e1
  have e2:us.getD i .none=u:=by rw [List.getD_eq_getElem?_getD,hu];rfl
  show L2.RelV (xs.getD i .non) (us.getD i .none)
  rw [e2]
  exact ru
theorem jY {xs:List V} {us:List Value} {p:Array Nat} (r:Vals xs us) (hp:POk xs.length p):Vals (qU p xs) (p.toList.map fun i=>us.getD i .none):=
 vals_pick r _ fun i hi=>List.mem_range.mp (hp.perm.mem_iff.mp hi)
end
section
variable {X:Cx}
theorem iL {pins:List (Addr×Obj)} {s:Shared} {σ:L2.St} {H:Hp} {h':Heap} {ys:List V} {us:List Value} {e:Nat} {D:Addr} (I:Inv X pins σ H s) (kk:∀ b o,s.heap.get? b=some o→h'.get? b=some o) (hD:s.heap.objs.size≤D)
  (ho:h'.get? D=some (seqObj "list" (List.toArray us) e)) (r:Vals ys us) (hz:ys.length≤sizeLine):Inv X pins σ (upd H D (.lst ys)) { s with heap:=h' }:=
 I.laid (t':=s.toks) kk hD ⟨hz,us,e,r,ho⟩
theorem jR (hc:X.calm=true):dE X (.builtin "sorted") (fun vs H Q=>∃ (p:Addr) (ns:List Int),vs=[.ref p]∧SqL X.K H p (ns.map V.int)∧ns.length < 64∧∀ (D:Addr) (ms:List Int),H D=none→ms.Perm ns→ms.Pairwise (·≤·)→Q (.ref D) (upd H D (.lst (ms.map V.int)))):=by
 intro pins s σ H vs us Q I r h
 obtain ⟨p,ns,rfl,hp,HW,q⟩:=h
 obtain ⟨u,rfl,r1⟩:=gc r
 cases r1
 obtain ⟨ws,rv,pl,hz⟩:=I.list hp
 have hl:=rv.length
 rw [List.length_map] at hl
 have isI:∀ v∈ws,∃ n t,v=.int n t:=fun v hv=>by
  obtain ⟨i,hi⟩:=List.mem_iff_getElem?.mp hv
  obtain ⟨t,e⟩:=d4 rv hi
  exact ⟨_,t,e⟩
 refine jg (O:=intO) (key:=fun i=>ns.getD i 0) (kd:=oneType') pl.isList (by lia) (fun h2 A' E' h' kk Q' q'=>?_) (fun i j hi hj h' kk C q'=>?_) fun pp h' e FL hs he kk=>?_
 ·refine kas_kind h2 (T:=.type "int") (fun v hv=>?_) (by decide) (by decide) q'
  obtain ⟨n,t,rfl⟩:=isI v hv
  exact fun A Q E s _ q=>wpAny_typeOf (typeIs_int s n t) q
 ·unfold kas_ask
  have e1:ws[i]?=some (ws.getD i .none):=by rw [bA _ _ _ hi];exact List.getElem?_eq_getElem hi
  have e2:ws[j]?=some (ws.getD j .none):=by rw [bA _ _ _ hj];exact List.getElem?_eq_getElem hj
  obtain ⟨t,KR⟩:=d4 rv e1
  obtain ⟨t',N4⟩:=d4 rv e2
  rw [KR,N4]
  exact kat_lt_int q'
 ·rw [←hl] at FL hs
  have KS:POk (ns.map V.int).length pp:=by rw [List.length_map];exact FL
  have eo:qU pp (ns.map V.int)=(pp.toList.map fun i=>ns.getD i 0).map V.int:=by
   unfold qU
   rw [List.map_map]
   refine List.map_congr_left fun i hi=>?_
   have hi:=List.mem_range.mp (FL.perm.mem_iff.mp hi)
   show (ns.map V.int).getD i .non=V.int (ns.getD i 0)
   rw [bA _ _ _ (by rw [List.length_map];exact hi),bA _ _ _ hi]
   simp
  have hn:H (s.heap.objs.size + 1)=none:=I.hok.fresh (Nat.le_succ _)
  refine ⟨.ref (s.heap.objs.size + 1),_,iL I kk (Nat.le_succ _) he (jY rv KS) ?_,rfl,?_⟩
  ·show (qU pp (ns.map V.int)).length≤sizeLine
   rw [eo,List.length_map,List.length_map,FL.perm.length_eq,List.length_range,sizeLine_eq]
   lia
  ·rw [eo]
   refine q _ _ hn (jX 0 FL) ?_
   have:=gZ (O:=intO) 0 (fun i:Int=>i) FL hs
   refine this.imp fun {a b} KU=>?_
   have KU:decide (b < a)=false:=KU
   have:=of_decide_eq_false KU
   lia
theorem oX {ls:List (List Nat)} {us:List Value} (r:Vals (ls.map fun l=>V.str (S l)) us) {i:Nat} {v:Value} (h:us[i]?=some v):∃ t,v=.str (S (ls.getD i [])) t:=by
 have hl:=r.length
 rw [List.length_map] at hl
 obtain ⟨hi,_⟩:=List.getElem?_eq_some_iff.mp h
 have e1:(ls.map fun l=>V.str (S l))[i]?=some (.str (S (ls.getD i []))):=by
  rw [List.getElem?_map,List.getElem?_eq_getElem (by lia),bA _ _ _ (by lia)]
  rfl
 obtain ⟨u,hu,t,rfl⟩:=r.get e1
 rw [h] at hu
 exact ⟨t,Option.some.inj hu⟩
theorem jS (hc:X.calm=true):dE X (.builtin "sorted") (fun vs H Q=>∃ (p:Addr) (ls:List (List Nat)),vs=[.ref p]∧SqL X.K H p (ls.map fun l=>V.str (S l))∧ls.length < 64∧∀ (D:Addr) (ms:List (List Nat)),H D=none→ms.Perm ls→ms.Pairwise (fun a b=>¬ b < a)→Q (.ref D) (upd H D (.lst (ms.map fun l=>V.str (S l))))):=by
 intro pins s σ H vs us Q I r h
 obtain ⟨p,ls,rfl,hp,HW,q⟩:=h
 obtain ⟨u,rfl,r1⟩:=gc r
 cases r1
 obtain ⟨ws,rv,pl,hz⟩:=I.list hp
 have hl:=rv.length
 rw [List.length_map] at hl
 refine jg (O:=CU) (key:=fun i=>ls.getD i []) (kd:=oneType') pl.isList (by lia) (fun h2 A' E' h' kk Q' q'=>?_) (fun i j hi hj h' kk C q'=>?_) fun pp h' e FL hs he kk=>?_
 ·refine kas_kind h2 (T:=.type "str") (fun v hv=>?_) (by decide) (by decide) q'
  obtain ⟨i,hi⟩:=List.mem_iff_getElem?.mp hv
  obtain ⟨t,rfl⟩:=oX rv hi
  exact fun A Q E s _ q=>wpAny_typeOf (typeIs_str s _ t) q
 ·unfold kas_ask
  have e1:ws[i]?=some (ws.getD i .none):=by rw [bA _ _ _ hi];exact List.getElem?_eq_getElem hi
  have e2:ws[j]?=some (ws.getD j .none):=by rw [bA _ _ _ hj];exact List.getElem?_eq_getElem hj
  obtain ⟨t,KR⟩:=oX rv e1
  obtain ⟨t',N4⟩:=oX rv e2
  rw [KR,N4]
  refine kas_lt_str ?_
  rw [dZ,dZ]
  exact q'
 ·rw [←hl] at FL hs
  have KS:POk (ls.map fun l=>V.str (S l)).length pp:=by rw [List.length_map];exact FL
  have eo:qU pp (ls.map fun l=>V.str (S l))=(pp.toList.map fun i=>ls.getD i []).map fun l=>V.str (S l):=by
   unfold qU
   rw [List.map_map]
   refine List.map_congr_left fun i hi=>?_
   have hi:=List.mem_range.mp (FL.perm.mem_iff.mp hi)
   show (ls.map fun l=>V.str (S l)).getD i .non=V.str (S (ls.getD i []))
   rw [bA _ _ _ (by rw [List.length_map];exact hi),bA _ _ _ hi]
   simp
  have hn:H (s.heap.objs.size + 1)=none:=I.hok.fresh (Nat.le_succ _)
  refine ⟨.ref (s.heap.objs.size + 1),_,iL I kk (Nat.le_succ _) he (jY rv KS) ?_,rfl,?_⟩
  ·show (qU pp (ls.map fun l=>V.str (S l))).length≤sizeLine
   rw [eo,List.length_map,List.length_map,FL.perm.length_eq,List.length_range,sizeLine_eq]
   lia
  ·rw [eo]
   refine q _ _ hn (jX [] FL) ?_
   have:=gZ (O:=CU) [] (fun l:List Nat=>l) FL hs
   refine this.imp fun {a b} KU=>?_
   have KU:decide (b < a)=false:=KU
   exact of_decide_eq_false KU
end
noncomputable def kinds (k:List Key):List Bool:=k.map fun x=>x.isLeft
section
variable {prog:Program} {w:World} {A:Around} {s:Shared}
theorem sJ (a b:Key):NP (kV a) (kV b)=decide (a=b):=by
 cases a <;> cases b <;> (rw [Bool.eq_iff_iff];simp [kV,NP])
theorem jZ (a:Key):uX (kV a)=true:=by cases a <;> rfl
theorem zM {a b:Key} {u v:Value} {top:Bool} {Q:Bool→Shared→Prop} (ra:L2.RelV (kV a) u) (rb:L2.RelV (kV b) v) (hk:a.isLeft=b.isLeft) (q:Q (pZ.blt a b) s):wpAny (model prog w) A (oneLt' top u v) Q (fun _ _=>False) s:=by
 cases a with
 | inl i=>
  cases b with
  | inr _=>cases hk
  | inl j=>
   obtain ⟨t,rfl⟩:=ra
   obtain ⟨t',rfl⟩:=rb
   cases top with
   | true=>exact kat_lt_int (E:=fun _ _=>False) q
   | false=>exact kat_one _ _ (lt_int q)
 | inr x=>
  cases b with
  | inl _=>cases hk
  | inr y=>
   obtain ⟨t,rfl⟩:=ra
   obtain ⟨t',rfl⟩:=rb
   cases top with
   | true=>exact oneLt_str q
   | false=>exact kat_one _ _ (lt_str q)
theorem kh {Q:Bool→Shared→Prop}:∀ (k1 k2:List Key) (us ws:List Value) (i:Nat),Vals (k1.map kV) us→Vals (k2.map kV) ws→kinds k1=kinds k2→Q (eO k1 k2) s→KatLex prog w A true false Q (us.zip ws) i s
 | [],[],_,_,_,.nil,.nil,_,q=>q
 | [],_ :: _,_,_,_,_,_,h,_=>by cases h
 | _ :: _,[],_,_,_,_,_,h,_=>by cases h
 | a :: r,b :: t,u :: us,v :: ws,i,.cons ru rus,.cons rv rvs,h,q=>by
  have h1:a.isLeft=b.isLeft:=(List.cons.inj h).1
  have h2:kinds r=kinds t:=(List.cons.inj h).2
  have q:Q (if a=b then eO r t else pZ.blt a b) s:=q
  refine kat_cons (wa (A:=A) (s:=s) ru rv (jZ a) (jZ b) prog w _ _ ?_)
  rw [sJ]
  by_cases e:a=b
  ·rw [if_pos e] at q
   rw [decide_eq_true e]
   exact kat_yes (kh r t us ws (i + 1) rus rvs h2 q)
  ·rw [if_neg e] at q
   rw [decide_eq_false e]
   exact kat_no (zM ru rv h1 q)
end
section
variable {X:Cx} {pins:List (Addr×Obj)} {σ:L2.St} {H:Hp} {s:Shared}
theorem nM (I:Inv X pins σ H s) {a:Addr} {xs:List V} (h:SqT X.K H a xs):∃ (us:List Value) (o:Obj) (n:Nat),Vals xs us∧s.heap.get? a=some o∧o.cls=.type "tuple"∧o.data=.seq us.toArray n:=by
 obtain ⟨us,r,pl,_⟩:=I.tuple h
 obtain ⟨o,ho,oc,n,od⟩:=pl
 exact ⟨us,o,n,r,ho,oc,od⟩
theorem l9 {al:List (Addr×List Key)} {us:List Value} (r:Vals (al.map fun a=>V.ref a.1) us) {i:Nat} (h:i < al.length):us.getD i .none=.ref (al.getD i (0,[])).1:=by
 have e1:(al.map fun a=>V.ref a.1)[i]?=some (.ref (al.getD i (0,[])).1):=by
  rw [List.getElem?_map,List.getElem?_eq_getElem h,bA _ _ _ h]
  rfl
 obtain ⟨u,hu,ru⟩:=r.get e1
 rw [List.getD_eq_getElem?_getD,hu]
 exact ru
theorem p3 {al:List (Addr×List Key)} {us:List Value} {h':Heap} (I:Inv X pins σ H s) (kk:∀ b o,s.heap.get? b=some o→h'.get? b=some o) (top:Bool) :
  (r:Vals (al.map fun a=>V.ref a.1) us)→(∀ a∈al,SqT X.K H a.1 (a.2.map kV)∧∃ t,kinds a.2=top :: t)→∃ fs:List Value,KatTups h' us fs∧fs.length=al.length∧∀ v∈fs,∀ M:Model,Looks M h' (typeOf v) (.type (if top then "int" else "str")):=by
 induction al generalizing us with
 | nil=>
  intro r _
  cases r
  exact ⟨[],trivial,rfl,fun v hv=>by cases hv⟩
 | cons a al ih=>
  intro r h
  cases r with
  | cons ra rs=>
   cases ra
   obtain ⟨fs,t1,t2,t3⟩:=ih rs fun b hb=>h b (List.mem_cons_of_mem _ hb)
   obtain ⟨ha,kt,hk⟩:=h a List.mem_cons_self
   obtain ⟨ws,o,n,rv,ho,oc,od⟩:=nM I ha
   cases e2:a.2 with
   | nil=>rw [e2] at hk;cases hk
   | cons k ks=>
    rw [e2] at rv hk
    have OL:k.isLeft=top:=(List.cons.inj hk).1
    cases rv with
    | @cons _ f _ fr rf rfs=>
     refine ⟨f :: fs,KatTups.cons (kk _ _ ho) oc od (by simp) t1,by simp [t2],fun v hv M=>?_⟩
     rcases List.mem_cons.mp hv with rfl | hv
     ·cases k with
      | inl i=>
       obtain ⟨t,rfl⟩:=rf
       have:top=true:=OL.symm
       subst this
       exact fun A Q E s _ q=>wpAny_typeOf (typeIs_int s _ t) q
      | inr x=>
       obtain ⟨t,rfl⟩:=rf
       have:top=false:=OL.symm
       subst this
       exact fun A Q E s _ q=>wpAny_typeOf (typeIs_str s _ t) q
     ·exact t3 v hv M
end
section
variable {X:Cx}
theorem jT (hc:X.calm=true):dE X (.builtin "sorted") (fun vs H Q=>∃ (p:Addr) (al:List (Addr×List Key)) (top:Bool) (t:List Bool),vs=[.ref p]∧SqL X.K H p (al.map fun a=>V.ref a.1)∧(∀ a∈al,SqT X.K H a.1 (a.2.map kV)∧kinds a.2=top :: t)∧al.length < 64∧
  ∀ (D:Addr) (ms:List (Addr×List Key)),H D=none→ms.Perm al→ms.Pairwise (fun a b=>eO b.2 a.2=false)→Q (.ref D) (upd H D (.lst (ms.map fun a=>V.ref a.1)))):=by
 intro pins s σ H vs us Q I r h
 obtain ⟨p,al,top,kt,rfl,hp,GA,HW,q⟩:=h
 obtain ⟨u,rfl,r1⟩:=gc r
 cases r1
 obtain ⟨ws,rv,pl,hz⟩:=I.list hp
 have hl:=rv.length
 rw [List.length_map] at hl
 refine jg (O:=Bp) (key:=fun i=>(al.getD i (0,[])).2) (kd:=tuples' true) pl.isList (by lia) (fun h2 A' E' h' kk Q' q'=>?_) (fun i j hi hj h' kk C q'=>?_) fun pp h' e FL hs he kk=>?_
 ·obtain ⟨fs,t1,t2,t3⟩:=p3 I kk top rv fun a ha=>⟨(GA a ha).1,kt,(GA a ha).2⟩
  refine kat_kind (T:=.type (if top then "int" else "str")) t1 (by lia) (fun v hv=>t3 v hv _) (by simp) ?_
  have:((Value.type (if top then "int" else "str")) != Value.type "tuple")=true:=by cases top <;> decide
  rw [this]
  exact q'
 ·unfold kas_ask
  have Jp:i < al.length:=by lia
  have KQ:j < al.length:=by lia
  rw [l9 rv Jp,l9 rv KQ]
  have mi:al.getD i (0,[])∈al:=by rw [bA _ _ _ Jp];exact List.getElem_mem _
  have mj:al.getD j (0,[])∈al:=by rw [bA _ _ _ KQ];exact List.getElem_mem _
  obtain ⟨u1,o1,n1,r1,g1,_,d1⟩:=nM I (GA _ mi).1
  obtain ⟨u2,o2,n2,r2,g2,_,d2⟩:=nM I (GA _ mj).1
  have ek:kinds (al.getD i (0,[])).2=kinds (al.getD j (0,[])).2:=by rw [(GA _ mi).2,(GA _ mj).2]
  have el:u1.length=u2.length:=by
   have a1:=r1.length
   have a2:=r2.length
   have a3:=congrArg List.length ek
   simp only [kinds,List.length_map] at a1 a2 a3
   lia
  refine kat_lt (kk _ _ g1) d1 (kk _ _ g2) d2 ?_
  have ef:decide (u1.toArray.size < u2.toArray.size)=false:=by simp [el]
  rw [ef]
  exact kh _ _ _ _ 0 r1 r2 ek q'
 ·rw [←hl] at FL hs
  have KS:POk (al.map fun a=>V.ref a.1).length pp:=by rw [List.length_map];exact FL
  have eo:qU pp (al.map fun a=>V.ref a.1)=(pp.toList.map fun i=>al.getD i (0,[])).map fun a=>V.ref a.1:=by
   unfold qU
   rw [List.map_map]
   refine List.map_congr_left fun i hi=>?_
   have hi:=List.mem_range.mp (FL.perm.mem_iff.mp hi)
   show (al.map fun a=>V.ref a.1).getD i .non=V.ref (al.getD i (0,[])).1
   rw [bA _ _ _ (by rw [List.length_map];exact hi),bA _ _ _ hi]
   simp
  have hn:H (s.heap.objs.size + 1)=none:=I.hok.fresh (Nat.le_succ _)
  refine ⟨.ref (s.heap.objs.size + 1),_,iL I kk (Nat.le_succ _) he (jY rv KS) ?_,rfl,?_⟩
  ·show (qU pp (al.map fun a=>V.ref a.1)).length≤sizeLine
   rw [eo,List.length_map,List.length_map,FL.perm.length_eq,List.length_range,sizeLine_eq]
   lia
  ·rw [eo]
   refine q _ _ hn (jX (0,[]) FL) ?_
   exact gZ (O:=Bp) (0,[]) (fun a:Addr×List Key=>a.2) FL hs
end
end NX
namespace L2
open PySem PySem.Spec PyProof.Rows
section
variable {κ:Type} [DecidableEq κ]
noncomputable def nN (DT:List (κ×V)) (k:κ):Option V:=(DT.find? fun kv=>decide (kv.1=k)).map (·.2)
noncomputable def jU (DT:List (κ×V)) (k:κ) (v:V):List (κ×V):=
 if (DT.any fun kv=>decide (kv.1=k))=true then DT.map (fun kv=>if kv.1=k then (kv.1,v) else kv) else DT++[(k,v)]
theorem ma {p:κ×V} {r:List (κ×V)} {k:κ} (e:p.1=k):nN (p :: r) k=some p.2:=by simp [nN,List.find?_cons,e]
theorem me {p:κ×V} {r:List (κ×V)} {k:κ} (e:¬ p.1=k):nN (p :: r) k=nN r k:=by simp [nN,List.find?_cons,e]
theorem p4 (k:κ):∀ DT:List (κ×V),(DT.any fun kv=>decide (kv.1=k))=(nN DT k).isSome
 | []=>rfl
 | p :: r=>by
  rw [List.any_cons]
  by_cases e:p.1=k
  ·simp only [ma e,decide_eq_true e,Bool.true_or,Option.isSome_some]
  ·rw [me e,decide_eq_false e,Bool.false_or];exact p4 k r
theorem il (DT:List (κ×V)) (k:κ) (v:V):(jU DT k v).length≤DT.length + 1:=by
 unfold jU
 split
 ·rw [List.length_map];lia
 ·rw [List.length_append,List.length_cons,List.length_nil];lia
theorem RelO.isSome_eq {o:Option V} {u:Option Value} (r:RelO o u):o.isSome=u.isSome:=by
 cases o with
 | none=>cases u with
  | none=>rfl
  | some _=>exact (show False from r).elim
 | some _=>cases u with
  | none=>exact (show False from r).elim
  | some _=>rfl
theorem RelO.getD {o:Option V} {u:Option Value} {d:V} {d':Value} (r:RelO o u) (rd:RelV d d'):RelV (o.getD d) (u.getD d'):=by
 cases o with
 | none=>cases u with
  | none=>exact rd
  | some _=>exact (show False from r).elim
 | some _=>cases u with
  | none=>exact (show False from r).elim
  | some _=>exact r
theorem KV.val {DT:List (κ×V)} {vs:List (κ×Value)} (r:KV DT vs) (k:κ):RelO (nN DT k) (valueAt vs k):=by
 unfold KV at r
 induction r with
 | nil=>exact True.intro
 | @cons p q ps qs h t ih=>
  obtain ⟨h1,h2⟩:=h
  by_cases e:p.1=k
  ·have e':q.1=k:=h1.symm.trans e
   have b:valueAt (q :: qs) k=some q.2:=by simp [valueAt,List.find?_cons,e']
   rw [ma e,b];exact h2
  ·have e':¬ q.1=k:=fun z=>e (h1.trans z)
   have b:valueAt (q :: qs) k=valueAt qs k:=by simp [valueAt,List.find?_cons,e']
   rw [me e,b];exact ih
theorem KV.any {DT:List (κ×V)} {vs:List (κ×Value)} (r:KV DT vs) (k:κ):(DT.any fun kv=>decide (kv.1=k))=vs.any fun kv=>decide (kv.1=k):=by
 unfold KV at r
 induction r with
 | nil=>rfl
 | cons h t ih=>rw [List.any_cons,List.any_cons,ih,h.1]
theorem KV.repl {DT:List (κ×V)} {vs:List (κ×Value)} (r:KV DT vs) (k:κ) {y:V} {u:Value} (ry:RelV y u) :
  KV (DT.map fun kv=>if kv.1=k then (kv.1,y) else kv) (vs.map fun kv=>if kv.1=k then (kv.1,u) else kv):=by
 unfold KV at r ⊢
 induction r with
 | nil=>exact .nil
 | @cons p q ps qs h t ih=>
  rw [List.map_cons,List.map_cons]
  refine .cons ?_ ih
  obtain ⟨h1,h2⟩:=h
  by_cases e:p.1=k
  ·rw [if_pos e,if_pos (h1.symm.trans e)];exact ⟨h1,ry⟩
  ·rw [if_neg e,if_neg (fun z=>e (h1.trans z))];exact ⟨h1,h2⟩
theorem KV.put {DT:List (κ×V)} {vs:List (κ×Value)} (r:KV DT vs) (k:κ) {y:V} {u:Value} (ry:RelV y u):KV (jU DT k y) (stored vs k u):=by
 unfold jU stored
 rw [r.any k]
 by_cases e:(vs.any fun kv=>decide (kv.1=k))=true
 ·rw [if_pos e,if_pos e];exact r.repl k ry
 ·rw [if_neg e,if_neg e];exact Paired.snoc r ⟨rfl,ry⟩
theorem KV.length {DT:List (κ×V)} {vs:List (κ×Value)} (r:KV DT vs):DT.length=vs.length:=Paired.length r
end
theorem kV_is {P:Program} {w:World} {k:Key} {u:Value} (r:RelV (kV k) u):(mixKind P w).is k u=true:=by
 cases k with
 | inl i=>obtain ⟨t,e⟩:=(show ∃ t,u=Value.int i t from r);subst e;exact oR P w i t
 | inr x=>obtain ⟨t,e⟩:=(show ∃ t,u=Value.str x t from r);subst e;exact oS P w x t
theorem nO {P:Program} {w:World}:∀ {ks:List Key} {us:List Value},Vals (ks.map kV) us→ItemsAre (mixKind P w) ks us
 | [],_,r=>by rw [List.map_nil] at r;cases r;exact .nil
 | k :: ks,_,r=>by
  rw [List.map_cons] at r
  cases r with
  | cons h t=>exact .cons (kV_is h) (nO t)
abbrev KT (H:Hp):List (List Key×V)→List (List Key×Addr×Value)→Prop:=Paired fun p q=>p.1=q.1∧H q.2.1=some (.tup (p.1.map kV))∧RelV p.2 q.2.2
theorem KT.val {H:Hp} {DT:List (List Key×V)} {xs:List (List Key×Addr×Value)} (r:KT H DT xs) (k:List Key):RelO (nN DT k) ((atKey xs k).map (·.2)):=by
 induction r with
 | nil=>exact True.intro
 | @cons p q ps qs h t ih=>
  obtain ⟨h1,_,h2⟩:=h
  by_cases e:p.1=k
  ·have e':q.1=k:=h1.symm.trans e
   have b:atKey (q :: qs) k=some q.2:=by simp [atKey,List.find?_cons,e']
   rw [ma e,b];exact h2
  ·have e':¬ q.1=k:=fun z=>e (h1.trans z)
   have b:atKey (q :: qs) k=atKey qs k:=by simp [atKey,List.find?_cons,e']
   rw [me e,b];exact ih
theorem KT.repl {H:Hp} {DT:List (List Key×V)} {xs:List (List Key×Addr×Value)} (r:KT H DT xs) (k:List Key) {y:V} {u:Value} (ry:RelV y u) :
  KT H (DT.map fun kv=>if kv.1=k then (kv.1,y) else kv) (xs.map (putAt k u)):=by
 induction r with
 | nil=>exact .nil
 | @cons p q ps qs h t ih=>
  rw [List.map_cons,List.map_cons]
  refine .cons ?_ ih
  obtain ⟨h1,h2,h3⟩:=h
  unfold putAt
  by_cases e:p.1=k
  ·rw [if_pos e,if_pos (h1.symm.trans e)];exact ⟨h1,h2,ry⟩
  ·rw [if_neg e,if_neg (fun z=>e (h1.trans z))];exact ⟨h1,h2,h3⟩
theorem KT.put {H:Hp} {DT:List (List Key×V)} {xs:List (List Key×Addr×Value)} (r:KT H DT xs) (k:List Key) {b:Addr} {y:V} {u:Value} (hb:H b=some (.tup (k.map kV))) (ry:RelV y u) :
  KT H (jU DT k y) (storedH xs k b u):=by
 have e:(DT.any fun kv=>decide (kv.1=k))=(atKey xs k).isSome:=by
  rw [p4,(r.val k).isSome_eq,Option.isSome_map]
 unfold jU storedH
 rw [e]
 by_cases q:(atKey xs k).isSome=true
 ·rw [if_pos q,if_pos q];exact r.repl k ry
 ·rw [if_neg q,if_neg q];exact Paired.snoc r ⟨rfl,hb,ry⟩
theorem KT.keeps {H H':Hp} {DT:List (List Key×V)} {xs:List (List Key×Addr×Value)} (r:KT H DT xs) (ht:∀ b ys,H b=some (.tup ys)→H' b=some (.tup ys)):KT H' DT xs:=
 Paired.mapP r fun _ _ z=>⟨z.1,ht _ _ z.2.1,z.2.2⟩
section
variable {P:Program} {w:World} {H:Hp} {h:Heap} {a:Addr}
theorem zN {u:HO} (ok:HOk P w H h) (e:Rd H a u):ObjOk P w H h a u:=e.ok ok
theorem sL {DT:List (Key×V)} (ok:HOk P w H h) (e:Rd H a (.dK DT)):DT.length≤sizeLine∧(a == sysModules)=false∧∃ vs,KV DT vs∧h.DictOf (mixKind P w) a vs:=
 show ObjOk P w H h a (.dK DT) from zN ok e
theorem zO {DT:List (Key×V)} (ok:HOk P w H h) (e:H a=some (.dK DT)):DT.length≤sizeLine∧(a == sysModules)=false∧∃ vs,KV DT vs∧h.DictOf (mixKind P w) a vs:=sL ok (.inl e)
theorem nP {ks:List Key} (ok:HOk P w H h) (e:H a=some (.tup (ks.map kV))):(tupleKind (mixKind P w)).is h ks a:=by
 obtain ⟨_,DS,r,o,h1,h2,⟨n,h3⟩,_⟩:=(show ObjOk P w H h a (.tup (ks.map kV)) from ok a _ e)
 exact ⟨o,DS.toArray,n,h1,h2,h3,by simpa using nO r⟩
theorem sM {DT:List (List Key×V)} (ok:HOk P w H h) (e:Rd H a (.dT DT)):DT.length≤sizeLine∧(a == sysModules)=false∧
  ∃ xs,KT H DT xs∧h.DictOfH (tupleKind (mixKind P w)) a xs:=by
 obtain ⟨z,y,xs,r,o,es,ep,h1,h2,h3,h4,h5⟩:=(show ObjOk P w H h a (.dT DT) from zN ok e)
 refine ⟨z,y,xs,r,o,es,ep,h1,h2,h3,h4,fun x hx=>?_,h5⟩
 have all:∀ {l:List (List Key×V)} {m:List (List Key×Addr×Value)},KT H l m→∀ x∈m,(tupleKind (mixKind P w)).is h x.1 x.2.1:=by
  intro l m q
  induction q with
  | nil=>intro x hx;exact nomatch hx
  | @cons p q ps qs hq t ih=>
   intro x hx
   rcases List.mem_cons.mp hx with e | hx
   ·subst e
    exact nP ok (by rw [←hq.1];exact hq.2.1)
   ·exact ih x hx
 exact all r x hx
theorem BY {DT:List (List Key×V)} (ok:HOk P w H h) (e:H a=some (.dT DT)):DT.length≤sizeLine∧(a == sysModules)=false∧
  ∃ xs,KT H DT xs∧h.DictOfH (tupleKind (mixKind P w)) a xs:=sM ok (.inl e)
end
def DGet (H:Hp) (a:Addr) (y:V) (r:Option V):Prop:=
 (∃ DT k,Rd H a (.dK DT)∧y=kV k∧r=nN DT k)∨∃ DT k b,Rd H a (.dT DT)∧y=.ref b∧H b=some (.tup (k.map kV))∧r=nN DT k
def DPut (H:Hp) (a:Addr) (y v:V) (H':Hp):Prop:=
 (∃ DT k,H a=some (.dK DT)∧y=kV k∧DT.length < sizeLine∧H'=upd H a (.dK (jU DT k v)))∨
 ∃ DT k b,H a=some (.dT DT)∧y=.ref b∧H b=some (.tup (k.map kV))∧DT.length < sizeLine∧H'=upd H a (.dT (jU DT k v))
theorem DGet.k {H:Hp} {a:Addr} {DT:List (Key×V)} {k:Key} (e:H a=some (.dK DT)):DGet H a (kV k) (nN DT k):=.inl ⟨DT,k,.inl e,rfl,rfl⟩
theorem DGet.t {H:Hp} {a b:Addr} {DT:List (List Key×V)} {k:List Key} (e:H a=some (.dT DT)) (eb:H b=some (.tup (k.map kV))):DGet H a (.ref b) (nN DT k):=.inr ⟨DT,k,b,.inl e,rfl,eb,rfl⟩
theorem DPut.k {H:Hp} {a:Addr} {DT:List (Key×V)} {k:Key} {v:V} (e:H a=some (.dK DT)) (hl:DT.length < sizeLine):DPut H a (kV k) v (upd H a (.dK (jU DT k v))):=.inl ⟨DT,k,e,rfl,hl,rfl⟩
theorem DPut.t {H:Hp} {a b:Addr} {DT:List (List Key×V)} {k:List Key} {v:V} (e:H a=some (.dT DT)) (eb:H b=some (.tup (k.map kV))) (hl:DT.length < sizeLine) :
  DPut H a (.ref b) v (upd H a (.dT (jU DT k v))):=.inr ⟨DT,k,b,e,rfl,eb,hl,rfl⟩
section
variable {X:Cx} {pins:List (Addr×Obj)} {σ:St} {H:Hp} {s:Shared} {a:Addr} {y v:V} {u r:Value} {o:Option V} {A:Around} {E:Value→Shared→Prop}
theorem Inv.big (I:Inv X pins σ H s):sysModules < s.heap.objs.size:=by
 have h:mainGlobals < s.heap.objs.size:=(I.mod.glob.keeps I.bk).lt
 exact Nat.lt_trans (by decide) h
theorem sN {Q:Value→Shared→Prop} (hu:A.units + 1 < cLine) (I:Inv X pins σ H s) (g:DGet H a y (some v)) (ry:RelV y u) (h:∀ w' s',Inv X pins σ H s'→RelV v w'→Q w' s') :
  wpAny (model X.prog X.w) A (getItem (.ref a) u) Q E s:=by
 rcases g with ⟨DT,k,e,ey,l⟩ | ⟨DT,k,b,e,ey,eb,l⟩
 ·subst ey
  obtain ⟨z,hd,vs,rel,dd⟩:=sL I.hok e
  obtain ⟨w',hw,HU⟩:=RelO.some_of (v:=v) (o:=valueAt vs k) (by rw [l];exact rel.val k)
  exact wpAny_getItem_of (kV_is ry) dd.mapOf hw (h w' _ (I.tok _) HU)
 ·subst ey
  cases (show u=Value.ref b from ry)
  obtain ⟨z,hd,xs,rel,dd⟩:=sM I.hok e
  obtain ⟨w',hw,HU⟩:=RelO.some_of (v:=v) (o:=(atKey xs k).map (·.2)) (by rw [l];exact rel.val k)
  obtain ⟨p,hp,L6⟩:=Option.map_eq_some_iff.mp hw
  refine wpAny_getItem_heap (tupleKind_room_in1 hu) (nP I.hok eb) dd hp ?_
  rw [L6]
  exact h w' _ (I.tok _) HU
theorem Dx {Q:Value→Shared→Prop} (hu:A.units + 1 < cLine) (I:Inv X pins σ H s) (g:DGet H a y o) (ry:RelV y u) (h:∀ s',Inv X pins σ H s'→Q (.bool o.isSome) s') :
  wpAny (model X.prog X.w) A (compareOp .In u (.ref a)) Q E s:=by
 rcases g with ⟨DT,k,e,ey,l⟩ | ⟨DT,k,b,e,ey,eb,l⟩
 ·subst ey
  obtain ⟨z,hd,vs,rel,dd⟩:=sL I.hok e
  refine wpAny_in_of (kV_is ry) hd dd.mapOf ?_
  rw [←(rel.val k).isSome_eq,←l]
  exact h _ (I.tok _)
 ·subst ey
  cases (show u=Value.ref b from ry)
  obtain ⟨z,hd,xs,rel,dd⟩:=sM I.hok e
  refine wpAny_in_heap (tupleKind_room_in1 hu) (nP I.hok eb) hd dd ?_
  have q:=(rel.val k).isSome_eq
  rw [Option.isSome_map] at q
  rw [←q,←l]
  exact h _ (I.tok _)
theorem xC {Q:Value→Shared→Prop} (hu:A.units + 1 < cLine) (I:Inv X pins σ H s) (g:DGet H a y o) (ry:RelV y u) (h:∀ s',Inv X pins σ H s'→Q (.bool (!o.isSome)) s') :
  wpAny (model X.prog X.w) A (compareOp .NotIn u (.ref a)) Q E s:=by
 rcases g with ⟨DT,k,e,ey,l⟩ | ⟨DT,k,b,e,ey,eb,l⟩
 ·subst ey
  obtain ⟨z,hd,vs,rel,dd⟩:=sL I.hok e
  refine wpAny_notIn_of (kV_is ry) hd dd.mapOf ?_
  rw [←(rel.val k).isSome_eq,←l]
  exact h _ (I.tok _)
 ·subst ey
  cases (show u=Value.ref b from ry)
  obtain ⟨z,hd,xs,rel,dd⟩:=sM I.hok e
  refine wpAny_notIn_heap (tupleKind_room_in1 hu) (nP I.hok eb) hd dd ?_
  have q:=(rel.val k).isSome_eq
  rw [Option.isSome_map] at q
  rw [←q,←l]
  exact h _ (I.tok _)
theorem oY {h':Heap} {t':Nat} {ob:HO} (I:Inv X pins σ H s) (mu:LL (H a)) (hs:Heap.SameBut a s.heap h') (he:∃ q,h'.get? a=some q) (new:ObjOk X.prog X.w (upd H a ob) h' a ob) :
  Inv X pins σ (upd H a ob) { s with heap:=h',toks:=t' }:=
 I.write (x:=a) (e:=a) mu (.inl rfl) (fun b q hb z=>(hs.2 b hb).trans z) he new
theorem wq {P:Program} {w:World} {H':Hp} {h':Heap} {DT:List (Key×V)} {vs:List (Key×Value)} (z:DT.length≤sizeLine) (hd:(a == sysModules)=false) (rel:KV DT vs) (dd:h'.DictOf (mixKind P w) a vs) :
  ObjOk P w H' h' a (.dK DT):=⟨z,hd,vs,rel,dd⟩
theorem sO {H':Hp} {Q:Unit→Shared→Prop} (hu:A.units + 1 < cLine) (I:Inv X pins σ H s) (g:DPut H a y v H') (ry:RelV y u) (rv:RelV v r) (h:∀ s',Inv X pins σ H' s'→Q () s') :
  wpAny (model X.prog X.w) A (setItem (.ref a) u r) Q E s:=by
 rcases g with ⟨DT,k,e,ey,l,eH⟩ | ⟨DT,k,b,e,ey,eb,l,eH⟩
 ·subst ey eH
  obtain ⟨z,hd,vs,rel,dd⟩:=zO I.hok e
  have hz:vs.length≤sizeLine:=by rw [←rel.length];exact z
  have hl:(jU DT k v).length≤sizeLine:=by have:=il DT k v;lia
  refine wpAny_setItem_pairs (hsz:=hz) (kV_is ry) dd fun h' JD hs=>h _ ?_
  have he:∃ q,h'.get? a=some q:=let ⟨q,_,_,hq,_⟩:=JD;⟨q,hq⟩
  exact oY I (by rw [e];exact True.intro) hs he (wq hl hd (rel.put k rv) JD)
 ·subst ey eH
  cases (show u=Value.ref b from ry)
  obtain ⟨z,hd,xs,rel,dd⟩:=BY I.hok e
  have hz:xs.length≤sizeLine:=by rw [←Paired.length rel];exact z
  have hl:(jU DT k v).length≤sizeLine:=by have:=il DT k v;lia
  refine wpAny_setItem_heap (hsz:=hz) (tupleKind_room_in1 hu) (nP I.hok eb) dd fun h' JD hs=>h _ ?_
  obtain ⟨q,es,ep,hq,h2,h3,h4,_,h5⟩:=JD
  refine oY I (by rw [e];exact True.intro) hs ⟨q,hq⟩ ⟨hl,hd,_,(rel.put k eb rv).keeps fun c ys ec=>?_,q,es,ep,hq,h2,h3,h4,h5⟩
  rw [aP (Bv ec e (fun z=>nomatch z))]
  exact ec
end
section
variable {X:Cx} {pins:List (Addr×Obj)} {σ:St} {H:Hp} {s:Shared} {a:Addr} {DT:List (Key×V)} {k:Key} {u:Value} {A:Around} {E:Value→Shared→Prop}
end
def NoSl (i:Expr):Prop:=∀ ov iv,subscripted i false ov iv=operate [ov,iv] (getItem ov iv)
theorem xD {prog:Program} {w:World} {A:Around} {E:Value→Shared→Prop} {s:Shared} {env:Env} {value slice:Expr} {pos:Pos} {T id:String} {Q:Value→Shared→Prop}
  (hl:typeLookup (.type T) "__getitem__" = pure (some (.builtin id))) (hs:NoSl slice)
  (h:wpAny (model prog w) A (eval value env) (fun o s₁=>wpAny (model prog w) A (eval slice env) (fun i s₂=>s₂.TypeIs o T∧wpAny (model prog w) A (getItem o i) Q E s₂) E s₁) E s) :
  wpAny (model prog w) A (eval (.Subscript value slice pos) env) Q E s:=by
 refine Subscript_ (wpAny_mono h (fun o s₁ h₁=>wpAny_mono h₁ (fun i s₂ h₂=>?_) fun _ _ x=>x) fun _ _ x=>x)
 obtain ⟨hT,h₂⟩:=h₂
 unfold subscriptTail
 refine wpAny_bind ?_
 rw [getitemInPython_of_ne hT.not_modules]
 refine wpAny_bind (wpAny_specialOf hT hl ?_)
 have fin:wpAny (model prog w) A (subscripted slice false o i) (fun r s₃=>wpAny (model prog w) A (letTemporaryGo value o r >>= fun _=>pure r) Q E s₃) E s₂:=by
  rw [hs o i]
  exact wpAny_operating (wpAny_mono h₂ (fun r s₃ h₃=>wpAny_bind (wpAny_letTemporaryGo (wpAny_pure h₃))) fun _ _ x=>x)
 first
  | exact wpAny_pure (wpAny_bind fin)
  | exact wpAny_bind (wpAny_pure (wpAny_bind fin))
  | exact wpAny_bind fin
theorem oZ {X:Cx} {pins:List (Addr×Obj)} {σ:St} {H:Hp} {s:Shared} {a:Addr} {y:V} {o:Option V} (I:Inv X pins σ H s) (g:DGet H a y o):s.TypeIs (.ref a) "dict":=by
 rcases g with ⟨DT,k,e,_,_⟩ | ⟨DT,k,b,e,_,_,_⟩
 ·obtain ⟨_,_,vs,_,dd⟩:=sL I.hok e
  exact dd.typeIs
 ·obtain ⟨_,_,xs,_,dd⟩:=sM I.hok e
  exact dd.typeIs
noncomputable def BZ (td ty:TE):TE:=fun σ H Q=>td σ H fun x H1=>ty σ H1 fun y H2=>∃ a v,x=.ref a∧DGet H2 a y (some v)∧Q v H2
noncomputable def B0 (td ty tv:TE):TS:=fun D σ H=>tv σ H fun v H1=>td σ H1 fun x H2=>ty σ H2 fun y H3=>∃ a H4,x=.ref a∧DPut H3 a y v H4∧D.nx σ H4
section
variable {X:Cx} {o i e value:Expr} {pos pos' tpos:Pos} {td ty tv:TE}
theorem xE (hu:X.A.units + 1 < cLine) (ho:PE X o td) (hi:PE X i ty) (hs:NoSl i):PE X (.Subscript o i pos) (BZ td ty):=by
 intro pins s σ H Q I h
 refine xD PySem.F.slot_dict_getitem.lookup hs (Ea (ho pins s σ H _ I h) fun u s1 ⟨x,H1,I1,rx,q1⟩=>Ea (hi pins s1 σ H1 _ I1 q1) fun iv s2 Ee=>?_)
 obtain ⟨y,H2,I2,ry,a,v,ex,g,q2⟩:=Ee
 subst ex
 obtain rfl:u=Value.ref a:=rx
 exact ⟨oZ I2 g,sN hu I2 g ry fun w' s3 I3 HU=>⟨v,H2,I3,HU,q2⟩⟩
theorem xF (hu:X.A.units + 1 < cLine) (ho:PE X o td) (hi:PE X i ty) (hv:PE X value tv) (hs:swapsWith value (some (.Subscript o i pos')) pos.line X.env=pure false) :
  PS X (.Assign [.Subscript o i pos'] value pos) (B0 td ty tv):=by
 intro pins s σ H D I h
 refine wpAny_Assign_Subscript (Ea (hv pins s σ H _ I h) fun r s1 ⟨v,H1,I1,rv,q1⟩=>Ea (ho pins s1 σ H1 _ I1 q1) fun u s2 ⟨x,H2,I2,rx,q2⟩=>Ea (hi pins s2 σ H2 _ I2 q2) fun iv s3 ⟨y,H3,I3,ry,a,H4,ex,g,q3⟩=>?_) hs
 subst ex
 obtain rfl:u=Value.ref a:=rx
 exact sO hu I3 g ry rv fun s4 I4=>⟨σ,H4,I4,q3⟩
end
theorem dk_empty {P:Program} {w:World} {H:Hp} (h:Heap) (hb:sysModules < h.objs.size):ObjOk P w H (h.push { cls:=.type "dict",data:=.dict #[] }) h.objs.size (.dK []):=
 ⟨Nat.zero_le _,beq_eq_false_iff_ne.mpr (Ne.symm (Nat.ne_of_lt hb)),[],.nil,Heap.DictOf.new h⟩
section
variable {X:Cx} {pos:Pos}
end
noncomputable def tPairs:List (TE×TE)→St→Hp→(List (V×V)→Hp→Prop)→Prop
 | [],_,H,Q=>Q [] H
 | (tk,tv) :: r,σ,H,Q=>tk σ H fun x H1=>tv σ H1 fun y H2=>tPairs r σ H2 fun ps H3=>Q ((x,y) :: ps) H3
abbrev VV:List (V×V)→List (Value×Value)→Prop:=Paired fun p q=>RelV p.1 q.1∧RelV p.2 q.2
def Nk (X:Cx) (pos:Pos) (keys:List (Option Expr)) (values:List Expr) (JE:List (TE×TE)):Prop:=
 ∀ (pins:List (Addr×Obj)) (s:Shared) (σ:St) (H:Hp) (Q:List (V×V)→Hp→Prop),Inv X pins σ H s→tPairs JE σ H Q→
  wpAny (model X.prog X.w) X.A (evalPairs (pairTrees keys values X.env pos)) (fun vs s'=>∃ ps H',Inv X pins σ H' s'∧VV ps vs∧Q ps H') X.xe s
theorem xG {X:Cx} {pos:Pos}:Nk X pos [] [] []:=fun pins s σ H Q I h=>pairTrees_nil_walk ⟨[],H,I,.nil,h⟩
theorem vn {X:Cx} {pos:Pos} {k v:Expr} {ks:List (Option Expr)} {vs:List Expr} {tk tv:TE} {JE:List (TE×TE)} (hk:PE X k tk) (hv:PE X v tv) (hr:Nk X pos ks vs JE) :
  Nk X pos (some k :: ks) (v :: vs) ((tk,tv) :: JE):=fun pins s σ H Q I h=>
 pairTrees_cons_walk (Ea (hk pins s σ H _ I h) fun u s1 ⟨x,H1,I1,rx,q1⟩=>Ea (hv pins s1 σ H1 _ I1 q1) fun w2 s2 ⟨y,H2,I2,ry,q2⟩=>
  Ea (hr pins s2 σ H2 _ I2 q2) fun ws s3 ⟨ps,H3,I3,rel,q3⟩=>⟨(x,y) :: ps,H3,I3,.cons ⟨rx,ry⟩ rel,q3⟩)
noncomputable def nQ (DT more:List (Key×V)):List (Key×V):=more.foldl (fun acc kv=>jU acc kv.1 kv.2) DT
theorem KV.merge:∀ {more:List (Key×V)} {rs:List (Key×Value)} {DT:List (Key×V)} {vs:List (Key×Value)},KV more rs→KV DT vs→KV (nQ DT more) (merged vs rs):=by
 intro more rs DT vs r
 unfold KV at r
 induction r generalizing DT vs with
 | nil=>intro q;exact q
 | @cons p q ps qs h t ih=>
  intro r0
  have e:KV (jU DT p.1 p.2) (stored vs q.1 q.2):=by
   have:=r0.put p.1 h.2
   rw [←h.1];exact this
  exact ih e
theorem iM:∀ (more DT:List (Key×V)),(nQ DT more).length≤DT.length + more.length
 | [],DT=>by show DT.length≤DT.length + 0;lia
 | p :: r,DT=>by
  have h1:=iM r (jU DT p.1 p.2)
  have h2:=il DT p.1 p.2
  show (nQ (jU DT p.1 p.2) r).length≤_
  rw [List.length_cons];lia
theorem lH {P:Program} {w:World}:∀ {DT:List (Key×V)} {ws:List (Value×Value)},VV (DT.map fun kv=>(kV kv.1,kv.2)) ws→∃ rs,Carries (mixKind P w) ws rs∧KV DT rs
 | [],_,r=>by rw [List.map_nil] at r;cases r;exact ⟨[],True.intro,.nil⟩
 | p :: DT,_,r=>by
  rw [List.map_cons] at r
  cases r with
  | @cons a b as bs h t=>
   obtain ⟨rs,c,q⟩:=lH (P:=P) (w:=w) t
   obtain ⟨b1,b2⟩:=b
   exact ⟨(p.1,b2) :: rs,⟨kV_is h.1,rfl,c⟩,.cons ⟨rfl,h.2⟩ q⟩
noncomputable def B1 (JE:List (TE×TE)):TE:=fun σ H Q=>∀ p,H p=none→tPairs JE σ (upd H p (.dK [])) fun ps H2=>H2 p=some (.dK [])∧∃ DT:List (Key×V),ps=DT.map (fun kv=>(kV kv.1,kv.2))∧DT.length≤15∧Q (.ref p) (upd H2 p (.dK (nQ [] DT)))
theorem xH {X:Cx} {pos:Pos} {keys:List (Option Expr)} {values:List Expr} {JE:List (TE×TE)} (h:Nk X pos keys values JE) (EW:keys.all (·.isSome)=true) (hl:keys.length=values.length) (h0:keys≠[])
  (h15:keys.length≤15):PE X (.Dict keys values pos) (B1 JE):=by
 intro pins s σ H Q I q
 have hn:=I.hok.fresh (Nat.le_refl s.heap.objs.size)
 have I1:=I.laid (a:=s.heap.objs.size) (o:=.dK []) (h':=s.heap.push { cls:=.type "dict",data:=.dict #[] }) (t':=s.toks) (fun _ _ q=>Heap.get?_push_of_some _ q) (Nat.le_refl _) (dk_empty s.heap I.big)
 refine wpAny_Dict_walk (knd:=mixKind X.prog X.w) EW hl h0 h15 (Ea (h pins _ σ _ _ I1 (q _ hn)) fun ws s2 Ee=>?_)
 obtain ⟨ps,H2,I2,rel,e,DT,ep,lk,q2⟩:=Ee
 subst ep
 obtain ⟨rs,c,rk⟩:=lH (P:=X.prog) (w:=X.w) rel
 obtain ⟨z,hd,vs0,r0,dd⟩:=zO I2.hok e
 cases r0
 refine ⟨rs,c,dd,fun h' JD hs=>⟨.ref s.heap.objs.size,_,?_,rfl,q2⟩⟩
 have hz:(nQ [] DT).length≤sizeLine:=by
  have h1:=iM DT []
  rw [List.length_nil] at h1
  rw [sizeLine_eq];lia
 have he:∃ q,h'.get? s.heap.objs.size=some q:=let ⟨q,_,_,hq,_⟩:=JD;⟨q,hq⟩
 exact oY I2 (by rw [e];exact True.intro) hs he (wq hz hd (rk.merge .nil) JD)
section
variable {X:Cx} {pins:List (Addr×Obj)} {σ:St} {H:Hp} {s:Shared} {a:Addr} {y d:V} {u r:Value} {o:Option V} {A:Around} {E:Value→Shared→Prop}
end
section
variable {X:Cx} {o e f:Expr} {apos Ec:Pos} {td ty tx:TE}
end
section
variable {X:Cx} {pins:List (Addr×Obj)} {σ:St} {H:Hp} {s:Shared} {a:Addr} {DT:List (Key×V)} {A:Around} {E:Value→Shared→Prop}
end
section
variable {X:Cx} {pins:List (Addr×Obj)} {σ:St} {H:Hp} {s:Shared} {a:Addr} {y:V} {u:Value} {A:Around} {E:Value→Shared→Prop}
end
section
variable {κ:Type} [DecidableEq κ]
end
end L2
namespace NX
open PySem PySem.Spec PyProof.Rows L2
def RawD (h:Heap) (d:Addr) (es:Array DictEntry) (ep:Nat):Prop:=∃ o,h.get? d=some o∧o.ExactDict∧o.data=.dict es ep
theorem RawD.at {h h':Heap} {d:Addr} {es:Array DictEntry} {ep:Nat} (x:RawD h d es ep) (e:∀ o,h.get? d=some o→h'.get? d=some o):RawD h' d es ep:=by
 obtain ⟨o,g,r⟩:=x
 exact ⟨o,e o g,r⟩
section
variable {prog:Program} {w:World} {A:Around} {E:Value→Shared→Prop} {s:Shared} {d it:Addr} {es:Array DictEntry} {ep i:Nat}
theorem j0 (x:RawD s.heap d es ep):s.TypeIs (.ref d) "dict":=by
 obtain ⟨o,g,ex,_⟩:=x
 exact ⟨o,g,ex.1⟩
theorem vo {Q:Value→Shared→Prop} (nm:(d == sysModules)=false) (x:RawD s.heap d es ep)
  (q:Q (.ref s.heap.objs.size) { s with heap:=s.heap.push { cls:=.type "dict_keyiterator",data:=.fields #[.ref d,.int 0 0,.int es.size 0,.int ep 0] } }):wpAny (model prog w) A (pyIter (.ref d)) Q E s:=by
 have ty:=j0 x
 obtain ⟨o,g,ex,dat⟩:=x
 refine wpAny_pyIter_slot ty F.slot_dict_iter (wpAny_call_entry F.slot_dict_iter ty F.entry_dict_iter (wpAny_bind ?_) (F.args_dict_iter_1 _))
 refine wpAny_bind (wpAny_notOrdered_dict ty (wpAny_pure ?_))
 show wpAny _ _ (Builtin.Dict.showsAll d >>= fun _=>_) _ _ s
 have ns:Builtin.Dict.showsAll d=pure ():=by
  unfold Builtin.Dict.showsAll
  rw [nm]
  rfl
 rw [ns]
 refine wpAny_bind (wpAny_pure (wpAny_bind (wpAny_dictEntries g dat (wpAny_bind (wpAny_dictEpoch g dat (wpAny_bind (wpAny_newObj_type (wpAny_pure ⟨_,rfl,"dict_keyiterator",_,⟨_,Heap.get?_push_size _ rfl,rfl⟩,F.slot_dict_keyiterator_next.lookup,?_⟩))))))))
 exact q
theorem vp {Q:Option Value→Shared→Prop} {e:DictEntry} (hit:s.heap.IsKeyIter it d i es.size ep) (x:RawD s.heap d es ep) (hx:es[i]?=some e)
  (q:∀ h',h'.IsKeyIter it d (i + 1) es.size ep→Heap.SameBut it s.heap h'→Q (some e.key) { s with heap:=h' }):wpAny (model prog w) A (pyNext (.ref it)) Q E s:=by
 have ti:=hit.typeIs
 obtain ⟨o,g,oc,od⟩:=hit
 obtain ⟨ob,gd,_,dat⟩:=x
 have Eu:i < es.size:=(Array.getElem?_eq_some_iff.mp hx).1
 unfold pyNext
 refine wpAny_bind (wpAny_attempt (wpAny_callSpecial?_slot (name:=Str.ofString "__next__") ti F.slot_dict_keyiterator_next (wpAny_call_entry F.slot_dict_keyiterator_next ti F.entry_dict_keyiterator_next
  (wpAny_bind (wpAny_pure (wpAny_bind (wpAny_bind ?_)))) (F.args_dict_keyiterator_next_1 _))))
 refine wpAny_bind (wpAny_typeNameOfWhole_keyiter ti (wpAny_pure (wpAny_bind (wpAny_fieldsOf g od ?_))))
 have HQ:Builtin.Dict_items.ownsTuple "dict_keyiterator" = false:=by decide
 simp only [HQ,Bool.false_eq_true,if_false]
 show wpAny _ _ (if (Value.ref d == Value.none)=true then _ else _) _ _ s
 have nz:¬ ((Value.ref d == Value.none)=true):=Bool.false_ne_true
 rw [if_neg nz]
 refine wpAny_bind (wpAny_pure (wpAny_bind (wpAny_dictEntries gd dat ?_)))
 rw [if_neg (by simp)]
 refine wpAny_bind (wpAny_pure (wpAny_bind (wpAny_dictEpoch gd dat ?_)))
 rw [if_neg (by simp)]
 refine wpAny_pure ?_
 simp only [if_neg (show ¬ ((i:Int) < 0) by lia),Int.toNat_natCast,hx]
 refine wpAny_bind (wpAny_bind (wpAny_typeNameOfWhole_keyiter ti (wpAny_pure (wpAny_bind (wpAny_isOneOf_keyiter ti ?_)))))
 show wpAny _ _ (setField (.ref it) 1 (rawInt ((i:Int) + 1)) >>= fun _=>_) _ _ s
 refine wpAny_bind (wpAny_setField g od (by simp) ?_)
 have nx:(s.heap.update it (Obj.mapFields fun y=>y.setIfInBounds 1 (rawInt ((i:Int) + 1)))).IsKeyIter it d (i + 1) es.size ep:=
  ⟨_,Heap.get?_update_self _ g (Obj.isFreed_of_fields (Obj.data_mapFields od _)),(Obj.cls_mapFields ..).trans oc,(Obj.data_mapFields od _).trans (by simp [rawInt])⟩
 refine wpAny_bind (wpAny_holding (wpAny_bind (wpAny_isOneOf_keyiter (s:={ s with heap:=s.heap.update it (Obj.mapFields fun y=>y.setIfInBounds 1 (rawInt ((i:Int) + 1))) }) nx.typeIs ?_)))
 show wpAny _ _ (pure e.key) _ _ _
 exact wpAny_pure (wpAny_pure ⟨_,rfl,wpAny_pure (q _ nx (Heap.SameBut.update ..))⟩)
theorem xI {Q:Option Value→Shared→Prop} (hh:A.handled=none) (hit:s.heap.IsKeyIter it d i es.size ep) (x:RawD s.heap d es ep) (hx:es[i]?=none)
  (q:∀ h',Heap.ExtBut it s.heap h'→Q none { s with heap:=h' }):wpAny (model prog w) A (pyNext (.ref it)) Q E s:=by
 have ti:=hit.typeIs
 obtain ⟨o,g,oc,od⟩:=hit
 obtain ⟨ob,gd,_,dat⟩:=x
 unfold pyNext
 refine wpAny_bind (wpAny_attempt (wpAny_callSpecial?_slot (name:=Str.ofString "__next__") ti F.slot_dict_keyiterator_next (wpAny_call_entry F.slot_dict_keyiterator_next ti F.entry_dict_keyiterator_next
  (wpAny_bind (wpAny_pure (wpAny_bind (wpAny_bind ?_)))) (F.args_dict_keyiterator_next_1 _))))
 refine wpAny_bind (wpAny_typeNameOfWhole_keyiter ti (wpAny_pure (wpAny_bind (wpAny_fieldsOf g od ?_))))
 have HQ:Builtin.Dict_items.ownsTuple "dict_keyiterator" = false:=by decide
 simp only [HQ,Bool.false_eq_true,if_false]
 show wpAny _ _ (if (Value.ref d == Value.none)=true then _ else _) _ _ s
 have nz:¬ ((Value.ref d == Value.none)=true):=Bool.false_ne_true
 rw [if_neg nz]
 refine wpAny_bind (wpAny_pure (wpAny_bind (wpAny_dictEntries gd dat ?_)))
 rw [if_neg (by simp)]
 refine wpAny_bind (wpAny_pure (wpAny_bind (wpAny_dictEpoch gd dat ?_)))
 rw [if_neg (by simp)]
 refine wpAny_pure ?_
 simp only [if_neg (show ¬ ((i:Int) < 0) by lia),Int.toNat_natCast,hx]
 refine wpAny_bind (wpAny_bind (wpAny_typeNameOfWhole_keyiter ti (wpAny_pure ?_)))
 show wpAny _ _ (setField (.ref it) 0 .none >>= fun _=>_) _ _ s
 refine wpAny_bind (wpAny_setField g od (by simp) ?_)
 show wpAny _ _ (newExc (.type "StopIteration") [] >>= fun _=>_) _ _ _
 refine wpAny_bind ?_
 simp only [newExc,newTuple]
 refine wpAny_bind (wpAny_newObj_type (wpAny_bind (m:=firstArgMember _ _) (wpAny_of_eq (a:=Value.none) (by first | rfl | (simp only [firstArgMember];rfl)) (wpAny_newObj_type ?_ (by size_fits)))) (by size_fits))
 simp only [raiseNew]
 refine wpAny_bind (wpAny_handled ?_)
 rw [show A.in1.handled=none from hh]
 refine wpAny_bind (wpAny_pure (wpAny_throw ?_))
 refine wpAny_bind (wpAny_isInstance (b:=true) (T:="StopIteration") ⟨_,Heap.get?_push_size _ rfl,rfl⟩ isSubtype_stop ?_)
 exact wpAny_pure (q _ (((Heap.SameBut.update ..).extBut.push _).push _))
theorem sP (hh:A.handled=none) (I:Addr) (ne:d≠I):Walks prog w A I [I,d] [I] es.size (fun i v=>∃ e,es[i]?=some e∧v=e.key) (fun i h=>h.IsKeyIter I d i es.size ep∧RawD h d es ep) where
 sub:=fun b hb=>by
  rw [List.mem_singleton] at hb
  rw [hb]
  exact List.mem_cons_self
 frame:=fun _ _ _ st hk=>⟨st.1.at fun o e=>hk I List.mem_cons_self o e,st.2.at fun o e=>hk d (List.mem_cons_of_mem _ List.mem_cons_self) o e⟩
 item:=fun i s Q E hi st hQ=>by
  refine vp st.1 st.2 (Array.getElem?_eq_getElem hi) fun h' it' sb=>?_
  exact hQ _ h' s.toks ⟨_,Array.getElem?_eq_getElem hi,rfl⟩ ⟨it',st.2.at fun o e=>sb.extBut d o ne e⟩ fun b o hb e=>sb.extBut b o (fun z=>hb (by rw [z];exact List.mem_cons_self)) e
 done:=fun s Q E st hQ=>xI hh st.1 st.2 (Array.getElem?_eq_none (Nat.le_refl _)) fun h' ext=>hQ h' s.toks fun b o hb e=>ext b o (fun z=>hb (by rw [z];exact List.mem_cons_self)) e
 self:=fun _ _ _ _ st hQ=>wpAny_pyIter_keyiter st.1 hQ
theorem xJ (nm:(d == sysModules)=false):PySem.W.KdlSrc prog w "dict" d d es.size (fun i v=>∃ e,es[i]?=some e∧v=e.key) (fun h=>RawD h d es ep) where
 type:=fun _ x=>j0 x
 there:=fun _ x=>by
  obtain ⟨o,g,_⟩:=x
  exact ⟨Heap.lt_size g,Heap.lt_size g⟩
 keep:=fun _ _ x hk=>x.at fun o e=>hk d (.inl rfl) o e
 notList:=by decide
 notTuple:=by decide
 hint:=fun _ _ _ _ x q=>PySem.W.kdl_hint_dict (j0 x) q
 iter:=fun _ s hh x=>⟨_,_,(fun _ _ q=>vo nm x q),sP hh _ (by obtain ⟨o,g,_⟩:=x;exact Nat.ne_of_lt (Heap.lt_size g)),⟨⟨_,Heap.get?_push_size _ rfl,rfl,rfl⟩,x.at fun o e=>Heap.get?_push_of_some _ e⟩⟩
end
end NX
namespace NX
open PySem PySem.W PySem.Spec PyProof.Rows L2
section
variable {prog:Program} {w:World} {A:Around} {E:Value→Shared→Prop} {s:Shared}
theorem qV {O:KeyOrd} {key:Nat→O.α} {kd:SortKind} {l:Addr} {vs:List Value} {Q:Value→Shared→Prop}
  (hcol:∀ Q':List Value→Shared→Prop,(∀ h' tk,(∀ b o,s.heap.get? b=some o→h'.get? b=some o)→Q' vs { s with heap:=h',toks:=tk })→wpAny (model prog w) A.in1 (collect (.ref l)) Q' E s) (HW:vs.length < 64)
  (F4:2≤vs.length→∀ (A':Around) (E':Value→Shared→Prop) (s':Shared),(∀ b o,s.heap.get? b=some o→s'.heap.get? b=some o)→∀ Q:SortKind→Shared→Prop,Q kd s'→wpAny (model prog w) A' (keyKind' vs.toArray) Q E' s')
  (IM:∀ i j,i < vs.length→j < vs.length→∀ s':Shared,(∀ b o,s.heap.get? b=some o→s'.heap.get? b=some o)→∀ C:Bool→Shared→Prop,C (O.blt (key i) (key j)) s'→kas_ask prog w A.in1.in1 kd vs i j C s')
  (h:∀ (p:Array Nat) (h5 h':Heap) (tk e:Nat),POk vs.length p→bo key p vs.length→(∀ b o,s.heap.get? b=some o→h5.get? b=some o)→(∀ b o,h5.get? b=some o→h'.get? b=some o)→h'.get? h5.objs.size=some (seqObj "list" (List.toArray (p.toList.map fun i=>vs.getD i .none)) e)→Q (.ref h5.objs.size) { s with heap:=h',toks:=tk }) :
  wpAny (model prog w) A (call (.builtin "sorted") [.ref l]) Q E s:=by
 refine Calls.call_function_entry kind_sorted plain_sorted entry_sorted (args_sorted1 _) ?_
 unfold Builtin.«sorted»
 refine wpAny_bind (m:=checkCount "sorted" 1 1 _) (wpAny_pure (wpAny_bind (hcol _ fun h5 tk k5=>?_)))
 refine wpAny_bind (wpAny_newList ?_ (by rw [sizeLine_eq];lia))
 have k6:∀ b o,s.heap.get? b=some o→(h5.push (seqObj "list" vs.toArray 0)).get? b=some o:=fun b o e=>Heap.get?_push_of_some _ (k5 b o e)
 have hL:(h5.push (seqObj "list" vs.toArray 0)).get? h5.objs.size=some (seqObj "list" vs.toArray 0):=Heap.get?_push_size _ rfl
 have OM:∀ b o,s.heap.get? b=some o→b < h5.objs.size:=fun b o e=>Heap.lt_size (k5 b o e)
 show wpAny _ _ _ _ _ { s with heap:=h5.push (seqObj "list" vs.toArray 0),toks:=tk }
 refine wpAny_bind (wpAny_holding (wpAny_call_entry slot_list_sort ⟨_,hL,rfl⟩ entry_list_sort (iK (key:=key) (kd:=kd) hL HW (fun h2 h' kk Q' q=>F4 h2 _ _ _ (fun b o e=>kk b o (Nat.ne_of_lt (OM b o e)) (k6 b o e)) Q' q)
  (fun i j hi hj h' kk C q=>IM i j hi hj _ (fun b o e=>kk b o (Nat.ne_of_lt (OM b o e)) (k6 b o e)) C q) fun p h' hp hs ⟨e,he⟩ kk=>⟨_,rfl,?_⟩) (args_list_sort _)))
 exact wpAny_pure ⟨_,rfl,h p h5 h' tk e hp hs k5 (fun b o q=>kk b o (Nat.ne_of_lt (Heap.lt_size q)) (Heap.get?_push_of_some _ q)) he⟩
end
section
variable {X:Cx} {pins:List (Addr×Obj)} {σ:L2.St} {H:Hp} {s:Shared}
theorem xK {H:Hp} {DT:List (List Key×V)} {xs:List (List Key×Addr×Value)} (r:KT H DT xs):xs.map (·.1)=DT.map (·.1):=by
 induction r with
 | nil=>rfl
 | cons hq _ ih=>rw [List.map_cons,List.map_cons,ih,hq.1]
theorem B2 {H:Hp} {DT:List (List Key×V)} {xs:List (List Key×Addr×Value)} (r:KT H DT xs):∀ y∈xs,H y.2.1=some (.tup (y.1.map kV)):=by
 induction r with
 | nil=>exact fun y hy=>nomatch hy
 | cons hq _ ih=>
  intro y hy
  rcases List.mem_cons.mp hy with rfl | hy
  ·rw [←hq.1]
   exact hq.2.1
  ·exact ih y hy
theorem xM (I:Inv X pins σ H s) {a:Addr} {DT:List (List Key×V)} (h:Rd H a (.dT DT)):(a == sysModules)=false∧∃ (al:List (Addr×List Key)) (es:Array DictEntry) (ep:Nat),
  RawD s.heap a es ep∧es.toList.map (·.key)=al.map (fun x=>Value.ref x.1)∧al.map (·.2)=DT.map (·.1)∧∀ x∈al,H x.1=some (.tup (x.2.map kV)):=by
 obtain ⟨_,nm,xs,r,o,es,ep,h1,h2,h3,h4,_⟩:=h.ok I.hok
 refine ⟨nm,xs.map fun x=>(x.2.1,x.1),es,ep,⟨o,h1,h2,h3⟩,?_,?_,?_⟩
 ·rw [h4,List.map_map,List.map_map]
  rfl
 ·rw [List.map_map]
  exact xK r
 ·intro x hx
  obtain ⟨y,hy,rfl⟩:=List.mem_map.mp hx
  exact B2 r y hy
theorem lx (hc:X.calm=true):dE X (.builtin "sorted") (fun vs H Q=>∃ (p:Addr) (DT:List (List Key×V)) (top:Bool) (t:List Bool),vs=[.ref p]∧Rd H p (.dT DT)∧(∀ kv∈DT,kinds kv.1=top :: t)∧DT.length < 64∧
  ∀ (D:Addr) (ms:List (Addr×List Key)),H D=none→(∀ a∈ms,H a.1=some (.tup (a.2.map kV)))→(ms.map (·.2)).Perm (DT.map (·.1))→ms.Pairwise (fun a b=>eO b.2 a.2=false)→Q (.ref D) (upd H D (.lst (ms.map fun a=>V.ref a.1)))):=by
 intro pins s σ H vs us Q I r h
 obtain ⟨p,DT,top,kt,rfl,hp,hk,HW,q⟩:=h
 obtain ⟨u,rfl,r1⟩:=gc r
 cases r1
 obtain ⟨nm,al,es,ep,raw,IP,Nl,KW⟩:=xM I hp
 have EW:al.length=DT.length:=by
  have:=congrArg List.length Nl
  simpa using this
 have GA:∀ a∈al,SqT X.K H a.1 (a.2.map kV)∧kinds a.2=top :: kt:=fun a ha=>by
  refine ⟨SqT.of (KW a ha),?_⟩
  have:a.2∈DT.map (·.1):=by rw [←Nl];exact List.mem_map.mpr ⟨a,ha,rfl⟩
  obtain ⟨kv,GS,e⟩:=List.mem_map.mp this
  rw [←e]
  exact hk kv GS
 have rv:Vals (al.map fun a=>V.ref a.1) (al.map fun a=>Value.ref a.1):=by
  clear IP Nl KW EW GA
  induction al with
  | nil=>exact .nil
  | cons a al ih=>exact .cons rfl ih
 have hl:(al.map fun a=>Value.ref a.1).length=al.length:=List.length_map ..
 refine qV (O:=Bp) (key:=fun i=>(al.getD i (0,[])).2) (kd:=tuples' true) (vs:=al.map fun a=>Value.ref a.1) (fun Q' hq=>?_) (by lia) (fun h2 A' E' s' kk Q' q'=>?_) (fun i j hi hj s' kk C q'=>?_) fun pp h5 h' tk e FL hs k5 k' he=>?_
 ·refine kdu_collect (xJ nm) (I.ok.hd hc) raw (by have:=congrArg List.length IP;simp only [List.length_map,Array.length_toList] at this;rw [sizeLine_eq];lia) fun h' tk acc kk JC=>?_
  have ea:acc.toList=al.map fun a=>Value.ref a.1:=by
   rw [←IP]
   apply List.ext_getElem?
   intro j
   rw [List.getElem?_map,Array.getElem?_toList,Array.getElem?_toList]
   cases hj:acc[j]? with
   | none=>
    have:es[j]?=none:=by
     rw [Array.getElem?_eq_none_iff] at hj ⊢
     rw [←JC.1]
     exact hj
    rw [this]
    rfl
   | some v=>
    obtain ⟨en,h1,h2⟩:=JC.2 j v hj
    rw [h1,h2]
    rfl
  have:=hq h' tk kk
  rw [←ea] at this
  exact this
 ·obtain ⟨fs,t1,t2,t3⟩:=p3 (h':=s'.heap) I kk top rv fun a ha=>⟨(GA a ha).1,kt,(GA a ha).2⟩
  refine kat_kind (T:=.type (if top then "int" else "str")) t1 (by lia) (fun v hv=>t3 v hv _) (by simp) ?_
  have:((Value.type (if top then "int" else "str")) != Value.type "tuple")=true:=by cases top <;> decide
  rw [this]
  exact q'
 ·unfold kas_ask
  have Jp:i < al.length:=by lia
  have KQ:j < al.length:=by lia
  rw [l9 rv Jp,l9 rv KQ]
  have mi:al.getD i (0,[])∈al:=by rw [bA _ _ _ Jp];exact List.getElem_mem _
  have mj:al.getD j (0,[])∈al:=by rw [bA _ _ _ KQ];exact List.getElem_mem _
  obtain ⟨u1,o1,n1,r1,g1,_,d1⟩:=nM I (GA _ mi).1
  obtain ⟨u2,o2,n2,r2,g2,_,d2⟩:=nM I (GA _ mj).1
  have ek:kinds (al.getD i (0,[])).2=kinds (al.getD j (0,[])).2:=by rw [(GA _ mi).2,(GA _ mj).2]
  have el:u1.length=u2.length:=by
   have a1:=r1.length
   have a2:=r2.length
   have a3:=congrArg List.length ek
   simp only [kinds,List.length_map] at a1 a2 a3
   lia
  refine kat_lt (kk _ _ g1) d1 (kk _ _ g2) d2 ?_
  have ef:decide (u1.toArray.size < u2.toArray.size)=false:=by simp [el]
  rw [ef]
  exact kh _ _ _ _ 0 r1 r2 ek q'
 ·rw [hl] at FL hs
  have KS:POk (al.map fun a=>V.ref a.1).length pp:=by rw [List.length_map];exact FL
  have eo:qU pp (al.map fun a=>V.ref a.1)=(pp.toList.map fun i=>al.getD i (0,[])).map fun a=>V.ref a.1:=by
   unfold qU
   rw [List.map_map]
   refine List.map_congr_left fun i hi=>?_
   have hi:=List.mem_range.mp (FL.perm.mem_iff.mp hi)
   show (al.map fun a=>V.ref a.1).getD i .non=V.ref (al.getD i (0,[])).1
   rw [bA _ _ _ (by rw [List.length_map];exact hi),bA _ _ _ hi]
   simp
  have I5:Inv X pins σ H { s with heap:=h5,toks:=tk }:=I.kept k5
  have hn:H h5.objs.size=none:=I5.hok.fresh (Nat.le_refl _)
  refine ⟨.ref h5.objs.size,_,iL (s:={ s with heap:=h5,toks:=tk }) I5 k' (Nat.le_refl _) he (jY rv KS) ?_,rfl,?_⟩
  ·show (qU pp (al.map fun a=>V.ref a.1)).length≤sizeLine
   rw [eo,List.length_map,List.length_map,FL.perm.length_eq,List.length_range,sizeLine_eq]
   lia
  ·rw [eo]
   have pm:=jX (0,[]) FL
   refine q _ _ hn (fun a ha=>KW a (pm.mem_iff.mp ha)) ?_ ?_
   ·rw [←Nl]
    exact pm.map _
   ·exact gZ (O:=Bp) (0,[]) (fun a:Addr×List Key=>a.2) FL hs
end
end NX
namespace NX
open PySem PySem.Spec PyProof.Rows L2
section
open PySem.SeqAt
open PySem.AutoSeq1 (wpAny_loadPart')
open PySem.MeetsSeq PySem.MeetsSeq2 PySem.MeetsSeq3
theorem vq {A:Around} {s:Shared} {a c:Key} {u v:Value} (ra:RelV (kV a) u) (rc:RelV (kV c) v):EqAt A s u v (decide (a=c)):=by
 have h:=wa (A:=A) (s:=s) ra rc (jZ a) (jZ c)
 rw [sJ] at h
 exact h
theorem vy {prog:Program} {w:World} {A:Around} {E:Value→Shared→Prop} {s:Shared} {Q:Value→Shared→Prop} {a c:Key} {u v:Value} (ra:RelV (kV a) u) (rc:RelV (kV c) v) (hk:a.isLeft=c.isLeft) (h:Q (.bool (pZ.blt a c)) s) :
  wpAny (model prog w) A (richCompare .Lt u v) Q E s:=by
 cases a with
 | inl i=>
  cases c with
  | inr _=>cases hk
  | inl j=>
   obtain ⟨t,rfl⟩:=ra
   obtain ⟨t',rfl⟩:=rc
   exact (PyProof.Rows.lt_int h:wpAny (model prog w) A (compareOp .Lt (.int i t) (.int j t')) Q E s)
 | inr x=>
  cases c with
  | inl _=>cases hk
  | inr y=>
   obtain ⟨t,rfl⟩:=ra
   obtain ⟨t',rfl⟩:=rc
   exact (PyProof.Rows.lt_str h:wpAny (model prog w) A (compareOp .Lt (.str x t) (.str y t')) Q E s)
theorem sQ (a c:Key) (r t:List Key):eO (a :: r) (c :: t)=if a=c then eO r t else pZ.blt a c:=rfl
theorem mf (l b:Addr) (items F6:Array Value) (n n2:Nat) (dd Jm:Option Addr) (sl Jn:Array (Option Value)) (ks js:List Key) (hi:Vals (ks.map kV) items.toList) (hj:Vals (js.map kV) F6.toList) (hk:kinds ks=kinds js) :
  Meets (Builtin.«tuple.__lt__» ⟨[.ref l,.ref b],[]⟩)
   (fun _ R s=>s.heap.get? l=some { cls:=.type "tuple",dict:=dd,data:=.seq items n,slots:=sl }∧s.heap.get? b=some { cls:=.type "tuple",dict:=Jm,data:=.seq F6 n2,slots:=Jn }∧R (.ok (.ret (.bool (eO ks js)))) s):=
 .of_wp fun prog w A R s h=>by
  obtain ⟨hp,g,d,tk,os⟩:=s;obtain ⟨hl,hb,h⟩:=h
  have f2:=AutoSeq1.sub_tuple_tuple
  have z1:items.size=ks.length:=by have:=hi.length;simp at this;lia
  have z2:F6.size=js.length:=by have:=hj.length;simp at this;lia
  have z3:ks.length=js.length:=by have:=congrArg List.length hk;simpa [kinds] using this
  wp_walk using wpAny_loadPart' hl,wpAny_loadPart' hb,wpAny_forIn_list _ (fun eL b s'=>b.1=none∧s'=⟨hp,g,d,tk,os⟩∧∃ (vs ws:List Value) (Hi HX:List Key),eL=vs.zip ws∧
   Vals (Hi.map kV) vs∧Vals (HX.map kV) ws∧kinds Hi=kinds HX∧R (.ok (.ret (.bool (eO Hi HX)))) ⟨hp,g,d,tk,os⟩) _
  case turn=>
   rintro ⟨y,x⟩ eL b s' ⟨N5,rfl,vs,ws,Hi,HX,hz,Nm,N6,Kn,hR⟩
   cases Hi with
   | nil=>
    cases Nm
    rw [List.zip_nil_left] at hz;cases hz
   | cons a Hi=>
    cases HX with
    | nil=>cases Kn
    | cons c HX=>
     cases Nm with
     | @cons _ va _ L7 ra hvi'=>
      cases N6 with
      | @cons _ vc _ L8 rc hwi'=>
       rw [List.zip_cons_cons] at hz
       injection hz with hyx hrest
       injection hyx with hy hx
       subst hy hx
       have hk1:a.isLeft=c.isLeft:=(List.cons.inj Kn).1
       have Nn:kinds Hi=kinds HX:=(List.cons.inj Kn).2
       rw [sQ] at hR
       have he:=vq (A:=A.in1) (s:=⟨hp,g,d,tk,os⟩) ra rc
       refine wpAny_bind (he prog w _ _ ?_)
       by_cases hac:a=c
       ·rw [if_pos hac] at hR
        rw [decide_eq_true hac]
        wp_walk
        exact ⟨rfl,rfl,_,_,_,_,hrest,hvi',hwi',Nn,hR⟩
       ·rw [if_neg hac] at hR
        rw [decide_eq_false hac]
        have hri:=fun E Q=>vy (prog:=prog) (w:=w) (A:=A.in1) (E:=E) (s:=⟨hp,g,d,tk,os⟩) (Q:=Q) ra rc hk1
        wp_walk using hri
        exact ⟨_,rfl,by simpa using hR⟩
  case fin=>
   rintro ⟨b1,b2⟩ s' ⟨N5,rfl,vs,ws,Hi,HX,hz,Nm,N6,Kn,hR⟩
   simp only at N5
   subst N5
   have hv:eO Hi HX=decide (items.size < F6.size):=by
    cases Hi with
    | nil=>
     cases HX with
     | nil=>exact (decide_eq_false (by lia)).symm
     | cons c HX=>cases Kn
    | cons a Hi=>
     cases HX with
     | nil=>cases Kn
     | cons c HX=>
      cases Nm
      cases N6
      rw [List.zip_cons_cons] at hz
      cases hz
   rw [hv] at hR
   wp_walk
   exact ⟨_,rfl,by simpa [Builtin.Tuple.tupleCompareSizes] using hR⟩
  case h=>
   exact ⟨rfl,rfl,items.toList,F6.toList,ks,js,rfl,hi,hj,hk,h⟩
end
section
variable {X:Cx}
noncomputable def Dy (K:W.Frag) (neg:Bool):R2:=fun x y H Q=>∃ a b ks js,x=.ref a∧y=.ref b∧SqT K H a (ks.map kV)∧SqT K H b (js.map kV)∧kinds ks=kinds js∧Q (.bl (if neg then !eO ks js else eO ks js)) H
theorem zP (hu:X.A.units < cLine):EE X (compareOp .Lt) (Dy X.K false):=by
 intro pins s σ H x y v u Q I rx ry h
 obtain ⟨a,b,ks,js,rfl,rfl,ha,hb,hk,q⟩:=h
 cases rx
 cases ry
 obtain ⟨DS,r1,p1,_⟩:=I.tuple ha
 obtain ⟨HS,r2,p2,_⟩:=I.tuple hb
 obtain ⟨⟨cls,dd,data,sl⟩,ho,hc,n,hd⟩:=id p1
 obtain ⟨⟨KD,Jm,data2,Jn⟩,FA,GQ,n2,hd2⟩:=id p2
 simp only at hc hd GQ hd2
 subst hc hd GQ hd2
 exact richCompare_meets_room (op:=.Lt) ⟨_,ho,rfl⟩ ⟨_,FA,rfl⟩ PySem.F.slot_tuple_lt PySem.F.entry_tuple_lt (PySem.F.args_tuple_lt_2 _ _) (mf a b _ _ n n2 dd Jm sl Jn ks js (by simpa using r1) (by simpa using r2) hk)
  ⟨ho,FA,show Value.bool (eO ks js)≠Value.notImplemented∧EP X pins σ Q (.bool (eO ks js)) s from ⟨(fun x=>nomatch x),⟨.bl (eO ks js),H,I,rfl,q⟩⟩⟩ hu
end
end NX
namespace PV
open PySem L2 NX
inductive D where
 | non | bl (b:Bool) | int (i:Int) | str (l:List Nat) | tup (ds:List D) | lst (ds:List D) | dct (tk:Bool) (ks vs:List D)
inductive O where
 | f | l (c:O) | t (cs:List O) | d | pin (p:Addr) (c:O)
abbrev R:=O×D
abbrev Env:=List (Option R)
inductive Res (α:Type) where
 | ok (a:α) | exc (c:List Nat) | bad
noncomputable def kD:Key→D
 | .inl i=>.int i
 | .inr x=>.str x.cps.toList
noncomputable def isM:HO→Bool
 | .lst _=>true
 | .dK _=>true
 | .dT _=>true
 | _=>false
noncomputable def isT:HO→Bool
 | .tup _=>true
 | .frz _ (.tup _)=>true
 | _=>false
noncomputable def wt:Key→Prop
 | .inl _=>True
 | .inr x=>x.cps.toList.length≤sizeLine
def DictO (o:HO) (tk:Bool) (ks:List D) (xs:List V):Prop:=match tk with
 | true=>∃ DT:List (List Key×V),o=.dT DT∧ks=DT.map (fun kv=>D.tup (kv.1.map kD))∧xs=DT.map (·.2)∧∀ kv∈DT,∀ k∈kv.1,wt k
 | false=>∃ DT:List (Key×V),o=.dK DT∧ks=DT.map (fun kv=>kD kv.1)∧xs=DT.map (·.2)∧∀ kv∈DT,wt kv.1
mutual
noncomputable def Rep (K:W.Frag) (G:Hp):D→V→Prop
 | .non,v=>v=.non
 | .bl b,v=>v=.bl b
 | .int i,v=>v=.int i
 | .str l,v=>v=.str (S l)∧l.length≤sizeLine
 | .tup ds,v=>∃ p xs,v=.ref p∧G p=some (.tup xs)∧Reps K G ds xs
 | .lst ds,v=>∃ p xs,v=.ref p∧SqL K G p xs∧Reps K G ds xs
 | .dct tk ks vs,v=>∃ p xs o,v=.ref p∧Rd G p o∧DictO o tk ks xs∧Reps K G vs xs
noncomputable def Reps (K:W.Frag) (G:Hp):List D→List V→Prop
 | [],xs=>xs=[]
 | d :: ds,xs=>∃ y ys,xs=y :: ys∧Rep K G d y∧Reps K G ds ys
end
noncomputable def AllO (P:D→V→List Addr→Prop):List D→List V→List Addr→Prop
 | [],xs,fp=>xs=[]∧fp=[]
 | d :: ds,xs,fp=>∃ y ys a b,xs=y :: ys∧fp=a++b∧P d y a∧AllO P ds ys b
mutual
noncomputable def RepO (K:W.Frag) (G H:Hp):O→D→V→List Addr→Prop
 | .f,d,v,fp=>Rep K G d v∧fp=[]
 | .l c,.lst ds,v,fp=>∃ p xs D0,v=.ref p∧H p=some (.lst xs)∧fp=p :: D0∧AllO (RepO K G H c) ds xs D0
 | .t cs,.tup ds,v,fp=>∃ p xs,v=.ref p∧G p=some (.tup xs)∧RepT K G H cs ds xs fp
 | .d,.dct tk ks vs,v,fp=>∃ p xs o,v=.ref p∧H p=some o∧DictO o tk ks xs∧fp=[p]∧Reps K G vs xs
 | .pin p c,d,v,fp=>v=.ref p∧RepO K G H c d v fp
 | _,_,_,_=>False
noncomputable def RepT (K:W.Frag) (G H:Hp):List O→List D→List V→List Addr→Prop
 | [],[],xs,fp=>xs=[]∧fp=[]
 | c :: cs,d :: ds,xs,fp=>∃ y ys a b,xs=y :: ys∧fp=a++b∧RepO K G H c d y a∧RepT K G H cs ds ys b
 | _,_,_,_=>False
end
section
variable {K:W.Frag} {G G' H H':Hp}
theorem Rd.mono {p:Addr} {u:HO} (h:Same G G') (r:Rd G p u):Rd G' p u:=by
 rcases r with r | ⟨o,r⟩
 ·exact .inl (h _ _ r)
 ·exact .inr ⟨o,h _ _ r⟩
theorem g0 {p:Addr} {xs:List V} (h:Same G G') (r:SqL K G p xs):SqL K G' p xs:=r.elim (fun r=>.inl (Rd.mono h r)) .inr
theorem bP {p:Addr} {xs:List V} (h:Same G G') (r:SqT K G p xs):SqT K G' p xs:=r.elim (fun r=>.inl (Rd.mono h r)) .inr
mutual
theorem Rep.mono (h:Same G G'):∀ {d:D} {v:V},Rep K G d v→Rep K G' d v
 | .non,_,r=>by simpa only [Rep] using r
 | .bl _,_,r=>by simpa only [Rep] using r
 | .int _,_,r=>by simpa only [Rep] using r
 | .str _,_,r=>by simpa only [Rep] using r
 | .tup ds,_,r=>by
  simp only [Rep] at r ⊢
  obtain ⟨p,xs,e,q,rs⟩:=r
  exact ⟨p,xs,e,h _ _ q,Reps.mono h rs⟩
 | .lst ds,_,r=>by
  simp only [Rep] at r ⊢
  obtain ⟨p,xs,e,q,rs⟩:=r
  exact ⟨p,xs,e,g0 h q,Reps.mono h rs⟩
 | .dct tk ks vs,_,r=>by
  simp only [Rep] at r ⊢
  obtain ⟨p,xs,o,e,q,dd,rs⟩:=r
  exact ⟨p,xs,o,e,Rd.mono h q,dd,Reps.mono h rs⟩
theorem Reps.mono (h:Same G G'):∀ {ds:List D} {xs:List V},Reps K G ds xs→Reps K G' ds xs
 | [],_,r=>by simpa only [Reps] using r
 | d :: ds,_,r=>by
  simp only [Reps] at r ⊢
  obtain ⟨y,ys,e,r1,r2⟩:=r
  exact ⟨y,ys,e,Rep.mono h r1,Reps.mono h r2⟩
end
theorem AllO.imp {P P':D→V→List Addr→Prop}:∀ {ds:List D} {xs:List V} {fp:List Addr},(∀ d v a,(∀ p∈a,p∈fp)→P d v a→P' d v a)→AllO P ds xs fp→AllO P' ds xs fp
 | [],_,_,_,r=>r
 | d :: ds,xs,fp,h,r=>by
  obtain ⟨y,ys,a,b,e1,e2,p,q⟩:=r
  subst e2
  exact ⟨y,ys,a,b,e1,rfl,h _ _ _ (fun p hp=>List.mem_append_left _ hp) p,AllO.imp (fun d v c hc=>h d v c fun p hp=>List.mem_append_right _ (hc p hp)) q⟩
mutual
theorem RepO.step (h:Same G G'):∀ {o:O} {d:D} {v:V} {fp:List Addr},(∀ p∈fp,H' p=H p)→RepO K G H o d v fp→RepO K G' H' o d v fp
 | .f,d,v,fp,hk,r=>by
  simp only [RepO] at r ⊢
  exact ⟨Rep.mono h r.1,r.2⟩
 | .pin p c,d,v,fp,hk,r=>by
  simp only [RepO] at r ⊢
  exact ⟨r.1,RepO.step h hk r.2⟩
 | .l c,.lst ds,v,fp,hk,r=>by
  simp only [RepO] at r ⊢
  obtain ⟨p,xs,D0,e,q,e2,a⟩:=r
  subst e2
  exact ⟨p,xs,D0,e,(hk p List.mem_cons_self).trans q,rfl,AllO.imp (fun d v c hc=>RepO.step h fun z hz=>hk z (List.mem_cons_of_mem _ (hc z hz))) a⟩
 | .t cs,.tup ds,v,fp,hk,r=>by
  simp only [RepO] at r ⊢
  obtain ⟨p,xs,e,q,a⟩:=r
  exact ⟨p,xs,e,h _ _ q,RepT.step h hk a⟩
 | .d,.dct tk ks vs,v,fp,hk,r=>by
  simp only [RepO] at r ⊢
  obtain ⟨p,xs,o,e,q,dd,e2,rs⟩:=r
  subst e2
  exact ⟨p,xs,o,e,(hk p List.mem_cons_self).trans q,dd,rfl,Reps.mono h rs⟩
 | .l _,.non,_,_,_,r | .l _,.bl _,_,_,_,r | .l _,.int _,_,_,_,r | .l _,.str _,_,_,_,r | .l _,.tup _,_,_,_,r | .l _,.dct _ _ _,_,_,_,r=>by simp only [RepO] at r
 | .t _,.non,_,_,_,r | .t _,.bl _,_,_,_,r | .t _,.int _,_,_,_,r | .t _,.str _,_,_,_,r | .t _,.lst _,_,_,_,r | .t _,.dct _ _ _,_,_,_,r=>by simp only [RepO] at r
 | .d,.non,_,_,_,r | .d,.bl _,_,_,_,r | .d,.int _,_,_,_,r | .d,.str _,_,_,_,r | .d,.tup _,_,_,_,r | .d,.lst _,_,_,_,r=>by simp only [RepO] at r
theorem RepT.step (h:Same G G'):∀ {cs:List O} {ds:List D} {xs:List V} {fp:List Addr},(∀ p∈fp,H' p=H p)→RepT K G H cs ds xs fp→RepT K G' H' cs ds xs fp
 | [],[],_,_,_,r=>by simpa only [RepT] using r
 | c :: cs,d :: ds,xs,fp,hk,r=>by
  simp only [RepT] at r ⊢
  obtain ⟨y,ys,a,b,e1,e2,r1,r2⟩:=r
  subst e2
  exact ⟨y,ys,a,b,e1,rfl,RepO.step h (fun p hp=>hk p (List.mem_append_left _ hp)) r1,RepT.step h (fun p hp=>hk p (List.mem_append_right _ hp)) r2⟩
 | [],_ :: _,_,_,_,r=>by simp only [RepT] at r
 | _ :: _,[],_,_,_,r=>by simp only [RepT] at r
end
theorem AllO.frozen {P:D→V→List Addr→Prop}:∀ {ds:List D} {xs:List V} {fp:List Addr},(∀ d v a,(∀ p∈a,p∈fp)→P d v a→Rep K G' d v)→AllO P ds xs fp→Reps K G' ds xs
 | [],_,_,_,r=>by simp only [Reps];exact r.1
 | d :: ds,xs,fp,h,r=>by
  obtain ⟨y,ys,a,b,e1,e2,p,q⟩:=r
  subst e2
  simp only [Reps]
  exact ⟨y,ys,e1,h _ _ _ (fun p hp=>List.mem_append_left _ hp) p,AllO.frozen (fun d v c hc=>h d v c fun p hp=>List.mem_append_right _ (hc p hp)) q⟩
mutual
theorem RepO.frozen (h:Same G G'):∀ {o:O} {d:D} {v:V} {fp:List Addr},(∀ p∈fp,∀ u,H p=some u→G' p=some u)→RepO K G H o d v fp→Rep K G' d v
 | .f,d,v,fp,hk,r=>by
  simp only [RepO] at r
  exact Rep.mono h r.1
 | .pin p c,d,v,fp,hk,r=>by
  simp only [RepO] at r
  exact RepO.frozen h hk r.2
 | .l c,.lst ds,v,fp,hk,r=>by
  simp only [RepO] at r
  simp only [Rep]
  obtain ⟨p,xs,D0,e,q,e2,a⟩:=r
  subst e2
  exact ⟨p,xs,e,SqL.of (hk p List.mem_cons_self _ q),AllO.frozen (fun d v c hc=>RepO.frozen h fun z hz=>hk z (List.mem_cons_of_mem _ (hc z hz))) a⟩
 | .t cs,.tup ds,v,fp,hk,r=>by
  simp only [RepO] at r
  simp only [Rep]
  obtain ⟨p,xs,e,q,a⟩:=r
  exact ⟨p,xs,e,h _ _ q,RepT.frozen h hk a⟩
 | .d,.dct tk ks vs,v,fp,hk,r=>by
  simp only [RepO] at r
  simp only [Rep]
  obtain ⟨p,xs,o,e,q,dd,e2,rs⟩:=r
  subst e2
  exact ⟨p,xs,o,e,.inl (hk p List.mem_cons_self _ q),dd,Reps.mono h rs⟩
 | .l _,.non,_,_,_,r | .l _,.bl _,_,_,_,r | .l _,.int _,_,_,_,r | .l _,.str _,_,_,_,r | .l _,.tup _,_,_,_,r | .l _,.dct _ _ _,_,_,_,r=>by simp only [RepO] at r
 | .t _,.non,_,_,_,r | .t _,.bl _,_,_,_,r | .t _,.int _,_,_,_,r | .t _,.str _,_,_,_,r | .t _,.lst _,_,_,_,r | .t _,.dct _ _ _,_,_,_,r=>by simp only [RepO] at r
 | .d,.non,_,_,_,r | .d,.bl _,_,_,_,r | .d,.int _,_,_,_,r | .d,.str _,_,_,_,r | .d,.tup _,_,_,_,r | .d,.lst _,_,_,_,r=>by simp only [RepO] at r
theorem RepT.frozen (h:Same G G'):∀ {cs:List O} {ds:List D} {xs:List V} {fp:List Addr},(∀ p∈fp,∀ u,H p=some u→G' p=some u)→RepT K G H cs ds xs fp→Reps K G' ds xs
 | [],[],_,_,_,r=>by simp only [RepT] at r;simp only [Reps];exact r.1
 | c :: cs,d :: ds,xs,fp,hk,r=>by
  simp only [RepT] at r
  simp only [Reps]
  obtain ⟨y,ys,a,b,e1,e2,r1,r2⟩:=r
  subst e2
  exact ⟨y,ys,e1,RepO.frozen h (fun p hp=>hk p (List.mem_append_left _ hp)) r1,RepT.frozen h (fun p hp=>hk p (List.mem_append_right _ hp)) r2⟩
 | [],_ :: _,_,_,_,r=>by simp only [RepT] at r
 | _ :: _,[],_,_,_,r=>by simp only [RepT] at r
end
theorem AllO.live {P:D→V→List Addr→Prop}:∀ {ds:List D} {xs:List V} {fp:List Addr},(∀ d v a,P d v a→∀ p∈a,∃ u,H p=some u)→AllO P ds xs fp→∀ p∈fp,∃ u,H p=some u
 | [],_,_,_,r=>by rw [r.2];intro p hp;cases hp
 | d :: ds,xs,fp,h,r=>by
  obtain ⟨y,ys,a,b,e1,e2,p,q⟩:=r
  subst e2
  intro z hz
  rcases List.mem_append.mp hz with hz | hz
  ·exact h _ _ _ p z hz
  ·exact AllO.live h q z hz
mutual
theorem RepO.live:∀ {o:O} {d:D} {v:V} {fp:List Addr},RepO K G H o d v fp→∀ p∈fp,∃ u,H p=some u
 | .f,d,v,fp,r=>by
  simp only [RepO] at r
  rw [r.2]
  intro p hp
  cases hp
 | .pin p c,d,v,fp,r=>by
  simp only [RepO] at r
  exact RepO.live r.2
 | .l c,.lst ds,v,fp,r=>by
  simp only [RepO] at r
  obtain ⟨p,xs,D0,e,q,e2,a⟩:=r
  subst e2
  intro z hz
  rcases List.mem_cons.mp hz with rfl | hz
  ·exact ⟨_,q⟩
  ·exact AllO.live (fun d v a=>RepO.live) a z hz
 | .t cs,.tup ds,v,fp,r=>by
  simp only [RepO] at r
  obtain ⟨p,xs,e,q,a⟩:=r
  exact RepT.live a
 | .d,.dct tk ks vs,v,fp,r=>by
  simp only [RepO] at r
  obtain ⟨p,xs,o,e,q,dd,e2,rs⟩:=r
  subst e2
  intro z hz
  rw [List.mem_singleton] at hz
  exact ⟨_,hz▸q⟩
 | .l _,.non,_,_,r | .l _,.bl _,_,_,r | .l _,.int _,_,_,r | .l _,.str _,_,_,r | .l _,.tup _,_,_,r | .l _,.dct _ _ _,_,_,r=>by simp only [RepO] at r
 | .t _,.non,_,_,r | .t _,.bl _,_,_,r | .t _,.int _,_,_,r | .t _,.str _,_,_,r | .t _,.lst _,_,_,r | .t _,.dct _ _ _,_,_,r=>by simp only [RepO] at r
 | .d,.non,_,_,r | .d,.bl _,_,_,r | .d,.int _,_,_,r | .d,.str _,_,_,r | .d,.tup _,_,_,r | .d,.lst _,_,_,r=>by simp only [RepO] at r
theorem RepT.live:∀ {cs:List O} {ds:List D} {xs:List V} {fp:List Addr},RepT K G H cs ds xs fp→∀ p∈fp,∃ u,H p=some u
 | [],[],_,_,r=>by
  simp only [RepT] at r
  rw [r.2]
  intro p hp
  cases hp
 | c :: cs,d :: ds,xs,fp,r=>by
  simp only [RepT] at r
  obtain ⟨y,ys,a,b,e1,e2,r1,r2⟩:=r
  subst e2
  intro z hz
  rcases List.mem_append.mp hz with hz | hz
  ·exact RepO.live r1 z hz
  ·exact RepT.live r2 z hz
 | [],_ :: _,_,_,r=>by simp only [RepT] at r
 | _ :: _,[],_,_,r=>by simp only [RepT] at r
end
theorem DictO.isM {o:HO} {tk:Bool} {ks:List D} {xs:List V} (h:DictO o tk ks xs):PV.isM o=true:=by
 cases tk with
 | true=>
  obtain ⟨DT,e,_⟩:=h
  rw [e];rfl
 | false=>
  obtain ⟨DT,e,_⟩:=h
  rw [e];rfl
theorem AllO.mut {P:D→V→List Addr→Prop}:∀ {ds:List D} {xs:List V} {fp:List Addr},(∀ d v a,P d v a→∀ p∈a,∃ u,H p=some u∧isM u=true)→AllO P ds xs fp→∀ p∈fp,∃ u,H p=some u∧isM u=true
 | [],_,_,_,r=>by rw [r.2];intro p hp;cases hp
 | d :: ds,xs,fp,h,r=>by
  obtain ⟨y,ys,a,b,e1,e2,p,q⟩:=r
  subst e2
  intro z hz
  rcases List.mem_append.mp hz with hz | hz
  ·exact h _ _ _ p z hz
  ·exact AllO.mut h q z hz
mutual
theorem RepO.mut:∀ {o:O} {d:D} {v:V} {fp:List Addr},RepO K G H o d v fp→∀ p∈fp,∃ u,H p=some u∧isM u=true
 | .f,d,v,fp,r=>by
  simp only [RepO] at r
  rw [r.2]
  intro p hp
  cases hp
 | .pin p c,d,v,fp,r=>by
  simp only [RepO] at r
  exact RepO.mut r.2
 | .l c,.lst ds,v,fp,r=>by
  simp only [RepO] at r
  obtain ⟨p,xs,D0,e,q,e2,a⟩:=r
  subst e2
  intro z hz
  rcases List.mem_cons.mp hz with rfl | hz
  ·exact ⟨_,q,rfl⟩
  ·exact AllO.mut (fun d v a=>RepO.mut) a z hz
 | .t cs,.tup ds,v,fp,r=>by
  simp only [RepO] at r
  obtain ⟨p,xs,e,q,a⟩:=r
  exact RepT.mut a
 | .d,.dct tk ks vs,v,fp,r=>by
  simp only [RepO] at r
  obtain ⟨p,xs,o,e,q,dd,e2,rs⟩:=r
  subst e2
  intro z hz
  rw [List.mem_singleton] at hz
  exact ⟨_,hz▸q,dd.isM⟩
 | .l _,.non,_,_,r | .l _,.bl _,_,_,r | .l _,.int _,_,_,r | .l _,.str _,_,_,r | .l _,.tup _,_,_,r | .l _,.dct _ _ _,_,_,r=>by simp only [RepO] at r
 | .t _,.non,_,_,r | .t _,.bl _,_,_,r | .t _,.int _,_,_,r | .t _,.str _,_,_,r | .t _,.lst _,_,_,r | .t _,.dct _ _ _,_,_,r=>by simp only [RepO] at r
 | .d,.non,_,_,r | .d,.bl _,_,_,r | .d,.int _,_,_,r | .d,.str _,_,_,r | .d,.tup _,_,_,r | .d,.lst _,_,_,r=>by simp only [RepO] at r
theorem RepT.mut:∀ {cs:List O} {ds:List D} {xs:List V} {fp:List Addr},RepT K G H cs ds xs fp→∀ p∈fp,∃ u,H p=some u∧isM u=true
 | [],[],_,_,r=>by
  simp only [RepT] at r
  rw [r.2]
  intro p hp
  cases hp
 | c :: cs,d :: ds,xs,fp,r=>by
  simp only [RepT] at r
  obtain ⟨y,ys,a,b,e1,e2,r1,r2⟩:=r
  subst e2
  intro z hz
  rcases List.mem_append.mp hz with hz | hz
  ·exact RepO.mut r1 z hz
  ·exact RepT.mut r2 z hz
 | [],_ :: _,_,_,r=>by simp only [RepT] at r
 | _ :: _,[],_,_,r=>by simp only [RepT] at r
end
noncomputable def RepE (K:W.Frag) (G H:Hp):Env→List (Option V)→List Addr→Prop
 | [],vs,fp=>vs=[]∧fp=[]
 | e :: es,vs,fp=>∃ y ys,vs=y :: ys∧match e with
  | none=>RepE K G H es ys fp
  | some r=>∃ v a b,y=some v∧fp=a++b∧RepO K G H r.1 r.2 v a∧RepE K G H es ys b
theorem RepE.step (h:Same G G'):∀ {es:Env} {vs:List (Option V)} {fp:List Addr},(∀ p∈fp,H' p=H p)→RepE K G H es vs fp→RepE K G' H' es vs fp
 | [],_,_,_,r=>r
 | none :: es,vs,fp,hk,r=>by
  obtain ⟨y,ys,e,r⟩:=r
  exact ⟨y,ys,e,RepE.step h hk r⟩
 | some r :: es,vs,fp,hk,q=>by
  obtain ⟨y,ys,e,v,a,b,e1,e2,r1,r2⟩:=q
  subst e2
  exact ⟨y,ys,e,v,a,b,e1,rfl,RepO.step h (fun p hp=>hk p (List.mem_append_left _ hp)) r1,RepE.step h (fun p hp=>hk p (List.mem_append_right _ hp)) r2⟩
theorem RepE.live:∀ {es:Env} {vs:List (Option V)} {fp:List Addr},RepE K G H es vs fp→∀ p∈fp,∃ u,H p=some u
 | [],_,_,r=>by
  rw [r.2]
  intro p hp
  cases hp
 | none :: es,vs,fp,r=>by
  obtain ⟨y,ys,e,r⟩:=r
  exact RepE.live r
 | some r :: es,vs,fp,q=>by
  obtain ⟨y,ys,e,v,a,b,e1,e2,r1,r2⟩:=q
  subst e2
  intro z hz
  rcases List.mem_append.mp hz with hz | hz
  ·exact r1.live z hz
  ·exact RepE.live r2 z hz
theorem RepE.mut:∀ {es:Env} {vs:List (Option V)} {fp:List Addr},RepE K G H es vs fp→∀ p∈fp,∃ u,H p=some u∧isM u=true
 | [],_,_,r=>by
  rw [r.2]
  intro p hp
  cases hp
 | none :: es,vs,fp,r=>by
  obtain ⟨y,ys,e,r⟩:=r
  exact RepE.mut r
 | some r :: es,vs,fp,q=>by
  obtain ⟨y,ys,e,v,a,b,e1,e2,r1,r2⟩:=q
  subst e2
  intro z hz
  rcases List.mem_append.mp hz with hz | hz
  ·exact r1.mut z hz
  ·exact RepE.mut r2 z hz
theorem RepE.length:∀ {es:Env} {vs:List (Option V)} {fp:List Addr},RepE K G H es vs fp→vs.length=es.length
 | [],_,_,r=>by rw [r.1];rfl
 | none :: es,vs,fp,r=>by
  obtain ⟨y,ys,e,r⟩:=r
  rw [e,List.length_cons,List.length_cons,RepE.length r]
 | some r :: es,vs,fp,q=>by
  obtain ⟨y,ys,e,v,a,b,e1,e2,r1,r2⟩:=q
  rw [e,List.length_cons,List.length_cons,RepE.length r2]
theorem RepE.take:∀ {es:Env} {vs:List (Option V)} {fp:List Addr} {i:Nat} {r:R},RepE K G H es vs fp→es[i]?=some (some r)→
  ∃ v a b,vs[i]?=some (some v)∧RepO K G H r.1 r.2 v a∧RepE K G H (es.set i none) vs b∧fp.Perm (a++b)
 | [],_,_,_,_,_,e=>by simp at e
 | none :: es,vs,fp,0,r,q,e=>by simp at e
 | some r' :: es,vs,fp,0,r,q,e=>by
  obtain ⟨y,ys,e0,v,a,b,e1,e2,r1,r2⟩:=q
  simp at e
  subst e
  subst e0
  subst e1
  exact ⟨v,a,b,rfl,r1,⟨some v,ys,rfl,r2⟩,by rw [e2]⟩
 | none :: es,vs,fp,i + 1,r,q,e=>by
  obtain ⟨y,ys,e0,q⟩:=q
  obtain ⟨v,a,b,g1,g2,g3,g4⟩:=RepE.take q (i:=i) (r:=r) (by simpa using e)
  subst e0
  exact ⟨v,a,b,by simpa using g1,g2,⟨y,ys,rfl,g3⟩,g4⟩
 | some r' :: es,vs,fp,i + 1,r,q,e=>by
  obtain ⟨y,ys,e0,v',a',b',e1,e2,r1,r2⟩:=q
  obtain ⟨v,a,b,g1,g2,g3,g4⟩:=RepE.take r2 (i:=i) (r:=r) (by simpa using e)
  subst e0
  refine ⟨v,a,a'++b,by simpa using g1,g2,⟨y,ys,rfl,v',a',b,e1,rfl,r1,g3⟩,?_⟩
  rw [e2]
  refine (List.Perm.append_left a' g4).trans ?_
  rw [←List.append_assoc,←List.append_assoc]
  exact List.Perm.append_right b List.perm_append_comm
theorem RepE.put:∀ {es:Env} {vs:List (Option V)} {b:List Addr} {i:Nat} {r:R} {v:V} {a:List Addr},RepE K G H es vs b→es[i]?=some none→RepO K G H r.1 r.2 v a→
  ∃ fp,RepE K G H (es.set i (some r)) (vs.set i (some v)) fp∧fp.Perm (a++b)
 | [],_,_,_,_,_,_,_,e,_=>by simp at e
 | none :: es,vs,b,0,r,v,a,q,e,ro=>by
  obtain ⟨y,ys,e0,q⟩:=q
  subst e0
  exact ⟨a++b,⟨some v,ys,rfl,v,a,b,rfl,rfl,ro,q⟩,.refl _⟩
 | some r' :: es,vs,b,0,r,v,a,q,e,ro=>by simp at e
 | none :: es,vs,b,i + 1,r,v,a,q,e,ro=>by
  obtain ⟨y,ys,e0,q⟩:=q
  obtain ⟨fp,g1,g2⟩:=RepE.put q (i:=i) (r:=r) (by simpa using e) ro
  subst e0
  exact ⟨fp,⟨y,_,rfl,g1⟩,g2⟩
 | some r' :: es,vs,b,i + 1,r,v,a,q,e,ro=>by
  obtain ⟨y,ys,e0,v',a',b',e1,e2,r1,r2⟩:=q
  obtain ⟨fp,g1,g2⟩:=RepE.put r2 (i:=i) (r:=r) (by simpa using e) ro
  subst e0
  refine ⟨a'++fp,⟨y,_,rfl,v',a',fp,e1,rfl,r1,g1⟩,?_⟩
  rw [e2]
  refine (List.Perm.append_left a' g2).trans ?_
  rw [←List.append_assoc,←List.append_assoc]
  exact List.Perm.append_right b' List.perm_append_comm
structure Rel (K:W.Frag) (G H:Hp) (es:Env) (vs:List (Option V)) (fp:List Addr):Prop where
 rep:RepE K G H es vs fp
 nd:fp.Nodup
 gn:∀ p∈fp,G p=none
 gh:Same G H
structure Step (G H:Hp) (fp:List Addr) (G' H':Hp) (D0:List Addr):Prop where
 gg:Same G G'
 keep:∀ q u,H q=some u→q∉fp→H' q=some u
 fpn:∀ q∈D0,q∈fp∨H q=none
 gnew:∀ q u,G' q=some u→G q=some u∨q∈fp∨H q=none∨isT u=true∧H q=some u
 there:∀ q u,H q=some u→∃ u',H' q=some u'
theorem Step.refl {fp:List Addr}:Step G H fp G H fp:=⟨.refl _,fun _ _ h _=>h,fun _ h=>.inl h,fun _ _ h=>.inl h,fun _ u h=>⟨u,h⟩⟩
theorem Step.trans {G1 H1 G2 H2:Hp} {fp Ef EC:List Addr} (a:Step G H fp G1 H1 Ef) (b:Step G1 H1 Ef G2 H2 EC):Step G H fp G2 H2 EC:=by
 refine ⟨a.gg.trans b.gg,fun q u h n=>?_,fun q hq=>?_,fun q u hq=>?_,fun q u h=>?_⟩
 ·refine b.keep q u (a.keep q u h n) fun hq=>?_
  rcases a.fpn q hq with z | z
  ·exact n z
  ·rw [z] at h;cases h
 ·rcases b.fpn q hq with z | z
  ·exact a.fpn q z
  ·cases e:H q with
   | none=>exact .inr rfl
   | some u=>
    obtain ⟨u',e'⟩:=a.there q u e
    rw [z] at e';cases e'
 ·rcases b.gnew q u hq with z | z | z | ⟨t,z⟩
  ·exact a.gnew q u z
  ·exact .inr ((a.fpn q z).imp_right .inl)
  ·cases e:H q with
   | none=>exact .inr (.inr (.inl rfl))
   | some u=>
    obtain ⟨u',e'⟩:=a.there q u e
    rw [z] at e';cases e'
  ·cases e:H q with
   | none=>exact .inr (.inr (.inl rfl))
   | some u2=>
    by_cases hf:q∈fp
    ·exact .inr (.inl hf)
    ·rw [a.keep q u2 e hf] at z
     cases z
     exact .inr (.inr (.inr ⟨t,rfl⟩))
 ·obtain ⟨u',h'⟩:=a.there q u h
  exact b.there q u' h'
theorem Step.wide {fp fq D0 ON:List Addr} (a:Step G H fp G' H' D0) (h:∀ q∈fp,q∈fq) (h':∀ q∈ON,q∈D0∨q∈fq):Step G H fq G' H' ON:=
 ⟨a.gg,fun q u e n=>a.keep q u e fun z=>n (h q z),fun q hq=>(h' q hq).elim (fun z=>(a.fpn q z).imp_left (h q)) .inl,fun q u e=>(a.gnew q u e).imp_right (Or.imp_left (h q)),a.there⟩
theorem Rel.perm {es:Env} {vs:List (Option V)} {fp fq:List Addr} (r:RepE K G H es vs fq) (nd:fp.Nodup) (gn:∀ p∈fp,G p=none) (gh:Same G H) (h:fp.Perm fq):Rel K G H es vs fq:=
 ⟨r,h.nodup_iff.mp nd,fun p hp=>gn p (h.mem_iff.mpr hp),gh⟩
theorem Rel.frame {r:R} {v:V} {es:Env} {vs:List (Option V)} {fp:List Addr} (q:Rel K G H (some r :: es) (some v :: vs) fp) :
  ∃ a b,fp=a++b∧RepO K G H r.1 r.2 v a∧Rel K G H es vs b∧∀ (G' H':Hp) (Kz:Env) (L7:List (Option V)) (b':List Addr),Step G H b G' H' b'→Rel K G' H' Kz L7 b'→
   Rel K G' H' (some r :: Kz) (some v :: L7) (a++b')∧Step G H (a++b) G' H' (a++b'):=by
 obtain ⟨y,ys,e,v',a,b,e1,e2,r1,r2⟩:=q.rep
 cases e
 cases e1
 subst e2
 have nd:=List.nodup_append.mp q.nd
 refine ⟨a,b,rfl,r1,⟨r2,nd.2.1,fun p hp=>q.gn p (List.mem_append_right _ hp),q.gh⟩,fun G' H' Kz L7 b' st k=>?_⟩
 have nb:∀ p∈a,p∉b:=fun p hp hb=>nd.2.2 p hp p hb rfl
 have same:∀ p∈a,H' p=H p:=fun p hp=>by
  obtain ⟨u,hu⟩:=r1.live p hp
  rw [hu]
  exact st.keep p u hu (nb p hp)
 refine ⟨⟨⟨some v,L7,rfl,v,a,b',rfl,rfl,r1.step st.gg same,k.rep⟩,?_,fun p hp=>?_,k.gh⟩,st.wide (fun p hp=>List.mem_append_right _ hp) fun p hp=>?_⟩
 ·rw [List.nodup_append]
  refine ⟨nd.1,k.nd,fun p hp z hz e=>?_⟩
  subst e
  obtain ⟨u,hu⟩:=r1.live p hp
  rcases st.fpn p hz with z | z
  ·exact nb p hp z
  ·rw [z] at hu;cases hu
 ·rcases List.mem_append.mp hp with hp | hp
  ·cases e:G' p with
   | none=>rfl
   | some u=>
    exfalso
    obtain ⟨u',hu⟩:=r1.live p hp
    rcases st.gnew p u e with z | z | z | ⟨t,z⟩
    ·rw [q.gn p (List.mem_append_left _ hp)] at z;cases z
    ·exact nb p hp z
    ·rw [z] at hu;cases hu
    ·obtain ⟨u2,h2,hm⟩:=r1.mut p hp
     rw [z] at h2
     cases h2
     cases u with
     | tup _=>cases hm
     | frz _ _=>cases hm
     | _=>cases t
  ·exact k.gn p hp
 ·rcases List.mem_append.mp hp with hp | hp
  ·exact .inr (List.mem_append_left _ hp)
  ·exact .inl hp
theorem Rel.freeze {r:R} {v:V} {es:Env} {vs:List (Option V)} {fp:List Addr} (q:Rel K G H (some r :: es) (some v :: vs) fp) :
  ∃ G' b,Rep K G' r.2 v∧Rel K G' H es vs b∧Step G H fp G' H b:=by
 obtain ⟨y,ys,e,v',a,b,e1,e2,r1,r2⟩:=q.rep
 cases e
 cases e1
 subst e2
 have nd:=List.nodup_append.mp q.nd
 have nb:∀ p∈a,p∉b:=fun p hp hb=>nd.2.2 p hp p hb rfl
 have hg:Same G (fun p=>if p∈a then H p else G p):=fun p u e=>by
  show (if p∈a then H p else G p)=some u
  by_cases hp:p∈a
  ·rw [if_pos hp]
   exact q.gh p u e
  ·rw [if_neg hp]
   exact e
 refine ⟨fun p=>if p∈a then H p else G p,b,r1.frozen hg fun p hp u e=>?_,⟨r2.step hg fun _ _=>rfl,nd.2.1,fun p hp=>?_,fun p u e=>?_⟩,⟨hg,fun _ _ e _=>e,fun p hp=>.inl (List.mem_append_right _ hp),fun p u e=>?_,fun _ u e=>⟨u,e⟩⟩⟩
 ·show (if p∈a then H p else G p)=some u
  rw [if_pos hp]
  exact e
 ·show (if p∈a then H p else G p)=none
  rw [if_neg (fun z=>nb p z hp)]
  exact q.gn p (List.mem_append_right _ hp)
 ·have e:(if p∈a then H p else G p)=some u:=e
  by_cases hp:p∈a
  ·rw [if_pos hp] at e
   exact e
  ·rw [if_neg hp] at e
   exact q.gh p u e
 ·have e:(if p∈a then H p else G p)=some u:=e
  by_cases hp:p∈a
  ·exact .inr (.inl (List.mem_append_left _ hp))
  ·rw [if_neg hp] at e
   exact .inl e
end
section
variable {K:W.Frag} {G G' H H':Hp} {es:Env} {vs:List (Option V)} {fp:List Addr}
theorem p5:∀ {ds:List D} {xs:List V} {fp:List Addr},AllO (RepO K G H .f) ds xs fp↔Reps K G ds xs∧fp=[]
 | [],xs,fp=>by simp only [AllO,Reps]
 | d :: ds,xs,fp=>by
  simp only [AllO,Reps,RepO]
  constructor
  ·rintro ⟨y,ys,a,b,e1,e2,⟨r,e3⟩,q⟩
   obtain ⟨q1,q2⟩:=p5.mp q
   subst e3
   subst q2
   exact ⟨⟨y,ys,e1,r,q1⟩,e2⟩
  ·rintro ⟨⟨y,ys,e1,r,q1⟩,e⟩
   exact ⟨y,ys,[],[],e1,e,⟨r,rfl⟩,p5.mpr ⟨q1,rfl⟩⟩
theorem jz {d:D} {v:V} {a:List Addr}:RepO K G H .f d v a↔Rep K G d v∧a=[]:=by simp only [RepO]
theorem mh {ds:List D} {v:V} {a:List Addr}:RepO K G H (.l .f) (.lst ds) v a↔∃ p xs,v=.ref p∧H p=some (.lst xs)∧a=[p]∧Reps K G ds xs:=by
 rw [RepO]
 constructor
 ·rintro ⟨p,xs,b,e,q,e2,r⟩
  obtain ⟨r',eb⟩:=p5.mp r
  subst eb
  exact ⟨p,xs,e,q,e2,r'⟩
 ·rintro ⟨p,xs,e,q,e2,r⟩
  exact ⟨p,xs,[],e,q,e2,p5.mpr ⟨r,rfl⟩⟩
theorem Reps.length:∀ {ds:List D} {xs:List V},Reps K G ds xs→xs.length=ds.length
 | [],xs,r=>by simp only [Reps] at r;rw [r];rfl
 | d :: ds,xs,r=>by
  simp only [Reps] at r
  obtain ⟨y,ys,e,_,q⟩:=r
  rw [e,List.length_cons,List.length_cons,Reps.length q]
theorem Reps.get:∀ {ds:List D} {xs:List V} {i:Nat} {d:D},Reps K G ds xs→ds[i]?=some d→∃ v,xs[i]?=some v∧Rep K G d v
 | [],_,_,_,_,e=>by simp at e
 | d' :: ds,xs,0,d,r,e=>by
  simp only [Reps] at r
  obtain ⟨y,ys,e1,q,_⟩:=r
  simp at e
  subst e
  exact ⟨y,by rw [e1];rfl,q⟩
 | d' :: ds,xs,i + 1,d,r,e=>by
  simp only [Reps] at r
  obtain ⟨y,ys,e1,_,q⟩:=r
  obtain ⟨v,a,b⟩:=Reps.get q (i:=i) (d:=d) (by simpa using e)
  exact ⟨v,by rw [e1];simpa using a,b⟩
theorem Reps.app:∀ {ds es:List D} {xs ys:List V},Reps K G ds xs→Reps K G es ys→Reps K G (ds++es) (xs++ys)
 | [],_,_,_,r,q=>by simp only [Reps] at r;rw [r];exact q
 | d :: ds,es,xs,ys,r,q=>by
  simp only [Reps] at r
  obtain ⟨z,zs,e,r1,r2⟩:=r
  rw [e]
  simp only [List.cons_append,Reps]
  exact ⟨z,_,rfl,r1,r2.app q⟩
theorem Reps.one {d:D} {v:V} (r:Rep K G d v):Reps K G [d] [v]:=by
 simp only [Reps]
 exact ⟨v,[],rfl,r,rfl⟩
theorem Reps.nil:Reps K G [] []:=by simp only [Reps]
theorem Reps.cons {d:D} {v:V} {ds:List D} {xs:List V} (r:Rep K G d v) (q:Reps K G ds xs):Reps K G (d :: ds) (v :: xs):=by
 simp only [Reps]
 exact ⟨v,xs,rfl,r,q⟩
theorem Reps.cons_iff {d:D} {v:V} {ds:List D} {xs:List V}:Reps K G (d :: ds) (v :: xs)↔Rep K G d v∧Reps K G ds xs:=by
 simp only [Reps]
 constructor
 ·rintro ⟨y,ys,e,r,q⟩
  cases e
  exact ⟨r,q⟩
 ·rintro ⟨r,q⟩
  exact ⟨v,xs,rfl,r,q⟩
theorem Reps.take:∀ {ds:List D} {xs:List V} (n:Nat),Reps K G ds xs→Reps K G (ds.take n) (xs.take n)
 | _,_,0,_=>by rw [List.take_zero,List.take_zero];exact Reps.nil
 | [],xs,n + 1,r=>by simp only [Reps] at r;rw [r];exact Reps.nil
 | d :: ds,xs,n + 1,r=>by
  simp only [Reps] at r
  obtain ⟨y,ys,e,r1,r2⟩:=r
  rw [e,List.take_succ_cons,List.take_succ_cons]
  exact .cons r1 (r2.take n)
theorem Reps.drop:∀ {ds:List D} {xs:List V} (n:Nat),Reps K G ds xs→Reps K G (ds.drop n) (xs.drop n)
 | _,_,0,r=>r
 | [],xs,n + 1,r=>by simp only [Reps] at r;rw [r];exact Reps.nil
 | d :: ds,xs,n + 1,r=>by
  simp only [Reps] at r
  obtain ⟨y,ys,e,r1,r2⟩:=r
  rw [e,List.drop_succ_cons,List.drop_succ_cons]
  exact r2.drop n
theorem Reps.set:∀ {ds:List D} {xs:List V} (n:Nat) {d:D} {v:V},Reps K G ds xs→Rep K G d v→Reps K G (ds.set n d) (xs.set n v)
 | [],xs,n,d,v,r,q=>by simp only [Reps] at r;rw [r];exact Reps.nil
 | d' :: ds,xs,0,d,v,r,q=>by
  simp only [Reps] at r
  obtain ⟨y,ys,e,r1,r2⟩:=r
  rw [e]
  exact .cons q r2
 | d' :: ds,xs,n + 1,d,v,r,q=>by
  simp only [Reps] at r
  obtain ⟨y,ys,e,r1,r2⟩:=r
  rw [e]
  exact .cons r1 (r2.set n q)
theorem Step.cut {fq:List Addr} (h:∀ q∈fq,q∈fp):Step G H fp G H fq:=⟨.refl _,fun _ _ e _=>e,fun q hq=>.inl (h q hq),fun _ _ e=>.inl e,fun _ u e=>⟨u,e⟩⟩
theorem Rel.drop {r:R} {y:Option V} (q:Rel K G H (some r :: es) (y :: vs) fp):∃ b,Rel K G H es vs b∧Step G H fp G H b:=by
 obtain ⟨y,ys,e,v',a,b,e1,e2,r1,r2⟩:=q.rep
 cases e
 cases e1
 subst e2
 have nd:=List.nodup_append.mp q.nd
 exact ⟨b,⟨r2,nd.2.1,fun p hp=>q.gn p (List.mem_append_right _ hp),q.gh⟩,Step.cut fun p hp=>List.mem_append_right _ hp⟩
theorem Rel.top {r:R} {v:V} (q:Rel K G H (some r :: es) (some v :: vs) fp):Rep K H r.2 v:=by
 obtain ⟨y,ys,e,v',a,b,e1,e2,r1,r2⟩:=q.rep
 cases e
 cases e1
 exact r1.frozen q.gh fun p hp u e=>e
theorem Rel.out {i:Nat} {r:R} (q:Rel K G H es vs fp) (e:es[i]?=some (some r)):∃ v fq,vs[i]?=some (some v)∧Rel K G H (some r :: es.set i none) (some v :: vs) fq∧Step G H fp G H fq∧Step G H fq G H fp:=by
 obtain ⟨v,a,b,e1,r1,r2,pm⟩:=q.rep.take e
 exact ⟨v,a++b,e1,Rel.perm ⟨some v,vs,rfl,v,a,b,rfl,rfl,r1,r2⟩ q.nd q.gn q.gh pm,Step.cut fun p hp=>pm.mem_iff.mpr hp,Step.cut fun p hp=>pm.mem_iff.mp hp⟩
theorem Rel.view {i:Nat} {r:R} (q:Rel K G H es vs fp) (e:es[i]?=some (some r)):∃ v,vs[i]?=some (some v)∧Rep K H r.2 v:=by
 obtain ⟨v,fq,e1,r1,_⟩:=q.out e
 exact ⟨v,e1,r1.top⟩
theorem ml {α:Type} {l:List α} {i:Nat} {x:α} (h:l[i]?=some x):l.set i x=l:=by
 apply List.ext_getElem?
 intro j
 by_cases e:i=j
 ·subst e
  rw [List.getElem?_set_self (List.getElem?_eq_some_iff.mp h).1,h]
 ·rw [List.getElem?_set_ne e]
theorem Rel.store {i:Nat} {r:R} {v:V} (q:Rel K G H (some r :: es) (some v :: vs) fp) (hi:i < es.length):∃ fq,Rel K G H (es.set i (some r)) (vs.set i (some v)) fq∧Step G H fp G H fq:=by
 obtain ⟨y,ys,e,v',a,b,e1,e2,r1,r2⟩:=q.rep
 cases e
 cases e1
 subst e2
 obtain ⟨c,hc⟩:∃ c,es[i]?=some c:=⟨_,List.getElem?_eq_getElem hi⟩
 have nd:=List.nodup_append.mp q.nd
 have key:∃ b',RepE K G H (es.set i none) vs b'∧(∀ p∈b',p∈b)∧b'.Nodup:=by
  cases c with
  | none=>exact ⟨b,by rw [ml hc];exact r2,fun _ h=>h,nd.2.1⟩
  | some r'=>
   obtain ⟨v2,a2,b2,_,_,g,pm⟩:=r2.take hc
   refine ⟨b2,g,fun p hp=>pm.mem_iff.mpr (List.mem_append_right _ hp),?_⟩
   exact (List.nodup_append.mp (pm.nodup_iff.mp nd.2.1)).2.1
 obtain ⟨b',g,sub,ndb⟩:=key
 obtain ⟨fq,g2,pm⟩:=g.put (i:=i) (r:=r) (v:=v) (by rw [List.getElem?_set_self hi]) r1
 rw [List.set_set] at g2
 have KY:(a++b').Nodup:=by
  rw [List.nodup_append]
  exact ⟨nd.1,ndb,fun p hp z hz=>nd.2.2 p hp z (sub z hz)⟩
 refine ⟨fq,Rel.perm g2 KY (fun p hp=>?_) q.gh pm.symm,Step.cut fun p hp=>?_⟩
 ·refine q.gn p ?_
  rcases List.mem_append.mp hp with hp | hp
  ·exact List.mem_append_left _ hp
  ·exact List.mem_append_right _ (sub p hp)
 ·rcases List.mem_append.mp (pm.mem_iff.mp hp) with hp | hp
  ·exact List.mem_append_left _ hp
  ·exact List.mem_append_right _ (sub p hp)
theorem Rel.back {i:Nat} {r:R} {v:V} (q:Rel K G H (some r :: es) (some v :: vs) fp) (hi:i < es.length) (hv:vs[i]?=some (some v)):∃ fq,Rel K G H (es.set i (some r)) vs fq∧Step G H fp G H fq:=by
 obtain ⟨fq,g,st⟩:=q.store hi
 rw [ml hv] at g
 exact ⟨fq,g,st⟩
theorem Rel.freezeAt {i:Nat} {r:R} (q:Rel K G H es vs fp) (e:es[i]?=some (some r)):∃ v G' fq,vs[i]?=some (some v)∧Rep K G' r.2 v∧Rel K G' H (es.set i (some (.f,r.2))) vs fq∧Step G H fp G' H fq:=by
 obtain ⟨v,fq,ev,g,st,_⟩:=q.out e
 obtain ⟨G',b,rv,g2,D1⟩:=g.freeze
 have g3:Rel K G' H (some (.f,r.2) :: es.set i none) (some v :: vs) b:=by
  refine ⟨⟨some v,vs,rfl,v,[],b,rfl,rfl,?_,g2.rep⟩,g2.nd,g2.gn,g2.gh⟩
  exact jz.mpr ⟨rv,rfl⟩
 obtain ⟨fz,g4,Fy⟩:=g3.back (i:=i) (by rw [List.length_set];exact (List.getElem?_eq_some_iff.mp e).1) ev
 rw [List.set_set] at g4
 exact ⟨v,G',fz,ev,rv,g4,st.trans (D1.trans Fy)⟩
theorem Rel.push {d:D} {v:V} (q:Rel K G H es vs fp) (r:Rep K G d v):Rel K G H (some (.f,d) :: es) (some v :: vs) fp:=by
 refine ⟨⟨some v,vs,rfl,v,[],fp,rfl,rfl,?_,q.rep⟩,q.nd,q.gn,q.gh⟩
 exact jz.mpr ⟨r,rfl⟩
theorem Rel.newF {p:Addr} {u:HO} (q:Rel K G H es vs fp) (hp:H p=none):Rel K (upd G p u) (upd H p u) es vs fp∧Step G H fp (upd G p u) (upd H p u) fp:=by
 have gp:G p=none:=by
  cases e:G p with
  | none=>rfl
  | some o=>rw [q.gh p o e] at hp;cases hp
 have np:p∉fp:=fun z=>by
  obtain ⟨u,e⟩:=q.rep.live p z
  rw [hp] at e;cases e
 have sg:Same G (upd G p u):=fun b o e=>by rw [aP (a9 e gp)];exact e
 have sh:Same H (upd H p u):=fun b o e=>by rw [aP (a9 e hp)];exact e
 refine ⟨⟨q.rep.step sg fun z hz=>aP fun e=>np (e▸hz),q.nd,fun z hz=>?_,fun b o e=>?_⟩,⟨sg,fun b o e _=>sh b o e,fun _ h=>.inl h,fun b o e=>?_,fun b o e=>⟨o,sh b o e⟩⟩⟩
 ·have:z≠p:=fun e=>np (e▸hz)
  rw [aP this]
  exact q.gn z hz
 ·by_cases hb:b=p
  ·subst hb
   rw [bI] at e ⊢
   exact e
  ·rw [aP hb] at e ⊢
   exact q.gh b o e
 ·by_cases hb:b=p
  ·subst hb
   exact .inr (.inr (.inl hp))
  ·rw [aP hb] at e
   exact .inl e
theorem Rel.newL {p:Addr} {ds:List D} {xs:List V} (q:Rel K G H es vs fp) (hp:H p=none) (r:Reps K G ds xs) :
  Rel K G (upd H p (.lst xs)) (some (.l .f,.lst ds) :: es) (some (.ref p) :: vs) (p :: fp)∧Step G H fp G (upd H p (.lst xs)) (p :: fp):=by
 have gp:G p=none:=by
  cases e:G p with
  | none=>rfl
  | some o=>rw [q.gh p o e] at hp;cases hp
 have np:p∉fp:=fun z=>by
  obtain ⟨u,e⟩:=q.rep.live p z
  rw [hp] at e;cases e
 have sh:Same H (upd H p (.lst xs)):=fun b o e=>by rw [aP (a9 e hp)];exact e
 refine ⟨⟨⟨some (.ref p),vs,rfl,.ref p,[p],fp,rfl,rfl,mh.mpr ⟨p,xs,rfl,bI,rfl,r⟩,q.rep.step (.refl _) fun z hz=>aP fun e=>np (e▸hz)⟩,List.nodup_cons.mpr ⟨np,q.nd⟩,fun z hz=>?_,fun b o e=>?_⟩,
  ⟨.refl _,fun b o e _=>sh b o e,fun b hb=>?_,fun b o e=>.inl e,fun b o e=>⟨o,sh b o e⟩⟩⟩
 ·rcases List.mem_cons.mp hz with rfl | hz
  ·exact gp
  ·exact q.gn z hz
 ·exact sh b o (q.gh b o e)
 ·rcases List.mem_cons.mp hb with rfl | hb
  ·exact .inr hp
  ·exact .inl hb
theorem Rel.chg {i:Nat} {ds ds':List D} (q:Rel K G H es vs fp) (e:es[i]?=some (some (.l .f,.lst ds))):∃ p xs,vs[i]?=some (some (.ref p))∧H p=some (.lst xs)∧Reps K G ds xs∧
  ∀ FC,Reps K G ds' FC→∃ fq,Rel K G (upd H p (.lst FC)) (es.set i (some (.l .f,.lst ds'))) vs fq∧Step G H fp G (upd H p (.lst FC)) fq:=by
 obtain ⟨v,fq,ev,g,st,Gg⟩:=q.out e
 obtain ⟨y,ys,e0,v',a,b,e1,e2,r1,r2⟩:=g.rep
 cases e0
 cases e1
 obtain ⟨p,xs,e3,hp,e4,rs⟩:=mh.mp r1
 subst e3
 subst e4
 subst e2
 have nd:=List.nodup_cons.mp (show (p :: b).Nodup from g.nd)
 refine ⟨p,xs,ev,hp,rs,fun FC F0=>?_⟩
 have g2:Rel K G (upd H p (.lst FC)) (some (.l .f,.lst ds') :: es.set i none) (some (.ref p) :: vs) (p :: b):=by
  refine ⟨⟨some (.ref p),vs,rfl,.ref p,[p],b,rfl,rfl,mh.mpr ⟨p,FC,rfl,bI,rfl,F0⟩,r2.step (.refl _) fun z hz=>aP fun e=>nd.1 (e▸hz)⟩,g.nd,g.gn,fun z o ez=>?_⟩
  have:z≠p:=fun w=>by
   subst w
   rw [g.gn z List.mem_cons_self] at ez;cases ez
  rw [aP this]
  exact g.gh z o ez
 have N7:Step G H (p :: b) G (upd H p (.lst FC)) (p :: b):=by
  refine ⟨.refl _,fun z o ez nz=>?_,fun z hz=>.inl hz,fun z o ez=>.inl ez,fun z o ez=>?_⟩
  ·have:z≠p:=fun w=>nz (by rw [w];exact List.mem_cons_self)
   rw [aP this]
   exact ez
  ·by_cases w:z=p
   ·subst w
    exact ⟨_,bI⟩
   ·exact ⟨o,by rw [aP w];exact ez⟩
 obtain ⟨fz,g3,Ez⟩:=g2.back (i:=i) (by rw [List.length_set];exact (List.getElem?_eq_some_iff.mp e).1) ev
 rw [List.set_set] at g3
 exact ⟨fz,g3,st.trans (N7.trans Ez)⟩
end
mutual
noncomputable def cy:D→Bool
 | .tup ds=>flatDs ds
 | .lst _=>false
 | .dct _ _ _=>false
 | _=>true
noncomputable def flatDs:List D→Bool
 | []=>true
 | d :: ds=>cy d && flatDs ds
end
mutual
noncomputable def bS:O→D→Bool
 | .f,d=>cy d
 | .l c,.lst ds=>ds.all (bS c)
 | .t cs,.tup ds=>nR cs ds
 | .d,.dct _ _ vs=>flatDs vs
 | .pin _ c,d=>bS c d
 | _,_=>false
noncomputable def nR:List O→List D→Bool
 | [],[]=>true
 | c :: cs,d :: ds=>bS c d && nR cs ds
 | _,_=>false
end
noncomputable def frz:Option R→Option R:=Option.map fun r=>(.f,r.2)
theorem bH:∀ ds,flatDs ds=ds.all cy
 | []=>rfl
 | d :: ds=>by rw [flatDs,List.all_cons,bH ds]
section
variable {K:W.Frag} {G G' G2 G3 H H' H2:Hp} {es:Env} {vs:List (Option V)} {fp:List Addr}
mutual
theorem Rep.flat (h:∀ p u,isT u=true→G2 p=some u→G3 p=some u):∀ {d:D} {v:V},cy d=true→Rep K G2 d v→Rep K G3 d v
 | .non,_,_,r=>by simpa only [Rep] using r
 | .bl _,_,_,r=>by simpa only [Rep] using r
 | .int _,_,_,r=>by simpa only [Rep] using r
 | .str _,_,_,r=>by simpa only [Rep] using r
 | .tup ds,_,e,r=>by
  simp only [Rep] at r ⊢
  simp only [cy] at e
  obtain ⟨p,xs,ev,q,rs⟩:=r
  exact ⟨p,xs,ev,h _ _ rfl q,Reps.flat h e rs⟩
 | .lst ds,_,e,r=>by simp only [cy] at e;cases e
 | .dct _ _ _,_,e,r=>by simp only [cy] at e;cases e
theorem Reps.flat (h:∀ p u,isT u=true→G2 p=some u→G3 p=some u):∀ {ds:List D} {xs:List V},flatDs ds=true→Reps K G2 ds xs→Reps K G3 ds xs
 | [],_,_,r=>by simpa only [Reps] using r
 | d :: ds,_,e,r=>by
  simp only [Reps] at r ⊢
  simp only [flatDs,Bool.and_eq_true] at e
  obtain ⟨y,ys,ev,r1,r2⟩:=r
  exact ⟨y,ys,ev,Rep.flat h e.1 r1,Reps.flat h e.2 r2⟩
end
theorem AllO.clean {P P':D→V→List Addr→Prop} {c:D→Bool}:∀ {ds:List D} {xs:List V} {fp:List Addr},(∀ d v a,c d=true→P d v a→P' d v a)→ds.all c=true→AllO P ds xs fp→AllO P' ds xs fp
 | [],_,_,_,_,r=>r
 | d :: ds,xs,fp,h,e,r=>by
  obtain ⟨y,ys,a,b,e1,e2,p,q⟩:=r
  rw [List.all_cons,Bool.and_eq_true] at e
  exact ⟨y,ys,a,b,e1,e2,h _ _ _ e.1 p,AllO.clean h e.2 q⟩
mutual
theorem RepO.clean (h:∀ p u,isT u=true→G2 p=some u→G3 p=some u):∀ {o:O} {d:D} {v:V} {fp:List Addr},bS o d=true→RepO K G2 H o d v fp→RepO K G3 H o d v fp
 | .f,d,v,fp,e,r=>by
  simp only [RepO] at r ⊢
  simp only [bS] at e
  exact ⟨r.1.flat h e,r.2⟩
 | .pin p c,d,v,fp,e,r=>by
  simp only [RepO] at r ⊢
  simp only [bS] at e
  exact ⟨r.1,RepO.clean h e r.2⟩
 | .l c,.lst ds,v,fp,e,r=>by
  rw [RepO] at r ⊢
  rw [bS] at e
  obtain ⟨p,xs,D0,ev,q,e2,a⟩:=r
  exact ⟨p,xs,D0,ev,q,e2,AllO.clean (fun d v a=>RepO.clean h) e a⟩
 | .t cs,.tup ds,v,fp,e,r=>by
  rw [RepO] at r ⊢
  rw [bS] at e
  obtain ⟨p,xs,ev,q,a⟩:=r
  exact ⟨p,xs,ev,h _ _ rfl q,RepT.clean h e a⟩
 | .d,.dct tk ks vs,v,fp,e,r=>by
  rw [RepO] at r ⊢
  rw [bS] at e
  obtain ⟨p,xs,o,ev,q,dd,e2,rs⟩:=r
  exact ⟨p,xs,o,ev,q,dd,e2,rs.flat h e⟩
 | .l _,.non,_,_,_,r | .l _,.bl _,_,_,_,r | .l _,.int _,_,_,_,r | .l _,.str _,_,_,_,r | .l _,.tup _,_,_,_,r | .l _,.dct _ _ _,_,_,_,r=>by simp only [RepO] at r
 | .t _,.non,_,_,_,r | .t _,.bl _,_,_,_,r | .t _,.int _,_,_,_,r | .t _,.str _,_,_,_,r | .t _,.lst _,_,_,_,r | .t _,.dct _ _ _,_,_,_,r=>by simp only [RepO] at r
 | .d,.non,_,_,_,r | .d,.bl _,_,_,_,r | .d,.int _,_,_,_,r | .d,.str _,_,_,_,r | .d,.tup _,_,_,_,r | .d,.lst _,_,_,_,r=>by simp only [RepO] at r
theorem RepT.clean (h:∀ p u,isT u=true→G2 p=some u→G3 p=some u):∀ {cs:List O} {ds:List D} {xs:List V} {fp:List Addr},nR cs ds=true→RepT K G2 H cs ds xs fp→RepT K G3 H cs ds xs fp
 | [],[],_,_,_,r=>by simpa only [RepT] using r
 | c :: cs,d :: ds,xs,fp,e,r=>by
  rw [RepT] at r ⊢
  rw [nR,Bool.and_eq_true] at e
  obtain ⟨y,ys,a,b,e1,e2,r1,r2⟩:=r
  exact ⟨y,ys,a,b,e1,e2,RepO.clean h e.1 r1,RepT.clean h e.2 r2⟩
 | [],_ :: _,_,_,_,r=>by simp only [RepT] at r
 | _ :: _,[],_,_,_,r=>by simp only [RepT] at r
end
theorem RepE.frz (h:Same G G'):∀ {es:Env} {vs:List (Option V)} {fp:List Addr},(∀ p∈fp,∀ u,H p=some u→G' p=some u)→RepE K G H es vs fp→RepE K G' H' (es.map PV.frz) vs []
 | [],_,_,_,r=>⟨r.1,rfl⟩
 | none :: es,vs,fp,hk,r=>by
  obtain ⟨y,ys,e,r⟩:=r
  exact ⟨y,ys,e,RepE.frz h hk r⟩
 | some r :: es,vs,fp,hk,q=>by
  obtain ⟨y,ys,e,v,a,b,e1,e2,r1,r2⟩:=q
  subst e2
  exact ⟨y,ys,e,v,[],[],e1,rfl,jz.mpr ⟨r1.frozen h (fun p hp=>hk p (List.mem_append_left _ hp)),rfl⟩,RepE.frz h (fun p hp=>hk p (List.mem_append_right _ hp)) r2⟩
theorem RepE.rep (h:Same G G'):∀ {es:Env} {vs:List (Option V)} {fp:List Addr} {i:Nat} {r:R} {v:V},(∀ p∈fp,∀ u,H p=some u→G' p=some u)→RepE K G H es vs fp→es[i]?=some (some r)→vs[i]?=some (some v)→Rep K G' r.2 v:=fun {es vs fp i r v} hk q e ev=>by
 obtain ⟨v',a,b,e1,r1,_,pm⟩:=q.take e
 rw [ev] at e1
 cases e1
 exact r1.frozen h fun p hp=>hk p (pm.mem_iff.mpr (List.mem_append_left _ hp))
theorem Rel.lend (q:Rel K G H es vs fp):∃ G1,Same G G1∧Same G1 H∧(∀ (i:Nat) (r:R) (v:V),es[i]?=some (some r)→vs[i]?=some (some v)→Rep K G1 r.2 v)∧
  RepE K G1 H (es.map PV.frz) vs []∧
  ∀ (H2 G2:Hp) (EC:List Addr) (r:R) (v:V),Step G1 H [] G2 H2 EC→Rel K G2 H2 [some r] [some v] EC→
   (bS r.1 r.2=true→∃ G3 Gj,Step G H fp G3 H2 Gj∧Rel K G3 H2 (some r :: es) (some v :: vs) Gj)∧
   ∃ G3 Gj,Step G H fp G3 H2 Gj∧Rel K G3 H2 (some r :: es.map PV.frz) (some v :: vs) Gj:=by
 have hg:Same G (fun p=>if p∈fp then H p else G p):=fun p u e=>by
  show (if p∈fp then H p else G p)=some u
  by_cases hp:p∈fp
  ·rw [if_pos hp]
   exact q.gh p u e
  ·rw [if_neg hp]
   exact e
 have hh:Same (fun p=>if p∈fp then H p else G p) H:=fun p u e=>by
  have e:(if p∈fp then H p else G p)=some u:=e
  by_cases hp:p∈fp
  ·rw [if_pos hp] at e
   exact e
  ·rw [if_neg hp] at e
   exact q.gh p u e
 have hk:∀ p∈fp,∀ u,H p=some u→(fun p=>if p∈fp then H p else G p) p=some u:=fun p hp u e=>by
  show (if p∈fp then H p else G p)=some u
  rw [if_pos hp]
  exact e
 refine ⟨fun p=>if p∈fp then H p else G p,hg,hh,fun i r v e ev=>q.rep.rep hg hk e ev,q.rep.frz hg hk,fun H2 G2 EC r v st k=>?_⟩
 obtain ⟨y,ys,e0,v',a,b,e1,e2,r1,r2⟩:=k.rep
 cases e0
 cases e1
 obtain ⟨_,e3⟩:=r2
 subst e3
 rw [List.append_nil] at e2
 subst e2
 have fresh:∀ p∈EC,H p=none:=fun p hp=>by
  rcases st.fpn p hp with z | z
  ·cases z
  ·exact z
 have kept:∀ p∈fp,H2 p=H p:=fun p hp=>by
  obtain ⟨u,hu⟩:=q.rep.live p hp
  rw [hu]
  exact st.keep p u hu (by simp)
 refine ⟨fun cl=>?_,⟨G2,EC,⟨hg.trans st.gg,fun p u e n=>st.keep p u e (by simp),fun p hp=>.inr (fresh p hp),fun p u e=>?_,st.there⟩,?_⟩⟩
 ·have apart:∀ p∈EC,p∉fp:=fun p hp hf=>by
   obtain ⟨u,hu⟩:=q.rep.live p hf
   rw [fresh p hp] at hu;cases hu
  have g3:Same G (fun p=>if p∈fp then none else G2 p):=fun p u e=>by
   show (if p∈fp then none else G2 p)=some u
   rw [if_neg (fun z=>by rw [q.gn p z] at e;cases e)]
   exact st.gg p u (hg p u e)
  refine ⟨fun p=>if p∈fp then none else G2 p,EC++fp,⟨g3,fun p u e n=>st.keep p u e (by simp),fun p hp=>?_,fun p u e=>?_,st.there⟩,⟨⟨some v,vs,rfl,v,EC,fp,rfl,rfl,r1.clean (fun p u t e=>?_) cl,q.rep.step g3 kept⟩,?_,fun p hp=>?_,fun p u e=>?_⟩⟩
  ·rcases List.mem_append.mp hp with hp | hp
   ·exact .inr (fresh p hp)
   ·exact .inl hp
  ·have e:(if p∈fp then none else G2 p)=some u:=e
   by_cases hp:p∈fp
   ·rw [if_pos hp] at e;cases e
   ·rw [if_neg hp] at e
    rcases st.gnew p u e with z | z | z
    ·have z:(if p∈fp then H p else G p)=some u:=z
     rw [if_neg hp] at z
     exact .inl z
    ·cases z
    ·exact .inr (.inr z)
  ·show (if p∈fp then none else G2 p)=some u
   by_cases hp:p∈fp
   ·exfalso
    obtain ⟨u',hu,hm⟩:=q.rep.mut p hp
    have:=st.gg p u' (hk p hp u' hu)
    rw [e] at this
    cases this
    cases u with
    | lst _=>cases t
    | dK _=>cases t
    | dT _=>cases t
    | _=>cases hm
   ·rw [if_neg hp]
    exact e
  ·rw [List.nodup_append]
   exact ⟨k.nd,q.nd,fun p hp z hz e=>apart p hp (e▸hz)⟩
  ·show (if p∈fp then none else G2 p)=none
   by_cases hf:p∈fp
   ·rw [if_pos hf]
   ·rw [if_neg hf]
    rcases List.mem_append.mp hp with hp | hp
    ·exact k.gn p hp
    ·exact absurd hp hf
  ·have e:(if p∈fp then none else G2 p)=some u:=e
   by_cases hp:p∈fp
   ·rw [if_pos hp] at e;cases e
   ·rw [if_neg hp] at e
    exact k.gh p u e
 ·rcases st.gnew p u e with z | z | z
  ·have z:(if p∈fp then H p else G p)=some u:=z
   by_cases hp:p∈fp
   ·exact .inr (.inl hp)
   ·rw [if_neg hp] at z
    exact .inl z
  ·cases z
  ·exact .inr (.inr z)
 ·refine ⟨⟨some v,vs,rfl,v,EC,[],rfl,(List.append_nil _).symm,r1,q.rep.frz (hg.trans st.gg) fun p hp u e=>st.gg p u (hk p hp u e)⟩,k.nd,k.gn,k.gh⟩
end
end PV
namespace PV
open PySem PySem.Spec PyProof.Rows L2 NX
noncomputable def Res.bind {α β:Type}:Res α→(α→Res β)→Res β
 | .ok a,f=>f a
 | .exc c,_=>.exc c
 | .bad,_=>.bad
inductive BindOk {α β:Type} (x:Res α) (f:α→Res β) (b:β):Prop
 | mk (a:α) (h:x=.ok a) (k:f a=.ok b):BindOk x f b
theorem ar {α β:Type} {x:Res α} {f:α→Res β} {b:β} (h:x.bind f=.ok b):BindOk x f b:=by
 cases x with
 | ok a=>exact ⟨a,rfl,h⟩
 | exc c=>cases h
 | bad=>cases h
inductive Opd where
 | val (d:D) | var (i:Nat)
noncomputable def OpdOk (K:W.Frag) (G:Hp) (σ:L2.St):Opd→V→Prop
 | .val d,v=>Rep K G d v
 | .var i,v=>σ[i]?=some (some v)
theorem OpdOk.mono {K:W.Frag} {G G':Hp} {σ:L2.St} {o:Opd} {v:V} (h:Same G G') (r:OpdOk K G σ o v):OpdOk K G' σ o v:=by
 cases o with
 | val d=>exact Rep.mono h r
 | var i=>exact r
noncomputable def p6 (K:W.Frag) (G:Hp) (σ:L2.St):List Opd→List V→Prop
 | [],vs=>vs=[]
 | o :: os,vs=>∃ y ys,vs=y :: ys∧OpdOk K G σ o y∧p6 K G σ os ys
noncomputable def sR:O→Bool
 | .f=>true
 | .l .f=>true
 | .d=>true
 | .pin _ .f=>true
 | .pin _ (.l .f)=>true
 | .pin _ .d=>true
 | _=>false
noncomputable def Eg (env:PV.Env):Opd→Res D
 | .val d=>.ok d
 | .var i=>match env[i]? with
  | some (some r)=>if sR r.1 then .ok r.2 else .bad
  | _=>.bad
noncomputable def ft (env:PV.Env):Opd→Res D
 | .val d=>.ok d
 | .var i=>match env[i]? with
  | some (some r)=>.ok r.2
  | _=>.bad
noncomputable def mY (env:PV.Env):List Opd→Res (List D)
 | []=>.ok []
 | o :: os=>(Eg env o).bind fun d=>(mY env os).bind fun ds=>.ok (d :: ds)
noncomputable def nS (env:PV.Env):List Opd→Res (List D)
 | []=>.ok []
 | o :: os=>(ft env o).bind fun d=>(nS env os).bind fun ds=>.ok (d :: ds)
noncomputable def Vw (K:W.Frag) (G H:Hp):D→V→Prop
 | .lst ds,v=>∃ p xs,v=.ref p∧SqL K H p xs∧Reps K G ds xs
 | .dct tk ks vs,v=>∃ p xs o,v=.ref p∧Rd H p o∧DictO o tk ks xs∧Reps K G vs xs
 | d,v=>Rep K G d v
noncomputable def Ko (K:W.Frag) (G H:Hp):List D→List V→Prop
 | [],vs=>vs=[]
 | d :: ds,vs=>∃ y ys,vs=y :: ys∧Vw K G H d y∧Ko K G H ds ys
section
variable {K:W.Frag} {G G' H H':Hp} {es:PV.Env} {σ:L2.St} {fp:List Addr}
theorem Vw.of {d:D} {v:V} (gh:Same G H) (r:Rep K G d v):Vw K G H d v:=by
 cases d with
 | lst ds=>
  rw [Rep] at r
  obtain ⟨p,xs,e,q,rs⟩:=r
  exact ⟨p,xs,e,g0 gh q,rs⟩
 | dct tk ks vs=>
  rw [Rep] at r
  obtain ⟨p,xs,o,e,q,dd,rs⟩:=r
  exact ⟨p,xs,o,e,PV.Rd.mono gh q,dd,rs⟩
 | _=>exact r
theorem Vw.rep {d:D} {v:V} (gh:Same G H) (r:Vw K G H d v):Rep K H d v:=by
 cases d with
 | lst ds=>
  obtain ⟨p,xs,e,q,rs⟩:=r
  rw [Rep]
  exact ⟨p,xs,e,q,rs.mono gh⟩
 | dct tk ks vs=>
  obtain ⟨p,xs,o,e,q,dd,rs⟩:=r
  rw [Rep]
  exact ⟨p,xs,o,e,q,dd,rs.mono gh⟩
 | non=>exact Rep.mono gh r
 | bl b=>exact Rep.mono gh r
 | int i=>exact Rep.mono gh r
 | str l=>exact Rep.mono gh r
 | tup ds=>exact Rep.mono gh r
theorem RepO.vw0 {o:O} {d:D} {v:V} {a:List Addr} (gh:Same G H) (hs:o=.f∨o=.l .f∨o=.d) (r:RepO K G H o d v a):Vw K G H d v:=by
 rcases hs with rfl | rfl | rfl
 ·exact Vw.of gh (jz.mp r).1
 ·cases d with
  | lst ds=>
   obtain ⟨p,xs,e,q,_,rs⟩:=mh.mp r
   exact ⟨p,xs,e,SqL.of q,rs⟩
  | _=>simp only [RepO] at r
 ·cases d with
  | dct tk ks vs=>
   rw [RepO] at r
   obtain ⟨p,xs,o,e,q,dd,_,rs⟩:=r
   exact ⟨p,xs,o,e,.inl q,dd,rs⟩
  | _=>simp only [RepO] at r
theorem RepO.vw {o:O} {d:D} {v:V} {a:List Addr} (gh:Same G H) (hs:sR o=true) (r:RepO K G H o d v a):Vw K G H d v:=by
 unfold sR at hs
 split at hs
 ·exact r.vw0 gh (.inl rfl)
 ·exact r.vw0 gh (.inr (.inl rfl))
 ·exact r.vw0 gh (.inr (.inr rfl))
 ·rw [RepO] at r;exact r.2.vw0 gh (.inl rfl)
 ·rw [RepO] at r;exact r.2.vw0 gh (.inr (.inl rfl))
 ·rw [RepO] at r;exact r.2.vw0 gh (.inr (.inr rfl))
 ·cases hs
theorem Rel.vw {o:Opd} {v:V} {d:D} (q:Rel K G H es σ fp) (k:OpdOk K G σ o v) (e:Eg es o=.ok d):Vw K G H d v:=by
 cases o with
 | val d'=>
  cases e
  exact Vw.of q.gh k
 | var i=>
  unfold Eg at e
  dsimp only at e
  split at e
  ·rename_i r hr
   split at e
   ·rename_i hs
    cases e
    obtain ⟨v',a,b,ev,r1,_⟩:=q.rep.take hr
    have k:σ[i]?=some (some v):=k
    rw [k] at ev
    cases ev
    exact r1.vw q.gh hs
   ·cases e
  ·cases e
theorem Rel.vwA {o:Opd} {v:V} {d:D} (q:Rel K G H es σ fp) (k:OpdOk K G σ o v) (e:ft es o=.ok d):Rep K H d v:=by
 cases o with
 | val d'=>
  cases e
  exact Rep.mono q.gh k
 | var i=>
  unfold ft at e
  dsimp only at e
  split at e
  ·rename_i r hr
   cases e
   obtain ⟨v',ev,r1⟩:=q.view hr
   have k:σ[i]?=some (some v):=k
   rw [k] at ev
   cases ev
   exact r1
  ·cases e
theorem Rel.vws (q:Rel K G H es σ fp):∀ {os:List Opd} {vs:List V} {ds:List D},p6 K G σ os vs→mY es os=.ok ds→Ko K G H ds vs
 | [],_,_,k,e=>by
  cases e
  exact k
 | o :: os,_,_,⟨y,ys,e0,k1,k2⟩,e=>by
  unfold mY at e
  obtain ⟨d,e1,e⟩:=ar e
  obtain ⟨ds,e2,e⟩:=ar e
  cases e
  exact ⟨y,ys,e0,q.vw k1 e1,Rel.vws q k2 e2⟩
theorem nU {G1:Hp} (gg:Same G G1) (ht:∀ (i:Nat) (r:R) (v:V),es[i]?=some (some r)→σ[i]?=some (some v)→Rep K G1 r.2 v):∀ {os:List Opd} {vs:List V} {ds:List D},p6 K G σ os vs→nS es os=.ok ds→Reps K G1 ds vs
 | [],_,_,k,e=>by
  cases e
  have k:_=_:=k
  rw [k]
  exact Reps.nil
 | o :: os,_,_,⟨y,ys,e0,k1,k2⟩,e=>by
  unfold nS at e
  obtain ⟨d,e1,e⟩:=ar e
  obtain ⟨ds,e2,e⟩:=ar e
  cases e
  rw [e0]
  refine .cons ?_ (nU gg ht k2 e2)
  cases o with
  | val d'=>
   cases e1
   exact Rep.mono gg k1
  | var i=>
   unfold ft at e1
   dsimp only at e1
   split at e1
   ·rename_i r hr
    cases e1
    exact ht i r y hr k1
   ·cases e1
end
abbrev FX:=PV.Env→Res (R×PV.Env)
abbrev FO:=PV.Env→Res (Opd×PV.Env)
abbrev Fq:=PV.Env→Res (List Opd×PV.Env)
abbrev FT:=PV.Env→Res (Bool×PV.Env)
inductive Out where
 | nx (env:PV.Env) | rt (r:R) | bk (env:PV.Env) | ct (env:PV.Env)
abbrev FS:=PV.Env→Res Out
inductive tQ (K:W.Frag) (f:FX) (σ:L2.St) (H:Hp) (Q:VK):Prop
 | mk:∀ G env fp r env',Rel K G H env σ fp→f env=.ok (r,env')→(∀ v H' G' D0,Step G H fp G' H' D0→Rel K G' H' (some r :: env') (some v :: σ) D0→Q v H')→tQ K f σ H Q
inductive tO (K:W.Frag) (f:FO) (σ:L2.St) (H:Hp) (Q:VK):Prop
 | mk:∀ G env fp o env',Rel K G H env σ fp→f env=.ok (o,env')→(∀ v H' G' D0,Step G H fp G' H' D0→Rel K G' H' env' σ D0→OpdOk K G' σ o v→Q v H')→tO K f σ H Q
inductive tOs (K:W.Frag) (f:Fq) (σ:L2.St) (H:Hp) (Q:List V→Hp→Prop):Prop
 | mk:∀ G env fp o env',Rel K G H env σ fp→f env=.ok (o,env')→(∀ v H' G' D0,Step G H fp G' H' D0→Rel K G' H' env' σ D0→p6 K G' σ o v→Q v H')→tOs K f σ H Q
inductive tQT (K:W.Frag) (f:FT) (σ:L2.St) (H:Hp) (Q:Bool→Hp→Prop):Prop
 | mk:∀ G env fp b env',Rel K G H env σ fp→f env=.ok (b,env')→(∀ H' G' D0,Step G H fp G' H' D0→Rel K G' H' env' σ D0→Q b H')→tQT K f σ H Q
inductive Mode where
 | plain | mut
def Dz (md:Mode) (K:W.Frag) (G H:Hp) (r:R) (v:V) (fp:List Addr):Prop:=match md with
 | .plain=>Rel K G H [some r] [some v] fp
 | .mut=>∃ o d p c d0,r=(.t [o,.pin p c],.tup [d,d0])∧Rel K G H [some (o,d),some (.pin p c,d0)] [some v,some (.ref p)] fp
noncomputable def OutOk {md:Mode} (K:W.Frag) (G H:Hp) (fp:List Addr) (Dd:Ends):Res Out→Prop
 | .ok (.nx env')=>∀ σ' H' G' D0,Step G H fp G' H' D0→Rel K G' H' env' σ' D0→Dd.nx σ' H'
 | .ok (.bk env')=>∀ σ' H' G' D0,Step G H fp G' H' D0→Rel K G' H' env' σ' D0→Dd.bk σ' H'
 | .ok (.ct env')=>∀ σ' H' G' D0,Step G H fp G' H' D0→Rel K G' H' env' σ' D0→Dd.ct σ' H'
 | .ok (.rt r)=>∀ v H' G' D0,Step G H fp G' H' D0→Dz md K G' H' r v D0→Dd.rt v H'
 | _=>False
inductive tQS {md:Mode} (K:W.Frag) (g:FS) (Dd:Ends) (σ:L2.St) (H:Hp):Prop
 | mk:∀ G env fp,Rel K G H env σ fp→OutOk (md:=md) K G H fp Dd (g env)→tQS (md:=md) K g Dd σ H
def QE (X:Cx) (e:Expr) (f:FX):Prop:=PE X e (tQ X.K f)
def QO (X:Cx) (e:Expr) (f:FO):Prop:=PE X e (tO X.K f)
def IB (X:Cx) (es:List Expr) (f:Fq):Prop:=PA X es (tOs X.K f)
def QT (X:Cx) (e:Expr) (f:FT):Prop:=PT X e (tQT X.K f)
def QW (X:Cx) (e:Expr) (f:FT):Prop:=PW X e (tQT X.K f)
def QS {md:Mode} (X:Cx) (st:Stmt) (g:FS):Prop:=PS X st (tQS (md:=md) X.K g)
def Jr {md:Mode} (X:Cx) (st:List Stmt) (g:FS):Prop:=PSs X st (tQS (md:=md) X.K g)
theorem bU {X:Cx} {e:Expr} {t t':TE} (h:PE X e t) (k:∀ σ H Q,t' σ H Q→t σ H Q):PE X e t':=fun pins s σ H Q I w=>h pins s σ H Q I (k σ H Q w)
theorem p7 {X:Cx} {e:Expr} {t t':TT} (h:PT X e t) (k:∀ σ H Q,t' σ H Q→t σ H Q):PT X e t':=fun pins s σ H Q I w=>h pins s σ H Q I (k σ H Q w)
theorem wu {X:Cx} {e:Expr} {t t':TT} (h:PW X e t) (k:∀ σ H Q,t' σ H Q→t σ H Q):PW X e t':=fun wh pins s σ H Q I w=>h wh pins s σ H Q I (k σ H Q w)
theorem p8 {X:Cx} {e:List Expr} {t t':TA} (h:PA X e t) (k:∀ σ H Q,t' σ H Q→t σ H Q):PA X e t':=fun pos pins s σ H Q I w=>h pos pins s σ H Q I (k σ H Q w)
theorem hV {X:Cx} {e:Stmt} {t t':TS} (h:PS X e t) (k:∀ D σ H,t' D σ H→t D σ H):PS X e t':=fun pins s σ H D I w=>h pins s σ H D I (k D σ H w)
theorem sS {X:Cx} {e:List Stmt} {t t':TS} (h:PSs X e t) (k:∀ D σ H,t' D σ H→t D σ H):PSs X e t':=fun pins s σ H D I w=>h pins s σ H D I (k D σ H w)
theorem OutOk.imp {md:Mode} {K:W.Frag} {G H G1 H1:Hp} {fp Ef:List Addr} {Dd L9:Ends} {r:Res Out} (st:Step G H fp G1 H1 Ef) (h:OutOk (md:=md) K G H fp Dd r) (n:∀ σ H,Dd.nx σ H→L9.nx σ H) (b:∀ σ H,Dd.bk σ H→L9.bk σ H) (c:∀ σ H,Dd.ct σ H→L9.ct σ H) (t:∀ v H,Dd.rt v H→L9.rt v H):OutOk (md:=md) K G1 H1 Ef L9 r:=by
 match r,h with
 | .ok (.nx env'),h=>exact fun σ' H' G' D0 s q=>n _ _ (h σ' H' G' D0 (st.trans s) q)
 | .ok (.bk env'),h=>exact fun σ' H' G' D0 s q=>b _ _ (h σ' H' G' D0 (st.trans s) q)
 | .ok (.ct env'),h=>exact fun σ' H' G' D0 s q=>c _ _ (h σ' H' G' D0 (st.trans s) q)
 | .ok (.rt r),h=>exact fun v H' G' D0 s q=>t _ _ (h v H' G' D0 (st.trans s) q)
theorem OutOk.after {md:Mode} {K:W.Frag} {G H G1 H1:Hp} {fp Ef:List Addr} {Dd:Ends} {r:Res Out} (st:Step G H fp G1 H1 Ef) (h:OutOk (md:=md) K G H fp Dd r):OutOk (md:=md) K G1 H1 Ef Dd r:=h.imp st (fun _ _ z=>z) (fun _ _ z=>z) (fun _ _ z=>z) fun _ _ z=>z
noncomputable def aH (d:D):FX:=fun env=>.ok ((.f,d),env)
noncomputable def fz:O→O
 | .pin p .f=>.pin p .f
 | _=>.f
noncomputable def aK (i:Nat):FX:=fun env=>match env[i]? with
 | some (some r)=>.ok ((.f,r.2),env.set i (some (fz r.1,r.2)))
 | _=>.bad
noncomputable def eY (i:Nat):FX:=fun env=>match env[i]? with
 | some (some r)=>.ok (r,env.set i none)
 | _=>.bad
noncomputable def aj (f:FX):FO:=fun env=>(f env).bind fun p=>.ok (.val p.1.2,p.2)
noncomputable def ao (i:Nat):FO:=fun env=>match env[i]? with
 | some (some _)=>.ok (.var i,env)
 | _=>.bad
noncomputable def aF:Fq:=fun env=>.ok ([],env)
noncomputable def ah (f:FO) (g:Fq):Fq:=fun env=>(f env).bind fun p=>(g p.2).bind fun q=>.ok (p.1 :: q.1,q.2)
section
variable {X:Cx}
theorem qa {e:Expr} {v:V} {d:D} (h:PE X e (tC v)) (r:∀ G,Rep X.K G d v):QE X e (aH d):=bU h fun σ H Q D6=>by
 obtain ⟨G,env,fp,rr,env',rel,e,k⟩:=D6
 cases e
 exact k v H G fp .refl (rel.push (r G))
theorem ai {i j pos}:QE X (.Constant (.int i) j pos) (aH (.int i)):=qa y0 fun G=>by rw [Rep]
theorem ki {i j pos}:QE X (.Constant (.bool i) j pos) (aH (.bl i)):=qa Bw fun G=>by rw [Rep]
theorem kj {j pos}:QE X (.Constant .none j pos) (aH .non):=qa y1 fun G=>by rw [Rep]
theorem qb {x j pos} {l:List Nat} (h:x=S l) (hl:l.length≤1000):QE X (.Constant (.str x) j pos) (aH (.str l)):=qa y2 fun G=>by
 rw [Rep,h]
 exact ⟨rfl,by rw [line_eq];lia⟩
theorem aA {i:Nat} {e:Expr} (h:PE X e (uM i)):QE X e (aK i):=bU h fun σ H Q D6=>by
 obtain ⟨G,env,fp,rr,env',rel,e,k⟩:=D6
 unfold aK at e
 split at e
 ·rename_i r hr
  cases e
  by_cases hf:fz r.1=.f
  ·obtain ⟨v,G',fq,ev,rv,Ek,st⟩:=rel.freezeAt hr
   rw [hf] at k
   exact ⟨v,ev,k v H G' fq st (Ek.push rv)⟩
  ·have hp:∃ p,r.1=.pin p .f:=by
    unfold fz at hf
    split at hf
    ·rename_i p hp
     exact ⟨p,hp⟩
    ·exact absurd rfl hf
   obtain ⟨p,hp⟩:=hp
   obtain ⟨v,a,b,ev,r1,_,_⟩:=rel.rep.take hr
   rw [hp,RepO] at r1
   have es:env.set i (some (fz r.1,r.2))=env:=by
    refine ml ?_
    rw [hr,hp]
    show some (some r)=some (some (.pin p .f,r.2))
    rw [←hp]
   rw [es] at k
   exact ⟨v,ev,k v H G fp .refl (rel.push (jz.mp r1.2).1)⟩
 ·cases e
theorem jh {i:Nat} {e:Expr} (h:PE X e (uM i)):QE X e (eY i):=bU h fun σ H Q D6=>by
 obtain ⟨G,env,fp,rr,env',rel,e,k⟩:=D6
 unfold eY at e
 split at e
 ·rename_i r hr
  cases e
  obtain ⟨v,fq,ev,Ek,st,_⟩:=rel.out hr
  exact ⟨v,ev,k v H G fq st Ek⟩
 ·cases e
theorem aa {e:Expr} {f:FX} (h:QE X e f):QO X e (aj f):=bU h fun σ H Q D6=>by
 obtain ⟨G,env,fp,o,env',rel,e,k⟩:=D6
 obtain ⟨⟨r,DR⟩,e1,e⟩:=ar e
 cases e
 refine ⟨G,env,fp,r,DR,rel,e1,fun v H' G' D0 st Ek=>?_⟩
 obtain ⟨G2,b,rv,DU,D1⟩:=Ek.freeze
 exact k v H' G2 b (st.trans D1) DU rv
theorem ae {i:Nat} {e:Expr} (h:PE X e (uM i)):QO X e (ao i):=bU h fun σ H Q D6=>by
 obtain ⟨G,env,fp,o,env',rel,e,k⟩:=D6
 unfold ao at e
 split at e
 ·rename_i r hr
  cases e
  obtain ⟨v,ev,_⟩:=rel.view hr
  exact ⟨v,ev,k v H G fp .refl rel ev⟩
 ·cases e
theorem aq:IB X [] aF:=p8 nh fun σ H Q D6=>by
 obtain ⟨G,env,fp,o,env',rel,e,k⟩:=D6
 cases e
 exact k [] H G fp .refl rel rfl
theorem af {e:Expr} {es:List Expr} {f:FO} {g:Fq} (h:QO X e f) (hs:IB X es g) (Hk:starEach (e :: es) X.env=(false,eval e X.env) :: starEach es X.env:=by rfl):IB X (e :: es) (ah f g):=
 p8 (gf h hs Hk) fun σ H Q D6=>by
  obtain ⟨G,env,fp,o,env',rel,e,k⟩:=D6
  obtain ⟨⟨o1,DR⟩,e1,e⟩:=ar e
  obtain ⟨⟨os,DZ⟩,e2,e⟩:=ar e
  cases e
  exact ⟨G,env,fp,o1,DR,rel,e1,fun v H1 G1 Ef D9 DV Fi=>⟨G1,DR,Ef,os,DZ,DV,e2,fun vs H2 G2 EC D1 DU HY=>k _ H2 G2 EC (D9.trans D1) DU ⟨v,vs,rfl,Fi.mono D1.gg,HY⟩⟩⟩
noncomputable def ay (g:D→D→Res R) (fa fb:FO):FX:=fun env=>(fa env).bind fun p=>(fb p.2).bind fun q=>(Eg q.2 p.1).bind fun a=>(Eg q.2 q.1).bind fun b=>(g a b).bind fun r=>.ok (r,q.2)
noncomputable def bR (g:D→D→Res R) (fa fb:FO):FX:=fun env=>(fa env).bind fun p=>(fb p.2).bind fun q=>(ft q.2 p.1).bind fun a=>(ft q.2 q.1).bind fun b=>(g a b).bind fun r=>.ok (r,q.2)
structure Goes (K:W.Frag) (H:Hp) (G:Hp) (fp:List Addr) (es:PV.Env) (vs:L2.St) (r:R) (Q:VK):Prop where
 rel:Rel K G H es vs fp
 goes:∀ v H' G' D0,Step G H fp G' H' D0→Rel K G' H' (some r :: es) (some v :: vs) D0→Q v H'
inductive rG (K:W.Frag) (g:D→D→Res R) (x:V) (y:V) (H:Hp) (Q:VK):Prop
 | mk:∀ G fp es vs a b r,Goes K H G fp es vs r Q→Vw K G H a x→Vw K G H b y→g a b=.ok r→rG K g x y H Q
inductive rGA (K:W.Frag) (g:D→D→Res R) (x:V) (y:V) (H:Hp) (Q:VK):Prop
 | mk:∀ G fp es vs a b r,Goes K H G fp es vs r Q→Rep K H a x→Rep K H b y→g a b=.ok r→rGA K g x y H Q
variable {a b c:Expr} {fa fb fc:FO} {pos:Pos} {g g':D→D→Res R}
theorem sT {σ:L2.St} {H:Hp} {Q:VK} (h:tQ X.K (ay g fa fb) σ H Q):Lx (rG X.K g) (tO X.K fa) (tO X.K fb) σ H Q:=by
 obtain ⟨G,env,fp,r,env',rel,e,k⟩:=h
 obtain ⟨⟨oa,e1⟩,ha,e⟩:=ar e
 obtain ⟨⟨ob,e2⟩,hb,e⟩:=ar e
 obtain ⟨da,JF,e⟩:=ar e
 obtain ⟨db,Gi,e⟩:=ar e
 obtain ⟨r',hr,e⟩:=ar e
 cases e
 exact ⟨G,env,fp,oa,e1,rel,ha,fun x H1 G1 Ef D9 DV Fi=>⟨G1,e1,Ef,ob,e2,DV,hb,fun y H2 G2 EC D1 DU HY=>
  ⟨G2,EC,e2,σ,da,db,r,⟨DU,fun v H' G' D0 st Ek=>k v H' G' D0 (D9.trans (D1.trans st)) Ek⟩,DU.vw (Fi.mono D1.gg) JF,DU.vw HY Gi,hr⟩⟩⟩
theorem sU {σ:L2.St} {H:Hp} {Q:VK} (h:tQ X.K (bR g fa fb) σ H Q):Lx (rGA X.K g) (tO X.K fa) (tO X.K fb) σ H Q:=by
 obtain ⟨G,env,fp,r,env',rel,e,k⟩:=h
 obtain ⟨⟨oa,e1⟩,ha,e⟩:=ar e
 obtain ⟨⟨ob,e2⟩,hb,e⟩:=ar e
 obtain ⟨da,JF,e⟩:=ar e
 obtain ⟨db,Gi,e⟩:=ar e
 obtain ⟨r',hr,e⟩:=ar e
 cases e
 exact ⟨G,env,fp,oa,e1,rel,ha,fun x H1 G1 Ef D9 DV Fi=>⟨G1,e1,Ef,ob,e2,DV,hb,fun y H2 G2 EC D1 DU HY=>
  ⟨G2,EC,e2,σ,da,db,r,⟨DU,fun v H' G' D0 st Ek=>k v H' G' D0 (D9.trans (D1.trans st)) Ek⟩,DU.vwA (Fi.mono D1.gg) JF,DU.vwA HY Gi,hr⟩⟩⟩
theorem aB {op:Operator} (ho:EE X (binaryOp op) (rG X.K g)) (ha:QO X a fa) (hb:QO X b fb):QE X (.BinOp a op b pos) (ay g fa fb):=bU (BH ho ha hb) fun _ _ _=>sT
theorem xN {op:CmpOp} (ho:EE X (compareOp op) (rGA X.K g)) (ha:QO X a fa) (hb:QO X b fb) (hm:behindInMarks op b=false):QE X (.Compare a [op] [b] pos) (bR g fa fb):=bU (w6 ho ha hb hm) fun _ _ _=>sU
noncomputable def EA (f:FX):FT:=fun env=>(f env).bind fun p=>match p.1.2 with
 | .bl k=>.ok (k,p.2)
 | _=>.bad
theorem xO {f:FX} {σ:L2.St} {H:Hp} {Q:Bool→Hp→Prop} (h:tQT X.K (EA f) σ H Q):tQ X.K f σ H fun x H'=>∃ k,x=.bl k∧Q k H':=by
 obtain ⟨G,env,fp,k,env',rel,e,q⟩:=h
 obtain ⟨⟨⟨o,d⟩,DR⟩,e1,e⟩:=ar e
 dsimp only at e
 split at e
 ·cases e
  refine ⟨G,env,fp,_,_,rel,e1,fun v H' G' D0 st Ek=>?_⟩
  have hv:=Ek.top
  rw [show ((o,D.bl k):R).2=D.bl k from rfl,Rep] at hv
  obtain ⟨b,DU,D1⟩:=Ek.drop
  exact ⟨k,hv,q H' G' b (st.trans D1) DU⟩
 ·cases e
theorem wx {e:Expr} {f:FX} (h:QE X e f) (he:∀ whole,isTrue e X.env whole=(do let v ←whole;standAt e.pos;holding [v] (truthy v)):=by intro _;rfl):QT X e (EA f):=p7 (y3 h he) fun _ _ _=>xO
theorem jA {op:CmpOp} (ho:EE X (compareOp op) (rG X.K g)) (ha:QO X a fa) (hb:QO X b fb) (hm:behindInMarks op b=false):QT X (.Compare a [op] [b] pos) (EA (ay g fa fb)):=
 p7 (rV ho ha hb hm) fun _ _ _ h=>sT (xO h)
theorem aY {op:CmpOp} (ho:EE X (compareOp op) (rGA X.K g)) (ha:QO X a fa) (hb:QO X b fb) (hm:behindInMarks op b=false):QT X (.Compare a [op] [b] pos) (EA (bR g fa fb)):=
 p7 (rV ho ha hb hm) fun _ _ _ h=>sU (xO h)
noncomputable def zQ (f g:FT):FT:=fun env=>(f env).bind fun p=>if p.1 then g p.2 else .ok (false,p.2)
noncomputable def LC (f g:FT):FT:=fun env=>(f env).bind fun p=>if p.1 then .ok (true,p.2) else g p.2
noncomputable def B3 (f:FT):FT:=fun env=>(f env).bind fun p=>.ok (!p.1,p.2)
variable {ga gb:FT} {eL:List Expr}
theorem o4 (h:QT X a ga):QW X (.BoolOp .And [a] pos) ga:=wV h
theorem qc (h:QT X a ga):QW X (.BoolOp .Or [a] pos) ga:=y4 h
theorem sV (h:QT X a ga) (h2:QW X (.BoolOp .And (b :: eL) pos) gb):QW X (.BoolOp .And (a :: b :: eL) pos) (zQ ga gb):=wu (y6 h h2) fun σ H Q D6=>by
 obtain ⟨G,env,fp,k,env',rel,e,q⟩:=D6
 obtain ⟨⟨k1,DR⟩,e1,e⟩:=ar e
 refine ⟨G,env,fp,k1,DR,rel,e1,fun H1 G1 Ef D9 DV=>?_⟩
 dsimp only at e
 cases k1 with
 | true=>exact ⟨G1,DR,Ef,k,env',DV,e,fun H2 G2 EC D1 DU=>q H2 G2 EC (D9.trans D1) DU⟩
 | false=>
  cases e
  exact q H1 G1 Ef D9 DV
theorem vz (h:QT X a ga) (h2:QW X (.BoolOp .Or (b :: eL) pos) gb):QW X (.BoolOp .Or (a :: b :: eL) pos) (LC ga gb):=wu (Bx h h2) fun σ H Q D6=>by
 obtain ⟨G,env,fp,k,env',rel,e,q⟩:=D6
 obtain ⟨⟨k1,DR⟩,e1,e⟩:=ar e
 refine ⟨G,env,fp,k1,DR,rel,e1,fun H1 G1 Ef D9 DV=>?_⟩
 dsimp only at e
 cases k1 with
 | false=>exact ⟨G1,DR,Ef,k,env',DV,e,fun H2 G2 EC D1 DU=>q H2 G2 EC (D9.trans D1) DU⟩
 | true=>
  cases e
  exact q H1 G1 Ef D9 DV
theorem QW.qt {e:Expr} {f:FT} (h:QW X e f):QT X e f:=h.pt
theorem zR (h:QT X a ga):QT X (.UnaryOp .Not a pos) (B3 ga):=p7 (y7 h) fun σ H Q D6=>by
 obtain ⟨G,env,fp,k,env',rel,e,q⟩:=D6
 obtain ⟨⟨k1,DR⟩,e1,e⟩:=ar e
 cases e
 exact ⟨G,env,fp,k1,DR,rel,e1,fun H1 G1 Ef D9 DV=>q H1 G1 Ef D9 DV⟩
noncomputable def DA (f g:FX):FX:=fun env=>(f env).bind fun p=>match p.1.2 with
 | .bl true=>g p.2
 | .bl false=>.ok ((.f,.bl false),p.2)
 | _=>.bad
noncomputable def eOr (f g:FX):FX:=fun env=>(f env).bind fun p=>match p.1.2 with
 | .bl true=>.ok ((.f,.bl true),p.2)
 | .bl false=>g p.2
 | _=>.bad
noncomputable def DB (f:FX):FX:=fun env=>(f env).bind fun p=>match p.1.2 with
 | .bl k=>.ok ((.f,.bl (!k)),p.2)
 | _=>.bad
noncomputable def eIf (c:FT) (f g:FX):FX:=fun env=>(c env).bind fun p=>if p.1 then f p.2 else g p.2
variable {ea eb:FX}
theorem dq {K:W.Frag} {G:Hp} (k:Bool):Rep K G (.bl k) (.bl k):=by rw [Rep]
theorem bu {K:W.Frag} {G:Hp} (k:Int):Rep K G (.int k) (.int k):=by rw [Rep]
theorem o5 {K:W.Frag} {G:Hp}:Rep K G .non .non:=by rw [Rep]
theorem iq {K:W.Frag} {G:Hp} {l:List Nat} (h:l.length≤sizeLine):Rep K G (.str l) (.str (S l)):=by
 rw [Rep]
 exact ⟨rfl,h⟩
theorem dr {K:W.Frag} {G:Hp} {k:Bool} {v:V} (h:Rep K G (.bl k) v):v=.bl k:=by rw [Rep] at h;exact h
theorem bG {K:W.Frag} {G:Hp} {k:Int} {v:V} (h:Rep K G (.int k) v):v=.int k:=by rw [Rep] at h;exact h
theorem cb {K:W.Frag} {G:Hp} {v:V} (h:Rep K G .non v):v=.non:=by rw [Rep] at h;exact h
theorem bx {K:W.Frag} {G:Hp} {l:List Nat} {v:V} (h:Rep K G (.str l) v):v=.str (S l)∧l.length≤sizeLine:=by rw [Rep] at h;exact h
inductive OfT (K:W.Frag) (G:Hp) (l:List D) (v:V):Prop
 | mk (p:Addr) (xs:List V) (e:v=.ref p) (q:SqT K G p xs) (r:Reps K G l xs):OfT K G l v
inductive OfL (K:W.Frag) (G:Hp) (l:List D) (v:V):Prop
 | mk (p:Addr) (xs:List V) (e:v=.ref p) (q:SqL K G p xs) (r:Reps K G l xs):OfL K G l v
theorem bp {K:W.Frag} {G:Hp} {l:List D} {v:V} (h:Rep K G (.tup l) v):OfT K G l v:=by
 rw [Rep] at h
 obtain ⟨p,xs,e,q,r⟩:=h
 exact ⟨p,xs,e,SqT.of q,r⟩
theorem sW {K:W.Frag} {G:Hp} {l:List D} {v:V} (h:Rep K G (.tup l) v):∃ p xs,v=.ref p∧G p=some (.tup xs)∧Reps K G l xs:=by rw [Rep] at h;exact h
theorem bB {K:W.Frag} {G:Hp} {l:List D} {v:V} (h:Rep K G (.lst l) v):OfL K G l v:=by
 rw [Rep] at h
 obtain ⟨p,xs,e,q,r⟩:=h
 exact ⟨p,xs,e,q,r⟩
theorem bC {K:W.Frag} {G H:Hp} {k:Int} {v:V} (h:Vw K G H (.int k) v):v=.int k:=bG (K:=K) (G:=G) h
theorem gk {K:W.Frag} {G H:Hp} {l:List Nat} {v:V} (h:Vw K G H (.str l) v):v=.str (S l)∧l.length≤sizeLine:=bx (K:=K) (G:=G) h
theorem hW {K:W.Frag} {G H:Hp} {l:List D} {v:V} (h:Vw K G H (.tup l) v):OfT K G l v:=bp (K:=K) (G:=G) h
noncomputable def zS (g g':D→D→Res R) (fa fb fc:FO):FX:=fun env=>(fa env).bind fun p=>(fb p.2).bind fun q=>(Eg q.2 p.1).bind fun a=>(Eg q.2 q.1).bind fun b=>(g a b).bind fun r=>match r with
 | (.f,.bl true)=>(fc q.2).bind fun t=>(Eg t.2 q.1).bind fun b=>(Eg t.2 t.1).bind fun c=>(g' b c).bind fun r=>.ok (r,t.2)
 | (.f,.bl false)=>.ok ((.f,.bl false),q.2)
 | _=>.bad
inductive rC (K:W.Frag) (g:List D→Res R) (xs:List V) (H:Hp) (Q:VK):Prop
 | mk:∀ G fp es vs ds r,Goes K H G fp es vs r Q→Ko K G H ds xs→g ds=.ok r→rC K g xs H Q
noncomputable def bg (g:List D→Res R) (fs:Fq):FX:=fun env=>(fs env).bind fun p=>(mY p.2 p.1).bind fun ds=>(g ds).bind fun r=>.ok (r,p.2)
theorem sX {gg:List D→Res R} {fs:Fq} {σ:L2.St} {H:Hp} {Q:VK} (h:tQ X.K (bg gg fs) σ H Q):NN (rC X.K gg) (tOs X.K fs) σ H Q:=by
 obtain ⟨G,env,fp,r,env',rel,e,k⟩:=h
 obtain ⟨⟨os,e1⟩,ha,e⟩:=ar e
 obtain ⟨ds,hd,e⟩:=ar e
 obtain ⟨r',hr,e⟩:=ar e
 cases e
 exact ⟨G,env,fp,os,e1,rel,ha,fun vs H1 G1 Ef D9 DV Fi=>⟨G1,Ef,e1,σ,ds,r,⟨DV,fun v H' G' D0 st Ek=>k v H' G' D0 (D9.trans st) Ek⟩,DV.vws Fi hd,hr⟩⟩
variable {x:Str} {p:Pos} {e:Expr} {es:List Expr} {gg:List D→Res R} {fs:Fq} {id T:String}
theorem aU (hc:dE X (.builtin id) (rC X.K gg)) (hg:Gl X x) (hm:X.mg x=none) (hv:bootBuiltins x=some (.builtin id)) (ha:IB X (e :: es) fs) (hn:x≠"__name__":=by decide) (Gi:(x == ("__debug__" : Str))=false:=by decide)
  (he:starEach (e :: es) X.env=(false,eval e X.env) :: starEach es X.env:=by rfl) (FZ:(backTo pos (starEach es X.env)).any (·.1)=false:=by rfl):QE X (.Call (.Name x p) (e :: es) [] pos) (bg gg fs):=
 bU (pR hc hg hm hv ha hn Gi he FZ) fun _ _ _=>sX
theorem bD (hc:dE X (.type T) (rC X.K gg)) (hg:Gl X x) (hm:X.mg x=none) (hv:bootBuiltins x=some (.type T)) (ha:IB X (e :: es) fs) (hn:x≠"__name__":=by decide) (Gi:(x == ("__debug__" : Str))=false:=by decide)
  (he:starEach (e :: es) X.env=(false,eval e X.env) :: starEach es X.env:=by rfl) (FZ:(backTo pos (starEach es X.env)).any (·.1)=false:=by rfl):QE X (.Call (.Name x p) (e :: es) [] pos) (bg gg fs):=
 bU (rZ hc hg hm hv ha hn Gi he FZ) fun _ _ _=>sX
inductive spF (K:W.Frag) (F:List D→Res R) (vs:List V) (H:Hp) (Q:VK) (zz:XK):Prop
 | mk:∀ G ds r,Same G H→Reps K G ds vs→F ds=.ok r→(∀ v H' G' D0,Step G H [] G' H' D0→Rel K G' H' [some r] [some v] D0→Q v H')→spF K F vs H Q zz
noncomputable def c7 (F:List D→Res R) (fs:Fq):FX:=fun env=>(fs env).bind fun p=>(nS p.2 p.1).bind fun ds=>(F ds).bind fun r=>.ok (r,if bS r.1 r.2 then p.2 else p.2.map frz)
theorem aT {F:List D→Res R} {k:Nat} (C:Ct X.prog X.w X.K X.mg X.base x k (spF X.K F)) (hr:Room k X.A) (hg:Gl X x) (ha:IB X (e :: es) fs) (Gi:(x == ("__debug__" : Str))=false:=by decide)
  (he:starEach (e :: es) X.env=(false,eval e X.env) :: starEach es X.env:=by rfl) (FZ:(backTo pos (starEach es X.env)).any (·.1)=false:=by rfl):QE X (.Call (.Name x p) (e :: es) [] pos) (c7 F fs):=
 bU (BV C hr hg ha Gi he FZ) fun σ H Q D6=>by
  obtain ⟨G,env,fp,r,env',rel,e,k⟩:=D6
  obtain ⟨⟨os,e1⟩,ha,e⟩:=ar e
  obtain ⟨ds,hd,e⟩:=ar e
  obtain ⟨r',hr,e⟩:=ar e
  refine ⟨G,env,fp,os,e1,rel,ha,fun vs H1 G1 Ef D9 DV Fi=>?_⟩
  show spF X.K F (vs++[]) H1 Q _
  rw [List.append_nil]
  obtain ⟨G2,N8,N9,GU,_,IQ⟩:=DV.lend
  refine ⟨G2,ds,r',N9,nU N8 GU Fi hd,hr,fun v H' G' D0 st Ek=>?_⟩
  obtain ⟨k1,k2⟩:=IQ H' G' D0 r' v st Ek
  by_cases hc:bS r'.1 r'.2=true
  ·rw [if_pos hc] at e
   cases e
   obtain ⟨G3,Gj,Ez,Et⟩:=k1 hc
   exact k v H' G3 Gj (D9.trans Ez) Et
  ·rw [if_neg hc] at e
   cases e
   obtain ⟨G3,Gj,Ez,Et⟩:=k2
   exact k v H' G3 Gj (D9.trans Ez) Et
end
noncomputable def sSeq (g1 g2:FS):FS:=fun env=>(g1 env).bind fun o=>match o with
 | .nx e=>g2 e
 | o=>.ok o
noncomputable def cR:FS:=fun env=>.ok (.nx env)
noncomputable def bE (i:Nat) (f:FX):FS:=fun env=>(f env).bind fun p=>if i < p.2.length then .ok (.nx (p.2.set i (some p.1))) else .bad
noncomputable def ir (f:FX):FS:=fun env=>(f env).bind fun p=>.ok (.nx p.2)
noncomputable def d5 (f:FX):FS:=fun env=>(f env).bind fun p=>.ok (.rt p.1)
noncomputable def Fs (c:FT) (g h:FS):FS:=fun env=>(c env).bind fun p=>if p.1 then g p.2 else h p.2
section
variable {md:Mode} {X:Cx} {st:Stmt} {OO:List Stmt} {g h:FS} {f:FX} {c:FT} {pos:Pos} {e:Expr}
theorem ba:Jr (md:=md) X [] cR:=sS wW fun D σ H ⟨G,env,fp,rel,k⟩=>k σ H G fp .refl rel
theorem ax (a:QS (md:=md) X st g):Jr (md:=md) X [st] g:=wX a
theorem ag (a:QS (md:=md) X st g) (b:Jr (md:=md) X OO h):Jr (md:=md) X (st :: OO) (sSeq g h):=sS (uO a b) fun D σ H D6=>by
 obtain ⟨G,env,fp,rel,k⟩:=D6
 refine ⟨G,env,fp,rel,?_⟩
 have k:OutOk X.K G H fp D ((g env).bind fun o=>match o with | .nx e=>h e | o=>.ok o):=k
 match q:g env,k with
 | .ok (.nx DR),k=>exact fun σ1 H1 G1 Ef D9 DV=>⟨G1,DR,Ef,DV,OutOk.after D9 k⟩
 | .ok (.bk DR),k=>exact k
 | .ok (.ct DR),k=>exact k
 | .ok (.rt r),k=>exact k
theorem sY {K:W.Frag} {G H:Hp} {fp:List Addr} {D:Ends} {i:Nat} {env:PV.Env} {σ:L2.St} (rel:Rel K G H env σ fp) (k:OutOk (md:=md) K G H fp D (bE i f env)):tQ K f σ H fun v H'=>D.nx (σ.set i (some v)) H':=by
 unfold bE at k
 match q:f env,k with
 | .ok (r,DR),k=>
  have k:OutOk K G H fp D (if i < DR.length then .ok (.nx (DR.set i (some r))) else .bad):=k
  by_cases hi:i < DR.length
  ·rw [if_pos hi] at k
   refine ⟨G,env,fp,r,DR,rel,q,fun v H1 G1 Ef D9 DV=>?_⟩
   obtain ⟨fq,DU,D1⟩:=DV.store hi
   exact k _ H1 G1 fq (D9.trans D1) DU
  ·rw [if_neg hi] at k
   exact k.elim
theorem aI {i:Nat} {x:Str} {pos':Pos} (hN:X.N.Nodup) (hi:X.N[i]?=some x) (hx:Loc X.env.scope x) (he:QE X e f) (hs:swapsWith e (some (.Name x pos')) pos.line X.env=pure false:=by rfl) (hf:X.fn x=true∨X.env.scope.names.lookup x=some .local:=by first | exact .inl rfl | exact .inr rfl | assumption) :
  QS (md:=md) X (.Assign [.Name x pos'] e pos) (bE i f):=hV (zc (i:=i) hN hi hx he hs hf) fun D σ H ⟨G,env,fp,rel,k⟩=>sY rel k
theorem dF (he:QE X e f) (hs:swapsWith e none pos.line X.env=pure false:=by rfl):QS (md:=md) X (.Expr e pos) (ir f):=hV (wY he hs) fun D σ H D6=>by
 obtain ⟨G,env,fp,rel,k⟩:=D6
 unfold ir at k
 match q:f env,k with
 | .ok (r,DR),k=>
  refine ⟨G,env,fp,r,DR,rel,q,fun v H1 G1 Ef D9 DV=>?_⟩
  obtain ⟨b,DU,D1⟩:=DV.drop
  exact k _ H1 G1 b (D9.trans D1) DU
theorem Rel.only {K:W.Frag} {G H:Hp} {r:R} {v:V} {es:PV.Env} {vs:L2.St} {fp:List Addr} (q:Rel K G H (some r :: es) (some v :: vs) fp):∃ a,Rel K G H [some r] [some v] a∧Step G H fp G H a:=by
 obtain ⟨y,ys,e,v',a,b,e1,e2,r1,r2⟩:=q.rep
 cases e
 cases e1
 subst e2
 have nd:=List.nodup_append.mp q.nd
 exact ⟨a,⟨⟨some v,[],rfl,v,a,[],rfl,(List.append_nil _).symm,r1,rfl,rfl⟩,nd.1,fun p hp=>q.gn p (List.mem_append_left _ hp),q.gh⟩,Step.cut fun p hp=>List.mem_append_left _ hp⟩
theorem aV (he:QE X e f):QS (md:=.plain) X (.Return (some e) pos) (d5 f):=hV (y8 he) fun D σ H D6=>by
 obtain ⟨G,env,fp,rel,k⟩:=D6
 unfold d5 at k
 match q:f env,k with
 | .ok (r,DR),k=>
  refine ⟨G,env,fp,r,DR,rel,q,fun v H1 G1 Ef D9 DV=>?_⟩
  obtain ⟨b,DU,D1⟩:=DV.only
  exact k _ H1 G1 b (D9.trans D1) DU
theorem Rel.nilF {K:W.Frag} {G H:Hp} {es:PV.Env} {vs:L2.St} {fp:List Addr} (q:Rel K G H es vs fp):Rel K G H [] [] []:=⟨⟨rfl,rfl⟩,List.nodup_nil,(fun _ h=>nomatch h),q.gh⟩
theorem de {a b:List Stmt} {ct:Expr} (hc:QT X ct c) (ha:Jr (md:=md) X a g) (hb:Jr (md:=md) X b h):QS (md:=md) X (.If ct a b pos) (Fs c g h):=hV (BA hc ha hb) fun D σ H D6=>by
 obtain ⟨G,env,fp,rel,k⟩:=D6
 unfold Fs at k
 match q:c env,k with
 | .ok (true,DR),k=>exact ⟨G,env,fp,true,DR,rel,q,fun H1 G1 Ef D9 DV=>BS ⟨G1,DR,Ef,DV,OutOk.after D9 k⟩⟩
 | .ok (false,DR),k=>exact ⟨G,env,fp,false,DR,rel,q,fun H1 G1 Ef D9 DV=>iteF ⟨G1,DR,Ef,DV,OutOk.after D9 k⟩⟩
noncomputable def cA (c:FT) (g:FS):Nat→FS
 | 0,_=>.bad
 | n + 1,env=>(c env).bind fun p=>if p.1 then (g p.2).bind fun o=>match o with
  | .nx e=>cA c g n e
  | .ct e=>cA c g n e
  | .bk e=>.ok (.nx e)
  | .rt r=>.ok (.rt r)
  else .ok (.nx p.2)
theorem j3 {ct:Expr} {body:List Stmt} (n:Nat) (hp:PassesOwn (model X.prog X.w) X.A X.env X.xe) (hc:QT X ct c) (hb:Jr (md:=md) X body g):QS (md:=md) X (.While ct body [] pos) (cA c g n):=
 hV (uQ hp hc hb) fun D σ H D6=>by
  obtain ⟨G,env,fp,rel,k⟩:=D6
  refine ⟨fun m σ' H'=>∃ G' env' D0,Rel X.K G' H' env' σ' D0∧OutOk X.K G' H' D0 D (cA c g m env'),⟨n,G,env,fp,rel,k⟩,?_⟩
  rintro m σ1 H1 ⟨G1,DR,Ef,DV,k1⟩
  cases m with
  | zero=>exact k1.elim
  | succ m=>
   unfold cA at k1
   match q:c DR,k1 with
   | .ok (false,DZ),k1=>exact ⟨G1,DR,Ef,false,DZ,DV,q,fun H2 G2 EC D1 DU=>iteF (k1 _ H2 G2 EC D1 DU)⟩
   | .ok (true,DZ),k1=>
    refine ⟨G1,DR,Ef,true,DZ,DV,q,fun H2 G2 EC D1 DU=>BS ?_⟩
    refine ⟨fun σ' H'=>∃ G' env' D0,Rel X.K G' H' env' σ' D0∧OutOk X.K G' H' D0 D (cA c g m env'),fun σ' H' z=>⟨m,Nat.lt_succ_self _,z⟩,G2,DZ,EC,DU,?_⟩
    have k2:OutOk X.K G1 H1 Ef D ((g DZ).bind fun o=>match o with | .nx e=>cA c g m e | .ct e=>cA c g m e | .bk e=>.ok (.nx e) | .rt r=>.ok (.rt r)):=k1
    match q2:g DZ,k2 with
    | .ok (.nx e),k2=>exact fun σ' H' G' D0 st rel=>⟨G',e,D0,rel,OutOk.after (D1.trans st) k2⟩
    | .ok (.ct e),k2=>exact fun σ' H' G' D0 st rel=>⟨G',e,D0,rel,OutOk.after (D1.trans st) k2⟩
    | .ok (.bk e),k2=>exact fun σ' H' G' D0 st rel=>k2 σ' H' G' D0 (D1.trans st) rel
    | .ok (.rt r),k2=>exact fun v H' G' D0 st rel=>k2 v H' G' D0 (D1.trans st) rel
def Walk (K:W.Frag) (G:Hp) (J:It) (ds:List D):Prop:=∀ G' H' es vs fp,Same G G'→Rel K G' H' es vs fp→∀ i:Nat,
 (∀ d,ds[i]?=some d→J.go i H'∧∀ x H2,J.yld i H' x H2→∃ G2,Rep K G2 d x∧Rel K G2 H2 es vs fp∧Step G' H' fp G2 H2 fp)∧(i=ds.length→J.stop i H')
abbrev FI:=PV.Env→Res (List D×PV.Env)
inductive tQI (K:W.Frag) (f:FI) (σ:L2.St) (H:Hp) (R:It→Hp→Prop):Prop
 | mk:∀ G env fp ds env',Rel K G H env σ fp→f env=.ok (ds,env')→(∀ J H' G' D0,Step G H fp G' H' D0→Rel K G' H' env' σ D0→Walk K G' J ds→R J H')→tQI K f σ H R
def QI (X:Cx) (tg e:Expr) (f:FI):Prop:=PI X tg e (tQI X.K f)
theorem jB {X:Cx} {tg e:Expr} {t t':TI} (h:PI X tg e t) (k:∀ σ H R,t' σ H R→t σ H R):PI X tg e t':=fun pins s σ H R I w=>h pins s σ H R I (k σ H R w)
abbrev FG:=D→PV.Env→Res PV.Env
inductive tQG (K:W.Frag) (a:FG) (v:V) (σ:L2.St) (H:Hp) (Q:L2.St→Hp→Prop):Prop
 | mk:∀ G env fp d env',Rel K G H env σ fp→Rep K G d v→a d env=.ok env'→(∀ σ' G' D0,Step G H fp G' H D0→Rel K G' H env' σ' D0→Q σ' H)→tQG K a v σ H Q
def QG (X:Cx) (tg:Expr) (a:FG):Prop:=PG X tg (tQG X.K a)
noncomputable def aw (i:Nat):FG:=fun d env=>if i < env.length then .ok (env.set i (some (.f,d))) else .bad
theorem wy {X:Cx} {tg:Expr} {t t':TG} (h:PG X tg t) (k:∀ v σ H Q,t' v σ H Q→t v σ H Q):PG X tg t':=fun pins s σ H v u Q I r w=>h pins s σ H v u Q I r (k v σ H Q w)
theorem sZ {X:Cx} {tg:List Expr} {t t':Kj} (h:KA X tg t) (k:∀ v σ H Q,t' v σ H Q→t v σ H Q):KA X tg t':=fun pins s σ H v u Q I r w=>h pins s σ H v u Q I r (k v σ H Q w)
theorem aD {i:Nat} {x:Str} (hN:X.N.Nodup) (hi:X.N[i]?=some x) (hx:Loc X.env.scope x) (hf:X.fn x=true∨X.env.scope.names.lookup x=some .local:=by first | exact .inl rfl | exact .inr rfl | assumption):QG X (.Name x pos) (aw i):=
 wy (wZ (i:=i) hN hi hx hf) fun v σ H Q D6=>by
  obtain ⟨G,env,fp,d,env',rel,r,e,k⟩:=D6
  unfold aw at e
  split at e
  ·rename_i hl
   cases e
   obtain ⟨fq,DU,D1⟩:=(rel.push r).store hl
   exact k _ G fq D1 DU
  ·cases e
abbrev JG:=List D→PV.Env→Res PV.Env
inductive tQGs (K:W.Frag) (a:JG) (vs:List V) (σ:L2.St) (H:Hp) (Q:L2.St→Hp→Prop):Prop
 | mk:∀ G env fp ds env',Rel K G H env σ fp→Reps K G ds vs→a ds env=.ok env'→(∀ σ' G' D0,Step G H fp G' H D0→Rel K G' H env' σ' D0→Q σ' H)→tQGs K a vs σ H Q
def Np (X:Cx) (tg:List Expr) (a:JG):Prop:=KA X tg (tQGs X.K a)
noncomputable def cB:JG:=fun ds env=>match ds with
 | []=>.ok env
 | _=>.bad
noncomputable def aG (a:FG) (b:JG):JG:=fun ds env=>match ds with
 | d :: ds=>(a d env).bind fun e=>b ds e
 | _=>.bad
theorem cT:Np X [] cB:=sZ w4 fun vs σ H Q D6=>by
 obtain ⟨G,env,fp,ds,env',rel,r,e,k⟩:=D6
 cases ds with
 | nil=>
  cases e
  rw [Reps] at r
  exact ⟨r,k σ G fp .refl rel⟩
 | cons d ds=>cases e
theorem aM {tg:Expr} {HZ:List Expr} {a:FG} {b:JG} (h1:QG X tg a) (h2:Np X HZ b) (hs:(assignEach (tg :: HZ) X.env).map (·.2)=assign tg X.env :: (assignEach HZ X.env).map (·.2):=by rfl):Np X (tg :: HZ) (aG a b):=
 sZ (uP h1 h2 hs) fun vs σ H Q D6=>by
  obtain ⟨G,env,fp,ds,env',rel,r,e,k⟩:=D6
  cases ds with
  | nil=>cases e
  | cons d ds=>
   rw [Reps] at r
   obtain ⟨y,ys,ev,r1,r2⟩:=r
   obtain ⟨DR,e1,e2⟩:=ar e
   exact ⟨y,ys,ev,G,env,fp,d,DR,rel,r1,e1,fun σ1 G1 Ef D9 DV=>⟨G1,DR,Ef,ds,env',DV,r2.mono D9.gg,e2,fun σ2 G2 EC D1 DU=>k σ2 G2 EC (D9.trans D1) DU⟩⟩
noncomputable def g8 (n:Nat) (a:JG):FG:=fun d env=>match d with
 | .tup ds=>if ds.length=n then a ds env else .bad
 | _=>.bad
theorem eR {HZ:List Expr} {k n:Nat} {a:JG} (hc:X.calm=true) (h:Np X HZ a) (hn:(assignEach HZ X.env).length=n:=by rfl) (Hk:(assignEach HZ X.env).findIdx? (·.1)=none:=by rfl):QG X (.Tuple HZ k pos) (g8 n a):=
 wy (za hc h hn Hk) fun v σ H Q D6=>by
  obtain ⟨G,env,fp,d,env',rel,r,e,k⟩:=D6
  unfold g8 at e
  split at e
  ·rename_i ds
   split at e
   ·rename_i hl
    obtain ⟨p,xs,ev,sq,rs⟩:=bp r
    exact ⟨p,xs,ev,bP rel.gh sq,rs.length.trans hl,G,env,fp,ds,env',rel,rs,e,k⟩
   ·cases e
  ·cases e
noncomputable def jC (a:FG) (g:FS):List D→FS
 | [],env=>.ok (.nx env)
 | d :: ds,env=>(a d env).bind fun e=>(g e).bind fun o=>match o with
  | .nx e=>jC a g ds e
  | .ct e=>jC a g ds e
  | .bk e=>.ok (.nx e)
  | .rt r=>.ok (.rt r)
noncomputable def lI (f:FI) (a:FG) (g:FS):FS:=fun env=>(f env).bind fun p=>jC a g p.1 p.2
theorem dt {tg iter:Expr} {body:List Stmt} {fi:FI} {a:FG} (hp:PassesOwn (model X.prog X.w) X.A X.env X.xe) (hc:X.calm=true) (hi:QI X tg iter fi) (hg:QG X tg a) (hb:Jr (md:=md) X body g) (hs:∀ x,foldedSetIterable iter X.env x=pure x:=by intro _;rfl):QS (md:=md) X (.For tg iter body [] pos) (lI fi a g):=
 hV (zf hp hc hi hg hb hs) fun D σ H D6=>by
  obtain ⟨G,env,fp,rel,k⟩:=D6
  unfold lI at k
  match q:fi env,k with
  | .ok (ds,DR),k=>
   refine ⟨G,env,fp,ds,DR,rel,q,fun J H1 G1 Ef D9 DV wk=>?_⟩
   have k:OutOk X.K G H fp D (jC a g ds DR):=k
   refine ⟨fun i m σ' H'=>m=ds.length - i∧i≤ds.length∧∃ G' env' D0,Same G1 G'∧Rel X.K G' H' env' σ' D0∧OutOk X.K G' H' D0 D (jC a g (ds.drop i) env'),⟨_,rfl,Nat.zero_le _,G1,DR,Ef,.refl _,DV,OutOk.after D9 k⟩,?_⟩
   rintro i m σ2 H2 ⟨rfl,hi,G2,DZ,EC,gg,DU,k2⟩
   obtain ⟨w1,w2⟩:=wk G2 H2 _ _ _ gg DU i
   by_cases Eu:i < ds.length
   ·have hd:ds[i]?=some ds[i]:=List.getElem?_eq_getElem Eu
    obtain ⟨go,yl⟩:=w1 _ hd
    rw [List.drop_eq_getElem_cons Eu] at k2
    refine .inr ⟨go,fun σ' H'=>∃ G' env' D0,Same G1 G'∧Rel X.K G' H' env' σ' D0∧OutOk X.K G' H' D0 D (jC a g (ds.drop (i + 1)) env'),fun σ' H' z=>⟨ds.length - (i + 1),by lia,rfl,Eu,z⟩,fun x H3 y=>?_⟩
    obtain ⟨G3,rx,Et,Ez⟩:=yl x H3 y
    unfold jC at k2
    match q3:a ds[i] DZ,k2 with
    | .ok E9,k2=>
     refine ⟨G3,DZ,EC,ds[i],E9,Et,rx,q3,fun σ4 G4 Ma Fy ES=>⟨G4,E9,Ma,ES,?_⟩⟩
     have k3:OutOk X.K G2 H2 EC D ((g E9).bind fun o=>match o with | .nx e=>jC a g (ds.drop (i + 1)) e | .ct e=>jC a g (ds.drop (i + 1)) e | .bk e=>.ok (.nx e) | .rt r=>.ok (.rt r)):=k2
     match q4:g E9,k3 with
     | .ok (.nx e),k3=>exact fun σ' H' G' D0 st rel=>⟨G',e,D0,gg.trans (Ez.gg.trans (Fy.gg.trans st.gg)),rel,OutOk.after (Ez.trans (Fy.trans st)) k3⟩
     | .ok (.ct e),k3=>exact fun σ' H' G' D0 st rel=>⟨G',e,D0,gg.trans (Ez.gg.trans (Fy.gg.trans st.gg)),rel,OutOk.after (Ez.trans (Fy.trans st)) k3⟩
     | .ok (.bk e),k3=>exact fun σ' H' G' D0 st rel=>k3 σ' H' G' D0 (Ez.trans (Fy.trans st)) rel
     | .ok (.rt r),k3=>exact fun v H' G' D0 st rel=>k3 v H' G' D0 (Ez.trans (Fy.trans st)) rel
   ·have e:i=ds.length:=by lia
    subst e
    rw [List.drop_length] at k2
    exact .inl ⟨w2 rfl,k2 σ2 H2 G2 EC .refl DU⟩
noncomputable def zT (f:FX):FI:=fun env=>(f env).bind fun p=>match p.1.2 with
 | .lst ds=>.ok (ds,p.2)
 | _=>.bad
noncomputable def gm (f:FX):FI:=fun env=>(f env).bind fun p=>match p.1.2 with
 | .tup ds=>.ok (ds,p.2)
 | _=>.bad
variable {tg l:Expr}
theorem nV {K:W.Frag} {G:Hp} {a:Addr} {xs:List V} {ds:List D} (sq:SqL K G a xs) (rs:Reps K G ds xs):Walk K G (Lw K a) ds:=by
 intro G' H' es vs fp gg rel i
 have Fj:SqL K H' a xs:=g0 rel.gh (g0 gg sq)
 refine ⟨fun d hd=>?_,fun e=>⟨xs,Fj,by rw [rs.length];lia⟩⟩
 obtain ⟨x,hx,rx⟩:=rs.get hd
 refine ⟨⟨xs,x,Fj,hx⟩,fun y H2 ⟨e,hy⟩=>?_⟩
 subst e
 have:=hy xs Fj
 rw [hx] at this
 cases this
 exact ⟨G',Rep.mono gg rx,rel,.refl⟩
theorem vA {K:W.Frag} {G:Hp} {a:Addr} {xs:List V} {ds:List D} (sq:SqT K G a xs) (rs:Reps K G ds xs):Walk K G (NI K a) ds:=by
 intro G' H' es vs fp gg rel i
 have Fj:SqT K H' a xs:=bP rel.gh (bP gg sq)
 refine ⟨fun d hd=>?_,fun e=>⟨xs,Fj,by rw [rs.length];lia⟩⟩
 obtain ⟨x,hx,rx⟩:=rs.get hd
 refine ⟨⟨xs,x,Fj,hx⟩,fun y H2 ⟨e,hy⟩=>?_⟩
 subst e
 have:=hy xs Fj
 rw [hx] at this
 cases this
 exact ⟨G',Rep.mono gg rx,rel,.refl⟩
theorem xP (h:QE X l f):QI X tg l (zT f):=jB (rN h) fun σ H R D6=>by
 obtain ⟨G,env,fp,ds,env',rel,e,k⟩:=D6
 obtain ⟨⟨⟨o,d⟩,DR⟩,e1,e⟩:=ar e
 dsimp only at e
 split at e
 ·cases e
  refine ⟨G,env,fp,_,_,rel,e1,fun v H1 G1 Ef D9 DV=>?_⟩
  obtain ⟨G2,b,rv,DU,D1⟩:=DV.freeze
  obtain ⟨p,xs,ev,sq,rs⟩:=bB rv
  exact ⟨p,ev,⟨xs,g0 DU.gh sq⟩,k _ H1 G2 b (D9.trans D1) DU (nV sq rs)⟩
 ·cases e
theorem hX (h:QE X l f):QI X tg l (gm f):=jB (ze h) fun σ H R D6=>by
 obtain ⟨G,env,fp,ds,env',rel,e,k⟩:=D6
 obtain ⟨⟨⟨o,d⟩,DR⟩,e1,e⟩:=ar e
 dsimp only at e
 split at e
 ·cases e
  refine ⟨G,env,fp,_,_,rel,e1,fun v H1 G1 Ef D9 DV=>?_⟩
  obtain ⟨G2,b,rv,DU,D1⟩:=DV.freeze
  obtain ⟨p,xs,ev,sq,rs⟩:=bp rv
  exact ⟨p,ev,⟨xs,bP DU.gh sq⟩,k _ H1 G2 b (D9.trans D1) DU (vA sq rs)⟩
 ·cases e
noncomputable def gq (f:FX):FI:=fun env=>(f env).bind fun p=>match p.1.2 with
 | .str l=>.ok (l.map fun c=>.str [c],p.2)
 | _=>.bad
theorem hZ (h:QE X l f):QI X tg l (gq f):=jB (zH h) fun σ H R D6=>by
 obtain ⟨G,env,fp,ds,env',rel,e,k⟩:=D6
 obtain ⟨⟨⟨o,d⟩,DR⟩,e1,e⟩:=ar e
 dsimp only at e
 split at e
 ·rename_i cs
  cases e
  refine ⟨G,env,fp,_,_,rel,e1,fun v H1 G1 Ef D9 DV=>?_⟩
  obtain ⟨G2,b,rv,DU,D1⟩:=DV.freeze
  obtain ⟨ev,hl⟩:=bx rv
  refine ⟨cs,ev,k _ H1 G2 b (D9.trans D1) DU fun G' H' es vs D0 gg Ek i=>⟨fun d hd=>?_,fun e=>?_⟩⟩
  ·rw [List.getElem?_map] at hd
   cases hc:cs[i]? with
   | none=>rw [hc] at hd;cases hd
   | some c=>
    rw [hc] at hd
    cases hd
    refine ⟨(List.getElem?_eq_some_iff.mp hc).1,fun x H2 ⟨e1,e2⟩=>?_⟩
    subst e1
    refine ⟨G',?_,Ek,.refl⟩
    rw [e2]
    show Rep X.K G' (.str [c]) (.str (S [cs.getD i 0]))
    rw [List.getD_eq_getElem?_getD,hc]
    exact iq (by rw [line_eq];simp)
  ·rw [List.length_map] at e
   exact e
 ·cases e
noncomputable def d6 (f:FO):FI:=fun env=>(f env).bind fun p=>(Eg p.2 p.1).bind fun d=>match d with
 | .int j=>if -4611686018427387904≤j∧j < 4611686018427387904 then .ok ((List.range j.toNat).map fun (k:Nat)=>D.int (k:Int),p.2) else .bad
 | _=>.bad
theorem lJ {K:W.Frag} {G:Hp} (lo:Int) (n:Nat):Walk K G (LO lo n) ((List.range n).map fun (k:Nat)=>D.int (lo + (k:Int))):=by
 intro G' H' es vs fp gg rel i
 refine ⟨fun d hd=>?_,fun e=>?_⟩
 ·rw [List.getElem?_map] at hd
  cases hc:(List.range n)[i]? with
  | none=>rw [hc] at hd;cases hd
  | some c=>
   rw [hc] at hd
   cases hd
   obtain ⟨h1,h2⟩:=List.getElem?_eq_some_iff.mp hc
   rw [List.length_range] at h1
   rw [List.getElem_range] at h2
   subst h2
   refine ⟨h1,fun x H2 ⟨e1,e2⟩=>?_⟩
   subst e1
   exact ⟨G',by rw [e2];exact bu _,rel,.refl⟩
 ·rw [List.length_map,List.length_range] at e
  exact Nat.le_of_eq e.symm
theorem cU {a:Expr} {fa:FO} {p pos:Pos} (hg:Gl X "range") (hm:X.mg "range" = none) (ha:QO X a fa) (hs:starEach [a] X.env=[(false,eval a X.env)]:=by rfl):QI X tg (.Call (.Name "range" p) [a] [] pos) (d6 fa):=
 jB (rO hg hm (af ha aq hs) hs) fun σ H R D6=>by
  obtain ⟨G,env,fp,ds,env',rel,e,k⟩:=D6
  obtain ⟨⟨o,DR⟩,e1,e⟩:=ar e
  obtain ⟨d,e2,e⟩:=ar e
  dsimp only at e
  split at e
  ·rename_i j
   split at e
   ·rename_i hj
    cases e
    refine ⟨G,env,fp,[o],_,rel,by show (fa env).bind _=_;rw [e1];rfl,fun vs H1 G1 Ef D9 DV Fi=>?_⟩
    obtain ⟨y,ys,ev,k1,k2⟩:=Fi
    have k2:ys=[]:=k2
    subst k2
    have hv:=bC (DV.vw k1 e2)
    subst hv
    refine ⟨j,ev,by lia,by lia,k _ H1 G1 Ef D9 DV ?_⟩
    have w:=lJ (K:=X.K) (G:=G1) 0 j.toNat
    simpa using w
   ·cases e
  ·cases e
noncomputable def o6 (fs:Fq):FI:=fun env=>(fs env).bind fun p=>(mY p.2 p.1).bind fun d=>match d with
 | [.int i,.int j]=>if (-4611686018427387904≤i∧i < 4611686018427387904)∧-4611686018427387904≤j∧j < 4611686018427387904 then .ok ((List.range (j - i).toNat).map fun (k:Nat)=>D.int (i + (k:Int)),p.2) else .bad
 | _=>.bad
theorem tf {a b:Expr} {fs:Fq} {p pos:Pos} (hg:Gl X "range") (hm:X.mg "range" = none) (ha:IB X [a,b] fs) (hs:starEach [a,b] X.env=[(false,eval a X.env),(false,eval b X.env)]:=by rfl) (Kk:starEach [b] X.env=[(false,eval b X.env)]:=by rfl) :
  QI X tg (.Call (.Name "range" p) [a,b] [] pos) (o6 fs):=
 jB (rP hg hm ha hs Kk) fun σ H R D6=>by
  obtain ⟨G,env,fp,ds,env',rel,e,k⟩:=D6
  obtain ⟨⟨o,DR⟩,e1,e⟩:=ar e
  obtain ⟨d,e2,e⟩:=ar e
  dsimp only at e
  split at e
  ·rename_i i j
   split at e
   ·rename_i hj
    cases e
    refine ⟨G,env,fp,o,_,rel,e1,fun vs H1 G1 Ef D9 DV Fi=>?_⟩
    obtain ⟨y,ys,ev,v1,z,zs,Oa,v2,e3⟩:=DV.vws Fi e2
    have e3:zs=[]:=e3
    subst e3
    have h1:=bC v1
    have h2:=bC v2
    subst h1
    subst h2
    subst Oa
    exact ⟨i,j,ev,⟨by lia,by lia,by lia,by lia⟩,k _ H1 G1 Ef D9 DV (lJ i _)⟩
   ·cases e
  ·cases e
noncomputable def ji (k:Bool):D→Res (List D)
 | .lst ds=>if k then .ok ds else .bad
 | .tup ds=>if k then .bad else .ok ds
 | _=>.bad
noncomputable def qW (k1 k2:Bool) (fs:Fq):FI:=fun env=>(fs env).bind fun p=>match p.1 with
 | [.val d1,.val d2]=>(ji k1 d1).bind fun a=>(ji k2 d2).bind fun b=>.ok ((a.zip b).map fun z=>D.tup [z.1,z.2],p.2)
 | _=>.bad
theorem qe {K:W.Frag} {G:Hp} {k:Bool} {d:D} {ds:List D} {v:V} (e:ji k d=.ok ds) (r:Rep K G d v):∃ p xs,v=.ref p∧(if k then SqL K G p xs else SqT K G p xs)∧Reps K G ds xs:=by
 cases d with
 | lst es=>
  cases k with
  | true=>
   cases e
   obtain ⟨p,xs,e1,q,rs⟩:=bB r
   exact ⟨p,xs,e1,q,rs⟩
  | false=>cases e
 | tup es=>
  cases k with
  | true=>cases e
  | false=>
   cases e
   obtain ⟨p,xs,e1,q,rs⟩:=bp r
   exact ⟨p,xs,e1,q,rs⟩
 | _=>cases e
theorem mn {K:W.Frag} {G G':Hp} {k:Bool} {p:Addr} {xs:List V} (h:Same G G') (r:if k then SqL K G p xs else SqT K G p xs):if k then SqL K G' p xs else SqT K G' p xs:=by
 cases k with
 | true=>exact g0 h r
 | false=>exact bP h r
theorem vB {K:W.Frag} {G:Hp} {k1 k2:Bool} {p1 p2:Addr} {xs ys:List V} {as bs:List D} (s1:if k1 then SqL K G p1 xs else SqT K G p1 xs) (s2:if k2 then SqL K G p2 ys else SqT K G p2 ys) (r1:Reps K G as xs) (r2:Reps K G bs ys) :
  Walk K G (NZ K k1 k2 p1 p2) ((as.zip bs).map fun z=>D.tup [z.1,z.2]):=by
 intro G' H' es vs fp gg rel i
 have g1:=mn (gg.trans rel.gh) s1
 have g2:=mn (gg.trans rel.gh) s2
 refine ⟨fun d hd=>?_,fun e=>⟨xs,ys,g1,g2,?_⟩⟩
 ·rw [List.getElem?_map] at hd
  cases hz:(as.zip bs)[i]? with
  | none=>rw [hz] at hd;cases hd
  | some z=>
   rw [hz] at hd
   cases hd
   obtain ⟨h1,h2⟩:=List.getElem?_zip_eq_some.mp hz
   obtain ⟨x,hx,rx⟩:=r1.get h1
   obtain ⟨y,hy,ry⟩:=r2.get h2
   refine ⟨⟨xs,ys,x,y,g1,g2,hx,hy⟩,fun v H2 ⟨T,hT,ev,hh⟩=>?_⟩
   have e2:=hh xs ys x y g1 g2 hx hy
   subst e2
   obtain ⟨DU,D1⟩:=rel.newF (u:=.tup [x,y]) hT
   refine ⟨_,?_,DU,D1⟩
   rw [Rep]
   exact ⟨T,[x,y],ev,bI,.cons (Rep.mono (gg.trans D1.gg) rx) (.one (Rep.mono (gg.trans D1.gg) ry))⟩
 ·rw [List.length_map,List.length_zip] at e
  rw [r1.length,r2.length]
  exact e
theorem qf (k1 k2:Bool) {HZ:List Expr} {kt:Nat} {pt:Pos} {e1 e2:Expr} {fs:Fq} {p pos:Pos} (hg:Gl X "zip") (hm:X.mg "zip" = none) (ha:IB X [e1,e2] fs) (he:starEach [e1,e2] X.env=(false,eval e1 X.env) :: starEach [e2] X.env:=by rfl) (FZ:(backTo pos (starEach [e2] X.env)).any (·.1)=false:=by rfl) :
  QI X (.Tuple HZ kt pt) (.Call (.Name "zip" p) [e1,e2] [] pos) (qW k1 k2 fs):=
 jB (zL k1 k2 hg hm ha he FZ) fun σ H R D6=>by
  obtain ⟨G,env,fp,ds,env',rel,e,k⟩:=D6
  obtain ⟨⟨o,DR⟩,e1,e⟩:=ar e
  dsimp only at e
  split at e
  ·rename_i d1 d2
   obtain ⟨a,ea,e⟩:=ar e
   obtain ⟨b,eb,e⟩:=ar e
   cases e
   refine ⟨G,env,fp,_,_,rel,e1,fun vs H1 G1 Ef D9 DV Fi=>?_⟩
   obtain ⟨y,ys,ev,v1,z,zs,Oa,v2,e3⟩:=Fi
   have e3:zs=[]:=e3
   subst e3
   obtain ⟨p1,xs1,ep1,q1,r1⟩:=qe ea v1
   obtain ⟨p2,LD,ep2,q2,r2⟩:=qe eb v2
   subst ep1
   subst ep2
   subst Oa
   exact ⟨p1,p2,xs1,LD,ev,mn DV.gh q1,mn DV.gh q2,k _ H1 G1 Ef D9 DV (vB q1 q2 r1 r2)⟩
  ·cases e
end
noncomputable def fBody (np nn:Nat) (g:FS):List D→Res R:=fun ds=>if ds.length=np then (g (ds.map (fun d=>some (O.f,d))++List.replicate nn none)).bind fun o=>match o with
 | .rt r=>.ok r
 | .nx _=>.ok (.f,.non)
 | _=>.bad
 else .bad
theorem kl {K:W.Frag} {G H:Hp} (n:Nat):∀ {ds:List D} {vs:List V},Reps K G ds vs→RepE K G H (ds.map (fun d=>some (O.f,d))++List.replicate n none) (vs.map some++List.replicate n none) []
 | [],vs,r=>by
  rw [Reps] at r
  subst r
  show RepE K G H (List.replicate n none) (List.replicate n none) []
  induction n with
  | zero=>exact ⟨rfl,rfl⟩
  | succ n ih=>exact ⟨none,_,rfl,ih⟩
 | d :: ds,vs,r=>by
  rw [Reps] at r
  obtain ⟨y,ys,e,r1,r2⟩:=r
  subst e
  exact ⟨some y,_,rfl,y,[],[],rfl,rfl,jz.mpr ⟨r1,rfl⟩,kl n r2⟩
theorem du {P:Program} {w:World} {K:W.Frag} {mg:Str→Option Value} {base:Heap} {x:Str} {st:Stmt} {N ps:List Str} {k:Nat} {g:FS} (Df:Def K mg x st) (sc:FnScope N ps (defScope st))
  (hb:∀ (kV doc pm:Value) (an:Option Addr) (Ej ct:Value) (us:List Value),us.length=ps.length→bindArgs (PySem.W.fnOf x x (gj st) (dY st) (defScope st) .none kV doc pm an Ej ct) ⟨us,[]⟩=pure (ps.zip us))
  (body:∀ (f:Addr) (Ej:Value) (A:Around) (outer:List PySem.Env) (s:Shared) (H:Hp) (E:XK),Room k (A.deeper (envOfC x (defScope st) s.heap.objs.size f Ej))→Jr (md:=.plain) (v7 IJ P w K mg base N x (defScope st) f Ej A outer s H E).nox (dY st) g) :
  Ct P w K mg base x (k + 1) (spF K (fBody ps.length (N.length - ps.length) g)):=by
 obtain ⟨f,fd,F,m⟩:=Df
 refine ⟨f,fd,ps,F.ok sc (fun vs H Q E h=>?_) (fun Ej A outer s H vs Q E hr h=>?_),m,F.kp,F.binds hb⟩
 ·obtain ⟨G,ds,r,_,rs,e,_⟩:=h
  unfold fBody at e
  split at e
  ·rename_i hl
   rw [rs.length,hl]
  ·cases e
 ·obtain ⟨G,ds,r,gh,rs,e,q⟩:=h
  unfold fBody at e
  split at e
  ·rename_i hl
   refine ⟨_,body f Ej A outer s H E hr,G,ds.map (fun d=>some (O.f,d))++List.replicate (N.length - ps.length) none,[],⟨?_,List.nodup_nil,(fun _ h=>nomatch h),gh⟩,?_⟩
   ·have:=kl (K:=K) (G:=G) (H:=H) (N.length - ps.length) rs
    unfold L2.start
    rw [rs.length,hl]
    exact this
   ·obtain ⟨o,eo,e⟩:=ar e
    rw [eo]
    cases o with
    | rt r'=>
     cases e
     exact fun v H' G' D0 st rel=>q v H' G' D0 st rel
    | nx env'=>
     cases e
     exact fun σ' H' G' D0 st rel=>q .non H' G' [] (st.trans (Step.cut fun _ h=>nomatch h)) (rel.nilF.push o5)
    | bk env'=>cases e
    | ct env'=>cases e
  ·cases e
noncomputable def d7 (ix:List (Option Nat)) (env:PV.Env):PV.Env:=ix.map fun j=>j.bind fun j=>match env[j]? with
 | some (some r)=>some (O.f,r.2)
 | _=>none
noncomputable def eS:FT:=fun env=>.ok (true,env)
noncomputable def cH (a:FG) (c:FT) (f:FX):List D→PV.Env→Res (List D)
 | [],_=>.ok []
 | d :: ds,env=>(a d env).bind fun e=>(c e).bind fun p=>if p.1 then (f p.2).bind fun q=>(cH a c f ds q.2).bind fun rs=>.ok (q.1.2 :: rs) else cH a c f ds p.2
noncomputable def dv (fi:FI) (ix:List (Option Nat)) (a:FG) (c:FT) (f:FX):FX:=fun env=>(fi env).bind fun p=>(cH a c f p.1 (d7 ix p.2)).bind fun ds=>if ds.length≤sizeLine then .ok ((.l .f,.lst ds),if flatDs ds then p.2 else p.2.map frz) else .bad
theorem mq:∀ ds,ds.all (bS .f)=flatDs ds
 | []=>rfl
 | d :: ds=>by rw [List.all_cons,flatDs,mq ds,bS]
theorem gr {K:W.Frag} {G1 H:Hp} {es:PV.Env} {σ:L2.St} (ht:∀ (i:Nat) (r:R) (v:V),es[i]?=some (some r)→σ[i]?=some (some v)→Rep K G1 r.2 v) (hv:∀ (i:Nat) (r:R),es[i]?=some (some r)→∃ v,σ[i]?=some (some v)) :
  ∀ ix:List (Option Nat),RepE K G1 H (d7 ix es) (lF ix σ) []
 | []=>⟨rfl,rfl⟩
 | none :: ix=>⟨none,_,rfl,gr ht hv ix⟩
 | some j :: ix=>by
  show RepE K G1 H ((match es[j]? with | some (some r)=>some (O.f,r.2) | _=>none) :: d7 ix es) ((σ[j]?).bind id :: lF ix σ) []
  cases e:es[j]? with
  | none=>exact ⟨_,_,rfl,gr ht hv ix⟩
  | some r=>
   cases r with
   | none=>exact ⟨_,_,rfl,gr ht hv ix⟩
   | some r=>
    obtain ⟨v,ev⟩:=hv j r e
    refine ⟨_,_,rfl,v,[],[],?_,rfl,jz.mpr ⟨ht j r v e ev,rfl⟩,gr ht hv ix⟩
    rw [ev]
    rfl
section
variable {md:Mode} {X:Cx} {scope:Scope} {N:List Str} {tg iter elt:Expr} {ifs:List Expr} {pos:Pos} {fi:FI} {a:FG} {c:FT} {f:FX}
def Ob (X:Cx) (ifs:List Expr) (c:FT):Prop:=LZ X ifs (tQT X.K c)
theorem bQ:Ob X [] eS:=fun pins s σ H Q I D6=>by
 obtain ⟨G,env,fp,b,env',rel,e,k⟩:=D6
 cases e
 exact xp pins s σ H Q I (k H G fp .refl rel)
end
section
variable {X:Cx}
inductive rCatS (K:W.Frag) (x:V) (y:V) (H:Hp) (Q:VK):Prop
 | mk:∀ l b xs zs,x=.ref l→y=.ref b→SqL K H l xs→SqL K H b zs→xs.length + zs.length≤sizeLine→(∀ p,H p=none→Q (.ref p) (upd H p (.lst (xs++zs))))→rCatS K x y H Q
theorem xQ:EE X (binaryOp .Add) (rCatS X.K):=by
 intro pins s σ H x y v u Q I rx ry h
 obtain ⟨l,b,xs,zs,rfl,rfl,hH,hB,hz,q⟩:=h
 cases rx
 cases ry
 obtain ⟨DS,r1,p1,_⟩:=I.list hH
 obtain ⟨HS,r2,p2,_⟩:=I.list hB
 have l1:=r1.length
 have l2:=r2.length
 obtain ⟨⟨cls,dd,data,sl⟩,ho,hc,n,hd⟩:=id p1.isList
 obtain ⟨⟨KD,Jm,data2,Jn⟩,FA,GQ,n2,hd2⟩:=id p2.isList
 simp only at hc hd GQ hd2
 subst hc hd GQ hd2
 have e:DS.toArray++HS.toArray=(DS++HS).toArray:=by simp
 refine concat_meets ⟨_,ho,rfl⟩ ⟨_,FA,rfl⟩ noFill_list_add seq_list_add PySem.F.slot_list_add PySem.F.entry_list_add (PySem.F.args_list_add_2 _ _) (list_addW l b DS.toArray HS.toArray n n2 dd Jm sl Jn (by rw [List.size_toArray,List.size_toArray];lia)) ⟨ho,FA,?_⟩
 rw [e]
 exact ⟨.ref _,_,I.lnew (t':=s.toks) (r1.append r2) (by rw [List.length_append];lia),rfl,q _ I.fresh⟩
end
noncomputable def addD:D→D→Res R
 | .int i,.int j=>.ok (.f,.int (i + j))
 | .str a,.str b=>if a.length + b.length≤sizeLine then .ok (.f,.str (a++b)) else .bad
 | .lst a,.lst b=>if a.length + b.length≤sizeLine then .ok (.l .f,.lst (a++b)) else .bad
 | .tup a,.tup b=>if a≠[]∧a.length + b.length≤sizeLine then .ok (.f,.tup (a++b)) else .bad
 | _,_=>.bad
section
variable {X:Cx}
theorem mr {K:W.Frag} {G H:Hp} {fp:List Addr} {es:PV.Env} {vs:L2.St} {ds:List D} {xs:List V} {p:Addr} (rel:Rel K G H es vs fp) (hp:H p=none) (r:Reps K G ds xs) :
  ∃ G',Rel K G' (upd H p (.tup xs)) (some (.f,.tup ds) :: es) (some (.ref p) :: vs) fp∧Step G H fp G' (upd H p (.tup xs)) fp:=by
 obtain ⟨DU,D1⟩:=rel.newF (u:=.tup xs) hp
 refine ⟨_,DU.push ?_,D1⟩
 rw [Rep]
 exact ⟨p,xs,rfl,bI,r.mono D1.gg⟩
theorem zU:EE X (binaryOp .Add) (rG X.K addD):=by
 rintro pins s σ H x y v u Q I rx ry ⟨G,fp,es,vs,a,b,r,⟨rel,k⟩,va,vb,e⟩
 unfold addD at e
 split at e
 ·rename_i i j
  cases e
  cases bC va
  cases bC vb
  exact zg pins s σ H _ _ v u Q I rx ry ⟨i,j,rfl,rfl,k _ H G fp .refl (rel.push (bu _))⟩
 ·rename_i i j
  split at e
  ·rename_i hl
   cases e
   obtain ⟨e1,h1⟩:=gk va
   obtain ⟨e2,h2⟩:=gk vb
   subst e1
   subst e2
   refine qM pins s σ H _ _ v u Q I rx ry ⟨_,_,rfl,rfl,by rw [lr,lr];exact hl,?_⟩
   rw [BU]
   exact k _ H G fp .refl (rel.push (iq (by rw [List.length_append];exact hl)))
  ·cases e
 ·rename_i i j
  split at e
  ·rename_i hl
   cases e
   obtain ⟨p,xs,e1,h1,r1⟩:=va
   obtain ⟨p2,LD,e2,h2,r2⟩:=vb
   subst e1
   subst e2
   refine xQ pins s σ H _ _ v u Q I rx ry ⟨p,p2,xs,LD,rfl,rfl,h1,h2,by rw [r1.length,r2.length];exact hl,fun q hq=>?_⟩
   obtain ⟨DU,D1⟩:=rel.newL hq (r1.app r2)
   exact k _ _ G _ D1 DU
  ·cases e
 ·rename_i i j
  split at e
  ·rename_i hl
   cases e
   obtain ⟨p,xs,e1,h1,r1⟩:=hW va
   obtain ⟨p2,LD,e2,h2,r2⟩:=hW vb
   subst e1
   subst e2
   have hx:xs≠[]:=fun z=>hl.1 (List.eq_nil_of_length_eq_zero (by rw [←r1.length,z];rfl))
   refine xh pins s σ H _ _ v u Q I rx ry ⟨p,p2,xs,LD,rfl,rfl,bP rel.gh h1,bP rel.gh h2,hx,by rw [r1.length,r2.length];exact hl.2,fun z=>?_,fun z q hq=>?_⟩
   ·have:j=[]:=List.eq_nil_of_length_eq_zero (by rw [←r2.length,z];rfl)
    subst this
    rw [List.append_nil] at k
    exact k _ H G fp .refl (rel.push va)
   ·obtain ⟨G',DU,D1⟩:=mr rel hq (r1.app r2)
    exact k _ _ G' _ D1 DU
  ·cases e
 ·cases e
noncomputable def o7:D→D→Res R
 | .int i,.int j=>.ok (.f,.int (i - j))
 | _,_=>.bad
theorem iN:EE X (binaryOp .Sub) (rG X.K o7):=by
 rintro pins s σ H x y v u Q I rx ry ⟨G,fp,es,vs,a,b,r,⟨rel,k⟩,va,vb,e⟩
 unfold o7 at e
 split at e
 ·rename_i i j
  cases e
  cases bC va
  cases bC vb
  exact zh pins s σ H _ _ v u Q I rx ry ⟨i,j,rfl,rfl,k _ H G fp .refl (rel.push (bu _))⟩
 ·cases e
noncomputable def cN (i:Int):Bool:=decide (-(2 ^ 64) < i∧i < 2 ^ 64)
noncomputable def B4:D→D→Res R
 | .int i,.int j=>if cN i || cN j then .ok (.f,.int (i * j)) else .bad
 | _,_=>.bad
theorem zV:EE X (binaryOp .Mult) (rG X.K B4):=by
 rintro pins s σ H x y v u Q I rx ry ⟨G,fp,es,vs,a,b,r,⟨rel,k⟩,va,vb,e⟩
 unfold B4 at e
 split at e
 ·rename_i i j
  split at e
  ·rename_i hc
   cases e
   cases bC va
   cases bC vb
   have hc:CMul i j:=by
    rw [Bool.or_eq_true] at hc
    exact hc.imp of_decide_eq_true of_decide_eq_true
   exact zi pins s σ H _ _ v u Q I rx ry ⟨i,j,rfl,rfl,hc,k _ H G fp .refl (rel.push (bu _))⟩
  ·cases e
 ·cases e
noncomputable def dw:D→D→Res R
 | .int i,.int j=>if 0 < j∧j < 1073741824 then .ok (.f,.int (i / j)) else .bad
 | _,_=>.bad
theorem bX:EE X (binaryOp .FloorDiv) (rG X.K dw):=by
 rintro pins s σ H x y v u Q I rx ry ⟨G,fp,es,vs,a,b,r,⟨rel,k⟩,va,vb,e⟩
 unfold dw at e
 split at e
 ·rename_i i j
  split at e
  ·rename_i hc
   cases e
   cases bC va
   cases bC vb
   exact w5 pins s σ H _ _ v u Q I rx ry ⟨i,j,rfl,rfl,hc,k _ H G fp .refl (rel.push (bu _))⟩
  ·cases e
 ·cases e
noncomputable def eZ:D→D→Res R
 | .int i,.int j=>if 0 < j then .ok (.f,.int (i % j)) else .bad
 | _,_=>.bad
theorem bq:EE X (binaryOp .Mod) (rG X.K eZ):=by
 rintro pins s σ H x y v u Q I rx ry ⟨G,fp,es,vs,a,b,r,⟨rel,k⟩,va,vb,e⟩
 unfold eZ at e
 split at e
 ·rename_i i j
  split at e
  ·rename_i hc
   cases e
   cases bC va
   cases bC vb
   exact zj pins s σ H _ _ v u Q I rx ry ⟨i,j,rfl,rfl,hc,k _ H G fp .refl (rel.push (bu _))⟩
  ·cases e
 ·cases e
noncomputable def vC:D→D→Res R
 | .int i,.int j=>if 0≤j∧j≤1000000∧i.natAbs < 2 ^ 64 then .ok (.f,.int (i ^ j.toNat)) else .bad
 | _,_=>.bad
theorem tj:EE X (binaryOp .Pow) (rG X.K vC):=by
 rintro pins s σ H x y v u Q I rx ry ⟨G,fp,es,vs,a,b,r,⟨rel,k⟩,va,vb,e⟩
 unfold vC at e
 split at e
 ·rename_i i j
  split at e
  ·rename_i hc
   cases e
   cases bC va
   cases bC vb
   exact zk pins s σ H _ _ v u Q I rx ry ⟨i,j,rfl,rfl,hc,k _ H G fp .refl (rel.push (bu _))⟩
  ·cases e
 ·cases e
noncomputable def LB:D→D→Res R
 | .int i,.int j=>.ok (.f,.bl (decide (i < j)))
 | .str a,.str b=>.ok (.f,.bl (decide (a < b)))
 | _,_=>.bad
theorem B5:EE X (compareOp .Lt) (rG X.K LB):=by
 rintro pins s σ H x y v u Q I rx ry ⟨G,fp,es,vs,a,b,r,⟨rel,k⟩,va,vb,e⟩
 unfold LB at e
 split at e
 ·rename_i i j
  cases e
  cases bC va
  cases bC vb
  exact BJ pins s σ H _ _ v u Q I rx ry ⟨i,j,rfl,rfl,k _ H G fp .refl (rel.push (dq _))⟩
 ·rename_i i j
  cases e
  obtain ⟨e1,h1⟩:=gk va
  obtain ⟨e2,h2⟩:=gk vb
  subst e1
  subst e2
  refine rS pins s σ H _ _ v u Q I rx ry ⟨_,_,rfl,rfl,?_⟩
  rw [dZ,dZ]
  exact k _ H G fp .refl (rel.push (dq _))
 ·cases e
noncomputable def OP:D→D→Res R
 | .int i,.int j=>.ok (.f,.bl (decide (i≤j)))
 | .str a,.str b=>.ok (.f,.bl (!decide (b < a)))
 | _,_=>.bad
noncomputable def Nq:D→D→Res R
 | .int i,.int j=>.ok (.f,.bl (decide (j < i)))
 | _,_=>.bad
theorem B6:EE X (compareOp .Gt) (rG X.K Nq):=by
 rintro pins s σ H x y v u Q I rx ry ⟨G,fp,es,vs,a,b,r,⟨rel,k⟩,va,vb,e⟩
 unfold Nq at e
 split at e
 ·rename_i i j
  cases e
  cases bC va
  cases bC vb
  exact BK pins s σ H _ _ v u Q I rx ry ⟨i,j,rfl,rfl,k _ H G fp .refl (rel.push (dq _))⟩
 ·cases e
noncomputable def geD:D→D→Res R
 | .int i,.int j=>.ok (.f,.bl (decide (j≤i)))
 | _,_=>.bad
end
abbrev FDs:=PV.Env→Res (List D×PV.Env)
inductive tDs (K:W.Frag) (f:FDs) (σ:L2.St) (H:Hp) (Q:List V→Hp→Prop):Prop
 | mk:∀ G env fp ds env',Rel K G H env σ fp→f env=.ok (ds,env')→(∀ vs H' G' D0,Step G H fp G' H' D0→Rel K G' H' env' σ D0→Reps K G' ds vs→Q vs H')→tDs K f σ H Q
def Mb (X:Cx) (es:List Expr) (f:FDs):Prop:=PA X es (tDs X.K f)
noncomputable def a7:FDs:=fun env=>.ok ([],env)
noncomputable def az (f:FX) (g:FDs):FDs:=fun env=>(f env).bind fun p=>(g p.2).bind fun q=>.ok (p.1.2 :: q.1,q.2)
section
variable {X:Cx}
theorem aN:Mb X [] a7:=p8 nh fun σ H Q D6=>by
 obtain ⟨G,env,fp,o,env',rel,e,k⟩:=D6
 cases e
 exact k [] H G fp .refl rel .nil
theorem au {e:Expr} {es:List Expr} {f:FX} {g:FDs} (h:QE X e f) (hs:Mb X es g) (Hk:starEach (e :: es) X.env=(false,eval e X.env) :: starEach es X.env:=by rfl):Mb X (e :: es) (az f g):=
 p8 (gf h hs Hk) fun σ H Q D6=>by
  obtain ⟨G,env,fp,o,env',rel,e,k⟩:=D6
  obtain ⟨⟨r,DR⟩,e1,e⟩:=ar e
  obtain ⟨⟨ds,DZ⟩,e2,e⟩:=ar e
  cases e
  refine ⟨G,env,fp,r,DR,rel,e1,fun v H1 G1 Ef D9 DV=>?_⟩
  obtain ⟨G2,b,rv,DU,D1⟩:=DV.freeze
  exact ⟨G2,DR,b,ds,DZ,DU,e2,fun vs H3 G3 Gj Ez Et rs=>k _ H3 G3 Gj (D9.trans (D1.trans Ez)) Et (.cons (Rep.mono Ez.gg rv) rs)⟩
noncomputable def g9 (fs:FDs):FX:=fun env=>(fs env).bind fun p=>if p.1.length≤1000 then .ok ((.f,.tup p.1),p.2) else .bad
noncomputable def jD (fs:FDs):FX:=fun env=>(fs env).bind fun p=>if p.1.length≤1000 then .ok ((.l .f,.lst p.1),p.2) else .bad
variable {es:List Expr} {fs:FDs} {pos:Pos}
theorem cj {x1} (h:Mb X es fs):QE X (.Tuple es x1 pos) (g9 fs):=bU (v5 h) fun σ H Q D6=>by
 obtain ⟨G,env,fp,r,env',rel,e,k⟩:=D6
 obtain ⟨⟨ds,DR⟩,e1,e⟩:=ar e
 dsimp only at e
 split at e
 ·rename_i hl
  cases e
  refine ⟨G,env,fp,ds,env',rel,e1,fun vs H1 G1 Ef D9 DV rs=>⟨by rw [rs.length,line_eq];lia,fun p hp=>?_⟩⟩
  obtain ⟨G2,DU,D1⟩:=mr DV hp rs
  exact k _ _ G2 _ (D9.trans D1) DU
 ·cases e
theorem cx (h:Mb X es fs):QE X (.List es pos) (jD fs):=bU (zm h) fun σ H Q D6=>by
 obtain ⟨G,env,fp,r,env',rel,e,k⟩:=D6
 obtain ⟨⟨ds,DR⟩,e1,e⟩:=ar e
 dsimp only at e
 split at e
 ·rename_i hl
  cases e
  refine ⟨G,env,fp,ds,env',rel,e1,fun vs H1 G1 Ef D9 DV rs=>⟨by rw [rs.length,line_eq];lia,fun p hp=>?_⟩⟩
  obtain ⟨DU,D1⟩:=DV.newL hp rs
  exact k _ _ G1 _ (D9.trans D1) DU
 ·cases e
noncomputable def D3:D→D→Res R
 | .lst ds,.int i=>match EV ds i with
  | some d=>.ok (.f,d)
  | none=>.bad
 | .tup ds,.int i=>match EV ds i with
  | some d=>.ok (.f,d)
  | none=>.bad
 | .str l,.int i=>match EV l i with
  | some c=>.ok (.f,.str [c])
  | none=>.bad
 | _,_=>.bad
theorem qg {K:W.Frag} {G:Hp} {ds:List D} {xs:List V} {i:Int} {d:D} (r:Reps K G ds xs) (e:EV ds i=some d):∃ v,EV xs i=some v∧Rep K G d v:=by
 unfold EV at e ⊢
 rw [r.length]
 cases hn:ixN ds.length i with
 | none=>rw [hn] at e;cases e
 | some j=>
  rw [hn] at e
  exact r.get e
theorem B7:LS X (rG X.K D3):=by
 rintro value slice pins s σ H x y v u Q I rx ry ⟨G,fp,es,vs,a,b,r,⟨rel,k⟩,va,vb,e⟩ hs
 unfold D3 at e
 split at e
 ·rename_i ds i
  split at e
  ·rename_i d hd
   cases e
   obtain ⟨p,xs,ev,sq,rs⟩:=va
   subst ev
   cases bC vb
   obtain ⟨w',hw,HU⟩:=qg rs hd
   exact xi value slice pins s σ H _ _ v u Q I rx ry ⟨p,xs,i,w',rfl,rfl,sq,hw,k _ H G fp .refl (rel.push HU)⟩ hs
  ·cases e
 ·rename_i ds i
  split at e
  ·rename_i d hd
   cases e
   obtain ⟨p,xs,ev,sq,rs⟩:=hW va
   subst ev
   cases bC vb
   obtain ⟨w',hw,HU⟩:=qg rs hd
   exact zr value slice pins s σ H _ _ v u Q I rx ry ⟨p,xs,i,w',rfl,rfl,bP rel.gh sq,hw,k _ H G fp .refl (rel.push HU)⟩ hs
  ·cases e
 ·rename_i l i
  split at e
  ·rename_i c hc
   cases e
   obtain ⟨ev,hl⟩:=gk va
   subst ev
   cases bC vb
   refine zt value slice pins s σ H _ _ v u Q I rx ry ⟨_,i,c,rfl,rfl,by rw [lr];exact hl,by rw [dZ];exact hc,?_⟩ hs
   exact k _ H G fp .refl (rel.push (iq (l:=[c]) (by rw [line_eq];simp)))
  ·cases e
 ·cases e
variable {a b:Expr} {fa fb:FO}
theorem aO (ha:QO X a fa) (hb:QO X b fb) (hs:sd b:=by exact fun _ _=>rfl):QE X (.Subscript a b pos) (ay D3 fa fb):=bU (BP B7 ha hb hs) fun _ _ _=>sT
abbrev FP:=PV.Env→Res (Option Int×PV.Env)
inductive tQP (K:W.Frag) (f:FP) (σ:L2.St) (H:Hp) (Q:Option Int→Hp→Prop):Prop
 | mk:∀ G env fp i env',Rel K G H env σ fp→f env=.ok (i,env')→(∀ H' G' D0,Step G H fp G' H' D0→Rel K G' H' env' σ D0→Q i H')→tQP K f σ H Q
def QP (X:Cx) (e:Option Expr) (f:FP):Prop:=PO X e (tQP X.K f)
noncomputable def o8:FP:=fun env=>.ok (none,env)
noncomputable def iO (f:FX):FP:=fun env=>(f env).bind fun p=>match p.1.2 with
 | .int i=>.ok (some i,p.2)
 | _=>.bad
theorem wz {X:Cx} {e:Option Expr} {t t':TO} (h:PO X e t) (k:∀ σ H Q,t' σ H Q→t σ H Q):PO X e t':=fun pins s σ H Q I w=>h pins s σ H Q I (k σ H Q w)
theorem km:QP X none o8:=wz xf fun σ H Q D6=>by
 obtain ⟨G,env,fp,i,env',rel,e,k⟩:=D6
 cases e
 exact k H G fp .refl rel
theorem dG {e:Expr} {f:FX} (h:QE X e f):QP X (some e) (iO f):=wz (xg h) fun σ H Q D6=>by
 obtain ⟨G,env,fp,i,env',rel,e,k⟩:=D6
 obtain ⟨⟨⟨o,d⟩,DR⟩,e1,e⟩:=ar e
 dsimp only at e
 split at e
 ·rename_i j
  cases e
  refine ⟨G,env,fp,_,_,rel,e1,fun v H1 G1 Ef D9 DV=>?_⟩
  have hv:=DV.top
  obtain ⟨b,DU,D1⟩:=DV.drop
  exact ⟨j,bG hv,k H1 G1 b (D9.trans D1) DU⟩
 ·cases e
noncomputable def gu {α:Type} (xs:List α) (lo hi:Option Int):List α:=(xs.drop (HT.sIx xs.length 0 lo)).take (HT.sIx xs.length xs.length hi - HT.sIx xs.length 0 lo)
noncomputable def JH (k:D) (lo hi:Option Int):Res R:=match k with
 | .lst ds=>.ok (.l .f,.lst (gu ds lo hi))
 | .tup ds=>if ¬ (HT.sIx ds.length 0 lo=0∧HT.sIx ds.length ds.length hi=ds.length) then .ok (.f,.tup (gu ds lo hi)) else .bad
 | .str l=>.ok (.f,.str (gu l lo hi))
 | _=>.bad
noncomputable def eSl (fa:FO) (lo hi:FP):FX:=fun env=>(fa env).bind fun p=>(lo p.2).bind fun q=>(hi q.2).bind fun t=>(Eg t.2 p.1).bind fun d=>(JH d q.1 t.1).bind fun r=>.ok (r,t.2)
theorem qh {K:W.Frag} {G:Hp} {ds:List D} {xs:List V} {lo hi:Option Int} (r:Reps K G ds xs):Reps K G (gu ds lo hi) (v9 xs lo hi):=by
 unfold gu v9
 rw [r.length]
 exact (r.drop _).take _
theorem xR {α:Type} (xs:List α) (lo hi:Option Int):(gu xs lo hi).length≤xs.length:=by
 unfold gu
 rw [List.length_take,List.length_drop]
 lia
inductive rSl (K:W.Frag) (x:V) (lo:Option Int) (hi:Option Int) (H:Hp) (Q:VK):Prop
 | mk:∀ G fp es vs d r,Goes K H G fp es vs r Q→Vw K G H d x→JH d lo hi=.ok r→rSl K x lo hi H Q
theorem zW:KI X (rSl X.K):=by
 rintro pins s σ H x v vl vu lo hi sl Q I rx hs pl pu ⟨G,fp,es,vs,d,r,⟨rel,k⟩,vd,e⟩
 unfold JH at e
 split at e
 ·rename_i ds
  cases e
  obtain ⟨p,xs,ev,sq,rs⟩:=vd
  subst ev
  refine xj pins s σ H _ v vl vu lo hi sl Q I rx hs pl pu ⟨p,xs,rfl,sq,fun q hq=>?_⟩
  obtain ⟨DU,D1⟩:=rel.newL hq (qh (lo:=lo) (hi:=hi) rs)
  exact k _ _ G _ D1 DU
 ·rename_i ds
  split at e
  ·rename_i hw
   cases e
   obtain ⟨p,xs,ev,sq,rs⟩:=hW vd
   subst ev
   refine zq pins s σ H _ v vl vu lo hi sl Q I rx hs pl pu ⟨p,xs,rfl,bP rel.gh sq,by rw [rs.length];exact hw,fun q hq=>?_⟩
   obtain ⟨G2,DU,D1⟩:=mr rel hq (qh (lo:=lo) (hi:=hi) rs)
   exact k _ _ G2 _ D1 DU
  ·cases e
 ·rename_i l
  cases e
  obtain ⟨ev,hl⟩:=gk vd
  subst ev
  exact zy pins s σ H _ v vl vu lo hi sl Q I rx hs pl pu ⟨l,rfl,hl,k _ H G fp .refl (rel.push (iq (l:=zx l lo hi) (Nat.le_trans (xR l lo hi) hl)))⟩
 ·cases e
noncomputable def tm (env:PV.Env) (i:Nat):Bool:=match env[i]? with
 | some (some (_,.lst _))=>true
 | _=>false
theorem vD {K:W.Frag} {G H:Hp} {es:PV.Env} {σ:L2.St} {fp:List Addr} {i:Nat} (rel:Rel K G H es σ fp) (h:tm es i=true):∃ v,σ[i]?=some (some v)∧NQ K "list" v H:=by
 unfold tm at h
 split at h
 ·rename_i o ds hr
  obtain ⟨v,ev,rv⟩:=rel.view hr
  obtain ⟨p,xs,e,sq,_⟩:=bB rv
  subst e
  exact ⟨_,ev,.inl ⟨rfl,xs,sq⟩⟩
 ·cases h
noncomputable def o9 (i:Nat) (f:FX):FX:=fun env=>if tm env i then (f env).bind fun p=>match p.2[i]? with
 | some (some (.l .f,.lst ds))=>if ds.length < sizeLine then .ok ((.f,.non),p.2.set i (some (.l .f,.lst (ds++[p.1.2])))) else .bad
 | _=>.bad
 else .bad
theorem b7 {i:Nat} {o e:Expr} {f:FX} {apos Ec:Pos} (ho:PE X o (uM i)) (he:QE X e f)
  (E7:attributeBase o "append" X.env (eval o X.env)=eval o X.env:=by rfl)
  (F5:((backTo Ec (starEach [e] X.env)).all (fun x=>!x.1) && (backToKw Ec (keywordEach [] X.env)).all (fun x=>x.1.isSome) && decide ([e].length + ([]:List Keyword).length + (if ([]:List Keyword).isEmpty then 0 else 1) < 30))=true:=by rfl)
  (E8:(apos.endLine == Ec.line)=true:=by rfl) (hs:starEach [e] X.env=(false,eval e X.env) :: starEach [] X.env:=by rfl) (EF:(backTo Ec (starEach [] X.env)).any (·.1)=false:=by rfl) :
  QE X (.Call (.Attribute o "append" apos) [e] [] Ec) (o9 i f):=by
 refine bU (xk PySem.F.plainAttrs_list PySem.F.slot_list_append PySem.F.type_list_append nF ho (au he aN hs) E7 F5 E8 hs EF) fun σ H Q Ee=>?_
 obtain ⟨G,env,fp,r,env',rel,e,k⟩:=Ee
 unfold o9 at e
 split at e
 ·rename_i hil
  obtain ⟨v,ev,ty⟩:=vD rel hil
  obtain ⟨⟨r1,DR⟩,e1,e⟩:=ar e
  dsimp only at e
  split at e
  ·rename_i ds KH
   split at e
   ·rename_i hl
    cases e
    refine ⟨v,ev,ty,G,env,fp,[r1.2],DR,rel,by show (f env).bind _=_;rw [e1];rfl,fun vs H1 G1 Ef D9 DV rs=>?_⟩
    rw [Reps] at rs
    obtain ⟨y,ys,eys,ry,rn⟩:=rs
    rw [Reps] at rn
    subst rn
    obtain ⟨p,xs,ep,hp,Mc,cg⟩:=DV.chg (ds':=ds++[r1.2]) KH
    rw [ev] at ep
    cases ep
    obtain ⟨fq,DU,D1⟩:=cg (xs++[y]) (Mc.app (.one ry))
    exact ⟨p,xs,y,rfl,eys,hp,by rw [Mc.length];exact hl,k _ _ G1 fq (D9.trans D1) (DU.push o5)⟩
   ·cases e
  ·cases e
 ·cases e
noncomputable def B8:List D→Res R
 | [.lst ds]=>.ok (.f,.int ds.length)
 | [.tup ds]=>.ok (.f,.int ds.length)
 | [.str l]=>.ok (.f,.int l.length)
 | _=>.bad
theorem mZ {K:W.Frag} {G H:Hp} {d:D} {xs:List V} (h:Ko K G H [d] xs):∃ v,xs=[v]∧Vw K G H d v:=by
 obtain ⟨y,ys,e,v1,e2⟩:=h
 have e2:ys=[]:=e2
 subst e2
 exact ⟨y,e,v1⟩
theorem CV {K:W.Frag} {G H:Hp} {d d':D} {xs:List V} (h:Ko K G H [d,d'] xs):∃ v w,xs=[v,w]∧Vw K G H d v∧Vw K G H d' w:=by
 obtain ⟨y,ys,e,v1,h2⟩:=h
 obtain ⟨z,e2,v2⟩:=mZ h2
 subst e2
 exact ⟨y,z,e,v1,v2⟩
theorem zX:dE X (.builtin "len") (rC X.K B8):=by
 rintro pins s σ H xs us Q I rx ⟨G,fp,es,vs,ds,r,⟨rel,k⟩,vd,e⟩
 unfold B8 at e
 split at e
 ·rename_i ds
  cases e
  obtain ⟨v,ev,p,ys,ep,sq,rs⟩:=mZ vd
  subst ev
  subst ep
  refine jx pins s σ H _ us Q I rx ⟨p,ys,rfl,.inl sq,?_⟩
  rw [rs.length]
  exact k _ H G fp .refl (rel.push (bu _))
 ·rename_i ds
  cases e
  obtain ⟨v,ev,vt⟩:=mZ vd
  obtain ⟨p,ys,ep,sq,rs⟩:=hW vt
  subst ev
  subst ep
  refine jx pins s σ H _ us Q I rx ⟨p,ys,rfl,.inr (bP rel.gh sq),?_⟩
  rw [rs.length]
  exact k _ H G fp .refl (rel.push (bu _))
 ·rename_i l
  cases e
  obtain ⟨v,ev,vt⟩:=mZ vd
  obtain ⟨ep,hl⟩:=gk vt
  subst ev
  subst ep
  refine ny pins s σ H _ us Q I rx ⟨S l,rfl,by rw [lr];exact hl,?_⟩
  rw [lr]
  exact k _ H G fp .refl (rel.push (bu _))
 ·cases e
noncomputable def nW:List D→Res R
 | [.lst ds]=>.ok (.l .f,.lst ds)
 | [.tup ds]=>.ok (.l .f,.lst ds)
 | _=>.bad
theorem mw:dE X (.type "list") (rC X.K nW):=by
 rintro pins s σ H xs us Q I rx ⟨G,fp,es,vs,ds,r,⟨rel,k⟩,vd,e⟩
 unfold nW at e
 split at e
 ·rename_i ds
  cases e
  obtain ⟨v,ev,p,ys,ep,sq,rs⟩:=mZ vd
  subst ev
  subst ep
  refine jy pins s σ H _ us Q I rx ⟨p,ys,rfl,.inl sq,fun q hq=>?_⟩
  obtain ⟨DU,D1⟩:=rel.newL hq rs
  exact k _ _ G _ D1 DU
 ·rename_i ds
  cases e
  obtain ⟨v,ev,vt⟩:=mZ vd
  obtain ⟨p,ys,ep,sq,rs⟩:=hW vt
  subst ev
  subst ep
  refine jy pins s σ H _ us Q I rx ⟨p,ys,rfl,.inr (bP rel.gh sq),fun q hq=>?_⟩
  obtain ⟨DU,D1⟩:=rel.newL hq rs
  exact k _ _ G _ D1 DU
 ·cases e
noncomputable def dy:List D→Res R
 | [.lst ds]=>.ok (.f,.tup ds)
 | [.tup ds]=>.ok (.f,.tup ds)
 | _=>.bad
theorem cV:dE X (.type "tuple") (rC X.K dy):=by
 rintro pins s σ H xs us Q I rx ⟨G,fp,es,vs,ds,r,⟨rel,k⟩,vd,e⟩
 unfold dy at e
 split at e
 ·rename_i ds
  cases e
  obtain ⟨v,ev,p,ys,ep,sq,rs⟩:=mZ vd
  subst ev
  subst ep
  refine iI pins s σ H _ us Q I rx ⟨p,ys,rfl,.inl ⟨sq,fun q hq=>?_⟩⟩
  obtain ⟨G2,DU,D1⟩:=mr rel hq rs
  exact k _ _ G2 _ D1 DU
 ·rename_i ds
  cases e
  obtain ⟨v,ev,vt⟩:=mZ vd
  obtain ⟨p,ys,ep,sq,rs⟩:=hW vt
  subst ev
  subst ep
  exact iI pins s σ H _ us Q I rx ⟨p,ys,rfl,.inr ⟨bP rel.gh sq,k _ H G fp .refl (rel.push vt)⟩⟩
 ·cases e
noncomputable def tq:List D→Option (List Bool)
 | []=>some []
 | .bl b :: ds=>(tq ds).map (b :: ·)
 | _=>none
noncomputable def c8:List D→Option (List Int)
 | []=>some []
 | .int b :: ds=>(c8 ds).map (b :: ·)
 | _=>none
theorem iu {K:W.Frag} {G:Hp}:∀ {ds:List D} {bs:List Int} {xs:List V},c8 ds=some bs→Reps K G ds xs→xs=bs.map V.int
 | [],_,_,e,r=>by
  cases e
  rw [Reps] at r
  exact r
 | .int b :: ds,_,_,e,r=>by
  rw [c8,Option.map_eq_some_iff] at e
  obtain ⟨bs,e1,e2⟩:=e
  subst e2
  rw [Reps] at r
  obtain ⟨y,ys,e3,r1,r2⟩:=r
  rw [e3,bG r1,iu e1 r2]
  rfl
 | .non :: _,_,_,e,_ | .bl _ :: _,_,_,e,_ | .str _ :: _,_,_,e,_ | .tup _ :: _,_,_,e,_ | .lst _ :: _,_,_,e,_ | .dct _ _ _ :: _,_,_,e,_=>by simp [c8] at e
theorem lK (ns:List Int):c8 (ns.map D.int)=some ns:=by
 induction ns with
 | nil=>rfl
 | cons n ns ih=>rw [List.map_cons,c8,ih];rfl
theorem tu (ns:List Bool):tq (ns.map D.bl)=some ns:=by
 induction ns with
 | nil=>rfl
 | cons n ns ih=>rw [List.map_cons,tq,ih];rfl
noncomputable def mx:D→Option (List D)
 | .lst ds=>some ds
 | .tup ds=>some ds
 | _=>none
theorem xS {K:W.Frag} {G H:Hp} {d:D} {ds:List D} {v:V} (gh:Same G H) (e:mx d=some ds) (h:Vw K G H d v):∃ p xs,v=.ref p∧(SqL K H p xs∨SqT K H p xs)∧Reps K G ds xs:=by
 cases d with
 | lst es=>
  cases e
  obtain ⟨p,xs,ev,sq,rs⟩:=h
  exact ⟨p,xs,ev,.inl sq,rs⟩
 | tup es=>
  cases e
  obtain ⟨p,xs,ev,sq,rs⟩:=bp h
  exact ⟨p,xs,ev,.inr (bP gh sq),rs⟩
 | _=>cases e
noncomputable def CW:List D→Res R
 | [d]=>match (mx d).bind tq with
  | some bs=>.ok (.f,.bl (bs.all id))
  | none=>.bad
 | _=>.bad
noncomputable def zY:List D→Res R
 | [d]=>match (mx d).bind c8 with
  | some ns=>.ok (.f,.int ns.sum)
  | none=>.bad
 | _=>.bad
noncomputable def maxD:List D→Res R
 | [d]=>match (mx d).bind c8 with
  | some (n :: ns)=>.ok (.f,.int (fD (n :: ns)))
  | _=>.bad
 | [.int i,.int j]=>.ok (.f,.int (if i < j then j else i))
 | _=>.bad
theorem iP {K:W.Frag} {G H:Hp} {d:D} {ns:List Int} {v:V} (gh:Same G H) (hb:(mx d).bind c8=some ns) (vt:Vw K G H d v):∃ p,v=.ref p∧(SqL K H p (ns.map V.int)∨SqT K H p (ns.map V.int)):=by
 obtain ⟨l,hl,hb⟩:=Option.bind_eq_some_iff.mp hb
 obtain ⟨p,ys,ep,sq,rs⟩:=xS gh hl vt
 have:=iu hb rs
 subst this
 exact ⟨p,ep,sq⟩
theorem zZ (hc:X.calm=true):dE X (.builtin "sum") (rC X.K zY):=by
 rintro pins s σ H xs us Q I rx ⟨G,fp,es,vs,ds,r,⟨rel,k⟩,vd,e⟩
 unfold zY at e
 split at e
 ·rename_i d
  split at e
  ·rename_i ns hb
   cases e
   obtain ⟨v,ev,vt⟩:=mZ vd
   obtain ⟨p,ep,sq⟩:=iP rel.gh hb vt
   subst ev
   subst ep
   exact sx hc pins s σ H _ us Q I rx ⟨p,ns,rfl,sq,k _ H G fp .refl (rel.push (bu _))⟩
  ·cases e
 ·cases e
end
mutual
noncomputable def eqD:D→D→Bool
 | .non,.non=>true
 | .bl a,.bl b=>a == b
 | .bl a,.int j=>(if a then 1 else 0) == j
 | .int i,.bl b=>i == (if b then 1 else 0)
 | .int i,.int j=>i == j
 | .str a,.str b=>a == b
 | .tup a,.tup b=>jj a b
 | .lst a,.lst b=>jj a b
 | _,_=>false
noncomputable def jj:List D→List D→Bool
 | [],[]=>true
 | a :: as,b :: bs=>eqD a b && jj as bs
 | _,_=>false
end
mutual
noncomputable def plainD:Nat→D→Bool
 | n + 1,.tup ds=>plainDs n ds
 | n + 1,.lst ds=>plainDs n ds
 | 0,.tup _=>false
 | 0,.lst _=>false
 | _,.dct _ _ _=>false
 | _,_=>true
noncomputable def plainDs:Nat→List D→Bool
 | _,[]=>true
 | n,d :: ds=>plainD n d && plainDs n ds
end
theorem plainDs_mem:∀ {n:Nat} {ds:List D},plainDs n ds=true→∀ {i:Nat} {d:D},ds[i]?=some d→plainD n d=true
 | _,[],_,_,_,e=>by simp at e
 | n,a :: ds,h,0,d,e=>by
  rw [plainDs,Bool.and_eq_true] at h
  simp at e
  rw [←e]
  exact h.1
 | n,a :: ds,h,i + 1,d,e=>by
  rw [plainDs,Bool.and_eq_true] at h
  exact plainDs_mem h.2 (i:=i) (by simpa using e)
theorem iQ:∀ {a b:List D},a.length≠b.length→jj a b=false
 | [],[],h=>absurd rfl h
 | [],_ :: _,_=>by simp only [jj]
 | _ :: _,[],_=>by simp only [jj]
 | x :: xs,y :: ys,h=>by
  rw [jj,iQ (fun e=>h (by simp [e])),Bool.and_false]
theorem fu:∀ {a b:List D},a.length=b.length→(List.range a.length).all (fun j=>eqD (a.getD j .non) (b.getD j .non))=jj a b
 | [],[],_=>rfl
 | [],_ :: _,h=>by simp at h
 | _ :: _,[],h=>by simp at h
 | x :: xs,y :: ys,h=>by
  rw [jj,←fu (a:=xs) (b:=ys) (by simpa using h),List.length_cons,List.range_succ_eq_map,List.all_cons,List.all_map]
  rfl
section
variable {X:Cx} {pins:List (Addr×Obj)} {σ:L2.St} {H:Hp} {s:Shared}
theorem kn (I:Inv X pins σ H s) {p:Addr} {xs ys:List V} (h:SqL X.K H p xs) (h':SqT X.K H p ys):False:=by
 obtain ⟨us,_,p1,_⟩:=I.list h
 obtain ⟨ws,_,p2,_⟩:=I.tuple h'
 exact SeqAt.ne_of_list_tuple p1.isList (show s.heap.IsTuple p ws.toArray from p2) rfl
mutual
theorem ko (I:Inv X pins σ H s):∀ (d e:D) (x:V) (n:Nat),plainD n d=true→Rep X.K H d x→Rep X.K H e x→d=e
 | .non,e,x,n,_,r,q=>by
  cases cb r
  cases e with
  | non=>rfl
  | bl b=>cases dr q
  | int i=>cases bG q
  | str l=>cases (bx q).1
  | tup l=>obtain ⟨p,xs,ev,_⟩:=bp q;cases ev
  | lst l=>obtain ⟨p,xs,ev,_⟩:=bB q;cases ev
  | dct tk ks vs=>rw [Rep] at q;obtain ⟨p,xs,o,ev,_⟩:=q;cases ev
 | .bl b,e,x,n,_,r,q=>by
  cases dr r
  cases e with
  | non=>cases cb q
  | bl b=>cases dr q;rfl
  | int i=>cases bG q
  | str l=>cases (bx q).1
  | tup l=>obtain ⟨p,xs,ev,_⟩:=bp q;cases ev
  | lst l=>obtain ⟨p,xs,ev,_⟩:=bB q;cases ev
  | dct tk ks vs=>rw [Rep] at q;obtain ⟨p,xs,o,ev,_⟩:=q;cases ev
 | .int i,e,x,n,_,r,q=>by
  cases bG r
  cases e with
  | non=>cases cb q
  | bl b=>cases dr q
  | int i=>cases bG q;rfl
  | str l=>cases (bx q).1
  | tup l=>obtain ⟨p,xs,ev,_⟩:=bp q;cases ev
  | lst l=>obtain ⟨p,xs,ev,_⟩:=bB q;cases ev
  | dct tk ks vs=>rw [Rep] at q;obtain ⟨p,xs,o,ev,_⟩:=q;cases ev
 | .str l,e,x,n,_,r,q=>by
  have hr:=(bx r).1
  subst hr
  cases e with
  | non=>cases cb q
  | bl b=>cases dr q
  | int i=>cases bG q
  | str l'=>
   have hq:=(bx q).1
   injection hq with hq
   rw [S_inj hq]
  | tup l=>obtain ⟨p,xs,ev,_⟩:=bp q;cases ev
  | lst l=>obtain ⟨p,xs,ev,_⟩:=bB q;cases ev
  | dct tk ks vs=>rw [Rep] at q;obtain ⟨p,xs,o,ev,_⟩:=q;cases ev
 | .tup l,e,x,n,h,r,q=>by
  obtain ⟨p,xs,ev,sq,rs⟩:=bp r
  subst ev
  cases e with
  | non=>cases cb q
  | bl b=>cases dr q
  | int i=>cases bG q
  | str l=>cases (bx q).1
  | tup l'=>
   obtain ⟨p',FC,FN,Fj,F0⟩:=bp q
   cases FN
   have:=I.tuple_inj sq Fj
   subst this
   cases n with
   | zero=>simp only [plainD] at h;cases h
   | succ n=>
    simp only [plainD] at h
    rw [my I l l' xs n h rs F0]
  | lst l'=>
   obtain ⟨p',FC,FN,Fj,F0⟩:=bB q
   cases FN
   exact (kn I Fj sq).elim
  | dct tk ks vs=>
   exfalso
   rw [Rep] at q
   obtain ⟨p',FC,o,FN,rd,dd,_⟩:=q
   cases FN
   obtain ⟨DS,_,ip,_⟩:=I.tuple sq
   obtain ⟨ob,ho,hc,_⟩:=ip
   have KZ:=rd.ok I.hok
   cases tk with
   | true=>
    obtain ⟨DT,eo,_⟩:=dd
    subst eo
    obtain ⟨_,_,_,_,o2,_,_,FA,ex,_⟩:=KZ
    rw [ho] at FA
    cases FA
    rw [ex.1] at hc
    exact absurd hc (by decide)
   | false=>
    obtain ⟨DT,eo,_⟩:=dd
    subst eo
    obtain ⟨_,_,_,_,o2,_,_,FA,ex,_⟩:=KZ
    rw [ho] at FA
    cases FA
    rw [ex.1] at hc
    exact absurd hc (by decide)
 | .lst l,e,x,n,h,r,q=>by
  obtain ⟨p,xs,ev,sq,rs⟩:=bB r
  subst ev
  cases e with
  | non=>cases cb q
  | bl b=>cases dr q
  | int i=>cases bG q
  | str l=>cases (bx q).1
  | tup l'=>
   obtain ⟨p',FC,FN,Fj,F0⟩:=bp q
   cases FN
   exact (kn I sq Fj).elim
  | lst l'=>
   obtain ⟨p',FC,FN,Fj,F0⟩:=bB q
   cases FN
   have:=I.list_inj sq Fj
   subst this
   cases n with
   | zero=>simp only [plainD] at h;cases h
   | succ n=>
    simp only [plainD] at h
    rw [my I l l' xs n h rs F0]
  | dct tk ks vs=>
   exfalso
   rw [Rep] at q
   obtain ⟨p',FC,o,FN,rd,dd,_⟩:=q
   cases FN
   obtain ⟨DS,_,ip,_⟩:=I.list sq
   obtain ⟨ob,_,ho,hc,_⟩:=ip
   have KZ:=rd.ok I.hok
   cases tk with
   | true=>
    obtain ⟨DT,eo,_⟩:=dd
    subst eo
    obtain ⟨_,_,_,_,o2,_,_,FA,ex,_⟩:=KZ
    rw [ho] at FA
    cases FA
    rw [ex.1] at hc
    exact absurd hc (by decide)
   | false=>
    obtain ⟨DT,eo,_⟩:=dd
    subst eo
    obtain ⟨_,_,_,_,o2,_,_,FA,ex,_⟩:=KZ
    rw [ho] at FA
    cases FA
    rw [ex.1] at hc
    exact absurd hc (by decide)
 | .dct _ _ _,_,_,n,h,_,_=>by cases n <;> (simp only [plainD] at h;cases h)
theorem my (I:Inv X pins σ H s):∀ (ds es:List D) (xs:List V) (n:Nat),plainDs n ds=true→Reps X.K H ds xs→Reps X.K H es xs→ds=es
 | [],es,xs,n,_,r,q=>by
  rw [Reps] at r
  subst r
  cases es with
  | nil=>rfl
  | cons e es=>
   rw [Reps] at q
   obtain ⟨y,ys,ev,_⟩:=q
   cases ev
 | d :: ds,es,xs,n,h,r,q=>by
  rw [Reps] at r
  obtain ⟨y,ys,ev,r1,r2⟩:=r
  subst ev
  rw [plainDs,Bool.and_eq_true] at h
  cases es with
  | nil=>
   rw [Reps] at q
   cases q
  | cons e es=>
   rw [Reps] at q
   obtain ⟨y',ys',ev,q1,q2⟩:=q
   cases ev
   rw [ko I d e y n h.1 r1 q1,my I ds es ys n h.2 r2 q2]
end
mutual
theorem iR:∀ (d:D) (n:Nat),plainD n d=true→eqD d d=true
 | .non,_,_=>by simp only [eqD]
 | .bl _,_,_=>by simp only [eqD,beq_self_eq_true]
 | .int _,_,_=>by simp only [eqD,beq_self_eq_true]
 | .str _,_,_=>by simp only [eqD,beq_self_eq_true]
 | .tup ds,0,h=>by simp only [plainD] at h;cases h
 | .tup ds,n + 1,h=>by simp only [plainD] at h;simp only [eqD];exact kq ds n h
 | .lst ds,0,h=>by simp only [plainD] at h;cases h
 | .lst ds,n + 1,h=>by simp only [plainD] at h;simp only [eqD];exact kq ds n h
 | .dct _ _ _,n,h=>by cases n <;> (simp only [plainD] at h;cases h)
theorem kq:∀ (ds:List D) (n:Nat),plainDs n ds=true→jj ds ds=true
 | [],_,_=>by simp only [jj]
 | d :: ds,n,h=>by
  rw [plainDs,Bool.and_eq_true] at h
  rw [jj,iR d n h.1,kq ds n h.2]
  rfl
end
open PySem.SeqAt
theorem bK {n:Nat} {tk:Bool} {ks vs:List D} (h:plainD n (.dct tk ks vs)=true):False:=by cases n <;> (simp only [plainD] at h;cases h)
mutual
theorem xT (I:Inv X pins σ H s):∀ (d e:D) (x y:V) (v u:Value) (A:Around) (n:Nat),plainD n d=true→plainD n e=true→A.units + n < cLine→Rep X.K H d x→Rep X.K H e y→RelV x v→RelV y u→EqAt A s v u (eqD d e)
 | .non,e,x,y,v,u,A,n,h,h',hu,r,q,rx,ry=>by
  cases cb r
  cases rx
  cases e with
  | non=>cases cb q;cases ry;simp only [eqD];exact .same _
  | bl b=>cases dr q;cases ry;simp only [eqD];exact .none_bool _
  | int i=>cases bG q;obtain ⟨t,rfl⟩:=ry;simp only [eqD];exact .none_int _ _
  | str l=>cases (bx q).1;obtain ⟨t,rfl⟩:=ry;simp only [eqD];exact .none_str _ _
  | tup l=>obtain ⟨p,xs,rfl,sq,_⟩:=bp q;cases ry;obtain ⟨DS,_,ip,_⟩:=I.tuple sq;simp only [eqD];exact .none_tuple (show s.heap.IsTuple p DS.toArray from ip) (by lia)
  | lst l=>obtain ⟨p,xs,rfl,sq,_⟩:=bB q;cases ry;obtain ⟨DS,_,ip,_⟩:=I.list sq;simp only [eqD];exact .none_list ip.isList (by lia)
  | dct tk ks vs=>exact (bK h').elim
 | .bl b,e,x,y,v,u,A,n,h,h',hu,r,q,rx,ry=>by
  cases dr r
  cases rx
  cases e with
  | non=>cases cb q;cases ry;simp only [eqD];exact .bool_none _
  | bl b=>cases dr q;cases ry;simp only [eqD];exact .bool_bool _ _
  | int i=>cases bG q;obtain ⟨t,rfl⟩:=ry;simp only [eqD];exact .bool_int _ _ _
  | str l=>cases (bx q).1;obtain ⟨t,rfl⟩:=ry;simp only [eqD];exact .bool_str _ _ _
  | tup l=>obtain ⟨p,xs,rfl,sq,_⟩:=bp q;cases ry;obtain ⟨DS,_,ip,_⟩:=I.tuple sq;simp only [eqD];exact .bool_tuple _ (show s.heap.IsTuple p DS.toArray from ip) (by lia)
  | lst l=>obtain ⟨p,xs,rfl,sq,_⟩:=bB q;cases ry;obtain ⟨DS,_,ip,_⟩:=I.list sq;simp only [eqD];exact .bool_list _ ip.isList (by lia)
  | dct tk ks vs=>exact (bK h').elim
 | .int b,e,x,y,v,u,A,n,h,h',hu,r,q,rx,ry=>by
  cases bG r
  obtain ⟨t0,rfl⟩:=rx
  cases e with
  | non=>cases cb q;cases ry;simp only [eqD];exact .int_none _ _
  | bl b=>cases dr q;cases ry;simp only [eqD];exact .int_bool _ _ _
  | int i=>cases bG q;obtain ⟨t,rfl⟩:=ry;simp only [eqD];exact .int_int _ _ _ _
  | str l=>cases (bx q).1;obtain ⟨t,rfl⟩:=ry;simp only [eqD];exact .int_str _ _ _ _
  | tup l=>obtain ⟨p,xs,rfl,sq,_⟩:=bp q;cases ry;obtain ⟨DS,_,ip,_⟩:=I.tuple sq;simp only [eqD];exact .int_tuple _ _ (show s.heap.IsTuple p DS.toArray from ip) (by lia)
  | lst l=>obtain ⟨p,xs,rfl,sq,_⟩:=bB q;cases ry;obtain ⟨DS,_,ip,_⟩:=I.list sq;simp only [eqD];exact .int_list _ _ ip.isList (by lia)
  | dct tk ks vs=>exact (bK h').elim
 | .str b,e,x,y,v,u,A,n,h,h',hu,r,q,rx,ry=>by
  have hr:=(bx r).1
  subst hr
  obtain ⟨t0,rfl⟩:=rx
  cases e with
  | non=>cases cb q;cases ry;simp only [eqD];exact .str_none _ _
  | bl b=>cases dr q;cases ry;simp only [eqD];exact .str_bool _ _ _
  | int i=>cases bG q;obtain ⟨t,rfl⟩:=ry;simp only [eqD];exact .str_int _ _ _ _
  | str l=>
   have hq:=(bx q).1
   subst hq
   obtain ⟨t,rfl⟩:=ry
   have e1:(b == l)=(S b == S l):=by
    rw [Bool.eq_iff_iff,beq_iff_eq,beq_iff_eq]
    exact ⟨fun z=>by rw [z],S_inj⟩
   simp only [eqD,e1]
   exact .str_str _ _ _ _
  | tup l=>obtain ⟨p,xs,rfl,sq,_⟩:=bp q;cases ry;obtain ⟨DS,_,ip,_⟩:=I.tuple sq;simp only [eqD];exact .str_tuple _ _ (show s.heap.IsTuple p DS.toArray from ip) (by lia)
  | lst l=>obtain ⟨p,xs,rfl,sq,_⟩:=bB q;cases ry;obtain ⟨DS,_,ip,_⟩:=I.list sq;simp only [eqD];exact .str_list _ _ ip.isList (by lia)
  | dct tk ks vs=>exact (bK h').elim
 | .tup l,e,x,y,v,u,A,n,h,h',hu,r,q,rx,ry=>by
  have rr:=r
  obtain ⟨p,xs,ev,sq,rs⟩:=bp r
  subst ev
  cases rx
  obtain ⟨DS,vl,ip,_⟩:=I.tuple sq
  have ip:s.heap.IsTuple p DS.toArray:=ip
  cases e with
  | non=>cases cb q;cases ry;simp only [eqD];exact .tuple_none ip (by lia)
  | bl b=>cases dr q;cases ry;simp only [eqD];exact .tuple_bool _ ip (by lia)
  | int i=>cases bG q;obtain ⟨t,rfl⟩:=ry;simp only [eqD];exact .tuple_int _ _ ip (by lia)
  | str l=>cases (bx q).1;obtain ⟨t,rfl⟩:=ry;simp only [eqD];exact .tuple_str _ _ ip (by lia)
  | tup l'=>
   obtain ⟨p',FC,FN,Fj,F0⟩:=bp q
   subst FN
   cases ry
   by_cases hp:p=p'
   ·subst hp
    have hz:=ko I _ _ _ n h rr q
    rw [←hz,iR _ n h]
    exact .same _
   ·obtain ⟨its',IS,Fz,_⟩:=I.tuple Fj
    have Fz:s.heap.IsTuple p' its'.toArray:=Fz
    cases n with
    | zero=>simp only [plainD] at h;cases h
    | succ n=>
     simp only [plainD] at h h'
     have l1:=vl.length
     have l2:=IS.length
     have l3:=rs.length
     have l4:=F0.length
     have key:=RcAt.tuples (A:=A) (e:=fun j=>eqD (l.getD j .non) (l'.getD j .non)) ip Fz (by lia) fun j h1 h2=>by
      simp only [List.size_toArray] at h1 h2
      have g1:l[j]?=some (l[j]'(by lia)):=List.getElem?_eq_getElem _
      have g2:l'[j]?=some (l'[j]'(by lia)):=List.getElem?_eq_getElem _
      obtain ⟨w1,Ho,Hq⟩:=rs.get g1
      obtain ⟨w2,IT,IU⟩:=F0.get g2
      obtain ⟨u1,F7,Hr⟩:=vl.get Ho
      obtain ⟨u2,GV,IV⟩:=IS.get IT
      have q1:DS.toArray[j]=u1:=by rw [List.getElem?_eq_getElem h1] at F7;simpa using F7
      have q2:its'.toArray[j]=u2:=by rw [List.getElem?_eq_getElem h2] at GV;simpa using GV
      rw [q1,q2,List.getD_eq_getElem?_getD,List.getD_eq_getElem?_getD,g1,g2]
      exact nX I l j _ g1 _ w1 w2 u1 u2 A.in1 n (plainDs_mem h g1) (plainDs_mem h' g2) (by show A.units + 1 + n < cLine;lia) Hq IU Hr IV
     simp only [eqD]
     have fin:((List.range (min DS.toArray.size its'.toArray.size)).all (fun j=>eqD (l.getD j .non) (l'.getD j .non)) && DS.toArray.size == its'.toArray.size)=jj l l':=by
      simp only [List.size_toArray]
      by_cases hl:l.length=l'.length
      ·rw [←fu hl,show min DS.length its'.length=l.length by lia,show (DS.length == its'.length)=true by rw [beq_iff_eq];lia,Bool.and_true]
      ·rw [iQ hl,show (DS.length == its'.length)=false by rw [beq_eq_false_iff_ne];lia,Bool.and_false]
     rw [←fin]
     exact .of_refs hp key
  | lst l'=>obtain ⟨p',FC,FN,Fj,_⟩:=bB q;subst FN;cases ry;obtain ⟨its',_,Fz,_⟩:=I.list Fj;simp only [eqD];exact .tuple_list ip Fz.isList (by lia)
  | dct tk ks vs=>exact (bK h').elim
 | .lst l,e,x,y,v,u,A,n,h,h',hu,r,q,rx,ry=>by
  have rr:=r
  obtain ⟨p,xs,ev,sq,rs⟩:=bB r
  subst ev
  cases rx
  obtain ⟨DS,vl,ip,_⟩:=I.list sq
  have ip:=ip.isList
  cases e with
  | non=>cases cb q;cases ry;simp only [eqD];exact .list_none ip (by lia)
  | bl b=>cases dr q;cases ry;simp only [eqD];exact .list_bool _ ip (by lia)
  | int i=>cases bG q;obtain ⟨t,rfl⟩:=ry;simp only [eqD];exact .list_int _ _ ip (by lia)
  | str l=>cases (bx q).1;obtain ⟨t,rfl⟩:=ry;simp only [eqD];exact .list_str _ _ ip (by lia)
  | lst l'=>
   obtain ⟨p',FC,FN,Fj,F0⟩:=bB q
   subst FN
   cases ry
   by_cases hp:p=p'
   ·subst hp
    have hz:=ko I _ _ _ n h rr q
    rw [←hz,iR _ n h]
    exact .same _
   ·obtain ⟨its',IS,Fz,_⟩:=I.list Fj
    have Fz:=Fz.isList
    cases n with
    | zero=>simp only [plainD] at h;cases h
    | succ n=>
     simp only [plainD] at h h'
     have l1:=vl.length
     have l2:=IS.length
     have l3:=rs.length
     have l4:=F0.length
     simp only [eqD]
     by_cases hl:l.length=l'.length
     ·have key:=RcAt.lists (A:=A) (e:=fun j=>eqD (l.getD j .non) (l'.getD j .non)) ip Fz (by simp only [List.size_toArray];lia) (by lia) fun j h1 h2=>by
       simp only [List.size_toArray] at h1 h2
       have g1:l[j]?=some (l[j]'(by lia)):=List.getElem?_eq_getElem _
       have g2:l'[j]?=some (l'[j]'(by lia)):=List.getElem?_eq_getElem _
       obtain ⟨w1,Ho,Hq⟩:=rs.get g1
       obtain ⟨w2,IT,IU⟩:=F0.get g2
       obtain ⟨u1,F7,Hr⟩:=vl.get Ho
       obtain ⟨u2,GV,IV⟩:=IS.get IT
       have q1:DS.toArray[j]=u1:=by rw [List.getElem?_eq_getElem h1] at F7;simpa using F7
       have q2:its'.toArray[j]=u2:=by rw [List.getElem?_eq_getElem h2] at GV;simpa using GV
       rw [q1,q2,List.getD_eq_getElem?_getD,List.getD_eq_getElem?_getD,g1,g2]
       exact nX I l j _ g1 _ w1 w2 u1 u2 A.in1 n (plainDs_mem h g1) (plainDs_mem h' g2) (by show A.units + 1 + n < cLine;lia) Hq IU Hr IV
      rw [←fu hl,show l.length=DS.toArray.size by simp only [List.size_toArray];lia]
      exact .of_refs hp key
     ·rw [iQ hl]
      exact .of_refs hp (RcAt.lists_lengths ip Fz (by simp only [List.size_toArray,bne_iff_ne];lia) (by lia))
  | tup l'=>obtain ⟨p',FC,FN,Fj,_⟩:=bp q;subst FN;cases ry;obtain ⟨its',_,Fz,_⟩:=I.tuple Fj;simp only [eqD];exact .list_tuple ip (show s.heap.IsTuple p' its'.toArray from Fz) (by lia)
  | dct tk ks vs=>exact (bK h').elim
 | .dct _ _ _,_,_,_,_,_,_,n,h,_,_,_,_,_,_=>(bK h).elim
theorem nX (I:Inv X pins σ H s):∀ (ds:List D) (j:Nat) (d:D),ds[j]?=some d→∀ (e:D) (x y:V) (v u:Value) (A:Around) (n:Nat),plainD n d=true→plainD n e=true→A.units + n < cLine→Rep X.K H d x→Rep X.K H e y→RelV x v→RelV y u→EqAt A s v u (eqD d e)
 | [],_,_,hj=>by simp at hj
 | d' :: ds,0,d,hj=>by
  simp at hj
  subst hj
  exact xT I d'
 | d' :: ds,j + 1,d,hj=>nX I ds j d (by simpa using hj)
end
end
section
variable {X:Cx}
noncomputable def F1 (a b:D):Res R:=if plainD 40 a && plainD 40 b then .ok (.f,.bl (eqD a b)) else .bad
noncomputable def H0 (a b:D):Res R:=if plainD 40 a && plainD 40 b then .ok (.f,.bl (!eqD a b)) else .bad
open PySem.SeqAt in
theorem z0 {pins:List (Addr×Obj)} {σ:L2.St} {H:Hp} {s:Shared} (I:Inv X pins σ H s) {d e:D} {x y:V} {v u:Value} {A:Around} (h:plainD 40 d=true) (h':plainD 40 e=true) (hu:A.units + 64 < cLine) (r:Rep X.K H d x) (q:Rep X.K H e y) (rx:RelV x v) (ry:RelV y u) :
  RcAt A s v u (eqD d e)∧RcNeAt A s v u (!eqD d e):=by
 cases d with
 | non=>
  cases cb r
  cases rx
  cases e with
  | non=>cases cb q;cases ry;simp only [eqD];exact ⟨.none_none,.none_none⟩
  | bl b=>cases dr q;cases ry;simp only [eqD];exact ⟨.none_bool _,.none_bool _⟩
  | int i=>cases bG q;obtain ⟨t,rfl⟩:=ry;simp only [eqD];exact ⟨.none_int _ _,.none_int _ _⟩
  | str l=>cases (bx q).1;obtain ⟨t,rfl⟩:=ry;simp only [eqD];exact ⟨.none_str _ _,.none_str _ _⟩
  | tup l=>obtain ⟨p,xs,rfl,sq,_⟩:=bp q;cases ry;obtain ⟨DS,_,ip,_⟩:=I.tuple sq;simp only [eqD];exact ⟨.none_tuple (show s.heap.IsTuple p DS.toArray from ip) (by lia),.none_tuple (show s.heap.IsTuple p DS.toArray from ip) (by lia)⟩
  | lst l=>obtain ⟨p,xs,rfl,sq,_⟩:=bB q;cases ry;obtain ⟨DS,_,ip,_⟩:=I.list sq;simp only [eqD];exact ⟨.none_list ip.isList (by lia),.none_list ip.isList (by lia)⟩
  | dct tk ks vs=>exact (bK h').elim
 | bl b=>
  cases dr r
  cases rx
  cases e with
  | non=>cases cb q;cases ry;simp only [eqD];exact ⟨.bool_none _,.bool_none _⟩
  | bl b=>cases dr q;cases ry;simp only [eqD];exact ⟨.bool_bool _ _,.bool_bool _ _⟩
  | int i=>cases bG q;obtain ⟨t,rfl⟩:=ry;simp only [eqD];exact ⟨.bool_int _ _ _,.bool_int _ _ _⟩
  | str l=>cases (bx q).1;obtain ⟨t,rfl⟩:=ry;simp only [eqD];exact ⟨.bool_str _ _ _,.bool_str _ _ _⟩
  | tup l=>obtain ⟨p,xs,rfl,sq,_⟩:=bp q;cases ry;obtain ⟨DS,_,ip,_⟩:=I.tuple sq;simp only [eqD];exact ⟨.bool_tuple _ (show s.heap.IsTuple p DS.toArray from ip) (by lia),.bool_tuple _ (show s.heap.IsTuple p DS.toArray from ip) (by lia)⟩
  | lst l=>obtain ⟨p,xs,rfl,sq,_⟩:=bB q;cases ry;obtain ⟨DS,_,ip,_⟩:=I.list sq;simp only [eqD];exact ⟨.bool_list _ ip.isList (by lia),.bool_list _ ip.isList (by lia)⟩
  | dct tk ks vs=>exact (bK h').elim
 | int b=>
  cases bG r
  obtain ⟨t0,rfl⟩:=rx
  cases e with
  | non=>cases cb q;cases ry;simp only [eqD];exact ⟨.int_none _ _,.int_none _ _⟩
  | bl b=>cases dr q;cases ry;simp only [eqD];exact ⟨.int_bool _ _ _,.int_bool _ _ _⟩
  | int i=>cases bG q;obtain ⟨t,rfl⟩:=ry;simp only [eqD];exact ⟨.int_int _ _ _ _,.int_int _ _ _ _⟩
  | str l=>cases (bx q).1;obtain ⟨t,rfl⟩:=ry;simp only [eqD];exact ⟨.int_str _ _ _ _,.int_str _ _ _ _⟩
  | tup l=>obtain ⟨p,xs,rfl,sq,_⟩:=bp q;cases ry;obtain ⟨DS,_,ip,_⟩:=I.tuple sq;simp only [eqD];exact ⟨.int_tuple _ _ (show s.heap.IsTuple p DS.toArray from ip) (by lia),.int_tuple _ _ (show s.heap.IsTuple p DS.toArray from ip) (by lia)⟩
  | lst l=>obtain ⟨p,xs,rfl,sq,_⟩:=bB q;cases ry;obtain ⟨DS,_,ip,_⟩:=I.list sq;simp only [eqD];exact ⟨.int_list _ _ ip.isList (by lia),.int_list _ _ ip.isList (by lia)⟩
  | dct tk ks vs=>exact (bK h').elim
 | str b=>
  have hr:=(bx r).1
  subst hr
  obtain ⟨t0,rfl⟩:=rx
  cases e with
  | non=>cases cb q;cases ry;simp only [eqD];exact ⟨.str_none _ _,.str_none _ _⟩
  | bl b=>cases dr q;cases ry;simp only [eqD];exact ⟨.str_bool _ _ _,.str_bool _ _ _⟩
  | int i=>cases bG q;obtain ⟨t,rfl⟩:=ry;simp only [eqD];exact ⟨.str_int _ _ _ _,.str_int _ _ _ _⟩
  | str l=>
   have hq:=(bx q).1
   subst hq
   obtain ⟨t,rfl⟩:=ry
   have e1:(b == l)=(S b == S l):=by
    rw [Bool.eq_iff_iff,beq_iff_eq,beq_iff_eq]
    exact ⟨fun z=>by rw [z],S_inj⟩
   simp only [eqD,e1]
   exact ⟨.str_str _ _ _ _,.str_str _ _ _ _⟩
  | tup l=>obtain ⟨p,xs,rfl,sq,_⟩:=bp q;cases ry;obtain ⟨DS,_,ip,_⟩:=I.tuple sq;simp only [eqD];exact ⟨.str_tuple _ _ (show s.heap.IsTuple p DS.toArray from ip) (by lia),.str_tuple _ _ (show s.heap.IsTuple p DS.toArray from ip) (by lia)⟩
  | lst l=>obtain ⟨p,xs,rfl,sq,_⟩:=bB q;cases ry;obtain ⟨DS,_,ip,_⟩:=I.list sq;simp only [eqD];exact ⟨.str_list _ _ ip.isList (by lia),.str_list _ _ ip.isList (by lia)⟩
  | dct tk ks vs=>exact (bK h').elim
 | tup l=>
  obtain ⟨p,xs,ev,sq,rs⟩:=bp r
  subst ev
  cases rx
  obtain ⟨DS,vl,ip,_⟩:=I.tuple sq
  have ip:s.heap.IsTuple p DS.toArray:=ip
  cases e with
  | non=>cases cb q;cases ry;simp only [eqD];exact ⟨.tuple_none ip (by lia),.tuple_none ip (by lia)⟩
  | bl b=>cases dr q;cases ry;simp only [eqD];exact ⟨.tuple_bool _ ip (by lia),.tuple_bool _ ip (by lia)⟩
  | int i=>cases bG q;obtain ⟨t,rfl⟩:=ry;simp only [eqD];exact ⟨.tuple_int _ _ ip (by lia),.tuple_int _ _ ip (by lia)⟩
  | str l=>cases (bx q).1;obtain ⟨t,rfl⟩:=ry;simp only [eqD];exact ⟨.tuple_str _ _ ip (by lia),.tuple_str _ _ ip (by lia)⟩
  | tup l'=>
   obtain ⟨p',FC,FN,Fj,F0⟩:=bp q
   subst FN
   cases ry
   obtain ⟨its',IS,Fz,_⟩:=I.tuple Fj
   have Fz:s.heap.IsTuple p' its'.toArray:=Fz
   simp only [plainD] at h h'
   have l1:=vl.length
   have l2:=IS.length
   have l3:=rs.length
   have l4:=F0.length
   have el:∀ j (h1:j < DS.toArray.size) (h2:j < its'.toArray.size),EqAt A.in1 s DS.toArray[j] its'.toArray[j] ((fun j=>eqD (l.getD j .non) (l'.getD j .non)) j):=fun j h1 h2=>by
    simp only [List.size_toArray] at h1 h2
    have g1:l[j]?=some (l[j]'(by lia)):=List.getElem?_eq_getElem _
    have g2:l'[j]?=some (l'[j]'(by lia)):=List.getElem?_eq_getElem _
    obtain ⟨w1,Ho,Hq⟩:=rs.get g1
    obtain ⟨w2,IT,IU⟩:=F0.get g2
    obtain ⟨u1,F7,Hr⟩:=vl.get Ho
    obtain ⟨u2,GV,IV⟩:=IS.get IT
    have q1:DS.toArray[j]=u1:=by rw [List.getElem?_eq_getElem h1] at F7;simpa using F7
    have q2:its'.toArray[j]=u2:=by rw [List.getElem?_eq_getElem h2] at GV;simpa using GV
    dsimp only
    rw [q1,q2,List.getD_eq_getElem?_getD,List.getD_eq_getElem?_getD,g1,g2]
    exact nX I l j _ g1 _ w1 w2 u1 u2 A.in1 39 (plainDs_mem h g1) (plainDs_mem h' g2) (by show A.units + 1 + 39 < cLine;lia) Hq IU Hr IV
   simp only [eqD]
   have fin:((List.range (min DS.toArray.size its'.toArray.size)).all (fun j=>eqD (l.getD j .non) (l'.getD j .non)) && DS.toArray.size == its'.toArray.size)=jj l l':=by
    simp only [List.size_toArray]
    by_cases hl:l.length=l'.length
    ·rw [←fu hl,show min DS.length its'.length=l.length by lia,show (DS.length == its'.length)=true by rw [beq_iff_eq];lia,Bool.and_true]
    ·rw [iQ hl,show (DS.length == its'.length)=false by rw [beq_eq_false_iff_ne];lia,Bool.and_false]
   rw [←fin]
   exact ⟨.tuples ip Fz (by lia) el,.tuples ip Fz (by lia) el⟩
  | lst l'=>obtain ⟨p',FC,FN,Fj,_⟩:=bB q;subst FN;cases ry;obtain ⟨its',_,Fz,_⟩:=I.list Fj;simp only [eqD];exact ⟨.tuple_list ip Fz.isList (by lia),.tuple_list ip Fz.isList (by lia)⟩
  | dct tk ks vs=>exact (bK h').elim
 | lst l=>
  obtain ⟨p,xs,ev,sq,rs⟩:=bB r
  subst ev
  cases rx
  obtain ⟨DS,vl,ip,_⟩:=I.list sq
  have ip:=ip.isList
  cases e with
  | non=>cases cb q;cases ry;simp only [eqD];exact ⟨.list_none ip (by lia),.list_none ip (by lia)⟩
  | bl b=>cases dr q;cases ry;simp only [eqD];exact ⟨.list_bool _ ip (by lia),.list_bool _ ip (by lia)⟩
  | int i=>cases bG q;obtain ⟨t,rfl⟩:=ry;simp only [eqD];exact ⟨.list_int _ _ ip (by lia),.list_int _ _ ip (by lia)⟩
  | str l=>cases (bx q).1;obtain ⟨t,rfl⟩:=ry;simp only [eqD];exact ⟨.list_str _ _ ip (by lia),.list_str _ _ ip (by lia)⟩
  | lst l'=>
   obtain ⟨p',FC,FN,Fj,F0⟩:=bB q
   subst FN
   cases ry
   obtain ⟨its',IS,Fz,_⟩:=I.list Fj
   have Fz:=Fz.isList
   simp only [plainD] at h h'
   have l1:=vl.length
   have l2:=IS.length
   have l3:=rs.length
   have l4:=F0.length
   simp only [eqD]
   by_cases hl:l.length=l'.length
   ·have el:∀ j (h1:j < DS.toArray.size) (h2:j < its'.toArray.size),EqAt A.in1 s DS.toArray[j] its'.toArray[j] ((fun j=>eqD (l.getD j .non) (l'.getD j .non)) j):=fun j h1 h2=>by
     simp only [List.size_toArray] at h1 h2
     have g1:l[j]?=some (l[j]'(by lia)):=List.getElem?_eq_getElem _
     have g2:l'[j]?=some (l'[j]'(by lia)):=List.getElem?_eq_getElem _
     obtain ⟨w1,Ho,Hq⟩:=rs.get g1
     obtain ⟨w2,IT,IU⟩:=F0.get g2
     obtain ⟨u1,F7,Hr⟩:=vl.get Ho
     obtain ⟨u2,GV,IV⟩:=IS.get IT
     have q1:DS.toArray[j]=u1:=by rw [List.getElem?_eq_getElem h1] at F7;simpa using F7
     have q2:its'.toArray[j]=u2:=by rw [List.getElem?_eq_getElem h2] at GV;simpa using GV
     dsimp only
     rw [q1,q2,List.getD_eq_getElem?_getD,List.getD_eq_getElem?_getD,g1,g2]
     exact nX I l j _ g1 _ w1 w2 u1 u2 A.in1 39 (plainDs_mem h g1) (plainDs_mem h' g2) (by show A.units + 1 + 39 < cLine;lia) Hq IU Hr IV
    rw [←fu hl,show l.length=DS.toArray.size by simp only [List.size_toArray];lia]
    exact ⟨.lists ip Fz (by simp only [List.size_toArray];lia) (by lia) el,.lists ip Fz (by simp only [List.size_toArray];lia) (by lia) el⟩
   ·rw [iQ hl]
    exact ⟨.lists_lengths ip Fz (by simp only [List.size_toArray,bne_iff_ne];lia) (by lia),.lists_lengths ip Fz (by simp only [List.size_toArray,bne_iff_ne];lia) (by lia)⟩
  | tup l'=>obtain ⟨p',FC,FN,Fj,_⟩:=bp q;subst FN;cases ry;obtain ⟨its',_,Fz,_⟩:=I.tuple Fj;simp only [eqD];exact ⟨.list_tuple ip (show s.heap.IsTuple p' its'.toArray from Fz) (by lia),.list_tuple ip (show s.heap.IsTuple p' its'.toArray from Fz) (by lia)⟩
  | dct tk ks vs=>exact (bK h').elim
 | dct tk ks vs=>exact (bK h).elim
theorem jk (hu:X.A.units + 64 < cLine):EE X (compareOp .Eq) (rGA X.K F1):=by
 rintro pins s σ H x y v u Q I rx ry ⟨G,fp,es,vs,a,b,r,⟨rel,k⟩,va,vb,e⟩
 unfold F1 at e
 split at e
 ·rename_i hp
  cases e
  rw [Bool.and_eq_true] at hp
  exact (z0 I hp.1 hp.2 hu va vb rx ry).1 _ _ _ _ ⟨.bl _,H,I,rfl,k _ H G fp .refl (rel.push (dq _))⟩
 ·cases e
theorem xU (hu:X.A.units + 64 < cLine):EE X (compareOp .NotEq) (rGA X.K H0):=by
 rintro pins s σ H x y v u Q I rx ry ⟨G,fp,es,vs,a,b,r,⟨rel,k⟩,va,vb,e⟩
 unfold H0 at e
 split at e
 ·rename_i hp
  cases e
  rw [Bool.and_eq_true] at hp
  exact (z0 I hp.1 hp.2 hu va vb rx ry).2 _ _ _ _ ⟨.bl _,H,I,rfl,k _ H G fp .refl (rel.push (dq _))⟩
 ·cases e
noncomputable def rF (a:D) (ds:List D):Bool:=ds.any fun d=>eqD d a
noncomputable def Hj (a b:D):Res R:=match b with
 | .lst ds=>if plainD 40 a && plainDs 40 ds then .ok (.f,.bl (rF a ds)) else .bad
 | .tup ds=>if plainD 40 a && plainDs 40 ds then .ok (.f,.bl (rF a ds)) else .bad
 | .str l=>match a with
  | .str [c]=>.ok (.f,.bl (decide (c∈l)))
  | _=>.bad
 | _=>.bad
noncomputable def tw (a b:D):Res R:=(Hj a b).bind fun r=>match r.2 with
 | .bl k=>.ok (.f,.bl (!k))
 | _=>.bad
open PySem.SeqAt in
theorem qi {pins:List (Addr×Obj)} {σ:L2.St} {H:Hp} {s:Shared} (I:Inv X pins σ H s) {a:D} {x:V} {v:Value} {A:Around} (h:plainD 40 a=true) (hu:A.units + 64 < cLine) (r:Rep X.K H a x) (rx:RelV x v) :
  ∀ (ds:List D) (xs:List V) (us:List Value),plainDs 40 ds=true→Reps X.K H ds xs→Vals xs us→∃ e:Value→Bool,us.any e=rF a ds∧∀ u∈us,EqAt A s u v (e u):=by
 classical
 intro ds xs us hp rs vl
 refine ⟨fun u=>decide (∃ (j:Nat) (d:D),ds[j]?=some d∧us[j]?=some u∧eqD d a=true),?_,fun u Oc=>?_⟩
 ·rw [Bool.eq_iff_iff,List.any_eq_true]
  unfold rF
  rw [List.any_eq_true]
  constructor
  ·rintro ⟨u,_,hd⟩
   obtain ⟨j,d,h1,_,h2⟩:=of_decide_eq_true hd
   exact ⟨d,List.mem_of_getElem? h1,h2⟩
  ·rintro ⟨d,hd,h2⟩
   obtain ⟨j,hj⟩:=List.mem_iff_getElem?.mp hd
   obtain ⟨w1,Ho,Hq⟩:=rs.get hj
   obtain ⟨u1,F7,Hr⟩:=vl.get Ho
   exact ⟨u1,List.mem_of_getElem? F7,decide_eq_true ⟨j,d,hj,F7,h2⟩⟩
 ·obtain ⟨j,hj⟩:=List.mem_iff_getElem?.mp Oc
  have l1:=vl.length
  have l2:=rs.length
  have OQ:=(List.getElem?_eq_some_iff.mp hj).1
  have g1:ds[j]?=some (ds[j]'(by lia)):=List.getElem?_eq_getElem _
  obtain ⟨w1,Ho,Hq⟩:=rs.get g1
  obtain ⟨u1,F7,Hr⟩:=vl.get Ho
  rw [hj] at F7
  cases F7
  have z:=xT I _ _ w1 x u v A 40 (plainDs_mem hp g1) h (by lia) Hq r Hr rx
  have e:decide (∃ (j:Nat) (d:D),ds[j]?=some d∧us[j]?=some u∧eqD d a=true)=eqD (ds[j]'(by lia)) a:=by
   rw [Bool.eq_iff_iff,decide_eq_true_eq]
   constructor
   ·rintro ⟨j2,d2,k1,k2,k3⟩
    obtain ⟨w2,IT,IU⟩:=rs.get k1
    obtain ⟨u2,GV,IV⟩:=vl.get IT
    rw [k2] at GV
    cases GV
    have:=Hr.inj IV
    subst this
    rw [ko I _ _ _ 40 (plainDs_mem hp g1) Hq IU]
    exact k3
   ·intro k3
    exact ⟨j,_,g1,hj,k3⟩
  show EqAt A s u v (decide (∃ (j:Nat) (d:D),ds[j]?=some d∧us[j]?=some u∧eqD d a=true))
  rw [e]
  exact z
theorem nY (l:List Nat) (c:Nat):(!(Builtin.Str.occurrences (S l) (S [c]) 0 (S l).length 1).isEmpty)=decide (c∈l):=by
 have h:=PySem.StrLaws.found_one (S l) c
 rw [dZ] at h
 exact h
theorem mz {e:Value→Bool} (us:List Value):us.toArray.any e=us.any e:=by simp
theorem B9 (hu:X.A.units + 65 < cLine):EE X (compareOp .In) (rGA X.K Hj):=by
 rintro pins s σ H x y v u Q I rx ry ⟨G,fp,es,vs,a,b,r,⟨rel,k⟩,va,vb,e⟩
 unfold Hj at e
 split at e
 ·rename_i ds
  split at e
  ·rename_i hp
   cases e
   rw [Bool.and_eq_true] at hp
   obtain ⟨p,xs,ev,sq,rs⟩:=bB vb
   subst ev
   cases ry
   obtain ⟨DS,vl,ip,_⟩:=I.list sq
   obtain ⟨ef,e1,e2⟩:=qi (A:=X.A.in1) I hp.1 (by show X.A.units + 1 + 64 < cLine;lia) va rx ds xs DS hp.2 rs vl
   refine SeqAt.in_listAt ef ip.isList (fun z hz=>e2 z (by simpa using hz)) ?_
   rw [mz,e1]
   exact ⟨.bl _,H,I,rfl,k _ H G fp .refl (rel.push (dq _))⟩
  ·cases e
 ·rename_i ds
  split at e
  ·rename_i hp
   cases e
   rw [Bool.and_eq_true] at hp
   obtain ⟨p,xs,ev,sq,rs⟩:=bp vb
   subst ev
   cases ry
   obtain ⟨DS,vl,ip,_⟩:=I.tuple sq
   obtain ⟨ef,e1,e2⟩:=qi (A:=X.A.in1) I hp.1 (by show X.A.units + 1 + 64 < cLine;lia) va rx ds xs DS hp.2 rs vl
   refine SeqAt.in_tupleAt ef (show s.heap.IsTuple p DS.toArray from ip) (fun z hz=>e2 z (by simpa using hz)) ?_
   rw [mz,e1]
   exact ⟨.bl _,H,I,rfl,k _ H G fp .refl (rel.push (dq _))⟩
  ·cases e
 ·rename_i l
  split at e
  ·rename_i c
   cases e
   obtain ⟨e1,h1⟩:=bx va
   obtain ⟨e2,h2⟩:=bx vb
   subst e1
   subst e2
   refine rT pins s σ H _ _ v u Q I rx ry ⟨_,_,rfl,rfl,?_⟩
   rw [nY]
   exact k _ H G fp .refl (rel.push (dq _))
  ·cases e
 ·cases e
theorem z4 (hu:X.A.units + 65 < cLine):EE X (compareOp .NotIn) (rGA X.K tw):=by
 rintro pins s σ H x y v u Q I rx ry ⟨G,fp,es,vs,a,b,r,⟨rel,k⟩,va,vb,e⟩
 unfold tw at e
 obtain ⟨r0,e0,e⟩:=ar e
 unfold Hj at e0
 split at e0
 ·rename_i ds
  split at e0
  ·rename_i hp
   cases e0
   cases e
   rw [Bool.and_eq_true] at hp
   obtain ⟨p,xs,ev,sq,rs⟩:=bB vb
   subst ev
   cases ry
   obtain ⟨DS,vl,ip,_⟩:=I.list sq
   obtain ⟨ef,e1,e2⟩:=qi (A:=X.A.in1) I hp.1 (by show X.A.units + 1 + 64 < cLine;lia) va rx ds xs DS hp.2 rs vl
   refine SeqAt.notIn_listAt ef ip.isList (fun z hz=>e2 z (by simpa using hz)) ?_
   rw [mz,e1]
   exact ⟨.bl _,H,I,rfl,k _ H G fp .refl (rel.push (dq _))⟩
  ·cases e0
 ·rename_i ds
  split at e0
  ·rename_i hp
   cases e0
   cases e
   rw [Bool.and_eq_true] at hp
   obtain ⟨p,xs,ev,sq,rs⟩:=bp vb
   subst ev
   cases ry
   obtain ⟨DS,vl,ip,_⟩:=I.tuple sq
   obtain ⟨ef,e1,e2⟩:=qi (A:=X.A.in1) I hp.1 (by show X.A.units + 1 + 64 < cLine;lia) va rx ds xs DS hp.2 rs vl
   refine SeqAt.notIn_tupleAt ef (show s.heap.IsTuple p DS.toArray from ip) (fun z hz=>e2 z (by simpa using hz)) ?_
   rw [mz,e1]
   exact ⟨.bl _,H,I,rfl,k _ H G fp .refl (rel.push (dq _))⟩
  ·cases e0
 ·rename_i l
  split at e0
  ·rename_i c
   cases e0
   cases e
   obtain ⟨e1,h1⟩:=bx va
   obtain ⟨e2,h2⟩:=bx vb
   subst e1
   subst e2
   refine ng pins s σ H _ _ v u Q I rx ry ⟨_,_,rfl,rfl,?_⟩
   rw [nY]
   exact k _ H G fp .refl (rel.push (dq _))
  ·cases e0
 ·cases e0
noncomputable def Kq (a b:D):Res R:=match b with
 | .bl k=>.ok (.f,.bl (match a with | .bl j=>j == k | _=>false))
 | .non=>.ok (.f,.bl (match a with | .non=>true | _=>false))
 | _=>.bad
noncomputable def isnO (a b:D):Res R:=(Kq a b).bind fun r=>match r.2 with
 | .bl k=>.ok (.f,.bl (!k))
 | _=>.bad
theorem qj {K:W.Frag} {H:Hp} {a b:D} {x y:V} {v u:Value} {r:R} (va:Rep K H a x) (vb:Rep K H b y) (rx:RelV x v) (ry:RelV y u) (e:Kq a b=.ok r):plainIs v u=true∧r=(.f,.bl (v == u)):=by
 unfold Kq at e
 split at e
 ·rename_i k
  cases e
  cases dr vb
  cases ry
  cases a with
  | non=>cases cb va;cases rx;exact ⟨rfl,rfl⟩
  | bl j=>cases dr va;cases rx;refine ⟨rfl,?_⟩;cases j <;> cases k <;> rfl
  | int i=>cases bG va;obtain ⟨t,rfl⟩:=rx;exact ⟨rfl,rfl⟩
  | str l=>cases (bx va).1;obtain ⟨t,rfl⟩:=rx;exact ⟨rfl,rfl⟩
  | tup l=>obtain ⟨p,xs,rfl,_⟩:=bp va;cases rx;exact ⟨rfl,rfl⟩
  | lst l=>obtain ⟨p,xs,rfl,_⟩:=bB va;cases rx;exact ⟨rfl,rfl⟩
  | dct tk ks vs=>rw [Rep] at va;obtain ⟨p,xs,o,rfl,_⟩:=va;cases rx;exact ⟨rfl,rfl⟩
 ·cases e
  cases cb vb
  cases ry
  cases a with
  | non=>cases cb va;cases rx;exact ⟨rfl,rfl⟩
  | bl j=>cases dr va;cases rx;exact ⟨rfl,rfl⟩
  | int i=>cases bG va;obtain ⟨t,rfl⟩:=rx;exact ⟨rfl,rfl⟩
  | str l=>cases (bx va).1;obtain ⟨t,rfl⟩:=rx;exact ⟨rfl,rfl⟩
  | tup l=>obtain ⟨p,xs,rfl,_⟩:=bp va;cases rx;exact ⟨rfl,rfl⟩
  | lst l=>obtain ⟨p,xs,rfl,_⟩:=bB va;cases rx;exact ⟨rfl,rfl⟩
  | dct tk ks vs=>rw [Rep] at va;obtain ⟨p,xs,o,rfl,_⟩:=va;cases rx;exact ⟨rfl,rfl⟩
 ·cases e
theorem Ca:EE X (compareOp .Is) (rGA X.K Kq):=by
 rintro pins s σ H x y v u Q I rx ry ⟨G,fp,es,vs,a,b,r,⟨rel,k⟩,va,vb,e⟩
 obtain ⟨h1,h2⟩:=qj va vb rx ry e
 subst h2
 exact wpAny_is_plain h1 ⟨.bl _,H,I,rfl,k _ H G fp .refl (rel.push (dq _))⟩
theorem qk:EE X (compareOp .IsNot) (rGA X.K isnO):=by
 rintro pins s σ H x y v u Q I rx ry ⟨G,fp,es,vs,a,b,r,⟨rel,k⟩,va,vb,e⟩
 obtain ⟨r0,e0,e⟩:=ar e
 obtain ⟨h1,h2⟩:=qj va vb rx ry e0
 subst h2
 cases e
 exact wpAny_isNot_plain h1 ⟨.bl _,H,I,rfl,k _ H G fp .refl (rel.push (dq _))⟩
end
section
variable {X:Cx}
theorem lM (hc:X.calm=true):dE X (.builtin "max") (rC X.K maxD):=by
 rintro pins s σ H xs us Q I rx ⟨G,fp,es,vs,ds,r,⟨rel,k⟩,vd,e⟩
 unfold maxD at e
 split at e
 ·rename_i d
  split at e
  ·rename_i n ns hb
   cases e
   obtain ⟨v,ev,vt⟩:=mZ vd
   obtain ⟨p,ep,sq⟩:=iP rel.gh hb vt
   subst ev
   subst ep
   exact su hc pins s σ H _ us Q I rx ⟨p,n :: ns,rfl,sq,by simp,k _ H G fp .refl (rel.push (bu _))⟩
  ·cases e
 ·rename_i i j
  cases e
  obtain ⟨v,w',ev,v1,v2⟩:=CV vd
  subst ev
  cases bC v1
  cases bC v2
  obtain ⟨u,u',rfl,⟨t,rfl⟩,t',rfl⟩:=uS rx
  refine max_two_ints (I.ok.hd hc) fun h' tk kk=>?_
  have I2:Inv X pins σ H { s with heap:=h',toks:=tk }:=I.kept kk
  refine ⟨.int (if i < j then j else i),H,I2,?_,k _ H G fp .refl (rel.push (bu _))⟩
  by_cases Jq:i < j
  ·rw [if_pos Jq,if_pos (show j > i from Jq)]
   exact ⟨_,rfl⟩
  ·rw [if_neg Jq,if_neg (show ¬ j > i from Jq)]
   exact ⟨_,rfl⟩
 ·cases e
noncomputable def xV (f g:FX):FX:=fun env=>(f env).bind fun p=>(g p.2).bind fun q=>match (mx p.1.2).bind c8,q.1.2 with
 | some ns,.int d=>.ok ((.f,.int (NX.maxD ns d)),q.2)
 | _,_=>.bad
theorem xW {e k:Expr} {f g:FX} {p pos HR:Pos} (hc:X.calm=true) (hg:Gl X "max") (hm:X.mg "max" = none) (he:QE X e f) (hk:QE X k g) (hs:starEach [e] X.env=[(false,eval e X.env)]:=by rfl) :
  QE X (.Call (.Name "max" p) [e] [⟨some "default",k,HR⟩] pos) (xV f g):=bU (xu hc hg hm he hk hs) fun σ H Q D6=>by
 obtain ⟨G,env,fp,r,env',rel,e,k⟩:=D6
 obtain ⟨⟨r1,DR⟩,e1,e⟩:=ar e
 obtain ⟨⟨r2,DZ⟩,e2,e⟩:=ar e
 dsimp only at e
 split at e
 ·rename_i ns d Lz hd
  cases e
  refine ⟨G,env,fp,r1,DR,rel,e1,fun v H1 G1 Ef D9 DV=>?_⟩
  obtain ⟨G2,b,rv,DU,D1⟩:=DV.freeze
  refine ⟨G2,DR,b,r2,_,DU,e2,fun w' H3 G3 Gj Ez Et=>?_⟩
  have hw:=Et.top
  obtain ⟨b3,ES,Fy⟩:=Et.drop
  rw [hd] at hw
  obtain ⟨p',ep,sq⟩:=iP ES.gh Lz (Vw.of ES.gh (Rep.mono Ez.gg rv))
  subst ep
  exact ⟨p',ns,d,rfl,by rw [bG hw],sq,k _ H3 G3 b3 (D9.trans (D1.trans (Ez.trans Fy))) (ES.push (bu _))⟩
 ·cases e
noncomputable def DD:List D→Res R
 | [.bl b]=>.ok (.f,.int (if b then 1 else 0))
 | [.int i]=>.ok (.f,.int i)
 | _=>.bad
noncomputable def pb:D→String
 | .non=>"NoneType"
 | .bl _=>"bool"
 | .int _=>"int"
 | .str _=>"str"
 | .tup _=>"tuple"
 | .lst _=>"list"
 | .dct _ _ _=>"dict"
noncomputable def wA (T:String) (d:D):Bool:=pb d == T || (pb d == "bool" && T == "int")
noncomputable def Oe (T:String) (f:FO):FX:=fun env=>(f env).bind fun p=>(ft p.2 p.1).bind fun d=>.ok ((.f,.bl (wA T d)),p.2)
theorem z5 (K:W.Frag) (d:D) {T:String} (hT:T = "int"∨T = "bool"∨T = "str"∨T = "list"∨T = "tuple"∨T = "dict"):PySem.W.kitOne K (.type (pb d)) (.type T)=some (wA T d):=by
 rcases hT with rfl | rfl | rfl | rfl | rfl | rfl <;> cases d <;> (unfold PySem.W.kitOne PySem.W.kitCls PySem.W.subIn;kernel_rfl)
theorem vE:dE X (.builtin "isinstance") (fun xs H Q=>∃ d x T,xs=[x,.ty T]∧Rep X.K H d x∧(T = "int"∨T = "bool"∨T = "str"∨T = "list"∨T = "tuple"∨T = "dict")∧Q (.bl (wA T d)) H):=by
 intro pins s σ H xs us Q I r h
 obtain ⟨d,x,T,rfl,rd,hT,q⟩:=h
 obtain ⟨u,w',rfl,r1,r2⟩:=uS r
 cases (show w'=Value.type T from r2)
 have e:=z5 X.K d hT
 have fin:∀ tk,EP X pins σ Q (.bool (wA T d)) { s with toks:=tk }:=fun tk=>⟨.bl (wA T d),H,I.tok tk,rfl,q⟩
 cases d with
 | non=>cases cb rd;cases (show u=Value.none from r1);exact PySem.W.kia_one PySem.W.kitx_none I.kIn True.intro e (fun z=>nomatch z) fin
 | bl y=>cases dr rd;cases (show u=Value.bool y from r1);exact PySem.W.kia_one PySem.W.kitx_bool I.kIn True.intro e (fun z=>nomatch z) fin
 | int i=>cases bG rd;obtain ⟨t,z⟩:=(show ∃ t,u=Value.int i t from r1);cases z;exact PySem.W.kia_one PySem.W.kitx_int I.kIn True.intro e (fun z=>nomatch z) fin
 | str l=>
  have hr:=(bx rd).1
  subst hr
  obtain ⟨t,z⟩:=(show ∃ t,u=Value.str (S l) t from r1)
  cases z
  exact PySem.W.kia_one PySem.W.kitx_str I.kIn True.intro e (fun z=>nomatch z) fin
 | lst l=>
  obtain ⟨p,xs,ev,sq,_⟩:=bB rd
  subst ev
  cases (show u=Value.ref p from r1)
  obtain ⟨DS,_,ip,_⟩:=I.list sq
  obtain ⟨o,ho,hc,_⟩:=ip.isList
  exact PySem.W.kia_one PySem.W.kitx_list I.kIn ⟨o,ho,hc⟩ e (fun z=>nomatch z) fin
 | tup l=>
  obtain ⟨p,xs,ev,sq,_⟩:=bp rd
  subst ev
  cases (show u=Value.ref p from r1)
  obtain ⟨DS,_,ip,_⟩:=I.tuple sq
  obtain ⟨o,ho,hc,_⟩:=ip
  exact PySem.W.kia_one PySem.W.kitx_tuple I.kIn ⟨o,ho,hc⟩ e (fun z=>nomatch z) fin
 | dct tk ks vs=>
  rw [Rep] at rd
  obtain ⟨p,xs,o,ev,hr,dd,_⟩:=rd
  subst ev
  cases (show u=Value.ref p from r1)
  have ok:=hr.ok I.hok
  cases tk with
  | true=>
   obtain ⟨DT,eo,_⟩:=dd
   subst eo
   obtain ⟨_,_,_,_,o2,_,_,FA,ex,_⟩:=ok
   exact PySem.W.kia_one PySem.W.kitx_dict I.kIn ⟨o2,FA,ex.1⟩ e (fun z=>nomatch z) fin
  | false=>
   obtain ⟨DT,eo,_⟩:=dd
   subst eo
   obtain ⟨_,_,_,_,o2,_,_,FA,ex,_⟩:=ok
   exact PySem.W.kia_one PySem.W.kitx_dict I.kIn ⟨o2,FA,ex.1⟩ e (fun z=>nomatch z) fin
theorem Cb {T:String} {x:Str} {e:Expr} {f:FO} {p q pos:Pos} (hT:T = "int"∨T = "bool"∨T = "str"∨T = "list"∨T = "tuple"∨T = "dict") (he:QO X e f) (hg:Gl X "isinstance") (hm:X.mg "isinstance" = none) (hg2:Gl X x) (hm2:X.mg x=none) (Nr:bootBuiltins x=some (.type T)) (hn:x≠"__name__":=by decide) (Gi:(x == ("__debug__" : Str))=false:=by decide)
  (hs:starEach [e,.Name x q] X.env=(false,eval e X.env) :: starEach [.Name x q] X.env:=by rfl) (Kk:starEach [.Name x q] X.env=(false,eval (.Name x q) X.env) :: starEach [] X.env:=by rfl) (FZ:(backTo pos (starEach [.Name x q] X.env)).any (·.1)=false:=by rfl) :
  QE X (.Call (.Name "isinstance" p) [e,.Name x q] [] pos) (Oe T f):=
 bU (pR vE hg hm lX (gf he (gf (wU (v:=.ty T) hg2 hm2 Nr rfl hn Gi) nh Kk) hs) (by decide) (by decide) hs FZ) fun σ H Q D6=>by
  obtain ⟨G,env,fp,r,env',rel,e,k⟩:=D6
  obtain ⟨⟨o,DR⟩,e1,e⟩:=ar e
  obtain ⟨d,e2,e⟩:=ar e
  cases e
  exact ⟨G,env,fp,o,_,rel,e1,fun v H1 G1 Ef D9 DV Fi=>⟨d,v,T,rfl,DV.vwA Fi e2,hT,k _ H1 G1 Ef D9 (DV.push (dq _))⟩⟩
noncomputable def EY {α:Type} (f g:PV.Env→Res α):PV.Env→Res α:=fun env=>match f env with
 | .ok a=>.ok a
 | _=>g env
theorem wB {α:Type} {f g:PV.Env→Res α} {env:PV.Env} {a:α} (h:EY f g env=.ok a):f env=.ok a∨g env=.ok a:=by
 unfold EY at h
 split at h
 ·rename_i b hb
  cases h
  exact .inl hb
 ·exact .inr h
theorem tF {tg e:Expr} {f g:FI} (h:QI X tg e f) (h2:QI X tg e g):QI X tg e (EY f g):=fun pins s σ H R I D6=>by
 obtain ⟨G,env,fp,ds,env',rel,ee,k⟩:=D6
 rcases wB ee with z | z
 ·exact h pins s σ H R I ⟨G,env,fp,ds,env',rel,z,k⟩
 ·exact h2 pins s σ H R I ⟨G,env,fp,ds,env',rel,z,k⟩
end
section
variable {α:Type}
noncomputable def ins (lt:α→α→Bool) (x:α):List α→List α
 | []=>[x]
 | y :: ys=>if lt y x then y :: ins lt x ys else x :: y :: ys
noncomputable def bz (lt:α→α→Bool) (l:List α):List α:=l.foldr (ins lt) []
structure Ord (lt:α→α→Bool):Prop where
 irr:∀ a,lt a a=false
 trans:∀ a b c,lt a b=true→lt b c=true→lt a c=true
 tot:∀ a b,lt a b=false→lt b a=false→a=b
theorem mB (lt:α→α→Bool) (x:α):∀ l,(ins lt x l).Perm (x :: l)
 | []=>.refl _
 | y :: ys=>by
  unfold ins
  split
  ·exact (List.Perm.cons y (mB lt x ys)).trans (List.Perm.swap x y ys)
  ·exact .refl _
theorem dP (lt:α→α→Bool):∀ l,(bz lt l).Perm l
 | []=>.refl _
 | x :: l=>(mB lt x _).trans (List.Perm.cons x (dP lt l))
theorem lN {lt:α→α→Bool} (o:Ord lt) (x:α):∀ l:List α,l.Pairwise (fun a b=>lt b a=false)→(ins lt x l).Pairwise (fun a b=>lt b a=false)
 | [],_=>by simp [ins]
 | y :: ys,h=>by
  rw [List.pairwise_cons] at h
  unfold ins
  split
  ·rename_i hy
   rw [List.pairwise_cons]
   refine ⟨fun z hz=>?_,lN o x ys h.2⟩
   rcases List.mem_cons.mp ((mB lt x ys).mem_iff.mp hz) with rfl | hz
   ·cases e:lt z y with
    | false=>rfl
    | true=>
     have:=o.trans y z y hy e
     rw [o.irr] at this
     cases this
   ·exact h.1 z hz
  ·rename_i hy
   have hy:lt y x=false:=by simpa using hy
   rw [List.pairwise_cons,List.pairwise_cons]
   refine ⟨fun z hz=>?_,h⟩
   rcases List.mem_cons.mp hz with rfl | Js
   ·exact hy
   ·cases e:lt z x with
    | false=>rfl
    | true=>
     exfalso
     cases e2:lt x y with
     | true=>
      have:=o.trans z x y e e2
      rw [h.1 z Js] at this
      cases this
     | false=>
      have hxy:=o.tot x y e2 hy
      rw [hxy,h.1 z Js] at e
      cases e
theorem eU {lt:α→α→Bool} (o:Ord lt):∀ l:List α,(bz lt l).Pairwise (fun a b=>lt b a=false)
 | []=>.nil
 | x :: l=>lN o x _ (eU o l)
theorem og {lt:α→α→Bool} (o:Ord lt):∀ {a b:List α},a.Perm b→a.Pairwise (fun a b=>lt b a=false)→b.Pairwise (fun a b=>lt b a=false)→a=b
 | [],_,p,_,_=>p.nil_eq
 | x :: xs,[],p,_,_=>absurd p.length_eq (by simp)
 | x :: xs,y :: ys,p,ha,hb=>by
  rw [List.pairwise_cons] at ha hb
  have hx:x∈y :: ys:=p.mem_iff.mp List.mem_cons_self
  have hy:y∈x :: xs:=p.mem_iff.mpr List.mem_cons_self
  have e:x=y:=by
   rcases List.mem_cons.mp hx with e | hx
   ·exact e
   ·rcases List.mem_cons.mp hy with e | hy
    ·exact e.symm
    ·exact o.tot x y (hb.1 x hx) (ha.1 y hy)
  subst e
  rw [og o p.cons_inv ha.2 hb.2]
theorem iS {lt:α→α→Bool} (o:Ord lt) {l ms:List α} (p:ms.Perm l) (h:ms.Pairwise (fun a b=>lt b a=false)):ms=bz lt l:=og o (p.trans (dP lt l).symm) h (eU o l)
end
noncomputable def ltI (a b:Int):Bool:=decide (a < b)
noncomputable def HI (a b:List Nat):Bool:=decide (a < b)
theorem xX:Ord ltI:=⟨fun a=>by simp [ltI],fun a b c=>by simp only [ltI,decide_eq_true_eq];lia,fun a b=>by simp only [ltI,decide_eq_false_iff_not];lia⟩
theorem pe:Ord HI:=by
 refine ⟨fun a=>?_,fun a b c h1 h2=>?_,fun a b h1 h2=>?_⟩
 ·unfold HI
  rw [decide_eq_false_iff_not]
  exact List.lt_irrefl a
 ·unfold HI at *
  rw [decide_eq_true_eq] at *
  exact List.lt_trans h1 h2
 ·unfold HI at *
  rw [decide_eq_false_iff_not] at *
  exact List.le_antisymm (List.not_lt.mp h2) (List.not_lt.mp h1)
theorem tG:Ord eO:=⟨ik,gX,gY⟩
noncomputable def fw:List D→Option (List (List Nat))
 | []=>some []
 | .str b :: ds=>(fw ds).map (b :: ·)
 | _=>none
noncomputable def kr:D→Option Key
 | .int i=>some (.inl i)
 | .str l=>some (.inr (S l))
 | _=>none
noncomputable def fF:List D→Option (List Key)
 | []=>some []
 | d :: ds=>(kr d).bind fun k=>(fF ds).map (k :: ·)
noncomputable def fG:D→Option (List Key)
 | .tup ds=>fF ds
 | _=>none
noncomputable def jE:List D→Option (List (List Key))
 | []=>some []
 | d :: ds=>(fG d).bind fun k=>(jE ds).map (k :: ·)
noncomputable def kT (k:List Key):D:=.tup (k.map kD)
section
variable {K:W.Frag} {G:Hp}
theorem fH:∀ {ds:List D} {bs:List (List Nat)} {xs:List V},fw ds=some bs→Reps K G ds xs→xs=bs.map (fun l=>V.str (S l))∧∀ l∈bs,l.length≤sizeLine
 | [],_,_,e,r=>by
  cases e
  rw [Reps] at r
  exact ⟨r,fun _ h=>nomatch h⟩
 | d :: ds,_,_,e,r=>by
  cases d with
  | str b=>
   rw [fw,Option.map_eq_some_iff] at e
   obtain ⟨bs,e1,e2⟩:=e
   subst e2
   rw [Reps] at r
   obtain ⟨y,ys,e3,r1,r2⟩:=r
   obtain ⟨h1,h2⟩:=fH e1 r2
   obtain ⟨h3,h4⟩:=bx r1
   subst h3
   refine ⟨by rw [e3,h1];rfl,fun l hl=>?_⟩
   rcases List.mem_cons.mp hl with rfl | hl
   ·exact h4
   ·exact h2 l hl
  | _=>simp [fw] at e
theorem g5 {d:D} {k:Key} {v:V} (e:kr d=some k) (r:Rep K G d v):v=kV k∧d=kD k:=by
 cases d with
 | int i=>
  cases e
  exact ⟨bG r,rfl⟩
 | str l=>
  cases e
  refine ⟨(bx r).1,?_⟩
  show D.str l=D.str (S l).cps.toList
  rw [dZ]
 | _=>cases e
theorem jF:∀ {ds:List D} {ks:List Key} {xs:List V},fF ds=some ks→Reps K G ds xs→xs=ks.map kV∧ds=ks.map kD
 | [],_,_,e,r=>by
  cases e
  rw [Reps] at r
  exact ⟨r,rfl⟩
 | d :: ds,_,_,e,r=>by
  rw [fF,Option.bind_eq_some_iff] at e
  obtain ⟨k,e1,e⟩:=e
  rw [Option.map_eq_some_iff] at e
  obtain ⟨ks,e2,e3⟩:=e
  subst e3
  rw [Reps] at r
  obtain ⟨y,ys,e4,r1,r2⟩:=r
  obtain ⟨h1,h2⟩:=g5 e1 r1
  obtain ⟨h3,h4⟩:=jF e2 r2
  rw [e4,h1,h2,h3,h4]
  exact ⟨rfl,rfl⟩
theorem d9 {d:D} {ks:List Key} {v:V} (e:fG d=some ks) (r:Rep K G d v):∃ p,v=.ref p∧G p=some (.tup (ks.map kV))∧d=kT ks:=by
 cases d with
 | tup ds=>
  obtain ⟨p,xs,ev,g,rs⟩:=sW r
  obtain ⟨h1,h2⟩:=jF e rs
  subst h1
  exact ⟨p,ev,g,by rw [h2];rfl⟩
 | _=>cases e
theorem ku:∀ {ds:List D} {F8:List (List Key)} {xs:List V},jE ds=some F8→Reps K G ds xs→∃ al:List (Addr×List Key),xs=al.map (fun a=>V.ref a.1)∧F8=al.map (·.2)∧ds=al.map (fun a=>kT a.2)∧∀ a∈al,G a.1=some (.tup (a.2.map kV))∧Rep K G (kT a.2) (.ref a.1)
 | [],_,_,e,r=>by
  cases e
  rw [Reps] at r
  exact ⟨[],r,rfl,rfl,fun _ h=>nomatch h⟩
 | d :: ds,_,_,e,r=>by
  rw [jE,Option.bind_eq_some_iff] at e
  obtain ⟨k,e1,e⟩:=e
  rw [Option.map_eq_some_iff] at e
  obtain ⟨ks,e2,e3⟩:=e
  subst e3
  rw [Reps] at r
  obtain ⟨y,ys,e4,r1,r2⟩:=r
  obtain ⟨p,h1,h2,h5⟩:=d9 e1 r1
  obtain ⟨al,h3,h4,h6,h7⟩:=ku e2 r2
  subst h1
  refine ⟨(p,k) :: al,by rw [e4,h3];rfl,by rw [h4];rfl,by rw [h5,h6];rfl,fun a ha=>?_⟩
  rcases List.mem_cons.mp ha with rfl | ha
  ·exact ⟨h2,by rw [←h5];exact r1⟩
  ·exact h7 a ha
theorem fI {α:Type} {f:α→D} {g:α→V}:∀ {l:List α},(∀ a∈l,Rep K G (f a) (g a))→Reps K G (l.map f) (l.map g)
 | [],_=>Reps.nil
 | a :: l,h=>.cons (h a List.mem_cons_self) (fI fun b hb=>h b (List.mem_cons_of_mem _ hb))
end
noncomputable def sameKinds (k:List Key) (F8:List (List Key)):Bool:=!k.isEmpty && F8.all fun j=>kinds j == kinds k
noncomputable def kx (ds:List D):Option (List D):=match c8 ds with
 | some ns=>some ((bz ltI ns).map D.int)
 | none=>match fw ds with
  | some ls=>some ((bz HI ls).map D.str)
  | none=>match jE ds with
   | some (k :: F8)=>if sameKinds k F8 then some ((bz eO (k :: F8)).map kT) else none
   | _=>none
noncomputable def e7:List D→Res R
 | [.lst ds]=>if ds.length < 64 then match kx ds with
  | some l=>.ok (.l .f,.lst l)
  | none=>.bad
  else .bad
 | [.dct true ks _]=>if ks.length < 64 then match ks,jE ks with
  | [],_=>.ok (.l .f,.lst [])
  | _,some (k :: F8)=>if sameKinds k F8 then .ok (.l .f,.lst ((bz eO (k :: F8)).map kT)) else .bad
  | _,_=>.bad
  else .bad
 | _=>.bad
theorem iT {k:List Key} {F8:List (List Key)} (h:sameKinds k F8=true):∃ top t,∀ j∈k :: F8,kinds j=top :: t:=by
 unfold sameKinds at h
 rw [Bool.and_eq_true,List.all_eq_true] at h
 cases k with
 | nil=>simp at h
 | cons a k=>
  refine ⟨a.isLeft,kinds k,fun j hj=>?_⟩
  rcases List.mem_cons.mp hj with rfl | hj
  ·rfl
  ·exact beq_iff_eq.mp (h.2 j hj)
noncomputable def jG (H G:Hp):Hp:=fun p=>match H p with
 | some (HO.tup xs)=>some (HO.tup xs)
 | _=>G p
theorem qX {H G:Hp} {p:Addr} {xs:List V} (e:H p=some (.tup xs)):jG H G p=some (.tup xs):=by
 unfold jG
 rw [e]
theorem ky {H G:Hp} {p:Addr} {u:HO} (e:jG H G p=some u):G p=some u∨(isT u=true∧H p=some u):=by
 unfold jG at e
 split at e
 ·rename_i xs hx
  cases e
  exact .inr ⟨rfl,hx⟩
 ·exact .inl e
theorem tH {H G:Hp} (gh:Same G H):Same G (jG H G):=fun p u e=>by
 unfold jG
 rw [gh p u e]
 cases u with
 | tup xs=>rfl
 | _=>exact e
theorem Rel.addT {K:W.Frag} {G H:Hp} {es:PV.Env} {vs:L2.St} {fp:List Addr} (q:Rel K G H es vs fp):∃ G',Rel K G' H es vs fp∧Step G H fp G' H fp∧∀ p xs,H p=some (.tup xs)→G' p=some (.tup xs):=by
 have gg:=tH q.gh
 refine ⟨jG H G,⟨q.rep.step gg fun _ _=>rfl,q.nd,fun p hp=>?_,fun p u e=>?_⟩,⟨gg,fun _ _ e _=>e,fun _ h=>.inl h,fun p u e=>(ky e).imp_right fun z=>.inr (.inr z),fun _ u e=>⟨u,e⟩⟩,fun p xs e=>qX e⟩
 ·cases e:jG H G p with
  | none=>rfl
  | some u=>
   exfalso
   rcases ky e with z | ⟨t,z⟩
   ·rw [q.gn p hp] at z
    cases z
   ·obtain ⟨u2,h2,hm⟩:=q.rep.mut p hp
    rw [z] at h2
    cases h2
    cases u with
    | tup _=>cases hm
    | frz _ _=>cases hm
    | _=>cases t
 ·rcases ky e with z | z
  ·exact q.gh p u z
  ·exact z.2
theorem z6 {K:W.Frag} {G:Hp} {k:Key} (h:wt k):Rep K G (kD k) (kV k):=by
 cases k with
 | inl i=>exact bu i
 | inr x=>
  have:=iq (K:=K) (G:=G) (l:=x.cps.toList) h
  rw [nH] at this
  exact this
theorem z7 (k:Key):kr (kD k)=some k:=by
 cases k with
 | inl i=>rfl
 | inr x=>
  show some (Sum.inr (S x.cps.toList))=_
  rw [nH]
theorem kz:∀ ks:List Key,fF (ks.map kD)=some ks
 | []=>rfl
 | k :: ks=>by
  rw [List.map_cons,fF,z7,kz ks]
  rfl
theorem jl:∀ F8:List (List Key),jE (F8.map kT)=some F8
 | []=>rfl
 | k :: F8=>by
  rw [List.map_cons,jE]
  show (fF (k.map kD)).bind _=_
  rw [kz,jl F8]
  rfl
section
variable {X:Cx}
theorem OR {α:Type} {lt:α→α→Bool} {p:α→α→Prop} (h:∀ a b,p a b→lt b a=false) {l:List α} (q:l.Pairwise p):l.Pairwise (fun a b=>lt b a=false):=q.imp (h _ _)
theorem iU (hc:X.calm=true):dE X (.builtin "sorted") (rC X.K e7):=by
 rintro pins s σ H xs us Q I rx ⟨G,fp,es,vs,ds,r,⟨rel,k⟩,vd,e⟩
 unfold e7 at e
 split at e
 ·rename_i ds
  split at e
  ·rename_i HW
   split at e
   ·rename_i l hl
    cases e
    obtain ⟨v,ev,p,ys,ep,sq,rs⟩:=mZ vd
    subst ev
    subst ep
    unfold kx at hl
    split at hl
    ·rename_i ns Lz
     cases hl
     have hy:=iu Lz rs
     subst hy
     have hlen:ns.length < 64:=by have:=rs.length;rw [List.length_map] at this;lia
     refine jR hc pins s σ H _ us Q I rx ⟨p,ns,rfl,sq,hlen,fun q ms hq pm sm=>?_⟩
     have em:=iS xX pm (OR (fun a b h=>by unfold ltI;rw [decide_eq_false_iff_not];lia) sm)
     subst em
     obtain ⟨DU,D1⟩:=rel.newL hq (fI (K:=X.K) (G:=G) (f:=D.int) (g:=V.int) fun a _=>bu a)
     exact k _ _ G _ D1 DU
    ·split at hl
     ·rename_i ls hls
      cases hl
      obtain ⟨hy,hz⟩:=fH hls rs
      subst hy
      have hlen:ls.length < 64:=by have:=rs.length;rw [List.length_map] at this;lia
      refine jS hc pins s σ H _ us Q I rx ⟨p,ls,rfl,sq,hlen,fun q ms hq pm sm=>?_⟩
      have em:=iS pe pm (OR (fun a b h=>by unfold HI;rw [decide_eq_false_iff_not];exact h) sm)
      obtain ⟨DU,D1⟩:=rel.newL hq (fI (K:=X.K) (G:=G) (f:=D.str) (g:=fun l=>V.str (S l)) (l:=ms) fun a ha=>iq (hz a (pm.mem_iff.mp ha)))
      rw [←em] at k
      exact k _ _ G _ D1 DU
     ·split at hl
      ·rename_i kk F8 hk
       split at hl
       ·rename_i hsk
        cases hl
        obtain ⟨al,h1,h2,h3,h4⟩:=ku hk rs
        obtain ⟨top,t,F9⟩:=iT hsk
        subst h1
        have hlen:al.length < 64:=by have:=rs.length;rw [List.length_map] at this;lia
        refine jT hc pins s σ H _ us Q I rx ⟨p,al,top,t,rfl,sq,fun a ha=>⟨SqT.of (rel.gh _ _ (h4 a ha).1),F9 a.2 (by rw [h2];exact List.mem_map.mpr ⟨a,ha,rfl⟩)⟩,hlen,fun q ms hq pm sm=>?_⟩
        have em:ms.map (·.2)=bz eO (kk :: F8):=by
         rw [h2]
         refine iS tG (pm.map _) ?_
         rw [List.pairwise_map]
         exact sm
        obtain ⟨DU,D1⟩:=rel.newL hq (fI (K:=X.K) (G:=G) (f:=fun a:Addr×List Key=>kT a.2) (g:=fun a=>V.ref a.1) (l:=ms) fun a ha=>(h4 a (pm.mem_iff.mp ha)).2)
        have ek:ms.map (fun a=>kT a.2)=(bz eO (kk :: F8)).map kT:=by rw [←em,List.map_map];rfl
        rw [ek] at DU
        exact k _ _ G _ D1 DU
       ·cases hl
      ·cases hl
   ·cases e
  ·cases e
 ·rename_i ks vv
  split at e
  ·rename_i HW
   obtain ⟨v,ev,vt⟩:=mZ vd
   obtain ⟨p,ys,o,ep,rd,dd,rs⟩:=vt
   subst ev
   subst ep
   obtain ⟨DT,eo,ek,ex,Hs⟩:=dd
   subst eo
   have ek:ks=(DT.map (·.1)).map kT:=by rw [ek,List.map_map];rfl
   have hlen:DT.length < 64:=by rw [ek,List.length_map,List.length_map] at HW;exact HW
   have go:∀ (top:Bool) (t:List Bool),(∀ kv∈DT,kinds kv.1=top :: t)→r=(.l .f,.lst ((bz eO (DT.map (·.1))).map kT))→wpAny (model X.prog X.w) X.A (call (.builtin "sorted") us) (EP X pins σ Q) X.xe s:=fun top t F9 er=>by
    subst er
    refine lx hc pins s σ H _ us Q I rx ⟨p,DT,top,t,rfl,rd,F9,hlen,fun q ms hq hm pm sm=>?_⟩
    have em:ms.map (·.2)=bz eO (DT.map (·.1)):=by
     refine iS tG pm ?_
     rw [List.pairwise_map]
     exact sm
    obtain ⟨G2,DU,D1,ht⟩:=rel.addT
    have GU:∀ a∈ms,Rep X.K G2 (kT a.2) (.ref a.1):=fun a ha=>by
     unfold kT
     rw [Rep]
     refine ⟨a.1,_,rfl,ht _ _ (hm a ha),?_⟩
     refine fI (f:=kD) (g:=kV) fun key FQ=>z6 ?_
     have:a.2∈DT.map (·.1):=pm.mem_iff.mp (List.mem_map.mpr ⟨a,ha,rfl⟩)
     obtain ⟨kv,GS,e2⟩:=List.mem_map.mp this
     exact Hs kv GS key (by rw [e2];exact FQ)
    obtain ⟨Et,Ez⟩:=DU.newL hq (fI (K:=X.K) (G:=G2) (f:=fun a:Addr×List Key=>kT a.2) (g:=fun a=>V.ref a.1) (l:=ms) GU)
    have ek:ms.map (fun a=>kT a.2)=(bz eO (DT.map (·.1))).map kT:=by rw [←em,List.map_map];rfl
    rw [ek] at Et
    exact k _ _ G2 _ (D1.trans Ez) Et
   rw [ek,jl] at e
   split at e
   ·rename_i hnil
    cases e
    have:DT=[]:=by
     cases DT with
     | nil=>rfl
     | cons a b=>cases hnil
    subst this
    exact go true [] (fun _ h=>nomatch h) rfl
   ·rename_i kk F8 heq IA
    split at e
    ·rename_i hsk
     cases e
     obtain ⟨top,t,F9⟩:=iT hsk
     have heq:DT.map (·.1)=kk :: F8:=by
      injection heq
     refine go top t (fun kv GS=>F9 kv.1 ?_) (by rw [heq])
     rw [←heq]
     exact List.mem_map.mpr ⟨kv,GS,rfl⟩
    ·cases e
   ·cases e
  ·cases e
 ·cases e
noncomputable def Ht (a b:D):Res R:=match fG a,fG b with
 | some ks,some js=>if kinds ks == kinds js then .ok (.f,.bl (eO ks js)) else .bad
 | _,_=>LB a b
noncomputable def geO (a b:D):Res R:=match fG a,fG b with
 | some ks,some js=>if kinds ks == kinds js then .ok (.f,.bl (!eO ks js)) else .bad
 | _,_=>match a,b with
  | .str a,.str b=>.ok (.f,.bl (!decide (a < b)))
  | a,b=>geD a b
theorem kA (hu:X.A.units < cLine):EE X (compareOp .Lt) (rG X.K Ht):=by
 rintro pins s σ H x y v u Q I rx ry ⟨G,fp,es,vs,a,b,r,⟨rel,k⟩,va,vb,e⟩
 unfold Ht at e
 split at e
 ·rename_i ks js h1 h2
  split at e
  ·rename_i hk
   cases e
   have ra:Rep X.K G a x:=by cases a <;> first | exact va | cases h1
   have rb:Rep X.K G b y:=by cases b <;> first | exact vb | cases h2
   obtain ⟨p,e1,g1,_⟩:=d9 h1 ra
   obtain ⟨p2,e2,g2,_⟩:=d9 h2 rb
   subst e1
   subst e2
   exact zP hu pins s σ H _ _ v u Q I rx ry ⟨p,p2,ks,js,rfl,rfl,SqT.of (rel.gh _ _ g1),SqT.of (rel.gh _ _ g2),beq_iff_eq.mp hk,k _ H G fp .refl (rel.push (dq _))⟩
  ·cases e
 ·exact B5 pins s σ H x y v u Q I rx ry ⟨G,fp,es,vs,a,b,r,⟨rel,k⟩,va,vb,e⟩
end
noncomputable def eNewD (tk:Bool):FX:=fun env=>.ok ((.d,.dct tk [] []),env)
section
variable {md:Mode} {X:Cx}
noncomputable def pf (ks vs:List D) (k v:D):List D×List D:=if ks.any (eqD k) then (ks,(ks.zip vs).map fun p=>if eqD k p.1 then v else p.2) else (ks++[k],vs++[v])
noncomputable def eh (tk:Bool) (k:D):Bool:=if tk then (fG k).isSome else (kr k).isSome
noncomputable def z8 (i:Nat) (fk fv:FX):FS:=fun env=>(fv env).bind fun p=>(fk p.2).bind fun q=>match p.2[i]?,q.2[i]? with
 | some (some _),some (some (.d,.dct tk ks vs))=>if eh tk q.1.2 && decide (ks.length < sizeLine) then .ok (.nx (q.2.set i (some (.d,.dct tk (pf ks vs q.1.2 p.1.2).1 (pf ks vs q.1.2 p.1.2).2)))) else .bad
 | _,_=>.bad
theorem tI (a b:Key):eqD (kD a) (kD b)=decide (a=b):=by
 cases a with
 | inl i=>
  cases b with
  | inl j=>simp only [kD,eqD];rw [Bool.eq_iff_iff];simp
  | inr y=>simp only [kD,eqD];simp
 | inr x=>
  cases b with
  | inl j=>simp only [kD,eqD];simp
  | inr y=>
   simp only [kD,eqD]
   rw [Bool.eq_iff_iff]
   simp only [beq_iff_eq,decide_eq_true_eq,Sum.inr.injEq]
   exact ⟨fun h=>by rw [←nH x,←nH y,h],fun h=>by rw [h]⟩
theorem tJ:∀ a b:List Key,jj (a.map kD) (b.map kD)=decide (a=b)
 | [],[]=>by simp [jj]
 | [],_ :: _=>by simp [jj]
 | _ :: _,[]=>by simp [jj]
 | a :: r,b :: t=>by
  rw [List.map_cons,List.map_cons,jj,tI,tJ r t,Bool.eq_iff_iff]
  simp
theorem wC (a b:List Key):eqD (kT a) (kT b)=decide (a=b):=by
 unfold kT
 rw [eqD]
 exact tJ a b
theorem oh {κ:Type} [DecidableEq κ] {K:W.Frag} {G:Hp} (f:κ→D) (hf:∀ a b,eqD (f a) (f b)=decide (a=b)) {DT:List (κ×V)} {vs:List D} {k:κ} {v:D} {y:V} (r:Reps K G vs (DT.map (·.2))) (ry:Rep K G v y) :
  (jU DT k y).map (fun kv=>f kv.1)=(pf (DT.map fun kv=>f kv.1) vs (f k) v).1∧Reps K G (pf (DT.map fun kv=>f kv.1) vs (f k) v).2 ((jU DT k y).map (·.2)):=by
 have e:(DT.map fun kv=>f kv.1).any (eqD (f k))=DT.any fun kv=>decide (kv.1=k):=by
  rw [List.any_map]
  congr 1
  funext kv
  show eqD (f k) (f kv.1)=_
  rw [hf,Bool.eq_iff_iff]
  simp only [decide_eq_true_eq]
  exact ⟨fun z=>z.symm,fun z=>z.symm⟩
 unfold pf jU
 rw [e]
 split
 ·refine ⟨?_,?_⟩
  ·rw [List.map_map]
   refine List.map_congr_left fun kv _=>?_
   show f (if kv.1=k then (kv.1,y) else kv).1=f kv.1
   split <;> rfl
  ·rename_i hany
   clear e hany
   induction DT generalizing vs with
   | nil=>
    have:vs=[]:=List.eq_nil_of_length_eq_zero (by rw [←r.length];rfl)
    subst this
    exact Reps.nil
   | cons kv DT ih=>
    cases vs with
    | nil=>have:=r.length;simp at this
    | cons d vs=>
     rw [List.map_cons,Reps.cons_iff] at r
     rw [List.map_cons,List.zip_cons_cons,List.map_cons,List.map_cons,List.map_cons]
     refine .cons ?_ (ih r.2)
     show Rep K G (if eqD (f k) (f kv.1)=true then v else d) (if kv.1=k then (kv.1,y) else kv).2
     rw [hf]
     by_cases hk:kv.1=k
     ·rw [if_pos (by simp [hk]),if_pos hk]
      exact ry
     ·rw [if_neg (by simp;exact fun z=>hk z.symm),if_neg hk]
      exact r.1
 ·refine ⟨?_,?_⟩
  ·rw [List.map_append]
   rfl
  ·rw [List.map_append]
   exact r.app (.one ry)
theorem Rel.chgD {K:W.Frag} {G H:Hp} {es:PV.Env} {vs:L2.St} {fp:List Addr} {i:Nat} {tk:Bool} {ks ws:List D} (q:Rel K G H es vs fp) (e:es[i]?=some (some (.d,.dct tk ks ws))):∃ p xs u,vs[i]?=some (some (.ref p))∧H p=some u∧DictO u tk ks xs∧Reps K G ws xs∧
  ∀ u' Hi FC L8,DictO u' tk Hi FC→Reps K G L8 FC→∃ fq,Rel K G (upd H p u') (es.set i (some (.d,.dct tk Hi L8))) vs fq∧Step G H fp G (upd H p u') fq:=by
 obtain ⟨v,fq,ev,g,st,Gg⟩:=q.out e
 obtain ⟨y,ys,e0,v',a,b,e1,e2,r1,r2⟩:=g.rep
 cases e0
 cases e1
 rw [RepO] at r1
 obtain ⟨p,xs,u,e3,hp,dd,e4,rs⟩:=r1
 subst e3
 subst e4
 subst e2
 have nd:=List.nodup_cons.mp (show (p :: b).Nodup from g.nd)
 refine ⟨p,xs,u,ev,hp,dd,rs,fun u' Hi FC L8 JD F0=>?_⟩
 have g2:Rel K G (upd H p u') (some (.d,.dct tk Hi L8) :: es.set i none) (some (.ref p) :: vs) (p :: b):=by
  refine ⟨⟨some (.ref p),vs,rfl,.ref p,[p],b,rfl,rfl,?_,r2.step (.refl _) fun z hz=>aP fun e=>nd.1 (e▸hz)⟩,g.nd,g.gn,fun z o ez=>?_⟩
  ·rw [RepO]
   exact ⟨p,FC,u',rfl,bI,JD,rfl,F0⟩
  ·have:z≠p:=fun w=>by
    subst w
    rw [g.gn z List.mem_cons_self] at ez;cases ez
   rw [aP this]
   exact g.gh z o ez
 have N7:Step G H (p :: b) G (upd H p u') (p :: b):=by
  refine ⟨.refl _,fun z o ez nz=>?_,fun z hz=>.inl hz,fun z o ez=>.inl ez,fun z o ez=>?_⟩
  ·have:z≠p:=fun w=>nz (by rw [w];exact List.mem_cons_self)
   rw [aP this]
   exact ez
  ·by_cases w:z=p
   ·subst w
    exact ⟨_,bI⟩
   ·exact ⟨o,by rw [aP w];exact ez⟩
 obtain ⟨fz,g3,Ez⟩:=g2.back (i:=i) (by rw [List.length_set];exact (List.getElem?_eq_some_iff.mp e).1) ev
 rw [List.set_set] at g3
 exact ⟨fz,g3,st.trans (N7.trans Ez)⟩
theorem tL {K:W.Frag} {G:Hp} {d:D} {k:Key} {v:V} (e:kr d=some k) (r:Rep K G d v):wt k:=by
 cases d with
 | int i=>cases e;trivial
 | str l=>
  cases e
  show (S l).cps.toList.length≤sizeLine
  rw [dZ]
  exact (bx r).2
 | _=>cases e
theorem tM {K:W.Frag} {G:Hp}:∀ {ds:List D} {ks:List Key} {xs:List V},fF ds=some ks→Reps K G ds xs→∀ k∈ks,wt k
 | [],_,_,e,_=>by
  cases e
  exact fun _ h=>nomatch h
 | d :: ds,_,_,e,r=>by
  rw [fF,Option.bind_eq_some_iff] at e
  obtain ⟨k,e1,e⟩:=e
  rw [Option.map_eq_some_iff] at e
  obtain ⟨ks,e2,e3⟩:=e
  subst e3
  rw [Reps] at r
  obtain ⟨y,ys,e4,r1,r2⟩:=r
  intro z hz
  rcases List.mem_cons.mp hz with rfl | hz
  ·exact tL e1 r1
  ·exact tM e2 r2 z hz
theorem ql {κ:Type} [DecidableEq κ] {P:κ→Prop} {DT:List (κ×V)} {k:κ} {y:V} (h:∀ kv∈DT,P kv.1) (hk:P k):∀ kv∈jU DT k y,P kv.1:=by
 intro kv GS
 unfold jU at GS
 split at GS
 ·obtain ⟨z,hz,e⟩:=List.mem_map.mp GS
  rw [←e]
  split
  ·exact h z hz
  ·exact h z hz
 ·rcases List.mem_append.mp GS with GS | GS
  ·exact h kv GS
  ·rw [List.mem_singleton] at GS
   rw [GS]
   exact hk
theorem wD {i:Nat} {o ix value:Expr} {fk fv:FX} {pos pos':Pos} (hu:X.A.units + 1 < cLine) (ho:PE X o (uM i)) (hi:QE X ix fk) (hv:QE X value fv) (hs:swapsWith value (some (.Subscript o ix pos')) pos.line X.env=pure false:=by rfl) :
  QS (md:=md) X (.Assign [.Subscript o ix pos'] value pos) (z8 i fk fv):=hV (xF hu ho hi hv hs) fun Dd σ H D6=>by
 obtain ⟨G,env,fp,rel,k⟩:=D6
 unfold z8 at k
 match q1:fv env,k with
 | .ok (r1,DR),k=>
  have k:OutOk X.K G H fp Dd ((fk DR).bind fun q=>match DR[i]?,q.2[i]? with
   | some (some _),some (some (.d,.dct tk ks vs))=>if eh tk q.1.2 && decide (ks.length < sizeLine) then .ok (.nx (q.2.set i (some (.d,.dct tk (pf ks vs q.1.2 r1.2).1 (pf ks vs q.1.2 r1.2).2)))) else .bad
   | _,_=>.bad):=k
  match q2:fk DR,k with
  | .ok (r2,DZ),k=>
   have k:OutOk X.K G H fp Dd (match DR[i]?,DZ[i]? with
    | some (some _),some (some (.d,.dct tk ks vs))=>if eh tk r2.2 && decide (ks.length < sizeLine) then .ok (.nx (DZ.set i (some (.d,.dct tk (pf ks vs r2.2 r1.2).1 (pf ks vs r2.2 r1.2).2)))) else .bad
    | _,_=>.bad):=k
   split at k
   ·rename_i rr tk ks ws h1 h2
    split at k
    ·rename_i hc
     rw [Bool.and_eq_true,decide_eq_true_eq] at hc
     refine ⟨G,env,fp,r1,DR,rel,q1,fun y H1 G1 Ef D9 DV=>?_⟩
     obtain ⟨G2,b,ry,DU,D1⟩:=DV.freeze
     obtain ⟨v0,Md,_⟩:=DU.view h1
     refine ⟨v0,Md,G2,DR,b,r2,DZ,DU,q2,fun z H3 G3 Gj Ez Et=>?_⟩
     obtain ⟨G4,b4,rz,ES,Fy⟩:=Et.freeze
     obtain ⟨p,xs,u,ep,hp,dd,rs,cg⟩:=ES.chgD h2
     rw [Md] at ep
     cases ep
     have Nu:Rep X.K G4 r1.2 y:=Rep.mono (Ez.gg.trans Fy.gg) ry
     cases tk with
     | true=>
      obtain ⟨DT,eu,ek,ex,Hs⟩:=dd
      subst eu
      subst ex
      have hk:=hc.1
      unfold eh at hk
      rw [if_pos rfl,Option.isSome_iff_exists] at hk
      obtain ⟨kk,hk⟩:=hk
      obtain ⟨pz,ez,gz,dz⟩:=d9 hk rz
      subst ez
      obtain ⟨t1,t2⟩:=oh (K:=X.K) (G:=G4) kT wC (k:=kk) rs Nu
      have ek:ks=DT.map fun kv=>kT kv.1:=ek
      rw [←ek,←dz] at t1 t2
      have hfk:∀ key∈kk,wt key:=by
       cases hd:r2.2 with
       | tup ds=>
        rw [hd] at hk rz
        obtain ⟨_,FC,_,_,F0⟩:=sW rz
        exact tM hk F0
       | _=>rw [hd] at hk;cases hk
      obtain ⟨fq,Fl,F3⟩:=cg (.dT (jU DT kk y)) _ _ _ ⟨jU DT kk y,rfl,t1.symm,rfl,ql (P:=fun ks=>∀ k∈ks,wt k) Hs hfk⟩ t2
      have hlen:DT.length < sizeLine:=by have:=hc.2;rw [ek,List.length_map] at this;exact this
      exact ⟨p,_,rfl,DPut.t hp (ES.gh _ _ gz) hlen,k _ _ G4 fq (D9.trans (D1.trans (Ez.trans (Fy.trans F3)))) Fl⟩
     | false=>
      obtain ⟨DT,eu,ek,ex,Hs⟩:=dd
      subst eu
      subst ex
      have hk:=hc.1
      unfold eh at hk
      rw [if_neg Bool.false_ne_true,Option.isSome_iff_exists] at hk
      obtain ⟨kk,hk⟩:=hk
      obtain ⟨ez,dz⟩:=g5 hk rz
      subst ez
      obtain ⟨t1,t2⟩:=oh (K:=X.K) (G:=G4) kD tI (k:=kk) rs Nu
      rw [←ek,←dz] at t1 t2
      obtain ⟨fq,Fl,F3⟩:=cg (.dK (jU DT kk y)) _ _ _ ⟨jU DT kk y,rfl,t1.symm,rfl,ql (P:=wt) Hs (tL hk rz)⟩ t2
      have hlen:DT.length < sizeLine:=by have:=hc.2;rw [ek,List.length_map] at this;exact this
      exact ⟨p,_,rfl,DPut.k hp hlen,k _ _ G4 fq (D9.trans (D1.trans (Ez.trans (Fy.trans F3)))) Fl⟩
    ·exact k.elim
   ·exact k.elim
end
end PV
namespace NX
open PySem PySem.Spec PyProof.Rows L2
section
variable {prog:Program} {w:World} {A:Around} {E:Value→Shared→Prop} {s:Shared} {d:Addr} {es:Array DictEntry} {ep:Nat}
theorem mC (nm:(d == sysModules)=false):MeetsIn prog w (Builtin.«dict.__len__» ⟨[.ref d],[]⟩) (fun _ R s=>RawD s.heap d es ep∧R (.ok (.ret (.int es.size s.toks))) { s with toks:=s.toks + 1 }):=
 .of_wp fun A R s D6=>by
  obtain ⟨⟨o,g,_,dat⟩,h⟩:=D6
  show wpAny _ _ (dictSize d >>= fun _=>_) _ _ s
  unfold dictSize
  refine wpAny_bind (wpAny_bind (wpAny_dictEntries g dat (wpAny_pure ?_)))
  show wpAny _ _ (Builtin.Dict.pendingCount d >>= fun _=>_) _ _ s
  refine wpAny_bind (wpAny_pendingCount_other nm (wpAny_ret_mkInt ?_))
  rw [Nat.add_zero]
  exact h
theorem xY {Q:Value→Shared→Prop} (nm:(d == sysModules)=false) (x:RawD s.heap d es ep) (hf:(es.size:Int) < 2 ^ 63) (h:Q (.int es.size (s.toks + 1)) { s with toks:=s.toks + 1 + 1 }):wpAny (model prog w) A (call (.builtin "len") [.ref d]) Q E s:=by
 have ty:=j0 x
 refine Calls.call_function_entry kind_len plain_len entry_len (args_len1 _) ?_
 unfold Builtin.«len»
 refine wpAny_bind (m:=oneArg "len" _) (wpAny_pure (wpAny_bind (m:=callSpecial? (.ref d) (Str.ofString "__len__")) (wpAny_callSpecial?_slot (name:=Str.ofString "__len__") ty F.slot_dict_len
  (call_meetsIn F.slot_dict_len ty F.entry_dict_len (F.args_dict_len_1 _) (mC (es:=es) (ep:=ep) nm) ⟨x,?_⟩))))
 show wpAny _ _ _ _ _ { s with toks:=s.toks + 1 }
 refine wpAny_bind (wpAny_holding (wpAny_pure (wpAny_bind (wpAny_letGo ?_))))
 show wpAny _ _ (if ((es.size:Nat):Int) < 0 then _ else _) _ _ _
 rw [if_neg (Int.not_lt.mpr (Int.natCast_nonneg _))]
 show wpAny _ _ (if ((es.size:Nat):Int) ≥ 2 ^ 63 then _ else _) _ _ _
 rw [if_neg (Int.not_le.mpr hf)]
 exact wpAny_bind (wpAny_mkInt (wpAny_pure ⟨_,rfl,h⟩))
end
end NX
namespace PV
open PySem PySem.Spec PyProof.Rows L2 NX
section
variable {X:Cx}
noncomputable def kB:List D→Res R
 | [.dct _ ks _]=>.ok (.f,.int ks.length)
 | ds=>B8 ds
theorem z9 {pins:List (Addr×Obj)} {σ:L2.St} {H:Hp} {s:Shared} (I:Inv X pins σ H s) {p:Addr} {o:HO} {tk:Bool} {ks:List D} {xs:List V} (rd:Rd H p o) (dd:DictO o tk ks xs):(p == sysModules)=false∧∃ es ep,RawD s.heap p es ep∧es.size=ks.length∧ks.length≤sizeLine:=by
 have ok:=rd.ok I.hok
 cases tk with
 | true=>
  obtain ⟨DT,eo,ek,_⟩:=dd
  subst eo
  obtain ⟨z,nm,ws,r,o2,es,ep,h1,h2,h3,h4,_⟩:=ok
  refine ⟨nm,es,ep,⟨o2,h1,h2,h3⟩,?_,by rw [ek,List.length_map];exact z⟩
  have:=congrArg List.length h4
  rw [List.length_map,Array.length_toList,←Paired.length r] at this
  rw [ek,List.length_map]
  exact this
 | false=>
  obtain ⟨DT,eo,ek,_⟩:=dd
  subst eo
  obtain ⟨z,nm,ws,r,o2,es,ep,h1,h2,h3,h4,h5,_⟩:=ok
  refine ⟨nm,es,ep,⟨o2,h1,h2,h3⟩,?_,by rw [ek,List.length_map];exact z⟩
  have l1:=h5.length
  have l2:DT.length=ws.length:=Paired.length r
  rw [ek,List.length_map]
  rw [Array.length_toList] at l1
  lia
theorem df:dE X (.builtin "len") (rC X.K kB):=by
 rintro pins s σ H xs us Q I rx ⟨G,fp,es,vs,ds,r,⟨rel,k⟩,vd,e⟩
 unfold kB at e
 split at e
 ·rename_i tk ks ws
  cases e
  obtain ⟨v,ev,p,ys,o,ep,rd,dd,_⟩:=mZ vd
  subst ev
  subst ep
  obtain ⟨u,rfl,ru⟩:=gc rx
  cases ru
  obtain ⟨nm,en,ep,raw,h1,h2⟩:=z9 I rd dd
  refine xY nm raw (by rw [h1];rw [sizeLine_eq] at h2;lia) ?_
  refine ⟨.int ks.length,H,I.tok _,⟨_,by rw [h1]⟩,k _ H G fp .refl (rel.push (bu _))⟩
 ·exact zX pins s σ H xs us Q I rx ⟨G,fp,es,vs,_,r,⟨rel,k⟩,vd,e⟩
noncomputable def Cc (g:List Nat→List D→Res R) (fa:FO) (fs:Fq):FX:=fun env=>(fa env).bind fun p=>match Eg p.2 p.1 with
 | .ok (.str l)=>(fs p.2).bind fun q=>(mY q.2 q.1).bind fun ds=>(g l ds).bind fun r=>.ok (r,q.2)
 | _=>.bad
inductive rMtS (K:W.Frag) (g:List Nat→List D→Res R) (x:V) (xs:List V) (H:Hp) (Q:VK):Prop
 | mk:∀ G fp es vs l ds r,Goes K H G fp es vs r Q→x=.str (S l)→l.length≤sizeLine→Ko K G H ds xs→g l ds=.ok r→rMtS K g x xs H Q
theorem Aa {g:List Nat→List D→Res R} {id:String} {name:Str} {o e:Expr} {es:List Expr} {fa:FO} {fs:Fq} {apos Ec:Pos} (slot:Slot "str" name id) (IG:typeOf (.builtin id)=pure (.type "method_descriptor")) (hm:Jy X id (rMtS X.K g)) (ho:QO X o fa) (ha:IB X (e :: es) fs)
  (E7:attributeBase o name X.env (eval o X.env)=eval o X.env:=by rfl)
  (F5:((backTo Ec (starEach (e :: es) X.env)).all (fun x=>!x.1) && (backToKw Ec (keywordEach [] X.env)).all (fun x=>x.1.isSome) && decide ((e :: es).length + ([]:List Keyword).length + (if ([]:List Keyword).isEmpty then 0 else 1) < 30))=true:=by rfl)
  (E8:(apos.endLine == Ec.line)=true:=by rfl) (hs:starEach (e :: es) X.env=(false,eval e X.env) :: starEach es X.env:=by rfl) (EF:(backTo Ec (starEach es X.env)).any (·.1)=false:=by rfl) :
  QE X (.Call (.Attribute o name apos) (e :: es) [] Ec) (Cc g fa fs):=by
 refine bU (xk PySem.F.plainAttrs_str slot IG hm ho ha E7 F5 E8 hs EF) fun σ H Q Ee=>?_
 obtain ⟨G,env,fp,r,env',rel,e,k⟩:=Ee
 obtain ⟨⟨oa,DR⟩,e1,e⟩:=ar e
 dsimp only at e
 split at e
 ·rename_i l hl
  obtain ⟨⟨os,DZ⟩,e2,e⟩:=ar e
  obtain ⟨ds,e3,e⟩:=ar e
  obtain ⟨r',e4,e⟩:=ar e
  cases e
  refine ⟨G,env,fp,oa,DR,rel,e1,fun v H1 G1 Ef D9 DV Fi=>?_⟩
  obtain ⟨ev,hz⟩:=gk (DV.vw Fi hl)
  subst ev
  exact ⟨rfl,G1,DR,Ef,os,DZ,DV,e2,fun vs H2 G2 EC D1 DU HY=>⟨G2,EC,DZ,σ,l,ds,r,⟨DU,fun v H' G' D0 st Ek=>k v H' G' D0 (D9.trans (D1.trans st)) Ek⟩,rfl,hz,DU.vws HY e3,e4⟩⟩
 ·cases e
end
theorem fnok_of {P:Program} {w:World} {K:W.Frag} {mg:Str→Option Value} {base:Heap} {x:Str} {st:Stmt} {N ps:List Str} {k:Nat} {g:FS} {f:Addr} {fd:FuncData} (F:Fun K x x st f fd) (sc:FnScope N ps (defScope st))
  (body:∀ (Ej:Value) (A:Around) (outer:List PySem.Env) (s:Shared) (H:Hp) (E:XK),Room k (A.deeper (envOfC x (defScope st) s.heap.objs.size f Ej))→Jr (md:=.plain) (v7 IJ P w K mg base N x (defScope st) f Ej A outer s H E).nox (dY st) g) :
  FnOk P w K mg base IJ (k + 1) f fd ps (spF K (fBody ps.length (N.length - ps.length) g)):=by
 refine F.ok sc (fun vs H Q E h=>?_) (fun Ej A outer s H vs Q E hr h=>?_)
 ·obtain ⟨G,ds,r,_,rs,e,_⟩:=h
  unfold fBody at e
  split at e
  ·rename_i hl
   rw [rs.length,hl]
  ·cases e
 ·obtain ⟨G,ds,r,gh,rs,e,q⟩:=h
  unfold fBody at e
  split at e
  ·rename_i hl
   refine ⟨_,body Ej A outer s H E hr,G,ds.map (fun d=>some (O.f,d))++List.replicate (N.length - ps.length) none,[],⟨?_,List.nodup_nil,(fun _ h=>nomatch h),gh⟩,?_⟩
   ·have:=kl (K:=K) (G:=G) (H:=H) (N.length - ps.length) rs
    unfold L2.start
    rw [rs.length,hl]
    exact this
   ·obtain ⟨o,eo,e⟩:=ar e
    rw [eo]
    cases o with
    | rt r'=>
     cases e
     exact fun v H' G' D0 st rel=>q v H' G' D0 st rel
    | nx env'=>
     cases e
     exact fun σ' H' G' D0 st rel=>q .non H' G' [] (st.trans (Step.cut fun _ h=>nomatch h)) (rel.nilF.push o5)
    | bk env'=>cases e
    | ct env'=>cases e
  ·cases e
noncomputable def vF (K:W.Frag):Sp:=fun vs H Q _=>∃ (a:Addr) (ns:List Int),vs=[.ref a]∧SqL K H a (ns.map V.int)∧ns.length≤63∧∀ H',Q (.bl true) H'
theorem Ab {K:W.Frag} {F:List D→Res R} (h:∀ ns:List Int,ns.length≤63→∃ o,F [.lst (ns.map D.int)]=.ok (o,.bl true)):∀ vs H Q E,vF K vs H Q E→spF K F vs H Q E:=by
 rintro vs H Q E ⟨a,ns,rfl,sq,hl,q⟩
 obtain ⟨o,e⟩:=h ns hl
 refine ⟨H,_,_,.refl _,?_,e,fun v H' G' D0 st rel=>?_⟩
 ·refine .one ?_
  rw [Rep]
  exact ⟨a,_,rfl,sq,fI fun n _=>bu n⟩
 ·rw [dr rel.top]
  exact q H'
theorem _root_.L2.Room.u65 {k:Nat} {A:Around} (r:Room k A):A.units + 65 < cLine:=by have:=r.un;lia
noncomputable def Bq (f:FX) (a:FG):FS:=fun env=>(f env).bind fun p=>(a p.1.2 p.2).bind fun e=>.ok (.nx e)
theorem Ac {X:Cx} {tg e:Expr} {f:FX} {a:FG} {pos:Pos} (he:QE X e f) (hg:QG X tg a) (hs:swapsWithSole [tg] e pos.line X.env=pure false:=by rfl) (hw:swappedStores [tg] e X.env=pure none:=by rfl)
  (h1:(assignEach [tg] X.env).map (·.2)=[assign tg X.env]:=by rfl):QS (md:=md) X (.Assign [tg] e pos) (Bq f a):=hV (zb he hg hs hw h1) fun Dd σ H D6=>by
 obtain ⟨G,env,fp,rel,k⟩:=D6
 unfold Bq at k
 match q:f env,k with
 | .ok (r,DR),k=>
  have k:OutOk X.K G H fp Dd ((a r.2 DR).bind fun e=>.ok (.nx e)):=k
  match q2:a r.2 DR,k with
  | .ok DZ,k=>
   refine ⟨G,env,fp,r,DR,rel,q,fun v H1 G1 Ef D9 DV=>?_⟩
   obtain ⟨G2,b,rv,DU,D1⟩:=DV.freeze
   exact ⟨G2,DR,b,r.2,DZ,DU,rv,q2,fun σ' G' D0 st Ek=>k σ' H1 G' D0 (D9.trans (D1.trans st)) Ek⟩
theorem DE {l:PySem.W.OpenLaw} {q:Program} {loose:List Str} {XP:(Str→Option Value)→Heap→Prop} {YP:World→Heap→Prop} {d:DefRec} {K:Params→W.Frag} {k:Nat} {x:Str} (hn:l.most=some 63) (LV:d.params.defaults=[]) (hr:Room k PySem.callerA)
  (hY:∀ (w:World) (h:Heap),YP w h→(K w.params).In h)
  (F:∀ (w:World) (mg:Str→Option Value) (fa:Addr) (h:Heap),(K w.params).In h→h.Ns mainGlobals mg→mg d.name=some (.ref fa)→
   ∃ fd:FuncData,(∀ (s:Shared) (u:Value),BindsTo s fd ⟨[u],[]⟩ [(x,u)])∧∀ base:Heap,(K w.params).In base→base.Ns mainGlobals mg→FnOk l.prog w (K w.params) mg base IJ k fa fd [x] (vF (K w.params))) :
  PySem.W.WalkO q loose XP YP l.row.toRowW d [] (fun f vs=>PySem.call f vs):=
 L2.xm (n:=63) (k:=k) (x:=x) (CX:=fun _=>IJ) (sp:=fun w=>vF (K w.params)) hn (by decide) LV hr hY F (fun _ _ a ns hl _ hS=>⟨a,ns,rfl,hS,hl,fun _=>rfl⟩) fun _ _ _ _ _ z=>z
theorem lO:bootBuiltins "max" = some (.builtin "max"):=by decide +kernel
theorem Ad:bootBuiltins "min" = some (.builtin "min"):=by decide +kernel
theorem Ae:bootBuiltins "sum" = some (.builtin "sum"):=by decide +kernel
theorem iV:bootBuiltins "sorted" = some (.builtin "sorted"):=by decide +kernel
theorem bV {K:W.Frag} {h:Heap} {mg:Str→Option Value} {x:Str} {st:Stmt} {f:Addr} {oc:Value} {od an:Option Addr} {Jl:Array (Option Value)} {kV doc pm Ej ct:Value} (X:K.In h) (G:h.Ns mainGlobals mg)
  (a:PySem.W.nsIn K mainGlobals x=some (some (.ref f))) (l:K.lookup f=some ⟨oc,od,.func (PySem.W.fnOf x x (gj st) (dY st) (defScope st) .none kV doc pm an Ej ct),Jl⟩)
  (c:PySem.W.codeIn K Ej x=true) (k:PySem.W.keepIn K (.ref f)=true):Def K mg x st:=⟨f,_,wb l c k,PySem.W.mg_of X G a⟩
inductive tQL (K:W.Frag) (f:FI) (σ:L2.St) (H:Hp) (R:It→Hp→Prop):Prop
 | mk:∀ G env fp ds env',Rel K G H env σ fp→f env=.ok (ds,env')→(∀ J H' G' D0,Step G H fp G' H' D0→Rel K G' H' env' σ D0→(∀ G2,Same G' G2→(∀ (i:Nat) (r:PV.R) (v:V),env'[i]?=some (some r)→σ[i]?=some (some v)→Rep K G2 r.2 v)→Walk K G2 J ds)→R J H')→tQL K f σ H R
def K0 (X:Cx) (tg e:Expr) (f:FI):Prop:=PI X tg e (tQL X.K f)
theorem Walk.mono {K:W.Frag} {G G2:Hp} {J:It} {ds:List D} (w:Walk K G J ds) (gg:Same G G2):Walk K G2 J ds:=fun G' H' es vs fp g rel=>w G' H' es vs fp (gg.trans g) rel
theorem wF {K:W.Frag} {fi:FI} {ix:List (Option Nat)} {a:FG} {c:FT} {f:FX} {σ:L2.St} {H:Hp} {Q:VK} (h:tQ K (dv fi ix a c f) σ H Q):xo (tQL K fi) ix (tQG K a) (tQT K c) (tQ K f) σ H Q:=by
 obtain ⟨G,env,fp,r,env',rel,e,k⟩:=h
 obtain ⟨⟨ds,DR⟩,e1,e⟩:=ar e
 obtain ⟨rs,e2,e⟩:=ar e
 refine ⟨G,env,fp,ds,DR,rel,e1,fun J H1 G1 Ef D9 DV wk D hD=>?_⟩
 dsimp only at e e2
 split at e
 ·rename_i hz
  have er:r=(.l .f,.lst rs):=by cases e;rfl
  have ee:env'=if flatDs rs then DR else DR.map frz:=by cases e;rfl
  subst er
  obtain ⟨G2,N8,N9,GU,hrE,IQ⟩:=DV.lend
  have wk2:=wk G2 N8 GU
  have DU:Rel K G2 H1 (d7 ix DR) (lF ix σ) []:=⟨gr GU (fun i r er=>let ⟨v,ev,_⟩:=DV.view er;⟨v,ev⟩) ix,List.nodup_nil,(fun _ h=>nomatch h),N9⟩
  obtain ⟨Et,Ez⟩:=DU.newL (ds:=[]) (xs:=[]) hD .nil
  refine ⟨fun i m σ1 H2=>m=ds.length - i∧i≤ds.length∧∃ G' es D0 acc eL,Step G2 H1 [] G' H2 D0∧Rel K G' H2 (some (.l .f,.lst acc) :: es) (some (.ref D) :: σ1) D0∧cH a c f (ds.drop i) es=.ok eL∧acc++eL=rs,
   ⟨_,rfl,Nat.zero_le _,G2,d7 ix DR,_,[],rs,Ez,Et,e2,rfl⟩,?_⟩
  rintro i m σ1 H2 ⟨rfl,hi,G3,es,Gj,acc,eL,Fy,ES,e4,IW⟩
  obtain ⟨w1,w2⟩:=wk2 G3 H2 _ _ _ Fy.gg ES i
  by_cases Eu:i < ds.length
  ·have hd:ds[i]?=some ds[i]:=List.getElem?_eq_getElem Eu
   obtain ⟨go,yl⟩:=w1 _ hd
   rw [List.drop_eq_getElem_cons Eu] at e4
   unfold cH at e4
   obtain ⟨OS,h1,e4⟩:=ar e4
   obtain ⟨⟨b,Me⟩,h2,e4⟩:=ar e4
   dsimp only at e4
   refine .inr ⟨go,fun x H3 y=>?_⟩
   obtain ⟨G4,rx,Fl,F3⟩:=yl x H3 y
   obtain ⟨fa,fb,OT,ra,relb,bk⟩:=Fl.frame
   refine ⟨G4,es,fb,ds[i],OS,relb,rx,h1,fun σ2 G5 Mf st6 rel6=>?_⟩
   refine ⟨G5,OS,Mf,b,Me,rel6,h2,fun H6 G6 OU st7 Mg=>?_⟩
   have Mh:=st6.trans st7
   cases b with
   | false=>
    refine iteF ⟨ds.length - (i + 1),by lia,rfl,Eu,?_⟩
    obtain ⟨IX,JI⟩:=bk G6 H6 Me σ2 OU Mh Mg
    rw [←OT] at JI
    exact ⟨G6,Me,_,acc,eL,Fy.trans (F3.trans JI),IX,e4,IW⟩
   | true=>
    have e4:((f Me).bind fun q=>(cH a c f (ds.drop (i + 1)) q.2).bind fun rs=>.ok (q.1.2 :: rs))=.ok eL:=e4
    obtain ⟨⟨r,Of⟩,h3,e4⟩:=ar e4
    obtain ⟨Mi,h4,e4⟩:=ar e4
    cases e4
    refine BS ⟨G6,Me,OU,r,Of,Mg,h3,fun v H7 G7 fp7 st8 rel8=>?_⟩
    obtain ⟨G8,fp8,rv,rel9,st9⟩:=rel8.freeze
    obtain ⟨IX,JI⟩:=bk G8 H7 Of σ2 fp8 (Mh.trans (st8.trans st9)) rel9
    rw [←OT] at JI
    obtain ⟨p,xs,ep,hp,Mc,cg⟩:=IX.chg (i:=0) (ds:=acc) (ds':=acc++[r.2]) rfl
    have ep:some (some (V.ref D))=some (some (V.ref p)):=ep
    cases ep
    obtain ⟨fq,rely,sty⟩:=cg (xs++[v]) (Mc.app (.one rv))
    refine ⟨xs,hp,?_,ds.length - (i + 1),by lia,rfl,Eu,G8,Of,fq,acc++[r.2],Mi,Fy.trans (F3.trans (JI.trans sty)),rely,h4,?_⟩
    ·rw [Mc.length]
     have:=congrArg List.length IW
     rw [List.length_append,List.length_cons] at this
     lia
    ·rw [←IW,List.append_assoc]
     rfl
  ·have ei:i=ds.length:=by lia
   subst ei
   rw [List.drop_length] at e4
   cases e4
   rw [List.append_nil] at IW
   subst IW
   refine .inl ⟨w2 rfl,?_⟩
   obtain ⟨fa,relo,sto⟩:=ES.only
   obtain ⟨k1,k2⟩:=IQ H2 G3 fa _ _ (Fy.trans sto) relo
   rw [ee] at k
   by_cases hc:flatDs acc=true
   ·rw [if_pos hc] at k
    obtain ⟨G5,Mf,F3,Fl⟩:=k1 (by rw [bS,mq];exact hc)
    exact k _ H2 G5 Mf (D9.trans F3) Fl
   ·rw [if_neg hc] at k
    obtain ⟨G5,Mf,F3,Fl⟩:=k2
    exact k _ H2 G5 Mf (D9.trans F3) Fl
 ·cases e
section
variable {md:Mode} {X:Cx} {scope:Scope} {N:List Str} {tg iter elt:Expr} {ifs:List Expr} {pos:Pos} {fi:FI} {a:FG} {c:FT} {f:FX}
variable {l e:Expr} {g fj:FI}
theorem bL (h:QI X tg e fi):K0 X tg e fi:=jB h fun σ H R ⟨G,env,fp,ds,env',rel,e,k⟩=>⟨G,env,fp,ds,env',rel,e,fun J H' G' D0 st Ek wk=>k J H' G' D0 st Ek fun _ gg _=>wk.mono gg⟩
theorem c9 (h:K0 X tg e fi) (h2:K0 X tg e fj):K0 X tg e (EY fi fj):=fun pins s σ H R I D6=>by
 obtain ⟨G,env,fp,ds,env',rel,ee,k⟩:=D6
 rcases wB ee with z | z
 ·exact h pins s σ H R I ⟨G,env,fp,ds,env',rel,z,k⟩
 ·exact h2 pins s σ H R I ⟨G,env,fp,ds,env',rel,z,k⟩
noncomputable def iw (i:Nat):FI:=fun env=>match env[i]? with
 | some (some (_,.lst ds))=>.ok (ds,env)
 | _=>.bad
theorem fJ {i:Nat} (h:PE X l (uM i)):K0 X tg l (iw i):=jB (rN h) fun σ H R D6=>by
 obtain ⟨G,env,fp,ds,env',rel,e,k⟩:=D6
 unfold iw at e
 split at e
 ·rename_i o ds hr
  cases e
  obtain ⟨v,ev,rv⟩:=rel.view hr
  obtain ⟨p,xs,OV,sq,rs⟩:=bB rv
  refine ⟨v,ev,p,OV,⟨xs,sq⟩,k _ H G fp .refl rel fun G2 gg GU=>?_⟩
  obtain ⟨p',FC,Mj,Fj,F0⟩:=bB (GU i _ v hr ev)
  rw [OV] at Mj
  cases Mj
  exact nV Fj F0
 ·cases e
theorem bM (ix:List (Option Nat)) (N:List Str) (hc:X.calm=true) (hi:K0 X tg iter fi) (hg:∀ C s H fp pn,QG (b6 X scope N C s H fp pn) tg a) (ht:∀ C s H fp pn,Ob (b6 X scope N C s H fp pn) ifs c) (he:∀ C s H fp pn,QE (b6 X scope N C s H fp pn) elt f)
  (hf:iJ scope X.env=true:=by rfl) (hk:scope.kind=.function:=by rfl) (ED:∀ y∈scope.names,y.2≠.cell:=by decide +kernel) (Fp:∀ y∈scope.names,y.2=.local→scope.names.lookup y.1=some .local:=by decide +kernel) (EX:we X scope N ix=true:=by rfl)
  (hs:∀ x,foldedSetIterable iter X.env x=pure x:=by intro _;rfl):QE X (.ListComp elt [⟨tg,iter,ifs,0⟩] scope pos) (dv fi ix a c f):=
 bU (xq (g:=tQG X.K a) (tc:=tQT X.K c) (te:=tQ X.K f) ix N hc hi hg ht he hf hk ED Fp EX hs) fun _ _ _=>wF
theorem mD {i:Nat} {y:Str} {py IL:Pos} (ix:List (Option Nat)) (N:List Str) (hN:X.N.Nodup) (NU:X.N[i]?=some y) (hy:Loc X.env.scope y) (hc:X.calm=true) (hi:K0 X tg iter fi) (hg:∀ C s H fp pn,QG (b6 X scope N C s H fp pn) tg a) (ht:∀ C s H fp pn,Ob (b6 X scope N C s H fp pn) ifs c)
  (he:∀ C s H fp pn,QE (b6 X scope N C s H fp pn) elt f) (NV:swapsWith (.ListComp elt [⟨tg,iter,ifs,0⟩] scope pos) (some (.Name y py)) IL.line X.env=pure true:=by rfl)
  (hf:iJ scope X.env=true:=by rfl) (hk:scope.kind=.function:=by rfl) (ED:∀ y∈scope.names,y.2≠.cell:=by decide +kernel) (Fp:∀ y∈scope.names,y.2=.local→scope.names.lookup y.1=some .local:=by decide +kernel) (EX:we X scope N ix=true:=by rfl)
  (hs:∀ x,foldedSetIterable iter X.env x=pure x:=by intro _;rfl) (Jx:X.fn y=true∨X.env.scope.names.lookup y=some .local:=by first | exact .inl rfl | exact .inr rfl) :
  QS (md:=md) X (.Assign [.Name y py] (.ListComp elt [⟨tg,iter,ifs,0⟩] scope pos) IL) (bE i (dv fi ix a c f)):=
 hV (xr (i:=i) (g:=tQG X.K a) (tc:=tQT X.K c) (te:=tQ X.K f) ix N hN NU hy hc hi hg ht he NV hf hk ED Fp EX hs Jx) fun D σ H ⟨G,env,fp,rel,k⟩=>wF (sY rel k)
end
section
variable {X:Cx} {a:Expr} {pos:Pos} {fa:FO}
noncomputable def Cd (fa:FO):FX:=fun env=>(fa env).bind fun p=>(Eg p.2 p.1).bind fun d=>match d with
 | .int i=>.ok ((.f,.int (-i)),p.2)
 | _=>.bad
theorem Af (ha:QO X a fa):QE X (.UnaryOp .USub a pos) (Cd fa):=bU (BI zl ha) fun σ H Q D6=>by
 obtain ⟨G,env,fp,r,env',rel,e,k⟩:=D6
 obtain ⟨⟨o,e1⟩,h1,e⟩:=ar e
 obtain ⟨d,h2,e⟩:=ar e
 dsimp only at e
 split at e
 ·rename_i i
  cases e
  refine ⟨G,env,fp,o,_,rel,h1,fun v H1 G1 Ef D9 DV Fi=>?_⟩
  have:=bC (DV.vw Fi h2)
  exact ⟨i,this,k _ H1 G1 Ef D9 (DV.push (bu _))⟩
 ·cases e
theorem tN {i:Int} (h:i.natAbs < 2 ^ 1000):Builtin.Int.intBits i≤2 ^ 20:=by
 unfold Builtin.Int.intBits
 split
 ·exact Nat.zero_le _
 ·rename_i h0
  have h1:i.natAbs≠0:=by
   intro e
   rw [Int.natAbs_eq_zero] at e
   exact h0 (by rw [e];rfl)
  have:=(Nat.log2_lt h1).mpr h
  have e:(2:Nat) ^ 20=1048576:=by decide
  lia
theorem xZ:EE X (binaryOp .Mult) (rI (fun i j=>i.natAbs < 2 ^ 1000∧j.natAbs < 2 ^ 1000) fun i j=>.int (i * j)):=LP fun _ _ _ _ _ _ _ hc q=>mul_int q (.of_bits (tN hc.1) (tN hc.2))
theorem oi {α:Type}:∀ (ls:List (Array α)) (acc:Array α),(ls.foldl (·++·) acc).toList=acc.toList++(ls.map Array.toList).flatten
 | [],acc=>by simp
 | a :: ls,acc=>by
  rw [List.foldl_cons,oi ls,Array.toList_append,List.map_cons,List.flatten_cons,List.append_assoc]
theorem Ce (l:List Nat) (n:Nat):(⟨(List.replicate n (S l).cps).foldl (·++·) #[]⟩:Str)=S (List.replicate n l).flatten:=by
 have h:((List.replicate n (S l).cps).foldl (·++·) #[]).toList=(List.replicate n l).flatten:=by
  rw [oi,List.map_replicate]
  simp only [dZ,List.nil_append]
 show Str.mk _=Str.mk _
 rw [←h]
theorem x3 (a b:Int):B4 (.int a) (.int b)=if cN a || cN b then .ok (.f,.int (a * b)) else .bad:=rfl
noncomputable def x4:D→D→Res R
 | .int i,.int j=>if cN i || cN j then .ok (.f,.int (i * j)) else if i.natAbs < 2 ^ 1000∧j.natAbs < 2 ^ 1000 then .ok (.f,.int (i * j)) else .bad
 | .str l,.int k=>if 2≤k∧k≤1000∧1≤l.length∧l.length≤1000 then .ok (.f,.str (List.replicate k.toNat l).flatten) else .bad
 | _,_=>.bad
theorem x5:EE X (binaryOp .Mult) (rG X.K x4):=by
 rintro pins s σ H x y v u Q I rx ry ⟨G,fp,es,vs,a,b,r,⟨rel,k⟩,va,vb,e⟩
 unfold x4 at e
 split at e
 ·rename_i i j
  split at e
  ·rename_i hc
   exact zV pins s σ H x y v u Q I rx ry ⟨G,fp,es,vs,.int i,.int j,r,⟨rel,k⟩,va,vb,by rw [x3,if_pos hc];exact e⟩
  ·split at e
   ·rename_i hc
    cases e
    cases bC va
    cases bC vb
    exact xZ pins s σ H _ _ v u Q I rx ry ⟨i,j,rfl,rfl,hc,k _ H G fp .refl (rel.push (bu _))⟩
   ·cases e
 ·rename_i l j
  split at e
  ·rename_i hc
   cases e
   obtain ⟨ev,hl⟩:=gk va
   subst ev
   cases bC vb
   obtain ⟨t,rfl⟩:=rx
   obtain ⟨t',rfl⟩:=ry
   have hlen:(S l).length=l.length:=lr l
   have hz:(List.replicate j.toNat l).flatten.length≤1000000:=by
    rw [lW]
    exact Nat.mul_le_mul (by lia:j.toNat≤1000) hc.2.2.2
   have Js:(List.replicate j.toNat l).flatten.length≤sizeLine:=Nat.le_trans hz (by decide)
   refine PySem.P.mul_str ?_ ?_ ?_ ?_
   ·rw [decide_eq_false (by lia),decide_eq_false (by lia)];rfl
   ·intro _ _
    rw [hlen]
    have h1:1000≤(2 ^ 63 - 1) / j:=(Int.le_ediv_iff_mul_le (by lia)).mpr (by lia)
    lia
   ·intro _ _
    unfold Builtin.Str.tooLong
    rw [decide_eq_false_iff_not,hlen,Nat.mul_comm,←lW]
    lia
   ·rw [if_neg (by lia),if_neg (by rw [hlen,Bool.or_eq_true,beq_iff_eq,beq_iff_eq];lia),Ce]
    refine ⟨?_,?_⟩
    ·rw [lr]
     exact Js
    ·exact ⟨.str (S (List.replicate j.toNat l).flatten),H,I.tok _,⟨_,rfl⟩,k _ H G fp .refl (rel.push (iq Js))⟩
  ·cases e
 ·cases e
end
end PV
namespace HT
open PySem PySem.Spec PyProof.Rows L2
variable {prog:Program} {w:World} {A:Around} {E:Value→Shared→Prop} {s:Shared}
theorem iW {t sl:Addr} {items:Array Value} {vl vu:Value} {lo hi:Option Int} {Q:Value→Shared→Prop} (ht:IsTup s.heap t items) (hs:s.heap.IsSliceOf sl vl vu .none) (pl:IsPart vl lo) (pu:IsPart vu hi)
  (hw:sIx items.size 0 lo=0∧sIx items.size items.size hi=items.size) (h:Q (.ref t) s):wpAny (model prog w) A (getItem (.ref t) (.ref sl)) Q E s:=by
 obtain ⟨os,KG,Ng,KH⟩:=id hs
 have NO:s.TypeIs (.ref sl) "slice":=⟨os,KG,Ng⟩
 unfold getItem
 try with_reducible refine wpAny_holding ?_
 first | refine wpAny_bind (wpAny_pure ?_) | skip
 refine wpAny_bind (wpAny_sequenceKey ht.typeIs (by decide) ?_)
 refine wpAny_bind (wpAny_callSpecial?_slot (name:=Str.ofString "__getitem__") ht.typeIs PyProof.Rows.slot_tuple_getitem
  (wpAny_call_entry PyProof.Rows.slot_tuple_getitem ht.typeIs entry_tuple_getitem ?_ (args_tuple_getitem _ _)))
 show wpAny _ _ (Builtin.Tuple.tupleItemsOf (.ref t) >>= _) _ _ s
 refine wpAny_bind (tupleItemsOf_ ht ?_)
 refine wpAny_bind (wpAny_typeOf NO ?_)
 rw [if_pos (by decide)]
 refine wpAny_bind (fU hs pl pu ?_)
 have hyes:(((sIx items.size 0 lo:Nat):Int) == 0 && (1:Int) == 1 && (sIx items.size items.size hi - sIx items.size 0 lo) == items.size)=true:=by
  rw [hw.1,hw.2]
  simp
 show wpAny _ _ (if (((sIx items.size 0 lo:Nat):Int) == 0 && (1:Int) == 1 && (sIx items.size items.size hi - sIx items.size 0 lo) == items.size)=true then _ else _) _ _ s
 rw [if_pos hyes]
 refine wpAny_bind (m:=Builtin.Tuple.tupleIsExact _) ?_
 unfold Builtin.Tuple.tupleIsExact
 refine wpAny_bind (wpAny_typeOf ht.typeIs (wpAny_pure ?_))
 rw [if_pos (by decide)]
 exact wpAny_bind (wpAny_rule (wpAny_pure ⟨_,rfl,wpAny_pure h⟩))
end HT
namespace PV
open PySem PySem.Spec PyProof.Rows L2 NX
section
variable {X:Cx} {pos:Pos} {fa:FO}
theorem x6:KI X (fun x lo hi H Q=>∃ a xs,x=.ref a∧SqT X.K H a xs∧(HT.sIx xs.length 0 lo=0∧HT.sIx xs.length xs.length hi=xs.length)∧Q x H):=by
 intro pins s σ H x v vl vu lo hi sl Q I rx hs pl pu h
 obtain ⟨a,xs,rfl,hx,hw,q⟩:=h
 cases rx
 obtain ⟨DS,r,ht,hz⟩:=I.tuple hx
 have hlen:DS.toArray.size=xs.length:=by rw [List.size_toArray];exact r.length.symm
 refine ⟨"tuple",_,PyProof.Rows.slot_tuple_getitem.lookup,ht.typeIs,?_⟩
 exact HT.iW ht hs pl pu (by rw [hlen];exact hw) ⟨.ref a,H,I,rfl,q⟩
noncomputable def Kr (k:D) (lo hi:Option Int):Res R:=match k with
 | .tup ds=>if HT.sIx ds.length 0 lo=0∧HT.sIx ds.length ds.length hi=ds.length then .ok (.f,.tup ds) else JH k lo hi
 | _=>JH k lo hi
noncomputable def vG (fa:FO) (lo hi:FP):FX:=fun env=>(fa env).bind fun p=>(lo p.2).bind fun q=>(hi q.2).bind fun t=>(Eg t.2 p.1).bind fun d=>(Kr d q.1 t.1).bind fun r=>.ok (r,t.2)
inductive rSlW (K:W.Frag) (x:V) (lo:Option Int) (hi:Option Int) (H:Hp) (Q:VK):Prop
 | mk:∀ G fp es vs d r,Goes K H G fp es vs r Q→Vw K G H d x→Kr d lo hi=.ok r→rSlW K x lo hi H Q
theorem Ag:KI X (rSlW X.K):=by
 rintro pins s σ H x v vl vu lo hi sl Q I rx hs pl pu ⟨G,fp,es,vs,d,r,⟨rel,k⟩,vd,e⟩
 unfold Kr at e
 split at e
 ·rename_i ds
  split at e
  ·rename_i hw
   cases e
   obtain ⟨p,xs,ev,sq,rs⟩:=hW vd
   subst ev
   refine x6 pins s σ H _ v vl vu lo hi sl Q I rx hs pl pu ⟨p,xs,rfl,bP rel.gh sq,by rw [rs.length];exact hw,?_⟩
   exact k _ H G fp .refl (rel.push vd)
  ·exact zW pins s σ H x v vl vu lo hi sl Q I rx hs pl pu ⟨G,fp,es,vs,_,r,⟨rel,k⟩,vd,e⟩
 ·exact zW pins s σ H x v vl vu lo hi sl Q I rx hs pl pu ⟨G,fp,es,vs,_,r,⟨rel,k⟩,vd,e⟩
theorem kC {e:Expr} {lo hi:Option Expr} {p2:Pos} {fl fh:FP} (he:QO X e fa) (hl:QP X lo fl) (hh:QP X hi fh):QE X (.Subscript e (.Slice lo hi none p2) pos) (vG fa fl fh):=
 bU (uV Ag he hl hh) fun σ H Q D6=>by
  obtain ⟨G,env,fp,r,env',rel,e,k⟩:=D6
  obtain ⟨⟨o,DR⟩,e1,e⟩:=ar e
  obtain ⟨⟨i,DZ⟩,e2,e⟩:=ar e
  obtain ⟨⟨j,E9⟩,e3,e⟩:=ar e
  obtain ⟨d,e4,e⟩:=ar e
  obtain ⟨r',e5,e⟩:=ar e
  cases e
  exact ⟨G,env,fp,o,DR,rel,e1,fun v H1 G1 Ef D9 DV Fi=>⟨G1,DR,Ef,i,DZ,DV,e2,fun H2 G2 EC D1 DU=>⟨G2,DZ,EC,j,E9,DU,e3,fun H3 G3 Gj Ez Et=>
   ⟨G3,Gj,E9,σ,d,r,⟨Et,fun v H' G' D0 st Ek=>k v H' G' D0 (D9.trans (D1.trans (Ez.trans st))) Ek⟩,Et.vw ((Fi.mono D1.gg).mono Ez.gg) e4,e5⟩⟩⟩⟩
end
end PV
namespace L2
open PySem PySem.Spec PyProof.Rows
section
variable {X:Cx} {tg:Expr}
def qm (i j c:Int):Prop:=(-1048576≤i∧i≤1048576)∧(-1048576≤j∧j≤1048576)∧(c = -1∨1≤c)∧c≤1048576
instance (i j c:Int):Decidable (qm i j c):=by unfold qm;infer_instance
end
end L2
namespace PV
open PySem PySem.Spec PyProof.Rows L2 NX
section
variable {X:Cx} {tg:Expr}
noncomputable def Br:List D→Res R
 | [d]=>match (mx d).bind c8 with
  | some (n :: ns)=>.ok (.f,.int (xt (n :: ns)))
  | _=>.bad
 | [.int i,.int j]=>.ok (.f,.int (if j < i then j else i))
 | _=>.bad
theorem Ah (hc:X.calm=true):dE X (.builtin "min") (rC X.K Br):=by
 rintro pins s σ H xs us Q I rx ⟨G,fp,es,vs,ds,r,⟨rel,k⟩,vd,e⟩
 unfold Br at e
 split at e
 ·rename_i d
  split at e
  ·rename_i n ns hb
   cases e
   obtain ⟨v,ev,vt⟩:=mZ vd
   obtain ⟨p,ep,sq⟩:=iP rel.gh hb vt
   subst ev
   subst ep
   exact sv hc pins s σ H _ us Q I rx ⟨p,n :: ns,rfl,sq,by simp,k _ H G fp .refl (rel.push (bu _))⟩
  ·cases e
 ·rename_i i j
  cases e
  obtain ⟨v,w',ev,v1,v2⟩:=CV vd
  subst ev
  cases bC v1
  cases bC v2
  exact rW hc pins s σ H _ us Q I rx ⟨i,j,rfl,k _ H G fp .refl (rel.push (bu _))⟩
 ·cases e
noncomputable def DF:List D→Res R
 | [.int i]=>.ok (.f,.int (if i < 0 then -i else i))
 | _=>.bad
noncomputable def x9 (fs:Fq):FI:=fun env=>(fs env).bind fun p=>(mY p.2 p.1).bind fun d=>match d with
 | [.int i,.int j,.int c]=>if qm i j c then .ok ((List.range (Builtin.Range.rangeSize i j c).toNat).map fun (k:Nat)=>D.int (i + (k:Int) * c),p.2) else .bad
 | _=>.bad
end
end PV
namespace NX
open PySem PySem.Spec PyProof.Rows L2
section
open PySem.SeqAt
open PySem.AutoSeq1 (wpAny_loadPart')
theorem kF {M:Model} {A:Around} {E:Value→Shared→Prop} {s:Shared} {β:Type} (f:Nat→β→Sem (ForInStep β)) (n:Nat) (I:Nat→β→Shared→Prop) (Q:β→Shared→Prop)
  (turn:∀ (i:Nat) (b:β) (s:Shared),i < n→I i b s→wpAny M A (f i b) (fun r s'=>match r with | .yield b'=>I (i + 1) b' s' | .done b'=>Q b' s') E s)
  (fin:∀ (b:β) (s:Shared),I n b s→Q b s) (b:β) (h:I 0 b s):wpAny M A (forIn [0:n] b f) Q E s:=by
 rw [Std.Legacy.Range.forIn_eq_forIn_range']
 refine wpAny_forIn_list f (fun eL b s=>∃ i,i≤n∧eL=List.range' i (n - i)∧I i b s) Q ?_ ?_ _ b ?_
 ·rintro x eL b s ⟨i,hi,hr,h⟩
  by_cases Hu:i < n
  ·have e:n - i=(n - (i + 1)) + 1:=by lia
   rw [e,List.range'_succ] at hr
   injection hr with h1 h2
   subst h1
   refine Ea (turn x b s Hu h) fun r s' OW=>?_
   cases r with
   | yield b'=>exact ⟨x + 1,by lia,h2,OW⟩
   | done b'=>exact OW
  ·have e:n - i=0:=by lia
   rw [e] at hr
   cases hr
 ·rintro b s ⟨i,hi,hr,h⟩
  by_cases Hu:i < n
  ·have e:n - i=(n - (i + 1)) + 1:=by lia
   rw [e,List.range'_succ] at hr
   cases hr
  ·have e:i=n:=by lia
   subst e
   exact fin b s h
 ·refine ⟨0,Nat.zero_le _,?_,h⟩
  simp [Std.Legacy.Range.size]
theorem jV (l:Addr) (items:Array Value) (n:Nat) (dd:Option Addr) (sl:Array (Option Value)) (ns:List Str) (c:Str) (t:Tok) (hi:Vals (ns.map V.str) items.toList) (i:Nat) (hx:ns[i]?=some c) (h0:∀ j,j < i→ns[j]?≠some c) :
  Meets (Builtin.«tuple.index» ⟨[.ref l,.str c t],[]⟩)
   (fun _ R s=>s.heap.get? l=some { cls:=.type "tuple",dict:=dd,data:=.seq items n,slots:=sl }∧R (.ok (.ret (.int (i:Int) s.toks))) { s with toks:=s.toks + 1 }):=
 .of_wp fun prog w A R s h=>by
  obtain ⟨hp,g,d,tk,os⟩:=s;obtain ⟨hl,h⟩:=h
  have z1:items.size=ns.length:=by have:=hi.length;simp at this;lia
  have Hu:i < ns.length:=(List.getElem?_eq_some_iff.mp hx).1
  have key:∀ (j:Nat),j < ns.length→∃ (b:Str) (u:Tok),items[j]?=some (.str b u)∧ns[j]?=some b:=by
   intro j hj
   obtain ⟨v,hv,hr⟩:=hi.get (i:=j) (x:=V.str ns[j]) (by simp [hj])
   obtain ⟨u,rfl⟩:=hr
   exact ⟨ns[j],u,by rw [←Array.getElem?_toList];exact hv,by simp [hj]⟩
  wp_walk using wpAny_loadPart' hl,kF _ _ (fun j b s'=>b.1=none∧s'=⟨hp,g,d,tk,os⟩∧j≤i) _
  case turn=>
   rintro j ⟨b1,b2⟩ s' hj ⟨hb,rfl,OX⟩
   simp only at hb
   subst hb
   obtain ⟨b,u,e1,e2⟩:=key j (by lia)
   have he:EqAt A.in1 ⟨hp,g,d,tk,os⟩ (.str b u) (.str c t) (b == c):=EqAt.str_str b u c t
   by_cases HJ:b=c
   ·have hji2:j=i:=by
     rcases Nat.lt_or_ge j i with Eu | hge
     ·exact absurd (by rw [e2,HJ]) (h0 j Eu)
     ·lia
    subst hji2 HJ
    rw [e1]
    refine wpAny_bind (he prog w _ _ ?_)
    rw [show (b == b)=true from beq_self_eq_true b]
    wp_walk
    exact ⟨_,rfl,h⟩
   ·rw [e1]
    refine wpAny_bind (he prog w _ _ ?_)
    rw [show (b == c)=false from beq_eq_false_iff_ne.mpr HJ]
    wp_walk
    refine ⟨rfl,rfl,?_⟩
    rcases Nat.lt_or_ge j i with Eu | hge
    ·exact Eu
    ·have:j=i:=by lia
     subst this
     rw [e2] at hx
     cases hx
     exact absurd rfl HJ
  case fin=>
   rintro ⟨b1,b2⟩ s' ⟨hb,rfl,OX⟩
   rw [Nat.min_self] at OX
   lia
  case h=>exact ⟨rfl,rfl,Nat.zero_le _⟩
end
end NX
namespace L2
open PySem PySem.Spec PyProof.Rows
section
variable {X:Cx} {o e:Expr} {es:List Expr} {to:TE} {t:TA} {name:Str} {apos Ec:Pos} {id:String} {r:V→List V→Hp→VK→Prop}
noncomputable def DG (K:W.Frag) (r:V→List V→Hp→VK→Prop) (to:TE) (t:TA):TE:=fun σ H Q=>to σ H fun x H1=>(∃ p ys,x=.ref p∧SqT K H1 p ys)∧t σ H1 fun xs H2=>r x xs H2 Q
theorem Ai (slot:Slot "tuple" name id) (IG:typeOf (.builtin id)=pure (.type "method_descriptor")) (hm:Jy X id r) (ho:PE X o to) (ha:PA X (e :: es) t)
  (E7:attributeBase o name X.env (eval o X.env)=eval o X.env:=by rfl)
  (F5:((backTo Ec (starEach (e :: es) X.env)).all (fun x=>!x.1) && (backToKw Ec (keywordEach [] X.env)).all (fun x=>x.1.isSome)
   && decide ((e :: es).length + ([]:List Keyword).length + (if ([]:List Keyword).isEmpty then 0 else 1) < 30))=true:=by rfl)
  (E8:(apos.endLine == Ec.line)=true:=by rfl) (hs:starEach (e :: es) X.env=(false,eval e X.env) :: starEach es X.env:=by rfl) (EF:(backTo Ec (starEach es X.env)).any (·.1)=false:=by rfl) :
  PE X (.Call (.Attribute o name apos) (e :: es) [] Ec) (DG X.K r to t):=by
 intro pins s σ H Q I h
 refine wpAny_Call_method_late E7 F5 E8 rfl (Ea (ho pins s σ H _ I h) fun v s1 Ee=>?_)
 obtain ⟨x,H1,I1,r1,⟨p,ys,ex,sq⟩,q1⟩:=Ee
 subst ex
 cases r1
 obtain ⟨DS,_,⟨ob,ho,hc,⟨n,hd⟩,hn⟩,_⟩:=I1.tupleN sq
 refine ⟨"tuple",id,PySem.F.plainAttrs_tuple,slot,IG,⟨ob,ho,hc⟩,fun a e2=>?_,?_⟩
 ·cases e2
  exact ⟨ob,ho,hn⟩
 have hA:=ha Ec pins s1 σ H1 _ I1 q1
 rw [hs] at hA ⊢
 refine Calls.callWith_builtin (by show (false || (backTo Ec (starEach es X.env)).any (·.1))=false;rw [EF] <;> rfl) (Calls.evalArgs_plain ?_)
 exact Ea hA fun us s2 ⟨vs,H2,I2,r2,q2⟩=>hm pins s2 σ H2 (.ref p) vs _ us Q I2 rfl r2 q2
end
end L2
namespace PV
open PySem PySem.Spec PyProof.Rows L2 NX
section
variable {X:Cx}
noncomputable def rH (g:List D→List D→Res R) (fa:FO) (fs:Fq):FX:=fun env=>(fa env).bind fun p=>(Eg p.2 p.1).bind fun a=>match a with
 | .tup _=>(fs p.2).bind fun q=>(Eg q.2 p.1).bind fun a2=>match a2 with
  | .tup l=>(mY q.2 q.1).bind fun ds=>(g l ds).bind fun r=>.ok (r,q.2)
  | _=>.bad
 | _=>.bad
inductive rMtT (K:W.Frag) (g:List D→List D→Res R) (x:V) (xs:List V) (H:Hp) (Q:VK):Prop
 | mk:∀ G fp es vs l ds r,Goes K H G fp es vs r Q→Vw K G H (.tup l) x→Ko K G H ds xs→g l ds=.ok r→rMtT K g x xs H Q
theorem lP {g:List D→List D→Res R} {id:String} {name:Str} {o e:Expr} {es:List Expr} {fa:FO} {fs:Fq} {apos Ec:Pos} (slot:Slot "tuple" name id) (IG:typeOf (.builtin id)=pure (.type "method_descriptor")) (hm:Jy X id (rMtT X.K g)) (ho:QO X o fa) (ha:IB X (e :: es) fs)
  (E7:attributeBase o name X.env (eval o X.env)=eval o X.env:=by rfl)
  (F5:((backTo Ec (starEach (e :: es) X.env)).all (fun x=>!x.1) && (backToKw Ec (keywordEach [] X.env)).all (fun x=>x.1.isSome) && decide ((e :: es).length + ([]:List Keyword).length + (if ([]:List Keyword).isEmpty then 0 else 1) < 30))=true:=by rfl)
  (E8:(apos.endLine == Ec.line)=true:=by rfl) (hs:starEach (e :: es) X.env=(false,eval e X.env) :: starEach es X.env:=by rfl) (EF:(backTo Ec (starEach es X.env)).any (·.1)=false:=by rfl) :
  QE X (.Call (.Attribute o name apos) (e :: es) [] Ec) (rH g fa fs):=by
 refine bU (Ai slot IG hm ho ha E7 F5 E8 hs EF) fun σ H Q Ee=>?_
 obtain ⟨G,env,fp,r,env',rel,e,k⟩:=Ee
 obtain ⟨⟨oa,DR⟩,e1,e⟩:=ar e
 obtain ⟨da,JF,e⟩:=ar e
 dsimp only at e
 split at e
 ·obtain ⟨⟨os,DZ⟩,e2,e⟩:=ar e
  obtain ⟨d2,hd2,e⟩:=ar e
  dsimp only at e
  split at e
  ·obtain ⟨ds,e3,e⟩:=ar e
   obtain ⟨r',e4,e⟩:=ar e
   cases e
   refine ⟨G,env,fp,oa,DR,rel,e1,fun v H1 G1 Ef D9 DV Fi=>?_⟩
   obtain ⟨p,xs,ev,sq,_⟩:=bp (Vw.rep DV.gh (DV.vw Fi JF))
   exact ⟨⟨p,xs,ev,sq⟩,G1,DR,Ef,os,_,DV,e2,fun vs H2 G2 EC D1 DU HY=>⟨G2,EC,_,σ,_,ds,r,⟨DU,fun v H' G' D0 st Ek=>k v H' G' D0 (D9.trans (D1.trans st)) Ek⟩,DU.vw (Fi.mono D1.gg) hd2,DU.vws HY e3,e4⟩⟩
  ·cases e
 ·cases e
noncomputable def jm (l:List D):List D→Res R
 | [.str c]=>match fw l with
  | some bs=>if c∈bs then .ok (.f,.int (bs.idxOf c:Nat)) else .bad
  | none=>.bad
 | _=>.bad
noncomputable def yS (l:List D):List D→Res R
 | [.str c]=>match fw l with
  | some bs=>.ok (.f,.int (bs.count c:Nat))
  | none=>.bad
 | _=>.bad
theorem wG {a b:List Nat} (h:S a=S b):a=b:=by
 have:=congrArg (fun s:Str=>s.cps.toList) h
 simpa only [dZ] using this
theorem qo:∀ (bs:List (List Nat)) (c:List Nat) (j:Nat),bs[j]?=some c→bs.idxOf c≤j
 | [],c,j,h=>by simp at h
 | b :: bs,c,0,h=>by
  simp at h
  subst h
  simp [List.idxOf_cons]
 | b :: bs,c,j + 1,h=>by
  rw [List.getElem?_cons_succ] at h
  have:=qo bs c j h
  rw [List.idxOf_cons]
  cases b == c with
  | true=>exact Nat.zero_le _
  | false=>exact Nat.succ_le_succ this
noncomputable def OY (c:Str):Value→Bool
 | .str b _=>b == c
 | _=>false
theorem lQ (c:List Nat):∀ (bs:List (List Nat)) (DS:List Value),Vals (bs.map fun l=>V.str (S l)) DS→DS.countP (OY (S c))=bs.count c
 | [],DS,h=>by cases h;rfl
 | b :: bs,DS,h=>by
  cases h with
  | cons r rr=>
   obtain ⟨t,rfl⟩:=r
   rw [List.countP_cons,List.count_cons,lQ c bs _ rr]
   congr 1
   show (if (S b == S c)=true then 1 else 0)=_
   by_cases HJ:b=c
   ·rw [HJ,if_pos (beq_self_eq_true _),if_pos (beq_self_eq_true _)]
   ·rw [if_neg (by rw [beq_iff_eq];exact fun e=>HJ (wG e)),if_neg (by rw [beq_iff_eq];exact HJ)]
theorem pg:Jy X "tuple.count" (rMtT X.K yS):=by
 rintro pins s σ H x xs v us Q I rx rv ⟨G,fp,es,vs,l,ds,r,⟨rel,k⟩,vx,vd,e⟩
 unfold yS at e
 split at e
 ·rename_i c
  split at e
  ·rename_i bs hb
   cases e
   obtain ⟨p,ys,ev,sq,rs⟩:=bp (Vw.rep rel.gh vx)
   obtain ⟨hy,_⟩:=fH hb rs
   subst ev
   cases rx
   obtain ⟨w',ew,vc⟩:=mZ vd
   obtain ⟨ev,_⟩:=gk vc
   subst ew
   subst ev
   obtain ⟨u,rfl,t',rfl⟩:=gc rv
   obtain ⟨DS,vl,⟨ob,h1,h2,⟨n,h3⟩,h4⟩,_⟩:=I.tupleN sq
   subst hy
   obtain ⟨cls,dict,data,slots⟩:=ob
   dsimp only at h2 h3 h4
   subst h2 h3 h4
   refine PySem.call_meets PySem.F.slot_tuple_count ⟨_,h1,rfl⟩ PySem.F.entry_tuple_count (PySem.F.args_tuple_count_2 _ _) (PySem.SeqAt.tuple_countAt p DS.toArray n _ _ (.str (S c) t') (OY (S c))) ⟨h1,fun y hy=>?_,⟨.int (bs.count c:Nat),H,I.tok _,⟨s.toks,?_⟩,k _ H G fp .refl (rel.push (bu _))⟩⟩
   ·have hy:y∈DS:=by simpa using hy
    obtain ⟨i,hi,rfl⟩:=List.getElem_of_mem hy
    have hl:=vl.length
    rw [List.length_map] at hl
    obtain ⟨v,hv,hr⟩:=vl.get (i:=i) (x:=V.str (S bs[i])) (by rw [List.getElem?_map,List.getElem?_eq_getElem (by lia)];rfl)
    rw [List.getElem?_eq_getElem hi] at hv
    cases hv
    obtain ⟨t,e⟩:=hr
    rw [e]
    exact PySem.SeqAt.EqAt.str_str _ _ _ _
   ·rw [List.toList_toArray,lQ c bs DS vl]
  ·cases e
 ·cases e
theorem eB:Jy X "tuple.index" (rMtT X.K jm):=by
 rintro pins s σ H x xs v us Q I rx rv ⟨G,fp,es,vs,l,ds,r,⟨rel,k⟩,vx,vd,e⟩
 unfold jm at e
 split at e
 ·rename_i c
  split at e
  ·rename_i bs hb
   split at e
   ·rename_i hc
    cases e
    obtain ⟨p,ys,ev,sq,rs⟩:=bp (Vw.rep rel.gh vx)
    obtain ⟨hy,_⟩:=fH hb rs
    subst ev
    cases rx
    obtain ⟨w',ew,vc⟩:=mZ vd
    obtain ⟨ev,_⟩:=gk vc
    subst ew
    subst ev
    obtain ⟨u,rfl,t',rfl⟩:=gc rv
    obtain ⟨DS,vl,⟨ob,h1,h2,⟨n,h3⟩,h4⟩,_⟩:=I.tupleN sq
    subst hy
    obtain ⟨cls,dict,data,slots⟩:=ob
    dsimp only at h2 h3 h4
    subst h2 h3 h4
    have Eu:=List.idxOf_lt_length_of_mem hc
    refine PySem.call_meets PySem.F.slot_tuple_index ⟨_,h1,rfl⟩ PySem.F.entry_tuple_index (PySem.F.args_tuple_index_2 _ _) (jV p DS.toArray n _ _ (bs.map S) (S c) t' (by rw [List.map_map];exact vl) (bs.idxOf c) ?_ ?_) ⟨h1,⟨.int (bs.idxOf c:Nat),H,I.tok _,⟨_,rfl⟩,k _ H G fp .refl (rel.push (bu _))⟩⟩
    ·rw [List.getElem?_map,List.getElem?_eq_getElem Eu,List.getElem_idxOf Eu]
     rfl
    ·intro j hj he
     rw [List.getElem?_map,List.getElem?_eq_getElem (by lia)] at he
     have he:=wG (Option.some.inj he)
     have:=qo bs c j (by rw [List.getElem?_eq_getElem (by lia),he])
     lia
   ·cases e
  ·cases e
 ·cases e
noncomputable def cp (a b:D):Res R:=match a,b with
 | .tup [],.tup l=>.ok (.f,.tup l)
 | a,b=>addD a b
theorem aJ:EE X (binaryOp .Add) (rG X.K cp):=by
 rintro pins s σ H x y v u Q I rx ry ⟨G,fp,es,vs,a,b,r,⟨rel,k⟩,va,vb,e⟩
 unfold cp at e
 split at e
 ·rename_i l
  cases e
  obtain ⟨p,xs,e1,h1,r1⟩:=hW va
  obtain ⟨p2,LD,e2,h2,r2⟩:=hW vb
  subst e1
  subst e2
  cases rx
  cases ry
  have hx:xs=[]:=List.eq_nil_of_length_eq_zero (by rw [r1.length];rfl)
  subst hx
  obtain ⟨DS,v1,⟨⟨cls,dd,data,sl⟩,ho,hc,n,hd⟩,_⟩:=I.tuple (bP rel.gh h1)
  obtain ⟨HS,v2,⟨⟨KD,Jm,data2,Jn⟩,FA,GQ,n2,hd2⟩,_⟩:=I.tuple (bP rel.gh h2)
  dsimp only at hc hd GQ hd2
  subst hc hd GQ hd2
  cases v1
  exact concat_meets ⟨_,ho,rfl⟩ ⟨_,FA,rfl⟩ noFill_tuple_add seq_tuple_add PySem.F.slot_tuple_add PySem.F.entry_tuple_add (PySem.F.args_tuple_add_2 _ _) (tuple_addW0 p p2 _ _ n n2 dd Jm sl Jn rfl) ⟨ho,FA,⟨.ref p2,H,I,rfl,k _ H G fp .refl (rel.push vb)⟩⟩
 ·exact zU pins s σ H _ _ v u Q I rx ry ⟨G,fp,es,vs,a,b,r,⟨rel,k⟩,va,vb,e⟩
noncomputable def qY (fs:Fq):FI:=EY (qW true true fs) (EY (qW true false fs) (EY (qW false true fs) (qW false false fs)))
theorem ph {HZ:List Expr} {kt:Nat} {pt:Pos} {e1 e2:Expr} {fs:Fq} {p pos:Pos} (hg:Gl X "zip") (hm:X.mg "zip" = none) (ha:IB X [e1,e2] fs) (he:starEach [e1,e2] X.env=(false,eval e1 X.env) :: starEach [e2] X.env:=by rfl) (FZ:(backTo pos (starEach [e2] X.env)).any (·.1)=false:=by rfl) :
  QI X (.Tuple HZ kt pt) (.Call (.Name "zip" p) [e1,e2] [] pos) (qY fs):=tF (qf true true hg hm ha he FZ) (tF (qf true false hg hm ha he FZ) (tF (qf false true hg hm ha he FZ) (qf false false hg hm ha he FZ)))
end
end PV
namespace NX
open PySem PySem.Spec PyProof.Rows L2
section
open PySem.AutoSeq1 (wpAny_loadPart')
theorem oj (l:Addr) (items:Array Value) (n:Nat) (dd:Option Addr) (sl:Array (Option Value)) (x:Int) (u:Tok) (h1:¬ (!Builtin.List.listFitsIndex x)=true) (h2:¬ items.size * x.toNat > (2 ^ 63 - 1) / 8) (h3:¬ Builtin.List.listTooLong (items.size * x.toNat)=true) (h4:(List.foldl (fun x1 x2=>x1++x2) #[] (List.replicate (if items.isEmpty=true then 0 else x.toNat) items)).size≤sizeLine) :
  Meets (Builtin.«list.__mul__» ⟨[.ref l,.int x u],[]⟩)
   (fun _ R s=>s.heap.get? l=some { cls:=.type "list",dict:=dd,data:=.seq items n,slots:=sl }∧R (.ok (.ret (.ref s.heap.objs.size))) { s with heap:=s.heap.push { cls:=.type "list",data:=.seq (List.foldl (fun x1 x2=>x1++x2) #[] (List.replicate (if items.isEmpty=true then 0 else x.toNat) items)) } }):=
 .of_wp fun prog w A R s h=>by
  obtain ⟨hp,g,d,tk,os⟩:=s;obtain ⟨hl,h⟩:=h
  wp_walk using wpAny_loadPart' hl
  rw [if_neg (by lia)]
  wp_walk
  exact ⟨_,rfl,h⟩
theorem om (a:Int) (t:Tok) (l:Addr) (T:String) (items:Array Value) (n:Nat) (dd:Option Addr) (sl:Array (Option Value)) :
  Meets (Builtin.«int.__rmul__» ⟨[.int a t,.ref l],[]⟩)
   (fun _ R s=>s.heap.get? l=some { cls:=.type "list",dict:=dd,data:=.seq items n,slots:=sl }∧R (.ok (.ret .notImplemented)) s):=
 .of_wp fun prog w A R s h=>by
  obtain ⟨hp,g,d,tk,os⟩:=s;obtain ⟨hl,h⟩:=h
  wp_walk using wpAny_loadPart' hl
  exact ⟨_,rfl,h⟩
end
end NX
namespace PV
open PySem PySem.Spec PyProof.Rows L2 NX
section
variable {md:Mode} {X:Cx}
inductive rRepS (K:W.Frag) (x:V) (y:V) (H:Hp) (Q:VK):Prop
 | mk:∀ l k xs,x=.ref l→y=.int k→SqL K H l xs→-(2 ^ 62)≤k→k < 2 ^ 62→xs.length * k.toNat≤sizeLine→(∀ p,H p=none→Q (.ref p) (upd H p (.lst (List.replicate k.toNat xs).flatten)))→rRepS K x y H Q
theorem ya:EE X (binaryOp .Mult) (rRepS X.K):=by
 intro pins s σ H x y v u Q I rx ry h
 obtain ⟨l,k,xs,rfl,rfl,hH,h1,h2,hz,q⟩:=h
 cases rx
 obtain ⟨t,rfl⟩:=ry
 obtain ⟨DS,r,p1,_⟩:=I.list hH
 have hl:=r.length
 obtain ⟨⟨cls,dd,data,sl⟩,ho,hc,n,hd⟩:=id p1.isList
 simp only at hc hd
 subst hc hd
 have hlen:DS.toArray.size * k.toNat≤sizeLine:=by rw [List.size_toArray,←hl];exact hz
 have hcap:¬ DS.toArray.size * k.toNat > (2 ^ 63 - 1) / 8:=by
  have:(sizeLine:Nat)≤(2 ^ 63 - 1) / 8:=by decide
  lia
 have Hs:¬ (!Builtin.List.listFitsIndex k)=true:=by
  rw [fitsIndex_both (by lia) (by lia)]
  exact Bool.false_ne_true
 have Mk:¬ Builtin.List.listTooLong (DS.toArray.size * k.toNat)=true:=by
  rw [uY hlen]
  exact Bool.false_ne_true
 have JJ:List.foldl (fun x1 x2=>x1++x2) #[] (List.replicate (if DS.toArray.isEmpty=true then 0 else k.toNat) DS.toArray)=(List.replicate k.toNat DS).flatten.toArray:=by
  have f0:∀ m:Nat,List.foldl (fun x1 x2=>x1++x2) #[] (List.replicate m DS.toArray)=(List.replicate m DS).flatten.toArray:=fun m=>by
   have:=nE DS m []
   rw [List.nil_append] at this
   exact this
  rw [f0]
  cases DS with
  | nil=>simp
  | cons a r'=>rw [if_neg (by simp)]
 have hsz:(List.foldl (fun x1 x2=>x1++x2) #[] (List.replicate (if DS.toArray.isEmpty=true then 0 else k.toNat) DS.toArray)).size≤sizeLine:=by
  rw [JJ,List.size_toArray,lW,Nat.mul_comm]
  rw [List.size_toArray] at hlen
  exact hlen
 refine wpAny_binaryOp_repeat_ref (T:="list") (U:="int") (by decide) ⟨_,ho,rfl⟩ (fun s'=>typeIs_int s' k t) noFill_list_mul F.fills_int_mul F.slot_int_rmul repeat_list F.slot_int_index.lookup
  (call_meets F.slot_int_rmul (typeIs_int s k t) F.entry_int_rmul (F.args_int_rmul_2 _ _) (om k t l "" DS.toArray n dd sl)
   ⟨ho,rfl,⟨_,ho,rfl⟩,call_meets F.slot_list_mul ⟨_,ho,rfl⟩ F.entry_list_mul (F.args_list_mul_2 _ _) (oj l DS.toArray n dd sl k t Hs hcap Mk hsz) ⟨ho,?_⟩⟩)
 rw [JJ]
 exact ⟨.ref _,_,I.lnew (t':=s.toks) (r.rep k.toNat) (by rw [lW,Nat.mul_comm];exact hz),rfl,q _ I.fresh⟩
theorem qp {K:W.Frag} {G:Hp} {ds:List D} {xs:List V} (r:Reps K G ds xs):∀ n:Nat,Reps K G (List.replicate n ds).flatten (List.replicate n xs).flatten
 | 0=>.nil
 | n + 1=>by
  rw [List.replicate_succ,List.replicate_succ,List.flatten_cons,List.flatten_cons]
  exact r.app (qp r n)
noncomputable def lp (a b:D):Res R:=match a,b with
 | .lst ds,.int k=>if 0≤k∧k < 1000000∧ds.length * k.toNat≤sizeLine then .ok (.l .f,.lst (List.replicate k.toNat ds).flatten) else .bad
 | a,b=>x4 a b
theorem e8:EE X (binaryOp .Mult) (rG X.K lp):=by
 rintro pins s σ H x y v u Q I rx ry ⟨G,fp,es,vs,a,b,r,⟨rel,k⟩,va,vb,e⟩
 unfold lp at e
 split at e
 ·rename_i ds j
  split at e
  ·rename_i hj
   cases e
   obtain ⟨p,xs,e1,h1,r1⟩:=va
   subst e1
   cases bC vb
   refine ya pins s σ H _ _ v u Q I rx ry ⟨p,j,xs,rfl,rfl,h1,by lia,by lia,by rw [r1.length];exact hj.2.2,fun q hq=>?_⟩
   obtain ⟨DU,D1⟩:=rel.newL hq (qp r1 j.toNat)
   exact k _ _ G _ D1 DU
  ·cases e
 ·exact x5 pins s σ H _ _ v u Q I rx ry ⟨G,fp,es,vs,a,b,r,⟨rel,k⟩,va,vb,e⟩
noncomputable def Cf (td ty tv:TE):TS:=fun Dd σ H=>tv σ H fun v H1=>td σ H1 fun x H2=>ty σ H2 fun y H3=>zu x y v H3 fun H4=>Dd.nx σ H4
theorem yb {o i value:Expr} {td ty tv:TE} {pos pos':Pos} (ho:PE X o td) (hi:PE X i ty) (hv:PE X value tv) (hs:swapsWith value (some (.Subscript o i pos')) pos.line X.env=pure false) :
  PS X (.Assign [.Subscript o i pos'] value pos) (Cf td ty tv):=by
 intro pins s σ H Dd I h
 refine wpAny_Assign_Subscript (Ea (hv pins s σ H _ I h) fun r s1 ⟨v,H1,I1,rv,q1⟩=>Ea (ho pins s1 σ H1 _ I1 q1) fun u s2 ⟨x,H2,I2,rx,q2⟩=>Ea (hi pins s2 σ H2 _ I2 q2) fun iv s3 ⟨y,H3,I3,ry,q3⟩=>?_) hs
 exact Ea (uW pins s3 σ H3 x y v u iv r _ I3 rx ry rv q3) fun _ s4 ⟨H4,I4,q4⟩=>⟨σ,H4,I4,q4⟩
noncomputable def qZ (i:Nat) (fk fv:FX):FS:=fun env=>(fv env).bind fun p=>(fk p.2).bind fun q=>match p.2[i]?,q.2[i]? with
 | some (some _),some (some (.l .f,.lst ds))=>(match q.1.2 with
  | .int k=>(match ixN ds.length k with
   | some j=>.ok (.nx (q.2.set i (some (.l .f,.lst (ds.set j p.1.2)))))
   | none=>.bad)
  | _=>.bad)
 | _,_=>.bad
theorem pj {i:Nat} {o ix value:Expr} {fk fv:FX} {pos pos':Pos} (ho:PE X o (uM i)) (hi:QE X ix fk) (hv:QE X value fv) (hs:swapsWith value (some (.Subscript o ix pos')) pos.line X.env=pure false:=by rfl) :
  QS (md:=md) X (.Assign [.Subscript o ix pos'] value pos) (qZ i fk fv):=hV (yb ho hi hv hs) fun Dd σ H D6=>by
 obtain ⟨G,env,fp,rel,k⟩:=D6
 unfold qZ at k
 match q1:fv env,k with
 | .ok (r1,DR),k=>
  have k:OutOk X.K G H fp Dd ((fk DR).bind fun q=>match DR[i]?,q.2[i]? with
   | some (some _),some (some (.l .f,.lst ds))=>(match q.1.2 with
    | .int k=>(match ixN ds.length k with
     | some j=>.ok (.nx (q.2.set i (some (.l .f,.lst (ds.set j r1.2)))))
     | none=>.bad)
    | _=>.bad)
   | _,_=>.bad):=k
  match q2:fk DR,k with
  | .ok (r2,DZ),k=>
   have k:OutOk X.K G H fp Dd (match DR[i]?,DZ[i]? with
    | some (some _),some (some (.l .f,.lst ds))=>(match r2.2 with
     | .int k=>(match ixN ds.length k with
      | some j=>.ok (.nx (DZ.set i (some (.l .f,.lst (ds.set j r1.2)))))
      | none=>.bad)
     | _=>.bad)
    | _,_=>.bad):=k
   split at k
   ·rename_i rr ds h1 h2
    split at k
    ·rename_i kk Kn
     split at k
     ·rename_i j hj
      refine ⟨G,env,fp,r1,DR,rel,q1,fun y H1 G1 Ef D9 DV=>?_⟩
      obtain ⟨G2,b,ry,DU,D1⟩:=DV.freeze
      obtain ⟨v0,Md,_⟩:=DU.view h1
      refine ⟨v0,Md,G2,DR,b,r2,DZ,DU,q2,fun z H3 G3 Gj Ez Et=>?_⟩
      obtain ⟨G4,b4,rz,ES,Fy⟩:=Et.freeze
      have Nu:Rep X.K G4 r1.2 y:=Rep.mono (Ez.gg.trans Fy.gg) ry
      obtain ⟨p,xs,ep,hp,rs,cg⟩:=ES.chg (ds':=ds.set j r1.2) h2
      rw [Md] at ep
      cases ep
      rw [Kn] at rz
      have hz:=bG rz
      obtain ⟨fq,Fl,F3⟩:=cg _ (rs.set j Nu)
      exact ⟨p,xs,kk,j,rfl,hz,hp,by rw [rs.length];exact hj,k _ _ G4 fq (D9.trans (D1.trans (Ez.trans (Fy.trans F3)))) Fl⟩
     ·exact k.elim
    ·exact k.elim
   ·exact k.elim
end
section
variable {X:Cx}
theorem Rel.own {K:W.Frag} {G H:Hp} {es:PV.Env} {vs:L2.St} {fp:List Addr} {p:Addr} {u:HO} {tk:Bool} {ks ws:List D} {xs:List V} (q:Rel K G H es vs fp) (np:p∉fp) (gp:G p=none) (h:DictO u tk ks xs) (rs:Reps K G ws xs) :
  Rel K G (upd H p u) (some (.d,.dct tk ks ws) :: es) (some (.ref p) :: vs) (p :: fp):=by
 refine ⟨⟨some (.ref p),vs,rfl,.ref p,[p],fp,rfl,rfl,?_,q.rep.step (.refl _) fun z hz=>aP fun e=>np (e▸hz)⟩,List.nodup_cons.mpr ⟨np,q.nd⟩,fun z hz=>?_,fun b o e=>?_⟩
 ·rw [RepO]
  exact ⟨p,xs,u,rfl,bI,h,rfl,rs⟩
 ·rcases List.mem_cons.mp hz with rfl | hz
  ·exact gp
  ·exact q.gn z hz
 ·rw [aP fun z=>by subst z;rw [gp] at e;cases e]
  exact q.gh b o e
theorem Rel.aside {K:W.Frag} {G H:Hp} {es:PV.Env} {vs:L2.St} {fp:List Addr} {p:Addr} {u:HO} (q:Rel K G H es vs fp) (hp:H p=none):Rel K G (upd H p u) es vs fp:=by
 have np:p∉fp:=fun z=>by
  obtain ⟨u,e⟩:=q.rep.live p z
  rw [hp] at e;cases e
 exact ⟨q.rep.step (.refl _) fun z hz=>aP fun e=>np (e▸hz),q.nd,q.gn,fun b o e=>by rw [aP (a9 (q.gh b o e) hp)];exact q.gh b o e⟩
theorem Step.aside {K:W.Frag} {G H G2 H2:Hp} {es:PV.Env} {vs:L2.St} {fp EC:List Addr} {p:Addr} {u u2:HO} (q:Rel K G H es vs fp) (hp:H p=none) (hu:isT u=false) (st:Step G (upd H p u) fp G2 H2 EC) :
  Step G H fp G2 (upd H2 p u2) (p :: EC)∧p∉EC∧G2 p=none∧H2 p=some u:=by
 have np:p∉fp:=fun z=>by
  obtain ⟨u,e⟩:=q.rep.live p z
  rw [hp] at e;cases e
 have ne:∀ {b o},H b=some o→b≠p:=fun e=>a9 e hp
 refine ⟨⟨st.gg,fun b o e nb=>?_,fun b hb=>?_,fun b o e=>?_,fun b o e=>?_⟩,fun z=>?_,?_,st.keep p u bI np⟩
 ·rw [aP (ne e)]
  exact st.keep b o (by rw [aP (ne e)];exact e) nb
 ·rcases List.mem_cons.mp hb with rfl | hb
  ·exact .inr hp
  ·rcases st.fpn b hb with h | h
   ·exact .inl h
   ·by_cases e:b=p
    ·subst e;exact .inr hp
    ·rw [aP e] at h;exact .inr h
 ·rcases st.gnew b o e with h | h | h | ⟨h1,h2⟩
  ·exact .inl h
  ·exact .inr (.inl h)
  ·by_cases e:b=p
   ·subst e;exact .inr (.inr (.inl hp))
   ·rw [aP e] at h;exact .inr (.inr (.inl h))
  ·by_cases e:b=p
   ·subst e;exact .inr (.inr (.inl hp))
   ·rw [aP e] at h2;exact .inr (.inr (.inr ⟨h1,h2⟩))
 ·obtain ⟨o',h⟩:=st.there b o (by rw [aP (ne e)];exact e)
  exact ⟨o',by rw [aP (ne e)];exact h⟩
 ·rcases st.fpn p z with h | h
  ·exact np h
  ·rw [bI] at h;cases h
 ·cases e:G2 p with
  | none=>rfl
  | some o=>
   rcases st.gnew p o e with h | h | h | ⟨h1,h2⟩
   ·have:=q.gh p o h
    rw [hp] at this;cases this
   ·exact absurd h np
   ·rw [bI] at h;cases h
   ·rw [bI] at h2
    cases h2
    rw [hu] at h1;cases h1
noncomputable def qq (fk fv:FX):FX:=fun env=>(fk env).bind fun p=>(fv p.2).bind fun q=>if eh false p.1.2 then .ok ((.d,.dct false [p.1.2] [q.1.2]),q.2) else .bad
theorem qr {k v:Expr} {fk fv:FX} {pos:Pos} (hk:QE X k fk) (hv:QE X v fv):QE X (.Dict [some k] [v] pos) (qq fk fv):=
 bU (xH (vn hk hv xG) rfl rfl (List.cons_ne_nil _ _) (show 1≤15 by decide)) fun σ H Q D6 p hp=>by
  obtain ⟨G,env,fp,r,env',rel,e,kk⟩:=D6
  obtain ⟨⟨r1,DR⟩,e1,e⟩:=ar e
  obtain ⟨⟨r2,DZ⟩,e2,e⟩:=ar e
  dsimp only at e
  split at e
  ·rename_i FQ
   cases e
   refine ⟨G,env,fp,r1,DR,rel.aside hp,e1,fun x H1 G1 Ef D9 DV=>?_⟩
   obtain ⟨G2,b,rx,DU,D1⟩:=DV.freeze
   refine ⟨G2,DR,b,r2,_,DU,e2,fun y H3 G3 Gj Ez Et=>?_⟩
   obtain ⟨G4,b4,ry,ES,Fy⟩:=Et.freeze
   have OZ:Rep X.K G4 r1.2 x:=Rep.mono (Ez.gg.trans Fy.gg) rx
   unfold eh at FQ
   rw [if_neg Bool.false_ne_true,Option.isSome_iff_exists] at FQ
   obtain ⟨kd,L0⟩:=FQ
   obtain ⟨ex,dx⟩:=g5 L0 OZ
   obtain ⟨st,np,gp,L6⟩:=Step.aside (u2:=.dK [(kd,y)]) rel hp rfl (D9.trans (D1.trans (Ez.trans Fy)))
   refine ⟨L6,[(kd,y)],by rw [ex];rfl,(show 1≤15 by decide),?_⟩
   exact kk _ _ G4 _ st (ES.own np gp ⟨[(kd,y)],rfl,by rw [dx];rfl,rfl,fun kv GS=>by rw [List.mem_singleton.mp GS];exact tL L0 OZ⟩ (.one ry))
  ·cases e
noncomputable def getD (ks vs:List D) (k:D):Option D:=((ks.zip vs).find? fun p=>eqD k p.1).map (·.2)
theorem kG {κ:Type} [DecidableEq κ] {K:W.Frag} {G:Hp} (f:κ→D) (hf:∀ a b,eqD (f a) (f b)=decide (a=b)) {k:κ}:∀ {DT:List (κ×V)} {vs:List D},Reps K G vs (DT.map (·.2))→((getD (DT.map fun kv=>f kv.1) vs (f k)).isSome=(nN DT k).isSome)∧∀ d,getD (DT.map fun kv=>f kv.1) vs (f k)=some d→∃ v,nN DT k=some v∧Rep K G d v
 | [],vs,r=>⟨rfl,fun d h=>nomatch h⟩
 | kv :: DT,vs,r=>by
  cases vs with
  | nil=>have:=r.length;simp at this
  | cons d0 vs=>
   rw [List.map_cons,Reps.cons_iff] at r
   obtain ⟨h1,h2⟩:=kG f hf (k:=k) r.2
   unfold getD nN at h1 h2 ⊢
   rw [List.map_cons,List.zip_cons_cons]
   have e:eqD (f k) (f kv.1)=decide (kv.1=k):=by
    rw [hf,Bool.eq_iff_iff,decide_eq_true_eq,decide_eq_true_eq]
    exact ⟨fun z=>z.symm,fun z=>z.symm⟩
   by_cases hk:kv.1=k
   ·rw [List.find?_cons_of_pos (by show eqD (f k) (f kv.1)=true;rw [e];exact decide_eq_true hk),List.find?_cons_of_pos (by exact decide_eq_true hk)]
    refine ⟨rfl,fun d h=>?_⟩
    cases h
    exact ⟨_,rfl,r.1⟩
   ·rw [List.find?_cons_of_neg (by show ¬ eqD (f k) (f kv.1)=true;rw [e];simpa using hk),List.find?_cons_of_neg (by simpa using hk)]
    exact ⟨h1,h2⟩
theorem pk {K:W.Frag} {G H:Hp} (gh:Same G H) {tk:Bool} {ks vs:List D} {xs:List V} {o:HO} {p:Addr} {b:D} {y:V} (rd:Rd H p o) (dd:DictO o tk ks xs) (rs:Reps K G vs xs) (hk:eh tk b=true) (ry:Rep K G b y) :
  ∃ ov,DGet H p y ov∧(getD ks vs b).isSome=ov.isSome∧∀ d,getD ks vs b=some d→∃ v,ov=some v∧Rep K G d v:=by
 unfold eh at hk
 cases tk with
 | true=>
  rw [if_pos rfl,Option.isSome_iff_exists] at hk
  obtain ⟨kk,hk⟩:=hk
  obtain ⟨pz,ez,gz,dz⟩:=d9 hk ry
  obtain ⟨DT,eo,ek,ex,_⟩:=dd
  subst eo ex ez dz
  have ek:ks=DT.map fun kv=>kT kv.1:=ek
  obtain ⟨h1,h2⟩:=kG (K:=K) (G:=G) kT wC (k:=kk) rs
  rw [←ek] at h1 h2
  exact ⟨nN DT kk,.inr ⟨DT,kk,pz,rd,rfl,gh _ _ gz,rfl⟩,h1,h2⟩
 | false=>
  rw [if_neg Bool.false_ne_true,Option.isSome_iff_exists] at hk
  obtain ⟨kk,hk⟩:=hk
  obtain ⟨ez,dz⟩:=g5 hk ry
  obtain ⟨DT,eo,ek,ex,_⟩:=dd
  subst eo ex ez dz
  obtain ⟨h1,h2⟩:=kG (K:=K) (G:=G) kD tI (k:=kk) rs
  rw [←ek] at h1 h2
  exact ⟨nN DT kk,.inl ⟨DT,kk,rd,rfl,rfl⟩,h1,h2⟩
noncomputable def GW (a b:D):Res R:=match a with
 | .dct tk ks vs=>if eh tk b then (match getD ks vs b with
  | some d=>.ok (.f,d)
  | none=>.bad) else .bad
 | _=>.bad
theorem q0 {a b:Expr} {fa fb:FO} {pos:Pos} (hu:X.A.units + 1 < cLine) (ha:QO X a fa) (hb:QO X b fb) (hs:NoSl b:=by exact fun _ _=>rfl):QE X (.Subscript a b pos) (ay GW fa fb):=
 bU (xE hu ha hb hs) fun σ H Q h=>by
  obtain ⟨G,env,fp,r,env',rel,e,k⟩:=h
  obtain ⟨⟨oa,e1⟩,ha,e⟩:=ar e
  obtain ⟨⟨ob,e2⟩,hb,e⟩:=ar e
  obtain ⟨da,JF,e⟩:=ar e
  obtain ⟨db,Gi,e⟩:=ar e
  obtain ⟨r',hr,e⟩:=ar e
  cases e
  refine ⟨G,env,fp,oa,e1,rel,ha,fun x H1 G1 Ef D9 DV Fi=>⟨G1,e1,Ef,ob,e2,DV,hb,fun y H2 G2 EC D1 DU HY=>?_⟩⟩
  have va:=DU.vw (Fi.mono D1.gg) JF
  have vb:=DU.vw HY Gi
  unfold GW at hr
  split at hr
  ·rename_i tk ks vs
   split at hr
   ·rename_i FQ
    split at hr
    ·rename_i d hd
     cases hr
     obtain ⟨p,xs,o,ev,rd,dd,rs⟩:=va
     subst ev
     have vb':Rep X.K G2 db y:=by
      cases db with
      | lst l=>cases tk <;> simp [eh,fG,kr] at FQ
      | dct _ _ _=>cases tk <;> simp [eh,fG,kr] at FQ
      | _=>exact vb
     obtain ⟨ov,g,_,h2⟩:=pk DU.gh rd dd rs FQ vb'
     obtain ⟨v,ho,rv⟩:=h2 d hd
     subst ho
     exact ⟨p,v,rfl,g,k _ H2 G2 EC (D9.trans D1) (DU.push rv)⟩
    ·cases hr
   ·cases hr
  ·cases hr
noncomputable def Jt (a b:D):Res R:=match b with
 | .dct tk ks vs=>if eh tk a then .ok (.f,.bl (getD ks vs a).isSome) else .bad
 | _=>Hj a b
noncomputable def tP (a b:D):Res R:=match b with
 | .dct tk ks vs=>if eh tk a then .ok (.f,.bl (!(getD ks vs a).isSome)) else .bad
 | _=>tw a b
theorem tR (hu:X.A.units + 65 < cLine):EE X (compareOp .In) (rGA X.K Jt):=by
 rintro pins s σ H x y v u Q I rx ry ⟨G,fp,es,vs,a,b,r,⟨rel,k⟩,va,vb,e⟩
 unfold Jt at e
 split at e
 ·rename_i tk ks ws
  split at e
  ·rename_i FQ
   cases e
   obtain ⟨p,xs,o,ev,rd,dd,rs⟩:=vb
   subst ev
   cases ry
   obtain ⟨ov,g,h1,_⟩:=pk (K:=X.K) (G:=H) (fun _ _ z=>z) rd dd rs FQ va
   exact Dx (by lia) I g rx fun s' I'=>⟨.bl ov.isSome,H,I',rfl,by rw [←h1];exact k _ H G fp .refl (rel.push (dq _))⟩
  ·cases e
 ·exact B9 hu pins s σ H x y v u Q I rx ry ⟨G,fp,es,vs,a,b,r,⟨rel,k⟩,va,vb,e⟩
theorem kH (hu:X.A.units + 65 < cLine):EE X (compareOp .NotIn) (rGA X.K tP):=by
 rintro pins s σ H x y v u Q I rx ry ⟨G,fp,es,vs,a,b,r,⟨rel,k⟩,va,vb,e⟩
 unfold tP at e
 split at e
 ·rename_i tk ks ws
  split at e
  ·rename_i FQ
   cases e
   obtain ⟨p,xs,o,ev,rd,dd,rs⟩:=vb
   subst ev
   cases ry
   obtain ⟨ov,g,h1,_⟩:=pk (K:=X.K) (G:=H) (fun _ _ z=>z) rd dd rs FQ va
   exact xC (by lia) I g rx fun s' I'=>⟨.bl (!ov.isSome),H,I',rfl,by rw [←h1];exact k _ H G fp .refl (rel.push (dq _))⟩
  ·cases e
 ·exact z4 hu pins s σ H x y v u Q I rx ry ⟨G,fp,es,vs,a,b,r,⟨rel,k⟩,va,vb,e⟩
end
section
variable {K:W.Frag} {G G' H H':Hp} {es:PV.Env} {vs:L2.St} {fp:List Addr}
end
section
variable {X:Cx}
end
section
variable {X:Cx} {x:Str} {p pos:Pos} {e:Expr} {es:List Expr} {fs:Fq}
end
section
variable {K:W.Frag} {G G' H H':Hp}
end
section
variable {X:Cx} {md:Mode}
end
end PV
namespace NX
open PySem PySem.Spec PyProof.Rows L2
end NX
namespace PV
open PySem PySem.Spec PyProof.Rows L2 NX
section
variable {X:Cx}
end
end PV
namespace NX
open PySem PySem.Spec PyProof.Rows L2
section
variable {prog:Program} {w:World} {A:Around} {E:Value→Shared→Prop} {s:Shared}
end
section
variable {prog:Program} {w:World} {A:Around} {E:Value→Shared→Prop} {s:Shared}
end
section
variable {X:Cx} {e:Expr} {ta:TA} {p p2 pos pos2:Pos}
end
end NX
namespace PV
open PySem PySem.Spec PyProof.Rows L2 NX
section
variable {X:Cx} {e:Expr} {fs:Fq} {p p2 pos pos2:Pos}
end
end PV
namespace NX
open PySem PySem.Spec PyProof.Rows L2
section
open PySem.AutoSeq1 (wpAny_loadPart')
end
end NX
namespace PV
open PySem PySem.Spec PyProof.Rows L2 NX
section
variable {X:Cx}
end
section
variable {md:Mode} {X:Cx} {scope:Scope} {N:List Str} {tg iter elt:Expr} {ifs:List Expr} {pos:Pos} {fi:FI} {a:FG} {c:FT} {f:FX} {j k0:Nat}
end
section
variable {X:Cx} {x:Str} {p pos:Pos} {e:Expr} {es:List Expr} {f0:FX} {fs:Fq}
end
noncomputable def joinL (sep:List Nat):List (List Nat)→List Nat
 | []=>[]
 | [x]=>x
 | x :: y :: r=>x++sep++joinL sep (y :: r)
noncomputable def tS (sep:List Nat):List D→Res R
 | [.lst ds]=>match fw ds with
  | some ys=>if (ys.map List.length).sum + ys.length * sep.length≤16777216 then .ok (.f,.str (joinL sep ys)) else .bad
  | none=>.bad
 | _=>.bad
theorem tU (sep:List Nat):∀ ys:List (List Nat),Str.join (S sep) (ys.map S)=S (joinL sep ys)
 | []=>rfl
 | [x]=>rfl
 | x :: y :: r=>by
  have ih:=tU sep (y :: r)
  show S x++S sep++Str.join (S sep) ((y :: r).map S)=S (x++sep++joinL sep (y :: r))
  rw [ih]
  apply Str.ext'
  simp [Str.cps_append]
theorem Aj (sep:List Nat):∀ ys:List (List Nat),Txt.join (S sep) (ys.map S)=S (joinL sep ys)
 | ys=>by
  show Builtin.Str.glued (S sep) (ys.map S)=_
  rw [StrLaws.glued_eq_join]
  exact tU sep ys
theorem oq (sep:List Nat):∀ ys:List (List Nat),(joinL sep ys).length≤(ys.map List.length).sum + ys.length * sep.length
 | []=>Nat.zero_le _
 | [x]=>by
  show x.length≤_
  rw [List.map_cons,List.sum_cons]
  lia
 | x :: y :: r=>by
  have ih:=oq sep (y :: r)
  show (x++sep++joinL sep (y :: r)).length≤_
  rw [List.length_append,List.length_append,List.map_cons,List.sum_cons,List.length_cons,Nat.add_mul]
  lia
theorem ou {K:W.Frag} {G:Hp}:∀ {ds:List D} {ys:List (List Nat)} {xs:List V} {us:List Value},fw ds=some ys→Reps K G ds xs→Vals xs us→StrsAre us (ys.map S)
 | [],ys,xs,us,e,r,v=>by
  cases e
  rw [Reps] at r
  subst r
  cases v
  exact .nil
 | .str b :: ds,ys,xs,us,e,r,v=>by
  rw [Reps] at r
  obtain ⟨y,zs,ex,r1,r2⟩:=r
  subst ex
  cases v with
  | cons h t=>
   rw [fw,Option.map_eq_some_iff] at e
   obtain ⟨ws,hw,rfl⟩:=e
   rw [Rep] at r1
   obtain ⟨r1,_⟩:=r1
   subst r1
   obtain ⟨tk,rfl⟩:=h
   exact .cons _ tk (ou hw r2 t)
 | .non :: _,_,_,_,e,_,_ | .bl _ :: _,_,_,_,e,_,_ | .int _ :: _,_,_,_,e,_,_ | .tup _ :: _,_,_,_,e,_,_ | .lst _ :: _,_,_,_,e,_,_ | .dct _ _ _ :: _,_,_,_,e,_,_=>by cases e
section
variable {X:Cx}
theorem yc:Jy X "str.join" (rMtS X.K tS):=by
 rintro pins s σ H x xs v us Q I rx rv ⟨G,fp,es,vs,l,ds,r,⟨rel,k⟩,ex,hz,vd,e⟩
 unfold tS at e
 split at e
 ·rename_i ds
  split at e
  ·rename_i ys NS
   split at e
   ·rename_i hb
    cases e
    subst ex
    obtain ⟨w',ew,p,zs,ep,sq,rs⟩:=mZ vd
    subst ew ep
    obtain ⟨t,rfl⟩:=rx
    obtain ⟨u,rfl,ru⟩:=gc rv
    cases ru
    obtain ⟨DS,r',pl,Js⟩:=I.list sq
    refine join_list pl.isList (ys:=ys.map S) (ou NS rs r') ?_ fun t' kk=>?_
    ·rw [List.map_map,List.length_map]
     have e1:((fun x:Str=>x.length)∘S)=List.length:=by funext z;exact lr z
     rw [e1,lr]
     exact hb
    ·rw [Aj]
     refine ⟨.str (S (joinL l ys)),H,I.tok _,⟨_,rfl⟩,k _ H G fp .refl (rel.push ?_)⟩
     rw [Rep]
     have:=oq l ys
     exact ⟨rfl,by rw [line_eq];lia⟩
   ·cases e
  ·cases e
 ·cases e
end
end PV
namespace NX
open PySem PySem.Spec PyProof.Rows L2
section
variable {prog:Program} {w:World} {A:Around} {R:Result→Shared→Prop} {it:Addr} {fp wr:List Addr} {n:Nat} {Pv:Nat→Value→Prop} {Sx:Nat→Heap→Prop} {kw:List (Str×Value)}
end
section
variable {X:Cx} {e k:Expr} {te tk:TE} {p pos HR:Pos}
end
end NX
namespace PV
open PySem PySem.Spec PyProof.Rows L2 NX
section
variable {X:Cx}
end
section
variable {X:Cx}
noncomputable def Ak (g:List D→List D→Res R) (fa:FO) (fs:Fq):FX:=fun env=>(fa env).bind fun p=>(Eg p.2 p.1).bind fun a=>match a with
 | .lst _=>(fs p.2).bind fun q=>(Eg q.2 p.1).bind fun a2=>match a2 with
  | .lst l=>(mY q.2 q.1).bind fun ds=>(g l ds).bind fun r=>.ok (r,q.2)
  | _=>.bad
 | _=>.bad
inductive rMtL (K:W.Frag) (g:List D→List D→Res R) (x:V) (xs:List V) (H:Hp) (Q:VK):Prop
 | mk:∀ G fp es vs l ds r,Goes K H G fp es vs r Q→Vw K G H (.lst l) x→Ko K G H ds xs→g l ds=.ok r→rMtL K g x xs H Q
theorem tV {g:List D→List D→Res R} {id:String} {name:Str} {o e:Expr} {es:List Expr} {fa:FO} {fs:Fq} {apos Ec:Pos} (slot:Slot "list" name id) (IG:typeOf (.builtin id)=pure (.type "method_descriptor")) (hm:Jy X id (rMtL X.K g)) (ho:QO X o fa) (ha:IB X (e :: es) fs)
  (E7:attributeBase o name X.env (eval o X.env)=eval o X.env:=by rfl)
  (F5:((backTo Ec (starEach (e :: es) X.env)).all (fun x=>!x.1) && (backToKw Ec (keywordEach [] X.env)).all (fun x=>x.1.isSome) && decide ((e :: es).length + ([]:List Keyword).length + (if ([]:List Keyword).isEmpty then 0 else 1) < 30))=true:=by rfl)
  (E8:(apos.endLine == Ec.line)=true:=by rfl) (hs:starEach (e :: es) X.env=(false,eval e X.env) :: starEach es X.env:=by rfl) (EF:(backTo Ec (starEach es X.env)).any (·.1)=false:=by rfl) :
  QE X (.Call (.Attribute o name apos) (e :: es) [] Ec) (Ak g fa fs):=by
 refine bU (xk PySem.F.plainAttrs_list slot IG hm ho ha E7 F5 E8 hs EF) fun σ H Q Ee=>?_
 obtain ⟨G,env,fp,r,env',rel,e,k⟩:=Ee
 obtain ⟨⟨oa,DR⟩,e1,e⟩:=ar e
 obtain ⟨da,JF,e⟩:=ar e
 dsimp only at e
 split at e
 ·obtain ⟨⟨os,DZ⟩,e2,e⟩:=ar e
  obtain ⟨d2,hd2,e⟩:=ar e
  dsimp only at e
  split at e
  ·obtain ⟨ds,e3,e⟩:=ar e
   obtain ⟨r',e4,e⟩:=ar e
   cases e
   refine ⟨G,env,fp,oa,DR,rel,e1,fun v H1 G1 Ef D9 DV Fi=>?_⟩
   obtain ⟨p,xs,ev,sq,_⟩:=DV.vw Fi JF
   subst ev
   exact ⟨.inl ⟨rfl,xs,sq⟩,G1,DR,Ef,os,_,DV,e2,fun vs H2 G2 EC D1 DU HY=>⟨G2,EC,_,σ,_,ds,r,⟨DU,fun v H' G' D0 st Ek=>k v H' G' D0 (D9.trans (D1.trans st)) Ek⟩,DU.vw (Fi.mono D1.gg) hd2,DU.vws HY e3,e4⟩⟩
  ·cases e
 ·cases e
open PySem.SeqAt in
theorem yd {pins:List (Addr×Obj)} {σ:L2.St} {H:Hp} {s:Shared} (I:Inv X pins σ H s) {a:D} {x:V} {v:Value} {A:Around} (h:plainD 40 a=true) (hu:A.units + 64 < cLine) (r:Rep X.K H a x) (rx:RelV x v) :
  ∀ (ds:List D) (xs:List V) (us:List Value),plainDs 40 ds=true→Reps X.K H ds xs→Vals xs us→∃ e:Value→Bool,(∀ (j:Nat) (d:D) (u:Value),ds[j]?=some d→us[j]?=some u→e u=eqD d a)∧∀ u∈us,EqAt A s u v (e u):=by
 classical
 intro ds xs us hp rs vl
 have key:∀ (j:Nat) (d:D) (u:Value),ds[j]?=some d→us[j]?=some u→decide (∃ (j:Nat) (d:D),ds[j]?=some d∧us[j]?=some u∧eqD d a=true)=eqD d a:=by
  intro j d u hd hj
  obtain ⟨w1,Ho,Hq⟩:=rs.get hd
  obtain ⟨u1,F7,Hr⟩:=vl.get Ho
  rw [hj] at F7
  cases F7
  rw [Bool.eq_iff_iff,decide_eq_true_eq]
  constructor
  ·rintro ⟨j2,d2,k1,k2,k3⟩
   obtain ⟨w2,IT,IU⟩:=rs.get k1
   obtain ⟨u2,GV,IV⟩:=vl.get IT
   rw [k2] at GV
   cases GV
   have:=Hr.inj IV
   subst this
   rw [ko I _ _ _ 40 (plainDs_mem hp hd) Hq IU]
   exact k3
  ·intro k3
   exact ⟨j,_,hd,hj,k3⟩
 refine ⟨fun u=>decide (∃ (j:Nat) (d:D),ds[j]?=some d∧us[j]?=some u∧eqD d a=true),key,fun u Oc=>?_⟩
 obtain ⟨j,hj⟩:=List.mem_iff_getElem?.mp Oc
 have l1:=vl.length
 have l2:=rs.length
 have OQ:=(List.getElem?_eq_some_iff.mp hj).1
 have g1:ds[j]?=some (ds[j]'(by lia)):=List.getElem?_eq_getElem _
 obtain ⟨w1,Ho,Hq⟩:=rs.get g1
 obtain ⟨u1,F7,Hr⟩:=vl.get Ho
 rw [hj] at F7
 cases F7
 have z:=xT I _ _ w1 x u v A 40 (plainDs_mem hp g1) h (by lia) Hq r Hr rx
 show EqAt A s u v (decide (∃ (j:Nat) (d:D),ds[j]?=some d∧us[j]?=some u∧eqD d a=true))
 rw [key j _ u g1 hj]
 exact z
noncomputable def mE (l:List D):List D→Res R
 | [a]=>if plainD 40 a && plainDs 40 l && l.any (fun d=>eqD d a) then .ok (.f,.int (l.findIdx (fun d=>eqD d a):Nat)) else .bad
 | _=>.bad
theorem iy (hu:X.A.units + 65 < cLine):Jy X "list.index" (rMtL X.K mE):=by
 rintro pins s σ H x xs v us Q I rx rv ⟨G,fp,es,vs,l,ds,r,⟨rel,k⟩,vx,vd,e⟩
 unfold mE at e
 split at e
 ·rename_i a
  split at e
  ·rename_i hp
   rw [Bool.and_eq_true,Bool.and_eq_true] at hp
   cases e
   obtain ⟨p,ys,ev,sq,rs⟩:=vx
   subst ev
   cases rx
   obtain ⟨w',ew,va⟩:=mZ vd
   subst ew
   obtain ⟨u,rfl,ru⟩:=gc rv
   obtain ⟨DS,vl,pl,hz⟩:=I.list sq
   obtain ⟨⟨cls,dd,data,sl⟩,ho,hc,n,hd⟩:=id pl.isList
   simp only at hc hd
   subst hc hd
   obtain ⟨ef,O0,he2⟩:=yd (A:=X.A.in1) I hp.1.1 (by first | lia | (simp only [Around.in1_units];lia)) (va.rep rel.gh) ru l ys DS hp.1.2 (Reps.mono rel.gh rs) vl
   have Eu:l.findIdx (fun d=>eqD d a) < l.length:=List.findIdx_lt_length.mpr (by rw [←List.any_eq_true];exact hp.2)
   have l1:=vl.length
   have l2:=rs.length
   have hlt2:l.findIdx (fun d=>eqD d a) < DS.toArray.size:=by rw [List.size_toArray];lia
   have hb:(l.findIdx (fun d=>eqD d a):Int) < 2 ^ 63 - 1:=by
    rw [sizeLine_eq] at hz
    lia
   refine PySem.call_meets PySem.F.slot_list_index ⟨_,ho,rfl⟩ PySem.F.entry_list_index (PySem.F.args_list_index_2 _ _) (PySem.SeqAt.list_indexAt p DS.toArray n _ _ u ef (l.findIdx fun d=>eqD d a) hlt2 hb ?_ ?_) ⟨ho,fun y hy=>?_,⟨.int (l.findIdx (fun d=>eqD d a):Nat),H,I.tok _,⟨_,rfl⟩,k _ H G fp .refl (rel.push (bu _))⟩⟩
   ·rw [O0 _ _ _ (List.getElem?_eq_getElem Eu) (by rw [List.getElem_toArray];exact List.getElem?_eq_getElem _)]
    exact List.findIdx_getElem (w:=Eu)
   ·intro m hm hlt3
    rw [O0 m (l[m]'(by lia)) _ (List.getElem?_eq_getElem _) (by rw [List.getElem_toArray];exact List.getElem?_eq_getElem _)]
    exact List.not_of_lt_findIdx hlt3
   ·exact he2 y (by simpa using hy)
  ·cases e
 ·cases e
end
section
variable {K:W.Frag} {G G' H H':Hp} {es:PV.Env} {vs:L2.St} {fp:List Addr}
end
section
variable {X:Cx} {x:Str} {p pos:Pos} {e:Expr} {es:List Expr} {f0:FX} {fs:Fq}
end
def SlR3 (X:Cx) (r:V→Option Int→Option Int→Option Int→Hp→VK→Prop):Prop:=
 ∀ (pins:List (Addr×Obj)) (s:Shared) (σ:L2.St) (H:Hp) (x:V) (v vl vu vt:Value) (lo hi st:Option Int) (sl:Addr) (Q:VK),Inv X pins σ H s→RelV x v→s.heap.IsSliceOf sl vl vu vt→IsPart vl lo→IsPart vu hi→IsPart vt st→r x lo hi st H Q→
  ∃ T id,typeLookup (.type T) "__getitem__" = pure (some (.builtin id))∧s.TypeIs v T∧wpAny (model X.prog X.w) X.A (getItem v (.ref sl)) (EP X pins σ Q) X.xe s
noncomputable def DH (r:V→Option Int→Option Int→Option Int→Hp→VK→Prop) (te:TE) (tl th ts:TO):TE:=fun σ H Q=>te σ H fun x H1=>tl σ H1 fun l H2=>th σ H2 fun u H3=>ts σ H3 fun t H4=>r x l u t H4 Q
theorem tW {X:Cx} {e:Expr} {te:TE} {lo hi:Option Expr} {se:Expr} {tl th ts:TO} {pos p2:Pos} {r:V→Option Int→Option Int→Option Int→Hp→VK→Prop} (hr:SlR3 X r) (he:PE X e te) (hl:PO X lo tl) (hu:PO X hi th) (hs:PO X (some se) ts):PE X (.Subscript e (.Slice lo hi (some se) p2) pos) (DH r te tl th ts):=by
 intro pins s σ H Q I h
 refine Subscript_ (Ea (he pins s σ H _ I h) fun v s1 Ee=>?_)
 obtain ⟨x,H1,I1,r1,q1⟩:=Ee
 refine wpAny_Slice (Ea (hl pins s1 σ H1 _ I1 q1) fun vl s2 ⟨l,H2,I2,pl,q2⟩=>Ea (hu pins s2 σ H2 _ I2 q2) fun vu s3 ⟨u,H3,I3,pu,q3⟩=>Ea (hs pins s3 σ H3 _ I3 q3) fun vt s4 Ee=>?_)
 obtain ⟨t,H4,I4,pt,q4⟩:=Ee
 have I5:Inv X pins σ H4 { s4 with heap:=s4.heap.push { cls:=.type "slice",data:=.fields #[vl,vu,vt] } }:=I4.kept (t':=s4.toks) fun b ob q=>Heap.get?_push_of_some _ q
 obtain ⟨T,id,hT,ht,hg⟩:=hr pins { s4 with heap:=s4.heap.push { cls:=.type "slice",data:=.fields #[vl,vu,vt] } } σ H4 x v vl vu vt l u t s4.heap.objs.size Q I5 r1 (Heap.IsSliceOf.new ..) pl pu pt q4
 show wpAny (model X.prog X.w) X.A (subscriptTail e (.Slice lo hi (some se) p2) v (.ref s4.heap.objs.size)) (EP X pins σ Q) X.xe { s4 with heap:=s4.heap.push { cls:=.type "slice",data:=.fields #[vl,vu,vt] } }
 exact tail_any (ops:=[v,.ref s4.heap.objs.size]) ht hT hg (by with_unfolding_all rfl)
noncomputable def gv {α:Type} (xs:List α) (lo hi:Option Int) (c:Int):List α:=
 (sliceRange (sliceBounds lo hi (some c) xs.length).1 (sliceBounds lo hi (some c) xs.length).2.1 (sliceBounds lo hi (some c) xs.length).2.2).filterMap (fun i=>xs[i]?)
theorem ow {K:W.Frag} {G:Hp} {ds:List D} {xs:List V} (r:Reps K G ds xs):∀ ix:List Nat,Reps K G (ix.filterMap fun i=>ds[i]?) (ix.filterMap fun i=>xs[i]?)
 | []=>.nil
 | i :: ix=>by
  have ih:=ow r ix
  cases e:ds[i]? with
  | none=>
   have e2:xs[i]?=none:=by
    rw [List.getElem?_eq_none_iff] at e ⊢
    rw [r.length]
    exact e
   rw [List.filterMap_cons_none e,List.filterMap_cons_none e2]
   exact ih
  | some d=>
   obtain ⟨v,e2,rv⟩:=r.get e
   rw [List.filterMap_cons_some e,List.filterMap_cons_some e2]
   exact .cons rv ih
theorem vals_pick {xs:List V} {us:List Value} (r:Vals xs us):∀ ix:List Nat,Vals (ix.filterMap fun i=>xs[i]?) (ix.filterMap fun i=>us[i]?)
 | []=>.nil
 | i :: ix=>by
  have ih:=vals_pick r ix
  cases e:xs[i]? with
  | none=>
   rw [List.filterMap_cons_none e,List.filterMap_cons_none (r.none_of e)]
   exact ih
  | some d=>
   obtain ⟨v,e2,rv⟩:=r.get e
   rw [List.filterMap_cons_some e,List.filterMap_cons_some e2]
   exact .cons rv ih
theorem qu (DS:List Value) (lo hi:Option Int) (c:Int):slicePick DS.toArray lo hi (some c)=(gv DS lo hi c).toArray:=by
 unfold slicePick gv
 simp only [List.size_toArray,List.getElem?_toArray]
theorem ye (DS:List Value) (lo hi:Option Int) (c:Int):(gv DS lo hi c).length≤DS.length:=by
 have:=slicePick_size_le DS.toArray lo hi (some c)
 rw [qu] at this
 simpa using this
noncomputable def Al (k:D) (lo hi st:Option Int):Res R:=match k,st with
 | .lst ds,some c=>if c≠0 then .ok (.l .f,.lst (gv ds lo hi c)) else .bad
 | _,_=>.bad
noncomputable def Cg (fa:FO) (lo hi st:FP):FX:=fun env=>(fa env).bind fun p=>(lo p.2).bind fun q=>(hi q.2).bind fun t=>(st t.2).bind fun u=>(Eg u.2 p.1).bind fun d=>(Al d q.1 t.1 u.1).bind fun r=>.ok (r,u.2)
section
variable {X:Cx} {pos:Pos} {fa:FO}
inductive rSl3 (K:W.Frag) (x:V) (lo:Option Int) (hi:Option Int) (st:Option Int) (H:Hp) (Q:VK):Prop
 | mk:∀ G fp es vs d r,Goes K H G fp es vs r Q→Vw K G H d x→Al d lo hi st=.ok r→rSl3 K x lo hi st H Q
theorem Am:SlR3 X (rSl3 X.K):=by
 rintro pins s σ H x v vl vu vt lo hi st sl Q I rx hs pl pu pt ⟨G,fp,es,vs,d,r,⟨rel,k⟩,vd,e⟩
 unfold Al at e
 split at e
 ·rename_i ds c
  split at e
  ·rename_i hc
   cases e
   obtain ⟨p,xs,ev,sq,rs⟩:=vd
   subst ev
   cases rx
   obtain ⟨DS,r,ht,hz⟩:=I.list sq
   have hlen:=r.length
   refine ⟨"list",_,slot_list_getitem.lookup,ht.isList.typeIs,?_⟩
   refine wpAny_getItem_list_slice ht.isList hs pl pu pt (fun h=>hc (Option.some.inj h)) ?_ (by rw [List.size_toArray];lia)
   rw [qu]
   have r2:Vals (gv xs lo hi c) (gv DS lo hi c):=by
    unfold gv
    rw [hlen]
    exact vals_pick r _
   have rs2:Reps X.K G (gv ds lo hi c) (gv xs lo hi c):=by
    unfold gv
    rw [rs.length]
    exact ow rs _
   have Js:(gv xs lo hi c).length≤sizeLine:=by
    rw [r2.length]
    have:=ye DS lo hi c
    lia
   have hq:=I.hok.fresh (Nat.le_refl s.heap.objs.size)
   obtain ⟨DU,D1⟩:=rel.newL hq rs2
   refine ⟨.ref s.heap.objs.size,_,I.laid (t':=s.toks) (o:=.lst (gv xs lo hi c)) (fun b ob q=>Heap.get?_push_of_some _ q) (Nat.le_refl _) ?_,rfl,k _ _ G _ D1 DU⟩
   exact ⟨Js,_,0,r2,Heap.get?_push_size _ rfl⟩
  ·cases e
 ·cases e
theorem An {e:Expr} {lo hi:Option Expr} {se:Expr} {p2:Pos} {fl fh fs:FP} (he:QO X e fa) (hl:QP X lo fl) (hh:QP X hi fh) (hs:QP X (some se) fs):QE X (.Subscript e (.Slice lo hi (some se) p2) pos) (Cg fa fl fh fs):=
 bU (tW Am he hl hh hs) fun σ H Q D6=>by
  obtain ⟨G,env,fp,r,env',rel,e,k⟩:=D6
  obtain ⟨⟨o,DR⟩,e1,e⟩:=ar e
  obtain ⟨⟨i,DZ⟩,e2,e⟩:=ar e
  obtain ⟨⟨j,E9⟩,e3,e⟩:=ar e
  obtain ⟨⟨t,Ml⟩,e4,e⟩:=ar e
  obtain ⟨d,e5,e⟩:=ar e
  obtain ⟨r',e6,e⟩:=ar e
  cases e
  exact ⟨G,env,fp,o,DR,rel,e1,fun v H1 G1 Ef D9 DV Fi=>⟨G1,DR,Ef,i,DZ,DV,e2,fun H2 G2 EC D1 DU=>⟨G2,DZ,EC,j,E9,DU,e3,fun H3 G3 Gj Ez Et=>⟨G3,E9,Gj,t,Ml,Et,e4,fun H4 G4 Ma Fy ES=>
   ⟨G4,Ma,Ml,σ,d,r,⟨ES,fun v H' G' D0 st Ek=>k v H' G' D0 (D9.trans (D1.trans (Ez.trans (Fy.trans st)))) Ek⟩,ES.vw (((Fi.mono D1.gg).mono Ez.gg).mono Fy.gg) e5,e6⟩⟩⟩⟩⟩
end
section
variable {X:Cx}
noncomputable def yf (fa fb fc:FX):FX:=fun env=>(fa env).bind fun p=>(fb p.2).bind fun q=>(fc q.2).bind fun t=>.ok ((.t [.f,q.1.1,t.1.1],.tup [p.1.2,q.1.2,t.1.2]),t.2)
theorem yg {a b c:Expr} {fa fb fc:FX} {x1} {pos:Pos} (ha:QE X a fa) (hb:QE X b fb) (hc:QE X c fc) (h1:starEach [a,b,c] X.env=(false,eval a X.env) :: starEach [b,c] X.env:=by rfl) (h2:starEach [b,c] X.env=(false,eval b X.env) :: starEach [c] X.env:=by rfl) (h3:starEach [c] X.env=(false,eval c X.env) :: starEach [] X.env:=by rfl) :
  QE X (.Tuple [a,b,c] x1 pos) (yf fa fb fc):=
 bU (v5 (gf ha (gf hb (gf hc nh h3) h2) h1)) fun σ H Q D6=>by
  obtain ⟨G,env,fp,r,env',rel,e,k⟩:=D6
  obtain ⟨⟨r1,DR⟩,e1,e⟩:=ar e
  obtain ⟨⟨⟨o2,d2⟩,DZ⟩,e2,e⟩:=ar e
  obtain ⟨⟨⟨o3,d3⟩,E9⟩,e3,e⟩:=ar e
  cases e
  refine ⟨G,env,fp,r1,DR,rel,e1,fun v H1 G1 Ef D9 DV=>?_⟩
  obtain ⟨G2,b,rv,DU,D1⟩:=DV.freeze
  refine ⟨G2,DR,b,(o2,d2),DZ,DU,e2,fun v2 H3 G3 Gj Ez Et=>?_⟩
  obtain ⟨a3,b3,ef3,ro3,Mm,bk3⟩:=Et.frame
  refine ⟨G3,DZ,b3,(o3,d3),E9,Mm,e3,fun v3 H4 G4 Ma Fy ES=>⟨by rw [line_eq];exact (by decide:3≤16777216),fun p hp=>?_⟩⟩
  obtain ⟨IX,JI⟩:=bk3 G4 H4 _ _ Ma Fy ES
  rw [←ef3] at JI
  obtain ⟨Fl,F3⟩:=IX.newF (u:=.tup [v,v2,v3]) hp
  refine k _ _ _ _ (D9.trans (D1.trans (Ez.trans (JI.trans F3)))) ?_
  obtain ⟨y,ys,ey,v',a',b',Og,ef,q1,q2⟩:=Fl.rep
  cases ey
  cases Og
  obtain ⟨y,ys,ey,v'',Mn,b'',Og,ef',q3,q4⟩:=q2
  cases ey
  cases Og
  subst ef'
  refine ⟨⟨some (.ref p),σ,rfl,.ref p,a'++Mn,b'',rfl,by rw [ef,List.append_assoc],?_,q4⟩,Fl.nd,Fl.gn,Fl.gh⟩
  show RepO X.K _ _ (.t [.f,o2,o3]) (.tup [r1.2,d2,d3]) (.ref p) (a'++Mn)
  rw [RepO]
  refine ⟨p,[v,v2,v3],rfl,bI,?_⟩
  rw [RepT]
  refine ⟨v,[v2,v3],[],a'++Mn,rfl,rfl,jz.mpr ⟨Rep.mono (Ez.gg.trans (JI.gg.trans F3.gg)) rv,rfl⟩,?_⟩
  rw [RepT]
  refine ⟨v2,[v3],a',Mn,rfl,rfl,q1,?_⟩
  rw [RepT]
  refine ⟨v3,[],Mn,[],rfl,by rw [List.append_nil],q3,?_⟩
  rw [RepT]
  exact ⟨rfl,rfl⟩
end
end PV
namespace LW
open PySem L2 NX PV
abbrev pq (f:FX):FI:=EY (zT f) (EY (gm f) (gq f))
noncomputable def ox:FS:=(d5 (bg zY (ah (aj (dv (qY (ah (aj (aK 0)) (ah (aj (aK 1)) aF))) [none,none] (g8 2 (aG (aw 0) (aG (aw 1) cB))) eS (ay lp (ao 0) (ao 1)))) aF)))
noncomputable def dB:List D→Res R:=fBody 2 0 ox
noncomputable def wH:FS:=(d5 (bg dy (ah (aj (dv (qY (ah (aj (aK 0)) (ah (aj (aK 1)) aF))) [none,none] (g8 2 (aG (aw 0) (aG (aw 1) cB))) eS (ay o7 (ao 0) (ao 1)))) aF)))
noncomputable def kI:List D→Res R:=fBody 2 0 wH
noncomputable def kJ:FS:=(d5 (ay cp (aj (aH (.int 1))) (aj (xV (dv (pq (ay D3 (ao 0) (aj (aH (.int 1))))) [none,none,none] (g8 3 (aG (aw 0) (aG (aw 1) (aG (aw 2) cB)))) eS (bg maxD (ah (ao 0) (ah (ao 2) aF)))) (aH (.int 0))))))
noncomputable def dg:List D→Res R:=fBody 1 0 kJ
noncomputable def eV:FS:=(Fs (zQ (EA (bR F1 (aj (ay D3 (ao 4) (aj (aH (.int 0))))) (aj (ay D3 (ao 1) (ao 3))))) (EA (bR tP (aj (ay D3 (ao 4) (aj (aH (.int 2))))) (ao 1))))
  (sSeq (ir (o9 1 (ay D3 (ao 4) (aj (aH (.int 2))))))
  (ir (o9 2 (aK 4))))
  cR)
noncomputable def kK:FS:=(lI (pq (aK 0)) (aw 4)
  eV)
noncomputable def jH:FS:=(bE 3 (ay cp (ao 3) (aj (aH (.int 1)))))
noncomputable def gw:FS:=(sSeq kK
  jH)
noncomputable def kM:FS:=(cA (EA (ay Ht (ao 3) (aj (bg kB (ah (ao 1) aF)))))
  gw 100000)
noncomputable def jI:FS:=(d5 (eY 2))
noncomputable def oy:FS:=(sSeq (bE 1 (jD (az (aH (.int 0)) a7)))
  (sSeq (bE 2 (jD a7))
  (sSeq (bE 3 (aH (.int 0)))
  (sSeq kM
  jI))))
noncomputable def eC:List D→Res R:=fBody 1 4 oy
noncomputable def gx:FS:=(z8 1 (aK 4) (ay cp (aj (ay GW (ao 1) (ao 2))) (aj (g9 (az (aK 3) a7)))))
noncomputable def kN:FS:=(lI (pq (c7 eC (ah (aj (ay D3 (ao 0) (aj (aH (.int 1))))) aF))) (g8 3 (aG (aw 2) (aG (aw 3) (aG (aw 4) cB))))
  gx)
noncomputable def jJ:FS:=(d5 (dv (d6 (aj (c7 dg (ah (ao 0) aF)))) [none,some 1] (aw 0) eS (ay GW (ao 1) (ao 0))))
noncomputable def oz:FS:=(sSeq (bE 1 (qq (aH (.int 0)) (g9 a7)))
  (sSeq kN
  jJ))
noncomputable def eD:List D→Res R:=fBody 1 4 oz
noncomputable def oA:FS:=(d5 (bg dy (ah (aj (dv (EY (iw 0) (EY (gm (aK 0)) (gq (aK 0)))) [none,some 1] (aw 0) eS (rH yS (ao 1) (ah (ao 0) aF)))) aF)))
noncomputable def eE:List D→Res R:=fBody 2 0 oA
noncomputable def kO:FS:=(d5 (dv (pq (c7 eD (ah (ao 0) aF))) [none,some 0] (aw 0) eS (c7 eE (ah (aj (ay D3 (ao 1) (aj (aH (.int 0))))) (ah (ao 0) aF)))))
noncomputable def cI:List D→Res R:=fBody 1 0 kO
noncomputable def iX:FS:=(sSeq (bE 2 (c7 kI (ah (aj (ay D3 (ao 1) (aj (aH (.int 2))))) (ah (aj (ay D3 (ao 1) (aj (aH (.int 1))))) aF))))
  (d5 (dv (pq (c7 cI (ah (ao 0) aF))) [none,some 1,some 2] (aw 0) eS (ay cp (aj (ay D3 (ao 1) (aj (aH (.int 0))))) (aj (c7 dB (ah (ao 2) (ah (ao 0) aF))))))))
noncomputable def cq:List D→Res R:=fBody 2 1 iX
noncomputable def gy:FS:=(sSeq (bE 6 (rH jm (aj (ay D3 (ao 0) (aj (aH (.int 0))))) (ah (ao 4) aF)))
  (Fs (LC (EA (ay Ht (aj (ay D3 (ao 2) (ao 3))) (aj (ay D3 (aj (ay D3 (ao 1) (aj (aH (.int 1))))) (ao 6))))) (EA (bR H0 (aj (ay D3 (ao 2) (ao 5))) (aj (ay cp (aj (ay o7 (aj (ay D3 (ao 2) (ao 3))) (aj (ay D3 (aj (ay D3 (ao 1) (aj (aH (.int 1))))) (ao 6))))) (aj (ay D3 (aj (ay D3 (ao 1) (aj (aH (.int 2))))) (ao 6))))))))
  (d5 (aH (.bl false)))
  cR))
noncomputable def iz:FS:=(lI (pq (ay D3 (ao 0) (aj (aH (.int 1))))) (g8 3 (aG (aw 3) (aG (aw 4) (aG (aw 5) cB))))
  gy)
noncomputable def jK:FS:=(d5 (aH (.bl true)))
noncomputable def oB:FS:=(sSeq (bE 2 (c7 cq (ah (ao 0) (ah (ao 1) aF))))
  (sSeq iz
  jK))
noncomputable def dC:List D→Res R:=fBody 2 5 oB
noncomputable def ia:FS:=(sSeq (Fs (EA (ay Ht (ao 1) (aj (bg kB (ah (ao 0) aF)))))
  (d5 (ay D3 (ao 0) (ao 1)))
  cR)
  (d5 (aH (.int 0))))
noncomputable def aE:List D→Res R:=fBody 2 0 ia
noncomputable def jL:FS:=(sSeq (bE 2 (ay cp (aj (ay eZ (ao 0) (aj (aH (.int 2147483647))))) (aj (ay lp (aj (aH (.int 48271))) (aj (ay cp (ao 1) (aj (aH (.int 1)))))))))
  (sSeq (bE 2 (ay eZ (aj (ay cp (aj (ay lp (ao 2) (ao 2))) (aj (ay lp (aj (aH (.int 69621))) (ao 1))))) (aj (aH (.int 2147483647)))))
  (d5 (ay eZ (aj (ay cp (aj (ay cp (aj (ay lp (ao 2) (ao 2))) (aj (ay lp (aj (aH (.int 16807))) (ao 1))))) (aj (aH (.int 1))))) (aj (aH (.int 2147483647)))))))
noncomputable def aR:List D→Res R:=fBody 2 1 jL
noncomputable def cW:FS:=(sSeq (bE 7 (vG (ao 2) o8 (iO (aK 3))))
  (sSeq (qZ 7 (aK 4) (ay eZ (aj (ay cp (aj (ay D3 (ao 7) (ao 4))) (ao 6))) (aj (aH (.int 26)))))
  (sSeq (Fs (EA (bR F1 (aj (ay eZ (aj (ay dw (ao 0) (aj (aH (.int 64))))) (aj (aH (.int 4))))) (aj (aH (.int 1)))))
  (bE 7 (vG (ao 2) o8 (iO (ay cp (ao 6) (aj (aH (.int 1)))))))
  cR)
  (ir (o9 5 (Cc tS (aj (aH (.str []))) (ah (aj (dv (EY (iw 7) (EY (gm (aK 7)) (gq (aK 7)))) [none,some 1] (aw 0) eS (ay D3 (ao 1) (ao 0)))) aF)))))))
noncomputable def ib:FS:=(lI (d6 (aj (aH (.int 5)))) (aw 6)
  cW)
noncomputable def gA:FS:=(sSeq (Fs (EA (bR Jt (aj (aH (.str [109,111,118,101,115]))) (ao 5)))
  (bE 5 (dv (EY (iw 5) (EY (gm (aK 5)) (gq (aK 5)))) [none] (aw 0) eS (ay cp (aj (aH (.str [115]))) (ao 0))))
  cR)
  (d5 (bg e7 (ah (ao 5) aF))))
noncomputable def jM:FS:=(sSeq (bE 1 (aH (.str [97,98,99,100,101,102,103,104,105,106,107,108,109,110,111,112,113,114,115,116,117,118,119,120,121,122])))
  (sSeq (bE 2 (dv (d6 (aj (aH (.int 8)))) [none,some 0] (aw 0) eS (ay eZ (aj (c7 aR (ah (ao 1) (ah (ao 0) aF)))) (aj (aH (.int 26))))))
  (sSeq (bE 3 (ay cp (aj (aH (.int 1))) (aj (ay eZ (ao 0) (aj (aH (.int 8)))))))
  (sSeq (bE 4 (ay eZ (aj (ay dw (ao 0) (aj (aH (.int 8))))) (ao 3)))
  (sSeq (bE 5 (jD a7))
  (sSeq ib
  gA))))))
noncomputable def cO:List D→Res R:=fBody 1 7 jM
noncomputable def cC:FS:=(sSeq (Fs (EA (ay Ht (ao 5) (aj (ay D3 (aj (ay D3 (ao 6) (aj (aH (.int 1))))) (ao 3)))))
  (d5 (aH .non))
  cR)
  (ir (o9 4 (ay cp (aj (ay o7 (ao 5) (aj (ay D3 (aj (ay D3 (ao 6) (aj (aH (.int 1))))) (ao 3))))) (aj (ay D3 (aj (ay D3 (ao 6) (aj (aH (.int 2))))) (ao 3)))))))
noncomputable def fK:FS:=(lI (qY (ah (aj (aK 1)) (ah (aj (ay D3 (ao 0) (aj (aH (.int 1))))) aF))) (g8 2 (aG (aw 5) (aG (aw 6) cB)))
  cC)
noncomputable def ic:FS:=(d5 (bg dy (ah (ao 4) aF)))
noncomputable def kP:FS:=(sSeq (bE 3 (rH jm (aj (ay D3 (ao 0) (aj (aH (.int 0))))) (ah (ao 2) aF)))
  (sSeq (bE 4 (jD a7))
  (sSeq fK
  ic)))
noncomputable def cJ:List D→Res R:=fBody 3 4 kP
noncomputable def cX:FS:=(sSeq (bE 6 (c7 cJ (ah (ao 0) (ah (aj (ay D3 (ao 2) (ao 4))) (ah (ao 5) aF)))))
  (Fs (EA (bR isnO (ao 6) (aj (aH .non))))
  (sSeq (Fs (EA (bR tP (ao 6) (ao 2)))
  (sSeq (Fs (EA (bR F1 (aj (bg kB (ah (ao 2) aF))) (ao 1)))
  (d5 (aH .non))
  cR)
  (ir (o9 2 (aK 6))))
  cR)
  (ir (o9 3 (g9 (az (aK 4) (az (aK 5) (az (Ak mE (ao 2) (ah (ao 6) aF)) a7)))))))
  cR))
noncomputable def gB:FS:=(lI (pq (ay D3 (ao 0) (aj (aH (.int 0))))) (aw 5)
  cX)
noncomputable def iY:FS:=(bE 4 (ay cp (ao 4) (aj (aH (.int 1)))))
noncomputable def cY:FS:=(sSeq gB
  iY)
noncomputable def gC:FS:=(cA (EA (ay Ht (ao 4) (aj (bg kB (ah (ao 2) aF)))))
  cY 100000)
noncomputable def iZ:FS:=(d5 (g9 (az (bg e7 (ah (ao 3) aF)) (az (aK 2) a7))))
noncomputable def lR:FS:=(sSeq (bE 2 (jD (az (bg dy (ah (aj (dv (pq (ay D3 (ao 0) (aj (aH (.int 1))))) [none,none,none] (g8 3 (aG (aw 0) (aG (aw 1) (aG (aw 2) cB)))) eS (aK 0))) aF)) a7)))
  (sSeq (bE 3 (jD a7))
  (sSeq (bE 4 (aH (.int 0)))
  (sSeq gC
  iZ))))
noncomputable def br:List D→Res R:=fBody 2 5 lR
noncomputable def e9:FS:=(bE 3 (c7 aR (ah (aj (ay cp (ao 4) (ao 3))) (ah (ao 2) aF))))
noncomputable def i0:FS:=(lI (pq (Cg (ao 0) (iO (ay cp (ao 1) (ao 2))) (iO (ay cp (ao 1) (aj (aH (.int 84))))) (iO (aH (.int 6))))) (aw 4)
  e9)
noncomputable def ie:FS:=(d5 (eY 3))
noncomputable def kQ:FS:=(sSeq (bE 3 (ay cp (aj (aH (.int 7))) (ao 2)))
  (sSeq i0
  ie))
noncomputable def dh:List D→Res R:=fBody 3 2 kQ
noncomputable def eF:FS:=(sSeq (bE 5 (c7 aR (ah (ao 0) (ah (ao 4) aF))))
  (sSeq (bE 6 (ay o7 (aj (ay eZ (ao 5) (aj (aH (.int 5))))) (aj (aH (.int 2)))))
  (sSeq (bE 7 (ay dw (aj (ay eZ (aj (ay dw (ao 5) (aj (aH (.int 8))))) (aj (aH (.int 4))))) (aj (aH (.int 3)))))
  (sSeq (ir (o9 2 (ay cp (aj (bg maxD (ah (aj (aH (.int 0))) (ah (aj (ay o7 (aj (aH (.int 0))) (ao 6))) aF)))) (ao 7))))
  (ir (o9 3 (ay cp (aj (bg maxD (ah (aj (aH (.int 0))) (ah (ao 6) aF)))) (ao 7))))))))
noncomputable def ig:FS:=(lI (d6 (ao 1)) (aw 4)
  eF)
noncomputable def gD:FS:=(d5 (yf (ay eZ (aj (ay dw (ao 0) (aj (aH (.int 16))))) (aj (aH (.int 4)))) (eY 2) (eY 3)))
noncomputable def jN:FS:=(sSeq (bE 2 (jD a7))
  (sSeq (bE 3 (jD a7))
  (sSeq ig
  gD)))
noncomputable def cP:List D→Res R:=fBody 2 6 jN
noncomputable def i4:FS:=(sSeq (bE 2 (ay cp (aj (aH (.int 1))) (aj (ay eZ (ao 1) (aj (ay vC (aj (aH (.int 10))) (aj (aH (.int 50)))))))))
  (sSeq (Bq (aK 0) (g8 3 (aG (aw 3) (aG (aw 4) (aG (aw 5) cB)))))
  (sSeq (bE 4 (bg dy (ah (aj (dv (EY (iw 4) (EY (gm (aK 4)) (gq (aK 4)))) [none,some 2] (aw 0) eS (ay lp (ao 1) (ao 0)))) aF)))
  (d5 (g9 (az (ay cp (aj (ay lp (ao 2) (ao 3))) (aj (ay eZ (aj (ay dw (ao 1) (aj (aH (.int 7))))) (ao 2)))) (az (aK 4) (az (bg dy (ah (aj (dv (EY (iw 5) (EY (gm (aK 5)) (gq (aK 5)))) [none,some 2] (aw 0) eS (ay lp (ao 1) (ao 0)))) aF)) a7))))))))
noncomputable def bY:List D→Res R:=fBody 2 4 i4
noncomputable def cD:FS:=(sSeq (bE 5 (c7 dh (ah (ao 0) (ah (ao 1) (ah (ao 4) aF)))))
  (sSeq (bE 6 (c7 cP (ah (ao 5) (ah (ao 2) aF))))
  (sSeq (ir (o9 3 (c7 bY (ah (ao 6) (ah (aj (c7 aE (ah (ao 0) (ah (aj (ay cp (ao 1) (ao 4))) aF)))) aF)))))
  (Fs (EA (ay Nq (aj (ay eZ (aj (ay dw (ao 5) (aj (aH (.int 64))))) (aj (aH (.int 3))))) (aj (aH (.int 0)))))
  (sSeq (bE 7 (g9 (az (ay eZ (aj (ay dw (ao 5) (aj (aH (.int 256))))) (aj (aH (.int 4)))) (az (ay D3 (aj (aK 6)) (aj (aH (.int 2)))) (az (ay D3 (aj (aK 6)) (aj (aH (.int 1)))) a7)))))
  (ir (o9 3 (c7 bY (ah (ao 7) (ah (aj (c7 aE (ah (ao 0) (ah (aj (ay cp (aj (ay cp (ao 1) (aj (aH (.int 6))))) (ao 4))) aF)))) aF))))))
  cR))))
noncomputable def gE:FS:=(lI (d6 (aj (ay cp (aj (aH (.int 1))) (aj (ay eZ (aj (ay dw (aj (c7 aE (ah (ao 0) (ah (aj (aH (.int 1))) aF)))) (aj (aH (.int 4))))) (aj (aH (.int 4)))))))) (aw 4)
  cD)
noncomputable def fV:FS:=(d5 (eY 3))
noncomputable def i5:FS:=(sSeq (bE 3 (jD a7))
  (sSeq gE
  fV))
noncomputable def cu:List D→Res R:=fBody 3 5 i5
noncomputable def jO:FS:=(sSeq (bE 1 (c7 cO (ah (aj (c7 aE (ah (ao 0) (ah (aj (aH (.int 0))) aF)))) aF)))
  (sSeq (bE 2 (c7 aE (ah (ao 0) (ah (aj (aH (.int 1))) aF))))
  (sSeq (bE 3 (ay cp (aj (aH (.int 1))) (aj (ay eZ (ao 2) (aj (aH (.int 3)))))))
  (sSeq (bE 4 (ay eZ (aj (ay dw (ao 2) (aj (aH (.int 32))))) (aj (ay o7 (aj (aH (.int 6))) (ao 3)))))
  (d5 (bg dy (ah (aj (vG (ao 1) (iO (aK 4)) (iO (ay cp (ao 4) (ao 3))))) aF)))))))
noncomputable def cQ:List D→Res R:=fBody 1 4 jO
noncomputable def lS:FS:=(sSeq (bE 2 (c7 cQ (ah (ao 0) aF)))
  (sSeq (bE 3 (bg kB (ah (ao 2) aF)))
  (sSeq (bE 4 (c7 cu (ah (ao 0) (ah (ao 1) (ah (ao 3) aF)))))
  (sSeq (Fs (EA (bR isnO (aj (c7 br (ah (aj (g9 (az (aK 2) (az (aK 4) a7)))) (ah (aj (aH (.int 8))) aF)))) (aj (aH .non))))
  (d5 (g9 (az (aK 2) (az (aK 4) a7))))
  cR)
  (sSeq (bE 5 (bg dy (ah (aj (dv (EY (iw 2) (EY (gm (aK 2)) (gq (aK 2)))) [none] (aw 0) eS (aH (.int 1)))) aF)))
  (sSeq (bE 6 (bg dy (ah (aj (dv (EY (iw 2) (EY (gm (aK 2)) (gq (aK 2)))) [none] (aw 0) eS (aH (.int 0)))) aF)))
  (sSeq (Fs (EA (bR isnO (aj (c7 br (ah (aj (g9 (az (aK 2) (az (ay cp (ao 4) (aj (jD (az (g9 (az (aH (.int 2)) (az (aK 5) (az (aK 6) a7)))) a7)))) a7)))) (ah (aj (aH (.int 8))) aF)))) (aj (aH .non))))
  (d5 (g9 (az (aK 2) (az (ay cp (ao 4) (aj (jD (az (g9 (az (aH (.int 2)) (az (aK 5) (az (aK 6) a7)))) a7)))) a7))))
  cR)
  (d5 (g9 (az (aK 2) (az (ay cp (ao 4) (aj (jD (az (g9 (az (aH (.int 1)) (az (aK 5) (az (aK 6) a7)))) a7)))) a7)))))))))))
noncomputable def di:List D→Res R:=fBody 2 5 lS
noncomputable def cE:FS:=(Fs (EA (bR Jt (ao 3) (ao 1)))
  (sSeq (bE 7 (g9 (az (Ak mE (ao 1) (ah (ao 3) aF)) (az (aK 4) (az (Ak mE (ao 1) (ah (ao 5) aF)) a7)))))
  (Fs (EA (bR tP (ao 7) (ao 6)))
  (ir (o9 6 (aK 7)))
  cR))
  cR)
noncomputable def gF:FS:=(lI (pq (aK 0)) (g8 3 (aG (aw 3) (aG (aw 4) (aG (aw 5) cB))))
  cE)
noncomputable def fW:FS:=(d5 (bg e7 (ah (ao 6) aF)))
noncomputable def cF:FS:=(Fs (zQ (EA (bR F1 (ao 3) (aj (ay D3 (ao 1) (ao 2))))) (EA (bR tP (ao 5) (ao 1))))
  (ir (o9 1 (aK 5)))
  cR)
noncomputable def gG:FS:=(lI (pq (bg e7 (ah (ao 0) aF))) (g8 3 (aG (aw 3) (aG (aw 4) (aG (aw 5) cB))))
  cF)
noncomputable def fX:FS:=(bE 2 (ay cp (ao 2) (aj (aH (.int 1)))))
noncomputable def dH:FS:=(sSeq gG
  fX)
noncomputable def eG:FS:=(cA (EA (ay Ht (ao 2) (aj (bg kB (ah (ao 1) aF)))))
  dH 100000)
noncomputable def fY:FS:=(sSeq (bE 6 (jD a7))
  (sSeq gF
  fW))
noncomputable def i6:FS:=(sSeq (bE 1 (jD (az (aH (.int 0)) a7)))
  (sSeq (bE 2 (aH (.int 0)))
  (sSeq eG
  fY)))
noncomputable def bZ:List D→Res R:=fBody 1 7 i6
noncomputable def kR:FS:=(sSeq (bE 3 (ay cp (aj (aH (.int 1))) (aj (bg maxD (ah (aj (ay cp (aj (jD (az (aH (.int 0)) a7))) (aj (dv (EY (iw 1) (EY (gm (aK 1)) (gq (aK 1)))) [none] (aw 0) eS (bg maxD (ah (aj (ay D3 (ao 0) (aj (aH (.int 0))))) (ah (aj (ay D3 (ao 0) (aj (aH (.int 2))))) aF))))))) aF)))))
  (sSeq (bE 4 (ay eZ (aj (ay dw (ao 2) (aj (aH (.int 128))))) (aj (bg Br (ah (aj (ay cp (ao 3) (aj (aH (.int 1))))) (ah (aj (aH (.int 12))) aF))))))
  (sSeq (bE 5 (ay D3 (ao 0) (aj (ay eZ (aj (ay dw (ao 2) (aj (aH (.int 2048))))) (aj (bg kB (ah (ao 0) aF)))))))
  (sSeq (Fs (LC (EA (bR F1 (ao 1) (aj (jD a7)))) (EA (bR F1 (aj (ay eZ (ao 2) (aj (aH (.int 5))))) (aj (aH (.int 3))))))
  (d5 (ay cp (ao 1) (aj (jD (az (g9 (az (ay eZ (aj (ay dw (ao 2) (aj (aH (.int 8))))) (ao 3)) (az (aK 5) (az (aK 4) a7)))) a7)))))
  cR)
  (sSeq (bE 6 (ay eZ (aj (ay dw (ao 2) (aj (aH (.int 16384))))) (aj (bg kB (ah (ao 1) aF)))))
  (sSeq (bE 7 (ay D3 (ao 1) (ao 6)))
  (sSeq (bE 8 (ay cp (aj (vG (ao 1) o8 (iO (aK 6)))) (aj (vG (ao 1) (iO (ay cp (ao 6) (aj (aH (.int 1))))) o8))))
  (sSeq (Fs (EA (bR F1 (aj (ay eZ (ao 2) (aj (aH (.int 5))))) (aj (aH (.int 0)))))
  (d5 (eY 8))
  cR)
  (sSeq (Fs (EA (bR F1 (aj (ay eZ (ao 2) (aj (aH (.int 5))))) (aj (aH (.int 1)))))
  (d5 (ay cp (ao 8) (aj (jD (az (g9 (az (ay D3 (ao 7) (aj (aH (.int 0)))) (az (ay D3 (ao 7) (aj (aH (.int 1)))) (az (aK 4) a7)))) a7)))))
  cR)
  (sSeq (Fs (LC (EA (bR F1 (aj (ay eZ (ao 2) (aj (aH (.int 5))))) (aj (aH (.int 2))))) (EA (bR F1 (ao 3) (aj (aH (.int 1))))))
  (d5 (ay cp (ao 8) (aj (jD (az (g9 (az (ay D3 (ao 7) (aj (aH (.int 0)))) (az (aK 5) (az (ay D3 (ao 7) (aj (aH (.int 2)))) a7)))) a7)))))
  cR)
  (sSeq (bE 9 (ay cp (aj (aH (.int 1))) (aj (ay eZ (aj (ay dw (ao 2) (aj (aH (.int 8))))) (aj (ay o7 (ao 3) (aj (aH (.int 1)))))))))
  (sSeq (bE 10 (dv (d6 (ao 3)) [none] (aw 0) eS (aK 0)))
  (sSeq (qZ 10 (aK 9) (ay eZ (ao 4) (ao 3)))
  (d5 (dv (EY (iw 1) (EY (gm (aK 1)) (gq (aK 1)))) [none,none,none,some 10] (g8 3 (aG (aw 0) (aG (aw 1) (aG (aw 2) cB)))) eS (g9 (az (ay D3 (ao 3) (ao 0)) (az (aK 1) (az (ay D3 (ao 3) (ao 2)) a7)))))))))))))))))))
noncomputable def dj:List D→Res R:=fBody 3 8 kR
noncomputable def cz:FS:=(sSeq (bE 5 (c7 aR (ah (aj (c7 aE (ah (ao 0) (ah (ao 4) aF)))) (ah (ao 4) aF))))
  (Fs (EA (bR F1 (aj (ay eZ (aj (ay dw (ao 5) (aj (aH (.int 64))))) (aj (aH (.int 3))))) (aj (aH (.int 0)))))
  (bE 3 (c7 bZ (ah (aj (c7 dj (ah (aj (ay D3 (ao 1) (aj (aH (.int 0))))) (ah (ao 3) (ah (aj (ay dw (ao 5) (aj (aH (.int 192))))) aF))))) aF)))
  cR))
noncomputable def eI:FS:=(lI (o6 (ah (ao 2) (ah (aj (ay cp (ao 2) (aj (aH (.int 3))))) aF))) (aw 4)
  cz)
noncomputable def dN:FS:=(d5 (g9 (az (ay D3 (ao 1) (aj (aH (.int 0)))) (az (c7 bZ (ah (ao 3) aF)) a7))))
noncomputable def fA:FS:=(sSeq (bE 3 (ay D3 (aj (c7 br (ah (ao 1) (ah (aj (aH (.int 8))) aF)))) (aj (aH (.int 0)))))
  (sSeq eI
  dN))
noncomputable def aW:List D→Res R:=fBody 3 3 fA
noncomputable def dI:FS:=(sSeq (bE 7 (ay D3 (ao 1) (aj (rH jm (aj (ay D3 (ao 0) (aj (aH (.int 0))))) (ah (ao 5) aF)))))
  (Fs (EA (bR H0 (aj (ay GW (ao 2) (ao 6))) (aj (ay cp (aj (ay GW (ao 2) (ao 4))) (ao 7)))))
  (d5 (aH .non))
  cR))
noncomputable def eJ:FS:=(lI (pq (ay D3 (ao 0) (aj (aH (.int 1))))) (g8 3 (aG (aw 4) (aG (aw 5) (aG (aw 6) cB))))
  dI)
noncomputable def fZ:FS:=(d5 (dv (d6 (aj (bg kB (ah (ao 2) aF)))) [none,some 2] (aw 0) eS (ay GW (ao 1) (ao 0))))
noncomputable def cG:FS:=(sSeq (bE 7 (ay D3 (ao 1) (aj (rH jm (aj (ay D3 (ao 0) (aj (aH (.int 0))))) (ah (ao 5) aF)))))
  (Fs (zQ (EA (bR Jt (ao 4) (ao 2))) (EA (bR tP (ao 6) (ao 2))))
  (sSeq (z8 2 (aK 6) (ay cp (aj (ay GW (ao 2) (ao 4))) (ao 7)))
  (bE 3 (aH (.bl true))))
  cR))
noncomputable def gH:FS:=(lI (pq (ay D3 (ao 0) (aj (aH (.int 1))))) (g8 3 (aG (aw 4) (aG (aw 5) (aG (aw 6) cB))))
  cG)
noncomputable def dJ:FS:=(sSeq (bE 3 (aH (.bl false)))
  gH)
noncomputable def gI:FS:=(cA (EA (aK 3))
  dJ 100000)
noncomputable def f6:FS:=(sSeq eJ
  fZ)
noncomputable def i7:FS:=(sSeq (bE 2 (qq (aH (.int 0)) (aH (.int 0))))
  (sSeq (bE 3 (aH (.bl true)))
  (sSeq gI
  f6)))
noncomputable def cv:List D→Res R:=fBody 2 6 i7
noncomputable def fL:FS:=(Fs (EA (ay Ht (aj (ay cp (aj (ay D3 (ao 1) (aj (aH (.int 0))))) (aj (ay D3 (ao 3) (ao 4))))) (aj (ay D3 (aj (ay D3 (ao 1) (aj (aH (.int 1))))) (aj (rH jm (aj (ay D3 (ao 0) (aj (aH (.int 0))))) (ah (ao 5) aF)))))))
  (d5 (aH (.bl false)))
  cR)
noncomputable def gJ:FS:=(lI (pq (ay D3 (ao 0) (aj (aH (.int 1))))) (g8 3 (aG (aw 4) (aG (aw 5) (aG (aw 6) cB))))
  fL)
noncomputable def i8:FS:=(d5 (aH (.bl true)))
noncomputable def lT:FS:=(sSeq (bE 2 (dv (d6 (aj (bg kB (ah (aj (ay D3 (ao 0) (aj (aH (.int 0))))) aF)))) [none,some 1] (aw 0) eS (ay o7 (aj (ay D3 (aj (ay D3 (ao 1) (aj (aH (.int 2))))) (ao 0))) (aj (ay D3 (aj (ay D3 (ao 1) (aj (aH (.int 1))))) (ao 0))))))
  (sSeq (bE 3 (c7 cv (ah (ao 0) (ah (ao 2) aF))))
  (sSeq (Fs (EA (bR Kq (ao 3) (aj (aH .non))))
  (d5 (aH (.bl false)))
  cR)
  (sSeq gJ
  i8))))
noncomputable def dQ:List D→Res R:=fBody 2 5 lT
noncomputable def jP:FS:=(sSeq (bE 3 (ay eZ (ao 1) (aj (ay cp (aj (aH (.int 1))) (aj (ay lp (aj (aH (.int 2))) (aj (bg kB (ah (aj (ay D3 (ao 0) (aj (aH (.int 1))))) aF)))))))))
  (sSeq (bE 4 (ay D3 (aj (jD (az (aH (.int 1)) (az (Cd (aj (aH (.int 1)))) (az (ay eZ (ao 2) (aj (ay vC (aj (aH (.int 10))) (aj (aH (.int 50)))))) (az (ay o7 (aj (aH (.int 0))) (aj (ay eZ (ao 2) (aj (ay vC (aj (aH (.int 10))) (aj (aH (.int 50)))))))) a7)))))) (aj (ay eZ (aj (ay dw (ao 1) (aj (aH (.int 16))))) (aj (aH (.int 4)))))))
  (sSeq (bE 5 (ay cp (aj (ay cp (aj (jD (az (ay D3 (ao 0) (aj (aH (.int 0)))) a7))) (aj (bg nW (ah (aj (ay D3 (ao 0) (aj (aH (.int 1))))) aF))))) (aj (bg nW (ah (aj (ay D3 (ao 0) (aj (aH (.int 2))))) aF)))))
  (sSeq (qZ 5 (aK 3) (bg maxD (ah (aj (aH (.int 0))) (ah (aj (ay cp (aj (ay D3 (ao 5) (ao 3))) (ao 4))) aF))))
  (sSeq (bE 6 (bg kB (ah (aj (ay D3 (ao 0) (aj (aH (.int 1))))) aF)))
  (d5 (g9 (az (ay D3 (ao 5) (aj (aH (.int 0)))) (az (bg dy (ah (aj (vG (ao 5) (iO (aH (.int 1))) (iO (ay cp (aj (aH (.int 1))) (ao 6))))) aF)) (az (bg dy (ah (aj (vG (ao 5) (iO (ay cp (aj (aH (.int 1))) (ao 6))) o8)) aF)) a7))))))))))
noncomputable def m__law_other:List D→Res R:=fBody 3 4 jP
noncomputable def mF:FS:=(sSeq (bE 10 (c7 dC (ah (ao 4) (ah (ao 9) aF))))
  (Fs (LC (B3 (EA (Oe "bool" (ao 10)))) (EA (bR H0 (ao 10) (aj (c7 dQ (ah (ao 3) (ah (ao 9) aF)))))))
  (d5 (aH (.bl false)))
  cR))
noncomputable def tX:FS:=(lI (pq (jD (az (aK 6) (az (aK 8) a7)))) (aw 9)
  mF)
noncomputable def j4:FS:=(sSeq (bE 6 (ay D3 (aj (ay D3 (ao 1) (aj (aH (.int 1))))) (ao 5)))
  (sSeq (bE 7 (c7 aR (ah (aj (c7 aE (ah (ao 0) (ah (aj (ay cp (aj (aH (.int 2))) (ao 5))) aF)))) (ah (aj (aH (.int 21))) aF))))
  (sSeq (Fs (EA (bR isnO (aj (c7 dC (ah (aj (g9 (az (ay D3 (ao 1) (aj (aH (.int 0)))) (az (bg nW (ah (ao 2) aF)) a7)))) (ah (ao 6) aF)))) (aj (aH (.bl true)))))
  (d5 (aH (.bl false)))
  cR)
  (sSeq (bE 8 (c7 m__law_other (ah (ao 6) (ah (ao 7) (ah (aj (c7 aE (ah (ao 0) (ah (aj (ay cp (aj (aH (.int 11))) (ao 5))) aF)))) aF)))))
  tX))))
noncomputable def tY:FS:=(lI (d6 (aj (bg kB (ah (aj (ay D3 (ao 1) (aj (aH (.int 1))))) aF)))) (aw 5)
  j4)
noncomputable def qv:FS:=(d5 (bR F1 (ao 4) (ao 3)))
noncomputable def Ao:FS:=(sSeq (bE 1 (c7 di (ah (ao 0) (ah (aj (aH (.int 5))) aF))))
  (sSeq (bE 2 (ay D3 (aj (c7 br (ah (ao 1) (ah (aj (aH (.int 8))) aF)))) (aj (aH (.int 0)))))
  (sSeq (bE 3 (g9 (az (ay D3 (ao 1) (aj (aH (.int 0)))) (az (aK 2) a7))))
  (sSeq (Fs (EA (bR F1 (aj (ay eZ (aj (ay dw (aj (c7 aE (ah (ao 0) (ah (aj (aH (.int 1))) aF)))) (aj (aH (.int 256))))) (aj (aH (.int 2))))) (aj (aH (.int 1)))))
  (bE 3 (c7 aW (ah (ao 0) (ah (ao 1) (ah (aj (aH (.int 2))) aF)))))
  cR)
  (sSeq (bE 4 (g9 (az (ay D3 (ao 3) (aj (aH (.int 0)))) (az (bg nW (ah (aj (ay D3 (ao 3) (aj (aH (.int 1))))) aF)) a7))))
  (sSeq tY
  qv))))))
noncomputable def yh:List D→Res R:=fBody 1 10 Ao
end LW
namespace LW
open PySem PySem.Spec PyProof.Rows L2 NX PV
theorem yi {α:Type} {Q:List α→Prop} (h:∀ a,Q [a]):∀ us,us.length=1→Q us
 | [a],_=>h a
theorem q5 {α:Type} {Q:List α→Prop} (h:∀ a b,Q [a,b]):∀ us,us.length=2→Q us
 | [a,b],_=>h a b
theorem yT {α:Type} {Q:List α→Prop} (h:∀ a b c,Q [a,b,c]):∀ us,us.length=3→Q us
 | [a,b,c],_=>h a b c
theorem eK {X:Cx} {tg e:Expr} {f:FX} (h:QE X e f):QI X tg e (EY (zT f) (EY (gm f) (gq f))):=tF (xP h) (tF (hX h) (hZ h))
noncomputable def top (i:Nat):Stmt:=PySem.Challenge.pw_netfinder_k50_places_that_let_go.main.body.getD i (.Pass ⟨0,0,0,0⟩)
theorem DI:Str.ofString "moves" = S [109,111,118,101,115]:=by decide +kernel
theorem DJ:Str.ofString "s" = S [115]:=by decide +kernel
theorem DK:Str.ofString "" = S []:=by decide +kernel
theorem DL:Str.ofString "abcdefghijklmnopqrstuvwxyz" = S [97,98,99,100,101,102,103,104,105,106,107,108,109,110,111,112,113,114,115,116,117,118,119,120,121,122]:=by decide +kernel
section
variable {P:Program} {w:World} {K:W.Frag} {mg:Str→Option Value} {base:Heap}
abbrev kS:Stmt:=top 1
theorem rg:FnScope ["one","other"] ["one","other"] (defScope kS):=fs
theorem rh (Df:Def K mg "product" kS) (GX:mg "sum" = none) (FD:mg "zip" = none):Ct P w K mg base "product" 1 (spF K dB):=
 du Df rg (fun _ _ _ _ _ _=>q5 fun _ _=>rfl) fun f Ej A outer s H E hr=>
  (ax (aV (aU (zZ rfl) (by rfl) GX Ae (af (aa (bM [none,none] ["number","factor"] rfl (bL (ph (by rfl) FD (af (aa (aA (pv 0))) (af (aa (aA (pv 1))) aq)))) (fun _ _ _ _ _=>(have h:=(show List.Nodup (["number","factor"]:List Str) from by decide +kernel);(eR rfl (aM (aD (i:=0) h rfl (lo rfl)) (aM (aD (i:=1) h rfl (lo rfl)) cT))))) (fun _ _ _ _ _=>bQ) (fun _ _ _ _ _=>(aB e8 (ae (pv 0)) (ae (pv 1)))))) aq))))
abbrev tZ:Stmt:=top 2
theorem yj:FnScope ["row","other"] ["row","other"] (defScope tZ):=fs
theorem yk (Df:Def K mg "less" tZ) (D4:mg "tuple" = none) (FD:mg "zip" = none):Ct P w K mg base "less" 1 (spF K kI):=
 du Df yj (fun _ _ _ _ _ _=>q5 fun _ _=>rfl) fun f Ej A outer s H E hr=>
  (ax (aV (bD cV (by rfl) D4 cS (af (aa (bM [none,none] ["number","taken"] rfl (bL (ph (by rfl) FD (af (aa (aA (pv 0))) (af (aa (aA (pv 1))) aq)))) (fun _ _ _ _ _=>(have h:=(show List.Nodup (["number","taken"]:List Str) from by decide +kernel);(eR rfl (aM (aD (i:=0) h rfl (lo rfl)) (aM (aD (i:=1) h rfl (lo rfl)) cT))))) (fun _ _ _ _ _=>bQ) (fun _ _ _ _ _=>(aB iN (ae (pv 0)) (ae (pv 1)))))) aq))))
abbrev iA:Stmt:=top 4
theorem oC:FnScope ["chart"] ["chart"] (defScope iA):=fs
theorem oD (Df:Def K mg "states_of" iA) (EJ:mg "max" = none):Ct P w K mg base "states_of" 1 (spF K dg):=
 du Df oC (fun _ _ _ _ _ _=>yi fun _=>rfl) fun f Ej A outer s H E hr=>
  (ax (aV (aB aJ (aa ai) (aa (xW rfl (by rfl) EJ (bM [none,none,none] ["first","move","second"] rfl (bL (eK (aO (ae (pv 0)) (aa ai)))) (fun _ _ _ _ _=>(have h:=(show List.Nodup (["first","move","second"]:List Str) from by decide +kernel);(eR rfl (aM (aD (i:=0) h rfl (lo rfl)) (aM (aD (i:=1) h rfl (lo rfl)) (aM (aD (i:=2) h rfl (lo rfl)) cT)))))) (fun _ _ _ _ _=>bQ) (fun _ _ _ _ _=>(aU (lM rfl) (by rfl) EJ lO (af (ae (pv 0)) (af (ae (pv 2)) aq))))) ai)))))
abbrev kU:Stmt:=top 5
theorem dR:FnScope ["arcs","met","tree","looked_at","arc"] ["arcs"] (defScope kU):=fs
theorem rj (Df:Def K mg "tree_of" kU) (Ed:mg "len" = none):Ct P w K mg base "tree_of" 1 (spF K eC):=
 du Df dR (fun _ _ _ _ _ _=>yi fun _=>rfl) fun f Ej A outer s H E hr=>
  (ag (aI (i:=1) dR.nd rfl (lo rfl) (cx (au ai aN)))
  (ag (aI (i:=2) dR.nd rfl (lo rfl) (cx aN))
  (ag (aI (i:=3) dR.nd rfl (lo rfl) ai)
  (ag (j3 100000 PassesOwn.never (jA (kA hr.units0) (ae (pv 3)) (aa (aU df (by rfl) Ed bt_len (af (ae (pv 1)) aq))) (bJ _))
  (ag (dt PassesOwn.never rfl (eK (aA (pv 0))) (aD (i:=4) dR.nd rfl (lo rfl))
  (ax (de (QW.qt (sV (aY (jk hr.units) (aa (aO (ae (pv 4)) (aa ai))) (aa (aO (ae (pv 1)) (ae (pv 3)))) (bJ _)) (o4 (aY (kH hr.u65) (aa (aO (ae (pv 4)) (aa ai))) (ae (pv 1)) (by with_unfolding_all rfl)))))
  (ag (dF (b7 (pv 1) (aO (ae (pv 4)) (aa ai))))
  (ax (dF (b7 (pv 2) (aA (pv 4))))))
  ba)))
  (ax (aI (i:=3) dR.nd rfl (lo rfl) (aB aJ (ae (pv 3)) (aa ai))))))
  (ax (aV (jh (pv 2))))))))
abbrev kW:Stmt:=top 7
theorem fB:FnScope ["chart","ways","first","move","second"] ["chart"] (defScope kW):=fs
theorem rl (Df:Def K mg "ways_of" kW) (GY:Ct P w K mg base "states_of" 1 (spF K dg)) (Ia:Ct P w K mg base "tree_of" 1 (spF K eC)) (D5:mg "range" = none):Ct P w K mg base "ways_of" 2 (spF K eD):=
 du Df fB (fun _ _ _ _ _ _=>yi fun _=>rfl) fun f Ej A outer s H E hr=>
  (ag (aI (i:=1) fB.nd rfl (lo rfl) (qr ai (cj aN)))
  (ag (dt PassesOwn.never rfl (eK (aT Ia hr.m (by rfl) (af (aa (aO (ae (pv 0)) (aa ai))) aq))) (eR rfl (aM (aD (i:=2) fB.nd rfl (lo rfl)) (aM (aD (i:=3) fB.nd rfl (lo rfl)) (aM (aD (i:=4) fB.nd rfl (lo rfl)) cT))))
  (ax (wD (hu_of hr) (pv 1) (aA (pv 4)) (aB aJ (aa (q0 (hu_of hr) (ae (pv 1)) (ae (pv 2)))) (aa (cj (au (aA (pv 3)) aN)))))))
  (ax (aV (bM [none,some 1] ["state","ways"] rfl (bL (cU (by rfl) D5 (aa (aT GY hr.m (by rfl) (af (ae (pv 0)) aq))))) (fun _ _ _ _ _=>(aD (i:=0) (show List.Nodup (["state","ways"]:List Str) from by decide +kernel) rfl (lo rfl))) (fun _ _ _ _ _=>bQ) (fun _ _ _ _ _=>(q0 (hu_of hr) (ae (pv 1)) (ae (pv 0)))))))))
abbrev kX:Stmt:=top 8
theorem rp:FnScope ["moves","way"] ["moves","way"] (defScope kX):=fs
theorem rq (Df:Def K mg "counted" kX) (D4:mg "tuple" = none):Ct P w K mg base "counted" 1 (spF K eE):=
 du Df rp (fun _ _ _ _ _ _=>q5 fun _ _=>rfl) fun f Ej A outer s H E hr=>
  (ax (aV (bD cV (by rfl) D4 cS (af (aa (bM [none,some 1] ["move","way"] rfl (c9 (fJ (pv 0)) (c9 (bL (hX (aA (pv 0)))) (bL (hZ (aA (pv 0)))))) (fun _ _ _ _ _=>(aD (i:=0) (show List.Nodup (["move","way"]:List Str) from by decide +kernel) rfl (lo rfl))) (fun _ _ _ _ _=>bQ) (fun _ _ _ _ _=>(lP PySem.F.slot_tuple_count PySem.F.type_tuple_count pg (ae (pv 1)) (af (ae (pv 0)) aq))))) aq))))
abbrev iC:Stmt:=top 9
theorem oE:FnScope ["chart"] ["chart"] (defScope iC):=fs
theorem oF (Df:Def K mg "counts_of" iC) (Ib:Ct P w K mg base "counted" 1 (spF K eE)) (Ic:Ct P w K mg base "ways_of" 2 (spF K eD)):Ct P w K mg base "counts_of" 3 (spF K cI):=
 du Df oE (fun _ _ _ _ _ _=>yi fun _=>rfl) fun f Ej A outer s H E hr=>
  (ax (aV (bM [none,some 0] ["way","chart"] rfl (bL (eK (aT Ic hr.m (by rfl) (af (ae (pv 0)) aq)))) (fun _ _ _ _ _=>(aD (i:=0) (show List.Nodup (["way","chart"]:List Str) from by decide +kernel) rfl (lo rfl))) (fun _ _ _ _ _=>bQ) (fun _ _ _ _ _=>(aT Ib hr.m (by rfl) (af (aa (aO (ae (pv 1)) (aa ai))) (af (ae (pv 0)) aq)))))))
abbrev fM:Stmt:=top 11
theorem ij:FnScope ["chart","place","added"] ["chart","place"] (defScope fM):=fs
theorem ly (Df:Def K mg "place_beads" fM) (GZ:Ct P w K mg base "counts_of" 3 (spF K cI)) (K1:Ct P w K mg base "less" 1 (spF K kI)) (Ie:Ct P w K mg base "product" 1 (spF K dB)):Ct P w K mg base "place_beads" 4 (spF K cq):=
 du Df ij (fun _ _ _ _ _ _=>q5 fun _ _=>rfl) fun f Ej A outer s H E hr=>
  (ag (aI (i:=2) ij.nd rfl (lo rfl) (aT K1 hr.m (by rfl) (af (aa (aO (ae (pv 1)) (aa ai))) (af (aa (aO (ae (pv 1)) (aa ai))) aq))))
  (ax (aV (bM [none,some 1,some 2] ["counts","place","added"] rfl (bL (eK (aT GZ hr.m (by rfl) (af (ae (pv 0)) aq)))) (fun _ _ _ _ _=>(aD (i:=0) (show List.Nodup (["counts","place","added"]:List Str) from by decide +kernel) rfl (lo rfl))) (fun _ _ _ _ _=>bQ) (fun _ _ _ _ _=>(aB aJ (aa (aO (ae (pv 1)) (aa ai))) (aa (aT Ie hr.m (by rfl) (af (ae (pv 2)) (af (ae (pv 0)) aq))))))))))
abbrev kY:Stmt:=top 12
theorem dS:FnScope ["chart","place","beads","first","move","second","at"] ["chart","place"] (defScope kY):=fs
theorem rA (Df:Def K mg "lets_go" kY) (Gk:Ct P w K mg base "place_beads" 4 (spF K cq)):Ct P w K mg base "lets_go" 5 (spF K dC):=
 du Df dS (fun _ _ _ _ _ _=>q5 fun _ _=>rfl) fun f Ej A outer s H E hr=>
  (ag (aI (i:=2) dS.nd rfl (lo rfl) (aT Gk hr.m (by rfl) (af (ae (pv 0)) (af (ae (pv 1)) aq))))
  (ag (dt PassesOwn.never rfl (eK (aO (ae (pv 0)) (aa ai))) (eR rfl (aM (aD (i:=3) dS.nd rfl (lo rfl)) (aM (aD (i:=4) dS.nd rfl (lo rfl)) (aM (aD (i:=5) dS.nd rfl (lo rfl)) cT))))
  (ag (aI (i:=6) dS.nd rfl (lo rfl) (lP PySem.F.slot_tuple_index PySem.F.type_tuple_index eB (aa (aO (ae (pv 0)) (aa ai))) (af (ae (pv 4)) aq)))
  (ax (de (QW.qt (vz (jA (kA hr.units0) (aa (aO (ae (pv 2)) (ae (pv 3)))) (aa (aO (aa (aO (ae (pv 1)) (aa ai))) (ae (pv 6)))) (bJ _)) (qc (aY (xU hr.units) (aa (aO (ae (pv 2)) (ae (pv 5)))) (aa (aB aJ (aa (aB iN (aa (aO (ae (pv 2)) (ae (pv 3)))) (aa (aO (aa (aO (ae (pv 1)) (aa ai))) (ae (pv 6)))))) (aa (aO (aa (aO (ae (pv 1)) (aa ai))) (ae (pv 6)))))) (bJ _)))))
  (ax (aV ki))
  ba))))
  (ax (aV ki))))
abbrev fe:Stmt:=top 14
theorem kZ:FnScope ["_law_script","_law_k"] ["_law_script","_law_k"] (defScope fe):=fs
theorem k4 (Df:Def K mg "_law_cell_at" fe) (Ed:mg "len" = none):Ct P w K mg base "_law_cell_at" 1 (spF K aE):=
 du Df kZ (fun _ _ _ _ _ _=>q5 fun _ _=>rfl) fun f Ej A outer s H E hr=>
  (ag (de (jA (kA hr.units0) (ae (pv 1)) (aa (aU df (by rfl) Ed bt_len (af (ae (pv 0)) aq))) (bJ _))
  (ax (aV (aO (ae (pv 0)) (ae (pv 1)))))
  ba)
  (ax (aV ai)))
abbrev gK:Stmt:=top 15
theorem fN:FnScope ["_law_cell","_law_k","_law_number"] ["_law_cell","_law_k"] (defScope gK):=fs
theorem mG (Df:Def K mg "_law_mixed" gK):Ct P w K mg base "_law_mixed" 1 (spF K aR):=
 du Df fN (fun _ _ _ _ _ _=>q5 fun _ _=>rfl) fun f Ej A outer s H E hr=>
  (ag (aI (i:=2) fN.nd rfl (lo rfl) (aB aJ (aa (aB bq (ae (pv 0)) (aa ai))) (aa (aB e8 (aa ai) (aa (aB aJ (ae (pv 1)) (aa ai)))))))
  (ag (aI (i:=2) fN.nd rfl (lo rfl) (aB bq (aa (aB aJ (aa (aB e8 (ae (pv 2)) (ae (pv 2)))) (aa (aB e8 (aa ai) (ae (pv 1)))))) (aa ai)))
  (ax (aV (aB bq (aa (aB aJ (aa (aB aJ (aa (aB e8 (ae (pv 2)) (ae (pv 2)))) (aa (aB e8 (aa ai) (ae (pv 1)))))) (aa ai))) (aa ai))))))
abbrev gL:Stmt:=top 16
theorem bh:FnScope ["_law_cell","_law_letters","_law_base","_law_width","_law_spot","_law_names_here","_law_k","_law_moved_on"] ["_law_cell"] (defScope gL):=fs
theorem mH (Df:Def K mg "_law_names" gL) (D7:Ct P w K mg base "_law_mixed" 1 (spF K aR)) (D5:mg "range" = none) (El:mg "sorted" = none):Ct P w K mg base "_law_names" 2 (spF K cO):=
 du Df bh (fun _ _ _ _ _ _=>yi fun _=>rfl) fun f Ej A outer s H E hr=>
  (ag (aI (i:=1) bh.nd rfl (lo rfl) (qb DL (by decide)))
  (ag (mD (i:=2) [none,some 0] ["_law_j","_law_cell"] bh.nd rfl (lo rfl) rfl (bL (cU (by rfl) D5 (aa ai))) (fun _ _ _ _ _=>(aD (i:=0) (show List.Nodup (["_law_j","_law_cell"]:List Str) from by decide +kernel) rfl (lo rfl))) (fun _ _ _ _ _=>bQ) (fun _ _ _ _ _=>(aB bq (aa (aT D7 hr.m (by rfl) (af (ae (pv 1)) (af (ae (pv 0)) aq)))) (aa ai))))
  (ag (aI (i:=3) bh.nd rfl (lo rfl) (aB aJ (aa ai) (aa (aB bq (ae (pv 0)) (aa ai)))))
  (ag (aI (i:=4) bh.nd rfl (lo rfl) (aB bq (aa (aB bX (ae (pv 0)) (aa ai))) (ae (pv 3))))
  (ag (aI (i:=5) bh.nd rfl (lo rfl) (cx aN))
  (ag (dt PassesOwn.never rfl (cU (by rfl) D5 (aa ai)) (aD (i:=6) bh.nd rfl (lo rfl))
  (ag (aI (i:=7) bh.nd rfl (lo rfl) (kC (ae (pv 2)) km (dG (aA (pv 3)))))
  (ag (pj (pv 7) (aA (pv 4)) (aB bq (aa (aB aJ (aa (aO (ae (pv 7)) (ae (pv 4)))) (ae (pv 6)))) (aa ai)))
  (ag (de (aY (jk hr.units) (aa (aB bq (aa (aB bX (ae (pv 0)) (aa ai))) (aa ai))) (aa ai) (bJ _))
  (ax (aI (i:=7) bh.nd rfl (lo rfl) (kC (ae (pv 2)) km (dG (aB aJ (ae (pv 6)) (aa ai))))))
  ba)
  (ax (dF (b7 (pv 5) (Aa PySem.F.slot_str_join PySem.F.type_str_join yc (aa (qb DK (by decide))) (af (aa (bM [none,some 1] ["_law_j","_law_letters"] rfl (c9 (fJ (pv 7)) (c9 (bL (hX (aA (pv 7)))) (bL (hZ (aA (pv 7)))))) (fun _ _ _ _ _=>(aD (i:=0) (show List.Nodup (["_law_j","_law_letters"]:List Str) from by decide +kernel) rfl (lo rfl))) (fun _ _ _ _ _=>bQ) (fun _ _ _ _ _=>(aO (ae (pv 1)) (ae (pv 0)))))) aq)))))))))
  (ag (de (aY (tR hr.u65) (aa (qb DI (by decide))) (ae (pv 5)) (by with_unfolding_all rfl))
  (ax (mD (i:=5) [none] ["_law_name"] bh.nd rfl (lo rfl) rfl (c9 (fJ (pv 5)) (c9 (bL (hX (aA (pv 5)))) (bL (hZ (aA (pv 5)))))) (fun _ _ _ _ _=>(aD (i:=0) (show List.Nodup (["_law_name"]:List Str) from by decide +kernel) rfl (lo rfl))) (fun _ _ _ _ _=>bQ) (fun _ _ _ _ _=>(aB aJ (aa (qb DJ (by decide))) (ae (pv 0))))))
  ba)
  (ax (aV (aU (iU rfl) (by rfl) El iV (af (ae (pv 5)) aq)))))))))))
abbrev iE:Stmt:=top 17
theorem dD:FnScope ["_law_net_here","_law_marking","_law_move","_law_k","_law_after","_law_beads","_law_place_here"] ["_law_net_here","_law_marking","_law_move"] (defScope iE):=fs
theorem oG (Df:Def K mg "_law_step" iE) (D4:mg "tuple" = none) (FD:mg "zip" = none):Ct P w K mg base "_law_step" 1 (spF K cJ):=
 du Df dD (fun _ _ _ _ _ _=>yT fun _ _ _=>rfl) fun f Ej A outer s H E hr=>
  (ag (aI (i:=3) dD.nd rfl (lo rfl) (lP PySem.F.slot_tuple_index PySem.F.type_tuple_index eB (aa (aO (ae (pv 0)) (aa ai))) (af (ae (pv 2)) aq)))
  (ag (aI (i:=4) dD.nd rfl (lo rfl) (cx aN))
  (ag (dt PassesOwn.never rfl (ph (by rfl) FD (af (aa (aA (pv 1))) (af (aa (aO (ae (pv 0)) (aa ai))) aq))) (eR rfl (aM (aD (i:=5) dD.nd rfl (lo rfl)) (aM (aD (i:=6) dD.nd rfl (lo rfl)) cT)))
  (ag (de (jA (kA hr.units0) (ae (pv 5)) (aa (aO (aa (aO (ae (pv 6)) (aa ai))) (ae (pv 3)))) (bJ _))
  (ax (aV kj))
  ba)
  (ax (dF (b7 (pv 4) (aB aJ (aa (aB iN (ae (pv 5)) (aa (aO (aa (aO (ae (pv 6)) (aa ai))) (ae (pv 3)))))) (aa (aO (aa (aO (ae (pv 6)) (aa ai))) (ae (pv 3))))))))))
  (ax (aV (bD cV (by rfl) D4 cS (af (ae (pv 4)) aq)))))))
abbrev jo:Stmt:=top 18
theorem cK:FnScope ["_law_net_here","_law_most","_law_markings","_law_arcs","_law_done","_law_move","_law_after"] ["_law_net_here","_law_most"] (defScope jo):=fs
theorem pw (Df:Def K mg "_law_run" jo) (G0:Ct P w K mg base "_law_step" 1 (spF K cJ)) (Ed:mg "len" = none) (El:mg "sorted" = none) (D4:mg "tuple" = none):Ct P w K mg base "_law_run" 2 (spF K br):=
 du Df cK (fun _ _ _ _ _ _=>q5 fun _ _=>rfl) fun f Ej A outer s H E hr=>
  (ag (aI (i:=2) cK.nd rfl (lo rfl) (cx (au (bD cV (by rfl) D4 cS (af (aa (bM [none,none,none] ["_law_beads","_law_takes","_law_gives"] rfl (bL (eK (aO (ae (pv 0)) (aa ai)))) (fun _ _ _ _ _=>(have h:=(show List.Nodup (["_law_beads","_law_takes","_law_gives"]:List Str) from by decide +kernel);(eR rfl (aM (aD (i:=0) h rfl (lo rfl)) (aM (aD (i:=1) h rfl (lo rfl)) (aM (aD (i:=2) h rfl (lo rfl)) cT)))))) (fun _ _ _ _ _=>bQ) (fun _ _ _ _ _=>(aA (pv 0))))) aq)) aN)))
  (ag (aI (i:=3) cK.nd rfl (lo rfl) (cx aN))
  (ag (aI (i:=4) cK.nd rfl (lo rfl) ai)
  (ag (j3 100000 PassesOwn.never (jA (kA hr.units0) (ae (pv 4)) (aa (aU df (by rfl) Ed bt_len (af (ae (pv 2)) aq))) (bJ _))
  (ag (dt PassesOwn.never rfl (eK (aO (ae (pv 0)) (aa ai))) (aD (i:=5) cK.nd rfl (lo rfl))
  (ag (aI (i:=6) cK.nd rfl (lo rfl) (aT G0 hr.m (by rfl) (af (ae (pv 0)) (af (aa (aO (ae (pv 2)) (ae (pv 4)))) (af (ae (pv 5)) aq)))))
  (ax (de (aY qk (ae (pv 6)) (aa kj) (bJ _))
  (ag (de (aY (kH hr.u65) (ae (pv 6)) (ae (pv 2)) (by with_unfolding_all rfl))
  (ag (de (aY (jk hr.units) (aa (aU df (by rfl) Ed bt_len (af (ae (pv 2)) aq))) (ae (pv 1)) (bJ _))
  (ax (aV kj))
  ba)
  (ax (dF (b7 (pv 2) (aA (pv 6))))))
  ba)
  (ax (dF (b7 (pv 3) (cj (au (aA (pv 4)) (au (aA (pv 5)) (au (tV PySem.F.slot_list_index PySem.F.type_list_index (iy hr.u65) (ae (pv 2)) (af (ae (pv 6)) aq)) aN))))))))
  ba))))
  (ax (aI (i:=4) cK.nd rfl (lo rfl) (aB aJ (ae (pv 4)) (aa ai))))))
  (ax (aV (cj (au (aU (iU rfl) (by rfl) El iV (af (ae (pv 3)) aq)) (au (aA (pv 2)) aN)))))))))
abbrev iF:Stmt:=top 19
theorem eW:FnScope ["_law_script","_law_first","_law_k","_law_number","_law_cell"] ["_law_script","_law_first","_law_k"] (defScope iF):=fs
theorem oH (Df:Def K mg "_law_fold" iF) (D7:Ct P w K mg base "_law_mixed" 1 (spF K aR)):Ct P w K mg base "_law_fold" 2 (spF K dh):=
 du Df eW (fun _ _ _ _ _ _=>yT fun _ _ _=>rfl) fun f Ej A outer s H E hr=>
  (ag (aI (i:=3) eW.nd rfl (lo rfl) (aB aJ (aa ai) (ae (pv 2))))
  (ag (dt PassesOwn.never rfl (eK (An (ae (pv 0)) (dG (aB aJ (ae (pv 1)) (ae (pv 2)))) (dG (aB aJ (ae (pv 1)) (aa ai))) (dG ai))) (aD (i:=4) eW.nd rfl (lo rfl))
  (ax (aI (i:=3) eW.nd rfl (lo rfl) (aT D7 hr.m (by rfl) (af (aa (aB aJ (ae (pv 4)) (ae (pv 3)))) (af (ae (pv 2)) aq))))))
  (ax (aV (jh (pv 3))))))
abbrev gM:Stmt:=top 20
theorem b5:FnScope ["_law_number","_law_count","_law_takes","_law_gives","_law_j","_law_mixed_here","_law_step_here","_law_loop"] ["_law_number","_law_count"] (defScope gM):=fs
theorem mI (Df:Def K mg "_law_place" gM) (D7:Ct P w K mg base "_law_mixed" 1 (spF K aR)) (EJ:mg "max" = none) (D5:mg "range" = none):Ct P w K mg base "_law_place" 2 (spF K cP):=
 du Df b5 (fun _ _ _ _ _ _=>q5 fun _ _=>rfl) fun f Ej A outer s H E hr=>
  (ag (aI (i:=2) b5.nd rfl (lo rfl) (cx aN))
  (ag (aI (i:=3) b5.nd rfl (lo rfl) (cx aN))
  (ag (dt PassesOwn.never rfl (cU (by rfl) D5 (ae (pv 1))) (aD (i:=4) b5.nd rfl (lo rfl))
  (ag (aI (i:=5) b5.nd rfl (lo rfl) (aT D7 hr.m (by rfl) (af (ae (pv 0)) (af (ae (pv 4)) aq))))
  (ag (aI (i:=6) b5.nd rfl (lo rfl) (aB iN (aa (aB bq (ae (pv 5)) (aa ai))) (aa ai)))
  (ag (aI (i:=7) b5.nd rfl (lo rfl) (aB bX (aa (aB bq (aa (aB bX (ae (pv 5)) (aa ai))) (aa ai))) (aa ai)))
  (ag (dF (b7 (pv 2) (aB aJ (aa (aU (lM rfl) (by rfl) EJ lO (af (aa ai) (af (aa (aB iN (aa ai) (ae (pv 6)))) aq)))) (ae (pv 7)))))
  (ax (dF (b7 (pv 3) (aB aJ (aa (aU (lM rfl) (by rfl) EJ lO (af (aa ai) (af (ae (pv 6)) aq)))) (ae (pv 7)))))))))))
  (ax (aV (yg (aB bq (aa (aB bX (ae (pv 0)) (aa ai))) (aa ai)) (jh (pv 2)) (jh (pv 3))))))))
abbrev fP:Stmt:=top 21
theorem b8:FnScope ["_law_place_here","_law_cell","_law_factor","_law_beads","_law_takes","_law_gives"] ["_law_place_here","_law_cell"] (defScope fP):=fs
theorem lz (Df:Def K mg "_law_scaled" fP) (D4:mg "tuple" = none):Ct P w K mg base "_law_scaled" 1 (spF K bY):=
 du Df b8 (fun _ _ _ _ _ _=>q5 fun _ _=>rfl) fun f Ej A outer s H E hr=>
  (ag (aI (i:=2) b8.nd rfl (lo rfl) (aB aJ (aa ai) (aa (aB bq (ae (pv 1)) (aa (aB tj (aa ai) (aa ai)))))))
  (ag (Ac (aA (pv 0)) (eR rfl (aM (aD (i:=3) b8.nd rfl (lo rfl)) (aM (aD (i:=4) b8.nd rfl (lo rfl)) (aM (aD (i:=5) b8.nd rfl (lo rfl)) cT)))))
  (ag (aI (i:=4) b8.nd rfl (lo rfl) (bD cV (by rfl) D4 cS (af (aa (bM [none,some 2] ["_law_take","_law_factor"] rfl (c9 (fJ (pv 4)) (c9 (bL (hX (aA (pv 4)))) (bL (hZ (aA (pv 4)))))) (fun _ _ _ _ _=>(aD (i:=0) (show List.Nodup (["_law_take","_law_factor"]:List Str) from by decide +kernel) rfl (lo rfl))) (fun _ _ _ _ _=>bQ) (fun _ _ _ _ _=>(aB e8 (ae (pv 1)) (ae (pv 0)))))) aq)))
  (ax (aV (cj (au (aB aJ (aa (aB e8 (ae (pv 2)) (ae (pv 3)))) (aa (aB bq (aa (aB bX (ae (pv 1)) (aa ai))) (ae (pv 2))))) (au (aA (pv 4)) (au (bD cV (by rfl) D4 cS (af (aa (bM [none,some 2] ["_law_give","_law_factor"] rfl (c9 (fJ (pv 5)) (c9 (bL (hX (aA (pv 5)))) (bL (hZ (aA (pv 5)))))) (fun _ _ _ _ _=>(aD (i:=0) (show List.Nodup (["_law_give","_law_factor"]:List Str) from by decide +kernel) rfl (lo rfl))) (fun _ _ _ _ _=>bQ) (fun _ _ _ _ _=>(aB e8 (ae (pv 1)) (ae (pv 0)))))) aq)) aN)))))))))
abbrev fQ:Stmt:=top 22
theorem b9:FnScope ["_law_script","_law_first","_law_count","_law_places_here","_law_k","_law_number","_law_place_here","_law_mate"] ["_law_script","_law_first","_law_count"] (defScope fQ):=fs
theorem lA (Df:Def K mg "_law_places" fQ) (DX:Ct P w K mg base "_law_cell_at" 1 (spF K aE)) (G9:Ct P w K mg base "_law_fold" 2 (spF K dh)) (GB:Ct P w K mg base "_law_place" 2 (spF K cP)) (Fm:Ct P w K mg base "_law_scaled" 1 (spF K bY)) (D5:mg "range" = none):Ct P w K mg base "_law_places" 3 (spF K cu):=
 du Df b9 (fun _ _ _ _ _ _=>yT fun _ _ _=>rfl) fun f Ej A outer s H E hr=>
  (ag (aI (i:=3) b9.nd rfl (lo rfl) (cx aN))
  (ag (dt PassesOwn.never rfl (cU (by rfl) D5 (aa (aB aJ (aa ai) (aa (aB bq (aa (aB bX (aa (aT DX hr.m (by rfl) (af (ae (pv 0)) (af (aa ai) aq)))) (aa ai))) (aa ai)))))) (aD (i:=4) b9.nd rfl (lo rfl))
  (ag (aI (i:=5) b9.nd rfl (lo rfl) (aT G9 hr.m (by rfl) (af (ae (pv 0)) (af (ae (pv 1)) (af (ae (pv 4)) aq)))))
  (ag (aI (i:=6) b9.nd rfl (lo rfl) (aT GB hr.m (by rfl) (af (ae (pv 5)) (af (ae (pv 2)) aq))))
  (ag (dF (b7 (pv 3) (aT Fm hr.m (by rfl) (af (ae (pv 6)) (af (aa (aT DX hr.m (by rfl) (af (ae (pv 0)) (af (aa (aB aJ (ae (pv 1)) (ae (pv 4)))) aq)))) aq)))))
  (ax (de (jA B6 (aa (aB bq (aa (aB bX (ae (pv 5)) (aa ai))) (aa ai))) (aa ai) (bJ _))
  (ag (aI (i:=7) b9.nd rfl (lo rfl) (cj (au (aB bq (aa (aB bX (ae (pv 5)) (aa ai))) (aa ai)) (au (aO (aa (aA (pv 6))) (aa ai)) (au (aO (aa (aA (pv 6))) (aa ai)) aN)))))
  (ax (dF (b7 (pv 3) (aT Fm hr.m (by rfl) (af (ae (pv 7)) (af (aa (aT DX hr.m (by rfl) (af (ae (pv 0)) (af (aa (aB aJ (aa (aB aJ (ae (pv 1)) (aa ai))) (ae (pv 4)))) aq)))) aq)))))))
  ba))))))
  (ax (aV (jh (pv 3))))))
abbrev gN:Stmt:=top 23
theorem cZ:FnScope ["_law_script","_law_names_here","_law_cell","_law_count","_law_start"] ["_law_script"] (defScope gN):=fs
theorem mJ (Df:Def K mg "_law_moves" gN) (DX:Ct P w K mg base "_law_cell_at" 1 (spF K aE)) (GC:Ct P w K mg base "_law_names" 2 (spF K cO)) (D4:mg "tuple" = none):Ct P w K mg base "_law_moves" 3 (spF K cQ):=
 du Df cZ (fun _ _ _ _ _ _=>yi fun _=>rfl) fun f Ej A outer s H E hr=>
  (ag (aI (i:=1) cZ.nd rfl (lo rfl) (aT GC hr.m (by rfl) (af (aa (aT DX hr.m (by rfl) (af (ae (pv 0)) (af (aa ai) aq)))) aq)))
  (ag (aI (i:=2) cZ.nd rfl (lo rfl) (aT DX hr.m (by rfl) (af (ae (pv 0)) (af (aa ai) aq))))
  (ag (aI (i:=3) cZ.nd rfl (lo rfl) (aB aJ (aa ai) (aa (aB bq (ae (pv 2)) (aa ai)))))
  (ag (aI (i:=4) cZ.nd rfl (lo rfl) (aB bq (aa (aB bX (ae (pv 2)) (aa ai))) (aa (aB iN (aa ai) (ae (pv 3))))))
  (ax (aV (bD cV (by rfl) D4 cS (af (aa (kC (ae (pv 1)) (dG (aA (pv 4))) (dG (aB aJ (ae (pv 4)) (ae (pv 3)))))) aq))))))))
abbrev jq:Stmt:=top 24
theorem dk:FnScope ["_law_script","_law_first","_law_moves_here","_law_count","_law_places_here","_law_ones","_law_noughts"] ["_law_script","_law_first"] (defScope jq):=fs
theorem px (Df:Def K mg "_law_net" jq) (GD:Ct P w K mg base "_law_moves" 3 (spF K cQ)) (Gm:Ct P w K mg base "_law_places" 3 (spF K cu)) (Ex:Ct P w K mg base "_law_run" 2 (spF K br)) (Ed:mg "len" = none) (D4:mg "tuple" = none):Ct P w K mg base "_law_net" 4 (spF K di):=
 du Df dk (fun _ _ _ _ _ _=>q5 fun _ _=>rfl) fun f Ej A outer s H E hr=>
  (ag (aI (i:=2) dk.nd rfl (lo rfl) (aT GD hr.m (by rfl) (af (ae (pv 0)) aq)))
  (ag (aI (i:=3) dk.nd rfl (lo rfl) (aU df (by rfl) Ed bt_len (af (ae (pv 2)) aq)))
  (ag (aI (i:=4) dk.nd rfl (lo rfl) (aT Gm hr.m (by rfl) (af (ae (pv 0)) (af (ae (pv 1)) (af (ae (pv 3)) aq)))))
  (ag (de (aY qk (aa (aT Ex hr.m (by rfl) (af (aa (cj (au (aA (pv 2)) (au (aA (pv 4)) aN)))) (af (aa ai) aq)))) (aa kj) (bJ _))
  (ax (aV (cj (au (aA (pv 2)) (au (aA (pv 4)) aN)))))
  ba)
  (ag (aI (i:=5) dk.nd rfl (lo rfl) (bD cV (by rfl) D4 cS (af (aa (bM [none] ["_law_move"] rfl (c9 (fJ (pv 2)) (c9 (bL (hX (aA (pv 2)))) (bL (hZ (aA (pv 2)))))) (fun _ _ _ _ _=>(aD (i:=0) (show List.Nodup (["_law_move"]:List Str) from by decide +kernel) rfl (lo rfl))) (fun _ _ _ _ _=>bQ) (fun _ _ _ _ _=>ai))) aq)))
  (ag (aI (i:=6) dk.nd rfl (lo rfl) (bD cV (by rfl) D4 cS (af (aa (bM [none] ["_law_move"] rfl (c9 (fJ (pv 2)) (c9 (bL (hX (aA (pv 2)))) (bL (hZ (aA (pv 2)))))) (fun _ _ _ _ _=>(aD (i:=0) (show List.Nodup (["_law_move"]:List Str) from by decide +kernel) rfl (lo rfl))) (fun _ _ _ _ _=>bQ) (fun _ _ _ _ _=>ai))) aq)))
  (ag (de (aY qk (aa (aT Ex hr.m (by rfl) (af (aa (cj (au (aA (pv 2)) (au (aB aJ (ae (pv 4)) (aa (cx (au (cj (au ai (au (aA (pv 5)) (au (aA (pv 6)) aN)))) aN)))) aN)))) (af (aa ai) aq)))) (aa kj) (bJ _))
  (ax (aV (cj (au (aA (pv 2)) (au (aB aJ (ae (pv 4)) (aa (cx (au (cj (au ai (au (aA (pv 5)) (au (aA (pv 6)) aN)))) aN)))) aN)))))
  ba)
  (ax (aV (cj (au (aA (pv 2)) (au (aB aJ (ae (pv 4)) (aa (cx (au (cj (au ai (au (aA (pv 5)) (au (aA (pv 6)) aN)))) aN)))) aN))))))))))))
abbrev fR:Stmt:=top 25
theorem aS:FnScope ["_law_arcs","_law_order","_law_done","_law_one","_law_move","_law_other_here","_law_kept","_law_arc"] ["_law_arcs"] (defScope fR):=fs
theorem lB (Df:Def K mg "_law_tidied" fR) (Ed:mg "len" = none) (El:mg "sorted" = none):Ct P w K mg base "_law_tidied" 1 (spF K bZ):=
 du Df aS (fun _ _ _ _ _ _=>yi fun _=>rfl) fun f Ej A outer s H E hr=>
  (ag (aI (i:=1) aS.nd rfl (lo rfl) (cx (au ai aN)))
  (ag (aI (i:=2) aS.nd rfl (lo rfl) ai)
  (ag (j3 100000 PassesOwn.never (jA (kA hr.units0) (ae (pv 2)) (aa (aU df (by rfl) Ed bt_len (af (ae (pv 1)) aq))) (bJ _))
  (ag (dt PassesOwn.never rfl (eK (aU (iU rfl) (by rfl) El iV (af (ae (pv 0)) aq))) (eR rfl (aM (aD (i:=3) aS.nd rfl (lo rfl)) (aM (aD (i:=4) aS.nd rfl (lo rfl)) (aM (aD (i:=5) aS.nd rfl (lo rfl)) cT))))
  (ax (de (QW.qt (sV (aY (jk hr.units) (ae (pv 3)) (aa (aO (ae (pv 1)) (ae (pv 2)))) (bJ _)) (o4 (aY (kH hr.u65) (ae (pv 5)) (ae (pv 1)) (by with_unfolding_all rfl)))))
  (ax (dF (b7 (pv 1) (aA (pv 5)))))
  ba)))
  (ax (aI (i:=2) aS.nd rfl (lo rfl) (aB aJ (ae (pv 2)) (aa ai))))))
  (ag (aI (i:=6) aS.nd rfl (lo rfl) (cx aN))
  (ag (dt PassesOwn.never rfl (eK (aA (pv 0))) (eR rfl (aM (aD (i:=3) aS.nd rfl (lo rfl)) (aM (aD (i:=4) aS.nd rfl (lo rfl)) (aM (aD (i:=5) aS.nd rfl (lo rfl)) cT))))
  (ax (de (aY (tR hr.u65) (ae (pv 3)) (ae (pv 1)) (by with_unfolding_all rfl))
  (ag (aI (i:=7) aS.nd rfl (lo rfl) (cj (au (tV PySem.F.slot_list_index PySem.F.type_list_index (iy hr.u65) (ae (pv 1)) (af (ae (pv 3)) aq)) (au (aA (pv 4)) (au (tV PySem.F.slot_list_index PySem.F.type_list_index (iy hr.u65) (ae (pv 1)) (af (ae (pv 5)) aq)) aN)))))
  (ax (de (aY (kH hr.u65) (ae (pv 7)) (ae (pv 6)) (by with_unfolding_all rfl))
  (ax (dF (b7 (pv 6) (aA (pv 7)))))
  ba)))
  ba)))
  (ax (aV (aU (iU rfl) (by rfl) El iV (af (ae (pv 6)) aq)))))))))
abbrev iG:Stmt:=top 26
theorem bN:FnScope ["_law_moves_here","_law_arcs","_law_number","_law_count","_law_other_here","_law_move","_law_spot","_law_arc","_law_rest","_law_gone","_law_ends"] ["_law_moves_here","_law_arcs","_law_number"] (defScope iG):=fs
theorem oI (Df:Def K mg "_law_bent" iG) (Ed:mg "len" = none) (EJ:mg "max" = none) (Ha:mg "min" = none) (D5:mg "range" = none):Ct P w K mg base "_law_bent" 1 (spF K dj):=
 du Df bN (fun _ _ _ _ _ _=>yT fun _ _ _=>rfl) fun f Ej A outer s H E hr=>
  (ag (aI (i:=3) bN.nd rfl (lo rfl) (aB aJ (aa ai) (aa (aU (lM rfl) (by rfl) EJ lO (af (aa (aB aJ (aa (cx (au ai aN))) (aa (bM [none] ["_law_arc"] rfl (c9 (fJ (pv 1)) (c9 (bL (hX (aA (pv 1)))) (bL (hZ (aA (pv 1)))))) (fun _ _ _ _ _=>(aD (i:=0) (show List.Nodup (["_law_arc"]:List Str) from by decide +kernel) rfl (lo rfl))) (fun _ _ _ _ _=>bQ) (fun _ _ _ _ _=>(aU (lM rfl) (by rfl) EJ lO (af (aa (aO (ae (pv 0)) (aa ai))) (af (aa (aO (ae (pv 0)) (aa ai))) aq)))))))) aq)))))
  (ag (aI (i:=4) bN.nd rfl (lo rfl) (aB bq (aa (aB bX (ae (pv 2)) (aa ai))) (aa (aU (Ah rfl) (by rfl) Ha Ad (af (aa (aB aJ (ae (pv 3)) (aa ai))) (af (aa ai) aq))))))
  (ag (aI (i:=5) bN.nd rfl (lo rfl) (aO (ae (pv 0)) (aa (aB bq (aa (aB bX (ae (pv 2)) (aa ai))) (aa (aU df (by rfl) Ed bt_len (af (ae (pv 0)) aq)))))))
  (ag (de (QW.qt (vz (aY (jk hr.units) (ae (pv 1)) (aa (cx aN)) (bJ _)) (qc (aY (jk hr.units) (aa (aB bq (ae (pv 2)) (aa ai))) (aa ai) (bJ _)))))
  (ax (aV (aB aJ (ae (pv 1)) (aa (cx (au (cj (au (aB bq (aa (aB bX (ae (pv 2)) (aa ai))) (ae (pv 3))) (au (aA (pv 5)) (au (aA (pv 4)) aN)))) aN))))))
  ba)
  (ag (aI (i:=6) bN.nd rfl (lo rfl) (aB bq (aa (aB bX (ae (pv 2)) (aa ai))) (aa (aU df (by rfl) Ed bt_len (af (ae (pv 1)) aq)))))
  (ag (aI (i:=7) bN.nd rfl (lo rfl) (aO (ae (pv 1)) (ae (pv 6))))
  (ag (aI (i:=8) bN.nd rfl (lo rfl) (aB aJ (aa (kC (ae (pv 1)) km (dG (aA (pv 6))))) (aa (kC (ae (pv 1)) (dG (aB aJ (ae (pv 6)) (aa ai))) km))))
  (ag (de (aY (jk hr.units) (aa (aB bq (ae (pv 2)) (aa ai))) (aa ai) (bJ _))
  (ax (aV (jh (pv 8))))
  ba)
  (ag (de (aY (jk hr.units) (aa (aB bq (ae (pv 2)) (aa ai))) (aa ai) (bJ _))
  (ax (aV (aB aJ (ae (pv 8)) (aa (cx (au (cj (au (aO (ae (pv 7)) (aa ai)) (au (aO (ae (pv 7)) (aa ai)) (au (aA (pv 4)) aN)))) aN))))))
  ba)
  (ag (de (QW.qt (vz (aY (jk hr.units) (aa (aB bq (ae (pv 2)) (aa ai))) (aa ai) (bJ _)) (qc (aY (jk hr.units) (ae (pv 3)) (aa ai) (bJ _)))))
  (ax (aV (aB aJ (ae (pv 8)) (aa (cx (au (cj (au (aO (ae (pv 7)) (aa ai)) (au (aA (pv 5)) (au (aO (ae (pv 7)) (aa ai)) aN)))) aN))))))
  ba)
  (ag (aI (i:=9) bN.nd rfl (lo rfl) (aB aJ (aa ai) (aa (aB bq (aa (aB bX (ae (pv 2)) (aa ai))) (aa (aB iN (ae (pv 3)) (aa ai)))))))
  (ag (aI (i:=10) bN.nd rfl (lo rfl) (bM [none] ["_law_k"] rfl (bL (cU (by rfl) D5 (ae (pv 3)))) (fun _ _ _ _ _=>(aD (i:=0) (show List.Nodup (["_law_k"]:List Str) from by decide +kernel) rfl (lo rfl))) (fun _ _ _ _ _=>bQ) (fun _ _ _ _ _=>(aA (pv 0)))))
  (ag (pj (pv 10) (aA (pv 9)) (aB bq (ae (pv 4)) (ae (pv 3))))
  (ax (aV (bM [none,none,none,some 10] ["_law_one","_law_name","_law_two","_law_ends"] rfl (c9 (fJ (pv 1)) (c9 (bL (hX (aA (pv 1)))) (bL (hZ (aA (pv 1)))))) (fun _ _ _ _ _=>(have h:=(show List.Nodup (["_law_one","_law_name","_law_two","_law_ends"]:List Str) from by decide +kernel);(eR rfl (aM (aD (i:=0) h rfl (lo rfl)) (aM (aD (i:=1) h rfl (lo rfl)) (aM (aD (i:=2) h rfl (lo rfl)) cT)))))) (fun _ _ _ _ _=>bQ) (fun _ _ _ _ _=>(cj (au (aO (ae (pv 3)) (ae (pv 0))) (au (aA (pv 1)) (au (aO (ae (pv 3)) (ae (pv 2))) aN)))))))))))))))))))))
abbrev dm:Stmt:=top 27
theorem bO:FnScope ["_law_script","_law_net_here","_law_first","_law_arcs","_law_k","_law_number"] ["_law_script","_law_net_here","_law_first"] (defScope dm):=fs
theorem i9 (Df:Def K mg "_law_bent_chart" dm) (Hb:Ct P w K mg base "_law_bent" 1 (spF K dj)) (DX:Ct P w K mg base "_law_cell_at" 1 (spF K aE)) (D7:Ct P w K mg base "_law_mixed" 1 (spF K aR)) (Ex:Ct P w K mg base "_law_run" 2 (spF K br)) (Fn:Ct P w K mg base "_law_tidied" 1 (spF K bZ)) (D5:mg "range" = none):Ct P w K mg base "_law_bent_chart" 3 (spF K aW):=
 du Df bO (fun _ _ _ _ _ _=>yT fun _ _ _=>rfl) fun f Ej A outer s H E hr=>
  (ag (aI (i:=3) bO.nd rfl (lo rfl) (aO (aa (aT Ex hr.m (by rfl) (af (ae (pv 1)) (af (aa ai) aq)))) (aa ai)))
  (ag (dt PassesOwn.never rfl (tf (by rfl) D5 (af (ae (pv 2)) (af (aa (aB aJ (ae (pv 2)) (aa ai))) aq))) (aD (i:=4) bO.nd rfl (lo rfl))
  (ag (aI (i:=5) bO.nd rfl (lo rfl) (aT D7 hr.m (by rfl) (af (aa (aT DX hr.m (by rfl) (af (ae (pv 0)) (af (ae (pv 4)) aq)))) (af (ae (pv 4)) aq))))
  (ax (de (aY (jk hr.units) (aa (aB bq (aa (aB bX (ae (pv 5)) (aa ai))) (aa ai))) (aa ai) (bJ _))
  (ax (aI (i:=3) bO.nd rfl (lo rfl) (aT Fn hr.m (by rfl) (af (aa (aT Hb hr.m (by rfl) (af (aa (aO (ae (pv 1)) (aa ai))) (af (ae (pv 3)) (af (aa (aB bX (ae (pv 5)) (aa ai))) aq))))) aq))))
  ba))))
  (ax (aV (cj (au (aO (ae (pv 1)) (aa ai)) (au (aT Fn hr.m (by rfl) (af (ae (pv 3)) aq)) aN)))))))
abbrev fS:Stmt:=top 28
theorem aQ:FnScope ["_law_chart","_law_row","_law_levels_here","_law_fresh","_law_one","_law_move","_law_other_here","_law_step_here"] ["_law_chart","_law_row"] (defScope fS):=fs
theorem lC (Df:Def K mg "_law_levels" fS) (Ed:mg "len" = none) (D5:mg "range" = none):Ct P w K mg base "_law_levels" 1 (spF K cv):=
 du Df aQ (fun _ _ _ _ _ _=>q5 fun _ _=>rfl) fun f Ej A outer s H E hr=>
  (ag (aI (i:=2) aQ.nd rfl (lo rfl) (qr ai ai))
  (ag (aI (i:=3) aQ.nd rfl (lo rfl) ki)
  (ag (j3 100000 PassesOwn.never (wx (aA (pv 3)))
  (ag (aI (i:=3) aQ.nd rfl (lo rfl) ki)
  (ax (dt PassesOwn.never rfl (eK (aO (ae (pv 0)) (aa ai))) (eR rfl (aM (aD (i:=4) aQ.nd rfl (lo rfl)) (aM (aD (i:=5) aQ.nd rfl (lo rfl)) (aM (aD (i:=6) aQ.nd rfl (lo rfl)) cT))))
  (ag (aI (i:=7) aQ.nd rfl (lo rfl) (aO (ae (pv 1)) (aa (lP PySem.F.slot_tuple_index PySem.F.type_tuple_index eB (aa (aO (ae (pv 0)) (aa ai))) (af (ae (pv 5)) aq)))))
  (ax (de (QW.qt (sV (aY (tR hr.u65) (ae (pv 4)) (ae (pv 2)) (by with_unfolding_all rfl)) (o4 (aY (kH hr.u65) (ae (pv 6)) (ae (pv 2)) (by with_unfolding_all rfl)))))
  (ag (wD (hu_of hr) (pv 2) (aA (pv 6)) (aB aJ (aa (q0 (hu_of hr) (ae (pv 2)) (ae (pv 4)))) (ae (pv 7))))
  (ax (aI (i:=3) aQ.nd rfl (lo rfl) ki)))
  ba)))))))
  (ag (dt PassesOwn.never rfl (eK (aO (ae (pv 0)) (aa ai))) (eR rfl (aM (aD (i:=4) aQ.nd rfl (lo rfl)) (aM (aD (i:=5) aQ.nd rfl (lo rfl)) (aM (aD (i:=6) aQ.nd rfl (lo rfl)) cT))))
  (ag (aI (i:=7) aQ.nd rfl (lo rfl) (aO (ae (pv 1)) (aa (lP PySem.F.slot_tuple_index PySem.F.type_tuple_index eB (aa (aO (ae (pv 0)) (aa ai))) (af (ae (pv 5)) aq)))))
  (ax (de (aY (xU hr.units) (aa (q0 (hu_of hr) (ae (pv 2)) (ae (pv 6)))) (aa (aB aJ (aa (q0 (hu_of hr) (ae (pv 2)) (ae (pv 4)))) (ae (pv 7)))) (bJ _))
  (ax (aV kj))
  ba))))
  (ax (aV (bM [none,some 2] ["_law_k","_law_levels_here"] rfl (bL (cU (by rfl) D5 (aa (aU df (by rfl) Ed bt_len (af (ae (pv 2)) aq))))) (fun _ _ _ _ _=>(aD (i:=0) (show List.Nodup (["_law_k","_law_levels_here"]:List Str) from by decide +kernel) rfl (lo rfl))) (fun _ _ _ _ _=>bQ) (fun _ _ _ _ _=>(q0 (hu_of hr) (ae (pv 1)) (ae (pv 0)))))))))))
abbrev jr:Stmt:=top 29
theorem dn:FnScope ["_law_chart","_law_place_here","_law_row","_law_levels_here","_law_one","_law_move","_law_other_here"] ["_law_chart","_law_place_here"] (defScope jr):=fs
theorem pA (Df:Def K mg "_law_due" jr) (Gn:Ct P w K mg base "_law_levels" 1 (spF K cv)) (Ed:mg "len" = none) (D5:mg "range" = none):Ct P w K mg base "_law_due" 2 (spF K dQ):=
 du Df dn (fun _ _ _ _ _ _=>q5 fun _ _=>rfl) fun f Ej A outer s H E hr=>
  (ag (mD (i:=2) [none,some 1] ["_law_k","_law_place_here"] dn.nd rfl (lo rfl) rfl (bL (cU (by rfl) D5 (aa (aU df (by rfl) Ed bt_len (af (aa (aO (ae (pv 0)) (aa ai))) aq))))) (fun _ _ _ _ _=>(aD (i:=0) (show List.Nodup (["_law_k","_law_place_here"]:List Str) from by decide +kernel) rfl (lo rfl))) (fun _ _ _ _ _=>bQ) (fun _ _ _ _ _=>(aB iN (aa (aO (aa (aO (ae (pv 1)) (aa ai))) (ae (pv 0)))) (aa (aO (aa (aO (ae (pv 1)) (aa ai))) (ae (pv 0)))))))
  (ag (aI (i:=3) dn.nd rfl (lo rfl) (aT Gn hr.m (by rfl) (af (ae (pv 0)) (af (ae (pv 2)) aq))))
  (ag (de (aY Ca (ae (pv 3)) (aa kj) (bJ _))
  (ax (aV ki))
  ba)
  (ag (dt PassesOwn.never rfl (eK (aO (ae (pv 0)) (aa ai))) (eR rfl (aM (aD (i:=4) dn.nd rfl (lo rfl)) (aM (aD (i:=5) dn.nd rfl (lo rfl)) (aM (aD (i:=6) dn.nd rfl (lo rfl)) cT))))
  (ax (de (jA (kA hr.units0) (aa (aB aJ (aa (aO (ae (pv 1)) (aa ai))) (aa (aO (ae (pv 3)) (ae (pv 4)))))) (aa (aO (aa (aO (ae (pv 1)) (aa ai))) (aa (lP PySem.F.slot_tuple_index PySem.F.type_tuple_index eB (aa (aO (ae (pv 0)) (aa ai))) (af (ae (pv 5)) aq))))) (bJ _))
  (ax (aV ki))
  ba)))
  (ax (aV ki))))))
abbrev gO:Stmt:=top 30
theorem c6:FnScope ["_law_place_here","_law_number","_law_cell","_law_spot","_law_more","_law_numbers","_law_count"] ["_law_place_here","_law_number","_law_cell"] (defScope gO):=fs
theorem mK (Df:Def K mg "_law_other" gO) (Ed:mg "len" = none) (EZ:mg "list" = none) (EJ:mg "max" = none) (D4:mg "tuple" = none):Ct P w K mg base "_law_other" 1 (spF K m__law_other):=
 du Df c6 (fun _ _ _ _ _ _=>yT fun _ _ _=>rfl) fun f Ej A outer s H E hr=>
  (ag (aI (i:=3) c6.nd rfl (lo rfl) (aB bq (ae (pv 1)) (aa (aB aJ (aa ai) (aa (aB e8 (aa ai) (aa (aU df (by rfl) Ed bt_len (af (aa (aO (ae (pv 0)) (aa ai))) aq)))))))))
  (ag (aI (i:=4) c6.nd rfl (lo rfl) (aO (aa (cx (au ai (au (Af (aa ai)) (au (aB bq (ae (pv 2)) (aa (aB tj (aa ai) (aa ai)))) (au (aB iN (aa ai) (aa (aB bq (ae (pv 2)) (aa (aB tj (aa ai) (aa ai)))))) aN)))))) (aa (aB bq (aa (aB bX (ae (pv 1)) (aa ai))) (aa ai)))))
  (ag (aI (i:=5) c6.nd rfl (lo rfl) (aB aJ (aa (aB aJ (aa (cx (au (aO (ae (pv 0)) (aa ai)) aN))) (aa (bD mw (by rfl) EZ lY (af (aa (aO (ae (pv 0)) (aa ai))) aq))))) (aa (bD mw (by rfl) EZ lY (af (aa (aO (ae (pv 0)) (aa ai))) aq)))))
  (ag (pj (pv 5) (aA (pv 3)) (aU (lM rfl) (by rfl) EJ lO (af (aa ai) (af (aa (aB aJ (aa (aO (ae (pv 5)) (ae (pv 3)))) (ae (pv 4)))) aq))))
  (ag (aI (i:=6) c6.nd rfl (lo rfl) (aU df (by rfl) Ed bt_len (af (aa (aO (ae (pv 0)) (aa ai))) aq)))
  (ax (aV (cj (au (aO (ae (pv 5)) (aa ai)) (au (bD cV (by rfl) D4 cS (af (aa (kC (ae (pv 5)) (dG ai) (dG (aB aJ (aa ai) (ae (pv 6)))))) aq)) (au (bD cV (by rfl) D4 cS (af (aa (kC (ae (pv 5)) (dG (aB aJ (aa ai) (ae (pv 6)))) km)) aq)) aN)))))))))))
abbrev mL:Stmt:=top 31
theorem f7:FnScope ["_law_script","_law_net_here","_law_run_here","_law_chart","_law_handed","_law_k","_law_place_here","_law_number","_law_other_here","_law_one","_law_found"] ["_law_script"] (defScope mL):=fs
theorem Ap {f:Addr} {fd:FuncData} (F:Fun K "law" "law" mL f fd) (FE:Ct P w K mg base "_law_bent_chart" 3 (spF K aW)) (DX:Ct P w K mg base "_law_cell_at" 1 (spF K aE)) (Hv:Ct P w K mg base "_law_due" 2 (spF K dQ)) (D7:Ct P w K mg base "_law_mixed" 1 (spF K aR)) (Hw:Ct P w K mg base "_law_net" 4 (spF K di)) (GF:Ct P w K mg base "_law_other" 1 (spF K m__law_other)) (Ex:Ct P w K mg base "_law_run" 2 (spF K br)) (Gy:Ct P w K mg base "lets_go" 5 (spF K dC)) (Ga:mg "bool" = none) (En:mg "isinstance" = none) (Ed:mg "len" = none) (EZ:mg "list" = none) (D5:mg "range" = none):FnOk P w K mg base IJ 6 f fd ["_law_script"] (spF K yh):=
 fnok_of F f7 fun Ej A outer s H E hr=>
  (ag (aI (i:=1) f7.nd rfl (lo rfl) (aT Hw hr.m (by rfl) (af (ae (pv 0)) (af (aa ai) aq))))
  (ag (aI (i:=2) f7.nd rfl (lo rfl) (aO (aa (aT Ex hr.m (by rfl) (af (ae (pv 1)) (af (aa ai) aq)))) (aa ai)))
  (ag (aI (i:=3) f7.nd rfl (lo rfl) (cj (au (aO (ae (pv 1)) (aa ai)) (au (aA (pv 2)) aN))))
  (ag (de (aY (jk hr.units) (aa (aB bq (aa (aB bX (aa (aT DX hr.m (by rfl) (af (ae (pv 0)) (af (aa ai) aq)))) (aa ai))) (aa ai))) (aa ai) (bJ _))
  (ax (aI (i:=3) f7.nd rfl (lo rfl) (aT FE hr.m (by rfl) (af (ae (pv 0)) (af (ae (pv 1)) (af (aa ai) aq))))))
  ba)
  (ag (aI (i:=4) f7.nd rfl (lo rfl) (cj (au (aO (ae (pv 3)) (aa ai)) (au (bD mw (by rfl) EZ lY (af (aa (aO (ae (pv 3)) (aa ai))) aq)) aN))))
  (ag (dt PassesOwn.never rfl (cU (by rfl) D5 (aa (aU df (by rfl) Ed bt_len (af (aa (aO (ae (pv 1)) (aa ai))) aq)))) (aD (i:=5) f7.nd rfl (lo rfl))
  (ag (aI (i:=6) f7.nd rfl (lo rfl) (aO (aa (aO (ae (pv 1)) (aa ai))) (ae (pv 5))))
  (ag (aI (i:=7) f7.nd rfl (lo rfl) (aT D7 hr.m (by rfl) (af (aa (aT DX hr.m (by rfl) (af (ae (pv 0)) (af (aa (aB aJ (aa ai) (ae (pv 5)))) aq)))) (af (aa ai) aq))))
  (ag (de (aY qk (aa (aT Gy hr.m (by rfl) (af (aa (cj (au (aO (ae (pv 1)) (aa ai)) (au (bD mw (by rfl) EZ lY (af (ae (pv 2)) aq)) aN)))) (af (ae (pv 6)) aq)))) (aa ki) (bJ _))
  (ax (aV ki))
  ba)
  (ag (aI (i:=8) f7.nd rfl (lo rfl) (aT GF hr.m (by rfl) (af (ae (pv 6)) (af (ae (pv 7)) (af (aa (aT DX hr.m (by rfl) (af (ae (pv 0)) (af (aa (aB aJ (aa ai) (ae (pv 5)))) aq)))) aq)))))
  (ax (dt PassesOwn.never rfl (eK (cx (au (aA (pv 6)) (au (aA (pv 8)) aN)))) (aD (i:=9) f7.nd rfl (lo rfl))
  (ag (aI (i:=10) f7.nd rfl (lo rfl) (aT Gy hr.m (by rfl) (af (ae (pv 4)) (af (ae (pv 9)) aq))))
  (ax (de (QW.qt (vz (zR (wx (Cb (T:="bool") (by decide) (ae (pv 10)) (by rfl) En (by rfl) Ga xn))) (qc (aY (xU hr.units) (ae (pv 10)) (aa (aT Hv hr.m (by rfl) (af (ae (pv 3)) (af (ae (pv 9)) aq)))) (bJ _)))))
  (ax (aV ki))
  ba))))))))))
  (ax (aV (xN (jk hr.units) (ae (pv 4)) (ae (pv 3)) (bJ _))))))))))
end
end LW
namespace PV
open PySem L2 NX
class Cont (α β:Type) where
 run:α→Res β
noncomputable def Res.bnd {α β:Type} [f:Cont α β] (x:Res α):Res β:=x.bind f.run
theorem Eh {α β:Type} (a:α) (f:α→Res β):Res.bnd (Res.ok a) (f:=⟨f⟩)=f a:=id rfl
theorem bBad {α β:Type} (f:α→Res β):Res.bnd (Res.bad:Res α) (f:=⟨f⟩)=.bad:=id rfl
section
variable (env:PV.Env) (i n:Nat) (d:D) (f g:FX) (c c':FT) (fo LF Mo:FO) (fs:Fq) (fd:FDs) (s t:FS) (op O3:D→D→Res R) (F:List D→Res R) (a:FG) (as:JG) (fi fj:FI) (fp D0:FP) (T:String)
theorem K2:aH d env=.ok ((.f,d),env):=id rfl
theorem HK:aK i env=match env[i]? with | some (some r)=>.ok ((.f,r.2),env.set i (some (fz r.1,r.2))) | _=>.bad:=id rfl
theorem Mp:fz .f=.f:=id rfl
theorem Mq (c:O):fz (.l c)=.f:=id rfl
theorem Mr (cs:List O):fz (.t cs)=.f:=id rfl
theorem Ms:fz .d=.f:=id rfl
theorem Mt (p:Addr):fz (.pin p .f)=.pin p .f:=id rfl
theorem K3 (p:Addr) (c:O):fz (.pin p (.l c))=.f:=id rfl
theorem K4 (p:Addr):fz (.pin p .d)=.f:=id rfl
theorem JK (p:Addr):sR (.pin p .f)=true:=id rfl
theorem IY (p:Addr):sR (.pin p (.l .f))=true:=id rfl
theorem IZ (p:Addr):sR (.pin p .d)=true:=id rfl
theorem JL:eY i env=match env[i]? with | some (some r)=>.ok (r,env.set i none) | _=>.bad:=id rfl
theorem E1:aj f env=Res.bnd (f env) (f:=⟨fun p=>.ok (.val p.1.2,p.2)⟩):=id rfl
theorem K5:ao i env=match env[i]? with | some (some _)=>.ok (.var i,env) | _=>.bad:=id rfl
theorem FF:aF env=.ok ([],env):=id rfl
theorem Em:ah fo fs env=Res.bnd (fo env) (f:=⟨fun p=>Res.bnd (fs p.2) (f:=⟨fun q=>.ok (p.1 :: q.1,q.2)⟩)⟩):=id rfl
theorem JM:a7 env=.ok ([],env):=id rfl
theorem Ey:az f fd env=Res.bnd (f env) (f:=⟨fun p=>Res.bnd (fd p.2) (f:=⟨fun q=>.ok (p.1.2 :: q.1,q.2)⟩)⟩):=id rfl
theorem K6:Eg env (.val d)=.ok d:=id rfl
theorem K7:Eg env (.var i)=match env[i]? with | some (some r)=>if sR r.1 then .ok r.2 else .bad | _=>.bad:=id rfl
theorem JN:ft env (.val d)=.ok d:=id rfl
theorem JO:ft env (.var i)=match env[i]? with | some (some r)=>.ok r.2 | _=>.bad:=id rfl
theorem JP:mY env []=.ok []:=id rfl
theorem HL (o:Opd) (os:List Opd):mY env (o :: os)=Res.bnd (Eg env o) (f:=⟨fun d=>Res.bnd (mY env os) (f:=⟨fun ds=>.ok (d :: ds)⟩)⟩):=id rfl
theorem I0:nS env []=.ok []:=id rfl
theorem EG (o:Opd) (os:List Opd):nS env (o :: os)=Res.bnd (ft env o) (f:=⟨fun d=>Res.bnd (nS env os) (f:=⟨fun ds=>.ok (d :: ds)⟩)⟩):=id rfl
theorem JQ:sR .f=true:=id rfl
theorem JR:sR (.l .f)=true:=id rfl
theorem JS:sR .d=true:=id rfl
theorem Gb:ay op fo LF env=Res.bnd (fo env) (f:=⟨fun p=>Res.bnd (LF p.2) (f:=⟨fun q=>Res.bnd (Eg q.2 p.1) (f:=⟨fun a=>Res.bnd (Eg q.2 q.1) (f:=⟨fun b=>Res.bnd (op a b) (f:=⟨fun r=>.ok (r,q.2)⟩)⟩)⟩)⟩)⟩):=id rfl
theorem FH:bR op fo LF env=Res.bnd (fo env) (f:=⟨fun p=>Res.bnd (LF p.2) (f:=⟨fun q=>Res.bnd (ft q.2 p.1) (f:=⟨fun a=>Res.bnd (ft q.2 q.1) (f:=⟨fun b=>Res.bnd (op a b) (f:=⟨fun r=>.ok (r,q.2)⟩)⟩)⟩)⟩)⟩):=id rfl
theorem Mu:EA f env=Res.bnd (f env) (f:=⟨fun p=>match p.1.2 with | .bl k=>.ok (k,p.2) | _=>.bad⟩):=id rfl
theorem K8:zQ c c' env=Res.bnd (c env) (f:=⟨fun p=>if p.1 then c' p.2 else .ok (false,p.2)⟩):=id rfl
theorem Mv:LC c c' env=Res.bnd (c env) (f:=⟨fun p=>if p.1 then .ok (true,p.2) else c' p.2⟩):=id rfl
theorem K9:B3 c env=Res.bnd (c env) (f:=⟨fun p=>.ok (!p.1,p.2)⟩):=id rfl
theorem La:DA f g env=Res.bnd (f env) (f:=⟨fun p=>match p.1.2 with | .bl true=>g p.2 | .bl false=>.ok ((.f,.bl false),p.2) | _=>.bad⟩):=id rfl
theorem Mw:eOr f g env=Res.bnd (f env) (f:=⟨fun p=>match p.1.2 with | .bl true=>.ok ((.f,.bl true),p.2) | .bl false=>g p.2 | _=>.bad⟩):=id rfl
theorem Lb:DB f env=Res.bnd (f env) (f:=⟨fun p=>match p.1.2 with | .bl k=>.ok ((.f,.bl (!k)),p.2) | _=>.bad⟩):=id rfl
theorem Mx:eIf c f g env=Res.bnd (c env) (f:=⟨fun p=>if p.1 then f p.2 else g p.2⟩):=id rfl
theorem Ja:zS op O3 fo LF Mo env=Res.bnd (fo env) (f:=⟨fun p=>Res.bnd (LF p.2) (f:=⟨fun q=>Res.bnd (Eg q.2 p.1) (f:=⟨fun a=>Res.bnd (Eg q.2 q.1) (f:=⟨fun b=>Res.bnd (op a b) (f:=⟨fun r=>match r with
 | (.f,.bl true)=>Res.bnd (Mo q.2) (f:=⟨fun t=>Res.bnd (Eg t.2 q.1) (f:=⟨fun b=>Res.bnd (Eg t.2 t.1) (f:=⟨fun c=>Res.bnd (O3 b c) (f:=⟨fun r=>.ok (r,t.2)⟩)⟩)⟩)⟩)
 | (.f,.bl false)=>.ok ((.f,.bl false),q.2)
 | _=>.bad⟩)⟩)⟩)⟩)⟩):=id rfl
theorem GH:bg F fs env=Res.bnd (fs env) (f:=⟨fun p=>Res.bnd (mY p.2 p.1) (f:=⟨fun ds=>Res.bnd (F ds) (f:=⟨fun r=>.ok (r,p.2)⟩)⟩)⟩):=id rfl
theorem Gd:c7 F fs env=Res.bnd (fs env) (f:=⟨fun p=>Res.bnd (nS p.2 p.1) (f:=⟨fun ds=>Res.bnd (F ds) (f:=⟨fun r=>.ok (r,if bS r.1 r.2 then p.2 else p.2.map frz)⟩)⟩)⟩):=id rfl
theorem GI:g9 fd env=Res.bnd (fd env) (f:=⟨fun p=>if p.1.length≤1000 then .ok ((.f,.tup p.1),p.2) else .bad⟩):=id rfl
theorem Jb:jD fd env=Res.bnd (fd env) (f:=⟨fun p=>if p.1.length≤1000 then .ok ((.l .f,.lst p.1),p.2) else .bad⟩):=id rfl
theorem My:eSl fo fp D0 env=Res.bnd (fo env) (f:=⟨fun p=>Res.bnd (fp p.2) (f:=⟨fun q=>Res.bnd (D0 q.2) (f:=⟨fun t=>Res.bnd (Eg t.2 p.1) (f:=⟨fun d=>Res.bnd (JH d q.1 t.1) (f:=⟨fun r=>.ok (r,t.2)⟩)⟩)⟩)⟩)⟩):=id rfl
theorem JT:o8 env=.ok (none,env):=id rfl
theorem JU:iO f env=Res.bnd (f env) (f:=⟨fun p=>match p.1.2 with | .int i=>.ok (some i,p.2) | _=>.bad⟩):=id rfl
theorem Lc:o9 i f env=if tm env i then (Res.bnd (f env) (f:=⟨fun (p:R×PV.Env)=>match p.2[i]? with
 | some (some (.l .f,.lst ds))=>if ds.length < sizeLine then .ok ((.f,.non),p.2.set i (some (.l .f,.lst (ds++[p.1.2])))) else .bad
 | _=>.bad⟩)) else .bad:=id rfl
theorem JV:tm env i=match env[i]? with | some (some (_,.lst _))=>true | _=>false:=id rfl
theorem Mz:Oe T fo env=Res.bnd (fo env) (f:=⟨fun p=>Res.bnd (ft p.2 p.1) (f:=⟨fun d=>.ok ((.f,.bl (wA T d)),p.2)⟩)⟩):=id rfl
theorem JW:xV f g env=Res.bnd (f env) (f:=⟨fun p=>Res.bnd (g p.2) (f:=⟨fun q=>match (mx p.1.2).bind c8,q.1.2 with | some ns,.int d=>.ok ((.f,.int (NX.maxD ns d)),q.2) | _,_=>.bad⟩)⟩):=id rfl
theorem Ld (gg:List Nat→List D→Res R):Cc gg fo fs env=Res.bnd (fo env) (f:=⟨fun p=>match Eg p.2 p.1 with
 | .ok (.str l)=>Res.bnd (fs p.2) (f:=⟨fun q=>Res.bnd (mY q.2 q.1) (f:=⟨fun ds=>Res.bnd (gg l ds) (f:=⟨fun r=>.ok (r,q.2)⟩)⟩)⟩)
 | _=>.bad⟩):=id rfl
theorem JX (tk:Bool):eNewD tk env=.ok ((.d,.dct tk [] []),env):=id rfl
theorem JY (ix:List (Option Nat)):dv fi ix a c f env=Res.bnd (fi env) (f:=⟨fun p=>Res.bnd (cH a c f p.1 (d7 ix p.2)) (f:=⟨fun ds=>if ds.length≤sizeLine then .ok ((.l .f,.lst ds),if flatDs ds then p.2 else p.2.map frz) else .bad⟩)⟩):=id rfl
theorem Hx:d7 [] env=[]:=id rfl
theorem Hy (ix:List (Option Nat)):d7 (none :: ix) env=none :: d7 ix env:=id rfl
theorem Hz (ix:List (Option Nat)):d7 (some i :: ix) env=(match env[i]? with | some (some r)=>some (O.f,r.2) | _=>none) :: d7 ix env:=id rfl
theorem Jc:eS env=.ok (true,env):=id rfl
theorem Jd:cH a c f [] env=.ok []:=id rfl
theorem Hc (ds:List D):cH a c f (d :: ds) env=Res.bnd (a d env) (f:=⟨fun e=>Res.bnd (c e) (f:=⟨fun p=>if p.1 then (Res.bnd (f p.2) (f:=⟨fun q=>Res.bnd (cH a c f ds q.2) (f:=⟨fun rs=>.ok (q.1.2 :: rs)⟩)⟩)) else cH a c f ds p.2⟩)⟩):=id rfl
theorem Aq:zT f env=Res.bnd (f env) (f:=⟨fun p=>match p.1.2 with | .lst ds=>.ok (ds,p.2) | _=>.bad⟩):=id rfl
theorem ua:gm f env=Res.bnd (f env) (f:=⟨fun p=>match p.1.2 with | .tup ds=>.ok (ds,p.2) | _=>.bad⟩):=id rfl
theorem ub:gq f env=Res.bnd (f env) (f:=⟨fun p=>match p.1.2 with | .str l=>.ok (l.map fun c=>.str [c],p.2) | _=>.bad⟩):=id rfl
theorem pB:EY fi fj env=match fi env with | .ok a=>.ok a | _=>fj env:=by
 unfold EY
 cases fi env <;> rfl
theorem Le:EY (zT f) (EY (gm f) (gq f)) env=Res.bnd (f env) (f:=⟨fun p=>match p.1.2 with
 | .lst ds=>.ok (ds,p.2)
 | .tup ds=>.ok (ds,p.2)
 | .str l=>.ok (l.map fun c=>.str [c],p.2)
 | _=>.bad⟩):=by
 rw [pB,pB,Aq,ua,ub]
 cases f env with
 | ok p=>
  obtain ⟨⟨o,d⟩,e⟩:=p
  cases d <;> rfl
 | exc c=>rfl
 | bad=>rfl
theorem JZ:EY (iw i) (EY (gm (aK i)) (gq (aK i))) env=match env[i]? with
 | some (some (_,.lst ds))=>.ok (ds,env)
 | some (some (o,.tup ds))=>.ok (ds,env.set i (some (fz o,.tup ds)))
 | some (some (o,.str l))=>.ok (l.map fun c=>.str [c],env.set i (some (fz o,.str l)))
 | _=>.bad:=by
 rw [pB,pB,ua,ub,HK]
 unfold iw
 cases env[i]? with
 | none=>rfl
 | some r=>
  cases r with
  | none=>rfl
  | some r=>
   obtain ⟨o,d⟩:=r
   cases d <;> rfl
theorem Ig:d6 fo env=Res.bnd (fo env) (f:=⟨fun p=>Res.bnd (Eg p.2 p.1) (f:=⟨fun d=>match d with
 | .int j=>if -4611686018427387904≤j∧j < 4611686018427387904 then .ok ((List.range j.toNat).map fun (k:Nat)=>D.int (k:Int),p.2) else .bad
 | _=>.bad⟩)⟩):=id rfl
theorem Ih:o6 fs env=Res.bnd (fs env) (f:=⟨fun p=>Res.bnd (mY p.2 p.1) (f:=⟨fun d=>match d with
 | [.int i,.int j]=>if (-4611686018427387904≤i∧i < 4611686018427387904)∧-4611686018427387904≤j∧j < 4611686018427387904 then .ok ((List.range (j - i).toNat).map fun (k:Nat)=>D.int (i + (k:Int)),p.2) else .bad
 | _=>.bad⟩)⟩):=id rfl
theorem FJ (k1 k2:Bool):qW k1 k2 fs env=Res.bnd (fs env) (f:=⟨fun p=>match p.1 with
 | [.val d1,.val d2]=>Res.bnd (ji k1 d1) (f:=⟨fun a=>Res.bnd (ji k2 d2) (f:=⟨fun b=>.ok ((a.zip b).map fun z=>D.tup [z.1,z.2],p.2)⟩)⟩)
 | _=>.bad⟩):=id rfl
theorem Fg:aw i d env=if i < env.length then .ok (env.set i (some (.f,d))) else .bad:=id rfl
theorem J0:cB [] env=.ok env:=id rfl
theorem ET (ds:List D):aG a as (d :: ds) env=Res.bnd (a d env) (f:=⟨fun e=>as ds e⟩):=id rfl
theorem HA (ds:List D):g8 n as (.tup ds) env=if ds.length=n then as ds env else .bad:=id rfl
theorem Ft:sSeq s t env=Res.bnd (s env) (f:=⟨fun o=>match o with | .nx e=>t e | o=>.ok o⟩):=id rfl
theorem J2:cR env=.ok (.nx env):=id rfl
theorem Lf:bE i f env=Res.bnd (f env) (f:=⟨fun p=>if i < p.2.length then .ok (.nx (p.2.set i (some p.1))) else .bad⟩):=id rfl
theorem J3:ir f env=Res.bnd (f env) (f:=⟨fun p=>.ok (.nx p.2)⟩):=id rfl
theorem Lg:d5 f env=Res.bnd (f env) (f:=⟨fun p=>.ok (.rt p.1)⟩):=id rfl
theorem MA:Fs c s t env=Res.bnd (c env) (f:=⟨fun p=>if p.1 then s p.2 else t p.2⟩):=id rfl
theorem Lh:lI fi a s env=Res.bnd (fi env) (f:=⟨fun p=>jC a s p.1 p.2⟩):=id rfl
theorem J4:jC a s [] env=.ok (.nx env):=id rfl
theorem Fh (ds:List D):jC a s (d :: ds) env=Res.bnd (a d env) (f:=⟨fun e=>Res.bnd (s e) (f:=⟨fun o=>match o with
 | .nx e=>jC a s ds e
 | .ct e=>jC a s ds e
 | .bk e=>.ok (.nx e)
 | .rt r=>.ok (.rt r)⟩)⟩):=id rfl
theorem EU:cA c s (n + 1) env=Res.bnd (c env) (f:=⟨fun p=>if p.1 then (Res.bnd (s p.2) (f:=⟨fun o=>match o with
  | .nx e=>cA c s n e
  | .ct e=>cA c s n e
  | .bk e=>.ok (.nx e)
  | .rt r=>.ok (.rt r)⟩)) else .ok (.nx p.2)⟩):=id rfl
theorem Li:z8 i f g env=Res.bnd (g env) (f:=⟨fun (p:R×PV.Env)=>Res.bnd (f p.2) (f:=⟨fun (q:R×PV.Env)=>match p.2[i]?,q.2[i]? with
 | some (some _),some (some (.d,.dct tk ks vs))=>if eh tk q.1.2 && decide (ks.length < sizeLine) then .ok (.nx (q.2.set i (some (.d,.dct tk (pf ks vs q.1.2 p.1.2).1 (pf ks vs q.1.2 p.1.2).2)))) else .bad
 | _,_=>.bad⟩)⟩):=id rfl
theorem Lj:Bq f a env=Res.bnd (f env) (f:=⟨fun p=>Res.bnd (a p.1.2 p.2) (f:=⟨fun e=>.ok (.nx e)⟩)⟩):=id rfl
theorem bc (ds:List D) (nn:Nat) (h:ds.length=n):fBody n nn s ds=Res.bnd (s (ds.map (fun d=>some (O.f,d))++List.replicate nn none)) (f:=⟨fun o=>match o with
 | .rt r=>.ok r
 | .nx _=>.ok (.f,.non)
 | _=>.bad⟩):=by
 unfold fBody
 rw [if_pos h]
 all_goals cases s (ds.map (fun d=>some (O.f,d))++List.replicate nn none) with
 | ok o=>cases o <;> rfl
 | exc c=>rfl
 | bad=>rfl
end
theorem line_le {n:Nat} (h:n≤16777216):n≤sizeLine:=by rw [line_eq];exact h
section
variable (a b:Int) (x y:List Nat) (p q:Bool) (ds es:List D)
theorem Ci:F1 (.int a) (.int b)=.ok (.f,.bl (a == b)):=by simp only [F1,plainD,eqD,Bool.and_self,if_true]
theorem Cj:F1 (.str x) (.str y)=.ok (.f,.bl (x == y)):=by simp only [F1,plainD,eqD,Bool.and_self,if_true]
theorem Cm:H0 (.int a) (.int b)=.ok (.f,.bl (!(a == b))):=by simp only [H0,plainD,eqD,Bool.and_self,if_true]
theorem Cn:H0 (.str x) (.str y)=.ok (.f,.bl (!(x == y))):=by simp only [H0,plainD,eqD,Bool.and_self,if_true]
theorem Co:H0 (.bl p) (.bl q)=.ok (.f,.bl (!(p == q))):=by simp only [H0,plainD,eqD,Bool.and_self,if_true]
theorem Ar:addD (.int a) (.int b)=.ok (.f,.int (a + b)):=id rfl
theorem As:o7 (.int a) (.int b)=.ok (.f,.int (a - b)):=id rfl
theorem ym:dw (.int a) (.int b)=if 0 < b∧b < 1073741824 then .ok (.f,.int (a / b)) else .bad:=id rfl
theorem Au:eZ (.int a) (.int b)=if 0 < b then .ok (.f,.int (a % b)) else .bad:=id rfl
theorem Av:vC (.int a) (.int b)=if 0≤b∧b≤1000000∧a.natAbs < 2 ^ 64 then .ok (.f,.int (a ^ b.toNat)) else .bad:=id rfl
theorem Cp:Ht (.int a) (.int b)=.ok (.f,.bl (decide (a < b))):=id rfl
theorem Cq:Ht (.str x) (.str y)=.ok (.f,.bl (decide (x < y))):=id rfl
theorem Cr:OP (.int a) (.int b)=.ok (.f,.bl (decide (a≤b))):=id rfl
theorem Cs:OP (.str x) (.str y)=.ok (.f,.bl (!decide (y < x))):=id rfl
theorem Cu:Nq (.int a) (.int b)=.ok (.f,.bl (decide (b < a))):=id rfl
theorem Cv:geO (.int a) (.int b)=.ok (.f,.bl (decide (b≤a))):=id rfl
theorem Aw:kB [.lst ds]=.ok (.f,.int ds.length):=id rfl
theorem Ax:kB [.tup ds]=.ok (.f,.int ds.length):=id rfl
theorem Ay:kB [.str x]=.ok (.f,.int x.length):=id rfl
theorem Az (tk:Bool):kB [.dct tk ds es]=.ok (.f,.int ds.length):=id rfl
theorem yn:nW [.lst ds]=.ok (.l .f,.lst ds):=id rfl
theorem yo:nW [.tup ds]=.ok (.l .f,.lst ds):=id rfl
theorem vH:dy [.lst ds]=.ok (.f,.tup ds):=id rfl
theorem vI:dy [.tup ds]=.ok (.f,.tup ds):=id rfl
theorem AA:DD [.bl p]=.ok (.f,.int (if p then 1 else 0)):=id rfl
theorem AB:D3 (.lst ds) (.int a)=match EV ds a with | some d=>.ok (.f,d) | none=>.bad:=id rfl
theorem AD:D3 (.tup ds) (.int a)=match EV ds a with | some d=>.ok (.f,d) | none=>.bad:=id rfl
theorem Cw:D3 (.str x) (.int a)=match EV x a with | some c=>.ok (.f,.str [c]) | none=>.bad:=id rfl
theorem Cy (lo hi:Option Int):JH (.lst ds) lo hi=.ok (.l .f,.lst (gu ds lo hi)):=id rfl
theorem Cz (lo hi:Option Int):JH (.str x) lo hi=.ok (.f,.str (gu x lo hi)):=id rfl
theorem AE:maxD [.int a,.int b]=.ok (.f,.int (if a < b then b else a)):=id rfl
theorem AF (bs:List Bool):CW [.lst (bs.map D.bl)]=.ok (.f,.bl (bs.all id)):=by
 unfold CW
 show (match tq (bs.map D.bl) with | some bs=>_ | none=>_)=_
 rw [tu]
theorem CA:Kq (.bl p) (.bl q)=.ok (.f,.bl (p == q)):=id rfl
theorem AG:isnO (.bl p) (.bl q)=.ok (.f,.bl (!(p == q))):=id rfl
theorem at0 {α:Type} (d:α) (l:List α):EV (d :: l) 0=some d:=by
 have:=dX (xs:=d :: l) (j:=0) (v:=d) rfl
 simpa using this
theorem at1 {α:Type} (c d:α) (l:List α):EV (c :: d :: l) 1=some d:=by
 have:=dX (xs:=c :: d :: l) (j:=1) (v:=d) rfl
 simpa using this
end
theorem DW (l:List Int):flatDs (l.map D.int)=true:=by
 rw [bH,List.all_map,List.all_eq_true]
 intro b _
 rfl
theorem vJ (l:List Bool):flatDs (l.map D.bl)=true:=by
 rw [bH,List.all_map,List.all_eq_true]
 intro b _
 rfl
theorem flat_strs (l:List (List Nat)):flatDs (l.map D.str)=true:=by
 rw [bH,List.all_map,List.all_eq_true]
 intro b _
 rfl
theorem yp (d:D):bS .f d=cy d:=by rw [bS]
theorem vK (ds:List D):bS (.l .f) (.lst ds)=flatDs ds:=by rw [bS,mq]
theorem ja (i:Int):cy (.int i)=true:=by rw [cy];all_goals simp
theorem yq (i:Bool):cy (.bl i)=true:=by rw [cy];all_goals simp
theorem vL (i:List Nat):cy (.str i)=true:=by rw [cy];all_goals simp
theorem cw (ds:List D):cy (.tup ds)=flatDs ds:=by rw [cy]
theorem jt (n:Nat) (l:List Int):plainDs n (l.map D.int)=true:=by
 induction l with
 | nil=>rfl
 | cons a l ih=>rw [List.map_cons,plainDs,ih,plainD];all_goals simp
theorem ju (n:Nat) (l:List (List Nat)):plainDs n (l.map D.str)=true:=by
 induction l with
 | nil=>rfl
 | cons a l ih=>rw [List.map_cons,plainDs,ih,plainD];all_goals simp
theorem eqDs_ints:∀ a b:List Int,jj (a.map D.int) (b.map D.int)=(a == b)
 | [],[]=>by simp [jj]
 | [],_ :: _=>by simp [jj]
 | _ :: _,[]=>by simp [jj]
 | a :: r,b :: t=>by
  rw [List.map_cons,List.map_cons,jj,eqD,eqDs_ints r t,Bool.eq_iff_iff]
  simp
theorem vM (a:Int) (l:List Int):rF (.int a) (l.map D.int)=decide (a∈l):=by
 unfold rF
 rw [List.any_map,Bool.eq_iff_iff,List.any_eq_true,decide_eq_true_eq]
 constructor
 ·rintro ⟨x,hx,e⟩
  have e:eqD (.int x) (.int a)=true:=e
  rw [eqD,beq_iff_eq] at e
  rw [←e]
  exact hx
 ·intro h
  refine ⟨a,h,?_⟩
  show eqD (.int a) (.int a)=true
  rw [eqD,beq_self_eq_true]
theorem qw (a:List Nat) (l:List (List Nat)):rF (.str a) (l.map D.str)=decide (a∈l):=by
 unfold rF
 rw [List.any_map,Bool.eq_iff_iff,List.any_eq_true,decide_eq_true_eq]
 constructor
 ·rintro ⟨x,hx,e⟩
  have e:eqD (.str x) (.str a)=true:=e
  rw [eqD,beq_iff_eq] at e
  rw [←e]
  exact hx
 ·intro h
  refine ⟨a,h,?_⟩
  show eqD (.str a) (.str a)=true
  rw [eqD,beq_self_eq_true]
theorem uc (a:Int) (l:List Int):Hj (.int a) (.lst (l.map D.int))=.ok (.f,.bl (decide (a∈l))):=by
 unfold Hj
 dsimp only
 rw [jt,vM,plainD]
 all_goals simp
theorem yr (a:Int) (l:List Int):tw (.int a) (.lst (l.map D.int))=.ok (.f,.bl (!decide (a∈l))):=by
 unfold tw
 rw [uc]
 rfl
theorem AH (a:List Nat) (l:List (List Nat)):Hj (.str a) (.tup (l.map D.str))=.ok (.f,.bl (decide (a∈l))):=by
 unfold Hj
 dsimp only
 rw [ju,qw,plainD]
 all_goals simp
theorem bF {α:Type} {a:FG} {f:FX} {e:α→D} {r:α→D} (I:PV.Env→Prop) (l:List α)
  (h:∀ x∈l,∀ env,I env→∃ DR,a (e x) env=.ok DR∧∃ o E9,f DR=.ok ((o,r x),E9)∧I E9):∀ env,I env→cH a eS f (l.map e) env=.ok (l.map r):=by
 induction l with
 | nil=>intro env _;rfl
 | cons x l ih=>
  intro env hI
  obtain ⟨DR,h1,o,E9,h4,h5⟩:=h x List.mem_cons_self env hI
  have ih:=ih fun y hy=>h y (List.mem_cons_of_mem _ hy)
  rw [List.map_cons,Hc,h1,Eh,Jc,Eh,if_pos rfl,h4,Eh,ih E9 h5]
  rfl
theorem yt {a:FG} {g:FS} (P:Nat→PV.Env→Prop) (ds:List D) (h:∀ i d env,ds[i]?=some d→P i env→∃ DR,a d env=.ok DR∧∃ DZ,(g DR=.ok (.nx DZ)∨g DR=.ok (.ct DZ))∧P (i + 1) DZ) :
  ∀ env,P 0 env→∃ env',jC a g ds env=.ok (.nx env')∧P ds.length env':=by
 have key:∀ (l:List D) (k:Nat) (env:PV.Env),(∀ i d,l[i]?=some d→ds[k + i]?=some d)→P k env→∃ env',jC a g l env=.ok (.nx env')∧P (k + l.length) env':=by
  intro l
  induction l with
  | nil=>exact fun k env _ hp=>⟨env,rfl,hp⟩
  | cons d l ih=>
   intro k env hd hp
   obtain ⟨DR,h1,DZ,h2,h3⟩:=h k d env (hd 0 d rfl) hp
   obtain ⟨env',h4,h5⟩:=ih (k + 1) DZ (fun i d e=>by have:=hd (i + 1) d (by simpa using e);rw [show k + 1 + i=k + (i + 1) by lia];exact this) h3
   refine ⟨env',?_,by rw [List.length_cons,show k + (l.length + 1)=k + 1 + l.length by lia];exact h5⟩
   rw [Fh,h1,Eh]
   rcases h2 with h2 | h2
   ·rw [h2,Eh]
    exact h4
   ·rw [h2,Eh]
    exact h4
 intro env hp
 obtain ⟨env',h1,h2⟩:=key ds 0 env (fun i d e=>by rw [Nat.zero_add];exact e) hp
 exact ⟨env',h1,by rw [Nat.zero_add] at h2;exact h2⟩
section
variable (env:PV.Env) (fo:FO) (fp D0:FP) (a b:Int) (ds:List D) (x:List Nat)
theorem Lk:vG fo fp D0 env=Res.bnd (fo env) (f:=⟨fun p=>Res.bnd (fp p.2) (f:=⟨fun q=>Res.bnd (D0 q.2) (f:=⟨fun t=>Res.bnd (Eg t.2 p.1) (f:=⟨fun d=>Res.bnd (Kr d q.1 t.1) (f:=⟨fun r=>.ok (r,t.2)⟩)⟩)⟩)⟩)⟩):=id rfl
theorem Ll:Cd fo env=Res.bnd (fo env) (f:=⟨fun p=>Res.bnd (Eg p.2 p.1) (f:=⟨fun d=>match d with
 | .int i=>.ok ((.f,.int (-i)),p.2)
 | _=>.bad⟩)⟩):=id rfl
theorem AI (lo hi:Option Int):Kr (.lst ds) lo hi=.ok (.l .f,.lst (gu ds lo hi)):=id rfl
theorem AJ (lo hi:Option Int):Kr (.str x) lo hi=.ok (.f,.str (gu x lo hi)):=id rfl
theorem ud (lo hi:Option Int) (h:HT.sIx ds.length 0 lo=0∧HT.sIx ds.length ds.length hi=ds.length):gu ds lo hi=ds:=by
 unfold gu
 rw [h.1,h.2,List.drop_zero,Nat.sub_zero,List.take_of_length_le (Nat.le_refl _)]
theorem AK (lo hi:Option Int):Kr (.tup ds) lo hi=.ok (.f,.tup (gu ds lo hi)):=by
 unfold Kr
 dsimp only
 split
 ·rename_i h
  rw [ud ds lo hi h]
 ·rename_i h
  unfold JH
  dsimp only
  rw [if_pos h]
theorem ue:x4 (.int a) (.int b)=if cN a || cN b then .ok (.f,.int (a * b)) else if a.natAbs < 2 ^ 1000∧b.natAbs < 2 ^ 1000 then .ok (.f,.int (a * b)) else .bad:=id rfl
end
section
variable (env:PV.Env) (fo:FO) (fs:Fq) (f g:FX) (a b c:Int) (ds es:List D) (x y:List Nat)
theorem Lm (gg:List D→List D→Res R):rH gg fo fs env=Res.bnd (fo env) (f:=⟨fun p=>Res.bnd (Eg p.2 p.1) (f:=⟨fun d=>match d with
 | .tup _=>Res.bnd (fs p.2) (f:=⟨fun q=>Res.bnd (Eg q.2 p.1) (f:=⟨fun d2=>match d2 with
  | .tup l=>Res.bnd (mY q.2 q.1) (f:=⟨fun ds=>Res.bnd (gg l ds) (f:=⟨fun r=>.ok (r,q.2)⟩)⟩)
  | _=>.bad⟩)⟩)
 | _=>.bad⟩)⟩):=id rfl
theorem Ii:x9 fs env=Res.bnd (fs env) (f:=⟨fun p=>Res.bnd (mY p.2 p.1) (f:=⟨fun d=>match d with
 | [.int i,.int j,.int c]=>if qm i j c then .ok ((List.range (Builtin.Range.rangeSize i j c).toNat).map fun (k:Nat)=>D.int (i + (k:Int) * c),p.2) else .bad
 | _=>.bad⟩)⟩):=id rfl
theorem CY (d:D):(∃ l,ji true d=.ok l∧ji false d=.bad∧mx d=some l)∨(∃ l,ji true d=.bad∧ji false d=.ok l∧mx d=some l)∨(ji true d=.bad∧ji false d=.bad∧mx d=none):=by
 cases d with
 | lst l=>exact .inl ⟨l,rfl,rfl,rfl⟩
 | tup l=>exact .inr (.inl ⟨l,rfl,rfl,rfl⟩)
 | _=>exact .inr (.inr ⟨rfl,rfl,rfl⟩)
noncomputable def vN (k1 k2:Bool) (e:PV.Env) (d1 d2:D):Res (List D×PV.Env):=(ji k1 d1).bind fun a=>(ji k2 d2).bind fun b=>.ok ((a.zip b).map fun z=>D.tup [z.1,z.2],e)
noncomputable def CB (e:PV.Env) (d1 d2:D):Res (List D×PV.Env):=match mx d1,mx d2 with | some a,some b=>.ok ((a.zip b).map fun z=>D.tup [z.1,z.2],e) | _,_=>.bad
noncomputable def Ks (a b:Res (List D×PV.Env)):Res (List D×PV.Env):=match a with | .ok a=>.ok a | _=>b
noncomputable def uJ (g:D→D→Res (List D×PV.Env)) (os:List Opd):Res (List D×PV.Env):=match os with | [.val d1,.val d2]=>g d1 d2 | _=>.bad
theorem pC (g h:D→D→Res (List D×PV.Env)) (os:List Opd):Ks (uJ g os) (uJ h os)=uJ (fun a b=>Ks (g a b) (h a b)) os:=by
 unfold uJ
 split <;> rfl
theorem yu (e:PV.Env) (a b:D):Ks (vN true true e a b) (Ks (vN true false e a b) (Ks (vN false true e a b) (vN false false e a b)))=CB e a b:=by
 unfold vN CB
 rcases CY a with ⟨l,h1,h2,h3⟩ | ⟨l,h1,h2,h3⟩ | ⟨h1,h2,h3⟩ <;> rcases CY b with ⟨m,i1,i2,i3⟩ | ⟨m,i1,i2,i3⟩ | ⟨i1,i2,i3⟩ <;> rw [h1,h2,h3,i1,i2,i3] <;> rfl
theorem J5:qY fs env=Res.bnd (fs env) (f:=⟨fun p=>match p.1 with
 | [.val d1,.val d2]=>(match mx d1,mx d2 with | some a,some b=>.ok ((a.zip b).map fun z=>D.tup [z.1,z.2],p.2) | _,_=>.bad)
 | _=>.bad⟩):=by
 unfold qY
 rw [pB,pB,pB,FJ,FJ,FJ,FJ]
 cases fs env with
 | ok p=>
  show Ks (uJ (vN true true p.2) p.1) (Ks (uJ (vN true false p.2) p.1) (Ks (uJ (vN false true p.2) p.1) (uJ (vN false false p.2) p.1)))=uJ (CB p.2) p.1
  rw [pC,pC,pC]
  exact congrArg (fun g=>uJ g p.1) (funext fun a=>funext fun b=>yu p.2 a b)
 | _=>rfl
theorem J6:mx (.lst ds)=some ds:=id rfl
theorem J7:mx (.tup ds)=some ds:=id rfl
theorem J8 (i:Nat):qZ i f g env=Res.bnd (g env) (f:=⟨fun (p:R×PV.Env)=>Res.bnd (f p.2) (f:=⟨fun (q:R×PV.Env)=>match p.2[i]?,q.2[i]? with
 | some (some _),some (some (.l .f,.lst ds))=>(match q.1.2 with
  | .int k=>(match ixN ds.length k with
   | some j=>.ok (.nx (q.2.set i (some (.l .f,.lst (ds.set j p.1.2)))))
   | none=>.bad)
  | _=>.bad)
 | _,_=>.bad⟩)⟩):=id rfl
theorem yv:lp (.int a) (.int b)=x4 (.int a) (.int b):=id rfl
theorem Je:qq f g env=Res.bnd (f env) (f:=⟨fun p=>Res.bnd (g p.2) (f:=⟨fun q=>if eh false p.1.2 then .ok ((.d,.dct false [p.1.2] [q.1.2]),q.2) else .bad⟩)⟩):=id rfl
theorem AL (d:D):Jt d (.lst ds)=Hj d (.lst ds):=id rfl
theorem AM (d:D):Jt d (.tup ds)=Hj d (.tup ds):=id rfl
theorem AN (d:D):Jt d (.str x)=Hj d (.str x):=id rfl
theorem yw (d:D):tP d (.lst ds)=tw d (.lst ds):=id rfl
theorem yx (d:D):tP d (.tup ds)=tw d (.tup ds):=id rfl
theorem AO:eh false (.int a)=true:=id rfl
theorem AQ:eh false (.str x)=true:=id rfl
theorem AR:Br [.int a,.int b]=.ok (.f,.int (if b < a then b else a)):=id rfl
theorem CC:DF [.int a]=.ok (.f,.int (if a < 0 then -a else a)):=id rfl
theorem yy:cp (.int a) (.int b)=.ok (.f,.int (a + b)):=id rfl
theorem yz:cp (.str x) (.str y)=if x.length + y.length≤sizeLine then .ok (.f,.str (x++y)) else .bad:=id rfl
theorem mM:cp (.lst ds) (.lst es)=if ds.length + es.length≤sizeLine then .ok (.l .f,.lst (ds++es)) else .bad:=id rfl
theorem yA:cp (.tup ds) (.tup es)=if ds.length + es.length≤sizeLine∨ds=[] then .ok (.f,.tup (ds++es)) else .bad:=by
 unfold cp
 cases ds with
 | nil=>rw [if_pos (.inr rfl)];rfl
 | cons d ds=>
  dsimp only
  unfold addD
  dsimp only
  by_cases h:(d :: ds).length + es.length≤sizeLine
  ·rw [if_pos ⟨nofun,h⟩,if_pos (.inl h)]
  ·rw [if_neg (fun z=>h z.2),if_neg (fun z=>z.elim h nofun)]
end
section
variable (env:PV.Env) (f g:FX) (ds ks:List D) (i:Nat)
end
section
variable (env:PV.Env) (f:FX) (fs:Fq) (ds:List D) (i:Nat)
end
noncomputable def pv:=(And.intro @Eh (And.intro @bBad (And.intro @K2 (And.intro @HK (And.intro @JL (And.intro @E1 (And.intro @K5 (And.intro @FF (And.intro @Em (And.intro @JM (And.intro @Ey (And.intro @K6 (And.intro @K7 (And.intro @JN (And.intro @JO (And.intro @JP (And.intro @HL (And.intro @I0 (And.intro @EG (And.intro @JQ (And.intro @JR (And.intro @JS (And.intro @Gb (And.intro @FH (And.intro @Mu (And.intro @K8 (And.intro @Mv (And.intro @K9 (And.intro @La (And.intro @Mw (And.intro @Lb (And.intro @Mx (And.intro @Ja (And.intro @GH (And.intro @Gd (And.intro @GI (And.intro @Jb (And.intro @My (And.intro @Lk (And.intro @Ll (And.intro @JT (And.intro @JU (And.intro @Lc (And.intro @JV (And.intro @Mz (And.intro @JW (And.intro @Ld (And.intro @JX (And.intro @JY (And.intro @Hx (And.intro @Hy (And.intro @Hz (And.intro @Jc (And.intro @Jd (And.intro @Hc (And.intro @Le (And.intro @JZ (And.intro @Ig (And.intro @Ih (And.intro @FJ (And.intro @Fg (And.intro @J0 (And.intro @ET (And.intro @HA (And.intro @Ft (And.intro @J2 (And.intro @Lf (And.intro @J3 (And.intro @Lg (And.intro @MA (And.intro @Lh (And.intro @J4 (And.intro @Fh (And.intro @EU (And.intro @Li (And.intro @Lj (And.intro @List.getElem?_cons_zero.{0} (And.intro @List.getElem?_cons_succ.{0} (And.intro @List.set_cons_zero.{0} (And.intro @List.set_cons_succ.{0} (And.intro @List.length_cons.{0} (And.intro @List.length_nil.{0} (And.intro @List.map_cons.{0,0} (And.intro @List.map_nil.{0,0} (And.intro @List.replicate_succ.{0} (And.intro @List.replicate_zero.{0} (And.intro @List.cons_append.{0} (And.intro @List.nil_append.{0} (And.intro @Nat.zero_add (And.intro @Lm (And.intro @Ii (And.intro @J5 (And.intro @J6 (And.intro @J7 (And.intro @J8 (And.intro @Je (And.intro @Mp (And.intro @Mq (And.intro @Mr (And.intro @Ms (And.intro @Mt (And.intro @K3 (And.intro @K4 (And.intro @JK (And.intro @IY @IZ)))))))))))))))))))))))))))))))))))))))))))))))))))))))))))))))))))))))))))))))))))))))))))))))))))))))))
noncomputable def op:=(And.intro @Ci (And.intro @Cj (And.intro @Cm (And.intro @Cn (And.intro @Co (And.intro @Ar (And.intro @As (And.intro @Cp (And.intro @Cq (And.intro @Cr (And.intro @Cs (And.intro @Cu (And.intro @Cv (And.intro @Aw (And.intro @Ax (And.intro @Ay (And.intro @Az (And.intro @yn (And.intro @yo (And.intro @vH (And.intro @vI (And.intro @AA (And.intro @AB (And.intro @AD (And.intro @Cw (And.intro @Cy (And.intro @Cz (And.intro @AI (And.intro @AJ (And.intro @AK (And.intro @AE (And.intro @CA (And.intro @AG (And.intro @at0 (And.intro @at1 (And.intro @uc (And.intro @yr (And.intro @AH (And.intro @AF (And.intro @yp (And.intro @vK (And.intro @ja (And.intro @yq (And.intro @vL (And.intro @DW (And.intro @vJ (And.intro @PV.flat_strs (And.intro @cw (And.intro @AR (And.intro @CC (And.intro @yy (And.intro @yv (And.intro @AL (And.intro @AM (And.intro @AN (And.intro @yw (And.intro @yx (And.intro @AO @AQ))))))))))))))))))))))))))))))))))))))))))))))))))))))))))
noncomputable def put (i:Nat) (r:R) (e:PV.Env):Res Out:=if i < e.length then .ok (.nx (e.set i (some r))) else .bad
theorem oV (n:Nat) (w:PV.Env):(ao n w=.ok (.var n,w))∨(ao n w=.bad∧Eg w (.var n)=.bad∧ft w (.var n)=.bad):=by
 unfold ao Eg ft
 dsimp only
 cases w[n]? with
 | none=>exact .inr ⟨rfl,rfl,rfl⟩
 | some r=>
  cases r with
  | none=>exact .inr ⟨rfl,rfl,rfl⟩
  | some r=>exact .inl rfl
theorem dV (n:Nat) (w:PV.Env):(∃ d,Eg w (.var n)=.ok d)∨Eg w (.var n)=.bad:=by
 unfold Eg
 dsimp only
 split
 ·split
  ·exact .inl ⟨_,rfl⟩
  ·exact .inr rfl
 ·exact .inr rfl
theorem dA (n:Nat) (w:PV.Env):(∃ d,ft w (.var n)=.ok d)∨ft w (.var n)=.bad:=by
 unfold ft
 dsimp only
 split
 ·exact .inl ⟨_,rfl⟩
 ·exact .inr rfl
section
variable (w:PV.Env) (op:D→D→Res R) (F:List D→Res R) (f g h:FX) (n n' Nv:Nat) (x y:D)
theorem MB:bE n f w=Res.bnd (f w) (f:=⟨fun p=>put n p.1 p.2⟩):=id rfl
theorem MC:ay op (aj f) (ao n) w=Res.bnd (f w) (f:=⟨fun p=>Res.bnd (Eg p.2 (.var n)) (f:=⟨fun b=>Res.bnd (op p.1.2 b) (f:=⟨fun r=>.ok (r,p.2)⟩)⟩)⟩):=by
 rw [Gb,E1]
 cases f w with
 | ok p=>
  rw [Eh,Eh,Eh]
  rcases oV n p.2 with e | ⟨e,e1,_⟩
  ·rw [e];rfl
  ·rw [e,e1];rfl
 | exc c=>rfl
 | bad=>rfl
theorem Kt:bR op (aj f) (ao n) w=Res.bnd (f w) (f:=⟨fun p=>Res.bnd (ft p.2 (.var n)) (f:=⟨fun b=>Res.bnd (op p.1.2 b) (f:=⟨fun r=>.ok (r,p.2)⟩)⟩)⟩):=by
 rw [FH,E1]
 cases f w with
 | ok p=>
  rw [Eh,Eh,Eh]
  rcases oV n p.2 with e | ⟨e,_,e1⟩
  ·rw [e];rfl
  ·rw [e,e1];rfl
 | exc c=>rfl
 | bad=>rfl
theorem y_lv:ay op (aj (aH x)) (ao n) w=Res.bnd (Eg w (.var n)) (f:=⟨fun b=>Res.bnd (op x b) (f:=⟨fun r=>.ok (r,w)⟩)⟩):=MC w op (aH x) n
theorem MD:bR op (aj (aH x)) (ao n) w=Res.bnd (ft w (.var n)) (f:=⟨fun b=>Res.bnd (op x b) (f:=⟨fun r=>.ok (r,w)⟩)⟩):=Kt w op (aH x) n
theorem ME:ay op (aj f) (aj g) w=Res.bnd (f w) (f:=⟨fun p=>Res.bnd (g p.2) (f:=⟨fun q=>Res.bnd (op p.1.2 q.1.2) (f:=⟨fun r=>.ok (r,q.2)⟩)⟩)⟩):=by
 rw [Gb,E1]
 cases f w with
 | ok p=>
  rw [Eh,Eh,Eh,E1]
  cases g p.2 <;> rfl
 | exc c=>rfl
 | bad=>rfl
theorem Ku:bR op (aj f) (aj g) w=Res.bnd (f w) (f:=⟨fun p=>Res.bnd (g p.2) (f:=⟨fun q=>Res.bnd (op p.1.2 q.1.2) (f:=⟨fun r=>.ok (r,q.2)⟩)⟩)⟩):=by
 rw [FH,E1]
 cases f w with
 | ok p=>
  rw [Eh,Eh,Eh,E1]
  cases g p.2 <;> rfl
 | exc c=>rfl
 | bad=>rfl
theorem y_fl:ay op (aj f) (aj (aH y)) w=Res.bnd (f w) (f:=⟨fun p=>Res.bnd (op p.1.2 y) (f:=⟨fun r=>.ok (r,p.2)⟩)⟩):=ME w op f (aH y)
theorem MF:bR op (aj f) (aj (aH y)) w=Res.bnd (f w) (f:=⟨fun p=>Res.bnd (op p.1.2 y) (f:=⟨fun r=>.ok (r,p.2)⟩)⟩):=Ku w op f (aH y)
theorem y_vl:ay op (ao n) (aj (aH y)) w=Res.bnd (Eg w (.var n)) (f:=⟨fun a=>Res.bnd (op a y) (f:=⟨fun r=>.ok (r,w)⟩)⟩):=by
 rw [Gb]
 rcases oV n w with e | ⟨e,e1,_⟩
 ·rw [e];rfl
 ·rw [e,e1];rfl
theorem MG:bR op (ao n) (aj (aH y)) w=Res.bnd (ft w (.var n)) (f:=⟨fun a=>Res.bnd (op a y) (f:=⟨fun r=>.ok (r,w)⟩)⟩):=by
 rw [FH]
 rcases oV n w with e | ⟨e,_,e1⟩
 ·rw [e];rfl
 ·rw [e,e1];rfl
theorem y_vv:ay op (ao n) (ao n') w=Res.bnd (Eg w (.var n)) (f:=⟨fun a=>Res.bnd (Eg w (.var n')) (f:=⟨fun b=>Res.bnd (op a b) (f:=⟨fun r=>.ok (r,w)⟩)⟩)⟩):=by
 rw [Gb]
 rcases oV n w with e | ⟨e,e1,_⟩
 ·rw [e,Eh]
  rcases oV n' w with e' | ⟨e',e1,_⟩
  ·rw [e'];rfl
  ·rw [e',e1]
   rcases dV n w with ⟨d,e2⟩ | e2 <;> rw [e2] <;> rfl
 ·rw [e,e1];rfl
theorem MH:bR op (ao n) (ao n') w=Res.bnd (ft w (.var n)) (f:=⟨fun a=>Res.bnd (ft w (.var n')) (f:=⟨fun b=>Res.bnd (op a b) (f:=⟨fun r=>.ok (r,w)⟩)⟩)⟩):=by
 rw [FH]
 rcases oV n w with e | ⟨e,_,e1⟩
 ·rw [e,Eh]
  rcases oV n' w with e' | ⟨e',_,e1⟩
  ·rw [e'];rfl
  ·rw [e',e1]
   rcases dA n w with ⟨d,e2⟩ | e2 <;> rw [e2] <;> rfl
 ·rw [e,e1];rfl
theorem y_c1:bg F (ah (ao n) aF) w=Res.bnd (Eg w (.var n)) (f:=⟨fun d=>Res.bnd (F [d]) (f:=⟨fun r=>.ok (r,w)⟩)⟩):=by
 rw [GH,Em]
 rcases oV n w with e | ⟨e,e1,_⟩
 ·rw [e,Eh,FF,Eh,Eh,HL]
  rcases dV n w with ⟨d,e2⟩ | e2 <;> rw [e2] <;> rfl
 ·rw [e,e1];rfl
theorem y_cf:bg F (ah (aj f) aF) w=Res.bnd (f w) (f:=⟨fun p=>Res.bnd (F [p.1.2]) (f:=⟨fun r=>.ok (r,p.2)⟩)⟩):=by
 rw [GH,Em,E1]
 cases f w <;> rfl
theorem y_u1:c7 F (ah (ao n) aF) w=Res.bnd (ft w (.var n)) (f:=⟨fun d=>Res.bnd (F [d]) (f:=⟨fun r=>.ok (r,if bS r.1 r.2 then w else w.map frz)⟩)⟩):=by
 rw [Gd,Em]
 rcases oV n w with e | ⟨e,_,e1⟩
 ·rw [e,Eh,FF,Eh,Eh,EG]
  rcases dA n w with ⟨d,e2⟩ | e2 <;> rw [e2] <;> rfl
 ·rw [e,e1];rfl
theorem y_uf:c7 F (ah (aj f) aF) w=Res.bnd (f w) (f:=⟨fun p=>Res.bnd (F [p.1.2]) (f:=⟨fun r=>.ok (r,if bS r.1 r.2 then p.2 else p.2.map frz)⟩)⟩):=by
 rw [Gd,Em,E1]
 cases f w <;> rfl
theorem y_u2:c7 F (ah (ao n) (ah (ao n') aF)) w=Res.bnd (ft w (.var n)) (f:=⟨fun d=>Res.bnd (ft w (.var n')) (f:=⟨fun d'=>Res.bnd (F [d,d']) (f:=⟨fun r=>.ok (r,if bS r.1 r.2 then w else w.map frz)⟩)⟩)⟩):=by
 rw [Gd,Em]
 rcases oV n w with e | ⟨e,_,e1⟩
 ·rw [e,Eh,Em]
  rcases oV n' w with e' | ⟨e',_,KR⟩
  ·rw [e',Eh,FF,Eh,Eh,Eh,EG,EG]
   rcases dA n w with ⟨d,e2⟩ | e2 <;> rw [e2] <;> rcases dA n' w with ⟨d',e3⟩ | e3 <;> rw [e3] <;> rfl
  ·rw [e',KR]
   rcases dA n w with ⟨d,e2⟩ | e2 <;> rw [e2] <;> rfl
 ·rw [e,e1];rfl
theorem y_u3:c7 F (ah (ao n) (ah (ao n') (ah (ao Nv) aF))) w=Res.bnd (ft w (.var n)) (f:=⟨fun d=>Res.bnd (ft w (.var n')) (f:=⟨fun d'=>Res.bnd (ft w (.var Nv)) (f:=⟨fun O4=>Res.bnd (F [d,d',O4]) (f:=⟨fun r=>.ok (r,if bS r.1 r.2 then w else w.map frz)⟩)⟩)⟩)⟩):=by
 rw [Gd,Em]
 rcases oV n w with e | ⟨e,_,e1⟩
 ·rw [e,Eh,Em]
  rcases oV n' w with e' | ⟨e',_,KR⟩
  ·rw [e',Eh,Em]
   rcases oV Nv w with e'' | ⟨e'',_,e1''⟩
   ·rw [e'',Eh,FF,Eh,Eh,Eh,Eh,EG,EG,EG]
    rcases dA n w with ⟨d,e2⟩ | e2 <;> rw [e2] <;> rcases dA n' w with ⟨d',e3⟩ | e3 <;> rw [e3] <;> rcases dA Nv w with ⟨O4,e4⟩ | e4 <;> rw [e4] <;> rfl
   ·rw [e'',e1'']
    rcases dA n w with ⟨d,e2⟩ | e2 <;> rw [e2] <;> rcases dA n' w with ⟨d',e3⟩ | e3 <;> rw [e3] <;> rfl
  ·rw [e',KR]
   rcases dA n w with ⟨d,e2⟩ | e2 <;> rw [e2] <;> rfl
 ·rw [e,e1];rfl
theorem y_t1:g9 (az f a7) w=Res.bnd (f w) (f:=⟨fun p=>.ok ((.f,.tup [p.1.2]),p.2)⟩):=by
 rw [GI,Ey]
 cases f w <;> rfl
theorem y_t2:g9 (az f (az g a7)) w=Res.bnd (f w) (f:=⟨fun p=>Res.bnd (g p.2) (f:=⟨fun q=>.ok ((.f,.tup [p.1.2,q.1.2]),q.2)⟩)⟩):=by
 rw [GI,Ey]
 cases f w with
 | ok p=>
  rw [Eh,Eh,Ey]
  cases g p.2 <;> rfl
 | exc c=>rfl
 | bad=>rfl
theorem y_t3:g9 (az f (az g (az h a7))) w=Res.bnd (f w) (f:=⟨fun p=>Res.bnd (g p.2) (f:=⟨fun q=>Res.bnd (h q.2) (f:=⟨fun t=>.ok ((.f,.tup [p.1.2,q.1.2,t.1.2]),t.2)⟩)⟩)⟩):=by
 rw [GI,Ey]
 cases f w with
 | ok p=>
  rw [Eh,Eh,Ey]
  cases g p.2 with
  | ok q=>
   rw [Eh,Eh,Ey]
   cases h q.2 <;> rfl
  | exc c=>rfl
  | bad=>rfl
 | exc c=>rfl
 | bad=>rfl
theorem y_l0:jD a7 w=.ok ((.l .f,.lst []),w):=id rfl
theorem y_l1:jD (az f a7) w=Res.bnd (f w) (f:=⟨fun p=>.ok ((.l .f,.lst [p.1.2]),p.2)⟩):=by
 rw [Jb,Ey]
 cases f w <;> rfl
end
section
variable (a b c d e g h i j k l m:Option R) (z:PV.Env) (r:R) (o:O) (x:D) {ρ:Type}
theorem y_o0 (q:Opd×PV.Env→Res ρ):Res.bnd (f:=⟨q⟩) (ao 0 (some r :: z))=q (.var 0,(some r :: z)):=id rfl
theorem y_d0 (q:D→Res ρ):Res.bnd (f:=⟨q⟩) (Eg (some (.f,x) :: z) (.var 0))=q x:=id rfl
theorem y_e0 (q:D→Res ρ):Res.bnd (f:=⟨q⟩) (Eg (some (.l .f,x) :: z) (.var 0))=q x:=id rfl
theorem y_a0 (q:D→Res ρ):Res.bnd (f:=⟨q⟩) (ft (some r :: z) (.var 0))=q r.2:=id rfl
theorem y_f0 (q:R×PV.Env→Res ρ):Res.bnd (f:=⟨q⟩) (aK 0 (some (.f,x) :: z))=q ((.f,x),(some (.f,x) :: z)):=id rfl
theorem y_g0 (q:R×PV.Env→Res ρ):Res.bnd (f:=⟨q⟩) (aK 0 (some (.l o,x) :: z))=q ((.f,x),(some (.f,x) :: z)):=id rfl
theorem y_m0 (q:R×PV.Env→Res ρ):Res.bnd (f:=⟨q⟩) (eY 0 (some r :: z))=q (r,(none :: z)):=id rfl
theorem y_n0 (q:PV.Env→Res ρ):Res.bnd (f:=⟨q⟩) (aw 0 x (m :: z))=q (some (.f,x) :: z):=id rfl
theorem y_s0:aw 0 x (m :: z)=.ok (some (.f,x) :: z):=id rfl
theorem y_p0:put 0 r (m :: z)=.ok (.nx (some r :: z)):=id rfl
theorem y_o1 (q:Opd×PV.Env→Res ρ):Res.bnd (f:=⟨q⟩) (ao 1 (a :: some r :: z))=q (.var 1,(a :: some r :: z)):=id rfl
theorem y_d1 (q:D→Res ρ):Res.bnd (f:=⟨q⟩) (Eg (a :: some (.f,x) :: z) (.var 1))=q x:=id rfl
theorem y_e1 (q:D→Res ρ):Res.bnd (f:=⟨q⟩) (Eg (a :: some (.l .f,x) :: z) (.var 1))=q x:=id rfl
theorem y_a1 (q:D→Res ρ):Res.bnd (f:=⟨q⟩) (ft (a :: some r :: z) (.var 1))=q r.2:=id rfl
theorem y_f1 (q:R×PV.Env→Res ρ):Res.bnd (f:=⟨q⟩) (aK 1 (a :: some (.f,x) :: z))=q ((.f,x),(a :: some (.f,x) :: z)):=id rfl
theorem y_g1 (q:R×PV.Env→Res ρ):Res.bnd (f:=⟨q⟩) (aK 1 (a :: some (.l o,x) :: z))=q ((.f,x),(a :: some (.f,x) :: z)):=id rfl
theorem y_m1 (q:R×PV.Env→Res ρ):Res.bnd (f:=⟨q⟩) (eY 1 (a :: some r :: z))=q (r,(a :: none :: z)):=id rfl
theorem y_n1 (q:PV.Env→Res ρ):Res.bnd (f:=⟨q⟩) (aw 1 x (a :: m :: z))=q (a :: some (.f,x) :: z):=id rfl
theorem y_s1:aw 1 x (a :: m :: z)=.ok (a :: some (.f,x) :: z):=id rfl
theorem y_p1:put 1 r (a :: m :: z)=.ok (.nx (a :: some r :: z)):=id rfl
theorem y_o2 (q:Opd×PV.Env→Res ρ):Res.bnd (f:=⟨q⟩) (ao 2 (a :: b :: some r :: z))=q (.var 2,(a :: b :: some r :: z)):=id rfl
theorem y_d2 (q:D→Res ρ):Res.bnd (f:=⟨q⟩) (Eg (a :: b :: some (.f,x) :: z) (.var 2))=q x:=id rfl
theorem y_e2 (q:D→Res ρ):Res.bnd (f:=⟨q⟩) (Eg (a :: b :: some (.l .f,x) :: z) (.var 2))=q x:=id rfl
theorem y_a2 (q:D→Res ρ):Res.bnd (f:=⟨q⟩) (ft (a :: b :: some r :: z) (.var 2))=q r.2:=id rfl
theorem y_f2 (q:R×PV.Env→Res ρ):Res.bnd (f:=⟨q⟩) (aK 2 (a :: b :: some (.f,x) :: z))=q ((.f,x),(a :: b :: some (.f,x) :: z)):=id rfl
theorem y_g2 (q:R×PV.Env→Res ρ):Res.bnd (f:=⟨q⟩) (aK 2 (a :: b :: some (.l o,x) :: z))=q ((.f,x),(a :: b :: some (.f,x) :: z)):=id rfl
theorem y_m2 (q:R×PV.Env→Res ρ):Res.bnd (f:=⟨q⟩) (eY 2 (a :: b :: some r :: z))=q (r,(a :: b :: none :: z)):=id rfl
theorem y_n2 (q:PV.Env→Res ρ):Res.bnd (f:=⟨q⟩) (aw 2 x (a :: b :: m :: z))=q (a :: b :: some (.f,x) :: z):=id rfl
theorem y_s2:aw 2 x (a :: b :: m :: z)=.ok (a :: b :: some (.f,x) :: z):=id rfl
theorem y_p2:put 2 r (a :: b :: m :: z)=.ok (.nx (a :: b :: some r :: z)):=id rfl
theorem y_o3 (q:Opd×PV.Env→Res ρ):Res.bnd (f:=⟨q⟩) (ao 3 (a :: b :: c :: some r :: z))=q (.var 3,(a :: b :: c :: some r :: z)):=id rfl
theorem y_d3 (q:D→Res ρ):Res.bnd (f:=⟨q⟩) (Eg (a :: b :: c :: some (.f,x) :: z) (.var 3))=q x:=id rfl
theorem y_e3 (q:D→Res ρ):Res.bnd (f:=⟨q⟩) (Eg (a :: b :: c :: some (.l .f,x) :: z) (.var 3))=q x:=id rfl
theorem y_a3 (q:D→Res ρ):Res.bnd (f:=⟨q⟩) (ft (a :: b :: c :: some r :: z) (.var 3))=q r.2:=id rfl
theorem y_f3 (q:R×PV.Env→Res ρ):Res.bnd (f:=⟨q⟩) (aK 3 (a :: b :: c :: some (.f,x) :: z))=q ((.f,x),(a :: b :: c :: some (.f,x) :: z)):=id rfl
theorem y_g3 (q:R×PV.Env→Res ρ):Res.bnd (f:=⟨q⟩) (aK 3 (a :: b :: c :: some (.l o,x) :: z))=q ((.f,x),(a :: b :: c :: some (.f,x) :: z)):=id rfl
theorem y_m3 (q:R×PV.Env→Res ρ):Res.bnd (f:=⟨q⟩) (eY 3 (a :: b :: c :: some r :: z))=q (r,(a :: b :: c :: none :: z)):=id rfl
theorem y_n3 (q:PV.Env→Res ρ):Res.bnd (f:=⟨q⟩) (aw 3 x (a :: b :: c :: m :: z))=q (a :: b :: c :: some (.f,x) :: z):=id rfl
theorem y_s3:aw 3 x (a :: b :: c :: m :: z)=.ok (a :: b :: c :: some (.f,x) :: z):=id rfl
theorem y_p3:put 3 r (a :: b :: c :: m :: z)=.ok (.nx (a :: b :: c :: some r :: z)):=id rfl
theorem y_o4 (q:Opd×PV.Env→Res ρ):Res.bnd (f:=⟨q⟩) (ao 4 (a :: b :: c :: d :: some r :: z))=q (.var 4,(a :: b :: c :: d :: some r :: z)):=id rfl
theorem y_d4 (q:D→Res ρ):Res.bnd (f:=⟨q⟩) (Eg (a :: b :: c :: d :: some (.f,x) :: z) (.var 4))=q x:=id rfl
theorem y_e4 (q:D→Res ρ):Res.bnd (f:=⟨q⟩) (Eg (a :: b :: c :: d :: some (.l .f,x) :: z) (.var 4))=q x:=id rfl
theorem y_a4 (q:D→Res ρ):Res.bnd (f:=⟨q⟩) (ft (a :: b :: c :: d :: some r :: z) (.var 4))=q r.2:=id rfl
theorem y_f4 (q:R×PV.Env→Res ρ):Res.bnd (f:=⟨q⟩) (aK 4 (a :: b :: c :: d :: some (.f,x) :: z))=q ((.f,x),(a :: b :: c :: d :: some (.f,x) :: z)):=id rfl
theorem y_g4 (q:R×PV.Env→Res ρ):Res.bnd (f:=⟨q⟩) (aK 4 (a :: b :: c :: d :: some (.l o,x) :: z))=q ((.f,x),(a :: b :: c :: d :: some (.f,x) :: z)):=id rfl
theorem y_m4 (q:R×PV.Env→Res ρ):Res.bnd (f:=⟨q⟩) (eY 4 (a :: b :: c :: d :: some r :: z))=q (r,(a :: b :: c :: d :: none :: z)):=id rfl
theorem y_n4 (q:PV.Env→Res ρ):Res.bnd (f:=⟨q⟩) (aw 4 x (a :: b :: c :: d :: m :: z))=q (a :: b :: c :: d :: some (.f,x) :: z):=id rfl
theorem y_s4:aw 4 x (a :: b :: c :: d :: m :: z)=.ok (a :: b :: c :: d :: some (.f,x) :: z):=id rfl
theorem y_p4:put 4 r (a :: b :: c :: d :: m :: z)=.ok (.nx (a :: b :: c :: d :: some r :: z)):=id rfl
theorem y_o5 (q:Opd×PV.Env→Res ρ):Res.bnd (f:=⟨q⟩) (ao 5 (a :: b :: c :: d :: e :: some r :: z))=q (.var 5,(a :: b :: c :: d :: e :: some r :: z)):=id rfl
theorem y_d5 (q:D→Res ρ):Res.bnd (f:=⟨q⟩) (Eg (a :: b :: c :: d :: e :: some (.f,x) :: z) (.var 5))=q x:=id rfl
theorem y_e5 (q:D→Res ρ):Res.bnd (f:=⟨q⟩) (Eg (a :: b :: c :: d :: e :: some (.l .f,x) :: z) (.var 5))=q x:=id rfl
theorem y_a5 (q:D→Res ρ):Res.bnd (f:=⟨q⟩) (ft (a :: b :: c :: d :: e :: some r :: z) (.var 5))=q r.2:=id rfl
theorem y_f5 (q:R×PV.Env→Res ρ):Res.bnd (f:=⟨q⟩) (aK 5 (a :: b :: c :: d :: e :: some (.f,x) :: z))=q ((.f,x),(a :: b :: c :: d :: e :: some (.f,x) :: z)):=id rfl
theorem y_g5 (q:R×PV.Env→Res ρ):Res.bnd (f:=⟨q⟩) (aK 5 (a :: b :: c :: d :: e :: some (.l o,x) :: z))=q ((.f,x),(a :: b :: c :: d :: e :: some (.f,x) :: z)):=id rfl
theorem y_m5 (q:R×PV.Env→Res ρ):Res.bnd (f:=⟨q⟩) (eY 5 (a :: b :: c :: d :: e :: some r :: z))=q (r,(a :: b :: c :: d :: e :: none :: z)):=id rfl
theorem y_n5 (q:PV.Env→Res ρ):Res.bnd (f:=⟨q⟩) (aw 5 x (a :: b :: c :: d :: e :: m :: z))=q (a :: b :: c :: d :: e :: some (.f,x) :: z):=id rfl
theorem y_s5:aw 5 x (a :: b :: c :: d :: e :: m :: z)=.ok (a :: b :: c :: d :: e :: some (.f,x) :: z):=id rfl
theorem y_p5:put 5 r (a :: b :: c :: d :: e :: m :: z)=.ok (.nx (a :: b :: c :: d :: e :: some r :: z)):=id rfl
theorem y_o6 (q:Opd×PV.Env→Res ρ):Res.bnd (f:=⟨q⟩) (ao 6 (a :: b :: c :: d :: e :: g :: some r :: z))=q (.var 6,(a :: b :: c :: d :: e :: g :: some r :: z)):=id rfl
theorem y_d6 (q:D→Res ρ):Res.bnd (f:=⟨q⟩) (Eg (a :: b :: c :: d :: e :: g :: some (.f,x) :: z) (.var 6))=q x:=id rfl
theorem y_e6 (q:D→Res ρ):Res.bnd (f:=⟨q⟩) (Eg (a :: b :: c :: d :: e :: g :: some (.l .f,x) :: z) (.var 6))=q x:=id rfl
theorem y_a6 (q:D→Res ρ):Res.bnd (f:=⟨q⟩) (ft (a :: b :: c :: d :: e :: g :: some r :: z) (.var 6))=q r.2:=id rfl
theorem y_f6 (q:R×PV.Env→Res ρ):Res.bnd (f:=⟨q⟩) (aK 6 (a :: b :: c :: d :: e :: g :: some (.f,x) :: z))=q ((.f,x),(a :: b :: c :: d :: e :: g :: some (.f,x) :: z)):=id rfl
theorem y_g6 (q:R×PV.Env→Res ρ):Res.bnd (f:=⟨q⟩) (aK 6 (a :: b :: c :: d :: e :: g :: some (.l o,x) :: z))=q ((.f,x),(a :: b :: c :: d :: e :: g :: some (.f,x) :: z)):=id rfl
theorem y_m6 (q:R×PV.Env→Res ρ):Res.bnd (f:=⟨q⟩) (eY 6 (a :: b :: c :: d :: e :: g :: some r :: z))=q (r,(a :: b :: c :: d :: e :: g :: none :: z)):=id rfl
theorem y_n6 (q:PV.Env→Res ρ):Res.bnd (f:=⟨q⟩) (aw 6 x (a :: b :: c :: d :: e :: g :: m :: z))=q (a :: b :: c :: d :: e :: g :: some (.f,x) :: z):=id rfl
theorem y_s6:aw 6 x (a :: b :: c :: d :: e :: g :: m :: z)=.ok (a :: b :: c :: d :: e :: g :: some (.f,x) :: z):=id rfl
theorem y_p6:put 6 r (a :: b :: c :: d :: e :: g :: m :: z)=.ok (.nx (a :: b :: c :: d :: e :: g :: some r :: z)):=id rfl
theorem y_o7 (q:Opd×PV.Env→Res ρ):Res.bnd (f:=⟨q⟩) (ao 7 (a :: b :: c :: d :: e :: g :: h :: some r :: z))=q (.var 7,(a :: b :: c :: d :: e :: g :: h :: some r :: z)):=id rfl
theorem y_d7 (q:D→Res ρ):Res.bnd (f:=⟨q⟩) (Eg (a :: b :: c :: d :: e :: g :: h :: some (.f,x) :: z) (.var 7))=q x:=id rfl
theorem y_e7 (q:D→Res ρ):Res.bnd (f:=⟨q⟩) (Eg (a :: b :: c :: d :: e :: g :: h :: some (.l .f,x) :: z) (.var 7))=q x:=id rfl
theorem y_a7 (q:D→Res ρ):Res.bnd (f:=⟨q⟩) (ft (a :: b :: c :: d :: e :: g :: h :: some r :: z) (.var 7))=q r.2:=id rfl
theorem y_f7 (q:R×PV.Env→Res ρ):Res.bnd (f:=⟨q⟩) (aK 7 (a :: b :: c :: d :: e :: g :: h :: some (.f,x) :: z))=q ((.f,x),(a :: b :: c :: d :: e :: g :: h :: some (.f,x) :: z)):=id rfl
theorem y_g7 (q:R×PV.Env→Res ρ):Res.bnd (f:=⟨q⟩) (aK 7 (a :: b :: c :: d :: e :: g :: h :: some (.l o,x) :: z))=q ((.f,x),(a :: b :: c :: d :: e :: g :: h :: some (.f,x) :: z)):=id rfl
theorem y_m7 (q:R×PV.Env→Res ρ):Res.bnd (f:=⟨q⟩) (eY 7 (a :: b :: c :: d :: e :: g :: h :: some r :: z))=q (r,(a :: b :: c :: d :: e :: g :: h :: none :: z)):=id rfl
theorem y_n7 (q:PV.Env→Res ρ):Res.bnd (f:=⟨q⟩) (aw 7 x (a :: b :: c :: d :: e :: g :: h :: m :: z))=q (a :: b :: c :: d :: e :: g :: h :: some (.f,x) :: z):=id rfl
theorem y_s7:aw 7 x (a :: b :: c :: d :: e :: g :: h :: m :: z)=.ok (a :: b :: c :: d :: e :: g :: h :: some (.f,x) :: z):=id rfl
theorem y_p7:put 7 r (a :: b :: c :: d :: e :: g :: h :: m :: z)=.ok (.nx (a :: b :: c :: d :: e :: g :: h :: some r :: z)):=id rfl
theorem y_o8 (q:Opd×PV.Env→Res ρ):Res.bnd (f:=⟨q⟩) (ao 8 (a :: b :: c :: d :: e :: g :: h :: i :: some r :: z))=q (.var 8,(a :: b :: c :: d :: e :: g :: h :: i :: some r :: z)):=id rfl
theorem y_d8 (q:D→Res ρ):Res.bnd (f:=⟨q⟩) (Eg (a :: b :: c :: d :: e :: g :: h :: i :: some (.f,x) :: z) (.var 8))=q x:=id rfl
theorem y_e8 (q:D→Res ρ):Res.bnd (f:=⟨q⟩) (Eg (a :: b :: c :: d :: e :: g :: h :: i :: some (.l .f,x) :: z) (.var 8))=q x:=id rfl
theorem y_a8 (q:D→Res ρ):Res.bnd (f:=⟨q⟩) (ft (a :: b :: c :: d :: e :: g :: h :: i :: some r :: z) (.var 8))=q r.2:=id rfl
theorem y_f8 (q:R×PV.Env→Res ρ):Res.bnd (f:=⟨q⟩) (aK 8 (a :: b :: c :: d :: e :: g :: h :: i :: some (.f,x) :: z))=q ((.f,x),(a :: b :: c :: d :: e :: g :: h :: i :: some (.f,x) :: z)):=id rfl
theorem y_g8 (q:R×PV.Env→Res ρ):Res.bnd (f:=⟨q⟩) (aK 8 (a :: b :: c :: d :: e :: g :: h :: i :: some (.l o,x) :: z))=q ((.f,x),(a :: b :: c :: d :: e :: g :: h :: i :: some (.f,x) :: z)):=id rfl
theorem y_m8 (q:R×PV.Env→Res ρ):Res.bnd (f:=⟨q⟩) (eY 8 (a :: b :: c :: d :: e :: g :: h :: i :: some r :: z))=q (r,(a :: b :: c :: d :: e :: g :: h :: i :: none :: z)):=id rfl
theorem y_n8 (q:PV.Env→Res ρ):Res.bnd (f:=⟨q⟩) (aw 8 x (a :: b :: c :: d :: e :: g :: h :: i :: m :: z))=q (a :: b :: c :: d :: e :: g :: h :: i :: some (.f,x) :: z):=id rfl
theorem y_s8:aw 8 x (a :: b :: c :: d :: e :: g :: h :: i :: m :: z)=.ok (a :: b :: c :: d :: e :: g :: h :: i :: some (.f,x) :: z):=id rfl
theorem y_p8:put 8 r (a :: b :: c :: d :: e :: g :: h :: i :: m :: z)=.ok (.nx (a :: b :: c :: d :: e :: g :: h :: i :: some r :: z)):=id rfl
theorem y_o9 (q:Opd×PV.Env→Res ρ):Res.bnd (f:=⟨q⟩) (ao 9 (a :: b :: c :: d :: e :: g :: h :: i :: j :: some r :: z))=q (.var 9,(a :: b :: c :: d :: e :: g :: h :: i :: j :: some r :: z)):=id rfl
theorem y_d9 (q:D→Res ρ):Res.bnd (f:=⟨q⟩) (Eg (a :: b :: c :: d :: e :: g :: h :: i :: j :: some (.f,x) :: z) (.var 9))=q x:=id rfl
theorem y_e9 (q:D→Res ρ):Res.bnd (f:=⟨q⟩) (Eg (a :: b :: c :: d :: e :: g :: h :: i :: j :: some (.l .f,x) :: z) (.var 9))=q x:=id rfl
theorem y_a9 (q:D→Res ρ):Res.bnd (f:=⟨q⟩) (ft (a :: b :: c :: d :: e :: g :: h :: i :: j :: some r :: z) (.var 9))=q r.2:=id rfl
theorem y_f9 (q:R×PV.Env→Res ρ):Res.bnd (f:=⟨q⟩) (aK 9 (a :: b :: c :: d :: e :: g :: h :: i :: j :: some (.f,x) :: z))=q ((.f,x),(a :: b :: c :: d :: e :: g :: h :: i :: j :: some (.f,x) :: z)):=id rfl
theorem y_g9 (q:R×PV.Env→Res ρ):Res.bnd (f:=⟨q⟩) (aK 9 (a :: b :: c :: d :: e :: g :: h :: i :: j :: some (.l o,x) :: z))=q ((.f,x),(a :: b :: c :: d :: e :: g :: h :: i :: j :: some (.f,x) :: z)):=id rfl
theorem y_m9 (q:R×PV.Env→Res ρ):Res.bnd (f:=⟨q⟩) (eY 9 (a :: b :: c :: d :: e :: g :: h :: i :: j :: some r :: z))=q (r,(a :: b :: c :: d :: e :: g :: h :: i :: j :: none :: z)):=id rfl
theorem y_n9 (q:PV.Env→Res ρ):Res.bnd (f:=⟨q⟩) (aw 9 x (a :: b :: c :: d :: e :: g :: h :: i :: j :: m :: z))=q (a :: b :: c :: d :: e :: g :: h :: i :: j :: some (.f,x) :: z):=id rfl
theorem y_s9:aw 9 x (a :: b :: c :: d :: e :: g :: h :: i :: j :: m :: z)=.ok (a :: b :: c :: d :: e :: g :: h :: i :: j :: some (.f,x) :: z):=id rfl
theorem y_p9:put 9 r (a :: b :: c :: d :: e :: g :: h :: i :: j :: m :: z)=.ok (.nx (a :: b :: c :: d :: e :: g :: h :: i :: j :: some r :: z)):=id rfl
theorem MI (q:Opd×PV.Env→Res ρ):Res.bnd (f:=⟨q⟩) (ao 10 (a :: b :: c :: d :: e :: g :: h :: i :: j :: k :: some r :: z))=q (.var 10,(a :: b :: c :: d :: e :: g :: h :: i :: j :: k :: some r :: z)):=id rfl
theorem MJ (q:D→Res ρ):Res.bnd (f:=⟨q⟩) (Eg (a :: b :: c :: d :: e :: g :: h :: i :: j :: k :: some (.f,x) :: z) (.var 10))=q x:=id rfl
theorem MK (q:D→Res ρ):Res.bnd (f:=⟨q⟩) (Eg (a :: b :: c :: d :: e :: g :: h :: i :: j :: k :: some (.l .f,x) :: z) (.var 10))=q x:=id rfl
theorem ML (q:D→Res ρ):Res.bnd (f:=⟨q⟩) (ft (a :: b :: c :: d :: e :: g :: h :: i :: j :: k :: some r :: z) (.var 10))=q r.2:=id rfl
theorem MM (q:R×PV.Env→Res ρ):Res.bnd (f:=⟨q⟩) (aK 10 (a :: b :: c :: d :: e :: g :: h :: i :: j :: k :: some (.f,x) :: z))=q ((.f,x),(a :: b :: c :: d :: e :: g :: h :: i :: j :: k :: some (.f,x) :: z)):=id rfl
theorem MN (q:R×PV.Env→Res ρ):Res.bnd (f:=⟨q⟩) (aK 10 (a :: b :: c :: d :: e :: g :: h :: i :: j :: k :: some (.l o,x) :: z))=q ((.f,x),(a :: b :: c :: d :: e :: g :: h :: i :: j :: k :: some (.f,x) :: z)):=id rfl
theorem MO (q:R×PV.Env→Res ρ):Res.bnd (f:=⟨q⟩) (eY 10 (a :: b :: c :: d :: e :: g :: h :: i :: j :: k :: some r :: z))=q (r,(a :: b :: c :: d :: e :: g :: h :: i :: j :: k :: none :: z)):=id rfl
theorem MP (q:PV.Env→Res ρ):Res.bnd (f:=⟨q⟩) (aw 10 x (a :: b :: c :: d :: e :: g :: h :: i :: j :: k :: m :: z))=q (a :: b :: c :: d :: e :: g :: h :: i :: j :: k :: some (.f,x) :: z):=id rfl
theorem MQ:aw 10 x (a :: b :: c :: d :: e :: g :: h :: i :: j :: k :: m :: z)=.ok (a :: b :: c :: d :: e :: g :: h :: i :: j :: k :: some (.f,x) :: z):=id rfl
theorem MR:put 10 r (a :: b :: c :: d :: e :: g :: h :: i :: j :: k :: m :: z)=.ok (.nx (a :: b :: c :: d :: e :: g :: h :: i :: j :: k :: some r :: z)):=id rfl
theorem MS (q:Opd×PV.Env→Res ρ):Res.bnd (f:=⟨q⟩) (ao 11 (a :: b :: c :: d :: e :: g :: h :: i :: j :: k :: l :: some r :: z))=q (.var 11,(a :: b :: c :: d :: e :: g :: h :: i :: j :: k :: l :: some r :: z)):=id rfl
theorem MT (q:D→Res ρ):Res.bnd (f:=⟨q⟩) (Eg (a :: b :: c :: d :: e :: g :: h :: i :: j :: k :: l :: some (.f,x) :: z) (.var 11))=q x:=id rfl
theorem MU (q:D→Res ρ):Res.bnd (f:=⟨q⟩) (Eg (a :: b :: c :: d :: e :: g :: h :: i :: j :: k :: l :: some (.l .f,x) :: z) (.var 11))=q x:=id rfl
theorem MV (q:D→Res ρ):Res.bnd (f:=⟨q⟩) (ft (a :: b :: c :: d :: e :: g :: h :: i :: j :: k :: l :: some r :: z) (.var 11))=q r.2:=id rfl
theorem MW (q:R×PV.Env→Res ρ):Res.bnd (f:=⟨q⟩) (aK 11 (a :: b :: c :: d :: e :: g :: h :: i :: j :: k :: l :: some (.f,x) :: z))=q ((.f,x),(a :: b :: c :: d :: e :: g :: h :: i :: j :: k :: l :: some (.f,x) :: z)):=id rfl
theorem MX (q:R×PV.Env→Res ρ):Res.bnd (f:=⟨q⟩) (aK 11 (a :: b :: c :: d :: e :: g :: h :: i :: j :: k :: l :: some (.l o,x) :: z))=q ((.f,x),(a :: b :: c :: d :: e :: g :: h :: i :: j :: k :: l :: some (.f,x) :: z)):=id rfl
theorem MY (q:R×PV.Env→Res ρ):Res.bnd (f:=⟨q⟩) (eY 11 (a :: b :: c :: d :: e :: g :: h :: i :: j :: k :: l :: some r :: z))=q (r,(a :: b :: c :: d :: e :: g :: h :: i :: j :: k :: l :: none :: z)):=id rfl
end
noncomputable def pd:=(And.intro @MB (And.intro @y_lv (And.intro @MD (And.intro @MC (And.intro @Kt (And.intro @y_fl (And.intro @MF (And.intro @ME (And.intro @Ku (And.intro @y_vl (And.intro @MG (And.intro @y_vv (And.intro @MH (And.intro @y_c1 (And.intro @y_cf (And.intro @y_u1 (And.intro @y_uf (And.intro @y_u2 (And.intro @y_u3 (And.intro @y_t1 (And.intro @y_t2 (And.intro @y_t3 (And.intro @y_l0 (And.intro @y_l1 (And.intro @y_o0 (And.intro @y_d0 (And.intro @y_e0 (And.intro @y_a0 (And.intro @y_f0 (And.intro @y_g0 (And.intro @y_m0 (And.intro @y_n0 (And.intro @y_s0 (And.intro @y_p0 (And.intro @y_o1 (And.intro @y_d1 (And.intro @y_e1 (And.intro @y_a1 (And.intro @y_f1 (And.intro @y_g1 (And.intro @y_m1 (And.intro @y_n1 (And.intro @y_s1 (And.intro @y_p1 (And.intro @y_o2 (And.intro @y_d2 (And.intro @y_e2 (And.intro @y_a2 (And.intro @y_f2 (And.intro @y_g2 (And.intro @y_m2 (And.intro @y_n2 (And.intro @y_s2 (And.intro @y_p2 (And.intro @y_o3 (And.intro @y_d3 (And.intro @y_e3 (And.intro @y_a3 (And.intro @y_f3 (And.intro @y_g3 (And.intro @y_m3 (And.intro @y_n3 (And.intro @y_s3 (And.intro @y_p3 (And.intro @y_o4 (And.intro @y_d4 (And.intro @y_e4 (And.intro @y_a4 (And.intro @y_f4 (And.intro @y_g4 (And.intro @y_m4 (And.intro @y_n4 (And.intro @y_s4 (And.intro @y_p4 (And.intro @y_o5 (And.intro @y_d5 (And.intro @y_e5 (And.intro @y_a5 (And.intro @y_f5 (And.intro @y_g5 (And.intro @y_m5 (And.intro @y_n5 (And.intro @y_s5 (And.intro @y_p5 (And.intro @y_o6 (And.intro @y_d6 (And.intro @y_e6 (And.intro @y_a6 (And.intro @y_f6 (And.intro @y_g6 (And.intro @y_m6 (And.intro @y_n6 (And.intro @y_s6 (And.intro @y_p6 (And.intro @y_o7 (And.intro @y_d7 (And.intro @y_e7 (And.intro @y_a7 (And.intro @y_f7 (And.intro @y_g7 (And.intro @y_m7 (And.intro @y_n7 (And.intro @y_s7 (And.intro @y_p7 (And.intro @y_o8 (And.intro @y_d8 (And.intro @y_e8 (And.intro @y_a8 (And.intro @y_f8 (And.intro @y_g8 (And.intro @y_m8 (And.intro @y_n8 (And.intro @y_s8 (And.intro @y_p8 (And.intro @y_o9 (And.intro @y_d9 (And.intro @y_e9 (And.intro @y_a9 (And.intro @y_f9 (And.intro @y_g9 (And.intro @y_m9 (And.intro @y_n9 (And.intro @y_s9 (And.intro @y_p9 (And.intro @MI (And.intro @MJ (And.intro @MK (And.intro @ML (And.intro @MM (And.intro @MN (And.intro @MO (And.intro @MP (And.intro @MQ (And.intro @MR (And.intro @MS (And.intro @MT (And.intro @MU (And.intro @MV (And.intro @MW (And.intro @MX @MY))))))))))))))))))))))))))))))))))))))))))))))))))))))))))))))))))))))))))))))))))))))))))))))))))))))))))))))))))))))))))))))))))))))))))))
end PV
namespace LW
open PySem L2 NX PV
theorem for_list {α:Type} {a:FG} {g:FS} {e:α→D} (l:List α) (P:Nat→PV.Env→Prop)
  (h:∀ k x env,l[k]?=some x→P k env→∃ DR,a (e x) env=.ok DR∧∃ DZ,g DR=.ok (.nx DZ)∧P (k + 1) DZ):∀ env,P 0 env→∃ env',jC a g (l.map e) env=.ok (.nx env')∧P l.length env':=by
 intro env h0
 have:=yt (a:=a) (g:=g) P (l.map e) (fun i d env hi hp=>by
  rw [List.getElem?_map,Option.map_eq_some_iff] at hi
  obtain ⟨x,hx,rfl⟩:=hi
  obtain ⟨DR,h1,DZ,h2,h3⟩:=h i x env hx hp
  exact ⟨DR,h1,DZ,.inl h2,h3⟩) env h0
 rwa [List.length_map] at this
theorem k7 {a:FG} {g:FS} {e:Nat→D} (n:Nat) (P:Nat→PV.Env→Prop)
  (h:∀ k env,k < n→P k env→∃ DR,a (e k) env=.ok DR∧∃ DZ,g DR=.ok (.nx DZ)∧P (k + 1) DZ):∀ env,P 0 env→∃ env',jC a g ((List.range n).map e) env=.ok (.nx env')∧P n env':=by
 intro env h0
 have:=for_list (a:=a) (g:=g) (e:=e) (List.range n) P (fun k x env hk hp=>by
  obtain ⟨h1,h2⟩:=List.getElem?_eq_some_iff.mp hk
  rw [List.length_range] at h1
  rw [List.getElem_range] at h2
  subst h2
  exact h k env h1 hp) env h0
 rwa [List.length_range] at this
abbrev Ei:=List (List Nat)
theorem bj {α β:Type} {l:List α} (f:α→β):(l.map f).length=l.length:=List.length_map f
theorem f9:(false=true)=False:=Bool.false_eq_true
theorem jv {α:Type} {l:List α} {i:Nat} {a:α} (h:l[i]?=some a):∃ h:i < l.length,l[i]=a:=List.getElem?_eq_some_iff.mp h
theorem jQ {α:Type} {l:List α} {i:Nat} (h:i < l.length):l[i]?=some l[i]:=List.getElem?_eq_getElem h
theorem eX {α β:Type} {f:α→β} {a:α} {l:List α}:(a :: l).map f=f a :: l.map f:=List.map_cons
theorem j5 {α:Type} {a b:α} (h:a∈[b]):a=b:=List.mem_singleton.mp h
theorem mN {α β:Type} {f:α→β} {l:List α} {b:β} (h:b∈l.map f):∃ a,a∈l∧f a=b:=List.mem_map.mp h
theorem j6 {α:Type} {a:α} {s t:List α} (h:a∈s++t):a∈s∨a∈t:=List.mem_append.mp h
theorem iH {α:Type} {s t:List α}:(s++t).length=s.length + t.length:=List.length_append
theorem av {s t:FS} {env env':PV.Env} (h:s env=.ok (.nx env')):sSeq s t env=t env':=by rw [Ft,h,Eh]
theorem aX {ds:List D} (h:ds.length≤16777216):ds.length≤sizeLine:=line_le h
theorem fC {l:List Int} {k:Nat} (h:k < l.length):EV (l.map D.int) (k:Int)=some (.int (l.getD k 0)):=dX (by rw [List.getElem?_map,List.getD_eq_getElem?_getD,jQ h];rfl)
theorem AS {l:Ei} {k:Nat} (h:k < l.length):EV (l.map D.str) (k:Int)=some (.str l[k]):=dX (by rw [List.getElem?_map,jQ h];rfl)
theorem at2 {α:Type} (a b c:α):EV [a,b,c] (2:Int)=some c:=rfl
theorem dU:∀ l:Ei,fw (l.map D.str)=some l
 | []=>rfl
 | a :: l=>by
  rw [eX,fw,dU l]
  rfl
theorem pD (x y:D) (t1 t2:Option R) (eL:PV.Env):g8 2 (aG (aw 0) (aG (aw 1) cB)) (.tup [x,y]) (t1 :: t2 :: eL)=.ok (some (.f,x) :: some (.f,y) :: eL):=by
 rw [HA,if_pos (by simp),ET,Fg,if_pos (by simp),Eh,ET,Fg,if_pos (by simp),Eh]
 rfl
theorem gP {α:Type} (lt:α→α→Bool) (l:List α):(bz lt l).length=l.length:=(dP lt l).length_eq
theorem uf (l:Ei) (h:l.length < 64):e7 [.lst (l.map D.str)]=.ok (.l .f,.lst ((bz HI l).map D.str)):=by
 unfold e7
 dsimp only
 rw [if_pos (by rw [bj];exact h)]
 unfold kx
 cases l with
 | nil=>rfl
 | cons a l=>
  have e:c8 ((a :: l).map D.str)=none:=rfl
  rw [e,dU]
noncomputable def Gp:List Nat:=[97,98,99,100,101,102,103,104,105,106,107,108,109,110,111,112,113,114,115,116,117,118,119,120,121,122]
theorem AU (j:Nat) (h:j < 26):Gp[j]?=some (97 + j):=by
 have:∀ j:_root_.Fin 26,Gp[j.1]?=some (97 + j.1):=by decide
 exact this ⟨j,h⟩
theorem AV (j:Int) (h0:0≤j) (h:j < 26):EV Gp j=some (97 + j.toNat):=by
 obtain ⟨n,rfl⟩:=Int.eq_ofNat_of_zero_le h0
 exact dX (AU n (by lia))
theorem dO (x b:Int) (h:0 < b):0≤x % b∧x % b < b:=⟨Int.emod_nonneg _ (by lia),Int.emod_lt_of_pos _ h⟩
theorem CZ (n:Nat) (h:n≤200):vC (.int 10) (.int (n:Int))=.ok (.f,.int (10 ^ n)):=by
 rw [Av,if_pos (by lia),Int.toNat_natCast]
theorem g6 (x b:Int) (h:0 < b):eZ (.int x) (.int b)=.ok (.f,.int (x % b)):=by rw [Au,if_pos h]
theorem eQ (x b:Int) (h:0 < b) (h2:b < 1073741824):dw (.int x) (.int b)=.ok (.f,.int (x / b)):=by rw [ym,if_pos ⟨h,h2⟩]
theorem ug (k:Nat) (h:k≤1000000):cN (k:Int)=true:=by
 unfold cN
 rw [decide_eq_true_eq]
 lia
theorem DM (x y:List Nat) (h:x.length + y.length≤1000):cp (.str x) (.str y)=.ok (.f,.str (x++y)):=by rw [yz,if_pos (line_le (by lia))]
theorem mO {α:Type} (l:List α) (k:Nat):gu l none (some (k:Int))=l.take k:=by
 unfold gu
 rw [HT.pS,HT.lU,List.drop_zero,Nat.sub_zero]
 by_cases h:k≤l.length
 ·rw [Nat.min_eq_left h]
 ·rw [Nat.min_eq_right (by lia),List.take_of_length_le (Nat.le_refl _),List.take_of_length_le (by lia)]
theorem qx {α:Type} (l:List α) (k:Nat):gu l (some (k:Int)) none=l.drop k:=by
 unfold gu
 rw [HT.pS,HT.lU]
 by_cases h:k≤l.length
 ·rw [Nat.min_eq_left h,List.take_of_length_le (by rw [List.length_drop];exact Nat.le_refl _)]
 ·rw [Nat.min_eq_right (by lia),List.drop_eq_nil_of_le (Nat.le_refl _),List.drop_eq_nil_of_le (by lia),List.take_nil]
theorem gQ {α:Type} (f:Nat→α) (n:Nat) (h:∀ i j,i < n→j < n→f i=f j→i=j):((List.range n).map f).Nodup:=by
 rw [List.nodup_iff_pairwise_ne,List.pairwise_map]
 refine List.pairwise_lt_range.imp_of_mem fun {a b} ha hb hl e=>?_
 have:=h a b (List.mem_range.mp ha) (List.mem_range.mp hb) e
 lia
theorem uh {α:Type} (l:List α) (a b:Nat) (h:a≤b) (hb:b≤l.length):gu l (some (a:Int)) (some (b:Int))=(l.drop a).take (b - a):=by
 unfold gu
 rw [HT.lU,HT.lU,Nat.min_eq_left hb,Nat.min_eq_left (Nat.le_trans h hb)]
theorem oJ (x:Int) (h : -1000000≤x) (h2:x≤1000000):cN x=true:=by
 unfold cN
 rw [decide_eq_true_eq]
 lia
theorem uk (d:D) (h:plainD 40 d=true):F1 d d=.ok (.f,.bl true):=by
 unfold F1
 rw [h,iR d 40 h]
 rfl
theorem um (d:D) (h:plainD 40 d=true):H0 d d=.ok (.f,.bl false):=by
 unfold H0
 rw [h,iR d 40 h]
 rfl
theorem vO (l:List Int):plainD 40 (.tup (l.map D.int))=true:=by
 rw [plainD,jt]
theorem pE (n k:Nat) (h:k < n):ixN n (k:Int)=some k:=by
 unfold ixN
 rw [if_pos (by lia),if_pos (by lia)]
 rfl
theorem AW (l:List Int):zY [.lst (l.map D.int)]=.ok (.f,.int l.sum):=by
 unfold zY
 dsimp only
 have:(mx (D.lst (l.map D.int))).bind c8=some l:=lK l
 rw [this]
theorem isB (b:Bool):wA "bool" (.bl b)=true:=rfl
theorem isT (ds:List D):wA "tuple" (.tup ds)=true:=rfl
theorem jb {c:FT} {g:FS} (P:Nat→PV.Env→Prop) (fin:PV.Env→Prop) (h:∀ k env,P k env→(∃ DR,c env=.ok (false,DR)∧fin DR)∨(∃ DR,c env=.ok (true,DR)∧∃ DZ k',g DR=.ok (.nx DZ)∧k' < k∧P k' DZ)) :
  ∀ n k env,k < n→P k env→∃ env',cA c g n env=.ok (.nx env')∧fin env'
 | 0,k,env,hk,_=>absurd hk (Nat.not_lt_zero _)
 | n + 1,k,env,hk,hp=>by
  rcases h k env hp with ⟨DR,h1,h2⟩ | ⟨DR,h1,DZ,k',h2,h3,h4⟩
  ·exact ⟨DR,by rw [EU,h1,Eh];rfl,h2⟩
  ·obtain ⟨env',e,hf⟩:=jb P fin h n k' DZ (by lia) h4
   refine ⟨env',?_,hf⟩
   rw [EU,h1,Eh]
   dsimp only
   rw [if_pos rfl,h2,Eh]
   exact e
theorem pF {α β:Type} (f:α→β) (l:List α) (lo hi:Option Int):gu (l.map f) lo hi=(gu l lo hi).map f:=by
 unfold gu
 rw [bj,←List.map_drop,←List.map_take]
theorem hJ {α:Type} {l:List α} (h:l.length≤100000):l.length < sizeLine:=Nat.lt_of_lt_of_le (Nat.lt_succ_self _) (line_le (by lia))
section
variable (env:PV.Env) (f:FX) (fs:Fq) (fo:FO)
theorem Bs (r:R):frz (some r)=some (.f,r.2):=id rfl
theorem Bt:frz none=none:=id rfl
theorem qy (gg:List D→List D→Res R):Ak gg fo fs env=Res.bnd (fo env) (f:=⟨fun p=>Res.bnd (Eg p.2 p.1) (f:=⟨fun d=>match d with
 | .lst _=>Res.bnd (fs p.2) (f:=⟨fun q=>Res.bnd (Eg q.2 p.1) (f:=⟨fun d2=>match d2 with
  | .lst l=>Res.bnd (mY q.2 q.1) (f:=⟨fun ds=>Res.bnd (gg l ds) (f:=⟨fun r=>.ok (r,q.2)⟩)⟩)
  | _=>.bad⟩)⟩)
 | _=>.bad⟩)⟩):=id rfl
end
theorem o_isnT (ds:List D):isnO (.tup ds) .non=.ok (.f,.bl true):=id rfl
theorem uo:isnO .non .non=.ok (.f,.bl false):=id rfl
abbrev DY:=Int×List Nat×Int
noncomputable def eA (a:DY):D:=.tup [.int a.1,.str a.2.1,.int a.2.2]
abbrev Nd:=Int×Ei
noncomputable def met (T:List DY):List Int:=0 :: T.map (·.2.2)
noncomputable def rB (c:Int) (T:List DY) (a:DY):List DY:=if a.1=c∧a.2.2∉met T then T++[a] else T
inductive Run (aZ:List DY):Nat→List DY→Prop where
 | z:Run aZ 0 []
 | s {i:Nat} {T:List DY} {c:Int}:Run aZ i T→(met T)[i]?=some c→Run aZ (i + 1) (aZ.foldl (rB c) T)
theorem Run.inj {aZ:List DY}:∀ {i:Nat} {T T':List DY},Run aZ i T→Run aZ i T'→T=T'
 | 0,_,_,.z,.z=>rfl
 | i + 1,_,_,.s r h,.s r' h'=>by
  have e:=Run.inj r r'
  subst e
  rw [h] at h'
  cases h'
  rfl
theorem Run.before {aZ:List DY}:∀ {j:Nat} {T:List DY},Run aZ j T→∀ i,i < j→∃ T',Run aZ i T'∧i < (met T').length
 | 0,_,_,i,h=>absurd h (Nat.not_lt_zero _)
 | j + 1,_,.s r h,i,hi=>by
  by_cases e:i=j
  ·subst e
   exact ⟨_,r,(jv h).1⟩
  ·exact Run.before r i (by lia)
structure Bfs (aZ:List DY) (i:Nat) (pre:List DY) (N:List Nd) (T:List DY):Prop where
 z:N[0]?=some (0,[])
 len:N.length=T.length + 1
 nd:(N.map (·.1)).Nodup
 bd:∀ n∈N,0≤n.1∧n.1 < 12
 tr:∀ (j:Nat) (a:DY),T[j]?=some a→a∈aZ∧∃ (k:Nat) (n:Nd),k≤j∧N[k]?=some n∧a.1=n.1∧N[j + 1]?=some (a.2.2,n.2++[a.2.1])
 mono:∀ (j k:Nat) (n m:Nd),j≤k→N[j]?=some n→N[k]?=some m→n.2.length≤m.2.length
 top:∀ n∈N,∀ c:Nd,N[i]?=some c→n.2.length≤c.2.length + 1
 clo:∀ k,k < i→∀ n:Nd,N[k]?=some n→∀ a∈aZ,a.1=n.1→∃ m∈N,m.1=a.2.2∧m.2.length≤n.2.length + 1
 cur:∀ a∈pre,∀ c:Nd,N[i]?=some c→a.1=c.1→∃ m∈N,m.1=a.2.2∧m.2.length≤c.2.length + 1
 nm:N.map (·.1)=met T
theorem Bfs.start (aZ:List DY):Bfs aZ 0 [] [(0,[])] []:=by
 refine ⟨rfl,rfl,List.nodup_cons.mpr ⟨List.not_mem_nil,List.nodup_nil⟩,fun n hn=>?_,fun j a h=>by simp at h,fun j k n m _ h1 h2=>?_,fun n hn c hc=>?_,fun k hk=>absurd hk (Nat.not_lt_zero _),(fun a ha=>nomatch ha),rfl⟩
 ·rw [j5 hn]
  exact ⟨Int.le_refl _,by decide⟩
 ·rw [j5 (List.mem_of_getElem? h1)]
  exact Nat.zero_le _
 ·rw [j5 hn]
  exact Nat.zero_le _
theorem fT {α:Type} {l:List α} {x:α} {j:Nat} {y:α} (h:l[j]?=some y):(l++[x])[j]?=some y:=by
 rw [List.getElem?_append_left (jv h).1]
 exact h
theorem dW {α:Type} {l:List α} {x:α} {j:Nat} {y:α} (h:(l++[x])[j]?=some y):l[j]?=some y∨(j=l.length∧y=x):=by
 by_cases hj:j < l.length
 ·rw [List.getElem?_append_left hj] at h
  exact .inl h
 ·rw [List.getElem?_append_right (by lia)] at h
  by_cases e:j - l.length=0
  ·rw [e] at h
   exact .inr ⟨by lia,by simpa using h.symm⟩
  ·rw [List.getElem?_eq_none (by simp;lia)] at h
   cases h
theorem Bfs.skip {aZ:List DY} {i:Nat} {pre:List DY} {N:List Nd} {T:List DY} (b:Bfs aZ i pre N T) {a:DY} {c:Nd} (hc:N[i]?=some c) (h:a.1≠c.1∨a.2.2∈N.map (·.1)):Bfs aZ i (pre++[a]) N T:=by
 refine ⟨b.z,b.len,b.nd,b.bd,b.tr,b.mono,b.top,b.clo,fun x hx c' F2 e=>?_,b.nm⟩
 rcases j6 hx with hx | hx
 ·exact b.cur x hx c' F2 e
 ·rw [j5 hx] at e ⊢
  rw [hc] at F2
  cases F2
  rcases h with h | h
  ·exact absurd e h
  ·obtain ⟨m,hm,em⟩:=mN h
   exact ⟨m,hm,em,b.top m hm c hc⟩
theorem Bfs.take {aZ:List DY} {i:Nat} {pre:List DY} {N:List Nd} {T:List DY} (b:Bfs aZ i pre N T) {a:DY} {c:Nd} (hc:N[i]?=some c) (ha:a∈aZ) (Jo:0≤a.2.2∧a.2.2 < 12) (h1:a.1=c.1) (h2:a.2.2∉N.map (·.1)):Bfs aZ i (pre++[a]) (N++[(a.2.2,c.2++[a.2.1])]) (T++[a]):=by
 have hi:=(jv hc).1
 have Iz:(c.2++[a.2.1]).length=c.2.length + 1:=by rw [iH];rfl
 have up:∀ {x:Int} {B:Nat},(∃ m∈N,m.1=x∧m.2.length≤B)→∃ m∈N++[(a.2.2,c.2++[a.2.1])],m.1=x∧m.2.length≤B:=fun ⟨m,hm,q⟩=>⟨m,List.mem_append_left _ hm,q⟩
 refine ⟨fT b.z,by rw [iH,iH,b.len];rfl,?_,fun n hn=>?_,fun j x hx=>?_,fun j k n m hjk hn hm=>?_,fun n hn c' F2=>?_,fun k hk n hn x hx e=>?_,fun x hx c' F2 e=>?_,by unfold met;rw [List.map_append,List.map_append,b.nm];rfl⟩
 ·rw [List.map_append,List.nodup_append]
  refine ⟨b.nd,List.nodup_cons.mpr ⟨List.not_mem_nil,List.nodup_nil⟩,fun x hx y hy=>?_⟩
  have:y=a.2.2:=by simpa using hy
  rw [this]
  rintro rfl
  exact h2 hx
 ·rcases j6 hn with hn | hn
  ·exact b.bd n hn
  ·rw [j5 hn]
   exact Jo
 ·rcases dW hx with hx | ⟨rfl,rfl⟩
  ·obtain ⟨q,k,n,hk,hn,e,II⟩:=b.tr j x hx
   exact ⟨q,k,n,hk,fT hn,e,fT II⟩
  ·refine ⟨ha,i,c,?_,fT hc,h1,?_⟩
   ·have:=b.len
    lia
   ·rw [←b.len,List.getElem?_append_right (Nat.le_refl _),Nat.sub_self]
    rfl
 ·rcases dW hn with hn | ⟨rfl,rfl⟩
  ·rcases dW hm with hm | ⟨rfl,rfl⟩
   ·exact b.mono j k n m hjk hn hm
   ·show n.2.length≤(c.2++[a.2.1]).length
    rw [Iz]
    exact b.top n (List.mem_of_getElem? hn) c hc
  ·rcases dW hm with hm | ⟨rfl,rfl⟩
   ·have:=(jv hm).1
    lia
   ·exact Nat.le_refl _
 ·have:c'=c:=by
   rw [fT hc] at F2
   exact (Option.some.inj F2).symm
  subst this
  rcases j6 hn with hn | hn
  ·exact b.top n hn c' hc
  ·rw [j5 hn]
   exact Nat.le_of_eq Iz
 ·rcases dW hn with hn | ⟨rfl,rfl⟩
  ·exact up (b.clo k hk n hn x hx e)
  ·lia
 ·have:c'=c:=by
   rw [fT hc] at F2
   exact (Option.some.inj F2).symm
  subst this
  rcases j6 hx with hx | hx
  ·exact up (b.cur x hx c' hc e)
  ·rw [j5 hx]
   exact ⟨_,List.mem_append_right _ List.mem_cons_self,rfl,Nat.le_of_eq Iz⟩
theorem Bfs.next {aZ:List DY} {i:Nat} {N:List Nd} {T:List DY} (b:Bfs aZ i aZ N T) {c:Nd} (hc:N[i]?=some c):Bfs aZ (i + 1) [] N T:=by
 refine ⟨b.z,b.len,b.nd,b.bd,b.tr,b.mono,fun n hn c' F2=>?_,fun k hk n hn a ha e=>?_,(fun a ha=>nomatch ha),b.nm⟩
 ·have h1:=b.top n hn c hc
  have h2:=b.mono i (i + 1) c c' (Nat.le_succ _) hc F2
  lia
 ·by_cases hki:k=i
  ·subst hki
   rw [hc] at hn
   cases hn
   exact b.cur a ha c hc e
  ·exact b.clo k (by lia) n hn a ha e
theorem j7:∀ (n:Nat) {l:List Int},l.Nodup→(∀ x∈l,0≤x∧x < (n:Int))→l.length≤n
 | 0,l,_,hb=>by
  cases l with
  | nil=>exact Nat.le_refl _
  | cons a l=>have:=hb a List.mem_cons_self;lia
 | n + 1,l,nd,hb=>by
  have h1:=j7 n (l:=l.erase (n:Int)) (nd.erase _) fun x hx=>by
   have h2:=(nd.mem_erase_iff.mp hx)
   have h3:=hb x h2.2
   have h4:=h2.1
   lia
  have:=List.length_erase_le (a:=(n:Int)) (l:=l)
  have h5:l.length≤(l.erase (n:Int)).length + 1:=by
   by_cases hm:(n:Int)∈l
   ·rw [List.length_erase_of_mem hm]
    have:=List.length_pos_of_mem hm
    lia
   ·rw [List.erase_of_not_mem hm]
    lia
  lia
theorem Bfs.le12 {aZ:List DY} {i:Nat} {pre:List DY} {N:List Nd} {T:List DY} (b:Bfs aZ i pre N T):N.length≤12:=by
 have:=j7 12 b.nd fun x hx=>by
  obtain ⟨n,hn,rfl⟩:=mN hx
  exact b.bd n hn
 rw [bj] at this
 exact this
theorem uq (aZ:List DY) (i:Nat) (pre:List DY) (N:List Nd) (T:List DY) (b:Bfs aZ i pre N T) (c:Nd) (hc:N[i]?=some c) (a:DY) (ha:a∈aZ) (Jo:0≤a.2.2∧a.2.2 < 12) :
  ∃ N' T',T'=rB c.1 T a∧Bfs aZ i (pre++[a]) N' T'∧N'[i]?=some c∧eV [some (.f,.lst (aZ.map eA)),some (.l .f,.lst ((N.map (·.1)).map D.int)),some (.l .f,.lst (T.map eA)),some (.f,.int (i:Int)),some (.f,eA a)]=.ok (.nx [some (.f,.lst (aZ.map eA)),some (.l .f,.lst ((N'.map (·.1)).map D.int)),some (.l .f,.lst (T'.map eA)),some (.f,.int (i:Int)),some (.f,eA a)]):=by
 have Nw:=b.le12
 have Eu:=(jv hc).1
 have Gq:EV ((N.map (·.1)).map D.int) (i:Int)=some (.int c.1):=dX (by rw [List.getElem?_map,List.getElem?_map,hc];rfl)
 have z1:((N.map (·.1)).map D.int).length < sizeLine:=hJ (by rw [bj,bj];lia)
 have z2:(T.map eA).length < sizeLine:=hJ (by rw [bj];have:=b.len;lia)
 unfold eV eA
 by_cases h1:a.1=c.1
 ·by_cases h2:a.2.2∈N.map (·.1)
  ·refine ⟨N,T,by unfold rB;rw [if_neg (by rw [←b.nm];exact fun z=>z.2 h2)],b.skip hc (.inr h2),hc,?_⟩
   have e1:(a.1 == c.1)=true:=beq_iff_eq.mpr h1
   simp only [↓pd,pv,seval,op,Gq,e1,at2,h2,decide_true,Bool.not_true,f9]
  ·refine ⟨_,_,by unfold rB;rw [if_pos (by rw [←b.nm];exact ⟨h1,h2⟩)],b.take hc ha Jo h1 h2,fT hc,?_⟩
   have e1:(a.1 == c.1)=true:=beq_iff_eq.mpr h1
   have e:(fun a:DY=>D.tup [D.int a.1,D.str a.2.1,D.int a.2.2])=eA:=rfl
   rw [e] at *
   simp only [↓pd,pv,seval,op,Gq,e1,at2,h2,decide_false,Bool.not_false,z1,z2,List.map_append]
   rfl
 ·refine ⟨N,T,by unfold rB;rw [if_neg (fun z=>h1 z.1)],b.skip hc (.inl h1),hc,?_⟩
  have e1:(a.1 == c.1)=false:=beq_eq_false_iff_ne.mpr h1
  simp only [↓pd,pv,seval,op,Gq,e1,f9]
theorem ur (aZ:List DY) (hl:aZ.length≤1000) (hb:∀ a∈aZ,0≤a.2.2∧a.2.2 < 12):∃ N T,Bfs aZ N.length [] N T∧Run aZ N.length T∧eC [.lst (aZ.map eA)]=.ok (.l .f,.lst (T.map eA)):=by
 unfold eC oy
 rw [bc (h:=by rfl)]
 rw [av (env':=[some (.f,.lst (aZ.map eA)),some (.l .f,.lst [.int 0]),none,none,none]) (by simp only [↓pd,pv,seval,op])]
 rw [av (env':=[some (.f,.lst (aZ.map eA)),some (.l .f,.lst [.int 0]),some (.l .f,.lst []),none,none]) (by simp only [↓pd,pv,seval,op])]
 rw [av (env':=[some (.f,.lst (aZ.map eA)),some (.l .f,.lst [.int 0]),some (.l .f,.lst []),some (.f,.int 0),none]) (by simp only [↓pd,pv,seval,op])]
 obtain ⟨env',ew,N,T,i,t4,b,hi,HB,rfl⟩:=jb (c:=(EA (ay Ht (ao 3) (aj (bg kB (ah (ao 1) aF)))))) (g:=gw)
  (fun k env=>∃ N T i t4,Bfs aZ i [] N T∧i≤N.length∧Run aZ i T∧k=13 - i∧env=[some (.f,.lst (aZ.map eA)),some (.l .f,.lst ((N.map (·.1)).map D.int)),some (.l .f,.lst (T.map eA)),some (.f,.int ((i:Nat):Int)),t4]) (fun env=>∃ N T i t4,Bfs aZ i [] N T∧i=N.length∧Run aZ i T∧env=[some (.f,.lst (aZ.map eA)),some (.l .f,.lst ((N.map (·.1)).map D.int)),some (.l .f,.lst (T.map eA)),some (.f,.int ((i:Nat):Int)),t4]) (by
  rintro k env ⟨N,T,i,t4,b,hi,HB,rfl,rfl⟩
  have Nw:=b.le12
  by_cases Eu:i < N.length
  ·refine .inr ⟨[some (.f,.lst (aZ.map eA)),some (.l .f,.lst ((N.map (·.1)).map D.int)),some (.l .f,.lst (T.map eA)),some (.f,.int ((i:Nat):Int)),t4],?_,?_⟩
   ·have:(i:Int) < (N.length:Int):=by lia
    simp only [↓pd,pv,seval,op,bj,this,decide_true]
   ·obtain ⟨c,hc⟩:∃ c,N[i]?=some c:=⟨N[i],jQ Eu⟩
    have MZ:=Run.s HB (c:=c.1) (by rw [←b.nm,List.getElem?_map,hc];rfl)
    obtain ⟨env',ef,N',T',Oh,b',F2,eT,rfl⟩:=for_list (a:=aw 4) (g:=eV) (e:=eA) aZ (fun j env=>∃ N T2 t4,Bfs aZ i (aZ.take j) N T2∧N[i]?=some c∧T2=(aZ.take j).foldl (rB c.1) T∧env=[some (.f,.lst (aZ.map eA)),some (.l .f,.lst ((N.map (·.1)).map D.int)),some (.l .f,.lst (T2.map eA)),some (.f,.int ((i:Nat):Int)),t4]) (by
     rintro j a env hj ⟨N,T2,t4,b,hc,eT,rfl⟩
     have Ju:=List.mem_of_getElem? hj
     obtain ⟨N',T',eT',b',F2,e⟩:=uq aZ i _ N T2 b c hc a Ju (hb a Ju)
     have ht:aZ.take (j + 1)=aZ.take j++[a]:=by rw [List.take_add_one,hj];rfl
     exact ⟨_,rfl,_,e,N',T',some (.f,eA a),by rw [ht];exact b',F2,by rw [eT',eT,ht,List.foldl_append];rfl,rfl⟩) _ ⟨N,T,t4,by rw [List.take_zero];exact b,hc,by rw [List.take_zero];rfl,rfl⟩
    rw [List.take_length] at b' eT
    have hlt':=(jv F2).1
    refine ⟨_,13 - (i + 1),?_,by lia,N',T',i + 1,Oh,b'.next F2,by lia,by rw [eT];exact MZ,rfl,rfl⟩
    unfold gw
    rw [av (env':=_) (by
     unfold kK
     simp only [↓pd,pv,seval,op]
     exact ef)]
    unfold jH
    simp only [↓pd,pv,seval,op,Int.natCast_add,Int.cast_ofNat_Int]
  ·refine .inl ⟨_,?_,N,T,i,t4,b,by lia,HB,rfl⟩
   have:¬ (i:Int) < (N.length:Int):=by lia
   simp only [↓pd,pv,seval,op,bj,this,decide_false]) 100000 13 _ (by decide) ⟨[(0,[])],[],0,none,Bfs.start aZ,Nat.zero_le _,.z,rfl,rfl⟩
 subst hi
 rw [av (env':=_) (by
  unfold kM
  exact ew)]
 unfold jI
 exact ⟨N,T,b,HB,by simp only [↓pd,pv,seval,op]⟩
noncomputable def D8 (nZ:Ei) (aZ:List DY):D:=.tup [.tup (nZ.map D.str),.lst (aZ.map eA)]
theorem pG (a:DY) (t1 t2 t3:Option R) (eL:PV.Env):g8 3 (aG (aw 0) (aG (aw 1) (aG (aw 2) cB))) (eA a) (t1 :: t2 :: t3 :: eL)=.ok (some (.f,.int a.1) :: some (.f,.str a.2.1) :: some (.f,.int a.2.2) :: eL):=by
 unfold eA
 rw [HA,if_pos (by simp),ET,Fg,if_pos (by simp),Eh,ET,Fg,if_pos (by simp),Eh,ET,Fg,if_pos (by simp),Eh]
 rfl
theorem wI (l:List Int):(mx (.lst (l.map D.int))).bind c8=some l:=lK l
noncomputable def k8 (a:DY):Int:=if a.1 < a.2.2 then a.2.2 else a.1
noncomputable def a8 (aZ:List DY):Int:=1 + NX.maxD (aZ.map k8) 0
theorem vP {α:Type} {f:α→D} {l:List α} (h:∀ a,cy (f a)=true):flatDs (l.map f)=true:=by
 rw [bH,List.all_map,List.all_eq_true]
 intro a _
 exact h a
theorem pH (nZ:Ei) (aZ:List DY) (hl:aZ.length≤16777216):dg [D8 nZ aZ]=.ok (.f,.int (a8 aZ)):=by
 unfold dg kJ
 rw [bc (h:=by rfl)]
 simp only [↓pd,pv,seval,op,D8]
 rw [bF (r:=fun a:DY=>D.int (k8 a)) (fun env=>∃ t1 t2 t3,env=[t1,t2,t3]) aZ ?_ _ ⟨_,_,_,rfl⟩]
 ·rw [Eh,if_pos (aX (by rw [bj];exact hl)),Eh,vP fun a=>ja _]
  simp only [↓pd,pv,seval,op]
  have e:(some (aZ.map fun a=>D.int (k8 a))).bind c8=some (aZ.map k8):=by
   have:=wI (aZ.map k8)
   rw [List.map_map] at this
   exact this
  rw [e]
  rfl
 ·rintro a _ env ⟨t1,t2,t3,rfl⟩
  refine ⟨_,pG a t1 t2 t3 _,?_⟩
  simp only [↓pd,pv,seval,op]
  exact ⟨_,_,rfl,_,_,_,rfl⟩
noncomputable def qz (n:Nd):D:=.tup (n.2.map D.str)
theorem pI:∀ (N:List Nd) (k:Nat) (n:Nd),(N.map (·.1)).Nodup→N[k]?=some n→getD (N.map fun n=>D.int n.1) (N.map qz) (.int n.1)=some (qz n)
 | [],_,_,_,h=>by simp at h
 | m :: N,0,n,_,h=>by
  simp at h
  subst h
  unfold getD
  rw [eX,eX,List.zip_cons_cons,List.find?_cons_of_pos (by show eqD (.int m.1) (.int m.1)=true;rw [eqD];exact beq_self_eq_true _)]
  rfl
 | m :: N,k + 1,n,nd,h=>by
  rw [List.getElem?_cons_succ] at h
  rw [eX,List.nodup_cons] at nd
  have ih:=pI N k n nd.2 h
  unfold getD at ih ⊢
  have IA:n.1≠m.1:=fun e=>nd.1 (by rw [←e];exact List.mem_map.mpr ⟨n,List.mem_of_getElem? h,rfl⟩)
  rw [eX,eX,List.zip_cons_cons,List.find?_cons_of_neg (by show ¬ eqD (.int n.1) (.int m.1)=true;rw [eqD,beq_iff_eq];exact IA)]
  exact ih
theorem yB (N:List Nd) (n:Nd) (h:n.1∉N.map (·.1)):pf (N.map fun n=>D.int n.1) (N.map qz) (.int n.1) (qz n)=((N++[n]).map (fun n=>D.int n.1),(N++[n]).map qz):=by
 have e:(N.map fun n=>D.int n.1).any (eqD (.int n.1))=false:=by
  rw [List.any_map,List.any_eq_false]
  intro m hm
  show ¬ eqD (.int n.1) (.int m.1)=true
  rw [eqD,beq_iff_eq]
  intro e
  exact h (by rw [e];exact List.mem_map.mpr ⟨m,hm,rfl⟩)
 unfold pf
 rw [e,if_neg Bool.false_ne_true,List.map_append,List.map_append]
 rfl
theorem yC (a:DY):cy (eA a)=true:=rfl
theorem k9 (as:List DY):flatDs (as.map eA)=true:=by
 rw [bH,List.all_map,List.all_eq_true]
 exact fun p _=>yC p
theorem DN (w:Ei) (m:List Nat) (h:w.length≤1000):cp (.tup (w.map D.str)) (.tup [.str m])=.ok (.f,.tup ((w++[m]).map D.str)):=by
 rw [yA,if_pos (.inl (line_le (by rw [bj,List.length_cons,List.length_nil];lia))),List.map_append]
 rfl
structure Found (aZ:List DY) (N:List Nd):Prop where
 z:N[0]?=some (0,[])
 nd:(N.map (·.1)).Nodup
 le:N.length≤12
 bd:∀ n∈N,0≤n.1∧n.1 < 12
 wl:∀ n∈N,n.2.length≤12
 par:∀ n∈N,n=(0,[])∨∃ a∈aZ,∃ m∈N,a.1=m.1∧n=(a.2.2,m.2++[a.2.1])
 clo:∀ n∈N,∀ a∈aZ,a.1=n.1→∃ m∈N,m.1=a.2.2∧m.2.length≤n.2.length + 1
theorem Bfs.wlen {aZ:List DY} {i:Nat} {pre:List DY} {N:List Nd} {T:List DY} (b:Bfs aZ i pre N T):∀ (j:Nat) (n:Nd),N[j]?=some n→n.2.length≤j:=by
 intro j
 induction j using Nat.strongRecOn with
 | _ j ih=>
  intro n hn
  cases j with
  | zero=>
   rw [b.z] at hn
   cases hn
   exact Nat.le_refl _
  | succ j=>
   have Eu:=(jv hn).1
   have hl:=b.len
   obtain ⟨_,k,m,hk,hm,_,II⟩:=b.tr j T[j] (jQ (by lia))
   rw [hn] at II
   cases II
   have:=ih k (by lia) m hm
   show (m.2++[_]).length≤_
   rw [iH,List.length_cons,List.length_nil]
   lia
theorem Bfs.found {aZ:List DY} {N:List Nd} {T:List DY} (b:Bfs aZ N.length [] N T):Found aZ N:=by
 refine ⟨b.z,b.nd,b.le12,b.bd,fun n hn=>?_,fun n hn=>?_,fun n hn a ha e=>?_⟩
 ·obtain ⟨j,hj⟩:=List.mem_iff_getElem?.mp hn
  have:=b.wlen j n hj
  have:=(jv hj).1
  have:=b.le12
  lia
 ·obtain ⟨j,hj⟩:=List.mem_iff_getElem?.mp hn
  cases j with
  | zero=>
   rw [b.z] at hj
   cases hj
   exact .inl rfl
  | succ j=>
   have Eu:=(jv hj).1
   have hl:=b.len
   obtain ⟨ha,k,m,hk,hm,e,II⟩:=b.tr j T[j] (jQ (by lia))
   rw [hj] at II
   cases II
   exact .inr ⟨_,ha,m,List.mem_of_getElem? hm,e,rfl⟩
 ·obtain ⟨j,hj⟩:=List.mem_iff_getElem?.mp hn
  exact b.clo j (jv hj).1 n hj a ha e
noncomputable def dM (N:List Nd) (s:Int):Ei:=((N.find? fun n=>n.1 == s).map (·.2)).getD []
theorem mP {N:List Nd} (nd:(N.map (·.1)).Nodup) {n:Nd} (h:n∈N):dM N n.1=n.2:=by
 unfold dM
 induction N with
 | nil=>cases h
 | cons m N ih=>
  rw [eX,List.nodup_cons] at nd
  rcases List.mem_cons.mp h with rfl | h
  ·rw [List.find?_cons_of_pos (by exact beq_self_eq_true _)]
   rfl
  ·have IA:m.1≠n.1:=fun e=>nd.1 (by rw [e];exact List.mem_map.mpr ⟨n,h,rfl⟩)
   rw [List.find?_cons_of_neg (by simpa using IA)]
   exact ih nd.2 h
theorem uu (nZ:Ei) (aZ:List DY) (hl:aZ.length≤1000) (hb:∀ a∈aZ,0≤a.2.2∧a.2.2 < 12) (all:∀ N,Found aZ N→∀ s:Int,0≤s→s < a8 aZ→s∈N.map (·.1)) (hs:0≤a8 aZ∧a8 aZ≤100) :
  ∃ N T,Bfs aZ N.length [] N T∧Run aZ N.length T∧eC [.lst (aZ.map eA)]=.ok (.l .f,.lst (T.map eA))∧eD [D8 nZ aZ]=.ok (.l .f,.lst ((List.range (a8 aZ).toNat).map fun (s:Nat)=>.tup ((dM N (s:Int)).map D.str))):=by
 obtain ⟨N,T,b,HB,et⟩:=ur aZ hl hb
 refine ⟨N,T,b,HB,et,?_⟩
 have F:=b.found
 unfold eD oz
 rw [bc (h:=by rfl)]
 rw [av (env':=[some (.f,D8 nZ aZ),some (.d,.dct false [.int 0] [.tup []]),none,none,none]) (by simp only [↓pd,pv,seval,op])]
 have hlen:=b.len
 have Nw:=F.le
 obtain ⟨env',ef,t2,t3,t4,rfl⟩:=for_list (a:=g8 3 (aG (aw 2) (aG (aw 3) (aG (aw 4) cB)))) (g:=gx) (e:=eA) T (fun j env=>∃ t2 t3 t4,env=[some (.f,D8 nZ aZ),some (.d,.dct false ((N.take (j + 1)).map fun n=>D.int n.1) ((N.take (j + 1)).map qz)),t2,t3,t4]) (by
  rintro j a env hj ⟨t2,t3,t4,rfl⟩
  refine ⟨[some (.f,D8 nZ aZ),some (.d,.dct false ((N.take (j + 1)).map fun n=>D.int n.1) ((N.take (j + 1)).map qz)),some (.f,.int a.1),some (.f,.str a.2.1),some (.f,.int a.2.2)],rfl,_,?_,some (.f,.int a.1),some (.f,.str a.2.1),some (.f,.int a.2.2),rfl⟩
  obtain ⟨_,k,n,hk,hn,e,II⟩:=b.tr j a hj
  have ht:N.take (j + 1 + 1)=N.take (j + 1)++[(a.2.2,n.2++[a.2.1])]:=by rw [List.take_add_one,II];rfl
  have ndt:((N.take (j + 1)).map (·.1)).Nodup:=by rw [List.map_take];exact F.nd.take
  have Nn:(N.take (j + 1))[k]?=some n:=by rw [List.getElem?_take_of_lt (by lia)];exact hn
  have hg:=pI (N.take (j + 1)) k n ndt Nn
  have JJ:a.2.2∉(N.take (j + 1)).map (·.1):=by
   have O5:((N.take (j + 1 + 1)).map (·.1)).Nodup:=by rw [List.map_take];exact F.nd.take
   rw [ht,List.map_append,List.nodup_append] at O5
   intro hm
   exact O5.2.2 _ hm a.2.2 (by simp) rfl
  have hp:=yB (N.take (j + 1)) (a.2.2,n.2++[a.2.1]) JJ
  have hw:=F.wl n (List.mem_of_getElem? hn)
  have ha:=DN n.2 a.2.1 (by lia)
  have hd:GW (.dct false ((N.take (j + 1)).map fun n=>D.int n.1) ((N.take (j + 1)).map qz)) (.int a.1)=.ok (.f,.tup (n.2.map D.str)):=by
   unfold GW
   dsimp only
   rw [if_pos (show eh false (.int a.1)=true from rfl),e,hg]
   rfl
  have hz:(decide (((N.take (j + 1)).map fun n=>D.int n.1).length < sizeLine))=true:=decide_eq_true (hJ (by rw [bj,List.length_take];lia))
  unfold qz at hp
  dsimp only at hp
  have ew:(fun n:Nd=>D.tup (n.2.map D.str))=qz:=rfl
  rw [ew] at hp
  rw [ht]
  unfold gx
  simp only [↓pd,pv,seval,op,hd,ha,hz,Bool.and_self,hp]) _ ⟨none,none,none,rfl⟩
 rw [show N.take (T.length + 1)=N by rw [←hlen];exact List.take_length] at ef
 have h0:N.take (0 + 1)=[(0,[])]:=by rw [List.take_add_one,F.z];rfl
 rw [h0] at ef
 rw [av (env':=_) (by
  unfold kN
  unfold D8 at ef ⊢
  simp only [↓pd,pv,seval,op,et,k9]
  exact ef)]
 clear ef
 unfold jJ
 have Hk:=pH nZ aZ (by lia)
 have hc:cH (aw 0) eS (ay GW (ao 1) (ao 0)) ((List.range (a8 aZ).toNat).map fun (k:Nat)=>D.int (k:Int)) [none,some (.f,.dct false (N.map fun n=>D.int n.1) (N.map qz))]=.ok ((List.range (a8 aZ).toNat).map fun (s:Nat)=>.tup ((dM N (s:Int)).map D.str)):=by
  refine bF (r:=fun s:Nat=>D.tup ((dM N (s:Int)).map D.str)) (fun env=>∃ t1,env=[t1,some (.f,.dct false (N.map fun n=>D.int n.1) (N.map qz))]) (List.range (a8 aZ).toNat) ?_ _ ⟨_,rfl⟩
  rintro s Kk env ⟨t1,rfl⟩
  rw [List.mem_range] at Kk
  obtain ⟨n,hn,en⟩:=mN (all N F (s:Int) (by lia) (by lia))
  obtain ⟨k,hk⟩:=List.mem_iff_getElem?.mp hn
  have hd:GW (.dct false (N.map fun n=>D.int n.1) (N.map qz)) (.int (s:Int))=.ok (.f,.tup ((dM N (s:Int)).map D.str)):=by
   unfold GW
   dsimp only
   rw [if_pos (show eh false (.int (s:Int))=true from rfl),←en,pI N k n F.nd hk,mP F.nd hn]
   rfl
  refine ⟨[some (.f,.int (s:Int)),some (.f,.dct false (N.map fun n=>D.int n.1) (N.map qz))],rfl,?_⟩
  simp only [↓pd,pv,seval,op,hd]
  exact ⟨_,_,rfl,_,rfl⟩
 have hf:flatDs ((List.range (a8 aZ).toNat).map fun (s:Nat)=>D.tup ((dM N (s:Int)).map D.str))=true:=by
  rw [bH,List.all_map,List.all_eq_true]
  intro s _
  show cy (.tup _)=true
  rw [cw,PV.flat_strs]
 unfold D8 at Hk
 simp only [↓pd,pv,seval,op,Hk]
 rw [if_pos (by lia)]
 simp only [↓pd,pv,seval,op,hc]
 rw [if_pos (aX (by rw [bj,List.length_range];lia)),hf]
 simp only [↓pd,pv,seval,op]
noncomputable def ak (a:DY):List Key:=[.inl a.1,.inr (S a.2.1),.inl a.2.2]
noncomputable def cM (a b:DY):Bool:=eO (ak a) (ak b)
theorem S_inj {a b:List Nat} (h:S a=S b):a=b:=by
 have:=congrArg (fun s:Str=>s.cps.toList) h
 simpa only [dZ] using this
theorem CD (a:DY):kT (ak a)=eA a:=by
 unfold kT ak eA
 simp only [eX,List.map_nil,kD,dZ]
theorem uv {α β:Type} (f:α→β) (lt:β→β→Bool) (x:α):∀ l:List α,ins lt (f x) (l.map f)=(ins (fun a b=>lt (f a) (f b)) x l).map f
 | []=>rfl
 | y :: ys=>by
  rw [eX,ins,ins]
  cases lt (f y) (f x) with
  | true=>rw [if_pos rfl,if_pos rfl,uv f lt x ys,eX]
  | false=>rw [if_neg Bool.false_ne_true,if_neg Bool.false_ne_true,eX,eX]
theorem oK {α β:Type} (f:α→β) (lt:β→β→Bool):∀ l:List α,bz lt (l.map f)=(bz (fun a b=>lt (f a) (f b)) l).map f
 | []=>rfl
 | x :: l=>by
  show ins lt (f x) (bz lt (l.map f))=_
  rw [oK f lt l,uv]
  rfl
theorem uw (as:List DY):as.map eA=(as.map ak).map kT:=by
 rw [List.map_map]
 exact List.map_congr_left fun a _=>(CD a).symm
theorem AX (a b:DY):eqD (eA a) (eA b)=decide (a=b):=by
 obtain ⟨x,y,z⟩:=a
 obtain ⟨x',y',z'⟩:=b
 unfold eA
 simp only [eqD,jj]
 rw [Bool.eq_iff_iff]
 simp
theorem gR:∀ (l:List Int) (b:Int),b≤l.foldl max b∧(∀ x∈l,x≤l.foldl max b)∧(l.foldl max b=b∨l.foldl max b∈l)
 | [],b=>⟨Int.le_refl _,fun _ h=>(nomatch h),.inl rfl⟩
 | a :: l,b=>by
  obtain ⟨h1,h2,h3⟩:=gR l (max b a)
  rw [List.foldl_cons]
  refine ⟨by lia,fun x hx=>?_,?_⟩
  ·rcases List.mem_cons.mp hx with rfl | hx
   ·lia
   ·exact h2 x hx
  ·rcases h3 with h3 | h3
   ·rw [h3]
    by_cases h:b≤a
    ·exact .inr (by rw [Int.max_eq_right h];exact List.mem_cons_self)
    ·exact .inl (Int.max_eq_left (by lia))
   ·exact .inr (List.mem_cons_of_mem _ h3)
theorem mQ {ns:List Int} {x:Int} (h:x∈ns):x≤fD ns:=(gR ns _).2.1 x h
theorem qA {ns:List Int} (h:ns≠[]):fD ns∈ns:=by
 cases ns with
 | nil=>exact absurd rfl h
 | cons a l=>
  rcases (gR (a :: l) a).2.2 with e | e
  ·show List.foldl max a (a :: l)∈a :: l
   rw [e]
   exact List.mem_cons_self
  ·exact e
theorem yD {ns:List Int} {d x:Int} (h:x∈ns):x≤NX.maxD ns d:=by
 unfold NX.maxD
 rw [if_neg (List.ne_nil_of_mem h)]
 exact mQ h
theorem ux (ns:List Int) (d:Int):(ns=[]∧NX.maxD ns d=d)∨NX.maxD ns d∈ns:=by
 unfold NX.maxD
 by_cases h:ns=[]
 ·exact .inl ⟨h,if_pos h⟩
 ·rw [if_neg h]
  exact .inr (qA h)
theorem lb (a:DY):a.1≤k8 a∧a.2.2≤k8 a∧(k8 a=a.1∨k8 a=a.2.2):=by
 unfold k8
 split
 ·exact ⟨by lia,by lia,.inr rfl⟩
 ·exact ⟨by lia,by lia,.inl rfl⟩
theorem uy {aZ:List DY} {a:DY} (h:a∈aZ):a.1 < a8 aZ∧a.2.2 < a8 aZ:=by
 have h1:=yD (d:=0) (List.mem_map.mpr ⟨a,h,rfl⟩:k8 a∈aZ.map k8)
 obtain ⟨h2,h3,_⟩:=lb a
 unfold a8
 lia
theorem rD {aZ:List DY} (h:∀ a∈aZ,0≤a.1∧0≤a.2.2):1≤a8 aZ:=by
 unfold a8
 rcases ux (aZ.map k8) 0 with ⟨_,e⟩ | e
 ·lia
 ·obtain ⟨a,ha,e2⟩:=mN e
  have:=h a ha
  obtain ⟨h1,h2,_⟩:=lb a
  lia
theorem lg {α:Type} (lt:α→α→Bool) {l:List α} {a:α}:a∈bz lt l↔a∈l:=(dP lt l).mem_iff
theorem Found.zero {aZ:List DY} {N:List Nd} (F:Found aZ N):(0:Int)∈N.map (·.1):=List.mem_map.mpr ⟨(0,[]),List.mem_of_getElem? F.z,rfl⟩
structure Ch (nZ:Ei) (aZ:List DY):Prop where
 al:aZ.length≤60
 bd:∀ a∈aZ,(0≤a.1∧a.1 < 12)∧0≤a.2.2∧a.2.2 < 12
 nm:∀ a∈aZ,a.2.1∈nZ
 st:1≤a8 aZ∧a8 aZ≤12
 all:∀ N,Found aZ N→∀ s:Int,0≤s→s < a8 aZ→s∈N.map (·.1)
structure Ra (nZ:Ei) (as:List DY) (many:Nat):Prop where
 mm:1≤many∧many≤12
 len:as.length≤60
 bd:∀ a∈as,(0≤a.1∧a.1 < (many:Int))∧0≤a.2.2∧a.2.2 < (many:Int)
 nm:∀ a∈as,a.2.1∈nZ
 rc:∀ j:Nat,1≤j→j < many→∃ a∈as,a.2.2=(j:Int)∧∃ b:Nat,b < j∧a.1=(b:Int)
theorem oM {aZ:List DY} {many:Nat} (hm:1≤many) (h:∀ a∈aZ,(0≤a.1∧a.1 < (many:Int))∧0≤a.2.2∧a.2.2 < (many:Int)):1≤a8 aZ∧a8 aZ≤(many:Int):=by
 refine ⟨rD fun a ha=>?_,?_⟩
 ·have:=h a ha
  lia
 ·unfold a8
  rcases ux (aZ.map k8) 0 with ⟨_,e⟩ | e
  ·lia
  ·obtain ⟨a,ha,e2⟩:=mN e
   have:=h a ha
   obtain ⟨h1,h2,h3⟩:=lb a
   lia
theorem Ra.sort {nZ:Ei} {as:List DY} {many:Nat} (r:Ra nZ as many):Ra nZ (bz cM as) many:=by
 have mem:∀ {a:DY},a∈bz cM as↔a∈as:=lg cM
 refine ⟨r.mm,by rw [gP];exact r.len,fun a ha=>r.bd a (mem.mp ha),fun a ha=>r.nm a (mem.mp ha),fun j h1 h2=>?_⟩
 obtain ⟨a,ha,q⟩:=r.rc j h1 h2
 exact ⟨a,mem.mpr ha,q⟩
theorem Ra.ch {nZ:Ei} {as:List DY} {many:Nat} (r:Ra nZ as many):Ch nZ as:=by
 have hm:=r.mm
 have Hk:=oM hm.1 r.bd
 refine ⟨r.len,fun a ha=>?_,r.nm,by lia,fun N F s h0 h1=>?_⟩
 ·have:=r.bd a ha
  lia
 ·have key:∀ j:Nat,j < many→(j:Int)∈N.map (·.1):=by
   intro j
   induction j using Nat.strongRecOn with
   | _ j ih=>
    intro hj
    cases j with
    | zero=>exact F.zero
    | succ j=>
     obtain ⟨a,ha,e1,b,Oi,e2⟩:=r.rc (j + 1) (by lia) hj
     obtain ⟨n,hn,en⟩:=mN (ih b Oi (by lia))
     obtain ⟨m,hm,em,_⟩:=F.clo n hn a ha (by rw [e2,en])
     exact List.mem_map.mpr ⟨m,hm,by rw [em,e1]⟩
  obtain ⟨k,rfl⟩:=Int.eq_ofNat_of_zero_le h0
  exact key k (by lia)
theorem pJ (as:List DY) (h:as.length < 64):e7 [.lst (as.map eA)]=.ok (.l .f,.lst ((bz cM as).map eA)):=by
 have key:kx (as.map eA)=some ((bz cM as).map eA):=by
  cases as with
  | nil=>rfl
  | cons a as=>
   have e1:jE ((a :: as).map eA)=some ((a :: as).map ak):=by rw [uw,jl]
   have e2:sameKinds (ak a) (as.map ak)=true:=by
    unfold sameKinds
    rw [List.all_map,Bool.and_eq_true,List.all_eq_true]
    exact ⟨rfl,fun b _=>rfl⟩
   unfold kx
   rw [e1,eX,eX]
   dsimp only [eA,c8,fw]
   rw [if_pos e2,←eX,oK ak eO,uw]
   rfl
 unfold e7
 dsimp only
 rw [if_pos (by rw [bj];exact h),key]
noncomputable def cell (ns:List Int) (k:Nat):Int:=ns.getD k 0
theorem jc (ns:List Int) (k:Nat):aE [.lst (ns.map D.int),.int (k:Int)]=.ok (.f,.int (cell ns k)):=by
 unfold aE ia cell
 rw [bc (h:=by rfl)]
 simp only [↓pd,pv,seval,op,bj]
 by_cases h:k < ns.length
 ·have h1:(k:Int) < (ns.length:Int):=by lia
  simp only [h1,decide_true,↓pd,pv,seval,fC h]
 ·have h1:¬ (k:Int) < (ns.length:Int):=by lia
  simp only [h1,decide_false,↓pd,pv,seval,f9,List.getD_eq_getElem?_getD,List.getElem?_eq_none (Nat.le_of_not_lt h),Option.getD_none]
theorem yU (x y:Int) (h:cN x=true):x4 (.int x) (.int y)=.ok (.f,.int (x * y)):=by rw [ue,h,Bool.true_or,if_pos rfl]
theorem CF (x y:Int) (h:cN y=true):x4 (.int x) (.int y)=.ok (.f,.int (x * y)):=by rw [ue,h,Bool.or_true,if_pos rfl]
theorem qB (x:Int) (h:0≤x) (h2:x≤4294967296):cN x=true:=by
 unfold cN
 rw [decide_eq_true_eq]
 lia
noncomputable def uz (c k:Int):Int:=((((c % 2147483647 + 48271 * (k + 1)) * (c % 2147483647 + 48271 * (k + 1)) + 69621 * k) % 2147483647) * (((c % 2147483647 + 48271 * (k + 1)) * (c % 2147483647 + 48271 * (k + 1)) + 69621 * k) % 2147483647) + 16807 * k + 1) % 2147483647
theorem lh (c k:Int) (hk:0≤k) (Nn:k≤1000):aR [.int c,.int k]=.ok (.f,.int (uz c k)):=by
 have b1:=dO c 2147483647 (by decide)
 have b2:=dO ((c % 2147483647 + 48271 * (k + 1)) * (c % 2147483647 + 48271 * (k + 1)) + 69621 * k) 2147483647 (by decide)
 unfold aR jL uz
 rw [bc (h:=by rfl)]
 rw [av (env':=[some (.f,.int c),some (.f,.int k),some (.f,.int (c % 2147483647 + 48271 * (k + 1)))]) (by simp only [↓pd,pv,seval,op,g6 _ 2147483647 (by decide),yU 48271 (k + 1) (by decide)])]
 have hs:cN (c % 2147483647 + 48271 * (k + 1))=true:=qB _ (by lia) (by lia)
 generalize c % 2147483647 + 48271 * (k + 1)=x at *
 rw [av (env':=[some (.f,.int c),some (.f,.int k),some (.f,.int ((x * x + 69621 * k) % 2147483647))]) (by simp only [↓pd,pv,seval,op,g6 _ 2147483647 (by decide),yU x x hs,yU 69621 k (by decide)])]
 generalize (x * x + 69621 * k) % 2147483647=y at *
 have hs:cN y=true:=qB _ (by lia) (by lia)
 simp only [↓pd,pv,seval,op,g6 _ 2147483647 (by decide),yU y y hs,yU 16807 k (by decide)]
theorem qC:∀ l:List Nat,joinL [] (l.map fun c=>[c])=l
 | []=>rfl
 | [c]=>rfl
 | c :: d :: l=>by
  have ih:=qC (d :: l)
  show [c]++[]++joinL [] ((d :: l).map fun c=>[c])=_
  rw [ih]
  rfl
theorem uA:∀ l:List Nat,((l.map fun c=>[c]).map List.length).sum=l.length
 | []=>rfl
 | c :: l=>by
  rw [eX,eX,List.sum_cons,uA l]
  show 1 + l.length=l.length + 1
  lia
theorem yE (l:List Nat) (h:l.length≤1000):tS [] [.lst ((l.map fun c=>[c]).map D.str)]=.ok (.f,.str l):=by
 unfold tS
 dsimp only
 rw [dU]
 dsimp only
 rw [if_pos (by rw [uA,List.length_nil,Nat.mul_zero];lia),qC]
theorem wJ (a:List Nat) (l:Ei):Hj (.str a) (.lst (l.map D.str))=.ok (.f,.bl (decide (a∈l))):=by
 unfold Hj
 dsimp only
 rw [ju,qw,plainD]
 all_goals simp
noncomputable def IC (base:List Int) (wd sp:Nat) (tk:Bool) (k:Nat):List Int:=if tk then base.take (k + 1) else (base.take wd).set sp ((base.getD sp 0 + (k:Int)) % 26)
noncomputable def Gr (base:List Int) (wd sp:Nat) (tk:Bool) (k:Nat):List Nat:=(IC base wd sp tk k).map fun j=>97 + j.toNat
theorem yF (l:List Int) (hb:∀ j∈l,0≤j∧j < 26):cH (aw 0) eS (ay D3 (ao 1) (ao 0)) (l.map D.int) [none,some (.f,.str Gp)]=.ok (((l.map fun j=>97 + j.toNat).map fun c=>[c]).map D.str):=by
 rw [bF (r:=fun j:Int=>D.str [97 + j.toNat]) (fun env=>∃ t,env=[t,some (.f,.str Gp)]) l ?_ _ ⟨none,rfl⟩]
 ·rw [List.map_map,List.map_map]
  rfl
 ·rintro j hj env ⟨t,rfl⟩
  obtain ⟨h0,h1⟩:=hb j hj
  refine ⟨[some (.f,.int j),some (.f,.str Gp)],rfl,.f,[some (.f,.int j),some (.f,.str Gp)],?_,_,rfl⟩
  simp only [↓pd,pv,seval,op,AV j h0 h1]
theorem CG (base:List Int) (hb:∀ j∈base,0≤j∧j < 26) (wd sp:Nat) (tk:Bool) (k:Nat):∀ j∈IC base wd sp tk k,0≤j∧j < 26:=by
 intro j hj
 unfold IC at hj
 split at hj
 ·exact hb j (List.mem_of_mem_take hj)
 ·rcases List.mem_or_eq_of_mem_set hj with h | h
  ·exact hb j (List.mem_of_mem_take h)
  ·rw [h]
   exact dO _ _ (by decide)
theorem uB (base:List Int) (hl:base.length=8) (wd sp:Nat) (tk:Bool) (k:Nat):(IC base wd sp tk k).length≤8:=by
 unfold IC
 split
 ·rw [List.length_take];lia
 ·rw [List.length_set,List.length_take];lia
theorem AY (Es:Int) (base:List Int) (hl:base.length=8) (hb:∀ j∈base,0≤j∧j < 26) (wd sp:Nat) (hw:wd≤8) (hs:sp < wd) (tk:Bool) (Nx:(Es / 64 % 4 == 1)=tk) (l:Ei) (hll:l.length≤10) (k:Nat) (t7:Option R) :
  ∃ u7,cW [some (.f,.int Es),some (.f,.str Gp),some (.l .f,.lst (base.map D.int)),some (.f,.int (wd:Int)),some (.f,.int (sp:Int)),some (.l .f,.lst (l.map D.str)),some (.f,.int (k:Int)),t7]=.ok (.nx [some (.f,.int Es),some (.f,.str Gp),some (.l .f,.lst (base.map D.int)),some (.f,.int (wd:Int)),some (.f,.int (sp:Int)),some (.l .f,.lst ((l++[Gr base wd sp tk k]).map D.str)),some (.f,.int (k:Int)),u7]):=by
 have Ln:gu (base.map D.int) none (some (wd:Int))=(base.take wd).map D.int:=by rw [mO,List.map_take]
 have Gq:EV ((base.take wd).map D.int) (sp:Int)=some (.int (base.getD sp 0)):=by
  rw [fC (by rw [List.length_take];lia)]
  congr 2
  rw [List.getD_eq_getElem?_getD,List.getD_eq_getElem?_getD,List.getElem?_take_of_lt hs]
 have EX:ixN (base.take wd).length (sp:Int)=some sp:=pE _ _ (by rw [List.length_take];lia)
 have hnl:=uB base hl wd sp tk k
 have J9:=yF (IC base wd sp tk k) (CG base hb wd sp tk k)
 have hj:=yE (Gr base wd sp tk k) (by unfold Gr;rw [bj];lia)
 have hz:(l.map D.str).length < sizeLine:=hJ (by rw [bj];lia)
 have hzl:(((Gr base wd sp tk k).map fun c=>[c]).map D.str).length≤sizeLine:=aX (by unfold Gr;rw [bj,bj,bj];lia)
 have HM:=PV.flat_strs ((Gr base wd sp tk k).map fun c=>[c])
 have J9:cH (aw 0) eS (ay D3 (ao 1) (ao 0)) ((IC base wd sp tk k).map D.int) [none,some (.f,.str Gp)]=.ok (((Gr base wd sp tk k).map fun c=>[c]).map D.str):=J9
 unfold cW
 rw [av (env':=[some (.f,.int Es),some (.f,.str Gp),some (.l .f,.lst (base.map D.int)),some (.f,.int (wd:Int)),some (.f,.int (sp:Int)),some (.l .f,.lst (l.map D.str)),some (.f,.int (k:Int)),some (.l .f,.lst ((base.take wd).map D.int))]) (by simp only [↓pd,pv,seval,op,Ln])]
 rw [av (env':=[some (.f,.int Es),some (.f,.str Gp),some (.l .f,.lst (base.map D.int)),some (.f,.int (wd:Int)),some (.f,.int (sp:Int)),some (.l .f,.lst (l.map D.str)),some (.f,.int (k:Int)),some (.l .f,.lst (((base.take wd).set sp ((base.getD sp 0 + (k:Int)) % 26)).map D.int))]) (by
  rw [List.map_set]
  simp only [↓pd,pv,seval,op,Gq,g6 _ 26 (by decide),bj,EX])]
 rw [av (env':=[some (.f,.int Es),some (.f,.str Gp),some (.l .f,.lst (base.map D.int)),some (.f,.int (wd:Int)),some (.f,.int (sp:Int)),some (.l .f,.lst (l.map D.str)),some (.f,.int (k:Int)),some (.l .f,.lst ((IC base wd sp tk k).map D.int))]) (by
  unfold IC
  cases tk with
  | true=>
   have Jf:gu (base.map D.int) none (some ((k:Int) + 1))=(base.take (k + 1)).map D.int:=by rw [show (k:Int) + 1=((k + 1:Nat):Int) by lia,mO,List.map_take]
   simp only [↓pd,pv,seval,op,eQ _ 64 (by decide) (by decide),g6 _ 4 (by decide),Nx,Jf]
  | false=>simp only [↓pd,pv,seval,op,eQ _ 64 (by decide) (by decide),g6 _ 4 (by decide),Nx,f9])]
 refine ⟨some (.l .f,.lst ((IC base wd sp tk k).map D.int)),?_⟩
 generalize IC base wd sp tk k=W at *
 generalize Gr base wd sp tk k=V at *
 rw [List.map_append,eX,List.map_nil]
 generalize (ay D3 (ao 1) (ao 0))=GG at J9 ⊢
 simp only [↓pd,pv,seval,op,J9,hzl,HM,hj,hz]
theorem yG (base:List Int) (hl:base.length=8) (hb:∀ j∈base,0≤j∧j < 26) (wd sp:Nat) (hw:wd≤8) (hs:sp < wd) (tk:Bool) (k k':Nat) (hk:k≤5) (hk':k'≤5) (e:Gr base wd sp tk k=Gr base wd sp tk k'):k=k':=by
 unfold Gr IC at e
 cases tk with
 | true=>
  have:=congrArg List.length e
  simp only [if_true,bj,List.length_take] at this
  lia
 | false=>
  have e2:=congrArg (fun l=>l[sp]?) e
  have Eu:sp < (base.take wd).length:=by rw [List.length_take];lia
  simp only [f9,if_false,List.getElem?_map,List.getElem?_set_self Eu,Option.map_some,Option.some.injEq] at e2
  have b1:=dO (base.getD sp 0 + (k:Int)) 26 (by decide)
  have b2:=dO (base.getD sp 0 + (k':Int)) 26 (by decide)
  generalize base.getD sp 0=z at *
  lia
theorem yH (Es:Int):∃ l:Ei,l.length=5∧l.Nodup∧l.Pairwise (fun a b=>HI b a=false)∧cO [.int Es]=.ok (.l .f,.lst (l.map D.str)):=by
 unfold cO jM
 rw [bc (h:=by rfl)]
 rw [av (env':=[some (.f,.int Es),some (.f,.str Gp),none,none,none,none,none,none]) (by simp only [↓pd,pv,seval,op];rfl)]
 have hc:cH (aw 0) eS (ay eZ (aj (c7 aR (ah (ao 1) (ah (ao 0) aF)))) (aj (aH (.int 26)))) ((List.range 8).map fun (k:Nat)=>D.int (k:Int)) [none,some (.f,.int Es)]=.ok (((List.range 8).map fun (k:Nat)=>uz Es (k:Int) % 26).map D.int):=by
  rw [bF (r:=fun k:Nat=>D.int (uz Es (k:Int) % 26)) (fun env=>∃ t,env=[t,some (.f,.int Es)]) (List.range 8) ?_ _ ⟨none,rfl⟩]
  ·rw [List.map_map]
   rfl
  ·rintro k hk env ⟨t,rfl⟩
   have hk:=List.mem_range.mp hk
   refine ⟨[some (.f,.int (k:Int)),some (.f,.int Es)],rfl,.f,[some (.f,.int (k:Int)),some (.f,.int Es)],?_,_,rfl⟩
   simp only [↓pd,pv,seval,op,lh Es (k:Int) (by lia) (by lia),g6 _ 26 (by decide)]
 have Ny:((List.range 8).map fun (k:Nat)=>uz Es (k:Int) % 26).length=8:=rfl
 have IH:∀ j∈((List.range 8).map fun (k:Nat)=>uz Es (k:Int) % 26),0≤j∧j < 26:=by
  intro j hj
  obtain ⟨k,_,rfl⟩:=mN hj
  exact dO _ _ (by decide)
 generalize ((List.range 8).map fun (k:Nat)=>uz Es (k:Int) % 26)=base at hc Ny IH
 have hlen:(base.map D.int).length≤sizeLine:=aX (by rw [bj];lia)
 have hff:=DW base
 rw [av (env':=[some (.f,.int Es),some (.f,.str Gp),some (.l .f,.lst (base.map D.int)),none,none,none,none,none]) (by
  generalize (ay eZ (aj (c7 aR (ah (ao 1) (ah (ao 0) aF)))) (aj (aH (.int 26))))=GG at hc ⊢
  simp only [↓pd,pv,seval,op]
  rw [if_pos (by decide)]
  simp only [↓pd,pv,seval,op,show (8:Int).toNat=8 from rfl,hc,hlen,hff])]
 have m8:=dO Es 8 (by decide)
 obtain ⟨wd,ew⟩:=Int.eq_ofNat_of_zero_le (show 0≤1 + Es % 8 by lia)
 have msp:=dO (Es / 8) (wd:Int) (by lia)
 obtain ⟨sp,es⟩:=Int.eq_ofNat_of_zero_le msp.1
 rw [av (env':=[some (.f,.int Es),some (.f,.str Gp),some (.l .f,.lst (base.map D.int)),some (.f,.int (wd:Int)),none,none,none,none]) (by simp only [↓pd,pv,seval,op,g6 _ 8 (by decide),ew])]
 rw [av (env':=[some (.f,.int Es),some (.f,.str Gp),some (.l .f,.lst (base.map D.int)),some (.f,.int (wd:Int)),some (.f,.int (sp:Int)),none,none,none]) (by simp only [↓pd,pv,seval,op,eQ _ 8 (by decide) (by decide),g6 _ (wd:Int) (by lia),es])]
 rw [av (env':=[some (.f,.int Es),some (.f,.str Gp),some (.l .f,.lst (base.map D.int)),some (.f,.int (wd:Int)),some (.f,.int (sp:Int)),some (.l .f,.lst []),none,none]) (by simp only [↓pd,pv,seval,op])]
 obtain ⟨tk,Nx⟩:∃ tk,(Es / 64 % 4 == 1)=tk:=⟨_,rfl⟩
 obtain ⟨env',ef,t6,t7,rfl⟩:=k7 (a:=aw 6) (g:=cW) (e:=fun k=>D.int (k:Int)) 5 (fun i env=>∃ (t6 t7:Option R),env=[some (.f,.int Es),some (.f,.str Gp),some (.l .f,.lst (base.map D.int)),some (.f,.int (wd:Int)),some (.f,.int (sp:Int)),some (.l .f,.lst (((List.range i).map (Gr base wd sp tk)).map D.str)),t6,t7]) (by
  rintro k env hk ⟨t6,t7,rfl⟩
  obtain ⟨u7,e⟩:=AY Es base Ny IH wd sp (by lia) (by lia) tk Nx ((List.range k).map (Gr base wd sp tk)) (by rw [bj,List.length_range];lia) k t7
  rw [show ((List.range k).map (Gr base wd sp tk))++[Gr base wd sp tk k]=(List.range (k + 1)).map (Gr base wd sp tk) by rw [List.range_succ,List.map_append];rfl] at e
  exact ⟨_,rfl,_,e,_,_,rfl⟩) _ ⟨none,none,rfl⟩
 rw [List.range_zero,List.map_nil,List.map_nil] at ef
 rw [av (env':=_) (by
  unfold ib
  simp only [↓pd,pv,seval,op]
  rw [if_pos (by decide)]
  simp only [↓pd,pv,seval,op,show (5:Int).toNat=5 from rfl]
  exact ef)]
 unfold gA
 have Jg:((List.range 5).map (Gr base wd sp tk)).length=5:=by rw [bj,List.length_range]
 have KY:((List.range 5).map (Gr base wd sp tk)).Nodup:=gQ _ 5 fun i j hi hj e=>yG base Ny IH wd sp (by lia) (by lia) tk i j (by lia) (by lia) e
 have O6:∀ n∈((List.range 5).map (Gr base wd sp tk)),n.length≤8:=by
  intro n hn
  obtain ⟨k,_,rfl⟩:=mN hn
  unfold Gr
  rw [bj]
  exact uB base Ny wd sp tk k
 generalize ((List.range 5).map (Gr base wd sp tk))=l at Jg KY O6
 by_cases hm:[109,111,118,101,115]∈l
 ·have GQ:cH (aw 0) eS (ay cp (aj (aH (.str [115]))) (ao 0)) (l.map D.str) [none]=.ok ((l.map fun n=>115 :: n).map D.str):=by
   rw [bF (r:=fun n:List Nat=>D.str (115 :: n)) (fun env=>∃ t,env=[t]) l ?_ _ ⟨none,rfl⟩]
   ·rw [List.map_map]
    rfl
   ·rintro n hn env ⟨t,rfl⟩
    have:=O6 n hn
    refine ⟨[some (.f,.str n)],rfl,.f,[some (.f,.str n)],?_,_,rfl⟩
    simp only [↓pd,pv,seval,op,DM [115] n (by rw [List.length_singleton];lia)]
  have Oj:((l.map fun n=>115 :: n).map D.str).length≤sizeLine:=aX (by rw [bj,bj];lia)
  have hnd2:(l.map fun n=>115 :: n).Nodup:=by
   rw [List.nodup_iff_pairwise_ne,List.pairwise_map]
   exact (List.nodup_iff_pairwise_ne.mp KY).imp fun {a b} h e=>h (List.cons.inj e).2
  have HM:=PV.flat_strs (l.map fun n=>115 :: n)
  rw [av (env':=[some (.f,.int Es),some (.f,.str Gp),some (.l .f,.lst (base.map D.int)),some (.f,.int (wd:Int)),some (.f,.int (sp:Int)),some (.l .f,.lst ((l.map fun n=>115 :: n).map D.str)),t6,t7]) (by
   generalize (ay cp (aj (aH (.str [115]))) (ao 0))=GG at GQ ⊢
   simp only [↓pd,pv,seval,op,wJ,hm,decide_true,GQ,Oj,HM])]
  refine ⟨bz HI (l.map fun n=>115 :: n),by rw [gP,bj];exact Jg,(dP HI _).nodup_iff.mpr hnd2,eU pe _,?_⟩
  simp only [↓pd,pv,seval,op,uf (l.map fun n=>115 :: n) (by rw [bj];lia)]
 ·rw [av (env':=[some (.f,.int Es),some (.f,.str Gp),some (.l .f,.lst (base.map D.int)),some (.f,.int (wd:Int)),some (.f,.int (sp:Int)),some (.l .f,.lst (l.map D.str)),t6,t7]) (by simp only [↓pd,pv,seval,op,wJ,hm,decide_false,f9])]
  refine ⟨bz HI l,by rw [gP];exact Jg,(dP HI _).nodup_iff.mpr KY,eU pe _,?_⟩
  simp only [↓pd,pv,seval,op,uf l (by lia)]
theorem AZ (env:PV.Env) (fo:FO) (fp D0 fq:FP):Cg fo fp D0 fq env=Res.bnd (fo env) (f:=⟨fun p=>Res.bnd (fp p.2) (f:=⟨fun q=>Res.bnd (D0 q.2) (f:=⟨fun t=>Res.bnd (fq t.2) (f:=⟨fun u=>Res.bnd (Eg u.2 p.1) (f:=⟨fun d=>Res.bnd (Al d q.1 t.1 u.1) (f:=⟨fun r=>.ok (r,u.2)⟩)⟩)⟩)⟩)⟩)⟩):=id rfl
theorem yI (env:PV.Env) (fa fb fc:FX):yf fa fb fc env=Res.bnd (fa env) (f:=⟨fun p=>Res.bnd (fb p.2) (f:=⟨fun q=>Res.bnd (fc q.2) (f:=⟨fun t=>.ok ((.t [.f,q.1.1,t.1.1],.tup [p.1.2,q.1.2,t.1.2]),t.2)⟩)⟩)⟩):=id rfl
theorem vQ {α β:Type} (f:α→β) (l:List α) (lo hi:Option Int) (c:Int):gv (l.map f) lo hi c=(gv l lo hi c).map f:=by
 unfold gv
 rw [bj,List.map_filterMap]
 congr 1
 funext i
 rw [List.getElem?_map]
theorem CH (ds:List D) (lo hi:Option Int):Al (.lst ds) lo hi (some 6)=.ok (.l .f,.lst (gv ds lo hi 6)):=id rfl
theorem A3 (ns:List Int) (first k:Int) (hk:0≤k∧k≤1000):∃ v:Int,dh [.lst (ns.map D.int),.int first,.int k]=.ok (.f,.int v):=by
 unfold dh kQ
 rw [bc (h:=by rfl)]
 rw [av (env':=[some (.f,.lst (ns.map D.int)),some (.f,.int first),some (.f,.int k),some (.f,.int (7 + k)),none]) (by simp only [↓pd,pv,seval,op])]
 obtain ⟨env',ef,v,t4,rfl⟩:=for_list (a:=aw 4) (g:=e9) (e:=D.int) (gv ns (some (first + k)) (some (first + 84)) 6) (fun j env=>∃ (v:Int) (t4:Option R),env=[some (.f,.lst (ns.map D.int)),some (.f,.int first),some (.f,.int k),some (.f,.int v),t4]) (by
  rintro j c env hj ⟨v,t4,rfl⟩
  refine ⟨_,rfl,_,?_,uz (c + v) k,some (.f,.int c),rfl⟩
  unfold e9
  simp only [↓pd,pv,seval,op,lh (c + v) k hk.1 hk.2]) _ ⟨7 + k,none,rfl⟩
 rw [av (env':=_) (by
  unfold i0
  simp only [↓pd,pv,seval,op,AZ,CH,vQ]
  exact ef)]
 unfold ie
 exact ⟨v,by simp only [↓pd,pv,seval,op]⟩
def Tk (l:List Int) (cnt:Nat):Prop:=l.length=cnt∧∀ x∈l,0≤x∧x≤10
theorem Tk.app {l:List Int} {cnt:Nat} (h:Tk l cnt) {x:Int} (hx:0≤x∧x≤10):Tk (l++[x]) (cnt + 1):=by
 refine ⟨by rw [iH,h.1];rfl,fun y hy=>?_⟩
 rcases j6 hy with hy | hy
 ·exact h.2 y hy
 ·rw [j5 hy]
  exact hx
theorem yJ (number:Int) (cnt:Nat) (hc:cnt≤10):∃ (b:Int) (ts gs:List Int),(0≤b∧b≤10)∧Tk ts cnt∧Tk gs cnt∧cP [.int number,.int (cnt:Int)]=.ok (.t [.f,.l .f,.l .f],.tup [.int b,.lst (ts.map D.int),.lst (gs.map D.int)]):=by
 unfold cP jN
 rw [bc (h:=by rfl)]
 rw [av (env':=[some (.f,.int number),some (.f,.int (cnt:Int)),some (.l .f,.lst []),none,none,none,none,none]) (by simp only [↓pd,pv,seval,op])]
 rw [av (env':=[some (.f,.int number),some (.f,.int (cnt:Int)),some (.l .f,.lst []),some (.l .f,.lst []),none,none,none,none]) (by simp only [↓pd,pv,seval,op])]
 obtain ⟨env',ef,ts,gs,t4,t5,t6,t7,h1,h2,rfl⟩:=k7 (a:=aw 4) (g:=eF) (e:=fun k=>D.int (k:Int)) cnt (fun i env=>∃ (ts gs:List Int) (t4 t5 t6 t7:Option R),Tk ts i∧Tk gs i∧env=[some (.f,.int number),some (.f,.int (cnt:Int)),some (.l .f,.lst (ts.map D.int)),some (.l .f,.lst (gs.map D.int)),t4,t5,t6,t7]) (by
  rintro j env hj ⟨ts,gs,t4,t5,t6,t7,h1,h2,rfl⟩
  have z1:(ts.map D.int).length < sizeLine:=hJ (by rw [bj,h1.1];lia)
  have z2:(gs.map D.int).length < sizeLine:=hJ (by rw [bj,h2.1];lia)
  have Ij:=lh number (j:Int) (by lia) (by lia)
  generalize uz number (j:Int)=x at Ij
  have b1:=dO x 5 (by decide)
  have b2:=dO (x / 8) 4 (by decide)
  refine ⟨[some (.f,.int number),some (.f,.int (cnt:Int)),some (.l .f,.lst (ts.map D.int)),some (.l .f,.lst (gs.map D.int)),some (.f,.int (j:Int)),t5,t6,t7],rfl,_,?_,ts++[(if 0 < 0 - (x % 5 - 2) then 0 - (x % 5 - 2) else 0) + x / 8 % 4 / 3],gs++[(if 0 < x % 5 - 2 then x % 5 - 2 else 0) + x / 8 % 4 / 3],some (.f,.int (j:Int)),some (.f,.int x),some (.f,.int (x % 5 - 2)),some (.f,.int (x / 8 % 4 / 3)),h1.app ?_,h2.app ?_,rfl⟩
  ·unfold eF
   rw [av (env':=[some (.f,.int number),some (.f,.int (cnt:Int)),some (.l .f,.lst (ts.map D.int)),some (.l .f,.lst (gs.map D.int)),some (.f,.int (j:Int)),some (.f,.int x),t6,t7]) (by simp only [↓pd,pv,seval,op,Ij])]
   rw [av (env':=[some (.f,.int number),some (.f,.int (cnt:Int)),some (.l .f,.lst (ts.map D.int)),some (.l .f,.lst (gs.map D.int)),some (.f,.int (j:Int)),some (.f,.int x),some (.f,.int (x % 5 - 2)),t7]) (by simp only [↓pd,pv,seval,op,g6 _ 5 (by decide)])]
   generalize x % 5 - 2=y
   rw [av (env':=[some (.f,.int number),some (.f,.int (cnt:Int)),some (.l .f,.lst (ts.map D.int)),some (.l .f,.lst (gs.map D.int)),some (.f,.int (j:Int)),some (.f,.int x),some (.f,.int y),some (.f,.int (x / 8 % 4 / 3))]) (by simp only [↓pd,pv,seval,op,g6 _ 4 (by decide),eQ _ 8 (by decide) (by decide),eQ _ 3 (by decide) (by decide)])]
   generalize x / 8 % 4 / 3=z
   rw [List.map_append,List.map_append,eX,eX,List.map_nil]
   rw [av (env':=[some (.f,.int number),some (.f,.int (cnt:Int)),some (.l .f,.lst (ts.map D.int++[.int ((if 0 < 0 - y then 0 - y else 0) + z)])),some (.l .f,.lst (gs.map D.int)),some (.f,.int (j:Int)),some (.f,.int x),some (.f,.int y),some (.f,.int z)]) (by simp only [↓pd,pv,seval,op,z1])]
   simp only [↓pd,pv,seval,op,z2]
  ·split <;> lia
  ·split <;> lia) _ ⟨[],[],none,none,none,none,⟨rfl,(fun _ h=>nomatch h)⟩,⟨rfl,(fun _ h=>nomatch h)⟩,rfl⟩
 rw [List.map_nil] at ef
 rw [av (env':=_) (by
  unfold ig
  simp only [↓pd,pv,seval,op]
  rw [if_pos (by lia)]
  simp only [↓pd,pv,seval,op,Int.toNat_natCast]
  exact ef)]
 unfold gD
 have b:=dO (number / 16) 4 (by decide)
 exact ⟨number / 16 % 4,ts,gs,by lia,h1,h2,by simp only [↓pd,pv,seval,op,yI,eQ _ 16 (by decide) (by decide),g6 _ 4 (by decide)]⟩
abbrev Pl:=Int×List Int×List Int
noncomputable def eP (p:Pl):D:=.tup [.int p.1,.tup (p.2.1.map D.int),.tup (p.2.2.map D.int)]
def Ik (p:Pl) (cnt:Nat):Prop:=p.2.1.length=cnt∧p.2.2.length=cnt
theorem A4 (f:Int) (l:List Int) (h:∀ x∈l,0≤x∧x≤10):cH (aw 0) eS (ay lp (ao 1) (ao 0)) (l.map D.int) [none,some (.f,.int f)]=.ok ((l.map fun x=>f * x).map D.int):=by
 rw [bF (r:=fun x:Int=>D.int (f * x)) (fun env=>∃ t,env=[t,some (.f,.int f)]) l ?_ _ ⟨none,rfl⟩]
 ·rw [List.map_map]
  rfl
 ·rintro x hx env ⟨t,rfl⟩
  have:=h x hx
  refine ⟨[some (.f,.int x),some (.f,.int f)],rfl,.f,[some (.f,.int x),some (.f,.int f)],?_,_,rfl⟩
  simp only [↓pd,pv,seval,op,CF f x (oJ x (by lia) (by lia))]
theorem qD (b:Int) (hb:0≤b∧b≤10) (ts gs:List Int) (cnt:Nat) (hc:cnt≤10) (h1:Tk ts cnt) (h2:Tk gs cnt) (Es:Int):∃ p:Pl,Ik p cnt∧bY [.tup [.int b,.lst (ts.map D.int),.lst (gs.map D.int)],.int Es]=.ok (.f,eP p):=by
 have Nz:vC (.int 10) (.int 50)=.ok (.f,.int (10 ^ 50)):=CZ 50 (by decide)
 have M0:=dO Es (10 ^ 50) (by decide)
 unfold bY i4
 rw [bc (h:=by rfl)]
 rw [av (env':=[some (.f,.tup [.int b,.lst (ts.map D.int),.lst (gs.map D.int)]),some (.f,.int Es),some (.f,.int (1 + Es % 10 ^ 50)),none,none,none]) (by simp only [↓pd,pv,↓reduceIte,Nat.reduceAdd,Nat.reduceLT,Nat.reduceLeDiff,Nat.reduceEqDiff,op,Nz,g6 _ (10 ^ 50) (by decide)])]
 have hf:0 < 1 + Es % 10 ^ 50:=by
  generalize Es % 10 ^ 50=q at M0
  lia
 generalize 1 + Es % 10 ^ 50=f at hf
 rw [av (env':=[some (.f,.tup [.int b,.lst (ts.map D.int),.lst (gs.map D.int)]),some (.f,.int Es),some (.f,.int f),some (.f,.int b),some (.f,.lst (ts.map D.int)),some (.f,.lst (gs.map D.int))]) (by simp only [↓pd,pv,seval,op])]
 have c1:=A4 f ts h1.2
 have c2:=A4 f gs h2.2
 have l1:((ts.map fun x=>f * x).map D.int).length≤sizeLine:=aX (by rw [bj,bj,h1.1];lia)
 have l2:((gs.map fun x=>f * x).map D.int).length≤sizeLine:=aX (by rw [bj,bj,h2.1];lia)
 have f1:=DW (ts.map fun x=>f * x)
 have f2:=DW (gs.map fun x=>f * x)
 refine ⟨(f * b + Es / 7 % f,ts.map fun x=>f * x,gs.map fun x=>f * x),⟨by rw [bj];exact h1.1,by rw [bj];exact h2.1⟩,?_⟩
 unfold eP
 dsimp only
 generalize (ts.map fun x=>f * x).map D.int=T1 at *
 generalize (gs.map fun x=>f * x).map D.int=T2 at *
 have O7:=CF f b (oJ b (by lia) (by lia))
 have M1:=g6 (Es / 7) f hf
 have hdiv:=eQ Es 7 (by decide) (by decide)
 generalize f * b=fb at O7 ⊢
 generalize (Es / 7) % f=cf at M1 ⊢
 rw [av (env':=[some (.f,.tup [.int b,.lst (ts.map D.int),.lst (gs.map D.int)]),some (.f,.int Es),some (.f,.int f),some (.f,.int b),some (.f,.tup T1),some (.f,.lst (gs.map D.int))]) (by
  generalize (ay lp (ao 1) (ao 0))=GG at c1 ⊢
  simp only [↓pd,pv,seval,op,c1,l1,f1])]
 have O8:∀ GG,GG=(ay lp (ao 1) (ao 0))→cH (aw 0) eS GG (gs.map D.int) [none,some (.f,.int f)]=.ok T2:=fun GG h=>by rw [h];exact c2
 rw [show (d5 (g9 (az (ay cp (aj (ay lp (ao 2) (ao 3))) (aj (ay eZ (aj (ay dw (ao 1) (aj (aH (.int 7))))) (ao 2)))) (az (aK 4) (az (bg dy (ah (aj (dv (EY (iw 5) (EY (gm (aK 5)) (gq (aK 5)))) [none,some 2] (aw 0) eS (ay lp (ao 1) (ao 0)))) aF)) a7)))))=(fun GG=>d5 (g9 (az (ay cp (aj (ay lp (ao 2) (ao 3))) (aj (ay eZ (aj (ay dw (ao 1) (aj (aH (.int 7))))) (ao 2)))) (az (aK 4) (az (bg dy (ah (aj (dv (EY (iw 5) (EY (gm (aK 5)) (gq (aK 5)))) [none,some 2] (aw 0) eS GG)) aF)) a7))))) (ay lp (ao 1) (ao 0)) from rfl]
 generalize eGG:(ay lp (ao 1) (ao 0))=GG
 have c2:=O8 GG eGG.symm
 clear eGG O8
 simp only [↓pd,pv,seval,op,O7,M1,hdiv,c2,l2,f2]
theorem vR (ns:List Int) (first:Nat) (cnt:Nat) (hc:cnt≤10) (ps:List Pl) (O9:∀ p∈ps,Ik p cnt) (hl:ps.length≤100) (k:Nat) (hk:k≤100) (t5 t6 t7:Option R) :
  ∃ (LG:List Pl) (u5 u6 u7:Option R),(∀ p∈LG,Ik p cnt)∧ps.length + 1≤LG.length∧LG.length≤ps.length + 2∧cD [some (.f,.lst (ns.map D.int)),some (.f,.int (first:Int)),some (.f,.int (cnt:Int)),some (.l .f,.lst (ps.map eP)),some (.f,.int (k:Int)),t5,t6,t7]=.ok (.nx [some (.f,.lst (ns.map D.int)),some (.f,.int (first:Int)),some (.f,.int (cnt:Int)),some (.l .f,.lst (LG.map eP)),some (.f,.int (k:Int)),u5,u6,u7]):=by
 obtain ⟨v,ev⟩:=A3 ns (first:Int) (k:Int) (by lia)
 obtain ⟨b,ts,gs,hb,h1,h2,ep⟩:=yJ v cnt hc
 have c1:=jc ns (first + k)
 rw [show ((first + k:Nat):Int)=(first:Int) + (k:Int) by lia] at c1
 have c2:=jc ns (first + 6 + k)
 rw [show ((first + 6 + k:Nat):Int)=(first:Int) + 6 + (k:Int) by lia] at c2
 obtain ⟨p1,Pa,e1⟩:=qD b hb ts gs cnt hc h1 h2 (cell ns (first + k))
 have m4:=dO (v / 256) 4 (by decide)
 obtain ⟨p2,L6,e2⟩:=qD (v / 256 % 4) (by lia) gs ts cnt hc h2 h1 (cell ns (first + 6 + k))
 have Iz:bS (.t [.f,.l .f,.l .f]) (.tup [.int b,.lst (ts.map D.int),.lst (gs.map D.int)])=true:=by
  have f1:=DW ts
  have f2:=DW gs
  simp only [bS,nR,cy]
  rw [←bH,←bH,f1,f2]
  rfl
 have LH:∀ p:Pl,cy (eP p)=true:=fun p=>by
  unfold eP
  rw [cw]
  simp only [flatDs,cw,DW,ja]
  rfl
 have Ol:(ps.map eP).length < sizeLine:=hJ (by rw [bj];lia)
 have Js:(ps.map eP++[eP p1]).length < sizeLine:=hJ (by rw [iH,bj,List.length_singleton];lia)
 unfold cD
 rw [av (env':=[some (.f,.lst (ns.map D.int)),some (.f,.int (first:Int)),some (.f,.int (cnt:Int)),some (.l .f,.lst (ps.map eP)),some (.f,.int (k:Int)),some (.f,.int v),t6,t7]) (by simp only [↓pd,pv,seval,op,ev])]
 rw [av (env':=[some (.f,.lst (ns.map D.int)),some (.f,.int (first:Int)),some (.f,.int (cnt:Int)),some (.l .f,.lst (ps.map eP)),some (.f,.int (k:Int)),some (.f,.int v),some (.t [.f,.l .f,.l .f],.tup [.int b,.lst (ts.map D.int),.lst (gs.map D.int)]),t7]) (by simp only [↓pd,pv,seval,op,ep,Iz])]
 rw [av (env':=[some (.f,.lst (ns.map D.int)),some (.f,.int (first:Int)),some (.f,.int (cnt:Int)),some (.l .f,.lst (ps.map eP++[eP p1])),some (.f,.int (k:Int)),some (.f,.int v),some (.t [.f,.l .f,.l .f],.tup [.int b,.lst (ts.map D.int),.lst (gs.map D.int)]),t7]) (by simp only [↓pd,pv,seval,op,c1,e1,LH,Ol])]
 by_cases h3:0 < v / 64 % 3
 ·refine ⟨ps++[p1,p2],some (.f,.int v),some (.f,.tup [.int b,.lst (ts.map D.int),.lst (gs.map D.int)]),some (.f,.tup [.int (v / 256 % 4),.lst (gs.map D.int),.lst (ts.map D.int)]),fun p hp=>?_,by rw [iH];simp,by rw [iH];simp,?_⟩
  ·rcases j6 hp with hp | hp
   ·exact O9 p hp
   ·rcases List.mem_cons.mp hp with rfl | hp
    ·exact Pa
    ·rw [j5 hp]
     exact L6
  ·rw [List.map_append,eX,eX,List.map_nil,show ps.map eP++[eP p1,eP p2]=(ps.map eP++[eP p1])++[eP p2] by rw [List.append_assoc];rfl]
   simp only [↓pd,pv,seval,op,eQ _ 64 (by decide) (by decide),eQ _ 256 (by decide) (by decide),g6 _ 3 (by decide),g6 _ 4 (by decide),gt_iff_lt,h3,decide_true,at2,c2,e2,LH,Js]
 ·refine ⟨ps++[p1],some (.f,.int v),some (.t [.f,.l .f,.l .f],.tup [.int b,.lst (ts.map D.int),.lst (gs.map D.int)]),t7,fun p hp=>?_,by rw [iH];simp,by rw [iH];simp,?_⟩
  ·rcases j6 hp with hp | hp
   ·exact O9 p hp
   ·rw [j5 hp]
    exact Pa
  ·rw [List.map_append,eX,List.map_nil]
   simp only [↓pd,pv,seval,op,eQ _ 64 (by decide) (by decide),g6 _ 3 (by decide),gt_iff_lt,h3,decide_false,f9]
theorem vS (ns:List Int) (first:Nat) (cnt:Nat) (hc:cnt≤10):∃ ps:List Pl,(∀ p∈ps,Ik p cnt)∧ps≠[]∧ps.length≤8∧cu [.lst (ns.map D.int),.int (first:Int),.int (cnt:Int)]=.ok (.l .f,.lst (ps.map eP)):=by
 have c1:aE [.lst (ns.map D.int),.int 1]=.ok (.f,.int (cell ns 1)):=jc ns 1
 have m4:=dO (cell ns 1 / 4) 4 (by decide)
 unfold cu i5
 rw [bc (h:=by rfl)]
 rw [av (env':=[some (.f,.lst (ns.map D.int)),some (.f,.int (first:Int)),some (.f,.int (cnt:Int)),some (.l .f,.lst []),none,none,none,none]) (by simp only [↓pd,pv,seval,op])]
 obtain ⟨env',ef,ps,t4,t5,t6,t7,h1,h2,h3,rfl⟩:=k7 (a:=aw 4) (g:=cD) (e:=fun k=>D.int (k:Int)) (1 + cell ns 1 / 4 % 4).toNat (fun i env=>∃ (ps:List Pl) (t4 t5 t6 t7:Option R),(∀ p∈ps,Ik p cnt)∧i≤ps.length∧ps.length≤2 * i∧env=[some (.f,.lst (ns.map D.int)),some (.f,.int (first:Int)),some (.f,.int (cnt:Int)),some (.l .f,.lst (ps.map eP)),t4,t5,t6,t7]) (by
  rintro k env hk ⟨ps,t4,t5,t6,t7,h1,h2,h3,rfl⟩
  obtain ⟨LG,u5,u6,u7,h1',N3,h3',e⟩:=vR ns first cnt hc ps h1 (by lia) k (by lia) t5 t6 t7
  exact ⟨_,rfl,_,e,LG,_,_,_,_,h1',by lia,by lia,rfl⟩) _ ⟨[],none,none,none,none,(fun _ h=>nomatch h),Nat.le_refl _,Nat.le_refl _,rfl⟩
 rw [List.map_nil] at ef
 rw [av (env':=_) (by
  unfold gE
  simp only [↓pd,pv,seval,op,c1,eQ _ 4 (by decide) (by decide),g6 _ 4 (by decide)]
  rw [if_pos (by lia)]
  simp only [↓pd,pv,seval,op]
  exact ef)]
 unfold fV
 refine ⟨ps,h1,?_,by lia,by simp only [↓pd,pv,seval,op]⟩
 intro h
 rw [h,List.length_nil] at h2
 lia
theorem A5 {α:Type} {l:List α} (h:l.Nodup) (lo hi:Option Int):(gu l lo hi).Nodup:=by
 unfold gu
 exact (h.sublist (List.drop_sublist _ _)).sublist (List.take_sublist _ _)
theorem A6 {α:Type} {l:List α} {r:α→α→Prop} (h:l.Pairwise r) (lo hi:Option Int):(gu l lo hi).Pairwise r:=by
 unfold gu
 exact (h.sublist (List.drop_sublist _ _)).sublist (List.take_sublist _ _)
theorem yK (ns:List Int):∃ nZ:Ei,nZ≠[]∧nZ.length≤3∧nZ.Nodup∧nZ.Pairwise (fun a b=>HI b a=false)∧cQ [.lst (ns.map D.int)]=.ok (.f,.tup (nZ.map D.str)):=by
 have c0:aE [.lst (ns.map D.int),.int 0]=.ok (.f,.int (cell ns 0)):=jc ns 0
 have c1:aE [.lst (ns.map D.int),.int 1]=.ok (.f,.int (cell ns 1)):=jc ns 1
 obtain ⟨l,hl,KY,hpw,en⟩:=yH (cell ns 0)
 have m3:=dO (cell ns 1) 3 (by decide)
 unfold cQ jO
 rw [bc (h:=by rfl)]
 rw [av (env':=[some (.f,.lst (ns.map D.int)),some (.l .f,.lst (l.map D.str)),none,none,none]) (by simp only [↓pd,pv,seval,op,c0,en])]
 rw [av (env':=[some (.f,.lst (ns.map D.int)),some (.l .f,.lst (l.map D.str)),some (.f,.int (cell ns 1)),none,none]) (by simp only [↓pd,pv,seval,op,c1])]
 rw [av (env':=[some (.f,.lst (ns.map D.int)),some (.l .f,.lst (l.map D.str)),some (.f,.int (cell ns 1)),some (.f,.int (1 + cell ns 1 % 3)),none]) (by simp only [↓pd,pv,seval,op,g6 _ 3 (by decide)])]
 obtain ⟨cnt,ec⟩:=Int.eq_ofNat_of_zero_le (show 0≤1 + cell ns 1 % 3 by lia)
 rw [ec]
 have ms:=dO (cell ns 1 / 32) (6 - (cnt:Int)) (by lia)
 obtain ⟨st,es⟩:=Int.eq_ofNat_of_zero_le ms.1
 rw [av (env':=[some (.f,.lst (ns.map D.int)),some (.l .f,.lst (l.map D.str)),some (.f,.int (cell ns 1)),some (.f,.int (cnt:Int)),some (.f,.int (st:Int))]) (by simp only [↓pd,pv,seval,op,eQ _ 32 (by decide) (by decide),g6 _ (6 - (cnt:Int)) (by lia),es])]
 have Ln:=uh l st (st + cnt) (by lia) (by lia)
 have hlen:(gu l (some (st:Int)) (some ((st + cnt:Nat):Int))).length=cnt:=by
  rw [Ln,List.length_take,List.length_drop]
  lia
 rw [show ((st + cnt:Nat):Int)=(st:Int) + (cnt:Int) by lia] at hlen
 refine ⟨gu l (some (st:Int)) (some ((st:Int) + (cnt:Int))),?_,by lia,A5 KY _ _,A6 hpw _ _,?_⟩
 ·intro h
  rw [h,List.length_nil] at hlen
  lia
 ·simp only [↓pd,pv,seval,op,pF]
theorem A7 {α:Type} {a:FG} {g:FS} {e:α→D} {r:R} {Z:Prop} (l:List α) (P:Nat→PV.Env→Prop) (h:∀ k x env,l[k]?=some x→P k env→∃ DR,a (e x) env=.ok DR∧((∃ DZ,g DR=.ok (.nx DZ)∧P (k + 1) DZ)∨(g DR=.ok (.rt r)∧Z))) :
  ∀ env,P 0 env→(∃ env',jC a g (l.map e) env=.ok (.nx env')∧P l.length env')∨(jC a g (l.map e) env=.ok (.rt r)∧Z):=by
 have key:∀ (l':List α) (k:Nat) (env:PV.Env),(∀ i x,l'[i]?=some x→l[k + i]?=some x)→P k env→(∃ env',jC a g (l'.map e) env=.ok (.nx env')∧P (k + l'.length) env')∨(jC a g (l'.map e) env=.ok (.rt r)∧Z):=by
  intro l'
  induction l' with
  | nil=>exact fun k env _ hp=>.inl ⟨env,rfl,hp⟩
  | cons d l' ih=>
   intro k env hd hp
   obtain ⟨DR,h1,⟨DZ,h2,h3⟩ | ⟨h2,hz⟩⟩:=h k d env (hd 0 d rfl) hp
   ·rw [eX,Fh,h1,Eh,h2,Eh]
    rcases ih (k + 1) DZ (fun i x e=>by have:=hd (i + 1) x (by simpa using e);rw [show k + 1 + i=k + (i + 1) by lia];exact this) h3 with ⟨env',h4,h5⟩ | h4
    ·exact .inl ⟨env',h4,by rw [List.length_cons,show k + (l'.length + 1)=k + 1 + l'.length by lia];exact h5⟩
    ·exact .inr h4
   ·right
    rw [eX,Fh,h1,Eh,h2,Eh]
    exact ⟨rfl,hz⟩
 intro env hp
 have:=key l 0 env (fun i x e=>by rw [Nat.zero_add];exact e) hp
 rwa [Nat.zero_add] at this
theorem qE {c:FT} {g:FS} {r:R} {Z:Prop} (P:Nat→PV.Env→Prop) (fin:PV.Env→Prop) (h:∀ k env,P k env→(∃ DR,c env=.ok (false,DR)∧fin DR)∨(∃ DR,c env=.ok (true,DR)∧((∃ DZ k',g DR=.ok (.nx DZ)∧k' < k∧P k' DZ)∨(g DR=.ok (.rt r)∧Z)))) :
  ∀ n k env,k < n→P k env→(∃ env',cA c g n env=.ok (.nx env')∧fin env')∨(cA c g n env=.ok (.rt r)∧Z)
 | 0,k,env,hk,_=>absurd hk (Nat.not_lt_zero _)
 | n + 1,k,env,hk,hp=>by
  rcases h k env hp with ⟨DR,h1,h2⟩ | ⟨DR,h1,⟨DZ,k',h2,h3,h4⟩ | ⟨h2,hz⟩⟩
  ·exact .inl ⟨DR,by rw [EU,h1,Eh];rfl,h2⟩
  ·have e:cA c g (n + 1) env=cA c g n DZ:=by
    rw [EU,h1,Eh]
    dsimp only
    rw [if_pos rfl,h2,Eh]
   rw [e]
   exact qE P fin h n k' DZ (by lia) h4
  ·right
   refine ⟨?_,hz⟩
   rw [EU,h1,Eh]
   dsimp only
   rw [if_pos rfl,h2,Eh]
noncomputable def gS (k:Nat):List (Int×Pl)→Option (List Int)
 | []=>some []
 | z :: zs=>if z.1 < z.2.2.1.getD k 0 then none else (gS k zs).map fun r=>(z.1 - z.2.2.1.getD k 0 + z.2.2.2.getD k 0) :: r
theorem oN (k:Nat):∀ {zs:List (Int×Pl)} {r:List Int},gS k zs=some r→r.length=zs.length
 | [],r,h=>by cases h;rfl
 | z :: zs,r,h=>by
  rw [gS] at h
  split at h
  ·cases h
  ·rw [Option.map_eq_some_iff] at h
   obtain ⟨r',h1,rfl⟩:=h
   rw [List.length_cons,List.length_cons,oN k h1]
theorem mR (k:Nat):∀ {zs:List (Int×Pl)} {r:List Int} {j:Nat} {z:Int×Pl},gS k zs=some r→zs[j]?=some z→¬ z.1 < z.2.2.1.getD k 0∧r[j]?=some (z.1 - z.2.2.1.getD k 0 + z.2.2.2.getD k 0)
 | [],r,j,z,h,e=>by cases e
 | y :: zs,r,j,z,h,e=>by
  rw [gS] at h
  split at h
  ·cases h
  ·rename_i hn
   rw [Option.map_eq_some_iff] at h
   obtain ⟨r',h1,rfl⟩:=h
   cases j with
   | zero=>
    rw [List.getElem?_cons_zero] at e
    cases e
    exact ⟨hn,rfl⟩
   | succ j=>
    rw [List.getElem?_cons_succ] at e ⊢
    exact mR k h1 e
theorem A8 (A0 A1 A2:Option R) (k cnt:Nat) (hk:k < cnt) (acc:List Int) (hl:acc.length≤1000) (z:Int×Pl) (hz:Ik z.2 cnt):cC [A0,A1,A2,some (.f,.int (k:Int)),some (.l .f,.lst (acc.map D.int)),some (.f,.int z.1),some (.f,eP z.2)]=if z.1 < z.2.2.1.getD k 0 then .ok (.rt (.f,.non)) else .ok (.nx [A0,A1,A2,some (.f,.int (k:Int)),some (.l .f,.lst ((acc++[z.1 - z.2.2.1.getD k 0 + z.2.2.2.getD k 0]).map D.int)),some (.f,.int z.1),some (.f,eP z.2)]):=by
 have h1:EV (z.2.2.1.map D.int) (k:Int)=some (.int (z.2.2.1.getD k 0)):=fC (by rw [hz.1];exact hk)
 have h2:EV (z.2.2.2.map D.int) (k:Int)=some (.int (z.2.2.2.getD k 0)):=fC (by rw [hz.2];exact hk)
 have Oj:(acc.map D.int).length < sizeLine:=hJ (by rw [bj];lia)
 unfold cC eP
 by_cases h:z.1 < z.2.2.1.getD k 0
 ·rw [if_pos h]
  simp only [↓pd,pv,seval,op,h1,h,decide_true]
 ·rw [if_neg h,List.map_append,eX,List.map_nil]
  simp only [↓pd,pv,seval,op,h1,h2,at2,h,decide_false,f9,Oj]
theorem oO (A0 A1 A2:Option R) (k cnt:Nat) (hk:k < cnt):∀ (zs:List (Int×Pl)) (acc:List Int) (t5 t6:Option R),acc.length + zs.length≤1000→(∀ z∈zs,Ik z.2 cnt)→
  (gS k zs=none∧jC (g8 2 (aG (aw 5) (aG (aw 6) cB))) cC (zs.map fun z:Int×Pl=>D.tup [D.int z.1,eP z.2]) [A0,A1,A2,some (.f,.int (k:Int)),some (.l .f,.lst (acc.map D.int)),t5,t6]=.ok (.rt (.f,.non)))∨
  ∃ r u5 u6,gS k zs=some r∧jC (g8 2 (aG (aw 5) (aG (aw 6) cB))) cC (zs.map fun z:Int×Pl=>D.tup [D.int z.1,eP z.2]) [A0,A1,A2,some (.f,.int (k:Int)),some (.l .f,.lst (acc.map D.int)),t5,t6]=.ok (.nx [A0,A1,A2,some (.f,.int (k:Int)),some (.l .f,.lst ((acc++r).map D.int)),u5,u6])
 | [],acc,t5,t6,_,_=>.inr ⟨[],t5,t6,rfl,by rw [List.append_nil];rfl⟩
 | z :: zs,acc,t5,t6,hl,hp=>by
  have h1:=A8 A0 A1 A2 k cnt hk acc (by rw [List.length_cons] at hl;lia) z (hp z List.mem_cons_self)
  have ha:g8 2 (aG (aw 5) (aG (aw 6) cB)) (D.tup [D.int z.1,eP z.2]) [A0,A1,A2,some (.f,.int (k:Int)),some (.l .f,.lst (acc.map D.int)),t5,t6]=.ok [A0,A1,A2,some (.f,.int (k:Int)),some (.l .f,.lst (acc.map D.int)),some (.f,.int z.1),some (.f,eP z.2)]:=by simp only [↓pd,pv,seval]
  rw [eX,Fh,ha,Eh,h1,gS]
  by_cases h:z.1 < z.2.2.1.getD k 0
  ·left
   rw [if_pos h,if_pos h]
   exact ⟨rfl,by rw [Eh]⟩
  ·rw [if_neg h,if_neg h,Eh]
   rcases oO A0 A1 A2 k cnt hk zs (acc++[z.1 - z.2.2.1.getD k 0 + z.2.2.2.getD k 0]) (some (.f,.int z.1)) (some (.f,eP z.2)) (by rw [List.length_cons] at hl;rw [iH,List.length_singleton];lia) (fun y hy=>hp y (List.mem_cons_of_mem _ hy)) with ⟨e1,e2⟩ | ⟨r,u5,u6,e1,e2⟩
   ·left
    exact ⟨by rw [e1];rfl,e2⟩
   ·right
    refine ⟨_,u5,u6,by rw [e1];rfl,?_⟩
    rw [List.append_assoc] at e2
    exact e2
noncomputable def eN (nZ:Ei) (ps:List Pl):D:=.tup [.tup (nZ.map D.str),.lst (ps.map eP)]
noncomputable def eM (m:List Int):D:=.tup (m.map D.int)
theorem lj {nZ : Ei} {m : List Nat} (h : m ∈ nZ) : jm (nZ.map D.str) [.str m] = .ok (.f, .int ((nZ.idxOf m : Nat) : Int)) := by
  first
    | (unfold jm
       dsimp only
       rw [dU]
       dsimp only
       rw [if_pos h])
    | (unfold jm
       simp only [dU, h, if_true])
theorem mS {α β:Type} (f:α→D) (g:β→D) (xs:List α) (ys:List β):((xs.map f).zip (ys.map g)).map (fun z=>D.tup [z.1,z.2])=(xs.zip ys).map fun z=>D.tup [f z.1,g z.2]:=by
 rw [List.zip_map,List.map_map]
 rfl
theorem A9 (nZ:Ei) (ps:List Pl) (hl:ps.length≤100) (hp:∀ p∈ps,Ik p nZ.length) (m:List Int) (mv:List Nat) (hm:mv∈nZ) :
  (gS (nZ.idxOf mv) (m.zip ps)=none∧cJ [eN nZ ps,eM m,.str mv]=.ok (.f,.non))∨∃ r,gS (nZ.idxOf mv) (m.zip ps)=some r∧cJ [eN nZ ps,eM m,.str mv]=.ok (.f,eM r):=by
 have EX:=lj hm
 have hk:=List.idxOf_lt_length_of_mem hm
 generalize nZ.idxOf mv=k at EX hk
 unfold cJ kP eN eM
 rw [bc (h:=by rfl)]
 rw [av (env':=[some (.f,.tup [.tup (nZ.map D.str),.lst (ps.map eP)]),some (.f,.tup (m.map D.int)),some (.f,.str mv),some (.f,.int (k:Int)),none,none,none]) (by simp only [↓pd,pv,seval,op,EX])]
 rw [av (env':=[some (.f,.tup [.tup (nZ.map D.str),.lst (ps.map eP)]),some (.f,.tup (m.map D.int)),some (.f,.str mv),some (.f,.int (k:Int)),some (.l .f,.lst []),none,none]) (by simp only [↓pd,pv,seval,op])]
 rcases oO (some (.f,.tup [.tup (nZ.map D.str),.lst (ps.map eP)])) (some (.f,.tup (m.map D.int))) (some (.f,.str mv)) k nZ.length hk (m.zip ps) [] none none (by rw [List.length_nil,List.length_zip];lia) (fun z hz=>hp _ (List.of_mem_zip (show (z.1,z.2)∈m.zip ps from hz)).2) with ⟨e1,e2⟩ | ⟨r,u5,u6,e1,e2⟩
 ·left
  refine ⟨e1,?_⟩
  rw [List.map_nil] at e2
  unfold fK
  simp only [↓pd,pv,seval,op,mS,e2]
 ·right
  refine ⟨r,e1,?_⟩
  rw [List.map_nil,List.nil_append] at e2
  unfold fK ic
  simp only [↓pd,pv,seval,op,mS,e2]
theorem eqDs_ints:∀ a b:List Int,jj (a.map D.int) (b.map D.int)=decide (a=b)
 | [],[]=>rfl
 | [],_ :: _=>rfl
 | _ :: _,[]=>rfl
 | x :: a,y :: b=>by
  rw [eX,eX,jj,eqDs_ints a b,eqD,Bool.eq_iff_iff]
  simp
theorem yL (a b:List Int):eqD (eM a) (eM b)=decide (a=b):=by
 unfold eM
 rw [eqD,eqDs_ints]
theorem mT (a:List Int):plainD 40 (eM a)=true:=vO a
theorem mU (l:List (List Int)):plainDs 40 (l.map eM)=true:=by
 induction l with
 | nil=>rfl
 | cons a l ih=>
  rw [eX,plainDs,ih,Bool.and_true]
  exact mT a
theorem Om {α:Type} [DecidableEq α] {e:α→D} (he:∀ a b,eqD (e a) (e b)=decide (a=b)) (hp:∀ l:List α,plainDs 40 (l.map e)=true) (hq:∀ a,plainD 40 (e a)=true) (l:List α) (a:α) (h:a∈l):∃ i:Nat,l[i]?=some a∧mE (l.map e) [e a]=.ok (.f,.int (i:Int)):=by
 have e1:(l.map e).any (fun d=>eqD d (e a))=true:=by
  rw [List.any_map,List.any_eq_true]
  exact ⟨a,h,by show eqD (e a) (e a)=true;rw [he,decide_eq_true rfl]⟩
 have e2:(l.map e).findIdx (fun d=>eqD d (e a))=l.findIdx fun x=>decide (x=a):=by
  rw [List.findIdx_map]
  congr 1
  funext x
  exact he x a
 have h3:(l.findIdx fun x=>decide (x=a)) < l.length:=List.findIdx_lt_length_of_exists ⟨a,h,decide_eq_true rfl⟩
 have h4:=List.findIdx_getElem (p:=fun x=>decide (x=a)) (xs:=l) (w:=h3)
 refine ⟨l.findIdx fun x=>decide (x=a),by rw [jQ h3];congr 1;simpa using h4,?_⟩
 unfold mE
 dsimp only
 rw [hq,hp,e1,e2]
 rfl
theorem ll {α:Type} [DecidableEq α] (a:α):∀ l:List α,a∉l→((l++[a]).findIdx fun x=>decide (x=a))=l.length
 | [],_=>by simp
 | x :: l,h=>by
  rw [List.mem_cons,not_or] at h
  rw [List.cons_append,List.findIdx_cons,ll a l h.2,decide_eq_false (fun e=>h.1 e.symm)]
  rfl
theorem CI {α:Type} [DecidableEq α] {e:α→D} (he:∀ a b,eqD (e a) (e b)=decide (a=b)) (hp:∀ l:List α,plainDs 40 (l.map e)=true) (hq:∀ a,plainD 40 (e a)=true) (l:List α) (a:α) (h:a∉l):mE (l.map e++[e a]) [e a]=.ok (.f,.int (l.length:Int)):=by
 have e0:l.map e++[e a]=(l++[a]).map e:=by rw [List.map_append];rfl
 have e1:((l++[a]).map e).any (fun d=>eqD d (e a))=true:=by
  rw [List.any_map,List.any_eq_true]
  exact ⟨a,List.mem_append_right _ (List.mem_singleton.mpr rfl),by show eqD (e a) (e a)=true;rw [he,decide_eq_true rfl]⟩
 have e2:((l++[a]).map e).findIdx (fun d=>eqD d (e a))=l.length:=by
  rw [List.findIdx_map]
  rw [←ll a l h]
  congr 1
  funext x
  exact he x a
 unfold mE
 dsimp only
 rw [e0,hq,hp,e1,e2]
 rfl
theorem DO {α:Type} [DecidableEq α] {e:α→D} (he:∀ a b,eqD (e a) (e b)=decide (a=b)) (hp:∀ l:List α,plainDs 40 (l.map e)=true) (hq:∀ a,plainD 40 (e a)=true) (l:List α) (a:α):tw (e a) (.lst (l.map e))=.ok (.f,.bl (!decide (a∈l))):=by
 have e1:rF (e a) (l.map e)=decide (a∈l):=by
  unfold rF
  rw [List.any_map,Bool.eq_iff_iff,List.any_eq_true,decide_eq_true_eq]
  constructor
  ·rintro ⟨x,hx,e1⟩
   have e1:eqD (e x) (e a)=true:=e1
   rw [he,decide_eq_true_eq] at e1
   rw [←e1]
   exact hx
  ·intro h
   refine ⟨a,h,?_⟩
   show eqD (e a) (e a)=true
   rw [he,decide_eq_true_eq]
 unfold tw Hj
 dsimp only
 rw [hq,hp,Bool.and_self,if_pos rfl,e1]
 rfl
structure Rm (nZ:Ei) (ps:List Pl) (S:List (List Int)) (A:List DY) (m:Nat):Prop where
 nd:S.Nodup
 z:S[0]?=some (ps.map (·.1))
 ln:∀ s∈S,s.length=ps.length
 le:S.length≤8
 ab:∀ a∈A,a.2.1∈nZ∧∃ i j:Nat,i < m∧a.1=(i:Int)∧a.2.2=(j:Int)∧∃ s t,S[i]?=some s∧S[j]?=some t∧gS (nZ.idxOf a.2.1) (s.zip ps)=some t
 rc:∀ j:Nat,1≤j→j < S.length→∃ a∈A,a.2.2=(j:Int)∧∃ b:Nat,b < j∧a.1=(b:Int)
theorem Rm.more {nZ:Ei} {ps:List Pl} {S:List (List Int)} {A:List DY} {m m':Nat} (r:Rm nZ ps S A m) (h:m≤m'):Rm nZ ps S A m':=⟨r.nd,r.z,r.ln,r.le,fun a ha=>by
 obtain ⟨h1,i,j,h2,h3⟩:=r.ab a ha
 exact ⟨h1,i,j,by lia,h3⟩,r.rc⟩
theorem Rm.old {nZ:Ei} {ps:List Pl} {S:List (List Int)} {A:List DY} {d:Nat} (r:Rm nZ ps S A (d + 1)) {mv:List Nat} (hn:mv∈nZ) {s t:List Int} (hs:S[d]?=some s) {i:Nat} (ht:S[i]?=some t) (hf:gS (nZ.idxOf mv) (s.zip ps)=some t):Rm nZ ps S (A++[((d:Int),mv,(i:Int))]) (d + 1):=by
 refine ⟨r.nd,r.z,r.ln,r.le,fun a ha=>?_,fun j j1 j2=>?_⟩
 ·rcases j6 ha with ha | ha
  ·exact r.ab a ha
  ·rw [j5 ha]
   exact ⟨hn,d,i,by lia,rfl,rfl,s,t,hs,ht,hf⟩
 ·obtain ⟨a,ha,q⟩:=r.rc j j1 j2
  exact ⟨a,List.mem_append_left _ ha,q⟩
theorem Rm.new {nZ:Ei} {ps:List Pl} {S:List (List Int)} {A:List DY} {d:Nat} (r:Rm nZ ps S A (d + 1)) {mv:List Nat} (hn:mv∈nZ) {s t:List Int} (hs:S[d]?=some s) (ht:t∉S) (hf:gS (nZ.idxOf mv) (s.zip ps)=some t) (h8:S.length < 8):Rm nZ ps (S++[t]) (A++[((d:Int),mv,(S.length:Int))]) (d + 1):=by
 have hd:=(jv hs).1
 have hl:(S++[t]).length=S.length + 1:=by rw [iH];rfl
 have up:∀ {i:Nat} {x:List Int},S[i]?=some x→(S++[t])[i]?=some x:=fun {i x} h=>by
  rw [List.getElem?_append_left (jv h).1]
  exact h
 refine ⟨List.nodup_append.mpr ⟨r.nd,List.nodup_cons.mpr ⟨List.not_mem_nil,List.nodup_nil⟩,fun x hx y hy=>?_⟩,up r.z,fun x hx=>?_,by lia,fun a ha=>?_,fun j j1 j2=>?_⟩
 ·rw [j5 hy]
  rintro rfl
  exact ht hx
 ·rcases j6 hx with hx | hx
  ·exact r.ln x hx
  ·rw [j5 hx,oN _ hf,List.length_zip,r.ln s (List.mem_of_getElem? hs),Nat.min_self]
 ·rcases j6 ha with ha | ha
  ·obtain ⟨h1,i,j,h2,h3,h4,x,y,h5,h6,h7⟩:=r.ab a ha
   exact ⟨h1,i,j,h2,h3,h4,x,y,up h5,up h6,h7⟩
  ·rw [j5 ha]
   exact ⟨hn,d,S.length,by lia,rfl,rfl,s,t,up hs,by rw [List.getElem?_append_right (Nat.le_refl _),Nat.sub_self];rfl,hf⟩
 ·by_cases e:j=S.length
  ·subst e
   exact ⟨_,List.mem_append_right _ (List.mem_singleton.mpr rfl),rfl,d,hd,rfl⟩
  ·obtain ⟨a,ha,q⟩:=r.rc j j1 (by lia)
   exact ⟨a,List.mem_append_left _ ha,q⟩
theorem Ba (t:List Int):cy (eM t)=true:=by
 unfold eM
 rw [cw,DW]
theorem Bb (nZ:Ei) (ps:List Pl) (hl:ps.length≤100) (hp:∀ p∈ps,Ik p nZ.length) (S:List (List Int)) (A:List DY) (hA:A.length≤1000) (d:Nat) (r:Rm nZ ps S A (d + 1)) (hd:d < S.length) (mv:List Nat) (hn:mv∈nZ) (t6:Option R) :
  (∃ (S':List (List Int)) (A':List DY) (u6:Option R),Rm nZ ps S' A' (d + 1)∧S.length≤S'.length∧A'.length≤A.length + 1∧cX [some (.f,eN nZ ps),some (.f,.int 8),some (.l .f,.lst (S.map eM)),some (.l .f,.lst (A.map eA)),some (.f,.int ((d:Nat):Int)),some (.f,.str mv),t6]=.ok (.nx [some (.f,eN nZ ps),some (.f,.int 8),some (.l .f,.lst (S'.map eM)),some (.l .f,.lst (A'.map eA)),some (.f,.int ((d:Nat):Int)),some (.f,.str mv),u6]))∨
  (cX [some (.f,eN nZ ps),some (.f,.int 8),some (.l .f,.lst (S.map eM)),some (.l .f,.lst (A.map eA)),some (.f,.int ((d:Nat):Int)),some (.f,.str mv),t6]=.ok (.rt (.f,.non))∧∃ S A m,Rm nZ ps S A m∧S.length=8):=by
 have Oo:S[d]?=some S[d]:=jQ hd
 have Gq:EV (S.map eM) (d:Int)=some (eM S[d]):=dX (by rw [List.getElem?_map,Oo];rfl)
 have h8:=r.le
 have hzA:(A.map eA).length < sizeLine:=hJ (by rw [bj];lia)
 have hzS:(S.map eM).length < sizeLine:=hJ (by rw [bj];lia)
 have LI:cy .non=true:=rfl
 unfold cX
 rcases A9 nZ ps hl hp S[d] mv hn with ⟨hf,e⟩ | ⟨t,hf,e⟩
 ·refine .inl ⟨S,A,some (.f,.non),r,Nat.le_refl _,by lia,?_⟩
  rw [av (env':=[some (.f,eN nZ ps),some (.f,.int 8),some (.l .f,.lst (S.map eM)),some (.l .f,.lst (A.map eA)),some (.f,.int ((d:Nat):Int)),some (.f,.str mv),some (.f,.non)]) (by simp only [↓pd,pv,seval,op,Gq,e,LI])]
  simp only [↓pd,pv,seval,op,uo,f9]
 ·have hft:=Ba t
  have Lo:=DO yL mU mT S t
  have Oq:isnO (eM t) .non=.ok (.f,.bl true):=id rfl
  rw [av (env':=[some (.f,eN nZ ps),some (.f,.int 8),some (.l .f,.lst (S.map eM)),some (.l .f,.lst (A.map eA)),some (.f,.int ((d:Nat):Int)),some (.f,.str mv),some (.f,eM t)]) (by simp only [↓pd,pv,seval,op,Gq,e,hft])]
  by_cases hm:t∈S
  ·obtain ⟨i,hi,EX⟩:=Om yL mU mT S t hm
   refine .inl ⟨S,A++[((d:Int),mv,(i:Int))],some (.f,eM t),r.old hn Oo hi hf,Nat.le_refl _,by rw [iH];exact Nat.le_refl _,?_⟩
   rw [List.map_append]
   simp only [↓pd,pv,seval,op,Oq,Lo,hm,decide_true,Bool.not_true,f9,qy,EX,hzA]
   rfl
  ·by_cases h9:S.length=8
   ·right
    refine ⟨?_,S,A,d + 1,r,h9⟩
    have he:((S.length:Int) == 8)=true:=by rw [h9];rfl
    simp only [↓pd,pv,seval,op,Oq,Lo,hm,decide_false,Bool.not_false,bj,he]
   ·have he:((S.length:Int) == 8)=false:=by
     rw [beq_eq_false_iff_ne]
     lia
    have EX:=CI yL mU mT S t hm
    refine .inl ⟨S++[t],A++[((d:Int),mv,(S.length:Int))],some (.f,eM t),r.new hn Oo hm hf (by lia),by rw [iH];lia,by rw [iH];exact Nat.le_refl _,?_⟩
    rw [List.map_append,List.map_append,eX,List.map_nil]
    have hzS':S.length < sizeLine:=hJ (by lia)
    have hzA':A.length < sizeLine:=hJ (by lia)
    simp only [↓pd,pv,seval,op,Oq,Lo,hm,decide_false,Bool.not_false,f9,bj,he,qy,EX,hzA',hzS']
    rfl
theorem yM (nZ:Ei) (hn:nZ.length≤3) (ps:List Pl) (hl:ps.length≤100) (hp:∀ p∈ps,Ik p nZ.length) :
  (∃ S A m,Rm nZ ps S A m∧A.length≤24∧br [eN nZ ps,.int 8]=.ok (.f,.tup [.lst ((bz cM A).map eA),.lst (S.map eM)]))∨(br [eN nZ ps,.int 8]=.ok (.f,.non)∧∃ S A m,Rm nZ ps S A m∧S.length=8):=by
 unfold br lR
 rw [bc (h:=by rfl)]
 have hc:cH (g8 3 (aG (aw 0) (aG (aw 1) (aG (aw 2) cB)))) eS (aK 0) (ps.map eP) [none,none,none]=.ok ((ps.map (·.1)).map D.int):=by
  rw [bF (r:=fun p:Pl=>D.int p.1) (fun env=>∃ t u w,env=[t,u,w]) ps ?_ _ ⟨none,none,none,rfl⟩]
  ·rw [List.map_map]
   rfl
  ·rintro p _ env ⟨t,u,w,rfl⟩
   exact ⟨[some (.f,.int p.1),some (.f,.tup (p.2.1.map D.int)),some (.f,.tup (p.2.2.map D.int))],by unfold eP;simp only [↓pd,pv,seval],.f,_,rfl,_,_,_,rfl⟩
 have hlen:((ps.map (·.1)).map D.int).length≤sizeLine:=aX (by rw [bj,bj];lia)
 have HM:=DW (ps.map (·.1))
 rw [av (env':=[some (.f,eN nZ ps),some (.f,.int 8),some (.l .f,.lst [eM (ps.map (·.1))]),none,none,none,none]) (by
  unfold eN eM
  simp only [↓pd,pv,seval,op,hc,hlen,HM])]
 rw [av (env':=[some (.f,eN nZ ps),some (.f,.int 8),some (.l .f,.lst [eM (ps.map (·.1))]),some (.l .f,.lst []),none,none,none]) (by simp only [↓pd,pv,seval,op])]
 rw [av (env':=[some (.f,eN nZ ps),some (.f,.int 8),some (.l .f,.lst [eM (ps.map (·.1))]),some (.l .f,.lst []),some (.f,.int 0),none,none]) (by simp only [↓pd,pv,seval,op])]
 rcases qE (c:=(EA (ay Ht (ao 4) (aj (bg kB (ah (ao 2) aF)))))) (g:=cY) (r:=(.f,.non)) (Z:=∃ S A m,Rm nZ ps S A m∧S.length=8)
  (fun k env=>∃ S A d t5 t6,Rm nZ ps S A d∧d≤S.length∧A.length≤3 * d∧k=9 - d∧env=[some (.f,eN nZ ps),some (.f,.int 8),some (.l .f,.lst (S.map eM)),some (.l .f,.lst (A.map eA)),some (.f,.int ((d:Nat):Int)),t5,t6]) (fun env=>∃ S A d t5 t6,Rm nZ ps S A d∧d=S.length∧A.length≤3 * d∧env=[some (.f,eN nZ ps),some (.f,.int 8),some (.l .f,.lst (S.map eM)),some (.l .f,.lst (A.map eA)),some (.f,.int ((d:Nat):Int)),t5,t6]) (by
  rintro k env ⟨S,A,d,t5,t6,r,hd,hA,rfl,rfl⟩
  have h8:=r.le
  by_cases Eu:d < S.length
  ·refine .inr ⟨[some (.f,eN nZ ps),some (.f,.int 8),some (.l .f,.lst (S.map eM)),some (.l .f,.lst (A.map eA)),some (.f,.int ((d:Nat):Int)),t5,t6],?_,?_⟩
   ·have:(d:Int) < (S.length:Int):=by lia
    simp only [↓pd,pv,seval,op,bj,this,decide_true]
   ·rcases A7 (a:=aw 5) (g:=cX) (e:=D.str) (r:=(.f,.non)) (Z:=∃ S A m,Rm nZ ps S A m∧S.length=8) nZ (fun j env=>∃ S' A' t5 t6,Rm nZ ps S' A' (d + 1)∧S.length≤S'.length∧A'.length≤3 * d + j∧env=[some (.f,eN nZ ps),some (.f,.int 8),some (.l .f,.lst (S'.map eM)),some (.l .f,.lst (A'.map eA)),some (.f,.int ((d:Nat):Int)),t5,t6]) (by
     rintro j mv env hj ⟨S',A',t5,t6,r',Ky,hA',rfl⟩
     have OQ:=(jv hj).1
     have h8:=r'.le
     refine ⟨[some (.f,eN nZ ps),some (.f,.int 8),some (.l .f,.lst (S'.map eM)),some (.l .f,.lst (A'.map eA)),some (.f,.int ((d:Nat):Int)),some (.f,.str mv),t6],rfl,?_⟩
     rcases Bb nZ ps hl hp S' A' (by lia) d r' (by lia) mv (List.mem_of_getElem? hj) t6 with ⟨S2,A2,u6,r2,hd2,hA2,e⟩ | e
     ·exact .inl ⟨_,e,S2,A2,_,_,r2,by lia,by lia,rfl⟩
     ·exact .inr e) _ ⟨S,A,t5,t6,r.more (by lia),Nat.le_refl _,by lia,rfl⟩ with ⟨env',ef,S',A',Ot,t6',r',Ky,hA',rfl⟩ | ⟨ef,hz⟩
    ·have h8':=r'.le
     refine .inl ⟨_,9 - (d + 1),?_,by lia,S',A',d + 1,Ot,t6',r',by lia,by lia,rfl,rfl⟩
     unfold cY
     rw [av (env':=_) (by
      unfold gB
      unfold eN at ef ⊢
      simp only [↓pd,pv,seval,op]
      exact ef)]
     unfold iY
     simp only [↓pd,pv,seval,op,Int.natCast_add,Int.cast_ofNat_Int]
     rfl
    ·refine .inr ⟨?_,hz⟩
     unfold cY
     rw [Ft]
     unfold gB
     unfold eN at ef ⊢
     simp only [↓pd,pv,seval,op,ef]
  ·refine .inl ⟨_,?_,S,A,d,t5,t6,r,by lia,hA,rfl⟩
   have:¬ (d:Int) < (S.length:Int):=by lia
   simp only [↓pd,pv,seval,op,bj,this,decide_false]) 100000 9 _ (by decide) ⟨[ps.map (·.1)],[],0,none,none,⟨List.nodup_cons.mpr ⟨List.not_mem_nil,List.nodup_nil⟩,rfl,fun x hx=>by rw [j5 hx,bj],by simp,(fun _ h=>nomatch h),fun j j1 j2=>by rw [List.length_singleton] at j2;lia⟩,Nat.zero_le _,Nat.le_refl _,rfl,rfl⟩ with ⟨env',ew,S,A,d,t5,t6,r,hd,hA,rfl⟩ | ⟨ew,hz⟩
 ·have h8:=r.le
  left
  refine ⟨S,A,d,r,by lia,?_⟩
  rw [av (env':=_) (by
   unfold gC
   exact ew)]
  unfold iZ
  simp only [↓pd,pv,seval,op,pJ A (by lia)]
 ·right
  refine ⟨?_,hz⟩
  rw [Ft]
  unfold gC
  have ew2:(cA (EA (ay Ht (ao 4) (aj (bg kB (ah (ao 2) aF))))) cY 100000) [some (.f,eN nZ ps),some (.f,.int 8),some (.l .f,.lst [eM (ps.map (·.1))]),some (.l .f,.lst []),some (.f,.int 0),none,none]=.ok (.rt (.f,.non)):=ew
  rw [ew2]
  simp only [↓pd,pv,seval]
theorem Bc (p:Pl):cy (eP p)=true:=by
 unfold eP
 rw [cw]
 simp only [flatDs,cw,DW,ja]
 rfl
theorem yN (ps:List Pl):flatDs (ps.map eP)=true:=by
 rw [bH,List.all_map,List.all_eq_true]
 exact fun p _=>Bc p
theorem pK {α:Type} [DecidableEq α]:∀ (l m:List α),l.Nodup→(∀ x∈l,x∈m)→l.length≤m.length
 | [],m,_,_=>Nat.zero_le _
 | a :: l,m,nd,h=>by
  rw [List.nodup_cons] at nd
  have ha:=h a List.mem_cons_self
  have:=pK l (m.erase a) nd.2 fun x hx=>(List.mem_erase_of_ne (fun e=>nd.1 (by rw [←e];exact hx))).mpr (h x (List.mem_cons_of_mem _ hx))
  rw [List.length_erase_of_mem ha] at this
  have:=List.length_pos_of_mem ha
  rw [List.length_cons]
  lia
noncomputable def m6 (nZ:Ei) (b:Int):Pl:=(b,nZ.map fun _=>1,nZ.map fun _=>0)
theorem qF (nZ:Ei) (c:Int) {k:Nat} (h:k < nZ.length):(nZ.map fun _=>c).getD k 0=c:=by
 rw [List.getD_eq_getElem?_getD,List.getElem?_map,jQ h]
 rfl
theorem uC {nZ:Ei} {ps:List Pl} {b:Int} {k:Nat} (hk:k < nZ.length) {s t:List Int} (hs:s.length=(ps++[m6 nZ b]).length) (hf:gS k (s.zip (ps++[m6 nZ b]))=some t):1≤s.getD ps.length 0∧t.getD ps.length 0=s.getD ps.length 0 - 1:=by
 rw [iH,List.length_singleton] at hs
 have Eu:ps.length < s.length:=by lia
 have e:(s.zip (ps++[m6 nZ b]))[ps.length]?=some (s[ps.length],m6 nZ b):=by
  rw [List.getElem?_zip_eq_some]
  exact ⟨jQ Eu,by rw [List.getElem?_append_right (Nat.le_refl _),Nat.sub_self];rfl⟩
 obtain ⟨h1,h2⟩:=mR k hf e
 have e1:(m6 nZ b).2.1.getD k 0=1:=qF nZ 1 hk
 have e2:(m6 nZ b).2.2.getD k 0=0:=qF nZ 0 hk
 dsimp only at h1 h2
 rw [e1] at h1
 rw [e1,e2] at h2
 have e3:s.getD ps.length 0=s[ps.length]:=by rw [List.getD_eq_getElem?_getD,jQ Eu];rfl
 rw [e3,List.getD_eq_getElem?_getD,h2]
 exact ⟨by lia,by show _=_;simp⟩
theorem vT {nZ:Ei} {ps:List Pl} {S:List (List Int)} {A:List DY} {m:Nat} (r:Rm nZ (ps++[m6 nZ 1]) S A m):S.length≤1 + nZ.length:=by
 have hz:=r.z
 cases hS:S with
 | nil=>exact Nat.zero_le _
 | cons s0 tl=>
  rw [hS,List.getElem?_cons_zero,Option.some.injEq] at hz
  have h0:s0.getD ps.length 0=1:=by
   rw [hz,List.getD_eq_getElem?_getD,List.getElem?_map,List.getElem?_append_right (Nat.le_refl _),Nat.sub_self]
   rfl
  have key:∀ j:Nat,1≤j→∀ s,S[j]?=some s→s.getD ps.length 0=0∧∃ mv∈nZ,gS (nZ.idxOf mv) (s0.zip (ps++[m6 nZ 1]))=some s:=by
   intro j
   induction j using Nat.strongRecOn with
   | _ j ih=>
    intro hj s hs
    obtain ⟨a,ha,e1,b,hb,e2⟩:=r.rc j hj (jv hs).1
    obtain ⟨hn,i',j',_,e3,e4,x,y,hx,hy,hf⟩:=r.ab a ha
    have:i'=b:=by lia
    subst this
    have:j'=j:=by lia
    subst this
    rw [hs] at hy
    cases hy
    have hd:=uC (List.idxOf_lt_length_of_mem hn) (r.ln x (List.mem_of_getElem? hx)) hf
    cases i' with
    | zero=>
     rw [hS,List.getElem?_cons_zero,Option.some.injEq] at hx
     subst hx
     exact ⟨by lia,_,hn,hf⟩
    | succ i'=>
     have:=(ih (i' + 1) hb (by lia) x hx).1
     lia
  have nd:=r.nd
  rw [hS] at nd
  have:=pK tl (nZ.filterMap fun mv=>gS (nZ.idxOf mv) (s0.zip (ps++[m6 nZ 1]))) (List.nodup_cons.mp nd).2 fun s hs=>by
   obtain ⟨i,hi⟩:=List.mem_iff_getElem?.mp hs
   obtain ⟨_,mv,NA,hf⟩:=key (i + 1) (by lia) s (by rw [hS,List.getElem?_cons_succ];exact hi)
   exact List.mem_filterMap.mpr ⟨mv,NA,hf⟩
  have h2:=List.length_filterMap_le (fun mv=>gS (nZ.idxOf mv) (s0.zip (ps++[m6 nZ 1]))) nZ
  rw [List.length_cons]
  lia
theorem oP (nZ:Ei) (c:Int):cH (aw 0) eS (aH (.int c)) (nZ.map D.str) [none]=.ok ((nZ.map fun _=>c).map D.int):=by
 rw [bF (r:=fun _:List Nat=>D.int c) (fun env=>∃ t,env=[t]) nZ ?_ _ ⟨none,rfl⟩]
 ·rw [List.map_map]
  rfl
 ·rintro n _ env ⟨t,rfl⟩
  exact ⟨[some (.f,.str n)],rfl,.f,_,rfl,_,rfl⟩
theorem DP (ps:List Pl) (hl:ps.length≤100) (d:D):cp (.lst (ps.map eP)) (.lst [d])=.ok (.l .f,.lst (ps.map eP++[d])):=by
 rw [mM,if_pos (line_le (by rw [bj,List.length_singleton];lia))]
structure Nt (nZ:Ei) (ps:List Pl) (S:List (List Int)) (A:List DY):Prop where
 n0:nZ≠[]
 n3:nZ.length≤3
 nn:nZ.Nodup
 nw:nZ.Pairwise (fun a b=>HI b a=false)
 p0:ps≠[]
 p9:ps.length≤9
 po:∀ p∈ps,Ik p nZ.length
 al:A.length≤24
 rm:∃ m,Rm nZ ps S A m
theorem CJ (ns:List Int) (first:Nat):∃ nZ ps S A,Nt nZ ps S A∧di [.lst (ns.map D.int),.int (first:Int)]=.ok (.f,eN nZ ps)∧br [eN nZ ps,.int 8]=.ok (.f,.tup [.lst ((bz cM A).map eA),.lst (S.map eM)]):=by
 obtain ⟨nZ,n0,n3,nn,nw,en⟩:=yK ns
 obtain ⟨ps,Kv,hp0,hp8,ep⟩:=vS ns first nZ.length (by lia)
 have LH:=yN ps
 have Jx:cy (.tup (nZ.map D.str))=true:=by rw [cw,PV.flat_strs]
 have LI:cy .non=true:=rfl
 have Ka:∀ (x y:List D),flatDs [.lst x,.lst y]=false:=fun _ _=>rfl
 unfold di lS
 rw [bc (h:=by rfl)]
 rw [av (env':=[some (.f,.lst (ns.map D.int)),some (.f,.int (first:Int)),some (.f,.tup (nZ.map D.str)),none,none,none,none]) (by simp only [↓pd,pv,seval,op,en,Jx])]
 rw [av (env':=[some (.f,.lst (ns.map D.int)),some (.f,.int (first:Int)),some (.f,.tup (nZ.map D.str)),some (.f,.int (nZ.length:Int)),none,none,none]) (by simp only [↓pd,pv,seval,op,bj])]
 rw [av (env':=[some (.f,.lst (ns.map D.int)),some (.f,.int (first:Int)),some (.f,.tup (nZ.map D.str)),some (.f,.int (nZ.length:Int)),some (.l .f,.lst (ps.map eP)),none,none]) (by simp only [↓pd,pv,seval,op,ep,LH])]
 rcases yM nZ n3 ps (by lia) Kv with ⟨S,A,m,r,hA,er⟩ | ⟨er,_⟩
 ·refine ⟨nZ,ps,S,A,⟨n0,n3,nn,nw,hp0,by lia,Kv,hA,m,r⟩,?_,er⟩
  unfold eN at er ⊢
  simp only [↓pd,pv,seval,op,er,Ka,f9,o_isnT,Bs,Bt]
 ·unfold eN at er
  rw [av (env':=[some (.f,.lst (ns.map D.int)),some (.f,.int (first:Int)),some (.f,.tup (nZ.map D.str)),some (.f,.int (nZ.length:Int)),some (.f,.lst (ps.map eP)),none,none]) (by simp only [↓pd,pv,seval,op,er,LI,uo,f9])]
  have c1:=oP nZ 1
  have c0:=oP nZ 0
  have l1:((nZ.map fun _=>(1:Int)).map D.int).length≤sizeLine:=aX (by rw [bj,bj];lia)
  have l0:((nZ.map fun _=>(0:Int)).map D.int).length≤sizeLine:=aX (by rw [bj,bj];lia)
  have f1:=DW (nZ.map fun _=>(1:Int))
  have f0:=DW (nZ.map fun _=>(0:Int))
  rw [av (env':=[some (.f,.lst (ns.map D.int)),some (.f,.int (first:Int)),some (.f,.tup (nZ.map D.str)),some (.f,.int (nZ.length:Int)),some (.f,.lst (ps.map eP)),some (.f,.tup ((nZ.map fun _=>(1:Int)).map D.int)),none]) (by simp only [↓pd,pv,seval,op,c1,l1,f1])]
  rw [av (env':=[some (.f,.lst (ns.map D.int)),some (.f,.int (first:Int)),some (.f,.tup (nZ.map D.str)),some (.f,.int (nZ.length:Int)),some (.f,.lst (ps.map eP)),some (.f,.tup ((nZ.map fun _=>(1:Int)).map D.int)),some (.f,.tup ((nZ.map fun _=>(0:Int)).map D.int))]) (by simp only [↓pd,pv,seval,op,c0,l0,f0])]
  have Kw:∀ b:Int,(ps++[m6 nZ b]).map eP=ps.map eP++[.tup [.int b,.tup ((nZ.map fun _=>(1:Int)).map D.int),.tup ((nZ.map fun _=>(0:Int)).map D.int)]]:=fun b=>by
   rw [List.map_append]
   rfl
  have Kb:∀ b:Int,∀ p∈ps++[m6 nZ b],Ik p nZ.length:=fun b p hp=>by
   rcases j6 hp with hp | hp
   ·exact Kv p hp
   ·rw [j5 hp]
    exact ⟨bj _,bj _⟩
  have HN:∀ b:Int,(ps++[m6 nZ b]).length≤9:=fun b=>by
   rw [iH,List.length_singleton]
   lia
  have M3:∀ b:Int,ps++[m6 nZ b]≠[]:=fun b h=>by simp at h
  have Ou:=fun d=>DP ps (by lia) d
  have lo:((ps.map eP).length)≤100:=by rw [bj];lia
  rcases yM nZ n3 (ps++[m6 nZ 2]) (by have:=HN 2;lia) (Kb 2) with ⟨S,A,m,r,hA,er2⟩ | ⟨er2,_⟩
  ·refine ⟨nZ,ps++[m6 nZ 2],S,A,⟨n0,n3,nn,nw,M3 2,HN 2,Kb 2,hA,m,r⟩,?_,er2⟩
   unfold eN at er2 ⊢
   rw [Kw] at er2 ⊢
   simp only [↓pd,pv,seval,op,Ou,er2,Ka,f9,o_isnT,Bs,Bt]
  ·rcases yM nZ n3 (ps++[m6 nZ 1]) (by have:=HN 1;lia) (Kb 1) with ⟨S,A,m,r,hA,er3⟩ | ⟨_,S,A,m,r,h8⟩
   ·refine ⟨nZ,ps++[m6 nZ 1],S,A,⟨n0,n3,nn,nw,M3 1,HN 1,Kb 1,hA,m,r⟩,?_,er3⟩
    unfold eN at er2 ⊢
    rw [Kw] at er2 ⊢
    rw [av (env':=[some (.f,.lst (ns.map D.int)),some (.f,.int (first:Int)),some (.f,.tup (nZ.map D.str)),some (.f,.int (nZ.length:Int)),some (.f,.lst (ps.map eP)),some (.f,.tup ((nZ.map fun _=>(1:Int)).map D.int)),some (.f,.tup ((nZ.map fun _=>(0:Int)).map D.int))]) (by simp only [↓pd,pv,seval,op,Ou,er2,LI,uo,f9])]
    simp only [↓pd,pv,seval,op,Ou]
   ·have:=vT r
    lia
theorem Nt.ra {nZ:Ei} {ps:List Pl} {S:List (List Int)} {A:List DY} (n:Nt nZ ps S A):Ra nZ A S.length:=by
 obtain ⟨m,r⟩:=n.rm
 have h8:=r.le
 have GA:=n.al
 have h0:=(jv r.z).1
 refine ⟨by lia,by lia,fun a ha=>?_,fun a ha=>(r.ab a ha).1,r.rc⟩
 obtain ⟨_,i,j,_,e1,e2,s,t,hs,ht,_⟩:=r.ab a ha
 have h1:=(jv hs).1
 have h2:=(jv ht).1
 lia
theorem Be (w:Ei) (m:List Nat):yS (w.map D.str) [.str m]=.ok (.f,.int ((w.count m:Nat):Int)):=by
 unfold yS
 dsimp only
 rw [dU]
noncomputable def row (nZ w:Ei):List Int:=nZ.map fun m=>((w.count m:Nat):Int)
theorem uD (nZ w:Ei) (hl:nZ.length≤1000):eE [.tup (nZ.map D.str),.tup (w.map D.str)]=.ok (.f,.tup ((row nZ w).map D.int)):=by
 unfold eE oA
 rw [bc (h:=by rfl)]
 have hc:cH (aw 0) eS (rH yS (ao 1) (ah (ao 0) aF)) (nZ.map D.str) [none,some (.f,.tup (w.map D.str))]=.ok ((row nZ w).map D.int):=by
  rw [bF (r:=fun m:List Nat=>D.int ((w.count m:Nat):Int)) (fun env=>∃ t1,env=[t1,some (.f,.tup (w.map D.str))]) nZ ?_ _ ⟨_,rfl⟩]
  ·unfold row
   rw [List.map_map]
   rfl
  ·rintro m _ env ⟨t1,rfl⟩
   refine ⟨[some (.f,.str m),some (.f,.tup (w.map D.str))],rfl,?_⟩
   simp only [↓pd,pv,seval,op,Be]
   exact ⟨_,_,rfl,_,rfl⟩
 simp only [↓pd,pv,seval,op,hc]
 rw [if_pos (aX (by unfold row;rw [bj,bj];lia))]
 simp only [↓pd,pv,seval,op]
theorem Bf (l:List (Int×Int)) (hl:l.length≤1000):kI [.tup (l.map fun p=>.int p.1),.tup (l.map fun p=>.int p.2)]=.ok (.f,.tup ((l.map fun p=>p.1 - p.2).map D.int)):=by
 unfold kI wH
 rw [bc (h:=by rfl)]
 have ez:((l.map fun p=>D.int p.1).zip (l.map fun p=>D.int p.2)).map (fun z=>D.tup [z.1,z.2])=l.map fun p=>D.tup [.int p.1,.int p.2]:=by
  rw [List.zip_map',List.map_map]
  rfl
 have hc:cH (g8 2 (aG (aw 0) (aG (aw 1) cB))) eS (ay o7 (ao 0) (ao 1)) (l.map fun p=>D.tup [.int p.1,.int p.2]) [none,none]=.ok ((l.map fun p=>p.1 - p.2).map D.int):=by
  rw [bF (r:=fun p:Int×Int=>D.int (p.1 - p.2)) (fun env=>∃ t1 t2,env=[t1,t2]) l ?_ _ ⟨_,_,rfl⟩]
  ·rw [List.map_map]
   rfl
  ·rintro p _ env ⟨t1,t2,rfl⟩
   refine ⟨_,pD _ _ t1 t2 [],?_⟩
   simp only [↓pd,pv,seval,op]
   exact ⟨_,_,rfl,_,_,rfl⟩
 simp only [↓pd,pv,seval,op,ez,hc]
 rw [if_pos (aX (by rw [bj,bj];lia))]
 simp only [↓pd,pv,seval,op]
theorem jw (n:Nat) (aZ:List DY):plainDs (n + 3) (aZ.map eA)=true:=by
 induction aZ with
 | nil=>rfl
 | cons a l ih=>
  rw [eX,plainDs,ih]
  rfl
theorem vU (T:List DY) (a:DY):tw (eA a) (.lst (T.map eA))=.ok (.f,.bl (!decide (a∈T))):=by
 have e:rF (eA a) (T.map eA)=decide (a∈T):=by
  unfold rF
  rw [List.any_map,Bool.eq_iff_iff,List.any_eq_true,decide_eq_true_eq]
  constructor
  ·rintro ⟨x,hx,e⟩
   have e:eqD (eA x) (eA a)=true:=e
   rw [AX,decide_eq_true_eq] at e
   rw [←e]
   exact hx
  ·intro h
   refine ⟨a,h,?_⟩
   show eqD (eA a) (eA a)=true
   rw [AX,decide_eq_true_eq]
 unfold tw Hj
 dsimp only
 rw [show plainD 40 (eA a)=true from rfl,jw 37 T,Bool.and_self,if_pos rfl,e]
 rfl
theorem wK (nZ:Ei) (N:List Nd) (many:Nat):flatDs ((List.range many).map fun (s:Nat)=>D.tup ((row nZ (dM N (s:Int))).map D.int))=true:=by
 rw [bH,List.all_map,List.all_eq_true]
 intro s _
 show cy (.tup _)=true
 rw [cw,DW]
theorem Bg (N:List Nd) (many:Nat):flatDs ((List.range many).map fun (s:Nat)=>D.tup ((dM N (s:Int)).map D.str))=true:=by
 rw [bH,List.all_map,List.all_eq_true]
 intro s _
 show cy (.tup _)=true
 rw [cw,PV.flat_strs]
theorem pL {nZ:Ei} {aZ:List DY} {N:List Nd} {many:Nat} (hm:many≤12) (hl:nZ.length≤1000) (ew:eD [D8 nZ aZ]=.ok (.l .f,.lst ((List.range many).map fun (s:Nat)=>D.tup ((dM N (s:Int)).map D.str)))):cI [D8 nZ aZ]=.ok (.l .f,.lst ((List.range many).map fun (s:Nat)=>D.tup ((row nZ (dM N (s:Int))).map D.int))):=by
 unfold cI kO
 rw [bc (h:=by rfl)]
 have hc:cH (aw 0) eS (c7 eE (ah (aj (ay D3 (ao 1) (aj (aH (.int 0))))) (ah (ao 0) aF))) ((List.range many).map fun (s:Nat)=>D.tup ((dM N (s:Int)).map D.str)) [none,some (.f,D8 nZ aZ)]=.ok ((List.range many).map fun (s:Nat)=>D.tup ((row nZ (dM N (s:Int))).map D.int)):=by
  refine bF (r:=fun s:Nat=>D.tup ((row nZ (dM N (s:Int))).map D.int)) (fun env=>∃ t1,env=[t1,some (.f,D8 nZ aZ)]) (List.range many) ?_ _ ⟨_,rfl⟩
  rintro s _ env ⟨t1,rfl⟩
  refine ⟨[some (.f,.tup ((dM N (s:Int)).map D.str)),some (.f,D8 nZ aZ)],rfl,?_⟩
  unfold D8
  simp only [↓pd,pv,seval,op,uD nZ _ hl]
  exact ⟨_,_,rfl,_,rfl⟩
 simp only [↓pd,pv,seval,op,ew,Bg]
 rw [hc,Eh,if_pos (aX (by rw [bj,List.length_range];lia)),wK]
 simp only [↓pd,pv,seval,op]
noncomputable def pr (x y:List Int):Int:=((x.zip y).map fun p=>p.1 * p.2).sum
theorem uE (x y:List Int) (hl:y.length≤1000) (hs:∀ v∈y,cN v=true):dB [.tup (x.map D.int),.tup (y.map D.int)]=.ok (.f,.int (pr x y)):=by
 unfold dB ox
 rw [bc (h:=by rfl)]
 have hc:cH (g8 2 (aG (aw 0) (aG (aw 1) cB))) eS (ay lp (ao 0) (ao 1)) ((x.zip y).map fun z=>D.tup [D.int z.1,D.int z.2]) [none,none]=.ok (((x.zip y).map fun p=>p.1 * p.2).map D.int):=by
  rw [bF (r:=fun z:Int×Int=>D.int (z.1 * z.2)) (fun env=>∃ t u,env=[t,u]) (x.zip y) ?_ _ ⟨none,none,rfl⟩]
  ·rw [List.map_map]
   rfl
  ·rintro z hz env ⟨t,u,rfl⟩
   have Ol:=(List.of_mem_zip (show (z.1,z.2)∈x.zip y from hz)).2
   refine ⟨[some (.f,.int z.1),some (.f,.int z.2)],rfl,.f,[some (.f,.int z.1),some (.f,.int z.2)],?_,_,_,rfl⟩
   simp only [↓pd,pv,seval,op,CF z.1 z.2 (hs _ Ol)]
 have hlen:(((x.zip y).map fun p=>p.1 * p.2).map D.int).length≤sizeLine:=aX (by
  rw [bj,bj,List.length_zip]
  lia)
 have HM:=DW ((x.zip y).map fun p=>p.1 * p.2)
 simp only [↓pd,pv,seval,op,mS,hc,hlen,HM,AW]
 rfl
theorem pM (a b:Int) (r s:List Int):pr (a :: r) (b :: s)=a * b + pr r s:=by
 unfold pr
 rw [List.zip_cons_cons,eX,List.sum_cons]
theorem wL (w:Ei) (m:List Nat):∀ (nZ:Ei) (uZ:List Int),nZ.Nodup→uZ.length=nZ.length→m∈nZ→pr uZ (row nZ (w++[m]))=pr uZ (row nZ w) + uZ.getD (nZ.idxOf m) 0
 | [],_,_,_,h=>nomatch h
 | x :: nZ,[],_,h,_=>by simp at h
 | x :: nZ,b :: uZ,nd,hl,hm=>by
  have nd:=List.nodup_cons.mp nd
  have e1:∀ v:Ei,row (x :: nZ) v=((v.count x:Nat):Int) :: row nZ v:=fun v=>rfl
  rw [e1,e1,pM,pM]
  by_cases hx:x=m
  ·subst hx
   have e2:row nZ (w++[x])=row nZ w:=by
    unfold row
    refine List.map_congr_left fun y hy=>?_
    have IA:y≠x:=fun h=>nd.1 (h▸hy)
    rw [List.count_append,List.count_cons_of_ne (fun h=>IA h.symm),List.count_nil,Nat.add_zero]
   rw [e2,List.count_append,List.count_singleton_self,List.idxOf_cons_self,List.getD_cons_zero]
   have:(((w.count x + 1:Nat)):Int)=(w.count x:Int) + 1:=by lia
   rw [this,Int.mul_add]
   lia
  ·have hm:=(List.mem_cons.mp hm).resolve_left fun h=>hx h.symm
   have ih:=wL w m nZ uZ nd.2 (by simpa using hl) hm
   rw [ih,List.count_append,List.count_cons_of_ne (fun h=>hx h.symm),List.count_nil,Nat.add_zero,List.idxOf_cons,beq_false_of_ne hx,cond_false,List.getD_cons_succ]
   lia
theorem uF:∀ (nZ:Ei) (uZ:List Int),pr uZ (row nZ [])=0
 | [],uZ=>by
  unfold pr row
  rw [List.map_nil,List.zip_nil_right]
  rfl
 | x :: nZ,[]=>rfl
 | x :: nZ,b :: uZ=>by
  show pr (b :: uZ) (((0:Nat):Int) :: row nZ [])=0
  rw [pM,uF nZ uZ]
  simp
structure Ck (nZ:Ei) (aZ:List DY) (many:Nat) (N:List Nd) (T:List DY):Prop where
 m1:1≤many∧many≤12
 nn:nZ.Nodup
 n3:nZ.length≤1000
 al:aZ.length≤60
 nm:∀ a∈aZ,a.2.1∈nZ
 hb:∀ a∈aZ,(0≤a.1∧a.1 < (many:Int))∧0≤a.2.2∧a.2.2 < (many:Int)
 hw:∀ s:Int,(dM N s).length≤1000
 F:Found aZ N
 all:∀ s:Int,0≤s→s < (many:Int)→s∈N.map (·.1)
 ec:cI [D8 nZ aZ]=.ok (.l .f,.lst ((List.range many).map fun (s:Nat)=>D.tup ((row nZ (dM N (s:Int))).map D.int)))
theorem Ra.states {nZ:Ei} {as:List DY} {many:Nat} (r:Ra nZ as many):a8 as=(many:Int):=by
 have hm:=r.mm
 have h1:=oM hm.1 r.bd
 by_cases h:many=1
 ·lia
 ·obtain ⟨a,ha,e,_⟩:=r.rc (many - 1) (by lia) (by lia)
  have:=uy ha
  lia
theorem Ra.ck {nZ:Ei} {as:List DY} {many:Nat} (r:Ra nZ as many) (nn:nZ.Nodup) (n3:nZ.length≤1000):∃ N T,Ck nZ as many N T:=by
 have C:=r.ch
 have Hk:=r.states
 have GA:=C.al
 have hm:=r.mm
 obtain ⟨N,T,b,HB,et,Pb⟩:=uu nZ as (by lia) (fun a ha=>(C.bd a ha).2) C.all (by lia)
 have F:=b.found
 have LU:∀ s:Int,(dM N s).length≤1000:=by
  intro s
  unfold dM
  cases hf:(N.find? fun n=>n.1 == s) with
  | none=>exact Nat.zero_le _
  | some n=>
   have:=F.wl n (List.mem_of_find?_eq_some hf)
   show n.2.length≤1000
   lia
 have em:(a8 as).toNat=many:=by lia
 rw [em] at Pb
 have e2:=pL (by lia) n3 Pb
 exact ⟨N,T,hm,nn,n3,GA,r.nm,r.bd,LU,F,fun s h0 h1=>C.all N F s h0 (by lia),e2⟩
theorem uG (nZ w:Ei) (hw:w.length≤1000):∀ x∈row nZ w,cN x=true:=by
 intro x hx
 unfold row at hx
 obtain ⟨m,_,rfl⟩:=mN hx
 have h1:=List.count_le_length (a:=m) (l:=w)
 exact ug _ (by lia)
noncomputable def th (nZ:Ei) (N:List Nd) (uZ:List Int) (s:Int):Int:=pr uZ (row nZ (dM N s))
theorem mV {α:Type} {a:FG} {g:FS} {e:α→D} {r:R} (P:PV.Env→Prop) (ok:α→Bool):∀ (l:List α),(∀ x∈l,∀ env,P env→∃ DR,a (e x) env=.ok DR∧if ok x then ∃ DZ,g DR=.ok (.nx DZ)∧P DZ else g DR=.ok (.rt r))→
  ∀ env,P env→if l.all ok then ∃ env',jC a g (l.map e) env=.ok (.nx env')∧P env' else jC a g (l.map e) env=.ok (.rt r)
 | [],_,env,hp=>by rw [List.all_nil,if_pos rfl];exact ⟨env,rfl,hp⟩
 | x :: l,h,env,hp=>by
  obtain ⟨DR,h1,h2⟩:=h x List.mem_cons_self env hp
  rw [List.all_cons,eX,Fh,h1,Eh]
  cases hk:ok x with
  | false=>
   rw [hk,if_neg Bool.false_ne_true] at h2
   rw [Bool.false_and,if_neg Bool.false_ne_true,h2,Eh]
  | true=>
   rw [hk,if_pos rfl] at h2
   obtain ⟨DZ,h2,h3⟩:=h2
   rw [Bool.true_and,h2,Eh]
   exact mV P ok l (fun y hy=>h y (List.mem_cons_of_mem _ hy)) DZ h3
noncomputable def EI (x y:List Int):List Int:=(x.zip y).map fun p=>p.1 - p.2
theorem yO (x y:List Int) (h:x.length=y.length) (hl:x.length≤1000):kI [.tup (x.map D.int),.tup (y.map D.int)]=.ok (.f,.tup ((EI x y).map D.int)):=by
 have:=Bf (x.zip y) (by rw [List.length_zip];lia)
 rw [show (x.zip y).map (fun p=>D.int p.1)=x.map D.int by rw [←List.map_fst_zip (l₁:=x) (l₂:=y) (by lia),List.map_map,List.map_fst_zip (by lia)];rfl,show (x.zip y).map (fun p=>D.int p.2)=y.map D.int by rw [←List.map_snd_zip (l₁:=x) (l₂:=y) (by lia),List.map_map,List.map_snd_zip (by lia)];rfl] at this
 exact this
theorem mW {x y:List Int} (h:x.length=y.length):(EI x y).length=y.length:=by
 unfold EI
 rw [bj,List.length_zip,h,Nat.min_self]
section
variable {nZ:Ei} {aZ:List DY} {many:Nat} {N:List Nd} {T:List DY}
theorem Ck.pot (c:Ck nZ aZ many N T) (uZ:List Int) (hl:uZ.length=nZ.length) (f:Int→Int) (hf:∀ a∈aZ,f a.2.2=f a.1 + uZ.getD (nZ.idxOf a.2.1) 0):∀ s:Int,0≤s→s < (many:Int)→th nZ N uZ s=f s - f 0:=by
 have key:∀ (k:Nat) (n:Nd),n∈N→n.2.length=k→pr uZ (row nZ n.2)=f n.1 - f 0:=by
  intro k
  induction k using Nat.strongRecOn with
  | _ k ih=>
   intro n hn hk
   rcases c.F.par n hn with rfl | ⟨a,ha,m,hm,e1,rfl⟩
   ·show pr uZ (row nZ [])=f 0 - f 0
    rw [uF]
    lia
   ·have:=ih m.2.length (by rw [←hk];show _ < (m.2++[a.2.1]).length;rw [iH,List.length_singleton];lia) m hm rfl
    show pr uZ (row nZ (m.2++[a.2.1]))=f a.2.2 - f 0
    rw [wL _ _ nZ uZ c.nn hl (c.nm a ha),this,hf a ha,e1]
    lia
 intro s h0 h1
 obtain ⟨n,hn,rfl⟩:=mN (c.all s h0 h1)
 unfold th
 rw [mP c.F.nd hn]
 exact key _ n hn rfl
noncomputable def ePl (b:Int) (ts gs:List Int):D:=.tup [.int b,.tup (ts.map D.int),.tup (gs.map D.int)]
theorem Ck.pbeads (c:Ck nZ aZ many N T) (b:Int) (ts gs:List Int) (h1:ts.length=nZ.length) (h2:gs.length=nZ.length) (B:Int→Int) (hB:B=fun s=>b + th nZ N (EI gs ts) s):cq [D8 nZ aZ,ePl b ts gs]=.ok (.l .f,.lst (((List.range many).map fun (s:Nat)=>B (s:Int)).map D.int)):=by
 have NB:=c.n3
 have hm:=c.m1
 have hle:=yO gs ts (by lia) (by lia)
 have Pc:=mW (x:=gs) (y:=ts) (by lia)
 have ec:=c.ec
 have Pd:=wK nZ N many
 have hfd:cy (.tup ((EI gs ts).map D.int))=true:=by rw [cw,DW]
 unfold cq iX
 rw [bc (h:=by rfl)]
 rw [av (env':=[some (.f,D8 nZ aZ),some (.f,ePl b ts gs),some (.f,.tup ((EI gs ts).map D.int))]) (by
  unfold ePl
  simp only [↓pd,pv,seval,op,at2,hle,hfd])]
 have hc:cH (aw 0) eS (ay cp (aj (ay D3 (ao 1) (aj (aH (.int 0))))) (aj (c7 dB (ah (ao 2) (ah (ao 0) aF))))) ((List.range many).map fun (s:Nat)=>D.tup ((row nZ (dM N (s:Int))).map D.int)) [none,some (.f,ePl b ts gs),some (.f,.tup ((EI gs ts).map D.int))]=.ok (((List.range many).map fun (s:Nat)=>B (s:Int)).map D.int):=by
  rw [bF (r:=fun s:Nat=>D.int (B (s:Int))) (fun env=>∃ t,env=[t,some (.f,ePl b ts gs),some (.f,.tup ((EI gs ts).map D.int))]) (List.range many) ?_ _ ⟨none,rfl⟩]
  ·rw [List.map_map]
   rfl
  ·rintro s _ env ⟨t,rfl⟩
   have hp:=uE (EI gs ts) (row nZ (dM N (s:Int))) (by unfold row;rw [bj];exact NB) (uG nZ _ (c.hw _))
   refine ⟨[some (.f,.tup ((row nZ (dM N (s:Int))).map D.int)),some (.f,ePl b ts gs),some (.f,.tup ((EI gs ts).map D.int))],rfl,.f,[some (.f,.tup ((row nZ (dM N (s:Int))).map D.int)),some (.f,ePl b ts gs),some (.f,.tup ((EI gs ts).map D.int))],?_,_,rfl⟩
   unfold ePl
   simp only [↓pd,pv,seval,op,hp,hB]
   rfl
 have hlen:(((List.range many).map fun (s:Nat)=>B (s:Int)).map D.int).length≤sizeLine:=aX (by rw [bj,bj,List.length_range];lia)
 have HM:=DW ((List.range many).map fun (s:Nat)=>B (s:Int))
 generalize (ay cp (aj (ay D3 (ao 1) (aj (aH (.int 0))))) (aj (c7 dB (ah (ao 2) (ah (ao 0) aF)))))=GG at hc ⊢
 generalize ((List.range many).map fun (s:Nat)=>D.tup ((row nZ (dM N (s:Int))).map D.int))=RR at ec hc Pd
 simp only [↓pd,pv,seval,op,ec,Pd,hc,hlen,HM]
noncomputable def Il (nZ:Ei) (B:Int→Int) (ts gs:List Int) (a:DY):Bool:=!decide (B a.1 < ts.getD (nZ.idxOf a.2.1) 0) && (B a.2.2 == B a.1 - ts.getD (nZ.idxOf a.2.1) 0 + gs.getD (nZ.idxOf a.2.1) 0)
theorem mX (B:Int→Int) {s:Int} (h0:0≤s) (h1:s < (many:Int)):EV (((List.range many).map fun (s:Nat)=>B (s:Int)).map D.int) s=some (.int (B s)):=by
 obtain ⟨k,rfl⟩:=Int.eq_ofNat_of_zero_le h0
 exact dX (by rw [List.getElem?_map,List.getElem?_map,List.getElem?_range (by lia)];rfl)
theorem Ck.lets_go (c:Ck nZ aZ many N T) (b:Int) (ts gs:List Int) (h1:ts.length=nZ.length) (h2:gs.length=nZ.length) (B:Int→Int) (hB:B=fun s=>b + th nZ N (EI gs ts) s):dC [D8 nZ aZ,ePl b ts gs]=.ok (.f,.bl (aZ.all (Il nZ B ts gs))):=by
 have hpb:=c.pbeads b ts gs h1 h2 B hB
 have HM:=DW ((List.range many).map fun (s:Nat)=>B (s:Int))
 unfold dC oB
 rw [bc (h:=by rfl)]
 rw [av (env':=[some (.f,D8 nZ aZ),some (.f,ePl b ts gs),some (.l .f,.lst (((List.range many).map fun (s:Nat)=>B (s:Int)).map D.int)),none,none,none,none]) (by simp only [↓pd,pv,seval,op,hpb,HM])]
 have key:=mV (a:=g8 3 (aG (aw 3) (aG (aw 4) (aG (aw 5) cB)))) (g:=gy) (e:=eA) (r:=(.f,.bl false)) (fun env=>∃ t3 t4 t5 t6,env=[some (.f,D8 nZ aZ),some (.f,ePl b ts gs),some (.l .f,.lst (((List.range many).map fun (s:Nat)=>B (s:Int)).map D.int)),t3,t4,t5,t6]) (Il nZ B ts gs) aZ (by
  rintro a ha env ⟨t3,t4,t5,t6,rfl⟩
  have Ge:=c.hb a ha
  have b1:=mX (many:=many) B Ge.1.1 Ge.1.2
  have b2:=mX (many:=many) B Ge.2.1 Ge.2.2
  have EX:=lj (c.nm a ha)
  have hk:=List.idxOf_lt_length_of_mem (c.nm a ha)
  have q1:EV (ts.map D.int) ((nZ.idxOf a.2.1:Nat):Int)=some (.int (ts.getD (nZ.idxOf a.2.1) 0)):=fC (by lia)
  have q2:EV (gs.map D.int) ((nZ.idxOf a.2.1:Nat):Int)=some (.int (gs.getD (nZ.idxOf a.2.1) 0)):=fC (by lia)
  refine ⟨[some (.f,D8 nZ aZ),some (.f,ePl b ts gs),some (.l .f,.lst (((List.range many).map fun (s:Nat)=>B (s:Int)).map D.int)),some (.f,.int a.1),some (.f,.str a.2.1),some (.f,.int a.2.2),t6],by unfold eA;simp only [↓pd,pv,seval],?_⟩
  unfold Il
  generalize nZ.idxOf a.2.1=k at *
  generalize ((List.range many).map fun (s:Nat)=>B (s:Int)).map D.int=BB at *
  unfold gy
  have s1:(bE 6 (rH jm (aj (ay D3 (ao 0) (aj (aH (.int 0))))) (ah (ao 4) aF))) [some (.f,D8 nZ aZ),some (.f,ePl b ts gs),some (.l .f,.lst BB),some (.f,.int a.1),some (.f,.str a.2.1),some (.f,.int a.2.2),t6]=.ok (.nx [some (.f,D8 nZ aZ),some (.f,ePl b ts gs),some (.l .f,.lst BB),some (.f,.int a.1),some (.f,.str a.2.1),some (.f,.int a.2.2),some (.f,.int (k:Int))]):=by
   unfold D8
   simp only [↓pd,pv,seval,op,EX]
  rw [av s1]
  unfold ePl
  by_cases h3:B a.1 < ts.getD k 0
  ·rw [decide_eq_true h3,Bool.not_true,Bool.false_and,if_neg Bool.false_ne_true]
   simp only [↓pd,pv,seval,op,b1,q1,h3,decide_true]
  ·rw [decide_eq_false h3,Bool.not_false,Bool.true_and]
   cases h4:(B a.2.2 == B a.1 - ts.getD k 0 + gs.getD k 0) with
   | true=>
    rw [if_pos rfl]
    refine ⟨_,?_,some (.f,.int a.1),some (.f,.str a.2.1),some (.f,.int a.2.2),some (.f,.int (k:Int)),rfl⟩
    simp only [↓pd,pv,seval,op,b1,b2,q1,q2,at2,h3,h4,decide_false,Bool.not_true,f9]
   | false=>
    rw [if_neg Bool.false_ne_true]
    simp only [↓pd,pv,seval,op,b1,b2,q1,q2,at2,h3,h4,decide_false,Bool.not_false,f9]) _ ⟨none,none,none,none,rfl⟩
 cases EW:aZ.all (Il nZ B ts gs) with
 | true=>
  rw [EW,if_pos rfl] at key
  obtain ⟨env',ef,t3,t4,t5,t6,rfl⟩:=key
  rw [av (env':=_) (by
   unfold iz
   unfold D8 at ef ⊢
   simp only [↓pd,pv,seval,op]
   exact ef)]
  unfold jK
  simp only [↓pd,pv,seval,op]
 | false=>
  rw [EW,if_neg Bool.false_ne_true] at key
  rw [Ft]
  unfold iz
  unfold D8 at key ⊢
  simp only [↓pd,pv,seval,op,key]
end
theorem eqD_I (a b:Int):eqD (.int a) (.int b)=decide (a=b):=by
 rw [eqD,Bool.eq_iff_iff]
 simp
theorem uH (a:Int):plainD 40 (.int a)=true:=rfl
theorem qG (l:List Int):plainDs 40 (l.map D.int)=true:=jt _ _
structure Bd (nZ:Ei) (aZ:List DY):Prop where
 b:∀ a∈aZ,(0≤a.1∧a.1 < 12)∧0≤a.2.2∧a.2.2 < 12
 n:∀ a∈aZ,a.2.1∈nZ
structure Od (aZ:List DY) (O1:List Int) (d:Nat) (pre:List DY):Prop where
 nd:O1.Nodup
 z:O1[0]?=some 0
 bd:∀ x∈O1,0≤x∧x < 12
 rc:∀ j:Nat,1≤j→∀ x,O1[j]?=some x→∃ a∈aZ,a.2.2=x∧∃ b:Nat,b < j∧O1[b]?=some a.1
 clo:∀ i:Nat,i < d→∀ x,O1[i]?=some x→∀ a∈aZ,a.1=x→a.2.2∈O1
 cur:∀ x,O1[d]?=some x→∀ a∈pre,a.1=x→a.2.2∈O1
theorem Od.le {aZ:List DY} {O1:List Int} {d:Nat} {pre:List DY} (o:Od aZ O1 d pre):O1.length≤12:=j7 12 o.nd o.bd
theorem Od.skip {aZ:List DY} {O1:List Int} {d:Nat} {pre:List DY} (o:Od aZ O1 d pre) {a:DY} {c:Int} (hc:O1[d]?=some c) (h:a.1≠c∨a.2.2∈O1):Od aZ O1 d (pre++[a]):=by
 refine ⟨o.nd,o.z,o.bd,o.rc,o.clo,fun x hx b hb e=>?_⟩
 rw [hc,Option.some.injEq] at hx
 subst hx
 rcases j6 hb with hb | hb
 ·exact o.cur c hc b hb e
 ·rw [List.mem_singleton] at hb
  subst hb
  exact h.resolve_left fun n=>n e
theorem Od.take {aZ:List DY} {O1:List Int} {d:Nat} {pre:List DY} (o:Od aZ O1 d pre) {a:DY} {c:Int} (hc:O1[d]?=some c) (ha:a∈aZ) (hb:0≤a.2.2∧a.2.2 < 12) (h1:a.1=c) (h2:a.2.2∉O1):Od aZ (O1++[a.2.2]) d (pre++[a]):=by
 have up:∀ {i:Nat} {x:Int},O1[i]?=some x→(O1++[a.2.2])[i]?=some x:=fun h=>fT h
 have hd:=(jv hc).1
 refine ⟨List.nodup_append.mpr ⟨o.nd,List.nodup_cons.mpr ⟨List.not_mem_nil,List.nodup_nil⟩,fun x hx y hy=>?_⟩,up o.z,fun x hx=>?_,fun j j1 x hx=>?_,fun i hi x hx b hb e=>?_,fun x hx b hb e=>?_⟩
 ·rw [j5 hy]
  rintro rfl
  exact h2 hx
 ·rcases j6 hx with hx | hx
  ·exact o.bd x hx
  ·rw [j5 hx]
   exact hb
 ·rcases dW hx with hx | ⟨rfl,rfl⟩
  ·obtain ⟨b,hb,e1,k,hk,e2⟩:=o.rc j j1 x hx
   exact ⟨b,hb,e1,k,hk,up e2⟩
  ·exact ⟨a,ha,rfl,d,hd,by rw [h1];exact up hc⟩
 ·rw [List.getElem?_append_left (by lia)] at hx
  exact List.mem_append_left _ (o.clo i hi x hx b hb e)
 ·rw [List.getElem?_append_left hd] at hx
  rcases j6 hb with hb | hb
  ·exact List.mem_append_left _ (o.cur x hx b hb e)
  ·rw [List.mem_singleton] at hb
   subst hb
   exact List.mem_append_right _ (List.mem_singleton.mpr rfl)
theorem Od.next {aZ:List DY} {O1:List Int} {d:Nat} {L:List DY} (o:Od aZ O1 d L) (hL:∀ a∈aZ,a∈L):Od aZ O1 (d + 1) []:=by
 refine ⟨o.nd,o.z,o.bd,o.rc,fun i hi x hx b hb e=>?_,fun x _ b hb=>nomatch hb⟩
 by_cases h:i=d
 ·subst h
  exact o.cur x hx b (hL b hb) e
 ·exact o.clo i (by lia) x hx b hb e
theorem Bh (aZ:List DY) (O1:List Int) (hO:O1.length≤12) (d:Nat) (c:Int) (hc:O1[d]?=some c) (a:DY):cF [some (.f,.lst (aZ.map eA)),some (.l .f,.lst (O1.map D.int)),some (.f,.int (d:Int)),some (.f,.int a.1),some (.f,.str a.2.1),some (.f,.int a.2.2),none,none]=.ok (.nx [some (.f,.lst (aZ.map eA)),some (.l .f,.lst ((if a.1=c∧a.2.2∉O1 then O1++[a.2.2] else O1).map D.int)),some (.f,.int (d:Int)),some (.f,.int a.1),some (.f,.str a.2.1),some (.f,.int a.2.2),none,none]):=by
 have Gq:EV (O1.map D.int) (d:Int)=some (.int c):=dX (by rw [List.getElem?_map,hc];rfl)
 have hz:(O1.map D.int).length < sizeLine:=hJ (by rw [bj];lia)
 unfold cF
 by_cases h1:a.1=c
 ·have e1:(a.1 == c)=true:=beq_iff_eq.mpr h1
  by_cases h2:a.2.2∈O1
  ·rw [if_neg (fun z=>z.2 h2)]
   simp only [↓pd,pv,seval,op,Gq,e1,h2,decide_true,Bool.not_true,f9]
  ·rw [if_pos ⟨h1,h2⟩,List.map_append]
   simp only [↓pd,pv,seval,op,Gq,e1,h2,decide_false,Bool.not_false,hz]
 ·rw [if_neg (fun z=>h1 z.1)]
  have e1:(a.1 == c)=false:=beq_eq_false_iff_ne.mpr h1
  simp only [↓pd,pv,seval,op,Gq,e1,f9]
theorem yP (aZ:List DY) (hl:aZ.length < 64) (hb:∀ a∈aZ,0≤a.2.2∧a.2.2 < 12):∃ O1 t3 t4 t5,Od aZ O1 O1.length []∧eG [some (.f,.lst (aZ.map eA)),some (.l .f,.lst [.int 0]),some (.f,.int 0),none,none,none,none,none]=.ok (.nx [some (.f,.lst (aZ.map eA)),some (.l .f,.lst (O1.map D.int)),some (.f,.int (O1.length:Int)),t3,t4,t5,none,none]):=by
 have mem:∀ {a:DY},a∈bz cM aZ↔a∈aZ:=lg cM
 have Pe:=pJ aZ hl
 generalize bz cM aZ=L at mem Pe
 obtain ⟨env',ew,O1,d,t3,t4,t5,o,hd,rfl⟩:=jb (c:=(EA (ay Ht (ao 2) (aj (bg kB (ah (ao 1) aF)))))) (g:=dH)
  (fun k env=>∃ O1 d t3 t4 t5,Od aZ O1 d []∧d≤O1.length∧k=13 - d∧env=[some (.f,.lst (aZ.map eA)),some (.l .f,.lst (O1.map D.int)),some (.f,.int ((d:Nat):Int)),t3,t4,t5,none,none]) (fun env=>∃ O1 d t3 t4 t5,Od aZ O1 d []∧d=O1.length∧env=[some (.f,.lst (aZ.map eA)),some (.l .f,.lst (O1.map D.int)),some (.f,.int ((d:Nat):Int)),t3,t4,t5,none,none]) (by
  rintro k env ⟨O1,d,t3,t4,t5,o,hd,rfl,rfl⟩
  have Nw:=o.le
  by_cases Eu:d < O1.length
  ·refine .inr ⟨[some (.f,.lst (aZ.map eA)),some (.l .f,.lst (O1.map D.int)),some (.f,.int ((d:Nat):Int)),t3,t4,t5,none,none],?_,?_⟩
   ·have:(d:Int) < (O1.length:Int):=by lia
    simp only [↓pd,pv,seval,op,bj,this,decide_true]
   ·obtain ⟨c,hc⟩:∃ c,O1[d]?=some c:=⟨O1[d],jQ Eu⟩
    obtain ⟨env',ef,O2,t3',Oh,Ot,o',F2,rfl⟩:=for_list (a:=g8 3 (aG (aw 3) (aG (aw 4) (aG (aw 5) cB)))) (g:=cF) (e:=eA) L (fun j env=>∃ O1 t3 t4 t5,Od aZ O1 d (L.take j)∧O1[d]?=some c∧env=[some (.f,.lst (aZ.map eA)),some (.l .f,.lst (O1.map D.int)),some (.f,.int ((d:Nat):Int)),t3,t4,t5,none,none]) (by
     rintro j a env hj ⟨O1,t3,t4,t5,o,hc,rfl⟩
     have Ju:=mem.mp (List.mem_of_getElem? hj)
     have ht:L.take (j + 1)=L.take j++[a]:=by rw [List.take_add_one,hj];rfl
     refine ⟨[some (.f,.lst (aZ.map eA)),some (.l .f,.lst (O1.map D.int)),some (.f,.int ((d:Nat):Int)),some (.f,.int a.1),some (.f,.str a.2.1),some (.f,.int a.2.2),none,none],by unfold eA;simp only [↓pd,pv,seval],_,Bh aZ O1 o.le d c hc a,_,_,_,_,?_,?_,rfl⟩
     ·rw [ht]
      split
      ·rename_i h
       exact o.take hc Ju (hb a Ju) h.1 h.2
      ·rename_i h
       exact o.skip hc (by
        by_cases h1:a.1=c
        ·exact .inr (Decidable.not_not.mp fun h2=>h ⟨h1,h2⟩)
        ·exact .inl h1)
     ·split
      ·exact fT hc
      ·exact hc) _ ⟨O1,t3,t4,t5,by rw [List.take_zero];exact o,hc,rfl⟩
    rw [List.take_length] at o'
    have hlt':=(jv F2).1
    refine ⟨_,13 - (d + 1),?_,by lia,O2,d + 1,t3',Oh,Ot,o'.next fun a ha=>mem.mpr ha,by lia,rfl,rfl⟩
    unfold dH
    rw [av (env':=_) (by
     unfold gG
     simp only [↓pd,pv,seval,op,Pe]
     exact ef)]
    unfold fX
    simp only [↓pd,pv,seval,op,Int.natCast_add,Int.cast_ofNat_Int]
  ·refine .inl ⟨_,?_,O1,d,t3,t4,t5,o,by lia,rfl⟩
   have:¬ (d:Int) < (O1.length:Int):=by lia
   simp only [↓pd,pv,seval,op,bj,this,decide_false]) 100000 13 _ (by decide) ⟨[0],0,none,none,none,⟨List.nodup_cons.mpr ⟨List.not_mem_nil,List.nodup_nil⟩,rfl,fun x hx=>by rw [j5 hx];lia,fun j j1 x hx=>by
    have:=(jv hx).1
    rw [List.length_singleton] at this
    lia,fun i hi=>absurd hi (Nat.not_lt_zero _),fun x _ b hb=>nomatch hb⟩,Nat.zero_le _,rfl,rfl⟩
 subst hd
 refine ⟨O1,t3,t4,t5,o,?_⟩
 unfold eG
 exact ew
structure Kp (nZ:Ei) (aZ:List DY) (O1:List Int) (pre:List DY) (K:List DY):Prop where
 b:∀ a∈K,a.2.1∈nZ∧(0≤a.1∧a.1 < (O1.length:Int))∧0≤a.2.2∧a.2.2 < (O1.length:Int)
 h:∀ a∈pre,∀ i k:Nat,O1[i]?=some a.1→O1[k]?=some a.2.2→((i:Int),a.2.1,(k:Int))∈K
 l:K.length≤pre.length
theorem vV {l:List Int} (nd:l.Nodup) {i j:Nat} {x:Int} (h1:l[i]?=some x) (h2:l[j]?=some x):i=j:=by
 obtain ⟨a1,e1⟩:=jv h1
 obtain ⟨a2,e2⟩:=jv h2
 have h3:=nd.idxOf_getElem i a1
 have h4:=nd.idxOf_getElem j a2
 rw [e1] at h3
 rw [e2] at h4
 exact h3.symm.trans h4
theorem Bi (nZ:Ei) (aZ:List DY) (O1:List Int) (o:Od aZ O1 O1.length []) (pre K:List DY) (kp:Kp nZ aZ O1 pre K) (FZ:pre.length≤100) (a:DY) (ha:a∈aZ) (hn:a.2.1∈nZ) (D2 t7:Option R):∃ K' u7,Kp nZ aZ O1 (pre++[a]) K'∧cE [some (.f,.lst (aZ.map eA)),some (.l .f,.lst (O1.map D.int)),D2,some (.f,.int a.1),some (.f,.str a.2.1),some (.f,.int a.2.2),some (.l .f,.lst (K.map eA)),t7]=.ok (.nx [some (.f,.lst (aZ.map eA)),some (.l .f,.lst (O1.map D.int)),D2,some (.f,.int a.1),some (.f,.str a.2.1),some (.f,.int a.2.2),some (.l .f,.lst (K'.map eA)),u7]):=by
 have Hu:=uc a.1 O1
 have NC:=kp.l
 unfold cE
 by_cases h1:a.1∈O1
 ·rw [decide_eq_true h1] at Hu
  obtain ⟨i,hi,ei⟩:=Om eqD_I qG uH O1 a.1 h1
  have h2:=o.clo i (jv hi).1 _ hi a ha rfl
  obtain ⟨k,hk,ek⟩:=Om eqD_I qG uH O1 a.2.2 h2
  have li:=(jv hi).1
  have lk:=(jv hk).1
  have Jv:=vU K ((i:Int),a.2.1,(k:Int))
  have hz:(K.map eA).length < sizeLine:=hJ (by rw [bj];lia)
  have ee:eA ((i:Int),a.2.1,(k:Int))=.tup [.int (i:Int),.str a.2.1,.int (k:Int)]:=rfl
  rw [ee] at Jv
  by_cases hm:((i:Int),a.2.1,(k:Int))∈K
  ·rw [decide_eq_true hm] at Jv
   refine ⟨K,some (.f,.tup [.int (i:Int),.str a.2.1,.int (k:Int)]),⟨kp.b,fun b hb i' k' e1 e2=>?_,by rw [iH];lia⟩,?_⟩
   ·rcases j6 hb with hb | hb
    ·exact kp.h b hb i' k' e1 e2
    ·rw [List.mem_singleton] at hb
     subst hb
     rw [vV o.nd e1 hi,vV o.nd e2 hk]
     exact hm
   ·simp only [↓pd,pv,seval,op,Hu,qy,ei,ek,Jv,Bool.not_true,f9]
  ·rw [decide_eq_false hm] at Jv
   refine ⟨K++[((i:Int),a.2.1,(k:Int))],some (.f,.tup [.int (i:Int),.str a.2.1,.int (k:Int)]),⟨fun b hb=>?_,fun b hb i' k' e1 e2=>?_,by rw [iH,iH];simp only [List.length_singleton];lia⟩,?_⟩
   ·rcases j6 hb with hb | hb
    ·exact kp.b b hb
    ·rw [j5 hb]
     exact ⟨hn,by dsimp only;lia,by dsimp only;lia,by dsimp only;lia⟩
   ·rcases j6 hb with hb | hb
    ·exact List.mem_append_left _ (kp.h b hb i' k' e1 e2)
    ·rw [List.mem_singleton] at hb
     subst hb
     rw [vV o.nd e1 hi,vV o.nd e2 hk]
     exact List.mem_append_right _ (List.mem_singleton.mpr rfl)
   ·rw [List.map_append,eX,List.map_nil,ee]
    simp only [↓pd,pv,seval,op,Hu,qy,ei,ek,Jv,Bool.not_false,hz]
 ·rw [decide_eq_false h1] at Hu
  refine ⟨K,t7,⟨kp.b,fun b hb i' k' e1 e2=>?_,by rw [iH];lia⟩,?_⟩
  ·rcases j6 hb with hb | hb
   ·exact kp.h b hb i' k' e1 e2
   ·rw [List.mem_singleton] at hb
    subst hb
    exact absurd (List.mem_of_getElem? e1) h1
  ·simp only [↓pd,pv,seval,op,Hu,f9]
theorem qH (nZ:Ei) (aZ:List DY) (hl:aZ.length≤60) (bd:Bd nZ aZ):∃ K many,Ra nZ K many∧K.length≤aZ.length∧bZ [.lst (aZ.map eA)]=.ok (.l .f,.lst ((bz cM K).map eA)):=by
 obtain ⟨O1,t3,t4,t5,o,ew⟩:=yP aZ (by lia) fun a ha=>(bd.b a ha).2
 have Nw:=o.le
 have hz0:=(jv o.z).1
 unfold bZ i6
 rw [bc (h:=by rfl)]
 rw [av (env':=[some (.f,.lst (aZ.map eA)),some (.l .f,.lst [.int 0]),none,none,none,none,none,none]) (by simp only [↓pd,pv,seval,op])]
 rw [av (env':=[some (.f,.lst (aZ.map eA)),some (.l .f,.lst [.int 0]),some (.f,.int 0),none,none,none,none,none]) (by simp only [↓pd,pv,seval,op])]
 rw [av ew]
 unfold fY
 rw [av (env':=[some (.f,.lst (aZ.map eA)),some (.l .f,.lst (O1.map D.int)),some (.f,.int (O1.length:Int)),t3,t4,t5,some (.l .f,.lst []),none]) (by simp only [↓pd,pv,seval,op])]
 obtain ⟨env',ef,K,u3,u4,u5,u7,kp,rfl⟩:=for_list (a:=g8 3 (aG (aw 3) (aG (aw 4) (aG (aw 5) cB)))) (g:=cE) (e:=eA) aZ (fun j env=>∃ K t3 t4 t5 t7,Kp nZ aZ O1 (aZ.take j) K∧env=[some (.f,.lst (aZ.map eA)),some (.l .f,.lst (O1.map D.int)),some (.f,.int (O1.length:Int)),t3,t4,t5,some (.l .f,.lst (K.map eA)),t7]) (by
  rintro j a env hj ⟨K,t3,t4,t5,t7,kp,rfl⟩
  have Ju:=List.mem_of_getElem? hj
  have ht:aZ.take (j + 1)=aZ.take j++[a]:=by rw [List.take_add_one,hj];rfl
  obtain ⟨K',u7,kp',e⟩:=Bi nZ aZ O1 o (aZ.take j) K kp (by rw [List.length_take];lia) a Ju (bd.n a Ju) (some (.f,.int (O1.length:Int))) t7
  exact ⟨_,by unfold eA;simp only [↓pd,pv,seval],_,e,K',_,_,_,u7,by rw [ht];exact kp',rfl⟩) _ ⟨[],t3,t4,t5,none,⟨(fun _ h=>nomatch h),(fun _ h=>by rw [List.take_zero] at h;exact nomatch h),Nat.zero_le _⟩,rfl⟩
 rw [List.take_length] at kp
 have NC:=kp.l
 rw [List.map_nil] at ef
 rw [av (env':=_) (by
  unfold gF
  simp only [↓pd,pv,seval,op]
  exact ef)]
 unfold fW
 refine ⟨K,O1.length,⟨by lia,by lia,fun a ha=>(kp.b a ha).2,fun a ha=>(kp.b a ha).1,fun j j1 j2=>?_⟩,NC,by simp only [↓pd,pv,seval,op,pJ K (by lia)]⟩
 obtain ⟨a,ha,e1,b,Oi,e2⟩:=o.rc j j1 _ (jQ j2)
 exact ⟨_,kp.h a ha b j e2 (by rw [e1];exact jQ j2),rfl,b,Oi,rfl⟩
theorem Bj (aZ:List DY):F1 (.lst (aZ.map eA)) (.lst [])=.ok (.f,.bl aZ.isEmpty):=by
 unfold F1
 rw [plainD,jw 36 aZ]
 cases aZ <;> rfl
theorem vW (nZ:Ei) (h0:nZ≠[]) (x:Int):∃ m∈nZ,D3 (.tup (nZ.map D.str)) (.int (x % (nZ.length:Int)))=.ok (.f,.str m):=by
 have hp:=List.length_pos_iff.mpr h0
 have hb:=dO x (nZ.length:Int) (by lia)
 obtain ⟨k,ek⟩:=Int.eq_ofNat_of_zero_le hb.1
 have hk:k < nZ.length:=by lia
 refine ⟨nZ[k],List.getElem_mem hk,?_⟩
 rw [ek,AD,AS hk]
theorem yQ (x y:List D) (h:x.length + y.length≤1000):cp (.lst x) (.lst y)=.ok (.l .f,.lst (x++y)):=by
 rw [mM,if_pos (line_le (by lia))]
theorem Bk {l:List Int} (h:l≠[]):PV.maxD [.lst (l.map D.int)]=.ok (.f,.int (fD l)):=by
 unfold PV.maxD
 dsimp only
 rw [wI]
 cases l with
 | nil=>exact absurd rfl h
 | cons a l=>rfl
noncomputable def lq (aZ:List DY):List Int:=0 :: aZ.map k8
theorem Bl (nZ:Ei) (h0:nZ≠[]) (hn:nZ.length≤3) (aZ:List DY) (hl:aZ.length≤55) (bd:Bd nZ aZ) (nb:Int):∃ Gz,Bd nZ Gz∧Gz.length≤aZ.length + 1∧dj [.tup (nZ.map D.str),.lst (aZ.map eA),.int nb]=.ok (.l .f,.lst (Gz.map eA)):=by
 have hc:cH (aw 0) eS (bg PV.maxD (ah (aj (ay D3 (ao 0) (aj (aH (.int 0))))) (ah (aj (ay D3 (ao 0) (aj (aH (.int 2))))) aF))) (aZ.map eA) [none]=.ok ((aZ.map k8).map D.int):=by
  rw [bF (r:=fun a:DY=>D.int (k8 a)) (fun env=>∃ t,env=[t]) aZ ?_ _ ⟨none,rfl⟩]
  ·rw [List.map_map]
   rfl
  ·rintro a _ env ⟨t,rfl⟩
   refine ⟨[some (.f,eA a)],rfl,.f,[some (.f,eA a)],?_,_,rfl⟩
   unfold eA
   simp only [↓pd,pv,seval,op,at2]
   rfl
 have Iz:((aZ.map k8).map D.int).length≤sizeLine:=aX (by rw [bj,bj];lia)
 have Ka:=DW (aZ.map k8)
 have Ov:=yQ [.int 0] ((aZ.map k8).map D.int) (by rw [bj,bj,List.length_singleton];lia)
 have Ij:PV.maxD [.lst ([.int 0]++(aZ.map k8).map D.int)]=.ok (.f,.int (fD (lq aZ))):=Bk (l:=lq aZ) (by unfold lq;simp)
 have hM0:0≤fD (lq aZ):=mQ (ns:=lq aZ) (x:=0) (by unfold lq;exact List.mem_cons_self)
 have hM12:fD (lq aZ) < 12:=by
  have:=qA (ns:=lq aZ) (by unfold lq;simp)
  unfold lq at this
  rcases List.mem_cons.mp this with e | e
  ·unfold lq
   lia
  ·obtain ⟨a,ha,e2⟩:=mN e
   have hb:=bd.b a ha
   have h3:=(lb a).2.2
   unfold lq
   lia
 have Pf:∀ a∈aZ,a.1≤fD (lq aZ)∧a.2.2≤fD (lq aZ):=fun a ha=>by
  have h1:k8 a≤fD (lq aZ):=mQ (by unfold lq;exact List.mem_cons_of_mem _ (List.mem_map.mpr ⟨a,ha,rfl⟩))
  have h2:=lb a
  lia
 unfold dj kR
 rw [bc (h:=by rfl)]
 rw [av (env':=[some (.f,.tup (nZ.map D.str)),some (.f,.lst (aZ.map eA)),some (.f,.int nb),some (.f,.int (1 + fD (lq aZ))),none,none,none,none,none,none,none]) (by
  generalize (bg PV.maxD (ah (aj (ay D3 (ao 0) (aj (aH (.int 0))))) (ah (aj (ay D3 (ao 0) (aj (aH (.int 2))))) aF)))=GG at hc ⊢
  generalize (aZ.map k8).map D.int=TT at *
  simp only [↓pd,pv,seval,op,hc,Iz,Ka]
  simp only [List.cons_append,List.nil_append] at Ov Ij
  simp only [↓pd,pv,seval,op,Ov,Ij])]
 have hcb:1≤1 + fD (lq aZ)∧1 + fD (lq aZ)≤12:=by lia
 have Ow:∀ a∈aZ,a.1 < 1 + fD (lq aZ)∧a.2.2 < 1 + fD (lq aZ):=fun a ha=>by
  have:=Pf a ha
  lia
 generalize 1 + fD (lq aZ)=c at hcb Ow
 clear hM0 hM12 Pf Ij Ov hc Iz Ka
 have Lp:0 < (if 12 < c + 1 then 12 else c + 1)∧(if 12 < c + 1 then 12 else c + 1)≤12:=by split <;> lia
 have KZ:=dO (nb / 128) (if 12 < c + 1 then 12 else c + 1) Lp.1
 have M4:=g6 (nb / 128) (if 12 < c + 1 then 12 else c + 1) Lp.1
 rw [av (env':=[some (.f,.tup (nZ.map D.str)),some (.f,.lst (aZ.map eA)),some (.f,.int nb),some (.f,.int c),some (.f,.int (nb / 128 % (if 12 < c + 1 then 12 else c + 1))),none,none,none,none,none,none]) (by simp only [↓pd,pv,seval,op,eQ _ 128 (by decide) (by decide),M4])]
 have hot:0≤nb / 128 % (if 12 < c + 1 then 12 else c + 1)∧nb / 128 % (if 12 < c + 1 then 12 else c + 1) < 12:=by lia
 generalize nb / 128 % (if 12 < c + 1 then 12 else c + 1)=ot at hot
 clear KZ M4 Lp
 obtain ⟨mv,NA,emv⟩:=vW nZ h0 (nb / 2048)
 have hp:=List.length_pos_iff.mpr h0
 rw [av (env':=[some (.f,.tup (nZ.map D.str)),some (.f,.lst (aZ.map eA)),some (.f,.int nb),some (.f,.int c),some (.f,.int ot),some (.f,.str mv),none,none,none,none,none]) (by simp only [↓pd,pv,seval,op,eQ _ 2048 (by decide) (by decide),bj,g6 _ (nZ.length:Int) (by lia),emv])]
 have LJ:=Bj aZ
 have m5:=g6 nb 5 (by decide)
 have mc:=dO (nb / 8) c (by lia)
 have m8:=g6 (nb / 8) c (by lia)
 have d8:=eQ nb 8 (by decide) (by decide)
 have app:∀ (l:List DY) (a:DY),l.length≤60→cp (.lst (l.map eA)) (.lst [eA a])=.ok (.l .f,.lst ((l++[a]).map eA)):=fun l a h=>by
  rw [yQ _ _ (by rw [bj,List.length_singleton];lia),List.map_append]
  rfl
 have Lq:∀ (l:List DY) (a:DY),(∀ x∈l,x∈aZ)→((0≤a.1∧a.1 < 12)∧0≤a.2.2∧a.2.2 < 12)→a.2.1∈nZ→Bd nZ (l++[a]):=fun l a GR hb ND=>by
  refine ⟨fun x hx=>?_,fun x hx=>?_⟩
  ·rcases j6 hx with hx | hx
   ·exact bd.b x (GR x hx)
   ·rw [j5 hx]
    exact hb
  ·rcases j6 hx with hx | hx
   ·exact bd.n x (GR x hx)
   ·rw [j5 hx]
    exact ND
 by_cases h3:aZ.isEmpty=true∨(nb % 5 == 3)=true
 ·have ha:=app aZ (nb / 8 % c,mv,ot) (by lia)
  refine ⟨aZ++[(nb / 8 % c,mv,ot)],Lq aZ _ (fun x hx=>hx) (by dsimp only;lia) NA,by rw [iH];exact Nat.le_refl _,?_⟩
  rw [show eA (nb / 8 % c,mv,ot)=.tup [.int (nb / 8 % c),.str mv,.int ot] from rfl] at ha
  cases hE:aZ.isEmpty with
  | true=>
   rw [hE] at LJ
   simp only [↓pd,pv,seval,op,LJ,m8,d8,ha]
  | false=>
   rw [hE] at LJ h3
   have h3:=h3.resolve_left Bool.false_ne_true
   simp only [↓pd,pv,seval,op,LJ,m5,h3,m8,d8,ha,f9]
 ·have hE:aZ.isEmpty=false:=Bool.eq_false_iff.mpr fun h=>h3 (.inl h)
  have e3:(nb % 5 == 3)=false:=Bool.eq_false_iff.mpr fun h=>h3 (.inr h)
  rw [hE] at LJ
  have hpos:0 < aZ.length:=by
   cases aZ with
   | nil=>cases hE
   | cons _ _=>exact Nat.succ_pos _
  rw [av (env':=[some (.f,.tup (nZ.map D.str)),some (.f,.lst (aZ.map eA)),some (.f,.int nb),some (.f,.int c),some (.f,.int ot),some (.f,.str mv),none,none,none,none,none]) (by simp only [↓pd,pv,seval,op,LJ,m5,e3,f9])]
  have ms:=dO (nb / 16384) (aZ.length:Int) (by lia)
  obtain ⟨sp,es⟩:=Int.eq_ofNat_of_zero_le ms.1
  have IF:sp < aZ.length:=by lia
  rw [av (env':=[some (.f,.tup (nZ.map D.str)),some (.f,.lst (aZ.map eA)),some (.f,.int nb),some (.f,.int c),some (.f,.int ot),some (.f,.str mv),some (.f,.int (sp:Int)),none,none,none,none]) (by simp only [↓pd,pv,seval,op,eQ _ 16384 (by decide) (by decide),bj,g6 _ (aZ.length:Int) (by lia),es])]
  have Gq:EV (aZ.map eA) (sp:Int)=some (eA aZ[sp]):=dX (by rw [List.getElem?_map,jQ IF];rfl)
  have KP:=List.getElem_mem IF
  generalize aZ[sp]=a at Gq KP
  rw [av (env':=[some (.f,.tup (nZ.map D.str)),some (.f,.lst (aZ.map eA)),some (.f,.int nb),some (.f,.int c),some (.f,.int ot),some (.f,.str mv),some (.f,.int (sp:Int)),some (.f,eA a),none,none,none]) (by simp only [↓pd,pv,seval,op,Gq])]
  have M5:gu (aZ.map eA) none (some (sp:Int))=(aZ.take sp).map eA:=by rw [mO,List.map_take]
  have Jf:gu (aZ.map eA) (some ((sp:Int) + 1)) none=(aZ.drop (sp + 1)).map eA:=by rw [show (sp:Int) + 1=((sp + 1:Nat):Int) by lia,qx,List.map_drop]
  have GR:∀ x∈aZ.take sp++aZ.drop (sp + 1),x∈aZ:=fun x hx=>by
   rcases j6 hx with h | h
   ·exact List.mem_of_mem_take h
   ·exact List.mem_of_mem_drop h
  have hrl:(aZ.take sp++aZ.drop (sp + 1)).length≤aZ.length:=by
   rw [iH,List.length_take,List.length_drop]
   lia
  have M6:=yQ ((aZ.take sp).map eA) ((aZ.drop (sp + 1)).map eA) (by rw [bj,bj];rw [iH] at hrl;lia)
  rw [←List.map_append] at M6
  generalize aZ.take sp++aZ.drop (sp + 1)=eL at *
  rw [av (env':=[some (.f,.tup (nZ.map D.str)),some (.f,.lst (aZ.map eA)),some (.f,.int nb),some (.f,.int c),some (.f,.int ot),some (.f,.str mv),some (.f,.int (sp:Int)),some (.f,eA a),some (.l .f,.lst (eL.map eA)),none,none]) (by simp only [↓pd,pv,seval,op,M5,Jf,M6])]
  cases e0:(nb % 5 == 0) with
  | true=>
   refine ⟨eL,⟨fun x hx=>bd.b x (GR x hx),fun x hx=>bd.n x (GR x hx)⟩,by lia,?_⟩
   simp only [↓pd,pv,seval,op,m5,e0]
  | false=>
   rw [av (env':=[some (.f,.tup (nZ.map D.str)),some (.f,.lst (aZ.map eA)),some (.f,.int nb),some (.f,.int c),some (.f,.int ot),some (.f,.str mv),some (.f,.int (sp:Int)),some (.f,eA a),some (.l .f,.lst (eL.map eA)),none,none]) (by simp only [↓pd,pv,seval,op,m5,e0,f9])]
   have Ge:=bd.b a KP
   have hna:=bd.n a KP
   cases e1:(nb % 5 == 1) with
   | true=>
    have ha:=app eL (a.1,a.2.1,ot) (by lia)
    refine ⟨eL++[(a.1,a.2.1,ot)],Lq eL _ GR (by dsimp only;lia) hna,by rw [iH,List.length_singleton];lia,?_⟩
    rw [show eA (a.1,a.2.1,ot)=.tup [.int a.1,.str a.2.1,.int ot] from rfl] at ha
    rw [show eA a=.tup [.int a.1,.str a.2.1,.int a.2.2] from rfl]
    simp only [↓pd,pv,seval,op,m5,e1,ha]
   | false=>
    rw [av (env':=[some (.f,.tup (nZ.map D.str)),some (.f,.lst (aZ.map eA)),some (.f,.int nb),some (.f,.int c),some (.f,.int ot),some (.f,.str mv),some (.f,.int (sp:Int)),some (.f,eA a),some (.l .f,.lst (eL.map eA)),none,none]) (by simp only [↓pd,pv,seval,op,m5,e1,f9])]
    by_cases h2:(nb % 5 == 2)=true∨(c == 1)=true
    ·have ha:=app eL (a.1,mv,a.2.2) (by lia)
     refine ⟨eL++[(a.1,mv,a.2.2)],Lq eL _ GR (by dsimp only;lia) NA,by rw [iH,List.length_singleton];lia,?_⟩
     rw [show eA (a.1,mv,a.2.2)=.tup [.int a.1,.str mv,.int a.2.2] from rfl] at ha
     rw [show eA a=.tup [.int a.1,.str a.2.1,.int a.2.2] from rfl]
     cases e2:(nb % 5 == 2) with
     | true=>simp only [↓pd,pv,seval,op,m5,e2,at2,ha]
     | false=>
      rw [e2] at h2
      have h2:=h2.resolve_left Bool.false_ne_true
      simp only [↓pd,pv,seval,op,m5,e2,h2,at2,ha,f9]
    ·have e2:(nb % 5 == 2)=false:=Bool.eq_false_iff.mpr fun h=>h2 (.inl h)
     have ec:(c == 1)=false:=Bool.eq_false_iff.mpr fun h=>h2 (.inr h)
     have hc1:c≠1:=beq_eq_false_iff_ne.mp ec
     rw [av (env':=[some (.f,.tup (nZ.map D.str)),some (.f,.lst (aZ.map eA)),some (.f,.int nb),some (.f,.int c),some (.f,.int ot),some (.f,.str mv),some (.f,.int (sp:Int)),some (.f,eA a),some (.l .f,.lst (eL.map eA)),none,none]) (by simp only [↓pd,pv,seval,op,m5,e2,ec,f9])]
     have mg:=dO (nb / 8) (c - 1) (by lia)
     obtain ⟨gn,eg⟩:=Int.eq_ofNat_of_zero_le (show 0≤1 + nb / 8 % (c - 1) by lia)
     rw [av (env':=[some (.f,.tup (nZ.map D.str)),some (.f,.lst (aZ.map eA)),some (.f,.int nb),some (.f,.int c),some (.f,.int ot),some (.f,.str mv),some (.f,.int (sp:Int)),some (.f,eA a),some (.l .f,.lst (eL.map eA)),some (.f,.int (gn:Int)),none]) (by simp only [↓pd,pv,seval,op,d8,g6 _ (c - 1) (by lia),eg])]
     obtain ⟨cn,rfl⟩:=Int.eq_ofNat_of_zero_le (show 0≤c by lia)
     have hce:cH (aw 0) eS (aK 0) ((List.range cn).map fun (k:Nat)=>D.int (k:Int)) [none]=.ok (((List.range cn).map fun (k:Nat)=>(k:Int)).map D.int):=by
      rw [bF (r:=fun k:Nat=>D.int (k:Int)) (fun env=>∃ t,env=[t]) (List.range cn) ?_ _ ⟨none,rfl⟩]
      ·rw [List.map_map]
       rfl
      ·rintro k _ env ⟨t,rfl⟩
       exact ⟨[some (.f,.int (k:Int))],rfl,.f,_,rfl,_,rfl⟩
     have hle:(((List.range cn).map fun (k:Nat)=>(k:Int)).map D.int).length≤sizeLine:=aX (by rw [bj,bj,List.length_range];lia)
     have hfe:=DW ((List.range cn).map fun (k:Nat)=>(k:Int))
     have hel:((List.range cn).map fun (k:Nat)=>(k:Int)).length=cn:=by rw [bj,List.length_range]
     have hev:∀ x∈((List.range cn).map fun (k:Nat)=>(k:Int)),0≤x∧x < (cn:Int):=fun x hx=>by
      obtain ⟨k,hk,rfl⟩:=mN hx
      have:=List.mem_range.mp hk
      lia
     generalize ((List.range cn).map fun (k:Nat)=>(k:Int))=en at *
     rw [av (env':=[some (.f,.tup (nZ.map D.str)),some (.f,.lst (aZ.map eA)),some (.f,.int nb),some (.f,.int (cn:Int)),some (.f,.int ot),some (.f,.str mv),some (.f,.int (sp:Int)),some (.f,eA a),some (.l .f,.lst (eL.map eA)),some (.f,.int (gn:Int)),some (.l .f,.lst (en.map D.int))]) (by
      simp only [↓pd,pv,seval,op]
      rw [if_pos (by lia)]
      simp only [↓pd,pv,seval,op,Int.toNat_natCast,hce,hle,hfe])]
     have EX:ixN en.length (gn:Int)=some gn:=pE _ _ (by lia)
     have mo:=dO ot (cn:Int) (by lia)
     rw [av (env':=[some (.f,.tup (nZ.map D.str)),some (.f,.lst (aZ.map eA)),some (.f,.int nb),some (.f,.int (cn:Int)),some (.f,.int ot),some (.f,.str mv),some (.f,.int (sp:Int)),some (.f,eA a),some (.l .f,.lst (eL.map eA)),some (.f,.int (gn:Int)),some (.l .f,.lst ((en.set gn (ot % (cn:Int))).map D.int))]) (by
      rw [List.map_set]
      simp only [↓pd,pv,seval,op,g6 ot (cn:Int) (by lia),bj,EX])]
     have hsl:(en.set gn (ot % (cn:Int))).length=cn:=by rw [List.length_set];exact hel
     have Pg:∀ x∈en.set gn (ot % (cn:Int)),0≤x∧x < (cn:Int):=fun x hx=>by
      rcases List.mem_or_eq_of_mem_set hx with h | h
      ·exact hev x h
      ·rw [h]
       exact mo
     generalize en.set gn (ot % (cn:Int))=GJ at hsl Pg
     have Kc:∀ s:Int,0≤s→s < (cn:Int)→EV (GJ.map D.int) s=some (.int (GJ.getD s.toNat 0))∧0≤GJ.getD s.toNat 0∧GJ.getD s.toNat 0 < (cn:Int):=fun s hs0 hs1=>by
      obtain ⟨k,rfl⟩:=Int.eq_ofNat_of_zero_le hs0
      have hk:k < GJ.length:=by lia
      rw [Int.toNat_natCast]
      refine ⟨fC hk,?_⟩
      rw [List.getD_eq_getElem?_getD,jQ hk]
      exact Pg _ (List.getElem_mem hk)
     have LN:cH (g8 3 (aG (aw 0) (aG (aw 1) (aG (aw 2) cB)))) eS (g9 (az (ay D3 (ao 3) (ao 0)) (az (aK 1) (az (ay D3 (ao 3) (ao 2)) a7)))) (aZ.map eA) [none,none,none,some (.f,.lst (GJ.map D.int))]=.ok ((aZ.map fun a=>((GJ.getD a.1.toNat 0,a.2.1,GJ.getD a.2.2.toNat 0):DY)).map eA):=by
      rw [bF (r:=fun a:DY=>eA (GJ.getD a.1.toNat 0,a.2.1,GJ.getD a.2.2.toNat 0)) (fun env=>∃ t u v,env=[t,u,v,some (.f,.lst (GJ.map D.int))]) aZ ?_ _ ⟨none,none,none,rfl⟩]
      ·rw [List.map_map]
       rfl
      ·rintro b hb env ⟨t,u,v,rfl⟩
       have IH:=bd.b b hb
       have HJ:=Ow b hb
       have i1:=(Kc b.1 IH.1.1 HJ.1).1
       have i2:=(Kc b.2.2 IH.2.1 HJ.2).1
       refine ⟨[some (.f,.int b.1),some (.f,.str b.2.1),some (.f,.int b.2.2),some (.f,.lst (GJ.map D.int))],by unfold eA;simp only [↓pd,pv,seval],.f,[some (.f,.int b.1),some (.f,.str b.2.1),some (.f,.int b.2.2),some (.f,.lst (GJ.map D.int))],?_,_,_,_,rfl⟩
       unfold eA
       simp only [↓pd,pv,seval,op,i1,i2]
     refine ⟨aZ.map fun a=>((GJ.getD a.1.toNat 0,a.2.1,GJ.getD a.2.2.toNat 0):DY),⟨fun x hx=>?_,fun x hx=>?_⟩,by rw [bj];lia,?_⟩
     ·obtain ⟨b,hb,rfl⟩:=mN hx
      have IH:=bd.b b hb
      have HJ:=Ow b hb
      have i1:=(Kc b.1 IH.1.1 HJ.1).2
      have i2:=(Kc b.2.2 IH.2.1 HJ.2).2
      dsimp only
      lia
     ·obtain ⟨b,hb,rfl⟩:=mN hx
      exact bd.n b hb
     ·have M7:((aZ.map fun a=>((GJ.getD a.1.toNat 0,a.2.1,GJ.getD a.2.2.toNat 0):DY)).map eA).length≤sizeLine:=aX (by rw [bj,bj];lia)
      have M8:=k9 (aZ.map fun a=>((GJ.getD a.1.toNat 0,a.2.1,GJ.getD a.2.2.toNat 0):DY))
      generalize (g9 (az (ay D3 (ao 3) (ao 0)) (az (aK 1) (az (ay D3 (ao 3) (ao 2)) a7))))=GG at LN ⊢
      simp only [↓pd,pv,seval,op,LN,M7,M8]
theorem Ra.bd' {nZ:Ei} {as:List DY} {many:Nat} (r:Ra nZ as many):Bd nZ as:=⟨fun a ha=>by
 have:=r.bd a ha
 have:=r.mm
 lia,r.nm⟩
theorem oQ (ns:List Int) (first:Nat) (hf:first≤100) {nZ:Ei} {ps:List Pl} {S:List (List Int)} {A:List DY} (n:Nt nZ ps S A) (er:br [eN nZ ps,.int 8]=.ok (.f,.tup [.lst ((bz cM A).map eA),.lst (S.map eM)])):∃ K many,Ra nZ K many∧aW [.lst (ns.map D.int),eN nZ ps,.int (first:Int)]=.ok (.f,D8 nZ (bz cM K)):=by
 have GA:=n.al
 have Ka:∀ (x y:List D),flatDs [.lst x,.lst y]=false:=fun _ _=>rfl
 have b0:Bd nZ (bz cM A):=n.ra.sort.bd'
 unfold aW fA
 rw [bc (h:=by rfl)]
 rw [av (env':=[some (.f,.lst (ns.map D.int)),some (.f,eN nZ ps),some (.f,.int (first:Int)),some (.f,.lst ((bz cM A).map eA)),none,none]) (by simp only [↓pd,pv,seval,op,er,Ka,f9,Bs,Bt])]
 obtain ⟨env',ef,aZ,o3,t4,t5,ho,hl,bd,rfl⟩:=k7 (a:=aw 4) (g:=cz) (e:=fun k=>D.int ((first:Int) + (k:Int))) 3 (fun i env=>∃ (aZ:List DY) (o3:O) (t4 t5:Option R),sR o3=true∧aZ.length≤24 + i∧Bd nZ aZ∧env=[some (.f,.lst (ns.map D.int)),some (.f,eN nZ ps),some (.f,.int (first:Int)),some (o3,.lst (aZ.map eA)),t4,t5]) (by
  rintro k env hk ⟨aZ,o3,t4,t5,ho,hl,bd,rfl⟩
  have ck:=jc ns (first + k)
  have Ij:=lh (cell ns (first + k)) (((first + k:Nat)):Int) (by lia) (by lia)
  rw [show ((first + k:Nat):Int)=(first:Int) + (k:Int) by lia] at ck Ij
  generalize uz (cell ns (first + k)) ((first:Int) + (k:Int))=x at Ij
  refine ⟨[some (.f,.lst (ns.map D.int)),some (.f,eN nZ ps),some (.f,.int (first:Int)),some (o3,.lst (aZ.map eA)),some (.f,.int ((first:Int) + (k:Int))),t5],rfl,?_⟩
  unfold cz
  rw [av (env':=[some (.f,.lst (ns.map D.int)),some (.f,eN nZ ps),some (.f,.int (first:Int)),some (o3,.lst (aZ.map eA)),some (.f,.int ((first:Int) + (k:Int))),some (.f,.int x)]) (by simp only [↓pd,pv,seval,op,ck,Ij])]
  cases h3:(x / 64 % 3 == 0) with
  | false=>
   refine ⟨_,?_,aZ,o3,some (.f,.int ((first:Int) + (k:Int))),some (.f,.int x),ho,by lia,bd,rfl⟩
   simp only [↓pd,pv,seval,op,eQ _ 64 (by decide) (by decide),g6 _ 3 (by decide),h3,f9]
  | true=>
   obtain ⟨Gz,bd',hl',eb⟩:=Bl nZ n.n0 n.n3 aZ (by lia) bd (x / 192)
   obtain ⟨K,many,ra,NC,et⟩:=qH nZ Gz (by lia) bd'
   have f1:=k9 Gz
   have f2:=k9 (bz cM K)
   refine ⟨[some (.f,.lst (ns.map D.int)),some (.f,eN nZ ps),some (.f,.int (first:Int)),some (.l .f,.lst ((bz cM K).map eA)),some (.f,.int ((first:Int) + (k:Int))),some (.f,.int x)],?_,bz cM K,.l .f,some (.f,.int ((first:Int) + (k:Int))),some (.f,.int x),rfl,by rw [gP];lia,ra.sort.bd',rfl⟩
   unfold eN
   simp only [↓pd,pv,seval,op,eQ _ 64 (by decide) (by decide),eQ _ 192 (by decide) (by decide),g6 _ 3 (by decide),h3,eb,et,f1,f2,ho]) _ ⟨bz cM A,.f,none,none,rfl,by rw [gP];lia,b0,rfl⟩
 rw [av (env':=_) (by
  unfold eI
  simp only [↓pd,pv,seval,op]
  rw [if_pos (by lia),show ((first:Int) + 3 - (first:Int)).toNat=3 by lia]
  simp only [↓pd,pv,seval,op]
  exact ef)]
 unfold dN
 obtain ⟨K,many,ra,NC,et⟩:=qH nZ aZ (by lia) bd
 have f2:=k9 (bz cM K)
 refine ⟨K,many,ra,?_⟩
 unfold eN D8
 simp only [↓pd,pv,seval,op,et,f2,ho]
abbrev Lv:=List (Int×Int)
noncomputable def lk (L:Lv) (s:Int):Int:=((L.find? fun z=>z.1 == s).map (·.2)).getD 0
noncomputable def dL (L:Lv):D:=.dct false ((L.map (·.1)).map D.int) ((L.map (·.2)).map D.int)
theorem vX:∀ (L:Lv) (s:Int),getD ((L.map (·.1)).map D.int) ((L.map (·.2)).map D.int) (.int s)=(L.find? fun z=>z.1 == s).map fun z=>D.int z.2
 | [],s=>rfl
 | z :: L,s=>by
  have ih:=vX L s
  unfold getD at ih ⊢
  rw [eX,eX,eX,eX,List.zip_cons_cons]
  by_cases e:z.1=s
  ·rw [List.find?_cons_of_pos (by show eqD (.int s) (.int z.1)=true;rw [eqD,beq_iff_eq];exact e.symm),List.find?_cons_of_pos (by simpa using e)]
   rfl
  ·rw [List.find?_cons_of_neg (by show ¬ eqD (.int s) (.int z.1)=true;rw [eqD,beq_iff_eq];exact fun q=>e q.symm),List.find?_cons_of_neg (by simpa using e)]
   exact ih
theorem qI {L:Lv} {s:Int} (h:s∈L.map (·.1)):(L.find? fun z=>z.1 == s)=some (s,lk L s):=by
 unfold lk
 cases hf:L.find? fun z=>z.1 == s with
 | none=>
  rw [List.find?_eq_none] at hf
  obtain ⟨z,hz,e⟩:=mN h
  exact absurd (beq_iff_eq.mpr e) (hf z hz)
 | some z=>
  have:=List.find?_some hf
  have:z.1=s:=by simpa using this
  rw [Option.map_some,Option.getD_some,←this]
theorem wM {L:Lv} {s:Int} (h:s∉L.map (·.1)):(L.find? fun z=>z.1 == s)=none:=by
 rw [List.find?_eq_none]
 intro z hz e
 exact h (List.mem_map.mpr ⟨z,hz,beq_iff_eq.mp e⟩)
theorem Bu {L:Lv} {s:Int} (h:s∈L.map (·.1)):GW (dL L) (.int s)=.ok (.f,.int (lk L s)):=by
 unfold GW dL
 dsimp only
 rw [if_pos (show eh false (.int s)=true from rfl),vX,qI h]
 rfl
theorem DQ (L:Lv) (s:Int):Jt (.int s) (dL L)=.ok (.f,.bl (decide (s∈L.map (·.1)))):=by
 unfold Jt dL
 dsimp only
 rw [if_pos (show eh false (.int s)=true from rfl),vX]
 by_cases h:s∈L.map (·.1)
 ·rw [qI h,decide_eq_true h]
  rfl
 ·rw [wM h,decide_eq_false h]
  rfl
theorem CK (L:Lv) (s:Int):tP (.int s) (dL L)=.ok (.f,.bl (!decide (s∈L.map (·.1)))):=by
 unfold tP dL
 dsimp only
 rw [if_pos (show eh false (.int s)=true from rfl),vX]
 by_cases h:s∈L.map (·.1)
 ·rw [qI h,decide_eq_true h]
  rfl
 ·rw [wM h,decide_eq_false h]
  rfl
theorem CL {L:Lv} {s:Int} (h:s∉L.map (·.1)) (v:Int):pf ((L.map (·.1)).map D.int) ((L.map (·.2)).map D.int) (.int s) (.int v)=(((L++[(s,v)]).map (·.1)).map D.int,((L++[(s,v)]).map (·.2)).map D.int):=by
 have e:((L.map (·.1)).map D.int).any (eqD (.int s))=false:=by
  rw [List.any_map,List.any_eq_false]
  intro x hx
  show ¬ eqD (.int s) (.int x)=true
  rw [eqD,beq_iff_eq]
  rintro rfl
  exact h hx
 unfold pf
 rw [e,if_neg Bool.false_ne_true,List.map_append,List.map_append,List.map_append,List.map_append]
 rfl
theorem yR {L:Lv} (nd:(L.map (·.1)).Nodup) {z:Int×Int} (h:z∈L):lk L z.1=z.2:=by
 have hf:=qI (List.mem_map.mpr ⟨z,h,rfl⟩)
 have hm:=List.mem_of_find?_eq_some hf
 clear hf
 induction L with
 | nil=>cases h
 | cons y L ih=>
  rw [eX,List.nodup_cons] at nd
  by_cases e:y.1=z.1
  ·have hy:z=y:=by
    rcases List.mem_cons.mp h with h | h
    ·exact h
    ·exact absurd (List.mem_map.mpr ⟨z,h,e.symm⟩) nd.1
   unfold lk
   rw [hy,List.find?_cons_of_pos (by simp)]
   rfl
  ·have e2:lk (y :: L) z.1=lk L z.1:=by
    unfold lk
    rw [List.find?_cons_of_neg (by simpa using e)]
   have hz:z∈L:=(List.mem_cons.mp h).resolve_left fun q=>e (by rw [q])
   rw [e2]
   refine ih nd.2 hz ?_
   rw [e2] at hm
   exact (List.mem_cons.mp hm).resolve_left fun q=>e (by rw [←q])
structure Ls (aZ:List DY) (st:DY→Int) (many:Nat) (L:Lv):Prop where
 nd:(L.map (·.1)).Nodup
 z:(0,0)∈L
 bd:∀ x∈L.map (·.1),0≤x∧x < (many:Int)
 pt:∀ f:Int→Int,(∀ a∈aZ,f a.2.2=f a.1 + st a)→f 0=0→∀ y∈L,y.2=f y.1
theorem Ls.len {aZ:List DY} {st:DY→Int} {many:Nat} {L:Lv} (l:Ls aZ st many L):L.length≤many:=by
 have:=j7 many l.nd l.bd
 rwa [bj] at this
theorem Ls.add {aZ:List DY} {st:DY→Int} {many:Nat} {L:Lv} (l:Ls aZ st many L) {a:DY} (ha:a∈aZ) (h1:a.1∈L.map (·.1)) (h2:a.2.2∉L.map (·.1)) (hb:0≤a.2.2∧a.2.2 < (many:Int)):Ls aZ st many (L++[(a.2.2,lk L a.1 + st a)]):=by
 refine ⟨?_,List.mem_append_left _ l.z,fun x hx=>?_,fun f hf h0 y hy=>?_⟩
 ·rw [List.map_append]
  refine List.nodup_append.mpr ⟨l.nd,List.nodup_cons.mpr ⟨List.not_mem_nil,List.nodup_nil⟩,fun x hx y hy=>?_⟩
  rw [eX,List.map_nil,List.mem_singleton] at hy
  rw [hy]
  rintro rfl
  exact h2 hx
 ·rw [List.map_append] at hx
  rcases j6 hx with hx | hx
  ·exact l.bd x hx
  ·rw [eX,List.map_nil,List.mem_singleton] at hx
   rw [hx]
   exact hb
 ·rcases j6 hy with hy | hy
  ·exact l.pt f hf h0 y hy
  ·rw [j5 hy]
   obtain ⟨z,hz,ez⟩:=mN h1
   have e1:=yR l.nd hz
   have e2:=l.pt f hf h0 z hz
   rw [ez] at e1 e2
   dsimp only
   rw [hf a ha,e1,e2]
section
variable {nZ:Ei} {aZ:List DY} {many:Nat} {N:List Nd} {T:List DY}
noncomputable def Gh (nZ:Ei) (uZ:List Int) (a:DY):Int:=uZ.getD (nZ.idxOf a.2.1) 0
theorem CM (c:Ck nZ aZ many N T) (uZ:List Int) (RD:D) (hR:∀ k:Nat,k < nZ.length→D3 RD (.int (k:Int))=.ok (.f,.int (uZ.getD k 0))) (L:Lv) (l:Ls aZ (Gh nZ uZ) many L) (fr:Bool) (a:DY) (ha:a∈aZ) (t7:Option R) :
  ∃ L' fr' u7,Ls aZ (Gh nZ uZ) many L'∧((L'=L∧fr'=fr∧(a.1∈L.map (·.1)→a.2.2∈L.map (·.1)))∨(L'.length=L.length + 1∧fr'=true))∧cG [some (.f,D8 nZ aZ),some (.f,RD),some (.d,dL L),some (.f,.bl fr),some (.f,.int a.1),some (.f,.str a.2.1),some (.f,.int a.2.2),t7]=.ok (.nx [some (.f,D8 nZ aZ),some (.f,RD),some (.d,dL L'),some (.f,.bl fr'),some (.f,.int a.1),some (.f,.str a.2.1),some (.f,.int a.2.2),u7]):=by
 have hm:=c.nm a ha
 have EX:=lj hm
 have hr:=hR _ (List.idxOf_lt_length_of_mem hm)
 have hlen:=l.len
 have hm1:=c.m1
 unfold cG
 have s1:(bE 7 (ay D3 (ao 1) (aj (rH jm (aj (ay D3 (ao 0) (aj (aH (.int 0))))) (ah (ao 5) aF))))) [some (.f,D8 nZ aZ),some (.f,RD),some (.d,dL L),some (.f,.bl fr),some (.f,.int a.1),some (.f,.str a.2.1),some (.f,.int a.2.2),t7]=.ok (.nx [some (.f,D8 nZ aZ),some (.f,RD),some (.d,dL L),some (.f,.bl fr),some (.f,.int a.1),some (.f,.str a.2.1),some (.f,.int a.2.2),some (.f,.int (Gh nZ uZ a))]):=by
  unfold D8 Gh
  simp only [↓pd,pv,seval,op,EX,hr]
 rw [av s1]
 have Hu:=DQ L a.1
 have Jv:=CK L a.2.2
 by_cases h1:a.1∈L.map (·.1)
 ·rw [decide_eq_true h1] at Hu
  by_cases h2:a.2.2∈L.map (·.1)
  ·rw [decide_eq_true h2] at Jv
   refine ⟨L,fr,some (.f,.int (Gh nZ uZ a)),l,.inl ⟨rfl,rfl,fun _=>h2⟩,?_⟩
   simp only [↓pd,pv,seval,op,Hu,Jv,Bool.not_true,f9]
  ·rw [decide_eq_false h2] at Jv
   have Ph:=Bu h1
   have hput:=CL h2 (lk L a.1 + Gh nZ uZ a)
   have hz:decide (L.length < sizeLine)=true:=decide_eq_true (hJ (by lia))
   refine ⟨L++[(a.2.2,lk L a.1 + Gh nZ uZ a)],true,some (.f,.int (Gh nZ uZ a)),l.add ha h1 h2 (c.hb a ha).2,.inr ⟨by rw [iH];rfl,rfl⟩,?_⟩
   simp only [↓pd,pv,seval,op,Hu,Jv,Bool.not_false]
   unfold dL at Ph ⊢
   simp only [↓pd,pv,seval,op,Ph,bj,hz,Bool.and_self,hput]
 ·rw [decide_eq_false h1] at Hu
  refine ⟨L,fr,some (.f,.int (Gh nZ uZ a)),l,.inl ⟨rfl,rfl,fun h=>absurd h h1⟩,?_⟩
  simp only [↓pd,pv,seval,op,Hu,f9]
noncomputable def Kd (nZ:Ei) (N:List Nd) (uZ:List Int) (a:DY):Bool:=th nZ N uZ a.2.2 == th nZ N uZ a.1 + Gh nZ uZ a
theorem Ck.th0 (c:Ck nZ aZ many N T) (uZ:List Int):th nZ N uZ 0=0:=by
 unfold th
 have:=mP c.F.nd (List.mem_of_getElem? c.F.z)
 dsimp only at this
 rw [this,uF]
theorem Ck.levels (c:Ck nZ aZ many N T) (uZ:List Int) (hl:uZ.length=nZ.length) (RD:D) (hR:∀ k:Nat,k < nZ.length→D3 RD (.int (k:Int))=.ok (.f,.int (uZ.getD k 0))):cv [D8 nZ aZ,RD]=if aZ.all (Kd nZ N uZ) then .ok (.l .f,.lst (((List.range many).map fun (s:Nat)=>th nZ N uZ (s:Int)).map D.int)) else .ok (.f,.non):=by
 have hm1:=c.m1
 have GA:=c.al
 unfold cv i7
 rw [bc (h:=by rfl)]
 rw [av (env':=[some (.f,D8 nZ aZ),some (.f,RD),some (.d,dL [(0,0)]),none,none,none,none,none]) (by simp only [↓pd,pv,seval,op];rfl)]
 rw [av (env':=[some (.f,D8 nZ aZ),some (.f,RD),some (.d,dL [(0,0)]),some (.f,.bl true),none,none,none,none]) (by simp only [↓pd,pv,seval,op])]
 have l0:Ls aZ (Gh nZ uZ) many [(0,0)]:=⟨List.nodup_cons.mpr ⟨List.not_mem_nil,List.nodup_nil⟩,List.mem_singleton.mpr rfl,fun x hx=>by
  rw [eX,List.map_nil,List.mem_singleton] at hx
  lia,fun f hf h0 y hy=>by rw [j5 hy];exact h0.symm⟩
 obtain ⟨env',ew,L,t4,t5,t6,t7,l,hclo,rfl⟩:=jb (c:=EA (aK 3)) (g:=dJ)
  (fun k env=>∃ L fr t4 t5 t6 t7,Ls aZ (Gh nZ uZ) many L∧(fr=false→∀ a∈aZ,a.1∈L.map (·.1)→a.2.2∈L.map (·.1))∧k=(if fr=true then 14 - L.length else 0)∧env=[some (.f,D8 nZ aZ),some (.f,RD),some (.d,dL L),some (.f,.bl fr),t4,t5,t6,t7]) (fun env=>∃ L t4 t5 t6 t7,Ls aZ (Gh nZ uZ) many L∧(∀ a∈aZ,a.1∈L.map (·.1)→a.2.2∈L.map (·.1))∧env=[some (.f,D8 nZ aZ),some (.f,RD),some (.d,dL L),some (.f,.bl false),t4,t5,t6,t7]) (by
  rintro k env ⟨L,fr,t4,t5,t6,t7,l,Iz,rfl,rfl⟩
  have hlen:=l.len
  cases fr with
  | false=>exact .inl ⟨[some (.f,D8 nZ aZ),some (.f,RD),some (.d,dL L),some (.f,.bl false),t4,t5,t6,t7],by simp only [↓pd,pv,seval,op],L,t4,t5,t6,t7,l,Iz rfl,rfl⟩
  | true=>
   refine .inr ⟨[some (.f,D8 nZ aZ),some (.f,RD),some (.d,dL L),some (.f,.bl true),t4,t5,t6,t7],by simp only [↓pd,pv,seval,op],?_⟩
   obtain ⟨env',ef,L2,Ke,u4,u5,u6,u7,l2,hq,rfl⟩:=for_list (a:=g8 3 (aG (aw 4) (aG (aw 5) (aG (aw 6) cB)))) (g:=cG) (e:=eA) aZ (fun j env=>∃ L2 Ke t4 t5 t6 t7,Ls aZ (Gh nZ uZ) many L2∧((Ke=false∧L2=L∧∀ a∈aZ.take j,a.1∈L.map (·.1)→a.2.2∈L.map (·.1))∨(Ke=true∧L.length < L2.length))∧env=[some (.f,D8 nZ aZ),some (.f,RD),some (.d,dL L2),some (.f,.bl Ke),t4,t5,t6,t7]) (by
    rintro j a env hj ⟨L2,Ke,t4,t5,t6,t7,l2,hq,rfl⟩
    have Ju:=List.mem_of_getElem? hj
    have ht:aZ.take (j + 1)=aZ.take j++[a]:=by rw [List.take_add_one,hj];rfl
    obtain ⟨L3,KC,u7,l3,hd,e⟩:=CM c uZ RD hR L2 l2 Ke a Ju t7
    refine ⟨[some (.f,D8 nZ aZ),some (.f,RD),some (.d,dL L2),some (.f,.bl Ke),some (.f,.int a.1),some (.f,.str a.2.1),some (.f,.int a.2.2),t7],by unfold eA;simp only [↓pd,pv,seval],_,e,L3,KC,_,_,_,u7,l3,?_,rfl⟩
    rcases hd with ⟨rfl,rfl,hd⟩ | ⟨hd1,hd2⟩
    ·rcases hq with ⟨q1,rfl,q3⟩ | hq
     ·refine .inl ⟨q1,rfl,fun b hb h=>?_⟩
      rw [ht] at hb
      rcases j6 hb with hb | hb
      ·exact q3 b hb h
      ·rw [List.mem_singleton] at hb
       subst hb
       exact hd h
     ·exact .inr hq
    ·refine .inr ⟨hd2,?_⟩
     rcases hq with ⟨_,rfl,_⟩ | hq
     ·lia
     ·lia) _ ⟨L,false,t4,t5,t6,t7,l,.inl ⟨rfl,rfl,fun a ha=>by rw [List.take_zero] at ha;exact nomatch ha⟩,rfl⟩
   rw [List.take_length] at hq
   have hlen2:=l2.len
   refine ⟨_,(if Ke=true then 14 - L2.length else 0),?_,?_,L2,Ke,u4,u5,u6,u7,l2,?_,rfl,rfl⟩
   ·unfold dJ
    rw [av (env':=[some (.f,D8 nZ aZ),some (.f,RD),some (.d,dL L),some (.f,.bl false),t4,t5,t6,t7]) (by simp only [↓pd,pv,seval,op])]
    unfold gH
    unfold D8 at ef ⊢
    simp only [↓pd,pv,seval,op]
    exact ef
   ·rw [if_pos rfl]
    split
    ·rename_i h2
     rcases hq with ⟨h,_⟩ | hq
     ·rw [h] at h2
      cases h2
     ·lia
    ·lia
   ·intro h
    rcases hq with ⟨_,rfl,q⟩ | ⟨q,_⟩
    ·exact q
    ·rw [q] at h
     cases h) 100000 13 _ (by decide) ⟨[(0,0)],true,none,none,none,none,l0,(fun h=>nomatch h),rfl,rfl⟩
 rw [av (env':=_) (by
  unfold gI
  exact ew)]
 have hlen:=l.len
 have EW:∀ s:Int,0≤s→s < (many:Int)→s∈L.map (·.1):=by
  have key:∀ (k:Nat) (n:Nd),n∈N→n.2.length=k→n.1∈L.map (·.1):=by
   intro k
   induction k using Nat.strongRecOn with
   | _ k ih=>
    intro n hn hk
    rcases c.F.par n hn with rfl | ⟨a,ha,m,hm,e1,rfl⟩
    ·exact List.mem_map.mpr ⟨_,l.z,rfl⟩
    ·refine hclo a ha ?_
     rw [e1]
     exact ih m.2.length (by rw [←hk];show _ < (m.2++[a.2.1]).length;rw [iH,List.length_singleton];lia) m hm rfl
  intro s h0 h1
  obtain ⟨n,hn,rfl⟩:=mN (c.all s h0 h1)
  exact key _ n hn rfl
 have hLl:L.length=many:=by
  have:=pK ((List.range many).map fun (k:Nat)=>(k:Int)) (L.map (·.1)) (gQ _ _ fun i j _ _ e=>by lia) fun x hx=>by
   obtain ⟨k,hk,rfl⟩:=mN hx
   have:=List.mem_range.mp hk
   exact EW _ (by lia) (by lia)
  rw [bj,bj,List.length_range] at this
  lia
 have hk0:lk L 0=0:=yR l.nd l.z
 have key:=mV (a:=g8 3 (aG (aw 4) (aG (aw 5) (aG (aw 6) cB)))) (g:=dI) (e:=eA) (r:=(.f,.non)) (fun env=>∃ t4 t5 t6 t7,env=[some (.f,D8 nZ aZ),some (.f,RD),some (.d,dL L),some (.f,.bl false),t4,t5,t6,t7]) (fun a=>lk L a.2.2 == lk L a.1 + Gh nZ uZ a) aZ (by
  rintro a ha env ⟨t4,t5,t6,t7,rfl⟩
  have Ge:=c.hb a ha
  have hm:=c.nm a ha
  have EX:=lj hm
  have hr:=hR _ (List.idxOf_lt_length_of_mem hm)
  have g1:=Bu (EW a.1 Ge.1.1 Ge.1.2)
  have g2:=Bu (EW a.2.2 Ge.2.1 Ge.2.2)
  refine ⟨[some (.f,D8 nZ aZ),some (.f,RD),some (.d,dL L),some (.f,.bl false),some (.f,.int a.1),some (.f,.str a.2.1),some (.f,.int a.2.2),t7],by unfold eA;simp only [↓pd,pv,seval],?_⟩
  unfold dI
  have s1:(bE 7 (ay D3 (ao 1) (aj (rH jm (aj (ay D3 (ao 0) (aj (aH (.int 0))))) (ah (ao 5) aF))))) [some (.f,D8 nZ aZ),some (.f,RD),some (.d,dL L),some (.f,.bl false),some (.f,.int a.1),some (.f,.str a.2.1),some (.f,.int a.2.2),t7]=.ok (.nx [some (.f,D8 nZ aZ),some (.f,RD),some (.d,dL L),some (.f,.bl false),some (.f,.int a.1),some (.f,.str a.2.1),some (.f,.int a.2.2),some (.f,.int (Gh nZ uZ a))]):=by
   unfold D8 Gh
   simp only [↓pd,pv,seval,op,EX,hr]
  rw [av s1]
  cases hq:(lk L a.2.2 == lk L a.1 + Gh nZ uZ a) with
  | true=>
   rw [if_pos rfl]
   refine ⟨_,?_,some (.f,.int a.1),some (.f,.str a.2.1),some (.f,.int a.2.2),some (.f,.int (Gh nZ uZ a)),rfl⟩
   simp only [↓pd,pv,seval,op,g1,g2,hq,Bool.not_true,f9]
  | false=>
   rw [if_neg Bool.false_ne_true]
   simp only [↓pd,pv,seval,op,g1,g2,hq,Bool.not_false]) _ ⟨t4,t5,t6,t7,rfl⟩
 unfold f6
 cases hall2:aZ.all (fun a=>lk L a.2.2 == lk L a.1 + Gh nZ uZ a) with
 | true=>
  rw [hall2,if_pos rfl] at key
  obtain ⟨env',ef,u4,u5,u6,u7,rfl⟩:=key
  rw [List.all_eq_true] at hall2
  have Im:=c.pot uZ hl (lk L) (fun a ha=>by have:=hall2 a ha;exact beq_iff_eq.mp this)
  have Kx:aZ.all (Kd nZ N uZ)=true:=List.all_eq_true.mpr fun a ha=>by
   have Ge:=c.hb a ha
   have h1:=Im a.1 Ge.1.1 Ge.1.2
   have h2:=Im a.2.2 Ge.2.1 Ge.2.2
   have h3:=beq_iff_eq.mp (hall2 a ha)
   unfold Kd
   rw [beq_iff_eq]
   lia
  rw [Kx,if_pos rfl]
  rw [av (env':=_) (by
   unfold eJ
   unfold D8 at ef ⊢
   simp only [↓pd,pv,seval,op]
   exact ef)]
  have GQ:cH (aw 0) eS (ay GW (ao 1) (ao 0)) ((List.range many).map fun (k:Nat)=>D.int (k:Int)) [none,some (.f,dL L)]=.ok (((List.range many).map fun (s:Nat)=>th nZ N uZ (s:Int)).map D.int):=by
   rw [bF (r:=fun s:Nat=>D.int (th nZ N uZ (s:Int))) (fun env=>∃ t,env=[t,some (.f,dL L)]) (List.range many) ?_ _ ⟨none,rfl⟩]
   ·rw [List.map_map]
    rfl
   ·rintro s hs env ⟨t,rfl⟩
    have hs:=List.mem_range.mp hs
    have g:=Bu (EW (s:Int) (by lia) (by lia))
    have h1:=Im (s:Int) (by lia) (by lia)
    rw [hk0,Int.sub_zero] at h1
    rw [←h1] at g
    refine ⟨[some (.f,.int (s:Int)),some (.f,dL L)],rfl,.f,[some (.f,.int (s:Int)),some (.f,dL L)],?_,_,rfl⟩
    simp only [↓pd,pv,seval,op,g]
  have M7:(((List.range many).map fun (s:Nat)=>th nZ N uZ (s:Int)).map D.int).length≤sizeLine:=aX (by rw [bj,bj,List.length_range];lia)
  have M8:=DW ((List.range many).map fun (s:Nat)=>th nZ N uZ (s:Int))
  unfold fZ
  generalize (ay GW (ao 1) (ao 0))=GG at GQ ⊢
  unfold dL at GQ ⊢
  simp only [↓pd,pv,seval,op,bj]
  rw [if_pos (by lia)]
  simp only [↓pd,pv,seval,op,Int.toNat_natCast,hLl,GQ,M7,M8]
 | false=>
  rw [hall2,if_neg Bool.false_ne_true] at key
  have Kx:aZ.all (Kd nZ N uZ)=false:=by
   refine Bool.eq_false_iff.mpr fun h=>?_
   rw [List.all_eq_true] at h
   have hv:=l.pt (th nZ N uZ) (fun a ha=>by have:=h a ha;unfold Kd at this;exact beq_iff_eq.mp this) (c.th0 uZ)
   have Nr:∀ s:Int,0≤s→s < (many:Int)→lk L s=th nZ N uZ s:=fun s h0 h1=>by
    obtain ⟨z,hz,e⟩:=mN (EW s h0 h1)
    rw [←e,yR l.nd hz]
    exact hv z hz
   have:aZ.all (fun a=>lk L a.2.2 == lk L a.1 + Gh nZ uZ a)=true:=List.all_eq_true.mpr fun a ha=>by
    have Ge:=c.hb a ha
    have h3:=h a ha
    unfold Kd at h3
    rw [Nr a.1 Ge.1.1 Ge.1.2,Nr a.2.2 Ge.2.1 Ge.2.2]
    exact h3
   rw [hall2] at this
   cases this
  rw [Kx,if_neg Bool.false_ne_true,Ft]
  unfold eJ
  unfold D8 at key ⊢
  simp only [↓pd,pv,seval,op,key]
end
section
variable {nZ:Ei} {aZ:List DY} {many:Nat} {N:List Nd} {T:List DY}
theorem wN (x y:List Int) (k:Nat) (h1:k < x.length) (h2:k < y.length):(EI x y).getD k 0=x.getD k 0 - y.getD k 0:=by
 have e:(x.zip y)[k]?=some (x[k],y[k]):=List.getElem?_zip_eq_some.mpr ⟨jQ h1,jQ h2⟩
 unfold EI
 rw [List.getD_eq_getElem?_getD,List.getElem?_map,e,List.getD_eq_getElem?_getD,jQ h1,List.getD_eq_getElem?_getD,jQ h2]
 rfl
theorem vY (x y:List Int) (n:Nat) (h1:x.length=n) (h2:y.length=n):((List.range n).map fun k=>x.getD k 0 - y.getD k 0)=EI x y:=by
 refine List.ext_getElem? fun k=>?_
 rw [List.getElem?_map]
 by_cases hk:k < n
 ·have e:(x.zip y)[k]?=some (x[k],y[k]):=List.getElem?_zip_eq_some.mpr ⟨jQ (by lia),jQ (by lia)⟩
  unfold EI
  rw [List.getElem?_range hk,List.getElem?_map,e,Option.map_some,Option.map_some,List.getD_eq_getElem?_getD,jQ (by lia),List.getD_eq_getElem?_getD,jQ (by lia)]
  rfl
 ·rw [List.getElem?_eq_none (by rw [List.length_range];lia),List.getElem?_eq_none (by rw [mW (by lia)];lia)]
  rfl
theorem Ck.due (c:Ck nZ aZ many N T) (b:Int) (ts gs:List Int) (h1:ts.length=nZ.length) (h2:gs.length=nZ.length):dQ [D8 nZ aZ,ePl b ts gs]=.ok (.f,.bl (aZ.all (Il nZ (fun s=>b + th nZ N (EI gs ts) s) ts gs))):=by
 have NB:=c.n3
 have hm:=c.m1
 have Pc:=mW (x:=gs) (y:=ts) (by lia)
 have hc:cH (aw 0) eS (ay o7 (aj (ay D3 (aj (ay D3 (ao 1) (aj (aH (.int 2))))) (ao 0))) (aj (ay D3 (aj (ay D3 (ao 1) (aj (aH (.int 1))))) (ao 0)))) ((List.range nZ.length).map fun (k:Nat)=>D.int (k:Int)) [none,some (.f,ePl b ts gs)]=.ok ((EI gs ts).map D.int):=by
  rw [bF (r:=fun k:Nat=>D.int (gs.getD k 0 - ts.getD k 0)) (fun env=>∃ t,env=[t,some (.f,ePl b ts gs)]) (List.range nZ.length) ?_ _ ⟨none,rfl⟩]
  ·rw [←vY gs ts nZ.length h2 h1,List.map_map]
   rfl
  ·rintro k hk env ⟨t,rfl⟩
   have hk:=List.mem_range.mp hk
   have q1:EV (ts.map D.int) (k:Int)=some (.int (ts.getD k 0)):=fC (by lia)
   have q2:EV (gs.map D.int) (k:Int)=some (.int (gs.getD k 0)):=fC (by lia)
   refine ⟨[some (.f,.int (k:Int)),some (.f,ePl b ts gs)],rfl,.f,[some (.f,.int (k:Int)),some (.f,ePl b ts gs)],?_,_,rfl⟩
   unfold ePl
   simp only [↓pd,pv,seval,op,at2,q1,q2]
 have M7:((EI gs ts).map D.int).length≤sizeLine:=aX (by rw [bj];lia)
 have M8:=DW (EI gs ts)
 have Jh:=c.levels (EI gs ts) (by lia) (.lst ((EI gs ts).map D.int)) fun k hk=>by rw [AB,fC (by lia)]
 unfold dQ lT
 rw [bc (h:=by rfl)]
 rw [av (env':=[some (.f,D8 nZ aZ),some (.f,ePl b ts gs),some (.l .f,.lst ((EI gs ts).map D.int)),none,none,none,none]) (by
  unfold D8
  generalize (ay o7 (aj (ay D3 (aj (ay D3 (ao 1) (aj (aH (.int 2))))) (ao 0))) (aj (ay D3 (aj (ay D3 (ao 1) (aj (aH (.int 1))))) (ao 0))))=GG at hc ⊢
  simp only [↓pd,pv,seval,op,bj]
  rw [if_pos (by lia)]
  simp only [↓pd,pv,seval,op,Int.toNat_natCast,hc,M7,M8])]
 have Hk:∀ a∈aZ,Gh nZ (EI gs ts) a=gs.getD (nZ.idxOf a.2.1) 0 - ts.getD (nZ.idxOf a.2.1) 0:=fun a ha=>by
  have hk:=List.idxOf_lt_length_of_mem (c.nm a ha)
  exact wN gs ts _ (by lia) (by lia)
 cases Kx:aZ.all (Kd nZ N (EI gs ts)) with
 | false=>
  rw [Kx,if_neg Bool.false_ne_true] at Jh
  have hbad:aZ.all (Il nZ (fun s=>b + th nZ N (EI gs ts) s) ts gs)=false:=by
   obtain ⟨a,ha,hf⟩:=List.all_eq_false.mp Kx
   refine List.all_eq_false.mpr ⟨a,ha,fun h=>hf ?_⟩
   unfold Il at h
   rw [Bool.and_eq_true] at h
   have h:b + th nZ N (EI gs ts) a.2.2=b + th nZ N (EI gs ts) a.1 - ts.getD (nZ.idxOf a.2.1) 0 + gs.getD (nZ.idxOf a.2.1) 0:=beq_iff_eq.mp h.2
   unfold Kd
   rw [beq_iff_eq,Hk a ha]
   lia
  have LI:cy .non=true:=rfl
  have hisN:Kq .non .non=.ok (.f,.bl true):=id rfl
  rw [hbad]
  simp only [↓pd,pv,seval,op,Jh,LI,hisN]
 | true=>
  rw [Kx,if_pos rfl] at Jh
  have HM:=DW ((List.range many).map fun (s:Nat)=>th nZ N (EI gs ts) (s:Int))
  have Gq:∀ {s:Int},0≤s→s < (many:Int)→EV (((List.range many).map fun (s:Nat)=>th nZ N (EI gs ts) (s:Int)).map D.int) s=some (.int (th nZ N (EI gs ts) s)):=fun h0 h1=>mX (many:=many) (th nZ N (EI gs ts)) h0 h1
  generalize (((List.range many).map fun (s:Nat)=>th nZ N (EI gs ts) (s:Int)).map D.int)=TT at Jh HM Gq
  have hisL:Kq (.lst TT) .non=.ok (.f,.bl false):=id rfl
  rw [av (env':=[some (.f,D8 nZ aZ),some (.f,ePl b ts gs),some (.l .f,.lst ((EI gs ts).map D.int)),some (.l .f,.lst TT),none,none,none]) (by simp only [↓pd,pv,seval,op,Jh,HM])]
  rw [av (env':=[some (.f,D8 nZ aZ),some (.f,ePl b ts gs),some (.l .f,.lst ((EI gs ts).map D.int)),some (.l .f,.lst TT),none,none,none]) (by simp only [↓pd,pv,seval,op,hisL,f9])]
  have key:=mV (a:=g8 3 (aG (aw 4) (aG (aw 5) (aG (aw 6) cB)))) (g:=fL) (e:=eA) (r:=(.f,.bl false)) (fun env=>∃ t4 t5 t6,env=[some (.f,D8 nZ aZ),some (.f,ePl b ts gs),some (.l .f,.lst ((EI gs ts).map D.int)),some (.l .f,.lst TT),t4,t5,t6]) (Il nZ (fun s=>b + th nZ N (EI gs ts) s) ts gs) aZ (by
   rintro a ha env ⟨t4,t5,t6,rfl⟩
   have Ge:=c.hb a ha
   have ND:=c.nm a ha
   have EX:=lj ND
   have hk:=List.idxOf_lt_length_of_mem ND
   have b1:=Gq Ge.1.1 Ge.1.2
   have q1:EV (ts.map D.int) ((nZ.idxOf a.2.1:Nat):Int)=some (.int (ts.getD (nZ.idxOf a.2.1) 0)):=fC (by lia)
   have hp:=List.all_eq_true.mp Kx a ha
   unfold Kd at hp
   rw [beq_iff_eq,Hk a ha] at hp
   refine ⟨[some (.f,D8 nZ aZ),some (.f,ePl b ts gs),some (.l .f,.lst ((EI gs ts).map D.int)),some (.l .f,.lst TT),some (.f,.int a.1),some (.f,.str a.2.1),some (.f,.int a.2.2)],by unfold eA;simp only [↓pd,pv,seval],?_⟩
   unfold Il
   have e2:(b + th nZ N (EI gs ts) a.2.2 == b + th nZ N (EI gs ts) a.1 - ts.getD (nZ.idxOf a.2.1) 0 + gs.getD (nZ.idxOf a.2.1) 0)=true:=by
    rw [beq_iff_eq]
    lia
   dsimp only
   rw [e2,Bool.and_true]
   unfold fL D8 ePl
   by_cases h3:b + th nZ N (EI gs ts) a.1 < ts.getD (nZ.idxOf a.2.1) 0
   ·rw [decide_eq_true h3,Bool.not_true,if_neg Bool.false_ne_true]
    simp only [↓pd,pv,seval,op,b1,EX,q1,h3,decide_true]
   ·rw [decide_eq_false h3,Bool.not_false,if_pos rfl]
    refine ⟨_,?_,some (.f,.int a.1),some (.f,.str a.2.1),some (.f,.int a.2.2),rfl⟩
    simp only [↓pd,pv,seval,op,b1,EX,q1,h3,decide_false,f9]) _ ⟨none,none,none,rfl⟩
  cases EW:aZ.all (Il nZ (fun s=>b + th nZ N (EI gs ts) s) ts gs) with
  | true=>
   rw [EW,if_pos rfl] at key
   obtain ⟨env',ef,t4,t5,t6,rfl⟩:=key
   rw [av (env':=_) (by
    unfold gJ
    unfold D8 at ef ⊢
    simp only [↓pd,pv,seval,op]
    exact ef)]
   unfold i8
   simp only [↓pd,pv,seval,op]
  | false=>
   rw [EW,if_neg Bool.false_ne_true] at key
   rw [Ft]
   unfold gJ
   unfold D8 at key ⊢
   simp only [↓pd,pv,seval,op,key]
end
theorem p_other (b:Int) (ts gs:List Int) (cnt:Nat) (hc:cnt≤3) (h1:ts.length=cnt) (h2:gs.length=cnt) (nb Es:Int):∃ b' Kf Kg,Kf.length=cnt∧Kg.length=cnt∧m__law_other [ePl b ts gs,.int nb,.int Es]=.ok (.f,ePl b' Kf Kg):=by
 have Nz:vC (.int 10) (.int 50)=.ok (.f,.int (10 ^ 50)):=CZ 50 (by decide)
 have ms:=dO nb (1 + 2 * (cnt:Int)) (by lia)
 obtain ⟨sp,es⟩:=Int.eq_ofNat_of_zero_le ms.1
 unfold m__law_other jP
 rw [bc (h:=by rfl)]
 rw [av (env':=[some (.f,ePl b ts gs),some (.f,.int nb),some (.f,.int Es),some (.f,.int (sp:Int)),none,none,none]) (by
  unfold ePl
  simp only [↓pd,pv,seval,op,bj,h1,yU 2 (cnt:Int) (by decide),g6 nb (1 + 2 * (cnt:Int)) (by lia),es])]
 have m4:=dO (nb / 16) 4 (by decide)
 obtain ⟨q,eq⟩:=Int.eq_ofNat_of_zero_le m4.1
 have hq:q < 4:=by lia
 obtain ⟨mo,M4⟩:∃ mo:Int,EV [D.int 1,.int (-1),.int (Es % 10 ^ 50),.int (0 - Es % 10 ^ 50)] (q:Int)=some (.int mo):=by
  match q,hq with
  | 0,_=>exact ⟨1,rfl⟩
  | 1,_=>exact ⟨-1,rfl⟩
  | 2,_=>exact ⟨Es % 10 ^ 50,rfl⟩
  | 3,_=>exact ⟨0 - Es % 10 ^ 50,rfl⟩
  | q + 4,h=>lia
 have M0:=g6 Es (10 ^ 50) (by decide)
 generalize Es % 10 ^ 50=c5 at M4 M0
 generalize (10:Int) ^ 50=ten at Nz M0
 rw [av (env':=[some (.f,ePl b ts gs),some (.f,.int nb),some (.f,.int Es),some (.f,.int (sp:Int)),some (.f,.int mo),none,none]) (by simp only [↓pd,pv,↓reduceIte,Nat.reduceAdd,Nat.reduceLT,Nat.reduceLeDiff,Nat.reduceEqDiff,op,Nz,M0,eQ _ 16 (by decide) (by decide),g6 _ 4 (by decide),eq,M4])]
 have Ox:=mM [D.int b] (ts.map D.int)
 rw [if_pos (line_le (by rw [bj,List.length_singleton];lia))] at Ox
 have Jo:=mM ([D.int b]++ts.map D.int) (gs.map D.int)
 rw [if_pos (line_le (by rw [iH,bj,bj,List.length_singleton];lia))] at Jo
 have EW:[D.int b]++ts.map D.int++gs.map D.int=(b :: (ts++gs)).map D.int:=by
  rw [eX,List.map_append]
  rfl
 rw [EW] at Jo
 rw [List.cons_append,List.nil_append] at Ox Jo
 rw [av (env':=[some (.f,ePl b ts gs),some (.f,.int nb),some (.f,.int Es),some (.f,.int (sp:Int)),some (.f,.int mo),some (.l .f,.lst ((b :: (ts++gs)).map D.int)),none]) (by
  unfold ePl
  simp only [↓pd,pv,seval,op,at2,Ox,Jo])]
 have hlen:(b :: (ts++gs)).length=1 + 2 * cnt:=by
  rw [List.length_cons,iH]
  lia
 have Eu:sp < (b :: (ts++gs)).length:=by lia
 have Gq:=fC Eu
 have EX:=pE _ _ Eu
 generalize b :: (ts++gs)=nu at hlen Gq EX Eu
 rw [av (env':=[some (.f,ePl b ts gs),some (.f,.int nb),some (.f,.int Es),some (.f,.int (sp:Int)),some (.f,.int mo),some (.l .f,.lst ((nu.set sp (if 0 < nu.getD sp 0 + mo then nu.getD sp 0 + mo else 0)).map D.int)),none]) (by
  rw [List.map_set]
  simp only [↓pd,pv,seval,op,Gq,bj,EX])]
 have Oy:(nu.set sp (if 0 < nu.getD sp 0 + mo then nu.getD sp 0 + mo else 0)).length=1 + 2 * cnt:=by rw [List.length_set];exact hlen
 generalize nu.set sp (if 0 < nu.getD sp 0 + mo then nu.getD sp 0 + mo else 0)=nv at Oy
 rw [av (env':=[some (.f,ePl b ts gs),some (.f,.int nb),some (.f,.int Es),some (.f,.int (sp:Int)),some (.f,.int mo),some (.l .f,.lst (nv.map D.int)),some (.f,.int (cnt:Int))]) (by
  unfold ePl
  simp only [↓pd,pv,seval,op,bj,h1])]
 have c1:gu (nv.map D.int) (some 1) (some (1 + (cnt:Int)))=(((nv.drop 1).take cnt)).map D.int:=by
  rw [pF]
  have:=uh nv 1 (1 + cnt) (by lia) (by lia)
  rw [show ((1 + cnt:Nat):Int)=1 + (cnt:Int) by lia] at this
  rw [show (some (1:Int))=some ((1:Nat):Int) from rfl,this,show 1 + cnt - 1=cnt by lia]
 have c2:gu (nv.map D.int) (some (1 + (cnt:Int))) none=(nv.drop (1 + cnt)).map D.int:=by
  rw [pF,show 1 + (cnt:Int)=((1 + cnt:Nat):Int) by lia,qx]
 have a0:EV (nv.map D.int) 0=some (.int (nv.getD 0 0)):=fC (k:=0) (by lia)
 refine ⟨nv.getD 0 0,(nv.drop 1).take cnt,nv.drop (1 + cnt),by rw [List.length_take,List.length_drop];lia,by rw [List.length_drop];lia,?_⟩
 unfold ePl
 simp only [↓pd,pv,seval,op,a0,c1,c2]
theorem getD_of {α:Type} {l:List α} {i:Nat} {x d:α} (h:l[i]?=some x):l.getD i d=x:=by
 rw [List.getD_eq_getElem?_getD,h]
 rfl
noncomputable def fO (S:List (List Int)) (j:Nat) (s:Int):Int:=(S.getD s.toNat []).getD j 0
structure Ok (nZ:Ei) (aZ:List DY) (many:Nat) (f:Int→Int) (p:Pl):Prop where
 po:Ik p nZ.length
 fire:∀ a∈aZ,¬ f a.1 < p.2.1.getD (nZ.idxOf a.2.1) 0∧f a.2.2=f a.1 - p.2.1.getD (nZ.idxOf a.2.1) 0 + p.2.2.getD (nZ.idxOf a.2.1) 0
theorem Nt.ok {nZ:Ei} {ps:List Pl} {S:List (List Int)} {A:List DY} (n:Nt nZ ps S A) {j:Nat} {p:Pl} (hj:ps[j]?=some p):Ok nZ (bz cM A) S.length (fO S j) p:=by
 obtain ⟨m,r⟩:=n.rm
 refine ⟨n.po p (List.mem_of_getElem? hj),fun a ha=>?_⟩
 obtain ⟨_,i,i',_,e1,e2,s,t,hs,ht,hf⟩:=r.ab a ((lg cM).mp ha)
 have Eu:j < s.length:=by
  rw [r.ln s (List.mem_of_getElem? hs)]
  exact (jv hj).1
 obtain ⟨h1,h2⟩:=mR _ hf (show (s.zip ps)[j]?=some (s[j],p) from List.getElem?_zip_eq_some.mpr ⟨jQ Eu,hj⟩)
 have f1:fO S j a.1=s[j]:=by
  unfold fO
  rw [e1,Int.toNat_natCast,getD_of hs,getD_of (jQ Eu)]
 have f2:fO S j a.2.2=s[j] - p.2.1.getD (nZ.idxOf a.2.1) 0 + p.2.2.getD (nZ.idxOf a.2.1) 0:=by
  unfold fO
  rw [e2,Int.toNat_natCast,getD_of ht,getD_of h2]
 rw [f1,f2]
 exact ⟨h1,rfl⟩
theorem vZ (nZ:Ei) (aZ:List DY):plainD 40 (D8 nZ aZ)=true:=by
 unfold D8
 rw [plainD,plainDs,plainD,ju,plainDs,plainD,jw 35 aZ]
 rfl
theorem Nt.f0 {nZ:Ei} {ps:List Pl} {S:List (List Int)} {A:List DY} (n:Nt nZ ps S A) {j:Nat} {p:Pl} (hj:ps[j]?=some p):fO S j 0=p.1:=by
 obtain ⟨m,r⟩:=n.rm
 unfold fO
 rw [show (0:Int).toNat=0 from rfl,getD_of r.z]
 exact getD_of (by rw [List.getElem?_map,hj];rfl)
theorem Nt.goes {nZ:Ei} {ps:List Pl} {S:List (List Int)} {A:List DY} (n:Nt nZ ps S A) {N:List Nd} {T:List DY} (c:Ck nZ (bz cM A) S.length N T) {j:Nat} {p:Pl} (hj:ps[j]?=some p):dC [D8 nZ (bz cM A),ePl p.1 p.2.1 p.2.2]=.ok (.f,.bl true):=by
 have o:=n.ok hj
 have h1:=o.po.1
 have h2:=o.po.2
 have NB:=c.n3
 have Pc:=mW (x:=p.2.2) (y:=p.2.1) (by lia)
 have Im:=c.pot (EI p.2.2 p.2.1) (by lia) (fO S j) fun a ha=>by
  have hk:=List.idxOf_lt_length_of_mem (c.nm a ha)
  rw [wN _ _ _ (by lia) (by lia),(o.fire a ha).2]
  lia
 have hf0:=n.f0 hj
 rw [c.lets_go p.1 p.2.1 p.2.2 h1 h2 _ rfl]
 have:(bz cM A).all (Il nZ (fun s=>p.1 + th nZ N (EI p.2.2 p.2.1) s) p.2.1 p.2.2)=true:=List.all_eq_true.mpr fun a ha=>by
  have hb:=c.hb a ha
  have q1:=Im a.1 hb.1.1 hb.1.2
  have q2:=Im a.2.2 hb.2.1 hb.2.2
  have q3:=o.fire a ha
  unfold Il
  dsimp only
  rw [Bool.and_eq_true,beq_iff_eq]
  refine ⟨?_,by lia⟩
  rw [decide_eq_false (by lia)]
  rfl
 rw [this]
theorem Bm {nZ:Ei} {aZ:List DY} {many:Nat} {N:List Nd} {T:List DY} (c:Ck nZ aZ many N T) (ns:List Int) (ps:List Pl) (Eb:List DY) (b:Int) (ts gs:List Int) (h1:ts.length=nZ.length) (h2:gs.length=nZ.length) (t5 t6 t7 t8 Io:Option R):∃ LK,mF [some (.f,.lst (ns.map D.int)),some (.f,eN nZ ps),some (.f,.lst (Eb.map eA)),some (.f,D8 nZ aZ),some (.f,D8 nZ aZ),t5,t6,t7,t8,some (.f,ePl b ts gs),Io]=.ok (.nx [some (.f,.lst (ns.map D.int)),some (.f,eN nZ ps),some (.f,.lst (Eb.map eA)),some (.f,D8 nZ aZ),some (.f,D8 nZ aZ),t5,t6,t7,t8,some (.f,ePl b ts gs),LK]):=by
 have hl:=c.lets_go b ts gs h1 h2 _ rfl
 have hd:=c.due b ts gs h1 h2
 generalize aZ.all (Il nZ (fun s=>b + th nZ N (EI gs ts) s) ts gs)=bb at hl hd
 have IA:=um (.bl bb) rfl
 refine ⟨some (.f,.bl bb),?_⟩
 unfold mF
 rw [av (env':=[some (.f,.lst (ns.map D.int)),some (.f,eN nZ ps),some (.f,.lst (Eb.map eA)),some (.f,D8 nZ aZ),some (.f,D8 nZ aZ),t5,t6,t7,t8,some (.f,ePl b ts gs),some (.f,.bl bb)]) (by simp only [↓pd,pv,seval,op,hl])]
 simp only [↓pd,pv,seval,op,isB,hd,IA,Bool.not_true,f9]
theorem CN (ns:List Int) {nZ:Ei} {ps:List Pl} {S:List (List Int)} {A aZ:List DY} {many:Nat} {N N0:List Nd} {T T0:List DY} (n:Nt nZ ps S A) (c0:Ck nZ (bz cM A) S.length N0 T0) (c:Ck nZ aZ many N T) (Eb:List DY) (e0:Eb=bz cM A) (j:Nat) (hj:j < ps.length) (t6 t7 t8 t9 Io:Option R) :
  ∃ u6 u7 u8 u9 LK,j4 [some (.f,.lst (ns.map D.int)),some (.f,eN nZ ps),some (.f,.lst (Eb.map eA)),some (.f,D8 nZ aZ),some (.f,D8 nZ aZ),some (.f,.int (j:Int)),t6,t7,t8,t9,Io]=.ok (.nx [some (.f,.lst (ns.map D.int)),some (.f,eN nZ ps),some (.f,.lst (Eb.map eA)),some (.f,D8 nZ aZ),some (.f,D8 nZ aZ),some (.f,.int (j:Int)),u6,u7,u8,u9,LK]):=by
 have hp9:=n.p9
 obtain ⟨p,hp⟩:∃ p,ps[j]?=some p:=⟨ps[j],jQ hj⟩
 have Kv:=n.po p (List.mem_of_getElem? hp)
 have Oz:=n.goes c0 hp
 rw [←e0] at Oz
 have c2:=jc ns (2 + j)
 rw [show ((2 + j:Nat):Int)=2 + (j:Int) by lia] at c2
 have Pj:=jc ns (11 + j)
 rw [show ((11 + j:Nat):Int)=11 + (j:Int) by lia] at Pj
 have Ij:=lh (cell ns (2 + j)) 21 (by decide) (by decide)
 generalize uz (cell ns (2 + j)) 21=x at Ij
 obtain ⟨b',Kf,Kg,l1,l2,eo⟩:=p_other p.1 p.2.1 p.2.2 nZ.length n.n3 Kv.1 Kv.2 x (cell ns (11 + j))
 have hold:EV (ps.map eP) (j:Int)=some (ePl p.1 p.2.1 p.2.2):=dX (by rw [List.getElem?_map,hp];rfl)
 have LH:∀ (b:Int) (ts gs:List Int),cy (ePl b ts gs)=true:=fun b ts gs=>by
  unfold ePl
  rw [cw]
  simp only [flatDs,cw,DW,ja]
  rfl
 unfold j4
 rw [av (env':=[some (.f,.lst (ns.map D.int)),some (.f,eN nZ ps),some (.f,.lst (Eb.map eA)),some (.f,D8 nZ aZ),some (.f,D8 nZ aZ),some (.f,.int (j:Int)),some (.f,ePl p.1 p.2.1 p.2.2),t7,t8,t9,Io]) (by
  unfold eN
  simp only [↓pd,pv,seval,op,hold])]
 rw [av (env':=[some (.f,.lst (ns.map D.int)),some (.f,eN nZ ps),some (.f,.lst (Eb.map eA)),some (.f,D8 nZ aZ),some (.f,D8 nZ aZ),some (.f,.int (j:Int)),some (.f,ePl p.1 p.2.1 p.2.2),some (.f,.int x),t8,t9,Io]) (by simp only [↓pd,pv,seval,op,c2,Ij])]
 rw [av (env':=[some (.f,.lst (ns.map D.int)),some (.f,eN nZ ps),some (.f,.lst (Eb.map eA)),some (.f,D8 nZ aZ),some (.f,D8 nZ aZ),some (.f,.int (j:Int)),some (.f,ePl p.1 p.2.1 p.2.2),some (.f,.int x),t8,t9,Io]) (by
  unfold eN
  unfold D8 at Oz ⊢
  simp only [↓pd,pv,seval,op,Oz,beq_self_eq_true,Bool.not_true,f9])]
 rw [av (env':=[some (.f,.lst (ns.map D.int)),some (.f,eN nZ ps),some (.f,.lst (Eb.map eA)),some (.f,D8 nZ aZ),some (.f,D8 nZ aZ),some (.f,.int (j:Int)),some (.f,ePl p.1 p.2.1 p.2.2),some (.f,.int x),some (.f,ePl b' Kf Kg),t9,Io]) (by simp only [↓pd,pv,seval,op,Pj,eo,LH])]
 obtain ⟨LK,e1⟩:=Bm c ns ps Eb p.1 p.2.1 p.2.2 Kv.1 Kv.2 (some (.f,.int (j:Int))) (some (.f,ePl p.1 p.2.1 p.2.2)) (some (.f,.int x)) (some (.f,ePl b' Kf Kg)) Io
 obtain ⟨v10,e2⟩:=Bm c ns ps Eb b' Kf Kg l1 l2 (some (.f,.int (j:Int))) (some (.f,ePl p.1 p.2.1 p.2.2)) (some (.f,.int x)) (some (.f,ePl b' Kf Kg)) LK
 refine ⟨some (.f,ePl p.1 p.2.1 p.2.2),some (.f,.int x),some (.f,ePl b' Kf Kg),some (.f,ePl b' Kf Kg),v10,?_⟩
 unfold tX
 simp only [↓pd,pv,seval,op,e1,e2]
theorem uI:∀ ns:List Int,ns.length≤63→∃ o,yh [.lst (ns.map D.int)]=.ok (o,.bl true):=by
 intro ns _
 obtain ⟨nZ,ps,S,A,n,en,er⟩:=CJ ns 5
 have en:di [.lst (ns.map D.int),.int 5]=.ok (.f,eN nZ ps):=en
 have NB:=n.n3
 have hp9:=n.p9
 obtain ⟨N0,T0,c0⟩:=n.ra.sort.ck n.nn (by lia)
 obtain ⟨K,many,ra,eb⟩:=oQ ns 2 (by decide) n er
 have eb:aW [.lst (ns.map D.int),eN nZ ps,.int 2]=.ok (.f,D8 nZ (bz cM K)):=eb
 have Oy:=fun aZ many N T (c:Ck nZ aZ many N T) Eb e0=>CN ns n c0 c Eb e0
 have c1:aE [.lst (ns.map D.int),.int 1]=.ok (.f,.int (cell ns 1)):=jc ns 1
 obtain ⟨Eb,e0⟩:∃ Eb,Eb=bz cM A:=⟨_,rfl⟩
 rw [←e0] at er
 have Ka:∀ (x y:List D),flatDs [.lst x,.lst y]=false:=fun _ _=>rfl
 unfold yh Ao
 rw [bc (h:=by rfl)]
 rw [av (env':=[some (.f,.lst (ns.map D.int)),some (.f,eN nZ ps),none,none,none,none,none,none,none,none,none]) (by
  simp only [↓pd,pv,seval,op,en]
  cases cy (eN nZ ps) <;> rfl)]
 rw [av (env':=[some (.f,.lst (ns.map D.int)),some (.f,eN nZ ps),some (.f,.lst (Eb.map eA)),none,none,none,none,none,none,none,none]) (by simp only [↓pd,pv,seval,op,er,Ka,f9,Bs,Bt])]
 rw [av (env':=[some (.f,.lst (ns.map D.int)),some (.f,eN nZ ps),some (.f,.lst (Eb.map eA)),some (.f,D8 nZ Eb),none,none,none,none,none,none,none]) (by
  unfold eN D8
  simp only [↓pd,pv,seval,op])]
 obtain ⟨aZ,many,N,T,c,s3⟩:∃ aZ many N T,Ck nZ aZ many N T∧(Fs (EA (bR F1 (aj (ay eZ (aj (ay dw (aj (c7 aE (ah (ao 0) (ah (aj (aH (.int 1))) aF)))) (aj (aH (.int 256))))) (aj (aH (.int 2))))) (aj (aH (.int 1)))))
  (bE 3 (c7 aW (ah (ao 0) (ah (ao 1) (ah (aj (aH (.int 2))) aF)))))
  cR) [some (.f,.lst (ns.map D.int)),some (.f,eN nZ ps),some (.f,.lst (Eb.map eA)),some (.f,D8 nZ Eb),none,none,none,none,none,none,none]=.ok (.nx [some (.f,.lst (ns.map D.int)),some (.f,eN nZ ps),some (.f,.lst (Eb.map eA)),some (.f,D8 nZ aZ),none,none,none,none,none,none,none]):=by
  cases h:(cell ns 1 / 256 % 2 == 1) with
  | false=>
   refine ⟨Eb,S.length,N0,T0,by rw [e0];exact c0,?_⟩
   simp only [↓pd,pv,seval,op,c1,eQ _ 256 (by decide) (by decide),g6 _ 2 (by decide),h,f9]
  | true=>
   obtain ⟨N,T,c⟩:=ra.sort.ck n.nn (by lia)
   refine ⟨bz cM K,many,N,T,c,?_⟩
   simp only [↓pd,pv,seval,op,c1,eQ _ 256 (by decide) (by decide),g6 _ 2 (by decide),h,eb]
   cases cy (D8 nZ (bz cM K)) <;> rfl
 rw [av s3]
 rw [av (env':=[some (.f,.lst (ns.map D.int)),some (.f,eN nZ ps),some (.f,.lst (Eb.map eA)),some (.f,D8 nZ aZ),some (.f,D8 nZ aZ),none,none,none,none,none,none]) (by
  unfold D8
  simp only [↓pd,pv,seval,op])]
 obtain ⟨env',ef,t5,t6,t7,t8,t9,Io,rfl⟩:=k7 (a:=aw 5) (g:=j4) (e:=fun k=>D.int (k:Int)) ps.length (fun i env=>∃ t5 t6 t7 t8 t9 Io,env=[some (.f,.lst (ns.map D.int)),some (.f,eN nZ ps),some (.f,.lst (Eb.map eA)),some (.f,D8 nZ aZ),some (.f,D8 nZ aZ),t5,t6,t7,t8,t9,Io]) (by
  rintro j env hj ⟨t5,t6,t7,t8,t9,Io,rfl⟩
  obtain ⟨u6,u7,u8,u9,LK,e⟩:=Oy aZ many N T c Eb e0 j hj t6 t7 t8 t9 Io
  exact ⟨_,rfl,_,e,_,_,_,_,_,_,rfl⟩) _ ⟨none,none,none,none,none,none,rfl⟩
 rw [av (env':=_) (by
  unfold tY
  unfold eN at ef ⊢
  simp only [↓pd,pv,seval,op,bj]
  rw [if_pos (by lia)]
  simp only [↓pd,pv,seval,op,Int.toNat_natCast]
  exact ef)]
 unfold qv
 have hee:=uk _ (vZ nZ aZ)
 exact ⟨.f,by simp only [↓pd,pv,seval,op,hee]⟩
end LW
namespace FIN
open PySem PySem.Spec PyProof.Rows L2 NX PV LW
theorem Bn {l:PySem.W.OpenLaw} {w:World} {K:W.Frag} {h:Heap} {mg:Str→Option Value} {fa f:Addr} {od an:Option Addr} {sl:Array (Option Value)} {oc kV dc pm cd ct:Value} (X:K.In h) (G:h.Ns mainGlobals mg) (hfa:mg "law" = some (.ref fa))
  (aL:PySem.W.nsIn K mainGlobals "law" = some (some (.ref f))) (lL:K.lookup f=some ⟨oc,od,.func (PySem.W.fnOf "law" "law" (gj mL) (dY mL) (defScope mL) .none kV dc pm an cd ct),sl⟩) (cL:PySem.W.codeIn K cd "law" = true) (kL:PySem.W.keepIn K (.ref f)=true)
  (FR:Def K mg "product" kS) (HC:Def K mg "less" tZ) (Fb:Def K mg "states_of" iA) (FU:Def K mg "tree_of" kU) (FV:Def K mg "ways_of" kW) (FW:Def K mg "counted" kX) (Fc:Def K mg "counts_of" iC) (EL:Def K mg "place_beads" fM) (FY:Def K mg "lets_go" kY) (EH:Def K mg "_law_cell_at" fe) (E2:Def K mg "_law_mixed" gK) (E3:Def K mg "_law_names" gL) (Fd:Def K mg "_law_step" iE) (Fu:Def K mg "_law_run" jo) (Fe:Def K mg "_law_fold" iF) (E4:Def K mg "_law_place" gM) (EM:Def K mg "_law_scaled" fP) (EN:Def K mg "_law_places" fQ) (E5:Def K mg "_law_moves" gN) (Fv:Def K mg "_law_net" jq) (EO:Def K mg "_law_tidied" fR) (Ff:Def K mg "_law_bent" iG) (Eo:Def K mg "_law_bent_chart" dm) (ER:Def K mg "_law_levels" fS) (Fw:Def K mg "_law_due" jr) (E6:Def K mg "_law_other" gO)
  (Ga:PySem.W.nsIn K mainGlobals "bool" = some none) (En:PySem.W.nsIn K mainGlobals "isinstance" = some none) (Ed:PySem.W.nsIn K mainGlobals "len" = some none) (EZ:PySem.W.nsIn K mainGlobals "list" = some none) (EJ:PySem.W.nsIn K mainGlobals "max" = some none) (Ha:PySem.W.nsIn K mainGlobals "min" = some none) (D5:PySem.W.nsIn K mainGlobals "range" = some none) (El:PySem.W.nsIn K mainGlobals "sorted" = some none) (GX:PySem.W.nsIn K mainGlobals "sum" = some none) (D4:PySem.W.nsIn K mainGlobals "tuple" = some none) (FD:PySem.W.nsIn K mainGlobals "zip" = some none) :
  ∃ fd:FuncData,(∀ (s:Shared) (v:Value),BindsTo s fd ⟨[v],[]⟩ [("_law_script",v)])∧∀ base:Heap,K.In base→base.Ns mainGlobals mg→FnOk l.prog w K mg base IJ 6 fa fd ["_law_script"] (vF K):=by
 have e:=hfa.symm.trans (PySem.W.mg_of X G aL)
 cases e
 have F:=wb (st:=mL) lL cL kL
 have y_bool:=PySem.W.mg_none_of X G Ga
 have GK:=PySem.W.mg_none_of X G En
 have Fo:=PySem.W.mg_none_of X G Ed
 have Ji:=PySem.W.mg_none_of X G EZ
 have HP:=PySem.W.mg_none_of X G EJ
 have M9:=PySem.W.mg_none_of X G Ha
 have EB:=PySem.W.mg_none_of X G D5
 have Gf:=PySem.W.mg_none_of X G El
 have Na:=PySem.W.mg_none_of X G GX
 have EK:=PySem.W.mg_none_of X G D4
 have Jj:=PySem.W.mg_none_of X G FD
 refine ⟨PySem.W.fnOf "law" "law" (gj mL) (dY mL) (defScope mL) .none kV dc pm an cd ct,fun s v=>.of_eq rfl,fun base _ _=>?_⟩
 have Ip:Ct l.prog w K mg base "product" 1 (spF K dB):=rh FR Na Jj
 have Lr:Ct l.prog w K mg base "less" 1 (spF K kI):=yk HC EK Jj
 have Hd:Ct l.prog w K mg base "states_of" 1 (spF K dg):=oD Fb HP
 have Iq:Ct l.prog w K mg base "tree_of" 1 (spF K eC):=rj FU Fo
 have Ir:Ct l.prog w K mg base "ways_of" 2 (spF K eD):=rl FV Hd Iq EB
 have Iu:Ct l.prog w K mg base "counted" 1 (spF K eE):=rq FW EK
 have He:Ct l.prog w K mg base "counts_of" 3 (spF K cI):=oF Fc Iu Ir
 have Gs:Ct l.prog w K mg base "place_beads" 4 (spF K cq):=ly EL He Lr Ip
 have Iv:Ct l.prog w K mg base "lets_go" 5 (spF K dC):=rA FY Gs
 have Ep:Ct l.prog w K mg base "_law_cell_at" 1 (spF K aE):=k4 EH Fo
 have Er:Ct l.prog w K mg base "_law_mixed" 1 (spF K aR):=mG E2
 have GL:Ct l.prog w K mg base "_law_names" 2 (spF K cO):=mH E3 Er EB Gf
 have Hf:Ct l.prog w K mg base "_law_step" 1 (spF K cJ):=oG Fd EK Jj
 have Fx:Ct l.prog w K mg base "_law_run" 2 (spF K br):=pw Fu Hf Fo Gf EK
 have Hg:Ct l.prog w K mg base "_law_fold" 2 (spF K dh):=oH Fe Er
 have GN:Ct l.prog w K mg base "_law_place" 2 (spF K cP):=mI E4 Er HP EB
 have Gu:Ct l.prog w K mg base "_law_scaled" 1 (spF K bY):=lz EM EK
 have Gv:Ct l.prog w K mg base "_law_places" 3 (spF K cu):=lA EN Ep Hg GN Gu EB
 have GO:Ct l.prog w K mg base "_law_moves" 3 (spF K cQ):=mJ E5 Ep GL EK
 have HD:Ct l.prog w K mg base "_law_net" 4 (spF K di):=px Fv GO Gv Fx Fo EK
 have Gw:Ct l.prog w K mg base "_law_tidied" 1 (spF K bZ):=lB EO Fo Gf
 have Hh:Ct l.prog w K mg base "_law_bent" 1 (spF K dj):=oI Ff Fo HP M9 EB
 have FK:Ct l.prog w K mg base "_law_bent_chart" 3 (spF K aW):=i9 Eo Hh Ep Er Fx Gw EB
 have Gx:Ct l.prog w K mg base "_law_levels" 1 (spF K cv):=lC ER Fo EB
 have HE:Ct l.prog w K mg base "_law_due" 2 (spF K dQ):=pA Fw Gx Fo EB
 have GP:Ct l.prog w K mg base "_law_other" 1 (spF K m__law_other):=mK E6 Fo Ji HP EK
 exact (Ap F FK Ep HE Er HD GP Fx Iv y_bool GK Fo Ji EB).imp (Ab uI)
end FIN
open PySem PySem.W PyProof.Rows
set_option maxRecDepth 100000 in
set_option maxHeartbeats 0 in
theorem PySem.Challenge.cw_netfinder_k50_places_that_let_go_holds : PySem.Challenge.rw_netfinder_k50_places_that_let_go.Holds := by
  w_on; o_law; k_head; (case hw => w_witness2)
  k_fill
  refine PV.DE (l := PySem.Challenge.rw_netfinder_k50_places_that_let_go) (k := 6) (x := "_law_script") rfl rfl ⟨rfl, by decide, by decide⟩ (fun w h Y => PySem.W.kIn_of Y) ?F
  case F =>
    intro w mg fa h KX G LX
    refine' FIN.Bn KX G LX ?aL ?lL ?cL ?kL ?FR ?HC ?Fb ?FU ?FV ?FW ?Fc ?EL ?FY ?EH ?E2 ?E3 ?Fd ?Fu ?Fe ?E4 ?EM ?EN ?E5 ?Fv ?EO ?Ff ?Eo ?ER ?Fw ?E6 ?Ga ?En ?Ed ?EZ ?EJ ?Ha ?D5 ?El ?GX ?D4 ?FD
    (case aL => k_is); (case lL => k_is); (case cL => k_is); (case kL => k_is)
    (case FR => (refine' PV.bV KX G ?a ?l ?c ?k; (case a => k_is); (case l => k_is); (case c => k_is); (case k => k_is)))
    (case HC => (refine' PV.bV KX G ?a ?l ?c ?k; (case a => k_is); (case l => k_is); (case c => k_is); (case k => k_is)))
    (case Fb => (refine' PV.bV KX G ?a ?l ?c ?k; (case a => k_is); (case l => k_is); (case c => k_is); (case k => k_is)))
    (case FU => (refine' PV.bV KX G ?a ?l ?c ?k; (case a => k_is); (case l => k_is); (case c => k_is); (case k => k_is)))
    (case FV => (refine' PV.bV KX G ?a ?l ?c ?k; (case a => k_is); (case l => k_is); (case c => k_is); (case k => k_is)))
    (case FW => (refine' PV.bV KX G ?a ?l ?c ?k; (case a => k_is); (case l => k_is); (case c => k_is); (case k => k_is)))
    (case Fc => (refine' PV.bV KX G ?a ?l ?c ?k; (case a => k_is); (case l => k_is); (case c => k_is); (case k => k_is)))
    (case EL => (refine' PV.bV KX G ?a ?l ?c ?k; (case a => k_is); (case l => k_is); (case c => k_is); (case k => k_is)))
    (case FY => (refine' PV.bV KX G ?a ?l ?c ?k; (case a => k_is); (case l => k_is); (case c => k_is); (case k => k_is)))
    (case EH => (refine' PV.bV KX G ?a ?l ?c ?k; (case a => k_is); (case l => k_is); (case c => k_is); (case k => k_is)))
    (case E2 => (refine' PV.bV KX G ?a ?l ?c ?k; (case a => k_is); (case l => k_is); (case c => k_is); (case k => k_is)))
    (case E3 => (refine' PV.bV KX G ?a ?l ?c ?k; (case a => k_is); (case l => k_is); (case c => k_is); (case k => k_is)))
    (case Fd => (refine' PV.bV KX G ?a ?l ?c ?k; (case a => k_is); (case l => k_is); (case c => k_is); (case k => k_is)))
    (case Fu => (refine' PV.bV KX G ?a ?l ?c ?k; (case a => k_is); (case l => k_is); (case c => k_is); (case k => k_is)))
    (case Fe => (refine' PV.bV KX G ?a ?l ?c ?k; (case a => k_is); (case l => k_is); (case c => k_is); (case k => k_is)))
    (case E4 => (refine' PV.bV KX G ?a ?l ?c ?k; (case a => k_is); (case l => k_is); (case c => k_is); (case k => k_is)))
    (case EM => (refine' PV.bV KX G ?a ?l ?c ?k; (case a => k_is); (case l => k_is); (case c => k_is); (case k => k_is)))
    (case EN => (refine' PV.bV KX G ?a ?l ?c ?k; (case a => k_is); (case l => k_is); (case c => k_is); (case k => k_is)))
    (case E5 => (refine' PV.bV KX G ?a ?l ?c ?k; (case a => k_is); (case l => k_is); (case c => k_is); (case k => k_is)))
    (case Fv => (refine' PV.bV KX G ?a ?l ?c ?k; (case a => k_is); (case l => k_is); (case c => k_is); (case k => k_is)))
    (case EO => (refine' PV.bV KX G ?a ?l ?c ?k; (case a => k_is); (case l => k_is); (case c => k_is); (case k => k_is)))
    (case Ff => (refine' PV.bV KX G ?a ?l ?c ?k; (case a => k_is); (case l => k_is); (case c => k_is); (case k => k_is)))
    (case Eo => (refine' PV.bV KX G ?a ?l ?c ?k; (case a => k_is); (case l => k_is); (case c => k_is); (case k => k_is)))
    (case ER => (refine' PV.bV KX G ?a ?l ?c ?k; (case a => k_is); (case l => k_is); (case c => k_is); (case k => k_is)))
    (case Fw => (refine' PV.bV KX G ?a ?l ?c ?k; (case a => k_is); (case l => k_is); (case c => k_is); (case k => k_is)))
    (case E6 => (refine' PV.bV KX G ?a ?l ?c ?k; (case a => k_is); (case l => k_is); (case c => k_is); (case k => k_is)))
    (case Ga => k_is)
    (case En => k_is)
    (case Ed => k_is)
    (case EZ => k_is)
    (case EJ => k_is)
    (case Ha => k_is)
    (case D5 => k_is)
    (case El => k_is)
    (case GX => k_is)
    (case D4 => k_is)
    (case FD => k_is)
