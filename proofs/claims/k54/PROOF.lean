import PyProof.Rows.All
import Wide.All
import OpenK.AllK
import Wide.FinOn
import Lean
import PyProof.EqAt
import PyProof.EqKinds
import PyProof.TupleCall
import PySem.Challenge.RW_netfinder_k54_stretches_put_together
set_option Elab.async false
set_option linter.all false
set_option maxRecDepth 100000
set_option compiler.extract_closed false
set_option bootstrap.genMatcherCode false
noncomputable section
namespace L2
open PySem PySem.Spec PyProof.Rows
def IsTupN (h:Heap) (a:Addr) (items:Array Value):Prop:=∃ o,h.get? a=some o/\o.cls=.type "tuple"/\(∃ n,o.data=.seq items n)/\o.dict=none
theorem IsTupN.tup {h:Heap} {a:Addr} {items:Array Value} (p:IsTupN h a items):IsTup h a items:=by
 obtain ⟨o,e,c,n,_⟩:=p
 exact ⟨o,e,c,n⟩
theorem IsTupN.new (h:Heap) (items:Array Value):IsTupN (h.push { cls:=.type "tuple",data:=.seq items }) h.objs.size items:=⟨_,Heap.get?_push_size _ rfl,rfl,⟨_,rfl⟩,rfl⟩
abbrev Key:=Sum Int Str
noncomputable def su:Key->Value->Bool
 | .inl k,v=>Value.isInt k v
 | .inr x,v=>Value.isStrOf x v
noncomputable def EJ (w:World):Key->Int
 | .inl k=>hashInt k
 | .inr x=>hashStr w x
theorem cw:∀ {k:Key} {v:Value},su k v=true->(∃ i t,k=Sum.inl i/\v=Value.int i t)\/(∃ x t,k=Sum.inr x/\v=Value.str x t)
 | .inl i,v,h=>by
  obtain ⟨t,e⟩:=Value.isInt_shape (k:=i) (v:=v) h
  exact .inl ⟨i,t,rfl,e⟩
 | .inr x,v,h=>by
  obtain ⟨t,e⟩:=Value.isStrOf_shape (x:=x) (v:=v) h
  exact .inr ⟨x,t,rfl,e⟩
theorem tR (i:Int) (t:Tok):su (.inl i) (.int i t)=true:=by simp [su,Value.isInt]
theorem tS (x:Str) (t:Tok):su (.inr x) (.str x t)=true:=by simp [su,Value.isStrOf]
theorem AZ (a b:Int):decide ((Sum.inl a:Key)=Sum.inl b)=(a == b):=by
 by_cases e:a=b
 ·subst e;simp
 ·have h:¬ (Sum.inl a:Key)=Sum.inl b:=fun q=>e (Sum.inl.inj q)
  rw [decide_eq_false h]
  exact (beq_eq_false_iff_ne.mpr e).symm
theorem A3 (a b:Str):decide ((Sum.inr a:Key)=Sum.inr b)=decide (a=b):=by
 by_cases e:a=b
 ·subst e;simp
 ·have h:¬ (Sum.inr a:Key)=Sum.inr b:=fun q=>e (Sum.inr.inj q)
  rw [decide_eq_false h,decide_eq_false e]
theorem A4 (a:Int) (b:Str):decide ((Sum.inl a:Key)=Sum.inr b)=false:=decide_eq_false (fun q=>nomatch q)
theorem A5 (a:Str) (b:Int):decide ((Sum.inr a:Key)=Sum.inl b)=false:=decide_eq_false (fun q=>nomatch q)
noncomputable def mixKind (prog:Program) (w:World):PySem.KeyKind prog w Key where
 is:=su
 hash:=EJ w
 inj:=fun v a b ha hb=>by
  rcases cw ha with ⟨i,t,rfl,rfl⟩ | ⟨x,t,rfl,rfl⟩
  ·rcases cw hb with ⟨j,u,rfl,e⟩ | ⟨y,u,rfl,e⟩
   ·injection e with e1 _;rw [e1]
   ·exact nomatch e
  ·rcases cw hb with ⟨j,u,rfl,e⟩ | ⟨y,u,rfl,e⟩
   ·exact nomatch e
   ·injection e with e1 _;rw [e1]
 byValue:=fun k v h=>by
  rcases cw h with ⟨i,t,rfl,rfl⟩ | ⟨x,t,rfl,rfl⟩ <;> rfl
 pyHash:=fun hv h=>by
  rcases cw hv with ⟨i,t,rfl,rfl⟩ | ⟨x,t,rfl,rfl⟩
  ·exact wpAny_pyHash_int h
  ·exact wpAny_pyHash_str h
 eqBool:=fun hu hv h=>by
  rcases cw hu with ⟨i,t,rfl,rfl⟩ | ⟨x,t,rfl,rfl⟩
  ·rcases cw hv with ⟨j,u,rfl,rfl⟩ | ⟨y,u,rfl,rfl⟩
   ·rw [AZ] at h;exact wpAny_eqBool_int h
   ·rw [A4] at h;exact SeqAt.EqAt.int_str i t y u _ _ _ _ h
  ·rcases cw hv with ⟨j,u,rfl,rfl⟩ | ⟨y,u,rfl,rfl⟩
   ·rw [A5] at h;exact SeqAt.EqAt.str_int x t j u _ _ _ _ h
   ·rw [A3] at h;exact wpAny_eqBool_str h
 «strs»:=fun k x t v h=>by
  rcases cw h with ⟨i,u,rfl,e⟩ | ⟨y,u,rfl,e⟩
  ·exact nomatch e
  ·injection e with e1 _
   subst e1
   cases v <;> rfl
theorem p6 (prog:Program) (w:World) (i:Int) (t:Tok):(mixKind prog w).is (.inl i) (.int i t)=true:=tR i t
theorem p7 (prog:Program) (w:World) (x:Str) (t:Tok):(mixKind prog w).is (.inr x) (.str x t)=true:=tS x t
inductive V where
 | non | bl (b:Bool) | int (i:Int) | str (x:Str) | byt (b:Array UInt8) | flt (b:UInt64) | ref (a:Addr) | ty (n:String)
 deriving DecidableEq
noncomputable def RelV:V->Value->Prop
 | .non,u=>u=Value.none
 | .bl b,u=>u=Value.bool b
 | .int i,u=>∃ t,u=Value.int i t
 | .str x,u=>∃ t,u=Value.str x t
 | .byt b,u=>∃ t,u=Value.bytes b t
 | .flt b,u=>∃ t,u=Value.float b t
 | .ref a,u=>u=Value.ref a
 | .ty n,u=>u=Value.type n
abbrev Vals:List V->List Value->Prop:=Paired RelV
theorem Vals.length {xs:List V} {us:List Value} (r:Vals xs us):xs.length=us.length:=Paired.length r
theorem Vals.get:∀ {xs:List V} {us:List Value} {i:Nat} {x:V},Vals xs us->xs[i]?=some x->∃ u,us[i]?=some u/\RelV x u
 | _,_,_,_,.nil,e=>by simp at e
 | _,_,0,_,.cons r _,e=>by simp at e;subst e;exact ⟨_,rfl,r⟩
 | _,_,i + 1,x,.cons _ t,e=>by
  obtain ⟨u,h1,h2⟩:=Vals.get (i:=i) (x:=x) t (by simpa using e)
  exact ⟨u,by simpa using h1,h2⟩
theorem Vals.set {x:V} {u:Value} (r:RelV x u):∀ {xs:List V} {us:List Value} (i:Nat),Vals xs us->Vals (xs.set i x) (us.set i u)
 | _,_,_,.nil=>.nil
 | _,_,0,.cons _ t=>.cons r t
 | _,_,i + 1,.cons q t=>.cons q (Vals.set r i t)
theorem Vals.append:∀ {xs ys:List V} {us ws:List Value},Vals xs us->Vals ys ws->Vals (xs++ys) (us++ws)
 | _,_,_,_,.nil,s=>s
 | _,_,_,_,.cons r t,s=>.cons r (Vals.append t s)
theorem Vals.take:∀ {xs:List V} {us:List Value} (n:Nat),Vals xs us->Vals (xs.take n) (us.take n)
 | _,_,0,_=>.nil
 | _,_,_ + 1,.nil=>.nil
 | _,_,n + 1,.cons r t=>.cons r (Vals.take n t)
theorem Vals.drop:∀ {xs:List V} {us:List Value} (n:Nat),Vals xs us->Vals (xs.drop n) (us.drop n)
 | _,_,0,r=>r
 | _,_,_ + 1,.nil=>.nil
 | _,_,n + 1,.cons _ t=>Vals.drop n t
theorem Vals.none_of:∀ {xs:List V} {us:List Value} {i:Nat},Vals xs us->xs[i]?=none->us[i]?=none:=fun {xs us i} r e=>by
 have h1:=r.length
 have h2:xs.length<=i:=List.getElem?_eq_none_iff.mp e
 exact List.getElem?_eq_none_iff.mpr (by lia)
noncomputable def RelO:Option V->Option Value->Prop
 | some v,some u=>RelV v u
 | none,none=>True
 | _,_=>False
noncomputable def KV {κ:Type}:List (κ×V)->List (κ×Value)->Prop:=Paired fun (p:κ×V) (q:κ×Value)=>p.1=q.1/\RelV p.2 q.2
noncomputable def kV:Key->V
 | .inl i=>.int i
 | .inr x=>.str x
inductive HO where
 | lst (xs:List V)
 | tup (xs:List V)
 | dK (FF:List (Key×V)) | dT (FF:List (List Key×V))
 | set (S:Int->Bool) (n:Nat)
 | ins (C dx:Addr) (fs:List (Str×V))
 | own (x:Addr)
 | xd (fs:List (Str×V))
 | met (f x:Addr)
 | rng (lo hi:Int)
 | frz (o:Obj) (u:HO)
 | tbl (ps:Array Value)
 | ext (φ:Heap->Prop)
abbrev Hp:=Addr->Option HO
noncomputable def upd (H:Hp) (a:Addr) (o:HO):Hp:=fun b=>if b=a then some o else H b
theorem bZ {H:Hp} {a:Addr} {o:HO}:upd H a o a=some o:=by unfold upd;rw [if_pos rfl]
theorem aU {H:Hp} {a b:Addr} {o:HO} (h:b≠a):upd H a o b=H b:=by unfold upd;rw [if_neg h]
theorem Dr {H:Hp} {a b:Addr} {o u:HO} (h:H a=some o) (h':H b=some u) (d:o≠u):a≠b:=by
 intro e;subst e;rw [h] at h';exact d (Option.some.inj h')
theorem bA {H:Hp} {a b:Addr} {o:HO} (h:H a=some o) (h':H b=none):a≠b:=by
 intro e;subst e;rw [h] at h';cases h'
section
variable (P:Program) (w:World)
noncomputable def ObjOk (H:Hp) (h:Heap) (a:Addr):HO->Prop
 | .lst xs=>xs.length<=sizeLine/\∃ (FH:List Value) (n:Nat),Vals xs FH/\h.get? a=some { cls:=.type "list",data:=.seq FH.toArray n }
 | .tup xs=>xs.length<=sizeLine/\∃ FH:List Value,Vals xs FH/\IsTupN h a FH.toArray
 | .dK FF=>FF.length<=sizeLine/\(a == sysModules)=false/\∃ vs,KV FF vs/\h.DictOf (mixKind P w) a vs
 | .dT FF=>FF.length<=sizeLine/\(a == sysModules)=false/\∃ xs:List (List Key×Addr×Value),
   Paired (fun (p:List Key×V) (q:List Key×Addr×Value)=>p.1=q.1/\H q.2.1=some (.tup (p.1.map kV))/\RelV p.2 q.2.2) FF xs/\
   ∃ o es ep,h.get? a=some o/\o.ExactDict/\o.data=.dict es ep/\es.toList=xs.map (entryOfKey (tupleKind (mixKind P w)))/\(xs.map (·.1)).Nodup
 | .set S n=>h.SetOf (intKind P w) a S n
 | .ins C dx fs=>H dx=some (.own a)/\fs.length<=1000/\dx≠a/\h.get? a=some (PySem.W.instObj C dx)/\
   ∃ mA,h.Ns1 dx mA/\(∀ f,RelO (fs.lookup f) (mA f))/\PySem.Within mA (fs.map (·.1))
 | .own _=>∃ o,h.get? a=some o
 | .xd fs=>∃ mA,h.Ns1 a mA/\∀ f,RelO (fs.lookup f) (mA f)
 | .rng lo hi=>∃ t u v,h.get? a=some { cls:=.type "range",data:=.fields #[.int lo t,.int hi u,.int 1 v] }
 | .frz o u=>h.get? a=some o/\ObjOk H h a u
 | .tbl ps=>h.get? a=some { cls:=.none,data:=.fields ps }
 | .met f x=>h.get? a=some (PySem.W.methodObj (.ref f) (.ref x))
 | .ext φ=>φ h/\(∃ o,h.get? a=some o)/\∀ h1 h2:Heap,φ h1->(∀ o,h1.get? a=some o->h2.get? a=some o)->φ h2
def HOk (H:Hp) (h:Heap):Prop:=∀ a o,H a=some o->ObjOk P w H h a o
end
section
variable {P:Program} {w:World} {H H':Hp} {h h':Heap} {a:Addr} {o:HO}
theorem ObjOk.lt (x:ObjOk P w H h a o):a < h.objs.size:=by
 cases o with
 | lst xs=>obtain ⟨_,_,_,_,e⟩:=x;exact Heap.lt_size e
 | tup xs=>obtain ⟨_,_,_,p⟩:=x;exact p.tup.lt
 | dK FF=>obtain ⟨_,_,_,_,o,_,_,e,_⟩:=x;exact Heap.lt_size e
 | dT FF=>obtain ⟨_,_,_,_,o,_,_,e,_⟩:=x;exact Heap.lt_size e
 | set S n=>obtain ⟨o,_,_,_,e,_⟩:=x;exact Heap.lt_size e
 | ins C dx fs=>obtain ⟨_,_,_,e,_⟩:=x;exact Heap.lt_size e
 | own y=>obtain ⟨_,e⟩:=x;exact Heap.lt_size e
 | xd fs=>obtain ⟨_,⟨_,_,_,e,_⟩,_⟩:=x;exact Heap.lt_size e
 | rng lo hi=>obtain ⟨_,_,_,e⟩:=x;exact Heap.lt_size e
 | frz ob u=>obtain ⟨e,_⟩:=x;exact Heap.lt_size e
 | tbl ps=>exact Heap.lt_size (show h.get? a=some _ from x)
 | met f y=>exact Heap.lt_size (show h.get? a=some _ from x)
 | ext φ=>obtain ⟨_,⟨_,e⟩,_⟩:=x;exact Heap.lt_size e
theorem Paired.mapP {α β:Type} {F G:α->β->Prop}:∀ {l₁:List α} {l₂:List β},Paired F l₁ l₂->(∀ a b,F a b->G a b)->Paired G l₁ l₂
 | _,_,.nil,_=>.nil
 | _,_,.cons r t,f=>.cons (f _ _ r) (Paired.mapP t f)
theorem ObjOk.stay (x:ObjOk P w H h a o) (k:∀ b u,(b=a\/H b=some (.own a))->h.get? b=some u->h'.get? b=some u)
  (ho:∀ b,H b=some (.own a)->H' b=some (.own a)) (ht:∀ b xs,H b=some (.tup xs)->H' b=some (.tup xs)):ObjOk P w H' h' a o:=by
 induction o with
 | lst xs=>obtain ⟨z,FH,n,r,e⟩:=x;exact ⟨z,FH,n,r,k _ _ (.inl rfl) e⟩
 | tup xs=>obtain ⟨z,FH,r,ob,e,c⟩:=x;exact ⟨z,FH,r,ob,k _ _ (.inl rfl) e,c⟩
 | dK FF=>obtain ⟨z,y,vs,r,ob,es,ep,e,c⟩:=x;exact ⟨z,y,vs,r,ob,es,ep,k _ _ (.inl rfl) e,c⟩
 | dT FF=>
  obtain ⟨z,y,xs,r,ob,es,ep,e,c⟩:=x
  exact ⟨z,y,xs,Paired.mapP r fun p q z=>⟨z.1,ht _ _ z.2.1,z.2.2⟩,ob,es,ep,k _ _ (.inl rfl) e,c⟩
 | set S n=>obtain ⟨ob,es,ep,t,e,c⟩:=x;exact ⟨ob,es,ep,t,k _ _ (.inl rfl) e,c⟩
 | ins C dx fs=>
  obtain ⟨d,z,ne,e,mA,⟨od,es,ep,e2,c⟩,r⟩:=x
  exact ⟨ho _ d,z,ne,k _ _ (.inl rfl) e,mA,⟨od,es,ep,k _ _ (.inr d) e2,c⟩,r⟩
 | own y=>obtain ⟨ob,e⟩:=x;exact ⟨ob,k _ _ (.inl rfl) e⟩
 | xd fs=>obtain ⟨mA,⟨od,es,ep,e,c⟩,r⟩:=x;exact ⟨mA,⟨od,es,ep,k _ _ (.inl rfl) e,c⟩,r⟩
 | rng lo hi=>obtain ⟨t,u,v,e⟩:=x;exact ⟨t,u,v,k _ _ (.inl rfl) e⟩
 | frz ob u ih=>obtain ⟨e,q⟩:=x;exact ⟨k _ _ (.inl rfl) e,ih q⟩
 | tbl ps=>
  have e:h.get? a=some { cls:=.none,data:=.fields ps }:=x
  show h'.get? a=some { cls:=.none,data:=.fields ps }
  exact k a _ (.inl rfl) e
 | met f y=>
  have e:h.get? a=some (PySem.W.methodObj (.ref f) (.ref y)):=x
  show h'.get? a=some (PySem.W.methodObj (.ref f) (.ref y))
  exact k a _ (.inl rfl) e
 | ext φ=>obtain ⟨p,⟨o,e⟩,st⟩:=x;exact ⟨st _ _ p fun o q=>k _ _ (.inl rfl) q,⟨o,k _ _ (.inl rfl) e⟩,st⟩
theorem HOk.lt (x:HOk P w H h) (e:H a=some o):a < h.objs.size:=(x a o e).lt
theorem HOk.fresh (x:HOk P w H h) (e:h.objs.size<=a):H a=none:=by
 cases q:H a with
 | none=>rfl
 | some u=>exact absurd (Nat.lt_of_lt_of_le (x.lt q) e) (Nat.lt_irrefl _)
theorem HOk.kept (x:HOk P w H h) (k:∀ b u,h.get? b=some u->h'.get? b=some u):HOk P w H h':=fun a o e=>
 (x a o e).stay (fun b u _ q=>k b u q) (fun _ q=>q) fun _ _ q=>q
theorem HOk.laid (x:HOk P w H h) (k:∀ b u,h.get? b=some u->h'.get? b=some u) (hp:h.objs.size<=a) (new:ObjOk P w (upd H a o) h' a o):HOk P w (upd H a o) h':=fun b u e=>by
 have hn:=x.fresh hp
 by_cases hb:b=a
 ·subst hb;rw [bZ] at e;cases e;exact new
 ·rw [aU hb] at e
  exact (x b u e).stay (fun c v _ q=>k c v q) (fun c q=>by rw [aU (bA q hn)];exact q) fun c xs q=>by rw [aU (bA q hn)];exact q
end
def Rd (H:Hp) (a:Addr) (u:HO):Prop:=H a=some u\/∃ o,H a=some (.frz o u)
theorem Rd.ok {P:Program} {w:World} {H:Hp} {h:Heap} {a:Addr} {u:HO} (r:Rd H a u) (x:HOk P w H h):ObjOk P w H h a u:=by
 rcases r with r | ⟨o,r⟩
 ·exact x a u r
 ·obtain ⟨_,q⟩:=x a _ r
  exact q
noncomputable def Nl:Option HO->Prop
 | some (.lst _)=>True
 | some (.dK _)=>True
 | some (.dT _)=>True
 | some (.set _ _)=>True
 | some (.ins _ _ _)=>True
 | some (.ext _)=>True
 | _=>False
section
variable {P:Program} {w:World} {H:Hp} {h h':Heap} {x e:Addr} {o':HO}
theorem HOk.write (ok:HOk P w H h) (mu:Nl (H x)) (he:e=x\/H e=some (.own x)) (k:∀ b u,b≠e->h.get? b=some u->h'.get? b=some u) (M4:∃ u,h'.get? e=some u)
  (new:ObjOk P w (upd H x o') h' x o'):HOk P w (upd H x o') h':=fun b u q=>by
 have J0:∀ c y,H c=some (.own y)->c≠x:=fun c y r z=>by subst z;rw [r] at mu;exact mu
 have ntup:∀ c xs,H c=some (.tup xs)->c≠x:=fun c xs r z=>by subst z;rw [r] at mu;exact mu
 by_cases hb:b=x
 ·subst hb;rw [bZ] at q;cases q;exact new
 ·rw [aU hb] at q
  by_cases K7:b=e
  ·have q':H b=some (.own x):=by
    rcases he with z | z
    ·exact absurd (K7.trans z) hb
    ·rw [K7];exact z
   rw [q] at q';cases q'
   obtain ⟨v,hv⟩:=M4
   exact ⟨v,by rw [K7];exact hv⟩
  ·refine (ok b u q).stay (fun c v hc r=>k c v ?_ r) (fun c r=>by rw [aU (J0 c b r)];exact r) fun c xs r=>by rw [aU (ntup c xs r)];exact r
   rcases hc with rfl | hc
   ·exact K7
   ·rintro rfl
    rcases he with z | z
    ·exact J0 c b hc z
    ·rw [hc] at z;cases z;exact hb rfl
end
structure Un (fs ex:List Addr) (H H':Hp) (h h':Heap):Prop where
 keep:∀ b o,h.get? b=some o->H b=none->b∉fs->b∉ex->h'.get? b=some o
 slot:∀ b o,h.get? b=some o->H b=none->b∈fs->b∉ex->∃ sl,h'.get? b=some { o with slots:=sl }
 free:∀ b o,h.get? b=some o->H b=none->b∉ex->H' b=none
 there:∀ b o,h.get? b=some o->b∉ex->∃ o',h'.get? b=some o'
 tups:∀ b xs,H b=some (.tup xs)->H' b=some (.tup xs)
 frzs:∀ b o u,H b=some (.frz o u)->H' b=some (.frz o u)
 tbls:∀ b ps,H b=some (.tbl ps)->∃ more,H' b=some (.tbl (ps++more))
section
variable {fs fs' ex ex':List Addr} {H H1 H2:Hp} {h h1 h2 h':Heap} {a x e:Addr} {o:HO}
theorem Un.any (u:Un fs ex H H1 h h1) {b:Addr} {ob:Obj} (q:h.get? b=some ob) (n:H b=none) (hx:b∉ex):∃ sl,h1.get? b=some { ob with slots:=sl }:=by
 by_cases hb:b∈fs
 ·exact u.slot b ob q n hb hx
 ·exact ⟨ob.slots,u.keep b ob q n hb hx⟩
theorem Un.trans (a:Un fs ex H H1 h h1) (b:Un fs ex H1 H2 h1 h2):Un fs ex H H2 h h2 where
 keep:=fun c ob q n hc hx=>b.keep c ob (a.keep c ob q n hc hx) (a.free c ob q n hx) hc hx
 slot:=fun c ob q n hc hx=>by
  obtain ⟨sl,e1⟩:=a.slot c ob q n hc hx
  obtain ⟨OO,e2⟩:=b.slot c _ e1 (a.free c ob q n hx) hc hx
  exact ⟨OO,e2⟩
 free:=fun c ob q n hx=>by
  obtain ⟨o',e1⟩:=a.there c ob q hx
  exact b.free c o' e1 (a.free c ob q n hx) hx
 there:=fun c ob q hx=>by
  obtain ⟨o',e1⟩:=a.there c ob q hx
  exact b.there c o' e1 hx
 tups:=fun c xs q=>b.tups c xs (a.tups c xs q)
 frzs:=fun c ob xs q=>b.frzs c ob xs (a.frzs c ob xs q)
 tbls:=fun c ps q=>by
  obtain ⟨m1,e1⟩:=a.tbls c ps q
  obtain ⟨m2,e2⟩:=b.tbls c _ e1
  exact ⟨m1++m2,by rw [e2,Array.append_assoc]⟩
theorem Un.kept (k:∀ b u,h.get? b=some u->h'.get? b=some u):Un fs ex H H h h':=
 ⟨fun b ob q _ _ _=>k b ob q,fun b ob q _ _ _=>⟨ob.slots,k b ob q⟩,fun _ _ _ n _=>n,fun b ob q _=>⟨ob,k b ob q⟩,fun _ _ q=>q,fun _ _ _ q=>q,fun _ ps q=>⟨#[],by rw [q];simp⟩⟩
theorem Un.refl:Un fs ex H H h h:=Un.kept fun _ _ q=>q
theorem Un.laid (k:∀ b u,h.get? b=some u->h'.get? b=some u) (hp:h.objs.size<=a) (hn:H a=none):Un fs ex H (upd H a o) h h' where
 keep:=fun b u q _ _ _=>k b u q
 slot:=fun b u q _ _ _=>⟨u.slots,k b u q⟩
 free:=fun b u q n _=>by rw [aU (Nat.ne_of_lt (Nat.lt_of_lt_of_le (Heap.lt_size q) hp))];exact n
 there:=fun b u q _=>⟨u,k b u q⟩
 tups:=fun b xs q=>by rw [aU (bA q hn)];exact q
 frzs:=fun b u xs q=>by rw [aU (bA q hn)];exact q
 tbls:=fun b ps q=>⟨#[],by rw [aU (bA q hn),q];simp⟩
theorem Un.write (mu:Nl (H x)) (he:e=x\/H e=some (.own x)) (k:∀ b u,b≠e->h.get? b=some u->h'.get? b=some u) (M4:∃ u,h'.get? e=some u):Un fs ex H (upd H x o) h h':=by
 have hx:∀ b,H b=none->b≠x:=fun b n z=>by subst z;rw [n] at mu;exact mu
 have hb:∀ b,H b=none->b≠e:=fun b n z=>by
  subst z
  rcases he with r | r
  ·exact hx b n r
  ·rw [n] at r;cases r
 have hm:∀ b u,H b=some u->¬ Nl (some u)->b≠x:=fun b u q nm z=>by subst z;rw [q] at mu;exact nm mu
 refine ⟨fun b u q n _ _=>k b u (hb b n) q,fun b u q n _ _=>⟨u.slots,k b u (hb b n) q⟩,fun b u q n _=>by rw [aU (hx b n)];exact n,fun b u q _=>?_,
  fun b xs q=>by rw [aU (hm b _ q fun z=>z)];exact q,fun b u xs q=>by rw [aU (hm b _ q fun z=>z)];exact q,fun b ps q=>⟨#[],by rw [aU (hm b _ q fun z=>z),q];simp⟩⟩
 by_cases K7:b=e
 ·subst K7;exact M4
 ·exact ⟨u,k b u K7 q⟩
end
noncomputable def trk (h:Heap) (H:Hp):List Addr:=(List.range h.objs.size).filter fun a=>(H a).isSome
noncomputable def wx (h:Heap) (H:Hp):Heap:=PySem.W.hideAll h (trk h H)
theorem tU (h:Heap) (H:Hp):(wx h H).objs.size=h.objs.size:=PySem.W.hideAll_size _ _
theorem wy {h:Heap} {H:Hp} {b:Addr} {o:Obj} (e:h.get? b=some o) (n:H b=none):(wx h H).get? b=some o:=
 PySem.W.hideAll_get _ e fun hm=>by
  have q:(H b).isSome=true:=(List.mem_filter.mp hm).2
  rw [n] at q;simp at q
theorem yC {h:Heap} {H:Hp} {b:Addr} {o:Obj} (e:(wx h H).get? b=some o):h.get? b=some o/\H b=none:=by
 have e':h.get? b=some o:=PySem.W.of_hideAll (trk h H) e
 refine ⟨e',?_⟩
 cases q:H b with
 | none=>rfl
 | some x=>
  have hm:b∈trk h H:=List.mem_filter.mpr ⟨List.mem_range.mpr (Heap.lt_size e'),by simp [q]⟩
  have z:(wx h H).get? b=none:=PySem.W.hideAll_none (trk h H) hm
  rw [z] at e;cases e
noncomputable def yD (g h:Heap) (L:Addr):List (Addr×Obj):=(List.range h.objs.size).filterMap fun a=>if a=L\/(g.get? a).isSome=true then none else (h.get? a).map fun o=>(a,o)
noncomputable def eL (g h:Heap) (L d:Addr):List (Addr×Obj):=(yD g h L).filter fun p=>decide (p.1≠d)
structure Mod (K:W.Frag) (mg:Str->Option Value) (base:Heap):Prop where
 kin:K.In base
 glob:base.Ns mainGlobals mg
 blt:∃ mb,base.Ns builtinsNs mb/\∀ x:Str,x≠"__name__"->mb x=bootBuiltins x
 nolimit:base.NoLimit
structure Cx where
 prog:Program
 w:World
 K:W.Frag
 mg:Str->Option Value
 base:Heap
 A:Around
 N:List Str
 s₀:Shared
 H₀:Hp
 env:Env
 outer:List Env
 stack:List Env
 ex:List Addr
 fn:Str->Bool
 calm:Bool
 pn:List (Addr×Obj)
 xe:Value->Shared->Prop
noncomputable def Kf (l:List Env):List Addr:=l.filterMap (·.frame)
abbrev Cx.fs (X:Cx):List Addr:=Kf X.outer
def OP (sc:Scope) (x:Str):Prop:=sc.names.lookup x=some .local\/sc.names.lookup x=some .cell\/sc.names.lookup x=some .free
def Loc (sc:Scope) (x:Str):Prop:=sc.names.lookup x=some .local\/sc.names.lookup x=some .cell
noncomputable def Ex (sc:Scope) (x:Str):Bool:=match sc.names.lookup x with
 | some .local=>true
 | some .cell=>true
 | _=>false
theorem lo {sc:Scope} {x:Str} (h:Ex sc x=true):Loc sc x:=by
 unfold Ex at h
 split at h
 ·exact .inl (by assumption)
 ·exact .inr (by assumption)
 ·cases h

def EK (env:Env) (h:Heap) (m:Str->Option Value) (x:Str) (u:Value):Prop:=
 (env.kindOf x=some .local/\m x=some u)\/((env.kindOf x=some .cell\/env.kindOf x=some .free)/\∃ c,env.cells.lookup x=some c/\h.IsCell c (some u))
structure Cx.Ok (X:Cx):Prop where
 mod:Mod X.K X.mg X.base
 kind:X.env.scope.kind=.function
 glob:X.env.globals=mainGlobals
 blt:X.env.builtins=builtinsNs
 above:X.s₀.heap.objs.size<=X.env.locals
 inj:∀ x y c,X.env.cells.lookup x=some c->X.env.cells.lookup y=some c->x=y
 has:∀ x,(X.env.kindOf x=some .cell\/X.env.kindOf x=some .free)->∃ c,X.env.cells.lookup x=some c
 cab:∀ x c,X.fn x=true->X.env.cells.lookup x=some c->X.s₀.heap.objs.size<=c
 hd:X.calm=true->X.A.handled=none
 frames:X.A.frames=some X.stack
 stk:X.stack=X.outer\/(X.stack=X.env :: X.outer/\X.env.frame=some X.env.locals)
 exf:∀ b∈X.ex,b≠X.env.locals/\∀ x c,X.env.cells.lookup x=some c->c≠b
 bs:∀ b o,X.base.get? b=some o->X.s₀.heap.get? b=some o/\X.H₀ b=none
 bsz:X.base.objs.size<=X.s₀.heap.objs.size
 noex:∀ b o,X.base.get? b=some o->b∉X.ex
 exfs:∀ b∈X.ex,b∉X.fs
 funs:X.s₀.heap.FunFrames X.base X.outer
 frf:∀ b∈X.fs,X.H₀ b=none
structure Inv (X:Cx) (pins:List (Addr×Obj)) (σ:List (Option V)) (H:Hp) (s:Shared):Prop where
 ok:X.Ok
 os:s.os=X.s₀.os
 bare:AllBare s.gens
 base:Un X.fs X.ex X.H₀ H X.s₀.heap s.heap
 loc:∃ m,s.heap.Ns X.env.locals m/\∀ (i:Nat) (x:Str) (v:V),X.N[i]?=some x->σ[i]?=some (some v)->OP X.env.scope x->∃ u,RelV v u/\EK X.env s.heap m x u
 cell:∀ x c,X.env.cells.lookup x=some c->∃ v,s.heap.IsCell c v
 free:H X.env.locals=none
 freeC:∀ x c,X.env.cells.lookup x=some c->H c=none
 pin:∀ p∈X.pn++pins,s.heap.get? p.1=some p.2/\H p.1=none/\p.1≠X.env.locals/\p.1∉X.fs/\∀ v,p.2.data≠.cell v
 hok:HOk X.prog X.w H s.heap
 len:σ.length=X.N.length
section
variable {X:Cx} {pins:List (Addr×Obj)} {σ:List (Option V)} {H H':Hp} {s:Shared} {h':Heap}
theorem Cx.Ok.nofr (ok:X.Ok) {b:Addr} {o:Obj} (e:X.base.get? b=some o):b∉X.fs:=fun hb=>by
 have:=(ok.funs.mem hb).1
 rw [e] at this;cases this
theorem Inv.bs (I:Inv X pins σ H s):∀ b o,X.base.get? b=some o->s.heap.get? b=some o/\H b=none:=fun b o e=>
 ⟨I.base.keep b o (I.ok.bs b o e).1 (I.ok.bs b o e).2 (I.ok.nofr e) (I.ok.noex b o e),I.base.free b o (I.ok.bs b o e).1 (I.ok.bs b o e).2 (I.ok.noex b o e)⟩
theorem Inv.bk (I:Inv X pins σ H s):∀ b o,X.base.get? b=some o->s.heap.get? b=some o:=fun b o e=>(I.bs b o e).1
theorem Inv.mod (I:Inv X pins σ H s):Mod X.K X.mg X.base:=I.ok.mod
theorem Inv.kIn (I:Inv X pins σ H s):X.K.In s.heap:=I.ok.mod.kin.keeps I.bk
theorem Inv.lt (I:Inv X pins σ H s):X.env.locals < s.heap.objs.size:=let ⟨_,hn,_⟩:=I.loc;hn.lt
theorem Inv.sz (I:Inv X pins σ H s):X.s₀.heap.objs.size<=s.heap.objs.size:=Nat.le_trans I.ok.above (Nat.le_of_lt I.lt)
theorem Inv.nofs (I:Inv X pins σ H s) {a:Addr} (h:s.heap.objs.size<=a):a∉X.fs:=fun hb=>by
 obtain ⟨_,o,ho,_⟩:=I.ok.funs.mem hb
 exact absurd (Nat.lt_of_lt_of_le (Heap.lt_size ho) (Nat.le_trans I.sz h)) (Nat.lt_irrefl _)
theorem Inv.cne (I:Inv X pins σ H s):∀ x c,X.env.cells.lookup x=some c->c≠X.env.locals:=fun x c e z=>by
 obtain ⟨v,o,ho,hd⟩:=I.cell x c e
 obtain ⟨m,⟨o',es,ep,K8,Mc,_⟩,_⟩:=I.loc
 rw [z,K8] at ho;cases ho;rw [Mc] at hd;cases hd
theorem Inv.funs (I:Inv X pins σ H s):s.heap.FunFrames X.base X.outer:=by
 have all:∀ (l:List Env),(∀ b∈Kf l,b∈X.fs)->X.s₀.heap.FunFrames X.base l->s.heap.FunFrames X.base l:=by
  intro l
  induction l with
  | nil=>intro _ _;trivial
  | cons env r ih=>
   intro hs hl
   obtain ⟨hk,⟨L,o,hf,hn,ho,hd⟩,hr⟩:=hl
   have hL:L∈X.fs:=hs L (by unfold Kf;rw [List.filterMap_cons,hf];exact List.mem_cons_self)
   obtain ⟨sl,e⟩:=I.base.slot L o ho (I.ok.frf L hL) hL fun z=>I.ok.exfs L z hL
   exact ⟨hk,⟨L,_,hf,hn,e,hd⟩,ih (fun b hb=>hs b (by unfold Kf;rw [List.filterMap_cons,hf];exact List.mem_cons_of_mem _ hb)) hr⟩
 exact all X.outer (fun _ hb=>hb) I.ok.funs
theorem Inv.stack (I:Inv X pins σ H s):s.heap.FunFrames X.base X.stack:=by
 rcases I.ok.stk with e | ⟨e,hf⟩
 ·rw [e];exact I.funs
 ·rw [e]
  obtain ⟨m,hn,_⟩:=I.loc
  refine .cons (by rw [I.ok.kind];decide) hf hn ?_ I.funs
  exact Heap.get?_none_of_le (Nat.le_trans I.ok.bsz I.ok.above)
theorem Inv.stkSub (I:Inv X pins σ H s):∀ b∈Kf X.stack,b∈X.env.locals :: X.fs:=fun b hb=>by
 rcases I.ok.stk with e | ⟨e,hf⟩
 ·rw [e] at hb;exact List.mem_cons_of_mem _ hb
 ·rw [e] at hb
  unfold Kf at hb
  rw [List.filterMap_cons,hf] at hb
  exact hb
theorem Inv.stkFree (I:Inv X pins σ H s):∀ b∈Kf X.stack,H b=none:=fun b hb=>by
 rcases List.mem_cons.mp (I.stkSub b hb) with e | hb
 ·rw [e];exact I.free
 ·obtain ⟨_,o,ho,_⟩:=I.ok.funs.mem hb
  exact I.base.free b o ho (I.ok.frf b hb) fun z=>I.ok.exfs b z hb
theorem Inv.step {g':Array GenState} {t':Nat} {d':Drawn} {ch:List Addr} (I:Inv X pins σ H s)
  (KY:∀ b∈ch,(b∈X.ex\/X.s₀.heap.objs.size<=b)/\b≠X.env.locals/\(∀ x c,X.env.cells.lookup x=some c->c≠b)/\∀ p∈X.pn++pins,p.1≠b)
  (keep:∀ b o,b≠X.env.locals->b∉X.fs->b∉ch->s.heap.get? b=some o->H b=none->h'.get? b=some o)
  (slot:∀ b o,b≠X.env.locals->b∈X.fs->b∉ch->s.heap.get? b=some o->H b=none->∃ sl,h'.get? b=some { o with slots:=sl }) (free:∀ b o,b∉ch->s.heap.get? b=some o->H b=none->H' b=none)
  (there:∀ b o,b∉ch->s.heap.get? b=some o->∃ o',h'.get? b=some o')
  (tups:∀ b xs,H b=some (.tup xs)->H' b=some (.tup xs)) (frzs:∀ b o u,H b=some (.frz o u)->H' b=some (.frz o u)) (tbls:∀ b ps,H b=some (.tbl ps)->∃ more,H' b=some (.tbl (ps++more)))
  (ns:∀ m,s.heap.Ns X.env.locals m->h'.Ns X.env.locals m) (hok:HOk X.prog X.w H' h') (hg:AllBare g') :
  Inv X pins σ H' { s with heap:=h',gens:=g',drawn:=d',toks:=t' }:=by
 have PR:∀ b o,X.s₀.heap.get? b=some o->b≠X.env.locals:=fun b o e=>Nat.ne_of_lt (Nat.lt_of_lt_of_le (Heap.lt_size e) I.ok.above)
 have Om:∀ b o,X.s₀.heap.get? b=some o->b∉X.ex->b∉ch:=fun b o e hx hb=>by
  rcases (KY b hb).1 with z | z
  ·exact hx z
  ·exact absurd (Nat.lt_of_lt_of_le (Heap.lt_size e) z) (Nat.lt_irrefl _)
 have cellK:∀ x c,X.env.cells.lookup x=some c->∀ v,s.heap.IsCell c v->h'.IsCell c v:=fun x c e v FY=>by
  obtain ⟨o,ho,hd⟩:=FY
  have Nm:c∉ch:=fun z=>(KY c z).2.2.1 x c e rfl
  by_cases hc:c∈X.fs
  ·obtain ⟨sl,q⟩:=slot c o (I.cne x c e) hc Nm ho (I.freeC x c e)
   exact ⟨_,q,hd⟩
  ·exact ⟨o,keep c o (I.cne x c e) hc Nm ho (I.freeC x c e),hd⟩
 refine ⟨I.ok,I.os,hg,⟨fun b o e n hb hx=>?_,fun b o e n hb hx=>?_,fun b o e n hx=>?_,fun b o e hx=>?_,fun b xs e=>tups b xs (I.base.tups b xs e),fun b o xs e=>frzs b o xs (I.base.frzs b o xs e),fun b ps e=>?_⟩,?_,fun x c e=>?_,?_,fun x c e=>?_,fun p hp=>?_,hok,I.len⟩
 ·exact keep b o (PR b o e) hb (Om b o e hx) (I.base.keep b o e n hb hx) (I.base.free b o e n hx)
 ·obtain ⟨sl,e1⟩:=I.base.slot b o e n hb hx
  obtain ⟨OO,e2⟩:=slot b _ (PR b o e) hb (Om b o e hx) e1 (I.base.free b o e n hx)
  exact ⟨OO,e2⟩
 ·obtain ⟨o',e1⟩:=I.base.there b o e hx
  exact free b o' (Om b o e hx) e1 (I.base.free b o e n hx)
 ·obtain ⟨o',e1⟩:=I.base.there b o e hx
  exact there b o' (Om b o e hx) e1
 ·obtain ⟨m1,e1⟩:=I.base.tbls b ps e
  obtain ⟨m2,e2⟩:=tbls b _ e1
  exact ⟨m1++m2,by rw [e2,Array.append_assoc]⟩
 ·obtain ⟨m,hn,hl⟩:=I.loc
  refine ⟨m,ns m hn,fun i x v e1 e2 e3=>?_⟩
  obtain ⟨u,r,l⟩:=hl i x v e1 e2 e3
  refine ⟨u,r,?_⟩
  rcases l with l | ⟨k,c,e,z⟩
  ·exact .inl l
  ·exact .inr ⟨k,c,e,cellK x c e _ z⟩
 ·obtain ⟨v,z⟩:=I.cell x c e
  exact ⟨v,cellK x c e v z⟩
 ·obtain ⟨m,⟨o,_,_,ho,_⟩,_⟩:=I.loc
  exact free _ o (fun z=>(KY _ z).2.1 rfl) ho I.free
 ·obtain ⟨v,o,ho,hd⟩:=I.cell x c e
  exact free c o (fun z=>(KY c z).2.2.1 x c e rfl) ho (I.freeC x c e)
 ·obtain ⟨e,n,ne,nf,d⟩:=I.pin p hp
  have Nm:p.1∉ch:=fun z=>(KY p.1 z).2.2.2 p hp rfl
  exact ⟨keep p.1 p.2 ne nf Nm e n,free p.1 p.2 Nm e n,ne,nf,d⟩
theorem Inv.un {t':Nat} (I:Inv X pins σ H s) (u:Un X.fs [] H H' s.heap h') (hok:HOk X.prog X.w H' h'):Inv X pins σ H' { s with heap:=h',toks:=t' }:=by
 obtain ⟨m,⟨o,es,ep,ho,r⟩,_⟩:=id I.loc
 obtain ⟨sl,hL⟩:=u.any ho I.free (by simp)
 exact I.step (g':=s.gens) (d':=s.drawn) (ch:=[]) (fun _ z=>nomatch z) (fun b o _ hb _ e n=>u.keep b o e n hb (by simp)) (fun b o _ hb _ e n=>u.slot b o e n hb (by simp)) (fun b o _ e n=>u.free b o e n (by simp)) (fun b o _ e=>u.there b o e (by simp)) u.tups u.frzs u.tbls (fun m' hm=>by
  obtain ⟨o',Md,OQ,K8,r'⟩:=hm
  rw [ho] at K8;cases K8
  exact ⟨_,Md,OQ,hL,r'⟩) hok I.bare
theorem Inv.call {g':Array GenState} {t':Nat} {d':Drawn} {ch:List Addr} (I:Inv X pins σ H s) (u:Un (Kf X.stack) ch H H' s.heap h') (hok:HOk X.prog X.w H' h') (hg:AllBare g')
  (KY:∀ b∈ch,(b∈X.ex\/X.s₀.heap.objs.size<=b)/\b≠X.env.locals/\(∀ x c,X.env.cells.lookup x=some c->c≠b)/\∀ p∈X.pn++pins,p.1≠b) :
  Inv X pins σ H' { s with heap:=h',gens:=g',drawn:=d',toks:=t' }:=by
 obtain ⟨m,⟨o,es,ep,ho,r⟩,_⟩:=id I.loc
 obtain ⟨sl,hL⟩:=u.any ho I.free fun z=>(KY _ z).2.1 rfl
 exact I.step (ch:=ch) KY (fun b o hL hb hc e n=>u.keep b o e n (fun z=>(List.mem_cons.mp (I.stkSub b z)).elim hL hb) hc) (fun b o _ _ hc e n=>u.any e n hc) (fun b o hc e n=>u.free b o e n hc) (fun b o hc e=>u.there b o e hc) u.tups u.frzs u.tbls (fun m' hm=>by
  obtain ⟨o',Md,OQ,K8,r'⟩:=hm
  rw [ho] at K8;cases K8
  exact ⟨_,Md,OQ,hL,r'⟩) hok hg
theorem Inv.turned {t':Nat} {it:Addr} (I:Inv X pins σ H s) (k:∀ b o,b≠it->s.heap.get? b=some o->h'.get? b=some o) (hn:H it=none) (hL:it≠X.env.locals)
  (h1:it∈X.ex\/X.s₀.heap.objs.size<=it) (h2:∀ x c,X.env.cells.lookup x=some c->c≠it) (h3:∀ p∈X.pn++pins,p.1≠it):Inv X pins σ H { s with heap:=h',toks:=t' }:=by
 have PU:∀ b u,H b=some u->b≠it:=fun b u e z=>by rw [z,hn] at e;cases e
 refine I.step (g':=s.gens) (d':=s.drawn) (ch:=[it]) (fun b hb=>?_) (fun b o _ _ hc e _=>k b o (fun z=>hc (by simp [z])) e) (fun b o _ _ hc e _=>⟨o.slots,k b o (fun z=>hc (by simp [z])) e⟩) (fun _ _ _ _ n=>n)
  (fun b o hc e=>⟨o,k b o (fun z=>hc (by simp [z])) e⟩) (fun _ _ e=>e) (fun _ _ _ e=>e) (fun b ps e=>⟨#[],by rw [e];simp⟩) (fun m hm=>?_) (fun b u e=>?_) I.bare
 ·have e:b=it:=by simpa using hb
  subst e
  exact ⟨h1,hL,h2,h3⟩
 ·obtain ⟨o,es,ep,ho,r⟩:=hm
  exact ⟨o,es,ep,k _ o (Ne.symm hL) ho,r⟩
 ·refine (I.hok b u e).stay (fun c v hc q=>k c v ?_ q) (fun _ q=>q) fun _ _ q=>q
  rcases hc with z | z
  ·rw [z];exact PU b u e
  ·exact PU c _ z
theorem Inv.tok (I:Inv X pins σ H s) (t:Nat):Inv X pins σ H { s with toks:=t }:=I.un (h':=s.heap) (t':=t) Un.refl I.hok
theorem Inv.kept {t':Nat} (I:Inv X pins σ H s) (k:∀ b u,s.heap.get? b=some u->h'.get? b=some u):Inv X pins σ H { s with heap:=h',toks:=t' }:=I.un (Un.kept k) (I.hok.kept k)
theorem Inv.laid {a:Addr} {o:HO} {t':Nat} (I:Inv X pins σ H s) (k:∀ b u,s.heap.get? b=some u->h'.get? b=some u) (hp:s.heap.objs.size<=a) (new:ObjOk X.prog X.w (upd H a o) h' a o) :
  Inv X pins σ (upd H a o) { s with heap:=h',toks:=t' }:=I.un (Un.laid k hp (I.hok.fresh hp)) (I.hok.laid k hp new)
theorem Inv.write {x e:Addr} {o:HO} {t':Nat} (I:Inv X pins σ H s) (mu:Nl (H x)) (he:e=x\/H e=some (.own x)) (k:∀ b u,b≠e->s.heap.get? b=some u->h'.get? b=some u) (M4:∃ u,h'.get? e=some u)
  (new:ObjOk X.prog X.w (upd H x o) h' x o):Inv X pins σ (upd H x o) { s with heap:=h',toks:=t' }:=I.un (Un.write mu he k M4) (I.hok.write mu he k M4 new)
theorem Inv.pins_of {LZ:List (Addr×Obj)} (I:Inv X pins σ H s) (h:∀ p∈LZ,s.heap.get? p.1=some p.2/\H p.1=none/\p.1≠X.env.locals/\p.1∉X.fs/\∀ v,p.2.data≠.cell v):Inv X LZ σ H s:=
 ⟨I.ok,I.os,I.bare,I.base,I.loc,I.cell,I.free,I.freeC,fun p hp=>(List.mem_append.mp hp).elim (fun z=>I.pin p (List.mem_append_left _ z)) (h p),I.hok,I.len⟩
theorem qL {N:List Str} (hN:N.Nodup) {i j:Nat} {x:Str} (a:N[i]?=some x) (b:N[j]?=some x):i=j:=by
 obtain ⟨h1,e1⟩:=List.getElem?_eq_some_iff.mp a
 obtain ⟨h2,e2⟩:=List.getElem?_eq_some_iff.mp b
 exact (List.getElem_inj hN).mp (e1.trans e2.symm)
theorem oD {M:Model} {A:Around} {E:Value->Shared->Prop} {i:Nat} {x:Str} {v:V} {u:Value} {Q:Unit->Shared->Prop} (I:Inv X pins σ H s) (hN:X.N.Nodup) (hi:X.N[i]?=some x) (hx:Loc X.env.scope x) (r:RelV v u)
  (h:∀ s',Inv X pins (σ.set i (some v)) H s'->(∃ a,Heap.SameBut a s.heap s'.heap/\(a=X.env.locals\/X.env.cells.lookup x=some a))->Q () s') (hf:X.fn x=true\/X.env.scope.names.lookup x=some .local:=by first | exact .inl rfl | exact .inr rfl | assumption):wpAny M A (storeName X.env x u) Q E s:=by
 obtain ⟨m,hn,hl⟩:=id I.loc
 have hcls:(X.env.scope.kind == .class || (X.env.scope.kind == .module && X.env.locals != X.env.globals))=false:=by rw [I.ok.kind];rfl
 have hiσ:i < σ.length:=by rw [I.len];exact (List.getElem?_eq_some_iff.mp hi).1
 have cne:=I.cne
 have tracked:∀ {a:Addr} {h':Heap},(∃ o,s.heap.get? a=some o/\H a=none)->Heap.SameBut a s.heap h'->HOk X.prog X.w H h':=fun {a h'} ha hs b ob e=>by
  obtain ⟨_,_,L0⟩:=ha
  refine (I.hok b ob e).stay (fun c w' hc q=>(hs.2 c ?_).trans q) (fun _ q=>q) fun _ _ q=>q
  rintro rfl
  rcases hc with rfl | hc
  ·rw [L0] at e;cases e
  ·rw [L0] at hc;cases hc
 rcases hx with hk | hk
 ·refine wpAny_storeName_local hk hn (fun h' hn' hs=>?_) hcls
  obtain ⟨oL,_,_,hoL,_⟩:=id hn
  refine h _ ⟨I.ok,I.os,I.bare,⟨fun b o e n hb hx=>?_,fun b o e n hb hx=>?_,I.base.free,fun b o e hx=>?_,I.base.tups,I.base.frzs,I.base.tbls⟩,⟨_,hn',fun j y v' e1 e2 e3=>?_⟩,fun y c e=>?_,I.free,I.freeC,fun p hp=>?_,tracked ⟨oL,hoL,I.free⟩ hs,by simpa using I.len⟩ ⟨_,hs,.inl rfl⟩
  ·exact (hs.2 b (Nat.ne_of_lt (Nat.lt_of_lt_of_le (Heap.lt_size e) I.ok.above))).trans (I.base.keep b o e n hb hx)
  ·obtain ⟨sl,e1⟩:=I.base.slot b o e n hb hx
   exact ⟨sl,(hs.2 b (Nat.ne_of_lt (Nat.lt_of_lt_of_le (Heap.lt_size e) I.ok.above))).trans e1⟩
  ·obtain ⟨o',e1⟩:=I.base.there b o e hx
   exact ⟨o',(hs.2 b (Nat.ne_of_lt (Nat.lt_of_lt_of_le (Heap.lt_size e) I.ok.above))).trans e1⟩
  ·by_cases hj:j=i
   ·subst hj
    rw [hi] at e1;cases e1
    rw [List.getElem?_set_self hiσ] at e2
    cases e2
    exact ⟨u,r,.inl ⟨hk,by simp⟩⟩
   ·rw [List.getElem?_set_ne (Ne.symm hj)] at e2
    obtain ⟨u',r',q⟩:=hl j y v' e1 e2 e3
    refine ⟨u',r',?_⟩
    rcases q with ⟨k,e⟩ | ⟨k,c,e,z⟩
    ·refine .inl ⟨k,?_⟩
     have:y≠x:=fun e=>hj (qL hN e1 (e▸hi))
     simp [this,e]
    ·exact .inr ⟨k,c,e,z.sameBut hs (cne y c e)⟩
  ·obtain ⟨w',z⟩:=I.cell y c e
   exact ⟨w',z.sameBut hs (cne y c e)⟩
  ·obtain ⟨e,n,ne,nf,d⟩:=I.pin p hp
   exact ⟨(hs.2 p.1 ne).trans e,n,ne,nf,d⟩
 ·have K9:X.fn x=true:=by
   rcases hf with z | z
   ·exact z
   ·rw [z] at hk;cases hk
  obtain ⟨c,hc⟩:=I.ok.has x (.inl hk)
  obtain ⟨w',z⟩:=I.cell x c hc
  refine wpAny_storeName_cell I.ok.kind hk hc z (fun h' H0 hs=>?_)
  obtain ⟨oc,PX,hocd⟩:=id z
  refine h { s with heap:=h' } ⟨I.ok,I.os,I.bare,⟨fun b o e n hb hx=>?_,fun b o e n hb hx=>?_,I.base.free,fun b o e hx=>?_,I.base.tups,I.base.frzs,I.base.tbls⟩,⟨m,hn.sameBut hs (Ne.symm (cne x c hc)),fun j y v' e1 e2 e3=>?_⟩,fun y c' e=>?_,I.free,I.freeC,fun p hp=>?_,tracked ⟨oc,PX,I.freeC x c hc⟩ hs,by simpa using I.len⟩ ⟨c,hs,.inr hc⟩
  ·exact (hs.2 b (Nat.ne_of_lt (Nat.lt_of_lt_of_le (Heap.lt_size e) (I.ok.cab x c K9 hc)))).trans (I.base.keep b o e n hb hx)
  ·obtain ⟨sl,e1⟩:=I.base.slot b o e n hb hx
   exact ⟨sl,(hs.2 b (Nat.ne_of_lt (Nat.lt_of_lt_of_le (Heap.lt_size e) (I.ok.cab x c K9 hc)))).trans e1⟩
  ·obtain ⟨o',e1⟩:=I.base.there b o e hx
   exact ⟨o',(hs.2 b (Nat.ne_of_lt (Nat.lt_of_lt_of_le (Heap.lt_size e) (I.ok.cab x c K9 hc)))).trans e1⟩
  ·by_cases hj:j=i
   ·subst hj
    rw [hi] at e1;cases e1
    rw [List.getElem?_set_self hiσ] at e2
    cases e2
    exact ⟨u,r,.inr ⟨.inl hk,c,hc,H0⟩⟩
   ·rw [List.getElem?_set_ne (Ne.symm hj)] at e2
    obtain ⟨u',r',q⟩:=hl j y v' e1 e2 e3
    refine ⟨u',r',?_⟩
    rcases q with q | ⟨k,c',e,z'⟩
    ·exact .inl q
    ·refine .inr ⟨k,c',e,z'.sameBut hs ?_⟩
     rintro rfl
     exact hj (qL hN e1 (I.ok.inj _ _ _ e hc▸hi))
  ·by_cases Nn:c'=c
   ·subst Nn;exact ⟨_,H0⟩
   ·obtain ⟨w2,z2⟩:=I.cell y c' e
    exact ⟨w2,z2.sameBut hs Nn⟩
  ·obtain ⟨e,n,ne,nf,d⟩:=I.pin p hp
   refine ⟨(hs.2 p.1 ?_).trans e,n,ne,nf,d⟩
   intro q
   rw [q,PX] at e
   have q':oc=p.2:=Option.some.inj e
   exact d w' (by rw [<-q'];exact hocd)
theorem qM {M:Model} {A:Around} {E:Value->Shared->Prop} {i:Nat} {x:Str} {v:V} {u:Value} {Q:Unit->Shared->Prop} (I:Inv X pins σ H s) (hN:X.N.Nodup) (hi:X.N[i]?=some x) (hx:Loc X.env.scope x) (r:RelV v u)
  (h:∀ s',Inv X pins (σ.set i (some v)) H s'->Q () s') (hf:X.fn x=true\/X.env.scope.names.lookup x=some .local:=by first | exact .inl rfl | exact .inr rfl | assumption):wpAny M A (storeName X.env x u) Q E s:=
 oD I hN hi hx r (fun s' I' _=>h s' I') hf
theorem Inv.call' {s':Shared} {ch:List Addr} (I:Inv X pins σ H s) (ho:s'.os=s.os) (u:Un (Kf X.stack) ch H H' s.heap s'.heap) (hok:HOk X.prog X.w H' s'.heap) (hg:AllBare s'.gens)
  (KY:∀ b∈ch,(b∈X.ex\/X.s₀.heap.objs.size<=b)/\b≠X.env.locals/\(∀ x c,X.env.cells.lookup x=some c->c≠b)/\∀ p∈X.pn++pins,p.1≠b):Inv X pins σ H' s':=by
 obtain ⟨h',g',d',t',o'⟩:=s'
 have e:o'=s.os:=ho
 subst e
 exact I.call (g':=g') (t':=t') (d':=d') u hok hg KY
end
abbrev XK:=Value->Option Addr->Hp->Prop
abbrev St:=List (Option V)
abbrev VK:=V->Hp->Prop
abbrev TE:=St->Hp->VK->Prop
abbrev TT:=St->Hp->(Bool->Hp->Prop)->Prop
abbrev TA:=St->Hp->(List V->Hp->Prop)->Prop
structure Ends where
 nx:St->Hp->Prop
 rt:VK
 bk:St->Hp->Prop:=fun _ _=>False
 ct:St->Hp->Prop:=fun _ _=>False
abbrev TS:=Ends->St->Hp->Prop
def EP (X:Cx) (pins:List (Addr×Obj)) (σ:St) (Q:VK) (u:Value) (s':Shared):Prop:=∃ v H',Inv X pins σ H' s'/\RelV v u/\Q v H'
def TP (X:Cx) (pins:List (Addr×Obj)) (σ:St) (Q:Bool->Hp->Prop) (b:Bool) (s':Shared):Prop:=∃ H',Inv X pins σ H' s'/\Q b H'
def AP (X:Cx) (pins:List (Addr×Obj)) (σ:St) (Q:List V->Hp->Prop) (us:List Value) (s':Shared):Prop:=∃ vs H',Inv X pins σ H' s'/\Vals vs us/\Q vs H'
def SP (X:Cx) (pins:List (Addr×Obj)) (D:Ends) (f:Flow) (s':Shared):Prop:=
 match f with
 | .next=>∃ σ' H',Inv X pins σ' H' s'/\D.nx σ' H'
 | .brk=>∃ σ' H',Inv X pins σ' H' s'/\D.bk σ' H'
 | .cont=>∃ σ' H',Inv X pins σ' H' s'/\D.ct σ' H'
 | .ret u=>∃ v σ' H',Inv X pins σ' H' s'/\RelV v u/\D.rt v H'
def PE (X:Cx) (e:Expr) (t:TE):Prop:=
 ∀ (pins:List (Addr×Obj)) (s:Shared) (σ:St) (H:Hp) (Q:VK),Inv X pins σ H s->t σ H Q->wpAny (model X.prog X.w) X.A (eval e X.env) (EP X pins σ Q) X.xe s
def PT (X:Cx) (e:Expr) (t:TT):Prop:=
 ∀ (pins:List (Addr×Obj)) (s:Shared) (σ:St) (H:Hp) (Q:Bool->Hp->Prop),Inv X pins σ H s->t σ H Q->wpAny (model X.prog X.w) X.A (isTrue e X.env (eval e X.env)) (TP X pins σ Q) X.xe s
def PW (X:Cx) (e:Expr) (t:TT):Prop:=
 ∀ (whole:Sem Value) (pins:List (Addr×Obj)) (s:Shared) (σ:St) (H:Hp) (Q:Bool->Hp->Prop),Inv X pins σ H s->t σ H Q->wpAny (model X.prog X.w) X.A (isTrue e X.env whole) (TP X pins σ Q) X.xe s
theorem PW.pt {X:Cx} {e:Expr} {t:TT} (h:PW X e t):PT X e t:=h _
def PA (X:Cx) (es:List Expr) (t:TA):Prop:=
 ∀ (pos:Pos) (pins:List (Addr×Obj)) (s:Shared) (σ:St) (H:Hp) (Q:List V->Hp->Prop),Inv X pins σ H s->t σ H Q->wpAny (model X.prog X.w) X.A (spliced (backTo pos (starEach es X.env))) (AP X pins σ Q) X.xe s
def PS (X:Cx) (st:Stmt) (t:TS):Prop:=
 ∀ (pins:List (Addr×Obj)) (s:Shared) (σ:St) (H:Hp) (D:Ends),Inv X pins σ H s->t D σ H->wpAny (model X.prog X.w) X.A (exec st X.env) (SP X pins D) X.xe s
def PSs (X:Cx) (st:List Stmt) (t:TS):Prop:=
 ∀ (pins:List (Addr×Obj)) (s:Shared) (σ:St) (H:Hp) (D:Ends),Inv X pins σ H s->t D σ H->wpAny (model X.prog X.w) X.A (execs st X.env) (SP X pins D) X.xe s
theorem F1 {α:Type} {t:Sem α} {Q Q':α->Shared->Prop} {M:Model} {A:Around} {E:Value->Shared->Prop} {s:Shared} (h:wpAny M A t Q E s) (hQ:∀ a s,Q a s->Q' a s):wpAny M A t Q' E s:=wpAny_mono h hQ fun _ _ x=>x
section
variable {X:Cx}
theorem bin {a b:Expr} {ta tb:TE} (ha:PE X a ta) (hb:PE X b tb) {pins:List (Addr×Obj)} {s:Shared} {σ:St} {H:Hp} {R:V->V->Hp->Prop} (I:Inv X pins σ H s) (h:ta σ H fun x H1=>tb σ H1 fun y H2=>R x y H2)
  {α:Type} {Q:α->Shared->Prop} {f:Value->Value->Sem α}
  (hf:∀ v u s2 x y H2,Inv X pins σ H2 s2->RelV x v->RelV y u->R x y H2->wpAny (model X.prog X.w) X.A (f v u) Q X.xe s2) :
  wpAny (model X.prog X.w) X.A (eval a X.env) (fun v s₁=>wpAny (model X.prog X.w) X.A (eval b X.env) (fun u s₂=>wpAny (model X.prog X.w) X.A (f v u) Q X.xe s₂) X.xe s₁) X.xe s:=by
 refine F1 (ha pins s σ H _ I h) fun v s1 F3=>?_
 obtain ⟨x,H1,I1,r1,q1⟩:=F3
 refine F1 (hb pins s1 σ H1 _ I1 q1) fun u s2 F3=>?_
 obtain ⟨y,H2,I2,r2,q2⟩:=F3
 exact hf v u s2 x y H2 I2 r1 r2 q2
noncomputable def wz (i:Nat):TE:=fun σ H Q=>∃ v,σ[i]?=some (some v)/\Q v H
noncomputable def tC (v:V):TE:=fun _ H Q=>Q v H
theorem A6 {i:Nat} {x:Str} {pos:Pos} (hN:X.N[i]?=some x) (hv:OP X.env.scope x) (hd:(x == ("__debug__" : Str))=false:=by decide) (Ko:(x == ("__classdict__" : Str))=false:=by decide):PE X (.Name x pos) (wz i):=by
 intro pins s σ H Q I h
 obtain ⟨v,e,h⟩:=h
 obtain ⟨m,hn,hl⟩:=I.loc
 obtain ⟨u,r,l⟩:=hl i x v hN e hv
 have fin:EP X pins σ Q u s:=⟨v,H,I,r,h⟩
 rcases l with ⟨hk,hm⟩ | ⟨hk,c,hc,Gu⟩
 ·exact wpAny_Name (wpAny_loadName_local I.ok.kind hk hn hm fin) hd
 ·rcases hk with hk | hk
  ·exact wpAny_Name (wpAny_loadName_cell I.ok.kind hk hc Gu fin) hd
  ·exact wpAny_Name (wpAny_loadName_free I.ok.kind hk hc Gu fin Ko) hd
theorem A7 {i j pos}:PE X (.Constant (.int i) j pos) (tC (.int i)):=fun _ _ _ H _ I h=>wpAny_Constant_int ⟨.int i,H,I.tok _,⟨_,rfl⟩,h⟩
theorem Ds {b j pos}:PE X (.Constant (.bool b) j pos) (tC (.bl b)):=fun _ _ _ H _ I h=>Constant_bool ⟨.bl b,H,I,rfl,h⟩
theorem A8 {j pos}:PE X (.Constant .none j pos) (tC .non):=fun _ _ _ H _ I h=>Constant_none ⟨.non,H,I,rfl,h⟩
theorem A9 {x j pos}:PE X (.Constant (.str x) j pos) (tC (.str x)):=fun _ _ _ H _ I h=>Calls.Constant_str ⟨.str x,H,I.tok _,⟨_,rfl⟩,h⟩
def Gl (X:Cx) (x:Str):Prop:=X.env.kindOf x=some .globalImplicit
theorem yE {E:Value->Shared->Prop} {pins:List (Addr×Obj)} {s:Shared} {σ:St} {H:Hp} {x:Str} {u:Value} {pos:Pos} {Q:Value->Shared->Prop} (I:Inv X pins σ H s) (hg:Gl X x) (hm:X.mg x=some u) (h:Q u s)
  (hd:(x == ("__debug__" : Str))=false:=by decide):wpAny (model X.prog X.w) X.A (eval (.Name x pos) X.env) Q E s:=
 Calls.Name_function_global I.ok.kind hg (Calls.loadGlobal_global (by rw [I.ok.glob];exact I.mod.glob.keeps I.bk) hm h) hd
theorem kQ {E:Value->Shared->Prop} {pins:List (Addr×Obj)} {s:Shared} {σ:St} {H:Hp} {x:Str} {u:Value} {pos:Pos} {Q:Value->Shared->Prop} (I:Inv X pins σ H s) (hg:Gl X x) (hm:X.mg x=none) (hv:bootBuiltins x=some u) (h:Q u s)
  (hn:x≠"__name__":=by decide) (hd:(x == ("__debug__" : Str))=false:=by decide):wpAny (model X.prog X.w) X.A (eval (.Name x pos) X.env) Q E s:=by
 obtain ⟨mb,h1,h2⟩:=I.mod.blt
 exact Calls.Name_function_global I.ok.kind hg (Calls.loadGlobal_builtin (by rw [I.ok.glob];exact I.mod.glob.keeps I.bk) hm (by rw [I.ok.blt];exact h1.keeps I.bk) ((h2 x hn).trans hv) h) hd
variable {a b:Expr} {ta tb:TE} {pos:Pos}
def PC (X:Cx) (op:CmpOp) (a b:Expr) (t:TE):Prop:=
 ∀ (pins:List (Addr×Obj)) (s:Shared) (σ:St) (H:Hp) (Q:VK),Inv X pins σ H s->t σ H Q->
  wpAny (model X.prog X.w) X.A (eval a X.env) (fun v s₁=>wpAny (model X.prog X.w) X.A (eval b X.env) (fun u s₂=>wpAny (model X.prog X.w) X.A (compareOp op v u) (EP X pins σ Q) X.xe s₂) X.xe s₁) X.xe s
theorem wA (b:Expr) {op:CmpOp} (h:op≠.In) (h2:op≠.NotIn):behindInMarks op b=false:=by
 have e1:(op == CmpOp.In)=false:=by cases op <;> first | rfl | exact absurd rfl h
 have e2:(op == CmpOp.NotIn)=false:=by cases op <;> first | rfl | exact absurd rfl h2
 cases b <;> simp [behindInMarks,e1,e2]
noncomputable def tB (t:TE):TT:=fun σ H Q=>t σ H fun x H1=>∃ c,x=.bl c/\Q c H1
theorem Ey {op:CmpOp} {t:TE} (h:PC X op a b t) (h1:behindInMarks op b=false:=by first | exact wA _ (by decide) (by decide) | rfl):PT X (.Compare a [op] [b] pos) (tB t):=by
 intro pins s σ H Q I hw
 refine wpAny_isTrue_Compare1 (F1 (h pins s σ H _ I hw) fun v s1 h1=>F1 h1 fun u s2 h2=>F1 h2 fun c s3 ⟨x,H1,I1,r1,q1⟩=>?_) h1
 obtain ⟨d,rfl,q⟩:=q1
 cases r1
 exact wpAny_truthy_bool ⟨H1,I1,q⟩
theorem Ba {e:Expr} {t:TE} (h:PE X e t) (he:∀ whole,isTrue e X.env whole=(do let v <-whole;standAt e.pos;holding [v] (truthy v)):=by intro _;rfl):PT X e (tB t):=by
 intro pins s σ H Q I hw
 refine isTrue_plain (F1 (h pins s σ H _ I hw) fun v s1 ⟨x,H1,I1,r1,q1⟩=>?_) (he _)
 obtain ⟨d,rfl,q⟩:=q1
 cases r1
 exact wpAny_truthy_bool ⟨H1,I1,q⟩
variable {tA Oo:TT} {eL:List Expr}
noncomputable def EL (t u:TT):TT:=fun σ H Q=>t σ H fun c H1=>if c=true then u σ H1 Q else Q false H1
noncomputable def tOr (t u:TT):TT:=fun σ H Q=>t σ H fun c H1=>if c=true then Q true H1 else u σ H1 Q
noncomputable def EM (t:TT):TT:=fun σ H Q=>t σ H fun c H1=>Q (!c) H1
theorem yF (ha:PT X a tA):PW X (.BoolOp .And [a] pos) tA:=by
 intro wh pins s σ H Q I h
 refine isTrue_and (F1 (ha pins s σ H Q I h) fun c s1 e=>?_)
 cases c with
 | true=>exact isTrue_and_nil e
 | false=>exact e
theorem Bb (ha:PT X a tA):PW X (.BoolOp .Or [a] pos) tA:=by
 intro wh pins s σ H Q I h
 refine isTrue_or (F1 (ha pins s σ H Q I h) fun c s1 e=>?_)
 cases c with
 | false=>exact isTrue_or_nil e
 | true=>exact e
theorem Bc (ha:PT X a tA) (hb:PW X (.BoolOp .And (b :: eL) pos) Oo):PW X (.BoolOp .And (a :: b :: eL) pos) (EL tA Oo):=by
 intro wh pins s σ H Q I h
 refine isTrue_and (F1 (ha pins s σ H _ I h) fun c s1 F3=>?_)
 obtain ⟨H1,I1,q1⟩:=F3
 cases c with
 | true=>exact hb wh pins s1 σ H1 Q I1 q1
 | false=>exact ⟨H1,I1,q1⟩
theorem Dt (ha:PT X a tA) (hb:PW X (.BoolOp .Or (b :: eL) pos) Oo):PW X (.BoolOp .Or (a :: b :: eL) pos) (tOr tA Oo):=by
 intro wh pins s σ H Q I h
 refine isTrue_or (F1 (ha pins s σ H _ I h) fun c s1 F3=>?_)
 obtain ⟨H1,I1,q1⟩:=F3
 cases c with
 | true=>exact ⟨H1,I1,q1⟩
 | false=>exact hb wh pins s1 σ H1 Q I1 q1
theorem Be (ha:PT X a tA):PT X (.UnaryOp .Not a pos) (EM tA):=by
 intro pins s σ H Q I h
 exact isTrue_not (ha pins s σ H (fun c H1=>Q (!c) H1) I h)
noncomputable def EN (ta tb:TE):TE:=fun σ H Q=>ta σ H fun x H1=>∃ c,x=.bl c/\if c=true then Q (.bl true) H1 else tb σ H1 Q
theorem Bf {op} {t:TE} (h:PE X a t):PE X (.BoolOp op [a] pos) t:=fun pins s σ H Q I hw=>BoolOp_one (h pins s σ H Q I hw)
theorem Du (ha:PE X a ta) (hb:PE X (.BoolOp .Or (b :: eL) pos) tb):PE X (.BoolOp .Or (a :: b :: eL) pos) (EN ta tb):=by
 intro pins s σ H Q I h
 refine BoolOp_or (F1 (ha pins s σ H _ I h) fun v s1 F3=>?_)
 obtain ⟨x,H1,I1,r1,q1⟩:=F3
 obtain ⟨c,rfl,q1⟩:=q1
 cases r1
 refine wpAny_truthy_bool ?_
 cases c with
 | false=>exact hb pins s1 σ H1 Q I1 q1
 | true=>exact ⟨.bl true,H1,I1,rfl,q1⟩
end
def SqL (K:W.Frag) (H:Hp) (a:Addr) (xs:List V):Prop:=
 Rd H a (.lst xs)\/
  ∃ (o:Obj) (FH:Array Value) (n:Nat),K.lookup a=some o/\o.cls=.type "list"/\o.dict=none/\o.data=.seq FH n/\FH.size<=sizeLine/\Vals xs FH.toList
def SqT (K:W.Frag) (H:Hp) (a:Addr) (xs:List V):Prop:=
 Rd H a (.tup xs)\/
  ∃ (o:Obj) (FH:Array Value) (n:Nat),K.lookup a=some o/\o.cls=.type "tuple"/\o.dict=none/\o.data=.seq FH n/\FH.size<=sizeLine/\Vals xs FH.toList
noncomputable def EO:Value->Option V
 | .none=>some .non
 | .bool b=>some (.bl b)
 | .int i _=>some (.int i)
 | .str x _=>some (.str x)
 | .bytes b _=>some (.byt b)
 | .float b _=>some (.flt b)
 | .ref a=>some (.ref a)
 | .type n=>some (.ty n)
 | _=>none
theorem RelV.abs {x:V} {u:Value} (r:RelV x u):EO u=some x:=by
 cases x with
 | non=>cases r;rfl
 | bl _=>cases r;rfl
 | int _=>obtain ⟨t,rfl⟩:=r;rfl
 | str _=>obtain ⟨t,rfl⟩:=r;rfl
 | byt _=>obtain ⟨t,rfl⟩:=r;rfl
 | flt _=>obtain ⟨t,rfl⟩:=r;rfl
 | ref _=>cases r;rfl
 | ty _=>cases r;rfl
theorem RelV.inj {x y:V} {u:Value} (r:RelV x u) (q:RelV y u):x=y:=Option.some.inj (r.abs.symm.trans q.abs)
theorem Vals.inj:∀ {xs ys:List V} {us:List Value},Vals xs us->Vals ys us->xs=ys
 | _,_,_,.nil,.nil=>rfl
 | _,_,_,.cons r t,.cons r' t'=>by rw [r.inj r',Vals.inj t t']
section
variable {X:Cx} {pins:List (Addr×Obj)} {σ:St} {H:Hp} {s:Shared} {a:Addr} {xs ys:List V}
theorem SqL.of {K:W.Frag} (h:H a=some (.lst xs)):SqL K H a xs:=.inl (.inl h)
theorem SqT.of {K:W.Frag} (h:H a=some (.tup xs)):SqT K H a xs:=.inl (.inl h)
theorem Inv.list (I:Inv X pins σ H s) (h:SqL X.K H a xs):∃ FH:List Value,Vals xs FH/\PlainL s.heap a FH.toArray/\xs.length<=sizeLine:=by
 rcases h with h | ⟨o,FH,n,hk,hc,hd,hs,hz,r⟩
 ·obtain ⟨z,FH,n,r,e⟩:=h.ok I.hok
  exact ⟨FH,r,⟨_,n,e,rfl,rfl,rfl⟩,z⟩
 ·refine ⟨FH.toList,r,⟨o,n,I.kIn a o hk,hc,hd,by simpa using hs⟩,?_⟩
  have e:=r.length
  simp only [Array.length_toList] at e
  lia
theorem Inv.tupleN (I:Inv X pins σ H s) (h:SqT X.K H a xs):∃ FH:List Value,Vals xs FH/\IsTupN s.heap a FH.toArray/\xs.length<=sizeLine:=by
 rcases h with h | ⟨o,FH,n,hk,hc,hdn,hs,hz,r⟩
 ·obtain ⟨z,FH,r,p⟩:=h.ok I.hok
  exact ⟨FH,r,p,z⟩
 ·refine ⟨FH.toList,r,⟨o,I.kIn a o hk,hc,⟨n,by simpa using hs⟩,hdn⟩,?_⟩
  have e:=r.length
  simp only [Array.length_toList] at e
  lia
theorem Inv.tuple (I:Inv X pins σ H s) (h:SqT X.K H a xs):∃ FH:List Value,Vals xs FH/\IsTup s.heap a FH.toArray/\xs.length<=sizeLine:=by
 obtain ⟨FH,r,p,z⟩:=I.tupleN h
 exact ⟨FH,r,p.tup,z⟩
theorem Inv.list_inj (I:Inv X pins σ H s) (h:SqL X.K H a xs) (h':SqL X.K H a ys):xs=ys:=by
 obtain ⟨FH,r,⟨o,n,e,_,_,d⟩,_⟩:=I.list h
 obtain ⟨its',r',⟨o',n',e',_,_,d'⟩,_⟩:=I.list h'
 rw [e] at e';cases e'
 rw [d] at d'
 injection d' with d1 _
 have:FH=its':=by simpa using congrArg Array.toList d1
 subst this
 exact r.inj r'
theorem Inv.tuple_inj (I:Inv X pins σ H s) (h:SqT X.K H a xs) (h':SqT X.K H a ys):xs=ys:=by
 obtain ⟨FH,r,⟨o,e,_,n,d⟩,_⟩:=I.tuple h
 obtain ⟨its',r',⟨o',e',_,n',d'⟩,_⟩:=I.tuple h'
 rw [e] at e';cases e'
 rw [d] at d'
 injection d' with d1 _
 have:FH=its':=by simpa using congrArg Array.toList d1
 subst this
 exact r.inj r'
end
abbrev Cx.wish (X:Cx) (E:Value->Shared->Prop):Cx:={ X with xe:=E }
abbrev Cx.nox (X:Cx):Cx:=X.wish fun _ _=>False
theorem Cx.Ok.wish {X:Cx} (ok:X.Ok) (E:Value->Shared->Prop):(X.wish E).Ok:=
 ⟨ok.mod,ok.kind,ok.glob,ok.blt,ok.above,ok.inj,ok.has,ok.cab,ok.hd,ok.frames,ok.stk,ok.exf,ok.bs,ok.bsz,ok.noex,ok.exfs,ok.funs,ok.frf⟩
theorem Cx.Ok.unwish {X:Cx} {E:Value->Shared->Prop} (ok:(X.wish E).Ok):X.Ok:=
 ⟨ok.mod,ok.kind,ok.glob,ok.blt,ok.above,ok.inj,ok.has,ok.cab,ok.hd,ok.frames,ok.stk,ok.exf,ok.bs,ok.bsz,ok.noex,ok.exfs,ok.funs,ok.frf⟩
section
variable {X:Cx} {pins:List (Addr×Obj)} {σ:St} {H:Hp} {s:Shared} {E:Value->Shared->Prop}
theorem Inv.wish (I:Inv X pins σ H s) (E:Value->Shared->Prop):Inv (X.wish E) pins σ H s:=⟨I.ok.wish E,I.os,I.bare,I.base,I.loc,I.cell,I.free,I.freeC,I.pin,I.hok,I.len⟩
theorem Inv.unwish (I:Inv (X.wish E) pins σ H s):Inv X pins σ H s:=⟨I.ok.unwish,I.os,I.bare,I.base,I.loc,I.cell,I.free,I.freeC,I.pin,I.hok,I.len⟩
theorem SP.unwish {D:Ends} {f:Flow} {s':Shared} (h:SP (X.wish E) pins D f s'):SP X pins D f s':=by
 cases f with
 | next=>obtain ⟨σ',H',I,q⟩:=h;exact ⟨σ',H',I.unwish,q⟩
 | brk=>obtain ⟨σ',H',I,q⟩:=h;exact ⟨σ',H',I.unwish,q⟩
 | cont=>obtain ⟨σ',H',I,q⟩:=h;exact ⟨σ',H',I.unwish,q⟩
 | ret u=>obtain ⟨v,σ',H',I,r,q⟩:=h;exact ⟨v,σ',H',I.unwish,r,q⟩
theorem PSs.nox {st:List Stmt} {t:TS} (h:PSs X.nox st t):PSs X st t:=fun pins s σ H D I hw=>
 wpAny_mono (h pins s σ H D (I.wish _) hw) (fun _ _ q=>q.unwish) fun _ _ z=>False.elim z
end
section
variable {X:Cx} {st:Stmt} {eL:List Stmt} {t u:TS} {e:Expr} {te:TE} {pos:Pos}
noncomputable def Dv:TS:=fun D σ H=>D.nx σ H
noncomputable def ER (t u:TS):TS:=fun D σ H=>t { D with nx:=u D } σ H
theorem yG:PSs X [] Dv:=fun _ _ σ H _ I h=>wpAny_execs_nil ⟨σ,H,I,h⟩
theorem wB (h1:PS X st t) (h2:PSs X eL u):PSs X (st :: eL) (ER t u):=by
 intro pins s σ H D I h
 refine wpAny_execs_cons (F1 (h1 pins s σ H { D with nx:=u D } I h) fun f s1 q=>?_)
 cases f with
 | next=>
  obtain ⟨σ',H',I',q⟩:=q
  exact h2 pins s1 σ' H' D I' q
 | ret v=>exact q
 | brk=>exact q
 | cont=>exact q
theorem yH (h1:PS X st t):PSs X [st] t:=by
 intro pins s σ H D I h
 refine wpAny_execs_cons (F1 (h1 pins s σ H D I h) fun f s1 q=>?_)
 cases f with
 | next=>exact wpAny_execs_nil q
 | ret v=>exact q
 | brk=>exact q
 | cont=>exact q
theorem Inv.quiet {pins:List (Addr×Obj)} {σ:St} {H:Hp} {s:Shared} (I:Inv X pins σ H s):interactive X.env=false:=by simp [interactive,I.ok.kind]
noncomputable def Dw (te:TE):TS:=fun D σ H=>te σ H fun _ H1=>D.nx σ H1
theorem yI (he:PE X e te) (hs:swapsWith e none pos.line X.env=pure false:=by rfl):PS X (.Expr e pos) (Dw te):=by
 intro pins s σ H D I h
 exact wpAny_Expr_any (F1 (he pins s σ H _ I h) fun v s1 ⟨x,H1,I1,r1,q1⟩=>⟨σ,H1,I1,q1⟩) I.quiet hs
noncomputable def ES (te:TE):TS:=fun D σ H=>te σ H D.rt
theorem Bg (he:PE X e te):PS X (.Return (some e) pos) (ES te):=by
 intro pins s σ H D I h
 exact wpAny_Return_some (F1 (he pins s σ H _ I h) fun v s1 ⟨x,H1,I1,r1,q1⟩=>⟨x,σ,H1,I1,r1,q1⟩)
noncomputable def ET (c:TT) (t u:TS):TS:=fun D σ H=>c σ H fun b H1=>if b=true then t D σ H1 else u D σ H1
theorem Dx {c:Expr} {a b:List Stmt} {tc:TT} (hc:PT X c tc) (ha:PSs X a t) (hb:PSs X b u):PS X (.If c a b pos) (ET tc t u):=by
 intro pins s σ H D I h
 refine wpAny_If (F1 (hc pins s σ H _ I h) fun d s1 F3=>?_)
 obtain ⟨H1,I1,q1⟩:=F3
 cases d with
 | true=>exact ha pins s1 σ H1 D I1 q1
 | false=>exact hb pins s1 σ H1 D I1 q1
noncomputable def Bh:TS:=fun _ _ _=>False
theorem wC:PS X st Bh:=fun _ _ _ _ _ _ h=>h.elim
end
abbrev TG:=V->St->Hp->(St->Hp->Prop)->Prop
abbrev L1:=List V->St->Hp->(St->Hp->Prop)->Prop
def PG (X:Cx) (target:Expr) (t:TG):Prop:=
 ∀ (pins:List (Addr×Obj)) (s:Shared) (σ:St) (H:Hp) (v:V) (u:Value) (Q:St->Hp->Prop),Inv X pins σ H s->RelV v u->t v σ H Q->
  wpAny (model X.prog X.w) X.A (assign target X.env u) (fun _ s'=>∃ σ' H',Inv X pins σ' H' s'/\Q σ' H') X.xe s
def Me (X:Cx) (ts:List Expr) (t:L1):Prop:=
 ∀ (pins:List (Addr×Obj)) (s:Shared) (σ:St) (H:Hp) (vs:List V) (us:List Value) (Q:St->Hp->Prop),Inv X pins σ H s->Vals vs us->t vs σ H Q->
  wpAny (model X.prog X.w) X.A (assignInOrder ((assignEach ts X.env).map (·.2)) us) (fun _ s'=>∃ σ' H',Inv X pins σ' H' s'/\Q σ' H') X.xe s
abbrev EU:=V->V->V->Hp->(Hp->Prop)->Prop
def EV (X:Cx) (t:EU):Prop:=
 ∀ (pins:List (Addr×Obj)) (s:Shared) (σ:St) (H:Hp) (o i v:V) (ov iv u:Value) (Q:Hp->Prop),Inv X pins σ H s->RelV o ov->RelV i iv->RelV v u->t o i v H Q->
  wpAny (model X.prog X.w) X.A (setItem ov iv u) (fun _ s'=>∃ H',Inv X pins σ H' s'/\Q H') X.xe s
section
variable {X:Cx} {pos:Pos}
noncomputable def Bi (i:Nat):TG:=fun v σ H Q=>Q (σ.set i (some v)) H
theorem yJ {i:Nat} {x:Str} (hN:X.N.Nodup) (hi:X.N[i]?=some x) (hx:Loc X.env.scope x) (hf:X.fn x=true\/X.env.scope.names.lookup x=some .local:=by first | exact .inl rfl | exact .inr rfl | assumption):PG X (.Name x pos) (Bi i):=by
 intro pins s σ H v u Q I r h
 exact wpAny_assign_Name (qM I hN hi hx r (fun s' I'=>⟨_,H,I',h⟩) hf)
noncomputable def EW:L1:=fun vs σ H Q=>vs=[]/\Q σ H
noncomputable def Dy (t:TG) (u:L1):L1:=fun vs σ H Q=>∃ v r,vs=v :: r/\t v σ H fun σ' H'=>u r σ' H' Q
theorem yK:Me X [] EW:=by
 intro pins s σ H vs us Q I r h
 obtain ⟨e,h⟩:=h
 subst e
 cases r
 exact assignInOrder_nil ⟨σ,H,I,h⟩
theorem wF {e:Expr} {es:List Expr} {t:TG} {u:L1} (h1:PG X e t) (h2:Me X es u)
  (hs:(assignEach (e :: es) X.env).map (·.2)=assign e X.env :: (assignEach es X.env).map (·.2):=by rfl):Me X (e :: es) (Dy t u):=by
 intro pins s σ H vs us Q I r h
 obtain ⟨v,vr,e1,h⟩:=h
 subst e1
 cases r with
 | cons r rr=>
  rw [hs]
  refine assignInOrder_cons (F1 (h1 pins s σ H _ _ _ I r h) fun _ s1 F3=>?_)
  obtain ⟨σ1,H1,I1,q1⟩:=F3
  exact h2 pins s1 σ1 H1 _ _ Q I1 rr q1
noncomputable def EX (K:W.Frag) (n:Nat) (t:L1):TG:=fun v σ H Q=>∃ a xs,v=.ref a/\SqT K H a xs/\xs.length=n/\t xs σ H Q
theorem Bj {es:List Expr} {k:Nat} {t:L1} {n:Nat} (hc:X.calm=true) (h:Me X es t)
  (hn:(assignEach es X.env).length=n:=by rfl) (JS:(assignEach es X.env).findIdx? (·.1)=none:=by rfl):PG X (.Tuple es k pos) (EX X.K n t):=by
 intro pins s σ H v u Q I r hw
 obtain ⟨a,xs,e1,hq,hl,hw⟩:=hw
 subst e1
 cases r
 obtain ⟨FH,rv,ht,hz⟩:=I.tuple hq
 refine assign_Tuple_tuple (I.ok.hd hc) ht (by simp [hn,<-hl,rv.length]) JS fun h' hx=>?_
 have I1:Inv X pins σ H { s with heap:=h' }:=I.kept (t':=s.toks) fun b o e=>hx b o (Nat.ne_of_lt (Heap.lt_size e)) e
 exact h pins _ σ H xs _ Q I1 (by simpa using rv) hw
noncomputable def Ez (te:TE) (g:TG):TS:=fun D σ H=>te σ H fun x H1=>g x σ H1 D.nx
theorem Bk {tg e:Expr} {te:TE} {g:TG} (he:PE X e te) (hg:PG X tg g) (hs:swapsWithSole [tg] e pos.line X.env=pure false:=by rfl) (hw:swappedStores [tg] e X.env=pure none:=by rfl)
  (h1:(assignEach [tg] X.env).map (·.2)=[assign tg X.env]:=by rfl):PS X (.Assign [tg] e pos) (Ez te g):=by
 intro pins s σ H D I h
 refine wpAny_Assign_stores (F1 (he pins s σ H _ I h) fun v s1 ⟨x,H1,I1,r1,q1⟩=>?_) hs hw
 rw [h1]
 exact F1 (hg pins s1 σ H1 x v _ I1 r1 q1) fun _ s2 q=>q
theorem Bl {i:Nat} {x:Str} {e:Expr} {te:TE} {pos':Pos} (hN:X.N.Nodup) (hi:X.N[i]?=some x) (hx:Loc X.env.scope x) (he:PE X e te) (hs:swapsWith e (some (.Name x pos')) pos.line X.env=pure false:=by rfl) (hf:X.fn x=true\/X.env.scope.names.lookup x=some .local:=by first | exact .inl rfl | exact .inr rfl | assumption) :
  PS X (.Assign [.Name x pos'] e pos) (Ez te (Bi i)):=by
 intro pins s σ H D I h
 refine wpAny_Assign_Name (F1 (he pins s σ H _ I h) fun v s1 ⟨y,H1,I1,r1,q1⟩=>?_) hs
 exact qM I1 hN hi hx r1 (fun s2 I2=>⟨_,H1,I2,q1⟩) hf
end
section
variable {X:Cx} {pos:Pos}
noncomputable def Bm (c:TT) (tb:TS):TS:=fun D σ H=>∃ W:Nat->St->Hp->Prop,(∃ m,W m σ H)/\∀ m σ H,W m σ H->
 c σ H fun b H1=>if b=true then ∃ N:St->Hp->Prop,(∀ σ' H',N σ' H'->∃ m',m' < m/\W m' σ' H')/\tb { D with nx:=N,ct:=N,bk:=D.nx } σ H1 else D.nx σ H1
theorem wG {c:Expr} {body:List Stmt} {tc:TT} {tb:TS} (hp:PassesOwn (model X.prog X.w) X.A X.env X.xe) (hc:PT X c tc) (hb:PSs X body tb):PS X (.While c body [] pos) (Bm tc tb):=by
 intro pins s σ H D I h
 obtain ⟨W,⟨m0,w0⟩,turn⟩:=h
 refine wpAny_While (codeAny_whileLoop (fun n s'=>∃ σ' H',Inv X pins σ' H' s'/\W n σ' H') ?_ m0 ⟨σ,H,I,w0⟩)
 rintro n s1 ⟨σ1,H1,I1,w1⟩
 refine wpAny_passesOwn hp (F1 (hc pins s1 σ1 H1 _ I1 (turn n σ1 H1 w1)) fun b s2 F3=>?_)
 obtain ⟨H2,I2,q2⟩:=F3
 cases b with
 | true=>
  obtain ⟨N,hN,q2⟩:=q2
  rw [if_pos rfl]
  refine wpAny_passesOwn hp (F1 (hb pins s2 σ1 H2 _ I2 q2) fun f s3 q3=>?_)
  cases f with
  | next=>
   obtain ⟨σ3,H3,I3,n3⟩:=q3
   obtain ⟨m',hm,w3⟩:=hN σ3 H3 n3
   exact ⟨m',hm,σ3,H3,I3,w3⟩
  | cont=>
   obtain ⟨σ3,H3,I3,n3⟩:=q3
   obtain ⟨m',hm,w3⟩:=hN σ3 H3 n3
   exact ⟨m',hm,σ3,H3,I3,w3⟩
  | brk=>exact q3
  | ret v=>exact q3
 | false=>
  rw [if_neg Bool.false_ne_true]
  exact wpAny_execs_nil ⟨σ1,H2,I2,q2⟩
end
structure It where
 go:Nat->Hp->Prop
 yld:Nat->Hp->V->Hp->Prop
 stop:Nat->Hp->Prop
def tJ (X:Cx) (pins:List (Addr×Obj)) (H:Hp) (b:Addr):Prop:=
 H b=none/\b≠X.env.locals/\b∉X.fs/\(b∈X.ex\/X.s₀.heap.objs.size<=b)/\(∀ x c,X.env.cells.lookup x=some c->c≠b)/\∀ p∈X.pn++pins,p.1≠b
theorem Inv.fpOk {X:Cx} {pins:List (Addr×Obj)} {σ:St} {H H':Hp} {s:Shared} {b:Addr} (I:Inv X pins σ H s) (hb:s.heap.objs.size<=b) (hn:H' b=none):tJ X pins H' b:=by
 refine ⟨hn,Nat.ne_of_gt (Nat.lt_of_lt_of_le I.lt hb),I.nofs hb,.inr (Nat.le_trans I.sz hb),fun x c e z=>?_,fun p hp z=>?_⟩
 ·obtain ⟨v,q⟩:=I.cell x c e
  exact absurd (Nat.lt_of_lt_of_le q.lt (by rw [z];exact hb)) (Nat.lt_irrefl _)
 ·exact absurd (Nat.lt_of_lt_of_le (Heap.lt_size (I.pin p hp).1) (by rw [z];exact hb)) (Nat.lt_irrefl _)
structure Turn (P:Program) (w:World) (K:W.Frag) (tg:Expr) (J:It) (fp:List Addr) (it:Addr) (tn:Nat->Heap->Prop):Prop where
 mem:it∈fp
 obj:∀ i h,tn i h->∀ b∈fp,∃ o,h.get? b=some o/\∀ v,o.data≠.cell v
 keep:∀ i h h',tn i h->(∀ b∈fp,∀ o,h.get? b=some o->h'.get? b=some o)->tn i h'
 item:∀ (X:Cx),X.prog=P->X.w=w->X.K=K->X.calm=true->∀ (i:Nat) (pins:List (Addr×Obj)) (s:Shared) (σ:St) (H:Hp) (E:Value->Shared->Prop),Inv X pins σ H s->(∀ b∈fp,tJ X pins H b)->tn i s.heap->J.go i H->
  wpAny (model P w) X.A (pyNext (.ref it)) (fun r s1=>∃ u,r=some u/\
   wpAny (model P w) X.A (letOwnedTupleGo tg (.ref it) u) (fun _ s2=>∃ x H',Inv X pins σ H' s2/\RelV x u/\J.yld i H x H'/\tn (i + 1) s2.heap/\∀ b∈fp,H' b=none) E s1) E s
 done:∀ (X:Cx),X.prog=P->X.w=w->X.K=K->X.calm=true->∀ (i:Nat) (pins:List (Addr×Obj)) (s:Shared) (σ:St) (H:Hp) (E:Value->Shared->Prop),Inv X pins σ H s->(∀ b∈fp,tJ X pins H b)->tn i s.heap->J.stop i H->
  wpAny (model P w) X.A (pyNext (.ref it)) (fun r s1=>r=none/\Inv X pins σ H s1) E s
 self:∀ (A:Around) (i:Nat) (s:Shared) (Q:Value->Shared->Prop) (E:Value->Shared->Prop),tn i s.heap->Q (.ref it) s->wpAny (model P w) A (pyIter (.ref it)) Q E s
abbrev TI:=St->Hp->(It->Hp->Prop)->Prop
def PY (X:Cx) (pins:List (Addr×Obj)) (σ:St) (tg:Expr) (R:It->Hp->Prop) (Oq:Value) (s2:Shared):Prop:=
 ∃ (it:Addr) (fp:List Addr) (tn:Nat->Heap->Prop) (J:It) (H':Hp),Oq=.ref it/\Inv X pins σ H' s2/\Turn X.prog X.w X.K tg J fp it tn/\tn 0 s2.heap/\(∀ b∈fp,tJ X pins H' b)/\R J H'
def PI (X:Cx) (tg iter:Expr) (wi:TI):Prop:=
 ∀ (pins:List (Addr×Obj)) (s:Shared) (σ:St) (H:Hp) (R:It->Hp->Prop),Inv X pins σ H s->wi σ H R->
  wpAny (model X.prog X.w) X.A (eval iter X.env) (fun v s1=>wpAny (model X.prog X.w) X.A (pyIter v) (PY X pins σ tg R) X.xe s1) X.xe s
theorem wH {M : Model} {A : Around} {E : Value -> Shared -> Prop} {s : Shared} {tg : Expr} {it : Addr} {u : Value} {o : Obj} {n : String} {vs : Array Value} {Q : Unit -> Shared -> Prop} (ho : s.heap.get? it = some o) (hc : o.cls = .type n) (hd : o.data = .fields vs)
    (hn : ["enumerate", "zip", "dict_itemiterator", "dict_reverseitemiterator", "odict_iterator", "itertools.zip_longest", "itertools.pairwise"].contains n = false) (hQ : Q () s) : wpAny M A (letOwnedTupleGo tg (.ref it) u) Q E s := by
  unfold letOwnedTupleGo
  cases tg <;> first
    | exact wpAny_pure hQ
    | (cases u <;> first
        | exact wpAny_pure hQ
        | (refine wpAny_bind (wpAny_load ho ?_)
           rw [hc, hd]
           show wpAny M A (if (["enumerate", "zip", "dict_itemiterator", "dict_reverseitemiterator", "odict_iterator", "itertools.zip_longest", "itertools.pairwise"].contains n && vs[0]? == some (rawInt _)) = true then _ else _) Q E s
           rw [if_neg (by intro h; rw [hn, Bool.false_and] at h; cases h)]
           exact wpAny_pure hQ))
noncomputable def M5 (K:W.Frag) (a:Addr):It:=
 ⟨fun i H=>∃ xs x,SqL K H a xs/\xs[i]?=some x,fun i H x H'=>H'=H/\∀ xs,SqL K H a xs->xs[i]?=some x,fun i H=>∃ xs,SqL K H a xs/\xs.length<=i⟩
noncomputable def OR (K:W.Frag) (a:Addr):It:=
 ⟨fun i H=>∃ xs x,SqT K H a xs/\xs[i]?=some x,fun i H x H'=>H'=H/\∀ xs,SqT K H a xs->xs[i]?=some x,fun i H=>∃ xs,SqT K H a xs/\xs.length<=i⟩
noncomputable def Np (lo:Int) (n:Nat):It:=⟨fun i _=>i < n,fun i H x H'=>H'=H/\x=.int (lo + i),fun i _=>n<=i⟩
theorem tV {P:Program} {w:World} {K:W.Frag} {tg:Expr} (a it:Addr):Turn P w K tg (M5 K a) [it] it (fun i h=>h.IsListIter it a i) where
 mem:=by simp
 obj:=fun i h st b hb=>by
  have e:b=it:=by simpa using hb
  subst e
  obtain ⟨o,e,c,d⟩:=st
  exact ⟨o,e,fun v z=>by rw [d] at z;cases z⟩
 keep:=fun i h h' st k=>st.at fun o e=>k it (by simp) o e
 item:=by
  intro X hP hw hK hc i pins s σ H E I hf st hg
  subst hP hw hK
  obtain ⟨xs,x,hq,hx⟩:=hg
  obtain ⟨FH,rv,p,hz⟩:=I.list hq
  obtain ⟨u,hu,ru⟩:=rv.get hx
  obtain ⟨f0,f1,f2,f3,f4,f5⟩:=hf it (by simp)
  refine wpAny_pyNext_list_item st p.isList (x:=u) (by simpa using hu) fun h' HG sb=>?_
  have I1:Inv X pins σ H { s with heap:=h' }:=I.turned (t':=s.toks) (fun b o hb e=>(sb.2 b hb).trans e) f0 f1 f3 f4 f5
  obtain ⟨o,e,c,d⟩:=id HG
  exact ⟨u,rfl,wH (s:={ s with heap:=h' }) e c d (by decide) ⟨x,H,I1,ru,⟨rfl,fun ys hy=>by rw [I.list_inj hy hq];exact hx⟩,HG,fun b hb=>(hf b hb).1⟩⟩
 done:=by
  intro X hP hw hK hc i pins s σ H E I hf st hg
  subst hP hw hK
  obtain ⟨xs,hq,hx⟩:=hg
  obtain ⟨FH,rv,p,hz⟩:=I.list hq
  obtain ⟨f0,f1,f2,f3,f4,f5⟩:=hf it (by simp)
  have hl:=rv.length
  exact wpAny_pyNext_list_end (I.ok.hd hc) st p.isList (by simp;lia) fun h' eb=>⟨rfl,I.turned (t':=s.toks) (fun b o hb e=>eb b o hb e) f0 f1 f3 f4 f5⟩
 self:=fun _ _ _ _ _ st h=>wpAny_pyIter_listiter st h
theorem sv {P:Program} {w:World} {K:W.Frag} {tg:Expr} (a it:Addr):Turn P w K tg (OR K a) [it] it (fun i h=>h.IsTupleIter it a i) where
 mem:=by simp
 obj:=fun i h st b hb=>by
  have e:b=it:=by simpa using hb
  subst e
  obtain ⟨o,e,c,d⟩:=st
  exact ⟨o,e,fun v z=>by rw [d] at z;cases z⟩
 keep:=fun i h h' st k=>st.at fun o e=>k it (by simp) o e
 item:=by
  intro X hP hw hK hc i pins s σ H E I hf st hg
  subst hP hw hK
  obtain ⟨xs,x,hq,hx⟩:=hg
  obtain ⟨FH,rv,p,hz⟩:=I.tuple hq
  obtain ⟨u,hu,ru⟩:=rv.get hx
  obtain ⟨f0,f1,f2,f3,f4,f5⟩:=hf it (by simp)
  refine wpAny_pyNext_tuple_item st (show s.heap.IsTuple a FH.toArray from p) (x:=u) (by simpa using hu) fun h' HG sb=>?_
  have I1:Inv X pins σ H { s with heap:=h' }:=I.turned (t':=s.toks) (fun b o hb e=>(sb.2 b hb).trans e) f0 f1 f3 f4 f5
  obtain ⟨o,e,c,d⟩:=id HG
  exact ⟨u,rfl,wH (s:={ s with heap:=h' }) e c d (by decide) ⟨x,H,I1,ru,⟨rfl,fun ys hy=>by rw [I.tuple_inj hy hq];exact hx⟩,HG,fun b hb=>(hf b hb).1⟩⟩
 done:=by
  intro X hP hw hK hc i pins s σ H E I hf st hg
  subst hP hw hK
  obtain ⟨xs,hq,hx⟩:=hg
  obtain ⟨FH,rv,p,hz⟩:=I.tuple hq
  obtain ⟨f0,f1,f2,f3,f4,f5⟩:=hf it (by simp)
  have hl:=rv.length
  exact wpAny_pyNext_tuple_end (I.ok.hd hc) st (show s.heap.IsTuple a FH.toArray from p) (by simp;lia) fun h' eb=>⟨rfl,I.turned (t':=s.toks) (fun b o hb e=>eb b o hb e) f0 f1 f3 f4 f5⟩
 self:=fun _ _ _ _ _ st h=>wpAny_pyIter_tupleiter st h
theorem sH {P:Program} {w:World} {K:W.Frag} {tg:Expr} (it:Addr) (lo:Int) (n:Nat):Turn P w K tg (Np lo n) [it] it (fun i h=>IsRangeIter h it (lo + (i:Nat) * 1) ((n:Int) - (i:Nat)) 1) where
 mem:=by simp
 obj:=fun i h st b hb=>by
  have e:b=it:=by simpa using hb
  subst e
  exact ⟨_,st,fun v z=>by
   have z':Data.fields _=Data.cell v:=z
   cases z'⟩
 keep:=fun i h h' st k=>k it (by simp) _ st
 item:=by
  intro X hP hw hK hc i pins s σ H E I hf st hg
  subst hP hw hK
  obtain ⟨f0,f1,f2,f3,f4,f5⟩:=hf it (by simp)
  have W:=Walks.range (prog:=X.prog) (w:=X.w) (I.ok.hd hc) it lo 1 n
  refine W.item i s _ _ hg st fun v h' tk hv HG kk=>?_
  obtain ⟨t,rfl⟩:=hv
  have I1:Inv X pins σ H { s with heap:=h',toks:=tk }:=I.turned (fun b o hb e=>kk b o (by simpa using hb) e) f0 f1 f3 f4 f5
  refine ⟨_,rfl,wH (s:={ s with heap:=h',toks:=tk }) (n:="range_iterator") HG rfl rfl (by decide) ⟨.int (lo + i),H,I1,⟨t,?_⟩,⟨rfl,rfl⟩,HG,fun b hb=>(hf b hb).1⟩⟩
  rw [Int.mul_one]
 done:=by
  intro X hP hw hK hc i pins s σ H E I hf st hg
  subst hP hw hK
  obtain ⟨f0,f1,f2,f3,f4,f5⟩:=hf it (by simp)
  exact wpAny_pyNext_range_end (I.ok.hd hc) st (by have:n<=i:=hg;lia) fun h' eb=>⟨rfl,I.turned (t':=s.toks) (fun b o hb e=>eb b o hb e) f0 f1 f3 f4 f5⟩
 self:=fun _ _ _ _ _ st h=>wpAny_pyIter_rangeiter st h
section
variable {X:Cx} {tg:Expr}
noncomputable def Dz (K:W.Frag) (tl:TE):TI:=fun σ H R=>tl σ H fun x H1=>∃ a,x=.ref a/\(∃ xs,SqL K H1 a xs)/\R (M5 K a) H1
noncomputable def EY (K:W.Frag) (tl:TE):TI:=fun σ H R=>tl σ H fun x H1=>∃ a,x=.ref a/\(∃ xs,SqT K H1 a xs)/\R (OR K a) H1
theorem tW {l:Expr} {tl:TE} (hl:PE X l tl):PI X tg l (Dz X.K tl):=by
 intro pins s σ H R I h
 refine F1 (hl pins s σ H _ I h) fun v s1 F3=>?_
 obtain ⟨x,H1,I1,r1,q1⟩:=F3
 obtain ⟨a,e,⟨xs,hq⟩,q⟩:=q1
 subst e
 cases r1
 obtain ⟨FH,rv,p,hz⟩:=I1.list hq
 refine wpAny_pyIter_list p.isList ?_
 refine ⟨s1.heap.objs.size,[s1.heap.objs.size],_,_,H1,rfl,I1.kept (t':=s1.toks) fun b o e=>Heap.get?_push_of_some _ e,tV a _,⟨_,Heap.get?_push_size _ rfl,rfl,rfl⟩,fun b hb=>?_,q⟩
 have e:b=s1.heap.objs.size:=by simpa using hb
 subst e
 exact I1.fpOk (Nat.le_refl _) (I1.hok.fresh (Nat.le_refl _))
theorem Bn {l:Expr} {tl:TE} (hl:PE X l tl):PI X tg l (EY X.K tl):=by
 intro pins s σ H R I h
 refine F1 (hl pins s σ H _ I h) fun v s1 F3=>?_
 obtain ⟨x,H1,I1,r1,q1⟩:=F3
 obtain ⟨a,e,⟨xs,hq⟩,q⟩:=q1
 subst e
 cases r1
 obtain ⟨FH,rv,p,hz⟩:=I1.tuple hq
 refine wpAny_pyIter_tuple (show s1.heap.IsTuple a FH.toArray from p) ?_
 refine ⟨s1.heap.objs.size,[s1.heap.objs.size],_,_,H1,rfl,I1.kept (t':=s1.toks) fun b o e=>Heap.get?_push_of_some _ e,sv a _,⟨_,Heap.get?_push_size _ rfl,rfl,rfl⟩,fun b hb=>?_,q⟩
 have e:b=s1.heap.objs.size:=by simpa using hb
 subst e
 exact I1.fpOk (Nat.le_refl _) (I1.hok.fresh (Nat.le_refl _))
theorem qN {pins:List (Addr×Obj)} {σ:St} {H:Hp} {s:Shared} {R:It->Hp->Prop} {E:Value->Shared->Prop} {lo hi:Int} {t u v:Tok} {tk:Nat} (I:Inv X pins σ H s) (h1 : -(2 ^ 62)<=lo) (h2:lo < 2 ^ 62) (h3 : -(2 ^ 62)<=hi) (h4:hi < 2 ^ 62)
  (q:R (Np lo (hi - lo).toNat) H):wpAny (model X.prog X.w) X.A (pyIter (.ref s.heap.objs.size)) (PY X pins σ tg R) E { s with heap:=s.heap.push { cls:=.type "range",data:=.fields #[.int lo t,.int hi u,.int 1 v] },toks:=tk }:=by
 refine wpAny_pyIter_range (IsRange.new ..) (small_one h1 h2 h3 h4) ?_
 have I1:Inv X pins σ H { s with heap:=s.heap.push { cls:=.type "range",data:=.fields #[.int lo t,.int hi u,.int 1 v] },toks:=tk }:=I.kept fun b o e=>Heap.get?_push_of_some _ e
 refine ⟨(s.heap.push { cls:=.type "range",data:=.fields #[.int lo t,.int hi u,.int 1 v] }).objs.size,[(s.heap.push { cls:=.type "range",data:=.fields #[.int lo t,.int hi u,.int 1 v] }).objs.size],_,_,H,rfl,
  I1.kept (t':=tk) fun b o e=>Heap.get?_push_of_some _ e,sH _ lo (hi - lo).toNat,?_,fun b hb=>?_,q⟩
 ·have e1:lo + ((0:Nat):Int) * 1=lo:=by simp
  have e2:(((hi - lo).toNat:Nat):Int) - ((0:Nat):Int)=Builtin.Range.rangeSize lo hi 1:=by rw [rangeSize_one];split <;> lia
  show IsRangeIter _ _ (lo + ((0:Nat):Int) * 1) ((((hi - lo).toNat:Nat):Int) - ((0:Nat):Int)) 1
  rw [e1,e2]
  exact Heap.get?_push_size _ rfl
 ·have e:b=(s.heap.push { cls:=.type "range",data:=.fields #[.int lo t,.int hi u,.int 1 v] }).objs.size:=by simpa using hb
  subst e
  exact I1.fpOk (Nat.le_refl _) (I1.hok.fresh (Nat.le_refl _))
noncomputable def DA (ta:TA):TI:=fun σ H R=>ta σ H fun vs H1=>∃ j:Int,vs=[.int j]/\-(2 ^ 62)<=j/\j < 2 ^ 62/\R (Np 0 j.toNat) H1
noncomputable def DB (ta:TA):TI:=fun σ H R=>ta σ H fun vs H1=>∃ i j:Int,vs=[.int i,.int j]/\(-(2 ^ 62)<=i/\i < 2 ^ 62/\-(2 ^ 62)<=j/\j < 2 ^ 62)/\R (Np i (j - i).toNat) H1
theorem tX {a:Expr} {ta:TA} {p pos:Pos} (hg:Gl X "range") (hm:X.mg "range" = none) (ha:PA X [a] ta) (hs:starEach [a] X.env=[(false,eval a X.env)]:=by rfl):PI X tg (.Call (.Name "range" p) [a] [] pos) (DA ta):=by
 intro pins s σ H R I h
 refine Call_ (kQ I hg hm boot_range (PyProof.Rows.callWith_type1 (F1 (ha pos pins s σ H _ I h) fun us s1 ⟨vs,H1,I1,r1,q1⟩=>?_) hs rfl))
 obtain ⟨j,e,q1,q2,q⟩:=q1
 subst e
 cases r1 with
 | cons r rr=>
  cases rr
  obtain ⟨t,rfl⟩:=r
  exact call_range_1 (qN I1 (by lia) (by lia) q1 q2 (by simpa using q))
theorem tY {a b:Expr} {ta:TA} {p pos:Pos} (hg:Gl X "range") (hm:X.mg "range" = none) (ha:PA X [a,b] ta) (hs:starEach [a,b] X.env=[(false,eval a X.env),(false,eval b X.env)]:=by rfl) (M6:starEach [b] X.env=[(false,eval b X.env)]:=by rfl) :
  PI X tg (.Call (.Name "range" p) [a,b] [] pos) (DB ta):=by
 intro pins s σ H R I h
 refine Call_ (kQ I hg hm boot_range (PyProof.Rows.callWith_type1 (F1 (ha pos pins s σ H _ I h) fun us s1 ⟨vs,H1,I1,r1,q1⟩=>?_) (by rw [hs,M6]) (by rw [M6];rfl)))
 obtain ⟨i,j,e,⟨q1,q2,q3,q4⟩,q⟩:=q1
 subst e
 cases r1 with
 | cons r rr=>
  cases rr with
  | cons r' rr=>
   cases rr
   obtain ⟨t,rfl⟩:=r
   obtain ⟨t',rfl⟩:=r'
   exact call_range_2 (qN I1 q1 q2 q3 q4 q)
noncomputable def EZ (wi:TI) (g:TG) (tb:TS):TS:=fun D σ H=>wi σ H fun J H1=>∃ W:Nat->Nat->St->Hp->Prop,(∃ m,W 0 m σ H1)/\∀ i m σ H,W i m σ H->
 (J.stop i H/\D.nx σ H)\/(J.go i H/\∃ N:St->Hp->Prop,(∀ σ' H',N σ' H'->∃ m',m' < m/\W (i + 1) m' σ' H')/\∀ x H',J.yld i H x H'->g x σ H' fun σ2 H2=>tb { D with nx:=N,ct:=N,bk:=D.nx } σ2 H2)
noncomputable def oE (fp:List Addr) (h:Heap):List (Addr×Obj):=fp.filterMap fun b=>(h.get? b).map fun o=>(b,o)
theorem il {fp:List Addr} {h:Heap} {b:Addr} {o:Obj} (hb:b∈fp) (e:h.get? b=some o):(b,o)∈oE fp h:=List.mem_filterMap.mpr ⟨b,hb,by rw [e];rfl⟩
theorem tZ {fp:List Addr} {h:Heap} {p:Addr×Obj} (hp:p∈oE fp h):p.1∈fp/\h.get? p.1=some p.2:=by
 obtain ⟨b,hb,e⟩:=List.mem_filterMap.mp hp
 cases q:h.get? b with
 | none=>rw [q] at e;cases e
 | some o=>
  rw [q] at e
  have e':(b,o)=p:=Option.some.inj e
  subst e'
  exact ⟨hb,q⟩
theorem Inv.pinned {pins:List (Addr×Obj)} {σ:St} {H:Hp} {s:Shared} {fp:List Addr} (I:Inv X pins σ H s) (hf:∀ b∈fp,tJ X pins H b) (ho:∀ b∈fp,∃ o,s.heap.get? b=some o/\∀ v,o.data≠.cell v):Inv X (pins++oE fp s.heap) σ H s:=
 I.pins_of fun p hp=>(List.mem_append.mp hp).elim (fun z=>I.pin p (List.mem_append_right _ z)) fun z=>by
  obtain ⟨hb,e⟩:=tZ z
  obtain ⟨f0,f1,f2,_⟩:=hf p.1 hb
  obtain ⟨o,e',d⟩:=ho p.1 hb
  rw [e] at e';cases e'
  exact ⟨e,f0,f1,f2,d⟩
theorem Inv.unpinned {pins pl:List (Addr×Obj)} {σ:St} {H:Hp} {s:Shared} (I:Inv X (pins++pl) σ H s):Inv X pins σ H s:=I.pins_of fun p hp=>I.pin p (List.mem_append_right _ (List.mem_append_left _ hp))
theorem Bo {iter:Expr} {body:List Stmt} {wi:TI} {g:TG} {tb:TS} {pos:Pos} (hp:PassesOwn (model X.prog X.w) X.A X.env X.xe) (hc:X.calm=true) (hi:PI X tg iter wi) (hg:PG X tg g) (hb:PSs X body tb)
  (hs:∀ x,foldedSetIterable iter X.env x=pure x:=by intro _;rfl):PS X (.For tg iter body [] pos) (EZ wi g tb):=by
 intro pins s σ H D I h
 refine wpAny_For (F1 (hi pins s σ H _ I h) fun v s1 h1=>F1 h1 fun Oq s2 h2=>?_) hs
 obtain ⟨it,fp,tn,J,H2,e,I2,T,FV,f2,W,⟨m0,w0⟩,turn⟩:=h2
 subst e
 have Jw:∀ {H':Hp},(∀ b∈fp,H' b=none)->∀ b∈fp,tJ X pins H' b:=fun hn b hb=>⟨hn b hb,(f2 b hb).2⟩
 refine codeAny_forLoop_any (fun n s'=>∃ i σ' H',Inv X pins σ' H' s'/\tn i s'.heap/\(∀ b∈fp,H' b=none)/\W i n σ' H') ?_ m0 ⟨0,σ,H2,I2,FV,fun b hb=>(f2 b hb).1,w0⟩
 rintro n s3 ⟨i,σ3,H3,I3,Gj,Mf,w3⟩
 rcases turn i n σ3 H3 w3 with ⟨stop,qn⟩ | ⟨go,N,hN,step⟩
 ·refine wpAny_passesOwn hp (F1 (T.done X rfl rfl rfl hc i pins s3 σ3 H3 X.xe I3 (Jw Mf) Gj stop) fun r s4 F3=>?_)
  obtain ⟨hr,I4⟩:=F3
  subst hr
  exact wpAny_execs_nil ⟨σ3,H3,I4,qn⟩
 ·refine wpAny_passesOwn hp (F1 (T.item X rfl rfl rfl hc i pins s3 σ3 H3 X.xe I3 (Jw Mf) Gj go) fun r s4 F3=>?_)
  obtain ⟨u,hr,h4⟩:=F3
  subst hr
  refine wpAny_passesOwn hp (F1 h4 fun _ s5 F3=>?_)
  obtain ⟨x,H5,I5,r5,y5,Ia,OS⟩:=F3
  have OT:=I5.pinned (Jw OS) (T.obj _ _ Ia)
  refine wpAny_passesOwn hp (F1 (hg _ s5 σ3 H5 x u _ OT r5 (step x H5 y5)) fun _ s6 F3=>?_)
  obtain ⟨σ6,H6,I6,q6⟩:=F3
  refine wpAny_passesOwn hp (F1 (hb _ s6 σ6 H6 _ I6 q6) fun f s7 q7=>?_)
  have again:∀ {σ7:St} {H7:Hp},Inv X (pins++oE fp s5.heap) σ7 H7 s7->N σ7 H7->∃ m,m < n/\∃ i σ' H',Inv X pins σ' H' s7/\tn i s7.heap/\(∀ b∈fp,H' b=none)/\W i m σ' H':=fun {σ7 H7} I7 n7=>by
   obtain ⟨m',hm,w7⟩:=hN σ7 H7 n7
   refine ⟨m',hm,i + 1,σ7,H7,I7.unpinned,T.keep _ _ _ Ia fun b hb o e=>(I7.pin (b,o) (List.mem_append_right _ (List.mem_append_right _ (il hb e)))).1,fun b hb=>?_,w7⟩
   obtain ⟨o,e,d⟩:=T.obj _ _ Ia b hb
   exact (I7.pin (b,o) (List.mem_append_right _ (List.mem_append_right _ (il hb e)))).2.1
  cases f with
  | next=>obtain ⟨σ7,H7,I7,n7⟩:=q7;exact again I7 n7
  | cont=>obtain ⟨σ7,H7,I7,n7⟩:=q7;exact again I7 n7
  | brk=>obtain ⟨σ7,H7,I7,q7⟩:=q7;exact ⟨σ7,H7,I7.unpinned,q7⟩
  | ret v=>obtain ⟨x7,σ7,H7,I7,r7,q7⟩:=q7;exact ⟨x7,σ7,H7,I7.unpinned,r7,q7⟩
end
theorem for_list {K:W.Frag} {a:Addr} {xs:List V} {g:TG} {tb:TS} {D:Ends} {σ:St} {H:Hp} (Pv:Nat->St->Hp->Prop) (h0:Pv 0 σ H) (hl:∀ i σ H,i<=xs.length->Pv i σ H->SqL K H a xs)
  (hs:∀ i x σ H,xs[i]?=some x->Pv i σ H->g x σ H fun σ2 H2=>tb { D with nx:=Pv (i + 1),ct:=Pv (i + 1),bk:=D.nx } σ2 H2) (hd:∀ σ H,Pv xs.length σ H->D.nx σ H) :
  ∃ W:Nat->Nat->St->Hp->Prop,(∃ m,W 0 m σ H)/\∀ i m σ H,W i m σ H->
   ((M5 K a).stop i H/\D.nx σ H)\/((M5 K a).go i H/\∃ N:St->Hp->Prop,(∀ σ' H',N σ' H'->∃ m',m' < m/\W (i + 1) m' σ' H')/\∀ x H',(M5 K a).yld i H x H'->g x σ H' fun σ2 H2=>tb { D with nx:=N,ct:=N,bk:=D.nx } σ2 H2):=by
 refine ⟨fun i m σ H=>m=xs.length - i/\i<=xs.length/\Pv i σ H,⟨xs.length,by simp,Nat.zero_le _,h0⟩,?_⟩
 rintro i m σ H ⟨rfl,hi,p⟩
 have q:=hl i σ H hi p
 by_cases Gn:i < xs.length
 ·refine .inr ⟨⟨xs,xs[i],q,by simp [Gn]⟩,Pv (i + 1),fun σ' H' p'=>⟨xs.length - (i + 1),by lia,rfl,Gn,p'⟩,fun x H' y=>?_⟩
  obtain ⟨e,y⟩:=y
  subst e
  exact hs i x σ _ (y xs q) p
 ·have e:i=xs.length:=by lia
  subst e
  exact .inl ⟨⟨xs,q,Nat.le_refl _⟩,hd σ H p⟩
abbrev R2:=V->V->Hp->VK->Prop
def Gx (X:Cx) (f:Value->Value->Sem Value) (r:R2):Prop:=
 ∀ (pins:List (Addr×Obj)) (s:Shared) (σ:St) (H:Hp) (x y:V) (v u:Value) (Q:VK),Inv X pins σ H s->RelV x v->RelV y u->r x y H Q->
  wpAny (model X.prog X.w) X.A (f v u) (EP X pins σ Q) X.xe s
def dP (X:Cx) (f:Value) (r:List V->Hp->VK->Prop):Prop:=
 ∀ (pins:List (Addr×Obj)) (s:Shared) (σ:St) (H:Hp) (xs:List V) (us:List Value) (Q:VK),Inv X pins σ H s->Vals xs us->r xs H Q->
  wpAny (model X.prog X.w) X.A (call f us) (EP X pins σ Q) X.xe s
noncomputable def M7 (r:R2) (ta tb:TE):TE:=fun σ H Q=>ta σ H fun x H1=>tb σ H1 fun y H2=>r x y H2 Q
noncomputable def rI (C:Int->Int->Prop) (g:Int->Int->V):R2:=fun x y H Q=>∃ i j,x=.int i/\y=.int j/\C i j/\Q (g i j) H
noncomputable def M8 (g:Int->Int->V):R2:=fun x y H Q=>∃ i j,x=.int i/\y=.int j/\Q (g i j) H
section
variable {X:Cx} {a b c:Expr} {ta tb tc:TE} {pos:Pos}
theorem DD (ha:PE X a ta) (hb:PE X b tb) {pins:List (Addr×Obj)} {s:Shared} {σ:St} {H:Hp} {R:V->V->Hp->Prop} (I:Inv X pins σ H s)
  (h:ta σ H fun x H1=>tb σ H1 fun y H2=>R x y H2) {Q:Value->Shared->Prop} {f:Value->Value->Sem Value}
  (hf:∀ v u s2 x y H2,Inv X pins σ H2 s2->RelV x v->RelV y u->R x y H2->wpAny (model X.prog X.w) X.A (f v u) Q X.xe s2) :
  wpAny (model X.prog X.w) X.A (eval a X.env) (fun v s₁=>wpAny (model X.prog X.w) X.A (eval b X.env) (fun u s₂=>wpAny (model X.prog X.w) X.A (f v u) Q X.xe s₂) X.xe s₁) X.xe s:=by
 refine F1 (ha pins s σ H _ I h) fun v s1 F3=>?_
 obtain ⟨x,H1,I1,r1,q1⟩:=F3
 refine F1 (hb pins s1 σ H1 _ I1 q1) fun u s2 F3=>?_
 obtain ⟨y,H2,I2,r2,q2⟩:=F3
 exact hf v u s2 x y H2 I2 r1 r2 q2
theorem DE {op:Operator} {r:R2} (ho:Gx X (binaryOp op) r) (ha:PE X a ta) (hb:PE X b tb):PE X (.BinOp a op b pos) (M7 r ta tb):=by
 intro pins s σ H Q I h
 exact wpAny_BinOp (DD ha hb I h fun v u s2 x y H2 I2 rx ry q=>ho pins s2 σ H2 x y v u Q I2 rx ry q)
theorem Nq {f:Value->Value->Sem Value} {C:Int->Int->Prop} {g:Int->Int->Int}
  (rule:∀ (i j:Int) (t u:Tok) (s:Shared) (Q:Value->Shared->Prop) (E:Value->Shared->Prop),C i j->Q (.int (g i j) s.toks) { s with toks:=s.toks + 1 }->wpAny (model X.prog X.w) X.A (f (.int i t) (.int j u)) Q E s) :
  Gx X f (rI C fun i j=>.int (g i j)):=by
 intro pins s σ H x y v u Q I rx ry h
 obtain ⟨i,j,rfl,rfl,hc,q⟩:=h
 obtain ⟨t,rfl⟩:=rx
 obtain ⟨t',rfl⟩:=ry
 exact rule i j t t' s _ _ hc ⟨.int (g i j),H,I.tok _,⟨_,rfl⟩,q⟩
theorem EA {f:Value->Value->Sem Value} {g:Int->Int->Int}
  (rule:∀ (i j:Int) (t u:Tok) (s:Shared) (Q:Value->Shared->Prop) (E:Value->Shared->Prop),Q (.int (g i j) s.toks) { s with toks:=s.toks + 1 }->wpAny (model X.prog X.w) X.A (f (.int i t) (.int j u)) Q E s) :
  Gx X f (M8 fun i j=>.int (g i j)):=by
 intro pins s σ H x y v u Q I rx ry h
 obtain ⟨i,j,rfl,rfl,q⟩:=h
 obtain ⟨t,rfl⟩:=rx
 obtain ⟨t',rfl⟩:=ry
 exact rule i j t t' s _ _ ⟨.int (g i j),H,I.tok _,⟨_,rfl⟩,q⟩
theorem EB {f:Value->Value->Sem Value} {g:Int->Int->Bool}
  (rule:∀ (i j:Int) (t u:Tok) (s:Shared) (Q:Value->Shared->Prop) (E:Value->Shared->Prop),Q (.bool (g i j)) s->wpAny (model X.prog X.w) X.A (f (.int i t) (.int j u)) Q E s) :
  Gx X f (M8 fun i j=>.bl (g i j)):=by
 intro pins s σ H x y v u Q I rx ry h
 obtain ⟨i,j,rfl,rfl,q⟩:=h
 obtain ⟨t,rfl⟩:=rx
 obtain ⟨t',rfl⟩:=ry
 exact rule i j t t' s _ _ ⟨.bl (g i j),H,I,rfl,q⟩
def E1 (i j:Int):Prop:=0 < j/\j < 1073741824
def E2 (i j:Int):Prop:=0<=j/\j<=1000000/\i.natAbs < 2 ^ 64
def CMul (i j:Int):Prop:=(-(2 ^ 64) < i/\i < 2 ^ 64)\/(-(2 ^ 64) < j/\j < 2 ^ 64)
theorem CMul.ok {i j:Int} (h:CMul i j):IntMulOk i j:=by
 rcases h with ⟨h1,h2⟩ | ⟨h1,h2⟩
 ·exact .of_left (intBits_le_64 h1 h2)
 ·exact .of_right (intBits_le_64 h1 h2)
theorem Bp:Gx X (binaryOp .Add) (M8 fun i j=>.int (i + j)):=EA fun _ _ _ _ _ _ _ q=>add_int q
theorem Bq:Gx X (binaryOp .Sub) (M8 fun i j=>.int (i - j)):=EA fun _ _ _ _ _ _ _ q=>sub_int q
theorem Br:Gx X (binaryOp .Mult) (rI CMul fun i j=>.int (i * j)):=Nq fun _ _ _ _ _ _ _ hc q=>mul_int q hc.ok
theorem yL:Gx X (binaryOp .FloorDiv) (rI E1 fun i j=>.int (i / j)):=Nq fun i j _ _ _ _ _ hc q=>by
 have h1:(0:Int) < j:=hc.1
 have h2:j < 1073741824:=hc.2
 exact floordiv_int (by lia) (by rw [Int.fdiv_eq_ediv_of_nonneg i (by lia)];exact q) (.inl (PyProof.noPylong_small (by lia)))
theorem Bs:Gx X (binaryOp .Mod) (rI (fun _ j=>0 < j) fun i j=>.int (i % j)):=Nq fun i j _ _ _ _ _ hc q=>by
 have h1:(0:Int) < j:=hc
 exact mod_int' (by lia) (by rw [Int.fmod_eq_emod_of_nonneg i (by lia)];exact q)
theorem Bt:Gx X (binaryOp .Pow) (rI E2 fun i j=>.int (i ^ j.toNat)):=Nq fun _ _ _ _ _ _ _ hc q=>pow_int_small hc.1 hc.2.1 hc.2.2 q
end
section
variable {X:Cx} {a b c:Expr} {ta tb tc:TE} {pos:Pos}
theorem t8 {pins:List (Addr×Obj)} {σ:St} {H:Hp} {s:Shared} {Q:VK} {k k':Bool} (I:Inv X pins σ H s) (q:Q (.bl k) H) (e:k=k'):EP X pins σ Q (.bool k') s:=by
 subst e
 exact ⟨.bl k,H,I,rfl,q⟩
theorem DF:Gx X (compareOp .Lt) (M8 fun i j=>.bl (decide (i < j))):=EB fun _ _ _ _ _ _ _ q=>lt_int q
theorem DG:Gx X (compareOp .Gt) (M8 fun i j=>.bl (decide (j < i))):=EB fun _ _ _ _ _ _ _ q=>gt_int q
theorem t9:Gx X (compareOp .Lt) (fun x y H Q=>∃ i j,x=.str i/\y=.str j/\Q (.bl (decide (i.cps.toList < j.cps.toList))) H):=by
 intro pins s σ H x y v u Q I rx ry h
 obtain ⟨i,j,rfl,rfl,q⟩:=h
 obtain ⟨t,rfl⟩:=rx
 obtain ⟨t',rfl⟩:=ry
 exact lt_str (t8 I q rfl)
theorem ua:Gx X (compareOp .In) (fun x y H Q=>∃ i j,x=.str i/\y=.str j/\Q (.bl (!(Builtin.Str.occurrences j i 0 j.length 1).isEmpty)) H):=by
 intro pins s σ H x y v u Q I rx ry h
 obtain ⟨i,j,rfl,rfl,q⟩:=h
 obtain ⟨t,rfl⟩:=rx
 obtain ⟨t',rfl⟩:=ry
 exact in_str (t8 I q rfl)
theorem oG:Gx X (compareOp .NotIn) (fun x y H Q=>∃ i j,x=.str i/\y=.str j/\Q (.bl (!(!(Builtin.Str.occurrences j i 0 j.length 1).isEmpty))) H):=by
 intro pins s σ H x y v u Q I rx ry h
 obtain ⟨i,j,rfl,rfl,q⟩:=h
 obtain ⟨t,rfl⟩:=rx
 obtain ⟨t',rfl⟩:=ry
 exact notIn_str (t8 I q rfl)
theorem bD (b:Expr) {op:CmpOp} (h:op≠.In:=by decide) (h2:op≠.NotIn:=by decide):behindInMarks op b=false:=by
 have e1:(op == CmpOp.In)=false:=by cases op <;> first | rfl | exact absurd rfl h
 have e2:(op == CmpOp.NotIn)=false:=by cases op <;> first | rfl | exact absurd rfl h2
 cases b <;> simp [behindInMarks,e1,e2]
theorem yM {op:CmpOp} {r:R2} (ho:Gx X (compareOp op) r) (ha:PE X a ta) (hb:PE X b tb) (hm:behindInMarks op b=false):PE X (.Compare a [op] [b] pos) (M7 r ta tb):=by
 intro pins s σ H Q I h
 exact wpAny_Compare1 (DD ha hb I h fun v u s2 x y H2 I2 rx ry q=>ho pins s2 σ H2 x y v u Q I2 rx ry q) hm
noncomputable def DH (t:TE):TT:=fun σ H Q=>t σ H fun x H'=>∃ k,x=.bl k/\Q k H'
theorem ub {op:CmpOp} {r:R2} (ho:Gx X (compareOp op) r) (ha:PE X a ta) (hb:PE X b tb) (hm:behindInMarks op b=false):PT X (.Compare a [op] [b] pos) (DH (M7 r ta tb)):=by
 intro pins s σ H Q I h
 refine wpAny_isTrue_Compare1 (F1 (ha pins s σ H _ I h) fun v s1 ⟨x,H1,I1,r1,q1⟩=>F1 (hb pins s1 σ H1 _ I1 q1) fun u s2 ⟨y,H2,I2,r2,q2⟩=>
  F1 (ho pins s2 σ H2 x y v u _ I2 r1 r2 q2) fun c s3 ⟨z,H3,I3,r3,k,e,q3⟩=>?_) hm
 subst e
 cases r3
 exact wpAny_truthy_bool ⟨H3,I3,q3⟩
theorem mF:(sizeLine:Nat) < 2 ^ 63:=by rw [sizeLine_eq];decide
theorem sI:Gx X (binaryOp .Add) (fun x y H Q=>∃ i j,x=.str i/\y=.str j/\i.length + j.length<=sizeLine/\Q (.str (i++j)) H):=by
 intro pins s σ H x y v u Q I rx ry h
 obtain ⟨i,j,rfl,rfl,hz,q⟩:=h
 obtain ⟨t,rfl⟩:=rx
 obtain ⟨t',rfl⟩:=ry
 exact add_str (fun t' tk=>⟨.str (i++j),H,I.tok _,⟨_,rfl⟩,q⟩) hz
theorem e8 {x:V} {us:List Value} (r:Vals [x] us):∃ u,us=[u]/\RelV x u:=by
 cases r with
 | cons r1 r2=>cases r2;exact ⟨_,rfl,r1⟩
theorem yN {x y:V} {us:List Value} (r:Vals [x,y] us):∃ u w',us=[u,w']/\RelV x u/\RelV y w':=by
 cases r with
 | cons r1 r2=>
  cases r2 with
  | cons r3 r4=>cases r4;exact ⟨_,_,rfl,r1,r3⟩
theorem uc (hc:X.calm=true):dP X (.builtin "min") (fun xs H Q=>∃ i j,xs=[.int i,.int j]/\Q (.int (if j < i then j else i)) H):=by
 intro pins s σ H xs us Q I r h
 obtain ⟨i,j,rfl,q⟩:=h
 obtain ⟨u,w',rfl,⟨t,rfl⟩,⟨t',rfl⟩⟩:=yN r
 refine min_two_ints (I.ok.hd hc) fun h' tk k=>⟨_,H,I.kept k,?_,q⟩
 by_cases hj:j < i
 ·rw [if_pos hj,if_pos hj];exact ⟨_,rfl⟩
 ·rw [if_neg hj,if_neg hj];exact ⟨_,rfl⟩
end
section
variable {prog:Program} {w:World} {A:Around} {E:Value->Shared->Prop} {s:Shared} {K:W.Frag} {x dx C f:Addr} {mA:Str->Option Value} {name:Str} {v:Value}
end
theorem RelO.some_of {v:V} {o:Option Value} (r:RelO (some v) o):∃ u,o=some u/\RelV v u:=by
 cases o with
 | none=>exact (show False from r).elim
 | some u=>exact ⟨u,rfl,r⟩
theorem RelO.none_of {o:Option Value} (r:RelO none o):o=none:=by
 cases o with
 | none=>rfl
 | some u=>exact (show False from r).elim
section
variable {P:Program} {w:World} {H H':Hp} {h h':Heap} {a C dx:Addr} {fs fs':List (Str×V)}
end
section
variable {X:Cx} {pins:List (Addr×Obj)} {σ:St} {H:Hp} {s:Shared} {a C dx:Addr} {fs:List (Str×V)} {f:Str} {v:V} {A:Around} {E:Value->Shared->Prop}
end
section
variable {X:Cx} {o e value:Expr} {f:Str} {pos pos' tpos:Pos} {ta tv:TE}
end
section
variable {X:Cx} {pins:List (Addr×Obj)} {σ:St} {H:Hp} {s:Shared} {A:Around} {E:Value->Shared->Prop} {Q:Value->Shared->Prop} {c:Value} {b:Bool}
end
structure Room (k:Nat) (A:Around):Prop where
 hd:A.handled=none
 dp:A.depth + 3 * k + 5 < recursionLimit
 un:A.units + 16 * k + 200 < cLine
theorem Room.mono {j k:Nat} {A:Around} (r:Room k A) (h:j<=k):Room j A:=⟨r.hd,by have:=r.dp;lia,by have:=r.un;lia⟩
theorem Room.m {j k:Nat} {A:Around} (r:Room k A) (h:j<=k:=by decide):Room j A:=r.mono h
theorem Room.deeper {k:Nat} {A:Around} (r:Room (k + 1) A) (env:Env):Room k (A.deeper env):=
 ⟨r.hd,by have:=r.dp;show A.depth + 1 + 3 * k + 5 < _;lia,by have:=r.un;show A.units + 3 + 16 * k + 200 < _;lia⟩
theorem Room.depth {k:Nat} {A:Around} (r:Room k A):A.depth < recursionLimit:=by have:=r.dp;lia
theorem Room.units {k:Nat} {A:Around} (r:Room k A):A.units + 64 < cLine:=by have:=r.un;lia
theorem Room.units0 {k:Nat} {A:Around} (r:Room k A):A.units < cLine:=by have:=r.un;lia
noncomputable def AS:TA:=fun _ H Q=>Q [] H
noncomputable def sJ (ta:TE) (tr:TA):TA:=fun σ H Q=>ta σ H fun x H1=>tr σ H1 fun xs H2=>Q (x :: xs) H2
section
variable {X:Cx} {e:Expr} {es:List Expr} {te:TE} {t:TA} {pos:Pos}
theorem oH:PA X [] AS:=fun _ _ _ _ H Q I h=>Calls.spliced_nil ⟨[],H,I,.nil,h⟩
theorem iO (ha:PE X e te) (hr:PA X es t) (hs:starEach (e :: es) X.env=(false,eval e X.env) :: starEach es X.env:=by rfl):PA X (e :: es) (sJ te t):=by
 intro pos pins s σ H Q I h
 rw [hs]
 show wpAny _ _ (spliced ((false,eval e X.env) :: backTo pos (starEach es X.env))) _ _ s
 refine Calls.spliced_cons (F1 (ha pins s σ H _ I h) fun u s1 F3=>?_)
 obtain ⟨x,H1,I1,r1,q1⟩:=F3
 exact F1 (hr pos pins s1 σ H1 _ I1 q1) fun us s2 ⟨xs,H2,I2,r2,q2⟩=>⟨x :: xs,H2,I2,.cons r1 r2,q2⟩
noncomputable def E3 (t:TA):TE:=fun σ H Q=>t σ H fun xs H1=>xs.length<=sizeLine/\∀ p,H1 p=none->Q (.ref p) (upd H1 p (.tup xs))
noncomputable def E4 (t:TA):TE:=fun σ H Q=>t σ H fun xs H1=>xs.length<=sizeLine/\∀ p,H1 p=none->Q (.ref p) (upd H1 p (.lst xs))
theorem xP {x1} (h:PA X es t):PE X (.Tuple es x1 pos) (E3 t):=by
 intro pins s σ H Q I hq
 refine wpAny_Tuple_spliced (F1 (h pos pins s σ H _ I hq) fun us s1 ⟨xs,H1,I1,r,z,q⟩=>⟨by rw [<-r.length];exact z,?_⟩)
 have hf:H1 s1.heap.objs.size=none:=I1.hok.fresh (Nat.le_refl _)
 refine ⟨.ref s1.heap.objs.size,upd H1 s1.heap.objs.size (.tup xs),I1.laid (t':=s1.toks) (fun b u e=>Heap.get?_push_of_some _ e) (Nat.le_refl _) ?_,rfl,q _ hf⟩
 exact ⟨z,us,r,⟨_,Heap.get?_push_size _ rfl,rfl,⟨_,rfl⟩,rfl⟩⟩
theorem Bu (h:PA X es t):PE X (.List es pos) (E4 t):=by
 intro pins s σ H Q I hq
 refine wpAny_List_spliced (F1 (h pos pins s σ H _ I hq) fun us s1 ⟨xs,H1,I1,r,z,q⟩=>⟨by rw [<-r.length];exact z,?_⟩)
 have hf:H1 s1.heap.objs.size=none:=I1.hok.fresh (Nat.le_refl _)
 refine ⟨.ref s1.heap.objs.size,upd H1 s1.heap.objs.size (.lst xs),I1.laid (t':=s1.toks) (fun b u e=>Heap.get?_push_of_some _ e) (Nat.le_refl _) ?_,rfl,q _ hf⟩
 exact ⟨z,us,0,r,Heap.get?_push_size _ rfl⟩
end
abbrev Sp:=List V->Hp->VK->XK->Prop
abbrev Kg:=List Env->Hp->Shared->XK->Value->Shared->Prop
structure Env0 (P:Program) (w:World) (K:W.Frag) (mg:Str->Option Value) (base:Heap) (A:Around) (outer:List Env) (s:Shared) (H:Hp):Prop where
 frames:A.frames=some outer
 mod:Mod K mg base
 bs:∀ b o,base.get? b=some o->s.heap.get? b=some o/\H b=none
 bsz:base.objs.size<=s.heap.objs.size
 funs:s.heap.FunFrames base outer
 frf:∀ b∈Kf outer,H b=none
 hok:HOk P w H s.heap
 bare:AllBare s.gens
def CE (outer:List Env) (P:Program) (w:World) (H:Hp) (s:Shared) (Q:VK) (u:Value) (s':Shared):Prop:=
 ∃ v H',s'.os=s.os/\AllBare s'.gens/\Un (Kf outer) [] H H' s.heap s'.heap/\HOk P w H' s'.heap/\RelV v u/\Q v H'
def CR (CX:Kg) (outer:List Env) (P:Program) (w:World) (H:Hp) (s:Shared) (Q:VK) (E:XK) (r:Result) (s':Shared):Prop:=
 match r with
 | .ok (.ret u)=>CE outer P w H s Q u s'
 | .ok _=>False
 | .error e=>CX outer H s E e s'
structure FnOk (P:Program) (w:World) (K:W.Frag) (mg:Str->Option Value) (base:Heap) (CX:Kg) (k:Nat) (f:Addr) (fd:FuncData) (ps:List Str) (sp:Sp):Prop where
 len:∀ vs H Q E,sp vs H Q E->vs.length=ps.length
 run:∀ (A:Around) (outer:List Env) (s:Shared) (H:Hp) (args:Args) (us:List Value) (vs:List V) (Q:VK) (E:XK),Room k A->Env0 P w K mg base A outer s H->BindsTo s fd args (ps.zip us)->Vals vs us->sp vs H Q E->
  codeAny (model P w) A (.call (.ref f) args) (CR CX outer P w H s Q E) s
theorem FnOk.imp {P:Program} {w:World} {K:W.Frag} {mg:Str->Option Value} {base:Heap} {CX:Kg} {k:Nat} {f:Addr} {fd:FuncData} {ps:List Str} {sp PZ:Sp} (F:FnOk P w K mg base CX k f fd ps sp)
  (h:∀ vs H Q E,PZ vs H Q E->sp vs H Q E):FnOk P w K mg base CX k f fd ps PZ:=
 ⟨fun vs H Q E q=>F.len vs H Q E (h _ _ _ _ q),fun A outer s H args us vs Q E hr he hb hv hs=>F.run A outer s H args us vs Q E hr he hb hv (h _ _ _ _ hs)⟩
section
variable {X:Cx} {pins:List (Addr×Obj)} {σ:St} {H:Hp} {s s':Shared}
theorem Inv.env0 (I:Inv X pins σ H s):Env0 X.prog X.w X.K X.mg X.base X.A X.stack s H:=
 ⟨I.ok.frames,I.ok.mod,I.bs,Nat.le_trans I.ok.bsz I.sz,I.stack,I.stkFree,I.hok,I.bare⟩
theorem Inv.after {Q:VK} {u:Value} (I:Inv X pins σ H s) (h:CE X.stack X.prog X.w H s Q u s'):EP X pins σ Q u s':=by
 obtain ⟨v,H',os,bare,un,hok,r,q⟩:=h
 obtain ⟨hh,g,d,t,os'⟩:=s'
 obtain rfl:os'=s.os:=os
 exact ⟨v,H',I.call (h':=hh) (g':=g) (d':=d) (t':=t) (ch:=[]) un hok bare (fun b z=>absurd z (by simp)),r,q⟩
end
noncomputable def tCall (sp:Sp) (L4:List V) (E:XK) (t:TA):TE:=fun σ H Q=>t σ H fun vs H1=>sp (vs++L4) H1 Q E
def Binds (K:W.Frag) (fd:FuncData) (ps:List Str) (ds:List Value):Prop:=
 ∀ (s:Shared) (us:List Value),K.In s.heap->(us++ds).length=ps.length->BindsTo s fd ⟨us,[]⟩ (ps.zip (us++ds))
theorem Binds.all {K:W.Frag} {fd:FuncData} {ps:List Str} (h:∀ us:List Value,us.length=ps.length->bindArgs fd ⟨us,[]⟩=pure (ps.zip us)):Binds K fd ps []:=fun s us _ hl=>by
 rw [List.append_nil] at hl ⊢
 exact .of_eq (h us hl)
def ud (CX:Kg) (X:Cx) (E:XK):Prop:=∀ (pins:List (Addr×Obj)) (σ:St) (H:Hp) (s:Shared) (e:Value) (s':Shared),Inv X pins σ H s->CX X.stack H s E e s'->X.xe e s'
section
variable {X:Cx} {CX:Kg} {k:Nat} {f C:Addr} {fd:FuncData} {ps:List Str} {sp:Sp} {L4:List V} {ds:List Value} {E:XK} {x m:Str} {p pos apos:Pos} {e o:Expr} {es:List Expr} {ta:TE} {t:TA}
theorem Bv {pins:List (Addr×Obj)} {σ:St} {H:Hp} {s:Shared} {Q:VK} {us:List Value} {vs:List V} (F:FnOk X.prog X.w X.K X.mg X.base CX k f fd ps sp) (hr:Room k X.A) (hb:Binds X.K fd ps ds) (hd:Vals L4 ds) (hx:ud CX X E)
  (I:Inv X pins σ H s) (r:Vals vs us) (h:sp (vs++L4) H Q E):wpAny (model X.prog X.w) X.A (call (.ref f) us) (EP X pins σ Q) X.xe s:=by
 have r2:Vals (vs++L4) (us++ds):=r.append hd
 have hl:(us++ds).length=ps.length:=by rw [<-r2.length];exact F.len _ _ _ _ h
 refine wpAny_call (codeAny_mono (F.run X.A X.stack s H ⟨us,[]⟩ (us++ds) (vs++L4) Q E hr I.env0 (hb s us I.kIn hl) r2 h) fun r s' hq=>?_)
 cases r with
 | error e=>exact hx pins σ H s e s' I hq
 | ok fl=>
  cases fl with
  | ret u=>exact I.after hq
  | next=>exact False.elim hq
  | brk=>exact False.elim hq
  | cont=>exact False.elim hq
theorem yO (F:FnOk X.prog X.w X.K X.mg X.base CX k f fd ps sp) (hr:Room k X.A) (hg:Gl X x) (hm:X.mg x=some (.ref f)) (hk:PySem.W.keepIn X.K (.ref f)=true) (hb:Binds X.K fd ps ds) (hd:Vals L4 ds) (hx:ud CX X E)
  (ha:PA X (e :: es) t) (IJ:(x == ("__debug__" : Str))=false:=by decide) (he:starEach (e :: es) X.env=(false,eval e X.env) :: starEach es X.env:=by rfl) (HI:(backTo pos (starEach es X.env)).any (·.1)=false:=by rfl) :
  PE X (.Call (.Name x p) (e :: es) [] pos) (tCall sp L4 E t):=by
 intro pins s σ H Q I h
 refine wpAny_Call_Name_kw (yE I hg hm ?_ IJ)
 refine PySem.W.callWith_K (h₀:=X.base) I.ok.mod.kin hk (F1 (ha pos pins s σ H _ I h) fun us s1 ⟨vs,H1,I1,r,q⟩=>⟨I1.kIn,?_⟩) he HI
 exact Bv F hr hb hd hx I1 r q
end
def PK (X:Cx) (Nr:List Keyword) (t:TA):Prop:=
 ∀ (pos:Pos) (pins:List (Addr×Obj)) (s:Shared) (σ:St) (H:Hp) (Q:List V->Hp->Prop),Inv X pins σ H s->t σ H Q->wpAny (model X.prog X.w) X.A (evalAll ((backToKw pos (keywordEach Nr X.env)).map (·.2))) (AP X pins σ Q) X.xe s
section
variable {X:Cx} {CX:Kg} {k:Nat} {f C:Addr} {fd:FuncData} {ps ks:List Str} {sp:Sp} {E:XK} {x m:Str} {p pos apos IK:Pos} {e o:Expr} {es:List Expr} {Nr:List Keyword} {te ta:TE} {t tk:TA} {nm:Option Str}
theorem xQ:PK X [] AS:=fun _ _ _ _ H Q I h=>wpAny_evalAll_nil ⟨[],H,I,.nil,h⟩
theorem ue (ha:PE X e te) (hr:PK X Nr t):PK X (⟨nm,e,IK⟩ :: Nr) (sJ te t):=by
 intro pos pins s σ H Q I h
 show wpAny _ _ (evalAll ((do let v <-eval e X.env;standAt pos;pure v) :: (backToKw pos (keywordEach Nr X.env)).map (·.2))) _ _ s
 refine wpAny_evalAll_cons (wpAny_bind (F1 (ha pins s σ H _ I h) fun u s1 ⟨x,H1,I1,r1,q1⟩=>wpAny_bind (wpAny_standAt (wpAny_pure ?_))))
 exact F1 (hr pos pins s1 σ H1 _ I1 q1) fun us s2 ⟨xs,H2,I2,r2,q2⟩=>⟨x :: xs,H2,I2,.cons r1 r2,q2⟩
variable {g:List Value->List Value->List Value} {gV:List V->List V->List V}
end
structure FnScope (N P:List Str) (sc:Scope):Prop where
 kind:sc.kind=.function
 co:sc.isCoroutine=false
 gen:sc.isGenerator=false
 nd:N.Nodup
 pre:N.take P.length=P
 par:∀ x∈P,sc.names.lookup x=some .local\/sc.names.lookup x=some .cell
 nofree:∀ y∈sc.names,y.2≠.free
theorem fs {N P:List Str} {sc:Scope} (a:sc.kind=.function:=by rfl) (b:sc.isCoroutine=false:=by rfl) (c:sc.isGenerator=false:=by rfl) (d:N.Nodup:=by decide +kernel) (e:N.take P.length=P:=by rfl) (f:∀ x∈P,sc.names.lookup x=some .local\/sc.names.lookup x=some .cell:=by decide +kernel) (g:∀ y∈sc.names,y.2≠.free:=by decide +kernel):FnScope N P sc:=⟨a,b,c,d,e,f,g⟩
theorem oI {kindOf:Str->Option NameKind} {x:Str}:∀ {binds:List (Str×Value)} {m:Str->Option Value},(∀ v,(x,v)∉binds)->bindL kindOf binds m x=m x
 | [],_,_=>rfl
 | (n,v) :: r,m,h=>by
  unfold bindL
  rw [oI fun w hw=>h w (List.mem_cons_of_mem _ hw)]
  split
  ·have:x≠n:=by rintro rfl;exact h v List.mem_cons_self
   simp [this]
  ·rfl
theorem oJ {kindOf:Str->Option NameKind} {x:Str}:∀ {binds:List (Str×Value)} {m:Str->Option Value},(∀ v,(x,v)∉binds)->bindC kindOf binds m x=m x
 | [],_,_=>rfl
 | (n,v) :: r,m,h=>by
  unfold bindC
  rw [oJ fun w hw=>h w (List.mem_cons_of_mem _ hw)]
  split
  ·rfl
  ·have:x≠n:=by rintro rfl;exact h v List.mem_cons_self
   simp [this]
theorem oK {kindOf:Str->Option NameKind} {x:Str} {v:Value}:∀ {P:List Str} {vs:List Value} {i:Nat} {m:Str->Option Value},P.Nodup->P[i]?=some x->vs[i]?=some v->kindOf x=some .local->
  bindL kindOf (P.zip vs) m x=some v
 | [],_,_,_,_,h,_,_=>by simp at h
 | _ :: _,[],_,_,_,_,h,_=>by simp at h
 | p :: P,w :: vs,0,m,nd,h1,h2,hk=>by
  simp at h1 h2;subst h1;subst h2
  show bindL kindOf ((p,w) :: P.zip vs) m p=_
  unfold bindL
  rw [oI fun v hv=>(List.nodup_cons.mp nd).1 (List.of_mem_zip hv).1,if_pos hk]
  simp
 | p :: P,w :: vs,i + 1,m,nd,h1,h2,hk=>by
  show bindL kindOf ((p,w) :: P.zip vs) m x=_
  unfold bindL
  exact oK (i:=i) (List.nodup_cons.mp nd).2 (by simpa using h1) (by simpa using h2) hk
theorem oM {kindOf:Str->Option NameKind} {x:Str} {v:Value}:∀ {P:List Str} {vs:List Value} {i:Nat} {m:Str->Option Value},P.Nodup->P[i]?=some x->vs[i]?=some v->kindOf x≠some .local->
  bindC kindOf (P.zip vs) m x=some v
 | [],_,_,_,_,h,_,_=>by simp at h
 | _ :: _,[],_,_,_,_,h,_=>by simp at h
 | p :: P,w :: vs,0,m,nd,h1,h2,hk=>by
  simp at h1 h2;subst h1;subst h2
  show bindC kindOf ((p,w) :: P.zip vs) m p=_
  unfold bindC
  rw [oJ fun v hv=>(List.nodup_cons.mp nd).1 (List.of_mem_zip hv).1,if_neg hk]
  simp
 | p :: P,w :: vs,i + 1,m,nd,h1,h2,hk=>by
  show bindC kindOf ((p,w) :: P.zip vs) m x=_
  unfold bindC
  exact oM (i:=i) (List.nodup_cons.mp nd).2 (by simpa using h1) (by simpa using h2) hk
noncomputable def start (N:List Str) (vs:List V):St:=vs.map some++List.replicate (N.length - vs.length) none
noncomputable def xR (CX:Kg) (P:Program) (w:World) (K:W.Frag) (mg:Str->Option Value) (base:Heap) (N:List Str) (qual:Str) (scope:Scope) (f:Addr) (cd:Value) (A:Around) (outer:List Env) (s:Shared) (H:Hp) (E:XK):Cx where
 prog:=P
 w:=w
 K:=K
 mg:=mg
 base:=base
 A:=A.deeper (envOfC qual scope s.heap.objs.size f cd)
 N:=N
 s₀:=s
 H₀:=H
 env:=envOfC qual scope s.heap.objs.size f cd
 outer:=outer
 stack:=envOfC qual scope s.heap.objs.size f cd :: outer
 ex:=[]
 calm:=true
 fn:=fun _=>true
 pn:=[]
 xe:=fun e s'=>wpAny (model P w) (A.deeper (envOfC qual scope s.heap.objs.size f cd)) (leaving (envOfC qual scope s.heap.objs.size f cd) e) (fun _ OU=>CX outer H s E e OU) (fun e' OU=>CX outer H s E e' OU) s'
theorem qO {sc:Scope} {n:Nat} {x:Str} (h:sc.names.lookup x=some .cell):∃ c,(cellsFrom n sc.names []).lookup x=some c:=by
 have q:=PySem.W.cellsFrom_some sc.names n [] (.inl h)
 exact Option.isSome_iff_exists.mp q
theorem uf {CX:Kg} {P:Program} {w:World} {K:W.Frag} {mg:Str->Option Value} {base:Heap} {N ps:List Str} {qual:Str} {scope:Scope} {f:Addr} {cd:Value} {A:Around} {outer:List Env} {s s1:Shared} {H:Hp} {E:XK} {us:List Value} {vs:List V}
  (S:FnScope N ps scope) (hd:A.handled=none) (e0:Env0 P w K mg base A outer s H) (hl:vs.length=ps.length) (r:Vals vs us)
  (x:InCallC s s.heap.objs.size (bindL (envOfC qual scope s.heap.objs.size f cd).kindOf (ps.zip us) fun _=>none) (cellsFrom (s.heap.objs.size + 1) scope.names []) (bindC (envOfC qual scope s.heap.objs.size f cd).kindOf (ps.zip us) fun _=>none) s1) :
  Inv (xR CX P w K mg base N qual scope f cd A outer s H E) [] (start N vs) H s1:=by
 have HI:ps.length<=N.length:=by have:=congrArg List.length S.pre;rw [List.length_take] at this;lia
 obtain ⟨h1,tk,rfl,hk⟩:=x.done
 have Nu:∀ b:Addr,b∉(xR CX P w K mg base N qual scope f cd A outer s H E).ex:=fun b z=>absurd (show b∈([]:List Addr) from z) (by simp)
 refine ⟨⟨e0.mod,S.kind,rfl,rfl,Nat.le_refl _,fun y z c h1 h2=>?_,fun y hy=>?_,fun y c _ h=>?_,fun _=>hd,Around.frames_deeper e0.frames,.inr ⟨rfl,rfl⟩,fun b z=>absurd z (Nu b),e0.bs,e0.bsz,fun b _ _=>Nu b,fun b z=>absurd z (Nu b),e0.funs,e0.frf⟩,
  rfl,e0.bare,Un.kept hk,⟨_,x.toInCall.ns,fun i y v h1 h2 h3=>?_⟩,fun y c h=>⟨_,x.cell y c h⟩,e0.hok.fresh (Nat.le_refl _),fun y c h=>?_,fun p hp=>absurd (show p∈([]:List (Addr×Obj)) from hp) (by simp),e0.hok.kept hk,?_⟩
 ·exact name_of_addr x.apart (PySem.mem_of_lookup h1) (PySem.mem_of_lookup h2)
 ·have hy:scope.names.lookup y=some .cell\/scope.names.lookup y=some .free:=hy
  rcases hy with hy | hy
  ·exact qO hy
  ·exact absurd rfl (S.nofree _ (PySem.mem_of_lookup hy))
 ·exact Nat.le_of_lt (x.above y c (PySem.mem_of_lookup h))
 ·have hi:i < vs.length:=by
   unfold start at h2
   by_cases hi:i < vs.length
   ·exact hi
   ·rw [List.getElem?_append_right (by simpa using hi)] at h2
    rw [List.getElem?_replicate] at h2
    split at h2 <;> cases h2
  have ha:vs[i]?=some v:=by
   unfold start at h2
   rw [List.getElem?_append_left (by simpa using hi),List.getElem?_map] at h2
   cases e:vs[i]? with
   | none=>rw [e] at h2;cases h2
   | some a=>rw [e] at h2;cases h2;rfl
  obtain ⟨u,hu,rv⟩:=r.get ha
  have hp:ps[i]?=some y:=by
   rw [<-S.pre,List.getElem?_take_of_lt (by lia)];exact h1
  have P0:ps.Nodup:=by rw [<-S.pre];exact S.nd.sublist (List.take_sublist _ _)
  refine ⟨u,rv,?_⟩
  rcases S.par y (List.mem_of_getElem? hp) with k | k
  ·exact .inl ⟨k,oK P0 hp hu k⟩
  ·obtain ⟨c,e⟩:=qO (n:=s.heap.objs.size + 1) k
   refine .inr ⟨.inl k,c,e,?_⟩
   have q:=x.cell y c e
   rw [oM P0 hp hu (by show scope.names.lookup y≠_;rw [k];decide)] at q
   exact q
 ·exact e0.hok.fresh (Nat.le_of_lt (x.above y c (PySem.mem_of_lookup h)))
 ·unfold start
  show _=N.length
  rw [List.length_append,List.length_map,List.length_replicate]
  lia
theorem DI {CX:Kg} {P:Program} {w:World} {K:W.Frag} {mg:Str->Option Value} {base:Heap} {k:Nat} {f:Addr} {name qual:Str} {params:Arguments} {body:List Stmt} {scope:Scope} {dV kV doc pm F7 ct oc:Value} {an od:Option Addr}
  {KZ:Array (Option Value)} {N ps:List Str} {sp:Sp} (lk:K.lookup f=some ⟨oc,od,.func (PySem.W.fnOf name qual params body scope dV kV doc pm an F7 ct),KZ⟩) (Ko:PySem.W.codeIn K F7 qual=true) (S:FnScope N ps scope)
  (len:∀ vs H Q E,sp vs H Q E->vs.length=ps.length)
  (Kq:∀ (A:Around) (outer:List Env) (s:Shared) (H:Hp) (vs:List V) (Q:VK) (E:XK),Room k (A.deeper (envOfC qual scope s.heap.objs.size f F7))->sp vs H Q E->
   ∃ t,PSs (xR CX P w K mg base N qual scope f F7 A outer s H E) body t/\t { nx:=fun _ H'=>Q .non H',rt:=Q } (start N vs) H) :
  FnOk P w K mg base CX (k + 1) f (PySem.W.fnOf name qual params body scope dV kV doc pm an F7 ct) ps sp:=by
 refine ⟨len,fun A outer s H args us vs Q E hr e0 hb r Kr=>?_⟩
 have hl:=len _ _ _ _ Kr
 have KX:K.In s.heap:=e0.mod.kin.keeps fun b o e=>(e0.bs b o e).1
 have lim:s.heap.NoLimit:=e0.mod.nolimit.keeps fun b o e=>(e0.bs b o e).1
 have Ib:∀ y∈ps.zip us,scope.names.lookup y.1=some .local\/(scope.names.lookup y.1=some .cell/\((cellsFrom (s.heap.objs.size + 1) scope.names []).lookup y.1).isSome=true):=fun FY hy=>by
  obtain ⟨n,v⟩:=FY
  rcases S.par n (List.of_mem_zip hy).1 with q | q
  ·exact .inl q
  ·exact .inr ⟨q,PySem.W.cellsFrom_some _ _ _ (.inl q)⟩
 refine codeAny_call_function hr.depth (KX _ _ lk) rfl S.co S.gen rfl (PySem.W.codeRec_of KX Ko) (hb _ _ _ _ ?_)
 refine wpAny_newFunctionEnv_cells S.kind Ib fun env he s1 x=>?_
 subst he
 refine ⟨lim.keeps x.toInCall.keep,codeAny_func ?_⟩
 obtain ⟨t,ht,hq⟩:=Kq A outer s H vs Q E (hr.deeper _) Kr
 have I:Inv (xR CX P w K mg base N qual scope f F7 A outer s H E) [] (start N vs) H s1:=uf S hr.hd e0 hl r x
 refine wpAny_mono (ht [] s1 (start N vs) H _ I hq) (fun fl s' hs=>?_) fun e s' hs=>hs
 have fin:∀ {σ':St} {H':Hp} {v:V} {u:Value},Inv (xR CX P w K mg base N qual scope f F7 A outer s H E) [] σ' H' s'->RelV v u->Q v H'->CE outer P w H s Q u s':=
  fun {σ' H' v u} J rv q=>⟨v,H',J.os,J.bare,J.base,J.hok,rv,q⟩
 cases fl with
 | ret u=>
  obtain ⟨v,σ',H',J,rv,q⟩:=hs
  exact fin J rv q
 | next=>
  obtain ⟨σ',H',J,q⟩:=hs
  exact fin (v:=V.non) (u:=Value.none) J rfl q
 | brk=>
  obtain ⟨_,_,_,q⟩:=hs
  exact False.elim q
 | cont=>
  obtain ⟨_,_,_,q⟩:=hs
  exact False.elim q
section
variable {X:Cx} {x:Str} {p pos:Pos} {e:Expr} {es:List Expr} {t:TA} {id T:String} {r:List V->Hp->VK->Prop}
noncomputable def OV (r:List V->Hp->VK->Prop) (t:TA):TE:=fun σ H Q=>t σ H fun vs H1=>r vs H1 Q
theorem wI (hc:dP X (.builtin id) r) (hg:Gl X x) (hm:X.mg x=none) (hv:bootBuiltins x=some (.builtin id)) (ha:PA X (e :: es) t) (hn:x≠"__name__":=by decide) (IJ:(x == ("__debug__" : Str))=false:=by decide)
  (he:starEach (e :: es) X.env=(false,eval e X.env) :: starEach es X.env:=by rfl) (HI:(backTo pos (starEach es X.env)).any (·.1)=false:=by rfl):PE X (.Call (.Name x p) (e :: es) [] pos) (OV r t):=by
 intro pins s σ H Q I h
 refine wpAny_Call_Name_kw (kQ I hg hm hv ?_ hn IJ)
 exact PyProof.Rows.callWith_builtin1 (F1 (ha pos pins s σ H _ I h) fun us s1 ⟨vs,H1,I1,r1,q1⟩=>hc pins s1 σ H1 vs us Q I1 r1 q1) he HI
theorem ug (hc:dP X (.type T) r) (hg:Gl X x) (hm:X.mg x=none) (hv:bootBuiltins x=some (.type T)) (ha:PA X (e :: es) t) (hn:x≠"__name__":=by decide) (IJ:(x == ("__debug__" : Str))=false:=by decide)
  (he:starEach (e :: es) X.env=(false,eval e X.env) :: starEach es X.env:=by rfl) (HI:(backTo pos (starEach es X.env)).any (·.1)=false:=by rfl):PE X (.Call (.Name x p) (e :: es) [] pos) (OV r t):=by
 intro pins s σ H Q I h
 refine wpAny_Call_Name_kw (kQ I hg hm hv ?_ hn IJ)
 exact PyProof.Rows.callWith_type1 (F1 (ha pos pins s σ H _ I h) fun us s1 ⟨vs,H1,I1,r1,q1⟩=>hc pins s1 σ H1 vs us Q I1 r1 q1) he HI
end
end L2
namespace HT
open PySem PyProof.Rows
section
open PySem.SeqAt
open PySem.AutoSeq1 (wpAny_loadPart')
open PySem.MeetsSeq PySem.MeetsSeq2 PySem.MeetsSeq3
end
section
variable {prog:Program} {w:World} {A:Around} {E:Value->Shared->Prop} {s:Shared}
theorem yP {t b:Addr} {vs ws:List Value} {Q:Value->Shared->Prop} (ht:IsTup s.heap t vs.toArray) (hb:IsTup s.heap b ws.toArray) (hv:vs≠[])
  (h1:ws=[]->Q (.ref t) s) (h2:ws≠[]->Q (.ref s.heap.objs.size) { s with heap:=s.heap.push { cls:=.type "tuple",data:=.seq (vs++ws).toArray } })
  (hsz:vs.length + ws.length<=sizeLine):wpAny (model prog w) A (binaryOp .Add (.ref t) (.ref b)) Q E s:=by
 obtain ⟨⟨cls,dd,data,sl⟩,ho,hc,n,hd⟩:=id ht
 obtain ⟨⟨Mg,K0,data2,K1⟩,HW,Hf,n2,hd2⟩:=id hb
 simp only at hc hd Hf hd2
 subst hc hd Hf hd2
 have e:vs.toArray++ws.toArray=(vs++ws).toArray:=by simp
 by_cases hw:ws=[]
 ·exact concat_meets ⟨_,ho,rfl⟩ ⟨_,HW,rfl⟩ noFill_tuple_add seq_tuple_add PySem.F.slot_tuple_add PySem.F.entry_tuple_add (PySem.F.args_tuple_add_2 _ _)
   (tuple_addW1 t b vs.toArray ws.toArray n n2 dd K0 sl K1 (by simpa using hv) (by simp [hw])) ⟨ho,HW,h1 hw⟩
 ·refine concat_meets ⟨_,ho,rfl⟩ ⟨_,HW,rfl⟩ noFill_tuple_add seq_tuple_add PySem.F.slot_tuple_add PySem.F.entry_tuple_add (PySem.F.args_tuple_add_2 _ _)
   (tuple_addW2 t b vs.toArray ws.toArray n n2 dd K0 sl K1 (by simpa using hv) (by simpa using hw) (by rw [List.size_toArray,List.size_toArray];exact hsz)) ⟨ho,HW,?_⟩
  rw [e]
  exact h2 hw
noncomputable def sIx (n d:Nat):Option Int->Nat
 | none=>d
 | some v=>if v < 0 then (v + (n:Int)).toNat else min v.toNat n
theorem qP (n d:Nat):sIx n d none=d:=rfl
theorem mY (n d k:Nat):sIx n d (some (k:Int))=min k n:=by
 show (if (k:Int) < 0 then ((k:Int) + (n:Int)).toNat else min (k:Int).toNat n)=min k n
 rw [if_neg (by lia),Int.toNat_natCast]
theorem uh (n d:Nat) (hd:d<=n) (o:Option Int):sIx n d o<=n:=by
 cases o with
 | none=>exact hd
 | some v=>
  show (if v < 0 then (v + (n:Int)).toNat else min v.toNat n)<=n
  by_cases hv:v < 0
  ·rw [if_pos hv];lia
  ·rw [if_neg hv];exact Nat.min_le_right _ _
theorem uk (v:Int) (n d:Nat):(if v < 0 then max (v + (n:Int)) 0 else min v (n:Int))=((sIx n d (some v):Nat):Int):=by
 show (if v < 0 then max (v + (n:Int)) 0 else min v (n:Int))=(((if v < 0 then (v + (n:Int)).toNat else min v.toNat n):Nat):Int)
 by_cases hv:v < 0
 ·simp only [if_pos hv];lia
 ·simp only [if_neg hv];lia
theorem sL (lo hi:Option Int) (n:Nat):Builtin.Slice.sliceAdjust lo hi 1 (n:Int)=(((sIx n 0 lo:Nat):Int),((sIx n n hi:Nat):Int)):=by
 have h1:¬ ((1:Int) < 0):=by lia
 unfold Builtin.Slice.sliceAdjust
 simp only [h1,if_false]
 refine Prod.ext ?_ ?_
 ·cases lo with
  | none=>rfl
  | some v=>exact uk v n 0
 ·cases hi with
  | none=>rfl
  | some v=>exact uk v n n
theorem sM (i j:Nat):Builtin.Slice.slicePlaces (i:Int) (j:Int) 1=j - i:=by
 unfold Builtin.Slice.slicePlaces
 have h1:(1:Int) > 0:=by lia
 simp only [h1,if_true,Int.ediv_one]
 split <;> lia
theorem mG {v:Value} {o:Option Int} {Q:Option Int->Shared->Prop} (p:IsPart v o) (h:Q o s):wpAny (model prog w) A (Builtin.Slice.slicePartIndex v) Q E s:=by
 cases p with
 | none=>exact slicePart_none h
 | int i t=>exact slicePart_int h
theorem gE {sl:Addr} {vl vu:Value} {lo hi:Option Int} {n:Nat} {Q:Int×Int×Nat->Shared->Prop} (hs:s.heap.IsSliceOf sl vl vu .none) (pl:IsPart vl lo) (pu:IsPart vu hi)
  (h:Q (((sIx n 0 lo:Nat):Int),1,sIx n n hi - sIx n 0 lo) s):wpAny (model prog w) A (Builtin.Slice.sliceApplied (.ref sl) (pure (n:Int))) Q E s:=by
 obtain ⟨os,Mh,Ot,Mi⟩:=id hs
 unfold Builtin.Slice.sliceApplied Builtin.Slice.sliceFields
 refine wpAny_bind (wpAny_bind (wpAny_field Mh Mi (x:=vl) rfl (wpAny_bind (wpAny_field Mh Mi (x:=vu) rfl (wpAny_bind (wpAny_field Mh Mi (x:=.none) rfl (wpAny_pure ?_)))))))
 refine wpAny_bind (slicePart_none ?_)
 show wpAny _ _ (if ((1:Int) == 0)=true then _ else _) _ _ s
 rw [if_neg (by decide)]
 refine wpAny_bind (mG pl (wpAny_bind (mG pu (wpAny_bind (wpAny_pure ?_)))))
 show wpAny _ _ (match Builtin.Slice.sliceAdjust lo hi 1 (n:Int) with | (lo,hi)=>pure (lo,(1:Int),Builtin.Slice.slicePlaces lo hi 1)) _ _ s
 rw [sL lo hi n]
 show wpAny _ _ (pure (((sIx n 0 lo:Nat):Int),(1:Int),Builtin.Slice.slicePlaces ((sIx n 0 lo:Nat):Int) ((sIx n n hi:Nat):Int) 1)) _ _ s
 rw [sM]
 exact wpAny_pure h
theorem wJ (xs:Array Value) (i k:Nat):((List.range k).filterMap fun (m:Nat)=>xs[((i:Int) + (m:Int) * 1).toNat]?).toArray=((xs.toList.drop i).take k).toArray:=by
 have e:(fun (m:Nat)=>xs[((i:Int) + (m:Int) * 1).toNat]?)=fun m=>xs[i + m]?:=by
  funext m
  have:((i:Int) + (m:Int) * 1).toNat=i + m:=by lia
  rw [this]
 rw [e]
 have:=pick_run xs i k
 rw [List.filterMap_map] at this
 have e2:((fun x=>xs[x]?)∘fun x=>i + x)=fun m=>xs[i + m]?:=rfl
 rw [e2] at this
 rw [this]
theorem jJ {t sl:Addr} {items:Array Value} {vl vu:Value} {lo hi:Option Int} {Q:Value->Shared->Prop} (ht:IsTup s.heap t items) (hs:s.heap.IsSliceOf sl vl vu .none) (pl:IsPart vl lo) (pu:IsPart vu hi)
  (hw:¬ (sIx items.size 0 lo=0/\sIx items.size items.size hi=items.size))
  (h:Q (.ref s.heap.objs.size) { s with heap:=s.heap.push { cls:=.type "tuple",data:=.seq ((items.toList.drop (sIx items.size 0 lo)).take (sIx items.size items.size hi - sIx items.size 0 lo)).toArray } })
  (hsz:items.size<=sizeLine):wpAny (model prog w) A (getItem (.ref t) (.ref sl)) Q E s:=by
 have JT:sizeOk (.seq ((items.toList.drop (sIx items.size 0 lo)).take (sIx items.size items.size hi - sIx items.size 0 lo)).toArray):=by
  show ((items.toList.drop (sIx items.size 0 lo)).take (sIx items.size items.size hi - sIx items.size 0 lo)).toArray.size<=sizeLine
  rw [List.size_toArray,List.length_take,List.length_drop,Array.length_toList]
  lia
 have hj:sIx items.size items.size hi<=items.size:=uh _ _ (Nat.le_refl _) hi
 obtain ⟨os,Mh,Ot,Mi⟩:=id hs
 have OW:s.TypeIs (.ref sl) "slice":=⟨os,Mh,Ot⟩
 unfold getItem
 try with_reducible refine wpAny_holding ?_
 first | refine wpAny_bind (wpAny_pure ?_) | skip
 refine wpAny_bind (wpAny_sequenceKey ht.typeIs (by decide) ?_)
 refine wpAny_bind (wpAny_callSpecial?_slot (name:=Str.ofString "__getitem__") ht.typeIs PyProof.Rows.slot_tuple_getitem
  (wpAny_call_entry PyProof.Rows.slot_tuple_getitem ht.typeIs entry_tuple_getitem ?_ (args_tuple_getitem _ _)))
 show wpAny _ _ (Builtin.Tuple.tupleItemsOf (.ref t) >>= _) _ _ s
 refine wpAny_bind (tupleItemsOf_ ht ?_)
 refine wpAny_bind (wpAny_typeOf OW ?_)
 rw [if_pos (by decide)]
 refine wpAny_bind (gE hs pl pu ?_)
 have P1:¬ ((((sIx items.size 0 lo:Nat):Int) == 0 && (1:Int) == 1 && (sIx items.size items.size hi - sIx items.size 0 lo) == items.size)=true):=by
  intro q
  rw [Bool.and_eq_true,Bool.and_eq_true] at q
  have q1:((sIx items.size 0 lo:Nat):Int)=0:=eq_of_beq q.1.1
  have q2:sIx items.size items.size hi - sIx items.size 0 lo=items.size:=eq_of_beq q.2
  exact hw ⟨by lia,by lia⟩
 show wpAny _ _ (if (((sIx items.size 0 lo:Nat):Int) == 0 && (1:Int) == 1 && (sIx items.size items.size hi - sIx items.size 0 lo) == items.size)=true then _ else _) _ _ s
 rw [if_neg P1,wJ]
 first
  | exact wpAny_bind (m:=Builtin.Tuple.tupleExact _) (wpAny_newObj_type (wpAny_pure ⟨_,rfl,wpAny_pure h⟩) JT)
  | exact wpAny_bind (m:=Builtin.Tuple.tupleExact _) (wpAny_newObj_type (wpAny_bind (wpAny_pure (wpAny_pure ⟨_,rfl,wpAny_pure h⟩))) JT)
  | exact wpAny_bind (wpAny_bind (m:=Builtin.Tuple.tupleExact _) (wpAny_newObj_type (wpAny_pure (wpAny_pure ⟨_,rfl,wpAny_pure h⟩)) JT))
  | exact wpAny_bind (wpAny_bind (m:=Builtin.Tuple.tupleExact _) (wpAny_newObj_type (wpAny_pure ⟨_,rfl,wpAny_pure h⟩) JT))
end
end HT
namespace L2
open PySem PySem.Spec PyProof.Rows
abbrev TO:=St->Hp->(Option Int->Hp->Prop)->Prop
def PO (X:Cx) (e:Option Expr) (t:TO):Prop:=
 ∀ (pins:List (Addr×Obj)) (s:Shared) (σ:St) (H:Hp) (Q:Option Int->Hp->Prop),Inv X pins σ H s->t σ H Q->
  wpAny (model X.prog X.w) X.A (evalPart e X.env) (fun u s'=>∃ o H',Inv X pins σ H' s'/\IsPart u o/\Q o H') X.xe s
noncomputable def yQ:TO:=fun _ H Q=>Q none H
noncomputable def DJ (t:TE):TO:=fun σ H Q=>t σ H fun x H1=>∃ i,x=.int i/\Q (some i) H1
section
variable {X:Cx} {e:Expr} {te:TE} {lo hi:Option Expr} {tl th:TO} {pos p2:Pos}
theorem yR:PO X none yQ:=by
 intro pins s σ H Q I h
 rw [evalPart_none]
 exact wpAny_pure ⟨none,H,I,.none,h⟩
theorem yS (h:PE X e te):PO X (some e) (DJ te):=by
 intro pins s σ H Q I hw
 rw [evalPart_some]
 refine F1 (h pins s σ H _ I hw) fun u s1 F3=>?_
 obtain ⟨x,H1,I1,r1,q1⟩:=F3
 obtain ⟨i,rfl,q⟩:=q1
 obtain ⟨t,rfl⟩:=r1
 exact ⟨some i,H1,I1,.int i t,q⟩
def Mj (X:Cx) (r:V->Option Int->Option Int->Hp->VK->Prop):Prop:=
 ∀ (pins:List (Addr×Obj)) (s:Shared) (σ:St) (H:Hp) (x:V) (v vl vu:Value) (lo hi:Option Int) (sl:Addr) (Q:VK),Inv X pins σ H s->RelV x v->s.heap.IsSliceOf sl vl vu .none->IsPart vl lo->IsPart vu hi->r x lo hi H Q->
  ∃ T id,typeLookup (.type T) "__getitem__" = pure (some (.builtin id))/\s.TypeIs v T/\wpAny (model X.prog X.w) X.A (getItem v (.ref sl)) (EP X pins σ Q) X.xe s
noncomputable def tSl (r:V->Option Int->Option Int->Hp->VK->Prop) (te:TE) (tl th:TO):TE:=fun σ H Q=>te σ H fun x H1=>tl σ H1 fun l H2=>th σ H2 fun u H3=>r x l u H3 Q
theorem wK {r:V->Option Int->Option Int->Hp->VK->Prop} (hr:Mj X r) (he:PE X e te) (hl:PO X lo tl) (hu:PO X hi th):PE X (.Subscript e (.Slice lo hi none p2) pos) (tSl r te tl th):=by
 intro pins s σ H Q I h
 refine Subscript_ (F1 (he pins s σ H _ I h) fun v s1 F3=>?_)
 obtain ⟨x,H1,I1,r1,q1⟩:=F3
 refine wpAny_Slice (F1 (hl pins s1 σ H1 _ I1 q1) fun vl s2 ⟨l,H2,I2,pl,q2⟩=>F1 (hu pins s2 σ H2 _ I2 q2) fun vu s3 F3=>?_)
 obtain ⟨u,H3,I3,pu,q3⟩:=F3
 rw [evalPart_none]
 refine wpAny_pure ?_
 have I4:Inv X pins σ H3 { s3 with heap:=s3.heap.push { cls:=.type "slice",data:=.fields #[vl,vu,.none] } }:=I3.kept (t':=s3.toks) fun b ob q=>Heap.get?_push_of_some _ q
 obtain ⟨T,id,hT,ht,hg⟩:=hr pins { s3 with heap:=s3.heap.push { cls:=.type "slice",data:=.fields #[vl,vu,.none] } } σ H3 x v vl vu l u s3.heap.objs.size Q I4 r1 (Heap.IsSliceOf.new ..) pl pu q3
 show wpAny (model X.prog X.w) X.A (subscriptTail e (.Slice lo hi none p2) v (.ref s3.heap.objs.size)) (EP X pins σ Q) X.xe { s3 with heap:=s3.heap.push { cls:=.type "slice",data:=.fields #[vl,vu,.none] } }
 exact tail_any (ops:=[.ref s3.heap.objs.size,v]) ht hT hg (by with_unfolding_all rfl)
noncomputable def xS (xs:List V) (lo hi:Option Int):List V:=(xs.drop (HT.sIx xs.length 0 lo)).take (HT.sIx xs.length xs.length hi - HT.sIx xs.length 0 lo)
theorem kR (xs:List V) (lo hi:Option Int):(xS xs lo hi).length<=xs.length:=by
 unfold xS
 rw [List.length_take,List.length_drop]
 lia
noncomputable def E5 (K:W.Frag):V->Option Int->Option Int->Hp->VK->Prop:=fun x lo hi H Q=>∃ a xs,x=.ref a/\SqT K H a xs/\
 ¬ (HT.sIx xs.length 0 lo=0/\HT.sIx xs.length xs.length hi=xs.length)/\∀ p,H p=none->Q (.ref p) (upd H p (.tup (xS xs lo hi)))
theorem Bw:Mj X (E5 X.K):=by
 intro pins s σ H x v vl vu lo hi sl Q I rx hs pl pu h
 obtain ⟨a,xs,rfl,hx,hw,q⟩:=h
 cases rx
 obtain ⟨FH,r,ht,hz⟩:=I.tuple hx
 have hlen:FH.toArray.size=xs.length:=by rw [List.size_toArray];exact r.length.symm
 refine ⟨"tuple",_,PyProof.Rows.slot_tuple_getitem.lookup,ht.typeIs,?_⟩
 refine HT.jJ ht hs pl pu (by rw [hlen];exact hw) ?_ (by rw [hlen];exact hz)
 rw [hlen]
 refine ⟨.ref s.heap.objs.size,_,I.laid (t':=s.toks) (o:=.tup (xS xs lo hi)) (fun b ob q=>Heap.get?_push_of_some _ q) (Nat.le_refl _) ?_,rfl,q _ (I.hok.fresh (Nat.le_refl _))⟩
 exact ⟨Nat.le_trans (kR xs lo hi) hz,_,(r.drop (HT.sIx xs.length 0 lo)).take (HT.sIx xs.length xs.length hi - HT.sIx xs.length 0 lo),IsTupN.new _ _⟩
noncomputable def DK (K:W.Frag):R2:=fun x y H Q=>∃ a b xs ys,x=.ref a/\y=.ref b/\SqT K H a xs/\SqT K H b ys/\xs≠[]/\xs.length + ys.length<=sizeLine/\
 (ys=[]->Q (.ref a) H)/\(ys≠[]->∀ p,H p=none->Q (.ref p) (upd H p (.tup (xs++ys))))
theorem Vals.nil_iff {xs:List V} {us:List Value} (r:Vals xs us):us=[]<->xs=[]:=by
 cases r with
 | nil=>simp
 | cons _ _=>simp
theorem yT:Gx X (binaryOp .Add) (DK X.K):=by
 intro pins s σ H x y v u Q I rx ry h
 obtain ⟨a,b,xs,ys,rfl,rfl,ha,hb,hx,hz,q1,q2⟩:=h
 cases rx
 cases ry
 obtain ⟨FH,r1,p1,_⟩:=I.tuple ha
 obtain ⟨J2,r2,p2,_⟩:=I.tuple hb
 refine HT.yP p1 p2 (fun z=>hx (r1.nil_iff.mp z)) (fun z=>⟨.ref a,H,I,rfl,q1 (r2.nil_iff.mp z)⟩) (fun z=>?_) (by rw [<-r1.length,<-r2.length];exact hz)
 refine ⟨.ref s.heap.objs.size,_,I.laid (t':=s.toks) (o:=.tup (xs++ys)) (fun b ob q=>Heap.get?_push_of_some _ q) (Nat.le_refl _) ?_,rfl,q2 (fun w=>z (r2.nil_iff.mpr w)) _ (I.hok.fresh (Nat.le_refl _))⟩
 exact ⟨by rw [List.length_append];exact hz,_,r1.append r2,IsTupN.new _ _⟩
end
noncomputable def ixN (n:Nat) (i:Int):Option Nat:=if 0<=i then (if i < n then some i.toNat else none) else if -(n:Int)<=i then some (i + n).toNat else none
noncomputable def Gy {α:Type} (xs:List α) (i:Int):Option α:=(ixN xs.length i).bind fun j=>xs[j]?
theorem um {n:Nat} {i:Int} {j:Nat} (h:ixN n i=some j):seqIndex? i n=some j/\j < n/\-(n:Int)<=i/\i < n:=by
 unfold ixN at h
 by_cases h0:0<=i
 ·rw [if_pos h0] at h
  by_cases h1:i < n
  ·rw [if_pos h1] at h
   have e:i.toNat=j:=Option.some.inj h
   exact ⟨by rw [seqIndex_of h0 h1,e],by lia,by lia,h1⟩
  ·rw [if_neg h1] at h;cases h
 ·rw [if_neg h0] at h
  by_cases h1 : -(n:Int)<=i
  ·rw [if_pos h1] at h
   have e:(i + n).toNat=j:=Option.some.inj h
   exact ⟨by rw [seqIndex_neg (by lia) h1,e],by lia,h1,by lia⟩
  ·rw [if_neg h1] at h;cases h
theorem p8 {α:Type} {xs:List α} {i:Int} {v:α} (h:Gy xs i=some v):∃ j,seqIndex? i xs.length=some j/\xs[j]?=some v/\j < xs.length/\-(xs.length:Int)<=i/\i < xs.length:=by
 unfold Gy at h
 cases e:ixN xs.length i with
 | none=>rw [e] at h;cases h
 | some j=>
  rw [e] at h
  obtain ⟨h1,h2,h3,h4⟩:=um e
  exact ⟨j,h1,h,h2,h3,h4⟩
theorem dB {α:Type} {xs:List α} {j:Nat} {v:α} (h:xs[j]?=some v):Gy xs (j:Int)=some v:=by
 have hj:j < xs.length:=(List.getElem?_eq_some_iff.mp h).1
 have e:ixN xs.length (j:Int)=some j:=by
  unfold ixN
  rw [if_pos (by lia),if_pos (by lia)];simp
 unfold Gy;rw [e];exact h
def uo (b:Expr):Prop:=∀ o i,subscripted b false o i=operate [o,i] (getItem o i)
def Nv (X:Cx) (r:R2):Prop:=
 ∀ (value slice:Expr) (pins:List (Addr×Obj)) (s:Shared) (σ:St) (H:Hp) (x y:V) (v u:Value) (Q:VK),Inv X pins σ H s->RelV x v->RelV y u->r x y H Q->
  subscripted slice false v u=operate [v,u] (getItem v u)->wpAny (model X.prog X.w) X.A (subscriptTail value slice v u) (EP X pins σ Q) X.xe s
def La (X:Cx) (id:String) (r:V->List V->Hp->VK->Prop):Prop:=
 ∀ (pins:List (Addr×Obj)) (s:Shared) (σ:St) (H:Hp) (x:V) (xs:List V) (v:Value) (us:List Value) (Q:VK),Inv X pins σ H s->RelV x v->Vals xs us->r x xs H Q->
  wpAny (model X.prog X.w) X.A (call (.builtin id) (v :: us)) (EP X pins σ Q) X.xe s
section
variable {X:Cx} {a b:Expr} {ta tb:TE} {pos:Pos}
theorem DL {r:R2} (hr:Nv X r) (ha:PE X a ta) (hb:PE X b tb) (hs:uo b):PE X (.Subscript a b pos) (M7 r ta tb):=by
 intro pins s σ H Q I h
 exact Subscript_ (DD ha hb I h fun v u s2 x y H2 I2 rx ry q=>hr a b pins s2 σ H2 x y v u Q I2 rx ry q (hs _ _))
noncomputable def E6 (K:W.Frag):R2:=fun x y H Q=>∃ p xs i v,x=.ref p/\y=.int i/\SqL K H p xs/\Gy xs i=some v/\Q v H
noncomputable def E7 (K:W.Frag):R2:=fun x y H Q=>∃ p xs i v,x=.ref p/\y=.int i/\SqT K H p xs/\Gy xs i=some v/\Q v H
noncomputable def E8:R2:=fun x y H Q=>∃ z i c,x=.str z/\y=.int i/\z.length<=sizeLine/\Gy z.cps.toList i=some c/\Q (.str ⟨#[c]⟩) H
theorem yU:Nv X (E6 X.K):=by
 intro value slice pins s σ H x y v u Q I rx ry h hs
 obtain ⟨p,xs,i,z,rfl,rfl,hq,he,q⟩:=h
 cases rx
 obtain ⟨t,rfl⟩:=ry
 obtain ⟨FH,r,pl,hz⟩:=I.list hq
 obtain ⟨j,h1,h2,h3,h4,h5⟩:=p8 he
 obtain ⟨w,ew,J3⟩:=r.get h2
 have hl:=r.length
 have hn:=mF
 have fin:EP X pins σ Q w s:=⟨z,H,I,J3,q⟩
 by_cases h0:0<=i
 ·have hj:i.toNat=j:=by
   rw [seqIndex_of h0 h5] at h1
   exact Option.some.inj h1
  exact item_listR pl.isList h0 (by lia) (by rw [hj];simpa using ew) fin hs
 ·have hj:(i + (FH.toArray.size:Int)).toNat=j:=by
   rw [seqIndex_neg (by lia) h4] at h1
   rw [List.size_toArray,<-hl]
   exact Option.some.inj h1
  exact subscriptTail_builtinR (x:=w) pl.isList.typeIs slot_list_getitem.lookup
   (wpAny_getItem_list_neg (Q:=fun r s'=>r=w/\EP X pins σ Q r s') pl.isList (by lia) (by rw [List.size_toArray] <;> lia) (by lia) (by rw [hj];simpa using ew) ⟨rfl,fin⟩) hs
theorem Bx:Nv X (E7 X.K):=by
 intro value slice pins s σ H x y v u Q I rx ry h hs
 obtain ⟨p,xs,i,z,rfl,rfl,hq,he,q⟩:=h
 cases rx
 obtain ⟨t,rfl⟩:=ry
 obtain ⟨FH,r,pl,hz⟩:=I.tuple hq
 obtain ⟨j,h1,h2,h3,h4,h5⟩:=p8 he
 obtain ⟨w,ew,J3⟩:=r.get h2
 have hl:=r.length
 have hn:=mF
 have fin:EP X pins σ Q w s:=⟨z,H,I,J3,q⟩
 exact subscriptTail_builtinR (x:=w) pl.typeIs slot_tuple_getitem.lookup
  (getItem_tuple (j:=j) (Q:=fun r s'=>r=w/\EP X pins σ Q r s') pl (by lia) (by lia) (by rw [List.size_toArray,<-hl];exact h1) (by simpa using ew) ⟨rfl,fin⟩) hs
theorem By:Nv X E8:=by
 intro value slice pins s σ H x y v u Q I rx ry h hs
 obtain ⟨z,i,c,rfl,rfl,hz,he,q⟩:=h
 obtain ⟨t,rfl⟩:=rx
 obtain ⟨t',rfl⟩:=ry
 obtain ⟨j,h1,h2,h3,h4,h5⟩:=p8 he
 have hl:z.cps.toList.length=z.length:=by simp [Str.length]
 rw [hl] at h1 h4 h5
 have hn:=mF
 exact tail_any (typeIs_str s z t) slot_str_getitem.lookup (getItem_str (c:=c) (by
  have e1:decide (i < -(2 ^ 63:Int))=false:=decide_eq_false (by lia)
  have e2:decide (i >= 2 ^ 63)=false:=decide_eq_false (by lia)
  rw [e1,e2,Bool.or_false]) (by rw [h1];simpa using h2) ⟨.str ⟨#[c]⟩,H,I.tok _,⟨_,rfl⟩,q⟩) hs
theorem sN (FH:List Value) (n j:Nat) (u:Value):Obj.mapSeq (·.setIfInBounds j u) { cls:=.type "list",data:=.seq FH.toArray n }={ cls:=.type "list",data:=.seq (FH.set j u).toArray n }:=by
 simp [Obj.mapSeq]
theorem Inv.lst {pins:List (Addr×Obj)} {σ:St} {H:Hp} {s:Shared} {p:Addr} {xs:List V} (I:Inv X pins σ H s) (h:H p=some (.lst xs)) :
  ∃ (FH:List Value) (n:Nat),Vals xs FH/\s.heap.get? p=some { cls:=.type "list",data:=.seq FH.toArray n }/\xs.length<=sizeLine:=by
 obtain ⟨z,FH,n,r,e⟩:=I.hok p _ h
 exact ⟨FH,n,r,e,z⟩
theorem Inv.lstUpd {pins:List (Addr×Obj)} {σ:St} {H:Hp} {s:Shared} {p:Addr} {xs ys:List V} {FH its':List Value} {n n':Nat} {f:Obj->Obj} (I:Inv X pins σ H s) (h:H p=some (.lst xs))
  (ho:s.heap.get? p=some { cls:=.type "list",data:=.seq FH.toArray n }) (hf:f { cls:=.type "list",data:=.seq FH.toArray n }={ cls:=.type "list",data:=.seq its'.toArray n' }) (r:Vals ys its') (hz:ys.length<=sizeLine) (t:Nat) :
  Inv X pins σ (upd H p (.lst ys)) { s with heap:=s.heap.update p f,toks:=t }:=by
 have e:(s.heap.update p f).get? p=some { cls:=.type "list",data:=.seq its'.toArray n' }:=by
  rw [Heap.get?_update_self f ho (by rw [hf] <;> rfl),hf]
 refine I.write (x:=p) (e:=p) (by rw [h];trivial) (.inl rfl) (fun b u hb q=>(Heap.get?_update_other _ _ (Ne.symm hb)).trans q) ⟨_,e⟩ ?_
 exact ⟨hz,its',n',r,e⟩
noncomputable def Bz:V->V->V->Hp->(Hp->Prop)->Prop:=fun o i v H Q=>∃ p xs k j,o=.ref p/\i=.int k/\H p=some (.lst xs)/\ixN xs.length k=some j/\Q (upd H p (.lst (xs.set j v)))
theorem wL:EV X Bz:=by
 intro pins s σ H o i v ov iv u Q I ro ri rv h
 obtain ⟨p,xs,k,j,rfl,rfl,hp,hj,q⟩:=h
 cases ro
 obtain ⟨t,rfl⟩:=ri
 obtain ⟨FH,n,r,ho,hz⟩:=I.lst hp
 obtain ⟨h1,h2,h3,h4⟩:=um hj
 have hl:=r.length
 have hn:=mF
 have I':Inv X pins σ (upd H p (.lst (xs.set j v))) { s with heap:=s.heap.update p (Obj.mapSeq (·.setIfInBounds j u)) }:=
  I.lstUpd hp ho (sN FH n j u) (r.set rv j) (by rw [List.length_set];exact hz) s.toks
 by_cases h0:0<=k
 ·have hk:k.toNat=j:=by
   rw [seqIndex_of h0 h4] at h1
   exact Option.some.inj h1
  exact PySem.W.ki_setAt ho h0 (by lia) (by rw [List.size_toArray,<-hl];exact h4) (by rw [hk];exact ⟨_,I',q⟩)
 ·have hk:(k + (FH.toArray.size:Int)).toNat=j:=by
   rw [seqIndex_neg (by lia) h3] at h1
   rw [List.size_toArray,<-hl]
   exact Option.some.inj h1
  exact PySem.W.ki_setBack ho (by lia) (by rw [List.size_toArray,<-hl];exact h3) (by lia) (by rw [hk];exact ⟨_,I',q⟩)
theorem oN (lo hi:Option Int) (n:Nat):(sliceBounds lo hi none n).1=((HT.sIx n 0 lo:Nat):Int)/\(sliceBounds lo hi none n).2.1=((HT.sIx n n hi:Nat):Int)/\(sliceBounds lo hi none n).2.2=1:=by
 refine ⟨?_,?_,rfl⟩
 ·cases lo with
  | none=>simp [sliceBounds,HT.sIx]
  | some i=>
   simp only [sliceBounds,HT.sIx,Option.getD_none,show (1:Int) > 0 by decide,if_true]
   by_cases h:i < 0
   ·simp only [h,if_true] <;> lia
   ·simp only [h,if_false] <;> lia
 ·cases hi with
  | none=>simp [sliceBounds,HT.sIx]
  | some i=>
   simp only [sliceBounds,HT.sIx,Option.getD_none,show (1:Int) > 0 by decide,if_true]
   by_cases h:i < 0
   ·simp only [h,if_true] <;> lia
   ·simp only [h,if_false] <;> lia
theorem mZ (FH:List Value) (lo hi:Option Int):slicePick FH.toArray lo hi none=((FH.drop (HT.sIx FH.length 0 lo)).take (HT.sIx FH.length FH.length hi - HT.sIx FH.length 0 lo)).toArray:=by
 obtain ⟨h1,h2,h3⟩:=oN lo hi FH.toArray.size
 unfold slicePick
 rw [h1,h2,h3]
 simp only [sliceRange_one,pick_run,List.size_toArray] <;> rfl
noncomputable def E9 (K:W.Frag):V->Option Int->Option Int->Hp->VK->Prop:=fun x lo hi H Q=>∃ a xs,x=.ref a/\SqL K H a xs/\∀ p,H p=none->Q (.ref p) (upd H p (.lst (xS xs lo hi)))
theorem yV:Mj X (E9 X.K):=by
 intro pins s σ H x v vl vu lo hi sl Q I rx hs pl pu h
 obtain ⟨a,xs,rfl,hx,q⟩:=h
 cases rx
 obtain ⟨FH,r,ht,hz⟩:=I.list hx
 have hlen:=r.length
 refine ⟨"list",_,slot_list_getitem.lookup,ht.isList.typeIs,?_⟩
 refine wpAny_getItem_list_slice ht.isList hs pl pu .none (by simp) ?_ (by rw [List.size_toArray] <;> lia)
 rw [mZ,<-hlen]
 refine ⟨.ref s.heap.objs.size,_,I.laid (t':=s.toks) (o:=.lst (xS xs lo hi)) (fun b ob q=>Heap.get?_push_of_some _ q) (Nat.le_refl _) ?_,rfl,q _ (I.hok.fresh (Nat.le_refl _))⟩
 exact ⟨Nat.le_trans (kR xs lo hi) hz,_,0,(r.drop (HT.sIx xs.length 0 lo)).take (HT.sIx xs.length xs.length hi - HT.sIx xs.length 0 lo),Heap.get?_push_size _ rfl⟩
noncomputable def wM:V->Bool
 | .non=>true
 | .bl _=>true
 | .int _=>true
 | .str _=>true
 | _=>false
noncomputable def OX:V->V->Bool
 | .non,.non=>true
 | .bl a,.bl b=>a == b
 | .bl a,.int b=>(if a then 1 else 0) == b
 | .int a,.bl b=>a == (if b then 1 else 0)
 | .int a,.int b=>a == b
 | .str a,.str b=>a == b
 | _,_=>false
theorem xT {A:Around} {s:Shared} {y x:V} {u v:Value} (ry:RelV y u) (rx:RelV x v) (fy:wM y=true) (fx:wM x=true):SeqAt.EqAt A s u v (OX y x):=by
 cases y with
 | non=>
  cases ry
  cases x with
  | non=>cases rx;exact SeqAt.EqAt.same _
  | bl b=>cases rx;exact SeqAt.EqAt.none_bool b
  | int b=>obtain ⟨t,rfl⟩:=rx;exact SeqAt.EqAt.none_int b t
  | str b=>obtain ⟨t,rfl⟩:=rx;exact SeqAt.EqAt.none_str b t
  | _=>exact absurd (show false=true from fx) Bool.false_ne_true
 | bl a=>
  cases ry
  cases x with
  | non=>cases rx;exact SeqAt.EqAt.bool_none a
  | bl b=>cases rx;exact SeqAt.EqAt.bool_bool a b
  | int b=>obtain ⟨t,rfl⟩:=rx;exact SeqAt.EqAt.bool_int a b t
  | str b=>obtain ⟨t,rfl⟩:=rx;exact SeqAt.EqAt.bool_str a b t
  | _=>exact absurd (show false=true from fx) Bool.false_ne_true
 | int a=>
  obtain ⟨t',rfl⟩:=ry
  cases x with
  | non=>cases rx;exact SeqAt.EqAt.int_none a t'
  | bl b=>cases rx;exact SeqAt.EqAt.int_bool a t' b
  | int b=>obtain ⟨t,rfl⟩:=rx;exact SeqAt.EqAt.int_int a t' b t
  | str b=>obtain ⟨t,rfl⟩:=rx;exact SeqAt.EqAt.int_str a t' b t
  | _=>exact absurd (show false=true from fx) Bool.false_ne_true
 | str a=>
  obtain ⟨t',rfl⟩:=ry
  cases x with
  | non=>cases rx;exact SeqAt.EqAt.str_none a t'
  | bl b=>cases rx;exact SeqAt.EqAt.str_bool a t' b
  | int b=>obtain ⟨t,rfl⟩:=rx;exact SeqAt.EqAt.str_int a t' b t
  | str b=>obtain ⟨t,rfl⟩:=rx;exact SeqAt.EqAt.str_str a t' b t
  | _=>exact absurd (show false=true from fx) Bool.false_ne_true
 | _=>exact absurd (show false=true from fy) Bool.false_ne_true
theorem j4:dP X (.builtin "len") (fun xs H Q=>∃ p ys,xs=[.ref p]/\(SqL X.K H p ys\/SqT X.K H p ys)/\Q (.int ys.length) H):=by
 intro pins s σ H xs us Q I r h
 obtain ⟨p,ys,rfl,hq,q⟩:=h
 obtain ⟨u,rfl,rx⟩:=e8 r
 cases rx
 have hn:=mF
 rcases hq with hq | hq
 ·obtain ⟨FH,r',pl,hz⟩:=I.list hq
  have hlen:=r'.length
  exact Calls.call_len_list pl.isList (by simp only [List.size_toArray] <;> lia) ⟨.int ys.length,H,I.tok _,⟨s.toks + 1,by rw [List.size_toArray,hlen]⟩,q⟩
 ·obtain ⟨FH,r',pl,hz⟩:=I.tuple hq
  have hlen:=r'.length
  exact len_tuple pl (by simp only [List.size_toArray] <;> lia) ⟨.int ys.length,H,I.tok _,⟨s.toks + 1,by rw [List.size_toArray,hlen]⟩,q⟩
theorem oO:dP X (.builtin "len") (fun xs H Q=>∃ z,xs=[.str z]/\z.length<=sizeLine/\Q (.int z.length) H):=by
 intro pins s σ H xs us Q I r h
 obtain ⟨z,rfl,hz,q⟩:=h
 obtain ⟨u,rfl,t,rfl⟩:=e8 r
 have hn:=mF
 exact len_str (by lia) ⟨.int z.length,H,I.tok _,⟨_,rfl⟩,q⟩
theorem i9:dP X (.type "tuple") (fun xs H Q=>∃ p ys,xs=[.ref p]/\((SqL X.K H p ys/\∀ l,H l=none->Q (.ref l) (upd H l (.tup ys)))\/(SqT X.K H p ys/\Q (.ref p) H))):=by
 intro pins s σ H xs us Q I r h
 obtain ⟨p,ys,rfl,h⟩:=h
 obtain ⟨u,rfl,rx⟩:=e8 r
 cases rx
 rcases h with ⟨hq,q⟩ | ⟨hq,q⟩
 ·obtain ⟨FH,r',pl,hz⟩:=I.list hq
  have hlen:=r'.length
  refine call_tuple_list pl.isList (fun h' kp=>?_) (by simp only [List.size_toArray] <;> lia)
  have I1:Inv X pins σ H { s with heap:=h' }:=I.kept (t':=s.toks) kp
  have I2:Inv X pins σ (upd H h'.objs.size (.tup ys)) { s with heap:=h'.push { cls:=.type "tuple",data:=.seq FH.toArray } }:=
   I1.laid (t':=s.toks) (fun b o e=>Heap.get?_push_of_some _ e) (Nat.le_refl _) (show ObjOk X.prog X.w _ _ _ (.tup ys) from ⟨hz,FH,r',IsTupN.new _ _⟩)
  exact ⟨.ref h'.objs.size,_,I2,rfl,q _ (I1.hok.fresh (Nat.le_refl _))⟩
 ·obtain ⟨FH,r',pl,hz⟩:=I.tuple hq
  exact call_tuple_same pl ⟨.ref p,H,I,rfl,q⟩
def OY (K:W.Frag) (T:String) (x:V) (H:Hp):Prop:=match x with
 | .str _=>T = "str"
 | .int _=>T = "int"
 | .ref p=>(T = "list"/\∃ xs,SqL K H p xs)\/(T = "tuple"/\∃ o,K.lookup p=some o/\o.cls=.type "tuple"/\o.dict=none)\/
   (T = "dict"/\((∃ FF,H p=some (.dK FF))\/∃ FF,H p=some (.dT FF)))\/(T = "set"/\∃ S n,H p=some (.set S n))
 | _=>False
theorem BA {pins:List (Addr×Obj)} {σ:St} {H:Hp} {s:Shared} {T:String} {x:V} {v:Value} (I:Inv X pins σ H s) (r:RelV x v) (ty:OY X.K T x H) :
  s.TypeIs v T/\∀ a,v=.ref a->∃ ob,s.heap.get? a=some ob/\ob.dict=none:=by
 cases x with
 | str z=>
  obtain ⟨t,rfl⟩:=r
  cases (show T = "str" from ty)
  exact ⟨typeIs_str s z t,fun _ e=>nomatch e⟩
 | int i=>
  obtain ⟨t,rfl⟩:=r
  cases (show T = "int" from ty)
  exact ⟨typeIs_int s i t,fun _ e=>nomatch e⟩
 | ref p=>
  cases r
  rcases ty with ⟨rfl,xs,hq⟩ | ⟨rfl,o,hk,hc,hd⟩ | ⟨rfl,hk⟩ | ⟨rfl,S,n,hk⟩
  ·obtain ⟨FH,_,pl,_⟩:=I.list hq
   refine ⟨pl.isList.typeIs,fun a e=>?_⟩
   cases e
   obtain ⟨o,n,e,c,hd,_⟩:=pl
   exact ⟨o,e,hd⟩
  ·refine ⟨⟨o,I.kIn p o hk,hc⟩,fun a e=>?_⟩
   cases e
   exact ⟨o,I.kIn _ o hk,hd⟩
  ·have z:∃ o,s.heap.get? p=some o/\o.ExactDict:=by
    rcases hk with ⟨FF,hk⟩ | ⟨FF,hk⟩
    ·obtain ⟨_,_,_,_,o,_,_,e,ex,_⟩:=I.hok p _ hk
     exact ⟨o,e,ex⟩
    ·obtain ⟨_,_,_,_,o,_,_,e,ex,_⟩:=I.hok p _ hk
     exact ⟨o,e,ex⟩
   obtain ⟨o,e,ex⟩:=z
   refine ⟨⟨o,e,ex.1⟩,fun a e2=>?_⟩
   cases e2
   exact ⟨o,e,ex.2.1⟩
  ·obtain ⟨o,_,_,_,e,ex,_⟩:=I.hok p _ hk
   refine ⟨⟨o,e,ex.1⟩,fun a e2=>?_⟩
   cases e2
   exact ⟨o,e,ex.2.1⟩
 | _=>exact False.elim ty
noncomputable def tBM (K:W.Frag) (T:String) (r:V->List V->Hp->VK->Prop) (to:TE) (t:TA):TE:=fun σ H Q=>to σ H fun x H1=>OY K T x H1/\t σ H1 fun xs H2=>r x xs H2 Q
variable {o e:Expr} {es:List Expr} {to:TE} {t:TA} {name:Str} {apos F4:Pos} {T id:String} {r:V->List V->Hp->VK->Prop}
theorem yW (pa:PlainAttrs T) (slot:Slot T name id) (Ks:typeOf (.builtin id)=pure (.type "method_descriptor")) (hm:La X id r) (ho:PE X o to) (ha:PA X (e :: es) t)
  (GU:attributeBase o name X.env (eval o X.env)=eval o X.env:=by rfl)
  (Ic:((backTo F4 (starEach (e :: es) X.env)).all (fun x=>!x.1) && (backToKw F4 (keywordEach [] X.env)).all (fun x=>x.1.isSome)
   && decide ((e :: es).length + ([]:List Keyword).length + (if ([]:List Keyword).isEmpty then 0 else 1) < 30))=true:=by rfl)
  (GV:(apos.endLine == F4.line)=true:=by rfl) (hs:starEach (e :: es) X.env=(false,eval e X.env) :: starEach es X.env:=by rfl) (Gv:(backTo F4 (starEach es X.env)).any (·.1)=false:=by rfl) :
  PE X (.Call (.Attribute o name apos) (e :: es) [] F4) (tBM X.K T r to t):=by
 intro pins s σ H Q I h
 refine wpAny_Call_method_late GU Ic GV rfl (F1 (ho pins s σ H _ I h) fun v s1 F3=>?_)
 obtain ⟨x,H1,I1,r1,ty,q1⟩:=F3
 obtain ⟨h1,h2⟩:=BA I1 r1 ty
 refine ⟨T,id,pa,slot,Ks,h1,h2,?_⟩
 have hA:=ha F4 pins s1 σ H1 _ I1 q1
 rw [hs] at hA ⊢
 refine Calls.callWith_builtin (by show (false || (backTo F4 (starEach es X.env)).any (·.1))=false;rw [Gv] <;> rfl) (Calls.evalArgs_plain ?_)
 exact F1 hA fun us s2 ⟨vs,H2,I2,r2,q2⟩=>hm pins s2 σ H2 x vs v us Q I2 r1 r2 q2
end
def MtM (X:Cx) (id:String) (r:V->List V->Hp->VK->Prop):Prop:=
 ∀ (pins:List (Addr×Obj)) (s:Shared) (σ:St) (H:Hp) (x:V) (xs:List V) (v:Value) (us:List Value) (Q:VK),Inv X pins σ H s->RelV x v->Vals xs us->r x xs H Q->
  wpAny (model X.prog X.w) X.A (call (.builtin id) (v :: us)) (EP X pins σ Q) X.xe s
theorem Vals.one:∀ {x:V} {us:List Value},Vals [x] us->∃ u,us=[u]/\RelV x u
 | _,_,.cons r .nil=>⟨_,rfl,r⟩
theorem Vals.rep {xs:List V} {us:List Value} (h:Vals xs us):∀ k:Nat,Vals (List.replicate k xs).flatten (List.replicate k us).flatten
 | 0=>.nil
 | k + 1=>by
  rw [List.replicate_succ,List.replicate_succ,List.flatten_cons,List.flatten_cons]
  exact Vals.append h (Vals.rep h k)
theorem oP (FH:List Value):∀ (k:Nat) (acc:List Value),
  List.foldl (fun x1 x2=>x1++x2) acc.toArray (List.replicate k FH.toArray)=(acc++(List.replicate k FH).flatten).toArray
 | 0,acc=>by simp
 | k + 1,acc=>by
  have e:acc.toArray++FH.toArray=(acc++FH).toArray:=by simp
  have e2:(acc++FH)++(List.replicate k FH).flatten=acc++(List.replicate (k + 1) FH).flatten:=by
   rw [List.replicate_succ,List.flatten_cons,List.append_assoc]
  rw [<-e2,<-oP FH k (acc++FH),<-e,List.replicate_succ,List.foldl_cons]
section
variable {X:Cx} {pins:List (Addr×Obj)} {σ:St} {H:Hp} {s:Shared} {l b:Addr} {xs ys zs:List V}
theorem Inv.lset {FH its':List Value} {n:Nat} {f:Array Value->Array Value} {t':Nat} (I:Inv X pins σ H s) (hH:H l=some (.lst xs))
  (e:s.heap.get? l=some { cls:=.type "list",data:=.seq FH.toArray n }) (hf:f FH.toArray=its'.toArray) (hv:Vals ys its') (hz:ys.length<=sizeLine) :
  Inv X pins σ (upd H l (.lst ys)) { s with heap:=s.heap.update l (Obj.mapSeq f),toks:=t' }:=by
 have q:=PySem.IsL.update e f
 rw [hf] at q
 refine I.write (x:=l) (e:=l) (by rw [hH];exact trivial) (.inl rfl) (fun b' u hb hu=>(Heap.get?_update_other s.heap (Obj.mapSeq f) (Ne.symm hb)).trans hu) ⟨_,q⟩ ?_
 exact ⟨hz,its',_,hv,q⟩
theorem Inv.lnew {FH:List Value} {t':Nat} (I:Inv X pins σ H s) (hv:Vals ys FH) (hz:ys.length<=sizeLine) :
  Inv X pins σ (upd H s.heap.objs.size (.lst ys)) { s with heap:=s.heap.push { cls:=.type "list",data:=.seq FH.toArray },toks:=t' }:=
 I.laid (fun _ _ q=>Heap.get?_push_of_some _ q) (Nat.le_refl _) ⟨hz,FH,0,hv,Heap.get?_push_size _ rfl⟩
theorem Inv.fresh (I:Inv X pins σ H s):H s.heap.objs.size=none:=I.hok.fresh (Nat.le_refl _)
theorem Inv.lstM (I:Inv X pins σ H s) (hH:H l=some (.lst xs)):xs.length<=sizeLine/\∃ (FH:List Value) (n:Nat),Vals xs FH/\xs.length=FH.length/\s.heap.get? l=some { cls:=.type "list",data:=.seq FH.toArray n }:=by
 obtain ⟨z,FH,n,r,e⟩:=I.hok l _ hH
 exact ⟨z,FH,n,r,r.length,e⟩
theorem wN {n:Nat} (h:n<=sizeLine):Builtin.List.listTooLong n=false:=by
 unfold Builtin.List.listTooLong
 exact decide_eq_false (by lia)
end
section
variable {X:Cx}
noncomputable def yX:V->List V->Hp->VK->Prop:=fun x vs H Q=>∃ l xs y,x=.ref l/\vs=[y]/\H l=some (.lst xs)/\xs.length < sizeLine/\Q .non (upd H l (.lst (xs++[y])))
theorem oQ:MtM X "list.append" yX:=by
 intro pins s σ H x vs v us Q I rx rv h
 obtain ⟨l,xs,y,rfl,rfl,hH,hz,q⟩:=h
 cases rx
 obtain ⟨u,rfl,ru⟩:=rv.one
 obtain ⟨z,FH,n,r,hl,e⟩:=I.lstM hH
 refine call_meets F.slot_list_append ⟨_,e,rfl⟩ F.entry_list_append (F.args_list_append_2 _ _) (PySem.list_append l FH.toArray n u (by rw [List.size_toArray];lia)) ⟨e,?_⟩
 refine ⟨.non,_,I.lset (its':=FH++[u]) hH e (by simp) (r.append (.cons ru .nil)) ?_,rfl,q⟩
 rw [List.length_append,List.length_singleton]
 lia
theorem m6 {α:Type} (xs:List α) (k:Nat):(List.replicate k xs).flatten.length=k * xs.length:=by
 induction k with
 | zero=>simp
 | succ k ih=>rw [List.replicate_succ,List.flatten_cons,List.length_append,ih,Nat.succ_mul,Nat.add_comm]
end
section
variable {prog:Program} {w:World} {A:Around} {E:Value->Shared->Prop} {s:Shared}
end
section
variable {X:Cx}
end
end L2
namespace Att
open PySem PySem.W PySem.Calls PyProof.Rows
theorem kS {P:Params} {h:Heap}:∀ (ns:List Int) (vs:List Value),WellAll P h vs (ns.map WData.int)->IntsAre vs ns:=by
 intro ns
 induction ns with
 | nil=>
  intro vs w
  rw [List.map_nil] at w
  cases w
  exact .nil
 | cons n ns ih=>
  intro vs w
  rw [List.map_cons] at w
  cases w with
  | cons a b=>
   cases a
   exact .cons _ _ (ih _ b)
theorem uq {l:OpenLaw} {n:Nat} (hn:l.most=some n) {P:Params} {h:Heap} {args:List WData} {vals:List Value}
  (Lb:l.row.toRowW.claim.pre args=true) (M9:WellAll P h vals args) :
  ∃ a vs ns,vals=[Value.ref a]/\args=[WData.list (ns.map WData.int)]/\h.get? a=some { cls:=.type "list",data:=.seq vs.toArray }/\IntsAre vs ns/\ns.length<=n:=by
 have hsh:WShape.hasAll [] args [.list .int]=true:=(pre_splitW Lb).1
 have hc:l.pre.holds [] { args:=args }=true:=(pre_splitW Lb).2
 obtain ⟨d,r,rfl,h1,h2⟩:=hasAllW_cons hsh
 obtain rfl:=hasAllW_nil h2
 obtain ⟨xs,rfl,h3⟩:=hasW_list h1
 obtain ⟨ns,rfl⟩:=items_int h3
 have hlen:ns.length<=n:=by
  unfold OpenLaw.pre at hc
  have h4:(WTm.not (.lt (.lit (.int (n:Int))) (.len (.arg 0)))).holds [] { args:=[.list (ns.map .int)] }=true:=by
   have h4:=(holds_andW hc).1
   rw [hn] at h4
   exact h4
  have h5:=condW_of h4 (w_not (w_lt w_lit (w_len_list (w_arg rfl))))
  rw [List.length_map] at h5
  refine Nat.le_of_not_lt fun q=>?_
  have q':(n:Int) < ((ns.length:Nat):Int):=by lia
  first
   | (rw [decide_eq_true q'] at h5;exact absurd h5 (by decide))
   | (simp at h5;lia)
 cases M9 with
 | cons w1 w2=>
  cases w2
  cases w1 with
  | list ho GJ=>exact ⟨_,_,ns,rfl,rfl,ho,kS ns _ GJ,hlen⟩
theorem ur (l:OpenLaw) (args:List WData):l.row.toRowW.claim.post args (.bool true) args=true:=
 postW_of (r:=l.row.toRowW) (X:=(true == true))
  (show WShape.has [] (.bool true) .bool=true by first | rfl | decide | simp [WShape.has,WShape.arms,WShape.armsAll])
  (show (WTm.eq .res (.lit (.bool true))).value [] { args:=args,res:=some (.bool true),after:=args }=some (.bool (true == true)) from w_eq_bool (w_res rfl) w_lit) rfl
theorem attach_call {l:OpenLaw} {n:Nat} {q:Program} {loose:List Str} {XP:(Str->Option Value)->Heap->Prop} {YP:World->Heap->Prop} {d:DefRec}
  (hn:l.most=some n) (Nw:d.params.defaults=[])
  (call:∀ (w:World) (s₀ s₁:Shared) (mg mb:Str->Option Value) (fa:Addr) (o:Obj) (pm cd doc:Value) (a:Addr) (vs:List Value) (ns:List Int),
   Ground q loose [] XP w s₀ mg mb s₁.heap->YP w s₁.heap->
   s₁.heap.get? fa=some o->o.data=.func (docDef d.name d.params d.body d.scope pm cd doc)->s₁.heap.CodeRec cd d.name->mg d.name=some (.ref fa)->
   s₁.heap.get? a=some { cls:=.type "list",data:=.seq vs.toArray }->IntsAre vs ns->ns.length<=n->s₁.gens = #[]->
   codeAny (model l.prog w) callerA (.call (.ref fa) ⟨[.ref a],[]⟩) (fun r s'=>r=.ok (.ret (.bool true))/\OldK s₁.heap s'.heap/\s'.os=s₁.os/\AllBare s'.gens) s₁) :
  WalkO q loose XP YP l.row.toRowW d [] (fun f vs=>PySem.call f vs):=by
 intro w s₀ s₁ mg mb G Y fa o pm cd doc dV kV ho hd Ko hD Nx hg args vals as Lb hlay hrd M9 P2
 obtain rfl:dV=.none:=Dflts.none hD Nw
 obtain rfl:kV=.none:=Dflts.noKw hD
 obtain ⟨a,vs,ns,rfl,rfl,Mk,hints,hlen⟩:=uq hn Lb M9
 refine enter_call (codeAny_mono (call w s₀ s₁ mg mb fa o pm cd doc a vs ns G Y ho (fd_plain hd) Ko Nx Mk hints hlen hg) fun r s' hq=>?_)
 obtain ⟨rfl,h2,h3,h4⟩:=hq
 exact ⟨.inl ⟨.bool true,.bool true,[],rfl,fun _=>rfl,.bool true,ur l _,fun _=>⟨List.Pairwise.nil,fun _ hm=>(nomatch hm)⟩⟩,h2,h3,h4⟩
section
variable {prog:Program} {w:World} {A:Around} {E:Value->Shared->Prop} {s:Shared} {K:Frag}
end
end Att
namespace L2
open PySem PySem.Spec PyProof.Rows
theorem oR:∀ {vs:List Value} {ns:List Int},IntsAre vs ns->Vals (ns.map V.int) vs
 | _,_,.nil=>.nil
 | _,_,.cons n t h=>.cons ⟨t,rfl⟩ (oR h)
def DM (H:Hp):Prop:=∀ b,H b=none\/∃ o xs,H b=some (.frz o (.lst xs))
theorem wO {P:Program} {w:World} {K:W.Frag} {mg mb:Str->Option Value} {CX:Kg} {k:Nat} {fa a:Addr} {fd:FuncData} {x:Str} {sp:Sp} {s₁:Shared} {vs:List Value} {ns:List Int}
  (KX:K.In s₁.heap) (L5:s₁.heap.Ns mainGlobals mg) (hb:s₁.heap.Ns builtinsNs mb) (Kt:∀ x:Str,x≠"__name__"->mb x=bootBuiltins x) (hlim:s₁.heap.NoLimit) (hg:s₁.gens = #[])
  (ha:s₁.heap.get? a=some { cls:=.type "list",data:=.seq vs.toArray }) (hi:IntsAre vs ns) (hl:ns.length<=sizeLine) (hr:Room k callerA)
  (F:∀ base:Heap,K.In base->base.Ns mainGlobals mg->FnOk P w K mg base CX k fa fd [x] sp) (Ny:∀ (s:Shared) (u:Value),BindsTo s fd ⟨[u],[]⟩ [(x,u)])
  (Kr:∀ H:Hp,DM H->SqL K H a (ns.map V.int)->sp [.ref a] H (fun v _=>v=.bl true) fun _ _ _=>False)
  (OZ:∀ H e s',CX [] H s₁ (fun _ _ _=>False) e s'->False) :
  codeAny (model P w) callerA (.call (.ref fa) ⟨[.ref a],[]⟩) (fun r s'=>r=.ok (.ret (.bool true))/\OldK s₁.heap s'.heap/\s'.os=s₁.os/\AllBare s'.gens) s₁:=by
 have rv:=oR hi
 have lenV:=hi.length
 have core:∀ H:Hp,DM H->SqL K H a (ns.map V.int)->HOk P w H s₁.heap->(∀ b,H b≠none->b=a)->(H a≠none->K.lookup a=none)->
   codeAny (model P w) callerA (.call (.ref fa) ⟨[.ref a],[]⟩) (fun r s'=>r=.ok (.ret (.bool true))/\OldK s₁.heap s'.heap/\s'.os=s₁.os/\AllBare s'.gens) s₁:=by
  intro H hO hS hok hA hK
  have JU:∀ {b:Addr} {o:Obj},s₁.heap.get? b=some o->H b=none->(wx s₁.heap H).get? b=some o:=fun e n=>wy e n
  have Nu:∀ {b:Addr} {o:Obj} {es:Array DictEntry} {ep:Nat},s₁.heap.get? b=some o->o.data=.dict es ep->H b=none:=fun {b o es ep} e d=>by
   cases q:H b with
   | none=>rfl
   | some u=>
    have e':b=a:=hA b (by rw [q];simp)
    subst e'
    rw [ha] at e;cases e
    have d':Data.seq vs.toArray _=Data.dict es ep:=d
    cases d'
  have Ou:∀ {b:Addr} {m:Str->Option Value},s₁.heap.Ns b m->(wx s₁.heap H).Ns b m:=fun {b m} ⟨o,es,ep,e,d,r⟩=>⟨o,es,ep,JU e (Nu e d),d,r⟩
  have P4:K.In (wx s₁.heap H):=fun b o e=>JU (KX b o e) (by
   cases q:H b with
   | none=>rfl
   | some u=>
    have e':b=a:=hA b (by rw [q];simp)
    subst e'
    rw [hK (by rw [q];simp)] at e;cases e)
  have hM:Mod K mg (wx s₁.heap H):=⟨P4,Ou L5,⟨mb,Ou hb,Kt⟩,let ⟨mc,h1,h2⟩:=hlim;⟨mc,Ou h1,h2⟩⟩
  have e0:Env0 P w K mg (wx s₁.heap H) callerA [] s₁ H:=⟨rfl,hM,fun b o e=>yC e,Nat.le_of_eq (tU _ _),trivial,fun b hb=>absurd (show b∈([]:List Addr) from hb) (by simp),hok,.of_eq hg⟩
  refine codeAny_mono ((F _ P4 (Ou L5)).run callerA [] s₁ H ⟨[.ref a],[]⟩ [.ref a] [.ref a] _ _ hr e0 (Ny s₁ (.ref a)) (.cons rfl .nil) (Kr H hO hS)) fun r s' h=>?_
  cases r with
  | error e=>exact (OZ H e s' h).elim
  | ok fl=>
   cases fl with
   | next=>exact False.elim h
   | brk=>exact False.elim h
   | cont=>exact False.elim h
   | ret u=>
    obtain ⟨v,H',os,bare,un,hok',r',q⟩:=h
    have q':v=.bl true:=q
    subst q'
    obtain rfl:u=Value.bool true:=r'
    refine ⟨rfl,OldK.of_keep fun b o e=>?_,os,bare⟩
    cases q:H b with
    | none=>exact un.keep b o e q (by intro z;exact absurd (show b∈([]:List Addr) from z) (by simp)) (by simp)
    | some u=>
     rcases hO b with z | ⟨ob,xs,z⟩
     ·rw [q] at z;cases z
     ·have z2:=un.frzs b ob _ z
      obtain ⟨e1,_⟩:=hok b _ z
      obtain ⟨e2,_⟩:=hok' b _ z2
      rw [e] at e1;cases e1
      exact e2
 cases hk:K.lookup a with
 | some o=>
  have e:=KX a o hk
  rw [ha] at e
  cases e
  refine core (fun _=>none) (fun _=>.inl rfl) (.inr ⟨_,vs.toArray,_,hk,rfl,rfl,rfl,by rw [List.size_toArray,lenV];exact hl,by simpa using rv⟩) (fun b u z=>by have z':(none:Option HO)=some u:=z;cases z') (fun b z=>absurd rfl z) fun z=>absurd rfl z
 | none=>
  refine core (fun b=>if b=a then some (.frz { cls:=.type "list",data:=.seq vs.toArray } (.lst (ns.map V.int))) else none) (fun b=>?_) (.inl (.inr ⟨{ cls:=.type "list",data:=.seq vs.toArray },if_pos rfl⟩)) (fun b u z=>?_) (fun b z=>?_) fun _=>hk
  ·by_cases hb:b=a
   ·exact .inr ⟨_,_,if_pos hb⟩
   ·exact .inl (if_neg hb)
  ·by_cases hb:b=a
   ·have z':=(if_pos hb).symm.trans z
    cases z'
    subst hb
    exact ⟨ha,by rw [List.length_map];exact hl,vs,_,rv,ha⟩
   ·have z':=(if_neg hb).symm.trans z
    cases z'
  ·by_cases hb:b=a
   ·exact hb
   ·exact absurd (if_neg hb) z
theorem yY {l:PySem.W.OpenLaw} {n k:Nat} {q:Program} {loose:List Str} {XP:(Str->Option Value)->Heap->Prop} {YP:World->Heap->Prop} {d:DefRec} {K:Params->W.Frag} {CX:World->Kg} {sp:World->Sp} {x:Str}
  (hn:l.most=some n) (Ku:n<=sizeLine) (Nw:d.params.defaults=[]) (hr:Room k callerA)
  (hY:∀ (w:World) (h:Heap),YP w h->(K w.params).In h)
  (F:∀ (w:World) (mg:Str->Option Value) (fa:Addr) (h:Heap),(K w.params).In h->h.Ns mainGlobals mg->mg d.name=some (.ref fa)->
   ∃ fd:FuncData,(∀ (s:Shared) (u:Value),BindsTo s fd ⟨[u],[]⟩ [(x,u)])/\
    ∀ base:Heap,(K w.params).In base->base.Ns mainGlobals mg->FnOk l.prog w (K w.params) mg base (CX w) k fa fd [x] (sp w))
  (Kr:∀ (w:World) (H:Hp) (a:Addr) (ns:List Int),ns.length<=n->DM H->SqL (K w.params) H a (ns.map V.int)->sp w [.ref a] H (fun v _=>v=.bl true) fun _ _ _=>False)
  (OZ:∀ (w:World) (H:Hp) (s:Shared) (e:Value) (s':Shared),CX w [] H s (fun _ _ _=>False) e s'->False) :
  PySem.W.WalkO q loose XP YP l.row.toRowW d [] (fun f vs=>PySem.call f vs):=by
 refine Att.attach_call hn Nw fun w s₀ s₁ mg mb fa o pm cd doc a vs ns G Y ho hd Ko Nx Mk hints hlen hg=>?_
 have KX:=hY w _ Y
 obtain ⟨fd,hb,hF⟩:=F w mg fa _ KX G.T.g Nx
 exact wO KX G.T.g G.T.b G.T.builtins G.T.nolimit hg Mk hints (Nat.le_trans hlen Ku) hr hF hb (fun H hO hS=>Kr w H a ns hlen hO hS) fun H e s'=>OZ w H s₁ e s'
noncomputable def gM (s:Stmt):Arguments:=match s with
 | .FunctionDef _ a _ _ _ _ _ _ _ _=>a
 | _=>{ posonlyargs:=[],args:=[],vararg:=none,kwonlyargs:=[],kw_defaults:=[],kwarg:=none,defaults:=[] }
noncomputable def e9 (s:Stmt):List Stmt:=match s with
 | .FunctionDef _ _ b _ _ _ _ _ _ _=>b
 | _=>[]
noncomputable def defScope (s:Stmt):Scope:=match s with
 | .FunctionDef _ _ _ _ _ _ sc _ _ _=>sc
 | _=>{ kind:=.function,names:=[],isGenerator:=false,isCoroutine:=false }
abbrev Kv:Kg:=fun _ _ _ _ _ _=>False
abbrev E0:XK:=fun _ _ _=>False
theorem DN {X:Cx}:ud Kv X E0:=fun _ _ _ _ _ _ _ h=>h.elim
structure Fun (K:W.Frag) (x qual:Str) (st:Stmt) (f:Addr) (fd:FuncData):Prop where
 ex:∃ (oc:Value) (od:Option Addr) (kV doc pm:Value) (an:Option Addr) (F7 ct:Value) (KZ:Array (Option Value)),
  fd=PySem.W.fnOf x qual (gM st) (e9 st) (defScope st) .none kV doc pm an F7 ct/\K.lookup f=some ⟨oc,od,.func fd,KZ⟩/\PySem.W.codeIn K F7 qual=true
 kp:PySem.W.keepIn K (.ref f)=true
section
variable {P:Program} {w:World} {K:W.Frag} {mg:Str->Option Value} {base:Heap}
theorem Fun.ok {x qual:Str} {st:Stmt} {f:Addr} {fd:FuncData} {N ps:List Str} {k:Nat} {sp:Sp} (F:Fun K x qual st f fd) (S:FnScope N ps (defScope st)) (len:∀ vs H Q E,sp vs H Q E->vs.length=ps.length)
  (Kq:∀ (F7:Value) (A:Around) (outer:List Env) (s:Shared) (H:Hp) (vs:List V) (Q:VK) (E:XK),Room k (A.deeper (envOfC qual (defScope st) s.heap.objs.size f F7))->sp vs H Q E->
   ∃ t,PSs (xR Kv P w K mg base N qual (defScope st) f F7 A outer s H E).nox (e9 st) t/\t { nx:=fun _ H'=>Q .non H',rt:=Q } (start N vs) H):FnOk P w K mg base Kv (k + 1) f fd ps sp:=by
 obtain ⟨oc,od,kV,doc,pm,an,F7,ct,KZ,rfl,lk,Ko⟩:=F.ex
 refine DI lk Ko S len fun A outer s H vs Q E hr Kr=>?_
 obtain ⟨t,h,q⟩:=Kq F7 A outer s H vs Q E hr Kr
 exact ⟨t,h.nox,q⟩
theorem Fun.binds {x qual:Str} {st:Stmt} {f:Addr} {fd:FuncData} {ps:List Str} (F:Fun K x qual st f fd)
  (h:∀ (kV doc pm:Value) (an:Option Addr) (F7 ct:Value) (us:List Value),us.length=ps.length->bindArgs (PySem.W.fnOf x qual (gM st) (e9 st) (defScope st) .none kV doc pm an F7 ct) ⟨us,[]⟩=pure (ps.zip us)):Binds K fd ps []:=by
 obtain ⟨oc,od,kV,doc,pm,an,F7,ct,KZ,rfl,lk,Ko⟩:=F.ex
 exact .all (h kV doc pm an F7 ct)
theorem xU {x qual:Str} {st:Stmt} {f:Addr} {oc:Value} {od an:Option Addr} {KZ:Array (Option Value)} {kV doc pm F7 ct:Value} (l:K.lookup f=some ⟨oc,od,.func (PySem.W.fnOf x qual (gM st) (e9 st) (defScope st) .none kV doc pm an F7 ct),KZ⟩)
  (c:PySem.W.codeIn K F7 qual=true) (k:PySem.W.keepIn K (.ref f)=true):Fun K x qual st f (PySem.W.fnOf x qual (gM st) (e9 st) (defScope st) .none kV doc pm an F7 ct):=⟨⟨oc,od,kV,doc,pm,an,F7,ct,KZ,rfl,l,c⟩,k⟩
end
theorem hu_of {A:Around} {k:Nat} (hr:Room k A):A.units + 1 < cLine:=Nat.lt_of_le_of_lt (Nat.add_le_add_left (by decide:1<=64) _) hr.units
section
variable {X:Cx}
theorem pv (i:Nat) {x:Str} {pos:Pos} (hN:X.N[i]?=some x:=by rfl) (hv:OP X.env.scope x:=by first | exact Or.inl rfl | exact Or.inr (Or.inl rfl) | exact Or.inr (Or.inr rfl)) (hd:(x == ("__debug__" : Str))=false:=by decide)
  (Ko:(x == ("__classdict__" : Str))=false:=by decide):PE X (.Name x pos) (wz i):=A6 hN hv hd Ko
end
theorem iteF {A B:Prop} (h:B):if false=true then A else B:=by
 rw [if_neg Bool.false_ne_true]
 exact h
theorem Di {A B:Prop} (h:A):if true=true then A else B:=by
 rw [if_pos rfl]
 exact h
def Same (H H':Hp):Prop:=∀ b o,H b=some o->H' b=some o
theorem Same.refl (H:Hp):Same H H:=fun _ _ h=>h
theorem Same.trans {H H1 H2:Hp} (a:Same H H1) (b:Same H1 H2):Same H H2:=fun c o h=>b c o (a c o h)
theorem Same.free {H H':Hp} (e:Same H H') {l:Addr} (h:H' l=Option.none):H l=Option.none:=by
 cases q:H l with
 | none=>rfl
 | some o=>
  rw [e l o q] at h
  cases h
theorem Same.seq {K:W.Frag} {H H':Hp} {a:Addr} {xs:List V} (e:Same H H') (h:SqL K H a xs):SqL K H' a xs:=by
 rcases h with (h | ⟨o,h⟩) | h
 ·exact .inl (.inl (e _ _ h))
 ·exact .inl (.inr ⟨o,e _ _ h⟩)
 ·exact .inr h
end L2
set_option maxHeartbeats 4000000
namespace NX
open PySem PySem.Spec PyProof.Rows L2
section
variable {X:Cx}
theorem wQ (v:Int) (n:Nat):max (0:Int) (min (if v < 0 then v + (n:Int) else v) (n:Int))=((HT.sIx n 0 (some v):Nat):Int):=by
 show _=(((if v < 0 then (v + (n:Int)).toNat else min v.toNat n):Nat):Int)
 split <;> lia
theorem BC (a b:Nat):sliceRange (a:Int) (b:Int) 1=(List.range (b - a)).map (fun k=>a + k):=by
 unfold sliceRange
 rw [if_pos (by decide:(1:Int) > 0)]
 by_cases Gn:(a:Int) < b
 ·have e3:(((b:Int) - a + 1 - 1) / 1).toNat=b - a:=by first | lia | (simp;done) | (simp;lia)
  simp only [Gn,if_true,e3]
  refine List.map_congr_left fun k _=>?_
  lia
 ·have:b - a=0:=by lia
  simp [Gn,this]
theorem Fb (lo hi:Option Int) (n:Nat):Builtin.Str.strSliceIndices lo hi 1 n=(List.range (HT.sIx n n hi - HT.sIx n 0 lo)).map (fun k=>HT.sIx n 0 lo + k):=by
 rw [<-BC]
 unfold Builtin.Str.strSliceIndices
 simp only [show (1:Int) > 0 from by decide,if_true]
 cases lo with
 | none=>
  cases hi with
  | none=>rfl
  | some v=>exact congrArg (fun z=>sliceRange 0 z 1) (wQ v n)
 | some u=>
  cases hi with
  | none=>exact congrArg (fun z=>sliceRange z (n:Int) 1) (wQ u n)
  | some v=>exact (congrArg (fun z=>sliceRange z _ 1) (wQ u n)).trans (congrArg (fun z=>sliceRange _ z 1) (wQ v n))
noncomputable def BD (xs:List Nat) (lo hi:Option Int):List Nat:=(xs.drop (HT.sIx xs.length 0 lo)).take (HT.sIx xs.length xs.length hi - HT.sIx xs.length 0 lo)
theorem xV {α:Type} (l:List α):∀ (n a:Nat),a + n<=l.length->((List.range n).map (fun k=>a + k)).filterMap (l[·]?)=(l.drop a).take n
 | 0,_,_=>by simp
 | n + 1,a,h=>by
  have Gn:a + n < l.length:=by lia
  rw [List.range_succ,List.map_append,List.filterMap_append,xV l n a (by lia),List.take_add_one,List.getElem?_drop]
  simp [List.getElem?_eq_getElem Gn]
theorem uu (x:Str) (lo hi:Option Int):(Txt.slice x lo hi).cps.toList=BD x.cps.toList lo hi:=by
 have hl:x.cps.toList.length=x.length:=Array.length_toList
 have ha:=HT.uh x.length 0 (Nat.zero_le _) lo
 have hb:=HT.uh x.length x.length (Nat.le_refl _) hi
 unfold Txt.slice BD
 rw [Fb,hl]
 split
 ·rename_i h
  have h2:HT.sIx x.length x.length hi - HT.sIx x.length 0 lo=x.length:=by simpa using h
  have ez:HT.sIx x.length 0 lo=0\/x.length=0:=by lia
  rcases ez with e | e
  ·rw [h2,e,List.drop_zero,List.take_of_length_le (by lia)]
  ·have:x.cps.toList=[]:=List.eq_nil_of_length_eq_zero (by lia)
   rw [this]
   simp
 ·have hk:∀ (f:List Nat),f.filterMap (x.cps[·]?)=f.filterMap (x.cps.toList[·]?):=fun f=>by
   congr 1
   funext i
   simp
  show (List.filterMap _ _).toArray.toList=_
  rw [List.toList_toArray,hk]
  by_cases hle:HT.sIx x.length 0 lo<=HT.sIx x.length x.length hi
  ·rw [xV _ _ _ (by lia)]
  ·have e0:HT.sIx x.length x.length hi - HT.sIx x.length 0 lo=0:=by lia
   rw [e0]
   rfl
abbrev S (l:List Nat):Str:=⟨l.toArray⟩
theorem oU (x:Str):S x.cps.toList=x:=by cases x;simp [S]
theorem S_inj {a b:List Nat} (h:S a=S b):a=b:=by
 have:=congrArg (fun z:Str=>z.cps.toList) h
 simpa [S] using this
theorem mh (l:List Nat):(S l).length=l.length:=by simp [S,Str.length]
theorem fe (l:List Nat):(S l).cps.toList=l:=by simp [S]
theorem DO (a b:List Nat):S a++S b=S (a++b):=by
 rw [<-oU (S a++S b),PySem.W.KT.app_list,fe,fe]
noncomputable def Fc:V->Option Int->Option Int->Hp->VK->Prop:=fun x lo hi H Q=>∃ l,x=.str (S l)/\l.length<=sizeLine/\Q (.str (S (BD l lo hi))) H
theorem BE:Mj X Fc:=by
 intro pins s σ H x v vl vu lo hi sl Q I rx hs pl pu h
 obtain ⟨l,rfl,hz,q⟩:=h
 obtain ⟨t,rfl⟩:=rx
 have hz':(S l).length<=sizeLine:=by rw [mh];exact hz
 have e:∀ t' k,EP X pins σ Q (.str (Txt.slice (S l) lo hi) t') { s with toks:=k }:=fun t' k=>by
  refine ⟨.str (S (BD l lo hi)),H,I.tok _,⟨t',?_⟩,q⟩
  have e1:=uu (S l) lo hi
  rw [fe] at e1
  rw [<-e1,oU]
 refine ⟨"str",_,PySem.F.slot_str_getitem.lookup,typeIs_str _ _ _,?_⟩
 have key:∀ (Ml Ov:Option (Int×Tok)),partValue Ml=vl->partValue Ov=vu->Ml.map (·.1)=lo->Ov.map (·.1)=hi->
   wpAny (model X.prog X.w) X.A (getItem (.str (S l) t) (.ref sl)) (EP X pins σ Q) X.xe s:=by
  rintro Ml Ov rfl rfl rfl rfl
  exact wpAny_getItem_str_slice (l:=Ml) (u:=Ov) (st:=none) hs rfl (post_val_or_str ⟨Nat.le_trans (Txt.slice_le (S l) _ _) hz',fun t' k=>e t' k⟩)
 cases pl with
 | none=>
  cases pu with
  | none=>exact key none none rfl rfl rfl rfl
  | int j uj=>exact key none (some (j,uj)) rfl rfl rfl rfl
 | int i ui=>
  cases pu with
  | none=>exact key (some (i,ui)) none rfl rfl rfl rfl
  | int j uj=>exact key (some (i,ui)) (some (j,uj)) rfl rfl rfl rfl
theorem getD_of {xs:List V} {j:Nat} {x:V} (h:xs[j]?=some x):xs.getD j .non=x:=by rw [List.getD_eq_getElem?_getD,h];rfl
end
def Def (K:W.Frag) (mg:Str->Option Value) (x:Str) (st:Stmt):Prop:=∃ f fd,Fun K x x st f fd/\mg x=some (.ref f)
def Ct (P:Program) (w:World) (K:W.Frag) (mg:Str->Option Value) (base:Heap) (x:Str) (k:Nat) (sp:Sp):Prop:=
 ∃ f fd ps,FnOk P w K mg base Kv k f fd ps sp/\mg x=some (.ref f)/\PySem.W.keepIn K (.ref f)=true/\Binds K fd ps []
section
variable {X:Cx} {e:Expr} {es:List Expr} {t:TA} {x:Str} {p pos:Pos} {k:Nat} {sp:Sp}
theorem DP (C:Ct X.prog X.w X.K X.mg X.base x k sp) (hr:Room k X.A) (hg:Gl X x) (ha:PA X (e :: es) t) (IJ:(x == ("__debug__" : Str))=false:=by decide)
  (he:starEach (e :: es) X.env=(false,eval e X.env) :: starEach es X.env:=by rfl) (HI:(backTo pos (starEach es X.env)).any (·.1)=false:=by rfl) :
  PE X (.Call (.Name x p) (e :: es) [] pos) (tCall sp [] E0 t):=by
 obtain ⟨f,fd,ps,G,m,kp,b⟩:=C
 exact yO G hr hg m kp b .nil DN ha IJ he HI
end
theorem bt_len:bootBuiltins "len" = some (.builtin "len"):=by decide +kernel
theorem xW:bootBuiltins "int" = some (.type "int"):=by decide +kernel
theorem bR:bootBuiltins "tuple" = some (.type "tuple"):=by decide +kernel
theorem line_eq:sizeLine=16777216:=sizeLine_eq
theorem flat_strs (a:List (List Nat)):(a.map fun l=>V.str (S l)).all wM=true:=by
 rw [List.all_eq_true]
 intro v hv
 obtain ⟨l,_,rfl⟩:=List.mem_map.mp hv
 rfl
section
variable {X:Cx} {e:Expr} {st:Stmt}
end
noncomputable def clOf (scope:Scope) (env:Env):List (Str×Addr):=scope.names.foldl (fun cs y=>if y.2 == NameKind.free then (y.1,(env.cells.lookup y.1).getD 0) :: cs else cs) []
noncomputable def ja (scope:Scope) (env:Env):Bool:=scope.names.all fun y=>y.2 != NameKind.free || env.kindOf y.1 == some .cell || env.kindOf y.1 == some .free
theorem iq (env:Env):∀ (l:List (Str×NameKind)) (cs:List (Str×Addr)),(∀ y∈l,y.2=.free->∃ c,env.cells.lookup y.1=some c)->
  (forIn l cs fun (y:Str×NameKind) (r:List (Str×Addr))=>(do
   if y.2 == NameKind.free then
    let a <-cellOf env y.1
    pure (ForInStep.yield ((y.1,a) :: r))
   else pure (ForInStep.yield r):Sem (ForInStep (List (Str×Addr)))))=pure (l.foldl (fun cs y=>if y.2 == NameKind.free then (y.1,(env.cells.lookup y.1).getD 0) :: cs else cs) cs)
 | [],cs,_=>by simp
 | y :: l,cs,h=>by
  rw [List.forIn_cons,List.foldl_cons]
  by_cases k:y.2=.free
  ·obtain ⟨c,e⟩:=h y List.mem_cons_self k
   have e2:cellOf env y.1=pure c:=by unfold cellOf;rw [e]
   simp only [k,beq_self_eq_true,if_true,e2,e,Option.getD_some,pure_bind]
   exact iq env l _ fun z hz=>h z (List.mem_cons_of_mem _ hz)
  ·have kb:(y.2 == NameKind.free)=false:=by simpa using k
   simp only [kb,Bool.false_eq_true,if_false,pure_bind]
   exact iq env l _ fun z hz=>h z (List.mem_cons_of_mem _ hz)
theorem iI (env:Env) (x:Str) (c:Addr):∀ (l:List (Str×NameKind)) (cs:List (Str×Addr)),(∀ y∈l,y.2=.free->∃ c,env.cells.lookup y.1=some c)->(cs.lookup x=some c->env.cells.lookup x=some c)->
  (l.foldl (fun cs y=>if y.2 == NameKind.free then (y.1,(env.cells.lookup y.1).getD 0) :: cs else cs) cs).lookup x=some c->env.cells.lookup x=some c
 | [],_,_,h,e=>h e
 | y :: l,cs,hf,h,e=>by
  rw [List.foldl_cons] at e
  refine iI env x c l _ (fun z hz=>hf z (List.mem_cons_of_mem _ hz)) (fun q=>?_) e
  split at q
  ·rename_i k
   have k:y.2=.free:=by simpa using k
   obtain ⟨d,ed⟩:=hf y List.mem_cons_self k
   rw [List.lookup_cons] at q
   cases hx:x == y.1 with
   | true=>
    rw [hx] at q
    have exy:x=y.1:=by simpa using hx
    rw [ed,Option.getD_some] at q
    rw [exy,ed]
    exact q
   | false=>
    rw [hx] at q
    exact h q
  ·exact h q
theorem kU (env:Env) (x:Str):∀ (l:List (Str×NameKind)) (cs:List (Str×Addr)),((∃ d,cs.lookup x=some d)\/(x,NameKind.free)∈l)->
  ∃ d,(l.foldl (fun cs y=>if y.2 == NameKind.free then (y.1,(env.cells.lookup y.1).getD 0) :: cs else cs) cs).lookup x=some d
 | [],_,h=>by
  rcases h with h | h
  ·exact h
  ·cases h
 | y :: l,cs,h=>by
  rw [List.foldl_cons]
  refine kU env x l _ ?_
  rcases h with ⟨d,h⟩ | h
  ·refine .inl ?_
   split
   ·rw [List.lookup_cons]
    cases hx:x == y.1 with
    | true=>exact ⟨_,rfl⟩
    | false=>exact ⟨d,h⟩
   ·exact ⟨d,h⟩
  ·rcases List.mem_cons.mp h with h | h
   ·refine .inl ?_
    rw [<-h]
    refine ⟨(env.cells.lookup x).getD 0,?_⟩
    show List.lookup x ((x,_) :: cs)=_
    rw [List.lookup_cons,beq_self_eq_true]
   ·exact .inr h
noncomputable def cD (X:Cx) (scope:Scope) (N:List Str) (C:Addr) (s:Shared) (H:Hp) (fp:List Addr) (pn:List (Addr×Obj)):Cx:=
 { X with N:=N,s₀:=s,H₀:=H,env:=compEnvC scope (clOf scope X.env) C X.env,outer:=X.stack,ex:=fp,fn:=fun _=>false,pn:=pn,xe:=fun _ _=>False }
noncomputable def mH (ix:List (Option Nat)) (σ:L2.St):L2.St:=ix.map fun i=>i.bind fun i=>(σ[i]?).bind id
noncomputable def yZ (wi:TI) (ix:List (Option Nat)) (g:TG) (tc:TT) (te:TE):TE:=fun σ H Q=>wi σ H fun J H1=>∀ D,H1 D=none->∃ W:Nat->Nat->L2.St->Hp->Prop,(∃ m,W 0 m (mH ix σ) (upd H1 D (.lst [])))/\
 ∀ i m σ1 H2,W i m σ1 H2->(J.stop i H2/\Q (.ref D) H2)\/(J.go i H2/\∀ x H3,J.yld i H2 x H3->g x σ1 H3 fun σ2 H4=>tc σ2 H4 fun b H5=>if b=true then te σ2 H5 fun v H6=>
  ∃ ys,H6 D=some (.lst ys)/\ys.length < sizeLine/\∃ m',m' < m/\W (i + 1) m' σ2 (upd H6 D (.lst (ys++[v]))) else ∃ m',m' < m/\W (i + 1) m' σ2 H5)
abbrev Lc:Value->Shared->Prop:=fun _ _=>False
theorem Na {α:Type} {M:Model} {A:Around} {t:Sem α} {Q Q':α->Shared->Prop} {E:Value->Shared->Prop} {s:Shared} (h:wpAny M A t Q Lc s) (k:∀ a s,Q a s->Q' a s):wpAny M A t Q' E s:=wpAny_mono h k fun _ _ z=>z.elim
theorem uv {prog:Program} {w:World} {A:Around} {R:Result->Shared->Prop} {s:Shared} {elt target iter:Expr} {ifs:List Expr} {scope:Scope} {pos:Pos} {it acc:Value} {env:Env} (I:Nat->Shared->Prop)
  (turn:∀ n s,I n s->wpAny (model prog w) A (pyNext it) (fun r s₁=>match r with
   | none=>R (.ok .next) s₁
   | some v=>wpAny (model prog w) A (letOwnedTupleGo target it v) (fun _ s₂=>wpAny (model prog w) A (assign target env v) (fun _ s₃=>
     wpAny (model prog w) A (forIn ifs true fun c r=>if r=true then do let ok <-isTrue c env (eval c env);pure (ForInStep.yield ok) else pure (ForInStep.yield r)) (fun ok s₄=>
      if ok=true then wpAny (model prog w) A (eval elt env) (fun x s₅=>
       wpAny (model prog w) A (call (.builtin "list.append") [acc,x]) (fun _ s₆=>∃ m,m < n/\I m s₆) Lc s₅) Lc s₄
      else ∃ m,m < n/\I m s₄) Lc s₃) Lc s₂) Lc s₁) Lc s)
  (n:Nat) (h:I n s):codeAny (model prog w) A (.compLoop (.ListComp elt [⟨target,iter,ifs,0⟩] scope pos) 0 it acc env) R s:=by
 refine codeAny_loop rfl I (fun n s hI=>?_) n h
 show wpAny _ A ((compTurn (.ListComp elt [⟨target,iter,ifs,0⟩] scope pos) 0 it acc env).onRaise (fun x=>do noteFrame x env;theTreesLotGoes x)) _ _ s
 refine wpAny_noted ?_
 rw [compTurn_list]
 refine wpAny_bind (wpAny_standAt (wpAny_bind (Na (turn n s hI) fun r s₁ h₁=>?_)))
 cases r with
 | none=>exact wpAny_pure h₁
 | some v=>
  refine wpAny_bind (Na h₁ fun _ s₂ h₂=>wpAny_bind (Na h₂ fun _ s₃ h₃=>wpAny_bind (Na h₃ fun ok s₄ h₄=>?_)))
  cases ok with
  | false=>exact wpAny_pure ⟨rfl,h₄⟩
  | true=>exact wpAny_bind (wpAny_bind (Na h₄ fun x s₅ h₅=>wpAny_bind (Na h₅ fun _ s₆ h₆=>wpAny_pure (wpAny_pure ⟨rfl,h₆⟩))))
def Nb (X:Cx) (ifs:List Expr) (t:TT):Prop:=
 ∀ (pins:List (Addr×Obj)) (s:Shared) (σ:L2.St) (H:Hp) (Q:Bool->Hp->Prop),Inv X pins σ H s->t σ H Q->
  wpAny (model X.prog X.w) X.A (forIn ifs true fun c r=>if r=true then do let ok <-isTrue c X.env (eval c X.env);pure (ForInStep.yield ok) else pure (ForInStep.yield r)) (TP X pins σ Q) X.xe s
noncomputable def Fd:TT:=fun _ H Q=>Q true H
theorem y1 {X:Cx}:Nb X [] Fd:=fun _ _ _ H _ I h=>wpAny_tests_nil ⟨H,I,h⟩
theorem y2 {X:Cx} {c:Expr} {t:TT} (h:PT X c t):Nb X [c] t:=fun pins s σ H Q I k=>wpAny_tests_one (h pins s σ H Q I k)
noncomputable def xX (X:Cx) (scope:Scope) (N:List Str) (ix:List (Option Nat)):Bool:=
 N.length == ix.length && (N.zip ix).all fun y=>match y.2 with
  | none=>true
  | some j=>X.N[j]? == some y.1 && scope.names.lookup y.1 == some .free
theorem oV {scope:Scope} {env:Env} {x:Str} (h:scope.names.lookup x=some .free):(relabel scope env).names.lookup x=some .cell\/(relabel scope env).names.lookup x=some .free:=by
 unfold relabel
 dsimp only
 generalize scope.names=l at h
 induction l with
 | nil=>cases h
 | cons y l ih=>
  obtain ⟨n,k⟩:=y
  rw [List.lookup_cons] at h
  rw [List.map_cons]
  cases hx:x == n with
  | true=>
   rw [hx] at h
   have hk:k=.free:=Option.some.inj h
   subst hk
   dsimp only
   split
   ·exact .inl (by rw [List.lookup_cons,hx])
   ·exact .inr (by rw [List.lookup_cons,hx])
  | false=>
   rw [hx] at h
   dsimp only
   split
   ·rw [List.lookup_cons,hx];exact ih h
   ·rw [List.lookup_cons,hx];exact ih h
theorem oW {scope:Scope} {env:Env} {x:Str} (hc:∀ y∈scope.names,y.2≠.cell) (h:(relabel scope env).names.lookup x=some .cell\/(relabel scope env).names.lookup x=some .free):(x,NameKind.free)∈scope.names:=by
 unfold relabel at h
 dsimp only at h
 generalize scope.names=l at h hc
 induction l with
 | nil=>rcases h with h | h <;> cases h
 | cons y l ih=>
  obtain ⟨n,k⟩:=y
  rw [List.map_cons] at h
  dsimp only at h
  have nk:k≠.cell:=hc (n,k) List.mem_cons_self
  have P5:=ih (hc:=fun z hz=>hc z (List.mem_cons_of_mem _ hz))
  by_cases cnd:(k == NameKind.free && env.scope.kind == .function && env.kindOf n == some .cell)=true
  ·rw [if_pos cnd,List.lookup_cons] at h
   have kf:k=.free:=by
    have:(k == NameKind.free)=true:=by
     simp only [Bool.and_eq_true] at cnd
     exact cnd.1.1
    simpa using this
   cases hx:x == n with
   | true=>
    have:x=n:=by simpa using hx
    rw [this,kf]
    exact List.mem_cons_self
   | false=>
    rw [hx] at h
    exact List.mem_cons_of_mem _ (P5 h)
  ·rw [if_neg cnd,List.lookup_cons] at h
   cases hx:x == n with
   | true=>
    rw [hx] at h
    have:x=n:=by simpa using hx
    rcases h with h | h
    ·exact absurd (Option.some.inj h) nk
    ·rw [this,<-Option.some.inj h]
     exact List.mem_cons_self
   | false=>
    rw [hx] at h
    exact List.mem_cons_of_mem _ (P5 h)
section
variable {X:Cx} {pins:List (Addr×Obj)} {σ:L2.St} {H:Hp} {s:Shared} {scope:Scope} {N:List Str} {ix:List (Option Nat)} {fp:List Addr}
theorem m7 (ok:X.Ok) (hf:ja scope X.env=true):∀ y∈scope.names,y.2=.free->∃ c,X.env.cells.lookup y.1=some c:=fun y hy k=>by
 have:=List.all_eq_true.mp hf y hy
 rw [k] at this
 simp only [bne_self_eq_false,Bool.false_or,Bool.or_eq_true,beq_iff_eq] at this
 exact ok.has y.1 this
theorem kW (ok:X.Ok) (hf:ja scope X.env=true) {x:Str} {c:Addr} (h:(clOf scope X.env).lookup x=some c):X.env.cells.lookup x=some c:=
 iI X.env x c scope.names [] (m7 ok hf) (fun z=>nomatch z) h
theorem uw (ok:X.Ok) (hf:ja scope X.env=true) {x:Str} (h:(x,NameKind.free)∈scope.names):∃ c,(clOf scope X.env).lookup x=some c/\X.env.cells.lookup x=some c:=by
 obtain ⟨c,e⟩:=kU X.env x scope.names [] (.inr h)
 exact ⟨c,e,kW ok hf e⟩
theorem _root_.L2.Inv.block (I:Inv X pins σ H s) (hf:ja scope X.env=true) (hk:scope.kind=.function) (Gu:∀ y∈scope.names,y.2≠.cell) (Hl:xX X scope N ix=true) (fo:∀ b∈fp,tJ X pins H b) (fin:∀ b∈fp,∃ o,s.heap.get? b=some o)
  {h1:Heap} {t1:Nat} {D C:Addr} (hD:D=s.heap.objs.size) (hC:C=s.heap.objs.size + 1) (old:∀ b o,s.heap.get? b=some o->h1.get? b=some o) {n:Nat} (acc:h1.get? D=some { cls:=.type "list",data:=.seq #[] n })
  {m:Str->Option Value} (ns:h1.Ns C m):Inv (cD X scope N C s H fp (X.pn++pins)) [] (mH ix σ) (upd H D (.lst [])) { s with heap:=h1,toks:=t1 }:=by
 have Jx:s.heap.objs.size<=C:=by rw [hC];exact Nat.le_succ _
 have freshD:s.heap.objs.size<=D:=by rw [hD];exact Nat.le_refl _
 have nD:H D=none:=I.hok.fresh freshD
 have DC:D≠C:=by rw [hD,hC];exact Nat.ne_of_lt (Nat.lt_succ_self _)
 have Mm:∀ b,H b=none->b≠D->upd H D (.lst []) b=none:=fun b n z=>by rw [aU z];exact n
 have Nc:∀ b o,s.heap.get? b=some o->b≠D:=fun b o e=>Nat.ne_of_lt (Nat.lt_of_lt_of_le (Heap.lt_size e) freshD)
 have Ld:∀ b o,s.heap.get? b=some o->b≠C:=fun b o e=>Nat.ne_of_lt (Nat.lt_of_lt_of_le (Heap.lt_size e) Jx)
 have cellAt:∀ x c,(clOf scope X.env).lookup x=some c->∃ v o,s.heap.get? c=some o/\o.data=.cell v:=fun x c e=>by
  obtain ⟨v,o,ho,hd⟩:=I.cell x c (kW I.ok hf e)
  exact ⟨v,o,ho,hd⟩
 have okY:(cD X scope N C s H fp (X.pn++pins)).Ok:=by
  refine ⟨I.ok.mod,hk,I.ok.glob,I.ok.blt,Jx,fun x y c e1 e2=>?_,fun x hx=>?_,fun x c z _=>?_,I.ok.hd,I.ok.frames,.inl rfl,fun b hb=>?_,I.bs,?_,fun b o e hb=>?_,fun b hb hs=>?_,I.stack,I.stkFree⟩
  ·exact I.ok.inj x y c (kW I.ok hf e1) (kW I.ok hf e2)
  ·obtain ⟨c,e,_⟩:=uw I.ok hf (oW Gu hx)
   exact ⟨c,e⟩
  ·exact absurd (show false=true from z) Bool.false_ne_true
  ·obtain ⟨f0,f1,f2,f3,f4,f5⟩:=fo b hb
   refine ⟨?_,fun x c e=>f4 x c (kW I.ok hf e)⟩
   intro z
   have z:b=C:=z
   obtain ⟨o,ho⟩:=fin b hb
   exact Ld b o ho z
  ·exact Nat.le_trans I.ok.bsz I.sz
  ·obtain ⟨f0,f1,f2,f3,f4,f5⟩:=fo b hb
   rcases f3 with q | q
   ·exact I.ok.noex b o e q
   ·exact absurd (Nat.lt_of_lt_of_le (Heap.lt_size e) (Nat.le_trans I.ok.bsz q)) (Nat.lt_irrefl _)
  ·obtain ⟨f0,f1,f2,_⟩:=fo b hb
   exact (List.mem_cons.mp (I.stkSub b hs)).elim f1 f2
 refine ⟨okY,rfl,I.bare,Un.laid old freshD nD,⟨m,ns,fun i x v e1 e2 e3=>?_⟩,fun x c e=>?_,?_,fun x c e=>?_,fun p hp=>?_,I.hok.laid old freshD ⟨Nat.zero_le _,[],n,.nil,acc⟩,?_⟩
 ·
  have e2:(ix.map fun i=>i.bind fun i=>(σ[i]?).bind id)[i]?=some (some v):=e2
  have e1:N[i]?=some x:=e1
  unfold xX at Hl
  rw [Bool.and_eq_true] at Hl
  rw [List.getElem?_map] at e2
  cases q:ix[i]? with
  | none=>rw [q] at e2;cases e2
  | some o=>
   rw [q] at e2
   have e2:(o.bind fun i=>(σ[i]?).bind id)=some v:=Option.some.inj e2
   cases o with
   | none=>cases e2
   | some j=>
    have e2:(σ[j]?).bind id=some v:=e2
    have hσ:σ[j]?=some (some v):=by
     cases w':σ[j]? with
     | none=>rw [w'] at e2;cases e2
     | some y=>rw [w'] at e2;exact congrArg some e2
    have hz:(N.zip ix)[i]?=some (x,some j):=by
     rw [List.getElem?_zip_eq_some]
     exact ⟨e1,q⟩
    have hy:=List.all_eq_true.mp Hl.2 _ (List.mem_of_getElem? hz)
    simp only [Bool.and_eq_true,beq_iff_eq] at hy
    have P6:(x,NameKind.free)∈scope.names:=PySem.mem_of_lookup hy.2
    obtain ⟨c,c1,c2⟩:=uw I.ok hf P6
    have Nz:X.env.kindOf x=some .cell\/X.env.kindOf x=some .free:=by
     have:=List.all_eq_true.mp hf _ P6
     simpa using this
    obtain ⟨mo,P1,P2⟩:=I.loc
    obtain ⟨u,r,l⟩:=P2 j x v hy.1 hσ (.inr Nz)
    refine ⟨u,r,.inr ⟨oV hy.2,c,c1,?_⟩⟩
    rcases l with ⟨k1,_⟩ | ⟨_,c',e',K8⟩
    ·rcases Nz with k2 | k2 <;> (rw [k1] at k2;cases k2)
    ·rw [c2] at e'
     cases e'
     obtain ⟨o,ho,hd⟩:=K8
     exact ⟨o,old c o ho,hd⟩
 ·obtain ⟨v,o,ho,hd⟩:=cellAt x c e
  exact ⟨v,o,old c o ho,hd⟩
 ·exact Mm C (I.hok.fresh Jx) (Ne.symm DC)
 ·obtain ⟨v,o,ho,hd⟩:=cellAt x c e
  exact Mm c (I.freeC x c (kW I.ok hf e)) (Nc c o ho)
 ·have hp:p∈X.pn++pins:=by
   have:p∈(X.pn++pins)++[]:=hp
   rwa [List.append_nil] at this
  obtain ⟨e,nn,ne,nf,d⟩:=I.pin p hp
  refine ⟨old _ _ e,Mm _ nn (Nc _ _ e),Ld _ _ e,fun z=>?_,d⟩
  exact (List.mem_cons.mp (I.stkSub p.1 z)).elim ne nf
 ·unfold xX at Hl
  rw [Bool.and_eq_true] at Hl
  have:N.length=ix.length:=by simpa using Hl.1
  show (ix.map _).length=N.length
  rw [List.length_map,this]
theorem _root_.L2.Inv.unblock {C:Addr} {σ1:L2.St} {H1:Hp} {s1:Shared} {h2:Heap} (I:Inv X pins σ H s) (fo:∀ b∈fp,tJ X pins H b) (hC:s.heap.objs.size<=C) (J:Inv (cD X scope N C s H fp (X.pn++pins)) [] σ1 H1 s1) (hs:Heap.SameBut C s1.heap h2) :
  Inv X pins σ H1 { s1 with heap:=h2 }:=by
 have Ld:∀ b o,s.heap.get? b=some o->b≠C:=fun b o e=>Nat.ne_of_lt (Nat.lt_of_lt_of_le (Heap.lt_size e) hC)
 have bb:Un (Kf X.stack) fp H H1 s.heap s1.heap:=J.base
 have jf:H1 C=none:=J.free
 refine I.call' (s':={ s1 with heap:=h2 }) (ch:=fp) J.os ⟨fun b o e n hb hx=>?_,fun b o e n hb hx=>?_,bb.free,fun b o e hx=>?_,bb.tups,bb.frzs,bb.tbls⟩ (fun b ob e=>?_) J.bare fun b hb=>?_
 ·exact (hs.2 b (Ld b o e)).trans (bb.keep b o e n hb hx)
 ·obtain ⟨sl,q⟩:=bb.slot b o e n hb hx
  exact ⟨sl,(hs.2 b (Ld b o e)).trans q⟩
 ·obtain ⟨o',q⟩:=bb.there b o e hx
  exact ⟨o',(hs.2 b (Ld b o e)).trans q⟩
 ·refine (J.hok b ob e).stay (fun c w' hc q=>(hs.2 c ?_).trans q) (fun _ q=>q) fun _ _ q=>q
  rintro rfl
  rcases hc with rfl | hc
  ·rw [jf] at e;cases e
  ·rw [jf] at hc;cases hc
 ·obtain ⟨f0,f1,f2,f3,f4,f5⟩:=fo b hb
  exact ⟨f3,f1,f4,f5⟩
end
section
variable {X:Cx} {scope:Scope} {N:List Str} {ix:List (Option Nat)} {tg iter elt:Expr} {ifs:List Expr} {pos:Pos} {wi:TI} {g:TG} {tc:TT} {te:TE}
theorem mI {pins:List (Addr×Obj)} {σ:L2.St} {H2:Hp} {s2:Shared} {J:It} {fp:List Addr} {it:Addr} {tn:Nat->Heap->Prop} {Q:VK} {RR:Value->Addr->Result->Shared->Prop} {E:Value->Shared->Prop}
  (hc:X.calm=true) (I2:Inv X pins σ H2 s2) (T:Turn X.prog X.w X.K tg J fp it tn) (FV:tn 0 s2.heap) (f2:∀ b∈fp,tJ X pins H2 b)
  (hg:∀ C s H fp pn,PG (cD X scope N C s H fp pn) tg g) (ht:∀ C s H fp pn,Nb (cD X scope N C s H fp pn) ifs tc) (he:∀ C s H fp pn,PE (cD X scope N C s H fp pn) elt te)
  (hf:ja scope X.env=true) (hk:scope.kind=.function) (Gu:∀ y∈scope.names,y.2≠.cell) (Hl:xX X scope N ix=true)
  (q:∀ D,H2 D=none->∃ W:Nat->Nat->L2.St->Hp->Prop,(∃ m,W 0 m (mH ix σ) (upd H2 D (.lst [])))/\
   ∀ i m σ1 H3,W i m σ1 H3->(J.stop i H3/\Q (.ref D) H3)\/(J.go i H3/\∀ x H4,J.yld i H3 x H4->g x σ1 H4 fun σ2 H5=>tc σ2 H5 fun b H6=>if b=true then te σ2 H6 fun v H7=>
    ∃ ys,H7 D=some (.lst ys)/\ys.length < sizeLine/\∃ m',m' < m/\W (i + 1) m' σ2 (upd H7 D (.lst (ys++[v]))) else ∃ m',m' < m/\W (i + 1) m' σ2 H6))
  (hRR:∀ (D C:Addr) (σ1:L2.St) (H1:Hp) (s1:Shared),s2.heap.objs.size<=C->Inv (cD X scope N C s2 H2 fp (X.pn++pins)) [] σ1 H1 s1->Q (.ref D) H1->RR (.ref D) C (.ok .next) s1) :
  wpAny (model X.prog X.w) X.A (newList []) (fun acc s₃=>wpAny (model X.prog X.w) X.A (newFunctionEnv scope X.env.globals (clOf scope X.env) [] X.env.qual none .none (some X.env)) (fun NA s₄=>
   codeAny (model X.prog X.w) X.A (.compStart (.ListComp elt [⟨tg,iter,ifs,0⟩] scope pos) 0 (.ref it) acc { NA with scope:=relabel scope X.env }) (RR acc NA.locals) s₄) E s₃) E s2:=by
 refine wpAny_newObj_type (wpAny_newFunctionEnv Gu (by intro y hy;simp at hy) (fun h₁ hns₁ hsb₁=>?_) hk)
 dsimp only at hns₁ hsb₁ ⊢
 generalize hH2:s2.heap.push { cls:=.type "list",dict:=none,data:=.seq ([]:List Value).toArray }=HH at hns₁ hsb₁ ⊢
 have hC:HH.objs.size=s2.heap.objs.size + 1:=by rw [<-hH2,Heap.size_push]
 have hDC:s2.heap.objs.size≠HH.objs.size:=by rw [hC];exact Nat.ne_of_lt (Nat.lt_succ_self _)
 have NB:s2.heap.objs.size<=HH.objs.size:=by rw [hC];exact Nat.le_succ _
 have Ld:∀ b o,s2.heap.get? b=some o->b≠HH.objs.size:=fun b o e=>Nat.ne_of_lt (Nat.lt_of_lt_of_le (Heap.lt_size e) NB)
 have old:∀ b o,s2.heap.get? b=some o->h₁.get? b=some o:=fun b o e=>hsb₁.extBut b o (Ld b o e) (Heap.get?_push_of_some _ (hH2▸Heap.get?_push_of_some _ e))
 have Le:h₁.get? s2.heap.objs.size=some { cls:=.type "list",data:=.seq #[] 0 }:=hsb₁.extBut _ _ hDC (Heap.get?_push_of_some _ (hH2▸Heap.get?_push_size _ rfl))
 obtain ⟨W,⟨m0,w0⟩,turn⟩:=q s2.heap.objs.size (I2.hok.fresh (Nat.le_refl _))
 have fin:∀ b∈fp,∃ o,s2.heap.get? b=some o:=fun b hb=>let ⟨o,e,_⟩:=T.obj 0 _ FV b hb;⟨o,e⟩
 have Jw:∀ {H':Hp},(∀ b∈fp,H' b=none)->∀ b∈fp,tJ (cD X scope N HH.objs.size s2 H2 fp (X.pn++pins)) [] H' b:=fun {H'} hn b hb=>by
  obtain ⟨f0,f1,ff,f3,f4,f5⟩:=f2 b hb
  refine ⟨hn b hb,?_,fun z=>?_,.inl hb,fun x c e=>f4 x c (kW I2.ok hf e),fun p hp=>?_⟩
  ·intro z
   have z:b=HH.objs.size:=z
   obtain ⟨o,ho⟩:=fin b hb
   exact Ld b o ho z
  ·exact (List.mem_cons.mp (I2.stkSub b z)).elim f1 ff
  ·have hp:p∈X.pn++pins:=by
    have:p∈(X.pn++pins)++[]:=hp
    rwa [List.append_nil] at this
   exact f5 p hp
 have loop:∀ s₃:Shared,s₃={ s2 with heap:=h₁,toks:=s2.toks + ([]:List (Str×Value)).length }->
   codeAny (model X.prog X.w) X.A (.compLoop (.ListComp elt [⟨tg,iter,ifs,0⟩] scope pos) 0 (.ref it) (.ref s2.heap.objs.size) (compEnvC scope (clOf scope X.env) HH.objs.size X.env)) (RR (.ref s2.heap.objs.size) HH.objs.size) s₃:=by
  rintro s₃ rfl
  refine uv (fun n s'=>∃ i σ' H',Inv (cD X scope N HH.objs.size s2 H2 fp (X.pn++pins)) [] σ' H' s'/\tn i s'.heap/\(∀ b∈fp,H' b=none)/\W i n σ' H') ?_ m0
   ⟨0,_,_,I2.block hf hk Gu Hl f2 fin rfl hC old Le hns₁,T.keep 0 _ _ FV fun b _ o e=>old b o e,fun b hb=>?_,w0⟩
  ·rintro n s3 ⟨i,σ3,H3,I3,Gj,Mf,w3⟩
   rcases turn i n σ3 H3 w3 with ⟨stop,qn⟩ | ⟨go,step⟩
   ·refine F1 (T.done (cD X scope N HH.objs.size s2 H2 fp (X.pn++pins)) rfl rfl rfl hc i [] s3 σ3 H3 Lc I3 (Jw Mf) Gj stop) fun r s4 F3=>?_
    obtain ⟨hr,I4⟩:=F3
    subst hr
    exact hRR _ _ σ3 H3 s4 NB I4 qn
   ·refine F1 (T.item (cD X scope N HH.objs.size s2 H2 fp (X.pn++pins)) rfl rfl rfl hc i [] s3 σ3 H3 Lc I3 (Jw Mf) Gj go) fun r s4 F3=>?_
    obtain ⟨u,hr,h4⟩:=F3
    subst hr
    refine F1 h4 fun _ s5 F3=>?_
    obtain ⟨x,H5,I5,r5,y5,Ia,OS⟩:=F3
    have OT:=I5.pinned (Jw OS) (T.obj _ _ Ia)
    refine F1 (hg _ _ _ _ _ _ s5 σ3 H5 x u _ OT r5 (step x H5 y5)) fun _ s6 F3=>?_
    obtain ⟨σ6,H6,I6,q6⟩:=F3
    refine F1 (ht _ _ _ _ _ _ s6 σ6 H6 _ I6 q6) fun ok s7 F3=>?_
    obtain ⟨H7,I7,q7⟩:=F3
    have again:∀ {H8:Hp} {s8:Shared},Inv (cD X scope N HH.objs.size s2 H2 fp (X.pn++pins)) ([]++oE fp s5.heap) σ6 H8 s8->(∃ m',m' < n/\W (i + 1) m' σ6 H8)->
      ∃ m,m < n/\∃ i σ' H',Inv (cD X scope N HH.objs.size s2 H2 fp (X.pn++pins)) [] σ' H' s8/\tn i s8.heap/\(∀ b∈fp,H' b=none)/\W i m σ' H':=fun {H8 s8} I8 ⟨m',hm,w8⟩=>by
     refine ⟨m',hm,i + 1,σ6,H8,I8.unpinned,T.keep _ _ _ Ia fun b hb o e=>(I8.pin (b,o) (List.mem_append_right _ (List.mem_append_right _ (il hb e)))).1,fun b hb=>?_,w8⟩
     obtain ⟨o,e,d⟩:=T.obj _ _ Ia b hb
     exact (I8.pin (b,o) (List.mem_append_right _ (List.mem_append_right _ (il hb e)))).2.1
    cases ok with
    | false=>exact again I7 q7
    | true=>
     show wpAny _ _ _ _ _ _
     refine F1 (he _ _ _ _ _ _ s7 σ6 H7 _ I7 q7) fun x8 s8 F3=>?_
     obtain ⟨v8,H8,I8,r8,ys,O0,Gn,q8⟩:=F3
     refine F1 (oQ _ s8 σ6 H8 (.ref s2.heap.objs.size) [v8] (.ref s2.heap.objs.size) [x8] (fun _ H9=>∃ m',m' < n/\W (i + 1) m' σ6 H9) I8 rfl (.cons r8 .nil) ⟨_,ys,v8,rfl,rfl,O0,Gn,q8⟩) fun _ s9 F3=>?_
     obtain ⟨_,H9,I9,_,q9⟩:=F3
     exact again I9 q9
  ·rw [aU (fun z=>by
    obtain ⟨o,ho⟩:=fin b hb
    exact absurd z (Nat.ne_of_lt (Heap.lt_size ho)))]
   exact (f2 b hb).1
 exact codeAny_compStart_list (loop _ rfl) (T.self _ 0 _ _ _ (T.keep 0 _ _ FV fun b _ o e=>old b o e) (loop _ rfl))
theorem y3 (ix:List (Option Nat)) (N:List Str) (hc:X.calm=true) (hi:PI X tg iter wi) (hg:∀ C s H fp pn,PG (cD X scope N C s H fp pn) tg g) (ht:∀ C s H fp pn,Nb (cD X scope N C s H fp pn) ifs tc) (he:∀ C s H fp pn,PE (cD X scope N C s H fp pn) elt te)
  (hf:ja scope X.env=true:=by rfl) (hk:scope.kind=.function:=by rfl) (Gu:∀ y∈scope.names,y.2≠.cell:=by decide +kernel) (Hm:∀ y∈scope.names,y.2=.local->scope.names.lookup y.1=some .local:=by decide +kernel) (Hl:xX X scope N ix=true:=by rfl)
  (hs:∀ x,foldedSetIterable iter X.env x=pure x:=by intro _;rfl):PE X (.ListComp elt [⟨tg,iter,ifs,0⟩] scope pos) (yZ wi ix g tc te):=by
 intro pins s σ H Q I h
 rw [eval_ListComp]
 have Kw:closureFor scope X.env=pure (clOf scope X.env):=by
  unfold closureFor clOf
  have:=iq X.env scope.names [] (m7 I.ok hf)
  simpa using this
 refine wpAny_comprehension_free (use:=none) rfl hs Kw hk Hm (F1 (hi pins s σ H _ I h) fun v s1 h1=>F1 h1 fun Oq s2 h2=>?_)
 obtain ⟨it,fp,tn,J,H2,e,I2,T,FV,f2,q⟩:=h2
 subst e
 refine mI (RR:=fun acc C=>compPost (model X.prog X.w) X.A X.xe none (EP X pins σ Q) acc C) (Q:=Q) (iter:=iter) hc I2 T FV f2 hg ht he hf hk Gu Hl q fun D C σ1 H1 s1 hC J1 q1=>?_
 obtain ⟨m,ns,_⟩:=J1.loc
 exact ⟨m,ns,fun h' O3=>⟨.ref D,H1,I2.unblock f2 hC J1 O3,rfl,q1⟩⟩
end
section
variable {X:Cx} {scope:Scope} {N:List Str} {ix:List (Option Nat)} {tg iter elt:Expr} {ifs:List Expr} {pos:Pos} {wi:TI} {g:TG} {tc:TT} {te:TE}
theorem y4 {i:Nat} {y:Str} {py Kx:Pos} (ix:List (Option Nat)) (N:List Str) (hN:X.N.Nodup) (O4:X.N[i]?=some y) (hy:Loc X.env.scope y) (hc:X.calm=true) (hi:PI X tg iter wi) (hg:∀ C s H fp pn,PG (cD X scope N C s H fp pn) tg g) (ht:∀ C s H fp pn,Nb (cD X scope N C s H fp pn) ifs tc)
  (he:∀ C s H fp pn,PE (cD X scope N C s H fp pn) elt te) (O5:swapsWith (.ListComp elt [⟨tg,iter,ifs,0⟩] scope pos) (some (.Name y py)) Kx.line X.env=pure true:=by rfl)
  (hf:ja scope X.env=true:=by rfl) (hk:scope.kind=.function:=by rfl) (Gu:∀ y∈scope.names,y.2≠.cell:=by decide +kernel) (Hm:∀ y∈scope.names,y.2=.local->scope.names.lookup y.1=some .local:=by decide +kernel) (Hl:xX X scope N ix=true:=by rfl)
  (hs:∀ x,foldedSetIterable iter X.env x=pure x:=by intro _;rfl) (K9:X.fn y=true\/X.env.scope.names.lookup y=some .local:=by first | exact .inl rfl | exact .inr rfl) :
  PS X (.Assign [.Name y py] (.ListComp elt [⟨tg,iter,ifs,0⟩] scope pos) Kx) (fun D σ H=>yZ wi ix g tc te σ H fun v H'=>D.nx (σ.set i (some v)) H'):=by
 intro pins s σ H Dd I h
 rw [exec_Assign_Name_used _ _ _ _ O5]
 have Kw:closureFor scope X.env=pure (clOf scope X.env):=by
  unfold closureFor clOf
  have:=iq X.env scope.names [] (m7 I.ok hf)
  simpa using this
 refine wpAny_bind (wpAny_standAt (wpAny_bind ?_))
 show wpAny _ X.A (do let _ <-comprehension (.ListComp elt [⟨tg,iter,ifs,0⟩] scope pos) scope X.env _ (newList []) false (eval iter X.env) (some (assign (.Name y py) X.env))) _ _ s
 refine wpAny_bind (wpAny_mono (wpAny_comprehension_free (use:=some (assign (.Name y py) X.env)) (Q:=fun _ s'=>SP X pins Dd .next s') rfl hs Kw hk Hm
  (F1 (hi pins s σ H _ I h) fun v s1 h1=>F1 h1 fun Oq s2 h2=>?_)) (fun _ s' hq=>wpAny_pure (wpAny_pure hq)) fun _ _ e=>e)
 obtain ⟨it,fp,tn,J,H2,e,I2,T,FV,f2,q⟩:=h2
 subst e
 refine mI (RR:=fun acc C=>compPost (model X.prog X.w) X.A X.xe (some (assign (.Name y py) X.env)) (fun _ s'=>SP X pins Dd .next s') acc C) (Q:=fun v H'=>Dd.nx (σ.set i (some v)) H') (iter:=iter) hc I2 T FV f2 hg ht he hf hk Gu Hl q fun D C σ1 H1 s1 hC J1 q1=>?_
 obtain ⟨m,ns,_⟩:=id J1.loc
 have ns:s1.heap.Ns C m:=ns
 have I3:Inv X pins σ H1 s1:=I2.unblock f2 hC J1 (.refl ..)
 show wpAny _ X.A (assign (.Name y py) X.env (.ref D)) _ _ s1
 refine wpAny_assign_Name (oD I3 hN O4 hy (v:=.ref D) rfl (fun s4 I4 ⟨a,sb,ha⟩=>?_) K9)
 have aC:C≠a:=by
  intro z
  rcases ha with ha | ha
  ·exact Nat.ne_of_lt (Nat.lt_of_lt_of_le I2.lt hC) (ha▸z.symm)
  ·obtain ⟨v,o,ho,_⟩:=I2.cell y a ha
   exact Nat.ne_of_lt (Nat.lt_of_lt_of_le (Heap.lt_size ho) hC) z.symm
 refine ⟨m,ns.sameBut sb aC,fun h' O3=>?_⟩
 have jf:H1 C=none:=J1.free
 have kk:∀ b o,b≠C->s4.heap.get? b=some o->h'.get? b=some o:=fun b o hb e=>(O3.2 b hb).trans e
 refine ⟨σ.set i (some (.ref D)),H1,?_,q1⟩
 have z:=I4.turned (t':=s4.toks) kk jf (fun z=>Nat.ne_of_lt (Nat.lt_of_lt_of_le I2.lt hC) z.symm) (.inr (Nat.le_trans I2.sz hC)) (fun x c e z=>by
  obtain ⟨v,o,ho,_⟩:=I2.cell x c e
  exact Nat.ne_of_lt (Nat.lt_of_lt_of_le (Heap.lt_size ho) hC) z) (fun p hp z=>Nat.ne_of_lt (Nat.lt_of_lt_of_le (Heap.lt_size (I2.pin p hp).1) hC) z)
 exact z
end
noncomputable def Itv (val:Nat->V) (n:Nat):It:=⟨fun i _=>i < n,fun i H x H'=>H'=H/\x=val i,fun i _=>i=n⟩
theorem qQ {P:Program} {w:World} {K:W.Frag} {tg:Expr} (ty:String) (Ks:["enumerate","zip","dict_itemiterator","dict_reverseitemiterator","odict_iterator","itertools.zip_longest","itertools.pairwise"].contains ty=false) (l:List Nat) (t:Tok) (it:Addr)
  (Wk:∀ A:Around,A.handled=none->Walks P w A it [it] [it] (S l).cps.size (SignAt (S l)) (fun i h=>h.IsStrIter it ty (S l) t i))
  (self:∀ (A:Around) (i:Nat) (s:Shared) (Q:Value->Shared->Prop) (E:Value->Shared->Prop),s.heap.IsStrIter it ty (S l) t i->Q (.ref it) s->wpAny (model P w) A (pyIter (.ref it)) Q E s) :
  Turn P w K tg (Itv (fun i=>.str (S [l.getD i 0])) l.length) [it] it (fun i h=>h.IsStrIter it ty (S l) t i) where
 mem:=by simp
 obj:=fun i h st b hb=>by
  have e:b=it:=by simpa using hb
  subst e
  obtain ⟨o,e,c,d⟩:=st
  exact ⟨o,e,fun v z=>by rw [d] at z;cases z⟩
 keep:=fun i h h' st k=>by
  obtain ⟨o,e,r⟩:=st
  exact ⟨o,k it (by simp) o e,r⟩
 item:=by
  intro X hP hw hK hc i pins s σ H E I hf st hg
  subst hP hw hK
  obtain ⟨f0,f1,f2,f3,f4,f5⟩:=hf it (by simp)
  have hg:i < l.length:=hg
  refine (Wk X.A (I.ok.hd hc)).item i s _ _ (by simpa [S] using hg) st fun v h' tk hv HG kk=>?_
  obtain ⟨c,u,H0,rfl⟩:=hv
  have I1:Inv X pins σ H { s with heap:=h',toks:=tk }:=I.turned (fun b o hb e=>kk b o (by simpa using hb) e) f0 f1 f3 f4 f5
  obtain ⟨o,e,cc,d⟩:=id HG
  have Kh:l.getD i 0=c:=by
   have:l[i]?=some c:=by simpa [S] using H0
   rw [List.getD_eq_getElem?_getD,this]
   rfl
  refine ⟨_,rfl,wH (s:={ s with heap:=h',toks:=tk }) e cc d Ks ⟨.str (S [l.getD i 0]),H,I1,⟨u,?_⟩,⟨rfl,rfl⟩,HG,fun b hb=>(hf b hb).1⟩⟩
  rw [Kh]
 done:=by
  intro X hP hw hK hc i pins s σ H E I hf st hg
  subst hP hw hK
  obtain ⟨f0,f1,f2,f3,f4,f5⟩:=hf it (by simp)
  have hg:i=l.length:=hg
  have hn:(S l).cps.size=i:=by rw [hg];simp [S]
  refine (Wk X.A (I.ok.hd hc)).done s _ _ (by rw [hn];exact st) fun h' tk kk=>⟨rfl,I.turned (fun b o hb e=>kk b o (by simpa using hb) e) f0 f1 f3 f4 f5⟩
 self:=self
noncomputable def Fe (tl:TE):TI:=fun σ H R=>tl σ H fun x H1=>∃ l,x=.str (S l)/\R (Itv (fun i=>.str (S [l.getD i 0])) l.length) H1
section
variable {X:Cx} {tg:Expr}
theorem BF {l:Expr} {tl:TE} (hl:PE X l tl):PI X tg l (Fe tl):=by
 intro pins s σ H R I h
 refine F1 (hl pins s σ H _ I h) fun v s1 F3=>?_
 obtain ⟨x,H1,I1,r1,l,e,q⟩:=F3
 subst e
 obtain ⟨t,rfl⟩:=r1
 cases ha:(S l).cps.all (·< 128)
 ·refine wpAny_pyIter_wide ha ?_
  refine ⟨s1.heap.objs.size,[s1.heap.objs.size],_,_,H1,rfl,I1.kept (t':=s1.toks) fun b o e=>Heap.get?_push_of_some _ e,
   qQ "str_iterator" (by decide) l t _ (fun A hA=>Walks.strWide hA _ _ _) (fun _ _ _ _ _ st h=>wpAny_pyIter_striter_wide st h),⟨_,Heap.get?_push_size _ rfl,rfl,rfl⟩,fun b hb=>?_,q⟩
  have e:b=s1.heap.objs.size:=by simpa using hb
  subst e
  exact I1.fpOk (Nat.le_refl _) (I1.hok.fresh (Nat.le_refl _))
 ·refine wpAny_pyIter_ascii ha ?_
  refine ⟨s1.heap.objs.size,[s1.heap.objs.size],_,_,H1,rfl,I1.kept (t':=s1.toks) fun b o e=>Heap.get?_push_of_some _ e,
   qQ "str_ascii_iterator" (by decide) l t _ (fun A hA=>Walks.strAscii hA _ _ _) (fun _ _ _ _ _ st h=>wpAny_pyIter_striter_ascii st h),⟨_,Heap.get?_push_size _ rfl,rfl,rfl⟩,fun b hb=>?_,q⟩
  have e:b=s1.heap.objs.size:=by simpa using hb
  subst e
  exact I1.fpOk (Nat.le_refl _) (I1.hok.fresh (Nat.le_refl _))
theorem gc {pins:List (Addr×Obj)} {s:Shared} {σ:L2.St} {H:Hp} {p:Addr} {xs:List V} {E:Value->Shared->Prop} {R:Value->Shared->Prop} (hc:X.calm=true) (I:Inv X pins σ H s) (h:SqL X.K H p xs\/SqT X.K H p xs)
  (k:∀ (it:Addr) (fp:List Addr) (o:Obj) (us:List Value) (Sx:Nat->Heap->Prop),Vals xs us->Walks X.prog X.w X.A.in1 it fp [it] us.length (fun i v=>us[i]?=some v) Sx->Sx 0 (s.heap.push o)->(∀ b∈fp,b < (s.heap.push o).objs.size)->it=s.heap.objs.size->R (.ref it) { s with heap:=s.heap.push o }) :
  wpAny (model X.prog X.w) X.A.in1 (pyIter (.ref p)) R E s:=by
 have hh:X.A.in1.handled=none:=I.ok.hd hc
 rcases h with h | h
 ·obtain ⟨us,r,pl,hz⟩:=I.list h
  have Gn:p < s.heap.objs.size:=by obtain ⟨o,ho,_⟩:=pl.isList;exact Heap.lt_size ho
  refine wpAny_pyIter_list pl.isList (k s.heap.objs.size [s.heap.objs.size,p] _ us (fun i h=>h.IsListIter s.heap.objs.size p i/\h.IsList p us.toArray) r (by
   have W:=Walks.list (prog:=X.prog) (w:=X.w) hh s.heap.objs.size p (Nat.ne_of_lt Gn) us.toArray
   simpa using W) ⟨⟨_,Heap.get?_push_size _ rfl,rfl,rfl⟩,pl.isList.at fun o e=>Heap.get?_push_of_some _ e⟩ (fun b hb=>?_) rfl)
  rw [Heap.size_push]
  rcases List.mem_cons.mp hb with rfl | hb
  ·exact Nat.lt_succ_self _
  ·rw [List.mem_singleton] at hb
   rw [hb]
   exact Nat.lt_succ_of_lt Gn
 ·obtain ⟨us,r,pl,hz⟩:=I.tuple h
  have Ml:s.heap.IsTuple p us.toArray:=pl
  have Gn:p < s.heap.objs.size:=by obtain ⟨o,ho,_⟩:=pl;exact Heap.lt_size ho
  refine wpAny_pyIter_tuple Ml (k s.heap.objs.size [s.heap.objs.size,p] _ us (fun i h=>h.IsTupleIter s.heap.objs.size p i/\h.IsTuple p us.toArray) r (by
   have W:=Walks.tuple (prog:=X.prog) (w:=X.w) hh s.heap.objs.size p (Nat.ne_of_lt Gn) us.toArray
   simpa using W) ⟨⟨_,Heap.get?_push_size _ rfl,rfl,rfl⟩,Ml.at fun o e=>Heap.get?_push_of_some _ e⟩ (fun b hb=>?_) rfl)
  rw [Heap.size_push]
  rcases List.mem_cons.mp hb with rfl | hb
  ·exact Nat.lt_succ_self _
  ·rw [List.mem_singleton] at hb
   rw [hb]
   exact Nat.lt_succ_of_lt Gn
theorem dQ {pins:List (Addr×Obj)} {s:Shared} {σ:L2.St} {H:Hp} {o:Obj} {h':Heap} {tk:Nat} (I:Inv X pins σ H s) (kk:∀ b ob,b∉[s.heap.objs.size]->(s.heap.push o).get? b=some ob->h'.get? b=some ob) :
  Inv X pins σ H { s with heap:=h',toks:=tk }:=I.kept fun b ob e=>kk b ob (fun z=>Nat.ne_of_lt (Heap.lt_size e) (by simpa using z)) (Heap.get?_push_of_some _ e)
theorem bB {α:Type} (l:List α) (i:Nat) (d:α) (h:i < l.length):l.getD i d=l[i]:=by
 rw [List.getD_eq_getElem?_getD,List.getElem?_eq_getElem h]
 rfl
noncomputable def xY:V->Bool
 | .bl b=>b
 | _=>false
noncomputable def Dj:V->Bool
 | .bl _=>true
 | _=>false
theorem qR {xs:List V} {us:List Value} (r:Vals xs us) (hb:xs.all Dj=true):TruthOf X.prog X.w X.A.in1 (fun i v=>us[i]?=some v) (fun i=>xY (xs.getD i .non)):=by
 intro i v s Q E hv q
 have hl:=r.length
 obtain ⟨hi,_⟩:=List.getElem?_eq_some_iff.mp hv
 have e1:xs[i]?=some (xs[i]'(by lia)):=List.getElem?_eq_getElem _
 obtain ⟨u,hu,ru⟩:=r.get e1
 rw [hv] at hu
 cases hu
 have q:Q (xY (xs.getD i .non)) s:=q
 rw [getD_of e1] at q
 have bl:=List.all_eq_true.mp hb _ (List.mem_of_getElem? e1)
 generalize xs[i]'(by lia)=x at ru q bl
 cases x <;> first | (exact absurd (show false=true from bl) Bool.false_ne_true) | skip
 cases ru
 exact wpAny_truthy_bool q
theorem ux {xs:List V} (f:V->Bool):(List.range xs.length).all (fun i=>f (xs.getD i .non))=xs.all f:=by
 rw [Bool.eq_iff_iff,List.all_eq_true,List.all_eq_true]
 constructor
 ·intro h x hx
  obtain ⟨i,hi,rfl⟩:=List.getElem_of_mem hx
  have:=h i (List.mem_range.mpr hi)
  rwa [bB _ _ _ hi] at this
 ·intro h i hi
  have hi:=List.mem_range.mp hi
  rw [bB _ _ _ hi]
  exact h _ (List.getElem_mem hi)
theorem uy {xs:List V} (f:V->Bool):(List.range xs.length).any (fun i=>f (xs.getD i .non))=xs.any f:=by
 rw [Bool.eq_iff_iff,List.any_eq_true,List.any_eq_true]
 constructor
 ·rintro ⟨i,hi,h⟩
  have hi:=List.mem_range.mp hi
  rw [bB _ _ _ hi] at h
  exact ⟨_,List.getElem_mem hi,h⟩
 ·rintro ⟨x,hx,h⟩
  obtain ⟨i,hi,rfl⟩:=List.getElem_of_mem hx
  refine ⟨i,List.mem_range.mpr hi,?_⟩
  rw [bB _ _ _ hi]
  exact h
theorem wR (hc:X.calm=true):dP X (.builtin "all") (fun vs H Q=>∃ p xs,vs=[.ref p]/\(SqL X.K H p xs\/SqT X.K H p xs)/\xs.all Dj=true/\Q (.bl (xs.all xY)) H):=by
 intro pins s σ H vs us Q I r h
 obtain ⟨p,xs,rfl,hp,hb,q⟩:=h
 obtain ⟨u,rfl,r1⟩:=e8 r
 cases r1
 refine call_all_walk (gc hc I hp fun it fp o ws Sx rv W st hf hit=>⟨it,fp,[it],_,_,Sx,_,rfl,W,st,qR rv hb,fun h' tk kk=>?_⟩)
 subst hit
 refine ⟨.bl (xs.all xY),H,dQ (s:=s) I kk,?_,q⟩
 rw [<-rv.length,ux]
 rfl
theorem wU (hc:X.calm=true):dP X (.builtin "any") (fun vs H Q=>∃ p xs,vs=[.ref p]/\(SqL X.K H p xs\/SqT X.K H p xs)/\xs.all Dj=true/\Q (.bl (xs.any xY)) H):=by
 intro pins s σ H vs us Q I r h
 obtain ⟨p,xs,rfl,hp,hb,q⟩:=h
 obtain ⟨u,rfl,r1⟩:=e8 r
 cases r1
 refine call_any_walk (gc hc I hp fun it fp o ws Sx rv W st hf hit=>⟨it,fp,[it],_,_,Sx,_,rfl,W,st,qR rv hb,fun h' tk kk=>?_⟩)
 subst hit
 refine ⟨.bl (xs.any xY),H,dQ (s:=s) I kk,?_,q⟩
 rw [<-rv.length,uy]
 rfl
theorem eF {ns:List Int} {us:List Value} (r:Vals (ns.map V.int) us) {i:Nat} {v:Value} (h:us[i]?=some v):∃ t,v=.int (ns.getD i 0) t:=by
 have hl:=r.length
 rw [List.length_map] at hl
 obtain ⟨hi,_⟩:=List.getElem?_eq_some_iff.mp h
 have e1:(ns.map V.int)[i]?=some (.int (ns.getD i 0)):=by
  rw [List.getElem?_map,List.getElem?_eq_getElem (by lia),bB _ _ _ (by lia)]
  rfl
 obtain ⟨u,hu,t,rfl⟩:=r.get e1
 rw [h] at hu
 exact ⟨t,Option.some.inj hu⟩
theorem qS {ns:List Int} {us:List Value} (r:Vals (ns.map V.int) us) (A:Around):CmpOf X.prog X.w A .Gt (fun i v=>us[i]?=some v) (fun i j=>decide (ns.getD j 0 < ns.getD i 0)):=by
 intro i j vi vj s Q E hi hj q
 obtain ⟨t,rfl⟩:=eF r hi
 obtain ⟨t',rfl⟩:=eF r hj
 exact gt_int q
theorem oX {ns:List Int} {us:List Value} (r:Vals (ns.map V.int) us) (A:Around):CmpOf X.prog X.w A .Lt (fun i v=>us[i]?=some v) (fun i j=>decide (ns.getD i 0 < ns.getD j 0)):=by
 intro i j vi vj s Q E hi hj q
 obtain ⟨t,rfl⟩:=eF r hi
 obtain ⟨t',rfl⟩:=eF r hj
 exact lt_int q
noncomputable def cU (ns:List Int):Int:=ns.foldl max (ns.headD 0)
noncomputable def dR (ns:List Int):Int:=ns.foldl min (ns.headD 0)
theorem nh (ns:List Int):∀ k,k < ns.length->argBest (fun i j=>decide (ns.getD j 0 < ns.getD i 0)) k < ns.length/\ns.getD (argBest (fun i j=>decide (ns.getD j 0 < ns.getD i 0)) k) 0=(ns.take (k + 1)).foldl max (ns.headD 0)
 | 0,h=>by
  refine ⟨h,?_⟩
  cases ns with
  | nil=>cases h
  | cons a l=>show a=max a a;lia
 | k + 1,h=>by
  obtain ⟨O6,O7⟩:=nh ns k (by lia)
  have et:ns.take (k + 1 + 1)=ns.take (k + 1)++[ns.getD (k + 1) 0]:=by
   rw [List.take_add_one,List.getElem?_eq_getElem h,bB _ _ _ h]
   rfl
  rw [et,List.foldl_append,<-O7]
  show (if decide (ns.getD (argBest (fun i j=>decide (ns.getD j 0 < ns.getD i 0)) k) 0 < ns.getD (k + 1) 0)=true then k + 1 else argBest (fun i j=>decide (ns.getD j 0 < ns.getD i 0)) k) < ns.length/\
   ns.getD (if decide (ns.getD (argBest (fun i j=>decide (ns.getD j 0 < ns.getD i 0)) k) 0 < ns.getD (k + 1) 0)=true then k + 1 else argBest (fun i j=>decide (ns.getD j 0 < ns.getD i 0)) k) 0=max _ _
  split
  ·rename_i hd
   have:=of_decide_eq_true hd
   exact ⟨h,by lia⟩
  ·rename_i hd
   rw [decide_eq_true_eq] at hd
   exact ⟨O6,by lia⟩
theorem ni (ns:List Int):∀ k,k < ns.length->argBest (fun i j=>decide (ns.getD i 0 < ns.getD j 0)) k < ns.length/\ns.getD (argBest (fun i j=>decide (ns.getD i 0 < ns.getD j 0)) k) 0=(ns.take (k + 1)).foldl min (ns.headD 0)
 | 0,h=>by
  refine ⟨h,?_⟩
  cases ns with
  | nil=>cases h
  | cons a l=>show a=min a a;lia
 | k + 1,h=>by
  obtain ⟨O6,O7⟩:=ni ns k (by lia)
  have et:ns.take (k + 1 + 1)=ns.take (k + 1)++[ns.getD (k + 1) 0]:=by
   rw [List.take_add_one,List.getElem?_eq_getElem h,bB _ _ _ h]
   rfl
  rw [et,List.foldl_append,<-O7]
  show (if decide (ns.getD (k + 1) 0 < ns.getD (argBest (fun i j=>decide (ns.getD i 0 < ns.getD j 0)) k) 0)=true then k + 1 else argBest (fun i j=>decide (ns.getD i 0 < ns.getD j 0)) k) < ns.length/\
   ns.getD (if decide (ns.getD (k + 1) 0 < ns.getD (argBest (fun i j=>decide (ns.getD i 0 < ns.getD j 0)) k) 0)=true then k + 1 else argBest (fun i j=>decide (ns.getD i 0 < ns.getD j 0)) k) 0=min _ _
  split
  ·rename_i hd
   have:=of_decide_eq_true hd
   exact ⟨h,by lia⟩
  ·rename_i hd
   rw [decide_eq_true_eq] at hd
   exact ⟨O6,by lia⟩
theorem uz (hc:X.calm=true):dP X (.builtin "max") (fun vs H Q=>∃ (p:Addr) (ns:List Int),vs=[.ref p]/\(SqL X.K H p (ns.map V.int)\/SqT X.K H p (ns.map V.int))/\ns≠[]/\Q (.int (cU ns)) H):=by
 intro pins s σ H vs us Q I r h
 obtain ⟨p,ns,rfl,hp,hne,q⟩:=h
 obtain ⟨u,rfl,r1⟩:=e8 r
 cases r1
 have hn:0 < ns.length:=by cases ns with | nil=>exact absurd rfl hne | cons _ _=>simp
 refine call_max_walk (gc hc I hp fun it fp o ws Sx rv W st hf hit=>?_)
 have hl:=rv.length
 rw [List.length_map] at hl
 refine ⟨it,fp,[it],_,_,Sx,_,rfl,W,st,hf,by lia,qS rv _,fun v h' tk hv kk=>?_⟩
 subst hit
 obtain ⟨b1,b2⟩:=nh ns (ns.length - 1) (by lia)
 rw [<-hl] at hv
 obtain ⟨t,rfl⟩:=eF rv hv
 refine ⟨.int (cU ns),H,dQ (s:=s) I kk,⟨t,?_⟩,q⟩
 rw [b2,show ns.length - 1 + 1=ns.length by lia,List.take_length]
 rfl
theorem uA (hc:X.calm=true):dP X (.builtin "min") (fun vs H Q=>∃ (p:Addr) (ns:List Int),vs=[.ref p]/\(SqL X.K H p (ns.map V.int)\/SqT X.K H p (ns.map V.int))/\ns≠[]/\Q (.int (dR ns)) H):=by
 intro pins s σ H vs us Q I r h
 obtain ⟨p,ns,rfl,hp,hne,q⟩:=h
 obtain ⟨u,rfl,r1⟩:=e8 r
 cases r1
 have hn:0 < ns.length:=by cases ns with | nil=>exact absurd rfl hne | cons _ _=>simp
 refine call_min_walk (gc hc I hp fun it fp o ws Sx rv W st hf hit=>?_)
 have hl:=rv.length
 rw [List.length_map] at hl
 refine ⟨it,fp,[it],_,_,Sx,_,rfl,W,st,hf,by lia,oX rv _,fun v h' tk hv kk=>?_⟩
 subst hit
 obtain ⟨b1,b2⟩:=ni ns (ns.length - 1) (by lia)
 rw [<-hl] at hv
 obtain ⟨t,rfl⟩:=eF rv hv
 refine ⟨.int (dR ns),H,dQ (s:=s) I kk,⟨t,?_⟩,q⟩
 rw [b2,show ns.length - 1 + 1=ns.length by lia,List.take_length]
 rfl
theorem oY (ns:List Int):∀ k,k<=ns.length->preSum (fun i=>ns.getD i 0) k=(ns.take k).sum
 | 0,_=>by simp [preSum]
 | k + 1,h=>by
  have et:ns.take (k + 1)=ns.take k++[ns.getD k 0]:=by
   rw [List.take_add_one,List.getElem?_eq_getElem (by lia),bB _ _ _ (by lia)]
   rfl
  rw [et,List.sum_append,<-oY ns k (by lia)]
  simp [preSum]
theorem uB (hc:X.calm=true):dP X (.builtin "sum") (fun vs H Q=>∃ (p:Addr) (ns:List Int),vs=[.ref p]/\(SqL X.K H p (ns.map V.int)\/SqT X.K H p (ns.map V.int))/\Q (.int ns.sum) H):=by
 intro pins s σ H vs us Q I r h
 obtain ⟨p,ns,rfl,hp,q⟩:=h
 obtain ⟨u,rfl,r1⟩:=e8 r
 cases r1
 refine call_sum_walkG (gc hc I hp fun it fp o ws Sx rv W st hf hit=>?_)
 have hl:=rv.length
 rw [List.length_map] at hl
 refine ⟨it,fp,[it],_,_,Sx,fun i=>ns.getD i 0,rfl,W,st,hf,fun i v hv=>eF rv hv,fun h' tk t' kk=>?_⟩
 subst hit
 refine ⟨.int ns.sum,H,dQ (s:=s) I kk,⟨t',?_⟩,q⟩
 rw [<-hl,oY ns _ (Nat.le_refl _),List.take_length]
end
section
variable {prog:Program} {w:World} {A:Around} {R:Result->Shared->Prop} {it:Addr} {fp wr:List Addr} {n:Nat} {Pv:Nat->Value->Prop} {Sx:Nat->Heap->Prop} {kw:List (Str×Value)}
theorem nj:(toString "max"++toString ".loop" : String) = "max.loop":=by decide
theorem DQ (Wk:Walks prog w A.in1 it fp wr n Pv Sx) (bt:Nat->Nat->Bool) (cm:CmpOf prog w A.in1 .Gt Pv bt) (T:Addr) (nT:T∉fp):∀ (k j:Nat) (s:Shared) (vb:Value) (c:Nat),n - (j + 1)=k->j + 1<=n->Sx (j + 1) s.heap->Pv (argBest bt j) vb->
   s.heap.get? T=some { cls:=.type "list",dict:=none,data:=.seq #[vb,vb] c,slots:=#[] }->
   (∀ v h' tk,Pv (argBest bt (n - 1)) v->(∀ b o,b∉wr->b≠T->s.heap.get? b=some o->h'.get? b=some o)->R (.ok (.ret v)) { s with heap:=h',toks:=tk })->codeAny (model prog w) A (.builtin "max.loop" ⟨[.ref it,.none,.ref T],kw⟩) R s:=by
 have Lf:T∉wr:=fun z=>nT (Wk.sub _ z)
 intro k
 induction k with
 | zero=>
  intro j s vb c hk hj st hp hT fin
  have ej:j + 1=n:=by lia
  refine codeAny_builtin F.entry_max_loop ?_
  rw [Around.under_plainId F.plain_max_loop _]
  show wpAny _ A.in1 (seqItems? (.ref T) >>= _) _ _ s
  refine wpAny_bind (wpAny_seqItems hT rfl ?_)
  show wpAny _ A.in1 (tryCatch (pyNext (.ref it)) _ >>= _) _ _ s
  refine wpAny_bind (wpAny_tryCatch (Wk.done s _ _ (ej▸st) fun h' tk kk=>?_))
  have IX:=kk T _ Lf hT
  show wpAny _ A.in1 (updateSeq T (fun _=>#[]) >>= _) _ _ _
  refine wpAny_bind (wpAny_updateSeq IX rfl (wpAny_bind (wpAny_letGo (wpAny_pure ?_))))
  exact fin vb _ tk (by rw [<-ej];exact hp) fun b o bw bT e=>(Heap.get?_update_other _ _ (Ne.symm bT)).trans (kk b o bw e)
 | succ k ih=>
  intro j s vb c hk hj st hp hT fin
  have jn:j + 1 < n:=by lia
  refine codeAny_builtin F.entry_max_loop ?_
  rw [Around.under_plainId F.plain_max_loop _]
  show wpAny _ A.in1 (seqItems? (.ref T) >>= _) _ _ s
  refine wpAny_bind (wpAny_seqItems hT rfl ?_)
  show wpAny _ A.in1 (tryCatch (pyNext (.ref it)) _ >>= _) _ _ s
  refine wpAny_bind (wpAny_tryCatch (Wk.item (j + 1) s _ _ jn st fun v h' tk pv HG kk=>?_))
  have IX:=kk T _ Lf hT
  show wpAny _ A.in1 (tryCatch (holding [v,v] (richCompare .Gt v vb >>= _)) _ >>= _) _ _ _
  refine wpAny_bind (wpAny_tryCatch (wpAny_holding (wpAny_bind (cm (j + 1) (argBest bt j) v vb _ _ _ pv hp (wpAny_bind (wpAny_holding (wpAny_truthy_bool (wpAny_bind (wpAny_letGo (wpAny_pure ?_))))))))))
  cases eb:bt (j + 1) (argBest bt j) with
  | true=>
   rw [if_pos rfl]
   refine wpAny_bind (wpAny_updateSeq IX rfl (wpAny_bind (wpAny_letGo ?_)))
   rw [nj]
   refine wpAny_pure ⟨plainId_quiet F.plain_max_loop _,ih (j + 1) _ v _ (by lia) jn (Wk.frame _ _ _ HG fun b bf o e=>?_) (by simp only [argBest,eb,if_true];exact pv) (Heap.get?_update_self _ IX rfl) fun v2 h2 t2 p2 k2=>?_⟩
   ·exact (Heap.get?_update_other _ _ (fun z:T=b=>nT (by rw [z];exact bf))).trans e
   ·exact fin v2 h2 t2 p2 fun b o bw bT e=>k2 b o bw bT ((Heap.get?_update_other _ _ (Ne.symm bT)).trans (kk b o bw e))
  | false=>
   rw [if_neg Bool.false_ne_true]
   refine wpAny_bind (wpAny_letGo ?_)
   rw [nj]
   refine wpAny_pure ⟨plainId_quiet F.plain_max_loop _,ih (j + 1) _ vb c (by lia) jn HG (by simp only [argBest,eb,Bool.false_eq_true,if_false];exact hp) IX fun v2 h2 t2 p2 k2=>?_⟩
   exact fin v2 h2 t2 p2 fun b o bw bT e=>k2 b o bw bT (kk b o bw e)
theorem wV (Wk:Walks prog w A.in1 it fp wr n Pv Sx) (bt:Nat->Nat->Bool) (cm:CmpOf prog w A.in1 .Gt Pv bt) (T:Addr) (nT:T∉fp) {s:Shared} {c:Nat} {d:Value} (O8:kw=[(Str.ofString "default",d)]) (st:Sx 0 s.heap)
  (hT:s.heap.get? T=some { cls:=.type "list",dict:=none,data:=.seq #[] c,slots:=#[] }) (fin:∀ v h' tk,(if n=0 then v=d else Pv (argBest bt (n - 1)) v)->(∀ b o,b∉wr->b≠T->s.heap.get? b=some o->h'.get? b=some o)->R (.ok (.ret v)) { s with heap:=h',toks:=tk }) :
  codeAny (model prog w) A (.builtin "max.loop" ⟨[.ref it,.none,.ref T],kw⟩) R s:=by
 have Lf:T∉wr:=fun z=>nT (Wk.sub _ z)
 refine codeAny_builtin F.entry_max_loop ?_
 rw [Around.under_plainId F.plain_max_loop _]
 show wpAny _ A.in1 (seqItems? (.ref T) >>= _) _ _ s
 refine wpAny_bind (wpAny_seqItems hT rfl ?_)
 show wpAny _ A.in1 (tryCatch (pyNext (.ref it)) _ >>= _) _ _ s
 by_cases hn:n=0
 ·refine wpAny_bind (wpAny_tryCatch (Wk.done s _ _ (by rw [hn];exact st) fun h' tk kk=>?_))
  subst O8
  refine wpAny_bind (wpAny_rule (wpAny_pure ?_))
  exact fin d _ tk (by rw [if_pos hn]) fun b o bw bT e=>kk b o bw e
 ·refine wpAny_bind (wpAny_tryCatch (Wk.item 0 s _ _ (by lia) st fun v h' tk pv HG kk=>?_))
  have IX:=kk T _ Lf hT
  show wpAny _ A.in1 (updateSeq T (fun _=>#[v,v]) >>= _) _ _ _
  refine wpAny_bind (wpAny_updateSeq IX rfl ?_)
  rw [nj]
  refine wpAny_pure ⟨plainId_quiet F.plain_max_loop _,DQ Wk bt cm T nT _ 0 _ v _ rfl (by lia) (Wk.frame _ _ _ HG fun b bf o e=>?_) pv (Heap.get?_update_self _ IX rfl) fun v2 h2 t2 p2 k2=>?_⟩
  ·exact (Heap.get?_update_other _ _ (fun z:T=b=>nT (by rw [z];exact bf))).trans e
  ·exact fin v2 h2 t2 (by rw [if_neg hn];exact p2) fun b o bw bT e=>k2 b o bw bT ((Heap.get?_update_other _ _ (Ne.symm bT)).trans (kk b o bw e))
end
theorem tree_kw {prog:Program} {w:World} {A:Around} {E:Value->Shared->Prop} {s:Shared} {id:String} {bf:Builtin} {args:List Value} {kw:List (Str×Value)} {Q:Value->Shared->Prop} (hk:builtinKind id=none) (hp:plainId id=true)
  (hb:entryFor table id=some bf) (ha:argsOk id ⟨args,kw⟩)
  (hc:wpAny (model prog w) A.in1 (bf ⟨args,kw⟩) (fun fin s'=>match fin with
   | .done f=>(match (Except.ok f:Result) with | .ok (.ret v)=>Q v s' | .ok _=>False | .error e=>E e s')
   | .again c'=>c'.quiet=true/\codeAny (model prog w) A c' (fun r s'=>match r with | .ok (.ret v)=>Q v s' | .ok _=>False | .error e=>E e s') s') E s):wpAny (model prog w) A (call (.builtin id) args kw) Q E s:=by
 refine wpAny_call (codeAny_call_builtin hp hb ?_)
 simp only [checkBuiltinCall,hk]
 cases hsig:Manifest.signature? id with
 | none=>exact wpAny_pure hc
 | some sig=>
  have NC:Bind.checkArgs id sig ⟨args,kw⟩=pure ():=by simpa only [argsOk,hsig] using ha
  simp only [NC]
  exact wpAny_pure hc
theorem uC (a d:Value):argsOk "max" ⟨[a],[(Str.ofString "default",d)]⟩:=by unfold argsOk;kernel_rfl
section
variable {X:Cx} {e k:Expr} {te tk:TE} {p pos IK:Pos}
noncomputable def maxD (ns:List Int) (d:Int):Int:=if ns=[] then d else cU ns
noncomputable def DR (K:W.Frag) (te tk:TE):TE:=fun σ H Q=>sJ te AS σ H fun vs H1=>sJ tk AS σ H1 fun ks H2=>∃ (a:Addr) (ns:List Int) (d:Int),vs=[.ref a]/\ks=[.int d]/\(SqL K H2 a (ns.map V.int)\/SqT K H2 a (ns.map V.int))/\Q (.int (maxD ns d)) H2
theorem y6 (hc:X.calm=true) (hg:Gl X "max") (hm:X.mg "max" = none) (he:PE X e te) (hk:PE X k tk) (hs:starEach [e] X.env=[(false,eval e X.env)]:=by rfl) :
  PE X (.Call (.Name "max" p) [e] [⟨some "default",k,IK⟩] pos) (DR X.K te tk):=by
 intro pins s σ H Q I h
 refine wpAny_Call_Name_kw (kQ I hg hm (by decide +kernel:bootBuiltins "max" = some (.builtin "max")) ?_ (by decide) (by decide))
 refine callWith_kw (F1 (iO he oH (hs:=hs) pos pins s σ H _ I h) fun us s1 ⟨vs,H1,I1,r1,q1⟩=>?_) (by rw [hs];rfl) (by rw [hs];rfl)
 refine F1 (ue hk xQ pos pins s1 σ H1 _ I1 q1) fun ws s2 F3=>?_
 obtain ⟨ks,H2,I2,r2,a,ns,d,e1,e2,hp,q⟩:=F3
 subst e1 e2
 obtain ⟨u,rfl,ru⟩:=e8 r1
 obtain ⟨w',rfl,t,rfl⟩:=e8 r2
 cases ru
 show wpAny _ _ (call (.builtin "max") [.ref a] [(Str.ofString "default",.int d t)]) _ _ s2
 refine tree_kw F.kind_max F.plain_max F.entry_max (uC _ _) ?_
 show wpAny _ X.A.in1 (Builtin.Builtins.bindParams "max" ["key","default"] 0 ⟨[],[(Str.ofString "default",.int d t)]⟩ >>= _) _ _ s2
 refine wpAny_bind (wpAny_of_eq (show Builtin.Builtins.bindParams "max" ["key","default"] 0 ⟨[],[(Str.ofString "default",.int d t)]⟩=pure [none,some (.int d t)] from rfl) ?_)
 refine wpAny_bind (wpAny_pure ?_)
 refine wpAny_bind (gc hc I2 hp fun it fp o ws Sx rv Wk st hf hit=>?_)
 have hl:=rv.length
 rw [List.length_map] at hl
 refine wpAny_bind (wpAny_newObj_type ?_)
 have nT:(s2.heap.push o).objs.size∉fp:=fun z=>Nat.lt_irrefl _ (hf _ z)
 rw [nj]
 refine wpAny_pure ⟨plainId_quiet F.plain_max_loop _,wV Wk _ (qS rv _) (s2.heap.push o).objs.size nT rfl (Wk.frame _ _ _ st fun b _ ob e=>Heap.get?_push_of_some _ e) (Heap.get?_push_size _ rfl) fun v h' O9 hv kk=>?_⟩
 subst hit
 have I3:Inv X pins σ H2 { s2 with heap:=h',toks:=O9 }:=dQ (s:=s2) (o:=o) I2 fun b ob nb e=>kk b ob nb (Nat.ne_of_lt (Heap.lt_size e)) (Heap.get?_push_of_some _ e)
 refine ⟨.int (maxD ns d),H2,I3,?_,q⟩
 unfold maxD
 by_cases hn:ns=[]
 ·rw [if_pos (by rw [<-hl,hn];rfl)] at hv
  rw [if_pos hn,hv]
  exact ⟨t,rfl⟩
 ·have h0:0 < ns.length:=List.length_pos_iff.mpr hn
  rw [if_neg (by lia)] at hv
  rw [if_neg hn]
  obtain ⟨b1,b2⟩:=nh ns (ns.length - 1) (by lia)
  rw [<-hl] at hv
  obtain ⟨t2,rfl⟩:=eF rv hv
  refine ⟨t2,?_⟩
  rw [b2,show ns.length - 1 + 1=ns.length by lia,List.take_length]
  rfl
end
section
variable {prog:Program} {w:World} {A:Around} {E:Value->Shared->Prop} {s:Shared}
theorem wW {it t:Addr} {i:Nat} {items:Array Value} {x:Value} {Q:Value->Shared->Prop} (hi:s.heap.IsTupleIter it t i) (ht:s.heap.IsTuple t items) (hx:items[i]?=some x)
  (k:∀ h',h'.IsTupleIter it t (i + 1)->Heap.SameBut it s.heap h'->Q x { s with heap:=h' }):wpAny (model prog w) A (Builtin.SmallTypes.nextOf (.ref it)) Q E s:=by
 obtain ⟨o,ho,oc,od⟩:=id hi
 obtain ⟨q,hq,_,n,qd⟩:=ht
 unfold Builtin.SmallTypes.nextOf
 refine wpAny_bind (wpAny_callSpecial?_slot (name:=Str.ofString "__next__") hi.typeIs F.slot_tuple_iterator_next (wpAny_call_entry F.slot_tuple_iterator_next hi.typeIs F.entry_tuple_iterator_next ?_ (F.args_tuple_iterator_next_1 _)))
 show wpAny _ _ (field (.ref it) 0 >>= _) _ _ s
 refine wpAny_bind (wpAny_field ho od (x:=.ref t) rfl ?_)
 show wpAny _ _ (if (Value.ref t == Value.none)=true then _ else _) _ _ s
 rw [if_neg (fun z:(Value.ref t == Value.none)=true=>Bool.false_ne_true z)]
 show wpAny _ _ (field (.ref it) 1 >>= _) _ _ s
 refine wpAny_bind (wpAny_field ho od (x:=.int i 0) rfl (wpAny_bind (wpAny_seqItems hq qd ?_)))
 simp only [Int.toNat_natCast,hx]
 refine wpAny_bind (wpAny_setField ho od (by simp) (wpAny_pure ⟨x,rfl,wpAny_pure (k _ ⟨_,Heap.get?_update_self _ ho (Obj.isFreed_of_fields (Obj.data_mapFields od _)),(Obj.cls_mapFields ..).trans oc,?_⟩ (Heap.SameBut.update ..))⟩))
 rw [Obj.data_mapFields od]
 simp [rawInt]
theorem y7 {it t:Addr} {i:Nat} {items:Array Value} {Q:Value->Shared->Prop} (hh:A.handled=none) (hi:s.heap.IsTupleIter it t i) (ht:s.heap.IsTuple t items) (hx:items[i]?=none)
  (k:∀ h' e,Heap.ExtBut it s.heap h'->(∃ o,h'.get? e=some o/\o.cls=.type "StopIteration")->E (.ref e) { s with heap:=h' }):wpAny (model prog w) A (Builtin.SmallTypes.nextOf (.ref it)) Q E s:=by
 obtain ⟨o,ho,oc,od⟩:=id hi
 obtain ⟨q,hq,_,n,qd⟩:=ht
 unfold Builtin.SmallTypes.nextOf
 refine wpAny_bind (wpAny_callSpecial?_slot (name:=Str.ofString "__next__") hi.typeIs F.slot_tuple_iterator_next (wpAny_call_entry F.slot_tuple_iterator_next hi.typeIs F.entry_tuple_iterator_next ?_ (F.args_tuple_iterator_next_1 _)))
 show wpAny _ _ (field (.ref it) 0 >>= _) _ _ s
 refine wpAny_bind (wpAny_field ho od (x:=.ref t) rfl ?_)
 show wpAny _ _ (if (Value.ref t == Value.none)=true then _ else _) _ _ s
 rw [if_neg (fun z:(Value.ref t == Value.none)=true=>Bool.false_ne_true z)]
 show wpAny _ _ (field (.ref it) 1 >>= _) _ _ s
 refine wpAny_bind (wpAny_field ho od (x:=.int i 0) rfl (wpAny_bind (wpAny_seqItems hq qd ?_)))
 simp only [Int.toNat_natCast,hx]
 refine wpAny_bind (wpAny_rule (wpAny_bind (wpAny_setField ho od (by simp) ?_)))
 show wpAny _ _ (newExc (.type "StopIteration") [] >>= _) _ _ _
 refine wpAny_bind ?_
 simp only [newExc,newTuple]
 refine wpAny_bind (wpAny_newObj_type (wpAny_bind (m:=firstArgMember _ _) (wpAny_of_eq (a:=Value.none) (by first | rfl | (simp only [firstArgMember];rfl)) (wpAny_newObj_type ?_ (by size_fits)))) (by size_fits))
 simp only [raiseNew]
 refine wpAny_bind (wpAny_handled ?_)
 first
  | rw [show A.in1.handled=none from hh]
  | rw [hh]
 exact wpAny_bind (wpAny_pure (wpAny_throw (k _ _ (((Heap.SameBut.update ..).extBut.push _).push _) ⟨_,Heap.get?_push_size _ rfl,rfl⟩)))
def IsIt (k:Bool) (h:Heap) (it l:Addr) (i:Nat):Prop:=match k with
 | true=>h.IsListIter it l i
 | false=>h.IsTupleIter it l i
def IsSq (k:Bool) (h:Heap) (l:Addr) (xs:Array Value):Prop:=match k with
 | true=>h.IsList l xs
 | false=>h.IsTuple l xs
theorem IsIt.at {k:Bool} {h h':Heap} {it l:Addr} {i:Nat} (x:IsIt k h it l i) (e:∀ o,h.get? it=some o->h'.get? it=some o):IsIt k h' it l i:=by
 cases k with
 | true=>obtain ⟨o,ho,r⟩:=(show h.IsListIter it l i from x);exact (show h'.IsListIter it l i from ⟨o,e o ho,r⟩)
 | false=>obtain ⟨o,ho,r⟩:=(show h.IsTupleIter it l i from x);exact (show h'.IsTupleIter it l i from ⟨o,e o ho,r⟩)
theorem IsSq.at {k:Bool} {h h':Heap} {l:Addr} {xs:Array Value} (x:IsSq k h l xs) (e:∀ o,h.get? l=some o->h'.get? l=some o):IsSq k h' l xs:=by
 cases k with
 | true=>obtain ⟨o,ho,r⟩:=(show h.IsList l xs from x);exact (show h'.IsList l xs from ⟨o,e o ho,r⟩)
 | false=>obtain ⟨o,ho,r⟩:=(show h.IsTuple l xs from x);exact (show h'.IsTuple l xs from ⟨o,e o ho,r⟩)
theorem IsIt.obj {k:Bool} {h:Heap} {it l:Addr} {i:Nat} (x:IsIt k h it l i):∃ o,h.get? it=some o/\∀ v,o.data≠.cell v:=by
 cases k with
 | true=>obtain ⟨o,ho,_,d⟩:=(show h.IsListIter it l i from x);exact ⟨o,ho,fun v z=>by rw [d] at z;cases z⟩
 | false=>obtain ⟨o,ho,_,d⟩:=(show h.IsTupleIter it l i from x);exact ⟨o,ho,fun v z=>by rw [d] at z;cases z⟩
theorem qa {k:Bool} {it l:Addr} {i:Nat} {xs:Array Value} {x:Value} {Q:Value->Shared->Prop} (hi:IsIt k s.heap it l i) (hl:IsSq k s.heap l xs) (hx:xs[i]?=some x)
  (q:∀ h',IsIt k h' it l (i + 1)->Heap.SameBut it s.heap h'->Q x { s with heap:=h' }):wpAny (model prog w) A (Builtin.SmallTypes.nextOf (.ref it)) Q E s:=by
 cases k with
 | true=>exact wpAny_nextOf_list_item hi hl hx q
 | false=>exact wW hi hl hx q
theorem xZ {k:Bool} {it l:Addr} {i:Nat} {xs:Array Value} {Q:Value->Shared->Prop} (hh:A.handled=none) (hi:IsIt k s.heap it l i) (hl:IsSq k s.heap l xs) (hx:xs[i]?=none)
  (q:∀ h' e,Heap.ExtBut it s.heap h'->(∃ o,h'.get? e=some o/\o.cls=.type "StopIteration")->E (.ref e) { s with heap:=h' }):wpAny (model prog w) A (Builtin.SmallTypes.nextOf (.ref it)) Q E s:=by
 cases k with
 | true=>exact wpAny_nextOf_list_end hh hi hl hx q
 | false=>exact y7 hh hi hl hx q
theorem y8 {k1 k2:Bool} {z TI TO i1 i2 l1 l2:Addr} {i:Nat} {xs ys:Array Value} {x y a b:Value} {Q:Value->Shared->Prop} (D:ZipApart z TI TO i1 i2 l1 l2) (hz:IsZip s.heap z TI TO .none) (Jy:IsPair s.heap TI (.ref i1) (.ref i2)) (J4:IsPair s.heap TO a b)
  (h1:IsIt k1 s.heap i1 l1 i) (h2:IsIt k2 s.heap i2 l2 i) (g1:IsSq k1 s.heap l1 xs) (g2:IsSq k2 s.heap l2 ys) (hx:xs[i]?=some x) (hy:ys[i]?=some y)
  (q:∀ h',IsZip h' z TI TO (rawInt s.heap.objs.size)->IsPair h' TO x y->IsIt k1 h' i1 l1 (i + 1)->IsIt k2 h' i2 l2 (i + 1)->IsPair h' s.heap.objs.size x y->
   (∀ c o,c≠z->c≠TO->c≠i1->c≠i2->s.heap.get? c=some o->h'.get? c=some o)->Q (.ref s.heap.objs.size) { s with heap:=h' }) :
  wpAny (model prog w) A (Builtin.«zip.__next__» ⟨[.ref z],[]⟩) (fun fin s'=>∃ v,fin=.done (.ret v)/\Q v s') E s:=by
 show wpAny _ _ (field (.ref z) 2 >>= _) _ _ _
 refine wpAny_bind (wpAny_field hz rfl (x:=.bool false) rfl ?_)
 show wpAny _ _ (field (.ref z) 3 >>= _) _ _ _
 refine wpAny_bind (wpAny_field hz rfl (x:=.ref TI) rfl (wpAny_bind (wpAny_seqItems Jy rfl ?_)))
 show wpAny _ _ (Builtin.SmallTypes.ownedTupleIsFree (.ref z) >>= _) _ _ _
 refine wpAny_bind ?_
 unfold Builtin.SmallTypes.ownedTupleIsFree
 refine wpAny_bind (wpAny_field hz rfl (x:=.none) rfl (wpAny_pure ?_))
 rw [if_pos (by rfl)]
 refine wpAny_bind (wpAny_rule (wpAny_bind (wpAny_field hz rfl (x:=.ref TO) rfl (wpAny_bind (wpAny_setField_rec hz (by simp) fun hA zA sA=>?_)))))
 have zA:IsZip hA z TI TO .ellipsis:=zA
 refine wpAny_bind ?_
 simp only [List.zipIdx_cons,List.zipIdx_nil,List.forIn_cons,List.forIn_nil]
 refine wpAny_bind (wpAny_bind (wpAny_onRaise ?_))
 show wpAny _ _ (Builtin.SmallTypes.nextOf (.ref i1) >>= _) _ _ _
 refine wpAny_bind (qa (h1.at fun o e=>sA.extBut _ _ D.i1z e) (g1.at fun o e=>sA.extBut _ _ D.l1z e) hx fun hB iB sB=>wpAny_pure ?_)
 have tB:IsPair hB TO a b:=sB.extBut _ _ D.TOi1 (sA.extBut _ _ D.TOz J4)
 refine wpAny_bind (wpAny_seqItems tB rfl (wpAny_bind (wpAny_updateSeq_pair tB fun hC tC sC=>wpAny_bind (wpAny_letGo (wpAny_pure ?_)))))
 have tC:IsPair hC TO x b:=tC
 refine wpAny_bind (wpAny_bind (wpAny_onRaise ?_))
 show wpAny _ _ (Builtin.SmallTypes.nextOf (.ref i2) >>= _) _ _ _
 refine wpAny_bind (qa (h2.at fun o e=>sC.extBut _ _ D.TOi2.symm (sB.extBut _ _ D.i12.symm (sA.extBut _ _ D.i2z e))) (g2.at fun o e=>sC.extBut _ _ D.l2TO (sB.extBut _ _ D.l2i1 (sA.extBut _ _ D.l2z e))) hy fun hD iD sD=>wpAny_pure ?_)
 have tD:IsPair hD TO x b:=sD.extBut _ _ D.TOi2 tC
 refine wpAny_bind (wpAny_seqItems tD rfl (wpAny_bind (wpAny_updateSeq_pair tD fun hE tE sE=>wpAny_bind (wpAny_letGo (wpAny_pure (wpAny_pure ?_))))))
 have tE:IsPair hE TO x y:=tE
 refine wpAny_bind (wpAny_seqItems tE rfl (wpAny_bind (wpAny_newTuple ?_)))
 have ez:hE.objs.size=s.heap.objs.size:=by rw [sE.1,sD.1,sC.1,sB.1,sA.1]
 have zE:IsZip hE z TI TO .ellipsis:=sE.extBut _ _ D.TOz.symm (sD.extBut _ _ D.i2z.symm (sC.extBut _ _ D.TOz.symm (sB.extBut _ _ D.i1z.symm zA)))
 have kE:∀ c o,c≠z->c≠TO->c≠i1->c≠i2->s.heap.get? c=some o->hE.get? c=some o:=fun c o c1 c2 c3 c4 e=>sE.extBut _ _ c2 (sD.extBut _ _ c4 (sC.extBut _ _ c2 (sB.extBut _ _ c3 (sA.extBut _ _ c1 e))))
 have i1E:IsIt k1 hE i1 l1 (i + 1):=iB.at fun o e=>sE.extBut _ _ D.TOi1.symm (sD.extBut _ _ D.i12 (sC.extBut _ _ D.TOi1.symm e))
 have i2E:IsIt k2 hE i2 l2 (i + 1):=iD.at fun o e=>sE.extBut _ _ D.TOi2.symm e
 show wpAny _ _ (Builtin.SmallTypes.ownedTupleHandOut (.ref z) (.ref hE.objs.size) >>= _) _ _ _
 refine wpAny_bind ?_
 unfold Builtin.SmallTypes.ownedTupleHandOut
 have zF:IsZip (hE.push { cls:=.type "tuple",data:=.seq #[x,y] }) z TI TO .ellipsis:=Heap.get?_push_of_some _ zE
 refine wpAny_bind (wpAny_setField_rec zF (by simp) fun hG zG sG=>?_)
 have zG:IsZip hG z TI TO (rawInt hE.objs.size):=zG
 refine wpAny_setField_rec zG (by simp) fun hK zK sK=>?_
 have zK:IsZip hK z TI TO (rawInt hE.objs.size):=zK
 have up:∀ c o,c≠z->hE.get? c=some o->hK.get? c=some o:=fun c o c1 e=>sK.extBut _ _ c1 (sG.extBut _ _ c1 (Heap.get?_push_of_some _ e))
 have nz:hE.objs.size≠z:=Nat.ne_of_gt (Heap.lt_size zE)
 have tK:IsPair hK hE.objs.size x y:=sK.extBut _ _ nz (sG.extBut _ _ nz (Heap.get?_push_size _ rfl))
 rw [ez] at zK tK
 refine wpAny_pure ⟨_,rfl,?_⟩
 show Q (.ref hE.objs.size) _
 rw [ez]
 exact q hK zK (up _ _ D.TOz tE) (i1E.at fun o e=>up _ o D.i1z e) (i2E.at fun o e=>up _ o D.i2z e) tK fun c o c1 c2 c3 c4 e=>up c o c1 (kE c o c1 c2 c3 c4 e)
theorem BG {k1 k2:Bool} {z TI TO i1 i2 l1 l2:Addr} {i:Nat} {xs ys:Array Value} {a b:Value} {Q:Fin->Shared->Prop} (hh:A.handled=none) (D:ZipApart z TI TO i1 i2 l1 l2) (hz:IsZip s.heap z TI TO .none) (Jy:IsPair s.heap TI (.ref i1) (.ref i2)) (J4:IsPair s.heap TO a b)
  (h1:IsIt k1 s.heap i1 l1 i) (h2:IsIt k2 s.heap i2 l2 i) (g1:IsSq k1 s.heap l1 xs) (g2:IsSq k2 s.heap l2 ys) (he:xs[i]?=none\/ys[i]?=none)
  (q:∀ h' e,(∀ c o,c≠z->c≠TO->c≠i1->c≠i2->s.heap.get? c=some o->h'.get? c=some o)->(∃ o,h'.get? e=some o/\o.cls=.type "StopIteration")->E (.ref e) { s with heap:=h' }) :
  wpAny (model prog w) A (Builtin.«zip.__next__» ⟨[.ref z],[]⟩) Q E s:=by
 show wpAny _ _ (field (.ref z) 2 >>= _) _ _ _
 refine wpAny_bind (wpAny_field hz rfl (x:=.bool false) rfl ?_)
 show wpAny _ _ (field (.ref z) 3 >>= _) _ _ _
 refine wpAny_bind (wpAny_field hz rfl (x:=.ref TI) rfl (wpAny_bind (wpAny_seqItems Jy rfl ?_)))
 show wpAny _ _ (Builtin.SmallTypes.ownedTupleIsFree (.ref z) >>= _) _ _ _
 refine wpAny_bind ?_
 unfold Builtin.SmallTypes.ownedTupleIsFree
 refine wpAny_bind (wpAny_field hz rfl (x:=.none) rfl (wpAny_pure ?_))
 rw [if_pos (by rfl)]
 refine wpAny_bind (wpAny_rule (wpAny_bind (wpAny_field hz rfl (x:=.ref TO) rfl (wpAny_bind (wpAny_setField_rec hz (by simp) fun hA zA sA=>?_)))))
 have zA:IsZip hA z TI TO .ellipsis:=zA
 refine wpAny_bind ?_
 simp only [List.zipIdx_cons,List.zipIdx_nil,List.forIn_cons,List.forIn_nil]
 refine wpAny_bind (wpAny_bind (wpAny_onRaise ?_))
 show wpAny _ _ (Builtin.SmallTypes.nextOf (.ref i1) >>= _) _ _ _
 cases hx:xs[i]? with
 | none=>
  refine wpAny_bind (xZ hh (h1.at fun o e=>sA.extBut _ _ D.i1z e) (g1.at fun o e=>sA.extBut _ _ D.l1z e) hx fun hB e sB F3=>?_)
  obtain ⟨oe,ge,ce⟩:=F3
  have zB:IsZip hB z TI TO .ellipsis:=sB _ _ D.i1z.symm zA
  have ne:e≠z:=fun x=>by subst x;rw [zB] at ge;cases ge;simp at ce
  exact wpAny_setField_rec zB (by simp) fun hC _ sC=>q hC e (fun c o c1 _ c3 _ x=>sC.extBut _ _ c1 (sB _ _ c3 (sA.extBut _ _ c1 x))) ⟨oe,sC.extBut _ _ ne ge,ce⟩
 | some x=>
  have hy:ys[i]?=none:=by
   rcases he with z | z
   ·rw [hx] at z;cases z
   ·exact z
  refine wpAny_bind (qa (h1.at fun o e=>sA.extBut _ _ D.i1z e) (g1.at fun o e=>sA.extBut _ _ D.l1z e) hx fun hB iB sB=>wpAny_pure ?_)
  have tB:IsPair hB TO a b:=sB.extBut _ _ D.TOi1 (sA.extBut _ _ D.TOz J4)
  refine wpAny_bind (wpAny_seqItems tB rfl (wpAny_bind (wpAny_updateSeq_pair tB fun hC tC sC=>wpAny_bind (wpAny_letGo (wpAny_pure ?_)))))
  refine wpAny_bind (wpAny_bind (wpAny_onRaise ?_))
  show wpAny _ _ (Builtin.SmallTypes.nextOf (.ref i2) >>= _) _ _ _
  refine wpAny_bind (xZ hh (h2.at fun o e=>sC.extBut _ _ D.TOi2.symm (sB.extBut _ _ D.i12.symm (sA.extBut _ _ D.i2z e))) (g2.at fun o e=>sC.extBut _ _ D.l2TO (sB.extBut _ _ D.l2i1 (sA.extBut _ _ D.l2z e))) hy fun hD e sD F3=>?_)
  obtain ⟨oe,ge,ce⟩:=F3
  have zD:IsZip hD z TI TO .ellipsis:=sD _ _ D.i2z.symm (sC.extBut _ _ D.TOz.symm (sB.extBut _ _ D.i1z.symm zA))
  have ne:e≠z:=fun x=>by subst x;rw [zD] at ge;cases ge;simp at ce
  exact wpAny_setField_rec zD (by simp) fun hF _ sF=>q hF e (fun c o c1 c2 c3 c4 x=>sF.extBut _ _ c1 (sD _ _ c4 (sC.extBut _ _ c2 (sB.extBut _ _ c3 (sA.extBut _ _ c1 x))))) ⟨oe,sF.extBut _ _ ne ge,ce⟩
end
noncomputable def itObj (k:Bool) (l:Addr):Obj:=match k with
 | true=>{ cls:=.type "list_iterator",data:=.fields #[.ref l,.int 0 0] }
 | false=>{ cls:=.type "tuple_iterator",data:=.fields #[.ref l,.int 0 0] }
theorem qT (k:Bool) (h:Heap) (l:Addr):IsIt k (h.push (itObj k l)) h.objs.size l 0:=by
 cases k with
 | true=>exact ⟨_,Heap.get?_push_size _ rfl,rfl,rfl⟩
 | false=>exact ⟨_,Heap.get?_push_size _ rfl,rfl,rfl⟩
abbrev zA (h:Heap) (k1:Bool) (l1:Addr):Heap:=h.push (itObj k1 l1)
abbrev zB (h:Heap) (k1 k2:Bool) (l1 l2:Addr):Heap:=(zA h k1 l1).push (itObj k2 l2)
abbrev zC (h:Heap) (k1 k2:Bool) (l1 l2:Addr):Heap:=(zB h k1 k2 l1 l2).push { cls:=.type "tuple",data:=.seq #[.ref h.objs.size,.ref (zA h k1 l1).objs.size] }
abbrev zD (h:Heap) (k1 k2:Bool) (l1 l2:Addr):Heap:=(zC h k1 k2 l1 l2).push { cls:=.type "tuple",data:=.seq #[.none,.none] }
abbrev zE (h:Heap) (k1 k2:Bool) (l1 l2:Addr):Heap:=(zD h k1 k2 l1 l2).push { cls:=.type "zip",data:=.fields #[.none,.bool false,.bool false,.ref (zB h k1 k2 l1 l2).objs.size,.ref (zC h k1 k2 l1 l2).objs.size] }
set_option maxHeartbeats 8000000 in
theorem BH (k1 k2:Bool) (l1 l2:Addr) (xs ys:Array Value) :
  Meets (Builtin.«zip.__new__» ⟨[.type "zip",.ref l1,.ref l2],[]⟩) (fun _ R s=>IsSq k1 s.heap l1 xs/\IsSq k2 s.heap l2 ys/\R (.ok (.ret (.ref (zD s.heap k1 k2 l1 l2).objs.size))) { s with heap:=zE s.heap k1 k2 l1 l2 }):=
 .of_wp fun prog w A R s h=>by
  obtain ⟨hp,g,d,tk,os⟩:=s
  obtain ⟨g1,g2,q⟩:=h
  have IY:=sub_zip
  cases k1 with
  | true=>
   have e1:Heap.IsList (Shared.heap ⟨hp,g,d,tk,os⟩) l1 xs:=g1
   cases k2 with
   | true=>
    have e2:Heap.IsList (Shared.heap ⟨hp.push { cls:=.type "list_iterator",data:=.fields #[.ref l1,.int 0 0] },g,d,tk,os⟩) l2 ys:=Heap.IsList.push g2 _
    wp_walk using wpAny_pyIter_list e1,wpAny_pyIter_list e2
    exact ⟨_,rfl,q⟩
   | false=>
    have e2:Heap.IsTuple (Shared.heap ⟨hp.push { cls:=.type "list_iterator",data:=.fields #[.ref l1,.int 0 0] },g,d,tk,os⟩) l2 ys:=Heap.IsTuple.push g2 _
    wp_walk using wpAny_pyIter_list e1,wpAny_pyIter_tuple e2
    exact ⟨_,rfl,q⟩
  | false=>
   have e1:Heap.IsTuple (Shared.heap ⟨hp,g,d,tk,os⟩) l1 xs:=g1
   cases k2 with
   | true=>
    have e2:Heap.IsList (Shared.heap ⟨hp.push { cls:=.type "tuple_iterator",data:=.fields #[.ref l1,.int 0 0] },g,d,tk,os⟩) l2 ys:=Heap.IsList.push g2 _
    wp_walk using wpAny_pyIter_tuple e1,wpAny_pyIter_list e2
    exact ⟨_,rfl,q⟩
   | false=>
    have e2:Heap.IsTuple (Shared.heap ⟨hp.push { cls:=.type "tuple_iterator",data:=.fields #[.ref l1,.int 0 0] },g,d,tk,os⟩) l2 ys:=Heap.IsTuple.push g2 _
    wp_walk using wpAny_pyIter_tuple e1,wpAny_pyIter_tuple e2
    exact ⟨_,rfl,q⟩
def ZS (k1 k2:Bool) (z TI TO i1 i2 l1 l2:Addr) (i:Nat) (h:Heap):Prop:=IsZip h z TI TO .none/\IsPair h TI (.ref i1) (.ref i2)/\(∃ a b,IsPair h TO a b)/\IsIt k1 h i1 l1 i/\IsIt k2 h i2 l2 i
theorem y9 {prog:Program} {w:World} {A:Around} {E:Value->Shared->Prop} {s:Shared} {k1 k2:Bool} {l1 l2:Addr} {xs ys:Array Value} {Q:Value->Shared->Prop} (g1:IsSq k1 s.heap l1 xs) (g2:IsSq k2 s.heap l2 ys)
  (q:∀ h',ZS k1 k2 (s.heap.objs.size + 4) (s.heap.objs.size + 2) (s.heap.objs.size + 3) s.heap.objs.size (s.heap.objs.size + 1) l1 l2 0 h'->(∀ c o,s.heap.get? c=some o->h'.get? c=some o)->Q (.ref (s.heap.objs.size + 4)) { s with heap:=h' }) :
  wpAny (model prog w) A (call (.type "zip") [.ref l1,.ref l2]) Q E s:=by
 refine callType_new F.called_zip (by decide) (F.typeCall_zip_2 _ _) (F.newCall_zip_2 _ _) (fun obj=>F.args_object_init_3 obj _ _) F.entry_zip_new (BH k1 k2 l1 l2 xs ys) ⟨g1,g2,?_⟩
 have nA:(zA s.heap k1 l1).objs.size=s.heap.objs.size + 1:=Heap.size_push ..
 have nB:(zB s.heap k1 k2 l1 l2).objs.size=s.heap.objs.size + 2:=by rw [Heap.size_push,nA]
 have nC:(zC s.heap k1 k2 l1 l2).objs.size=s.heap.objs.size + 3:=by rw [Heap.size_push,nB]
 have nD:(zD s.heap k1 k2 l1 l2).objs.size=s.heap.objs.size + 4:=by rw [Heap.size_push,nC]
 have pu:∀ {h:Heap} {o:Obj} {c:Addr} {v:Obj},h.get? c=some v->(h.push o).get? c=some v:=fun e=>Heap.get?_push_of_some _ e
 have gz:(zE s.heap k1 k2 l1 l2).get? (zD s.heap k1 k2 l1 l2).objs.size=some _:=Heap.get?_push_size _ rfl
 have go:(zE s.heap k1 k2 l1 l2).get? (zC s.heap k1 k2 l1 l2).objs.size=some _:=pu (Heap.get?_push_size _ rfl)
 have gi:(zE s.heap k1 k2 l1 l2).get? (zB s.heap k1 k2 l1 l2).objs.size=some _:=pu (pu (Heap.get?_push_size _ rfl))
 have j2:IsIt k2 (zE s.heap k1 k2 l1 l2) (zA s.heap k1 l1).objs.size l2 0:=(qT k2 (zA s.heap k1 l1) l2).at fun o e=>pu (pu (pu e))
 have j1:IsIt k1 (zE s.heap k1 k2 l1 l2) s.heap.objs.size l1 0:=(qT k1 s.heap l1).at fun o e=>pu (pu (pu (pu e)))
 show _/\_
 rw [nB,nC,nD] at gz
 rw [nA,nB] at gi
 rw [nC] at go
 rw [nA] at j2
 rw [nD]
 exact ⟨⟨_,gz,rfl⟩,q _ ⟨gz,gi,⟨_,_,go⟩,j1,j2⟩ fun c o x=>pu (pu (pu (pu (pu x))))⟩
noncomputable def Pa (K:W.Frag) (k1 k2:Bool) (a b:Addr):It:=
 ⟨fun i H=>∃ xs ys x y,(if k1 then SqL K H a xs else SqT K H a xs)/\(if k2 then SqL K H b ys else SqT K H b ys)/\xs[i]?=some x/\ys[i]?=some y,
  fun i H v H'=>∃ T,H T=none/\v=.ref T/\∀ xs ys x y,(if k1 then SqL K H a xs else SqT K H a xs)->(if k2 then SqL K H b ys else SqT K H b ys)->xs[i]?=some x->ys[i]?=some y->H'=upd H T (.tup [x,y]),
  fun i H=>∃ xs ys,(if k1 then SqL K H a xs else SqT K H a xs)/\(if k2 then SqL K H b ys else SqT K H b ys)/\i=min xs.length ys.length⟩
section
variable {X:Cx} {pins:List (Addr×Obj)} {σ:L2.St} {H:Hp} {s:Shared}
theorem sO (I:Inv X pins σ H s) {k:Bool} {a:Addr} {xs:List V} (h:if k then SqL X.K H a xs else SqT X.K H a xs):∃ us:List Value,Vals xs us/\IsSq k s.heap a us.toArray:=by
 cases k with
 | true=>
  obtain ⟨us,r,p,_⟩:=I.list (show SqL X.K H a xs from h)
  exact ⟨us,r,p.isList⟩
 | false=>
  obtain ⟨us,r,p,_⟩:=I.tuple (show SqT X.K H a xs from h)
  exact ⟨us,r,(show s.heap.IsTuple a us.toArray from p)⟩
theorem x3 (I:Inv X pins σ H s) {k:Bool} {a:Addr} {xs ys:List V} (h:if k then SqL X.K H a xs else SqT X.K H a xs) (h':if k then SqL X.K H a ys else SqT X.K H a ys):xs=ys:=by
 cases k with
 | true=>exact I.list_inj (show SqL X.K H a xs from h) (show SqL X.K H a ys from h')
 | false=>exact I.tuple_inj (show SqT X.K H a xs from h) (show SqT X.K H a ys from h')
theorem iG (I:Inv X pins σ H s) {k:Bool} {a b:Addr} {xs:List V} (h:if k then SqL X.K H a xs else SqT X.K H a xs) (f:tJ X pins H b):a≠b:=by
 rintro rfl
 obtain ⟨f0,_,_,f3,_⟩:=f
 have nb:∀ o,X.K.lookup a=some o->False:=fun o hk=>by
  have e:=I.ok.mod.kin a o hk
  rcases f3 with z | z
  ·exact I.ok.noex a o e z
  ·exact absurd (Nat.lt_of_lt_of_le (Heap.lt_size e) (Nat.le_trans I.ok.bsz z)) (Nat.lt_irrefl _)
 cases k with
 | true=>
  rcases (show SqL X.K H a xs from h) with (h | ⟨o,h⟩) | ⟨o,FH,n,hk,_⟩
  ·rw [f0] at h;cases h
  ·rw [f0] at h;cases h
  ·exact nb o hk
 | false=>
  rcases (show SqT X.K H a xs from h) with (h | ⟨o,h⟩) | ⟨o,FH,n,hk,_⟩
  ·rw [f0] at h;cases h
  ·rw [f0] at h;cases h
  ·exact nb o hk
end
theorem nx_zip_item {prog:Program} {w:World} {A:Around} {E:Value->Shared->Prop} {s:Shared} {k1 k2:Bool} {z TI TO i1 i2 l1 l2:Addr} {i:Nat} {xs ys:Array Value} {x y:Value} {Q:Option Value->Shared->Prop} (D:ZipApart z TI TO i1 i2 l1 l2) (st:ZS k1 k2 z TI TO i1 i2 l1 l2 i s.heap)
  (g1:IsSq k1 s.heap l1 xs) (g2:IsSq k2 s.heap l2 ys) (hx:xs[i]?=some x) (hy:ys[i]?=some y)
  (q:∀ h',IsZip h' z TI TO (rawInt s.heap.objs.size)->IsPair h' TO x y->IsIt k1 h' i1 l1 (i + 1)->IsIt k2 h' i2 l2 (i + 1)->IsPair h' s.heap.objs.size x y->
   (∀ c o,c≠z->c≠TO->c≠i1->c≠i2->s.heap.get? c=some o->h'.get? c=some o)->Q (some (.ref s.heap.objs.size)) { s with heap:=h' }):wpAny (model prog w) A (pyNext (.ref z)) Q E s:=by
 obtain ⟨hz,Jy,⟨a,b,J4⟩,h1,h2⟩:=st
 have ty:s.TypeIs (.ref z) "zip":=⟨_,hz,rfl⟩
 unfold pyNext
 exact wpAny_bind (wpAny_attempt (wpAny_callSpecial?_slot (name:=Str.ofString "__next__") ty F.slot_zip_next (wpAny_call_entry F.slot_zip_next ty F.entry_zip_next (y8 D hz Jy J4 h1 h2 g1 g2 hx hy fun h' a1 a2 a3 a4 a5 a6=>wpAny_pure (q h' a1 a2 a3 a4 a5 a6)) (F.args_zip_next_1 _))))
theorem sP {prog:Program} {w:World} {A:Around} {E:Value->Shared->Prop} {s:Shared} {k1 k2:Bool} {z TI TO i1 i2 l1 l2:Addr} {i:Nat} {xs ys:Array Value} {Q:Option Value->Shared->Prop} (hh:A.handled=none) (D:ZipApart z TI TO i1 i2 l1 l2) (st:ZS k1 k2 z TI TO i1 i2 l1 l2 i s.heap)
  (g1:IsSq k1 s.heap l1 xs) (g2:IsSq k2 s.heap l2 ys) (he:xs[i]?=none\/ys[i]?=none) (q:∀ h',(∀ c o,c≠z->c≠TO->c≠i1->c≠i2->s.heap.get? c=some o->h'.get? c=some o)->Q none { s with heap:=h' }):wpAny (model prog w) A (pyNext (.ref z)) Q E s:=by
 obtain ⟨hz,Jy,⟨a,b,J4⟩,h1,h2⟩:=st
 have ty:s.TypeIs (.ref z) "zip":=⟨_,hz,rfl⟩
 unfold pyNext
 refine wpAny_bind (wpAny_attempt (wpAny_callSpecial?_slot (name:=Str.ofString "__next__") ty F.slot_zip_next (wpAny_call_entry F.slot_zip_next ty F.entry_zip_next (BG hh D hz Jy J4 h1 h2 g1 g2 he fun h' e kk ⟨o,ho,oc⟩=>?_) (F.args_zip_next_1 _))))
 exact wpAny_bind (wpAny_isInstance (T:="StopIteration") (b:=true) ⟨o,ho,oc⟩ isSubtype_stop (wpAny_pure (q _ kk)))
theorem wX {P:Program} {w:World} {K:W.Frag} {es:List Expr} {kt:Nat} {pt:Pos} (k1 k2:Bool) (a b z TI TO i1 i2:Addr) (ne:z≠TI/\z≠TO/\z≠i1/\z≠i2/\TI≠TO/\TI≠i1/\TI≠i2/\TO≠i1/\TO≠i2/\i1≠i2) :
  Turn P w K (.Tuple es kt pt) (Pa K k1 k2 a b) [z,TI,TO,i1,i2] z (ZS k1 k2 z TI TO i1 i2 a b) where
 mem:=by simp
 obj:=fun i h st c hc=>by
  obtain ⟨hz,Jy,⟨x,y,J4⟩,h1,h2⟩:=st
  simp only [List.mem_cons,List.not_mem_nil,or_false] at hc
  rcases hc with rfl | rfl | rfl | rfl | rfl
  ·exact ⟨_,hz,fun v q=>by cases q⟩
  ·exact ⟨_,Jy,fun v q=>by cases q⟩
  ·exact ⟨_,J4,fun v q=>by cases q⟩
  ·exact h1.obj
  ·exact h2.obj
 keep:=fun i h h' st k=>by
  obtain ⟨hz,Jy,⟨x,y,J4⟩,h1,h2⟩:=st
  exact ⟨k z (by simp) _ hz,k TI (by simp) _ Jy,⟨x,y,k TO (by simp) _ J4⟩,h1.at fun o e=>k i1 (by simp) o e,h2.at fun o e=>k i2 (by simp) o e⟩
 item:=by
  intro X hP hw hK hc i pins s σ H E I hf st hg
  subst hP hw hK
  obtain ⟨xs,ys,x,y,s1,s2,hx,hy⟩:=hg
  obtain ⟨us,r1,q1⟩:=sO I s1
  obtain ⟨ws,r2,q2⟩:=sO I s2
  obtain ⟨u,hu,ru⟩:=r1.get hx
  obtain ⟨v,hv,rv⟩:=r2.get hy
  obtain ⟨n1,n2,n3,n4,n5,n6,n7,n8,n9,Pb⟩:=ne
  have f:=fun c hc=>hf c hc
  have D:ZipApart z TI TO i1 i2 a b:=⟨n1.symm,n2.symm,n3.symm,n4.symm,n5,n6,n7,n8,n9,Pb,iG I s1 (f z (by simp)),iG I s1 (f TO (by simp)),iG I s1 (f i1 (by simp)),iG I s1 (f i2 (by simp)),
   iG I s2 (f z (by simp)),iG I s2 (f TO (by simp)),iG I s2 (f i1 (by simp)),iG I s2 (f i2 (by simp))⟩
  have Jy:=st.2.1
  refine nx_zip_item D st q1 q2 (by simpa using hu) (by simpa using hv) fun h' z1 t1 j1 j2 tp kk=>⟨_,rfl,?_⟩
  refine wpAny_letOwnedTupleGo_zip z1 fun h2 z2 sb=>?_
  have nT:H s.heap.objs.size=none:=I.hok.fresh (Nat.le_refl _)
  have tT:s.heap.objs.size≠z:=Nat.ne_of_gt (Heap.lt_size st.1)
  have all:∀ c o,c≠z->c≠TO->c≠i1->c≠i2->s.heap.get? c=some o->h2.get? c=some o:=fun c o c1 c2 c3 c4 e=>(sb.2 c c1).trans (kk c o c1 c2 c3 c4 e)
  have fz:=f z (by simp)
  have fo:=f TO (by simp)
  have f1:=f i1 (by simp)
  have f2:=f i2 (by simp)
  have Mn:∀ c ob,H c=some ob->c≠z/\c≠TO/\c≠i1/\c≠i2:=fun c ob e=>⟨(fun q=>by rw [q,fz.1] at e;cases e),(fun q=>by rw [q,fo.1] at e;cases e),(fun q=>by rw [q,f1.1] at e;cases e),(fun q=>by rw [q,f2.1] at e;cases e)⟩
  refine ⟨.ref s.heap.objs.size,upd H s.heap.objs.size (.tup [x,y]),?_,rfl,⟨_,nT,rfl,fun Hy ys' x' y' a1 a2 a3 a4=>?_⟩,⟨z2,?_,⟨u,v,(sb.2 TO n2.symm).trans t1⟩,j1.at fun o e=>(sb.2 i1 n3.symm).trans e,j2.at fun o e=>(sb.2 i2 n4.symm).trans e⟩,fun c hc=>?_⟩
  ·have tup2:h2.get? s.heap.objs.size=some { cls:=.type "tuple",data:=.seq #[u,v] }:=(sb.2 _ tT).trans tp
   have S0:Inv X pins σ (upd H s.heap.objs.size (.tup [x,y])) { s with heap:=h2,gens:=s.gens,drawn:=s.drawn,toks:=s.toks }:=by
    refine I.step (ch:=[z,TO,i1,i2]) (fun c hc=>?_) (fun c o _ _ nc e _=>all c o (fun q=>nc (by simp [q])) (fun q=>nc (by simp [q])) (fun q=>nc (by simp [q])) (fun q=>nc (by simp [q])) e)
     (fun c o _ _ nc e _=>⟨o.slots,all c o (fun q=>nc (by simp [q])) (fun q=>nc (by simp [q])) (fun q=>nc (by simp [q])) (fun q=>nc (by simp [q])) e⟩) (fun c o _ e n=>by rw [aU (Nat.ne_of_lt (Heap.lt_size e))];exact n)
     (fun c o nc e=>⟨o,all c o (fun q=>nc (by simp [q])) (fun q=>nc (by simp [q])) (fun q=>nc (by simp [q])) (fun q=>nc (by simp [q])) e⟩) (fun c l e=>by rw [aU (bA e nT)];exact e) (fun c o u' e=>by rw [aU (bA e nT)];exact e)
     (fun c ps e=>⟨#[],by rw [aU (bA e nT),e];simp⟩) (fun m hm=>?_) (fun c ob e=>?_) I.bare
    ·simp only [List.mem_cons,List.not_mem_nil,or_false] at hc
     rcases hc with rfl | rfl | rfl | rfl
     ·exact ⟨fz.2.2.2.1,fz.2.1,fz.2.2.2.2.1,fz.2.2.2.2.2⟩
     ·exact ⟨fo.2.2.2.1,fo.2.1,fo.2.2.2.2.1,fo.2.2.2.2.2⟩
     ·exact ⟨f1.2.2.2.1,f1.2.1,f1.2.2.2.2.1,f1.2.2.2.2.2⟩
     ·exact ⟨f2.2.2.2.1,f2.2.1,f2.2.2.2.2.1,f2.2.2.2.2.2⟩
    ·obtain ⟨o,es,ep,ho,r⟩:=hm
     exact ⟨o,es,ep,all _ o (Ne.symm fz.2.1) (Ne.symm fo.2.1) (Ne.symm f1.2.1) (Ne.symm f2.2.1) ho,r⟩
    ·by_cases ec:c=s.heap.objs.size
     ·subst ec
      rw [bZ] at e
      cases e
      exact ⟨by simp only [List.length_cons,List.length_nil];rw [sizeLine_eq];decide,[u,v],.cons ru (.cons rv .nil),⟨_,tup2,rfl,⟨0,rfl⟩,rfl⟩⟩
     ·rw [aU ec] at e
      refine (I.hok c ob e).stay (fun d w' hd q=>?_) (fun d q=>by rw [aU (bA q nT)];exact q) fun d l q=>by rw [aU (bA q nT)];exact q
      have Mc:∃ oo,H d=some oo:=by
       rcases hd with rfl | hd
       ·exact ⟨_,e⟩
       ·exact ⟨_,hd⟩
      obtain ⟨oo,Pc⟩:=Mc
      obtain ⟨m1,m2,m3,m4⟩:=Mn d oo Pc
      exact all d w' m1 m2 m3 m4 q
   exact S0
  ·have e1:=x3 I a1 s1
   have e2:=x3 I a2 s2
   subst e1 e2
   rw [hx] at a3
   rw [hy] at a4
   cases a3
   cases a4
   rfl
  ·exact (sb.2 TI n1.symm).trans (kk TI _ n1.symm n5 n6 n7 Jy)
  ·have hc0:=(f c hc).1
   have cs:c≠s.heap.objs.size:=by
    have:=(fun i h st=>by
     exact (by
      obtain ⟨hz,Jy,⟨x,y,J4⟩,h1,h2⟩:=st
      simp only [List.mem_cons,List.not_mem_nil,or_false] at hc
      rcases hc with rfl | rfl | rfl | rfl | rfl
      ·exact ⟨_,hz⟩
      ·exact ⟨_,Jy⟩
      ·exact ⟨_,J4⟩
      ·obtain ⟨o,e,_⟩:=h1.obj;exact ⟨o,e⟩
      ·obtain ⟨o,e,_⟩:=h2.obj;exact ⟨o,e⟩:∃ o,h.get? c=some o):∀ i h,ZS k1 k2 z TI TO i1 i2 a b i h->∃ o,h.get? c=some o) i s.heap st
    obtain ⟨o,e⟩:=this
    exact Nat.ne_of_lt (Heap.lt_size e)
   rw [aU cs]
   exact hc0
 done:=by
  intro X hP hw hK hc i pins s σ H E I hf st hg
  subst hP hw hK
  obtain ⟨xs,ys,s1,s2,hi⟩:=hg
  obtain ⟨us,r1,q1⟩:=sO I s1
  obtain ⟨ws,r2,q2⟩:=sO I s2
  have l1:=r1.length
  have l2:=r2.length
  obtain ⟨n1,n2,n3,n4,n5,n6,n7,n8,n9,Pb⟩:=ne
  have f:=fun c hc=>hf c hc
  have D:ZipApart z TI TO i1 i2 a b:=⟨n1.symm,n2.symm,n3.symm,n4.symm,n5,n6,n7,n8,n9,Pb,iG I s1 (f z (by simp)),iG I s1 (f TO (by simp)),iG I s1 (f i1 (by simp)),iG I s1 (f i2 (by simp)),
   iG I s2 (f z (by simp)),iG I s2 (f TO (by simp)),iG I s2 (f i1 (by simp)),iG I s2 (f i2 (by simp))⟩
  have fz:=f z (by simp)
  have fo:=f TO (by simp)
  have f1:=f i1 (by simp)
  have f2:=f i2 (by simp)
  refine sP (I.ok.hd hc) D st q1 q2 (by
   rcases Nat.le_total us.length ws.length with q | q
   ·exact .inl (by simp;lia)
   ·exact .inr (by simp;lia)) fun h' kk=>⟨rfl,?_⟩
  have Mn:∀ c ob,H c=some ob->c≠z/\c≠TO/\c≠i1/\c≠i2:=fun c ob e=>⟨(fun q=>by rw [q,fz.1] at e;cases e),(fun q=>by rw [q,fo.1] at e;cases e),(fun q=>by rw [q,f1.1] at e;cases e),(fun q=>by rw [q,f2.1] at e;cases e)⟩
  have S0:Inv X pins σ H { s with heap:=h',gens:=s.gens,drawn:=s.drawn,toks:=s.toks }:=by
   refine I.step (ch:=[z,TO,i1,i2]) (fun c hc=>?_) (fun c o _ _ nc e _=>kk c o (fun q=>nc (by simp [q])) (fun q=>nc (by simp [q])) (fun q=>nc (by simp [q])) (fun q=>nc (by simp [q])) e)
    (fun c o _ _ nc e _=>⟨o.slots,kk c o (fun q=>nc (by simp [q])) (fun q=>nc (by simp [q])) (fun q=>nc (by simp [q])) (fun q=>nc (by simp [q])) e⟩) (fun c o _ e n=>n)
    (fun c o nc e=>⟨o,kk c o (fun q=>nc (by simp [q])) (fun q=>nc (by simp [q])) (fun q=>nc (by simp [q])) (fun q=>nc (by simp [q])) e⟩) (fun c l e=>e) (fun c o u' e=>e)
    (fun c ps e=>⟨#[],by rw [e];simp⟩) (fun m hm=>?_) (fun c ob e=>?_) I.bare
   ·simp only [List.mem_cons,List.not_mem_nil,or_false] at hc
    rcases hc with rfl | rfl | rfl | rfl
    ·exact ⟨fz.2.2.2.1,fz.2.1,fz.2.2.2.2.1,fz.2.2.2.2.2⟩
    ·exact ⟨fo.2.2.2.1,fo.2.1,fo.2.2.2.2.1,fo.2.2.2.2.2⟩
    ·exact ⟨f1.2.2.2.1,f1.2.1,f1.2.2.2.2.1,f1.2.2.2.2.2⟩
    ·exact ⟨f2.2.2.2.1,f2.2.1,f2.2.2.2.2.1,f2.2.2.2.2.2⟩
   ·obtain ⟨o,es,ep,ho,r⟩:=hm
    exact ⟨o,es,ep,kk _ o (Ne.symm fz.2.1) (Ne.symm fo.2.1) (Ne.symm f1.2.1) (Ne.symm f2.2.1) ho,r⟩
   ·refine (I.hok c ob e).stay (fun d w' hd q=>?_) (fun d q=>q) fun d l q=>q
    have Mc:∃ oo,H d=some oo:=by
     rcases hd with rfl | hd
     ·exact ⟨_,e⟩
     ·exact ⟨_,hd⟩
    obtain ⟨oo,Pc⟩:=Mc
    obtain ⟨m1,m2,m3,m4⟩:=Mn d oo Pc
    exact kk d w' m1 m2 m3 m4 q
  exact S0
 self:=fun _ _ _ _ _ st h=>wpAny_pyIter_zip st.1 h
section
variable {X:Cx} {es:List Expr} {kt:Nat} {pt:Pos}
noncomputable def Ff (K:W.Frag) (k1 k2:Bool) (ta:TA):TI:=fun σ H R=>ta σ H fun vs H1=>∃ a b xs ys,vs=[.ref a,.ref b]/\(if k1 then SqL K H1 a xs else SqT K H1 a xs)/\(if k2 then SqL K H1 b ys else SqT K H1 b ys)/\R (Pa K k1 k2 a b) H1
theorem BI (k1 k2:Bool) {e1 e2:Expr} {ta:TA} {p pos:Pos} (hg:Gl X "zip") (hm:X.mg "zip" = none) (ha:PA X [e1,e2] ta) (he:starEach [e1,e2] X.env=(false,eval e1 X.env) :: starEach [e2] X.env:=by rfl) (HI:(backTo pos (starEach [e2] X.env)).any (·.1)=false:=by rfl) :
  PI X (.Tuple es kt pt) (.Call (.Name "zip" p) [e1,e2] [] pos) (Ff X.K k1 k2 ta):=by
 intro pins s σ H R I h
 refine wpAny_Call_Name_kw (kQ I hg hm (by decide +kernel:bootBuiltins "zip" = some (.type "zip")) ?_ (by decide) (by decide))
 refine PyProof.Rows.callWith_type1 (F1 (ha pos pins s σ H _ I h) fun us s1 ⟨vs,H1,I1,r1,a,b,xs,ys,e,s1',s2',q⟩=>?_) he HI
 subst e
 obtain ⟨u,w',rfl,ra,rb⟩:=yN r1
 cases ra
 cases rb
 obtain ⟨us,v1,q1⟩:=sO I1 s1'
 obtain ⟨ws,v2,q2⟩:=sO I1 s2'
 refine y9 q1 q2 fun h' st kk=>?_
 refine wpAny_pyIter_zip st.1 ?_
 have fr:∀ j,tJ X pins H1 (s1.heap.objs.size + j):=fun j=>I1.fpOk (Nat.le_add_right _ _) (I1.hok.fresh (Nat.le_add_right _ _))
 have nn:∀ i j:Nat,i≠j->s1.heap.objs.size + i≠s1.heap.objs.size + j:=fun i j h z=>h (Nat.add_left_cancel z)
 refine ⟨_,_,_,_,H1,rfl,I1.kept (t':=s1.toks) kk,wX k1 k2 a b (s1.heap.objs.size + 4) (s1.heap.objs.size + 2) (s1.heap.objs.size + 3) (s1.heap.objs.size + 0) (s1.heap.objs.size + 1)
  ⟨nn 4 2 (by decide),nn 4 3 (by decide),nn 4 0 (by decide),nn 4 1 (by decide),nn 2 3 (by decide),nn 2 0 (by decide),nn 2 1 (by decide),nn 3 0 (by decide),nn 3 1 (by decide),nn 0 1 (by decide)⟩,st,fun c hc=>?_,q⟩
 simp only [List.mem_cons,List.not_mem_nil,or_false] at hc
 rcases hc with rfl | rfl | rfl | rfl | rfl
 ·exact fr 4
 ·exact fr 2
 ·exact fr 3
 ·exact fr 0
 ·exact fr 1
end
end NX
namespace NX
open PySem PySem.W PyProof.Rows
section
variable {n:Nat} {O:KeyOrd} {κ:Nat->O.α} {cmp:Nat->Nat->(Bool->Shared->Prop)->Shared->Prop} {Good:Shared->Prop}
noncomputable def kk (κ:Nat->O.α) (p:Array Nat) (i:Nat):O.α:=κ (p.getD i 0)
structure POk (n:Nat) (p:Array Nat):Prop where
 perm:p.toList.Perm (List.range n)
theorem POk.size {p:Array Nat} (h:POk n p):p.size=n:=by
 have:=h.perm.length_eq
 simpa using this
theorem POk.lt {p:Array Nat} (h:POk n p) {i:Nat} (hi:i < n):p.getD i 0 < n:=by
 have hs:=h.size
 have K2:i < p.size:=by lia
 have e:p.getD i 0=p[i]:=by simp [Array.getD,K2]
 rw [e]
 exact List.mem_range.mp (h.perm.mem_iff.mp (Array.getElem_mem_toList K2))
theorem POk.of {p q:Array Nat} (h:POk n p) (hq:q.Perm p):POk n q:=⟨(Array.perm_iff_toList_perm.mp hq).trans h.perm⟩
def bG (κ:Nat->O.α) (p:Array Nat) (m:Nat):Prop:=∀ i j,i<=j->j < m->O.kle (kk κ p i) (kk κ p j)
def gf (κ:Nat->O.α) (p:Array Nat) (m:Nat):Prop:=∀ i j,i<=j->j < m->O.kle (kk κ p j) (kk κ p i)
theorem fU {p q:Array Nat} {i j:Nat} (h:p[i]?=q[j]?):p.getD i 0=q.getD j 0:=by
 rw [Array.getD_eq_getD_getElem?,Array.getD_eq_getD_getElem?,h]
theorem qU {p:Array Nat} {i j:Nat} (hj:j<=p.size) (k:Nat):kk κ (kas_rev p i j) k=if i<=k/\k < j then kk κ p (i + j - 1 - k) else kk κ p k:=by
 have e:=getElem?_mirror_all (i:=i) hj k
 unfold kk kas_rev
 split
 ·rename_i h
  rw [if_pos h] at e
  rw [fU e]
 ·rename_i h
  rw [if_neg h] at e
  rw [fU e]
theorem x4 {p:Array Nat} {src d:Nat} (hs:src < p.size) (hd:d<=src) (k:Nat):kk κ (bubble p src d) k=if k=src - d then kk κ p src else if src - d < k/\k<=src then kk κ p (k - 1) else kk κ p k:=by
 have e:=getElem?_bubble hs d hd k
 by_cases h:k=src - d
 ·rw [if_pos h] at e ⊢
  exact congrArg κ (fU e)
 ·rw [if_neg h] at e ⊢
  by_cases h2:src - d < k/\k<=src
  ·rw [if_pos h2] at e ⊢
   exact congrArg κ (fU e)
  ·rw [if_neg h2] at e ⊢
   exact congrArg κ (fU e)
theorem POk.rev {p:Array Nat} (h:POk n p) (i j:Nat):POk n (kas_rev p i j):=h.of (mirror_perm _ _ _ _)
theorem POk.bub {p:Array Nat} (h:POk n p) (i j:Nat):POk n (bubble p i j):=h.of (bubble_perm _ _ _)
theorem sQ (p:Array Nat):bG κ p 1:=fun i j a b=>by
 have e:i=j:=by lia
 rw [e]
 exact KeyOrd.kle_refl _
theorem qb {p:Array Nat} {m:Nat} (h1:1<=m) (h:bG κ p m) (hm:O.kle (kk κ p (m - 1)) (kk κ p m)):bG κ p (m + 1):=by
 intro i j K3 hj
 by_cases e:j=m
 ·subst e
  by_cases e2:i=j
  ·subst e2
   exact KeyOrd.kle_refl _
  ·exact KeyOrd.kle_trans (h i (j - 1) (by lia) (by lia)) hm
 ·exact h i j K3 (by lia)
theorem fV {p:Array Nat} {m:Nat} (h1:1<=m) (h:gf κ p m) (hm:O.kle (kk κ p m) (kk κ p (m - 1))):gf κ p (m + 1):=by
 intro i j K3 hj
 by_cases e:j=m
 ·subst e
  by_cases e2:i=j
  ·subst e2
   exact KeyOrd.kle_refl _
  ·exact KeyOrd.kle_trans hm (h i (j - 1) (by lia) (by lia))
 ·exact h i j K3 (by lia)
variable (hc:∀ i j,i < n->j < n->∀ (Q:Bool->Shared->Prop) s,Good s->(∀ s',Good s'->Q (O.blt (κ i) (κ j)) s')->cmp i j Q s)
include hc
theorem uD {p:Array Nat} (hp:POk n p) {Gh:Nat} (hn:Gh<=n) {Q:Nat->Shared->Prop}:∀ (f m:Nat) (s:Shared),Good s->1<=m->m + f=Gh->bG κ p m->
  (∀ r s',Good s'->m<=r->r<=Gh->bG κ p r->(r < Gh->O.klt (kk κ p r) (kk κ p (r - 1)))->Q r s')->(kas_asc p f m).kasWp cmp Q s
 | 0,m,s,g,h1,hf,hs,k=>k m s g (Nat.le_refl _) (by lia) hs (fun z=>by lia)
 | f + 1,m,s,g,h1,hf,hs,k=>by
  show cmp (p.getD m 0) (p.getD (m - 1) 0) _ s
  refine hc _ _ (hp.lt (by lia)) (hp.lt (by lia)) _ s g fun s' g'=>?_
  cases e:O.blt (κ (p.getD m 0)) (κ (p.getD (m - 1) 0)) with
  | true=>
   (try dsimp only)
   rw [if_pos rfl]
   exact k m s' g' (Nat.le_refl _) (by lia) hs fun _=>e
  | false=>
   (try dsimp only)
   rw [if_neg Bool.false_ne_true]
   exact uD hp hn f (m + 1) s' g' (by lia) (by lia) (qb h1 hs e) fun r s2 g2 a b c d=>k r s2 g2 (by lia) b c d
def za (κ:Nat->O.α) (p:Array Nat) (m q:Nat):Prop:=∀ k,m - (q + 1)<=k->k < m->kk κ p k=kk κ p (m - 1)
omit hc in
theorem o4 {p:Array Nat} {m q:Nat} (hm:m<=p.size) (h:za κ p m q) (k:Nat):kk κ (kas_rev p (m - (q + 1)) m) k=kk κ p k:=by
 rw [qU hm]
 split
 ·rename_i hk
  rw [h _ (by lia) (by lia),h k hk.1 hk.2]
 ·rfl
omit hc in
theorem jK {p p':Array Nat} {m:Nat} (e:∀ k,kk κ p' k=kk κ p k) (h:gf κ p m):gf κ p' m:=fun i j a b=>by rw [e,e];exact h i j a b
theorem nq {Gh:Nat} (hn:Gh<=n) {Q:Array Nat×Nat×Nat->Shared->Prop}:∀ (f:Nat) (p:Array Nat) (m q:Nat) (s:Shared),POk n p->Good s->1<=m->q + 1<=m->m + f=Gh->gf κ p m->za κ p m q->
  (∀ p' m' q' s',POk n p'->Good s'->m<=m'->m'<=Gh->q' + 1<=m'->gf κ p' m'->za κ p' m' q'->Q (p',m',q') s')->(kas_desc f p m q).kasWp cmp Q s
 | 0,p,m,q,s,hp,g,h1,hq,hf,hs,ha,k=>k p m q s hp g (Nat.le_refl _) (by lia) hq hs ha
 | f + 1,p,m,q,s,hp,g,h1,hq,hf,hs,ha,k=>by
  show cmp (p.getD m 0) (p.getD (m - 1) 0) _ s
  refine hc _ _ (hp.lt (by lia)) (hp.lt (by lia)) _ s g fun s' g'=>?_
  have hsz:=hp.size
  cases e:O.blt (κ (p.getD m 0)) (κ (p.getD (m - 1) 0)) with
  | true=>
   (try dsimp only)
   rw [if_pos rfl]
   have le:O.kle (kk κ p m) (kk κ p (m - 1)):=KeyOrd.kle_of_klt e
   by_cases h0:q > 0
   ·rw [if_pos h0]
    have same:=o4 (κ:=κ) (p:=p) (m:=m) (q:=q) (by lia) ha
    refine nq hn f _ (m + 1) 0 s' (hp.rev _ _) g' (by lia) (by lia) (by lia) (fV h1 (jK same hs) (by rw [same,same];exact le)) ?_ fun p' m' q' s2 a b c d e' f' g2=>k p' m' q' s2 a b (by lia) d e' f' g2
    intro k' a b
    have:k'=m:=by lia
    rw [this]
    rfl
   ·rw [if_neg h0]
    refine nq hn f p (m + 1) 0 s' hp g' (by lia) (by lia) (by lia) (fV h1 hs le) ?_ fun p' m' q' s2 a b c d e' f' g2=>k p' m' q' s2 a b (by lia) d e' f' g2
    intro k' a b
    have:k'=m:=by lia
    rw [this]
    rfl
  | false=>
   (try dsimp only)
   rw [if_neg Bool.false_ne_true]
   show cmp (p.getD (m - 1) 0) (p.getD m 0) _ s'
   refine hc _ _ (hp.lt (by lia)) (hp.lt (by lia)) _ s' g' fun s2 g2=>?_
   cases e2:O.blt (κ (p.getD (m - 1) 0)) (κ (p.getD m 0)) with
   | true=>
    (try dsimp only)
    rw [if_pos rfl]
    exact k p m q s2 hp g2 (Nat.le_refl _) (by lia) hq hs ha
   | false=>
    (try dsimp only)
    rw [if_neg Bool.false_ne_true]
    have eq:kk κ p (m - 1)=kk κ p m:=KeyOrd.kle_antisymm (O:=O) e e2
    refine nq hn f p (m + 1) (q + 1) s2 hp g2 (by lia) (by lia) (by lia) (fV h1 hs (by rw [eq];exact KeyOrd.kle_refl _)) ?_ fun p' m' q' s3 a b c d e' f' g3=>k p' m' q' s3 a b (by lia) d e' f' g3
    intro k' a b
    show kk κ p k'=kk κ p m
    by_cases z:k'=m
    ·rw [z]
    ·rw [ha k' (by lia) (by lia),eq]
omit hc in
theorem sR {p:Array Nat} {m:Nat} (hm:m<=p.size) (h:gf κ p m):bG κ (kas_rev p 0 m) m:=by
 intro i j a b
 rw [qU hm,qU hm,if_pos (by lia),if_pos (by lia)]
 exact h _ _ (by lia) (by lia)
theorem uE {p:Array Nat} (hp:POk n p) {m Gh:Nat} (hn:Gh<=n) (h1:1<=m) (hm:m<=Gh) (hs:gf κ p m) {Q:Nat×Array Nat->Shared->Prop} {s:Shared} (g:Good s)
  (k:∀ r p' s',POk n p'->Good s'->1<=r->r<=Gh->bG κ p' r->Q (r,p') s'):(kas_tail3 m Gh p).kasWp cmp Q s:=by
 unfold kas_tail3
 rw [KasT.kasWp_bind]
 have hsz:=hp.size
 refine uD hc (hp.rev 0 m) hn (Gh - m) m s g h1 (by lia) (sR (by lia) hs) fun r s' g' a b c _=>?_
 exact k r _ s' (hp.rev 0 m) g' (by lia) b c
theorem kX {p:Array Nat} (hp:POk n p) {m Gh:Nat} (hn:Gh<=n) (h1:1<=m) (hm:m + 1<=Gh) (hs:gf κ p (m + 1)) {Q:Nat×Array Nat->Shared->Prop} {s:Shared} (g:Good s)
  (k:∀ r p' s',POk n p'->Good s'->1<=r->r<=Gh->bG κ p' r->Q (r,p') s'):(kas_descPart m Gh p).kasWp cmp Q s:=by
 unfold kas_descPart
 rw [KasT.kasWp_bind]
 refine nq hc hn (Gh - (m + 1)) p (m + 1) 0 s hp g (by lia) (by lia) (by lia) hs ?_ fun p' m' q' s' a b c d e f g2=>?_
 ·intro k' a b
  have:k'=m:=by lia
  rw [this]
  rfl
 ·have hsz:=a.size
  dsimp only
  split
  ·have same:=o4 (κ:=κ) (p:=p') (m:=m') (q:=q') (by lia) g2
   exact uE hc (a.rev _ _) hn (by lia) d (jK same f) b k
  ·exact uE hc a hn (by lia) d f b k
theorem wY {p:Array Nat} (hp:POk n p) {Gh:Nat} (hn:Gh<=n) (h1:1<=Gh) {Q:Nat×Array Nat->Shared->Prop} {s:Shared} (g:Good s)
  (k:∀ r p' s',POk n p'->Good s'->1<=r->r<=Gh->bG κ p' r->Q (r,p') s'):(kas_count Gh p).kasWp cmp Q s:=by
 unfold kas_count
 rw [KasT.kasWp_bind]
 have hsz:=hp.size
 refine uD hc hp hn (Gh - 1) 1 s g (Nat.le_refl _) (by lia) (sQ p) fun m s' g' a b c d=>?_
 by_cases e:m=Gh
 ·rw [if_pos (by simpa using e)]
  exact k m p s' hp g' (by lia) (by lia) c
 ·rw [if_neg (by simpa using e)]
  have dd:=d (by lia)
  by_cases h2:m > 1
  ·rw [if_pos h2]
   show cmp (p.getD 0 0) (p.getD (m - 1) 0) _ s'
   refine hc _ _ (hp.lt (by lia)) (hp.lt (by lia)) _ s' g' fun s2 g2=>?_
   cases e2:O.blt (κ (p.getD 0 0)) (κ (p.getD (m - 1) 0)) with
   | true=>
    (try dsimp only)
    rw [if_pos rfl]
    exact k m p s2 hp g2 (by lia) b c
   | false=>
    (try dsimp only)
    rw [if_neg Bool.false_ne_true]
    have eq:∀ i,i < m->kk κ p i=kk κ p 0:=fun i hi=>by
     have x1:=c 0 i (by lia) hi
     have x2:=c i (m - 1) (by lia) (by lia)
     exact KeyOrd.kle_antisymm (O:=O) (KeyOrd.kle_trans x2 e2) x1
    have same:∀ i,kk κ (kas_rev p 0 m) i=kk κ p i:=fun i=>by
     rw [qU (by lia)]
     split
     ·rw [eq _ (by lia),eq i (by lia)]
     ·rfl
    refine kX hc (hp.rev 0 m) hn (by lia) (by lia) ?_ g2 k
    refine jK same (fV (by lia) (fun i j x y=>?_) (KeyOrd.kle_of_klt dd))
    rw [eq i (by lia),eq j y]
    exact KeyOrd.kle_refl _
  ·rw [if_neg h2]
   refine kX hc hp hn (by lia) (by lia) (fV (by lia) (fun i j x y=>?_) (KeyOrd.kle_of_klt dd)) g' k
   have:i=j:=by lia
   rw [this]
   exact KeyOrd.kle_refl _
theorem nr {p:Array Nat} (hp:POk n p) {t:Nat} (ht:t < n) (hs:bG κ p t) {Q:Nat->Shared->Prop}:∀ (f l r:Nat) (s:Shared),Good s->l<=r->r<=t->r - l<=f->(∀ i,i < l->O.kle (kk κ p i) (kk κ p t))->(∀ i,r<=i->i < t->O.klt (kk κ p t) (kk κ p i))->
  (∀ x s',Good s'->x<=t->(∀ i,i < x->O.kle (kk κ p i) (kk κ p t))->(∀ i,x<=i->i < t->O.klt (kk κ p t) (kk κ p i))->Q x s')->(kas_place p t f l r).kasWp cmp Q s
 | 0,l,r,s,g,h1,h2,h3,lo,hi,k=>k l s g (by lia) lo fun i a b=>hi i (by lia) b
 | f + 1,l,r,s,g,h1,h2,h3,lo,hi,k=>by
  unfold kas_place
  by_cases e:l >= r
  ·rw [if_pos e]
   exact k l s g (by lia) lo fun i a b=>hi i (by lia) b
  ·rw [if_neg e]
   show cmp (p.getD t 0) (p.getD ((l + r) / 2) 0) _ s
   refine hc _ _ (hp.lt ht) (hp.lt (by lia)) _ s g fun s' g'=>?_
   cases e2:O.blt (κ (p.getD t 0)) (κ (p.getD ((l + r) / 2) 0)) with
   | true=>
    (try dsimp only)
    rw [if_pos rfl]
    refine nr hp ht hs f l ((l + r) / 2) s' g' (by lia) (by lia) (by lia) lo (fun i a b=>?_) k
    exact KeyOrd.klt_of_klt_of_kle (O:=O) e2 (hs _ i a b)
   | false=>
    (try dsimp only)
    rw [if_neg Bool.false_ne_true]
    refine nr hp ht hs f ((l + r) / 2 + 1) r s' g' (by lia) (by lia) (by lia) (fun i a=>?_) hi k
    exact KeyOrd.kle_trans (O:=O) (hs i ((l + r) / 2) (by lia) (by lia)) e2
theorem x5 {Q:Array Nat->Shared->Prop}:∀ (f:Nat) (p:Array Nat) (t:Nat) (s:Shared),POk n p->Good s->t + f=n->bG κ p t->(∀ p' s',POk n p'->Good s'->bG κ p' n->Q p' s')->(kas_bin f p t).kasWp cmp Q s
 | 0,p,t,s,hp,g,hf,hs,k=>k p s hp g (by rw [show n=t by lia];exact hs)
 | f + 1,p,t,s,hp,g,hf,hs,k=>by
  unfold kas_bin
  rw [KasT.kasWp_bind]
  have hsz:=hp.size
  refine nr hc hp (by lia) hs t 0 t s g (Nat.zero_le _) (Nat.le_refl _) (by lia) (fun i a=>by lia) (fun i a b=>by lia) fun x s' g' hx lo hi=>?_
  refine x5 f _ (t + 1) s' (hp.bub _ _) g' (by lia) ?_ k
  have ex:t - (t - x)=x:=by lia
  intro i j a b
  rw [x4 (by lia) (by lia),x4 (by lia) (by lia),ex]
  have lo':=lo
  by_cases i1:i=x
  ·by_cases j1:j=x
   ·rw [if_pos i1,if_pos j1]
    exact KeyOrd.kle_refl _
   ·rw [if_pos i1,if_neg j1,if_pos (by lia)]
    exact KeyOrd.kle_of_klt (hi (j - 1) (by lia) (by lia))
  ·rw [if_neg i1]
   by_cases i2:x < i/\i<=t
   ·rw [if_pos i2,if_neg (by lia),if_pos (by lia)]
    exact hs (i - 1) (j - 1) (by lia) (by lia)
   ·rw [if_neg i2]
    by_cases j1:j=x
    ·rw [if_pos j1]
     exact lo i (by lia)
    ·rw [if_neg j1]
     by_cases j2:x < j/\j<=t
     ·rw [if_pos j2]
      exact hs i (j - 1) (by lia) (by lia)
     ·rw [if_neg j2]
      exact hs i j a (by lia)
theorem zb (h1:1<=n) {Q:Array Nat->Shared->Prop} {s:Shared} (g:Good s) (k:∀ p s',POk n p->Good s'->bG κ p n->Q p s'):(kas_sort n).kasWp cmp Q s:=by
 unfold kas_sort
 rw [KasT.kasWp_bind]
 refine wY hc (p:=List.toArray (List.range n)) ⟨by simp⟩ (Nat.le_refl _) h1 g fun r p' s' hp g' a b c=>?_
 dsimp only
 split
 ·have e:max r 1=r:=by lia
  rw [e]
  exact x5 hc (n - r) p' r s' hp g' (by lia) c k
 ·exact k p' s' hp g' (by rw [show n=r by lia];exact c)
end
end NX
namespace NX
open PySem PySem.W PySem.Spec PyProof.Rows L2
section
variable {prog:Program} {w:World} {A:Around} {E:Value->Shared->Prop} {s:Shared}
theorem qV (n:Nat):POk n (List.toArray (List.range n)):=⟨by simp⟩
theorem jb {O:KeyOrd} {key:Nat->O.α} {kd:SortKind} {a:Addr} {vs:List Value} {n:Nat} {P:PySem.Fin->Shared->Prop} (ho:s.heap.get? a=some (seqObj "list" vs.toArray n)) (J5:vs.length < 64)
  (Ib:2<=vs.length->∀ (h':Heap),(∀ b o,b≠a->s.heap.get? b=some o->h'.get? b=some o)->∀ Q:SortKind->Shared->Prop,Q kd { s with heap:=h' }->wpAny (model prog w) A (keyKind' vs.toArray) Q E { s with heap:=h' })
  (Ky:∀ i j,i < vs.length->j < vs.length->∀ (h':Heap),(∀ b o,b≠a->s.heap.get? b=some o->h'.get? b=some o)->∀ C:Bool->Shared->Prop,C (O.blt (key i) (key j)) { s with heap:=h' }->kas_ask prog w A kd vs i j C { s with heap:=h' })
  (h:∀ p h',POk vs.length p->bG key p vs.length->(∃ e,h'.get? a=some (seqObj "list" (List.toArray (p.toList.map fun i=>vs.getD i .none)) e))->(∀ b o,b≠a->s.heap.get? b=some o->h'.get? b=some o)->P (.done (.ret .none)) { s with heap:=h' }) :
  wpAny (model prog w) A (Builtin.«list.sort» ⟨[.ref a],[]⟩) P E s:=by
 rw [list_sort_plain]
 have la:a < s.heap.objs.size:=Heap.lt_size ho
 have zs:vs.toArray.size=vs.length:=by simp
 refine wpAny_bind (listItems_at ho rfl (wpAny_bind (listUpdate_at ho rfl ?_ (by rw [zs,sizeLine_eq];lia) (Nat.zero_le _))))
 obtain ⟨e1,h1⟩:∃ e1,(s.heap.update a (Obj.mapSeq fun _=>#[])).get? a=some (seqObj "list" #[] e1):=⟨_,get?_update_seq ho (fun _=>#[])⟩
 refine wpAny_bind (seqEpoch_at h1 rfl (wpAny_bind (wpAny_newTuple (wpAny_bind (wpAny_newList (wpAny_holding ?_))) (by simp only [List.toList_toArray];rw [sizeLine_eq];lia))))
 generalize e6:((s.heap.update a (Obj.mapSeq fun _=>#[])).push { cls:=.type "tuple",data:=.seq vs.toArray.toList.toArray }).push { cls:=.type "list",data:=.seq ([]:List Value).toArray }=h6
 have k6:∀ b o,b≠a->s.heap.get? b=some o->h6.get? b=some o:=fun b o nb e=>by
  rw [<-e6]
  exact Heap.get?_push_of_some _ (Heap.get?_push_of_some _ ((Heap.get?_update_other _ _ (Ne.symm nb)).trans e))
 have ND:h6.get? a=some (seqObj "list" #[] e1):=by
  rw [<-e6]
  exact Heap.get?_push_of_some _ (Heap.get?_push_of_some _ h1)
 dsimp only
 have fin:∀ (p:Array Nat),POk vs.length p->bG key p vs.length->∀ out:Array Value,out=List.toArray (p.toList.map fun i=>vs.getD i .none)->
   P (.done (.ret .none)) { s with heap:=h6.update a (Obj.mapSeq fun _=>out) }:=fun p hp hs out eo=>by
  subst eo
  exact h p _ hp hs ⟨_,get?_update_seq ND _⟩ fun b o nb e=>(Heap.get?_update_other _ _ (Ne.symm nb)).trans (k6 b o nb e)
 have fits:∀ {out:Array Value} {p:Array Nat},POk vs.length p->out=List.toArray (p.toList.map fun i=>vs.getD i .none)->out.size<=sizeLine + 1:=fun {out p} hp e=>by
  rw [e,List.size_toArray,List.length_map,hp.perm.length_eq,List.length_range,sizeLine_eq]
  lia
 by_cases h2:vs.toArray.size < 2
 ·rw [if_pos h2,if_pos h2]
  refine wpAny_bind (wpAny_pure ?_)
  rw [StateT.run_pure]
  refine wpAny_bind (wpAny_pure ?_)
  dsimp only
  have eo:(arrOf (SortSt.mk' general' (vs.toArray.zip vs.toArray) #[] 7 none)).map (·.2)=List.toArray ((List.toArray (List.range vs.length)).toList.map fun i=>vs.getD i .none):=by
   show (vs.toArray.zip vs.toArray).map (·.2)=_
   apply Array.toList_inj.mp
   simp only [Array.toList_map,Array.toList_zip,List.toList_toArray]
   have a1:(vs.zip vs).map (·.2)=vs:=by
    rw [List.map_snd_zip]
    exact Nat.le_refl _
   rw [a1]
   apply List.ext_getElem?
   intro i
   by_cases hi:i < vs.length
   ·simp [hi]
   ·simp [hi]
  refine wpAny_bind (seqEpoch_at ND rfl (wpAny_bind (listUpdate_at ND rfl ?_ (Nat.zero_le _) (fits (qV _) eo))))
  simp only [bne_self_eq_false,Bool.false_eq_true,if_false]
  refine wpAny_pure (fin _ (qV _) ?_ _ eo)
  intro i j x y
  have:i=j:=by lia
  rw [this]
  exact KeyOrd.kle_refl _
 ·rw [if_neg h2,if_neg h2]
  have Pd:2<=vs.length:=by lia
  refine wpAny_bind (Ib Pd h6 k6 _ ?_)
  refine wpAny_bind (wpAny_mono (kat_run (ks:=vs) (vs:=vs) (Q:=fun HG s'=>∃ p,POk vs.length p/\bG key p vs.length/\arrOf HG=p.map (kas_item (vs.toArray.zip vs.toArray))/\failedOf HG=none/\s'={ s with heap:=h6 })
   (G:=fun p s'=>POk vs.length p/\bG key p vs.length/\s'={ s with heap:=h6 }) rfl Pd J5 (fun p HG s' hz Mo hf hg=>⟨p,hg.1,hg.2.1,Mo,hf,hg.2.2⟩)
   (zb (n:=vs.length) (O:=O) (κ:=key) (Good:=fun s'=>s'={ s with heap:=h6 }) (fun i j hi hj Q s' g k=>?_) (by lia) rfl fun p s' hp g hs=>⟨hp,hs,g⟩)) (fun r s' hq=>?_) fun _ _ e=>e)
  ·subst g
   exact Ky i j hi hj h6 k6 Q (k _ rfl)
  ·obtain ⟨p,hp,hs,Mo,hf,rfl⟩:=hq
   have eo:=kat_snds (ks:=vs) (vs:=vs) rfl Mo
   refine wpAny_bind (seqEpoch_at ND rfl (wpAny_bind (listUpdate_at ND rfl ?_ (Nat.zero_le _) (fits hp eo))))
   rw [hf]
   simp only [bne_self_eq_false,Bool.false_eq_true,if_false]
   exact wpAny_pure (fin p hp hs _ eo)
theorem jL {O:KeyOrd} {key:Nat->O.α} {kd:SortKind} {l:Addr} {vs:List Value} {Q:Value->Shared->Prop} (hl:s.heap.IsList l vs.toArray) (J5:vs.length < 64)
  (Ib:2<=vs.length->∀ (A':Around) (E':Value->Shared->Prop) (h':Heap),(∀ b o,s.heap.get? b=some o->h'.get? b=some o)->∀ Q:SortKind->Shared->Prop,Q kd { s with heap:=h' }->wpAny (model prog w) A' (keyKind' vs.toArray) Q E' { s with heap:=h' })
  (Ky:∀ i j,i < vs.length->j < vs.length->∀ (h':Heap),(∀ b o,s.heap.get? b=some o->h'.get? b=some o)->∀ C:Bool->Shared->Prop,C (O.blt (key i) (key j)) { s with heap:=h' }->kas_ask prog w A.in1.in1 kd vs i j C { s with heap:=h' })
  (h:∀ p h' e,POk vs.length p->bG key p vs.length->h'.get? (s.heap.objs.size + 1)=some (seqObj "list" (List.toArray (p.toList.map fun i=>vs.getD i .none)) e)->(∀ b o,s.heap.get? b=some o->h'.get? b=some o)->Q (.ref (s.heap.objs.size + 1)) { s with heap:=h' }) :
  wpAny (model prog w) A (call (.builtin "sorted") [.ref l]) Q E s:=by
 refine Calls.call_function_entry kind_sorted plain_sorted entry_sorted (args_sorted1 _) ?_
 unfold Builtin.«sorted»
 refine wpAny_bind (m:=checkCount "sorted" 1 1 _) (wpAny_pure (wpAny_bind (collect_list hl (wpAny_bind (wpAny_newList ?_ (by rw [sizeLine_eq];lia))) (by rw [sizeLine_eq];lia))))
 have zz:((s.heap.push (seqObj "list" #[] 0)).update s.heap.objs.size (Obj.mapSeq (·++vs.toArray))).objs.size=s.heap.objs.size + 1:=by rw [Heap.size_update,size_push']
 generalize e5:(s.heap.push (seqObj "list" #[] 0)).update s.heap.objs.size (Obj.mapSeq (·++vs.toArray))=h5 at zz ⊢
 have k5:∀ b o,s.heap.get? b=some o->(h5.push (seqObj "list" vs.toArray 0)).get? b=some o:=fun b o e=>by
  rw [<-e5]
  exact Heap.get?_push_of_some _ ((Heap.get?_update_other _ _ (Ne.symm (Nat.ne_of_lt (Heap.lt_size e)))).trans (Heap.get?_push_of_some _ e))
 have hL:(h5.push (seqObj "list" vs.toArray 0)).get? (s.heap.objs.size + 1)=some (seqObj "list" vs.toArray 0):=by
  rw [<-zz]
  exact Heap.get?_push_size _ rfl
 have ne:∀ b o,s.heap.get? b=some o->b≠s.heap.objs.size + 1:=fun b o e=>Nat.ne_of_lt (Nat.lt_succ_of_lt (Heap.lt_size e))
 show wpAny _ _ _ _ _ { s with heap:=h5.push (seqObj "list" vs.toArray 0) }
 rw [zz]
 refine wpAny_bind (wpAny_holding (wpAny_call_entry slot_list_sort ⟨_,hL,rfl⟩ entry_list_sort (jb (key:=key) (kd:=kd) hL J5 (fun h2 h' kk Q' q=>Ib h2 _ _ h' (fun b o e=>kk b o (ne b o e) (k5 b o e)) Q' q)
  (fun i j hi hj h' kk C q=>Ky i j hi hj h' (fun b o e=>kk b o (ne b o e) (k5 b o e)) C q) fun p h' hp hs ⟨e,he⟩ kk=>⟨_,rfl,?_⟩) (args_list_sort _)))
 exact wpAny_pure ⟨_,rfl,h p h' e hp hs he fun b o q=>kk b o (ne b o q) (k5 b o q)⟩
end
noncomputable def intO:KeyOrd where
 α:=Int
 blt a b:=decide (a < b)
 irrefl a:=by simp
 trans a b c h1 h2:=by simp only [decide_eq_true_eq] at *;lia
 negTrans a b c h:=by simp only [decide_eq_true_eq] at *;lia
 total a b h1 h2:=by simp only [decide_eq_false_iff_not] at *;lia
abbrev EC:KeyOrd:=strKind.toKeyOrd
noncomputable def qW:KeyOrd where
 α:=Key
 blt a b:=match a,b with
  | .inl i,.inl j=>decide (i < j)
  | .inr x,.inr y=>decide (x.cps.toList < y.cps.toList)
  | .inl _,.inr _=>true
  | .inr _,.inl _=>false
 irrefl a:=by
  cases a with
  | inl i=>simp
  | inr x=>simpa using List.lt_irrefl x.cps.toList
 trans a b c h1 h2:=by
  cases a <;> cases b <;> cases c <;> simp_all
  ·lia
  ·exact List.lt_trans h1 h2
 negTrans a b c h:=by
  cases a <;> cases b <;> cases c <;> simp_all
  ·lia
  ·rename_i x y z
   by_cases q:x.cps.toList < y.cps.toList
   ·exact .inl q
   ·exact .inr (List.lt_of_le_of_lt (List.not_lt.mp q) h)
 total a b h1 h2:=by
  cases a <;> cases b <;> simp_all
  ·lia
  ·rename_i x y
   have e:x.cps.toList=y.cps.toList:=List.le_antisymm (by first | exact h2 | exact List.not_lt.mp h2) (by first | exact h1 | exact List.not_lt.mp h1)
   rw [<-oU x,<-oU y,e]
noncomputable def fJ:List Key->List Key->Bool
 | [],[]=>false
 | [],_ :: _=>true
 | _ :: _,[]=>false
 | a :: r,b :: t=>if a=b then fJ r t else qW.blt a b
theorem iP:∀ a:List Key,fJ a a=false
 | []=>rfl
 | a :: r=>by
  show (if a=a then fJ r r else _)=false
  rw [if_pos rfl]
  exact iP r
theorem zd {a b:Key} (h:qW.blt a b=true):a≠b:=by
 rintro rfl
 have:=qW.irrefl a
 rw [h] at this
 cases this
theorem ir:∀ a b c:List Key,fJ a b=true->fJ b c=true->fJ a c=true
 | [],[],_,h,_=>by cases h
 | [],_ :: _,[],_,h=>by cases h
 | [],_ :: _,_ :: _,_,_=>rfl
 | _ :: _,[],_,h,_=>by cases h
 | _ :: _,_ :: _,[],_,h=>by cases h
 | a :: r,b :: t,c :: u,h1,h2=>by
  have h1:(if a=b then fJ r t else qW.blt a b)=true:=h1
  have h2:(if b=c then fJ t u else qW.blt b c)=true:=h2
  show (if a=c then fJ r u else qW.blt a c)=true
  by_cases e1:a=b
  ·by_cases e2:b=c
   ·rw [if_pos e1] at h1
    rw [if_pos e2] at h2
    rw [if_pos (e1.trans e2)]
    exact ir r t u h1 h2
   ·rw [if_neg e2] at h2
    rw [e1,if_neg e2]
    exact h2
  ·rw [if_neg e1] at h1
   by_cases e2:b=c
   ·rw [<-e2,if_neg e1]
    exact h1
   ·rw [if_neg e2] at h2
    have h3:=qW.trans a b c h1 h2
    rw [if_neg (zd h3)]
    exact h3
theorem iu:∀ a b:List Key,fJ a b=false->fJ b a=false->a=b
 | [],[],_,_=>rfl
 | [],_ :: _,h,_=>by cases h
 | _ :: _,[],_,h=>by cases h
 | a :: r,b :: t,h1,h2=>by
  have h1:(if a=b then fJ r t else qW.blt a b)=false:=h1
  have h2:(if b=a then fJ t r else qW.blt b a)=false:=h2
  by_cases e:a=b
  ·rw [if_pos e] at h1
   rw [if_pos e.symm] at h2
   rw [e,iu r t h1 h2]
  ·rw [if_neg e] at h1
   rw [if_neg (Ne.symm e)] at h2
   exact absurd (qW.total a b h1 h2) e
theorem wZ (a b c:List Key) (h:fJ a c=true):fJ a b=true\/fJ b c=true:=by
 cases e:fJ a b with
 | true=>exact .inl rfl
 | false=>
  refine .inr ?_
  cases e2:fJ b a with
  | true=>exact ir b a c e2 h
  | false=>
   rw [<-iu a b e e2]
   exact h
noncomputable def Dk:KeyOrd where
 α:=List Key
 blt:=fJ
 irrefl:=iP
 trans:=ir
 negTrans:=wZ
 total:=iu
section
variable {O:KeyOrd}
noncomputable def sS (p:Array Nat) (xs:List V):List V:=p.toList.map fun i=>xs.getD i .non
theorem ml {α:Type} (xs:List α) (d:α):((List.range xs.length).map fun i=>xs.getD i d)=xs:=by
 apply List.ext_getElem?
 intro i
 by_cases hi:i < xs.length
 ·simp [hi]
 ·simp [hi]
theorem kF {α:Type} {p:Array Nat} {xs:List α} (d:α) (hp:POk xs.length p):(p.toList.map fun i=>xs.getD i d).Perm xs:=by
 have:=hp.perm.map (fun i=>xs.getD i d)
 rwa [ml] at this
theorem iw {α:Type} {p:Array Nat} {xs:List α} (d:α) (key:α->O.α) (hp:POk xs.length p) (hs:bG (O:=O) (fun i=>key (xs.getD i d)) p xs.length):(p.toList.map fun i=>xs.getD i d).Pairwise fun a b=>O.kle (key a) (key b):=by
 rw [List.pairwise_iff_getElem]
 intro i j hi hj K3
 have hsz:=hp.size
 have K2:i < p.size:=by simpa using hi
 have Mp:j < p.size:=by simpa using hj
 have h:=hs i j (Nat.le_of_lt K3) (by lia)
 unfold kk at h
 simp only [List.getElem_map,Array.getElem_toList]
 have e1:p.getD i 0=p[i]:=by simp [Array.getD,K2]
 have e2:p.getD j 0=p[j]:=by simp [Array.getD,Mp]
 rw [e1,e2] at h
 exact h
theorem vals_pick {xs:List V} {us:List Value} (r:Vals xs us):∀ l:List Nat,(∀ i∈l,i < xs.length)->Vals (l.map fun i=>xs.getD i .non) (l.map fun i=>us.getD i .none)
 | [],_=>.nil
 | i :: l,h=>by
  refine .cons ?_ (vals_pick r l fun j hj=>h j (List.mem_cons_of_mem _ hj))
  have hi:=h i List.mem_cons_self
  have e1:xs[i]?=some (xs.getD i .non):=by rw [bB _ _ _ hi];exact List.getElem?_eq_getElem hi
  obtain ⟨u,hu,ru⟩:=r.get e1
  have e2:us.getD i .none=u:=by rw [List.getD_eq_getElem?_getD,hu];rfl
  show L2.RelV (xs.getD i .non) (us.getD i .none)
  rw [e2]
  exact ru
theorem kG {xs:List V} {us:List Value} {p:Array Nat} (r:Vals xs us) (hp:POk xs.length p):Vals (sS p xs) (p.toList.map fun i=>us.getD i .none):=
 vals_pick r _ fun i hi=>List.mem_range.mp (hp.perm.mem_iff.mp hi)
end
section
variable {X:Cx}
theorem jc {pins:List (Addr×Obj)} {s:Shared} {σ:L2.St} {H:Hp} {h':Heap} {ys:List V} {us:List Value} {e:Nat} {D:Addr} (I:Inv X pins σ H s) (kk:∀ b o,s.heap.get? b=some o->h'.get? b=some o) (hD:s.heap.objs.size<=D)
  (ho:h'.get? D=some (seqObj "list" (List.toArray us) e)) (r:Vals ys us) (hz:ys.length<=sizeLine):Inv X pins σ (upd H D (.lst ys)) { s with heap:=h' }:=
 I.laid (t':=s.toks) kk hD ⟨hz,us,e,r,ho⟩
theorem ku (hc:X.calm=true):dP X (.builtin "sorted") (fun vs H Q=>∃ (p:Addr) (ns:List Int),vs=[.ref p]/\SqL X.K H p (ns.map V.int)/\ns.length < 64/\∀ (D:Addr) (ms:List Int),H D=none->ms.Perm ns->ms.Pairwise (·<=·)->Q (.ref D) (upd H D (.lst (ms.map V.int)))):=by
 intro pins s σ H vs us Q I r h
 obtain ⟨p,ns,rfl,hp,J5,q⟩:=h
 obtain ⟨u,rfl,r1⟩:=e8 r
 cases r1
 obtain ⟨ws,rv,pl,hz⟩:=I.list hp
 have hl:=rv.length
 rw [List.length_map] at hl
 have isI:∀ v∈ws,∃ n t,v=.int n t:=fun v hv=>by
  obtain ⟨i,hi⟩:=List.mem_iff_getElem?.mp hv
  obtain ⟨t,e⟩:=eF rv hi
  exact ⟨_,t,e⟩
 refine jL (O:=intO) (key:=fun i=>ns.getD i 0) (kd:=oneType') pl.isList (by lia) (fun h2 A' E' h' kk Q' q'=>?_) (fun i j hi hj h' kk C q'=>?_) fun pp h' e HF hs he kk=>?_
 ·refine kas_kind h2 (T:=.type "int") (fun v hv=>?_) (by decide) (by decide) q'
  obtain ⟨n,t,rfl⟩:=isI v hv
  exact fun A Q E s _ q=>wpAny_typeOf (typeIs_int s n t) q
 ·unfold kas_ask
  have e1:ws[i]?=some (ws.getD i .none):=by rw [bB _ _ _ hi];exact List.getElem?_eq_getElem hi
  have e2:ws[j]?=some (ws.getD j .none):=by rw [bB _ _ _ hj];exact List.getElem?_eq_getElem hj
  obtain ⟨t,Pe⟩:=eF rv e1
  obtain ⟨t',Pf⟩:=eF rv e2
  rw [Pe,Pf]
  exact kat_lt_int q'
 ·rw [<-hl] at HF hs
  have Mq:POk (ns.map V.int).length pp:=by rw [List.length_map];exact HF
  have eo:sS pp (ns.map V.int)=(pp.toList.map fun i=>ns.getD i 0).map V.int:=by
   unfold sS
   rw [List.map_map]
   refine List.map_congr_left fun i hi=>?_
   have hi:=List.mem_range.mp (HF.perm.mem_iff.mp hi)
   show (ns.map V.int).getD i .non=V.int (ns.getD i 0)
   rw [bB _ _ _ (by rw [List.length_map];exact hi),bB _ _ _ hi]
   simp
  have hn:H (s.heap.objs.size + 1)=none:=I.hok.fresh (Nat.le_succ _)
  refine ⟨.ref (s.heap.objs.size + 1),_,jc I kk (Nat.le_succ _) he (kG rv Mq) ?_,rfl,?_⟩
  ·show (sS pp (ns.map V.int)).length<=sizeLine
   rw [eo,List.length_map,List.length_map,HF.perm.length_eq,List.length_range,sizeLine_eq]
   lia
  ·rw [eo]
   refine q _ _ hn (kF 0 HF) ?_
   have:=iw (O:=intO) 0 (fun i:Int=>i) HF hs
   refine this.imp fun {a b} Mr=>?_
   have Mr:decide (b < a)=false:=Mr
   have:=of_decide_eq_false Mr
   lia
theorem qc {ls:List (List Nat)} {us:List Value} (r:Vals (ls.map fun l=>V.str (S l)) us) {i:Nat} {v:Value} (h:us[i]?=some v):∃ t,v=.str (S (ls.getD i [])) t:=by
 have hl:=r.length
 rw [List.length_map] at hl
 obtain ⟨hi,_⟩:=List.getElem?_eq_some_iff.mp h
 have e1:(ls.map fun l=>V.str (S l))[i]?=some (.str (S (ls.getD i []))):=by
  rw [List.getElem?_map,List.getElem?_eq_getElem (by lia),bB _ _ _ (by lia)]
  rfl
 obtain ⟨u,hu,t,rfl⟩:=r.get e1
 rw [h] at hu
 exact ⟨t,Option.some.inj hu⟩
theorem kx (hc:X.calm=true):dP X (.builtin "sorted") (fun vs H Q=>∃ (p:Addr) (ls:List (List Nat)),vs=[.ref p]/\SqL X.K H p (ls.map fun l=>V.str (S l))/\ls.length < 64/\∀ (D:Addr) (ms:List (List Nat)),H D=none->ms.Perm ls->ms.Pairwise (fun a b=>¬ b < a)->Q (.ref D) (upd H D (.lst (ms.map fun l=>V.str (S l))))):=by
 intro pins s σ H vs us Q I r h
 obtain ⟨p,ls,rfl,hp,J5,q⟩:=h
 obtain ⟨u,rfl,r1⟩:=e8 r
 cases r1
 obtain ⟨ws,rv,pl,hz⟩:=I.list hp
 have hl:=rv.length
 rw [List.length_map] at hl
 refine jL (O:=EC) (key:=fun i=>ls.getD i []) (kd:=oneType') pl.isList (by lia) (fun h2 A' E' h' kk Q' q'=>?_) (fun i j hi hj h' kk C q'=>?_) fun pp h' e HF hs he kk=>?_
 ·refine kas_kind h2 (T:=.type "str") (fun v hv=>?_) (by decide) (by decide) q'
  obtain ⟨i,hi⟩:=List.mem_iff_getElem?.mp hv
  obtain ⟨t,rfl⟩:=qc rv hi
  exact fun A Q E s _ q=>wpAny_typeOf (typeIs_str s _ t) q
 ·unfold kas_ask
  have e1:ws[i]?=some (ws.getD i .none):=by rw [bB _ _ _ hi];exact List.getElem?_eq_getElem hi
  have e2:ws[j]?=some (ws.getD j .none):=by rw [bB _ _ _ hj];exact List.getElem?_eq_getElem hj
  obtain ⟨t,Pe⟩:=qc rv e1
  obtain ⟨t',Pf⟩:=qc rv e2
  rw [Pe,Pf]
  refine kas_lt_str ?_
  rw [fe,fe]
  exact q'
 ·rw [<-hl] at HF hs
  have Mq:POk (ls.map fun l=>V.str (S l)).length pp:=by rw [List.length_map];exact HF
  have eo:sS pp (ls.map fun l=>V.str (S l))=(pp.toList.map fun i=>ls.getD i []).map fun l=>V.str (S l):=by
   unfold sS
   rw [List.map_map]
   refine List.map_congr_left fun i hi=>?_
   have hi:=List.mem_range.mp (HF.perm.mem_iff.mp hi)
   show (ls.map fun l=>V.str (S l)).getD i .non=V.str (S (ls.getD i []))
   rw [bB _ _ _ (by rw [List.length_map];exact hi),bB _ _ _ hi]
   simp
  have hn:H (s.heap.objs.size + 1)=none:=I.hok.fresh (Nat.le_succ _)
  refine ⟨.ref (s.heap.objs.size + 1),_,jc I kk (Nat.le_succ _) he (kG rv Mq) ?_,rfl,?_⟩
  ·show (sS pp (ls.map fun l=>V.str (S l))).length<=sizeLine
   rw [eo,List.length_map,List.length_map,HF.perm.length_eq,List.length_range,sizeLine_eq]
   lia
  ·rw [eo]
   refine q _ _ hn (kF [] HF) ?_
   have:=iw (O:=EC) [] (fun l:List Nat=>l) HF hs
   refine this.imp fun {a b} Mr=>?_
   have Mr:decide (b < a)=false:=Mr
   exact of_decide_eq_false Mr
end
noncomputable def kinds (k:List Key):List Bool:=k.map fun x=>x.isLeft
section
variable {prog:Program} {w:World} {A:Around} {s:Shared}
theorem uF (a b:Key):OX (kV a) (kV b)=decide (a=b):=by
 cases a <;> cases b <;> (rw [Bool.eq_iff_iff];simp [kV,OX])
theorem kH (a:Key):wM (kV a)=true:=by cases a <;> rfl
theorem BJ {a b:Key} {u v:Value} {top:Bool} {Q:Bool->Shared->Prop} (ra:L2.RelV (kV a) u) (rb:L2.RelV (kV b) v) (hk:a.isLeft=b.isLeft) (q:Q (qW.blt a b) s):wpAny (model prog w) A (oneLt' top u v) Q (fun _ _=>False) s:=by
 cases a with
 | inl i=>
  cases b with
  | inr _=>cases hk
  | inl j=>
   obtain ⟨t,rfl⟩:=ra
   obtain ⟨t',rfl⟩:=rb
   cases top with
   | true=>exact kat_lt_int (E:=fun _ _=>False) q
   | false=>exact kat_one _ _ (lt_int q)
 | inr x=>
  cases b with
  | inl _=>cases hk
  | inr y=>
   obtain ⟨t,rfl⟩:=ra
   obtain ⟨t',rfl⟩:=rb
   cases top with
   | true=>exact oneLt_str q
   | false=>exact kat_one _ _ (lt_str q)
theorem kY {Q:Bool->Shared->Prop}:∀ (k1 k2:List Key) (us ws:List Value) (i:Nat),Vals (k1.map kV) us->Vals (k2.map kV) ws->kinds k1=kinds k2->Q (fJ k1 k2) s->KatLex prog w A true false Q (us.zip ws) i s
 | [],[],_,_,_,.nil,.nil,_,q=>q
 | [],_ :: _,_,_,_,_,_,h,_=>by cases h
 | _ :: _,[],_,_,_,_,_,h,_=>by cases h
 | a :: r,b :: t,u :: us,v :: ws,i,.cons ru rus,.cons rv rvs,h,q=>by
  have h1:a.isLeft=b.isLeft:=(List.cons.inj h).1
  have h2:kinds r=kinds t:=(List.cons.inj h).2
  have q:Q (if a=b then fJ r t else qW.blt a b) s:=q
  refine kat_cons (xT (A:=A) (s:=s) ru rv (kH a) (kH b) prog w _ _ ?_)
  rw [uF]
  by_cases e:a=b
  ·rw [if_pos e] at q
   rw [decide_eq_true e]
   exact kat_yes (kY r t us ws (i + 1) rus rvs h2 q)
  ·rw [if_neg e] at q
   rw [decide_eq_false e]
   exact kat_no (BJ ru rv h1 q)
end
section
variable {X:Cx} {pins:List (Addr×Obj)} {σ:L2.St} {H:Hp} {s:Shared}
theorem o5 (I:Inv X pins σ H s) {a:Addr} {xs:List V} (h:SqT X.K H a xs):∃ (us:List Value) (o:Obj) (n:Nat),Vals xs us/\s.heap.get? a=some o/\o.cls=.type "tuple"/\o.data=.seq us.toArray n:=by
 obtain ⟨us,r,pl,_⟩:=I.tuple h
 obtain ⟨o,ho,oc,n,od⟩:=pl
 exact ⟨us,o,n,r,ho,oc,od⟩
theorem nt {al:List (Addr×List Key)} {us:List Value} (r:Vals (al.map fun a=>V.ref a.1) us) {i:Nat} (h:i < al.length):us.getD i .none=.ref (al.getD i (0,[])).1:=by
 have e1:(al.map fun a=>V.ref a.1)[i]?=some (.ref (al.getD i (0,[])).1):=by
  rw [List.getElem?_map,List.getElem?_eq_getElem h,bB _ _ _ h]
  rfl
 obtain ⟨u,hu,ru⟩:=r.get e1
 rw [List.getD_eq_getElem?_getD,hu]
 exact ru
theorem qX {al:List (Addr×List Key)} {us:List Value} {h':Heap} (I:Inv X pins σ H s) (kk:∀ b o,s.heap.get? b=some o->h'.get? b=some o) (top:Bool) :
  (r:Vals (al.map fun a=>V.ref a.1) us)->(∀ a∈al,SqT X.K H a.1 (a.2.map kV)/\∃ t,kinds a.2=top :: t)->∃ fs:List Value,KatTups h' us fs/\fs.length=al.length/\∀ v∈fs,∀ M:Model,Looks M h' (typeOf v) (.type (if top then "int" else "str")):=by
 induction al generalizing us with
 | nil=>
  intro r _
  cases r
  exact ⟨[],trivial,rfl,fun v hv=>by cases hv⟩
 | cons a al ih=>
  intro r h
  cases r with
  | cons ra rs=>
   cases ra
   obtain ⟨fs,t1,t2,t3⟩:=ih rs fun b hb=>h b (List.mem_cons_of_mem _ hb)
   obtain ⟨ha,kt,hk⟩:=h a List.mem_cons_self
   obtain ⟨ws,o,n,rv,ho,oc,od⟩:=o5 I ha
   cases e2:a.2 with
   | nil=>rw [e2] at hk;cases hk
   | cons k ks=>
    rw [e2] at rv hk
    have P7:k.isLeft=top:=(List.cons.inj hk).1
    cases rv with
    | @cons _ f _ fr rf rfs=>
     refine ⟨f :: fs,KatTups.cons (kk _ _ ho) oc od (by simp) t1,by simp [t2],fun v hv M=>?_⟩
     rcases List.mem_cons.mp hv with rfl | hv
     ·cases k with
      | inl i=>
       obtain ⟨t,rfl⟩:=rf
       have:top=true:=P7.symm
       subst this
       exact fun A Q E s _ q=>wpAny_typeOf (typeIs_int s _ t) q
      | inr x=>
       obtain ⟨t,rfl⟩:=rf
       have:top=false:=P7.symm
       subst this
       exact fun A Q E s _ q=>wpAny_typeOf (typeIs_str s _ t) q
     ·exact t3 v hv M
end
section
variable {X:Cx}
theorem ky (hc:X.calm=true):dP X (.builtin "sorted") (fun vs H Q=>∃ (p:Addr) (al:List (Addr×List Key)) (top:Bool) (t:List Bool),vs=[.ref p]/\SqL X.K H p (al.map fun a=>V.ref a.1)/\(∀ a∈al,SqT X.K H a.1 (a.2.map kV)/\kinds a.2=top :: t)/\al.length < 64/\
  ∀ (D:Addr) (ms:List (Addr×List Key)),H D=none->ms.Perm al->ms.Pairwise (fun a b=>fJ b.2 a.2=false)->Q (.ref D) (upd H D (.lst (ms.map fun a=>V.ref a.1)))):=by
 intro pins s σ H vs us Q I r h
 obtain ⟨p,al,top,kt,rfl,hp,HX,J5,q⟩:=h
 obtain ⟨u,rfl,r1⟩:=e8 r
 cases r1
 obtain ⟨ws,rv,pl,hz⟩:=I.list hp
 have hl:=rv.length
 rw [List.length_map] at hl
 refine jL (O:=Dk) (key:=fun i=>(al.getD i (0,[])).2) (kd:=tuples' true) pl.isList (by lia) (fun h2 A' E' h' kk Q' q'=>?_) (fun i j hi hj h' kk C q'=>?_) fun pp h' e HF hs he kk=>?_
 ·obtain ⟨fs,t1,t2,t3⟩:=qX I kk top rv fun a ha=>⟨(HX a ha).1,kt,(HX a ha).2⟩
  refine kat_kind (T:=.type (if top then "int" else "str")) t1 (by lia) (fun v hv=>t3 v hv _) (by simp) ?_
  have:((Value.type (if top then "int" else "str")) != Value.type "tuple")=true:=by cases top <;> decide
  rw [this]
  exact q'
 ·unfold kas_ask
  have K2:i < al.length:=by lia
  have Mp:j < al.length:=by lia
  rw [nt rv K2,nt rv Mp]
  have mi:al.getD i (0,[])∈al:=by rw [bB _ _ _ K2];exact List.getElem_mem _
  have mj:al.getD j (0,[])∈al:=by rw [bB _ _ _ Mp];exact List.getElem_mem _
  obtain ⟨u1,o1,n1,r1,g1,_,d1⟩:=o5 I (HX _ mi).1
  obtain ⟨u2,o2,n2,r2,g2,_,d2⟩:=o5 I (HX _ mj).1
  have ek:kinds (al.getD i (0,[])).2=kinds (al.getD j (0,[])).2:=by rw [(HX _ mi).2,(HX _ mj).2]
  have el:u1.length=u2.length:=by
   have a1:=r1.length
   have a2:=r2.length
   have a3:=congrArg List.length ek
   simp only [kinds,List.length_map] at a1 a2 a3
   lia
  refine kat_lt (kk _ _ g1) d1 (kk _ _ g2) d2 ?_
  have ef:decide (u1.toArray.size < u2.toArray.size)=false:=by simp [el]
  rw [ef]
  exact kY _ _ _ _ 0 r1 r2 ek q'
 ·rw [<-hl] at HF hs
  have Mq:POk (al.map fun a=>V.ref a.1).length pp:=by rw [List.length_map];exact HF
  have eo:sS pp (al.map fun a=>V.ref a.1)=(pp.toList.map fun i=>al.getD i (0,[])).map fun a=>V.ref a.1:=by
   unfold sS
   rw [List.map_map]
   refine List.map_congr_left fun i hi=>?_
   have hi:=List.mem_range.mp (HF.perm.mem_iff.mp hi)
   show (al.map fun a=>V.ref a.1).getD i .non=V.ref (al.getD i (0,[])).1
   rw [bB _ _ _ (by rw [List.length_map];exact hi),bB _ _ _ hi]
   simp
  have hn:H (s.heap.objs.size + 1)=none:=I.hok.fresh (Nat.le_succ _)
  refine ⟨.ref (s.heap.objs.size + 1),_,jc I kk (Nat.le_succ _) he (kG rv Mq) ?_,rfl,?_⟩
  ·show (sS pp (al.map fun a=>V.ref a.1)).length<=sizeLine
   rw [eo,List.length_map,List.length_map,HF.perm.length_eq,List.length_range,sizeLine_eq]
   lia
  ·rw [eo]
   refine q _ _ hn (kF (0,[]) HF) ?_
   exact iw (O:=Dk) (0,[]) (fun a:Addr×List Key=>a.2) HF hs
end
end NX
namespace L2
open PySem PySem.Spec PyProof.Rows
section
variable {κ:Type} [DecidableEq κ]
noncomputable def o6 (FF:List (κ×V)) (k:κ):Option V:=(FF.find? fun kv=>decide (kv.1=k)).map (·.2)
noncomputable def kz (FF:List (κ×V)) (k:κ) (v:V):List (κ×V):=
 if (FF.any fun kv=>decide (kv.1=k))=true then FF.map (fun kv=>if kv.1=k then (kv.1,v) else kv) else FF++[(k,v)]
theorem nu {p:κ×V} {r:List (κ×V)} {k:κ} (e:p.1=k):o6 (p :: r) k=some p.2:=by simp [o6,List.find?_cons,e]
theorem nv {p:κ×V} {r:List (κ×V)} {k:κ} (e:¬ p.1=k):o6 (p :: r) k=o6 r k:=by simp [o6,List.find?_cons,e]
theorem qY (k:κ):∀ FF:List (κ×V),(FF.any fun kv=>decide (kv.1=k))=(o6 FF k).isSome
 | []=>rfl
 | p :: r=>by
  rw [List.any_cons]
  by_cases e:p.1=k
  ·simp only [nu e,decide_eq_true e,Bool.true_or,Option.isSome_some]
  ·rw [nv e,decide_eq_false e,Bool.false_or];exact qY k r
theorem iQ (FF:List (κ×V)) (k:κ) (v:V):(kz FF k v).length<=FF.length + 1:=by
 unfold kz
 split
 ·rw [List.length_map];lia
 ·rw [List.length_append,List.length_cons,List.length_nil];lia
theorem RelO.isSome_eq {o:Option V} {u:Option Value} (r:RelO o u):o.isSome=u.isSome:=by
 cases o with
 | none=>cases u with
  | none=>rfl
  | some _=>exact (show False from r).elim
 | some _=>cases u with
  | none=>exact (show False from r).elim
  | some _=>rfl
theorem KV.val {FF:List (κ×V)} {vs:List (κ×Value)} (r:KV FF vs) (k:κ):RelO (o6 FF k) (valueAt vs k):=by
 unfold KV at r
 induction r with
 | nil=>exact True.intro
 | @cons p q ps qs h t ih=>
  obtain ⟨h1,h2⟩:=h
  by_cases e:p.1=k
  ·have e':q.1=k:=h1.symm.trans e
   have b:valueAt (q :: qs) k=some q.2:=by simp [valueAt,List.find?_cons,e']
   rw [nu e,b];exact h2
  ·have e':¬ q.1=k:=fun z=>e (h1.trans z)
   have b:valueAt (q :: qs) k=valueAt qs k:=by simp [valueAt,List.find?_cons,e']
   rw [nv e,b];exact ih
theorem KV.any {FF:List (κ×V)} {vs:List (κ×Value)} (r:KV FF vs) (k:κ):(FF.any fun kv=>decide (kv.1=k))=vs.any fun kv=>decide (kv.1=k):=by
 unfold KV at r
 induction r with
 | nil=>rfl
 | cons h t ih=>rw [List.any_cons,List.any_cons,ih,h.1]
theorem KV.repl {FF:List (κ×V)} {vs:List (κ×Value)} (r:KV FF vs) (k:κ) {y:V} {u:Value} (ry:RelV y u) :
  KV (FF.map fun kv=>if kv.1=k then (kv.1,y) else kv) (vs.map fun kv=>if kv.1=k then (kv.1,u) else kv):=by
 unfold KV at r ⊢
 induction r with
 | nil=>exact .nil
 | @cons p q ps qs h t ih=>
  rw [List.map_cons,List.map_cons]
  refine .cons ?_ ih
  obtain ⟨h1,h2⟩:=h
  by_cases e:p.1=k
  ·rw [if_pos e,if_pos (h1.symm.trans e)];exact ⟨h1,ry⟩
  ·rw [if_neg e,if_neg (fun z=>e (h1.trans z))];exact ⟨h1,h2⟩
theorem KV.put {FF:List (κ×V)} {vs:List (κ×Value)} (r:KV FF vs) (k:κ) {y:V} {u:Value} (ry:RelV y u):KV (kz FF k y) (stored vs k u):=by
 unfold kz stored
 rw [r.any k]
 by_cases e:(vs.any fun kv=>decide (kv.1=k))=true
 ·rw [if_pos e,if_pos e];exact r.repl k ry
 ·rw [if_neg e,if_neg e];exact Paired.snoc r ⟨rfl,ry⟩
theorem KV.length {FF:List (κ×V)} {vs:List (κ×Value)} (r:KV FF vs):FF.length=vs.length:=Paired.length r
end
theorem kV_is {P:Program} {w:World} {k:Key} {u:Value} (r:RelV (kV k) u):(mixKind P w).is k u=true:=by
 cases k with
 | inl i=>obtain ⟨t,e⟩:=(show ∃ t,u=Value.int i t from r);subst e;exact p6 P w i t
 | inr x=>obtain ⟨t,e⟩:=(show ∃ t,u=Value.str x t from r);subst e;exact p7 P w x t
theorem o7 {P:Program} {w:World}:∀ {ks:List Key} {us:List Value},Vals (ks.map kV) us->ItemsAre (mixKind P w) ks us
 | [],_,r=>by rw [List.map_nil] at r;cases r;exact .nil
 | k :: ks,_,r=>by
  rw [List.map_cons] at r
  cases r with
  | cons h t=>exact .cons (kV_is h) (o7 t)
abbrev KT (H:Hp):List (List Key×V)->List (List Key×Addr×Value)->Prop:=Paired fun p q=>p.1=q.1/\H q.2.1=some (.tup (p.1.map kV))/\RelV p.2 q.2.2
theorem KT.val {H:Hp} {FF:List (List Key×V)} {xs:List (List Key×Addr×Value)} (r:KT H FF xs) (k:List Key):RelO (o6 FF k) ((atKey xs k).map (·.2)):=by
 induction r with
 | nil=>exact True.intro
 | @cons p q ps qs h t ih=>
  obtain ⟨h1,_,h2⟩:=h
  by_cases e:p.1=k
  ·have e':q.1=k:=h1.symm.trans e
   have b:atKey (q :: qs) k=some q.2:=by simp [atKey,List.find?_cons,e']
   rw [nu e,b];exact h2
  ·have e':¬ q.1=k:=fun z=>e (h1.trans z)
   have b:atKey (q :: qs) k=atKey qs k:=by simp [atKey,List.find?_cons,e']
   rw [nv e,b];exact ih
theorem KT.repl {H:Hp} {FF:List (List Key×V)} {xs:List (List Key×Addr×Value)} (r:KT H FF xs) (k:List Key) {y:V} {u:Value} (ry:RelV y u) :
  KT H (FF.map fun kv=>if kv.1=k then (kv.1,y) else kv) (xs.map (putAt k u)):=by
 induction r with
 | nil=>exact .nil
 | @cons p q ps qs h t ih=>
  rw [List.map_cons,List.map_cons]
  refine .cons ?_ ih
  obtain ⟨h1,h2,h3⟩:=h
  unfold putAt
  by_cases e:p.1=k
  ·rw [if_pos e,if_pos (h1.symm.trans e)];exact ⟨h1,h2,ry⟩
  ·rw [if_neg e,if_neg (fun z=>e (h1.trans z))];exact ⟨h1,h2,h3⟩
theorem KT.put {H:Hp} {FF:List (List Key×V)} {xs:List (List Key×Addr×Value)} (r:KT H FF xs) (k:List Key) {b:Addr} {y:V} {u:Value} (hb:H b=some (.tup (k.map kV))) (ry:RelV y u) :
  KT H (kz FF k y) (storedH xs k b u):=by
 have e:(FF.any fun kv=>decide (kv.1=k))=(atKey xs k).isSome:=by
  rw [qY,(r.val k).isSome_eq,Option.isSome_map]
 unfold kz storedH
 rw [e]
 by_cases q:(atKey xs k).isSome=true
 ·rw [if_pos q,if_pos q];exact r.repl k ry
 ·rw [if_neg q,if_neg q];exact Paired.snoc r ⟨rfl,hb,ry⟩
theorem KT.keeps {H H':Hp} {FF:List (List Key×V)} {xs:List (List Key×Addr×Value)} (r:KT H FF xs) (ht:∀ b ys,H b=some (.tup ys)->H' b=some (.tup ys)):KT H' FF xs:=
 Paired.mapP r fun _ _ z=>⟨z.1,ht _ _ z.2.1,z.2.2⟩
section
variable {P:Program} {w:World} {H:Hp} {h:Heap} {a:Addr}
theorem BK {u:HO} (ok:HOk P w H h) (e:Rd H a u):ObjOk P w H h a u:=e.ok ok
theorem uG {FF:List (Key×V)} (ok:HOk P w H h) (e:Rd H a (.dK FF)):FF.length<=sizeLine/\(a == sysModules)=false/\∃ vs,KV FF vs/\h.DictOf (mixKind P w) a vs:=
 show ObjOk P w H h a (.dK FF) from BK ok e
theorem BL {FF:List (Key×V)} (ok:HOk P w H h) (e:H a=some (.dK FF)):FF.length<=sizeLine/\(a == sysModules)=false/\∃ vs,KV FF vs/\h.DictOf (mixKind P w) a vs:=uG ok (.inl e)
theorem o8 {ks:List Key} (ok:HOk P w H h) (e:H a=some (.tup (ks.map kV))):(tupleKind (mixKind P w)).is h ks a:=by
 obtain ⟨_,FH,r,o,h1,h2,⟨n,h3⟩,_⟩:=(show ObjOk P w H h a (.tup (ks.map kV)) from ok a _ e)
 exact ⟨o,FH.toArray,n,h1,h2,h3,by simpa using o7 r⟩
theorem uH {FF:List (List Key×V)} (ok:HOk P w H h) (e:Rd H a (.dT FF)):FF.length<=sizeLine/\(a == sysModules)=false/\
  ∃ xs,KT H FF xs/\h.DictOfH (tupleKind (mixKind P w)) a xs:=by
 obtain ⟨z,y,xs,r,o,es,ep,h1,h2,h3,h4,h5⟩:=(show ObjOk P w H h a (.dT FF) from BK ok e)
 refine ⟨z,y,xs,r,o,es,ep,h1,h2,h3,h4,fun x hx=>?_,h5⟩
 have all:∀ {l:List (List Key×V)} {m:List (List Key×Addr×Value)},KT H l m->∀ x∈m,(tupleKind (mixKind P w)).is h x.1 x.2.1:=by
  intro l m q
  induction q with
  | nil=>intro x hx;exact nomatch hx
  | @cons p q ps qs hq t ih=>
   intro x hx
   rcases List.mem_cons.mp hx with e | hx
   ·subst e
    exact o8 ok (by rw [<-hq.1];exact hq.2.1)
   ·exact ih x hx
 exact all r x hx
theorem DS {FF:List (List Key×V)} (ok:HOk P w H h) (e:H a=some (.dT FF)):FF.length<=sizeLine/\(a == sysModules)=false/\
  ∃ xs,KT H FF xs/\h.DictOfH (tupleKind (mixKind P w)) a xs:=uH ok (.inl e)
end
def DGet (H:Hp) (a:Addr) (y:V) (r:Option V):Prop:=
 (∃ FF k,Rd H a (.dK FF)/\y=kV k/\r=o6 FF k)\/∃ FF k b,Rd H a (.dT FF)/\y=.ref b/\H b=some (.tup (k.map kV))/\r=o6 FF k
def DPut (H:Hp) (a:Addr) (y v:V) (H':Hp):Prop:=
 (∃ FF k,H a=some (.dK FF)/\y=kV k/\FF.length < sizeLine/\H'=upd H a (.dK (kz FF k v)))\/
 ∃ FF k b,H a=some (.dT FF)/\y=.ref b/\H b=some (.tup (k.map kV))/\FF.length < sizeLine/\H'=upd H a (.dT (kz FF k v))
theorem DGet.k {H:Hp} {a:Addr} {FF:List (Key×V)} {k:Key} (e:H a=some (.dK FF)):DGet H a (kV k) (o6 FF k):=.inl ⟨FF,k,.inl e,rfl,rfl⟩
theorem DGet.t {H:Hp} {a b:Addr} {FF:List (List Key×V)} {k:List Key} (e:H a=some (.dT FF)) (eb:H b=some (.tup (k.map kV))):DGet H a (.ref b) (o6 FF k):=.inr ⟨FF,k,b,.inl e,rfl,eb,rfl⟩
theorem DPut.k {H:Hp} {a:Addr} {FF:List (Key×V)} {k:Key} {v:V} (e:H a=some (.dK FF)) (hl:FF.length < sizeLine):DPut H a (kV k) v (upd H a (.dK (kz FF k v))):=.inl ⟨FF,k,e,rfl,hl,rfl⟩
theorem DPut.t {H:Hp} {a b:Addr} {FF:List (List Key×V)} {k:List Key} {v:V} (e:H a=some (.dT FF)) (eb:H b=some (.tup (k.map kV))) (hl:FF.length < sizeLine) :
  DPut H a (.ref b) v (upd H a (.dT (kz FF k v))):=.inr ⟨FF,k,b,e,rfl,eb,hl,rfl⟩
section
variable {X:Cx} {pins:List (Addr×Obj)} {σ:St} {H:Hp} {s:Shared} {a:Addr} {y v:V} {u r:Value} {o:Option V} {A:Around} {E:Value->Shared->Prop}
theorem Inv.big (I:Inv X pins σ H s):sysModules < s.heap.objs.size:=by
 have h:mainGlobals < s.heap.objs.size:=(I.mod.glob.keeps I.bk).lt
 exact Nat.lt_trans (by decide) h
theorem uI {Q:Value->Shared->Prop} (hu:A.units + 1 < cLine) (I:Inv X pins σ H s) (g:DGet H a y (some v)) (ry:RelV y u) (h:∀ w' s',Inv X pins σ H s'->RelV v w'->Q w' s') :
  wpAny (model X.prog X.w) A (getItem (.ref a) u) Q E s:=by
 rcases g with ⟨FF,k,e,ey,l⟩ | ⟨FF,k,b,e,ey,eb,l⟩
 ·subst ey
  obtain ⟨z,hd,vs,rel,dd⟩:=uG I.hok e
  obtain ⟨w',hw,J3⟩:=RelO.some_of (v:=v) (o:=valueAt vs k) (by rw [l];exact rel.val k)
  exact wpAny_getItem_of (kV_is ry) dd.mapOf hw (h w' _ (I.tok _) J3)
 ·subst ey
  cases (show u=Value.ref b from ry)
  obtain ⟨z,hd,xs,rel,dd⟩:=uH I.hok e
  obtain ⟨w',hw,J3⟩:=RelO.some_of (v:=v) (o:=(atKey xs k).map (·.2)) (by rw [l];exact rel.val k)
  obtain ⟨p,hp,Ms⟩:=Option.map_eq_some_iff.mp hw
  refine wpAny_getItem_heap (tupleKind_room_in1 hu) (o8 I.hok eb) dd hp ?_
  rw [Ms]
  exact h w' _ (I.tok _) J3
theorem Fg {Q:Value->Shared->Prop} (hu:A.units + 1 < cLine) (I:Inv X pins σ H s) (g:DGet H a y o) (ry:RelV y u) (h:∀ s',Inv X pins σ H s'->Q (.bool o.isSome) s') :
  wpAny (model X.prog X.w) A (compareOp .In u (.ref a)) Q E s:=by
 rcases g with ⟨FF,k,e,ey,l⟩ | ⟨FF,k,b,e,ey,eb,l⟩
 ·subst ey
  obtain ⟨z,hd,vs,rel,dd⟩:=uG I.hok e
  refine wpAny_in_of (kV_is ry) hd dd.mapOf ?_
  rw [<-(rel.val k).isSome_eq,<-l]
  exact h _ (I.tok _)
 ·subst ey
  cases (show u=Value.ref b from ry)
  obtain ⟨z,hd,xs,rel,dd⟩:=uH I.hok e
  refine wpAny_in_heap (tupleKind_room_in1 hu) (o8 I.hok eb) hd dd ?_
  have q:=(rel.val k).isSome_eq
  rw [Option.isSome_map] at q
  rw [<-q,<-l]
  exact h _ (I.tok _)
theorem ze {Q:Value->Shared->Prop} (hu:A.units + 1 < cLine) (I:Inv X pins σ H s) (g:DGet H a y o) (ry:RelV y u) (h:∀ s',Inv X pins σ H s'->Q (.bool (!o.isSome)) s') :
  wpAny (model X.prog X.w) A (compareOp .NotIn u (.ref a)) Q E s:=by
 rcases g with ⟨FF,k,e,ey,l⟩ | ⟨FF,k,b,e,ey,eb,l⟩
 ·subst ey
  obtain ⟨z,hd,vs,rel,dd⟩:=uG I.hok e
  refine wpAny_notIn_of (kV_is ry) hd dd.mapOf ?_
  rw [<-(rel.val k).isSome_eq,<-l]
  exact h _ (I.tok _)
 ·subst ey
  cases (show u=Value.ref b from ry)
  obtain ⟨z,hd,xs,rel,dd⟩:=uH I.hok e
  refine wpAny_notIn_heap (tupleKind_room_in1 hu) (o8 I.hok eb) hd dd ?_
  have q:=(rel.val k).isSome_eq
  rw [Option.isSome_map] at q
  rw [<-q,<-l]
  exact h _ (I.tok _)
theorem qe {h':Heap} {t':Nat} {ob:HO} (I:Inv X pins σ H s) (mu:Nl (H a)) (hs:Heap.SameBut a s.heap h') (he:∃ q,h'.get? a=some q) (new:ObjOk X.prog X.w (upd H a ob) h' a ob) :
  Inv X pins σ (upd H a ob) { s with heap:=h',toks:=t' }:=
 I.write (x:=a) (e:=a) mu (.inl rfl) (fun b q hb z=>(hs.2 b hb).trans z) he new
theorem x6 {P:Program} {w:World} {H':Hp} {h':Heap} {FF:List (Key×V)} {vs:List (Key×Value)} (z:FF.length<=sizeLine) (hd:(a == sysModules)=false) (rel:KV FF vs) (dd:h'.DictOf (mixKind P w) a vs) :
  ObjOk P w H' h' a (.dK FF):=⟨z,hd,vs,rel,dd⟩
theorem uJ {H':Hp} {Q:Unit->Shared->Prop} (hu:A.units + 1 < cLine) (I:Inv X pins σ H s) (g:DPut H a y v H') (ry:RelV y u) (rv:RelV v r) (h:∀ s',Inv X pins σ H' s'->Q () s') :
  wpAny (model X.prog X.w) A (setItem (.ref a) u r) Q E s:=by
 rcases g with ⟨FF,k,e,ey,l,eH⟩ | ⟨FF,k,b,e,ey,eb,l,eH⟩
 ·subst ey eH
  obtain ⟨z,hd,vs,rel,dd⟩:=BL I.hok e
  have hz:vs.length<=sizeLine:=by rw [<-rel.length];exact z
  have hl:(kz FF k v).length<=sizeLine:=by have:=iQ FF k v;lia
  refine wpAny_setItem_pairs (hsz:=hz) (kV_is ry) dd fun h' Lg hs=>h _ ?_
  have he:∃ q,h'.get? a=some q:=let ⟨q,_,_,hq,_⟩:=Lg;⟨q,hq⟩
  exact qe I (by rw [e];exact True.intro) hs he (x6 hl hd (rel.put k rv) Lg)
 ·subst ey eH
  cases (show u=Value.ref b from ry)
  obtain ⟨z,hd,xs,rel,dd⟩:=DS I.hok e
  have hz:xs.length<=sizeLine:=by rw [<-Paired.length rel];exact z
  have hl:(kz FF k v).length<=sizeLine:=by have:=iQ FF k v;lia
  refine wpAny_setItem_heap (hsz:=hz) (tupleKind_room_in1 hu) (o8 I.hok eb) dd fun h' Lg hs=>h _ ?_
  obtain ⟨q,es,ep,hq,h2,h3,h4,_,h5⟩:=Lg
  refine qe I (by rw [e];exact True.intro) hs ⟨q,hq⟩ ⟨hl,hd,_,(rel.put k eb rv).keeps fun c ys ec=>?_,q,es,ep,hq,h2,h3,h4,h5⟩
  rw [aU (Dr ec e (fun z=>nomatch z))]
  exact ec
end
section
variable {X:Cx} {pins:List (Addr×Obj)} {σ:St} {H:Hp} {s:Shared} {a:Addr} {FF:List (Key×V)} {k:Key} {u:Value} {A:Around} {E:Value->Shared->Prop}
end
def NoSl (i:Expr):Prop:=∀ ov iv,subscripted i false ov iv=operate [ov,iv] (getItem ov iv)
theorem zf {prog:Program} {w:World} {A:Around} {E:Value->Shared->Prop} {s:Shared} {env:Env} {value slice:Expr} {pos:Pos} {T id:String} {Q:Value->Shared->Prop}
  (hl:typeLookup (.type T) "__getitem__" = pure (some (.builtin id))) (hs:NoSl slice)
  (h:wpAny (model prog w) A (eval value env) (fun o s₁=>wpAny (model prog w) A (eval slice env) (fun i s₂=>s₂.TypeIs o T/\wpAny (model prog w) A (getItem o i) Q E s₂) E s₁) E s) :
  wpAny (model prog w) A (eval (.Subscript value slice pos) env) Q E s:=by
 refine Subscript_ (wpAny_mono h (fun o s₁ h₁=>wpAny_mono h₁ (fun i s₂ h₂=>?_) fun _ _ x=>x) fun _ _ x=>x)
 obtain ⟨hT,h₂⟩:=h₂
 unfold subscriptTail
 refine wpAny_bind ?_
 rw [getitemInPython_of_ne hT.not_modules]
 refine wpAny_bind (wpAny_specialOf hT hl ?_)
 have fin:wpAny (model prog w) A (subscripted slice false o i) (fun r s₃=>wpAny (model prog w) A (letTemporaryGo value o r >>= fun _=>pure r) Q E s₃) E s₂:=by
  rw [hs o i]
  exact wpAny_operating (wpAny_mono h₂ (fun r s₃ h₃=>wpAny_bind (wpAny_letTemporaryGo (wpAny_pure h₃))) fun _ _ x=>x)
 first
  | exact wpAny_pure (wpAny_bind fin)
  | exact wpAny_bind (wpAny_pure (wpAny_bind fin))
  | exact wpAny_bind fin
theorem qf {X:Cx} {pins:List (Addr×Obj)} {σ:St} {H:Hp} {s:Shared} {a:Addr} {y:V} {o:Option V} (I:Inv X pins σ H s) (g:DGet H a y o):s.TypeIs (.ref a) "dict":=by
 rcases g with ⟨FF,k,e,_,_⟩ | ⟨FF,k,b,e,_,_,_⟩
 ·obtain ⟨_,_,vs,_,dd⟩:=uG I.hok e
  exact dd.typeIs
 ·obtain ⟨_,_,xs,_,dd⟩:=uH I.hok e
  exact dd.typeIs
noncomputable def DT (td ty:TE):TE:=fun σ H Q=>td σ H fun x H1=>ty σ H1 fun y H2=>∃ a v,x=.ref a/\DGet H2 a y (some v)/\Q v H2
noncomputable def DU (td ty tv:TE):TS:=fun D σ H=>tv σ H fun v H1=>td σ H1 fun x H2=>ty σ H2 fun y H3=>∃ a H4,x=.ref a/\DPut H3 a y v H4/\D.nx σ H4
section
variable {X:Cx} {o i e value:Expr} {pos pos' tpos:Pos} {td ty tv:TE}
theorem zg (hu:X.A.units + 1 < cLine) (ho:PE X o td) (hi:PE X i ty) (hs:NoSl i):PE X (.Subscript o i pos) (DT td ty):=by
 intro pins s σ H Q I h
 refine zf PySem.F.slot_dict_getitem.lookup hs (F1 (ho pins s σ H _ I h) fun u s1 ⟨x,H1,I1,rx,q1⟩=>F1 (hi pins s1 σ H1 _ I1 q1) fun iv s2 F3=>?_)
 obtain ⟨y,H2,I2,ry,a,v,ex,g,q2⟩:=F3
 subst ex
 obtain rfl:u=Value.ref a:=rx
 exact ⟨qf I2 g,uI hu I2 g ry fun w' s3 I3 J3=>⟨v,H2,I3,J3,q2⟩⟩
theorem zh (hu:X.A.units + 1 < cLine) (ho:PE X o td) (hi:PE X i ty) (hv:PE X value tv) (hs:swapsWith value (some (.Subscript o i pos')) pos.line X.env=pure false) :
  PS X (.Assign [.Subscript o i pos'] value pos) (DU td ty tv):=by
 intro pins s σ H D I h
 refine wpAny_Assign_Subscript (F1 (hv pins s σ H _ I h) fun r s1 ⟨v,H1,I1,rv,q1⟩=>F1 (ho pins s1 σ H1 _ I1 q1) fun u s2 ⟨x,H2,I2,rx,q2⟩=>F1 (hi pins s2 σ H2 _ I2 q2) fun iv s3 ⟨y,H3,I3,ry,a,H4,ex,g,q3⟩=>?_) hs
 subst ex
 obtain rfl:u=Value.ref a:=rx
 exact uJ hu I3 g ry rv fun s4 I4=>⟨σ,H4,I4,q3⟩
end
theorem dk_empty {P:Program} {w:World} {H:Hp} (h:Heap) (hb:sysModules < h.objs.size):ObjOk P w H (h.push { cls:=.type "dict",data:=.dict #[] }) h.objs.size (.dK []):=
 ⟨Nat.zero_le _,beq_eq_false_iff_ne.mpr (Ne.symm (Nat.ne_of_lt hb)),[],.nil,Heap.DictOf.new h⟩
section
variable {X:Cx} {pos:Pos}
end
noncomputable def tPairs:List (TE×TE)->St->Hp->(List (V×V)->Hp->Prop)->Prop
 | [],_,H,Q=>Q [] H
 | (tk,tv) :: r,σ,H,Q=>tk σ H fun x H1=>tv σ H1 fun y H2=>tPairs r σ H2 fun ps H3=>Q ((x,y) :: ps) H3
abbrev VV:List (V×V)->List (Value×Value)->Prop:=Paired fun p q=>RelV p.1 q.1/\RelV p.2 q.2
def Ow (X:Cx) (pos:Pos) (keys:List (Option Expr)) (values:List Expr) (Lh:List (TE×TE)):Prop:=
 ∀ (pins:List (Addr×Obj)) (s:Shared) (σ:St) (H:Hp) (Q:List (V×V)->Hp->Prop),Inv X pins σ H s->tPairs Lh σ H Q->
  wpAny (model X.prog X.w) X.A (evalPairs (pairTrees keys values X.env pos)) (fun vs s'=>∃ ps H',Inv X pins σ H' s'/\VV ps vs/\Q ps H') X.xe s
theorem zi {X:Cx} {pos:Pos}:Ow X pos [] [] []:=fun pins s σ H Q I h=>pairTrees_nil_walk ⟨[],H,I,.nil,h⟩
theorem w4 {X:Cx} {pos:Pos} {k v:Expr} {ks:List (Option Expr)} {vs:List Expr} {tk tv:TE} {Lh:List (TE×TE)} (hk:PE X k tk) (hv:PE X v tv) (hr:Ow X pos ks vs Lh) :
  Ow X pos (some k :: ks) (v :: vs) ((tk,tv) :: Lh):=fun pins s σ H Q I h=>
 pairTrees_cons_walk (F1 (hk pins s σ H _ I h) fun u s1 ⟨x,H1,I1,rx,q1⟩=>F1 (hv pins s1 σ H1 _ I1 q1) fun w2 s2 ⟨y,H2,I2,ry,q2⟩=>
  F1 (hr pins s2 σ H2 _ I2 q2) fun ws s3 ⟨ps,H3,I3,rel,q3⟩=>⟨(x,y) :: ps,H3,I3,.cons ⟨rx,ry⟩ rel,q3⟩)
noncomputable def o9 (FF more:List (Key×V)):List (Key×V):=more.foldl (fun acc kv=>kz acc kv.1 kv.2) FF
theorem KV.merge:∀ {more:List (Key×V)} {rs:List (Key×Value)} {FF:List (Key×V)} {vs:List (Key×Value)},KV more rs->KV FF vs->KV (o9 FF more) (merged vs rs):=by
 intro more rs FF vs r
 unfold KV at r
 induction r generalizing FF vs with
 | nil=>intro q;exact q
 | @cons p q ps qs h t ih=>
  intro r0
  have e:KV (kz FF p.1 p.2) (stored vs q.1 q.2):=by
   have:=r0.put p.1 h.2
   rw [<-h.1];exact this
  exact ih e
theorem jd:∀ (more FF:List (Key×V)),(o9 FF more).length<=FF.length + more.length
 | [],FF=>by show FF.length<=FF.length + 0;lia
 | p :: r,FF=>by
  have h1:=jd r (kz FF p.1 p.2)
  have h2:=iQ FF p.1 p.2
  show (o9 (kz FF p.1 p.2) r).length<=_
  rw [List.length_cons];lia
theorem mJ {P:Program} {w:World}:∀ {FF:List (Key×V)} {ws:List (Value×Value)},VV (FF.map fun kv=>(kV kv.1,kv.2)) ws->∃ rs,Carries (mixKind P w) ws rs/\KV FF rs
 | [],_,r=>by rw [List.map_nil] at r;cases r;exact ⟨[],True.intro,.nil⟩
 | p :: FF,_,r=>by
  rw [List.map_cons] at r
  cases r with
  | @cons a b as bs h t=>
   obtain ⟨rs,c,q⟩:=mJ (P:=P) (w:=w) t
   obtain ⟨b1,b2⟩:=b
   exact ⟨(p.1,b2) :: rs,⟨kV_is h.1,rfl,c⟩,.cons ⟨rfl,h.2⟩ q⟩
noncomputable def DV (Lh:List (TE×TE)):TE:=fun σ H Q=>∀ p,H p=none->tPairs Lh σ (upd H p (.dK [])) fun ps H2=>H2 p=some (.dK [])/\∃ FF:List (Key×V),ps=FF.map (fun kv=>(kV kv.1,kv.2))/\FF.length<=15/\Q (.ref p) (upd H2 p (.dK (o9 [] FF)))
theorem zj {X:Cx} {pos:Pos} {keys:List (Option Expr)} {values:List Expr} {Lh:List (TE×TE)} (h:Ow X pos keys values Lh) (GJ:keys.all (·.isSome)=true) (hl:keys.length=values.length) (h0:keys≠[])
  (h15:keys.length<=15):PE X (.Dict keys values pos) (DV Lh):=by
 intro pins s σ H Q I q
 have hn:=I.hok.fresh (Nat.le_refl s.heap.objs.size)
 have I1:=I.laid (a:=s.heap.objs.size) (o:=.dK []) (h':=s.heap.push { cls:=.type "dict",data:=.dict #[] }) (t':=s.toks) (fun _ _ q=>Heap.get?_push_of_some _ q) (Nat.le_refl _) (dk_empty s.heap I.big)
 refine wpAny_Dict_walk (knd:=mixKind X.prog X.w) GJ hl h0 h15 (F1 (h pins _ σ _ _ I1 (q _ hn)) fun ws s2 F3=>?_)
 obtain ⟨ps,H2,I2,rel,e,FF,ep,lk,q2⟩:=F3
 subst ep
 obtain ⟨rs,c,rk⟩:=mJ (P:=X.prog) (w:=X.w) rel
 obtain ⟨z,hd,vs0,r0,dd⟩:=BL I2.hok e
 cases r0
 refine ⟨rs,c,dd,fun h' Lg hs=>⟨.ref s.heap.objs.size,_,?_,rfl,q2⟩⟩
 have hz:(o9 [] FF).length<=sizeLine:=by
  have h1:=jd FF []
  rw [List.length_nil] at h1
  rw [sizeLine_eq];lia
 have he:∃ q,h'.get? s.heap.objs.size=some q:=let ⟨q,_,_,hq,_⟩:=Lg;⟨q,hq⟩
 exact qe I2 (by rw [e];exact True.intro) hs he (x6 hz hd (rk.merge .nil) Lg)
section
variable {X:Cx} {pins:List (Addr×Obj)} {σ:St} {H:Hp} {s:Shared} {a:Addr} {y d:V} {u r:Value} {o:Option V} {A:Around} {E:Value->Shared->Prop}
end
section
variable {X:Cx} {o e f:Expr} {apos F4:Pos} {td ty tx:TE}
end
section
variable {X:Cx} {pins:List (Addr×Obj)} {σ:St} {H:Hp} {s:Shared} {a:Addr} {FF:List (Key×V)} {A:Around} {E:Value->Shared->Prop}
end
section
variable {X:Cx} {pins:List (Addr×Obj)} {σ:St} {H:Hp} {s:Shared} {a:Addr} {y:V} {u:Value} {A:Around} {E:Value->Shared->Prop}
end
section
variable {κ:Type} [DecidableEq κ]
end
end L2
namespace NX
open PySem PySem.Spec PyProof.Rows L2
def RawD (h:Heap) (d:Addr) (es:Array DictEntry) (ep:Nat):Prop:=∃ o,h.get? d=some o/\o.ExactDict/\o.data=.dict es ep
theorem RawD.at {h h':Heap} {d:Addr} {es:Array DictEntry} {ep:Nat} (x:RawD h d es ep) (e:∀ o,h.get? d=some o->h'.get? d=some o):RawD h' d es ep:=by
 obtain ⟨o,g,r⟩:=x
 exact ⟨o,e o g,r⟩
section
variable {prog:Program} {w:World} {A:Around} {E:Value->Shared->Prop} {s:Shared} {d it:Addr} {es:Array DictEntry} {ep i:Nat}
theorem kI (x:RawD s.heap d es ep):s.TypeIs (.ref d) "dict":=by
 obtain ⟨o,g,ex,_⟩:=x
 exact ⟨o,g,ex.1⟩
theorem w5 {Q:Value->Shared->Prop} (nm:(d == sysModules)=false) (x:RawD s.heap d es ep)
  (q:Q (.ref s.heap.objs.size) { s with heap:=s.heap.push { cls:=.type "dict_keyiterator",data:=.fields #[.ref d,.int 0 0,.int es.size 0,.int ep 0] } }):wpAny (model prog w) A (pyIter (.ref d)) Q E s:=by
 have ty:=kI x
 obtain ⟨o,g,ex,dat⟩:=x
 refine wpAny_pyIter_slot ty F.slot_dict_iter (wpAny_call_entry F.slot_dict_iter ty F.entry_dict_iter (wpAny_bind ?_) (F.args_dict_iter_1 _))
 refine wpAny_bind (wpAny_notOrdered_dict ty (wpAny_pure ?_))
 show wpAny _ _ (Builtin.Dict.showsAll d >>= fun _=>_) _ _ s
 have ns:Builtin.Dict.showsAll d=pure ():=by
  unfold Builtin.Dict.showsAll
  rw [nm]
  rfl
 rw [ns]
 refine wpAny_bind (wpAny_pure (wpAny_bind (wpAny_dictEntries g dat (wpAny_bind (wpAny_dictEpoch g dat (wpAny_bind (wpAny_newObj_type (wpAny_pure ⟨_,rfl,"dict_keyiterator",_,⟨_,Heap.get?_push_size _ rfl,rfl⟩,F.slot_dict_keyiterator_next.lookup,?_⟩))))))))
 exact q
theorem w6 {Q:Option Value->Shared->Prop} {e:DictEntry} (hit:s.heap.IsKeyIter it d i es.size ep) (x:RawD s.heap d es ep) (hx:es[i]?=some e)
  (q:∀ h',h'.IsKeyIter it d (i + 1) es.size ep->Heap.SameBut it s.heap h'->Q (some e.key) { s with heap:=h' }):wpAny (model prog w) A (pyNext (.ref it)) Q E s:=by
 have ti:=hit.typeIs
 obtain ⟨o,g,oc,od⟩:=hit
 obtain ⟨ob,gd,_,dat⟩:=x
 have Gn:i < es.size:=(Array.getElem?_eq_some_iff.mp hx).1
 unfold pyNext
 refine wpAny_bind (wpAny_attempt (wpAny_callSpecial?_slot (name:=Str.ofString "__next__") ti F.slot_dict_keyiterator_next (wpAny_call_entry F.slot_dict_keyiterator_next ti F.entry_dict_keyiterator_next
  (wpAny_bind (wpAny_pure (wpAny_bind (wpAny_bind ?_)))) (F.args_dict_keyiterator_next_1 _))))
 refine wpAny_bind (wpAny_typeNameOfWhole_keyiter ti (wpAny_pure (wpAny_bind (wpAny_fieldsOf g od ?_))))
 have J0:Builtin.Dict_items.ownsTuple "dict_keyiterator" = false:=by decide
 simp only [J0,Bool.false_eq_true,if_false]
 show wpAny _ _ (if (Value.ref d == Value.none)=true then _ else _) _ _ s
 have nz:¬ ((Value.ref d == Value.none)=true):=Bool.false_ne_true
 rw [if_neg nz]
 refine wpAny_bind (wpAny_pure (wpAny_bind (wpAny_dictEntries gd dat ?_)))
 rw [if_neg (by simp)]
 refine wpAny_bind (wpAny_pure (wpAny_bind (wpAny_dictEpoch gd dat ?_)))
 rw [if_neg (by simp)]
 refine wpAny_pure ?_
 simp only [if_neg (show ¬ ((i:Int) < 0) by lia),Int.toNat_natCast,hx]
 refine wpAny_bind (wpAny_bind (wpAny_typeNameOfWhole_keyiter ti (wpAny_pure (wpAny_bind (wpAny_isOneOf_keyiter ti ?_)))))
 show wpAny _ _ (setField (.ref it) 1 (rawInt ((i:Int) + 1)) >>= fun _=>_) _ _ s
 refine wpAny_bind (wpAny_setField g od (by simp) ?_)
 have nx:(s.heap.update it (Obj.mapFields fun y=>y.setIfInBounds 1 (rawInt ((i:Int) + 1)))).IsKeyIter it d (i + 1) es.size ep:=
  ⟨_,Heap.get?_update_self _ g (Obj.isFreed_of_fields (Obj.data_mapFields od _)),(Obj.cls_mapFields ..).trans oc,(Obj.data_mapFields od _).trans (by simp [rawInt])⟩
 refine wpAny_bind (wpAny_holding (wpAny_bind (wpAny_isOneOf_keyiter (s:={ s with heap:=s.heap.update it (Obj.mapFields fun y=>y.setIfInBounds 1 (rawInt ((i:Int) + 1))) }) nx.typeIs ?_)))
 show wpAny _ _ (pure e.key) _ _ _
 exact wpAny_pure (wpAny_pure ⟨_,rfl,wpAny_pure (q _ nx (Heap.SameBut.update ..))⟩)
theorem zl {Q:Option Value->Shared->Prop} (hh:A.handled=none) (hit:s.heap.IsKeyIter it d i es.size ep) (x:RawD s.heap d es ep) (hx:es[i]?=none)
  (q:∀ h',Heap.ExtBut it s.heap h'->Q none { s with heap:=h' }):wpAny (model prog w) A (pyNext (.ref it)) Q E s:=by
 have ti:=hit.typeIs
 obtain ⟨o,g,oc,od⟩:=hit
 obtain ⟨ob,gd,_,dat⟩:=x
 unfold pyNext
 refine wpAny_bind (wpAny_attempt (wpAny_callSpecial?_slot (name:=Str.ofString "__next__") ti F.slot_dict_keyiterator_next (wpAny_call_entry F.slot_dict_keyiterator_next ti F.entry_dict_keyiterator_next
  (wpAny_bind (wpAny_pure (wpAny_bind (wpAny_bind ?_)))) (F.args_dict_keyiterator_next_1 _))))
 refine wpAny_bind (wpAny_typeNameOfWhole_keyiter ti (wpAny_pure (wpAny_bind (wpAny_fieldsOf g od ?_))))
 have J0:Builtin.Dict_items.ownsTuple "dict_keyiterator" = false:=by decide
 simp only [J0,Bool.false_eq_true,if_false]
 show wpAny _ _ (if (Value.ref d == Value.none)=true then _ else _) _ _ s
 have nz:¬ ((Value.ref d == Value.none)=true):=Bool.false_ne_true
 rw [if_neg nz]
 refine wpAny_bind (wpAny_pure (wpAny_bind (wpAny_dictEntries gd dat ?_)))
 rw [if_neg (by simp)]
 refine wpAny_bind (wpAny_pure (wpAny_bind (wpAny_dictEpoch gd dat ?_)))
 rw [if_neg (by simp)]
 refine wpAny_pure ?_
 simp only [if_neg (show ¬ ((i:Int) < 0) by lia),Int.toNat_natCast,hx]
 refine wpAny_bind (wpAny_bind (wpAny_typeNameOfWhole_keyiter ti (wpAny_pure ?_)))
 show wpAny _ _ (setField (.ref it) 0 .none >>= fun _=>_) _ _ s
 refine wpAny_bind (wpAny_setField g od (by simp) ?_)
 show wpAny _ _ (newExc (.type "StopIteration") [] >>= fun _=>_) _ _ _
 refine wpAny_bind ?_
 simp only [newExc,newTuple]
 refine wpAny_bind (wpAny_newObj_type (wpAny_bind (m:=firstArgMember _ _) (wpAny_of_eq (a:=Value.none) (by first | rfl | (simp only [firstArgMember];rfl)) (wpAny_newObj_type ?_ (by size_fits)))) (by size_fits))
 simp only [raiseNew]
 refine wpAny_bind (wpAny_handled ?_)
 rw [show A.in1.handled=none from hh]
 refine wpAny_bind (wpAny_pure (wpAny_throw ?_))
 refine wpAny_bind (wpAny_isInstance (b:=true) (T:="StopIteration") ⟨_,Heap.get?_push_size _ rfl,rfl⟩ isSubtype_stop ?_)
 exact wpAny_pure (q _ (((Heap.SameBut.update ..).extBut.push _).push _))
theorem uK (hh:A.handled=none) (I:Addr) (ne:d≠I):Walks prog w A I [I,d] [I] es.size (fun i v=>∃ e,es[i]?=some e/\v=e.key) (fun i h=>h.IsKeyIter I d i es.size ep/\RawD h d es ep) where
 sub:=fun b hb=>by
  rw [List.mem_singleton] at hb
  rw [hb]
  exact List.mem_cons_self
 frame:=fun _ _ _ st hk=>⟨st.1.at fun o e=>hk I List.mem_cons_self o e,st.2.at fun o e=>hk d (List.mem_cons_of_mem _ List.mem_cons_self) o e⟩
 item:=fun i s Q E hi st hQ=>by
  refine w6 st.1 st.2 (Array.getElem?_eq_getElem hi) fun h' it' sb=>?_
  exact hQ _ h' s.toks ⟨_,Array.getElem?_eq_getElem hi,rfl⟩ ⟨it',st.2.at fun o e=>sb.extBut d o ne e⟩ fun b o hb e=>sb.extBut b o (fun z=>hb (by rw [z];exact List.mem_cons_self)) e
 done:=fun s Q E st hQ=>zl hh st.1 st.2 (Array.getElem?_eq_none (Nat.le_refl _)) fun h' ext=>hQ h' s.toks fun b o hb e=>ext b o (fun z=>hb (by rw [z];exact List.mem_cons_self)) e
 self:=fun _ _ _ _ st hQ=>wpAny_pyIter_keyiter st.1 hQ
theorem zm (nm:(d == sysModules)=false):PySem.W.KdlSrc prog w "dict" d d es.size (fun i v=>∃ e,es[i]?=some e/\v=e.key) (fun h=>RawD h d es ep) where
 type:=fun _ x=>kI x
 there:=fun _ x=>by
  obtain ⟨o,g,_⟩:=x
  exact ⟨Heap.lt_size g,Heap.lt_size g⟩
 keep:=fun _ _ x hk=>x.at fun o e=>hk d (.inl rfl) o e
 notList:=by decide
 notTuple:=by decide
 hint:=fun _ _ _ _ x q=>PySem.W.kdl_hint_dict (kI x) q
 iter:=fun _ s hh x=>⟨_,_,(fun _ _ q=>w5 nm x q),uK hh _ (by obtain ⟨o,g,_⟩:=x;exact Nat.ne_of_lt (Heap.lt_size g)),⟨⟨_,Heap.get?_push_size _ rfl,rfl,rfl⟩,x.at fun o e=>Heap.get?_push_of_some _ e⟩⟩
end
end NX
namespace NX
open PySem PySem.W PySem.Spec PyProof.Rows L2
section
variable {prog:Program} {w:World} {A:Around} {E:Value->Shared->Prop} {s:Shared}
theorem sT {O:KeyOrd} {key:Nat->O.α} {kd:SortKind} {l:Addr} {vs:List Value} {Q:Value->Shared->Prop}
  (hcol:∀ Q':List Value->Shared->Prop,(∀ h' tk,(∀ b o,s.heap.get? b=some o->h'.get? b=some o)->Q' vs { s with heap:=h',toks:=tk })->wpAny (model prog w) A.in1 (collect (.ref l)) Q' E s) (J5:vs.length < 64)
  (Ib:2<=vs.length->∀ (A':Around) (E':Value->Shared->Prop) (s':Shared),(∀ b o,s.heap.get? b=some o->s'.heap.get? b=some o)->∀ Q:SortKind->Shared->Prop,Q kd s'->wpAny (model prog w) A' (keyKind' vs.toArray) Q E' s')
  (Ky:∀ i j,i < vs.length->j < vs.length->∀ s':Shared,(∀ b o,s.heap.get? b=some o->s'.heap.get? b=some o)->∀ C:Bool->Shared->Prop,C (O.blt (key i) (key j)) s'->kas_ask prog w A.in1.in1 kd vs i j C s')
  (h:∀ (p:Array Nat) (h5 h':Heap) (tk e:Nat),POk vs.length p->bG key p vs.length->(∀ b o,s.heap.get? b=some o->h5.get? b=some o)->(∀ b o,h5.get? b=some o->h'.get? b=some o)->h'.get? h5.objs.size=some (seqObj "list" (List.toArray (p.toList.map fun i=>vs.getD i .none)) e)->Q (.ref h5.objs.size) { s with heap:=h',toks:=tk }) :
  wpAny (model prog w) A (call (.builtin "sorted") [.ref l]) Q E s:=by
 refine Calls.call_function_entry kind_sorted plain_sorted entry_sorted (args_sorted1 _) ?_
 unfold Builtin.«sorted»
 refine wpAny_bind (m:=checkCount "sorted" 1 1 _) (wpAny_pure (wpAny_bind (hcol _ fun h5 tk k5=>?_)))
 refine wpAny_bind (wpAny_newList ?_ (by rw [sizeLine_eq];lia))
 have k6:∀ b o,s.heap.get? b=some o->(h5.push (seqObj "list" vs.toArray 0)).get? b=some o:=fun b o e=>Heap.get?_push_of_some _ (k5 b o e)
 have hL:(h5.push (seqObj "list" vs.toArray 0)).get? h5.objs.size=some (seqObj "list" vs.toArray 0):=Heap.get?_push_size _ rfl
 have P8:∀ b o,s.heap.get? b=some o->b < h5.objs.size:=fun b o e=>Heap.lt_size (k5 b o e)
 show wpAny _ _ _ _ _ { s with heap:=h5.push (seqObj "list" vs.toArray 0),toks:=tk }
 refine wpAny_bind (wpAny_holding (wpAny_call_entry slot_list_sort ⟨_,hL,rfl⟩ entry_list_sort (jb (key:=key) (kd:=kd) hL J5 (fun h2 h' kk Q' q=>Ib h2 _ _ _ (fun b o e=>kk b o (Nat.ne_of_lt (P8 b o e)) (k6 b o e)) Q' q)
  (fun i j hi hj h' kk C q=>Ky i j hi hj _ (fun b o e=>kk b o (Nat.ne_of_lt (P8 b o e)) (k6 b o e)) C q) fun p h' hp hs ⟨e,he⟩ kk=>⟨_,rfl,?_⟩) (args_list_sort _)))
 exact wpAny_pure ⟨_,rfl,h p h5 h' tk e hp hs k5 (fun b o q=>kk b o (Nat.ne_of_lt (Heap.lt_size q)) (Heap.get?_push_of_some _ q)) he⟩
end
section
variable {X:Cx} {pins:List (Addr×Obj)} {σ:L2.St} {H:Hp} {s:Shared}
theorem zo {H:Hp} {FF:List (List Key×V)} {xs:List (List Key×Addr×Value)} (r:KT H FF xs):xs.map (·.1)=FF.map (·.1):=by
 induction r with
 | nil=>rfl
 | cons hq _ ih=>rw [List.map_cons,List.map_cons,ih,hq.1]
theorem DW {H:Hp} {FF:List (List Key×V)} {xs:List (List Key×Addr×Value)} (r:KT H FF xs):∀ y∈xs,H y.2.1=some (.tup (y.1.map kV)):=by
 induction r with
 | nil=>exact fun y hy=>nomatch hy
 | cons hq _ ih=>
  intro y hy
  rcases List.mem_cons.mp hy with rfl | hy
  ·rw [<-hq.1]
   exact hq.2.1
  ·exact ih y hy
theorem zp (I:Inv X pins σ H s) {a:Addr} {FF:List (List Key×V)} (h:Rd H a (.dT FF)):(a == sysModules)=false/\∃ (al:List (Addr×List Key)) (es:Array DictEntry) (ep:Nat),
  RawD s.heap a es ep/\es.toList.map (·.key)=al.map (fun x=>Value.ref x.1)/\al.map (·.2)=FF.map (·.1)/\∀ x∈al,H x.1=some (.tup (x.2.map kV)):=by
 obtain ⟨_,nm,xs,r,o,es,ep,h1,h2,h3,h4,_⟩:=h.ok I.hok
 refine ⟨nm,xs.map fun x=>(x.2.1,x.1),es,ep,⟨o,h1,h2,h3⟩,?_,?_,?_⟩
 ·rw [h4,List.map_map,List.map_map]
  rfl
 ·rw [List.map_map]
  exact zo r
 ·intro x hx
  obtain ⟨y,hy,rfl⟩:=List.mem_map.mp hx
  exact DW r y hy
theorem mn (hc:X.calm=true):dP X (.builtin "sorted") (fun vs H Q=>∃ (p:Addr) (FF:List (List Key×V)) (top:Bool) (t:List Bool),vs=[.ref p]/\Rd H p (.dT FF)/\(∀ kv∈FF,kinds kv.1=top :: t)/\FF.length < 64/\
  ∀ (D:Addr) (ms:List (Addr×List Key)),H D=none->(∀ a∈ms,H a.1=some (.tup (a.2.map kV)))->(ms.map (·.2)).Perm (FF.map (·.1))->ms.Pairwise (fun a b=>fJ b.2 a.2=false)->Q (.ref D) (upd H D (.lst (ms.map fun a=>V.ref a.1)))):=by
 intro pins s σ H vs us Q I r h
 obtain ⟨p,FF,top,kt,rfl,hp,hk,J5,q⟩:=h
 obtain ⟨u,rfl,r1⟩:=e8 r
 cases r1
 obtain ⟨nm,al,es,ep,raw,Kz,Ox,Mt⟩:=zp I hp
 have GJ:al.length=FF.length:=by
  have:=congrArg List.length Ox
  simpa using this
 have HX:∀ a∈al,SqT X.K H a.1 (a.2.map kV)/\kinds a.2=top :: kt:=fun a ha=>by
  refine ⟨SqT.of (Mt a ha),?_⟩
  have:a.2∈FF.map (·.1):=by rw [<-Ox];exact List.mem_map.mpr ⟨a,ha,rfl⟩
  obtain ⟨kv,IZ,e⟩:=List.mem_map.mp this
  rw [<-e]
  exact hk kv IZ
 have rv:Vals (al.map fun a=>V.ref a.1) (al.map fun a=>Value.ref a.1):=by
  clear Kz Ox Mt GJ HX
  induction al with
  | nil=>exact .nil
  | cons a al ih=>exact .cons rfl ih
 have hl:(al.map fun a=>Value.ref a.1).length=al.length:=List.length_map ..
 refine sT (O:=Dk) (key:=fun i=>(al.getD i (0,[])).2) (kd:=tuples' true) (vs:=al.map fun a=>Value.ref a.1) (fun Q' hq=>?_) (by lia) (fun h2 A' E' s' kk Q' q'=>?_) (fun i j hi hj s' kk C q'=>?_) fun pp h5 h' tk e HF hs k5 k' he=>?_
 ·refine kdu_collect (zm nm) (I.ok.hd hc) raw (by have:=congrArg List.length Kz;simp only [List.length_map,Array.length_toList] at this;rw [sizeLine_eq];lia) fun h' tk acc kk Le=>?_
  have ea:acc.toList=al.map fun a=>Value.ref a.1:=by
   rw [<-Kz]
   apply List.ext_getElem?
   intro j
   rw [List.getElem?_map,Array.getElem?_toList,Array.getElem?_toList]
   cases hj:acc[j]? with
   | none=>
    have:es[j]?=none:=by
     rw [Array.getElem?_eq_none_iff] at hj ⊢
     rw [<-Le.1]
     exact hj
    rw [this]
    rfl
   | some v=>
    obtain ⟨en,h1,h2⟩:=Le.2 j v hj
    rw [h1,h2]
    rfl
  have:=hq h' tk kk
  rw [<-ea] at this
  exact this
 ·obtain ⟨fs,t1,t2,t3⟩:=qX (h':=s'.heap) I kk top rv fun a ha=>⟨(HX a ha).1,kt,(HX a ha).2⟩
  refine kat_kind (T:=.type (if top then "int" else "str")) t1 (by lia) (fun v hv=>t3 v hv _) (by simp) ?_
  have:((Value.type (if top then "int" else "str")) != Value.type "tuple")=true:=by cases top <;> decide
  rw [this]
  exact q'
 ·unfold kas_ask
  have K2:i < al.length:=by lia
  have Mp:j < al.length:=by lia
  rw [nt rv K2,nt rv Mp]
  have mi:al.getD i (0,[])∈al:=by rw [bB _ _ _ K2];exact List.getElem_mem _
  have mj:al.getD j (0,[])∈al:=by rw [bB _ _ _ Mp];exact List.getElem_mem _
  obtain ⟨u1,o1,n1,r1,g1,_,d1⟩:=o5 I (HX _ mi).1
  obtain ⟨u2,o2,n2,r2,g2,_,d2⟩:=o5 I (HX _ mj).1
  have ek:kinds (al.getD i (0,[])).2=kinds (al.getD j (0,[])).2:=by rw [(HX _ mi).2,(HX _ mj).2]
  have el:u1.length=u2.length:=by
   have a1:=r1.length
   have a2:=r2.length
   have a3:=congrArg List.length ek
   simp only [kinds,List.length_map] at a1 a2 a3
   lia
  refine kat_lt (kk _ _ g1) d1 (kk _ _ g2) d2 ?_
  have ef:decide (u1.toArray.size < u2.toArray.size)=false:=by simp [el]
  rw [ef]
  exact kY _ _ _ _ 0 r1 r2 ek q'
 ·rw [hl] at HF hs
  have Mq:POk (al.map fun a=>V.ref a.1).length pp:=by rw [List.length_map];exact HF
  have eo:sS pp (al.map fun a=>V.ref a.1)=(pp.toList.map fun i=>al.getD i (0,[])).map fun a=>V.ref a.1:=by
   unfold sS
   rw [List.map_map]
   refine List.map_congr_left fun i hi=>?_
   have hi:=List.mem_range.mp (HF.perm.mem_iff.mp hi)
   show (al.map fun a=>V.ref a.1).getD i .non=V.ref (al.getD i (0,[])).1
   rw [bB _ _ _ (by rw [List.length_map];exact hi),bB _ _ _ hi]
   simp
  have I5:Inv X pins σ H { s with heap:=h5,toks:=tk }:=I.kept k5
  have hn:H h5.objs.size=none:=I5.hok.fresh (Nat.le_refl _)
  refine ⟨.ref h5.objs.size,_,jc (s:={ s with heap:=h5,toks:=tk }) I5 k' (Nat.le_refl _) he (kG rv Mq) ?_,rfl,?_⟩
  ·show (sS pp (al.map fun a=>V.ref a.1)).length<=sizeLine
   rw [eo,List.length_map,List.length_map,HF.perm.length_eq,List.length_range,sizeLine_eq]
   lia
  ·rw [eo]
   have pm:=kF (0,[]) HF
   refine q _ _ hn (fun a ha=>Mt a (pm.mem_iff.mp ha)) ?_ ?_
   ·rw [<-Ox]
    exact pm.map _
   ·exact iw (O:=Dk) (0,[]) (fun a:Addr×List Key=>a.2) HF hs
end
end NX
namespace NX
open PySem PySem.Spec PyProof.Rows L2
section
open PySem.SeqAt
open PySem.AutoSeq1 (wpAny_loadPart')
open PySem.MeetsSeq PySem.MeetsSeq2 PySem.MeetsSeq3
theorem w9 {A:Around} {s:Shared} {a c:Key} {u v:Value} (ra:RelV (kV a) u) (rc:RelV (kV c) v):EqAt A s u v (decide (a=c)):=by
 have h:=xT (A:=A) (s:=s) ra rc (kH a) (kH c)
 rw [uF] at h
 exact h
theorem xa {prog:Program} {w:World} {A:Around} {E:Value->Shared->Prop} {s:Shared} {Q:Value->Shared->Prop} {a c:Key} {u v:Value} (ra:RelV (kV a) u) (rc:RelV (kV c) v) (hk:a.isLeft=c.isLeft) (h:Q (.bool (qW.blt a c)) s) :
  wpAny (model prog w) A (richCompare .Lt u v) Q E s:=by
 cases a with
 | inl i=>
  cases c with
  | inr _=>cases hk
  | inl j=>
   obtain ⟨t,rfl⟩:=ra
   obtain ⟨t',rfl⟩:=rc
   exact (PyProof.Rows.lt_int h:wpAny (model prog w) A (compareOp .Lt (.int i t) (.int j t')) Q E s)
 | inr x=>
  cases c with
  | inl _=>cases hk
  | inr y=>
   obtain ⟨t,rfl⟩:=ra
   obtain ⟨t',rfl⟩:=rc
   exact (PyProof.Rows.lt_str h:wpAny (model prog w) A (compareOp .Lt (.str x t) (.str y t')) Q E s)
theorem uL (a c:Key) (r t:List Key):fJ (a :: r) (c :: t)=if a=c then fJ r t else qW.blt a c:=rfl
theorem ny (l b:Addr) (items Ie:Array Value) (n n2:Nat) (dd K0:Option Addr) (sl K1:Array (Option Value)) (ks js:List Key) (hi:Vals (ks.map kV) items.toList) (hj:Vals (js.map kV) Ie.toList) (hk:kinds ks=kinds js) :
  Meets (Builtin.«tuple.__lt__» ⟨[.ref l,.ref b],[]⟩)
   (fun _ R s=>s.heap.get? l=some { cls:=.type "tuple",dict:=dd,data:=.seq items n,slots:=sl }/\s.heap.get? b=some { cls:=.type "tuple",dict:=K0,data:=.seq Ie n2,slots:=K1 }/\R (.ok (.ret (.bool (fJ ks js)))) s):=
 .of_wp fun prog w A R s h=>by
  obtain ⟨hp,g,d,tk,os⟩:=s;obtain ⟨hl,hb,h⟩:=h
  have f2:=AutoSeq1.sub_tuple_tuple
  have z1:items.size=ks.length:=by have:=hi.length;simp at this;lia
  have z2:Ie.size=js.length:=by have:=hj.length;simp at this;lia
  have z3:ks.length=js.length:=by have:=congrArg List.length hk;simpa [kinds] using this
  wp_walk using wpAny_loadPart' hl,wpAny_loadPart' hb,wpAny_forIn_list _ (fun eL b s'=>b.1=none/\s'=⟨hp,g,d,tk,os⟩/\∃ (vs ws:List Value) (Jv J6:List Key),eL=vs.zip ws/\
   Vals (Jv.map kV) vs/\Vals (J6.map kV) ws/\kinds Jv=kinds J6/\R (.ok (.ret (.bool (fJ Jv J6)))) ⟨hp,g,d,tk,os⟩) _
  case turn=>
   rintro ⟨y,x⟩ eL b s' ⟨Pg,rfl,vs,ws,Jv,J6,hz,Oy,Ph,L6,hR⟩
   cases Jv with
   | nil=>
    cases Oy
    rw [List.zip_nil_left] at hz;cases hz
   | cons a Jv=>
    cases J6 with
    | nil=>cases L6
    | cons c J6=>
     cases Oy with
     | @cons _ va _ NF ra hvi'=>
      cases Ph with
      | @cons _ vc _ NG rc hwi'=>
       rw [List.zip_cons_cons] at hz
       injection hz with hyx hrest
       injection hyx with hy hx
       subst hy hx
       have hk1:a.isLeft=c.isLeft:=(List.cons.inj L6).1
       have Oz:kinds Jv=kinds J6:=(List.cons.inj L6).2
       rw [uL] at hR
       have he:=w9 (A:=A.in1) (s:=⟨hp,g,d,tk,os⟩) ra rc
       refine wpAny_bind (he prog w _ _ ?_)
       by_cases hac:a=c
       ·rw [if_pos hac] at hR
        rw [decide_eq_true hac]
        wp_walk
        exact ⟨rfl,rfl,_,_,_,_,hrest,hvi',hwi',Oz,hR⟩
       ·rw [if_neg hac] at hR
        rw [decide_eq_false hac]
        have hri:=fun E Q=>xa (prog:=prog) (w:=w) (A:=A.in1) (E:=E) (s:=⟨hp,g,d,tk,os⟩) (Q:=Q) ra rc hk1
        wp_walk using hri
        exact ⟨_,rfl,by simpa using hR⟩
  case fin=>
   rintro ⟨b1,b2⟩ s' ⟨Pg,rfl,vs,ws,Jv,J6,hz,Oy,Ph,L6,hR⟩
   simp only at Pg
   subst Pg
   have hv:fJ Jv J6=decide (items.size < Ie.size):=by
    cases Jv with
    | nil=>
     cases J6 with
     | nil=>exact (decide_eq_false (by lia)).symm
     | cons c J6=>cases L6
    | cons a Jv=>
     cases J6 with
     | nil=>cases L6
     | cons c J6=>
      cases Oy
      cases Ph
      rw [List.zip_cons_cons] at hz
      cases hz
   rw [hv] at hR
   wp_walk
   exact ⟨_,rfl,by simpa [Builtin.Tuple.tupleCompareSizes] using hR⟩
  case h=>
   exact ⟨rfl,rfl,items.toList,Ie.toList,ks,js,rfl,hi,hj,hk,h⟩
end
section
variable {X:Cx}
noncomputable def Fh (K:W.Frag) (neg:Bool):R2:=fun x y H Q=>∃ a b ks js,x=.ref a/\y=.ref b/\SqT K H a (ks.map kV)/\SqT K H b (js.map kV)/\kinds ks=kinds js/\Q (.bl (if neg then !fJ ks js else fJ ks js)) H
theorem BM (hu:X.A.units < cLine):Gx X (compareOp .Lt) (Fh X.K false):=by
 intro pins s σ H x y v u Q I rx ry h
 obtain ⟨a,b,ks,js,rfl,rfl,ha,hb,hk,q⟩:=h
 cases rx
 cases ry
 obtain ⟨FH,r1,p1,_⟩:=I.tuple ha
 obtain ⟨J2,r2,p2,_⟩:=I.tuple hb
 obtain ⟨⟨cls,dd,data,sl⟩,ho,hc,n,hd⟩:=id p1
 obtain ⟨⟨Mg,K0,data2,K1⟩,HW,Hf,n2,hd2⟩:=id p2
 simp only at hc hd Hf hd2
 subst hc hd Hf hd2
 exact richCompare_meets_room (op:=.Lt) ⟨_,ho,rfl⟩ ⟨_,HW,rfl⟩ PySem.F.slot_tuple_lt PySem.F.entry_tuple_lt (PySem.F.args_tuple_lt_2 _ _) (ny a b _ _ n n2 dd K0 sl K1 ks js (by simpa using r1) (by simpa using r2) hk)
  ⟨ho,HW,show Value.bool (fJ ks js)≠Value.notImplemented/\EP X pins σ Q (.bool (fJ ks js)) s from ⟨(fun x=>nomatch x),⟨.bl (fJ ks js),H,I,rfl,q⟩⟩⟩ hu
end
end NX
namespace PV
open PySem L2 NX
inductive D where
 | non | bl (b:Bool) | int (i:Int) | str (l:List Nat) | tup (ds:List D) | lst (ds:List D) | dct (tk:Bool) (ks vs:List D)
inductive O where
 | f | l (c:O) | t (cs:List O) | d | pin (p:Addr) (c:O)
abbrev R:=O×D
abbrev Env:=List (Option R)
inductive Res (α:Type) where
 | ok (a:α) | exc (c:List Nat) | bad
noncomputable def kD:Key->D
 | .inl i=>.int i
 | .inr x=>.str x.cps.toList
noncomputable def isM:HO->Bool
 | .lst _=>true
 | .dK _=>true
 | .dT _=>true
 | _=>false
noncomputable def isT:HO->Bool
 | .tup _=>true
 | .frz _ (.tup _)=>true
 | _=>false
noncomputable def x9:Key->Prop
 | .inl _=>True
 | .inr x=>x.cps.toList.length<=sizeLine
def DictO (o:HO) (tk:Bool) (ks:List D) (xs:List V):Prop:=match tk with
 | true=>∃ FF:List (List Key×V),o=.dT FF/\ks=FF.map (fun kv=>D.tup (kv.1.map kD))/\xs=FF.map (·.2)/\∀ kv∈FF,∀ k∈kv.1,x9 k
 | false=>∃ FF:List (Key×V),o=.dK FF/\ks=FF.map (fun kv=>kD kv.1)/\xs=FF.map (·.2)/\∀ kv∈FF,x9 kv.1
mutual
noncomputable def Rep (K:W.Frag) (G:Hp):D->V->Prop
 | .non,v=>v=.non
 | .bl b,v=>v=.bl b
 | .int i,v=>v=.int i
 | .str l,v=>v=.str (S l)/\l.length<=sizeLine
 | .tup ds,v=>∃ p xs,v=.ref p/\G p=some (.tup xs)/\Reps K G ds xs
 | .lst ds,v=>∃ p xs,v=.ref p/\SqL K G p xs/\Reps K G ds xs
 | .dct tk ks vs,v=>∃ p xs o,v=.ref p/\Rd G p o/\DictO o tk ks xs/\Reps K G vs xs
noncomputable def Reps (K:W.Frag) (G:Hp):List D->List V->Prop
 | [],xs=>xs=[]
 | d :: ds,xs=>∃ y ys,xs=y :: ys/\Rep K G d y/\Reps K G ds ys
end
noncomputable def AllO (P:D->V->List Addr->Prop):List D->List V->List Addr->Prop
 | [],xs,fp=>xs=[]/\fp=[]
 | d :: ds,xs,fp=>∃ y ys a b,xs=y :: ys/\fp=a++b/\P d y a/\AllO P ds ys b
mutual
noncomputable def RepO (K:W.Frag) (G H:Hp):O->D->V->List Addr->Prop
 | .f,d,v,fp=>Rep K G d v/\fp=[]
 | .l c,.lst ds,v,fp=>∃ p xs FR,v=.ref p/\H p=some (.lst xs)/\fp=p :: FR/\AllO (RepO K G H c) ds xs FR
 | .t cs,.tup ds,v,fp=>∃ p xs,v=.ref p/\G p=some (.tup xs)/\RepT K G H cs ds xs fp
 | .d,.dct tk ks vs,v,fp=>∃ p xs o,v=.ref p/\H p=some o/\DictO o tk ks xs/\fp=[p]/\Reps K G vs xs
 | .pin p c,d,v,fp=>v=.ref p/\RepO K G H c d v fp
 | _,_,_,_=>False
noncomputable def RepT (K:W.Frag) (G H:Hp):List O->List D->List V->List Addr->Prop
 | [],[],xs,fp=>xs=[]/\fp=[]
 | c :: cs,d :: ds,xs,fp=>∃ y ys a b,xs=y :: ys/\fp=a++b/\RepO K G H c d y a/\RepT K G H cs ds ys b
 | _,_,_,_=>False
end
section
variable {K:W.Frag} {G G' H H':Hp}
theorem Rd.mono {p:Addr} {u:HO} (h:Same G G') (r:Rd G p u):Rd G' p u:=by
 rcases r with r | ⟨o,r⟩
 ·exact .inl (h _ _ r)
 ·exact .inr ⟨o,h _ _ r⟩
theorem iy {p:Addr} {xs:List V} (h:Same G G') (r:SqL K G p xs):SqL K G' p xs:=r.elim (fun r=>.inl (Rd.mono h r)) .inr
theorem cx {p:Addr} {xs:List V} (h:Same G G') (r:SqT K G p xs):SqT K G' p xs:=r.elim (fun r=>.inl (Rd.mono h r)) .inr
mutual
theorem Rep.mono (h:Same G G'):∀ {d:D} {v:V},Rep K G d v->Rep K G' d v
 | .non,_,r=>by simpa only [Rep] using r
 | .bl _,_,r=>by simpa only [Rep] using r
 | .int _,_,r=>by simpa only [Rep] using r
 | .str _,_,r=>by simpa only [Rep] using r
 | .tup ds,_,r=>by
  simp only [Rep] at r ⊢
  obtain ⟨p,xs,e,q,rs⟩:=r
  exact ⟨p,xs,e,h _ _ q,Reps.mono h rs⟩
 | .lst ds,_,r=>by
  simp only [Rep] at r ⊢
  obtain ⟨p,xs,e,q,rs⟩:=r
  exact ⟨p,xs,e,iy h q,Reps.mono h rs⟩
 | .dct tk ks vs,_,r=>by
  simp only [Rep] at r ⊢
  obtain ⟨p,xs,o,e,q,dd,rs⟩:=r
  exact ⟨p,xs,o,e,Rd.mono h q,dd,Reps.mono h rs⟩
theorem Reps.mono (h:Same G G'):∀ {ds:List D} {xs:List V},Reps K G ds xs->Reps K G' ds xs
 | [],_,r=>by simpa only [Reps] using r
 | d :: ds,_,r=>by
  simp only [Reps] at r ⊢
  obtain ⟨y,ys,e,r1,r2⟩:=r
  exact ⟨y,ys,e,Rep.mono h r1,Reps.mono h r2⟩
end
theorem AllO.imp {P P':D->V->List Addr->Prop}:∀ {ds:List D} {xs:List V} {fp:List Addr},(∀ d v a,(∀ p∈a,p∈fp)->P d v a->P' d v a)->AllO P ds xs fp->AllO P' ds xs fp
 | [],_,_,_,r=>r
 | d :: ds,xs,fp,h,r=>by
  obtain ⟨y,ys,a,b,e1,e2,p,q⟩:=r
  subst e2
  exact ⟨y,ys,a,b,e1,rfl,h _ _ _ (fun p hp=>List.mem_append_left _ hp) p,AllO.imp (fun d v c hc=>h d v c fun p hp=>List.mem_append_right _ (hc p hp)) q⟩
mutual
theorem RepO.step (h:Same G G'):∀ {o:O} {d:D} {v:V} {fp:List Addr},(∀ p∈fp,H' p=H p)->RepO K G H o d v fp->RepO K G' H' o d v fp
 | .f,d,v,fp,hk,r=>by
  simp only [RepO] at r ⊢
  exact ⟨Rep.mono h r.1,r.2⟩
 | .pin p c,d,v,fp,hk,r=>by
  simp only [RepO] at r ⊢
  exact ⟨r.1,RepO.step h hk r.2⟩
 | .l c,.lst ds,v,fp,hk,r=>by
  simp only [RepO] at r ⊢
  obtain ⟨p,xs,FR,e,q,e2,a⟩:=r
  subst e2
  exact ⟨p,xs,FR,e,(hk p List.mem_cons_self).trans q,rfl,AllO.imp (fun d v c hc=>RepO.step h fun z hz=>hk z (List.mem_cons_of_mem _ (hc z hz))) a⟩
 | .t cs,.tup ds,v,fp,hk,r=>by
  simp only [RepO] at r ⊢
  obtain ⟨p,xs,e,q,a⟩:=r
  exact ⟨p,xs,e,h _ _ q,RepT.step h hk a⟩
 | .d,.dct tk ks vs,v,fp,hk,r=>by
  simp only [RepO] at r ⊢
  obtain ⟨p,xs,o,e,q,dd,e2,rs⟩:=r
  subst e2
  exact ⟨p,xs,o,e,(hk p List.mem_cons_self).trans q,dd,rfl,Reps.mono h rs⟩
 | .l _,.non,_,_,_,r | .l _,.bl _,_,_,_,r | .l _,.int _,_,_,_,r | .l _,.str _,_,_,_,r | .l _,.tup _,_,_,_,r | .l _,.dct _ _ _,_,_,_,r=>by simp only [RepO] at r
 | .t _,.non,_,_,_,r | .t _,.bl _,_,_,_,r | .t _,.int _,_,_,_,r | .t _,.str _,_,_,_,r | .t _,.lst _,_,_,_,r | .t _,.dct _ _ _,_,_,_,r=>by simp only [RepO] at r
 | .d,.non,_,_,_,r | .d,.bl _,_,_,_,r | .d,.int _,_,_,_,r | .d,.str _,_,_,_,r | .d,.tup _,_,_,_,r | .d,.lst _,_,_,_,r=>by simp only [RepO] at r
theorem RepT.step (h:Same G G'):∀ {cs:List O} {ds:List D} {xs:List V} {fp:List Addr},(∀ p∈fp,H' p=H p)->RepT K G H cs ds xs fp->RepT K G' H' cs ds xs fp
 | [],[],_,_,_,r=>by simpa only [RepT] using r
 | c :: cs,d :: ds,xs,fp,hk,r=>by
  simp only [RepT] at r ⊢
  obtain ⟨y,ys,a,b,e1,e2,r1,r2⟩:=r
  subst e2
  exact ⟨y,ys,a,b,e1,rfl,RepO.step h (fun p hp=>hk p (List.mem_append_left _ hp)) r1,RepT.step h (fun p hp=>hk p (List.mem_append_right _ hp)) r2⟩
 | [],_ :: _,_,_,_,r=>by simp only [RepT] at r
 | _ :: _,[],_,_,_,r=>by simp only [RepT] at r
end
theorem AllO.frozen {P:D->V->List Addr->Prop}:∀ {ds:List D} {xs:List V} {fp:List Addr},(∀ d v a,(∀ p∈a,p∈fp)->P d v a->Rep K G' d v)->AllO P ds xs fp->Reps K G' ds xs
 | [],_,_,_,r=>by simp only [Reps];exact r.1
 | d :: ds,xs,fp,h,r=>by
  obtain ⟨y,ys,a,b,e1,e2,p,q⟩:=r
  subst e2
  simp only [Reps]
  exact ⟨y,ys,e1,h _ _ _ (fun p hp=>List.mem_append_left _ hp) p,AllO.frozen (fun d v c hc=>h d v c fun p hp=>List.mem_append_right _ (hc p hp)) q⟩
mutual
theorem RepO.frozen (h:Same G G'):∀ {o:O} {d:D} {v:V} {fp:List Addr},(∀ p∈fp,∀ u,H p=some u->G' p=some u)->RepO K G H o d v fp->Rep K G' d v
 | .f,d,v,fp,hk,r=>by
  simp only [RepO] at r
  exact Rep.mono h r.1
 | .pin p c,d,v,fp,hk,r=>by
  simp only [RepO] at r
  exact RepO.frozen h hk r.2
 | .l c,.lst ds,v,fp,hk,r=>by
  simp only [RepO] at r
  simp only [Rep]
  obtain ⟨p,xs,FR,e,q,e2,a⟩:=r
  subst e2
  exact ⟨p,xs,e,SqL.of (hk p List.mem_cons_self _ q),AllO.frozen (fun d v c hc=>RepO.frozen h fun z hz=>hk z (List.mem_cons_of_mem _ (hc z hz))) a⟩
 | .t cs,.tup ds,v,fp,hk,r=>by
  simp only [RepO] at r
  simp only [Rep]
  obtain ⟨p,xs,e,q,a⟩:=r
  exact ⟨p,xs,e,h _ _ q,RepT.frozen h hk a⟩
 | .d,.dct tk ks vs,v,fp,hk,r=>by
  simp only [RepO] at r
  simp only [Rep]
  obtain ⟨p,xs,o,e,q,dd,e2,rs⟩:=r
  subst e2
  exact ⟨p,xs,o,e,.inl (hk p List.mem_cons_self _ q),dd,Reps.mono h rs⟩
 | .l _,.non,_,_,_,r | .l _,.bl _,_,_,_,r | .l _,.int _,_,_,_,r | .l _,.str _,_,_,_,r | .l _,.tup _,_,_,_,r | .l _,.dct _ _ _,_,_,_,r=>by simp only [RepO] at r
 | .t _,.non,_,_,_,r | .t _,.bl _,_,_,_,r | .t _,.int _,_,_,_,r | .t _,.str _,_,_,_,r | .t _,.lst _,_,_,_,r | .t _,.dct _ _ _,_,_,_,r=>by simp only [RepO] at r
 | .d,.non,_,_,_,r | .d,.bl _,_,_,_,r | .d,.int _,_,_,_,r | .d,.str _,_,_,_,r | .d,.tup _,_,_,_,r | .d,.lst _,_,_,_,r=>by simp only [RepO] at r
theorem RepT.frozen (h:Same G G'):∀ {cs:List O} {ds:List D} {xs:List V} {fp:List Addr},(∀ p∈fp,∀ u,H p=some u->G' p=some u)->RepT K G H cs ds xs fp->Reps K G' ds xs
 | [],[],_,_,_,r=>by simp only [RepT] at r;simp only [Reps];exact r.1
 | c :: cs,d :: ds,xs,fp,hk,r=>by
  simp only [RepT] at r
  simp only [Reps]
  obtain ⟨y,ys,a,b,e1,e2,r1,r2⟩:=r
  subst e2
  exact ⟨y,ys,e1,RepO.frozen h (fun p hp=>hk p (List.mem_append_left _ hp)) r1,RepT.frozen h (fun p hp=>hk p (List.mem_append_right _ hp)) r2⟩
 | [],_ :: _,_,_,_,r=>by simp only [RepT] at r
 | _ :: _,[],_,_,_,r=>by simp only [RepT] at r
end
theorem AllO.live {P:D->V->List Addr->Prop}:∀ {ds:List D} {xs:List V} {fp:List Addr},(∀ d v a,P d v a->∀ p∈a,∃ u,H p=some u)->AllO P ds xs fp->∀ p∈fp,∃ u,H p=some u
 | [],_,_,_,r=>by rw [r.2];intro p hp;cases hp
 | d :: ds,xs,fp,h,r=>by
  obtain ⟨y,ys,a,b,e1,e2,p,q⟩:=r
  subst e2
  intro z hz
  rcases List.mem_append.mp hz with hz | hz
  ·exact h _ _ _ p z hz
  ·exact AllO.live h q z hz
mutual
theorem RepO.live:∀ {o:O} {d:D} {v:V} {fp:List Addr},RepO K G H o d v fp->∀ p∈fp,∃ u,H p=some u
 | .f,d,v,fp,r=>by
  simp only [RepO] at r
  rw [r.2]
  intro p hp
  cases hp
 | .pin p c,d,v,fp,r=>by
  simp only [RepO] at r
  exact RepO.live r.2
 | .l c,.lst ds,v,fp,r=>by
  simp only [RepO] at r
  obtain ⟨p,xs,FR,e,q,e2,a⟩:=r
  subst e2
  intro z hz
  rcases List.mem_cons.mp hz with rfl | hz
  ·exact ⟨_,q⟩
  ·exact AllO.live (fun d v a=>RepO.live) a z hz
 | .t cs,.tup ds,v,fp,r=>by
  simp only [RepO] at r
  obtain ⟨p,xs,e,q,a⟩:=r
  exact RepT.live a
 | .d,.dct tk ks vs,v,fp,r=>by
  simp only [RepO] at r
  obtain ⟨p,xs,o,e,q,dd,e2,rs⟩:=r
  subst e2
  intro z hz
  rw [List.mem_singleton] at hz
  exact ⟨_,hz▸q⟩
 | .l _,.non,_,_,r | .l _,.bl _,_,_,r | .l _,.int _,_,_,r | .l _,.str _,_,_,r | .l _,.tup _,_,_,r | .l _,.dct _ _ _,_,_,r=>by simp only [RepO] at r
 | .t _,.non,_,_,r | .t _,.bl _,_,_,r | .t _,.int _,_,_,r | .t _,.str _,_,_,r | .t _,.lst _,_,_,r | .t _,.dct _ _ _,_,_,r=>by simp only [RepO] at r
 | .d,.non,_,_,r | .d,.bl _,_,_,r | .d,.int _,_,_,r | .d,.str _,_,_,r | .d,.tup _,_,_,r | .d,.lst _,_,_,r=>by simp only [RepO] at r
theorem RepT.live:∀ {cs:List O} {ds:List D} {xs:List V} {fp:List Addr},RepT K G H cs ds xs fp->∀ p∈fp,∃ u,H p=some u
 | [],[],_,_,r=>by
  simp only [RepT] at r
  rw [r.2]
  intro p hp
  cases hp
 | c :: cs,d :: ds,xs,fp,r=>by
  simp only [RepT] at r
  obtain ⟨y,ys,a,b,e1,e2,r1,r2⟩:=r
  subst e2
  intro z hz
  rcases List.mem_append.mp hz with hz | hz
  ·exact RepO.live r1 z hz
  ·exact RepT.live r2 z hz
 | [],_ :: _,_,_,r=>by simp only [RepT] at r
 | _ :: _,[],_,_,r=>by simp only [RepT] at r
end
theorem DictO.isM {o:HO} {tk:Bool} {ks:List D} {xs:List V} (h:DictO o tk ks xs):PV.isM o=true:=by
 cases tk with
 | true=>
  obtain ⟨FF,e,_⟩:=h
  rw [e];rfl
 | false=>
  obtain ⟨FF,e,_⟩:=h
  rw [e];rfl
theorem AllO.mut {P:D->V->List Addr->Prop}:∀ {ds:List D} {xs:List V} {fp:List Addr},(∀ d v a,P d v a->∀ p∈a,∃ u,H p=some u/\isM u=true)->AllO P ds xs fp->∀ p∈fp,∃ u,H p=some u/\isM u=true
 | [],_,_,_,r=>by rw [r.2];intro p hp;cases hp
 | d :: ds,xs,fp,h,r=>by
  obtain ⟨y,ys,a,b,e1,e2,p,q⟩:=r
  subst e2
  intro z hz
  rcases List.mem_append.mp hz with hz | hz
  ·exact h _ _ _ p z hz
  ·exact AllO.mut h q z hz
mutual
theorem RepO.mut:∀ {o:O} {d:D} {v:V} {fp:List Addr},RepO K G H o d v fp->∀ p∈fp,∃ u,H p=some u/\isM u=true
 | .f,d,v,fp,r=>by
  simp only [RepO] at r
  rw [r.2]
  intro p hp
  cases hp
 | .pin p c,d,v,fp,r=>by
  simp only [RepO] at r
  exact RepO.mut r.2
 | .l c,.lst ds,v,fp,r=>by
  simp only [RepO] at r
  obtain ⟨p,xs,FR,e,q,e2,a⟩:=r
  subst e2
  intro z hz
  rcases List.mem_cons.mp hz with rfl | hz
  ·exact ⟨_,q,rfl⟩
  ·exact AllO.mut (fun d v a=>RepO.mut) a z hz
 | .t cs,.tup ds,v,fp,r=>by
  simp only [RepO] at r
  obtain ⟨p,xs,e,q,a⟩:=r
  exact RepT.mut a
 | .d,.dct tk ks vs,v,fp,r=>by
  simp only [RepO] at r
  obtain ⟨p,xs,o,e,q,dd,e2,rs⟩:=r
  subst e2
  intro z hz
  rw [List.mem_singleton] at hz
  exact ⟨_,hz▸q,dd.isM⟩
 | .l _,.non,_,_,r | .l _,.bl _,_,_,r | .l _,.int _,_,_,r | .l _,.str _,_,_,r | .l _,.tup _,_,_,r | .l _,.dct _ _ _,_,_,r=>by simp only [RepO] at r
 | .t _,.non,_,_,r | .t _,.bl _,_,_,r | .t _,.int _,_,_,r | .t _,.str _,_,_,r | .t _,.lst _,_,_,r | .t _,.dct _ _ _,_,_,r=>by simp only [RepO] at r
 | .d,.non,_,_,r | .d,.bl _,_,_,r | .d,.int _,_,_,r | .d,.str _,_,_,r | .d,.tup _,_,_,r | .d,.lst _,_,_,r=>by simp only [RepO] at r
theorem RepT.mut:∀ {cs:List O} {ds:List D} {xs:List V} {fp:List Addr},RepT K G H cs ds xs fp->∀ p∈fp,∃ u,H p=some u/\isM u=true
 | [],[],_,_,r=>by
  simp only [RepT] at r
  rw [r.2]
  intro p hp
  cases hp
 | c :: cs,d :: ds,xs,fp,r=>by
  simp only [RepT] at r
  obtain ⟨y,ys,a,b,e1,e2,r1,r2⟩:=r
  subst e2
  intro z hz
  rcases List.mem_append.mp hz with hz | hz
  ·exact RepO.mut r1 z hz
  ·exact RepT.mut r2 z hz
 | [],_ :: _,_,_,r=>by simp only [RepT] at r
 | _ :: _,[],_,_,r=>by simp only [RepT] at r
end
noncomputable def RepE (K:W.Frag) (G H:Hp):Env->List (Option V)->List Addr->Prop
 | [],vs,fp=>vs=[]/\fp=[]
 | e :: es,vs,fp=>∃ y ys,vs=y :: ys/\match e with
  | none=>RepE K G H es ys fp
  | some r=>∃ v a b,y=some v/\fp=a++b/\RepO K G H r.1 r.2 v a/\RepE K G H es ys b
theorem RepE.step (h:Same G G'):∀ {es:Env} {vs:List (Option V)} {fp:List Addr},(∀ p∈fp,H' p=H p)->RepE K G H es vs fp->RepE K G' H' es vs fp
 | [],_,_,_,r=>r
 | none :: es,vs,fp,hk,r=>by
  obtain ⟨y,ys,e,r⟩:=r
  exact ⟨y,ys,e,RepE.step h hk r⟩
 | some r :: es,vs,fp,hk,q=>by
  obtain ⟨y,ys,e,v,a,b,e1,e2,r1,r2⟩:=q
  subst e2
  exact ⟨y,ys,e,v,a,b,e1,rfl,RepO.step h (fun p hp=>hk p (List.mem_append_left _ hp)) r1,RepE.step h (fun p hp=>hk p (List.mem_append_right _ hp)) r2⟩
theorem RepE.live:∀ {es:Env} {vs:List (Option V)} {fp:List Addr},RepE K G H es vs fp->∀ p∈fp,∃ u,H p=some u
 | [],_,_,r=>by
  rw [r.2]
  intro p hp
  cases hp
 | none :: es,vs,fp,r=>by
  obtain ⟨y,ys,e,r⟩:=r
  exact RepE.live r
 | some r :: es,vs,fp,q=>by
  obtain ⟨y,ys,e,v,a,b,e1,e2,r1,r2⟩:=q
  subst e2
  intro z hz
  rcases List.mem_append.mp hz with hz | hz
  ·exact r1.live z hz
  ·exact RepE.live r2 z hz
theorem RepE.mut:∀ {es:Env} {vs:List (Option V)} {fp:List Addr},RepE K G H es vs fp->∀ p∈fp,∃ u,H p=some u/\isM u=true
 | [],_,_,r=>by
  rw [r.2]
  intro p hp
  cases hp
 | none :: es,vs,fp,r=>by
  obtain ⟨y,ys,e,r⟩:=r
  exact RepE.mut r
 | some r :: es,vs,fp,q=>by
  obtain ⟨y,ys,e,v,a,b,e1,e2,r1,r2⟩:=q
  subst e2
  intro z hz
  rcases List.mem_append.mp hz with hz | hz
  ·exact r1.mut z hz
  ·exact RepE.mut r2 z hz
theorem RepE.length:∀ {es:Env} {vs:List (Option V)} {fp:List Addr},RepE K G H es vs fp->vs.length=es.length
 | [],_,_,r=>by rw [r.1];rfl
 | none :: es,vs,fp,r=>by
  obtain ⟨y,ys,e,r⟩:=r
  rw [e,List.length_cons,List.length_cons,RepE.length r]
 | some r :: es,vs,fp,q=>by
  obtain ⟨y,ys,e,v,a,b,e1,e2,r1,r2⟩:=q
  rw [e,List.length_cons,List.length_cons,RepE.length r2]
theorem RepE.take:∀ {es:Env} {vs:List (Option V)} {fp:List Addr} {i:Nat} {r:R},RepE K G H es vs fp->es[i]?=some (some r)->
  ∃ v a b,vs[i]?=some (some v)/\RepO K G H r.1 r.2 v a/\RepE K G H (es.set i none) vs b/\fp.Perm (a++b)
 | [],_,_,_,_,_,e=>by simp at e
 | none :: es,vs,fp,0,r,q,e=>by simp at e
 | some r' :: es,vs,fp,0,r,q,e=>by
  obtain ⟨y,ys,e0,v,a,b,e1,e2,r1,r2⟩:=q
  simp at e
  subst e
  subst e0
  subst e1
  exact ⟨v,a,b,rfl,r1,⟨some v,ys,rfl,r2⟩,by rw [e2]⟩
 | none :: es,vs,fp,i + 1,r,q,e=>by
  obtain ⟨y,ys,e0,q⟩:=q
  obtain ⟨v,a,b,g1,g2,g3,g4⟩:=RepE.take q (i:=i) (r:=r) (by simpa using e)
  subst e0
  exact ⟨v,a,b,by simpa using g1,g2,⟨y,ys,rfl,g3⟩,g4⟩
 | some r' :: es,vs,fp,i + 1,r,q,e=>by
  obtain ⟨y,ys,e0,v',a',b',e1,e2,r1,r2⟩:=q
  obtain ⟨v,a,b,g1,g2,g3,g4⟩:=RepE.take r2 (i:=i) (r:=r) (by simpa using e)
  subst e0
  refine ⟨v,a,a'++b,by simpa using g1,g2,⟨y,ys,rfl,v',a',b,e1,rfl,r1,g3⟩,?_⟩
  rw [e2]
  refine (List.Perm.append_left a' g4).trans ?_
  rw [<-List.append_assoc,<-List.append_assoc]
  exact List.Perm.append_right b List.perm_append_comm
theorem RepE.put:∀ {es:Env} {vs:List (Option V)} {b:List Addr} {i:Nat} {r:R} {v:V} {a:List Addr},RepE K G H es vs b->es[i]?=some none->RepO K G H r.1 r.2 v a->
  ∃ fp,RepE K G H (es.set i (some r)) (vs.set i (some v)) fp/\fp.Perm (a++b)
 | [],_,_,_,_,_,_,_,e,_=>by simp at e
 | none :: es,vs,b,0,r,v,a,q,e,ro=>by
  obtain ⟨y,ys,e0,q⟩:=q
  subst e0
  exact ⟨a++b,⟨some v,ys,rfl,v,a,b,rfl,rfl,ro,q⟩,.refl _⟩
 | some r' :: es,vs,b,0,r,v,a,q,e,ro=>by simp at e
 | none :: es,vs,b,i + 1,r,v,a,q,e,ro=>by
  obtain ⟨y,ys,e0,q⟩:=q
  obtain ⟨fp,g1,g2⟩:=RepE.put q (i:=i) (r:=r) (by simpa using e) ro
  subst e0
  exact ⟨fp,⟨y,_,rfl,g1⟩,g2⟩
 | some r' :: es,vs,b,i + 1,r,v,a,q,e,ro=>by
  obtain ⟨y,ys,e0,v',a',b',e1,e2,r1,r2⟩:=q
  obtain ⟨fp,g1,g2⟩:=RepE.put r2 (i:=i) (r:=r) (by simpa using e) ro
  subst e0
  refine ⟨a'++fp,⟨y,_,rfl,v',a',fp,e1,rfl,r1,g1⟩,?_⟩
  rw [e2]
  refine (List.Perm.append_left a' g2).trans ?_
  rw [<-List.append_assoc,<-List.append_assoc]
  exact List.Perm.append_right b' List.perm_append_comm
structure Rel (K:W.Frag) (G H:Hp) (es:Env) (vs:List (Option V)) (fp:List Addr):Prop where
 rep:RepE K G H es vs fp
 nd:fp.Nodup
 gn:∀ p∈fp,G p=none
 gh:Same G H
structure Step (G H:Hp) (fp:List Addr) (G' H':Hp) (FR:List Addr):Prop where
 gg:Same G G'
 keep:∀ q u,H q=some u->q∉fp->H' q=some u
 fpn:∀ q∈FR,q∈fp\/H q=none
 gnew:∀ q u,G' q=some u->G q=some u\/q∈fp\/H q=none\/isT u=true/\H q=some u
 there:∀ q u,H q=some u->∃ u',H' q=some u'
theorem Step.refl {fp:List Addr}:Step G H fp G H fp:=⟨.refl _,fun _ _ h _=>h,fun _ h=>.inl h,fun _ _ h=>.inl h,fun _ u h=>⟨u,h⟩⟩
theorem Step.trans {G1 H1 G2 H2:Hp} {fp F5 Gp:List Addr} (a:Step G H fp G1 H1 F5) (b:Step G1 H1 F5 G2 H2 Gp):Step G H fp G2 H2 Gp:=by
 refine ⟨a.gg.trans b.gg,fun q u h n=>?_,fun q hq=>?_,fun q u hq=>?_,fun q u h=>?_⟩
 ·refine b.keep q u (a.keep q u h n) fun hq=>?_
  rcases a.fpn q hq with z | z
  ·exact n z
  ·rw [z] at h;cases h
 ·rcases b.fpn q hq with z | z
  ·exact a.fpn q z
  ·cases e:H q with
   | none=>exact .inr rfl
   | some u=>
    obtain ⟨u',e'⟩:=a.there q u e
    rw [z] at e';cases e'
 ·rcases b.gnew q u hq with z | z | z | ⟨t,z⟩
  ·exact a.gnew q u z
  ·exact .inr ((a.fpn q z).imp_right .inl)
  ·cases e:H q with
   | none=>exact .inr (.inr (.inl rfl))
   | some u=>
    obtain ⟨u',e'⟩:=a.there q u e
    rw [z] at e';cases e'
  ·cases e:H q with
   | none=>exact .inr (.inr (.inl rfl))
   | some u2=>
    by_cases hf:q∈fp
    ·exact .inr (.inl hf)
    ·rw [a.keep q u2 e hf] at z
     cases z
     exact .inr (.inr (.inr ⟨t,rfl⟩))
 ·obtain ⟨u',h'⟩:=a.there q u h
  exact b.there q u' h'
theorem Step.wide {fp fq FR P9:List Addr} (a:Step G H fp G' H' FR) (h:∀ q∈fp,q∈fq) (h':∀ q∈P9,q∈FR\/q∈fq):Step G H fq G' H' P9:=
 ⟨a.gg,fun q u e n=>a.keep q u e fun z=>n (h q z),fun q hq=>(h' q hq).elim (fun z=>(a.fpn q z).imp_left (h q)) .inl,fun q u e=>(a.gnew q u e).imp_right (Or.imp_left (h q)),a.there⟩
theorem Rel.perm {es:Env} {vs:List (Option V)} {fp fq:List Addr} (r:RepE K G H es vs fq) (nd:fp.Nodup) (gn:∀ p∈fp,G p=none) (gh:Same G H) (h:fp.Perm fq):Rel K G H es vs fq:=
 ⟨r,h.nodup_iff.mp nd,fun p hp=>gn p (h.mem_iff.mpr hp),gh⟩
theorem Rel.frame {r:R} {v:V} {es:Env} {vs:List (Option V)} {fp:List Addr} (q:Rel K G H (some r :: es) (some v :: vs) fp) :
  ∃ a b,fp=a++b/\RepO K G H r.1 r.2 v a/\Rel K G H es vs b/\∀ (G' H':Hp) (Md:Env) (NF:List (Option V)) (b':List Addr),Step G H b G' H' b'->Rel K G' H' Md NF b'->
   Rel K G' H' (some r :: Md) (some v :: NF) (a++b')/\Step G H (a++b) G' H' (a++b'):=by
 obtain ⟨y,ys,e,v',a,b,e1,e2,r1,r2⟩:=q.rep
 cases e
 cases e1
 subst e2
 have nd:=List.nodup_append.mp q.nd
 refine ⟨a,b,rfl,r1,⟨r2,nd.2.1,fun p hp=>q.gn p (List.mem_append_right _ hp),q.gh⟩,fun G' H' Md NF b' st k=>?_⟩
 have nb:∀ p∈a,p∉b:=fun p hp hb=>nd.2.2 p hp p hb rfl
 have same:∀ p∈a,H' p=H p:=fun p hp=>by
  obtain ⟨u,hu⟩:=r1.live p hp
  rw [hu]
  exact st.keep p u hu (nb p hp)
 refine ⟨⟨⟨some v,NF,rfl,v,a,b',rfl,rfl,r1.step st.gg same,k.rep⟩,?_,fun p hp=>?_,k.gh⟩,st.wide (fun p hp=>List.mem_append_right _ hp) fun p hp=>?_⟩
 ·rw [List.nodup_append]
  refine ⟨nd.1,k.nd,fun p hp z hz e=>?_⟩
  subst e
  obtain ⟨u,hu⟩:=r1.live p hp
  rcases st.fpn p hz with z | z
  ·exact nb p hp z
  ·rw [z] at hu;cases hu
 ·rcases List.mem_append.mp hp with hp | hp
  ·cases e:G' p with
   | none=>rfl
   | some u=>
    exfalso
    obtain ⟨u',hu⟩:=r1.live p hp
    rcases st.gnew p u e with z | z | z | ⟨t,z⟩
    ·rw [q.gn p (List.mem_append_left _ hp)] at z;cases z
    ·exact nb p hp z
    ·rw [z] at hu;cases hu
    ·obtain ⟨u2,h2,hm⟩:=r1.mut p hp
     rw [z] at h2
     cases h2
     cases u with
     | tup _=>cases hm
     | frz _ _=>cases hm
     | _=>cases t
  ·exact k.gn p hp
 ·rcases List.mem_append.mp hp with hp | hp
  ·exact .inr (List.mem_append_left _ hp)
  ·exact .inl hp
theorem Rel.freeze {r:R} {v:V} {es:Env} {vs:List (Option V)} {fp:List Addr} (q:Rel K G H (some r :: es) (some v :: vs) fp) :
  ∃ G' b,Rep K G' r.2 v/\Rel K G' H es vs b/\Step G H fp G' H b:=by
 obtain ⟨y,ys,e,v',a,b,e1,e2,r1,r2⟩:=q.rep
 cases e
 cases e1
 subst e2
 have nd:=List.nodup_append.mp q.nd
 have nb:∀ p∈a,p∉b:=fun p hp hb=>nd.2.2 p hp p hb rfl
 have hg:Same G (fun p=>if p∈a then H p else G p):=fun p u e=>by
  show (if p∈a then H p else G p)=some u
  by_cases hp:p∈a
  ·rw [if_pos hp]
   exact q.gh p u e
  ·rw [if_neg hp]
   exact e
 refine ⟨fun p=>if p∈a then H p else G p,b,r1.frozen hg fun p hp u e=>?_,⟨r2.step hg fun _ _=>rfl,nd.2.1,fun p hp=>?_,fun p u e=>?_⟩,⟨hg,fun _ _ e _=>e,fun p hp=>.inl (List.mem_append_right _ hp),fun p u e=>?_,fun _ u e=>⟨u,e⟩⟩⟩
 ·show (if p∈a then H p else G p)=some u
  rw [if_pos hp]
  exact e
 ·show (if p∈a then H p else G p)=none
  rw [if_neg (fun z=>nb p z hp)]
  exact q.gn p (List.mem_append_right _ hp)
 ·have e:(if p∈a then H p else G p)=some u:=e
  by_cases hp:p∈a
  ·rw [if_pos hp] at e
   exact e
  ·rw [if_neg hp] at e
   exact q.gh p u e
 ·have e:(if p∈a then H p else G p)=some u:=e
  by_cases hp:p∈a
  ·exact .inr (.inl (List.mem_append_left _ hp))
  ·rw [if_neg hp] at e
   exact .inl e
end
section
variable {K:W.Frag} {G G' H H':Hp} {es:Env} {vs:List (Option V)} {fp:List Addr}
theorem qZ:∀ {ds:List D} {xs:List V} {fp:List Addr},AllO (RepO K G H .f) ds xs fp<->Reps K G ds xs/\fp=[]
 | [],xs,fp=>by simp only [AllO,Reps]
 | d :: ds,xs,fp=>by
  simp only [AllO,Reps,RepO]
  constructor
  ·rintro ⟨y,ys,a,b,e1,e2,⟨r,e3⟩,q⟩
   obtain ⟨q1,q2⟩:=qZ.mp q
   subst e3
   subst q2
   exact ⟨⟨y,ys,e1,r,q1⟩,e2⟩
  ·rintro ⟨⟨y,ys,e1,r,q1⟩,e⟩
   exact ⟨y,ys,[],[],e1,e,⟨r,rfl⟩,qZ.mpr ⟨q1,rfl⟩⟩
theorem j5 {d:D} {v:V} {a:List Addr}:RepO K G H .f d v a<->Rep K G d v/\a=[]:=by simp only [RepO]
theorem nE {ds:List D} {v:V} {a:List Addr}:RepO K G H (.l .f) (.lst ds) v a<->∃ p xs,v=.ref p/\H p=some (.lst xs)/\a=[p]/\Reps K G ds xs:=by
 rw [RepO]
 constructor
 ·rintro ⟨p,xs,b,e,q,e2,r⟩
  obtain ⟨r',eb⟩:=qZ.mp r
  subst eb
  exact ⟨p,xs,e,q,e2,r'⟩
 ·rintro ⟨p,xs,e,q,e2,r⟩
  exact ⟨p,xs,[],e,q,e2,qZ.mpr ⟨r,rfl⟩⟩
theorem Reps.length:∀ {ds:List D} {xs:List V},Reps K G ds xs->xs.length=ds.length
 | [],xs,r=>by simp only [Reps] at r;rw [r];rfl
 | d :: ds,xs,r=>by
  simp only [Reps] at r
  obtain ⟨y,ys,e,_,q⟩:=r
  rw [e,List.length_cons,List.length_cons,Reps.length q]
theorem Reps.get:∀ {ds:List D} {xs:List V} {i:Nat} {d:D},Reps K G ds xs->ds[i]?=some d->∃ v,xs[i]?=some v/\Rep K G d v
 | [],_,_,_,_,e=>by simp at e
 | d' :: ds,xs,0,d,r,e=>by
  simp only [Reps] at r
  obtain ⟨y,ys,e1,q,_⟩:=r
  simp at e
  subst e
  exact ⟨y,by rw [e1];rfl,q⟩
 | d' :: ds,xs,i + 1,d,r,e=>by
  simp only [Reps] at r
  obtain ⟨y,ys,e1,_,q⟩:=r
  obtain ⟨v,a,b⟩:=Reps.get q (i:=i) (d:=d) (by simpa using e)
  exact ⟨v,by rw [e1];simpa using a,b⟩
theorem Reps.app:∀ {ds es:List D} {xs ys:List V},Reps K G ds xs->Reps K G es ys->Reps K G (ds++es) (xs++ys)
 | [],_,_,_,r,q=>by simp only [Reps] at r;rw [r];exact q
 | d :: ds,es,xs,ys,r,q=>by
  simp only [Reps] at r
  obtain ⟨z,zs,e,r1,r2⟩:=r
  rw [e]
  simp only [List.cons_append,Reps]
  exact ⟨z,_,rfl,r1,r2.app q⟩
theorem Reps.one {d:D} {v:V} (r:Rep K G d v):Reps K G [d] [v]:=by
 simp only [Reps]
 exact ⟨v,[],rfl,r,rfl⟩
theorem Reps.nil:Reps K G [] []:=by simp only [Reps]
theorem Reps.cons {d:D} {v:V} {ds:List D} {xs:List V} (r:Rep K G d v) (q:Reps K G ds xs):Reps K G (d :: ds) (v :: xs):=by
 simp only [Reps]
 exact ⟨v,xs,rfl,r,q⟩
theorem Reps.cons_iff {d:D} {v:V} {ds:List D} {xs:List V}:Reps K G (d :: ds) (v :: xs)<->Rep K G d v/\Reps K G ds xs:=by
 simp only [Reps]
 constructor
 ·rintro ⟨y,ys,e,r,q⟩
  cases e
  exact ⟨r,q⟩
 ·rintro ⟨r,q⟩
  exact ⟨v,xs,rfl,r,q⟩
theorem Reps.take:∀ {ds:List D} {xs:List V} (n:Nat),Reps K G ds xs->Reps K G (ds.take n) (xs.take n)
 | _,_,0,_=>by rw [List.take_zero,List.take_zero];exact Reps.nil
 | [],xs,n + 1,r=>by simp only [Reps] at r;rw [r];exact Reps.nil
 | d :: ds,xs,n + 1,r=>by
  simp only [Reps] at r
  obtain ⟨y,ys,e,r1,r2⟩:=r
  rw [e,List.take_succ_cons,List.take_succ_cons]
  exact .cons r1 (r2.take n)
theorem Reps.drop:∀ {ds:List D} {xs:List V} (n:Nat),Reps K G ds xs->Reps K G (ds.drop n) (xs.drop n)
 | _,_,0,r=>r
 | [],xs,n + 1,r=>by simp only [Reps] at r;rw [r];exact Reps.nil
 | d :: ds,xs,n + 1,r=>by
  simp only [Reps] at r
  obtain ⟨y,ys,e,r1,r2⟩:=r
  rw [e,List.drop_succ_cons,List.drop_succ_cons]
  exact r2.drop n
theorem Reps.set:∀ {ds:List D} {xs:List V} (n:Nat) {d:D} {v:V},Reps K G ds xs->Rep K G d v->Reps K G (ds.set n d) (xs.set n v)
 | [],xs,n,d,v,r,q=>by simp only [Reps] at r;rw [r];exact Reps.nil
 | d' :: ds,xs,0,d,v,r,q=>by
  simp only [Reps] at r
  obtain ⟨y,ys,e,r1,r2⟩:=r
  rw [e]
  exact .cons q r2
 | d' :: ds,xs,n + 1,d,v,r,q=>by
  simp only [Reps] at r
  obtain ⟨y,ys,e,r1,r2⟩:=r
  rw [e]
  exact .cons r1 (r2.set n q)
theorem Step.cut {fq:List Addr} (h:∀ q∈fq,q∈fp):Step G H fp G H fq:=⟨.refl _,fun _ _ e _=>e,fun q hq=>.inl (h q hq),fun _ _ e=>.inl e,fun _ u e=>⟨u,e⟩⟩
theorem Rel.drop {r:R} {y:Option V} (q:Rel K G H (some r :: es) (y :: vs) fp):∃ b,Rel K G H es vs b/\Step G H fp G H b:=by
 obtain ⟨y,ys,e,v',a,b,e1,e2,r1,r2⟩:=q.rep
 cases e
 cases e1
 subst e2
 have nd:=List.nodup_append.mp q.nd
 exact ⟨b,⟨r2,nd.2.1,fun p hp=>q.gn p (List.mem_append_right _ hp),q.gh⟩,Step.cut fun p hp=>List.mem_append_right _ hp⟩
theorem Rel.top {r:R} {v:V} (q:Rel K G H (some r :: es) (some v :: vs) fp):Rep K H r.2 v:=by
 obtain ⟨y,ys,e,v',a,b,e1,e2,r1,r2⟩:=q.rep
 cases e
 cases e1
 exact r1.frozen q.gh fun p hp u e=>e
theorem Rel.out {i:Nat} {r:R} (q:Rel K G H es vs fp) (e:es[i]?=some (some r)):∃ v fq,vs[i]?=some (some v)/\Rel K G H (some r :: es.set i none) (some v :: vs) fq/\Step G H fp G H fq/\Step G H fq G H fp:=by
 obtain ⟨v,a,b,e1,r1,r2,pm⟩:=q.rep.take e
 exact ⟨v,a++b,e1,Rel.perm ⟨some v,vs,rfl,v,a,b,rfl,rfl,r1,r2⟩ q.nd q.gn q.gh pm,Step.cut fun p hp=>pm.mem_iff.mpr hp,Step.cut fun p hp=>pm.mem_iff.mp hp⟩
theorem Rel.view {i:Nat} {r:R} (q:Rel K G H es vs fp) (e:es[i]?=some (some r)):∃ v,vs[i]?=some (some v)/\Rep K H r.2 v:=by
 obtain ⟨v,fq,e1,r1,_⟩:=q.out e
 exact ⟨v,e1,r1.top⟩
theorem nF {α:Type} {l:List α} {i:Nat} {x:α} (h:l[i]?=some x):l.set i x=l:=by
 apply List.ext_getElem?
 intro j
 by_cases e:i=j
 ·subst e
  rw [List.getElem?_set_self (List.getElem?_eq_some_iff.mp h).1,h]
 ·rw [List.getElem?_set_ne e]
theorem Rel.store {i:Nat} {r:R} {v:V} (q:Rel K G H (some r :: es) (some v :: vs) fp) (hi:i < es.length):∃ fq,Rel K G H (es.set i (some r)) (vs.set i (some v)) fq/\Step G H fp G H fq:=by
 obtain ⟨y,ys,e,v',a,b,e1,e2,r1,r2⟩:=q.rep
 cases e
 cases e1
 subst e2
 obtain ⟨c,hc⟩:∃ c,es[i]?=some c:=⟨_,List.getElem?_eq_getElem hi⟩
 have nd:=List.nodup_append.mp q.nd
 have key:∃ b',RepE K G H (es.set i none) vs b'/\(∀ p∈b',p∈b)/\b'.Nodup:=by
  cases c with
  | none=>exact ⟨b,by rw [nF hc];exact r2,fun _ h=>h,nd.2.1⟩
  | some r'=>
   obtain ⟨v2,a2,b2,_,_,g,pm⟩:=r2.take hc
   refine ⟨b2,g,fun p hp=>pm.mem_iff.mpr (List.mem_append_right _ hp),?_⟩
   exact (List.nodup_append.mp (pm.nodup_iff.mp nd.2.1)).2.1
 obtain ⟨b',g,sub,ndb⟩:=key
 obtain ⟨fq,g2,pm⟩:=g.put (i:=i) (r:=r) (v:=v) (by rw [List.getElem?_set_self hi]) r1
 rw [List.set_set] at g2
 have Mu:(a++b').Nodup:=by
  rw [List.nodup_append]
  exact ⟨nd.1,ndb,fun p hp z hz=>nd.2.2 p hp z (sub z hz)⟩
 refine ⟨fq,Rel.perm g2 Mu (fun p hp=>?_) q.gh pm.symm,Step.cut fun p hp=>?_⟩
 ·refine q.gn p ?_
  rcases List.mem_append.mp hp with hp | hp
  ·exact List.mem_append_left _ hp
  ·exact List.mem_append_right _ (sub p hp)
 ·rcases List.mem_append.mp (pm.mem_iff.mp hp) with hp | hp
  ·exact List.mem_append_left _ hp
  ·exact List.mem_append_right _ (sub p hp)
theorem Rel.back {i:Nat} {r:R} {v:V} (q:Rel K G H (some r :: es) (some v :: vs) fp) (hi:i < es.length) (hv:vs[i]?=some (some v)):∃ fq,Rel K G H (es.set i (some r)) vs fq/\Step G H fp G H fq:=by
 obtain ⟨fq,g,st⟩:=q.store hi
 rw [nF hv] at g
 exact ⟨fq,g,st⟩
theorem Rel.freezeAt {i:Nat} {r:R} (q:Rel K G H es vs fp) (e:es[i]?=some (some r)):∃ v G' fq,vs[i]?=some (some v)/\Rep K G' r.2 v/\Rel K G' H (es.set i (some (.f,r.2))) vs fq/\Step G H fp G' H fq:=by
 obtain ⟨v,fq,ev,g,st,_⟩:=q.out e
 obtain ⟨G',b,rv,g2,FV⟩:=g.freeze
 have g3:Rel K G' H (some (.f,r.2) :: es.set i none) (some v :: vs) b:=by
  refine ⟨⟨some v,vs,rfl,v,[],b,rfl,rfl,?_,g2.rep⟩,g2.nd,g2.gn,g2.gh⟩
  exact j5.mpr ⟨rv,rfl⟩
 obtain ⟨fz,g4,Hg⟩:=g3.back (i:=i) (by rw [List.length_set];exact (List.getElem?_eq_some_iff.mp e).1) ev
 rw [List.set_set] at g4
 exact ⟨v,G',fz,ev,rv,g4,st.trans (FV.trans Hg)⟩
theorem Rel.push {d:D} {v:V} (q:Rel K G H es vs fp) (r:Rep K G d v):Rel K G H (some (.f,d) :: es) (some v :: vs) fp:=by
 refine ⟨⟨some v,vs,rfl,v,[],fp,rfl,rfl,?_,q.rep⟩,q.nd,q.gn,q.gh⟩
 exact j5.mpr ⟨r,rfl⟩
theorem Rel.newF {p:Addr} {u:HO} (q:Rel K G H es vs fp) (hp:H p=none):Rel K (upd G p u) (upd H p u) es vs fp/\Step G H fp (upd G p u) (upd H p u) fp:=by
 have gp:G p=none:=by
  cases e:G p with
  | none=>rfl
  | some o=>rw [q.gh p o e] at hp;cases hp
 have np:p∉fp:=fun z=>by
  obtain ⟨u,e⟩:=q.rep.live p z
  rw [hp] at e;cases e
 have sg:Same G (upd G p u):=fun b o e=>by rw [aU (bA e gp)];exact e
 have sh:Same H (upd H p u):=fun b o e=>by rw [aU (bA e hp)];exact e
 refine ⟨⟨q.rep.step sg fun z hz=>aU fun e=>np (e▸hz),q.nd,fun z hz=>?_,fun b o e=>?_⟩,⟨sg,fun b o e _=>sh b o e,fun _ h=>.inl h,fun b o e=>?_,fun b o e=>⟨o,sh b o e⟩⟩⟩
 ·have:z≠p:=fun e=>np (e▸hz)
  rw [aU this]
  exact q.gn z hz
 ·by_cases hb:b=p
  ·subst hb
   rw [bZ] at e ⊢
   exact e
  ·rw [aU hb] at e ⊢
   exact q.gh b o e
 ·by_cases hb:b=p
  ·subst hb
   exact .inr (.inr (.inl hp))
  ·rw [aU hb] at e
   exact .inl e
theorem Rel.newL {p:Addr} {ds:List D} {xs:List V} (q:Rel K G H es vs fp) (hp:H p=none) (r:Reps K G ds xs) :
  Rel K G (upd H p (.lst xs)) (some (.l .f,.lst ds) :: es) (some (.ref p) :: vs) (p :: fp)/\Step G H fp G (upd H p (.lst xs)) (p :: fp):=by
 have gp:G p=none:=by
  cases e:G p with
  | none=>rfl
  | some o=>rw [q.gh p o e] at hp;cases hp
 have np:p∉fp:=fun z=>by
  obtain ⟨u,e⟩:=q.rep.live p z
  rw [hp] at e;cases e
 have sh:Same H (upd H p (.lst xs)):=fun b o e=>by rw [aU (bA e hp)];exact e
 refine ⟨⟨⟨some (.ref p),vs,rfl,.ref p,[p],fp,rfl,rfl,nE.mpr ⟨p,xs,rfl,bZ,rfl,r⟩,q.rep.step (.refl _) fun z hz=>aU fun e=>np (e▸hz)⟩,List.nodup_cons.mpr ⟨np,q.nd⟩,fun z hz=>?_,fun b o e=>?_⟩,
  ⟨.refl _,fun b o e _=>sh b o e,fun b hb=>?_,fun b o e=>.inl e,fun b o e=>⟨o,sh b o e⟩⟩⟩
 ·rcases List.mem_cons.mp hz with rfl | hz
  ·exact gp
  ·exact q.gn z hz
 ·exact sh b o (q.gh b o e)
 ·rcases List.mem_cons.mp hb with rfl | hb
  ·exact .inr hp
  ·exact .inl hb
theorem Rel.chg {i:Nat} {ds ds':List D} (q:Rel K G H es vs fp) (e:es[i]?=some (some (.l .f,.lst ds))):∃ p xs,vs[i]?=some (some (.ref p))/\H p=some (.lst xs)/\Reps K G ds xs/\
  ∀ Hy,Reps K G ds' Hy->∃ fq,Rel K G (upd H p (.lst Hy)) (es.set i (some (.l .f,.lst ds'))) vs fq/\Step G H fp G (upd H p (.lst Hy)) fq:=by
 obtain ⟨v,fq,ev,g,st,HG⟩:=q.out e
 obtain ⟨y,ys,e0,v',a,b,e1,e2,r1,r2⟩:=g.rep
 cases e0
 cases e1
 obtain ⟨p,xs,e3,hp,e4,rs⟩:=nE.mp r1
 subst e3
 subst e4
 subst e2
 have nd:=List.nodup_cons.mp (show (p :: b).Nodup from g.nd)
 refine ⟨p,xs,ev,hp,rs,fun Hy HY=>?_⟩
 have g2:Rel K G (upd H p (.lst Hy)) (some (.l .f,.lst ds') :: es.set i none) (some (.ref p) :: vs) (p :: b):=by
  refine ⟨⟨some (.ref p),vs,rfl,.ref p,[p],b,rfl,rfl,nE.mpr ⟨p,Hy,rfl,bZ,rfl,HY⟩,r2.step (.refl _) fun z hz=>aU fun e=>nd.1 (e▸hz)⟩,g.nd,g.gn,fun z o ez=>?_⟩
  have:z≠p:=fun w=>by
   subst w
   rw [g.gn z List.mem_cons_self] at ez;cases ez
  rw [aU this]
  exact g.gh z o ez
 have Pj:Step G H (p :: b) G (upd H p (.lst Hy)) (p :: b):=by
  refine ⟨.refl _,fun z o ez nz=>?_,fun z hz=>.inl hz,fun z o ez=>.inl ez,fun z o ez=>?_⟩
  ·have:z≠p:=fun w=>nz (by rw [w];exact List.mem_cons_self)
   rw [aU this]
   exact ez
  ·by_cases w:z=p
   ·subst w
    exact ⟨_,bZ⟩
   ·exact ⟨o,by rw [aU w];exact ez⟩
 obtain ⟨fz,g3,Gj⟩:=g2.back (i:=i) (by rw [List.length_set];exact (List.getElem?_eq_some_iff.mp e).1) ev
 rw [List.set_set] at g3
 exact ⟨fz,g3,st.trans (Pj.trans Gj)⟩
end
mutual
noncomputable def dk:D->Bool
 | .tup ds=>flatDs ds
 | .lst _=>false
 | .dct _ _ _=>false
 | _=>true
noncomputable def flatDs:List D->Bool
 | []=>true
 | d :: ds=>dk d && flatDs ds
end
mutual
noncomputable def cu:O->D->Bool
 | .f,d=>dk d
 | .l c,.lst ds=>ds.all (cu c)
 | .t cs,.tup ds=>pb cs ds
 | .d,.dct _ _ vs=>flatDs vs
 | .pin _ c,d=>cu c d
 | _,_=>false
noncomputable def pb:List O->List D->Bool
 | [],[]=>true
 | c :: cs,d :: ds=>cu c d && pb cs ds
 | _,_=>false
end
noncomputable def frz:Option R->Option R:=Option.map fun r=>(.f,r.2)
theorem bH:∀ ds,flatDs ds=ds.all dk
 | []=>rfl
 | d :: ds=>by rw [flatDs,List.all_cons,bH ds]
section
variable {K:W.Frag} {G G' G2 G3 H H' H2:Hp} {es:Env} {vs:List (Option V)} {fp:List Addr}
mutual
theorem Rep.flat (h:∀ p u,isT u=true->G2 p=some u->G3 p=some u):∀ {d:D} {v:V},dk d=true->Rep K G2 d v->Rep K G3 d v
 | .non,_,_,r=>by simpa only [Rep] using r
 | .bl _,_,_,r=>by simpa only [Rep] using r
 | .int _,_,_,r=>by simpa only [Rep] using r
 | .str _,_,_,r=>by simpa only [Rep] using r
 | .tup ds,_,e,r=>by
  simp only [Rep] at r ⊢
  simp only [dk] at e
  obtain ⟨p,xs,ev,q,rs⟩:=r
  exact ⟨p,xs,ev,h _ _ rfl q,Reps.flat h e rs⟩
 | .lst ds,_,e,r=>by simp only [dk] at e;cases e
 | .dct _ _ _,_,e,r=>by simp only [dk] at e;cases e
theorem Reps.flat (h:∀ p u,isT u=true->G2 p=some u->G3 p=some u):∀ {ds:List D} {xs:List V},flatDs ds=true->Reps K G2 ds xs->Reps K G3 ds xs
 | [],_,_,r=>by simpa only [Reps] using r
 | d :: ds,_,e,r=>by
  simp only [Reps] at r ⊢
  simp only [flatDs,Bool.and_eq_true] at e
  obtain ⟨y,ys,ev,r1,r2⟩:=r
  exact ⟨y,ys,ev,Rep.flat h e.1 r1,Reps.flat h e.2 r2⟩
end
theorem AllO.clean {P P':D->V->List Addr->Prop} {c:D->Bool}:∀ {ds:List D} {xs:List V} {fp:List Addr},(∀ d v a,c d=true->P d v a->P' d v a)->ds.all c=true->AllO P ds xs fp->AllO P' ds xs fp
 | [],_,_,_,_,r=>r
 | d :: ds,xs,fp,h,e,r=>by
  obtain ⟨y,ys,a,b,e1,e2,p,q⟩:=r
  rw [List.all_cons,Bool.and_eq_true] at e
  exact ⟨y,ys,a,b,e1,e2,h _ _ _ e.1 p,AllO.clean h e.2 q⟩
mutual
theorem RepO.clean (h:∀ p u,isT u=true->G2 p=some u->G3 p=some u):∀ {o:O} {d:D} {v:V} {fp:List Addr},cu o d=true->RepO K G2 H o d v fp->RepO K G3 H o d v fp
 | .f,d,v,fp,e,r=>by
  simp only [RepO] at r ⊢
  simp only [cu] at e
  exact ⟨r.1.flat h e,r.2⟩
 | .pin p c,d,v,fp,e,r=>by
  simp only [RepO] at r ⊢
  simp only [cu] at e
  exact ⟨r.1,RepO.clean h e r.2⟩
 | .l c,.lst ds,v,fp,e,r=>by
  rw [RepO] at r ⊢
  rw [cu] at e
  obtain ⟨p,xs,FR,ev,q,e2,a⟩:=r
  exact ⟨p,xs,FR,ev,q,e2,AllO.clean (fun d v a=>RepO.clean h) e a⟩
 | .t cs,.tup ds,v,fp,e,r=>by
  rw [RepO] at r ⊢
  rw [cu] at e
  obtain ⟨p,xs,ev,q,a⟩:=r
  exact ⟨p,xs,ev,h _ _ rfl q,RepT.clean h e a⟩
 | .d,.dct tk ks vs,v,fp,e,r=>by
  rw [RepO] at r ⊢
  rw [cu] at e
  obtain ⟨p,xs,o,ev,q,dd,e2,rs⟩:=r
  exact ⟨p,xs,o,ev,q,dd,e2,rs.flat h e⟩
 | .l _,.non,_,_,_,r | .l _,.bl _,_,_,_,r | .l _,.int _,_,_,_,r | .l _,.str _,_,_,_,r | .l _,.tup _,_,_,_,r | .l _,.dct _ _ _,_,_,_,r=>by simp only [RepO] at r
 | .t _,.non,_,_,_,r | .t _,.bl _,_,_,_,r | .t _,.int _,_,_,_,r | .t _,.str _,_,_,_,r | .t _,.lst _,_,_,_,r | .t _,.dct _ _ _,_,_,_,r=>by simp only [RepO] at r
 | .d,.non,_,_,_,r | .d,.bl _,_,_,_,r | .d,.int _,_,_,_,r | .d,.str _,_,_,_,r | .d,.tup _,_,_,_,r | .d,.lst _,_,_,_,r=>by simp only [RepO] at r
theorem RepT.clean (h:∀ p u,isT u=true->G2 p=some u->G3 p=some u):∀ {cs:List O} {ds:List D} {xs:List V} {fp:List Addr},pb cs ds=true->RepT K G2 H cs ds xs fp->RepT K G3 H cs ds xs fp
 | [],[],_,_,_,r=>by simpa only [RepT] using r
 | c :: cs,d :: ds,xs,fp,e,r=>by
  rw [RepT] at r ⊢
  rw [pb,Bool.and_eq_true] at e
  obtain ⟨y,ys,a,b,e1,e2,r1,r2⟩:=r
  exact ⟨y,ys,a,b,e1,e2,RepO.clean h e.1 r1,RepT.clean h e.2 r2⟩
 | [],_ :: _,_,_,_,r=>by simp only [RepT] at r
 | _ :: _,[],_,_,_,r=>by simp only [RepT] at r
end
theorem RepE.frz (h:Same G G'):∀ {es:Env} {vs:List (Option V)} {fp:List Addr},(∀ p∈fp,∀ u,H p=some u->G' p=some u)->RepE K G H es vs fp->RepE K G' H' (es.map PV.frz) vs []
 | [],_,_,_,r=>⟨r.1,rfl⟩
 | none :: es,vs,fp,hk,r=>by
  obtain ⟨y,ys,e,r⟩:=r
  exact ⟨y,ys,e,RepE.frz h hk r⟩
 | some r :: es,vs,fp,hk,q=>by
  obtain ⟨y,ys,e,v,a,b,e1,e2,r1,r2⟩:=q
  subst e2
  exact ⟨y,ys,e,v,[],[],e1,rfl,j5.mpr ⟨r1.frozen h (fun p hp=>hk p (List.mem_append_left _ hp)),rfl⟩,RepE.frz h (fun p hp=>hk p (List.mem_append_right _ hp)) r2⟩
theorem RepE.rep (h:Same G G'):∀ {es:Env} {vs:List (Option V)} {fp:List Addr} {i:Nat} {r:R} {v:V},(∀ p∈fp,∀ u,H p=some u->G' p=some u)->RepE K G H es vs fp->es[i]?=some (some r)->vs[i]?=some (some v)->Rep K G' r.2 v:=fun {es vs fp i r v} hk q e ev=>by
 obtain ⟨v',a,b,e1,r1,_,pm⟩:=q.take e
 rw [ev] at e1
 cases e1
 exact r1.frozen h fun p hp=>hk p (pm.mem_iff.mpr (List.mem_append_left _ hp))
theorem Rel.lend (q:Rel K G H es vs fp):∃ G1,Same G G1/\Same G1 H/\(∀ (i:Nat) (r:R) (v:V),es[i]?=some (some r)->vs[i]?=some (some v)->Rep K G1 r.2 v)/\
  RepE K G1 H (es.map PV.frz) vs []/\
  ∀ (H2 G2:Hp) (Gp:List Addr) (r:R) (v:V),Step G1 H [] G2 H2 Gp->Rel K G2 H2 [some r] [some v] Gp->
   (cu r.1 r.2=true->∃ G3 Iq,Step G H fp G3 H2 Iq/\Rel K G3 H2 (some r :: es) (some v :: vs) Iq)/\
   ∃ G3 Iq,Step G H fp G3 H2 Iq/\Rel K G3 H2 (some r :: es.map PV.frz) (some v :: vs) Iq:=by
 have hg:Same G (fun p=>if p∈fp then H p else G p):=fun p u e=>by
  show (if p∈fp then H p else G p)=some u
  by_cases hp:p∈fp
  ·rw [if_pos hp]
   exact q.gh p u e
  ·rw [if_neg hp]
   exact e
 have hh:Same (fun p=>if p∈fp then H p else G p) H:=fun p u e=>by
  have e:(if p∈fp then H p else G p)=some u:=e
  by_cases hp:p∈fp
  ·rw [if_pos hp] at e
   exact e
  ·rw [if_neg hp] at e
   exact q.gh p u e
 have hk:∀ p∈fp,∀ u,H p=some u->(fun p=>if p∈fp then H p else G p) p=some u:=fun p hp u e=>by
  show (if p∈fp then H p else G p)=some u
  rw [if_pos hp]
  exact e
 refine ⟨fun p=>if p∈fp then H p else G p,hg,hh,fun i r v e ev=>q.rep.rep hg hk e ev,q.rep.frz hg hk,fun H2 G2 Gp r v st k=>?_⟩
 obtain ⟨y,ys,e0,v',a,b,e1,e2,r1,r2⟩:=k.rep
 cases e0
 cases e1
 obtain ⟨_,e3⟩:=r2
 subst e3
 rw [List.append_nil] at e2
 subst e2
 have fresh:∀ p∈Gp,H p=none:=fun p hp=>by
  rcases st.fpn p hp with z | z
  ·cases z
  ·exact z
 have kept:∀ p∈fp,H2 p=H p:=fun p hp=>by
  obtain ⟨u,hu⟩:=q.rep.live p hp
  rw [hu]
  exact st.keep p u hu (by simp)
 refine ⟨fun cl=>?_,⟨G2,Gp,⟨hg.trans st.gg,fun p u e n=>st.keep p u e (by simp),fun p hp=>.inr (fresh p hp),fun p u e=>?_,st.there⟩,?_⟩⟩
 ·have apart:∀ p∈Gp,p∉fp:=fun p hp hf=>by
   obtain ⟨u,hu⟩:=q.rep.live p hf
   rw [fresh p hp] at hu;cases hu
  have g3:Same G (fun p=>if p∈fp then none else G2 p):=fun p u e=>by
   show (if p∈fp then none else G2 p)=some u
   rw [if_neg (fun z=>by rw [q.gn p z] at e;cases e)]
   exact st.gg p u (hg p u e)
  refine ⟨fun p=>if p∈fp then none else G2 p,Gp++fp,⟨g3,fun p u e n=>st.keep p u e (by simp),fun p hp=>?_,fun p u e=>?_,st.there⟩,⟨⟨some v,vs,rfl,v,Gp,fp,rfl,rfl,r1.clean (fun p u t e=>?_) cl,q.rep.step g3 kept⟩,?_,fun p hp=>?_,fun p u e=>?_⟩⟩
  ·rcases List.mem_append.mp hp with hp | hp
   ·exact .inr (fresh p hp)
   ·exact .inl hp
  ·have e:(if p∈fp then none else G2 p)=some u:=e
   by_cases hp:p∈fp
   ·rw [if_pos hp] at e;cases e
   ·rw [if_neg hp] at e
    rcases st.gnew p u e with z | z | z
    ·have z:(if p∈fp then H p else G p)=some u:=z
     rw [if_neg hp] at z
     exact .inl z
    ·cases z
    ·exact .inr (.inr z)
  ·show (if p∈fp then none else G2 p)=some u
   by_cases hp:p∈fp
   ·exfalso
    obtain ⟨u',hu,hm⟩:=q.rep.mut p hp
    have:=st.gg p u' (hk p hp u' hu)
    rw [e] at this
    cases this
    cases u with
    | lst _=>cases t
    | dK _=>cases t
    | dT _=>cases t
    | _=>cases hm
   ·rw [if_neg hp]
    exact e
  ·rw [List.nodup_append]
   exact ⟨k.nd,q.nd,fun p hp z hz e=>apart p hp (e▸hz)⟩
  ·show (if p∈fp then none else G2 p)=none
   by_cases hf:p∈fp
   ·rw [if_pos hf]
   ·rw [if_neg hf]
    rcases List.mem_append.mp hp with hp | hp
    ·exact k.gn p hp
    ·exact absurd hp hf
  ·have e:(if p∈fp then none else G2 p)=some u:=e
   by_cases hp:p∈fp
   ·rw [if_pos hp] at e;cases e
   ·rw [if_neg hp] at e
    exact k.gh p u e
 ·rcases st.gnew p u e with z | z | z
  ·have z:(if p∈fp then H p else G p)=some u:=z
   by_cases hp:p∈fp
   ·exact .inr (.inl hp)
   ·rw [if_neg hp] at z
    exact .inl z
  ·cases z
  ·exact .inr (.inr z)
 ·refine ⟨⟨some v,vs,rfl,v,Gp,[],rfl,(List.append_nil _).symm,r1,q.rep.frz (hg.trans st.gg) fun p hp u e=>st.gg p u (hk p hp u e)⟩,k.nd,k.gn,k.gh⟩
end
end PV
namespace PV
open PySem PySem.Spec PyProof.Rows L2 NX
noncomputable def Res.bind {α β:Type}:Res α->(α->Res β)->Res β
 | .ok a,f=>f a
 | .exc c,_=>.exc c
 | .bad,_=>.bad
inductive BindOk {α β:Type} (x:Res α) (f:α->Res β) (b:β):Prop
 | mk (a:α) (h:x=.ok a) (k:f a=.ok b):BindOk x f b
theorem ar {α β:Type} {x:Res α} {f:α->Res β} {b:β} (h:x.bind f=.ok b):BindOk x f b:=by
 cases x with
 | ok a=>exact ⟨a,rfl,h⟩
 | exc c=>cases h
 | bad=>cases h
inductive Opd where
 | val (d:D) | var (i:Nat)
noncomputable def OpdOk (K:W.Frag) (G:Hp) (σ:L2.St):Opd->V->Prop
 | .val d,v=>Rep K G d v
 | .var i,v=>σ[i]?=some (some v)
theorem OpdOk.mono {K:W.Frag} {G G':Hp} {σ:L2.St} {o:Opd} {v:V} (h:Same G G') (r:OpdOk K G σ o v):OpdOk K G' σ o v:=by
 cases o with
 | val d=>exact Rep.mono h r
 | var i=>exact r
noncomputable def q0 (K:W.Frag) (G:Hp) (σ:L2.St):List Opd->List V->Prop
 | [],vs=>vs=[]
 | o :: os,vs=>∃ y ys,vs=y :: ys/\OpdOk K G σ o y/\q0 K G σ os ys
noncomputable def xb:O->Bool
 | .f=>true
 | .l .f=>true
 | .d=>true
 | .pin _ .f=>true
 | .pin _ (.l .f)=>true
 | .pin _ .d=>true
 | _=>false
noncomputable def Hh (env:PV.Env):Opd->Res D
 | .val d=>.ok d
 | .var i=>match env[i]? with
  | some (some r)=>if xb r.1 then .ok r.2 else .bad
  | _=>.bad
noncomputable def tL (env:PV.Env):Opd->Res D
 | .val d=>.ok d
 | .var i=>match env[i]? with
  | some (some r)=>.ok r.2
  | _=>.bad
noncomputable def pd (env:PV.Env):List Opd->Res (List D)
 | []=>.ok []
 | o :: os=>(Hh env o).bind fun d=>(pd env os).bind fun ds=>.ok (d :: ds)
noncomputable def mq (env:PV.Env):List Opd->Res (List D)
 | []=>.ok []
 | o :: os=>(tL env o).bind fun d=>(mq env os).bind fun ds=>.ok (d :: ds)
noncomputable def Vw (K:W.Frag) (G H:Hp):D->V->Prop
 | .lst ds,v=>∃ p xs,v=.ref p/\SqL K H p xs/\Reps K G ds xs
 | .dct tk ks vs,v=>∃ p xs o,v=.ref p/\Rd H p o/\DictO o tk ks xs/\Reps K G vs xs
 | d,v=>Rep K G d v
noncomputable def L7 (K:W.Frag) (G H:Hp):List D->List V->Prop
 | [],vs=>vs=[]
 | d :: ds,vs=>∃ y ys,vs=y :: ys/\Vw K G H d y/\L7 K G H ds ys
section
variable {K:W.Frag} {G G' H H':Hp} {es:PV.Env} {σ:L2.St} {fp:List Addr}
theorem Vw.of {d:D} {v:V} (gh:Same G H) (r:Rep K G d v):Vw K G H d v:=by
 cases d with
 | lst ds=>
  rw [Rep] at r
  obtain ⟨p,xs,e,q,rs⟩:=r
  exact ⟨p,xs,e,iy gh q,rs⟩
 | dct tk ks vs=>
  rw [Rep] at r
  obtain ⟨p,xs,o,e,q,dd,rs⟩:=r
  exact ⟨p,xs,o,e,PV.Rd.mono gh q,dd,rs⟩
 | _=>exact r
theorem Vw.rep {d:D} {v:V} (gh:Same G H) (r:Vw K G H d v):Rep K H d v:=by
 cases d with
 | lst ds=>
  obtain ⟨p,xs,e,q,rs⟩:=r
  rw [Rep]
  exact ⟨p,xs,e,q,rs.mono gh⟩
 | dct tk ks vs=>
  obtain ⟨p,xs,o,e,q,dd,rs⟩:=r
  rw [Rep]
  exact ⟨p,xs,o,e,q,dd,rs.mono gh⟩
 | non=>exact Rep.mono gh r
 | bl b=>exact Rep.mono gh r
 | int i=>exact Rep.mono gh r
 | str l=>exact Rep.mono gh r
 | tup ds=>exact Rep.mono gh r
theorem RepO.vw0 {o:O} {d:D} {v:V} {a:List Addr} (gh:Same G H) (hs:o=.f\/o=.l .f\/o=.d) (r:RepO K G H o d v a):Vw K G H d v:=by
 rcases hs with rfl | rfl | rfl
 ·exact Vw.of gh (j5.mp r).1
 ·cases d with
  | lst ds=>
   obtain ⟨p,xs,e,q,_,rs⟩:=nE.mp r
   exact ⟨p,xs,e,SqL.of q,rs⟩
  | _=>simp only [RepO] at r
 ·cases d with
  | dct tk ks vs=>
   rw [RepO] at r
   obtain ⟨p,xs,o,e,q,dd,_,rs⟩:=r
   exact ⟨p,xs,o,e,.inl q,dd,rs⟩
  | _=>simp only [RepO] at r
theorem RepO.vw {o:O} {d:D} {v:V} {a:List Addr} (gh:Same G H) (hs:xb o=true) (r:RepO K G H o d v a):Vw K G H d v:=by
 unfold xb at hs
 split at hs
 ·exact r.vw0 gh (.inl rfl)
 ·exact r.vw0 gh (.inr (.inl rfl))
 ·exact r.vw0 gh (.inr (.inr rfl))
 ·rw [RepO] at r;exact r.2.vw0 gh (.inl rfl)
 ·rw [RepO] at r;exact r.2.vw0 gh (.inr (.inl rfl))
 ·rw [RepO] at r;exact r.2.vw0 gh (.inr (.inr rfl))
 ·cases hs
theorem Rel.vw {o:Opd} {v:V} {d:D} (q:Rel K G H es σ fp) (k:OpdOk K G σ o v) (e:Hh es o=.ok d):Vw K G H d v:=by
 cases o with
 | val d'=>
  cases e
  exact Vw.of q.gh k
 | var i=>
  unfold Hh at e
  dsimp only at e
  split at e
  ·rename_i r hr
   split at e
   ·rename_i hs
    cases e
    obtain ⟨v',a,b,ev,r1,_⟩:=q.rep.take hr
    have k:σ[i]?=some (some v):=k
    rw [k] at ev
    cases ev
    exact r1.vw q.gh hs
   ·cases e
  ·cases e
theorem Rel.vwA {o:Opd} {v:V} {d:D} (q:Rel K G H es σ fp) (k:OpdOk K G σ o v) (e:tL es o=.ok d):Rep K H d v:=by
 cases o with
 | val d'=>
  cases e
  exact Rep.mono q.gh k
 | var i=>
  unfold tL at e
  dsimp only at e
  split at e
  ·rename_i r hr
   cases e
   obtain ⟨v',ev,r1⟩:=q.view hr
   have k:σ[i]?=some (some v):=k
   rw [k] at ev
   cases ev
   exact r1
  ·cases e
theorem Rel.vws (q:Rel K G H es σ fp):∀ {os:List Opd} {vs:List V} {ds:List D},q0 K G σ os vs->pd es os=.ok ds->L7 K G H ds vs
 | [],_,_,k,e=>by
  cases e
  exact k
 | o :: os,_,_,⟨y,ys,e0,k1,k2⟩,e=>by
  unfold pd at e
  obtain ⟨d,e1,e⟩:=ar e
  obtain ⟨ds,e2,e⟩:=ar e
  cases e
  exact ⟨y,ys,e0,q.vw k1 e1,Rel.vws q k2 e2⟩
theorem pe {G1:Hp} (gg:Same G G1) (ht:∀ (i:Nat) (r:R) (v:V),es[i]?=some (some r)->σ[i]?=some (some v)->Rep K G1 r.2 v):∀ {os:List Opd} {vs:List V} {ds:List D},q0 K G σ os vs->mq es os=.ok ds->Reps K G1 ds vs
 | [],_,_,k,e=>by
  cases e
  have k:_=_:=k
  rw [k]
  exact Reps.nil
 | o :: os,_,_,⟨y,ys,e0,k1,k2⟩,e=>by
  unfold mq at e
  obtain ⟨d,e1,e⟩:=ar e
  obtain ⟨ds,e2,e⟩:=ar e
  cases e
  rw [e0]
  refine .cons ?_ (pe gg ht k2 e2)
  cases o with
  | val d'=>
   cases e1
   exact Rep.mono gg k1
  | var i=>
   unfold tL at e1
   dsimp only at e1
   split at e1
   ·rename_i r hr
    cases e1
    exact ht i r y hr k1
   ·cases e1
end
abbrev FX:=PV.Env->Res (R×PV.Env)
abbrev FO:=PV.Env->Res (Opd×PV.Env)
abbrev FOs:=PV.Env->Res (List Opd×PV.Env)
abbrev FT:=PV.Env->Res (Bool×PV.Env)
inductive Out where
 | nx (env:PV.Env) | rt (r:R) | bk (env:PV.Env) | ct (env:PV.Env)
abbrev FS:=PV.Env->Res Out
inductive tQ (K:W.Frag) (f:FX) (σ:L2.St) (H:Hp) (Q:VK):Prop
 | mk:∀ G env fp r env',Rel K G H env σ fp->f env=.ok (r,env')->(∀ v H' G' FR,Step G H fp G' H' FR->Rel K G' H' (some r :: env') (some v :: σ) FR->Q v H')->tQ K f σ H Q
inductive tO (K:W.Frag) (f:FO) (σ:L2.St) (H:Hp) (Q:VK):Prop
 | mk:∀ G env fp o env',Rel K G H env σ fp->f env=.ok (o,env')->(∀ v H' G' FR,Step G H fp G' H' FR->Rel K G' H' env' σ FR->OpdOk K G' σ o v->Q v H')->tO K f σ H Q
inductive tOs (K:W.Frag) (f:FOs) (σ:L2.St) (H:Hp) (Q:List V->Hp->Prop):Prop
 | mk:∀ G env fp o env',Rel K G H env σ fp->f env=.ok (o,env')->(∀ v H' G' FR,Step G H fp G' H' FR->Rel K G' H' env' σ FR->q0 K G' σ o v->Q v H')->tOs K f σ H Q
inductive tQT (K:W.Frag) (f:FT) (σ:L2.St) (H:Hp) (Q:Bool->Hp->Prop):Prop
 | mk:∀ G env fp b env',Rel K G H env σ fp->f env=.ok (b,env')->(∀ H' G' FR,Step G H fp G' H' FR->Rel K G' H' env' σ FR->Q b H')->tQT K f σ H Q
inductive Mode where
 | plain | mut
def Fi (md:Mode) (K:W.Frag) (G H:Hp) (r:R) (v:V) (fp:List Addr):Prop:=match md with
 | .plain=>Rel K G H [some r] [some v] fp
 | .mut=>∃ o d p c d0,r=(.t [o,.pin p c],.tup [d,d0])/\Rel K G H [some (o,d),some (.pin p c,d0)] [some v,some (.ref p)] fp
noncomputable def OutOk {md:Mode} (K:W.Frag) (G H:Hp) (fp:List Addr) (Dd:Ends):Res Out->Prop
 | .ok (.nx env')=>∀ σ' H' G' FR,Step G H fp G' H' FR->Rel K G' H' env' σ' FR->Dd.nx σ' H'
 | .ok (.bk env')=>∀ σ' H' G' FR,Step G H fp G' H' FR->Rel K G' H' env' σ' FR->Dd.bk σ' H'
 | .ok (.ct env')=>∀ σ' H' G' FR,Step G H fp G' H' FR->Rel K G' H' env' σ' FR->Dd.ct σ' H'
 | .ok (.rt r)=>∀ v H' G' FR,Step G H fp G' H' FR->Fi md K G' H' r v FR->Dd.rt v H'
 | _=>False
inductive tQS {md:Mode} (K:W.Frag) (g:FS) (Dd:Ends) (σ:L2.St) (H:Hp):Prop
 | mk:∀ G env fp,Rel K G H env σ fp->OutOk (md:=md) K G H fp Dd (g env)->tQS (md:=md) K g Dd σ H
def QE (X:Cx) (e:Expr) (f:FX):Prop:=PE X e (tQ X.K f)
def QO (X:Cx) (e:Expr) (f:FO):Prop:=PE X e (tO X.K f)
def Ki (X:Cx) (es:List Expr) (f:FOs):Prop:=PA X es (tOs X.K f)
def QT (X:Cx) (e:Expr) (f:FT):Prop:=PT X e (tQT X.K f)
def QW (X:Cx) (e:Expr) (f:FT):Prop:=PW X e (tQT X.K f)
def QS {md:Mode} (X:Cx) (st:Stmt) (g:FS):Prop:=PS X st (tQS (md:=md) X.K g)
def K4 {md:Mode} (X:Cx) (st:List Stmt) (g:FS):Prop:=PSs X st (tQS (md:=md) X.K g)
theorem cv {X:Cx} {e:Expr} {t t':TE} (h:PE X e t) (k:∀ σ H Q,t' σ H Q->t σ H Q):PE X e t':=fun pins s σ H Q I w=>h pins s σ H Q I (k σ H Q w)
theorem q5 {X:Cx} {e:Expr} {t t':TT} (h:PT X e t) (k:∀ σ H Q,t' σ H Q->t σ H Q):PT X e t':=fun pins s σ H Q I w=>h pins s σ H Q I (k σ H Q w)
theorem ya {X:Cx} {e:Expr} {t t':TT} (h:PW X e t) (k:∀ σ H Q,t' σ H Q->t σ H Q):PW X e t':=fun wh pins s σ H Q I w=>h wh pins s σ H Q I (k σ H Q w)
theorem rg {X:Cx} {e:List Expr} {t t':TA} (h:PA X e t) (k:∀ σ H Q,t' σ H Q->t σ H Q):PA X e t':=fun pos pins s σ H Q I w=>h pos pins s σ H Q I (k σ H Q w)
theorem gN {X:Cx} {e:Stmt} {t t':TS} (h:PS X e t) (k:∀ D σ H,t' D σ H->t D σ H):PS X e t':=fun pins s σ H D I w=>h pins s σ H D I (k D σ H w)
theorem uM {X:Cx} {e:List Stmt} {t t':TS} (h:PSs X e t) (k:∀ D σ H,t' D σ H->t D σ H):PSs X e t':=fun pins s σ H D I w=>h pins s σ H D I (k D σ H w)
theorem OutOk.imp {md:Mode} {K:W.Frag} {G H G1 H1:Hp} {fp F5:List Addr} {Dd NH:Ends} {r:Res Out} (st:Step G H fp G1 H1 F5) (h:OutOk (md:=md) K G H fp Dd r) (n:∀ σ H,Dd.nx σ H->NH.nx σ H) (b:∀ σ H,Dd.bk σ H->NH.bk σ H) (c:∀ σ H,Dd.ct σ H->NH.ct σ H) (t:∀ v H,Dd.rt v H->NH.rt v H):OutOk (md:=md) K G1 H1 F5 NH r:=by
 match r,h with
 | .ok (.nx env'),h=>exact fun σ' H' G' FR s q=>n _ _ (h σ' H' G' FR (st.trans s) q)
 | .ok (.bk env'),h=>exact fun σ' H' G' FR s q=>b _ _ (h σ' H' G' FR (st.trans s) q)
 | .ok (.ct env'),h=>exact fun σ' H' G' FR s q=>c _ _ (h σ' H' G' FR (st.trans s) q)
 | .ok (.rt r),h=>exact fun v H' G' FR s q=>t _ _ (h v H' G' FR (st.trans s) q)
theorem OutOk.after {md:Mode} {K:W.Frag} {G H G1 H1:Hp} {fp F5:List Addr} {Dd:Ends} {r:Res Out} (st:Step G H fp G1 H1 F5) (h:OutOk (md:=md) K G H fp Dd r):OutOk (md:=md) K G1 H1 F5 Dd r:=h.imp st (fun _ _ z=>z) (fun _ _ z=>z) (fun _ _ z=>z) fun _ _ z=>z
noncomputable def aJ (d:D):FX:=fun env=>.ok ((.f,d),env)
noncomputable def fz:O->O
 | .pin p .f=>.pin p .f
 | _=>.f
noncomputable def aK (i:Nat):FX:=fun env=>match env[i]? with
 | some (some r)=>.ok ((.f,r.2),env.set i (some (fz r.1,r.2)))
 | _=>.bad
noncomputable def kZ (i:Nat):FX:=fun env=>match env[i]? with
 | some (some r)=>.ok (r,env.set i none)
 | _=>.bad
noncomputable def aq (f:FX):FO:=fun env=>(f env).bind fun p=>.ok (.val p.1.2,p.2)
noncomputable def ao (i:Nat):FO:=fun env=>match env[i]? with
 | some (some _)=>.ok (.var i,env)
 | _=>.bad
noncomputable def aA:FOs:=fun env=>.ok ([],env)
noncomputable def ag (f:FO) (g:FOs):FOs:=fun env=>(f env).bind fun p=>(g p.2).bind fun q=>.ok (p.1 :: q.1,q.2)
section
variable {X:Cx}
theorem rh {e:Expr} {v:V} {d:D} (h:PE X e (tC v)) (r:∀ G,Rep X.K G d v):QE X e (aJ d):=cv h fun σ H Q FY=>by
 obtain ⟨G,env,fp,rr,env',rel,e,k⟩:=FY
 cases e
 exact k v H G fp .refl (rel.push (r G))
theorem ai {i j pos}:QE X (.Constant (.int i) j pos) (aJ (.int i)):=rh A7 fun G=>by rw [Rep]
theorem kA {i j pos}:QE X (.Constant (.bool i) j pos) (aJ (.bl i)):=rh Ds fun G=>by rw [Rep]
theorem k4 {j pos}:QE X (.Constant .none j pos) (aJ .non):=rh A8 fun G=>by rw [Rep]
theorem rj {x j pos} {l:List Nat} (h:x=S l) (hl:l.length<=1000):QE X (.Constant (.str x) j pos) (aJ (.str l)):=rh A9 fun G=>by
 rw [Rep,h]
 exact ⟨rfl,by rw [line_eq];lia⟩
theorem aw {i:Nat} {e:Expr} (h:PE X e (wz i)):QE X e (aK i):=cv h fun σ H Q FY=>by
 obtain ⟨G,env,fp,rr,env',rel,e,k⟩:=FY
 unfold aK at e
 split at e
 ·rename_i r hr
  cases e
  by_cases hf:fz r.1=.f
  ·obtain ⟨v,G',fq,ev,rv,F9,st⟩:=rel.freezeAt hr
   rw [hf] at k
   exact ⟨v,ev,k v H G' fq st (F9.push rv)⟩
  ·have hp:∃ p,r.1=.pin p .f:=by
    unfold fz at hf
    split at hf
    ·rename_i p hp
     exact ⟨p,hp⟩
    ·exact absurd rfl hf
   obtain ⟨p,hp⟩:=hp
   obtain ⟨v,a,b,ev,r1,_,_⟩:=rel.rep.take hr
   rw [hp,RepO] at r1
   have es:env.set i (some (fz r.1,r.2))=env:=by
    refine nF ?_
    rw [hr,hp]
    show some (some r)=some (some (.pin p .f,r.2))
    rw [<-hp]
   rw [es] at k
   exact ⟨v,ev,k v H G fp .refl (rel.push (j5.mp r1.2).1)⟩
 ·cases e
theorem gO {i:Nat} {e:Expr} (h:PE X e (wz i)):QE X e (kZ i):=cv h fun σ H Q FY=>by
 obtain ⟨G,env,fp,rr,env',rel,e,k⟩:=FY
 unfold kZ at e
 split at e
 ·rename_i r hr
  cases e
  obtain ⟨v,fq,ev,F9,st,_⟩:=rel.out hr
  exact ⟨v,ev,k v H G fq st F9⟩
 ·cases e
theorem aa {e:Expr} {f:FX} (h:QE X e f):QO X e (aq f):=cv h fun σ H Q FY=>by
 obtain ⟨G,env,fp,o,env',rel,e,k⟩:=FY
 obtain ⟨⟨r,FC⟩,e1,e⟩:=ar e
 cases e
 refine ⟨G,env,fp,r,FC,rel,e1,fun v H' G' FR st F9=>?_⟩
 obtain ⟨G2,b,rv,FE,FV⟩:=F9.freeze
 exact k v H' G2 b (st.trans FV) FE rv
theorem ae {i:Nat} {e:Expr} (h:PE X e (wz i)):QO X e (ao i):=cv h fun σ H Q FY=>by
 obtain ⟨G,env,fp,o,env',rel,e,k⟩:=FY
 unfold ao at e
 split at e
 ·rename_i r hr
  cases e
  obtain ⟨v,ev,_⟩:=rel.view hr
  exact ⟨v,ev,k v H G fp .refl rel ev⟩
 ·cases e
theorem aj:Ki X [] aA:=rg oH fun σ H Q FY=>by
 obtain ⟨G,env,fp,o,env',rel,e,k⟩:=FY
 cases e
 exact k [] H G fp .refl rel rfl
theorem af {e:Expr} {es:List Expr} {f:FO} {g:FOs} (h:QO X e f) (hs:Ki X es g) (JS:starEach (e :: es) X.env=(false,eval e X.env) :: starEach es X.env:=by rfl):Ki X (e :: es) (ag f g):=
 rg (iO h hs JS) fun σ H Q FY=>by
  obtain ⟨G,env,fp,o,env',rel,e,k⟩:=FY
  obtain ⟨⟨o1,FC⟩,e1,e⟩:=ar e
  obtain ⟨⟨os,FL⟩,e2,e⟩:=ar e
  cases e
  exact ⟨G,env,fp,o1,FC,rel,e1,fun v H1 G1 F5 F2 FJ Hz=>⟨G1,FC,F5,os,FL,FJ,e2,fun vs H2 G2 Gp FV FE J7=>k _ H2 G2 Gp (F2.trans FV) FE ⟨v,vs,rfl,Hz.mono FV.gg,J7⟩⟩⟩
noncomputable def aD (g:D->D->Res R) (fa fb:FO):FX:=fun env=>(fa env).bind fun p=>(fb p.2).bind fun q=>(Hh q.2 p.1).bind fun a=>(Hh q.2 q.1).bind fun b=>(g a b).bind fun r=>.ok (r,q.2)
noncomputable def bq (g:D->D->Res R) (fa fb:FO):FX:=fun env=>(fa env).bind fun p=>(fb p.2).bind fun q=>(tL q.2 p.1).bind fun a=>(tL q.2 q.1).bind fun b=>(g a b).bind fun r=>.ok (r,q.2)
structure Goes (K:W.Frag) (H:Hp) (G:Hp) (fp:List Addr) (es:PV.Env) (vs:L2.St) (r:R) (Q:VK):Prop where
 rel:Rel K G H es vs fp
 goes:∀ v H' G' FR,Step G H fp G' H' FR->Rel K G' H' (some r :: es) (some v :: vs) FR->Q v H'
inductive rG (K:W.Frag) (g:D->D->Res R) (x:V) (y:V) (H:Hp) (Q:VK):Prop
 | mk:∀ G fp es vs a b r,Goes K H G fp es vs r Q->Vw K G H a x->Vw K G H b y->g a b=.ok r->rG K g x y H Q
inductive rGA (K:W.Frag) (g:D->D->Res R) (x:V) (y:V) (H:Hp) (Q:VK):Prop
 | mk:∀ G fp es vs a b r,Goes K H G fp es vs r Q->Rep K H a x->Rep K H b y->g a b=.ok r->rGA K g x y H Q
variable {a b c:Expr} {fa fb fc:FO} {pos:Pos} {g g':D->D->Res R}
theorem uN {σ:L2.St} {H:Hp} {Q:VK} (h:tQ X.K (aD g fa fb) σ H Q):M7 (rG X.K g) (tO X.K fa) (tO X.K fb) σ H Q:=by
 obtain ⟨G,env,fp,r,env',rel,e,k⟩:=h
 obtain ⟨⟨oa,e1⟩,ha,e⟩:=ar e
 obtain ⟨⟨ob,e2⟩,hb,e⟩:=ar e
 obtain ⟨da,Li,e⟩:=ar e
 obtain ⟨db,IJ,e⟩:=ar e
 obtain ⟨r',hr,e⟩:=ar e
 cases e
 exact ⟨G,env,fp,oa,e1,rel,ha,fun x H1 G1 F5 F2 FJ Hz=>⟨G1,e1,F5,ob,e2,FJ,hb,fun y H2 G2 Gp FV FE J7=>
  ⟨G2,Gp,e2,σ,da,db,r,⟨FE,fun v H' G' FR st F9=>k v H' G' FR (F2.trans (FV.trans st)) F9⟩,FE.vw (Hz.mono FV.gg) Li,FE.vw J7 IJ,hr⟩⟩⟩
theorem uO {σ:L2.St} {H:Hp} {Q:VK} (h:tQ X.K (bq g fa fb) σ H Q):M7 (rGA X.K g) (tO X.K fa) (tO X.K fb) σ H Q:=by
 obtain ⟨G,env,fp,r,env',rel,e,k⟩:=h
 obtain ⟨⟨oa,e1⟩,ha,e⟩:=ar e
 obtain ⟨⟨ob,e2⟩,hb,e⟩:=ar e
 obtain ⟨da,Li,e⟩:=ar e
 obtain ⟨db,IJ,e⟩:=ar e
 obtain ⟨r',hr,e⟩:=ar e
 cases e
 exact ⟨G,env,fp,oa,e1,rel,ha,fun x H1 G1 F5 F2 FJ Hz=>⟨G1,e1,F5,ob,e2,FJ,hb,fun y H2 G2 Gp FV FE J7=>
  ⟨G2,Gp,e2,σ,da,db,r,⟨FE,fun v H' G' FR st F9=>k v H' G' FR (F2.trans (FV.trans st)) F9⟩,FE.vwA (Hz.mono FV.gg) Li,FE.vwA J7 IJ,hr⟩⟩⟩
theorem aH {op:Operator} (ho:Gx X (binaryOp op) (rG X.K g)) (ha:QO X a fa) (hb:QO X b fb):QE X (.BinOp a op b pos) (aD g fa fb):=cv (DE ho ha hb) fun _ _ _=>uN
theorem iR {op:CmpOp} (ho:Gx X (compareOp op) (rGA X.K g)) (ha:QO X a fa) (hb:QO X b fb) (hm:behindInMarks op b=false):QE X (.Compare a [op] [b] pos) (bq g fa fb):=cv (yM ho ha hb hm) fun _ _ _=>uO
noncomputable def Gg (f:FX):FT:=fun env=>(f env).bind fun p=>match p.1.2 with
 | .bl k=>.ok (k,p.2)
 | _=>.bad
theorem zq {f:FX} {σ:L2.St} {H:Hp} {Q:Bool->Hp->Prop} (h:tQT X.K (Gg f) σ H Q):tQ X.K f σ H fun x H'=>∃ k,x=.bl k/\Q k H':=by
 obtain ⟨G,env,fp,k,env',rel,e,q⟩:=h
 obtain ⟨⟨⟨o,d⟩,FC⟩,e1,e⟩:=ar e
 dsimp only at e
 split at e
 ·cases e
  refine ⟨G,env,fp,_,_,rel,e1,fun v H' G' FR st F9=>?_⟩
  have hv:=F9.top
  rw [show ((o,D.bl k):R).2=D.bl k from rfl,Rep] at hv
  obtain ⟨b,FE,FV⟩:=F9.drop
  exact ⟨k,hv,q H' G' b (st.trans FV) FE⟩
 ·cases e
theorem rl {e:Expr} {f:FX} (h:QE X e f) (he:∀ whole,isTrue e X.env whole=(do let v <-whole;standAt e.pos;holding [v] (truthy v)):=by intro _;rfl):QT X e (Gg f):=q5 (Ba h he) fun _ _ _=>zq
theorem mK {op:CmpOp} (ho:Gx X (compareOp op) (rG X.K g)) (ha:QO X a fa) (hb:QO X b fb) (hm:behindInMarks op b=false):QT X (.Compare a [op] [b] pos) (Gg (aD g fa fb)):=
 q5 (ub ho ha hb hm) fun _ _ _ h=>uN (zq h)
theorem ba {op:CmpOp} (ho:Gx X (compareOp op) (rGA X.K g)) (ha:QO X a fa) (hb:QO X b fb) (hm:behindInMarks op b=false):QT X (.Compare a [op] [b] pos) (Gg (bq g fa fb)):=
 q5 (ub ho ha hb hm) fun _ _ _ h=>uO (zq h)
noncomputable def AU (f g:FT):FT:=fun env=>(f env).bind fun p=>if p.1 then g p.2 else .ok (false,p.2)
noncomputable def NI (f g:FT):FT:=fun env=>(f env).bind fun p=>if p.1 then .ok (true,p.2) else g p.2
noncomputable def DX (f:FT):FT:=fun env=>(f env).bind fun p=>.ok (!p.1,p.2)
variable {ga gb:FT} {eL:List Expr}
theorem nG (h:QT X a ga):QW X (.BoolOp .And [a] pos) ga:=yF h
theorem uP (h:QT X a ga):QW X (.BoolOp .Or [a] pos) ga:=Bb h
theorem rp (h:QT X a ga) (h2:QW X (.BoolOp .And (b :: eL) pos) gb):QW X (.BoolOp .And (a :: b :: eL) pos) (AU ga gb):=ya (Bc h h2) fun σ H Q FY=>by
 obtain ⟨G,env,fp,k,env',rel,e,q⟩:=FY
 obtain ⟨⟨k1,FC⟩,e1,e⟩:=ar e
 refine ⟨G,env,fp,k1,FC,rel,e1,fun H1 G1 F5 F2 FJ=>?_⟩
 dsimp only at e
 cases k1 with
 | true=>exact ⟨G1,FC,F5,k,env',FJ,e,fun H2 G2 Gp FV FE=>q H2 G2 Gp (F2.trans FV) FE⟩
 | false=>
  cases e
  exact q H1 G1 F5 F2 FJ
theorem zr (h:QT X a ga) (h2:QW X (.BoolOp .Or (b :: eL) pos) gb):QW X (.BoolOp .Or (a :: b :: eL) pos) (NI ga gb):=ya (Dt h h2) fun σ H Q FY=>by
 obtain ⟨G,env,fp,k,env',rel,e,q⟩:=FY
 obtain ⟨⟨k1,FC⟩,e1,e⟩:=ar e
 refine ⟨G,env,fp,k1,FC,rel,e1,fun H1 G1 F5 F2 FJ=>?_⟩
 dsimp only at e
 cases k1 with
 | false=>exact ⟨G1,FC,F5,k,env',FJ,e,fun H2 G2 Gp FV FE=>q H2 G2 Gp (F2.trans FV) FE⟩
 | true=>
  cases e
  exact q H1 G1 F5 F2 FJ
theorem QW.qt {e:Expr} {f:FT} (h:QW X e f):QT X e f:=h.pt
theorem BN (h:QT X a ga):QT X (.UnaryOp .Not a pos) (DX ga):=q5 (Be h) fun σ H Q FY=>by
 obtain ⟨G,env,fp,k,env',rel,e,q⟩:=FY
 obtain ⟨⟨k1,FC⟩,e1,e⟩:=ar e
 cases e
 exact ⟨G,env,fp,k1,FC,rel,e1,fun H1 G1 F5 F2 FJ=>q H1 G1 F5 F2 FJ⟩
noncomputable def Fx (f g:FX):FX:=fun env=>(f env).bind fun p=>match p.1.2 with
 | .bl true=>g p.2
 | .bl false=>.ok ((.f,.bl false),p.2)
 | _=>.bad
noncomputable def NJ (f g:FX):FX:=fun env=>(f env).bind fun p=>match p.1.2 with
 | .bl true=>.ok ((.f,.bl true),p.2)
 | .bl false=>g p.2
 | _=>.bad
noncomputable def Fy (f:FX):FX:=fun env=>(f env).bind fun p=>match p.1.2 with
 | .bl k=>.ok ((.f,.bl (!k)),p.2)
 | _=>.bad
noncomputable def eIf (c:FT) (f g:FX):FX:=fun env=>(c env).bind fun p=>if p.1 then f p.2 else g p.2
variable {ea eb:FX}
theorem BO {op} (h:QE X a ea):QE X (.BoolOp op [a] pos) ea:=Bf h
theorem dO {K:W.Frag} {G:Hp} (k:Bool):Rep K G (.bl k) (.bl k):=by rw [Rep]
theorem br {K:W.Frag} {G:Hp} (k:Int):Rep K G (.int k) (.int k):=by rw [Rep]
theorem qg {K:W.Frag} {G:Hp}:Rep K G .non .non:=by rw [Rep]
theorem iS {K:W.Frag} {G:Hp} {l:List Nat} (h:l.length<=sizeLine):Rep K G (.str l) (.str (S l)):=by
 rw [Rep]
 exact ⟨rfl,h⟩
theorem dC {K:W.Frag} {G:Hp} {k:Bool} {v:V} (h:Rep K G (.bl k) v):v=.bl k:=by rw [Rep] at h;exact h
theorem bU {K:W.Frag} {G:Hp} {k:Int} {v:V} (h:Rep K G (.int k) v):v=.int k:=by rw [Rep] at h;exact h
theorem cO {K:W.Frag} {G:Hp} {v:V} (h:Rep K G .non v):v=.non:=by rw [Rep] at h;exact h
theorem bN {K:W.Frag} {G:Hp} {l:List Nat} {v:V} (h:Rep K G (.str l) v):v=.str (S l)/\l.length<=sizeLine:=by rw [Rep] at h;exact h
inductive OfT (K:W.Frag) (G:Hp) (l:List D) (v:V):Prop
 | mk (p:Addr) (xs:List V) (e:v=.ref p) (q:SqT K G p xs) (r:Reps K G l xs):OfT K G l v
inductive OfL (K:W.Frag) (G:Hp) (l:List D) (v:V):Prop
 | mk (p:Addr) (xs:List V) (e:v=.ref p) (q:SqL K G p xs) (r:Reps K G l xs):OfL K G l v
theorem bL {K:W.Frag} {G:Hp} {l:List D} {v:V} (h:Rep K G (.tup l) v):OfT K G l v:=by
 rw [Rep] at h
 obtain ⟨p,xs,e,q,r⟩:=h
 exact ⟨p,xs,e,SqT.of q,r⟩
theorem uQ {K:W.Frag} {G:Hp} {l:List D} {v:V} (h:Rep K G (.tup l) v):∃ p xs,v=.ref p/\G p=some (.tup xs)/\Reps K G l xs:=by rw [Rep] at h;exact h
theorem bV {K:W.Frag} {G:Hp} {l:List D} {v:V} (h:Rep K G (.lst l) v):OfL K G l v:=by
 rw [Rep] at h
 obtain ⟨p,xs,e,q,r⟩:=h
 exact ⟨p,xs,e,q,r⟩
theorem DY {K:W.Frag} {G H:Hp} {k:Bool} {v:V} (h:Vw K G H (.bl k) v):v=.bl k:=dC (K:=K) (G:=G) h
theorem bQ {K:W.Frag} {G H:Hp} {k:Int} {v:V} (h:Vw K G H (.int k) v):v=.int k:=bU (K:=K) (G:=G) h
theorem gP {K:W.Frag} {G H:Hp} {l:List Nat} {v:V} (h:Vw K G H (.str l) v):v=.str (S l)/\l.length<=sizeLine:=bN (K:=K) (G:=G) h
theorem je {K:W.Frag} {G H:Hp} {l:List D} {v:V} (h:Vw K G H (.tup l) v):OfT K G l v:=bL (K:=K) (G:=G) h
theorem DZ (h:QE X a ea) (h2:QE X (.BoolOp .Or (b :: eL) pos) eb):QE X (.BoolOp .Or (a :: b :: eL) pos) (NJ ea eb):=cv (Du h h2) fun σ H Q FY=>by
 obtain ⟨G,env,fp,r,env',rel,e,q⟩:=FY
 obtain ⟨⟨⟨o,d⟩,FC⟩,e1,e⟩:=ar e
 refine ⟨G,env,fp,_,FC,rel,e1,fun v H1 G1 F5 F2 FJ=>?_⟩
 have hv:=FJ.top
 obtain ⟨b',FE,FV⟩:=FJ.drop
 dsimp only at e hv
 split at e
 ·cases e
  exact ⟨true,dC hv,Di (q _ H1 G1 b' (F2.trans FV) (FE.push (dO _)))⟩
 ·exact ⟨false,dC hv,iteF ⟨G1,FC,b',r,env',FE,e,fun v H2 G2 Gp Gj F8=>q v H2 G2 Gp (F2.trans (FV.trans Gj)) F8⟩⟩
 ·cases e
noncomputable def ED (g g':D->D->Res R) (fa fb fc:FO):FX:=fun env=>(fa env).bind fun p=>(fb p.2).bind fun q=>(Hh q.2 p.1).bind fun a=>(Hh q.2 q.1).bind fun b=>(g a b).bind fun r=>match r with
 | (.f,.bl true)=>(fc q.2).bind fun t=>(Hh t.2 q.1).bind fun b=>(Hh t.2 t.1).bind fun c=>(g' b c).bind fun r=>.ok (r,t.2)
 | (.f,.bl false)=>.ok ((.f,.bl false),q.2)
 | _=>.bad
inductive rC (K:W.Frag) (g:List D->Res R) (xs:List V) (H:Hp) (Q:VK):Prop
 | mk:∀ G fp es vs ds r,Goes K H G fp es vs r Q->L7 K G H ds xs->g ds=.ok r->rC K g xs H Q
noncomputable def a9 (g:List D->Res R) (fs:FOs):FX:=fun env=>(fs env).bind fun p=>(pd p.2 p.1).bind fun ds=>(g ds).bind fun r=>.ok (r,p.2)
theorem uR {gg:List D->Res R} {fs:FOs} {σ:L2.St} {H:Hp} {Q:VK} (h:tQ X.K (a9 gg fs) σ H Q):OV (rC X.K gg) (tOs X.K fs) σ H Q:=by
 obtain ⟨G,env,fp,r,env',rel,e,k⟩:=h
 obtain ⟨⟨os,e1⟩,ha,e⟩:=ar e
 obtain ⟨ds,hd,e⟩:=ar e
 obtain ⟨r',hr,e⟩:=ar e
 cases e
 exact ⟨G,env,fp,os,e1,rel,ha,fun vs H1 G1 F5 F2 FJ Hz=>⟨G1,F5,e1,σ,ds,r,⟨FJ,fun v H' G' FR st F9=>k v H' G' FR (F2.trans st) F9⟩,FJ.vws Hz hd,hr⟩⟩
variable {x:Str} {p:Pos} {e:Expr} {es:List Expr} {gg:List D->Res R} {fs:FOs} {id T:String}
theorem aR (hc:dP X (.builtin id) (rC X.K gg)) (hg:Gl X x) (hm:X.mg x=none) (hv:bootBuiltins x=some (.builtin id)) (ha:Ki X (e :: es) fs) (hn:x≠"__name__":=by decide) (IJ:(x == ("__debug__" : Str))=false:=by decide)
  (he:starEach (e :: es) X.env=(false,eval e X.env) :: starEach es X.env:=by rfl) (HI:(backTo pos (starEach es X.env)).any (·.1)=false:=by rfl):QE X (.Call (.Name x p) (e :: es) [] pos) (a9 gg fs):=
 cv (wI hc hg hm hv ha hn IJ he HI) fun _ _ _=>uR
theorem bj (hc:dP X (.type T) (rC X.K gg)) (hg:Gl X x) (hm:X.mg x=none) (hv:bootBuiltins x=some (.type T)) (ha:Ki X (e :: es) fs) (hn:x≠"__name__":=by decide) (IJ:(x == ("__debug__" : Str))=false:=by decide)
  (he:starEach (e :: es) X.env=(false,eval e X.env) :: starEach es X.env:=by rfl) (HI:(backTo pos (starEach es X.env)).any (·.1)=false:=by rfl):QE X (.Call (.Name x p) (e :: es) [] pos) (a9 gg fs):=
 cv (ug hc hg hm hv ha hn IJ he HI) fun _ _ _=>uR
inductive spF (K:W.Frag) (F:List D->Res R) (vs:List V) (H:Hp) (Q:VK) (zz:XK):Prop
 | mk:∀ G ds r,Same G H->Reps K G ds vs->F ds=.ok r->(∀ v H' G' FR,Step G H [] G' H' FR->Rel K G' H' [some r] [some v] FR->Q v H')->spF K F vs H Q zz
noncomputable def cH (F:List D->Res R) (fs:FOs):FX:=fun env=>(fs env).bind fun p=>(mq p.2 p.1).bind fun ds=>(F ds).bind fun r=>.ok (r,if cu r.1 r.2 then p.2 else p.2.map frz)
theorem aP {F:List D->Res R} {k:Nat} (C:Ct X.prog X.w X.K X.mg X.base x k (spF X.K F)) (hr:Room k X.A) (hg:Gl X x) (ha:Ki X (e :: es) fs) (IJ:(x == ("__debug__" : Str))=false:=by decide)
  (he:starEach (e :: es) X.env=(false,eval e X.env) :: starEach es X.env:=by rfl) (HI:(backTo pos (starEach es X.env)).any (·.1)=false:=by rfl):QE X (.Call (.Name x p) (e :: es) [] pos) (cH F fs):=
 cv (DP C hr hg ha IJ he HI) fun σ H Q FY=>by
  obtain ⟨G,env,fp,r,env',rel,e,k⟩:=FY
  obtain ⟨⟨os,e1⟩,ha,e⟩:=ar e
  obtain ⟨ds,hd,e⟩:=ar e
  obtain ⟨r',hr,e⟩:=ar e
  refine ⟨G,env,fp,os,e1,rel,ha,fun vs H1 G1 F5 F2 FJ Hz=>?_⟩
  show spF X.K F (vs++[]) H1 Q _
  rw [List.append_nil]
  obtain ⟨G2,Pk,Pm,I0,_,KA⟩:=FJ.lend
  refine ⟨G2,ds,r',Pm,pe Pk I0 Hz hd,hr,fun v H' G' FR st F9=>?_⟩
  obtain ⟨k1,k2⟩:=KA H' G' FR r' v st F9
  by_cases hc:cu r'.1 r'.2=true
  ·rw [if_pos hc] at e
   cases e
   obtain ⟨G3,Iq,Gj,F8⟩:=k1 hc
   exact k v H' G3 Iq (F2.trans Gj) F8
  ·rw [if_neg hc] at e
   cases e
   obtain ⟨G3,Iq,Gj,F8⟩:=k2
   exact k v H' G3 Iq (F2.trans Gj) F8
end
noncomputable def sSeq (g1 g2:FS):FS:=fun env=>(g1 env).bind fun o=>match o with
 | .nx e=>g2 e
 | o=>.ok o
noncomputable def cM:FS:=fun env=>.ok (.nx env)
noncomputable def yb:FS:=fun _=>.bad
noncomputable def bK (i:Nat) (f:FX):FS:=fun env=>(f env).bind fun p=>if i < p.2.length then .ok (.nx (p.2.set i (some p.1))) else .bad
noncomputable def gQ (f:FX):FS:=fun env=>(f env).bind fun p=>.ok (.nx p.2)
noncomputable def dS (f:FX):FS:=fun env=>(f env).bind fun p=>.ok (.rt p.1)
noncomputable def GS (c:FT) (g h:FS):FS:=fun env=>(c env).bind fun p=>if p.1 then g p.2 else h p.2
section
variable {md:Mode} {X:Cx} {st:Stmt} {Qa:List Stmt} {g h:FS} {f:FX} {c:FT} {pos:Pos} {e:Expr}
theorem bg:K4 (md:=md) X [] cM:=uM yG fun D σ H ⟨G,env,fp,rel,k⟩=>k σ H G fp .refl rel
theorem az (a:QS (md:=md) X st g):K4 (md:=md) X [st] g:=yH a
theorem ah (a:QS (md:=md) X st g) (b:K4 (md:=md) X Qa h):K4 (md:=md) X (st :: Qa) (sSeq g h):=uM (wB a b) fun D σ H FY=>by
 obtain ⟨G,env,fp,rel,k⟩:=FY
 refine ⟨G,env,fp,rel,?_⟩
 have k:OutOk X.K G H fp D ((g env).bind fun o=>match o with | .nx e=>h e | o=>.ok o):=k
 match q:g env,k with
 | .ok (.nx FC),k=>exact fun σ1 H1 G1 F5 F2 FJ=>⟨G1,FC,F5,FJ,OutOk.after F2 k⟩
 | .ok (.bk FC),k=>exact k
 | .ok (.ct FC),k=>exact k
 | .ok (.rt r),k=>exact k
theorem xc:QS (md:=md) X st yb:=gN wC fun D σ H ⟨G,env,fp,rel,k⟩=>k
theorem uS {K:W.Frag} {G H:Hp} {fp:List Addr} {D:Ends} {i:Nat} {env:PV.Env} {σ:L2.St} (rel:Rel K G H env σ fp) (k:OutOk (md:=md) K G H fp D (bK i f env)):tQ K f σ H fun v H'=>D.nx (σ.set i (some v)) H':=by
 unfold bK at k
 match q:f env,k with
 | .ok (r,FC),k=>
  have k:OutOk K G H fp D (if i < FC.length then .ok (.nx (FC.set i (some r))) else .bad):=k
  by_cases hi:i < FC.length
  ·rw [if_pos hi] at k
   refine ⟨G,env,fp,r,FC,rel,q,fun v H1 G1 F5 F2 FJ=>?_⟩
   obtain ⟨fq,FE,FV⟩:=FJ.store hi
   exact k _ H1 G1 fq (F2.trans FV) FE
  ·rw [if_neg hi] at k
   exact k.elim
theorem aE {i:Nat} {x:Str} {pos':Pos} (hN:X.N.Nodup) (hi:X.N[i]?=some x) (hx:Loc X.env.scope x) (he:QE X e f) (hs:swapsWith e (some (.Name x pos')) pos.line X.env=pure false:=by rfl) (hf:X.fn x=true\/X.env.scope.names.lookup x=some .local:=by first | exact .inl rfl | exact .inr rfl | assumption) :
  QS (md:=md) X (.Assign [.Name x pos'] e pos) (bK i f):=gN (Bl (i:=i) hN hi hx he hs hf) fun D σ H ⟨G,env,fp,rel,k⟩=>uS rel k
theorem dD (he:QE X e f) (hs:swapsWith e none pos.line X.env=pure false:=by rfl):QS (md:=md) X (.Expr e pos) (gQ f):=gN (yI he hs) fun D σ H FY=>by
 obtain ⟨G,env,fp,rel,k⟩:=FY
 unfold gQ at k
 match q:f env,k with
 | .ok (r,FC),k=>
  refine ⟨G,env,fp,r,FC,rel,q,fun v H1 G1 F5 F2 FJ=>?_⟩
  obtain ⟨b,FE,FV⟩:=FJ.drop
  exact k _ H1 G1 b (F2.trans FV) FE
theorem Rel.only {K:W.Frag} {G H:Hp} {r:R} {v:V} {es:PV.Env} {vs:L2.St} {fp:List Addr} (q:Rel K G H (some r :: es) (some v :: vs) fp):∃ a,Rel K G H [some r] [some v] a/\Step G H fp G H a:=by
 obtain ⟨y,ys,e,v',a,b,e1,e2,r1,r2⟩:=q.rep
 cases e
 cases e1
 subst e2
 have nd:=List.nodup_append.mp q.nd
 exact ⟨a,⟨⟨some v,[],rfl,v,a,[],rfl,(List.append_nil _).symm,r1,rfl,rfl⟩,nd.1,fun p hp=>q.gn p (List.mem_append_left _ hp),q.gh⟩,Step.cut fun p hp=>List.mem_append_left _ hp⟩
theorem aX (he:QE X e f):QS (md:=.plain) X (.Return (some e) pos) (dS f):=gN (Bg he) fun D σ H FY=>by
 obtain ⟨G,env,fp,rel,k⟩:=FY
 unfold dS at k
 match q:f env,k with
 | .ok (r,FC),k=>
  refine ⟨G,env,fp,r,FC,rel,q,fun v H1 G1 F5 F2 FJ=>?_⟩
  obtain ⟨b,FE,FV⟩:=FJ.only
  exact k _ H1 G1 b (F2.trans FV) FE
theorem Rel.nilF {K:W.Frag} {G H:Hp} {es:PV.Env} {vs:L2.St} {fp:List Addr} (q:Rel K G H es vs fp):Rel K G H [] [] []:=⟨⟨rfl,rfl⟩,List.nodup_nil,(fun _ h=>nomatch h),q.gh⟩
theorem cY {a b:List Stmt} {ct:Expr} (hc:QT X ct c) (ha:K4 (md:=md) X a g) (hb:K4 (md:=md) X b h):QS (md:=md) X (.If ct a b pos) (GS c g h):=gN (Dx hc ha hb) fun D σ H FY=>by
 obtain ⟨G,env,fp,rel,k⟩:=FY
 unfold GS at k
 match q:c env,k with
 | .ok (true,FC),k=>exact ⟨G,env,fp,true,FC,rel,q,fun H1 G1 F5 F2 FJ=>Di ⟨G1,FC,F5,FJ,OutOk.after F2 k⟩⟩
 | .ok (false,FC),k=>exact ⟨G,env,fp,false,FC,rel,q,fun H1 G1 F5 F2 FJ=>iteF ⟨G1,FC,F5,FJ,OutOk.after F2 k⟩⟩
noncomputable def c6 (c:FT) (g:FS):Nat->FS
 | 0,_=>.bad
 | n + 1,env=>(c env).bind fun p=>if p.1 then (g p.2).bind fun o=>match o with
  | .nx e=>c6 c g n e
  | .ct e=>c6 c g n e
  | .bk e=>.ok (.nx e)
  | .rt r=>.ok (.rt r)
  else .ok (.nx p.2)
theorem kJ {ct:Expr} {body:List Stmt} (n:Nat) (hp:PassesOwn (model X.prog X.w) X.A X.env X.xe) (hc:QT X ct c) (hb:K4 (md:=md) X body g):QS (md:=md) X (.While ct body [] pos) (c6 c g n):=
 gN (wG hp hc hb) fun D σ H FY=>by
  obtain ⟨G,env,fp,rel,k⟩:=FY
  refine ⟨fun m σ' H'=>∃ G' env' FR,Rel X.K G' H' env' σ' FR/\OutOk X.K G' H' FR D (c6 c g m env'),⟨n,G,env,fp,rel,k⟩,?_⟩
  rintro m σ1 H1 ⟨G1,FC,F5,FJ,k1⟩
  cases m with
  | zero=>exact k1.elim
  | succ m=>
   unfold c6 at k1
   match q:c FC,k1 with
   | .ok (false,FL),k1=>exact ⟨G1,FC,F5,false,FL,FJ,q,fun H2 G2 Gp FV FE=>iteF (k1 _ H2 G2 Gp FV FE)⟩
   | .ok (true,FL),k1=>
    refine ⟨G1,FC,F5,true,FL,FJ,q,fun H2 G2 Gp FV FE=>Di ?_⟩
    refine ⟨fun σ' H'=>∃ G' env' FR,Rel X.K G' H' env' σ' FR/\OutOk X.K G' H' FR D (c6 c g m env'),fun σ' H' z=>⟨m,Nat.lt_succ_self _,z⟩,G2,FL,Gp,FE,?_⟩
    have k2:OutOk X.K G1 H1 F5 D ((g FL).bind fun o=>match o with | .nx e=>c6 c g m e | .ct e=>c6 c g m e | .bk e=>.ok (.nx e) | .rt r=>.ok (.rt r)):=k1
    match q2:g FL,k2 with
    | .ok (.nx e),k2=>exact fun σ' H' G' FR st rel=>⟨G',e,FR,rel,OutOk.after (FV.trans st) k2⟩
    | .ok (.ct e),k2=>exact fun σ' H' G' FR st rel=>⟨G',e,FR,rel,OutOk.after (FV.trans st) k2⟩
    | .ok (.bk e),k2=>exact fun σ' H' G' FR st rel=>k2 σ' H' G' FR (FV.trans st) rel
    | .ok (.rt r),k2=>exact fun v H' G' FR st rel=>k2 v H' G' FR (FV.trans st) rel
def Walk (K:W.Frag) (G:Hp) (J:It) (ds:List D):Prop:=∀ G' H' es vs fp,Same G G'->Rel K G' H' es vs fp->∀ i:Nat,
 (∀ d,ds[i]?=some d->J.go i H'/\∀ x H2,J.yld i H' x H2->∃ G2,Rep K G2 d x/\Rel K G2 H2 es vs fp/\Step G' H' fp G2 H2 fp)/\(i=ds.length->J.stop i H')
abbrev FI:=PV.Env->Res (List D×PV.Env)
inductive tQI (K:W.Frag) (f:FI) (σ:L2.St) (H:Hp) (R:It->Hp->Prop):Prop
 | mk:∀ G env fp ds env',Rel K G H env σ fp->f env=.ok (ds,env')->(∀ J H' G' FR,Step G H fp G' H' FR->Rel K G' H' env' σ FR->Walk K G' J ds->R J H')->tQI K f σ H R
def QI (X:Cx) (tg e:Expr) (f:FI):Prop:=PI X tg e (tQI X.K f)
theorem j6 {X:Cx} {tg e:Expr} {t t':TI} (h:PI X tg e t) (k:∀ σ H R,t' σ H R->t σ H R):PI X tg e t':=fun pins s σ H R I w=>h pins s σ H R I (k σ H R w)
abbrev FG:=D->PV.Env->Res PV.Env
inductive tQG (K:W.Frag) (a:FG) (v:V) (σ:L2.St) (H:Hp) (Q:L2.St->Hp->Prop):Prop
 | mk:∀ G env fp d env',Rel K G H env σ fp->Rep K G d v->a d env=.ok env'->(∀ σ' G' FR,Step G H fp G' H FR->Rel K G' H env' σ' FR->Q σ' H)->tQG K a v σ H Q
def QG (X:Cx) (tg:Expr) (a:FG):Prop:=PG X tg (tQG X.K a)
noncomputable def ax (i:Nat):FG:=fun d env=>if i < env.length then .ok (env.set i (some (.f,d))) else .bad
theorem yc {X:Cx} {tg:Expr} {t t':TG} (h:PG X tg t) (k:∀ v σ H Q,t' v σ H Q->t v σ H Q):PG X tg t':=fun pins s σ H v u Q I r w=>h pins s σ H v u Q I r (k v σ H Q w)
theorem uT {X:Cx} {tg:List Expr} {t t':L1} (h:Me X tg t) (k:∀ v σ H Q,t' v σ H Q->t v σ H Q):Me X tg t':=fun pins s σ H v u Q I r w=>h pins s σ H v u Q I r (k v σ H Q w)
theorem av {i:Nat} {x:Str} (hN:X.N.Nodup) (hi:X.N[i]?=some x) (hx:Loc X.env.scope x) (hf:X.fn x=true\/X.env.scope.names.lookup x=some .local:=by first | exact .inl rfl | exact .inr rfl | assumption):QG X (.Name x pos) (ax i):=
 yc (yJ (i:=i) hN hi hx hf) fun v σ H Q FY=>by
  obtain ⟨G,env,fp,d,env',rel,r,e,k⟩:=FY
  unfold ax at e
  split at e
  ·rename_i hl
   cases e
   obtain ⟨fq,FE,FV⟩:=(rel.push r).store hl
   exact k _ G fq FV FE
  ·cases e
abbrev Lj:=List D->PV.Env->Res PV.Env
inductive tQGs (K:W.Frag) (a:Lj) (vs:List V) (σ:L2.St) (H:Hp) (Q:L2.St->Hp->Prop):Prop
 | mk:∀ G env fp ds env',Rel K G H env σ fp->Reps K G ds vs->a ds env=.ok env'->(∀ σ' G' FR,Step G H fp G' H FR->Rel K G' H env' σ' FR->Q σ' H)->tQGs K a vs σ H Q
def OA (X:Cx) (tg:List Expr) (a:Lj):Prop:=Me X tg (tQGs X.K a)
noncomputable def cq:Lj:=fun ds env=>match ds with
 | []=>.ok env
 | _=>.bad
noncomputable def aB (a:FG) (b:Lj):Lj:=fun ds env=>match ds with
 | d :: ds=>(a d env).bind fun e=>b ds e
 | _=>.bad
theorem cy:OA X [] cq:=uT yK fun vs σ H Q FY=>by
 obtain ⟨G,env,fp,ds,env',rel,r,e,k⟩:=FY
 cases ds with
 | nil=>
  cases e
  rw [Reps] at r
  exact ⟨r,k σ G fp .refl rel⟩
 | cons d ds=>cases e
theorem aF {tg:Expr} {J8:List Expr} {a:FG} {b:Lj} (h1:QG X tg a) (h2:OA X J8 b) (hs:(assignEach (tg :: J8) X.env).map (·.2)=assign tg X.env :: (assignEach J8 X.env).map (·.2):=by rfl):OA X (tg :: J8) (aB a b):=
 uT (wF h1 h2 hs) fun vs σ H Q FY=>by
  obtain ⟨G,env,fp,ds,env',rel,r,e,k⟩:=FY
  cases ds with
  | nil=>cases e
  | cons d ds=>
   rw [Reps] at r
   obtain ⟨y,ys,ev,r1,r2⟩:=r
   obtain ⟨FC,e1,e2⟩:=ar e
   exact ⟨y,ys,ev,G,env,fp,d,FC,rel,r1,e1,fun σ1 G1 F5 F2 FJ=>⟨G1,FC,F5,ds,env',FJ,r2.mono F2.gg,e2,fun σ2 G2 Gp FV FE=>k σ2 G2 Gp (F2.trans FV) FE⟩⟩
noncomputable def fW (n:Nat) (a:Lj):FG:=fun d env=>match d with
 | .tup ds=>if ds.length=n then a ds env else .bad
 | _=>.bad
theorem dE {J8:List Expr} {k n:Nat} {a:Lj} (hc:X.calm=true) (h:OA X J8 a) (hn:(assignEach J8 X.env).length=n:=by rfl) (JS:(assignEach J8 X.env).findIdx? (·.1)=none:=by rfl):QG X (.Tuple J8 k pos) (fW n a):=
 yc (Bj hc h hn JS) fun v σ H Q FY=>by
  obtain ⟨G,env,fp,d,env',rel,r,e,k⟩:=FY
  unfold fW at e
  split at e
  ·rename_i ds
   split at e
   ·rename_i hl
    obtain ⟨p,xs,ev,sq,rs⟩:=bL r
    exact ⟨p,xs,ev,cx rel.gh sq,rs.length.trans hl,G,env,fp,ds,env',rel,rs,e,k⟩
   ·cases e
  ·cases e
noncomputable def kB (a:FG) (g:FS):List D->FS
 | [],env=>.ok (.nx env)
 | d :: ds,env=>(a d env).bind fun e=>(g e).bind fun o=>match o with
  | .nx e=>kB a g ds e
  | .ct e=>kB a g ds e
  | .bk e=>.ok (.nx e)
  | .rt r=>.ok (.rt r)
noncomputable def mL (f:FI) (a:FG) (g:FS):FS:=fun env=>(f env).bind fun p=>kB a g p.1 p.2
theorem eh {tg iter:Expr} {body:List Stmt} {fi:FI} {a:FG} (hp:PassesOwn (model X.prog X.w) X.A X.env X.xe) (hc:X.calm=true) (hi:QI X tg iter fi) (hg:QG X tg a) (hb:K4 (md:=md) X body g) (hs:∀ x,foldedSetIterable iter X.env x=pure x:=by intro _;rfl):QS (md:=md) X (.For tg iter body [] pos) (mL fi a g):=
 gN (Bo hp hc hi hg hb hs) fun D σ H FY=>by
  obtain ⟨G,env,fp,rel,k⟩:=FY
  unfold mL at k
  match q:fi env,k with
  | .ok (ds,FC),k=>
   refine ⟨G,env,fp,ds,FC,rel,q,fun J H1 G1 F5 F2 FJ wk=>?_⟩
   have k:OutOk X.K G H fp D (kB a g ds FC):=k
   refine ⟨fun i m σ' H'=>m=ds.length - i/\i<=ds.length/\∃ G' env' FR,Same G1 G'/\Rel X.K G' H' env' σ' FR/\OutOk X.K G' H' FR D (kB a g (ds.drop i) env'),⟨_,rfl,Nat.zero_le _,G1,FC,F5,.refl _,FJ,OutOk.after F2 k⟩,?_⟩
   rintro i m σ2 H2 ⟨rfl,hi,G2,FL,Gp,gg,FE,k2⟩
   obtain ⟨w1,w2⟩:=wk G2 H2 _ _ _ gg FE i
   by_cases Gn:i < ds.length
   ·have hd:ds[i]?=some ds[i]:=List.getElem?_eq_getElem Gn
    obtain ⟨go,yl⟩:=w1 _ hd
    rw [List.drop_eq_getElem_cons Gn] at k2
    refine .inr ⟨go,fun σ' H'=>∃ G' env' FR,Same G1 G'/\Rel X.K G' H' env' σ' FR/\OutOk X.K G' H' FR D (kB a g (ds.drop (i + 1)) env'),fun σ' H' z=>⟨ds.length - (i + 1),by lia,rfl,Gn,z⟩,fun x H3 y=>?_⟩
    obtain ⟨G3,rx,F8,Gj⟩:=yl x H3 y
    unfold kB at k2
    match q3:a ds[i] FL,k2 with
    | .ok Gz,k2=>
     refine ⟨G3,FL,Gp,ds[i],Gz,F8,rx,q3,fun σ4 G4 NK Hg Gr=>⟨G4,Gz,NK,Gr,?_⟩⟩
     have k3:OutOk X.K G2 H2 Gp D ((g Gz).bind fun o=>match o with | .nx e=>kB a g (ds.drop (i + 1)) e | .ct e=>kB a g (ds.drop (i + 1)) e | .bk e=>.ok (.nx e) | .rt r=>.ok (.rt r)):=k2
     match q4:g Gz,k3 with
     | .ok (.nx e),k3=>exact fun σ' H' G' FR st rel=>⟨G',e,FR,gg.trans (Gj.gg.trans (Hg.gg.trans st.gg)),rel,OutOk.after (Gj.trans (Hg.trans st)) k3⟩
     | .ok (.ct e),k3=>exact fun σ' H' G' FR st rel=>⟨G',e,FR,gg.trans (Gj.gg.trans (Hg.gg.trans st.gg)),rel,OutOk.after (Gj.trans (Hg.trans st)) k3⟩
     | .ok (.bk e),k3=>exact fun σ' H' G' FR st rel=>k3 σ' H' G' FR (Gj.trans (Hg.trans st)) rel
     | .ok (.rt r),k3=>exact fun v H' G' FR st rel=>k3 v H' G' FR (Gj.trans (Hg.trans st)) rel
   ·have e:i=ds.length:=by lia
    subst e
    rw [List.drop_length] at k2
    exact .inl ⟨w2 rfl,k2 σ2 H2 G2 Gp .refl FE⟩
noncomputable def BP (f:FX):FI:=fun env=>(f env).bind fun p=>match p.1.2 with
 | .lst ds=>.ok (ds,p.2)
 | _=>.bad
noncomputable def fu (f:FX):FI:=fun env=>(f env).bind fun p=>match p.1.2 with
 | .tup ds=>.ok (ds,p.2)
 | _=>.bad
variable {tg l:Expr}
theorem pf {K:W.Frag} {G:Hp} {a:Addr} {xs:List V} {ds:List D} (sq:SqL K G a xs) (rs:Reps K G ds xs):Walk K G (M5 K a) ds:=by
 intro G' H' es vs fp gg rel i
 have Hc:SqL K H' a xs:=iy rel.gh (iy gg sq)
 refine ⟨fun d hd=>?_,fun e=>⟨xs,Hc,by rw [rs.length];lia⟩⟩
 obtain ⟨x,hx,rx⟩:=rs.get hd
 refine ⟨⟨xs,x,Hc,hx⟩,fun y H2 ⟨e,hy⟩=>?_⟩
 subst e
 have:=hy xs Hc
 rw [hx] at this
 cases this
 exact ⟨G',Rep.mono gg rx,rel,.refl⟩
theorem xf {K:W.Frag} {G:Hp} {a:Addr} {xs:List V} {ds:List D} (sq:SqT K G a xs) (rs:Reps K G ds xs):Walk K G (OR K a) ds:=by
 intro G' H' es vs fp gg rel i
 have Hc:SqT K H' a xs:=cx rel.gh (cx gg sq)
 refine ⟨fun d hd=>?_,fun e=>⟨xs,Hc,by rw [rs.length];lia⟩⟩
 obtain ⟨x,hx,rx⟩:=rs.get hd
 refine ⟨⟨xs,x,Hc,hx⟩,fun y H2 ⟨e,hy⟩=>?_⟩
 subst e
 have:=hy xs Hc
 rw [hx] at this
 cases this
 exact ⟨G',Rep.mono gg rx,rel,.refl⟩
theorem zt (h:QE X l f):QI X tg l (BP f):=j6 (tW h) fun σ H R FY=>by
 obtain ⟨G,env,fp,ds,env',rel,e,k⟩:=FY
 obtain ⟨⟨⟨o,d⟩,FC⟩,e1,e⟩:=ar e
 dsimp only at e
 split at e
 ·cases e
  refine ⟨G,env,fp,_,_,rel,e1,fun v H1 G1 F5 F2 FJ=>?_⟩
  obtain ⟨G2,b,rv,FE,FV⟩:=FJ.freeze
  obtain ⟨p,xs,ev,sq,rs⟩:=bV rv
  exact ⟨p,ev,⟨xs,iy FE.gh sq⟩,k _ H1 G2 b (F2.trans FV) FE (pf sq rs)⟩
 ·cases e
theorem eO (h:QE X l f):QI X tg l (fu f):=j6 (Bn h) fun σ H R FY=>by
 obtain ⟨G,env,fp,ds,env',rel,e,k⟩:=FY
 obtain ⟨⟨⟨o,d⟩,FC⟩,e1,e⟩:=ar e
 dsimp only at e
 split at e
 ·cases e
  refine ⟨G,env,fp,_,_,rel,e1,fun v H1 G1 F5 F2 FJ=>?_⟩
  obtain ⟨G2,b,rv,FE,FV⟩:=FJ.freeze
  obtain ⟨p,xs,ev,sq,rs⟩:=bL rv
  exact ⟨p,ev,⟨xs,cx FE.gh sq⟩,k _ H1 G2 b (F2.trans FV) FE (xf sq rs)⟩
 ·cases e
noncomputable def fw (f:FX):FI:=fun env=>(f env).bind fun p=>match p.1.2 with
 | .str l=>.ok (l.map fun c=>.str [c],p.2)
 | _=>.bad
theorem eQ (h:QE X l f):QI X tg l (fw f):=j6 (BF h) fun σ H R FY=>by
 obtain ⟨G,env,fp,ds,env',rel,e,k⟩:=FY
 obtain ⟨⟨⟨o,d⟩,FC⟩,e1,e⟩:=ar e
 dsimp only at e
 split at e
 ·rename_i cs
  cases e
  refine ⟨G,env,fp,_,_,rel,e1,fun v H1 G1 F5 F2 FJ=>?_⟩
  obtain ⟨G2,b,rv,FE,FV⟩:=FJ.freeze
  obtain ⟨ev,hl⟩:=bN rv
  refine ⟨cs,ev,k _ H1 G2 b (F2.trans FV) FE fun G' H' es vs FR gg F9 i=>⟨fun d hd=>?_,fun e=>?_⟩⟩
  ·rw [List.getElem?_map] at hd
   cases hc:cs[i]? with
   | none=>rw [hc] at hd;cases hd
   | some c=>
    rw [hc] at hd
    cases hd
    refine ⟨(List.getElem?_eq_some_iff.mp hc).1,fun x H2 ⟨e1,e2⟩=>?_⟩
    subst e1
    refine ⟨G',?_,F9,.refl⟩
    rw [e2]
    show Rep X.K G' (.str [c]) (.str (S [cs.getD i 0]))
    rw [List.getD_eq_getElem?_getD,hc]
    exact iS (by rw [line_eq];simp)
  ·rw [List.length_map] at e
   exact e
 ·cases e
noncomputable def dU (f:FO):FI:=fun env=>(f env).bind fun p=>(Hh p.2 p.1).bind fun d=>match d with
 | .int j=>if -4611686018427387904<=j/\j < 4611686018427387904 then .ok ((List.range j.toNat).map fun (k:Nat)=>D.int (k:Int),p.2) else .bad
 | _=>.bad
theorem mM {K:W.Frag} {G:Hp} (lo:Int) (n:Nat):Walk K G (Np lo n) ((List.range n).map fun (k:Nat)=>D.int (lo + (k:Int))):=by
 intro G' H' es vs fp gg rel i
 refine ⟨fun d hd=>?_,fun e=>?_⟩
 ·rw [List.getElem?_map] at hd
  cases hc:(List.range n)[i]? with
  | none=>rw [hc] at hd;cases hd
  | some c=>
   rw [hc] at hd
   cases hd
   obtain ⟨h1,h2⟩:=List.getElem?_eq_some_iff.mp hc
   rw [List.length_range] at h1
   rw [List.getElem_range] at h2
   subst h2
   refine ⟨h1,fun x H2 ⟨e1,e2⟩=>?_⟩
   subst e1
   exact ⟨G',by rw [e2];exact br _,rel,.refl⟩
 ·rw [List.length_map,List.length_range] at e
  exact Nat.le_of_eq e.symm
theorem cP {a:Expr} {fa:FO} {p pos:Pos} (hg:Gl X "range") (hm:X.mg "range" = none) (ha:QO X a fa) (hs:starEach [a] X.env=[(false,eval a X.env)]:=by rfl):QI X tg (.Call (.Name "range" p) [a] [] pos) (dU fa):=
 j6 (tX hg hm (af ha aj hs) hs) fun σ H R FY=>by
  obtain ⟨G,env,fp,ds,env',rel,e,k⟩:=FY
  obtain ⟨⟨o,FC⟩,e1,e⟩:=ar e
  obtain ⟨d,e2,e⟩:=ar e
  dsimp only at e
  split at e
  ·rename_i j
   split at e
   ·rename_i hj
    cases e
    refine ⟨G,env,fp,[o],_,rel,by show (fa env).bind _=_;rw [e1];rfl,fun vs H1 G1 F5 F2 FJ Hz=>?_⟩
    obtain ⟨y,ys,ev,k1,k2⟩:=Hz
    have k2:ys=[]:=k2
    subst k2
    have hv:=bQ (FJ.vw k1 e2)
    subst hv
    refine ⟨j,ev,by lia,by lia,k _ H1 G1 F5 F2 FJ ?_⟩
    have w:=mM (K:=X.K) (G:=G1) 0 j.toNat
    simpa using w
   ·cases e
  ·cases e
noncomputable def qh (fs:FOs):FI:=fun env=>(fs env).bind fun p=>(pd p.2 p.1).bind fun d=>match d with
 | [.int i,.int j]=>if (-4611686018427387904<=i/\i < 4611686018427387904)/\-4611686018427387904<=j/\j < 4611686018427387904 then .ok ((List.range (j - i).toNat).map fun (k:Nat)=>D.int (i + (k:Int)),p.2) else .bad
 | _=>.bad
theorem uU {a b:Expr} {fs:FOs} {p pos:Pos} (hg:Gl X "range") (hm:X.mg "range" = none) (ha:Ki X [a,b] fs) (hs:starEach [a,b] X.env=[(false,eval a X.env),(false,eval b X.env)]:=by rfl) (M6:starEach [b] X.env=[(false,eval b X.env)]:=by rfl) :
  QI X tg (.Call (.Name "range" p) [a,b] [] pos) (qh fs):=
 j6 (tY hg hm ha hs M6) fun σ H R FY=>by
  obtain ⟨G,env,fp,ds,env',rel,e,k⟩:=FY
  obtain ⟨⟨o,FC⟩,e1,e⟩:=ar e
  obtain ⟨d,e2,e⟩:=ar e
  dsimp only at e
  split at e
  ·rename_i i j
   split at e
   ·rename_i hj
    cases e
    refine ⟨G,env,fp,o,_,rel,e1,fun vs H1 G1 F5 F2 FJ Hz=>?_⟩
    obtain ⟨y,ys,ev,v1,z,zs,Pn,v2,e3⟩:=FJ.vws Hz e2
    have e3:zs=[]:=e3
    subst e3
    have h1:=bQ v1
    have h2:=bQ v2
    subst h1
    subst h2
    subst Pn
    exact ⟨i,j,ev,⟨by lia,by lia,by lia,by lia⟩,k _ H1 G1 F5 F2 FJ (mM i _)⟩
   ·cases e
  ·cases e
noncomputable def jM (k:Bool):D->Res (List D)
 | .lst ds=>if k then .ok ds else .bad
 | .tup ds=>if k then .bad else .ok ds
 | _=>.bad
noncomputable def sU (k1 k2:Bool) (fs:FOs):FI:=fun env=>(fs env).bind fun p=>match p.1 with
 | [.val d1,.val d2]=>(jM k1 d1).bind fun a=>(jM k2 d2).bind fun b=>.ok ((a.zip b).map fun z=>D.tup [z.1,z.2],p.2)
 | _=>.bad
theorem rq {K:W.Frag} {G:Hp} {k:Bool} {d:D} {ds:List D} {v:V} (e:jM k d=.ok ds) (r:Rep K G d v):∃ p xs,v=.ref p/\(if k then SqL K G p xs else SqT K G p xs)/\Reps K G ds xs:=by
 cases d with
 | lst es=>
  cases k with
  | true=>
   cases e
   obtain ⟨p,xs,e1,q,rs⟩:=bV r
   exact ⟨p,xs,e1,q,rs⟩
  | false=>cases e
 | tup es=>
  cases k with
  | true=>cases e
  | false=>
   cases e
   obtain ⟨p,xs,e1,q,rs⟩:=bL r
   exact ⟨p,xs,e1,q,rs⟩
 | _=>cases e
theorem nH {K:W.Frag} {G G':Hp} {k:Bool} {p:Addr} {xs:List V} (h:Same G G') (r:if k then SqL K G p xs else SqT K G p xs):if k then SqL K G' p xs else SqT K G' p xs:=by
 cases k with
 | true=>exact iy h r
 | false=>exact cx h r
theorem xg {K:W.Frag} {G:Hp} {k1 k2:Bool} {p1 p2:Addr} {xs ys:List V} {as bs:List D} (s1:if k1 then SqL K G p1 xs else SqT K G p1 xs) (s2:if k2 then SqL K G p2 ys else SqT K G p2 ys) (r1:Reps K G as xs) (r2:Reps K G bs ys) :
  Walk K G (Pa K k1 k2 p1 p2) ((as.zip bs).map fun z=>D.tup [z.1,z.2]):=by
 intro G' H' es vs fp gg rel i
 have g1:=nH (gg.trans rel.gh) s1
 have g2:=nH (gg.trans rel.gh) s2
 refine ⟨fun d hd=>?_,fun e=>⟨xs,ys,g1,g2,?_⟩⟩
 ·rw [List.getElem?_map] at hd
  cases hz:(as.zip bs)[i]? with
  | none=>rw [hz] at hd;cases hd
  | some z=>
   rw [hz] at hd
   cases hd
   obtain ⟨h1,h2⟩:=List.getElem?_zip_eq_some.mp hz
   obtain ⟨x,hx,rx⟩:=r1.get h1
   obtain ⟨y,hy,ry⟩:=r2.get h2
   refine ⟨⟨xs,ys,x,y,g1,g2,hx,hy⟩,fun v H2 ⟨T,hT,ev,hh⟩=>?_⟩
   have e2:=hh xs ys x y g1 g2 hx hy
   subst e2
   obtain ⟨FE,FV⟩:=rel.newF (u:=.tup [x,y]) hT
   refine ⟨_,?_,FE,FV⟩
   rw [Rep]
   exact ⟨T,[x,y],ev,bZ,.cons (Rep.mono (gg.trans FV.gg) rx) (.one (Rep.mono (gg.trans FV.gg) ry))⟩
 ·rw [List.length_map,List.length_zip] at e
  rw [r1.length,r2.length]
  exact e
theorem rA (k1 k2:Bool) {J8:List Expr} {kt:Nat} {pt:Pos} {e1 e2:Expr} {fs:FOs} {p pos:Pos} (hg:Gl X "zip") (hm:X.mg "zip" = none) (ha:Ki X [e1,e2] fs) (he:starEach [e1,e2] X.env=(false,eval e1 X.env) :: starEach [e2] X.env:=by rfl) (HI:(backTo pos (starEach [e2] X.env)).any (·.1)=false:=by rfl) :
  QI X (.Tuple J8 kt pt) (.Call (.Name "zip" p) [e1,e2] [] pos) (sU k1 k2 fs):=
 j6 (BI k1 k2 hg hm ha he HI) fun σ H R FY=>by
  obtain ⟨G,env,fp,ds,env',rel,e,k⟩:=FY
  obtain ⟨⟨o,FC⟩,e1,e⟩:=ar e
  dsimp only at e
  split at e
  ·rename_i d1 d2
   obtain ⟨a,ea,e⟩:=ar e
   obtain ⟨b,eb,e⟩:=ar e
   cases e
   refine ⟨G,env,fp,_,_,rel,e1,fun vs H1 G1 F5 F2 FJ Hz=>?_⟩
   obtain ⟨y,ys,ev,v1,z,zs,Pn,v2,e3⟩:=Hz
   have e3:zs=[]:=e3
   subst e3
   obtain ⟨p1,xs1,ep1,q1,r1⟩:=rq ea v1
   obtain ⟨p2,Nf,ep2,q2,r2⟩:=rq eb v2
   subst ep1
   subst ep2
   subst Pn
   exact ⟨p1,p2,xs1,Nf,ev,nH FJ.gh q1,nH FJ.gh q2,k _ H1 G1 F5 F2 FJ (xg q1 q2 r1 r2)⟩
  ·cases e
end
noncomputable def fBody (np nn:Nat) (g:FS):List D->Res R:=fun ds=>if ds.length=np then (g (ds.map (fun d=>some (O.f,d))++List.replicate nn none)).bind fun o=>match o with
 | .rt r=>.ok r
 | .nx _=>.ok (.f,.non)
 | _=>.bad
 else .bad
theorem k7 {K:W.Frag} {G H:Hp} (n:Nat):∀ {ds:List D} {vs:List V},Reps K G ds vs->RepE K G H (ds.map (fun d=>some (O.f,d))++List.replicate n none) (vs.map some++List.replicate n none) []
 | [],vs,r=>by
  rw [Reps] at r
  subst r
  show RepE K G H (List.replicate n none) (List.replicate n none) []
  induction n with
  | zero=>exact ⟨rfl,rfl⟩
  | succ n ih=>exact ⟨none,_,rfl,ih⟩
 | d :: ds,vs,r=>by
  rw [Reps] at r
  obtain ⟨y,ys,e,r1,r2⟩:=r
  subst e
  exact ⟨some y,_,rfl,y,[],[],rfl,rfl,j5.mpr ⟨r1,rfl⟩,k7 n r2⟩
theorem dA {P:Program} {w:World} {K:W.Frag} {mg:Str->Option Value} {base:Heap} {x:Str} {st:Stmt} {N ps:List Str} {k:Nat} {g:FS} (Df:Def K mg x st) (sc:FnScope N ps (defScope st))
  (hb:∀ (kV doc pm:Value) (an:Option Addr) (F7 ct:Value) (us:List Value),us.length=ps.length->bindArgs (PySem.W.fnOf x x (gM st) (e9 st) (defScope st) .none kV doc pm an F7 ct) ⟨us,[]⟩=pure (ps.zip us))
  (body:∀ (f:Addr) (F7:Value) (A:Around) (outer:List PySem.Env) (s:Shared) (H:Hp) (E:XK),Room k (A.deeper (envOfC x (defScope st) s.heap.objs.size f F7))->K4 (md:=.plain) (xR Kv P w K mg base N x (defScope st) f F7 A outer s H E).nox (e9 st) g) :
  Ct P w K mg base x (k + 1) (spF K (fBody ps.length (N.length - ps.length) g)):=by
 obtain ⟨f,fd,F,m⟩:=Df
 refine ⟨f,fd,ps,F.ok sc (fun vs H Q E h=>?_) (fun F7 A outer s H vs Q E hr h=>?_),m,F.kp,F.binds hb⟩
 ·obtain ⟨G,ds,r,_,rs,e,_⟩:=h
  unfold fBody at e
  split at e
  ·rename_i hl
   rw [rs.length,hl]
  ·cases e
 ·obtain ⟨G,ds,r,gh,rs,e,q⟩:=h
  unfold fBody at e
  split at e
  ·rename_i hl
   refine ⟨_,body f F7 A outer s H E hr,G,ds.map (fun d=>some (O.f,d))++List.replicate (N.length - ps.length) none,[],⟨?_,List.nodup_nil,(fun _ h=>nomatch h),gh⟩,?_⟩
   ·have:=k7 (K:=K) (G:=G) (H:=H) (N.length - ps.length) rs
    unfold L2.start
    rw [rs.length,hl]
    exact this
   ·obtain ⟨o,eo,e⟩:=ar e
    rw [eo]
    cases o with
    | rt r'=>
     cases e
     exact fun v H' G' FR st rel=>q v H' G' FR st rel
    | nx env'=>
     cases e
     exact fun σ' H' G' FR st rel=>q .non H' G' [] (st.trans (Step.cut fun _ h=>nomatch h)) (rel.nilF.push qg)
    | bk env'=>cases e
    | ct env'=>cases e
  ·cases e
noncomputable def fA (ix:List (Option Nat)) (env:PV.Env):PV.Env:=ix.map fun j=>j.bind fun j=>match env[j]? with
 | some (some r)=>some (O.f,r.2)
 | _=>none
noncomputable def cN:FT:=fun env=>.ok (true,env)
noncomputable def b5 (a:FG) (c:FT) (f:FX):List D->PV.Env->Res (List D)
 | [],_=>.ok []
 | d :: ds,env=>(a d env).bind fun e=>(c e).bind fun p=>if p.1 then (f p.2).bind fun q=>(b5 a c f ds q.2).bind fun rs=>.ok (q.1.2 :: rs) else b5 a c f ds p.2
noncomputable def b6 (fi:FI) (ix:List (Option Nat)) (a:FG) (c:FT) (f:FX):FX:=fun env=>(fi env).bind fun p=>(b5 a c f p.1 (fA ix p.2)).bind fun ds=>if ds.length<=sizeLine then .ok ((.l .f,.lst ds),if flatDs ds then p.2 else p.2.map frz) else .bad
theorem nI:∀ ds,ds.all (cu .f)=flatDs ds
 | []=>rfl
 | d :: ds=>by rw [List.all_cons,flatDs,nI ds,cu]
theorem gR {K:W.Frag} {G1 H:Hp} {es:PV.Env} {σ:L2.St} (ht:∀ (i:Nat) (r:R) (v:V),es[i]?=some (some r)->σ[i]?=some (some v)->Rep K G1 r.2 v) (hv:∀ (i:Nat) (r:R),es[i]?=some (some r)->∃ v,σ[i]?=some (some v)) :
  ∀ ix:List (Option Nat),RepE K G1 H (fA ix es) (mH ix σ) []
 | []=>⟨rfl,rfl⟩
 | none :: ix=>⟨none,_,rfl,gR ht hv ix⟩
 | some j :: ix=>by
  show RepE K G1 H ((match es[j]? with | some (some r)=>some (O.f,r.2) | _=>none) :: fA ix es) ((σ[j]?).bind id :: mH ix σ) []
  cases e:es[j]? with
  | none=>exact ⟨_,_,rfl,gR ht hv ix⟩
  | some r=>
   cases r with
   | none=>exact ⟨_,_,rfl,gR ht hv ix⟩
   | some r=>
    obtain ⟨v,ev⟩:=hv j r e
    refine ⟨_,_,rfl,v,[],[],?_,rfl,j5.mpr ⟨ht j r v e ev,rfl⟩,gR ht hv ix⟩
    rw [ev]
    rfl
section
variable {md:Mode} {X:Cx} {scope:Scope} {N:List Str} {tg iter elt:Expr} {ifs:List Expr} {pos:Pos} {fi:FI} {a:FG} {c:FT} {f:FX}
def OB (X:Cx) (ifs:List Expr) (c:FT):Prop:=Nb X ifs (tQT X.K c)
theorem a7:OB X [] cN:=fun pins s σ H Q I FY=>by
 obtain ⟨G,env,fp,b,env',rel,e,k⟩:=FY
 cases e
 exact y1 pins s σ H Q I (k H G fp .refl rel)
theorem zu {t:Expr} (h:QT X t c):OB X [t] c:=y2 h
end
section
variable {X:Cx}
inductive rCatS (K:W.Frag) (x:V) (y:V) (H:Hp) (Q:VK):Prop
 | mk:∀ l b xs zs,x=.ref l->y=.ref b->SqL K H l xs->SqL K H b zs->xs.length + zs.length<=sizeLine->(∀ p,H p=none->Q (.ref p) (upd H p (.lst (xs++zs))))->rCatS K x y H Q
theorem zv:Gx X (binaryOp .Add) (rCatS X.K):=by
 intro pins s σ H x y v u Q I rx ry h
 obtain ⟨l,b,xs,zs,rfl,rfl,hH,hB,hz,q⟩:=h
 cases rx
 cases ry
 obtain ⟨FH,r1,p1,_⟩:=I.list hH
 obtain ⟨J2,r2,p2,_⟩:=I.list hB
 have l1:=r1.length
 have l2:=r2.length
 obtain ⟨⟨cls,dd,data,sl⟩,ho,hc,n,hd⟩:=id p1.isList
 obtain ⟨⟨Mg,K0,data2,K1⟩,HW,Hf,n2,hd2⟩:=id p2.isList
 simp only at hc hd Hf hd2
 subst hc hd Hf hd2
 have e:FH.toArray++J2.toArray=(FH++J2).toArray:=by simp
 refine concat_meets ⟨_,ho,rfl⟩ ⟨_,HW,rfl⟩ noFill_list_add seq_list_add PySem.F.slot_list_add PySem.F.entry_list_add (PySem.F.args_list_add_2 _ _) (list_addW l b FH.toArray J2.toArray n n2 dd K0 sl K1 (by rw [List.size_toArray,List.size_toArray];lia)) ⟨ho,HW,?_⟩
 rw [e]
 exact ⟨.ref _,_,I.lnew (t':=s.toks) (r1.append r2) (by rw [List.length_append];lia),rfl,q _ I.fresh⟩
end
noncomputable def addD:D->D->Res R
 | .int i,.int j=>.ok (.f,.int (i + j))
 | .str a,.str b=>if a.length + b.length<=sizeLine then .ok (.f,.str (a++b)) else .bad
 | .lst a,.lst b=>if a.length + b.length<=sizeLine then .ok (.l .f,.lst (a++b)) else .bad
 | .tup a,.tup b=>if a≠[]/\a.length + b.length<=sizeLine then .ok (.f,.tup (a++b)) else .bad
 | _,_=>.bad
section
variable {X:Cx}
theorem nJ {K:W.Frag} {G H:Hp} {fp:List Addr} {es:PV.Env} {vs:L2.St} {ds:List D} {xs:List V} {p:Addr} (rel:Rel K G H es vs fp) (hp:H p=none) (r:Reps K G ds xs) :
  ∃ G',Rel K G' (upd H p (.tup xs)) (some (.f,.tup ds) :: es) (some (.ref p) :: vs) fp/\Step G H fp G' (upd H p (.tup xs)) fp:=by
 obtain ⟨FE,FV⟩:=rel.newF (u:=.tup xs) hp
 refine ⟨_,FE.push ?_,FV⟩
 rw [Rep]
 exact ⟨p,xs,rfl,bZ,r.mono FV.gg⟩
theorem BQ:Gx X (binaryOp .Add) (rG X.K addD):=by
 rintro pins s σ H x y v u Q I rx ry ⟨G,fp,es,vs,a,b,r,⟨rel,k⟩,va,vb,e⟩
 unfold addD at e
 split at e
 ·rename_i i j
  cases e
  cases bQ va
  cases bQ vb
  exact Bp pins s σ H _ _ v u Q I rx ry ⟨i,j,rfl,rfl,k _ H G fp .refl (rel.push (br _))⟩
 ·rename_i i j
  split at e
  ·rename_i hl
   cases e
   obtain ⟨e1,h1⟩:=gP va
   obtain ⟨e2,h2⟩:=gP vb
   subst e1
   subst e2
   refine sI pins s σ H _ _ v u Q I rx ry ⟨_,_,rfl,rfl,by rw [mh,mh];exact hl,?_⟩
   rw [DO]
   exact k _ H G fp .refl (rel.push (iS (by rw [List.length_append];exact hl)))
  ·cases e
 ·rename_i i j
  split at e
  ·rename_i hl
   cases e
   obtain ⟨p,xs,e1,h1,r1⟩:=va
   obtain ⟨p2,Nf,e2,h2,r2⟩:=vb
   subst e1
   subst e2
   refine zv pins s σ H _ _ v u Q I rx ry ⟨p,p2,xs,Nf,rfl,rfl,h1,h2,by rw [r1.length,r2.length];exact hl,fun q hq=>?_⟩
   obtain ⟨FE,FV⟩:=rel.newL hq (r1.app r2)
   exact k _ _ G _ FV FE
  ·cases e
 ·rename_i i j
  split at e
  ·rename_i hl
   cases e
   obtain ⟨p,xs,e1,h1,r1⟩:=je va
   obtain ⟨p2,Nf,e2,h2,r2⟩:=je vb
   subst e1
   subst e2
   have hx:xs≠[]:=fun z=>hl.1 (List.eq_nil_of_length_eq_zero (by rw [<-r1.length,z];rfl))
   refine yT pins s σ H _ _ v u Q I rx ry ⟨p,p2,xs,Nf,rfl,rfl,cx rel.gh h1,cx rel.gh h2,hx,by rw [r1.length,r2.length];exact hl.2,fun z=>?_,fun z q hq=>?_⟩
   ·have:j=[]:=List.eq_nil_of_length_eq_zero (by rw [<-r2.length,z];rfl)
    subst this
    rw [List.append_nil] at k
    exact k _ H G fp .refl (rel.push va)
   ·obtain ⟨G',FE,FV⟩:=nJ rel hq (r1.app r2)
    exact k _ _ G' _ FV FE
  ·cases e
 ·cases e
noncomputable def k8:D->D->Res R
 | .int i,.int j=>.ok (.f,.int (i - j))
 | _,_=>.bad
theorem fX:Gx X (binaryOp .Sub) (rG X.K k8):=by
 rintro pins s σ H x y v u Q I rx ry ⟨G,fp,es,vs,a,b,r,⟨rel,k⟩,va,vb,e⟩
 unfold k8 at e
 split at e
 ·rename_i i j
  cases e
  cases bQ va
  cases bQ vb
  exact Bq pins s σ H _ _ v u Q I rx ry ⟨i,j,rfl,rfl,k _ H G fp .refl (rel.push (br _))⟩
 ·cases e
noncomputable def cI (i:Int):Bool:=decide (-(2 ^ 64) < i/\i < 2 ^ 64)
noncomputable def D0:D->D->Res R
 | .int i,.int j=>if cI i || cI j then .ok (.f,.int (i * j)) else .bad
 | _,_=>.bad
theorem BR:Gx X (binaryOp .Mult) (rG X.K D0):=by
 rintro pins s σ H x y v u Q I rx ry ⟨G,fp,es,vs,a,b,r,⟨rel,k⟩,va,vb,e⟩
 unfold D0 at e
 split at e
 ·rename_i i j
  split at e
  ·rename_i hc
   cases e
   cases bQ va
   cases bQ vb
   have hc:CMul i j:=by
    rw [Bool.or_eq_true] at hc
    exact hc.imp of_decide_eq_true of_decide_eq_true
   exact Br pins s σ H _ _ v u Q I rx ry ⟨i,j,rfl,rfl,hc,k _ H G fp .refl (rel.push (br _))⟩
  ·cases e
 ·cases e
noncomputable def eB:D->D->Res R
 | .int i,.int j=>if 0 < j/\j < 1073741824 then .ok (.f,.int (i / j)) else .bad
 | _,_=>.bad
theorem cz:Gx X (binaryOp .FloorDiv) (rG X.K eB):=by
 rintro pins s σ H x y v u Q I rx ry ⟨G,fp,es,vs,a,b,r,⟨rel,k⟩,va,vb,e⟩
 unfold eB at e
 split at e
 ·rename_i i j
  split at e
  ·rename_i hc
   cases e
   cases bQ va
   cases bQ vb
   exact yL pins s σ H _ _ v u Q I rx ry ⟨i,j,rfl,rfl,hc,k _ H G fp .refl (rel.push (br _))⟩
  ·cases e
 ·cases e
noncomputable def fT:D->D->Res R
 | .int i,.int j=>if 0 < j then .ok (.f,.int (i % j)) else .bad
 | _,_=>.bad
theorem bM:Gx X (binaryOp .Mod) (rG X.K fT):=by
 rintro pins s σ H x y v u Q I rx ry ⟨G,fp,es,vs,a,b,r,⟨rel,k⟩,va,vb,e⟩
 unfold fT at e
 split at e
 ·rename_i i j
  split at e
  ·rename_i hc
   cases e
   cases bQ va
   cases bQ vb
   exact Bs pins s σ H _ _ v u Q I rx ry ⟨i,j,rfl,rfl,hc,k _ H G fp .refl (rel.push (br _))⟩
  ·cases e
 ·cases e
noncomputable def yd:D->D->Res R
 | .int i,.int j=>if 0<=j/\j<=1000000/\i.natAbs < 2 ^ 64 then .ok (.f,.int (i ^ j.toNat)) else .bad
 | _,_=>.bad
theorem ye:Gx X (binaryOp .Pow) (rG X.K yd):=by
 rintro pins s σ H x y v u Q I rx ry ⟨G,fp,es,vs,a,b,r,⟨rel,k⟩,va,vb,e⟩
 unfold yd at e
 split at e
 ·rename_i i j
  split at e
  ·rename_i hc
   cases e
   cases bQ va
   cases bQ vb
   exact Bt pins s σ H _ _ v u Q I rx ry ⟨i,j,rfl,rfl,hc,k _ H G fp .refl (rel.push (br _))⟩
  ·cases e
 ·cases e
noncomputable def Nc:D->D->Res R
 | .int i,.int j=>.ok (.f,.bl (decide (i < j)))
 | .str a,.str b=>.ok (.f,.bl (decide (a < b)))
 | _,_=>.bad
theorem D1:Gx X (compareOp .Lt) (rG X.K Nc):=by
 rintro pins s σ H x y v u Q I rx ry ⟨G,fp,es,vs,a,b,r,⟨rel,k⟩,va,vb,e⟩
 unfold Nc at e
 split at e
 ·rename_i i j
  cases e
  cases bQ va
  cases bQ vb
  exact DF pins s σ H _ _ v u Q I rx ry ⟨i,j,rfl,rfl,k _ H G fp .refl (rel.push (dO _))⟩
 ·rename_i i j
  cases e
  obtain ⟨e1,h1⟩:=gP va
  obtain ⟨e2,h2⟩:=gP vb
  subst e1
  subst e2
  refine t9 pins s σ H _ _ v u Q I rx ry ⟨_,_,rfl,rfl,?_⟩
  rw [fe,fe]
  exact k _ H G fp .refl (rel.push (dO _))
 ·cases e
noncomputable def leD:D->D->Res R
 | .int i,.int j=>.ok (.f,.bl (decide (i<=j)))
 | .str a,.str b=>.ok (.f,.bl (!decide (b < a)))
 | _,_=>.bad
noncomputable def OC:D->D->Res R
 | .int i,.int j=>.ok (.f,.bl (decide (j < i)))
 | _,_=>.bad
theorem D3:Gx X (compareOp .Gt) (rG X.K OC):=by
 rintro pins s σ H x y v u Q I rx ry ⟨G,fp,es,vs,a,b,r,⟨rel,k⟩,va,vb,e⟩
 unfold OC at e
 split at e
 ·rename_i i j
  cases e
  cases bQ va
  cases bQ vb
  exact DG pins s σ H _ _ v u Q I rx ry ⟨i,j,rfl,rfl,k _ H G fp .refl (rel.push (dO _))⟩
 ·cases e
noncomputable def geD:D->D->Res R
 | .int i,.int j=>.ok (.f,.bl (decide (j<=i)))
 | _,_=>.bad
end
abbrev FDs:=PV.Env->Res (List D×PV.Env)
inductive tDs (K:W.Frag) (f:FDs) (σ:L2.St) (H:Hp) (Q:List V->Hp->Prop):Prop
 | mk:∀ G env fp ds env',Rel K G H env σ fp->f env=.ok (ds,env')->(∀ vs H' G' FR,Step G H fp G' H' FR->Rel K G' H' env' σ FR->Reps K G' ds vs->Q vs H')->tDs K f σ H Q
def NL (X:Cx) (es:List Expr) (f:FDs):Prop:=PA X es (tDs X.K f)
noncomputable def bJ:FDs:=fun env=>.ok ([],env)
noncomputable def aI (f:FX) (g:FDs):FDs:=fun env=>(f env).bind fun p=>(g p.2).bind fun q=>.ok (p.1.2 :: q.1,q.2)
section
variable {X:Cx}
theorem aO:NL X [] bJ:=rg oH fun σ H Q FY=>by
 obtain ⟨G,env,fp,o,env',rel,e,k⟩:=FY
 cases e
 exact k [] H G fp .refl rel .nil
theorem ay {e:Expr} {es:List Expr} {f:FX} {g:FDs} (h:QE X e f) (hs:NL X es g) (JS:starEach (e :: es) X.env=(false,eval e X.env) :: starEach es X.env:=by rfl):NL X (e :: es) (aI f g):=
 rg (iO h hs JS) fun σ H Q FY=>by
  obtain ⟨G,env,fp,o,env',rel,e,k⟩:=FY
  obtain ⟨⟨r,FC⟩,e1,e⟩:=ar e
  obtain ⟨⟨ds,FL⟩,e2,e⟩:=ar e
  cases e
  refine ⟨G,env,fp,r,FC,rel,e1,fun v H1 G1 F5 F2 FJ=>?_⟩
  obtain ⟨G2,b,rv,FE,FV⟩:=FJ.freeze
  exact ⟨G2,FC,b,ds,FL,FE,e2,fun vs H3 G3 Iq Gj F8 rs=>k _ H3 G3 Iq (F2.trans (FV.trans Gj)) F8 (.cons (Rep.mono Gj.gg rv) rs)⟩
noncomputable def i8 (fs:FDs):FX:=fun env=>(fs env).bind fun p=>if p.1.length<=1000 then .ok ((.f,.tup p.1),p.2) else .bad
noncomputable def k9 (fs:FDs):FX:=fun env=>(fs env).bind fun p=>if p.1.length<=1000 then .ok ((.l .f,.lst p.1),p.2) else .bad
variable {es:List Expr} {fs:FDs} {pos:Pos}
theorem cJ {x1} (h:NL X es fs):QE X (.Tuple es x1 pos) (i8 fs):=cv (xP h) fun σ H Q FY=>by
 obtain ⟨G,env,fp,r,env',rel,e,k⟩:=FY
 obtain ⟨⟨ds,FC⟩,e1,e⟩:=ar e
 dsimp only at e
 split at e
 ·rename_i hl
  cases e
  refine ⟨G,env,fp,ds,env',rel,e1,fun vs H1 G1 F5 F2 FJ rs=>⟨by rw [rs.length,line_eq];lia,fun p hp=>?_⟩⟩
  obtain ⟨G2,FE,FV⟩:=nJ FJ hp rs
  exact k _ _ G2 _ (F2.trans FV) FE
 ·cases e
theorem c7 (h:NL X es fs):QE X (.List es pos) (k9 fs):=cv (Bu h) fun σ H Q FY=>by
 obtain ⟨G,env,fp,r,env',rel,e,k⟩:=FY
 obtain ⟨⟨ds,FC⟩,e1,e⟩:=ar e
 dsimp only at e
 split at e
 ·rename_i hl
  cases e
  refine ⟨G,env,fp,ds,env',rel,e1,fun vs H1 G1 F5 F2 FJ rs=>⟨by rw [rs.length,line_eq];lia,fun p hp=>?_⟩⟩
  obtain ⟨FE,FV⟩:=FJ.newL hp rs
  exact k _ _ G1 _ (F2.trans FV) FE
 ·cases e
noncomputable def FW:D->D->Res R
 | .lst ds,.int i=>match Gy ds i with
  | some d=>.ok (.f,d)
  | none=>.bad
 | .tup ds,.int i=>match Gy ds i with
  | some d=>.ok (.f,d)
  | none=>.bad
 | .str l,.int i=>match Gy l i with
  | some c=>.ok (.f,.str [c])
  | none=>.bad
 | _,_=>.bad
theorem rB {K:W.Frag} {G:Hp} {ds:List D} {xs:List V} {i:Int} {d:D} (r:Reps K G ds xs) (e:Gy ds i=some d):∃ v,Gy xs i=some v/\Rep K G d v:=by
 unfold Gy at e ⊢
 rw [r.length]
 cases hn:ixN ds.length i with
 | none=>rw [hn] at e;cases e
 | some j=>
  rw [hn] at e
  exact r.get e
theorem D4:Nv X (rG X.K FW):=by
 rintro value slice pins s σ H x y v u Q I rx ry ⟨G,fp,es,vs,a,b,r,⟨rel,k⟩,va,vb,e⟩ hs
 unfold FW at e
 split at e
 ·rename_i ds i
  split at e
  ·rename_i d hd
   cases e
   obtain ⟨p,xs,ev,sq,rs⟩:=va
   subst ev
   cases bQ vb
   obtain ⟨w',hw,J3⟩:=rB rs hd
   exact yU value slice pins s σ H _ _ v u Q I rx ry ⟨p,xs,i,w',rfl,rfl,sq,hw,k _ H G fp .refl (rel.push J3)⟩ hs
  ·cases e
 ·rename_i ds i
  split at e
  ·rename_i d hd
   cases e
   obtain ⟨p,xs,ev,sq,rs⟩:=je va
   subst ev
   cases bQ vb
   obtain ⟨w',hw,J3⟩:=rB rs hd
   exact Bx value slice pins s σ H _ _ v u Q I rx ry ⟨p,xs,i,w',rfl,rfl,cx rel.gh sq,hw,k _ H G fp .refl (rel.push J3)⟩ hs
  ·cases e
 ·rename_i l i
  split at e
  ·rename_i c hc
   cases e
   obtain ⟨ev,hl⟩:=gP va
   subst ev
   cases bQ vb
   refine By value slice pins s σ H _ _ v u Q I rx ry ⟨_,i,c,rfl,rfl,by rw [mh];exact hl,by rw [fe];exact hc,?_⟩ hs
   exact k _ H G fp .refl (rel.push (iS (l:=[c]) (by rw [line_eq];simp)))
  ·cases e
 ·cases e
variable {a b:Expr} {fa fb:FO}
theorem aQ (ha:QO X a fa) (hb:QO X b fb) (hs:uo b:=by exact fun _ _=>rfl):QE X (.Subscript a b pos) (aD FW fa fb):=cv (DL D4 ha hb hs) fun _ _ _=>uN
abbrev FP:=PV.Env->Res (Option Int×PV.Env)
inductive tQP (K:W.Frag) (f:FP) (σ:L2.St) (H:Hp) (Q:Option Int->Hp->Prop):Prop
 | mk:∀ G env fp i env',Rel K G H env σ fp->f env=.ok (i,env')->(∀ H' G' FR,Step G H fp G' H' FR->Rel K G' H' env' σ FR->Q i H')->tQP K f σ H Q
def QP (X:Cx) (e:Option Expr) (f:FP):Prop:=PO X e (tQP X.K f)
noncomputable def sV:FP:=fun env=>.ok (none,env)
noncomputable def lb (f:FX):FP:=fun env=>(f env).bind fun p=>match p.1.2 with
 | .int i=>.ok (some i,p.2)
 | _=>.bad
theorem yf {X:Cx} {e:Option Expr} {t t':TO} (h:PO X e t) (k:∀ σ H Q,t' σ H Q->t σ H Q):PO X e t':=fun pins s σ H Q I w=>h pins s σ H Q I (k σ H Q w)
theorem nK:QP X none sV:=yf yR fun σ H Q FY=>by
 obtain ⟨G,env,fp,i,env',rel,e,k⟩:=FY
 cases e
 exact k H G fp .refl rel
theorem gj {e:Expr} {f:FX} (h:QE X e f):QP X (some e) (lb f):=yf (yS h) fun σ H Q FY=>by
 obtain ⟨G,env,fp,i,env',rel,e,k⟩:=FY
 obtain ⟨⟨⟨o,d⟩,FC⟩,e1,e⟩:=ar e
 dsimp only at e
 split at e
 ·rename_i j
  cases e
  refine ⟨G,env,fp,_,_,rel,e1,fun v H1 G1 F5 F2 FJ=>?_⟩
  have hv:=FJ.top
  obtain ⟨b,FE,FV⟩:=FJ.drop
  exact ⟨j,bU hv,k H1 G1 b (F2.trans FV) FE⟩
 ·cases e
noncomputable def jg {α:Type} (xs:List α) (lo hi:Option Int):List α:=(xs.drop (HT.sIx xs.length 0 lo)).take (HT.sIx xs.length xs.length hi - HT.sIx xs.length 0 lo)
noncomputable def NM (k:D) (lo hi:Option Int):Res R:=match k with
 | .lst ds=>.ok (.l .f,.lst (jg ds lo hi))
 | .tup ds=>if ¬ (HT.sIx ds.length 0 lo=0/\HT.sIx ds.length ds.length hi=ds.length) then .ok (.f,.tup (jg ds lo hi)) else .bad
 | .str l=>.ok (.f,.str (jg l lo hi))
 | _=>.bad
noncomputable def eSl (fa:FO) (lo hi:FP):FX:=fun env=>(fa env).bind fun p=>(lo p.2).bind fun q=>(hi q.2).bind fun t=>(Hh t.2 p.1).bind fun d=>(NM d q.1 t.1).bind fun r=>.ok (r,t.2)
theorem rD {K:W.Frag} {G:Hp} {ds:List D} {xs:List V} {lo hi:Option Int} (r:Reps K G ds xs):Reps K G (jg ds lo hi) (xS xs lo hi):=by
 unfold jg xS
 rw [r.length]
 exact (r.drop _).take _
theorem zw {α:Type} (xs:List α) (lo hi:Option Int):(jg xs lo hi).length<=xs.length:=by
 unfold jg
 rw [List.length_take,List.length_drop]
 lia
inductive rSl (K:W.Frag) (x:V) (lo:Option Int) (hi:Option Int) (H:Hp) (Q:VK):Prop
 | mk:∀ G fp es vs d r,Goes K H G fp es vs r Q->Vw K G H d x->NM d lo hi=.ok r->rSl K x lo hi H Q
theorem BS:Mj X (rSl X.K):=by
 rintro pins s σ H x v vl vu lo hi sl Q I rx hs pl pu ⟨G,fp,es,vs,d,r,⟨rel,k⟩,vd,e⟩
 unfold NM at e
 split at e
 ·rename_i ds
  cases e
  obtain ⟨p,xs,ev,sq,rs⟩:=vd
  subst ev
  refine yV pins s σ H _ v vl vu lo hi sl Q I rx hs pl pu ⟨p,xs,rfl,sq,fun q hq=>?_⟩
  obtain ⟨FE,FV⟩:=rel.newL hq (rD (lo:=lo) (hi:=hi) rs)
  exact k _ _ G _ FV FE
 ·rename_i ds
  split at e
  ·rename_i hw
   cases e
   obtain ⟨p,xs,ev,sq,rs⟩:=je vd
   subst ev
   refine Bw pins s σ H _ v vl vu lo hi sl Q I rx hs pl pu ⟨p,xs,rfl,cx rel.gh sq,by rw [rs.length];exact hw,fun q hq=>?_⟩
   obtain ⟨G2,FE,FV⟩:=nJ rel hq (rD (lo:=lo) (hi:=hi) rs)
   exact k _ _ G2 _ FV FE
  ·cases e
 ·rename_i l
  cases e
  obtain ⟨ev,hl⟩:=gP vd
  subst ev
  exact BE pins s σ H _ v vl vu lo hi sl Q I rx hs pl pu ⟨l,rfl,hl,k _ H G fp .refl (rel.push (iS (l:=BD l lo hi) (Nat.le_trans (zw l lo hi) hl)))⟩
 ·cases e
noncomputable def uV (env:PV.Env) (i:Nat):Bool:=match env[i]? with
 | some (some (_,.lst _))=>true
 | _=>false
theorem xh {K:W.Frag} {G H:Hp} {es:PV.Env} {σ:L2.St} {fp:List Addr} {i:Nat} (rel:Rel K G H es σ fp) (h:uV es i=true):∃ v,σ[i]?=some (some v)/\OY K "list" v H:=by
 unfold uV at h
 split at h
 ·rename_i o ds hr
  obtain ⟨v,ev,rv⟩:=rel.view hr
  obtain ⟨p,xs,e,sq,_⟩:=bV rv
  subst e
  exact ⟨_,ev,.inl ⟨rfl,xs,sq⟩⟩
 ·cases h
noncomputable def pg (i:Nat) (f:FX):FX:=fun env=>if uV env i then (f env).bind fun p=>match p.2[i]? with
 | some (some (.l .f,.lst ds))=>if ds.length < sizeLine then .ok ((.f,.non),p.2.set i (some (.l .f,.lst (ds++[p.1.2])))) else .bad
 | _=>.bad
 else .bad
theorem b7 {i:Nat} {o e:Expr} {f:FX} {apos F4:Pos} (ho:PE X o (wz i)) (he:QE X e f)
  (GU:attributeBase o "append" X.env (eval o X.env)=eval o X.env:=by rfl)
  (Ic:((backTo F4 (starEach [e] X.env)).all (fun x=>!x.1) && (backToKw F4 (keywordEach [] X.env)).all (fun x=>x.1.isSome) && decide ([e].length + ([]:List Keyword).length + (if ([]:List Keyword).isEmpty then 0 else 1) < 30))=true:=by rfl)
  (GV:(apos.endLine == F4.line)=true:=by rfl) (hs:starEach [e] X.env=(false,eval e X.env) :: starEach [] X.env:=by rfl) (Gv:(backTo F4 (starEach [] X.env)).any (·.1)=false:=by rfl) :
  QE X (.Call (.Attribute o "append" apos) [e] [] F4) (pg i f):=by
 refine cv (yW PySem.F.plainAttrs_list PySem.F.slot_list_append PySem.F.type_list_append oQ ho (ay he aO hs) GU Ic GV hs Gv) fun σ H Q F3=>?_
 obtain ⟨G,env,fp,r,env',rel,e,k⟩:=F3
 unfold pg at e
 split at e
 ·rename_i hil
  obtain ⟨v,ev,ty⟩:=xh rel hil
  obtain ⟨⟨r1,FC⟩,e1,e⟩:=ar e
  dsimp only at e
  split at e
  ·rename_i ds Mi
   split at e
   ·rename_i hl
    cases e
    refine ⟨v,ev,ty,G,env,fp,[r1.2],FC,rel,by show (f env).bind _=_;rw [e1];rfl,fun vs H1 G1 F5 F2 FJ rs=>?_⟩
    rw [Reps] at rs
    obtain ⟨y,ys,eys,ry,rn⟩:=rs
    rw [Reps] at rn
    subst rn
    obtain ⟨p,xs,ep,hp,NN,cg⟩:=FJ.chg (ds':=ds++[r1.2]) Mi
    rw [ev] at ep
    cases ep
    obtain ⟨fq,FE,FV⟩:=cg (xs++[y]) (NN.app (.one ry))
    exact ⟨p,xs,y,rfl,eys,hp,by rw [NN.length];exact hl,k _ _ G1 fq (F2.trans FV) (FE.push qg)⟩
   ·cases e
  ·cases e
 ·cases e
noncomputable def D5:List D->Res R
 | [.lst ds]=>.ok (.f,.int ds.length)
 | [.tup ds]=>.ok (.f,.int ds.length)
 | [.str l]=>.ok (.f,.int l.length)
 | _=>.bad
theorem mN {K:W.Frag} {G H:Hp} {d:D} {xs:List V} (h:L7 K G H [d] xs):∃ v,xs=[v]/\Vw K G H d v:=by
 obtain ⟨y,ys,e,v1,e2⟩:=h
 have e2:ys=[]:=e2
 subst e2
 exact ⟨y,e,v1⟩
theorem EE {K:W.Frag} {G H:Hp} {d d':D} {xs:List V} (h:L7 K G H [d,d'] xs):∃ v w,xs=[v,w]/\Vw K G H d v/\Vw K G H d' w:=by
 obtain ⟨y,ys,e,v1,h2⟩:=h
 obtain ⟨z,e2,v2⟩:=mN h2
 subst e2
 exact ⟨y,z,e,v1,v2⟩
theorem BU:dP X (.builtin "len") (rC X.K D5):=by
 rintro pins s σ H xs us Q I rx ⟨G,fp,es,vs,ds,r,⟨rel,k⟩,vd,e⟩
 unfold D5 at e
 split at e
 ·rename_i ds
  cases e
  obtain ⟨v,ev,p,ys,ep,sq,rs⟩:=mN vd
  subst ev
  subst ep
  refine j4 pins s σ H _ us Q I rx ⟨p,ys,rfl,.inl sq,?_⟩
  rw [rs.length]
  exact k _ H G fp .refl (rel.push (br _))
 ·rename_i ds
  cases e
  obtain ⟨v,ev,vt⟩:=mN vd
  obtain ⟨p,ys,ep,sq,rs⟩:=je vt
  subst ev
  subst ep
  refine j4 pins s σ H _ us Q I rx ⟨p,ys,rfl,.inr (cx rel.gh sq),?_⟩
  rw [rs.length]
  exact k _ H G fp .refl (rel.push (br _))
 ·rename_i l
  cases e
  obtain ⟨v,ev,vt⟩:=mN vd
  obtain ⟨ep,hl⟩:=gP vt
  subst ev
  subst ep
  refine oO pins s σ H _ us Q I rx ⟨S l,rfl,by rw [mh];exact hl,?_⟩
  rw [mh]
  exact k _ H G fp .refl (rel.push (br _))
 ·cases e
noncomputable def Fj:List D->Res R
 | [.lst ds]=>.ok (.l .f,.lst ds)
 | [.tup ds]=>.ok (.l .f,.lst ds)
 | _=>.bad
noncomputable def cQ:List D->Res R
 | [.lst ds]=>.ok (.f,.tup ds)
 | [.tup ds]=>.ok (.f,.tup ds)
 | _=>.bad
theorem bS:dP X (.type "tuple") (rC X.K cQ):=by
 rintro pins s σ H xs us Q I rx ⟨G,fp,es,vs,ds,r,⟨rel,k⟩,vd,e⟩
 unfold cQ at e
 split at e
 ·rename_i ds
  cases e
  obtain ⟨v,ev,p,ys,ep,sq,rs⟩:=mN vd
  subst ev
  subst ep
  refine i9 pins s σ H _ us Q I rx ⟨p,ys,rfl,.inl ⟨sq,fun q hq=>?_⟩⟩
  obtain ⟨G2,FE,FV⟩:=nJ rel hq rs
  exact k _ _ G2 _ FV FE
 ·rename_i ds
  cases e
  obtain ⟨v,ev,vt⟩:=mN vd
  obtain ⟨p,ys,ep,sq,rs⟩:=je vt
  subst ev
  subst ep
  exact i9 pins s σ H _ us Q I rx ⟨p,ys,rfl,.inr ⟨cx rel.gh sq,k _ H G fp .refl (rel.push vt)⟩⟩
 ·cases e
noncomputable def mr:List D->Option (List Bool)
 | []=>some []
 | .bl b :: ds=>(mr ds).map (b :: ·)
 | _=>none
noncomputable def c8:List D->Option (List Int)
 | []=>some []
 | .int b :: ds=>(c8 ds).map (b :: ·)
 | _=>none
theorem jN {K:W.Frag} {G:Hp}:∀ {ds:List D} {bs:List Bool} {xs:List V},mr ds=some bs->Reps K G ds xs->xs=bs.map V.bl
 | [],_,_,e,r=>by
  cases e
  rw [Reps] at r
  exact r
 | .bl b :: ds,_,_,e,r=>by
  rw [mr,Option.map_eq_some_iff] at e
  obtain ⟨bs,e1,e2⟩:=e
  subst e2
  rw [Reps] at r
  obtain ⟨y,ys,e3,r1,r2⟩:=r
  rw [e3,dC r1,jN e1 r2]
  rfl
 | .non :: _,_,_,e,_ | .int _ :: _,_,_,e,_ | .str _ :: _,_,_,e,_ | .tup _ :: _,_,_,e,_ | .lst _ :: _,_,_,e,_ | .dct _ _ _ :: _,_,_,e,_=>by simp [mr] at e
theorem iT {K:W.Frag} {G:Hp}:∀ {ds:List D} {bs:List Int} {xs:List V},c8 ds=some bs->Reps K G ds xs->xs=bs.map V.int
 | [],_,_,e,r=>by
  cases e
  rw [Reps] at r
  exact r
 | .int b :: ds,_,_,e,r=>by
  rw [c8,Option.map_eq_some_iff] at e
  obtain ⟨bs,e1,e2⟩:=e
  subst e2
  rw [Reps] at r
  obtain ⟨y,ys,e3,r1,r2⟩:=r
  rw [e3,bU r1,iT e1 r2]
  rfl
 | .non :: _,_,_,e,_ | .bl _ :: _,_,_,e,_ | .str _ :: _,_,_,e,_ | .tup _ :: _,_,_,e,_ | .lst _ :: _,_,_,e,_ | .dct _ _ _ :: _,_,_,e,_=>by simp [c8] at e
theorem jO (ns:List Int):c8 (ns.map D.int)=some ns:=by
 induction ns with
 | nil=>rfl
 | cons n ns ih=>rw [List.map_cons,c8,ih];rfl
theorem ph (ns:List Bool):mr (ns.map D.bl)=some ns:=by
 induction ns with
 | nil=>rfl
 | cons n ns ih=>rw [List.map_cons,mr,ih];rfl
noncomputable def lh:D->Option (List D)
 | .lst ds=>some ds
 | .tup ds=>some ds
 | _=>none
theorem qi {K:W.Frag} {G H:Hp} {d:D} {ds:List D} {v:V} (gh:Same G H) (e:lh d=some ds) (h:Vw K G H d v):∃ p xs,v=.ref p/\(SqL K H p xs\/SqT K H p xs)/\Reps K G ds xs:=by
 cases d with
 | lst es=>
  cases e
  obtain ⟨p,xs,ev,sq,rs⟩:=h
  exact ⟨p,xs,ev,.inl sq,rs⟩
 | tup es=>
  cases e
  obtain ⟨p,xs,ev,sq,rs⟩:=bL h
  exact ⟨p,xs,ev,.inr (cx gh sq),rs⟩
 | _=>cases e
noncomputable def BV:List D->Res R
 | [d]=>match (lh d).bind mr with
  | some bs=>.ok (.f,.bl (bs.all id))
  | none=>.bad
 | _=>.bad
noncomputable def AV:List D->Res R
 | [d]=>match (lh d).bind mr with
  | some bs=>.ok (.f,.bl (bs.any id))
  | none=>.bad
 | _=>.bad
theorem rE (bs:List Bool):(bs.map V.bl).all Dj=true:=by
 rw [List.all_map,List.all_eq_true]
 intro b _
 rfl
theorem zx (bs:List Bool):(bs.map V.bl).all xY=bs.all id:=by
 rw [List.all_map]
 rfl
theorem zy (bs:List Bool):(bs.map V.bl).any xY=bs.any id:=by
 rw [List.any_map]
 rfl
theorem BW (hc:X.calm=true):dP X (.builtin "all") (rC X.K BV):=by
 rintro pins s σ H xs us Q I rx ⟨G,fp,es,vs,ds,r,⟨rel,k⟩,vd,e⟩
 unfold BV at e
 split at e
 ·rename_i d
  split at e
  ·rename_i bs hb
   cases e
   obtain ⟨l,hl,hb⟩:=Option.bind_eq_some_iff.mp hb
   obtain ⟨v,ev,vt⟩:=mN vd
   obtain ⟨p,ys,ep,sq,rs⟩:=qi rel.gh hl vt
   have:=jN hb rs
   subst this
   subst ev
   subst ep
   refine wR hc pins s σ H _ us Q I rx ⟨p,_,rfl,sq,rE bs,?_⟩
   rw [zx]
   exact k _ H G fp .refl (rel.push (dO _))
  ·cases e
 ·cases e
theorem yg (hc:X.calm=true):dP X (.builtin "any") (rC X.K AV):=by
 rintro pins s σ H xs us Q I rx ⟨G,fp,es,vs,ds,r,⟨rel,k⟩,vd,e⟩
 unfold AV at e
 split at e
 ·rename_i d
  split at e
  ·rename_i bs hb
   cases e
   obtain ⟨l,hl,hb⟩:=Option.bind_eq_some_iff.mp hb
   obtain ⟨v,ev,vt⟩:=mN vd
   obtain ⟨p,ys,ep,sq,rs⟩:=qi rel.gh hl vt
   have:=jN hb rs
   subst this
   subst ev
   subst ep
   refine wU hc pins s σ H _ us Q I rx ⟨p,_,rfl,sq,rE bs,?_⟩
   rw [zy]
   exact k _ H G fp .refl (rel.push (dO _))
  ·cases e
 ·cases e
noncomputable def B0:List D->Res R
 | [d]=>match (lh d).bind c8 with
  | some ns=>.ok (.f,.int ns.sum)
  | none=>.bad
 | _=>.bad
noncomputable def maxD:List D->Res R
 | [d]=>match (lh d).bind c8 with
  | some (n :: ns)=>.ok (.f,.int (cU (n :: ns)))
  | _=>.bad
 | [.int i,.int j]=>.ok (.f,.int (if i < j then j else i))
 | _=>.bad
noncomputable def minD:List D->Res R
 | [d]=>match (lh d).bind c8 with
  | some (n :: ns)=>.ok (.f,.int (dR (n :: ns)))
  | _=>.bad
 | _=>.bad
theorem gS {K:W.Frag} {G H:Hp} {d:D} {ns:List Int} {v:V} (gh:Same G H) (hb:(lh d).bind c8=some ns) (vt:Vw K G H d v):∃ p,v=.ref p/\(SqL K H p (ns.map V.int)\/SqT K H p (ns.map V.int)):=by
 obtain ⟨l,hl,hb⟩:=Option.bind_eq_some_iff.mp hb
 obtain ⟨p,ys,ep,sq,rs⟩:=qi gh hl vt
 have:=iT hb rs
 subst this
 exact ⟨p,ep,sq⟩
theorem B1 (hc:X.calm=true):dP X (.builtin "sum") (rC X.K B0):=by
 rintro pins s σ H xs us Q I rx ⟨G,fp,es,vs,ds,r,⟨rel,k⟩,vd,e⟩
 unfold B0 at e
 split at e
 ·rename_i d
  split at e
  ·rename_i ns hb
   cases e
   obtain ⟨v,ev,vt⟩:=mN vd
   obtain ⟨p,ep,sq⟩:=gS rel.gh hb vt
   subst ev
   subst ep
   exact uB hc pins s σ H _ us Q I rx ⟨p,ns,rfl,sq,k _ H G fp .refl (rel.push (br _))⟩
  ·cases e
 ·cases e
end
mutual
noncomputable def eqD:D->D->Bool
 | .non,.non=>true
 | .bl a,.bl b=>a == b
 | .bl a,.int j=>(if a then 1 else 0) == j
 | .int i,.bl b=>i == (if b then 1 else 0)
 | .int i,.int j=>i == j
 | .str a,.str b=>a == b
 | .tup a,.tup b=>jP a b
 | .lst a,.lst b=>jP a b
 | _,_=>false
noncomputable def jP:List D->List D->Bool
 | [],[]=>true
 | a :: as,b :: bs=>eqD a b && jP as bs
 | _,_=>false
end
mutual
noncomputable def plainD:Nat->D->Bool
 | n + 1,.tup ds=>plainDs n ds
 | n + 1,.lst ds=>plainDs n ds
 | 0,.tup _=>false
 | 0,.lst _=>false
 | _,.dct _ _ _=>false
 | _,_=>true
noncomputable def plainDs:Nat->List D->Bool
 | _,[]=>true
 | n,d :: ds=>plainD n d && plainDs n ds
end
theorem plainDs_mem:∀ {n:Nat} {ds:List D},plainDs n ds=true->∀ {i:Nat} {d:D},ds[i]?=some d->plainD n d=true
 | _,[],_,_,_,e=>by simp at e
 | n,a :: ds,h,0,d,e=>by
  rw [plainDs,Bool.and_eq_true] at h
  simp at e
  rw [<-e]
  exact h.1
 | n,a :: ds,h,i + 1,d,e=>by
  rw [plainDs,Bool.and_eq_true] at h
  exact plainDs_mem h.2 (i:=i) (by simpa using e)
theorem jh:∀ {a b:List D},a.length≠b.length->jP a b=false
 | [],[],h=>absurd rfl h
 | [],_ :: _,_=>by simp only [jP]
 | _ :: _,[],_=>by simp only [jP]
 | x :: xs,y :: ys,h=>by
  rw [jP,jh (fun e=>h (by simp [e])),Bool.and_false]
theorem fY:∀ {a b:List D},a.length=b.length->(List.range a.length).all (fun j=>eqD (a.getD j .non) (b.getD j .non))=jP a b
 | [],[],_=>rfl
 | [],_ :: _,h=>by simp at h
 | _ :: _,[],h=>by simp at h
 | x :: xs,y :: ys,h=>by
  rw [jP,<-fY (a:=xs) (b:=ys) (by simpa using h),List.length_cons,List.range_succ_eq_map,List.all_cons,List.all_map]
  rfl
section
variable {X:Cx} {pins:List (Addr×Obj)} {σ:L2.St} {H:Hp} {s:Shared}
theorem lj (I:Inv X pins σ H s) {p:Addr} {xs ys:List V} (h:SqL X.K H p xs) (h':SqT X.K H p ys):False:=by
 obtain ⟨us,_,p1,_⟩:=I.list h
 obtain ⟨ws,_,p2,_⟩:=I.tuple h'
 exact SeqAt.ne_of_list_tuple p1.isList (show s.heap.IsTuple p ws.toArray from p2) rfl
mutual
theorem ll (I:Inv X pins σ H s):∀ (d e:D) (x:V) (n:Nat),plainD n d=true->Rep X.K H d x->Rep X.K H e x->d=e
 | .non,e,x,n,_,r,q=>by
  cases cO r
  cases e with
  | non=>rfl
  | bl b=>cases dC q
  | int i=>cases bU q
  | str l=>cases (bN q).1
  | tup l=>obtain ⟨p,xs,ev,_⟩:=bL q;cases ev
  | lst l=>obtain ⟨p,xs,ev,_⟩:=bV q;cases ev
  | dct tk ks vs=>rw [Rep] at q;obtain ⟨p,xs,o,ev,_⟩:=q;cases ev
 | .bl b,e,x,n,_,r,q=>by
  cases dC r
  cases e with
  | non=>cases cO q
  | bl b=>cases dC q;rfl
  | int i=>cases bU q
  | str l=>cases (bN q).1
  | tup l=>obtain ⟨p,xs,ev,_⟩:=bL q;cases ev
  | lst l=>obtain ⟨p,xs,ev,_⟩:=bV q;cases ev
  | dct tk ks vs=>rw [Rep] at q;obtain ⟨p,xs,o,ev,_⟩:=q;cases ev
 | .int i,e,x,n,_,r,q=>by
  cases bU r
  cases e with
  | non=>cases cO q
  | bl b=>cases dC q
  | int i=>cases bU q;rfl
  | str l=>cases (bN q).1
  | tup l=>obtain ⟨p,xs,ev,_⟩:=bL q;cases ev
  | lst l=>obtain ⟨p,xs,ev,_⟩:=bV q;cases ev
  | dct tk ks vs=>rw [Rep] at q;obtain ⟨p,xs,o,ev,_⟩:=q;cases ev
 | .str l,e,x,n,_,r,q=>by
  have hr:=(bN r).1
  subst hr
  cases e with
  | non=>cases cO q
  | bl b=>cases dC q
  | int i=>cases bU q
  | str l'=>
   have hq:=(bN q).1
   injection hq with hq
   rw [S_inj hq]
  | tup l=>obtain ⟨p,xs,ev,_⟩:=bL q;cases ev
  | lst l=>obtain ⟨p,xs,ev,_⟩:=bV q;cases ev
  | dct tk ks vs=>rw [Rep] at q;obtain ⟨p,xs,o,ev,_⟩:=q;cases ev
 | .tup l,e,x,n,h,r,q=>by
  obtain ⟨p,xs,ev,sq,rs⟩:=bL r
  subst ev
  cases e with
  | non=>cases cO q
  | bl b=>cases dC q
  | int i=>cases bU q
  | str l=>cases (bN q).1
  | tup l'=>
   obtain ⟨p',Hy,HJ,Hc,HY⟩:=bL q
   cases HJ
   have:=I.tuple_inj sq Hc
   subst this
   cases n with
   | zero=>simp only [plainD] at h;cases h
   | succ n=>
    simp only [plainD] at h
    rw [nL I l l' xs n h rs HY]
  | lst l'=>
   obtain ⟨p',Hy,HJ,Hc,HY⟩:=bV q
   cases HJ
   exact (lj I Hc sq).elim
  | dct tk ks vs=>
   exfalso
   rw [Rep] at q
   obtain ⟨p',Hy,o,HJ,rd,dd,_⟩:=q
   cases HJ
   obtain ⟨FH,_,ip,_⟩:=I.tuple sq
   obtain ⟨ob,ho,hc,_⟩:=ip
   have Mv:=rd.ok I.hok
   cases tk with
   | true=>
    obtain ⟨FF,eo,_⟩:=dd
    subst eo
    obtain ⟨_,_,_,_,o2,_,_,HW,ex,_⟩:=Mv
    rw [ho] at HW
    cases HW
    rw [ex.1] at hc
    exact absurd hc (by decide)
   | false=>
    obtain ⟨FF,eo,_⟩:=dd
    subst eo
    obtain ⟨_,_,_,_,o2,_,_,HW,ex,_⟩:=Mv
    rw [ho] at HW
    cases HW
    rw [ex.1] at hc
    exact absurd hc (by decide)
 | .lst l,e,x,n,h,r,q=>by
  obtain ⟨p,xs,ev,sq,rs⟩:=bV r
  subst ev
  cases e with
  | non=>cases cO q
  | bl b=>cases dC q
  | int i=>cases bU q
  | str l=>cases (bN q).1
  | tup l'=>
   obtain ⟨p',Hy,HJ,Hc,HY⟩:=bL q
   cases HJ
   exact (lj I sq Hc).elim
  | lst l'=>
   obtain ⟨p',Hy,HJ,Hc,HY⟩:=bV q
   cases HJ
   have:=I.list_inj sq Hc
   subst this
   cases n with
   | zero=>simp only [plainD] at h;cases h
   | succ n=>
    simp only [plainD] at h
    rw [nL I l l' xs n h rs HY]
  | dct tk ks vs=>
   exfalso
   rw [Rep] at q
   obtain ⟨p',Hy,o,HJ,rd,dd,_⟩:=q
   cases HJ
   obtain ⟨FH,_,ip,_⟩:=I.list sq
   obtain ⟨ob,_,ho,hc,_⟩:=ip
   have Mv:=rd.ok I.hok
   cases tk with
   | true=>
    obtain ⟨FF,eo,_⟩:=dd
    subst eo
    obtain ⟨_,_,_,_,o2,_,_,HW,ex,_⟩:=Mv
    rw [ho] at HW
    cases HW
    rw [ex.1] at hc
    exact absurd hc (by decide)
   | false=>
    obtain ⟨FF,eo,_⟩:=dd
    subst eo
    obtain ⟨_,_,_,_,o2,_,_,HW,ex,_⟩:=Mv
    rw [ho] at HW
    cases HW
    rw [ex.1] at hc
    exact absurd hc (by decide)
 | .dct _ _ _,_,_,n,h,_,_=>by cases n <;> (simp only [plainD] at h;cases h)
theorem nL (I:Inv X pins σ H s):∀ (ds es:List D) (xs:List V) (n:Nat),plainDs n ds=true->Reps X.K H ds xs->Reps X.K H es xs->ds=es
 | [],es,xs,n,_,r,q=>by
  rw [Reps] at r
  subst r
  cases es with
  | nil=>rfl
  | cons e es=>
   rw [Reps] at q
   obtain ⟨y,ys,ev,_⟩:=q
   cases ev
 | d :: ds,es,xs,n,h,r,q=>by
  rw [Reps] at r
  obtain ⟨y,ys,ev,r1,r2⟩:=r
  subst ev
  rw [plainDs,Bool.and_eq_true] at h
  cases es with
  | nil=>
   rw [Reps] at q
   cases q
  | cons e es=>
   rw [Reps] at q
   obtain ⟨y',ys',ev,q1,q2⟩:=q
   cases ev
   rw [ll I d e y n h.1 r1 q1,nL I ds es ys n h.2 r2 q2]
end
mutual
theorem ji:∀ (d:D) (n:Nat),plainD n d=true->eqD d d=true
 | .non,_,_=>by simp only [eqD]
 | .bl _,_,_=>by simp only [eqD,beq_self_eq_true]
 | .int _,_,_=>by simp only [eqD,beq_self_eq_true]
 | .str _,_,_=>by simp only [eqD,beq_self_eq_true]
 | .tup ds,0,h=>by simp only [plainD] at h;cases h
 | .tup ds,n + 1,h=>by simp only [plainD] at h;simp only [eqD];exact lp ds n h
 | .lst ds,0,h=>by simp only [plainD] at h;cases h
 | .lst ds,n + 1,h=>by simp only [plainD] at h;simp only [eqD];exact lp ds n h
 | .dct _ _ _,n,h=>by cases n <;> (simp only [plainD] at h;cases h)
theorem lp:∀ (ds:List D) (n:Nat),plainDs n ds=true->jP ds ds=true
 | [],_,_=>by simp only [jP]
 | d :: ds,n,h=>by
  rw [plainDs,Bool.and_eq_true] at h
  rw [jP,ji d n h.1,lp ds n h.2]
  rfl
end
open PySem.SeqAt
theorem b8 {n:Nat} {tk:Bool} {ks vs:List D} (h:plainD n (.dct tk ks vs)=true):False:=by cases n <;> (simp only [plainD] at h;cases h)
mutual
theorem zH (I:Inv X pins σ H s):∀ (d e:D) (x y:V) (v u:Value) (A:Around) (n:Nat),plainD n d=true->plainD n e=true->A.units + n < cLine->Rep X.K H d x->Rep X.K H e y->RelV x v->RelV y u->EqAt A s v u (eqD d e)
 | .non,e,x,y,v,u,A,n,h,h',hu,r,q,rx,ry=>by
  cases cO r
  cases rx
  cases e with
  | non=>cases cO q;cases ry;simp only [eqD];exact .same _
  | bl b=>cases dC q;cases ry;simp only [eqD];exact .none_bool _
  | int i=>cases bU q;obtain ⟨t,rfl⟩:=ry;simp only [eqD];exact .none_int _ _
  | str l=>cases (bN q).1;obtain ⟨t,rfl⟩:=ry;simp only [eqD];exact .none_str _ _
  | tup l=>obtain ⟨p,xs,rfl,sq,_⟩:=bL q;cases ry;obtain ⟨FH,_,ip,_⟩:=I.tuple sq;simp only [eqD];exact .none_tuple (show s.heap.IsTuple p FH.toArray from ip) (by lia)
  | lst l=>obtain ⟨p,xs,rfl,sq,_⟩:=bV q;cases ry;obtain ⟨FH,_,ip,_⟩:=I.list sq;simp only [eqD];exact .none_list ip.isList (by lia)
  | dct tk ks vs=>exact (b8 h').elim
 | .bl b,e,x,y,v,u,A,n,h,h',hu,r,q,rx,ry=>by
  cases dC r
  cases rx
  cases e with
  | non=>cases cO q;cases ry;simp only [eqD];exact .bool_none _
  | bl b=>cases dC q;cases ry;simp only [eqD];exact .bool_bool _ _
  | int i=>cases bU q;obtain ⟨t,rfl⟩:=ry;simp only [eqD];exact .bool_int _ _ _
  | str l=>cases (bN q).1;obtain ⟨t,rfl⟩:=ry;simp only [eqD];exact .bool_str _ _ _
  | tup l=>obtain ⟨p,xs,rfl,sq,_⟩:=bL q;cases ry;obtain ⟨FH,_,ip,_⟩:=I.tuple sq;simp only [eqD];exact .bool_tuple _ (show s.heap.IsTuple p FH.toArray from ip) (by lia)
  | lst l=>obtain ⟨p,xs,rfl,sq,_⟩:=bV q;cases ry;obtain ⟨FH,_,ip,_⟩:=I.list sq;simp only [eqD];exact .bool_list _ ip.isList (by lia)
  | dct tk ks vs=>exact (b8 h').elim
 | .int b,e,x,y,v,u,A,n,h,h',hu,r,q,rx,ry=>by
  cases bU r
  obtain ⟨t0,rfl⟩:=rx
  cases e with
  | non=>cases cO q;cases ry;simp only [eqD];exact .int_none _ _
  | bl b=>cases dC q;cases ry;simp only [eqD];exact .int_bool _ _ _
  | int i=>cases bU q;obtain ⟨t,rfl⟩:=ry;simp only [eqD];exact .int_int _ _ _ _
  | str l=>cases (bN q).1;obtain ⟨t,rfl⟩:=ry;simp only [eqD];exact .int_str _ _ _ _
  | tup l=>obtain ⟨p,xs,rfl,sq,_⟩:=bL q;cases ry;obtain ⟨FH,_,ip,_⟩:=I.tuple sq;simp only [eqD];exact .int_tuple _ _ (show s.heap.IsTuple p FH.toArray from ip) (by lia)
  | lst l=>obtain ⟨p,xs,rfl,sq,_⟩:=bV q;cases ry;obtain ⟨FH,_,ip,_⟩:=I.list sq;simp only [eqD];exact .int_list _ _ ip.isList (by lia)
  | dct tk ks vs=>exact (b8 h').elim
 | .str b,e,x,y,v,u,A,n,h,h',hu,r,q,rx,ry=>by
  have hr:=(bN r).1
  subst hr
  obtain ⟨t0,rfl⟩:=rx
  cases e with
  | non=>cases cO q;cases ry;simp only [eqD];exact .str_none _ _
  | bl b=>cases dC q;cases ry;simp only [eqD];exact .str_bool _ _ _
  | int i=>cases bU q;obtain ⟨t,rfl⟩:=ry;simp only [eqD];exact .str_int _ _ _ _
  | str l=>
   have hq:=(bN q).1
   subst hq
   obtain ⟨t,rfl⟩:=ry
   have e1:(b == l)=(S b == S l):=by
    rw [Bool.eq_iff_iff,beq_iff_eq,beq_iff_eq]
    exact ⟨fun z=>by rw [z],S_inj⟩
   simp only [eqD,e1]
   exact .str_str _ _ _ _
  | tup l=>obtain ⟨p,xs,rfl,sq,_⟩:=bL q;cases ry;obtain ⟨FH,_,ip,_⟩:=I.tuple sq;simp only [eqD];exact .str_tuple _ _ (show s.heap.IsTuple p FH.toArray from ip) (by lia)
  | lst l=>obtain ⟨p,xs,rfl,sq,_⟩:=bV q;cases ry;obtain ⟨FH,_,ip,_⟩:=I.list sq;simp only [eqD];exact .str_list _ _ ip.isList (by lia)
  | dct tk ks vs=>exact (b8 h').elim
 | .tup l,e,x,y,v,u,A,n,h,h',hu,r,q,rx,ry=>by
  have rr:=r
  obtain ⟨p,xs,ev,sq,rs⟩:=bL r
  subst ev
  cases rx
  obtain ⟨FH,vl,ip,_⟩:=I.tuple sq
  have ip:s.heap.IsTuple p FH.toArray:=ip
  cases e with
  | non=>cases cO q;cases ry;simp only [eqD];exact .tuple_none ip (by lia)
  | bl b=>cases dC q;cases ry;simp only [eqD];exact .tuple_bool _ ip (by lia)
  | int i=>cases bU q;obtain ⟨t,rfl⟩:=ry;simp only [eqD];exact .tuple_int _ _ ip (by lia)
  | str l=>cases (bN q).1;obtain ⟨t,rfl⟩:=ry;simp only [eqD];exact .tuple_str _ _ ip (by lia)
  | tup l'=>
   obtain ⟨p',Hy,HJ,Hc,HY⟩:=bL q
   subst HJ
   cases ry
   by_cases hp:p=p'
   ·subst hp
    have hz:=ll I _ _ _ n h rr q
    rw [<-hz,ji _ n h]
    exact .same _
   ·obtain ⟨its',KC,Hx,_⟩:=I.tuple Hc
    have Hx:s.heap.IsTuple p' its'.toArray:=Hx
    cases n with
    | zero=>simp only [plainD] at h;cases h
    | succ n=>
     simp only [plainD] at h h'
     have l1:=vl.length
     have l2:=KC.length
     have l3:=rs.length
     have l4:=HY.length
     have key:=RcAt.tuples (A:=A) (e:=fun j=>eqD (l.getD j .non) (l'.getD j .non)) ip Hx (by lia) fun j h1 h2=>by
      simp only [List.size_toArray] at h1 h2
      have g1:l[j]?=some (l[j]'(by lia)):=List.getElem?_eq_getElem _
      have g2:l'[j]?=some (l'[j]'(by lia)):=List.getElem?_eq_getElem _
      obtain ⟨w1,Jz,JA⟩:=rs.get g1
      obtain ⟨w2,KD,KG⟩:=HY.get g2
      obtain ⟨u1,Ig,JB⟩:=vl.get Jz
      obtain ⟨u2,Ja,KH⟩:=KC.get KD
      have q1:FH.toArray[j]=u1:=by rw [List.getElem?_eq_getElem h1] at Ig;simpa using Ig
      have q2:its'.toArray[j]=u2:=by rw [List.getElem?_eq_getElem h2] at Ja;simpa using Ja
      rw [q1,q2,List.getD_eq_getElem?_getD,List.getD_eq_getElem?_getD,g1,g2]
      exact pj I l j _ g1 _ w1 w2 u1 u2 A.in1 n (plainDs_mem h g1) (plainDs_mem h' g2) (by show A.units + 1 + n < cLine;lia) JA KG JB KH
     simp only [eqD]
     have fin:((List.range (min FH.toArray.size its'.toArray.size)).all (fun j=>eqD (l.getD j .non) (l'.getD j .non)) && FH.toArray.size == its'.toArray.size)=jP l l':=by
      simp only [List.size_toArray]
      by_cases hl:l.length=l'.length
      ·rw [<-fY hl,show min FH.length its'.length=l.length by lia,show (FH.length == its'.length)=true by rw [beq_iff_eq];lia,Bool.and_true]
      ·rw [jh hl,show (FH.length == its'.length)=false by rw [beq_eq_false_iff_ne];lia,Bool.and_false]
     rw [<-fin]
     exact .of_refs hp key
  | lst l'=>obtain ⟨p',Hy,HJ,Hc,_⟩:=bV q;subst HJ;cases ry;obtain ⟨its',_,Hx,_⟩:=I.list Hc;simp only [eqD];exact .tuple_list ip Hx.isList (by lia)
  | dct tk ks vs=>exact (b8 h').elim
 | .lst l,e,x,y,v,u,A,n,h,h',hu,r,q,rx,ry=>by
  have rr:=r
  obtain ⟨p,xs,ev,sq,rs⟩:=bV r
  subst ev
  cases rx
  obtain ⟨FH,vl,ip,_⟩:=I.list sq
  have ip:=ip.isList
  cases e with
  | non=>cases cO q;cases ry;simp only [eqD];exact .list_none ip (by lia)
  | bl b=>cases dC q;cases ry;simp only [eqD];exact .list_bool _ ip (by lia)
  | int i=>cases bU q;obtain ⟨t,rfl⟩:=ry;simp only [eqD];exact .list_int _ _ ip (by lia)
  | str l=>cases (bN q).1;obtain ⟨t,rfl⟩:=ry;simp only [eqD];exact .list_str _ _ ip (by lia)
  | lst l'=>
   obtain ⟨p',Hy,HJ,Hc,HY⟩:=bV q
   subst HJ
   cases ry
   by_cases hp:p=p'
   ·subst hp
    have hz:=ll I _ _ _ n h rr q
    rw [<-hz,ji _ n h]
    exact .same _
   ·obtain ⟨its',KC,Hx,_⟩:=I.list Hc
    have Hx:=Hx.isList
    cases n with
    | zero=>simp only [plainD] at h;cases h
    | succ n=>
     simp only [plainD] at h h'
     have l1:=vl.length
     have l2:=KC.length
     have l3:=rs.length
     have l4:=HY.length
     simp only [eqD]
     by_cases hl:l.length=l'.length
     ·have key:=RcAt.lists (A:=A) (e:=fun j=>eqD (l.getD j .non) (l'.getD j .non)) ip Hx (by simp only [List.size_toArray];lia) (by lia) fun j h1 h2=>by
       simp only [List.size_toArray] at h1 h2
       have g1:l[j]?=some (l[j]'(by lia)):=List.getElem?_eq_getElem _
       have g2:l'[j]?=some (l'[j]'(by lia)):=List.getElem?_eq_getElem _
       obtain ⟨w1,Jz,JA⟩:=rs.get g1
       obtain ⟨w2,KD,KG⟩:=HY.get g2
       obtain ⟨u1,Ig,JB⟩:=vl.get Jz
       obtain ⟨u2,Ja,KH⟩:=KC.get KD
       have q1:FH.toArray[j]=u1:=by rw [List.getElem?_eq_getElem h1] at Ig;simpa using Ig
       have q2:its'.toArray[j]=u2:=by rw [List.getElem?_eq_getElem h2] at Ja;simpa using Ja
       rw [q1,q2,List.getD_eq_getElem?_getD,List.getD_eq_getElem?_getD,g1,g2]
       exact pj I l j _ g1 _ w1 w2 u1 u2 A.in1 n (plainDs_mem h g1) (plainDs_mem h' g2) (by show A.units + 1 + n < cLine;lia) JA KG JB KH
      rw [<-fY hl,show l.length=FH.toArray.size by simp only [List.size_toArray];lia]
      exact .of_refs hp key
     ·rw [jh hl]
      exact .of_refs hp (RcAt.lists_lengths ip Hx (by simp only [List.size_toArray,bne_iff_ne];lia) (by lia))
  | tup l'=>obtain ⟨p',Hy,HJ,Hc,_⟩:=bL q;subst HJ;cases ry;obtain ⟨its',_,Hx,_⟩:=I.tuple Hc;simp only [eqD];exact .list_tuple ip (show s.heap.IsTuple p' its'.toArray from Hx) (by lia)
  | dct tk ks vs=>exact (b8 h').elim
 | .dct _ _ _,_,_,_,_,_,_,n,h,_,_,_,_,_,_=>(b8 h).elim
theorem pj (I:Inv X pins σ H s):∀ (ds:List D) (j:Nat) (d:D),ds[j]?=some d->∀ (e:D) (x y:V) (v u:Value) (A:Around) (n:Nat),plainD n d=true->plainD n e=true->A.units + n < cLine->Rep X.K H d x->Rep X.K H e y->RelV x v->RelV y u->EqAt A s v u (eqD d e)
 | [],_,_,hj=>by simp at hj
 | d' :: ds,0,d,hj=>by
  simp at hj
  subst hj
  exact zH I d'
 | d' :: ds,j + 1,d,hj=>pj I ds j d (by simpa using hj)
end
end
section
variable {X:Cx}
noncomputable def Hd (a b:D):Res R:=if plainD 40 a && plainD 40 b then .ok (.f,.bl (eqD a b)) else .bad
noncomputable def Jb (a b:D):Res R:=if plainD 40 a && plainD 40 b then .ok (.f,.bl (!eqD a b)) else .bad
open PySem.SeqAt in
theorem B2 {pins:List (Addr×Obj)} {σ:L2.St} {H:Hp} {s:Shared} (I:Inv X pins σ H s) {d e:D} {x y:V} {v u:Value} {A:Around} (h:plainD 40 d=true) (h':plainD 40 e=true) (hu:A.units + 64 < cLine) (r:Rep X.K H d x) (q:Rep X.K H e y) (rx:RelV x v) (ry:RelV y u) :
  RcAt A s v u (eqD d e)/\RcNeAt A s v u (!eqD d e):=by
 cases d with
 | non=>
  cases cO r
  cases rx
  cases e with
  | non=>cases cO q;cases ry;simp only [eqD];exact ⟨.none_none,.none_none⟩
  | bl b=>cases dC q;cases ry;simp only [eqD];exact ⟨.none_bool _,.none_bool _⟩
  | int i=>cases bU q;obtain ⟨t,rfl⟩:=ry;simp only [eqD];exact ⟨.none_int _ _,.none_int _ _⟩
  | str l=>cases (bN q).1;obtain ⟨t,rfl⟩:=ry;simp only [eqD];exact ⟨.none_str _ _,.none_str _ _⟩
  | tup l=>obtain ⟨p,xs,rfl,sq,_⟩:=bL q;cases ry;obtain ⟨FH,_,ip,_⟩:=I.tuple sq;simp only [eqD];exact ⟨.none_tuple (show s.heap.IsTuple p FH.toArray from ip) (by lia),.none_tuple (show s.heap.IsTuple p FH.toArray from ip) (by lia)⟩
  | lst l=>obtain ⟨p,xs,rfl,sq,_⟩:=bV q;cases ry;obtain ⟨FH,_,ip,_⟩:=I.list sq;simp only [eqD];exact ⟨.none_list ip.isList (by lia),.none_list ip.isList (by lia)⟩
  | dct tk ks vs=>exact (b8 h').elim
 | bl b=>
  cases dC r
  cases rx
  cases e with
  | non=>cases cO q;cases ry;simp only [eqD];exact ⟨.bool_none _,.bool_none _⟩
  | bl b=>cases dC q;cases ry;simp only [eqD];exact ⟨.bool_bool _ _,.bool_bool _ _⟩
  | int i=>cases bU q;obtain ⟨t,rfl⟩:=ry;simp only [eqD];exact ⟨.bool_int _ _ _,.bool_int _ _ _⟩
  | str l=>cases (bN q).1;obtain ⟨t,rfl⟩:=ry;simp only [eqD];exact ⟨.bool_str _ _ _,.bool_str _ _ _⟩
  | tup l=>obtain ⟨p,xs,rfl,sq,_⟩:=bL q;cases ry;obtain ⟨FH,_,ip,_⟩:=I.tuple sq;simp only [eqD];exact ⟨.bool_tuple _ (show s.heap.IsTuple p FH.toArray from ip) (by lia),.bool_tuple _ (show s.heap.IsTuple p FH.toArray from ip) (by lia)⟩
  | lst l=>obtain ⟨p,xs,rfl,sq,_⟩:=bV q;cases ry;obtain ⟨FH,_,ip,_⟩:=I.list sq;simp only [eqD];exact ⟨.bool_list _ ip.isList (by lia),.bool_list _ ip.isList (by lia)⟩
  | dct tk ks vs=>exact (b8 h').elim
 | int b=>
  cases bU r
  obtain ⟨t0,rfl⟩:=rx
  cases e with
  | non=>cases cO q;cases ry;simp only [eqD];exact ⟨.int_none _ _,.int_none _ _⟩
  | bl b=>cases dC q;cases ry;simp only [eqD];exact ⟨.int_bool _ _ _,.int_bool _ _ _⟩
  | int i=>cases bU q;obtain ⟨t,rfl⟩:=ry;simp only [eqD];exact ⟨.int_int _ _ _ _,.int_int _ _ _ _⟩
  | str l=>cases (bN q).1;obtain ⟨t,rfl⟩:=ry;simp only [eqD];exact ⟨.int_str _ _ _ _,.int_str _ _ _ _⟩
  | tup l=>obtain ⟨p,xs,rfl,sq,_⟩:=bL q;cases ry;obtain ⟨FH,_,ip,_⟩:=I.tuple sq;simp only [eqD];exact ⟨.int_tuple _ _ (show s.heap.IsTuple p FH.toArray from ip) (by lia),.int_tuple _ _ (show s.heap.IsTuple p FH.toArray from ip) (by lia)⟩
  | lst l=>obtain ⟨p,xs,rfl,sq,_⟩:=bV q;cases ry;obtain ⟨FH,_,ip,_⟩:=I.list sq;simp only [eqD];exact ⟨.int_list _ _ ip.isList (by lia),.int_list _ _ ip.isList (by lia)⟩
  | dct tk ks vs=>exact (b8 h').elim
 | str b=>
  have hr:=(bN r).1
  subst hr
  obtain ⟨t0,rfl⟩:=rx
  cases e with
  | non=>cases cO q;cases ry;simp only [eqD];exact ⟨.str_none _ _,.str_none _ _⟩
  | bl b=>cases dC q;cases ry;simp only [eqD];exact ⟨.str_bool _ _ _,.str_bool _ _ _⟩
  | int i=>cases bU q;obtain ⟨t,rfl⟩:=ry;simp only [eqD];exact ⟨.str_int _ _ _ _,.str_int _ _ _ _⟩
  | str l=>
   have hq:=(bN q).1
   subst hq
   obtain ⟨t,rfl⟩:=ry
   have e1:(b == l)=(S b == S l):=by
    rw [Bool.eq_iff_iff,beq_iff_eq,beq_iff_eq]
    exact ⟨fun z=>by rw [z],S_inj⟩
   simp only [eqD,e1]
   exact ⟨.str_str _ _ _ _,.str_str _ _ _ _⟩
  | tup l=>obtain ⟨p,xs,rfl,sq,_⟩:=bL q;cases ry;obtain ⟨FH,_,ip,_⟩:=I.tuple sq;simp only [eqD];exact ⟨.str_tuple _ _ (show s.heap.IsTuple p FH.toArray from ip) (by lia),.str_tuple _ _ (show s.heap.IsTuple p FH.toArray from ip) (by lia)⟩
  | lst l=>obtain ⟨p,xs,rfl,sq,_⟩:=bV q;cases ry;obtain ⟨FH,_,ip,_⟩:=I.list sq;simp only [eqD];exact ⟨.str_list _ _ ip.isList (by lia),.str_list _ _ ip.isList (by lia)⟩
  | dct tk ks vs=>exact (b8 h').elim
 | tup l=>
  obtain ⟨p,xs,ev,sq,rs⟩:=bL r
  subst ev
  cases rx
  obtain ⟨FH,vl,ip,_⟩:=I.tuple sq
  have ip:s.heap.IsTuple p FH.toArray:=ip
  cases e with
  | non=>cases cO q;cases ry;simp only [eqD];exact ⟨.tuple_none ip (by lia),.tuple_none ip (by lia)⟩
  | bl b=>cases dC q;cases ry;simp only [eqD];exact ⟨.tuple_bool _ ip (by lia),.tuple_bool _ ip (by lia)⟩
  | int i=>cases bU q;obtain ⟨t,rfl⟩:=ry;simp only [eqD];exact ⟨.tuple_int _ _ ip (by lia),.tuple_int _ _ ip (by lia)⟩
  | str l=>cases (bN q).1;obtain ⟨t,rfl⟩:=ry;simp only [eqD];exact ⟨.tuple_str _ _ ip (by lia),.tuple_str _ _ ip (by lia)⟩
  | tup l'=>
   obtain ⟨p',Hy,HJ,Hc,HY⟩:=bL q
   subst HJ
   cases ry
   obtain ⟨its',KC,Hx,_⟩:=I.tuple Hc
   have Hx:s.heap.IsTuple p' its'.toArray:=Hx
   simp only [plainD] at h h'
   have l1:=vl.length
   have l2:=KC.length
   have l3:=rs.length
   have l4:=HY.length
   have el:∀ j (h1:j < FH.toArray.size) (h2:j < its'.toArray.size),EqAt A.in1 s FH.toArray[j] its'.toArray[j] ((fun j=>eqD (l.getD j .non) (l'.getD j .non)) j):=fun j h1 h2=>by
    simp only [List.size_toArray] at h1 h2
    have g1:l[j]?=some (l[j]'(by lia)):=List.getElem?_eq_getElem _
    have g2:l'[j]?=some (l'[j]'(by lia)):=List.getElem?_eq_getElem _
    obtain ⟨w1,Jz,JA⟩:=rs.get g1
    obtain ⟨w2,KD,KG⟩:=HY.get g2
    obtain ⟨u1,Ig,JB⟩:=vl.get Jz
    obtain ⟨u2,Ja,KH⟩:=KC.get KD
    have q1:FH.toArray[j]=u1:=by rw [List.getElem?_eq_getElem h1] at Ig;simpa using Ig
    have q2:its'.toArray[j]=u2:=by rw [List.getElem?_eq_getElem h2] at Ja;simpa using Ja
    dsimp only
    rw [q1,q2,List.getD_eq_getElem?_getD,List.getD_eq_getElem?_getD,g1,g2]
    exact pj I l j _ g1 _ w1 w2 u1 u2 A.in1 39 (plainDs_mem h g1) (plainDs_mem h' g2) (by show A.units + 1 + 39 < cLine;lia) JA KG JB KH
   simp only [eqD]
   have fin:((List.range (min FH.toArray.size its'.toArray.size)).all (fun j=>eqD (l.getD j .non) (l'.getD j .non)) && FH.toArray.size == its'.toArray.size)=jP l l':=by
    simp only [List.size_toArray]
    by_cases hl:l.length=l'.length
    ·rw [<-fY hl,show min FH.length its'.length=l.length by lia,show (FH.length == its'.length)=true by rw [beq_iff_eq];lia,Bool.and_true]
    ·rw [jh hl,show (FH.length == its'.length)=false by rw [beq_eq_false_iff_ne];lia,Bool.and_false]
   rw [<-fin]
   exact ⟨.tuples ip Hx (by lia) el,.tuples ip Hx (by lia) el⟩
  | lst l'=>obtain ⟨p',Hy,HJ,Hc,_⟩:=bV q;subst HJ;cases ry;obtain ⟨its',_,Hx,_⟩:=I.list Hc;simp only [eqD];exact ⟨.tuple_list ip Hx.isList (by lia),.tuple_list ip Hx.isList (by lia)⟩
  | dct tk ks vs=>exact (b8 h').elim
 | lst l=>
  obtain ⟨p,xs,ev,sq,rs⟩:=bV r
  subst ev
  cases rx
  obtain ⟨FH,vl,ip,_⟩:=I.list sq
  have ip:=ip.isList
  cases e with
  | non=>cases cO q;cases ry;simp only [eqD];exact ⟨.list_none ip (by lia),.list_none ip (by lia)⟩
  | bl b=>cases dC q;cases ry;simp only [eqD];exact ⟨.list_bool _ ip (by lia),.list_bool _ ip (by lia)⟩
  | int i=>cases bU q;obtain ⟨t,rfl⟩:=ry;simp only [eqD];exact ⟨.list_int _ _ ip (by lia),.list_int _ _ ip (by lia)⟩
  | str l=>cases (bN q).1;obtain ⟨t,rfl⟩:=ry;simp only [eqD];exact ⟨.list_str _ _ ip (by lia),.list_str _ _ ip (by lia)⟩
  | lst l'=>
   obtain ⟨p',Hy,HJ,Hc,HY⟩:=bV q
   subst HJ
   cases ry
   obtain ⟨its',KC,Hx,_⟩:=I.list Hc
   have Hx:=Hx.isList
   simp only [plainD] at h h'
   have l1:=vl.length
   have l2:=KC.length
   have l3:=rs.length
   have l4:=HY.length
   simp only [eqD]
   by_cases hl:l.length=l'.length
   ·have el:∀ j (h1:j < FH.toArray.size) (h2:j < its'.toArray.size),EqAt A.in1 s FH.toArray[j] its'.toArray[j] ((fun j=>eqD (l.getD j .non) (l'.getD j .non)) j):=fun j h1 h2=>by
     simp only [List.size_toArray] at h1 h2
     have g1:l[j]?=some (l[j]'(by lia)):=List.getElem?_eq_getElem _
     have g2:l'[j]?=some (l'[j]'(by lia)):=List.getElem?_eq_getElem _
     obtain ⟨w1,Jz,JA⟩:=rs.get g1
     obtain ⟨w2,KD,KG⟩:=HY.get g2
     obtain ⟨u1,Ig,JB⟩:=vl.get Jz
     obtain ⟨u2,Ja,KH⟩:=KC.get KD
     have q1:FH.toArray[j]=u1:=by rw [List.getElem?_eq_getElem h1] at Ig;simpa using Ig
     have q2:its'.toArray[j]=u2:=by rw [List.getElem?_eq_getElem h2] at Ja;simpa using Ja
     dsimp only
     rw [q1,q2,List.getD_eq_getElem?_getD,List.getD_eq_getElem?_getD,g1,g2]
     exact pj I l j _ g1 _ w1 w2 u1 u2 A.in1 39 (plainDs_mem h g1) (plainDs_mem h' g2) (by show A.units + 1 + 39 < cLine;lia) JA KG JB KH
    rw [<-fY hl,show l.length=FH.toArray.size by simp only [List.size_toArray];lia]
    exact ⟨.lists ip Hx (by simp only [List.size_toArray];lia) (by lia) el,.lists ip Hx (by simp only [List.size_toArray];lia) (by lia) el⟩
   ·rw [jh hl]
    exact ⟨.lists_lengths ip Hx (by simp only [List.size_toArray,bne_iff_ne];lia) (by lia),.lists_lengths ip Hx (by simp only [List.size_toArray,bne_iff_ne];lia) (by lia)⟩
  | tup l'=>obtain ⟨p',Hy,HJ,Hc,_⟩:=bL q;subst HJ;cases ry;obtain ⟨its',_,Hx,_⟩:=I.tuple Hc;simp only [eqD];exact ⟨.list_tuple ip (show s.heap.IsTuple p' its'.toArray from Hx) (by lia),.list_tuple ip (show s.heap.IsTuple p' its'.toArray from Hx) (by lia)⟩
  | dct tk ks vs=>exact (b8 h').elim
 | dct tk ks vs=>exact (b8 h).elim
theorem iH (hu:X.A.units + 64 < cLine):Gx X (compareOp .Eq) (rGA X.K Hd):=by
 rintro pins s σ H x y v u Q I rx ry ⟨G,fp,es,vs,a,b,r,⟨rel,k⟩,va,vb,e⟩
 unfold Hd at e
 split at e
 ·rename_i hp
  cases e
  rw [Bool.and_eq_true] at hp
  exact (B2 I hp.1 hp.2 hu va vb rx ry).1 _ _ _ _ ⟨.bl _,H,I,rfl,k _ H G fp .refl (rel.push (dO _))⟩
 ·cases e
theorem nM (hu:X.A.units + 64 < cLine):Gx X (compareOp .NotEq) (rGA X.K Jb):=by
 rintro pins s σ H x y v u Q I rx ry ⟨G,fp,es,vs,a,b,r,⟨rel,k⟩,va,vb,e⟩
 unfold Jb at e
 split at e
 ·rename_i hp
  cases e
  rw [Bool.and_eq_true] at hp
  exact (B2 I hp.1 hp.2 hu va vb rx ry).2 _ _ _ _ ⟨.bl _,H,I,rfl,k _ H G fp .refl (rel.push (dO _))⟩
 ·cases e
noncomputable def tM (a:D) (ds:List D):Bool:=ds.any fun d=>eqD d a
noncomputable def Kj (a b:D):Res R:=match b with
 | .lst ds=>if plainD 40 a && plainDs 40 ds then .ok (.f,.bl (tM a ds)) else .bad
 | .tup ds=>if plainD 40 a && plainDs 40 ds then .ok (.f,.bl (tM a ds)) else .bad
 | .str l=>match a with
  | .str [c]=>.ok (.f,.bl (decide (c∈l)))
  | _=>.bad
 | _=>.bad
noncomputable def tN (a b:D):Res R:=(Kj a b).bind fun r=>match r.2 with
 | .bl k=>.ok (.f,.bl (!k))
 | _=>.bad
open PySem.SeqAt in
theorem rF {pins:List (Addr×Obj)} {σ:L2.St} {H:Hp} {s:Shared} (I:Inv X pins σ H s) {a:D} {x:V} {v:Value} {A:Around} (h:plainD 40 a=true) (hu:A.units + 64 < cLine) (r:Rep X.K H a x) (rx:RelV x v) :
  ∀ (ds:List D) (xs:List V) (us:List Value),plainDs 40 ds=true->Reps X.K H ds xs->Vals xs us->∃ e:Value->Bool,us.any e=tM a ds/\∀ u∈us,EqAt A s u v (e u):=by
 classical
 intro ds xs us hp rs vl
 refine ⟨fun u=>decide (∃ (j:Nat) (d:D),ds[j]?=some d/\us[j]?=some u/\eqD d a=true),?_,fun u Po=>?_⟩
 ·rw [Bool.eq_iff_iff,List.any_eq_true]
  unfold tM
  rw [List.any_eq_true]
  constructor
  ·rintro ⟨u,_,hd⟩
   obtain ⟨j,d,h1,_,h2⟩:=of_decide_eq_true hd
   exact ⟨d,List.mem_of_getElem? h1,h2⟩
  ·rintro ⟨d,hd,h2⟩
   obtain ⟨j,hj⟩:=List.mem_iff_getElem?.mp hd
   obtain ⟨w1,Jz,JA⟩:=rs.get hj
   obtain ⟨u1,Ig,JB⟩:=vl.get Jz
   exact ⟨u1,List.mem_of_getElem? Ig,decide_eq_true ⟨j,d,hj,Ig,h2⟩⟩
 ·obtain ⟨j,hj⟩:=List.mem_iff_getElem?.mp Po
  have l1:=vl.length
  have l2:=rs.length
  have Qb:=(List.getElem?_eq_some_iff.mp hj).1
  have g1:ds[j]?=some (ds[j]'(by lia)):=List.getElem?_eq_getElem _
  obtain ⟨w1,Jz,JA⟩:=rs.get g1
  obtain ⟨u1,Ig,JB⟩:=vl.get Jz
  rw [hj] at Ig
  cases Ig
  have z:=zH I _ _ w1 x u v A 40 (plainDs_mem hp g1) h (by lia) JA r JB rx
  have e:decide (∃ (j:Nat) (d:D),ds[j]?=some d/\us[j]?=some u/\eqD d a=true)=eqD (ds[j]'(by lia)) a:=by
   rw [Bool.eq_iff_iff,decide_eq_true_eq]
   constructor
   ·rintro ⟨j2,d2,k1,k2,k3⟩
    obtain ⟨w2,KD,KG⟩:=rs.get k1
    obtain ⟨u2,Ja,KH⟩:=vl.get KD
    rw [k2] at Ja
    cases Ja
    have:=JB.inj KH
    subst this
    rw [ll I _ _ _ 40 (plainDs_mem hp g1) JA KG]
    exact k3
   ·intro k3
    exact ⟨j,_,g1,hj,k3⟩
  show EqAt A s u v (decide (∃ (j:Nat) (d:D),ds[j]?=some d/\us[j]?=some u/\eqD d a=true))
  rw [e]
  exact z
theorem pk (l:List Nat) (c:Nat):(!(Builtin.Str.occurrences (S l) (S [c]) 0 (S l).length 1).isEmpty)=decide (c∈l):=by
 have h:=PySem.StrLaws.found_one (S l) c
 rw [fe] at h
 exact h
theorem nN {e:Value->Bool} (us:List Value):us.toArray.any e=us.any e:=by simp
theorem D6 (hu:X.A.units + 65 < cLine):Gx X (compareOp .In) (rGA X.K Kj):=by
 rintro pins s σ H x y v u Q I rx ry ⟨G,fp,es,vs,a,b,r,⟨rel,k⟩,va,vb,e⟩
 unfold Kj at e
 split at e
 ·rename_i ds
  split at e
  ·rename_i hp
   cases e
   rw [Bool.and_eq_true] at hp
   obtain ⟨p,xs,ev,sq,rs⟩:=bV vb
   subst ev
   cases ry
   obtain ⟨FH,vl,ip,_⟩:=I.list sq
   obtain ⟨ef,e1,e2⟩:=rF (A:=X.A.in1) I hp.1 (by show X.A.units + 1 + 64 < cLine;lia) va rx ds xs FH hp.2 rs vl
   refine SeqAt.in_listAt ef ip.isList (fun z hz=>e2 z (by simpa using hz)) ?_
   rw [nN,e1]
   exact ⟨.bl _,H,I,rfl,k _ H G fp .refl (rel.push (dO _))⟩
  ·cases e
 ·rename_i ds
  split at e
  ·rename_i hp
   cases e
   rw [Bool.and_eq_true] at hp
   obtain ⟨p,xs,ev,sq,rs⟩:=bL vb
   subst ev
   cases ry
   obtain ⟨FH,vl,ip,_⟩:=I.tuple sq
   obtain ⟨ef,e1,e2⟩:=rF (A:=X.A.in1) I hp.1 (by show X.A.units + 1 + 64 < cLine;lia) va rx ds xs FH hp.2 rs vl
   refine SeqAt.in_tupleAt ef (show s.heap.IsTuple p FH.toArray from ip) (fun z hz=>e2 z (by simpa using hz)) ?_
   rw [nN,e1]
   exact ⟨.bl _,H,I,rfl,k _ H G fp .refl (rel.push (dO _))⟩
  ·cases e
 ·rename_i l
  split at e
  ·rename_i c
   cases e
   obtain ⟨e1,h1⟩:=bN va
   obtain ⟨e2,h2⟩:=bN vb
   subst e1
   subst e2
   refine ua pins s σ H _ _ v u Q I rx ry ⟨_,_,rfl,rfl,?_⟩
   rw [pk]
   exact k _ H G fp .refl (rel.push (dO _))
  ·cases e
 ·cases e
theorem B3 (hu:X.A.units + 65 < cLine):Gx X (compareOp .NotIn) (rGA X.K tN):=by
 rintro pins s σ H x y v u Q I rx ry ⟨G,fp,es,vs,a,b,r,⟨rel,k⟩,va,vb,e⟩
 unfold tN at e
 obtain ⟨r0,e0,e⟩:=ar e
 unfold Kj at e0
 split at e0
 ·rename_i ds
  split at e0
  ·rename_i hp
   cases e0
   cases e
   rw [Bool.and_eq_true] at hp
   obtain ⟨p,xs,ev,sq,rs⟩:=bV vb
   subst ev
   cases ry
   obtain ⟨FH,vl,ip,_⟩:=I.list sq
   obtain ⟨ef,e1,e2⟩:=rF (A:=X.A.in1) I hp.1 (by show X.A.units + 1 + 64 < cLine;lia) va rx ds xs FH hp.2 rs vl
   refine SeqAt.notIn_listAt ef ip.isList (fun z hz=>e2 z (by simpa using hz)) ?_
   rw [nN,e1]
   exact ⟨.bl _,H,I,rfl,k _ H G fp .refl (rel.push (dO _))⟩
  ·cases e0
 ·rename_i ds
  split at e0
  ·rename_i hp
   cases e0
   cases e
   rw [Bool.and_eq_true] at hp
   obtain ⟨p,xs,ev,sq,rs⟩:=bL vb
   subst ev
   cases ry
   obtain ⟨FH,vl,ip,_⟩:=I.tuple sq
   obtain ⟨ef,e1,e2⟩:=rF (A:=X.A.in1) I hp.1 (by show X.A.units + 1 + 64 < cLine;lia) va rx ds xs FH hp.2 rs vl
   refine SeqAt.notIn_tupleAt ef (show s.heap.IsTuple p FH.toArray from ip) (fun z hz=>e2 z (by simpa using hz)) ?_
   rw [nN,e1]
   exact ⟨.bl _,H,I,rfl,k _ H G fp .refl (rel.push (dO _))⟩
  ·cases e0
 ·rename_i l
  split at e0
  ·rename_i c
   cases e0
   cases e
   obtain ⟨e1,h1⟩:=bN va
   obtain ⟨e2,h2⟩:=bN vb
   subst e1
   subst e2
   refine oG pins s σ H _ _ v u Q I rx ry ⟨_,_,rfl,rfl,?_⟩
   rw [pk]
   exact k _ H G fp .refl (rel.push (dO _))
  ·cases e0
 ·cases e0
noncomputable def Pp (a b:D):Res R:=match b with
 | .bl k=>.ok (.f,.bl (match a with | .bl j=>j == k | _=>false))
 | .non=>.ok (.f,.bl (match a with | .non=>true | _=>false))
 | _=>.bad
noncomputable def isnO (a b:D):Res R:=(Pp a b).bind fun r=>match r.2 with
 | .bl k=>.ok (.f,.bl (!k))
 | _=>.bad
theorem xi {K:W.Frag} {H:Hp} {a b:D} {x y:V} {v u:Value} {r:R} (va:Rep K H a x) (vb:Rep K H b y) (rx:RelV x v) (ry:RelV y u) (e:Pp a b=.ok r):plainIs v u=true/\r=(.f,.bl (v == u)):=by
 unfold Pp at e
 split at e
 ·rename_i k
  cases e
  cases dC vb
  cases ry
  cases a with
  | non=>cases cO va;cases rx;exact ⟨rfl,rfl⟩
  | bl j=>cases dC va;cases rx;refine ⟨rfl,?_⟩;cases j <;> cases k <;> rfl
  | int i=>cases bU va;obtain ⟨t,rfl⟩:=rx;exact ⟨rfl,rfl⟩
  | str l=>cases (bN va).1;obtain ⟨t,rfl⟩:=rx;exact ⟨rfl,rfl⟩
  | tup l=>obtain ⟨p,xs,rfl,_⟩:=bL va;cases rx;exact ⟨rfl,rfl⟩
  | lst l=>obtain ⟨p,xs,rfl,_⟩:=bV va;cases rx;exact ⟨rfl,rfl⟩
  | dct tk ks vs=>rw [Rep] at va;obtain ⟨p,xs,o,rfl,_⟩:=va;cases rx;exact ⟨rfl,rfl⟩
 ·cases e
  cases cO vb
  cases ry
  cases a with
  | non=>cases cO va;cases rx;exact ⟨rfl,rfl⟩
  | bl j=>cases dC va;cases rx;exact ⟨rfl,rfl⟩
  | int i=>cases bU va;obtain ⟨t,rfl⟩:=rx;exact ⟨rfl,rfl⟩
  | str l=>cases (bN va).1;obtain ⟨t,rfl⟩:=rx;exact ⟨rfl,rfl⟩
  | tup l=>obtain ⟨p,xs,rfl,_⟩:=bL va;cases rx;exact ⟨rfl,rfl⟩
  | lst l=>obtain ⟨p,xs,rfl,_⟩:=bV va;cases rx;exact ⟨rfl,rfl⟩
  | dct tk ks vs=>rw [Rep] at va;obtain ⟨p,xs,o,rfl,_⟩:=va;cases rx;exact ⟨rfl,rfl⟩
 ·cases e
theorem pq:Gx X (compareOp .IsNot) (rGA X.K isnO):=by
 rintro pins s σ H x y v u Q I rx ry ⟨G,fp,es,vs,a,b,r,⟨rel,k⟩,va,vb,e⟩
 obtain ⟨r0,e0,e⟩:=ar e
 obtain ⟨h1,h2⟩:=xi va vb rx ry e0
 subst h2
 cases e
 exact wpAny_isNot_plain h1 ⟨.bl _,H,I,rfl,k _ H G fp .refl (rel.push (dO _))⟩
end
section
variable {X:Cx}
theorem lq (hc:X.calm=true):dP X (.builtin "max") (rC X.K maxD):=by
 rintro pins s σ H xs us Q I rx ⟨G,fp,es,vs,ds,r,⟨rel,k⟩,vd,e⟩
 unfold maxD at e
 split at e
 ·rename_i d
  split at e
  ·rename_i n ns hb
   cases e
   obtain ⟨v,ev,vt⟩:=mN vd
   obtain ⟨p,ep,sq⟩:=gS rel.gh hb vt
   subst ev
   subst ep
   exact uz hc pins s σ H _ us Q I rx ⟨p,n :: ns,rfl,sq,by simp,k _ H G fp .refl (rel.push (br _))⟩
  ·cases e
 ·rename_i i j
  cases e
  obtain ⟨v,w',ev,v1,v2⟩:=EE vd
  subst ev
  cases bQ v1
  cases bQ v2
  obtain ⟨u,u',rfl,⟨t,rfl⟩,t',rfl⟩:=yN rx
  refine max_two_ints (I.ok.hd hc) fun h' tk kk=>?_
  have I2:Inv X pins σ H { s with heap:=h',toks:=tk }:=I.kept kk
  refine ⟨.int (if i < j then j else i),H,I2,?_,k _ H G fp .refl (rel.push (br _))⟩
  by_cases K3:i < j
  ·rw [if_pos K3,if_pos (show j > i from K3)]
   exact ⟨_,rfl⟩
  ·rw [if_neg K3,if_neg (show ¬ j > i from K3)]
   exact ⟨_,rfl⟩
 ·cases e
noncomputable def zI (f g:FX):FX:=fun env=>(f env).bind fun p=>(g p.2).bind fun q=>match (lh p.1.2).bind c8,q.1.2 with
 | some ns,.int d=>.ok ((.f,.int (NX.maxD ns d)),q.2)
 | _,_=>.bad
theorem zJ {e k:Expr} {f g:FX} {p pos IK:Pos} (hc:X.calm=true) (hg:Gl X "max") (hm:X.mg "max" = none) (he:QE X e f) (hk:QE X k g) (hs:starEach [e] X.env=[(false,eval e X.env)]:=by rfl) :
  QE X (.Call (.Name "max" p) [e] [⟨some "default",k,IK⟩] pos) (zI f g):=cv (y6 hc hg hm he hk hs) fun σ H Q FY=>by
 obtain ⟨G,env,fp,r,env',rel,e,k⟩:=FY
 obtain ⟨⟨r1,FC⟩,e1,e⟩:=ar e
 obtain ⟨⟨r2,FL⟩,e2,e⟩:=ar e
 dsimp only at e
 split at e
 ·rename_i ns d L5 hd
  cases e
  refine ⟨G,env,fp,r1,FC,rel,e1,fun v H1 G1 F5 F2 FJ=>?_⟩
  obtain ⟨G2,b,rv,FE,FV⟩:=FJ.freeze
  refine ⟨G2,FC,b,r2,_,FE,e2,fun w' H3 G3 Iq Gj F8=>?_⟩
  have hw:=F8.top
  obtain ⟨b3,Gr,Hg⟩:=F8.drop
  rw [hd] at hw
  obtain ⟨p',ep,sq⟩:=gS Gr.gh L5 (Vw.of Gr.gh (Rep.mono Gj.gg rv))
  subst ep
  exact ⟨p',ns,d,rfl,by rw [bU hw],sq,k _ H3 G3 b3 (F2.trans (FV.trans (Gj.trans Hg))) (Gr.push (br _))⟩
 ·cases e
noncomputable def zL:List D->Res R
 | [.bl b]=>.ok (.f,.int (if b then 1 else 0))
 | [.int i]=>.ok (.f,.int i)
 | _=>.bad
theorem yh:dP X (.type "int") (rC X.K zL):=by
 rintro pins s σ H xs us Q I rx ⟨G,fp,es,vs,ds,r,⟨rel,k⟩,vd,e⟩
 unfold zL at e
 split at e
 ·rename_i b
  cases e
  obtain ⟨v,ev,v1⟩:=mN vd
  subst ev
  cases DY v1
  obtain ⟨u,rfl,ru⟩:=e8 rx
  cases ru
  exact call_int_bool ⟨.int _,H,I.tok _,⟨_,rfl⟩,k _ H G fp .refl (rel.push (br _))⟩
 ·rename_i i
  cases e
  obtain ⟨v,ev,v1⟩:=mN vd
  subst ev
  cases bQ v1
  obtain ⟨u,rfl,t,rfl⟩:=e8 rx
  first
   | exact PySem.call_int_int ⟨.int _,H,I.tok _,⟨_,rfl⟩,k _ H G fp .refl (rel.push (br _))⟩
   | exact PySem.call_int_int ⟨.int _,H,I,⟨_,rfl⟩,k _ H G fp .refl (rel.push (br _))⟩
 ·cases e
noncomputable def uW:D->String
 | .non=>"NoneType"
 | .bl _=>"bool"
 | .int _=>"int"
 | .str _=>"str"
 | .tup _=>"tuple"
 | .lst _=>"list"
 | .dct _ _ _=>"dict"
noncomputable def EF (T:String) (d:D):Bool:=uW d == T || (uW d == "bool" && T == "int")
noncomputable def eIs (T:String) (f:FO):FX:=fun env=>(f env).bind fun p=>(tL p.2 p.1).bind fun d=>.ok ((.f,.bl (EF T d)),p.2)
noncomputable def Gm {α:Type} (f g:PV.Env->Res α):PV.Env->Res α:=fun env=>match f env with
 | .ok a=>.ok a
 | _=>g env
theorem yi {α:Type} {f g:PV.Env->Res α} {env:PV.Env} {a:α} (h:Gm f g env=.ok a):f env=.ok a\/g env=.ok a:=by
 unfold Gm at h
 split at h
 ·rename_i b hb
  cases h
  exact .inl hb
 ·exact .inr h
theorem uX {tg e:Expr} {f g:FI} (h:QI X tg e f) (h2:QI X tg e g):QI X tg e (Gm f g):=fun pins s σ H R I FY=>by
 obtain ⟨G,env,fp,ds,env',rel,ee,k⟩:=FY
 rcases yi ee with z | z
 ·exact h pins s σ H R I ⟨G,env,fp,ds,env',rel,z,k⟩
 ·exact h2 pins s σ H R I ⟨G,env,fp,ds,env',rel,z,k⟩
end
section
variable {α:Type}
noncomputable def ins (lt:α->α->Bool) (x:α):List α->List α
 | []=>[x]
 | y :: ys=>if lt y x then y :: ins lt x ys else x :: y :: ys
noncomputable def cb (lt:α->α->Bool) (l:List α):List α:=l.foldr (ins lt) []
structure Ord (lt:α->α->Bool):Prop where
 irr:∀ a,lt a a=false
 trans:∀ a b c,lt a b=true->lt b c=true->lt a c=true
 tot:∀ a b,lt a b=false->lt b a=false->a=b
theorem nO (lt:α->α->Bool) (x:α):∀ l,(ins lt x l).Perm (x :: l)
 | []=>.refl _
 | y :: ys=>by
  unfold ins
  split
  ·exact (List.Perm.cons y (nO lt x ys)).trans (List.Perm.swap x y ys)
  ·exact .refl _
theorem eV (lt:α->α->Bool):∀ l,(cb lt l).Perm l
 | []=>.refl _
 | x :: l=>(nO lt x _).trans (List.Perm.cons x (eV lt l))
theorem mO {lt:α->α->Bool} (o:Ord lt) (x:α):∀ l:List α,l.Pairwise (fun a b=>lt b a=false)->(ins lt x l).Pairwise (fun a b=>lt b a=false)
 | [],_=>by simp [ins]
 | y :: ys,h=>by
  rw [List.pairwise_cons] at h
  unfold ins
  split
  ·rename_i hy
   rw [List.pairwise_cons]
   refine ⟨fun z hz=>?_,mO o x ys h.2⟩
   rcases List.mem_cons.mp ((nO lt x ys).mem_iff.mp hz) with rfl | hz
   ·cases e:lt z y with
    | false=>rfl
    | true=>
     have:=o.trans y z y hy e
     rw [o.irr] at this
     cases this
   ·exact h.1 z hz
  ·rename_i hy
   have hy:lt y x=false:=by simpa using hy
   rw [List.pairwise_cons,List.pairwise_cons]
   refine ⟨fun z hz=>?_,h⟩
   rcases List.mem_cons.mp hz with rfl | K5
   ·exact hy
   ·cases e:lt z x with
    | false=>rfl
    | true=>
     exfalso
     cases e2:lt x y with
     | true=>
      have:=o.trans z x y e e2
      rw [h.1 z K5] at this
      cases this
     | false=>
      have hxy:=o.tot x y e2 hy
      rw [hxy,h.1 z K5] at e
      cases e
theorem fL {lt:α->α->Bool} (o:Ord lt):∀ l:List α,(cb lt l).Pairwise (fun a b=>lt b a=false)
 | []=>.nil
 | x :: l=>mO o x _ (fL o l)
theorem pw {lt:α->α->Bool} (o:Ord lt):∀ {a b:List α},a.Perm b->a.Pairwise (fun a b=>lt b a=false)->b.Pairwise (fun a b=>lt b a=false)->a=b
 | [],_,p,_,_=>p.nil_eq
 | x :: xs,[],p,_,_=>absurd p.length_eq (by simp)
 | x :: xs,y :: ys,p,ha,hb=>by
  rw [List.pairwise_cons] at ha hb
  have hx:x∈y :: ys:=p.mem_iff.mp List.mem_cons_self
  have hy:y∈x :: xs:=p.mem_iff.mpr List.mem_cons_self
  have e:x=y:=by
   rcases List.mem_cons.mp hx with e | hx
   ·exact e
   ·rcases List.mem_cons.mp hy with e | hy
    ·exact e.symm
    ·exact o.tot x y (hb.1 x hx) (ha.1 y hy)
  subst e
  rw [pw o p.cons_inv ha.2 hb.2]
theorem jj {lt:α->α->Bool} (o:Ord lt) {l ms:List α} (p:ms.Perm l) (h:ms.Pairwise (fun a b=>lt b a=false)):ms=cb lt l:=pw o (p.trans (eV lt l).symm) h (fL o l)
end
noncomputable def ltI (a b:Int):Bool:=decide (a < b)
noncomputable def JV (a b:List Nat):Bool:=decide (a < b)
theorem zM:Ord ltI:=⟨fun a=>by simp [ltI],fun a b c=>by simp only [ltI,decide_eq_true_eq];lia,fun a b=>by simp only [ltI,decide_eq_false_iff_not];lia⟩
theorem qj:Ord JV:=by
 refine ⟨fun a=>?_,fun a b c h1 h2=>?_,fun a b h1 h2=>?_⟩
 ·unfold JV
  rw [decide_eq_false_iff_not]
  exact List.lt_irrefl a
 ·unfold JV at *
  rw [decide_eq_true_eq] at *
  exact List.lt_trans h1 h2
 ·unfold JV at *
  rw [decide_eq_false_iff_not] at *
  exact List.le_antisymm (List.not_lt.mp h2) (List.not_lt.mp h1)
theorem uY:Ord fJ:=⟨iP,ir,iu⟩
noncomputable def fZ:List D->Option (List (List Nat))
 | []=>some []
 | .str b :: ds=>(fZ ds).map (b :: ·)
 | _=>none
noncomputable def lr:D->Option Key
 | .int i=>some (.inl i)
 | .str l=>some (.inr (S l))
 | _=>none
noncomputable def gk:List D->Option (List Key)
 | []=>some []
 | d :: ds=>(lr d).bind fun k=>(gk ds).map (k :: ·)
noncomputable def gm:D->Option (List Key)
 | .tup ds=>gk ds
 | _=>none
noncomputable def j7:List D->Option (List (List Key))
 | []=>some []
 | d :: ds=>(gm d).bind fun k=>(j7 ds).map (k :: ·)
noncomputable def kT (k:List Key):D:=.tup (k.map kD)
section
variable {K:W.Frag} {G:Hp}
theorem gq:∀ {ds:List D} {bs:List (List Nat)} {xs:List V},fZ ds=some bs->Reps K G ds xs->xs=bs.map (fun l=>V.str (S l))/\∀ l∈bs,l.length<=sizeLine
 | [],_,_,e,r=>by
  cases e
  rw [Reps] at r
  exact ⟨r,fun _ h=>nomatch h⟩
 | d :: ds,_,_,e,r=>by
  cases d with
  | str b=>
   rw [fZ,Option.map_eq_some_iff] at e
   obtain ⟨bs,e1,e2⟩:=e
   subst e2
   rw [Reps] at r
   obtain ⟨y,ys,e3,r1,r2⟩:=r
   obtain ⟨h1,h2⟩:=gq e1 r2
   obtain ⟨h3,h4⟩:=bN r1
   subst h3
   refine ⟨by rw [e3,h1];rfl,fun l hl=>?_⟩
   rcases List.mem_cons.mp hl with rfl | hl
   ·exact h4
   ·exact h2 l hl
  | _=>simp [fZ] at e
theorem iA {d:D} {k:Key} {v:V} (e:lr d=some k) (r:Rep K G d v):v=kV k/\d=kD k:=by
 cases d with
 | int i=>
  cases e
  exact ⟨bU r,rfl⟩
 | str l=>
  cases e
  refine ⟨(bN r).1,?_⟩
  show D.str l=D.str (S l).cps.toList
  rw [fe]
 | _=>cases e
theorem j8:∀ {ds:List D} {ks:List Key} {xs:List V},gk ds=some ks->Reps K G ds xs->xs=ks.map kV/\ds=ks.map kD
 | [],_,_,e,r=>by
  cases e
  rw [Reps] at r
  exact ⟨r,rfl⟩
 | d :: ds,_,_,e,r=>by
  rw [gk,Option.bind_eq_some_iff] at e
  obtain ⟨k,e1,e⟩:=e
  rw [Option.map_eq_some_iff] at e
  obtain ⟨ks,e2,e3⟩:=e
  subst e3
  rw [Reps] at r
  obtain ⟨y,ys,e4,r1,r2⟩:=r
  obtain ⟨h1,h2⟩:=iA e1 r1
  obtain ⟨h3,h4⟩:=j8 e2 r2
  rw [e4,h1,h2,h3,h4]
  exact ⟨rfl,rfl⟩
theorem fB {d:D} {ks:List Key} {v:V} (e:gm d=some ks) (r:Rep K G d v):∃ p,v=.ref p/\G p=some (.tup (ks.map kV))/\d=kT ks:=by
 cases d with
 | tup ds=>
  obtain ⟨p,xs,ev,g,rs⟩:=uQ r
  obtain ⟨h1,h2⟩:=j8 e rs
  subst h1
  exact ⟨p,ev,g,by rw [h2];rfl⟩
 | _=>cases e
theorem lu:∀ {ds:List D} {Ih:List (List Key)} {xs:List V},j7 ds=some Ih->Reps K G ds xs->∃ al:List (Addr×List Key),xs=al.map (fun a=>V.ref a.1)/\Ih=al.map (·.2)/\ds=al.map (fun a=>kT a.2)/\∀ a∈al,G a.1=some (.tup (a.2.map kV))/\Rep K G (kT a.2) (.ref a.1)
 | [],_,_,e,r=>by
  cases e
  rw [Reps] at r
  exact ⟨[],r,rfl,rfl,fun _ h=>nomatch h⟩
 | d :: ds,_,_,e,r=>by
  rw [j7,Option.bind_eq_some_iff] at e
  obtain ⟨k,e1,e⟩:=e
  rw [Option.map_eq_some_iff] at e
  obtain ⟨ks,e2,e3⟩:=e
  subst e3
  rw [Reps] at r
  obtain ⟨y,ys,e4,r1,r2⟩:=r
  obtain ⟨p,h1,h2,h5⟩:=fB e1 r1
  obtain ⟨al,h3,h4,h6,h7⟩:=lu e2 r2
  subst h1
  refine ⟨(p,k) :: al,by rw [e4,h3];rfl,by rw [h4];rfl,by rw [h5,h6];rfl,fun a ha=>?_⟩
  rcases List.mem_cons.mp ha with rfl | ha
  ·exact ⟨h2,by rw [<-h5];exact r1⟩
  ·exact h7 a ha
theorem gr {α:Type} {f:α->D} {g:α->V}:∀ {l:List α},(∀ a∈l,Rep K G (f a) (g a))->Reps K G (l.map f) (l.map g)
 | [],_=>Reps.nil
 | a :: l,h=>.cons (h a List.mem_cons_self) (gr fun b hb=>h b (List.mem_cons_of_mem _ hb))
end
noncomputable def sameKinds (k:List Key) (Ih:List (List Key)):Bool:=!k.isEmpty && Ih.all fun j=>kinds j == kinds k
noncomputable def ly (ds:List D):Option (List D):=match c8 ds with
 | some ns=>some ((cb ltI ns).map D.int)
 | none=>match fZ ds with
  | some ls=>some ((cb JV ls).map D.str)
  | none=>match j7 ds with
   | some (k :: Ih)=>if sameKinds k Ih then some ((cb fJ (k :: Ih)).map kT) else none
   | _=>none
noncomputable def fP:List D->Res R
 | [.lst ds]=>if ds.length < 64 then match ly ds with
  | some l=>.ok (.l .f,.lst l)
  | none=>.bad
  else .bad
 | [.dct true ks _]=>if ks.length < 64 then match ks,j7 ks with
  | [],_=>.ok (.l .f,.lst [])
  | _,some (k :: Ih)=>if sameKinds k Ih then .ok (.l .f,.lst ((cb fJ (k :: Ih)).map kT)) else .bad
  | _,_=>.bad
  else .bad
 | _=>.bad
theorem jk {k:List Key} {Ih:List (List Key)} (h:sameKinds k Ih=true):∃ top t,∀ j∈k :: Ih,kinds j=top :: t:=by
 unfold sameKinds at h
 rw [Bool.and_eq_true,List.all_eq_true] at h
 cases k with
 | nil=>simp at h
 | cons a k=>
  refine ⟨a.isLeft,kinds k,fun j hj=>?_⟩
  rcases List.mem_cons.mp hj with rfl | hj
  ·rfl
  ·exact beq_iff_eq.mp (h.2 j hj)
noncomputable def j9 (H G:Hp):Hp:=fun p=>match H p with
 | some (HO.tup xs)=>some (HO.tup xs)
 | _=>G p
theorem sW {H G:Hp} {p:Addr} {xs:List V} (e:H p=some (.tup xs)):j9 H G p=some (.tup xs):=by
 unfold j9
 rw [e]
theorem lA {H G:Hp} {p:Addr} {u:HO} (e:j9 H G p=some u):G p=some u\/(isT u=true/\H p=some u):=by
 unfold j9 at e
 split at e
 ·rename_i xs hx
  cases e
  exact .inr ⟨rfl,hx⟩
 ·exact .inl e
theorem u0 {H G:Hp} (gh:Same G H):Same G (j9 H G):=fun p u e=>by
 unfold j9
 rw [gh p u e]
 cases u with
 | tup xs=>rfl
 | _=>exact e
theorem Rel.addT {K:W.Frag} {G H:Hp} {es:PV.Env} {vs:L2.St} {fp:List Addr} (q:Rel K G H es vs fp):∃ G',Rel K G' H es vs fp/\Step G H fp G' H fp/\∀ p xs,H p=some (.tup xs)->G' p=some (.tup xs):=by
 have gg:=u0 q.gh
 refine ⟨j9 H G,⟨q.rep.step gg fun _ _=>rfl,q.nd,fun p hp=>?_,fun p u e=>?_⟩,⟨gg,fun _ _ e _=>e,fun _ h=>.inl h,fun p u e=>(lA e).imp_right fun z=>.inr (.inr z),fun _ u e=>⟨u,e⟩⟩,fun p xs e=>sW e⟩
 ·cases e:j9 H G p with
  | none=>rfl
  | some u=>
   exfalso
   rcases lA e with z | ⟨t,z⟩
   ·rw [q.gn p hp] at z
    cases z
   ·obtain ⟨u2,h2,hm⟩:=q.rep.mut p hp
    rw [z] at h2
    cases h2
    cases u with
    | tup _=>cases hm
    | frz _ _=>cases hm
    | _=>cases t
 ·rcases lA e with z | z
  ·exact q.gh p u z
  ·exact z.2
theorem B4 {K:W.Frag} {G:Hp} {k:Key} (h:x9 k):Rep K G (kD k) (kV k):=by
 cases k with
 | inl i=>exact br i
 | inr x=>
  have:=iS (K:=K) (G:=G) (l:=x.cps.toList) h
  rw [oU] at this
  exact this
theorem B5 (k:Key):lr (kD k)=some k:=by
 cases k with
 | inl i=>rfl
 | inr x=>
  show some (Sum.inr (S x.cps.toList))=_
  rw [oU]
theorem lB:∀ ks:List Key,gk (ks.map kD)=some ks
 | []=>rfl
 | k :: ks=>by
  rw [List.map_cons,gk,B5,lB ks]
  rfl
theorem jQ:∀ Ih:List (List Key),j7 (Ih.map kT)=some Ih
 | []=>rfl
 | k :: Ih=>by
  rw [List.map_cons,j7]
  show (gk (k.map kD)).bind _=_
  rw [lB,jQ Ih]
  rfl
section
variable {X:Cx}
theorem Qc {α:Type} {lt:α->α->Bool} {p:α->α->Prop} (h:∀ a b,p a b->lt b a=false) {l:List α} (q:l.Pairwise p):l.Pairwise (fun a b=>lt b a=false):=q.imp (h _ _)
theorem jl (hc:X.calm=true):dP X (.builtin "sorted") (rC X.K fP):=by
 rintro pins s σ H xs us Q I rx ⟨G,fp,es,vs,ds,r,⟨rel,k⟩,vd,e⟩
 unfold fP at e
 split at e
 ·rename_i ds
  split at e
  ·rename_i J5
   split at e
   ·rename_i l hl
    cases e
    obtain ⟨v,ev,p,ys,ep,sq,rs⟩:=mN vd
    subst ev
    subst ep
    unfold ly at hl
    split at hl
    ·rename_i ns L5
     cases hl
     have hy:=iT L5 rs
     subst hy
     have hlen:ns.length < 64:=by have:=rs.length;rw [List.length_map] at this;lia
     refine ku hc pins s σ H _ us Q I rx ⟨p,ns,rfl,sq,hlen,fun q ms hq pm sm=>?_⟩
     have em:=jj zM pm (Qc (fun a b h=>by unfold ltI;rw [decide_eq_false_iff_not];lia) sm)
     subst em
     obtain ⟨FE,FV⟩:=rel.newL hq (gr (K:=X.K) (G:=G) (f:=D.int) (g:=V.int) fun a _=>br a)
     exact k _ _ G _ FV FE
    ·split at hl
     ·rename_i ls hls
      cases hl
      obtain ⟨hy,hz⟩:=gq hls rs
      subst hy
      have hlen:ls.length < 64:=by have:=rs.length;rw [List.length_map] at this;lia
      refine kx hc pins s σ H _ us Q I rx ⟨p,ls,rfl,sq,hlen,fun q ms hq pm sm=>?_⟩
      have em:=jj qj pm (Qc (fun a b h=>by unfold JV;rw [decide_eq_false_iff_not];exact h) sm)
      obtain ⟨FE,FV⟩:=rel.newL hq (gr (K:=X.K) (G:=G) (f:=D.str) (g:=fun l=>V.str (S l)) (l:=ms) fun a ha=>iS (hz a (pm.mem_iff.mp ha)))
      rw [<-em] at k
      exact k _ _ G _ FV FE
     ·split at hl
      ·rename_i kk Ih hk
       split at hl
       ·rename_i hsk
        cases hl
        obtain ⟨al,h1,h2,h3,h4⟩:=lu hk rs
        obtain ⟨top,t,Ii⟩:=jk hsk
        subst h1
        have hlen:al.length < 64:=by have:=rs.length;rw [List.length_map] at this;lia
        refine ky hc pins s σ H _ us Q I rx ⟨p,al,top,t,rfl,sq,fun a ha=>⟨SqT.of (rel.gh _ _ (h4 a ha).1),Ii a.2 (by rw [h2];exact List.mem_map.mpr ⟨a,ha,rfl⟩)⟩,hlen,fun q ms hq pm sm=>?_⟩
        have em:ms.map (·.2)=cb fJ (kk :: Ih):=by
         rw [h2]
         refine jj uY (pm.map _) ?_
         rw [List.pairwise_map]
         exact sm
        obtain ⟨FE,FV⟩:=rel.newL hq (gr (K:=X.K) (G:=G) (f:=fun a:Addr×List Key=>kT a.2) (g:=fun a=>V.ref a.1) (l:=ms) fun a ha=>(h4 a (pm.mem_iff.mp ha)).2)
        have ek:ms.map (fun a=>kT a.2)=(cb fJ (kk :: Ih)).map kT:=by rw [<-em,List.map_map];rfl
        rw [ek] at FE
        exact k _ _ G _ FV FE
       ·cases hl
      ·cases hl
   ·cases e
  ·cases e
 ·rename_i ks vv
  split at e
  ·rename_i J5
   obtain ⟨v,ev,vt⟩:=mN vd
   obtain ⟨p,ys,o,ep,rd,dd,rs⟩:=vt
   subst ev
   subst ep
   obtain ⟨FF,eo,ek,ex,JC⟩:=dd
   subst eo
   have ek:ks=(FF.map (·.1)).map kT:=by rw [ek,List.map_map];rfl
   have hlen:FF.length < 64:=by rw [ek,List.length_map,List.length_map] at J5;exact J5
   have go:∀ (top:Bool) (t:List Bool),(∀ kv∈FF,kinds kv.1=top :: t)->r=(.l .f,.lst ((cb fJ (FF.map (·.1))).map kT))->wpAny (model X.prog X.w) X.A (call (.builtin "sorted") us) (EP X pins σ Q) X.xe s:=fun top t Ii er=>by
    subst er
    refine mn hc pins s σ H _ us Q I rx ⟨p,FF,top,t,rfl,rd,Ii,hlen,fun q ms hq hm pm sm=>?_⟩
    have em:ms.map (·.2)=cb fJ (FF.map (·.1)):=by
     refine jj uY pm ?_
     rw [List.pairwise_map]
     exact sm
    obtain ⟨G2,FE,FV,ht⟩:=rel.addT
    have I0:∀ a∈ms,Rep X.K G2 (kT a.2) (.ref a.1):=fun a ha=>by
     unfold kT
     rw [Rep]
     refine ⟨a.1,_,rfl,ht _ _ (hm a ha),?_⟩
     refine gr (f:=kD) (g:=kV) fun key HK=>B4 ?_
     have:a.2∈FF.map (·.1):=pm.mem_iff.mp (List.mem_map.mpr ⟨a,ha,rfl⟩)
     obtain ⟨kv,IZ,e2⟩:=List.mem_map.mp this
     exact JC kv IZ key (by rw [e2];exact HK)
    obtain ⟨F8,Gj⟩:=FE.newL hq (gr (K:=X.K) (G:=G2) (f:=fun a:Addr×List Key=>kT a.2) (g:=fun a=>V.ref a.1) (l:=ms) I0)
    have ek:ms.map (fun a=>kT a.2)=(cb fJ (FF.map (·.1))).map kT:=by rw [<-em,List.map_map];rfl
    rw [ek] at F8
    exact k _ _ G2 _ (FV.trans Gj) F8
   rw [ek,jQ] at e
   split at e
   ·rename_i Mw
    cases e
    have:FF=[]:=by
     cases FF with
     | nil=>rfl
     | cons a b=>cases Mw
    subst this
    exact go true [] (fun _ h=>nomatch h) rfl
   ·rename_i kk Ih heq hne
    split at e
    ·rename_i hsk
     cases e
     obtain ⟨top,t,Ii⟩:=jk hsk
     have heq:FF.map (·.1)=kk :: Ih:=by
      injection heq
     refine go top t (fun kv IZ=>Ii kv.1 ?_) (by rw [heq])
     rw [<-heq]
     exact List.mem_map.mpr ⟨kv,IZ,rfl⟩
    ·cases e
   ·cases e
  ·cases e
 ·cases e
noncomputable def Kk (a b:D):Res R:=match gm a,gm b with
 | some ks,some js=>if kinds ks == kinds js then .ok (.f,.bl (fJ ks js)) else .bad
 | _,_=>Nc a b
noncomputable def geO (a b:D):Res R:=match gm a,gm b with
 | some ks,some js=>if kinds ks == kinds js then .ok (.f,.bl (!fJ ks js)) else .bad
 | _,_=>match a,b with
  | .str a,.str b=>.ok (.f,.bl (!decide (a < b)))
  | a,b=>geD a b
theorem px (hu:X.A.units < cLine):Gx X (compareOp .Lt) (rG X.K Kk):=by
 rintro pins s σ H x y v u Q I rx ry ⟨G,fp,es,vs,a,b,r,⟨rel,k⟩,va,vb,e⟩
 unfold Kk at e
 split at e
 ·rename_i ks js h1 h2
  split at e
  ·rename_i hk
   cases e
   have ra:Rep X.K G a x:=by cases a <;> first | exact va | cases h1
   have rb:Rep X.K G b y:=by cases b <;> first | exact vb | cases h2
   obtain ⟨p,e1,g1,_⟩:=fB h1 ra
   obtain ⟨p2,e2,g2,_⟩:=fB h2 rb
   subst e1
   subst e2
   exact BM hu pins s σ H _ _ v u Q I rx ry ⟨p,p2,ks,js,rfl,rfl,SqT.of (rel.gh _ _ g1),SqT.of (rel.gh _ _ g2),beq_iff_eq.mp hk,k _ H G fp .refl (rel.push (dO _))⟩
  ·cases e
 ·exact D1 pins s σ H x y v u Q I rx ry ⟨G,fp,es,vs,a,b,r,⟨rel,k⟩,va,vb,e⟩
end
noncomputable def eNewD (tk:Bool):FX:=fun env=>.ok ((.d,.dct tk [] []),env)
section
variable {md:Mode} {X:Cx}
noncomputable def qk (ks vs:List D) (k v:D):List D×List D:=if ks.any (eqD k) then (ks,(ks.zip vs).map fun p=>if eqD k p.1 then v else p.2) else (ks++[k],vs++[v])
noncomputable def fC (tk:Bool) (k:D):Bool:=if tk then (gm k).isSome else (lr k).isSome
noncomputable def B6 (i:Nat) (fk fv:FX):FS:=fun env=>(fv env).bind fun p=>(fk p.2).bind fun q=>match p.2[i]?,q.2[i]? with
 | some (some _),some (some (.d,.dct tk ks vs))=>if fC tk q.1.2 && decide (ks.length < sizeLine) then .ok (.nx (q.2.set i (some (.d,.dct tk (qk ks vs q.1.2 p.1.2).1 (qk ks vs q.1.2 p.1.2).2)))) else .bad
 | _,_=>.bad
theorem u9 (a b:Key):eqD (kD a) (kD b)=decide (a=b):=by
 cases a with
 | inl i=>
  cases b with
  | inl j=>simp only [kD,eqD];rw [Bool.eq_iff_iff];simp
  | inr y=>simp only [kD,eqD];simp
 | inr x=>
  cases b with
  | inl j=>simp only [kD,eqD];simp
  | inr y=>
   simp only [kD,eqD]
   rw [Bool.eq_iff_iff]
   simp only [beq_iff_eq,decide_eq_true_eq,Sum.inr.injEq]
   exact ⟨fun h=>by rw [<-oU x,<-oU y,h],fun h=>by rw [h]⟩
theorem ve:∀ a b:List Key,jP (a.map kD) (b.map kD)=decide (a=b)
 | [],[]=>by simp [jP]
 | [],_ :: _=>by simp [jP]
 | _ :: _,[]=>by simp [jP]
 | a :: r,b :: t=>by
  rw [List.map_cons,List.map_cons,jP,u9,ve r t,Bool.eq_iff_iff]
  simp
theorem yj (a b:List Key):eqD (kT a) (kT b)=decide (a=b):=by
 unfold kT
 rw [eqD]
 exact ve a b
theorem pA {κ:Type} [DecidableEq κ] {K:W.Frag} {G:Hp} (f:κ->D) (hf:∀ a b,eqD (f a) (f b)=decide (a=b)) {FF:List (κ×V)} {vs:List D} {k:κ} {v:D} {y:V} (r:Reps K G vs (FF.map (·.2))) (ry:Rep K G v y) :
  (kz FF k y).map (fun kv=>f kv.1)=(qk (FF.map fun kv=>f kv.1) vs (f k) v).1/\Reps K G (qk (FF.map fun kv=>f kv.1) vs (f k) v).2 ((kz FF k y).map (·.2)):=by
 have e:(FF.map fun kv=>f kv.1).any (eqD (f k))=FF.any fun kv=>decide (kv.1=k):=by
  rw [List.any_map]
  congr 1
  funext kv
  show eqD (f k) (f kv.1)=_
  rw [hf,Bool.eq_iff_iff]
  simp only [decide_eq_true_eq]
  exact ⟨fun z=>z.symm,fun z=>z.symm⟩
 unfold qk kz
 rw [e]
 split
 ·refine ⟨?_,?_⟩
  ·rw [List.map_map]
   refine List.map_congr_left fun kv _=>?_
   show f (if kv.1=k then (kv.1,y) else kv).1=f kv.1
   split <;> rfl
  ·rename_i Lk
   clear e Lk
   induction FF generalizing vs with
   | nil=>
    have:vs=[]:=List.eq_nil_of_length_eq_zero (by rw [<-r.length];rfl)
    subst this
    exact Reps.nil
   | cons kv FF ih=>
    cases vs with
    | nil=>have:=r.length;simp at this
    | cons d vs=>
     rw [List.map_cons,Reps.cons_iff] at r
     rw [List.map_cons,List.zip_cons_cons,List.map_cons,List.map_cons,List.map_cons]
     refine .cons ?_ (ih r.2)
     show Rep K G (if eqD (f k) (f kv.1)=true then v else d) (if kv.1=k then (kv.1,y) else kv).2
     rw [hf]
     by_cases hk:kv.1=k
     ·rw [if_pos (by simp [hk]),if_pos hk]
      exact ry
     ·rw [if_neg (by simp;exact fun z=>hk z.symm),if_neg hk]
      exact r.1
 ·refine ⟨?_,?_⟩
  ·rw [List.map_append]
   rfl
  ·rw [List.map_append]
   exact r.app (.one ry)
theorem Rel.chgD {K:W.Frag} {G H:Hp} {es:PV.Env} {vs:L2.St} {fp:List Addr} {i:Nat} {tk:Bool} {ks ws:List D} (q:Rel K G H es vs fp) (e:es[i]?=some (some (.d,.dct tk ks ws))):∃ p xs u,vs[i]?=some (some (.ref p))/\H p=some u/\DictO u tk ks xs/\Reps K G ws xs/\
  ∀ u' Jv Hy NG,DictO u' tk Jv Hy->Reps K G NG Hy->∃ fq,Rel K G (upd H p u') (es.set i (some (.d,.dct tk Jv NG))) vs fq/\Step G H fp G (upd H p u') fq:=by
 obtain ⟨v,fq,ev,g,st,HG⟩:=q.out e
 obtain ⟨y,ys,e0,v',a,b,e1,e2,r1,r2⟩:=g.rep
 cases e0
 cases e1
 rw [RepO] at r1
 obtain ⟨p,xs,u,e3,hp,dd,e4,rs⟩:=r1
 subst e3
 subst e4
 subst e2
 have nd:=List.nodup_cons.mp (show (p :: b).Nodup from g.nd)
 refine ⟨p,xs,u,ev,hp,dd,rs,fun u' Jv Hy NG Lg HY=>?_⟩
 have g2:Rel K G (upd H p u') (some (.d,.dct tk Jv NG) :: es.set i none) (some (.ref p) :: vs) (p :: b):=by
  refine ⟨⟨some (.ref p),vs,rfl,.ref p,[p],b,rfl,rfl,?_,r2.step (.refl _) fun z hz=>aU fun e=>nd.1 (e▸hz)⟩,g.nd,g.gn,fun z o ez=>?_⟩
  ·rw [RepO]
   exact ⟨p,Hy,u',rfl,bZ,Lg,rfl,HY⟩
  ·have:z≠p:=fun w=>by
    subst w
    rw [g.gn z List.mem_cons_self] at ez;cases ez
   rw [aU this]
   exact g.gh z o ez
 have Pj:Step G H (p :: b) G (upd H p u') (p :: b):=by
  refine ⟨.refl _,fun z o ez nz=>?_,fun z hz=>.inl hz,fun z o ez=>.inl ez,fun z o ez=>?_⟩
  ·have:z≠p:=fun w=>nz (by rw [w];exact List.mem_cons_self)
   rw [aU this]
   exact ez
  ·by_cases w:z=p
   ·subst w
    exact ⟨_,bZ⟩
   ·exact ⟨o,by rw [aU w];exact ez⟩
 obtain ⟨fz,g3,Gj⟩:=g2.back (i:=i) (by rw [List.length_set];exact (List.getElem?_eq_some_iff.mp e).1) ev
 rw [List.set_set] at g3
 exact ⟨fz,g3,st.trans (Pj.trans Gj)⟩
theorem vf {K:W.Frag} {G:Hp} {d:D} {k:Key} {v:V} (e:lr d=some k) (r:Rep K G d v):x9 k:=by
 cases d with
 | int i=>cases e;trivial
 | str l=>
  cases e
  show (S l).cps.toList.length<=sizeLine
  rw [fe]
  exact (bN r).2
 | _=>cases e
theorem vg {K:W.Frag} {G:Hp}:∀ {ds:List D} {ks:List Key} {xs:List V},gk ds=some ks->Reps K G ds xs->∀ k∈ks,x9 k
 | [],_,_,e,_=>by
  cases e
  exact fun _ h=>nomatch h
 | d :: ds,_,_,e,r=>by
  rw [gk,Option.bind_eq_some_iff] at e
  obtain ⟨k,e1,e⟩:=e
  rw [Option.map_eq_some_iff] at e
  obtain ⟨ks,e2,e3⟩:=e
  subst e3
  rw [Reps] at r
  obtain ⟨y,ys,e4,r1,r2⟩:=r
  intro z hz
  rcases List.mem_cons.mp hz with rfl | hz
  ·exact vf e1 r1
  ·exact vg e2 r2 z hz
theorem rH {κ:Type} [DecidableEq κ] {P:κ->Prop} {FF:List (κ×V)} {k:κ} {y:V} (h:∀ kv∈FF,P kv.1) (hk:P k):∀ kv∈kz FF k y,P kv.1:=by
 intro kv IZ
 unfold kz at IZ
 split at IZ
 ·obtain ⟨z,hz,e⟩:=List.mem_map.mp IZ
  rw [<-e]
  split
  ·exact h z hz
  ·exact h z hz
 ·rcases List.mem_append.mp IZ with IZ | IZ
  ·exact h kv IZ
  ·rw [List.mem_singleton] at IZ
   rw [IZ]
   exact hk
theorem ym {i:Nat} {o ix value:Expr} {fk fv:FX} {pos pos':Pos} (hu:X.A.units + 1 < cLine) (ho:PE X o (wz i)) (hi:QE X ix fk) (hv:QE X value fv) (hs:swapsWith value (some (.Subscript o ix pos')) pos.line X.env=pure false:=by rfl) :
  QS (md:=md) X (.Assign [.Subscript o ix pos'] value pos) (B6 i fk fv):=gN (zh hu ho hi hv hs) fun Dd σ H FY=>by
 obtain ⟨G,env,fp,rel,k⟩:=FY
 unfold B6 at k
 match q1:fv env,k with
 | .ok (r1,FC),k=>
  have k:OutOk X.K G H fp Dd ((fk FC).bind fun q=>match FC[i]?,q.2[i]? with
   | some (some _),some (some (.d,.dct tk ks vs))=>if fC tk q.1.2 && decide (ks.length < sizeLine) then .ok (.nx (q.2.set i (some (.d,.dct tk (qk ks vs q.1.2 r1.2).1 (qk ks vs q.1.2 r1.2).2)))) else .bad
   | _,_=>.bad):=k
  match q2:fk FC,k with
  | .ok (r2,FL),k=>
   have k:OutOk X.K G H fp Dd (match FC[i]?,FL[i]? with
    | some (some _),some (some (.d,.dct tk ks vs))=>if fC tk r2.2 && decide (ks.length < sizeLine) then .ok (.nx (FL.set i (some (.d,.dct tk (qk ks vs r2.2 r1.2).1 (qk ks vs r2.2 r1.2).2)))) else .bad
    | _,_=>.bad):=k
   split at k
   ·rename_i rr tk ks ws h1 h2
    split at k
    ·rename_i hc
     rw [Bool.and_eq_true,decide_eq_true_eq] at hc
     refine ⟨G,env,fp,r1,FC,rel,q1,fun y H1 G1 F5 F2 FJ=>?_⟩
     obtain ⟨G2,b,ry,FE,FV⟩:=FJ.freeze
     obtain ⟨v0,NO,_⟩:=FE.view h1
     refine ⟨v0,NO,G2,FC,b,r2,FL,FE,q2,fun z H3 G3 Iq Gj F8=>?_⟩
     obtain ⟨G4,b4,rz,Gr,Hg⟩:=F8.freeze
     obtain ⟨p,xs,u,ep,hp,dd,rs,cg⟩:=Gr.chgD h2
     rw [NO] at ep
     cases ep
     have OD:Rep X.K G4 r1.2 y:=Rep.mono (Gj.gg.trans Hg.gg) ry
     cases tk with
     | true=>
      obtain ⟨FF,eu,ek,ex,JC⟩:=dd
      subst eu
      subst ex
      have hk:=hc.1
      unfold fC at hk
      rw [if_pos rfl,Option.isSome_iff_exists] at hk
      obtain ⟨kk,hk⟩:=hk
      obtain ⟨pz,ez,gz,dz⟩:=fB hk rz
      subst ez
      obtain ⟨t1,t2⟩:=pA (K:=X.K) (G:=G4) kT yj (k:=kk) rs OD
      have ek:ks=FF.map fun kv=>kT kv.1:=ek
      rw [<-ek,<-dz] at t1 t2
      have hfk:∀ key∈kk,x9 key:=by
       cases hd:r2.2 with
       | tup ds=>
        rw [hd] at hk rz
        obtain ⟨_,Hy,_,_,HY⟩:=uQ rz
        exact vg hk HY
       | _=>rw [hd] at hk;cases hk
      obtain ⟨fq,He,Ia⟩:=cg (.dT (kz FF kk y)) _ _ _ ⟨kz FF kk y,rfl,t1.symm,rfl,rH (P:=fun ks=>∀ k∈ks,x9 k) JC hfk⟩ t2
      have hlen:FF.length < sizeLine:=by have:=hc.2;rw [ek,List.length_map] at this;exact this
      exact ⟨p,_,rfl,DPut.t hp (Gr.gh _ _ gz) hlen,k _ _ G4 fq (F2.trans (FV.trans (Gj.trans (Hg.trans Ia)))) He⟩
     | false=>
      obtain ⟨FF,eu,ek,ex,JC⟩:=dd
      subst eu
      subst ex
      have hk:=hc.1
      unfold fC at hk
      rw [if_neg Bool.false_ne_true,Option.isSome_iff_exists] at hk
      obtain ⟨kk,hk⟩:=hk
      obtain ⟨ez,dz⟩:=iA hk rz
      subst ez
      obtain ⟨t1,t2⟩:=pA (K:=X.K) (G:=G4) kD u9 (k:=kk) rs OD
      rw [<-ek,<-dz] at t1 t2
      obtain ⟨fq,He,Ia⟩:=cg (.dK (kz FF kk y)) _ _ _ ⟨kz FF kk y,rfl,t1.symm,rfl,rH (P:=x9) JC (vf hk rz)⟩ t2
      have hlen:FF.length < sizeLine:=by have:=hc.2;rw [ek,List.length_map] at this;exact this
      exact ⟨p,_,rfl,DPut.k hp hlen,k _ _ G4 fq (F2.trans (FV.trans (Gj.trans (Hg.trans Ia)))) He⟩
    ·exact k.elim
   ·exact k.elim
end
end PV
namespace NX
open PySem PySem.Spec PyProof.Rows L2
section
variable {prog:Program} {w:World} {A:Around} {E:Value->Shared->Prop} {s:Shared} {d:Addr} {es:Array DictEntry} {ep:Nat}
theorem nP (nm:(d == sysModules)=false):MeetsIn prog w (Builtin.«dict.__len__» ⟨[.ref d],[]⟩) (fun _ R s=>RawD s.heap d es ep/\R (.ok (.ret (.int es.size s.toks))) { s with toks:=s.toks + 1 }):=
 .of_wp fun A R s FY=>by
  obtain ⟨⟨o,g,_,dat⟩,h⟩:=FY
  show wpAny _ _ (dictSize d >>= fun _=>_) _ _ s
  unfold dictSize
  refine wpAny_bind (wpAny_bind (wpAny_dictEntries g dat (wpAny_pure ?_)))
  show wpAny _ _ (Builtin.Dict.pendingCount d >>= fun _=>_) _ _ s
  refine wpAny_bind (wpAny_pendingCount_other nm (wpAny_ret_mkInt ?_))
  rw [Nat.add_zero]
  exact h
theorem zN {Q:Value->Shared->Prop} (nm:(d == sysModules)=false) (x:RawD s.heap d es ep) (hf:(es.size:Int) < 2 ^ 63) (h:Q (.int es.size (s.toks + 1)) { s with toks:=s.toks + 1 + 1 }):wpAny (model prog w) A (call (.builtin "len") [.ref d]) Q E s:=by
 have ty:=kI x
 refine Calls.call_function_entry kind_len plain_len entry_len (args_len1 _) ?_
 unfold Builtin.«len»
 refine wpAny_bind (m:=oneArg "len" _) (wpAny_pure (wpAny_bind (m:=callSpecial? (.ref d) (Str.ofString "__len__")) (wpAny_callSpecial?_slot (name:=Str.ofString "__len__") ty F.slot_dict_len
  (call_meetsIn F.slot_dict_len ty F.entry_dict_len (F.args_dict_len_1 _) (nP (es:=es) (ep:=ep) nm) ⟨x,?_⟩))))
 show wpAny _ _ _ _ _ { s with toks:=s.toks + 1 }
 refine wpAny_bind (wpAny_holding (wpAny_pure (wpAny_bind (wpAny_letGo ?_))))
 show wpAny _ _ (if ((es.size:Nat):Int) < 0 then _ else _) _ _ _
 rw [if_neg (Int.not_lt.mpr (Int.natCast_nonneg _))]
 show wpAny _ _ (if ((es.size:Nat):Int) >= 2 ^ 63 then _ else _) _ _ _
 rw [if_neg (Int.not_le.mpr hf)]
 exact wpAny_bind (wpAny_mkInt (wpAny_pure ⟨_,rfl,h⟩))
end
end NX
namespace PV
open PySem PySem.Spec PyProof.Rows L2 NX
section
variable {X:Cx}
noncomputable def ka:List D->Res R
 | [.dct _ ks _]=>.ok (.f,.int ks.length)
 | ds=>D5 ds
theorem B7 {pins:List (Addr×Obj)} {σ:L2.St} {H:Hp} {s:Shared} (I:Inv X pins σ H s) {p:Addr} {o:HO} {tk:Bool} {ks:List D} {xs:List V} (rd:Rd H p o) (dd:DictO o tk ks xs):(p == sysModules)=false/\∃ es ep,RawD s.heap p es ep/\es.size=ks.length/\ks.length<=sizeLine:=by
 have ok:=rd.ok I.hok
 cases tk with
 | true=>
  obtain ⟨FF,eo,ek,_⟩:=dd
  subst eo
  obtain ⟨z,nm,ws,r,o2,es,ep,h1,h2,h3,h4,_⟩:=ok
  refine ⟨nm,es,ep,⟨o2,h1,h2,h3⟩,?_,by rw [ek,List.length_map];exact z⟩
  have:=congrArg List.length h4
  rw [List.length_map,Array.length_toList,<-Paired.length r] at this
  rw [ek,List.length_map]
  exact this
 | false=>
  obtain ⟨FF,eo,ek,_⟩:=dd
  subst eo
  obtain ⟨z,nm,ws,r,o2,es,ep,h1,h2,h3,h4,h5,_⟩:=ok
  refine ⟨nm,es,ep,⟨o2,h1,h2,h3⟩,?_,by rw [ek,List.length_map];exact z⟩
  have l1:=h5.length
  have l2:FF.length=ws.length:=Paired.length r
  rw [ek,List.length_map]
  rw [Array.length_toList] at l1
  lia
theorem cR:dP X (.builtin "len") (rC X.K ka):=by
 rintro pins s σ H xs us Q I rx ⟨G,fp,es,vs,ds,r,⟨rel,k⟩,vd,e⟩
 unfold ka at e
 split at e
 ·rename_i tk ks ws
  cases e
  obtain ⟨v,ev,p,ys,o,ep,rd,dd,_⟩:=mN vd
  subst ev
  subst ep
  obtain ⟨u,rfl,ru⟩:=e8 rx
  cases ru
  obtain ⟨nm,en,ep,raw,h1,h2⟩:=B7 I rd dd
  refine zN nm raw (by rw [h1];rw [sizeLine_eq] at h2;lia) ?_
  refine ⟨.int ks.length,H,I.tok _,⟨_,by rw [h1]⟩,k _ H G fp .refl (rel.push (br _))⟩
 ·exact BU pins s σ H xs us Q I rx ⟨G,fp,es,vs,_,r,⟨rel,k⟩,vd,e⟩
noncomputable def D7 (g:List Nat->List D->Res R) (fa:FO) (fs:FOs):FX:=fun env=>(fa env).bind fun p=>match Hh p.2 p.1 with
 | .ok (.str l)=>(fs p.2).bind fun q=>(pd q.2 q.1).bind fun ds=>(g l ds).bind fun r=>.ok (r,q.2)
 | _=>.bad
inductive rMtS (K:W.Frag) (g:List Nat->List D->Res R) (x:V) (xs:List V) (H:Hp) (Q:VK):Prop
 | mk:∀ G fp es vs l ds r,Goes K H G fp es vs r Q->x=.str (S l)->l.length<=sizeLine->L7 K G H ds xs->g l ds=.ok r->rMtS K g x xs H Q
theorem B8 {g:List Nat->List D->Res R} {id:String} {name:Str} {o e:Expr} {es:List Expr} {fa:FO} {fs:FOs} {apos F4:Pos} (slot:Slot "str" name id) (Ks:typeOf (.builtin id)=pure (.type "method_descriptor")) (hm:La X id (rMtS X.K g)) (ho:QO X o fa) (ha:Ki X (e :: es) fs)
  (GU:attributeBase o name X.env (eval o X.env)=eval o X.env:=by rfl)
  (Ic:((backTo F4 (starEach (e :: es) X.env)).all (fun x=>!x.1) && (backToKw F4 (keywordEach [] X.env)).all (fun x=>x.1.isSome) && decide ((e :: es).length + ([]:List Keyword).length + (if ([]:List Keyword).isEmpty then 0 else 1) < 30))=true:=by rfl)
  (GV:(apos.endLine == F4.line)=true:=by rfl) (hs:starEach (e :: es) X.env=(false,eval e X.env) :: starEach es X.env:=by rfl) (Gv:(backTo F4 (starEach es X.env)).any (·.1)=false:=by rfl) :
  QE X (.Call (.Attribute o name apos) (e :: es) [] F4) (D7 g fa fs):=by
 refine cv (yW PySem.F.plainAttrs_str slot Ks hm ho ha GU Ic GV hs Gv) fun σ H Q F3=>?_
 obtain ⟨G,env,fp,r,env',rel,e,k⟩:=F3
 obtain ⟨⟨oa,FC⟩,e1,e⟩:=ar e
 dsimp only at e
 split at e
 ·rename_i l hl
  obtain ⟨⟨os,FL⟩,e2,e⟩:=ar e
  obtain ⟨ds,e3,e⟩:=ar e
  obtain ⟨r',e4,e⟩:=ar e
  cases e
  refine ⟨G,env,fp,oa,FC,rel,e1,fun v H1 G1 F5 F2 FJ Hz=>?_⟩
  obtain ⟨ev,hz⟩:=gP (FJ.vw Hz hl)
  subst ev
  exact ⟨rfl,G1,FC,F5,os,FL,FJ,e2,fun vs H2 G2 Gp FV FE J7=>⟨G2,Gp,FL,σ,l,ds,r,⟨FE,fun v H' G' FR st F9=>k v H' G' FR (F2.trans (FV.trans st)) F9⟩,rfl,hz,FE.vws J7 e3,e4⟩⟩
 ·cases e
end
theorem fnok_of {P:Program} {w:World} {K:W.Frag} {mg:Str->Option Value} {base:Heap} {x:Str} {st:Stmt} {N ps:List Str} {k:Nat} {g:FS} {f:Addr} {fd:FuncData} (F:Fun K x x st f fd) (sc:FnScope N ps (defScope st))
  (body:∀ (F7:Value) (A:Around) (outer:List PySem.Env) (s:Shared) (H:Hp) (E:XK),Room k (A.deeper (envOfC x (defScope st) s.heap.objs.size f F7))->K4 (md:=.plain) (xR Kv P w K mg base N x (defScope st) f F7 A outer s H E).nox (e9 st) g) :
  FnOk P w K mg base Kv (k + 1) f fd ps (spF K (fBody ps.length (N.length - ps.length) g)):=by
 refine F.ok sc (fun vs H Q E h=>?_) (fun F7 A outer s H vs Q E hr h=>?_)
 ·obtain ⟨G,ds,r,_,rs,e,_⟩:=h
  unfold fBody at e
  split at e
  ·rename_i hl
   rw [rs.length,hl]
  ·cases e
 ·obtain ⟨G,ds,r,gh,rs,e,q⟩:=h
  unfold fBody at e
  split at e
  ·rename_i hl
   refine ⟨_,body F7 A outer s H E hr,G,ds.map (fun d=>some (O.f,d))++List.replicate (N.length - ps.length) none,[],⟨?_,List.nodup_nil,(fun _ h=>nomatch h),gh⟩,?_⟩
   ·have:=k7 (K:=K) (G:=G) (H:=H) (N.length - ps.length) rs
    unfold L2.start
    rw [rs.length,hl]
    exact this
   ·obtain ⟨o,eo,e⟩:=ar e
    rw [eo]
    cases o with
    | rt r'=>
     cases e
     exact fun v H' G' FR st rel=>q v H' G' FR st rel
    | nx env'=>
     cases e
     exact fun σ' H' G' FR st rel=>q .non H' G' [] (st.trans (Step.cut fun _ h=>nomatch h)) (rel.nilF.push qg)
    | bk env'=>cases e
    | ct env'=>cases e
  ·cases e
noncomputable def xj (K:W.Frag):Sp:=fun vs H Q _=>∃ (a:Addr) (ns:List Int),vs=[.ref a]/\SqL K H a (ns.map V.int)/\ns.length<=63/\∀ H',Q (.bl true) H'
theorem B9 {K:W.Frag} {F:List D->Res R} (h:∀ ns:List Int,ns.length<=63->∃ o,F [.lst (ns.map D.int)]=.ok (o,.bl true)):∀ vs H Q E,xj K vs H Q E->spF K F vs H Q E:=by
 rintro vs H Q E ⟨a,ns,rfl,sq,hl,q⟩
 obtain ⟨o,e⟩:=h ns hl
 refine ⟨H,_,_,.refl _,?_,e,fun v H' G' FR st rel=>?_⟩
 ·refine .one ?_
  rw [Rep]
  exact ⟨a,_,rfl,sq,gr fun n _=>br n⟩
 ·rw [dC rel.top]
  exact q H'
theorem _root_.L2.Room.u65 {k:Nat} {A:Around} (r:Room k A):A.units + 65 < cLine:=by have:=r.un;lia
noncomputable def Dl (f:FX) (a:FG):FS:=fun env=>(f env).bind fun p=>(a p.1.2 p.2).bind fun e=>.ok (.nx e)
theorem Ca {X:Cx} {tg e:Expr} {f:FX} {a:FG} {pos:Pos} (he:QE X e f) (hg:QG X tg a) (hs:swapsWithSole [tg] e pos.line X.env=pure false:=by rfl) (hw:swappedStores [tg] e X.env=pure none:=by rfl)
  (h1:(assignEach [tg] X.env).map (·.2)=[assign tg X.env]:=by rfl):QS (md:=md) X (.Assign [tg] e pos) (Dl f a):=gN (Bk he hg hs hw h1) fun Dd σ H FY=>by
 obtain ⟨G,env,fp,rel,k⟩:=FY
 unfold Dl at k
 match q:f env,k with
 | .ok (r,FC),k=>
  have k:OutOk X.K G H fp Dd ((a r.2 FC).bind fun e=>.ok (.nx e)):=k
  match q2:a r.2 FC,k with
  | .ok FL,k=>
   refine ⟨G,env,fp,r,FC,rel,q,fun v H1 G1 F5 F2 FJ=>?_⟩
   obtain ⟨G2,b,rv,FE,FV⟩:=FJ.freeze
   exact ⟨G2,FC,b,r.2,FL,FE,rv,q2,fun σ' G' FR st F9=>k σ' H1 G' FR (F2.trans (FV.trans st)) F9⟩
theorem Fl {l:PySem.W.OpenLaw} {q:Program} {loose:List Str} {XP:(Str->Option Value)->Heap->Prop} {YP:World->Heap->Prop} {d:DefRec} {K:Params->W.Frag} {k:Nat} {x:Str} (hn:l.most=some 63) (Nw:d.params.defaults=[]) (hr:Room k PySem.callerA)
  (hY:∀ (w:World) (h:Heap),YP w h->(K w.params).In h)
  (F:∀ (w:World) (mg:Str->Option Value) (fa:Addr) (h:Heap),(K w.params).In h->h.Ns mainGlobals mg->mg d.name=some (.ref fa)->
   ∃ fd:FuncData,(∀ (s:Shared) (u:Value),BindsTo s fd ⟨[u],[]⟩ [(x,u)])/\∀ base:Heap,(K w.params).In base->base.Ns mainGlobals mg->FnOk l.prog w (K w.params) mg base Kv k fa fd [x] (xj (K w.params))) :
  PySem.W.WalkO q loose XP YP l.row.toRowW d [] (fun f vs=>PySem.call f vs):=
 L2.yY (n:=63) (k:=k) (x:=x) (CX:=fun _=>Kv) (sp:=fun w=>xj (K w.params)) hn (by decide) Nw hr hY F (fun _ _ a ns hl _ hS=>⟨a,ns,rfl,hS,hl,fun _=>rfl⟩) fun _ _ _ _ _ z=>z
theorem lC:bootBuiltins "max" = some (.builtin "max"):=by decide +kernel
theorem vh:bootBuiltins "min" = some (.builtin "min"):=by decide +kernel
theorem Cb:bootBuiltins "sum" = some (.builtin "sum"):=by decide +kernel
theorem Cc:bootBuiltins "all" = some (.builtin "all"):=by decide +kernel
theorem yn:bootBuiltins "any" = some (.builtin "any"):=by decide +kernel
theorem jm:bootBuiltins "sorted" = some (.builtin "sorted"):=by decide +kernel
theorem bW {K:W.Frag} {h:Heap} {mg:Str->Option Value} {x:Str} {st:Stmt} {f:Addr} {oc:Value} {od an:Option Addr} {KZ:Array (Option Value)} {kV doc pm F7 ct:Value} (X:K.In h) (G:h.Ns mainGlobals mg)
  (a:PySem.W.nsIn K mainGlobals x=some (some (.ref f))) (l:K.lookup f=some ⟨oc,od,.func (PySem.W.fnOf x x (gM st) (e9 st) (defScope st) .none kV doc pm an F7 ct),KZ⟩)
  (c:PySem.W.codeIn K F7 x=true) (k:PySem.W.keepIn K (.ref f)=true):Def K mg x st:=⟨f,_,xU l c k,PySem.W.mg_of X G a⟩
inductive tQL (K:W.Frag) (f:FI) (σ:L2.St) (H:Hp) (R:It->Hp->Prop):Prop
 | mk:∀ G env fp ds env',Rel K G H env σ fp->f env=.ok (ds,env')->(∀ J H' G' FR,Step G H fp G' H' FR->Rel K G' H' env' σ FR->(∀ G2,Same G' G2->(∀ (i:Nat) (r:PV.R) (v:V),env'[i]?=some (some r)->σ[i]?=some (some v)->Rep K G2 r.2 v)->Walk K G2 J ds)->R J H')->tQL K f σ H R
def Mx (X:Cx) (tg e:Expr) (f:FI):Prop:=PI X tg e (tQL X.K f)
theorem Walk.mono {K:W.Frag} {G G2:Hp} {J:It} {ds:List D} (w:Walk K G J ds) (gg:Same G G2):Walk K G2 J ds:=fun G' H' es vs fp g rel=>w G' H' es vs fp (gg.trans g) rel
theorem yo {K:W.Frag} {fi:FI} {ix:List (Option Nat)} {a:FG} {c:FT} {f:FX} {σ:L2.St} {H:Hp} {Q:VK} (h:tQ K (b6 fi ix a c f) σ H Q):yZ (tQL K fi) ix (tQG K a) (tQT K c) (tQ K f) σ H Q:=by
 obtain ⟨G,env,fp,r,env',rel,e,k⟩:=h
 obtain ⟨⟨ds,FC⟩,e1,e⟩:=ar e
 obtain ⟨rs,e2,e⟩:=ar e
 refine ⟨G,env,fp,ds,FC,rel,e1,fun J H1 G1 F5 F2 FJ wk D hD=>?_⟩
 dsimp only at e e2
 split at e
 ·rename_i hz
  have er:r=(.l .f,.lst rs):=by cases e;rfl
  have ee:env'=if flatDs rs then FC else FC.map frz:=by cases e;rfl
  subst er
  obtain ⟨G2,Pk,Pm,I0,hrE,KA⟩:=FJ.lend
  have wk2:=wk G2 Pk I0
  have FE:Rel K G2 H1 (fA ix FC) (mH ix σ) []:=⟨gR I0 (fun i r er=>let ⟨v,ev,_⟩:=FJ.view er;⟨v,ev⟩) ix,List.nodup_nil,(fun _ h=>nomatch h),Pm⟩
  obtain ⟨F8,Gj⟩:=FE.newL (ds:=[]) (xs:=[]) hD .nil
  refine ⟨fun i m σ1 H2=>m=ds.length - i/\i<=ds.length/\∃ G' es FR acc eL,Step G2 H1 [] G' H2 FR/\Rel K G' H2 (some (.l .f,.lst acc) :: es) (some (.ref D) :: σ1) FR/\b5 a c f (ds.drop i) es=.ok eL/\acc++eL=rs,
   ⟨_,rfl,Nat.zero_le _,G2,fA ix FC,_,[],rs,Gj,F8,e2,rfl⟩,?_⟩
  rintro i m σ1 H2 ⟨rfl,hi,G3,es,Iq,acc,eL,Hg,Gr,e4,KI⟩
  obtain ⟨w1,w2⟩:=wk2 G3 H2 _ _ _ Hg.gg Gr i
  by_cases Gn:i < ds.length
  ·have hd:ds[i]?=some ds[i]:=List.getElem?_eq_getElem Gn
   obtain ⟨go,yl⟩:=w1 _ hd
   rw [List.drop_eq_getElem_cons Gn] at e4
   unfold b5 at e4
   obtain ⟨Qd,h1,e4⟩:=ar e4
   obtain ⟨⟨b,NP⟩,h2,e4⟩:=ar e4
   dsimp only at e4
   refine .inr ⟨go,fun x H3 y=>?_⟩
   obtain ⟨G4,rx,He,Ia⟩:=yl x H3 y
   obtain ⟨fa,fb,Qe,ra,relb,bk⟩:=He.frame
   refine ⟨G4,es,fb,ds[i],Qd,relb,rx,h1,fun σ2 G5 NQ st6 rel6=>?_⟩
   refine ⟨G5,Qd,NQ,b,NP,rel6,h2,fun H6 G6 Qf st7 NR=>?_⟩
   have NS:=st6.trans st7
   cases b with
   | false=>
    refine iteF ⟨ds.length - (i + 1),by lia,rfl,Gn,?_⟩
    obtain ⟨KJ,Ll⟩:=bk G6 H6 NP σ2 Qf NS NR
    rw [<-Qe] at Ll
    exact ⟨G6,NP,_,acc,eL,Hg.trans (Ia.trans Ll),KJ,e4,KI⟩
   | true=>
    have e4:((f NP).bind fun q=>(b5 a c f (ds.drop (i + 1)) q.2).bind fun rs=>.ok (q.1.2 :: rs))=.ok eL:=e4
    obtain ⟨⟨r,Pq⟩,h3,e4⟩:=ar e4
    obtain ⟨NT,h4,e4⟩:=ar e4
    cases e4
    refine Di ⟨G6,NP,Qf,r,Pq,NR,h3,fun v H7 G7 fp7 st8 rel8=>?_⟩
    obtain ⟨G8,fp8,rv,rel9,st9⟩:=rel8.freeze
    obtain ⟨KJ,Ll⟩:=bk G8 H7 Pq σ2 fp8 (NS.trans (st8.trans st9)) rel9
    rw [<-Qe] at Ll
    obtain ⟨p,xs,ep,hp,NN,cg⟩:=KJ.chg (i:=0) (ds:=acc) (ds':=acc++[r.2]) rfl
    have ep:some (some (V.ref D))=some (some (V.ref p)):=ep
    cases ep
    obtain ⟨fq,rely,sty⟩:=cg (xs++[v]) (NN.app (.one rv))
    refine ⟨xs,hp,?_,ds.length - (i + 1),by lia,rfl,Gn,G8,Pq,fq,acc++[r.2],NT,Hg.trans (Ia.trans (Ll.trans sty)),rely,h4,?_⟩
    ·rw [NN.length]
     have:=congrArg List.length KI
     rw [List.length_append,List.length_cons] at this
     lia
    ·rw [<-KI,List.append_assoc]
     rfl
  ·have ei:i=ds.length:=by lia
   subst ei
   rw [List.drop_length] at e4
   cases e4
   rw [List.append_nil] at KI
   subst KI
   refine .inl ⟨w2 rfl,?_⟩
   obtain ⟨fa,relo,sto⟩:=Gr.only
   obtain ⟨k1,k2⟩:=KA H2 G3 fa _ _ (Hg.trans sto) relo
   rw [ee] at k
   by_cases hc:flatDs acc=true
   ·rw [if_pos hc] at k
    obtain ⟨G5,NQ,Ia,He⟩:=k1 (by rw [cu,nI];exact hc)
    exact k _ H2 G5 NQ (F2.trans Ia) He
   ·rw [if_neg hc] at k
    obtain ⟨G5,NQ,Ia,He⟩:=k2
    exact k _ H2 G5 NQ (F2.trans Ia) He
 ·cases e
section
variable {md:Mode} {X:Cx} {scope:Scope} {N:List Str} {tg iter elt:Expr} {ifs:List Expr} {pos:Pos} {fi:FI} {a:FG} {c:FT} {f:FX}
variable {l e:Expr} {g fj:FI}
theorem aT (h:QI X tg e fi):Mx X tg e fi:=j6 h fun σ H R ⟨G,env,fp,ds,env',rel,e,k⟩=>⟨G,env,fp,ds,env',rel,e,fun J H' G' FR st F9 wk=>k J H' G' FR st F9 fun _ gg _=>wk.mono gg⟩
theorem bX (h:Mx X tg e fi) (h2:Mx X tg e fj):Mx X tg e (Gm fi fj):=fun pins s σ H R I FY=>by
 obtain ⟨G,env,fp,ds,env',rel,ee,k⟩:=FY
 rcases yi ee with z | z
 ·exact h pins s σ H R I ⟨G,env,fp,ds,env',rel,z,k⟩
 ·exact h2 pins s σ H R I ⟨G,env,fp,ds,env',rel,z,k⟩
noncomputable def fQ (i:Nat):FI:=fun env=>match env[i]? with
 | some (some (_,.lst ds))=>.ok (ds,env)
 | _=>.bad
theorem dm {i:Nat} (h:PE X l (wz i)):Mx X tg l (fQ i):=j6 (tW h) fun σ H R FY=>by
 obtain ⟨G,env,fp,ds,env',rel,e,k⟩:=FY
 unfold fQ at e
 split at e
 ·rename_i o ds hr
  cases e
  obtain ⟨v,ev,rv⟩:=rel.view hr
  obtain ⟨p,xs,Qg,sq,rs⟩:=bV rv
  refine ⟨v,ev,p,Qg,⟨xs,sq⟩,k _ H G fp .refl rel fun G2 gg I0=>?_⟩
  obtain ⟨p',Hy,NU,Hc,HY⟩:=bV (I0 i _ v hr ev)
  rw [Qg] at NU
  cases NU
  exact pf Hc HY
 ·cases e
theorem aS (ix:List (Option Nat)) (N:List Str) (hc:X.calm=true) (hi:Mx X tg iter fi) (hg:∀ C s H fp pn,QG (cD X scope N C s H fp pn) tg a) (ht:∀ C s H fp pn,OB (cD X scope N C s H fp pn) ifs c) (he:∀ C s H fp pn,QE (cD X scope N C s H fp pn) elt f)
  (hf:ja scope X.env=true:=by rfl) (hk:scope.kind=.function:=by rfl) (Gu:∀ y∈scope.names,y.2≠.cell:=by decide +kernel) (Hm:∀ y∈scope.names,y.2=.local->scope.names.lookup y.1=some .local:=by decide +kernel) (Hl:xX X scope N ix=true:=by rfl)
  (hs:∀ x,foldedSetIterable iter X.env x=pure x:=by intro _;rfl):QE X (.ListComp elt [⟨tg,iter,ifs,0⟩] scope pos) (b6 fi ix a c f):=
 cv (y3 (g:=tQG X.K a) (tc:=tQT X.K c) (te:=tQ X.K f) ix N hc hi hg ht he hf hk Gu Hm Hl hs) fun _ _ _=>yo
theorem jo {i:Nat} {y:Str} {py Kx:Pos} (ix:List (Option Nat)) (N:List Str) (hN:X.N.Nodup) (O4:X.N[i]?=some y) (hy:Loc X.env.scope y) (hc:X.calm=true) (hi:Mx X tg iter fi) (hg:∀ C s H fp pn,QG (cD X scope N C s H fp pn) tg a) (ht:∀ C s H fp pn,OB (cD X scope N C s H fp pn) ifs c)
  (he:∀ C s H fp pn,QE (cD X scope N C s H fp pn) elt f) (O5:swapsWith (.ListComp elt [⟨tg,iter,ifs,0⟩] scope pos) (some (.Name y py)) Kx.line X.env=pure true:=by rfl)
  (hf:ja scope X.env=true:=by rfl) (hk:scope.kind=.function:=by rfl) (Gu:∀ y∈scope.names,y.2≠.cell:=by decide +kernel) (Hm:∀ y∈scope.names,y.2=.local->scope.names.lookup y.1=some .local:=by decide +kernel) (Hl:xX X scope N ix=true:=by rfl)
  (hs:∀ x,foldedSetIterable iter X.env x=pure x:=by intro _;rfl) (K9:X.fn y=true\/X.env.scope.names.lookup y=some .local:=by first | exact .inl rfl | exact .inr rfl) :
  QS (md:=md) X (.Assign [.Name y py] (.ListComp elt [⟨tg,iter,ifs,0⟩] scope pos) Kx) (bK i (b6 fi ix a c f)):=
 gN (y4 (i:=i) (g:=tQG X.K a) (tc:=tQT X.K c) (te:=tQ X.K f) ix N hN O4 hy hc hi hg ht he O5 hf hk Gu Hm Hl hs K9) fun D σ H ⟨G,env,fp,rel,k⟩=>yo (uS rel k)
end
section
variable {X:Cx} {a:Expr} {pos:Pos} {fa:FO}
noncomputable def Fz (fa:FO):FX:=fun env=>(fa env).bind fun p=>(Hh p.2 p.1).bind fun d=>match d with
 | .int i=>.ok ((.f,.int (-i)),p.2)
 | _=>.bad
theorem vk {i:Int} (h:i.natAbs < 2 ^ 1000):Builtin.Int.intBits i<=2 ^ 20:=by
 unfold Builtin.Int.intBits
 split
 ·exact Nat.zero_le _
 ·rename_i h0
  have h1:i.natAbs≠0:=by
   intro e
   rw [Int.natAbs_eq_zero] at e
   exact h0 (by rw [e];rfl)
  have:=(Nat.log2_lt h1).mpr h
  have e:(2:Nat) ^ 20=1048576:=by decide
  lia
theorem zO:Gx X (binaryOp .Mult) (rI (fun i j=>i.natAbs < 2 ^ 1000/\j.natAbs < 2 ^ 1000) fun i j=>.int (i * j)):=Nq fun _ _ _ _ _ _ _ hc q=>mul_int q (.of_bits (vk hc.1) (vk hc.2))
theorem pB {α:Type}:∀ (ls:List (Array α)) (acc:Array α),(ls.foldl (·++·) acc).toList=acc.toList++(ls.map Array.toList).flatten
 | [],acc=>by simp
 | a :: ls,acc=>by
  rw [List.foldl_cons,pB ls,Array.toList_append,List.map_cons,List.flatten_cons,List.append_assoc]
theorem D8 (l:List Nat) (n:Nat):(⟨(List.replicate n (S l).cps).foldl (·++·) #[]⟩:Str)=S (List.replicate n l).flatten:=by
 have h:((List.replicate n (S l).cps).foldl (·++·) #[]).toList=(List.replicate n l).flatten:=by
  rw [pB,List.map_replicate]
  simp only [fe,List.nil_append]
 show Str.mk _=Str.mk _
 rw [<-h]
theorem zP (a b:Int):D0 (.int a) (.int b)=if cI a || cI b then .ok (.f,.int (a * b)) else .bad:=rfl
noncomputable def zQ:D->D->Res R
 | .int i,.int j=>if cI i || cI j then .ok (.f,.int (i * j)) else if i.natAbs < 2 ^ 1000/\j.natAbs < 2 ^ 1000 then .ok (.f,.int (i * j)) else .bad
 | .str l,.int k=>if 2<=k/\k<=1000/\1<=l.length/\l.length<=1000 then .ok (.f,.str (List.replicate k.toNat l).flatten) else .bad
 | _,_=>.bad
theorem zR:Gx X (binaryOp .Mult) (rG X.K zQ):=by
 rintro pins s σ H x y v u Q I rx ry ⟨G,fp,es,vs,a,b,r,⟨rel,k⟩,va,vb,e⟩
 unfold zQ at e
 split at e
 ·rename_i i j
  split at e
  ·rename_i hc
   exact BR pins s σ H x y v u Q I rx ry ⟨G,fp,es,vs,.int i,.int j,r,⟨rel,k⟩,va,vb,by rw [zP,if_pos hc];exact e⟩
  ·split at e
   ·rename_i hc
    cases e
    cases bQ va
    cases bQ vb
    exact zO pins s σ H _ _ v u Q I rx ry ⟨i,j,rfl,rfl,hc,k _ H G fp .refl (rel.push (br _))⟩
   ·cases e
 ·rename_i l j
  split at e
  ·rename_i hc
   cases e
   obtain ⟨ev,hl⟩:=gP va
   subst ev
   cases bQ vb
   obtain ⟨t,rfl⟩:=rx
   obtain ⟨t',rfl⟩:=ry
   have hlen:(S l).length=l.length:=mh l
   have hz:(List.replicate j.toNat l).flatten.length<=1000000:=by
    rw [m6]
    exact Nat.mul_le_mul (by lia:j.toNat<=1000) hc.2.2.2
   have K5:(List.replicate j.toNat l).flatten.length<=sizeLine:=Nat.le_trans hz (by decide)
   refine PySem.P.mul_str ?_ ?_ ?_ ?_
   ·rw [decide_eq_false (by lia),decide_eq_false (by lia)];rfl
   ·intro _ _
    rw [hlen]
    have h1:1000<=(2 ^ 63 - 1) / j:=(Int.le_ediv_iff_mul_le (by lia)).mpr (by lia)
    lia
   ·intro _ _
    unfold Builtin.Str.tooLong
    rw [decide_eq_false_iff_not,hlen,Nat.mul_comm,<-m6]
    lia
   ·rw [if_neg (by lia),if_neg (by rw [hlen,Bool.or_eq_true,beq_iff_eq,beq_iff_eq];lia),D8]
    refine ⟨?_,?_⟩
    ·rw [mh]
     exact K5
    ·exact ⟨.str (S (List.replicate j.toNat l).flatten),H,I.tok _,⟨_,rfl⟩,k _ H G fp .refl (rel.push (iS K5))⟩
  ·cases e
 ·cases e
end
end PV
namespace HT
open PySem PySem.Spec PyProof.Rows L2
variable {prog:Program} {w:World} {A:Around} {E:Value->Shared->Prop} {s:Shared}
theorem jq {t sl:Addr} {items:Array Value} {vl vu:Value} {lo hi:Option Int} {Q:Value->Shared->Prop} (ht:IsTup s.heap t items) (hs:s.heap.IsSliceOf sl vl vu .none) (pl:IsPart vl lo) (pu:IsPart vu hi)
  (hw:sIx items.size 0 lo=0/\sIx items.size items.size hi=items.size) (h:Q (.ref t) s):wpAny (model prog w) A (getItem (.ref t) (.ref sl)) Q E s:=by
 obtain ⟨os,Mh,Ot,Mi⟩:=id hs
 have OW:s.TypeIs (.ref sl) "slice":=⟨os,Mh,Ot⟩
 unfold getItem
 try with_reducible refine wpAny_holding ?_
 first | refine wpAny_bind (wpAny_pure ?_) | skip
 refine wpAny_bind (wpAny_sequenceKey ht.typeIs (by decide) ?_)
 refine wpAny_bind (wpAny_callSpecial?_slot (name:=Str.ofString "__getitem__") ht.typeIs PyProof.Rows.slot_tuple_getitem
  (wpAny_call_entry PyProof.Rows.slot_tuple_getitem ht.typeIs entry_tuple_getitem ?_ (args_tuple_getitem _ _)))
 show wpAny _ _ (Builtin.Tuple.tupleItemsOf (.ref t) >>= _) _ _ s
 refine wpAny_bind (tupleItemsOf_ ht ?_)
 refine wpAny_bind (wpAny_typeOf OW ?_)
 rw [if_pos (by decide)]
 refine wpAny_bind (gE hs pl pu ?_)
 have hyes:(((sIx items.size 0 lo:Nat):Int) == 0 && (1:Int) == 1 && (sIx items.size items.size hi - sIx items.size 0 lo) == items.size)=true:=by
  rw [hw.1,hw.2]
  simp
 show wpAny _ _ (if (((sIx items.size 0 lo:Nat):Int) == 0 && (1:Int) == 1 && (sIx items.size items.size hi - sIx items.size 0 lo) == items.size)=true then _ else _) _ _ s
 rw [if_pos hyes]
 refine wpAny_bind (m:=Builtin.Tuple.tupleIsExact _) ?_
 unfold Builtin.Tuple.tupleIsExact
 refine wpAny_bind (wpAny_typeOf ht.typeIs (wpAny_pure ?_))
 rw [if_pos (by decide)]
 exact wpAny_bind (wpAny_rule (wpAny_pure ⟨_,rfl,wpAny_pure h⟩))
end HT
namespace PV
open PySem PySem.Spec PyProof.Rows L2 NX
section
variable {X:Cx} {pos:Pos} {fa:FO}
theorem zS:Mj X (fun x lo hi H Q=>∃ a xs,x=.ref a/\SqT X.K H a xs/\(HT.sIx xs.length 0 lo=0/\HT.sIx xs.length xs.length hi=xs.length)/\Q x H):=by
 intro pins s σ H x v vl vu lo hi sl Q I rx hs pl pu h
 obtain ⟨a,xs,rfl,hx,hw,q⟩:=h
 cases rx
 obtain ⟨FH,r,ht,hz⟩:=I.tuple hx
 have hlen:FH.toArray.size=xs.length:=by rw [List.size_toArray];exact r.length.symm
 refine ⟨"tuple",_,PyProof.Rows.slot_tuple_getitem.lookup,ht.typeIs,?_⟩
 exact HT.jq ht hs pl pu (by rw [hlen];exact hw) ⟨.ref a,H,I,rfl,q⟩
noncomputable def NV (k:D) (lo hi:Option Int):Res R:=match k with
 | .tup ds=>if HT.sIx ds.length 0 lo=0/\HT.sIx ds.length ds.length hi=ds.length then .ok (.f,.tup ds) else NM k lo hi
 | _=>NM k lo hi
noncomputable def zT (fa:FO) (lo hi:FP):FX:=fun env=>(fa env).bind fun p=>(lo p.2).bind fun q=>(hi q.2).bind fun t=>(Hh t.2 p.1).bind fun d=>(NV d q.1 t.1).bind fun r=>.ok (r,t.2)
inductive rSlW (K:W.Frag) (x:V) (lo:Option Int) (hi:Option Int) (H:Hp) (Q:VK):Prop
 | mk:∀ G fp es vs d r,Goes K H G fp es vs r Q->Vw K G H d x->NV d lo hi=.ok r->rSlW K x lo hi H Q
theorem Cd:Mj X (rSlW X.K):=by
 rintro pins s σ H x v vl vu lo hi sl Q I rx hs pl pu ⟨G,fp,es,vs,d,r,⟨rel,k⟩,vd,e⟩
 unfold NV at e
 split at e
 ·rename_i ds
  split at e
  ·rename_i hw
   cases e
   obtain ⟨p,xs,ev,sq,rs⟩:=je vd
   subst ev
   refine zS pins s σ H _ v vl vu lo hi sl Q I rx hs pl pu ⟨p,xs,rfl,cx rel.gh sq,by rw [rs.length];exact hw,?_⟩
   exact k _ H G fp .refl (rel.push vd)
  ·exact BS pins s σ H x v vl vu lo hi sl Q I rx hs pl pu ⟨G,fp,es,vs,_,r,⟨rel,k⟩,vd,e⟩
 ·exact BS pins s σ H x v vl vu lo hi sl Q I rx hs pl pu ⟨G,fp,es,vs,_,r,⟨rel,k⟩,vd,e⟩
theorem pC {e:Expr} {lo hi:Option Expr} {p2:Pos} {fl fh:FP} (he:QO X e fa) (hl:QP X lo fl) (hh:QP X hi fh):QE X (.Subscript e (.Slice lo hi none p2) pos) (zT fa fl fh):=
 cv (wK Cd he hl hh) fun σ H Q FY=>by
  obtain ⟨G,env,fp,r,env',rel,e,k⟩:=FY
  obtain ⟨⟨o,FC⟩,e1,e⟩:=ar e
  obtain ⟨⟨i,FL⟩,e2,e⟩:=ar e
  obtain ⟨⟨j,Gz⟩,e3,e⟩:=ar e
  obtain ⟨d,e4,e⟩:=ar e
  obtain ⟨r',e5,e⟩:=ar e
  cases e
  exact ⟨G,env,fp,o,FC,rel,e1,fun v H1 G1 F5 F2 FJ Hz=>⟨G1,FC,F5,i,FL,FJ,e2,fun H2 G2 Gp FV FE=>⟨G2,FL,Gp,j,Gz,FE,e3,fun H3 G3 Iq Gj F8=>
   ⟨G3,Iq,Gz,σ,d,r,⟨F8,fun v H' G' FR st F9=>k v H' G' FR (F2.trans (FV.trans (Gj.trans st))) F9⟩,F8.vw ((Hz.mono FV.gg).mono Gj.gg) e4,e5⟩⟩⟩⟩
end
end PV
namespace L2
open PySem PySem.Spec PyProof.Rows
section
variable {X:Cx} {tg:Expr}
def vm (i j c:Int):Prop:=(-1048576<=i/\i<=1048576)/\(-1048576<=j/\j<=1048576)/\(c = -1\/1<=c)/\c<=1048576
instance (i j c:Int):Decidable (vm i j c):=by unfold vm;infer_instance
end
end L2
namespace PV
open PySem PySem.Spec PyProof.Rows L2 NX
section
variable {X:Cx} {tg:Expr}
noncomputable def wt:List D->Res R
 | [d]=>match (lh d).bind c8 with
  | some (n :: ns)=>.ok (.f,.int (dR (n :: ns)))
  | _=>.bad
 | [.int i,.int j]=>.ok (.f,.int (if j < i then j else i))
 | _=>.bad
theorem vn (hc:X.calm=true):dP X (.builtin "min") (rC X.K wt):=by
 rintro pins s σ H xs us Q I rx ⟨G,fp,es,vs,ds,r,⟨rel,k⟩,vd,e⟩
 unfold wt at e
 split at e
 ·rename_i d
  split at e
  ·rename_i n ns hb
   cases e
   obtain ⟨v,ev,vt⟩:=mN vd
   obtain ⟨p,ep,sq⟩:=gS rel.gh hb vt
   subst ev
   subst ep
   exact uA hc pins s σ H _ us Q I rx ⟨p,n :: ns,rfl,sq,by simp,k _ H G fp .refl (rel.push (br _))⟩
  ·cases e
 ·rename_i i j
  cases e
  obtain ⟨v,w',ev,v1,v2⟩:=EE vd
  subst ev
  cases bQ v1
  cases bQ v2
  exact uc hc pins s σ H _ us Q I rx ⟨i,j,rfl,k _ H G fp .refl (rel.push (br _))⟩
 ·cases e
noncomputable def FA:List D->Res R
 | [.int i]=>.ok (.f,.int (if i < 0 then -i else i))
 | _=>.bad
noncomputable def D9 (fs:FOs):FI:=fun env=>(fs env).bind fun p=>(pd p.2 p.1).bind fun d=>match d with
 | [.int i,.int j,.int c]=>if vm i j c then .ok ((List.range (Builtin.Range.rangeSize i j c).toNat).map fun (k:Nat)=>D.int (i + (k:Int) * c),p.2) else .bad
 | _=>.bad
end
end PV
namespace NX
open PySem PySem.Spec PyProof.Rows L2
section
open PySem.SeqAt
open PySem.AutoSeq1 (wpAny_loadPart')
theorem lD {M:Model} {A:Around} {E:Value->Shared->Prop} {s:Shared} {β:Type} (f:Nat->β->Sem (ForInStep β)) (n:Nat) (I:Nat->β->Shared->Prop) (Q:β->Shared->Prop)
  (turn:∀ (i:Nat) (b:β) (s:Shared),i < n->I i b s->wpAny M A (f i b) (fun r s'=>match r with | .yield b'=>I (i + 1) b' s' | .done b'=>Q b' s') E s)
  (fin:∀ (b:β) (s:Shared),I n b s->Q b s) (b:β) (h:I 0 b s):wpAny M A (forIn [0:n] b f) Q E s:=by
 rw [Std.Legacy.Range.forIn_eq_forIn_range']
 refine wpAny_forIn_list f (fun eL b s=>∃ i,i<=n/\eL=List.range' i (n - i)/\I i b s) Q ?_ ?_ _ b ?_
 ·rintro x eL b s ⟨i,hi,hr,h⟩
  by_cases IW:i < n
  ·have e:n - i=(n - (i + 1)) + 1:=by lia
   rw [e,List.range'_succ] at hr
   injection hr with h1 h2
   subst h1
   refine F1 (turn x b s IW h) fun r s' Qh=>?_
   cases r with
   | yield b'=>exact ⟨x + 1,by lia,h2,Qh⟩
   | done b'=>exact Qh
  ·have e:n - i=0:=by lia
   rw [e] at hr
   cases hr
 ·rintro b s ⟨i,hi,hr,h⟩
  by_cases IW:i < n
  ·have e:n - i=(n - (i + 1)) + 1:=by lia
   rw [e,List.range'_succ] at hr
   cases hr
  ·have e:i=n:=by lia
   subst e
   exact fin b s h
 ·refine ⟨0,Nat.zero_le _,?_,h⟩
  simp [Std.Legacy.Range.size]
theorem kC (l:Addr) (items:Array Value) (n:Nat) (dd:Option Addr) (sl:Array (Option Value)) (ns:List Str) (c:Str) (t:Tok) (hi:Vals (ns.map V.str) items.toList) (i:Nat) (hx:ns[i]?=some c) (h0:∀ j,j < i->ns[j]?≠some c) :
  Meets (Builtin.«tuple.index» ⟨[.ref l,.str c t],[]⟩)
   (fun _ R s=>s.heap.get? l=some { cls:=.type "tuple",dict:=dd,data:=.seq items n,slots:=sl }/\R (.ok (.ret (.int (i:Int) s.toks))) { s with toks:=s.toks + 1 }):=
 .of_wp fun prog w A R s h=>by
  obtain ⟨hp,g,d,tk,os⟩:=s;obtain ⟨hl,h⟩:=h
  have z1:items.size=ns.length:=by have:=hi.length;simp at this;lia
  have IW:i < ns.length:=(List.getElem?_eq_some_iff.mp hx).1
  have key:∀ (j:Nat),j < ns.length->∃ (b:Str) (u:Tok),items[j]?=some (.str b u)/\ns[j]?=some b:=by
   intro j hj
   obtain ⟨v,hv,hr⟩:=hi.get (i:=j) (x:=V.str ns[j]) (by simp [hj])
   obtain ⟨u,rfl⟩:=hr
   exact ⟨ns[j],u,by rw [<-Array.getElem?_toList];exact hv,by simp [hj]⟩
  wp_walk using wpAny_loadPart' hl,lD _ _ (fun j b s'=>b.1=none/\s'=⟨hp,g,d,tk,os⟩/\j<=i) _
  case turn=>
   rintro j ⟨b1,b2⟩ s' hj ⟨hb,rfl,Qi⟩
   simp only at hb
   subst hb
   obtain ⟨b,u,e1,e2⟩:=key j (by lia)
   have he:EqAt A.in1 ⟨hp,g,d,tk,os⟩ (.str b u) (.str c t) (b == c):=EqAt.str_str b u c t
   by_cases JW:b=c
   ·have hji2:j=i:=by
     rcases Nat.lt_or_ge j i with Gn | hge
     ·exact absurd (by rw [e2,JW]) (h0 j Gn)
     ·lia
    subst hji2 JW
    rw [e1]
    refine wpAny_bind (he prog w _ _ ?_)
    rw [show (b == b)=true from beq_self_eq_true b]
    wp_walk
    exact ⟨_,rfl,h⟩
   ·rw [e1]
    refine wpAny_bind (he prog w _ _ ?_)
    rw [show (b == c)=false from beq_eq_false_iff_ne.mpr JW]
    wp_walk
    refine ⟨rfl,rfl,?_⟩
    rcases Nat.lt_or_ge j i with Gn | hge
    ·exact Gn
    ·have:j=i:=by lia
     subst this
     rw [e2] at hx
     cases hx
     exact absurd rfl JW
  case fin=>
   rintro ⟨b1,b2⟩ s' ⟨hb,rfl,Qi⟩
   rw [Nat.min_self] at Qi
   lia
  case h=>exact ⟨rfl,rfl,Nat.zero_le _⟩
end
end NX
namespace L2
open PySem PySem.Spec PyProof.Rows
section
variable {X:Cx} {o e:Expr} {es:List Expr} {to:TE} {t:TA} {name:Str} {apos F4:Pos} {id:String} {r:V->List V->Hp->VK->Prop}
noncomputable def Fm (K:W.Frag) (r:V->List V->Hp->VK->Prop) (to:TE) (t:TA):TE:=fun σ H Q=>to σ H fun x H1=>(∃ p ys,x=.ref p/\SqT K H1 p ys)/\t σ H1 fun xs H2=>r x xs H2 Q
theorem Ce (slot:Slot "tuple" name id) (Ks:typeOf (.builtin id)=pure (.type "method_descriptor")) (hm:La X id r) (ho:PE X o to) (ha:PA X (e :: es) t)
  (GU:attributeBase o name X.env (eval o X.env)=eval o X.env:=by rfl)
  (Ic:((backTo F4 (starEach (e :: es) X.env)).all (fun x=>!x.1) && (backToKw F4 (keywordEach [] X.env)).all (fun x=>x.1.isSome)
   && decide ((e :: es).length + ([]:List Keyword).length + (if ([]:List Keyword).isEmpty then 0 else 1) < 30))=true:=by rfl)
  (GV:(apos.endLine == F4.line)=true:=by rfl) (hs:starEach (e :: es) X.env=(false,eval e X.env) :: starEach es X.env:=by rfl) (Gv:(backTo F4 (starEach es X.env)).any (·.1)=false:=by rfl) :
  PE X (.Call (.Attribute o name apos) (e :: es) [] F4) (Fm X.K r to t):=by
 intro pins s σ H Q I h
 refine wpAny_Call_method_late GU Ic GV rfl (F1 (ho pins s σ H _ I h) fun v s1 F3=>?_)
 obtain ⟨x,H1,I1,r1,⟨p,ys,ex,sq⟩,q1⟩:=F3
 subst ex
 cases r1
 obtain ⟨FH,_,⟨ob,ho,hc,⟨n,hd⟩,hn⟩,_⟩:=I1.tupleN sq
 refine ⟨"tuple",id,PySem.F.plainAttrs_tuple,slot,Ks,⟨ob,ho,hc⟩,fun a e2=>?_,?_⟩
 ·cases e2
  exact ⟨ob,ho,hn⟩
 have hA:=ha F4 pins s1 σ H1 _ I1 q1
 rw [hs] at hA ⊢
 refine Calls.callWith_builtin (by show (false || (backTo F4 (starEach es X.env)).any (·.1))=false;rw [Gv] <;> rfl) (Calls.evalArgs_plain ?_)
 exact F1 hA fun us s2 ⟨vs,H2,I2,r2,q2⟩=>hm pins s2 σ H2 (.ref p) vs _ us Q I2 rfl r2 q2
end
end L2
namespace PV
open PySem PySem.Spec PyProof.Rows L2 NX
section
variable {X:Cx}
noncomputable def xl (g:List D->List D->Res R) (fa:FO) (fs:FOs):FX:=fun env=>(fa env).bind fun p=>(Hh p.2 p.1).bind fun a=>match a with
 | .tup _=>(fs p.2).bind fun q=>(Hh q.2 p.1).bind fun a2=>match a2 with
  | .tup l=>(pd q.2 q.1).bind fun ds=>(g l ds).bind fun r=>.ok (r,q.2)
  | _=>.bad
 | _=>.bad
inductive rMtT (K:W.Frag) (g:List D->List D->Res R) (x:V) (xs:List V) (H:Hp) (Q:VK):Prop
 | mk:∀ G fp es vs l ds r,Goes K H G fp es vs r Q->Vw K G H (.tup l) x->L7 K G H ds xs->g l ds=.ok r->rMtT K g x xs H Q
theorem rJ {g:List D->List D->Res R} {id:String} {name:Str} {o e:Expr} {es:List Expr} {fa:FO} {fs:FOs} {apos F4:Pos} (slot:Slot "tuple" name id) (Ks:typeOf (.builtin id)=pure (.type "method_descriptor")) (hm:La X id (rMtT X.K g)) (ho:QO X o fa) (ha:Ki X (e :: es) fs)
  (GU:attributeBase o name X.env (eval o X.env)=eval o X.env:=by rfl)
  (Ic:((backTo F4 (starEach (e :: es) X.env)).all (fun x=>!x.1) && (backToKw F4 (keywordEach [] X.env)).all (fun x=>x.1.isSome) && decide ((e :: es).length + ([]:List Keyword).length + (if ([]:List Keyword).isEmpty then 0 else 1) < 30))=true:=by rfl)
  (GV:(apos.endLine == F4.line)=true:=by rfl) (hs:starEach (e :: es) X.env=(false,eval e X.env) :: starEach es X.env:=by rfl) (Gv:(backTo F4 (starEach es X.env)).any (·.1)=false:=by rfl) :
  QE X (.Call (.Attribute o name apos) (e :: es) [] F4) (xl g fa fs):=by
 refine cv (Ce slot Ks hm ho ha GU Ic GV hs Gv) fun σ H Q F3=>?_
 obtain ⟨G,env,fp,r,env',rel,e,k⟩:=F3
 obtain ⟨⟨oa,FC⟩,e1,e⟩:=ar e
 obtain ⟨da,Li,e⟩:=ar e
 dsimp only at e
 split at e
 ·obtain ⟨⟨os,FL⟩,e2,e⟩:=ar e
  obtain ⟨d2,hd2,e⟩:=ar e
  dsimp only at e
  split at e
  ·obtain ⟨ds,e3,e⟩:=ar e
   obtain ⟨r',e4,e⟩:=ar e
   cases e
   refine ⟨G,env,fp,oa,FC,rel,e1,fun v H1 G1 F5 F2 FJ Hz=>?_⟩
   obtain ⟨p,xs,ev,sq,_⟩:=bL (Vw.rep FJ.gh (FJ.vw Hz Li))
   exact ⟨⟨p,xs,ev,sq⟩,G1,FC,F5,os,_,FJ,e2,fun vs H2 G2 Gp FV FE J7=>⟨G2,Gp,_,σ,_,ds,r,⟨FE,fun v H' G' FR st F9=>k v H' G' FR (F2.trans (FV.trans st)) F9⟩,FE.vw (Hz.mono FV.gg) hd2,FE.vws J7 e3,e4⟩⟩
  ·cases e
 ·cases e
noncomputable def mw (l:List D):List D->Res R
 | [.str c]=>match fZ l with
  | some bs=>if c∈bs then .ok (.f,.int (bs.idxOf c:Nat)) else .bad
  | none=>.bad
 | _=>.bad
noncomputable def AW (l:List D):List D->Res R
 | [.str c]=>match fZ l with
  | some bs=>.ok (.f,.int (bs.count c:Nat))
  | none=>.bad
 | _=>.bad
theorem yp {a b:List Nat} (h:S a=S b):a=b:=by
 have:=congrArg (fun s:Str=>s.cps.toList) h
 simpa only [fe] using this
theorem rK:∀ (bs:List (List Nat)) (c:List Nat) (j:Nat),bs[j]?=some c->bs.idxOf c<=j
 | [],c,j,h=>by simp at h
 | b :: bs,c,0,h=>by
  simp at h
  subst h
  simp [List.idxOf_cons]
 | b :: bs,c,j + 1,h=>by
  rw [List.getElem?_cons_succ] at h
  have:=rK bs c j h
  rw [List.idxOf_cons]
  cases b == c with
  | true=>exact Nat.zero_le _
  | false=>exact Nat.succ_le_succ this
noncomputable def Qj (c:Str):Value->Bool
 | .str b _=>b == c
 | _=>false
theorem mP (c:List Nat):∀ (bs:List (List Nat)) (FH:List Value),Vals (bs.map fun l=>V.str (S l)) FH->FH.countP (Qj (S c))=bs.count c
 | [],FH,h=>by cases h;rfl
 | b :: bs,FH,h=>by
  cases h with
  | cons r rr=>
   obtain ⟨t,rfl⟩:=r
   rw [List.countP_cons,List.count_cons,mP c bs _ rr]
   congr 1
   show (if (S b == S c)=true then 1 else 0)=_
   by_cases JW:b=c
   ·rw [JW,if_pos (beq_self_eq_true _),if_pos (beq_self_eq_true _)]
   ·rw [if_neg (by rw [beq_iff_eq];exact fun e=>JW (yp e)),if_neg (by rw [beq_iff_eq];exact JW)]
theorem ql:La X "tuple.count" (rMtT X.K AW):=by
 rintro pins s σ H x xs v us Q I rx rv ⟨G,fp,es,vs,l,ds,r,⟨rel,k⟩,vx,vd,e⟩
 unfold AW at e
 split at e
 ·rename_i c
  split at e
  ·rename_i bs hb
   cases e
   obtain ⟨p,ys,ev,sq,rs⟩:=bL (Vw.rep rel.gh vx)
   obtain ⟨hy,_⟩:=gq hb rs
   subst ev
   cases rx
   obtain ⟨w',ew,vc⟩:=mN vd
   obtain ⟨ev,_⟩:=gP vc
   subst ew
   subst ev
   obtain ⟨u,rfl,t',rfl⟩:=e8 rv
   obtain ⟨FH,vl,⟨ob,h1,h2,⟨n,h3⟩,h4⟩,_⟩:=I.tupleN sq
   subst hy
   obtain ⟨cls,dict,data,slots⟩:=ob
   dsimp only at h2 h3 h4
   subst h2 h3 h4
   refine PySem.call_meets PySem.F.slot_tuple_count ⟨_,h1,rfl⟩ PySem.F.entry_tuple_count (PySem.F.args_tuple_count_2 _ _) (PySem.SeqAt.tuple_countAt p FH.toArray n _ _ (.str (S c) t') (Qj (S c))) ⟨h1,fun y hy=>?_,⟨.int (bs.count c:Nat),H,I.tok _,⟨s.toks,?_⟩,k _ H G fp .refl (rel.push (br _))⟩⟩
   ·have hy:y∈FH:=by simpa using hy
    obtain ⟨i,hi,rfl⟩:=List.getElem_of_mem hy
    have hl:=vl.length
    rw [List.length_map] at hl
    obtain ⟨v,hv,hr⟩:=vl.get (i:=i) (x:=V.str (S bs[i])) (by rw [List.getElem?_map,List.getElem?_eq_getElem (by lia)];rfl)
    rw [List.getElem?_eq_getElem hi] at hv
    cases hv
    obtain ⟨t,e⟩:=hr
    rw [e]
    exact PySem.SeqAt.EqAt.str_str _ _ _ _
   ·rw [List.toList_toArray,mP c bs FH vl]
  ·cases e
 ·cases e
theorem iU:La X "tuple.index" (rMtT X.K mw):=by
 rintro pins s σ H x xs v us Q I rx rv ⟨G,fp,es,vs,l,ds,r,⟨rel,k⟩,vx,vd,e⟩
 unfold mw at e
 split at e
 ·rename_i c
  split at e
  ·rename_i bs hb
   split at e
   ·rename_i hc
    cases e
    obtain ⟨p,ys,ev,sq,rs⟩:=bL (Vw.rep rel.gh vx)
    obtain ⟨hy,_⟩:=gq hb rs
    subst ev
    cases rx
    obtain ⟨w',ew,vc⟩:=mN vd
    obtain ⟨ev,_⟩:=gP vc
    subst ew
    subst ev
    obtain ⟨u,rfl,t',rfl⟩:=e8 rv
    obtain ⟨FH,vl,⟨ob,h1,h2,⟨n,h3⟩,h4⟩,_⟩:=I.tupleN sq
    subst hy
    obtain ⟨cls,dict,data,slots⟩:=ob
    dsimp only at h2 h3 h4
    subst h2 h3 h4
    have Gn:=List.idxOf_lt_length_of_mem hc
    refine PySem.call_meets PySem.F.slot_tuple_index ⟨_,h1,rfl⟩ PySem.F.entry_tuple_index (PySem.F.args_tuple_index_2 _ _) (kC p FH.toArray n _ _ (bs.map S) (S c) t' (by rw [List.map_map];exact vl) (bs.idxOf c) ?_ ?_) ⟨h1,⟨.int (bs.idxOf c:Nat),H,I.tok _,⟨_,rfl⟩,k _ H G fp .refl (rel.push (br _))⟩⟩
    ·rw [List.getElem?_map,List.getElem?_eq_getElem Gn,List.getElem_idxOf Gn]
     rfl
    ·intro j hj he
     rw [List.getElem?_map,List.getElem?_eq_getElem (by lia)] at he
     have he:=yp (Option.some.inj he)
     have:=rK bs c j (by rw [List.getElem?_eq_getElem (by lia),he])
     lia
   ·cases e
  ·cases e
 ·cases e
noncomputable def cV (a b:D):Res R:=match a,b with
 | .tup [],.tup l=>.ok (.f,.tup l)
 | a,b=>addD a b
theorem aM:Gx X (binaryOp .Add) (rG X.K cV):=by
 rintro pins s σ H x y v u Q I rx ry ⟨G,fp,es,vs,a,b,r,⟨rel,k⟩,va,vb,e⟩
 unfold cV at e
 split at e
 ·rename_i l
  cases e
  obtain ⟨p,xs,e1,h1,r1⟩:=je va
  obtain ⟨p2,Nf,e2,h2,r2⟩:=je vb
  subst e1
  subst e2
  cases rx
  cases ry
  have hx:xs=[]:=List.eq_nil_of_length_eq_zero (by rw [r1.length];rfl)
  subst hx
  obtain ⟨FH,v1,⟨⟨cls,dd,data,sl⟩,ho,hc,n,hd⟩,_⟩:=I.tuple (cx rel.gh h1)
  obtain ⟨J2,v2,⟨⟨Mg,K0,data2,K1⟩,HW,Hf,n2,hd2⟩,_⟩:=I.tuple (cx rel.gh h2)
  dsimp only at hc hd Hf hd2
  subst hc hd Hf hd2
  cases v1
  exact concat_meets ⟨_,ho,rfl⟩ ⟨_,HW,rfl⟩ noFill_tuple_add seq_tuple_add PySem.F.slot_tuple_add PySem.F.entry_tuple_add (PySem.F.args_tuple_add_2 _ _) (tuple_addW0 p p2 _ _ n n2 dd K0 sl K1 rfl) ⟨ho,HW,⟨.ref p2,H,I,rfl,k _ H G fp .refl (rel.push vb)⟩⟩
 ·exact BQ pins s σ H _ _ v u Q I rx ry ⟨G,fp,es,vs,a,b,r,⟨rel,k⟩,va,vb,e⟩
noncomputable def pD (fs:FOs):FI:=Gm (sU true true fs) (Gm (sU true false fs) (Gm (sU false true fs) (sU false false fs)))
theorem lE {J8:List Expr} {kt:Nat} {pt:Pos} {e1 e2:Expr} {fs:FOs} {p pos:Pos} (hg:Gl X "zip") (hm:X.mg "zip" = none) (ha:Ki X [e1,e2] fs) (he:starEach [e1,e2] X.env=(false,eval e1 X.env) :: starEach [e2] X.env:=by rfl) (HI:(backTo pos (starEach [e2] X.env)).any (·.1)=false:=by rfl) :
  QI X (.Tuple J8 kt pt) (.Call (.Name "zip" p) [e1,e2] [] pos) (pD fs):=uX (rA true true hg hm ha he HI) (uX (rA true false hg hm ha he HI) (uX (rA false true hg hm ha he HI) (rA false false hg hm ha he HI)))
end
end PV
namespace NX
open PySem PySem.Spec PyProof.Rows L2
section
open PySem.AutoSeq1 (wpAny_loadPart')
theorem pE (l:Addr) (items:Array Value) (n:Nat) (dd:Option Addr) (sl:Array (Option Value)) (x:Int) (u:Tok) (h1:¬ (!Builtin.List.listFitsIndex x)=true) (h2:¬ items.size * x.toNat > (2 ^ 63 - 1) / 8) (h3:¬ Builtin.List.listTooLong (items.size * x.toNat)=true) (h4:(List.foldl (fun x1 x2=>x1++x2) #[] (List.replicate (if items.isEmpty=true then 0 else x.toNat) items)).size<=sizeLine) :
  Meets (Builtin.«list.__mul__» ⟨[.ref l,.int x u],[]⟩)
   (fun _ R s=>s.heap.get? l=some { cls:=.type "list",dict:=dd,data:=.seq items n,slots:=sl }/\R (.ok (.ret (.ref s.heap.objs.size))) { s with heap:=s.heap.push { cls:=.type "list",data:=.seq (List.foldl (fun x1 x2=>x1++x2) #[] (List.replicate (if items.isEmpty=true then 0 else x.toNat) items)) } }):=
 .of_wp fun prog w A R s h=>by
  obtain ⟨hp,g,d,tk,os⟩:=s;obtain ⟨hl,h⟩:=h
  wp_walk using wpAny_loadPart' hl
  rw [if_neg (by lia)]
  wp_walk
  exact ⟨_,rfl,h⟩
theorem pF (a:Int) (t:Tok) (l:Addr) (T:String) (items:Array Value) (n:Nat) (dd:Option Addr) (sl:Array (Option Value)) :
  Meets (Builtin.«int.__rmul__» ⟨[.int a t,.ref l],[]⟩)
   (fun _ R s=>s.heap.get? l=some { cls:=.type "list",dict:=dd,data:=.seq items n,slots:=sl }/\R (.ok (.ret .notImplemented)) s):=
 .of_wp fun prog w A R s h=>by
  obtain ⟨hp,g,d,tk,os⟩:=s;obtain ⟨hl,h⟩:=h
  wp_walk using wpAny_loadPart' hl
  exact ⟨_,rfl,h⟩
end
end NX
namespace PV
open PySem PySem.Spec PyProof.Rows L2 NX
section
variable {md:Mode} {X:Cx}
inductive rRepS (K:W.Frag) (x:V) (y:V) (H:Hp) (Q:VK):Prop
 | mk:∀ l k xs,x=.ref l->y=.int k->SqL K H l xs->-(2 ^ 62)<=k->k < 2 ^ 62->xs.length * k.toNat<=sizeLine->(∀ p,H p=none->Q (.ref p) (upd H p (.lst (List.replicate k.toNat xs).flatten)))->rRepS K x y H Q
theorem zU:Gx X (binaryOp .Mult) (rRepS X.K):=by
 intro pins s σ H x y v u Q I rx ry h
 obtain ⟨l,k,xs,rfl,rfl,hH,h1,h2,hz,q⟩:=h
 cases rx
 obtain ⟨t,rfl⟩:=ry
 obtain ⟨FH,r,p1,_⟩:=I.list hH
 have hl:=r.length
 obtain ⟨⟨cls,dd,data,sl⟩,ho,hc,n,hd⟩:=id p1.isList
 simp only at hc hd
 subst hc hd
 have hlen:FH.toArray.size * k.toNat<=sizeLine:=by rw [List.size_toArray,<-hl];exact hz
 have hcap:¬ FH.toArray.size * k.toNat > (2 ^ 63 - 1) / 8:=by
  have:(sizeLine:Nat)<=(2 ^ 63 - 1) / 8:=by decide
  lia
 have JC:¬ (!Builtin.List.listFitsIndex k)=true:=by
  rw [fitsIndex_both (by lia) (by lia)]
  exact Bool.false_ne_true
 have NW:¬ Builtin.List.listTooLong (FH.toArray.size * k.toNat)=true:=by
  rw [wN hlen]
  exact Bool.false_ne_true
 have Lm:List.foldl (fun x1 x2=>x1++x2) #[] (List.replicate (if FH.toArray.isEmpty=true then 0 else k.toNat) FH.toArray)=(List.replicate k.toNat FH).flatten.toArray:=by
  have f0:∀ m:Nat,List.foldl (fun x1 x2=>x1++x2) #[] (List.replicate m FH.toArray)=(List.replicate m FH).flatten.toArray:=fun m=>by
   have:=oP FH m []
   rw [List.nil_append] at this
   exact this
  rw [f0]
  cases FH with
  | nil=>simp
  | cons a r'=>rw [if_neg (by simp)]
 have hsz:(List.foldl (fun x1 x2=>x1++x2) #[] (List.replicate (if FH.toArray.isEmpty=true then 0 else k.toNat) FH.toArray)).size<=sizeLine:=by
  rw [Lm,List.size_toArray,m6,Nat.mul_comm]
  rw [List.size_toArray] at hlen
  exact hlen
 refine wpAny_binaryOp_repeat_ref (T:="list") (U:="int") (by decide) ⟨_,ho,rfl⟩ (fun s'=>typeIs_int s' k t) noFill_list_mul F.fills_int_mul F.slot_int_rmul repeat_list F.slot_int_index.lookup
  (call_meets F.slot_int_rmul (typeIs_int s k t) F.entry_int_rmul (F.args_int_rmul_2 _ _) (pF k t l "" FH.toArray n dd sl)
   ⟨ho,rfl,⟨_,ho,rfl⟩,call_meets F.slot_list_mul ⟨_,ho,rfl⟩ F.entry_list_mul (F.args_list_mul_2 _ _) (pE l FH.toArray n dd sl k t JC hcap NW hsz) ⟨ho,?_⟩⟩)
 rw [Lm]
 exact ⟨.ref _,_,I.lnew (t':=s.toks) (r.rep k.toNat) (by rw [m6,Nat.mul_comm];exact hz),rfl,q _ I.fresh⟩
theorem rL {K:W.Frag} {G:Hp} {ds:List D} {xs:List V} (r:Reps K G ds xs):∀ n:Nat,Reps K G (List.replicate n ds).flatten (List.replicate n xs).flatten
 | 0=>.nil
 | n + 1=>by
  rw [List.replicate_succ,List.replicate_succ,List.flatten_cons,List.flatten_cons]
  exact r.app (rL r n)
noncomputable def jR (a b:D):Res R:=match a,b with
 | .lst ds,.int k=>if 0<=k/\k < 1000000/\ds.length * k.toNat<=sizeLine then .ok (.l .f,.lst (List.replicate k.toNat ds).flatten) else .bad
 | a,b=>zQ a b
theorem eG:Gx X (binaryOp .Mult) (rG X.K jR):=by
 rintro pins s σ H x y v u Q I rx ry ⟨G,fp,es,vs,a,b,r,⟨rel,k⟩,va,vb,e⟩
 unfold jR at e
 split at e
 ·rename_i ds j
  split at e
  ·rename_i hj
   cases e
   obtain ⟨p,xs,e1,h1,r1⟩:=va
   subst e1
   cases bQ vb
   refine zU pins s σ H _ _ v u Q I rx ry ⟨p,j,xs,rfl,rfl,h1,by lia,by lia,by rw [r1.length];exact hj.2.2,fun q hq=>?_⟩
   obtain ⟨FE,FV⟩:=rel.newL hq (rL r1 j.toNat)
   exact k _ _ G _ FV FE
  ·cases e
 ·exact zR pins s σ H _ _ v u Q I rx ry ⟨G,fp,es,vs,a,b,r,⟨rel,k⟩,va,vb,e⟩
noncomputable def Ea (td ty tv:TE):TS:=fun Dd σ H=>tv σ H fun v H1=>td σ H1 fun x H2=>ty σ H2 fun y H3=>Bz x y v H3 fun H4=>Dd.nx σ H4
theorem zV {o i value:Expr} {td ty tv:TE} {pos pos':Pos} (ho:PE X o td) (hi:PE X i ty) (hv:PE X value tv) (hs:swapsWith value (some (.Subscript o i pos')) pos.line X.env=pure false) :
  PS X (.Assign [.Subscript o i pos'] value pos) (Ea td ty tv):=by
 intro pins s σ H Dd I h
 refine wpAny_Assign_Subscript (F1 (hv pins s σ H _ I h) fun r s1 ⟨v,H1,I1,rv,q1⟩=>F1 (ho pins s1 σ H1 _ I1 q1) fun u s2 ⟨x,H2,I2,rx,q2⟩=>F1 (hi pins s2 σ H2 _ I2 q2) fun iv s3 ⟨y,H3,I3,ry,q3⟩=>?_) hs
 exact F1 (wL pins s3 σ H3 x y v u iv r _ I3 rx ry rv q3) fun _ s4 ⟨H4,I4,q4⟩=>⟨σ,H4,I4,q4⟩
noncomputable def vo (i:Nat) (fk fv:FX):FS:=fun env=>(fv env).bind fun p=>(fk p.2).bind fun q=>match p.2[i]?,q.2[i]? with
 | some (some _),some (some (.l .f,.lst ds))=>(match q.1.2 with
  | .int k=>(match ixN ds.length k with
   | some j=>.ok (.nx (q.2.set i (some (.l .f,.lst (ds.set j p.1.2)))))
   | none=>.bad)
  | _=>.bad)
 | _,_=>.bad
theorem vp {i:Nat} {o ix value:Expr} {fk fv:FX} {pos pos':Pos} (ho:PE X o (wz i)) (hi:QE X ix fk) (hv:QE X value fv) (hs:swapsWith value (some (.Subscript o ix pos')) pos.line X.env=pure false:=by rfl) :
  QS (md:=md) X (.Assign [.Subscript o ix pos'] value pos) (vo i fk fv):=gN (zV ho hi hv hs) fun Dd σ H FY=>by
 obtain ⟨G,env,fp,rel,k⟩:=FY
 unfold vo at k
 match q1:fv env,k with
 | .ok (r1,FC),k=>
  have k:OutOk X.K G H fp Dd ((fk FC).bind fun q=>match FC[i]?,q.2[i]? with
   | some (some _),some (some (.l .f,.lst ds))=>(match q.1.2 with
    | .int k=>(match ixN ds.length k with
     | some j=>.ok (.nx (q.2.set i (some (.l .f,.lst (ds.set j r1.2)))))
     | none=>.bad)
    | _=>.bad)
   | _,_=>.bad):=k
  match q2:fk FC,k with
  | .ok (r2,FL),k=>
   have k:OutOk X.K G H fp Dd (match FC[i]?,FL[i]? with
    | some (some _),some (some (.l .f,.lst ds))=>(match r2.2 with
     | .int k=>(match ixN ds.length k with
      | some j=>.ok (.nx (FL.set i (some (.l .f,.lst (ds.set j r1.2)))))
      | none=>.bad)
     | _=>.bad)
    | _,_=>.bad):=k
   split at k
   ·rename_i rr ds h1 h2
    split at k
    ·rename_i kk L6
     split at k
     ·rename_i j hj
      refine ⟨G,env,fp,r1,FC,rel,q1,fun y H1 G1 F5 F2 FJ=>?_⟩
      obtain ⟨G2,b,ry,FE,FV⟩:=FJ.freeze
      obtain ⟨v0,NO,_⟩:=FE.view h1
      refine ⟨v0,NO,G2,FC,b,r2,FL,FE,q2,fun z H3 G3 Iq Gj F8=>?_⟩
      obtain ⟨G4,b4,rz,Gr,Hg⟩:=F8.freeze
      have OD:Rep X.K G4 r1.2 y:=Rep.mono (Gj.gg.trans Hg.gg) ry
      obtain ⟨p,xs,ep,hp,rs,cg⟩:=Gr.chg (ds':=ds.set j r1.2) h2
      rw [NO] at ep
      cases ep
      rw [L6] at rz
      have hz:=bU rz
      obtain ⟨fq,He,Ia⟩:=cg _ (rs.set j OD)
      exact ⟨p,xs,kk,j,rfl,hz,hp,by rw [rs.length];exact hj,k _ _ G4 fq (F2.trans (FV.trans (Gj.trans (Hg.trans Ia)))) He⟩
     ·exact k.elim
    ·exact k.elim
   ·exact k.elim
end
section
variable {X:Cx}
theorem Rel.own {K:W.Frag} {G H:Hp} {es:PV.Env} {vs:L2.St} {fp:List Addr} {p:Addr} {u:HO} {tk:Bool} {ks ws:List D} {xs:List V} (q:Rel K G H es vs fp) (np:p∉fp) (gp:G p=none) (h:DictO u tk ks xs) (rs:Reps K G ws xs) :
  Rel K G (upd H p u) (some (.d,.dct tk ks ws) :: es) (some (.ref p) :: vs) (p :: fp):=by
 refine ⟨⟨some (.ref p),vs,rfl,.ref p,[p],fp,rfl,rfl,?_,q.rep.step (.refl _) fun z hz=>aU fun e=>np (e▸hz)⟩,List.nodup_cons.mpr ⟨np,q.nd⟩,fun z hz=>?_,fun b o e=>?_⟩
 ·rw [RepO]
  exact ⟨p,xs,u,rfl,bZ,h,rfl,rs⟩
 ·rcases List.mem_cons.mp hz with rfl | hz
  ·exact gp
  ·exact q.gn z hz
 ·rw [aU fun z=>by subst z;rw [gp] at e;cases e]
  exact q.gh b o e
theorem Rel.aside {K:W.Frag} {G H:Hp} {es:PV.Env} {vs:L2.St} {fp:List Addr} {p:Addr} {u:HO} (q:Rel K G H es vs fp) (hp:H p=none):Rel K G (upd H p u) es vs fp:=by
 have np:p∉fp:=fun z=>by
  obtain ⟨u,e⟩:=q.rep.live p z
  rw [hp] at e;cases e
 exact ⟨q.rep.step (.refl _) fun z hz=>aU fun e=>np (e▸hz),q.nd,q.gn,fun b o e=>by rw [aU (bA (q.gh b o e) hp)];exact q.gh b o e⟩
theorem Step.aside {K:W.Frag} {G H G2 H2:Hp} {es:PV.Env} {vs:L2.St} {fp Gp:List Addr} {p:Addr} {u u2:HO} (q:Rel K G H es vs fp) (hp:H p=none) (hu:isT u=false) (st:Step G (upd H p u) fp G2 H2 Gp) :
  Step G H fp G2 (upd H2 p u2) (p :: Gp)/\p∉Gp/\G2 p=none/\H2 p=some u:=by
 have np:p∉fp:=fun z=>by
  obtain ⟨u,e⟩:=q.rep.live p z
  rw [hp] at e;cases e
 have ne:∀ {b o},H b=some o->b≠p:=fun e=>bA e hp
 refine ⟨⟨st.gg,fun b o e nb=>?_,fun b hb=>?_,fun b o e=>?_,fun b o e=>?_⟩,fun z=>?_,?_,st.keep p u bZ np⟩
 ·rw [aU (ne e)]
  exact st.keep b o (by rw [aU (ne e)];exact e) nb
 ·rcases List.mem_cons.mp hb with rfl | hb
  ·exact .inr hp
  ·rcases st.fpn b hb with h | h
   ·exact .inl h
   ·by_cases e:b=p
    ·subst e;exact .inr hp
    ·rw [aU e] at h;exact .inr h
 ·rcases st.gnew b o e with h | h | h | ⟨h1,h2⟩
  ·exact .inl h
  ·exact .inr (.inl h)
  ·by_cases e:b=p
   ·subst e;exact .inr (.inr (.inl hp))
   ·rw [aU e] at h;exact .inr (.inr (.inl h))
  ·by_cases e:b=p
   ·subst e;exact .inr (.inr (.inl hp))
   ·rw [aU e] at h2;exact .inr (.inr (.inr ⟨h1,h2⟩))
 ·obtain ⟨o',h⟩:=st.there b o (by rw [aU (ne e)];exact e)
  exact ⟨o',by rw [aU (ne e)];exact h⟩
 ·rcases st.fpn p z with h | h
  ·exact np h
  ·rw [bZ] at h;cases h
 ·cases e:G2 p with
  | none=>rfl
  | some o=>
   rcases st.gnew p o e with h | h | h | ⟨h1,h2⟩
   ·have:=q.gh p o h
    rw [hp] at this;cases this
   ·exact absurd h np
   ·rw [bZ] at h;cases h
   ·rw [bZ] at h2
    cases h2
    rw [hu] at h1;cases h1
noncomputable def rM (fk fv:FX):FX:=fun env=>(fk env).bind fun p=>(fv p.2).bind fun q=>if fC false p.1.2 then .ok ((.d,.dct false [p.1.2] [q.1.2]),q.2) else .bad
theorem rN {k v:Expr} {fk fv:FX} {pos:Pos} (hk:QE X k fk) (hv:QE X v fv):QE X (.Dict [some k] [v] pos) (rM fk fv):=
 cv (zj (w4 hk hv zi) rfl rfl (List.cons_ne_nil _ _) (show 1<=15 by decide)) fun σ H Q FY p hp=>by
  obtain ⟨G,env,fp,r,env',rel,e,kk⟩:=FY
  obtain ⟨⟨r1,FC⟩,e1,e⟩:=ar e
  obtain ⟨⟨r2,FL⟩,e2,e⟩:=ar e
  dsimp only at e
  split at e
  ·rename_i HK
   cases e
   refine ⟨G,env,fp,r1,FC,rel.aside hp,e1,fun x H1 G1 F5 F2 FJ=>?_⟩
   obtain ⟨G2,b,rx,FE,FV⟩:=FJ.freeze
   refine ⟨G2,FC,b,r2,_,FE,e2,fun y H3 G3 Iq Gj F8=>?_⟩
   obtain ⟨G4,b4,ry,Gr,Hg⟩:=F8.freeze
   have Qk:Rep X.K G4 r1.2 x:=Rep.mono (Gj.gg.trans Hg.gg) rx
   unfold fC at HK
   rw [if_neg Bool.false_ne_true,Option.isSome_iff_exists] at HK
   obtain ⟨kd,Nz⟩:=HK
   obtain ⟨ex,dx⟩:=iA Nz Qk
   obtain ⟨st,np,gp,Ms⟩:=Step.aside (u2:=.dK [(kd,y)]) rel hp rfl (F2.trans (FV.trans (Gj.trans Hg)))
   refine ⟨Ms,[(kd,y)],by rw [ex];rfl,(show 1<=15 by decide),?_⟩
   exact kk _ _ G4 _ st (Gr.own np gp ⟨[(kd,y)],rfl,by rw [dx];rfl,rfl,fun kv IZ=>by rw [List.mem_singleton.mp IZ];exact vf Nz Qk⟩ (.one ry))
  ·cases e
noncomputable def getD (ks vs:List D) (k:D):Option D:=((ks.zip vs).find? fun p=>eqD k p.1).map (·.2)
theorem lF {κ:Type} [DecidableEq κ] {K:W.Frag} {G:Hp} (f:κ->D) (hf:∀ a b,eqD (f a) (f b)=decide (a=b)) {k:κ}:∀ {FF:List (κ×V)} {vs:List D},Reps K G vs (FF.map (·.2))->((getD (FF.map fun kv=>f kv.1) vs (f k)).isSome=(o6 FF k).isSome)/\∀ d,getD (FF.map fun kv=>f kv.1) vs (f k)=some d->∃ v,o6 FF k=some v/\Rep K G d v
 | [],vs,r=>⟨rfl,fun d h=>nomatch h⟩
 | kv :: FF,vs,r=>by
  cases vs with
  | nil=>have:=r.length;simp at this
  | cons d0 vs=>
   rw [List.map_cons,Reps.cons_iff] at r
   obtain ⟨h1,h2⟩:=lF f hf (k:=k) r.2
   unfold getD o6 at h1 h2 ⊢
   rw [List.map_cons,List.zip_cons_cons]
   have e:eqD (f k) (f kv.1)=decide (kv.1=k):=by
    rw [hf,Bool.eq_iff_iff,decide_eq_true_eq,decide_eq_true_eq]
    exact ⟨fun z=>z.symm,fun z=>z.symm⟩
   by_cases hk:kv.1=k
   ·rw [List.find?_cons_of_pos (by show eqD (f k) (f kv.1)=true;rw [e];exact decide_eq_true hk),List.find?_cons_of_pos (by exact decide_eq_true hk)]
    refine ⟨rfl,fun d h=>?_⟩
    cases h
    exact ⟨_,rfl,r.1⟩
   ·rw [List.find?_cons_of_neg (by show ¬ eqD (f k) (f kv.1)=true;rw [e];simpa using hk),List.find?_cons_of_neg (by simpa using hk)]
    exact ⟨h1,h2⟩
theorem qm {K:W.Frag} {G H:Hp} (gh:Same G H) {tk:Bool} {ks vs:List D} {xs:List V} {o:HO} {p:Addr} {b:D} {y:V} (rd:Rd H p o) (dd:DictO o tk ks xs) (rs:Reps K G vs xs) (hk:fC tk b=true) (ry:Rep K G b y) :
  ∃ ov,DGet H p y ov/\(getD ks vs b).isSome=ov.isSome/\∀ d,getD ks vs b=some d->∃ v,ov=some v/\Rep K G d v:=by
 unfold fC at hk
 cases tk with
 | true=>
  rw [if_pos rfl,Option.isSome_iff_exists] at hk
  obtain ⟨kk,hk⟩:=hk
  obtain ⟨pz,ez,gz,dz⟩:=fB hk ry
  obtain ⟨FF,eo,ek,ex,_⟩:=dd
  subst eo ex ez dz
  have ek:ks=FF.map fun kv=>kT kv.1:=ek
  obtain ⟨h1,h2⟩:=lF (K:=K) (G:=G) kT yj (k:=kk) rs
  rw [<-ek] at h1 h2
  exact ⟨o6 FF kk,.inr ⟨FF,kk,pz,rd,rfl,gh _ _ gz,rfl⟩,h1,h2⟩
 | false=>
  rw [if_neg Bool.false_ne_true,Option.isSome_iff_exists] at hk
  obtain ⟨kk,hk⟩:=hk
  obtain ⟨ez,dz⟩:=iA hk ry
  obtain ⟨FF,eo,ek,ex,_⟩:=dd
  subst eo ex ez dz
  obtain ⟨h1,h2⟩:=lF (K:=K) (G:=G) kD u9 (k:=kk) rs
  rw [<-ek] at h1 h2
  exact ⟨o6 FF kk,.inl ⟨FF,kk,rd,rfl,rfl⟩,h1,h2⟩
noncomputable def Jc (a b:D):Res R:=match a with
 | .dct tk ks vs=>if fC tk b then (match getD ks vs b with
  | some d=>.ok (.f,d)
  | none=>.bad) else .bad
 | _=>.bad
theorem sX {a b:Expr} {fa fb:FO} {pos:Pos} (hu:X.A.units + 1 < cLine) (ha:QO X a fa) (hb:QO X b fb) (hs:NoSl b:=by exact fun _ _=>rfl):QE X (.Subscript a b pos) (aD Jc fa fb):=
 cv (zg hu ha hb hs) fun σ H Q h=>by
  obtain ⟨G,env,fp,r,env',rel,e,k⟩:=h
  obtain ⟨⟨oa,e1⟩,ha,e⟩:=ar e
  obtain ⟨⟨ob,e2⟩,hb,e⟩:=ar e
  obtain ⟨da,Li,e⟩:=ar e
  obtain ⟨db,IJ,e⟩:=ar e
  obtain ⟨r',hr,e⟩:=ar e
  cases e
  refine ⟨G,env,fp,oa,e1,rel,ha,fun x H1 G1 F5 F2 FJ Hz=>⟨G1,e1,F5,ob,e2,FJ,hb,fun y H2 G2 Gp FV FE J7=>?_⟩⟩
  have va:=FE.vw (Hz.mono FV.gg) Li
  have vb:=FE.vw J7 IJ
  unfold Jc at hr
  split at hr
  ·rename_i tk ks vs
   split at hr
   ·rename_i HK
    split at hr
    ·rename_i d hd
     cases hr
     obtain ⟨p,xs,o,ev,rd,dd,rs⟩:=va
     subst ev
     have vb':Rep X.K G2 db y:=by
      cases db with
      | lst l=>cases tk <;> simp [fC,gm,lr] at HK
      | dct _ _ _=>cases tk <;> simp [fC,gm,lr] at HK
      | _=>exact vb
     obtain ⟨ov,g,_,h2⟩:=qm FE.gh rd dd rs HK vb'
     obtain ⟨v,ho,rv⟩:=h2 d hd
     subst ho
     exact ⟨p,v,rfl,g,k _ H2 G2 Gp (F2.trans FV) (FE.push rv)⟩
    ·cases hr
   ·cases hr
  ·cases hr
noncomputable def Ln (a b:D):Res R:=match b with
 | .dct tk ks vs=>if fC tk a then .ok (.f,.bl (getD ks vs a).isSome) else .bad
 | _=>Kj a b
noncomputable def qo (a b:D):Res R:=match b with
 | .dct tk ks vs=>if fC tk a then .ok (.f,.bl (!(getD ks vs a).isSome)) else .bad
 | _=>tN a b
theorem rO (hu:X.A.units + 65 < cLine):Gx X (compareOp .In) (rGA X.K Ln):=by
 rintro pins s σ H x y v u Q I rx ry ⟨G,fp,es,vs,a,b,r,⟨rel,k⟩,va,vb,e⟩
 unfold Ln at e
 split at e
 ·rename_i tk ks ws
  split at e
  ·rename_i HK
   cases e
   obtain ⟨p,xs,o,ev,rd,dd,rs⟩:=vb
   subst ev
   cases ry
   obtain ⟨ov,g,h1,_⟩:=qm (K:=X.K) (G:=H) (fun _ _ z=>z) rd dd rs HK va
   exact Fg (by lia) I g rx fun s' I'=>⟨.bl ov.isSome,H,I',rfl,by rw [<-h1];exact k _ H G fp .refl (rel.push (dO _))⟩
  ·cases e
 ·exact D6 hu pins s σ H x y v u Q I rx ry ⟨G,fp,es,vs,a,b,r,⟨rel,k⟩,va,vb,e⟩
theorem gT (hu:X.A.units + 65 < cLine):Gx X (compareOp .NotIn) (rGA X.K qo):=by
 rintro pins s σ H x y v u Q I rx ry ⟨G,fp,es,vs,a,b,r,⟨rel,k⟩,va,vb,e⟩
 unfold qo at e
 split at e
 ·rename_i tk ks ws
  split at e
  ·rename_i HK
   cases e
   obtain ⟨p,xs,o,ev,rd,dd,rs⟩:=vb
   subst ev
   cases ry
   obtain ⟨ov,g,h1,_⟩:=qm (K:=X.K) (G:=H) (fun _ _ z=>z) rd dd rs HK va
   exact ze (by lia) I g rx fun s' I'=>⟨.bl (!ov.isSome),H,I',rfl,by rw [<-h1];exact k _ H G fp .refl (rel.push (dO _))⟩
  ·cases e
 ·exact B3 hu pins s σ H x y v u Q I rx ry ⟨G,fp,es,vs,a,b,r,⟨rel,k⟩,va,vb,e⟩
end
section
variable {K:W.Frag} {G G' H H':Hp} {es:PV.Env} {vs:L2.St} {fp:List Addr}
end
section
variable {X:Cx}
noncomputable def Cf:O->O->Bool
 | .l .f,.l .f=>true
 | .l .f,.pin _ (.l .f)=>true
 | .d,.d=>true
 | .d,.pin _ .d=>true
 | _,_=>false
open Classical in
noncomputable def Cg (F:Addr->List D->Res R) (c:O) (d0:D) (ds:List D):Res (R×D):=
 if h:∃ x:R×D,∀ p,F p (d0 :: ds)=.ok (.t [x.1.1,.pin p c],.tup [x.1.2,x.2]) then .ok (Classical.choose h) else .bad
end
section
variable {X:Cx} {x:Str} {p pos:Pos} {e:Expr} {es:List Expr} {fs:FOs}
end
section
variable {K:W.Frag} {G G' H H':Hp}
end
section
variable {X:Cx} {md:Mode}
end
end PV
namespace NX
open PySem PySem.Spec PyProof.Rows L2
end NX
namespace PV
open PySem PySem.Spec PyProof.Rows L2 NX
section
variable {X:Cx}
end
end PV
namespace NX
open PySem PySem.Spec PyProof.Rows L2
section
variable {prog:Program} {w:World} {A:Around} {E:Value->Shared->Prop} {s:Shared}
end
section
variable {prog:Program} {w:World} {A:Around} {E:Value->Shared->Prop} {s:Shared}
end
section
variable {X:Cx} {e:Expr} {ta:TA} {p p2 pos pos2:Pos}
end
end NX
namespace PV
open PySem PySem.Spec PyProof.Rows L2 NX
section
variable {X:Cx} {e:Expr} {fs:FOs} {p p2 pos pos2:Pos}
end
end PV
namespace NX
open PySem PySem.Spec PyProof.Rows L2
section
open PySem.AutoSeq1 (wpAny_loadPart')
end
end NX
namespace PV
open PySem PySem.Spec PyProof.Rows L2 NX
section
variable {X:Cx}
end
section
variable {md:Mode} {X:Cx} {scope:Scope} {N:List Str} {tg iter elt:Expr} {ifs:List Expr} {pos:Pos} {fi:FI} {a:FG} {c:FT} {f:FX} {j k0:Nat}
end
section
variable {X:Cx} {x:Str} {p pos:Pos} {e:Expr} {es:List Expr} {f0:FX} {fs:FOs}
end
noncomputable def joinL (sep:List Nat):List (List Nat)->List Nat
 | []=>[]
 | [x]=>x
 | x :: y :: r=>x++sep++joinL sep (y :: r)
noncomputable def vq (sep:List Nat):List D->Res R
 | [.lst ds]=>match fZ ds with
  | some ys=>if (ys.map List.length).sum + ys.length * sep.length<=16777216 then .ok (.f,.str (joinL sep ys)) else .bad
  | none=>.bad
 | _=>.bad
theorem vy (sep:List Nat):∀ ys:List (List Nat),Str.join (S sep) (ys.map S)=S (joinL sep ys)
 | []=>rfl
 | [x]=>rfl
 | x :: y :: r=>by
  have ih:=vy sep (y :: r)
  show S x++S sep++Str.join (S sep) ((y :: r).map S)=S (x++sep++joinL sep (y :: r))
  rw [ih]
  apply Str.ext'
  simp [Str.cps_append]
theorem Ci (sep:List Nat):∀ ys:List (List Nat),Txt.join (S sep) (ys.map S)=S (joinL sep ys)
 | ys=>by
  show Builtin.Str.glued (S sep) (ys.map S)=_
  rw [StrLaws.glued_eq_join]
  exact vy sep ys
theorem pG (sep:List Nat):∀ ys:List (List Nat),(joinL sep ys).length<=(ys.map List.length).sum + ys.length * sep.length
 | []=>Nat.zero_le _
 | [x]=>by
  show x.length<=_
  rw [List.map_cons,List.sum_cons]
  lia
 | x :: y :: r=>by
  have ih:=pG sep (y :: r)
  show (x++sep++joinL sep (y :: r)).length<=_
  rw [List.length_append,List.length_append,List.map_cons,List.sum_cons,List.length_cons,Nat.add_mul]
  lia
theorem pH {K:W.Frag} {G:Hp}:∀ {ds:List D} {ys:List (List Nat)} {xs:List V} {us:List Value},fZ ds=some ys->Reps K G ds xs->Vals xs us->StrsAre us (ys.map S)
 | [],ys,xs,us,e,r,v=>by
  cases e
  rw [Reps] at r
  subst r
  cases v
  exact .nil
 | .str b :: ds,ys,xs,us,e,r,v=>by
  rw [Reps] at r
  obtain ⟨y,zs,ex,r1,r2⟩:=r
  subst ex
  cases v with
  | cons h t=>
   rw [fZ,Option.map_eq_some_iff] at e
   obtain ⟨ws,hw,rfl⟩:=e
   rw [Rep] at r1
   obtain ⟨r1,_⟩:=r1
   subst r1
   obtain ⟨tk,rfl⟩:=h
   exact .cons _ tk (pH hw r2 t)
 | .non :: _,_,_,_,e,_,_ | .bl _ :: _,_,_,_,e,_,_ | .int _ :: _,_,_,_,e,_,_ | .tup _ :: _,_,_,_,e,_,_ | .lst _ :: _,_,_,_,e,_,_ | .dct _ _ _ :: _,_,_,_,e,_,_=>by cases e
section
variable {X:Cx}
theorem zW:La X "str.join" (rMtS X.K vq):=by
 rintro pins s σ H x xs v us Q I rx rv ⟨G,fp,es,vs,l,ds,r,⟨rel,k⟩,ex,hz,vd,e⟩
 unfold vq at e
 split at e
 ·rename_i ds
  split at e
  ·rename_i ys O0
   split at e
   ·rename_i hb
    cases e
    subst ex
    obtain ⟨w',ew,p,zs,ep,sq,rs⟩:=mN vd
    subst ew ep
    obtain ⟨t,rfl⟩:=rx
    obtain ⟨u,rfl,ru⟩:=e8 rv
    cases ru
    obtain ⟨FH,r',pl,K5⟩:=I.list sq
    refine join_list pl.isList (ys:=ys.map S) (pH O0 rs r') ?_ fun t' kk=>?_
    ·rw [List.map_map,List.length_map]
     have e1:((fun x:Str=>x.length)∘S)=List.length:=by funext z;exact mh z
     rw [e1,mh]
     exact hb
    ·rw [Ci]
     refine ⟨.str (S (joinL l ys)),H,I.tok _,⟨_,rfl⟩,k _ H G fp .refl (rel.push ?_)⟩
     rw [Rep]
     have:=pG l ys
     exact ⟨rfl,by rw [line_eq];lia⟩
   ·cases e
  ·cases e
 ·cases e
end
end PV
namespace NX
open PySem PySem.Spec PyProof.Rows L2
section
variable {prog:Program} {w:World} {A:Around} {R:Result->Shared->Prop} {it:Addr} {fp wr:List Addr} {n:Nat} {Pv:Nat->Value->Prop} {Sx:Nat->Heap->Prop} {kw:List (Str×Value)}
theorem nQ:(toString "min"++toString ".loop" : String) = "min.loop":=by decide
theorem Eb (Wk:Walks prog w A.in1 it fp wr n Pv Sx) (bt:Nat->Nat->Bool) (cm:CmpOf prog w A.in1 .Lt Pv bt) (T:Addr) (nT:T∉fp):∀ (k j:Nat) (s:Shared) (vb:Value) (c:Nat),n - (j + 1)=k->j + 1<=n->Sx (j + 1) s.heap->Pv (argBest bt j) vb->
   s.heap.get? T=some { cls:=.type "list",dict:=none,data:=.seq #[vb,vb] c,slots:=#[] }->
   (∀ v h' tk,Pv (argBest bt (n - 1)) v->(∀ b o,b∉wr->b≠T->s.heap.get? b=some o->h'.get? b=some o)->R (.ok (.ret v)) { s with heap:=h',toks:=tk })->codeAny (model prog w) A (.builtin "min.loop" ⟨[.ref it,.none,.ref T],kw⟩) R s:=by
 have Lf:T∉wr:=fun z=>nT (Wk.sub _ z)
 intro k
 induction k with
 | zero=>
  intro j s vb c hk hj st hp hT fin
  have ej:j + 1=n:=by lia
  refine codeAny_builtin F.entry_min_loop ?_
  rw [Around.under_plainId F.plain_min_loop _]
  show wpAny _ A.in1 (seqItems? (.ref T) >>= _) _ _ s
  refine wpAny_bind (wpAny_seqItems hT rfl ?_)
  show wpAny _ A.in1 (tryCatch (pyNext (.ref it)) _ >>= _) _ _ s
  refine wpAny_bind (wpAny_tryCatch (Wk.done s _ _ (ej▸st) fun h' tk kk=>?_))
  have IX:=kk T _ Lf hT
  show wpAny _ A.in1 (updateSeq T (fun _=>#[]) >>= _) _ _ _
  refine wpAny_bind (wpAny_updateSeq IX rfl (wpAny_bind (wpAny_letGo (wpAny_pure ?_))))
  exact fin vb _ tk (by rw [<-ej];exact hp) fun b o bw bT e=>(Heap.get?_update_other _ _ (Ne.symm bT)).trans (kk b o bw e)
 | succ k ih=>
  intro j s vb c hk hj st hp hT fin
  have jn:j + 1 < n:=by lia
  refine codeAny_builtin F.entry_min_loop ?_
  rw [Around.under_plainId F.plain_min_loop _]
  show wpAny _ A.in1 (seqItems? (.ref T) >>= _) _ _ s
  refine wpAny_bind (wpAny_seqItems hT rfl ?_)
  show wpAny _ A.in1 (tryCatch (pyNext (.ref it)) _ >>= _) _ _ s
  refine wpAny_bind (wpAny_tryCatch (Wk.item (j + 1) s _ _ jn st fun v h' tk pv HG kk=>?_))
  have IX:=kk T _ Lf hT
  show wpAny _ A.in1 (tryCatch (holding [v,v] (richCompare .Lt v vb >>= _)) _ >>= _) _ _ _
  refine wpAny_bind (wpAny_tryCatch (wpAny_holding (wpAny_bind (cm (j + 1) (argBest bt j) v vb _ _ _ pv hp (wpAny_bind (wpAny_holding (wpAny_truthy_bool (wpAny_bind (wpAny_letGo (wpAny_pure ?_))))))))))
  cases eb:bt (j + 1) (argBest bt j) with
  | true=>
   rw [if_pos rfl]
   refine wpAny_bind (wpAny_updateSeq IX rfl (wpAny_bind (wpAny_letGo ?_)))
   rw [nQ]
   refine wpAny_pure ⟨plainId_quiet F.plain_min_loop _,ih (j + 1) _ v _ (by lia) jn (Wk.frame _ _ _ HG fun b bf o e=>?_) (by simp only [argBest,eb,if_true];exact pv) (Heap.get?_update_self _ IX rfl) fun v2 h2 t2 p2 k2=>?_⟩
   ·exact (Heap.get?_update_other _ _ (fun z:T=b=>nT (by rw [z];exact bf))).trans e
   ·exact fin v2 h2 t2 p2 fun b o bw bT e=>k2 b o bw bT ((Heap.get?_update_other _ _ (Ne.symm bT)).trans (kk b o bw e))
  | false=>
   rw [if_neg Bool.false_ne_true]
   refine wpAny_bind (wpAny_letGo ?_)
   rw [nQ]
   refine wpAny_pure ⟨plainId_quiet F.plain_min_loop _,ih (j + 1) _ vb c (by lia) jn HG (by simp only [argBest,eb,Bool.false_eq_true,if_false];exact hp) IX fun v2 h2 t2 p2 k2=>?_⟩
   exact fin v2 h2 t2 p2 fun b o bw bT e=>k2 b o bw bT (kk b o bw e)
theorem xm (Wk:Walks prog w A.in1 it fp wr n Pv Sx) (bt:Nat->Nat->Bool) (cm:CmpOf prog w A.in1 .Lt Pv bt) (T:Addr) (nT:T∉fp) {s:Shared} {c:Nat} {d:Value} (O8:kw=[(Str.ofString "default",d)]) (st:Sx 0 s.heap)
  (hT:s.heap.get? T=some { cls:=.type "list",dict:=none,data:=.seq #[] c,slots:=#[] }) (fin:∀ v h' tk,(if n=0 then v=d else Pv (argBest bt (n - 1)) v)->(∀ b o,b∉wr->b≠T->s.heap.get? b=some o->h'.get? b=some o)->R (.ok (.ret v)) { s with heap:=h',toks:=tk }) :
  codeAny (model prog w) A (.builtin "min.loop" ⟨[.ref it,.none,.ref T],kw⟩) R s:=by
 have Lf:T∉wr:=fun z=>nT (Wk.sub _ z)
 refine codeAny_builtin F.entry_min_loop ?_
 rw [Around.under_plainId F.plain_min_loop _]
 show wpAny _ A.in1 (seqItems? (.ref T) >>= _) _ _ s
 refine wpAny_bind (wpAny_seqItems hT rfl ?_)
 show wpAny _ A.in1 (tryCatch (pyNext (.ref it)) _ >>= _) _ _ s
 by_cases hn:n=0
 ·refine wpAny_bind (wpAny_tryCatch (Wk.done s _ _ (by rw [hn];exact st) fun h' tk kk=>?_))
  subst O8
  refine wpAny_bind (wpAny_rule (wpAny_pure ?_))
  exact fin d _ tk (by rw [if_pos hn]) fun b o bw bT e=>kk b o bw e
 ·refine wpAny_bind (wpAny_tryCatch (Wk.item 0 s _ _ (by lia) st fun v h' tk pv HG kk=>?_))
  have IX:=kk T _ Lf hT
  show wpAny _ A.in1 (updateSeq T (fun _=>#[v,v]) >>= _) _ _ _
  refine wpAny_bind (wpAny_updateSeq IX rfl ?_)
  rw [nQ]
  refine wpAny_pure ⟨plainId_quiet F.plain_min_loop _,Eb Wk bt cm T nT _ 0 _ v _ rfl (by lia) (Wk.frame _ _ _ HG fun b bf o e=>?_) pv (Heap.get?_update_self _ IX rfl) fun v2 h2 t2 p2 k2=>?_⟩
  ·exact (Heap.get?_update_other _ _ (fun z:T=b=>nT (by rw [z];exact bf))).trans e
  ·exact fin v2 h2 t2 (by rw [if_neg hn];exact p2) fun b o bw bT e=>k2 b o bw bT ((Heap.get?_update_other _ _ (Ne.symm bT)).trans (kk b o bw e))
end
theorem args_mind (a d:Value):argsOk "min" ⟨[a],[(Str.ofString "default",d)]⟩:=by unfold argsOk;kernel_rfl
section
variable {X:Cx} {e k:Expr} {te tk:TE} {p pos IK:Pos}
noncomputable def minD (ns:List Int) (d:Int):Int:=if ns=[] then d else dR ns
noncomputable def Ec (K:W.Frag) (te tk:TE):TE:=fun σ H Q=>sJ te AS σ H fun vs H1=>sJ tk AS σ H1 fun ks H2=>∃ (a:Addr) (ns:List Int) (d:Int),vs=[.ref a]/\ks=[.int d]/\(SqL K H2 a (ns.map V.int)\/SqT K H2 a (ns.map V.int))/\Q (.int (minD ns d)) H2
theorem zX (hc:X.calm=true) (hg:Gl X "min") (hm:X.mg "min" = none) (he:PE X e te) (hk:PE X k tk) (hs:starEach [e] X.env=[(false,eval e X.env)]:=by rfl) :
  PE X (.Call (.Name "min" p) [e] [⟨some "default",k,IK⟩] pos) (Ec X.K te tk):=by
 intro pins s σ H Q I h
 refine wpAny_Call_Name_kw (kQ I hg hm (by decide +kernel:bootBuiltins "min" = some (.builtin "min")) ?_ (by decide) (by decide))
 refine callWith_kw (F1 (iO he oH (hs:=hs) pos pins s σ H _ I h) fun us s1 ⟨vs,H1,I1,r1,q1⟩=>?_) (by rw [hs];rfl) (by rw [hs];rfl)
 refine F1 (ue hk xQ pos pins s1 σ H1 _ I1 q1) fun ws s2 F3=>?_
 obtain ⟨ks,H2,I2,r2,a,ns,d,e1,e2,hp,q⟩:=F3
 subst e1 e2
 obtain ⟨u,rfl,ru⟩:=e8 r1
 obtain ⟨w',rfl,t,rfl⟩:=e8 r2
 cases ru
 show wpAny _ _ (call (.builtin "min") [.ref a] [(Str.ofString "default",.int d t)]) _ _ s2
 refine tree_kw F.kind_min F.plain_min F.entry_min (args_mind _ _) ?_
 show wpAny _ X.A.in1 (Builtin.Builtins.bindParams "min" ["key","default"] 0 ⟨[],[(Str.ofString "default",.int d t)]⟩ >>= _) _ _ s2
 refine wpAny_bind (wpAny_of_eq (show Builtin.Builtins.bindParams "min" ["key","default"] 0 ⟨[],[(Str.ofString "default",.int d t)]⟩=pure [none,some (.int d t)] from rfl) ?_)
 refine wpAny_bind (wpAny_pure ?_)
 refine wpAny_bind (gc hc I2 hp fun it fp o ws Sx rv Wk st hf hit=>?_)
 have hl:=rv.length
 rw [List.length_map] at hl
 refine wpAny_bind (wpAny_newObj_type ?_)
 have nT:(s2.heap.push o).objs.size∉fp:=fun z=>Nat.lt_irrefl _ (hf _ z)
 rw [nQ]
 refine wpAny_pure ⟨plainId_quiet F.plain_min_loop _,xm Wk _ (oX rv _) (s2.heap.push o).objs.size nT rfl (Wk.frame _ _ _ st fun b _ ob e=>Heap.get?_push_of_some _ e) (Heap.get?_push_size _ rfl) fun v h' O9 hv kk=>?_⟩
 subst hit
 have I3:Inv X pins σ H2 { s2 with heap:=h',toks:=O9 }:=dQ (s:=s2) (o:=o) I2 fun b ob nb e=>kk b ob nb (Nat.ne_of_lt (Heap.lt_size e)) (Heap.get?_push_of_some _ e)
 refine ⟨.int (minD ns d),H2,I3,?_,q⟩
 unfold minD
 by_cases hn:ns=[]
 ·rw [if_pos (by rw [<-hl,hn];rfl)] at hv
  rw [if_pos hn,hv]
  exact ⟨t,rfl⟩
 ·have h0:0 < ns.length:=List.length_pos_iff.mpr hn
  rw [if_neg (by lia)] at hv
  rw [if_neg hn]
  obtain ⟨b1,b2⟩:=ni ns (ns.length - 1) (by lia)
  rw [<-hl] at hv
  obtain ⟨t2,rfl⟩:=eF rv hv
  refine ⟨t2,?_⟩
  rw [b2,show ns.length - 1 + 1=ns.length by lia,List.take_length]
  rfl
end
end NX
namespace PV
open PySem PySem.Spec PyProof.Rows L2 NX
noncomputable def zY (f g:FX):FX:=fun env=>(f env).bind fun p=>(g p.2).bind fun q=>match (lh p.1.2).bind c8,q.1.2 with
 | some ns,.int d=>.ok ((.f,.int (NX.minD ns d)),q.2)
 | _,_=>.bad
section
variable {X:Cx}
theorem zZ {e k:Expr} {f g:FX} {p pos IK:Pos} (hc:X.calm=true) (hg:Gl X "min") (hm:X.mg "min" = none) (he:QE X e f) (hk:QE X k g) (hs:starEach [e] X.env=[(false,eval e X.env)]:=by rfl) :
  QE X (.Call (.Name "min" p) [e] [⟨some "default",k,IK⟩] pos) (zY f g):=cv (zX hc hg hm he hk hs) fun σ H Q FY=>by
 obtain ⟨G,env,fp,r,env',rel,e,k⟩:=FY
 obtain ⟨⟨r1,FC⟩,e1,e⟩:=ar e
 obtain ⟨⟨r2,FL⟩,e2,e⟩:=ar e
 dsimp only at e
 split at e
 ·rename_i ns d L5 hd
  cases e
  refine ⟨G,env,fp,r1,FC,rel,e1,fun v H1 G1 F5 F2 FJ=>?_⟩
  obtain ⟨G2,b,rv,FE,FV⟩:=FJ.freeze
  refine ⟨G2,FC,b,r2,_,FE,e2,fun w' H3 G3 Iq Gj F8=>?_⟩
  have hw:=F8.top
  obtain ⟨b3,Gr,Hg⟩:=F8.drop
  rw [hd] at hw
  obtain ⟨p',ep,sq⟩:=gS Gr.gh L5 (Vw.of Gr.gh (Rep.mono Gj.gg rv))
  subst ep
  exact ⟨p',ns,d,rfl,by rw [bU hw],sq,k _ H3 G3 b3 (F2.trans (FV.trans (Gj.trans Hg))) (Gr.push (br _))⟩
 ·cases e
end
section
variable {X:Cx}
noncomputable def Cj (g:List D->List D->Res R) (fa:FO) (fs:FOs):FX:=fun env=>(fa env).bind fun p=>(Hh p.2 p.1).bind fun a=>match a with
 | .lst _=>(fs p.2).bind fun q=>(Hh q.2 p.1).bind fun a2=>match a2 with
  | .lst l=>(pd q.2 q.1).bind fun ds=>(g l ds).bind fun r=>.ok (r,q.2)
  | _=>.bad
 | _=>.bad
inductive rMtL (K:W.Frag) (g:List D->List D->Res R) (x:V) (xs:List V) (H:Hp) (Q:VK):Prop
 | mk:∀ G fp es vs l ds r,Goes K H G fp es vs r Q->Vw K G H (.lst l) x->L7 K G H ds xs->g l ds=.ok r->rMtL K g x xs H Q
theorem vz {g:List D->List D->Res R} {id:String} {name:Str} {o e:Expr} {es:List Expr} {fa:FO} {fs:FOs} {apos F4:Pos} (slot:Slot "list" name id) (Ks:typeOf (.builtin id)=pure (.type "method_descriptor")) (hm:La X id (rMtL X.K g)) (ho:QO X o fa) (ha:Ki X (e :: es) fs)
  (GU:attributeBase o name X.env (eval o X.env)=eval o X.env:=by rfl)
  (Ic:((backTo F4 (starEach (e :: es) X.env)).all (fun x=>!x.1) && (backToKw F4 (keywordEach [] X.env)).all (fun x=>x.1.isSome) && decide ((e :: es).length + ([]:List Keyword).length + (if ([]:List Keyword).isEmpty then 0 else 1) < 30))=true:=by rfl)
  (GV:(apos.endLine == F4.line)=true:=by rfl) (hs:starEach (e :: es) X.env=(false,eval e X.env) :: starEach es X.env:=by rfl) (Gv:(backTo F4 (starEach es X.env)).any (·.1)=false:=by rfl) :
  QE X (.Call (.Attribute o name apos) (e :: es) [] F4) (Cj g fa fs):=by
 refine cv (yW PySem.F.plainAttrs_list slot Ks hm ho ha GU Ic GV hs Gv) fun σ H Q F3=>?_
 obtain ⟨G,env,fp,r,env',rel,e,k⟩:=F3
 obtain ⟨⟨oa,FC⟩,e1,e⟩:=ar e
 obtain ⟨da,Li,e⟩:=ar e
 dsimp only at e
 split at e
 ·obtain ⟨⟨os,FL⟩,e2,e⟩:=ar e
  obtain ⟨d2,hd2,e⟩:=ar e
  dsimp only at e
  split at e
  ·obtain ⟨ds,e3,e⟩:=ar e
   obtain ⟨r',e4,e⟩:=ar e
   cases e
   refine ⟨G,env,fp,oa,FC,rel,e1,fun v H1 G1 F5 F2 FJ Hz=>?_⟩
   obtain ⟨p,xs,ev,sq,_⟩:=FJ.vw Hz Li
   subst ev
   exact ⟨.inl ⟨rfl,xs,sq⟩,G1,FC,F5,os,_,FJ,e2,fun vs H2 G2 Gp FV FE J7=>⟨G2,Gp,_,σ,_,ds,r,⟨FE,fun v H' G' FR st F9=>k v H' G' FR (F2.trans (FV.trans st)) F9⟩,FE.vw (Hz.mono FV.gg) hd2,FE.vws J7 e3,e4⟩⟩
  ·cases e
 ·cases e
open PySem.SeqAt in
theorem z4 {pins:List (Addr×Obj)} {σ:L2.St} {H:Hp} {s:Shared} (I:Inv X pins σ H s) {a:D} {x:V} {v:Value} {A:Around} (h:plainD 40 a=true) (hu:A.units + 64 < cLine) (r:Rep X.K H a x) (rx:RelV x v) :
  ∀ (ds:List D) (xs:List V) (us:List Value),plainDs 40 ds=true->Reps X.K H ds xs->Vals xs us->∃ e:Value->Bool,(∀ (j:Nat) (d:D) (u:Value),ds[j]?=some d->us[j]?=some u->e u=eqD d a)/\∀ u∈us,EqAt A s u v (e u):=by
 classical
 intro ds xs us hp rs vl
 have key:∀ (j:Nat) (d:D) (u:Value),ds[j]?=some d->us[j]?=some u->decide (∃ (j:Nat) (d:D),ds[j]?=some d/\us[j]?=some u/\eqD d a=true)=eqD d a:=by
  intro j d u hd hj
  obtain ⟨w1,Jz,JA⟩:=rs.get hd
  obtain ⟨u1,Ig,JB⟩:=vl.get Jz
  rw [hj] at Ig
  cases Ig
  rw [Bool.eq_iff_iff,decide_eq_true_eq]
  constructor
  ·rintro ⟨j2,d2,k1,k2,k3⟩
   obtain ⟨w2,KD,KG⟩:=rs.get k1
   obtain ⟨u2,Ja,KH⟩:=vl.get KD
   rw [k2] at Ja
   cases Ja
   have:=JB.inj KH
   subst this
   rw [ll I _ _ _ 40 (plainDs_mem hp hd) JA KG]
   exact k3
  ·intro k3
   exact ⟨j,_,hd,hj,k3⟩
 refine ⟨fun u=>decide (∃ (j:Nat) (d:D),ds[j]?=some d/\us[j]?=some u/\eqD d a=true),key,fun u Po=>?_⟩
 obtain ⟨j,hj⟩:=List.mem_iff_getElem?.mp Po
 have l1:=vl.length
 have l2:=rs.length
 have Qb:=(List.getElem?_eq_some_iff.mp hj).1
 have g1:ds[j]?=some (ds[j]'(by lia)):=List.getElem?_eq_getElem _
 obtain ⟨w1,Jz,JA⟩:=rs.get g1
 obtain ⟨u1,Ig,JB⟩:=vl.get Jz
 rw [hj] at Ig
 cases Ig
 have z:=zH I _ _ w1 x u v A 40 (plainDs_mem hp g1) h (by lia) JA r JB rx
 show EqAt A s u v (decide (∃ (j:Nat) (d:D),ds[j]?=some d/\us[j]?=some u/\eqD d a=true))
 rw [key j _ u g1 hj]
 exact z
noncomputable def nR (l:List D):List D->Res R
 | [a]=>if plainD 40 a && plainDs 40 l && l.any (fun d=>eqD d a) then .ok (.f,.int (l.findIdx (fun d=>eqD d a):Nat)) else .bad
 | _=>.bad
theorem iV (hu:X.A.units + 65 < cLine):La X "list.index" (rMtL X.K nR):=by
 rintro pins s σ H x xs v us Q I rx rv ⟨G,fp,es,vs,l,ds,r,⟨rel,k⟩,vx,vd,e⟩
 unfold nR at e
 split at e
 ·rename_i a
  split at e
  ·rename_i hp
   rw [Bool.and_eq_true,Bool.and_eq_true] at hp
   cases e
   obtain ⟨p,ys,ev,sq,rs⟩:=vx
   subst ev
   cases rx
   obtain ⟨w',ew,va⟩:=mN vd
   subst ew
   obtain ⟨u,rfl,ru⟩:=e8 rv
   obtain ⟨FH,vl,pl,hz⟩:=I.list sq
   obtain ⟨⟨cls,dd,data,sl⟩,ho,hc,n,hd⟩:=id pl.isList
   simp only at hc hd
   subst hc hd
   obtain ⟨ef,Ql,he2⟩:=z4 (A:=X.A.in1) I hp.1.1 (by first | lia | (simp only [Around.in1_units];lia)) (va.rep rel.gh) ru l ys FH hp.1.2 (Reps.mono rel.gh rs) vl
   have Gn:l.findIdx (fun d=>eqD d a) < l.length:=List.findIdx_lt_length.mpr (by rw [<-List.any_eq_true];exact hp.2)
   have l1:=vl.length
   have l2:=rs.length
   have hlt2:l.findIdx (fun d=>eqD d a) < FH.toArray.size:=by rw [List.size_toArray];lia
   have hb:(l.findIdx (fun d=>eqD d a):Int) < 2 ^ 63 - 1:=by
    rw [sizeLine_eq] at hz
    lia
   refine PySem.call_meets PySem.F.slot_list_index ⟨_,ho,rfl⟩ PySem.F.entry_list_index (PySem.F.args_list_index_2 _ _) (PySem.SeqAt.list_indexAt p FH.toArray n _ _ u ef (l.findIdx fun d=>eqD d a) hlt2 hb ?_ ?_) ⟨ho,fun y hy=>?_,⟨.int (l.findIdx (fun d=>eqD d a):Nat),H,I.tok _,⟨_,rfl⟩,k _ H G fp .refl (rel.push (br _))⟩⟩
   ·rw [Ql _ _ _ (List.getElem?_eq_getElem Gn) (by rw [List.getElem_toArray];exact List.getElem?_eq_getElem _)]
    exact List.findIdx_getElem (w:=Gn)
   ·intro m hm hlt3
    rw [Ql m (l[m]'(by lia)) _ (List.getElem?_eq_getElem _) (by rw [List.getElem_toArray];exact List.getElem?_eq_getElem _)]
    exact List.not_of_lt_findIdx hlt3
   ·exact he2 y (by simpa using hy)
  ·cases e
 ·cases e
end
section
variable {K:W.Frag} {G G' H H':Hp} {es:PV.Env} {vs:L2.St} {fp:List Addr}
end
noncomputable def eFunW (c:O) (F:Addr->List D->Res R) (i:Nat) (fs:FOs):FX:=fun env=>(fs env).bind fun p=>match p.1 with
 | .var j :: os=>if j=i then (match p.2[i]? with
  | some (some (ow,d0))=>if Cf c ow then (mq (p.2.set i none) os).bind fun ds=>(Cg F c d0 ds).bind fun x=>if cu x.1.1 x.1.2 && cu c x.2 then .ok (x.1,(p.2.set i none).set i (some (ow,x.2))) else .ok (x.1,((p.2.set i none).map frz).set i (some (ow,x.2))) else .bad
  | _=>.bad) else .bad
 | _=>.bad
section
variable {X:Cx} {x:Str} {p pos:Pos} {e:Expr} {es:List Expr} {f0:FX} {fs:FOs}
end
def SlR3 (X:Cx) (r:V->Option Int->Option Int->Option Int->Hp->VK->Prop):Prop:=
 ∀ (pins:List (Addr×Obj)) (s:Shared) (σ:L2.St) (H:Hp) (x:V) (v vl vu vt:Value) (lo hi st:Option Int) (sl:Addr) (Q:VK),Inv X pins σ H s->RelV x v->s.heap.IsSliceOf sl vl vu vt->IsPart vl lo->IsPart vu hi->IsPart vt st->r x lo hi st H Q->
  ∃ T id,typeLookup (.type T) "__getitem__" = pure (some (.builtin id))/\s.TypeIs v T/\wpAny (model X.prog X.w) X.A (getItem v (.ref sl)) (EP X pins σ Q) X.xe s
noncomputable def Fn (r:V->Option Int->Option Int->Option Int->Hp->VK->Prop) (te:TE) (tl th ts:TO):TE:=fun σ H Q=>te σ H fun x H1=>tl σ H1 fun l H2=>th σ H2 fun u H3=>ts σ H3 fun t H4=>r x l u t H4 Q
theorem vA {X:Cx} {e:Expr} {te:TE} {lo hi:Option Expr} {se:Expr} {tl th ts:TO} {pos p2:Pos} {r:V->Option Int->Option Int->Option Int->Hp->VK->Prop} (hr:SlR3 X r) (he:PE X e te) (hl:PO X lo tl) (hu:PO X hi th) (hs:PO X (some se) ts):PE X (.Subscript e (.Slice lo hi (some se) p2) pos) (Fn r te tl th ts):=by
 intro pins s σ H Q I h
 refine Subscript_ (F1 (he pins s σ H _ I h) fun v s1 F3=>?_)
 obtain ⟨x,H1,I1,r1,q1⟩:=F3
 refine wpAny_Slice (F1 (hl pins s1 σ H1 _ I1 q1) fun vl s2 ⟨l,H2,I2,pl,q2⟩=>F1 (hu pins s2 σ H2 _ I2 q2) fun vu s3 ⟨u,H3,I3,pu,q3⟩=>F1 (hs pins s3 σ H3 _ I3 q3) fun vt s4 F3=>?_)
 obtain ⟨t,H4,I4,pt,q4⟩:=F3
 have I5:Inv X pins σ H4 { s4 with heap:=s4.heap.push { cls:=.type "slice",data:=.fields #[vl,vu,vt] } }:=I4.kept (t':=s4.toks) fun b ob q=>Heap.get?_push_of_some _ q
 obtain ⟨T,id,hT,ht,hg⟩:=hr pins { s4 with heap:=s4.heap.push { cls:=.type "slice",data:=.fields #[vl,vu,vt] } } σ H4 x v vl vu vt l u t s4.heap.objs.size Q I5 r1 (Heap.IsSliceOf.new ..) pl pu pt q4
 show wpAny (model X.prog X.w) X.A (subscriptTail e (.Slice lo hi (some se) p2) v (.ref s4.heap.objs.size)) (EP X pins σ Q) X.xe { s4 with heap:=s4.heap.push { cls:=.type "slice",data:=.fields #[vl,vu,vt] } }
 exact tail_any (ops:=[v,.ref s4.heap.objs.size]) ht hT hg (by with_unfolding_all rfl)
noncomputable def gU {α:Type} (xs:List α) (lo hi:Option Int) (c:Int):List α:=
 (sliceRange (sliceBounds lo hi (some c) xs.length).1 (sliceBounds lo hi (some c) xs.length).2.1 (sliceBounds lo hi (some c) xs.length).2.2).filterMap (fun i=>xs[i]?)
theorem pI {K:W.Frag} {G:Hp} {ds:List D} {xs:List V} (r:Reps K G ds xs):∀ ix:List Nat,Reps K G (ix.filterMap fun i=>ds[i]?) (ix.filterMap fun i=>xs[i]?)
 | []=>.nil
 | i :: ix=>by
  have ih:=pI r ix
  cases e:ds[i]? with
  | none=>
   have e2:xs[i]?=none:=by
    rw [List.getElem?_eq_none_iff] at e ⊢
    rw [r.length]
    exact e
   rw [List.filterMap_cons_none e,List.filterMap_cons_none e2]
   exact ih
  | some d=>
   obtain ⟨v,e2,rv⟩:=r.get e
   rw [List.filterMap_cons_some e,List.filterMap_cons_some e2]
   exact .cons rv ih
theorem vals_pick {xs:List V} {us:List Value} (r:Vals xs us):∀ ix:List Nat,Vals (ix.filterMap fun i=>xs[i]?) (ix.filterMap fun i=>us[i]?)
 | []=>.nil
 | i :: ix=>by
  have ih:=vals_pick r ix
  cases e:xs[i]? with
  | none=>
   rw [List.filterMap_cons_none e,List.filterMap_cons_none (r.none_of e)]
   exact ih
  | some d=>
   obtain ⟨v,e2,rv⟩:=r.get e
   rw [List.filterMap_cons_some e,List.filterMap_cons_some e2]
   exact .cons rv ih
theorem rP (FH:List Value) (lo hi:Option Int) (c:Int):slicePick FH.toArray lo hi (some c)=(gU FH lo hi c).toArray:=by
 unfold slicePick gU
 simp only [List.size_toArray,List.getElem?_toArray]
theorem z5 (FH:List Value) (lo hi:Option Int) (c:Int):(gU FH lo hi c).length<=FH.length:=by
 have:=slicePick_size_le FH.toArray lo hi (some c)
 rw [rP] at this
 simpa using this
noncomputable def Cm (k:D) (lo hi st:Option Int):Res R:=match k,st with
 | .lst ds,some c=>if c≠0 then .ok (.l .f,.lst (gU ds lo hi c)) else .bad
 | _,_=>.bad
noncomputable def Ed (fa:FO) (lo hi st:FP):FX:=fun env=>(fa env).bind fun p=>(lo p.2).bind fun q=>(hi q.2).bind fun t=>(st t.2).bind fun u=>(Hh u.2 p.1).bind fun d=>(Cm d q.1 t.1 u.1).bind fun r=>.ok (r,u.2)
section
variable {X:Cx} {pos:Pos} {fa:FO}
inductive rSl3 (K:W.Frag) (x:V) (lo:Option Int) (hi:Option Int) (st:Option Int) (H:Hp) (Q:VK):Prop
 | mk:∀ G fp es vs d r,Goes K H G fp es vs r Q->Vw K G H d x->Cm d lo hi st=.ok r->rSl3 K x lo hi st H Q
theorem Cn:SlR3 X (rSl3 X.K):=by
 rintro pins s σ H x v vl vu vt lo hi st sl Q I rx hs pl pu pt ⟨G,fp,es,vs,d,r,⟨rel,k⟩,vd,e⟩
 unfold Cm at e
 split at e
 ·rename_i ds c
  split at e
  ·rename_i hc
   cases e
   obtain ⟨p,xs,ev,sq,rs⟩:=vd
   subst ev
   cases rx
   obtain ⟨FH,r,ht,hz⟩:=I.list sq
   have hlen:=r.length
   refine ⟨"list",_,slot_list_getitem.lookup,ht.isList.typeIs,?_⟩
   refine wpAny_getItem_list_slice ht.isList hs pl pu pt (fun h=>hc (Option.some.inj h)) ?_ (by rw [List.size_toArray];lia)
   rw [rP]
   have r2:Vals (gU xs lo hi c) (gU FH lo hi c):=by
    unfold gU
    rw [hlen]
    exact vals_pick r _
   have rs2:Reps X.K G (gU ds lo hi c) (gU xs lo hi c):=by
    unfold gU
    rw [rs.length]
    exact pI rs _
   have K5:(gU xs lo hi c).length<=sizeLine:=by
    rw [r2.length]
    have:=z5 FH lo hi c
    lia
   have hq:=I.hok.fresh (Nat.le_refl s.heap.objs.size)
   obtain ⟨FE,FV⟩:=rel.newL hq rs2
   refine ⟨.ref s.heap.objs.size,_,I.laid (t':=s.toks) (o:=.lst (gU xs lo hi c)) (fun b ob q=>Heap.get?_push_of_some _ q) (Nat.le_refl _) ?_,rfl,k _ _ G _ FV FE⟩
   exact ⟨K5,_,0,r2,Heap.get?_push_size _ rfl⟩
  ·cases e
 ·cases e
theorem Co {e:Expr} {lo hi:Option Expr} {se:Expr} {p2:Pos} {fl fh fs:FP} (he:QO X e fa) (hl:QP X lo fl) (hh:QP X hi fh) (hs:QP X (some se) fs):QE X (.Subscript e (.Slice lo hi (some se) p2) pos) (Ed fa fl fh fs):=
 cv (vA Cn he hl hh hs) fun σ H Q FY=>by
  obtain ⟨G,env,fp,r,env',rel,e,k⟩:=FY
  obtain ⟨⟨o,FC⟩,e1,e⟩:=ar e
  obtain ⟨⟨i,FL⟩,e2,e⟩:=ar e
  obtain ⟨⟨j,Gz⟩,e3,e⟩:=ar e
  obtain ⟨⟨t,NY⟩,e4,e⟩:=ar e
  obtain ⟨d,e5,e⟩:=ar e
  obtain ⟨r',e6,e⟩:=ar e
  cases e
  exact ⟨G,env,fp,o,FC,rel,e1,fun v H1 G1 F5 F2 FJ Hz=>⟨G1,FC,F5,i,FL,FJ,e2,fun H2 G2 Gp FV FE=>⟨G2,FL,Gp,j,Gz,FE,e3,fun H3 G3 Iq Gj F8=>⟨G3,Gz,Iq,t,NY,F8,e4,fun H4 G4 NK Hg Gr=>
   ⟨G4,NK,NY,σ,d,r,⟨Gr,fun v H' G' FR st F9=>k v H' G' FR (F2.trans (FV.trans (Gj.trans (Hg.trans st)))) F9⟩,Gr.vw (((Hz.mono FV.gg).mono Gj.gg).mono Hg.gg) e5,e6⟩⟩⟩⟩⟩
end
section
variable {X:Cx}
noncomputable def z6 (fa fb fc:FX):FX:=fun env=>(fa env).bind fun p=>(fb p.2).bind fun q=>(fc q.2).bind fun t=>.ok ((.t [.f,q.1.1,t.1.1],.tup [p.1.2,q.1.2,t.1.2]),t.2)
theorem z7 {a b c:Expr} {fa fb fc:FX} {x1} {pos:Pos} (ha:QE X a fa) (hb:QE X b fb) (hc:QE X c fc) (h1:starEach [a,b,c] X.env=(false,eval a X.env) :: starEach [b,c] X.env:=by rfl) (h2:starEach [b,c] X.env=(false,eval b X.env) :: starEach [c] X.env:=by rfl) (h3:starEach [c] X.env=(false,eval c X.env) :: starEach [] X.env:=by rfl) :
  QE X (.Tuple [a,b,c] x1 pos) (z6 fa fb fc):=
 cv (xP (iO ha (iO hb (iO hc oH h3) h2) h1)) fun σ H Q FY=>by
  obtain ⟨G,env,fp,r,env',rel,e,k⟩:=FY
  obtain ⟨⟨r1,FC⟩,e1,e⟩:=ar e
  obtain ⟨⟨⟨o2,d2⟩,FL⟩,e2,e⟩:=ar e
  obtain ⟨⟨⟨o3,d3⟩,Gz⟩,e3,e⟩:=ar e
  cases e
  refine ⟨G,env,fp,r1,FC,rel,e1,fun v H1 G1 F5 F2 FJ=>?_⟩
  obtain ⟨G2,b,rv,FE,FV⟩:=FJ.freeze
  refine ⟨G2,FC,b,(o2,d2),FL,FE,e2,fun v2 H3 G3 Iq Gj F8=>?_⟩
  obtain ⟨a3,b3,ef3,ro3,NZ,bk3⟩:=F8.frame
  refine ⟨G3,FL,b3,(o3,d3),Gz,NZ,e3,fun v3 H4 G4 NK Hg Gr=>⟨by rw [line_eq];exact (by decide:3<=16777216),fun p hp=>?_⟩⟩
  obtain ⟨KJ,Ll⟩:=bk3 G4 H4 _ _ NK Hg Gr
  rw [<-ef3] at Ll
  obtain ⟨He,Ia⟩:=KJ.newF (u:=.tup [v,v2,v3]) hp
  refine k _ _ _ _ (F2.trans (FV.trans (Gj.trans (Ll.trans Ia)))) ?_
  obtain ⟨y,ys,ey,v',a',b',Pr,ef,q1,q2⟩:=He.rep
  cases ey
  cases Pr
  obtain ⟨y,ys,ey,v'',N1,b'',Pr,ef',q3,q4⟩:=q2
  cases ey
  cases Pr
  subst ef'
  refine ⟨⟨some (.ref p),σ,rfl,.ref p,a'++N1,b'',rfl,by rw [ef,List.append_assoc],?_,q4⟩,He.nd,He.gn,He.gh⟩
  show RepO X.K _ _ (.t [.f,o2,o3]) (.tup [r1.2,d2,d3]) (.ref p) (a'++N1)
  rw [RepO]
  refine ⟨p,[v,v2,v3],rfl,bZ,?_⟩
  rw [RepT]
  refine ⟨v,[v2,v3],[],a'++N1,rfl,rfl,j5.mpr ⟨Rep.mono (Gj.gg.trans (Ll.gg.trans Ia.gg)) rv,rfl⟩,?_⟩
  rw [RepT]
  refine ⟨v2,[v3],a',N1,rfl,rfl,q1,?_⟩
  rw [RepT]
  refine ⟨v3,[],N1,[],rfl,by rw [List.append_nil],q3,?_⟩
  rw [RepT]
  exact ⟨rfl,rfl⟩
end
end PV
namespace LW
open PySem L2 NX PV
abbrev lG (f:FX):FI:=Gm (BP f) (Gm (fu f) (fw f))
noncomputable def pJ:FS:=(dS (a9 B0 (ag (aq (b6 (pD (ag (aq (aK 0)) (ag (aq (aK 1)) aA))) [none,none] (fW 2 (aB (ax 0) (aB (ax 1) cq))) cN (aD jR (ao 0) (ao 1)))) aA)))
noncomputable def cE:List D->Res R:=fBody 2 0 pJ
noncomputable def yq:FS:=(dS (a9 cQ (ag (aq (b6 (pD (ag (aq (aK 0)) (ag (aq (aK 1)) aA))) [none,none] (fW 2 (aB (ax 0) (aB (ax 1) cq))) cN (aD k8 (ao 0) (ao 1)))) aA)))
noncomputable def lH:List D->Res R:=fBody 2 0 yq
noncomputable def lI:FS:=(dS (aD cV (aq (aJ (.int 1))) (aq (zI (b6 (lG (aD FW (ao 0) (aq (aJ (.int 1))))) [none,none,none] (fW 3 (aB (ax 0) (aB (ax 1) (aB (ax 2) cq)))) cN (a9 maxD (ag (ao 0) (ag (ao 2) aA)))) (aJ (.int 0))))))
noncomputable def dW:List D->Res R:=fBody 1 0 lI
noncomputable def fM:FS:=(GS (AU (Gg (bq Hd (aq (aD FW (ao 4) (aq (aJ (.int 0))))) (aq (aD FW (ao 1) (ao 3))))) (Gg (bq qo (aq (aD FW (ao 4) (aq (aJ (.int 2))))) (ao 1))))
  (sSeq (gQ (pg 1 (aD FW (ao 4) (aq (aJ (.int 2))))))
  (gQ (pg 2 (aK 4))))
  cM)
noncomputable def lJ:FS:=(mL (lG (aK 0)) (ax 4)
  fM)
noncomputable def kc:FS:=(bK 3 (aD cV (ao 3) (aq (aJ (.int 1)))))
noncomputable def gW:FS:=(sSeq lJ
  kc)
noncomputable def lK:FS:=(c6 (Gg (aD Kk (ao 3) (aq (a9 ka (ag (ao 1) aA)))))
  gW 100000)
noncomputable def ke:FS:=(dS (kZ 2))
noncomputable def pK:FS:=(sSeq (bK 1 (k9 (aI (aJ (.int 0)) bJ)))
  (sSeq (bK 2 (k9 bJ))
  (sSeq (bK 3 (aJ (.int 0)))
  (sSeq lK
  ke))))
noncomputable def c9:List D->Res R:=fBody 1 4 pK
noncomputable def gX:FS:=(B6 1 (aK 4) (aD cV (aq (aD Jc (ao 1) (ao 2))) (aq (i8 (aI (aK 3) bJ)))))
noncomputable def lM:FS:=(mL (lG (cH c9 (ag (aq (aD FW (ao 0) (aq (aJ (.int 1))))) aA))) (fW 3 (aB (ax 2) (aB (ax 3) (aB (ax 4) cq))))
  gX)
noncomputable def kg:FS:=(dS (b6 (dU (aq (cH dW (ag (ao 0) aA)))) [none,some 1] (ax 0) cN (aD Jc (ao 1) (ao 0))))
noncomputable def pL:FS:=(sSeq (bK 1 (rM (aJ (.int 0)) (i8 bJ)))
  (sSeq lM
  kg))
noncomputable def cS:List D->Res R:=fBody 1 4 pL
noncomputable def pM:FS:=(dS (a9 cQ (ag (aq (b6 (Gm (fQ 0) (Gm (fu (aK 0)) (fw (aK 0)))) [none,some 1] (ax 0) cN (xl AW (ao 1) (ag (ao 0) aA)))) aA)))
noncomputable def de:List D->Res R:=fBody 2 0 pM
noncomputable def lN:FS:=(dS (b6 (lG (cH cS (ag (ao 0) aA))) [none,some 0] (ax 0) cN (cH de (ag (aq (aD FW (ao 1) (aq (aJ (.int 0))))) (ag (ao 0) aA)))))
noncomputable def dn:List D->Res R:=fBody 1 0 lN
noncomputable def gu:FS:=(GS (Gg (bq qo (ao 4) (ao 2)))
  (gQ (pg 3 (cH lH (ag (aq (cH de (ag (aq (aD FW (ao 0) (aq (aJ (.int 0))))) (ag (aq (aD cV (aq (aD FW (ao 1) (aq (aD FW (ao 4) (aq (aJ (.int 0))))))) (aq (i8 (aI (aD FW (ao 4) (aq (aJ (.int 1)))) bJ))))) aA)))) (ag (aq (cH de (ag (aq (aD FW (ao 0) (aq (aJ (.int 0))))) (ag (aq (aD FW (ao 1) (aq (aD FW (ao 4) (aq (aJ (.int 2))))))) aA)))) aA)))))
  cM)
noncomputable def kh:FS:=(mL (lG (aD FW (ao 0) (aq (aJ (.int 1))))) (ax 4)
  gu)
noncomputable def jr:FS:=(dS (kZ 3))
noncomputable def mQ:FS:=(sSeq (bK 1 (cH cS (ag (ao 0) aA)))
  (sSeq (bK 2 (cH c9 (ag (aq (aD FW (ao 0) (aq (aJ (.int 1))))) aA)))
  (sSeq (bK 3 (k9 bJ))
  (sSeq kh
  jr))))
noncomputable def dX:List D->Res R:=fBody 1 4 mQ
noncomputable def mR:FS:=(dS (a9 AV (ag (aq (b6 (lG (aD FW (ao 0) (aq (aJ (.int 1))))) [none,none,none,some 1] (fW 3 (aB (ax 0) (aB (ax 1) (aB (ax 2) cq)))) cN (bq Hd (ao 1) (ao 3)))) aA)))
noncomputable def du:List D->Res R:=fBody 2 0 mR
noncomputable def ki:FS:=(sSeq (GS (Gg (a9 AV (ag (aq (b6 (lG (cH dX (ag (ao 0) aA))) [none,some 1] (ax 0) cN (bq Jb (aq (cH cE (ag (ao 1) (ag (ao 0) aA)))) (aq (aJ (.int 0)))))) aA)))
  (dS (aJ (.bl false)))
  cM)
  (dS (a9 BV (ag (aq (b6 (pD (ag (aq (aD FW (ao 0) (aq (aJ (.int 0))))) (ag (aq (aK 1)) aA))) [none,none,some 0] (fW 2 (aB (ax 0) (aB (ax 1) cq))) cN (NJ (bq Hd (ao 1) (aq (aJ (.int 0)))) (cH du (ag (ao 2) (ag (ao 0) aA)))))) aA))))
noncomputable def bO:List D->Res R:=fBody 2 0 ki
noncomputable def mS:FS:=(sSeq (GS (DX (Gg (cH bO (ag (ao 0) (ag (ao 1) aA)))))
  yb
  cM)
  (sSeq (bK 2 (b6 (lG (cH dn (ag (ao 0) aA))) [none,some 1] (ax 0) cN (cH cE (ag (ao 1) (ag (ao 0) aA)))))
  (dS (b6 (Gm (fQ 2) (Gm (fu (aK 2)) (fw (aK 2)))) [none,some 2] (ax 0) cN (aD k8 (ao 0) (aq (a9 wt (ag (ao 1) aA))))))))
noncomputable def bC:List D->Res R:=fBody 2 1 mS
noncomputable def vB:FS:=(sSeq (bK 3 (b6 (lG (aD FW (ao 0) (aq (aJ (.int 1))))) [none,none,none,some 1,some 2] (fW 3 (aB (ax 0) (aB (ax 1) (aB (ax 2) cq)))) (Gg (bq Hd (ao 1) (ao 4))) (aD FW (ao 3) (ao 0))))
  (dS (zY (aK 3) (aD cV (aq (a9 maxD (ag (ao 1) aA))) (aq (aJ (.int 1)))))))
noncomputable def gY:List D->Res R:=fBody 3 1 vB
noncomputable def mT:FS:=(sSeq (bK 2 (cH bC (ag (ao 0) (ag (ao 1) aA))))
  (sSeq (bK 3 (a9 cQ (ag (aq (b6 (lG (aD FW (ao 0) (aq (aJ (.int 0))))) [none,some 0,some 2] (ax 0) cN (cH gY (ag (ao 1) (ag (ao 2) (ag (ao 0) aA)))))) aA)))
  (dS (i8 (aI (aD FW (ao 2) (aq (aJ (.int 0)))) (aI (aK 3) (aI (a9 cQ (ag (aq (b6 (pD (ag (aq (aK 3)) (ag (aq (aK 1)) aA))) [none,none] (fW 2 (aB (ax 0) (aB (ax 1) cq))) cN (aD cV (ao 0) (ao 1)))) aA)) bJ)))))))
noncomputable def eW:List D->Res R:=fBody 2 2 mT
noncomputable def iJ:FS:=(sSeq (GS (Gg (aD Kk (ao 1) (aq (a9 ka (ag (ao 0) aA)))))
  (dS (aD FW (ao 0) (ao 1)))
  cM)
  (dS (aJ (.int 0))))
noncomputable def aG:List D->Res R:=fBody 2 0 iJ
noncomputable def kj:FS:=(sSeq (bK 2 (aD cV (aq (aD fT (ao 0) (aq (aJ (.int 2147483647))))) (aq (aD jR (aq (aJ (.int 48271))) (aq (aD cV (ao 1) (aq (aJ (.int 1)))))))))
  (sSeq (bK 2 (aD fT (aq (aD cV (aq (aD jR (ao 2) (ao 2))) (aq (aD jR (aq (aJ (.int 69621))) (ao 1))))) (aq (aJ (.int 2147483647)))))
  (dS (aD fT (aq (aD cV (aq (aD cV (aq (aD jR (ao 2) (ao 2))) (aq (aD jR (aq (aJ (.int 16807))) (ao 1))))) (aq (aJ (.int 1))))) (aq (aJ (.int 2147483647)))))))
noncomputable def aY:List D->Res R:=fBody 2 1 kj
noncomputable def dF:FS:=(sSeq (bK 7 (zT (ao 2) sV (lb (aK 3))))
  (sSeq (vo 7 (aK 4) (aD fT (aq (aD cV (aq (aD FW (ao 7) (ao 4))) (ao 6))) (aq (aJ (.int 26)))))
  (sSeq (GS (Gg (bq Hd (aq (aD fT (aq (aD eB (ao 0) (aq (aJ (.int 64))))) (aq (aJ (.int 4))))) (aq (aJ (.int 1)))))
  (bK 7 (zT (ao 2) sV (lb (aD cV (ao 6) (aq (aJ (.int 1)))))))
  cM)
  (gQ (pg 5 (D7 vq (aq (aJ (.str []))) (ag (aq (b6 (Gm (fQ 7) (Gm (fu (aK 7)) (fw (aK 7)))) [none,some 1] (ax 0) cN (aD FW (ao 1) (ao 0)))) aA)))))))
noncomputable def iK:FS:=(mL (dU (aq (aJ (.int 5)))) (ax 6)
  dF)
noncomputable def gZ:FS:=(sSeq (GS (Gg (bq Ln (aq (aJ (.str [109,111,118,101,115]))) (ao 5)))
  (bK 5 (b6 (Gm (fQ 5) (Gm (fu (aK 5)) (fw (aK 5)))) [none] (ax 0) cN (aD cV (aq (aJ (.str [115]))) (ao 0))))
  cM)
  (dS (a9 fP (ag (ao 5) aA))))
noncomputable def kl:FS:=(sSeq (bK 1 (aJ (.str [97,98,99,100,101,102,103,104,105,106,107,108,109,110,111,112,113,114,115,116,117,118,119,120,121,122])))
  (sSeq (bK 2 (b6 (dU (aq (aJ (.int 8)))) [none,some 0] (ax 0) cN (aD fT (aq (cH aY (ag (ao 1) (ag (ao 0) aA)))) (aq (aJ (.int 26))))))
  (sSeq (bK 3 (aD cV (aq (aJ (.int 1))) (aq (aD fT (ao 0) (aq (aJ (.int 8)))))))
  (sSeq (bK 4 (aD fT (aq (aD eB (ao 0) (aq (aJ (.int 8))))) (ao 3)))
  (sSeq (bK 5 (k9 bJ))
  (sSeq iK
  gZ))))))
noncomputable def dv:List D->Res R:=fBody 1 7 kl
noncomputable def df:FS:=(sSeq (GS (Gg (aD Kk (ao 5) (aq (aD FW (aq (aD FW (ao 6) (aq (aJ (.int 1))))) (ao 3)))))
  (dS (aJ .non))
  cM)
  (gQ (pg 4 (aD cV (aq (aD k8 (ao 5) (aq (aD FW (aq (aD FW (ao 6) (aq (aJ (.int 1))))) (ao 3))))) (aq (aD FW (aq (aD FW (ao 6) (aq (aJ (.int 2))))) (ao 3)))))))
noncomputable def gv:FS:=(mL (pD (ag (aq (aK 1)) (ag (aq (aD FW (ao 0) (aq (aJ (.int 1))))) aA))) (fW 2 (aB (ax 5) (aB (ax 6) cq)))
  df)
noncomputable def iL:FS:=(dS (a9 cQ (ag (ao 4) aA)))
noncomputable def lO:FS:=(sSeq (bK 3 (xl mw (aq (aD FW (ao 0) (aq (aJ (.int 0))))) (ag (ao 2) aA)))
  (sSeq (bK 4 (k9 bJ))
  (sSeq gv
  iL)))
noncomputable def dq:List D->Res R:=fBody 3 4 lO
noncomputable def dG:FS:=(sSeq (bK 6 (cH dq (ag (ao 0) (ag (aq (aD FW (ao 2) (ao 4))) (ag (ao 5) aA)))))
  (GS (Gg (bq isnO (ao 6) (aq (aJ .non))))
  (sSeq (GS (Gg (bq qo (ao 6) (ao 2)))
  (sSeq (GS (Gg (bq Hd (aq (a9 ka (ag (ao 2) aA))) (ao 1)))
  (dS (aJ .non))
  cM)
  (gQ (pg 2 (aK 6))))
  cM)
  (gQ (pg 3 (i8 (aI (aK 4) (aI (aK 5) (aI (Cj nR (ao 2) (ag (ao 6) aA)) bJ)))))))
  cM))
noncomputable def g0:FS:=(mL (lG (aD FW (ao 0) (aq (aJ (.int 0))))) (ax 5)
  dG)
noncomputable def jt:FS:=(bK 4 (aD cV (ao 4) (aq (aJ (.int 1)))))
noncomputable def dH:FS:=(sSeq g0
  jt)
noncomputable def g5:FS:=(c6 (Gg (aD Kk (ao 4) (aq (a9 ka (ag (ao 2) aA)))))
  dH 100000)
noncomputable def ju:FS:=(dS (i8 (aI (a9 fP (ag (ao 3) aA)) (aI (aK 2) bJ))))
noncomputable def mU:FS:=(sSeq (bK 2 (k9 (aI (a9 cQ (ag (aq (b6 (lG (aD FW (ao 0) (aq (aJ (.int 1))))) [none,none,none] (fW 3 (aB (ax 0) (aB (ax 1) (aB (ax 2) cq)))) cN (aK 0))) aA)) bJ)))
  (sSeq (bK 3 (k9 bJ))
  (sSeq (bK 4 (aJ (.int 0)))
  (sSeq g5
  ju))))
noncomputable def bI:List D->Res R:=fBody 2 5 mU
noncomputable def fR:FS:=(bK 3 (cH aY (ag (aq (aD cV (ao 4) (ao 3))) (ag (ao 2) aA))))
noncomputable def jv:FS:=(mL (lG (Ed (ao 0) (lb (aD cV (ao 1) (ao 2))) (lb (aD cV (ao 1) (aq (aJ (.int 84))))) (lb (aJ (.int 6))))) (ax 4)
  fR)
noncomputable def iM:FS:=(dS (kZ 3))
noncomputable def lP:FS:=(sSeq (bK 3 (aD cV (aq (aJ (.int 7))) (ao 2)))
  (sSeq jv
  iM))
noncomputable def dY:List D->Res R:=fBody 3 2 lP
noncomputable def fD:FS:=(sSeq (bK 5 (cH aY (ag (ao 0) (ag (ao 4) aA))))
  (sSeq (bK 6 (aD k8 (aq (aD fT (ao 5) (aq (aJ (.int 5))))) (aq (aJ (.int 2)))))
  (sSeq (bK 7 (aD eB (aq (aD fT (aq (aD eB (ao 5) (aq (aJ (.int 8))))) (aq (aJ (.int 4))))) (aq (aJ (.int 3)))))
  (sSeq (gQ (pg 2 (aD cV (aq (a9 maxD (ag (aq (aJ (.int 0))) (ag (aq (aD k8 (aq (aJ (.int 0))) (ao 6))) aA)))) (ao 7))))
  (gQ (pg 3 (aD cV (aq (a9 maxD (ag (aq (aJ (.int 0))) (ag (ao 6) aA)))) (ao 7))))))))
noncomputable def iN:FS:=(mL (dU (ao 1)) (ax 4)
  fD)
noncomputable def g6:FS:=(dS (z6 (aD fT (aq (aD eB (ao 0) (aq (aJ (.int 16))))) (aq (aJ (.int 4)))) (kZ 2) (kZ 3)))
noncomputable def km:FS:=(sSeq (bK 2 (k9 bJ))
  (sSeq (bK 3 (k9 bJ))
  (sSeq iN
  g6)))
noncomputable def dw:List D->Res R:=fBody 2 6 km
noncomputable def jw:FS:=(sSeq (bK 2 (aD cV (aq (aJ (.int 1))) (aq (aD fT (ao 1) (aq (aD yd (aq (aJ (.int 10))) (aq (aJ (.int 50)))))))))
  (sSeq (Dl (aK 0) (fW 3 (aB (ax 3) (aB (ax 4) (aB (ax 5) cq)))))
  (sSeq (bK 4 (a9 cQ (ag (aq (b6 (Gm (fQ 4) (Gm (fu (aK 4)) (fw (aK 4)))) [none,some 2] (ax 0) cN (aD jR (ao 1) (ao 0)))) aA)))
  (dS (i8 (aI (aD cV (aq (aD jR (ao 2) (ao 3))) (aq (aD fT (aq (aD eB (ao 1) (aq (aJ (.int 7))))) (ao 2)))) (aI (aK 4) (aI (a9 cQ (ag (aq (b6 (Gm (fQ 5) (Gm (fu (aK 5)) (fw (aK 5)))) [none,some 2] (ax 0) cN (aD jR (ao 1) (ao 0)))) aA)) bJ))))))))
noncomputable def cA:List D->Res R:=fBody 2 4 jw
noncomputable def dg:FS:=(sSeq (bK 5 (cH dY (ag (ao 0) (ag (ao 1) (ag (ao 4) aA)))))
  (sSeq (bK 6 (cH dw (ag (ao 5) (ag (ao 2) aA))))
  (sSeq (gQ (pg 3 (cH cA (ag (ao 6) (ag (aq (cH aG (ag (ao 0) (ag (aq (aD cV (ao 1) (ao 4))) aA)))) aA)))))
  (GS (Gg (aD OC (aq (aD fT (aq (aD eB (ao 5) (aq (aJ (.int 64))))) (aq (aJ (.int 3))))) (aq (aJ (.int 0)))))
  (sSeq (bK 7 (i8 (aI (aD fT (aq (aD eB (ao 5) (aq (aJ (.int 256))))) (aq (aJ (.int 4)))) (aI (aD FW (aq (aK 6)) (aq (aJ (.int 2)))) (aI (aD FW (aq (aK 6)) (aq (aJ (.int 1)))) bJ)))))
  (gQ (pg 3 (cH cA (ag (ao 7) (ag (aq (cH aG (ag (ao 0) (ag (aq (aD cV (aq (aD cV (ao 1) (aq (aJ (.int 6))))) (ao 4))) aA)))) aA))))))
  cM))))
noncomputable def g7:FS:=(mL (dU (aq (aD cV (aq (aJ (.int 1))) (aq (aD fT (aq (aD eB (aq (cH aG (ag (ao 0) (ag (aq (aJ (.int 1))) aA)))) (aq (aJ (.int 4))))) (aq (aJ (.int 4)))))))) (ax 4)
  dg)
noncomputable def gF:FS:=(dS (kZ 3))
noncomputable def jx:FS:=(sSeq (bK 3 (k9 bJ))
  (sSeq g7
  gF))
noncomputable def cW:List D->Res R:=fBody 3 5 jx
noncomputable def kn:FS:=(sSeq (bK 1 (cH dv (ag (aq (cH aG (ag (ao 0) (ag (aq (aJ (.int 0))) aA)))) aA)))
  (sSeq (bK 2 (cH aG (ag (ao 0) (ag (aq (aJ (.int 1))) aA))))
  (sSeq (bK 3 (aD cV (aq (aJ (.int 1))) (aq (aD fT (ao 2) (aq (aJ (.int 3)))))))
  (sSeq (bK 4 (aD fT (aq (aD eB (ao 2) (aq (aJ (.int 32))))) (aq (aD k8 (aq (aJ (.int 6))) (ao 3)))))
  (dS (a9 cQ (ag (aq (zT (ao 1) (lb (aK 4)) (lb (aD cV (ao 4) (ao 3))))) aA)))))))
noncomputable def dy:List D->Res R:=fBody 1 4 kn
noncomputable def mV:FS:=(sSeq (bK 2 (cH dy (ag (ao 0) aA)))
  (sSeq (bK 3 (a9 ka (ag (ao 2) aA)))
  (sSeq (bK 4 (cH cW (ag (ao 0) (ag (ao 1) (ag (ao 3) aA)))))
  (sSeq (GS (Gg (bq isnO (aq (cH bI (ag (aq (i8 (aI (aK 2) (aI (aK 4) bJ)))) (ag (aq (aJ (.int 8))) aA)))) (aq (aJ .non))))
  (dS (i8 (aI (aK 2) (aI (aK 4) bJ))))
  cM)
  (sSeq (bK 5 (a9 cQ (ag (aq (b6 (Gm (fQ 2) (Gm (fu (aK 2)) (fw (aK 2)))) [none] (ax 0) cN (aJ (.int 1)))) aA)))
  (sSeq (bK 6 (a9 cQ (ag (aq (b6 (Gm (fQ 2) (Gm (fu (aK 2)) (fw (aK 2)))) [none] (ax 0) cN (aJ (.int 0)))) aA)))
  (sSeq (GS (Gg (bq isnO (aq (cH bI (ag (aq (i8 (aI (aK 2) (aI (aD cV (ao 4) (aq (k9 (aI (i8 (aI (aJ (.int 2)) (aI (aK 5) (aI (aK 6) bJ)))) bJ)))) bJ)))) (ag (aq (aJ (.int 8))) aA)))) (aq (aJ .non))))
  (dS (i8 (aI (aK 2) (aI (aD cV (ao 4) (aq (k9 (aI (i8 (aI (aJ (.int 2)) (aI (aK 5) (aI (aK 6) bJ)))) bJ)))) bJ))))
  cM)
  (dS (i8 (aI (aK 2) (aI (aD cV (ao 4) (aq (k9 (aI (i8 (aI (aJ (.int 1)) (aI (aK 5) (aI (aK 6) bJ)))) bJ)))) bJ)))))))))))
noncomputable def dZ:List D->Res R:=fBody 2 5 mV
noncomputable def dh:FS:=(GS (Gg (bq Ln (ao 3) (ao 1)))
  (sSeq (bK 7 (i8 (aI (Cj nR (ao 1) (ag (ao 3) aA)) (aI (aK 4) (aI (Cj nR (ao 1) (ag (ao 5) aA)) bJ)))))
  (GS (Gg (bq qo (ao 7) (ao 6)))
  (gQ (pg 6 (aK 7)))
  cM))
  cM)
noncomputable def g8:FS:=(mL (lG (aK 0)) (fW 3 (aB (ax 3) (aB (ax 4) (aB (ax 5) cq))))
  dh)
noncomputable def gG:FS:=(dS (a9 fP (ag (ao 6) aA)))
noncomputable def di:FS:=(GS (AU (Gg (bq Hd (ao 3) (aq (aD FW (ao 1) (ao 2))))) (Gg (bq qo (ao 5) (ao 1))))
  (gQ (pg 1 (aK 5)))
  cM)
noncomputable def g9:FS:=(mL (lG (a9 fP (ag (ao 0) aA))) (fW 3 (aB (ax 3) (aB (ax 4) (aB (ax 5) cq))))
  di)
noncomputable def gH:FS:=(bK 2 (aD cV (ao 2) (aq (aJ (.int 1)))))
noncomputable def eI:FS:=(sSeq g9
  gH)
noncomputable def fE:FS:=(c6 (Gg (aD Kk (ao 2) (aq (a9 ka (ag (ao 1) aA)))))
  eI 100000)
noncomputable def gI:FS:=(sSeq (bK 6 (k9 bJ))
  (sSeq g8
  gG))
noncomputable def jy:FS:=(sSeq (bK 1 (k9 (aI (aJ (.int 0)) bJ)))
  (sSeq (bK 2 (aJ (.int 0)))
  (sSeq fE
  gI)))
noncomputable def cB:List D->Res R:=fBody 1 7 jy
noncomputable def lQ:FS:=(sSeq (bK 3 (aD cV (aq (aJ (.int 1))) (aq (a9 maxD (ag (aq (aD cV (aq (k9 (aI (aJ (.int 0)) bJ))) (aq (b6 (Gm (fQ 1) (Gm (fu (aK 1)) (fw (aK 1)))) [none] (ax 0) cN (a9 maxD (ag (aq (aD FW (ao 0) (aq (aJ (.int 0))))) (ag (aq (aD FW (ao 0) (aq (aJ (.int 2))))) aA))))))) aA)))))
  (sSeq (bK 4 (aD fT (aq (aD eB (ao 2) (aq (aJ (.int 128))))) (aq (a9 wt (ag (aq (aD cV (ao 3) (aq (aJ (.int 1))))) (ag (aq (aJ (.int 12))) aA))))))
  (sSeq (bK 5 (aD FW (ao 0) (aq (aD fT (aq (aD eB (ao 2) (aq (aJ (.int 2048))))) (aq (a9 ka (ag (ao 0) aA)))))))
  (sSeq (GS (NI (Gg (bq Hd (ao 1) (aq (k9 bJ)))) (Gg (bq Hd (aq (aD fT (ao 2) (aq (aJ (.int 5))))) (aq (aJ (.int 3))))))
  (dS (aD cV (ao 1) (aq (k9 (aI (i8 (aI (aD fT (aq (aD eB (ao 2) (aq (aJ (.int 8))))) (ao 3)) (aI (aK 5) (aI (aK 4) bJ)))) bJ)))))
  cM)
  (sSeq (bK 6 (aD fT (aq (aD eB (ao 2) (aq (aJ (.int 16384))))) (aq (a9 ka (ag (ao 1) aA)))))
  (sSeq (bK 7 (aD FW (ao 1) (ao 6)))
  (sSeq (bK 8 (aD cV (aq (zT (ao 1) sV (lb (aK 6)))) (aq (zT (ao 1) (lb (aD cV (ao 6) (aq (aJ (.int 1))))) sV))))
  (sSeq (GS (Gg (bq Hd (aq (aD fT (ao 2) (aq (aJ (.int 5))))) (aq (aJ (.int 0)))))
  (dS (kZ 8))
  cM)
  (sSeq (GS (Gg (bq Hd (aq (aD fT (ao 2) (aq (aJ (.int 5))))) (aq (aJ (.int 1)))))
  (dS (aD cV (ao 8) (aq (k9 (aI (i8 (aI (aD FW (ao 7) (aq (aJ (.int 0)))) (aI (aD FW (ao 7) (aq (aJ (.int 1)))) (aI (aK 4) bJ)))) bJ)))))
  cM)
  (sSeq (GS (NI (Gg (bq Hd (aq (aD fT (ao 2) (aq (aJ (.int 5))))) (aq (aJ (.int 2))))) (Gg (bq Hd (ao 3) (aq (aJ (.int 1))))))
  (dS (aD cV (ao 8) (aq (k9 (aI (i8 (aI (aD FW (ao 7) (aq (aJ (.int 0)))) (aI (aK 5) (aI (aD FW (ao 7) (aq (aJ (.int 2)))) bJ)))) bJ)))))
  cM)
  (sSeq (bK 9 (aD cV (aq (aJ (.int 1))) (aq (aD fT (aq (aD eB (ao 2) (aq (aJ (.int 8))))) (aq (aD k8 (ao 3) (aq (aJ (.int 1)))))))))
  (sSeq (bK 10 (b6 (dU (ao 3)) [none] (ax 0) cN (aK 0)))
  (sSeq (vo 10 (aK 9) (aD fT (ao 4) (ao 3)))
  (dS (b6 (Gm (fQ 1) (Gm (fu (aK 1)) (fw (aK 1)))) [none,none,none,some 10] (fW 3 (aB (ax 0) (aB (ax 1) (aB (ax 2) cq)))) cN (i8 (aI (aD FW (ao 3) (ao 0)) (aI (aK 1) (aI (aD FW (ao 3) (ao 2)) bJ)))))))))))))))))))
noncomputable def d4:List D->Res R:=fBody 3 8 lQ
noncomputable def cZ:FS:=(sSeq (bK 5 (cH aY (ag (aq (cH aG (ag (ao 0) (ag (ao 4) aA)))) (ag (ao 4) aA))))
  (GS (Gg (bq Hd (aq (aD fT (aq (aD eB (ao 5) (aq (aJ (.int 64))))) (aq (aJ (.int 3))))) (aq (aJ (.int 0)))))
  (bK 3 (cH cB (ag (aq (cH d4 (ag (aq (aD FW (ao 1) (aq (aJ (.int 0))))) (ag (ao 3) (ag (aq (aD eB (ao 5) (aq (aJ (.int 192))))) aA))))) aA)))
  cM))
noncomputable def fF:FS:=(mL (qh (ag (ao 2) (ag (aq (aD cV (ao 2) (aq (aJ (.int 3))))) aA))) (ax 4)
  cZ)
noncomputable def eR:FS:=(dS (i8 (aI (aD FW (ao 1) (aq (aJ (.int 0)))) (aI (cH cB (ag (ao 3) aA)) bJ))))
noncomputable def f6:FS:=(sSeq (bK 3 (aD FW (aq (cH bI (ag (ao 1) (ag (aq (aJ (.int 8))) aA)))) (aq (aJ (.int 0)))))
  (sSeq fF
  eR))
noncomputable def bp:List D->Res R:=fBody 3 3 f6
noncomputable def eJ:FS:=(sSeq (bK 7 (aD FW (ao 1) (aq (xl mw (aq (aD FW (ao 0) (aq (aJ (.int 0))))) (ag (ao 5) aA)))))
  (GS (Gg (bq Jb (aq (aD Jc (ao 2) (ao 6))) (aq (aD cV (aq (aD Jc (ao 2) (ao 4))) (ao 7)))))
  (dS (aJ .non))
  cM))
noncomputable def fG:FS:=(mL (lG (aD FW (ao 0) (aq (aJ (.int 1))))) (fW 3 (aB (ax 4) (aB (ax 5) (aB (ax 6) cq))))
  eJ)
noncomputable def gJ:FS:=(dS (b6 (dU (aq (a9 ka (ag (ao 2) aA)))) [none,some 2] (ax 0) cN (aD Jc (ao 1) (ao 0))))
noncomputable def dj:FS:=(sSeq (bK 7 (aD FW (ao 1) (aq (xl mw (aq (aD FW (ao 0) (aq (aJ (.int 0))))) (ag (ao 5) aA)))))
  (GS (AU (Gg (bq Ln (ao 4) (ao 2))) (Gg (bq qo (ao 6) (ao 2))))
  (sSeq (B6 2 (aK 6) (aD cV (aq (aD Jc (ao 2) (ao 4))) (ao 7)))
  (bK 3 (aJ (.bl true))))
  cM))
noncomputable def hJ:FS:=(mL (lG (aD FW (ao 0) (aq (aJ (.int 1))))) (fW 3 (aB (ax 4) (aB (ax 5) (aB (ax 6) cq))))
  dj)
noncomputable def eK:FS:=(sSeq (bK 3 (aJ (.bl false)))
  hJ)
noncomputable def hU:FS:=(c6 (Gg (aK 3))
  eK 100000)
noncomputable def gK:FS:=(sSeq fG
  gJ)
noncomputable def jz:FS:=(sSeq (bK 2 (rM (aJ (.int 0)) (aJ (.int 0))))
  (sSeq (bK 3 (aJ (.bl true)))
  (sSeq hU
  gK)))
noncomputable def cX:List D->Res R:=fBody 2 6 jz
noncomputable def c5:FS:=(GS (AU (Gg (bq Jb (aq (aD FW (ao 1) (ao 3))) (aq (aJ (.int 0))))) (Gg (bq qo (aq (aD FW (aq (aD FW (ao 0) (aq (aJ (.int 0))))) (ao 3))) (ao 2))))
  (dS (aJ (.bl false)))
  cM)
noncomputable def dr:FS:=(mL (dU (aq (a9 ka (ag (ao 1) aA)))) (ax 3)
  c5)
noncomputable def eS:FS:=(dS (bq isnO (aq (cH cX (ag (ao 0) (ag (ao 1) aA)))) (aq (aJ .non))))
noncomputable def f7:FS:=(sSeq (bK 2 (b6 (lG (aD FW (ao 0) (aq (aJ (.int 1))))) [none,none,none] (fW 3 (aB (ax 0) (aB (ax 1) (aB (ax 2) cq)))) cN (aK 1)))
  (sSeq dr
  eS))
noncomputable def bP:List D->Res R:=fBody 2 2 f7
noncomputable def gw:FS:=(sSeq (bK 5 (aD k8 (aq (aD FW (aq (aD FW (ao 1) (aq (aJ (.int 2))))) (ao 4))) (aq (aD FW (aq (aD FW (ao 1) (aq (aJ (.int 1))))) (ao 4)))))
  (gQ (pg 3 (aD jR (ao 5) (aq (a9 zL (ag (aq (bq Ln (aq (aD FW (aq (aD FW (ao 0) (aq (aJ (.int 0))))) (ao 4))) (ao 2))) aA)))))))
noncomputable def ko:FS:=(mL (dU (aq (a9 ka (ag (aq (aD FW (ao 0) (aq (aJ (.int 0))))) aA)))) (ax 4)
  gw)
noncomputable def jA:FS:=(sSeq (GS (Gg (cH bP (ag (ao 0) (ag (ao 3) aA))))
  (dS (kZ 3))
  cM)
  (dS (b6 (lG (aD FW (ao 0) (aq (aJ (.int 0))))) [none] (ax 0) cN (aJ (.int 0)))))
noncomputable def mW:FS:=(sSeq (bK 2 (b6 (lG (aD FW (ao 0) (aq (aJ (.int 1))))) [none,none,none] (fW 3 (aB (ax 0) (aB (ax 1) (aB (ax 2) cq)))) cN (aK 1)))
  (sSeq (bK 3 (k9 bJ))
  (sSeq ko
  jA)))
noncomputable def d5:List D->Res R:=fBody 2 4 mW
noncomputable def kK:FS:=(sSeq (bK 14 (aD k8 (aq (aD cV (aq (aD k8 (aq (aD FW (ao 7) (ao 13))) (aq (aD FW (ao 7) (aq (aJ (.int 0))))))) (aq (aD FW (ao 8) (ao 13))))) (aq (aD FW (ao 8) (aq (aJ (.int 0)))))))
  (GS (Gg (bq Jb (aq (aD k8 (aq (aD FW (ao 12) (ao 13))) (aq (aD FW (ao 12) (aq (aJ (.int 0))))))) (ao 14)))
  (dS (aJ (.bl false)))
  cM))
noncomputable def vC:FS:=(mL (dU (aq (a9 ka (ag (ao 12) aA)))) (ax 13)
  kK)
noncomputable def rQ:FS:=(sSeq (bK 15 (b6 (lG (aD FW (ao 2) (aq (aJ (.int 1))))) [none,none,none] (fW 3 (aB (ax 0) (aB (ax 1) (aB (ax 2) cq)))) cN (aK 1)))
  (sSeq (bK 16 (a9 cQ (ag (aq (b6 (lG (aD FW (ao 2) (aq (aJ (.int 0))))) [none,some 15] (ax 0) cN (a9 zL (ag (aq (bq qo (ao 0) (ao 1))) aA)))) aA)))
  (sSeq (bK 17 (a9 cQ (ag (aq (b6 (lG (aD FW (ao 2) (aq (aJ (.int 0))))) [none] (ax 0) cN (aJ (.int 0)))) aA)))
  (sSeq (GS (Gg (bq Jb (aq (cH bC (ag (ao 2) (ag (ao 17) aA)))) (aq (b6 (Gm (fQ 7) (Gm (fu (aK 7)) (fw (aK 7)))) [none] (ax 0) cN (aJ (.int 0))))))
  (dS (aJ (.bl false)))
  cM)
  (dS (bq Hd (aq (cH eW (ag (ao 2) (ag (ao 17) aA)))) (aq (i8 (aI (aJ (.int 0)) (aI (aK 16) (aI (aK 16) bJ)))))))))))
noncomputable def Cp:FS:=(sSeq (bK 1 (cH dZ (ag (ao 0) (ag (aq (aJ (.int 5))) aA))))
  (sSeq (bK 2 (i8 (aI (aD FW (ao 1) (aq (aJ (.int 0)))) (aI (aD FW (aq (cH bI (ag (ao 1) (ag (aq (aJ (.int 8))) aA)))) (aq (aJ (.int 0)))) bJ))))
  (sSeq (GS (Gg (bq Hd (aq (aD fT (aq (aD eB (aq (cH aG (ag (ao 0) (ag (aq (aJ (.int 1))) aA)))) (aq (aJ (.int 256))))) (aq (aJ (.int 2))))) (aq (aJ (.int 1)))))
  (bK 2 (cH bp (ag (ao 0) (ag (ao 1) (ag (aq (aJ (.int 2))) aA)))))
  cM)
  (sSeq (bK 3 (cH aY (ag (aq (cH aG (ag (ao 0) (ag (aq (aJ (.int 1))) aA)))) (ag (aq (aJ (.int 9))) aA))))
  (sSeq (bK 4 (cH d5 (ag (ao 2) (ag (aq (aD FW (aq (aD FW (ao 1) (aq (aJ (.int 1))))) (aq (aD fT (ao 3) (aq (a9 ka (ag (aq (aD FW (ao 1) (aq (aJ (.int 1))))) aA))))))) aA))))
  (sSeq (bK 5 (cH d5 (ag (ao 2) (ag (aq (aD FW (aq (aD FW (ao 1) (aq (aJ (.int 1))))) (aq (aD fT (aq (aD eB (ao 3) (aq (aJ (.int 16))))) (aq (a9 ka (ag (aq (aD FW (ao 1) (aq (aJ (.int 1))))) aA))))))) aA))))
  (sSeq (bK 6 (aD fT (aq (cH aG (ag (ao 0) (ag (aq (aJ (.int 2))) aA)))) (aq (aD yd (aq (aJ (.int 10))) (aq (aJ (.int 9)))))))
  (sSeq (bK 7 (cH bC (ag (ao 2) (ag (aq (a9 cQ (ag (ao 4) aA))) aA))))
  (sSeq (bK 8 (cH bC (ag (ao 2) (ag (aq (a9 cQ (ag (ao 5) aA))) aA))))
  (sSeq (bK 9 (a9 cQ (ag (aq (b6 (Gm (fQ 4) (Gm (fu (aK 4)) (fw (aK 4)))) [none,some 6] (ax 0) cN (aD jR (ao 1) (ao 0)))) aA)))
  (sSeq (GS (Gg (bq Jb (aq (cH bC (ag (ao 2) (ag (ao 9) aA)))) (aq (b6 (Gm (fQ 7) (Gm (fu (aK 7)) (fw (aK 7)))) [none,some 6] (ax 0) cN (aD jR (ao 1) (ao 0))))))
  (dS (aJ (.bl false)))
  cM)
  (sSeq (bK 10 (a9 cQ (ag (aq (b6 (Gm (fQ 4) (Gm (fu (aK 4)) (fw (aK 4)))) [none] (ax 0) cN (aD k8 (aq (aJ (.int 0))) (ao 0)))) aA)))
  (sSeq (GS (Gg (bq Jb (aq (cH bC (ag (ao 2) (ag (ao 10) aA)))) (aq (b6 (Gm (fQ 7) (Gm (fu (aK 7)) (fw (aK 7)))) [none,some 7] (ax 0) cN (aD k8 (aq (a9 maxD (ag (ao 1) aA))) (ao 0))))))
  (dS (aJ (.bl false)))
  cM)
  (sSeq (bK 11 (a9 cQ (ag (aq (b6 (dU (aq (a9 ka (ag (ao 4) aA)))) [none,some 4,some 5] (ax 0) cN (aD cV (aq (aD FW (ao 1) (ao 0))) (aq (aD FW (ao 2) (ao 0)))))) aA)))
  (sSeq (GS (Gg (bq isnO (aq (cH bO (ag (ao 2) (ag (ao 11) aA)))) (aq (aJ (.bl true)))))
  (dS (aJ (.bl false)))
  cM)
  (sSeq (bK 12 (cH bC (ag (ao 2) (ag (ao 11) aA))))
  (sSeq (GS (NI (Gg (bq Jb (aq (a9 ka (ag (ao 12) aA))) (aq (a9 ka (ag (ao 7) aA))))) (Gg (bq Jb (aq (a9 wt (ag (ao 12) aA))) (aq (aJ (.int 0))))))
  (dS (aJ (.bl false)))
  cM)
  (sSeq vC
  rQ))))))))))))))))))
noncomputable def z8:List D->Res R:=fBody 1 17 Cp
end LW
namespace LW
open PySem PySem.Spec PyProof.Rows L2 NX PV
theorem yr {α:Type} {Q:List α->Prop} (h:∀ a,Q [a]):∀ us,us.length=1->Q us
 | [a],_=>h a
theorem p5 {α:Type} {Q:List α->Prop} (h:∀ a b,Q [a,b]):∀ us,us.length=2->Q us
 | [a,b],_=>h a b
theorem AX {α:Type} {Q:List α->Prop} (h:∀ a b c,Q [a,b,c]):∀ us,us.length=3->Q us
 | [a,b,c],_=>h a b c
theorem cT {X:Cx} {tg e:Expr} {f:FX} (h:QE X e f):QI X tg e (Gm (BP f) (Gm (fu f) (fw f))):=uX (zt h) (uX (eO h) (eQ h))
noncomputable def top (i:Nat):Stmt:=PySem.Challenge.pw_netfinder_k54_stretches_put_together.main.body.getD i (.Pass ⟨0,0,0,0⟩)
theorem Fo:Str.ofString "moves" = S [109,111,118,101,115]:=by decide +kernel
theorem Fp:Str.ofString "s" = S [115]:=by decide +kernel
theorem Fq:Str.ofString "" = S []:=by decide +kernel
theorem Fs:Str.ofString "abcdefghijklmnopqrstuvwxyz" = S [97,98,99,100,101,102,103,104,105,106,107,108,109,110,111,112,113,114,115,116,117,118,119,120,121,122]:=by decide +kernel
section
variable {P:Program} {w:World} {K:W.Frag} {mg:Str->Option Value} {base:Heap}
abbrev lR:Stmt:=top 4
theorem sY:FnScope ["one","other"] ["one","other"] (defScope lR):=fs
theorem sZ (Df:Def K mg "product" lR) (Jd:mg "sum" = none) (GH:mg "zip" = none):Ct P w K mg base "product" 1 (spF K cE):=
 dA Df sY (fun _ _ _ _ _ _=>p5 fun _ _=>rfl) fun f F7 A outer s H E hr=>
  (az (aX (aR (B1 rfl) (by rfl) Jd Cb (af (aa (aS [none,none] ["number","factor"] rfl (aT (lE (by rfl) GH (af (aa (aw (pv 0))) (af (aa (aw (pv 1))) aj)))) (fun _ _ _ _ _=>(have h:=(show List.Nodup (["number","factor"]:List Str) from by decide +kernel);(dE rfl (aF (av (i:=0) h rfl (lo rfl)) (aF (av (i:=1) h rfl (lo rfl)) cy))))) (fun _ _ _ _ _=>a7) (fun _ _ _ _ _=>(aH eG (ae (pv 0)) (ae (pv 1)))))) aj))))
abbrev vD:Stmt:=top 5
theorem z9:FnScope ["row","other"] ["row","other"] (defScope vD):=fs
theorem Aa (Df:Def K mg "less" vD) (FQ:mg "tuple" = none) (GH:mg "zip" = none):Ct P w K mg base "less" 1 (spF K lH):=
 dA Df z9 (fun _ _ _ _ _ _=>p5 fun _ _=>rfl) fun f F7 A outer s H E hr=>
  (az (aX (bj bS (by rfl) FQ bR (af (aa (aS [none,none] ["number","taken"] rfl (aT (lE (by rfl) GH (af (aa (aw (pv 0))) (af (aa (aw (pv 1))) aj)))) (fun _ _ _ _ _=>(have h:=(show List.Nodup (["number","taken"]:List Str) from by decide +kernel);(dE rfl (aF (av (i:=0) h rfl (lo rfl)) (aF (av (i:=1) h rfl (lo rfl)) cy))))) (fun _ _ _ _ _=>a7) (fun _ _ _ _ _=>(aH fX (ae (pv 0)) (ae (pv 1)))))) aj))))
abbrev iW:Stmt:=top 7
theorem pN:FnScope ["chart"] ["chart"] (defScope iW):=fs
theorem pO (Df:Def K mg "states_of" iW) (Gq:mg "max" = none):Ct P w K mg base "states_of" 1 (spF K dW):=
 dA Df pN (fun _ _ _ _ _ _=>yr fun _=>rfl) fun f F7 A outer s H E hr=>
  (az (aX (aH aM (aa ai) (aa (zJ rfl (by rfl) Gq (aS [none,none,none] ["first","move","second"] rfl (aT (cT (aQ (ae (pv 0)) (aa ai)))) (fun _ _ _ _ _=>(have h:=(show List.Nodup (["first","move","second"]:List Str) from by decide +kernel);(dE rfl (aF (av (i:=0) h rfl (lo rfl)) (aF (av (i:=1) h rfl (lo rfl)) (aF (av (i:=2) h rfl (lo rfl)) cy)))))) (fun _ _ _ _ _=>a7) (fun _ _ _ _ _=>(aR (lq rfl) (by rfl) Gq lC (af (ae (pv 0)) (af (ae (pv 2)) aj))))) ai)))))
abbrev lS:Stmt:=top 8
theorem eX:FnScope ["arcs","met","tree","looked_at","arc"] ["arcs"] (defScope lS):=fs
theorem tf (Df:Def K mg "tree_of" lS) (F0:mg "len" = none):Ct P w K mg base "tree_of" 1 (spF K c9):=
 dA Df eX (fun _ _ _ _ _ _=>yr fun _=>rfl) fun f F7 A outer s H E hr=>
  (ah (aE (i:=1) eX.nd rfl (lo rfl) (c7 (ay ai aO)))
  (ah (aE (i:=2) eX.nd rfl (lo rfl) (c7 aO))
  (ah (aE (i:=3) eX.nd rfl (lo rfl) ai)
  (ah (kJ 100000 PassesOwn.never (mK (px hr.units0) (ae (pv 3)) (aa (aR cR (by rfl) F0 bt_len (af (ae (pv 1)) aj))) (bD _))
  (ah (eh PassesOwn.never rfl (cT (aw (pv 0))) (av (i:=4) eX.nd rfl (lo rfl))
  (az (cY (QW.qt (rp (ba (iH hr.units) (aa (aQ (ae (pv 4)) (aa ai))) (aa (aQ (ae (pv 1)) (ae (pv 3)))) (bD _)) (nG (ba (gT hr.u65) (aa (aQ (ae (pv 4)) (aa ai))) (ae (pv 1)) (by with_unfolding_all rfl)))))
  (ah (dD (b7 (pv 1) (aQ (ae (pv 4)) (aa ai))))
  (az (dD (b7 (pv 2) (aw (pv 4))))))
  bg)))
  (az (aE (i:=3) eX.nd rfl (lo rfl) (aH aM (ae (pv 3)) (aa ai))))))
  (az (aX (gO (pv 2))))))))
abbrev lT:Stmt:=top 10
theorem f9:FnScope ["chart","ways","first","move","second"] ["chart"] (defScope lT):=fs
theorem tj (Df:Def K mg "ways_of" lT) (Je:Ct P w K mg base "states_of" 1 (spF K dW)) (HL:Ct P w K mg base "tree_of" 1 (spF K c9)) (FU:mg "range" = none):Ct P w K mg base "ways_of" 2 (spF K cS):=
 dA Df f9 (fun _ _ _ _ _ _=>yr fun _=>rfl) fun f F7 A outer s H E hr=>
  (ah (aE (i:=1) f9.nd rfl (lo rfl) (rN ai (cJ aO)))
  (ah (eh PassesOwn.never rfl (cT (aP HL hr.m (by rfl) (af (aa (aQ (ae (pv 0)) (aa ai))) aj))) (dE rfl (aF (av (i:=2) f9.nd rfl (lo rfl)) (aF (av (i:=3) f9.nd rfl (lo rfl)) (aF (av (i:=4) f9.nd rfl (lo rfl)) cy))))
  (az (ym (hu_of hr) (pv 1) (aw (pv 4)) (aH aM (aa (sX (hu_of hr) (ae (pv 1)) (ae (pv 2)))) (aa (cJ (ay (aw (pv 3)) aO)))))))
  (az (aX (aS [none,some 1] ["state","ways"] rfl (aT (cP (by rfl) FU (aa (aP Je hr.m (by rfl) (af (ae (pv 0)) aj))))) (fun _ _ _ _ _=>(av (i:=0) (show List.Nodup (["state","ways"]:List Str) from by decide +kernel) rfl (lo rfl))) (fun _ _ _ _ _=>a7) (fun _ _ _ _ _=>(sX (hu_of hr) (ae (pv 1)) (ae (pv 0)))))))))
abbrev lU:Stmt:=top 11
theorem tm:FnScope ["moves","way"] ["moves","way"] (defScope lU):=fs
theorem tq (Df:Def K mg "counted" lU) (FQ:mg "tuple" = none):Ct P w K mg base "counted" 1 (spF K de):=
 dA Df tm (fun _ _ _ _ _ _=>p5 fun _ _=>rfl) fun f F7 A outer s H E hr=>
  (az (aX (bj bS (by rfl) FQ bR (af (aa (aS [none,some 1] ["move","way"] rfl (bX (dm (pv 0)) (bX (aT (eO (aw (pv 0)))) (aT (eQ (aw (pv 0)))))) (fun _ _ _ _ _=>(av (i:=0) (show List.Nodup (["move","way"]:List Str) from by decide +kernel) rfl (lo rfl))) (fun _ _ _ _ _=>a7) (fun _ _ _ _ _=>(rJ PySem.F.slot_tuple_count PySem.F.type_tuple_count ql (ae (pv 1)) (af (ae (pv 0)) aj))))) aj))))
abbrev iX:Stmt:=top 12
theorem pP:FnScope ["chart"] ["chart"] (defScope iX):=fs
theorem pQ (Df:Def K mg "counts_of" iX) (Ha:Ct P w K mg base "counted" 1 (spF K de)) (HM:Ct P w K mg base "ways_of" 2 (spF K cS)):Ct P w K mg base "counts_of" 3 (spF K dn):=
 dA Df pP (fun _ _ _ _ _ _=>yr fun _=>rfl) fun f F7 A outer s H E hr=>
  (az (aX (aS [none,some 0] ["way","chart"] rfl (aT (cT (aP HM hr.m (by rfl) (af (ae (pv 0)) aj)))) (fun _ _ _ _ _=>(av (i:=0) (show List.Nodup (["way","chart"]:List Str) from by decide +kernel) rfl (lo rfl))) (fun _ _ _ _ _=>a7) (fun _ _ _ _ _=>(aP Ha hr.m (by rfl) (af (aa (aQ (ae (pv 1)) (aa ai))) (af (ae (pv 0)) aj)))))))
abbrev jS:Stmt:=top 13
theorem fH:FnScope ["chart","ways","tree","rings","arc"] ["chart"] (defScope jS):=fs
theorem qp (Df:Def K mg "rings_of" jS) (Ha:Ct P w K mg base "counted" 1 (spF K de)) (My:Ct P w K mg base "less" 1 (spF K lH)) (HL:Ct P w K mg base "tree_of" 1 (spF K c9)) (HM:Ct P w K mg base "ways_of" 2 (spF K cS)):Ct P w K mg base "rings_of" 3 (spF K dX):=
 dA Df fH (fun _ _ _ _ _ _=>yr fun _=>rfl) fun f F7 A outer s H E hr=>
  (ah (aE (i:=1) fH.nd rfl (lo rfl) (aP HM hr.m (by rfl) (af (ae (pv 0)) aj)))
  (ah (aE (i:=2) fH.nd rfl (lo rfl) (aP HL hr.m (by rfl) (af (aa (aQ (ae (pv 0)) (aa ai))) aj)))
  (ah (aE (i:=3) fH.nd rfl (lo rfl) (c7 aO))
  (ah (eh PassesOwn.never rfl (cT (aQ (ae (pv 0)) (aa ai))) (av (i:=4) fH.nd rfl (lo rfl))
  (az (cY (ba (gT hr.u65) (ae (pv 4)) (ae (pv 2)) (by with_unfolding_all rfl))
  (az (dD (b7 (pv 3) (aP My hr.m (by rfl) (af (aa (aP Ha hr.m (by rfl) (af (aa (aQ (ae (pv 0)) (aa ai))) (af (aa (aH aM (aa (aQ (ae (pv 1)) (aa (aQ (ae (pv 4)) (aa ai))))) (aa (cJ (ay (aQ (ae (pv 4)) (aa ai)) aO))))) aj)))) (af (aa (aP Ha hr.m (by rfl) (af (aa (aQ (ae (pv 0)) (aa ai))) (af (aa (aQ (ae (pv 1)) (aa (aQ (ae (pv 4)) (aa ai))))) aj)))) aj))))))
  bg)))
  (az (aX (gO (pv 3))))))))
abbrev jT:Stmt:=top 15
theorem qq:FnScope ["chart","move"] ["chart","move"] (defScope jT):=fs
theorem qr (Df:Def K mg "has_arcs" jT) (Ij:mg "any" = none):Ct P w K mg base "has_arcs" 1 (spF K du):=
 dA Df qq (fun _ _ _ _ _ _=>p5 fun _ _=>rfl) fun f F7 A outer s H E hr=>
  (az (aX (aR (yg rfl) (by rfl) Ij yn (af (aa (aS [none,none,none,some 1] ["first","by","second","move"] rfl (aT (cT (aQ (ae (pv 0)) (aa ai)))) (fun _ _ _ _ _=>(have h:=(show List.Nodup (["first","by","second","move"]:List Str) from by decide +kernel);(dE rfl (aF (av (i:=0) h rfl (lo rfl)) (aF (av (i:=1) h rfl (lo rfl)) (aF (av (i:=2) h rfl (lo rfl)) cy)))))) (fun _ _ _ _ _=>a7) (fun _ _ _ _ _=>(iR (iH hr.units) (ae (pv 1)) (ae (pv 3)) (bD _))))) aj))))
abbrev hV:Stmt:=top 16
theorem nS:FnScope ["chart","row"] ["chart","row"] (defScope hV):=fs
theorem nU (Df:Def K mg "is_stretch" hV) (JD:Ct P w K mg base "has_arcs" 1 (spF K du)) (HN:Ct P w K mg base "product" 1 (spF K cE)) (JE:Ct P w K mg base "rings_of" 3 (spF K dX)) (Jf:mg "all" = none) (Ij:mg "any" = none) (GH:mg "zip" = none):Ct P w K mg base "is_stretch" 4 (spF K bO):=
 dA Df nS (fun _ _ _ _ _ _=>p5 fun _ _=>rfl) fun f F7 A outer s H E hr=>
  (ah (cY (rl (aR (yg rfl) (by rfl) Ij yn (af (aa (aS [none,some 1] ["ring","row"] rfl (aT (cT (aP JE hr.m (by rfl) (af (ae (pv 0)) aj)))) (fun _ _ _ _ _=>(av (i:=0) (show List.Nodup (["ring","row"]:List Str) from by decide +kernel) rfl (lo rfl))) (fun _ _ _ _ _=>a7) (fun _ _ _ _ _=>(iR (nM hr.units) (aa (aP HN hr.m (by rfl) (af (ae (pv 1)) (af (ae (pv 0)) aj)))) (aa ai) (bD _))))) aj)))
  (az (aX kA))
  bg)
  (az (aX (aR (BW rfl) (by rfl) Jf Cc (af (aa (aS [none,none,some 0] ["move","number","chart"] rfl (aT (lE (by rfl) GH (af (aa (aQ (ae (pv 0)) (aa ai))) (af (aa (aw (pv 1))) aj)))) (fun _ _ _ _ _=>(have h:=(show List.Nodup (["move","number","chart"]:List Str) from by decide +kernel);(dE rfl (aF (av (i:=0) h rfl (lo rfl)) (aF (av (i:=1) h rfl (lo rfl)) cy))))) (fun _ _ _ _ _=>a7) (fun _ _ _ _ _=>(DZ (iR (iH hr.units) (ae (pv 1)) (aa ai) (bD _)) (BO (aP JD hr.m (by rfl) (af (ae (pv 2)) (af (ae (pv 0)) aj)))))))) aj)))))
abbrev jU:Stmt:=top 17
theorem lV:FnScope ["chart","row","heights"] ["chart","row"] (defScope jU):=fs
theorem qu (Df:Def K mg "beads_of" jU) (Jg:Ct P w K mg base "counts_of" 3 (spF K dn)) (GK:Ct P w K mg base "is_stretch" 4 (spF K bO)) (HN:Ct P w K mg base "product" 1 (spF K cE)) (GW:mg "min" = none):Ct P w K mg base "beads_of" 5 (spF K bC):=
 dA Df lV (fun _ _ _ _ _ _=>p5 fun _ _=>rfl) fun f F7 A outer s H E hr=>
  (ah (cY (BN (rl (aP GK hr.m (by rfl) (af (ae (pv 0)) (af (ae (pv 1)) aj)))))
  (az xc)
  bg)
  (ah (aE (i:=2) lV.nd rfl (lo rfl) (aS [none,some 1] ["counts","row"] rfl (aT (cT (aP Jg hr.m (by rfl) (af (ae (pv 0)) aj)))) (fun _ _ _ _ _=>(av (i:=0) (show List.Nodup (["counts","row"]:List Str) from by decide +kernel) rfl (lo rfl))) (fun _ _ _ _ _=>a7) (fun _ _ _ _ _=>(aP HN hr.m (by rfl) (af (ae (pv 1)) (af (ae (pv 0)) aj))))))
  (az (aX (aS [none,some 2] ["height","heights"] rfl (bX (dm (pv 2)) (bX (aT (eO (aw (pv 2)))) (aT (eQ (aw (pv 2)))))) (fun _ _ _ _ _=>(av (i:=0) (show List.Nodup (["height","heights"]:List Str) from by decide +kernel) rfl (lo rfl))) (fun _ _ _ _ _=>a7) (fun _ _ _ _ _=>(aH fX (ae (pv 0)) (aa (aR (vn rfl) (by rfl) GW vh (af (ae (pv 1)) aj))))))))))
abbrev qv:Stmt:=top 18
theorem rR:FnScope ["chart","beads","move","having"] ["chart","beads","move"] (defScope qv):=fs
theorem xn (Df:Def K mg "taken" qv) (Gq:mg "max" = none) (GW:mg "min" = none):Ct P w K mg base "taken" 1 (spF K gY):=
 dA Df rR (fun _ _ _ _ _ _=>AX fun _ _ _=>rfl) fun f F7 A outer s H E hr=>
  (ah (jo (i:=3) [none,none,none,some 1,some 2] ["first","by","second","beads","move"] rR.nd rfl (lo rfl) rfl (aT (cT (aQ (ae (pv 0)) (aa ai)))) (fun _ _ _ _ _=>(have h:=(show List.Nodup (["first","by","second","beads","move"]:List Str) from by decide +kernel);(dE rfl (aF (av (i:=0) h rfl (lo rfl)) (aF (av (i:=1) h rfl (lo rfl)) (aF (av (i:=2) h rfl (lo rfl)) cy)))))) (fun _ _ _ _ _=>(zu (ba (iH hr.units) (ae (pv 1)) (ae (pv 4)) (bD _)))) (fun _ _ _ _ _=>(aQ (ae (pv 3)) (ae (pv 0)))))
  (az (aX (zZ rfl (by rfl) GW (aw (pv 3)) (aH aM (aa (aR (lq rfl) (by rfl) Gq lC (af (ae (pv 1)) aj))) (aa ai))))))
abbrev jV:Stmt:=top 19
theorem iY:FnScope ["chart","row","beads","takes"] ["chart","row"] (defScope jV):=fs
theorem qw (Df:Def K mg "place_of" jV) (F6:Ct P w K mg base "beads_of" 5 (spF K bC)) (Lo:Ct P w K mg base "taken" 1 (spF K gY)) (FQ:mg "tuple" = none) (GH:mg "zip" = none):Ct P w K mg base "place_of" 6 (spF K eW):=
 dA Df iY (fun _ _ _ _ _ _=>p5 fun _ _=>rfl) fun f F7 A outer s H E hr=>
  (ah (aE (i:=2) iY.nd rfl (lo rfl) (aP F6 hr.m (by rfl) (af (ae (pv 0)) (af (ae (pv 1)) aj))))
  (ah (aE (i:=3) iY.nd rfl (lo rfl) (bj bS (by rfl) FQ bR (af (aa (aS [none,some 0,some 2] ["move","chart","beads"] rfl (aT (cT (aQ (ae (pv 0)) (aa ai)))) (fun _ _ _ _ _=>(av (i:=0) (show List.Nodup (["move","chart","beads"]:List Str) from by decide +kernel) rfl (lo rfl))) (fun _ _ _ _ _=>a7) (fun _ _ _ _ _=>(aP Lo hr.m (by rfl) (af (ae (pv 1)) (af (ae (pv 2)) (af (ae (pv 0)) aj))))))) aj)))
  (az (aX (cJ (ay (aQ (ae (pv 2)) (aa ai)) (ay (aw (pv 3)) (ay (bj bS (by rfl) FQ bR (af (aa (aS [none,none] ["number","more"] rfl (aT (lE (by rfl) GH (af (aa (aw (pv 3))) (af (aa (aw (pv 1))) aj)))) (fun _ _ _ _ _=>(have h:=(show List.Nodup (["number","more"]:List Str) from by decide +kernel);(dE rfl (aF (av (i:=0) h rfl (lo rfl)) (aF (av (i:=1) h rfl (lo rfl)) cy))))) (fun _ _ _ _ _=>a7) (fun _ _ _ _ _=>(aH aM (ae (pv 0)) (ae (pv 1)))))) aj)) aO))))))))
abbrev fS:Stmt:=top 21
theorem lW:FnScope ["_law_script","_law_k"] ["_law_script","_law_k"] (defScope fS):=fs
theorem lX (Df:Def K mg "_law_cell_at" fS) (F0:mg "len" = none):Ct P w K mg base "_law_cell_at" 1 (spF K aG):=
 dA Df lW (fun _ _ _ _ _ _=>p5 fun _ _=>rfl) fun f F7 A outer s H E hr=>
  (ah (cY (mK (px hr.units0) (ae (pv 1)) (aa (aR cR (by rfl) F0 bt_len (af (ae (pv 0)) aj))) (bD _))
  (az (aX (aQ (ae (pv 0)) (ae (pv 1)))))
  bg)
  (az (aX ai)))
abbrev hW:Stmt:=top 22
theorem gx:FnScope ["_law_cell","_law_k","_law_number"] ["_law_cell","_law_k"] (defScope hW):=fs
theorem nV (Df:Def K mg "_law_mixed" hW):Ct P w K mg base "_law_mixed" 1 (spF K aY):=
 dA Df gx (fun _ _ _ _ _ _=>p5 fun _ _=>rfl) fun f F7 A outer s H E hr=>
  (ah (aE (i:=2) gx.nd rfl (lo rfl) (aH aM (aa (aH bM (ae (pv 0)) (aa ai))) (aa (aH eG (aa ai) (aa (aH aM (ae (pv 1)) (aa ai)))))))
  (ah (aE (i:=2) gx.nd rfl (lo rfl) (aH bM (aa (aH aM (aa (aH eG (ae (pv 2)) (ae (pv 2)))) (aa (aH eG (aa ai) (ae (pv 1)))))) (aa ai)))
  (az (aX (aH bM (aa (aH aM (aa (aH aM (aa (aH eG (ae (pv 2)) (ae (pv 2)))) (aa (aH eG (aa ai) (ae (pv 1)))))) (aa ai))) (aa ai))))))
abbrev hX:Stmt:=top 23
theorem bE:FnScope ["_law_cell","_law_letters","_law_base","_law_width","_law_spot","_law_names_here","_law_k","_law_moved_on"] ["_law_cell"] (defScope hX):=fs
theorem nW (Df:Def K mg "_law_names" hX) (FZ:Ct P w K mg base "_law_mixed" 1 (spF K aY)) (FU:mg "range" = none) (Ga:mg "sorted" = none):Ct P w K mg base "_law_names" 2 (spF K dv):=
 dA Df bE (fun _ _ _ _ _ _=>yr fun _=>rfl) fun f F7 A outer s H E hr=>
  (ah (aE (i:=1) bE.nd rfl (lo rfl) (rj Fs (by decide)))
  (ah (jo (i:=2) [none,some 0] ["_law_j","_law_cell"] bE.nd rfl (lo rfl) rfl (aT (cP (by rfl) FU (aa ai))) (fun _ _ _ _ _=>(av (i:=0) (show List.Nodup (["_law_j","_law_cell"]:List Str) from by decide +kernel) rfl (lo rfl))) (fun _ _ _ _ _=>a7) (fun _ _ _ _ _=>(aH bM (aa (aP FZ hr.m (by rfl) (af (ae (pv 1)) (af (ae (pv 0)) aj)))) (aa ai))))
  (ah (aE (i:=3) bE.nd rfl (lo rfl) (aH aM (aa ai) (aa (aH bM (ae (pv 0)) (aa ai)))))
  (ah (aE (i:=4) bE.nd rfl (lo rfl) (aH bM (aa (aH cz (ae (pv 0)) (aa ai))) (ae (pv 3))))
  (ah (aE (i:=5) bE.nd rfl (lo rfl) (c7 aO))
  (ah (eh PassesOwn.never rfl (cP (by rfl) FU (aa ai)) (av (i:=6) bE.nd rfl (lo rfl))
  (ah (aE (i:=7) bE.nd rfl (lo rfl) (pC (ae (pv 2)) nK (gj (aw (pv 3)))))
  (ah (vp (pv 7) (aw (pv 4)) (aH bM (aa (aH aM (aa (aQ (ae (pv 7)) (ae (pv 4)))) (ae (pv 6)))) (aa ai)))
  (ah (cY (ba (iH hr.units) (aa (aH bM (aa (aH cz (ae (pv 0)) (aa ai))) (aa ai))) (aa ai) (bD _))
  (az (aE (i:=7) bE.nd rfl (lo rfl) (pC (ae (pv 2)) nK (gj (aH aM (ae (pv 6)) (aa ai))))))
  bg)
  (az (dD (b7 (pv 5) (B8 PySem.F.slot_str_join PySem.F.type_str_join zW (aa (rj Fq (by decide))) (af (aa (aS [none,some 1] ["_law_j","_law_letters"] rfl (bX (dm (pv 7)) (bX (aT (eO (aw (pv 7)))) (aT (eQ (aw (pv 7)))))) (fun _ _ _ _ _=>(av (i:=0) (show List.Nodup (["_law_j","_law_letters"]:List Str) from by decide +kernel) rfl (lo rfl))) (fun _ _ _ _ _=>a7) (fun _ _ _ _ _=>(aQ (ae (pv 1)) (ae (pv 0)))))) aj)))))))))
  (ah (cY (ba (rO hr.u65) (aa (rj Fo (by decide))) (ae (pv 5)) (by with_unfolding_all rfl))
  (az (jo (i:=5) [none] ["_law_name"] bE.nd rfl (lo rfl) rfl (bX (dm (pv 5)) (bX (aT (eO (aw (pv 5)))) (aT (eQ (aw (pv 5)))))) (fun _ _ _ _ _=>(av (i:=0) (show List.Nodup (["_law_name"]:List Str) from by decide +kernel) rfl (lo rfl))) (fun _ _ _ _ _=>a7) (fun _ _ _ _ _=>(aH aM (aa (rj Fp (by decide))) (ae (pv 0))))))
  bg)
  (az (aX (aR (jl rfl) (by rfl) Ga jm (af (ae (pv 5)) aj)))))))))))
abbrev iZ:Stmt:=top 24
theorem eC:FnScope ["_law_net_here","_law_marking","_law_move","_law_k","_law_after","_law_beads","_law_place_here"] ["_law_net_here","_law_marking","_law_move"] (defScope iZ):=fs
theorem pR (Df:Def K mg "_law_step" iZ) (FQ:mg "tuple" = none) (GH:mg "zip" = none):Ct P w K mg base "_law_step" 1 (spF K dq):=
 dA Df eC (fun _ _ _ _ _ _=>AX fun _ _ _=>rfl) fun f F7 A outer s H E hr=>
  (ah (aE (i:=3) eC.nd rfl (lo rfl) (rJ PySem.F.slot_tuple_index PySem.F.type_tuple_index iU (aa (aQ (ae (pv 0)) (aa ai))) (af (ae (pv 2)) aj)))
  (ah (aE (i:=4) eC.nd rfl (lo rfl) (c7 aO))
  (ah (eh PassesOwn.never rfl (lE (by rfl) GH (af (aa (aw (pv 1))) (af (aa (aQ (ae (pv 0)) (aa ai))) aj))) (dE rfl (aF (av (i:=5) eC.nd rfl (lo rfl)) (aF (av (i:=6) eC.nd rfl (lo rfl)) cy)))
  (ah (cY (mK (px hr.units0) (ae (pv 5)) (aa (aQ (aa (aQ (ae (pv 6)) (aa ai))) (ae (pv 3)))) (bD _))
  (az (aX k4))
  bg)
  (az (dD (b7 (pv 4) (aH aM (aa (aH fX (ae (pv 5)) (aa (aQ (aa (aQ (ae (pv 6)) (aa ai))) (ae (pv 3)))))) (aa (aQ (aa (aQ (ae (pv 6)) (aa ai))) (ae (pv 3))))))))))
  (az (aX (bj bS (by rfl) FQ bR (af (ae (pv 4)) aj)))))))
abbrev jW:Stmt:=top 25
theorem dt:FnScope ["_law_net_here","_law_most","_law_markings","_law_arcs","_law_done","_law_move","_law_after"] ["_law_net_here","_law_most"] (defScope jW):=fs
theorem qx (Df:Def K mg "_law_run" jW) (Jh:Ct P w K mg base "_law_step" 1 (spF K dq)) (F0:mg "len" = none) (Ga:mg "sorted" = none) (FQ:mg "tuple" = none):Ct P w K mg base "_law_run" 2 (spF K bI):=
 dA Df dt (fun _ _ _ _ _ _=>p5 fun _ _=>rfl) fun f F7 A outer s H E hr=>
  (ah (aE (i:=2) dt.nd rfl (lo rfl) (c7 (ay (bj bS (by rfl) FQ bR (af (aa (aS [none,none,none] ["_law_beads","_law_takes","_law_gives"] rfl (aT (cT (aQ (ae (pv 0)) (aa ai)))) (fun _ _ _ _ _=>(have h:=(show List.Nodup (["_law_beads","_law_takes","_law_gives"]:List Str) from by decide +kernel);(dE rfl (aF (av (i:=0) h rfl (lo rfl)) (aF (av (i:=1) h rfl (lo rfl)) (aF (av (i:=2) h rfl (lo rfl)) cy)))))) (fun _ _ _ _ _=>a7) (fun _ _ _ _ _=>(aw (pv 0))))) aj)) aO)))
  (ah (aE (i:=3) dt.nd rfl (lo rfl) (c7 aO))
  (ah (aE (i:=4) dt.nd rfl (lo rfl) ai)
  (ah (kJ 100000 PassesOwn.never (mK (px hr.units0) (ae (pv 4)) (aa (aR cR (by rfl) F0 bt_len (af (ae (pv 2)) aj))) (bD _))
  (ah (eh PassesOwn.never rfl (cT (aQ (ae (pv 0)) (aa ai))) (av (i:=5) dt.nd rfl (lo rfl))
  (ah (aE (i:=6) dt.nd rfl (lo rfl) (aP Jh hr.m (by rfl) (af (ae (pv 0)) (af (aa (aQ (ae (pv 2)) (ae (pv 4)))) (af (ae (pv 5)) aj)))))
  (az (cY (ba pq (ae (pv 6)) (aa k4) (bD _))
  (ah (cY (ba (gT hr.u65) (ae (pv 6)) (ae (pv 2)) (by with_unfolding_all rfl))
  (ah (cY (ba (iH hr.units) (aa (aR cR (by rfl) F0 bt_len (af (ae (pv 2)) aj))) (ae (pv 1)) (bD _))
  (az (aX k4))
  bg)
  (az (dD (b7 (pv 2) (aw (pv 6))))))
  bg)
  (az (dD (b7 (pv 3) (cJ (ay (aw (pv 4)) (ay (aw (pv 5)) (ay (vz PySem.F.slot_list_index PySem.F.type_list_index (iV hr.u65) (ae (pv 2)) (af (ae (pv 6)) aj)) aO))))))))
  bg))))
  (az (aE (i:=4) dt.nd rfl (lo rfl) (aH aM (ae (pv 4)) (aa ai))))))
  (az (aX (cJ (ay (aR (jl rfl) (by rfl) Ga jm (af (ae (pv 3)) aj)) (ay (aw (pv 2)) aO)))))))))
abbrev i0:Stmt:=top 26
theorem fN:FnScope ["_law_script","_law_first","_law_k","_law_number","_law_cell"] ["_law_script","_law_first","_law_k"] (defScope i0):=fs
theorem pS (Df:Def K mg "_law_fold" i0) (FZ:Ct P w K mg base "_law_mixed" 1 (spF K aY)):Ct P w K mg base "_law_fold" 2 (spF K dY):=
 dA Df fN (fun _ _ _ _ _ _=>AX fun _ _ _=>rfl) fun f F7 A outer s H E hr=>
  (ah (aE (i:=3) fN.nd rfl (lo rfl) (aH aM (aa ai) (ae (pv 2))))
  (ah (eh PassesOwn.never rfl (cT (Co (ae (pv 0)) (gj (aH aM (ae (pv 1)) (ae (pv 2)))) (gj (aH aM (ae (pv 1)) (aa ai))) (gj ai))) (av (i:=4) fN.nd rfl (lo rfl))
  (az (aE (i:=3) fN.nd rfl (lo rfl) (aP FZ hr.m (by rfl) (af (aa (aH aM (ae (pv 4)) (ae (pv 3)))) (af (ae (pv 2)) aj))))))
  (az (aX (gO (pv 3))))))
abbrev hZ:Stmt:=top 27
theorem cC:FnScope ["_law_number","_law_count","_law_takes","_law_gives","_law_j","_law_mixed_here","_law_step_here","_law_loop"] ["_law_number","_law_count"] (defScope hZ):=fs
theorem nX (Df:Def K mg "_law_place" hZ) (FZ:Ct P w K mg base "_law_mixed" 1 (spF K aY)) (Gq:mg "max" = none) (FU:mg "range" = none):Ct P w K mg base "_law_place" 2 (spF K dw):=
 dA Df cC (fun _ _ _ _ _ _=>p5 fun _ _=>rfl) fun f F7 A outer s H E hr=>
  (ah (aE (i:=2) cC.nd rfl (lo rfl) (c7 aO))
  (ah (aE (i:=3) cC.nd rfl (lo rfl) (c7 aO))
  (ah (eh PassesOwn.never rfl (cP (by rfl) FU (ae (pv 1))) (av (i:=4) cC.nd rfl (lo rfl))
  (ah (aE (i:=5) cC.nd rfl (lo rfl) (aP FZ hr.m (by rfl) (af (ae (pv 0)) (af (ae (pv 4)) aj))))
  (ah (aE (i:=6) cC.nd rfl (lo rfl) (aH fX (aa (aH bM (ae (pv 5)) (aa ai))) (aa ai)))
  (ah (aE (i:=7) cC.nd rfl (lo rfl) (aH cz (aa (aH bM (aa (aH cz (ae (pv 5)) (aa ai))) (aa ai))) (aa ai)))
  (ah (dD (b7 (pv 2) (aH aM (aa (aR (lq rfl) (by rfl) Gq lC (af (aa ai) (af (aa (aH fX (aa ai) (ae (pv 6)))) aj)))) (ae (pv 7)))))
  (az (dD (b7 (pv 3) (aH aM (aa (aR (lq rfl) (by rfl) Gq lC (af (aa ai) (af (ae (pv 6)) aj)))) (ae (pv 7)))))))))))
  (az (aX (z7 (aH bM (aa (aH cz (ae (pv 0)) (aa ai))) (aa ai)) (gO (pv 2)) (gO (pv 3))))))))
abbrev gy:Stmt:=top 28
theorem cF:FnScope ["_law_place_here","_law_cell","_law_factor","_law_beads","_law_takes","_law_gives"] ["_law_place_here","_law_cell"] (defScope gy):=fs
theorem mB (Df:Def K mg "_law_scaled" gy) (FQ:mg "tuple" = none):Ct P w K mg base "_law_scaled" 1 (spF K cA):=
 dA Df cF (fun _ _ _ _ _ _=>p5 fun _ _=>rfl) fun f F7 A outer s H E hr=>
  (ah (aE (i:=2) cF.nd rfl (lo rfl) (aH aM (aa ai) (aa (aH bM (ae (pv 1)) (aa (aH ye (aa ai) (aa ai)))))))
  (ah (Ca (aw (pv 0)) (dE rfl (aF (av (i:=3) cF.nd rfl (lo rfl)) (aF (av (i:=4) cF.nd rfl (lo rfl)) (aF (av (i:=5) cF.nd rfl (lo rfl)) cy)))))
  (ah (aE (i:=4) cF.nd rfl (lo rfl) (bj bS (by rfl) FQ bR (af (aa (aS [none,some 2] ["_law_take","_law_factor"] rfl (bX (dm (pv 4)) (bX (aT (eO (aw (pv 4)))) (aT (eQ (aw (pv 4)))))) (fun _ _ _ _ _=>(av (i:=0) (show List.Nodup (["_law_take","_law_factor"]:List Str) from by decide +kernel) rfl (lo rfl))) (fun _ _ _ _ _=>a7) (fun _ _ _ _ _=>(aH eG (ae (pv 1)) (ae (pv 0)))))) aj)))
  (az (aX (cJ (ay (aH aM (aa (aH eG (ae (pv 2)) (ae (pv 3)))) (aa (aH bM (aa (aH cz (ae (pv 1)) (aa ai))) (ae (pv 2))))) (ay (aw (pv 4)) (ay (bj bS (by rfl) FQ bR (af (aa (aS [none,some 2] ["_law_give","_law_factor"] rfl (bX (dm (pv 5)) (bX (aT (eO (aw (pv 5)))) (aT (eQ (aw (pv 5)))))) (fun _ _ _ _ _=>(av (i:=0) (show List.Nodup (["_law_give","_law_factor"]:List Str) from by decide +kernel) rfl (lo rfl))) (fun _ _ _ _ _=>a7) (fun _ _ _ _ _=>(aH eG (ae (pv 1)) (ae (pv 0)))))) aj)) aO)))))))))
abbrev gA:Stmt:=top 29
theorem cG:FnScope ["_law_script","_law_first","_law_count","_law_places_here","_law_k","_law_number","_law_place_here","_law_mate"] ["_law_script","_law_first","_law_count"] (defScope gA):=fs
theorem mC (Df:Def K mg "_law_places" gA) (FN:Ct P w K mg base "_law_cell_at" 1 (spF K aG)) (Ji:Ct P w K mg base "_law_fold" 2 (spF K dY)) (IL:Ct P w K mg base "_law_place" 2 (spF K dw)) (Hi:Ct P w K mg base "_law_scaled" 1 (spF K cA)) (FU:mg "range" = none):Ct P w K mg base "_law_places" 3 (spF K cW):=
 dA Df cG (fun _ _ _ _ _ _=>AX fun _ _ _=>rfl) fun f F7 A outer s H E hr=>
  (ah (aE (i:=3) cG.nd rfl (lo rfl) (c7 aO))
  (ah (eh PassesOwn.never rfl (cP (by rfl) FU (aa (aH aM (aa ai) (aa (aH bM (aa (aH cz (aa (aP FN hr.m (by rfl) (af (ae (pv 0)) (af (aa ai) aj)))) (aa ai))) (aa ai)))))) (av (i:=4) cG.nd rfl (lo rfl))
  (ah (aE (i:=5) cG.nd rfl (lo rfl) (aP Ji hr.m (by rfl) (af (ae (pv 0)) (af (ae (pv 1)) (af (ae (pv 4)) aj)))))
  (ah (aE (i:=6) cG.nd rfl (lo rfl) (aP IL hr.m (by rfl) (af (ae (pv 5)) (af (ae (pv 2)) aj))))
  (ah (dD (b7 (pv 3) (aP Hi hr.m (by rfl) (af (ae (pv 6)) (af (aa (aP FN hr.m (by rfl) (af (ae (pv 0)) (af (aa (aH aM (ae (pv 1)) (ae (pv 4)))) aj)))) aj)))))
  (az (cY (mK D3 (aa (aH bM (aa (aH cz (ae (pv 5)) (aa ai))) (aa ai))) (aa ai) (bD _))
  (ah (aE (i:=7) cG.nd rfl (lo rfl) (cJ (ay (aH bM (aa (aH cz (ae (pv 5)) (aa ai))) (aa ai)) (ay (aQ (aa (aw (pv 6))) (aa ai)) (ay (aQ (aa (aw (pv 6))) (aa ai)) aO)))))
  (az (dD (b7 (pv 3) (aP Hi hr.m (by rfl) (af (ae (pv 7)) (af (aa (aP FN hr.m (by rfl) (af (ae (pv 0)) (af (aa (aH aM (aa (aH aM (ae (pv 1)) (aa ai))) (ae (pv 4)))) aj)))) aj)))))))
  bg))))))
  (az (aX (gO (pv 3))))))
abbrev ia:Stmt:=top 30
theorem dI:FnScope ["_law_script","_law_names_here","_law_cell","_law_count","_law_start"] ["_law_script"] (defScope ia):=fs
theorem nY (Df:Def K mg "_law_moves" ia) (FN:Ct P w K mg base "_law_cell_at" 1 (spF K aG)) (IM:Ct P w K mg base "_law_names" 2 (spF K dv)) (FQ:mg "tuple" = none):Ct P w K mg base "_law_moves" 3 (spF K dy):=
 dA Df dI (fun _ _ _ _ _ _=>yr fun _=>rfl) fun f F7 A outer s H E hr=>
  (ah (aE (i:=1) dI.nd rfl (lo rfl) (aP IM hr.m (by rfl) (af (aa (aP FN hr.m (by rfl) (af (ae (pv 0)) (af (aa ai) aj)))) aj)))
  (ah (aE (i:=2) dI.nd rfl (lo rfl) (aP FN hr.m (by rfl) (af (ae (pv 0)) (af (aa ai) aj))))
  (ah (aE (i:=3) dI.nd rfl (lo rfl) (aH aM (aa ai) (aa (aH bM (ae (pv 2)) (aa ai)))))
  (ah (aE (i:=4) dI.nd rfl (lo rfl) (aH bM (aa (aH cz (ae (pv 2)) (aa ai))) (aa (aH fX (aa ai) (ae (pv 3))))))
  (az (aX (bj bS (by rfl) FQ bR (af (aa (pC (ae (pv 1)) (gj (aw (pv 4))) (gj (aH aM (ae (pv 4)) (ae (pv 3)))))) aj))))))))
abbrev jX:Stmt:=top 31
theorem d6:FnScope ["_law_script","_law_first","_law_moves_here","_law_count","_law_places_here","_law_ones","_law_noughts"] ["_law_script","_law_first"] (defScope jX):=fs
theorem qy (Df:Def K mg "_law_net" jX) (IP:Ct P w K mg base "_law_moves" 3 (spF K dy)) (Ir:Ct P w K mg base "_law_places" 3 (spF K cW)) (Gi:Ct P w K mg base "_law_run" 2 (spF K bI)) (F0:mg "len" = none) (FQ:mg "tuple" = none):Ct P w K mg base "_law_net" 4 (spF K dZ):=
 dA Df d6 (fun _ _ _ _ _ _=>p5 fun _ _=>rfl) fun f F7 A outer s H E hr=>
  (ah (aE (i:=2) d6.nd rfl (lo rfl) (aP IP hr.m (by rfl) (af (ae (pv 0)) aj)))
  (ah (aE (i:=3) d6.nd rfl (lo rfl) (aR cR (by rfl) F0 bt_len (af (ae (pv 2)) aj)))
  (ah (aE (i:=4) d6.nd rfl (lo rfl) (aP Ir hr.m (by rfl) (af (ae (pv 0)) (af (ae (pv 1)) (af (ae (pv 3)) aj)))))
  (ah (cY (ba pq (aa (aP Gi hr.m (by rfl) (af (aa (cJ (ay (aw (pv 2)) (ay (aw (pv 4)) aO)))) (af (aa ai) aj)))) (aa k4) (bD _))
  (az (aX (cJ (ay (aw (pv 2)) (ay (aw (pv 4)) aO)))))
  bg)
  (ah (aE (i:=5) d6.nd rfl (lo rfl) (bj bS (by rfl) FQ bR (af (aa (aS [none] ["_law_move"] rfl (bX (dm (pv 2)) (bX (aT (eO (aw (pv 2)))) (aT (eQ (aw (pv 2)))))) (fun _ _ _ _ _=>(av (i:=0) (show List.Nodup (["_law_move"]:List Str) from by decide +kernel) rfl (lo rfl))) (fun _ _ _ _ _=>a7) (fun _ _ _ _ _=>ai))) aj)))
  (ah (aE (i:=6) d6.nd rfl (lo rfl) (bj bS (by rfl) FQ bR (af (aa (aS [none] ["_law_move"] rfl (bX (dm (pv 2)) (bX (aT (eO (aw (pv 2)))) (aT (eQ (aw (pv 2)))))) (fun _ _ _ _ _=>(av (i:=0) (show List.Nodup (["_law_move"]:List Str) from by decide +kernel) rfl (lo rfl))) (fun _ _ _ _ _=>a7) (fun _ _ _ _ _=>ai))) aj)))
  (ah (cY (ba pq (aa (aP Gi hr.m (by rfl) (af (aa (cJ (ay (aw (pv 2)) (ay (aH aM (ae (pv 4)) (aa (c7 (ay (cJ (ay ai (ay (aw (pv 5)) (ay (aw (pv 6)) aO)))) aO)))) aO)))) (af (aa ai) aj)))) (aa k4) (bD _))
  (az (aX (cJ (ay (aw (pv 2)) (ay (aH aM (ae (pv 4)) (aa (c7 (ay (cJ (ay ai (ay (aw (pv 5)) (ay (aw (pv 6)) aO)))) aO)))) aO)))))
  bg)
  (az (aX (cJ (ay (aw (pv 2)) (ay (aH aM (ae (pv 4)) (aa (c7 (ay (cJ (ay ai (ay (aw (pv 5)) (ay (aw (pv 6)) aO)))) aO)))) aO))))))))))))
abbrev gB:Stmt:=top 32
theorem bc:FnScope ["_law_arcs","_law_order","_law_done","_law_one","_law_move","_law_other","_law_kept","_law_arc"] ["_law_arcs"] (defScope gB):=fs
theorem mD (Df:Def K mg "_law_tidied" gB) (F0:mg "len" = none) (Ga:mg "sorted" = none):Ct P w K mg base "_law_tidied" 1 (spF K cB):=
 dA Df bc (fun _ _ _ _ _ _=>yr fun _=>rfl) fun f F7 A outer s H E hr=>
  (ah (aE (i:=1) bc.nd rfl (lo rfl) (c7 (ay ai aO)))
  (ah (aE (i:=2) bc.nd rfl (lo rfl) ai)
  (ah (kJ 100000 PassesOwn.never (mK (px hr.units0) (ae (pv 2)) (aa (aR cR (by rfl) F0 bt_len (af (ae (pv 1)) aj))) (bD _))
  (ah (eh PassesOwn.never rfl (cT (aR (jl rfl) (by rfl) Ga jm (af (ae (pv 0)) aj))) (dE rfl (aF (av (i:=3) bc.nd rfl (lo rfl)) (aF (av (i:=4) bc.nd rfl (lo rfl)) (aF (av (i:=5) bc.nd rfl (lo rfl)) cy))))
  (az (cY (QW.qt (rp (ba (iH hr.units) (ae (pv 3)) (aa (aQ (ae (pv 1)) (ae (pv 2)))) (bD _)) (nG (ba (gT hr.u65) (ae (pv 5)) (ae (pv 1)) (by with_unfolding_all rfl)))))
  (az (dD (b7 (pv 1) (aw (pv 5)))))
  bg)))
  (az (aE (i:=2) bc.nd rfl (lo rfl) (aH aM (ae (pv 2)) (aa ai))))))
  (ah (aE (i:=6) bc.nd rfl (lo rfl) (c7 aO))
  (ah (eh PassesOwn.never rfl (cT (aw (pv 0))) (dE rfl (aF (av (i:=3) bc.nd rfl (lo rfl)) (aF (av (i:=4) bc.nd rfl (lo rfl)) (aF (av (i:=5) bc.nd rfl (lo rfl)) cy))))
  (az (cY (ba (rO hr.u65) (ae (pv 3)) (ae (pv 1)) (by with_unfolding_all rfl))
  (ah (aE (i:=7) bc.nd rfl (lo rfl) (cJ (ay (vz PySem.F.slot_list_index PySem.F.type_list_index (iV hr.u65) (ae (pv 1)) (af (ae (pv 3)) aj)) (ay (aw (pv 4)) (ay (vz PySem.F.slot_list_index PySem.F.type_list_index (iV hr.u65) (ae (pv 1)) (af (ae (pv 5)) aj)) aO)))))
  (az (cY (ba (gT hr.u65) (ae (pv 7)) (ae (pv 6)) (by with_unfolding_all rfl))
  (az (dD (b7 (pv 6) (aw (pv 7)))))
  bg)))
  bg)))
  (az (aX (aR (jl rfl) (by rfl) Ga jm (af (ae (pv 6)) aj)))))))))
abbrev i4:Stmt:=top 33
theorem cj:FnScope ["_law_moves_here","_law_arcs","_law_number","_law_count","_law_other","_law_move","_law_spot","_law_arc","_law_rest","_law_gone","_law_ends"] ["_law_moves_here","_law_arcs","_law_number"] (defScope i4):=fs
theorem pT (Df:Def K mg "_law_bent" i4) (F0:mg "len" = none) (Gq:mg "max" = none) (GW:mg "min" = none) (FU:mg "range" = none):Ct P w K mg base "_law_bent" 1 (spF K d4):=
 dA Df cj (fun _ _ _ _ _ _=>AX fun _ _ _=>rfl) fun f F7 A outer s H E hr=>
  (ah (aE (i:=3) cj.nd rfl (lo rfl) (aH aM (aa ai) (aa (aR (lq rfl) (by rfl) Gq lC (af (aa (aH aM (aa (c7 (ay ai aO))) (aa (aS [none] ["_law_arc"] rfl (bX (dm (pv 1)) (bX (aT (eO (aw (pv 1)))) (aT (eQ (aw (pv 1)))))) (fun _ _ _ _ _=>(av (i:=0) (show List.Nodup (["_law_arc"]:List Str) from by decide +kernel) rfl (lo rfl))) (fun _ _ _ _ _=>a7) (fun _ _ _ _ _=>(aR (lq rfl) (by rfl) Gq lC (af (aa (aQ (ae (pv 0)) (aa ai))) (af (aa (aQ (ae (pv 0)) (aa ai))) aj)))))))) aj)))))
  (ah (aE (i:=4) cj.nd rfl (lo rfl) (aH bM (aa (aH cz (ae (pv 2)) (aa ai))) (aa (aR (vn rfl) (by rfl) GW vh (af (aa (aH aM (ae (pv 3)) (aa ai))) (af (aa ai) aj))))))
  (ah (aE (i:=5) cj.nd rfl (lo rfl) (aQ (ae (pv 0)) (aa (aH bM (aa (aH cz (ae (pv 2)) (aa ai))) (aa (aR cR (by rfl) F0 bt_len (af (ae (pv 0)) aj)))))))
  (ah (cY (QW.qt (zr (ba (iH hr.units) (ae (pv 1)) (aa (c7 aO)) (bD _)) (uP (ba (iH hr.units) (aa (aH bM (ae (pv 2)) (aa ai))) (aa ai) (bD _)))))
  (az (aX (aH aM (ae (pv 1)) (aa (c7 (ay (cJ (ay (aH bM (aa (aH cz (ae (pv 2)) (aa ai))) (ae (pv 3))) (ay (aw (pv 5)) (ay (aw (pv 4)) aO)))) aO))))))
  bg)
  (ah (aE (i:=6) cj.nd rfl (lo rfl) (aH bM (aa (aH cz (ae (pv 2)) (aa ai))) (aa (aR cR (by rfl) F0 bt_len (af (ae (pv 1)) aj)))))
  (ah (aE (i:=7) cj.nd rfl (lo rfl) (aQ (ae (pv 1)) (ae (pv 6))))
  (ah (aE (i:=8) cj.nd rfl (lo rfl) (aH aM (aa (pC (ae (pv 1)) nK (gj (aw (pv 6))))) (aa (pC (ae (pv 1)) (gj (aH aM (ae (pv 6)) (aa ai))) nK))))
  (ah (cY (ba (iH hr.units) (aa (aH bM (ae (pv 2)) (aa ai))) (aa ai) (bD _))
  (az (aX (gO (pv 8))))
  bg)
  (ah (cY (ba (iH hr.units) (aa (aH bM (ae (pv 2)) (aa ai))) (aa ai) (bD _))
  (az (aX (aH aM (ae (pv 8)) (aa (c7 (ay (cJ (ay (aQ (ae (pv 7)) (aa ai)) (ay (aQ (ae (pv 7)) (aa ai)) (ay (aw (pv 4)) aO)))) aO))))))
  bg)
  (ah (cY (QW.qt (zr (ba (iH hr.units) (aa (aH bM (ae (pv 2)) (aa ai))) (aa ai) (bD _)) (uP (ba (iH hr.units) (ae (pv 3)) (aa ai) (bD _)))))
  (az (aX (aH aM (ae (pv 8)) (aa (c7 (ay (cJ (ay (aQ (ae (pv 7)) (aa ai)) (ay (aw (pv 5)) (ay (aQ (ae (pv 7)) (aa ai)) aO)))) aO))))))
  bg)
  (ah (aE (i:=9) cj.nd rfl (lo rfl) (aH aM (aa ai) (aa (aH bM (aa (aH cz (ae (pv 2)) (aa ai))) (aa (aH fX (ae (pv 3)) (aa ai)))))))
  (ah (aE (i:=10) cj.nd rfl (lo rfl) (aS [none] ["_law_k"] rfl (aT (cP (by rfl) FU (ae (pv 3)))) (fun _ _ _ _ _=>(av (i:=0) (show List.Nodup (["_law_k"]:List Str) from by decide +kernel) rfl (lo rfl))) (fun _ _ _ _ _=>a7) (fun _ _ _ _ _=>(aw (pv 0)))))
  (ah (vp (pv 10) (aw (pv 9)) (aH bM (ae (pv 4)) (ae (pv 3))))
  (az (aX (aS [none,none,none,some 10] ["_law_one","_law_name","_law_two","_law_ends"] rfl (bX (dm (pv 1)) (bX (aT (eO (aw (pv 1)))) (aT (eQ (aw (pv 1)))))) (fun _ _ _ _ _=>(have h:=(show List.Nodup (["_law_one","_law_name","_law_two","_law_ends"]:List Str) from by decide +kernel);(dE rfl (aF (av (i:=0) h rfl (lo rfl)) (aF (av (i:=1) h rfl (lo rfl)) (aF (av (i:=2) h rfl (lo rfl)) cy)))))) (fun _ _ _ _ _=>a7) (fun _ _ _ _ _=>(cJ (ay (aQ (ae (pv 3)) (ae (pv 0))) (ay (aw (pv 1)) (ay (aQ (ae (pv 3)) (ae (pv 2))) aO)))))))))))))))))))))
abbrev d7:Stmt:=top 34
theorem cp:FnScope ["_law_script","_law_net_here","_law_first","_law_arcs","_law_k","_law_number"] ["_law_script","_law_net_here","_law_first"] (defScope d7):=fs
theorem jB (Df:Def K mg "_law_bent_chart" d7) (Jj:Ct P w K mg base "_law_bent" 1 (spF K d4)) (FN:Ct P w K mg base "_law_cell_at" 1 (spF K aG)) (FZ:Ct P w K mg base "_law_mixed" 1 (spF K aY)) (Gi:Ct P w K mg base "_law_run" 2 (spF K bI)) (Hj:Ct P w K mg base "_law_tidied" 1 (spF K cB)) (FU:mg "range" = none):Ct P w K mg base "_law_bent_chart" 3 (spF K bp):=
 dA Df cp (fun _ _ _ _ _ _=>AX fun _ _ _=>rfl) fun f F7 A outer s H E hr=>
  (ah (aE (i:=3) cp.nd rfl (lo rfl) (aQ (aa (aP Gi hr.m (by rfl) (af (ae (pv 1)) (af (aa ai) aj)))) (aa ai)))
  (ah (eh PassesOwn.never rfl (uU (by rfl) FU (af (ae (pv 2)) (af (aa (aH aM (ae (pv 2)) (aa ai))) aj))) (av (i:=4) cp.nd rfl (lo rfl))
  (ah (aE (i:=5) cp.nd rfl (lo rfl) (aP FZ hr.m (by rfl) (af (aa (aP FN hr.m (by rfl) (af (ae (pv 0)) (af (ae (pv 4)) aj)))) (af (ae (pv 4)) aj))))
  (az (cY (ba (iH hr.units) (aa (aH bM (aa (aH cz (ae (pv 5)) (aa ai))) (aa ai))) (aa ai) (bD _))
  (az (aE (i:=3) cp.nd rfl (lo rfl) (aP Hj hr.m (by rfl) (af (aa (aP Jj hr.m (by rfl) (af (aa (aQ (ae (pv 1)) (aa ai))) (af (ae (pv 3)) (af (aa (aH cz (ae (pv 5)) (aa ai))) aj))))) aj))))
  bg))))
  (az (aX (cJ (ay (aQ (ae (pv 1)) (aa ai)) (ay (aP Hj hr.m (by rfl) (af (ae (pv 3)) aj)) aO)))))))
abbrev gC:Stmt:=top 35
theorem aW:FnScope ["_law_chart","_law_row_here","_law_levels_here","_law_fresh","_law_one","_law_move","_law_other","_law_step_here"] ["_law_chart","_law_row_here"] (defScope gC):=fs
theorem mE (Df:Def K mg "_law_levels" gC) (F0:mg "len" = none) (FU:mg "range" = none):Ct P w K mg base "_law_levels" 1 (spF K cX):=
 dA Df aW (fun _ _ _ _ _ _=>p5 fun _ _=>rfl) fun f F7 A outer s H E hr=>
  (ah (aE (i:=2) aW.nd rfl (lo rfl) (rN ai ai))
  (ah (aE (i:=3) aW.nd rfl (lo rfl) kA)
  (ah (kJ 100000 PassesOwn.never (rl (aw (pv 3)))
  (ah (aE (i:=3) aW.nd rfl (lo rfl) kA)
  (az (eh PassesOwn.never rfl (cT (aQ (ae (pv 0)) (aa ai))) (dE rfl (aF (av (i:=4) aW.nd rfl (lo rfl)) (aF (av (i:=5) aW.nd rfl (lo rfl)) (aF (av (i:=6) aW.nd rfl (lo rfl)) cy))))
  (ah (aE (i:=7) aW.nd rfl (lo rfl) (aQ (ae (pv 1)) (aa (rJ PySem.F.slot_tuple_index PySem.F.type_tuple_index iU (aa (aQ (ae (pv 0)) (aa ai))) (af (ae (pv 5)) aj)))))
  (az (cY (QW.qt (rp (ba (rO hr.u65) (ae (pv 4)) (ae (pv 2)) (by with_unfolding_all rfl)) (nG (ba (gT hr.u65) (ae (pv 6)) (ae (pv 2)) (by with_unfolding_all rfl)))))
  (ah (ym (hu_of hr) (pv 2) (aw (pv 6)) (aH aM (aa (sX (hu_of hr) (ae (pv 2)) (ae (pv 4)))) (ae (pv 7))))
  (az (aE (i:=3) aW.nd rfl (lo rfl) kA)))
  bg)))))))
  (ah (eh PassesOwn.never rfl (cT (aQ (ae (pv 0)) (aa ai))) (dE rfl (aF (av (i:=4) aW.nd rfl (lo rfl)) (aF (av (i:=5) aW.nd rfl (lo rfl)) (aF (av (i:=6) aW.nd rfl (lo rfl)) cy))))
  (ah (aE (i:=7) aW.nd rfl (lo rfl) (aQ (ae (pv 1)) (aa (rJ PySem.F.slot_tuple_index PySem.F.type_tuple_index iU (aa (aQ (ae (pv 0)) (aa ai))) (af (ae (pv 5)) aj)))))
  (az (cY (ba (nM hr.units) (aa (sX (hu_of hr) (ae (pv 2)) (ae (pv 6)))) (aa (aH aM (aa (sX (hu_of hr) (ae (pv 2)) (ae (pv 4)))) (ae (pv 7)))) (bD _))
  (az (aX k4))
  bg))))
  (az (aX (aS [none,some 2] ["_law_k","_law_levels_here"] rfl (aT (cP (by rfl) FU (aa (aR cR (by rfl) F0 bt_len (af (ae (pv 2)) aj))))) (fun _ _ _ _ _=>(av (i:=0) (show List.Nodup (["_law_k","_law_levels_here"]:List Str) from by decide +kernel) rfl (lo rfl))) (fun _ _ _ _ _=>a7) (fun _ _ _ _ _=>(sX (hu_of hr) (ae (pv 1)) (ae (pv 0)))))))))))
abbrev d9:Stmt:=top 36
theorem dJ:FnScope ["_law_chart","_law_row_here","_law_used","_law_k"] ["_law_chart","_law_row_here"] (defScope d9):=fs
theorem jC (Df:Def K mg "_law_is_stretch" d9) (Iu:Ct P w K mg base "_law_levels" 1 (spF K cX)) (F0:mg "len" = none) (FU:mg "range" = none):Ct P w K mg base "_law_is_stretch" 2 (spF K bP):=
 dA Df dJ (fun _ _ _ _ _ _=>p5 fun _ _=>rfl) fun f F7 A outer s H E hr=>
  (ah (jo (i:=2) [none,none,none] ["_law_one","_law_move","_law_other"] dJ.nd rfl (lo rfl) rfl (aT (cT (aQ (ae (pv 0)) (aa ai)))) (fun _ _ _ _ _=>(have h:=(show List.Nodup (["_law_one","_law_move","_law_other"]:List Str) from by decide +kernel);(dE rfl (aF (av (i:=0) h rfl (lo rfl)) (aF (av (i:=1) h rfl (lo rfl)) (aF (av (i:=2) h rfl (lo rfl)) cy)))))) (fun _ _ _ _ _=>a7) (fun _ _ _ _ _=>(aw (pv 1))))
  (ah (eh PassesOwn.never rfl (cP (by rfl) FU (aa (aR cR (by rfl) F0 bt_len (af (ae (pv 1)) aj)))) (av (i:=3) dJ.nd rfl (lo rfl))
  (az (cY (QW.qt (rp (ba (nM hr.units) (aa (aQ (ae (pv 1)) (ae (pv 3)))) (aa ai) (bD _)) (nG (ba (gT hr.u65) (aa (aQ (aa (aQ (ae (pv 0)) (aa ai))) (ae (pv 3)))) (ae (pv 2)) (by with_unfolding_all rfl)))))
  (az (aX kA))
  bg)))
  (az (aX (iR pq (aa (aP Iu hr.m (by rfl) (af (ae (pv 0)) (af (ae (pv 1)) aj)))) (aa k4) (bD _))))))
abbrev jY:Stmt:=top 37
theorem fI:FnScope ["_law_chart","_law_place_here","_law_used","_law_row_here","_law_k","_law_step_here"] ["_law_chart","_law_place_here"] (defScope jY):=fs
theorem qz (Df:Def K mg "_law_row" jY) (HA:Ct P w K mg base "_law_is_stretch" 2 (spF K bP)) (Ik:mg "int" = none) (F0:mg "len" = none) (FU:mg "range" = none):Ct P w K mg base "_law_row" 3 (spF K d5):=
 dA Df fI (fun _ _ _ _ _ _=>p5 fun _ _=>rfl) fun f F7 A outer s H E hr=>
  (ah (jo (i:=2) [none,none,none] ["_law_one","_law_move","_law_other"] fI.nd rfl (lo rfl) rfl (aT (cT (aQ (ae (pv 0)) (aa ai)))) (fun _ _ _ _ _=>(have h:=(show List.Nodup (["_law_one","_law_move","_law_other"]:List Str) from by decide +kernel);(dE rfl (aF (av (i:=0) h rfl (lo rfl)) (aF (av (i:=1) h rfl (lo rfl)) (aF (av (i:=2) h rfl (lo rfl)) cy)))))) (fun _ _ _ _ _=>a7) (fun _ _ _ _ _=>(aw (pv 1))))
  (ah (aE (i:=3) fI.nd rfl (lo rfl) (c7 aO))
  (ah (eh PassesOwn.never rfl (cP (by rfl) FU (aa (aR cR (by rfl) F0 bt_len (af (aa (aQ (ae (pv 0)) (aa ai))) aj)))) (av (i:=4) fI.nd rfl (lo rfl))
  (ah (aE (i:=5) fI.nd rfl (lo rfl) (aH fX (aa (aQ (aa (aQ (ae (pv 1)) (aa ai))) (ae (pv 4)))) (aa (aQ (aa (aQ (ae (pv 1)) (aa ai))) (ae (pv 4))))))
  (az (dD (b7 (pv 3) (aH eG (ae (pv 5)) (aa (bj yh (by rfl) Ik xW (af (aa (iR (rO hr.u65) (aa (aQ (aa (aQ (ae (pv 0)) (aa ai))) (ae (pv 4)))) (ae (pv 2)) (by with_unfolding_all rfl))) aj)))))))))
  (ah (cY (rl (aP HA hr.m (by rfl) (af (ae (pv 0)) (af (ae (pv 3)) aj))))
  (az (aX (gO (pv 3))))
  bg)
  (az (aX (aS [none] ["_law_move"] rfl (aT (cT (aQ (ae (pv 0)) (aa ai)))) (fun _ _ _ _ _=>(av (i:=0) (show List.Nodup (["_law_move"]:List Str) from by decide +kernel) rfl (lo rfl))) (fun _ _ _ _ _=>a7) (fun _ _ _ _ _=>ai))))))))
abbrev og:Stmt:=top 38
theorem dM:FnScope ["_law_script","_law_net_here","_law_chart","_law_number","_law_one","_law_other","_law_times","_law_mine","_law_theirs","_law_often","_law_back","_law_both","_law_ours","_law_k","_law_due","_law_used","_law_takes","_law_noughts"] ["_law_script"] (defScope og):=fs
theorem Cq {f:Addr} {fd:FuncData} (F:Fun K "law" "law" og f fd) (HB:Ct P w K mg base "_law_bent_chart" 3 (spF K bp)) (FN:Ct P w K mg base "_law_cell_at" 1 (spF K aG)) (FZ:Ct P w K mg base "_law_mixed" 1 (spF K aY)) (JF:Ct P w K mg base "_law_net" 4 (spF K dZ)) (Il:Ct P w K mg base "_law_row" 3 (spF K d5)) (Gi:Ct P w K mg base "_law_run" 2 (spF K bI)) (F6:Ct P w K mg base "beads_of" 5 (spF K bC)) (GK:Ct P w K mg base "is_stretch" 4 (spF K bO)) (JG:Ct P w K mg base "place_of" 6 (spF K eW)) (Ik:mg "int" = none) (F0:mg "len" = none) (Gq:mg "max" = none) (GW:mg "min" = none) (FU:mg "range" = none) (FQ:mg "tuple" = none):FnOk P w K mg base Kv 7 f fd ["_law_script"] (spF K z8):=
 fnok_of F dM fun F7 A outer s H E hr=>
  (ah (aE (i:=1) dM.nd rfl (lo rfl) (aP JF hr.m (by rfl) (af (ae (pv 0)) (af (aa ai) aj))))
  (ah (aE (i:=2) dM.nd rfl (lo rfl) (cJ (ay (aQ (ae (pv 1)) (aa ai)) (ay (aQ (aa (aP Gi hr.m (by rfl) (af (ae (pv 1)) (af (aa ai) aj)))) (aa ai)) aO))))
  (ah (cY (ba (iH hr.units) (aa (aH bM (aa (aH cz (aa (aP FN hr.m (by rfl) (af (ae (pv 0)) (af (aa ai) aj)))) (aa ai))) (aa ai))) (aa ai) (bD _))
  (az (aE (i:=2) dM.nd rfl (lo rfl) (aP HB hr.m (by rfl) (af (ae (pv 0)) (af (ae (pv 1)) (af (aa ai) aj))))))
  bg)
  (ah (aE (i:=3) dM.nd rfl (lo rfl) (aP FZ hr.m (by rfl) (af (aa (aP FN hr.m (by rfl) (af (ae (pv 0)) (af (aa ai) aj)))) (af (aa ai) aj))))
  (ah (aE (i:=4) dM.nd rfl (lo rfl) (aP Il hr.m (by rfl) (af (ae (pv 2)) (af (aa (aQ (aa (aQ (ae (pv 1)) (aa ai))) (aa (aH bM (ae (pv 3)) (aa (aR cR (by rfl) F0 bt_len (af (aa (aQ (ae (pv 1)) (aa ai))) aj))))))) aj))))
  (ah (aE (i:=5) dM.nd rfl (lo rfl) (aP Il hr.m (by rfl) (af (ae (pv 2)) (af (aa (aQ (aa (aQ (ae (pv 1)) (aa ai))) (aa (aH bM (aa (aH cz (ae (pv 3)) (aa ai))) (aa (aR cR (by rfl) F0 bt_len (af (aa (aQ (ae (pv 1)) (aa ai))) aj))))))) aj))))
  (ah (aE (i:=6) dM.nd rfl (lo rfl) (aH bM (aa (aP FN hr.m (by rfl) (af (ae (pv 0)) (af (aa ai) aj)))) (aa (aH ye (aa ai) (aa ai)))))
  (ah (aE (i:=7) dM.nd rfl (lo rfl) (aP F6 hr.m (by rfl) (af (ae (pv 2)) (af (aa (bj bS (by rfl) FQ bR (af (ae (pv 4)) aj))) aj))))
  (ah (aE (i:=8) dM.nd rfl (lo rfl) (aP F6 hr.m (by rfl) (af (ae (pv 2)) (af (aa (bj bS (by rfl) FQ bR (af (ae (pv 5)) aj))) aj))))
  (ah (aE (i:=9) dM.nd rfl (lo rfl) (bj bS (by rfl) FQ bR (af (aa (aS [none,some 6] ["_law_value","_law_times"] rfl (bX (dm (pv 4)) (bX (aT (eO (aw (pv 4)))) (aT (eQ (aw (pv 4)))))) (fun _ _ _ _ _=>(av (i:=0) (show List.Nodup (["_law_value","_law_times"]:List Str) from by decide +kernel) rfl (lo rfl))) (fun _ _ _ _ _=>a7) (fun _ _ _ _ _=>(aH eG (ae (pv 1)) (ae (pv 0)))))) aj)))
  (ah (cY (ba (nM hr.units) (aa (aP F6 hr.m (by rfl) (af (ae (pv 2)) (af (ae (pv 9)) aj)))) (aa (aS [none,some 6] ["_law_beads","_law_times"] rfl (bX (dm (pv 7)) (bX (aT (eO (aw (pv 7)))) (aT (eQ (aw (pv 7)))))) (fun _ _ _ _ _=>(av (i:=0) (show List.Nodup (["_law_beads","_law_times"]:List Str) from by decide +kernel) rfl (lo rfl))) (fun _ _ _ _ _=>a7) (fun _ _ _ _ _=>(aH eG (ae (pv 1)) (ae (pv 0)))))) (bD _))
  (az (aX kA))
  bg)
  (ah (aE (i:=10) dM.nd rfl (lo rfl) (bj bS (by rfl) FQ bR (af (aa (aS [none] ["_law_value"] rfl (bX (dm (pv 4)) (bX (aT (eO (aw (pv 4)))) (aT (eQ (aw (pv 4)))))) (fun _ _ _ _ _=>(av (i:=0) (show List.Nodup (["_law_value"]:List Str) from by decide +kernel) rfl (lo rfl))) (fun _ _ _ _ _=>a7) (fun _ _ _ _ _=>(aH fX (aa ai) (ae (pv 0)))))) aj)))
  (ah (cY (ba (nM hr.units) (aa (aP F6 hr.m (by rfl) (af (ae (pv 2)) (af (ae (pv 10)) aj)))) (aa (aS [none,some 7] ["_law_beads","_law_mine"] rfl (bX (dm (pv 7)) (bX (aT (eO (aw (pv 7)))) (aT (eQ (aw (pv 7)))))) (fun _ _ _ _ _=>(av (i:=0) (show List.Nodup (["_law_beads","_law_mine"]:List Str) from by decide +kernel) rfl (lo rfl))) (fun _ _ _ _ _=>a7) (fun _ _ _ _ _=>(aH fX (aa (aR (lq rfl) (by rfl) Gq lC (af (ae (pv 1)) aj))) (ae (pv 0)))))) (bD _))
  (az (aX kA))
  bg)
  (ah (aE (i:=11) dM.nd rfl (lo rfl) (bj bS (by rfl) FQ bR (af (aa (aS [none,some 4,some 5] ["_law_k","_law_one","_law_other"] rfl (aT (cP (by rfl) FU (aa (aR cR (by rfl) F0 bt_len (af (ae (pv 4)) aj))))) (fun _ _ _ _ _=>(av (i:=0) (show List.Nodup (["_law_k","_law_one","_law_other"]:List Str) from by decide +kernel) rfl (lo rfl))) (fun _ _ _ _ _=>a7) (fun _ _ _ _ _=>(aH aM (aa (aQ (ae (pv 1)) (ae (pv 0)))) (aa (aQ (ae (pv 2)) (ae (pv 0)))))))) aj)))
  (ah (cY (ba pq (aa (aP GK hr.m (by rfl) (af (ae (pv 2)) (af (ae (pv 11)) aj)))) (aa kA) (bD _))
  (az (aX kA))
  bg)
  (ah (aE (i:=12) dM.nd rfl (lo rfl) (aP F6 hr.m (by rfl) (af (ae (pv 2)) (af (ae (pv 11)) aj))))
  (ah (cY (QW.qt (zr (ba (nM hr.units) (aa (aR cR (by rfl) F0 bt_len (af (ae (pv 12)) aj))) (aa (aR cR (by rfl) F0 bt_len (af (ae (pv 7)) aj))) (bD _)) (uP (ba (nM hr.units) (aa (aR (vn rfl) (by rfl) GW vh (af (ae (pv 12)) aj))) (aa ai) (bD _)))))
  (az (aX kA))
  bg)
  (ah (eh PassesOwn.never rfl (cP (by rfl) FU (aa (aR cR (by rfl) F0 bt_len (af (ae (pv 12)) aj)))) (av (i:=13) dM.nd rfl (lo rfl))
  (ah (aE (i:=14) dM.nd rfl (lo rfl) (aH fX (aa (aH aM (aa (aH fX (aa (aQ (ae (pv 7)) (ae (pv 13)))) (aa (aQ (ae (pv 7)) (aa ai))))) (aa (aQ (ae (pv 8)) (ae (pv 13)))))) (aa (aQ (ae (pv 8)) (aa ai)))))
  (az (cY (ba (nM hr.units) (aa (aH fX (aa (aQ (ae (pv 12)) (ae (pv 13)))) (aa (aQ (ae (pv 12)) (aa ai))))) (ae (pv 14)) (bD _))
  (az (aX kA))
  bg))))
  (ah (aE (i:=15) dM.nd rfl (lo rfl) (aS [none,none,none] ["_law_one_state","_law_move","_law_other_state"] rfl (aT (cT (aQ (ae (pv 2)) (aa ai)))) (fun _ _ _ _ _=>(have h:=(show List.Nodup (["_law_one_state","_law_move","_law_other_state"]:List Str) from by decide +kernel);(dE rfl (aF (av (i:=0) h rfl (lo rfl)) (aF (av (i:=1) h rfl (lo rfl)) (aF (av (i:=2) h rfl (lo rfl)) cy)))))) (fun _ _ _ _ _=>a7) (fun _ _ _ _ _=>(aw (pv 1)))))
  (ah (aE (i:=16) dM.nd rfl (lo rfl) (bj bS (by rfl) FQ bR (af (aa (aS [none,some 15] ["_law_move","_law_used"] rfl (aT (cT (aQ (ae (pv 2)) (aa ai)))) (fun _ _ _ _ _=>(av (i:=0) (show List.Nodup (["_law_move","_law_used"]:List Str) from by decide +kernel) rfl (lo rfl))) (fun _ _ _ _ _=>a7) (fun _ _ _ _ _=>(bj yh (by rfl) Ik xW (af (aa (iR (gT hr.u65) (ae (pv 0)) (ae (pv 1)) (by with_unfolding_all rfl))) aj))))) aj)))
  (ah (aE (i:=17) dM.nd rfl (lo rfl) (bj bS (by rfl) FQ bR (af (aa (aS [none] ["_law_move"] rfl (aT (cT (aQ (ae (pv 2)) (aa ai)))) (fun _ _ _ _ _=>(av (i:=0) (show List.Nodup (["_law_move"]:List Str) from by decide +kernel) rfl (lo rfl))) (fun _ _ _ _ _=>a7) (fun _ _ _ _ _=>ai))) aj)))
  (ah (cY (ba (nM hr.units) (aa (aP F6 hr.m (by rfl) (af (ae (pv 2)) (af (ae (pv 17)) aj)))) (aa (aS [none] ["_law_k"] rfl (bX (dm (pv 7)) (bX (aT (eO (aw (pv 7)))) (aT (eQ (aw (pv 7)))))) (fun _ _ _ _ _=>(av (i:=0) (show List.Nodup (["_law_k"]:List Str) from by decide +kernel) rfl (lo rfl))) (fun _ _ _ _ _=>a7) (fun _ _ _ _ _=>ai))) (bD _))
  (az (aX kA))
  bg)
  (az (aX (iR (iH hr.units) (aa (aP JG hr.m (by rfl) (af (ae (pv 2)) (af (ae (pv 17)) aj)))) (aa (cJ (ay ai (ay (aw (pv 16)) (ay (aw (pv 16)) aO))))) (bD _))))))))))))))))))))))))))
end
end LW
namespace PV
open PySem L2 NX
class Cont (α β:Type) where
 run:α->Res β
noncomputable def Res.bnd {α β:Type} [f:Cont α β] (x:Res α):Res β:=x.bind f.run
theorem GR {α β:Type} (a:α) (f:α->Res β):Res.bnd (Res.ok a) (f:=⟨f⟩)=f a:=id rfl
section
variable (env:PV.Env) (i n:Nat) (d:D) (f g:FX) (c c':FT) (fo OE fo'':FO) (fs:FOs) (fd:FDs) (s t:FS) (op op':D->D->Res R) (F:List D->Res R) (a:FG) (as:Lj) (fi fj:FI) (fp FR:FP) (T:String)
theorem Mz:aJ d env=.ok ((.f,d),env):=id rfl
theorem JX:aK i env=match env[i]? with | some (some r)=>.ok ((.f,r.2),env.set i (some (fz r.1,r.2))) | _=>.bad:=id rfl
theorem N2:fz .f=.f:=id rfl
theorem N3 (c:O):fz (.l c)=.f:=id rfl
theorem N4 (cs:List O):fz (.t cs)=.f:=id rfl
theorem KL (p:Addr):xb (.pin p .d)=true:=id rfl
theorem Lp:kZ i env=match env[i]? with | some (some r)=>.ok (r,env.set i none) | _=>.bad:=id rfl
theorem MA:aq f env=Res.bnd (f env) (f:=⟨fun p=>.ok (.val p.1.2,p.2)⟩):=id rfl
theorem MB:ao i env=match env[i]? with | some (some _)=>.ok (.var i,env) | _=>.bad:=id rfl
theorem Lq:aA env=.ok ([],env):=id rfl
theorem KN:ag fo fs env=Res.bnd (fo env) (f:=⟨fun p=>Res.bnd (fs p.2) (f:=⟨fun q=>.ok (p.1 :: q.1,q.2)⟩)⟩):=id rfl
theorem Lr:bJ env=.ok ([],env):=id rfl
theorem KO:aI f fd env=Res.bnd (f env) (f:=⟨fun p=>Res.bnd (fd p.2) (f:=⟨fun q=>.ok (p.1.2 :: q.1,q.2)⟩)⟩):=id rfl
theorem MC:Hh env (.val d)=.ok d:=id rfl
theorem MD:Hh env (.var i)=match env[i]? with | some (some r)=>if xb r.1 then .ok r.2 else .bad | _=>.bad:=id rfl
theorem Lu:tL env (.val d)=.ok d:=id rfl
theorem Lw:tL env (.var i)=match env[i]? with | some (some r)=>.ok r.2 | _=>.bad:=id rfl
theorem Lx:pd env []=.ok []:=id rfl
theorem Ly (o:Opd) (os:List Opd):pd env (o :: os)=Res.bnd (Hh env o) (f:=⟨fun d=>Res.bnd (pd env os) (f:=⟨fun ds=>.ok (d :: ds)⟩)⟩):=id rfl
theorem KP:mq env []=.ok []:=id rfl
theorem KQ (o:Opd) (os:List Opd):mq env (o :: os)=Res.bnd (tL env o) (f:=⟨fun d=>Res.bnd (mq env os) (f:=⟨fun ds=>.ok (d :: ds)⟩)⟩):=id rfl
theorem Lz:xb .f=true:=id rfl
theorem LA:xb (.l .f)=true:=id rfl
theorem LB:xb .d=true:=id rfl
theorem ME:aD op fo OE env=Res.bnd (fo env) (f:=⟨fun p=>Res.bnd (OE p.2) (f:=⟨fun q=>Res.bnd (Hh q.2 p.1) (f:=⟨fun a=>Res.bnd (Hh q.2 q.1) (f:=⟨fun b=>Res.bnd (op a b) (f:=⟨fun r=>.ok (r,q.2)⟩)⟩)⟩)⟩)⟩):=id rfl
theorem LC:bq op fo OE env=Res.bnd (fo env) (f:=⟨fun p=>Res.bnd (OE p.2) (f:=⟨fun q=>Res.bnd (tL q.2 p.1) (f:=⟨fun a=>Res.bnd (tL q.2 q.1) (f:=⟨fun b=>Res.bnd (op a b) (f:=⟨fun r=>.ok (r,q.2)⟩)⟩)⟩)⟩)⟩):=id rfl
theorem N5:Gg f env=Res.bnd (f env) (f:=⟨fun p=>match p.1.2 with | .bl k=>.ok (k,p.2) | _=>.bad⟩):=id rfl
theorem MF:AU c c' env=Res.bnd (c env) (f:=⟨fun p=>if p.1 then c' p.2 else .ok (false,p.2)⟩):=id rfl
theorem N6:NI c c' env=Res.bnd (c env) (f:=⟨fun p=>if p.1 then .ok (true,p.2) else c' p.2⟩):=id rfl
theorem MG:DX c env=Res.bnd (c env) (f:=⟨fun p=>.ok (!p.1,p.2)⟩):=id rfl
theorem N7:NJ f g env=Res.bnd (f env) (f:=⟨fun p=>match p.1.2 with | .bl true=>.ok ((.f,.bl true),p.2) | .bl false=>g p.2 | _=>.bad⟩):=id rfl
theorem LD:a9 F fs env=Res.bnd (fs env) (f:=⟨fun p=>Res.bnd (pd p.2 p.1) (f:=⟨fun ds=>Res.bnd (F ds) (f:=⟨fun r=>.ok (r,p.2)⟩)⟩)⟩):=id rfl
theorem MH:cH F fs env=Res.bnd (fs env) (f:=⟨fun p=>Res.bnd (mq p.2 p.1) (f:=⟨fun ds=>Res.bnd (F ds) (f:=⟨fun r=>.ok (r,if cu r.1 r.2 then p.2 else p.2.map frz)⟩)⟩)⟩):=id rfl
theorem MI:i8 fd env=Res.bnd (fd env) (f:=⟨fun p=>if p.1.length<=1000 then .ok ((.f,.tup p.1),p.2) else .bad⟩):=id rfl
theorem MJ:k9 fd env=Res.bnd (fd env) (f:=⟨fun p=>if p.1.length<=1000 then .ok ((.l .f,.lst p.1),p.2) else .bad⟩):=id rfl
theorem LF:sV env=.ok (none,env):=id rfl
theorem LG:lb f env=Res.bnd (f env) (f:=⟨fun p=>match p.1.2 with | .int i=>.ok (some i,p.2) | _=>.bad⟩):=id rfl
theorem MK:pg i f env=if uV env i then (Res.bnd (f env) (f:=⟨fun (p:R×PV.Env)=>match p.2[i]? with
 | some (some (.l .f,.lst ds))=>if ds.length < sizeLine then .ok ((.f,.non),p.2.set i (some (.l .f,.lst (ds++[p.1.2])))) else .bad
 | _=>.bad⟩)) else .bad:=id rfl
theorem LH:uV env i=match env[i]? with | some (some (_,.lst _))=>true | _=>false:=id rfl
theorem LI:zI f g env=Res.bnd (f env) (f:=⟨fun p=>Res.bnd (g p.2) (f:=⟨fun q=>match (lh p.1.2).bind c8,q.1.2 with | some ns,.int d=>.ok ((.f,.int (NX.maxD ns d)),q.2) | _,_=>.bad⟩)⟩):=id rfl
theorem ML (gg:List Nat->List D->Res R):D7 gg fo fs env=Res.bnd (fo env) (f:=⟨fun p=>match Hh p.2 p.1 with
 | .ok (.str l)=>Res.bnd (fs p.2) (f:=⟨fun q=>Res.bnd (pd q.2 q.1) (f:=⟨fun ds=>Res.bnd (gg l ds) (f:=⟨fun r=>.ok (r,q.2)⟩)⟩)⟩)
 | _=>.bad⟩):=id rfl
theorem LJ (ix:List (Option Nat)):b6 fi ix a c f env=Res.bnd (fi env) (f:=⟨fun p=>Res.bnd (b5 a c f p.1 (fA ix p.2)) (f:=⟨fun ds=>if ds.length<=sizeLine then .ok ((.l .f,.lst ds),if flatDs ds then p.2 else p.2.map frz) else .bad⟩)⟩):=id rfl
theorem JH:fA [] env=[]:=id rfl
theorem JI (ix:List (Option Nat)):fA (none :: ix) env=none :: fA ix env:=id rfl
theorem JJ (ix:List (Option Nat)):fA (some i :: ix) env=(match env[i]? with | some (some r)=>some (O.f,r.2) | _=>none) :: fA ix env:=id rfl
theorem Cr:cN env=.ok (true,env):=id rfl
theorem rS (ds:List D):b5 a c f (d :: ds) env=Res.bnd (a d env) (f:=⟨fun e=>Res.bnd (c e) (f:=⟨fun p=>if p.1 then (Res.bnd (f p.2) (f:=⟨fun q=>Res.bnd (b5 a c f ds q.2) (f:=⟨fun rs=>.ok (q.1.2 :: rs)⟩)⟩)) else b5 a c f ds p.2⟩)⟩):=id rfl
theorem Cs:BP f env=Res.bnd (f env) (f:=⟨fun p=>match p.1.2 with | .lst ds=>.ok (ds,p.2) | _=>.bad⟩):=id rfl
theorem vE:fu f env=Res.bnd (f env) (f:=⟨fun p=>match p.1.2 with | .tup ds=>.ok (ds,p.2) | _=>.bad⟩):=id rfl
theorem vF:fw f env=Res.bnd (f env) (f:=⟨fun p=>match p.1.2 with | .str l=>.ok (l.map fun c=>.str [c],p.2) | _=>.bad⟩):=id rfl
theorem qA:Gm fi fj env=match fi env with | .ok a=>.ok a | _=>fj env:=by
 unfold Gm
 cases fi env <;> rfl
theorem MM:Gm (BP f) (Gm (fu f) (fw f)) env=Res.bnd (f env) (f:=⟨fun p=>match p.1.2 with
 | .lst ds=>.ok (ds,p.2)
 | .tup ds=>.ok (ds,p.2)
 | .str l=>.ok (l.map fun c=>.str [c],p.2)
 | _=>.bad⟩):=by
 rw [qA,qA,Cs,vE,vF]
 cases f env with
 | ok p=>
  obtain ⟨⟨o,d⟩,e⟩:=p
  cases d <;> rfl
 | exc c=>rfl
 | bad=>rfl
theorem LK:Gm (fQ i) (Gm (fu (aK i)) (fw (aK i))) env=match env[i]? with
 | some (some (_,.lst ds))=>.ok (ds,env)
 | some (some (o,.tup ds))=>.ok (ds,env.set i (some (fz o,.tup ds)))
 | some (some (o,.str l))=>.ok (l.map fun c=>.str [c],env.set i (some (fz o,.str l)))
 | _=>.bad:=by
 rw [qA,qA,vE,vF,JX]
 unfold fQ
 cases env[i]? with
 | none=>rfl
 | some r=>
  cases r with
  | none=>rfl
  | some r=>
   obtain ⟨o,d⟩:=r
   cases d <;> rfl
theorem J9:dU fo env=Res.bnd (fo env) (f:=⟨fun p=>Res.bnd (Hh p.2 p.1) (f:=⟨fun d=>match d with
 | .int j=>if -4611686018427387904<=j/\j < 4611686018427387904 then .ok ((List.range j.toNat).map fun (k:Nat)=>D.int (k:Int),p.2) else .bad
 | _=>.bad⟩)⟩):=id rfl
theorem Ka:qh fs env=Res.bnd (fs env) (f:=⟨fun p=>Res.bnd (pd p.2 p.1) (f:=⟨fun d=>match d with
 | [.int i,.int j]=>if (-4611686018427387904<=i/\i < 4611686018427387904)/\-4611686018427387904<=j/\j < 4611686018427387904 then .ok ((List.range (j - i).toNat).map fun (k:Nat)=>D.int (i + (k:Int)),p.2) else .bad
 | _=>.bad⟩)⟩):=id rfl
theorem oh (k1 k2:Bool):sU k1 k2 fs env=Res.bnd (fs env) (f:=⟨fun p=>match p.1 with
 | [.val d1,.val d2]=>Res.bnd (jM k1 d1) (f:=⟨fun a=>Res.bnd (jM k2 d2) (f:=⟨fun b=>.ok ((a.zip b).map fun z=>D.tup [z.1,z.2],p.2)⟩)⟩)
 | _=>.bad⟩):=id rfl
theorem Hb:ax i d env=if i < env.length then .ok (env.set i (some (.f,d))) else .bad:=id rfl
theorem LL:cq [] env=.ok env:=id rfl
theorem GI (ds:List D):aB a as (d :: ds) env=Res.bnd (a d env) (f:=⟨fun e=>as ds e⟩):=id rfl
theorem JK (ds:List D):fW n as (.tup ds) env=if ds.length=n then as ds env else .bad:=id rfl
theorem HP:sSeq s t env=Res.bnd (s env) (f:=⟨fun o=>match o with | .nx e=>t e | o=>.ok o⟩):=id rfl
theorem LM:cM env=.ok (.nx env):=id rfl
theorem MN:bK i f env=Res.bnd (f env) (f:=⟨fun p=>if i < p.2.length then .ok (.nx (p.2.set i (some p.1))) else .bad⟩):=id rfl
theorem LN:gQ f env=Res.bnd (f env) (f:=⟨fun p=>.ok (.nx p.2)⟩):=id rfl
theorem MO:dS f env=Res.bnd (f env) (f:=⟨fun p=>.ok (.rt p.1)⟩):=id rfl
theorem N8:GS c s t env=Res.bnd (c env) (f:=⟨fun p=>if p.1 then s p.2 else t p.2⟩):=id rfl
theorem MP:mL fi a s env=Res.bnd (fi env) (f:=⟨fun p=>kB a s p.1 p.2⟩):=id rfl
theorem lY (ds:List D):kB a s (d :: ds) env=Res.bnd (a d env) (f:=⟨fun e=>Res.bnd (s e) (f:=⟨fun o=>match o with
 | .nx e=>kB a s ds e
 | .ct e=>kB a s ds e
 | .bk e=>.ok (.nx e)
 | .rt r=>.ok (.rt r)⟩)⟩):=id rfl
theorem jD:c6 c s (n + 1) env=Res.bnd (c env) (f:=⟨fun p=>if p.1 then (Res.bnd (s p.2) (f:=⟨fun o=>match o with
  | .nx e=>c6 c s n e
  | .ct e=>c6 c s n e
  | .bk e=>.ok (.nx e)
  | .rt r=>.ok (.rt r)⟩)) else .ok (.nx p.2)⟩):=id rfl
theorem MQ:B6 i f g env=Res.bnd (g env) (f:=⟨fun (p:R×PV.Env)=>Res.bnd (f p.2) (f:=⟨fun (q:R×PV.Env)=>match p.2[i]?,q.2[i]? with
 | some (some _),some (some (.d,.dct tk ks vs))=>if fC tk q.1.2 && decide (ks.length < sizeLine) then .ok (.nx (q.2.set i (some (.d,.dct tk (qk ks vs q.1.2 p.1.2).1 (qk ks vs q.1.2 p.1.2).2)))) else .bad
 | _,_=>.bad⟩)⟩):=id rfl
theorem MR:Dl f a env=Res.bnd (f env) (f:=⟨fun p=>Res.bnd (a p.1.2 p.2) (f:=⟨fun e=>.ok (.nx e)⟩)⟩):=id rfl
theorem bh (ds:List D) (nn:Nat) (h:ds.length=n):fBody n nn s ds=Res.bnd (s (ds.map (fun d=>some (O.f,d))++List.replicate nn none)) (f:=⟨fun o=>match o with
 | .rt r=>.ok r
 | .nx _=>.ok (.f,.non)
 | _=>.bad⟩):=by
 unfold fBody
 rw [if_pos h]
 all_goals cases s (ds.map (fun d=>some (O.f,d))++List.replicate nn none) with
 | ok o=>cases o <;> rfl
 | exc c=>rfl
 | bad=>rfl
end
theorem line_le {n:Nat} (h:n<=16777216):n<=sizeLine:=by rw [line_eq];exact h
section
variable (a b:Int) (x y:List Nat) (p q:Bool) (ds es:List D)
theorem Ee:Hd (.int a) (.int b)=.ok (.f,.bl (a == b)):=by simp only [Hd,plainD,eqD,Bool.and_self,if_true]
theorem Ef:Hd (.str x) (.str y)=.ok (.f,.bl (x == y)):=by simp only [Hd,plainD,eqD,Bool.and_self,if_true]
theorem Eg:Jb (.int a) (.int b)=.ok (.f,.bl (!(a == b))):=by simp only [Jb,plainD,eqD,Bool.and_self,if_true]
theorem Cu:k8 (.int a) (.int b)=.ok (.f,.int (a - b)):=id rfl
theorem Ab:eB (.int a) (.int b)=if 0 < b/\b < 1073741824 then .ok (.f,.int (a / b)) else .bad:=id rfl
theorem Cv:fT (.int a) (.int b)=if 0 < b then .ok (.f,.int (a % b)) else .bad:=id rfl
theorem Cw:yd (.int a) (.int b)=if 0<=b/\b<=1000000/\a.natAbs < 2 ^ 64 then .ok (.f,.int (a ^ b.toNat)) else .bad:=id rfl
theorem Eh:Kk (.int a) (.int b)=.ok (.f,.bl (decide (a < b))):=id rfl
theorem Ei:OC (.int a) (.int b)=.ok (.f,.bl (decide (b < a))):=id rfl
theorem Cy:ka [.lst ds]=.ok (.f,.int ds.length):=id rfl
theorem Cz:ka [.tup ds]=.ok (.f,.int ds.length):=id rfl
theorem CA (tk:Bool):ka [.dct tk ds es]=.ok (.f,.int ds.length):=id rfl
theorem xo:cQ [.lst ds]=.ok (.f,.tup ds):=id rfl
theorem CB:zL [.bl p]=.ok (.f,.int (if p then 1 else 0)):=id rfl
theorem Ac:FW (.lst ds) (.int a)=match Gy ds a with | some d=>.ok (.f,d) | none=>.bad:=id rfl
theorem CC:FW (.tup ds) (.int a)=match Gy ds a with | some d=>.ok (.f,d) | none=>.bad:=id rfl
theorem Ej:FW (.str x) (.int a)=match Gy x a with | some c=>.ok (.f,.str [c]) | none=>.bad:=id rfl
theorem CD:maxD [.int a,.int b]=.ok (.f,.int (if a < b then b else a)):=id rfl
theorem CF (bs:List Bool):BV [.lst (bs.map D.bl)]=.ok (.f,.bl (bs.all id)):=by
 unfold BV
 show (match mr (bs.map D.bl) with | some bs=>_ | none=>_)=_
 rw [ph]
theorem CG:isnO (.bl p) (.bl q)=.ok (.f,.bl (!(p == q))):=id rfl
theorem at0 {α:Type} (d:α) (l:List α):Gy (d :: l) 0=some d:=by
 have:=dB (xs:=d :: l) (j:=0) (v:=d) rfl
 simpa using this
theorem at1 {α:Type} (c d:α) (l:List α):Gy (c :: d :: l) 1=some d:=by
 have:=dB (xs:=c :: d :: l) (j:=1) (v:=d) rfl
 simpa using this
end
theorem FD (l:List Int):flatDs (l.map D.int)=true:=by
 rw [bH,List.all_map,List.all_eq_true]
 intro b _
 rfl
theorem oi (l:List Bool):flatDs (l.map D.bl)=true:=by
 rw [bH,List.all_map,List.all_eq_true]
 intro b _
 rfl
theorem flat_strs (l:List (List Nat)):flatDs (l.map D.str)=true:=by
 rw [bH,List.all_map,List.all_eq_true]
 intro b _
 rfl
theorem Ad (d:D):cu .f d=dk d:=by rw [cu]
theorem xp (ds:List D):cu (.l .f) (.lst ds)=flatDs ds:=by rw [cu,nI]
theorem jE (i:Int):dk (.int i)=true:=by rw [dk];all_goals simp
theorem Ae (i:Bool):dk (.bl i)=true:=by rw [dk];all_goals simp
theorem cK (ds:List D):dk (.tup ds)=flatDs ds:=by rw [dk]
theorem eY (n:Nat) (l:List Int):plainDs n (l.map D.int)=true:=by
 induction l with
 | nil=>rfl
 | cons a l ih=>rw [List.map_cons,plainDs,ih,plainD];all_goals simp
theorem tu (n:Nat) (l:List (List Nat)):plainDs n (l.map D.str)=true:=by
 induction l with
 | nil=>rfl
 | cons a l ih=>rw [List.map_cons,plainDs,ih,plainD];all_goals simp
theorem eqDs_ints:∀ a b:List Int,jP (a.map D.int) (b.map D.int)=(a == b)
 | [],[]=>by simp [jP]
 | [],_ :: _=>by simp [jP]
 | _ :: _,[]=>by simp [jP]
 | a :: r,b :: t=>by
  rw [List.map_cons,List.map_cons,jP,eqD,eqDs_ints r t,Bool.eq_iff_iff]
  simp
theorem xq (a:Int) (l:List Int):tM (.int a) (l.map D.int)=decide (a∈l):=by
 unfold tM
 rw [List.any_map,Bool.eq_iff_iff,List.any_eq_true,decide_eq_true_eq]
 constructor
 ·rintro ⟨x,hx,e⟩
  have e:eqD (.int x) (.int a)=true:=e
  rw [eqD,beq_iff_eq] at e
  rw [<-e]
  exact hx
 ·intro h
  refine ⟨a,h,?_⟩
  show eqD (.int a) (.int a)=true
  rw [eqD,beq_self_eq_true]
theorem xr (a:List Nat) (l:List (List Nat)):tM (.str a) (l.map D.str)=decide (a∈l):=by
 unfold tM
 rw [List.any_map,Bool.eq_iff_iff,List.any_eq_true,decide_eq_true_eq]
 constructor
 ·rintro ⟨x,hx,e⟩
  have e:eqD (.str x) (.str a)=true:=e
  rw [eqD,beq_iff_eq] at e
  rw [<-e]
  exact hx
 ·intro h
  refine ⟨a,h,?_⟩
  show eqD (.str a) (.str a)=true
  rw [eqD,beq_self_eq_true]
theorem yt (a:Int) (l:List Int):Kj (.int a) (.lst (l.map D.int))=.ok (.f,.bl (decide (a∈l))):=by
 unfold Kj
 dsimp only
 rw [eY,xq,plainD]
 all_goals simp
theorem Af (a:Int) (l:List Int):tN (.int a) (.lst (l.map D.int))=.ok (.f,.bl (!decide (a∈l))):=by
 unfold tN
 rw [yt]
 rfl
theorem xt {α:Type} {a:FG} {c:FT} {f:FX} {e:α->D} {p:α->Bool} {r:α->D} (I:PV.Env->Prop) (l:List α)
  (h:∀ x∈l,∀ env,I env->∃ FC,a (e x) env=.ok FC/\∃ FL,c FC=.ok (p x,FL)/\if p x then ∃ o Gz,f FL=.ok ((o,r x),Gz)/\I Gz else I FL):∀ env,I env->b5 a c f (l.map e) env=.ok ((l.filter p).map r):=by
 induction l with
 | nil=>intro env _;rfl
 | cons x l ih=>
  intro env hI
  obtain ⟨FC,h1,FL,h2,h3⟩:=h x List.mem_cons_self env hI
  have ih:=ih fun y hy=>h y (List.mem_cons_of_mem _ hy)
  rw [List.map_cons,rS,h1,GR,h2,GR]
  cases hp:p x with
  | true=>
   rw [hp] at h3
   obtain ⟨o,Gz,h4,h5⟩:=h3
   rw [if_pos rfl,h4,GR,ih Gz h5,GR,List.filter_cons_of_pos hp]
   rfl
  | false=>
   rw [hp] at h3
   rw [if_neg Bool.false_ne_true,ih FL h3,List.filter_cons_of_neg (by rw [hp];exact Bool.false_ne_true)]
theorem aV {α:Type} {a:FG} {f:FX} {e:α->D} {r:α->D} (I:PV.Env->Prop) (l:List α)
  (h:∀ x∈l,∀ env,I env->∃ FC,a (e x) env=.ok FC/\∃ o Gz,f FC=.ok ((o,r x),Gz)/\I Gz):∀ env,I env->b5 a cN f (l.map e) env=.ok (l.map r):=by
 induction l with
 | nil=>intro env _;rfl
 | cons x l ih=>
  intro env hI
  obtain ⟨FC,h1,o,Gz,h4,h5⟩:=h x List.mem_cons_self env hI
  have ih:=ih fun y hy=>h y (List.mem_cons_of_mem _ hy)
  rw [List.map_cons,rS,h1,GR,Cr,GR,if_pos rfl,h4,GR,ih Gz h5]
  rfl
theorem Ag {a:FG} {g:FS} (P:Nat->PV.Env->Prop) (ds:List D) (h:∀ i d env,ds[i]?=some d->P i env->∃ FC,a d env=.ok FC/\∃ FL,(g FC=.ok (.nx FL)\/g FC=.ok (.ct FL))/\P (i + 1) FL) :
  ∀ env,P 0 env->∃ env',kB a g ds env=.ok (.nx env')/\P ds.length env':=by
 have key:∀ (l:List D) (k:Nat) (env:PV.Env),(∀ i d,l[i]?=some d->ds[k + i]?=some d)->P k env->∃ env',kB a g l env=.ok (.nx env')/\P (k + l.length) env':=by
  intro l
  induction l with
  | nil=>exact fun k env _ hp=>⟨env,rfl,hp⟩
  | cons d l ih=>
   intro k env hd hp
   obtain ⟨FC,h1,FL,h2,h3⟩:=h k d env (hd 0 d rfl) hp
   obtain ⟨env',h4,h5⟩:=ih (k + 1) FL (fun i d e=>by have:=hd (i + 1) d (by simpa using e);rw [show k + 1 + i=k + (i + 1) by lia];exact this) h3
   refine ⟨env',?_,by rw [List.length_cons,show k + (l.length + 1)=k + 1 + l.length by lia];exact h5⟩
   rw [lY,h1,GR]
   rcases h2 with h2 | h2
   ·rw [h2,GR]
    exact h4
   ·rw [h2,GR]
    exact h4
 intro env hp
 obtain ⟨env',h1,h2⟩:=key ds 0 env (fun i d e=>by rw [Nat.zero_add];exact e) hp
 exact ⟨env',h1,by rw [Nat.zero_add] at h2;exact h2⟩
section
variable (env:PV.Env) (fo:FO) (fp FR:FP) (a b:Int) (ds:List D) (x:List Nat)
theorem MS:zT fo fp FR env=Res.bnd (fo env) (f:=⟨fun p=>Res.bnd (fp p.2) (f:=⟨fun q=>Res.bnd (FR q.2) (f:=⟨fun t=>Res.bnd (Hh t.2 p.1) (f:=⟨fun d=>Res.bnd (NV d q.1 t.1) (f:=⟨fun r=>.ok (r,t.2)⟩)⟩)⟩)⟩)⟩):=id rfl
theorem CH (lo hi:Option Int):NV (.lst ds) lo hi=.ok (.l .f,.lst (jg ds lo hi)):=id rfl
theorem CI (lo hi:Option Int) (h:HT.sIx ds.length 0 lo=0/\HT.sIx ds.length ds.length hi=ds.length):jg ds lo hi=ds:=by
 unfold jg
 rw [h.1,h.2,List.drop_zero,Nat.sub_zero,List.take_of_length_le (Nat.le_refl _)]
theorem vG:zQ (.int a) (.int b)=if cI a || cI b then .ok (.f,.int (a * b)) else if a.natAbs < 2 ^ 1000/\b.natAbs < 2 ^ 1000 then .ok (.f,.int (a * b)) else .bad:=id rfl
end
section
variable (env:PV.Env) (fo:FO) (fs:FOs) (f g:FX) (a b c:Int) (ds es:List D) (x y:List Nat)
theorem MT (gg:List D->List D->Res R):xl gg fo fs env=Res.bnd (fo env) (f:=⟨fun p=>Res.bnd (Hh p.2 p.1) (f:=⟨fun d=>match d with
 | .tup _=>Res.bnd (fs p.2) (f:=⟨fun q=>Res.bnd (Hh q.2 p.1) (f:=⟨fun d2=>match d2 with
  | .tup l=>Res.bnd (pd q.2 q.1) (f:=⟨fun ds=>Res.bnd (gg l ds) (f:=⟨fun r=>.ok (r,q.2)⟩)⟩)
  | _=>.bad⟩)⟩)
 | _=>.bad⟩)⟩):=id rfl
theorem EG (d:D):(∃ l,jM true d=.ok l/\jM false d=.bad/\lh d=some l)\/(∃ l,jM true d=.bad/\jM false d=.ok l/\lh d=some l)\/(jM true d=.bad/\jM false d=.bad/\lh d=none):=by
 cases d with
 | lst l=>exact .inl ⟨l,rfl,rfl,rfl⟩
 | tup l=>exact .inr (.inl ⟨l,rfl,rfl,rfl⟩)
 | _=>exact .inr (.inr ⟨rfl,rfl,rfl⟩)
noncomputable def xu (k1 k2:Bool) (e:PV.Env) (d1 d2:D):Res (List D×PV.Env):=(jM k1 d1).bind fun a=>(jM k2 d2).bind fun b=>.ok ((a.zip b).map fun z=>D.tup [z.1,z.2],e)
noncomputable def Ek (e:PV.Env) (d1 d2:D):Res (List D×PV.Env):=match lh d1,lh d2 with | some a,some b=>.ok ((a.zip b).map fun z=>D.tup [z.1,z.2],e) | _,_=>.bad
noncomputable def L8 (a b:Res (List D×PV.Env)):Res (List D×PV.Env):=match a with | .ok a=>.ok a | _=>b
noncomputable def wu (g:D->D->Res (List D×PV.Env)) (os:List Opd):Res (List D×PV.Env):=match os with | [.val d1,.val d2]=>g d1 d2 | _=>.bad
theorem qB (g h:D->D->Res (List D×PV.Env)) (os:List Opd):L8 (wu g os) (wu h os)=wu (fun a b=>L8 (g a b) (h a b)) os:=by
 unfold wu
 split <;> rfl
theorem Ah (e:PV.Env) (a b:D):L8 (xu true true e a b) (L8 (xu true false e a b) (L8 (xu false true e a b) (xu false false e a b)))=Ek e a b:=by
 unfold xu Ek
 rcases EG a with ⟨l,h1,h2,h3⟩ | ⟨l,h1,h2,h3⟩ | ⟨h1,h2,h3⟩ <;> rcases EG b with ⟨m,i1,i2,i3⟩ | ⟨m,i1,i2,i3⟩ | ⟨i1,i2,i3⟩ <;> rw [h1,h2,h3,i1,i2,i3] <;> rfl
theorem LO:pD fs env=Res.bnd (fs env) (f:=⟨fun p=>match p.1 with
 | [.val d1,.val d2]=>(match lh d1,lh d2 with | some a,some b=>.ok ((a.zip b).map fun z=>D.tup [z.1,z.2],p.2) | _,_=>.bad)
 | _=>.bad⟩):=by
 unfold pD
 rw [qA,qA,qA,oh,oh,oh,oh]
 cases fs env with
 | ok p=>
  show L8 (wu (xu true true p.2) p.1) (L8 (wu (xu true false p.2) p.1) (L8 (wu (xu false true p.2) p.1) (wu (xu false false p.2) p.1)))=wu (Ek p.2) p.1
  rw [qB,qB,qB]
  exact congrArg (fun g=>wu g p.1) (funext fun a=>funext fun b=>Ah p.2 a b)
 | _=>rfl
theorem LP:lh (.lst ds)=some ds:=id rfl
theorem LQ:lh (.tup ds)=some ds:=id rfl
theorem LR (i:Nat):vo i f g env=Res.bnd (g env) (f:=⟨fun (p:R×PV.Env)=>Res.bnd (f p.2) (f:=⟨fun (q:R×PV.Env)=>match p.2[i]?,q.2[i]? with
 | some (some _),some (some (.l .f,.lst ds))=>(match q.1.2 with
  | .int k=>(match ixN ds.length k with
   | some j=>.ok (.nx (q.2.set i (some (.l .f,.lst (ds.set j p.1.2)))))
   | none=>.bad)
  | _=>.bad)
 | _,_=>.bad⟩)⟩):=id rfl
theorem Ai:jR (.int a) (.int b)=zQ (.int a) (.int b):=id rfl
theorem KR:rM f g env=Res.bnd (f env) (f:=⟨fun p=>Res.bnd (g p.2) (f:=⟨fun q=>if fC false p.1.2 then .ok ((.d,.dct false [p.1.2] [q.1.2]),q.2) else .bad⟩)⟩):=id rfl
theorem CJ (d:D):Ln d (.lst ds)=Kj d (.lst ds):=id rfl
theorem Aj (d:D):qo d (.lst ds)=tN d (.lst ds):=id rfl
theorem CK:fC false (.int a)=true:=id rfl
theorem CL:fC false (.str x)=true:=id rfl
theorem CM:wt [.int a,.int b]=.ok (.f,.int (if b < a then b else a)):=id rfl
theorem Ak:cV (.int a) (.int b)=.ok (.f,.int (a + b)):=id rfl
theorem Al:cV (.str x) (.str y)=if x.length + y.length<=sizeLine then .ok (.f,.str (x++y)) else .bad:=id rfl
theorem vH:cV (.lst ds) (.lst es)=if ds.length + es.length<=sizeLine then .ok (.l .f,.lst (ds++es)) else .bad:=id rfl
theorem Am:cV (.tup ds) (.tup es)=if ds.length + es.length<=sizeLine\/ds=[] then .ok (.f,.tup (ds++es)) else .bad:=by
 unfold cV
 cases ds with
 | nil=>rw [if_pos (.inr rfl)];rfl
 | cons d ds=>
  dsimp only
  unfold addD
  dsimp only
  by_cases h:(d :: ds).length + es.length<=sizeLine
  ·rw [if_pos ⟨nofun,h⟩,if_pos (.inl h)]
  ·rw [if_neg (fun z=>h z.2),if_neg (fun z=>z.elim h nofun)]
end
section
variable (env:PV.Env) (f g:FX) (ds ks:List D) (i:Nat)
end
section
variable (env:PV.Env) (f:FX) (fs:FOs) (ds:List D) (i:Nat)
end
noncomputable def pv:=(And.intro @GR (And.intro @Mz (And.intro @JX (And.intro @Lp (And.intro @MA (And.intro @MB (And.intro @Lq (And.intro @KN (And.intro @Lr (And.intro @KO (And.intro @MC (And.intro @MD (And.intro @Lu (And.intro @Lw (And.intro @Lx (And.intro @Ly (And.intro @KP (And.intro @KQ (And.intro @Lz (And.intro @LA (And.intro @LB (And.intro @ME (And.intro @LC (And.intro @N5 (And.intro @MF (And.intro @N6 (And.intro @MG (And.intro @N7 (And.intro @LD (And.intro @MH (And.intro @MI (And.intro @MJ (And.intro @MS (And.intro @LF (And.intro @LG (And.intro @MK (And.intro @LH (And.intro @LI (And.intro @ML (And.intro @LJ (And.intro @JH (And.intro @JI (And.intro @JJ (And.intro @MM (And.intro @LK (And.intro @J9 (And.intro @Ka (And.intro @Hb (And.intro @LL (And.intro @GI (And.intro @JK (And.intro @HP (And.intro @LM (And.intro @MN (And.intro @LN (And.intro @MO (And.intro @N8 (And.intro @MP (And.intro @MQ (And.intro @MR (And.intro @List.getElem?_cons_zero.{0} (And.intro @List.getElem?_cons_succ.{0} (And.intro @List.set_cons_zero.{0} (And.intro @List.set_cons_succ.{0} (And.intro @List.length_cons.{0} (And.intro @List.length_nil.{0} (And.intro @List.map_cons.{0,0} (And.intro @List.map_nil.{0,0} (And.intro @List.replicate_succ.{0} (And.intro @List.replicate_zero.{0} (And.intro @List.cons_append.{0} (And.intro @List.nil_append.{0} (And.intro @Nat.zero_add (And.intro @MT (And.intro @LO (And.intro @LP (And.intro @LQ (And.intro @LR (And.intro @KR (And.intro @N2 (And.intro @N3 (And.intro @N4 @KL))))))))))))))))))))))))))))))))))))))))))))))))))))))))))))))))))))))))))))))))))
noncomputable def op:=(And.intro @Ee (And.intro @Ef (And.intro @Eg (And.intro @Cu (And.intro @Eh (And.intro @Ei (And.intro @Cy (And.intro @Cz (And.intro @CA (And.intro @xo (And.intro @CB (And.intro @Ac (And.intro @CC (And.intro @Ej (And.intro @CH (And.intro @CD (And.intro @CG (And.intro @at0 (And.intro @at1 (And.intro @Af (And.intro @CF (And.intro @Ad (And.intro @xp (And.intro @jE (And.intro @Ae (And.intro @FD (And.intro @PV.flat_strs (And.intro @cK (And.intro @CM (And.intro @Ak (And.intro @Ai (And.intro @CJ (And.intro @Aj (And.intro @CK @CL))))))))))))))))))))))))))))))))))
end PV
namespace LW
open PySem L2 NX PV
theorem for_list {α:Type} {a:FG} {g:FS} {e:α->D} (l:List α) (P:Nat->PV.Env->Prop)
  (h:∀ k x env,l[k]?=some x->P k env->∃ FC,a (e x) env=.ok FC/\∃ FL,g FC=.ok (.nx FL)/\P (k + 1) FL):∀ env,P 0 env->∃ env',kB a g (l.map e) env=.ok (.nx env')/\P l.length env':=by
 intro env h0
 have:=Ag (a:=a) (g:=g) P (l.map e) (fun i d env hi hp=>by
  rw [List.getElem?_map,Option.map_eq_some_iff] at hi
  obtain ⟨x,hx,rfl⟩:=hi
  obtain ⟨FC,h1,FL,h2,h3⟩:=h i x env hx hp
  exact ⟨FC,h1,FL,.inl h2,h3⟩) env h0
 rwa [List.length_map] at this
theorem jZ {a:FG} {g:FS} {e:Nat->D} (n:Nat) (P:Nat->PV.Env->Prop)
  (h:∀ k env,k < n->P k env->∃ FC,a (e k) env=.ok FC/\∃ FL,g FC=.ok (.nx FL)/\P (k + 1) FL):∀ env,P 0 env->∃ env',kB a g ((List.range n).map e) env=.ok (.nx env')/\P n env':=by
 intro env h0
 have:=for_list (a:=a) (g:=g) (e:=e) (List.range n) P (fun k x env hk hp=>by
  obtain ⟨h1,h2⟩:=List.getElem?_eq_some_iff.mp hk
  rw [List.length_range] at h1
  rw [List.getElem_range] at h2
  subst h2
  exact h k env h1 hp) env h0
 rwa [List.length_range] at this
abbrev LNN:=List (List Nat)
theorem a8 {α β:Type} {l:List α} (f:α->β):(l.map f).length=l.length:=List.length_map f
theorem fO:(false=true)=False:=Bool.false_eq_true
theorem j0 {α:Type} {l:List α} {i:Nat} {a:α} (h:l[i]?=some a):∃ h:i < l.length,l[i]=a:=List.getElem?_eq_some_iff.mp h
theorem kq {α:Type} {l:List α} {i:Nat} (h:i < l.length):l[i]?=some l[i]:=List.getElem?_eq_getElem h
theorem eE {α β:Type} {f:α->β} {a:α} {l:List α}:(a :: l).map f=f a :: l.map f:=List.map_cons
theorem kM {α:Type} {a b:α} (h:a∈[b]):a=b:=List.mem_singleton.mp h
theorem i5 {α β:Type} {f:α->β} {l:List α} {b:β} (h:b∈l.map f):∃ a,a∈l/\f a=b:=List.mem_map.mp h
theorem kN {α:Type} {a:α} {s t:List α} (h:a∈s++t):a∈s\/a∈t:=List.mem_append.mp h
theorem i6 {α:Type} {s t:List α}:(s++t).length=s.length + t.length:=List.length_append
theorem au {s t:FS} {env env':PV.Env} (h:s env=.ok (.nx env')):sSeq s t env=t env':=by rw [HP,h,GR]
theorem aN {ds:List D} (h:ds.length<=16777216):ds.length<=sizeLine:=line_le h
theorem ib {l:List Int} {k:Nat} (h:k < l.length):Gy (l.map D.int) (k:Int)=some (.int (l.getD k 0)):=dB (by rw [List.getElem?_map,List.getD_eq_getElem?_getD,kq h];rfl)
theorem vI {l:LNN} {k:Nat} (h:k < l.length):Gy (l.map D.str) (k:Int)=some (.str l[k]):=dB (by rw [List.getElem?_map,kq h];rfl)
theorem at2 {α:Type} (a b c:α):Gy [a,b,c] (2:Int)=some c:=rfl
theorem eZ:∀ l:LNN,fZ (l.map D.str)=some l
 | []=>rfl
 | a :: l=>by
  rw [eE,fZ,eZ l]
  rfl
theorem qC (x y:D) (t1 t2:Option R) (eL:PV.Env):fW 2 (aB (ax 0) (aB (ax 1) cq)) (.tup [x,y]) (t1 :: t2 :: eL)=.ok (some (.f,x) :: some (.f,y) :: eL):=by
 rw [JK,if_pos (by simp),GI,Hb,if_pos (by simp),GR,GI,Hb,if_pos (by simp),GR]
 rfl
theorem ic {α:Type} (lt:α->α->Bool) (l:List α):(cb lt l).length=l.length:=(eV lt l).length_eq
theorem vJ (l:LNN) (h:l.length < 64):fP [.lst (l.map D.str)]=.ok (.l .f,.lst ((cb JV l).map D.str)):=by
 unfold fP
 dsimp only
 rw [if_pos (by rw [a8];exact h)]
 unfold ly
 cases l with
 | nil=>rfl
 | cons a l=>
  have e:c8 ((a :: l).map D.str)=none:=rfl
  rw [e,eZ]
noncomputable def Iv:List Nat:=[97,98,99,100,101,102,103,104,105,106,107,108,109,110,111,112,113,114,115,116,117,118,119,120,121,122]
theorem CN (j:Nat) (h:j < 26):Iv[j]?=some (97 + j):=by
 have:∀ j:_root_.Fin 26,Iv[j.1]?=some (97 + j.1):=by decide
 exact this ⟨j,h⟩
theorem CO (j:Int) (h0:0<=j) (h:j < 26):Gy Iv j=some (97 + j.toNat):=by
 obtain ⟨n,rfl⟩:=Int.eq_ofNat_of_zero_le h0
 exact dB (CN n (by lia))
theorem eU (x b:Int) (h:0 < b):0<=x % b/\x % b < b:=⟨Int.emod_nonneg _ (by lia),Int.emod_lt_of_pos _ h⟩
theorem EH (n:Nat) (h:n<=200):yd (.int 10) (.int (n:Int))=.ok (.f,.int (10 ^ n)):=by
 rw [Cw,if_pos (by lia),Int.toNat_natCast]
theorem iC (x b:Int) (h:0 < b):fT (.int x) (.int b)=.ok (.f,.int (x % b)):=by rw [Cv,if_pos h]
theorem fK (x b:Int) (h:0 < b) (h2:b < 1073741824):eB (.int x) (.int b)=.ok (.f,.int (x / b)):=by rw [Ab,if_pos ⟨h,h2⟩]
theorem vK (k:Nat) (h:k<=1000000):cI (k:Int)=true:=by
 unfold cI
 rw [decide_eq_true_eq]
 lia
theorem Ft (x y:List Nat) (h:x.length + y.length<=1000):cV (.str x) (.str y)=.ok (.f,.str (x++y)):=by rw [Al,if_pos (line_le (by lia))]
theorem oj {α:Type} (l:List α) (k:Nat):jg l none (some (k:Int))=l.take k:=by
 unfold jg
 rw [HT.qP,HT.mY,List.drop_zero,Nat.sub_zero]
 by_cases h:k<=l.length
 ·rw [Nat.min_eq_left h]
 ·rw [Nat.min_eq_right (by lia),List.take_of_length_le (Nat.le_refl _),List.take_of_length_le (by lia)]
theorem xv {α:Type} (l:List α) (k:Nat):jg l (some (k:Int)) none=l.drop k:=by
 unfold jg
 rw [HT.qP,HT.mY]
 by_cases h:k<=l.length
 ·rw [Nat.min_eq_left h,List.take_of_length_le (by rw [List.length_drop];exact Nat.le_refl _)]
 ·rw [Nat.min_eq_right (by lia),List.drop_eq_nil_of_le (Nat.le_refl _),List.drop_eq_nil_of_le (by lia),List.take_nil]
theorem ie {α:Type} (f:Nat->α) (n:Nat) (h:∀ i j,i < n->j < n->f i=f j->i=j):((List.range n).map f).Nodup:=by
 rw [List.nodup_iff_pairwise_ne,List.pairwise_map]
 refine List.pairwise_lt_range.imp_of_mem fun {a b} ha hb hl e=>?_
 have:=h a b (List.mem_range.mp ha) (List.mem_range.mp hb) e
 lia
theorem An {α:Type} (l:List α) (a b:Nat) (h:a<=b) (hb:b<=l.length):jg l (some (a:Int)) (some (b:Int))=(l.drop a).take (b - a):=by
 unfold jg
 rw [HT.mY,HT.mY,Nat.min_eq_left hb,Nat.min_eq_left (Nat.le_trans h hb)]
theorem lZ (x:Int) (h : -1000000<=x) (h2:x<=1000000):cI x=true:=by
 unfold cI
 rw [decide_eq_true_eq]
 lia
theorem vL (d:D) (h:plainD 40 d=true):Hd d d=.ok (.f,.bl true):=by
 unfold Hd
 rw [h,ji d 40 h]
 rfl
theorem l5 (d:D) (h:plainD 40 d=true):Jb d d=.ok (.f,.bl false):=by
 unfold Jb
 rw [h,ji d 40 h]
 rfl
theorem xw (l:List Int):plainD 40 (.tup (l.map D.int))=true:=by
 rw [plainD,eY]
theorem vM (n k:Nat) (h:k < n):ixN n (k:Int)=some k:=by
 unfold ixN
 rw [if_pos (by lia),if_pos (by lia)]
 rfl
theorem CP (l:List Int):B0 [.lst (l.map D.int)]=.ok (.f,.int l.sum):=by
 unfold B0
 dsimp only
 have:(lh (D.lst (l.map D.int))).bind c8=some l:=jO l
 rw [this]
theorem isT (ds:List D):EF "tuple" (.tup ds)=true:=rfl
theorem jF {c:FT} {g:FS} (P:Nat->PV.Env->Prop) (fin:PV.Env->Prop) (h:∀ k env,P k env->(∃ FC,c env=.ok (false,FC)/\fin FC)\/(∃ FC,c env=.ok (true,FC)/\∃ FL k',g FC=.ok (.nx FL)/\k' < k/\P k' FL)) :
  ∀ n k env,k < n->P k env->∃ env',c6 c g n env=.ok (.nx env')/\fin env'
 | 0,k,env,hk,_=>absurd hk (Nat.not_lt_zero _)
 | n + 1,k,env,hk,hp=>by
  rcases h k env hp with ⟨FC,h1,h2⟩ | ⟨FC,h1,FL,k',h2,h3,h4⟩
  ·exact ⟨FC,by rw [jD,h1,GR];rfl,h2⟩
  ·obtain ⟨env',e,hf⟩:=jF P fin h n k' FL (by lia) h4
   refine ⟨env',?_,hf⟩
   rw [jD,h1,GR]
   dsimp only
   rw [if_pos rfl,h2,GR]
   exact e
theorem Ao {α β:Type} (f:α->β) (l:List α) (lo hi:Option Int):jg (l.map f) lo hi=(jg l lo hi).map f:=by
 unfold jg
 rw [a8,<-List.map_drop,<-List.map_take]
theorem gL {α:Type} {l:List α} (h:l.length<=100000):l.length < sizeLine:=Nat.lt_of_lt_of_le (Nat.lt_succ_self _) (line_le (by lia))
section
variable (env:PV.Env) (f:FX) (fs:FOs) (fo:FO)
theorem El (i:Nat) (c:O) (F:Addr->List D->Res R):eFunW c F i fs env=Res.bnd (fs env) (f:=⟨fun p=>match p.1 with
 | .var j :: os=>if j=i then (match p.2[i]? with
  | some (some (ow,d0))=>if Cf c ow then Res.bnd (mq (p.2.set i none) os) (f:=⟨fun ds=>Res.bnd (Cg F c d0 ds) (f:=⟨fun x=>if cu x.1.1 x.1.2 && cu c x.2 then .ok (x.1,(p.2.set i none).set i (some (ow,x.2))) else .ok (x.1,((p.2.set i none).map frz).set i (some (ow,x.2)))⟩)⟩) else .bad
  | _=>.bad) else .bad
 | _=>.bad⟩):=id rfl
theorem Dm (r:R):frz (some r)=some (.f,r.2):=id rfl
theorem Dn:frz none=none:=id rfl
theorem rT (gg:List D->List D->Res R):Cj gg fo fs env=Res.bnd (fo env) (f:=⟨fun p=>Res.bnd (Hh p.2 p.1) (f:=⟨fun d=>match d with
 | .lst _=>Res.bnd (fs p.2) (f:=⟨fun q=>Res.bnd (Hh q.2 p.1) (f:=⟨fun d2=>match d2 with
  | .lst l=>Res.bnd (pd q.2 q.1) (f:=⟨fun ds=>Res.bnd (gg l ds) (f:=⟨fun r=>.ok (r,q.2)⟩)⟩)
  | _=>.bad⟩)⟩)
 | _=>.bad⟩)⟩):=id rfl
theorem Ap (g:FX):zY f g env=Res.bnd (f env) (f:=⟨fun p=>Res.bnd (g p.2) (f:=⟨fun q=>match (lh p.1.2).bind c8,q.1.2 with | some ns,.int d=>.ok ((.f,.int (NX.minD ns d)),q.2) | _,_=>.bad⟩)⟩):=id rfl
end
theorem o_isnT (ds:List D):isnO (.tup ds) .non=.ok (.f,.bl true):=id rfl
theorem rU:isnO .non .non=.ok (.f,.bl false):=id rfl
abbrev FK:=Int×List Nat×Int
noncomputable def eA (a:FK):D:=.tup [.int a.1,.str a.2.1,.int a.2.2]
abbrev Nd:=Int×LNN
noncomputable def met (T:List FK):List Int:=0 :: T.map (·.2.2)
noncomputable def tw (c:Int) (T:List FK) (a:FK):List FK:=if a.1=c/\a.2.2∉met T then T++[a] else T
inductive Run (aZ:List FK):Nat->List FK->Prop where
 | z:Run aZ 0 []
 | s {i:Nat} {T:List FK} {c:Int}:Run aZ i T->(met T)[i]?=some c->Run aZ (i + 1) (aZ.foldl (tw c) T)
theorem Run.inj {aZ:List FK}:∀ {i:Nat} {T T':List FK},Run aZ i T->Run aZ i T'->T=T'
 | 0,_,_,.z,.z=>rfl
 | i + 1,_,_,.s r h,.s r' h'=>by
  have e:=Run.inj r r'
  subst e
  rw [h] at h'
  cases h'
  rfl
theorem Run.before {aZ:List FK}:∀ {j:Nat} {T:List FK},Run aZ j T->∀ i,i < j->∃ T',Run aZ i T'/\i < (met T').length
 | 0,_,_,i,h=>absurd h (Nat.not_lt_zero _)
 | j + 1,_,.s r h,i,hi=>by
  by_cases e:i=j
  ·subst e
   exact ⟨_,r,(j0 h).1⟩
  ·exact Run.before r i (by lia)
structure Bfs (aZ:List FK) (i:Nat) (pre:List FK) (N:List Nd) (T:List FK):Prop where
 z:N[0]?=some (0,[])
 len:N.length=T.length + 1
 nd:(N.map (·.1)).Nodup
 bd:∀ n∈N,0<=n.1/\n.1 < 12
 tr:∀ (j:Nat) (a:FK),T[j]?=some a->a∈aZ/\∃ (k:Nat) (n:Nd),k<=j/\N[k]?=some n/\a.1=n.1/\N[j + 1]?=some (a.2.2,n.2++[a.2.1])
 mono:∀ (j k:Nat) (n m:Nd),j<=k->N[j]?=some n->N[k]?=some m->n.2.length<=m.2.length
 top:∀ n∈N,∀ c:Nd,N[i]?=some c->n.2.length<=c.2.length + 1
 clo:∀ k,k < i->∀ n:Nd,N[k]?=some n->∀ a∈aZ,a.1=n.1->∃ m∈N,m.1=a.2.2/\m.2.length<=n.2.length + 1
 cur:∀ a∈pre,∀ c:Nd,N[i]?=some c->a.1=c.1->∃ m∈N,m.1=a.2.2/\m.2.length<=c.2.length + 1
 nm:N.map (·.1)=met T
theorem Bfs.start (aZ:List FK):Bfs aZ 0 [] [(0,[])] []:=by
 refine ⟨rfl,rfl,List.nodup_cons.mpr ⟨List.not_mem_nil,List.nodup_nil⟩,fun n hn=>?_,fun j a h=>by simp at h,fun j k n m _ h1 h2=>?_,fun n hn c hc=>?_,fun k hk=>absurd hk (Nat.not_lt_zero _),(fun a ha=>nomatch ha),rfl⟩
 ·rw [kM hn]
  exact ⟨Int.le_refl _,by decide⟩
 ·rw [kM (List.mem_of_getElem? h1)]
  exact Nat.zero_le _
 ·rw [kM hn]
  exact Nat.zero_le _
theorem gD {α:Type} {l:List α} {x:α} {j:Nat} {y:α} (h:l[j]?=some y):(l++[x])[j]?=some y:=by
 rw [List.getElem?_append_left (j0 h).1]
 exact h
theorem e7 {α:Type} {l:List α} {x:α} {j:Nat} {y:α} (h:(l++[x])[j]?=some y):l[j]?=some y\/(j=l.length/\y=x):=by
 by_cases hj:j < l.length
 ·rw [List.getElem?_append_left hj] at h
  exact .inl h
 ·rw [List.getElem?_append_right (by lia)] at h
  by_cases e:j - l.length=0
  ·rw [e] at h
   exact .inr ⟨by lia,by simpa using h.symm⟩
  ·rw [List.getElem?_eq_none (by simp;lia)] at h
   cases h
theorem Bfs.skip {aZ:List FK} {i:Nat} {pre:List FK} {N:List Nd} {T:List FK} (b:Bfs aZ i pre N T) {a:FK} {c:Nd} (hc:N[i]?=some c) (h:a.1≠c.1\/a.2.2∈N.map (·.1)):Bfs aZ i (pre++[a]) N T:=by
 refine ⟨b.z,b.len,b.nd,b.bd,b.tr,b.mono,b.top,b.clo,fun x hx c' H0 e=>?_,b.nm⟩
 rcases kN hx with hx | hx
 ·exact b.cur x hx c' H0 e
 ·rw [kM hx] at e ⊢
  rw [hc] at H0
  cases H0
  rcases h with h | h
  ·exact absurd e h
  ·obtain ⟨m,hm,em⟩:=i5 h
   exact ⟨m,hm,em,b.top m hm c hc⟩
theorem Bfs.take {aZ:List FK} {i:Nat} {pre:List FK} {N:List Nd} {T:List FK} (b:Bfs aZ i pre N T) {a:FK} {c:Nd} (hc:N[i]?=some c) (ha:a∈aZ) (NC:0<=a.2.2/\a.2.2 < 12) (h1:a.1=c.1) (h2:a.2.2∉N.map (·.1)):Bfs aZ i (pre++[a]) (N++[(a.2.2,c.2++[a.2.1])]) (T++[a]):=by
 have hi:=(j0 hc).1
 have Kh:(c.2++[a.2.1]).length=c.2.length + 1:=by rw [i6];rfl
 have up:∀ {x:Int} {B:Nat},(∃ m∈N,m.1=x/\m.2.length<=B)->∃ m∈N++[(a.2.2,c.2++[a.2.1])],m.1=x/\m.2.length<=B:=fun ⟨m,hm,q⟩=>⟨m,List.mem_append_left _ hm,q⟩
 refine ⟨gD b.z,by rw [i6,i6,b.len];rfl,?_,fun n hn=>?_,fun j x hx=>?_,fun j k n m hjk hn hm=>?_,fun n hn c' H0=>?_,fun k hk n hn x hx e=>?_,fun x hx c' H0 e=>?_,by unfold met;rw [List.map_append,List.map_append,b.nm];rfl⟩
 ·rw [List.map_append,List.nodup_append]
  refine ⟨b.nd,List.nodup_cons.mpr ⟨List.not_mem_nil,List.nodup_nil⟩,fun x hx y hy=>?_⟩
  have:y=a.2.2:=by simpa using hy
  rw [this]
  rintro rfl
  exact h2 hx
 ·rcases kN hn with hn | hn
  ·exact b.bd n hn
  ·rw [kM hn]
   exact NC
 ·rcases e7 hx with hx | ⟨rfl,rfl⟩
  ·obtain ⟨q,k,n,hk,hn,e,Ku⟩:=b.tr j x hx
   exact ⟨q,k,n,hk,gD hn,e,gD Ku⟩
  ·refine ⟨ha,i,c,?_,gD hc,h1,?_⟩
   ·have:=b.len
    lia
   ·rw [<-b.len,List.getElem?_append_right (Nat.le_refl _),Nat.sub_self]
    rfl
 ·rcases e7 hn with hn | ⟨rfl,rfl⟩
  ·rcases e7 hm with hm | ⟨rfl,rfl⟩
   ·exact b.mono j k n m hjk hn hm
   ·show n.2.length<=(c.2++[a.2.1]).length
    rw [Kh]
    exact b.top n (List.mem_of_getElem? hn) c hc
  ·rcases e7 hm with hm | ⟨rfl,rfl⟩
   ·have:=(j0 hm).1
    lia
   ·exact Nat.le_refl _
 ·have:c'=c:=by
   rw [gD hc] at H0
   exact (Option.some.inj H0).symm
  subst this
  rcases kN hn with hn | hn
  ·exact b.top n hn c' hc
  ·rw [kM hn]
   exact Nat.le_of_eq Kh
 ·rcases e7 hn with hn | ⟨rfl,rfl⟩
  ·exact up (b.clo k hk n hn x hx e)
  ·lia
 ·have:c'=c:=by
   rw [gD hc] at H0
   exact (Option.some.inj H0).symm
  subst this
  rcases kN hx with hx | hx
  ·exact up (b.cur x hx c' hc e)
  ·rw [kM hx]
   exact ⟨_,List.mem_append_right _ List.mem_cons_self,rfl,Nat.le_of_eq Kh⟩
theorem Bfs.next {aZ:List FK} {i:Nat} {N:List Nd} {T:List FK} (b:Bfs aZ i aZ N T) {c:Nd} (hc:N[i]?=some c):Bfs aZ (i + 1) [] N T:=by
 refine ⟨b.z,b.len,b.nd,b.bd,b.tr,b.mono,fun n hn c' H0=>?_,fun k hk n hn a ha e=>?_,(fun a ha=>nomatch ha),b.nm⟩
 ·have h1:=b.top n hn c hc
  have h2:=b.mono i (i + 1) c c' (Nat.le_succ _) hc H0
  lia
 ·by_cases hki:k=i
  ·subst hki
   rw [hc] at hn
   cases hn
   exact b.cur a ha c hc e
  ·exact b.clo k (by lia) n hn a ha e
theorem kO:∀ (n:Nat) {l:List Int},l.Nodup->(∀ x∈l,0<=x/\x < (n:Int))->l.length<=n
 | 0,l,_,hb=>by
  cases l with
  | nil=>exact Nat.le_refl _
  | cons a l=>have:=hb a List.mem_cons_self;lia
 | n + 1,l,nd,hb=>by
  have h1:=kO n (l:=l.erase (n:Int)) (nd.erase _) fun x hx=>by
   have h2:=(nd.mem_erase_iff.mp hx)
   have h3:=hb x h2.2
   have h4:=h2.1
   lia
  have:=List.length_erase_le (a:=(n:Int)) (l:=l)
  have h5:l.length<=(l.erase (n:Int)).length + 1:=by
   by_cases hm:(n:Int)∈l
   ·rw [List.length_erase_of_mem hm]
    have:=List.length_pos_of_mem hm
    lia
   ·rw [List.erase_of_not_mem hm]
    lia
  lia
theorem Bfs.le12 {aZ:List FK} {i:Nat} {pre:List FK} {N:List Nd} {T:List FK} (b:Bfs aZ i pre N T):N.length<=12:=by
 have:=kO 12 b.nd fun x hx=>by
  obtain ⟨n,hn,rfl⟩:=i5 hx
  exact b.bd n hn
 rw [a8] at this
 exact this
theorem vN (aZ:List FK) (i:Nat) (pre:List FK) (N:List Nd) (T:List FK) (b:Bfs aZ i pre N T) (c:Nd) (hc:N[i]?=some c) (a:FK) (ha:a∈aZ) (NC:0<=a.2.2/\a.2.2 < 12) :
  ∃ N' T',T'=tw c.1 T a/\Bfs aZ i (pre++[a]) N' T'/\N'[i]?=some c/\fM [some (.f,.lst (aZ.map eA)),some (.l .f,.lst ((N.map (·.1)).map D.int)),some (.l .f,.lst (T.map eA)),some (.f,.int (i:Int)),some (.f,eA a)]=.ok (.nx [some (.f,.lst (aZ.map eA)),some (.l .f,.lst ((N'.map (·.1)).map D.int)),some (.l .f,.lst (T'.map eA)),some (.f,.int (i:Int)),some (.f,eA a)]):=by
 have OF:=b.le12
 have Gn:=(j0 hc).1
 have Jk:Gy ((N.map (·.1)).map D.int) (i:Int)=some (.int c.1):=dB (by rw [List.getElem?_map,List.getElem?_map,hc];rfl)
 have z1:((N.map (·.1)).map D.int).length < sizeLine:=gL (by rw [a8,a8];lia)
 have z2:(T.map eA).length < sizeLine:=gL (by rw [a8];have:=b.len;lia)
 unfold fM eA
 by_cases h1:a.1=c.1
 ·by_cases h2:a.2.2∈N.map (·.1)
  ·refine ⟨N,T,by unfold tw;rw [if_neg (by rw [<-b.nm];exact fun z=>z.2 h2)],b.skip hc (.inr h2),hc,?_⟩
   have e1:(a.1 == c.1)=true:=beq_iff_eq.mpr h1
   simp only [pv,seval,op,Jk,e1,at2,h2,decide_true,Bool.not_true,fO]
  ·refine ⟨_,_,by unfold tw;rw [if_pos (by rw [<-b.nm];exact ⟨h1,h2⟩)],b.take hc ha NC h1 h2,gD hc,?_⟩
   have e1:(a.1 == c.1)=true:=beq_iff_eq.mpr h1
   have e:(fun a:FK=>D.tup [D.int a.1,D.str a.2.1,D.int a.2.2])=eA:=rfl
   rw [e] at *
   simp only [pv,seval,op,Jk,e1,at2,h2,decide_false,Bool.not_false,z1,z2,List.map_append]
   rfl
 ·refine ⟨N,T,by unfold tw;rw [if_neg (fun z=>h1 z.1)],b.skip hc (.inl h1),hc,?_⟩
  have e1:(a.1 == c.1)=false:=beq_eq_false_iff_ne.mpr h1
  simp only [pv,seval,op,Jk,e1,fO]
theorem vO (aZ:List FK) (hl:aZ.length<=1000) (hb:∀ a∈aZ,0<=a.2.2/\a.2.2 < 12):∃ N T,Bfs aZ N.length [] N T/\Run aZ N.length T/\c9 [.lst (aZ.map eA)]=.ok (.l .f,.lst (T.map eA)):=by
 unfold c9 pK
 rw [bh (h:=by rfl)]
 rw [au (env':=[some (.f,.lst (aZ.map eA)),some (.l .f,.lst [.int 0]),none,none,none]) (by simp only [pv,seval,op])]
 rw [au (env':=[some (.f,.lst (aZ.map eA)),some (.l .f,.lst [.int 0]),some (.l .f,.lst []),none,none]) (by simp only [pv,seval,op])]
 rw [au (env':=[some (.f,.lst (aZ.map eA)),some (.l .f,.lst [.int 0]),some (.l .f,.lst []),some (.f,.int 0),none]) (by simp only [pv,seval,op])]
 obtain ⟨env',ew,N,T,i,t4,b,hi,JL,rfl⟩:=jF (c:=(Gg (aD Kk (ao 3) (aq (a9 ka (ag (ao 1) aA)))))) (g:=gW)
  (fun k env=>∃ N T i t4,Bfs aZ i [] N T/\i<=N.length/\Run aZ i T/\k=13 - i/\env=[some (.f,.lst (aZ.map eA)),some (.l .f,.lst ((N.map (·.1)).map D.int)),some (.l .f,.lst (T.map eA)),some (.f,.int ((i:Nat):Int)),t4]) (fun env=>∃ N T i t4,Bfs aZ i [] N T/\i=N.length/\Run aZ i T/\env=[some (.f,.lst (aZ.map eA)),some (.l .f,.lst ((N.map (·.1)).map D.int)),some (.l .f,.lst (T.map eA)),some (.f,.int ((i:Nat):Int)),t4]) (by
  rintro k env ⟨N,T,i,t4,b,hi,JL,rfl,rfl⟩
  have OF:=b.le12
  by_cases Gn:i < N.length
  ·refine .inr ⟨[some (.f,.lst (aZ.map eA)),some (.l .f,.lst ((N.map (·.1)).map D.int)),some (.l .f,.lst (T.map eA)),some (.f,.int ((i:Nat):Int)),t4],?_,?_⟩
   ·have:(i:Int) < (N.length:Int):=by lia
    simp only [pv,seval,op,a8,this,decide_true]
   ·obtain ⟨c,hc⟩:∃ c,N[i]?=some c:=⟨N[i],kq Gn⟩
    have N9:=Run.s JL (c:=c.1) (by rw [<-b.nm,List.getElem?_map,hc];rfl)
    obtain ⟨env',ef,N',T',Pt,b',H0,eT,rfl⟩:=for_list (a:=ax 4) (g:=fM) (e:=eA) aZ (fun j env=>∃ N T2 t4,Bfs aZ i (aZ.take j) N T2/\N[i]?=some c/\T2=(aZ.take j).foldl (tw c.1) T/\env=[some (.f,.lst (aZ.map eA)),some (.l .f,.lst ((N.map (·.1)).map D.int)),some (.l .f,.lst (T2.map eA)),some (.f,.int ((i:Nat):Int)),t4]) (by
     rintro j a env hj ⟨N,T2,t4,b,hc,eT,rfl⟩
     have Kl:=List.mem_of_getElem? hj
     obtain ⟨N',T',eT',b',H0,e⟩:=vN aZ i _ N T2 b c hc a Kl (hb a Kl)
     have ht:aZ.take (j + 1)=aZ.take j++[a]:=by rw [List.take_add_one,hj];rfl
     exact ⟨_,rfl,_,e,N',T',some (.f,eA a),by rw [ht];exact b',H0,by rw [eT',eT,ht,List.foldl_append];rfl,rfl⟩) _ ⟨N,T,t4,by rw [List.take_zero];exact b,hc,by rw [List.take_zero];rfl,rfl⟩
    rw [List.take_length] at b' eT
    have hlt':=(j0 H0).1
    refine ⟨_,13 - (i + 1),?_,by lia,N',T',i + 1,Pt,b'.next H0,by lia,by rw [eT];exact N9,rfl,rfl⟩
    unfold gW
    rw [au (env':=_) (by
     unfold lJ
     simp only [pv,seval,op]
     exact ef)]
    unfold kc
    simp only [pv,seval,op,Int.natCast_add,Int.cast_ofNat_Int]
  ·refine .inl ⟨_,?_,N,T,i,t4,b,by lia,JL,rfl⟩
   have:¬ (i:Int) < (N.length:Int):=by lia
   simp only [pv,seval,op,a8,this,decide_false]) 100000 13 _ (by decide) ⟨[(0,[])],[],0,none,Bfs.start aZ,Nat.zero_le _,.z,rfl,rfl⟩
 subst hi
 rw [au (env':=_) (by
  unfold lK
  exact ew)]
 unfold ke
 exact ⟨N,T,b,JL,by simp only [pv,seval,op]⟩
noncomputable def eCh (nZ:LNN) (aZ:List FK):D:=.tup [.tup (nZ.map D.str),.lst (aZ.map eA)]
theorem qD (a:FK) (t1 t2 t3:Option R) (eL:PV.Env):fW 3 (aB (ax 0) (aB (ax 1) (aB (ax 2) cq))) (eA a) (t1 :: t2 :: t3 :: eL)=.ok (some (.f,.int a.1) :: some (.f,.str a.2.1) :: some (.f,.int a.2.2) :: eL):=by
 unfold eA
 rw [JK,if_pos (by simp),GI,Hb,if_pos (by simp),GR,GI,Hb,if_pos (by simp),GR,GI,Hb,if_pos (by simp),GR]
 rfl
theorem rV (l:List Int):(lh (.lst (l.map D.int))).bind c8=some l:=jO l
noncomputable def l6 (a:FK):Int:=if a.1 < a.2.2 then a.2.2 else a.1
noncomputable def bu (aZ:List FK):Int:=1 + NX.maxD (aZ.map l6) 0
theorem xx {α:Type} {f:α->D} {l:List α} (h:∀ a,dk (f a)=true):flatDs (l.map f)=true:=by
 rw [bH,List.all_map,List.all_eq_true]
 intro a _
 exact h a
theorem qE (nZ:LNN) (aZ:List FK) (hl:aZ.length<=16777216):dW [eCh nZ aZ]=.ok (.f,.int (bu aZ)):=by
 unfold dW lI
 rw [bh (h:=by rfl)]
 simp only [pv,seval,op,eCh]
 rw [aV (r:=fun a:FK=>D.int (l6 a)) (fun env=>∃ t1 t2 t3,env=[t1,t2,t3]) aZ ?_ _ ⟨_,_,_,rfl⟩]
 ·rw [GR,if_pos (aN (by rw [a8];exact hl)),GR,xx fun a=>jE _]
  simp only [pv,seval,op]
  have e:(some (aZ.map fun a=>D.int (l6 a))).bind c8=some (aZ.map l6):=by
   have:=rV (aZ.map l6)
   rw [List.map_map] at this
   exact this
  rw [e]
  rfl
 ·rintro a _ env ⟨t1,t2,t3,rfl⟩
  refine ⟨_,qD a t1 t2 t3 _,?_⟩
  simp only [pv,seval,op]
  exact ⟨_,_,rfl,_,_,_,rfl⟩
noncomputable def rW (n:Nd):D:=.tup (n.2.map D.str)
theorem qF:∀ (N:List Nd) (k:Nat) (n:Nd),(N.map (·.1)).Nodup->N[k]?=some n->getD (N.map fun n=>D.int n.1) (N.map rW) (.int n.1)=some (rW n)
 | [],_,_,_,h=>by simp at h
 | m :: N,0,n,_,h=>by
  simp at h
  subst h
  unfold getD
  rw [eE,eE,List.zip_cons_cons,List.find?_cons_of_pos (by show eqD (.int m.1) (.int m.1)=true;rw [eqD];exact beq_self_eq_true _)]
  rfl
 | m :: N,k + 1,n,nd,h=>by
  rw [List.getElem?_cons_succ] at h
  rw [eE,List.nodup_cons] at nd
  have ih:=qF N k n nd.2 h
  unfold getD at ih ⊢
  have hne:n.1≠m.1:=fun e=>nd.1 (by rw [<-e];exact List.mem_map.mpr ⟨n,List.mem_of_getElem? h,rfl⟩)
  rw [eE,eE,List.zip_cons_cons,List.find?_cons_of_neg (by show ¬ eqD (.int n.1) (.int m.1)=true;rw [eqD,beq_iff_eq];exact hne)]
  exact ih
theorem Aq (N:List Nd) (n:Nd) (h:n.1∉N.map (·.1)):qk (N.map fun n=>D.int n.1) (N.map rW) (.int n.1) (rW n)=((N++[n]).map (fun n=>D.int n.1),(N++[n]).map rW):=by
 have e:(N.map fun n=>D.int n.1).any (eqD (.int n.1))=false:=by
  rw [List.any_map,List.any_eq_false]
  intro m hm
  show ¬ eqD (.int n.1) (.int m.1)=true
  rw [eqD,beq_iff_eq]
  intro e
  exact h (by rw [e];exact List.mem_map.mpr ⟨m,hm,rfl⟩)
 unfold qk
 rw [e,if_neg Bool.false_ne_true,List.map_append,List.map_append]
 rfl
theorem Ar (a:FK):dk (eA a)=true:=rfl
theorem j3 (as:List FK):flatDs (as.map eA)=true:=by
 rw [bH,List.all_map,List.all_eq_true]
 exact fun p _=>Ar p
theorem EI (w:LNN) (m:List Nat) (h:w.length<=1000):cV (.tup (w.map D.str)) (.tup [.str m])=.ok (.f,.tup ((w++[m]).map D.str)):=by
 rw [Am,if_pos (.inl (line_le (by rw [a8,List.length_cons,List.length_nil];lia))),List.map_append]
 rfl
structure Found (aZ:List FK) (N:List Nd):Prop where
 z:N[0]?=some (0,[])
 nd:(N.map (·.1)).Nodup
 le:N.length<=12
 bd:∀ n∈N,0<=n.1/\n.1 < 12
 wl:∀ n∈N,n.2.length<=12
 par:∀ n∈N,n=(0,[])\/∃ a∈aZ,∃ m∈N,a.1=m.1/\n=(a.2.2,m.2++[a.2.1])
 clo:∀ n∈N,∀ a∈aZ,a.1=n.1->∃ m∈N,m.1=a.2.2/\m.2.length<=n.2.length + 1
theorem Bfs.wlen {aZ:List FK} {i:Nat} {pre:List FK} {N:List Nd} {T:List FK} (b:Bfs aZ i pre N T):∀ (j:Nat) (n:Nd),N[j]?=some n->n.2.length<=j:=by
 intro j
 induction j using Nat.strongRecOn with
 | _ j ih=>
  intro n hn
  cases j with
  | zero=>
   rw [b.z] at hn
   cases hn
   exact Nat.le_refl _
  | succ j=>
   have Gn:=(j0 hn).1
   have hl:=b.len
   obtain ⟨_,k,m,hk,hm,_,Ku⟩:=b.tr j T[j] (kq (by lia))
   rw [hn] at Ku
   cases Ku
   have:=ih k (by lia) m hm
   show (m.2++[_]).length<=_
   rw [i6,List.length_cons,List.length_nil]
   lia
theorem Bfs.found {aZ:List FK} {N:List Nd} {T:List FK} (b:Bfs aZ N.length [] N T):Found aZ N:=by
 refine ⟨b.z,b.nd,b.le12,b.bd,fun n hn=>?_,fun n hn=>?_,fun n hn a ha e=>?_⟩
 ·obtain ⟨j,hj⟩:=List.mem_iff_getElem?.mp hn
  have:=b.wlen j n hj
  have:=(j0 hj).1
  have:=b.le12
  lia
 ·obtain ⟨j,hj⟩:=List.mem_iff_getElem?.mp hn
  cases j with
  | zero=>
   rw [b.z] at hj
   cases hj
   exact .inl rfl
  | succ j=>
   have Gn:=(j0 hj).1
   have hl:=b.len
   obtain ⟨ha,k,m,hk,hm,e,Ku⟩:=b.tr j T[j] (kq (by lia))
   rw [hj] at Ku
   cases Ku
   exact .inr ⟨_,ha,m,List.mem_of_getElem? hm,e,rfl⟩
 ·obtain ⟨j,hj⟩:=List.mem_iff_getElem?.mp hn
  exact b.clo j (j0 hj).1 n hj a ha e
noncomputable def bF (N:List Nd) (s:Int):LNN:=((N.find? fun n=>n.1 == s).map (·.2)).getD []
theorem om {N:List Nd} (nd:(N.map (·.1)).Nodup) {n:Nd} (h:n∈N):bF N n.1=n.2:=by
 unfold bF
 induction N with
 | nil=>cases h
 | cons m N ih=>
  rw [eE,List.nodup_cons] at nd
  rcases List.mem_cons.mp h with rfl | h
  ·rw [List.find?_cons_of_pos (by exact beq_self_eq_true _)]
   rfl
  ·have hne:m.1≠n.1:=fun e=>nd.1 (by rw [e];exact List.mem_map.mpr ⟨n,h,rfl⟩)
   rw [List.find?_cons_of_neg (by simpa using hne)]
   exact ih nd.2 h
theorem vP (nZ:LNN) (aZ:List FK) (hl:aZ.length<=1000) (hb:∀ a∈aZ,0<=a.2.2/\a.2.2 < 12) (all:∀ N,Found aZ N->∀ s:Int,0<=s->s < bu aZ->s∈N.map (·.1)) (hs:0<=bu aZ/\bu aZ<=100) :
  ∃ N T,Bfs aZ N.length [] N T/\Run aZ N.length T/\c9 [.lst (aZ.map eA)]=.ok (.l .f,.lst (T.map eA))/\cS [eCh nZ aZ]=.ok (.l .f,.lst ((List.range (bu aZ).toNat).map fun (s:Nat)=>.tup ((bF N (s:Int)).map D.str))):=by
 obtain ⟨N,T,b,JL,et⟩:=vO aZ hl hb
 refine ⟨N,T,b,JL,et,?_⟩
 have F:=b.found
 unfold cS pL
 rw [bh (h:=by rfl)]
 rw [au (env':=[some (.f,eCh nZ aZ),some (.d,.dct false [.int 0] [.tup []]),none,none,none]) (by simp only [pv,seval,op])]
 have hlen:=b.len
 have OF:=F.le
 obtain ⟨env',ef,t2,t3,t4,rfl⟩:=for_list (a:=fW 3 (aB (ax 2) (aB (ax 3) (aB (ax 4) cq)))) (g:=gX) (e:=eA) T (fun j env=>∃ t2 t3 t4,env=[some (.f,eCh nZ aZ),some (.d,.dct false ((N.take (j + 1)).map fun n=>D.int n.1) ((N.take (j + 1)).map rW)),t2,t3,t4]) (by
  rintro j a env hj ⟨t2,t3,t4,rfl⟩
  refine ⟨[some (.f,eCh nZ aZ),some (.d,.dct false ((N.take (j + 1)).map fun n=>D.int n.1) ((N.take (j + 1)).map rW)),some (.f,.int a.1),some (.f,.str a.2.1),some (.f,.int a.2.2)],rfl,_,?_,some (.f,.int a.1),some (.f,.str a.2.1),some (.f,.int a.2.2),rfl⟩
  obtain ⟨_,k,n,hk,hn,e,Ku⟩:=b.tr j a hj
  have ht:N.take (j + 1 + 1)=N.take (j + 1)++[(a.2.2,n.2++[a.2.1])]:=by rw [List.take_add_one,Ku];rfl
  have ndt:((N.take (j + 1)).map (·.1)).Nodup:=by rw [List.map_take];exact F.nd.take
  have Oz:(N.take (j + 1))[k]?=some n:=by rw [List.getElem?_take_of_lt (by lia)];exact hn
  have hg:=qF (N.take (j + 1)) k n ndt Oz
  have Lm:a.2.2∉(N.take (j + 1)).map (·.1):=by
   have Qm:((N.take (j + 1 + 1)).map (·.1)).Nodup:=by rw [List.map_take];exact F.nd.take
   rw [ht,List.map_append,List.nodup_append] at Qm
   intro hm
   exact Qm.2.2 _ hm a.2.2 (by simp) rfl
  have hp:=Aq (N.take (j + 1)) (a.2.2,n.2++[a.2.1]) Lm
  have hw:=F.wl n (List.mem_of_getElem? hn)
  have ha:=EI n.2 a.2.1 (by lia)
  have hd:Jc (.dct false ((N.take (j + 1)).map fun n=>D.int n.1) ((N.take (j + 1)).map rW)) (.int a.1)=.ok (.f,.tup (n.2.map D.str)):=by
   unfold Jc
   dsimp only
   rw [if_pos (show fC false (.int a.1)=true from rfl),e,hg]
   rfl
  have hz:(decide (((N.take (j + 1)).map fun n=>D.int n.1).length < sizeLine))=true:=decide_eq_true (gL (by rw [a8,List.length_take];lia))
  unfold rW at hp
  dsimp only at hp
  have ew:(fun n:Nd=>D.tup (n.2.map D.str))=rW:=rfl
  rw [ew] at hp
  rw [ht]
  unfold gX
  simp only [pv,seval,op,hd,ha,hz,Bool.and_self,hp]) _ ⟨none,none,none,rfl⟩
 rw [show N.take (T.length + 1)=N by rw [<-hlen];exact List.take_length] at ef
 have h0:N.take (0 + 1)=[(0,[])]:=by rw [List.take_add_one,F.z];rfl
 rw [h0] at ef
 rw [au (env':=_) (by
  unfold lM
  unfold eCh at ef ⊢
  simp only [pv,seval,op,et,j3]
  exact ef)]
 clear ef
 unfold kg
 have JS:=qE nZ aZ (by lia)
 have hc:b5 (ax 0) cN (aD Jc (ao 1) (ao 0)) ((List.range (bu aZ).toNat).map fun (k:Nat)=>D.int (k:Int)) [none,some (.f,.dct false (N.map fun n=>D.int n.1) (N.map rW))]=.ok ((List.range (bu aZ).toNat).map fun (s:Nat)=>.tup ((bF N (s:Int)).map D.str)):=by
  refine aV (r:=fun s:Nat=>D.tup ((bF N (s:Int)).map D.str)) (fun env=>∃ t1,env=[t1,some (.f,.dct false (N.map fun n=>D.int n.1) (N.map rW))]) (List.range (bu aZ).toNat) ?_ _ ⟨_,rfl⟩
  rintro s M6 env ⟨t1,rfl⟩
  rw [List.mem_range] at M6
  obtain ⟨n,hn,en⟩:=i5 (all N F (s:Int) (by lia) (by lia))
  obtain ⟨k,hk⟩:=List.mem_iff_getElem?.mp hn
  have hd:Jc (.dct false (N.map fun n=>D.int n.1) (N.map rW)) (.int (s:Int))=.ok (.f,.tup ((bF N (s:Int)).map D.str)):=by
   unfold Jc
   dsimp only
   rw [if_pos (show fC false (.int (s:Int))=true from rfl),<-en,qF N k n F.nd hk,om F.nd hn]
   rfl
  refine ⟨[some (.f,.int (s:Int)),some (.f,.dct false (N.map fun n=>D.int n.1) (N.map rW))],rfl,?_⟩
  simp only [pv,seval,op,hd]
  exact ⟨_,_,rfl,_,rfl⟩
 have hf:flatDs ((List.range (bu aZ).toNat).map fun (s:Nat)=>D.tup ((bF N (s:Int)).map D.str))=true:=by
  rw [bH,List.all_map,List.all_eq_true]
  intro s _
  show dk (.tup _)=true
  rw [cK,PV.flat_strs]
 unfold eCh at JS
 simp only [pv,seval,op,JS]
 rw [if_pos (by lia)]
 simp only [pv,seval,op,hc]
 rw [if_pos (aN (by rw [a8,List.length_range];lia)),hf]
 simp only [pv,seval,op]
noncomputable def ak (a:FK):List Key:=[.inl a.1,.inr (S a.2.1),.inl a.2.2]
noncomputable def eD (a b:FK):Bool:=fJ (ak a) (ak b)
theorem S_inj {a b:List Nat} (h:S a=S b):a=b:=by
 have:=congrArg (fun s:Str=>s.cps.toList) h
 simpa only [fe] using this
theorem Em (a:FK):kT (ak a)=eA a:=by
 unfold kT ak eA
 simp only [eE,List.map_nil,kD,fe]
theorem vQ {α β:Type} (f:α->β) (lt:β->β->Bool) (x:α):∀ l:List α,ins lt (f x) (l.map f)=(ins (fun a b=>lt (f a) (f b)) x l).map f
 | []=>rfl
 | y :: ys=>by
  rw [eE,ins,ins]
  cases lt (f y) (f x) with
  | true=>rw [if_pos rfl,if_pos rfl,vQ f lt x ys,eE]
  | false=>rw [if_neg Bool.false_ne_true,if_neg Bool.false_ne_true,eE,eE]
theorem pU {α β:Type} (f:α->β) (lt:β->β->Bool):∀ l:List α,cb lt (l.map f)=(cb (fun a b=>lt (f a) (f b)) l).map f
 | []=>rfl
 | x :: l=>by
  show ins lt (f x) (cb lt (l.map f))=_
  rw [pU f lt l,vQ]
  rfl
theorem vR (as:List FK):as.map eA=(as.map ak).map kT:=by
 rw [List.map_map]
 exact List.map_congr_left fun a _=>(Em a).symm
theorem CQ (a b:FK):eqD (eA a) (eA b)=decide (a=b):=by
 obtain ⟨x,y,z⟩:=a
 obtain ⟨x',y',z'⟩:=b
 unfold eA
 simp only [eqD,jP]
 rw [Bool.eq_iff_iff]
 simp
theorem ig:∀ (l:List Int) (b:Int),b<=l.foldl max b/\(∀ x∈l,x<=l.foldl max b)/\(l.foldl max b=b\/l.foldl max b∈l)
 | [],b=>⟨Int.le_refl _,fun _ h=>(nomatch h),.inl rfl⟩
 | a :: l,b=>by
  obtain ⟨h1,h2,h3⟩:=ig l (max b a)
  rw [List.foldl_cons]
  refine ⟨by lia,fun x hx=>?_,?_⟩
  ·rcases List.mem_cons.mp hx with rfl | hx
   ·lia
   ·exact h2 x hx
  ·rcases h3 with h3 | h3
   ·rw [h3]
    by_cases h:b<=a
    ·exact .inr (by rw [Int.max_eq_right h];exact List.mem_cons_self)
    ·exact .inl (Int.max_eq_left (by lia))
   ·exact .inr (List.mem_cons_of_mem _ h3)
theorem iE {ns:List Int} {x:Int} (h:x∈ns):x<=cU ns:=(ig ns _).2.1 x h
theorem iF {ns:List Int} (h:ns≠[]):cU ns∈ns:=by
 cases ns with
 | nil=>exact absurd rfl h
 | cons a l=>
  rcases (ig (a :: l) a).2.2 with e | e
  ·show List.foldl max a (a :: l)∈a :: l
   rw [e]
   exact List.mem_cons_self
  ·exact e
theorem As {ns:List Int} {d x:Int} (h:x∈ns):x<=NX.maxD ns d:=by
 unfold NX.maxD
 rw [if_neg (List.ne_nil_of_mem h)]
 exact iE h
theorem vS (ns:List Int) (d:Int):(ns=[]/\NX.maxD ns d=d)\/NX.maxD ns d∈ns:=by
 unfold NX.maxD
 by_cases h:ns=[]
 ·exact .inl ⟨h,if_pos h⟩
 ·rw [if_neg h]
  exact .inr (iF h)
theorem l7 (a:FK):a.1<=l6 a/\a.2.2<=l6 a/\(l6 a=a.1\/l6 a=a.2.2):=by
 unfold l6
 split
 ·exact ⟨by lia,by lia,.inr rfl⟩
 ·exact ⟨by lia,by lia,.inl rfl⟩
theorem vT {aZ:List FK} {a:FK} (h:a∈aZ):a.1 < bu aZ/\a.2.2 < bu aZ:=by
 have h1:=As (d:=0) (List.mem_map.mpr ⟨a,h,rfl⟩:l6 a∈aZ.map l6)
 obtain ⟨h2,h3,_⟩:=l7 a
 unfold bu
 lia
theorem tF {aZ:List FK} (h:∀ a∈aZ,0<=a.1/\0<=a.2.2):1<=bu aZ:=by
 unfold bu
 rcases vS (aZ.map l6) 0 with ⟨_,e⟩ | e
 ·lia
 ·obtain ⟨a,ha,e2⟩:=i5 e
  have:=h a ha
  obtain ⟨h1,h2,_⟩:=l7 a
  lia
theorem pV {α:Type} (lt:α->α->Bool) {l:List α} {a:α}:a∈cb lt l<->a∈l:=(eV lt l).mem_iff
theorem Found.zero {aZ:List FK} {N:List Nd} (F:Found aZ N):(0:Int)∈N.map (·.1):=List.mem_map.mpr ⟨(0,[]),List.mem_of_getElem? F.z,rfl⟩
structure Ch (nZ:LNN) (aZ:List FK):Prop where
 al:aZ.length<=60
 bd:∀ a∈aZ,(0<=a.1/\a.1 < 12)/\0<=a.2.2/\a.2.2 < 12
 nm:∀ a∈aZ,a.2.1∈nZ
 st:1<=bu aZ/\bu aZ<=12
 all:∀ N,Found aZ N->∀ s:Int,0<=s->s < bu aZ->s∈N.map (·.1)
structure Ra (nZ:LNN) (as:List FK) (many:Nat):Prop where
 mm:1<=many/\many<=12
 len:as.length<=60
 bd:∀ a∈as,(0<=a.1/\a.1 < (many:Int))/\0<=a.2.2/\a.2.2 < (many:Int)
 nm:∀ a∈as,a.2.1∈nZ
 rc:∀ j:Nat,1<=j->j < many->∃ a∈as,a.2.2=(j:Int)/\∃ b:Nat,b < j/\a.1=(b:Int)
theorem pW {aZ:List FK} {many:Nat} (hm:1<=many) (h:∀ a∈aZ,(0<=a.1/\a.1 < (many:Int))/\0<=a.2.2/\a.2.2 < (many:Int)):1<=bu aZ/\bu aZ<=(many:Int):=by
 refine ⟨tF fun a ha=>?_,?_⟩
 ·have:=h a ha
  lia
 ·unfold bu
  rcases vS (aZ.map l6) 0 with ⟨_,e⟩ | e
  ·lia
  ·obtain ⟨a,ha,e2⟩:=i5 e
   have:=h a ha
   obtain ⟨h1,h2,h3⟩:=l7 a
   lia
theorem Ra.sort {nZ:LNN} {as:List FK} {many:Nat} (r:Ra nZ as many):Ra nZ (cb eD as) many:=by
 have mem:∀ {a:FK},a∈cb eD as<->a∈as:=pV eD
 refine ⟨r.mm,by rw [ic];exact r.len,fun a ha=>r.bd a (mem.mp ha),fun a ha=>r.nm a (mem.mp ha),fun j h1 h2=>?_⟩
 obtain ⟨a,ha,q⟩:=r.rc j h1 h2
 exact ⟨a,mem.mpr ha,q⟩
theorem Ra.ch {nZ:LNN} {as:List FK} {many:Nat} (r:Ra nZ as many):Ch nZ as:=by
 have hm:=r.mm
 have JS:=pW hm.1 r.bd
 refine ⟨r.len,fun a ha=>?_,r.nm,by lia,fun N F s h0 h1=>?_⟩
 ·have:=r.bd a ha
  lia
 ·have key:∀ j:Nat,j < many->(j:Int)∈N.map (·.1):=by
   intro j
   induction j using Nat.strongRecOn with
   | _ j ih=>
    intro hj
    cases j with
    | zero=>exact F.zero
    | succ j=>
     obtain ⟨a,ha,e1,b,Pu,e2⟩:=r.rc (j + 1) (by lia) hj
     obtain ⟨n,hn,en⟩:=i5 (ih b Pu (by lia))
     obtain ⟨m,hm,em,_⟩:=F.clo n hn a ha (by rw [e2,en])
     exact List.mem_map.mpr ⟨m,hm,by rw [em,e1]⟩
  obtain ⟨k,rfl⟩:=Int.eq_ofNat_of_zero_le h0
  exact key k (by lia)
theorem qG (as:List FK) (h:as.length < 64):fP [.lst (as.map eA)]=.ok (.l .f,.lst ((cb eD as).map eA)):=by
 have key:ly (as.map eA)=some ((cb eD as).map eA):=by
  cases as with
  | nil=>rfl
  | cons a as=>
   have e1:j7 ((a :: as).map eA)=some ((a :: as).map ak):=by rw [vR,jQ]
   have e2:sameKinds (ak a) (as.map ak)=true:=by
    unfold sameKinds
    rw [List.all_map,Bool.and_eq_true,List.all_eq_true]
    exact ⟨rfl,fun b _=>rfl⟩
   unfold ly
   rw [e1,eE,eE]
   dsimp only [eA,c8,fZ]
   rw [if_pos e2,<-eE,pU ak fJ,vR]
   rfl
 unfold fP
 dsimp only
 rw [if_pos (by rw [a8];exact h),key]
noncomputable def cell (ns:List Int) (k:Nat):Int:=ns.getD k 0
theorem kr (ns:List Int) (k:Nat):aG [.lst (ns.map D.int),.int (k:Int)]=.ok (.f,.int (cell ns k)):=by
 unfold aG iJ cell
 rw [bh (h:=by rfl)]
 simp only [pv,seval,op,a8]
 by_cases h:k < ns.length
 ·have h1:(k:Int) < (ns.length:Int):=by lia
  simp only [h1,decide_true,pv,seval,ib h]
 ·have h1:¬ (k:Int) < (ns.length:Int):=by lia
  simp only [h1,decide_false,pv,seval,fO,List.getD_eq_getElem?_getD,List.getElem?_eq_none (Nat.le_of_not_lt h),Option.getD_none]
theorem AY (x y:Int) (h:cI x=true):zQ (.int x) (.int y)=.ok (.f,.int (x * y)):=by rw [vG,h,Bool.true_or,if_pos rfl]
theorem Dp (x y:Int) (h:cI y=true):zQ (.int x) (.int y)=.ok (.f,.int (x * y)):=by rw [vG,h,Bool.or_true,if_pos rfl]
theorem oq (x:Int) (h:0<=x) (h2:x<=4294967296):cI x=true:=by
 unfold cI
 rw [decide_eq_true_eq]
 lia
noncomputable def vU (c k:Int):Int:=((((c % 2147483647 + 48271 * (k + 1)) * (c % 2147483647 + 48271 * (k + 1)) + 69621 * k) % 2147483647) * (((c % 2147483647 + 48271 * (k + 1)) * (c % 2147483647 + 48271 * (k + 1)) + 69621 * k) % 2147483647) + 16807 * k + 1) % 2147483647
theorem l8 (c k:Int) (hk:0<=k) (Oz:k<=1000):aY [.int c,.int k]=.ok (.f,.int (vU c k)):=by
 have b1:=eU c 2147483647 (by decide)
 have b2:=eU ((c % 2147483647 + 48271 * (k + 1)) * (c % 2147483647 + 48271 * (k + 1)) + 69621 * k) 2147483647 (by decide)
 unfold aY kj vU
 rw [bh (h:=by rfl)]
 rw [au (env':=[some (.f,.int c),some (.f,.int k),some (.f,.int (c % 2147483647 + 48271 * (k + 1)))]) (by simp only [pv,seval,op,iC _ 2147483647 (by decide),AY 48271 (k + 1) (by decide)])]
 have hs:cI (c % 2147483647 + 48271 * (k + 1))=true:=oq _ (by lia) (by lia)
 generalize c % 2147483647 + 48271 * (k + 1)=x at *
 rw [au (env':=[some (.f,.int c),some (.f,.int k),some (.f,.int ((x * x + 69621 * k) % 2147483647))]) (by simp only [pv,seval,op,iC _ 2147483647 (by decide),AY x x hs,AY 69621 k (by decide)])]
 generalize (x * x + 69621 * k) % 2147483647=y at *
 have hs:cI y=true:=oq _ (by lia) (by lia)
 simp only [pv,seval,op,iC _ 2147483647 (by decide),AY y y hs,AY 16807 k (by decide)]
theorem rX:∀ l:List Nat,joinL [] (l.map fun c=>[c])=l
 | []=>rfl
 | [c]=>rfl
 | c :: d :: l=>by
  have ih:=rX (d :: l)
  show [c]++[]++joinL [] ((d :: l).map fun c=>[c])=_
  rw [ih]
  rfl
theorem vV:∀ l:List Nat,((l.map fun c=>[c]).map List.length).sum=l.length
 | []=>rfl
 | c :: l=>by
  rw [eE,eE,List.sum_cons,vV l]
  show 1 + l.length=l.length + 1
  lia
theorem Au (l:List Nat) (h:l.length<=1000):vq [] [.lst ((l.map fun c=>[c]).map D.str)]=.ok (.f,.str l):=by
 unfold vq
 dsimp only
 rw [eZ]
 dsimp only
 rw [if_pos (by rw [vV,List.length_nil,Nat.mul_zero];lia),rX]
theorem rY (a:List Nat) (l:LNN):Kj (.str a) (.lst (l.map D.str))=.ok (.f,.bl (decide (a∈l))):=by
 unfold Kj
 dsimp only
 rw [tu,xr,plainD]
 all_goals simp
noncomputable def Km (base:List Int) (wd sp:Nat) (tk:Bool) (k:Nat):List Int:=if tk then base.take (k + 1) else (base.take wd).set sp ((base.getD sp 0 + (k:Int)) % 26)
noncomputable def Iw (base:List Int) (wd sp:Nat) (tk:Bool) (k:Nat):List Nat:=(Km base wd sp tk k).map fun j=>97 + j.toNat
theorem Av (l:List Int) (hb:∀ j∈l,0<=j/\j < 26):b5 (ax 0) cN (aD FW (ao 1) (ao 0)) (l.map D.int) [none,some (.f,.str Iv)]=.ok (((l.map fun j=>97 + j.toNat).map fun c=>[c]).map D.str):=by
 rw [aV (r:=fun j:Int=>D.str [97 + j.toNat]) (fun env=>∃ t,env=[t,some (.f,.str Iv)]) l ?_ _ ⟨none,rfl⟩]
 ·rw [List.map_map,List.map_map]
  rfl
 ·rintro j hj env ⟨t,rfl⟩
  obtain ⟨h0,h1⟩:=hb j hj
  refine ⟨[some (.f,.int j),some (.f,.str Iv)],rfl,.f,[some (.f,.int j),some (.f,.str Iv)],?_,_,rfl⟩
  simp only [pv,seval,op,CO j h0 h1]
theorem En (base:List Int) (hb:∀ j∈base,0<=j/\j < 26) (wd sp:Nat) (tk:Bool) (k:Nat):∀ j∈Km base wd sp tk k,0<=j/\j < 26:=by
 intro j hj
 unfold Km at hj
 split at hj
 ·exact hb j (List.mem_of_mem_take hj)
 ·rcases List.mem_or_eq_of_mem_set hj with h | h
  ·exact hb j (List.mem_of_mem_take h)
  ·rw [h]
   exact eU _ _ (by decide)
theorem vW (base:List Int) (hl:base.length=8) (wd sp:Nat) (tk:Bool) (k:Nat):(Km base wd sp tk k).length<=8:=by
 unfold Km
 split
 ·rw [List.length_take];lia
 ·rw [List.length_set,List.length_take];lia
theorem CS (GA:Int) (base:List Int) (hl:base.length=8) (hb:∀ j∈base,0<=j/\j < 26) (wd sp:Nat) (hw:wd<=8) (hs:sp < wd) (tk:Bool) (Ng:(GA / 64 % 4 == 1)=tk) (l:LNN) (hll:l.length<=10) (k:Nat) (t7:Option R) :
  ∃ u7,dF [some (.f,.int GA),some (.f,.str Iv),some (.l .f,.lst (base.map D.int)),some (.f,.int (wd:Int)),some (.f,.int (sp:Int)),some (.l .f,.lst (l.map D.str)),some (.f,.int (k:Int)),t7]=.ok (.nx [some (.f,.int GA),some (.f,.str Iv),some (.l .f,.lst (base.map D.int)),some (.f,.int (wd:Int)),some (.f,.int (sp:Int)),some (.l .f,.lst ((l++[Iw base wd sp tk k]).map D.str)),some (.f,.int (k:Int)),u7]):=by
 have MU:jg (base.map D.int) none (some (wd:Int))=(base.take wd).map D.int:=by rw [oj,List.map_take]
 have Jk:Gy ((base.take wd).map D.int) (sp:Int)=some (.int (base.getD sp 0)):=by
  rw [ib (by rw [List.length_take];lia)]
  congr 2
  rw [List.getD_eq_getElem?_getD,List.getD_eq_getElem?_getD,List.getElem?_take_of_lt hs]
 have Hl:ixN (base.take wd).length (sp:Int)=some sp:=vM _ _ (by rw [List.length_take];lia)
 have hnl:=vW base hl wd sp tk k
 have LS:=Av (Km base wd sp tk k) (En base hb wd sp tk k)
 have hj:=Au (Iw base wd sp tk k) (by unfold Iw;rw [a8];lia)
 have hz:(l.map D.str).length < sizeLine:=gL (by rw [a8];lia)
 have Qn:(((Iw base wd sp tk k).map fun c=>[c]).map D.str).length<=sizeLine:=aN (by unfold Iw;rw [a8,a8,a8];lia)
 have Iy:=PV.flat_strs ((Iw base wd sp tk k).map fun c=>[c])
 have LS:b5 (ax 0) cN (aD FW (ao 1) (ao 0)) ((Km base wd sp tk k).map D.int) [none,some (.f,.str Iv)]=.ok (((Iw base wd sp tk k).map fun c=>[c]).map D.str):=LS
 unfold dF
 rw [au (env':=[some (.f,.int GA),some (.f,.str Iv),some (.l .f,.lst (base.map D.int)),some (.f,.int (wd:Int)),some (.f,.int (sp:Int)),some (.l .f,.lst (l.map D.str)),some (.f,.int (k:Int)),some (.l .f,.lst ((base.take wd).map D.int))]) (by simp only [pv,seval,op,MU])]
 rw [au (env':=[some (.f,.int GA),some (.f,.str Iv),some (.l .f,.lst (base.map D.int)),some (.f,.int (wd:Int)),some (.f,.int (sp:Int)),some (.l .f,.lst (l.map D.str)),some (.f,.int (k:Int)),some (.l .f,.lst (((base.take wd).set sp ((base.getD sp 0 + (k:Int)) % 26)).map D.int))]) (by
  rw [List.map_set]
  simp only [pv,seval,op,Jk,iC _ 26 (by decide),a8,Hl])]
 rw [au (env':=[some (.f,.int GA),some (.f,.str Iv),some (.l .f,.lst (base.map D.int)),some (.f,.int (wd:Int)),some (.f,.int (sp:Int)),some (.l .f,.lst (l.map D.str)),some (.f,.int (k:Int)),some (.l .f,.lst ((Km base wd sp tk k).map D.int))]) (by
  unfold Km
  cases tk with
  | true=>
   have KS:jg (base.map D.int) none (some ((k:Int) + 1))=(base.take (k + 1)).map D.int:=by rw [show (k:Int) + 1=((k + 1:Nat):Int) by lia,oj,List.map_take]
   simp only [pv,seval,op,fK _ 64 (by decide) (by decide),iC _ 4 (by decide),Ng,KS]
  | false=>simp only [pv,seval,op,fK _ 64 (by decide) (by decide),iC _ 4 (by decide),Ng,fO])]
 refine ⟨some (.l .f,.lst ((Km base wd sp tk k).map D.int)),?_⟩
 generalize Km base wd sp tk k=W at *
 generalize Iw base wd sp tk k=V at *
 rw [List.map_append,eE,List.map_nil]
 generalize (aD FW (ao 1) (ao 0))=GG at LS ⊢
 simp only [pv,seval,op,LS,Qn,Iy,hj,hz]
theorem Aw (base:List Int) (hl:base.length=8) (hb:∀ j∈base,0<=j/\j < 26) (wd sp:Nat) (hw:wd<=8) (hs:sp < wd) (tk:Bool) (k k':Nat) (hk:k<=5) (hk':k'<=5) (e:Iw base wd sp tk k=Iw base wd sp tk k'):k=k':=by
 unfold Iw Km at e
 cases tk with
 | true=>
  have:=congrArg List.length e
  simp only [if_true,a8,List.length_take] at this
  lia
 | false=>
  have e2:=congrArg (fun l=>l[sp]?) e
  have Gn:sp < (base.take wd).length:=by rw [List.length_take];lia
  simp only [fO,if_false,List.getElem?_map,List.getElem?_set_self Gn,Option.map_some,Option.some.injEq] at e2
  have b1:=eU (base.getD sp 0 + (k:Int)) 26 (by decide)
  have b2:=eU (base.getD sp 0 + (k':Int)) 26 (by decide)
  generalize base.getD sp 0=z at *
  lia
theorem Ax (GA:Int):∃ l:LNN,l.length=5/\l.Nodup/\l.Pairwise (fun a b=>JV b a=false)/\dv [.int GA]=.ok (.l .f,.lst (l.map D.str)):=by
 unfold dv kl
 rw [bh (h:=by rfl)]
 rw [au (env':=[some (.f,.int GA),some (.f,.str Iv),none,none,none,none,none,none]) (by simp only [pv,seval,op];rfl)]
 have hc:b5 (ax 0) cN (aD fT (aq (cH aY (ag (ao 1) (ag (ao 0) aA)))) (aq (aJ (.int 26)))) ((List.range 8).map fun (k:Nat)=>D.int (k:Int)) [none,some (.f,.int GA)]=.ok (((List.range 8).map fun (k:Nat)=>vU GA (k:Int) % 26).map D.int):=by
  rw [aV (r:=fun k:Nat=>D.int (vU GA (k:Int) % 26)) (fun env=>∃ t,env=[t,some (.f,.int GA)]) (List.range 8) ?_ _ ⟨none,rfl⟩]
  ·rw [List.map_map]
   rfl
  ·rintro k hk env ⟨t,rfl⟩
   have hk:=List.mem_range.mp hk
   refine ⟨[some (.f,.int (k:Int)),some (.f,.int GA)],rfl,.f,[some (.f,.int (k:Int)),some (.f,.int GA)],?_,_,rfl⟩
   simp only [pv,seval,op,l8 GA (k:Int) (by lia) (by lia),iC _ 26 (by decide)]
 have Nh:((List.range 8).map fun (k:Nat)=>vU GA (k:Int) % 26).length=8:=rfl
 have Kt:∀ j∈((List.range 8).map fun (k:Nat)=>vU GA (k:Int) % 26),0<=j/\j < 26:=by
  intro j hj
  obtain ⟨k,_,rfl⟩:=i5 hj
  exact eU _ _ (by decide)
 generalize ((List.range 8).map fun (k:Nat)=>vU GA (k:Int) % 26)=base at hc Nh Kt
 have hlen:(base.map D.int).length<=sizeLine:=aN (by rw [a8];lia)
 have hff:=FD base
 rw [au (env':=[some (.f,.int GA),some (.f,.str Iv),some (.l .f,.lst (base.map D.int)),none,none,none,none,none]) (by
  generalize (aD fT (aq (cH aY (ag (ao 1) (ag (ao 0) aA)))) (aq (aJ (.int 26))))=GG at hc ⊢
  simp only [pv,seval,op]
  rw [if_pos (by decide)]
  simp only [pv,seval,op,show (8:Int).toNat=8 from rfl,hc,hlen,hff])]
 have m8:=eU GA 8 (by decide)
 obtain ⟨wd,ew⟩:=Int.eq_ofNat_of_zero_le (show 0<=1 + GA % 8 by lia)
 have msp:=eU (GA / 8) (wd:Int) (by lia)
 obtain ⟨sp,es⟩:=Int.eq_ofNat_of_zero_le msp.1
 rw [au (env':=[some (.f,.int GA),some (.f,.str Iv),some (.l .f,.lst (base.map D.int)),some (.f,.int (wd:Int)),none,none,none,none]) (by simp only [pv,seval,op,iC _ 8 (by decide),ew])]
 rw [au (env':=[some (.f,.int GA),some (.f,.str Iv),some (.l .f,.lst (base.map D.int)),some (.f,.int (wd:Int)),some (.f,.int (sp:Int)),none,none,none]) (by simp only [pv,seval,op,fK _ 8 (by decide) (by decide),iC _ (wd:Int) (by lia),es])]
 rw [au (env':=[some (.f,.int GA),some (.f,.str Iv),some (.l .f,.lst (base.map D.int)),some (.f,.int (wd:Int)),some (.f,.int (sp:Int)),some (.l .f,.lst []),none,none]) (by simp only [pv,seval,op])]
 obtain ⟨tk,Ng⟩:∃ tk,(GA / 64 % 4 == 1)=tk:=⟨_,rfl⟩
 obtain ⟨env',ef,t6,t7,rfl⟩:=jZ (a:=ax 6) (g:=dF) (e:=fun k=>D.int (k:Int)) 5 (fun i env=>∃ (t6 t7:Option R),env=[some (.f,.int GA),some (.f,.str Iv),some (.l .f,.lst (base.map D.int)),some (.f,.int (wd:Int)),some (.f,.int (sp:Int)),some (.l .f,.lst (((List.range i).map (Iw base wd sp tk)).map D.str)),t6,t7]) (by
  rintro k env hk ⟨t6,t7,rfl⟩
  obtain ⟨u7,e⟩:=CS GA base Nh Kt wd sp (by lia) (by lia) tk Ng ((List.range k).map (Iw base wd sp tk)) (by rw [a8,List.length_range];lia) k t7
  rw [show ((List.range k).map (Iw base wd sp tk))++[Iw base wd sp tk k]=(List.range (k + 1)).map (Iw base wd sp tk) by rw [List.range_succ,List.map_append];rfl] at e
  exact ⟨_,rfl,_,e,_,_,rfl⟩) _ ⟨none,none,rfl⟩
 rw [List.range_zero,List.map_nil,List.map_nil] at ef
 rw [au (env':=_) (by
  unfold iK
  simp only [pv,seval,op]
  rw [if_pos (by decide)]
  simp only [pv,seval,op,show (5:Int).toNat=5 from rfl]
  exact ef)]
 unfold gZ
 have KU:((List.range 5).map (Iw base wd sp tk)).length=5:=by rw [a8,List.length_range]
 have Mu:((List.range 5).map (Iw base wd sp tk)).Nodup:=ie _ 5 fun i j hi hj e=>Aw base Nh Kt wd sp (by lia) (by lia) tk i j (by lia) (by lia) e
 have Qo:∀ n∈((List.range 5).map (Iw base wd sp tk)),n.length<=8:=by
  intro n hn
  obtain ⟨k,_,rfl⟩:=i5 hn
  unfold Iw
  rw [a8]
  exact vW base Nh wd sp tk k
 generalize ((List.range 5).map (Iw base wd sp tk))=l at KU Mu Qo
 by_cases hm:[109,111,118,101,115]∈l
 ·have Hf:b5 (ax 0) cN (aD cV (aq (aJ (.str [115]))) (ao 0)) (l.map D.str) [none]=.ok ((l.map fun n=>115 :: n).map D.str):=by
   rw [aV (r:=fun n:List Nat=>D.str (115 :: n)) (fun env=>∃ t,env=[t]) l ?_ _ ⟨none,rfl⟩]
   ·rw [List.map_map]
    rfl
   ·rintro n hn env ⟨t,rfl⟩
    have:=Qo n hn
    refine ⟨[some (.f,.str n)],rfl,.f,[some (.f,.str n)],?_,_,rfl⟩
    simp only [pv,seval,op,Ft [115] n (by rw [List.length_singleton];lia)]
  have Pw:((l.map fun n=>115 :: n).map D.str).length<=sizeLine:=aN (by rw [a8,a8];lia)
  have hnd2:(l.map fun n=>115 :: n).Nodup:=by
   rw [List.nodup_iff_pairwise_ne,List.pairwise_map]
   exact (List.nodup_iff_pairwise_ne.mp Mu).imp fun {a b} h e=>h (List.cons.inj e).2
  have Iy:=PV.flat_strs (l.map fun n=>115 :: n)
  rw [au (env':=[some (.f,.int GA),some (.f,.str Iv),some (.l .f,.lst (base.map D.int)),some (.f,.int (wd:Int)),some (.f,.int (sp:Int)),some (.l .f,.lst ((l.map fun n=>115 :: n).map D.str)),t6,t7]) (by
   generalize (aD cV (aq (aJ (.str [115]))) (ao 0))=GG at Hf ⊢
   simp only [pv,seval,op,rY,hm,decide_true,Hf,Pw,Iy])]
  refine ⟨cb JV (l.map fun n=>115 :: n),by rw [ic,a8];exact KU,(eV JV _).nodup_iff.mpr hnd2,fL qj _,?_⟩
  simp only [pv,seval,op,vJ (l.map fun n=>115 :: n) (by rw [a8];lia)]
 ·rw [au (env':=[some (.f,.int GA),some (.f,.str Iv),some (.l .f,.lst (base.map D.int)),some (.f,.int (wd:Int)),some (.f,.int (sp:Int)),some (.l .f,.lst (l.map D.str)),t6,t7]) (by simp only [pv,seval,op,rY,hm,decide_false,fO])]
  refine ⟨cb JV l,by rw [ic];exact KU,(eV JV _).nodup_iff.mpr Mu,fL qj _,?_⟩
  simp only [pv,seval,op,vJ l (by lia)]
theorem CT (env:PV.Env) (fo:FO) (fp FR fq:FP):Ed fo fp FR fq env=Res.bnd (fo env) (f:=⟨fun p=>Res.bnd (fp p.2) (f:=⟨fun q=>Res.bnd (FR q.2) (f:=⟨fun t=>Res.bnd (fq t.2) (f:=⟨fun u=>Res.bnd (Hh u.2 p.1) (f:=⟨fun d=>Res.bnd (Cm d q.1 t.1 u.1) (f:=⟨fun r=>.ok (r,u.2)⟩)⟩)⟩)⟩)⟩)⟩):=id rfl
theorem Ay (env:PV.Env) (fa fb fc:FX):z6 fa fb fc env=Res.bnd (fa env) (f:=⟨fun p=>Res.bnd (fb p.2) (f:=⟨fun q=>Res.bnd (fc q.2) (f:=⟨fun t=>.ok ((.t [.f,q.1.1,t.1.1],.tup [p.1.2,q.1.2,t.1.2]),t.2)⟩)⟩)⟩):=id rfl
theorem xy {α β:Type} (f:α->β) (l:List α) (lo hi:Option Int) (c:Int):gU (l.map f) lo hi c=(gU l lo hi c).map f:=by
 unfold gU
 rw [a8,List.map_filterMap]
 congr 1
 funext i
 rw [List.getElem?_map]
theorem Eo (ds:List D) (lo hi:Option Int):Cm (.lst ds) lo hi (some 6)=.ok (.l .f,.lst (gU ds lo hi 6)):=id rfl
theorem CU (ns:List Int) (first k:Int) (hk:0<=k/\k<=1000):∃ v:Int,dY [.lst (ns.map D.int),.int first,.int k]=.ok (.f,.int v):=by
 unfold dY lP
 rw [bh (h:=by rfl)]
 rw [au (env':=[some (.f,.lst (ns.map D.int)),some (.f,.int first),some (.f,.int k),some (.f,.int (7 + k)),none]) (by simp only [pv,seval,op])]
 obtain ⟨env',ef,v,t4,rfl⟩:=for_list (a:=ax 4) (g:=fR) (e:=D.int) (gU ns (some (first + k)) (some (first + 84)) 6) (fun j env=>∃ (v:Int) (t4:Option R),env=[some (.f,.lst (ns.map D.int)),some (.f,.int first),some (.f,.int k),some (.f,.int v),t4]) (by
  rintro j c env hj ⟨v,t4,rfl⟩
  refine ⟨_,rfl,_,?_,vU (c + v) k,some (.f,.int c),rfl⟩
  unfold fR
  simp only [pv,seval,op,l8 (c + v) k hk.1 hk.2]) _ ⟨7 + k,none,rfl⟩
 rw [au (env':=_) (by
  unfold jv
  simp only [pv,seval,op,CT,Eo,xy]
  exact ef)]
 unfold iM
 exact ⟨v,by simp only [pv,seval,op]⟩
def Tk (l:List Int) (cnt:Nat):Prop:=l.length=cnt/\∀ x∈l,0<=x/\x<=10
theorem Tk.app {l:List Int} {cnt:Nat} (h:Tk l cnt) {x:Int} (hx:0<=x/\x<=10):Tk (l++[x]) (cnt + 1):=by
 refine ⟨by rw [i6,h.1];rfl,fun y hy=>?_⟩
 rcases kN hy with hy | hy
 ·exact h.2 y hy
 ·rw [kM hy]
  exact hx
theorem Az (number:Int) (cnt:Nat) (hc:cnt<=10):∃ (b:Int) (ts gs:List Int),(0<=b/\b<=10)/\Tk ts cnt/\Tk gs cnt/\dw [.int number,.int (cnt:Int)]=.ok (.t [.f,.l .f,.l .f],.tup [.int b,.lst (ts.map D.int),.lst (gs.map D.int)]):=by
 unfold dw km
 rw [bh (h:=by rfl)]
 rw [au (env':=[some (.f,.int number),some (.f,.int (cnt:Int)),some (.l .f,.lst []),none,none,none,none,none]) (by simp only [pv,seval,op])]
 rw [au (env':=[some (.f,.int number),some (.f,.int (cnt:Int)),some (.l .f,.lst []),some (.l .f,.lst []),none,none,none,none]) (by simp only [pv,seval,op])]
 obtain ⟨env',ef,ts,gs,t4,t5,t6,t7,h1,h2,rfl⟩:=jZ (a:=ax 4) (g:=fD) (e:=fun k=>D.int (k:Int)) cnt (fun i env=>∃ (ts gs:List Int) (t4 t5 t6 t7:Option R),Tk ts i/\Tk gs i/\env=[some (.f,.int number),some (.f,.int (cnt:Int)),some (.l .f,.lst (ts.map D.int)),some (.l .f,.lst (gs.map D.int)),t4,t5,t6,t7]) (by
  rintro j env hj ⟨ts,gs,t4,t5,t6,t7,h1,h2,rfl⟩
  have z1:(ts.map D.int).length < sizeLine:=gL (by rw [a8,h1.1];lia)
  have z2:(gs.map D.int).length < sizeLine:=gL (by rw [a8,h2.1];lia)
  have Kb:=l8 number (j:Int) (by lia) (by lia)
  generalize vU number (j:Int)=x at Kb
  have b1:=eU x 5 (by decide)
  have b2:=eU (x / 8) 4 (by decide)
  refine ⟨[some (.f,.int number),some (.f,.int (cnt:Int)),some (.l .f,.lst (ts.map D.int)),some (.l .f,.lst (gs.map D.int)),some (.f,.int (j:Int)),t5,t6,t7],rfl,_,?_,ts++[(if 0 < 0 - (x % 5 - 2) then 0 - (x % 5 - 2) else 0) + x / 8 % 4 / 3],gs++[(if 0 < x % 5 - 2 then x % 5 - 2 else 0) + x / 8 % 4 / 3],some (.f,.int (j:Int)),some (.f,.int x),some (.f,.int (x % 5 - 2)),some (.f,.int (x / 8 % 4 / 3)),h1.app ?_,h2.app ?_,rfl⟩
  ·unfold fD
   rw [au (env':=[some (.f,.int number),some (.f,.int (cnt:Int)),some (.l .f,.lst (ts.map D.int)),some (.l .f,.lst (gs.map D.int)),some (.f,.int (j:Int)),some (.f,.int x),t6,t7]) (by simp only [pv,seval,op,Kb])]
   rw [au (env':=[some (.f,.int number),some (.f,.int (cnt:Int)),some (.l .f,.lst (ts.map D.int)),some (.l .f,.lst (gs.map D.int)),some (.f,.int (j:Int)),some (.f,.int x),some (.f,.int (x % 5 - 2)),t7]) (by simp only [pv,seval,op,iC _ 5 (by decide)])]
   generalize x % 5 - 2=y
   rw [au (env':=[some (.f,.int number),some (.f,.int (cnt:Int)),some (.l .f,.lst (ts.map D.int)),some (.l .f,.lst (gs.map D.int)),some (.f,.int (j:Int)),some (.f,.int x),some (.f,.int y),some (.f,.int (x / 8 % 4 / 3))]) (by simp only [pv,seval,op,iC _ 4 (by decide),fK _ 8 (by decide) (by decide),fK _ 3 (by decide) (by decide)])]
   generalize x / 8 % 4 / 3=z
   rw [List.map_append,List.map_append,eE,eE,List.map_nil]
   rw [au (env':=[some (.f,.int number),some (.f,.int (cnt:Int)),some (.l .f,.lst (ts.map D.int++[.int ((if 0 < 0 - y then 0 - y else 0) + z)])),some (.l .f,.lst (gs.map D.int)),some (.f,.int (j:Int)),some (.f,.int x),some (.f,.int y),some (.f,.int z)]) (by simp only [pv,seval,op,z1])]
   simp only [pv,seval,op,z2]
  ·split <;> lia
  ·split <;> lia) _ ⟨[],[],none,none,none,none,⟨rfl,(fun _ h=>nomatch h)⟩,⟨rfl,(fun _ h=>nomatch h)⟩,rfl⟩
 rw [List.map_nil] at ef
 rw [au (env':=_) (by
  unfold iN
  simp only [pv,seval,op]
  rw [if_pos (by lia)]
  simp only [pv,seval,op,Int.toNat_natCast]
  exact ef)]
 unfold g6
 have b:=eU (number / 16) 4 (by decide)
 exact ⟨number / 16 % 4,ts,gs,by lia,h1,h2,by simp only [pv,seval,op,Ay,fK _ 16 (by decide) (by decide),iC _ 4 (by decide)]⟩
abbrev Pl:=Int×List Int×List Int
noncomputable def eP (p:Pl):D:=.tup [.int p.1,.tup (p.2.1.map D.int),.tup (p.2.2.map D.int)]
def Kc (p:Pl) (cnt:Nat):Prop:=p.2.1.length=cnt/\p.2.2.length=cnt
theorem CV (f:Int) (l:List Int) (h:∀ x∈l,0<=x/\x<=10):b5 (ax 0) cN (aD jR (ao 1) (ao 0)) (l.map D.int) [none,some (.f,.int f)]=.ok ((l.map fun x=>f * x).map D.int):=by
 rw [aV (r:=fun x:Int=>D.int (f * x)) (fun env=>∃ t,env=[t,some (.f,.int f)]) l ?_ _ ⟨none,rfl⟩]
 ·rw [List.map_map]
  rfl
 ·rintro x hx env ⟨t,rfl⟩
  have:=h x hx
  refine ⟨[some (.f,.int x),some (.f,.int f)],rfl,.f,[some (.f,.int x),some (.f,.int f)],?_,_,rfl⟩
  simp only [pv,seval,op,Dp f x (lZ x (by lia) (by lia))]
theorem rZ (b:Int) (hb:0<=b/\b<=10) (ts gs:List Int) (cnt:Nat) (hc:cnt<=10) (h1:Tk ts cnt) (h2:Tk gs cnt) (GA:Int):∃ p:Pl,Kc p cnt/\cA [.tup [.int b,.lst (ts.map D.int),.lst (gs.map D.int)],.int GA]=.ok (.f,eP p):=by
 have p50:yd (.int 10) (.int 50)=.ok (.f,.int (10 ^ 50)):=EH 50 (by decide)
 have m50:=eU GA (10 ^ 50) (by decide)
 unfold cA jw
 rw [bh (h:=by rfl)]
 rw [au (env':=[some (.f,.tup [.int b,.lst (ts.map D.int),.lst (gs.map D.int)]),some (.f,.int GA),some (.f,.int (1 + GA % 10 ^ 50)),none,none,none]) (by simp only [pv,↓reduceIte,Nat.reduceAdd,Nat.reduceLT,Nat.reduceLeDiff,Nat.reduceEqDiff,op,p50,iC _ (10 ^ 50) (by decide)])]
 have hf:0 < 1 + GA % 10 ^ 50:=by
  generalize GA % 10 ^ 50=q at m50
  lia
 generalize 1 + GA % 10 ^ 50=f at hf
 rw [au (env':=[some (.f,.tup [.int b,.lst (ts.map D.int),.lst (gs.map D.int)]),some (.f,.int GA),some (.f,.int f),some (.f,.int b),some (.f,.lst (ts.map D.int)),some (.f,.lst (gs.map D.int))]) (by simp only [pv,seval,op])]
 have c1:=CV f ts h1.2
 have c2:=CV f gs h2.2
 have l1:((ts.map fun x=>f * x).map D.int).length<=sizeLine:=aN (by rw [a8,a8,h1.1];lia)
 have l2:((gs.map fun x=>f * x).map D.int).length<=sizeLine:=aN (by rw [a8,a8,h2.1];lia)
 have f1:=FD (ts.map fun x=>f * x)
 have f2:=FD (gs.map fun x=>f * x)
 refine ⟨(f * b + GA / 7 % f,ts.map fun x=>f * x,gs.map fun x=>f * x),⟨by rw [a8];exact h1.1,by rw [a8];exact h2.1⟩,?_⟩
 unfold eP
 dsimp only
 generalize (ts.map fun x=>f * x).map D.int=T1 at *
 generalize (gs.map fun x=>f * x).map D.int=T2 at *
 have Qp:=Dp f b (lZ b (by lia) (by lia))
 have Oa:=iC (GA / 7) f hf
 have hdiv:=fK GA 7 (by decide) (by decide)
 generalize f * b=fb at Qp ⊢
 generalize (GA / 7) % f=cf at Oa ⊢
 rw [au (env':=[some (.f,.tup [.int b,.lst (ts.map D.int),.lst (gs.map D.int)]),some (.f,.int GA),some (.f,.int f),some (.f,.int b),some (.f,.tup T1),some (.f,.lst (gs.map D.int))]) (by
  generalize (aD jR (ao 1) (ao 0))=GG at c1 ⊢
  simp only [pv,seval,op,c1,l1,f1])]
 have Qq:∀ GG,GG=(aD jR (ao 1) (ao 0))->b5 (ax 0) cN GG (gs.map D.int) [none,some (.f,.int f)]=.ok T2:=fun GG h=>by rw [h];exact c2
 rw [show (dS (i8 (aI (aD cV (aq (aD jR (ao 2) (ao 3))) (aq (aD fT (aq (aD eB (ao 1) (aq (aJ (.int 7))))) (ao 2)))) (aI (aK 4) (aI (a9 cQ (ag (aq (b6 (Gm (fQ 5) (Gm (fu (aK 5)) (fw (aK 5)))) [none,some 2] (ax 0) cN (aD jR (ao 1) (ao 0)))) aA)) bJ)))))=(fun GG=>dS (i8 (aI (aD cV (aq (aD jR (ao 2) (ao 3))) (aq (aD fT (aq (aD eB (ao 1) (aq (aJ (.int 7))))) (ao 2)))) (aI (aK 4) (aI (a9 cQ (ag (aq (b6 (Gm (fQ 5) (Gm (fu (aK 5)) (fw (aK 5)))) [none,some 2] (ax 0) cN GG)) aA)) bJ))))) (aD jR (ao 1) (ao 0)) from rfl]
 generalize eGG:(aD jR (ao 1) (ao 0))=GG
 have c2:=Qq GG eGG.symm
 clear eGG Qq
 simp only [pv,seval,op,Qp,Oa,hdiv,c2,l2,f2]
theorem xA (ns:List Int) (first:Nat) (cnt:Nat) (hc:cnt<=10) (ps:List Pl) (Qr:∀ p∈ps,Kc p cnt) (hl:ps.length<=100) (k:Nat) (hk:k<=100) (t5 t6 t7:Option R) :
  ∃ (Ni:List Pl) (u5 u6 u7:Option R),(∀ p∈Ni,Kc p cnt)/\ps.length + 1<=Ni.length/\Ni.length<=ps.length + 2/\dg [some (.f,.lst (ns.map D.int)),some (.f,.int (first:Int)),some (.f,.int (cnt:Int)),some (.l .f,.lst (ps.map eP)),some (.f,.int (k:Int)),t5,t6,t7]=.ok (.nx [some (.f,.lst (ns.map D.int)),some (.f,.int (first:Int)),some (.f,.int (cnt:Int)),some (.l .f,.lst (Ni.map eP)),some (.f,.int (k:Int)),u5,u6,u7]):=by
 obtain ⟨v,ev⟩:=CU ns (first:Int) (k:Int) (by lia)
 obtain ⟨b,ts,gs,hb,h1,h2,ep⟩:=Az v cnt hc
 have c1:=kr ns (first + k)
 rw [show ((first + k:Nat):Int)=(first:Int) + (k:Int) by lia] at c1
 have c2:=kr ns (first + 6 + k)
 rw [show ((first + 6 + k:Nat):Int)=(first:Int) + 6 + (k:Int) by lia] at c2
 obtain ⟨p1,OG,e1⟩:=rZ b hb ts gs cnt hc h1 h2 (cell ns (first + k))
 have m4:=eU (v / 256) 4 (by decide)
 obtain ⟨p2,Ms,e2⟩:=rZ (v / 256 % 4) (by lia) gs ts cnt hc h2 h1 (cell ns (first + 6 + k))
 have Kh:cu (.t [.f,.l .f,.l .f]) (.tup [.int b,.lst (ts.map D.int),.lst (gs.map D.int)])=true:=by
  have f1:=FD ts
  have f2:=FD gs
  simp only [cu,pb,dk]
  rw [<-bH,<-bH,f1,f2]
  rfl
 have OH:∀ p:Pl,dk (eP p)=true:=fun p=>by
  unfold eP
  rw [cK]
  simp only [flatDs,cK,FD,jE]
  rfl
 have Px:(ps.map eP).length < sizeLine:=gL (by rw [a8];lia)
 have K5:(ps.map eP++[eP p1]).length < sizeLine:=gL (by rw [i6,a8,List.length_singleton];lia)
 unfold dg
 rw [au (env':=[some (.f,.lst (ns.map D.int)),some (.f,.int (first:Int)),some (.f,.int (cnt:Int)),some (.l .f,.lst (ps.map eP)),some (.f,.int (k:Int)),some (.f,.int v),t6,t7]) (by simp only [pv,seval,op,ev])]
 rw [au (env':=[some (.f,.lst (ns.map D.int)),some (.f,.int (first:Int)),some (.f,.int (cnt:Int)),some (.l .f,.lst (ps.map eP)),some (.f,.int (k:Int)),some (.f,.int v),some (.t [.f,.l .f,.l .f],.tup [.int b,.lst (ts.map D.int),.lst (gs.map D.int)]),t7]) (by simp only [pv,seval,op,ep,Kh])]
 rw [au (env':=[some (.f,.lst (ns.map D.int)),some (.f,.int (first:Int)),some (.f,.int (cnt:Int)),some (.l .f,.lst (ps.map eP++[eP p1])),some (.f,.int (k:Int)),some (.f,.int v),some (.t [.f,.l .f,.l .f],.tup [.int b,.lst (ts.map D.int),.lst (gs.map D.int)]),t7]) (by simp only [pv,seval,op,c1,e1,OH,Px])]
 by_cases h3:0 < v / 64 % 3
 ·refine ⟨ps++[p1,p2],some (.f,.int v),some (.f,.tup [.int b,.lst (ts.map D.int),.lst (gs.map D.int)]),some (.f,.tup [.int (v / 256 % 4),.lst (gs.map D.int),.lst (ts.map D.int)]),fun p hp=>?_,by rw [i6];simp,by rw [i6];simp,?_⟩
  ·rcases kN hp with hp | hp
   ·exact Qr p hp
   ·rcases List.mem_cons.mp hp with rfl | hp
    ·exact OG
    ·rw [kM hp]
     exact Ms
  ·rw [List.map_append,eE,eE,List.map_nil,show ps.map eP++[eP p1,eP p2]=(ps.map eP++[eP p1])++[eP p2] by rw [List.append_assoc];rfl]
   simp only [pv,seval,op,fK _ 64 (by decide) (by decide),fK _ 256 (by decide) (by decide),iC _ 3 (by decide),iC _ 4 (by decide),gt_iff_lt,h3,decide_true,at2,c2,e2,OH,K5]
 ·refine ⟨ps++[p1],some (.f,.int v),some (.t [.f,.l .f,.l .f],.tup [.int b,.lst (ts.map D.int),.lst (gs.map D.int)]),t7,fun p hp=>?_,by rw [i6];simp,by rw [i6];simp,?_⟩
  ·rcases kN hp with hp | hp
   ·exact Qr p hp
   ·rw [kM hp]
    exact OG
  ·rw [List.map_append,eE,List.map_nil]
   simp only [pv,seval,op,fK _ 64 (by decide) (by decide),iC _ 3 (by decide),gt_iff_lt,h3,decide_false,fO]
theorem xB (ns:List Int) (first:Nat) (cnt:Nat) (hc:cnt<=10):∃ ps:List Pl,(∀ p∈ps,Kc p cnt)/\ps≠[]/\ps.length<=8/\cW [.lst (ns.map D.int),.int (first:Int),.int (cnt:Int)]=.ok (.l .f,.lst (ps.map eP)):=by
 have c1:aG [.lst (ns.map D.int),.int 1]=.ok (.f,.int (cell ns 1)):=kr ns 1
 have m4:=eU (cell ns 1 / 4) 4 (by decide)
 unfold cW jx
 rw [bh (h:=by rfl)]
 rw [au (env':=[some (.f,.lst (ns.map D.int)),some (.f,.int (first:Int)),some (.f,.int (cnt:Int)),some (.l .f,.lst []),none,none,none,none]) (by simp only [pv,seval,op])]
 obtain ⟨env',ef,ps,t4,t5,t6,t7,h1,h2,h3,rfl⟩:=jZ (a:=ax 4) (g:=dg) (e:=fun k=>D.int (k:Int)) (1 + cell ns 1 / 4 % 4).toNat (fun i env=>∃ (ps:List Pl) (t4 t5 t6 t7:Option R),(∀ p∈ps,Kc p cnt)/\i<=ps.length/\ps.length<=2 * i/\env=[some (.f,.lst (ns.map D.int)),some (.f,.int (first:Int)),some (.f,.int (cnt:Int)),some (.l .f,.lst (ps.map eP)),t4,t5,t6,t7]) (by
  rintro k env hk ⟨ps,t4,t5,t6,t7,h1,h2,h3,rfl⟩
  obtain ⟨Ni,u5,u6,u7,h1',Pd,h3',e⟩:=xA ns first cnt hc ps h1 (by lia) k (by lia) t5 t6 t7
  exact ⟨_,rfl,_,e,Ni,_,_,_,_,h1',by lia,by lia,rfl⟩) _ ⟨[],none,none,none,none,(fun _ h=>nomatch h),Nat.le_refl _,Nat.le_refl _,rfl⟩
 rw [List.map_nil] at ef
 rw [au (env':=_) (by
  unfold g7
  simp only [pv,seval,op,c1,fK _ 4 (by decide) (by decide),iC _ 4 (by decide)]
  rw [if_pos (by lia)]
  simp only [pv,seval,op]
  exact ef)]
 unfold gF
 refine ⟨ps,h1,?_,by lia,by simp only [pv,seval,op]⟩
 intro h
 rw [h,List.length_nil] at h2
 lia
theorem CW {α:Type} {l:List α} (h:l.Nodup) (lo hi:Option Int):(jg l lo hi).Nodup:=by
 unfold jg
 exact (h.sublist (List.drop_sublist _ _)).sublist (List.take_sublist _ _)
theorem CY {α:Type} {l:List α} {r:α->α->Prop} (h:l.Pairwise r) (lo hi:Option Int):(jg l lo hi).Pairwise r:=by
 unfold jg
 exact (h.sublist (List.drop_sublist _ _)).sublist (List.take_sublist _ _)
theorem AA (ns:List Int):∃ nZ:LNN,nZ≠[]/\nZ.length<=3/\nZ.Nodup/\nZ.Pairwise (fun a b=>JV b a=false)/\dy [.lst (ns.map D.int)]=.ok (.f,.tup (nZ.map D.str)):=by
 have c0:aG [.lst (ns.map D.int),.int 0]=.ok (.f,.int (cell ns 0)):=kr ns 0
 have c1:aG [.lst (ns.map D.int),.int 1]=.ok (.f,.int (cell ns 1)):=kr ns 1
 obtain ⟨l,hl,Mu,hpw,en⟩:=Ax (cell ns 0)
 have m3:=eU (cell ns 1) 3 (by decide)
 unfold dy kn
 rw [bh (h:=by rfl)]
 rw [au (env':=[some (.f,.lst (ns.map D.int)),some (.l .f,.lst (l.map D.str)),none,none,none]) (by simp only [pv,seval,op,c0,en])]
 rw [au (env':=[some (.f,.lst (ns.map D.int)),some (.l .f,.lst (l.map D.str)),some (.f,.int (cell ns 1)),none,none]) (by simp only [pv,seval,op,c1])]
 rw [au (env':=[some (.f,.lst (ns.map D.int)),some (.l .f,.lst (l.map D.str)),some (.f,.int (cell ns 1)),some (.f,.int (1 + cell ns 1 % 3)),none]) (by simp only [pv,seval,op,iC _ 3 (by decide)])]
 obtain ⟨cnt,ec⟩:=Int.eq_ofNat_of_zero_le (show 0<=1 + cell ns 1 % 3 by lia)
 rw [ec]
 have ms:=eU (cell ns 1 / 32) (6 - (cnt:Int)) (by lia)
 obtain ⟨st,es⟩:=Int.eq_ofNat_of_zero_le ms.1
 rw [au (env':=[some (.f,.lst (ns.map D.int)),some (.l .f,.lst (l.map D.str)),some (.f,.int (cell ns 1)),some (.f,.int (cnt:Int)),some (.f,.int (st:Int))]) (by simp only [pv,seval,op,fK _ 32 (by decide) (by decide),iC _ (6 - (cnt:Int)) (by lia),es])]
 have MU:=An l st (st + cnt) (by lia) (by lia)
 have hlen:(jg l (some (st:Int)) (some ((st + cnt:Nat):Int))).length=cnt:=by
  rw [MU,List.length_take,List.length_drop]
  lia
 rw [show ((st + cnt:Nat):Int)=(st:Int) + (cnt:Int) by lia] at hlen
 refine ⟨jg l (some (st:Int)) (some ((st:Int) + (cnt:Int))),?_,by lia,CW Mu _ _,CY hpw _ _,?_⟩
 ·intro h
  rw [h,List.length_nil] at hlen
  lia
 ·simp only [pv,seval,op,Ao]
theorem CZ {α:Type} {a:FG} {g:FS} {e:α->D} {r:R} {Z:Prop} (l:List α) (P:Nat->PV.Env->Prop) (h:∀ k x env,l[k]?=some x->P k env->∃ FC,a (e x) env=.ok FC/\((∃ FL,g FC=.ok (.nx FL)/\P (k + 1) FL)\/(g FC=.ok (.rt r)/\Z))) :
  ∀ env,P 0 env->(∃ env',kB a g (l.map e) env=.ok (.nx env')/\P l.length env')\/(kB a g (l.map e) env=.ok (.rt r)/\Z):=by
 have key:∀ (l':List α) (k:Nat) (env:PV.Env),(∀ i x,l'[i]?=some x->l[k + i]?=some x)->P k env->(∃ env',kB a g (l'.map e) env=.ok (.nx env')/\P (k + l'.length) env')\/(kB a g (l'.map e) env=.ok (.rt r)/\Z):=by
  intro l'
  induction l' with
  | nil=>exact fun k env _ hp=>.inl ⟨env,rfl,hp⟩
  | cons d l' ih=>
   intro k env hd hp
   obtain ⟨FC,h1,⟨FL,h2,h3⟩ | ⟨h2,hz⟩⟩:=h k d env (hd 0 d rfl) hp
   ·rw [eE,lY,h1,GR,h2,GR]
    rcases ih (k + 1) FL (fun i x e=>by have:=hd (i + 1) x (by simpa using e);rw [show k + 1 + i=k + (i + 1) by lia];exact this) h3 with ⟨env',h4,h5⟩ | h4
    ·exact .inl ⟨env',h4,by rw [List.length_cons,show k + (l'.length + 1)=k + 1 + l'.length by lia];exact h5⟩
    ·exact .inr h4
   ·right
    rw [eE,lY,h1,GR,h2,GR]
    exact ⟨rfl,hz⟩
 intro env hp
 have:=key l 0 env (fun i x e=>by rw [Nat.zero_add];exact e) hp
 rwa [Nat.zero_add] at this
theorem r6 {c:FT} {g:FS} {r:R} {Z:Prop} (P:Nat->PV.Env->Prop) (fin:PV.Env->Prop) (h:∀ k env,P k env->(∃ FC,c env=.ok (false,FC)/\fin FC)\/(∃ FC,c env=.ok (true,FC)/\((∃ FL k',g FC=.ok (.nx FL)/\k' < k/\P k' FL)\/(g FC=.ok (.rt r)/\Z)))) :
  ∀ n k env,k < n->P k env->(∃ env',c6 c g n env=.ok (.nx env')/\fin env')\/(c6 c g n env=.ok (.rt r)/\Z)
 | 0,k,env,hk,_=>absurd hk (Nat.not_lt_zero _)
 | n + 1,k,env,hk,hp=>by
  rcases h k env hp with ⟨FC,h1,h2⟩ | ⟨FC,h1,⟨FL,k',h2,h3,h4⟩ | ⟨h2,hz⟩⟩
  ·exact .inl ⟨FC,by rw [jD,h1,GR];rfl,h2⟩
  ·have e:c6 c g (n + 1) env=c6 c g n FL:=by
    rw [jD,h1,GR]
    dsimp only
    rw [if_pos rfl,h2,GR]
   rw [e]
   exact r6 P fin h n k' FL (by lia) h4
  ·right
   refine ⟨?_,hz⟩
   rw [jD,h1,GR]
   dsimp only
   rw [if_pos rfl,h2,GR]
noncomputable def ij (k:Nat):List (Int×Pl)->Option (List Int)
 | []=>some []
 | z :: zs=>if z.1 < z.2.2.1.getD k 0 then none else (ij k zs).map fun r=>(z.1 - z.2.2.1.getD k 0 + z.2.2.2.getD k 0) :: r
theorem pX (k:Nat):∀ {zs:List (Int×Pl)} {r:List Int},ij k zs=some r->r.length=zs.length
 | [],r,h=>by cases h;rfl
 | z :: zs,r,h=>by
  rw [ij] at h
  split at h
  ·cases h
  ·rw [Option.map_eq_some_iff] at h
   obtain ⟨r',h1,rfl⟩:=h
   rw [List.length_cons,List.length_cons,pX k h1]
theorem r9 (k:Nat):∀ {zs:List (Int×Pl)} {r:List Int} {j:Nat} {z:Int×Pl},ij k zs=some r->zs[j]?=some z->¬ z.1 < z.2.2.1.getD k 0/\r[j]?=some (z.1 - z.2.2.1.getD k 0 + z.2.2.2.getD k 0)
 | [],r,j,z,h,e=>by cases e
 | y :: zs,r,j,z,h,e=>by
  rw [ij] at h
  split at h
  ·cases h
  ·rename_i hn
   rw [Option.map_eq_some_iff] at h
   obtain ⟨r',h1,rfl⟩:=h
   cases j with
   | zero=>
    rw [List.getElem?_cons_zero] at e
    cases e
    exact ⟨hn,rfl⟩
   | succ j=>
    rw [List.getElem?_cons_succ] at e ⊢
    exact r9 k h1 e
theorem C0 (A0 A1 A2:Option R) (k cnt:Nat) (hk:k < cnt) (acc:List Int) (hl:acc.length<=1000) (z:Int×Pl) (hz:Kc z.2 cnt):df [A0,A1,A2,some (.f,.int (k:Int)),some (.l .f,.lst (acc.map D.int)),some (.f,.int z.1),some (.f,eP z.2)]=if z.1 < z.2.2.1.getD k 0 then .ok (.rt (.f,.non)) else .ok (.nx [A0,A1,A2,some (.f,.int (k:Int)),some (.l .f,.lst ((acc++[z.1 - z.2.2.1.getD k 0 + z.2.2.2.getD k 0]).map D.int)),some (.f,.int z.1),some (.f,eP z.2)]):=by
 have h1:Gy (z.2.2.1.map D.int) (k:Int)=some (.int (z.2.2.1.getD k 0)):=ib (by rw [hz.1];exact hk)
 have h2:Gy (z.2.2.2.map D.int) (k:Int)=some (.int (z.2.2.2.getD k 0)):=ib (by rw [hz.2];exact hk)
 have Pw:(acc.map D.int).length < sizeLine:=gL (by rw [a8];lia)
 unfold df eP
 by_cases h:z.1 < z.2.2.1.getD k 0
 ·rw [if_pos h]
  simp only [pv,seval,op,h1,h,decide_true]
 ·rw [if_neg h,List.map_append,eE,List.map_nil]
  simp only [pv,seval,op,h1,h2,at2,h,decide_false,fO,Pw]
theorem pY (A0 A1 A2:Option R) (k cnt:Nat) (hk:k < cnt):∀ (zs:List (Int×Pl)) (acc:List Int) (t5 t6:Option R),acc.length + zs.length<=1000->(∀ z∈zs,Kc z.2 cnt)->
  (ij k zs=none/\kB (fW 2 (aB (ax 5) (aB (ax 6) cq))) df (zs.map fun z:Int×Pl=>D.tup [D.int z.1,eP z.2]) [A0,A1,A2,some (.f,.int (k:Int)),some (.l .f,.lst (acc.map D.int)),t5,t6]=.ok (.rt (.f,.non)))\/
  ∃ r u5 u6,ij k zs=some r/\kB (fW 2 (aB (ax 5) (aB (ax 6) cq))) df (zs.map fun z:Int×Pl=>D.tup [D.int z.1,eP z.2]) [A0,A1,A2,some (.f,.int (k:Int)),some (.l .f,.lst (acc.map D.int)),t5,t6]=.ok (.nx [A0,A1,A2,some (.f,.int (k:Int)),some (.l .f,.lst ((acc++r).map D.int)),u5,u6])
 | [],acc,t5,t6,_,_=>.inr ⟨[],t5,t6,rfl,by rw [List.append_nil];rfl⟩
 | z :: zs,acc,t5,t6,hl,hp=>by
  have h1:=C0 A0 A1 A2 k cnt hk acc (by rw [List.length_cons] at hl;lia) z (hp z List.mem_cons_self)
  have ha:fW 2 (aB (ax 5) (aB (ax 6) cq)) (D.tup [D.int z.1,eP z.2]) [A0,A1,A2,some (.f,.int (k:Int)),some (.l .f,.lst (acc.map D.int)),t5,t6]=.ok [A0,A1,A2,some (.f,.int (k:Int)),some (.l .f,.lst (acc.map D.int)),some (.f,.int z.1),some (.f,eP z.2)]:=by simp only [pv,seval]
  rw [eE,lY,ha,GR,h1,ij]
  by_cases h:z.1 < z.2.2.1.getD k 0
  ·left
   rw [if_pos h,if_pos h]
   exact ⟨rfl,by rw [GR]⟩
  ·rw [if_neg h,if_neg h,GR]
   rcases pY A0 A1 A2 k cnt hk zs (acc++[z.1 - z.2.2.1.getD k 0 + z.2.2.2.getD k 0]) (some (.f,.int z.1)) (some (.f,eP z.2)) (by rw [List.length_cons] at hl;rw [i6,List.length_singleton];lia) (fun y hy=>hp y (List.mem_cons_of_mem _ hy)) with ⟨e1,e2⟩ | ⟨r,u5,u6,e1,e2⟩
   ·left
    exact ⟨by rw [e1];rfl,e2⟩
   ·right
    refine ⟨_,u5,u6,by rw [e1];rfl,?_⟩
    rw [List.append_assoc] at e2
    exact e2
noncomputable def eN (nZ:LNN) (ps:List Pl):D:=.tup [.tup (nZ.map D.str),.lst (ps.map eP)]
noncomputable def eM (m:List Int):D:=.tup (m.map D.int)
theorem qH {nZ : LNN} {m : List Nat} (h : m ∈ nZ) : mw (nZ.map D.str) [.str m] = .ok (.f, .int ((nZ.idxOf m : Nat) : Int)) := by
  first
    | (unfold mw
       dsimp only
       rw [eZ]
       dsimp only
       rw [if_pos h])
    | (unfold mw
       simp only [eZ, h, if_true])
theorem jG {α β:Type} (f:α->D) (g:β->D) (xs:List α) (ys:List β):((xs.map f).zip (ys.map g)).map (fun z=>D.tup [z.1,z.2])=(xs.zip ys).map fun z=>D.tup [f z.1,g z.2]:=by
 rw [List.zip_map,List.map_map]
 rfl
theorem C1 (nZ:LNN) (ps:List Pl) (hl:ps.length<=100) (hp:∀ p∈ps,Kc p nZ.length) (m:List Int) (mv:List Nat) (hm:mv∈nZ) :
  (ij (nZ.idxOf mv) (m.zip ps)=none/\dq [eN nZ ps,eM m,.str mv]=.ok (.f,.non))\/∃ r,ij (nZ.idxOf mv) (m.zip ps)=some r/\dq [eN nZ ps,eM m,.str mv]=.ok (.f,eM r):=by
 have Hl:=qH hm
 have hk:=List.idxOf_lt_length_of_mem hm
 generalize nZ.idxOf mv=k at Hl hk
 unfold dq lO eN eM
 rw [bh (h:=by rfl)]
 rw [au (env':=[some (.f,.tup [.tup (nZ.map D.str),.lst (ps.map eP)]),some (.f,.tup (m.map D.int)),some (.f,.str mv),some (.f,.int (k:Int)),none,none,none]) (by simp only [pv,seval,op,Hl])]
 rw [au (env':=[some (.f,.tup [.tup (nZ.map D.str),.lst (ps.map eP)]),some (.f,.tup (m.map D.int)),some (.f,.str mv),some (.f,.int (k:Int)),some (.l .f,.lst []),none,none]) (by simp only [pv,seval,op])]
 rcases pY (some (.f,.tup [.tup (nZ.map D.str),.lst (ps.map eP)])) (some (.f,.tup (m.map D.int))) (some (.f,.str mv)) k nZ.length hk (m.zip ps) [] none none (by rw [List.length_nil,List.length_zip];lia) (fun z hz=>hp _ (List.of_mem_zip (show (z.1,z.2)∈m.zip ps from hz)).2) with ⟨e1,e2⟩ | ⟨r,u5,u6,e1,e2⟩
 ·left
  refine ⟨e1,?_⟩
  rw [List.map_nil] at e2
  unfold gv
  simp only [pv,seval,op,jG,e2]
 ·right
  refine ⟨r,e1,?_⟩
  rw [List.map_nil,List.nil_append] at e2
  unfold gv iL
  simp only [pv,seval,op,jG,e2]
theorem eqDs_ints:∀ a b:List Int,jP (a.map D.int) (b.map D.int)=decide (a=b)
 | [],[]=>rfl
 | [],_ :: _=>rfl
 | _ :: _,[]=>rfl
 | x :: a,y :: b=>by
  rw [eE,eE,jP,eqDs_ints a b,eqD,Bool.eq_iff_iff]
  simp
theorem AB (a b:List Int):eqD (eM a) (eM b)=decide (a=b):=by
 unfold eM
 rw [eqD,eqDs_ints]
theorem ou (a:List Int):plainD 40 (eM a)=true:=xw a
theorem ox (l:List (List Int)):plainDs 40 (l.map eM)=true:=by
 induction l with
 | nil=>rfl
 | cons a l ih=>
  rw [eE,plainDs,ih,Bool.and_true]
  exact ou a
theorem Py {α:Type} [DecidableEq α] {e:α->D} (he:∀ a b,eqD (e a) (e b)=decide (a=b)) (hp:∀ l:List α,plainDs 40 (l.map e)=true) (hq:∀ a,plainD 40 (e a)=true) (l:List α) (a:α) (h:a∈l):∃ i:Nat,l[i]?=some a/\nR (l.map e) [e a]=.ok (.f,.int (i:Int)):=by
 have e1:(l.map e).any (fun d=>eqD d (e a))=true:=by
  rw [List.any_map,List.any_eq_true]
  exact ⟨a,h,by show eqD (e a) (e a)=true;rw [he,decide_eq_true rfl]⟩
 have e2:(l.map e).findIdx (fun d=>eqD d (e a))=l.findIdx fun x=>decide (x=a):=by
  rw [List.findIdx_map]
  congr 1
  funext x
  exact he x a
 have h3:(l.findIdx fun x=>decide (x=a)) < l.length:=List.findIdx_lt_length_of_exists ⟨a,h,decide_eq_true rfl⟩
 have h4:=List.findIdx_getElem (p:=fun x=>decide (x=a)) (xs:=l) (w:=h3)
 refine ⟨l.findIdx fun x=>decide (x=a),by rw [kq h3];congr 1;simpa using h4,?_⟩
 unfold nR
 dsimp only
 rw [hq,hp,e1,e2]
 rfl
theorem l9 {α:Type} [DecidableEq α] (a:α):∀ l:List α,a∉l->((l++[a]).findIdx fun x=>decide (x=a))=l.length
 | [],_=>by simp
 | x :: l,h=>by
  rw [List.mem_cons,not_or] at h
  rw [List.cons_append,List.findIdx_cons,l9 a l h.2,decide_eq_false (fun e=>h.1 e.symm)]
  rfl
theorem Ep {α:Type} [DecidableEq α] {e:α->D} (he:∀ a b,eqD (e a) (e b)=decide (a=b)) (hp:∀ l:List α,plainDs 40 (l.map e)=true) (hq:∀ a,plainD 40 (e a)=true) (l:List α) (a:α) (h:a∉l):nR (l.map e++[e a]) [e a]=.ok (.f,.int (l.length:Int)):=by
 have e0:l.map e++[e a]=(l++[a]).map e:=by rw [List.map_append];rfl
 have e1:((l++[a]).map e).any (fun d=>eqD d (e a))=true:=by
  rw [List.any_map,List.any_eq_true]
  exact ⟨a,List.mem_append_right _ (List.mem_singleton.mpr rfl),by show eqD (e a) (e a)=true;rw [he,decide_eq_true rfl]⟩
 have e2:((l++[a]).map e).findIdx (fun d=>eqD d (e a))=l.length:=by
  rw [List.findIdx_map]
  rw [<-l9 a l h]
  congr 1
  funext x
  exact he x a
 unfold nR
 dsimp only
 rw [e0,hq,hp,e1,e2]
 rfl
theorem Fu {α:Type} [DecidableEq α] {e:α->D} (he:∀ a b,eqD (e a) (e b)=decide (a=b)) (hp:∀ l:List α,plainDs 40 (l.map e)=true) (hq:∀ a,plainD 40 (e a)=true) (l:List α) (a:α):tN (e a) (.lst (l.map e))=.ok (.f,.bl (!decide (a∈l))):=by
 have e1:tM (e a) (l.map e)=decide (a∈l):=by
  unfold tM
  rw [List.any_map,Bool.eq_iff_iff,List.any_eq_true,decide_eq_true_eq]
  constructor
  ·rintro ⟨x,hx,e1⟩
   have e1:eqD (e x) (e a)=true:=e1
   rw [he,decide_eq_true_eq] at e1
   rw [<-e1]
   exact hx
  ·intro h
   refine ⟨a,h,?_⟩
   show eqD (e a) (e a)=true
   rw [he,decide_eq_true_eq]
 unfold tN Kj
 dsimp only
 rw [hq,hp,Bool.and_self,if_pos rfl,e1]
 rfl
structure Rm (nZ:LNN) (ps:List Pl) (S:List (List Int)) (A:List FK) (m:Nat):Prop where
 nd:S.Nodup
 z:S[0]?=some (ps.map (·.1))
 ln:∀ s∈S,s.length=ps.length
 le:S.length<=8
 ab:∀ a∈A,a.2.1∈nZ/\∃ i j:Nat,i < m/\a.1=(i:Int)/\a.2.2=(j:Int)/\∃ s t,S[i]?=some s/\S[j]?=some t/\ij (nZ.idxOf a.2.1) (s.zip ps)=some t
 rc:∀ j:Nat,1<=j->j < S.length->∃ a∈A,a.2.2=(j:Int)/\∃ b:Nat,b < j/\a.1=(b:Int)
theorem Rm.more {nZ:LNN} {ps:List Pl} {S:List (List Int)} {A:List FK} {m m':Nat} (r:Rm nZ ps S A m) (h:m<=m'):Rm nZ ps S A m':=⟨r.nd,r.z,r.ln,r.le,fun a ha=>by
 obtain ⟨h1,i,j,h2,h3⟩:=r.ab a ha
 exact ⟨h1,i,j,by lia,h3⟩,r.rc⟩
theorem Rm.old {nZ:LNN} {ps:List Pl} {S:List (List Int)} {A:List FK} {d:Nat} (r:Rm nZ ps S A (d + 1)) {mv:List Nat} (hn:mv∈nZ) {s t:List Int} (hs:S[d]?=some s) {i:Nat} (ht:S[i]?=some t) (hf:ij (nZ.idxOf mv) (s.zip ps)=some t):Rm nZ ps S (A++[((d:Int),mv,(i:Int))]) (d + 1):=by
 refine ⟨r.nd,r.z,r.ln,r.le,fun a ha=>?_,fun j j1 j2=>?_⟩
 ·rcases kN ha with ha | ha
  ·exact r.ab a ha
  ·rw [kM ha]
   exact ⟨hn,d,i,by lia,rfl,rfl,s,t,hs,ht,hf⟩
 ·obtain ⟨a,ha,q⟩:=r.rc j j1 j2
  exact ⟨a,List.mem_append_left _ ha,q⟩
theorem Rm.new {nZ:LNN} {ps:List Pl} {S:List (List Int)} {A:List FK} {d:Nat} (r:Rm nZ ps S A (d + 1)) {mv:List Nat} (hn:mv∈nZ) {s t:List Int} (hs:S[d]?=some s) (ht:t∉S) (hf:ij (nZ.idxOf mv) (s.zip ps)=some t) (h8:S.length < 8):Rm nZ ps (S++[t]) (A++[((d:Int),mv,(S.length:Int))]) (d + 1):=by
 have hd:=(j0 hs).1
 have hl:(S++[t]).length=S.length + 1:=by rw [i6];rfl
 have up:∀ {i:Nat} {x:List Int},S[i]?=some x->(S++[t])[i]?=some x:=fun {i x} h=>by
  rw [List.getElem?_append_left (j0 h).1]
  exact h
 refine ⟨List.nodup_append.mpr ⟨r.nd,List.nodup_cons.mpr ⟨List.not_mem_nil,List.nodup_nil⟩,fun x hx y hy=>?_⟩,up r.z,fun x hx=>?_,by lia,fun a ha=>?_,fun j j1 j2=>?_⟩
 ·rw [kM hy]
  rintro rfl
  exact ht hx
 ·rcases kN hx with hx | hx
  ·exact r.ln x hx
  ·rw [kM hx,pX _ hf,List.length_zip,r.ln s (List.mem_of_getElem? hs),Nat.min_self]
 ·rcases kN ha with ha | ha
  ·obtain ⟨h1,i,j,h2,h3,h4,x,y,h5,h6,h7⟩:=r.ab a ha
   exact ⟨h1,i,j,h2,h3,h4,x,y,up h5,up h6,h7⟩
  ·rw [kM ha]
   exact ⟨hn,d,S.length,by lia,rfl,rfl,s,t,up hs,by rw [List.getElem?_append_right (Nat.le_refl _),Nat.sub_self];rfl,hf⟩
 ·by_cases e:j=S.length
  ·subst e
   exact ⟨_,List.mem_append_right _ (List.mem_singleton.mpr rfl),rfl,d,hd,rfl⟩
  ·obtain ⟨a,ha,q⟩:=r.rc j j1 (by lia)
   exact ⟨a,List.mem_append_left _ ha,q⟩
theorem C2 (t:List Int):dk (eM t)=true:=by
 unfold eM
 rw [cK,FD]
theorem C3 (nZ:LNN) (ps:List Pl) (hl:ps.length<=100) (hp:∀ p∈ps,Kc p nZ.length) (S:List (List Int)) (A:List FK) (hA:A.length<=1000) (d:Nat) (r:Rm nZ ps S A (d + 1)) (hd:d < S.length) (mv:List Nat) (hn:mv∈nZ) (t6:Option R) :
  (∃ (S':List (List Int)) (A':List FK) (u6:Option R),Rm nZ ps S' A' (d + 1)/\S.length<=S'.length/\A'.length<=A.length + 1/\dG [some (.f,eN nZ ps),some (.f,.int 8),some (.l .f,.lst (S.map eM)),some (.l .f,.lst (A.map eA)),some (.f,.int ((d:Nat):Int)),some (.f,.str mv),t6]=.ok (.nx [some (.f,eN nZ ps),some (.f,.int 8),some (.l .f,.lst (S'.map eM)),some (.l .f,.lst (A'.map eA)),some (.f,.int ((d:Nat):Int)),some (.f,.str mv),u6]))\/
  (dG [some (.f,eN nZ ps),some (.f,.int 8),some (.l .f,.lst (S.map eM)),some (.l .f,.lst (A.map eA)),some (.f,.int ((d:Nat):Int)),some (.f,.str mv),t6]=.ok (.rt (.f,.non))/\∃ S A m,Rm nZ ps S A m/\S.length=8):=by
 have Pz:S[d]?=some S[d]:=kq hd
 have Jk:Gy (S.map eM) (d:Int)=some (eM S[d]):=dB (by rw [List.getElem?_map,Pz];rfl)
 have h8:=r.le
 have hzA:(A.map eA).length < sizeLine:=gL (by rw [a8];lia)
 have hzS:(S.map eM).length < sizeLine:=gL (by rw [a8];lia)
 have Nj:dk .non=true:=rfl
 unfold dG
 rcases C1 nZ ps hl hp S[d] mv hn with ⟨hf,e⟩ | ⟨t,hf,e⟩
 ·refine .inl ⟨S,A,some (.f,.non),r,Nat.le_refl _,by lia,?_⟩
  rw [au (env':=[some (.f,eN nZ ps),some (.f,.int 8),some (.l .f,.lst (S.map eM)),some (.l .f,.lst (A.map eA)),some (.f,.int ((d:Nat):Int)),some (.f,.str mv),some (.f,.non)]) (by simp only [pv,seval,op,Jk,e,Nj])]
  simp only [pv,seval,op,rU,fO]
 ·have hft:=C2 t
  have MV:=Fu AB ox ou S t
  have PB:isnO (eM t) .non=.ok (.f,.bl true):=id rfl
  rw [au (env':=[some (.f,eN nZ ps),some (.f,.int 8),some (.l .f,.lst (S.map eM)),some (.l .f,.lst (A.map eA)),some (.f,.int ((d:Nat):Int)),some (.f,.str mv),some (.f,eM t)]) (by simp only [pv,seval,op,Jk,e,hft])]
  by_cases hm:t∈S
  ·obtain ⟨i,hi,Hl⟩:=Py AB ox ou S t hm
   refine .inl ⟨S,A++[((d:Int),mv,(i:Int))],some (.f,eM t),r.old hn Pz hi hf,Nat.le_refl _,by rw [i6];exact Nat.le_refl _,?_⟩
   rw [List.map_append]
   simp only [pv,seval,op,PB,MV,hm,decide_true,Bool.not_true,fO,rT,Hl,hzA]
   rfl
  ·by_cases h9:S.length=8
   ·right
    refine ⟨?_,S,A,d + 1,r,h9⟩
    have he:((S.length:Int) == 8)=true:=by rw [h9];rfl
    simp only [pv,seval,op,PB,MV,hm,decide_false,Bool.not_false,a8,he]
   ·have he:((S.length:Int) == 8)=false:=by
     rw [beq_eq_false_iff_ne]
     lia
    have Hl:=Ep AB ox ou S t hm
    refine .inl ⟨S++[t],A++[((d:Int),mv,(S.length:Int))],some (.f,eM t),r.new hn Pz hm hf (by lia),by rw [i6];lia,by rw [i6];exact Nat.le_refl _,?_⟩
    rw [List.map_append,List.map_append,eE,List.map_nil]
    have hzS':S.length < sizeLine:=gL (by lia)
    have hzA':A.length < sizeLine:=gL (by lia)
    simp only [pv,seval,op,PB,MV,hm,decide_false,Bool.not_false,fO,a8,he,rT,Hl,hzA',hzS']
    rfl
theorem AD (nZ:LNN) (hn:nZ.length<=3) (ps:List Pl) (hl:ps.length<=100) (hp:∀ p∈ps,Kc p nZ.length) :
  (∃ S A m,Rm nZ ps S A m/\A.length<=24/\bI [eN nZ ps,.int 8]=.ok (.f,.tup [.lst ((cb eD A).map eA),.lst (S.map eM)]))\/(bI [eN nZ ps,.int 8]=.ok (.f,.non)/\∃ S A m,Rm nZ ps S A m/\S.length=8):=by
 unfold bI mU
 rw [bh (h:=by rfl)]
 have hc:b5 (fW 3 (aB (ax 0) (aB (ax 1) (aB (ax 2) cq)))) cN (aK 0) (ps.map eP) [none,none,none]=.ok ((ps.map (·.1)).map D.int):=by
  rw [aV (r:=fun p:Pl=>D.int p.1) (fun env=>∃ t u w,env=[t,u,w]) ps ?_ _ ⟨none,none,none,rfl⟩]
  ·rw [List.map_map]
   rfl
  ·rintro p _ env ⟨t,u,w,rfl⟩
   exact ⟨[some (.f,.int p.1),some (.f,.tup (p.2.1.map D.int)),some (.f,.tup (p.2.2.map D.int))],by unfold eP;simp only [pv,seval],.f,_,rfl,_,_,_,rfl⟩
 have hlen:((ps.map (·.1)).map D.int).length<=sizeLine:=aN (by rw [a8,a8];lia)
 have Iy:=FD (ps.map (·.1))
 rw [au (env':=[some (.f,eN nZ ps),some (.f,.int 8),some (.l .f,.lst [eM (ps.map (·.1))]),none,none,none,none]) (by
  unfold eN eM
  simp only [pv,seval,op,hc,hlen,Iy])]
 rw [au (env':=[some (.f,eN nZ ps),some (.f,.int 8),some (.l .f,.lst [eM (ps.map (·.1))]),some (.l .f,.lst []),none,none,none]) (by simp only [pv,seval,op])]
 rw [au (env':=[some (.f,eN nZ ps),some (.f,.int 8),some (.l .f,.lst [eM (ps.map (·.1))]),some (.l .f,.lst []),some (.f,.int 0),none,none]) (by simp only [pv,seval,op])]
 rcases r6 (c:=(Gg (aD Kk (ao 4) (aq (a9 ka (ag (ao 2) aA)))))) (g:=dH) (r:=(.f,.non)) (Z:=∃ S A m,Rm nZ ps S A m/\S.length=8)
  (fun k env=>∃ S A d t5 t6,Rm nZ ps S A d/\d<=S.length/\A.length<=3 * d/\k=9 - d/\env=[some (.f,eN nZ ps),some (.f,.int 8),some (.l .f,.lst (S.map eM)),some (.l .f,.lst (A.map eA)),some (.f,.int ((d:Nat):Int)),t5,t6]) (fun env=>∃ S A d t5 t6,Rm nZ ps S A d/\d=S.length/\A.length<=3 * d/\env=[some (.f,eN nZ ps),some (.f,.int 8),some (.l .f,.lst (S.map eM)),some (.l .f,.lst (A.map eA)),some (.f,.int ((d:Nat):Int)),t5,t6]) (by
  rintro k env ⟨S,A,d,t5,t6,r,hd,hA,rfl,rfl⟩
  have h8:=r.le
  by_cases Gn:d < S.length
  ·refine .inr ⟨[some (.f,eN nZ ps),some (.f,.int 8),some (.l .f,.lst (S.map eM)),some (.l .f,.lst (A.map eA)),some (.f,.int ((d:Nat):Int)),t5,t6],?_,?_⟩
   ·have:(d:Int) < (S.length:Int):=by lia
    simp only [pv,seval,op,a8,this,decide_true]
   ·rcases CZ (a:=ax 5) (g:=dG) (e:=D.str) (r:=(.f,.non)) (Z:=∃ S A m,Rm nZ ps S A m/\S.length=8) nZ (fun j env=>∃ S' A' t5 t6,Rm nZ ps S' A' (d + 1)/\S.length<=S'.length/\A'.length<=3 * d + j/\env=[some (.f,eN nZ ps),some (.f,.int 8),some (.l .f,.lst (S'.map eM)),some (.l .f,.lst (A'.map eA)),some (.f,.int ((d:Nat):Int)),t5,t6]) (by
     rintro j mv env hj ⟨S',A',t5,t6,r',Mc,hA',rfl⟩
     have Qb:=(j0 hj).1
     have h8:=r'.le
     refine ⟨[some (.f,eN nZ ps),some (.f,.int 8),some (.l .f,.lst (S'.map eM)),some (.l .f,.lst (A'.map eA)),some (.f,.int ((d:Nat):Int)),some (.f,.str mv),t6],rfl,?_⟩
     rcases C3 nZ ps hl hp S' A' (by lia) d r' (by lia) mv (List.mem_of_getElem? hj) t6 with ⟨S2,A2,u6,r2,hd2,hA2,e⟩ | e
     ·exact .inl ⟨_,e,S2,A2,_,_,r2,by lia,by lia,rfl⟩
     ·exact .inr e) _ ⟨S,A,t5,t6,r.more (by lia),Nat.le_refl _,by lia,rfl⟩ with ⟨env',ef,S',A',PD,t6',r',Mc,hA',rfl⟩ | ⟨ef,hz⟩
    ·have h8':=r'.le
     refine .inl ⟨_,9 - (d + 1),?_,by lia,S',A',d + 1,PD,t6',r',by lia,by lia,rfl,rfl⟩
     unfold dH
     rw [au (env':=_) (by
      unfold g0
      unfold eN at ef ⊢
      simp only [pv,seval,op]
      exact ef)]
     unfold jt
     simp only [pv,seval,op,Int.natCast_add,Int.cast_ofNat_Int]
     rfl
    ·refine .inr ⟨?_,hz⟩
     unfold dH
     rw [HP]
     unfold g0
     unfold eN at ef ⊢
     simp only [pv,seval,op,ef]
  ·refine .inl ⟨_,?_,S,A,d,t5,t6,r,by lia,hA,rfl⟩
   have:¬ (d:Int) < (S.length:Int):=by lia
   simp only [pv,seval,op,a8,this,decide_false]) 100000 9 _ (by decide) ⟨[ps.map (·.1)],[],0,none,none,⟨List.nodup_cons.mpr ⟨List.not_mem_nil,List.nodup_nil⟩,rfl,fun x hx=>by rw [kM hx,a8],by simp,(fun _ h=>nomatch h),fun j j1 j2=>by rw [List.length_singleton] at j2;lia⟩,Nat.zero_le _,Nat.le_refl _,rfl,rfl⟩ with ⟨env',ew,S,A,d,t5,t6,r,hd,hA,rfl⟩ | ⟨ew,hz⟩
 ·have h8:=r.le
  left
  refine ⟨S,A,d,r,by lia,?_⟩
  rw [au (env':=_) (by
   unfold g5
   exact ew)]
  unfold ju
  simp only [pv,seval,op,qG A (by lia)]
 ·right
  refine ⟨?_,hz⟩
  rw [HP]
  unfold g5
  have ew2:(c6 (Gg (aD Kk (ao 4) (aq (a9 ka (ag (ao 2) aA))))) dH 100000) [some (.f,eN nZ ps),some (.f,.int 8),some (.l .f,.lst [eM (ps.map (·.1))]),some (.l .f,.lst []),some (.f,.int 0),none,none]=.ok (.rt (.f,.non)):=ew
  rw [ew2]
  simp only [pv,seval]
theorem C4 (p:Pl):dk (eP p)=true:=by
 unfold eP
 rw [cK]
 simp only [flatDs,cK,FD,jE]
 rfl
theorem AE (ps:List Pl):flatDs (ps.map eP)=true:=by
 rw [bH,List.all_map,List.all_eq_true]
 exact fun p _=>C4 p
theorem qI {α:Type} [DecidableEq α]:∀ (l m:List α),l.Nodup->(∀ x∈l,x∈m)->l.length<=m.length
 | [],m,_,_=>Nat.zero_le _
 | a :: l,m,nd,h=>by
  rw [List.nodup_cons] at nd
  have ha:=h a List.mem_cons_self
  have:=qI l (m.erase a) nd.2 fun x hx=>(List.mem_erase_of_ne (fun e=>nd.1 (by rw [<-e];exact hx))).mpr (h x (List.mem_cons_of_mem _ hx))
  rw [List.length_erase_of_mem ha] at this
  have:=List.length_pos_of_mem ha
  rw [List.length_cons]
  lia
noncomputable def oC (nZ:LNN) (b:Int):Pl:=(b,nZ.map fun _=>1,nZ.map fun _=>0)
theorem sa (nZ:LNN) (c:Int) {k:Nat} (h:k < nZ.length):(nZ.map fun _=>c).getD k 0=c:=by
 rw [List.getD_eq_getElem?_getD,List.getElem?_map,kq h]
 rfl
theorem vX {nZ:LNN} {ps:List Pl} {b:Int} {k:Nat} (hk:k < nZ.length) {s t:List Int} (hs:s.length=(ps++[oC nZ b]).length) (hf:ij k (s.zip (ps++[oC nZ b]))=some t):1<=s.getD ps.length 0/\t.getD ps.length 0=s.getD ps.length 0 - 1:=by
 rw [i6,List.length_singleton] at hs
 have Gn:ps.length < s.length:=by lia
 have e:(s.zip (ps++[oC nZ b]))[ps.length]?=some (s[ps.length],oC nZ b):=by
  rw [List.getElem?_zip_eq_some]
  exact ⟨kq Gn,by rw [List.getElem?_append_right (Nat.le_refl _),Nat.sub_self];rfl⟩
 obtain ⟨h1,h2⟩:=r9 k hf e
 have e1:(oC nZ b).2.1.getD k 0=1:=sa nZ 1 hk
 have e2:(oC nZ b).2.2.getD k 0=0:=sa nZ 0 hk
 dsimp only at h1 h2
 rw [e1] at h1
 rw [e1,e2] at h2
 have e3:s.getD ps.length 0=s[ps.length]:=by rw [List.getD_eq_getElem?_getD,kq Gn];rfl
 rw [e3,List.getD_eq_getElem?_getD,h2]
 exact ⟨by lia,by show _=_;simp⟩
theorem xC {nZ:LNN} {ps:List Pl} {S:List (List Int)} {A:List FK} {m:Nat} (r:Rm nZ (ps++[oC nZ 1]) S A m):S.length<=1 + nZ.length:=by
 have hz:=r.z
 cases hS:S with
 | nil=>exact Nat.zero_le _
 | cons s0 tl=>
  rw [hS,List.getElem?_cons_zero,Option.some.injEq] at hz
  have h0:s0.getD ps.length 0=1:=by
   rw [hz,List.getD_eq_getElem?_getD,List.getElem?_map,List.getElem?_append_right (Nat.le_refl _),Nat.sub_self]
   rfl
  have key:∀ j:Nat,1<=j->∀ s,S[j]?=some s->s.getD ps.length 0=0/\∃ mv∈nZ,ij (nZ.idxOf mv) (s0.zip (ps++[oC nZ 1]))=some s:=by
   intro j
   induction j using Nat.strongRecOn with
   | _ j ih=>
    intro hj s hs
    obtain ⟨a,ha,e1,b,hb,e2⟩:=r.rc j hj (j0 hs).1
    obtain ⟨hn,i',j',_,e3,e4,x,y,hx,hy,hf⟩:=r.ab a ha
    have:i'=b:=by lia
    subst this
    have:j'=j:=by lia
    subst this
    rw [hs] at hy
    cases hy
    have hd:=vX (List.idxOf_lt_length_of_mem hn) (r.ln x (List.mem_of_getElem? hx)) hf
    cases i' with
    | zero=>
     rw [hS,List.getElem?_cons_zero,Option.some.injEq] at hx
     subst hx
     exact ⟨by lia,_,hn,hf⟩
    | succ i'=>
     have:=(ih (i' + 1) hb (by lia) x hx).1
     lia
  have nd:=r.nd
  rw [hS] at nd
  have:=qI tl (nZ.filterMap fun mv=>ij (nZ.idxOf mv) (s0.zip (ps++[oC nZ 1]))) (List.nodup_cons.mp nd).2 fun s hs=>by
   obtain ⟨i,hi⟩:=List.mem_iff_getElem?.mp hs
   obtain ⟨_,mv,OI,hf⟩:=key (i + 1) (by lia) s (by rw [hS,List.getElem?_cons_succ];exact hi)
   exact List.mem_filterMap.mpr ⟨mv,OI,hf⟩
  have h2:=List.length_filterMap_le (fun mv=>ij (nZ.idxOf mv) (s0.zip (ps++[oC nZ 1]))) nZ
  rw [List.length_cons]
  lia
theorem jH (nZ:LNN) (c:Int):b5 (ax 0) cN (aJ (.int c)) (nZ.map D.str) [none]=.ok ((nZ.map fun _=>c).map D.int):=by
 rw [aV (r:=fun _:List Nat=>D.int c) (fun env=>∃ t,env=[t]) nZ ?_ _ ⟨none,rfl⟩]
 ·rw [List.map_map]
  rfl
 ·rintro n _ env ⟨t,rfl⟩
  exact ⟨[some (.f,.str n)],rfl,.f,_,rfl,_,rfl⟩
theorem Fv (ps:List Pl) (hl:ps.length<=100) (d:D):cV (.lst (ps.map eP)) (.lst [d])=.ok (.l .f,.lst (ps.map eP++[d])):=by
 rw [vH,if_pos (line_le (by rw [a8,List.length_singleton];lia))]
structure Nt (nZ:LNN) (ps:List Pl) (S:List (List Int)) (A:List FK):Prop where
 n0:nZ≠[]
 n3:nZ.length<=3
 nn:nZ.Nodup
 nw:nZ.Pairwise (fun a b=>JV b a=false)
 p0:ps≠[]
 p9:ps.length<=9
 po:∀ p∈ps,Kc p nZ.length
 al:A.length<=24
 rm:∃ m,Rm nZ ps S A m
theorem Er (ns:List Int) (first:Nat):∃ nZ ps S A,Nt nZ ps S A/\dZ [.lst (ns.map D.int),.int (first:Int)]=.ok (.f,eN nZ ps)/\bI [eN nZ ps,.int 8]=.ok (.f,.tup [.lst ((cb eD A).map eA),.lst (S.map eM)]):=by
 obtain ⟨nZ,n0,n3,nn,nw,en⟩:=AA ns
 obtain ⟨ps,PF,hp0,hp8,ep⟩:=xB ns first nZ.length (by lia)
 have OH:=AE ps
 have K9:dk (.tup (nZ.map D.str))=true:=by rw [cK,PV.flat_strs]
 have Nj:dk .non=true:=rfl
 have Kn:∀ (x y:List D),flatDs [.lst x,.lst y]=false:=fun _ _=>rfl
 unfold dZ mV
 rw [bh (h:=by rfl)]
 rw [au (env':=[some (.f,.lst (ns.map D.int)),some (.f,.int (first:Int)),some (.f,.tup (nZ.map D.str)),none,none,none,none]) (by simp only [pv,seval,op,en,K9])]
 rw [au (env':=[some (.f,.lst (ns.map D.int)),some (.f,.int (first:Int)),some (.f,.tup (nZ.map D.str)),some (.f,.int (nZ.length:Int)),none,none,none]) (by simp only [pv,seval,op,a8])]
 rw [au (env':=[some (.f,.lst (ns.map D.int)),some (.f,.int (first:Int)),some (.f,.tup (nZ.map D.str)),some (.f,.int (nZ.length:Int)),some (.l .f,.lst (ps.map eP)),none,none]) (by simp only [pv,seval,op,ep,OH])]
 rcases AD nZ n3 ps (by lia) PF with ⟨S,A,m,r,hA,er⟩ | ⟨er,_⟩
 ·refine ⟨nZ,ps,S,A,⟨n0,n3,nn,nw,hp0,by lia,PF,hA,m,r⟩,?_,er⟩
  unfold eN at er ⊢
  simp only [pv,seval,op,er,Kn,fO,o_isnT,Dm,Dn]
 ·unfold eN at er
  rw [au (env':=[some (.f,.lst (ns.map D.int)),some (.f,.int (first:Int)),some (.f,.tup (nZ.map D.str)),some (.f,.int (nZ.length:Int)),some (.f,.lst (ps.map eP)),none,none]) (by simp only [pv,seval,op,er,Nj,rU,fO])]
  have c1:=jH nZ 1
  have c0:=jH nZ 0
  have l1:((nZ.map fun _=>(1:Int)).map D.int).length<=sizeLine:=aN (by rw [a8,a8];lia)
  have l0:((nZ.map fun _=>(0:Int)).map D.int).length<=sizeLine:=aN (by rw [a8,a8];lia)
  have f1:=FD (nZ.map fun _=>(1:Int))
  have f0:=FD (nZ.map fun _=>(0:Int))
  rw [au (env':=[some (.f,.lst (ns.map D.int)),some (.f,.int (first:Int)),some (.f,.tup (nZ.map D.str)),some (.f,.int (nZ.length:Int)),some (.f,.lst (ps.map eP)),some (.f,.tup ((nZ.map fun _=>(1:Int)).map D.int)),none]) (by simp only [pv,seval,op,c1,l1,f1])]
  rw [au (env':=[some (.f,.lst (ns.map D.int)),some (.f,.int (first:Int)),some (.f,.tup (nZ.map D.str)),some (.f,.int (nZ.length:Int)),some (.f,.lst (ps.map eP)),some (.f,.tup ((nZ.map fun _=>(1:Int)).map D.int)),some (.f,.tup ((nZ.map fun _=>(0:Int)).map D.int))]) (by simp only [pv,seval,op,c0,l0,f0])]
  have L9:∀ b:Int,(ps++[oC nZ b]).map eP=ps.map eP++[.tup [.int b,.tup ((nZ.map fun _=>(1:Int)).map D.int),.tup ((nZ.map fun _=>(0:Int)).map D.int)]]:=fun b=>by
   rw [List.map_append]
   rfl
  have LU:∀ b:Int,∀ p∈ps++[oC nZ b],Kc p nZ.length:=fun b p hp=>by
   rcases kN hp with hp | hp
   ·exact PF p hp
   ·rw [kM hp]
    exact ⟨a8 _,a8 _⟩
  have JY:∀ b:Int,(ps++[oC nZ b]).length<=9:=fun b=>by
   rw [i6,List.length_singleton]
   lia
  have Ob:∀ b:Int,ps++[oC nZ b]≠[]:=fun b h=>by simp at h
  have PH:=fun d=>Fv ps (by lia) d
  have lo:((ps.map eP).length)<=100:=by rw [a8];lia
  rcases AD nZ n3 (ps++[oC nZ 2]) (by have:=JY 2;lia) (LU 2) with ⟨S,A,m,r,hA,er2⟩ | ⟨er2,_⟩
  ·refine ⟨nZ,ps++[oC nZ 2],S,A,⟨n0,n3,nn,nw,Ob 2,JY 2,LU 2,hA,m,r⟩,?_,er2⟩
   unfold eN at er2 ⊢
   rw [L9] at er2 ⊢
   simp only [pv,seval,op,PH,er2,Kn,fO,o_isnT,Dm,Dn]
  ·rcases AD nZ n3 (ps++[oC nZ 1]) (by have:=JY 1;lia) (LU 1) with ⟨S,A,m,r,hA,er3⟩ | ⟨_,S,A,m,r,h8⟩
   ·refine ⟨nZ,ps++[oC nZ 1],S,A,⟨n0,n3,nn,nw,Ob 1,JY 1,LU 1,hA,m,r⟩,?_,er3⟩
    unfold eN at er2 ⊢
    rw [L9] at er2 ⊢
    rw [au (env':=[some (.f,.lst (ns.map D.int)),some (.f,.int (first:Int)),some (.f,.tup (nZ.map D.str)),some (.f,.int (nZ.length:Int)),some (.f,.lst (ps.map eP)),some (.f,.tup ((nZ.map fun _=>(1:Int)).map D.int)),some (.f,.tup ((nZ.map fun _=>(0:Int)).map D.int))]) (by simp only [pv,seval,op,PH,er2,Nj,rU,fO])]
    simp only [pv,seval,op,PH]
   ·have:=xC r
    lia
theorem Nt.ra {nZ:LNN} {ps:List Pl} {S:List (List Int)} {A:List FK} (n:Nt nZ ps S A):Ra nZ A S.length:=by
 obtain ⟨m,r⟩:=n.rm
 have h8:=r.le
 have HX:=n.al
 have h0:=(j0 r.z).1
 refine ⟨by lia,by lia,fun a ha=>?_,fun a ha=>(r.ab a ha).1,r.rc⟩
 obtain ⟨_,i,j,_,e1,e2,s,t,hs,ht,_⟩:=r.ab a ha
 have h1:=(j0 hs).1
 have h2:=(j0 ht).1
 lia
noncomputable def wD (w:LNN):D:=.tup (w.map D.str)
theorem C5 (w:LNN) (m:List Nat):AW (w.map D.str) [.str m]=.ok (.f,.int ((w.count m:Nat):Int)):=by
 unfold AW
 dsimp only
 rw [eZ]
noncomputable def row (nZ w:LNN):List Int:=nZ.map fun m=>((w.count m:Nat):Int)
theorem ma (nZ w:LNN) (hl:nZ.length<=1000):de [.tup (nZ.map D.str),.tup (w.map D.str)]=.ok (.f,.tup ((row nZ w).map D.int)):=by
 unfold de pM
 rw [bh (h:=by rfl)]
 have hc:b5 (ax 0) cN (xl AW (ao 1) (ag (ao 0) aA)) (nZ.map D.str) [none,some (.f,.tup (w.map D.str))]=.ok ((row nZ w).map D.int):=by
  rw [aV (r:=fun m:List Nat=>D.int ((w.count m:Nat):Int)) (fun env=>∃ t1,env=[t1,some (.f,.tup (w.map D.str))]) nZ ?_ _ ⟨_,rfl⟩]
  ·unfold row
   rw [List.map_map]
   rfl
  ·rintro m _ env ⟨t1,rfl⟩
   refine ⟨[some (.f,.str m),some (.f,.tup (w.map D.str))],rfl,?_⟩
   simp only [pv,seval,op,C5]
   exact ⟨_,_,rfl,_,rfl⟩
 simp only [pv,seval,op,hc]
 rw [if_pos (aN (by unfold row;rw [a8,a8];lia))]
 simp only [pv,seval,op]
theorem AF (ws:List (LNN)):flatDs (ws.map wD)=true:=by
 rw [bH,List.all_map,List.all_eq_true]
 intro s _
 show dk (.tup _)=true
 rw [cK,PV.flat_strs]
theorem C6 (l:List (Int×Int)) (hl:l.length<=1000):lH [.tup (l.map fun p=>.int p.1),.tup (l.map fun p=>.int p.2)]=.ok (.f,.tup ((l.map fun p=>p.1 - p.2).map D.int)):=by
 unfold lH yq
 rw [bh (h:=by rfl)]
 have ez:((l.map fun p=>D.int p.1).zip (l.map fun p=>D.int p.2)).map (fun z=>D.tup [z.1,z.2])=l.map fun p=>D.tup [.int p.1,.int p.2]:=by
  rw [List.zip_map',List.map_map]
  rfl
 have hc:b5 (fW 2 (aB (ax 0) (aB (ax 1) cq))) cN (aD k8 (ao 0) (ao 1)) (l.map fun p=>D.tup [.int p.1,.int p.2]) [none,none]=.ok ((l.map fun p=>p.1 - p.2).map D.int):=by
  rw [aV (r:=fun p:Int×Int=>D.int (p.1 - p.2)) (fun env=>∃ t1 t2,env=[t1,t2]) l ?_ _ ⟨_,_,rfl⟩]
  ·rw [List.map_map]
   rfl
  ·rintro p _ env ⟨t1,t2,rfl⟩
   refine ⟨_,qC _ _ t1 t2 [],?_⟩
   simp only [pv,seval,op]
   exact ⟨_,_,rfl,_,_,rfl⟩
 simp only [pv,seval,op,ez,hc]
 rw [if_pos (aN (by rw [a8,a8];lia))]
 simp only [pv,seval,op]
noncomputable def tP (nZ:LNN) (N:List Nd) (a:FK):List Int:=(nZ.map fun m=>((((bF N a.1++[a.2.1]).count m:Nat):Int),(((bF N a.2.2).count m:Nat):Int))).map fun p=>p.1 - p.2
theorem AG (nZ w w':LNN) (hl:nZ.length<=1000):lH [.tup ((row nZ w).map D.int),.tup ((row nZ w').map D.int)]=.ok (.f,.tup (((nZ.map fun m=>(((w.count m:Nat):Int),((w'.count m:Nat):Int))).map fun p=>p.1 - p.2).map D.int)):=by
 have h:=C6 (nZ.map fun m=>(((w.count m:Nat):Int),((w'.count m:Nat):Int))) (by rw [a8];exact hl)
 rw [<-h]
 unfold row
 rw [List.map_map,List.map_map,List.map_map,List.map_map]
 rfl
theorem vY {N:List Nd} {many:Nat} {s:Int} (h0:0<=s) (h:s < (many:Int)):Gy (((List.range many).map fun (s:Nat)=>bF N (s:Int)).map wD) s=some (.tup ((bF N s).map D.str)):=by
 obtain ⟨k,rfl⟩:=Int.eq_ofNat_of_zero_le h0
 exact dB (by rw [List.getElem?_map,List.getElem?_map,List.getElem?_range (by lia)];rfl)
theorem mX (n:Nat) (aZ:List FK):plainDs (n + 3) (aZ.map eA)=true:=by
 induction aZ with
 | nil=>rfl
 | cons a l ih=>
  rw [eE,plainDs,ih]
  rfl
theorem sd (T:List FK) (a:FK):tN (eA a) (.lst (T.map eA))=.ok (.f,.bl (!decide (a∈T))):=by
 have e:tM (eA a) (T.map eA)=decide (a∈T):=by
  unfold tM
  rw [List.any_map,Bool.eq_iff_iff,List.any_eq_true,decide_eq_true_eq]
  constructor
  ·rintro ⟨x,hx,e⟩
   have e:eqD (eA x) (eA a)=true:=e
   rw [CQ,decide_eq_true_eq] at e
   rw [<-e]
   exact hx
  ·intro h
   refine ⟨a,h,?_⟩
   show eqD (eA a) (eA a)=true
   rw [CQ,decide_eq_true_eq]
 unfold tN Kj
 dsimp only
 rw [show plainD 40 (eA a)=true from rfl,mX 37 T,Bool.and_self,if_pos rfl,e]
 rfl
noncomputable def Iz (nZ:LNN) (N:List Nd) (T aZ:List FK):List (List Int):=(aZ.filter fun a=>!decide (a∈T)).map (tP nZ N)
theorem AH (nZ:LNN) (N:List Nd) (T l:List FK) (a:FK):Iz nZ N T (l++[a])=if a∈T then Iz nZ N T l else Iz nZ N T l++[tP nZ N a]:=by
 unfold Iz
 rw [List.filter_append,List.map_append]
 by_cases h:a∈T
 ·rw [if_pos h,List.filter_cons_of_neg (by simpa using h)]
  simp
 ·rw [if_neg h,List.filter_cons_of_pos (by simpa using h)]
  rfl
theorem vZ (nZ:LNN) (N:List Nd) (T l:List FK):(Iz nZ N T l).length<=l.length:=by
 unfold Iz
 rw [a8]
 exact List.length_filter_le _ _
theorem tG {nZ:LNN} {aZ:List FK} {N:List Nd} {T:List FK} {many:Nat} (ew:cS [eCh nZ aZ]=.ok (.l .f,.lst (((List.range many).map fun (s:Nat)=>bF N (s:Int)).map wD))) (et:c9 [.lst (aZ.map eA)]=.ok (.l .f,.lst (T.map eA)))
  (hb:∀ a∈aZ,(0<=a.1/\a.1 < (many:Int))/\0<=a.2.2/\a.2.2 < (many:Int)) (hw:∀ s:Int,(bF N s).length<=1000) (hn:nZ.length<=1000) (hl:aZ.length<=1000):dX [eCh nZ aZ]=.ok (.l .f,.lst ((Iz nZ N T aZ).map fun r=>D.tup (r.map D.int))):=by
 unfold dX mQ
 rw [bh (h:=by rfl)]
 have hf:=AF ((List.range many).map fun (s:Nat)=>bF N (s:Int))
 rw [au (env':=[some (.f,eCh nZ aZ),some (.l .f,.lst (((List.range many).map fun (s:Nat)=>bF N (s:Int)).map wD)),none,none,none]) (by simp only [pv,seval,op,ew,hf])]
 rw [au (env':=[some (.f,eCh nZ aZ),some (.l .f,.lst (((List.range many).map fun (s:Nat)=>bF N (s:Int)).map wD)),some (.l .f,.lst (T.map eA)),none,none]) (by unfold eCh;simp only [pv,seval,op,et,j3])]
 rw [au (env':=[some (.f,eCh nZ aZ),some (.l .f,.lst (((List.range many).map fun (s:Nat)=>bF N (s:Int)).map wD)),some (.l .f,.lst (T.map eA)),some (.l .f,.lst []),none]) (by simp only [pv,seval,op])]
 obtain ⟨env',ef,t4,rfl⟩:=for_list (a:=ax 4) (g:=gu) (e:=eA) aZ (fun j env=>∃ t4,env=[some (.f,eCh nZ aZ),some (.l .f,.lst (((List.range many).map fun (s:Nat)=>bF N (s:Int)).map wD)),some (.l .f,.lst (T.map eA)),some (.l .f,.lst ((Iz nZ N T (aZ.take j)).map fun r=>D.tup (r.map D.int))),t4]) (by
  rintro j a env hj ⟨t4,rfl⟩
  have Kl:=List.mem_of_getElem? hj
  have HZ:=hb a Kl
  have ht:aZ.take (j + 1)=aZ.take j++[a]:=by rw [List.take_add_one,hj];rfl
  refine ⟨[some (.f,eCh nZ aZ),some (.l .f,.lst (((List.range many).map fun (s:Nat)=>bF N (s:Int)).map wD)),some (.l .f,.lst (T.map eA)),some (.l .f,.lst ((Iz nZ N T (aZ.take j)).map fun r=>D.tup (r.map D.int))),some (.f,eA a)],rfl,_,?_,some (.f,eA a),rfl⟩
  have OJ:=sd T a
  rw [ht,AH]
  unfold gu
  by_cases h:a∈T
  ·rw [if_pos h]
   simp only [pv,seval,op,OJ,h,decide_true,Bool.not_true,fO]
  ·rw [if_neg h]
   have w1:=vY (N:=N) (many:=many) (s:=a.1) HZ.1.1 HZ.1.2
   have w2:=vY (N:=N) (many:=many) (s:=a.2.2) HZ.2.1 HZ.2.2
   have hz:((Iz nZ N T (aZ.take j)).map fun r=>D.tup (r.map D.int)).length < sizeLine:=gL (by
    have:=vZ nZ N T (aZ.take j)
    rw [List.length_take] at this
    rw [a8]
    lia)
   have hr:=AG nZ (bF N a.1++[a.2.1]) (bF N a.2.2) hn
   have OK:=ma nZ (bF N a.1++[a.2.1]) hn
   have Hf:=ma nZ (bF N a.2.2) hn
   have ha:=EI (bF N a.1) a.2.1 (hw _)
   have hrr:((nZ.map fun m=>((((bF N a.1++[a.2.1]).count m:Nat):Int),(((bF N a.2.2).count m:Nat):Int))).map fun p=>p.1 - p.2)=tP nZ N a:=rfl
   rw [hrr] at hr
   rw [List.map_append,eE,List.map_nil]
   generalize ((Iz nZ N T (aZ.take j)).map fun r=>D.tup (r.map D.int))=RR at hz ⊢
   generalize (((List.range many).map fun (s:Nat)=>bF N (s:Int)).map wD)=WW at w1 w2 ⊢
   generalize ((bF N a.1++[a.2.1]).map D.str)=WA at ha OK
   generalize (row nZ (bF N a.1++[a.2.1]))=R1 at hr OK
   generalize (row nZ (bF N a.2.2))=R2 at hr Hf
   generalize T.map eA=TT at OJ ⊢
   unfold eCh
   rw [show eA a=.tup [.int a.1,.str a.2.1,.int a.2.2] from rfl] at OJ ⊢
   simp only [pv,seval,op,OJ,h,decide_false,Bool.not_false,w1,w2,at2,ha,OK,Hf,hr,hz]) _ ⟨none,rfl⟩
 rw [List.take_length] at ef
 rw [au (env':=_) (by
  unfold kh
  unfold eCh at ef ⊢
  simp only [pv,seval,op]
  exact ef)]
 unfold jr
 simp only [pv,seval,op]
theorem yu (nZ:LNN) (N:List Nd) (many:Nat):flatDs ((List.range many).map fun (s:Nat)=>D.tup ((row nZ (bF N (s:Int))).map D.int))=true:=by
 rw [bH,List.all_map,List.all_eq_true]
 intro s _
 show dk (.tup _)=true
 rw [cK,FD]
theorem C7 (N:List Nd) (many:Nat):flatDs ((List.range many).map fun (s:Nat)=>D.tup ((bF N (s:Int)).map D.str))=true:=by
 rw [bH,List.all_map,List.all_eq_true]
 intro s _
 show dk (.tup _)=true
 rw [cK,PV.flat_strs]
theorem qJ {nZ:LNN} {aZ:List FK} {N:List Nd} {many:Nat} (hm:many<=12) (hl:nZ.length<=1000) (ew:cS [eCh nZ aZ]=.ok (.l .f,.lst ((List.range many).map fun (s:Nat)=>D.tup ((bF N (s:Int)).map D.str)))):dn [eCh nZ aZ]=.ok (.l .f,.lst ((List.range many).map fun (s:Nat)=>D.tup ((row nZ (bF N (s:Int))).map D.int))):=by
 unfold dn lN
 rw [bh (h:=by rfl)]
 have hc:b5 (ax 0) cN (cH de (ag (aq (aD FW (ao 1) (aq (aJ (.int 0))))) (ag (ao 0) aA))) ((List.range many).map fun (s:Nat)=>D.tup ((bF N (s:Int)).map D.str)) [none,some (.f,eCh nZ aZ)]=.ok ((List.range many).map fun (s:Nat)=>D.tup ((row nZ (bF N (s:Int))).map D.int)):=by
  refine aV (r:=fun s:Nat=>D.tup ((row nZ (bF N (s:Int))).map D.int)) (fun env=>∃ t1,env=[t1,some (.f,eCh nZ aZ)]) (List.range many) ?_ _ ⟨_,rfl⟩
  rintro s _ env ⟨t1,rfl⟩
  refine ⟨[some (.f,.tup ((bF N (s:Int)).map D.str)),some (.f,eCh nZ aZ)],rfl,?_⟩
  unfold eCh
  simp only [pv,seval,op,ma nZ _ hl]
  exact ⟨_,_,rfl,_,rfl⟩
 simp only [pv,seval,op,ew,C7]
 rw [hc,GR,if_pos (aN (by rw [a8,List.length_range];lia)),yu]
 simp only [pv,seval,op]
noncomputable def pr (x y:List Int):Int:=((x.zip y).map fun p=>p.1 * p.2).sum
theorem pZ (x y:List Int) (hl:y.length<=1000) (hs:∀ v∈y,cI v=true):cE [.tup (x.map D.int),.tup (y.map D.int)]=.ok (.f,.int (pr x y)):=by
 unfold cE pJ
 rw [bh (h:=by rfl)]
 have hc:b5 (fW 2 (aB (ax 0) (aB (ax 1) cq))) cN (aD jR (ao 0) (ao 1)) ((x.zip y).map fun z=>D.tup [D.int z.1,D.int z.2]) [none,none]=.ok (((x.zip y).map fun p=>p.1 * p.2).map D.int):=by
  rw [aV (r:=fun z:Int×Int=>D.int (z.1 * z.2)) (fun env=>∃ t u,env=[t,u]) (x.zip y) ?_ _ ⟨none,none,rfl⟩]
  ·rw [List.map_map]
   rfl
  ·rintro z hz env ⟨t,u,rfl⟩
   have Px:=(List.of_mem_zip (show (z.1,z.2)∈x.zip y from hz)).2
   refine ⟨[some (.f,.int z.1),some (.f,.int z.2)],rfl,.f,[some (.f,.int z.1),some (.f,.int z.2)],?_,_,_,rfl⟩
   simp only [pv,seval,op,Dp z.1 z.2 (hs _ Px)]
 have hlen:(((x.zip y).map fun p=>p.1 * p.2).map D.int).length<=sizeLine:=aN (by
  rw [a8,a8,List.length_zip]
  lia)
 have Iy:=FD ((x.zip y).map fun p=>p.1 * p.2)
 simp only [pv,seval,op,jG,hc,hlen,Iy,CP]
 rfl
theorem dN (a b:Int) (r s:List Int):pr (a :: r) (b :: s)=a * b + pr r s:=by
 unfold pr
 rw [List.zip_cons_cons,eE,List.sum_cons]
theorem v5 (w:LNN) (m:List Nat):∀ (nZ:LNN) (uZ:List Int),nZ.Nodup->uZ.length=nZ.length->m∈nZ->pr uZ (row nZ (w++[m]))=pr uZ (row nZ w) + uZ.getD (nZ.idxOf m) 0
 | [],_,_,_,h=>nomatch h
 | x :: nZ,[],_,h,_=>by simp at h
 | x :: nZ,b :: uZ,nd,hl,hm=>by
  have nd:=List.nodup_cons.mp nd
  have e1:∀ v:LNN,row (x :: nZ) v=((v.count x:Nat):Int) :: row nZ v:=fun v=>rfl
  rw [e1,e1,dN,dN]
  by_cases hx:x=m
  ·subst hx
   have e2:row nZ (w++[x])=row nZ w:=by
    unfold row
    refine List.map_congr_left fun y hy=>?_
    have hne:y≠x:=fun h=>nd.1 (h▸hy)
    rw [List.count_append,List.count_cons_of_ne (fun h=>hne h.symm),List.count_nil,Nat.add_zero]
   rw [e2,List.count_append,List.count_singleton_self,List.idxOf_cons_self,List.getD_cons_zero]
   have:(((w.count x + 1:Nat)):Int)=(w.count x:Int) + 1:=by lia
   rw [this,Int.mul_add]
   lia
  ·have hm:=(List.mem_cons.mp hm).resolve_left fun h=>hx h.symm
   have ih:=v5 w m nZ uZ nd.2 (by simpa using hl) hm
   rw [ih,List.count_append,List.count_cons_of_ne (fun h=>hx h.symm),List.count_nil,Nat.add_zero,List.idxOf_cons,beq_false_of_ne hx,cond_false,List.getD_cons_succ]
   lia
theorem yv:∀ (uZ:List Int) (l:List (Int×Int)),pr uZ (l.map fun p=>p.1 - p.2)=pr uZ (l.map fun p=>p.1) - pr uZ (l.map fun p=>p.2)
 | [],l=>rfl
 | b :: uZ,[]=>rfl
 | b :: uZ,p :: l=>by
  rw [eE,eE,eE,dN,dN,dN,yv uZ l,Int.mul_sub]
  lia
theorem AI (nZ:LNN) (N:List Nd) (a:FK) (uZ:List Int) (nd:nZ.Nodup) (hl:uZ.length=nZ.length) (hm:a.2.1∈nZ):pr uZ (tP nZ N a)=pr uZ (row nZ (bF N a.1)) + uZ.getD (nZ.idxOf a.2.1) 0 - pr uZ (row nZ (bF N a.2.2)):=by
 rw [<-v5 _ _ nZ uZ nd hl hm]
 unfold tP
 rw [yv,List.map_map,List.map_map]
 rfl
theorem v7:∀ (nZ:LNN) (uZ:List Int),pr uZ (row nZ [])=0
 | [],uZ=>by
  unfold pr row
  rw [List.map_nil,List.zip_nil_right]
  rfl
 | x :: nZ,[]=>rfl
 | x :: nZ,b :: uZ=>by
  show pr (b :: uZ) (((0:Nat):Int) :: row nZ [])=0
  rw [dN,v7 nZ uZ]
  simp
structure Ck (nZ:LNN) (aZ:List FK) (many:Nat) (N:List Nd) (T:List FK):Prop where
 m1:1<=many/\many<=12
 nn:nZ.Nodup
 n3:nZ.length<=1000
 al:aZ.length<=60
 nm:∀ a∈aZ,a.2.1∈nZ
 hb:∀ a∈aZ,(0<=a.1/\a.1 < (many:Int))/\0<=a.2.2/\a.2.2 < (many:Int)
 hw:∀ s:Int,(bF N s).length<=1000
 F:Found aZ N
 all:∀ s:Int,0<=s->s < (many:Int)->s∈N.map (·.1)
 er:dX [eCh nZ aZ]=.ok (.l .f,.lst ((Iz nZ N T aZ).map fun r=>D.tup (r.map D.int)))
 ec:dn [eCh nZ aZ]=.ok (.l .f,.lst ((List.range many).map fun (s:Nat)=>D.tup ((row nZ (bF N (s:Int))).map D.int)))
theorem Ra.states {nZ:LNN} {as:List FK} {many:Nat} (r:Ra nZ as many):bu as=(many:Int):=by
 have hm:=r.mm
 have h1:=pW hm.1 r.bd
 by_cases h:many=1
 ·lia
 ·obtain ⟨a,ha,e,_⟩:=r.rc (many - 1) (by lia) (by lia)
  have:=vT ha
  lia
theorem Ra.ck {nZ:LNN} {as:List FK} {many:Nat} (r:Ra nZ as many) (nn:nZ.Nodup) (n3:nZ.length<=1000):∃ N T,Ck nZ as many N T:=by
 have C:=r.ch
 have JS:=r.states
 have HX:=C.al
 have hm:=r.mm
 obtain ⟨N,T,b,JL,et,PJ⟩:=vP nZ as (by lia) (fun a ha=>(C.bd a ha).2) C.all (by lia)
 have F:=b.found
 have M9:∀ s:Int,(bF N s).length<=1000:=by
  intro s
  unfold bF
  cases hf:(N.find? fun n=>n.1 == s) with
  | none=>exact Nat.zero_le _
  | some n=>
   have:=F.wl n (List.mem_of_find?_eq_some hf)
   show n.2.length<=1000
   lia
 have em:(bu as).toNat=many:=by lia
 rw [em] at PJ
 have e2:=qJ (by lia) n3 PJ
 have eww2:cS [eCh nZ as]=.ok (.l .f,.lst (((List.range many).map fun (s:Nat)=>bF N (s:Int)).map wD)):=by
  rw [PJ,List.map_map]
  rfl
 have e1:=tG eww2 et r.bd M9 n3 (by lia)
 exact ⟨N,T,hm,nn,n3,HX,r.nm,r.bd,M9,F,fun s h0 h1=>C.all N F s h0 (by lia),e1,e2⟩
theorem tH (nZ:LNN) (N:List Nd) (a:FK) (hw:∀ s:Int,(bF N s).length<=1000):∀ x∈tP nZ N a,cI x=true:=by
 intro x hx
 unfold tP at hx
 obtain ⟨p,hp,rfl⟩:=i5 hx
 obtain ⟨m,_,rfl⟩:=i5 hp
 have h1:=List.count_le_length (a:=m) (l:=bF N a.1++[a.2.1])
 have h2:=List.count_le_length (a:=m) (l:=bF N a.2.2)
 have h3:=hw a.1
 have h4:=hw a.2.2
 rw [i6,List.length_singleton] at h1
 refine lZ _ ?_ ?_ <;> dsimp only <;> lia
theorem v9 (nZ w:LNN) (hw:w.length<=1000):∀ x∈row nZ w,cI x=true:=by
 intro x hx
 unfold row at hx
 obtain ⟨m,_,rfl⟩:=i5 hx
 have h1:=List.count_le_length (a:=m) (l:=w)
 exact vK _ (by lia)
theorem wa (rows:List (List Int)):flatDs (rows.map fun r=>D.tup (r.map D.int))=true:=by
 rw [bH,List.all_map,List.all_eq_true]
 intro s _
 show dk (.tup _)=true
 rw [cK,FD]
noncomputable def th (nZ:LNN) (N:List Nd) (uZ:List Int) (s:Int):Int:=pr uZ (row nZ (bF N s))
theorem yw (bs:List Bool):AV [.lst (bs.map D.bl)]=.ok (.f,.bl (bs.any id)):=by
 unfold AV
 show (match mr (bs.map D.bl) with | some bs=>_ | none=>_)=_
 rw [ph]
section
variable {nZ:LNN} {aZ:List FK} {many:Nat} {N:List Nd} {T:List FK}
theorem Ck.has_arcs (c:Ck nZ aZ many N T) (m:List Nat):du [eCh nZ aZ,.str m]=.ok (.f,.bl (aZ.any fun a=>a.2.1 == m)):=by
 have HX:=c.al
 unfold du mR
 rw [bh (h:=by rfl)]
 have hc:b5 (fW 3 (aB (ax 0) (aB (ax 1) (aB (ax 2) cq)))) cN (bq Hd (ao 1) (ao 3)) (aZ.map eA) [none,none,none,some (.f,.str m)]=.ok ((aZ.map fun a=>a.2.1 == m).map D.bl):=by
  rw [aV (r:=fun a:FK=>D.bl (a.2.1 == m)) (fun env=>∃ t u v,env=[t,u,v,some (.f,.str m)]) aZ ?_ _ ⟨none,none,none,rfl⟩]
  ·rw [List.map_map]
   rfl
  ·rintro a _ env ⟨t,u,v,rfl⟩
   refine ⟨[some (.f,.int a.1),some (.f,.str a.2.1),some (.f,.int a.2.2),some (.f,.str m)],by unfold eA;simp only [pv,seval],.f,[some (.f,.int a.1),some (.f,.str a.2.1),some (.f,.int a.2.2),some (.f,.str m)],?_,_,_,_,rfl⟩
   simp only [pv,seval,op]
 have hlen:((aZ.map fun a=>a.2.1 == m).map D.bl).length<=sizeLine:=aN (by rw [a8,a8];lia)
 have Iy:=oi (aZ.map fun a=>a.2.1 == m)
 unfold eCh
 generalize (bq Hd (ao 1) (ao 3))=GG at hc ⊢
 simp only [pv,seval,op,hc,hlen,Iy,yw,List.any_map]
 rfl
theorem Ck.stretch (c:Ck nZ aZ many N T) (uZ:List Int) (h1:∀ a∈aZ,pr uZ (tP nZ N a)=0) (h2:∀ z∈nZ.zip uZ,z.2=0\/∃ a∈aZ,a.2.1=z.1):bO [eCh nZ aZ,.tup (uZ.map D.int)]=.ok (.f,.bl true):=by
 have HX:=c.al
 have MW:=c.n3
 have Qs:=vZ nZ N T aZ
 have Kn:=wa (Iz nZ N T aZ)
 have er:=c.er
 unfold bO ki
 rw [bh (h:=by rfl)]
 have hc:b5 (ax 0) cN (bq Jb (aq (cH cE (ag (ao 1) (ag (ao 0) aA)))) (aq (aJ (.int 0)))) ((Iz nZ N T aZ).map fun r=>D.tup (r.map D.int)) [none,some (.f,.tup (uZ.map D.int))]=.ok (((Iz nZ N T aZ).map fun _=>false).map D.bl):=by
  rw [aV (e:=fun r:List Int=>D.tup (r.map D.int)) (r:=fun _:List Int=>D.bl false) (fun env=>∃ t,env=[t,some (.f,.tup (uZ.map D.int))]) (Iz nZ N T aZ) ?_ _ ⟨none,rfl⟩]
  ·rw [List.map_map]
   rfl
  ·rintro r hr env ⟨t,rfl⟩
   obtain ⟨a,ha,rfl⟩:=i5 hr
   have ha:=(List.mem_filter.mp ha).1
   have hp:=pZ uZ (tP nZ N a) (by unfold tP;rw [a8,a8];exact MW) (tH nZ N a c.hw)
   rw [h1 a ha] at hp
   refine ⟨[some (.f,.tup ((tP nZ N a).map D.int)),some (.f,.tup (uZ.map D.int))],rfl,.f,[some (.f,.tup ((tP nZ N a).map D.int)),some (.f,.tup (uZ.map D.int))],?_,_,rfl⟩
   simp only [pv,seval,op,hp]
   rfl
 have hlen:(((Iz nZ N T aZ).map fun _=>false).map D.bl).length<=sizeLine:=aN (by rw [a8,a8];lia)
 have Iy:=oi ((Iz nZ N T aZ).map fun _=>false)
 have Lk:((Iz nZ N T aZ).map fun _=>false).any id=false:=by
  rw [List.any_map,List.any_eq_false]
  intro x _
  exact Bool.false_ne_true
 rw [au (env':=[some (.f,eCh nZ aZ),some (.f,.tup (uZ.map D.int))]) (by
  generalize (bq Jb (aq (cH cE (ag (ao 1) (ag (ao 0) aA)))) (aq (aJ (.int 0))))=GG at hc ⊢
  generalize ((Iz nZ N T aZ).map fun r=>D.tup (r.map D.int))=RR at er hc Kn
  generalize ((Iz nZ N T aZ).map fun _=>false)=BB at hc hlen Iy Lk
  simp only [pv,seval,op,er,Kn,hc,hlen,Iy,yw,Lk,fO])]
 have Hf:b5 (fW 2 (aB (ax 0) (aB (ax 1) cq))) cN (NJ (bq Hd (ao 1) (aq (aJ (.int 0)))) (cH du (ag (ao 2) (ag (ao 0) aA)))) ((nZ.zip uZ).map fun z=>D.tup [D.str z.1,D.int z.2]) [none,none,some (.f,eCh nZ aZ)]=.ok (((nZ.zip uZ).map fun _=>true).map D.bl):=by
  rw [aV (e:=fun z:List Nat×Int=>D.tup [D.str z.1,D.int z.2]) (r:=fun _:List Nat×Int=>D.bl true) (fun env=>∃ t u,env=[t,u,some (.f,eCh nZ aZ)]) (nZ.zip uZ) ?_ _ ⟨none,none,rfl⟩]
  ·rw [List.map_map]
   rfl
  ·rintro z hz env ⟨t,u,rfl⟩
   have hh:=c.has_arcs z.1
   refine ⟨[some (.f,.str z.1),some (.f,.int z.2),some (.f,eCh nZ aZ)],rfl,.f,[some (.f,.str z.1),some (.f,.int z.2),some (.f,eCh nZ aZ)],?_,_,_,rfl⟩
   by_cases h0:z.2=0
   ·have e0:(z.2 == 0)=true:=beq_iff_eq.mpr h0
    simp only [pv,seval,op,e0]
   ·have e0:(z.2 == 0)=false:=beq_eq_false_iff_ne.mpr h0
    obtain ⟨a,ha,e⟩:=(h2 z hz).resolve_left h0
    have e1:(aZ.any fun a=>a.2.1 == z.1)=true:=List.any_eq_true.mpr ⟨a,ha,beq_iff_eq.mpr e⟩
    rw [e1] at hh
    simp only [pv,seval,op,e0,hh]
 have Im:(((nZ.zip uZ).map fun _=>true).map D.bl).length<=sizeLine:=aN (by rw [a8,a8,List.length_zip];lia)
 have Kd:=oi ((nZ.zip uZ).map fun _=>true)
 have GJ:((nZ.zip uZ).map fun _=>true).all id=true:=by
  rw [List.all_map,List.all_eq_true]
  exact fun _ _=>rfl
 generalize ((nZ.zip uZ).map fun _=>true)=BB at Hf Im Kd GJ
 unfold eCh at Hf ⊢
 generalize (NJ (bq Hd (ao 1) (aq (aJ (.int 0)))) (cH du (ag (ao 2) (ag (ao 0) aA))))=GG at Hf ⊢
 simp only [pv,seval,op,jG,Hf,Im,Kd,GJ]
theorem ik:∀ (l:List Int) (b:Int),l.foldl min b<=b/\(∀ x∈l,l.foldl min b<=x)/\(l.foldl min b=b\/l.foldl min b∈l)
 | [],b=>⟨Int.le_refl _,(fun _ h=>nomatch h),.inl rfl⟩
 | a :: l,b=>by
  obtain ⟨h1,h2,h3⟩:=ik l (min b a)
  rw [List.foldl_cons]
  refine ⟨by lia,fun x hx=>?_,?_⟩
  ·rcases List.mem_cons.mp hx with rfl | hx
   ·lia
   ·exact h2 x hx
  ·rcases h3 with h3 | h3
   ·by_cases HZ:b<=a
    ·left
     rw [h3]
     lia
    ·right
     rw [h3]
     exact List.mem_cons.mpr (.inl (by lia))
   ·exact .inr (List.mem_cons_of_mem _ h3)
theorem oy {ns:List Int} {x:Int} (h:x∈ns):dR ns<=x:=(ik ns _).2.1 x h
theorem jI {ns:List Int} (h:ns≠[]):dR ns∈ns:=by
 unfold dR
 rcases (ik ns (ns.headD 0)).2.2 with e | e
 ·rw [e]
  cases ns with
  | nil=>exact absurd rfl h
  | cons a l=>exact List.mem_cons_self
 ·exact e
theorem yx {l:List Int} (h:l≠[]):wt [.lst (l.map D.int)]=.ok (.f,.int (dR l)):=by
 unfold wt
 dsimp only
 rw [rV]
 cases l with
 | nil=>exact absurd rfl h
 | cons a l=>rfl
theorem yy {l:List Int} (h:l≠[]):maxD [.lst (l.map D.int)]=.ok (.f,.int (cU l)):=by
 unfold PV.maxD
 dsimp only
 rw [rV]
 cases l with
 | nil=>exact absurd rfl h
 | cons a l=>rfl
noncomputable def Hn (nZ:LNN) (N:List Nd) (uZ:List Int) (many:Nat):List Int:=(List.range many).map fun (s:Nat)=>th nZ N uZ (s:Int)
noncomputable def bds (nZ:LNN) (N:List Nd) (uZ:List Int) (many:Nat):List Int:=(Hn nZ N uZ many).map fun h=>h - dR (Hn nZ N uZ many)
theorem Ck.beads (c:Ck nZ aZ many N T) (uZ:List Int) (hs:bO [eCh nZ aZ,.tup (uZ.map D.int)]=.ok (.f,.bl true)):bC [eCh nZ aZ,.tup (uZ.map D.int)]=.ok (.l .f,.lst ((bds nZ N uZ many).map D.int)):=by
 have hm:=c.m1
 have MW:=c.n3
 have ec:=c.ec
 have Qt:=yu nZ N many
 unfold bC mS
 rw [bh (h:=by rfl)]
 rw [au (env':=[some (.f,eCh nZ aZ),some (.f,.tup (uZ.map D.int)),none]) (by simp only [pv,seval,op,hs,Bool.not_true,fO])]
 have hc:b5 (ax 0) cN (cH cE (ag (ao 1) (ag (ao 0) aA))) ((List.range many).map fun (s:Nat)=>D.tup ((row nZ (bF N (s:Int))).map D.int)) [none,some (.f,.tup (uZ.map D.int))]=.ok ((Hn nZ N uZ many).map D.int):=by
  rw [aV (r:=fun s:Nat=>D.int (th nZ N uZ (s:Int))) (fun env=>∃ t,env=[t,some (.f,.tup (uZ.map D.int))]) (List.range many) ?_ _ ⟨none,rfl⟩]
  ·unfold Hn
   rw [List.map_map]
   rfl
  ·rintro s _ env ⟨t,rfl⟩
   have hp:=pZ uZ (row nZ (bF N (s:Int))) (by unfold row;rw [a8];exact MW) (v9 nZ _ (c.hw _))
   refine ⟨[some (.f,.tup ((row nZ (bF N (s:Int))).map D.int)),some (.f,.tup (uZ.map D.int))],rfl,.f,[some (.f,.tup ((row nZ (bF N (s:Int))).map D.int)),some (.f,.tup (uZ.map D.int))],?_,_,rfl⟩
   simp only [pv,seval,op,hp]
   rfl
 have hhl:(Hn nZ N uZ many).length=many:=by unfold Hn;rw [a8,List.length_range]
 have hlen:((Hn nZ N uZ many).map D.int).length<=sizeLine:=aN (by rw [a8];lia)
 have hne:Hn nZ N uZ many≠[]:=fun h=>by rw [h,List.length_nil] at hhl;lia
 have Iy:=FD (Hn nZ N uZ many)
 rw [au (env':=[some (.f,eCh nZ aZ),some (.f,.tup (uZ.map D.int)),some (.l .f,.lst ((Hn nZ N uZ many).map D.int))]) (by
  generalize (cH cE (ag (ao 1) (ag (ao 0) aA)))=GG at hc ⊢
  generalize ((List.range many).map fun (s:Nat)=>D.tup ((row nZ (bF N (s:Int))).map D.int))=RR at ec hc Qt
  simp only [pv,seval,op,ec,Qt,hc,hlen,Iy])]
 unfold bds
 generalize Hn nZ N uZ many=hh at *
 have Jl:=yx hne
 have Hf:b5 (ax 0) cN (aD k8 (ao 0) (aq (a9 wt (ag (ao 1) aA)))) (hh.map D.int) [none,some (.f,.lst (hh.map D.int))]=.ok ((hh.map fun h=>h - dR hh).map D.int):=by
  rw [aV (r:=fun h:Int=>D.int (h - dR hh)) (fun env=>∃ t,env=[t,some (.f,.lst (hh.map D.int))]) hh ?_ _ ⟨none,rfl⟩]
  ·rw [List.map_map]
   rfl
  ·rintro x _ env ⟨t,rfl⟩
   refine ⟨[some (.f,.int x),some (.f,.lst (hh.map D.int))],rfl,.f,[some (.f,.int x),some (.f,.lst (hh.map D.int))],?_,_,rfl⟩
   simp only [pv,seval,op,Jl]
 have Im:((hh.map fun h=>h - dR hh).map D.int).length<=sizeLine:=aN (by rw [a8,a8];lia)
 have Kd:=FD (hh.map fun h=>h - dR hh)
 generalize (aD k8 (ao 0) (aq (a9 wt (ag (ao 1) aA))))=GG at Hf ⊢
 simp only [pv,seval,op,Hf,Im,Kd]
noncomputable def hv (B:Int->Int) (aZ:List FK) (m:List Nat):List Int:=(aZ.filter fun a=>a.2.1 == m).map fun a=>B a.1
noncomputable def tk (B:Int->Int) (aZ:List FK) (bs:List Int) (m:List Nat):Int:=NX.minD (hv B aZ m) (cU bs + 1)
theorem Ck.taken (c:Ck nZ aZ many N T) (B:Int->Int) (bs:List Int) (Oc:bs=(List.range many).map fun (s:Nat)=>B (s:Int)) (m:List Nat):gY [eCh nZ aZ,.lst (bs.map D.int),.str m]=.ok (.f,.int (tk B aZ bs m)):=by
 have hm:=c.m1
 have HX:=c.al
 have Nh:bs.length=many:=by rw [Oc,a8,List.length_range]
 have hne:bs≠[]:=fun h=>by rw [h,List.length_nil] at Nh;lia
 have hmax:=yy hne
 have Jk:∀ s:Int,0<=s->s < (many:Int)->Gy (bs.map D.int) s=some (.int (B s)):=fun s h0 h1=>by
  obtain ⟨k,rfl⟩:=Int.eq_ofNat_of_zero_le h0
  exact dB (by rw [Oc,List.getElem?_map,List.getElem?_map,List.getElem?_range (by lia)];rfl)
 unfold gY vB
 rw [bh (h:=by rfl)]
 have hc:b5 (fW 3 (aB (ax 0) (aB (ax 1) (aB (ax 2) cq)))) (Gg (bq Hd (ao 1) (ao 4))) (aD FW (ao 3) (ao 0)) (aZ.map eA) [none,none,none,some (.f,.lst (bs.map D.int)),some (.f,.str m)]=.ok ((hv B aZ m).map D.int):=by
  unfold hv
  rw [List.map_map]
  refine xt (e:=eA) (p:=fun a=>a.2.1 == m) (r:=fun a=>D.int (B a.1)) (fun env=>∃ t u v,env=[t,u,v,some (.f,.lst (bs.map D.int)),some (.f,.str m)]) aZ ?_ _ ⟨none,none,none,rfl⟩
  rintro a ha env ⟨t,u,v,rfl⟩
  have HZ:=(c.hb a ha).1
  refine ⟨[some (.f,.int a.1),some (.f,.str a.2.1),some (.f,.int a.2.2),some (.f,.lst (bs.map D.int)),some (.f,.str m)],by unfold eA;simp only [pv,seval],[some (.f,.int a.1),some (.f,.str a.2.1),some (.f,.int a.2.2),some (.f,.lst (bs.map D.int)),some (.f,.str m)],?_,?_⟩
  ·simp only [pv,seval,op]
  ·split
   ·refine ⟨.f,[some (.f,.int a.1),some (.f,.str a.2.1),some (.f,.int a.2.2),some (.f,.lst (bs.map D.int)),some (.f,.str m)],?_,_,_,_,rfl⟩
    simp only [pv,seval,op,Jk a.1 HZ.1 HZ.2]
   ·exact ⟨_,_,_,rfl⟩
 have hlen:((hv B aZ m).map D.int).length<=sizeLine:=aN (by
  unfold hv
  rw [a8,a8]
  have:=List.length_filter_le (fun a:FK=>a.2.1 == m) aZ
  lia)
 have Iy:=FD (hv B aZ m)
 rw [au (env':=[some (.f,eCh nZ aZ),some (.f,.lst (bs.map D.int)),some (.f,.str m),some (.l .f,.lst ((hv B aZ m).map D.int))]) (by
  unfold eCh
  generalize (Gg (bq Hd (ao 1) (ao 4)))=G1 at hc ⊢
  generalize (aD FW (ao 3) (ao 0))=G2 at hc ⊢
  simp only [pv,seval,op,hc,hlen,Iy])]
 unfold tk
 generalize hv B aZ m=hh
 simp only [pv,seval,op,Ap,hmax,Option.bind_some,jO]
theorem Ck.place (c:Ck nZ aZ many N T) (uZ:List Int) (B:Int->Int) (bs:List Int) (Oc:bs=(List.range many).map fun (s:Nat)=>B (s:Int)) (K7:bC [eCh nZ aZ,.tup (uZ.map D.int)]=.ok (.l .f,.lst (bs.map D.int))):eW [eCh nZ aZ,.tup (uZ.map D.int)]=.ok (.f,.tup [.int (B 0),.tup ((nZ.map (tk B aZ bs)).map D.int),.tup ((((nZ.map (tk B aZ bs)).zip uZ).map fun p=>p.1 + p.2).map D.int)]):=by
 have hm:=c.m1
 have MW:=c.n3
 have hfb:=FD bs
 have h0:Gy (bs.map D.int) 0=some (.int (B 0)):=by
  exact dB (j:=0) (by rw [Oc,List.getElem?_map,List.getElem?_map,List.getElem?_range (by lia)];rfl)
 unfold eW mT
 rw [bh (h:=by rfl)]
 rw [au (env':=[some (.f,eCh nZ aZ),some (.f,.tup (uZ.map D.int)),some (.l .f,.lst (bs.map D.int)),none]) (by simp only [pv,seval,op,K7,hfb])]
 have hc:b5 (ax 0) cN (cH gY (ag (ao 1) (ag (ao 2) (ag (ao 0) aA)))) (nZ.map D.str) [none,some (.f,eCh nZ aZ),some (.f,.lst (bs.map D.int))]=.ok ((nZ.map (tk B aZ bs)).map D.int):=by
  rw [aV (r:=fun m:List Nat=>D.int (tk B aZ bs m)) (fun env=>∃ t,env=[t,some (.f,eCh nZ aZ),some (.f,.lst (bs.map D.int))]) nZ ?_ _ ⟨none,rfl⟩]
  ·rw [List.map_map]
   rfl
  ·rintro m _ env ⟨t,rfl⟩
   have ht:=c.taken B bs Oc m
   refine ⟨[some (.f,.str m),some (.f,eCh nZ aZ),some (.f,.lst (bs.map D.int))],rfl,.f,[some (.f,.str m),some (.f,eCh nZ aZ),some (.f,.lst (bs.map D.int))],?_,_,rfl⟩
   simp only [pv,seval,op,ht]
 have htl:(nZ.map (tk B aZ bs)).length=nZ.length:=a8 _
 generalize nZ.map (tk B aZ bs)=ts at *
 have hlen:(ts.map D.int).length<=sizeLine:=aN (by rw [a8];lia)
 have Iy:=FD ts
 rw [au (env':=[some (.f,eCh nZ aZ),some (.f,.tup (uZ.map D.int)),some (.l .f,.lst (bs.map D.int)),some (.f,.tup (ts.map D.int))]) (by
  unfold eCh at hc ⊢
  generalize (cH gY (ag (ao 1) (ag (ao 2) (ag (ao 0) aA))))=GG at hc ⊢
  simp only [pv,seval,op,hc,hlen,Iy])]
 have Hf:b5 (fW 2 (aB (ax 0) (aB (ax 1) cq))) cN (aD cV (ao 0) (ao 1)) ((ts.zip uZ).map fun z=>D.tup [D.int z.1,D.int z.2]) [none,none]=.ok (((ts.zip uZ).map fun p=>p.1 + p.2).map D.int):=by
  rw [aV (r:=fun z:Int×Int=>D.int (z.1 + z.2)) (fun env=>∃ t u,env=[t,u]) (ts.zip uZ) ?_ _ ⟨none,none,rfl⟩]
  ·rw [List.map_map]
   rfl
  ·rintro z hz env ⟨t,u,rfl⟩
   refine ⟨[some (.f,.int z.1),some (.f,.int z.2)],rfl,.f,[some (.f,.int z.1),some (.f,.int z.2)],?_,_,_,rfl⟩
   simp only [pv,seval,op]
 have Im:(((ts.zip uZ).map fun p=>p.1 + p.2).map D.int).length<=sizeLine:=aN (by rw [a8,a8,List.length_zip];lia)
 have Kd:=FD ((ts.zip uZ).map fun p=>p.1 + p.2)
 generalize (aD cV (ao 0) (ao 1))=GG at Hf ⊢
 simp only [pv,seval,op,h0,jG,Hf,Im,Kd]
end
theorem for_all {α:Type} {a:FG} {g:FS} {e:α->D} {r:R} (P:PV.Env->Prop) (ok:α->Bool):∀ (l:List α),(∀ x∈l,∀ env,P env->∃ FC,a (e x) env=.ok FC/\if ok x then ∃ FL,g FC=.ok (.nx FL)/\P FL else g FC=.ok (.rt r))->
  ∀ env,P env->if l.all ok then ∃ env',kB a g (l.map e) env=.ok (.nx env')/\P env' else kB a g (l.map e) env=.ok (.rt r)
 | [],_,env,hp=>by rw [List.all_nil,if_pos rfl];exact ⟨env,rfl,hp⟩
 | x :: l,h,env,hp=>by
  obtain ⟨FC,h1,h2⟩:=h x List.mem_cons_self env hp
  rw [List.all_cons,eE,lY,h1,GR]
  cases hk:ok x with
  | false=>
   rw [hk,if_neg Bool.false_ne_true] at h2
   rw [Bool.false_and,if_neg Bool.false_ne_true,h2,GR]
  | true=>
   rw [hk,if_pos rfl] at h2
   obtain ⟨FL,h2,h3⟩:=h2
   rw [Bool.true_and,h2,GR]
   exact for_all P ok l (fun y hy=>h y (List.mem_cons_of_mem _ hy)) FL h3
section
variable {nZ:LNN} {aZ:List FK} {many:Nat} {N:List Nd} {T:List FK}
theorem Ck.pot (c:Ck nZ aZ many N T) (uZ:List Int) (hl:uZ.length=nZ.length) (f:Int->Int) (hf:∀ a∈aZ,f a.2.2=f a.1 + uZ.getD (nZ.idxOf a.2.1) 0):∀ s:Int,0<=s->s < (many:Int)->th nZ N uZ s=f s - f 0:=by
 have key:∀ (k:Nat) (n:Nd),n∈N->n.2.length=k->pr uZ (row nZ n.2)=f n.1 - f 0:=by
  intro k
  induction k using Nat.strongRecOn with
  | _ k ih=>
   intro n hn hk
   rcases c.F.par n hn with rfl | ⟨a,ha,m,hm,e1,rfl⟩
   ·show pr uZ (row nZ [])=f 0 - f 0
    rw [v7]
    lia
   ·have:=ih m.2.length (by rw [<-hk];show _ < (m.2++[a.2.1]).length;rw [i6,List.length_singleton];lia) m hm rfl
    show pr uZ (row nZ (m.2++[a.2.1]))=f a.2.2 - f 0
    rw [v5 _ _ nZ uZ c.nn hl (c.nm a ha),this,hf a ha,e1]
    lia
 intro s h0 h1
 obtain ⟨n,hn,rfl⟩:=i5 (c.all s h0 h1)
 unfold th
 rw [om c.F.nd hn]
 exact key _ n hn rfl
theorem xD (B:Int->Int) {s:Int} (h0:0<=s) (h1:s < (many:Int)):Gy (((List.range many).map fun (s:Nat)=>B (s:Int)).map D.int) s=some (.int (B s)):=by
 obtain ⟨k,rfl⟩:=Int.eq_ofNat_of_zero_le h0
 exact dB (by rw [List.getElem?_map,List.getElem?_map,List.getElem?_range (by lia)];rfl)
end
theorem eqD_I (a b:Int):eqD (.int a) (.int b)=decide (a=b):=by
 rw [eqD,Bool.eq_iff_iff]
 simp
theorem wb (a:Int):plainD 40 (.int a)=true:=rfl
theorem sf (l:List Int):plainDs 40 (l.map D.int)=true:=eY _ _
structure Bd (nZ:LNN) (aZ:List FK):Prop where
 b:∀ a∈aZ,(0<=a.1/\a.1 < 12)/\0<=a.2.2/\a.2.2 < 12
 n:∀ a∈aZ,a.2.1∈nZ
structure Od (aZ:List FK) (O1:List Int) (d:Nat) (pre:List FK):Prop where
 nd:O1.Nodup
 z:O1[0]?=some 0
 bd:∀ x∈O1,0<=x/\x < 12
 rc:∀ j:Nat,1<=j->∀ x,O1[j]?=some x->∃ a∈aZ,a.2.2=x/\∃ b:Nat,b < j/\O1[b]?=some a.1
 clo:∀ i:Nat,i < d->∀ x,O1[i]?=some x->∀ a∈aZ,a.1=x->a.2.2∈O1
 cur:∀ x,O1[d]?=some x->∀ a∈pre,a.1=x->a.2.2∈O1
theorem Od.le {aZ:List FK} {O1:List Int} {d:Nat} {pre:List FK} (o:Od aZ O1 d pre):O1.length<=12:=kO 12 o.nd o.bd
theorem Od.skip {aZ:List FK} {O1:List Int} {d:Nat} {pre:List FK} (o:Od aZ O1 d pre) {a:FK} {c:Int} (hc:O1[d]?=some c) (h:a.1≠c\/a.2.2∈O1):Od aZ O1 d (pre++[a]):=by
 refine ⟨o.nd,o.z,o.bd,o.rc,o.clo,fun x hx b hb e=>?_⟩
 rw [hc,Option.some.injEq] at hx
 subst hx
 rcases kN hb with hb | hb
 ·exact o.cur c hc b hb e
 ·rw [List.mem_singleton] at hb
  subst hb
  exact h.resolve_left fun n=>n e
theorem Od.take {aZ:List FK} {O1:List Int} {d:Nat} {pre:List FK} (o:Od aZ O1 d pre) {a:FK} {c:Int} (hc:O1[d]?=some c) (ha:a∈aZ) (hb:0<=a.2.2/\a.2.2 < 12) (h1:a.1=c) (h2:a.2.2∉O1):Od aZ (O1++[a.2.2]) d (pre++[a]):=by
 have up:∀ {i:Nat} {x:Int},O1[i]?=some x->(O1++[a.2.2])[i]?=some x:=fun h=>gD h
 have hd:=(j0 hc).1
 refine ⟨List.nodup_append.mpr ⟨o.nd,List.nodup_cons.mpr ⟨List.not_mem_nil,List.nodup_nil⟩,fun x hx y hy=>?_⟩,up o.z,fun x hx=>?_,fun j j1 x hx=>?_,fun i hi x hx b hb e=>?_,fun x hx b hb e=>?_⟩
 ·rw [kM hy]
  rintro rfl
  exact h2 hx
 ·rcases kN hx with hx | hx
  ·exact o.bd x hx
  ·rw [kM hx]
   exact hb
 ·rcases e7 hx with hx | ⟨rfl,rfl⟩
  ·obtain ⟨b,hb,e1,k,hk,e2⟩:=o.rc j j1 x hx
   exact ⟨b,hb,e1,k,hk,up e2⟩
  ·exact ⟨a,ha,rfl,d,hd,by rw [h1];exact up hc⟩
 ·rw [List.getElem?_append_left (by lia)] at hx
  exact List.mem_append_left _ (o.clo i hi x hx b hb e)
 ·rw [List.getElem?_append_left hd] at hx
  rcases kN hb with hb | hb
  ·exact List.mem_append_left _ (o.cur x hx b hb e)
  ·rw [List.mem_singleton] at hb
   subst hb
   exact List.mem_append_right _ (List.mem_singleton.mpr rfl)
theorem Od.next {aZ:List FK} {O1:List Int} {d:Nat} {L:List FK} (o:Od aZ O1 d L) (hL:∀ a∈aZ,a∈L):Od aZ O1 (d + 1) []:=by
 refine ⟨o.nd,o.z,o.bd,o.rc,fun i hi x hx b hb e=>?_,fun x _ b hb=>nomatch hb⟩
 by_cases h:i=d
 ·subst h
  exact o.cur x hx b (hL b hb) e
 ·exact o.clo i (by lia) x hx b hb e
theorem C8 (aZ:List FK) (O1:List Int) (hO:O1.length<=12) (d:Nat) (c:Int) (hc:O1[d]?=some c) (a:FK):di [some (.f,.lst (aZ.map eA)),some (.l .f,.lst (O1.map D.int)),some (.f,.int (d:Int)),some (.f,.int a.1),some (.f,.str a.2.1),some (.f,.int a.2.2),none,none]=.ok (.nx [some (.f,.lst (aZ.map eA)),some (.l .f,.lst ((if a.1=c/\a.2.2∉O1 then O1++[a.2.2] else O1).map D.int)),some (.f,.int (d:Int)),some (.f,.int a.1),some (.f,.str a.2.1),some (.f,.int a.2.2),none,none]):=by
 have Jk:Gy (O1.map D.int) (d:Int)=some (.int c):=dB (by rw [List.getElem?_map,hc];rfl)
 have hz:(O1.map D.int).length < sizeLine:=gL (by rw [a8];lia)
 unfold di
 by_cases h1:a.1=c
 ·have e1:(a.1 == c)=true:=beq_iff_eq.mpr h1
  by_cases h2:a.2.2∈O1
  ·rw [if_neg (fun z=>z.2 h2)]
   simp only [pv,seval,op,Jk,e1,h2,decide_true,Bool.not_true,fO]
  ·rw [if_pos ⟨h1,h2⟩,List.map_append]
   simp only [pv,seval,op,Jk,e1,h2,decide_false,Bool.not_false,hz]
 ·rw [if_neg (fun z=>h1 z.1)]
  have e1:(a.1 == c)=false:=beq_eq_false_iff_ne.mpr h1
  simp only [pv,seval,op,Jk,e1,fO]
theorem AJ (aZ:List FK) (hl:aZ.length < 64) (hb:∀ a∈aZ,0<=a.2.2/\a.2.2 < 12):∃ O1 t3 t4 t5,Od aZ O1 O1.length []/\fE [some (.f,.lst (aZ.map eA)),some (.l .f,.lst [.int 0]),some (.f,.int 0),none,none,none,none,none]=.ok (.nx [some (.f,.lst (aZ.map eA)),some (.l .f,.lst (O1.map D.int)),some (.f,.int (O1.length:Int)),t3,t4,t5,none,none]):=by
 have mem:∀ {a:FK},a∈cb eD aZ<->a∈aZ:=pV eD
 have Qu:=qG aZ hl
 generalize cb eD aZ=L at mem Qu
 obtain ⟨env',ew,O1,d,t3,t4,t5,o,hd,rfl⟩:=jF (c:=(Gg (aD Kk (ao 2) (aq (a9 ka (ag (ao 1) aA)))))) (g:=eI)
  (fun k env=>∃ O1 d t3 t4 t5,Od aZ O1 d []/\d<=O1.length/\k=13 - d/\env=[some (.f,.lst (aZ.map eA)),some (.l .f,.lst (O1.map D.int)),some (.f,.int ((d:Nat):Int)),t3,t4,t5,none,none]) (fun env=>∃ O1 d t3 t4 t5,Od aZ O1 d []/\d=O1.length/\env=[some (.f,.lst (aZ.map eA)),some (.l .f,.lst (O1.map D.int)),some (.f,.int ((d:Nat):Int)),t3,t4,t5,none,none]) (by
  rintro k env ⟨O1,d,t3,t4,t5,o,hd,rfl,rfl⟩
  have OF:=o.le
  by_cases Gn:d < O1.length
  ·refine .inr ⟨[some (.f,.lst (aZ.map eA)),some (.l .f,.lst (O1.map D.int)),some (.f,.int ((d:Nat):Int)),t3,t4,t5,none,none],?_,?_⟩
   ·have:(d:Int) < (O1.length:Int):=by lia
    simp only [pv,seval,op,a8,this,decide_true]
   ·obtain ⟨c,hc⟩:∃ c,O1[d]?=some c:=⟨O1[d],kq Gn⟩
    obtain ⟨env',ef,O2,t3',Pt,PD,o',H0,rfl⟩:=for_list (a:=fW 3 (aB (ax 3) (aB (ax 4) (aB (ax 5) cq)))) (g:=di) (e:=eA) L (fun j env=>∃ O1 t3 t4 t5,Od aZ O1 d (L.take j)/\O1[d]?=some c/\env=[some (.f,.lst (aZ.map eA)),some (.l .f,.lst (O1.map D.int)),some (.f,.int ((d:Nat):Int)),t3,t4,t5,none,none]) (by
     rintro j a env hj ⟨O1,t3,t4,t5,o,hc,rfl⟩
     have Kl:=mem.mp (List.mem_of_getElem? hj)
     have ht:L.take (j + 1)=L.take j++[a]:=by rw [List.take_add_one,hj];rfl
     refine ⟨[some (.f,.lst (aZ.map eA)),some (.l .f,.lst (O1.map D.int)),some (.f,.int ((d:Nat):Int)),some (.f,.int a.1),some (.f,.str a.2.1),some (.f,.int a.2.2),none,none],by unfold eA;simp only [pv,seval],_,C8 aZ O1 o.le d c hc a,_,_,_,_,?_,?_,rfl⟩
     ·rw [ht]
      split
      ·rename_i h
       exact o.take hc Kl (hb a Kl) h.1 h.2
      ·rename_i h
       exact o.skip hc (by
        by_cases h1:a.1=c
        ·exact .inr (Decidable.not_not.mp fun h2=>h ⟨h1,h2⟩)
        ·exact .inl h1)
     ·split
      ·exact gD hc
      ·exact hc) _ ⟨O1,t3,t4,t5,by rw [List.take_zero];exact o,hc,rfl⟩
    rw [List.take_length] at o'
    have hlt':=(j0 H0).1
    refine ⟨_,13 - (d + 1),?_,by lia,O2,d + 1,t3',Pt,PD,o'.next fun a ha=>mem.mpr ha,by lia,rfl,rfl⟩
    unfold eI
    rw [au (env':=_) (by
     unfold g9
     simp only [pv,seval,op,Qu]
     exact ef)]
    unfold gH
    simp only [pv,seval,op,Int.natCast_add,Int.cast_ofNat_Int]
  ·refine .inl ⟨_,?_,O1,d,t3,t4,t5,o,by lia,rfl⟩
   have:¬ (d:Int) < (O1.length:Int):=by lia
   simp only [pv,seval,op,a8,this,decide_false]) 100000 13 _ (by decide) ⟨[0],0,none,none,none,⟨List.nodup_cons.mpr ⟨List.not_mem_nil,List.nodup_nil⟩,rfl,fun x hx=>by rw [kM hx];lia,fun j j1 x hx=>by
    have:=(j0 hx).1
    rw [List.length_singleton] at this
    lia,fun i hi=>absurd hi (Nat.not_lt_zero _),fun x _ b hb=>nomatch hb⟩,Nat.zero_le _,rfl,rfl⟩
 subst hd
 refine ⟨O1,t3,t4,t5,o,?_⟩
 unfold fE
 exact ew
structure Kp (nZ:LNN) (aZ:List FK) (O1:List Int) (pre:List FK) (K:List FK):Prop where
 b:∀ a∈K,a.2.1∈nZ/\(0<=a.1/\a.1 < (O1.length:Int))/\0<=a.2.2/\a.2.2 < (O1.length:Int)
 h:∀ a∈pre,∀ i k:Nat,O1[i]?=some a.1->O1[k]?=some a.2.2->((i:Int),a.2.1,(k:Int))∈K
 l:K.length<=pre.length
theorem xE {l:List Int} (nd:l.Nodup) {i j:Nat} {x:Int} (h1:l[i]?=some x) (h2:l[j]?=some x):i=j:=by
 obtain ⟨a1,e1⟩:=j0 h1
 obtain ⟨a2,e2⟩:=j0 h2
 have h3:=nd.idxOf_getElem i a1
 have h4:=nd.idxOf_getElem j a2
 rw [e1] at h3
 rw [e2] at h4
 exact h3.symm.trans h4
theorem C9 (nZ:LNN) (aZ:List FK) (O1:List Int) (o:Od aZ O1 O1.length []) (pre K:List FK) (kp:Kp nZ aZ O1 pre K) (HI:pre.length<=100) (a:FK) (ha:a∈aZ) (hn:a.2.1∈nZ) (D2 t7:Option R):∃ K' u7,Kp nZ aZ O1 (pre++[a]) K'/\dh [some (.f,.lst (aZ.map eA)),some (.l .f,.lst (O1.map D.int)),D2,some (.f,.int a.1),some (.f,.str a.2.1),some (.f,.int a.2.2),some (.l .f,.lst (K.map eA)),t7]=.ok (.nx [some (.f,.lst (aZ.map eA)),some (.l .f,.lst (O1.map D.int)),D2,some (.f,.int a.1),some (.f,.str a.2.1),some (.f,.int a.2.2),some (.l .f,.lst (K'.map eA)),u7]):=by
 have IW:=yt a.1 O1
 have OL:=kp.l
 unfold dh
 by_cases h1:a.1∈O1
 ·rw [decide_eq_true h1] at IW
  obtain ⟨i,hi,ei⟩:=Py eqD_I sf wb O1 a.1 h1
  have h2:=o.clo i (j0 hi).1 _ hi a ha rfl
  obtain ⟨k,hk,ek⟩:=Py eqD_I sf wb O1 a.2.2 h2
  have li:=(j0 hi).1
  have lk:=(j0 hk).1
  have Jm:=sd K ((i:Int),a.2.1,(k:Int))
  have hz:(K.map eA).length < sizeLine:=gL (by rw [a8];lia)
  have ee:eA ((i:Int),a.2.1,(k:Int))=.tup [.int (i:Int),.str a.2.1,.int (k:Int)]:=rfl
  rw [ee] at Jm
  by_cases hm:((i:Int),a.2.1,(k:Int))∈K
  ·rw [decide_eq_true hm] at Jm
   refine ⟨K,some (.f,.tup [.int (i:Int),.str a.2.1,.int (k:Int)]),⟨kp.b,fun b hb i' k' e1 e2=>?_,by rw [i6];lia⟩,?_⟩
   ·rcases kN hb with hb | hb
    ·exact kp.h b hb i' k' e1 e2
    ·rw [List.mem_singleton] at hb
     subst hb
     rw [xE o.nd e1 hi,xE o.nd e2 hk]
     exact hm
   ·simp only [pv,seval,op,IW,rT,ei,ek,Jm,Bool.not_true,fO]
  ·rw [decide_eq_false hm] at Jm
   refine ⟨K++[((i:Int),a.2.1,(k:Int))],some (.f,.tup [.int (i:Int),.str a.2.1,.int (k:Int)]),⟨fun b hb=>?_,fun b hb i' k' e1 e2=>?_,by rw [i6,i6];simp only [List.length_singleton];lia⟩,?_⟩
   ·rcases kN hb with hb | hb
    ·exact kp.b b hb
    ·rw [kM hb]
     exact ⟨hn,by dsimp only;lia,by dsimp only;lia,by dsimp only;lia⟩
   ·rcases kN hb with hb | hb
    ·exact List.mem_append_left _ (kp.h b hb i' k' e1 e2)
    ·rw [List.mem_singleton] at hb
     subst hb
     rw [xE o.nd e1 hi,xE o.nd e2 hk]
     exact List.mem_append_right _ (List.mem_singleton.mpr rfl)
   ·rw [List.map_append,eE,List.map_nil,ee]
    simp only [pv,seval,op,IW,rT,ei,ek,Jm,Bool.not_false,hz]
 ·rw [decide_eq_false h1] at IW
  refine ⟨K,t7,⟨kp.b,fun b hb i' k' e1 e2=>?_,by rw [i6];lia⟩,?_⟩
  ·rcases kN hb with hb | hb
   ·exact kp.h b hb i' k' e1 e2
   ·rw [List.mem_singleton] at hb
    subst hb
    exact absurd (List.mem_of_getElem? e1) h1
  ·simp only [pv,seval,op,IW,fO]
theorem si (nZ:LNN) (aZ:List FK) (hl:aZ.length<=60) (bd:Bd nZ aZ):∃ K many,Ra nZ K many/\K.length<=aZ.length/\cB [.lst (aZ.map eA)]=.ok (.l .f,.lst ((cb eD K).map eA)):=by
 obtain ⟨O1,t3,t4,t5,o,ew⟩:=AJ aZ (by lia) fun a ha=>(bd.b a ha).2
 have OF:=o.le
 have hz0:=(j0 o.z).1
 unfold cB jy
 rw [bh (h:=by rfl)]
 rw [au (env':=[some (.f,.lst (aZ.map eA)),some (.l .f,.lst [.int 0]),none,none,none,none,none,none]) (by simp only [pv,seval,op])]
 rw [au (env':=[some (.f,.lst (aZ.map eA)),some (.l .f,.lst [.int 0]),some (.f,.int 0),none,none,none,none,none]) (by simp only [pv,seval,op])]
 rw [au ew]
 unfold gI
 rw [au (env':=[some (.f,.lst (aZ.map eA)),some (.l .f,.lst (O1.map D.int)),some (.f,.int (O1.length:Int)),t3,t4,t5,some (.l .f,.lst []),none]) (by simp only [pv,seval,op])]
 obtain ⟨env',ef,K,u3,u4,u5,u7,kp,rfl⟩:=for_list (a:=fW 3 (aB (ax 3) (aB (ax 4) (aB (ax 5) cq)))) (g:=dh) (e:=eA) aZ (fun j env=>∃ K t3 t4 t5 t7,Kp nZ aZ O1 (aZ.take j) K/\env=[some (.f,.lst (aZ.map eA)),some (.l .f,.lst (O1.map D.int)),some (.f,.int (O1.length:Int)),t3,t4,t5,some (.l .f,.lst (K.map eA)),t7]) (by
  rintro j a env hj ⟨K,t3,t4,t5,t7,kp,rfl⟩
  have Kl:=List.mem_of_getElem? hj
  have ht:aZ.take (j + 1)=aZ.take j++[a]:=by rw [List.take_add_one,hj];rfl
  obtain ⟨K',u7,kp',e⟩:=C9 nZ aZ O1 o (aZ.take j) K kp (by rw [List.length_take];lia) a Kl (bd.n a Kl) (some (.f,.int (O1.length:Int))) t7
  exact ⟨_,by unfold eA;simp only [pv,seval],_,e,K',_,_,_,u7,by rw [ht];exact kp',rfl⟩) _ ⟨[],t3,t4,t5,none,⟨(fun _ h=>nomatch h),(fun _ h=>by rw [List.take_zero] at h;exact nomatch h),Nat.zero_le _⟩,rfl⟩
 rw [List.take_length] at kp
 have OL:=kp.l
 rw [List.map_nil] at ef
 rw [au (env':=_) (by
  unfold g8
  simp only [pv,seval,op]
  exact ef)]
 unfold gG
 refine ⟨K,O1.length,⟨by lia,by lia,fun a ha=>(kp.b a ha).2,fun a ha=>(kp.b a ha).1,fun j j1 j2=>?_⟩,OL,by simp only [pv,seval,op,qG K (by lia)]⟩
 obtain ⟨a,ha,e1,b,Pu,e2⟩:=o.rc j j1 _ (kq j2)
 exact ⟨_,kp.h a ha b j e2 (by rw [e1];exact kq j2),rfl,b,Pu,rfl⟩
theorem Dc (aZ:List FK):Hd (.lst (aZ.map eA)) (.lst [])=.ok (.f,.bl aZ.isEmpty):=by
 unfold Hd
 rw [plainD,mX 36 aZ]
 cases aZ <;> rfl
theorem xF (nZ:LNN) (h0:nZ≠[]) (x:Int):∃ m∈nZ,FW (.tup (nZ.map D.str)) (.int (x % (nZ.length:Int)))=.ok (.f,.str m):=by
 have hp:=List.length_pos_iff.mpr h0
 have hb:=eU x (nZ.length:Int) (by lia)
 obtain ⟨k,ek⟩:=Int.eq_ofNat_of_zero_le hb.1
 have hk:k < nZ.length:=by lia
 refine ⟨nZ[k],List.getElem_mem hk,?_⟩
 rw [ek,CC,vI hk]
theorem AK (x y:List D) (h:x.length + y.length<=1000):cV (.lst x) (.lst y)=.ok (.l .f,.lst (x++y)):=by
 rw [vH,if_pos (line_le (by lia))]
theorem De {l:List Int} (h:l≠[]):PV.maxD [.lst (l.map D.int)]=.ok (.f,.int (cU l)):=by
 unfold PV.maxD
 dsimp only
 rw [rV]
 cases l with
 | nil=>exact absurd rfl h
 | cons a l=>rfl
noncomputable def mf (aZ:List FK):List Int:=0 :: aZ.map l6
theorem Dg (nZ:LNN) (h0:nZ≠[]) (hn:nZ.length<=3) (aZ:List FK) (hl:aZ.length<=55) (bd:Bd nZ aZ) (nb:Int):∃ IE,Bd nZ IE/\IE.length<=aZ.length + 1/\d4 [.tup (nZ.map D.str),.lst (aZ.map eA),.int nb]=.ok (.l .f,.lst (IE.map eA)):=by
 have hc:b5 (ax 0) cN (a9 PV.maxD (ag (aq (aD FW (ao 0) (aq (aJ (.int 0))))) (ag (aq (aD FW (ao 0) (aq (aJ (.int 2))))) aA))) (aZ.map eA) [none]=.ok ((aZ.map l6).map D.int):=by
  rw [aV (r:=fun a:FK=>D.int (l6 a)) (fun env=>∃ t,env=[t]) aZ ?_ _ ⟨none,rfl⟩]
  ·rw [List.map_map]
   rfl
  ·rintro a _ env ⟨t,rfl⟩
   refine ⟨[some (.f,eA a)],rfl,.f,[some (.f,eA a)],?_,_,rfl⟩
   unfold eA
   simp only [pv,seval,op,at2]
   rfl
 have Kh:((aZ.map l6).map D.int).length<=sizeLine:=aN (by rw [a8,a8];lia)
 have Kn:=FD (aZ.map l6)
 have PL:=AK [.int 0] ((aZ.map l6).map D.int) (by rw [a8,a8,List.length_singleton];lia)
 have Kb:PV.maxD [.lst ([.int 0]++(aZ.map l6).map D.int)]=.ok (.f,.int (cU (mf aZ))):=De (l:=mf aZ) (by unfold mf;simp)
 have hM0:0<=cU (mf aZ):=iE (ns:=mf aZ) (x:=0) (by unfold mf;exact List.mem_cons_self)
 have hM12:cU (mf aZ) < 12:=by
  have:=iF (ns:=mf aZ) (by unfold mf;simp)
  unfold mf at this
  rcases List.mem_cons.mp this with e | e
  ·unfold mf
   lia
  ·obtain ⟨a,ha,e2⟩:=i5 e
   have hb:=bd.b a ha
   have h3:=(l7 a).2.2
   unfold mf
   lia
 have Qv:∀ a∈aZ,a.1<=cU (mf aZ)/\a.2.2<=cU (mf aZ):=fun a ha=>by
  have h1:l6 a<=cU (mf aZ):=iE (by unfold mf;exact List.mem_cons_of_mem _ (List.mem_map.mpr ⟨a,ha,rfl⟩))
  have h2:=l7 a
  lia
 unfold d4 lQ
 rw [bh (h:=by rfl)]
 rw [au (env':=[some (.f,.tup (nZ.map D.str)),some (.f,.lst (aZ.map eA)),some (.f,.int nb),some (.f,.int (1 + cU (mf aZ))),none,none,none,none,none,none,none]) (by
  generalize (a9 PV.maxD (ag (aq (aD FW (ao 0) (aq (aJ (.int 0))))) (ag (aq (aD FW (ao 0) (aq (aJ (.int 2))))) aA)))=GG at hc ⊢
  generalize (aZ.map l6).map D.int=TT at *
  simp only [pv,seval,op,hc,Kh,Kn]
  simp only [List.cons_append,List.nil_append] at PL Kb
  simp only [pv,seval,op,PL,Kb])]
 have hcb:1<=1 + cU (mf aZ)/\1 + cU (mf aZ)<=12:=by lia
 have PM:∀ a∈aZ,a.1 < 1 + cU (mf aZ)/\a.2.2 < 1 + cU (mf aZ):=fun a ha=>by
  have:=Qv a ha
  lia
 generalize 1 + cU (mf aZ)=c at hcb PM
 clear hM0 hM12 Qv Kb PL hc Kh Kn
 have Jl:0 < (if 12 < c + 1 then 12 else c + 1)/\(if 12 < c + 1 then 12 else c + 1)<=12:=by split <;> lia
 have Mv:=eU (nb / 128) (if 12 < c + 1 then 12 else c + 1) Jl.1
 have Qw:=iC (nb / 128) (if 12 < c + 1 then 12 else c + 1) Jl.1
 rw [au (env':=[some (.f,.tup (nZ.map D.str)),some (.f,.lst (aZ.map eA)),some (.f,.int nb),some (.f,.int c),some (.f,.int (nb / 128 % (if 12 < c + 1 then 12 else c + 1))),none,none,none,none,none,none]) (by simp only [pv,seval,op,fK _ 128 (by decide) (by decide),Qw])]
 have hot:0<=nb / 128 % (if 12 < c + 1 then 12 else c + 1)/\nb / 128 % (if 12 < c + 1 then 12 else c + 1) < 12:=by lia
 generalize nb / 128 % (if 12 < c + 1 then 12 else c + 1)=ot at hot
 clear Mv Qw Jl
 obtain ⟨mv,OI,emv⟩:=xF nZ h0 (nb / 2048)
 have hp:=List.length_pos_iff.mpr h0
 rw [au (env':=[some (.f,.tup (nZ.map D.str)),some (.f,.lst (aZ.map eA)),some (.f,.int nb),some (.f,.int c),some (.f,.int ot),some (.f,.str mv),none,none,none,none,none]) (by simp only [pv,seval,op,fK _ 2048 (by decide) (by decide),a8,iC _ (nZ.length:Int) (by lia),emv])]
 have Nk:=Dc aZ
 have m5:=iC nb 5 (by decide)
 have mc:=eU (nb / 8) c (by lia)
 have m8:=iC (nb / 8) c (by lia)
 have d8:=fK nb 8 (by decide) (by decide)
 have app:∀ (l:List FK) (a:FK),l.length<=60->cV (.lst (l.map eA)) (.lst [eA a])=.ok (.l .f,.lst ((l++[a]).map eA)):=fun l a h=>by
  rw [AK _ _ (by rw [a8,List.length_singleton];lia),List.map_append]
  rfl
 have MX:∀ (l:List FK) (a:FK),(∀ x∈l,x∈aZ)->((0<=a.1/\a.1 < 12)/\0<=a.2.2/\a.2.2 < 12)->a.2.1∈nZ->Bd nZ (l++[a]):=fun l a IY hb hnm=>by
  refine ⟨fun x hx=>?_,fun x hx=>?_⟩
  ·rcases kN hx with hx | hx
   ·exact bd.b x (IY x hx)
   ·rw [kM hx]
    exact hb
  ·rcases kN hx with hx | hx
   ·exact bd.n x (IY x hx)
   ·rw [kM hx]
    exact hnm
 by_cases h3:aZ.isEmpty=true\/(nb % 5 == 3)=true
 ·have ha:=app aZ (nb / 8 % c,mv,ot) (by lia)
  refine ⟨aZ++[(nb / 8 % c,mv,ot)],MX aZ _ (fun x hx=>hx) (by dsimp only;lia) OI,by rw [i6];exact Nat.le_refl _,?_⟩
  rw [show eA (nb / 8 % c,mv,ot)=.tup [.int (nb / 8 % c),.str mv,.int ot] from rfl] at ha
  cases hE:aZ.isEmpty with
  | true=>
   rw [hE] at Nk
   simp only [pv,seval,op,Nk,m8,d8,ha]
  | false=>
   rw [hE] at Nk h3
   have h3:=h3.resolve_left Bool.false_ne_true
   simp only [pv,seval,op,Nk,m5,h3,m8,d8,ha,fO]
 ·have hE:aZ.isEmpty=false:=Bool.eq_false_iff.mpr fun h=>h3 (.inl h)
  have e3:(nb % 5 == 3)=false:=Bool.eq_false_iff.mpr fun h=>h3 (.inr h)
  rw [hE] at Nk
  have hpos:0 < aZ.length:=by
   cases aZ with
   | nil=>cases hE
   | cons _ _=>exact Nat.succ_pos _
  rw [au (env':=[some (.f,.tup (nZ.map D.str)),some (.f,.lst (aZ.map eA)),some (.f,.int nb),some (.f,.int c),some (.f,.int ot),some (.f,.str mv),none,none,none,none,none]) (by simp only [pv,seval,op,Nk,m5,e3,fO])]
  have ms:=eU (nb / 16384) (aZ.length:Int) (by lia)
  obtain ⟨sp,es⟩:=Int.eq_ofNat_of_zero_le ms.1
  have Kr:sp < aZ.length:=by lia
  rw [au (env':=[some (.f,.tup (nZ.map D.str)),some (.f,.lst (aZ.map eA)),some (.f,.int nb),some (.f,.int c),some (.f,.int ot),some (.f,.str mv),some (.f,.int (sp:Int)),none,none,none,none]) (by simp only [pv,seval,op,fK _ 16384 (by decide) (by decide),a8,iC _ (aZ.length:Int) (by lia),es])]
  have Jk:Gy (aZ.map eA) (sp:Int)=some (eA aZ[sp]):=dB (by rw [List.getElem?_map,kq Kr];rfl)
  have Mo:=List.getElem_mem Kr
  generalize aZ[sp]=a at Jk Mo
  rw [au (env':=[some (.f,.tup (nZ.map D.str)),some (.f,.lst (aZ.map eA)),some (.f,.int nb),some (.f,.int c),some (.f,.int ot),some (.f,.str mv),some (.f,.int (sp:Int)),some (.f,eA a),none,none,none]) (by simp only [pv,seval,op,Jk])]
  have Oe:jg (aZ.map eA) none (some (sp:Int))=(aZ.take sp).map eA:=by rw [oj,List.map_take]
  have KS:jg (aZ.map eA) (some ((sp:Int) + 1)) none=(aZ.drop (sp + 1)).map eA:=by rw [show (sp:Int) + 1=((sp + 1:Nat):Int) by lia,xv,List.map_drop]
  have IY:∀ x∈aZ.take sp++aZ.drop (sp + 1),x∈aZ:=fun x hx=>by
   rcases kN hx with h | h
   ·exact List.mem_of_mem_take h
   ·exact List.mem_of_mem_drop h
  have Qs:(aZ.take sp++aZ.drop (sp + 1)).length<=aZ.length:=by
   rw [i6,List.length_take,List.length_drop]
   lia
  have Of:=AK ((aZ.take sp).map eA) ((aZ.drop (sp + 1)).map eA) (by rw [a8,a8];rw [i6] at Qs;lia)
  rw [<-List.map_append] at Of
  generalize aZ.take sp++aZ.drop (sp + 1)=eL at *
  rw [au (env':=[some (.f,.tup (nZ.map D.str)),some (.f,.lst (aZ.map eA)),some (.f,.int nb),some (.f,.int c),some (.f,.int ot),some (.f,.str mv),some (.f,.int (sp:Int)),some (.f,eA a),some (.l .f,.lst (eL.map eA)),none,none]) (by simp only [pv,seval,op,Oe,KS,Of])]
  cases e0:(nb % 5 == 0) with
  | true=>
   refine ⟨eL,⟨fun x hx=>bd.b x (IY x hx),fun x hx=>bd.n x (IY x hx)⟩,by lia,?_⟩
   simp only [pv,seval,op,m5,e0]
  | false=>
   rw [au (env':=[some (.f,.tup (nZ.map D.str)),some (.f,.lst (aZ.map eA)),some (.f,.int nb),some (.f,.int c),some (.f,.int ot),some (.f,.str mv),some (.f,.int (sp:Int)),some (.f,eA a),some (.l .f,.lst (eL.map eA)),none,none]) (by simp only [pv,seval,op,m5,e0,fO])]
   have HZ:=bd.b a Mo
   have hna:=bd.n a Mo
   cases e1:(nb % 5 == 1) with
   | true=>
    have ha:=app eL (a.1,a.2.1,ot) (by lia)
    refine ⟨eL++[(a.1,a.2.1,ot)],MX eL _ IY (by dsimp only;lia) hna,by rw [i6,List.length_singleton];lia,?_⟩
    rw [show eA (a.1,a.2.1,ot)=.tup [.int a.1,.str a.2.1,.int ot] from rfl] at ha
    rw [show eA a=.tup [.int a.1,.str a.2.1,.int a.2.2] from rfl]
    simp only [pv,seval,op,m5,e1,ha]
   | false=>
    rw [au (env':=[some (.f,.tup (nZ.map D.str)),some (.f,.lst (aZ.map eA)),some (.f,.int nb),some (.f,.int c),some (.f,.int ot),some (.f,.str mv),some (.f,.int (sp:Int)),some (.f,eA a),some (.l .f,.lst (eL.map eA)),none,none]) (by simp only [pv,seval,op,m5,e1,fO])]
    by_cases h2:(nb % 5 == 2)=true\/(c == 1)=true
    ·have ha:=app eL (a.1,mv,a.2.2) (by lia)
     refine ⟨eL++[(a.1,mv,a.2.2)],MX eL _ IY (by dsimp only;lia) OI,by rw [i6,List.length_singleton];lia,?_⟩
     rw [show eA (a.1,mv,a.2.2)=.tup [.int a.1,.str mv,.int a.2.2] from rfl] at ha
     rw [show eA a=.tup [.int a.1,.str a.2.1,.int a.2.2] from rfl]
     cases e2:(nb % 5 == 2) with
     | true=>simp only [pv,seval,op,m5,e2,at2,ha]
     | false=>
      rw [e2] at h2
      have h2:=h2.resolve_left Bool.false_ne_true
      simp only [pv,seval,op,m5,e2,h2,at2,ha,fO]
    ·have e2:(nb % 5 == 2)=false:=Bool.eq_false_iff.mpr fun h=>h2 (.inl h)
     have ec:(c == 1)=false:=Bool.eq_false_iff.mpr fun h=>h2 (.inr h)
     have OK:c≠1:=beq_eq_false_iff_ne.mp ec
     rw [au (env':=[some (.f,.tup (nZ.map D.str)),some (.f,.lst (aZ.map eA)),some (.f,.int nb),some (.f,.int c),some (.f,.int ot),some (.f,.str mv),some (.f,.int (sp:Int)),some (.f,eA a),some (.l .f,.lst (eL.map eA)),none,none]) (by simp only [pv,seval,op,m5,e2,ec,fO])]
     have mg:=eU (nb / 8) (c - 1) (by lia)
     obtain ⟨gn,eg⟩:=Int.eq_ofNat_of_zero_le (show 0<=1 + nb / 8 % (c - 1) by lia)
     rw [au (env':=[some (.f,.tup (nZ.map D.str)),some (.f,.lst (aZ.map eA)),some (.f,.int nb),some (.f,.int c),some (.f,.int ot),some (.f,.str mv),some (.f,.int (sp:Int)),some (.f,eA a),some (.l .f,.lst (eL.map eA)),some (.f,.int (gn:Int)),none]) (by simp only [pv,seval,op,d8,iC _ (c - 1) (by lia),eg])]
     obtain ⟨cn,rfl⟩:=Int.eq_ofNat_of_zero_le (show 0<=c by lia)
     have hce:b5 (ax 0) cN (aK 0) ((List.range cn).map fun (k:Nat)=>D.int (k:Int)) [none]=.ok (((List.range cn).map fun (k:Nat)=>(k:Int)).map D.int):=by
      rw [aV (r:=fun k:Nat=>D.int (k:Int)) (fun env=>∃ t,env=[t]) (List.range cn) ?_ _ ⟨none,rfl⟩]
      ·rw [List.map_map]
       rfl
      ·rintro k _ env ⟨t,rfl⟩
       exact ⟨[some (.f,.int (k:Int))],rfl,.f,_,rfl,_,rfl⟩
     have hle:(((List.range cn).map fun (k:Nat)=>(k:Int)).map D.int).length<=sizeLine:=aN (by rw [a8,a8,List.length_range];lia)
     have hfe:=FD ((List.range cn).map fun (k:Nat)=>(k:Int))
     have hel:((List.range cn).map fun (k:Nat)=>(k:Int)).length=cn:=by rw [a8,List.length_range]
     have hev:∀ x∈((List.range cn).map fun (k:Nat)=>(k:Int)),0<=x/\x < (cn:Int):=fun x hx=>by
      obtain ⟨k,hk,rfl⟩:=i5 hx
      have:=List.mem_range.mp hk
      lia
     generalize ((List.range cn).map fun (k:Nat)=>(k:Int))=en at *
     rw [au (env':=[some (.f,.tup (nZ.map D.str)),some (.f,.lst (aZ.map eA)),some (.f,.int nb),some (.f,.int (cn:Int)),some (.f,.int ot),some (.f,.str mv),some (.f,.int (sp:Int)),some (.f,eA a),some (.l .f,.lst (eL.map eA)),some (.f,.int (gn:Int)),some (.l .f,.lst (en.map D.int))]) (by
      simp only [pv,seval,op]
      rw [if_pos (by lia)]
      simp only [pv,seval,op,Int.toNat_natCast,hce,hle,hfe])]
     have Hl:ixN en.length (gn:Int)=some gn:=vM _ _ (by lia)
     have mo:=eU ot (cn:Int) (by lia)
     rw [au (env':=[some (.f,.tup (nZ.map D.str)),some (.f,.lst (aZ.map eA)),some (.f,.int nb),some (.f,.int (cn:Int)),some (.f,.int ot),some (.f,.str mv),some (.f,.int (sp:Int)),some (.f,eA a),some (.l .f,.lst (eL.map eA)),some (.f,.int (gn:Int)),some (.l .f,.lst ((en.set gn (ot % (cn:Int))).map D.int))]) (by
      rw [List.map_set]
      simp only [pv,seval,op,iC ot (cn:Int) (by lia),a8,Hl])]
     have hsl:(en.set gn (ot % (cn:Int))).length=cn:=by rw [List.length_set];exact hel
     have Qx:∀ x∈en.set gn (ot % (cn:Int)),0<=x/\x < (cn:Int):=fun x hx=>by
      rcases List.mem_or_eq_of_mem_set hx with h | h
      ·exact hev x h
      ·rw [h]
       exact mo
     generalize en.set gn (ot % (cn:Int))=IQ at hsl Qx
     have LV:∀ s:Int,0<=s->s < (cn:Int)->Gy (IQ.map D.int) s=some (.int (IQ.getD s.toNat 0))/\0<=IQ.getD s.toNat 0/\IQ.getD s.toNat 0 < (cn:Int):=fun s hs0 hs1=>by
      obtain ⟨k,rfl⟩:=Int.eq_ofNat_of_zero_le hs0
      have hk:k < IQ.length:=by lia
      rw [Int.toNat_natCast]
      refine ⟨ib hk,?_⟩
      rw [List.getD_eq_getElem?_getD,kq hk]
      exact Qx _ (List.getElem_mem hk)
     have Nn:b5 (fW 3 (aB (ax 0) (aB (ax 1) (aB (ax 2) cq)))) cN (i8 (aI (aD FW (ao 3) (ao 0)) (aI (aK 1) (aI (aD FW (ao 3) (ao 2)) bJ)))) (aZ.map eA) [none,none,none,some (.f,.lst (IQ.map D.int))]=.ok ((aZ.map fun a=>((IQ.getD a.1.toNat 0,a.2.1,IQ.getD a.2.2.toNat 0):FK)).map eA):=by
      rw [aV (r:=fun a:FK=>eA (IQ.getD a.1.toNat 0,a.2.1,IQ.getD a.2.2.toNat 0)) (fun env=>∃ t u v,env=[t,u,v,some (.f,.lst (IQ.map D.int))]) aZ ?_ _ ⟨none,none,none,rfl⟩]
      ·rw [List.map_map]
       rfl
      ·rintro b hb env ⟨t,u,v,rfl⟩
       have Kt:=bd.b b hb
       have JW:=PM b hb
       have i1:=(LV b.1 Kt.1.1 JW.1).1
       have i2:=(LV b.2.2 Kt.2.1 JW.2).1
       refine ⟨[some (.f,.int b.1),some (.f,.str b.2.1),some (.f,.int b.2.2),some (.f,.lst (IQ.map D.int))],by unfold eA;simp only [pv,seval],.f,[some (.f,.int b.1),some (.f,.str b.2.1),some (.f,.int b.2.2),some (.f,.lst (IQ.map D.int))],?_,_,_,_,rfl⟩
       unfold eA
       simp only [pv,seval,op,i1,i2]
     refine ⟨aZ.map fun a=>((IQ.getD a.1.toNat 0,a.2.1,IQ.getD a.2.2.toNat 0):FK),⟨fun x hx=>?_,fun x hx=>?_⟩,by rw [a8];lia,?_⟩
     ·obtain ⟨b,hb,rfl⟩:=i5 hx
      have Kt:=bd.b b hb
      have JW:=PM b hb
      have i1:=(LV b.1 Kt.1.1 JW.1).2
      have i2:=(LV b.2.2 Kt.2.1 JW.2).2
      dsimp only
      lia
     ·obtain ⟨b,hb,rfl⟩:=i5 hx
      exact bd.n b hb
     ·have PN:((aZ.map fun a=>((IQ.getD a.1.toNat 0,a.2.1,IQ.getD a.2.2.toNat 0):FK)).map eA).length<=sizeLine:=aN (by rw [a8,a8];lia)
      have PQ:=j3 (aZ.map fun a=>((IQ.getD a.1.toNat 0,a.2.1,IQ.getD a.2.2.toNat 0):FK))
      generalize (i8 (aI (aD FW (ao 3) (ao 0)) (aI (aK 1) (aI (aD FW (ao 3) (ao 2)) bJ))))=GG at Nn ⊢
      simp only [pv,seval,op,Nn,PN,PQ]
theorem Ra.bd' {nZ:LNN} {as:List FK} {many:Nat} (r:Ra nZ as many):Bd nZ as:=⟨fun a ha=>by
 have:=r.bd a ha
 have:=r.mm
 lia,r.nm⟩
theorem p3 (ns:List Int) (first:Nat) (hf:first<=100) {nZ:LNN} {ps:List Pl} {S:List (List Int)} {A:List FK} (n:Nt nZ ps S A) (er:bI [eN nZ ps,.int 8]=.ok (.f,.tup [.lst ((cb eD A).map eA),.lst (S.map eM)])):∃ K many,Ra nZ K many/\bp [.lst (ns.map D.int),eN nZ ps,.int (first:Int)]=.ok (.f,eCh nZ (cb eD K)):=by
 have HX:=n.al
 have Kn:∀ (x y:List D),flatDs [.lst x,.lst y]=false:=fun _ _=>rfl
 have b0:Bd nZ (cb eD A):=n.ra.sort.bd'
 unfold bp f6
 rw [bh (h:=by rfl)]
 rw [au (env':=[some (.f,.lst (ns.map D.int)),some (.f,eN nZ ps),some (.f,.int (first:Int)),some (.f,.lst ((cb eD A).map eA)),none,none]) (by simp only [pv,seval,op,er,Kn,fO,Dm,Dn])]
 obtain ⟨env',ef,aZ,o3,t4,t5,ho,hl,bd,rfl⟩:=jZ (a:=ax 4) (g:=cZ) (e:=fun k=>D.int ((first:Int) + (k:Int))) 3 (fun i env=>∃ (aZ:List FK) (o3:O) (t4 t5:Option R),xb o3=true/\aZ.length<=24 + i/\Bd nZ aZ/\env=[some (.f,.lst (ns.map D.int)),some (.f,eN nZ ps),some (.f,.int (first:Int)),some (o3,.lst (aZ.map eA)),t4,t5]) (by
  rintro k env hk ⟨aZ,o3,t4,t5,ho,hl,bd,rfl⟩
  have ck:=kr ns (first + k)
  have Kb:=l8 (cell ns (first + k)) (((first + k:Nat)):Int) (by lia) (by lia)
  rw [show ((first + k:Nat):Int)=(first:Int) + (k:Int) by lia] at ck Kb
  generalize vU (cell ns (first + k)) ((first:Int) + (k:Int))=x at Kb
  refine ⟨[some (.f,.lst (ns.map D.int)),some (.f,eN nZ ps),some (.f,.int (first:Int)),some (o3,.lst (aZ.map eA)),some (.f,.int ((first:Int) + (k:Int))),t5],rfl,?_⟩
  unfold cZ
  rw [au (env':=[some (.f,.lst (ns.map D.int)),some (.f,eN nZ ps),some (.f,.int (first:Int)),some (o3,.lst (aZ.map eA)),some (.f,.int ((first:Int) + (k:Int))),some (.f,.int x)]) (by simp only [pv,seval,op,ck,Kb])]
  cases h3:(x / 64 % 3 == 0) with
  | false=>
   refine ⟨_,?_,aZ,o3,some (.f,.int ((first:Int) + (k:Int))),some (.f,.int x),ho,by lia,bd,rfl⟩
   simp only [pv,seval,op,fK _ 64 (by decide) (by decide),iC _ 3 (by decide),h3,fO]
  | true=>
   obtain ⟨IE,bd',hl',eb⟩:=Dg nZ n.n0 n.n3 aZ (by lia) bd (x / 192)
   obtain ⟨K,many,ra,OL,et⟩:=si nZ IE (by lia) bd'
   have f1:=j3 IE
   have f2:=j3 (cb eD K)
   refine ⟨[some (.f,.lst (ns.map D.int)),some (.f,eN nZ ps),some (.f,.int (first:Int)),some (.l .f,.lst ((cb eD K).map eA)),some (.f,.int ((first:Int) + (k:Int))),some (.f,.int x)],?_,cb eD K,.l .f,some (.f,.int ((first:Int) + (k:Int))),some (.f,.int x),rfl,by rw [ic];lia,ra.sort.bd',rfl⟩
   unfold eN
   simp only [pv,seval,op,fK _ 64 (by decide) (by decide),fK _ 192 (by decide) (by decide),iC _ 3 (by decide),h3,eb,et,f1,f2,ho]) _ ⟨cb eD A,.f,none,none,rfl,by rw [ic];lia,b0,rfl⟩
 rw [au (env':=_) (by
  unfold fF
  simp only [pv,seval,op]
  rw [if_pos (by lia),show ((first:Int) + 3 - (first:Int)).toNat=3 by lia]
  simp only [pv,seval,op]
  exact ef)]
 unfold eR
 obtain ⟨K,many,ra,OL,et⟩:=si nZ aZ (by lia) bd
 have f2:=j3 (cb eD K)
 refine ⟨K,many,ra,?_⟩
 unfold eN eCh
 simp only [pv,seval,op,et,f2,ho]
abbrev Lv:=List (Int×Int)
noncomputable def lk (L:Lv) (s:Int):Int:=((L.find? fun z=>z.1 == s).map (·.2)).getD 0
noncomputable def dL (L:Lv):D:=.dct false ((L.map (·.1)).map D.int) ((L.map (·.2)).map D.int)
theorem xG:∀ (L:Lv) (s:Int),getD ((L.map (·.1)).map D.int) ((L.map (·.2)).map D.int) (.int s)=(L.find? fun z=>z.1 == s).map fun z=>D.int z.2
 | [],s=>rfl
 | z :: L,s=>by
  have ih:=xG L s
  unfold getD at ih ⊢
  rw [eE,eE,eE,eE,List.zip_cons_cons]
  by_cases e:z.1=s
  ·rw [List.find?_cons_of_pos (by show eqD (.int s) (.int z.1)=true;rw [eqD,beq_iff_eq];exact e.symm),List.find?_cons_of_pos (by simpa using e)]
   rfl
  ·rw [List.find?_cons_of_neg (by show ¬ eqD (.int s) (.int z.1)=true;rw [eqD,beq_iff_eq];exact fun q=>e q.symm),List.find?_cons_of_neg (by simpa using e)]
   exact ih
theorem sj {L:Lv} {s:Int} (h:s∈L.map (·.1)):(L.find? fun z=>z.1 == s)=some (s,lk L s):=by
 unfold lk
 cases hf:L.find? fun z=>z.1 == s with
 | none=>
  rw [List.find?_eq_none] at hf
  obtain ⟨z,hz,e⟩:=i5 h
  exact absurd (beq_iff_eq.mpr e) (hf z hz)
 | some z=>
  have:=List.find?_some hf
  have:z.1=s:=by simpa using this
  rw [Option.map_some,Option.getD_some,<-this]
theorem yz {L:Lv} {s:Int} (h:s∉L.map (·.1)):(L.find? fun z=>z.1 == s)=none:=by
 rw [List.find?_eq_none]
 intro z hz e
 exact h (List.mem_map.mpr ⟨z,hz,beq_iff_eq.mp e⟩)
theorem Dq {L:Lv} {s:Int} (h:s∈L.map (·.1)):Jc (dL L) (.int s)=.ok (.f,.int (lk L s)):=by
 unfold Jc dL
 dsimp only
 rw [if_pos (show fC false (.int s)=true from rfl),xG,sj h]
 rfl
theorem Fw (L:Lv) (s:Int):Ln (.int s) (dL L)=.ok (.f,.bl (decide (s∈L.map (·.1)))):=by
 unfold Ln dL
 dsimp only
 rw [if_pos (show fC false (.int s)=true from rfl),xG]
 by_cases h:s∈L.map (·.1)
 ·rw [sj h,decide_eq_true h]
  rfl
 ·rw [yz h,decide_eq_false h]
  rfl
theorem Es (L:Lv) (s:Int):qo (.int s) (dL L)=.ok (.f,.bl (!decide (s∈L.map (·.1)))):=by
 unfold qo dL
 dsimp only
 rw [if_pos (show fC false (.int s)=true from rfl),xG]
 by_cases h:s∈L.map (·.1)
 ·rw [sj h,decide_eq_true h]
  rfl
 ·rw [yz h,decide_eq_false h]
  rfl
theorem Et {L:Lv} {s:Int} (h:s∉L.map (·.1)) (v:Int):qk ((L.map (·.1)).map D.int) ((L.map (·.2)).map D.int) (.int s) (.int v)=(((L++[(s,v)]).map (·.1)).map D.int,((L++[(s,v)]).map (·.2)).map D.int):=by
 have e:((L.map (·.1)).map D.int).any (eqD (.int s))=false:=by
  rw [List.any_map,List.any_eq_false]
  intro x hx
  show ¬ eqD (.int s) (.int x)=true
  rw [eqD,beq_iff_eq]
  rintro rfl
  exact h hx
 unfold qk
 rw [e,if_neg Bool.false_ne_true,List.map_append,List.map_append,List.map_append,List.map_append]
 rfl
theorem AL {L:Lv} (nd:(L.map (·.1)).Nodup) {z:Int×Int} (h:z∈L):lk L z.1=z.2:=by
 have hf:=sj (List.mem_map.mpr ⟨z,h,rfl⟩)
 have hm:=List.mem_of_find?_eq_some hf
 clear hf
 induction L with
 | nil=>cases h
 | cons y L ih=>
  rw [eE,List.nodup_cons] at nd
  by_cases e:y.1=z.1
  ·have hy:z=y:=by
    rcases List.mem_cons.mp h with h | h
    ·exact h
    ·exact absurd (List.mem_map.mpr ⟨z,h,e.symm⟩) nd.1
   unfold lk
   rw [hy,List.find?_cons_of_pos (by simp)]
   rfl
  ·have e2:lk (y :: L) z.1=lk L z.1:=by
    unfold lk
    rw [List.find?_cons_of_neg (by simpa using e)]
   have hz:z∈L:=(List.mem_cons.mp h).resolve_left fun q=>e (by rw [q])
   rw [e2]
   refine ih nd.2 hz ?_
   rw [e2] at hm
   exact (List.mem_cons.mp hm).resolve_left fun q=>e (by rw [<-q])
structure Ls (aZ:List FK) (st:FK->Int) (many:Nat) (L:Lv):Prop where
 nd:(L.map (·.1)).Nodup
 z:(0,0)∈L
 bd:∀ x∈L.map (·.1),0<=x/\x < (many:Int)
 pt:∀ f:Int->Int,(∀ a∈aZ,f a.2.2=f a.1 + st a)->f 0=0->∀ y∈L,y.2=f y.1
theorem Ls.len {aZ:List FK} {st:FK->Int} {many:Nat} {L:Lv} (l:Ls aZ st many L):L.length<=many:=by
 have:=kO many l.nd l.bd
 rwa [a8] at this
theorem Ls.add {aZ:List FK} {st:FK->Int} {many:Nat} {L:Lv} (l:Ls aZ st many L) {a:FK} (ha:a∈aZ) (h1:a.1∈L.map (·.1)) (h2:a.2.2∉L.map (·.1)) (hb:0<=a.2.2/\a.2.2 < (many:Int)):Ls aZ st many (L++[(a.2.2,lk L a.1 + st a)]):=by
 refine ⟨?_,List.mem_append_left _ l.z,fun x hx=>?_,fun f hf h0 y hy=>?_⟩
 ·rw [List.map_append]
  refine List.nodup_append.mpr ⟨l.nd,List.nodup_cons.mpr ⟨List.not_mem_nil,List.nodup_nil⟩,fun x hx y hy=>?_⟩
  rw [eE,List.map_nil,List.mem_singleton] at hy
  rw [hy]
  rintro rfl
  exact h2 hx
 ·rw [List.map_append] at hx
  rcases kN hx with hx | hx
  ·exact l.bd x hx
  ·rw [eE,List.map_nil,List.mem_singleton] at hx
   rw [hx]
   exact hb
 ·rcases kN hy with hy | hy
  ·exact l.pt f hf h0 y hy
  ·rw [kM hy]
   obtain ⟨z,hz,ez⟩:=i5 h1
   have e1:=AL l.nd hz
   have e2:=l.pt f hf h0 z hz
   rw [ez] at e1 e2
   dsimp only
   rw [hf a ha,e1,e2]
section
variable {nZ:LNN} {aZ:List FK} {many:Nat} {N:List Nd} {T:List FK}
noncomputable def HQ (nZ:LNN) (uZ:List Int) (a:FK):Int:=uZ.getD (nZ.idxOf a.2.1) 0
theorem Eu (c:Ck nZ aZ many N T) (uZ:List Int) (RD:D) (hR:∀ k:Nat,k < nZ.length->FW RD (.int (k:Int))=.ok (.f,.int (uZ.getD k 0))) (L:Lv) (l:Ls aZ (HQ nZ uZ) many L) (fr:Bool) (a:FK) (ha:a∈aZ) (t7:Option R) :
  ∃ L' fr' u7,Ls aZ (HQ nZ uZ) many L'/\((L'=L/\fr'=fr/\(a.1∈L.map (·.1)->a.2.2∈L.map (·.1)))\/(L'.length=L.length + 1/\fr'=true))/\dj [some (.f,eCh nZ aZ),some (.f,RD),some (.d,dL L),some (.f,.bl fr),some (.f,.int a.1),some (.f,.str a.2.1),some (.f,.int a.2.2),t7]=.ok (.nx [some (.f,eCh nZ aZ),some (.f,RD),some (.d,dL L'),some (.f,.bl fr'),some (.f,.int a.1),some (.f,.str a.2.1),some (.f,.int a.2.2),u7]):=by
 have hm:=c.nm a ha
 have Hl:=qH hm
 have hr:=hR _ (List.idxOf_lt_length_of_mem hm)
 have hlen:=l.len
 have hm1:=c.m1
 unfold dj
 have s1:(bK 7 (aD FW (ao 1) (aq (xl mw (aq (aD FW (ao 0) (aq (aJ (.int 0))))) (ag (ao 5) aA))))) [some (.f,eCh nZ aZ),some (.f,RD),some (.d,dL L),some (.f,.bl fr),some (.f,.int a.1),some (.f,.str a.2.1),some (.f,.int a.2.2),t7]=.ok (.nx [some (.f,eCh nZ aZ),some (.f,RD),some (.d,dL L),some (.f,.bl fr),some (.f,.int a.1),some (.f,.str a.2.1),some (.f,.int a.2.2),some (.f,.int (HQ nZ uZ a))]):=by
  unfold eCh HQ
  simp only [pv,seval,op,Hl,hr]
 rw [au s1]
 have IW:=Fw L a.1
 have Jm:=Es L a.2.2
 by_cases h1:a.1∈L.map (·.1)
 ·rw [decide_eq_true h1] at IW
  by_cases h2:a.2.2∈L.map (·.1)
  ·rw [decide_eq_true h2] at Jm
   refine ⟨L,fr,some (.f,.int (HQ nZ uZ a)),l,.inl ⟨rfl,rfl,fun _=>h2⟩,?_⟩
   simp only [pv,seval,op,IW,Jm,Bool.not_true,fO]
  ·rw [decide_eq_false h2] at Jm
   have Qy:=Dq h1
   have hput:=Et h2 (lk L a.1 + HQ nZ uZ a)
   have hz:decide (L.length < sizeLine)=true:=decide_eq_true (gL (by lia))
   refine ⟨L++[(a.2.2,lk L a.1 + HQ nZ uZ a)],true,some (.f,.int (HQ nZ uZ a)),l.add ha h1 h2 (c.hb a ha).2,.inr ⟨by rw [i6];rfl,rfl⟩,?_⟩
   simp only [pv,seval,op,IW,Jm,Bool.not_false]
   unfold dL at Qy ⊢
   simp only [pv,seval,op,Qy,a8,hz,Bool.and_self,hput]
 ·rw [decide_eq_false h1] at IW
  refine ⟨L,fr,some (.f,.int (HQ nZ uZ a)),l,.inl ⟨rfl,rfl,fun h=>absurd h h1⟩,?_⟩
  simp only [pv,seval,op,IW,fO]
noncomputable def MY (nZ:LNN) (N:List Nd) (uZ:List Int) (a:FK):Bool:=th nZ N uZ a.2.2 == th nZ N uZ a.1 + HQ nZ uZ a
theorem Ck.th0 (c:Ck nZ aZ many N T) (uZ:List Int):th nZ N uZ 0=0:=by
 unfold th
 have:=om c.F.nd (List.mem_of_getElem? c.F.z)
 dsimp only at this
 rw [this,v7]
theorem Ck.levels (c:Ck nZ aZ many N T) (uZ:List Int) (hl:uZ.length=nZ.length) (RD:D) (hR:∀ k:Nat,k < nZ.length->FW RD (.int (k:Int))=.ok (.f,.int (uZ.getD k 0))):cX [eCh nZ aZ,RD]=if aZ.all (MY nZ N uZ) then .ok (.l .f,.lst (((List.range many).map fun (s:Nat)=>th nZ N uZ (s:Int)).map D.int)) else .ok (.f,.non):=by
 have hm1:=c.m1
 have HX:=c.al
 unfold cX jz
 rw [bh (h:=by rfl)]
 rw [au (env':=[some (.f,eCh nZ aZ),some (.f,RD),some (.d,dL [(0,0)]),none,none,none,none,none]) (by simp only [pv,seval,op];rfl)]
 rw [au (env':=[some (.f,eCh nZ aZ),some (.f,RD),some (.d,dL [(0,0)]),some (.f,.bl true),none,none,none,none]) (by simp only [pv,seval,op])]
 have l0:Ls aZ (HQ nZ uZ) many [(0,0)]:=⟨List.nodup_cons.mpr ⟨List.not_mem_nil,List.nodup_nil⟩,List.mem_singleton.mpr rfl,fun x hx=>by
  rw [eE,List.map_nil,List.mem_singleton] at hx
  lia,fun f hf h0 y hy=>by rw [kM hy];exact h0.symm⟩
 obtain ⟨env',ew,L,t4,t5,t6,t7,l,hclo,rfl⟩:=jF (c:=Gg (aK 3)) (g:=eK)
  (fun k env=>∃ L fr t4 t5 t6 t7,Ls aZ (HQ nZ uZ) many L/\(fr=false->∀ a∈aZ,a.1∈L.map (·.1)->a.2.2∈L.map (·.1))/\k=(if fr=true then 14 - L.length else 0)/\env=[some (.f,eCh nZ aZ),some (.f,RD),some (.d,dL L),some (.f,.bl fr),t4,t5,t6,t7]) (fun env=>∃ L t4 t5 t6 t7,Ls aZ (HQ nZ uZ) many L/\(∀ a∈aZ,a.1∈L.map (·.1)->a.2.2∈L.map (·.1))/\env=[some (.f,eCh nZ aZ),some (.f,RD),some (.d,dL L),some (.f,.bl false),t4,t5,t6,t7]) (by
  rintro k env ⟨L,fr,t4,t5,t6,t7,l,Kh,rfl,rfl⟩
  have hlen:=l.len
  cases fr with
  | false=>exact .inl ⟨[some (.f,eCh nZ aZ),some (.f,RD),some (.d,dL L),some (.f,.bl false),t4,t5,t6,t7],by simp only [pv,seval,op],L,t4,t5,t6,t7,l,Kh rfl,rfl⟩
  | true=>
   refine .inr ⟨[some (.f,eCh nZ aZ),some (.f,RD),some (.d,dL L),some (.f,.bl true),t4,t5,t6,t7],by simp only [pv,seval,op],?_⟩
   obtain ⟨env',ef,L2,LX,u4,u5,u6,u7,l2,hq,rfl⟩:=for_list (a:=fW 3 (aB (ax 4) (aB (ax 5) (aB (ax 6) cq)))) (g:=dj) (e:=eA) aZ (fun j env=>∃ L2 LX t4 t5 t6 t7,Ls aZ (HQ nZ uZ) many L2/\((LX=false/\L2=L/\∀ a∈aZ.take j,a.1∈L.map (·.1)->a.2.2∈L.map (·.1))\/(LX=true/\L.length < L2.length))/\env=[some (.f,eCh nZ aZ),some (.f,RD),some (.d,dL L2),some (.f,.bl LX),t4,t5,t6,t7]) (by
    rintro j a env hj ⟨L2,LX,t4,t5,t6,t7,l2,hq,rfl⟩
    have Kl:=List.mem_of_getElem? hj
    have ht:aZ.take (j + 1)=aZ.take j++[a]:=by rw [List.take_add_one,hj];rfl
    obtain ⟨L3,Mf,u7,l3,hd,e⟩:=Eu c uZ RD hR L2 l2 LX a Kl t7
    refine ⟨[some (.f,eCh nZ aZ),some (.f,RD),some (.d,dL L2),some (.f,.bl LX),some (.f,.int a.1),some (.f,.str a.2.1),some (.f,.int a.2.2),t7],by unfold eA;simp only [pv,seval],_,e,L3,Mf,_,_,_,u7,l3,?_,rfl⟩
    rcases hd with ⟨rfl,rfl,hd⟩ | ⟨hd1,hd2⟩
    ·rcases hq with ⟨q1,rfl,q3⟩ | hq
     ·refine .inl ⟨q1,rfl,fun b hb h=>?_⟩
      rw [ht] at hb
      rcases kN hb with hb | hb
      ·exact q3 b hb h
      ·rw [List.mem_singleton] at hb
       subst hb
       exact hd h
     ·exact .inr hq
    ·refine .inr ⟨hd2,?_⟩
     rcases hq with ⟨_,rfl,_⟩ | hq
     ·lia
     ·lia) _ ⟨L,false,t4,t5,t6,t7,l,.inl ⟨rfl,rfl,fun a ha=>by rw [List.take_zero] at ha;exact nomatch ha⟩,rfl⟩
   rw [List.take_length] at hq
   have Im:=l2.len
   refine ⟨_,(if LX=true then 14 - L2.length else 0),?_,?_,L2,LX,u4,u5,u6,u7,l2,?_,rfl,rfl⟩
   ·unfold eK
    rw [au (env':=[some (.f,eCh nZ aZ),some (.f,RD),some (.d,dL L),some (.f,.bl false),t4,t5,t6,t7]) (by simp only [pv,seval,op])]
    unfold hJ
    unfold eCh at ef ⊢
    simp only [pv,seval,op]
    exact ef
   ·rw [if_pos rfl]
    split
    ·rename_i h2
     rcases hq with ⟨h,_⟩ | hq
     ·rw [h] at h2
      cases h2
     ·lia
    ·lia
   ·intro h
    rcases hq with ⟨_,rfl,q⟩ | ⟨q,_⟩
    ·exact q
    ·rw [q] at h
     cases h) 100000 13 _ (by decide) ⟨[(0,0)],true,none,none,none,none,l0,(fun h=>nomatch h),rfl,rfl⟩
 rw [au (env':=_) (by
  unfold hU
  exact ew)]
 have hlen:=l.len
 have GJ:∀ s:Int,0<=s->s < (many:Int)->s∈L.map (·.1):=by
  have key:∀ (k:Nat) (n:Nd),n∈N->n.2.length=k->n.1∈L.map (·.1):=by
   intro k
   induction k using Nat.strongRecOn with
   | _ k ih=>
    intro n hn hk
    rcases c.F.par n hn with rfl | ⟨a,ha,m,hm,e1,rfl⟩
    ·exact List.mem_map.mpr ⟨_,l.z,rfl⟩
    ·refine hclo a ha ?_
     rw [e1]
     exact ih m.2.length (by rw [<-hk];show _ < (m.2++[a.2.1]).length;rw [i6,List.length_singleton];lia) m hm rfl
  intro s h0 h1
  obtain ⟨n,hn,rfl⟩:=i5 (c.all s h0 h1)
  exact key _ n hn rfl
 have hLl:L.length=many:=by
  have:=qI ((List.range many).map fun (k:Nat)=>(k:Int)) (L.map (·.1)) (ie _ _ fun i j _ _ e=>by lia) fun x hx=>by
   obtain ⟨k,hk,rfl⟩:=i5 hx
   have:=List.mem_range.mp hk
   exact GJ _ (by lia) (by lia)
  rw [a8,a8,List.length_range] at this
  lia
 have hk0:lk L 0=0:=AL l.nd l.z
 have key:=for_all (a:=fW 3 (aB (ax 4) (aB (ax 5) (aB (ax 6) cq)))) (g:=eJ) (e:=eA) (r:=(.f,.non)) (fun env=>∃ t4 t5 t6 t7,env=[some (.f,eCh nZ aZ),some (.f,RD),some (.d,dL L),some (.f,.bl false),t4,t5,t6,t7]) (fun a=>lk L a.2.2 == lk L a.1 + HQ nZ uZ a) aZ (by
  rintro a ha env ⟨t4,t5,t6,t7,rfl⟩
  have HZ:=c.hb a ha
  have hm:=c.nm a ha
  have Hl:=qH hm
  have hr:=hR _ (List.idxOf_lt_length_of_mem hm)
  have g1:=Dq (GJ a.1 HZ.1.1 HZ.1.2)
  have g2:=Dq (GJ a.2.2 HZ.2.1 HZ.2.2)
  refine ⟨[some (.f,eCh nZ aZ),some (.f,RD),some (.d,dL L),some (.f,.bl false),some (.f,.int a.1),some (.f,.str a.2.1),some (.f,.int a.2.2),t7],by unfold eA;simp only [pv,seval],?_⟩
  unfold eJ
  have s1:(bK 7 (aD FW (ao 1) (aq (xl mw (aq (aD FW (ao 0) (aq (aJ (.int 0))))) (ag (ao 5) aA))))) [some (.f,eCh nZ aZ),some (.f,RD),some (.d,dL L),some (.f,.bl false),some (.f,.int a.1),some (.f,.str a.2.1),some (.f,.int a.2.2),t7]=.ok (.nx [some (.f,eCh nZ aZ),some (.f,RD),some (.d,dL L),some (.f,.bl false),some (.f,.int a.1),some (.f,.str a.2.1),some (.f,.int a.2.2),some (.f,.int (HQ nZ uZ a))]):=by
   unfold eCh HQ
   simp only [pv,seval,op,Hl,hr]
  rw [au s1]
  cases hq:(lk L a.2.2 == lk L a.1 + HQ nZ uZ a) with
  | true=>
   rw [if_pos rfl]
   refine ⟨_,?_,some (.f,.int a.1),some (.f,.str a.2.1),some (.f,.int a.2.2),some (.f,.int (HQ nZ uZ a)),rfl⟩
   simp only [pv,seval,op,g1,g2,hq,Bool.not_true,fO]
  | false=>
   rw [if_neg Bool.false_ne_true]
   simp only [pv,seval,op,g1,g2,hq,Bool.not_false]) _ ⟨t4,t5,t6,t7,rfl⟩
 unfold gK
 cases hall2:aZ.all (fun a=>lk L a.2.2 == lk L a.1 + HQ nZ uZ a) with
 | true=>
  rw [hall2,if_pos rfl] at key
  obtain ⟨env',ef,u4,u5,u6,u7,rfl⟩:=key
  rw [List.all_eq_true] at hall2
  have MZ:=c.pot uZ hl (lk L) (fun a ha=>by have:=hall2 a ha;exact beq_iff_eq.mp this)
  have M0:aZ.all (MY nZ N uZ)=true:=List.all_eq_true.mpr fun a ha=>by
   have HZ:=c.hb a ha
   have h1:=MZ a.1 HZ.1.1 HZ.1.2
   have h2:=MZ a.2.2 HZ.2.1 HZ.2.2
   have h3:=beq_iff_eq.mp (hall2 a ha)
   unfold MY
   rw [beq_iff_eq]
   lia
  rw [M0,if_pos rfl]
  rw [au (env':=_) (by
   unfold fG
   unfold eCh at ef ⊢
   simp only [pv,seval,op]
   exact ef)]
  have Hf:b5 (ax 0) cN (aD Jc (ao 1) (ao 0)) ((List.range many).map fun (k:Nat)=>D.int (k:Int)) [none,some (.f,dL L)]=.ok (((List.range many).map fun (s:Nat)=>th nZ N uZ (s:Int)).map D.int):=by
   rw [aV (r:=fun s:Nat=>D.int (th nZ N uZ (s:Int))) (fun env=>∃ t,env=[t,some (.f,dL L)]) (List.range many) ?_ _ ⟨none,rfl⟩]
   ·rw [List.map_map]
    rfl
   ·rintro s hs env ⟨t,rfl⟩
    have hs:=List.mem_range.mp hs
    have g:=Dq (GJ (s:Int) (by lia) (by lia))
    have h1:=MZ (s:Int) (by lia) (by lia)
    rw [hk0,Int.sub_zero] at h1
    rw [<-h1] at g
    refine ⟨[some (.f,.int (s:Int)),some (.f,dL L)],rfl,.f,[some (.f,.int (s:Int)),some (.f,dL L)],?_,_,rfl⟩
    simp only [pv,seval,op,g]
  have PN:(((List.range many).map fun (s:Nat)=>th nZ N uZ (s:Int)).map D.int).length<=sizeLine:=aN (by rw [a8,a8,List.length_range];lia)
  have PQ:=FD ((List.range many).map fun (s:Nat)=>th nZ N uZ (s:Int))
  unfold gJ
  generalize (aD Jc (ao 1) (ao 0))=GG at Hf ⊢
  unfold dL at Hf ⊢
  simp only [pv,seval,op,a8]
  rw [if_pos (by lia)]
  simp only [pv,seval,op,Int.toNat_natCast,hLl,Hf,PN,PQ]
 | false=>
  rw [hall2,if_neg Bool.false_ne_true] at key
  have M0:aZ.all (MY nZ N uZ)=false:=by
   refine Bool.eq_false_iff.mpr fun h=>?_
   rw [List.all_eq_true] at h
   have hv:=l.pt (th nZ N uZ) (fun a ha=>by have:=h a ha;unfold MY at this;exact beq_iff_eq.mp this) (c.th0 uZ)
   have Qz:∀ s:Int,0<=s->s < (many:Int)->lk L s=th nZ N uZ s:=fun s h0 h1=>by
    obtain ⟨z,hz,e⟩:=i5 (GJ s h0 h1)
    rw [<-e,AL l.nd hz]
    exact hv z hz
   have:aZ.all (fun a=>lk L a.2.2 == lk L a.1 + HQ nZ uZ a)=true:=List.all_eq_true.mpr fun a ha=>by
    have HZ:=c.hb a ha
    have h3:=h a ha
    unfold MY at h3
    rw [Qz a.1 HZ.1.1 HZ.1.2,Qz a.2.2 HZ.2.1 HZ.2.2]
    exact h3
   rw [hall2] at this
   cases this
  rw [M0,if_neg Bool.false_ne_true,HP]
  unfold fG
  unfold eCh at key ⊢
  simp only [pv,seval,op,key]
end
theorem getD_of {α:Type} {l:List α} {i:Nat} {x d:α} (h:l[i]?=some x):l.getD i d=x:=by
 rw [List.getD_eq_getElem?_getD,h]
 rfl
theorem wc (c:Int):∀ (x r:List Int),pr (x.map fun v=>c * v) r=c * pr x r
 | [],r=>by
  unfold pr
  simp
 | a :: x,[]=>by
  unfold pr
  simp
 | a :: x,b :: r=>by
  rw [eE,dN,dN,wc c x r,Int.mul_add,Int.mul_assoc]
theorem we:∀ (x r:List Int),pr (x.map fun v=>0 - v) r=0 - pr x r
 | [],r=>by
  unfold pr
  simp
 | a :: x,[]=>by
  unfold pr
  simp
 | a :: x,b :: r=>by
  rw [eE,dN,dN,we x r,Int.sub_mul,Int.zero_mul]
  lia
theorem yA:∀ (x y r:List Int),x.length=y.length->pr ((x.zip y).map fun p=>p.1 + p.2) r=pr x r + pr y r
 | [],[],r,_=>by
  unfold pr
  simp
 | [],_ :: _,_,h=>by simp at h
 | _ :: _,[],_,h=>by simp at h
 | a :: x,b :: y,[],_=>by
  unfold pr
  simp
 | a :: x,b :: y,c :: r,h=>by
  rw [List.zip_cons_cons,eE,dN,dN,dN,yA x y r (by simpa using h),Int.add_mul]
  dsimp only
  lia
theorem oz {l:List Int} {m:Int} (hm:m∈l) (h:∀ x∈l,m<=x):dR l=m:=by
 have h1:=oy hm
 have h2:=h _ (jI (List.ne_nil_of_mem hm))
 lia
theorem xH {l:List Int} {m:Int} (hm:m∈l) (h:∀ x∈l,x<=m):cU l=m:=by
 have h1:=iE hm
 have h2:=h _ (iF (List.ne_nil_of_mem hm))
 lia
section
variable {nZ:LNN} {aZ:List FK} {many:Nat} {N:List Nd} {T:List FK}
structure St (nZ:LNN) (aZ:List FK) (N:List Nd) (uZ:List Int):Prop where
 hl:uZ.length=nZ.length
 pt:∀ a∈aZ,th nZ N uZ a.2.2=th nZ N uZ a.1 + HQ nZ uZ a
 us:∀ k:Nat,k < nZ.length->uZ.getD k 0≠0->nZ.getD k []∈aZ.map (·.2.1)
theorem St.is (s:St nZ aZ N uZ) (c:Ck nZ aZ many N T):bO [eCh nZ aZ,.tup (uZ.map D.int)]=.ok (.f,.bl true):=by
 refine c.stretch uZ (fun a ha=>?_) fun z hz=>?_
 ·rw [AI nZ N a uZ c.nn s.hl (c.nm a ha)]
  have h3:=s.pt a ha
  unfold th HQ at h3
  lia
 ·obtain ⟨k,hk⟩:=List.mem_iff_getElem?.mp hz
  obtain ⟨k1,k2⟩:=List.getElem?_zip_eq_some.mp (show (nZ.zip uZ)[k]?=some (z.1,z.2) from hk)
  have Gn:=(j0 k1).1
  by_cases h0:z.2=0
  ·exact .inl h0
  ·right
   have:=s.us k Gn (by rw [getD_of k2];exact h0)
   rw [getD_of k1] at this
   obtain ⟨a,ha,e⟩:=i5 this
   exact ⟨a,ha,e⟩
theorem St.bs (s:St nZ aZ N uZ) (c:Ck nZ aZ many N T):bC [eCh nZ aZ,.tup (uZ.map D.int)]=.ok (.l .f,.lst ((bds nZ N uZ many).map D.int)):=c.beads uZ (s.is c)
theorem St.mul {uZ:List Int} (s:St nZ aZ N uZ) (t:Int):St nZ aZ N (uZ.map fun v=>t * v):=by
 have h1:∀ x,th nZ N (uZ.map fun v=>t * v) x=t * th nZ N uZ x:=fun x=>wc t uZ _
 have h2:∀ k,(uZ.map fun v=>t * v).getD k 0=t * uZ.getD k 0:=fun k=>by
  rw [List.getD_eq_getElem?_getD,List.getElem?_map,List.getD_eq_getElem?_getD]
  cases uZ[k]? with
  | none=>exact (Int.mul_zero t).symm
  | some v=>rfl
 refine ⟨by rw [a8];exact s.hl,fun a ha=>?_,fun k hk hne=>s.us k hk fun h0=>hne ?_⟩
 ·have:=s.pt a ha
  unfold HQ at this ⊢
  rw [h1,h1,h2,this,Int.mul_add]
 ·rw [h2,h0,Int.mul_zero]
theorem St.neg {uZ:List Int} (s:St nZ aZ N uZ):St nZ aZ N (uZ.map fun v=>0 - v):=by
 have h1:∀ x,th nZ N (uZ.map fun v=>0 - v) x=0 - th nZ N uZ x:=fun x=>we uZ _
 have h2:∀ k,(uZ.map fun v=>0 - v).getD k 0=0 - uZ.getD k 0:=fun k=>by
  rw [List.getD_eq_getElem?_getD,List.getElem?_map,List.getD_eq_getElem?_getD]
  cases uZ[k]? with
  | none=>rfl
  | some v=>rfl
 refine ⟨by rw [a8];exact s.hl,fun a ha=>?_,fun k hk hne=>s.us k hk fun h0=>hne ?_⟩
 ·have:=s.pt a ha
  unfold HQ at this ⊢
  rw [h1,h1,h2,this]
  lia
 ·rw [h2,h0]
  rfl
noncomputable def kP (x y:List Int):List Int:=(x.zip y).map fun p=>p.1 + p.2
theorem yB {x y:List Int} {k:Nat} (h1:k < x.length) (h2:k < y.length):(kP x y).getD k 0=x.getD k 0 + y.getD k 0:=by
 have e:(x.zip y)[k]?=some (x[k],y[k]):=List.getElem?_zip_eq_some.mpr ⟨kq h1,kq h2⟩
 unfold kP
 rw [getD_of (kq h1),getD_of (kq h2)]
 exact getD_of (by rw [List.getElem?_map,e];rfl)
theorem St.add {x y:List Int} (s:St nZ aZ N x) (s':St nZ aZ N y) (c:Ck nZ aZ many N T):St nZ aZ N (kP x y)/\∀ v,th nZ N (kP x y) v=th nZ N x v + th nZ N y v:=by
 have hx:=s.hl
 have hy:=s'.hl
 have h1:∀ v,th nZ N (kP x y) v=th nZ N x v + th nZ N y v:=fun v=>yA x y _ (by lia)
 refine ⟨⟨by unfold kP;rw [a8,List.length_zip];lia,fun a ha=>?_,fun k hk hne=>?_⟩,h1⟩
 ·have hk:=List.idxOf_lt_length_of_mem (c.nm a ha)
  have p1:=s.pt a ha
  have p2:=s'.pt a ha
  unfold HQ at p1 p2 ⊢
  rw [h1,h1,yB (by lia) (by lia)]
  lia
 ·rw [yB (by lia) (by lia)] at hne
  by_cases h0:x.getD k 0=0
  ·exact s'.us k hk (by lia)
  ·exact s.us k hk h0
theorem qK (v:Int):th nZ N (nZ.map fun _=>0) v=0:=by
 have:∀ (l:LNN) (r:List Int),pr (l.map fun _=>(0:Int)) r=0
 :=fun l=>by
  induction l with
  | nil=>
   intro r
   unfold pr
   simp
  | cons a l ih=>
   intro r
   cases r with
   | nil=>
    unfold pr
    simp
   | cons b r=>rw [eE,dN,ih r,Int.zero_mul,Int.add_zero]
 exact this nZ _
theorem wg (l:LNN) (k:Nat):(l.map fun _=>(0:Int)).getD k 0=0:=by
 rw [List.getD_eq_getElem?_getD,List.getElem?_map]
 cases l[k]? <;> rfl
theorem St.zero (nZ:LNN) (aZ:List FK) (N:List Nd):St nZ aZ N (nZ.map fun _=>0):=by
 refine ⟨a8 _,fun a _=>?_,fun k _ h=>absurd (wg nZ k) h⟩
 unfold HQ
 rw [qK,qK,wg]
 rfl
theorem me (aZ:List FK):b5 (fW 3 (aB (ax 0) (aB (ax 1) (aB (ax 2) cq)))) cN (aK 1) (aZ.map eA) [none,none,none]=.ok ((aZ.map (·.2.1)).map D.str):=by
 rw [aV (r:=fun a:FK=>D.str a.2.1) (fun env=>∃ t u v,env=[t,u,v]) aZ ?_ _ ⟨none,none,none,rfl⟩]
 ·rw [List.map_map]
  rfl
 ·rintro a _ env ⟨t,u,v,rfl⟩
  exact ⟨[some (.f,.int a.1),some (.f,.str a.2.1),some (.f,.int a.2.2)],by unfold eA;simp only [pv,seval],.f,_,rfl,_,_,_,rfl⟩
theorem wj (a:List Nat) (l:LNN):tN (.str a) (.lst (l.map D.str))=.ok (.f,.bl (!decide (a∈l))):=by
 unfold tN
 rw [rY]
 rfl
theorem xI (c:Ck nZ aZ many N T) (uZ:List Int) (hl:uZ.length=nZ.length):∃ bb:Bool,(bb=true->St nZ aZ N uZ)/\bP [eCh nZ aZ,.lst (uZ.map D.int)]=.ok (.f,.bl bb):=by
 have MW:=c.n3
 have HX:=c.al
 have hm:=c.m1
 have Og:=me aZ
 have Oh:((aZ.map (·.2.1)).map D.str).length<=sizeLine:=aN (by rw [a8,a8];lia)
 have Oi:=PV.flat_strs (aZ.map (·.2.1))
 have KW:=c.levels uZ hl (.lst (uZ.map D.int)) fun k hk=>by rw [Ac,ib (by lia)]
 unfold bP f7
 rw [bh (h:=by rfl)]
 rw [au (env':=[some (.f,eCh nZ aZ),some (.f,.lst (uZ.map D.int)),some (.l .f,.lst ((aZ.map (·.2.1)).map D.str)),none]) (by
  unfold eCh
  simp only [pv,seval,op,Og,Oh,Oi])]
 have key:=for_all (a:=ax 3) (g:=c5) (e:=fun (k:Nat)=>D.int (k:Int)) (r:=(.f,.bl false)) (fun env=>∃ t3,env=[some (.f,eCh nZ aZ),some (.f,.lst (uZ.map D.int)),some (.l .f,.lst ((aZ.map (·.2.1)).map D.str)),t3]) (fun k=>uZ.getD k 0 == 0 || decide (nZ.getD k []∈aZ.map (·.2.1))) (List.range uZ.length) (by
  rintro k hk env ⟨t3,rfl⟩
  have hk:=List.mem_range.mp hk
  have q1:Gy (uZ.map D.int) (k:Int)=some (.int (uZ.getD k 0)):=ib hk
  have OM:Gy (nZ.map D.str) (k:Int)=some (.str (nZ.getD k [])):=by
   rw [vI (by lia),getD_of (kq (by lia))]
  have Jm:=wj (nZ.getD k []) (aZ.map (·.2.1))
  refine ⟨[some (.f,eCh nZ aZ),some (.f,.lst (uZ.map D.int)),some (.l .f,.lst ((aZ.map (·.2.1)).map D.str)),some (.f,.int (k:Int))],rfl,?_⟩
  unfold c5 eCh
  cases h0:(uZ.getD k 0 == 0) with
  | true=>
   rw [Bool.true_or,if_pos rfl]
   refine ⟨_,?_,some (.f,.int (k:Int)),rfl⟩
   simp only [pv,seval,op,q1,h0,Bool.not_true,fO]
  | false=>
   rw [Bool.false_or]
   by_cases hu:nZ.getD k []∈aZ.map (·.2.1)
   ·rw [decide_eq_true hu] at Jm ⊢
    rw [if_pos rfl]
    refine ⟨_,?_,some (.f,.int (k:Int)),rfl⟩
    simp only [pv,seval,op,q1,h0,OM,Jm,Bool.not_false,Bool.not_true,fO]
   ·rw [decide_eq_false hu] at Jm ⊢
    rw [if_neg Bool.false_ne_true]
    simp only [pv,seval,op,q1,h0,OM,Jm,Bool.not_false]) _ ⟨none,rfl⟩
 cases GJ:(List.range uZ.length).all (fun k=>uZ.getD k 0 == 0 || decide (nZ.getD k []∈aZ.map (·.2.1))) with
 | false=>
  rw [GJ,if_neg Bool.false_ne_true] at key
  refine ⟨false,(fun h=>nomatch h),?_⟩
  rw [HP]
  unfold dr
  simp only [pv,seval,op,a8]
  rw [if_pos (by lia)]
  simp only [pv,seval,op,Int.toNat_natCast,key]
 | true=>
  rw [GJ,if_pos rfl] at key
  obtain ⟨env',ef,t3,rfl⟩:=key
  rw [List.all_eq_true] at GJ
  rw [au (env':=_) (by
   unfold dr
   simp only [pv,seval,op,a8]
   rw [if_pos (by lia)]
   simp only [pv,seval,op,Int.toNat_natCast]
   exact ef)]
  unfold eS
  have Nj:dk .non=true:=rfl
  cases M0:aZ.all (MY nZ N uZ) with
  | false=>
   rw [M0,if_neg Bool.false_ne_true] at KW
   exact ⟨false,(fun h=>nomatch h),by simp only [pv,seval,op,KW,Nj,rU]⟩
  | true=>
   rw [M0,if_pos rfl] at KW
   have Iy:=FD ((List.range many).map fun (s:Nat)=>th nZ N uZ (s:Int))
   generalize (((List.range many).map fun (s:Nat)=>th nZ N uZ (s:Int)).map D.int)=TT at KW Iy
   have hisL:isnO (.lst TT) .non=.ok (.f,.bl true):=id rfl
   refine ⟨true,fun _=>⟨hl,fun a ha=>beq_iff_eq.mp (List.all_eq_true.mp M0 a ha),fun k hk hne=>?_⟩,by simp only [pv,seval,op,KW,Iy,hisL]⟩
   have:=GJ k (List.mem_range.mpr (by lia))
   rw [beq_eq_false_iff_ne.mpr hne,Bool.false_or,decide_eq_true_eq] at this
   exact this
theorem p4 (c:Ck nZ aZ many N T) (p:Pl) (hp:Kc p nZ.length):∃ uZ,St nZ aZ N uZ/\d5 [eCh nZ aZ,eP p]=.ok (.l .f,.lst (uZ.map D.int)):=by
 have MW:=c.n3
 have HX:=c.al
 have Og:=me aZ
 have Oh:((aZ.map (·.2.1)).map D.str).length<=sizeLine:=aN (by rw [a8,a8];lia)
 have Oi:=PV.flat_strs (aZ.map (·.2.1))
 unfold d5 mW
 rw [bh (h:=by rfl)]
 rw [au (env':=[some (.f,eCh nZ aZ),some (.f,eP p),some (.l .f,.lst ((aZ.map (·.2.1)).map D.str)),none,none,none]) (by
  unfold eCh
  simp only [pv,seval,op,Og,Oh,Oi])]
 rw [au (env':=[some (.f,eCh nZ aZ),some (.f,eP p),some (.l .f,.lst ((aZ.map (·.2.1)).map D.str)),some (.l .f,.lst []),none,none]) (by simp only [pv,seval,op])]
 obtain ⟨env',ef,uZ,t4,t5,hl,rfl⟩:=jZ (a:=ax 4) (g:=gw) (e:=fun k=>D.int (k:Int)) nZ.length (fun i env=>∃ (uZ:List Int) (t4 t5:Option R),uZ.length=i/\env=[some (.f,eCh nZ aZ),some (.f,eP p),some (.l .f,.lst ((aZ.map (·.2.1)).map D.str)),some (.l .f,.lst (uZ.map D.int)),t4,t5]) (by
  rintro k env hk ⟨uZ,t4,t5,hl,rfl⟩
  have q1:Gy (p.2.1.map D.int) (k:Int)=some (.int (p.2.1.getD k 0)):=ib (by rw [hp.1];exact hk)
  have q2:Gy (p.2.2.map D.int) (k:Int)=some (.int (p.2.2.getD k 0)):=ib (by rw [hp.2];exact hk)
  have OM:Gy (nZ.map D.str) (k:Int)=some (.str (nZ.getD k [])):=by
   rw [vI hk,getD_of (kq hk)]
  have IW:=rY (nZ.getD k []) (aZ.map (·.2.1))
  generalize decide (nZ.getD k []∈aZ.map (·.2.1))=bb at IW
  have hsm:cI (if bb=true then 1 else 0)=true:=by cases bb <;> rfl
  have hmu:=Dp (p.2.2.getD k 0 - p.2.1.getD k 0) (if bb=true then 1 else 0) hsm
  have hz:(uZ.map D.int).length < sizeLine:=gL (by rw [a8];lia)
  refine ⟨[some (.f,eCh nZ aZ),some (.f,eP p),some (.l .f,.lst ((aZ.map (·.2.1)).map D.str)),some (.l .f,.lst (uZ.map D.int)),some (.f,.int (k:Int)),t5],rfl,_,?_,uZ++[(p.2.2.getD k 0 - p.2.1.getD k 0) * (if bb=true then 1 else 0)],some (.f,.int (k:Int)),some (.f,.int (p.2.2.getD k 0 - p.2.1.getD k 0)),by rw [i6,hl];rfl,rfl⟩
  rw [List.map_append,eE,List.map_nil]
  unfold gw eP eCh
  simp only [pv,seval,op,q1,q2,at2,OM,IW,hmu,hz]) _ ⟨[],none,none,rfl,rfl⟩
 rw [List.map_nil] at ef
 rw [au (env':=_) (by
  unfold ko
  unfold eCh at ef ⊢
  simp only [pv,seval,op,a8]
  rw [if_pos (by lia)]
  simp only [pv,seval,op,Int.toNat_natCast]
  exact ef)]
 unfold jA
 obtain ⟨bb,JS,e⟩:=xI c uZ hl
 unfold eCh at e
 cases bb with
 | true=>exact ⟨uZ,JS rfl,by simp only [pv,seval,op,e]⟩
 | false=>
  have c0:=jH nZ 0
  have l0:((nZ.map fun _=>(0:Int)).map D.int).length<=sizeLine:=aN (by rw [a8,a8];lia)
  have f0:=FD (nZ.map fun _=>(0:Int))
  refine ⟨nZ.map fun _=>0,St.zero nZ aZ N,?_⟩
  rw [au (env':=[some (.f,.tup [.tup (nZ.map D.str),.lst (aZ.map eA)]),some (.f,eP p),some (.l .f,.lst ((aZ.map (·.2.1)).map D.str)),some (.l .f,.lst (uZ.map D.int)),t4,t5]) (by simp only [pv,seval,op,e,fO])]
  simp only [pv,seval,op,c0,l0,f0]
end
section
variable {nZ:LNN} {aZ:List FK} {many:Nat} {N:List Nd} {T:List FK}
theorem wm {x y:List Int} (f:Int->Int) (h:∀ v,th nZ N y v=f (th nZ N x v)):Hn nZ N y many=(Hn nZ N x many).map f:=by
 unfold Hn
 rw [List.map_map]
 exact List.map_congr_left fun s _=>h _
theorem Ck.hne (c:Ck nZ aZ many N T) (uZ:List Int):Hn nZ N uZ many≠[]:=fun h=>by
 have:=congrArg List.length h
 unfold Hn at this
 rw [a8,List.length_range,List.length_nil] at this
 have:=c.m1
 lia
theorem AM {l:List Int} (hl:l≠[]) {t:Int} (ht:0<=t):dR (l.map fun v=>t * v)=t * dR l:=by
 refine oz (List.mem_map.mpr ⟨_,jI hl,rfl⟩) fun x hx=>?_
 obtain ⟨y,hy,rfl⟩:=i5 hx
 exact Int.mul_le_mul_of_nonneg_left (oy hy) ht
theorem AN {l:List Int} (hl:l≠[]):dR (l.map fun v=>0 - v)=0 - cU l:=by
 refine oz (List.mem_map.mpr ⟨_,iF hl,rfl⟩) fun x hx=>?_
 obtain ⟨y,hy,rfl⟩:=i5 hx
 have:=iE hy
 lia
theorem AO {l:List Int} (hl:l≠[]) (c:Int):cU (l.map fun v=>v - c)=cU l - c:=by
 refine xH (List.mem_map.mpr ⟨_,iF hl,rfl⟩) fun x hx=>?_
 obtain ⟨y,hy,rfl⟩:=i5 hx
 have:=iE hy
 lia
theorem Ck.bmul (c:Ck nZ aZ many N T) (x:List Int) {t:Int} (ht:0<=t):bds nZ N (x.map fun v=>t * v) many=(bds nZ N x many).map fun v=>t * v:=by
 unfold bds
 rw [wm (x:=x) (fun v=>t * v) (fun v=>wc t x _),AM (c.hne x) ht,List.map_map,List.map_map]
 refine List.map_congr_left fun v _=>?_
 show t * v - t * _=t * (v - _)
 rw [Int.mul_sub]
theorem Ck.bneg (c:Ck nZ aZ many N T) (x:List Int):bds nZ N (x.map fun v=>0 - v) many=(bds nZ N x many).map fun v=>cU (bds nZ N x many) - v:=by
 have e:cU (bds nZ N x many)=cU (Hn nZ N x many) - dR (Hn nZ N x many):=AO (c.hne x) _
 rw [e]
 unfold bds
 rw [wm (x:=x) (fun v=>0 - v) (fun v=>we x _),AN (c.hne x),List.map_map,List.map_map]
 refine List.map_congr_left fun v _=>?_
 show 0 - v - (0 - _)=_ - _ - (v - _)
 lia
theorem AQ (x:List Int):bds nZ N x many=(List.range many).map fun (s:Nat)=>(fun v=>th nZ N x v - dR (Hn nZ N x many)) (s:Int):=by
 unfold bds
 rw [show Hn nZ N x many=(List.range many).map fun (s:Nat)=>th nZ N x (s:Int) from rfl,List.map_map]
 rfl
theorem i7 (x:List Int):(bds nZ N x many).length=many:=by
 rw [AQ,a8,List.length_range]
theorem Ck.bmin (c:Ck nZ aZ many N T) (x:List Int):dR (bds nZ N x many)=0:=by
 have hne:=c.hne x
 refine oz (List.mem_map.mpr ⟨_,jI hne,Int.sub_self _⟩) fun y hy=>?_
 obtain ⟨h,hh,rfl⟩:=i5 hy
 have:=oy hh
 lia
theorem Ck.bzero (c:Ck nZ aZ many N T):bds nZ N (nZ.map fun _=>0) many=(List.range many).map fun (_:Nat)=>(0:Int):=by
 have e:Hn nZ N (nZ.map fun _=>0) many=(List.range many).map fun (_:Nat)=>(0:Int):=by
  unfold Hn
  exact List.map_congr_left fun s _=>qK _
 have hne:=c.hne (nZ.map fun _=>0)
 unfold bds
 rw [e] at hne ⊢
 have hm:dR ((List.range many).map fun (_:Nat)=>(0:Int))=0:=by
  obtain ⟨_,_,h⟩:=i5 (jI hne)
  exact h.symm
 rw [hm,List.map_map]
 rfl
theorem AR {B:Int->Int} {bs:List Int} {m:List Nat} (hu:m∈aZ.map (·.2.1)):∃ a∈aZ,a.2.1=m/\tk B aZ bs m=B a.1:=by
 obtain ⟨a0,ha0,e0⟩:=i5 hu
 have hm:B a0.1∈hv B aZ m:=List.mem_map.mpr ⟨a0,List.mem_filter.mpr ⟨ha0,beq_iff_eq.mpr e0⟩,rfl⟩
 unfold tk NX.minD
 rw [if_neg (List.ne_nil_of_mem hm)]
 obtain ⟨a,ha,e⟩:=i5 (jI (List.ne_nil_of_mem hm))
 obtain ⟨ha,e2⟩:=List.mem_filter.mp ha
 exact ⟨a,ha,beq_iff_eq.mp e2,e.symm⟩
theorem Ck.tk0 (c:Ck nZ aZ many N T) (m:List Nat):tk (fun _=>0) aZ ((List.range many).map fun (_:Nat)=>(0:Int)) m=if (!decide (m∈aZ.map (·.2.1)))=true then 1 else 0:=by
 by_cases hu:m∈aZ.map (·.2.1)
 ·obtain ⟨a,ha,e1,e2⟩:=AR (B:=fun _=>0) (bs:=(List.range many).map fun (_:Nat)=>(0:Int)) hu
  rw [e2,decide_eq_true hu]
  rfl
 ·have Mw:hv (fun _=>(0:Int)) aZ m=[]:=by
   unfold hv
   rw [List.filter_eq_nil_iff.mpr fun a ha e=>hu (List.mem_map.mpr ⟨a,ha,beq_iff_eq.mp e⟩)]
   rfl
  have hm:cU ((List.range many).map fun (_:Nat)=>(0:Int))=0:=by
   have hne:((List.range many).map fun (_:Nat)=>(0:Int))≠[]:=fun h=>by
    have:=congrArg List.length h
    rw [a8,List.length_range,List.length_nil] at this
    have:=c.m1
    lia
   obtain ⟨_,_,h⟩:=i5 (iF hne)
   exact h.symm
  unfold tk NX.minD
  rw [if_pos Mw,hm,decide_eq_false hu]
  rfl
theorem sk:∀ (ts:List Int) (l:LNN),ts.length=l.length->((ts.zip (l.map fun _=>(0:Int))).map fun p=>p.1 + p.2)=ts
 | [],[],_=>rfl
 | [],_ :: _,h=>by simp at h
 | _ :: _,[],h=>by simp at h
 | a :: ts,x :: l,h=>by
  show (a + 0) :: ((ts.zip (l.map fun _=>(0:Int))).map fun p=>p.1 + p.2)=a :: ts
  rw [sk ts l (by simpa using h),Int.add_zero]
theorem xJ (x y:List Int) (h:x.length=y.length):((List.range x.length).map fun k=>x.getD k 0 + y.getD k 0)=kP x y:=by
 refine List.ext_getElem? fun k=>?_
 rw [List.getElem?_map]
 by_cases hk:k < x.length
 ·have e:(x.zip y)[k]?=some (x[k],y[k]'(by lia)):=List.getElem?_zip_eq_some.mpr ⟨kq hk,kq (by lia)⟩
  unfold kP
  rw [List.getElem?_range hk,List.getElem?_map,e,Option.map_some,Option.map_some,getD_of (kq hk),getD_of (kq (by lia))]
 ·rw [List.getElem?_eq_none (by rw [List.length_range];lia),List.getElem?_eq_none (by unfold kP;rw [a8,List.length_zip];lia)]
  rfl
theorem so (t:Int) (ht:cI t=true) (l:List Int):b5 (ax 0) cN (aD jR (ao 1) (ao 0)) (l.map D.int) [none,some (.f,.int t)]=.ok ((l.map fun v=>t * v).map D.int):=by
 rw [aV (r:=fun v:Int=>D.int (t * v)) (fun env=>∃ u,env=[u,some (.f,.int t)]) l ?_ _ ⟨none,rfl⟩]
 ·rw [List.map_map]
  rfl
 ·rintro v _ env ⟨u,rfl⟩
  refine ⟨[some (.f,.int v),some (.f,.int t)],rfl,.f,[some (.f,.int v),some (.f,.int t)],?_,_,rfl⟩
  simp only [pv,seval,op,AY t v ht]
theorem xK (l:List Int):b5 (ax 0) cN (aD k8 (aq (aJ (.int 0))) (ao 0)) (l.map D.int) [none]=.ok ((l.map fun v=>0 - v).map D.int):=by
 rw [aV (r:=fun v:Int=>D.int (0 - v)) (fun env=>∃ u,env=[u]) l ?_ _ ⟨none,rfl⟩]
 ·rw [List.map_map]
  rfl
 ·rintro v _ env ⟨u,rfl⟩
  refine ⟨[some (.f,.int v)],rfl,.f,[some (.f,.int v)],?_,_,rfl⟩
  simp only [pv,seval,op]
theorem xM (l:List Int) (hl:l≠[]):b5 (ax 0) cN (aD k8 (aq (a9 PV.maxD (ag (ao 1) aA))) (ao 0)) (l.map D.int) [none,some (.f,.lst (l.map D.int))]=.ok ((l.map fun v=>cU l - v).map D.int):=by
 have hm:=yy hl
 rw [aV (r:=fun v:Int=>D.int (cU l - v)) (fun env=>∃ u,env=[u,some (.f,.lst (l.map D.int))]) l ?_ _ ⟨none,rfl⟩]
 ·rw [List.map_map]
  rfl
 ·rintro v _ env ⟨u,rfl⟩
  refine ⟨[some (.f,.int v),some (.f,.lst (l.map D.int))],rfl,.f,[some (.f,.int v),some (.f,.lst (l.map D.int))],?_,_,rfl⟩
  simp only [pv,seval,op,hm]
theorem wo (l:List Int):b5 (ax 0) cN (aJ (.int 0)) (l.map D.int) [none]=.ok ((l.map fun _=>(0:Int)).map D.int):=by
 rw [aV (r:=fun _:Int=>D.int 0) (fun env=>∃ u,env=[u]) l ?_ _ ⟨none,rfl⟩]
 ·rw [List.map_map]
  rfl
 ·rintro v _ env ⟨u,rfl⟩
  exact ⟨[some (.f,.int v)],rfl,.f,_,rfl,_,rfl⟩
theorem xN (x y:List Int) (h:x.length=y.length):b5 (ax 0) cN (aD cV (aq (aD FW (ao 1) (ao 0))) (aq (aD FW (ao 2) (ao 0)))) ((List.range x.length).map fun (k:Nat)=>D.int (k:Int)) [none,some (.f,.lst (x.map D.int)),some (.f,.lst (y.map D.int))]=.ok ((kP x y).map D.int):=by
 rw [aV (r:=fun k:Nat=>D.int (x.getD k 0 + y.getD k 0)) (fun env=>∃ u,env=[u,some (.f,.lst (x.map D.int)),some (.f,.lst (y.map D.int))]) (List.range x.length) ?_ _ ⟨none,rfl⟩]
 ·rw [<-xJ x y h,List.map_map]
  rfl
 ·rintro k hk env ⟨u,rfl⟩
  have hk:=List.mem_range.mp hk
  have q1:Gy (x.map D.int) (k:Int)=some (.int (x.getD k 0)):=ib hk
  have q2:Gy (y.map D.int) (k:Int)=some (.int (y.getD k 0)):=ib (by lia)
  refine ⟨[some (.f,.int (k:Int)),some (.f,.lst (x.map D.int)),some (.f,.lst (y.map D.int))],rfl,.f,[some (.f,.int (k:Int)),some (.f,.lst (x.map D.int)),some (.f,.lst (y.map D.int))],?_,_,rfl⟩
  simp only [pv,seval,op,q1,q2]
theorem tI (nZ used:LNN):b5 (ax 0) cN (a9 zL (ag (aq (bq qo (ao 0) (ao 1))) aA)) (nZ.map D.str) [none,some (.f,.lst (used.map D.str))]=.ok ((nZ.map fun m=>if (!decide (m∈used))=true then (1:Int) else 0).map D.int):=by
 rw [aV (r:=fun m:List Nat=>D.int (if (!decide (m∈used))=true then (1:Int) else 0)) (fun env=>∃ u,env=[u,some (.f,.lst (used.map D.str))]) nZ ?_ _ ⟨none,rfl⟩]
 ·rw [List.map_map]
  rfl
 ·rintro m _ env ⟨u,rfl⟩
  have Jm:=wj m used
  refine ⟨[some (.f,.str m),some (.f,.lst (used.map D.str))],rfl,.f,[some (.f,.str m),some (.f,.lst (used.map D.str))],?_,_,rfl⟩
  simp only [pv,seval,op,Jm]
theorem oA (l:List Int):plainD 40 (.lst (l.map D.int))=true:=by
 rw [plainD,eY]
end
abbrev hE (ns:List Int) (nZ:LNN) (ps:List Pl) (aZ:List FK) (nb:Int) (x y:List Int) (t:Int) (N:List Nd) (many:Nat) (r:PV.Env):PV.Env:=some (.f,.lst (ns.map D.int)) :: some (.f,eN nZ ps) :: some (.f,eCh nZ aZ) :: some (.f,.int nb) :: some (.l .f,.lst (x.map D.int)) :: some (.l .f,.lst (y.map D.int)) :: some (.f,.int t) :: some (.l .f,.lst ((bds nZ N x many).map D.int)) :: some (.l .f,.lst ((bds nZ N y many).map D.int)) :: r
abbrev oF (x:List Int) (t:Int):Option R:=some (.f,.tup ((x.map fun v=>t * v).map D.int))
abbrev oB (x:List Int):Option R:=some (.f,.tup ((x.map fun v=>0 - v).map D.int))
abbrev oS (x y:List Int):Option R:=some (.f,.tup ((kP x y).map D.int))
abbrev oZ (nZ:LNN) (N:List Nd) (x y:List Int) (many:Nat):Option R:=some (.l .f,.lst ((bds nZ N (kP x y) many).map D.int))
abbrev oT (nZ:LNN) (aZ:List FK):List Int:=(nZ.map fun m=>if (!decide (m∈aZ.map (·.2.1)))=true then (1:Int) else 0)
theorem Ew (ns:List Int) {nZ:LNN} (ps:List Pl) {aZ:List FK} {many:Nat} {N:List Nd} {T:List FK} (c:Ck nZ aZ many N T) (nb t:Int) (x y:List Int) (ON:∀ v,th nZ N (kP x y) v=th nZ N x v + th nZ N y v) (k:Nat) (hk:k < many) (K6:Option R):∃ QA,kK (hE ns nZ ps aZ nb x y t N many [oF x t,oB x,oS x y,oZ nZ N x y many,some (.f,.int (k:Int)),K6,none,none,none])=.ok (.nx (hE ns nZ ps aZ nb x y t N many [oF x t,oB x,oS x y,oZ nZ N x y many,some (.f,.int (k:Int)),QA,none,none,none])):=by
 unfold hE oZ
 have hm:=c.m1
 have Ke:∀ (z:List Int) (i:Nat),i < many->Gy ((bds nZ N z many).map D.int) (i:Int)=some (.int (th nZ N z (i:Int) - dR (Hn nZ N z many))):=fun z i hi=>by
  rw [AQ]
  exact xD (many:=many) (fun v=>th nZ N z v - dR (Hn nZ N z many)) (by lia) (by lia)
 have x0:Gy ((bds nZ N x many).map D.int) 0=_:=Ke x 0 (by lia)
 have y0:Gy ((bds nZ N y many).map D.int) 0=_:=Ke y 0 (by lia)
 have z0:Gy ((bds nZ N (kP x y) many).map D.int) 0=_:=Ke (kP x y) 0 (by lia)
 have xk:=Ke x k hk
 have yk:=Ke y k hk
 have zk:=Ke (kP x y) k hk
 have h1:=ON (k:Int)
 have h2:=ON ((0:Nat):Int)
 generalize (bds nZ N x many).map D.int=BX at *
 generalize (bds nZ N y many).map D.int=BY at *
 generalize (bds nZ N (kP x y) many).map D.int=BZ at *
 generalize dR (Hn nZ N x many)=mx at *
 generalize dR (Hn nZ N y many)=my at *
 generalize dR (Hn nZ N (kP x y) many)=mz at *
 generalize th nZ N (kP x y) (k:Int)=a1 at *
 generalize th nZ N (kP x y) ((0:Nat):Int)=a2 at *
 generalize th nZ N x (k:Int)=a3 at *
 generalize th nZ N x ((0:Nat):Int)=a4 at *
 generalize th nZ N y (k:Int)=a5 at *
 generalize th nZ N y ((0:Nat):Int)=a6 at *
 have he:(a1 - mz - (a2 - mz) == a3 - mx - (a4 - mx) + (a5 - my) - (a6 - my))=true:=by
  rw [beq_iff_eq]
  lia
 refine ⟨some (.f,.int (a3 - mx - (a4 - mx) + (a5 - my) - (a6 - my))),?_⟩
 unfold kK
 simp only [pv,seval,op,x0,y0,z0,xk,yk,zk,he,Bool.not_true,fO]
theorem xO (b:Int) (ts gs:List Int):plainD 40 (.tup [.int b,.tup (ts.map D.int),.tup (gs.map D.int)])=true:=by
 show (true && (plainDs 38 (ts.map D.int) && (plainDs 38 (gs.map D.int) && true)))=true
 rw [eY,eY]
 rfl
theorem sr {ps:List Pl} (h0:ps≠[]) (v:Int):∃ p∈ps,FW (.lst (ps.map eP)) (.int (v % (ps.length:Int)))=.ok (.f,eP p):=by
 have hp:=List.length_pos_iff.mpr h0
 have hb:=eU v (ps.length:Int) (by lia)
 obtain ⟨k,ek⟩:=Int.eq_ofNat_of_zero_le hb.1
 have hk:k < ps.length:=by lia
 refine ⟨ps[k],List.getElem_mem hk,?_⟩
 rw [ek,Ac,show Gy (ps.map eP) (k:Int)=some (eP ps[k]) from dB (by rw [List.getElem?_map,kq hk];rfl)]
theorem wq:∀ ns:List Int,ns.length<=63->∃ o,z8 [.lst (ns.map D.int)]=.ok (o,.bl true):=by
 intro ns _
 obtain ⟨nZ,ps,S,A,n,en,er⟩:=Er ns 5
 have en:dZ [.lst (ns.map D.int),.int 5]=.ok (.f,eN nZ ps):=en
 have MW:=n.n3
 have hp9:=n.p9
 have HF:=List.length_pos_iff.mpr n.p0
 obtain ⟨N0,T0,c0⟩:=n.ra.sort.ck n.nn (by lia)
 obtain ⟨K,many,ra,eb⟩:=p3 ns 2 (by decide) n er
 have eb:bp [.lst (ns.map D.int),eN nZ ps,.int 2]=.ok (.f,eCh nZ (cb eD K)):=eb
 have c1:aG [.lst (ns.map D.int),.int 1]=.ok (.f,.int (cell ns 1)):=kr ns 1
 have c2:aG [.lst (ns.map D.int),.int 2]=.ok (.f,.int (cell ns 2)):=kr ns 2
 have Kn:∀ (x y:List D),flatDs [.lst x,.lst y]=false:=fun _ _=>rfl
 have hwid:∀ (x:List D),flatDs [.tup (nZ.map D.str),.lst x]=false:=fun x=>by
  rw [flatDs,cK,PV.flat_strs]
  rfl
 unfold z8 Cp
 rw [bh (h:=by rfl)]
 rw [au (env':=[some (.f,.lst (ns.map D.int)),some (.f,eN nZ ps),none,none,none,none,none,none,none,none,none,none,none,none,none,none,none,none]) (by
  simp only [pv,seval,op,en]
  cases dk (eN nZ ps) <;> rfl)]
 rw [au (env':=[some (.f,.lst (ns.map D.int)),some (.f,eN nZ ps),some (.f,eCh nZ (cb eD A)),none,none,none,none,none,none,none,none,none,none,none,none,none,none,none]) (by
  unfold eN at er ⊢
  unfold eCh
  simp only [pv,seval,op,er,Kn,fO,Dm,Dn])]
 obtain ⟨aZ,many,N,T,c,s3⟩:∃ aZ many N T,Ck nZ aZ many N T/\(GS (Gg (bq Hd (aq (aD fT (aq (aD eB (aq (cH aG (ag (ao 0) (ag (aq (aJ (.int 1))) aA)))) (aq (aJ (.int 256))))) (aq (aJ (.int 2))))) (aq (aJ (.int 1)))))
  (bK 2 (cH bp (ag (ao 0) (ag (ao 1) (ag (aq (aJ (.int 2))) aA)))))
  cM) [some (.f,.lst (ns.map D.int)),some (.f,eN nZ ps),some (.f,eCh nZ (cb eD A)),none,none,none,none,none,none,none,none,none,none,none,none,none,none,none]=.ok (.nx [some (.f,.lst (ns.map D.int)),some (.f,eN nZ ps),some (.f,eCh nZ aZ),none,none,none,none,none,none,none,none,none,none,none,none,none,none,none]):=by
  cases h:(cell ns 1 / 256 % 2 == 1) with
  | false=>
   refine ⟨cb eD A,S.length,N0,T0,c0,?_⟩
   simp only [pv,seval,op,c1,fK _ 256 (by decide) (by decide),iC _ 2 (by decide),h,fO]
  | true=>
   obtain ⟨N,T,c⟩:=ra.sort.ck n.nn (by lia)
   refine ⟨cb eD K,many,N,T,c,?_⟩
   simp only [pv,seval,op,c1,fK _ 256 (by decide) (by decide),iC _ 2 (by decide),h,eb]
   cases dk (eCh nZ (cb eD K)) <;> rfl
 rw [au s3]
 clear s3
 have hm:=c.m1
 have HX:=c.al
 have Kb:=l8 (cell ns 1) 9 (by decide) (by decide)
 generalize vU (cell ns 1) 9=nb at Kb
 rw [au (env':=[some (.f,.lst (ns.map D.int)),some (.f,eN nZ ps),some (.f,eCh nZ aZ),some (.f,.int nb),none,none,none,none,none,none,none,none,none,none,none,none,none,none]) (by simp only [pv,seval,op,c1,Kb])]
 obtain ⟨p1,OG,e1⟩:=sr n.p0 nb
 obtain ⟨p2,Ms,e2⟩:=sr n.p0 (nb / 16)
 obtain ⟨x,sx,ex⟩:=p4 c p1 (n.po p1 OG)
 obtain ⟨y,sy,ey⟩:=p4 c p2 (n.po p2 Ms)
 have fx:=FD x
 have fy:=FD y
 have hxl:=sx.hl
 have hyl:=sy.hl
 rw [au (env':=[some (.f,.lst (ns.map D.int)),some (.f,eN nZ ps),some (.f,eCh nZ aZ),some (.f,.int nb),some (.l .f,.lst (x.map D.int)),none,none,none,none,none,none,none,none,none,none,none,none,none]) (by
  unfold eN
  simp only [pv,seval,op,a8,iC _ (ps.length:Int) (by lia),e1,ex,fx])]
 rw [au (env':=[some (.f,.lst (ns.map D.int)),some (.f,eN nZ ps),some (.f,eCh nZ aZ),some (.f,.int nb),some (.l .f,.lst (x.map D.int)),some (.l .f,.lst (y.map D.int)),none,none,none,none,none,none,none,none,none,none,none,none]) (by
  unfold eN
  simp only [pv,seval,op,a8,fK _ 16 (by decide) (by decide),iC _ (ps.length:Int) (by lia),e2,ey,fy])]
 have p9:yd (.int 10) (.int 9)=.ok (.f,.int (10 ^ 9)):=EH 9 (by decide)
 have m9:=iC (cell ns 2) (10 ^ 9) (by decide)
 have b9:=eU (cell ns 2) (10 ^ 9) (by decide)
 have Hn:cI (cell ns 2 % 10 ^ 9)=true:=oq _ b9.1 (by have:=b9.2;generalize cell ns 2 % 10 ^ 9=q at *;lia)
 have QB:=b9.1
 generalize cell ns 2 % 10 ^ 9=t at m9 Hn QB
 rw [au (env':=[some (.f,.lst (ns.map D.int)),some (.f,eN nZ ps),some (.f,eCh nZ aZ),some (.f,.int nb),some (.l .f,.lst (x.map D.int)),some (.l .f,.lst (y.map D.int)),some (.f,.int t),none,none,none,none,none,none,none,none,none,none,none]) (by simp only [pv,↓reduceIte,Nat.reduceAdd,Nat.reduceLT,Nat.reduceLeDiff,Nat.reduceEqDiff,op,c2,p9,m9])]
 have bx:=sx.bs c
 have bY:=sy.bs c
 have fbx:=FD (bds nZ N x many)
 have fby:=FD (bds nZ N y many)
 rw [au (env':=[some (.f,.lst (ns.map D.int)),some (.f,eN nZ ps),some (.f,eCh nZ aZ),some (.f,.int nb),some (.l .f,.lst (x.map D.int)),some (.l .f,.lst (y.map D.int)),some (.f,.int t),some (.l .f,.lst ((bds nZ N x many).map D.int)),none,none,none,none,none,none,none,none,none,none]) (by simp only [pv,seval,op,bx,fbx])]
 rw [au (env':=(hE ns nZ ps aZ nb x y t N many [none,none,none,none,none,none,none,none,none])) (by simp only [pv,seval,op,bY,fby])]
 have Jn:∀ (l:List Int),l.length<=1000->(l.map D.int).length<=sizeLine:=fun l h=>aN (by rw [a8];lia)
 have mx:=so t Hn x
 have mm:=so t Hn (bds nZ N x many)
 have lx:=Jn (x.map fun v=>t * v) (by rw [a8];lia)
 have fx2:=FD (x.map fun v=>t * v)
 rw [au (env':=(hE ns nZ ps aZ nb x y t N many [oF x t,none,none,none,none,none,none,none,none])) (by
  generalize (aD jR (ao 1) (ao 0))=GG at mx ⊢
  simp only [pv,seval,op,mx,lx,fx2])]
 have bo:=(sx.mul t).bs c
 rw [c.bmul x QB] at bo
 have lm:=Jn ((bds nZ N x many).map fun v=>t * v) (by rw [a8,i7];lia)
 have fm:=FD ((bds nZ N x many).map fun v=>t * v)
 have nm:=l5 _ (oA ((bds nZ N x many).map fun v=>t * v))
 rw [au (env':=(hE ns nZ ps aZ nb x y t N many [oF x t,none,none,none,none,none,none,none,none])) (by
  generalize (aD jR (ao 1) (ao 0))=GG at mm ⊢
  simp only [pv,seval,op,bo,fm,mm,lm,nm,fO])]
 have ng:=xK x
 have lg:=Jn (x.map fun v=>0 - v) (by rw [a8];lia)
 have fg:=FD (x.map fun v=>0 - v)
 rw [au (env':=(hE ns nZ ps aZ nb x y t N many [oF x t,oB x,none,none,none,none,none,none,none])) (by
  generalize (aD k8 (aq (aJ (.int 0))) (ao 0))=GG at ng ⊢
  simp only [pv,seval,op,ng,lg,fg])]
 have bb:=sx.neg.bs c
 rw [c.bneg x] at bb
 have hbne:bds nZ N x many≠[]:=fun h=>by
  have:=congrArg List.length h
  rw [i7,List.length_nil] at this
  lia
 have mc:=xM (bds nZ N x many) hbne
 have lc:=Jn ((bds nZ N x many).map fun v=>cU (bds nZ N x many) - v) (by rw [a8,i7];lia)
 have fc:=FD ((bds nZ N x many).map fun v=>cU (bds nZ N x many) - v)
 have nc:=l5 _ (oA ((bds nZ N x many).map fun v=>cU (bds nZ N x many) - v))
 rw [au (env':=(hE ns nZ ps aZ nb x y t N many [oF x t,oB x,none,none,none,none,none,none,none])) (by
  generalize (aD k8 (aq (a9 PV.maxD (ag (ao 1) aA))) (ao 0))=GG at mc ⊢
  simp only [pv,seval,op,bb,fc,mc,lc,nc,fO])]
 obtain ⟨sz,ON⟩:=sx.add sy c
 have Qn:=sz.hl
 have sc:=xN x y (by lia)
 have ls:=Jn (kP x y) (by lia)
 have fs:=FD (kP x y)
 rw [au (env':=(hE ns nZ ps aZ nb x y t N many [oF x t,oB x,oS x y,none,none,none,none,none,none])) (by
  generalize (aD cV (aq (aD FW (ao 1) (ao 0))) (aq (aD FW (ao 2) (ao 0))))=GG at sc ⊢
  simp only [pv,seval,op,a8]
  rw [if_pos (by lia)]
  simp only [pv,seval,op,Int.toNat_natCast,sc,ls,fs])]
 have iz:=sz.is c
 rw [au (env':=(hE ns nZ ps aZ nb x y t N many [oF x t,oB x,oS x y,none,none,none,none,none,none])) (by simp only [pv,seval,op,iz,beq_self_eq_true,Bool.not_true,fO])]
 have bz:=sz.bs c
 have fz2:=FD (bds nZ N (kP x y) many)
 rw [au (env':=(hE ns nZ ps aZ nb x y t N many [oF x t,oB x,oS x y,oZ nZ N x y many,none,none,none,none,none])) (by simp only [pv,seval,op,bz,fz2])]
 have hzne:bds nZ N (kP x y) many≠[]:=fun h=>by
  have:=congrArg List.length h
  rw [i7,List.length_nil] at this
  lia
 have Jl:=yx hzne
 rw [c.bmin] at Jl
 rw [au (env':=(hE ns nZ ps aZ nb x y t N many [oF x t,oB x,oS x y,oZ nZ N x y many,none,none,none,none,none])) (by simp only [pv,seval,op,a8,i7,Jl,beq_self_eq_true,Bool.not_true,fO])]
 obtain ⟨env',ef,M1,K6,rfl⟩:=jZ (a:=ax 13) (g:=kK) (e:=fun k=>D.int (k:Int)) many (fun i env=>∃ M1 K6,env=(hE ns nZ ps aZ nb x y t N many [oF x t,oB x,oS x y,oZ nZ N x y many,M1,K6,none,none,none])) (by
  rintro k env hk ⟨M1,K6,rfl⟩
  obtain ⟨QA,e⟩:=Ew ns ps c nb t x y ON k hk K6
  exact ⟨_,rfl,_,e,_,_,rfl⟩) _ ⟨none,none,rfl⟩
 rw [au (env':=_) (by
  unfold vC
  simp only [pv,seval,op,a8,i7]
  rw [if_pos (by lia)]
  simp only [pv,seval,op,Int.toNat_natCast]
  exact ef)]
 clear ef
 unfold rQ
 have Og:=me aZ
 have Oh:((aZ.map (·.2.1)).map D.str).length<=sizeLine:=aN (by rw [a8,a8];lia)
 have Oi:=PV.flat_strs (aZ.map (·.2.1))
 rw [au (env':=(hE ns nZ ps aZ nb x y t N many [oF x t,oB x,oS x y,oZ nZ N x y many,M1,K6,some (.l .f,.lst ((aZ.map (·.2.1)).map D.str)),none,none])) (by
  unfold hE eCh
  simp only [pv,seval,op,Og,Oh,Oi])]
 have tc:=tI nZ (aZ.map (·.2.1))
 have lt:=Jn (oT nZ aZ) (by rw [a8];lia)
 have ft:=FD (oT nZ aZ)
 rw [au (env':=(hE ns nZ ps aZ nb x y t N many [oF x t,oB x,oS x y,oZ nZ N x y many,M1,K6,some (.l .f,.lst ((aZ.map (·.2.1)).map D.str)),some (.f,.tup ((oT nZ aZ).map D.int)),none])) (by
  unfold hE eCh
  generalize (a9 zL (ag (aq (bq qo (ao 0) (ao 1))) aA))=GG at tc ⊢
  simp only [pv,seval,op,tc,lt,ft])]
 have zc:=jH nZ 0
 have lz:=Jn (nZ.map fun _=>(0:Int)) (by rw [a8];lia)
 have fz3:=FD (nZ.map fun _=>(0:Int))
 rw [au (env':=(hE ns nZ ps aZ nb x y t N many [oF x t,oB x,oS x y,oZ nZ N x y many,M1,K6,some (.l .f,.lst ((aZ.map (·.2.1)).map D.str)),some (.f,.tup ((oT nZ aZ).map D.int)),some (.f,.tup ((nZ.map fun _=>(0:Int)).map D.int))])) (by
  unfold hE eCh
  simp only [pv,seval,op,zc,lz,fz3])]
 have s0:=St.zero nZ aZ N
 have b0:=s0.bs c
 have ez:(bds nZ N x many).map (fun _=>(0:Int))=(List.range many).map fun (_:Nat)=>(0:Int):=by
  rw [AQ,List.map_map]
  rfl
 have HI:=c.place (nZ.map fun _=>(0:Int)) (fun _=>0) ((List.range many).map fun (_:Nat)=>(0:Int)) rfl (by rw [<-c.bzero];exact b0)
 rw [c.bzero,<-ez] at b0
 have zz:=wo (bds nZ N x many)
 have l0:=Jn ((bds nZ N x many).map fun _=>(0:Int)) (by rw [a8,i7];lia)
 have f0:=FD ((bds nZ N x many).map fun _=>(0:Int))
 have n0:=l5 _ (oA ((bds nZ N x many).map fun _=>(0:Int)))
 rw [au (env':=(hE ns nZ ps aZ nb x y t N many [oF x t,oB x,oS x y,oZ nZ N x y many,M1,K6,some (.l .f,.lst ((aZ.map (·.2.1)).map D.str)),some (.f,.tup ((oT nZ aZ).map D.int)),some (.f,.tup ((nZ.map fun _=>(0:Int)).map D.int))])) (by simp only [pv,seval,op,b0,f0,zz,l0,n0,fO])]
 have Ng:nZ.map (tk (fun _=>0) aZ ((List.range many).map fun (_:Nat)=>(0:Int)))=(oT nZ aZ):=by
  unfold oT
  exact List.map_congr_left fun m _=>c.tk0 m
 rw [Ng,sk _ nZ (a8 _)] at HI
 have fpl:flatDs [.int 0,.tup ((oT nZ aZ).map D.int),.tup ((oT nZ aZ).map D.int)]=true:=by
  simp only [flatDs,cK,FD,jE]
  rfl
 have epl:=vL (.tup [.int 0,.tup ((oT nZ aZ).map D.int),.tup ((oT nZ aZ).map D.int)]) (xO 0 (oT nZ aZ) (oT nZ aZ))
 generalize (oT nZ aZ).map D.int=TK at *
 exact ⟨.f,by simp only [pv,seval,op,HI,fpl,epl]⟩
end LW
namespace FIN
open PySem PySem.Spec PyProof.Rows L2 NX PV LW
theorem Dh {l:PySem.W.OpenLaw} {w:World} {K:W.Frag} {h:Heap} {mg:Str->Option Value} {fa f:Addr} {od an:Option Addr} {sl:Array (Option Value)} {oc kV dc pm cd ct:Value} (X:K.In h) (G:h.Ns mainGlobals mg) (hfa:mg "law" = some (.ref fa))
  (aL:PySem.W.nsIn K mainGlobals "law" = some (some (.ref f))) (lL:K.lookup f=some ⟨oc,od,.func (PySem.W.fnOf "law" "law" (gM og) (e9 og) (defScope og) .none kV dc pm an cd ct),sl⟩) (cL:PySem.W.codeIn K cd "law" = true) (kL:PySem.W.keepIn K (.ref f)=true)
  (HR:Def K mg "product" lR) (JM:Def K mg "less" vD) (GX:Def K mg "states_of" iW) (HS:Def K mg "tree_of" lS) (HU:Def K mg "ways_of" lT) (HV:Def K mg "counted" lU) (GY:Def K mg "counts_of" iX) (Ho:Def K mg "rings_of" jS) (Hq:Def K mg "has_arcs" jT) (GL:Def K mg "is_stretch" hV) (Hr:Def K mg "beads_of" jU) (IS:Def K mg "taken" qv) (Hs:Def K mg "place_of" jV) (Gw:Def K mg "_law_cell_at" fS) (GN:Def K mg "_law_mixed" hW) (GO:Def K mg "_law_names" hX) (GZ:Def K mg "_law_step" iZ) (Ht:Def K mg "_law_run" jW) (G0:Def K mg "_law_fold" i0) (GP:Def K mg "_law_place" hZ) (GB:Def K mg "_law_scaled" gy) (GC:Def K mg "_law_places" gA) (GQ:Def K mg "_law_moves" ia) (Hu:Def K mg "_law_net" jX) (GD:Def K mg "_law_tidied" gB) (G9:Def K mg "_law_bent" i4) (Gb:Def K mg "_law_bent_chart" d7) (GF:Def K mg "_law_levels" gC) (Gd:Def K mg "_law_is_stretch" d9) (Hv:Def K mg "_law_row" jY)
  (Jf:PySem.W.nsIn K mainGlobals "all" = some none) (Ij:PySem.W.nsIn K mainGlobals "any" = some none) (Ik:PySem.W.nsIn K mainGlobals "int" = some none) (F0:PySem.W.nsIn K mainGlobals "len" = some none) (Gq:PySem.W.nsIn K mainGlobals "max" = some none) (GW:PySem.W.nsIn K mainGlobals "min" = some none) (FU:PySem.W.nsIn K mainGlobals "range" = some none) (Ga:PySem.W.nsIn K mainGlobals "sorted" = some none) (Jd:PySem.W.nsIn K mainGlobals "sum" = some none) (FQ:PySem.W.nsIn K mainGlobals "tuple" = some none) (GH:PySem.W.nsIn K mainGlobals "zip" = some none) :
  ∃ fd:FuncData,(∀ (s:Shared) (v:Value),BindsTo s fd ⟨[v],[]⟩ [("_law_script",v)])/\∀ base:Heap,K.In base->base.Ns mainGlobals mg->FnOk l.prog w K mg base Kv 7 fa fd ["_law_script"] (xj K):=by
 have e:=hfa.symm.trans (PySem.W.mg_of X G aL)
 cases e
 have F:=xU (st:=og) lL cL kL
 have Oj:=PySem.W.mg_none_of X G Jf
 have Ma:=PySem.W.mg_none_of X G Ij
 have Mb:=PySem.W.mg_none_of X G Ik
 have Hk:=PySem.W.mg_none_of X G F0
 have Jo:=PySem.W.mg_none_of X G Gq
 have JZ:=PySem.W.mg_none_of X G GW
 have Gk:=PySem.W.mg_none_of X G FU
 have Io:=PySem.W.mg_none_of X G Ga
 have Ol:=PySem.W.mg_none_of X G Jd
 have Gs:=PySem.W.mg_none_of X G FQ
 have Jp:=PySem.W.mg_none_of X G GH
 refine ⟨PySem.W.fnOf "law" "law" (gM og) (e9 og) (defScope og) .none kV dc pm an cd ct,fun s v=>.of_eq rfl,fun base _ _=>?_⟩
 have IF:Ct l.prog w K mg base "product" 1 (spF K cE):=sZ HR Ol Jp
 have M3:Ct l.prog w K mg base "less" 1 (spF K lH):=Aa JM Gs Jp
 have Jq:Ct l.prog w K mg base "states_of" 1 (spF K dW):=pO GX Jo
 have IG:Ct l.prog w K mg base "tree_of" 1 (spF K c9):=tf HS Hk
 have IH:Ct l.prog w K mg base "ways_of" 2 (spF K cS):=tj HU Jq IG Gk
 have II:Ct l.prog w K mg base "counted" 1 (spF K de):=tq HV Gs
 have Jr:Ct l.prog w K mg base "counts_of" 3 (spF K dn):=pQ GY II IH
 have JN:Ct l.prog w K mg base "rings_of" 3 (spF K dX):=qp Ho II M3 IG IH
 have JO:Ct l.prog w K mg base "has_arcs" 1 (spF K du):=qr Hq Ma
 have HC:Ct l.prog w K mg base "is_stretch" 4 (spF K bO):=nU GL JO IF JN Oj Ma Jp
 have Ip:Ct l.prog w K mg base "beads_of" 5 (spF K bC):=qu Hr Jr HC IF JZ
 have LY:Ct l.prog w K mg base "taken" 1 (spF K gY):=xn IS Jo JZ
 have JP:Ct l.prog w K mg base "place_of" 6 (spF K eW):=qw Hs Ip LY Gs Jp
 have Ge:Ct l.prog w K mg base "_law_cell_at" 1 (spF K aG):=lX Gw Hk
 have Gf:Ct l.prog w K mg base "_law_mixed" 1 (spF K aY):=nV GN
 have IT:Ct l.prog w K mg base "_law_names" 2 (spF K dv):=nW GO Gf Gk Io
 have Js:Ct l.prog w K mg base "_law_step" 1 (spF K dq):=pR GZ Gs Jp
 have Hw:Ct l.prog w K mg base "_law_run" 2 (spF K bI):=qx Ht Js Hk Io Gs
 have Jt:Ct l.prog w K mg base "_law_fold" 2 (spF K dY):=pS G0 Gf
 have IU:Ct l.prog w K mg base "_law_place" 2 (spF K dw):=nX GP Gf Jo Gk
 have IA:Ct l.prog w K mg base "_law_scaled" 1 (spF K cA):=mB GB Gs
 have IB:Ct l.prog w K mg base "_law_places" 3 (spF K cW):=mC GC Ge Jt IU IA Gk
 have IV:Ct l.prog w K mg base "_law_moves" 3 (spF K dy):=nY GQ Ge IT Gs
 have JQ:Ct l.prog w K mg base "_law_net" 4 (spF K dZ):=qy Hu IV IB Hw Hk Gs
 have IC:Ct l.prog w K mg base "_law_tidied" 1 (spF K cB):=mD GD Hk Io
 have Ju:Ct l.prog w K mg base "_law_bent" 1 (spF K d4):=pT G9 Hk Jo JZ Gk
 have HD:Ct l.prog w K mg base "_law_bent_chart" 3 (spF K bp):=jB Gb Ju Ge Gf Hw IC Gk
 have ID:Ct l.prog w K mg base "_law_levels" 1 (spF K cX):=mE GF Hk Gk
 have HE:Ct l.prog w K mg base "_law_is_stretch" 2 (spF K bP):=jC Gd ID Hk Gk
 have JR:Ct l.prog w K mg base "_law_row" 3 (spF K d5):=qz Hv HE Mb Hk Gk
 exact (Cq F HD Ge Gf JQ JR Hw Ip HC JP Mb Hk Jo JZ Gk Gs).imp (B9 wq)
end FIN
def PySem.W.Fast.tw16553726033467312394:=0
def PySem.W.Fast.tw12779733255980437583:=0
def PySem.W.Fast.tw12134334945635660905:=0
def PySem.W.Fast.tw7422292443950303917:=0
def PySem.W.Fast.tw11206045804412357754:=0
def PySem.W.Fast.tw17846335613946044800:=0
def PySem.W.Fast.tw8355004504092835566:=0
def PySem.W.Fast.tw2370662454828291740:=0
def PySem.W.Fast.tw2664937632633923112:=0
def PySem.W.Fast.tw6067311850583195987:=0
def PySem.W.Fast.tw4156946017451154938:=0
def PySem.W.Fast.tw10920276358344508974:=0
def PySem.W.Fast.tw17987093044023283868:=0
def PySem.W.Fast.tw10881118769491694138:=0
def PySem.W.Fast.tw4595371194575209195:=0
def PySem.W.Fast.tw13845358284089693839:=0
def PySem.W.Fast.tw13407740752521627768:=0
def PySem.W.Fast.tw18297492907371204001:=0
def PySem.W.Fast.tw10396127929816834349:=0
def PySem.W.Fast.tw6935245387429433150:=0
def PySem.W.Fast.tw14353392194074971610:=0
def PySem.W.Fast.tw8661233966944084206:=0
def PySem.W.Fast.tw8699745447986098193:=0
def PySem.W.Fast.tw5025279914132952975:=0
def PySem.W.Fast.tw2646092973250143917:=0
def PySem.W.Fast.tw7428439280680790290:=0
def PySem.W.Fast.tw5303316989969990940:=0
def PySem.W.Fast.tw1017757289850411564:=0
def PySem.W.Fast.tw14493357072652902661:=0
def PySem.W.Fast.tw12916449017273557440:=0
def PySem.W.Fast.tw17103339386898820393:=0
def PySem.W.Fast.tw9472930848401420991:=0
def PySem.W.Fast.tw17239295799589960002:=0
def PySem.W.Fast.tw6571025735926492871:=0
def PySem.W.Fast.tw14252259178520542359:=0
def PySem.W.Fast.tw7638703776546623952:=0
def PySem.W.Fast.tw8671205656856087778:=0
def PySem.W.Fast.tw8382215378976793667:=0
open PySem PySem.W PyProof.Rows
set_option maxRecDepth 100000 in
set_option maxHeartbeats 0 in
theorem PySem.Challenge.cw_netfinder_k54_stretches_put_together_holds : PySem.Challenge.rw_netfinder_k54_stretches_put_together.Holds := by
  w_on; o_law; k_head; (case hw => w_witness2)
  k_fill
  refine PV.Fl (l := PySem.Challenge.rw_netfinder_k54_stretches_put_together) (k := 7) (x := "_law_script") rfl rfl ⟨rfl, by decide, by decide⟩ (fun w h Y => PySem.W.kIn_of Y) ?F
  case F =>
    intro w mg fa h KX G Nx
    refine' FIN.Dh KX G Nx ?aL ?lL ?cL ?kL ?HR ?JM ?GX ?HS ?HU ?HV ?GY ?Ho ?Hq ?GL ?Hr ?IS ?Hs ?Gw ?GN ?GO ?GZ ?Ht ?G0 ?GP ?GB ?GC ?GQ ?Hu ?GD ?G9 ?Gb ?GF ?Gd ?Hv ?Jf ?Ij ?Ik ?F0 ?Gq ?GW ?FU ?Ga ?Jd ?FQ ?GH
    (case aL => k_is); (case lL => k_is); (case cL => k_is); (case kL => k_is)
    (case HR => (refine' PV.bW KX G ?a ?l ?c ?k; (case a => k_is); (case l => k_is); (case c => k_is); (case k => k_is)))
    (case JM => (refine' PV.bW KX G ?a ?l ?c ?k; (case a => k_is); (case l => k_is); (case c => k_is); (case k => k_is)))
    (case GX => (refine' PV.bW KX G ?a ?l ?c ?k; (case a => k_is); (case l => k_is); (case c => k_is); (case k => k_is)))
    (case HS => (refine' PV.bW KX G ?a ?l ?c ?k; (case a => k_is); (case l => k_is); (case c => k_is); (case k => k_is)))
    (case HU => (refine' PV.bW KX G ?a ?l ?c ?k; (case a => k_is); (case l => k_is); (case c => k_is); (case k => k_is)))
    (case HV => (refine' PV.bW KX G ?a ?l ?c ?k; (case a => k_is); (case l => k_is); (case c => k_is); (case k => k_is)))
    (case GY => (refine' PV.bW KX G ?a ?l ?c ?k; (case a => k_is); (case l => k_is); (case c => k_is); (case k => k_is)))
    (case Ho => (refine' PV.bW KX G ?a ?l ?c ?k; (case a => k_is); (case l => k_is); (case c => k_is); (case k => k_is)))
    (case Hq => (refine' PV.bW KX G ?a ?l ?c ?k; (case a => k_is); (case l => k_is); (case c => k_is); (case k => k_is)))
    (case GL => (refine' PV.bW KX G ?a ?l ?c ?k; (case a => k_is); (case l => k_is); (case c => k_is); (case k => k_is)))
    (case Hr => (refine' PV.bW KX G ?a ?l ?c ?k; (case a => k_is); (case l => k_is); (case c => k_is); (case k => k_is)))
    (case IS => (refine' PV.bW KX G ?a ?l ?c ?k; (case a => k_is); (case l => k_is); (case c => k_is); (case k => k_is)))
    (case Hs => (refine' PV.bW KX G ?a ?l ?c ?k; (case a => k_is); (case l => k_is); (case c => k_is); (case k => k_is)))
    (case Gw => (refine' PV.bW KX G ?a ?l ?c ?k; (case a => k_is); (case l => k_is); (case c => k_is); (case k => k_is)))
    (case GN => (refine' PV.bW KX G ?a ?l ?c ?k; (case a => k_is); (case l => k_is); (case c => k_is); (case k => k_is)))
    (case GO => (refine' PV.bW KX G ?a ?l ?c ?k; (case a => k_is); (case l => k_is); (case c => k_is); (case k => k_is)))
    (case GZ => (refine' PV.bW KX G ?a ?l ?c ?k; (case a => k_is); (case l => k_is); (case c => k_is); (case k => k_is)))
    (case Ht => (refine' PV.bW KX G ?a ?l ?c ?k; (case a => k_is); (case l => k_is); (case c => k_is); (case k => k_is)))
    (case G0 => (refine' PV.bW KX G ?a ?l ?c ?k; (case a => k_is); (case l => k_is); (case c => k_is); (case k => k_is)))
    (case GP => (refine' PV.bW KX G ?a ?l ?c ?k; (case a => k_is); (case l => k_is); (case c => k_is); (case k => k_is)))
    (case GB => (refine' PV.bW KX G ?a ?l ?c ?k; (case a => k_is); (case l => k_is); (case c => k_is); (case k => k_is)))
    (case GC => (refine' PV.bW KX G ?a ?l ?c ?k; (case a => k_is); (case l => k_is); (case c => k_is); (case k => k_is)))
    (case GQ => (refine' PV.bW KX G ?a ?l ?c ?k; (case a => k_is); (case l => k_is); (case c => k_is); (case k => k_is)))
    (case Hu => (refine' PV.bW KX G ?a ?l ?c ?k; (case a => k_is); (case l => k_is); (case c => k_is); (case k => k_is)))
    (case GD => (refine' PV.bW KX G ?a ?l ?c ?k; (case a => k_is); (case l => k_is); (case c => k_is); (case k => k_is)))
    (case G9 => (refine' PV.bW KX G ?a ?l ?c ?k; (case a => k_is); (case l => k_is); (case c => k_is); (case k => k_is)))
    (case Gb => (refine' PV.bW KX G ?a ?l ?c ?k; (case a => k_is); (case l => k_is); (case c => k_is); (case k => k_is)))
    (case GF => (refine' PV.bW KX G ?a ?l ?c ?k; (case a => k_is); (case l => k_is); (case c => k_is); (case k => k_is)))
    (case Gd => (refine' PV.bW KX G ?a ?l ?c ?k; (case a => k_is); (case l => k_is); (case c => k_is); (case k => k_is)))
    (case Hv => (refine' PV.bW KX G ?a ?l ?c ?k; (case a => k_is); (case l => k_is); (case c => k_is); (case k => k_is)))
    (case Jf => k_is)
    (case Ij => k_is)
    (case Ik => k_is)
    (case F0 => k_is)
    (case Gq => k_is)
    (case GW => k_is)
    (case FU => k_is)
    (case Ga => k_is)
    (case Jd => k_is)
    (case FQ => k_is)
    (case GH => k_is)
