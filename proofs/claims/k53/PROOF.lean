import PyProof.Rows.All
import Wide.All
import OpenK.AllK
import Wide.FinOn
import Lean
import PyProof.EqAt
import PyProof.EqKinds
import PyProof.TupleCall
import PySem.Challenge.RW_netfinder_k53_no_place_does_more
set_option Elab.async false
set_option linter.all false
set_option maxRecDepth 100000
set_option compiler.extract_closed false
set_option bootstrap.genMatcherCode false
noncomputable section
namespace L2
open PySem PySem.Spec PyProof.Rows
def IsTupN (h:Heap) (a:Addr) (items:Array Value):Prop:=∃ o,h.get? a=some o/\o.cls=.type "tuple"/\(∃ n,o.data=.seq items n)/\o.dict=none
theorem IsTupN.tup {h:Heap} {a:Addr} {items:Array Value} (p:IsTupN h a items):IsTup h a items:=by
 obtain ⟨o,e,c,n,_⟩:=p
 exact ⟨o,e,c,n⟩
theorem IsTupN.new (h:Heap) (items:Array Value):IsTupN (h.push { cls:=.type "tuple",data:=.seq items }) h.objs.size items:=⟨_,Heap.get?_push_size _ rfl,rfl,⟨_,rfl⟩,rfl⟩
abbrev Key:=Sum Int Str
noncomputable def qN:Key->Value->Bool
 | .inl k,v=>Value.isInt k v
 | .inr x,v=>Value.isStrOf x v
noncomputable def Dx (w:World):Key->Int
 | .inl k=>hashInt k
 | .inr x=>hashStr w x
theorem bW:∀ {k:Key} {v:Value},qN k v=true->(∃ i t,k=Sum.inl i/\v=Value.int i t)\/(∃ x t,k=Sum.inr x/\v=Value.str x t)
 | .inl i,v,h=>by
  obtain ⟨t,e⟩:=Value.isInt_shape (k:=i) (v:=v) h
  exact .inl ⟨i,t,rfl,e⟩
 | .inr x,v,h=>by
  obtain ⟨t,e⟩:=Value.isStrOf_shape (x:=x) (v:=v) h
  exact .inr ⟨x,t,rfl,e⟩
theorem rQ (i:Int) (t:Tok):qN (.inl i) (.int i t)=true:=by simp [qN,Value.isInt]
theorem rR (x:Str) (t:Tok):qN (.inr x) (.str x t)=true:=by simp [qN,Value.isStrOf]
theorem zt (a b:Int):decide ((Sum.inl a:Key)=Sum.inl b)=(a == b):=by
 by_cases e:a=b
 ·subst e;simp
 ·have h:¬ (Sum.inl a:Key)=Sum.inl b:=fun q=>e (Sum.inl.inj q)
  rw [decide_eq_false h]
  exact (beq_eq_false_iff_ne.mpr e).symm
theorem zu (a b:Str):decide ((Sum.inr a:Key)=Sum.inr b)=decide (a=b):=by
 by_cases e:a=b
 ·subst e;simp
 ·have h:¬ (Sum.inr a:Key)=Sum.inr b:=fun q=>e (Sum.inr.inj q)
  rw [decide_eq_false h,decide_eq_false e]
theorem zv (a:Int) (b:Str):decide ((Sum.inl a:Key)=Sum.inr b)=false:=decide_eq_false (fun q=>nomatch q)
theorem zw (a:Str) (b:Int):decide ((Sum.inr a:Key)=Sum.inl b)=false:=decide_eq_false (fun q=>nomatch q)
noncomputable def mixKind (prog:Program) (w:World):PySem.KeyKind prog w Key where
 is:=qN
 hash:=Dx w
 inj:=fun v a b ha hb=>by
  rcases bW ha with ⟨i,t,rfl,rfl⟩ | ⟨x,t,rfl,rfl⟩
  ·rcases bW hb with ⟨j,u,rfl,e⟩ | ⟨y,u,rfl,e⟩
   ·injection e with e1 _;rw [e1]
   ·exact nomatch e
  ·rcases bW hb with ⟨j,u,rfl,e⟩ | ⟨y,u,rfl,e⟩
   ·exact nomatch e
   ·injection e with e1 _;rw [e1]
 byValue:=fun k v h=>by
  rcases bW h with ⟨i,t,rfl,rfl⟩ | ⟨x,t,rfl,rfl⟩ <;> rfl
 pyHash:=fun hv h=>by
  rcases bW hv with ⟨i,t,rfl,rfl⟩ | ⟨x,t,rfl,rfl⟩
  ·exact wpAny_pyHash_int h
  ·exact wpAny_pyHash_str h
 eqBool:=fun hu hv h=>by
  rcases bW hu with ⟨i,t,rfl,rfl⟩ | ⟨x,t,rfl,rfl⟩
  ·rcases bW hv with ⟨j,u,rfl,rfl⟩ | ⟨y,u,rfl,rfl⟩
   ·rw [zt] at h;exact wpAny_eqBool_int h
   ·rw [zv] at h;exact SeqAt.EqAt.int_str i t y u _ _ _ _ h
  ·rcases bW hv with ⟨j,u,rfl,rfl⟩ | ⟨y,u,rfl,rfl⟩
   ·rw [zw] at h;exact SeqAt.EqAt.str_int x t j u _ _ _ _ h
   ·rw [zu] at h;exact wpAny_eqBool_str h
 «strs»:=fun k x t v h=>by
  rcases bW h with ⟨i,u,rfl,e⟩ | ⟨y,u,rfl,e⟩
  ·exact nomatch e
  ·injection e with e1 _
   subst e1
   cases v <;> rfl
theorem oP (prog:Program) (w:World) (i:Int) (t:Tok):(mixKind prog w).is (.inl i) (.int i t)=true:=rQ i t
theorem oQ (prog:Program) (w:World) (x:Str) (t:Tok):(mixKind prog w).is (.inr x) (.str x t)=true:=rR x t
inductive V where
 | non | bl (b:Bool) | int (i:Int) | str (x:Str) | byt (b:Array UInt8) | flt (b:UInt64) | ref (a:Addr) | ty (n:String)
 deriving DecidableEq
noncomputable def RelV:V->Value->Prop
 | .non,u=>u=Value.none
 | .bl b,u=>u=Value.bool b
 | .int i,u=>∃ t,u=Value.int i t
 | .str x,u=>∃ t,u=Value.str x t
 | .byt b,u=>∃ t,u=Value.bytes b t
 | .flt b,u=>∃ t,u=Value.float b t
 | .ref a,u=>u=Value.ref a
 | .ty n,u=>u=Value.type n
abbrev Vals:List V->List Value->Prop:=Paired RelV
theorem Vals.length {xs:List V} {us:List Value} (r:Vals xs us):xs.length=us.length:=Paired.length r
theorem Vals.get:∀ {xs:List V} {us:List Value} {i:Nat} {x:V},Vals xs us->xs[i]?=some x->∃ u,us[i]?=some u/\RelV x u
 | _,_,_,_,.nil,e=>by simp at e
 | _,_,0,_,.cons r _,e=>by simp at e;subst e;exact ⟨_,rfl,r⟩
 | _,_,i + 1,x,.cons _ t,e=>by
  obtain ⟨u,h1,h2⟩:=Vals.get (i:=i) (x:=x) t (by simpa using e)
  exact ⟨u,by simpa using h1,h2⟩
theorem Vals.set {x:V} {u:Value} (r:RelV x u):∀ {xs:List V} {us:List Value} (i:Nat),Vals xs us->Vals (xs.set i x) (us.set i u)
 | _,_,_,.nil=>.nil
 | _,_,0,.cons _ t=>.cons r t
 | _,_,i + 1,.cons q t=>.cons q (Vals.set r i t)
theorem Vals.append:∀ {xs ys:List V} {us ws:List Value},Vals xs us->Vals ys ws->Vals (xs++ys) (us++ws)
 | _,_,_,_,.nil,s=>s
 | _,_,_,_,.cons r t,s=>.cons r (Vals.append t s)
theorem Vals.take:∀ {xs:List V} {us:List Value} (n:Nat),Vals xs us->Vals (xs.take n) (us.take n)
 | _,_,0,_=>.nil
 | _,_,_ + 1,.nil=>.nil
 | _,_,n + 1,.cons r t=>.cons r (Vals.take n t)
theorem Vals.drop:∀ {xs:List V} {us:List Value} (n:Nat),Vals xs us->Vals (xs.drop n) (us.drop n)
 | _,_,0,r=>r
 | _,_,_ + 1,.nil=>.nil
 | _,_,n + 1,.cons _ t=>Vals.drop n t
theorem Vals.none_of:∀ {xs:List V} {us:List Value} {i:Nat},Vals xs us->xs[i]?=none->us[i]?=none:=fun {xs us i} r e=>by
 have h1:=r.length
 have h2:xs.length<=i:=List.getElem?_eq_none_iff.mp e
 exact List.getElem?_eq_none_iff.mpr (by lia)
noncomputable def RelO:Option V->Option Value->Prop
 | some v,some u=>RelV v u
 | none,none=>True
 | _,_=>False
noncomputable def KV {κ:Type}:List (κ×V)->List (κ×Value)->Prop:=Paired fun (p:κ×V) (q:κ×Value)=>p.1=q.1/\RelV p.2 q.2
noncomputable def kV:Key->V
 | .inl i=>.int i
 | .inr x=>.str x
inductive HO where
 | lst (xs:List V)
 | tup (xs:List V)
 | dK (Em:List (Key×V)) | dT (Em:List (List Key×V))
 | set (S:Int->Bool) (n:Nat)
 | ins (C dx:Addr) (fs:List (Str×V))
 | own (x:Addr)
 | xd (fs:List (Str×V))
 | met (f x:Addr)
 | rng (lo hi:Int)
 | frz (o:Obj) (u:HO)
 | tbl (ps:Array Value)
 | ext (φ:Heap->Prop)
abbrev Hp:=Addr->Option HO
noncomputable def upd (H:Hp) (a:Addr) (o:HO):Hp:=fun b=>if b=a then some o else H b
theorem bK {H:Hp} {a:Addr} {o:HO}:upd H a o a=some o:=by unfold upd;rw [if_pos rfl]
theorem aP {H:Hp} {a b:Addr} {o:HO} (h:b≠a):upd H a o b=H b:=by unfold upd;rw [if_neg h]
theorem B0 {H:Hp} {a b:Addr} {o u:HO} (h:H a=some o) (h':H b=some u) (d:o≠u):a≠b:=by
 intro e;subst e;rw [h] at h';exact d (Option.some.inj h')
theorem bg {H:Hp} {a b:Addr} {o:HO} (h:H a=some o) (h':H b=none):a≠b:=by
 intro e;subst e;rw [h] at h';cases h'
section
variable (P:Program) (w:World)
noncomputable def ObjOk (H:Hp) (h:Heap) (a:Addr):HO->Prop
 | .lst xs=>xs.length<=sizeLine/\∃ (El:List Value) (n:Nat),Vals xs El/\h.get? a=some { cls:=.type "list",data:=.seq El.toArray n }
 | .tup xs=>xs.length<=sizeLine/\∃ El:List Value,Vals xs El/\IsTupN h a El.toArray
 | .dK Em=>Em.length<=sizeLine/\(a == sysModules)=false/\∃ vs,KV Em vs/\h.DictOf (mixKind P w) a vs
 | .dT Em=>Em.length<=sizeLine/\(a == sysModules)=false/\∃ xs:List (List Key×Addr×Value),
   Paired (fun (p:List Key×V) (q:List Key×Addr×Value)=>p.1=q.1/\H q.2.1=some (.tup (p.1.map kV))/\RelV p.2 q.2.2) Em xs/\
   ∃ o es ep,h.get? a=some o/\o.ExactDict/\o.data=.dict es ep/\es.toList=xs.map (entryOfKey (tupleKind (mixKind P w)))/\(xs.map (·.1)).Nodup
 | .set S n=>h.SetOf (intKind P w) a S n
 | .ins C dx fs=>H dx=some (.own a)/\fs.length<=1000/\dx≠a/\h.get? a=some (PySem.W.instObj C dx)/\
   ∃ mA,h.Ns1 dx mA/\(∀ f,RelO (fs.lookup f) (mA f))/\PySem.Within mA (fs.map (·.1))
 | .own _=>∃ o,h.get? a=some o
 | .xd fs=>∃ mA,h.Ns1 a mA/\∀ f,RelO (fs.lookup f) (mA f)
 | .rng lo hi=>∃ t u v,h.get? a=some { cls:=.type "range",data:=.fields #[.int lo t,.int hi u,.int 1 v] }
 | .frz o u=>h.get? a=some o/\ObjOk H h a u
 | .tbl ps=>h.get? a=some { cls:=.none,data:=.fields ps }
 | .met f x=>h.get? a=some (PySem.W.methodObj (.ref f) (.ref x))
 | .ext φ=>φ h/\(∃ o,h.get? a=some o)/\∀ h1 h2:Heap,φ h1->(∀ o,h1.get? a=some o->h2.get? a=some o)->φ h2
def HOk (H:Hp) (h:Heap):Prop:=∀ a o,H a=some o->ObjOk P w H h a o
end
section
variable {P:Program} {w:World} {H H':Hp} {h h':Heap} {a:Addr} {o:HO}
theorem ObjOk.lt (x:ObjOk P w H h a o):a < h.objs.size:=by
 cases o with
 | lst xs=>obtain ⟨_,_,_,_,e⟩:=x;exact Heap.lt_size e
 | tup xs=>obtain ⟨_,_,_,p⟩:=x;exact p.tup.lt
 | dK Em=>obtain ⟨_,_,_,_,o,_,_,e,_⟩:=x;exact Heap.lt_size e
 | dT Em=>obtain ⟨_,_,_,_,o,_,_,e,_⟩:=x;exact Heap.lt_size e
 | set S n=>obtain ⟨o,_,_,_,e,_⟩:=x;exact Heap.lt_size e
 | ins C dx fs=>obtain ⟨_,_,_,e,_⟩:=x;exact Heap.lt_size e
 | own y=>obtain ⟨_,e⟩:=x;exact Heap.lt_size e
 | xd fs=>obtain ⟨_,⟨_,_,_,e,_⟩,_⟩:=x;exact Heap.lt_size e
 | rng lo hi=>obtain ⟨_,_,_,e⟩:=x;exact Heap.lt_size e
 | frz ob u=>obtain ⟨e,_⟩:=x;exact Heap.lt_size e
 | tbl ps=>exact Heap.lt_size (show h.get? a=some _ from x)
 | met f y=>exact Heap.lt_size (show h.get? a=some _ from x)
 | ext φ=>obtain ⟨_,⟨_,e⟩,_⟩:=x;exact Heap.lt_size e
theorem Paired.mapP {α β:Type} {F G:α->β->Prop}:∀ {l₁:List α} {l₂:List β},Paired F l₁ l₂->(∀ a b,F a b->G a b)->Paired G l₁ l₂
 | _,_,.nil,_=>.nil
 | _,_,.cons r t,f=>.cons (f _ _ r) (Paired.mapP t f)
theorem ObjOk.stay (x:ObjOk P w H h a o) (k:∀ b u,(b=a\/H b=some (.own a))->h.get? b=some u->h'.get? b=some u)
  (ho:∀ b,H b=some (.own a)->H' b=some (.own a)) (ht:∀ b xs,H b=some (.tup xs)->H' b=some (.tup xs)):ObjOk P w H' h' a o:=by
 induction o with
 | lst xs=>obtain ⟨z,El,n,r,e⟩:=x;exact ⟨z,El,n,r,k _ _ (.inl rfl) e⟩
 | tup xs=>obtain ⟨z,El,r,ob,e,c⟩:=x;exact ⟨z,El,r,ob,k _ _ (.inl rfl) e,c⟩
 | dK Em=>obtain ⟨z,y,vs,r,ob,es,ep,e,c⟩:=x;exact ⟨z,y,vs,r,ob,es,ep,k _ _ (.inl rfl) e,c⟩
 | dT Em=>
  obtain ⟨z,y,xs,r,ob,es,ep,e,c⟩:=x
  exact ⟨z,y,xs,Paired.mapP r fun p q z=>⟨z.1,ht _ _ z.2.1,z.2.2⟩,ob,es,ep,k _ _ (.inl rfl) e,c⟩
 | set S n=>obtain ⟨ob,es,ep,t,e,c⟩:=x;exact ⟨ob,es,ep,t,k _ _ (.inl rfl) e,c⟩
 | ins C dx fs=>
  obtain ⟨d,z,ne,e,mA,⟨od,es,ep,e2,c⟩,r⟩:=x
  exact ⟨ho _ d,z,ne,k _ _ (.inl rfl) e,mA,⟨od,es,ep,k _ _ (.inr d) e2,c⟩,r⟩
 | own y=>obtain ⟨ob,e⟩:=x;exact ⟨ob,k _ _ (.inl rfl) e⟩
 | xd fs=>obtain ⟨mA,⟨od,es,ep,e,c⟩,r⟩:=x;exact ⟨mA,⟨od,es,ep,k _ _ (.inl rfl) e,c⟩,r⟩
 | rng lo hi=>obtain ⟨t,u,v,e⟩:=x;exact ⟨t,u,v,k _ _ (.inl rfl) e⟩
 | frz ob u ih=>obtain ⟨e,q⟩:=x;exact ⟨k _ _ (.inl rfl) e,ih q⟩
 | tbl ps=>
  have e:h.get? a=some { cls:=.none,data:=.fields ps }:=x
  show h'.get? a=some { cls:=.none,data:=.fields ps }
  exact k a _ (.inl rfl) e
 | met f y=>
  have e:h.get? a=some (PySem.W.methodObj (.ref f) (.ref y)):=x
  show h'.get? a=some (PySem.W.methodObj (.ref f) (.ref y))
  exact k a _ (.inl rfl) e
 | ext φ=>obtain ⟨p,⟨o,e⟩,st⟩:=x;exact ⟨st _ _ p fun o q=>k _ _ (.inl rfl) q,⟨o,k _ _ (.inl rfl) e⟩,st⟩
theorem HOk.lt (x:HOk P w H h) (e:H a=some o):a < h.objs.size:=(x a o e).lt
theorem HOk.fresh (x:HOk P w H h) (e:h.objs.size<=a):H a=none:=by
 cases q:H a with
 | none=>rfl
 | some u=>exact absurd (Nat.lt_of_lt_of_le (x.lt q) e) (Nat.lt_irrefl _)
theorem HOk.kept (x:HOk P w H h) (k:∀ b u,h.get? b=some u->h'.get? b=some u):HOk P w H h':=fun a o e=>
 (x a o e).stay (fun b u _ q=>k b u q) (fun _ q=>q) fun _ _ q=>q
theorem HOk.laid (x:HOk P w H h) (k:∀ b u,h.get? b=some u->h'.get? b=some u) (hp:h.objs.size<=a) (new:ObjOk P w (upd H a o) h' a o):HOk P w (upd H a o) h':=fun b u e=>by
 have hn:=x.fresh hp
 by_cases hb:b=a
 ·subst hb;rw [bK] at e;cases e;exact new
 ·rw [aP hb] at e
  exact (x b u e).stay (fun c v _ q=>k c v q) (fun c q=>by rw [aP (bg q hn)];exact q) fun c xs q=>by rw [aP (bg q hn)];exact q
end
def Rd (H:Hp) (a:Addr) (u:HO):Prop:=H a=some u\/∃ o,H a=some (.frz o u)
theorem Rd.ok {P:Program} {w:World} {H:Hp} {h:Heap} {a:Addr} {u:HO} (r:Rd H a u) (x:HOk P w H h):ObjOk P w H h a u:=by
 rcases r with r | ⟨o,r⟩
 ·exact x a u r
 ·obtain ⟨_,q⟩:=x a _ r
  exact q
noncomputable def LN:Option HO->Prop
 | some (.lst _)=>True
 | some (.dK _)=>True
 | some (.dT _)=>True
 | some (.set _ _)=>True
 | some (.ins _ _ _)=>True
 | some (.ext _)=>True
 | _=>False
section
variable {P:Program} {w:World} {H:Hp} {h h':Heap} {x e:Addr} {o':HO}
theorem HOk.write (ok:HOk P w H h) (mu:LN (H x)) (he:e=x\/H e=some (.own x)) (k:∀ b u,b≠e->h.get? b=some u->h'.get? b=some u) (Lz:∃ u,h'.get? e=some u)
  (new:ObjOk P w (upd H x o') h' x o'):HOk P w (upd H x o') h':=fun b u q=>by
 have IP:∀ c y,H c=some (.own y)->c≠x:=fun c y r z=>by subst z;rw [r] at mu;exact mu
 have ntup:∀ c xs,H c=some (.tup xs)->c≠x:=fun c xs r z=>by subst z;rw [r] at mu;exact mu
 by_cases hb:b=x
 ·subst hb;rw [bK] at q;cases q;exact new
 ·rw [aP hb] at q
  by_cases Jf:b=e
  ·have q':H b=some (.own x):=by
    rcases he with z | z
    ·exact absurd (Jf.trans z) hb
    ·rw [Jf];exact z
   rw [q] at q';cases q'
   obtain ⟨v,hv⟩:=Lz
   exact ⟨v,by rw [Jf];exact hv⟩
  ·refine (ok b u q).stay (fun c v hc r=>k c v ?_ r) (fun c r=>by rw [aP (IP c b r)];exact r) fun c xs r=>by rw [aP (ntup c xs r)];exact r
   rcases hc with rfl | hc
   ·exact Jf
   ·rintro rfl
    rcases he with z | z
    ·exact IP c b hc z
    ·rw [hc] at z;cases z;exact hb rfl
end
structure Un (fs ex:List Addr) (H H':Hp) (h h':Heap):Prop where
 keep:∀ b o,h.get? b=some o->H b=none->b∉fs->b∉ex->h'.get? b=some o
 slot:∀ b o,h.get? b=some o->H b=none->b∈fs->b∉ex->∃ sl,h'.get? b=some { o with slots:=sl }
 free:∀ b o,h.get? b=some o->H b=none->b∉ex->H' b=none
 there:∀ b o,h.get? b=some o->b∉ex->∃ o',h'.get? b=some o'
 tups:∀ b xs,H b=some (.tup xs)->H' b=some (.tup xs)
 frzs:∀ b o u,H b=some (.frz o u)->H' b=some (.frz o u)
 tbls:∀ b ps,H b=some (.tbl ps)->∃ more,H' b=some (.tbl (ps++more))
section
variable {fs fs' ex ex':List Addr} {H H1 H2:Hp} {h h1 h2 h':Heap} {a x e:Addr} {o:HO}
theorem Un.any (u:Un fs ex H H1 h h1) {b:Addr} {ob:Obj} (q:h.get? b=some ob) (n:H b=none) (hx:b∉ex):∃ sl,h1.get? b=some { ob with slots:=sl }:=by
 by_cases hb:b∈fs
 ·exact u.slot b ob q n hb hx
 ·exact ⟨ob.slots,u.keep b ob q n hb hx⟩
theorem Un.trans (a:Un fs ex H H1 h h1) (b:Un fs ex H1 H2 h1 h2):Un fs ex H H2 h h2 where
 keep:=fun c ob q n hc hx=>b.keep c ob (a.keep c ob q n hc hx) (a.free c ob q n hx) hc hx
 slot:=fun c ob q n hc hx=>by
  obtain ⟨sl,e1⟩:=a.slot c ob q n hc hx
  obtain ⟨Nq,e2⟩:=b.slot c _ e1 (a.free c ob q n hx) hc hx
  exact ⟨Nq,e2⟩
 free:=fun c ob q n hx=>by
  obtain ⟨o',e1⟩:=a.there c ob q hx
  exact b.free c o' e1 (a.free c ob q n hx) hx
 there:=fun c ob q hx=>by
  obtain ⟨o',e1⟩:=a.there c ob q hx
  exact b.there c o' e1 hx
 tups:=fun c xs q=>b.tups c xs (a.tups c xs q)
 frzs:=fun c ob xs q=>b.frzs c ob xs (a.frzs c ob xs q)
 tbls:=fun c ps q=>by
  obtain ⟨m1,e1⟩:=a.tbls c ps q
  obtain ⟨m2,e2⟩:=b.tbls c _ e1
  exact ⟨m1++m2,by rw [e2,Array.append_assoc]⟩
theorem Un.kept (k:∀ b u,h.get? b=some u->h'.get? b=some u):Un fs ex H H h h':=
 ⟨fun b ob q _ _ _=>k b ob q,fun b ob q _ _ _=>⟨ob.slots,k b ob q⟩,fun _ _ _ n _=>n,fun b ob q _=>⟨ob,k b ob q⟩,fun _ _ q=>q,fun _ _ _ q=>q,fun _ ps q=>⟨#[],by rw [q];simp⟩⟩
theorem Un.refl:Un fs ex H H h h:=Un.kept fun _ _ q=>q
theorem Un.laid (k:∀ b u,h.get? b=some u->h'.get? b=some u) (hp:h.objs.size<=a) (hn:H a=none):Un fs ex H (upd H a o) h h' where
 keep:=fun b u q _ _ _=>k b u q
 slot:=fun b u q _ _ _=>⟨u.slots,k b u q⟩
 free:=fun b u q n _=>by rw [aP (Nat.ne_of_lt (Nat.lt_of_lt_of_le (Heap.lt_size q) hp))];exact n
 there:=fun b u q _=>⟨u,k b u q⟩
 tups:=fun b xs q=>by rw [aP (bg q hn)];exact q
 frzs:=fun b u xs q=>by rw [aP (bg q hn)];exact q
 tbls:=fun b ps q=>⟨#[],by rw [aP (bg q hn),q];simp⟩
theorem Un.write (mu:LN (H x)) (he:e=x\/H e=some (.own x)) (k:∀ b u,b≠e->h.get? b=some u->h'.get? b=some u) (Lz:∃ u,h'.get? e=some u):Un fs ex H (upd H x o) h h':=by
 have hx:∀ b,H b=none->b≠x:=fun b n z=>by subst z;rw [n] at mu;exact mu
 have hb:∀ b,H b=none->b≠e:=fun b n z=>by
  subst z
  rcases he with r | r
  ·exact hx b n r
  ·rw [n] at r;cases r
 have hm:∀ b u,H b=some u->¬ LN (some u)->b≠x:=fun b u q nm z=>by subst z;rw [q] at mu;exact nm mu
 refine ⟨fun b u q n _ _=>k b u (hb b n) q,fun b u q n _ _=>⟨u.slots,k b u (hb b n) q⟩,fun b u q n _=>by rw [aP (hx b n)];exact n,fun b u q _=>?_,
  fun b xs q=>by rw [aP (hm b _ q fun z=>z)];exact q,fun b u xs q=>by rw [aP (hm b _ q fun z=>z)];exact q,fun b ps q=>⟨#[],by rw [aP (hm b _ q fun z=>z),q];simp⟩⟩
 by_cases Jf:b=e
 ·subst Jf;exact Lz
 ·exact ⟨u,k b u Jf q⟩
end
noncomputable def trk (h:Heap) (H:Hp):List Addr:=(List.range h.objs.size).filter fun a=>(H a).isSome
noncomputable def uT (h:Heap) (H:Hp):Heap:=PySem.W.hideAll h (trk h H)
theorem rS (h:Heap) (H:Hp):(uT h H).objs.size=h.objs.size:=PySem.W.hideAll_size _ _
theorem uU {h:Heap} {H:Hp} {b:Addr} {o:Obj} (e:h.get? b=some o) (n:H b=none):(uT h H).get? b=some o:=
 PySem.W.hideAll_get _ e fun hm=>by
  have q:(H b).isSome=true:=(List.mem_filter.mp hm).2
  rw [n] at q;simp at q
theorem xk {h:Heap} {H:Hp} {b:Addr} {o:Obj} (e:(uT h H).get? b=some o):h.get? b=some o/\H b=none:=by
 have e':h.get? b=some o:=PySem.W.of_hideAll (trk h H) e
 refine ⟨e',?_⟩
 cases q:H b with
 | none=>rfl
 | some x=>
  have hm:b∈trk h H:=List.mem_filter.mpr ⟨List.mem_range.mpr (Heap.lt_size e'),by simp [q]⟩
  have z:(uT h H).get? b=none:=PySem.W.hideAll_none (trk h H) hm
  rw [z] at e;cases e
noncomputable def xl (g h:Heap) (L:Addr):List (Addr×Obj):=(List.range h.objs.size).filterMap fun a=>if a=L\/(g.get? a).isSome=true then none else (h.get? a).map fun o=>(a,o)
noncomputable def fE (g h:Heap) (L d:Addr):List (Addr×Obj):=(xl g h L).filter fun p=>decide (p.1≠d)
structure Mod (K:W.Frag) (mg:Str->Option Value) (base:Heap):Prop where
 kin:K.In base
 glob:base.Ns mainGlobals mg
 blt:∃ mb,base.Ns builtinsNs mb/\∀ x:Str,x≠"__name__"->mb x=bootBuiltins x
 nolimit:base.NoLimit
structure Cx where
 prog:Program
 w:World
 K:W.Frag
 mg:Str->Option Value
 base:Heap
 A:Around
 N:List Str
 s₀:Shared
 H₀:Hp
 env:Env
 outer:List Env
 stack:List Env
 ex:List Addr
 fn:Str->Bool
 calm:Bool
 pn:List (Addr×Obj)
 xe:Value->Shared->Prop
noncomputable def I0 (l:List Env):List Addr:=l.filterMap (·.frame)
abbrev Cx.fs (X:Cx):List Addr:=I0 X.outer
def Nr (sc:Scope) (x:Str):Prop:=sc.names.lookup x=some .local\/sc.names.lookup x=some .cell\/sc.names.lookup x=some .free
def Loc (sc:Scope) (x:Str):Prop:=sc.names.lookup x=some .local\/sc.names.lookup x=some .cell
noncomputable def Dm (sc:Scope) (x:Str):Bool:=match sc.names.lookup x with
 | some .local=>true
 | some .cell=>true
 | _=>false
theorem lo {sc:Scope} {x:Str} (h:Dm sc x=true):Loc sc x:=by
 unfold Dm at h
 split at h
 ·exact .inl (by assumption)
 ·exact .inr (by assumption)
 ·cases h

def Dy (env:Env) (h:Heap) (m:Str->Option Value) (x:Str) (u:Value):Prop:=
 (env.kindOf x=some .local/\m x=some u)\/((env.kindOf x=some .cell\/env.kindOf x=some .free)/\∃ c,env.cells.lookup x=some c/\h.IsCell c (some u))
structure Cx.Ok (X:Cx):Prop where
 mod:Mod X.K X.mg X.base
 kind:X.env.scope.kind=.function
 glob:X.env.globals=mainGlobals
 blt:X.env.builtins=builtinsNs
 above:X.s₀.heap.objs.size<=X.env.locals
 inj:∀ x y c,X.env.cells.lookup x=some c->X.env.cells.lookup y=some c->x=y
 has:∀ x,(X.env.kindOf x=some .cell\/X.env.kindOf x=some .free)->∃ c,X.env.cells.lookup x=some c
 cab:∀ x c,X.fn x=true->X.env.cells.lookup x=some c->X.s₀.heap.objs.size<=c
 hd:X.calm=true->X.A.handled=none
 frames:X.A.frames=some X.stack
 stk:X.stack=X.outer\/(X.stack=X.env :: X.outer/\X.env.frame=some X.env.locals)
 exf:∀ b∈X.ex,b≠X.env.locals/\∀ x c,X.env.cells.lookup x=some c->c≠b
 bs:∀ b o,X.base.get? b=some o->X.s₀.heap.get? b=some o/\X.H₀ b=none
 bsz:X.base.objs.size<=X.s₀.heap.objs.size
 noex:∀ b o,X.base.get? b=some o->b∉X.ex
 exfs:∀ b∈X.ex,b∉X.fs
 funs:X.s₀.heap.FunFrames X.base X.outer
 frf:∀ b∈X.fs,X.H₀ b=none
structure Inv (X:Cx) (pins:List (Addr×Obj)) (σ:List (Option V)) (H:Hp) (s:Shared):Prop where
 ok:X.Ok
 os:s.os=X.s₀.os
 bare:AllBare s.gens
 base:Un X.fs X.ex X.H₀ H X.s₀.heap s.heap
 loc:∃ m,s.heap.Ns X.env.locals m/\∀ (i:Nat) (x:Str) (v:V),X.N[i]?=some x->σ[i]?=some (some v)->Nr X.env.scope x->∃ u,RelV v u/\Dy X.env s.heap m x u
 cell:∀ x c,X.env.cells.lookup x=some c->∃ v,s.heap.IsCell c v
 free:H X.env.locals=none
 freeC:∀ x c,X.env.cells.lookup x=some c->H c=none
 pin:∀ p∈X.pn++pins,s.heap.get? p.1=some p.2/\H p.1=none/\p.1≠X.env.locals/\p.1∉X.fs/\∀ v,p.2.data≠.cell v
 hok:HOk X.prog X.w H s.heap
 len:σ.length=X.N.length
section
variable {X:Cx} {pins:List (Addr×Obj)} {σ:List (Option V)} {H H':Hp} {s:Shared} {h':Heap}
theorem Cx.Ok.nofr (ok:X.Ok) {b:Addr} {o:Obj} (e:X.base.get? b=some o):b∉X.fs:=fun hb=>by
 have:=(ok.funs.mem hb).1
 rw [e] at this;cases this
theorem Inv.bs (I:Inv X pins σ H s):∀ b o,X.base.get? b=some o->s.heap.get? b=some o/\H b=none:=fun b o e=>
 ⟨I.base.keep b o (I.ok.bs b o e).1 (I.ok.bs b o e).2 (I.ok.nofr e) (I.ok.noex b o e),I.base.free b o (I.ok.bs b o e).1 (I.ok.bs b o e).2 (I.ok.noex b o e)⟩
theorem Inv.bk (I:Inv X pins σ H s):∀ b o,X.base.get? b=some o->s.heap.get? b=some o:=fun b o e=>(I.bs b o e).1
theorem Inv.mod (I:Inv X pins σ H s):Mod X.K X.mg X.base:=I.ok.mod
theorem Inv.kIn (I:Inv X pins σ H s):X.K.In s.heap:=I.ok.mod.kin.keeps I.bk
theorem Inv.lt (I:Inv X pins σ H s):X.env.locals < s.heap.objs.size:=let ⟨_,hn,_⟩:=I.loc;hn.lt
theorem Inv.sz (I:Inv X pins σ H s):X.s₀.heap.objs.size<=s.heap.objs.size:=Nat.le_trans I.ok.above (Nat.le_of_lt I.lt)
theorem Inv.nofs (I:Inv X pins σ H s) {a:Addr} (h:s.heap.objs.size<=a):a∉X.fs:=fun hb=>by
 obtain ⟨_,o,ho,_⟩:=I.ok.funs.mem hb
 exact absurd (Nat.lt_of_lt_of_le (Heap.lt_size ho) (Nat.le_trans I.sz h)) (Nat.lt_irrefl _)
theorem Inv.cne (I:Inv X pins σ H s):∀ x c,X.env.cells.lookup x=some c->c≠X.env.locals:=fun x c e z=>by
 obtain ⟨v,o,ho,hd⟩:=I.cell x c e
 obtain ⟨m,⟨o',es,ep,JP,KP,_⟩,_⟩:=I.loc
 rw [z,JP] at ho;cases ho;rw [KP] at hd;cases hd
theorem Inv.funs (I:Inv X pins σ H s):s.heap.FunFrames X.base X.outer:=by
 have all:∀ (l:List Env),(∀ b∈I0 l,b∈X.fs)->X.s₀.heap.FunFrames X.base l->s.heap.FunFrames X.base l:=by
  intro l
  induction l with
  | nil=>intro _ _;trivial
  | cons env r ih=>
   intro hs hl
   obtain ⟨hk,⟨L,o,hf,hn,ho,hd⟩,hr⟩:=hl
   have hL:L∈X.fs:=hs L (by unfold I0;rw [List.filterMap_cons,hf];exact List.mem_cons_self)
   obtain ⟨sl,e⟩:=I.base.slot L o ho (I.ok.frf L hL) hL fun z=>I.ok.exfs L z hL
   exact ⟨hk,⟨L,_,hf,hn,e,hd⟩,ih (fun b hb=>hs b (by unfold I0;rw [List.filterMap_cons,hf];exact List.mem_cons_of_mem _ hb)) hr⟩
 exact all X.outer (fun _ hb=>hb) I.ok.funs
theorem Inv.stack (I:Inv X pins σ H s):s.heap.FunFrames X.base X.stack:=by
 rcases I.ok.stk with e | ⟨e,hf⟩
 ·rw [e];exact I.funs
 ·rw [e]
  obtain ⟨m,hn,_⟩:=I.loc
  refine .cons (by rw [I.ok.kind];decide) hf hn ?_ I.funs
  exact Heap.get?_none_of_le (Nat.le_trans I.ok.bsz I.ok.above)
theorem Inv.stkSub (I:Inv X pins σ H s):∀ b∈I0 X.stack,b∈X.env.locals :: X.fs:=fun b hb=>by
 rcases I.ok.stk with e | ⟨e,hf⟩
 ·rw [e] at hb;exact List.mem_cons_of_mem _ hb
 ·rw [e] at hb
  unfold I0 at hb
  rw [List.filterMap_cons,hf] at hb
  exact hb
theorem Inv.stkFree (I:Inv X pins σ H s):∀ b∈I0 X.stack,H b=none:=fun b hb=>by
 rcases List.mem_cons.mp (I.stkSub b hb) with e | hb
 ·rw [e];exact I.free
 ·obtain ⟨_,o,ho,_⟩:=I.ok.funs.mem hb
  exact I.base.free b o ho (I.ok.frf b hb) fun z=>I.ok.exfs b z hb
theorem Inv.step {g':Array GenState} {t':Nat} {d':Drawn} {ch:List Addr} (I:Inv X pins σ H s)
  (JI:∀ b∈ch,(b∈X.ex\/X.s₀.heap.objs.size<=b)/\b≠X.env.locals/\(∀ x c,X.env.cells.lookup x=some c->c≠b)/\∀ p∈X.pn++pins,p.1≠b)
  (keep:∀ b o,b≠X.env.locals->b∉X.fs->b∉ch->s.heap.get? b=some o->H b=none->h'.get? b=some o)
  (slot:∀ b o,b≠X.env.locals->b∈X.fs->b∉ch->s.heap.get? b=some o->H b=none->∃ sl,h'.get? b=some { o with slots:=sl }) (free:∀ b o,b∉ch->s.heap.get? b=some o->H b=none->H' b=none)
  (there:∀ b o,b∉ch->s.heap.get? b=some o->∃ o',h'.get? b=some o')
  (tups:∀ b xs,H b=some (.tup xs)->H' b=some (.tup xs)) (frzs:∀ b o u,H b=some (.frz o u)->H' b=some (.frz o u)) (tbls:∀ b ps,H b=some (.tbl ps)->∃ more,H' b=some (.tbl (ps++more)))
  (ns:∀ m,s.heap.Ns X.env.locals m->h'.Ns X.env.locals m) (hok:HOk X.prog X.w H' h') (hg:AllBare g') :
  Inv X pins σ H' { s with heap:=h',gens:=g',drawn:=d',toks:=t' }:=by
 have Oi:∀ b o,X.s₀.heap.get? b=some o->b≠X.env.locals:=fun b o e=>Nat.ne_of_lt (Nat.lt_of_lt_of_le (Heap.lt_size e) I.ok.above)
 have MZ:∀ b o,X.s₀.heap.get? b=some o->b∉X.ex->b∉ch:=fun b o e hx hb=>by
  rcases (JI b hb).1 with z | z
  ·exact hx z
  ·exact absurd (Nat.lt_of_lt_of_le (Heap.lt_size e) z) (Nat.lt_irrefl _)
 have cellK:∀ x c,X.env.cells.lookup x=some c->∀ v,s.heap.IsCell c v->h'.IsCell c v:=fun x c e v EA=>by
  obtain ⟨o,ho,hd⟩:=EA
  have LO:c∉ch:=fun z=>(JI c z).2.2.1 x c e rfl
  by_cases hc:c∈X.fs
  ·obtain ⟨sl,q⟩:=slot c o (I.cne x c e) hc LO ho (I.freeC x c e)
   exact ⟨_,q,hd⟩
  ·exact ⟨o,keep c o (I.cne x c e) hc LO ho (I.freeC x c e),hd⟩
 refine ⟨I.ok,I.os,hg,⟨fun b o e n hb hx=>?_,fun b o e n hb hx=>?_,fun b o e n hx=>?_,fun b o e hx=>?_,fun b xs e=>tups b xs (I.base.tups b xs e),fun b o xs e=>frzs b o xs (I.base.frzs b o xs e),fun b ps e=>?_⟩,?_,fun x c e=>?_,?_,fun x c e=>?_,fun p hp=>?_,hok,I.len⟩
 ·exact keep b o (Oi b o e) hb (MZ b o e hx) (I.base.keep b o e n hb hx) (I.base.free b o e n hx)
 ·obtain ⟨sl,e1⟩:=I.base.slot b o e n hb hx
  obtain ⟨Nq,e2⟩:=slot b _ (Oi b o e) hb (MZ b o e hx) e1 (I.base.free b o e n hx)
  exact ⟨Nq,e2⟩
 ·obtain ⟨o',e1⟩:=I.base.there b o e hx
  exact free b o' (MZ b o e hx) e1 (I.base.free b o e n hx)
 ·obtain ⟨o',e1⟩:=I.base.there b o e hx
  exact there b o' (MZ b o e hx) e1
 ·obtain ⟨m1,e1⟩:=I.base.tbls b ps e
  obtain ⟨m2,e2⟩:=tbls b _ e1
  exact ⟨m1++m2,by rw [e2,Array.append_assoc]⟩
 ·obtain ⟨m,hn,hl⟩:=I.loc
  refine ⟨m,ns m hn,fun i x v e1 e2 e3=>?_⟩
  obtain ⟨u,r,l⟩:=hl i x v e1 e2 e3
  refine ⟨u,r,?_⟩
  rcases l with l | ⟨k,c,e,z⟩
  ·exact .inl l
  ·exact .inr ⟨k,c,e,cellK x c e _ z⟩
 ·obtain ⟨v,z⟩:=I.cell x c e
  exact ⟨v,cellK x c e v z⟩
 ·obtain ⟨m,⟨o,_,_,ho,_⟩,_⟩:=I.loc
  exact free _ o (fun z=>(JI _ z).2.1 rfl) ho I.free
 ·obtain ⟨v,o,ho,hd⟩:=I.cell x c e
  exact free c o (fun z=>(JI c z).2.2.1 x c e rfl) ho (I.freeC x c e)
 ·obtain ⟨e,n,ne,nf,d⟩:=I.pin p hp
  have LO:p.1∉ch:=fun z=>(JI p.1 z).2.2.2 p hp rfl
  exact ⟨keep p.1 p.2 ne nf LO e n,free p.1 p.2 LO e n,ne,nf,d⟩
theorem Inv.un {t':Nat} (I:Inv X pins σ H s) (u:Un X.fs [] H H' s.heap h') (hok:HOk X.prog X.w H' h'):Inv X pins σ H' { s with heap:=h',toks:=t' }:=by
 obtain ⟨m,⟨o,es,ep,ho,r⟩,_⟩:=id I.loc
 obtain ⟨sl,hL⟩:=u.any ho I.free (by simp)
 exact I.step (g':=s.gens) (d':=s.drawn) (ch:=[]) (fun _ z=>nomatch z) (fun b o _ hb _ e n=>u.keep b o e n hb (by simp)) (fun b o _ hb _ e n=>u.slot b o e n hb (by simp)) (fun b o _ e n=>u.free b o e n (by simp)) (fun b o _ e=>u.there b o e (by simp)) u.tups u.frzs u.tbls (fun m' hm=>by
  obtain ⟨o',KQ,Nu,JP,r'⟩:=hm
  rw [ho] at JP;cases JP
  exact ⟨_,KQ,Nu,hL,r'⟩) hok I.bare
theorem Inv.call {g':Array GenState} {t':Nat} {d':Drawn} {ch:List Addr} (I:Inv X pins σ H s) (u:Un (I0 X.stack) ch H H' s.heap h') (hok:HOk X.prog X.w H' h') (hg:AllBare g')
  (JI:∀ b∈ch,(b∈X.ex\/X.s₀.heap.objs.size<=b)/\b≠X.env.locals/\(∀ x c,X.env.cells.lookup x=some c->c≠b)/\∀ p∈X.pn++pins,p.1≠b) :
  Inv X pins σ H' { s with heap:=h',gens:=g',drawn:=d',toks:=t' }:=by
 obtain ⟨m,⟨o,es,ep,ho,r⟩,_⟩:=id I.loc
 obtain ⟨sl,hL⟩:=u.any ho I.free fun z=>(JI _ z).2.1 rfl
 exact I.step (ch:=ch) JI (fun b o hL hb hc e n=>u.keep b o e n (fun z=>(List.mem_cons.mp (I.stkSub b z)).elim hL hb) hc) (fun b o _ _ hc e n=>u.any e n hc) (fun b o hc e n=>u.free b o e n hc) (fun b o hc e=>u.there b o e hc) u.tups u.frzs u.tbls (fun m' hm=>by
  obtain ⟨o',KQ,Nu,JP,r'⟩:=hm
  rw [ho] at JP;cases JP
  exact ⟨_,KQ,Nu,hL,r'⟩) hok hg
theorem Inv.turned {t':Nat} {it:Addr} (I:Inv X pins σ H s) (k:∀ b o,b≠it->s.heap.get? b=some o->h'.get? b=some o) (hn:H it=none) (hL:it≠X.env.locals)
  (h1:it∈X.ex\/X.s₀.heap.objs.size<=it) (h2:∀ x c,X.env.cells.lookup x=some c->c≠it) (h3:∀ p∈X.pn++pins,p.1≠it):Inv X pins σ H { s with heap:=h',toks:=t' }:=by
 have Oj:∀ b u,H b=some u->b≠it:=fun b u e z=>by rw [z,hn] at e;cases e
 refine I.step (g':=s.gens) (d':=s.drawn) (ch:=[it]) (fun b hb=>?_) (fun b o _ _ hc e _=>k b o (fun z=>hc (by simp [z])) e) (fun b o _ _ hc e _=>⟨o.slots,k b o (fun z=>hc (by simp [z])) e⟩) (fun _ _ _ _ n=>n)
  (fun b o hc e=>⟨o,k b o (fun z=>hc (by simp [z])) e⟩) (fun _ _ e=>e) (fun _ _ _ e=>e) (fun b ps e=>⟨#[],by rw [e];simp⟩) (fun m hm=>?_) (fun b u e=>?_) I.bare
 ·have e:b=it:=by simpa using hb
  subst e
  exact ⟨h1,hL,h2,h3⟩
 ·obtain ⟨o,es,ep,ho,r⟩:=hm
  exact ⟨o,es,ep,k _ o (Ne.symm hL) ho,r⟩
 ·refine (I.hok b u e).stay (fun c v hc q=>k c v ?_ q) (fun _ q=>q) fun _ _ q=>q
  rcases hc with z | z
  ·rw [z];exact Oj b u e
  ·exact Oj c _ z
theorem Inv.tok (I:Inv X pins σ H s) (t:Nat):Inv X pins σ H { s with toks:=t }:=I.un (h':=s.heap) (t':=t) Un.refl I.hok
theorem Inv.kept {t':Nat} (I:Inv X pins σ H s) (k:∀ b u,s.heap.get? b=some u->h'.get? b=some u):Inv X pins σ H { s with heap:=h',toks:=t' }:=I.un (Un.kept k) (I.hok.kept k)
theorem Inv.laid {a:Addr} {o:HO} {t':Nat} (I:Inv X pins σ H s) (k:∀ b u,s.heap.get? b=some u->h'.get? b=some u) (hp:s.heap.objs.size<=a) (new:ObjOk X.prog X.w (upd H a o) h' a o) :
  Inv X pins σ (upd H a o) { s with heap:=h',toks:=t' }:=I.un (Un.laid k hp (I.hok.fresh hp)) (I.hok.laid k hp new)
theorem Inv.write {x e:Addr} {o:HO} {t':Nat} (I:Inv X pins σ H s) (mu:LN (H x)) (he:e=x\/H e=some (.own x)) (k:∀ b u,b≠e->s.heap.get? b=some u->h'.get? b=some u) (Lz:∃ u,h'.get? e=some u)
  (new:ObjOk X.prog X.w (upd H x o) h' x o):Inv X pins σ (upd H x o) { s with heap:=h',toks:=t' }:=I.un (Un.write mu he k Lz) (I.hok.write mu he k Lz new)
theorem Inv.pins_of {Kx:List (Addr×Obj)} (I:Inv X pins σ H s) (h:∀ p∈Kx,s.heap.get? p.1=some p.2/\H p.1=none/\p.1≠X.env.locals/\p.1∉X.fs/\∀ v,p.2.data≠.cell v):Inv X Kx σ H s:=
 ⟨I.ok,I.os,I.bare,I.base,I.loc,I.cell,I.free,I.freeC,fun p hp=>(List.mem_append.mp hp).elim (fun z=>I.pin p (List.mem_append_left _ z)) (h p),I.hok,I.len⟩
theorem pO {N:List Str} (hN:N.Nodup) {i j:Nat} {x:Str} (a:N[i]?=some x) (b:N[j]?=some x):i=j:=by
 obtain ⟨h1,e1⟩:=List.getElem?_eq_some_iff.mp a
 obtain ⟨h2,e2⟩:=List.getElem?_eq_some_iff.mp b
 exact (List.getElem_inj hN).mp (e1.trans e2.symm)
theorem mN {M:Model} {A:Around} {E:Value->Shared->Prop} {i:Nat} {x:Str} {v:V} {u:Value} {Q:Unit->Shared->Prop} (I:Inv X pins σ H s) (hN:X.N.Nodup) (hi:X.N[i]?=some x) (hx:Loc X.env.scope x) (r:RelV v u)
  (h:∀ s',Inv X pins (σ.set i (some v)) H s'->(∃ a,Heap.SameBut a s.heap s'.heap/\(a=X.env.locals\/X.env.cells.lookup x=some a))->Q () s') (hf:X.fn x=true\/X.env.scope.names.lookup x=some .local:=by first | exact .inl rfl | exact .inr rfl | assumption):wpAny M A (storeName X.env x u) Q E s:=by
 obtain ⟨m,hn,hl⟩:=id I.loc
 have hcls:(X.env.scope.kind == .class || (X.env.scope.kind == .module && X.env.locals != X.env.globals))=false:=by rw [I.ok.kind];rfl
 have hiσ:i < σ.length:=by rw [I.len];exact (List.getElem?_eq_some_iff.mp hi).1
 have cne:=I.cne
 have tracked:∀ {a:Addr} {h':Heap},(∃ o,s.heap.get? a=some o/\H a=none)->Heap.SameBut a s.heap h'->HOk X.prog X.w H h':=fun {a h'} ha hs b ob e=>by
  obtain ⟨_,_,Ky⟩:=ha
  refine (I.hok b ob e).stay (fun c w' hc q=>(hs.2 c ?_).trans q) (fun _ q=>q) fun _ _ q=>q
  rintro rfl
  rcases hc with rfl | hc
  ·rw [Ky] at e;cases e
  ·rw [Ky] at hc;cases hc
 rcases hx with hk | hk
 ·refine wpAny_storeName_local hk hn (fun h' hn' hs=>?_) hcls
  obtain ⟨oL,_,_,hoL,_⟩:=id hn
  refine h _ ⟨I.ok,I.os,I.bare,⟨fun b o e n hb hx=>?_,fun b o e n hb hx=>?_,I.base.free,fun b o e hx=>?_,I.base.tups,I.base.frzs,I.base.tbls⟩,⟨_,hn',fun j y v' e1 e2 e3=>?_⟩,fun y c e=>?_,I.free,I.freeC,fun p hp=>?_,tracked ⟨oL,hoL,I.free⟩ hs,by simpa using I.len⟩ ⟨_,hs,.inl rfl⟩
  ·exact (hs.2 b (Nat.ne_of_lt (Nat.lt_of_lt_of_le (Heap.lt_size e) I.ok.above))).trans (I.base.keep b o e n hb hx)
  ·obtain ⟨sl,e1⟩:=I.base.slot b o e n hb hx
   exact ⟨sl,(hs.2 b (Nat.ne_of_lt (Nat.lt_of_lt_of_le (Heap.lt_size e) I.ok.above))).trans e1⟩
  ·obtain ⟨o',e1⟩:=I.base.there b o e hx
   exact ⟨o',(hs.2 b (Nat.ne_of_lt (Nat.lt_of_lt_of_le (Heap.lt_size e) I.ok.above))).trans e1⟩
  ·by_cases hj:j=i
   ·subst hj
    rw [hi] at e1;cases e1
    rw [List.getElem?_set_self hiσ] at e2
    cases e2
    exact ⟨u,r,.inl ⟨hk,by simp⟩⟩
   ·rw [List.getElem?_set_ne (Ne.symm hj)] at e2
    obtain ⟨u',r',q⟩:=hl j y v' e1 e2 e3
    refine ⟨u',r',?_⟩
    rcases q with ⟨k,e⟩ | ⟨k,c,e,z⟩
    ·refine .inl ⟨k,?_⟩
     have:y≠x:=fun e=>hj (pO hN e1 (e▸hi))
     simp [this,e]
    ·exact .inr ⟨k,c,e,z.sameBut hs (cne y c e)⟩
  ·obtain ⟨w',z⟩:=I.cell y c e
   exact ⟨w',z.sameBut hs (cne y c e)⟩
  ·obtain ⟨e,n,ne,nf,d⟩:=I.pin p hp
   exact ⟨(hs.2 p.1 ne).trans e,n,ne,nf,d⟩
 ·have Jg:X.fn x=true:=by
   rcases hf with z | z
   ·exact z
   ·rw [z] at hk;cases hk
  obtain ⟨c,hc⟩:=I.ok.has x (.inl hk)
  obtain ⟨w',z⟩:=I.cell x c hc
  refine wpAny_storeName_cell I.ok.kind hk hc z (fun h' G9 hs=>?_)
  obtain ⟨oc,Ol,hocd⟩:=id z
  refine h { s with heap:=h' } ⟨I.ok,I.os,I.bare,⟨fun b o e n hb hx=>?_,fun b o e n hb hx=>?_,I.base.free,fun b o e hx=>?_,I.base.tups,I.base.frzs,I.base.tbls⟩,⟨m,hn.sameBut hs (Ne.symm (cne x c hc)),fun j y v' e1 e2 e3=>?_⟩,fun y c' e=>?_,I.free,I.freeC,fun p hp=>?_,tracked ⟨oc,Ol,I.freeC x c hc⟩ hs,by simpa using I.len⟩ ⟨c,hs,.inr hc⟩
  ·exact (hs.2 b (Nat.ne_of_lt (Nat.lt_of_lt_of_le (Heap.lt_size e) (I.ok.cab x c Jg hc)))).trans (I.base.keep b o e n hb hx)
  ·obtain ⟨sl,e1⟩:=I.base.slot b o e n hb hx
   exact ⟨sl,(hs.2 b (Nat.ne_of_lt (Nat.lt_of_lt_of_le (Heap.lt_size e) (I.ok.cab x c Jg hc)))).trans e1⟩
  ·obtain ⟨o',e1⟩:=I.base.there b o e hx
   exact ⟨o',(hs.2 b (Nat.ne_of_lt (Nat.lt_of_lt_of_le (Heap.lt_size e) (I.ok.cab x c Jg hc)))).trans e1⟩
  ·by_cases hj:j=i
   ·subst hj
    rw [hi] at e1;cases e1
    rw [List.getElem?_set_self hiσ] at e2
    cases e2
    exact ⟨u,r,.inr ⟨.inl hk,c,hc,G9⟩⟩
   ·rw [List.getElem?_set_ne (Ne.symm hj)] at e2
    obtain ⟨u',r',q⟩:=hl j y v' e1 e2 e3
    refine ⟨u',r',?_⟩
    rcases q with q | ⟨k,c',e,z'⟩
    ·exact .inl q
    ·refine .inr ⟨k,c',e,z'.sameBut hs ?_⟩
     rintro rfl
     exact hj (pO hN e1 (I.ok.inj _ _ _ e hc▸hi))
  ·by_cases hcc:c'=c
   ·subst hcc;exact ⟨_,G9⟩
   ·obtain ⟨w2,z2⟩:=I.cell y c' e
    exact ⟨w2,z2.sameBut hs hcc⟩
  ·obtain ⟨e,n,ne,nf,d⟩:=I.pin p hp
   refine ⟨(hs.2 p.1 ?_).trans e,n,ne,nf,d⟩
   intro q
   rw [q,Ol] at e
   have q':oc=p.2:=Option.some.inj e
   exact d w' (by rw [<-q'];exact hocd)
theorem pP {M:Model} {A:Around} {E:Value->Shared->Prop} {i:Nat} {x:Str} {v:V} {u:Value} {Q:Unit->Shared->Prop} (I:Inv X pins σ H s) (hN:X.N.Nodup) (hi:X.N[i]?=some x) (hx:Loc X.env.scope x) (r:RelV v u)
  (h:∀ s',Inv X pins (σ.set i (some v)) H s'->Q () s') (hf:X.fn x=true\/X.env.scope.names.lookup x=some .local:=by first | exact .inl rfl | exact .inr rfl | assumption):wpAny M A (storeName X.env x u) Q E s:=
 mN I hN hi hx r (fun s' I' _=>h s' I') hf
theorem Inv.call' {s':Shared} {ch:List Addr} (I:Inv X pins σ H s) (ho:s'.os=s.os) (u:Un (I0 X.stack) ch H H' s.heap s'.heap) (hok:HOk X.prog X.w H' s'.heap) (hg:AllBare s'.gens)
  (JI:∀ b∈ch,(b∈X.ex\/X.s₀.heap.objs.size<=b)/\b≠X.env.locals/\(∀ x c,X.env.cells.lookup x=some c->c≠b)/\∀ p∈X.pn++pins,p.1≠b):Inv X pins σ H' s':=by
 obtain ⟨h',g',d',t',o'⟩:=s'
 have e:o'=s.os:=ho
 subst e
 exact I.call (g':=g') (t':=t') (d':=d') u hok hg JI
end
abbrev XK:=Value->Option Addr->Hp->Prop
abbrev St:=List (Option V)
abbrev VK:=V->Hp->Prop
abbrev TE:=St->Hp->VK->Prop
abbrev TT:=St->Hp->(Bool->Hp->Prop)->Prop
abbrev TA:=St->Hp->(List V->Hp->Prop)->Prop
structure Ends where
 nx:St->Hp->Prop
 rt:VK
 bk:St->Hp->Prop:=fun _ _=>False
 ct:St->Hp->Prop:=fun _ _=>False
abbrev TS:=Ends->St->Hp->Prop
def EP (X:Cx) (pins:List (Addr×Obj)) (σ:St) (Q:VK) (u:Value) (s':Shared):Prop:=∃ v H',Inv X pins σ H' s'/\RelV v u/\Q v H'
def TP (X:Cx) (pins:List (Addr×Obj)) (σ:St) (Q:Bool->Hp->Prop) (b:Bool) (s':Shared):Prop:=∃ H',Inv X pins σ H' s'/\Q b H'
def AP (X:Cx) (pins:List (Addr×Obj)) (σ:St) (Q:List V->Hp->Prop) (us:List Value) (s':Shared):Prop:=∃ vs H',Inv X pins σ H' s'/\Vals vs us/\Q vs H'
def SP (X:Cx) (pins:List (Addr×Obj)) (D:Ends) (f:Flow) (s':Shared):Prop:=
 match f with
 | .next=>∃ σ' H',Inv X pins σ' H' s'/\D.nx σ' H'
 | .brk=>∃ σ' H',Inv X pins σ' H' s'/\D.bk σ' H'
 | .cont=>∃ σ' H',Inv X pins σ' H' s'/\D.ct σ' H'
 | .ret u=>∃ v σ' H',Inv X pins σ' H' s'/\RelV v u/\D.rt v H'
def PE (X:Cx) (e:Expr) (t:TE):Prop:=
 ∀ (pins:List (Addr×Obj)) (s:Shared) (σ:St) (H:Hp) (Q:VK),Inv X pins σ H s->t σ H Q->wpAny (model X.prog X.w) X.A (eval e X.env) (EP X pins σ Q) X.xe s
def PT (X:Cx) (e:Expr) (t:TT):Prop:=
 ∀ (pins:List (Addr×Obj)) (s:Shared) (σ:St) (H:Hp) (Q:Bool->Hp->Prop),Inv X pins σ H s->t σ H Q->wpAny (model X.prog X.w) X.A (isTrue e X.env (eval e X.env)) (TP X pins σ Q) X.xe s
def PW (X:Cx) (e:Expr) (t:TT):Prop:=
 ∀ (whole:Sem Value) (pins:List (Addr×Obj)) (s:Shared) (σ:St) (H:Hp) (Q:Bool->Hp->Prop),Inv X pins σ H s->t σ H Q->wpAny (model X.prog X.w) X.A (isTrue e X.env whole) (TP X pins σ Q) X.xe s
theorem PW.pt {X:Cx} {e:Expr} {t:TT} (h:PW X e t):PT X e t:=h _
def PA (X:Cx) (es:List Expr) (t:TA):Prop:=
 ∀ (pos:Pos) (pins:List (Addr×Obj)) (s:Shared) (σ:St) (H:Hp) (Q:List V->Hp->Prop),Inv X pins σ H s->t σ H Q->wpAny (model X.prog X.w) X.A (spliced (backTo pos (starEach es X.env))) (AP X pins σ Q) X.xe s
def PS (X:Cx) (st:Stmt) (t:TS):Prop:=
 ∀ (pins:List (Addr×Obj)) (s:Shared) (σ:St) (H:Hp) (D:Ends),Inv X pins σ H s->t D σ H->wpAny (model X.prog X.w) X.A (exec st X.env) (SP X pins D) X.xe s
def PSs (X:Cx) (st:List Stmt) (t:TS):Prop:=
 ∀ (pins:List (Addr×Obj)) (s:Shared) (σ:St) (H:Hp) (D:Ends),Inv X pins σ H s->t D σ H->wpAny (model X.prog X.w) X.A (execs st X.env) (SP X pins D) X.xe s
theorem ED {α:Type} {t:Sem α} {Q Q':α->Shared->Prop} {M:Model} {A:Around} {E:Value->Shared->Prop} {s:Shared} (h:wpAny M A t Q E s) (hQ:∀ a s,Q a s->Q' a s):wpAny M A t Q' E s:=wpAny_mono h hQ fun _ _ x=>x
section
variable {X:Cx}
theorem bin {a b:Expr} {ta tb:TE} (ha:PE X a ta) (hb:PE X b tb) {pins:List (Addr×Obj)} {s:Shared} {σ:St} {H:Hp} {R:V->V->Hp->Prop} (I:Inv X pins σ H s) (h:ta σ H fun x H1=>tb σ H1 fun y H2=>R x y H2)
  {α:Type} {Q:α->Shared->Prop} {f:Value->Value->Sem α}
  (hf:∀ v u s2 x y H2,Inv X pins σ H2 s2->RelV x v->RelV y u->R x y H2->wpAny (model X.prog X.w) X.A (f v u) Q X.xe s2) :
  wpAny (model X.prog X.w) X.A (eval a X.env) (fun v s₁=>wpAny (model X.prog X.w) X.A (eval b X.env) (fun u s₂=>wpAny (model X.prog X.w) X.A (f v u) Q X.xe s₂) X.xe s₁) X.xe s:=by
 refine ED (ha pins s σ H _ I h) fun v s1 EE=>?_
 obtain ⟨x,H1,I1,r1,q1⟩:=EE
 refine ED (hb pins s1 σ H1 _ I1 q1) fun u s2 EE=>?_
 obtain ⟨y,H2,I2,r2,q2⟩:=EE
 exact hf v u s2 x y H2 I2 r1 r2 q2
noncomputable def uV (i:Nat):TE:=fun σ H Q=>∃ v,σ[i]?=some (some v)/\Q v H
noncomputable def tC (v:V):TE:=fun _ H Q=>Q v H
theorem zx {i:Nat} {x:Str} {pos:Pos} (hN:X.N[i]?=some x) (hv:Nr X.env.scope x) (hd:(x == ("__debug__" : Str))=false:=by decide) (Jh:(x == ("__classdict__" : Str))=false:=by decide):PE X (.Name x pos) (uV i):=by
 intro pins s σ H Q I h
 obtain ⟨v,e,h⟩:=h
 obtain ⟨m,hn,hl⟩:=I.loc
 obtain ⟨u,r,l⟩:=hl i x v hN e hv
 have fin:EP X pins σ Q u s:=⟨v,H,I,r,h⟩
 rcases l with ⟨hk,hm⟩ | ⟨hk,c,hc,E5⟩
 ·exact wpAny_Name (wpAny_loadName_local I.ok.kind hk hn hm fin) hd
 ·rcases hk with hk | hk
  ·exact wpAny_Name (wpAny_loadName_cell I.ok.kind hk hc E5 fin) hd
  ·exact wpAny_Name (wpAny_loadName_free I.ok.kind hk hc E5 fin Jh) hd
theorem zy {i j pos}:PE X (.Constant (.int i) j pos) (tC (.int i)):=fun _ _ _ H _ I h=>wpAny_Constant_int ⟨.int i,H,I.tok _,⟨_,rfl⟩,h⟩
theorem B1 {b j pos}:PE X (.Constant (.bool b) j pos) (tC (.bl b)):=fun _ _ _ H _ I h=>Constant_bool ⟨.bl b,H,I,rfl,h⟩
theorem zH {j pos}:PE X (.Constant .none j pos) (tC .non):=fun _ _ _ H _ I h=>Constant_none ⟨.non,H,I,rfl,h⟩
theorem zI {x j pos}:PE X (.Constant (.str x) j pos) (tC (.str x)):=fun _ _ _ H _ I h=>Calls.Constant_str ⟨.str x,H,I.tok _,⟨_,rfl⟩,h⟩
def Gl (X:Cx) (x:Str):Prop:=X.env.kindOf x=some .globalImplicit
theorem xm {E:Value->Shared->Prop} {pins:List (Addr×Obj)} {s:Shared} {σ:St} {H:Hp} {x:Str} {u:Value} {pos:Pos} {Q:Value->Shared->Prop} (I:Inv X pins σ H s) (hg:Gl X x) (hm:X.mg x=some u) (h:Q u s)
  (hd:(x == ("__debug__" : Str))=false:=by decide):wpAny (model X.prog X.w) X.A (eval (.Name x pos) X.env) Q E s:=
 Calls.Name_function_global I.ok.kind hg (Calls.loadGlobal_global (by rw [I.ok.glob];exact I.mod.glob.keeps I.bk) hm h) hd
theorem jL {E:Value->Shared->Prop} {pins:List (Addr×Obj)} {s:Shared} {σ:St} {H:Hp} {x:Str} {u:Value} {pos:Pos} {Q:Value->Shared->Prop} (I:Inv X pins σ H s) (hg:Gl X x) (hm:X.mg x=none) (hv:bootBuiltins x=some u) (h:Q u s)
  (hn:x≠"__name__":=by decide) (hd:(x == ("__debug__" : Str))=false:=by decide):wpAny (model X.prog X.w) X.A (eval (.Name x pos) X.env) Q E s:=by
 obtain ⟨mb,h1,h2⟩:=I.mod.blt
 exact Calls.Name_function_global I.ok.kind hg (Calls.loadGlobal_builtin (by rw [I.ok.glob];exact I.mod.glob.keeps I.bk) hm (by rw [I.ok.blt];exact h1.keeps I.bk) ((h2 x hn).trans hv) h) hd
theorem xn {x:Str} {v:V} {u:Value} {pos:Pos} (hg:Gl X x) (hm:X.mg x=none) (hv:bootBuiltins x=some u) (r:RelV v u) (hn:x≠"__name__":=by decide) (hd:(x == ("__debug__" : Str))=false:=by decide):PE X (.Name x pos) (tC v):=
 fun _ _ _ H _ I h=>jL I hg hm hv ⟨v,H,I,r,h⟩ hn hd
variable {a b:Expr} {ta tb:TE} {pos:Pos}
def PC (X:Cx) (op:CmpOp) (a b:Expr) (t:TE):Prop:=
 ∀ (pins:List (Addr×Obj)) (s:Shared) (σ:St) (H:Hp) (Q:VK),Inv X pins σ H s->t σ H Q->
  wpAny (model X.prog X.w) X.A (eval a X.env) (fun v s₁=>wpAny (model X.prog X.w) X.A (eval b X.env) (fun u s₂=>wpAny (model X.prog X.w) X.A (compareOp op v u) (EP X pins σ Q) X.xe s₂) X.xe s₁) X.xe s
theorem uW (b:Expr) {op:CmpOp} (h:op≠.In) (h2:op≠.NotIn):behindInMarks op b=false:=by
 have e1:(op == CmpOp.In)=false:=by cases op <;> first | rfl | exact absurd rfl h
 have e2:(op == CmpOp.NotIn)=false:=by cases op <;> first | rfl | exact absurd rfl h2
 cases b <;> simp [behindInMarks,e1,e2]
noncomputable def tB (t:TE):TT:=fun σ H Q=>t σ H fun x H1=>∃ c,x=.bl c/\Q c H1
theorem Dn {op:CmpOp} {t:TE} (h:PC X op a b t) (h1:behindInMarks op b=false:=by first | exact uW _ (by decide) (by decide) | rfl):PT X (.Compare a [op] [b] pos) (tB t):=by
 intro pins s σ H Q I hw
 refine wpAny_isTrue_Compare1 (ED (h pins s σ H _ I hw) fun v s1 h1=>ED h1 fun u s2 h2=>ED h2 fun c s3 ⟨x,H1,I1,r1,q1⟩=>?_) h1
 obtain ⟨d,rfl,q⟩:=q1
 cases r1
 exact wpAny_truthy_bool ⟨H1,I1,q⟩
theorem zJ {e:Expr} {t:TE} (h:PE X e t) (he:∀ whole,isTrue e X.env whole=(do let v <-whole;standAt e.pos;holding [v] (truthy v)):=by intro _;rfl):PT X e (tB t):=by
 intro pins s σ H Q I hw
 refine isTrue_plain (ED (h pins s σ H _ I hw) fun v s1 ⟨x,H1,I1,r1,q1⟩=>?_) (he _)
 obtain ⟨d,rfl,q⟩:=q1
 cases r1
 exact wpAny_truthy_bool ⟨H1,I1,q⟩
variable {tA M0:TT} {fE:List Expr}
noncomputable def Dz (t u:TT):TT:=fun σ H Q=>t σ H fun c H1=>if c=true then u σ H1 Q else Q false H1
noncomputable def tOr (t u:TT):TT:=fun σ H Q=>t σ H fun c H1=>if c=true then Q true H1 else u σ H1 Q
noncomputable def DA (t:TT):TT:=fun σ H Q=>t σ H fun c H1=>Q (!c) H1
theorem xo (ha:PT X a tA):PW X (.BoolOp .And [a] pos) tA:=by
 intro wh pins s σ H Q I h
 refine isTrue_and (ED (ha pins s σ H Q I h) fun c s1 e=>?_)
 cases c with
 | true=>exact isTrue_and_nil e
 | false=>exact e
theorem zL (ha:PT X a tA):PW X (.BoolOp .Or [a] pos) tA:=by
 intro wh pins s σ H Q I h
 refine isTrue_or (ED (ha pins s σ H Q I h) fun c s1 e=>?_)
 cases c with
 | false=>exact isTrue_or_nil e
 | true=>exact e
theorem zM (ha:PT X a tA) (hb:PW X (.BoolOp .And (b :: fE) pos) M0):PW X (.BoolOp .And (a :: b :: fE) pos) (Dz tA M0):=by
 intro wh pins s σ H Q I h
 refine isTrue_and (ED (ha pins s σ H _ I h) fun c s1 EE=>?_)
 obtain ⟨H1,I1,q1⟩:=EE
 cases c with
 | true=>exact hb wh pins s1 σ H1 Q I1 q1
 | false=>exact ⟨H1,I1,q1⟩
theorem B2 (ha:PT X a tA) (hb:PW X (.BoolOp .Or (b :: fE) pos) M0):PW X (.BoolOp .Or (a :: b :: fE) pos) (tOr tA M0):=by
 intro wh pins s σ H Q I h
 refine isTrue_or (ED (ha pins s σ H _ I h) fun c s1 EE=>?_)
 obtain ⟨H1,I1,q1⟩:=EE
 cases c with
 | true=>exact ⟨H1,I1,q1⟩
 | false=>exact hb wh pins s1 σ H1 Q I1 q1
theorem zN (ha:PT X a tA):PT X (.UnaryOp .Not a pos) (DA tA):=by
 intro pins s σ H Q I h
 exact isTrue_not (ha pins s σ H (fun c H1=>Q (!c) H1) I h)
noncomputable def DB (ta tb:TE):TE:=fun σ H Q=>ta σ H fun x H1=>∃ c,x=.bl c/\if c=true then Q (.bl true) H1 else tb σ H1 Q
theorem zO {op} {t:TE} (h:PE X a t):PE X (.BoolOp op [a] pos) t:=fun pins s σ H Q I hw=>BoolOp_one (h pins s σ H Q I hw)
theorem B3 (ha:PE X a ta) (hb:PE X (.BoolOp .Or (b :: fE) pos) tb):PE X (.BoolOp .Or (a :: b :: fE) pos) (DB ta tb):=by
 intro pins s σ H Q I h
 refine BoolOp_or (ED (ha pins s σ H _ I h) fun v s1 EE=>?_)
 obtain ⟨x,H1,I1,r1,q1⟩:=EE
 obtain ⟨c,rfl,q1⟩:=q1
 cases r1
 refine wpAny_truthy_bool ?_
 cases c with
 | false=>exact hb pins s1 σ H1 Q I1 q1
 | true=>exact ⟨.bl true,H1,I1,rfl,q1⟩
end
def SqL (K:W.Frag) (H:Hp) (a:Addr) (xs:List V):Prop:=
 Rd H a (.lst xs)\/
  ∃ (o:Obj) (El:Array Value) (n:Nat),K.lookup a=some o/\o.cls=.type "list"/\o.dict=none/\o.data=.seq El n/\El.size<=sizeLine/\Vals xs El.toList
def SqT (K:W.Frag) (H:Hp) (a:Addr) (xs:List V):Prop:=
 Rd H a (.tup xs)\/
  ∃ (o:Obj) (El:Array Value) (n:Nat),K.lookup a=some o/\o.cls=.type "tuple"/\o.dict=none/\o.data=.seq El n/\El.size<=sizeLine/\Vals xs El.toList
noncomputable def DD:Value->Option V
 | .none=>some .non
 | .bool b=>some (.bl b)
 | .int i _=>some (.int i)
 | .str x _=>some (.str x)
 | .bytes b _=>some (.byt b)
 | .float b _=>some (.flt b)
 | .ref a=>some (.ref a)
 | .type n=>some (.ty n)
 | _=>none
theorem RelV.abs {x:V} {u:Value} (r:RelV x u):DD u=some x:=by
 cases x with
 | non=>cases r;rfl
 | bl _=>cases r;rfl
 | int _=>obtain ⟨t,rfl⟩:=r;rfl
 | str _=>obtain ⟨t,rfl⟩:=r;rfl
 | byt _=>obtain ⟨t,rfl⟩:=r;rfl
 | flt _=>obtain ⟨t,rfl⟩:=r;rfl
 | ref _=>cases r;rfl
 | ty _=>cases r;rfl
theorem RelV.inj {x y:V} {u:Value} (r:RelV x u) (q:RelV y u):x=y:=Option.some.inj (r.abs.symm.trans q.abs)
theorem Vals.inj:∀ {xs ys:List V} {us:List Value},Vals xs us->Vals ys us->xs=ys
 | _,_,_,.nil,.nil=>rfl
 | _,_,_,.cons r t,.cons r' t'=>by rw [r.inj r',Vals.inj t t']
section
variable {X:Cx} {pins:List (Addr×Obj)} {σ:St} {H:Hp} {s:Shared} {a:Addr} {xs ys:List V}
theorem SqL.of {K:W.Frag} (h:H a=some (.lst xs)):SqL K H a xs:=.inl (.inl h)
theorem SqT.of {K:W.Frag} (h:H a=some (.tup xs)):SqT K H a xs:=.inl (.inl h)
theorem Inv.list (I:Inv X pins σ H s) (h:SqL X.K H a xs):∃ El:List Value,Vals xs El/\PlainL s.heap a El.toArray/\xs.length<=sizeLine:=by
 rcases h with h | ⟨o,El,n,hk,hc,hd,hs,hz,r⟩
 ·obtain ⟨z,El,n,r,e⟩:=h.ok I.hok
  exact ⟨El,r,⟨_,n,e,rfl,rfl,rfl⟩,z⟩
 ·refine ⟨El.toList,r,⟨o,n,I.kIn a o hk,hc,hd,by simpa using hs⟩,?_⟩
  have e:=r.length
  simp only [Array.length_toList] at e
  lia
theorem Inv.tupleN (I:Inv X pins σ H s) (h:SqT X.K H a xs):∃ El:List Value,Vals xs El/\IsTupN s.heap a El.toArray/\xs.length<=sizeLine:=by
 rcases h with h | ⟨o,El,n,hk,hc,hdn,hs,hz,r⟩
 ·obtain ⟨z,El,r,p⟩:=h.ok I.hok
  exact ⟨El,r,p,z⟩
 ·refine ⟨El.toList,r,⟨o,I.kIn a o hk,hc,⟨n,by simpa using hs⟩,hdn⟩,?_⟩
  have e:=r.length
  simp only [Array.length_toList] at e
  lia
theorem Inv.tuple (I:Inv X pins σ H s) (h:SqT X.K H a xs):∃ El:List Value,Vals xs El/\IsTup s.heap a El.toArray/\xs.length<=sizeLine:=by
 obtain ⟨El,r,p,z⟩:=I.tupleN h
 exact ⟨El,r,p.tup,z⟩
theorem Inv.list_inj (I:Inv X pins σ H s) (h:SqL X.K H a xs) (h':SqL X.K H a ys):xs=ys:=by
 obtain ⟨El,r,⟨o,n,e,_,_,d⟩,_⟩:=I.list h
 obtain ⟨its',r',⟨o',n',e',_,_,d'⟩,_⟩:=I.list h'
 rw [e] at e';cases e'
 rw [d] at d'
 injection d' with d1 _
 have:El=its':=by simpa using congrArg Array.toList d1
 subst this
 exact r.inj r'
theorem Inv.tuple_inj (I:Inv X pins σ H s) (h:SqT X.K H a xs) (h':SqT X.K H a ys):xs=ys:=by
 obtain ⟨El,r,⟨o,e,_,n,d⟩,_⟩:=I.tuple h
 obtain ⟨its',r',⟨o',e',_,n',d'⟩,_⟩:=I.tuple h'
 rw [e] at e';cases e'
 rw [d] at d'
 injection d' with d1 _
 have:El=its':=by simpa using congrArg Array.toList d1
 subst this
 exact r.inj r'
end
abbrev Cx.wish (X:Cx) (E:Value->Shared->Prop):Cx:={ X with xe:=E }
abbrev Cx.nox (X:Cx):Cx:=X.wish fun _ _=>False
theorem Cx.Ok.wish {X:Cx} (ok:X.Ok) (E:Value->Shared->Prop):(X.wish E).Ok:=
 ⟨ok.mod,ok.kind,ok.glob,ok.blt,ok.above,ok.inj,ok.has,ok.cab,ok.hd,ok.frames,ok.stk,ok.exf,ok.bs,ok.bsz,ok.noex,ok.exfs,ok.funs,ok.frf⟩
theorem Cx.Ok.unwish {X:Cx} {E:Value->Shared->Prop} (ok:(X.wish E).Ok):X.Ok:=
 ⟨ok.mod,ok.kind,ok.glob,ok.blt,ok.above,ok.inj,ok.has,ok.cab,ok.hd,ok.frames,ok.stk,ok.exf,ok.bs,ok.bsz,ok.noex,ok.exfs,ok.funs,ok.frf⟩
section
variable {X:Cx} {pins:List (Addr×Obj)} {σ:St} {H:Hp} {s:Shared} {E:Value->Shared->Prop}
theorem Inv.wish (I:Inv X pins σ H s) (E:Value->Shared->Prop):Inv (X.wish E) pins σ H s:=⟨I.ok.wish E,I.os,I.bare,I.base,I.loc,I.cell,I.free,I.freeC,I.pin,I.hok,I.len⟩
theorem Inv.unwish (I:Inv (X.wish E) pins σ H s):Inv X pins σ H s:=⟨I.ok.unwish,I.os,I.bare,I.base,I.loc,I.cell,I.free,I.freeC,I.pin,I.hok,I.len⟩
theorem SP.unwish {D:Ends} {f:Flow} {s':Shared} (h:SP (X.wish E) pins D f s'):SP X pins D f s':=by
 cases f with
 | next=>obtain ⟨σ',H',I,q⟩:=h;exact ⟨σ',H',I.unwish,q⟩
 | brk=>obtain ⟨σ',H',I,q⟩:=h;exact ⟨σ',H',I.unwish,q⟩
 | cont=>obtain ⟨σ',H',I,q⟩:=h;exact ⟨σ',H',I.unwish,q⟩
 | ret u=>obtain ⟨v,σ',H',I,r,q⟩:=h;exact ⟨v,σ',H',I.unwish,r,q⟩
theorem PSs.nox {st:List Stmt} {t:TS} (h:PSs X.nox st t):PSs X st t:=fun pins s σ H D I hw=>
 wpAny_mono (h pins s σ H D (I.wish _) hw) (fun _ _ q=>q.unwish) fun _ _ z=>False.elim z
end
section
variable {X:Cx} {st:Stmt} {fE:List Stmt} {t u:TS} {e:Expr} {te:TE} {pos:Pos}
noncomputable def B4:TS:=fun D σ H=>D.nx σ H
noncomputable def DE (t u:TS):TS:=fun D σ H=>t { D with nx:=u D } σ H
theorem xp:PSs X [] B4:=fun _ _ σ H _ I h=>wpAny_execs_nil ⟨σ,H,I,h⟩
theorem uX (h1:PS X st t) (h2:PSs X fE u):PSs X (st :: fE) (DE t u):=by
 intro pins s σ H D I h
 refine wpAny_execs_cons (ED (h1 pins s σ H { D with nx:=u D } I h) fun f s1 q=>?_)
 cases f with
 | next=>
  obtain ⟨σ',H',I',q⟩:=q
  exact h2 pins s1 σ' H' D I' q
 | ret v=>exact q
 | brk=>exact q
 | cont=>exact q
theorem xq (h1:PS X st t):PSs X [st] t:=by
 intro pins s σ H D I h
 refine wpAny_execs_cons (ED (h1 pins s σ H D I h) fun f s1 q=>?_)
 cases f with
 | next=>exact wpAny_execs_nil q
 | ret v=>exact q
 | brk=>exact q
 | cont=>exact q
theorem Inv.quiet {pins:List (Addr×Obj)} {σ:St} {H:Hp} {s:Shared} (I:Inv X pins σ H s):interactive X.env=false:=by simp [interactive,I.ok.kind]
noncomputable def B5 (te:TE):TS:=fun D σ H=>te σ H fun _ H1=>D.nx σ H1
theorem xr (he:PE X e te) (hs:swapsWith e none pos.line X.env=pure false:=by rfl):PS X (.Expr e pos) (B5 te):=by
 intro pins s σ H D I h
 exact wpAny_Expr_any (ED (he pins s σ H _ I h) fun v s1 ⟨x,H1,I1,r1,q1⟩=>⟨σ,H1,I1,q1⟩) I.quiet hs
noncomputable def DF (te:TE):TS:=fun D σ H=>te σ H D.rt
theorem zP (he:PE X e te):PS X (.Return (some e) pos) (DF te):=by
 intro pins s σ H D I h
 exact wpAny_Return_some (ED (he pins s σ H _ I h) fun v s1 ⟨x,H1,I1,r1,q1⟩=>⟨x,σ,H1,I1,r1,q1⟩)
noncomputable def DG (c:TT) (t u:TS):TS:=fun D σ H=>c σ H fun b H1=>if b=true then t D σ H1 else u D σ H1
theorem B6 {c:Expr} {a b:List Stmt} {tc:TT} (hc:PT X c tc) (ha:PSs X a t) (hb:PSs X b u):PS X (.If c a b pos) (DG tc t u):=by
 intro pins s σ H D I h
 refine wpAny_If (ED (hc pins s σ H _ I h) fun d s1 EE=>?_)
 obtain ⟨H1,I1,q1⟩:=EE
 cases d with
 | true=>exact ha pins s1 σ H1 D I1 q1
 | false=>exact hb pins s1 σ H1 D I1 q1
noncomputable def zQ:TS:=fun _ _ _=>False
theorem uY:PS X st zQ:=fun _ _ _ _ _ _ h=>h.elim
end
abbrev TG:=V->St->Hp->(St->Hp->Prop)->Prop
abbrev Kz:=List V->St->Hp->(St->Hp->Prop)->Prop
def PG (X:Cx) (target:Expr) (t:TG):Prop:=
 ∀ (pins:List (Addr×Obj)) (s:Shared) (σ:St) (H:Hp) (v:V) (u:Value) (Q:St->Hp->Prop),Inv X pins σ H s->RelV v u->t v σ H Q->
  wpAny (model X.prog X.w) X.A (assign target X.env u) (fun _ s'=>∃ σ' H',Inv X pins σ' H' s'/\Q σ' H') X.xe s
def KR (X:Cx) (ts:List Expr) (t:Kz):Prop:=
 ∀ (pins:List (Addr×Obj)) (s:Shared) (σ:St) (H:Hp) (vs:List V) (us:List Value) (Q:St->Hp->Prop),Inv X pins σ H s->Vals vs us->t vs σ H Q->
  wpAny (model X.prog X.w) X.A (assignInOrder ((assignEach ts X.env).map (·.2)) us) (fun _ s'=>∃ σ' H',Inv X pins σ' H' s'/\Q σ' H') X.xe s
abbrev DH:=V->V->V->Hp->(Hp->Prop)->Prop
def DI (X:Cx) (t:DH):Prop:=
 ∀ (pins:List (Addr×Obj)) (s:Shared) (σ:St) (H:Hp) (o i v:V) (ov iv u:Value) (Q:Hp->Prop),Inv X pins σ H s->RelV o ov->RelV i iv->RelV v u->t o i v H Q->
  wpAny (model X.prog X.w) X.A (setItem ov iv u) (fun _ s'=>∃ H',Inv X pins σ H' s'/\Q H') X.xe s
section
variable {X:Cx} {pos:Pos}
noncomputable def zR (i:Nat):TG:=fun v σ H Q=>Q (σ.set i (some v)) H
theorem xt {i:Nat} {x:Str} (hN:X.N.Nodup) (hi:X.N[i]?=some x) (hx:Loc X.env.scope x) (hf:X.fn x=true\/X.env.scope.names.lookup x=some .local:=by first | exact .inl rfl | exact .inr rfl | assumption):PG X (.Name x pos) (zR i):=by
 intro pins s σ H v u Q I r h
 exact wpAny_assign_Name (pP I hN hi hx r (fun s' I'=>⟨_,H,I',h⟩) hf)
noncomputable def DJ:Kz:=fun vs σ H Q=>vs=[]/\Q σ H
noncomputable def B7 (t:TG) (u:Kz):Kz:=fun vs σ H Q=>∃ v r,vs=v :: r/\t v σ H fun σ' H'=>u r σ' H' Q
theorem xu:KR X [] DJ:=by
 intro pins s σ H vs us Q I r h
 obtain ⟨e,h⟩:=h
 subst e
 cases r
 exact assignInOrder_nil ⟨σ,H,I,h⟩
theorem u0 {e:Expr} {es:List Expr} {t:TG} {u:Kz} (h1:PG X e t) (h2:KR X es u)
  (hs:(assignEach (e :: es) X.env).map (·.2)=assign e X.env :: (assignEach es X.env).map (·.2):=by rfl):KR X (e :: es) (B7 t u):=by
 intro pins s σ H vs us Q I r h
 obtain ⟨v,vr,e1,h⟩:=h
 subst e1
 cases r with
 | cons r rr=>
  rw [hs]
  refine assignInOrder_cons (ED (h1 pins s σ H _ _ _ I r h) fun _ s1 EE=>?_)
  obtain ⟨σ1,H1,I1,q1⟩:=EE
  exact h2 pins s1 σ1 H1 _ _ Q I1 rr q1
noncomputable def DK (K:W.Frag) (n:Nat) (t:Kz):TG:=fun v σ H Q=>∃ a xs,v=.ref a/\SqT K H a xs/\xs.length=n/\t xs σ H Q
theorem zS {es:List Expr} {k:Nat} {t:Kz} {n:Nat} (hc:X.calm=true) (h:KR X es t)
  (hn:(assignEach es X.env).length=n:=by rfl) (Ja:(assignEach es X.env).findIdx? (·.1)=none:=by rfl):PG X (.Tuple es k pos) (DK X.K n t):=by
 intro pins s σ H v u Q I r hw
 obtain ⟨a,xs,e1,hq,hl,hw⟩:=hw
 subst e1
 cases r
 obtain ⟨El,rv,ht,hz⟩:=I.tuple hq
 refine assign_Tuple_tuple (I.ok.hd hc) ht (by simp [hn,<-hl,rv.length]) Ja fun h' hx=>?_
 have I1:Inv X pins σ H { s with heap:=h' }:=I.kept (t':=s.toks) fun b o e=>hx b o (Nat.ne_of_lt (Heap.lt_size e)) e
 exact h pins _ σ H xs _ Q I1 (by simpa using rv) hw
noncomputable def Dp (te:TE) (g:TG):TS:=fun D σ H=>te σ H fun x H1=>g x σ H1 D.nx
theorem zT {tg e:Expr} {te:TE} {g:TG} (he:PE X e te) (hg:PG X tg g) (hs:swapsWithSole [tg] e pos.line X.env=pure false:=by rfl) (hw:swappedStores [tg] e X.env=pure none:=by rfl)
  (h1:(assignEach [tg] X.env).map (·.2)=[assign tg X.env]:=by rfl):PS X (.Assign [tg] e pos) (Dp te g):=by
 intro pins s σ H D I h
 refine wpAny_Assign_stores (ED (he pins s σ H _ I h) fun v s1 ⟨x,H1,I1,r1,q1⟩=>?_) hs hw
 rw [h1]
 exact ED (hg pins s1 σ H1 x v _ I1 r1 q1) fun _ s2 q=>q
theorem zU {i:Nat} {x:Str} {e:Expr} {te:TE} {pos':Pos} (hN:X.N.Nodup) (hi:X.N[i]?=some x) (hx:Loc X.env.scope x) (he:PE X e te) (hs:swapsWith e (some (.Name x pos')) pos.line X.env=pure false:=by rfl) (hf:X.fn x=true\/X.env.scope.names.lookup x=some .local:=by first | exact .inl rfl | exact .inr rfl | assumption) :
  PS X (.Assign [.Name x pos'] e pos) (Dp te (zR i)):=by
 intro pins s σ H D I h
 refine wpAny_Assign_Name (ED (he pins s σ H _ I h) fun v s1 ⟨y,H1,I1,r1,q1⟩=>?_) hs
 exact pP I1 hN hi hx r1 (fun s2 I2=>⟨_,H1,I2,q1⟩) hf
end
section
variable {X:Cx} {pos:Pos}
noncomputable def zV (c:TT) (tb:TS):TS:=fun D σ H=>∃ W:Nat->St->Hp->Prop,(∃ m,W m σ H)/\∀ m σ H,W m σ H->
 c σ H fun b H1=>if b=true then ∃ N:St->Hp->Prop,(∀ σ' H',N σ' H'->∃ m',m' < m/\W m' σ' H')/\tb { D with nx:=N,ct:=N,bk:=D.nx } σ H1 else D.nx σ H1
theorem u3 {c:Expr} {body:List Stmt} {tc:TT} {tb:TS} (hp:PassesOwn (model X.prog X.w) X.A X.env X.xe) (hc:PT X c tc) (hb:PSs X body tb):PS X (.While c body [] pos) (zV tc tb):=by
 intro pins s σ H D I h
 obtain ⟨W,⟨m0,w0⟩,turn⟩:=h
 refine wpAny_While (codeAny_whileLoop (fun n s'=>∃ σ' H',Inv X pins σ' H' s'/\W n σ' H') ?_ m0 ⟨σ,H,I,w0⟩)
 rintro n s1 ⟨σ1,H1,I1,w1⟩
 refine wpAny_passesOwn hp (ED (hc pins s1 σ1 H1 _ I1 (turn n σ1 H1 w1)) fun b s2 EE=>?_)
 obtain ⟨H2,I2,q2⟩:=EE
 cases b with
 | true=>
  obtain ⟨N,hN,q2⟩:=q2
  rw [if_pos rfl]
  refine wpAny_passesOwn hp (ED (hb pins s2 σ1 H2 _ I2 q2) fun f s3 q3=>?_)
  cases f with
  | next=>
   obtain ⟨σ3,H3,I3,n3⟩:=q3
   obtain ⟨m',hm,w3⟩:=hN σ3 H3 n3
   exact ⟨m',hm,σ3,H3,I3,w3⟩
  | cont=>
   obtain ⟨σ3,H3,I3,n3⟩:=q3
   obtain ⟨m',hm,w3⟩:=hN σ3 H3 n3
   exact ⟨m',hm,σ3,H3,I3,w3⟩
  | brk=>exact q3
  | ret v=>exact q3
 | false=>
  rw [if_neg Bool.false_ne_true]
  exact wpAny_execs_nil ⟨σ1,H2,I2,q2⟩
end
structure It where
 go:Nat->Hp->Prop
 yld:Nat->Hp->V->Hp->Prop
 stop:Nat->Hp->Prop
def rN (X:Cx) (pins:List (Addr×Obj)) (H:Hp) (b:Addr):Prop:=
 H b=none/\b≠X.env.locals/\b∉X.fs/\(b∈X.ex\/X.s₀.heap.objs.size<=b)/\(∀ x c,X.env.cells.lookup x=some c->c≠b)/\∀ p∈X.pn++pins,p.1≠b
theorem Inv.fpOk {X:Cx} {pins:List (Addr×Obj)} {σ:St} {H H':Hp} {s:Shared} {b:Addr} (I:Inv X pins σ H s) (hb:s.heap.objs.size<=b) (hn:H' b=none):rN X pins H' b:=by
 refine ⟨hn,Nat.ne_of_gt (Nat.lt_of_lt_of_le I.lt hb),I.nofs hb,.inr (Nat.le_trans I.sz hb),fun x c e z=>?_,fun p hp z=>?_⟩
 ·obtain ⟨v,q⟩:=I.cell x c e
  exact absurd (Nat.lt_of_lt_of_le q.lt (by rw [z];exact hb)) (Nat.lt_irrefl _)
 ·exact absurd (Nat.lt_of_lt_of_le (Heap.lt_size (I.pin p hp).1) (by rw [z];exact hb)) (Nat.lt_irrefl _)
structure Turn (P:Program) (w:World) (K:W.Frag) (tg:Expr) (J:It) (fp:List Addr) (it:Addr) (tn:Nat->Heap->Prop):Prop where
 mem:it∈fp
 obj:∀ i h,tn i h->∀ b∈fp,∃ o,h.get? b=some o/\∀ v,o.data≠.cell v
 keep:∀ i h h',tn i h->(∀ b∈fp,∀ o,h.get? b=some o->h'.get? b=some o)->tn i h'
 item:∀ (X:Cx),X.prog=P->X.w=w->X.K=K->X.calm=true->∀ (i:Nat) (pins:List (Addr×Obj)) (s:Shared) (σ:St) (H:Hp) (E:Value->Shared->Prop),Inv X pins σ H s->(∀ b∈fp,rN X pins H b)->tn i s.heap->J.go i H->
  wpAny (model P w) X.A (pyNext (.ref it)) (fun r s1=>∃ u,r=some u/\
   wpAny (model P w) X.A (letOwnedTupleGo tg (.ref it) u) (fun _ s2=>∃ x H',Inv X pins σ H' s2/\RelV x u/\J.yld i H x H'/\tn (i + 1) s2.heap/\∀ b∈fp,H' b=none) E s1) E s
 done:∀ (X:Cx),X.prog=P->X.w=w->X.K=K->X.calm=true->∀ (i:Nat) (pins:List (Addr×Obj)) (s:Shared) (σ:St) (H:Hp) (E:Value->Shared->Prop),Inv X pins σ H s->(∀ b∈fp,rN X pins H b)->tn i s.heap->J.stop i H->
  wpAny (model P w) X.A (pyNext (.ref it)) (fun r s1=>r=none/\Inv X pins σ H s1) E s
 self:∀ (A:Around) (i:Nat) (s:Shared) (Q:Value->Shared->Prop) (E:Value->Shared->Prop),tn i s.heap->Q (.ref it) s->wpAny (model P w) A (pyIter (.ref it)) Q E s
abbrev TI:=St->Hp->(It->Hp->Prop)->Prop
def Om (X:Cx) (pins:List (Addr×Obj)) (σ:St) (tg:Expr) (R:It->Hp->Prop) (M1:Value) (s2:Shared):Prop:=
 ∃ (it:Addr) (fp:List Addr) (tn:Nat->Heap->Prop) (J:It) (H':Hp),M1=.ref it/\Inv X pins σ H' s2/\Turn X.prog X.w X.K tg J fp it tn/\tn 0 s2.heap/\(∀ b∈fp,rN X pins H' b)/\R J H'
def PI (X:Cx) (tg iter:Expr) (wi:TI):Prop:=
 ∀ (pins:List (Addr×Obj)) (s:Shared) (σ:St) (H:Hp) (R:It->Hp->Prop),Inv X pins σ H s->wi σ H R->
  wpAny (model X.prog X.w) X.A (eval iter X.env) (fun v s1=>wpAny (model X.prog X.w) X.A (pyIter v) (Om X pins σ tg R) X.xe s1) X.xe s
theorem u4 {M : Model} {A : Around} {E : Value -> Shared -> Prop} {s : Shared} {tg : Expr} {it : Addr} {u : Value} {o : Obj} {n : String} {vs : Array Value} {Q : Unit -> Shared -> Prop} (ho : s.heap.get? it = some o) (hc : o.cls = .type n) (hd : o.data = .fields vs)
    (hn : ["enumerate", "zip", "dict_itemiterator", "dict_reverseitemiterator", "odict_iterator", "itertools.zip_longest", "itertools.pairwise"].contains n = false) (hQ : Q () s) : wpAny M A (letOwnedTupleGo tg (.ref it) u) Q E s := by
  unfold letOwnedTupleGo
  cases tg <;> first
    | exact wpAny_pure hQ
    | (cases u <;> first
        | exact wpAny_pure hQ
        | (refine wpAny_bind (wpAny_load ho ?_)
           rw [hc, hd]
           show wpAny M A (if (["enumerate", "zip", "dict_itemiterator", "dict_reverseitemiterator", "odict_iterator", "itertools.zip_longest", "itertools.pairwise"].contains n && vs[0]? == some (rawInt _)) = true then _ else _) Q E s
           rw [if_neg (by intro h; rw [hn, Bool.false_and] at h; cases h)]
           exact wpAny_pure hQ))
noncomputable def LA (K:W.Frag) (a:Addr):It:=
 ⟨fun i H=>∃ xs x,SqL K H a xs/\xs[i]?=some x,fun i H x H'=>H'=H/\∀ xs,SqL K H a xs->xs[i]?=some x,fun i H=>∃ xs,SqL K H a xs/\xs.length<=i⟩
noncomputable def Nv (K:W.Frag) (a:Addr):It:=
 ⟨fun i H=>∃ xs x,SqT K H a xs/\xs[i]?=some x,fun i H x H'=>H'=H/\∀ xs,SqT K H a xs->xs[i]?=some x,fun i H=>∃ xs,SqT K H a xs/\xs.length<=i⟩
noncomputable def M3 (lo:Int) (n:Nat):It:=⟨fun i _=>i < n,fun i H x H'=>H'=H/\x=.int (lo + i),fun i _=>n<=i⟩
theorem rT {P:Program} {w:World} {K:W.Frag} {tg:Expr} (a it:Addr):Turn P w K tg (LA K a) [it] it (fun i h=>h.IsListIter it a i) where
 mem:=by simp
 obj:=fun i h st b hb=>by
  have e:b=it:=by simpa using hb
  subst e
  obtain ⟨o,e,c,d⟩:=st
  exact ⟨o,e,fun v z=>by rw [d] at z;cases z⟩
 keep:=fun i h h' st k=>st.at fun o e=>k it (by simp) o e
 item:=by
  intro X hP hw hK hc i pins s σ H E I hf st hg
  subst hP hw hK
  obtain ⟨xs,x,hq,hx⟩:=hg
  obtain ⟨El,rv,p,hz⟩:=I.list hq
  obtain ⟨u,hu,ru⟩:=rv.get hx
  obtain ⟨f0,f1,f2,f3,f4,f5⟩:=hf it (by simp)
  refine wpAny_pyNext_list_item st p.isList (x:=u) (by simpa using hu) fun h' Gk sb=>?_
  have I1:Inv X pins σ H { s with heap:=h' }:=I.turned (t':=s.toks) (fun b o hb e=>(sb.2 b hb).trans e) f0 f1 f3 f4 f5
  obtain ⟨o,e,c,d⟩:=id Gk
  exact ⟨u,rfl,u4 (s:={ s with heap:=h' }) e c d (by decide) ⟨x,H,I1,ru,⟨rfl,fun ys hy=>by rw [I.list_inj hy hq];exact hx⟩,Gk,fun b hb=>(hf b hb).1⟩⟩
 done:=by
  intro X hP hw hK hc i pins s σ H E I hf st hg
  subst hP hw hK
  obtain ⟨xs,hq,hx⟩:=hg
  obtain ⟨El,rv,p,hz⟩:=I.list hq
  obtain ⟨f0,f1,f2,f3,f4,f5⟩:=hf it (by simp)
  have hl:=rv.length
  exact wpAny_pyNext_list_end (I.ok.hd hc) st p.isList (by simp;lia) fun h' eb=>⟨rfl,I.turned (t':=s.toks) (fun b o hb e=>eb b o hb e) f0 f1 f3 f4 f5⟩
 self:=fun _ _ _ _ _ st h=>wpAny_pyIter_listiter st h
theorem qO {P:Program} {w:World} {K:W.Frag} {tg:Expr} (a it:Addr):Turn P w K tg (Nv K a) [it] it (fun i h=>h.IsTupleIter it a i) where
 mem:=by simp
 obj:=fun i h st b hb=>by
  have e:b=it:=by simpa using hb
  subst e
  obtain ⟨o,e,c,d⟩:=st
  exact ⟨o,e,fun v z=>by rw [d] at z;cases z⟩
 keep:=fun i h h' st k=>st.at fun o e=>k it (by simp) o e
 item:=by
  intro X hP hw hK hc i pins s σ H E I hf st hg
  subst hP hw hK
  obtain ⟨xs,x,hq,hx⟩:=hg
  obtain ⟨El,rv,p,hz⟩:=I.tuple hq
  obtain ⟨u,hu,ru⟩:=rv.get hx
  obtain ⟨f0,f1,f2,f3,f4,f5⟩:=hf it (by simp)
  refine wpAny_pyNext_tuple_item st (show s.heap.IsTuple a El.toArray from p) (x:=u) (by simpa using hu) fun h' Gk sb=>?_
  have I1:Inv X pins σ H { s with heap:=h' }:=I.turned (t':=s.toks) (fun b o hb e=>(sb.2 b hb).trans e) f0 f1 f3 f4 f5
  obtain ⟨o,e,c,d⟩:=id Gk
  exact ⟨u,rfl,u4 (s:={ s with heap:=h' }) e c d (by decide) ⟨x,H,I1,ru,⟨rfl,fun ys hy=>by rw [I.tuple_inj hy hq];exact hx⟩,Gk,fun b hb=>(hf b hb).1⟩⟩
 done:=by
  intro X hP hw hK hc i pins s σ H E I hf st hg
  subst hP hw hK
  obtain ⟨xs,hq,hx⟩:=hg
  obtain ⟨El,rv,p,hz⟩:=I.tuple hq
  obtain ⟨f0,f1,f2,f3,f4,f5⟩:=hf it (by simp)
  have hl:=rv.length
  exact wpAny_pyNext_tuple_end (I.ok.hd hc) st (show s.heap.IsTuple a El.toArray from p) (by simp;lia) fun h' eb=>⟨rfl,I.turned (t':=s.toks) (fun b o hb e=>eb b o hb e) f0 f1 f3 f4 f5⟩
 self:=fun _ _ _ _ _ st h=>wpAny_pyIter_tupleiter st h
theorem qP {P:Program} {w:World} {K:W.Frag} {tg:Expr} (it:Addr) (lo:Int) (n:Nat):Turn P w K tg (M3 lo n) [it] it (fun i h=>IsRangeIter h it (lo + (i:Nat) * 1) ((n:Int) - (i:Nat)) 1) where
 mem:=by simp
 obj:=fun i h st b hb=>by
  have e:b=it:=by simpa using hb
  subst e
  exact ⟨_,st,fun v z=>by
   have z':Data.fields _=Data.cell v:=z
   cases z'⟩
 keep:=fun i h h' st k=>k it (by simp) _ st
 item:=by
  intro X hP hw hK hc i pins s σ H E I hf st hg
  subst hP hw hK
  obtain ⟨f0,f1,f2,f3,f4,f5⟩:=hf it (by simp)
  have W:=Walks.range (prog:=X.prog) (w:=X.w) (I.ok.hd hc) it lo 1 n
  refine W.item i s _ _ hg st fun v h' tk hv Gk kk=>?_
  obtain ⟨t,rfl⟩:=hv
  have I1:Inv X pins σ H { s with heap:=h',toks:=tk }:=I.turned (fun b o hb e=>kk b o (by simpa using hb) e) f0 f1 f3 f4 f5
  refine ⟨_,rfl,u4 (s:={ s with heap:=h',toks:=tk }) (n:="range_iterator") Gk rfl rfl (by decide) ⟨.int (lo + i),H,I1,⟨t,?_⟩,⟨rfl,rfl⟩,Gk,fun b hb=>(hf b hb).1⟩⟩
  rw [Int.mul_one]
 done:=by
  intro X hP hw hK hc i pins s σ H E I hf st hg
  subst hP hw hK
  obtain ⟨f0,f1,f2,f3,f4,f5⟩:=hf it (by simp)
  exact wpAny_pyNext_range_end (I.ok.hd hc) st (by have:n<=i:=hg;lia) fun h' eb=>⟨rfl,I.turned (t':=s.toks) (fun b o hb e=>eb b o hb e) f0 f1 f3 f4 f5⟩
 self:=fun _ _ _ _ _ st h=>wpAny_pyIter_rangeiter st h
section
variable {X:Cx} {tg:Expr}
noncomputable def B8 (K:W.Frag) (tl:TE):TI:=fun σ H R=>tl σ H fun x H1=>∃ a,x=.ref a/\(∃ xs,SqL K H1 a xs)/\R (LA K a) H1
noncomputable def DL (K:W.Frag) (tl:TE):TI:=fun σ H R=>tl σ H fun x H1=>∃ a,x=.ref a/\(∃ xs,SqT K H1 a xs)/\R (Nv K a) H1
theorem rU {l:Expr} {tl:TE} (hl:PE X l tl):PI X tg l (B8 X.K tl):=by
 intro pins s σ H R I h
 refine ED (hl pins s σ H _ I h) fun v s1 EE=>?_
 obtain ⟨x,H1,I1,r1,q1⟩:=EE
 obtain ⟨a,e,⟨xs,hq⟩,q⟩:=q1
 subst e
 cases r1
 obtain ⟨El,rv,p,hz⟩:=I1.list hq
 refine wpAny_pyIter_list p.isList ?_
 refine ⟨s1.heap.objs.size,[s1.heap.objs.size],_,_,H1,rfl,I1.kept (t':=s1.toks) fun b o e=>Heap.get?_push_of_some _ e,rT a _,⟨_,Heap.get?_push_size _ rfl,rfl,rfl⟩,fun b hb=>?_,q⟩
 have e:b=s1.heap.objs.size:=by simpa using hb
 subst e
 exact I1.fpOk (Nat.le_refl _) (I1.hok.fresh (Nat.le_refl _))
theorem zW {l:Expr} {tl:TE} (hl:PE X l tl):PI X tg l (DL X.K tl):=by
 intro pins s σ H R I h
 refine ED (hl pins s σ H _ I h) fun v s1 EE=>?_
 obtain ⟨x,H1,I1,r1,q1⟩:=EE
 obtain ⟨a,e,⟨xs,hq⟩,q⟩:=q1
 subst e
 cases r1
 obtain ⟨El,rv,p,hz⟩:=I1.tuple hq
 refine wpAny_pyIter_tuple (show s1.heap.IsTuple a El.toArray from p) ?_
 refine ⟨s1.heap.objs.size,[s1.heap.objs.size],_,_,H1,rfl,I1.kept (t':=s1.toks) fun b o e=>Heap.get?_push_of_some _ e,qO a _,⟨_,Heap.get?_push_size _ rfl,rfl,rfl⟩,fun b hb=>?_,q⟩
 have e:b=s1.heap.objs.size:=by simpa using hb
 subst e
 exact I1.fpOk (Nat.le_refl _) (I1.hok.fresh (Nat.le_refl _))
theorem ve {pins:List (Addr×Obj)} {σ:St} {H:Hp} {s:Shared} {R:It->Hp->Prop} {E:Value->Shared->Prop} {lo hi:Int} {t u v:Tok} {tk:Nat} (I:Inv X pins σ H s) (h1 : -(2 ^ 62)<=lo) (h2:lo < 2 ^ 62) (h3 : -(2 ^ 62)<=hi) (h4:hi < 2 ^ 62)
  (q:R (M3 lo (hi - lo).toNat) H):wpAny (model X.prog X.w) X.A (pyIter (.ref s.heap.objs.size)) (Om X pins σ tg R) E { s with heap:=s.heap.push { cls:=.type "range",data:=.fields #[.int lo t,.int hi u,.int 1 v] },toks:=tk }:=by
 refine wpAny_pyIter_range (IsRange.new ..) (small_one h1 h2 h3 h4) ?_
 have I1:Inv X pins σ H { s with heap:=s.heap.push { cls:=.type "range",data:=.fields #[.int lo t,.int hi u,.int 1 v] },toks:=tk }:=I.kept fun b o e=>Heap.get?_push_of_some _ e
 refine ⟨(s.heap.push { cls:=.type "range",data:=.fields #[.int lo t,.int hi u,.int 1 v] }).objs.size,[(s.heap.push { cls:=.type "range",data:=.fields #[.int lo t,.int hi u,.int 1 v] }).objs.size],_,_,H,rfl,
  I1.kept (t':=tk) fun b o e=>Heap.get?_push_of_some _ e,qP _ lo (hi - lo).toNat,?_,fun b hb=>?_,q⟩
 ·have e1:lo + ((0:Nat):Int) * 1=lo:=by simp
  have e2:(((hi - lo).toNat:Nat):Int) - ((0:Nat):Int)=Builtin.Range.rangeSize lo hi 1:=by rw [rangeSize_one];split <;> lia
  show IsRangeIter _ _ (lo + ((0:Nat):Int) * 1) ((((hi - lo).toNat:Nat):Int) - ((0:Nat):Int)) 1
  rw [e1,e2]
  exact Heap.get?_push_size _ rfl
 ·have e:b=(s.heap.push { cls:=.type "range",data:=.fields #[.int lo t,.int hi u,.int 1 v] }).objs.size:=by simpa using hb
  subst e
  exact I1.fpOk (Nat.le_refl _) (I1.hok.fresh (Nat.le_refl _))
noncomputable def B9 (ta:TA):TI:=fun σ H R=>ta σ H fun vs H1=>∃ j:Int,vs=[.int j]/\-(2 ^ 62)<=j/\j < 2 ^ 62/\R (M3 0 j.toNat) H1
theorem rV {a:Expr} {ta:TA} {p pos:Pos} (hg:Gl X "range") (hm:X.mg "range" = none) (ha:PA X [a] ta) (hs:starEach [a] X.env=[(false,eval a X.env)]:=by rfl):PI X tg (.Call (.Name "range" p) [a] [] pos) (B9 ta):=by
 intro pins s σ H R I h
 refine Call_ (jL I hg hm boot_range (PyProof.Rows.callWith_type1 (ED (ha pos pins s σ H _ I h) fun us s1 ⟨vs,H1,I1,r1,q1⟩=>?_) hs rfl))
 obtain ⟨j,e,q1,q2,q⟩:=q1
 subst e
 cases r1 with
 | cons r rr=>
  cases rr
  obtain ⟨t,rfl⟩:=r
  exact call_range_1 (ve I1 (by lia) (by lia) q1 q2 (by simpa using q))
noncomputable def DM (wi:TI) (g:TG) (tb:TS):TS:=fun D σ H=>wi σ H fun J H1=>∃ W:Nat->Nat->St->Hp->Prop,(∃ m,W 0 m σ H1)/\∀ i m σ H,W i m σ H->
 (J.stop i H/\D.nx σ H)\/(J.go i H/\∃ N:St->Hp->Prop,(∀ σ' H',N σ' H'->∃ m',m' < m/\W (i + 1) m' σ' H')/\∀ x H',J.yld i H x H'->g x σ H' fun σ2 H2=>tb { D with nx:=N,ct:=N,bk:=D.nx } σ2 H2)
noncomputable def mO (fp:List Addr) (h:Heap):List (Addr×Obj):=fp.filterMap fun b=>(h.get? b).map fun o=>(b,o)
theorem gB {fp:List Addr} {h:Heap} {b:Addr} {o:Obj} (hb:b∈fp) (e:h.get? b=some o):(b,o)∈mO fp h:=List.mem_filterMap.mpr ⟨b,hb,by rw [e];rfl⟩
theorem rW {fp:List Addr} {h:Heap} {p:Addr×Obj} (hp:p∈mO fp h):p.1∈fp/\h.get? p.1=some p.2:=by
 obtain ⟨b,hb,e⟩:=List.mem_filterMap.mp hp
 cases q:h.get? b with
 | none=>rw [q] at e;cases e
 | some o=>
  rw [q] at e
  have e':(b,o)=p:=Option.some.inj e
  subst e'
  exact ⟨hb,q⟩
theorem Inv.pinned {pins:List (Addr×Obj)} {σ:St} {H:Hp} {s:Shared} {fp:List Addr} (I:Inv X pins σ H s) (hf:∀ b∈fp,rN X pins H b) (ho:∀ b∈fp,∃ o,s.heap.get? b=some o/\∀ v,o.data≠.cell v):Inv X (pins++mO fp s.heap) σ H s:=
 I.pins_of fun p hp=>(List.mem_append.mp hp).elim (fun z=>I.pin p (List.mem_append_right _ z)) fun z=>by
  obtain ⟨hb,e⟩:=rW z
  obtain ⟨f0,f1,f2,_⟩:=hf p.1 hb
  obtain ⟨o,e',d⟩:=ho p.1 hb
  rw [e] at e';cases e'
  exact ⟨e,f0,f1,f2,d⟩
theorem Inv.unpinned {pins pl:List (Addr×Obj)} {σ:St} {H:Hp} {s:Shared} (I:Inv X (pins++pl) σ H s):Inv X pins σ H s:=I.pins_of fun p hp=>I.pin p (List.mem_append_right _ (List.mem_append_left _ hp))
theorem zX {iter:Expr} {body:List Stmt} {wi:TI} {g:TG} {tb:TS} {pos:Pos} (hp:PassesOwn (model X.prog X.w) X.A X.env X.xe) (hc:X.calm=true) (hi:PI X tg iter wi) (hg:PG X tg g) (hb:PSs X body tb)
  (hs:∀ x,foldedSetIterable iter X.env x=pure x:=by intro _;rfl):PS X (.For tg iter body [] pos) (DM wi g tb):=by
 intro pins s σ H D I h
 refine wpAny_For (ED (hi pins s σ H _ I h) fun v s1 h1=>ED h1 fun M1 s2 h2=>?_) hs
 obtain ⟨it,fp,tn,J,H2,e,I2,T,Ew,f2,W,⟨m0,w0⟩,turn⟩:=h2
 subst e
 have Ib:∀ {H':Hp},(∀ b∈fp,H' b=none)->∀ b∈fp,rN X pins H' b:=fun hn b hb=>⟨hn b hb,(f2 b hb).2⟩
 refine codeAny_forLoop_any (fun n s'=>∃ i σ' H',Inv X pins σ' H' s'/\tn i s'.heap/\(∀ b∈fp,H' b=none)/\W i n σ' H') ?_ m0 ⟨0,σ,H2,I2,Ew,fun b hb=>(f2 b hb).1,w0⟩
 rintro n s3 ⟨i,σ3,H3,I3,EX,LP,w3⟩
 rcases turn i n σ3 H3 w3 with ⟨stop,qn⟩ | ⟨go,N,hN,step⟩
 ·refine wpAny_passesOwn hp (ED (T.done X rfl rfl rfl hc i pins s3 σ3 H3 X.xe I3 (Ib LP) EX stop) fun r s4 EE=>?_)
  obtain ⟨hr,I4⟩:=EE
  subst hr
  exact wpAny_execs_nil ⟨σ3,H3,I4,qn⟩
 ·refine wpAny_passesOwn hp (ED (T.item X rfl rfl rfl hc i pins s3 σ3 H3 X.xe I3 (Ib LP) EX go) fun r s4 EE=>?_)
  obtain ⟨u,hr,h4⟩:=EE
  subst hr
  refine wpAny_passesOwn hp (ED h4 fun _ s5 EE=>?_)
  obtain ⟨x,H5,I5,r5,y5,GJ,Nw⟩:=EE
  have Nx:=I5.pinned (Ib Nw) (T.obj _ _ GJ)
  refine wpAny_passesOwn hp (ED (hg _ s5 σ3 H5 x u _ Nx r5 (step x H5 y5)) fun _ s6 EE=>?_)
  obtain ⟨σ6,H6,I6,q6⟩:=EE
  refine wpAny_passesOwn hp (ED (hb _ s6 σ6 H6 _ I6 q6) fun f s7 q7=>?_)
  have again:∀ {σ7:St} {H7:Hp},Inv X (pins++mO fp s5.heap) σ7 H7 s7->N σ7 H7->∃ m,m < n/\∃ i σ' H',Inv X pins σ' H' s7/\tn i s7.heap/\(∀ b∈fp,H' b=none)/\W i m σ' H':=fun {σ7 H7} I7 n7=>by
   obtain ⟨m',hm,w7⟩:=hN σ7 H7 n7
   refine ⟨m',hm,i + 1,σ7,H7,I7.unpinned,T.keep _ _ _ GJ fun b hb o e=>(I7.pin (b,o) (List.mem_append_right _ (List.mem_append_right _ (gB hb e)))).1,fun b hb=>?_,w7⟩
   obtain ⟨o,e,d⟩:=T.obj _ _ GJ b hb
   exact (I7.pin (b,o) (List.mem_append_right _ (List.mem_append_right _ (gB hb e)))).2.1
  cases f with
  | next=>obtain ⟨σ7,H7,I7,n7⟩:=q7;exact again I7 n7
  | cont=>obtain ⟨σ7,H7,I7,n7⟩:=q7;exact again I7 n7
  | brk=>obtain ⟨σ7,H7,I7,q7⟩:=q7;exact ⟨σ7,H7,I7.unpinned,q7⟩
  | ret v=>obtain ⟨x7,σ7,H7,I7,r7,q7⟩:=q7;exact ⟨x7,σ7,H7,I7.unpinned,r7,q7⟩
end
theorem for_list {K:W.Frag} {a:Addr} {xs:List V} {g:TG} {tb:TS} {D:Ends} {σ:St} {H:Hp} (Pv:Nat->St->Hp->Prop) (h0:Pv 0 σ H) (hl:∀ i σ H,i<=xs.length->Pv i σ H->SqL K H a xs)
  (hs:∀ i x σ H,xs[i]?=some x->Pv i σ H->g x σ H fun σ2 H2=>tb { D with nx:=Pv (i + 1),ct:=Pv (i + 1),bk:=D.nx } σ2 H2) (hd:∀ σ H,Pv xs.length σ H->D.nx σ H) :
  ∃ W:Nat->Nat->St->Hp->Prop,(∃ m,W 0 m σ H)/\∀ i m σ H,W i m σ H->
   ((LA K a).stop i H/\D.nx σ H)\/((LA K a).go i H/\∃ N:St->Hp->Prop,(∀ σ' H',N σ' H'->∃ m',m' < m/\W (i + 1) m' σ' H')/\∀ x H',(LA K a).yld i H x H'->g x σ H' fun σ2 H2=>tb { D with nx:=N,ct:=N,bk:=D.nx } σ2 H2):=by
 refine ⟨fun i m σ H=>m=xs.length - i/\i<=xs.length/\Pv i σ H,⟨xs.length,by simp,Nat.zero_le _,h0⟩,?_⟩
 rintro i m σ H ⟨rfl,hi,p⟩
 have q:=hl i σ H hi p
 by_cases EY:i < xs.length
 ·refine .inr ⟨⟨xs,xs[i],q,by simp [EY]⟩,Pv (i + 1),fun σ' H' p'=>⟨xs.length - (i + 1),by lia,rfl,EY,p'⟩,fun x H' y=>?_⟩
  obtain ⟨e,y⟩:=y
  subst e
  exact hs i x σ _ (y xs q) p
 ·have e:i=xs.length:=by lia
  subst e
  exact .inl ⟨⟨xs,q,Nat.le_refl _⟩,hd σ H p⟩
abbrev R2:=V->V->Hp->VK->Prop
def E2 (X:Cx) (f:Value->Value->Sem Value) (r:R2):Prop:=
 ∀ (pins:List (Addr×Obj)) (s:Shared) (σ:St) (H:Hp) (x y:V) (v u:Value) (Q:VK),Inv X pins σ H s->RelV x v->RelV y u->r x y H Q->
  wpAny (model X.prog X.w) X.A (f v u) (EP X pins σ Q) X.xe s
def cW (X:Cx) (f:Value) (r:List V->Hp->VK->Prop):Prop:=
 ∀ (pins:List (Addr×Obj)) (s:Shared) (σ:St) (H:Hp) (xs:List V) (us:List Value) (Q:VK),Inv X pins σ H s->Vals xs us->r xs H Q->
  wpAny (model X.prog X.w) X.A (call f us) (EP X pins σ Q) X.xe s
noncomputable def LB (r:R2) (ta tb:TE):TE:=fun σ H Q=>ta σ H fun x H1=>tb σ H1 fun y H2=>r x y H2 Q
noncomputable def rI (C:Int->Int->Prop) (g:Int->Int->V):R2:=fun x y H Q=>∃ i j,x=.int i/\y=.int j/\C i j/\Q (g i j) H
noncomputable def KS (g:Int->Int->V):R2:=fun x y H Q=>∃ i j,x=.int i/\y=.int j/\Q (g i j) H
section
variable {X:Cx} {a b c:Expr} {ta tb tc:TE} {pos:Pos}
theorem Ca (ha:PE X a ta) (hb:PE X b tb) {pins:List (Addr×Obj)} {s:Shared} {σ:St} {H:Hp} {R:V->V->Hp->Prop} (I:Inv X pins σ H s)
  (h:ta σ H fun x H1=>tb σ H1 fun y H2=>R x y H2) {Q:Value->Shared->Prop} {f:Value->Value->Sem Value}
  (hf:∀ v u s2 x y H2,Inv X pins σ H2 s2->RelV x v->RelV y u->R x y H2->wpAny (model X.prog X.w) X.A (f v u) Q X.xe s2) :
  wpAny (model X.prog X.w) X.A (eval a X.env) (fun v s₁=>wpAny (model X.prog X.w) X.A (eval b X.env) (fun u s₂=>wpAny (model X.prog X.w) X.A (f v u) Q X.xe s₂) X.xe s₁) X.xe s:=by
 refine ED (ha pins s σ H _ I h) fun v s1 EE=>?_
 obtain ⟨x,H1,I1,r1,q1⟩:=EE
 refine ED (hb pins s1 σ H1 _ I1 q1) fun u s2 EE=>?_
 obtain ⟨y,H2,I2,r2,q2⟩:=EE
 exact hf v u s2 x y H2 I2 r1 r2 q2
theorem Cb {op:Operator} {r:R2} (ho:E2 X (binaryOp op) r) (ha:PE X a ta) (hb:PE X b tb):PE X (.BinOp a op b pos) (LB r ta tb):=by
 intro pins s σ H Q I h
 exact wpAny_BinOp (Ca ha hb I h fun v u s2 x y H2 I2 rx ry q=>ho pins s2 σ H2 x y v u Q I2 rx ry q)
theorem LQ {f:Value->Value->Sem Value} {C:Int->Int->Prop} {g:Int->Int->Int}
  (rule:∀ (i j:Int) (t u:Tok) (s:Shared) (Q:Value->Shared->Prop) (E:Value->Shared->Prop),C i j->Q (.int (g i j) s.toks) { s with toks:=s.toks + 1 }->wpAny (model X.prog X.w) X.A (f (.int i t) (.int j u)) Q E s) :
  E2 X f (rI C fun i j=>.int (g i j)):=by
 intro pins s σ H x y v u Q I rx ry h
 obtain ⟨i,j,rfl,rfl,hc,q⟩:=h
 obtain ⟨t,rfl⟩:=rx
 obtain ⟨t',rfl⟩:=ry
 exact rule i j t t' s _ _ hc ⟨.int (g i j),H,I.tok _,⟨_,rfl⟩,q⟩
theorem Dq {f:Value->Value->Sem Value} {g:Int->Int->Int}
  (rule:∀ (i j:Int) (t u:Tok) (s:Shared) (Q:Value->Shared->Prop) (E:Value->Shared->Prop),Q (.int (g i j) s.toks) { s with toks:=s.toks + 1 }->wpAny (model X.prog X.w) X.A (f (.int i t) (.int j u)) Q E s) :
  E2 X f (KS fun i j=>.int (g i j)):=by
 intro pins s σ H x y v u Q I rx ry h
 obtain ⟨i,j,rfl,rfl,q⟩:=h
 obtain ⟨t,rfl⟩:=rx
 obtain ⟨t',rfl⟩:=ry
 exact rule i j t t' s _ _ ⟨.int (g i j),H,I.tok _,⟨_,rfl⟩,q⟩
theorem Cc {f:Value->Value->Sem Value} {g:Int->Int->Bool}
  (rule:∀ (i j:Int) (t u:Tok) (s:Shared) (Q:Value->Shared->Prop) (E:Value->Shared->Prop),Q (.bool (g i j)) s->wpAny (model X.prog X.w) X.A (f (.int i t) (.int j u)) Q E s) :
  E2 X f (KS fun i j=>.bl (g i j)):=by
 intro pins s σ H x y v u Q I rx ry h
 obtain ⟨i,j,rfl,rfl,q⟩:=h
 obtain ⟨t,rfl⟩:=rx
 obtain ⟨t',rfl⟩:=ry
 exact rule i j t t' s _ _ ⟨.bl (g i j),H,I,rfl,q⟩
def DN (i j:Int):Prop:=0 < j/\j < 1073741824
def DO (i j:Int):Prop:=0<=j/\j<=1000000/\i.natAbs < 2 ^ 64
def CMul (i j:Int):Prop:=(-(2 ^ 64) < i/\i < 2 ^ 64)\/(-(2 ^ 64) < j/\j < 2 ^ 64)
theorem CMul.ok {i j:Int} (h:CMul i j):IntMulOk i j:=by
 rcases h with ⟨h1,h2⟩ | ⟨h1,h2⟩
 ·exact .of_left (intBits_le_64 h1 h2)
 ·exact .of_right (intBits_le_64 h1 h2)
theorem zY:E2 X (binaryOp .Add) (KS fun i j=>.int (i + j)):=Dq fun _ _ _ _ _ _ _ q=>add_int q
theorem zZ:E2 X (binaryOp .Sub) (KS fun i j=>.int (i - j)):=Dq fun _ _ _ _ _ _ _ q=>sub_int q
theorem z0:E2 X (binaryOp .Mult) (rI CMul fun i j=>.int (i * j)):=LQ fun _ _ _ _ _ _ _ hc q=>mul_int q hc.ok
theorem xv:E2 X (binaryOp .FloorDiv) (rI DN fun i j=>.int (i / j)):=LQ fun i j _ _ _ _ _ hc q=>by
 have h1:(0:Int) < j:=hc.1
 have h2:j < 1073741824:=hc.2
 exact floordiv_int (by lia) (by rw [Int.fdiv_eq_ediv_of_nonneg i (by lia)];exact q) (.inl (PyProof.noPylong_small (by lia)))
theorem z4:E2 X (binaryOp .Mod) (rI (fun _ j=>0 < j) fun i j=>.int (i % j)):=LQ fun i j _ _ _ _ _ hc q=>by
 have h1:(0:Int) < j:=hc
 exact mod_int' (by lia) (by rw [Int.fmod_eq_emod_of_nonneg i (by lia)];exact q)
theorem z5:E2 X (binaryOp .Pow) (rI DO fun i j=>.int (i ^ j.toNat)):=LQ fun _ _ _ _ _ _ _ hc q=>pow_int_small hc.1 hc.2.1 hc.2.2 q
end
section
variable {X:Cx} {a b c:Expr} {ta tb tc:TE} {pos:Pos}
theorem rX {pins:List (Addr×Obj)} {σ:St} {H:Hp} {s:Shared} {Q:VK} {k k':Bool} (I:Inv X pins σ H s) (q:Q (.bl k) H) (e:k=k'):EP X pins σ Q (.bool k') s:=by
 subst e
 exact ⟨.bl k,H,I,rfl,q⟩
theorem Cd:E2 X (compareOp .Lt) (KS fun i j=>.bl (decide (i < j))):=Cc fun _ _ _ _ _ _ _ q=>lt_int q
theorem Ce:E2 X (compareOp .Gt) (KS fun i j=>.bl (decide (j < i))):=Cc fun _ _ _ _ _ _ _ q=>gt_int q
theorem Cf:E2 X (compareOp .GtE) (KS fun i j=>.bl (decide (j<=i))):=Cc fun _ _ _ _ _ _ _ q=>ge_int q
theorem rY:E2 X (compareOp .Lt) (fun x y H Q=>∃ i j,x=.str i/\y=.str j/\Q (.bl (decide (i.cps.toList < j.cps.toList))) H):=by
 intro pins s σ H x y v u Q I rx ry h
 obtain ⟨i,j,rfl,rfl,q⟩:=h
 obtain ⟨t,rfl⟩:=rx
 obtain ⟨t',rfl⟩:=ry
 exact lt_str (rX I q rfl)
theorem rZ:E2 X (compareOp .In) (fun x y H Q=>∃ i j,x=.str i/\y=.str j/\Q (.bl (!(Builtin.Str.occurrences j i 0 j.length 1).isEmpty)) H):=by
 intro pins s σ H x y v u Q I rx ry h
 obtain ⟨i,j,rfl,rfl,q⟩:=h
 obtain ⟨t,rfl⟩:=rx
 obtain ⟨t',rfl⟩:=ry
 exact in_str (rX I q rfl)
theorem mP:E2 X (compareOp .NotIn) (fun x y H Q=>∃ i j,x=.str i/\y=.str j/\Q (.bl (!(!(Builtin.Str.occurrences j i 0 j.length 1).isEmpty))) H):=by
 intro pins s σ H x y v u Q I rx ry h
 obtain ⟨i,j,rfl,rfl,q⟩:=h
 obtain ⟨t,rfl⟩:=rx
 obtain ⟨t',rfl⟩:=ry
 exact notIn_str (rX I q rfl)
theorem bD (b:Expr) {op:CmpOp} (h:op≠.In:=by decide) (h2:op≠.NotIn:=by decide):behindInMarks op b=false:=by
 have e1:(op == CmpOp.In)=false:=by cases op <;> first | rfl | exact absurd rfl h
 have e2:(op == CmpOp.NotIn)=false:=by cases op <;> first | rfl | exact absurd rfl h2
 cases b <;> simp [behindInMarks,e1,e2]
theorem xw {op:CmpOp} {r:R2} (ho:E2 X (compareOp op) r) (ha:PE X a ta) (hb:PE X b tb) (hm:behindInMarks op b=false):PE X (.Compare a [op] [b] pos) (LB r ta tb):=by
 intro pins s σ H Q I h
 exact wpAny_Compare1 (Ca ha hb I h fun v u s2 x y H2 I2 rx ry q=>ho pins s2 σ H2 x y v u Q I2 rx ry q) hm
noncomputable def Cg (t:TE):TT:=fun σ H Q=>t σ H fun x H'=>∃ k,x=.bl k/\Q k H'
theorem r6 {op:CmpOp} {r:R2} (ho:E2 X (compareOp op) r) (ha:PE X a ta) (hb:PE X b tb) (hm:behindInMarks op b=false):PT X (.Compare a [op] [b] pos) (Cg (LB r ta tb)):=by
 intro pins s σ H Q I h
 refine wpAny_isTrue_Compare1 (ED (ha pins s σ H _ I h) fun v s1 ⟨x,H1,I1,r1,q1⟩=>ED (hb pins s1 σ H1 _ I1 q1) fun u s2 ⟨y,H2,I2,r2,q2⟩=>
  ED (ho pins s2 σ H2 x y v u _ I2 r1 r2 q2) fun c s3 ⟨z,H3,I3,r3,k,e,q3⟩=>?_) hm
 subst e
 cases r3
 exact wpAny_truthy_bool ⟨H3,I3,q3⟩
theorem k4:(sizeLine:Nat) < 2 ^ 63:=by rw [sizeLine_eq];decide
theorem qQ:E2 X (binaryOp .Add) (fun x y H Q=>∃ i j,x=.str i/\y=.str j/\i.length + j.length<=sizeLine/\Q (.str (i++j)) H):=by
 intro pins s σ H x y v u Q I rx ry h
 obtain ⟨i,j,rfl,rfl,hz,q⟩:=h
 obtain ⟨t,rfl⟩:=rx
 obtain ⟨t',rfl⟩:=ry
 exact add_str (fun t' tk=>⟨.str (i++j),H,I.tok _,⟨_,rfl⟩,q⟩) hz
theorem dN {x:V} {us:List Value} (r:Vals [x] us):∃ u,us=[u]/\RelV x u:=by
 cases r with
 | cons r1 r2=>cases r2;exact ⟨_,rfl,r1⟩
theorem vf {x y:V} {us:List Value} (r:Vals [x,y] us):∃ u w',us=[u,w']/\RelV x u/\RelV y w':=by
 cases r with
 | cons r1 r2=>
  cases r2 with
  | cons r3 r4=>cases r4;exact ⟨_,_,rfl,r1,r3⟩
theorem r9 (hc:X.calm=true):cW X (.builtin "min") (fun xs H Q=>∃ i j,xs=[.int i,.int j]/\Q (.int (if j < i then j else i)) H):=by
 intro pins s σ H xs us Q I r h
 obtain ⟨i,j,rfl,q⟩:=h
 obtain ⟨u,w',rfl,⟨t,rfl⟩,⟨t',rfl⟩⟩:=vf r
 refine min_two_ints (I.ok.hd hc) fun h' tk k=>⟨_,H,I.kept k,?_,q⟩
 by_cases hj:j < i
 ·rw [if_pos hj,if_pos hj];exact ⟨_,rfl⟩
 ·rw [if_neg hj,if_neg hj];exact ⟨_,rfl⟩
end
section
variable {prog:Program} {w:World} {A:Around} {E:Value->Shared->Prop} {s:Shared} {K:W.Frag} {x dx C f:Addr} {mA:Str->Option Value} {name:Str} {v:Value}
end
theorem RelO.some_of {v:V} {o:Option Value} (r:RelO (some v) o):∃ u,o=some u/\RelV v u:=by
 cases o with
 | none=>exact (show False from r).elim
 | some u=>exact ⟨u,rfl,r⟩
theorem RelO.none_of {o:Option Value} (r:RelO none o):o=none:=by
 cases o with
 | none=>rfl
 | some u=>exact (show False from r).elim
section
variable {P:Program} {w:World} {H H':Hp} {h h':Heap} {a C dx:Addr} {fs fs':List (Str×V)}
end
section
variable {X:Cx} {pins:List (Addr×Obj)} {σ:St} {H:Hp} {s:Shared} {a C dx:Addr} {fs:List (Str×V)} {f:Str} {v:V} {A:Around} {E:Value->Shared->Prop}
end
section
variable {X:Cx} {o e value:Expr} {f:Str} {pos pos' tpos:Pos} {ta tv:TE}
end
section
variable {X:Cx} {pins:List (Addr×Obj)} {σ:St} {H:Hp} {s:Shared} {A:Around} {E:Value->Shared->Prop} {Q:Value->Shared->Prop} {c:Value} {b:Bool}
end
structure Room (k:Nat) (A:Around):Prop where
 hd:A.handled=none
 dp:A.depth + 3 * k + 5 < recursionLimit
 un:A.units + 16 * k + 200 < cLine
theorem Room.mono {j k:Nat} {A:Around} (r:Room k A) (h:j<=k):Room j A:=⟨r.hd,by have:=r.dp;lia,by have:=r.un;lia⟩
theorem Room.m {j k:Nat} {A:Around} (r:Room k A) (h:j<=k:=by decide):Room j A:=r.mono h
theorem Room.deeper {k:Nat} {A:Around} (r:Room (k + 1) A) (env:Env):Room k (A.deeper env):=
 ⟨r.hd,by have:=r.dp;show A.depth + 1 + 3 * k + 5 < _;lia,by have:=r.un;show A.units + 3 + 16 * k + 200 < _;lia⟩
theorem Room.depth {k:Nat} {A:Around} (r:Room k A):A.depth < recursionLimit:=by have:=r.dp;lia
theorem Room.units {k:Nat} {A:Around} (r:Room k A):A.units + 64 < cLine:=by have:=r.un;lia
theorem Room.units0 {k:Nat} {A:Around} (r:Room k A):A.units < cLine:=by have:=r.un;lia
noncomputable def zl:TA:=fun _ H Q=>Q [] H
noncomputable def qR (ta:TE) (tr:TA):TA:=fun σ H Q=>ta σ H fun x H1=>tr σ H1 fun xs H2=>Q (x :: xs) H2
section
variable {X:Cx} {e:Expr} {es:List Expr} {te:TE} {t:TA} {pos:Pos}
theorem k7:PA X [] zl:=fun _ _ _ _ H Q I h=>Calls.spliced_nil ⟨[],H,I,.nil,h⟩
theorem eZ (ha:PE X e te) (hr:PA X es t) (hs:starEach (e :: es) X.env=(false,eval e X.env) :: starEach es X.env:=by rfl):PA X (e :: es) (qR te t):=by
 intro pos pins s σ H Q I h
 rw [hs]
 show wpAny _ _ (spliced ((false,eval e X.env) :: backTo pos (starEach es X.env))) _ _ s
 refine Calls.spliced_cons (ED (ha pins s σ H _ I h) fun u s1 EE=>?_)
 obtain ⟨x,H1,I1,r1,q1⟩:=EE
 exact ED (hr pos pins s1 σ H1 _ I1 q1) fun us s2 ⟨xs,H2,I2,r2,q2⟩=>⟨x :: xs,H2,I2,.cons r1 r2,q2⟩
noncomputable def DP (t:TA):TE:=fun σ H Q=>t σ H fun xs H1=>xs.length<=sizeLine/\∀ p,H1 p=none->Q (.ref p) (upd H1 p (.tup xs))
noncomputable def DQ (t:TA):TE:=fun σ H Q=>t σ H fun xs H1=>xs.length<=sizeLine/\∀ p,H1 p=none->Q (.ref p) (upd H1 p (.lst xs))
theorem wq {x1} (h:PA X es t):PE X (.Tuple es x1 pos) (DP t):=by
 intro pins s σ H Q I hq
 refine wpAny_Tuple_spliced (ED (h pos pins s σ H _ I hq) fun us s1 ⟨xs,H1,I1,r,z,q⟩=>⟨by rw [<-r.length];exact z,?_⟩)
 have hf:H1 s1.heap.objs.size=none:=I1.hok.fresh (Nat.le_refl _)
 refine ⟨.ref s1.heap.objs.size,upd H1 s1.heap.objs.size (.tup xs),I1.laid (t':=s1.toks) (fun b u e=>Heap.get?_push_of_some _ e) (Nat.le_refl _) ?_,rfl,q _ hf⟩
 exact ⟨z,us,r,⟨_,Heap.get?_push_size _ rfl,rfl,⟨_,rfl⟩,rfl⟩⟩
theorem z6 (h:PA X es t):PE X (.List es pos) (DQ t):=by
 intro pins s σ H Q I hq
 refine wpAny_List_spliced (ED (h pos pins s σ H _ I hq) fun us s1 ⟨xs,H1,I1,r,z,q⟩=>⟨by rw [<-r.length];exact z,?_⟩)
 have hf:H1 s1.heap.objs.size=none:=I1.hok.fresh (Nat.le_refl _)
 refine ⟨.ref s1.heap.objs.size,upd H1 s1.heap.objs.size (.lst xs),I1.laid (t':=s1.toks) (fun b u e=>Heap.get?_push_of_some _ e) (Nat.le_refl _) ?_,rfl,q _ hf⟩
 exact ⟨z,us,0,r,Heap.get?_push_size _ rfl⟩
end
abbrev Sp:=List V->Hp->VK->XK->Prop
abbrev Jb:=List Env->Hp->Shared->XK->Value->Shared->Prop
structure Env0 (P:Program) (w:World) (K:W.Frag) (mg:Str->Option Value) (base:Heap) (A:Around) (outer:List Env) (s:Shared) (H:Hp):Prop where
 frames:A.frames=some outer
 mod:Mod K mg base
 bs:∀ b o,base.get? b=some o->s.heap.get? b=some o/\H b=none
 bsz:base.objs.size<=s.heap.objs.size
 funs:s.heap.FunFrames base outer
 frf:∀ b∈I0 outer,H b=none
 hok:HOk P w H s.heap
 bare:AllBare s.gens
def CE (outer:List Env) (P:Program) (w:World) (H:Hp) (s:Shared) (Q:VK) (u:Value) (s':Shared):Prop:=
 ∃ v H',s'.os=s.os/\AllBare s'.gens/\Un (I0 outer) [] H H' s.heap s'.heap/\HOk P w H' s'.heap/\RelV v u/\Q v H'
def CR (CX:Jb) (outer:List Env) (P:Program) (w:World) (H:Hp) (s:Shared) (Q:VK) (E:XK) (r:Result) (s':Shared):Prop:=
 match r with
 | .ok (.ret u)=>CE outer P w H s Q u s'
 | .ok _=>False
 | .error e=>CX outer H s E e s'
structure FnOk (P:Program) (w:World) (K:W.Frag) (mg:Str->Option Value) (base:Heap) (CX:Jb) (k:Nat) (f:Addr) (fd:FuncData) (ps:List Str) (sp:Sp):Prop where
 len:∀ vs H Q E,sp vs H Q E->vs.length=ps.length
 run:∀ (A:Around) (outer:List Env) (s:Shared) (H:Hp) (args:Args) (us:List Value) (vs:List V) (Q:VK) (E:XK),Room k A->Env0 P w K mg base A outer s H->BindsTo s fd args (ps.zip us)->Vals vs us->sp vs H Q E->
  codeAny (model P w) A (.call (.ref f) args) (CR CX outer P w H s Q E) s
theorem FnOk.imp {P:Program} {w:World} {K:W.Frag} {mg:Str->Option Value} {base:Heap} {CX:Jb} {k:Nat} {f:Addr} {fd:FuncData} {ps:List Str} {sp Oo:Sp} (F:FnOk P w K mg base CX k f fd ps sp)
  (h:∀ vs H Q E,Oo vs H Q E->sp vs H Q E):FnOk P w K mg base CX k f fd ps Oo:=
 ⟨fun vs H Q E q=>F.len vs H Q E (h _ _ _ _ q),fun A outer s H args us vs Q E hr he hb hv hs=>F.run A outer s H args us vs Q E hr he hb hv (h _ _ _ _ hs)⟩
section
variable {X:Cx} {pins:List (Addr×Obj)} {σ:St} {H:Hp} {s s':Shared}
theorem Inv.env0 (I:Inv X pins σ H s):Env0 X.prog X.w X.K X.mg X.base X.A X.stack s H:=
 ⟨I.ok.frames,I.ok.mod,I.bs,Nat.le_trans I.ok.bsz I.sz,I.stack,I.stkFree,I.hok,I.bare⟩
theorem Inv.after {Q:VK} {u:Value} (I:Inv X pins σ H s) (h:CE X.stack X.prog X.w H s Q u s'):EP X pins σ Q u s':=by
 obtain ⟨v,H',os,bare,un,hok,r,q⟩:=h
 obtain ⟨hh,g,d,t,os'⟩:=s'
 obtain rfl:os'=s.os:=os
 exact ⟨v,H',I.call (h':=hh) (g':=g) (d':=d) (t':=t) (ch:=[]) un hok bare (fun b z=>absurd z (by simp)),r,q⟩
end
noncomputable def tCall (sp:Sp) (KA:List V) (E:XK) (t:TA):TE:=fun σ H Q=>t σ H fun vs H1=>sp (vs++KA) H1 Q E
def Binds (K:W.Frag) (fd:FuncData) (ps:List Str) (ds:List Value):Prop:=
 ∀ (s:Shared) (us:List Value),K.In s.heap->(us++ds).length=ps.length->BindsTo s fd ⟨us,[]⟩ (ps.zip (us++ds))
theorem Binds.all {K:W.Frag} {fd:FuncData} {ps:List Str} (h:∀ us:List Value,us.length=ps.length->bindArgs fd ⟨us,[]⟩=pure (ps.zip us)):Binds K fd ps []:=fun s us _ hl=>by
 rw [List.append_nil] at hl ⊢
 exact .of_eq (h us hl)
def sa (CX:Jb) (X:Cx) (E:XK):Prop:=∀ (pins:List (Addr×Obj)) (σ:St) (H:Hp) (s:Shared) (e:Value) (s':Shared),Inv X pins σ H s->CX X.stack H s E e s'->X.xe e s'
section
variable {X:Cx} {CX:Jb} {k:Nat} {f C:Addr} {fd:FuncData} {ps:List Str} {sp:Sp} {KA:List V} {ds:List Value} {E:XK} {x m:Str} {p pos apos:Pos} {e o:Expr} {es:List Expr} {ta:TE} {t:TA}
theorem z7 {pins:List (Addr×Obj)} {σ:St} {H:Hp} {s:Shared} {Q:VK} {us:List Value} {vs:List V} (F:FnOk X.prog X.w X.K X.mg X.base CX k f fd ps sp) (hr:Room k X.A) (hb:Binds X.K fd ps ds) (hd:Vals KA ds) (hx:sa CX X E)
  (I:Inv X pins σ H s) (r:Vals vs us) (h:sp (vs++KA) H Q E):wpAny (model X.prog X.w) X.A (call (.ref f) us) (EP X pins σ Q) X.xe s:=by
 have r2:Vals (vs++KA) (us++ds):=r.append hd
 have hl:(us++ds).length=ps.length:=by rw [<-r2.length];exact F.len _ _ _ _ h
 refine wpAny_call (codeAny_mono (F.run X.A X.stack s H ⟨us,[]⟩ (us++ds) (vs++KA) Q E hr I.env0 (hb s us I.kIn hl) r2 h) fun r s' hq=>?_)
 cases r with
 | error e=>exact hx pins σ H s e s' I hq
 | ok fl=>
  cases fl with
  | ret u=>exact I.after hq
  | next=>exact False.elim hq
  | brk=>exact False.elim hq
  | cont=>exact False.elim hq
theorem xx (F:FnOk X.prog X.w X.K X.mg X.base CX k f fd ps sp) (hr:Room k X.A) (hg:Gl X x) (hm:X.mg x=some (.ref f)) (hk:PySem.W.keepIn X.K (.ref f)=true) (hb:Binds X.K fd ps ds) (hd:Vals KA ds) (hx:sa CX X E)
  (ha:PA X (e :: es) t) (Ha:(x == ("__debug__" : Str))=false:=by decide) (he:starEach (e :: es) X.env=(false,eval e X.env) :: starEach es X.env:=by rfl) (Gm:(backTo pos (starEach es X.env)).any (·.1)=false:=by rfl) :
  PE X (.Call (.Name x p) (e :: es) [] pos) (tCall sp KA E t):=by
 intro pins s σ H Q I h
 refine wpAny_Call_Name_kw (xm I hg hm ?_ Ha)
 refine PySem.W.callWith_K (h₀:=X.base) I.ok.mod.kin hk (ED (ha pos pins s σ H _ I h) fun us s1 ⟨vs,H1,I1,r,q⟩=>⟨I1.kIn,?_⟩) he Gm
 exact z7 F hr hb hd hx I1 r q
end
def PK (X:Cx) (LR:List Keyword) (t:TA):Prop:=
 ∀ (pos:Pos) (pins:List (Addr×Obj)) (s:Shared) (σ:St) (H:Hp) (Q:List V->Hp->Prop),Inv X pins σ H s->t σ H Q->wpAny (model X.prog X.w) X.A (evalAll ((backToKw pos (keywordEach LR X.env)).map (·.2))) (AP X pins σ Q) X.xe s
section
variable {X:Cx} {CX:Jb} {k:Nat} {f C:Addr} {fd:FuncData} {ps ks:List Str} {sp:Sp} {E:XK} {x m:Str} {p pos apos Ht:Pos} {e o:Expr} {es:List Expr} {LR:List Keyword} {te ta:TE} {t tk:TA} {nm:Option Str}
theorem wt:PK X [] zl:=fun _ _ _ _ H Q I h=>wpAny_evalAll_nil ⟨[],H,I,.nil,h⟩
theorem sd (ha:PE X e te) (hr:PK X LR t):PK X (⟨nm,e,Ht⟩ :: LR) (qR te t):=by
 intro pos pins s σ H Q I h
 show wpAny _ _ (evalAll ((do let v <-eval e X.env;standAt pos;pure v) :: (backToKw pos (keywordEach LR X.env)).map (·.2))) _ _ s
 refine wpAny_evalAll_cons (wpAny_bind (ED (ha pins s σ H _ I h) fun u s1 ⟨x,H1,I1,r1,q1⟩=>wpAny_bind (wpAny_standAt (wpAny_pure ?_))))
 exact ED (hr pos pins s1 σ H1 _ I1 q1) fun us s2 ⟨xs,H2,I2,r2,q2⟩=>⟨x :: xs,H2,I2,.cons r1 r2,q2⟩
variable {g:List Value->List Value->List Value} {gV:List V->List V->List V}
end
structure FnScope (N P:List Str) (sc:Scope):Prop where
 kind:sc.kind=.function
 co:sc.isCoroutine=false
 gen:sc.isGenerator=false
 nd:N.Nodup
 pre:N.take P.length=P
 par:∀ x∈P,sc.names.lookup x=some .local\/sc.names.lookup x=some .cell
 nofree:∀ y∈sc.names,y.2≠.free
theorem fs {N P:List Str} {sc:Scope} (a:sc.kind=.function:=by rfl) (b:sc.isCoroutine=false:=by rfl) (c:sc.isGenerator=false:=by rfl) (d:N.Nodup:=by decide +kernel) (e:N.take P.length=P:=by rfl) (f:∀ x∈P,sc.names.lookup x=some .local\/sc.names.lookup x=some .cell:=by decide +kernel) (g:∀ y∈sc.names,y.2≠.free:=by decide +kernel):FnScope N P sc:=⟨a,b,c,d,e,f,g⟩
theorem mQ {kindOf:Str->Option NameKind} {x:Str}:∀ {binds:List (Str×Value)} {m:Str->Option Value},(∀ v,(x,v)∉binds)->bindL kindOf binds m x=m x
 | [],_,_=>rfl
 | (n,v) :: r,m,h=>by
  unfold bindL
  rw [mQ fun w hw=>h w (List.mem_cons_of_mem _ hw)]
  split
  ·have:x≠n:=by rintro rfl;exact h v List.mem_cons_self
   simp [this]
  ·rfl
theorem mR {kindOf:Str->Option NameKind} {x:Str}:∀ {binds:List (Str×Value)} {m:Str->Option Value},(∀ v,(x,v)∉binds)->bindC kindOf binds m x=m x
 | [],_,_=>rfl
 | (n,v) :: r,m,h=>by
  unfold bindC
  rw [mR fun w hw=>h w (List.mem_cons_of_mem _ hw)]
  split
  ·rfl
  ·have:x≠n:=by rintro rfl;exact h v List.mem_cons_self
   simp [this]
theorem mS {kindOf:Str->Option NameKind} {x:Str} {v:Value}:∀ {P:List Str} {vs:List Value} {i:Nat} {m:Str->Option Value},P.Nodup->P[i]?=some x->vs[i]?=some v->kindOf x=some .local->
  bindL kindOf (P.zip vs) m x=some v
 | [],_,_,_,_,h,_,_=>by simp at h
 | _ :: _,[],_,_,_,_,h,_=>by simp at h
 | p :: P,w :: vs,0,m,nd,h1,h2,hk=>by
  simp at h1 h2;subst h1;subst h2
  show bindL kindOf ((p,w) :: P.zip vs) m p=_
  unfold bindL
  rw [mQ fun v hv=>(List.nodup_cons.mp nd).1 (List.of_mem_zip hv).1,if_pos hk]
  simp
 | p :: P,w :: vs,i + 1,m,nd,h1,h2,hk=>by
  show bindL kindOf ((p,w) :: P.zip vs) m x=_
  unfold bindL
  exact mS (i:=i) (List.nodup_cons.mp nd).2 (by simpa using h1) (by simpa using h2) hk
theorem mT {kindOf:Str->Option NameKind} {x:Str} {v:Value}:∀ {P:List Str} {vs:List Value} {i:Nat} {m:Str->Option Value},P.Nodup->P[i]?=some x->vs[i]?=some v->kindOf x≠some .local->
  bindC kindOf (P.zip vs) m x=some v
 | [],_,_,_,_,h,_,_=>by simp at h
 | _ :: _,[],_,_,_,_,h,_=>by simp at h
 | p :: P,w :: vs,0,m,nd,h1,h2,hk=>by
  simp at h1 h2;subst h1;subst h2
  show bindC kindOf ((p,w) :: P.zip vs) m p=_
  unfold bindC
  rw [mR fun v hv=>(List.nodup_cons.mp nd).1 (List.of_mem_zip hv).1,if_neg hk]
  simp
 | p :: P,w :: vs,i + 1,m,nd,h1,h2,hk=>by
  show bindC kindOf ((p,w) :: P.zip vs) m x=_
  unfold bindC
  exact mT (i:=i) (List.nodup_cons.mp nd).2 (by simpa using h1) (by simpa using h2) hk
noncomputable def start (N:List Str) (vs:List V):St:=vs.map some++List.replicate (N.length - vs.length) none
noncomputable def wu (CX:Jb) (P:Program) (w:World) (K:W.Frag) (mg:Str->Option Value) (base:Heap) (N:List Str) (qual:Str) (scope:Scope) (f:Addr) (cd:Value) (A:Around) (outer:List Env) (s:Shared) (H:Hp) (E:XK):Cx where
 prog:=P
 w:=w
 K:=K
 mg:=mg
 base:=base
 A:=A.deeper (envOfC qual scope s.heap.objs.size f cd)
 N:=N
 s₀:=s
 H₀:=H
 env:=envOfC qual scope s.heap.objs.size f cd
 outer:=outer
 stack:=envOfC qual scope s.heap.objs.size f cd :: outer
 ex:=[]
 calm:=true
 fn:=fun _=>true
 pn:=[]
 xe:=fun e s'=>wpAny (model P w) (A.deeper (envOfC qual scope s.heap.objs.size f cd)) (leaving (envOfC qual scope s.heap.objs.size f cd) e) (fun _ Ny=>CX outer H s E e Ny) (fun e' Ny=>CX outer H s E e' Ny) s'
theorem pQ {sc:Scope} {n:Nat} {x:Str} (h:sc.names.lookup x=some .cell):∃ c,(cellsFrom n sc.names []).lookup x=some c:=by
 have q:=PySem.W.cellsFrom_some sc.names n [] (.inl h)
 exact Option.isSome_iff_exists.mp q
theorem sf {CX:Jb} {P:Program} {w:World} {K:W.Frag} {mg:Str->Option Value} {base:Heap} {N ps:List Str} {qual:Str} {scope:Scope} {f:Addr} {cd:Value} {A:Around} {outer:List Env} {s s1:Shared} {H:Hp} {E:XK} {us:List Value} {vs:List V}
  (S:FnScope N ps scope) (hd:A.handled=none) (e0:Env0 P w K mg base A outer s H) (hl:vs.length=ps.length) (r:Vals vs us)
  (x:InCallC s s.heap.objs.size (bindL (envOfC qual scope s.heap.objs.size f cd).kindOf (ps.zip us) fun _=>none) (cellsFrom (s.heap.objs.size + 1) scope.names []) (bindC (envOfC qual scope s.heap.objs.size f cd).kindOf (ps.zip us) fun _=>none) s1) :
  Inv (wu CX P w K mg base N qual scope f cd A outer s H E) [] (start N vs) H s1:=by
 have Gm:ps.length<=N.length:=by have:=congrArg List.length S.pre;rw [List.length_take] at this;lia
 obtain ⟨h1,tk,rfl,hk⟩:=x.done
 have LS:∀ b:Addr,b∉(wu CX P w K mg base N qual scope f cd A outer s H E).ex:=fun b z=>absurd (show b∈([]:List Addr) from z) (by simp)
 refine ⟨⟨e0.mod,S.kind,rfl,rfl,Nat.le_refl _,fun y z c h1 h2=>?_,fun y hy=>?_,fun y c _ h=>?_,fun _=>hd,Around.frames_deeper e0.frames,.inr ⟨rfl,rfl⟩,fun b z=>absurd z (LS b),e0.bs,e0.bsz,fun b _ _=>LS b,fun b z=>absurd z (LS b),e0.funs,e0.frf⟩,
  rfl,e0.bare,Un.kept hk,⟨_,x.toInCall.ns,fun i y v h1 h2 h3=>?_⟩,fun y c h=>⟨_,x.cell y c h⟩,e0.hok.fresh (Nat.le_refl _),fun y c h=>?_,fun p hp=>absurd (show p∈([]:List (Addr×Obj)) from hp) (by simp),e0.hok.kept hk,?_⟩
 ·exact name_of_addr x.apart (PySem.mem_of_lookup h1) (PySem.mem_of_lookup h2)
 ·have hy:scope.names.lookup y=some .cell\/scope.names.lookup y=some .free:=hy
  rcases hy with hy | hy
  ·exact pQ hy
  ·exact absurd rfl (S.nofree _ (PySem.mem_of_lookup hy))
 ·exact Nat.le_of_lt (x.above y c (PySem.mem_of_lookup h))
 ·have hi:i < vs.length:=by
   unfold start at h2
   by_cases hi:i < vs.length
   ·exact hi
   ·rw [List.getElem?_append_right (by simpa using hi)] at h2
    rw [List.getElem?_replicate] at h2
    split at h2 <;> cases h2
  have ha:vs[i]?=some v:=by
   unfold start at h2
   rw [List.getElem?_append_left (by simpa using hi),List.getElem?_map] at h2
   cases e:vs[i]? with
   | none=>rw [e] at h2;cases h2
   | some a=>rw [e] at h2;cases h2;rfl
  obtain ⟨u,hu,rv⟩:=r.get ha
  have hp:ps[i]?=some y:=by
   rw [<-S.pre,List.getElem?_take_of_lt (by lia)];exact h1
  have Oq:ps.Nodup:=by rw [<-S.pre];exact S.nd.sublist (List.take_sublist _ _)
  refine ⟨u,rv,?_⟩
  rcases S.par y (List.mem_of_getElem? hp) with k | k
  ·exact .inl ⟨k,mS Oq hp hu k⟩
  ·obtain ⟨c,e⟩:=pQ (n:=s.heap.objs.size + 1) k
   refine .inr ⟨.inl k,c,e,?_⟩
   have q:=x.cell y c e
   rw [mT Oq hp hu (by show scope.names.lookup y≠_;rw [k];decide)] at q
   exact q
 ·exact e0.hok.fresh (Nat.le_of_lt (x.above y c (PySem.mem_of_lookup h)))
 ·unfold start
  show _=N.length
  rw [List.length_append,List.length_map,List.length_replicate]
  lia
theorem Ci {CX:Jb} {P:Program} {w:World} {K:W.Frag} {mg:Str->Option Value} {base:Heap} {k:Nat} {f:Addr} {name qual:Str} {params:Arguments} {body:List Stmt} {scope:Scope} {dV kV doc pm EJ ct oc:Value} {an od:Option Addr}
  {JJ:Array (Option Value)} {N ps:List Str} {sp:Sp} (lk:K.lookup f=some ⟨oc,od,.func (PySem.W.fnOf name qual params body scope dV kV doc pm an EJ ct),JJ⟩) (Jh:PySem.W.codeIn K EJ qual=true) (S:FnScope N ps scope)
  (len:∀ vs H Q E,sp vs H Q E->vs.length=ps.length)
  (Ji:∀ (A:Around) (outer:List Env) (s:Shared) (H:Hp) (vs:List V) (Q:VK) (E:XK),Room k (A.deeper (envOfC qual scope s.heap.objs.size f EJ))->sp vs H Q E->
   ∃ t,PSs (wu CX P w K mg base N qual scope f EJ A outer s H E) body t/\t { nx:=fun _ H'=>Q .non H',rt:=Q } (start N vs) H) :
  FnOk P w K mg base CX (k + 1) f (PySem.W.fnOf name qual params body scope dV kV doc pm an EJ ct) ps sp:=by
 refine ⟨len,fun A outer s H args us vs Q E hr e0 hb r KC=>?_⟩
 have hl:=len _ _ _ _ KC
 have KX:K.In s.heap:=e0.mod.kin.keeps fun b o e=>(e0.bs b o e).1
 have lim:s.heap.NoLimit:=e0.mod.nolimit.keeps fun b o e=>(e0.bs b o e).1
 have GK:∀ y∈ps.zip us,scope.names.lookup y.1=some .local\/(scope.names.lookup y.1=some .cell/\((cellsFrom (s.heap.objs.size + 1) scope.names []).lookup y.1).isSome=true):=fun EA hy=>by
  obtain ⟨n,v⟩:=EA
  rcases S.par n (List.of_mem_zip hy).1 with q | q
  ·exact .inl q
  ·exact .inr ⟨q,PySem.W.cellsFrom_some _ _ _ (.inl q)⟩
 refine codeAny_call_function hr.depth (KX _ _ lk) rfl S.co S.gen rfl (PySem.W.codeRec_of KX Jh) (hb _ _ _ _ ?_)
 refine wpAny_newFunctionEnv_cells S.kind GK fun env he s1 x=>?_
 subst he
 refine ⟨lim.keeps x.toInCall.keep,codeAny_func ?_⟩
 obtain ⟨t,ht,hq⟩:=Ji A outer s H vs Q E (hr.deeper _) KC
 have I:Inv (wu CX P w K mg base N qual scope f EJ A outer s H E) [] (start N vs) H s1:=sf S hr.hd e0 hl r x
 refine wpAny_mono (ht [] s1 (start N vs) H _ I hq) (fun fl s' hs=>?_) fun e s' hs=>hs
 have fin:∀ {σ':St} {H':Hp} {v:V} {u:Value},Inv (wu CX P w K mg base N qual scope f EJ A outer s H E) [] σ' H' s'->RelV v u->Q v H'->CE outer P w H s Q u s':=
  fun {σ' H' v u} J rv q=>⟨v,H',J.os,J.bare,J.base,J.hok,rv,q⟩
 cases fl with
 | ret u=>
  obtain ⟨v,σ',H',J,rv,q⟩:=hs
  exact fin J rv q
 | next=>
  obtain ⟨σ',H',J,q⟩:=hs
  exact fin (v:=V.non) (u:=Value.none) J rfl q
 | brk=>
  obtain ⟨_,_,_,q⟩:=hs
  exact False.elim q
 | cont=>
  obtain ⟨_,_,_,q⟩:=hs
  exact False.elim q
section
variable {X:Cx} {x:Str} {p pos:Pos} {e:Expr} {es:List Expr} {t:TA} {id T:String} {r:List V->Hp->VK->Prop}
noncomputable def Nz (r:List V->Hp->VK->Prop) (t:TA):TE:=fun σ H Q=>t σ H fun vs H1=>r vs H1 Q
theorem pR (hc:cW X (.builtin id) r) (hg:Gl X x) (hm:X.mg x=none) (hv:bootBuiltins x=some (.builtin id)) (ha:PA X (e :: es) t) (hn:x≠"__name__":=by decide) (Ha:(x == ("__debug__" : Str))=false:=by decide)
  (he:starEach (e :: es) X.env=(false,eval e X.env) :: starEach es X.env:=by rfl) (Gm:(backTo pos (starEach es X.env)).any (·.1)=false:=by rfl):PE X (.Call (.Name x p) (e :: es) [] pos) (Nz r t):=by
 intro pins s σ H Q I h
 refine wpAny_Call_Name_kw (jL I hg hm hv ?_ hn Ha)
 exact PyProof.Rows.callWith_builtin1 (ED (ha pos pins s σ H _ I h) fun us s1 ⟨vs,H1,I1,r1,q1⟩=>hc pins s1 σ H1 vs us Q I1 r1 q1) he Gm
theorem si (hc:cW X (.type T) r) (hg:Gl X x) (hm:X.mg x=none) (hv:bootBuiltins x=some (.type T)) (ha:PA X (e :: es) t) (hn:x≠"__name__":=by decide) (Ha:(x == ("__debug__" : Str))=false:=by decide)
  (he:starEach (e :: es) X.env=(false,eval e X.env) :: starEach es X.env:=by rfl) (Gm:(backTo pos (starEach es X.env)).any (·.1)=false:=by rfl):PE X (.Call (.Name x p) (e :: es) [] pos) (Nz r t):=by
 intro pins s σ H Q I h
 refine wpAny_Call_Name_kw (jL I hg hm hv ?_ hn Ha)
 exact PyProof.Rows.callWith_type1 (ED (ha pos pins s σ H _ I h) fun us s1 ⟨vs,H1,I1,r1,q1⟩=>hc pins s1 σ H1 vs us Q I1 r1 q1) he Gm
end
end L2
namespace HT
open PySem PyProof.Rows
section
open PySem.SeqAt
open PySem.AutoSeq1 (wpAny_loadPart')
open PySem.MeetsSeq PySem.MeetsSeq2 PySem.MeetsSeq3
end
section
variable {prog:Program} {w:World} {A:Around} {E:Value->Shared->Prop} {s:Shared}
theorem xy {t b:Addr} {vs ws:List Value} {Q:Value->Shared->Prop} (ht:IsTup s.heap t vs.toArray) (hb:IsTup s.heap b ws.toArray) (hv:vs≠[])
  (h1:ws=[]->Q (.ref t) s) (h2:ws≠[]->Q (.ref s.heap.objs.size) { s with heap:=s.heap.push { cls:=.type "tuple",data:=.seq (vs++ws).toArray } })
  (hsz:vs.length + ws.length<=sizeLine):wpAny (model prog w) A (binaryOp .Add (.ref t) (.ref b)) Q E s:=by
 obtain ⟨⟨cls,dd,data,sl⟩,ho,hc,n,hd⟩:=id ht
 obtain ⟨⟨JQ,IF,data2,IG⟩,FW,F0,n2,hd2⟩:=id hb
 simp only at hc hd F0 hd2
 subst hc hd F0 hd2
 have e:vs.toArray++ws.toArray=(vs++ws).toArray:=by simp
 by_cases hw:ws=[]
 ·exact concat_meets ⟨_,ho,rfl⟩ ⟨_,FW,rfl⟩ noFill_tuple_add seq_tuple_add PySem.F.slot_tuple_add PySem.F.entry_tuple_add (PySem.F.args_tuple_add_2 _ _)
   (tuple_addW1 t b vs.toArray ws.toArray n n2 dd IF sl IG (by simpa using hv) (by simp [hw])) ⟨ho,FW,h1 hw⟩
 ·refine concat_meets ⟨_,ho,rfl⟩ ⟨_,FW,rfl⟩ noFill_tuple_add seq_tuple_add PySem.F.slot_tuple_add PySem.F.entry_tuple_add (PySem.F.args_tuple_add_2 _ _)
   (tuple_addW2 t b vs.toArray ws.toArray n n2 dd IF sl IG (by simpa using hv) (by simpa using hw) (by rw [List.size_toArray,List.size_toArray];exact hsz)) ⟨ho,FW,?_⟩
  rw [e]
  exact h2 hw
noncomputable def sIx (n d:Nat):Option Int->Nat
 | none=>d
 | some v=>if v < 0 then (v + (n:Int)).toNat else min v.toNat n
theorem vg (n d:Nat):sIx n d none=d:=rfl
theorem oR (n d k:Nat):sIx n d (some (k:Int))=min k n:=by
 show (if (k:Int) < 0 then ((k:Int) + (n:Int)).toNat else min (k:Int).toNat n)=min k n
 rw [if_neg (by lia),Int.toNat_natCast]
theorem sj (n d:Nat) (hd:d<=n) (o:Option Int):sIx n d o<=n:=by
 cases o with
 | none=>exact hd
 | some v=>
  show (if v < 0 then (v + (n:Int)).toNat else min v.toNat n)<=n
  by_cases hv:v < 0
  ·rw [if_pos hv];lia
  ·rw [if_neg hv];exact Nat.min_le_right _ _
theorem sk (v:Int) (n d:Nat):(if v < 0 then max (v + (n:Int)) 0 else min v (n:Int))=((sIx n d (some v):Nat):Int):=by
 show (if v < 0 then max (v + (n:Int)) 0 else min v (n:Int))=(((if v < 0 then (v + (n:Int)).toNat else min v.toNat n):Nat):Int)
 by_cases hv:v < 0
 ·simp only [if_pos hv];lia
 ·simp only [if_neg hv];lia
theorem qS (lo hi:Option Int) (n:Nat):Builtin.Slice.sliceAdjust lo hi 1 (n:Int)=(((sIx n 0 lo:Nat):Int),((sIx n n hi:Nat):Int)):=by
 have h1:¬ ((1:Int) < 0):=by lia
 unfold Builtin.Slice.sliceAdjust
 simp only [h1,if_false]
 refine Prod.ext ?_ ?_
 ·cases lo with
  | none=>rfl
  | some v=>exact sk v n 0
 ·cases hi with
  | none=>rfl
  | some v=>exact sk v n n
theorem qT (i j:Nat):Builtin.Slice.slicePlaces (i:Int) (j:Int) 1=j - i:=by
 unfold Builtin.Slice.slicePlaces
 have h1:(1:Int) > 0:=by lia
 simp only [h1,if_true,Int.ediv_one]
 split <;> lia
theorem k8 {v:Value} {o:Option Int} {Q:Option Int->Shared->Prop} (p:IsPart v o) (h:Q o s):wpAny (model prog w) A (Builtin.Slice.slicePartIndex v) Q E s:=by
 cases p with
 | none=>exact slicePart_none h
 | int i t=>exact slicePart_int h
theorem fF {sl:Addr} {vl vu:Value} {lo hi:Option Int} {n:Nat} {Q:Int×Int×Nat->Shared->Prop} (hs:s.heap.IsSliceOf sl vl vu .none) (pl:IsPart vl lo) (pu:IsPart vu hi)
  (h:Q (((sIx n 0 lo:Nat):Int),1,sIx n n hi - sIx n 0 lo) s):wpAny (model prog w) A (Builtin.Slice.sliceApplied (.ref sl) (pure (n:Int))) Q E s:=by
 obtain ⟨os,KU,M4,KW⟩:=id hs
 unfold Builtin.Slice.sliceApplied Builtin.Slice.sliceFields
 refine wpAny_bind (wpAny_bind (wpAny_field KU KW (x:=vl) rfl (wpAny_bind (wpAny_field KU KW (x:=vu) rfl (wpAny_bind (wpAny_field KU KW (x:=.none) rfl (wpAny_pure ?_)))))))
 refine wpAny_bind (slicePart_none ?_)
 show wpAny _ _ (if ((1:Int) == 0)=true then _ else _) _ _ s
 rw [if_neg (by decide)]
 refine wpAny_bind (k8 pl (wpAny_bind (k8 pu (wpAny_bind (wpAny_pure ?_)))))
 show wpAny _ _ (match Builtin.Slice.sliceAdjust lo hi 1 (n:Int) with | (lo,hi)=>pure (lo,(1:Int),Builtin.Slice.slicePlaces lo hi 1)) _ _ s
 rw [qS lo hi n]
 show wpAny _ _ (pure (((sIx n 0 lo:Nat):Int),(1:Int),Builtin.Slice.slicePlaces ((sIx n 0 lo:Nat):Int) ((sIx n n hi:Nat):Int) 1)) _ _ s
 rw [qT]
 exact wpAny_pure h
theorem vh (xs:Array Value) (i k:Nat):((List.range k).filterMap fun (m:Nat)=>xs[((i:Int) + (m:Int) * 1).toNat]?).toArray=((xs.toList.drop i).take k).toArray:=by
 have e:(fun (m:Nat)=>xs[((i:Int) + (m:Int) * 1).toNat]?)=fun m=>xs[i + m]?:=by
  funext m
  have:((i:Int) + (m:Int) * 1).toNat=i + m:=by lia
  rw [this]
 rw [e]
 have:=pick_run xs i k
 rw [List.filterMap_map] at this
 have e2:((fun x=>xs[x]?)∘fun x=>i + x)=fun m=>xs[i + m]?:=rfl
 rw [e2] at this
 rw [this]
theorem iP {t sl:Addr} {items:Array Value} {vl vu:Value} {lo hi:Option Int} {Q:Value->Shared->Prop} (ht:IsTup s.heap t items) (hs:s.heap.IsSliceOf sl vl vu .none) (pl:IsPart vl lo) (pu:IsPart vu hi)
  (hw:¬ (sIx items.size 0 lo=0/\sIx items.size items.size hi=items.size))
  (h:Q (.ref s.heap.objs.size) { s with heap:=s.heap.push { cls:=.type "tuple",data:=.seq ((items.toList.drop (sIx items.size 0 lo)).take (sIx items.size items.size hi - sIx items.size 0 lo)).toArray } })
  (hsz:items.size<=sizeLine):wpAny (model prog w) A (getItem (.ref t) (.ref sl)) Q E s:=by
 have IH:sizeOk (.seq ((items.toList.drop (sIx items.size 0 lo)).take (sIx items.size items.size hi - sIx items.size 0 lo)).toArray):=by
  show ((items.toList.drop (sIx items.size 0 lo)).take (sIx items.size items.size hi - sIx items.size 0 lo)).toArray.size<=sizeLine
  rw [List.size_toArray,List.length_take,List.length_drop,Array.length_toList]
  lia
 have hj:sIx items.size items.size hi<=items.size:=sj _ _ (Nat.le_refl _) hi
 obtain ⟨os,KU,M4,KW⟩:=id hs
 have NA:s.TypeIs (.ref sl) "slice":=⟨os,KU,M4⟩
 unfold getItem
 try with_reducible refine wpAny_holding ?_
 first | refine wpAny_bind (wpAny_pure ?_) | skip
 refine wpAny_bind (wpAny_sequenceKey ht.typeIs (by decide) ?_)
 refine wpAny_bind (wpAny_callSpecial?_slot (name:=Str.ofString "__getitem__") ht.typeIs PyProof.Rows.slot_tuple_getitem
  (wpAny_call_entry PyProof.Rows.slot_tuple_getitem ht.typeIs entry_tuple_getitem ?_ (args_tuple_getitem _ _)))
 show wpAny _ _ (Builtin.Tuple.tupleItemsOf (.ref t) >>= _) _ _ s
 refine wpAny_bind (tupleItemsOf_ ht ?_)
 refine wpAny_bind (wpAny_typeOf NA ?_)
 rw [if_pos (by decide)]
 refine wpAny_bind (fF hs pl pu ?_)
 have Ot:¬ ((((sIx items.size 0 lo:Nat):Int) == 0 && (1:Int) == 1 && (sIx items.size items.size hi - sIx items.size 0 lo) == items.size)=true):=by
  intro q
  rw [Bool.and_eq_true,Bool.and_eq_true] at q
  have q1:((sIx items.size 0 lo:Nat):Int)=0:=eq_of_beq q.1.1
  have q2:sIx items.size items.size hi - sIx items.size 0 lo=items.size:=eq_of_beq q.2
  exact hw ⟨by lia,by lia⟩
 show wpAny _ _ (if (((sIx items.size 0 lo:Nat):Int) == 0 && (1:Int) == 1 && (sIx items.size items.size hi - sIx items.size 0 lo) == items.size)=true then _ else _) _ _ s
 rw [if_neg Ot,vh]
 first
  | exact wpAny_bind (m:=Builtin.Tuple.tupleExact _) (wpAny_newObj_type (wpAny_pure ⟨_,rfl,wpAny_pure h⟩) IH)
  | exact wpAny_bind (m:=Builtin.Tuple.tupleExact _) (wpAny_newObj_type (wpAny_bind (wpAny_pure (wpAny_pure ⟨_,rfl,wpAny_pure h⟩))) IH)
  | exact wpAny_bind (wpAny_bind (m:=Builtin.Tuple.tupleExact _) (wpAny_newObj_type (wpAny_pure (wpAny_pure ⟨_,rfl,wpAny_pure h⟩)) IH))
  | exact wpAny_bind (wpAny_bind (m:=Builtin.Tuple.tupleExact _) (wpAny_newObj_type (wpAny_pure ⟨_,rfl,wpAny_pure h⟩) IH))
end
end HT
namespace L2
open PySem PySem.Spec PyProof.Rows
abbrev TO:=St->Hp->(Option Int->Hp->Prop)->Prop
def PO (X:Cx) (e:Option Expr) (t:TO):Prop:=
 ∀ (pins:List (Addr×Obj)) (s:Shared) (σ:St) (H:Hp) (Q:Option Int->Hp->Prop),Inv X pins σ H s->t σ H Q->
  wpAny (model X.prog X.w) X.A (evalPart e X.env) (fun u s'=>∃ o H',Inv X pins σ H' s'/\IsPart u o/\Q o H') X.xe s
noncomputable def xA:TO:=fun _ H Q=>Q none H
noncomputable def Cj (t:TE):TO:=fun σ H Q=>t σ H fun x H1=>∃ i,x=.int i/\Q (some i) H1
section
variable {X:Cx} {e:Expr} {te:TE} {lo hi:Option Expr} {tl th:TO} {pos p2:Pos}
theorem xB:PO X none xA:=by
 intro pins s σ H Q I h
 rw [evalPart_none]
 exact wpAny_pure ⟨none,H,I,.none,h⟩
theorem xC (h:PE X e te):PO X (some e) (Cj te):=by
 intro pins s σ H Q I hw
 rw [evalPart_some]
 refine ED (h pins s σ H _ I hw) fun u s1 EE=>?_
 obtain ⟨x,H1,I1,r1,q1⟩:=EE
 obtain ⟨i,rfl,q⟩:=q1
 obtain ⟨t,rfl⟩:=r1
 exact ⟨some i,H1,I1,.int i t,q⟩
def KY (X:Cx) (r:V->Option Int->Option Int->Hp->VK->Prop):Prop:=
 ∀ (pins:List (Addr×Obj)) (s:Shared) (σ:St) (H:Hp) (x:V) (v vl vu:Value) (lo hi:Option Int) (sl:Addr) (Q:VK),Inv X pins σ H s->RelV x v->s.heap.IsSliceOf sl vl vu .none->IsPart vl lo->IsPart vu hi->r x lo hi H Q->
  ∃ T id,typeLookup (.type T) "__getitem__" = pure (some (.builtin id))/\s.TypeIs v T/\wpAny (model X.prog X.w) X.A (getItem v (.ref sl)) (EP X pins σ Q) X.xe s
noncomputable def tSl (r:V->Option Int->Option Int->Hp->VK->Prop) (te:TE) (tl th:TO):TE:=fun σ H Q=>te σ H fun x H1=>tl σ H1 fun l H2=>th σ H2 fun u H3=>r x l u H3 Q
theorem vk {r:V->Option Int->Option Int->Hp->VK->Prop} (hr:KY X r) (he:PE X e te) (hl:PO X lo tl) (hu:PO X hi th):PE X (.Subscript e (.Slice lo hi none p2) pos) (tSl r te tl th):=by
 intro pins s σ H Q I h
 refine Subscript_ (ED (he pins s σ H _ I h) fun v s1 EE=>?_)
 obtain ⟨x,H1,I1,r1,q1⟩:=EE
 refine wpAny_Slice (ED (hl pins s1 σ H1 _ I1 q1) fun vl s2 ⟨l,H2,I2,pl,q2⟩=>ED (hu pins s2 σ H2 _ I2 q2) fun vu s3 EE=>?_)
 obtain ⟨u,H3,I3,pu,q3⟩:=EE
 rw [evalPart_none]
 refine wpAny_pure ?_
 have I4:Inv X pins σ H3 { s3 with heap:=s3.heap.push { cls:=.type "slice",data:=.fields #[vl,vu,.none] } }:=I3.kept (t':=s3.toks) fun b ob q=>Heap.get?_push_of_some _ q
 obtain ⟨T,id,hT,ht,hg⟩:=hr pins { s3 with heap:=s3.heap.push { cls:=.type "slice",data:=.fields #[vl,vu,.none] } } σ H3 x v vl vu l u s3.heap.objs.size Q I4 r1 (Heap.IsSliceOf.new ..) pl pu q3
 show wpAny (model X.prog X.w) X.A (subscriptTail e (.Slice lo hi none p2) v (.ref s3.heap.objs.size)) (EP X pins σ Q) X.xe { s3 with heap:=s3.heap.push { cls:=.type "slice",data:=.fields #[vl,vu,.none] } }
 exact tail_any (ops:=[.ref s3.heap.objs.size,v]) ht hT hg (by with_unfolding_all rfl)
noncomputable def wx (xs:List V) (lo hi:Option Int):List V:=(xs.drop (HT.sIx xs.length 0 lo)).take (HT.sIx xs.length xs.length hi - HT.sIx xs.length 0 lo)
theorem jM (xs:List V) (lo hi:Option Int):(wx xs lo hi).length<=xs.length:=by
 unfold wx
 rw [List.length_take,List.length_drop]
 lia
noncomputable def DR (K:W.Frag):V->Option Int->Option Int->Hp->VK->Prop:=fun x lo hi H Q=>∃ a xs,x=.ref a/\SqT K H a xs/\
 ¬ (HT.sIx xs.length 0 lo=0/\HT.sIx xs.length xs.length hi=xs.length)/\∀ p,H p=none->Q (.ref p) (upd H p (.tup (wx xs lo hi)))
theorem z8:KY X (DR X.K):=by
 intro pins s σ H x v vl vu lo hi sl Q I rx hs pl pu h
 obtain ⟨a,xs,rfl,hx,hw,q⟩:=h
 cases rx
 obtain ⟨El,r,ht,hz⟩:=I.tuple hx
 have hlen:El.toArray.size=xs.length:=by rw [List.size_toArray];exact r.length.symm
 refine ⟨"tuple",_,PyProof.Rows.slot_tuple_getitem.lookup,ht.typeIs,?_⟩
 refine HT.iP ht hs pl pu (by rw [hlen];exact hw) ?_ (by rw [hlen];exact hz)
 rw [hlen]
 refine ⟨.ref s.heap.objs.size,_,I.laid (t':=s.toks) (o:=.tup (wx xs lo hi)) (fun b ob q=>Heap.get?_push_of_some _ q) (Nat.le_refl _) ?_,rfl,q _ (I.hok.fresh (Nat.le_refl _))⟩
 exact ⟨Nat.le_trans (jM xs lo hi) hz,_,(r.drop (HT.sIx xs.length 0 lo)).take (HT.sIx xs.length xs.length hi - HT.sIx xs.length 0 lo),IsTupN.new _ _⟩
noncomputable def Cm (K:W.Frag):R2:=fun x y H Q=>∃ a b xs ys,x=.ref a/\y=.ref b/\SqT K H a xs/\SqT K H b ys/\xs≠[]/\xs.length + ys.length<=sizeLine/\
 (ys=[]->Q (.ref a) H)/\(ys≠[]->∀ p,H p=none->Q (.ref p) (upd H p (.tup (xs++ys))))
theorem Vals.nil_iff {xs:List V} {us:List Value} (r:Vals xs us):us=[]<->xs=[]:=by
 cases r with
 | nil=>simp
 | cons _ _=>simp
theorem xD:E2 X (binaryOp .Add) (Cm X.K):=by
 intro pins s σ H x y v u Q I rx ry h
 obtain ⟨a,b,xs,ys,rfl,rfl,ha,hb,hx,hz,q1,q2⟩:=h
 cases rx
 cases ry
 obtain ⟨El,r1,p1,_⟩:=I.tuple ha
 obtain ⟨Ic,r2,p2,_⟩:=I.tuple hb
 refine HT.xy p1 p2 (fun z=>hx (r1.nil_iff.mp z)) (fun z=>⟨.ref a,H,I,rfl,q1 (r2.nil_iff.mp z)⟩) (fun z=>?_) (by rw [<-r1.length,<-r2.length];exact hz)
 refine ⟨.ref s.heap.objs.size,_,I.laid (t':=s.toks) (o:=.tup (xs++ys)) (fun b ob q=>Heap.get?_push_of_some _ q) (Nat.le_refl _) ?_,rfl,q2 (fun w=>z (r2.nil_iff.mpr w)) _ (I.hok.fresh (Nat.le_refl _))⟩
 exact ⟨by rw [List.length_append];exact hz,_,r1.append r2,IsTupN.new _ _⟩
end
noncomputable def ixN (n:Nat) (i:Int):Option Nat:=if 0<=i then (if i < n then some i.toNat else none) else if -(n:Int)<=i then some (i + n).toNat else none
noncomputable def E6 {α:Type} (xs:List α) (i:Int):Option α:=(ixN xs.length i).bind fun j=>xs[j]?
theorem so {n:Nat} {i:Int} {j:Nat} (h:ixN n i=some j):seqIndex? i n=some j/\j < n/\-(n:Int)<=i/\i < n:=by
 unfold ixN at h
 by_cases h0:0<=i
 ·rw [if_pos h0] at h
  by_cases h1:i < n
  ·rw [if_pos h1] at h
   have e:i.toNat=j:=Option.some.inj h
   exact ⟨by rw [seqIndex_of h0 h1,e],by lia,by lia,h1⟩
  ·rw [if_neg h1] at h;cases h
 ·rw [if_neg h0] at h
  by_cases h1 : -(n:Int)<=i
  ·rw [if_pos h1] at h
   have e:(i + n).toNat=j:=Option.some.inj h
   exact ⟨by rw [seqIndex_neg (by lia) h1,e],by lia,h1,by lia⟩
  ·rw [if_neg h1] at h;cases h
theorem oS {α:Type} {xs:List α} {i:Int} {v:α} (h:E6 xs i=some v):∃ j,seqIndex? i xs.length=some j/\xs[j]?=some v/\j < xs.length/\-(xs.length:Int)<=i/\i < xs.length:=by
 unfold E6 at h
 cases e:ixN xs.length i with
 | none=>rw [e] at h;cases h
 | some j=>
  rw [e] at h
  obtain ⟨h1,h2,h3,h4⟩:=so e
  exact ⟨j,h1,h,h2,h3,h4⟩
theorem dF {α:Type} {xs:List α} {j:Nat} {v:α} (h:xs[j]?=some v):E6 xs (j:Int)=some v:=by
 have hj:j < xs.length:=(List.getElem?_eq_some_iff.mp h).1
 have e:ixN xs.length (j:Int)=some j:=by
  unfold ixN
  rw [if_pos (by lia),if_pos (by lia)];simp
 unfold E6;rw [e];exact h
def sr (b:Expr):Prop:=∀ o i,subscripted b false o i=operate [o,i] (getItem o i)
def LU (X:Cx) (r:R2):Prop:=
 ∀ (value slice:Expr) (pins:List (Addr×Obj)) (s:Shared) (σ:St) (H:Hp) (x y:V) (v u:Value) (Q:VK),Inv X pins σ H s->RelV x v->RelV y u->r x y H Q->
  subscripted slice false v u=operate [v,u] (getItem v u)->wpAny (model X.prog X.w) X.A (subscriptTail value slice v u) (EP X pins σ Q) X.xe s
def JR (X:Cx) (id:String) (r:V->List V->Hp->VK->Prop):Prop:=
 ∀ (pins:List (Addr×Obj)) (s:Shared) (σ:St) (H:Hp) (x:V) (xs:List V) (v:Value) (us:List Value) (Q:VK),Inv X pins σ H s->RelV x v->Vals xs us->r x xs H Q->
  wpAny (model X.prog X.w) X.A (call (.builtin id) (v :: us)) (EP X pins σ Q) X.xe s
section
variable {X:Cx} {a b:Expr} {ta tb:TE} {pos:Pos}
theorem Cn {r:R2} (hr:LU X r) (ha:PE X a ta) (hb:PE X b tb) (hs:sr b):PE X (.Subscript a b pos) (LB r ta tb):=by
 intro pins s σ H Q I h
 exact Subscript_ (Ca ha hb I h fun v u s2 x y H2 I2 rx ry q=>hr a b pins s2 σ H2 x y v u Q I2 rx ry q (hs _ _))
noncomputable def DS (K:W.Frag):R2:=fun x y H Q=>∃ p xs i v,x=.ref p/\y=.int i/\SqL K H p xs/\E6 xs i=some v/\Q v H
noncomputable def DT (K:W.Frag):R2:=fun x y H Q=>∃ p xs i v,x=.ref p/\y=.int i/\SqT K H p xs/\E6 xs i=some v/\Q v H
noncomputable def DU:R2:=fun x y H Q=>∃ z i c,x=.str z/\y=.int i/\z.length<=sizeLine/\E6 z.cps.toList i=some c/\Q (.str ⟨#[c]⟩) H
theorem xE:LU X (DS X.K):=by
 intro value slice pins s σ H x y v u Q I rx ry h hs
 obtain ⟨p,xs,i,z,rfl,rfl,hq,he,q⟩:=h
 cases rx
 obtain ⟨t,rfl⟩:=ry
 obtain ⟨El,r,pl,hz⟩:=I.list hq
 obtain ⟨j,h1,h2,h3,h4,h5⟩:=oS he
 obtain ⟨w,ew,IQ⟩:=r.get h2
 have hl:=r.length
 have hn:=k4
 have fin:EP X pins σ Q w s:=⟨z,H,I,IQ,q⟩
 by_cases h0:0<=i
 ·have hj:i.toNat=j:=by
   rw [seqIndex_of h0 h5] at h1
   exact Option.some.inj h1
  exact item_listR pl.isList h0 (by lia) (by rw [hj];simpa using ew) fin hs
 ·have hj:(i + (El.toArray.size:Int)).toNat=j:=by
   rw [seqIndex_neg (by lia) h4] at h1
   rw [List.size_toArray,<-hl]
   exact Option.some.inj h1
  exact subscriptTail_builtinR (x:=w) pl.isList.typeIs slot_list_getitem.lookup
   (wpAny_getItem_list_neg (Q:=fun r s'=>r=w/\EP X pins σ Q r s') pl.isList (by lia) (by rw [List.size_toArray] <;> lia) (by lia) (by rw [hj];simpa using ew) ⟨rfl,fin⟩) hs
theorem z9:LU X (DT X.K):=by
 intro value slice pins s σ H x y v u Q I rx ry h hs
 obtain ⟨p,xs,i,z,rfl,rfl,hq,he,q⟩:=h
 cases rx
 obtain ⟨t,rfl⟩:=ry
 obtain ⟨El,r,pl,hz⟩:=I.tuple hq
 obtain ⟨j,h1,h2,h3,h4,h5⟩:=oS he
 obtain ⟨w,ew,IQ⟩:=r.get h2
 have hl:=r.length
 have hn:=k4
 have fin:EP X pins σ Q w s:=⟨z,H,I,IQ,q⟩
 exact subscriptTail_builtinR (x:=w) pl.typeIs slot_tuple_getitem.lookup
  (getItem_tuple (j:=j) (Q:=fun r s'=>r=w/\EP X pins σ Q r s') pl (by lia) (by lia) (by rw [List.size_toArray,<-hl];exact h1) (by simpa using ew) ⟨rfl,fin⟩) hs
theorem Aa:LU X DU:=by
 intro value slice pins s σ H x y v u Q I rx ry h hs
 obtain ⟨z,i,c,rfl,rfl,hz,he,q⟩:=h
 obtain ⟨t,rfl⟩:=rx
 obtain ⟨t',rfl⟩:=ry
 obtain ⟨j,h1,h2,h3,h4,h5⟩:=oS he
 have hl:z.cps.toList.length=z.length:=by simp [Str.length]
 rw [hl] at h1 h4 h5
 have hn:=k4
 exact tail_any (typeIs_str s z t) slot_str_getitem.lookup (getItem_str (c:=c) (by
  have e1:decide (i < -(2 ^ 63:Int))=false:=decide_eq_false (by lia)
  have e2:decide (i >= 2 ^ 63)=false:=decide_eq_false (by lia)
  rw [e1,e2,Bool.or_false]) (by rw [h1];simpa using h2) ⟨.str ⟨#[c]⟩,H,I.tok _,⟨_,rfl⟩,q⟩) hs
theorem qU (El:List Value) (n j:Nat) (u:Value):Obj.mapSeq (·.setIfInBounds j u) { cls:=.type "list",data:=.seq El.toArray n }={ cls:=.type "list",data:=.seq (El.set j u).toArray n }:=by
 simp [Obj.mapSeq]
theorem Inv.lst {pins:List (Addr×Obj)} {σ:St} {H:Hp} {s:Shared} {p:Addr} {xs:List V} (I:Inv X pins σ H s) (h:H p=some (.lst xs)) :
  ∃ (El:List Value) (n:Nat),Vals xs El/\s.heap.get? p=some { cls:=.type "list",data:=.seq El.toArray n }/\xs.length<=sizeLine:=by
 obtain ⟨z,El,n,r,e⟩:=I.hok p _ h
 exact ⟨El,n,r,e,z⟩
theorem Inv.lstUpd {pins:List (Addr×Obj)} {σ:St} {H:Hp} {s:Shared} {p:Addr} {xs ys:List V} {El its':List Value} {n n':Nat} {f:Obj->Obj} (I:Inv X pins σ H s) (h:H p=some (.lst xs))
  (ho:s.heap.get? p=some { cls:=.type "list",data:=.seq El.toArray n }) (hf:f { cls:=.type "list",data:=.seq El.toArray n }={ cls:=.type "list",data:=.seq its'.toArray n' }) (r:Vals ys its') (hz:ys.length<=sizeLine) (t:Nat) :
  Inv X pins σ (upd H p (.lst ys)) { s with heap:=s.heap.update p f,toks:=t }:=by
 have e:(s.heap.update p f).get? p=some { cls:=.type "list",data:=.seq its'.toArray n' }:=by
  rw [Heap.get?_update_self f ho (by rw [hf] <;> rfl),hf]
 refine I.write (x:=p) (e:=p) (by rw [h];trivial) (.inl rfl) (fun b u hb q=>(Heap.get?_update_other _ _ (Ne.symm hb)).trans q) ⟨_,e⟩ ?_
 exact ⟨hz,its',n',r,e⟩
noncomputable def Ab:V->V->V->Hp->(Hp->Prop)->Prop:=fun o i v H Q=>∃ p xs k j,o=.ref p/\i=.int k/\H p=some (.lst xs)/\ixN xs.length k=some j/\Q (upd H p (.lst (xs.set j v)))
theorem vm:DI X Ab:=by
 intro pins s σ H o i v ov iv u Q I ro ri rv h
 obtain ⟨p,xs,k,j,rfl,rfl,hp,hj,q⟩:=h
 cases ro
 obtain ⟨t,rfl⟩:=ri
 obtain ⟨El,n,r,ho,hz⟩:=I.lst hp
 obtain ⟨h1,h2,h3,h4⟩:=so hj
 have hl:=r.length
 have hn:=k4
 have I':Inv X pins σ (upd H p (.lst (xs.set j v))) { s with heap:=s.heap.update p (Obj.mapSeq (·.setIfInBounds j u)) }:=
  I.lstUpd hp ho (qU El n j u) (r.set rv j) (by rw [List.length_set];exact hz) s.toks
 by_cases h0:0<=k
 ·have hk:k.toNat=j:=by
   rw [seqIndex_of h0 h4] at h1
   exact Option.some.inj h1
  exact PySem.W.ki_setAt ho h0 (by lia) (by rw [List.size_toArray,<-hl];exact h4) (by rw [hk];exact ⟨_,I',q⟩)
 ·have hk:(k + (El.toArray.size:Int)).toNat=j:=by
   rw [seqIndex_neg (by lia) h3] at h1
   rw [List.size_toArray,<-hl]
   exact Option.some.inj h1
  exact PySem.W.ki_setBack ho (by lia) (by rw [List.size_toArray,<-hl];exact h3) (by lia) (by rw [hk];exact ⟨_,I',q⟩)
theorem mU (lo hi:Option Int) (n:Nat):(sliceBounds lo hi none n).1=((HT.sIx n 0 lo:Nat):Int)/\(sliceBounds lo hi none n).2.1=((HT.sIx n n hi:Nat):Int)/\(sliceBounds lo hi none n).2.2=1:=by
 refine ⟨?_,?_,rfl⟩
 ·cases lo with
  | none=>simp [sliceBounds,HT.sIx]
  | some i=>
   simp only [sliceBounds,HT.sIx,Option.getD_none,show (1:Int) > 0 by decide,if_true]
   by_cases h:i < 0
   ·simp only [h,if_true] <;> lia
   ·simp only [h,if_false] <;> lia
 ·cases hi with
  | none=>simp [sliceBounds,HT.sIx]
  | some i=>
   simp only [sliceBounds,HT.sIx,Option.getD_none,show (1:Int) > 0 by decide,if_true]
   by_cases h:i < 0
   ·simp only [h,if_true] <;> lia
   ·simp only [h,if_false] <;> lia
theorem lE (El:List Value) (lo hi:Option Int):slicePick El.toArray lo hi none=((El.drop (HT.sIx El.length 0 lo)).take (HT.sIx El.length El.length hi - HT.sIx El.length 0 lo)).toArray:=by
 obtain ⟨h1,h2,h3⟩:=mU lo hi El.toArray.size
 unfold slicePick
 rw [h1,h2,h3]
 simp only [sliceRange_one,pick_run,List.size_toArray] <;> rfl
noncomputable def DV (K:W.Frag):V->Option Int->Option Int->Hp->VK->Prop:=fun x lo hi H Q=>∃ a xs,x=.ref a/\SqL K H a xs/\∀ p,H p=none->Q (.ref p) (upd H p (.lst (wx xs lo hi)))
theorem xF:KY X (DV X.K):=by
 intro pins s σ H x v vl vu lo hi sl Q I rx hs pl pu h
 obtain ⟨a,xs,rfl,hx,q⟩:=h
 cases rx
 obtain ⟨El,r,ht,hz⟩:=I.list hx
 have hlen:=r.length
 refine ⟨"list",_,slot_list_getitem.lookup,ht.isList.typeIs,?_⟩
 refine wpAny_getItem_list_slice ht.isList hs pl pu .none (by simp) ?_ (by rw [List.size_toArray] <;> lia)
 rw [lE,<-hlen]
 refine ⟨.ref s.heap.objs.size,_,I.laid (t':=s.toks) (o:=.lst (wx xs lo hi)) (fun b ob q=>Heap.get?_push_of_some _ q) (Nat.le_refl _) ?_,rfl,q _ (I.hok.fresh (Nat.le_refl _))⟩
 exact ⟨Nat.le_trans (jM xs lo hi) hz,_,0,(r.drop (HT.sIx xs.length 0 lo)).take (HT.sIx xs.length xs.length hi - HT.sIx xs.length 0 lo),Heap.get?_push_size _ rfl⟩
noncomputable def vn:V->Bool
 | .non=>true
 | .bl _=>true
 | .int _=>true
 | .str _=>true
 | _=>false
noncomputable def NB:V->V->Bool
 | .non,.non=>true
 | .bl a,.bl b=>a == b
 | .bl a,.int b=>(if a then 1 else 0) == b
 | .int a,.bl b=>a == (if b then 1 else 0)
 | .int a,.int b=>a == b
 | .str a,.str b=>a == b
 | _,_=>false
theorem wy {A:Around} {s:Shared} {y x:V} {u v:Value} (ry:RelV y u) (rx:RelV x v) (fy:vn y=true) (fx:vn x=true):SeqAt.EqAt A s u v (NB y x):=by
 cases y with
 | non=>
  cases ry
  cases x with
  | non=>cases rx;exact SeqAt.EqAt.same _
  | bl b=>cases rx;exact SeqAt.EqAt.none_bool b
  | int b=>obtain ⟨t,rfl⟩:=rx;exact SeqAt.EqAt.none_int b t
  | str b=>obtain ⟨t,rfl⟩:=rx;exact SeqAt.EqAt.none_str b t
  | _=>exact absurd (show false=true from fx) Bool.false_ne_true
 | bl a=>
  cases ry
  cases x with
  | non=>cases rx;exact SeqAt.EqAt.bool_none a
  | bl b=>cases rx;exact SeqAt.EqAt.bool_bool a b
  | int b=>obtain ⟨t,rfl⟩:=rx;exact SeqAt.EqAt.bool_int a b t
  | str b=>obtain ⟨t,rfl⟩:=rx;exact SeqAt.EqAt.bool_str a b t
  | _=>exact absurd (show false=true from fx) Bool.false_ne_true
 | int a=>
  obtain ⟨t',rfl⟩:=ry
  cases x with
  | non=>cases rx;exact SeqAt.EqAt.int_none a t'
  | bl b=>cases rx;exact SeqAt.EqAt.int_bool a t' b
  | int b=>obtain ⟨t,rfl⟩:=rx;exact SeqAt.EqAt.int_int a t' b t
  | str b=>obtain ⟨t,rfl⟩:=rx;exact SeqAt.EqAt.int_str a t' b t
  | _=>exact absurd (show false=true from fx) Bool.false_ne_true
 | str a=>
  obtain ⟨t',rfl⟩:=ry
  cases x with
  | non=>cases rx;exact SeqAt.EqAt.str_none a t'
  | bl b=>cases rx;exact SeqAt.EqAt.str_bool a t' b
  | int b=>obtain ⟨t,rfl⟩:=rx;exact SeqAt.EqAt.str_int a t' b t
  | str b=>obtain ⟨t,rfl⟩:=rx;exact SeqAt.EqAt.str_str a t' b t
  | _=>exact absurd (show false=true from fx) Bool.false_ne_true
 | _=>exact absurd (show false=true from fy) Bool.false_ne_true
theorem i9:cW X (.builtin "len") (fun xs H Q=>∃ p ys,xs=[.ref p]/\(SqL X.K H p ys\/SqT X.K H p ys)/\Q (.int ys.length) H):=by
 intro pins s σ H xs us Q I r h
 obtain ⟨p,ys,rfl,hq,q⟩:=h
 obtain ⟨u,rfl,rx⟩:=dN r
 cases rx
 have hn:=k4
 rcases hq with hq | hq
 ·obtain ⟨El,r',pl,hz⟩:=I.list hq
  have hlen:=r'.length
  exact Calls.call_len_list pl.isList (by simp only [List.size_toArray] <;> lia) ⟨.int ys.length,H,I.tok _,⟨s.toks + 1,by rw [List.size_toArray,hlen]⟩,q⟩
 ·obtain ⟨El,r',pl,hz⟩:=I.tuple hq
  have hlen:=r'.length
  exact len_tuple pl (by simp only [List.size_toArray] <;> lia) ⟨.int ys.length,H,I.tok _,⟨s.toks + 1,by rw [List.size_toArray,hlen]⟩,q⟩
theorem mV:cW X (.builtin "len") (fun xs H Q=>∃ z,xs=[.str z]/\z.length<=sizeLine/\Q (.int z.length) H):=by
 intro pins s σ H xs us Q I r h
 obtain ⟨z,rfl,hz,q⟩:=h
 obtain ⟨u,rfl,t,rfl⟩:=dN r
 have hn:=k4
 exact len_str (by lia) ⟨.int z.length,H,I.tok _,⟨_,rfl⟩,q⟩
theorem ja:cW X (.type "list") (fun xs H Q=>∃ p ys,xs=[.ref p]/\(SqL X.K H p ys\/SqT X.K H p ys)/\∀ l,H l=none->Q (.ref l) (upd H l (.lst ys))):=by
 intro pins s σ H xs us Q I r h
 obtain ⟨p,ys,rfl,hq,q⟩:=h
 obtain ⟨u,rfl,rx⟩:=dN r
 cases rx
 have fin:∀ (El:List Value),Vals ys El->ys.length<=sizeLine->∀ (h':Heap) (c':Nat),(∀ b o',s.heap.get? b=some o'->h'.get? b=some o')->
   h'.get? s.heap.objs.size=some { cls:=.type "list",dict:=none,data:=.seq El.toArray c',slots:=#[] }->EP X pins σ Q (.ref s.heap.objs.size) { s with heap:=h' }:=fun El r' hz h' c' kp e=>
  ⟨.ref s.heap.objs.size,_,I.laid (t':=s.toks) kp (Nat.le_refl _) (show ObjOk X.prog X.w _ h' _ (.lst ys) from ⟨hz,El,c',r',e⟩),rfl,q _ (I.hok.fresh (Nat.le_refl _))⟩
 rcases hq with hq | hq
 ·obtain ⟨El,r',pl,hz⟩:=I.list hq
  have hlen:=r'.length
  obtain ⟨o,ho,hc,n,hd⟩:=pl.isList
  exact call_list_seq p (.inl rfl) ho hc hd (fun h' c' kp e=>fin El r' hz h' c' kp e) (by simp only [List.size_toArray] <;> lia)
 ·obtain ⟨El,r',pl,hz⟩:=I.tuple hq
  have hlen:=r'.length
  obtain ⟨o,ho,hc,n,hd⟩:=pl
  exact call_list_seq p (.inr rfl) ho hc hd (fun h' c' kp e=>fin El r' hz h' c' kp e) (by simp only [List.size_toArray] <;> lia)
theorem ic:cW X (.type "tuple") (fun xs H Q=>∃ p ys,xs=[.ref p]/\((SqL X.K H p ys/\∀ l,H l=none->Q (.ref l) (upd H l (.tup ys)))\/(SqT X.K H p ys/\Q (.ref p) H))):=by
 intro pins s σ H xs us Q I r h
 obtain ⟨p,ys,rfl,h⟩:=h
 obtain ⟨u,rfl,rx⟩:=dN r
 cases rx
 rcases h with ⟨hq,q⟩ | ⟨hq,q⟩
 ·obtain ⟨El,r',pl,hz⟩:=I.list hq
  have hlen:=r'.length
  refine call_tuple_list pl.isList (fun h' kp=>?_) (by simp only [List.size_toArray] <;> lia)
  have I1:Inv X pins σ H { s with heap:=h' }:=I.kept (t':=s.toks) kp
  have I2:Inv X pins σ (upd H h'.objs.size (.tup ys)) { s with heap:=h'.push { cls:=.type "tuple",data:=.seq El.toArray } }:=
   I1.laid (t':=s.toks) (fun b o e=>Heap.get?_push_of_some _ e) (Nat.le_refl _) (show ObjOk X.prog X.w _ _ _ (.tup ys) from ⟨hz,El,r',IsTupN.new _ _⟩)
  exact ⟨.ref h'.objs.size,_,I2,rfl,q _ (I1.hok.fresh (Nat.le_refl _))⟩
 ·obtain ⟨El,r',pl,hz⟩:=I.tuple hq
  exact call_tuple_same pl ⟨.ref p,H,I,rfl,q⟩
def NC (K:W.Frag) (T:String) (x:V) (H:Hp):Prop:=match x with
 | .str _=>T = "str"
 | .int _=>T = "int"
 | .ref p=>(T = "list"/\∃ xs,SqL K H p xs)\/(T = "tuple"/\∃ o,K.lookup p=some o/\o.cls=.type "tuple"/\o.dict=none)\/
   (T = "dict"/\((∃ Em,H p=some (.dK Em))\/∃ Em,H p=some (.dT Em)))\/(T = "set"/\∃ S n,H p=some (.set S n))
 | _=>False
theorem Ac {pins:List (Addr×Obj)} {σ:St} {H:Hp} {s:Shared} {T:String} {x:V} {v:Value} (I:Inv X pins σ H s) (r:RelV x v) (ty:NC X.K T x H) :
  s.TypeIs v T/\∀ a,v=.ref a->∃ ob,s.heap.get? a=some ob/\ob.dict=none:=by
 cases x with
 | str z=>
  obtain ⟨t,rfl⟩:=r
  cases (show T = "str" from ty)
  exact ⟨typeIs_str s z t,fun _ e=>nomatch e⟩
 | int i=>
  obtain ⟨t,rfl⟩:=r
  cases (show T = "int" from ty)
  exact ⟨typeIs_int s i t,fun _ e=>nomatch e⟩
 | ref p=>
  cases r
  rcases ty with ⟨rfl,xs,hq⟩ | ⟨rfl,o,hk,hc,hd⟩ | ⟨rfl,hk⟩ | ⟨rfl,S,n,hk⟩
  ·obtain ⟨El,_,pl,_⟩:=I.list hq
   refine ⟨pl.isList.typeIs,fun a e=>?_⟩
   cases e
   obtain ⟨o,n,e,c,hd,_⟩:=pl
   exact ⟨o,e,hd⟩
  ·refine ⟨⟨o,I.kIn p o hk,hc⟩,fun a e=>?_⟩
   cases e
   exact ⟨o,I.kIn _ o hk,hd⟩
  ·have z:∃ o,s.heap.get? p=some o/\o.ExactDict:=by
    rcases hk with ⟨Em,hk⟩ | ⟨Em,hk⟩
    ·obtain ⟨_,_,_,_,o,_,_,e,ex,_⟩:=I.hok p _ hk
     exact ⟨o,e,ex⟩
    ·obtain ⟨_,_,_,_,o,_,_,e,ex,_⟩:=I.hok p _ hk
     exact ⟨o,e,ex⟩
   obtain ⟨o,e,ex⟩:=z
   refine ⟨⟨o,e,ex.1⟩,fun a e2=>?_⟩
   cases e2
   exact ⟨o,e,ex.2.1⟩
  ·obtain ⟨o,_,_,_,e,ex,_⟩:=I.hok p _ hk
   refine ⟨⟨o,e,ex.1⟩,fun a e2=>?_⟩
   cases e2
   exact ⟨o,e,ex.2.1⟩
 | _=>exact False.elim ty
noncomputable def tBM (K:W.Frag) (T:String) (r:V->List V->Hp->VK->Prop) (to:TE) (t:TA):TE:=fun σ H Q=>to σ H fun x H1=>NC K T x H1/\t σ H1 fun xs H2=>r x xs H2 Q
variable {o e:Expr} {es:List Expr} {to:TE} {t:TA} {name:Str} {apos EG:Pos} {T id:String} {r:V->List V->Hp->VK->Prop}
theorem xG (pa:PlainAttrs T) (slot:Slot T name id) (Jj:typeOf (.builtin id)=pure (.type "method_descriptor")) (hm:JR X id r) (ho:PE X o to) (ha:PA X (e :: es) t)
  (Fz:attributeBase o name X.env (eval o X.env)=eval o X.env:=by rfl)
  (GL:((backTo EG (starEach (e :: es) X.env)).all (fun x=>!x.1) && (backToKw EG (keywordEach [] X.env)).all (fun x=>x.1.isSome)
   && decide ((e :: es).length + ([]:List Keyword).length + (if ([]:List Keyword).isEmpty then 0 else 1) < 30))=true:=by rfl)
  (FA:(apos.endLine == EG.line)=true:=by rfl) (hs:starEach (e :: es) X.env=(false,eval e X.env) :: starEach es X.env:=by rfl) (E7:(backTo EG (starEach es X.env)).any (·.1)=false:=by rfl) :
  PE X (.Call (.Attribute o name apos) (e :: es) [] EG) (tBM X.K T r to t):=by
 intro pins s σ H Q I h
 refine wpAny_Call_method_late Fz GL FA rfl (ED (ho pins s σ H _ I h) fun v s1 EE=>?_)
 obtain ⟨x,H1,I1,r1,ty,q1⟩:=EE
 obtain ⟨h1,h2⟩:=Ac I1 r1 ty
 refine ⟨T,id,pa,slot,Jj,h1,h2,?_⟩
 have hA:=ha EG pins s1 σ H1 _ I1 q1
 rw [hs] at hA ⊢
 refine Calls.callWith_builtin (by show (false || (backTo EG (starEach es X.env)).any (·.1))=false;rw [E7] <;> rfl) (Calls.evalArgs_plain ?_)
 exact ED hA fun us s2 ⟨vs,H2,I2,r2,q2⟩=>hm pins s2 σ H2 x vs v us Q I2 r1 r2 q2
end
def MtM (X:Cx) (id:String) (r:V->List V->Hp->VK->Prop):Prop:=
 ∀ (pins:List (Addr×Obj)) (s:Shared) (σ:St) (H:Hp) (x:V) (xs:List V) (v:Value) (us:List Value) (Q:VK),Inv X pins σ H s->RelV x v->Vals xs us->r x xs H Q->
  wpAny (model X.prog X.w) X.A (call (.builtin id) (v :: us)) (EP X pins σ Q) X.xe s
theorem Vals.one:∀ {x:V} {us:List Value},Vals [x] us->∃ u,us=[u]/\RelV x u
 | _,_,.cons r .nil=>⟨_,rfl,r⟩
theorem Vals.rep {xs:List V} {us:List Value} (h:Vals xs us):∀ k:Nat,Vals (List.replicate k xs).flatten (List.replicate k us).flatten
 | 0=>.nil
 | k + 1=>by
  rw [List.replicate_succ,List.replicate_succ,List.flatten_cons,List.flatten_cons]
  exact Vals.append h (Vals.rep h k)
theorem mW (El:List Value):∀ (k:Nat) (acc:List Value),
  List.foldl (fun x1 x2=>x1++x2) acc.toArray (List.replicate k El.toArray)=(acc++(List.replicate k El).flatten).toArray
 | 0,acc=>by simp
 | k + 1,acc=>by
  have e:acc.toArray++El.toArray=(acc++El).toArray:=by simp
  have e2:(acc++El)++(List.replicate k El).flatten=acc++(List.replicate (k + 1) El).flatten:=by
   rw [List.replicate_succ,List.flatten_cons,List.append_assoc]
  rw [<-e2,<-mW El k (acc++El),<-e,List.replicate_succ,List.foldl_cons]
section
variable {X:Cx} {pins:List (Addr×Obj)} {σ:St} {H:Hp} {s:Shared} {l b:Addr} {xs ys zs:List V}
theorem Inv.lset {El its':List Value} {n:Nat} {f:Array Value->Array Value} {t':Nat} (I:Inv X pins σ H s) (hH:H l=some (.lst xs))
  (e:s.heap.get? l=some { cls:=.type "list",data:=.seq El.toArray n }) (hf:f El.toArray=its'.toArray) (hv:Vals ys its') (hz:ys.length<=sizeLine) :
  Inv X pins σ (upd H l (.lst ys)) { s with heap:=s.heap.update l (Obj.mapSeq f),toks:=t' }:=by
 have q:=PySem.IsL.update e f
 rw [hf] at q
 refine I.write (x:=l) (e:=l) (by rw [hH];exact trivial) (.inl rfl) (fun b' u hb hu=>(Heap.get?_update_other s.heap (Obj.mapSeq f) (Ne.symm hb)).trans hu) ⟨_,q⟩ ?_
 exact ⟨hz,its',_,hv,q⟩
theorem Inv.lnew {El:List Value} {t':Nat} (I:Inv X pins σ H s) (hv:Vals ys El) (hz:ys.length<=sizeLine) :
  Inv X pins σ (upd H s.heap.objs.size (.lst ys)) { s with heap:=s.heap.push { cls:=.type "list",data:=.seq El.toArray },toks:=t' }:=
 I.laid (fun _ _ q=>Heap.get?_push_of_some _ q) (Nat.le_refl _) ⟨hz,El,0,hv,Heap.get?_push_size _ rfl⟩
theorem Inv.fresh (I:Inv X pins σ H s):H s.heap.objs.size=none:=I.hok.fresh (Nat.le_refl _)
theorem Inv.lstM (I:Inv X pins σ H s) (hH:H l=some (.lst xs)):xs.length<=sizeLine/\∃ (El:List Value) (n:Nat),Vals xs El/\xs.length=El.length/\s.heap.get? l=some { cls:=.type "list",data:=.seq El.toArray n }:=by
 obtain ⟨z,El,n,r,e⟩:=I.hok l _ hH
 exact ⟨z,El,n,r,r.length,e⟩
theorem vo {n:Nat} (h:n<=sizeLine):Builtin.List.listTooLong n=false:=by
 unfold Builtin.List.listTooLong
 exact decide_eq_false (by lia)
end
section
variable {X:Cx}
noncomputable def xH:V->List V->Hp->VK->Prop:=fun x vs H Q=>∃ l xs y,x=.ref l/\vs=[y]/\H l=some (.lst xs)/\xs.length < sizeLine/\Q .non (upd H l (.lst (xs++[y])))
theorem mX:MtM X "list.append" xH:=by
 intro pins s σ H x vs v us Q I rx rv h
 obtain ⟨l,xs,y,rfl,rfl,hH,hz,q⟩:=h
 cases rx
 obtain ⟨u,rfl,ru⟩:=rv.one
 obtain ⟨z,El,n,r,hl,e⟩:=I.lstM hH
 refine call_meets F.slot_list_append ⟨_,e,rfl⟩ F.entry_list_append (F.args_list_append_2 _ _) (PySem.list_append l El.toArray n u (by rw [List.size_toArray];lia)) ⟨e,?_⟩
 refine ⟨.non,_,I.lset (its':=El++[u]) hH e (by simp) (r.append (.cons ru .nil)) ?_,rfl,q⟩
 rw [List.length_append,List.length_singleton]
 lia
theorem lF {α:Type} (xs:List α) (k:Nat):(List.replicate k xs).flatten.length=k * xs.length:=by
 induction k with
 | zero=>simp
 | succ k ih=>rw [List.replicate_succ,List.flatten_cons,List.length_append,ih,Nat.succ_mul,Nat.add_comm]
end
section
variable {prog:Program} {w:World} {A:Around} {E:Value->Shared->Prop} {s:Shared}
end
section
variable {X:Cx}
end
end L2
namespace Att
open PySem PySem.W PySem.Calls PyProof.Rows
theorem jN {P:Params} {h:Heap}:∀ (ns:List Int) (vs:List Value),WellAll P h vs (ns.map WData.int)->IntsAre vs ns:=by
 intro ns
 induction ns with
 | nil=>
  intro vs w
  rw [List.map_nil] at w
  cases w
  exact .nil
 | cons n ns ih=>
  intro vs w
  rw [List.map_cons] at w
  cases w with
  | cons a b=>
   cases a
   exact .cons _ _ (ih _ b)
theorem su {l:OpenLaw} {n:Nat} (hn:l.most=some n) {P:Params} {h:Heap} {args:List WData} {vals:List Value}
  (JS:l.row.toRowW.claim.pre args=true) (LC:WellAll P h vals args) :
  ∃ a vs ns,vals=[Value.ref a]/\args=[WData.list (ns.map WData.int)]/\h.get? a=some { cls:=.type "list",data:=.seq vs.toArray }/\IntsAre vs ns/\ns.length<=n:=by
 have hsh:WShape.hasAll [] args [.list .int]=true:=(pre_splitW JS).1
 have hc:l.pre.holds [] { args:=args }=true:=(pre_splitW JS).2
 obtain ⟨d,r,rfl,h1,h2⟩:=hasAllW_cons hsh
 obtain rfl:=hasAllW_nil h2
 obtain ⟨xs,rfl,h3⟩:=hasW_list h1
 obtain ⟨ns,rfl⟩:=items_int h3
 have hlen:ns.length<=n:=by
  unfold OpenLaw.pre at hc
  have h4:(WTm.not (.lt (.lit (.int (n:Int))) (.len (.arg 0)))).holds [] { args:=[.list (ns.map .int)] }=true:=by
   have h4:=(holds_andW hc).1
   rw [hn] at h4
   exact h4
  have h5:=condW_of h4 (w_not (w_lt w_lit (w_len_list (w_arg rfl))))
  rw [List.length_map] at h5
  refine Nat.le_of_not_lt fun q=>?_
  have q':(n:Int) < ((ns.length:Nat):Int):=by lia
  first
   | (rw [decide_eq_true q'] at h5;exact absurd h5 (by decide))
   | (simp at h5;lia)
 cases LC with
 | cons w1 w2=>
  cases w2
  cases w1 with
  | list ho GN=>exact ⟨_,_,ns,rfl,rfl,ho,jN ns _ GN,hlen⟩
theorem sv (l:OpenLaw) (args:List WData):l.row.toRowW.claim.post args (.bool true) args=true:=
 postW_of (r:=l.row.toRowW) (X:=(true == true))
  (show WShape.has [] (.bool true) .bool=true by first | rfl | decide | simp [WShape.has,WShape.arms,WShape.armsAll])
  (show (WTm.eq .res (.lit (.bool true))).value [] { args:=args,res:=some (.bool true),after:=args }=some (.bool (true == true)) from w_eq_bool (w_res rfl) w_lit) rfl
theorem attach_call {l:OpenLaw} {n:Nat} {q:Program} {loose:List Str} {XP:(Str->Option Value)->Heap->Prop} {YP:World->Heap->Prop} {d:DefRec}
  (hn:l.most=some n) (LV:d.params.defaults=[])
  (call:∀ (w:World) (s₀ s₁:Shared) (mg mb:Str->Option Value) (fa:Addr) (o:Obj) (pm cd doc:Value) (a:Addr) (vs:List Value) (ns:List Int),
   Ground q loose [] XP w s₀ mg mb s₁.heap->YP w s₁.heap->
   s₁.heap.get? fa=some o->o.data=.func (docDef d.name d.params d.body d.scope pm cd doc)->s₁.heap.CodeRec cd d.name->mg d.name=some (.ref fa)->
   s₁.heap.get? a=some { cls:=.type "list",data:=.seq vs.toArray }->IntsAre vs ns->ns.length<=n->s₁.gens = #[]->
   codeAny (model l.prog w) callerA (.call (.ref fa) ⟨[.ref a],[]⟩) (fun r s'=>r=.ok (.ret (.bool true))/\OldK s₁.heap s'.heap/\s'.os=s₁.os/\AllBare s'.gens) s₁) :
  WalkO q loose XP YP l.row.toRowW d [] (fun f vs=>PySem.call f vs):=by
 intro w s₀ s₁ mg mb G Y fa o pm cd doc dV kV ho hd Jh hD LX hg args vals as JS hlay hrd LC Ou
 obtain rfl:dV=.none:=Dflts.none hD LV
 obtain rfl:kV=.none:=Dflts.noKw hD
 obtain ⟨a,vs,ns,rfl,rfl,KZ,hints,hlen⟩:=su hn JS LC
 refine enter_call (codeAny_mono (call w s₀ s₁ mg mb fa o pm cd doc a vs ns G Y ho (fd_plain hd) Jh LX KZ hints hlen hg) fun r s' hq=>?_)
 obtain ⟨rfl,h2,h3,h4⟩:=hq
 exact ⟨.inl ⟨.bool true,.bool true,[],rfl,fun _=>rfl,.bool true,sv l _,fun _=>⟨List.Pairwise.nil,fun _ hm=>(nomatch hm)⟩⟩,h2,h3,h4⟩
section
variable {prog:Program} {w:World} {A:Around} {E:Value->Shared->Prop} {s:Shared} {K:Frag}
end
end Att
namespace L2
open PySem PySem.Spec PyProof.Rows
theorem mY:∀ {vs:List Value} {ns:List Int},IntsAre vs ns->Vals (ns.map V.int) vs
 | _,_,.nil=>.nil
 | _,_,.cons n t h=>.cons ⟨t,rfl⟩ (mY h)
def Co (H:Hp):Prop:=∀ b,H b=none\/∃ o xs,H b=some (.frz o (.lst xs))
theorem vp {P:Program} {w:World} {K:W.Frag} {mg mb:Str->Option Value} {CX:Jb} {k:Nat} {fa a:Addr} {fd:FuncData} {x:Str} {sp:Sp} {s₁:Shared} {vs:List Value} {ns:List Int}
  (KX:K.In s₁.heap) (KD:s₁.heap.Ns mainGlobals mg) (hb:s₁.heap.Ns builtinsNs mb) (LY:∀ x:Str,x≠"__name__"->mb x=bootBuiltins x) (hlim:s₁.heap.NoLimit) (hg:s₁.gens = #[])
  (ha:s₁.heap.get? a=some { cls:=.type "list",data:=.seq vs.toArray }) (hi:IntsAre vs ns) (hl:ns.length<=sizeLine) (hr:Room k callerA)
  (F:∀ base:Heap,K.In base->base.Ns mainGlobals mg->FnOk P w K mg base CX k fa fd [x] sp) (LZ:∀ (s:Shared) (u:Value),BindsTo s fd ⟨[u],[]⟩ [(x,u)])
  (KC:∀ H:Hp,Co H->SqL K H a (ns.map V.int)->sp [.ref a] H (fun v _=>v=.bl true) fun _ _ _=>False)
  (ND:∀ H e s',CX [] H s₁ (fun _ _ _=>False) e s'->False) :
  codeAny (model P w) callerA (.call (.ref fa) ⟨[.ref a],[]⟩) (fun r s'=>r=.ok (.ret (.bool true))/\OldK s₁.heap s'.heap/\s'.os=s₁.os/\AllBare s'.gens) s₁:=by
 have rv:=mY hi
 have lenV:=hi.length
 have core:∀ H:Hp,Co H->SqL K H a (ns.map V.int)->HOk P w H s₁.heap->(∀ b,H b≠none->b=a)->(H a≠none->K.lookup a=none)->
   codeAny (model P w) callerA (.call (.ref fa) ⟨[.ref a],[]⟩) (fun r s'=>r=.ok (.ret (.bool true))/\OldK s₁.heap s'.heap/\s'.os=s₁.os/\AllBare s'.gens) s₁:=by
  intro H hO hS hok hA hK
  have II:∀ {b:Addr} {o:Obj},s₁.heap.get? b=some o->H b=none->(uT s₁.heap H).get? b=some o:=fun e n=>uU e n
  have LS:∀ {b:Addr} {o:Obj} {es:Array DictEntry} {ep:Nat},s₁.heap.get? b=some o->o.data=.dict es ep->H b=none:=fun {b o es ep} e d=>by
   cases q:H b with
   | none=>rfl
   | some u=>
    have e':b=a:=hA b (by rw [q];simp)
    subst e'
    rw [ha] at e;cases e
    have d':Data.seq vs.toArray _=Data.dict es ep:=d
    cases d'
  have M5:∀ {b:Addr} {m:Str->Option Value},s₁.heap.Ns b m->(uT s₁.heap H).Ns b m:=fun {b m} ⟨o,es,ep,e,d,r⟩=>⟨o,es,ep,II e (LS e d),d,r⟩
  have Ov:K.In (uT s₁.heap H):=fun b o e=>II (KX b o e) (by
   cases q:H b with
   | none=>rfl
   | some u=>
    have e':b=a:=hA b (by rw [q];simp)
    subst e'
    rw [hK (by rw [q];simp)] at e;cases e)
  have hM:Mod K mg (uT s₁.heap H):=⟨Ov,M5 KD,⟨mb,M5 hb,LY⟩,let ⟨mc,h1,h2⟩:=hlim;⟨mc,M5 h1,h2⟩⟩
  have e0:Env0 P w K mg (uT s₁.heap H) callerA [] s₁ H:=⟨rfl,hM,fun b o e=>xk e,Nat.le_of_eq (rS _ _),trivial,fun b hb=>absurd (show b∈([]:List Addr) from hb) (by simp),hok,.of_eq hg⟩
  refine codeAny_mono ((F _ Ov (M5 KD)).run callerA [] s₁ H ⟨[.ref a],[]⟩ [.ref a] [.ref a] _ _ hr e0 (LZ s₁ (.ref a)) (.cons rfl .nil) (KC H hO hS)) fun r s' h=>?_
  cases r with
  | error e=>exact (ND H e s' h).elim
  | ok fl=>
   cases fl with
   | next=>exact False.elim h
   | brk=>exact False.elim h
   | cont=>exact False.elim h
   | ret u=>
    obtain ⟨v,H',os,bare,un,hok',r',q⟩:=h
    have q':v=.bl true:=q
    subst q'
    obtain rfl:u=Value.bool true:=r'
    refine ⟨rfl,OldK.of_keep fun b o e=>?_,os,bare⟩
    cases q:H b with
    | none=>exact un.keep b o e q (by intro z;exact absurd (show b∈([]:List Addr) from z) (by simp)) (by simp)
    | some u=>
     rcases hO b with z | ⟨ob,xs,z⟩
     ·rw [q] at z;cases z
     ·have z2:=un.frzs b ob _ z
      obtain ⟨e1,_⟩:=hok b _ z
      obtain ⟨e2,_⟩:=hok' b _ z2
      rw [e] at e1;cases e1
      exact e2
 cases hk:K.lookup a with
 | some o=>
  have e:=KX a o hk
  rw [ha] at e
  cases e
  refine core (fun _=>none) (fun _=>.inl rfl) (.inr ⟨_,vs.toArray,_,hk,rfl,rfl,rfl,by rw [List.size_toArray,lenV];exact hl,by simpa using rv⟩) (fun b u z=>by have z':(none:Option HO)=some u:=z;cases z') (fun b z=>absurd rfl z) fun z=>absurd rfl z
 | none=>
  refine core (fun b=>if b=a then some (.frz { cls:=.type "list",data:=.seq vs.toArray } (.lst (ns.map V.int))) else none) (fun b=>?_) (.inl (.inr ⟨{ cls:=.type "list",data:=.seq vs.toArray },if_pos rfl⟩)) (fun b u z=>?_) (fun b z=>?_) fun _=>hk
  ·by_cases hb:b=a
   ·exact .inr ⟨_,_,if_pos hb⟩
   ·exact .inl (if_neg hb)
  ·by_cases hb:b=a
   ·have z':=(if_pos hb).symm.trans z
    cases z'
    subst hb
    exact ⟨ha,by rw [List.length_map];exact hl,vs,_,rv,ha⟩
   ·have z':=(if_neg hb).symm.trans z
    cases z'
  ·by_cases hb:b=a
   ·exact hb
   ·exact absurd (if_neg hb) z
theorem xI {l:PySem.W.OpenLaw} {n k:Nat} {q:Program} {loose:List Str} {XP:(Str->Option Value)->Heap->Prop} {YP:World->Heap->Prop} {d:DefRec} {K:Params->W.Frag} {CX:World->Jb} {sp:World->Sp} {x:Str}
  (hn:l.most=some n) (Jk:n<=sizeLine) (LV:d.params.defaults=[]) (hr:Room k callerA)
  (hY:∀ (w:World) (h:Heap),YP w h->(K w.params).In h)
  (F:∀ (w:World) (mg:Str->Option Value) (fa:Addr) (h:Heap),(K w.params).In h->h.Ns mainGlobals mg->mg d.name=some (.ref fa)->
   ∃ fd:FuncData,(∀ (s:Shared) (u:Value),BindsTo s fd ⟨[u],[]⟩ [(x,u)])/\
    ∀ base:Heap,(K w.params).In base->base.Ns mainGlobals mg->FnOk l.prog w (K w.params) mg base (CX w) k fa fd [x] (sp w))
  (KC:∀ (w:World) (H:Hp) (a:Addr) (ns:List Int),ns.length<=n->Co H->SqL (K w.params) H a (ns.map V.int)->sp w [.ref a] H (fun v _=>v=.bl true) fun _ _ _=>False)
  (ND:∀ (w:World) (H:Hp) (s:Shared) (e:Value) (s':Shared),CX w [] H s (fun _ _ _=>False) e s'->False) :
  PySem.W.WalkO q loose XP YP l.row.toRowW d [] (fun f vs=>PySem.call f vs):=by
 refine Att.attach_call hn LV fun w s₀ s₁ mg mb fa o pm cd doc a vs ns G Y ho hd Jh LX KZ hints hlen hg=>?_
 have KX:=hY w _ Y
 obtain ⟨fd,hb,hF⟩:=F w mg fa _ KX G.T.g LX
 exact vp KX G.T.g G.T.b G.T.builtins G.T.nolimit hg KZ hints (Nat.le_trans hlen Jk) hr hF hb (fun H hO hS=>KC w H a ns hlen hO hS) fun H e s'=>ND w H s₁ e s'
noncomputable def fP (s:Stmt):Arguments:=match s with
 | .FunctionDef _ a _ _ _ _ _ _ _ _=>a
 | _=>{ posonlyargs:=[],args:=[],vararg:=none,kwonlyargs:=[],kw_defaults:=[],kwarg:=none,defaults:=[] }
noncomputable def dW (s:Stmt):List Stmt:=match s with
 | .FunctionDef _ _ b _ _ _ _ _ _ _=>b
 | _=>[]
noncomputable def defScope (s:Stmt):Scope:=match s with
 | .FunctionDef _ _ _ _ _ _ sc _ _ _=>sc
 | _=>{ kind:=.function,names:=[],isGenerator:=false,isCoroutine:=false }
abbrev Jl:Jb:=fun _ _ _ _ _ _=>False
abbrev E0:XK:=fun _ _ _=>False
theorem Cp {X:Cx}:sa Jl X E0:=fun _ _ _ _ _ _ _ h=>h.elim
structure Fun (K:W.Frag) (x qual:Str) (st:Stmt) (f:Addr) (fd:FuncData):Prop where
 ex:∃ (oc:Value) (od:Option Addr) (kV doc pm:Value) (an:Option Addr) (EJ ct:Value) (JJ:Array (Option Value)),
  fd=PySem.W.fnOf x qual (fP st) (dW st) (defScope st) .none kV doc pm an EJ ct/\K.lookup f=some ⟨oc,od,.func fd,JJ⟩/\PySem.W.codeIn K EJ qual=true
 kp:PySem.W.keepIn K (.ref f)=true
section
variable {P:Program} {w:World} {K:W.Frag} {mg:Str->Option Value} {base:Heap}
theorem Fun.ok {x qual:Str} {st:Stmt} {f:Addr} {fd:FuncData} {N ps:List Str} {k:Nat} {sp:Sp} (F:Fun K x qual st f fd) (S:FnScope N ps (defScope st)) (len:∀ vs H Q E,sp vs H Q E->vs.length=ps.length)
  (Ji:∀ (EJ:Value) (A:Around) (outer:List Env) (s:Shared) (H:Hp) (vs:List V) (Q:VK) (E:XK),Room k (A.deeper (envOfC qual (defScope st) s.heap.objs.size f EJ))->sp vs H Q E->
   ∃ t,PSs (wu Jl P w K mg base N qual (defScope st) f EJ A outer s H E).nox (dW st) t/\t { nx:=fun _ H'=>Q .non H',rt:=Q } (start N vs) H):FnOk P w K mg base Jl (k + 1) f fd ps sp:=by
 obtain ⟨oc,od,kV,doc,pm,an,EJ,ct,JJ,rfl,lk,Jh⟩:=F.ex
 refine Ci lk Jh S len fun A outer s H vs Q E hr KC=>?_
 obtain ⟨t,h,q⟩:=Ji EJ A outer s H vs Q E hr KC
 exact ⟨t,h.nox,q⟩
theorem Fun.binds {x qual:Str} {st:Stmt} {f:Addr} {fd:FuncData} {ps:List Str} (F:Fun K x qual st f fd)
  (h:∀ (kV doc pm:Value) (an:Option Addr) (EJ ct:Value) (us:List Value),us.length=ps.length->bindArgs (PySem.W.fnOf x qual (fP st) (dW st) (defScope st) .none kV doc pm an EJ ct) ⟨us,[]⟩=pure (ps.zip us)):Binds K fd ps []:=by
 obtain ⟨oc,od,kV,doc,pm,an,EJ,ct,JJ,rfl,lk,Jh⟩:=F.ex
 exact .all (h kV doc pm an EJ ct)
theorem wz {x qual:Str} {st:Stmt} {f:Addr} {oc:Value} {od an:Option Addr} {JJ:Array (Option Value)} {kV doc pm EJ ct:Value} (l:K.lookup f=some ⟨oc,od,.func (PySem.W.fnOf x qual (fP st) (dW st) (defScope st) .none kV doc pm an EJ ct),JJ⟩)
  (c:PySem.W.codeIn K EJ qual=true) (k:PySem.W.keepIn K (.ref f)=true):Fun K x qual st f (PySem.W.fnOf x qual (fP st) (dW st) (defScope st) .none kV doc pm an EJ ct):=⟨⟨oc,od,kV,doc,pm,an,EJ,ct,JJ,rfl,l,c⟩,k⟩
end
theorem hu_of {A:Around} {k:Nat} (hr:Room k A):A.units + 1 < cLine:=Nat.lt_of_le_of_lt (Nat.add_le_add_left (by decide:1<=64) _) hr.units
section
variable {X:Cx}
theorem pv (i:Nat) {x:Str} {pos:Pos} (hN:X.N[i]?=some x:=by rfl) (hv:Nr X.env.scope x:=by first | exact Or.inl rfl | exact Or.inr (Or.inl rfl) | exact Or.inr (Or.inr rfl)) (hd:(x == ("__debug__" : Str))=false:=by decide)
  (Jh:(x == ("__classdict__" : Str))=false:=by decide):PE X (.Name x pos) (uV i):=zx hN hv hd Jh
end
theorem iteF {A B:Prop} (h:B):if false=true then A else B:=by
 rw [if_neg Bool.false_ne_true]
 exact h
theorem BV {A B:Prop} (h:A):if true=true then A else B:=by
 rw [if_pos rfl]
 exact h
def Same (H H':Hp):Prop:=∀ b o,H b=some o->H' b=some o
theorem Same.refl (H:Hp):Same H H:=fun _ _ h=>h
theorem Same.trans {H H1 H2:Hp} (a:Same H H1) (b:Same H1 H2):Same H H2:=fun c o h=>b c o (a c o h)
theorem Same.free {H H':Hp} (e:Same H H') {l:Addr} (h:H' l=Option.none):H l=Option.none:=by
 cases q:H l with
 | none=>rfl
 | some o=>
  rw [e l o q] at h
  cases h
theorem Same.seq {K:W.Frag} {H H':Hp} {a:Addr} {xs:List V} (e:Same H H') (h:SqL K H a xs):SqL K H' a xs:=by
 rcases h with (h | ⟨o,h⟩) | h
 ·exact .inl (.inl (e _ _ h))
 ·exact .inl (.inr ⟨o,e _ _ h⟩)
 ·exact .inr h
end L2
set_option maxHeartbeats 4000000
namespace NX
open PySem PySem.Spec PyProof.Rows L2
section
variable {X:Cx}
theorem vq (v:Int) (n:Nat):max (0:Int) (min (if v < 0 then v + (n:Int) else v) (n:Int))=((HT.sIx n 0 (some v):Nat):Int):=by
 show _=(((if v < 0 then (v + (n:Int)).toNat else min v.toNat n):Nat):Int)
 split <;> lia
theorem Ad (a b:Nat):sliceRange (a:Int) (b:Int) 1=(List.range (b - a)).map (fun k=>a + k):=by
 unfold sliceRange
 rw [if_pos (by decide:(1:Int) > 0)]
 by_cases EY:(a:Int) < b
 ·have e3:(((b:Int) - a + 1 - 1) / 1).toNat=b - a:=by first | lia | (simp;done) | (simp;lia)
  simp only [EY,if_true,e3]
  refine List.map_congr_left fun k _=>?_
  lia
 ·have:b - a=0:=by lia
  simp [EY,this]
theorem DW (lo hi:Option Int) (n:Nat):Builtin.Str.strSliceIndices lo hi 1 n=(List.range (HT.sIx n n hi - HT.sIx n 0 lo)).map (fun k=>HT.sIx n 0 lo + k):=by
 rw [<-Ad]
 unfold Builtin.Str.strSliceIndices
 simp only [show (1:Int) > 0 from by decide,if_true]
 cases lo with
 | none=>
  cases hi with
  | none=>rfl
  | some v=>exact congrArg (fun z=>sliceRange 0 z 1) (vq v n)
 | some u=>
  cases hi with
  | none=>exact congrArg (fun z=>sliceRange z (n:Int) 1) (vq u n)
  | some v=>exact (congrArg (fun z=>sliceRange z _ 1) (vq u n)).trans (congrArg (fun z=>sliceRange _ z 1) (vq v n))
noncomputable def Ae (xs:List Nat) (lo hi:Option Int):List Nat:=(xs.drop (HT.sIx xs.length 0 lo)).take (HT.sIx xs.length xs.length hi - HT.sIx xs.length 0 lo)
theorem wA {α:Type} (l:List α):∀ (n a:Nat),a + n<=l.length->((List.range n).map (fun k=>a + k)).filterMap (l[·]?)=(l.drop a).take n
 | 0,_,_=>by simp
 | n + 1,a,h=>by
  have EY:a + n < l.length:=by lia
  rw [List.range_succ,List.map_append,List.filterMap_append,wA l n a (by lia),List.take_add_one,List.getElem?_drop]
  simp [List.getElem?_eq_getElem EY]
theorem sx (x:Str) (lo hi:Option Int):(Txt.slice x lo hi).cps.toList=Ae x.cps.toList lo hi:=by
 have hl:x.cps.toList.length=x.length:=Array.length_toList
 have ha:=HT.sj x.length 0 (Nat.zero_le _) lo
 have hb:=HT.sj x.length x.length (Nat.le_refl _) hi
 unfold Txt.slice Ae
 rw [DW,hl]
 split
 ·rename_i h
  have h2:HT.sIx x.length x.length hi - HT.sIx x.length 0 lo=x.length:=by simpa using h
  have ez:HT.sIx x.length 0 lo=0\/x.length=0:=by lia
  rcases ez with e | e
  ·rw [h2,e,List.drop_zero,List.take_of_length_le (by lia)]
  ·have:x.cps.toList=[]:=List.eq_nil_of_length_eq_zero (by lia)
   rw [this]
   simp
 ·have hk:∀ (f:List Nat),f.filterMap (x.cps[·]?)=f.filterMap (x.cps.toList[·]?):=fun f=>by
   congr 1
   funext i
   simp
  show (List.filterMap _ _).toArray.toList=_
  rw [List.toList_toArray,hk]
  by_cases hle:HT.sIx x.length 0 lo<=HT.sIx x.length x.length hi
  ·rw [wA _ _ _ (by lia)]
  ·have e0:HT.sIx x.length x.length hi - HT.sIx x.length 0 lo=0:=by lia
   rw [e0]
   rfl
abbrev S (l:List Nat):Str:=⟨l.toArray⟩
theorem mZ (x:Str):S x.cps.toList=x:=by cases x;simp [S]
theorem S_inj {a b:List Nat} (h:S a=S b):a=b:=by
 have:=congrArg (fun z:Str=>z.cps.toList) h
 simpa [S] using this
theorem kP (l:List Nat):(S l).length=l.length:=by simp [S,Str.length]
theorem dB (l:List Nat):(S l).cps.toList=l:=by simp [S]
theorem Cq (a b:List Nat):S a++S b=S (a++b):=by
 rw [<-mZ (S a++S b),PySem.W.KT.app_list,dB,dB]
noncomputable def DX:V->Option Int->Option Int->Hp->VK->Prop:=fun x lo hi H Q=>∃ l,x=.str (S l)/\l.length<=sizeLine/\Q (.str (S (Ae l lo hi))) H
theorem Af:KY X DX:=by
 intro pins s σ H x v vl vu lo hi sl Q I rx hs pl pu h
 obtain ⟨l,rfl,hz,q⟩:=h
 obtain ⟨t,rfl⟩:=rx
 have hz':(S l).length<=sizeLine:=by rw [kP];exact hz
 have e:∀ t' k,EP X pins σ Q (.str (Txt.slice (S l) lo hi) t') { s with toks:=k }:=fun t' k=>by
  refine ⟨.str (S (Ae l lo hi)),H,I.tok _,⟨t',?_⟩,q⟩
  have e1:=sx (S l) lo hi
  rw [dB] at e1
  rw [<-e1,mZ]
 refine ⟨"str",_,PySem.F.slot_str_getitem.lookup,typeIs_str _ _ _,?_⟩
 have key:∀ (K0 M6:Option (Int×Tok)),partValue K0=vl->partValue M6=vu->K0.map (·.1)=lo->M6.map (·.1)=hi->
   wpAny (model X.prog X.w) X.A (getItem (.str (S l) t) (.ref sl)) (EP X pins σ Q) X.xe s:=by
  rintro K0 M6 rfl rfl rfl rfl
  exact wpAny_getItem_str_slice (l:=K0) (u:=M6) (st:=none) hs rfl (post_val_or_str ⟨Nat.le_trans (Txt.slice_le (S l) _ _) hz',fun t' k=>e t' k⟩)
 cases pl with
 | none=>
  cases pu with
  | none=>exact key none none rfl rfl rfl rfl
  | int j uj=>exact key none (some (j,uj)) rfl rfl rfl rfl
 | int i ui=>
  cases pu with
  | none=>exact key (some (i,ui)) none rfl rfl rfl rfl
  | int j uj=>exact key (some (i,ui)) (some (j,uj)) rfl rfl rfl rfl
theorem getD_of {xs:List V} {j:Nat} {x:V} (h:xs[j]?=some x):xs.getD j .non=x:=by rw [List.getD_eq_getElem?_getD,h];rfl
end
def Def (K:W.Frag) (mg:Str->Option Value) (x:Str) (st:Stmt):Prop:=∃ f fd,Fun K x x st f fd/\mg x=some (.ref f)
def Ct (P:Program) (w:World) (K:W.Frag) (mg:Str->Option Value) (base:Heap) (x:Str) (k:Nat) (sp:Sp):Prop:=
 ∃ f fd ps,FnOk P w K mg base Jl k f fd ps sp/\mg x=some (.ref f)/\PySem.W.keepIn K (.ref f)=true/\Binds K fd ps []
section
variable {X:Cx} {e:Expr} {es:List Expr} {t:TA} {x:Str} {p pos:Pos} {k:Nat} {sp:Sp}
theorem Cr (C:Ct X.prog X.w X.K X.mg X.base x k sp) (hr:Room k X.A) (hg:Gl X x) (ha:PA X (e :: es) t) (Ha:(x == ("__debug__" : Str))=false:=by decide)
  (he:starEach (e :: es) X.env=(false,eval e X.env) :: starEach es X.env:=by rfl) (Gm:(backTo pos (starEach es X.env)).any (·.1)=false:=by rfl) :
  PE X (.Call (.Name x p) (e :: es) [] pos) (tCall sp [] E0 t):=by
 obtain ⟨f,fd,ps,G,m,kp,b⟩:=C
 exact xx G hr hg m kp b .nil Cp ha Ha he Gm
end
theorem bt_len:bootBuiltins "len" = some (.builtin "len"):=by decide +kernel
theorem lG:bootBuiltins "isinstance" = some (.builtin "isinstance"):=by decide +kernel
theorem oT:bootBuiltins "list" = some (.type "list"):=by decide +kernel
theorem Ag:bootBuiltins "int" = some (.type "int"):=by decide +kernel
theorem bQ:bootBuiltins "tuple" = some (.type "tuple"):=by decide +kernel
theorem line_eq:sizeLine=16777216:=sizeLine_eq
theorem flat_strs (a:List (List Nat)):(a.map fun l=>V.str (S l)).all vn=true:=by
 rw [List.all_eq_true]
 intro v hv
 obtain ⟨l,_,rfl⟩:=List.mem_map.mp hv
 rfl
section
variable {X:Cx} {e:Expr} {st:Stmt}
end
noncomputable def clOf (scope:Scope) (env:Env):List (Str×Addr):=scope.names.foldl (fun cs y=>if y.2 == NameKind.free then (y.1,(env.cells.lookup y.1).getD 0) :: cs else cs) []
noncomputable def ie (scope:Scope) (env:Env):Bool:=scope.names.all fun y=>y.2 != NameKind.free || env.kindOf y.1 == some .cell || env.kindOf y.1 == some .free
theorem gC (env:Env):∀ (l:List (Str×NameKind)) (cs:List (Str×Addr)),(∀ y∈l,y.2=.free->∃ c,env.cells.lookup y.1=some c)->
  (forIn l cs fun (y:Str×NameKind) (r:List (Str×Addr))=>(do
   if y.2 == NameKind.free then
    let a <-cellOf env y.1
    pure (ForInStep.yield ((y.1,a) :: r))
   else pure (ForInStep.yield r):Sem (ForInStep (List (Str×Addr)))))=pure (l.foldl (fun cs y=>if y.2 == NameKind.free then (y.1,(env.cells.lookup y.1).getD 0) :: cs else cs) cs)
 | [],cs,_=>by simp
 | y :: l,cs,h=>by
  rw [List.forIn_cons,List.foldl_cons]
  by_cases k:y.2=.free
  ·obtain ⟨c,e⟩:=h y List.mem_cons_self k
   have e2:cellOf env y.1=pure c:=by unfold cellOf;rw [e]
   simp only [k,beq_self_eq_true,if_true,e2,e,Option.getD_some,pure_bind]
   exact gC env l _ fun z hz=>h z (List.mem_cons_of_mem _ hz)
  ·have kb:(y.2 == NameKind.free)=false:=by simpa using k
   simp only [kb,Bool.false_eq_true,if_false,pure_bind]
   exact gC env l _ fun z hz=>h z (List.mem_cons_of_mem _ hz)
theorem gO (env:Env) (x:Str) (c:Addr):∀ (l:List (Str×NameKind)) (cs:List (Str×Addr)),(∀ y∈l,y.2=.free->∃ c,env.cells.lookup y.1=some c)->(cs.lookup x=some c->env.cells.lookup x=some c)->
  (l.foldl (fun cs y=>if y.2 == NameKind.free then (y.1,(env.cells.lookup y.1).getD 0) :: cs else cs) cs).lookup x=some c->env.cells.lookup x=some c
 | [],_,_,h,e=>h e
 | y :: l,cs,hf,h,e=>by
  rw [List.foldl_cons] at e
  refine gO env x c l _ (fun z hz=>hf z (List.mem_cons_of_mem _ hz)) (fun q=>?_) e
  split at q
  ·rename_i k
   have k:y.2=.free:=by simpa using k
   obtain ⟨d,ed⟩:=hf y List.mem_cons_self k
   rw [List.lookup_cons] at q
   cases hx:x == y.1 with
   | true=>
    rw [hx] at q
    have exy:x=y.1:=by simpa using hx
    rw [ed,Option.getD_some] at q
    rw [exy,ed]
    exact q
   | false=>
    rw [hx] at q
    exact h q
  ·exact h q
theorem jO (env:Env) (x:Str):∀ (l:List (Str×NameKind)) (cs:List (Str×Addr)),((∃ d,cs.lookup x=some d)\/(x,NameKind.free)∈l)->
  ∃ d,(l.foldl (fun cs y=>if y.2 == NameKind.free then (y.1,(env.cells.lookup y.1).getD 0) :: cs else cs) cs).lookup x=some d
 | [],_,h=>by
  rcases h with h | h
  ·exact h
  ·cases h
 | y :: l,cs,h=>by
  rw [List.foldl_cons]
  refine jO env x l _ ?_
  rcases h with ⟨d,h⟩ | h
  ·refine .inl ?_
   split
   ·rw [List.lookup_cons]
    cases hx:x == y.1 with
    | true=>exact ⟨_,rfl⟩
    | false=>exact ⟨d,h⟩
   ·exact ⟨d,h⟩
  ·rcases List.mem_cons.mp h with h | h
   ·refine .inl ?_
    rw [<-h]
    refine ⟨(env.cells.lookup x).getD 0,?_⟩
    show List.lookup x ((x,_) :: cs)=_
    rw [List.lookup_cons,beq_self_eq_true]
   ·exact .inr h
noncomputable def b0 (X:Cx) (scope:Scope) (N:List Str) (C:Addr) (s:Shared) (H:Hp) (fp:List Addr) (pn:List (Addr×Obj)):Cx:=
 { X with N:=N,s₀:=s,H₀:=H,env:=compEnvC scope (clOf scope X.env) C X.env,outer:=X.stack,ex:=fp,fn:=fun _=>false,pn:=pn,xe:=fun _ _=>False }
noncomputable def k9 (ix:List (Option Nat)) (σ:L2.St):L2.St:=ix.map fun i=>i.bind fun i=>(σ[i]?).bind id
noncomputable def xJ (wi:TI) (ix:List (Option Nat)) (g:TG) (tc:TT) (te:TE):TE:=fun σ H Q=>wi σ H fun J H1=>∀ D,H1 D=none->∃ W:Nat->Nat->L2.St->Hp->Prop,(∃ m,W 0 m (k9 ix σ) (upd H1 D (.lst [])))/\
 ∀ i m σ1 H2,W i m σ1 H2->(J.stop i H2/\Q (.ref D) H2)\/(J.go i H2/\∀ x H3,J.yld i H2 x H3->g x σ1 H3 fun σ2 H4=>tc σ2 H4 fun b H5=>if b=true then te σ2 H5 fun v H6=>
  ∃ ys,H6 D=some (.lst ys)/\ys.length < sizeLine/\∃ m',m' < m/\W (i + 1) m' σ2 (upd H6 D (.lst (ys++[v]))) else ∃ m',m' < m/\W (i + 1) m' σ2 H5)
abbrev JT:Value->Shared->Prop:=fun _ _=>False
theorem LD {α:Type} {M:Model} {A:Around} {t:Sem α} {Q Q':α->Shared->Prop} {E:Value->Shared->Prop} {s:Shared} (h:wpAny M A t Q JT s) (k:∀ a s,Q a s->Q' a s):wpAny M A t Q' E s:=wpAny_mono h k fun _ _ z=>z.elim
theorem sy {prog:Program} {w:World} {A:Around} {R:Result->Shared->Prop} {s:Shared} {elt target iter:Expr} {ifs:List Expr} {scope:Scope} {pos:Pos} {it acc:Value} {env:Env} (I:Nat->Shared->Prop)
  (turn:∀ n s,I n s->wpAny (model prog w) A (pyNext it) (fun r s₁=>match r with
   | none=>R (.ok .next) s₁
   | some v=>wpAny (model prog w) A (letOwnedTupleGo target it v) (fun _ s₂=>wpAny (model prog w) A (assign target env v) (fun _ s₃=>
     wpAny (model prog w) A (forIn ifs true fun c r=>if r=true then do let ok <-isTrue c env (eval c env);pure (ForInStep.yield ok) else pure (ForInStep.yield r)) (fun ok s₄=>
      if ok=true then wpAny (model prog w) A (eval elt env) (fun x s₅=>
       wpAny (model prog w) A (call (.builtin "list.append") [acc,x]) (fun _ s₆=>∃ m,m < n/\I m s₆) JT s₅) JT s₄
      else ∃ m,m < n/\I m s₄) JT s₃) JT s₂) JT s₁) JT s)
  (n:Nat) (h:I n s):codeAny (model prog w) A (.compLoop (.ListComp elt [⟨target,iter,ifs,0⟩] scope pos) 0 it acc env) R s:=by
 refine codeAny_loop rfl I (fun n s hI=>?_) n h
 show wpAny _ A ((compTurn (.ListComp elt [⟨target,iter,ifs,0⟩] scope pos) 0 it acc env).onRaise (fun x=>do noteFrame x env;theTreesLotGoes x)) _ _ s
 refine wpAny_noted ?_
 rw [compTurn_list]
 refine wpAny_bind (wpAny_standAt (wpAny_bind (LD (turn n s hI) fun r s₁ h₁=>?_)))
 cases r with
 | none=>exact wpAny_pure h₁
 | some v=>
  refine wpAny_bind (LD h₁ fun _ s₂ h₂=>wpAny_bind (LD h₂ fun _ s₃ h₃=>wpAny_bind (LD h₃ fun ok s₄ h₄=>?_)))
  cases ok with
  | false=>exact wpAny_pure ⟨rfl,h₄⟩
  | true=>exact wpAny_bind (wpAny_bind (LD h₄ fun x s₅ h₅=>wpAny_bind (LD h₅ fun _ s₆ h₆=>wpAny_pure (wpAny_pure ⟨rfl,h₆⟩))))
def LF (X:Cx) (ifs:List Expr) (t:TT):Prop:=
 ∀ (pins:List (Addr×Obj)) (s:Shared) (σ:L2.St) (H:Hp) (Q:Bool->Hp->Prop),Inv X pins σ H s->t σ H Q->
  wpAny (model X.prog X.w) X.A (forIn ifs true fun c r=>if r=true then do let ok <-isTrue c X.env (eval c X.env);pure (ForInStep.yield ok) else pure (ForInStep.yield r)) (TP X pins σ Q) X.xe s
noncomputable def DY:TT:=fun _ H Q=>Q true H
theorem xK {X:Cx}:LF X [] DY:=fun _ _ _ H _ I h=>wpAny_tests_nil ⟨H,I,h⟩
theorem xM {X:Cx} {c:Expr} {t:TT} (h:PT X c t):LF X [c] t:=fun pins s σ H Q I k=>wpAny_tests_one (h pins s σ H Q I k)
noncomputable def wB (X:Cx) (scope:Scope) (N:List Str) (ix:List (Option Nat)):Bool:=
 N.length == ix.length && (N.zip ix).all fun y=>match y.2 with
  | none=>true
  | some j=>X.N[j]? == some y.1 && scope.names.lookup y.1 == some .free
theorem m5 {scope:Scope} {env:Env} {x:Str} (h:scope.names.lookup x=some .free):(relabel scope env).names.lookup x=some .cell\/(relabel scope env).names.lookup x=some .free:=by
 unfold relabel
 dsimp only
 generalize scope.names=l at h
 induction l with
 | nil=>cases h
 | cons y l ih=>
  obtain ⟨n,k⟩:=y
  rw [List.lookup_cons] at h
  rw [List.map_cons]
  cases hx:x == n with
  | true=>
   rw [hx] at h
   have hk:k=.free:=Option.some.inj h
   subst hk
   dsimp only
   split
   ·exact .inl (by rw [List.lookup_cons,hx])
   ·exact .inr (by rw [List.lookup_cons,hx])
  | false=>
   rw [hx] at h
   dsimp only
   split
   ·rw [List.lookup_cons,hx];exact ih h
   ·rw [List.lookup_cons,hx];exact ih h
theorem m6 {scope:Scope} {env:Env} {x:Str} (hc:∀ y∈scope.names,y.2≠.cell) (h:(relabel scope env).names.lookup x=some .cell\/(relabel scope env).names.lookup x=some .free):(x,NameKind.free)∈scope.names:=by
 unfold relabel at h
 dsimp only at h
 generalize scope.names=l at h hc
 induction l with
 | nil=>rcases h with h | h <;> cases h
 | cons y l ih=>
  obtain ⟨n,k⟩:=y
  rw [List.map_cons] at h
  dsimp only at h
  have nk:k≠.cell:=hc (n,k) List.mem_cons_self
  have Ow:=ih (hc:=fun z hz=>hc z (List.mem_cons_of_mem _ hz))
  by_cases cnd:(k == NameKind.free && env.scope.kind == .function && env.kindOf n == some .cell)=true
  ·rw [if_pos cnd,List.lookup_cons] at h
   have kf:k=.free:=by
    have:(k == NameKind.free)=true:=by
     simp only [Bool.and_eq_true] at cnd
     exact cnd.1.1
    simpa using this
   cases hx:x == n with
   | true=>
    have:x=n:=by simpa using hx
    rw [this,kf]
    exact List.mem_cons_self
   | false=>
    rw [hx] at h
    exact List.mem_cons_of_mem _ (Ow h)
  ·rw [if_neg cnd,List.lookup_cons] at h
   cases hx:x == n with
   | true=>
    rw [hx] at h
    have:x=n:=by simpa using hx
    rcases h with h | h
    ·exact absurd (Option.some.inj h) nk
    ·rw [this,<-Option.some.inj h]
     exact List.mem_cons_self
   | false=>
    rw [hx] at h
    exact List.mem_cons_of_mem _ (Ow h)
section
variable {X:Cx} {pins:List (Addr×Obj)} {σ:L2.St} {H:Hp} {s:Shared} {scope:Scope} {N:List Str} {ix:List (Option Nat)} {fp:List Addr}
theorem lH (ok:X.Ok) (hf:ie scope X.env=true):∀ y∈scope.names,y.2=.free->∃ c,X.env.cells.lookup y.1=some c:=fun y hy k=>by
 have:=List.all_eq_true.mp hf y hy
 rw [k] at this
 simp only [bne_self_eq_false,Bool.false_or,Bool.or_eq_true,beq_iff_eq] at this
 exact ok.has y.1 this
theorem jP (ok:X.Ok) (hf:ie scope X.env=true) {x:Str} {c:Addr} (h:(clOf scope X.env).lookup x=some c):X.env.cells.lookup x=some c:=
 gO X.env x c scope.names [] (lH ok hf) (fun z=>nomatch z) h
theorem sH (ok:X.Ok) (hf:ie scope X.env=true) {x:Str} (h:(x,NameKind.free)∈scope.names):∃ c,(clOf scope X.env).lookup x=some c/\X.env.cells.lookup x=some c:=by
 obtain ⟨c,e⟩:=jO X.env x scope.names [] (.inr h)
 exact ⟨c,e,jP ok hf e⟩
theorem _root_.L2.Inv.block (I:Inv X pins σ H s) (hf:ie scope X.env=true) (hk:scope.kind=.function) (E5:∀ y∈scope.names,y.2≠.cell) (Ga:wB X scope N ix=true) (fo:∀ b∈fp,rN X pins H b) (fin:∀ b∈fp,∃ o,s.heap.get? b=some o)
  {h1:Heap} {t1:Nat} {D C:Addr} (hD:D=s.heap.objs.size) (hC:C=s.heap.objs.size + 1) (old:∀ b o,s.heap.get? b=some o->h1.get? b=some o) {n:Nat} (acc:h1.get? D=some { cls:=.type "list",data:=.seq #[] n })
  {m:Str->Option Value} (ns:h1.Ns C m):Inv (b0 X scope N C s H fp (X.pn++pins)) [] (k9 ix σ) (upd H D (.lst [])) { s with heap:=h1,toks:=t1 }:=by
 have Ie:s.heap.objs.size<=C:=by rw [hC];exact Nat.le_succ _
 have freshD:s.heap.objs.size<=D:=by rw [hD];exact Nat.le_refl _
 have nD:H D=none:=I.hok.fresh freshD
 have DC:D≠C:=by rw [hD,hC];exact Nat.ne_of_lt (Nat.lt_succ_self _)
 have K1:∀ b,H b=none->b≠D->upd H D (.lst []) b=none:=fun b n z=>by rw [aP z];exact n
 have LG:∀ b o,s.heap.get? b=some o->b≠D:=fun b o e=>Nat.ne_of_lt (Nat.lt_of_lt_of_le (Heap.lt_size e) freshD)
 have JU:∀ b o,s.heap.get? b=some o->b≠C:=fun b o e=>Nat.ne_of_lt (Nat.lt_of_lt_of_le (Heap.lt_size e) Ie)
 have cellAt:∀ x c,(clOf scope X.env).lookup x=some c->∃ v o,s.heap.get? c=some o/\o.data=.cell v:=fun x c e=>by
  obtain ⟨v,o,ho,hd⟩:=I.cell x c (jP I.ok hf e)
  exact ⟨v,o,ho,hd⟩
 have okY:(b0 X scope N C s H fp (X.pn++pins)).Ok:=by
  refine ⟨I.ok.mod,hk,I.ok.glob,I.ok.blt,Ie,fun x y c e1 e2=>?_,fun x hx=>?_,fun x c z _=>?_,I.ok.hd,I.ok.frames,.inl rfl,fun b hb=>?_,I.bs,?_,fun b o e hb=>?_,fun b hb hs=>?_,I.stack,I.stkFree⟩
  ·exact I.ok.inj x y c (jP I.ok hf e1) (jP I.ok hf e2)
  ·obtain ⟨c,e,_⟩:=sH I.ok hf (m6 E5 hx)
   exact ⟨c,e⟩
  ·exact absurd (show false=true from z) Bool.false_ne_true
  ·obtain ⟨f0,f1,f2,f3,f4,f5⟩:=fo b hb
   refine ⟨?_,fun x c e=>f4 x c (jP I.ok hf e)⟩
   intro z
   have z:b=C:=z
   obtain ⟨o,ho⟩:=fin b hb
   exact JU b o ho z
  ·exact Nat.le_trans I.ok.bsz I.sz
  ·obtain ⟨f0,f1,f2,f3,f4,f5⟩:=fo b hb
   rcases f3 with q | q
   ·exact I.ok.noex b o e q
   ·exact absurd (Nat.lt_of_lt_of_le (Heap.lt_size e) (Nat.le_trans I.ok.bsz q)) (Nat.lt_irrefl _)
  ·obtain ⟨f0,f1,f2,_⟩:=fo b hb
   exact (List.mem_cons.mp (I.stkSub b hs)).elim f1 f2
 refine ⟨okY,rfl,I.bare,Un.laid old freshD nD,⟨m,ns,fun i x v e1 e2 e3=>?_⟩,fun x c e=>?_,?_,fun x c e=>?_,fun p hp=>?_,I.hok.laid old freshD ⟨Nat.zero_le _,[],n,.nil,acc⟩,?_⟩
 ·
  have e2:(ix.map fun i=>i.bind fun i=>(σ[i]?).bind id)[i]?=some (some v):=e2
  have e1:N[i]?=some x:=e1
  unfold wB at Ga
  rw [Bool.and_eq_true] at Ga
  rw [List.getElem?_map] at e2
  cases q:ix[i]? with
  | none=>rw [q] at e2;cases e2
  | some o=>
   rw [q] at e2
   have e2:(o.bind fun i=>(σ[i]?).bind id)=some v:=Option.some.inj e2
   cases o with
   | none=>cases e2
   | some j=>
    have e2:(σ[j]?).bind id=some v:=e2
    have hσ:σ[j]?=some (some v):=by
     cases w':σ[j]? with
     | none=>rw [w'] at e2;cases e2
     | some y=>rw [w'] at e2;exact congrArg some e2
    have hz:(N.zip ix)[i]?=some (x,some j):=by
     rw [List.getElem?_zip_eq_some]
     exact ⟨e1,q⟩
    have hy:=List.all_eq_true.mp Ga.2 _ (List.mem_of_getElem? hz)
    simp only [Bool.and_eq_true,beq_iff_eq] at hy
    have Ox:(x,NameKind.free)∈scope.names:=PySem.mem_of_lookup hy.2
    obtain ⟨c,c1,c2⟩:=sH I.ok hf Ox
    have L0:X.env.kindOf x=some .cell\/X.env.kindOf x=some .free:=by
     have:=List.all_eq_true.mp hf _ Ox
     simpa using this
    obtain ⟨mo,Ot,Ou⟩:=I.loc
    obtain ⟨u,r,l⟩:=Ou j x v hy.1 hσ (.inr L0)
    refine ⟨u,r,.inr ⟨m5 hy.2,c,c1,?_⟩⟩
    rcases l with ⟨k1,_⟩ | ⟨_,c',e',JP⟩
    ·rcases L0 with k2 | k2 <;> (rw [k1] at k2;cases k2)
    ·rw [c2] at e'
     cases e'
     obtain ⟨o,ho,hd⟩:=JP
     exact ⟨o,old c o ho,hd⟩
 ·obtain ⟨v,o,ho,hd⟩:=cellAt x c e
  exact ⟨v,o,old c o ho,hd⟩
 ·exact K1 C (I.hok.fresh Ie) (Ne.symm DC)
 ·obtain ⟨v,o,ho,hd⟩:=cellAt x c e
  exact K1 c (I.freeC x c (jP I.ok hf e)) (LG c o ho)
 ·have hp:p∈X.pn++pins:=by
   have:p∈(X.pn++pins)++[]:=hp
   rwa [List.append_nil] at this
  obtain ⟨e,nn,ne,nf,d⟩:=I.pin p hp
  refine ⟨old _ _ e,K1 _ nn (LG _ _ e),JU _ _ e,fun z=>?_,d⟩
  exact (List.mem_cons.mp (I.stkSub p.1 z)).elim ne nf
 ·unfold wB at Ga
  rw [Bool.and_eq_true] at Ga
  have:N.length=ix.length:=by simpa using Ga.1
  show (ix.map _).length=N.length
  rw [List.length_map,this]
theorem _root_.L2.Inv.unblock {C:Addr} {σ1:L2.St} {H1:Hp} {s1:Shared} {h2:Heap} (I:Inv X pins σ H s) (fo:∀ b∈fp,rN X pins H b) (hC:s.heap.objs.size<=C) (J:Inv (b0 X scope N C s H fp (X.pn++pins)) [] σ1 H1 s1) (hs:Heap.SameBut C s1.heap h2) :
  Inv X pins σ H1 { s1 with heap:=h2 }:=by
 have JU:∀ b o,s.heap.get? b=some o->b≠C:=fun b o e=>Nat.ne_of_lt (Nat.lt_of_lt_of_le (Heap.lt_size e) hC)
 have bb:Un (I0 X.stack) fp H H1 s.heap s1.heap:=J.base
 have jf:H1 C=none:=J.free
 refine I.call' (s':={ s1 with heap:=h2 }) (ch:=fp) J.os ⟨fun b o e n hb hx=>?_,fun b o e n hb hx=>?_,bb.free,fun b o e hx=>?_,bb.tups,bb.frzs,bb.tbls⟩ (fun b ob e=>?_) J.bare fun b hb=>?_
 ·exact (hs.2 b (JU b o e)).trans (bb.keep b o e n hb hx)
 ·obtain ⟨sl,q⟩:=bb.slot b o e n hb hx
  exact ⟨sl,(hs.2 b (JU b o e)).trans q⟩
 ·obtain ⟨o',q⟩:=bb.there b o e hx
  exact ⟨o',(hs.2 b (JU b o e)).trans q⟩
 ·refine (J.hok b ob e).stay (fun c w' hc q=>(hs.2 c ?_).trans q) (fun _ q=>q) fun _ _ q=>q
  rintro rfl
  rcases hc with rfl | hc
  ·rw [jf] at e;cases e
  ·rw [jf] at hc;cases hc
 ·obtain ⟨f0,f1,f2,f3,f4,f5⟩:=fo b hb
  exact ⟨f3,f1,f4,f5⟩
end
section
variable {X:Cx} {scope:Scope} {N:List Str} {ix:List (Option Nat)} {tg iter elt:Expr} {ifs:List Expr} {pos:Pos} {wi:TI} {g:TG} {tc:TT} {te:TE}
theorem lb {pins:List (Addr×Obj)} {σ:L2.St} {H2:Hp} {s2:Shared} {J:It} {fp:List Addr} {it:Addr} {tn:Nat->Heap->Prop} {Q:VK} {RR:Value->Addr->Result->Shared->Prop} {E:Value->Shared->Prop}
  (hc:X.calm=true) (I2:Inv X pins σ H2 s2) (T:Turn X.prog X.w X.K tg J fp it tn) (Ew:tn 0 s2.heap) (f2:∀ b∈fp,rN X pins H2 b)
  (hg:∀ C s H fp pn,PG (b0 X scope N C s H fp pn) tg g) (ht:∀ C s H fp pn,LF (b0 X scope N C s H fp pn) ifs tc) (he:∀ C s H fp pn,PE (b0 X scope N C s H fp pn) elt te)
  (hf:ie scope X.env=true) (hk:scope.kind=.function) (E5:∀ y∈scope.names,y.2≠.cell) (Ga:wB X scope N ix=true)
  (q:∀ D,H2 D=none->∃ W:Nat->Nat->L2.St->Hp->Prop,(∃ m,W 0 m (k9 ix σ) (upd H2 D (.lst [])))/\
   ∀ i m σ1 H3,W i m σ1 H3->(J.stop i H3/\Q (.ref D) H3)\/(J.go i H3/\∀ x H4,J.yld i H3 x H4->g x σ1 H4 fun σ2 H5=>tc σ2 H5 fun b H6=>if b=true then te σ2 H6 fun v H7=>
    ∃ ys,H7 D=some (.lst ys)/\ys.length < sizeLine/\∃ m',m' < m/\W (i + 1) m' σ2 (upd H7 D (.lst (ys++[v]))) else ∃ m',m' < m/\W (i + 1) m' σ2 H6))
  (hRR:∀ (D C:Addr) (σ1:L2.St) (H1:Hp) (s1:Shared),s2.heap.objs.size<=C->Inv (b0 X scope N C s2 H2 fp (X.pn++pins)) [] σ1 H1 s1->Q (.ref D) H1->RR (.ref D) C (.ok .next) s1) :
  wpAny (model X.prog X.w) X.A (newList []) (fun acc s₃=>wpAny (model X.prog X.w) X.A (newFunctionEnv scope X.env.globals (clOf scope X.env) [] X.env.qual none .none (some X.env)) (fun L1 s₄=>
   codeAny (model X.prog X.w) X.A (.compStart (.ListComp elt [⟨tg,iter,ifs,0⟩] scope pos) 0 (.ref it) acc { L1 with scope:=relabel scope X.env }) (RR acc L1.locals) s₄) E s₃) E s2:=by
 refine wpAny_newObj_type (wpAny_newFunctionEnv E5 (by intro y hy;simp at hy) (fun h₁ hns₁ hsb₁=>?_) hk)
 dsimp only at hns₁ hsb₁ ⊢
 generalize hH2:s2.heap.push { cls:=.type "list",dict:=none,data:=.seq ([]:List Value).toArray }=HH at hns₁ hsb₁ ⊢
 have hC:HH.objs.size=s2.heap.objs.size + 1:=by rw [<-hH2,Heap.size_push]
 have hDC:s2.heap.objs.size≠HH.objs.size:=by rw [hC];exact Nat.ne_of_lt (Nat.lt_succ_self _)
 have L3:s2.heap.objs.size<=HH.objs.size:=by rw [hC];exact Nat.le_succ _
 have JU:∀ b o,s2.heap.get? b=some o->b≠HH.objs.size:=fun b o e=>Nat.ne_of_lt (Nat.lt_of_lt_of_le (Heap.lt_size e) L3)
 have old:∀ b o,s2.heap.get? b=some o->h₁.get? b=some o:=fun b o e=>hsb₁.extBut b o (JU b o e) (Heap.get?_push_of_some _ (hH2▸Heap.get?_push_of_some _ e))
 have JV:h₁.get? s2.heap.objs.size=some { cls:=.type "list",data:=.seq #[] 0 }:=hsb₁.extBut _ _ hDC (Heap.get?_push_of_some _ (hH2▸Heap.get?_push_size _ rfl))
 obtain ⟨W,⟨m0,w0⟩,turn⟩:=q s2.heap.objs.size (I2.hok.fresh (Nat.le_refl _))
 have fin:∀ b∈fp,∃ o,s2.heap.get? b=some o:=fun b hb=>let ⟨o,e,_⟩:=T.obj 0 _ Ew b hb;⟨o,e⟩
 have Ib:∀ {H':Hp},(∀ b∈fp,H' b=none)->∀ b∈fp,rN (b0 X scope N HH.objs.size s2 H2 fp (X.pn++pins)) [] H' b:=fun {H'} hn b hb=>by
  obtain ⟨f0,f1,ff,f3,f4,f5⟩:=f2 b hb
  refine ⟨hn b hb,?_,fun z=>?_,.inl hb,fun x c e=>f4 x c (jP I2.ok hf e),fun p hp=>?_⟩
  ·intro z
   have z:b=HH.objs.size:=z
   obtain ⟨o,ho⟩:=fin b hb
   exact JU b o ho z
  ·exact (List.mem_cons.mp (I2.stkSub b z)).elim f1 ff
  ·have hp:p∈X.pn++pins:=by
    have:p∈(X.pn++pins)++[]:=hp
    rwa [List.append_nil] at this
   exact f5 p hp
 have loop:∀ s₃:Shared,s₃={ s2 with heap:=h₁,toks:=s2.toks + ([]:List (Str×Value)).length }->
   codeAny (model X.prog X.w) X.A (.compLoop (.ListComp elt [⟨tg,iter,ifs,0⟩] scope pos) 0 (.ref it) (.ref s2.heap.objs.size) (compEnvC scope (clOf scope X.env) HH.objs.size X.env)) (RR (.ref s2.heap.objs.size) HH.objs.size) s₃:=by
  rintro s₃ rfl
  refine sy (fun n s'=>∃ i σ' H',Inv (b0 X scope N HH.objs.size s2 H2 fp (X.pn++pins)) [] σ' H' s'/\tn i s'.heap/\(∀ b∈fp,H' b=none)/\W i n σ' H') ?_ m0
   ⟨0,_,_,I2.block hf hk E5 Ga f2 fin rfl hC old JV hns₁,T.keep 0 _ _ Ew fun b _ o e=>old b o e,fun b hb=>?_,w0⟩
  ·rintro n s3 ⟨i,σ3,H3,I3,EX,LP,w3⟩
   rcases turn i n σ3 H3 w3 with ⟨stop,qn⟩ | ⟨go,step⟩
   ·refine ED (T.done (b0 X scope N HH.objs.size s2 H2 fp (X.pn++pins)) rfl rfl rfl hc i [] s3 σ3 H3 JT I3 (Ib LP) EX stop) fun r s4 EE=>?_
    obtain ⟨hr,I4⟩:=EE
    subst hr
    exact hRR _ _ σ3 H3 s4 L3 I4 qn
   ·refine ED (T.item (b0 X scope N HH.objs.size s2 H2 fp (X.pn++pins)) rfl rfl rfl hc i [] s3 σ3 H3 JT I3 (Ib LP) EX go) fun r s4 EE=>?_
    obtain ⟨u,hr,h4⟩:=EE
    subst hr
    refine ED h4 fun _ s5 EE=>?_
    obtain ⟨x,H5,I5,r5,y5,GJ,Nw⟩:=EE
    have Nx:=I5.pinned (Ib Nw) (T.obj _ _ GJ)
    refine ED (hg _ _ _ _ _ _ s5 σ3 H5 x u _ Nx r5 (step x H5 y5)) fun _ s6 EE=>?_
    obtain ⟨σ6,H6,I6,q6⟩:=EE
    refine ED (ht _ _ _ _ _ _ s6 σ6 H6 _ I6 q6) fun ok s7 EE=>?_
    obtain ⟨H7,I7,q7⟩:=EE
    have again:∀ {H8:Hp} {s8:Shared},Inv (b0 X scope N HH.objs.size s2 H2 fp (X.pn++pins)) ([]++mO fp s5.heap) σ6 H8 s8->(∃ m',m' < n/\W (i + 1) m' σ6 H8)->
      ∃ m,m < n/\∃ i σ' H',Inv (b0 X scope N HH.objs.size s2 H2 fp (X.pn++pins)) [] σ' H' s8/\tn i s8.heap/\(∀ b∈fp,H' b=none)/\W i m σ' H':=fun {H8 s8} I8 ⟨m',hm,w8⟩=>by
     refine ⟨m',hm,i + 1,σ6,H8,I8.unpinned,T.keep _ _ _ GJ fun b hb o e=>(I8.pin (b,o) (List.mem_append_right _ (List.mem_append_right _ (gB hb e)))).1,fun b hb=>?_,w8⟩
     obtain ⟨o,e,d⟩:=T.obj _ _ GJ b hb
     exact (I8.pin (b,o) (List.mem_append_right _ (List.mem_append_right _ (gB hb e)))).2.1
    cases ok with
    | false=>exact again I7 q7
    | true=>
     show wpAny _ _ _ _ _ _
     refine ED (he _ _ _ _ _ _ s7 σ6 H7 _ I7 q7) fun x8 s8 EE=>?_
     obtain ⟨v8,H8,I8,r8,ys,NF,EY,q8⟩:=EE
     refine ED (mX _ s8 σ6 H8 (.ref s2.heap.objs.size) [v8] (.ref s2.heap.objs.size) [x8] (fun _ H9=>∃ m',m' < n/\W (i + 1) m' σ6 H9) I8 rfl (.cons r8 .nil) ⟨_,ys,v8,rfl,rfl,NF,EY,q8⟩) fun _ s9 EE=>?_
     obtain ⟨_,H9,I9,_,q9⟩:=EE
     exact again I9 q9
  ·rw [aP (fun z=>by
    obtain ⟨o,ho⟩:=fin b hb
    exact absurd z (Nat.ne_of_lt (Heap.lt_size ho)))]
   exact (f2 b hb).1
 exact codeAny_compStart_list (loop _ rfl) (T.self _ 0 _ _ _ (T.keep 0 _ _ Ew fun b _ o e=>old b o e) (loop _ rfl))
theorem xN (ix:List (Option Nat)) (N:List Str) (hc:X.calm=true) (hi:PI X tg iter wi) (hg:∀ C s H fp pn,PG (b0 X scope N C s H fp pn) tg g) (ht:∀ C s H fp pn,LF (b0 X scope N C s H fp pn) ifs tc) (he:∀ C s H fp pn,PE (b0 X scope N C s H fp pn) elt te)
  (hf:ie scope X.env=true:=by rfl) (hk:scope.kind=.function:=by rfl) (E5:∀ y∈scope.names,y.2≠.cell:=by decide +kernel) (F1:∀ y∈scope.names,y.2=.local->scope.names.lookup y.1=some .local:=by decide +kernel) (Ga:wB X scope N ix=true:=by rfl)
  (hs:∀ x,foldedSetIterable iter X.env x=pure x:=by intro _;rfl):PE X (.ListComp elt [⟨tg,iter,ifs,0⟩] scope pos) (xJ wi ix g tc te):=by
 intro pins s σ H Q I h
 rw [eval_ListComp]
 have Jm:closureFor scope X.env=pure (clOf scope X.env):=by
  unfold closureFor clOf
  have:=gC X.env scope.names [] (lH I.ok hf)
  simpa using this
 refine wpAny_comprehension_free (use:=none) rfl hs Jm hk F1 (ED (hi pins s σ H _ I h) fun v s1 h1=>ED h1 fun M1 s2 h2=>?_)
 obtain ⟨it,fp,tn,J,H2,e,I2,T,Ew,f2,q⟩:=h2
 subst e
 refine lb (RR:=fun acc C=>compPost (model X.prog X.w) X.A X.xe none (EP X pins σ Q) acc C) (Q:=Q) (iter:=iter) hc I2 T Ew f2 hg ht he hf hk E5 Ga q fun D C σ1 H1 s1 hC J1 q1=>?_
 obtain ⟨m,ns,_⟩:=J1.loc
 exact ⟨m,ns,fun h' L4=>⟨.ref D,H1,I2.unblock f2 hC J1 L4,rfl,q1⟩⟩
end
section
variable {X:Cx} {scope:Scope} {N:List Str} {ix:List (Option Nat)} {tg iter elt:Expr} {ifs:List Expr} {pos:Pos} {wi:TI} {g:TG} {tc:TT} {te:TE}
theorem xO {i:Nat} {y:Str} {py Jn:Pos} (ix:List (Option Nat)) (N:List Str) (hN:X.N.Nodup) (NG:X.N[i]?=some y) (hy:Loc X.env.scope y) (hc:X.calm=true) (hi:PI X tg iter wi) (hg:∀ C s H fp pn,PG (b0 X scope N C s H fp pn) tg g) (ht:∀ C s H fp pn,LF (b0 X scope N C s H fp pn) ifs tc)
  (he:∀ C s H fp pn,PE (b0 X scope N C s H fp pn) elt te) (NH:swapsWith (.ListComp elt [⟨tg,iter,ifs,0⟩] scope pos) (some (.Name y py)) Jn.line X.env=pure true:=by rfl)
  (hf:ie scope X.env=true:=by rfl) (hk:scope.kind=.function:=by rfl) (E5:∀ y∈scope.names,y.2≠.cell:=by decide +kernel) (F1:∀ y∈scope.names,y.2=.local->scope.names.lookup y.1=some .local:=by decide +kernel) (Ga:wB X scope N ix=true:=by rfl)
  (hs:∀ x,foldedSetIterable iter X.env x=pure x:=by intro _;rfl) (Jg:X.fn y=true\/X.env.scope.names.lookup y=some .local:=by first | exact .inl rfl | exact .inr rfl) :
  PS X (.Assign [.Name y py] (.ListComp elt [⟨tg,iter,ifs,0⟩] scope pos) Jn) (fun D σ H=>xJ wi ix g tc te σ H fun v H'=>D.nx (σ.set i (some v)) H'):=by
 intro pins s σ H Dd I h
 rw [exec_Assign_Name_used _ _ _ _ NH]
 have Jm:closureFor scope X.env=pure (clOf scope X.env):=by
  unfold closureFor clOf
  have:=gC X.env scope.names [] (lH I.ok hf)
  simpa using this
 refine wpAny_bind (wpAny_standAt (wpAny_bind ?_))
 show wpAny _ X.A (do let _ <-comprehension (.ListComp elt [⟨tg,iter,ifs,0⟩] scope pos) scope X.env _ (newList []) false (eval iter X.env) (some (assign (.Name y py) X.env))) _ _ s
 refine wpAny_bind (wpAny_mono (wpAny_comprehension_free (use:=some (assign (.Name y py) X.env)) (Q:=fun _ s'=>SP X pins Dd .next s') rfl hs Jm hk F1
  (ED (hi pins s σ H _ I h) fun v s1 h1=>ED h1 fun M1 s2 h2=>?_)) (fun _ s' hq=>wpAny_pure (wpAny_pure hq)) fun _ _ e=>e)
 obtain ⟨it,fp,tn,J,H2,e,I2,T,Ew,f2,q⟩:=h2
 subst e
 refine lb (RR:=fun acc C=>compPost (model X.prog X.w) X.A X.xe (some (assign (.Name y py) X.env)) (fun _ s'=>SP X pins Dd .next s') acc C) (Q:=fun v H'=>Dd.nx (σ.set i (some v)) H') (iter:=iter) hc I2 T Ew f2 hg ht he hf hk E5 Ga q fun D C σ1 H1 s1 hC J1 q1=>?_
 obtain ⟨m,ns,_⟩:=id J1.loc
 have ns:s1.heap.Ns C m:=ns
 have I3:Inv X pins σ H1 s1:=I2.unblock f2 hC J1 (.refl ..)
 show wpAny _ X.A (assign (.Name y py) X.env (.ref D)) _ _ s1
 refine wpAny_assign_Name (mN I3 hN NG hy (v:=.ref D) rfl (fun s4 I4 ⟨a,sb,ha⟩=>?_) Jg)
 have aC:C≠a:=by
  intro z
  rcases ha with ha | ha
  ·exact Nat.ne_of_lt (Nat.lt_of_lt_of_le I2.lt hC) (ha▸z.symm)
  ·obtain ⟨v,o,ho,_⟩:=I2.cell y a ha
   exact Nat.ne_of_lt (Nat.lt_of_lt_of_le (Heap.lt_size ho) hC) z.symm
 refine ⟨m,ns.sameBut sb aC,fun h' L4=>?_⟩
 have jf:H1 C=none:=J1.free
 have kk:∀ b o,b≠C->s4.heap.get? b=some o->h'.get? b=some o:=fun b o hb e=>(L4.2 b hb).trans e
 refine ⟨σ.set i (some (.ref D)),H1,?_,q1⟩
 have z:=I4.turned (t':=s4.toks) kk jf (fun z=>Nat.ne_of_lt (Nat.lt_of_lt_of_le I2.lt hC) z.symm) (.inr (Nat.le_trans I2.sz hC)) (fun x c e z=>by
  obtain ⟨v,o,ho,_⟩:=I2.cell x c e
  exact Nat.ne_of_lt (Nat.lt_of_lt_of_le (Heap.lt_size ho) hC) z) (fun p hp z=>Nat.ne_of_lt (Nat.lt_of_lt_of_le (Heap.lt_size (I2.pin p hp).1) hC) z)
 exact z
end
noncomputable def Itv (val:Nat->V) (n:Nat):It:=⟨fun i _=>i < n,fun i H x H'=>H'=H/\x=val i,fun i _=>i=n⟩
theorem pS {P:Program} {w:World} {K:W.Frag} {tg:Expr} (ty:String) (Jj:["enumerate","zip","dict_itemiterator","dict_reverseitemiterator","odict_iterator","itertools.zip_longest","itertools.pairwise"].contains ty=false) (l:List Nat) (t:Tok) (it:Addr)
  (Wk:∀ A:Around,A.handled=none->Walks P w A it [it] [it] (S l).cps.size (SignAt (S l)) (fun i h=>h.IsStrIter it ty (S l) t i))
  (self:∀ (A:Around) (i:Nat) (s:Shared) (Q:Value->Shared->Prop) (E:Value->Shared->Prop),s.heap.IsStrIter it ty (S l) t i->Q (.ref it) s->wpAny (model P w) A (pyIter (.ref it)) Q E s) :
  Turn P w K tg (Itv (fun i=>.str (S [l.getD i 0])) l.length) [it] it (fun i h=>h.IsStrIter it ty (S l) t i) where
 mem:=by simp
 obj:=fun i h st b hb=>by
  have e:b=it:=by simpa using hb
  subst e
  obtain ⟨o,e,c,d⟩:=st
  exact ⟨o,e,fun v z=>by rw [d] at z;cases z⟩
 keep:=fun i h h' st k=>by
  obtain ⟨o,e,r⟩:=st
  exact ⟨o,k it (by simp) o e,r⟩
 item:=by
  intro X hP hw hK hc i pins s σ H E I hf st hg
  subst hP hw hK
  obtain ⟨f0,f1,f2,f3,f4,f5⟩:=hf it (by simp)
  have hg:i < l.length:=hg
  refine (Wk X.A (I.ok.hd hc)).item i s _ _ (by simpa [S] using hg) st fun v h' tk hv Gk kk=>?_
  obtain ⟨c,u,G9,rfl⟩:=hv
  have I1:Inv X pins σ H { s with heap:=h',toks:=tk }:=I.turned (fun b o hb e=>kk b o (by simpa using hb) e) f0 f1 f3 f4 f5
  obtain ⟨o,e,cc,d⟩:=id Gk
  have K2:l.getD i 0=c:=by
   have:l[i]?=some c:=by simpa [S] using G9
   rw [List.getD_eq_getElem?_getD,this]
   rfl
  refine ⟨_,rfl,u4 (s:={ s with heap:=h',toks:=tk }) e cc d Jj ⟨.str (S [l.getD i 0]),H,I1,⟨u,?_⟩,⟨rfl,rfl⟩,Gk,fun b hb=>(hf b hb).1⟩⟩
  rw [K2]
 done:=by
  intro X hP hw hK hc i pins s σ H E I hf st hg
  subst hP hw hK
  obtain ⟨f0,f1,f2,f3,f4,f5⟩:=hf it (by simp)
  have hg:i=l.length:=hg
  have hn:(S l).cps.size=i:=by rw [hg];simp [S]
  refine (Wk X.A (I.ok.hd hc)).done s _ _ (by rw [hn];exact st) fun h' tk kk=>⟨rfl,I.turned (fun b o hb e=>kk b o (by simpa using hb) e) f0 f1 f3 f4 f5⟩
 self:=self
noncomputable def DZ (tl:TE):TI:=fun σ H R=>tl σ H fun x H1=>∃ l,x=.str (S l)/\R (Itv (fun i=>.str (S [l.getD i 0])) l.length) H1
section
variable {X:Cx} {tg:Expr}
theorem Ah {l:Expr} {tl:TE} (hl:PE X l tl):PI X tg l (DZ tl):=by
 intro pins s σ H R I h
 refine ED (hl pins s σ H _ I h) fun v s1 EE=>?_
 obtain ⟨x,H1,I1,r1,l,e,q⟩:=EE
 subst e
 obtain ⟨t,rfl⟩:=r1
 cases ha:(S l).cps.all (·< 128)
 ·refine wpAny_pyIter_wide ha ?_
  refine ⟨s1.heap.objs.size,[s1.heap.objs.size],_,_,H1,rfl,I1.kept (t':=s1.toks) fun b o e=>Heap.get?_push_of_some _ e,
   pS "str_iterator" (by decide) l t _ (fun A hA=>Walks.strWide hA _ _ _) (fun _ _ _ _ _ st h=>wpAny_pyIter_striter_wide st h),⟨_,Heap.get?_push_size _ rfl,rfl,rfl⟩,fun b hb=>?_,q⟩
  have e:b=s1.heap.objs.size:=by simpa using hb
  subst e
  exact I1.fpOk (Nat.le_refl _) (I1.hok.fresh (Nat.le_refl _))
 ·refine wpAny_pyIter_ascii ha ?_
  refine ⟨s1.heap.objs.size,[s1.heap.objs.size],_,_,H1,rfl,I1.kept (t':=s1.toks) fun b o e=>Heap.get?_push_of_some _ e,
   pS "str_ascii_iterator" (by decide) l t _ (fun A hA=>Walks.strAscii hA _ _ _) (fun _ _ _ _ _ st h=>wpAny_pyIter_striter_ascii st h),⟨_,Heap.get?_push_size _ rfl,rfl,rfl⟩,fun b hb=>?_,q⟩
  have e:b=s1.heap.objs.size:=by simpa using hb
  subst e
  exact I1.fpOk (Nat.le_refl _) (I1.hok.fresh (Nat.le_refl _))
theorem e7 {pins:List (Addr×Obj)} {s:Shared} {σ:L2.St} {H:Hp} {p:Addr} {xs:List V} {E:Value->Shared->Prop} {R:Value->Shared->Prop} (hc:X.calm=true) (I:Inv X pins σ H s) (h:SqL X.K H p xs\/SqT X.K H p xs)
  (k:∀ (it:Addr) (fp:List Addr) (o:Obj) (us:List Value) (Sx:Nat->Heap->Prop),Vals xs us->Walks X.prog X.w X.A.in1 it fp [it] us.length (fun i v=>us[i]?=some v) Sx->Sx 0 (s.heap.push o)->(∀ b∈fp,b < (s.heap.push o).objs.size)->it=s.heap.objs.size->R (.ref it) { s with heap:=s.heap.push o }) :
  wpAny (model X.prog X.w) X.A.in1 (pyIter (.ref p)) R E s:=by
 have hh:X.A.in1.handled=none:=I.ok.hd hc
 rcases h with h | h
 ·obtain ⟨us,r,pl,hz⟩:=I.list h
  have EY:p < s.heap.objs.size:=by obtain ⟨o,ho,_⟩:=pl.isList;exact Heap.lt_size ho
  refine wpAny_pyIter_list pl.isList (k s.heap.objs.size [s.heap.objs.size,p] _ us (fun i h=>h.IsListIter s.heap.objs.size p i/\h.IsList p us.toArray) r (by
   have W:=Walks.list (prog:=X.prog) (w:=X.w) hh s.heap.objs.size p (Nat.ne_of_lt EY) us.toArray
   simpa using W) ⟨⟨_,Heap.get?_push_size _ rfl,rfl,rfl⟩,pl.isList.at fun o e=>Heap.get?_push_of_some _ e⟩ (fun b hb=>?_) rfl)
  rw [Heap.size_push]
  rcases List.mem_cons.mp hb with rfl | hb
  ·exact Nat.lt_succ_self _
  ·rw [List.mem_singleton] at hb
   rw [hb]
   exact Nat.lt_succ_of_lt EY
 ·obtain ⟨us,r,pl,hz⟩:=I.tuple h
  have K0:s.heap.IsTuple p us.toArray:=pl
  have EY:p < s.heap.objs.size:=by obtain ⟨o,ho,_⟩:=pl;exact Heap.lt_size ho
  refine wpAny_pyIter_tuple K0 (k s.heap.objs.size [s.heap.objs.size,p] _ us (fun i h=>h.IsTupleIter s.heap.objs.size p i/\h.IsTuple p us.toArray) r (by
   have W:=Walks.tuple (prog:=X.prog) (w:=X.w) hh s.heap.objs.size p (Nat.ne_of_lt EY) us.toArray
   simpa using W) ⟨⟨_,Heap.get?_push_size _ rfl,rfl,rfl⟩,K0.at fun o e=>Heap.get?_push_of_some _ e⟩ (fun b hb=>?_) rfl)
  rw [Heap.size_push]
  rcases List.mem_cons.mp hb with rfl | hb
  ·exact Nat.lt_succ_self _
  ·rw [List.mem_singleton] at hb
   rw [hb]
   exact Nat.lt_succ_of_lt EY
theorem dj {pins:List (Addr×Obj)} {s:Shared} {σ:L2.St} {H:Hp} {o:Obj} {h':Heap} {tk:Nat} (I:Inv X pins σ H s) (kk:∀ b ob,b∉[s.heap.objs.size]->(s.heap.push o).get? b=some ob->h'.get? b=some ob) :
  Inv X pins σ H { s with heap:=h',toks:=tk }:=I.kept fun b ob e=>kk b ob (fun z=>Nat.ne_of_lt (Heap.lt_size e) (by simpa using z)) (Heap.get?_push_of_some _ e)
theorem bh {α:Type} (l:List α) (i:Nat) (d:α) (h:i < l.length):l.getD i d=l[i]:=by
 rw [List.getD_eq_getElem?_getD,List.getElem?_eq_getElem h]
 rfl
noncomputable def wC:V->Bool
 | .bl b=>b
 | _=>false
noncomputable def BW:V->Bool
 | .bl _=>true
 | _=>false
theorem pT {xs:List V} {us:List Value} (r:Vals xs us) (hb:xs.all BW=true):TruthOf X.prog X.w X.A.in1 (fun i v=>us[i]?=some v) (fun i=>wC (xs.getD i .non)):=by
 intro i v s Q E hv q
 have hl:=r.length
 obtain ⟨hi,_⟩:=List.getElem?_eq_some_iff.mp hv
 have e1:xs[i]?=some (xs[i]'(by lia)):=List.getElem?_eq_getElem _
 obtain ⟨u,hu,ru⟩:=r.get e1
 rw [hv] at hu
 cases hu
 have q:Q (wC (xs.getD i .non)) s:=q
 rw [getD_of e1] at q
 have bl:=List.all_eq_true.mp hb _ (List.mem_of_getElem? e1)
 generalize xs[i]'(by lia)=x at ru q bl
 cases x <;> first | (exact absurd (show false=true from bl) Bool.false_ne_true) | skip
 cases ru
 exact wpAny_truthy_bool q
theorem sI {xs:List V} (f:V->Bool):(List.range xs.length).all (fun i=>f (xs.getD i .non))=xs.all f:=by
 rw [Bool.eq_iff_iff,List.all_eq_true,List.all_eq_true]
 constructor
 ·intro h x hx
  obtain ⟨i,hi,rfl⟩:=List.getElem_of_mem hx
  have:=h i (List.mem_range.mpr hi)
  rwa [bh _ _ _ hi] at this
 ·intro h i hi
  have hi:=List.mem_range.mp hi
  rw [bh _ _ _ hi]
  exact h _ (List.getElem_mem hi)
theorem sJ {xs:List V} (f:V->Bool):(List.range xs.length).any (fun i=>f (xs.getD i .non))=xs.any f:=by
 rw [Bool.eq_iff_iff,List.any_eq_true,List.any_eq_true]
 constructor
 ·rintro ⟨i,hi,h⟩
  have hi:=List.mem_range.mp hi
  rw [bh _ _ _ hi] at h
  exact ⟨_,List.getElem_mem hi,h⟩
 ·rintro ⟨x,hx,h⟩
  obtain ⟨i,hi,rfl⟩:=List.getElem_of_mem hx
  refine ⟨i,List.mem_range.mpr hi,?_⟩
  rw [bh _ _ _ hi]
  exact h
theorem vy (hc:X.calm=true):cW X (.builtin "all") (fun vs H Q=>∃ p xs,vs=[.ref p]/\(SqL X.K H p xs\/SqT X.K H p xs)/\xs.all BW=true/\Q (.bl (xs.all wC)) H):=by
 intro pins s σ H vs us Q I r h
 obtain ⟨p,xs,rfl,hp,hb,q⟩:=h
 obtain ⟨u,rfl,r1⟩:=dN r
 cases r1
 refine call_all_walk (e7 hc I hp fun it fp o ws Sx rv W st hf hit=>⟨it,fp,[it],_,_,Sx,_,rfl,W,st,pT rv hb,fun h' tk kk=>?_⟩)
 subst hit
 refine ⟨.bl (xs.all wC),H,dj (s:=s) I kk,?_,q⟩
 rw [<-rv.length,sI]
 rfl
theorem vz (hc:X.calm=true):cW X (.builtin "any") (fun vs H Q=>∃ p xs,vs=[.ref p]/\(SqL X.K H p xs\/SqT X.K H p xs)/\xs.all BW=true/\Q (.bl (xs.any wC)) H):=by
 intro pins s σ H vs us Q I r h
 obtain ⟨p,xs,rfl,hp,hb,q⟩:=h
 obtain ⟨u,rfl,r1⟩:=dN r
 cases r1
 refine call_any_walk (e7 hc I hp fun it fp o ws Sx rv W st hf hit=>⟨it,fp,[it],_,_,Sx,_,rfl,W,st,pT rv hb,fun h' tk kk=>?_⟩)
 subst hit
 refine ⟨.bl (xs.any wC),H,dj (s:=s) I kk,?_,q⟩
 rw [<-rv.length,sJ]
 rfl
theorem dG {ns:List Int} {us:List Value} (r:Vals (ns.map V.int) us) {i:Nat} {v:Value} (h:us[i]?=some v):∃ t,v=.int (ns.getD i 0) t:=by
 have hl:=r.length
 rw [List.length_map] at hl
 obtain ⟨hi,_⟩:=List.getElem?_eq_some_iff.mp h
 have e1:(ns.map V.int)[i]?=some (.int (ns.getD i 0)):=by
  rw [List.getElem?_map,List.getElem?_eq_getElem (by lia),bh _ _ _ (by lia)]
  rfl
 obtain ⟨u,hu,t,rfl⟩:=r.get e1
 rw [h] at hu
 exact ⟨t,Option.some.inj hu⟩
theorem pU {ns:List Int} {us:List Value} (r:Vals (ns.map V.int) us) (A:Around):CmpOf X.prog X.w A .Gt (fun i v=>us[i]?=some v) (fun i j=>decide (ns.getD j 0 < ns.getD i 0)):=by
 intro i j vi vj s Q E hi hj q
 obtain ⟨t,rfl⟩:=dG r hi
 obtain ⟨t',rfl⟩:=dG r hj
 exact gt_int q
theorem m7 {ns:List Int} {us:List Value} (r:Vals (ns.map V.int) us) (A:Around):CmpOf X.prog X.w A .Lt (fun i v=>us[i]?=some v) (fun i j=>decide (ns.getD i 0 < ns.getD j 0)):=by
 intro i j vi vj s Q E hi hj q
 obtain ⟨t,rfl⟩:=dG r hi
 obtain ⟨t',rfl⟩:=dG r hj
 exact lt_int q
noncomputable def m9 (ns:List Int):Int:=ns.foldl max (ns.headD 0)
noncomputable def dO (ns:List Int):Int:=ns.foldl min (ns.headD 0)
theorem lI (ns:List Int):∀ k,k < ns.length->argBest (fun i j=>decide (ns.getD j 0 < ns.getD i 0)) k < ns.length/\ns.getD (argBest (fun i j=>decide (ns.getD j 0 < ns.getD i 0)) k) 0=(ns.take (k + 1)).foldl max (ns.headD 0)
 | 0,h=>by
  refine ⟨h,?_⟩
  cases ns with
  | nil=>cases h
  | cons a l=>show a=max a a;lia
 | k + 1,h=>by
  obtain ⟨NI,NJ⟩:=lI ns k (by lia)
  have et:ns.take (k + 1 + 1)=ns.take (k + 1)++[ns.getD (k + 1) 0]:=by
   rw [List.take_add_one,List.getElem?_eq_getElem h,bh _ _ _ h]
   rfl
  rw [et,List.foldl_append,<-NJ]
  show (if decide (ns.getD (argBest (fun i j=>decide (ns.getD j 0 < ns.getD i 0)) k) 0 < ns.getD (k + 1) 0)=true then k + 1 else argBest (fun i j=>decide (ns.getD j 0 < ns.getD i 0)) k) < ns.length/\
   ns.getD (if decide (ns.getD (argBest (fun i j=>decide (ns.getD j 0 < ns.getD i 0)) k) 0 < ns.getD (k + 1) 0)=true then k + 1 else argBest (fun i j=>decide (ns.getD j 0 < ns.getD i 0)) k) 0=max _ _
  split
  ·rename_i hd
   have:=of_decide_eq_true hd
   exact ⟨h,by lia⟩
  ·rename_i hd
   rw [decide_eq_true_eq] at hd
   exact ⟨NI,by lia⟩
theorem lJ (ns:List Int):∀ k,k < ns.length->argBest (fun i j=>decide (ns.getD i 0 < ns.getD j 0)) k < ns.length/\ns.getD (argBest (fun i j=>decide (ns.getD i 0 < ns.getD j 0)) k) 0=(ns.take (k + 1)).foldl min (ns.headD 0)
 | 0,h=>by
  refine ⟨h,?_⟩
  cases ns with
  | nil=>cases h
  | cons a l=>show a=min a a;lia
 | k + 1,h=>by
  obtain ⟨NI,NJ⟩:=lJ ns k (by lia)
  have et:ns.take (k + 1 + 1)=ns.take (k + 1)++[ns.getD (k + 1) 0]:=by
   rw [List.take_add_one,List.getElem?_eq_getElem h,bh _ _ _ h]
   rfl
  rw [et,List.foldl_append,<-NJ]
  show (if decide (ns.getD (k + 1) 0 < ns.getD (argBest (fun i j=>decide (ns.getD i 0 < ns.getD j 0)) k) 0)=true then k + 1 else argBest (fun i j=>decide (ns.getD i 0 < ns.getD j 0)) k) < ns.length/\
   ns.getD (if decide (ns.getD (k + 1) 0 < ns.getD (argBest (fun i j=>decide (ns.getD i 0 < ns.getD j 0)) k) 0)=true then k + 1 else argBest (fun i j=>decide (ns.getD i 0 < ns.getD j 0)) k) 0=min _ _
  split
  ·rename_i hd
   have:=of_decide_eq_true hd
   exact ⟨h,by lia⟩
  ·rename_i hd
   rw [decide_eq_true_eq] at hd
   exact ⟨NI,by lia⟩
theorem sL (hc:X.calm=true):cW X (.builtin "max") (fun vs H Q=>∃ (p:Addr) (ns:List Int),vs=[.ref p]/\(SqL X.K H p (ns.map V.int)\/SqT X.K H p (ns.map V.int))/\ns≠[]/\Q (.int (m9 ns)) H):=by
 intro pins s σ H vs us Q I r h
 obtain ⟨p,ns,rfl,hp,hne,q⟩:=h
 obtain ⟨u,rfl,r1⟩:=dN r
 cases r1
 have hn:0 < ns.length:=by cases ns with | nil=>exact absurd rfl hne | cons _ _=>simp
 refine call_max_walk (e7 hc I hp fun it fp o ws Sx rv W st hf hit=>?_)
 have hl:=rv.length
 rw [List.length_map] at hl
 refine ⟨it,fp,[it],_,_,Sx,_,rfl,W,st,hf,by lia,pU rv _,fun v h' tk hv kk=>?_⟩
 subst hit
 obtain ⟨b1,b2⟩:=lI ns (ns.length - 1) (by lia)
 rw [<-hl] at hv
 obtain ⟨t,rfl⟩:=dG rv hv
 refine ⟨.int (m9 ns),H,dj (s:=s) I kk,⟨t,?_⟩,q⟩
 rw [b2,show ns.length - 1 + 1=ns.length by lia,List.take_length]
 rfl
theorem sM (hc:X.calm=true):cW X (.builtin "min") (fun vs H Q=>∃ (p:Addr) (ns:List Int),vs=[.ref p]/\(SqL X.K H p (ns.map V.int)\/SqT X.K H p (ns.map V.int))/\ns≠[]/\Q (.int (dO ns)) H):=by
 intro pins s σ H vs us Q I r h
 obtain ⟨p,ns,rfl,hp,hne,q⟩:=h
 obtain ⟨u,rfl,r1⟩:=dN r
 cases r1
 have hn:0 < ns.length:=by cases ns with | nil=>exact absurd rfl hne | cons _ _=>simp
 refine call_min_walk (e7 hc I hp fun it fp o ws Sx rv W st hf hit=>?_)
 have hl:=rv.length
 rw [List.length_map] at hl
 refine ⟨it,fp,[it],_,_,Sx,_,rfl,W,st,hf,by lia,m7 rv _,fun v h' tk hv kk=>?_⟩
 subst hit
 obtain ⟨b1,b2⟩:=lJ ns (ns.length - 1) (by lia)
 rw [<-hl] at hv
 obtain ⟨t,rfl⟩:=dG rv hv
 refine ⟨.int (dO ns),H,dj (s:=s) I kk,⟨t,?_⟩,q⟩
 rw [b2,show ns.length - 1 + 1=ns.length by lia,List.take_length]
 rfl
theorem ng (ns:List Int):∀ k,k<=ns.length->preSum (fun i=>ns.getD i 0) k=(ns.take k).sum
 | 0,_=>by simp [preSum]
 | k + 1,h=>by
  have et:ns.take (k + 1)=ns.take k++[ns.getD k 0]:=by
   rw [List.take_add_one,List.getElem?_eq_getElem (by lia),bh _ _ _ (by lia)]
   rfl
  rw [et,List.sum_append,<-ng ns k (by lia)]
  simp [preSum]
theorem sN (hc:X.calm=true):cW X (.builtin "sum") (fun vs H Q=>∃ (p:Addr) (ns:List Int),vs=[.ref p]/\(SqL X.K H p (ns.map V.int)\/SqT X.K H p (ns.map V.int))/\Q (.int ns.sum) H):=by
 intro pins s σ H vs us Q I r h
 obtain ⟨p,ns,rfl,hp,q⟩:=h
 obtain ⟨u,rfl,r1⟩:=dN r
 cases r1
 refine call_sum_walkG (e7 hc I hp fun it fp o ws Sx rv W st hf hit=>?_)
 have hl:=rv.length
 rw [List.length_map] at hl
 refine ⟨it,fp,[it],_,_,Sx,fun i=>ns.getD i 0,rfl,W,st,hf,fun i v hv=>dG rv hv,fun h' tk t' kk=>?_⟩
 subst hit
 refine ⟨.int ns.sum,H,dj (s:=s) I kk,⟨t',?_⟩,q⟩
 rw [<-hl,ng ns _ (Nat.le_refl _),List.take_length]
end
section
variable {prog:Program} {w:World} {A:Around} {R:Result->Shared->Prop} {it:Addr} {fp wr:List Addr} {n:Nat} {Pv:Nat->Value->Prop} {Sx:Nat->Heap->Prop} {kw:List (Str×Value)}
theorem lK:(toString "max"++toString ".loop" : String) = "max.loop":=by decide
theorem Cs (Wk:Walks prog w A.in1 it fp wr n Pv Sx) (bt:Nat->Nat->Bool) (cm:CmpOf prog w A.in1 .Gt Pv bt) (T:Addr) (nT:T∉fp):∀ (k j:Nat) (s:Shared) (vb:Value) (c:Nat),n - (j + 1)=k->j + 1<=n->Sx (j + 1) s.heap->Pv (argBest bt j) vb->
   s.heap.get? T=some { cls:=.type "list",dict:=none,data:=.seq #[vb,vb] c,slots:=#[] }->
   (∀ v h' tk,Pv (argBest bt (n - 1)) v->(∀ b o,b∉wr->b≠T->s.heap.get? b=some o->h'.get? b=some o)->R (.ok (.ret v)) { s with heap:=h',toks:=tk })->codeAny (model prog w) A (.builtin "max.loop" ⟨[.ref it,.none,.ref T],kw⟩) R s:=by
 have JW:T∉wr:=fun z=>nT (Wk.sub _ z)
 intro k
 induction k with
 | zero=>
  intro j s vb c hk hj st hp hT fin
  have ej:j + 1=n:=by lia
  refine codeAny_builtin F.entry_max_loop ?_
  rw [Around.under_plainId F.plain_max_loop _]
  show wpAny _ A.in1 (seqItems? (.ref T) >>= _) _ _ s
  refine wpAny_bind (wpAny_seqItems hT rfl ?_)
  show wpAny _ A.in1 (tryCatch (pyNext (.ref it)) _ >>= _) _ _ s
  refine wpAny_bind (wpAny_tryCatch (Wk.done s _ _ (ej▸st) fun h' tk kk=>?_))
  have HG:=kk T _ JW hT
  show wpAny _ A.in1 (updateSeq T (fun _=>#[]) >>= _) _ _ _
  refine wpAny_bind (wpAny_updateSeq HG rfl (wpAny_bind (wpAny_letGo (wpAny_pure ?_))))
  exact fin vb _ tk (by rw [<-ej];exact hp) fun b o bw bT e=>(Heap.get?_update_other _ _ (Ne.symm bT)).trans (kk b o bw e)
 | succ k ih=>
  intro j s vb c hk hj st hp hT fin
  have jn:j + 1 < n:=by lia
  refine codeAny_builtin F.entry_max_loop ?_
  rw [Around.under_plainId F.plain_max_loop _]
  show wpAny _ A.in1 (seqItems? (.ref T) >>= _) _ _ s
  refine wpAny_bind (wpAny_seqItems hT rfl ?_)
  show wpAny _ A.in1 (tryCatch (pyNext (.ref it)) _ >>= _) _ _ s
  refine wpAny_bind (wpAny_tryCatch (Wk.item (j + 1) s _ _ jn st fun v h' tk pv Gk kk=>?_))
  have HG:=kk T _ JW hT
  show wpAny _ A.in1 (tryCatch (holding [v,v] (richCompare .Gt v vb >>= _)) _ >>= _) _ _ _
  refine wpAny_bind (wpAny_tryCatch (wpAny_holding (wpAny_bind (cm (j + 1) (argBest bt j) v vb _ _ _ pv hp (wpAny_bind (wpAny_holding (wpAny_truthy_bool (wpAny_bind (wpAny_letGo (wpAny_pure ?_))))))))))
  cases eb:bt (j + 1) (argBest bt j) with
  | true=>
   rw [if_pos rfl]
   refine wpAny_bind (wpAny_updateSeq HG rfl (wpAny_bind (wpAny_letGo ?_)))
   rw [lK]
   refine wpAny_pure ⟨plainId_quiet F.plain_max_loop _,ih (j + 1) _ v _ (by lia) jn (Wk.frame _ _ _ Gk fun b bf o e=>?_) (by simp only [argBest,eb,if_true];exact pv) (Heap.get?_update_self _ HG rfl) fun v2 h2 t2 p2 k2=>?_⟩
   ·exact (Heap.get?_update_other _ _ (fun z:T=b=>nT (by rw [z];exact bf))).trans e
   ·exact fin v2 h2 t2 p2 fun b o bw bT e=>k2 b o bw bT ((Heap.get?_update_other _ _ (Ne.symm bT)).trans (kk b o bw e))
  | false=>
   rw [if_neg Bool.false_ne_true]
   refine wpAny_bind (wpAny_letGo ?_)
   rw [lK]
   refine wpAny_pure ⟨plainId_quiet F.plain_max_loop _,ih (j + 1) _ vb c (by lia) jn Gk (by simp only [argBest,eb,Bool.false_eq_true,if_false];exact hp) HG fun v2 h2 t2 p2 k2=>?_⟩
   exact fin v2 h2 t2 p2 fun b o bw bT e=>k2 b o bw bT (kk b o bw e)
theorem vA (Wk:Walks prog w A.in1 it fp wr n Pv Sx) (bt:Nat->Nat->Bool) (cm:CmpOf prog w A.in1 .Gt Pv bt) (T:Addr) (nT:T∉fp) {s:Shared} {c:Nat} {d:Value} (NK:kw=[(Str.ofString "default",d)]) (st:Sx 0 s.heap)
  (hT:s.heap.get? T=some { cls:=.type "list",dict:=none,data:=.seq #[] c,slots:=#[] }) (fin:∀ v h' tk,(if n=0 then v=d else Pv (argBest bt (n - 1)) v)->(∀ b o,b∉wr->b≠T->s.heap.get? b=some o->h'.get? b=some o)->R (.ok (.ret v)) { s with heap:=h',toks:=tk }) :
  codeAny (model prog w) A (.builtin "max.loop" ⟨[.ref it,.none,.ref T],kw⟩) R s:=by
 have JW:T∉wr:=fun z=>nT (Wk.sub _ z)
 refine codeAny_builtin F.entry_max_loop ?_
 rw [Around.under_plainId F.plain_max_loop _]
 show wpAny _ A.in1 (seqItems? (.ref T) >>= _) _ _ s
 refine wpAny_bind (wpAny_seqItems hT rfl ?_)
 show wpAny _ A.in1 (tryCatch (pyNext (.ref it)) _ >>= _) _ _ s
 by_cases hn:n=0
 ·refine wpAny_bind (wpAny_tryCatch (Wk.done s _ _ (by rw [hn];exact st) fun h' tk kk=>?_))
  subst NK
  refine wpAny_bind (wpAny_rule (wpAny_pure ?_))
  exact fin d _ tk (by rw [if_pos hn]) fun b o bw bT e=>kk b o bw e
 ·refine wpAny_bind (wpAny_tryCatch (Wk.item 0 s _ _ (by lia) st fun v h' tk pv Gk kk=>?_))
  have HG:=kk T _ JW hT
  show wpAny _ A.in1 (updateSeq T (fun _=>#[v,v]) >>= _) _ _ _
  refine wpAny_bind (wpAny_updateSeq HG rfl ?_)
  rw [lK]
  refine wpAny_pure ⟨plainId_quiet F.plain_max_loop _,Cs Wk bt cm T nT _ 0 _ v _ rfl (by lia) (Wk.frame _ _ _ Gk fun b bf o e=>?_) pv (Heap.get?_update_self _ HG rfl) fun v2 h2 t2 p2 k2=>?_⟩
  ·exact (Heap.get?_update_other _ _ (fun z:T=b=>nT (by rw [z];exact bf))).trans e
  ·exact fin v2 h2 t2 (by rw [if_neg hn];exact p2) fun b o bw bT e=>k2 b o bw bT ((Heap.get?_update_other _ _ (Ne.symm bT)).trans (kk b o bw e))
end
theorem tree_kw {prog:Program} {w:World} {A:Around} {E:Value->Shared->Prop} {s:Shared} {id:String} {bf:Builtin} {args:List Value} {kw:List (Str×Value)} {Q:Value->Shared->Prop} (hk:builtinKind id=none) (hp:plainId id=true)
  (hb:entryFor table id=some bf) (ha:argsOk id ⟨args,kw⟩)
  (hc:wpAny (model prog w) A.in1 (bf ⟨args,kw⟩) (fun fin s'=>match fin with
   | .done f=>(match (Except.ok f:Result) with | .ok (.ret v)=>Q v s' | .ok _=>False | .error e=>E e s')
   | .again c'=>c'.quiet=true/\codeAny (model prog w) A c' (fun r s'=>match r with | .ok (.ret v)=>Q v s' | .ok _=>False | .error e=>E e s') s') E s):wpAny (model prog w) A (call (.builtin id) args kw) Q E s:=by
 refine wpAny_call (codeAny_call_builtin hp hb ?_)
 simp only [checkBuiltinCall,hk]
 cases hsig:Manifest.signature? id with
 | none=>exact wpAny_pure hc
 | some sig=>
  have L5:Bind.checkArgs id sig ⟨args,kw⟩=pure ():=by simpa only [argsOk,hsig] using ha
  simp only [L5]
  exact wpAny_pure hc
theorem sO (a d:Value):argsOk "max" ⟨[a],[(Str.ofString "default",d)]⟩:=by unfold argsOk;kernel_rfl
section
variable {X:Cx} {e k:Expr} {te tk:TE} {p pos Ht:Pos}
noncomputable def maxD (ns:List Int) (d:Int):Int:=if ns=[] then d else m9 ns
noncomputable def Cu (K:W.Frag) (te tk:TE):TE:=fun σ H Q=>qR te zl σ H fun vs H1=>qR tk zl σ H1 fun ks H2=>∃ (a:Addr) (ns:List Int) (d:Int),vs=[.ref a]/\ks=[.int d]/\(SqL K H2 a (ns.map V.int)\/SqT K H2 a (ns.map V.int))/\Q (.int (maxD ns d)) H2
theorem xP (hc:X.calm=true) (hg:Gl X "max") (hm:X.mg "max" = none) (he:PE X e te) (hk:PE X k tk) (hs:starEach [e] X.env=[(false,eval e X.env)]:=by rfl) :
  PE X (.Call (.Name "max" p) [e] [⟨some "default",k,Ht⟩] pos) (Cu X.K te tk):=by
 intro pins s σ H Q I h
 refine wpAny_Call_Name_kw (jL I hg hm (by decide +kernel:bootBuiltins "max" = some (.builtin "max")) ?_ (by decide) (by decide))
 refine callWith_kw (ED (eZ he k7 (hs:=hs) pos pins s σ H _ I h) fun us s1 ⟨vs,H1,I1,r1,q1⟩=>?_) (by rw [hs];rfl) (by rw [hs];rfl)
 refine ED (sd hk wt pos pins s1 σ H1 _ I1 q1) fun ws s2 EE=>?_
 obtain ⟨ks,H2,I2,r2,a,ns,d,e1,e2,hp,q⟩:=EE
 subst e1 e2
 obtain ⟨u,rfl,ru⟩:=dN r1
 obtain ⟨w',rfl,t,rfl⟩:=dN r2
 cases ru
 show wpAny _ _ (call (.builtin "max") [.ref a] [(Str.ofString "default",.int d t)]) _ _ s2
 refine tree_kw F.kind_max F.plain_max F.entry_max (sO _ _) ?_
 show wpAny _ X.A.in1 (Builtin.Builtins.bindParams "max" ["key","default"] 0 ⟨[],[(Str.ofString "default",.int d t)]⟩ >>= _) _ _ s2
 refine wpAny_bind (wpAny_of_eq (show Builtin.Builtins.bindParams "max" ["key","default"] 0 ⟨[],[(Str.ofString "default",.int d t)]⟩=pure [none,some (.int d t)] from rfl) ?_)
 refine wpAny_bind (wpAny_pure ?_)
 refine wpAny_bind (e7 hc I2 hp fun it fp o ws Sx rv Wk st hf hit=>?_)
 have hl:=rv.length
 rw [List.length_map] at hl
 refine wpAny_bind (wpAny_newObj_type ?_)
 have nT:(s2.heap.push o).objs.size∉fp:=fun z=>Nat.lt_irrefl _ (hf _ z)
 rw [lK]
 refine wpAny_pure ⟨plainId_quiet F.plain_max_loop _,vA Wk _ (pU rv _) (s2.heap.push o).objs.size nT rfl (Wk.frame _ _ _ st fun b _ ob e=>Heap.get?_push_of_some _ e) (Heap.get?_push_size _ rfl) fun v h' NL hv kk=>?_⟩
 subst hit
 have I3:Inv X pins σ H2 { s2 with heap:=h',toks:=NL }:=dj (s:=s2) (o:=o) I2 fun b ob nb e=>kk b ob nb (Nat.ne_of_lt (Heap.lt_size e)) (Heap.get?_push_of_some _ e)
 refine ⟨.int (maxD ns d),H2,I3,?_,q⟩
 unfold maxD
 by_cases hn:ns=[]
 ·rw [if_pos (by rw [<-hl,hn];rfl)] at hv
  rw [if_pos hn,hv]
  exact ⟨t,rfl⟩
 ·have h0:0 < ns.length:=List.length_pos_iff.mpr hn
  rw [if_neg (by lia)] at hv
  rw [if_neg hn]
  obtain ⟨b1,b2⟩:=lI ns (ns.length - 1) (by lia)
  rw [<-hl] at hv
  obtain ⟨t2,rfl⟩:=dG rv hv
  refine ⟨t2,?_⟩
  rw [b2,show ns.length - 1 + 1=ns.length by lia,List.take_length]
  rfl
end
section
variable {prog:Program} {w:World} {A:Around} {E:Value->Shared->Prop} {s:Shared}
theorem vB {it t:Addr} {i:Nat} {items:Array Value} {x:Value} {Q:Value->Shared->Prop} (hi:s.heap.IsTupleIter it t i) (ht:s.heap.IsTuple t items) (hx:items[i]?=some x)
  (k:∀ h',h'.IsTupleIter it t (i + 1)->Heap.SameBut it s.heap h'->Q x { s with heap:=h' }):wpAny (model prog w) A (Builtin.SmallTypes.nextOf (.ref it)) Q E s:=by
 obtain ⟨o,ho,oc,od⟩:=id hi
 obtain ⟨q,hq,_,n,qd⟩:=ht
 unfold Builtin.SmallTypes.nextOf
 refine wpAny_bind (wpAny_callSpecial?_slot (name:=Str.ofString "__next__") hi.typeIs F.slot_tuple_iterator_next (wpAny_call_entry F.slot_tuple_iterator_next hi.typeIs F.entry_tuple_iterator_next ?_ (F.args_tuple_iterator_next_1 _)))
 show wpAny _ _ (field (.ref it) 0 >>= _) _ _ s
 refine wpAny_bind (wpAny_field ho od (x:=.ref t) rfl ?_)
 show wpAny _ _ (if (Value.ref t == Value.none)=true then _ else _) _ _ s
 rw [if_neg (fun z:(Value.ref t == Value.none)=true=>Bool.false_ne_true z)]
 show wpAny _ _ (field (.ref it) 1 >>= _) _ _ s
 refine wpAny_bind (wpAny_field ho od (x:=.int i 0) rfl (wpAny_bind (wpAny_seqItems hq qd ?_)))
 simp only [Int.toNat_natCast,hx]
 refine wpAny_bind (wpAny_setField ho od (by simp) (wpAny_pure ⟨x,rfl,wpAny_pure (k _ ⟨_,Heap.get?_update_self _ ho (Obj.isFreed_of_fields (Obj.data_mapFields od _)),(Obj.cls_mapFields ..).trans oc,?_⟩ (Heap.SameBut.update ..))⟩))
 rw [Obj.data_mapFields od]
 simp [rawInt]
theorem xQ {it t:Addr} {i:Nat} {items:Array Value} {Q:Value->Shared->Prop} (hh:A.handled=none) (hi:s.heap.IsTupleIter it t i) (ht:s.heap.IsTuple t items) (hx:items[i]?=none)
  (k:∀ h' e,Heap.ExtBut it s.heap h'->(∃ o,h'.get? e=some o/\o.cls=.type "StopIteration")->E (.ref e) { s with heap:=h' }):wpAny (model prog w) A (Builtin.SmallTypes.nextOf (.ref it)) Q E s:=by
 obtain ⟨o,ho,oc,od⟩:=id hi
 obtain ⟨q,hq,_,n,qd⟩:=ht
 unfold Builtin.SmallTypes.nextOf
 refine wpAny_bind (wpAny_callSpecial?_slot (name:=Str.ofString "__next__") hi.typeIs F.slot_tuple_iterator_next (wpAny_call_entry F.slot_tuple_iterator_next hi.typeIs F.entry_tuple_iterator_next ?_ (F.args_tuple_iterator_next_1 _)))
 show wpAny _ _ (field (.ref it) 0 >>= _) _ _ s
 refine wpAny_bind (wpAny_field ho od (x:=.ref t) rfl ?_)
 show wpAny _ _ (if (Value.ref t == Value.none)=true then _ else _) _ _ s
 rw [if_neg (fun z:(Value.ref t == Value.none)=true=>Bool.false_ne_true z)]
 show wpAny _ _ (field (.ref it) 1 >>= _) _ _ s
 refine wpAny_bind (wpAny_field ho od (x:=.int i 0) rfl (wpAny_bind (wpAny_seqItems hq qd ?_)))
 simp only [Int.toNat_natCast,hx]
 refine wpAny_bind (wpAny_rule (wpAny_bind (wpAny_setField ho od (by simp) ?_)))
 show wpAny _ _ (newExc (.type "StopIteration") [] >>= _) _ _ _
 refine wpAny_bind ?_
 simp only [newExc,newTuple]
 refine wpAny_bind (wpAny_newObj_type (wpAny_bind (m:=firstArgMember _ _) (wpAny_of_eq (a:=Value.none) (by first | rfl | (simp only [firstArgMember];rfl)) (wpAny_newObj_type ?_ (by size_fits)))) (by size_fits))
 simp only [raiseNew]
 refine wpAny_bind (wpAny_handled ?_)
 first
  | rw [show A.in1.handled=none from hh]
  | rw [hh]
 exact wpAny_bind (wpAny_pure (wpAny_throw (k _ _ (((Heap.SameBut.update ..).extBut.push _).push _) ⟨_,Heap.get?_push_size _ rfl,rfl⟩)))
def IsIt (k:Bool) (h:Heap) (it l:Addr) (i:Nat):Prop:=match k with
 | true=>h.IsListIter it l i
 | false=>h.IsTupleIter it l i
def IsSq (k:Bool) (h:Heap) (l:Addr) (xs:Array Value):Prop:=match k with
 | true=>h.IsList l xs
 | false=>h.IsTuple l xs
theorem IsIt.at {k:Bool} {h h':Heap} {it l:Addr} {i:Nat} (x:IsIt k h it l i) (e:∀ o,h.get? it=some o->h'.get? it=some o):IsIt k h' it l i:=by
 cases k with
 | true=>obtain ⟨o,ho,r⟩:=(show h.IsListIter it l i from x);exact (show h'.IsListIter it l i from ⟨o,e o ho,r⟩)
 | false=>obtain ⟨o,ho,r⟩:=(show h.IsTupleIter it l i from x);exact (show h'.IsTupleIter it l i from ⟨o,e o ho,r⟩)
theorem IsSq.at {k:Bool} {h h':Heap} {l:Addr} {xs:Array Value} (x:IsSq k h l xs) (e:∀ o,h.get? l=some o->h'.get? l=some o):IsSq k h' l xs:=by
 cases k with
 | true=>obtain ⟨o,ho,r⟩:=(show h.IsList l xs from x);exact (show h'.IsList l xs from ⟨o,e o ho,r⟩)
 | false=>obtain ⟨o,ho,r⟩:=(show h.IsTuple l xs from x);exact (show h'.IsTuple l xs from ⟨o,e o ho,r⟩)
theorem IsIt.obj {k:Bool} {h:Heap} {it l:Addr} {i:Nat} (x:IsIt k h it l i):∃ o,h.get? it=some o/\∀ v,o.data≠.cell v:=by
 cases k with
 | true=>obtain ⟨o,ho,_,d⟩:=(show h.IsListIter it l i from x);exact ⟨o,ho,fun v z=>by rw [d] at z;cases z⟩
 | false=>obtain ⟨o,ho,_,d⟩:=(show h.IsTupleIter it l i from x);exact ⟨o,ho,fun v z=>by rw [d] at z;cases z⟩
theorem oU {k:Bool} {it l:Addr} {i:Nat} {xs:Array Value} {x:Value} {Q:Value->Shared->Prop} (hi:IsIt k s.heap it l i) (hl:IsSq k s.heap l xs) (hx:xs[i]?=some x)
  (q:∀ h',IsIt k h' it l (i + 1)->Heap.SameBut it s.heap h'->Q x { s with heap:=h' }):wpAny (model prog w) A (Builtin.SmallTypes.nextOf (.ref it)) Q E s:=by
 cases k with
 | true=>exact wpAny_nextOf_list_item hi hl hx q
 | false=>exact vB hi hl hx q
theorem wF {k:Bool} {it l:Addr} {i:Nat} {xs:Array Value} {Q:Value->Shared->Prop} (hh:A.handled=none) (hi:IsIt k s.heap it l i) (hl:IsSq k s.heap l xs) (hx:xs[i]?=none)
  (q:∀ h' e,Heap.ExtBut it s.heap h'->(∃ o,h'.get? e=some o/\o.cls=.type "StopIteration")->E (.ref e) { s with heap:=h' }):wpAny (model prog w) A (Builtin.SmallTypes.nextOf (.ref it)) Q E s:=by
 cases k with
 | true=>exact wpAny_nextOf_list_end hh hi hl hx q
 | false=>exact xQ hh hi hl hx q
theorem xR {k1 k2:Bool} {z TI TO i1 i2 l1 l2:Addr} {i:Nat} {xs ys:Array Value} {x y a b:Value} {Q:Value->Shared->Prop} (D:ZipApart z TI TO i1 i2 l1 l2) (hz:IsZip s.heap z TI TO .none) (Ig:IsPair s.heap TI (.ref i1) (.ref i2)) (IS:IsPair s.heap TO a b)
  (h1:IsIt k1 s.heap i1 l1 i) (h2:IsIt k2 s.heap i2 l2 i) (g1:IsSq k1 s.heap l1 xs) (g2:IsSq k2 s.heap l2 ys) (hx:xs[i]?=some x) (hy:ys[i]?=some y)
  (q:∀ h',IsZip h' z TI TO (rawInt s.heap.objs.size)->IsPair h' TO x y->IsIt k1 h' i1 l1 (i + 1)->IsIt k2 h' i2 l2 (i + 1)->IsPair h' s.heap.objs.size x y->
   (∀ c o,c≠z->c≠TO->c≠i1->c≠i2->s.heap.get? c=some o->h'.get? c=some o)->Q (.ref s.heap.objs.size) { s with heap:=h' }) :
  wpAny (model prog w) A (Builtin.«zip.__next__» ⟨[.ref z],[]⟩) (fun fin s'=>∃ v,fin=.done (.ret v)/\Q v s') E s:=by
 show wpAny _ _ (field (.ref z) 2 >>= _) _ _ _
 refine wpAny_bind (wpAny_field hz rfl (x:=.bool false) rfl ?_)
 show wpAny _ _ (field (.ref z) 3 >>= _) _ _ _
 refine wpAny_bind (wpAny_field hz rfl (x:=.ref TI) rfl (wpAny_bind (wpAny_seqItems Ig rfl ?_)))
 show wpAny _ _ (Builtin.SmallTypes.ownedTupleIsFree (.ref z) >>= _) _ _ _
 refine wpAny_bind ?_
 unfold Builtin.SmallTypes.ownedTupleIsFree
 refine wpAny_bind (wpAny_field hz rfl (x:=.none) rfl (wpAny_pure ?_))
 rw [if_pos (by rfl)]
 refine wpAny_bind (wpAny_rule (wpAny_bind (wpAny_field hz rfl (x:=.ref TO) rfl (wpAny_bind (wpAny_setField_rec hz (by simp) fun hA zA sA=>?_)))))
 have zA:IsZip hA z TI TO .ellipsis:=zA
 refine wpAny_bind ?_
 simp only [List.zipIdx_cons,List.zipIdx_nil,List.forIn_cons,List.forIn_nil]
 refine wpAny_bind (wpAny_bind (wpAny_onRaise ?_))
 show wpAny _ _ (Builtin.SmallTypes.nextOf (.ref i1) >>= _) _ _ _
 refine wpAny_bind (oU (h1.at fun o e=>sA.extBut _ _ D.i1z e) (g1.at fun o e=>sA.extBut _ _ D.l1z e) hx fun hB iB sB=>wpAny_pure ?_)
 have tB:IsPair hB TO a b:=sB.extBut _ _ D.TOi1 (sA.extBut _ _ D.TOz IS)
 refine wpAny_bind (wpAny_seqItems tB rfl (wpAny_bind (wpAny_updateSeq_pair tB fun hC tC sC=>wpAny_bind (wpAny_letGo (wpAny_pure ?_)))))
 have tC:IsPair hC TO x b:=tC
 refine wpAny_bind (wpAny_bind (wpAny_onRaise ?_))
 show wpAny _ _ (Builtin.SmallTypes.nextOf (.ref i2) >>= _) _ _ _
 refine wpAny_bind (oU (h2.at fun o e=>sC.extBut _ _ D.TOi2.symm (sB.extBut _ _ D.i12.symm (sA.extBut _ _ D.i2z e))) (g2.at fun o e=>sC.extBut _ _ D.l2TO (sB.extBut _ _ D.l2i1 (sA.extBut _ _ D.l2z e))) hy fun hD iD sD=>wpAny_pure ?_)
 have tD:IsPair hD TO x b:=sD.extBut _ _ D.TOi2 tC
 refine wpAny_bind (wpAny_seqItems tD rfl (wpAny_bind (wpAny_updateSeq_pair tD fun hE tE sE=>wpAny_bind (wpAny_letGo (wpAny_pure (wpAny_pure ?_))))))
 have tE:IsPair hE TO x y:=tE
 refine wpAny_bind (wpAny_seqItems tE rfl (wpAny_bind (wpAny_newTuple ?_)))
 have ez:hE.objs.size=s.heap.objs.size:=by rw [sE.1,sD.1,sC.1,sB.1,sA.1]
 have zE:IsZip hE z TI TO .ellipsis:=sE.extBut _ _ D.TOz.symm (sD.extBut _ _ D.i2z.symm (sC.extBut _ _ D.TOz.symm (sB.extBut _ _ D.i1z.symm zA)))
 have kE:∀ c o,c≠z->c≠TO->c≠i1->c≠i2->s.heap.get? c=some o->hE.get? c=some o:=fun c o c1 c2 c3 c4 e=>sE.extBut _ _ c2 (sD.extBut _ _ c4 (sC.extBut _ _ c2 (sB.extBut _ _ c3 (sA.extBut _ _ c1 e))))
 have i1E:IsIt k1 hE i1 l1 (i + 1):=iB.at fun o e=>sE.extBut _ _ D.TOi1.symm (sD.extBut _ _ D.i12 (sC.extBut _ _ D.TOi1.symm e))
 have i2E:IsIt k2 hE i2 l2 (i + 1):=iD.at fun o e=>sE.extBut _ _ D.TOi2.symm e
 show wpAny _ _ (Builtin.SmallTypes.ownedTupleHandOut (.ref z) (.ref hE.objs.size) >>= _) _ _ _
 refine wpAny_bind ?_
 unfold Builtin.SmallTypes.ownedTupleHandOut
 have zF:IsZip (hE.push { cls:=.type "tuple",data:=.seq #[x,y] }) z TI TO .ellipsis:=Heap.get?_push_of_some _ zE
 refine wpAny_bind (wpAny_setField_rec zF (by simp) fun hG zG sG=>?_)
 have zG:IsZip hG z TI TO (rawInt hE.objs.size):=zG
 refine wpAny_setField_rec zG (by simp) fun hK zK sK=>?_
 have zK:IsZip hK z TI TO (rawInt hE.objs.size):=zK
 have up:∀ c o,c≠z->hE.get? c=some o->hK.get? c=some o:=fun c o c1 e=>sK.extBut _ _ c1 (sG.extBut _ _ c1 (Heap.get?_push_of_some _ e))
 have nz:hE.objs.size≠z:=Nat.ne_of_gt (Heap.lt_size zE)
 have tK:IsPair hK hE.objs.size x y:=sK.extBut _ _ nz (sG.extBut _ _ nz (Heap.get?_push_size _ rfl))
 rw [ez] at zK tK
 refine wpAny_pure ⟨_,rfl,?_⟩
 show Q (.ref hE.objs.size) _
 rw [ez]
 exact q hK zK (up _ _ D.TOz tE) (i1E.at fun o e=>up _ o D.i1z e) (i2E.at fun o e=>up _ o D.i2z e) tK fun c o c1 c2 c3 c4 e=>up c o c1 (kE c o c1 c2 c3 c4 e)
theorem Ai {k1 k2:Bool} {z TI TO i1 i2 l1 l2:Addr} {i:Nat} {xs ys:Array Value} {a b:Value} {Q:Fin->Shared->Prop} (hh:A.handled=none) (D:ZipApart z TI TO i1 i2 l1 l2) (hz:IsZip s.heap z TI TO .none) (Ig:IsPair s.heap TI (.ref i1) (.ref i2)) (IS:IsPair s.heap TO a b)
  (h1:IsIt k1 s.heap i1 l1 i) (h2:IsIt k2 s.heap i2 l2 i) (g1:IsSq k1 s.heap l1 xs) (g2:IsSq k2 s.heap l2 ys) (he:xs[i]?=none\/ys[i]?=none)
  (q:∀ h' e,(∀ c o,c≠z->c≠TO->c≠i1->c≠i2->s.heap.get? c=some o->h'.get? c=some o)->(∃ o,h'.get? e=some o/\o.cls=.type "StopIteration")->E (.ref e) { s with heap:=h' }) :
  wpAny (model prog w) A (Builtin.«zip.__next__» ⟨[.ref z],[]⟩) Q E s:=by
 show wpAny _ _ (field (.ref z) 2 >>= _) _ _ _
 refine wpAny_bind (wpAny_field hz rfl (x:=.bool false) rfl ?_)
 show wpAny _ _ (field (.ref z) 3 >>= _) _ _ _
 refine wpAny_bind (wpAny_field hz rfl (x:=.ref TI) rfl (wpAny_bind (wpAny_seqItems Ig rfl ?_)))
 show wpAny _ _ (Builtin.SmallTypes.ownedTupleIsFree (.ref z) >>= _) _ _ _
 refine wpAny_bind ?_
 unfold Builtin.SmallTypes.ownedTupleIsFree
 refine wpAny_bind (wpAny_field hz rfl (x:=.none) rfl (wpAny_pure ?_))
 rw [if_pos (by rfl)]
 refine wpAny_bind (wpAny_rule (wpAny_bind (wpAny_field hz rfl (x:=.ref TO) rfl (wpAny_bind (wpAny_setField_rec hz (by simp) fun hA zA sA=>?_)))))
 have zA:IsZip hA z TI TO .ellipsis:=zA
 refine wpAny_bind ?_
 simp only [List.zipIdx_cons,List.zipIdx_nil,List.forIn_cons,List.forIn_nil]
 refine wpAny_bind (wpAny_bind (wpAny_onRaise ?_))
 show wpAny _ _ (Builtin.SmallTypes.nextOf (.ref i1) >>= _) _ _ _
 cases hx:xs[i]? with
 | none=>
  refine wpAny_bind (wF hh (h1.at fun o e=>sA.extBut _ _ D.i1z e) (g1.at fun o e=>sA.extBut _ _ D.l1z e) hx fun hB e sB EE=>?_)
  obtain ⟨oe,ge,ce⟩:=EE
  have zB:IsZip hB z TI TO .ellipsis:=sB _ _ D.i1z.symm zA
  have ne:e≠z:=fun x=>by subst x;rw [zB] at ge;cases ge;simp at ce
  exact wpAny_setField_rec zB (by simp) fun hC _ sC=>q hC e (fun c o c1 _ c3 _ x=>sC.extBut _ _ c1 (sB _ _ c3 (sA.extBut _ _ c1 x))) ⟨oe,sC.extBut _ _ ne ge,ce⟩
 | some x=>
  have hy:ys[i]?=none:=by
   rcases he with z | z
   ·rw [hx] at z;cases z
   ·exact z
  refine wpAny_bind (oU (h1.at fun o e=>sA.extBut _ _ D.i1z e) (g1.at fun o e=>sA.extBut _ _ D.l1z e) hx fun hB iB sB=>wpAny_pure ?_)
  have tB:IsPair hB TO a b:=sB.extBut _ _ D.TOi1 (sA.extBut _ _ D.TOz IS)
  refine wpAny_bind (wpAny_seqItems tB rfl (wpAny_bind (wpAny_updateSeq_pair tB fun hC tC sC=>wpAny_bind (wpAny_letGo (wpAny_pure ?_)))))
  refine wpAny_bind (wpAny_bind (wpAny_onRaise ?_))
  show wpAny _ _ (Builtin.SmallTypes.nextOf (.ref i2) >>= _) _ _ _
  refine wpAny_bind (wF hh (h2.at fun o e=>sC.extBut _ _ D.TOi2.symm (sB.extBut _ _ D.i12.symm (sA.extBut _ _ D.i2z e))) (g2.at fun o e=>sC.extBut _ _ D.l2TO (sB.extBut _ _ D.l2i1 (sA.extBut _ _ D.l2z e))) hy fun hD e sD EE=>?_)
  obtain ⟨oe,ge,ce⟩:=EE
  have zD:IsZip hD z TI TO .ellipsis:=sD _ _ D.i2z.symm (sC.extBut _ _ D.TOz.symm (sB.extBut _ _ D.i1z.symm zA))
  have ne:e≠z:=fun x=>by subst x;rw [zD] at ge;cases ge;simp at ce
  exact wpAny_setField_rec zD (by simp) fun hF _ sF=>q hF e (fun c o c1 c2 c3 c4 x=>sF.extBut _ _ c1 (sD _ _ c4 (sC.extBut _ _ c2 (sB.extBut _ _ c3 (sA.extBut _ _ c1 x))))) ⟨oe,sF.extBut _ _ ne ge,ce⟩
end
noncomputable def itObj (k:Bool) (l:Addr):Obj:=match k with
 | true=>{ cls:=.type "list_iterator",data:=.fields #[.ref l,.int 0 0] }
 | false=>{ cls:=.type "tuple_iterator",data:=.fields #[.ref l,.int 0 0] }
theorem pV (k:Bool) (h:Heap) (l:Addr):IsIt k (h.push (itObj k l)) h.objs.size l 0:=by
 cases k with
 | true=>exact ⟨_,Heap.get?_push_size _ rfl,rfl,rfl⟩
 | false=>exact ⟨_,Heap.get?_push_size _ rfl,rfl,rfl⟩
abbrev zA (h:Heap) (k1:Bool) (l1:Addr):Heap:=h.push (itObj k1 l1)
abbrev zB (h:Heap) (k1 k2:Bool) (l1 l2:Addr):Heap:=(zA h k1 l1).push (itObj k2 l2)
abbrev zC (h:Heap) (k1 k2:Bool) (l1 l2:Addr):Heap:=(zB h k1 k2 l1 l2).push { cls:=.type "tuple",data:=.seq #[.ref h.objs.size,.ref (zA h k1 l1).objs.size] }
abbrev zD (h:Heap) (k1 k2:Bool) (l1 l2:Addr):Heap:=(zC h k1 k2 l1 l2).push { cls:=.type "tuple",data:=.seq #[.none,.none] }
abbrev zE (h:Heap) (k1 k2:Bool) (l1 l2:Addr):Heap:=(zD h k1 k2 l1 l2).push { cls:=.type "zip",data:=.fields #[.none,.bool false,.bool false,.ref (zB h k1 k2 l1 l2).objs.size,.ref (zC h k1 k2 l1 l2).objs.size] }
set_option maxHeartbeats 8000000 in
theorem Aj (k1 k2:Bool) (l1 l2:Addr) (xs ys:Array Value) :
  Meets (Builtin.«zip.__new__» ⟨[.type "zip",.ref l1,.ref l2],[]⟩) (fun _ R s=>IsSq k1 s.heap l1 xs/\IsSq k2 s.heap l2 ys/\R (.ok (.ret (.ref (zD s.heap k1 k2 l1 l2).objs.size))) { s with heap:=zE s.heap k1 k2 l1 l2 }):=
 .of_wp fun prog w A R s h=>by
  obtain ⟨hp,g,d,tk,os⟩:=s
  obtain ⟨g1,g2,q⟩:=h
  have hsub:=sub_zip
  cases k1 with
  | true=>
   have e1:Heap.IsList (Shared.heap ⟨hp,g,d,tk,os⟩) l1 xs:=g1
   cases k2 with
   | true=>
    have e2:Heap.IsList (Shared.heap ⟨hp.push { cls:=.type "list_iterator",data:=.fields #[.ref l1,.int 0 0] },g,d,tk,os⟩) l2 ys:=Heap.IsList.push g2 _
    wp_walk using wpAny_pyIter_list e1,wpAny_pyIter_list e2
    exact ⟨_,rfl,q⟩
   | false=>
    have e2:Heap.IsTuple (Shared.heap ⟨hp.push { cls:=.type "list_iterator",data:=.fields #[.ref l1,.int 0 0] },g,d,tk,os⟩) l2 ys:=Heap.IsTuple.push g2 _
    wp_walk using wpAny_pyIter_list e1,wpAny_pyIter_tuple e2
    exact ⟨_,rfl,q⟩
  | false=>
   have e1:Heap.IsTuple (Shared.heap ⟨hp,g,d,tk,os⟩) l1 xs:=g1
   cases k2 with
   | true=>
    have e2:Heap.IsList (Shared.heap ⟨hp.push { cls:=.type "tuple_iterator",data:=.fields #[.ref l1,.int 0 0] },g,d,tk,os⟩) l2 ys:=Heap.IsList.push g2 _
    wp_walk using wpAny_pyIter_tuple e1,wpAny_pyIter_list e2
    exact ⟨_,rfl,q⟩
   | false=>
    have e2:Heap.IsTuple (Shared.heap ⟨hp.push { cls:=.type "tuple_iterator",data:=.fields #[.ref l1,.int 0 0] },g,d,tk,os⟩) l2 ys:=Heap.IsTuple.push g2 _
    wp_walk using wpAny_pyIter_tuple e1,wpAny_pyIter_tuple e2
    exact ⟨_,rfl,q⟩
def ZS (k1 k2:Bool) (z TI TO i1 i2 l1 l2:Addr) (i:Nat) (h:Heap):Prop:=IsZip h z TI TO .none/\IsPair h TI (.ref i1) (.ref i2)/\(∃ a b,IsPair h TO a b)/\IsIt k1 h i1 l1 i/\IsIt k2 h i2 l2 i
theorem xS {prog:Program} {w:World} {A:Around} {E:Value->Shared->Prop} {s:Shared} {k1 k2:Bool} {l1 l2:Addr} {xs ys:Array Value} {Q:Value->Shared->Prop} (g1:IsSq k1 s.heap l1 xs) (g2:IsSq k2 s.heap l2 ys)
  (q:∀ h',ZS k1 k2 (s.heap.objs.size + 4) (s.heap.objs.size + 2) (s.heap.objs.size + 3) s.heap.objs.size (s.heap.objs.size + 1) l1 l2 0 h'->(∀ c o,s.heap.get? c=some o->h'.get? c=some o)->Q (.ref (s.heap.objs.size + 4)) { s with heap:=h' }) :
  wpAny (model prog w) A (call (.type "zip") [.ref l1,.ref l2]) Q E s:=by
 refine callType_new F.called_zip (by decide) (F.typeCall_zip_2 _ _) (F.newCall_zip_2 _ _) (fun obj=>F.args_object_init_3 obj _ _) F.entry_zip_new (Aj k1 k2 l1 l2 xs ys) ⟨g1,g2,?_⟩
 have nA:(zA s.heap k1 l1).objs.size=s.heap.objs.size + 1:=Heap.size_push ..
 have nB:(zB s.heap k1 k2 l1 l2).objs.size=s.heap.objs.size + 2:=by rw [Heap.size_push,nA]
 have nC:(zC s.heap k1 k2 l1 l2).objs.size=s.heap.objs.size + 3:=by rw [Heap.size_push,nB]
 have nD:(zD s.heap k1 k2 l1 l2).objs.size=s.heap.objs.size + 4:=by rw [Heap.size_push,nC]
 have pu:∀ {h:Heap} {o:Obj} {c:Addr} {v:Obj},h.get? c=some v->(h.push o).get? c=some v:=fun e=>Heap.get?_push_of_some _ e
 have gz:(zE s.heap k1 k2 l1 l2).get? (zD s.heap k1 k2 l1 l2).objs.size=some _:=Heap.get?_push_size _ rfl
 have go:(zE s.heap k1 k2 l1 l2).get? (zC s.heap k1 k2 l1 l2).objs.size=some _:=pu (Heap.get?_push_size _ rfl)
 have gi:(zE s.heap k1 k2 l1 l2).get? (zB s.heap k1 k2 l1 l2).objs.size=some _:=pu (pu (Heap.get?_push_size _ rfl))
 have j2:IsIt k2 (zE s.heap k1 k2 l1 l2) (zA s.heap k1 l1).objs.size l2 0:=(pV k2 (zA s.heap k1 l1) l2).at fun o e=>pu (pu (pu e))
 have j1:IsIt k1 (zE s.heap k1 k2 l1 l2) s.heap.objs.size l1 0:=(pV k1 s.heap l1).at fun o e=>pu (pu (pu (pu e)))
 show _/\_
 rw [nB,nC,nD] at gz
 rw [nA,nB] at gi
 rw [nC] at go
 rw [nA] at j2
 rw [nD]
 exact ⟨⟨_,gz,rfl⟩,q _ ⟨gz,gi,⟨_,_,go⟩,j1,j2⟩ fun c o x=>pu (pu (pu (pu (pu x))))⟩
noncomputable def NM (K:W.Frag) (k1 k2:Bool) (a b:Addr):It:=
 ⟨fun i H=>∃ xs ys x y,(if k1 then SqL K H a xs else SqT K H a xs)/\(if k2 then SqL K H b ys else SqT K H b ys)/\xs[i]?=some x/\ys[i]?=some y,
  fun i H v H'=>∃ T,H T=none/\v=.ref T/\∀ xs ys x y,(if k1 then SqL K H a xs else SqT K H a xs)->(if k2 then SqL K H b ys else SqT K H b ys)->xs[i]?=some x->ys[i]?=some y->H'=upd H T (.tup [x,y]),
  fun i H=>∃ xs ys,(if k1 then SqL K H a xs else SqT K H a xs)/\(if k2 then SqL K H b ys else SqT K H b ys)/\i=min xs.length ys.length⟩
section
variable {X:Cx} {pins:List (Addr×Obj)} {σ:L2.St} {H:Hp} {s:Shared}
theorem qV (I:Inv X pins σ H s) {k:Bool} {a:Addr} {xs:List V} (h:if k then SqL X.K H a xs else SqT X.K H a xs):∃ us:List Value,Vals xs us/\IsSq k s.heap a us.toArray:=by
 cases k with
 | true=>
  obtain ⟨us,r,p,_⟩:=I.list (show SqL X.K H a xs from h)
  exact ⟨us,r,p.isList⟩
 | false=>
  obtain ⟨us,r,p,_⟩:=I.tuple (show SqT X.K H a xs from h)
  exact ⟨us,r,(show s.heap.IsTuple a us.toArray from p)⟩
theorem wG (I:Inv X pins σ H s) {k:Bool} {a:Addr} {xs ys:List V} (h:if k then SqL X.K H a xs else SqT X.K H a xs) (h':if k then SqL X.K H a ys else SqT X.K H a ys):xs=ys:=by
 cases k with
 | true=>exact I.list_inj (show SqL X.K H a xs from h) (show SqL X.K H a ys from h')
 | false=>exact I.tuple_inj (show SqT X.K H a xs from h) (show SqT X.K H a ys from h')
theorem gK (I:Inv X pins σ H s) {k:Bool} {a b:Addr} {xs:List V} (h:if k then SqL X.K H a xs else SqT X.K H a xs) (f:rN X pins H b):a≠b:=by
 rintro rfl
 obtain ⟨f0,_,_,f3,_⟩:=f
 have nb:∀ o,X.K.lookup a=some o->False:=fun o hk=>by
  have e:=I.ok.mod.kin a o hk
  rcases f3 with z | z
  ·exact I.ok.noex a o e z
  ·exact absurd (Nat.lt_of_lt_of_le (Heap.lt_size e) (Nat.le_trans I.ok.bsz z)) (Nat.lt_irrefl _)
 cases k with
 | true=>
  rcases (show SqL X.K H a xs from h) with (h | ⟨o,h⟩) | ⟨o,El,n,hk,_⟩
  ·rw [f0] at h;cases h
  ·rw [f0] at h;cases h
  ·exact nb o hk
 | false=>
  rcases (show SqT X.K H a xs from h) with (h | ⟨o,h⟩) | ⟨o,El,n,hk,_⟩
  ·rw [f0] at h;cases h
  ·rw [f0] at h;cases h
  ·exact nb o hk
end
theorem nx_zip_item {prog:Program} {w:World} {A:Around} {E:Value->Shared->Prop} {s:Shared} {k1 k2:Bool} {z TI TO i1 i2 l1 l2:Addr} {i:Nat} {xs ys:Array Value} {x y:Value} {Q:Option Value->Shared->Prop} (D:ZipApart z TI TO i1 i2 l1 l2) (st:ZS k1 k2 z TI TO i1 i2 l1 l2 i s.heap)
  (g1:IsSq k1 s.heap l1 xs) (g2:IsSq k2 s.heap l2 ys) (hx:xs[i]?=some x) (hy:ys[i]?=some y)
  (q:∀ h',IsZip h' z TI TO (rawInt s.heap.objs.size)->IsPair h' TO x y->IsIt k1 h' i1 l1 (i + 1)->IsIt k2 h' i2 l2 (i + 1)->IsPair h' s.heap.objs.size x y->
   (∀ c o,c≠z->c≠TO->c≠i1->c≠i2->s.heap.get? c=some o->h'.get? c=some o)->Q (some (.ref s.heap.objs.size)) { s with heap:=h' }):wpAny (model prog w) A (pyNext (.ref z)) Q E s:=by
 obtain ⟨hz,Ig,⟨a,b,IS⟩,h1,h2⟩:=st
 have ty:s.TypeIs (.ref z) "zip":=⟨_,hz,rfl⟩
 unfold pyNext
 exact wpAny_bind (wpAny_attempt (wpAny_callSpecial?_slot (name:=Str.ofString "__next__") ty F.slot_zip_next (wpAny_call_entry F.slot_zip_next ty F.entry_zip_next (xR D hz Ig IS h1 h2 g1 g2 hx hy fun h' a1 a2 a3 a4 a5 a6=>wpAny_pure (q h' a1 a2 a3 a4 a5 a6)) (F.args_zip_next_1 _))))
theorem qW {prog:Program} {w:World} {A:Around} {E:Value->Shared->Prop} {s:Shared} {k1 k2:Bool} {z TI TO i1 i2 l1 l2:Addr} {i:Nat} {xs ys:Array Value} {Q:Option Value->Shared->Prop} (hh:A.handled=none) (D:ZipApart z TI TO i1 i2 l1 l2) (st:ZS k1 k2 z TI TO i1 i2 l1 l2 i s.heap)
  (g1:IsSq k1 s.heap l1 xs) (g2:IsSq k2 s.heap l2 ys) (he:xs[i]?=none\/ys[i]?=none) (q:∀ h',(∀ c o,c≠z->c≠TO->c≠i1->c≠i2->s.heap.get? c=some o->h'.get? c=some o)->Q none { s with heap:=h' }):wpAny (model prog w) A (pyNext (.ref z)) Q E s:=by
 obtain ⟨hz,Ig,⟨a,b,IS⟩,h1,h2⟩:=st
 have ty:s.TypeIs (.ref z) "zip":=⟨_,hz,rfl⟩
 unfold pyNext
 refine wpAny_bind (wpAny_attempt (wpAny_callSpecial?_slot (name:=Str.ofString "__next__") ty F.slot_zip_next (wpAny_call_entry F.slot_zip_next ty F.entry_zip_next (Ai hh D hz Ig IS h1 h2 g1 g2 he fun h' e kk ⟨o,ho,oc⟩=>?_) (F.args_zip_next_1 _))))
 exact wpAny_bind (wpAny_isInstance (T:="StopIteration") (b:=true) ⟨o,ho,oc⟩ isSubtype_stop (wpAny_pure (q _ kk)))
theorem vC {P:Program} {w:World} {K:W.Frag} {es:List Expr} {kt:Nat} {pt:Pos} (k1 k2:Bool) (a b z TI TO i1 i2:Addr) (ne:z≠TI/\z≠TO/\z≠i1/\z≠i2/\TI≠TO/\TI≠i1/\TI≠i2/\TO≠i1/\TO≠i2/\i1≠i2) :
  Turn P w K (.Tuple es kt pt) (NM K k1 k2 a b) [z,TI,TO,i1,i2] z (ZS k1 k2 z TI TO i1 i2 a b) where
 mem:=by simp
 obj:=fun i h st c hc=>by
  obtain ⟨hz,Ig,⟨x,y,IS⟩,h1,h2⟩:=st
  simp only [List.mem_cons,List.not_mem_nil,or_false] at hc
  rcases hc with rfl | rfl | rfl | rfl | rfl
  ·exact ⟨_,hz,fun v q=>by cases q⟩
  ·exact ⟨_,Ig,fun v q=>by cases q⟩
  ·exact ⟨_,IS,fun v q=>by cases q⟩
  ·exact h1.obj
  ·exact h2.obj
 keep:=fun i h h' st k=>by
  obtain ⟨hz,Ig,⟨x,y,IS⟩,h1,h2⟩:=st
  exact ⟨k z (by simp) _ hz,k TI (by simp) _ Ig,⟨x,y,k TO (by simp) _ IS⟩,h1.at fun o e=>k i1 (by simp) o e,h2.at fun o e=>k i2 (by simp) o e⟩
 item:=by
  intro X hP hw hK hc i pins s σ H E I hf st hg
  subst hP hw hK
  obtain ⟨xs,ys,x,y,s1,s2,hx,hy⟩:=hg
  obtain ⟨us,r1,q1⟩:=qV I s1
  obtain ⟨ws,r2,q2⟩:=qV I s2
  obtain ⟨u,hu,ru⟩:=r1.get hx
  obtain ⟨v,hv,rv⟩:=r2.get hy
  obtain ⟨n1,n2,n3,n4,n5,n6,n7,n8,n9,NN⟩:=ne
  have f:=fun c hc=>hf c hc
  have D:ZipApart z TI TO i1 i2 a b:=⟨n1.symm,n2.symm,n3.symm,n4.symm,n5,n6,n7,n8,n9,NN,gK I s1 (f z (by simp)),gK I s1 (f TO (by simp)),gK I s1 (f i1 (by simp)),gK I s1 (f i2 (by simp)),
   gK I s2 (f z (by simp)),gK I s2 (f TO (by simp)),gK I s2 (f i1 (by simp)),gK I s2 (f i2 (by simp))⟩
  have Ig:=st.2.1
  refine nx_zip_item D st q1 q2 (by simpa using hu) (by simpa using hv) fun h' z1 t1 j1 j2 tp kk=>⟨_,rfl,?_⟩
  refine wpAny_letOwnedTupleGo_zip z1 fun h2 z2 sb=>?_
  have nT:H s.heap.objs.size=none:=I.hok.fresh (Nat.le_refl _)
  have tT:s.heap.objs.size≠z:=Nat.ne_of_gt (Heap.lt_size st.1)
  have all:∀ c o,c≠z->c≠TO->c≠i1->c≠i2->s.heap.get? c=some o->h2.get? c=some o:=fun c o c1 c2 c3 c4 e=>(sb.2 c c1).trans (kk c o c1 c2 c3 c4 e)
  have fz:=f z (by simp)
  have fo:=f TO (by simp)
  have f1:=f i1 (by simp)
  have f2:=f i2 (by simp)
  have K3:∀ c ob,H c=some ob->c≠z/\c≠TO/\c≠i1/\c≠i2:=fun c ob e=>⟨(fun q=>by rw [q,fz.1] at e;cases e),(fun q=>by rw [q,fo.1] at e;cases e),(fun q=>by rw [q,f1.1] at e;cases e),(fun q=>by rw [q,f2.1] at e;cases e)⟩
  refine ⟨.ref s.heap.objs.size,upd H s.heap.objs.size (.tup [x,y]),?_,rfl,⟨_,nT,rfl,fun Gb ys' x' y' a1 a2 a3 a4=>?_⟩,⟨z2,?_,⟨u,v,(sb.2 TO n2.symm).trans t1⟩,j1.at fun o e=>(sb.2 i1 n3.symm).trans e,j2.at fun o e=>(sb.2 i2 n4.symm).trans e⟩,fun c hc=>?_⟩
  ·have tup2:h2.get? s.heap.objs.size=some { cls:=.type "tuple",data:=.seq #[u,v] }:=(sb.2 _ tT).trans tp
   have S0:Inv X pins σ (upd H s.heap.objs.size (.tup [x,y])) { s with heap:=h2,gens:=s.gens,drawn:=s.drawn,toks:=s.toks }:=by
    refine I.step (ch:=[z,TO,i1,i2]) (fun c hc=>?_) (fun c o _ _ nc e _=>all c o (fun q=>nc (by simp [q])) (fun q=>nc (by simp [q])) (fun q=>nc (by simp [q])) (fun q=>nc (by simp [q])) e)
     (fun c o _ _ nc e _=>⟨o.slots,all c o (fun q=>nc (by simp [q])) (fun q=>nc (by simp [q])) (fun q=>nc (by simp [q])) (fun q=>nc (by simp [q])) e⟩) (fun c o _ e n=>by rw [aP (Nat.ne_of_lt (Heap.lt_size e))];exact n)
     (fun c o nc e=>⟨o,all c o (fun q=>nc (by simp [q])) (fun q=>nc (by simp [q])) (fun q=>nc (by simp [q])) (fun q=>nc (by simp [q])) e⟩) (fun c l e=>by rw [aP (bg e nT)];exact e) (fun c o u' e=>by rw [aP (bg e nT)];exact e)
     (fun c ps e=>⟨#[],by rw [aP (bg e nT),e];simp⟩) (fun m hm=>?_) (fun c ob e=>?_) I.bare
    ·simp only [List.mem_cons,List.not_mem_nil,or_false] at hc
     rcases hc with rfl | rfl | rfl | rfl
     ·exact ⟨fz.2.2.2.1,fz.2.1,fz.2.2.2.2.1,fz.2.2.2.2.2⟩
     ·exact ⟨fo.2.2.2.1,fo.2.1,fo.2.2.2.2.1,fo.2.2.2.2.2⟩
     ·exact ⟨f1.2.2.2.1,f1.2.1,f1.2.2.2.2.1,f1.2.2.2.2.2⟩
     ·exact ⟨f2.2.2.2.1,f2.2.1,f2.2.2.2.2.1,f2.2.2.2.2.2⟩
    ·obtain ⟨o,es,ep,ho,r⟩:=hm
     exact ⟨o,es,ep,all _ o (Ne.symm fz.2.1) (Ne.symm fo.2.1) (Ne.symm f1.2.1) (Ne.symm f2.2.1) ho,r⟩
    ·by_cases ec:c=s.heap.objs.size
     ·subst ec
      rw [bK] at e
      cases e
      exact ⟨by simp only [List.length_cons,List.length_nil];rw [sizeLine_eq];decide,[u,v],.cons ru (.cons rv .nil),⟨_,tup2,rfl,⟨0,rfl⟩,rfl⟩⟩
     ·rw [aP ec] at e
      refine (I.hok c ob e).stay (fun d w' hd q=>?_) (fun d q=>by rw [aP (bg q nT)];exact q) fun d l q=>by rw [aP (bg q nT)];exact q
      have KP:∃ oo,H d=some oo:=by
       rcases hd with rfl | hd
       ·exact ⟨_,e⟩
       ·exact ⟨_,hd⟩
      obtain ⟨oo,NO⟩:=KP
      obtain ⟨m1,m2,m3,m4⟩:=K3 d oo NO
      exact all d w' m1 m2 m3 m4 q
   exact S0
  ·have e1:=wG I a1 s1
   have e2:=wG I a2 s2
   subst e1 e2
   rw [hx] at a3
   rw [hy] at a4
   cases a3
   cases a4
   rfl
  ·exact (sb.2 TI n1.symm).trans (kk TI _ n1.symm n5 n6 n7 Ig)
  ·have hc0:=(f c hc).1
   have cs:c≠s.heap.objs.size:=by
    have:=(fun i h st=>by
     exact (by
      obtain ⟨hz,Ig,⟨x,y,IS⟩,h1,h2⟩:=st
      simp only [List.mem_cons,List.not_mem_nil,or_false] at hc
      rcases hc with rfl | rfl | rfl | rfl | rfl
      ·exact ⟨_,hz⟩
      ·exact ⟨_,Ig⟩
      ·exact ⟨_,IS⟩
      ·obtain ⟨o,e,_⟩:=h1.obj;exact ⟨o,e⟩
      ·obtain ⟨o,e,_⟩:=h2.obj;exact ⟨o,e⟩:∃ o,h.get? c=some o):∀ i h,ZS k1 k2 z TI TO i1 i2 a b i h->∃ o,h.get? c=some o) i s.heap st
    obtain ⟨o,e⟩:=this
    exact Nat.ne_of_lt (Heap.lt_size e)
   rw [aP cs]
   exact hc0
 done:=by
  intro X hP hw hK hc i pins s σ H E I hf st hg
  subst hP hw hK
  obtain ⟨xs,ys,s1,s2,hi⟩:=hg
  obtain ⟨us,r1,q1⟩:=qV I s1
  obtain ⟨ws,r2,q2⟩:=qV I s2
  have l1:=r1.length
  have l2:=r2.length
  obtain ⟨n1,n2,n3,n4,n5,n6,n7,n8,n9,NN⟩:=ne
  have f:=fun c hc=>hf c hc
  have D:ZipApart z TI TO i1 i2 a b:=⟨n1.symm,n2.symm,n3.symm,n4.symm,n5,n6,n7,n8,n9,NN,gK I s1 (f z (by simp)),gK I s1 (f TO (by simp)),gK I s1 (f i1 (by simp)),gK I s1 (f i2 (by simp)),
   gK I s2 (f z (by simp)),gK I s2 (f TO (by simp)),gK I s2 (f i1 (by simp)),gK I s2 (f i2 (by simp))⟩
  have fz:=f z (by simp)
  have fo:=f TO (by simp)
  have f1:=f i1 (by simp)
  have f2:=f i2 (by simp)
  refine qW (I.ok.hd hc) D st q1 q2 (by
   rcases Nat.le_total us.length ws.length with q | q
   ·exact .inl (by simp;lia)
   ·exact .inr (by simp;lia)) fun h' kk=>⟨rfl,?_⟩
  have K3:∀ c ob,H c=some ob->c≠z/\c≠TO/\c≠i1/\c≠i2:=fun c ob e=>⟨(fun q=>by rw [q,fz.1] at e;cases e),(fun q=>by rw [q,fo.1] at e;cases e),(fun q=>by rw [q,f1.1] at e;cases e),(fun q=>by rw [q,f2.1] at e;cases e)⟩
  have S0:Inv X pins σ H { s with heap:=h',gens:=s.gens,drawn:=s.drawn,toks:=s.toks }:=by
   refine I.step (ch:=[z,TO,i1,i2]) (fun c hc=>?_) (fun c o _ _ nc e _=>kk c o (fun q=>nc (by simp [q])) (fun q=>nc (by simp [q])) (fun q=>nc (by simp [q])) (fun q=>nc (by simp [q])) e)
    (fun c o _ _ nc e _=>⟨o.slots,kk c o (fun q=>nc (by simp [q])) (fun q=>nc (by simp [q])) (fun q=>nc (by simp [q])) (fun q=>nc (by simp [q])) e⟩) (fun c o _ e n=>n)
    (fun c o nc e=>⟨o,kk c o (fun q=>nc (by simp [q])) (fun q=>nc (by simp [q])) (fun q=>nc (by simp [q])) (fun q=>nc (by simp [q])) e⟩) (fun c l e=>e) (fun c o u' e=>e)
    (fun c ps e=>⟨#[],by rw [e];simp⟩) (fun m hm=>?_) (fun c ob e=>?_) I.bare
   ·simp only [List.mem_cons,List.not_mem_nil,or_false] at hc
    rcases hc with rfl | rfl | rfl | rfl
    ·exact ⟨fz.2.2.2.1,fz.2.1,fz.2.2.2.2.1,fz.2.2.2.2.2⟩
    ·exact ⟨fo.2.2.2.1,fo.2.1,fo.2.2.2.2.1,fo.2.2.2.2.2⟩
    ·exact ⟨f1.2.2.2.1,f1.2.1,f1.2.2.2.2.1,f1.2.2.2.2.2⟩
    ·exact ⟨f2.2.2.2.1,f2.2.1,f2.2.2.2.2.1,f2.2.2.2.2.2⟩
   ·obtain ⟨o,es,ep,ho,r⟩:=hm
    exact ⟨o,es,ep,kk _ o (Ne.symm fz.2.1) (Ne.symm fo.2.1) (Ne.symm f1.2.1) (Ne.symm f2.2.1) ho,r⟩
   ·refine (I.hok c ob e).stay (fun d w' hd q=>?_) (fun d q=>q) fun d l q=>q
    have KP:∃ oo,H d=some oo:=by
     rcases hd with rfl | hd
     ·exact ⟨_,e⟩
     ·exact ⟨_,hd⟩
    obtain ⟨oo,NO⟩:=KP
    obtain ⟨m1,m2,m3,m4⟩:=K3 d oo NO
    exact kk d w' m1 m2 m3 m4 q
  exact S0
 self:=fun _ _ _ _ _ st h=>wpAny_pyIter_zip st.1 h
section
variable {X:Cx} {es:List Expr} {kt:Nat} {pt:Pos}
noncomputable def D0 (K:W.Frag) (k1 k2:Bool) (ta:TA):TI:=fun σ H R=>ta σ H fun vs H1=>∃ a b xs ys,vs=[.ref a,.ref b]/\(if k1 then SqL K H1 a xs else SqT K H1 a xs)/\(if k2 then SqL K H1 b ys else SqT K H1 b ys)/\R (NM K k1 k2 a b) H1
theorem Ak (k1 k2:Bool) {e1 e2:Expr} {ta:TA} {p pos:Pos} (hg:Gl X "zip") (hm:X.mg "zip" = none) (ha:PA X [e1,e2] ta) (he:starEach [e1,e2] X.env=(false,eval e1 X.env) :: starEach [e2] X.env:=by rfl) (Gm:(backTo pos (starEach [e2] X.env)).any (·.1)=false:=by rfl) :
  PI X (.Tuple es kt pt) (.Call (.Name "zip" p) [e1,e2] [] pos) (D0 X.K k1 k2 ta):=by
 intro pins s σ H R I h
 refine wpAny_Call_Name_kw (jL I hg hm (by decide +kernel:bootBuiltins "zip" = some (.type "zip")) ?_ (by decide) (by decide))
 refine PyProof.Rows.callWith_type1 (ED (ha pos pins s σ H _ I h) fun us s1 ⟨vs,H1,I1,r1,a,b,xs,ys,e,s1',s2',q⟩=>?_) he Gm
 subst e
 obtain ⟨u,w',rfl,ra,rb⟩:=vf r1
 cases ra
 cases rb
 obtain ⟨us,v1,q1⟩:=qV I1 s1'
 obtain ⟨ws,v2,q2⟩:=qV I1 s2'
 refine xS q1 q2 fun h' st kk=>?_
 refine wpAny_pyIter_zip st.1 ?_
 have fr:∀ j,rN X pins H1 (s1.heap.objs.size + j):=fun j=>I1.fpOk (Nat.le_add_right _ _) (I1.hok.fresh (Nat.le_add_right _ _))
 have nn:∀ i j:Nat,i≠j->s1.heap.objs.size + i≠s1.heap.objs.size + j:=fun i j h z=>h (Nat.add_left_cancel z)
 refine ⟨_,_,_,_,H1,rfl,I1.kept (t':=s1.toks) kk,vC k1 k2 a b (s1.heap.objs.size + 4) (s1.heap.objs.size + 2) (s1.heap.objs.size + 3) (s1.heap.objs.size + 0) (s1.heap.objs.size + 1)
  ⟨nn 4 2 (by decide),nn 4 3 (by decide),nn 4 0 (by decide),nn 4 1 (by decide),nn 2 3 (by decide),nn 2 0 (by decide),nn 2 1 (by decide),nn 3 0 (by decide),nn 3 1 (by decide),nn 0 1 (by decide)⟩,st,fun c hc=>?_,q⟩
 simp only [List.mem_cons,List.not_mem_nil,or_false] at hc
 rcases hc with rfl | rfl | rfl | rfl | rfl
 ·exact fr 4
 ·exact fr 2
 ·exact fr 3
 ·exact fr 0
 ·exact fr 1
end
end NX
namespace NX
open PySem PySem.W PyProof.Rows
section
variable {n:Nat} {O:KeyOrd} {κ:Nat->O.α} {cmp:Nat->Nat->(Bool->Shared->Prop)->Shared->Prop} {Good:Shared->Prop}
noncomputable def kk (κ:Nat->O.α) (p:Array Nat) (i:Nat):O.α:=κ (p.getD i 0)
structure POk (n:Nat) (p:Array Nat):Prop where
 perm:p.toList.Perm (List.range n)
theorem POk.size {p:Array Nat} (h:POk n p):p.size=n:=by
 have:=h.perm.length_eq
 simpa using this
theorem POk.lt {p:Array Nat} (h:POk n p) {i:Nat} (hi:i < n):p.getD i 0 < n:=by
 have hs:=h.size
 have JK:i < p.size:=by lia
 have e:p.getD i 0=p[i]:=by simp [Array.getD,JK]
 rw [e]
 exact List.mem_range.mp (h.perm.mem_iff.mp (Array.getElem_mem_toList JK))
theorem POk.of {p q:Array Nat} (h:POk n p) (hq:q.Perm p):POk n q:=⟨(Array.perm_iff_toList_perm.mp hq).trans h.perm⟩
def bp (κ:Nat->O.α) (p:Array Nat) (m:Nat):Prop:=∀ i j,i<=j->j < m->O.kle (kk κ p i) (kk κ p j)
def e8 (κ:Nat->O.α) (p:Array Nat) (m:Nat):Prop:=∀ i j,i<=j->j < m->O.kle (kk κ p j) (kk κ p i)
theorem eI {p q:Array Nat} {i j:Nat} (h:p[i]?=q[j]?):p.getD i 0=q.getD j 0:=by
 rw [Array.getD_eq_getD_getElem?,Array.getD_eq_getD_getElem?,h]
theorem pW {p:Array Nat} {i j:Nat} (hj:j<=p.size) (k:Nat):kk κ (kas_rev p i j) k=if i<=k/\k < j then kk κ p (i + j - 1 - k) else kk κ p k:=by
 have e:=getElem?_mirror_all (i:=i) hj k
 unfold kk kas_rev
 split
 ·rename_i h
  rw [if_pos h] at e
  rw [eI e]
 ·rename_i h
  rw [if_neg h] at e
  rw [eI e]
theorem wH {p:Array Nat} {src d:Nat} (hs:src < p.size) (hd:d<=src) (k:Nat):kk κ (bubble p src d) k=if k=src - d then kk κ p src else if src - d < k/\k<=src then kk κ p (k - 1) else kk κ p k:=by
 have e:=getElem?_bubble hs d hd k
 by_cases h:k=src - d
 ·rw [if_pos h] at e ⊢
  exact congrArg κ (eI e)
 ·rw [if_neg h] at e ⊢
  by_cases h2:src - d < k/\k<=src
  ·rw [if_pos h2] at e ⊢
   exact congrArg κ (eI e)
  ·rw [if_neg h2] at e ⊢
   exact congrArg κ (eI e)
theorem POk.rev {p:Array Nat} (h:POk n p) (i j:Nat):POk n (kas_rev p i j):=h.of (mirror_perm _ _ _ _)
theorem POk.bub {p:Array Nat} (h:POk n p) (i j:Nat):POk n (bubble p i j):=h.of (bubble_perm _ _ _)
theorem qX (p:Array Nat):bp κ p 1:=fun i j a b=>by
 have e:i=j:=by lia
 rw [e]
 exact KeyOrd.kle_refl _
theorem oW {p:Array Nat} {m:Nat} (h1:1<=m) (h:bp κ p m) (hm:O.kle (kk κ p (m - 1)) (kk κ p m)):bp κ p (m + 1):=by
 intro i j JL hj
 by_cases e:j=m
 ·subst e
  by_cases e2:i=j
  ·subst e2
   exact KeyOrd.kle_refl _
  ·exact KeyOrd.kle_trans (h i (j - 1) (by lia) (by lia)) hm
 ·exact h i j JL (by lia)
theorem eJ {p:Array Nat} {m:Nat} (h1:1<=m) (h:e8 κ p m) (hm:O.kle (kk κ p m) (kk κ p (m - 1))):e8 κ p (m + 1):=by
 intro i j JL hj
 by_cases e:j=m
 ·subst e
  by_cases e2:i=j
  ·subst e2
   exact KeyOrd.kle_refl _
  ·exact KeyOrd.kle_trans hm (h i (j - 1) (by lia) (by lia))
 ·exact h i j JL (by lia)
variable (hc:∀ i j,i < n->j < n->∀ (Q:Bool->Shared->Prop) s,Good s->(∀ s',Good s'->Q (O.blt (κ i) (κ j)) s')->cmp i j Q s)
include hc
theorem sP {p:Array Nat} (hp:POk n p) {EW:Nat} (hn:EW<=n) {Q:Nat->Shared->Prop}:∀ (f m:Nat) (s:Shared),Good s->1<=m->m + f=EW->bp κ p m->
  (∀ r s',Good s'->m<=r->r<=EW->bp κ p r->(r < EW->O.klt (kk κ p r) (kk κ p (r - 1)))->Q r s')->(kas_asc p f m).kasWp cmp Q s
 | 0,m,s,g,h1,hf,hs,k=>k m s g (Nat.le_refl _) (by lia) hs (fun z=>by lia)
 | f + 1,m,s,g,h1,hf,hs,k=>by
  show cmp (p.getD m 0) (p.getD (m - 1) 0) _ s
  refine hc _ _ (hp.lt (by lia)) (hp.lt (by lia)) _ s g fun s' g'=>?_
  cases e:O.blt (κ (p.getD m 0)) (κ (p.getD (m - 1) 0)) with
  | true=>
   (try dsimp only)
   rw [if_pos rfl]
   exact k m s' g' (Nat.le_refl _) (by lia) hs fun _=>e
  | false=>
   (try dsimp only)
   rw [if_neg Bool.false_ne_true]
   exact sP hp hn f (m + 1) s' g' (by lia) (by lia) (oW h1 hs e) fun r s2 g2 a b c d=>k r s2 g2 (by lia) b c d
def xT (κ:Nat->O.α) (p:Array Nat) (m q:Nat):Prop:=∀ k,m - (q + 1)<=k->k < m->kk κ p k=kk κ p (m - 1)
omit hc in
theorem nh {p:Array Nat} {m q:Nat} (hm:m<=p.size) (h:xT κ p m q) (k:Nat):kk κ (kas_rev p (m - (q + 1)) m) k=kk κ p k:=by
 rw [pW hm]
 split
 ·rename_i hk
  rw [h _ (by lia) (by lia),h k hk.1 hk.2]
 ·rfl
omit hc in
theorem iQ {p p':Array Nat} {m:Nat} (e:∀ k,kk κ p' k=kk κ p k) (h:e8 κ p m):e8 κ p' m:=fun i j a b=>by rw [e,e];exact h i j a b
theorem lM {EW:Nat} (hn:EW<=n) {Q:Array Nat×Nat×Nat->Shared->Prop}:∀ (f:Nat) (p:Array Nat) (m q:Nat) (s:Shared),POk n p->Good s->1<=m->q + 1<=m->m + f=EW->e8 κ p m->xT κ p m q->
  (∀ p' m' q' s',POk n p'->Good s'->m<=m'->m'<=EW->q' + 1<=m'->e8 κ p' m'->xT κ p' m' q'->Q (p',m',q') s')->(kas_desc f p m q).kasWp cmp Q s
 | 0,p,m,q,s,hp,g,h1,hq,hf,hs,ha,k=>k p m q s hp g (Nat.le_refl _) (by lia) hq hs ha
 | f + 1,p,m,q,s,hp,g,h1,hq,hf,hs,ha,k=>by
  show cmp (p.getD m 0) (p.getD (m - 1) 0) _ s
  refine hc _ _ (hp.lt (by lia)) (hp.lt (by lia)) _ s g fun s' g'=>?_
  have hsz:=hp.size
  cases e:O.blt (κ (p.getD m 0)) (κ (p.getD (m - 1) 0)) with
  | true=>
   (try dsimp only)
   rw [if_pos rfl]
   have le:O.kle (kk κ p m) (kk κ p (m - 1)):=KeyOrd.kle_of_klt e
   by_cases h0:q > 0
   ·rw [if_pos h0]
    have same:=nh (κ:=κ) (p:=p) (m:=m) (q:=q) (by lia) ha
    refine lM hn f _ (m + 1) 0 s' (hp.rev _ _) g' (by lia) (by lia) (by lia) (eJ h1 (iQ same hs) (by rw [same,same];exact le)) ?_ fun p' m' q' s2 a b c d e' f' g2=>k p' m' q' s2 a b (by lia) d e' f' g2
    intro k' a b
    have:k'=m:=by lia
    rw [this]
    rfl
   ·rw [if_neg h0]
    refine lM hn f p (m + 1) 0 s' hp g' (by lia) (by lia) (by lia) (eJ h1 hs le) ?_ fun p' m' q' s2 a b c d e' f' g2=>k p' m' q' s2 a b (by lia) d e' f' g2
    intro k' a b
    have:k'=m:=by lia
    rw [this]
    rfl
  | false=>
   (try dsimp only)
   rw [if_neg Bool.false_ne_true]
   show cmp (p.getD (m - 1) 0) (p.getD m 0) _ s'
   refine hc _ _ (hp.lt (by lia)) (hp.lt (by lia)) _ s' g' fun s2 g2=>?_
   cases e2:O.blt (κ (p.getD (m - 1) 0)) (κ (p.getD m 0)) with
   | true=>
    (try dsimp only)
    rw [if_pos rfl]
    exact k p m q s2 hp g2 (Nat.le_refl _) (by lia) hq hs ha
   | false=>
    (try dsimp only)
    rw [if_neg Bool.false_ne_true]
    have eq:kk κ p (m - 1)=kk κ p m:=KeyOrd.kle_antisymm (O:=O) e e2
    refine lM hn f p (m + 1) (q + 1) s2 hp g2 (by lia) (by lia) (by lia) (eJ h1 hs (by rw [eq];exact KeyOrd.kle_refl _)) ?_ fun p' m' q' s3 a b c d e' f' g3=>k p' m' q' s3 a b (by lia) d e' f' g3
    intro k' a b
    show kk κ p k'=kk κ p m
    by_cases z:k'=m
    ·rw [z]
    ·rw [ha k' (by lia) (by lia),eq]
omit hc in
theorem qY {p:Array Nat} {m:Nat} (hm:m<=p.size) (h:e8 κ p m):bp κ (kas_rev p 0 m) m:=by
 intro i j a b
 rw [pW hm,pW hm,if_pos (by lia),if_pos (by lia)]
 exact h _ _ (by lia) (by lia)
theorem sQ {p:Array Nat} (hp:POk n p) {m EW:Nat} (hn:EW<=n) (h1:1<=m) (hm:m<=EW) (hs:e8 κ p m) {Q:Nat×Array Nat->Shared->Prop} {s:Shared} (g:Good s)
  (k:∀ r p' s',POk n p'->Good s'->1<=r->r<=EW->bp κ p' r->Q (r,p') s'):(kas_tail3 m EW p).kasWp cmp Q s:=by
 unfold kas_tail3
 rw [KasT.kasWp_bind]
 have hsz:=hp.size
 refine sP hc (hp.rev 0 m) hn (EW - m) m s g h1 (by lia) (qY (by lia) hs) fun r s' g' a b c _=>?_
 exact k r _ s' (hp.rev 0 m) g' (by lia) b c
theorem jQ {p:Array Nat} (hp:POk n p) {m EW:Nat} (hn:EW<=n) (h1:1<=m) (hm:m + 1<=EW) (hs:e8 κ p (m + 1)) {Q:Nat×Array Nat->Shared->Prop} {s:Shared} (g:Good s)
  (k:∀ r p' s',POk n p'->Good s'->1<=r->r<=EW->bp κ p' r->Q (r,p') s'):(kas_descPart m EW p).kasWp cmp Q s:=by
 unfold kas_descPart
 rw [KasT.kasWp_bind]
 refine lM hc hn (EW - (m + 1)) p (m + 1) 0 s hp g (by lia) (by lia) (by lia) hs ?_ fun p' m' q' s' a b c d e f g2=>?_
 ·intro k' a b
  have:k'=m:=by lia
  rw [this]
  rfl
 ·have hsz:=a.size
  dsimp only
  split
  ·have same:=nh (κ:=κ) (p:=p') (m:=m') (q:=q') (by lia) g2
   exact sQ hc (a.rev _ _) hn (by lia) d (iQ same f) b k
  ·exact sQ hc a hn (by lia) d f b k
theorem vD {p:Array Nat} (hp:POk n p) {EW:Nat} (hn:EW<=n) (h1:1<=EW) {Q:Nat×Array Nat->Shared->Prop} {s:Shared} (g:Good s)
  (k:∀ r p' s',POk n p'->Good s'->1<=r->r<=EW->bp κ p' r->Q (r,p') s'):(kas_count EW p).kasWp cmp Q s:=by
 unfold kas_count
 rw [KasT.kasWp_bind]
 have hsz:=hp.size
 refine sP hc hp hn (EW - 1) 1 s g (Nat.le_refl _) (by lia) (qX p) fun m s' g' a b c d=>?_
 by_cases e:m=EW
 ·rw [if_pos (by simpa using e)]
  exact k m p s' hp g' (by lia) (by lia) c
 ·rw [if_neg (by simpa using e)]
  have dd:=d (by lia)
  by_cases h2:m > 1
  ·rw [if_pos h2]
   show cmp (p.getD 0 0) (p.getD (m - 1) 0) _ s'
   refine hc _ _ (hp.lt (by lia)) (hp.lt (by lia)) _ s' g' fun s2 g2=>?_
   cases e2:O.blt (κ (p.getD 0 0)) (κ (p.getD (m - 1) 0)) with
   | true=>
    (try dsimp only)
    rw [if_pos rfl]
    exact k m p s2 hp g2 (by lia) b c
   | false=>
    (try dsimp only)
    rw [if_neg Bool.false_ne_true]
    have eq:∀ i,i < m->kk κ p i=kk κ p 0:=fun i hi=>by
     have x1:=c 0 i (by lia) hi
     have x2:=c i (m - 1) (by lia) (by lia)
     exact KeyOrd.kle_antisymm (O:=O) (KeyOrd.kle_trans x2 e2) x1
    have same:∀ i,kk κ (kas_rev p 0 m) i=kk κ p i:=fun i=>by
     rw [pW (by lia)]
     split
     ·rw [eq _ (by lia),eq i (by lia)]
     ·rfl
    refine jQ hc (hp.rev 0 m) hn (by lia) (by lia) ?_ g2 k
    refine iQ same (eJ (by lia) (fun i j x y=>?_) (KeyOrd.kle_of_klt dd))
    rw [eq i (by lia),eq j y]
    exact KeyOrd.kle_refl _
  ·rw [if_neg h2]
   refine jQ hc hp hn (by lia) (by lia) (eJ (by lia) (fun i j x y=>?_) (KeyOrd.kle_of_klt dd)) g' k
   have:i=j:=by lia
   rw [this]
   exact KeyOrd.kle_refl _
theorem lN {p:Array Nat} (hp:POk n p) {t:Nat} (ht:t < n) (hs:bp κ p t) {Q:Nat->Shared->Prop}:∀ (f l r:Nat) (s:Shared),Good s->l<=r->r<=t->r - l<=f->(∀ i,i < l->O.kle (kk κ p i) (kk κ p t))->(∀ i,r<=i->i < t->O.klt (kk κ p t) (kk κ p i))->
  (∀ x s',Good s'->x<=t->(∀ i,i < x->O.kle (kk κ p i) (kk κ p t))->(∀ i,x<=i->i < t->O.klt (kk κ p t) (kk κ p i))->Q x s')->(kas_place p t f l r).kasWp cmp Q s
 | 0,l,r,s,g,h1,h2,h3,lo,hi,k=>k l s g (by lia) lo fun i a b=>hi i (by lia) b
 | f + 1,l,r,s,g,h1,h2,h3,lo,hi,k=>by
  unfold kas_place
  by_cases e:l >= r
  ·rw [if_pos e]
   exact k l s g (by lia) lo fun i a b=>hi i (by lia) b
  ·rw [if_neg e]
   show cmp (p.getD t 0) (p.getD ((l + r) / 2) 0) _ s
   refine hc _ _ (hp.lt ht) (hp.lt (by lia)) _ s g fun s' g'=>?_
   cases e2:O.blt (κ (p.getD t 0)) (κ (p.getD ((l + r) / 2) 0)) with
   | true=>
    (try dsimp only)
    rw [if_pos rfl]
    refine lN hp ht hs f l ((l + r) / 2) s' g' (by lia) (by lia) (by lia) lo (fun i a b=>?_) k
    exact KeyOrd.klt_of_klt_of_kle (O:=O) e2 (hs _ i a b)
   | false=>
    (try dsimp only)
    rw [if_neg Bool.false_ne_true]
    refine lN hp ht hs f ((l + r) / 2 + 1) r s' g' (by lia) (by lia) (by lia) (fun i a=>?_) hi k
    exact KeyOrd.kle_trans (O:=O) (hs i ((l + r) / 2) (by lia) (by lia)) e2
theorem wI {Q:Array Nat->Shared->Prop}:∀ (f:Nat) (p:Array Nat) (t:Nat) (s:Shared),POk n p->Good s->t + f=n->bp κ p t->(∀ p' s',POk n p'->Good s'->bp κ p' n->Q p' s')->(kas_bin f p t).kasWp cmp Q s
 | 0,p,t,s,hp,g,hf,hs,k=>k p s hp g (by rw [show n=t by lia];exact hs)
 | f + 1,p,t,s,hp,g,hf,hs,k=>by
  unfold kas_bin
  rw [KasT.kasWp_bind]
  have hsz:=hp.size
  refine lN hc hp (by lia) hs t 0 t s g (Nat.zero_le _) (Nat.le_refl _) (by lia) (fun i a=>by lia) (fun i a b=>by lia) fun x s' g' hx lo hi=>?_
  refine wI f _ (t + 1) s' (hp.bub _ _) g' (by lia) ?_ k
  have ex:t - (t - x)=x:=by lia
  intro i j a b
  rw [wH (by lia) (by lia),wH (by lia) (by lia),ex]
  have lo':=lo
  by_cases i1:i=x
  ·by_cases j1:j=x
   ·rw [if_pos i1,if_pos j1]
    exact KeyOrd.kle_refl _
   ·rw [if_pos i1,if_neg j1,if_pos (by lia)]
    exact KeyOrd.kle_of_klt (hi (j - 1) (by lia) (by lia))
  ·rw [if_neg i1]
   by_cases i2:x < i/\i<=t
   ·rw [if_pos i2,if_neg (by lia),if_pos (by lia)]
    exact hs (i - 1) (j - 1) (by lia) (by lia)
   ·rw [if_neg i2]
    by_cases j1:j=x
    ·rw [if_pos j1]
     exact lo i (by lia)
    ·rw [if_neg j1]
     by_cases j2:x < j/\j<=t
     ·rw [if_pos j2]
      exact hs i (j - 1) (by lia) (by lia)
     ·rw [if_neg j2]
      exact hs i j a (by lia)
theorem xU (h1:1<=n) {Q:Array Nat->Shared->Prop} {s:Shared} (g:Good s) (k:∀ p s',POk n p->Good s'->bp κ p n->Q p s'):(kas_sort n).kasWp cmp Q s:=by
 unfold kas_sort
 rw [KasT.kasWp_bind]
 refine vD hc (p:=List.toArray (List.range n)) ⟨by simp⟩ (Nat.le_refl _) h1 g fun r p' s' hp g' a b c=>?_
 dsimp only
 split
 ·have e:max r 1=r:=by lia
  rw [e]
  exact wI hc (n - r) p' r s' hp g' (by lia) c k
 ·exact k p' s' hp g' (by rw [show n=r by lia];exact c)
end
end NX
namespace NX
open PySem PySem.W PySem.Spec PyProof.Rows L2
section
variable {prog:Program} {w:World} {A:Around} {E:Value->Shared->Prop} {s:Shared}
theorem pX (n:Nat):POk n (List.toArray (List.range n)):=⟨by simp⟩
theorem ig {O:KeyOrd} {key:Nat->O.α} {kd:SortKind} {a:Addr} {vs:List Value} {n:Nat} {P:PySem.Fin->Shared->Prop} (ho:s.heap.get? a=some (seqObj "list" vs.toArray n)) (IT:vs.length < 64)
  (GK:2<=vs.length->∀ (h':Heap),(∀ b o,b≠a->s.heap.get? b=some o->h'.get? b=some o)->∀ Q:SortKind->Shared->Prop,Q kd { s with heap:=h' }->wpAny (model prog w) A (keyKind' vs.toArray) Q E { s with heap:=h' })
  (Jo:∀ i j,i < vs.length->j < vs.length->∀ (h':Heap),(∀ b o,b≠a->s.heap.get? b=some o->h'.get? b=some o)->∀ C:Bool->Shared->Prop,C (O.blt (key i) (key j)) { s with heap:=h' }->kas_ask prog w A kd vs i j C { s with heap:=h' })
  (h:∀ p h',POk vs.length p->bp key p vs.length->(∃ e,h'.get? a=some (seqObj "list" (List.toArray (p.toList.map fun i=>vs.getD i .none)) e))->(∀ b o,b≠a->s.heap.get? b=some o->h'.get? b=some o)->P (.done (.ret .none)) { s with heap:=h' }) :
  wpAny (model prog w) A (Builtin.«list.sort» ⟨[.ref a],[]⟩) P E s:=by
 rw [list_sort_plain]
 have la:a < s.heap.objs.size:=Heap.lt_size ho
 have zs:vs.toArray.size=vs.length:=by simp
 refine wpAny_bind (listItems_at ho rfl (wpAny_bind (listUpdate_at ho rfl ?_ (by rw [zs,sizeLine_eq];lia) (Nat.zero_le _))))
 obtain ⟨e1,h1⟩:∃ e1,(s.heap.update a (Obj.mapSeq fun _=>#[])).get? a=some (seqObj "list" #[] e1):=⟨_,get?_update_seq ho (fun _=>#[])⟩
 refine wpAny_bind (seqEpoch_at h1 rfl (wpAny_bind (wpAny_newTuple (wpAny_bind (wpAny_newList (wpAny_holding ?_))) (by simp only [List.toList_toArray];rw [sizeLine_eq];lia))))
 generalize e6:((s.heap.update a (Obj.mapSeq fun _=>#[])).push { cls:=.type "tuple",data:=.seq vs.toArray.toList.toArray }).push { cls:=.type "list",data:=.seq ([]:List Value).toArray }=h6
 have k6:∀ b o,b≠a->s.heap.get? b=some o->h6.get? b=some o:=fun b o nb e=>by
  rw [<-e6]
  exact Heap.get?_push_of_some _ (Heap.get?_push_of_some _ ((Heap.get?_update_other _ _ (Ne.symm nb)).trans e))
 have L6:h6.get? a=some (seqObj "list" #[] e1):=by
  rw [<-e6]
  exact Heap.get?_push_of_some _ (Heap.get?_push_of_some _ h1)
 dsimp only
 have fin:∀ (p:Array Nat),POk vs.length p->bp key p vs.length->∀ out:Array Value,out=List.toArray (p.toList.map fun i=>vs.getD i .none)->
   P (.done (.ret .none)) { s with heap:=h6.update a (Obj.mapSeq fun _=>out) }:=fun p hp hs out eo=>by
  subst eo
  exact h p _ hp hs ⟨_,get?_update_seq L6 _⟩ fun b o nb e=>(Heap.get?_update_other _ _ (Ne.symm nb)).trans (k6 b o nb e)
 have fits:∀ {out:Array Value} {p:Array Nat},POk vs.length p->out=List.toArray (p.toList.map fun i=>vs.getD i .none)->out.size<=sizeLine + 1:=fun {out p} hp e=>by
  rw [e,List.size_toArray,List.length_map,hp.perm.length_eq,List.length_range,sizeLine_eq]
  lia
 by_cases h2:vs.toArray.size < 2
 ·rw [if_pos h2,if_pos h2]
  refine wpAny_bind (wpAny_pure ?_)
  rw [StateT.run_pure]
  refine wpAny_bind (wpAny_pure ?_)
  dsimp only
  have eo:(arrOf (SortSt.mk' general' (vs.toArray.zip vs.toArray) #[] 7 none)).map (·.2)=List.toArray ((List.toArray (List.range vs.length)).toList.map fun i=>vs.getD i .none):=by
   show (vs.toArray.zip vs.toArray).map (·.2)=_
   apply Array.toList_inj.mp
   simp only [Array.toList_map,Array.toList_zip,List.toList_toArray]
   have a1:(vs.zip vs).map (·.2)=vs:=by
    rw [List.map_snd_zip]
    exact Nat.le_refl _
   rw [a1]
   apply List.ext_getElem?
   intro i
   by_cases hi:i < vs.length
   ·simp [hi]
   ·simp [hi]
  refine wpAny_bind (seqEpoch_at L6 rfl (wpAny_bind (listUpdate_at L6 rfl ?_ (Nat.zero_le _) (fits (pX _) eo))))
  simp only [bne_self_eq_false,Bool.false_eq_true,if_false]
  refine wpAny_pure (fin _ (pX _) ?_ _ eo)
  intro i j x y
  have:i=j:=by lia
  rw [this]
  exact KeyOrd.kle_refl _
 ·rw [if_neg h2,if_neg h2]
  have NP:2<=vs.length:=by lia
  refine wpAny_bind (GK NP h6 k6 _ ?_)
  refine wpAny_bind (wpAny_mono (kat_run (ks:=vs) (vs:=vs) (Q:=fun Gk s'=>∃ p,POk vs.length p/\bp key p vs.length/\arrOf Gk=p.map (kas_item (vs.toArray.zip vs.toArray))/\failedOf Gk=none/\s'={ s with heap:=h6 })
   (G:=fun p s'=>POk vs.length p/\bp key p vs.length/\s'={ s with heap:=h6 }) rfl NP IT (fun p Gk s' hz NQ hf hg=>⟨p,hg.1,hg.2.1,NQ,hf,hg.2.2⟩)
   (xU (n:=vs.length) (O:=O) (κ:=key) (Good:=fun s'=>s'={ s with heap:=h6 }) (fun i j hi hj Q s' g k=>?_) (by lia) rfl fun p s' hp g hs=>⟨hp,hs,g⟩)) (fun r s' hq=>?_) fun _ _ e=>e)
  ·subst g
   exact Jo i j hi hj h6 k6 Q (k _ rfl)
  ·obtain ⟨p,hp,hs,NQ,hf,rfl⟩:=hq
   have eo:=kat_snds (ks:=vs) (vs:=vs) rfl NQ
   refine wpAny_bind (seqEpoch_at L6 rfl (wpAny_bind (listUpdate_at L6 rfl ?_ (Nat.zero_le _) (fits hp eo))))
   rw [hf]
   simp only [bne_self_eq_false,Bool.false_eq_true,if_false]
   exact wpAny_pure (fin p hp hs _ eo)
theorem iR {O:KeyOrd} {key:Nat->O.α} {kd:SortKind} {l:Addr} {vs:List Value} {Q:Value->Shared->Prop} (hl:s.heap.IsList l vs.toArray) (IT:vs.length < 64)
  (GK:2<=vs.length->∀ (A':Around) (E':Value->Shared->Prop) (h':Heap),(∀ b o,s.heap.get? b=some o->h'.get? b=some o)->∀ Q:SortKind->Shared->Prop,Q kd { s with heap:=h' }->wpAny (model prog w) A' (keyKind' vs.toArray) Q E' { s with heap:=h' })
  (Jo:∀ i j,i < vs.length->j < vs.length->∀ (h':Heap),(∀ b o,s.heap.get? b=some o->h'.get? b=some o)->∀ C:Bool->Shared->Prop,C (O.blt (key i) (key j)) { s with heap:=h' }->kas_ask prog w A.in1.in1 kd vs i j C { s with heap:=h' })
  (h:∀ p h' e,POk vs.length p->bp key p vs.length->h'.get? (s.heap.objs.size + 1)=some (seqObj "list" (List.toArray (p.toList.map fun i=>vs.getD i .none)) e)->(∀ b o,s.heap.get? b=some o->h'.get? b=some o)->Q (.ref (s.heap.objs.size + 1)) { s with heap:=h' }) :
  wpAny (model prog w) A (call (.builtin "sorted") [.ref l]) Q E s:=by
 refine Calls.call_function_entry kind_sorted plain_sorted entry_sorted (args_sorted1 _) ?_
 unfold Builtin.«sorted»
 refine wpAny_bind (m:=checkCount "sorted" 1 1 _) (wpAny_pure (wpAny_bind (collect_list hl (wpAny_bind (wpAny_newList ?_ (by rw [sizeLine_eq];lia))) (by rw [sizeLine_eq];lia))))
 have zz:((s.heap.push (seqObj "list" #[] 0)).update s.heap.objs.size (Obj.mapSeq (·++vs.toArray))).objs.size=s.heap.objs.size + 1:=by rw [Heap.size_update,size_push']
 generalize e5:(s.heap.push (seqObj "list" #[] 0)).update s.heap.objs.size (Obj.mapSeq (·++vs.toArray))=h5 at zz ⊢
 have k5:∀ b o,s.heap.get? b=some o->(h5.push (seqObj "list" vs.toArray 0)).get? b=some o:=fun b o e=>by
  rw [<-e5]
  exact Heap.get?_push_of_some _ ((Heap.get?_update_other _ _ (Ne.symm (Nat.ne_of_lt (Heap.lt_size e)))).trans (Heap.get?_push_of_some _ e))
 have hL:(h5.push (seqObj "list" vs.toArray 0)).get? (s.heap.objs.size + 1)=some (seqObj "list" vs.toArray 0):=by
  rw [<-zz]
  exact Heap.get?_push_size _ rfl
 have ne:∀ b o,s.heap.get? b=some o->b≠s.heap.objs.size + 1:=fun b o e=>Nat.ne_of_lt (Nat.lt_succ_of_lt (Heap.lt_size e))
 show wpAny _ _ _ _ _ { s with heap:=h5.push (seqObj "list" vs.toArray 0) }
 rw [zz]
 refine wpAny_bind (wpAny_holding (wpAny_call_entry slot_list_sort ⟨_,hL,rfl⟩ entry_list_sort (ig (key:=key) (kd:=kd) hL IT (fun h2 h' kk Q' q=>GK h2 _ _ h' (fun b o e=>kk b o (ne b o e) (k5 b o e)) Q' q)
  (fun i j hi hj h' kk C q=>Jo i j hi hj h' (fun b o e=>kk b o (ne b o e) (k5 b o e)) C q) fun p h' hp hs ⟨e,he⟩ kk=>⟨_,rfl,?_⟩) (args_list_sort _)))
 exact wpAny_pure ⟨_,rfl,h p h' e hp hs he fun b o q=>kk b o (ne b o q) (k5 b o q)⟩
end
noncomputable def intO:KeyOrd where
 α:=Int
 blt a b:=decide (a < b)
 irrefl a:=by simp
 trans a b c h1 h2:=by simp only [decide_eq_true_eq] at *;lia
 negTrans a b c h:=by simp only [decide_eq_true_eq] at *;lia
 total a b h1 h2:=by simp only [decide_eq_false_iff_not] at *;lia
abbrev Dr:KeyOrd:=strKind.toKeyOrd
noncomputable def oK:KeyOrd where
 α:=Key
 blt a b:=match a,b with
  | .inl i,.inl j=>decide (i < j)
  | .inr x,.inr y=>decide (x.cps.toList < y.cps.toList)
  | .inl _,.inr _=>true
  | .inr _,.inl _=>false
 irrefl a:=by
  cases a with
  | inl i=>simp
  | inr x=>simpa using List.lt_irrefl x.cps.toList
 trans a b c h1 h2:=by
  cases a <;> cases b <;> cases c <;> simp_all
  ·lia
  ·exact List.lt_trans h1 h2
 negTrans a b c h:=by
  cases a <;> cases b <;> cases c <;> simp_all
  ·lia
  ·rename_i x y z
   by_cases q:x.cps.toList < y.cps.toList
   ·exact .inl q
   ·exact .inr (List.lt_of_le_of_lt (List.not_lt.mp q) h)
 total a b h1 h2:=by
  cases a <;> cases b <;> simp_all
  ·lia
  ·rename_i x y
   have e:x.cps.toList=y.cps.toList:=List.le_antisymm (by first | exact h2 | exact List.not_lt.mp h2) (by first | exact h1 | exact List.not_lt.mp h1)
   rw [<-mZ x,<-mZ y,e]
noncomputable def dH:List Key->List Key->Bool
 | [],[]=>false
 | [],_ :: _=>true
 | _ :: _,[]=>false
 | a :: r,b :: t=>if a=b then dH r t else oK.blt a b
theorem g0:∀ a:List Key,dH a a=false
 | []=>rfl
 | a :: r=>by
  show (if a=a then dH r r else _)=false
  rw [if_pos rfl]
  exact g0 r
theorem xV {a b:Key} (h:oK.blt a b=true):a≠b:=by
 rintro rfl
 have:=oK.irrefl a
 rw [h] at this
 cases this
theorem gD:∀ a b c:List Key,dH a b=true->dH b c=true->dH a c=true
 | [],[],_,h,_=>by cases h
 | [],_ :: _,[],_,h=>by cases h
 | [],_ :: _,_ :: _,_,_=>rfl
 | _ :: _,[],_,h,_=>by cases h
 | _ :: _,_ :: _,[],_,h=>by cases h
 | a :: r,b :: t,c :: u,h1,h2=>by
  have h1:(if a=b then dH r t else oK.blt a b)=true:=h1
  have h2:(if b=c then dH t u else oK.blt b c)=true:=h2
  show (if a=c then dH r u else oK.blt a c)=true
  by_cases e1:a=b
  ·by_cases e2:b=c
   ·rw [if_pos e1] at h1
    rw [if_pos e2] at h2
    rw [if_pos (e1.trans e2)]
    exact gD r t u h1 h2
   ·rw [if_neg e2] at h2
    rw [e1,if_neg e2]
    exact h2
  ·rw [if_neg e1] at h1
   by_cases e2:b=c
   ·rw [<-e2,if_neg e1]
    exact h1
   ·rw [if_neg e2] at h2
    have h3:=oK.trans a b c h1 h2
    rw [if_neg (xV h3)]
    exact h3
theorem gE:∀ a b:List Key,dH a b=false->dH b a=false->a=b
 | [],[],_,_=>rfl
 | [],_ :: _,h,_=>by cases h
 | _ :: _,[],_,h=>by cases h
 | a :: r,b :: t,h1,h2=>by
  have h1:(if a=b then dH r t else oK.blt a b)=false:=h1
  have h2:(if b=a then dH t r else oK.blt b a)=false:=h2
  by_cases e:a=b
  ·rw [if_pos e] at h1
   rw [if_pos e.symm] at h2
   rw [e,gE r t h1 h2]
  ·rw [if_neg e] at h1
   rw [if_neg (Ne.symm e)] at h2
   exact absurd (oK.total a b h1 h2) e
theorem vE (a b c:List Key) (h:dH a c=true):dH a b=true\/dH b c=true:=by
 cases e:dH a b with
 | true=>exact .inl rfl
 | false=>
  refine .inr ?_
  cases e2:dH b a with
  | true=>exact gD b a c e2 h
  | false=>
   rw [<-gE a b e e2]
   exact h
noncomputable def BX:KeyOrd where
 α:=List Key
 blt:=dH
 irrefl:=g0
 trans:=gD
 negTrans:=vE
 total:=gE
section
variable {O:KeyOrd}
noncomputable def qZ (p:Array Nat) (xs:List V):List V:=p.toList.map fun i=>xs.getD i .non
theorem kQ {α:Type} (xs:List α) (d:α):((List.range xs.length).map fun i=>xs.getD i d)=xs:=by
 apply List.ext_getElem?
 intro i
 by_cases hi:i < xs.length
 ·simp [hi]
 ·simp [hi]
theorem jE {α:Type} {p:Array Nat} {xs:List α} (d:α) (hp:POk xs.length p):(p.toList.map fun i=>xs.getD i d).Perm xs:=by
 have:=hp.perm.map (fun i=>xs.getD i d)
 rwa [kQ] at this
theorem gF {α:Type} {p:Array Nat} {xs:List α} (d:α) (key:α->O.α) (hp:POk xs.length p) (hs:bp (O:=O) (fun i=>key (xs.getD i d)) p xs.length):(p.toList.map fun i=>xs.getD i d).Pairwise fun a b=>O.kle (key a) (key b):=by
 rw [List.pairwise_iff_getElem]
 intro i j hi hj JL
 have hsz:=hp.size
 have JK:i < p.size:=by simpa using hi
 have K4:j < p.size:=by simpa using hj
 have h:=hs i j (Nat.le_of_lt JL) (by lia)
 unfold kk at h
 simp only [List.getElem_map,Array.getElem_toList]
 have e1:p.getD i 0=p[i]:=by simp [Array.getD,JK]
 have e2:p.getD j 0=p[j]:=by simp [Array.getD,K4]
 rw [e1,e2] at h
 exact h
theorem vals_pick {xs:List V} {us:List Value} (r:Vals xs us):∀ l:List Nat,(∀ i∈l,i < xs.length)->Vals (l.map fun i=>xs.getD i .non) (l.map fun i=>us.getD i .none)
 | [],_=>.nil
 | i :: l,h=>by
  refine .cons ?_ (vals_pick r l fun j hj=>h j (List.mem_cons_of_mem _ hj))
  have hi:=h i List.mem_cons_self
  have e1:xs[i]?=some (xs.getD i .non):=by rw [bh _ _ _ hi];exact List.getElem?_eq_getElem hi
  obtain ⟨u,hu,ru⟩:=r.get e1
  have e2:us.getD i .none=u:=by rw [List.getD_eq_getElem?_getD,hu];rfl
  show L2.RelV (xs.getD i .non) (us.getD i .none)
  rw [e2]
  exact ru
theorem jF {xs:List V} {us:List Value} {p:Array Nat} (r:Vals xs us) (hp:POk xs.length p):Vals (qZ p xs) (p.toList.map fun i=>us.getD i .none):=
 vals_pick r _ fun i hi=>List.mem_range.mp (hp.perm.mem_iff.mp hi)
end
section
variable {X:Cx}
theorem ij {pins:List (Addr×Obj)} {s:Shared} {σ:L2.St} {H:Hp} {h':Heap} {ys:List V} {us:List Value} {e:Nat} {D:Addr} (I:Inv X pins σ H s) (kk:∀ b o,s.heap.get? b=some o->h'.get? b=some o) (hD:s.heap.objs.size<=D)
  (ho:h'.get? D=some (seqObj "list" (List.toArray us) e)) (r:Vals ys us) (hz:ys.length<=sizeLine):Inv X pins σ (upd H D (.lst ys)) { s with heap:=h' }:=
 I.laid (t':=s.toks) kk hD ⟨hz,us,e,r,ho⟩
theorem ju (hc:X.calm=true):cW X (.builtin "sorted") (fun vs H Q=>∃ (p:Addr) (ns:List Int),vs=[.ref p]/\SqL X.K H p (ns.map V.int)/\ns.length < 64/\∀ (D:Addr) (ms:List Int),H D=none->ms.Perm ns->ms.Pairwise (·<=·)->Q (.ref D) (upd H D (.lst (ms.map V.int)))):=by
 intro pins s σ H vs us Q I r h
 obtain ⟨p,ns,rfl,hp,IT,q⟩:=h
 obtain ⟨u,rfl,r1⟩:=dN r
 cases r1
 obtain ⟨ws,rv,pl,hz⟩:=I.list hp
 have hl:=rv.length
 rw [List.length_map] at hl
 have isI:∀ v∈ws,∃ n t,v=.int n t:=fun v hv=>by
  obtain ⟨i,hi⟩:=List.mem_iff_getElem?.mp hv
  obtain ⟨t,e⟩:=dG rv hi
  exact ⟨_,t,e⟩
 refine iR (O:=intO) (key:=fun i=>ns.getD i 0) (kd:=oneType') pl.isList (by lia) (fun h2 A' E' h' kk Q' q'=>?_) (fun i j hi hj h' kk C q'=>?_) fun pp h' e Gn hs he kk=>?_
 ·refine kas_kind h2 (T:=.type "int") (fun v hv=>?_) (by decide) (by decide) q'
  obtain ⟨n,t,rfl⟩:=isI v hv
  exact fun A Q E s _ q=>wpAny_typeOf (typeIs_int s n t) q
 ·unfold kas_ask
  have e1:ws[i]?=some (ws.getD i .none):=by rw [bh _ _ _ hi];exact List.getElem?_eq_getElem hi
  have e2:ws[j]?=some (ws.getD j .none):=by rw [bh _ _ _ hj];exact List.getElem?_eq_getElem hj
  obtain ⟨t,K5⟩:=dG rv e1
  obtain ⟨t',NR⟩:=dG rv e2
  rw [K5,NR]
  exact kat_lt_int q'
 ·rw [<-hl] at Gn hs
  have K6:POk (ns.map V.int).length pp:=by rw [List.length_map];exact Gn
  have eo:qZ pp (ns.map V.int)=(pp.toList.map fun i=>ns.getD i 0).map V.int:=by
   unfold qZ
   rw [List.map_map]
   refine List.map_congr_left fun i hi=>?_
   have hi:=List.mem_range.mp (Gn.perm.mem_iff.mp hi)
   show (ns.map V.int).getD i .non=V.int (ns.getD i 0)
   rw [bh _ _ _ (by rw [List.length_map];exact hi),bh _ _ _ hi]
   simp
  have hn:H (s.heap.objs.size + 1)=none:=I.hok.fresh (Nat.le_succ _)
  refine ⟨.ref (s.heap.objs.size + 1),_,ij I kk (Nat.le_succ _) he (jF rv K6) ?_,rfl,?_⟩
  ·show (qZ pp (ns.map V.int)).length<=sizeLine
   rw [eo,List.length_map,List.length_map,Gn.perm.length_eq,List.length_range,sizeLine_eq]
   lia
  ·rw [eo]
   refine q _ _ hn (jE 0 Gn) ?_
   have:=gF (O:=intO) 0 (fun i:Int=>i) Gn hs
   refine this.imp fun {a b} K7=>?_
   have K7:decide (b < a)=false:=K7
   have:=of_decide_eq_false K7
   lia
theorem oX {ls:List (List Nat)} {us:List Value} (r:Vals (ls.map fun l=>V.str (S l)) us) {i:Nat} {v:Value} (h:us[i]?=some v):∃ t,v=.str (S (ls.getD i [])) t:=by
 have hl:=r.length
 rw [List.length_map] at hl
 obtain ⟨hi,_⟩:=List.getElem?_eq_some_iff.mp h
 have e1:(ls.map fun l=>V.str (S l))[i]?=some (.str (S (ls.getD i []))):=by
  rw [List.getElem?_map,List.getElem?_eq_getElem (by lia),bh _ _ _ (by lia)]
  rfl
 obtain ⟨u,hu,t,rfl⟩:=r.get e1
 rw [h] at hu
 exact ⟨t,Option.some.inj hu⟩
theorem jv (hc:X.calm=true):cW X (.builtin "sorted") (fun vs H Q=>∃ (p:Addr) (ls:List (List Nat)),vs=[.ref p]/\SqL X.K H p (ls.map fun l=>V.str (S l))/\ls.length < 64/\∀ (D:Addr) (ms:List (List Nat)),H D=none->ms.Perm ls->ms.Pairwise (fun a b=>¬ b < a)->Q (.ref D) (upd H D (.lst (ms.map fun l=>V.str (S l))))):=by
 intro pins s σ H vs us Q I r h
 obtain ⟨p,ls,rfl,hp,IT,q⟩:=h
 obtain ⟨u,rfl,r1⟩:=dN r
 cases r1
 obtain ⟨ws,rv,pl,hz⟩:=I.list hp
 have hl:=rv.length
 rw [List.length_map] at hl
 refine iR (O:=Dr) (key:=fun i=>ls.getD i []) (kd:=oneType') pl.isList (by lia) (fun h2 A' E' h' kk Q' q'=>?_) (fun i j hi hj h' kk C q'=>?_) fun pp h' e Gn hs he kk=>?_
 ·refine kas_kind h2 (T:=.type "str") (fun v hv=>?_) (by decide) (by decide) q'
  obtain ⟨i,hi⟩:=List.mem_iff_getElem?.mp hv
  obtain ⟨t,rfl⟩:=oX rv hi
  exact fun A Q E s _ q=>wpAny_typeOf (typeIs_str s _ t) q
 ·unfold kas_ask
  have e1:ws[i]?=some (ws.getD i .none):=by rw [bh _ _ _ hi];exact List.getElem?_eq_getElem hi
  have e2:ws[j]?=some (ws.getD j .none):=by rw [bh _ _ _ hj];exact List.getElem?_eq_getElem hj
  obtain ⟨t,K5⟩:=oX rv e1
  obtain ⟨t',NR⟩:=oX rv e2
  rw [K5,NR]
  refine kas_lt_str ?_
  rw [dB,dB]
  exact q'
 ·rw [<-hl] at Gn hs
  have K6:POk (ls.map fun l=>V.str (S l)).length pp:=by rw [List.length_map];exact Gn
  have eo:qZ pp (ls.map fun l=>V.str (S l))=(pp.toList.map fun i=>ls.getD i []).map fun l=>V.str (S l):=by
   unfold qZ
   rw [List.map_map]
   refine List.map_congr_left fun i hi=>?_
   have hi:=List.mem_range.mp (Gn.perm.mem_iff.mp hi)
   show (ls.map fun l=>V.str (S l)).getD i .non=V.str (S (ls.getD i []))
   rw [bh _ _ _ (by rw [List.length_map];exact hi),bh _ _ _ hi]
   simp
  have hn:H (s.heap.objs.size + 1)=none:=I.hok.fresh (Nat.le_succ _)
  refine ⟨.ref (s.heap.objs.size + 1),_,ij I kk (Nat.le_succ _) he (jF rv K6) ?_,rfl,?_⟩
  ·show (qZ pp (ls.map fun l=>V.str (S l))).length<=sizeLine
   rw [eo,List.length_map,List.length_map,Gn.perm.length_eq,List.length_range,sizeLine_eq]
   lia
  ·rw [eo]
   refine q _ _ hn (jE [] Gn) ?_
   have:=gF (O:=Dr) [] (fun l:List Nat=>l) Gn hs
   refine this.imp fun {a b} K7=>?_
   have K7:decide (b < a)=false:=K7
   exact of_decide_eq_false K7
end
noncomputable def kinds (k:List Key):List Bool:=k.map fun x=>x.isLeft
section
variable {prog:Program} {w:World} {A:Around} {s:Shared}
theorem sR (a b:Key):NB (kV a) (kV b)=decide (a=b):=by
 cases a <;> cases b <;> (rw [Bool.eq_iff_iff];simp [kV,NB])
theorem jG (a:Key):vn (kV a)=true:=by cases a <;> rfl
theorem Al {a b:Key} {u v:Value} {top:Bool} {Q:Bool->Shared->Prop} (ra:L2.RelV (kV a) u) (rb:L2.RelV (kV b) v) (hk:a.isLeft=b.isLeft) (q:Q (oK.blt a b) s):wpAny (model prog w) A (oneLt' top u v) Q (fun _ _=>False) s:=by
 cases a with
 | inl i=>
  cases b with
  | inr _=>cases hk
  | inl j=>
   obtain ⟨t,rfl⟩:=ra
   obtain ⟨t',rfl⟩:=rb
   cases top with
   | true=>exact kat_lt_int (E:=fun _ _=>False) q
   | false=>exact kat_one _ _ (lt_int q)
 | inr x=>
  cases b with
  | inl _=>cases hk
  | inr y=>
   obtain ⟨t,rfl⟩:=ra
   obtain ⟨t',rfl⟩:=rb
   cases top with
   | true=>exact oneLt_str q
   | false=>exact kat_one _ _ (lt_str q)
theorem jR {Q:Bool->Shared->Prop}:∀ (k1 k2:List Key) (us ws:List Value) (i:Nat),Vals (k1.map kV) us->Vals (k2.map kV) ws->kinds k1=kinds k2->Q (dH k1 k2) s->KatLex prog w A true false Q (us.zip ws) i s
 | [],[],_,_,_,.nil,.nil,_,q=>q
 | [],_ :: _,_,_,_,_,_,h,_=>by cases h
 | _ :: _,[],_,_,_,_,_,h,_=>by cases h
 | a :: r,b :: t,u :: us,v :: ws,i,.cons ru rus,.cons rv rvs,h,q=>by
  have h1:a.isLeft=b.isLeft:=(List.cons.inj h).1
  have h2:kinds r=kinds t:=(List.cons.inj h).2
  have q:Q (if a=b then dH r t else oK.blt a b) s:=q
  refine kat_cons (wy (A:=A) (s:=s) ru rv (jG a) (jG b) prog w _ _ ?_)
  rw [sR]
  by_cases e:a=b
  ·rw [if_pos e] at q
   rw [decide_eq_true e]
   exact kat_yes (jR r t us ws (i + 1) rus rvs h2 q)
  ·rw [if_neg e] at q
   rw [decide_eq_false e]
   exact kat_no (Al ru rv h1 q)
end
section
variable {X:Cx} {pins:List (Addr×Obj)} {σ:L2.St} {H:Hp} {s:Shared}
theorem ni (I:Inv X pins σ H s) {a:Addr} {xs:List V} (h:SqT X.K H a xs):∃ (us:List Value) (o:Obj) (n:Nat),Vals xs us/\s.heap.get? a=some o/\o.cls=.type "tuple"/\o.data=.seq us.toArray n:=by
 obtain ⟨us,r,pl,_⟩:=I.tuple h
 obtain ⟨o,ho,oc,n,od⟩:=pl
 exact ⟨us,o,n,r,ho,oc,od⟩
theorem lO {al:List (Addr×List Key)} {us:List Value} (r:Vals (al.map fun a=>V.ref a.1) us) {i:Nat} (h:i < al.length):us.getD i .none=.ref (al.getD i (0,[])).1:=by
 have e1:(al.map fun a=>V.ref a.1)[i]?=some (.ref (al.getD i (0,[])).1):=by
  rw [List.getElem?_map,List.getElem?_eq_getElem h,bh _ _ _ h]
  rfl
 obtain ⟨u,hu,ru⟩:=r.get e1
 rw [List.getD_eq_getElem?_getD,hu]
 exact ru
theorem pY {al:List (Addr×List Key)} {us:List Value} {h':Heap} (I:Inv X pins σ H s) (kk:∀ b o,s.heap.get? b=some o->h'.get? b=some o) (top:Bool) :
  (r:Vals (al.map fun a=>V.ref a.1) us)->(∀ a∈al,SqT X.K H a.1 (a.2.map kV)/\∃ t,kinds a.2=top :: t)->∃ fs:List Value,KatTups h' us fs/\fs.length=al.length/\∀ v∈fs,∀ M:Model,Looks M h' (typeOf v) (.type (if top then "int" else "str")):=by
 induction al generalizing us with
 | nil=>
  intro r _
  cases r
  exact ⟨[],trivial,rfl,fun v hv=>by cases hv⟩
 | cons a al ih=>
  intro r h
  cases r with
  | cons ra rs=>
   cases ra
   obtain ⟨fs,t1,t2,t3⟩:=ih rs fun b hb=>h b (List.mem_cons_of_mem _ hb)
   obtain ⟨ha,kt,hk⟩:=h a List.mem_cons_self
   obtain ⟨ws,o,n,rv,ho,oc,od⟩:=ni I ha
   cases e2:a.2 with
   | nil=>rw [e2] at hk;cases hk
   | cons k ks=>
    rw [e2] at rv hk
    have Oy:k.isLeft=top:=(List.cons.inj hk).1
    cases rv with
    | @cons _ f _ fr rf rfs=>
     refine ⟨f :: fs,KatTups.cons (kk _ _ ho) oc od (by simp) t1,by simp [t2],fun v hv M=>?_⟩
     rcases List.mem_cons.mp hv with rfl | hv
     ·cases k with
      | inl i=>
       obtain ⟨t,rfl⟩:=rf
       have:top=true:=Oy.symm
       subst this
       exact fun A Q E s _ q=>wpAny_typeOf (typeIs_int s _ t) q
      | inr x=>
       obtain ⟨t,rfl⟩:=rf
       have:top=false:=Oy.symm
       subst this
       exact fun A Q E s _ q=>wpAny_typeOf (typeIs_str s _ t) q
     ·exact t3 v hv M
end
section
variable {X:Cx}
theorem jw (hc:X.calm=true):cW X (.builtin "sorted") (fun vs H Q=>∃ (p:Addr) (al:List (Addr×List Key)) (top:Bool) (t:List Bool),vs=[.ref p]/\SqL X.K H p (al.map fun a=>V.ref a.1)/\(∀ a∈al,SqT X.K H a.1 (a.2.map kV)/\kinds a.2=top :: t)/\al.length < 64/\
  ∀ (D:Addr) (ms:List (Addr×List Key)),H D=none->ms.Perm al->ms.Pairwise (fun a b=>dH b.2 a.2=false)->Q (.ref D) (upd H D (.lst (ms.map fun a=>V.ref a.1)))):=by
 intro pins s σ H vs us Q I r h
 obtain ⟨p,al,top,kt,rfl,hp,GH,IT,q⟩:=h
 obtain ⟨u,rfl,r1⟩:=dN r
 cases r1
 obtain ⟨ws,rv,pl,hz⟩:=I.list hp
 have hl:=rv.length
 rw [List.length_map] at hl
 refine iR (O:=BX) (key:=fun i=>(al.getD i (0,[])).2) (kd:=tuples' true) pl.isList (by lia) (fun h2 A' E' h' kk Q' q'=>?_) (fun i j hi hj h' kk C q'=>?_) fun pp h' e Gn hs he kk=>?_
 ·obtain ⟨fs,t1,t2,t3⟩:=pY I kk top rv fun a ha=>⟨(GH a ha).1,kt,(GH a ha).2⟩
  refine kat_kind (T:=.type (if top then "int" else "str")) t1 (by lia) (fun v hv=>t3 v hv _) (by simp) ?_
  have:((Value.type (if top then "int" else "str")) != Value.type "tuple")=true:=by cases top <;> decide
  rw [this]
  exact q'
 ·unfold kas_ask
  have JK:i < al.length:=by lia
  have K4:j < al.length:=by lia
  rw [lO rv JK,lO rv K4]
  have mi:al.getD i (0,[])∈al:=by rw [bh _ _ _ JK];exact List.getElem_mem _
  have mj:al.getD j (0,[])∈al:=by rw [bh _ _ _ K4];exact List.getElem_mem _
  obtain ⟨u1,o1,n1,r1,g1,_,d1⟩:=ni I (GH _ mi).1
  obtain ⟨u2,o2,n2,r2,g2,_,d2⟩:=ni I (GH _ mj).1
  have ek:kinds (al.getD i (0,[])).2=kinds (al.getD j (0,[])).2:=by rw [(GH _ mi).2,(GH _ mj).2]
  have el:u1.length=u2.length:=by
   have a1:=r1.length
   have a2:=r2.length
   have a3:=congrArg List.length ek
   simp only [kinds,List.length_map] at a1 a2 a3
   lia
  refine kat_lt (kk _ _ g1) d1 (kk _ _ g2) d2 ?_
  have ef:decide (u1.toArray.size < u2.toArray.size)=false:=by simp [el]
  rw [ef]
  exact jR _ _ _ _ 0 r1 r2 ek q'
 ·rw [<-hl] at Gn hs
  have K6:POk (al.map fun a=>V.ref a.1).length pp:=by rw [List.length_map];exact Gn
  have eo:qZ pp (al.map fun a=>V.ref a.1)=(pp.toList.map fun i=>al.getD i (0,[])).map fun a=>V.ref a.1:=by
   unfold qZ
   rw [List.map_map]
   refine List.map_congr_left fun i hi=>?_
   have hi:=List.mem_range.mp (Gn.perm.mem_iff.mp hi)
   show (al.map fun a=>V.ref a.1).getD i .non=V.ref (al.getD i (0,[])).1
   rw [bh _ _ _ (by rw [List.length_map];exact hi),bh _ _ _ hi]
   simp
  have hn:H (s.heap.objs.size + 1)=none:=I.hok.fresh (Nat.le_succ _)
  refine ⟨.ref (s.heap.objs.size + 1),_,ij I kk (Nat.le_succ _) he (jF rv K6) ?_,rfl,?_⟩
  ·show (qZ pp (al.map fun a=>V.ref a.1)).length<=sizeLine
   rw [eo,List.length_map,List.length_map,Gn.perm.length_eq,List.length_range,sizeLine_eq]
   lia
  ·rw [eo]
   refine q _ _ hn (jE (0,[]) Gn) ?_
   exact gF (O:=BX) (0,[]) (fun a:Addr×List Key=>a.2) Gn hs
end
end NX
namespace L2
open PySem PySem.Spec PyProof.Rows
section
variable {κ:Type} [DecidableEq κ]
noncomputable def nj (Em:List (κ×V)) (k:κ):Option V:=(Em.find? fun kv=>decide (kv.1=k)).map (·.2)
noncomputable def jx (Em:List (κ×V)) (k:κ) (v:V):List (κ×V):=
 if (Em.any fun kv=>decide (kv.1=k))=true then Em.map (fun kv=>if kv.1=k then (kv.1,v) else kv) else Em++[(k,v)]
theorem lP {p:κ×V} {r:List (κ×V)} {k:κ} (e:p.1=k):nj (p :: r) k=some p.2:=by simp [nj,List.find?_cons,e]
theorem lQ {p:κ×V} {r:List (κ×V)} {k:κ} (e:¬ p.1=k):nj (p :: r) k=nj r k:=by simp [nj,List.find?_cons,e]
theorem pZ (k:κ):∀ Em:List (κ×V),(Em.any fun kv=>decide (kv.1=k))=(nj Em k).isSome
 | []=>rfl
 | p :: r=>by
  rw [List.any_cons]
  by_cases e:p.1=k
  ·simp only [lP e,decide_eq_true e,Bool.true_or,Option.isSome_some]
  ·rw [lQ e,decide_eq_false e,Bool.false_or];exact pZ k r
theorem g5 (Em:List (κ×V)) (k:κ) (v:V):(jx Em k v).length<=Em.length + 1:=by
 unfold jx
 split
 ·rw [List.length_map];lia
 ·rw [List.length_append,List.length_cons,List.length_nil];lia
theorem RelO.isSome_eq {o:Option V} {u:Option Value} (r:RelO o u):o.isSome=u.isSome:=by
 cases o with
 | none=>cases u with
  | none=>rfl
  | some _=>exact (show False from r).elim
 | some _=>cases u with
  | none=>exact (show False from r).elim
  | some _=>rfl
theorem KV.val {Em:List (κ×V)} {vs:List (κ×Value)} (r:KV Em vs) (k:κ):RelO (nj Em k) (valueAt vs k):=by
 unfold KV at r
 induction r with
 | nil=>exact True.intro
 | @cons p q ps qs h t ih=>
  obtain ⟨h1,h2⟩:=h
  by_cases e:p.1=k
  ·have e':q.1=k:=h1.symm.trans e
   have b:valueAt (q :: qs) k=some q.2:=by simp [valueAt,List.find?_cons,e']
   rw [lP e,b];exact h2
  ·have e':¬ q.1=k:=fun z=>e (h1.trans z)
   have b:valueAt (q :: qs) k=valueAt qs k:=by simp [valueAt,List.find?_cons,e']
   rw [lQ e,b];exact ih
theorem KV.any {Em:List (κ×V)} {vs:List (κ×Value)} (r:KV Em vs) (k:κ):(Em.any fun kv=>decide (kv.1=k))=vs.any fun kv=>decide (kv.1=k):=by
 unfold KV at r
 induction r with
 | nil=>rfl
 | cons h t ih=>rw [List.any_cons,List.any_cons,ih,h.1]
theorem KV.repl {Em:List (κ×V)} {vs:List (κ×Value)} (r:KV Em vs) (k:κ) {y:V} {u:Value} (ry:RelV y u) :
  KV (Em.map fun kv=>if kv.1=k then (kv.1,y) else kv) (vs.map fun kv=>if kv.1=k then (kv.1,u) else kv):=by
 unfold KV at r ⊢
 induction r with
 | nil=>exact .nil
 | @cons p q ps qs h t ih=>
  rw [List.map_cons,List.map_cons]
  refine .cons ?_ ih
  obtain ⟨h1,h2⟩:=h
  by_cases e:p.1=k
  ·rw [if_pos e,if_pos (h1.symm.trans e)];exact ⟨h1,ry⟩
  ·rw [if_neg e,if_neg (fun z=>e (h1.trans z))];exact ⟨h1,h2⟩
theorem KV.put {Em:List (κ×V)} {vs:List (κ×Value)} (r:KV Em vs) (k:κ) {y:V} {u:Value} (ry:RelV y u):KV (jx Em k y) (stored vs k u):=by
 unfold jx stored
 rw [r.any k]
 by_cases e:(vs.any fun kv=>decide (kv.1=k))=true
 ·rw [if_pos e,if_pos e];exact r.repl k ry
 ·rw [if_neg e,if_neg e];exact Paired.snoc r ⟨rfl,ry⟩
theorem KV.length {Em:List (κ×V)} {vs:List (κ×Value)} (r:KV Em vs):Em.length=vs.length:=Paired.length r
end
theorem kV_is {P:Program} {w:World} {k:Key} {u:Value} (r:RelV (kV k) u):(mixKind P w).is k u=true:=by
 cases k with
 | inl i=>obtain ⟨t,e⟩:=(show ∃ t,u=Value.int i t from r);subst e;exact oP P w i t
 | inr x=>obtain ⟨t,e⟩:=(show ∃ t,u=Value.str x t from r);subst e;exact oQ P w x t
theorem nq {P:Program} {w:World}:∀ {ks:List Key} {us:List Value},Vals (ks.map kV) us->ItemsAre (mixKind P w) ks us
 | [],_,r=>by rw [List.map_nil] at r;cases r;exact .nil
 | k :: ks,_,r=>by
  rw [List.map_cons] at r
  cases r with
  | cons h t=>exact .cons (kV_is h) (nq t)
abbrev KT (H:Hp):List (List Key×V)->List (List Key×Addr×Value)->Prop:=Paired fun p q=>p.1=q.1/\H q.2.1=some (.tup (p.1.map kV))/\RelV p.2 q.2.2
theorem KT.val {H:Hp} {Em:List (List Key×V)} {xs:List (List Key×Addr×Value)} (r:KT H Em xs) (k:List Key):RelO (nj Em k) ((atKey xs k).map (·.2)):=by
 induction r with
 | nil=>exact True.intro
 | @cons p q ps qs h t ih=>
  obtain ⟨h1,_,h2⟩:=h
  by_cases e:p.1=k
  ·have e':q.1=k:=h1.symm.trans e
   have b:atKey (q :: qs) k=some q.2:=by simp [atKey,List.find?_cons,e']
   rw [lP e,b];exact h2
  ·have e':¬ q.1=k:=fun z=>e (h1.trans z)
   have b:atKey (q :: qs) k=atKey qs k:=by simp [atKey,List.find?_cons,e']
   rw [lQ e,b];exact ih
theorem KT.repl {H:Hp} {Em:List (List Key×V)} {xs:List (List Key×Addr×Value)} (r:KT H Em xs) (k:List Key) {y:V} {u:Value} (ry:RelV y u) :
  KT H (Em.map fun kv=>if kv.1=k then (kv.1,y) else kv) (xs.map (putAt k u)):=by
 induction r with
 | nil=>exact .nil
 | @cons p q ps qs h t ih=>
  rw [List.map_cons,List.map_cons]
  refine .cons ?_ ih
  obtain ⟨h1,h2,h3⟩:=h
  unfold putAt
  by_cases e:p.1=k
  ·rw [if_pos e,if_pos (h1.symm.trans e)];exact ⟨h1,h2,ry⟩
  ·rw [if_neg e,if_neg (fun z=>e (h1.trans z))];exact ⟨h1,h2,h3⟩
theorem KT.put {H:Hp} {Em:List (List Key×V)} {xs:List (List Key×Addr×Value)} (r:KT H Em xs) (k:List Key) {b:Addr} {y:V} {u:Value} (hb:H b=some (.tup (k.map kV))) (ry:RelV y u) :
  KT H (jx Em k y) (storedH xs k b u):=by
 have e:(Em.any fun kv=>decide (kv.1=k))=(atKey xs k).isSome:=by
  rw [pZ,(r.val k).isSome_eq,Option.isSome_map]
 unfold jx storedH
 rw [e]
 by_cases q:(atKey xs k).isSome=true
 ·rw [if_pos q,if_pos q];exact r.repl k ry
 ·rw [if_neg q,if_neg q];exact Paired.snoc r ⟨rfl,hb,ry⟩
theorem KT.keeps {H H':Hp} {Em:List (List Key×V)} {xs:List (List Key×Addr×Value)} (r:KT H Em xs) (ht:∀ b ys,H b=some (.tup ys)->H' b=some (.tup ys)):KT H' Em xs:=
 Paired.mapP r fun _ _ z=>⟨z.1,ht _ _ z.2.1,z.2.2⟩
section
variable {P:Program} {w:World} {H:Hp} {h:Heap} {a:Addr}
theorem Am {u:HO} (ok:HOk P w H h) (e:Rd H a u):ObjOk P w H h a u:=e.ok ok
theorem sS {Em:List (Key×V)} (ok:HOk P w H h) (e:Rd H a (.dK Em)):Em.length<=sizeLine/\(a == sysModules)=false/\∃ vs,KV Em vs/\h.DictOf (mixKind P w) a vs:=
 show ObjOk P w H h a (.dK Em) from Am ok e
theorem An {Em:List (Key×V)} (ok:HOk P w H h) (e:H a=some (.dK Em)):Em.length<=sizeLine/\(a == sysModules)=false/\∃ vs,KV Em vs/\h.DictOf (mixKind P w) a vs:=sS ok (.inl e)
theorem nr {ks:List Key} (ok:HOk P w H h) (e:H a=some (.tup (ks.map kV))):(tupleKind (mixKind P w)).is h ks a:=by
 obtain ⟨_,El,r,o,h1,h2,⟨n,h3⟩,_⟩:=(show ObjOk P w H h a (.tup (ks.map kV)) from ok a _ e)
 exact ⟨o,El.toArray,n,h1,h2,h3,by simpa using nq r⟩
theorem sT {Em:List (List Key×V)} (ok:HOk P w H h) (e:Rd H a (.dT Em)):Em.length<=sizeLine/\(a == sysModules)=false/\
  ∃ xs,KT H Em xs/\h.DictOfH (tupleKind (mixKind P w)) a xs:=by
 obtain ⟨z,y,xs,r,o,es,ep,h1,h2,h3,h4,h5⟩:=(show ObjOk P w H h a (.dT Em) from Am ok e)
 refine ⟨z,y,xs,r,o,es,ep,h1,h2,h3,h4,fun x hx=>?_,h5⟩
 have all:∀ {l:List (List Key×V)} {m:List (List Key×Addr×Value)},KT H l m->∀ x∈m,(tupleKind (mixKind P w)).is h x.1 x.2.1:=by
  intro l m q
  induction q with
  | nil=>intro x hx;exact nomatch hx
  | @cons p q ps qs hq t ih=>
   intro x hx
   rcases List.mem_cons.mp hx with e | hx
   ·subst e
    exact nr ok (by rw [<-hq.1];exact hq.2.1)
   ·exact ih x hx
 exact all r x hx
theorem Cv {Em:List (List Key×V)} (ok:HOk P w H h) (e:H a=some (.dT Em)):Em.length<=sizeLine/\(a == sysModules)=false/\
  ∃ xs,KT H Em xs/\h.DictOfH (tupleKind (mixKind P w)) a xs:=sT ok (.inl e)
end
def DGet (H:Hp) (a:Addr) (y:V) (r:Option V):Prop:=
 (∃ Em k,Rd H a (.dK Em)/\y=kV k/\r=nj Em k)\/∃ Em k b,Rd H a (.dT Em)/\y=.ref b/\H b=some (.tup (k.map kV))/\r=nj Em k
def DPut (H:Hp) (a:Addr) (y v:V) (H':Hp):Prop:=
 (∃ Em k,H a=some (.dK Em)/\y=kV k/\Em.length < sizeLine/\H'=upd H a (.dK (jx Em k v)))\/
 ∃ Em k b,H a=some (.dT Em)/\y=.ref b/\H b=some (.tup (k.map kV))/\Em.length < sizeLine/\H'=upd H a (.dT (jx Em k v))
theorem DGet.k {H:Hp} {a:Addr} {Em:List (Key×V)} {k:Key} (e:H a=some (.dK Em)):DGet H a (kV k) (nj Em k):=.inl ⟨Em,k,.inl e,rfl,rfl⟩
theorem DGet.t {H:Hp} {a b:Addr} {Em:List (List Key×V)} {k:List Key} (e:H a=some (.dT Em)) (eb:H b=some (.tup (k.map kV))):DGet H a (.ref b) (nj Em k):=.inr ⟨Em,k,b,.inl e,rfl,eb,rfl⟩
theorem DPut.k {H:Hp} {a:Addr} {Em:List (Key×V)} {k:Key} {v:V} (e:H a=some (.dK Em)) (hl:Em.length < sizeLine):DPut H a (kV k) v (upd H a (.dK (jx Em k v))):=.inl ⟨Em,k,e,rfl,hl,rfl⟩
theorem DPut.t {H:Hp} {a b:Addr} {Em:List (List Key×V)} {k:List Key} {v:V} (e:H a=some (.dT Em)) (eb:H b=some (.tup (k.map kV))) (hl:Em.length < sizeLine) :
  DPut H a (.ref b) v (upd H a (.dT (jx Em k v))):=.inr ⟨Em,k,b,e,rfl,eb,hl,rfl⟩
section
variable {X:Cx} {pins:List (Addr×Obj)} {σ:St} {H:Hp} {s:Shared} {a:Addr} {y v:V} {u r:Value} {o:Option V} {A:Around} {E:Value->Shared->Prop}
theorem Inv.big (I:Inv X pins σ H s):sysModules < s.heap.objs.size:=by
 have h:mainGlobals < s.heap.objs.size:=(I.mod.glob.keeps I.bk).lt
 exact Nat.lt_trans (by decide) h
theorem sU {Q:Value->Shared->Prop} (hu:A.units + 1 < cLine) (I:Inv X pins σ H s) (g:DGet H a y (some v)) (ry:RelV y u) (h:∀ w' s',Inv X pins σ H s'->RelV v w'->Q w' s') :
  wpAny (model X.prog X.w) A (getItem (.ref a) u) Q E s:=by
 rcases g with ⟨Em,k,e,ey,l⟩ | ⟨Em,k,b,e,ey,eb,l⟩
 ·subst ey
  obtain ⟨z,hd,vs,rel,dd⟩:=sS I.hok e
  obtain ⟨w',hw,IQ⟩:=RelO.some_of (v:=v) (o:=valueAt vs k) (by rw [l];exact rel.val k)
  exact wpAny_getItem_of (kV_is ry) dd.mapOf hw (h w' _ (I.tok _) IQ)
 ·subst ey
  cases (show u=Value.ref b from ry)
  obtain ⟨z,hd,xs,rel,dd⟩:=sT I.hok e
  obtain ⟨w',hw,IQ⟩:=RelO.some_of (v:=v) (o:=(atKey xs k).map (·.2)) (by rw [l];exact rel.val k)
  obtain ⟨p,hp,L7⟩:=Option.map_eq_some_iff.mp hw
  refine wpAny_getItem_heap (tupleKind_room_in1 hu) (nr I.hok eb) dd hp ?_
  rw [L7]
  exact h w' _ (I.tok _) IQ
theorem D1 {Q:Value->Shared->Prop} (hu:A.units + 1 < cLine) (I:Inv X pins σ H s) (g:DGet H a y o) (ry:RelV y u) (h:∀ s',Inv X pins σ H s'->Q (.bool o.isSome) s') :
  wpAny (model X.prog X.w) A (compareOp .In u (.ref a)) Q E s:=by
 rcases g with ⟨Em,k,e,ey,l⟩ | ⟨Em,k,b,e,ey,eb,l⟩
 ·subst ey
  obtain ⟨z,hd,vs,rel,dd⟩:=sS I.hok e
  refine wpAny_in_of (kV_is ry) hd dd.mapOf ?_
  rw [<-(rel.val k).isSome_eq,<-l]
  exact h _ (I.tok _)
 ·subst ey
  cases (show u=Value.ref b from ry)
  obtain ⟨z,hd,xs,rel,dd⟩:=sT I.hok e
  refine wpAny_in_heap (tupleKind_room_in1 hu) (nr I.hok eb) hd dd ?_
  have q:=(rel.val k).isSome_eq
  rw [Option.isSome_map] at q
  rw [<-q,<-l]
  exact h _ (I.tok _)
theorem xW {Q:Value->Shared->Prop} (hu:A.units + 1 < cLine) (I:Inv X pins σ H s) (g:DGet H a y o) (ry:RelV y u) (h:∀ s',Inv X pins σ H s'->Q (.bool (!o.isSome)) s') :
  wpAny (model X.prog X.w) A (compareOp .NotIn u (.ref a)) Q E s:=by
 rcases g with ⟨Em,k,e,ey,l⟩ | ⟨Em,k,b,e,ey,eb,l⟩
 ·subst ey
  obtain ⟨z,hd,vs,rel,dd⟩:=sS I.hok e
  refine wpAny_notIn_of (kV_is ry) hd dd.mapOf ?_
  rw [<-(rel.val k).isSome_eq,<-l]
  exact h _ (I.tok _)
 ·subst ey
  cases (show u=Value.ref b from ry)
  obtain ⟨z,hd,xs,rel,dd⟩:=sT I.hok e
  refine wpAny_notIn_heap (tupleKind_room_in1 hu) (nr I.hok eb) hd dd ?_
  have q:=(rel.val k).isSome_eq
  rw [Option.isSome_map] at q
  rw [<-q,<-l]
  exact h _ (I.tok _)
theorem oY {h':Heap} {t':Nat} {ob:HO} (I:Inv X pins σ H s) (mu:LN (H a)) (hs:Heap.SameBut a s.heap h') (he:∃ q,h'.get? a=some q) (new:ObjOk X.prog X.w (upd H a ob) h' a ob) :
  Inv X pins σ (upd H a ob) { s with heap:=h',toks:=t' }:=
 I.write (x:=a) (e:=a) mu (.inl rfl) (fun b q hb z=>(hs.2 b hb).trans z) he new
theorem wJ {P:Program} {w:World} {H':Hp} {h':Heap} {Em:List (Key×V)} {vs:List (Key×Value)} (z:Em.length<=sizeLine) (hd:(a == sysModules)=false) (rel:KV Em vs) (dd:h'.DictOf (mixKind P w) a vs) :
  ObjOk P w H' h' a (.dK Em):=⟨z,hd,vs,rel,dd⟩
theorem sV {H':Hp} {Q:Unit->Shared->Prop} (hu:A.units + 1 < cLine) (I:Inv X pins σ H s) (g:DPut H a y v H') (ry:RelV y u) (rv:RelV v r) (h:∀ s',Inv X pins σ H' s'->Q () s') :
  wpAny (model X.prog X.w) A (setItem (.ref a) u r) Q E s:=by
 rcases g with ⟨Em,k,e,ey,l,eH⟩ | ⟨Em,k,b,e,ey,eb,l,eH⟩
 ·subst ey eH
  obtain ⟨z,hd,vs,rel,dd⟩:=An I.hok e
  have hz:vs.length<=sizeLine:=by rw [<-rel.length];exact z
  have hl:(jx Em k v).length<=sizeLine:=by have:=g5 Em k v;lia
  refine wpAny_setItem_pairs (hsz:=hz) (kV_is ry) dd fun h' JX hs=>h _ ?_
  have he:∃ q,h'.get? a=some q:=let ⟨q,_,_,hq,_⟩:=JX;⟨q,hq⟩
  exact oY I (by rw [e];exact True.intro) hs he (wJ hl hd (rel.put k rv) JX)
 ·subst ey eH
  cases (show u=Value.ref b from ry)
  obtain ⟨z,hd,xs,rel,dd⟩:=Cv I.hok e
  have hz:xs.length<=sizeLine:=by rw [<-Paired.length rel];exact z
  have hl:(jx Em k v).length<=sizeLine:=by have:=g5 Em k v;lia
  refine wpAny_setItem_heap (hsz:=hz) (tupleKind_room_in1 hu) (nr I.hok eb) dd fun h' JX hs=>h _ ?_
  obtain ⟨q,es,ep,hq,h2,h3,h4,_,h5⟩:=JX
  refine oY I (by rw [e];exact True.intro) hs ⟨q,hq⟩ ⟨hl,hd,_,(rel.put k eb rv).keeps fun c ys ec=>?_,q,es,ep,hq,h2,h3,h4,h5⟩
  rw [aP (B0 ec e (fun z=>nomatch z))]
  exact ec
end
section
variable {X:Cx} {pins:List (Addr×Obj)} {σ:St} {H:Hp} {s:Shared} {a:Addr} {Em:List (Key×V)} {k:Key} {u:Value} {A:Around} {E:Value->Shared->Prop}
end
def NoSl (i:Expr):Prop:=∀ ov iv,subscripted i false ov iv=operate [ov,iv] (getItem ov iv)
theorem xX {prog:Program} {w:World} {A:Around} {E:Value->Shared->Prop} {s:Shared} {env:Env} {value slice:Expr} {pos:Pos} {T id:String} {Q:Value->Shared->Prop}
  (hl:typeLookup (.type T) "__getitem__" = pure (some (.builtin id))) (hs:NoSl slice)
  (h:wpAny (model prog w) A (eval value env) (fun o s₁=>wpAny (model prog w) A (eval slice env) (fun i s₂=>s₂.TypeIs o T/\wpAny (model prog w) A (getItem o i) Q E s₂) E s₁) E s) :
  wpAny (model prog w) A (eval (.Subscript value slice pos) env) Q E s:=by
 refine Subscript_ (wpAny_mono h (fun o s₁ h₁=>wpAny_mono h₁ (fun i s₂ h₂=>?_) fun _ _ x=>x) fun _ _ x=>x)
 obtain ⟨hT,h₂⟩:=h₂
 unfold subscriptTail
 refine wpAny_bind ?_
 rw [getitemInPython_of_ne hT.not_modules]
 refine wpAny_bind (wpAny_specialOf hT hl ?_)
 have fin:wpAny (model prog w) A (subscripted slice false o i) (fun r s₃=>wpAny (model prog w) A (letTemporaryGo value o r >>= fun _=>pure r) Q E s₃) E s₂:=by
  rw [hs o i]
  exact wpAny_operating (wpAny_mono h₂ (fun r s₃ h₃=>wpAny_bind (wpAny_letTemporaryGo (wpAny_pure h₃))) fun _ _ x=>x)
 first
  | exact wpAny_pure (wpAny_bind fin)
  | exact wpAny_bind (wpAny_pure (wpAny_bind fin))
  | exact wpAny_bind fin
theorem oZ {X:Cx} {pins:List (Addr×Obj)} {σ:St} {H:Hp} {s:Shared} {a:Addr} {y:V} {o:Option V} (I:Inv X pins σ H s) (g:DGet H a y o):s.TypeIs (.ref a) "dict":=by
 rcases g with ⟨Em,k,e,_,_⟩ | ⟨Em,k,b,e,_,_,_⟩
 ·obtain ⟨_,_,vs,_,dd⟩:=sS I.hok e
  exact dd.typeIs
 ·obtain ⟨_,_,xs,_,dd⟩:=sT I.hok e
  exact dd.typeIs
noncomputable def Cw (td ty:TE):TE:=fun σ H Q=>td σ H fun x H1=>ty σ H1 fun y H2=>∃ a v,x=.ref a/\DGet H2 a y (some v)/\Q v H2
noncomputable def Cy (td ty tv:TE):TS:=fun D σ H=>tv σ H fun v H1=>td σ H1 fun x H2=>ty σ H2 fun y H3=>∃ a H4,x=.ref a/\DPut H3 a y v H4/\D.nx σ H4
section
variable {X:Cx} {o i e value:Expr} {pos pos' tpos:Pos} {td ty tv:TE}
theorem xY (hu:X.A.units + 1 < cLine) (ho:PE X o td) (hi:PE X i ty) (hs:NoSl i):PE X (.Subscript o i pos) (Cw td ty):=by
 intro pins s σ H Q I h
 refine xX PySem.F.slot_dict_getitem.lookup hs (ED (ho pins s σ H _ I h) fun u s1 ⟨x,H1,I1,rx,q1⟩=>ED (hi pins s1 σ H1 _ I1 q1) fun iv s2 EE=>?_)
 obtain ⟨y,H2,I2,ry,a,v,ex,g,q2⟩:=EE
 subst ex
 obtain rfl:u=Value.ref a:=rx
 exact ⟨oZ I2 g,sU hu I2 g ry fun w' s3 I3 IQ=>⟨v,H2,I3,IQ,q2⟩⟩
theorem xZ (hu:X.A.units + 1 < cLine) (ho:PE X o td) (hi:PE X i ty) (hv:PE X value tv) (hs:swapsWith value (some (.Subscript o i pos')) pos.line X.env=pure false) :
  PS X (.Assign [.Subscript o i pos'] value pos) (Cy td ty tv):=by
 intro pins s σ H D I h
 refine wpAny_Assign_Subscript (ED (hv pins s σ H _ I h) fun r s1 ⟨v,H1,I1,rv,q1⟩=>ED (ho pins s1 σ H1 _ I1 q1) fun u s2 ⟨x,H2,I2,rx,q2⟩=>ED (hi pins s2 σ H2 _ I2 q2) fun iv s3 ⟨y,H3,I3,ry,a,H4,ex,g,q3⟩=>?_) hs
 subst ex
 obtain rfl:u=Value.ref a:=rx
 exact sV hu I3 g ry rv fun s4 I4=>⟨σ,H4,I4,q3⟩
end
theorem dk_empty {P:Program} {w:World} {H:Hp} (h:Heap) (hb:sysModules < h.objs.size):ObjOk P w H (h.push { cls:=.type "dict",data:=.dict #[] }) h.objs.size (.dK []):=
 ⟨Nat.zero_le _,beq_eq_false_iff_ne.mpr (Ne.symm (Nat.ne_of_lt hb)),[],.nil,Heap.DictOf.new h⟩
section
variable {X:Cx} {pos:Pos}
end
noncomputable def tPairs:List (TE×TE)->St->Hp->(List (V×V)->Hp->Prop)->Prop
 | [],_,H,Q=>Q [] H
 | (tk,tv) :: r,σ,H,Q=>tk σ H fun x H1=>tv σ H1 fun y H2=>tPairs r σ H2 fun ps H3=>Q ((x,y) :: ps) H3
abbrev VV:List (V×V)->List (Value×Value)->Prop:=Paired fun p q=>RelV p.1 q.1/\RelV p.2 q.2
def M7 (X:Cx) (pos:Pos) (keys:List (Option Expr)) (values:List Expr) (JY:List (TE×TE)):Prop:=
 ∀ (pins:List (Addr×Obj)) (s:Shared) (σ:St) (H:Hp) (Q:List (V×V)->Hp->Prop),Inv X pins σ H s->tPairs JY σ H Q->
  wpAny (model X.prog X.w) X.A (evalPairs (pairTrees keys values X.env pos)) (fun vs s'=>∃ ps H',Inv X pins σ H' s'/\VV ps vs/\Q ps H') X.xe s
theorem x3 {X:Cx} {pos:Pos}:M7 X pos [] [] []:=fun pins s σ H Q I h=>pairTrees_nil_walk ⟨[],H,I,.nil,h⟩
theorem vF {X:Cx} {pos:Pos} {k v:Expr} {ks:List (Option Expr)} {vs:List Expr} {tk tv:TE} {JY:List (TE×TE)} (hk:PE X k tk) (hv:PE X v tv) (hr:M7 X pos ks vs JY) :
  M7 X pos (some k :: ks) (v :: vs) ((tk,tv) :: JY):=fun pins s σ H Q I h=>
 pairTrees_cons_walk (ED (hk pins s σ H _ I h) fun u s1 ⟨x,H1,I1,rx,q1⟩=>ED (hv pins s1 σ H1 _ I1 q1) fun w2 s2 ⟨y,H2,I2,ry,q2⟩=>
  ED (hr pins s2 σ H2 _ I2 q2) fun ws s3 ⟨ps,H3,I3,rel,q3⟩=>⟨(x,y) :: ps,H3,I3,.cons ⟨rx,ry⟩ rel,q3⟩)
noncomputable def nt (Em more:List (Key×V)):List (Key×V):=more.foldl (fun acc kv=>jx acc kv.1 kv.2) Em
theorem KV.merge:∀ {more:List (Key×V)} {rs:List (Key×Value)} {Em:List (Key×V)} {vs:List (Key×Value)},KV more rs->KV Em vs->KV (nt Em more) (merged vs rs):=by
 intro more rs Em vs r
 unfold KV at r
 induction r generalizing Em vs with
 | nil=>intro q;exact q
 | @cons p q ps qs h t ih=>
  intro r0
  have e:KV (jx Em p.1 p.2) (stored vs q.1 q.2):=by
   have:=r0.put p.1 h.2
   rw [<-h.1];exact this
  exact ih e
theorem ik:∀ (more Em:List (Key×V)),(nt Em more).length<=Em.length + more.length
 | [],Em=>by show Em.length<=Em.length + 0;lia
 | p :: r,Em=>by
  have h1:=ik r (jx Em p.1 p.2)
  have h2:=g5 Em p.1 p.2
  show (nt (jx Em p.1 p.2) r).length<=_
  rw [List.length_cons];lia
theorem lg {P:Program} {w:World}:∀ {Em:List (Key×V)} {ws:List (Value×Value)},VV (Em.map fun kv=>(kV kv.1,kv.2)) ws->∃ rs,Carries (mixKind P w) ws rs/\KV Em rs
 | [],_,r=>by rw [List.map_nil] at r;cases r;exact ⟨[],True.intro,.nil⟩
 | p :: Em,_,r=>by
  rw [List.map_cons] at r
  cases r with
  | @cons a b as bs h t=>
   obtain ⟨rs,c,q⟩:=lg (P:=P) (w:=w) t
   obtain ⟨b1,b2⟩:=b
   exact ⟨(p.1,b2) :: rs,⟨kV_is h.1,rfl,c⟩,.cons ⟨rfl,h.2⟩ q⟩
noncomputable def Cz (JY:List (TE×TE)):TE:=fun σ H Q=>∀ p,H p=none->tPairs JY σ (upd H p (.dK [])) fun ps H2=>H2 p=some (.dK [])/\∃ Em:List (Key×V),ps=Em.map (fun kv=>(kV kv.1,kv.2))/\Em.length<=15/\Q (.ref p) (upd H2 p (.dK (nt [] Em)))
theorem x4 {X:Cx} {pos:Pos} {keys:List (Option Expr)} {values:List Expr} {JY:List (TE×TE)} (h:M7 X pos keys values JY) (GN:keys.all (·.isSome)=true) (hl:keys.length=values.length) (h0:keys≠[])
  (h15:keys.length<=15):PE X (.Dict keys values pos) (Cz JY):=by
 intro pins s σ H Q I q
 have hn:=I.hok.fresh (Nat.le_refl s.heap.objs.size)
 have I1:=I.laid (a:=s.heap.objs.size) (o:=.dK []) (h':=s.heap.push { cls:=.type "dict",data:=.dict #[] }) (t':=s.toks) (fun _ _ q=>Heap.get?_push_of_some _ q) (Nat.le_refl _) (dk_empty s.heap I.big)
 refine wpAny_Dict_walk (knd:=mixKind X.prog X.w) GN hl h0 h15 (ED (h pins _ σ _ _ I1 (q _ hn)) fun ws s2 EE=>?_)
 obtain ⟨ps,H2,I2,rel,e,Em,ep,lk,q2⟩:=EE
 subst ep
 obtain ⟨rs,c,rk⟩:=lg (P:=X.prog) (w:=X.w) rel
 obtain ⟨z,hd,vs0,r0,dd⟩:=An I2.hok e
 cases r0
 refine ⟨rs,c,dd,fun h' JX hs=>⟨.ref s.heap.objs.size,_,?_,rfl,q2⟩⟩
 have hz:(nt [] Em).length<=sizeLine:=by
  have h1:=ik Em []
  rw [List.length_nil] at h1
  rw [sizeLine_eq];lia
 have he:∃ q,h'.get? s.heap.objs.size=some q:=let ⟨q,_,_,hq,_⟩:=JX;⟨q,hq⟩
 exact oY I2 (by rw [e];exact True.intro) hs he (wJ hz hd (rk.merge .nil) JX)
section
variable {X:Cx} {pins:List (Addr×Obj)} {σ:St} {H:Hp} {s:Shared} {a:Addr} {y d:V} {u r:Value} {o:Option V} {A:Around} {E:Value->Shared->Prop}
end
section
variable {X:Cx} {o e f:Expr} {apos EG:Pos} {td ty tx:TE}
end
section
variable {X:Cx} {pins:List (Addr×Obj)} {σ:St} {H:Hp} {s:Shared} {a:Addr} {Em:List (Key×V)} {A:Around} {E:Value->Shared->Prop}
end
section
variable {X:Cx} {pins:List (Addr×Obj)} {σ:St} {H:Hp} {s:Shared} {a:Addr} {y:V} {u:Value} {A:Around} {E:Value->Shared->Prop}
end
section
variable {κ:Type} [DecidableEq κ]
end
end L2
namespace NX
open PySem PySem.Spec PyProof.Rows L2
def RawD (h:Heap) (d:Addr) (es:Array DictEntry) (ep:Nat):Prop:=∃ o,h.get? d=some o/\o.ExactDict/\o.data=.dict es ep
theorem RawD.at {h h':Heap} {d:Addr} {es:Array DictEntry} {ep:Nat} (x:RawD h d es ep) (e:∀ o,h.get? d=some o->h'.get? d=some o):RawD h' d es ep:=by
 obtain ⟨o,g,r⟩:=x
 exact ⟨o,e o g,r⟩
section
variable {prog:Program} {w:World} {A:Around} {E:Value->Shared->Prop} {s:Shared} {d it:Addr} {es:Array DictEntry} {ep i:Nat}
theorem jH (x:RawD s.heap d es ep):s.TypeIs (.ref d) "dict":=by
 obtain ⟨o,g,ex,_⟩:=x
 exact ⟨o,g,ex.1⟩
theorem vG {Q:Value->Shared->Prop} (nm:(d == sysModules)=false) (x:RawD s.heap d es ep)
  (q:Q (.ref s.heap.objs.size) { s with heap:=s.heap.push { cls:=.type "dict_keyiterator",data:=.fields #[.ref d,.int 0 0,.int es.size 0,.int ep 0] } }):wpAny (model prog w) A (pyIter (.ref d)) Q E s:=by
 have ty:=jH x
 obtain ⟨o,g,ex,dat⟩:=x
 refine wpAny_pyIter_slot ty F.slot_dict_iter (wpAny_call_entry F.slot_dict_iter ty F.entry_dict_iter (wpAny_bind ?_) (F.args_dict_iter_1 _))
 refine wpAny_bind (wpAny_notOrdered_dict ty (wpAny_pure ?_))
 show wpAny _ _ (Builtin.Dict.showsAll d >>= fun _=>_) _ _ s
 have ns:Builtin.Dict.showsAll d=pure ():=by
  unfold Builtin.Dict.showsAll
  rw [nm]
  rfl
 rw [ns]
 refine wpAny_bind (wpAny_pure (wpAny_bind (wpAny_dictEntries g dat (wpAny_bind (wpAny_dictEpoch g dat (wpAny_bind (wpAny_newObj_type (wpAny_pure ⟨_,rfl,"dict_keyiterator",_,⟨_,Heap.get?_push_size _ rfl,rfl⟩,F.slot_dict_keyiterator_next.lookup,?_⟩))))))))
 exact q
theorem vH {Q:Option Value->Shared->Prop} {e:DictEntry} (hit:s.heap.IsKeyIter it d i es.size ep) (x:RawD s.heap d es ep) (hx:es[i]?=some e)
  (q:∀ h',h'.IsKeyIter it d (i + 1) es.size ep->Heap.SameBut it s.heap h'->Q (some e.key) { s with heap:=h' }):wpAny (model prog w) A (pyNext (.ref it)) Q E s:=by
 have ti:=hit.typeIs
 obtain ⟨o,g,oc,od⟩:=hit
 obtain ⟨ob,gd,_,dat⟩:=x
 have EY:i < es.size:=(Array.getElem?_eq_some_iff.mp hx).1
 unfold pyNext
 refine wpAny_bind (wpAny_attempt (wpAny_callSpecial?_slot (name:=Str.ofString "__next__") ti F.slot_dict_keyiterator_next (wpAny_call_entry F.slot_dict_keyiterator_next ti F.entry_dict_keyiterator_next
  (wpAny_bind (wpAny_pure (wpAny_bind (wpAny_bind ?_)))) (F.args_dict_keyiterator_next_1 _))))
 refine wpAny_bind (wpAny_typeNameOfWhole_keyiter ti (wpAny_pure (wpAny_bind (wpAny_fieldsOf g od ?_))))
 have IP:Builtin.Dict_items.ownsTuple "dict_keyiterator" = false:=by decide
 simp only [IP,Bool.false_eq_true,if_false]
 show wpAny _ _ (if (Value.ref d == Value.none)=true then _ else _) _ _ s
 have nz:¬ ((Value.ref d == Value.none)=true):=Bool.false_ne_true
 rw [if_neg nz]
 refine wpAny_bind (wpAny_pure (wpAny_bind (wpAny_dictEntries gd dat ?_)))
 rw [if_neg (by simp)]
 refine wpAny_bind (wpAny_pure (wpAny_bind (wpAny_dictEpoch gd dat ?_)))
 rw [if_neg (by simp)]
 refine wpAny_pure ?_
 simp only [if_neg (show ¬ ((i:Int) < 0) by lia),Int.toNat_natCast,hx]
 refine wpAny_bind (wpAny_bind (wpAny_typeNameOfWhole_keyiter ti (wpAny_pure (wpAny_bind (wpAny_isOneOf_keyiter ti ?_)))))
 show wpAny _ _ (setField (.ref it) 1 (rawInt ((i:Int) + 1)) >>= fun _=>_) _ _ s
 refine wpAny_bind (wpAny_setField g od (by simp) ?_)
 have nx:(s.heap.update it (Obj.mapFields fun y=>y.setIfInBounds 1 (rawInt ((i:Int) + 1)))).IsKeyIter it d (i + 1) es.size ep:=
  ⟨_,Heap.get?_update_self _ g (Obj.isFreed_of_fields (Obj.data_mapFields od _)),(Obj.cls_mapFields ..).trans oc,(Obj.data_mapFields od _).trans (by simp [rawInt])⟩
 refine wpAny_bind (wpAny_holding (wpAny_bind (wpAny_isOneOf_keyiter (s:={ s with heap:=s.heap.update it (Obj.mapFields fun y=>y.setIfInBounds 1 (rawInt ((i:Int) + 1))) }) nx.typeIs ?_)))
 show wpAny _ _ (pure e.key) _ _ _
 exact wpAny_pure (wpAny_pure ⟨_,rfl,wpAny_pure (q _ nx (Heap.SameBut.update ..))⟩)
theorem x5 {Q:Option Value->Shared->Prop} (hh:A.handled=none) (hit:s.heap.IsKeyIter it d i es.size ep) (x:RawD s.heap d es ep) (hx:es[i]?=none)
  (q:∀ h',Heap.ExtBut it s.heap h'->Q none { s with heap:=h' }):wpAny (model prog w) A (pyNext (.ref it)) Q E s:=by
 have ti:=hit.typeIs
 obtain ⟨o,g,oc,od⟩:=hit
 obtain ⟨ob,gd,_,dat⟩:=x
 unfold pyNext
 refine wpAny_bind (wpAny_attempt (wpAny_callSpecial?_slot (name:=Str.ofString "__next__") ti F.slot_dict_keyiterator_next (wpAny_call_entry F.slot_dict_keyiterator_next ti F.entry_dict_keyiterator_next
  (wpAny_bind (wpAny_pure (wpAny_bind (wpAny_bind ?_)))) (F.args_dict_keyiterator_next_1 _))))
 refine wpAny_bind (wpAny_typeNameOfWhole_keyiter ti (wpAny_pure (wpAny_bind (wpAny_fieldsOf g od ?_))))
 have IP:Builtin.Dict_items.ownsTuple "dict_keyiterator" = false:=by decide
 simp only [IP,Bool.false_eq_true,if_false]
 show wpAny _ _ (if (Value.ref d == Value.none)=true then _ else _) _ _ s
 have nz:¬ ((Value.ref d == Value.none)=true):=Bool.false_ne_true
 rw [if_neg nz]
 refine wpAny_bind (wpAny_pure (wpAny_bind (wpAny_dictEntries gd dat ?_)))
 rw [if_neg (by simp)]
 refine wpAny_bind (wpAny_pure (wpAny_bind (wpAny_dictEpoch gd dat ?_)))
 rw [if_neg (by simp)]
 refine wpAny_pure ?_
 simp only [if_neg (show ¬ ((i:Int) < 0) by lia),Int.toNat_natCast,hx]
 refine wpAny_bind (wpAny_bind (wpAny_typeNameOfWhole_keyiter ti (wpAny_pure ?_)))
 show wpAny _ _ (setField (.ref it) 0 .none >>= fun _=>_) _ _ s
 refine wpAny_bind (wpAny_setField g od (by simp) ?_)
 show wpAny _ _ (newExc (.type "StopIteration") [] >>= fun _=>_) _ _ _
 refine wpAny_bind ?_
 simp only [newExc,newTuple]
 refine wpAny_bind (wpAny_newObj_type (wpAny_bind (m:=firstArgMember _ _) (wpAny_of_eq (a:=Value.none) (by first | rfl | (simp only [firstArgMember];rfl)) (wpAny_newObj_type ?_ (by size_fits)))) (by size_fits))
 simp only [raiseNew]
 refine wpAny_bind (wpAny_handled ?_)
 rw [show A.in1.handled=none from hh]
 refine wpAny_bind (wpAny_pure (wpAny_throw ?_))
 refine wpAny_bind (wpAny_isInstance (b:=true) (T:="StopIteration") ⟨_,Heap.get?_push_size _ rfl,rfl⟩ isSubtype_stop ?_)
 exact wpAny_pure (q _ (((Heap.SameBut.update ..).extBut.push _).push _))
theorem sW (hh:A.handled=none) (I:Addr) (ne:d≠I):Walks prog w A I [I,d] [I] es.size (fun i v=>∃ e,es[i]?=some e/\v=e.key) (fun i h=>h.IsKeyIter I d i es.size ep/\RawD h d es ep) where
 sub:=fun b hb=>by
  rw [List.mem_singleton] at hb
  rw [hb]
  exact List.mem_cons_self
 frame:=fun _ _ _ st hk=>⟨st.1.at fun o e=>hk I List.mem_cons_self o e,st.2.at fun o e=>hk d (List.mem_cons_of_mem _ List.mem_cons_self) o e⟩
 item:=fun i s Q E hi st hQ=>by
  refine vH st.1 st.2 (Array.getElem?_eq_getElem hi) fun h' it' sb=>?_
  exact hQ _ h' s.toks ⟨_,Array.getElem?_eq_getElem hi,rfl⟩ ⟨it',st.2.at fun o e=>sb.extBut d o ne e⟩ fun b o hb e=>sb.extBut b o (fun z=>hb (by rw [z];exact List.mem_cons_self)) e
 done:=fun s Q E st hQ=>x5 hh st.1 st.2 (Array.getElem?_eq_none (Nat.le_refl _)) fun h' ext=>hQ h' s.toks fun b o hb e=>ext b o (fun z=>hb (by rw [z];exact List.mem_cons_self)) e
 self:=fun _ _ _ _ st hQ=>wpAny_pyIter_keyiter st.1 hQ
theorem x6 (nm:(d == sysModules)=false):PySem.W.KdlSrc prog w "dict" d d es.size (fun i v=>∃ e,es[i]?=some e/\v=e.key) (fun h=>RawD h d es ep) where
 type:=fun _ x=>jH x
 there:=fun _ x=>by
  obtain ⟨o,g,_⟩:=x
  exact ⟨Heap.lt_size g,Heap.lt_size g⟩
 keep:=fun _ _ x hk=>x.at fun o e=>hk d (.inl rfl) o e
 notList:=by decide
 notTuple:=by decide
 hint:=fun _ _ _ _ x q=>PySem.W.kdl_hint_dict (jH x) q
 iter:=fun _ s hh x=>⟨_,_,(fun _ _ q=>vG nm x q),sW hh _ (by obtain ⟨o,g,_⟩:=x;exact Nat.ne_of_lt (Heap.lt_size g)),⟨⟨_,Heap.get?_push_size _ rfl,rfl,rfl⟩,x.at fun o e=>Heap.get?_push_of_some _ e⟩⟩
end
end NX
namespace NX
open PySem PySem.W PySem.Spec PyProof.Rows L2
section
variable {prog:Program} {w:World} {A:Around} {E:Value->Shared->Prop} {s:Shared}
theorem q0 {O:KeyOrd} {key:Nat->O.α} {kd:SortKind} {l:Addr} {vs:List Value} {Q:Value->Shared->Prop}
  (hcol:∀ Q':List Value->Shared->Prop,(∀ h' tk,(∀ b o,s.heap.get? b=some o->h'.get? b=some o)->Q' vs { s with heap:=h',toks:=tk })->wpAny (model prog w) A.in1 (collect (.ref l)) Q' E s) (IT:vs.length < 64)
  (GK:2<=vs.length->∀ (A':Around) (E':Value->Shared->Prop) (s':Shared),(∀ b o,s.heap.get? b=some o->s'.heap.get? b=some o)->∀ Q:SortKind->Shared->Prop,Q kd s'->wpAny (model prog w) A' (keyKind' vs.toArray) Q E' s')
  (Jo:∀ i j,i < vs.length->j < vs.length->∀ s':Shared,(∀ b o,s.heap.get? b=some o->s'.heap.get? b=some o)->∀ C:Bool->Shared->Prop,C (O.blt (key i) (key j)) s'->kas_ask prog w A.in1.in1 kd vs i j C s')
  (h:∀ (p:Array Nat) (h5 h':Heap) (tk e:Nat),POk vs.length p->bp key p vs.length->(∀ b o,s.heap.get? b=some o->h5.get? b=some o)->(∀ b o,h5.get? b=some o->h'.get? b=some o)->h'.get? h5.objs.size=some (seqObj "list" (List.toArray (p.toList.map fun i=>vs.getD i .none)) e)->Q (.ref h5.objs.size) { s with heap:=h',toks:=tk }) :
  wpAny (model prog w) A (call (.builtin "sorted") [.ref l]) Q E s:=by
 refine Calls.call_function_entry kind_sorted plain_sorted entry_sorted (args_sorted1 _) ?_
 unfold Builtin.«sorted»
 refine wpAny_bind (m:=checkCount "sorted" 1 1 _) (wpAny_pure (wpAny_bind (hcol _ fun h5 tk k5=>?_)))
 refine wpAny_bind (wpAny_newList ?_ (by rw [sizeLine_eq];lia))
 have k6:∀ b o,s.heap.get? b=some o->(h5.push (seqObj "list" vs.toArray 0)).get? b=some o:=fun b o e=>Heap.get?_push_of_some _ (k5 b o e)
 have hL:(h5.push (seqObj "list" vs.toArray 0)).get? h5.objs.size=some (seqObj "list" vs.toArray 0):=Heap.get?_push_size _ rfl
 have Oz:∀ b o,s.heap.get? b=some o->b < h5.objs.size:=fun b o e=>Heap.lt_size (k5 b o e)
 show wpAny _ _ _ _ _ { s with heap:=h5.push (seqObj "list" vs.toArray 0),toks:=tk }
 refine wpAny_bind (wpAny_holding (wpAny_call_entry slot_list_sort ⟨_,hL,rfl⟩ entry_list_sort (ig (key:=key) (kd:=kd) hL IT (fun h2 h' kk Q' q=>GK h2 _ _ _ (fun b o e=>kk b o (Nat.ne_of_lt (Oz b o e)) (k6 b o e)) Q' q)
  (fun i j hi hj h' kk C q=>Jo i j hi hj _ (fun b o e=>kk b o (Nat.ne_of_lt (Oz b o e)) (k6 b o e)) C q) fun p h' hp hs ⟨e,he⟩ kk=>⟨_,rfl,?_⟩) (args_list_sort _)))
 exact wpAny_pure ⟨_,rfl,h p h5 h' tk e hp hs k5 (fun b o q=>kk b o (Nat.ne_of_lt (Heap.lt_size q)) (Heap.get?_push_of_some _ q)) he⟩
end
section
variable {X:Cx} {pins:List (Addr×Obj)} {σ:L2.St} {H:Hp} {s:Shared}
theorem x9 {H:Hp} {Em:List (List Key×V)} {xs:List (List Key×Addr×Value)} (r:KT H Em xs):xs.map (·.1)=Em.map (·.1):=by
 induction r with
 | nil=>rfl
 | cons hq _ ih=>rw [List.map_cons,List.map_cons,ih,hq.1]
theorem CA {H:Hp} {Em:List (List Key×V)} {xs:List (List Key×Addr×Value)} (r:KT H Em xs):∀ y∈xs,H y.2.1=some (.tup (y.1.map kV)):=by
 induction r with
 | nil=>exact fun y hy=>nomatch hy
 | cons hq _ ih=>
  intro y hy
  rcases List.mem_cons.mp hy with rfl | hy
  ·rw [<-hq.1]
   exact hq.2.1
  ·exact ih y hy
theorem ya (I:Inv X pins σ H s) {a:Addr} {Em:List (List Key×V)} (h:Rd H a (.dT Em)):(a == sysModules)=false/\∃ (al:List (Addr×List Key)) (es:Array DictEntry) (ep:Nat),
  RawD s.heap a es ep/\es.toList.map (·.key)=al.map (fun x=>Value.ref x.1)/\al.map (·.2)=Em.map (·.1)/\∀ x∈al,H x.1=some (.tup (x.2.map kV)):=by
 obtain ⟨_,nm,xs,r,o,es,ep,h1,h2,h3,h4,_⟩:=h.ok I.hok
 refine ⟨nm,xs.map fun x=>(x.2.1,x.1),es,ep,⟨o,h1,h2,h3⟩,?_,?_,?_⟩
 ·rw [h4,List.map_map,List.map_map]
  rfl
 ·rw [List.map_map]
  exact x9 r
 ·intro x hx
  obtain ⟨y,hy,rfl⟩:=List.mem_map.mp hx
  exact CA r y hy
theorem kR (hc:X.calm=true):cW X (.builtin "sorted") (fun vs H Q=>∃ (p:Addr) (Em:List (List Key×V)) (top:Bool) (t:List Bool),vs=[.ref p]/\Rd H p (.dT Em)/\(∀ kv∈Em,kinds kv.1=top :: t)/\Em.length < 64/\
  ∀ (D:Addr) (ms:List (Addr×List Key)),H D=none->(∀ a∈ms,H a.1=some (.tup (a.2.map kV)))->(ms.map (·.2)).Perm (Em.map (·.1))->ms.Pairwise (fun a b=>dH b.2 a.2=false)->Q (.ref D) (upd H D (.lst (ms.map fun a=>V.ref a.1)))):=by
 intro pins s σ H vs us Q I r h
 obtain ⟨p,Em,top,kt,rfl,hp,hk,IT,q⟩:=h
 obtain ⟨u,rfl,r1⟩:=dN r
 cases r1
 obtain ⟨nm,al,es,ep,raw,Jp,M8,K8⟩:=ya I hp
 have GN:al.length=Em.length:=by
  have:=congrArg List.length M8
  simpa using this
 have GH:∀ a∈al,SqT X.K H a.1 (a.2.map kV)/\kinds a.2=top :: kt:=fun a ha=>by
  refine ⟨SqT.of (K8 a ha),?_⟩
  have:a.2∈Em.map (·.1):=by rw [<-M8];exact List.mem_map.mpr ⟨a,ha,rfl⟩
  obtain ⟨kv,HI,e⟩:=List.mem_map.mp this
  rw [<-e]
  exact hk kv HI
 have rv:Vals (al.map fun a=>V.ref a.1) (al.map fun a=>Value.ref a.1):=by
  clear Jp M8 K8 GN GH
  induction al with
  | nil=>exact .nil
  | cons a al ih=>exact .cons rfl ih
 have hl:(al.map fun a=>Value.ref a.1).length=al.length:=List.length_map ..
 refine q0 (O:=BX) (key:=fun i=>(al.getD i (0,[])).2) (kd:=tuples' true) (vs:=al.map fun a=>Value.ref a.1) (fun Q' hq=>?_) (by lia) (fun h2 A' E' s' kk Q' q'=>?_) (fun i j hi hj s' kk C q'=>?_) fun pp h5 h' tk e Gn hs k5 k' he=>?_
 ·refine kdu_collect (x6 nm) (I.ok.hd hc) raw (by have:=congrArg List.length Jp;simp only [List.length_map,Array.length_toList] at this;rw [sizeLine_eq];lia) fun h' tk acc kk JV=>?_
  have ea:acc.toList=al.map fun a=>Value.ref a.1:=by
   rw [<-Jp]
   apply List.ext_getElem?
   intro j
   rw [List.getElem?_map,Array.getElem?_toList,Array.getElem?_toList]
   cases hj:acc[j]? with
   | none=>
    have:es[j]?=none:=by
     rw [Array.getElem?_eq_none_iff] at hj ⊢
     rw [<-JV.1]
     exact hj
    rw [this]
    rfl
   | some v=>
    obtain ⟨en,h1,h2⟩:=JV.2 j v hj
    rw [h1,h2]
    rfl
  have:=hq h' tk kk
  rw [<-ea] at this
  exact this
 ·obtain ⟨fs,t1,t2,t3⟩:=pY (h':=s'.heap) I kk top rv fun a ha=>⟨(GH a ha).1,kt,(GH a ha).2⟩
  refine kat_kind (T:=.type (if top then "int" else "str")) t1 (by lia) (fun v hv=>t3 v hv _) (by simp) ?_
  have:((Value.type (if top then "int" else "str")) != Value.type "tuple")=true:=by cases top <;> decide
  rw [this]
  exact q'
 ·unfold kas_ask
  have JK:i < al.length:=by lia
  have K4:j < al.length:=by lia
  rw [lO rv JK,lO rv K4]
  have mi:al.getD i (0,[])∈al:=by rw [bh _ _ _ JK];exact List.getElem_mem _
  have mj:al.getD j (0,[])∈al:=by rw [bh _ _ _ K4];exact List.getElem_mem _
  obtain ⟨u1,o1,n1,r1,g1,_,d1⟩:=ni I (GH _ mi).1
  obtain ⟨u2,o2,n2,r2,g2,_,d2⟩:=ni I (GH _ mj).1
  have ek:kinds (al.getD i (0,[])).2=kinds (al.getD j (0,[])).2:=by rw [(GH _ mi).2,(GH _ mj).2]
  have el:u1.length=u2.length:=by
   have a1:=r1.length
   have a2:=r2.length
   have a3:=congrArg List.length ek
   simp only [kinds,List.length_map] at a1 a2 a3
   lia
  refine kat_lt (kk _ _ g1) d1 (kk _ _ g2) d2 ?_
  have ef:decide (u1.toArray.size < u2.toArray.size)=false:=by simp [el]
  rw [ef]
  exact jR _ _ _ _ 0 r1 r2 ek q'
 ·rw [hl] at Gn hs
  have K6:POk (al.map fun a=>V.ref a.1).length pp:=by rw [List.length_map];exact Gn
  have eo:qZ pp (al.map fun a=>V.ref a.1)=(pp.toList.map fun i=>al.getD i (0,[])).map fun a=>V.ref a.1:=by
   unfold qZ
   rw [List.map_map]
   refine List.map_congr_left fun i hi=>?_
   have hi:=List.mem_range.mp (Gn.perm.mem_iff.mp hi)
   show (al.map fun a=>V.ref a.1).getD i .non=V.ref (al.getD i (0,[])).1
   rw [bh _ _ _ (by rw [List.length_map];exact hi),bh _ _ _ hi]
   simp
  have I5:Inv X pins σ H { s with heap:=h5,toks:=tk }:=I.kept k5
  have hn:H h5.objs.size=none:=I5.hok.fresh (Nat.le_refl _)
  refine ⟨.ref h5.objs.size,_,ij (s:={ s with heap:=h5,toks:=tk }) I5 k' (Nat.le_refl _) he (jF rv K6) ?_,rfl,?_⟩
  ·show (qZ pp (al.map fun a=>V.ref a.1)).length<=sizeLine
   rw [eo,List.length_map,List.length_map,Gn.perm.length_eq,List.length_range,sizeLine_eq]
   lia
  ·rw [eo]
   have pm:=jE (0,[]) Gn
   refine q _ _ hn (fun a ha=>K8 a (pm.mem_iff.mp ha)) ?_ ?_
   ·rw [<-M8]
    exact pm.map _
   ·exact gF (O:=BX) (0,[]) (fun a:Addr×List Key=>a.2) Gn hs
end
end NX
namespace NX
open PySem PySem.Spec PyProof.Rows L2
section
open PySem.SeqAt
open PySem.AutoSeq1 (wpAny_loadPart')
open PySem.MeetsSeq PySem.MeetsSeq2 PySem.MeetsSeq3
theorem p3 {A:Around} {s:Shared} {a c:Key} {u v:Value} (ra:RelV (kV a) u) (rc:RelV (kV c) v):EqAt A s u v (decide (a=c)):=by
 have h:=wy (A:=A) (s:=s) ra rc (jG a) (jG c)
 rw [sR] at h
 exact h
theorem vI {prog:Program} {w:World} {A:Around} {E:Value->Shared->Prop} {s:Shared} {Q:Value->Shared->Prop} {a c:Key} {u v:Value} (ra:RelV (kV a) u) (rc:RelV (kV c) v) (hk:a.isLeft=c.isLeft) (h:Q (.bool (oK.blt a c)) s) :
  wpAny (model prog w) A (richCompare .Lt u v) Q E s:=by
 cases a with
 | inl i=>
  cases c with
  | inr _=>cases hk
  | inl j=>
   obtain ⟨t,rfl⟩:=ra
   obtain ⟨t',rfl⟩:=rc
   exact (PyProof.Rows.lt_int h:wpAny (model prog w) A (compareOp .Lt (.int i t) (.int j t')) Q E s)
 | inr x=>
  cases c with
  | inl _=>cases hk
  | inr y=>
   obtain ⟨t,rfl⟩:=ra
   obtain ⟨t',rfl⟩:=rc
   exact (PyProof.Rows.lt_str h:wpAny (model prog w) A (compareOp .Lt (.str x t) (.str y t')) Q E s)
theorem vJ {prog:Program} {w:World} {A:Around} {E:Value->Shared->Prop} {s:Shared} {Q:Value->Shared->Prop} {a c:Key} {u v:Value} (ra:RelV (kV a) u) (rc:RelV (kV c) v) (hk:a.isLeft=c.isLeft) (h:Q (.bool (!oK.blt a c)) s) :
  wpAny (model prog w) A (richCompare .GtE u v) Q E s:=by
 cases a with
 | inl i=>
  cases c with
  | inr _=>cases hk
  | inl j=>
   obtain ⟨t,rfl⟩:=ra
   obtain ⟨t',rfl⟩:=rc
   refine (PyProof.Rows.ge_int ?_:wpAny (model prog w) A (compareOp .GtE (.int i t) (.int j t')) Q E s)
   have e:(!oK.blt (.inl i) (.inl j))=decide (j<=i):=by
    show (!decide (i < j))=decide (j<=i)
    rw [Bool.eq_iff_iff]
    simp
   rw [e] at h
   exact h
 | inr x=>
  cases c with
  | inl _=>cases hk
  | inr y=>
   obtain ⟨t,rfl⟩:=ra
   obtain ⟨t',rfl⟩:=rc
   exact (PySem.P.ge_str h:wpAny (model prog w) A (compareOp .GtE (.str x t) (.str y t')) Q E s)
theorem nv (a c:Key) (r t:List Key):dH (a :: r) (c :: t)=if a=c then dH r t else oK.blt a c:=rfl
theorem lR (l b:Addr) (items E8:Array Value) (n n2:Nat) (dd IF:Option Addr) (sl IG:Array (Option Value)) (ks js:List Key) (hi:Vals (ks.map kV) items.toList) (hj:Vals (js.map kV) E8.toList) (hk:kinds ks=kinds js) :
  Meets (Builtin.«tuple.__lt__» ⟨[.ref l,.ref b],[]⟩)
   (fun _ R s=>s.heap.get? l=some { cls:=.type "tuple",dict:=dd,data:=.seq items n,slots:=sl }/\s.heap.get? b=some { cls:=.type "tuple",dict:=IF,data:=.seq E8 n2,slots:=IG }/\R (.ok (.ret (.bool (dH ks js)))) s):=
 .of_wp fun prog w A R s h=>by
  obtain ⟨hp,g,d,tk,os⟩:=s;obtain ⟨hl,hb,h⟩:=h
  have f2:=AutoSeq1.sub_tuple_tuple
  have z1:items.size=ks.length:=by have:=hi.length;simp at this;lia
  have z2:E8.size=js.length:=by have:=hj.length;simp at this;lia
  have z3:ks.length=js.length:=by have:=congrArg List.length hk;simpa [kinds] using this
  wp_walk using wpAny_loadPart' hl,wpAny_loadPart' hb,wpAny_forIn_list _ (fun fE b s'=>b.1=none/\s'=⟨hp,g,d,tk,os⟩/\∃ (vs ws:List Value) (Gj Gp:List Key),fE=vs.zip ws/\
   Vals (Gj.map kV) vs/\Vals (Gp.map kV) ws/\kinds Gj=kinds Gp/\R (.ok (.ret (.bool (dH Gj Gp)))) ⟨hp,g,d,tk,os⟩) _
  case turn=>
   rintro ⟨y,x⟩ fE b s' ⟨K9,rfl,vs,ws,Gj,Gp,hz,JZ,La,Ih,hR⟩
   cases Gj with
   | nil=>
    cases JZ
    rw [List.zip_nil_left] at hz;cases hz
   | cons a Gj=>
    cases Gp with
    | nil=>cases Ih
    | cons c Gp=>
     cases JZ with
     | @cons _ va _ LH ra hvi'=>
      cases La with
      | @cons _ vc _ LI rc hwi'=>
       rw [List.zip_cons_cons] at hz
       injection hz with hyx hrest
       injection hyx with hy hx
       subst hy hx
       have NS:a.isLeft=c.isLeft:=(List.cons.inj Ih).1
       have LJ:kinds Gj=kinds Gp:=(List.cons.inj Ih).2
       rw [nv] at hR
       have he:=p3 (A:=A.in1) (s:=⟨hp,g,d,tk,os⟩) ra rc
       refine wpAny_bind (he prog w _ _ ?_)
       by_cases hac:a=c
       ·rw [if_pos hac] at hR
        rw [decide_eq_true hac]
        wp_walk
        exact ⟨rfl,rfl,_,_,_,_,hrest,hvi',hwi',LJ,hR⟩
       ·rw [if_neg hac] at hR
        rw [decide_eq_false hac]
        have NT:=fun E Q=>vI (prog:=prog) (w:=w) (A:=A.in1) (E:=E) (s:=⟨hp,g,d,tk,os⟩) (Q:=Q) ra rc NS
        wp_walk using NT
        exact ⟨_,rfl,by simpa using hR⟩
  case fin=>
   rintro ⟨b1,b2⟩ s' ⟨K9,rfl,vs,ws,Gj,Gp,hz,JZ,La,Ih,hR⟩
   simp only at K9
   subst K9
   have hv:dH Gj Gp=decide (items.size < E8.size):=by
    cases Gj with
    | nil=>
     cases Gp with
     | nil=>exact (decide_eq_false (by lia)).symm
     | cons c Gp=>cases Ih
    | cons a Gj=>
     cases Gp with
     | nil=>cases Ih
     | cons c Gp=>
      cases JZ
      cases La
      rw [List.zip_cons_cons] at hz
      cases hz
   rw [hv] at hR
   wp_walk
   exact ⟨_,rfl,by simpa [Builtin.Tuple.tupleCompareSizes] using hR⟩
  case h=>
   exact ⟨rfl,rfl,items.toList,E8.toList,ks,js,rfl,hi,hj,hk,h⟩
theorem lS (l b:Addr) (items E8:Array Value) (n n2:Nat) (dd IF:Option Addr) (sl IG:Array (Option Value)) (ks js:List Key) (hi:Vals (ks.map kV) items.toList) (hj:Vals (js.map kV) E8.toList) (hk:kinds ks=kinds js) :
  Meets (Builtin.«tuple.__ge__» ⟨[.ref l,.ref b],[]⟩)
   (fun _ R s=>s.heap.get? l=some { cls:=.type "tuple",dict:=dd,data:=.seq items n,slots:=sl }/\s.heap.get? b=some { cls:=.type "tuple",dict:=IF,data:=.seq E8 n2,slots:=IG }/\R (.ok (.ret (.bool (!dH ks js)))) s):=
 .of_wp fun prog w A R s h=>by
  obtain ⟨hp,g,d,tk,os⟩:=s;obtain ⟨hl,hb,h⟩:=h
  have f2:=AutoSeq1.sub_tuple_tuple
  have z1:items.size=ks.length:=by have:=hi.length;simp at this;lia
  have z2:E8.size=js.length:=by have:=hj.length;simp at this;lia
  have z3:ks.length=js.length:=by have:=congrArg List.length hk;simpa [kinds] using this
  wp_walk using wpAny_loadPart' hl,wpAny_loadPart' hb,wpAny_forIn_list _ (fun fE b s'=>b.1=none/\s'=⟨hp,g,d,tk,os⟩/\∃ (vs ws:List Value) (Gj Gp:List Key),fE=vs.zip ws/\
   Vals (Gj.map kV) vs/\Vals (Gp.map kV) ws/\kinds Gj=kinds Gp/\R (.ok (.ret (.bool (!dH Gj Gp)))) ⟨hp,g,d,tk,os⟩) _
  case turn=>
   rintro ⟨y,x⟩ fE b s' ⟨K9,rfl,vs,ws,Gj,Gp,hz,JZ,La,Ih,hR⟩
   cases Gj with
   | nil=>
    cases JZ
    rw [List.zip_nil_left] at hz;cases hz
   | cons a Gj=>
    cases Gp with
    | nil=>cases Ih
    | cons c Gp=>
     cases JZ with
     | @cons _ va _ LH ra hvi'=>
      cases La with
      | @cons _ vc _ LI rc hwi'=>
       rw [List.zip_cons_cons] at hz
       injection hz with hyx hrest
       injection hyx with hy hx
       subst hy hx
       have NS:a.isLeft=c.isLeft:=(List.cons.inj Ih).1
       have LJ:kinds Gj=kinds Gp:=(List.cons.inj Ih).2
       rw [nv] at hR
       have he:=p3 (A:=A.in1) (s:=⟨hp,g,d,tk,os⟩) ra rc
       refine wpAny_bind (he prog w _ _ ?_)
       by_cases hac:a=c
       ·rw [if_pos hac] at hR
        rw [decide_eq_true hac]
        wp_walk
        exact ⟨rfl,rfl,_,_,_,_,hrest,hvi',hwi',LJ,hR⟩
       ·rw [if_neg hac] at hR
        rw [decide_eq_false hac]
        have NT:=fun E Q=>vJ (prog:=prog) (w:=w) (A:=A.in1) (E:=E) (s:=⟨hp,g,d,tk,os⟩) (Q:=Q) ra rc NS
        wp_walk using NT
        exact ⟨_,rfl,by simpa using hR⟩
  case fin=>
   rintro ⟨b1,b2⟩ s' ⟨K9,rfl,vs,ws,Gj,Gp,hz,JZ,La,Ih,hR⟩
   simp only at K9
   subst K9
   have hv:(!dH Gj Gp)=decide (E8.size<=items.size):=by
    cases Gj with
    | nil=>
     cases Gp with
     | nil=>exact (decide_eq_true (by lia)).symm
     | cons c Gp=>cases Ih
    | cons a Gj=>
     cases Gp with
     | nil=>cases Ih
     | cons c Gp=>
      cases JZ
      cases La
      rw [List.zip_cons_cons] at hz
      cases hz
   rw [hv] at hR
   wp_walk
   exact ⟨_,rfl,by simpa [Builtin.Tuple.tupleCompareSizes] using hR⟩
  case h=>
   exact ⟨rfl,rfl,items.toList,E8.toList,ks,js,rfl,hi,hj,hk,h⟩
end
section
variable {X:Cx}
noncomputable def Ds (K:W.Frag) (neg:Bool):R2:=fun x y H Q=>∃ a b ks js,x=.ref a/\y=.ref b/\SqT K H a (ks.map kV)/\SqT K H b (js.map kV)/\kinds ks=kinds js/\Q (.bl (if neg then !dH ks js else dH ks js)) H
theorem Ao (hu:X.A.units < cLine):E2 X (compareOp .Lt) (Ds X.K false):=by
 intro pins s σ H x y v u Q I rx ry h
 obtain ⟨a,b,ks,js,rfl,rfl,ha,hb,hk,q⟩:=h
 cases rx
 cases ry
 obtain ⟨El,r1,p1,_⟩:=I.tuple ha
 obtain ⟨Ic,r2,p2,_⟩:=I.tuple hb
 obtain ⟨⟨cls,dd,data,sl⟩,ho,hc,n,hd⟩:=id p1
 obtain ⟨⟨JQ,IF,data2,IG⟩,FW,F0,n2,hd2⟩:=id p2
 simp only at hc hd F0 hd2
 subst hc hd F0 hd2
 exact richCompare_meets_room (op:=.Lt) ⟨_,ho,rfl⟩ ⟨_,FW,rfl⟩ PySem.F.slot_tuple_lt PySem.F.entry_tuple_lt (PySem.F.args_tuple_lt_2 _ _) (lR a b _ _ n n2 dd IF sl IG ks js (by simpa using r1) (by simpa using r2) hk)
  ⟨ho,FW,show Value.bool (dH ks js)≠Value.notImplemented/\EP X pins σ Q (.bool (dH ks js)) s from ⟨(fun x=>nomatch x),⟨.bl (dH ks js),H,I,rfl,q⟩⟩⟩ hu
theorem Ap (hu:X.A.units < cLine):E2 X (compareOp .GtE) (Ds X.K true):=by
 intro pins s σ H x y v u Q I rx ry h
 obtain ⟨a,b,ks,js,rfl,rfl,ha,hb,hk,q⟩:=h
 cases rx
 cases ry
 obtain ⟨El,r1,p1,_⟩:=I.tuple ha
 obtain ⟨Ic,r2,p2,_⟩:=I.tuple hb
 obtain ⟨⟨cls,dd,data,sl⟩,ho,hc,n,hd⟩:=id p1
 obtain ⟨⟨JQ,IF,data2,IG⟩,FW,F0,n2,hd2⟩:=id p2
 simp only at hc hd F0 hd2
 subst hc hd F0 hd2
 exact richCompare_meets_room (op:=.GtE) ⟨_,ho,rfl⟩ ⟨_,FW,rfl⟩ PySem.F.slot_tuple_ge PySem.F.entry_tuple_ge (PySem.F.args_tuple_ge_2 _ _) (lS a b _ _ n n2 dd IF sl IG ks js (by simpa using r1) (by simpa using r2) hk)
  ⟨ho,FW,show Value.bool (!dH ks js)≠Value.notImplemented/\EP X pins σ Q (.bool (!dH ks js)) s from ⟨(fun x=>nomatch x),⟨.bl (!dH ks js),H,I,rfl,q⟩⟩⟩ hu
end
end NX
namespace PV
open PySem L2 NX
inductive D where
 | non | bl (b:Bool) | int (i:Int) | str (l:List Nat) | tup (ds:List D) | lst (ds:List D) | dct (tk:Bool) (ks vs:List D)
inductive O where
 | f | l (c:O) | t (cs:List O) | d | pin (p:Addr) (c:O)
abbrev R:=O×D
abbrev Env:=List (Option R)
inductive Res (α:Type) where
 | ok (a:α) | exc (c:List Nat) | bad
noncomputable def kD:Key->D
 | .inl i=>.int i
 | .inr x=>.str x.cps.toList
noncomputable def isM:HO->Bool
 | .lst _=>true
 | .dK _=>true
 | .dT _=>true
 | _=>false
noncomputable def isT:HO->Bool
 | .tup _=>true
 | .frz _ (.tup _)=>true
 | _=>false
noncomputable def wK:Key->Prop
 | .inl _=>True
 | .inr x=>x.cps.toList.length<=sizeLine
def DictO (o:HO) (tk:Bool) (ks:List D) (xs:List V):Prop:=match tk with
 | true=>∃ Em:List (List Key×V),o=.dT Em/\ks=Em.map (fun kv=>D.tup (kv.1.map kD))/\xs=Em.map (·.2)/\∀ kv∈Em,∀ k∈kv.1,wK k
 | false=>∃ Em:List (Key×V),o=.dK Em/\ks=Em.map (fun kv=>kD kv.1)/\xs=Em.map (·.2)/\∀ kv∈Em,wK kv.1
mutual
noncomputable def Rep (K:W.Frag) (G:Hp):D->V->Prop
 | .non,v=>v=.non
 | .bl b,v=>v=.bl b
 | .int i,v=>v=.int i
 | .str l,v=>v=.str (S l)/\l.length<=sizeLine
 | .tup ds,v=>∃ p xs,v=.ref p/\G p=some (.tup xs)/\Reps K G ds xs
 | .lst ds,v=>∃ p xs,v=.ref p/\SqL K G p xs/\Reps K G ds xs
 | .dct tk ks vs,v=>∃ p xs o,v=.ref p/\Rd G p o/\DictO o tk ks xs/\Reps K G vs xs
noncomputable def Reps (K:W.Frag) (G:Hp):List D->List V->Prop
 | [],xs=>xs=[]
 | d :: ds,xs=>∃ y ys,xs=y :: ys/\Rep K G d y/\Reps K G ds ys
end
noncomputable def AllO (P:D->V->List Addr->Prop):List D->List V->List Addr->Prop
 | [],xs,fp=>xs=[]/\fp=[]
 | d :: ds,xs,fp=>∃ y ys a b,xs=y :: ys/\fp=a++b/\P d y a/\AllO P ds ys b
mutual
noncomputable def RepO (K:W.Frag) (G H:Hp):O->D->V->List Addr->Prop
 | .f,d,v,fp=>Rep K G d v/\fp=[]
 | .l c,.lst ds,v,fp=>∃ p xs Et,v=.ref p/\H p=some (.lst xs)/\fp=p :: Et/\AllO (RepO K G H c) ds xs Et
 | .t cs,.tup ds,v,fp=>∃ p xs,v=.ref p/\G p=some (.tup xs)/\RepT K G H cs ds xs fp
 | .d,.dct tk ks vs,v,fp=>∃ p xs o,v=.ref p/\H p=some o/\DictO o tk ks xs/\fp=[p]/\Reps K G vs xs
 | .pin p c,d,v,fp=>v=.ref p/\RepO K G H c d v fp
 | _,_,_,_=>False
noncomputable def RepT (K:W.Frag) (G H:Hp):List O->List D->List V->List Addr->Prop
 | [],[],xs,fp=>xs=[]/\fp=[]
 | c :: cs,d :: ds,xs,fp=>∃ y ys a b,xs=y :: ys/\fp=a++b/\RepO K G H c d y a/\RepT K G H cs ds ys b
 | _,_,_,_=>False
end
section
variable {K:W.Frag} {G G' H H':Hp}
theorem Rd.mono {p:Addr} {u:HO} (h:Same G G') (r:Rd G p u):Rd G' p u:=by
 rcases r with r | ⟨o,r⟩
 ·exact .inl (h _ _ r)
 ·exact .inr ⟨o,h _ _ r⟩
theorem gG {p:Addr} {xs:List V} (h:Same G G') (r:SqL K G p xs):SqL K G' p xs:=r.elim (fun r=>.inl (Rd.mono h r)) .inr
theorem bR {p:Addr} {xs:List V} (h:Same G G') (r:SqT K G p xs):SqT K G' p xs:=r.elim (fun r=>.inl (Rd.mono h r)) .inr
mutual
theorem Rep.mono (h:Same G G'):∀ {d:D} {v:V},Rep K G d v->Rep K G' d v
 | .non,_,r=>by simpa only [Rep] using r
 | .bl _,_,r=>by simpa only [Rep] using r
 | .int _,_,r=>by simpa only [Rep] using r
 | .str _,_,r=>by simpa only [Rep] using r
 | .tup ds,_,r=>by
  simp only [Rep] at r ⊢
  obtain ⟨p,xs,e,q,rs⟩:=r
  exact ⟨p,xs,e,h _ _ q,Reps.mono h rs⟩
 | .lst ds,_,r=>by
  simp only [Rep] at r ⊢
  obtain ⟨p,xs,e,q,rs⟩:=r
  exact ⟨p,xs,e,gG h q,Reps.mono h rs⟩
 | .dct tk ks vs,_,r=>by
  simp only [Rep] at r ⊢
  obtain ⟨p,xs,o,e,q,dd,rs⟩:=r
  exact ⟨p,xs,o,e,Rd.mono h q,dd,Reps.mono h rs⟩
theorem Reps.mono (h:Same G G'):∀ {ds:List D} {xs:List V},Reps K G ds xs->Reps K G' ds xs
 | [],_,r=>by simpa only [Reps] using r
 | d :: ds,_,r=>by
  simp only [Reps] at r ⊢
  obtain ⟨y,ys,e,r1,r2⟩:=r
  exact ⟨y,ys,e,Rep.mono h r1,Reps.mono h r2⟩
end
theorem AllO.imp {P P':D->V->List Addr->Prop}:∀ {ds:List D} {xs:List V} {fp:List Addr},(∀ d v a,(∀ p∈a,p∈fp)->P d v a->P' d v a)->AllO P ds xs fp->AllO P' ds xs fp
 | [],_,_,_,r=>r
 | d :: ds,xs,fp,h,r=>by
  obtain ⟨y,ys,a,b,e1,e2,p,q⟩:=r
  subst e2
  exact ⟨y,ys,a,b,e1,rfl,h _ _ _ (fun p hp=>List.mem_append_left _ hp) p,AllO.imp (fun d v c hc=>h d v c fun p hp=>List.mem_append_right _ (hc p hp)) q⟩
mutual
theorem RepO.step (h:Same G G'):∀ {o:O} {d:D} {v:V} {fp:List Addr},(∀ p∈fp,H' p=H p)->RepO K G H o d v fp->RepO K G' H' o d v fp
 | .f,d,v,fp,hk,r=>by
  simp only [RepO] at r ⊢
  exact ⟨Rep.mono h r.1,r.2⟩
 | .pin p c,d,v,fp,hk,r=>by
  simp only [RepO] at r ⊢
  exact ⟨r.1,RepO.step h hk r.2⟩
 | .l c,.lst ds,v,fp,hk,r=>by
  simp only [RepO] at r ⊢
  obtain ⟨p,xs,Et,e,q,e2,a⟩:=r
  subst e2
  exact ⟨p,xs,Et,e,(hk p List.mem_cons_self).trans q,rfl,AllO.imp (fun d v c hc=>RepO.step h fun z hz=>hk z (List.mem_cons_of_mem _ (hc z hz))) a⟩
 | .t cs,.tup ds,v,fp,hk,r=>by
  simp only [RepO] at r ⊢
  obtain ⟨p,xs,e,q,a⟩:=r
  exact ⟨p,xs,e,h _ _ q,RepT.step h hk a⟩
 | .d,.dct tk ks vs,v,fp,hk,r=>by
  simp only [RepO] at r ⊢
  obtain ⟨p,xs,o,e,q,dd,e2,rs⟩:=r
  subst e2
  exact ⟨p,xs,o,e,(hk p List.mem_cons_self).trans q,dd,rfl,Reps.mono h rs⟩
 | .l _,.non,_,_,_,r | .l _,.bl _,_,_,_,r | .l _,.int _,_,_,_,r | .l _,.str _,_,_,_,r | .l _,.tup _,_,_,_,r | .l _,.dct _ _ _,_,_,_,r=>by simp only [RepO] at r
 | .t _,.non,_,_,_,r | .t _,.bl _,_,_,_,r | .t _,.int _,_,_,_,r | .t _,.str _,_,_,_,r | .t _,.lst _,_,_,_,r | .t _,.dct _ _ _,_,_,_,r=>by simp only [RepO] at r
 | .d,.non,_,_,_,r | .d,.bl _,_,_,_,r | .d,.int _,_,_,_,r | .d,.str _,_,_,_,r | .d,.tup _,_,_,_,r | .d,.lst _,_,_,_,r=>by simp only [RepO] at r
theorem RepT.step (h:Same G G'):∀ {cs:List O} {ds:List D} {xs:List V} {fp:List Addr},(∀ p∈fp,H' p=H p)->RepT K G H cs ds xs fp->RepT K G' H' cs ds xs fp
 | [],[],_,_,_,r=>by simpa only [RepT] using r
 | c :: cs,d :: ds,xs,fp,hk,r=>by
  simp only [RepT] at r ⊢
  obtain ⟨y,ys,a,b,e1,e2,r1,r2⟩:=r
  subst e2
  exact ⟨y,ys,a,b,e1,rfl,RepO.step h (fun p hp=>hk p (List.mem_append_left _ hp)) r1,RepT.step h (fun p hp=>hk p (List.mem_append_right _ hp)) r2⟩
 | [],_ :: _,_,_,_,r=>by simp only [RepT] at r
 | _ :: _,[],_,_,_,r=>by simp only [RepT] at r
end
theorem AllO.frozen {P:D->V->List Addr->Prop}:∀ {ds:List D} {xs:List V} {fp:List Addr},(∀ d v a,(∀ p∈a,p∈fp)->P d v a->Rep K G' d v)->AllO P ds xs fp->Reps K G' ds xs
 | [],_,_,_,r=>by simp only [Reps];exact r.1
 | d :: ds,xs,fp,h,r=>by
  obtain ⟨y,ys,a,b,e1,e2,p,q⟩:=r
  subst e2
  simp only [Reps]
  exact ⟨y,ys,e1,h _ _ _ (fun p hp=>List.mem_append_left _ hp) p,AllO.frozen (fun d v c hc=>h d v c fun p hp=>List.mem_append_right _ (hc p hp)) q⟩
mutual
theorem RepO.frozen (h:Same G G'):∀ {o:O} {d:D} {v:V} {fp:List Addr},(∀ p∈fp,∀ u,H p=some u->G' p=some u)->RepO K G H o d v fp->Rep K G' d v
 | .f,d,v,fp,hk,r=>by
  simp only [RepO] at r
  exact Rep.mono h r.1
 | .pin p c,d,v,fp,hk,r=>by
  simp only [RepO] at r
  exact RepO.frozen h hk r.2
 | .l c,.lst ds,v,fp,hk,r=>by
  simp only [RepO] at r
  simp only [Rep]
  obtain ⟨p,xs,Et,e,q,e2,a⟩:=r
  subst e2
  exact ⟨p,xs,e,SqL.of (hk p List.mem_cons_self _ q),AllO.frozen (fun d v c hc=>RepO.frozen h fun z hz=>hk z (List.mem_cons_of_mem _ (hc z hz))) a⟩
 | .t cs,.tup ds,v,fp,hk,r=>by
  simp only [RepO] at r
  simp only [Rep]
  obtain ⟨p,xs,e,q,a⟩:=r
  exact ⟨p,xs,e,h _ _ q,RepT.frozen h hk a⟩
 | .d,.dct tk ks vs,v,fp,hk,r=>by
  simp only [RepO] at r
  simp only [Rep]
  obtain ⟨p,xs,o,e,q,dd,e2,rs⟩:=r
  subst e2
  exact ⟨p,xs,o,e,.inl (hk p List.mem_cons_self _ q),dd,Reps.mono h rs⟩
 | .l _,.non,_,_,_,r | .l _,.bl _,_,_,_,r | .l _,.int _,_,_,_,r | .l _,.str _,_,_,_,r | .l _,.tup _,_,_,_,r | .l _,.dct _ _ _,_,_,_,r=>by simp only [RepO] at r
 | .t _,.non,_,_,_,r | .t _,.bl _,_,_,_,r | .t _,.int _,_,_,_,r | .t _,.str _,_,_,_,r | .t _,.lst _,_,_,_,r | .t _,.dct _ _ _,_,_,_,r=>by simp only [RepO] at r
 | .d,.non,_,_,_,r | .d,.bl _,_,_,_,r | .d,.int _,_,_,_,r | .d,.str _,_,_,_,r | .d,.tup _,_,_,_,r | .d,.lst _,_,_,_,r=>by simp only [RepO] at r
theorem RepT.frozen (h:Same G G'):∀ {cs:List O} {ds:List D} {xs:List V} {fp:List Addr},(∀ p∈fp,∀ u,H p=some u->G' p=some u)->RepT K G H cs ds xs fp->Reps K G' ds xs
 | [],[],_,_,_,r=>by simp only [RepT] at r;simp only [Reps];exact r.1
 | c :: cs,d :: ds,xs,fp,hk,r=>by
  simp only [RepT] at r
  simp only [Reps]
  obtain ⟨y,ys,a,b,e1,e2,r1,r2⟩:=r
  subst e2
  exact ⟨y,ys,e1,RepO.frozen h (fun p hp=>hk p (List.mem_append_left _ hp)) r1,RepT.frozen h (fun p hp=>hk p (List.mem_append_right _ hp)) r2⟩
 | [],_ :: _,_,_,_,r=>by simp only [RepT] at r
 | _ :: _,[],_,_,_,r=>by simp only [RepT] at r
end
theorem AllO.live {P:D->V->List Addr->Prop}:∀ {ds:List D} {xs:List V} {fp:List Addr},(∀ d v a,P d v a->∀ p∈a,∃ u,H p=some u)->AllO P ds xs fp->∀ p∈fp,∃ u,H p=some u
 | [],_,_,_,r=>by rw [r.2];intro p hp;cases hp
 | d :: ds,xs,fp,h,r=>by
  obtain ⟨y,ys,a,b,e1,e2,p,q⟩:=r
  subst e2
  intro z hz
  rcases List.mem_append.mp hz with hz | hz
  ·exact h _ _ _ p z hz
  ·exact AllO.live h q z hz
mutual
theorem RepO.live:∀ {o:O} {d:D} {v:V} {fp:List Addr},RepO K G H o d v fp->∀ p∈fp,∃ u,H p=some u
 | .f,d,v,fp,r=>by
  simp only [RepO] at r
  rw [r.2]
  intro p hp
  cases hp
 | .pin p c,d,v,fp,r=>by
  simp only [RepO] at r
  exact RepO.live r.2
 | .l c,.lst ds,v,fp,r=>by
  simp only [RepO] at r
  obtain ⟨p,xs,Et,e,q,e2,a⟩:=r
  subst e2
  intro z hz
  rcases List.mem_cons.mp hz with rfl | hz
  ·exact ⟨_,q⟩
  ·exact AllO.live (fun d v a=>RepO.live) a z hz
 | .t cs,.tup ds,v,fp,r=>by
  simp only [RepO] at r
  obtain ⟨p,xs,e,q,a⟩:=r
  exact RepT.live a
 | .d,.dct tk ks vs,v,fp,r=>by
  simp only [RepO] at r
  obtain ⟨p,xs,o,e,q,dd,e2,rs⟩:=r
  subst e2
  intro z hz
  rw [List.mem_singleton] at hz
  exact ⟨_,hz▸q⟩
 | .l _,.non,_,_,r | .l _,.bl _,_,_,r | .l _,.int _,_,_,r | .l _,.str _,_,_,r | .l _,.tup _,_,_,r | .l _,.dct _ _ _,_,_,r=>by simp only [RepO] at r
 | .t _,.non,_,_,r | .t _,.bl _,_,_,r | .t _,.int _,_,_,r | .t _,.str _,_,_,r | .t _,.lst _,_,_,r | .t _,.dct _ _ _,_,_,r=>by simp only [RepO] at r
 | .d,.non,_,_,r | .d,.bl _,_,_,r | .d,.int _,_,_,r | .d,.str _,_,_,r | .d,.tup _,_,_,r | .d,.lst _,_,_,r=>by simp only [RepO] at r
theorem RepT.live:∀ {cs:List O} {ds:List D} {xs:List V} {fp:List Addr},RepT K G H cs ds xs fp->∀ p∈fp,∃ u,H p=some u
 | [],[],_,_,r=>by
  simp only [RepT] at r
  rw [r.2]
  intro p hp
  cases hp
 | c :: cs,d :: ds,xs,fp,r=>by
  simp only [RepT] at r
  obtain ⟨y,ys,a,b,e1,e2,r1,r2⟩:=r
  subst e2
  intro z hz
  rcases List.mem_append.mp hz with hz | hz
  ·exact RepO.live r1 z hz
  ·exact RepT.live r2 z hz
 | [],_ :: _,_,_,r=>by simp only [RepT] at r
 | _ :: _,[],_,_,r=>by simp only [RepT] at r
end
theorem DictO.isM {o:HO} {tk:Bool} {ks:List D} {xs:List V} (h:DictO o tk ks xs):PV.isM o=true:=by
 cases tk with
 | true=>
  obtain ⟨Em,e,_⟩:=h
  rw [e];rfl
 | false=>
  obtain ⟨Em,e,_⟩:=h
  rw [e];rfl
theorem AllO.mut {P:D->V->List Addr->Prop}:∀ {ds:List D} {xs:List V} {fp:List Addr},(∀ d v a,P d v a->∀ p∈a,∃ u,H p=some u/\isM u=true)->AllO P ds xs fp->∀ p∈fp,∃ u,H p=some u/\isM u=true
 | [],_,_,_,r=>by rw [r.2];intro p hp;cases hp
 | d :: ds,xs,fp,h,r=>by
  obtain ⟨y,ys,a,b,e1,e2,p,q⟩:=r
  subst e2
  intro z hz
  rcases List.mem_append.mp hz with hz | hz
  ·exact h _ _ _ p z hz
  ·exact AllO.mut h q z hz
mutual
theorem RepO.mut:∀ {o:O} {d:D} {v:V} {fp:List Addr},RepO K G H o d v fp->∀ p∈fp,∃ u,H p=some u/\isM u=true
 | .f,d,v,fp,r=>by
  simp only [RepO] at r
  rw [r.2]
  intro p hp
  cases hp
 | .pin p c,d,v,fp,r=>by
  simp only [RepO] at r
  exact RepO.mut r.2
 | .l c,.lst ds,v,fp,r=>by
  simp only [RepO] at r
  obtain ⟨p,xs,Et,e,q,e2,a⟩:=r
  subst e2
  intro z hz
  rcases List.mem_cons.mp hz with rfl | hz
  ·exact ⟨_,q,rfl⟩
  ·exact AllO.mut (fun d v a=>RepO.mut) a z hz
 | .t cs,.tup ds,v,fp,r=>by
  simp only [RepO] at r
  obtain ⟨p,xs,e,q,a⟩:=r
  exact RepT.mut a
 | .d,.dct tk ks vs,v,fp,r=>by
  simp only [RepO] at r
  obtain ⟨p,xs,o,e,q,dd,e2,rs⟩:=r
  subst e2
  intro z hz
  rw [List.mem_singleton] at hz
  exact ⟨_,hz▸q,dd.isM⟩
 | .l _,.non,_,_,r | .l _,.bl _,_,_,r | .l _,.int _,_,_,r | .l _,.str _,_,_,r | .l _,.tup _,_,_,r | .l _,.dct _ _ _,_,_,r=>by simp only [RepO] at r
 | .t _,.non,_,_,r | .t _,.bl _,_,_,r | .t _,.int _,_,_,r | .t _,.str _,_,_,r | .t _,.lst _,_,_,r | .t _,.dct _ _ _,_,_,r=>by simp only [RepO] at r
 | .d,.non,_,_,r | .d,.bl _,_,_,r | .d,.int _,_,_,r | .d,.str _,_,_,r | .d,.tup _,_,_,r | .d,.lst _,_,_,r=>by simp only [RepO] at r
theorem RepT.mut:∀ {cs:List O} {ds:List D} {xs:List V} {fp:List Addr},RepT K G H cs ds xs fp->∀ p∈fp,∃ u,H p=some u/\isM u=true
 | [],[],_,_,r=>by
  simp only [RepT] at r
  rw [r.2]
  intro p hp
  cases hp
 | c :: cs,d :: ds,xs,fp,r=>by
  simp only [RepT] at r
  obtain ⟨y,ys,a,b,e1,e2,r1,r2⟩:=r
  subst e2
  intro z hz
  rcases List.mem_append.mp hz with hz | hz
  ·exact RepO.mut r1 z hz
  ·exact RepT.mut r2 z hz
 | [],_ :: _,_,_,r=>by simp only [RepT] at r
 | _ :: _,[],_,_,r=>by simp only [RepT] at r
end
noncomputable def RepE (K:W.Frag) (G H:Hp):Env->List (Option V)->List Addr->Prop
 | [],vs,fp=>vs=[]/\fp=[]
 | e :: es,vs,fp=>∃ y ys,vs=y :: ys/\match e with
  | none=>RepE K G H es ys fp
  | some r=>∃ v a b,y=some v/\fp=a++b/\RepO K G H r.1 r.2 v a/\RepE K G H es ys b
theorem RepE.step (h:Same G G'):∀ {es:Env} {vs:List (Option V)} {fp:List Addr},(∀ p∈fp,H' p=H p)->RepE K G H es vs fp->RepE K G' H' es vs fp
 | [],_,_,_,r=>r
 | none :: es,vs,fp,hk,r=>by
  obtain ⟨y,ys,e,r⟩:=r
  exact ⟨y,ys,e,RepE.step h hk r⟩
 | some r :: es,vs,fp,hk,q=>by
  obtain ⟨y,ys,e,v,a,b,e1,e2,r1,r2⟩:=q
  subst e2
  exact ⟨y,ys,e,v,a,b,e1,rfl,RepO.step h (fun p hp=>hk p (List.mem_append_left _ hp)) r1,RepE.step h (fun p hp=>hk p (List.mem_append_right _ hp)) r2⟩
theorem RepE.live:∀ {es:Env} {vs:List (Option V)} {fp:List Addr},RepE K G H es vs fp->∀ p∈fp,∃ u,H p=some u
 | [],_,_,r=>by
  rw [r.2]
  intro p hp
  cases hp
 | none :: es,vs,fp,r=>by
  obtain ⟨y,ys,e,r⟩:=r
  exact RepE.live r
 | some r :: es,vs,fp,q=>by
  obtain ⟨y,ys,e,v,a,b,e1,e2,r1,r2⟩:=q
  subst e2
  intro z hz
  rcases List.mem_append.mp hz with hz | hz
  ·exact r1.live z hz
  ·exact RepE.live r2 z hz
theorem RepE.mut:∀ {es:Env} {vs:List (Option V)} {fp:List Addr},RepE K G H es vs fp->∀ p∈fp,∃ u,H p=some u/\isM u=true
 | [],_,_,r=>by
  rw [r.2]
  intro p hp
  cases hp
 | none :: es,vs,fp,r=>by
  obtain ⟨y,ys,e,r⟩:=r
  exact RepE.mut r
 | some r :: es,vs,fp,q=>by
  obtain ⟨y,ys,e,v,a,b,e1,e2,r1,r2⟩:=q
  subst e2
  intro z hz
  rcases List.mem_append.mp hz with hz | hz
  ·exact r1.mut z hz
  ·exact RepE.mut r2 z hz
theorem RepE.length:∀ {es:Env} {vs:List (Option V)} {fp:List Addr},RepE K G H es vs fp->vs.length=es.length
 | [],_,_,r=>by rw [r.1];rfl
 | none :: es,vs,fp,r=>by
  obtain ⟨y,ys,e,r⟩:=r
  rw [e,List.length_cons,List.length_cons,RepE.length r]
 | some r :: es,vs,fp,q=>by
  obtain ⟨y,ys,e,v,a,b,e1,e2,r1,r2⟩:=q
  rw [e,List.length_cons,List.length_cons,RepE.length r2]
theorem RepE.take:∀ {es:Env} {vs:List (Option V)} {fp:List Addr} {i:Nat} {r:R},RepE K G H es vs fp->es[i]?=some (some r)->
  ∃ v a b,vs[i]?=some (some v)/\RepO K G H r.1 r.2 v a/\RepE K G H (es.set i none) vs b/\fp.Perm (a++b)
 | [],_,_,_,_,_,e=>by simp at e
 | none :: es,vs,fp,0,r,q,e=>by simp at e
 | some r' :: es,vs,fp,0,r,q,e=>by
  obtain ⟨y,ys,e0,v,a,b,e1,e2,r1,r2⟩:=q
  simp at e
  subst e
  subst e0
  subst e1
  exact ⟨v,a,b,rfl,r1,⟨some v,ys,rfl,r2⟩,by rw [e2]⟩
 | none :: es,vs,fp,i + 1,r,q,e=>by
  obtain ⟨y,ys,e0,q⟩:=q
  obtain ⟨v,a,b,g1,g2,g3,g4⟩:=RepE.take q (i:=i) (r:=r) (by simpa using e)
  subst e0
  exact ⟨v,a,b,by simpa using g1,g2,⟨y,ys,rfl,g3⟩,g4⟩
 | some r' :: es,vs,fp,i + 1,r,q,e=>by
  obtain ⟨y,ys,e0,v',a',b',e1,e2,r1,r2⟩:=q
  obtain ⟨v,a,b,g1,g2,g3,g4⟩:=RepE.take r2 (i:=i) (r:=r) (by simpa using e)
  subst e0
  refine ⟨v,a,a'++b,by simpa using g1,g2,⟨y,ys,rfl,v',a',b,e1,rfl,r1,g3⟩,?_⟩
  rw [e2]
  refine (List.Perm.append_left a' g4).trans ?_
  rw [<-List.append_assoc,<-List.append_assoc]
  exact List.Perm.append_right b List.perm_append_comm
theorem RepE.put:∀ {es:Env} {vs:List (Option V)} {b:List Addr} {i:Nat} {r:R} {v:V} {a:List Addr},RepE K G H es vs b->es[i]?=some none->RepO K G H r.1 r.2 v a->
  ∃ fp,RepE K G H (es.set i (some r)) (vs.set i (some v)) fp/\fp.Perm (a++b)
 | [],_,_,_,_,_,_,_,e,_=>by simp at e
 | none :: es,vs,b,0,r,v,a,q,e,ro=>by
  obtain ⟨y,ys,e0,q⟩:=q
  subst e0
  exact ⟨a++b,⟨some v,ys,rfl,v,a,b,rfl,rfl,ro,q⟩,.refl _⟩
 | some r' :: es,vs,b,0,r,v,a,q,e,ro=>by simp at e
 | none :: es,vs,b,i + 1,r,v,a,q,e,ro=>by
  obtain ⟨y,ys,e0,q⟩:=q
  obtain ⟨fp,g1,g2⟩:=RepE.put q (i:=i) (r:=r) (by simpa using e) ro
  subst e0
  exact ⟨fp,⟨y,_,rfl,g1⟩,g2⟩
 | some r' :: es,vs,b,i + 1,r,v,a,q,e,ro=>by
  obtain ⟨y,ys,e0,v',a',b',e1,e2,r1,r2⟩:=q
  obtain ⟨fp,g1,g2⟩:=RepE.put r2 (i:=i) (r:=r) (by simpa using e) ro
  subst e0
  refine ⟨a'++fp,⟨y,_,rfl,v',a',fp,e1,rfl,r1,g1⟩,?_⟩
  rw [e2]
  refine (List.Perm.append_left a' g2).trans ?_
  rw [<-List.append_assoc,<-List.append_assoc]
  exact List.Perm.append_right b' List.perm_append_comm
structure Rel (K:W.Frag) (G H:Hp) (es:Env) (vs:List (Option V)) (fp:List Addr):Prop where
 rep:RepE K G H es vs fp
 nd:fp.Nodup
 gn:∀ p∈fp,G p=none
 gh:Same G H
structure Step (G H:Hp) (fp:List Addr) (G' H':Hp) (Et:List Addr):Prop where
 gg:Same G G'
 keep:∀ q u,H q=some u->q∉fp->H' q=some u
 fpn:∀ q∈Et,q∈fp\/H q=none
 gnew:∀ q u,G' q=some u->G q=some u\/q∈fp\/H q=none\/isT u=true/\H q=some u
 there:∀ q u,H q=some u->∃ u',H' q=some u'
theorem Step.refl {fp:List Addr}:Step G H fp G H fp:=⟨.refl _,fun _ _ h _=>h,fun _ h=>.inl h,fun _ _ h=>.inl h,fun _ u h=>⟨u,h⟩⟩
theorem Step.trans {G1 H1 G2 H2:Hp} {fp EH E3:List Addr} (a:Step G H fp G1 H1 EH) (b:Step G1 H1 EH G2 H2 E3):Step G H fp G2 H2 E3:=by
 refine ⟨a.gg.trans b.gg,fun q u h n=>?_,fun q hq=>?_,fun q u hq=>?_,fun q u h=>?_⟩
 ·refine b.keep q u (a.keep q u h n) fun hq=>?_
  rcases a.fpn q hq with z | z
  ·exact n z
  ·rw [z] at h;cases h
 ·rcases b.fpn q hq with z | z
  ·exact a.fpn q z
  ·cases e:H q with
   | none=>exact .inr rfl
   | some u=>
    obtain ⟨u',e'⟩:=a.there q u e
    rw [z] at e';cases e'
 ·rcases b.gnew q u hq with z | z | z | ⟨t,z⟩
  ·exact a.gnew q u z
  ·exact .inr ((a.fpn q z).imp_right .inl)
  ·cases e:H q with
   | none=>exact .inr (.inr (.inl rfl))
   | some u=>
    obtain ⟨u',e'⟩:=a.there q u e
    rw [z] at e';cases e'
  ·cases e:H q with
   | none=>exact .inr (.inr (.inl rfl))
   | some u2=>
    by_cases hf:q∈fp
    ·exact .inr (.inl hf)
    ·rw [a.keep q u2 e hf] at z
     cases z
     exact .inr (.inr (.inr ⟨t,rfl⟩))
 ·obtain ⟨u',h'⟩:=a.there q u h
  exact b.there q u' h'
theorem Step.wide {fp fq Et OA:List Addr} (a:Step G H fp G' H' Et) (h:∀ q∈fp,q∈fq) (h':∀ q∈OA,q∈Et\/q∈fq):Step G H fq G' H' OA:=
 ⟨a.gg,fun q u e n=>a.keep q u e fun z=>n (h q z),fun q hq=>(h' q hq).elim (fun z=>(a.fpn q z).imp_left (h q)) .inl,fun q u e=>(a.gnew q u e).imp_right (Or.imp_left (h q)),a.there⟩
theorem Rel.perm {es:Env} {vs:List (Option V)} {fp fq:List Addr} (r:RepE K G H es vs fq) (nd:fp.Nodup) (gn:∀ p∈fp,G p=none) (gh:Same G H) (h:fp.Perm fq):Rel K G H es vs fq:=
 ⟨r,h.nodup_iff.mp nd,fun p hp=>gn p (h.mem_iff.mpr hp),gh⟩
theorem Rel.frame {r:R} {v:V} {es:Env} {vs:List (Option V)} {fp:List Addr} (q:Rel K G H (some r :: es) (some v :: vs) fp) :
  ∃ a b,fp=a++b/\RepO K G H r.1 r.2 v a/\Rel K G H es vs b/\∀ (G' H':Hp) (KQ:Env) (LH:List (Option V)) (b':List Addr),Step G H b G' H' b'->Rel K G' H' KQ LH b'->
   Rel K G' H' (some r :: KQ) (some v :: LH) (a++b')/\Step G H (a++b) G' H' (a++b'):=by
 obtain ⟨y,ys,e,v',a,b,e1,e2,r1,r2⟩:=q.rep
 cases e
 cases e1
 subst e2
 have nd:=List.nodup_append.mp q.nd
 refine ⟨a,b,rfl,r1,⟨r2,nd.2.1,fun p hp=>q.gn p (List.mem_append_right _ hp),q.gh⟩,fun G' H' KQ LH b' st k=>?_⟩
 have nb:∀ p∈a,p∉b:=fun p hp hb=>nd.2.2 p hp p hb rfl
 have same:∀ p∈a,H' p=H p:=fun p hp=>by
  obtain ⟨u,hu⟩:=r1.live p hp
  rw [hu]
  exact st.keep p u hu (nb p hp)
 refine ⟨⟨⟨some v,LH,rfl,v,a,b',rfl,rfl,r1.step st.gg same,k.rep⟩,?_,fun p hp=>?_,k.gh⟩,st.wide (fun p hp=>List.mem_append_right _ hp) fun p hp=>?_⟩
 ·rw [List.nodup_append]
  refine ⟨nd.1,k.nd,fun p hp z hz e=>?_⟩
  subst e
  obtain ⟨u,hu⟩:=r1.live p hp
  rcases st.fpn p hz with z | z
  ·exact nb p hp z
  ·rw [z] at hu;cases hu
 ·rcases List.mem_append.mp hp with hp | hp
  ·cases e:G' p with
   | none=>rfl
   | some u=>
    exfalso
    obtain ⟨u',hu⟩:=r1.live p hp
    rcases st.gnew p u e with z | z | z | ⟨t,z⟩
    ·rw [q.gn p (List.mem_append_left _ hp)] at z;cases z
    ·exact nb p hp z
    ·rw [z] at hu;cases hu
    ·obtain ⟨u2,h2,hm⟩:=r1.mut p hp
     rw [z] at h2
     cases h2
     cases u with
     | tup _=>cases hm
     | frz _ _=>cases hm
     | _=>cases t
  ·exact k.gn p hp
 ·rcases List.mem_append.mp hp with hp | hp
  ·exact .inr (List.mem_append_left _ hp)
  ·exact .inl hp
theorem Rel.freeze {r:R} {v:V} {es:Env} {vs:List (Option V)} {fp:List Addr} (q:Rel K G H (some r :: es) (some v :: vs) fp) :
  ∃ G' b,Rep K G' r.2 v/\Rel K G' H es vs b/\Step G H fp G' H b:=by
 obtain ⟨y,ys,e,v',a,b,e1,e2,r1,r2⟩:=q.rep
 cases e
 cases e1
 subst e2
 have nd:=List.nodup_append.mp q.nd
 have nb:∀ p∈a,p∉b:=fun p hp hb=>nd.2.2 p hp p hb rfl
 have hg:Same G (fun p=>if p∈a then H p else G p):=fun p u e=>by
  show (if p∈a then H p else G p)=some u
  by_cases hp:p∈a
  ·rw [if_pos hp]
   exact q.gh p u e
  ·rw [if_neg hp]
   exact e
 refine ⟨fun p=>if p∈a then H p else G p,b,r1.frozen hg fun p hp u e=>?_,⟨r2.step hg fun _ _=>rfl,nd.2.1,fun p hp=>?_,fun p u e=>?_⟩,⟨hg,fun _ _ e _=>e,fun p hp=>.inl (List.mem_append_right _ hp),fun p u e=>?_,fun _ u e=>⟨u,e⟩⟩⟩
 ·show (if p∈a then H p else G p)=some u
  rw [if_pos hp]
  exact e
 ·show (if p∈a then H p else G p)=none
  rw [if_neg (fun z=>nb p z hp)]
  exact q.gn p (List.mem_append_right _ hp)
 ·have e:(if p∈a then H p else G p)=some u:=e
  by_cases hp:p∈a
  ·rw [if_pos hp] at e
   exact e
  ·rw [if_neg hp] at e
   exact q.gh p u e
 ·have e:(if p∈a then H p else G p)=some u:=e
  by_cases hp:p∈a
  ·exact .inr (.inl (List.mem_append_left _ hp))
  ·rw [if_neg hp] at e
   exact .inl e
end
section
variable {K:W.Frag} {G G' H H':Hp} {es:Env} {vs:List (Option V)} {fp:List Addr}
theorem p4:∀ {ds:List D} {xs:List V} {fp:List Addr},AllO (RepO K G H .f) ds xs fp<->Reps K G ds xs/\fp=[]
 | [],xs,fp=>by simp only [AllO,Reps]
 | d :: ds,xs,fp=>by
  simp only [AllO,Reps,RepO]
  constructor
  ·rintro ⟨y,ys,a,b,e1,e2,⟨r,e3⟩,q⟩
   obtain ⟨q1,q2⟩:=p4.mp q
   subst e3
   subst q2
   exact ⟨⟨y,ys,e1,r,q1⟩,e2⟩
  ·rintro ⟨⟨y,ys,e1,r,q1⟩,e⟩
   exact ⟨y,ys,[],[],e1,e,⟨r,rfl⟩,p4.mpr ⟨q1,rfl⟩⟩
theorem jb {d:D} {v:V} {a:List Addr}:RepO K G H .f d v a<->Rep K G d v/\a=[]:=by simp only [RepO]
theorem lT {ds:List D} {v:V} {a:List Addr}:RepO K G H (.l .f) (.lst ds) v a<->∃ p xs,v=.ref p/\H p=some (.lst xs)/\a=[p]/\Reps K G ds xs:=by
 rw [RepO]
 constructor
 ·rintro ⟨p,xs,b,e,q,e2,r⟩
  obtain ⟨r',eb⟩:=p4.mp r
  subst eb
  exact ⟨p,xs,e,q,e2,r'⟩
 ·rintro ⟨p,xs,e,q,e2,r⟩
  exact ⟨p,xs,[],e,q,e2,p4.mpr ⟨r,rfl⟩⟩
theorem Reps.length:∀ {ds:List D} {xs:List V},Reps K G ds xs->xs.length=ds.length
 | [],xs,r=>by simp only [Reps] at r;rw [r];rfl
 | d :: ds,xs,r=>by
  simp only [Reps] at r
  obtain ⟨y,ys,e,_,q⟩:=r
  rw [e,List.length_cons,List.length_cons,Reps.length q]
theorem Reps.get:∀ {ds:List D} {xs:List V} {i:Nat} {d:D},Reps K G ds xs->ds[i]?=some d->∃ v,xs[i]?=some v/\Rep K G d v
 | [],_,_,_,_,e=>by simp at e
 | d' :: ds,xs,0,d,r,e=>by
  simp only [Reps] at r
  obtain ⟨y,ys,e1,q,_⟩:=r
  simp at e
  subst e
  exact ⟨y,by rw [e1];rfl,q⟩
 | d' :: ds,xs,i + 1,d,r,e=>by
  simp only [Reps] at r
  obtain ⟨y,ys,e1,_,q⟩:=r
  obtain ⟨v,a,b⟩:=Reps.get q (i:=i) (d:=d) (by simpa using e)
  exact ⟨v,by rw [e1];simpa using a,b⟩
theorem Reps.app:∀ {ds es:List D} {xs ys:List V},Reps K G ds xs->Reps K G es ys->Reps K G (ds++es) (xs++ys)
 | [],_,_,_,r,q=>by simp only [Reps] at r;rw [r];exact q
 | d :: ds,es,xs,ys,r,q=>by
  simp only [Reps] at r
  obtain ⟨z,zs,e,r1,r2⟩:=r
  rw [e]
  simp only [List.cons_append,Reps]
  exact ⟨z,_,rfl,r1,r2.app q⟩
theorem Reps.one {d:D} {v:V} (r:Rep K G d v):Reps K G [d] [v]:=by
 simp only [Reps]
 exact ⟨v,[],rfl,r,rfl⟩
theorem Reps.nil:Reps K G [] []:=by simp only [Reps]
theorem Reps.cons {d:D} {v:V} {ds:List D} {xs:List V} (r:Rep K G d v) (q:Reps K G ds xs):Reps K G (d :: ds) (v :: xs):=by
 simp only [Reps]
 exact ⟨v,xs,rfl,r,q⟩
theorem Reps.cons_iff {d:D} {v:V} {ds:List D} {xs:List V}:Reps K G (d :: ds) (v :: xs)<->Rep K G d v/\Reps K G ds xs:=by
 simp only [Reps]
 constructor
 ·rintro ⟨y,ys,e,r,q⟩
  cases e
  exact ⟨r,q⟩
 ·rintro ⟨r,q⟩
  exact ⟨v,xs,rfl,r,q⟩
theorem Reps.take:∀ {ds:List D} {xs:List V} (n:Nat),Reps K G ds xs->Reps K G (ds.take n) (xs.take n)
 | _,_,0,_=>by rw [List.take_zero,List.take_zero];exact Reps.nil
 | [],xs,n + 1,r=>by simp only [Reps] at r;rw [r];exact Reps.nil
 | d :: ds,xs,n + 1,r=>by
  simp only [Reps] at r
  obtain ⟨y,ys,e,r1,r2⟩:=r
  rw [e,List.take_succ_cons,List.take_succ_cons]
  exact .cons r1 (r2.take n)
theorem Reps.drop:∀ {ds:List D} {xs:List V} (n:Nat),Reps K G ds xs->Reps K G (ds.drop n) (xs.drop n)
 | _,_,0,r=>r
 | [],xs,n + 1,r=>by simp only [Reps] at r;rw [r];exact Reps.nil
 | d :: ds,xs,n + 1,r=>by
  simp only [Reps] at r
  obtain ⟨y,ys,e,r1,r2⟩:=r
  rw [e,List.drop_succ_cons,List.drop_succ_cons]
  exact r2.drop n
theorem Reps.set:∀ {ds:List D} {xs:List V} (n:Nat) {d:D} {v:V},Reps K G ds xs->Rep K G d v->Reps K G (ds.set n d) (xs.set n v)
 | [],xs,n,d,v,r,q=>by simp only [Reps] at r;rw [r];exact Reps.nil
 | d' :: ds,xs,0,d,v,r,q=>by
  simp only [Reps] at r
  obtain ⟨y,ys,e,r1,r2⟩:=r
  rw [e]
  exact .cons q r2
 | d' :: ds,xs,n + 1,d,v,r,q=>by
  simp only [Reps] at r
  obtain ⟨y,ys,e,r1,r2⟩:=r
  rw [e]
  exact .cons r1 (r2.set n q)
theorem Step.cut {fq:List Addr} (h:∀ q∈fq,q∈fp):Step G H fp G H fq:=⟨.refl _,fun _ _ e _=>e,fun q hq=>.inl (h q hq),fun _ _ e=>.inl e,fun _ u e=>⟨u,e⟩⟩
theorem Rel.drop {r:R} {y:Option V} (q:Rel K G H (some r :: es) (y :: vs) fp):∃ b,Rel K G H es vs b/\Step G H fp G H b:=by
 obtain ⟨y,ys,e,v',a,b,e1,e2,r1,r2⟩:=q.rep
 cases e
 cases e1
 subst e2
 have nd:=List.nodup_append.mp q.nd
 exact ⟨b,⟨r2,nd.2.1,fun p hp=>q.gn p (List.mem_append_right _ hp),q.gh⟩,Step.cut fun p hp=>List.mem_append_right _ hp⟩
theorem Rel.top {r:R} {v:V} (q:Rel K G H (some r :: es) (some v :: vs) fp):Rep K H r.2 v:=by
 obtain ⟨y,ys,e,v',a,b,e1,e2,r1,r2⟩:=q.rep
 cases e
 cases e1
 exact r1.frozen q.gh fun p hp u e=>e
theorem Rel.out {i:Nat} {r:R} (q:Rel K G H es vs fp) (e:es[i]?=some (some r)):∃ v fq,vs[i]?=some (some v)/\Rel K G H (some r :: es.set i none) (some v :: vs) fq/\Step G H fp G H fq/\Step G H fq G H fp:=by
 obtain ⟨v,a,b,e1,r1,r2,pm⟩:=q.rep.take e
 exact ⟨v,a++b,e1,Rel.perm ⟨some v,vs,rfl,v,a,b,rfl,rfl,r1,r2⟩ q.nd q.gn q.gh pm,Step.cut fun p hp=>pm.mem_iff.mpr hp,Step.cut fun p hp=>pm.mem_iff.mp hp⟩
theorem Rel.view {i:Nat} {r:R} (q:Rel K G H es vs fp) (e:es[i]?=some (some r)):∃ v,vs[i]?=some (some v)/\Rep K H r.2 v:=by
 obtain ⟨v,fq,e1,r1,_⟩:=q.out e
 exact ⟨v,e1,r1.top⟩
theorem lU {α:Type} {l:List α} {i:Nat} {x:α} (h:l[i]?=some x):l.set i x=l:=by
 apply List.ext_getElem?
 intro j
 by_cases e:i=j
 ·subst e
  rw [List.getElem?_set_self (List.getElem?_eq_some_iff.mp h).1,h]
 ·rw [List.getElem?_set_ne e]
theorem Rel.store {i:Nat} {r:R} {v:V} (q:Rel K G H (some r :: es) (some v :: vs) fp) (hi:i < es.length):∃ fq,Rel K G H (es.set i (some r)) (vs.set i (some v)) fq/\Step G H fp G H fq:=by
 obtain ⟨y,ys,e,v',a,b,e1,e2,r1,r2⟩:=q.rep
 cases e
 cases e1
 subst e2
 obtain ⟨c,hc⟩:∃ c,es[i]?=some c:=⟨_,List.getElem?_eq_getElem hi⟩
 have nd:=List.nodup_append.mp q.nd
 have key:∃ b',RepE K G H (es.set i none) vs b'/\(∀ p∈b',p∈b)/\b'.Nodup:=by
  cases c with
  | none=>exact ⟨b,by rw [lU hc];exact r2,fun _ h=>h,nd.2.1⟩
  | some r'=>
   obtain ⟨v2,a2,b2,_,_,g,pm⟩:=r2.take hc
   refine ⟨b2,g,fun p hp=>pm.mem_iff.mpr (List.mem_append_right _ hp),?_⟩
   exact (List.nodup_append.mp (pm.nodup_iff.mp nd.2.1)).2.1
 obtain ⟨b',g,sub,ndb⟩:=key
 obtain ⟨fq,g2,pm⟩:=g.put (i:=i) (r:=r) (v:=v) (by rw [List.getElem?_set_self hi]) r1
 rw [List.set_set] at g2
 have Lb:(a++b').Nodup:=by
  rw [List.nodup_append]
  exact ⟨nd.1,ndb,fun p hp z hz=>nd.2.2 p hp z (sub z hz)⟩
 refine ⟨fq,Rel.perm g2 Lb (fun p hp=>?_) q.gh pm.symm,Step.cut fun p hp=>?_⟩
 ·refine q.gn p ?_
  rcases List.mem_append.mp hp with hp | hp
  ·exact List.mem_append_left _ hp
  ·exact List.mem_append_right _ (sub p hp)
 ·rcases List.mem_append.mp (pm.mem_iff.mp hp) with hp | hp
  ·exact List.mem_append_left _ hp
  ·exact List.mem_append_right _ (sub p hp)
theorem Rel.back {i:Nat} {r:R} {v:V} (q:Rel K G H (some r :: es) (some v :: vs) fp) (hi:i < es.length) (hv:vs[i]?=some (some v)):∃ fq,Rel K G H (es.set i (some r)) vs fq/\Step G H fp G H fq:=by
 obtain ⟨fq,g,st⟩:=q.store hi
 rw [lU hv] at g
 exact ⟨fq,g,st⟩
theorem Rel.freezeAt {i:Nat} {r:R} (q:Rel K G H es vs fp) (e:es[i]?=some (some r)):∃ v G' fq,vs[i]?=some (some v)/\Rep K G' r.2 v/\Rel K G' H (es.set i (some (.f,r.2))) vs fq/\Step G H fp G' H fq:=by
 obtain ⟨v,fq,ev,g,st,_⟩:=q.out e
 obtain ⟨G',b,rv,g2,Ew⟩:=g.freeze
 have g3:Rel K G' H (some (.f,r.2) :: es.set i none) (some v :: vs) b:=by
  refine ⟨⟨some v,vs,rfl,v,[],b,rfl,rfl,?_,g2.rep⟩,g2.nd,g2.gn,g2.gh⟩
  exact jb.mpr ⟨rv,rfl⟩
 obtain ⟨fz,g4,FY⟩:=g3.back (i:=i) (by rw [List.length_set];exact (List.getElem?_eq_some_iff.mp e).1) ev
 rw [List.set_set] at g4
 exact ⟨v,G',fz,ev,rv,g4,st.trans (Ew.trans FY)⟩
theorem Rel.push {d:D} {v:V} (q:Rel K G H es vs fp) (r:Rep K G d v):Rel K G H (some (.f,d) :: es) (some v :: vs) fp:=by
 refine ⟨⟨some v,vs,rfl,v,[],fp,rfl,rfl,?_,q.rep⟩,q.nd,q.gn,q.gh⟩
 exact jb.mpr ⟨r,rfl⟩
theorem Rel.newF {p:Addr} {u:HO} (q:Rel K G H es vs fp) (hp:H p=none):Rel K (upd G p u) (upd H p u) es vs fp/\Step G H fp (upd G p u) (upd H p u) fp:=by
 have gp:G p=none:=by
  cases e:G p with
  | none=>rfl
  | some o=>rw [q.gh p o e] at hp;cases hp
 have np:p∉fp:=fun z=>by
  obtain ⟨u,e⟩:=q.rep.live p z
  rw [hp] at e;cases e
 have sg:Same G (upd G p u):=fun b o e=>by rw [aP (bg e gp)];exact e
 have sh:Same H (upd H p u):=fun b o e=>by rw [aP (bg e hp)];exact e
 refine ⟨⟨q.rep.step sg fun z hz=>aP fun e=>np (e▸hz),q.nd,fun z hz=>?_,fun b o e=>?_⟩,⟨sg,fun b o e _=>sh b o e,fun _ h=>.inl h,fun b o e=>?_,fun b o e=>⟨o,sh b o e⟩⟩⟩
 ·have:z≠p:=fun e=>np (e▸hz)
  rw [aP this]
  exact q.gn z hz
 ·by_cases hb:b=p
  ·subst hb
   rw [bK] at e ⊢
   exact e
  ·rw [aP hb] at e ⊢
   exact q.gh b o e
 ·by_cases hb:b=p
  ·subst hb
   exact .inr (.inr (.inl hp))
  ·rw [aP hb] at e
   exact .inl e
theorem Rel.newL {p:Addr} {ds:List D} {xs:List V} (q:Rel K G H es vs fp) (hp:H p=none) (r:Reps K G ds xs) :
  Rel K G (upd H p (.lst xs)) (some (.l .f,.lst ds) :: es) (some (.ref p) :: vs) (p :: fp)/\Step G H fp G (upd H p (.lst xs)) (p :: fp):=by
 have gp:G p=none:=by
  cases e:G p with
  | none=>rfl
  | some o=>rw [q.gh p o e] at hp;cases hp
 have np:p∉fp:=fun z=>by
  obtain ⟨u,e⟩:=q.rep.live p z
  rw [hp] at e;cases e
 have sh:Same H (upd H p (.lst xs)):=fun b o e=>by rw [aP (bg e hp)];exact e
 refine ⟨⟨⟨some (.ref p),vs,rfl,.ref p,[p],fp,rfl,rfl,lT.mpr ⟨p,xs,rfl,bK,rfl,r⟩,q.rep.step (.refl _) fun z hz=>aP fun e=>np (e▸hz)⟩,List.nodup_cons.mpr ⟨np,q.nd⟩,fun z hz=>?_,fun b o e=>?_⟩,
  ⟨.refl _,fun b o e _=>sh b o e,fun b hb=>?_,fun b o e=>.inl e,fun b o e=>⟨o,sh b o e⟩⟩⟩
 ·rcases List.mem_cons.mp hz with rfl | hz
  ·exact gp
  ·exact q.gn z hz
 ·exact sh b o (q.gh b o e)
 ·rcases List.mem_cons.mp hb with rfl | hb
  ·exact .inr hp
  ·exact .inl hb
theorem Rel.chg {i:Nat} {ds ds':List D} (q:Rel K G H es vs fp) (e:es[i]?=some (some (.l .f,.lst ds))):∃ p xs,vs[i]?=some (some (.ref p))/\H p=some (.lst xs)/\Reps K G ds xs/\
  ∀ Gb,Reps K G ds' Gb->∃ fq,Rel K G (upd H p (.lst Gb)) (es.set i (some (.l .f,.lst ds'))) vs fq/\Step G H fp G (upd H p (.lst Gb)) fq:=by
 obtain ⟨v,fq,ev,g,st,Gk⟩:=q.out e
 obtain ⟨y,ys,e0,v',a,b,e1,e2,r1,r2⟩:=g.rep
 cases e0
 cases e1
 obtain ⟨p,xs,e3,hp,e4,rs⟩:=lT.mp r1
 subst e3
 subst e4
 subst e2
 have nd:=List.nodup_cons.mp (show (p :: b).Nodup from g.nd)
 refine ⟨p,xs,ev,hp,rs,fun Gb GD=>?_⟩
 have g2:Rel K G (upd H p (.lst Gb)) (some (.l .f,.lst ds') :: es.set i none) (some (.ref p) :: vs) (p :: b):=by
  refine ⟨⟨some (.ref p),vs,rfl,.ref p,[p],b,rfl,rfl,lT.mpr ⟨p,Gb,rfl,bK,rfl,GD⟩,r2.step (.refl _) fun z hz=>aP fun e=>nd.1 (e▸hz)⟩,g.nd,g.gn,fun z o ez=>?_⟩
  have:z≠p:=fun w=>by
   subst w
   rw [g.gn z List.mem_cons_self] at ez;cases ez
  rw [aP this]
  exact g.gh z o ez
 have NV:Step G H (p :: b) G (upd H p (.lst Gb)) (p :: b):=by
  refine ⟨.refl _,fun z o ez nz=>?_,fun z hz=>.inl hz,fun z o ez=>.inl ez,fun z o ez=>?_⟩
  ·have:z≠p:=fun w=>nz (by rw [w];exact List.mem_cons_self)
   rw [aP this]
   exact ez
  ·by_cases w:z=p
   ·subst w
    exact ⟨_,bK⟩
   ·exact ⟨o,by rw [aP w];exact ez⟩
 obtain ⟨fz,g3,EX⟩:=g2.back (i:=i) (by rw [List.length_set];exact (List.getElem?_eq_some_iff.mp e).1) ev
 rw [List.set_set] at g3
 exact ⟨fz,g3,st.trans (NV.trans EX)⟩
end
mutual
noncomputable def cD:D->Bool
 | .tup ds=>flatDs ds
 | .lst _=>false
 | .dct _ _ _=>false
 | _=>true
noncomputable def flatDs:List D->Bool
 | []=>true
 | d :: ds=>cD d && flatDs ds
end
mutual
noncomputable def bJ:O->D->Bool
 | .f,d=>cD d
 | .l c,.lst ds=>ds.all (bJ c)
 | .t cs,.tup ds=>ny cs ds
 | .d,.dct _ _ vs=>flatDs vs
 | .pin _ c,d=>bJ c d
 | _,_=>false
noncomputable def ny:List O->List D->Bool
 | [],[]=>true
 | c :: cs,d :: ds=>bJ c d && ny cs ds
 | _,_=>false
end
noncomputable def frz:Option R->Option R:=Option.map fun r=>(.f,r.2)
theorem bq:∀ ds,flatDs ds=ds.all cD
 | []=>rfl
 | d :: ds=>by rw [flatDs,List.all_cons,bq ds]
section
variable {K:W.Frag} {G G' G2 G3 H H' H2:Hp} {es:Env} {vs:List (Option V)} {fp:List Addr}
mutual
theorem Rep.flat (h:∀ p u,isT u=true->G2 p=some u->G3 p=some u):∀ {d:D} {v:V},cD d=true->Rep K G2 d v->Rep K G3 d v
 | .non,_,_,r=>by simpa only [Rep] using r
 | .bl _,_,_,r=>by simpa only [Rep] using r
 | .int _,_,_,r=>by simpa only [Rep] using r
 | .str _,_,_,r=>by simpa only [Rep] using r
 | .tup ds,_,e,r=>by
  simp only [Rep] at r ⊢
  simp only [cD] at e
  obtain ⟨p,xs,ev,q,rs⟩:=r
  exact ⟨p,xs,ev,h _ _ rfl q,Reps.flat h e rs⟩
 | .lst ds,_,e,r=>by simp only [cD] at e;cases e
 | .dct _ _ _,_,e,r=>by simp only [cD] at e;cases e
theorem Reps.flat (h:∀ p u,isT u=true->G2 p=some u->G3 p=some u):∀ {ds:List D} {xs:List V},flatDs ds=true->Reps K G2 ds xs->Reps K G3 ds xs
 | [],_,_,r=>by simpa only [Reps] using r
 | d :: ds,_,e,r=>by
  simp only [Reps] at r ⊢
  simp only [flatDs,Bool.and_eq_true] at e
  obtain ⟨y,ys,ev,r1,r2⟩:=r
  exact ⟨y,ys,ev,Rep.flat h e.1 r1,Reps.flat h e.2 r2⟩
end
theorem AllO.clean {P P':D->V->List Addr->Prop} {c:D->Bool}:∀ {ds:List D} {xs:List V} {fp:List Addr},(∀ d v a,c d=true->P d v a->P' d v a)->ds.all c=true->AllO P ds xs fp->AllO P' ds xs fp
 | [],_,_,_,_,r=>r
 | d :: ds,xs,fp,h,e,r=>by
  obtain ⟨y,ys,a,b,e1,e2,p,q⟩:=r
  rw [List.all_cons,Bool.and_eq_true] at e
  exact ⟨y,ys,a,b,e1,e2,h _ _ _ e.1 p,AllO.clean h e.2 q⟩
mutual
theorem RepO.clean (h:∀ p u,isT u=true->G2 p=some u->G3 p=some u):∀ {o:O} {d:D} {v:V} {fp:List Addr},bJ o d=true->RepO K G2 H o d v fp->RepO K G3 H o d v fp
 | .f,d,v,fp,e,r=>by
  simp only [RepO] at r ⊢
  simp only [bJ] at e
  exact ⟨r.1.flat h e,r.2⟩
 | .pin p c,d,v,fp,e,r=>by
  simp only [RepO] at r ⊢
  simp only [bJ] at e
  exact ⟨r.1,RepO.clean h e r.2⟩
 | .l c,.lst ds,v,fp,e,r=>by
  rw [RepO] at r ⊢
  rw [bJ] at e
  obtain ⟨p,xs,Et,ev,q,e2,a⟩:=r
  exact ⟨p,xs,Et,ev,q,e2,AllO.clean (fun d v a=>RepO.clean h) e a⟩
 | .t cs,.tup ds,v,fp,e,r=>by
  rw [RepO] at r ⊢
  rw [bJ] at e
  obtain ⟨p,xs,ev,q,a⟩:=r
  exact ⟨p,xs,ev,h _ _ rfl q,RepT.clean h e a⟩
 | .d,.dct tk ks vs,v,fp,e,r=>by
  rw [RepO] at r ⊢
  rw [bJ] at e
  obtain ⟨p,xs,o,ev,q,dd,e2,rs⟩:=r
  exact ⟨p,xs,o,ev,q,dd,e2,rs.flat h e⟩
 | .l _,.non,_,_,_,r | .l _,.bl _,_,_,_,r | .l _,.int _,_,_,_,r | .l _,.str _,_,_,_,r | .l _,.tup _,_,_,_,r | .l _,.dct _ _ _,_,_,_,r=>by simp only [RepO] at r
 | .t _,.non,_,_,_,r | .t _,.bl _,_,_,_,r | .t _,.int _,_,_,_,r | .t _,.str _,_,_,_,r | .t _,.lst _,_,_,_,r | .t _,.dct _ _ _,_,_,_,r=>by simp only [RepO] at r
 | .d,.non,_,_,_,r | .d,.bl _,_,_,_,r | .d,.int _,_,_,_,r | .d,.str _,_,_,_,r | .d,.tup _,_,_,_,r | .d,.lst _,_,_,_,r=>by simp only [RepO] at r
theorem RepT.clean (h:∀ p u,isT u=true->G2 p=some u->G3 p=some u):∀ {cs:List O} {ds:List D} {xs:List V} {fp:List Addr},ny cs ds=true->RepT K G2 H cs ds xs fp->RepT K G3 H cs ds xs fp
 | [],[],_,_,_,r=>by simpa only [RepT] using r
 | c :: cs,d :: ds,xs,fp,e,r=>by
  rw [RepT] at r ⊢
  rw [ny,Bool.and_eq_true] at e
  obtain ⟨y,ys,a,b,e1,e2,r1,r2⟩:=r
  exact ⟨y,ys,a,b,e1,e2,RepO.clean h e.1 r1,RepT.clean h e.2 r2⟩
 | [],_ :: _,_,_,_,r=>by simp only [RepT] at r
 | _ :: _,[],_,_,_,r=>by simp only [RepT] at r
end
theorem RepE.frz (h:Same G G'):∀ {es:Env} {vs:List (Option V)} {fp:List Addr},(∀ p∈fp,∀ u,H p=some u->G' p=some u)->RepE K G H es vs fp->RepE K G' H' (es.map PV.frz) vs []
 | [],_,_,_,r=>⟨r.1,rfl⟩
 | none :: es,vs,fp,hk,r=>by
  obtain ⟨y,ys,e,r⟩:=r
  exact ⟨y,ys,e,RepE.frz h hk r⟩
 | some r :: es,vs,fp,hk,q=>by
  obtain ⟨y,ys,e,v,a,b,e1,e2,r1,r2⟩:=q
  subst e2
  exact ⟨y,ys,e,v,[],[],e1,rfl,jb.mpr ⟨r1.frozen h (fun p hp=>hk p (List.mem_append_left _ hp)),rfl⟩,RepE.frz h (fun p hp=>hk p (List.mem_append_right _ hp)) r2⟩
theorem RepE.rep (h:Same G G'):∀ {es:Env} {vs:List (Option V)} {fp:List Addr} {i:Nat} {r:R} {v:V},(∀ p∈fp,∀ u,H p=some u->G' p=some u)->RepE K G H es vs fp->es[i]?=some (some r)->vs[i]?=some (some v)->Rep K G' r.2 v:=fun {es vs fp i r v} hk q e ev=>by
 obtain ⟨v',a,b,e1,r1,_,pm⟩:=q.take e
 rw [ev] at e1
 cases e1
 exact r1.frozen h fun p hp=>hk p (pm.mem_iff.mpr (List.mem_append_left _ hp))
theorem Rel.lend (q:Rel K G H es vs fp):∃ G1,Same G G1/\Same G1 H/\(∀ (i:Nat) (r:R) (v:V),es[i]?=some (some r)->vs[i]?=some (some v)->Rep K G1 r.2 v)/\
  RepE K G1 H (es.map PV.frz) vs []/\
  ∀ (H2 G2:Hp) (E3:List Addr) (r:R) (v:V),Step G1 H [] G2 H2 E3->Rel K G2 H2 [some r] [some v] E3->
   (bJ r.1 r.2=true->∃ G3 G0,Step G H fp G3 H2 G0/\Rel K G3 H2 (some r :: es) (some v :: vs) G0)/\
   ∃ G3 G0,Step G H fp G3 H2 G0/\Rel K G3 H2 (some r :: es.map PV.frz) (some v :: vs) G0:=by
 have hg:Same G (fun p=>if p∈fp then H p else G p):=fun p u e=>by
  show (if p∈fp then H p else G p)=some u
  by_cases hp:p∈fp
  ·rw [if_pos hp]
   exact q.gh p u e
  ·rw [if_neg hp]
   exact e
 have hh:Same (fun p=>if p∈fp then H p else G p) H:=fun p u e=>by
  have e:(if p∈fp then H p else G p)=some u:=e
  by_cases hp:p∈fp
  ·rw [if_pos hp] at e
   exact e
  ·rw [if_neg hp] at e
   exact q.gh p u e
 have hk:∀ p∈fp,∀ u,H p=some u->(fun p=>if p∈fp then H p else G p) p=some u:=fun p hp u e=>by
  show (if p∈fp then H p else G p)=some u
  rw [if_pos hp]
  exact e
 refine ⟨fun p=>if p∈fp then H p else G p,hg,hh,fun i r v e ev=>q.rep.rep hg hk e ev,q.rep.frz hg hk,fun H2 G2 E3 r v st k=>?_⟩
 obtain ⟨y,ys,e0,v',a,b,e1,e2,r1,r2⟩:=k.rep
 cases e0
 cases e1
 obtain ⟨_,e3⟩:=r2
 subst e3
 rw [List.append_nil] at e2
 subst e2
 have fresh:∀ p∈E3,H p=none:=fun p hp=>by
  rcases st.fpn p hp with z | z
  ·cases z
  ·exact z
 have kept:∀ p∈fp,H2 p=H p:=fun p hp=>by
  obtain ⟨u,hu⟩:=q.rep.live p hp
  rw [hu]
  exact st.keep p u hu (by simp)
 refine ⟨fun cl=>?_,⟨G2,E3,⟨hg.trans st.gg,fun p u e n=>st.keep p u e (by simp),fun p hp=>.inr (fresh p hp),fun p u e=>?_,st.there⟩,?_⟩⟩
 ·have apart:∀ p∈E3,p∉fp:=fun p hp hf=>by
   obtain ⟨u,hu⟩:=q.rep.live p hf
   rw [fresh p hp] at hu;cases hu
  have g3:Same G (fun p=>if p∈fp then none else G2 p):=fun p u e=>by
   show (if p∈fp then none else G2 p)=some u
   rw [if_neg (fun z=>by rw [q.gn p z] at e;cases e)]
   exact st.gg p u (hg p u e)
  refine ⟨fun p=>if p∈fp then none else G2 p,E3++fp,⟨g3,fun p u e n=>st.keep p u e (by simp),fun p hp=>?_,fun p u e=>?_,st.there⟩,⟨⟨some v,vs,rfl,v,E3,fp,rfl,rfl,r1.clean (fun p u t e=>?_) cl,q.rep.step g3 kept⟩,?_,fun p hp=>?_,fun p u e=>?_⟩⟩
  ·rcases List.mem_append.mp hp with hp | hp
   ·exact .inr (fresh p hp)
   ·exact .inl hp
  ·have e:(if p∈fp then none else G2 p)=some u:=e
   by_cases hp:p∈fp
   ·rw [if_pos hp] at e;cases e
   ·rw [if_neg hp] at e
    rcases st.gnew p u e with z | z | z
    ·have z:(if p∈fp then H p else G p)=some u:=z
     rw [if_neg hp] at z
     exact .inl z
    ·cases z
    ·exact .inr (.inr z)
  ·show (if p∈fp then none else G2 p)=some u
   by_cases hp:p∈fp
   ·exfalso
    obtain ⟨u',hu,hm⟩:=q.rep.mut p hp
    have:=st.gg p u' (hk p hp u' hu)
    rw [e] at this
    cases this
    cases u with
    | lst _=>cases t
    | dK _=>cases t
    | dT _=>cases t
    | _=>cases hm
   ·rw [if_neg hp]
    exact e
  ·rw [List.nodup_append]
   exact ⟨k.nd,q.nd,fun p hp z hz e=>apart p hp (e▸hz)⟩
  ·show (if p∈fp then none else G2 p)=none
   by_cases hf:p∈fp
   ·rw [if_pos hf]
   ·rw [if_neg hf]
    rcases List.mem_append.mp hp with hp | hp
    ·exact k.gn p hp
    ·exact absurd hp hf
  ·have e:(if p∈fp then none else G2 p)=some u:=e
   by_cases hp:p∈fp
   ·rw [if_pos hp] at e;cases e
   ·rw [if_neg hp] at e
    exact k.gh p u e
 ·rcases st.gnew p u e with z | z | z
  ·have z:(if p∈fp then H p else G p)=some u:=z
   by_cases hp:p∈fp
   ·exact .inr (.inl hp)
   ·rw [if_neg hp] at z
    exact .inl z
  ·cases z
  ·exact .inr (.inr z)
 ·refine ⟨⟨some v,vs,rfl,v,E3,[],rfl,(List.append_nil _).symm,r1,q.rep.frz (hg.trans st.gg) fun p hp u e=>st.gg p u (hk p hp u e)⟩,k.nd,k.gn,k.gh⟩
end
end PV
namespace PV
open PySem PySem.Spec PyProof.Rows L2 NX
noncomputable def Res.bind {α β:Type}:Res α->(α->Res β)->Res β
 | .ok a,f=>f a
 | .exc c,_=>.exc c
 | .bad,_=>.bad
inductive BindOk {α β:Type} (x:Res α) (f:α->Res β) (b:β):Prop
 | mk (a:α) (h:x=.ok a) (k:f a=.ok b):BindOk x f b
theorem ar {α β:Type} {x:Res α} {f:α->Res β} {b:β} (h:x.bind f=.ok b):BindOk x f b:=by
 cases x with
 | ok a=>exact ⟨a,rfl,h⟩
 | exc c=>cases h
 | bad=>cases h
inductive Opd where
 | val (d:D) | var (i:Nat)
noncomputable def OpdOk (K:W.Frag) (G:Hp) (σ:L2.St):Opd->V->Prop
 | .val d,v=>Rep K G d v
 | .var i,v=>σ[i]?=some (some v)
theorem OpdOk.mono {K:W.Frag} {G G':Hp} {σ:L2.St} {o:Opd} {v:V} (h:Same G G') (r:OpdOk K G σ o v):OpdOk K G' σ o v:=by
 cases o with
 | val d=>exact Rep.mono h r
 | var i=>exact r
noncomputable def p5 (K:W.Frag) (G:Hp) (σ:L2.St):List Opd->List V->Prop
 | [],vs=>vs=[]
 | o :: os,vs=>∃ y ys,vs=y :: ys/\OpdOk K G σ o y/\p5 K G σ os ys
noncomputable def wL:O->Bool
 | .f=>true
 | .l .f=>true
 | .d=>true
 | .pin _ .f=>true
 | .pin _ (.l .f)=>true
 | .pin _ .d=>true
 | _=>false
noncomputable def EU (env:PV.Env):Opd->Res D
 | .val d=>.ok d
 | .var i=>match env[i]? with
  | some (some r)=>if wL r.1 then .ok r.2 else .bad
  | _=>.bad
noncomputable def eY (env:PV.Env):Opd->Res D
 | .val d=>.ok d
 | .var i=>match env[i]? with
  | some (some r)=>.ok r.2
  | _=>.bad
noncomputable def oM (env:PV.Env):List Opd->Res (List D)
 | []=>.ok []
 | o :: os=>(EU env o).bind fun d=>(oM env os).bind fun ds=>.ok (d :: ds)
noncomputable def kS (env:PV.Env):List Opd->Res (List D)
 | []=>.ok []
 | o :: os=>(eY env o).bind fun d=>(kS env os).bind fun ds=>.ok (d :: ds)
noncomputable def Vw (K:W.Frag) (G H:Hp):D->V->Prop
 | .lst ds,v=>∃ p xs,v=.ref p/\SqL K H p xs/\Reps K G ds xs
 | .dct tk ks vs,v=>∃ p xs o,v=.ref p/\Rd H p o/\DictO o tk ks xs/\Reps K G vs xs
 | d,v=>Rep K G d v
noncomputable def KG (K:W.Frag) (G H:Hp):List D->List V->Prop
 | [],vs=>vs=[]
 | d :: ds,vs=>∃ y ys,vs=y :: ys/\Vw K G H d y/\KG K G H ds ys
section
variable {K:W.Frag} {G G' H H':Hp} {es:PV.Env} {σ:L2.St} {fp:List Addr}
theorem Vw.of {d:D} {v:V} (gh:Same G H) (r:Rep K G d v):Vw K G H d v:=by
 cases d with
 | lst ds=>
  rw [Rep] at r
  obtain ⟨p,xs,e,q,rs⟩:=r
  exact ⟨p,xs,e,gG gh q,rs⟩
 | dct tk ks vs=>
  rw [Rep] at r
  obtain ⟨p,xs,o,e,q,dd,rs⟩:=r
  exact ⟨p,xs,o,e,PV.Rd.mono gh q,dd,rs⟩
 | _=>exact r
theorem Vw.rep {d:D} {v:V} (gh:Same G H) (r:Vw K G H d v):Rep K H d v:=by
 cases d with
 | lst ds=>
  obtain ⟨p,xs,e,q,rs⟩:=r
  rw [Rep]
  exact ⟨p,xs,e,q,rs.mono gh⟩
 | dct tk ks vs=>
  obtain ⟨p,xs,o,e,q,dd,rs⟩:=r
  rw [Rep]
  exact ⟨p,xs,o,e,q,dd,rs.mono gh⟩
 | non=>exact Rep.mono gh r
 | bl b=>exact Rep.mono gh r
 | int i=>exact Rep.mono gh r
 | str l=>exact Rep.mono gh r
 | tup ds=>exact Rep.mono gh r
theorem RepO.vw0 {o:O} {d:D} {v:V} {a:List Addr} (gh:Same G H) (hs:o=.f\/o=.l .f\/o=.d) (r:RepO K G H o d v a):Vw K G H d v:=by
 rcases hs with rfl | rfl | rfl
 ·exact Vw.of gh (jb.mp r).1
 ·cases d with
  | lst ds=>
   obtain ⟨p,xs,e,q,_,rs⟩:=lT.mp r
   exact ⟨p,xs,e,SqL.of q,rs⟩
  | _=>simp only [RepO] at r
 ·cases d with
  | dct tk ks vs=>
   rw [RepO] at r
   obtain ⟨p,xs,o,e,q,dd,_,rs⟩:=r
   exact ⟨p,xs,o,e,.inl q,dd,rs⟩
  | _=>simp only [RepO] at r
theorem RepO.vw {o:O} {d:D} {v:V} {a:List Addr} (gh:Same G H) (hs:wL o=true) (r:RepO K G H o d v a):Vw K G H d v:=by
 unfold wL at hs
 split at hs
 ·exact r.vw0 gh (.inl rfl)
 ·exact r.vw0 gh (.inr (.inl rfl))
 ·exact r.vw0 gh (.inr (.inr rfl))
 ·rw [RepO] at r;exact r.2.vw0 gh (.inl rfl)
 ·rw [RepO] at r;exact r.2.vw0 gh (.inr (.inl rfl))
 ·rw [RepO] at r;exact r.2.vw0 gh (.inr (.inr rfl))
 ·cases hs
theorem Rel.vw {o:Opd} {v:V} {d:D} (q:Rel K G H es σ fp) (k:OpdOk K G σ o v) (e:EU es o=.ok d):Vw K G H d v:=by
 cases o with
 | val d'=>
  cases e
  exact Vw.of q.gh k
 | var i=>
  unfold EU at e
  dsimp only at e
  split at e
  ·rename_i r hr
   split at e
   ·rename_i hs
    cases e
    obtain ⟨v',a,b,ev,r1,_⟩:=q.rep.take hr
    have k:σ[i]?=some (some v):=k
    rw [k] at ev
    cases ev
    exact r1.vw q.gh hs
   ·cases e
  ·cases e
theorem Rel.vwA {o:Opd} {v:V} {d:D} (q:Rel K G H es σ fp) (k:OpdOk K G σ o v) (e:eY es o=.ok d):Rep K H d v:=by
 cases o with
 | val d'=>
  cases e
  exact Rep.mono q.gh k
 | var i=>
  unfold eY at e
  dsimp only at e
  split at e
  ·rename_i r hr
   cases e
   obtain ⟨v',ev,r1⟩:=q.view hr
   have k:σ[i]?=some (some v):=k
   rw [k] at ev
   cases ev
   exact r1
  ·cases e
theorem Rel.vws (q:Rel K G H es σ fp):∀ {os:List Opd} {vs:List V} {ds:List D},p5 K G σ os vs->oM es os=.ok ds->KG K G H ds vs
 | [],_,_,k,e=>by
  cases e
  exact k
 | o :: os,_,_,⟨y,ys,e0,k1,k2⟩,e=>by
  unfold oM at e
  obtain ⟨d,e1,e⟩:=ar e
  obtain ⟨ds,e2,e⟩:=ar e
  cases e
  exact ⟨y,ys,e0,q.vw k1 e1,Rel.vws q k2 e2⟩
theorem nE {G1:Hp} (gg:Same G G1) (ht:∀ (i:Nat) (r:R) (v:V),es[i]?=some (some r)->σ[i]?=some (some v)->Rep K G1 r.2 v):∀ {os:List Opd} {vs:List V} {ds:List D},p5 K G σ os vs->kS es os=.ok ds->Reps K G1 ds vs
 | [],_,_,k,e=>by
  cases e
  have k:_=_:=k
  rw [k]
  exact Reps.nil
 | o :: os,_,_,⟨y,ys,e0,k1,k2⟩,e=>by
  unfold kS at e
  obtain ⟨d,e1,e⟩:=ar e
  obtain ⟨ds,e2,e⟩:=ar e
  cases e
  rw [e0]
  refine .cons ?_ (nE gg ht k2 e2)
  cases o with
  | val d'=>
   cases e1
   exact Rep.mono gg k1
  | var i=>
   unfold eY at e1
   dsimp only at e1
   split at e1
   ·rename_i r hr
    cases e1
    exact ht i r y hr k1
   ·cases e1
end
abbrev FX:=PV.Env->Res (R×PV.Env)
abbrev FO:=PV.Env->Res (Opd×PV.Env)
abbrev FOs:=PV.Env->Res (List Opd×PV.Env)
abbrev FT:=PV.Env->Res (Bool×PV.Env)
inductive Out where
 | nx (env:PV.Env) | rt (r:R) | bk (env:PV.Env) | ct (env:PV.Env)
abbrev FS:=PV.Env->Res Out
inductive tQ (K:W.Frag) (f:FX) (σ:L2.St) (H:Hp) (Q:VK):Prop
 | mk:∀ G env fp r env',Rel K G H env σ fp->f env=.ok (r,env')->(∀ v H' G' Et,Step G H fp G' H' Et->Rel K G' H' (some r :: env') (some v :: σ) Et->Q v H')->tQ K f σ H Q
inductive tO (K:W.Frag) (f:FO) (σ:L2.St) (H:Hp) (Q:VK):Prop
 | mk:∀ G env fp o env',Rel K G H env σ fp->f env=.ok (o,env')->(∀ v H' G' Et,Step G H fp G' H' Et->Rel K G' H' env' σ Et->OpdOk K G' σ o v->Q v H')->tO K f σ H Q
inductive tOs (K:W.Frag) (f:FOs) (σ:L2.St) (H:Hp) (Q:List V->Hp->Prop):Prop
 | mk:∀ G env fp o env',Rel K G H env σ fp->f env=.ok (o,env')->(∀ v H' G' Et,Step G H fp G' H' Et->Rel K G' H' env' σ Et->p5 K G' σ o v->Q v H')->tOs K f σ H Q
inductive tQT (K:W.Frag) (f:FT) (σ:L2.St) (H:Hp) (Q:Bool->Hp->Prop):Prop
 | mk:∀ G env fp b env',Rel K G H env σ fp->f env=.ok (b,env')->(∀ H' G' Et,Step G H fp G' H' Et->Rel K G' H' env' σ Et->Q b H')->tQT K f σ H Q
inductive Mode where
 | plain | mut
def D2 (md:Mode) (K:W.Frag) (G H:Hp) (r:R) (v:V) (fp:List Addr):Prop:=match md with
 | .plain=>Rel K G H [some r] [some v] fp
 | .mut=>∃ o d p c d0,r=(.t [o,.pin p c],.tup [d,d0])/\Rel K G H [some (o,d),some (.pin p c,d0)] [some v,some (.ref p)] fp
noncomputable def OutOk {md:Mode} (K:W.Frag) (G H:Hp) (fp:List Addr) (Dd:Ends):Res Out->Prop
 | .ok (.nx env')=>∀ σ' H' G' Et,Step G H fp G' H' Et->Rel K G' H' env' σ' Et->Dd.nx σ' H'
 | .ok (.bk env')=>∀ σ' H' G' Et,Step G H fp G' H' Et->Rel K G' H' env' σ' Et->Dd.bk σ' H'
 | .ok (.ct env')=>∀ σ' H' G' Et,Step G H fp G' H' Et->Rel K G' H' env' σ' Et->Dd.ct σ' H'
 | .ok (.rt r)=>∀ v H' G' Et,Step G H fp G' H' Et->D2 md K G' H' r v Et->Dd.rt v H'
 | _=>False
inductive tQS {md:Mode} (K:W.Frag) (g:FS) (Dd:Ends) (σ:L2.St) (H:Hp):Prop
 | mk:∀ G env fp,Rel K G H env σ fp->OutOk (md:=md) K G H fp Dd (g env)->tQS (md:=md) K g Dd σ H
def QE (X:Cx) (e:Expr) (f:FX):Prop:=PE X e (tQ X.K f)
def QO (X:Cx) (e:Expr) (f:FO):Prop:=PE X e (tO X.K f)
def Jq (X:Cx) (es:List Expr) (f:FOs):Prop:=PA X es (tOs X.K f)
def QT (X:Cx) (e:Expr) (f:FT):Prop:=PT X e (tQT X.K f)
def QW (X:Cx) (e:Expr) (f:FT):Prop:=PW X e (tQT X.K f)
def QS {md:Mode} (X:Cx) (st:Stmt) (g:FS):Prop:=PS X st (tQS (md:=md) X.K g)
def JM {md:Mode} (X:Cx) (st:List Stmt) (g:FS):Prop:=PSs X st (tQS (md:=md) X.K g)
theorem bU {X:Cx} {e:Expr} {t t':TE} (h:PE X e t) (k:∀ σ H Q,t' σ H Q->t σ H Q):PE X e t':=fun pins s σ H Q I w=>h pins s σ H Q I (k σ H Q w)
theorem p6 {X:Cx} {e:Expr} {t t':TT} (h:PT X e t) (k:∀ σ H Q,t' σ H Q->t σ H Q):PT X e t':=fun pins s σ H Q I w=>h pins s σ H Q I (k σ H Q w)
theorem wM {X:Cx} {e:Expr} {t t':TT} (h:PW X e t) (k:∀ σ H Q,t' σ H Q->t σ H Q):PW X e t':=fun wh pins s σ H Q I w=>h wh pins s σ H Q I (k σ H Q w)
theorem p7 {X:Cx} {e:List Expr} {t t':TA} (h:PA X e t) (k:∀ σ H Q,t' σ H Q->t σ H Q):PA X e t':=fun pos pins s σ H Q I w=>h pos pins s σ H Q I (k σ H Q w)
theorem fQ {X:Cx} {e:Stmt} {t t':TS} (h:PS X e t) (k:∀ D σ H,t' D σ H->t D σ H):PS X e t':=fun pins s σ H D I w=>h pins s σ H D I (k D σ H w)
theorem sX {X:Cx} {e:List Stmt} {t t':TS} (h:PSs X e t) (k:∀ D σ H,t' D σ H->t D σ H):PSs X e t':=fun pins s σ H D I w=>h pins s σ H D I (k D σ H w)
theorem OutOk.imp {md:Mode} {K:W.Frag} {G H G1 H1:Hp} {fp EH:List Addr} {Dd L8:Ends} {r:Res Out} (st:Step G H fp G1 H1 EH) (h:OutOk (md:=md) K G H fp Dd r) (n:∀ σ H,Dd.nx σ H->L8.nx σ H) (b:∀ σ H,Dd.bk σ H->L8.bk σ H) (c:∀ σ H,Dd.ct σ H->L8.ct σ H) (t:∀ v H,Dd.rt v H->L8.rt v H):OutOk (md:=md) K G1 H1 EH L8 r:=by
 match r,h with
 | .ok (.nx env'),h=>exact fun σ' H' G' Et s q=>n _ _ (h σ' H' G' Et (st.trans s) q)
 | .ok (.bk env'),h=>exact fun σ' H' G' Et s q=>b _ _ (h σ' H' G' Et (st.trans s) q)
 | .ok (.ct env'),h=>exact fun σ' H' G' Et s q=>c _ _ (h σ' H' G' Et (st.trans s) q)
 | .ok (.rt r),h=>exact fun v H' G' Et s q=>t _ _ (h v H' G' Et (st.trans s) q)
theorem OutOk.after {md:Mode} {K:W.Frag} {G H G1 H1:Hp} {fp EH:List Addr} {Dd:Ends} {r:Res Out} (st:Step G H fp G1 H1 EH) (h:OutOk (md:=md) K G H fp Dd r):OutOk (md:=md) K G1 H1 EH Dd r:=h.imp st (fun _ _ z=>z) (fun _ _ z=>z) (fun _ _ z=>z) fun _ _ z=>z
noncomputable def aE (d:D):FX:=fun env=>.ok ((.f,d),env)
noncomputable def fz:O->O
 | .pin p .f=>.pin p .f
 | _=>.f
noncomputable def aJ (i:Nat):FX:=fun env=>match env[i]? with
 | some (some r)=>.ok ((.f,r.2),env.set i (some (fz r.1,r.2)))
 | _=>.bad
noncomputable def jS (i:Nat):FX:=fun env=>match env[i]? with
 | some (some r)=>.ok (r,env.set i none)
 | _=>.bad
noncomputable def aj (f:FX):FO:=fun env=>(f env).bind fun p=>.ok (.val p.1.2,p.2)
noncomputable def ai (i:Nat):FO:=fun env=>match env[i]? with
 | some (some _)=>.ok (.var i,env)
 | _=>.bad
noncomputable def ay:FOs:=fun env=>.ok ([],env)
noncomputable def ag (f:FO) (g:FOs):FOs:=fun env=>(f env).bind fun p=>(g p.2).bind fun q=>.ok (p.1 :: q.1,q.2)
section
variable {X:Cx}
theorem p8 {e:Expr} {v:V} {d:D} (h:PE X e (tC v)) (r:∀ G,Rep X.K G d v):QE X e (aE d):=bU h fun σ H Q EA=>by
 obtain ⟨G,env,fp,rr,env',rel,e,k⟩:=EA
 cases e
 exact k v H G fp .refl (rel.push (r G))
theorem aq {i j pos}:QE X (.Constant (.int i) j pos) (aE (.int i)):=p8 zy fun G=>by rw [Rep]
theorem fL {i j pos}:QE X (.Constant (.bool i) j pos) (aE (.bl i)):=p8 B1 fun G=>by rw [Rep]
theorem nF {j pos}:QE X (.Constant .none j pos) (aE .non):=p8 zH fun G=>by rw [Rep]
theorem qa {x j pos} {l:List Nat} (h:x=S l) (hl:l.length<=1000):QE X (.Constant (.str x) j pos) (aE (.str l)):=p8 zI fun G=>by
 rw [Rep,h]
 exact ⟨rfl,by rw [line_eq];lia⟩
theorem aA {i:Nat} {e:Expr} (h:PE X e (uV i)):QE X e (aJ i):=bU h fun σ H Q EA=>by
 obtain ⟨G,env,fp,rr,env',rel,e,k⟩:=EA
 unfold aJ at e
 split at e
 ·rename_i r hr
  cases e
  by_cases hf:fz r.1=.f
  ·obtain ⟨v,G',fq,ev,rv,EL,st⟩:=rel.freezeAt hr
   rw [hf] at k
   exact ⟨v,ev,k v H G' fq st (EL.push rv)⟩
  ·have hp:∃ p,r.1=.pin p .f:=by
    unfold fz at hf
    split at hf
    ·rename_i p hp
     exact ⟨p,hp⟩
    ·exact absurd rfl hf
   obtain ⟨p,hp⟩:=hp
   obtain ⟨v,a,b,ev,r1,_,_⟩:=rel.rep.take hr
   rw [hp,RepO] at r1
   have es:env.set i (some (fz r.1,r.2))=env:=by
    refine lU ?_
    rw [hr,hp]
    show some (some r)=some (some (.pin p .f,r.2))
    rw [<-hp]
   rw [es] at k
   exact ⟨v,ev,k v H G fp .refl (rel.push (jb.mp r1.2).1)⟩
 ·cases e
theorem iS {i:Nat} {e:Expr} (h:PE X e (uV i)):QE X e (jS i):=bU h fun σ H Q EA=>by
 obtain ⟨G,env,fp,rr,env',rel,e,k⟩:=EA
 unfold jS at e
 split at e
 ·rename_i r hr
  cases e
  obtain ⟨v,fq,ev,EL,st,_⟩:=rel.out hr
  exact ⟨v,ev,k v H G fq st EL⟩
 ·cases e
theorem aa {e:Expr} {f:FX} (h:QE X e f):QO X e (aj f):=bU h fun σ H Q EA=>by
 obtain ⟨G,env,fp,o,env',rel,e,k⟩:=EA
 obtain ⟨⟨r,Ej⟩,e1,e⟩:=ar e
 cases e
 refine ⟨G,env,fp,r,Ej,rel,e1,fun v H' G' Et st EL=>?_⟩
 obtain ⟨G2,b,rv,Ek,Ew⟩:=EL.freeze
 exact k v H' G2 b (st.trans Ew) Ek rv
theorem ae {i:Nat} {e:Expr} (h:PE X e (uV i)):QO X e (ai i):=bU h fun σ H Q EA=>by
 obtain ⟨G,env,fp,o,env',rel,e,k⟩:=EA
 unfold ai at e
 split at e
 ·rename_i r hr
  cases e
  obtain ⟨v,ev,_⟩:=rel.view hr
  exact ⟨v,ev,k v H G fp .refl rel ev⟩
 ·cases e
theorem ao:Jq X [] ay:=p7 k7 fun σ H Q EA=>by
 obtain ⟨G,env,fp,o,env',rel,e,k⟩:=EA
 cases e
 exact k [] H G fp .refl rel rfl
theorem af {e:Expr} {es:List Expr} {f:FO} {g:FOs} (h:QO X e f) (hs:Jq X es g) (Ja:starEach (e :: es) X.env=(false,eval e X.env) :: starEach es X.env:=by rfl):Jq X (e :: es) (ag f g):=
 p7 (eZ h hs Ja) fun σ H Q EA=>by
  obtain ⟨G,env,fp,o,env',rel,e,k⟩:=EA
  obtain ⟨⟨o1,Ej⟩,e1,e⟩:=ar e
  obtain ⟨⟨os,Ep⟩,e2,e⟩:=ar e
  cases e
  exact ⟨G,env,fp,o1,Ej,rel,e1,fun v H1 G1 EH EC Eo Gd=>⟨G1,Ej,EH,os,Ep,Eo,e2,fun vs H2 G2 E3 Ew Ek IU=>k _ H2 G2 E3 (EC.trans Ew) Ek ⟨v,vs,rfl,Gd.mono Ew.gg,IU⟩⟩⟩
noncomputable def az (g:D->D->Res R) (fa fb:FO):FX:=fun env=>(fa env).bind fun p=>(fb p.2).bind fun q=>(EU q.2 p.1).bind fun a=>(EU q.2 q.1).bind fun b=>(g a b).bind fun r=>.ok (r,q.2)
noncomputable def bo (g:D->D->Res R) (fa fb:FO):FX:=fun env=>(fa env).bind fun p=>(fb p.2).bind fun q=>(eY q.2 p.1).bind fun a=>(eY q.2 q.1).bind fun b=>(g a b).bind fun r=>.ok (r,q.2)
structure Goes (K:W.Frag) (H:Hp) (G:Hp) (fp:List Addr) (es:PV.Env) (vs:L2.St) (r:R) (Q:VK):Prop where
 rel:Rel K G H es vs fp
 goes:∀ v H' G' Et,Step G H fp G' H' Et->Rel K G' H' (some r :: es) (some v :: vs) Et->Q v H'
inductive rG (K:W.Frag) (g:D->D->Res R) (x:V) (y:V) (H:Hp) (Q:VK):Prop
 | mk:∀ G fp es vs a b r,Goes K H G fp es vs r Q->Vw K G H a x->Vw K G H b y->g a b=.ok r->rG K g x y H Q
inductive rGA (K:W.Frag) (g:D->D->Res R) (x:V) (y:V) (H:Hp) (Q:VK):Prop
 | mk:∀ G fp es vs a b r,Goes K H G fp es vs r Q->Rep K H a x->Rep K H b y->g a b=.ok r->rGA K g x y H Q
variable {a b c:Expr} {fa fb fc:FO} {pos:Pos} {g g':D->D->Res R}
theorem sY {σ:L2.St} {H:Hp} {Q:VK} (h:tQ X.K (az g fa fb) σ H Q):LB (rG X.K g) (tO X.K fa) (tO X.K fb) σ H Q:=by
 obtain ⟨G,env,fp,r,env',rel,e,k⟩:=h
 obtain ⟨⟨oa,e1⟩,ha,e⟩:=ar e
 obtain ⟨⟨ob,e2⟩,hb,e⟩:=ar e
 obtain ⟨da,J0,e⟩:=ar e
 obtain ⟨db,Ha,e⟩:=ar e
 obtain ⟨r',hr,e⟩:=ar e
 cases e
 exact ⟨G,env,fp,oa,e1,rel,ha,fun x H1 G1 EH EC Eo Gd=>⟨G1,e1,EH,ob,e2,Eo,hb,fun y H2 G2 E3 Ew Ek IU=>
  ⟨G2,E3,e2,σ,da,db,r,⟨Ek,fun v H' G' Et st EL=>k v H' G' Et (EC.trans (Ew.trans st)) EL⟩,Ek.vw (Gd.mono Ew.gg) J0,Ek.vw IU Ha,hr⟩⟩⟩
theorem sZ {σ:L2.St} {H:Hp} {Q:VK} (h:tQ X.K (bo g fa fb) σ H Q):LB (rGA X.K g) (tO X.K fa) (tO X.K fb) σ H Q:=by
 obtain ⟨G,env,fp,r,env',rel,e,k⟩:=h
 obtain ⟨⟨oa,e1⟩,ha,e⟩:=ar e
 obtain ⟨⟨ob,e2⟩,hb,e⟩:=ar e
 obtain ⟨da,J0,e⟩:=ar e
 obtain ⟨db,Ha,e⟩:=ar e
 obtain ⟨r',hr,e⟩:=ar e
 cases e
 exact ⟨G,env,fp,oa,e1,rel,ha,fun x H1 G1 EH EC Eo Gd=>⟨G1,e1,EH,ob,e2,Eo,hb,fun y H2 G2 E3 Ew Ek IU=>
  ⟨G2,E3,e2,σ,da,db,r,⟨Ek,fun v H' G' Et st EL=>k v H' G' Et (EC.trans (Ew.trans st)) EL⟩,Ek.vwA (Gd.mono Ew.gg) J0,Ek.vwA IU Ha,hr⟩⟩⟩
theorem aK {op:Operator} (ho:E2 X (binaryOp op) (rG X.K g)) (ha:QO X a fa) (hb:QO X b fb):QE X (.BinOp a op b pos) (az g fa fb):=bU (Cb ho ha hb) fun _ _ _=>sY
theorem jT {op:CmpOp} (ho:E2 X (compareOp op) (rGA X.K g)) (ha:QO X a fa) (hb:QO X b fb) (hm:behindInMarks op b=false):QE X (.Compare a [op] [b] pos) (bo g fa fb):=bU (xw ho ha hb hm) fun _ _ _=>sZ
noncomputable def E1 (f:FX):FT:=fun env=>(f env).bind fun p=>match p.1.2 with
 | .bl k=>.ok (k,p.2)
 | _=>.bad
theorem yb {f:FX} {σ:L2.St} {H:Hp} {Q:Bool->Hp->Prop} (h:tQT X.K (E1 f) σ H Q):tQ X.K f σ H fun x H'=>∃ k,x=.bl k/\Q k H':=by
 obtain ⟨G,env,fp,k,env',rel,e,q⟩:=h
 obtain ⟨⟨⟨o,d⟩,Ej⟩,e1,e⟩:=ar e
 dsimp only at e
 split at e
 ·cases e
  refine ⟨G,env,fp,_,_,rel,e1,fun v H' G' Et st EL=>?_⟩
  have hv:=EL.top
  rw [show ((o,D.bl k):R).2=D.bl k from rfl,Rep] at hv
  obtain ⟨b,Ek,Ew⟩:=EL.drop
  exact ⟨k,hv,q H' G' b (st.trans Ew) Ek⟩
 ·cases e
theorem lh {e:Expr} {f:FX} (h:QE X e f) (he:∀ whole,isTrue e X.env whole=(do let v <-whole;standAt e.pos;holding [v] (truthy v)):=by intro _;rfl):QT X e (E1 f):=p6 (zJ h he) fun _ _ _=>yb
theorem il {op:CmpOp} (ho:E2 X (compareOp op) (rG X.K g)) (ha:QO X a fa) (hb:QO X b fb) (hm:behindInMarks op b=false):QT X (.Compare a [op] [b] pos) (E1 (az g fa fb)):=
 p6 (r6 ho ha hb hm) fun _ _ _ h=>sY (yb h)
theorem bA {op:CmpOp} (ho:E2 X (compareOp op) (rGA X.K g)) (ha:QO X a fa) (hb:QO X b fb) (hm:behindInMarks op b=false):QT X (.Compare a [op] [b] pos) (E1 (bo g fa fb)):=
 p6 (r6 ho ha hb hm) fun _ _ _ h=>sZ (yb h)
noncomputable def uQ (f g:FT):FT:=fun env=>(f env).bind fun p=>if p.1 then g p.2 else .ok (false,p.2)
noncomputable def Lc (f g:FT):FT:=fun env=>(f env).bind fun p=>if p.1 then .ok (true,p.2) else g p.2
noncomputable def yc (f:FT):FT:=fun env=>(f env).bind fun p=>.ok (!p.1,p.2)
variable {ga gb:FT} {fE:List Expr}
theorem jU (h:QT X a ga):QW X (.BoolOp .And [a] pos) ga:=xo h
theorem qb (h:QT X a ga):QW X (.BoolOp .Or [a] pos) ga:=zL h
theorem lj (h:QT X a ga) (h2:QW X (.BoolOp .And (b :: fE) pos) gb):QW X (.BoolOp .And (a :: b :: fE) pos) (uQ ga gb):=wM (zM h h2) fun σ H Q EA=>by
 obtain ⟨G,env,fp,k,env',rel,e,q⟩:=EA
 obtain ⟨⟨k1,Ej⟩,e1,e⟩:=ar e
 refine ⟨G,env,fp,k1,Ej,rel,e1,fun H1 G1 EH EC Eo=>?_⟩
 dsimp only at e
 cases k1 with
 | true=>exact ⟨G1,Ej,EH,k,env',Eo,e,fun H2 G2 E3 Ew Ek=>q H2 G2 E3 (EC.trans Ew) Ek⟩
 | false=>
  cases e
  exact q H1 G1 EH EC Eo
theorem tf (h:QT X a ga) (h2:QW X (.BoolOp .Or (b :: fE) pos) gb):QW X (.BoolOp .Or (a :: b :: fE) pos) (Lc ga gb):=wM (B2 h h2) fun σ H Q EA=>by
 obtain ⟨G,env,fp,k,env',rel,e,q⟩:=EA
 obtain ⟨⟨k1,Ej⟩,e1,e⟩:=ar e
 refine ⟨G,env,fp,k1,Ej,rel,e1,fun H1 G1 EH EC Eo=>?_⟩
 dsimp only at e
 cases k1 with
 | false=>exact ⟨G1,Ej,EH,k,env',Eo,e,fun H2 G2 E3 Ew Ek=>q H2 G2 E3 (EC.trans Ew) Ek⟩
 | true=>
  cases e
  exact q H1 G1 EH EC Eo
theorem QW.qt {e:Expr} {f:FT} (h:QW X e f):QT X e f:=h.pt
theorem nG (h:QT X a ga):QT X (.UnaryOp .Not a pos) (yc ga):=p6 (zN h) fun σ H Q EA=>by
 obtain ⟨G,env,fp,k,env',rel,e,q⟩:=EA
 obtain ⟨⟨k1,Ej⟩,e1,e⟩:=ar e
 cases e
 exact ⟨G,env,fp,k1,Ej,rel,e1,fun H1 G1 EH EC Eo=>q H1 G1 EH EC Eo⟩
noncomputable def Ef (f g:FX):FX:=fun env=>(f env).bind fun p=>match p.1.2 with
 | .bl true=>g p.2
 | .bl false=>.ok ((.f,.bl false),p.2)
 | _=>.bad
noncomputable def L9 (f g:FX):FX:=fun env=>(f env).bind fun p=>match p.1.2 with
 | .bl true=>.ok ((.f,.bl true),p.2)
 | .bl false=>g p.2
 | _=>.bad
noncomputable def Eg (f:FX):FX:=fun env=>(f env).bind fun p=>match p.1.2 with
 | .bl k=>.ok ((.f,.bl (!k)),p.2)
 | _=>.bad
noncomputable def eIf (c:FT) (f g:FX):FX:=fun env=>(c env).bind fun p=>if p.1 then f p.2 else g p.2
variable {ea eb:FX}
theorem Aq {op} (h:QE X a ea):QE X (.BoolOp op [a] pos) ea:=zO h
theorem cz {K:W.Frag} {G:Hp} (k:Bool):Rep K G (.bl k) (.bl k):=by rw [Rep]
theorem a8 {K:W.Frag} {G:Hp} (k:Int):Rep K G (.int k) (.int k):=by rw [Rep]
theorem o4 {K:W.Frag} {G:Hp}:Rep K G .non .non:=by rw [Rep]
theorem g6 {K:W.Frag} {G:Hp} {l:List Nat} (h:l.length<=sizeLine):Rep K G (.str l) (.str (S l)):=by
 rw [Rep]
 exact ⟨rfl,h⟩
theorem cX {K:W.Frag} {G:Hp} {k:Bool} {v:V} (h:Rep K G (.bl k) v):v=.bl k:=by rw [Rep] at h;exact h
theorem bG {K:W.Frag} {G:Hp} {k:Int} {v:V} (h:Rep K G (.int k) v):v=.int k:=by rw [Rep] at h;exact h
theorem cb {K:W.Frag} {G:Hp} {v:V} (h:Rep K G .non v):v=.non:=by rw [Rep] at h;exact h
theorem bx {K:W.Frag} {G:Hp} {l:List Nat} {v:V} (h:Rep K G (.str l) v):v=.str (S l)/\l.length<=sizeLine:=by rw [Rep] at h;exact h
inductive OfT (K:W.Frag) (G:Hp) (l:List D) (v:V):Prop
 | mk (p:Addr) (xs:List V) (e:v=.ref p) (q:SqT K G p xs) (r:Reps K G l xs):OfT K G l v
inductive OfL (K:W.Frag) (G:Hp) (l:List D) (v:V):Prop
 | mk (p:Addr) (xs:List V) (e:v=.ref p) (q:SqL K G p xs) (r:Reps K G l xs):OfL K G l v
theorem br {K:W.Frag} {G:Hp} {l:List D} {v:V} (h:Rep K G (.tup l) v):OfT K G l v:=by
 rw [Rep] at h
 obtain ⟨p,xs,e,q,r⟩:=h
 exact ⟨p,xs,e,SqT.of q,r⟩
theorem tj {K:W.Frag} {G:Hp} {l:List D} {v:V} (h:Rep K G (.tup l) v):∃ p xs,v=.ref p/\G p=some (.tup xs)/\Reps K G l xs:=by rw [Rep] at h;exact h
theorem bH {K:W.Frag} {G:Hp} {l:List D} {v:V} (h:Rep K G (.lst l) v):OfL K G l v:=by
 rw [Rep] at h
 obtain ⟨p,xs,e,q,r⟩:=h
 exact ⟨p,xs,e,q,r⟩
theorem CB {K:W.Frag} {G H:Hp} {k:Bool} {v:V} (h:Vw K G H (.bl k) v):v=.bl k:=cX (K:=K) (G:=G) h
theorem bI {K:W.Frag} {G H:Hp} {k:Int} {v:V} (h:Vw K G H (.int k) v):v=.int k:=bG (K:=K) (G:=G) h
theorem eK {K:W.Frag} {G H:Hp} {l:List Nat} {v:V} (h:Vw K G H (.str l) v):v=.str (S l)/\l.length<=sizeLine:=bx (K:=K) (G:=G) h
theorem gP {K:W.Frag} {G H:Hp} {l:List D} {v:V} (h:Vw K G H (.tup l) v):OfT K G l v:=br (K:=K) (G:=G) h
theorem CC (h:QE X a ea) (h2:QE X (.BoolOp .Or (b :: fE) pos) eb):QE X (.BoolOp .Or (a :: b :: fE) pos) (L9 ea eb):=bU (B3 h h2) fun σ H Q EA=>by
 obtain ⟨G,env,fp,r,env',rel,e,q⟩:=EA
 obtain ⟨⟨⟨o,d⟩,Ej⟩,e1,e⟩:=ar e
 refine ⟨G,env,fp,_,Ej,rel,e1,fun v H1 G1 EH EC Eo=>?_⟩
 have hv:=Eo.top
 obtain ⟨b',Ek,Ew⟩:=Eo.drop
 dsimp only at e hv
 split at e
 ·cases e
  exact ⟨true,cX hv,BV (q _ H1 G1 b' (EC.trans Ew) (Ek.push (cz _)))⟩
 ·exact ⟨false,cX hv,iteF ⟨G1,Ej,b',r,env',Ek,e,fun v H2 G2 E3 EX EK=>q v H2 G2 E3 (EC.trans (Ew.trans EX)) EK⟩⟩
 ·cases e
noncomputable def Dt (g g':D->D->Res R) (fa fb fc:FO):FX:=fun env=>(fa env).bind fun p=>(fb p.2).bind fun q=>(EU q.2 p.1).bind fun a=>(EU q.2 q.1).bind fun b=>(g a b).bind fun r=>match r with
 | (.f,.bl true)=>(fc q.2).bind fun t=>(EU t.2 q.1).bind fun b=>(EU t.2 t.1).bind fun c=>(g' b c).bind fun r=>.ok (r,t.2)
 | (.f,.bl false)=>.ok ((.f,.bl false),q.2)
 | _=>.bad
inductive rC (K:W.Frag) (g:List D->Res R) (xs:List V) (H:Hp) (Q:VK):Prop
 | mk:∀ G fp es vs ds r,Goes K H G fp es vs r Q->KG K G H ds xs->g ds=.ok r->rC K g xs H Q
noncomputable def aY (g:List D->Res R) (fs:FOs):FX:=fun env=>(fs env).bind fun p=>(oM p.2 p.1).bind fun ds=>(g ds).bind fun r=>.ok (r,p.2)
theorem tm {gg:List D->Res R} {fs:FOs} {σ:L2.St} {H:Hp} {Q:VK} (h:tQ X.K (aY gg fs) σ H Q):Nz (rC X.K gg) (tOs X.K fs) σ H Q:=by
 obtain ⟨G,env,fp,r,env',rel,e,k⟩:=h
 obtain ⟨⟨os,e1⟩,ha,e⟩:=ar e
 obtain ⟨ds,hd,e⟩:=ar e
 obtain ⟨r',hr,e⟩:=ar e
 cases e
 exact ⟨G,env,fp,os,e1,rel,ha,fun vs H1 G1 EH EC Eo Gd=>⟨G1,EH,e1,σ,ds,r,⟨Eo,fun v H' G' Et st EL=>k v H' G' Et (EC.trans st) EL⟩,Eo.vws Gd hd,hr⟩⟩
variable {x:Str} {p:Pos} {e:Expr} {es:List Expr} {gg:List D->Res R} {fs:FOs} {id T:String}
theorem aT (hc:cW X (.builtin id) (rC X.K gg)) (hg:Gl X x) (hm:X.mg x=none) (hv:bootBuiltins x=some (.builtin id)) (ha:Jq X (e :: es) fs) (hn:x≠"__name__":=by decide) (Ha:(x == ("__debug__" : Str))=false:=by decide)
  (he:starEach (e :: es) X.env=(false,eval e X.env) :: starEach es X.env:=by rfl) (Gm:(backTo pos (starEach es X.env)).any (·.1)=false:=by rfl):QE X (.Call (.Name x p) (e :: es) [] pos) (aY gg fs):=
 bU (pR hc hg hm hv ha hn Ha he Gm) fun _ _ _=>tm
theorem aV (hc:cW X (.type T) (rC X.K gg)) (hg:Gl X x) (hm:X.mg x=none) (hv:bootBuiltins x=some (.type T)) (ha:Jq X (e :: es) fs) (hn:x≠"__name__":=by decide) (Ha:(x == ("__debug__" : Str))=false:=by decide)
  (he:starEach (e :: es) X.env=(false,eval e X.env) :: starEach es X.env:=by rfl) (Gm:(backTo pos (starEach es X.env)).any (·.1)=false:=by rfl):QE X (.Call (.Name x p) (e :: es) [] pos) (aY gg fs):=
 bU (si hc hg hm hv ha hn Ha he Gm) fun _ _ _=>tm
inductive spF (K:W.Frag) (F:List D->Res R) (vs:List V) (H:Hp) (Q:VK) (zz:XK):Prop
 | mk:∀ G ds r,Same G H->Reps K G ds vs->F ds=.ok r->(∀ v H' G' Et,Step G H [] G' H' Et->Rel K G' H' [some r] [some v] Et->Q v H')->spF K F vs H Q zz
noncomputable def cA (F:List D->Res R) (fs:FOs):FX:=fun env=>(fs env).bind fun p=>(kS p.2 p.1).bind fun ds=>(F ds).bind fun r=>.ok (r,if bJ r.1 r.2 then p.2 else p.2.map frz)
theorem aQ {F:List D->Res R} {k:Nat} (C:Ct X.prog X.w X.K X.mg X.base x k (spF X.K F)) (hr:Room k X.A) (hg:Gl X x) (ha:Jq X (e :: es) fs) (Ha:(x == ("__debug__" : Str))=false:=by decide)
  (he:starEach (e :: es) X.env=(false,eval e X.env) :: starEach es X.env:=by rfl) (Gm:(backTo pos (starEach es X.env)).any (·.1)=false:=by rfl):QE X (.Call (.Name x p) (e :: es) [] pos) (cA F fs):=
 bU (Cr C hr hg ha Ha he Gm) fun σ H Q EA=>by
  obtain ⟨G,env,fp,r,env',rel,e,k⟩:=EA
  obtain ⟨⟨os,e1⟩,ha,e⟩:=ar e
  obtain ⟨ds,hd,e⟩:=ar e
  obtain ⟨r',hr,e⟩:=ar e
  refine ⟨G,env,fp,os,e1,rel,ha,fun vs H1 G1 EH EC Eo Gd=>?_⟩
  show spF X.K F (vs++[]) H1 Q _
  rw [List.append_nil]
  obtain ⟨G2,NW,NY,HJ,_,Jr⟩:=Eo.lend
  refine ⟨G2,ds,r',NY,nE NW HJ Gd hd,hr,fun v H' G' Et st EL=>?_⟩
  obtain ⟨k1,k2⟩:=Jr H' G' Et r' v st EL
  by_cases hc:bJ r'.1 r'.2=true
  ·rw [if_pos hc] at e
   cases e
   obtain ⟨G3,G0,EX,EK⟩:=k1 hc
   exact k v H' G3 G0 (EC.trans EX) EK
  ·rw [if_neg hc] at e
   cases e
   obtain ⟨G3,G0,EX,EK⟩:=k2
   exact k v H' G3 G0 (EC.trans EX) EK
end
noncomputable def sSeq (g1 g2:FS):FS:=fun env=>(g1 env).bind fun o=>match o with
 | .nx e=>g2 e
 | o=>.ok o
noncomputable def dC:FS:=fun env=>.ok (.nx env)
noncomputable def wN:FS:=fun _=>.bad
noncomputable def b9 (i:Nat) (f:FX):FS:=fun env=>(f env).bind fun p=>if i < p.2.length then .ok (.nx (p.2.set i (some p.1))) else .bad
noncomputable def iq (f:FX):FS:=fun env=>(f env).bind fun p=>.ok (.nx p.2)
noncomputable def dI (f:FX):FS:=fun env=>(f env).bind fun p=>.ok (.rt p.1)
noncomputable def Gq (c:FT) (g h:FS):FS:=fun env=>(c env).bind fun p=>if p.1 then g p.2 else h p.2
section
variable {md:Mode} {X:Cx} {st:Stmt} {OB:List Stmt} {g h:FS} {f:FX} {c:FT} {pos:Pos} {e:Expr}
theorem bC:JM (md:=md) X [] dC:=sX xp fun D σ H ⟨G,env,fp,rel,k⟩=>k σ H G fp .refl rel
theorem av (a:QS (md:=md) X st g):JM (md:=md) X [st] g:=xq a
theorem ah (a:QS (md:=md) X st g) (b:JM (md:=md) X OB h):JM (md:=md) X (st :: OB) (sSeq g h):=sX (uX a b) fun D σ H EA=>by
 obtain ⟨G,env,fp,rel,k⟩:=EA
 refine ⟨G,env,fp,rel,?_⟩
 have k:OutOk X.K G H fp D ((g env).bind fun o=>match o with | .nx e=>h e | o=>.ok o):=k
 match q:g env,k with
 | .ok (.nx Ej),k=>exact fun σ1 H1 G1 EH EC Eo=>⟨G1,Ej,EH,Eo,OutOk.after EC k⟩
 | .ok (.bk Ej),k=>exact k
 | .ok (.ct Ej),k=>exact k
 | .ok (.rt r),k=>exact k
theorem vK:QS (md:=md) X st wN:=fQ uY fun D σ H ⟨G,env,fp,rel,k⟩=>k
theorem tq {K:W.Frag} {G H:Hp} {fp:List Addr} {D:Ends} {i:Nat} {env:PV.Env} {σ:L2.St} (rel:Rel K G H env σ fp) (k:OutOk (md:=md) K G H fp D (b9 i f env)):tQ K f σ H fun v H'=>D.nx (σ.set i (some v)) H':=by
 unfold b9 at k
 match q:f env,k with
 | .ok (r,Ej),k=>
  have k:OutOk K G H fp D (if i < Ej.length then .ok (.nx (Ej.set i (some r))) else .bad):=k
  by_cases hi:i < Ej.length
  ·rw [if_pos hi] at k
   refine ⟨G,env,fp,r,Ej,rel,q,fun v H1 G1 EH EC Eo=>?_⟩
   obtain ⟨fq,Ek,Ew⟩:=Eo.store hi
   exact k _ H1 G1 fq (EC.trans Ew) Ek
  ·rw [if_neg hi] at k
   exact k.elim
theorem aH {i:Nat} {x:Str} {pos':Pos} (hN:X.N.Nodup) (hi:X.N[i]?=some x) (hx:Loc X.env.scope x) (he:QE X e f) (hs:swapsWith e (some (.Name x pos')) pos.line X.env=pure false:=by rfl) (hf:X.fn x=true\/X.env.scope.names.lookup x=some .local:=by first | exact .inl rfl | exact .inr rfl | assumption) :
  QS (md:=md) X (.Assign [.Name x pos'] e pos) (b9 i f):=fQ (zU (i:=i) hN hi hx he hs hf) fun D σ H ⟨G,env,fp,rel,k⟩=>tq rel k
theorem dX (he:QE X e f) (hs:swapsWith e none pos.line X.env=pure false:=by rfl):QS (md:=md) X (.Expr e pos) (iq f):=fQ (xr he hs) fun D σ H EA=>by
 obtain ⟨G,env,fp,rel,k⟩:=EA
 unfold iq at k
 match q:f env,k with
 | .ok (r,Ej),k=>
  refine ⟨G,env,fp,r,Ej,rel,q,fun v H1 G1 EH EC Eo=>?_⟩
  obtain ⟨b,Ek,Ew⟩:=Eo.drop
  exact k _ H1 G1 b (EC.trans Ew) Ek
theorem Rel.only {K:W.Frag} {G H:Hp} {r:R} {v:V} {es:PV.Env} {vs:L2.St} {fp:List Addr} (q:Rel K G H (some r :: es) (some v :: vs) fp):∃ a,Rel K G H [some r] [some v] a/\Step G H fp G H a:=by
 obtain ⟨y,ys,e,v',a,b,e1,e2,r1,r2⟩:=q.rep
 cases e
 cases e1
 subst e2
 have nd:=List.nodup_append.mp q.nd
 exact ⟨a,⟨⟨some v,[],rfl,v,a,[],rfl,(List.append_nil _).symm,r1,rfl,rfl⟩,nd.1,fun p hp=>q.gn p (List.mem_append_left _ hp),q.gh⟩,Step.cut fun p hp=>List.mem_append_left _ hp⟩
theorem aR (he:QE X e f):QS (md:=.plain) X (.Return (some e) pos) (dI f):=fQ (zP he) fun D σ H EA=>by
 obtain ⟨G,env,fp,rel,k⟩:=EA
 unfold dI at k
 match q:f env,k with
 | .ok (r,Ej),k=>
  refine ⟨G,env,fp,r,Ej,rel,q,fun v H1 G1 EH EC Eo=>?_⟩
  obtain ⟨b,Ek,Ew⟩:=Eo.only
  exact k _ H1 G1 b (EC.trans Ew) Ek
theorem Rel.nilF {K:W.Frag} {G H:Hp} {es:PV.Env} {vs:L2.St} {fp:List Addr} (q:Rel K G H es vs fp):Rel K G H [] [] []:=⟨⟨rfl,rfl⟩,List.nodup_nil,(fun _ h=>nomatch h),q.gh⟩
theorem dP {a b:List Stmt} {ct:Expr} (hc:QT X ct c) (ha:JM (md:=md) X a g) (hb:JM (md:=md) X b h):QS (md:=md) X (.If ct a b pos) (Gq c g h):=fQ (B6 hc ha hb) fun D σ H EA=>by
 obtain ⟨G,env,fp,rel,k⟩:=EA
 unfold Gq at k
 match q:c env,k with
 | .ok (true,Ej),k=>exact ⟨G,env,fp,true,Ej,rel,q,fun H1 G1 EH EC Eo=>BV ⟨G1,Ej,EH,Eo,OutOk.after EC k⟩⟩
 | .ok (false,Ej),k=>exact ⟨G,env,fp,false,Ej,rel,q,fun H1 G1 EH EC Eo=>iteF ⟨G1,Ej,EH,Eo,OutOk.after EC k⟩⟩
noncomputable def cY (c:FT) (g:FS):Nat->FS
 | 0,_=>.bad
 | n + 1,env=>(c env).bind fun p=>if p.1 then (g p.2).bind fun o=>match o with
  | .nx e=>cY c g n e
  | .ct e=>cY c g n e
  | .bk e=>.ok (.nx e)
  | .rt r=>.ok (.rt r)
  else .ok (.nx p.2)
theorem qc {ct:Expr} {body:List Stmt} (n:Nat) (hp:PassesOwn (model X.prog X.w) X.A X.env X.xe) (hc:QT X ct c) (hb:JM (md:=md) X body g):QS (md:=md) X (.While ct body [] pos) (cY c g n):=
 fQ (u3 hp hc hb) fun D σ H EA=>by
  obtain ⟨G,env,fp,rel,k⟩:=EA
  refine ⟨fun m σ' H'=>∃ G' env' Et,Rel X.K G' H' env' σ' Et/\OutOk X.K G' H' Et D (cY c g m env'),⟨n,G,env,fp,rel,k⟩,?_⟩
  rintro m σ1 H1 ⟨G1,Ej,EH,Eo,k1⟩
  cases m with
  | zero=>exact k1.elim
  | succ m=>
   unfold cY at k1
   match q:c Ej,k1 with
   | .ok (false,Ep),k1=>exact ⟨G1,Ej,EH,false,Ep,Eo,q,fun H2 G2 E3 Ew Ek=>iteF (k1 _ H2 G2 E3 Ew Ek)⟩
   | .ok (true,Ep),k1=>
    refine ⟨G1,Ej,EH,true,Ep,Eo,q,fun H2 G2 E3 Ew Ek=>BV ?_⟩
    refine ⟨fun σ' H'=>∃ G' env' Et,Rel X.K G' H' env' σ' Et/\OutOk X.K G' H' Et D (cY c g m env'),fun σ' H' z=>⟨m,Nat.lt_succ_self _,z⟩,G2,Ep,E3,Ek,?_⟩
    have k2:OutOk X.K G1 H1 EH D ((g Ep).bind fun o=>match o with | .nx e=>cY c g m e | .ct e=>cY c g m e | .bk e=>.ok (.nx e) | .rt r=>.ok (.rt r)):=k1
    match q2:g Ep,k2 with
    | .ok (.nx e),k2=>exact fun σ' H' G' Et st rel=>⟨G',e,Et,rel,OutOk.after (Ew.trans st) k2⟩
    | .ok (.ct e),k2=>exact fun σ' H' G' Et st rel=>⟨G',e,Et,rel,OutOk.after (Ew.trans st) k2⟩
    | .ok (.bk e),k2=>exact fun σ' H' G' Et st rel=>k2 σ' H' G' Et (Ew.trans st) rel
    | .ok (.rt r),k2=>exact fun v H' G' Et st rel=>k2 v H' G' Et (Ew.trans st) rel
def Walk (K:W.Frag) (G:Hp) (J:It) (ds:List D):Prop:=∀ G' H' es vs fp,Same G G'->Rel K G' H' es vs fp->∀ i:Nat,
 (∀ d,ds[i]?=some d->J.go i H'/\∀ x H2,J.yld i H' x H2->∃ G2,Rep K G2 d x/\Rel K G2 H2 es vs fp/\Step G' H' fp G2 H2 fp)/\(i=ds.length->J.stop i H')
abbrev FI:=PV.Env->Res (List D×PV.Env)
inductive tQI (K:W.Frag) (f:FI) (σ:L2.St) (H:Hp) (R:It->Hp->Prop):Prop
 | mk:∀ G env fp ds env',Rel K G H env σ fp->f env=.ok (ds,env')->(∀ J H' G' Et,Step G H fp G' H' Et->Rel K G' H' env' σ Et->Walk K G' J ds->R J H')->tQI K f σ H R
def QI (X:Cx) (tg e:Expr) (f:FI):Prop:=PI X tg e (tQI X.K f)
theorem jV {X:Cx} {tg e:Expr} {t t':TI} (h:PI X tg e t) (k:∀ σ H R,t' σ H R->t σ H R):PI X tg e t':=fun pins s σ H R I w=>h pins s σ H R I (k σ H R w)
abbrev FG:=D->PV.Env->Res PV.Env
inductive tQG (K:W.Frag) (a:FG) (v:V) (σ:L2.St) (H:Hp) (Q:L2.St->Hp->Prop):Prop
 | mk:∀ G env fp d env',Rel K G H env σ fp->Rep K G d v->a d env=.ok env'->(∀ σ' G' Et,Step G H fp G' H Et->Rel K G' H env' σ' Et->Q σ' H)->tQG K a v σ H Q
def QG (X:Cx) (tg:Expr) (a:FG):Prop:=PG X tg (tQG X.K a)
noncomputable def au (i:Nat):FG:=fun d env=>if i < env.length then .ok (env.set i (some (.f,d))) else .bad
theorem wO {X:Cx} {tg:Expr} {t t':TG} (h:PG X tg t) (k:∀ v σ H Q,t' v σ H Q->t v σ H Q):PG X tg t':=fun pins s σ H v u Q I r w=>h pins s σ H v u Q I r (k v σ H Q w)
theorem tu {X:Cx} {tg:List Expr} {t t':Kz} (h:KR X tg t) (k:∀ v σ H Q,t' v σ H Q->t v σ H Q):KR X tg t':=fun pins s σ H v u Q I r w=>h pins s σ H v u Q I r (k v σ H Q w)
theorem aw {i:Nat} {x:Str} (hN:X.N.Nodup) (hi:X.N[i]?=some x) (hx:Loc X.env.scope x) (hf:X.fn x=true\/X.env.scope.names.lookup x=some .local:=by first | exact .inl rfl | exact .inr rfl | assumption):QG X (.Name x pos) (au i):=
 wO (xt (i:=i) hN hi hx hf) fun v σ H Q EA=>by
  obtain ⟨G,env,fp,d,env',rel,r,e,k⟩:=EA
  unfold au at e
  split at e
  ·rename_i hl
   cases e
   obtain ⟨fq,Ek,Ew⟩:=(rel.push r).store hl
   exact k _ G fq Ew Ek
  ·cases e
abbrev J2:=List D->PV.Env->Res PV.Env
inductive tQGs (K:W.Frag) (a:J2) (vs:List V) (σ:L2.St) (H:Hp) (Q:L2.St->Hp->Prop):Prop
 | mk:∀ G env fp ds env',Rel K G H env σ fp->Reps K G ds vs->a ds env=.ok env'->(∀ σ' G' Et,Step G H fp G' H Et->Rel K G' H env' σ' Et->Q σ' H)->tQGs K a vs σ H Q
def M9 (X:Cx) (tg:List Expr) (a:J2):Prop:=KR X tg (tQGs X.K a)
noncomputable def cC:J2:=fun ds env=>match ds with
 | []=>.ok env
 | _=>.bad
noncomputable def aB (a:FG) (b:J2):J2:=fun ds env=>match ds with
 | d :: ds=>(a d env).bind fun e=>b ds e
 | _=>.bad
theorem cK:M9 X [] cC:=tu xu fun vs σ H Q EA=>by
 obtain ⟨G,env,fp,ds,env',rel,r,e,k⟩:=EA
 cases ds with
 | nil=>
  cases e
  rw [Reps] at r
  exact ⟨r,k σ G fp .refl rel⟩
 | cons d ds=>cases e
theorem aF {tg:Expr} {IV:List Expr} {a:FG} {b:J2} (h1:QG X tg a) (h2:M9 X IV b) (hs:(assignEach (tg :: IV) X.env).map (·.2)=assign tg X.env :: (assignEach IV X.env).map (·.2):=by rfl):M9 X (tg :: IV) (aB a b):=
 tu (u0 h1 h2 hs) fun vs σ H Q EA=>by
  obtain ⟨G,env,fp,ds,env',rel,r,e,k⟩:=EA
  cases ds with
  | nil=>cases e
  | cons d ds=>
   rw [Reps] at r
   obtain ⟨y,ys,ev,r1,r2⟩:=r
   obtain ⟨Ej,e1,e2⟩:=ar e
   exact ⟨y,ys,ev,G,env,fp,d,Ej,rel,r1,e1,fun σ1 G1 EH EC Eo=>⟨G1,Ej,EH,ds,env',Eo,r2.mono EC.gg,e2,fun σ2 G2 E3 Ew Ek=>k σ2 G2 E3 (EC.trans Ew) Ek⟩⟩
noncomputable def gH (n:Nat) (a:J2):FG:=fun d env=>match d with
 | .tup ds=>if ds.length=n then a ds env else .bad
 | _=>.bad
theorem dY {IV:List Expr} {k n:Nat} {a:J2} (hc:X.calm=true) (h:M9 X IV a) (hn:(assignEach IV X.env).length=n:=by rfl) (Ja:(assignEach IV X.env).findIdx? (·.1)=none:=by rfl):QG X (.Tuple IV k pos) (gH n a):=
 wO (zS hc h hn Ja) fun v σ H Q EA=>by
  obtain ⟨G,env,fp,d,env',rel,r,e,k⟩:=EA
  unfold gH at e
  split at e
  ·rename_i ds
   split at e
   ·rename_i hl
    obtain ⟨p,xs,ev,sq,rs⟩:=br r
    exact ⟨p,xs,ev,bR rel.gh sq,rs.length.trans hl,G,env,fp,ds,env',rel,rs,e,k⟩
   ·cases e
  ·cases e
noncomputable def jy (a:FG) (g:FS):List D->FS
 | [],env=>.ok (.nx env)
 | d :: ds,env=>(a d env).bind fun e=>(g e).bind fun o=>match o with
  | .nx e=>jy a g ds e
  | .ct e=>jy a g ds e
  | .bk e=>.ok (.nx e)
  | .rt r=>.ok (.rt r)
noncomputable def lV (f:FI) (a:FG) (g:FS):FS:=fun env=>(f env).bind fun p=>jy a g p.1 p.2
theorem dM {tg iter:Expr} {body:List Stmt} {fi:FI} {a:FG} (hp:PassesOwn (model X.prog X.w) X.A X.env X.xe) (hc:X.calm=true) (hi:QI X tg iter fi) (hg:QG X tg a) (hb:JM (md:=md) X body g) (hs:∀ x,foldedSetIterable iter X.env x=pure x:=by intro _;rfl):QS (md:=md) X (.For tg iter body [] pos) (lV fi a g):=
 fQ (zX hp hc hi hg hb hs) fun D σ H EA=>by
  obtain ⟨G,env,fp,rel,k⟩:=EA
  unfold lV at k
  match q:fi env,k with
  | .ok (ds,Ej),k=>
   refine ⟨G,env,fp,ds,Ej,rel,q,fun J H1 G1 EH EC Eo wk=>?_⟩
   have k:OutOk X.K G H fp D (jy a g ds Ej):=k
   refine ⟨fun i m σ' H'=>m=ds.length - i/\i<=ds.length/\∃ G' env' Et,Same G1 G'/\Rel X.K G' H' env' σ' Et/\OutOk X.K G' H' Et D (jy a g (ds.drop i) env'),⟨_,rfl,Nat.zero_le _,G1,Ej,EH,.refl _,Eo,OutOk.after EC k⟩,?_⟩
   rintro i m σ2 H2 ⟨rfl,hi,G2,Ep,E3,gg,Ek,k2⟩
   obtain ⟨w1,w2⟩:=wk G2 H2 _ _ _ gg Ek i
   by_cases EY:i < ds.length
   ·have hd:ds[i]?=some ds[i]:=List.getElem?_eq_getElem EY
    obtain ⟨go,yl⟩:=w1 _ hd
    rw [List.drop_eq_getElem_cons EY] at k2
    refine .inr ⟨go,fun σ' H'=>∃ G' env' Et,Same G1 G'/\Rel X.K G' H' env' σ' Et/\OutOk X.K G' H' Et D (jy a g (ds.drop (i + 1)) env'),fun σ' H' z=>⟨ds.length - (i + 1),by lia,rfl,EY,z⟩,fun x H3 y=>?_⟩
    obtain ⟨G3,rx,EK,EX⟩:=yl x H3 y
    unfold jy at k2
    match q3:a ds[i] Ep,k2 with
    | .ok E9,k2=>
     refine ⟨G3,Ep,E3,ds[i],E9,EK,rx,q3,fun σ4 G4 Ma FY E4=>⟨G4,E9,Ma,E4,?_⟩⟩
     have k3:OutOk X.K G2 H2 E3 D ((g E9).bind fun o=>match o with | .nx e=>jy a g (ds.drop (i + 1)) e | .ct e=>jy a g (ds.drop (i + 1)) e | .bk e=>.ok (.nx e) | .rt r=>.ok (.rt r)):=k2
     match q4:g E9,k3 with
     | .ok (.nx e),k3=>exact fun σ' H' G' Et st rel=>⟨G',e,Et,gg.trans (EX.gg.trans (FY.gg.trans st.gg)),rel,OutOk.after (EX.trans (FY.trans st)) k3⟩
     | .ok (.ct e),k3=>exact fun σ' H' G' Et st rel=>⟨G',e,Et,gg.trans (EX.gg.trans (FY.gg.trans st.gg)),rel,OutOk.after (EX.trans (FY.trans st)) k3⟩
     | .ok (.bk e),k3=>exact fun σ' H' G' Et st rel=>k3 σ' H' G' Et (EX.trans (FY.trans st)) rel
     | .ok (.rt r),k3=>exact fun v H' G' Et st rel=>k3 v H' G' Et (EX.trans (FY.trans st)) rel
   ·have e:i=ds.length:=by lia
    subst e
    rw [List.drop_length] at k2
    exact .inl ⟨w2 rfl,k2 σ2 H2 G2 E3 .refl Ek⟩
noncomputable def Ar (f:FX):FI:=fun env=>(f env).bind fun p=>match p.1.2 with
 | .lst ds=>.ok (ds,p.2)
 | _=>.bad
noncomputable def fM (f:FX):FI:=fun env=>(f env).bind fun p=>match p.1.2 with
 | .tup ds=>.ok (ds,p.2)
 | _=>.bad
variable {tg l:Expr}
theorem nH {K:W.Frag} {G:Hp} {a:Addr} {xs:List V} {ds:List D} (sq:SqL K G a xs) (rs:Reps K G ds xs):Walk K G (LA K a) ds:=by
 intro G' H' es vs fp gg rel i
 have FU:SqL K H' a xs:=gG rel.gh (gG gg sq)
 refine ⟨fun d hd=>?_,fun e=>⟨xs,FU,by rw [rs.length];lia⟩⟩
 obtain ⟨x,hx,rx⟩:=rs.get hd
 refine ⟨⟨xs,x,FU,hx⟩,fun y H2 ⟨e,hy⟩=>?_⟩
 subst e
 have:=hy xs FU
 rw [hx] at this
 cases this
 exact ⟨G',Rep.mono gg rx,rel,.refl⟩
theorem vL {K:W.Frag} {G:Hp} {a:Addr} {xs:List V} {ds:List D} (sq:SqT K G a xs) (rs:Reps K G ds xs):Walk K G (Nv K a) ds:=by
 intro G' H' es vs fp gg rel i
 have FU:SqT K H' a xs:=bR rel.gh (bR gg sq)
 refine ⟨fun d hd=>?_,fun e=>⟨xs,FU,by rw [rs.length];lia⟩⟩
 obtain ⟨x,hx,rx⟩:=rs.get hd
 refine ⟨⟨xs,x,FU,hx⟩,fun y H2 ⟨e,hy⟩=>?_⟩
 subst e
 have:=hy xs FU
 rw [hx] at this
 cases this
 exact ⟨G',Rep.mono gg rx,rel,.refl⟩
theorem yd (h:QE X l f):QI X tg l (Ar f):=jV (rU h) fun σ H R EA=>by
 obtain ⟨G,env,fp,ds,env',rel,e,k⟩:=EA
 obtain ⟨⟨⟨o,d⟩,Ej⟩,e1,e⟩:=ar e
 dsimp only at e
 split at e
 ·cases e
  refine ⟨G,env,fp,_,_,rel,e1,fun v H1 G1 EH EC Eo=>?_⟩
  obtain ⟨G2,b,rv,Ek,Ew⟩:=Eo.freeze
  obtain ⟨p,xs,ev,sq,rs⟩:=bH rv
  exact ⟨p,ev,⟨xs,gG Ek.gh sq⟩,k _ H1 G2 b (EC.trans Ew) Ek (nH sq rs)⟩
 ·cases e
theorem fR (h:QE X l f):QI X tg l (fM f):=jV (zW h) fun σ H R EA=>by
 obtain ⟨G,env,fp,ds,env',rel,e,k⟩:=EA
 obtain ⟨⟨⟨o,d⟩,Ej⟩,e1,e⟩:=ar e
 dsimp only at e
 split at e
 ·cases e
  refine ⟨G,env,fp,_,_,rel,e1,fun v H1 G1 EH EC Eo=>?_⟩
  obtain ⟨G2,b,rv,Ek,Ew⟩:=Eo.freeze
  obtain ⟨p,xs,ev,sq,rs⟩:=br rv
  exact ⟨p,ev,⟨xs,bR Ek.gh sq⟩,k _ H1 G2 b (EC.trans Ew) Ek (vL sq rs)⟩
 ·cases e
noncomputable def fN (f:FX):FI:=fun env=>(f env).bind fun p=>match p.1.2 with
 | .str l=>.ok (l.map fun c=>.str [c],p.2)
 | _=>.bad
theorem fS (h:QE X l f):QI X tg l (fN f):=jV (Ah h) fun σ H R EA=>by
 obtain ⟨G,env,fp,ds,env',rel,e,k⟩:=EA
 obtain ⟨⟨⟨o,d⟩,Ej⟩,e1,e⟩:=ar e
 dsimp only at e
 split at e
 ·rename_i cs
  cases e
  refine ⟨G,env,fp,_,_,rel,e1,fun v H1 G1 EH EC Eo=>?_⟩
  obtain ⟨G2,b,rv,Ek,Ew⟩:=Eo.freeze
  obtain ⟨ev,hl⟩:=bx rv
  refine ⟨cs,ev,k _ H1 G2 b (EC.trans Ew) Ek fun G' H' es vs Et gg EL i=>⟨fun d hd=>?_,fun e=>?_⟩⟩
  ·rw [List.getElem?_map] at hd
   cases hc:cs[i]? with
   | none=>rw [hc] at hd;cases hd
   | some c=>
    rw [hc] at hd
    cases hd
    refine ⟨(List.getElem?_eq_some_iff.mp hc).1,fun x H2 ⟨e1,e2⟩=>?_⟩
    subst e1
    refine ⟨G',?_,EL,.refl⟩
    rw [e2]
    show Rep X.K G' (.str [c]) (.str (S [cs.getD i 0]))
    rw [List.getD_eq_getElem?_getD,hc]
    exact g6 (by rw [line_eq];simp)
  ·rw [List.length_map] at e
   exact e
 ·cases e
noncomputable def dk (f:FO):FI:=fun env=>(f env).bind fun p=>(EU p.2 p.1).bind fun d=>match d with
 | .int j=>if -4611686018427387904<=j/\j < 4611686018427387904 then .ok ((List.range j.toNat).map fun (k:Nat)=>D.int (k:Int),p.2) else .bad
 | _=>.bad
theorem q5 {K:W.Frag} {G:Hp} (lo:Int) (n:Nat):Walk K G (M3 lo n) ((List.range n).map fun (k:Nat)=>D.int (lo + (k:Int))):=by
 intro G' H' es vs fp gg rel i
 refine ⟨fun d hd=>?_,fun e=>?_⟩
 ·rw [List.getElem?_map] at hd
  cases hc:(List.range n)[i]? with
  | none=>rw [hc] at hd;cases hd
  | some c=>
   rw [hc] at hd
   cases hd
   obtain ⟨h1,h2⟩:=List.getElem?_eq_some_iff.mp hc
   rw [List.length_range] at h1
   rw [List.getElem_range] at h2
   subst h2
   refine ⟨h1,fun x H2 ⟨e1,e2⟩=>?_⟩
   subst e1
   exact ⟨G',by rw [e2];exact a8 _,rel,.refl⟩
 ·rw [List.length_map,List.length_range] at e
  exact Nat.le_of_eq e.symm
theorem cj {a:Expr} {fa:FO} {p pos:Pos} (hg:Gl X "range") (hm:X.mg "range" = none) (ha:QO X a fa) (hs:starEach [a] X.env=[(false,eval a X.env)]:=by rfl):QI X tg (.Call (.Name "range" p) [a] [] pos) (dk fa):=
 jV (rV hg hm (af ha ao hs) hs) fun σ H R EA=>by
  obtain ⟨G,env,fp,ds,env',rel,e,k⟩:=EA
  obtain ⟨⟨o,Ej⟩,e1,e⟩:=ar e
  obtain ⟨d,e2,e⟩:=ar e
  dsimp only at e
  split at e
  ·rename_i j
   split at e
   ·rename_i hj
    cases e
    refine ⟨G,env,fp,[o],_,rel,by show (fa env).bind _=_;rw [e1];rfl,fun vs H1 G1 EH EC Eo Gd=>?_⟩
    obtain ⟨y,ys,ev,k1,k2⟩:=Gd
    have k2:ys=[]:=k2
    subst k2
    have hv:=bI (Eo.vw k1 e2)
    subst hv
    refine ⟨j,ev,by lia,by lia,k _ H1 G1 EH EC Eo ?_⟩
    have w:=q5 (K:=X.K) (G:=G1) 0 j.toNat
    simpa using w
   ·cases e
  ·cases e
noncomputable def CD (fs:FOs):FI:=fun env=>(fs env).bind fun p=>(oM p.2 p.1).bind fun d=>match d with
 | [.int i,.int j]=>if (-4611686018427387904<=i/\i < 4611686018427387904)/\-4611686018427387904<=j/\j < 4611686018427387904 then .ok ((List.range (j - i).toNat).map fun (k:Nat)=>D.int (i + (k:Int)),p.2) else .bad
 | _=>.bad
noncomputable def iT (k:Bool):D->Res (List D)
 | .lst ds=>if k then .ok ds else .bad
 | .tup ds=>if k then .bad else .ok ds
 | _=>.bad
noncomputable def rg (k1 k2:Bool) (fs:FOs):FI:=fun env=>(fs env).bind fun p=>match p.1 with
 | [.val d1,.val d2]=>(iT k1 d1).bind fun a=>(iT k2 d2).bind fun b=>.ok ((a.zip b).map fun z=>D.tup [z.1,z.2],p.2)
 | _=>.bad
theorem qe {K:W.Frag} {G:Hp} {k:Bool} {d:D} {ds:List D} {v:V} (e:iT k d=.ok ds) (r:Rep K G d v):∃ p xs,v=.ref p/\(if k then SqL K G p xs else SqT K G p xs)/\Reps K G ds xs:=by
 cases d with
 | lst es=>
  cases k with
  | true=>
   cases e
   obtain ⟨p,xs,e1,q,rs⟩:=bH r
   exact ⟨p,xs,e1,q,rs⟩
  | false=>cases e
 | tup es=>
  cases k with
  | true=>cases e
  | false=>
   cases e
   obtain ⟨p,xs,e1,q,rs⟩:=br r
   exact ⟨p,xs,e1,q,rs⟩
 | _=>cases e
theorem lW {K:W.Frag} {G G':Hp} {k:Bool} {p:Addr} {xs:List V} (h:Same G G') (r:if k then SqL K G p xs else SqT K G p xs):if k then SqL K G' p xs else SqT K G' p xs:=by
 cases k with
 | true=>exact gG h r
 | false=>exact bR h r
theorem vM {K:W.Frag} {G:Hp} {k1 k2:Bool} {p1 p2:Addr} {xs ys:List V} {as bs:List D} (s1:if k1 then SqL K G p1 xs else SqT K G p1 xs) (s2:if k2 then SqL K G p2 ys else SqT K G p2 ys) (r1:Reps K G as xs) (r2:Reps K G bs ys) :
  Walk K G (NM K k1 k2 p1 p2) ((as.zip bs).map fun z=>D.tup [z.1,z.2]):=by
 intro G' H' es vs fp gg rel i
 have g1:=lW (gg.trans rel.gh) s1
 have g2:=lW (gg.trans rel.gh) s2
 refine ⟨fun d hd=>?_,fun e=>⟨xs,ys,g1,g2,?_⟩⟩
 ·rw [List.getElem?_map] at hd
  cases hz:(as.zip bs)[i]? with
  | none=>rw [hz] at hd;cases hd
  | some z=>
   rw [hz] at hd
   cases hd
   obtain ⟨h1,h2⟩:=List.getElem?_zip_eq_some.mp hz
   obtain ⟨x,hx,rx⟩:=r1.get h1
   obtain ⟨y,hy,ry⟩:=r2.get h2
   refine ⟨⟨xs,ys,x,y,g1,g2,hx,hy⟩,fun v H2 ⟨T,hT,ev,hh⟩=>?_⟩
   have e2:=hh xs ys x y g1 g2 hx hy
   subst e2
   obtain ⟨Ek,Ew⟩:=rel.newF (u:=.tup [x,y]) hT
   refine ⟨_,?_,Ek,Ew⟩
   rw [Rep]
   exact ⟨T,[x,y],ev,bK,.cons (Rep.mono (gg.trans Ew.gg) rx) (.one (Rep.mono (gg.trans Ew.gg) ry))⟩
 ·rw [List.length_map,List.length_zip] at e
  rw [r1.length,r2.length]
  exact e
theorem qf (k1 k2:Bool) {IV:List Expr} {kt:Nat} {pt:Pos} {e1 e2:Expr} {fs:FOs} {p pos:Pos} (hg:Gl X "zip") (hm:X.mg "zip" = none) (ha:Jq X [e1,e2] fs) (he:starEach [e1,e2] X.env=(false,eval e1 X.env) :: starEach [e2] X.env:=by rfl) (Gm:(backTo pos (starEach [e2] X.env)).any (·.1)=false:=by rfl) :
  QI X (.Tuple IV kt pt) (.Call (.Name "zip" p) [e1,e2] [] pos) (rg k1 k2 fs):=
 jV (Ak k1 k2 hg hm ha he Gm) fun σ H R EA=>by
  obtain ⟨G,env,fp,ds,env',rel,e,k⟩:=EA
  obtain ⟨⟨o,Ej⟩,e1,e⟩:=ar e
  dsimp only at e
  split at e
  ·rename_i d1 d2
   obtain ⟨a,ea,e⟩:=ar e
   obtain ⟨b,eb,e⟩:=ar e
   cases e
   refine ⟨G,env,fp,_,_,rel,e1,fun vs H1 G1 EH EC Eo Gd=>?_⟩
   obtain ⟨y,ys,ev,v1,z,zs,ev2,v2,e3⟩:=Gd
   have e3:zs=[]:=e3
   subst e3
   obtain ⟨p1,xs1,ep1,q1,r1⟩:=qe ea v1
   obtain ⟨p2,LK,ep2,q2,r2⟩:=qe eb v2
   subst ep1
   subst ep2
   subst ev2
   exact ⟨p1,p2,xs1,LK,ev,lW Eo.gh q1,lW Eo.gh q2,k _ H1 G1 EH EC Eo (vM q1 q2 r1 r2)⟩
  ·cases e
end
noncomputable def fBody (np nn:Nat) (g:FS):List D->Res R:=fun ds=>if ds.length=np then (g (ds.map (fun d=>some (O.f,d))++List.replicate nn none)).bind fun o=>match o with
 | .rt r=>.ok r
 | .nx _=>.ok (.f,.non)
 | _=>.bad
 else .bad
theorem jW {K:W.Frag} {G H:Hp} (n:Nat):∀ {ds:List D} {vs:List V},Reps K G ds vs->RepE K G H (ds.map (fun d=>some (O.f,d))++List.replicate n none) (vs.map some++List.replicate n none) []
 | [],vs,r=>by
  rw [Reps] at r
  subst r
  show RepE K G H (List.replicate n none) (List.replicate n none) []
  induction n with
  | zero=>exact ⟨rfl,rfl⟩
  | succ n ih=>exact ⟨none,_,rfl,ih⟩
 | d :: ds,vs,r=>by
  rw [Reps] at r
  obtain ⟨y,ys,e,r1,r2⟩:=r
  subst e
  exact ⟨some y,_,rfl,y,[],[],rfl,rfl,jb.mpr ⟨r1,rfl⟩,jW n r2⟩
theorem cZ {P:Program} {w:World} {K:W.Frag} {mg:Str->Option Value} {base:Heap} {x:Str} {st:Stmt} {N ps:List Str} {k:Nat} {g:FS} (Df:Def K mg x st) (sc:FnScope N ps (defScope st))
  (hb:∀ (kV doc pm:Value) (an:Option Addr) (EJ ct:Value) (us:List Value),us.length=ps.length->bindArgs (PySem.W.fnOf x x (fP st) (dW st) (defScope st) .none kV doc pm an EJ ct) ⟨us,[]⟩=pure (ps.zip us))
  (body:∀ (f:Addr) (EJ:Value) (A:Around) (outer:List PySem.Env) (s:Shared) (H:Hp) (E:XK),Room k (A.deeper (envOfC x (defScope st) s.heap.objs.size f EJ))->JM (md:=.plain) (wu Jl P w K mg base N x (defScope st) f EJ A outer s H E).nox (dW st) g) :
  Ct P w K mg base x (k + 1) (spF K (fBody ps.length (N.length - ps.length) g)):=by
 obtain ⟨f,fd,F,m⟩:=Df
 refine ⟨f,fd,ps,F.ok sc (fun vs H Q E h=>?_) (fun EJ A outer s H vs Q E hr h=>?_),m,F.kp,F.binds hb⟩
 ·obtain ⟨G,ds,r,_,rs,e,_⟩:=h
  unfold fBody at e
  split at e
  ·rename_i hl
   rw [rs.length,hl]
  ·cases e
 ·obtain ⟨G,ds,r,gh,rs,e,q⟩:=h
  unfold fBody at e
  split at e
  ·rename_i hl
   refine ⟨_,body f EJ A outer s H E hr,G,ds.map (fun d=>some (O.f,d))++List.replicate (N.length - ps.length) none,[],⟨?_,List.nodup_nil,(fun _ h=>nomatch h),gh⟩,?_⟩
   ·have:=jW (K:=K) (G:=G) (H:=H) (N.length - ps.length) rs
    unfold L2.start
    rw [rs.length,hl]
    exact this
   ·obtain ⟨o,eo,e⟩:=ar e
    rw [eo]
    cases o with
    | rt r'=>
     cases e
     exact fun v H' G' Et st rel=>q v H' G' Et st rel
    | nx env'=>
     cases e
     exact fun σ' H' G' Et st rel=>q .non H' G' [] (st.trans (Step.cut fun _ h=>nomatch h)) (rel.nilF.push o4)
    | bk env'=>cases e
    | ct env'=>cases e
  ·cases e
noncomputable def dZ (ix:List (Option Nat)) (env:PV.Env):PV.Env:=ix.map fun j=>j.bind fun j=>match env[j]? with
 | some (some r)=>some (O.f,r.2)
 | _=>none
noncomputable def dy:FT:=fun env=>.ok (true,env)
noncomputable def b5 (a:FG) (c:FT) (f:FX):List D->PV.Env->Res (List D)
 | [],_=>.ok []
 | d :: ds,env=>(a d env).bind fun e=>(c e).bind fun p=>if p.1 then (f p.2).bind fun q=>(b5 a c f ds q.2).bind fun rs=>.ok (q.1.2 :: rs) else b5 a c f ds p.2
noncomputable def cu (fi:FI) (ix:List (Option Nat)) (a:FG) (c:FT) (f:FX):FX:=fun env=>(fi env).bind fun p=>(b5 a c f p.1 (dZ ix p.2)).bind fun ds=>if ds.length<=sizeLine then .ok ((.l .f,.lst ds),if flatDs ds then p.2 else p.2.map frz) else .bad
theorem lX:∀ ds,ds.all (bJ .f)=flatDs ds
 | []=>rfl
 | d :: ds=>by rw [List.all_cons,flatDs,lX ds,bJ]
theorem fT {K:W.Frag} {G1 H:Hp} {es:PV.Env} {σ:L2.St} (ht:∀ (i:Nat) (r:R) (v:V),es[i]?=some (some r)->σ[i]?=some (some v)->Rep K G1 r.2 v) (hv:∀ (i:Nat) (r:R),es[i]?=some (some r)->∃ v,σ[i]?=some (some v)) :
  ∀ ix:List (Option Nat),RepE K G1 H (dZ ix es) (k9 ix σ) []
 | []=>⟨rfl,rfl⟩
 | none :: ix=>⟨none,_,rfl,fT ht hv ix⟩
 | some j :: ix=>by
  show RepE K G1 H ((match es[j]? with | some (some r)=>some (O.f,r.2) | _=>none) :: dZ ix es) ((σ[j]?).bind id :: k9 ix σ) []
  cases e:es[j]? with
  | none=>exact ⟨_,_,rfl,fT ht hv ix⟩
  | some r=>
   cases r with
   | none=>exact ⟨_,_,rfl,fT ht hv ix⟩
   | some r=>
    obtain ⟨v,ev⟩:=hv j r e
    refine ⟨_,_,rfl,v,[],[],?_,rfl,jb.mpr ⟨ht j r v e ev,rfl⟩,fT ht hv ix⟩
    rw [ev]
    rfl
section
variable {md:Mode} {X:Cx} {scope:Scope} {N:List Str} {tg iter elt:Expr} {ifs:List Expr} {pos:Pos} {fi:FI} {a:FG} {c:FT} {f:FX}
def Na (X:Cx) (ifs:List Expr) (c:FT):Prop:=LF X ifs (tQT X.K c)
theorem bu:Na X [] dy:=fun pins s σ H Q I EA=>by
 obtain ⟨G,env,fp,b,env',rel,e,k⟩:=EA
 cases e
 exact xK pins s σ H Q I (k H G fp .refl rel)
theorem tw {t:Expr} (h:QT X t c):Na X [t] c:=xM h
end
section
variable {X:Cx}
inductive rCatS (K:W.Frag) (x:V) (y:V) (H:Hp) (Q:VK):Prop
 | mk:∀ l b xs zs,x=.ref l->y=.ref b->SqL K H l xs->SqL K H b zs->xs.length + zs.length<=sizeLine->(∀ p,H p=none->Q (.ref p) (upd H p (.lst (xs++zs))))->rCatS K x y H Q
theorem ye:E2 X (binaryOp .Add) (rCatS X.K):=by
 intro pins s σ H x y v u Q I rx ry h
 obtain ⟨l,b,xs,zs,rfl,rfl,hH,hB,hz,q⟩:=h
 cases rx
 cases ry
 obtain ⟨El,r1,p1,_⟩:=I.list hH
 obtain ⟨Ic,r2,p2,_⟩:=I.list hB
 have l1:=r1.length
 have l2:=r2.length
 obtain ⟨⟨cls,dd,data,sl⟩,ho,hc,n,hd⟩:=id p1.isList
 obtain ⟨⟨JQ,IF,data2,IG⟩,FW,F0,n2,hd2⟩:=id p2.isList
 simp only at hc hd F0 hd2
 subst hc hd F0 hd2
 have e:El.toArray++Ic.toArray=(El++Ic).toArray:=by simp
 refine concat_meets ⟨_,ho,rfl⟩ ⟨_,FW,rfl⟩ noFill_list_add seq_list_add PySem.F.slot_list_add PySem.F.entry_list_add (PySem.F.args_list_add_2 _ _) (list_addW l b El.toArray Ic.toArray n n2 dd IF sl IG (by rw [List.size_toArray,List.size_toArray];lia)) ⟨ho,FW,?_⟩
 rw [e]
 exact ⟨.ref _,_,I.lnew (t':=s.toks) (r1.append r2) (by rw [List.length_append];lia),rfl,q _ I.fresh⟩
end
noncomputable def addD:D->D->Res R
 | .int i,.int j=>.ok (.f,.int (i + j))
 | .str a,.str b=>if a.length + b.length<=sizeLine then .ok (.f,.str (a++b)) else .bad
 | .lst a,.lst b=>if a.length + b.length<=sizeLine then .ok (.l .f,.lst (a++b)) else .bad
 | .tup a,.tup b=>if a≠[]/\a.length + b.length<=sizeLine then .ok (.f,.tup (a++b)) else .bad
 | _,_=>.bad
section
variable {X:Cx}
theorem lY {K:W.Frag} {G H:Hp} {fp:List Addr} {es:PV.Env} {vs:L2.St} {ds:List D} {xs:List V} {p:Addr} (rel:Rel K G H es vs fp) (hp:H p=none) (r:Reps K G ds xs) :
  ∃ G',Rel K G' (upd H p (.tup xs)) (some (.f,.tup ds) :: es) (some (.ref p) :: vs) fp/\Step G H fp G' (upd H p (.tup xs)) fp:=by
 obtain ⟨Ek,Ew⟩:=rel.newF (u:=.tup xs) hp
 refine ⟨_,Ek.push ?_,Ew⟩
 rw [Rep]
 exact ⟨p,xs,rfl,bK,r.mono Ew.gg⟩
theorem As:E2 X (binaryOp .Add) (rG X.K addD):=by
 rintro pins s σ H x y v u Q I rx ry ⟨G,fp,es,vs,a,b,r,⟨rel,k⟩,va,vb,e⟩
 unfold addD at e
 split at e
 ·rename_i i j
  cases e
  cases bI va
  cases bI vb
  exact zY pins s σ H _ _ v u Q I rx ry ⟨i,j,rfl,rfl,k _ H G fp .refl (rel.push (a8 _))⟩
 ·rename_i i j
  split at e
  ·rename_i hl
   cases e
   obtain ⟨e1,h1⟩:=eK va
   obtain ⟨e2,h2⟩:=eK vb
   subst e1
   subst e2
   refine qQ pins s σ H _ _ v u Q I rx ry ⟨_,_,rfl,rfl,by rw [kP,kP];exact hl,?_⟩
   rw [Cq]
   exact k _ H G fp .refl (rel.push (g6 (by rw [List.length_append];exact hl)))
  ·cases e
 ·rename_i i j
  split at e
  ·rename_i hl
   cases e
   obtain ⟨p,xs,e1,h1,r1⟩:=va
   obtain ⟨p2,LK,e2,h2,r2⟩:=vb
   subst e1
   subst e2
   refine ye pins s σ H _ _ v u Q I rx ry ⟨p,p2,xs,LK,rfl,rfl,h1,h2,by rw [r1.length,r2.length];exact hl,fun q hq=>?_⟩
   obtain ⟨Ek,Ew⟩:=rel.newL hq (r1.app r2)
   exact k _ _ G _ Ew Ek
  ·cases e
 ·rename_i i j
  split at e
  ·rename_i hl
   cases e
   obtain ⟨p,xs,e1,h1,r1⟩:=gP va
   obtain ⟨p2,LK,e2,h2,r2⟩:=gP vb
   subst e1
   subst e2
   have hx:xs≠[]:=fun z=>hl.1 (List.eq_nil_of_length_eq_zero (by rw [<-r1.length,z];rfl))
   refine xD pins s σ H _ _ v u Q I rx ry ⟨p,p2,xs,LK,rfl,rfl,bR rel.gh h1,bR rel.gh h2,hx,by rw [r1.length,r2.length];exact hl.2,fun z=>?_,fun z q hq=>?_⟩
   ·have:j=[]:=List.eq_nil_of_length_eq_zero (by rw [<-r2.length,z];rfl)
    subst this
    rw [List.append_nil] at k
    exact k _ H G fp .refl (rel.push va)
   ·obtain ⟨G',Ek,Ew⟩:=lY rel hq (r1.app r2)
    exact k _ _ G' _ Ew Ek
  ·cases e
 ·cases e
noncomputable def nI:D->D->Res R
 | .int i,.int j=>.ok (.f,.int (i - j))
 | _,_=>.bad
theorem ir:E2 X (binaryOp .Sub) (rG X.K nI):=by
 rintro pins s σ H x y v u Q I rx ry ⟨G,fp,es,vs,a,b,r,⟨rel,k⟩,va,vb,e⟩
 unfold nI at e
 split at e
 ·rename_i i j
  cases e
  cases bI va
  cases bI vb
  exact zZ pins s σ H _ _ v u Q I rx ry ⟨i,j,rfl,rfl,k _ H G fp .refl (rel.push (a8 _))⟩
 ·cases e
noncomputable def cB (i:Int):Bool:=decide (-(2 ^ 64) < i/\i < 2 ^ 64)
noncomputable def CF:D->D->Res R
 | .int i,.int j=>if cB i || cB j then .ok (.f,.int (i * j)) else .bad
 | _,_=>.bad
theorem Au:E2 X (binaryOp .Mult) (rG X.K CF):=by
 rintro pins s σ H x y v u Q I rx ry ⟨G,fp,es,vs,a,b,r,⟨rel,k⟩,va,vb,e⟩
 unfold CF at e
 split at e
 ·rename_i i j
  split at e
  ·rename_i hc
   cases e
   cases bI va
   cases bI vb
   have hc:CMul i j:=by
    rw [Bool.or_eq_true] at hc
    exact hc.imp of_decide_eq_true of_decide_eq_true
   exact z0 pins s σ H _ _ v u Q I rx ry ⟨i,j,rfl,rfl,hc,k _ H G fp .refl (rel.push (a8 _))⟩
  ·cases e
 ·cases e
noncomputable def gL:D->D->Res R
 | .int i,.int j=>if 0 < j/\j < 1073741824 then .ok (.f,.int (i / j)) else .bad
 | _,_=>.bad
theorem eh:E2 X (binaryOp .FloorDiv) (rG X.K gL):=by
 rintro pins s σ H x y v u Q I rx ry ⟨G,fp,es,vs,a,b,r,⟨rel,k⟩,va,vb,e⟩
 unfold gL at e
 split at e
 ·rename_i i j
  split at e
  ·rename_i hc
   cases e
   cases bI va
   cases bI vb
   exact xv pins s σ H _ _ v u Q I rx ry ⟨i,j,rfl,rfl,hc,k _ H G fp .refl (rel.push (a8 _))⟩
  ·cases e
 ·cases e
noncomputable def jc:D->D->Res R
 | .int i,.int j=>if 0 < j then .ok (.f,.int (i % j)) else .bad
 | _,_=>.bad
theorem dh:E2 X (binaryOp .Mod) (rG X.K jc):=by
 rintro pins s σ H x y v u Q I rx ry ⟨G,fp,es,vs,a,b,r,⟨rel,k⟩,va,vb,e⟩
 unfold jc at e
 split at e
 ·rename_i i j
  split at e
  ·rename_i hc
   cases e
   cases bI va
   cases bI vb
   exact z4 pins s σ H _ _ v u Q I rx ry ⟨i,j,rfl,rfl,hc,k _ H G fp .refl (rel.push (a8 _))⟩
  ·cases e
 ·cases e
noncomputable def zm:D->D->Res R
 | .int i,.int j=>if 0<=j/\j<=1000000/\i.natAbs < 2 ^ 64 then .ok (.f,.int (i ^ j.toNat)) else .bad
 | _,_=>.bad
theorem Av:E2 X (binaryOp .Pow) (rG X.K zm):=by
 rintro pins s σ H x y v u Q I rx ry ⟨G,fp,es,vs,a,b,r,⟨rel,k⟩,va,vb,e⟩
 unfold zm at e
 split at e
 ·rename_i i j
  split at e
  ·rename_i hc
   cases e
   cases bI va
   cases bI vb
   exact z5 pins s σ H _ _ v u Q I rx ry ⟨i,j,rfl,rfl,hc,k _ H G fp .refl (rel.push (a8 _))⟩
  ·cases e
 ·cases e
noncomputable def LG:D->D->Res R
 | .int i,.int j=>.ok (.f,.bl (decide (i < j)))
 | .str a,.str b=>.ok (.f,.bl (decide (a < b)))
 | _,_=>.bad
theorem CG:E2 X (compareOp .Lt) (rG X.K LG):=by
 rintro pins s σ H x y v u Q I rx ry ⟨G,fp,es,vs,a,b,r,⟨rel,k⟩,va,vb,e⟩
 unfold LG at e
 split at e
 ·rename_i i j
  cases e
  cases bI va
  cases bI vb
  exact Cd pins s σ H _ _ v u Q I rx ry ⟨i,j,rfl,rfl,k _ H G fp .refl (rel.push (cz _))⟩
 ·rename_i i j
  cases e
  obtain ⟨e1,h1⟩:=eK va
  obtain ⟨e2,h2⟩:=eK vb
  subst e1
  subst e2
  refine rY pins s σ H _ _ v u Q I rx ry ⟨_,_,rfl,rfl,?_⟩
  rw [dB,dB]
  exact k _ H G fp .refl (rel.push (cz _))
 ·cases e
noncomputable def leD:D->D->Res R
 | .int i,.int j=>.ok (.f,.bl (decide (i<=j)))
 | .str a,.str b=>.ok (.f,.bl (!decide (b < a)))
 | _,_=>.bad
noncomputable def Nb:D->D->Res R
 | .int i,.int j=>.ok (.f,.bl (decide (j < i)))
 | _,_=>.bad
theorem CH:E2 X (compareOp .Gt) (rG X.K Nb):=by
 rintro pins s σ H x y v u Q I rx ry ⟨G,fp,es,vs,a,b,r,⟨rel,k⟩,va,vb,e⟩
 unfold Nb at e
 split at e
 ·rename_i i j
  cases e
  cases bI va
  cases bI vb
  exact Ce pins s σ H _ _ v u Q I rx ry ⟨i,j,rfl,rfl,k _ H G fp .refl (rel.push (cz _))⟩
 ·cases e
noncomputable def NZ:D->D->Res R
 | .int i,.int j=>.ok (.f,.bl (decide (j<=i)))
 | _,_=>.bad
theorem CI:E2 X (compareOp .GtE) (rG X.K NZ):=by
 rintro pins s σ H x y v u Q I rx ry ⟨G,fp,es,vs,a,b,r,⟨rel,k⟩,va,vb,e⟩
 unfold NZ at e
 split at e
 ·rename_i i j
  cases e
  cases bI va
  cases bI vb
  exact Cf pins s σ H _ _ v u Q I rx ry ⟨i,j,rfl,rfl,k _ H G fp .refl (rel.push (cz _))⟩
 ·cases e
end
abbrev FDs:=PV.Env->Res (List D×PV.Env)
inductive tDs (K:W.Frag) (f:FDs) (σ:L2.St) (H:Hp) (Q:List V->Hp->Prop):Prop
 | mk:∀ G env fp ds env',Rel K G H env σ fp->f env=.ok (ds,env')->(∀ vs H' G' Et,Step G H fp G' H' Et->Rel K G' H' env' σ Et->Reps K G' ds vs->Q vs H')->tDs K f σ H Q
def Mb (X:Cx) (es:List Expr) (f:FDs):Prop:=PA X es (tDs X.K f)
noncomputable def bP:FDs:=fun env=>.ok ([],env)
noncomputable def aI (f:FX) (g:FDs):FDs:=fun env=>(f env).bind fun p=>(g p.2).bind fun q=>.ok (p.1.2 :: q.1,q.2)
section
variable {X:Cx}
theorem aS:Mb X [] bP:=p7 k7 fun σ H Q EA=>by
 obtain ⟨G,env,fp,o,env',rel,e,k⟩:=EA
 cases e
 exact k [] H G fp .refl rel .nil
theorem aD {e:Expr} {es:List Expr} {f:FX} {g:FDs} (h:QE X e f) (hs:Mb X es g) (Ja:starEach (e :: es) X.env=(false,eval e X.env) :: starEach es X.env:=by rfl):Mb X (e :: es) (aI f g):=
 p7 (eZ h hs Ja) fun σ H Q EA=>by
  obtain ⟨G,env,fp,o,env',rel,e,k⟩:=EA
  obtain ⟨⟨r,Ej⟩,e1,e⟩:=ar e
  obtain ⟨⟨ds,Ep⟩,e2,e⟩:=ar e
  cases e
  refine ⟨G,env,fp,r,Ej,rel,e1,fun v H1 G1 EH EC Eo=>?_⟩
  obtain ⟨G2,b,rv,Ek,Ew⟩:=Eo.freeze
  exact ⟨G2,Ej,b,ds,Ep,Ek,e2,fun vs H3 G3 G0 EX EK rs=>k _ H3 G3 G0 (EC.trans (Ew.trans EX)) EK (.cons (Rep.mono EX.gg rv) rs)⟩
noncomputable def jz (fs:FDs):FX:=fun env=>(fs env).bind fun p=>if p.1.length<=1000 then .ok ((.f,.tup p.1),p.2) else .bad
noncomputable def lZ (fs:FDs):FX:=fun env=>(fs env).bind fun p=>if p.1.length<=1000 then .ok ((.l .f,.lst p.1),p.2) else .bad
variable {es:List Expr} {fs:FDs} {pos:Pos}
theorem di {x1} (h:Mb X es fs):QE X (.Tuple es x1 pos) (jz fs):=bU (wq h) fun σ H Q EA=>by
 obtain ⟨G,env,fp,r,env',rel,e,k⟩:=EA
 obtain ⟨⟨ds,Ej⟩,e1,e⟩:=ar e
 dsimp only at e
 split at e
 ·rename_i hl
  cases e
  refine ⟨G,env,fp,ds,env',rel,e1,fun vs H1 G1 EH EC Eo rs=>⟨by rw [rs.length,line_eq];lia,fun p hp=>?_⟩⟩
  obtain ⟨G2,Ek,Ew⟩:=lY Eo hp rs
  exact k _ _ G2 _ (EC.trans Ew) Ek
 ·cases e
theorem d7 (h:Mb X es fs):QE X (.List es pos) (lZ fs):=bU (z6 h) fun σ H Q EA=>by
 obtain ⟨G,env,fp,r,env',rel,e,k⟩:=EA
 obtain ⟨⟨ds,Ej⟩,e1,e⟩:=ar e
 dsimp only at e
 split at e
 ·rename_i hl
  cases e
  refine ⟨G,env,fp,ds,env',rel,e1,fun vs H1 G1 EH EC Eo rs=>⟨by rw [rs.length,line_eq];lia,fun p hp=>?_⟩⟩
  obtain ⟨Ek,Ew⟩:=Eo.newL hp rs
  exact k _ _ G1 _ (EC.trans Ew) Ek
 ·cases e
noncomputable def Eu:D->D->Res R
 | .lst ds,.int i=>match E6 ds i with
  | some d=>.ok (.f,d)
  | none=>.bad
 | .tup ds,.int i=>match E6 ds i with
  | some d=>.ok (.f,d)
  | none=>.bad
 | .str l,.int i=>match E6 l i with
  | some c=>.ok (.f,.str [c])
  | none=>.bad
 | _,_=>.bad
theorem qg {K:W.Frag} {G:Hp} {ds:List D} {xs:List V} {i:Int} {d:D} (r:Reps K G ds xs) (e:E6 ds i=some d):∃ v,E6 xs i=some v/\Rep K G d v:=by
 unfold E6 at e ⊢
 rw [r.length]
 cases hn:ixN ds.length i with
 | none=>rw [hn] at e;cases e
 | some j=>
  rw [hn] at e
  exact r.get e
theorem CJ:LU X (rG X.K Eu):=by
 rintro value slice pins s σ H x y v u Q I rx ry ⟨G,fp,es,vs,a,b,r,⟨rel,k⟩,va,vb,e⟩ hs
 unfold Eu at e
 split at e
 ·rename_i ds i
  split at e
  ·rename_i d hd
   cases e
   obtain ⟨p,xs,ev,sq,rs⟩:=va
   subst ev
   cases bI vb
   obtain ⟨w',hw,IQ⟩:=qg rs hd
   exact xE value slice pins s σ H _ _ v u Q I rx ry ⟨p,xs,i,w',rfl,rfl,sq,hw,k _ H G fp .refl (rel.push IQ)⟩ hs
  ·cases e
 ·rename_i ds i
  split at e
  ·rename_i d hd
   cases e
   obtain ⟨p,xs,ev,sq,rs⟩:=gP va
   subst ev
   cases bI vb
   obtain ⟨w',hw,IQ⟩:=qg rs hd
   exact z9 value slice pins s σ H _ _ v u Q I rx ry ⟨p,xs,i,w',rfl,rfl,bR rel.gh sq,hw,k _ H G fp .refl (rel.push IQ)⟩ hs
  ·cases e
 ·rename_i l i
  split at e
  ·rename_i c hc
   cases e
   obtain ⟨ev,hl⟩:=eK va
   subst ev
   cases bI vb
   refine Aa value slice pins s σ H _ _ v u Q I rx ry ⟨_,i,c,rfl,rfl,by rw [kP];exact hl,by rw [dB];exact hc,?_⟩ hs
   exact k _ H G fp .refl (rel.push (g6 (l:=[c]) (by rw [line_eq];simp)))
  ·cases e
 ·cases e
variable {a b:Expr} {fa fb:FO}
theorem aG (ha:QO X a fa) (hb:QO X b fb) (hs:sr b:=by exact fun _ _=>rfl):QE X (.Subscript a b pos) (az Eu fa fb):=bU (Cn CJ ha hb hs) fun _ _ _=>sY
abbrev FP:=PV.Env->Res (Option Int×PV.Env)
inductive tQP (K:W.Frag) (f:FP) (σ:L2.St) (H:Hp) (Q:Option Int->Hp->Prop):Prop
 | mk:∀ G env fp i env',Rel K G H env σ fp->f env=.ok (i,env')->(∀ H' G' Et,Step G H fp G' H' Et->Rel K G' H' env' σ Et->Q i H')->tQP K f σ H Q
def QP (X:Cx) (e:Option Expr) (f:FP):Prop:=PO X e (tQP X.K f)
noncomputable def vN:FP:=fun env=>.ok (none,env)
noncomputable def l5 (f:FX):FP:=fun env=>(f env).bind fun p=>match p.1.2 with
 | .int i=>.ok (some i,p.2)
 | _=>.bad
theorem wQ {X:Cx} {e:Option Expr} {t t':TO} (h:PO X e t) (k:∀ σ H Q,t' σ H Q->t σ H Q):PO X e t':=fun pins s σ H Q I w=>h pins s σ H Q I (k σ H Q w)
theorem tF:QP X none vN:=wQ xB fun σ H Q EA=>by
 obtain ⟨G,env,fp,i,env',rel,e,k⟩:=EA
 cases e
 exact k H G fp .refl rel
theorem g7 {e:Expr} {f:FX} (h:QE X e f):QP X (some e) (l5 f):=wQ (xC h) fun σ H Q EA=>by
 obtain ⟨G,env,fp,i,env',rel,e,k⟩:=EA
 obtain ⟨⟨⟨o,d⟩,Ej⟩,e1,e⟩:=ar e
 dsimp only at e
 split at e
 ·rename_i j
  cases e
  refine ⟨G,env,fp,_,_,rel,e1,fun v H1 G1 EH EC Eo=>?_⟩
  have hv:=Eo.top
  obtain ⟨b,Ek,Ew⟩:=Eo.drop
  exact ⟨j,bG hv,k H1 G1 b (EC.trans Ew) Ek⟩
 ·cases e
noncomputable def jA {α:Type} (xs:List α) (lo hi:Option Int):List α:=(xs.drop (HT.sIx xs.length 0 lo)).take (HT.sIx xs.length xs.length hi - HT.sIx xs.length 0 lo)
noncomputable def Mc (k:D) (lo hi:Option Int):Res R:=match k with
 | .lst ds=>.ok (.l .f,.lst (jA ds lo hi))
 | .tup ds=>if ¬ (HT.sIx ds.length 0 lo=0/\HT.sIx ds.length ds.length hi=ds.length) then .ok (.f,.tup (jA ds lo hi)) else .bad
 | .str l=>.ok (.f,.str (jA l lo hi))
 | _=>.bad
noncomputable def eSl (fa:FO) (lo hi:FP):FX:=fun env=>(fa env).bind fun p=>(lo p.2).bind fun q=>(hi q.2).bind fun t=>(EU t.2 p.1).bind fun d=>(Mc d q.1 t.1).bind fun r=>.ok (r,t.2)
theorem qh {K:W.Frag} {G:Hp} {ds:List D} {xs:List V} {lo hi:Option Int} (r:Reps K G ds xs):Reps K G (jA ds lo hi) (wx xs lo hi):=by
 unfold jA wx
 rw [r.length]
 exact (r.drop _).take _
theorem yf {α:Type} (xs:List α) (lo hi:Option Int):(jA xs lo hi).length<=xs.length:=by
 unfold jA
 rw [List.length_take,List.length_drop]
 lia
inductive rSl (K:W.Frag) (x:V) (lo:Option Int) (hi:Option Int) (H:Hp) (Q:VK):Prop
 | mk:∀ G fp es vs d r,Goes K H G fp es vs r Q->Vw K G H d x->Mc d lo hi=.ok r->rSl K x lo hi H Q
theorem Aw:KY X (rSl X.K):=by
 rintro pins s σ H x v vl vu lo hi sl Q I rx hs pl pu ⟨G,fp,es,vs,d,r,⟨rel,k⟩,vd,e⟩
 unfold Mc at e
 split at e
 ·rename_i ds
  cases e
  obtain ⟨p,xs,ev,sq,rs⟩:=vd
  subst ev
  refine xF pins s σ H _ v vl vu lo hi sl Q I rx hs pl pu ⟨p,xs,rfl,sq,fun q hq=>?_⟩
  obtain ⟨Ek,Ew⟩:=rel.newL hq (qh (lo:=lo) (hi:=hi) rs)
  exact k _ _ G _ Ew Ek
 ·rename_i ds
  split at e
  ·rename_i hw
   cases e
   obtain ⟨p,xs,ev,sq,rs⟩:=gP vd
   subst ev
   refine z8 pins s σ H _ v vl vu lo hi sl Q I rx hs pl pu ⟨p,xs,rfl,bR rel.gh sq,by rw [rs.length];exact hw,fun q hq=>?_⟩
   obtain ⟨G2,Ek,Ew⟩:=lY rel hq (qh (lo:=lo) (hi:=hi) rs)
   exact k _ _ G2 _ Ew Ek
  ·cases e
 ·rename_i l
  cases e
  obtain ⟨ev,hl⟩:=eK vd
  subst ev
  exact Af pins s σ H _ v vl vu lo hi sl Q I rx hs pl pu ⟨l,rfl,hl,k _ H G fp .refl (rel.push (g6 (l:=Ae l lo hi) (Nat.le_trans (yf l lo hi) hl)))⟩
 ·cases e
noncomputable def tG (env:PV.Env) (i:Nat):Bool:=match env[i]? with
 | some (some (_,.lst _))=>true
 | _=>false
theorem vO {K:W.Frag} {G H:Hp} {es:PV.Env} {σ:L2.St} {fp:List Addr} {i:Nat} (rel:Rel K G H es σ fp) (h:tG es i=true):∃ v,σ[i]?=some (some v)/\NC K "list" v H:=by
 unfold tG at h
 split at h
 ·rename_i o ds hr
  obtain ⟨v,ev,rv⟩:=rel.view hr
  obtain ⟨p,xs,e,sq,_⟩:=bH rv
  subst e
  exact ⟨_,ev,.inl ⟨rfl,xs,sq⟩⟩
 ·cases h
noncomputable def qi (i:Nat) (f:FX):FX:=fun env=>if tG env i then (f env).bind fun p=>match p.2[i]? with
 | some (some (.l .f,.lst ds))=>if ds.length < sizeLine then .ok ((.f,.non),p.2.set i (some (.l .f,.lst (ds++[p.1.2])))) else .bad
 | _=>.bad
 else .bad
theorem cn {i:Nat} {o e:Expr} {f:FX} {apos EG:Pos} (ho:PE X o (uV i)) (he:QE X e f)
  (Fz:attributeBase o "append" X.env (eval o X.env)=eval o X.env:=by rfl)
  (GL:((backTo EG (starEach [e] X.env)).all (fun x=>!x.1) && (backToKw EG (keywordEach [] X.env)).all (fun x=>x.1.isSome) && decide ([e].length + ([]:List Keyword).length + (if ([]:List Keyword).isEmpty then 0 else 1) < 30))=true:=by rfl)
  (FA:(apos.endLine == EG.line)=true:=by rfl) (hs:starEach [e] X.env=(false,eval e X.env) :: starEach [] X.env:=by rfl) (E7:(backTo EG (starEach [] X.env)).any (·.1)=false:=by rfl) :
  QE X (.Call (.Attribute o "append" apos) [e] [] EG) (qi i f):=by
 refine bU (xG PySem.F.plainAttrs_list PySem.F.slot_list_append PySem.F.type_list_append mX ho (aD he aS hs) Fz GL FA hs E7) fun σ H Q EE=>?_
 obtain ⟨G,env,fp,r,env',rel,e,k⟩:=EE
 unfold qi at e
 split at e
 ·rename_i hil
  obtain ⟨v,ev,ty⟩:=vO rel hil
  obtain ⟨⟨r1,Ej⟩,e1,e⟩:=ar e
  dsimp only at e
  split at e
  ·rename_i ds KW
   split at e
   ·rename_i hl
    cases e
    refine ⟨v,ev,ty,G,env,fp,[r1.2],Ej,rel,by show (f env).bind _=_;rw [e1];rfl,fun vs H1 G1 EH EC Eo rs=>?_⟩
    rw [Reps] at rs
    obtain ⟨y,ys,eys,ry,rn⟩:=rs
    rw [Reps] at rn
    subst rn
    obtain ⟨p,xs,ep,hp,Md,cg⟩:=Eo.chg (ds':=ds++[r1.2]) KW
    rw [ev] at ep
    cases ep
    obtain ⟨fq,Ek,Ew⟩:=cg (xs++[y]) (Md.app (.one ry))
    exact ⟨p,xs,y,rfl,eys,hp,by rw [Md.length];exact hl,k _ _ G1 fq (EC.trans Ew) (Ek.push o4)⟩
   ·cases e
  ·cases e
 ·cases e
noncomputable def CK:List D->Res R
 | [.lst ds]=>.ok (.f,.int ds.length)
 | [.tup ds]=>.ok (.f,.int ds.length)
 | [.str l]=>.ok (.f,.int l.length)
 | _=>.bad
theorem kO {K:W.Frag} {G H:Hp} {d:D} {xs:List V} (h:KG K G H [d] xs):∃ v,xs=[v]/\Vw K G H d v:=by
 obtain ⟨y,ys,e,v1,e2⟩:=h
 have e2:ys=[]:=e2
 subst e2
 exact ⟨y,e,v1⟩
theorem Du {K:W.Frag} {G H:Hp} {d d':D} {xs:List V} (h:KG K G H [d,d'] xs):∃ v w,xs=[v,w]/\Vw K G H d v/\Vw K G H d' w:=by
 obtain ⟨y,ys,e,v1,h2⟩:=h
 obtain ⟨z,e2,v2⟩:=kO h2
 subst e2
 exact ⟨y,z,e,v1,v2⟩
theorem Ax:cW X (.builtin "len") (rC X.K CK):=by
 rintro pins s σ H xs us Q I rx ⟨G,fp,es,vs,ds,r,⟨rel,k⟩,vd,e⟩
 unfold CK at e
 split at e
 ·rename_i ds
  cases e
  obtain ⟨v,ev,p,ys,ep,sq,rs⟩:=kO vd
  subst ev
  subst ep
  refine i9 pins s σ H _ us Q I rx ⟨p,ys,rfl,.inl sq,?_⟩
  rw [rs.length]
  exact k _ H G fp .refl (rel.push (a8 _))
 ·rename_i ds
  cases e
  obtain ⟨v,ev,vt⟩:=kO vd
  obtain ⟨p,ys,ep,sq,rs⟩:=gP vt
  subst ev
  subst ep
  refine i9 pins s σ H _ us Q I rx ⟨p,ys,rfl,.inr (bR rel.gh sq),?_⟩
  rw [rs.length]
  exact k _ H G fp .refl (rel.push (a8 _))
 ·rename_i l
  cases e
  obtain ⟨v,ev,vt⟩:=kO vd
  obtain ⟨ep,hl⟩:=eK vt
  subst ev
  subst ep
  refine mV pins s σ H _ us Q I rx ⟨S l,rfl,by rw [kP];exact hl,?_⟩
  rw [kP]
  exact k _ H G fp .refl (rel.push (a8 _))
 ·cases e
noncomputable def tH:List D->Res R
 | [.lst ds]=>.ok (.l .f,.lst ds)
 | [.tup ds]=>.ok (.l .f,.lst ds)
 | _=>.bad
theorem tI:cW X (.type "list") (rC X.K tH):=by
 rintro pins s σ H xs us Q I rx ⟨G,fp,es,vs,ds,r,⟨rel,k⟩,vd,e⟩
 unfold tH at e
 split at e
 ·rename_i ds
  cases e
  obtain ⟨v,ev,p,ys,ep,sq,rs⟩:=kO vd
  subst ev
  subst ep
  refine ja pins s σ H _ us Q I rx ⟨p,ys,rfl,.inl sq,fun q hq=>?_⟩
  obtain ⟨Ek,Ew⟩:=rel.newL hq rs
  exact k _ _ G _ Ew Ek
 ·rename_i ds
  cases e
  obtain ⟨v,ev,vt⟩:=kO vd
  obtain ⟨p,ys,ep,sq,rs⟩:=gP vt
  subst ev
  subst ep
  refine ja pins s σ H _ us Q I rx ⟨p,ys,rfl,.inr (bR rel.gh sq),fun q hq=>?_⟩
  obtain ⟨Ek,Ew⟩:=rel.newL hq rs
  exact k _ _ G _ Ew Ek
 ·cases e
noncomputable def cE:List D->Res R
 | [.lst ds]=>.ok (.f,.tup ds)
 | [.tup ds]=>.ok (.f,.tup ds)
 | _=>.bad
theorem bS:cW X (.type "tuple") (rC X.K cE):=by
 rintro pins s σ H xs us Q I rx ⟨G,fp,es,vs,ds,r,⟨rel,k⟩,vd,e⟩
 unfold cE at e
 split at e
 ·rename_i ds
  cases e
  obtain ⟨v,ev,p,ys,ep,sq,rs⟩:=kO vd
  subst ev
  subst ep
  refine ic pins s σ H _ us Q I rx ⟨p,ys,rfl,.inl ⟨sq,fun q hq=>?_⟩⟩
  obtain ⟨G2,Ek,Ew⟩:=lY rel hq rs
  exact k _ _ G2 _ Ew Ek
 ·rename_i ds
  cases e
  obtain ⟨v,ev,vt⟩:=kO vd
  obtain ⟨p,ys,ep,sq,rs⟩:=gP vt
  subst ev
  subst ep
  exact ic pins s σ H _ us Q I rx ⟨p,ys,rfl,.inr ⟨bR rel.gh sq,k _ H G fp .refl (rel.push vt)⟩⟩
 ·cases e
noncomputable def kU:List D->Option (List Bool)
 | []=>some []
 | .bl b :: ds=>(kU ds).map (b :: ·)
 | _=>none
noncomputable def cF:List D->Option (List Int)
 | []=>some []
 | .int b :: ds=>(cF ds).map (b :: ·)
 | _=>none
theorem iU {K:W.Frag} {G:Hp}:∀ {ds:List D} {bs:List Bool} {xs:List V},kU ds=some bs->Reps K G ds xs->xs=bs.map V.bl
 | [],_,_,e,r=>by
  cases e
  rw [Reps] at r
  exact r
 | .bl b :: ds,_,_,e,r=>by
  rw [kU,Option.map_eq_some_iff] at e
  obtain ⟨bs,e1,e2⟩:=e
  subst e2
  rw [Reps] at r
  obtain ⟨y,ys,e3,r1,r2⟩:=r
  rw [e3,cX r1,iU e1 r2]
  rfl
 | .non :: _,_,_,e,_ | .int _ :: _,_,_,e,_ | .str _ :: _,_,_,e,_ | .tup _ :: _,_,_,e,_ | .lst _ :: _,_,_,e,_ | .dct _ _ _ :: _,_,_,e,_=>by simp [kU] at e
theorem g8 {K:W.Frag} {G:Hp}:∀ {ds:List D} {bs:List Int} {xs:List V},cF ds=some bs->Reps K G ds xs->xs=bs.map V.int
 | [],_,_,e,r=>by
  cases e
  rw [Reps] at r
  exact r
 | .int b :: ds,_,_,e,r=>by
  rw [cF,Option.map_eq_some_iff] at e
  obtain ⟨bs,e1,e2⟩:=e
  subst e2
  rw [Reps] at r
  obtain ⟨y,ys,e3,r1,r2⟩:=r
  rw [e3,bG r1,g8 e1 r2]
  rfl
 | .non :: _,_,_,e,_ | .bl _ :: _,_,_,e,_ | .str _ :: _,_,_,e,_ | .tup _ :: _,_,_,e,_ | .lst _ :: _,_,_,e,_ | .dct _ _ _ :: _,_,_,e,_=>by simp [cF] at e
theorem iV (ns:List Int):cF (ns.map D.int)=some ns:=by
 induction ns with
 | nil=>rfl
 | cons n ns ih=>rw [List.map_cons,cF,ih];rfl
theorem nJ (ns:List Bool):kU (ns.map D.bl)=some ns:=by
 induction ns with
 | nil=>rfl
 | cons n ns ih=>rw [List.map_cons,kU,ih];rfl
noncomputable def jX:D->Option (List D)
 | .lst ds=>some ds
 | .tup ds=>some ds
 | _=>none
theorem o5 {K:W.Frag} {G H:Hp} {d:D} {ds:List D} {v:V} (gh:Same G H) (e:jX d=some ds) (h:Vw K G H d v):∃ p xs,v=.ref p/\(SqL K H p xs\/SqT K H p xs)/\Reps K G ds xs:=by
 cases d with
 | lst es=>
  cases e
  obtain ⟨p,xs,ev,sq,rs⟩:=h
  exact ⟨p,xs,ev,.inl sq,rs⟩
 | tup es=>
  cases e
  obtain ⟨p,xs,ev,sq,rs⟩:=br h
  exact ⟨p,xs,ev,.inr (bR gh sq),rs⟩
 | _=>cases e
noncomputable def Ay:List D->Res R
 | [d]=>match (jX d).bind kU with
  | some bs=>.ok (.f,.bl (bs.all id))
  | none=>.bad
 | _=>.bad
noncomputable def zo:List D->Res R
 | [d]=>match (jX d).bind kU with
  | some bs=>.ok (.f,.bl (bs.any id))
  | none=>.bad
 | _=>.bad
theorem qj (bs:List Bool):(bs.map V.bl).all BW=true:=by
 rw [List.all_map,List.all_eq_true]
 intro b _
 rfl
theorem yg (bs:List Bool):(bs.map V.bl).all wC=bs.all id:=by
 rw [List.all_map]
 rfl
theorem yh (bs:List Bool):(bs.map V.bl).any wC=bs.any id:=by
 rw [List.any_map]
 rfl
theorem Az (hc:X.calm=true):cW X (.builtin "all") (rC X.K Ay):=by
 rintro pins s σ H xs us Q I rx ⟨G,fp,es,vs,ds,r,⟨rel,k⟩,vd,e⟩
 unfold Ay at e
 split at e
 ·rename_i d
  split at e
  ·rename_i bs hb
   cases e
   obtain ⟨l,hl,hb⟩:=Option.bind_eq_some_iff.mp hb
   obtain ⟨v,ev,vt⟩:=kO vd
   obtain ⟨p,ys,ep,sq,rs⟩:=o5 rel.gh hl vt
   have:=iU hb rs
   subst this
   subst ev
   subst ep
   refine vy hc pins s σ H _ us Q I rx ⟨p,_,rfl,sq,qj bs,?_⟩
   rw [yg]
   exact k _ H G fp .refl (rel.push (cz _))
  ·cases e
 ·cases e
theorem wR (hc:X.calm=true):cW X (.builtin "any") (rC X.K zo):=by
 rintro pins s σ H xs us Q I rx ⟨G,fp,es,vs,ds,r,⟨rel,k⟩,vd,e⟩
 unfold zo at e
 split at e
 ·rename_i d
  split at e
  ·rename_i bs hb
   cases e
   obtain ⟨l,hl,hb⟩:=Option.bind_eq_some_iff.mp hb
   obtain ⟨v,ev,vt⟩:=kO vd
   obtain ⟨p,ys,ep,sq,rs⟩:=o5 rel.gh hl vt
   have:=iU hb rs
   subst this
   subst ev
   subst ep
   refine vz hc pins s σ H _ us Q I rx ⟨p,_,rfl,sq,qj bs,?_⟩
   rw [yh]
   exact k _ H G fp .refl (rel.push (cz _))
  ·cases e
 ·cases e
noncomputable def AA:List D->Res R
 | [d]=>match (jX d).bind cF with
  | some ns=>.ok (.f,.int ns.sum)
  | none=>.bad
 | _=>.bad
noncomputable def maxD:List D->Res R
 | [d]=>match (jX d).bind cF with
  | some (n :: ns)=>.ok (.f,.int (m9 (n :: ns)))
  | _=>.bad
 | [.int i,.int j]=>.ok (.f,.int (if i < j then j else i))
 | _=>.bad
noncomputable def minD:List D->Res R
 | [d]=>match (jX d).bind cF with
  | some (n :: ns)=>.ok (.f,.int (dO (n :: ns)))
  | _=>.bad
 | _=>.bad
theorem fU {K:W.Frag} {G H:Hp} {d:D} {ns:List Int} {v:V} (gh:Same G H) (hb:(jX d).bind cF=some ns) (vt:Vw K G H d v):∃ p,v=.ref p/\(SqL K H p (ns.map V.int)\/SqT K H p (ns.map V.int)):=by
 obtain ⟨l,hl,hb⟩:=Option.bind_eq_some_iff.mp hb
 obtain ⟨p,ys,ep,sq,rs⟩:=o5 gh hl vt
 have:=g8 hb rs
 subst this
 exact ⟨p,ep,sq⟩
theorem AB (hc:X.calm=true):cW X (.builtin "sum") (rC X.K AA):=by
 rintro pins s σ H xs us Q I rx ⟨G,fp,es,vs,ds,r,⟨rel,k⟩,vd,e⟩
 unfold AA at e
 split at e
 ·rename_i d
  split at e
  ·rename_i ns hb
   cases e
   obtain ⟨v,ev,vt⟩:=kO vd
   obtain ⟨p,ep,sq⟩:=fU rel.gh hb vt
   subst ev
   subst ep
   exact sN hc pins s σ H _ us Q I rx ⟨p,ns,rfl,sq,k _ H G fp .refl (rel.push (a8 _))⟩
  ·cases e
 ·cases e
end
mutual
noncomputable def Er:D->D->Bool
 | .non,.non=>true
 | .bl a,.bl b=>a == b
 | .bl a,.int j=>(if a then 1 else 0) == j
 | .int i,.bl b=>i == (if b then 1 else 0)
 | .int i,.int j=>i == j
 | .str a,.str b=>a == b
 | .tup a,.tup b=>iW a b
 | .lst a,.lst b=>iW a b
 | _,_=>false
noncomputable def iW:List D->List D->Bool
 | [],[]=>true
 | a :: as,b :: bs=>Er a b && iW as bs
 | _,_=>false
end
mutual
noncomputable def plainD:Nat->D->Bool
 | n + 1,.tup ds=>plainDs n ds
 | n + 1,.lst ds=>plainDs n ds
 | 0,.tup _=>false
 | 0,.lst _=>false
 | _,.dct _ _ _=>false
 | _,_=>true
noncomputable def plainDs:Nat->List D->Bool
 | _,[]=>true
 | n,d :: ds=>plainD n d && plainDs n ds
end
theorem plainDs_mem:∀ {n:Nat} {ds:List D},plainDs n ds=true->∀ {i:Nat} {d:D},ds[i]?=some d->plainD n d=true
 | _,[],_,_,_,e=>by simp at e
 | n,a :: ds,h,0,d,e=>by
  rw [plainDs,Bool.and_eq_true] at h
  simp at e
  rw [<-e]
  exact h.1
 | n,a :: ds,h,i + 1,d,e=>by
  rw [plainDs,Bool.and_eq_true] at h
  exact plainDs_mem h.2 (i:=i) (by simpa using e)
theorem iu:∀ {a b:List D},a.length≠b.length->iW a b=false
 | [],[],h=>absurd rfl h
 | [],_ :: _,_=>by simp only [iW]
 | _ :: _,[],_=>by simp only [iW]
 | x :: xs,y :: ys,h=>by
  rw [iW,iu (fun e=>h (by simp [e])),Bool.and_false]
theorem eL:∀ {a b:List D},a.length=b.length->(List.range a.length).all (fun j=>Er (a.getD j .non) (b.getD j .non))=iW a b
 | [],[],_=>rfl
 | [],_ :: _,h=>by simp at h
 | _ :: _,[],h=>by simp at h
 | x :: xs,y :: ys,h=>by
  rw [iW,<-eL (a:=xs) (b:=ys) (by simpa using h),List.length_cons,List.range_succ_eq_map,List.all_cons,List.all_map]
  rfl
section
variable {X:Cx} {pins:List (Addr×Obj)} {σ:L2.St} {H:Hp} {s:Shared}
theorem jY (I:Inv X pins σ H s) {p:Addr} {xs ys:List V} (h:SqL X.K H p xs) (h':SqT X.K H p ys):False:=by
 obtain ⟨us,_,p1,_⟩:=I.list h
 obtain ⟨ws,_,p2,_⟩:=I.tuple h'
 exact SeqAt.ne_of_list_tuple p1.isList (show s.heap.IsTuple p ws.toArray from p2) rfl
mutual
theorem jZ (I:Inv X pins σ H s):∀ (d e:D) (x:V) (n:Nat),plainD n d=true->Rep X.K H d x->Rep X.K H e x->d=e
 | .non,e,x,n,_,r,q=>by
  cases cb r
  cases e with
  | non=>rfl
  | bl b=>cases cX q
  | int i=>cases bG q
  | str l=>cases (bx q).1
  | tup l=>obtain ⟨p,xs,ev,_⟩:=br q;cases ev
  | lst l=>obtain ⟨p,xs,ev,_⟩:=bH q;cases ev
  | dct tk ks vs=>rw [Rep] at q;obtain ⟨p,xs,o,ev,_⟩:=q;cases ev
 | .bl b,e,x,n,_,r,q=>by
  cases cX r
  cases e with
  | non=>cases cb q
  | bl b=>cases cX q;rfl
  | int i=>cases bG q
  | str l=>cases (bx q).1
  | tup l=>obtain ⟨p,xs,ev,_⟩:=br q;cases ev
  | lst l=>obtain ⟨p,xs,ev,_⟩:=bH q;cases ev
  | dct tk ks vs=>rw [Rep] at q;obtain ⟨p,xs,o,ev,_⟩:=q;cases ev
 | .int i,e,x,n,_,r,q=>by
  cases bG r
  cases e with
  | non=>cases cb q
  | bl b=>cases cX q
  | int i=>cases bG q;rfl
  | str l=>cases (bx q).1
  | tup l=>obtain ⟨p,xs,ev,_⟩:=br q;cases ev
  | lst l=>obtain ⟨p,xs,ev,_⟩:=bH q;cases ev
  | dct tk ks vs=>rw [Rep] at q;obtain ⟨p,xs,o,ev,_⟩:=q;cases ev
 | .str l,e,x,n,_,r,q=>by
  have hr:=(bx r).1
  subst hr
  cases e with
  | non=>cases cb q
  | bl b=>cases cX q
  | int i=>cases bG q
  | str l'=>
   have hq:=(bx q).1
   injection hq with hq
   rw [S_inj hq]
  | tup l=>obtain ⟨p,xs,ev,_⟩:=br q;cases ev
  | lst l=>obtain ⟨p,xs,ev,_⟩:=bH q;cases ev
  | dct tk ks vs=>rw [Rep] at q;obtain ⟨p,xs,o,ev,_⟩:=q;cases ev
 | .tup l,e,x,n,h,r,q=>by
  obtain ⟨p,xs,ev,sq,rs⟩:=br r
  subst ev
  cases e with
  | non=>cases cb q
  | bl b=>cases cX q
  | int i=>cases bG q
  | str l=>cases (bx q).1
  | tup l'=>
   obtain ⟨p',Gb,Gr,FU,GD⟩:=br q
   cases Gr
   have:=I.tuple_inj sq FU
   subst this
   cases n with
   | zero=>simp only [plainD] at h;cases h
   | succ n=>
    simp only [plainD] at h
    rw [l6 I l l' xs n h rs GD]
  | lst l'=>
   obtain ⟨p',Gb,Gr,FU,GD⟩:=bH q
   cases Gr
   exact (jY I FU sq).elim
  | dct tk ks vs=>
   exfalso
   rw [Rep] at q
   obtain ⟨p',Gb,o,Gr,rd,dd,_⟩:=q
   cases Gr
   obtain ⟨El,_,ip,_⟩:=I.tuple sq
   obtain ⟨ob,ho,hc,_⟩:=ip
   have Me:=rd.ok I.hok
   cases tk with
   | true=>
    obtain ⟨Em,eo,_⟩:=dd
    subst eo
    obtain ⟨_,_,_,_,o2,_,_,FW,ex,_⟩:=Me
    rw [ho] at FW
    cases FW
    rw [ex.1] at hc
    exact absurd hc (by decide)
   | false=>
    obtain ⟨Em,eo,_⟩:=dd
    subst eo
    obtain ⟨_,_,_,_,o2,_,_,FW,ex,_⟩:=Me
    rw [ho] at FW
    cases FW
    rw [ex.1] at hc
    exact absurd hc (by decide)
 | .lst l,e,x,n,h,r,q=>by
  obtain ⟨p,xs,ev,sq,rs⟩:=bH r
  subst ev
  cases e with
  | non=>cases cb q
  | bl b=>cases cX q
  | int i=>cases bG q
  | str l=>cases (bx q).1
  | tup l'=>
   obtain ⟨p',Gb,Gr,FU,GD⟩:=br q
   cases Gr
   exact (jY I sq FU).elim
  | lst l'=>
   obtain ⟨p',Gb,Gr,FU,GD⟩:=bH q
   cases Gr
   have:=I.list_inj sq FU
   subst this
   cases n with
   | zero=>simp only [plainD] at h;cases h
   | succ n=>
    simp only [plainD] at h
    rw [l6 I l l' xs n h rs GD]
  | dct tk ks vs=>
   exfalso
   rw [Rep] at q
   obtain ⟨p',Gb,o,Gr,rd,dd,_⟩:=q
   cases Gr
   obtain ⟨El,_,ip,_⟩:=I.list sq
   obtain ⟨ob,_,ho,hc,_⟩:=ip
   have Me:=rd.ok I.hok
   cases tk with
   | true=>
    obtain ⟨Em,eo,_⟩:=dd
    subst eo
    obtain ⟨_,_,_,_,o2,_,_,FW,ex,_⟩:=Me
    rw [ho] at FW
    cases FW
    rw [ex.1] at hc
    exact absurd hc (by decide)
   | false=>
    obtain ⟨Em,eo,_⟩:=dd
    subst eo
    obtain ⟨_,_,_,_,o2,_,_,FW,ex,_⟩:=Me
    rw [ho] at FW
    cases FW
    rw [ex.1] at hc
    exact absurd hc (by decide)
 | .dct _ _ _,_,_,n,h,_,_=>by cases n <;> (simp only [plainD] at h;cases h)
theorem l6 (I:Inv X pins σ H s):∀ (ds es:List D) (xs:List V) (n:Nat),plainDs n ds=true->Reps X.K H ds xs->Reps X.K H es xs->ds=es
 | [],es,xs,n,_,r,q=>by
  rw [Reps] at r
  subst r
  cases es with
  | nil=>rfl
  | cons e es=>
   rw [Reps] at q
   obtain ⟨y,ys,ev,_⟩:=q
   cases ev
 | d :: ds,es,xs,n,h,r,q=>by
  rw [Reps] at r
  obtain ⟨y,ys,ev,r1,r2⟩:=r
  subst ev
  rw [plainDs,Bool.and_eq_true] at h
  cases es with
  | nil=>
   rw [Reps] at q
   cases q
  | cons e es=>
   rw [Reps] at q
   obtain ⟨y',ys',ev,q1,q2⟩:=q
   cases ev
   rw [jZ I d e y n h.1 r1 q1,l6 I ds es ys n h.2 r2 q2]
end
mutual
theorem l7:∀ (d:D) (n:Nat),plainD n d=true->Er d d=true
 | .non,_,_=>by simp only [Er]
 | .bl _,_,_=>by simp only [Er,beq_self_eq_true]
 | .int _,_,_=>by simp only [Er,beq_self_eq_true]
 | .str _,_,_=>by simp only [Er,beq_self_eq_true]
 | .tup ds,0,h=>by simp only [plainD] at h;cases h
 | .tup ds,n + 1,h=>by simp only [plainD] at h;simp only [Er];exact j0 ds n h
 | .lst ds,0,h=>by simp only [plainD] at h;cases h
 | .lst ds,n + 1,h=>by simp only [plainD] at h;simp only [Er];exact j0 ds n h
 | .dct _ _ _,n,h=>by cases n <;> (simp only [plainD] at h;cases h)
theorem j0:∀ (ds:List D) (n:Nat),plainDs n ds=true->iW ds ds=true
 | [],_,_=>by simp only [iW]
 | d :: ds,n,h=>by
  rw [plainDs,Bool.and_eq_true] at h
  rw [iW,l7 d n h.1,j0 ds n h.2]
  rfl
end
open PySem.SeqAt
theorem bL {n:Nat} {tk:Bool} {ks vs:List D} (h:plainD n (.dct tk ks vs)=true):False:=by cases n <;> (simp only [plainD] at h;cases h)
mutual
theorem yi (I:Inv X pins σ H s):∀ (d e:D) (x y:V) (v u:Value) (A:Around) (n:Nat),plainD n d=true->plainD n e=true->A.units + n < cLine->Rep X.K H d x->Rep X.K H e y->RelV x v->RelV y u->EqAt A s v u (Er d e)
 | .non,e,x,y,v,u,A,n,h,h',hu,r,q,rx,ry=>by
  cases cb r
  cases rx
  cases e with
  | non=>cases cb q;cases ry;simp only [Er];exact .same _
  | bl b=>cases cX q;cases ry;simp only [Er];exact .none_bool _
  | int i=>cases bG q;obtain ⟨t,rfl⟩:=ry;simp only [Er];exact .none_int _ _
  | str l=>cases (bx q).1;obtain ⟨t,rfl⟩:=ry;simp only [Er];exact .none_str _ _
  | tup l=>obtain ⟨p,xs,rfl,sq,_⟩:=br q;cases ry;obtain ⟨El,_,ip,_⟩:=I.tuple sq;simp only [Er];exact .none_tuple (show s.heap.IsTuple p El.toArray from ip) (by lia)
  | lst l=>obtain ⟨p,xs,rfl,sq,_⟩:=bH q;cases ry;obtain ⟨El,_,ip,_⟩:=I.list sq;simp only [Er];exact .none_list ip.isList (by lia)
  | dct tk ks vs=>exact (bL h').elim
 | .bl b,e,x,y,v,u,A,n,h,h',hu,r,q,rx,ry=>by
  cases cX r
  cases rx
  cases e with
  | non=>cases cb q;cases ry;simp only [Er];exact .bool_none _
  | bl b=>cases cX q;cases ry;simp only [Er];exact .bool_bool _ _
  | int i=>cases bG q;obtain ⟨t,rfl⟩:=ry;simp only [Er];exact .bool_int _ _ _
  | str l=>cases (bx q).1;obtain ⟨t,rfl⟩:=ry;simp only [Er];exact .bool_str _ _ _
  | tup l=>obtain ⟨p,xs,rfl,sq,_⟩:=br q;cases ry;obtain ⟨El,_,ip,_⟩:=I.tuple sq;simp only [Er];exact .bool_tuple _ (show s.heap.IsTuple p El.toArray from ip) (by lia)
  | lst l=>obtain ⟨p,xs,rfl,sq,_⟩:=bH q;cases ry;obtain ⟨El,_,ip,_⟩:=I.list sq;simp only [Er];exact .bool_list _ ip.isList (by lia)
  | dct tk ks vs=>exact (bL h').elim
 | .int b,e,x,y,v,u,A,n,h,h',hu,r,q,rx,ry=>by
  cases bG r
  obtain ⟨t0,rfl⟩:=rx
  cases e with
  | non=>cases cb q;cases ry;simp only [Er];exact .int_none _ _
  | bl b=>cases cX q;cases ry;simp only [Er];exact .int_bool _ _ _
  | int i=>cases bG q;obtain ⟨t,rfl⟩:=ry;simp only [Er];exact .int_int _ _ _ _
  | str l=>cases (bx q).1;obtain ⟨t,rfl⟩:=ry;simp only [Er];exact .int_str _ _ _ _
  | tup l=>obtain ⟨p,xs,rfl,sq,_⟩:=br q;cases ry;obtain ⟨El,_,ip,_⟩:=I.tuple sq;simp only [Er];exact .int_tuple _ _ (show s.heap.IsTuple p El.toArray from ip) (by lia)
  | lst l=>obtain ⟨p,xs,rfl,sq,_⟩:=bH q;cases ry;obtain ⟨El,_,ip,_⟩:=I.list sq;simp only [Er];exact .int_list _ _ ip.isList (by lia)
  | dct tk ks vs=>exact (bL h').elim
 | .str b,e,x,y,v,u,A,n,h,h',hu,r,q,rx,ry=>by
  have hr:=(bx r).1
  subst hr
  obtain ⟨t0,rfl⟩:=rx
  cases e with
  | non=>cases cb q;cases ry;simp only [Er];exact .str_none _ _
  | bl b=>cases cX q;cases ry;simp only [Er];exact .str_bool _ _ _
  | int i=>cases bG q;obtain ⟨t,rfl⟩:=ry;simp only [Er];exact .str_int _ _ _ _
  | str l=>
   have hq:=(bx q).1
   subst hq
   obtain ⟨t,rfl⟩:=ry
   have e1:(b == l)=(S b == S l):=by
    rw [Bool.eq_iff_iff,beq_iff_eq,beq_iff_eq]
    exact ⟨fun z=>by rw [z],S_inj⟩
   simp only [Er,e1]
   exact .str_str _ _ _ _
  | tup l=>obtain ⟨p,xs,rfl,sq,_⟩:=br q;cases ry;obtain ⟨El,_,ip,_⟩:=I.tuple sq;simp only [Er];exact .str_tuple _ _ (show s.heap.IsTuple p El.toArray from ip) (by lia)
  | lst l=>obtain ⟨p,xs,rfl,sq,_⟩:=bH q;cases ry;obtain ⟨El,_,ip,_⟩:=I.list sq;simp only [Er];exact .str_list _ _ ip.isList (by lia)
  | dct tk ks vs=>exact (bL h').elim
 | .tup l,e,x,y,v,u,A,n,h,h',hu,r,q,rx,ry=>by
  have rr:=r
  obtain ⟨p,xs,ev,sq,rs⟩:=br r
  subst ev
  cases rx
  obtain ⟨El,vl,ip,_⟩:=I.tuple sq
  have ip:s.heap.IsTuple p El.toArray:=ip
  cases e with
  | non=>cases cb q;cases ry;simp only [Er];exact .tuple_none ip (by lia)
  | bl b=>cases cX q;cases ry;simp only [Er];exact .tuple_bool _ ip (by lia)
  | int i=>cases bG q;obtain ⟨t,rfl⟩:=ry;simp only [Er];exact .tuple_int _ _ ip (by lia)
  | str l=>cases (bx q).1;obtain ⟨t,rfl⟩:=ry;simp only [Er];exact .tuple_str _ _ ip (by lia)
  | tup l'=>
   obtain ⟨p',Gb,Gr,FU,GD⟩:=br q
   subst Gr
   cases ry
   by_cases hp:p=p'
   ·subst hp
    have hz:=jZ I _ _ _ n h rr q
    rw [<-hz,l7 _ n h]
    exact .same _
   ·obtain ⟨its',Js,F9,_⟩:=I.tuple FU
    have F9:s.heap.IsTuple p' its'.toArray:=F9
    cases n with
    | zero=>simp only [plainD] at h;cases h
    | succ n=>
     simp only [plainD] at h h'
     have l1:=vl.length
     have l2:=Js.length
     have l3:=rs.length
     have l4:=GD.length
     have key:=RcAt.tuples (A:=A) (e:=fun j=>Er (l.getD j .non) (l'.getD j .non)) ip F9 (by lia) fun j h1 h2=>by
      simp only [List.size_toArray] at h1 h2
      have g1:l[j]?=some (l[j]'(by lia)):=List.getElem?_eq_getElem _
      have g2:l'[j]?=some (l'[j]'(by lia)):=List.getElem?_eq_getElem _
      obtain ⟨w1,Ii,Ij⟩:=rs.get g1
      obtain ⟨w2,Jt,Ju⟩:=GD.get g2
      obtain ⟨u1,GO,Ik⟩:=vl.get Ii
      obtain ⟨u2,HK,Jv⟩:=Js.get Jt
      have q1:El.toArray[j]=u1:=by rw [List.getElem?_eq_getElem h1] at GO;simpa using GO
      have q2:its'.toArray[j]=u2:=by rw [List.getElem?_eq_getElem h2] at HK;simpa using HK
      rw [q1,q2,List.getD_eq_getElem?_getD,List.getD_eq_getElem?_getD,g1,g2]
      exact nK I l j _ g1 _ w1 w2 u1 u2 A.in1 n (plainDs_mem h g1) (plainDs_mem h' g2) (by show A.units + 1 + n < cLine;lia) Ij Ju Ik Jv
     simp only [Er]
     have fin:((List.range (min El.toArray.size its'.toArray.size)).all (fun j=>Er (l.getD j .non) (l'.getD j .non)) && El.toArray.size == its'.toArray.size)=iW l l':=by
      simp only [List.size_toArray]
      by_cases hl:l.length=l'.length
      ·rw [<-eL hl,show min El.length its'.length=l.length by lia,show (El.length == its'.length)=true by rw [beq_iff_eq];lia,Bool.and_true]
      ·rw [iu hl,show (El.length == its'.length)=false by rw [beq_eq_false_iff_ne];lia,Bool.and_false]
     rw [<-fin]
     exact .of_refs hp key
  | lst l'=>obtain ⟨p',Gb,Gr,FU,_⟩:=bH q;subst Gr;cases ry;obtain ⟨its',_,F9,_⟩:=I.list FU;simp only [Er];exact .tuple_list ip F9.isList (by lia)
  | dct tk ks vs=>exact (bL h').elim
 | .lst l,e,x,y,v,u,A,n,h,h',hu,r,q,rx,ry=>by
  have rr:=r
  obtain ⟨p,xs,ev,sq,rs⟩:=bH r
  subst ev
  cases rx
  obtain ⟨El,vl,ip,_⟩:=I.list sq
  have ip:=ip.isList
  cases e with
  | non=>cases cb q;cases ry;simp only [Er];exact .list_none ip (by lia)
  | bl b=>cases cX q;cases ry;simp only [Er];exact .list_bool _ ip (by lia)
  | int i=>cases bG q;obtain ⟨t,rfl⟩:=ry;simp only [Er];exact .list_int _ _ ip (by lia)
  | str l=>cases (bx q).1;obtain ⟨t,rfl⟩:=ry;simp only [Er];exact .list_str _ _ ip (by lia)
  | lst l'=>
   obtain ⟨p',Gb,Gr,FU,GD⟩:=bH q
   subst Gr
   cases ry
   by_cases hp:p=p'
   ·subst hp
    have hz:=jZ I _ _ _ n h rr q
    rw [<-hz,l7 _ n h]
    exact .same _
   ·obtain ⟨its',Js,F9,_⟩:=I.list FU
    have F9:=F9.isList
    cases n with
    | zero=>simp only [plainD] at h;cases h
    | succ n=>
     simp only [plainD] at h h'
     have l1:=vl.length
     have l2:=Js.length
     have l3:=rs.length
     have l4:=GD.length
     simp only [Er]
     by_cases hl:l.length=l'.length
     ·have key:=RcAt.lists (A:=A) (e:=fun j=>Er (l.getD j .non) (l'.getD j .non)) ip F9 (by simp only [List.size_toArray];lia) (by lia) fun j h1 h2=>by
       simp only [List.size_toArray] at h1 h2
       have g1:l[j]?=some (l[j]'(by lia)):=List.getElem?_eq_getElem _
       have g2:l'[j]?=some (l'[j]'(by lia)):=List.getElem?_eq_getElem _
       obtain ⟨w1,Ii,Ij⟩:=rs.get g1
       obtain ⟨w2,Jt,Ju⟩:=GD.get g2
       obtain ⟨u1,GO,Ik⟩:=vl.get Ii
       obtain ⟨u2,HK,Jv⟩:=Js.get Jt
       have q1:El.toArray[j]=u1:=by rw [List.getElem?_eq_getElem h1] at GO;simpa using GO
       have q2:its'.toArray[j]=u2:=by rw [List.getElem?_eq_getElem h2] at HK;simpa using HK
       rw [q1,q2,List.getD_eq_getElem?_getD,List.getD_eq_getElem?_getD,g1,g2]
       exact nK I l j _ g1 _ w1 w2 u1 u2 A.in1 n (plainDs_mem h g1) (plainDs_mem h' g2) (by show A.units + 1 + n < cLine;lia) Ij Ju Ik Jv
      rw [<-eL hl,show l.length=El.toArray.size by simp only [List.size_toArray];lia]
      exact .of_refs hp key
     ·rw [iu hl]
      exact .of_refs hp (RcAt.lists_lengths ip F9 (by simp only [List.size_toArray,bne_iff_ne];lia) (by lia))
  | tup l'=>obtain ⟨p',Gb,Gr,FU,_⟩:=br q;subst Gr;cases ry;obtain ⟨its',_,F9,_⟩:=I.tuple FU;simp only [Er];exact .list_tuple ip (show s.heap.IsTuple p' its'.toArray from F9) (by lia)
  | dct tk ks vs=>exact (bL h').elim
 | .dct _ _ _,_,_,_,_,_,_,n,h,_,_,_,_,_,_=>(bL h).elim
theorem nK (I:Inv X pins σ H s):∀ (ds:List D) (j:Nat) (d:D),ds[j]?=some d->∀ (e:D) (x y:V) (v u:Value) (A:Around) (n:Nat),plainD n d=true->plainD n e=true->A.units + n < cLine->Rep X.K H d x->Rep X.K H e y->RelV x v->RelV y u->EqAt A s v u (Er d e)
 | [],_,_,hj=>by simp at hj
 | d' :: ds,0,d,hj=>by
  simp at hj
  subst hj
  exact yi I d'
 | d' :: ds,j + 1,d,hj=>nK I ds j d (by simpa using hj)
end
end
section
variable {X:Cx}
noncomputable def GF (a b:D):Res R:=if plainD 40 a && plainD 40 b then .ok (.f,.bl (Er a b)) else .bad
noncomputable def HL (a b:D):Res R:=if plainD 40 a && plainD 40 b then .ok (.f,.bl (!Er a b)) else .bad
open PySem.SeqAt in
theorem AD {pins:List (Addr×Obj)} {σ:L2.St} {H:Hp} {s:Shared} (I:Inv X pins σ H s) {d e:D} {x y:V} {v u:Value} {A:Around} (h:plainD 40 d=true) (h':plainD 40 e=true) (hu:A.units + 64 < cLine) (r:Rep X.K H d x) (q:Rep X.K H e y) (rx:RelV x v) (ry:RelV y u) :
  RcAt A s v u (Er d e)/\RcNeAt A s v u (!Er d e):=by
 cases d with
 | non=>
  cases cb r
  cases rx
  cases e with
  | non=>cases cb q;cases ry;simp only [Er];exact ⟨.none_none,.none_none⟩
  | bl b=>cases cX q;cases ry;simp only [Er];exact ⟨.none_bool _,.none_bool _⟩
  | int i=>cases bG q;obtain ⟨t,rfl⟩:=ry;simp only [Er];exact ⟨.none_int _ _,.none_int _ _⟩
  | str l=>cases (bx q).1;obtain ⟨t,rfl⟩:=ry;simp only [Er];exact ⟨.none_str _ _,.none_str _ _⟩
  | tup l=>obtain ⟨p,xs,rfl,sq,_⟩:=br q;cases ry;obtain ⟨El,_,ip,_⟩:=I.tuple sq;simp only [Er];exact ⟨.none_tuple (show s.heap.IsTuple p El.toArray from ip) (by lia),.none_tuple (show s.heap.IsTuple p El.toArray from ip) (by lia)⟩
  | lst l=>obtain ⟨p,xs,rfl,sq,_⟩:=bH q;cases ry;obtain ⟨El,_,ip,_⟩:=I.list sq;simp only [Er];exact ⟨.none_list ip.isList (by lia),.none_list ip.isList (by lia)⟩
  | dct tk ks vs=>exact (bL h').elim
 | bl b=>
  cases cX r
  cases rx
  cases e with
  | non=>cases cb q;cases ry;simp only [Er];exact ⟨.bool_none _,.bool_none _⟩
  | bl b=>cases cX q;cases ry;simp only [Er];exact ⟨.bool_bool _ _,.bool_bool _ _⟩
  | int i=>cases bG q;obtain ⟨t,rfl⟩:=ry;simp only [Er];exact ⟨.bool_int _ _ _,.bool_int _ _ _⟩
  | str l=>cases (bx q).1;obtain ⟨t,rfl⟩:=ry;simp only [Er];exact ⟨.bool_str _ _ _,.bool_str _ _ _⟩
  | tup l=>obtain ⟨p,xs,rfl,sq,_⟩:=br q;cases ry;obtain ⟨El,_,ip,_⟩:=I.tuple sq;simp only [Er];exact ⟨.bool_tuple _ (show s.heap.IsTuple p El.toArray from ip) (by lia),.bool_tuple _ (show s.heap.IsTuple p El.toArray from ip) (by lia)⟩
  | lst l=>obtain ⟨p,xs,rfl,sq,_⟩:=bH q;cases ry;obtain ⟨El,_,ip,_⟩:=I.list sq;simp only [Er];exact ⟨.bool_list _ ip.isList (by lia),.bool_list _ ip.isList (by lia)⟩
  | dct tk ks vs=>exact (bL h').elim
 | int b=>
  cases bG r
  obtain ⟨t0,rfl⟩:=rx
  cases e with
  | non=>cases cb q;cases ry;simp only [Er];exact ⟨.int_none _ _,.int_none _ _⟩
  | bl b=>cases cX q;cases ry;simp only [Er];exact ⟨.int_bool _ _ _,.int_bool _ _ _⟩
  | int i=>cases bG q;obtain ⟨t,rfl⟩:=ry;simp only [Er];exact ⟨.int_int _ _ _ _,.int_int _ _ _ _⟩
  | str l=>cases (bx q).1;obtain ⟨t,rfl⟩:=ry;simp only [Er];exact ⟨.int_str _ _ _ _,.int_str _ _ _ _⟩
  | tup l=>obtain ⟨p,xs,rfl,sq,_⟩:=br q;cases ry;obtain ⟨El,_,ip,_⟩:=I.tuple sq;simp only [Er];exact ⟨.int_tuple _ _ (show s.heap.IsTuple p El.toArray from ip) (by lia),.int_tuple _ _ (show s.heap.IsTuple p El.toArray from ip) (by lia)⟩
  | lst l=>obtain ⟨p,xs,rfl,sq,_⟩:=bH q;cases ry;obtain ⟨El,_,ip,_⟩:=I.list sq;simp only [Er];exact ⟨.int_list _ _ ip.isList (by lia),.int_list _ _ ip.isList (by lia)⟩
  | dct tk ks vs=>exact (bL h').elim
 | str b=>
  have hr:=(bx r).1
  subst hr
  obtain ⟨t0,rfl⟩:=rx
  cases e with
  | non=>cases cb q;cases ry;simp only [Er];exact ⟨.str_none _ _,.str_none _ _⟩
  | bl b=>cases cX q;cases ry;simp only [Er];exact ⟨.str_bool _ _ _,.str_bool _ _ _⟩
  | int i=>cases bG q;obtain ⟨t,rfl⟩:=ry;simp only [Er];exact ⟨.str_int _ _ _ _,.str_int _ _ _ _⟩
  | str l=>
   have hq:=(bx q).1
   subst hq
   obtain ⟨t,rfl⟩:=ry
   have e1:(b == l)=(S b == S l):=by
    rw [Bool.eq_iff_iff,beq_iff_eq,beq_iff_eq]
    exact ⟨fun z=>by rw [z],S_inj⟩
   simp only [Er,e1]
   exact ⟨.str_str _ _ _ _,.str_str _ _ _ _⟩
  | tup l=>obtain ⟨p,xs,rfl,sq,_⟩:=br q;cases ry;obtain ⟨El,_,ip,_⟩:=I.tuple sq;simp only [Er];exact ⟨.str_tuple _ _ (show s.heap.IsTuple p El.toArray from ip) (by lia),.str_tuple _ _ (show s.heap.IsTuple p El.toArray from ip) (by lia)⟩
  | lst l=>obtain ⟨p,xs,rfl,sq,_⟩:=bH q;cases ry;obtain ⟨El,_,ip,_⟩:=I.list sq;simp only [Er];exact ⟨.str_list _ _ ip.isList (by lia),.str_list _ _ ip.isList (by lia)⟩
  | dct tk ks vs=>exact (bL h').elim
 | tup l=>
  obtain ⟨p,xs,ev,sq,rs⟩:=br r
  subst ev
  cases rx
  obtain ⟨El,vl,ip,_⟩:=I.tuple sq
  have ip:s.heap.IsTuple p El.toArray:=ip
  cases e with
  | non=>cases cb q;cases ry;simp only [Er];exact ⟨.tuple_none ip (by lia),.tuple_none ip (by lia)⟩
  | bl b=>cases cX q;cases ry;simp only [Er];exact ⟨.tuple_bool _ ip (by lia),.tuple_bool _ ip (by lia)⟩
  | int i=>cases bG q;obtain ⟨t,rfl⟩:=ry;simp only [Er];exact ⟨.tuple_int _ _ ip (by lia),.tuple_int _ _ ip (by lia)⟩
  | str l=>cases (bx q).1;obtain ⟨t,rfl⟩:=ry;simp only [Er];exact ⟨.tuple_str _ _ ip (by lia),.tuple_str _ _ ip (by lia)⟩
  | tup l'=>
   obtain ⟨p',Gb,Gr,FU,GD⟩:=br q
   subst Gr
   cases ry
   obtain ⟨its',Js,F9,_⟩:=I.tuple FU
   have F9:s.heap.IsTuple p' its'.toArray:=F9
   simp only [plainD] at h h'
   have l1:=vl.length
   have l2:=Js.length
   have l3:=rs.length
   have l4:=GD.length
   have el:∀ j (h1:j < El.toArray.size) (h2:j < its'.toArray.size),EqAt A.in1 s El.toArray[j] its'.toArray[j] ((fun j=>Er (l.getD j .non) (l'.getD j .non)) j):=fun j h1 h2=>by
    simp only [List.size_toArray] at h1 h2
    have g1:l[j]?=some (l[j]'(by lia)):=List.getElem?_eq_getElem _
    have g2:l'[j]?=some (l'[j]'(by lia)):=List.getElem?_eq_getElem _
    obtain ⟨w1,Ii,Ij⟩:=rs.get g1
    obtain ⟨w2,Jt,Ju⟩:=GD.get g2
    obtain ⟨u1,GO,Ik⟩:=vl.get Ii
    obtain ⟨u2,HK,Jv⟩:=Js.get Jt
    have q1:El.toArray[j]=u1:=by rw [List.getElem?_eq_getElem h1] at GO;simpa using GO
    have q2:its'.toArray[j]=u2:=by rw [List.getElem?_eq_getElem h2] at HK;simpa using HK
    dsimp only
    rw [q1,q2,List.getD_eq_getElem?_getD,List.getD_eq_getElem?_getD,g1,g2]
    exact nK I l j _ g1 _ w1 w2 u1 u2 A.in1 39 (plainDs_mem h g1) (plainDs_mem h' g2) (by show A.units + 1 + 39 < cLine;lia) Ij Ju Ik Jv
   simp only [Er]
   have fin:((List.range (min El.toArray.size its'.toArray.size)).all (fun j=>Er (l.getD j .non) (l'.getD j .non)) && El.toArray.size == its'.toArray.size)=iW l l':=by
    simp only [List.size_toArray]
    by_cases hl:l.length=l'.length
    ·rw [<-eL hl,show min El.length its'.length=l.length by lia,show (El.length == its'.length)=true by rw [beq_iff_eq];lia,Bool.and_true]
    ·rw [iu hl,show (El.length == its'.length)=false by rw [beq_eq_false_iff_ne];lia,Bool.and_false]
   rw [<-fin]
   exact ⟨.tuples ip F9 (by lia) el,.tuples ip F9 (by lia) el⟩
  | lst l'=>obtain ⟨p',Gb,Gr,FU,_⟩:=bH q;subst Gr;cases ry;obtain ⟨its',_,F9,_⟩:=I.list FU;simp only [Er];exact ⟨.tuple_list ip F9.isList (by lia),.tuple_list ip F9.isList (by lia)⟩
  | dct tk ks vs=>exact (bL h').elim
 | lst l=>
  obtain ⟨p,xs,ev,sq,rs⟩:=bH r
  subst ev
  cases rx
  obtain ⟨El,vl,ip,_⟩:=I.list sq
  have ip:=ip.isList
  cases e with
  | non=>cases cb q;cases ry;simp only [Er];exact ⟨.list_none ip (by lia),.list_none ip (by lia)⟩
  | bl b=>cases cX q;cases ry;simp only [Er];exact ⟨.list_bool _ ip (by lia),.list_bool _ ip (by lia)⟩
  | int i=>cases bG q;obtain ⟨t,rfl⟩:=ry;simp only [Er];exact ⟨.list_int _ _ ip (by lia),.list_int _ _ ip (by lia)⟩
  | str l=>cases (bx q).1;obtain ⟨t,rfl⟩:=ry;simp only [Er];exact ⟨.list_str _ _ ip (by lia),.list_str _ _ ip (by lia)⟩
  | lst l'=>
   obtain ⟨p',Gb,Gr,FU,GD⟩:=bH q
   subst Gr
   cases ry
   obtain ⟨its',Js,F9,_⟩:=I.list FU
   have F9:=F9.isList
   simp only [plainD] at h h'
   have l1:=vl.length
   have l2:=Js.length
   have l3:=rs.length
   have l4:=GD.length
   simp only [Er]
   by_cases hl:l.length=l'.length
   ·have el:∀ j (h1:j < El.toArray.size) (h2:j < its'.toArray.size),EqAt A.in1 s El.toArray[j] its'.toArray[j] ((fun j=>Er (l.getD j .non) (l'.getD j .non)) j):=fun j h1 h2=>by
     simp only [List.size_toArray] at h1 h2
     have g1:l[j]?=some (l[j]'(by lia)):=List.getElem?_eq_getElem _
     have g2:l'[j]?=some (l'[j]'(by lia)):=List.getElem?_eq_getElem _
     obtain ⟨w1,Ii,Ij⟩:=rs.get g1
     obtain ⟨w2,Jt,Ju⟩:=GD.get g2
     obtain ⟨u1,GO,Ik⟩:=vl.get Ii
     obtain ⟨u2,HK,Jv⟩:=Js.get Jt
     have q1:El.toArray[j]=u1:=by rw [List.getElem?_eq_getElem h1] at GO;simpa using GO
     have q2:its'.toArray[j]=u2:=by rw [List.getElem?_eq_getElem h2] at HK;simpa using HK
     dsimp only
     rw [q1,q2,List.getD_eq_getElem?_getD,List.getD_eq_getElem?_getD,g1,g2]
     exact nK I l j _ g1 _ w1 w2 u1 u2 A.in1 39 (plainDs_mem h g1) (plainDs_mem h' g2) (by show A.units + 1 + 39 < cLine;lia) Ij Ju Ik Jv
    rw [<-eL hl,show l.length=El.toArray.size by simp only [List.size_toArray];lia]
    exact ⟨.lists ip F9 (by simp only [List.size_toArray];lia) (by lia) el,.lists ip F9 (by simp only [List.size_toArray];lia) (by lia) el⟩
   ·rw [iu hl]
    exact ⟨.lists_lengths ip F9 (by simp only [List.size_toArray,bne_iff_ne];lia) (by lia),.lists_lengths ip F9 (by simp only [List.size_toArray,bne_iff_ne];lia) (by lia)⟩
  | tup l'=>obtain ⟨p',Gb,Gr,FU,_⟩:=br q;subst Gr;cases ry;obtain ⟨its',_,F9,_⟩:=I.tuple FU;simp only [Er];exact ⟨.list_tuple ip (show s.heap.IsTuple p' its'.toArray from F9) (by lia),.list_tuple ip (show s.heap.IsTuple p' its'.toArray from F9) (by lia)⟩
  | dct tk ks vs=>exact (bL h').elim
 | dct tk ks vs=>exact (bL h).elim
theorem l8 (hu:X.A.units + 64 < cLine):E2 X (compareOp .Eq) (rGA X.K GF):=by
 rintro pins s σ H x y v u Q I rx ry ⟨G,fp,es,vs,a,b,r,⟨rel,k⟩,va,vb,e⟩
 unfold GF at e
 split at e
 ·rename_i hp
  cases e
  rw [Bool.and_eq_true] at hp
  exact (AD I hp.1 hp.2 hu va vb rx ry).1 _ _ _ _ ⟨.bl _,H,I,rfl,k _ H G fp .refl (rel.push (cz _))⟩
 ·cases e
theorem nL (hu:X.A.units + 64 < cLine):E2 X (compareOp .NotEq) (rGA X.K HL):=by
 rintro pins s σ H x y v u Q I rx ry ⟨G,fp,es,vs,a,b,r,⟨rel,k⟩,va,vb,e⟩
 unfold HL at e
 split at e
 ·rename_i hp
  cases e
  rw [Bool.and_eq_true] at hp
  exact (AD I hp.1 hp.2 hu va vb rx ry).2 _ _ _ _ ⟨.bl _,H,I,rfl,k _ H G fp .refl (rel.push (cz _))⟩
 ·cases e
noncomputable def rO (a:D) (ds:List D):Bool:=ds.any fun d=>Er d a
noncomputable def Jc (a b:D):Res R:=match b with
 | .lst ds=>if plainD 40 a && plainDs 40 ds then .ok (.f,.bl (rO a ds)) else .bad
 | .tup ds=>if plainD 40 a && plainDs 40 ds then .ok (.f,.bl (rO a ds)) else .bad
 | .str l=>match a with
  | .str [c]=>.ok (.f,.bl (decide (c∈l)))
  | _=>.bad
 | _=>.bad
noncomputable def uR (a b:D):Res R:=(Jc a b).bind fun r=>match r.2 with
 | .bl k=>.ok (.f,.bl (!k))
 | _=>.bad
open PySem.SeqAt in
theorem qk {pins:List (Addr×Obj)} {σ:L2.St} {H:Hp} {s:Shared} (I:Inv X pins σ H s) {a:D} {x:V} {v:Value} {A:Around} (h:plainD 40 a=true) (hu:A.units + 64 < cLine) (r:Rep X.K H a x) (rx:RelV x v) :
  ∀ (ds:List D) (xs:List V) (us:List Value),plainDs 40 ds=true->Reps X.K H ds xs->Vals xs us->∃ e:Value->Bool,us.any e=rO a ds/\∀ u∈us,EqAt A s u v (e u):=by
 classical
 intro ds xs us hp rs vl
 refine ⟨fun u=>decide (∃ (j:Nat) (d:D),ds[j]?=some d/\us[j]?=some u/\Er d a=true),?_,fun u N0=>?_⟩
 ·rw [Bool.eq_iff_iff,List.any_eq_true]
  unfold rO
  rw [List.any_eq_true]
  constructor
  ·rintro ⟨u,_,hd⟩
   obtain ⟨j,d,h1,_,h2⟩:=of_decide_eq_true hd
   exact ⟨d,List.mem_of_getElem? h1,h2⟩
  ·rintro ⟨d,hd,h2⟩
   obtain ⟨j,hj⟩:=List.mem_iff_getElem?.mp hd
   obtain ⟨w1,Ii,Ij⟩:=rs.get hj
   obtain ⟨u1,GO,Ik⟩:=vl.get Ii
   exact ⟨u1,List.mem_of_getElem? GO,decide_eq_true ⟨j,d,hj,GO,h2⟩⟩
 ·obtain ⟨j,hj⟩:=List.mem_iff_getElem?.mp N0
  have l1:=vl.length
  have l2:=rs.length
  have OC:=(List.getElem?_eq_some_iff.mp hj).1
  have g1:ds[j]?=some (ds[j]'(by lia)):=List.getElem?_eq_getElem _
  obtain ⟨w1,Ii,Ij⟩:=rs.get g1
  obtain ⟨u1,GO,Ik⟩:=vl.get Ii
  rw [hj] at GO
  cases GO
  have z:=yi I _ _ w1 x u v A 40 (plainDs_mem hp g1) h (by lia) Ij r Ik rx
  have e:decide (∃ (j:Nat) (d:D),ds[j]?=some d/\us[j]?=some u/\Er d a=true)=Er (ds[j]'(by lia)) a:=by
   rw [Bool.eq_iff_iff,decide_eq_true_eq]
   constructor
   ·rintro ⟨j2,d2,k1,k2,k3⟩
    obtain ⟨w2,Jt,Ju⟩:=rs.get k1
    obtain ⟨u2,HK,Jv⟩:=vl.get Jt
    rw [k2] at HK
    cases HK
    have:=Ik.inj Jv
    subst this
    rw [jZ I _ _ _ 40 (plainDs_mem hp g1) Ij Ju]
    exact k3
   ·intro k3
    exact ⟨j,_,g1,hj,k3⟩
  show EqAt A s u v (decide (∃ (j:Nat) (d:D),ds[j]?=some d/\us[j]?=some u/\Er d a=true))
  rw [e]
  exact z
theorem nM (l:List Nat) (c:Nat):(!(Builtin.Str.occurrences (S l) (S [c]) 0 (S l).length 1).isEmpty)=decide (c∈l):=by
 have h:=PySem.StrLaws.found_one (S l) c
 rw [dB] at h
 exact h
theorem l9 {e:Value->Bool} (us:List Value):us.toArray.any e=us.any e:=by simp
theorem CL (hu:X.A.units + 65 < cLine):E2 X (compareOp .In) (rGA X.K Jc):=by
 rintro pins s σ H x y v u Q I rx ry ⟨G,fp,es,vs,a,b,r,⟨rel,k⟩,va,vb,e⟩
 unfold Jc at e
 split at e
 ·rename_i ds
  split at e
  ·rename_i hp
   cases e
   rw [Bool.and_eq_true] at hp
   obtain ⟨p,xs,ev,sq,rs⟩:=bH vb
   subst ev
   cases ry
   obtain ⟨El,vl,ip,_⟩:=I.list sq
   obtain ⟨ef,e1,e2⟩:=qk (A:=X.A.in1) I hp.1 (by show X.A.units + 1 + 64 < cLine;lia) va rx ds xs El hp.2 rs vl
   refine SeqAt.in_listAt ef ip.isList (fun z hz=>e2 z (by simpa using hz)) ?_
   rw [l9,e1]
   exact ⟨.bl _,H,I,rfl,k _ H G fp .refl (rel.push (cz _))⟩
  ·cases e
 ·rename_i ds
  split at e
  ·rename_i hp
   cases e
   rw [Bool.and_eq_true] at hp
   obtain ⟨p,xs,ev,sq,rs⟩:=br vb
   subst ev
   cases ry
   obtain ⟨El,vl,ip,_⟩:=I.tuple sq
   obtain ⟨ef,e1,e2⟩:=qk (A:=X.A.in1) I hp.1 (by show X.A.units + 1 + 64 < cLine;lia) va rx ds xs El hp.2 rs vl
   refine SeqAt.in_tupleAt ef (show s.heap.IsTuple p El.toArray from ip) (fun z hz=>e2 z (by simpa using hz)) ?_
   rw [l9,e1]
   exact ⟨.bl _,H,I,rfl,k _ H G fp .refl (rel.push (cz _))⟩
  ·cases e
 ·rename_i l
  split at e
  ·rename_i c
   cases e
   obtain ⟨e1,h1⟩:=bx va
   obtain ⟨e2,h2⟩:=bx vb
   subst e1
   subst e2
   refine rZ pins s σ H _ _ v u Q I rx ry ⟨_,_,rfl,rfl,?_⟩
   rw [nM]
   exact k _ H G fp .refl (rel.push (cz _))
  ·cases e
 ·cases e
theorem AE (hu:X.A.units + 65 < cLine):E2 X (compareOp .NotIn) (rGA X.K uR):=by
 rintro pins s σ H x y v u Q I rx ry ⟨G,fp,es,vs,a,b,r,⟨rel,k⟩,va,vb,e⟩
 unfold uR at e
 obtain ⟨r0,e0,e⟩:=ar e
 unfold Jc at e0
 split at e0
 ·rename_i ds
  split at e0
  ·rename_i hp
   cases e0
   cases e
   rw [Bool.and_eq_true] at hp
   obtain ⟨p,xs,ev,sq,rs⟩:=bH vb
   subst ev
   cases ry
   obtain ⟨El,vl,ip,_⟩:=I.list sq
   obtain ⟨ef,e1,e2⟩:=qk (A:=X.A.in1) I hp.1 (by show X.A.units + 1 + 64 < cLine;lia) va rx ds xs El hp.2 rs vl
   refine SeqAt.notIn_listAt ef ip.isList (fun z hz=>e2 z (by simpa using hz)) ?_
   rw [l9,e1]
   exact ⟨.bl _,H,I,rfl,k _ H G fp .refl (rel.push (cz _))⟩
  ·cases e0
 ·rename_i ds
  split at e0
  ·rename_i hp
   cases e0
   cases e
   rw [Bool.and_eq_true] at hp
   obtain ⟨p,xs,ev,sq,rs⟩:=br vb
   subst ev
   cases ry
   obtain ⟨El,vl,ip,_⟩:=I.tuple sq
   obtain ⟨ef,e1,e2⟩:=qk (A:=X.A.in1) I hp.1 (by show X.A.units + 1 + 64 < cLine;lia) va rx ds xs El hp.2 rs vl
   refine SeqAt.notIn_tupleAt ef (show s.heap.IsTuple p El.toArray from ip) (fun z hz=>e2 z (by simpa using hz)) ?_
   rw [l9,e1]
   exact ⟨.bl _,H,I,rfl,k _ H G fp .refl (rel.push (cz _))⟩
  ·cases e0
 ·rename_i l
  split at e0
  ·rename_i c
   cases e0
   cases e
   obtain ⟨e1,h1⟩:=bx va
   obtain ⟨e2,h2⟩:=bx vb
   subst e1
   subst e2
   refine mP pins s σ H _ _ v u Q I rx ry ⟨_,_,rfl,rfl,?_⟩
   rw [nM]
   exact k _ H G fp .refl (rel.push (cz _))
  ·cases e0
 ·cases e0
noncomputable def N1 (a b:D):Res R:=match b with
 | .bl k=>.ok (.f,.bl (match a with | .bl j=>j == k | _=>false))
 | .non=>.ok (.f,.bl (match a with | .non=>true | _=>false))
 | _=>.bad
noncomputable def isnO (a b:D):Res R:=(N1 a b).bind fun r=>match r.2 with
 | .bl k=>.ok (.f,.bl (!k))
 | _=>.bad
theorem vP {K:W.Frag} {H:Hp} {a b:D} {x y:V} {v u:Value} {r:R} (va:Rep K H a x) (vb:Rep K H b y) (rx:RelV x v) (ry:RelV y u) (e:N1 a b=.ok r):plainIs v u=true/\r=(.f,.bl (v == u)):=by
 unfold N1 at e
 split at e
 ·rename_i k
  cases e
  cases cX vb
  cases ry
  cases a with
  | non=>cases cb va;cases rx;exact ⟨rfl,rfl⟩
  | bl j=>cases cX va;cases rx;refine ⟨rfl,?_⟩;cases j <;> cases k <;> rfl
  | int i=>cases bG va;obtain ⟨t,rfl⟩:=rx;exact ⟨rfl,rfl⟩
  | str l=>cases (bx va).1;obtain ⟨t,rfl⟩:=rx;exact ⟨rfl,rfl⟩
  | tup l=>obtain ⟨p,xs,rfl,_⟩:=br va;cases rx;exact ⟨rfl,rfl⟩
  | lst l=>obtain ⟨p,xs,rfl,_⟩:=bH va;cases rx;exact ⟨rfl,rfl⟩
  | dct tk ks vs=>rw [Rep] at va;obtain ⟨p,xs,o,rfl,_⟩:=va;cases rx;exact ⟨rfl,rfl⟩
 ·cases e
  cases cb vb
  cases ry
  cases a with
  | non=>cases cb va;cases rx;exact ⟨rfl,rfl⟩
  | bl j=>cases cX va;cases rx;exact ⟨rfl,rfl⟩
  | int i=>cases bG va;obtain ⟨t,rfl⟩:=rx;exact ⟨rfl,rfl⟩
  | str l=>cases (bx va).1;obtain ⟨t,rfl⟩:=rx;exact ⟨rfl,rfl⟩
  | tup l=>obtain ⟨p,xs,rfl,_⟩:=br va;cases rx;exact ⟨rfl,rfl⟩
  | lst l=>obtain ⟨p,xs,rfl,_⟩:=bH va;cases rx;exact ⟨rfl,rfl⟩
  | dct tk ks vs=>rw [Rep] at va;obtain ⟨p,xs,o,rfl,_⟩:=va;cases rx;exact ⟨rfl,rfl⟩
 ·cases e
theorem ll:E2 X (compareOp .IsNot) (rGA X.K isnO):=by
 rintro pins s σ H x y v u Q I rx ry ⟨G,fp,es,vs,a,b,r,⟨rel,k⟩,va,vb,e⟩
 obtain ⟨r0,e0,e⟩:=ar e
 obtain ⟨h1,h2⟩:=vP va vb rx ry e0
 subst h2
 cases e
 exact wpAny_isNot_plain h1 ⟨.bl _,H,I,rfl,k _ H G fp .refl (rel.push (cz _))⟩
end
section
variable {X:Cx}
theorem ql (hc:X.calm=true):cW X (.builtin "max") (rC X.K maxD):=by
 rintro pins s σ H xs us Q I rx ⟨G,fp,es,vs,ds,r,⟨rel,k⟩,vd,e⟩
 unfold maxD at e
 split at e
 ·rename_i d
  split at e
  ·rename_i n ns hb
   cases e
   obtain ⟨v,ev,vt⟩:=kO vd
   obtain ⟨p,ep,sq⟩:=fU rel.gh hb vt
   subst ev
   subst ep
   exact sL hc pins s σ H _ us Q I rx ⟨p,n :: ns,rfl,sq,by simp,k _ H G fp .refl (rel.push (a8 _))⟩
  ·cases e
 ·rename_i i j
  cases e
  obtain ⟨v,w',ev,v1,v2⟩:=Du vd
  subst ev
  cases bI v1
  cases bI v2
  obtain ⟨u,u',rfl,⟨t,rfl⟩,t',rfl⟩:=vf rx
  refine max_two_ints (I.ok.hd hc) fun h' tk kk=>?_
  have I2:Inv X pins σ H { s with heap:=h',toks:=tk }:=I.kept kk
  refine ⟨.int (if i < j then j else i),H,I2,?_,k _ H G fp .refl (rel.push (a8 _))⟩
  by_cases JL:i < j
  ·rw [if_pos JL,if_pos (show j > i from JL)]
   exact ⟨_,rfl⟩
  ·rw [if_neg JL,if_neg (show ¬ j > i from JL)]
   exact ⟨_,rfl⟩
 ·cases e
noncomputable def yj (f g:FX):FX:=fun env=>(f env).bind fun p=>(g p.2).bind fun q=>match (jX p.1.2).bind cF,q.1.2 with
 | some ns,.int d=>.ok ((.f,.int (NX.maxD ns d)),q.2)
 | _,_=>.bad
theorem yk {e k:Expr} {f g:FX} {p pos Ht:Pos} (hc:X.calm=true) (hg:Gl X "max") (hm:X.mg "max" = none) (he:QE X e f) (hk:QE X k g) (hs:starEach [e] X.env=[(false,eval e X.env)]:=by rfl) :
  QE X (.Call (.Name "max" p) [e] [⟨some "default",k,Ht⟩] pos) (yj f g):=bU (xP hc hg hm he hk hs) fun σ H Q EA=>by
 obtain ⟨G,env,fp,r,env',rel,e,k⟩:=EA
 obtain ⟨⟨r1,Ej⟩,e1,e⟩:=ar e
 obtain ⟨⟨r2,Ep⟩,e2,e⟩:=ar e
 dsimp only at e
 split at e
 ·rename_i ns d KD hd
  cases e
  refine ⟨G,env,fp,r1,Ej,rel,e1,fun v H1 G1 EH EC Eo=>?_⟩
  obtain ⟨G2,b,rv,Ek,Ew⟩:=Eo.freeze
  refine ⟨G2,Ej,b,r2,_,Ek,e2,fun w' H3 G3 G0 EX EK=>?_⟩
  have hw:=EK.top
  obtain ⟨b3,E4,FY⟩:=EK.drop
  rw [hd] at hw
  obtain ⟨p',ep,sq⟩:=fU E4.gh KD (Vw.of E4.gh (Rep.mono EX.gg rv))
  subst ep
  exact ⟨p',ns,d,rfl,by rw [bG hw],sq,k _ H3 G3 b3 (EC.trans (Ew.trans (EX.trans FY))) (E4.push (a8 _))⟩
 ·cases e
noncomputable def zp:List D->Res R
 | [.bl b]=>.ok (.f,.int (if b then 1 else 0))
 | [.int i]=>.ok (.f,.int i)
 | _=>.bad
theorem AF:cW X (.type "int") (rC X.K zp):=by
 rintro pins s σ H xs us Q I rx ⟨G,fp,es,vs,ds,r,⟨rel,k⟩,vd,e⟩
 unfold zp at e
 split at e
 ·rename_i b
  cases e
  obtain ⟨v,ev,v1⟩:=kO vd
  subst ev
  cases CB v1
  obtain ⟨u,rfl,ru⟩:=dN rx
  cases ru
  exact call_int_bool ⟨.int _,H,I.tok _,⟨_,rfl⟩,k _ H G fp .refl (rel.push (a8 _))⟩
 ·rename_i i
  cases e
  obtain ⟨v,ev,v1⟩:=kO vd
  subst ev
  cases bI v1
  obtain ⟨u,rfl,t,rfl⟩:=dN rx
  first
   | exact PySem.call_int_int ⟨.int _,H,I.tok _,⟨_,rfl⟩,k _ H G fp .refl (rel.push (a8 _))⟩
   | exact PySem.call_int_int ⟨.int _,H,I,⟨_,rfl⟩,k _ H G fp .refl (rel.push (a8 _))⟩
 ·cases e
noncomputable def o6:D->String
 | .non=>"NoneType"
 | .bl _=>"bool"
 | .int _=>"int"
 | .str _=>"str"
 | .tup _=>"tuple"
 | .lst _=>"list"
 | .dct _ _ _=>"dict"
noncomputable def wU (T:String) (d:D):Bool:=o6 d == T || (o6 d == "bool" && T == "int")
noncomputable def N2 (T:String) (f:FO):FX:=fun env=>(f env).bind fun p=>(eY p.2 p.1).bind fun d=>.ok ((.f,.bl (wU T d)),p.2)
theorem AG (K:W.Frag) (d:D) {T:String} (hT:T = "int"\/T = "bool"\/T = "str"\/T = "list"\/T = "tuple"\/T = "dict"):PySem.W.kitOne K (.type (o6 d)) (.type T)=some (wU T d):=by
 rcases hT with rfl | rfl | rfl | rfl | rfl | rfl <;> cases d <;> (unfold PySem.W.kitOne PySem.W.kitCls PySem.W.subIn;kernel_rfl)
theorem vQ:cW X (.builtin "isinstance") (fun xs H Q=>∃ d x T,xs=[x,.ty T]/\Rep X.K H d x/\(T = "int"\/T = "bool"\/T = "str"\/T = "list"\/T = "tuple"\/T = "dict")/\Q (.bl (wU T d)) H):=by
 intro pins s σ H xs us Q I r h
 obtain ⟨d,x,T,rfl,rd,hT,q⟩:=h
 obtain ⟨u,w',rfl,r1,r2⟩:=vf r
 cases (show w'=Value.type T from r2)
 have e:=AG X.K d hT
 have fin:∀ tk,EP X pins σ Q (.bool (wU T d)) { s with toks:=tk }:=fun tk=>⟨.bl (wU T d),H,I.tok tk,rfl,q⟩
 cases d with
 | non=>cases cb rd;cases (show u=Value.none from r1);exact PySem.W.kia_one PySem.W.kitx_none I.kIn True.intro e (fun z=>nomatch z) fin
 | bl y=>cases cX rd;cases (show u=Value.bool y from r1);exact PySem.W.kia_one PySem.W.kitx_bool I.kIn True.intro e (fun z=>nomatch z) fin
 | int i=>cases bG rd;obtain ⟨t,z⟩:=(show ∃ t,u=Value.int i t from r1);cases z;exact PySem.W.kia_one PySem.W.kitx_int I.kIn True.intro e (fun z=>nomatch z) fin
 | str l=>
  have hr:=(bx rd).1
  subst hr
  obtain ⟨t,z⟩:=(show ∃ t,u=Value.str (S l) t from r1)
  cases z
  exact PySem.W.kia_one PySem.W.kitx_str I.kIn True.intro e (fun z=>nomatch z) fin
 | lst l=>
  obtain ⟨p,xs,ev,sq,_⟩:=bH rd
  subst ev
  cases (show u=Value.ref p from r1)
  obtain ⟨El,_,ip,_⟩:=I.list sq
  obtain ⟨o,ho,hc,_⟩:=ip.isList
  exact PySem.W.kia_one PySem.W.kitx_list I.kIn ⟨o,ho,hc⟩ e (fun z=>nomatch z) fin
 | tup l=>
  obtain ⟨p,xs,ev,sq,_⟩:=br rd
  subst ev
  cases (show u=Value.ref p from r1)
  obtain ⟨El,_,ip,_⟩:=I.tuple sq
  obtain ⟨o,ho,hc,_⟩:=ip
  exact PySem.W.kia_one PySem.W.kitx_tuple I.kIn ⟨o,ho,hc⟩ e (fun z=>nomatch z) fin
 | dct tk ks vs=>
  rw [Rep] at rd
  obtain ⟨p,xs,o,ev,hr,dd,_⟩:=rd
  subst ev
  cases (show u=Value.ref p from r1)
  have ok:=hr.ok I.hok
  cases tk with
  | true=>
   obtain ⟨Em,eo,_⟩:=dd
   subst eo
   obtain ⟨_,_,_,_,o2,_,_,FW,ex,_⟩:=ok
   exact PySem.W.kia_one PySem.W.kitx_dict I.kIn ⟨o2,FW,ex.1⟩ e (fun z=>nomatch z) fin
  | false=>
   obtain ⟨Em,eo,_⟩:=dd
   subst eo
   obtain ⟨_,_,_,_,o2,_,_,FW,ex,_⟩:=ok
   exact PySem.W.kia_one PySem.W.kitx_dict I.kIn ⟨o2,FW,ex.1⟩ e (fun z=>nomatch z) fin
theorem CM {T:String} {x:Str} {e:Expr} {f:FO} {p q pos:Pos} (hT:T = "int"\/T = "bool"\/T = "str"\/T = "list"\/T = "tuple"\/T = "dict") (he:QO X e f) (hg:Gl X "isinstance") (hm:X.mg "isinstance" = none) (hg2:Gl X x) (hm2:X.mg x=none) (hv2:bootBuiltins x=some (.type T)) (hn:x≠"__name__":=by decide) (Ha:(x == ("__debug__" : Str))=false:=by decide)
  (hs:starEach [e,.Name x q] X.env=(false,eval e X.env) :: starEach [.Name x q] X.env:=by rfl) (N3:starEach [.Name x q] X.env=(false,eval (.Name x q) X.env) :: starEach [] X.env:=by rfl) (Gm:(backTo pos (starEach [.Name x q] X.env)).any (·.1)=false:=by rfl) :
  QE X (.Call (.Name "isinstance" p) [e,.Name x q] [] pos) (N2 T f):=
 bU (pR vQ hg hm lG (eZ he (eZ (xn (v:=.ty T) hg2 hm2 hv2 rfl hn Ha) k7 N3) hs) (by decide) (by decide) hs Gm) fun σ H Q EA=>by
  obtain ⟨G,env,fp,r,env',rel,e,k⟩:=EA
  obtain ⟨⟨o,Ej⟩,e1,e⟩:=ar e
  obtain ⟨d,e2,e⟩:=ar e
  cases e
  exact ⟨G,env,fp,o,_,rel,e1,fun v H1 G1 EH EC Eo Gd=>⟨d,v,T,rfl,Eo.vwA Gd e2,hT,k _ H1 G1 EH EC (Eo.push (cz _))⟩⟩
noncomputable def Fj {α:Type} (f g:PV.Env->Res α):PV.Env->Res α:=fun env=>match f env with
 | .ok a=>.ok a
 | _=>g env
theorem wV {α:Type} {f g:PV.Env->Res α} {env:PV.Env} {a:α} (h:Fj f g env=.ok a):f env=.ok a\/g env=.ok a:=by
 unfold Fj at h
 split at h
 ·rename_i b hb
  cases h
  exact .inl hb
 ·exact .inr h
theorem tJ {tg e:Expr} {f g:FI} (h:QI X tg e f) (h2:QI X tg e g):QI X tg e (Fj f g):=fun pins s σ H R I EA=>by
 obtain ⟨G,env,fp,ds,env',rel,ee,k⟩:=EA
 rcases wV ee with z | z
 ·exact h pins s σ H R I ⟨G,env,fp,ds,env',rel,z,k⟩
 ·exact h2 pins s σ H R I ⟨G,env,fp,ds,env',rel,z,k⟩
end
section
variable {α:Type}
noncomputable def ins (lt:α->α->Bool) (x:α):List α->List α
 | []=>[x]
 | y :: ys=>if lt y x then y :: ins lt x ys else x :: y :: ys
noncomputable def EB (lt:α->α->Bool) (l:List α):List α:=l.foldr (ins lt) []
structure Ord (lt:α->α->Bool):Prop where
 irr:∀ a,lt a a=false
 trans:∀ a b c,lt a b=true->lt b c=true->lt a c=true
 tot:∀ a b,lt a b=false->lt b a=false->a=b
theorem ma (lt:α->α->Bool) (x:α):∀ l,(ins lt x l).Perm (x :: l)
 | []=>.refl _
 | y :: ys=>by
  unfold ins
  split
  ·exact (List.Perm.cons y (ma lt x ys)).trans (List.Perm.swap x y ys)
  ·exact .refl _
theorem dQ (lt:α->α->Bool):∀ l,(EB lt l).Perm l
 | []=>.refl _
 | x :: l=>(ma lt x _).trans (List.Perm.cons x (dQ lt l))
theorem lp {lt:α->α->Bool} (o:Ord lt) (x:α):∀ l:List α,l.Pairwise (fun a b=>lt b a=false)->(ins lt x l).Pairwise (fun a b=>lt b a=false)
 | [],_=>by simp [ins]
 | y :: ys,h=>by
  rw [List.pairwise_cons] at h
  unfold ins
  split
  ·rename_i hy
   rw [List.pairwise_cons]
   refine ⟨fun z hz=>?_,lp o x ys h.2⟩
   rcases List.mem_cons.mp ((ma lt x ys).mem_iff.mp hz) with rfl | hz
   ·cases e:lt z y with
    | false=>rfl
    | true=>
     have:=o.trans y z y hy e
     rw [o.irr] at this
     cases this
   ·exact h.1 z hz
  ·rename_i hy
   have hy:lt y x=false:=by simpa using hy
   rw [List.pairwise_cons,List.pairwise_cons]
   refine ⟨fun z hz=>?_,h⟩
   rcases List.mem_cons.mp hz with rfl | JN
   ·exact hy
   ·cases e:lt z x with
    | false=>rfl
    | true=>
     exfalso
     cases e2:lt x y with
     | true=>
      have:=o.trans z x y e e2
      rw [h.1 z JN] at this
      cases this
     | false=>
      have hxy:=o.tot x y e2 hy
      rw [hxy,h.1 z JN] at e
      cases e
theorem d8 {lt:α->α->Bool} (o:Ord lt):∀ l:List α,(EB lt l).Pairwise (fun a b=>lt b a=false)
 | []=>.nil
 | x :: l=>lp o x _ (d8 o l)
theorem nN {lt:α->α->Bool} (o:Ord lt):∀ {a b:List α},a.Perm b->a.Pairwise (fun a b=>lt b a=false)->b.Pairwise (fun a b=>lt b a=false)->a=b
 | [],_,p,_,_=>p.nil_eq
 | x :: xs,[],p,_,_=>absurd p.length_eq (by simp)
 | x :: xs,y :: ys,p,ha,hb=>by
  rw [List.pairwise_cons] at ha hb
  have hx:x∈y :: ys:=p.mem_iff.mp List.mem_cons_self
  have hy:y∈x :: xs:=p.mem_iff.mpr List.mem_cons_self
  have e:x=y:=by
   rcases List.mem_cons.mp hx with e | hx
   ·exact e
   ·rcases List.mem_cons.mp hy with e | hy
    ·exact e.symm
    ·exact o.tot x y (hb.1 x hx) (ha.1 y hy)
  subst e
  rw [nN o p.cons_inv ha.2 hb.2]
theorem iw {lt:α->α->Bool} (o:Ord lt) {l ms:List α} (p:ms.Perm l) (h:ms.Pairwise (fun a b=>lt b a=false)):ms=EB lt l:=nN o (p.trans (dQ lt l).symm) h (d8 o l)
end
noncomputable def ltI (a b:Int):Bool:=decide (a < b)
noncomputable def IJ (a b:List Nat):Bool:=decide (a < b)
theorem ym:Ord ltI:=⟨fun a=>by simp [ltI],fun a b c=>by simp only [ltI,decide_eq_true_eq];lia,fun a b=>by simp only [ltI,decide_eq_false_iff_not];lia⟩
theorem o7:Ord IJ:=by
 refine ⟨fun a=>?_,fun a b c h1 h2=>?_,fun a b h1 h2=>?_⟩
 ·unfold IJ
  rw [decide_eq_false_iff_not]
  exact List.lt_irrefl a
 ·unfold IJ at *
  rw [decide_eq_true_eq] at *
  exact List.lt_trans h1 h2
 ·unfold IJ at *
  rw [decide_eq_false_iff_not] at *
  exact List.le_antisymm (List.not_lt.mp h2) (List.not_lt.mp h1)
theorem tL:Ord dH:=⟨g0,gD,gE⟩
noncomputable def eO:List D->Option (List (List Nat))
 | []=>some []
 | .str b :: ds=>(eO ds).map (b :: ·)
 | _=>none
noncomputable def j3:D->Option Key
 | .int i=>some (.inl i)
 | .str l=>some (.inr (S l))
 | _=>none
noncomputable def e9:List D->Option (List Key)
 | []=>some []
 | d :: ds=>(j3 d).bind fun k=>(e9 ds).map (k :: ·)
noncomputable def fe:D->Option (List Key)
 | .tup ds=>e9 ds
 | _=>none
noncomputable def jd:List D->Option (List (List Key))
 | []=>some []
 | d :: ds=>(fe d).bind fun k=>(jd ds).map (k :: ·)
noncomputable def kT (k:List Key):D:=.tup (k.map kD)
section
variable {K:W.Frag} {G:Hp}
theorem fg:∀ {ds:List D} {bs:List (List Nat)} {xs:List V},eO ds=some bs->Reps K G ds xs->xs=bs.map (fun l=>V.str (S l))/\∀ l∈bs,l.length<=sizeLine
 | [],_,_,e,r=>by
  cases e
  rw [Reps] at r
  exact ⟨r,fun _ h=>nomatch h⟩
 | d :: ds,_,_,e,r=>by
  cases d with
  | str b=>
   rw [eO,Option.map_eq_some_iff] at e
   obtain ⟨bs,e1,e2⟩:=e
   subst e2
   rw [Reps] at r
   obtain ⟨y,ys,e3,r1,r2⟩:=r
   obtain ⟨h1,h2⟩:=fg e1 r2
   obtain ⟨h3,h4⟩:=bx r1
   subst h3
   refine ⟨by rw [e3,h1];rfl,fun l hl=>?_⟩
   rcases List.mem_cons.mp hl with rfl | hl
   ·exact h4
   ·exact h2 l hl
  | _=>simp [eO] at e
theorem gI {d:D} {k:Key} {v:V} (e:j3 d=some k) (r:Rep K G d v):v=kV k/\d=kD k:=by
 cases d with
 | int i=>
  cases e
  exact ⟨bG r,rfl⟩
 | str l=>
  cases e
  refine ⟨(bx r).1,?_⟩
  show D.str l=D.str (S l).cps.toList
  rw [dB]
 | _=>cases e
theorem je:∀ {ds:List D} {ks:List Key} {xs:List V},e9 ds=some ks->Reps K G ds xs->xs=ks.map kV/\ds=ks.map kD
 | [],_,_,e,r=>by
  cases e
  rw [Reps] at r
  exact ⟨r,rfl⟩
 | d :: ds,_,_,e,r=>by
  rw [e9,Option.bind_eq_some_iff] at e
  obtain ⟨k,e1,e⟩:=e
  rw [Option.map_eq_some_iff] at e
  obtain ⟨ks,e2,e3⟩:=e
  subst e3
  rw [Reps] at r
  obtain ⟨y,ys,e4,r1,r2⟩:=r
  obtain ⟨h1,h2⟩:=gI e1 r1
  obtain ⟨h3,h4⟩:=je e2 r2
  rw [e4,h1,h2,h3,h4]
  exact ⟨rfl,rfl⟩
theorem cM {d:D} {ks:List Key} {v:V} (e:fe d=some ks) (r:Rep K G d v):∃ p,v=.ref p/\G p=some (.tup (ks.map kV))/\d=kT ks:=by
 cases d with
 | tup ds=>
  obtain ⟨p,xs,ev,g,rs⟩:=tj r
  obtain ⟨h1,h2⟩:=je e rs
  subst h1
  exact ⟨p,ev,g,by rw [h2];rfl⟩
 | _=>cases e
theorem j4:∀ {ds:List D} {GP:List (List Key)} {xs:List V},jd ds=some GP->Reps K G ds xs->∃ al:List (Addr×List Key),xs=al.map (fun a=>V.ref a.1)/\GP=al.map (·.2)/\ds=al.map (fun a=>kT a.2)/\∀ a∈al,G a.1=some (.tup (a.2.map kV))/\Rep K G (kT a.2) (.ref a.1)
 | [],_,_,e,r=>by
  cases e
  rw [Reps] at r
  exact ⟨[],r,rfl,rfl,fun _ h=>nomatch h⟩
 | d :: ds,_,_,e,r=>by
  rw [jd,Option.bind_eq_some_iff] at e
  obtain ⟨k,e1,e⟩:=e
  rw [Option.map_eq_some_iff] at e
  obtain ⟨ks,e2,e3⟩:=e
  subst e3
  rw [Reps] at r
  obtain ⟨y,ys,e4,r1,r2⟩:=r
  obtain ⟨p,h1,h2,h5⟩:=cM e1 r1
  obtain ⟨al,h3,h4,h6,h7⟩:=j4 e2 r2
  subst h1
  refine ⟨(p,k) :: al,by rw [e4,h3];rfl,by rw [h4];rfl,by rw [h5,h6];rfl,fun a ha=>?_⟩
  rcases List.mem_cons.mp ha with rfl | ha
  ·exact ⟨h2,by rw [<-h5];exact r1⟩
  ·exact h7 a ha
theorem fm {α:Type} {f:α->D} {g:α->V}:∀ {l:List α},(∀ a∈l,Rep K G (f a) (g a))->Reps K G (l.map f) (l.map g)
 | [],_=>Reps.nil
 | a :: l,h=>.cons (h a List.mem_cons_self) (fm fun b hb=>h b (List.mem_cons_of_mem _ hb))
end
noncomputable def sameKinds (k:List Key) (GP:List (List Key)):Bool:=!k.isEmpty && GP.all fun j=>kinds j == kinds k
noncomputable def j5 (ds:List D):Option (List D):=match cF ds with
 | some ns=>some ((EB ltI ns).map D.int)
 | none=>match eO ds with
  | some ls=>some ((EB IJ ls).map D.str)
  | none=>match jd ds with
   | some (k :: GP)=>if sameKinds k GP then some ((EB dH (k :: GP)).map kT) else none
   | _=>none
noncomputable def fV:List D->Res R
 | [.lst ds]=>if ds.length < 64 then match j5 ds with
  | some l=>.ok (.l .f,.lst l)
  | none=>.bad
  else .bad
 | [.dct true ks _]=>if ks.length < 64 then match ks,jd ks with
  | [],_=>.ok (.l .f,.lst [])
  | _,some (k :: GP)=>if sameKinds k GP then .ok (.l .f,.lst ((EB dH (k :: GP)).map kT)) else .bad
  | _,_=>.bad
  else .bad
 | _=>.bad
theorem iy {k:List Key} {GP:List (List Key)} (h:sameKinds k GP=true):∃ top t,∀ j∈k :: GP,kinds j=top :: t:=by
 unfold sameKinds at h
 rw [Bool.and_eq_true,List.all_eq_true] at h
 cases k with
 | nil=>simp at h
 | cons a k=>
  refine ⟨a.isLeft,kinds k,fun j hj=>?_⟩
  rcases List.mem_cons.mp hj with rfl | hj
  ·rfl
  ·exact beq_iff_eq.mp (h.2 j hj)
noncomputable def jg (H G:Hp):Hp:=fun p=>match H p with
 | some (HO.tup xs)=>some (HO.tup xs)
 | _=>G p
theorem rh {H G:Hp} {p:Addr} {xs:List V} (e:H p=some (.tup xs)):jg H G p=some (.tup xs):=by
 unfold jg
 rw [e]
theorem j6 {H G:Hp} {p:Addr} {u:HO} (e:jg H G p=some u):G p=some u\/(isT u=true/\H p=some u):=by
 unfold jg at e
 split at e
 ·rename_i xs hx
  cases e
  exact .inr ⟨rfl,hx⟩
 ·exact .inl e
theorem tM {H G:Hp} (gh:Same G H):Same G (jg H G):=fun p u e=>by
 unfold jg
 rw [gh p u e]
 cases u with
 | tup xs=>rfl
 | _=>exact e
theorem Rel.addT {K:W.Frag} {G H:Hp} {es:PV.Env} {vs:L2.St} {fp:List Addr} (q:Rel K G H es vs fp):∃ G',Rel K G' H es vs fp/\Step G H fp G' H fp/\∀ p xs,H p=some (.tup xs)->G' p=some (.tup xs):=by
 have gg:=tM q.gh
 refine ⟨jg H G,⟨q.rep.step gg fun _ _=>rfl,q.nd,fun p hp=>?_,fun p u e=>?_⟩,⟨gg,fun _ _ e _=>e,fun _ h=>.inl h,fun p u e=>(j6 e).imp_right fun z=>.inr (.inr z),fun _ u e=>⟨u,e⟩⟩,fun p xs e=>rh e⟩
 ·cases e:jg H G p with
  | none=>rfl
  | some u=>
   exfalso
   rcases j6 e with z | ⟨t,z⟩
   ·rw [q.gn p hp] at z
    cases z
   ·obtain ⟨u2,h2,hm⟩:=q.rep.mut p hp
    rw [z] at h2
    cases h2
    cases u with
    | tup _=>cases hm
    | frz _ _=>cases hm
    | _=>cases t
 ·rcases j6 e with z | z
  ·exact q.gh p u z
  ·exact z.2
theorem AH {K:W.Frag} {G:Hp} {k:Key} (h:wK k):Rep K G (kD k) (kV k):=by
 cases k with
 | inl i=>exact a8 i
 | inr x=>
  have:=g6 (K:=K) (G:=G) (l:=x.cps.toList) h
  rw [mZ] at this
  exact this
theorem AI (k:Key):j3 (kD k)=some k:=by
 cases k with
 | inl i=>rfl
 | inr x=>
  show some (Sum.inr (S x.cps.toList))=_
  rw [mZ]
theorem j7:∀ ks:List Key,e9 (ks.map kD)=some ks
 | []=>rfl
 | k :: ks=>by
  rw [List.map_cons,e9,AI,j7 ks]
  rfl
theorem iX:∀ GP:List (List Key),jd (GP.map kT)=some GP
 | []=>rfl
 | k :: GP=>by
  rw [List.map_cons,jd]
  show (e9 (k.map kD)).bind _=_
  rw [j7,iX GP]
  rfl
section
variable {X:Cx}
theorem OD {α:Type} {lt:α->α->Bool} {p:α->α->Prop} (h:∀ a b,p a b->lt b a=false) {l:List α} (q:l.Pairwise p):l.Pairwise (fun a b=>lt b a=false):=q.imp (h _ _)
theorem nO (hc:X.calm=true):cW X (.builtin "sorted") (rC X.K fV):=by
 rintro pins s σ H xs us Q I rx ⟨G,fp,es,vs,ds,r,⟨rel,k⟩,vd,e⟩
 unfold fV at e
 split at e
 ·rename_i ds
  split at e
  ·rename_i IT
   split at e
   ·rename_i l hl
    cases e
    obtain ⟨v,ev,p,ys,ep,sq,rs⟩:=kO vd
    subst ev
    subst ep
    unfold j5 at hl
    split at hl
    ·rename_i ns KD
     cases hl
     have hy:=g8 KD rs
     subst hy
     have hlen:ns.length < 64:=by have:=rs.length;rw [List.length_map] at this;lia
     refine ju hc pins s σ H _ us Q I rx ⟨p,ns,rfl,sq,hlen,fun q ms hq pm sm=>?_⟩
     have em:=iw ym pm (OD (fun a b h=>by unfold ltI;rw [decide_eq_false_iff_not];lia) sm)
     subst em
     obtain ⟨Ek,Ew⟩:=rel.newL hq (fm (K:=X.K) (G:=G) (f:=D.int) (g:=V.int) fun a _=>a8 a)
     exact k _ _ G _ Ew Ek
    ·split at hl
     ·rename_i ls hls
      cases hl
      obtain ⟨hy,hz⟩:=fg hls rs
      subst hy
      have hlen:ls.length < 64:=by have:=rs.length;rw [List.length_map] at this;lia
      refine jv hc pins s σ H _ us Q I rx ⟨p,ls,rfl,sq,hlen,fun q ms hq pm sm=>?_⟩
      have em:=iw o7 pm (OD (fun a b h=>by unfold IJ;rw [decide_eq_false_iff_not];exact h) sm)
      obtain ⟨Ek,Ew⟩:=rel.newL hq (fm (K:=X.K) (G:=G) (f:=D.str) (g:=fun l=>V.str (S l)) (l:=ms) fun a ha=>g6 (hz a (pm.mem_iff.mp ha)))
      rw [<-em] at k
      exact k _ _ G _ Ew Ek
     ·split at hl
      ·rename_i kk GP hk
       split at hl
       ·rename_i hsk
        cases hl
        obtain ⟨al,h1,h2,h3,h4⟩:=j4 hk rs
        obtain ⟨top,t,GQ⟩:=iy hsk
        subst h1
        have hlen:al.length < 64:=by have:=rs.length;rw [List.length_map] at this;lia
        refine jw hc pins s σ H _ us Q I rx ⟨p,al,top,t,rfl,sq,fun a ha=>⟨SqT.of (rel.gh _ _ (h4 a ha).1),GQ a.2 (by rw [h2];exact List.mem_map.mpr ⟨a,ha,rfl⟩)⟩,hlen,fun q ms hq pm sm=>?_⟩
        have em:ms.map (·.2)=EB dH (kk :: GP):=by
         rw [h2]
         refine iw tL (pm.map _) ?_
         rw [List.pairwise_map]
         exact sm
        obtain ⟨Ek,Ew⟩:=rel.newL hq (fm (K:=X.K) (G:=G) (f:=fun a:Addr×List Key=>kT a.2) (g:=fun a=>V.ref a.1) (l:=ms) fun a ha=>(h4 a (pm.mem_iff.mp ha)).2)
        have ek:ms.map (fun a=>kT a.2)=(EB dH (kk :: GP)).map kT:=by rw [<-em,List.map_map];rfl
        rw [ek] at Ek
        exact k _ _ G _ Ew Ek
       ·cases hl
      ·cases hl
   ·cases e
  ·cases e
 ·rename_i ks vv
  split at e
  ·rename_i IT
   obtain ⟨v,ev,vt⟩:=kO vd
   obtain ⟨p,ys,o,ep,rd,dd,rs⟩:=vt
   subst ev
   subst ep
   obtain ⟨Em,eo,ek,ex,Il⟩:=dd
   subst eo
   have ek:ks=(Em.map (·.1)).map kT:=by rw [ek,List.map_map];rfl
   have hlen:Em.length < 64:=by rw [ek,List.length_map,List.length_map] at IT;exact IT
   have go:∀ (top:Bool) (t:List Bool),(∀ kv∈Em,kinds kv.1=top :: t)->r=(.l .f,.lst ((EB dH (Em.map (·.1))).map kT))->wpAny (model X.prog X.w) X.A (call (.builtin "sorted") us) (EP X pins σ Q) X.xe s:=fun top t GQ er=>by
    subst er
    refine kR hc pins s σ H _ us Q I rx ⟨p,Em,top,t,rfl,rd,GQ,hlen,fun q ms hq hm pm sm=>?_⟩
    have em:ms.map (·.2)=EB dH (Em.map (·.1)):=by
     refine iw tL pm ?_
     rw [List.pairwise_map]
     exact sm
    obtain ⟨G2,Ek,Ew,ht⟩:=rel.addT
    have HJ:∀ a∈ms,Rep X.K G2 (kT a.2) (.ref a.1):=fun a ha=>by
     unfold kT
     rw [Rep]
     refine ⟨a.1,_,rfl,ht _ _ (hm a ha),?_⟩
     refine fm (f:=kD) (g:=kV) fun key Gs=>AH ?_
     have:a.2∈Em.map (·.1):=pm.mem_iff.mp (List.mem_map.mpr ⟨a,ha,rfl⟩)
     obtain ⟨kv,HI,e2⟩:=List.mem_map.mp this
     exact Il kv HI key (by rw [e2];exact Gs)
    obtain ⟨EK,EX⟩:=Ek.newL hq (fm (K:=X.K) (G:=G2) (f:=fun a:Addr×List Key=>kT a.2) (g:=fun a=>V.ref a.1) (l:=ms) HJ)
    have ek:ms.map (fun a=>kT a.2)=(EB dH (Em.map (·.1))).map kT:=by rw [<-em,List.map_map];rfl
    rw [ek] at EK
    exact k _ _ G2 _ (Ew.trans EX) EK
   rw [ek,iX] at e
   split at e
   ·rename_i Ld
    cases e
    have:Em=[]:=by
     cases Em with
     | nil=>rfl
     | cons a b=>cases Ld
    subst this
    exact go true [] (fun _ h=>nomatch h) rfl
   ·rename_i kk GP heq hne
    split at e
    ·rename_i hsk
     cases e
     obtain ⟨top,t,GQ⟩:=iy hsk
     have heq:Em.map (·.1)=kk :: GP:=by
      injection heq
     refine go top t (fun kv HI=>GQ kv.1 ?_) (by rw [heq])
     rw [<-heq]
     exact List.mem_map.mpr ⟨kv,HI,rfl⟩
    ·cases e
   ·cases e
  ·cases e
 ·cases e
noncomputable def IW (a b:D):Res R:=match fe a,fe b with
 | some ks,some js=>if kinds ks == kinds js then .ok (.f,.bl (dH ks js)) else .bad
 | _,_=>LG a b
noncomputable def Nc (a b:D):Res R:=match fe a,fe b with
 | some ks,some js=>if kinds ks == kinds js then .ok (.f,.bl (!dH ks js)) else .bad
 | _,_=>match a,b with
  | .str a,.str b=>.ok (.f,.bl (!decide (a < b)))
  | a,b=>NZ a b
theorem j8 (hu:X.A.units < cLine):E2 X (compareOp .Lt) (rG X.K IW):=by
 rintro pins s σ H x y v u Q I rx ry ⟨G,fp,es,vs,a,b,r,⟨rel,k⟩,va,vb,e⟩
 unfold IW at e
 split at e
 ·rename_i ks js h1 h2
  split at e
  ·rename_i hk
   cases e
   have ra:Rep X.K G a x:=by cases a <;> first | exact va | cases h1
   have rb:Rep X.K G b y:=by cases b <;> first | exact vb | cases h2
   obtain ⟨p,e1,g1,_⟩:=cM h1 ra
   obtain ⟨p2,e2,g2,_⟩:=cM h2 rb
   subst e1
   subst e2
   exact Ao hu pins s σ H _ _ v u Q I rx ry ⟨p,p2,ks,js,rfl,rfl,SqT.of (rel.gh _ _ g1),SqT.of (rel.gh _ _ g2),beq_iff_eq.mp hk,k _ H G fp .refl (rel.push (cz _))⟩
  ·cases e
 ·exact CG pins s σ H x y v u Q I rx ry ⟨G,fp,es,vs,a,b,r,⟨rel,k⟩,va,vb,e⟩
theorem AJ (hu:X.A.units < cLine):E2 X (compareOp .GtE) (rG X.K Nc):=by
 rintro pins s σ H x y v u Q I rx ry ⟨G,fp,es,vs,a,b,r,⟨rel,k⟩,va,vb,e⟩
 unfold Nc at e
 split at e
 ·rename_i ks js h1 h2
  split at e
  ·rename_i hk
   cases e
   have ra:Rep X.K G a x:=by cases a <;> first | exact va | cases h1
   have rb:Rep X.K G b y:=by cases b <;> first | exact vb | cases h2
   obtain ⟨p,e1,g1,_⟩:=cM h1 ra
   obtain ⟨p2,e2,g2,_⟩:=cM h2 rb
   subst e1
   subst e2
   exact Ap hu pins s σ H _ _ v u Q I rx ry ⟨p,p2,ks,js,rfl,rfl,SqT.of (rel.gh _ _ g1),SqT.of (rel.gh _ _ g2),beq_iff_eq.mp hk,k _ H G fp .refl (rel.push (cz _))⟩
  ·cases e
 ·split at e
  ·rename_i l l'
   cases e
   obtain ⟨e1,h1⟩:=eK va
   obtain ⟨e2,h2⟩:=eK vb
   subst e1
   subst e2
   obtain ⟨t,rfl⟩:=rx
   obtain ⟨t',rfl⟩:=ry
   refine PySem.P.ge_str ?_
   rw [dB,dB]
   exact ⟨.bl _,H,I,rfl,k _ H G fp .refl (rel.push (cz _))⟩
  ·exact CI pins s σ H x y v u Q I rx ry ⟨G,fp,es,vs,_,_,r,⟨rel,k⟩,va,vb,e⟩
end
noncomputable def eNewD (tk:Bool):FX:=fun env=>.ok ((.d,.dct tk [] []),env)
section
variable {md:Mode} {X:Cx}
noncomputable def rj (ks vs:List D) (k v:D):List D×List D:=if ks.any (Er k) then (ks,(ks.zip vs).map fun p=>if Er k p.1 then v else p.2) else (ks++[k],vs++[v])
noncomputable def eQ (tk:Bool) (k:D):Bool:=if tk then (fe k).isSome else (j3 k).isSome
noncomputable def BY (i:Nat) (fk fv:FX):FS:=fun env=>(fv env).bind fun p=>(fk p.2).bind fun q=>match p.2[i]?,q.2[i]? with
 | some (some _),some (some (.d,.dct tk ks vs))=>if eQ tk q.1.2 && decide (ks.length < sizeLine) then .ok (.nx (q.2.set i (some (.d,.dct tk (rj ks vs q.1.2 p.1.2).1 (rj ks vs q.1.2 p.1.2).2)))) else .bad
 | _,_=>.bad
theorem tN (a b:Key):Er (kD a) (kD b)=decide (a=b):=by
 cases a with
 | inl i=>
  cases b with
  | inl j=>simp only [kD,Er];rw [Bool.eq_iff_iff];simp
  | inr y=>simp only [kD,Er];simp
 | inr x=>
  cases b with
  | inl j=>simp only [kD,Er];simp
  | inr y=>
   simp only [kD,Er]
   rw [Bool.eq_iff_iff]
   simp only [beq_iff_eq,decide_eq_true_eq,Sum.inr.injEq]
   exact ⟨fun h=>by rw [<-mZ x,<-mZ y,h],fun h=>by rw [h]⟩
theorem tP:∀ a b:List Key,iW (a.map kD) (b.map kD)=decide (a=b)
 | [],[]=>by simp [iW]
 | [],_ :: _=>by simp [iW]
 | _ :: _,[]=>by simp [iW]
 | a :: r,b :: t=>by
  rw [List.map_cons,List.map_cons,iW,tN,tP r t,Bool.eq_iff_iff]
  simp
theorem wW (a b:List Key):Er (kT a) (kT b)=decide (a=b):=by
 unfold kT
 rw [Er]
 exact tP a b
theorem nP {κ:Type} [DecidableEq κ] {K:W.Frag} {G:Hp} (f:κ->D) (hf:∀ a b,Er (f a) (f b)=decide (a=b)) {Em:List (κ×V)} {vs:List D} {k:κ} {v:D} {y:V} (r:Reps K G vs (Em.map (·.2))) (ry:Rep K G v y) :
  (jx Em k y).map (fun kv=>f kv.1)=(rj (Em.map fun kv=>f kv.1) vs (f k) v).1/\Reps K G (rj (Em.map fun kv=>f kv.1) vs (f k) v).2 ((jx Em k y).map (·.2)):=by
 have e:(Em.map fun kv=>f kv.1).any (Er (f k))=Em.any fun kv=>decide (kv.1=k):=by
  rw [List.any_map]
  congr 1
  funext kv
  show Er (f k) (f kv.1)=_
  rw [hf,Bool.eq_iff_iff]
  simp only [decide_eq_true_eq]
  exact ⟨fun z=>z.symm,fun z=>z.symm⟩
 unfold rj jx
 rw [e]
 split
 ·refine ⟨?_,?_⟩
  ·rw [List.map_map]
   refine List.map_congr_left fun kv _=>?_
   show f (if kv.1=k then (kv.1,y) else kv).1=f kv.1
   split <;> rfl
  ·rename_i J3
   clear e J3
   induction Em generalizing vs with
   | nil=>
    have:vs=[]:=List.eq_nil_of_length_eq_zero (by rw [<-r.length];rfl)
    subst this
    exact Reps.nil
   | cons kv Em ih=>
    cases vs with
    | nil=>have:=r.length;simp at this
    | cons d vs=>
     rw [List.map_cons,Reps.cons_iff] at r
     rw [List.map_cons,List.zip_cons_cons,List.map_cons,List.map_cons,List.map_cons]
     refine .cons ?_ (ih r.2)
     show Rep K G (if Er (f k) (f kv.1)=true then v else d) (if kv.1=k then (kv.1,y) else kv).2
     rw [hf]
     by_cases hk:kv.1=k
     ·rw [if_pos (by simp [hk]),if_pos hk]
      exact ry
     ·rw [if_neg (by simp;exact fun z=>hk z.symm),if_neg hk]
      exact r.1
 ·refine ⟨?_,?_⟩
  ·rw [List.map_append]
   rfl
  ·rw [List.map_append]
   exact r.app (.one ry)
theorem Rel.chgD {K:W.Frag} {G H:Hp} {es:PV.Env} {vs:L2.St} {fp:List Addr} {i:Nat} {tk:Bool} {ks ws:List D} (q:Rel K G H es vs fp) (e:es[i]?=some (some (.d,.dct tk ks ws))):∃ p xs u,vs[i]?=some (some (.ref p))/\H p=some u/\DictO u tk ks xs/\Reps K G ws xs/\
  ∀ u' Gj Gb LI,DictO u' tk Gj Gb->Reps K G LI Gb->∃ fq,Rel K G (upd H p u') (es.set i (some (.d,.dct tk Gj LI))) vs fq/\Step G H fp G (upd H p u') fq:=by
 obtain ⟨v,fq,ev,g,st,Gk⟩:=q.out e
 obtain ⟨y,ys,e0,v',a,b,e1,e2,r1,r2⟩:=g.rep
 cases e0
 cases e1
 rw [RepO] at r1
 obtain ⟨p,xs,u,e3,hp,dd,e4,rs⟩:=r1
 subst e3
 subst e4
 subst e2
 have nd:=List.nodup_cons.mp (show (p :: b).Nodup from g.nd)
 refine ⟨p,xs,u,ev,hp,dd,rs,fun u' Gj Gb LI JX GD=>?_⟩
 have g2:Rel K G (upd H p u') (some (.d,.dct tk Gj LI) :: es.set i none) (some (.ref p) :: vs) (p :: b):=by
  refine ⟨⟨some (.ref p),vs,rfl,.ref p,[p],b,rfl,rfl,?_,r2.step (.refl _) fun z hz=>aP fun e=>nd.1 (e▸hz)⟩,g.nd,g.gn,fun z o ez=>?_⟩
  ·rw [RepO]
   exact ⟨p,Gb,u',rfl,bK,JX,rfl,GD⟩
  ·have:z≠p:=fun w=>by
    subst w
    rw [g.gn z List.mem_cons_self] at ez;cases ez
   rw [aP this]
   exact g.gh z o ez
 have NV:Step G H (p :: b) G (upd H p u') (p :: b):=by
  refine ⟨.refl _,fun z o ez nz=>?_,fun z hz=>.inl hz,fun z o ez=>.inl ez,fun z o ez=>?_⟩
  ·have:z≠p:=fun w=>nz (by rw [w];exact List.mem_cons_self)
   rw [aP this]
   exact ez
  ·by_cases w:z=p
   ·subst w
    exact ⟨_,bK⟩
   ·exact ⟨o,by rw [aP w];exact ez⟩
 obtain ⟨fz,g3,EX⟩:=g2.back (i:=i) (by rw [List.length_set];exact (List.getElem?_eq_some_iff.mp e).1) ev
 rw [List.set_set] at g3
 exact ⟨fz,g3,st.trans (NV.trans EX)⟩
theorem tR {K:W.Frag} {G:Hp} {d:D} {k:Key} {v:V} (e:j3 d=some k) (r:Rep K G d v):wK k:=by
 cases d with
 | int i=>cases e;trivial
 | str l=>
  cases e
  show (S l).cps.toList.length<=sizeLine
  rw [dB]
  exact (bx r).2
 | _=>cases e
theorem tS {K:W.Frag} {G:Hp}:∀ {ds:List D} {ks:List Key} {xs:List V},e9 ds=some ks->Reps K G ds xs->∀ k∈ks,wK k
 | [],_,_,e,_=>by
  cases e
  exact fun _ h=>nomatch h
 | d :: ds,_,_,e,r=>by
  rw [e9,Option.bind_eq_some_iff] at e
  obtain ⟨k,e1,e⟩:=e
  rw [Option.map_eq_some_iff] at e
  obtain ⟨ks,e2,e3⟩:=e
  subst e3
  rw [Reps] at r
  obtain ⟨y,ys,e4,r1,r2⟩:=r
  intro z hz
  rcases List.mem_cons.mp hz with rfl | hz
  ·exact tR e1 r1
  ·exact tS e2 r2 z hz
theorem qm {κ:Type} [DecidableEq κ] {P:κ->Prop} {Em:List (κ×V)} {k:κ} {y:V} (h:∀ kv∈Em,P kv.1) (hk:P k):∀ kv∈jx Em k y,P kv.1:=by
 intro kv HI
 unfold jx at HI
 split at HI
 ·obtain ⟨z,hz,e⟩:=List.mem_map.mp HI
  rw [<-e]
  split
  ·exact h z hz
  ·exact h z hz
 ·rcases List.mem_append.mp HI with HI | HI
  ·exact h kv HI
  ·rw [List.mem_singleton] at HI
   rw [HI]
   exact hk
theorem AK {i:Nat} {o ix value:Expr} {fk fv:FX} {pos pos':Pos} (hu:X.A.units + 1 < cLine) (ho:PE X o (uV i)) (hi:QE X ix fk) (hv:QE X value fv) (hs:swapsWith value (some (.Subscript o ix pos')) pos.line X.env=pure false:=by rfl) :
  QS (md:=md) X (.Assign [.Subscript o ix pos'] value pos) (BY i fk fv):=fQ (xZ hu ho hi hv hs) fun Dd σ H EA=>by
 obtain ⟨G,env,fp,rel,k⟩:=EA
 unfold BY at k
 match q1:fv env,k with
 | .ok (r1,Ej),k=>
  have k:OutOk X.K G H fp Dd ((fk Ej).bind fun q=>match Ej[i]?,q.2[i]? with
   | some (some _),some (some (.d,.dct tk ks vs))=>if eQ tk q.1.2 && decide (ks.length < sizeLine) then .ok (.nx (q.2.set i (some (.d,.dct tk (rj ks vs q.1.2 r1.2).1 (rj ks vs q.1.2 r1.2).2)))) else .bad
   | _,_=>.bad):=k
  match q2:fk Ej,k with
  | .ok (r2,Ep),k=>
   have k:OutOk X.K G H fp Dd (match Ej[i]?,Ep[i]? with
    | some (some _),some (some (.d,.dct tk ks vs))=>if eQ tk r2.2 && decide (ks.length < sizeLine) then .ok (.nx (Ep.set i (some (.d,.dct tk (rj ks vs r2.2 r1.2).1 (rj ks vs r2.2 r1.2).2)))) else .bad
    | _,_=>.bad):=k
   split at k
   ·rename_i rr tk ks ws h1 h2
    split at k
    ·rename_i hc
     rw [Bool.and_eq_true,decide_eq_true_eq] at hc
     refine ⟨G,env,fp,r1,Ej,rel,q1,fun y H1 G1 EH EC Eo=>?_⟩
     obtain ⟨G2,b,ry,Ek,Ew⟩:=Eo.freeze
     obtain ⟨v0,Mf,_⟩:=Ek.view h1
     refine ⟨v0,Mf,G2,Ej,b,r2,Ep,Ek,q2,fun z H3 G3 G0 EX EK=>?_⟩
     obtain ⟨G4,b4,rz,E4,FY⟩:=EK.freeze
     obtain ⟨p,xs,u,ep,hp,dd,rs,cg⟩:=E4.chgD h2
     rw [Mf] at ep
     cases ep
     have Nf:Rep X.K G4 r1.2 y:=Rep.mono (EX.gg.trans FY.gg) ry
     cases tk with
     | true=>
      obtain ⟨Em,eu,ek,ex,Il⟩:=dd
      subst eu
      subst ex
      have hk:=hc.1
      unfold eQ at hk
      rw [if_pos rfl,Option.isSome_iff_exists] at hk
      obtain ⟨kk,hk⟩:=hk
      obtain ⟨pz,ez,gz,dz⟩:=cM hk rz
      subst ez
      obtain ⟨t1,t2⟩:=nP (K:=X.K) (G:=G4) kT wW (k:=kk) rs Nf
      have ek:ks=Em.map fun kv=>kT kv.1:=ek
      rw [<-ek,<-dz] at t1 t2
      have hfk:∀ key∈kk,wK key:=by
       cases hd:r2.2 with
       | tup ds=>
        rw [hd] at hk rz
        obtain ⟨_,Gb,_,_,GD⟩:=tj rz
        exact tS hk GD
       | _=>rw [hd] at hk;cases hk
      obtain ⟨fq,FV,GJ⟩:=cg (.dT (jx Em kk y)) _ _ _ ⟨jx Em kk y,rfl,t1.symm,rfl,qm (P:=fun ks=>∀ k∈ks,wK k) Il hfk⟩ t2
      have hlen:Em.length < sizeLine:=by have:=hc.2;rw [ek,List.length_map] at this;exact this
      exact ⟨p,_,rfl,DPut.t hp (E4.gh _ _ gz) hlen,k _ _ G4 fq (EC.trans (Ew.trans (EX.trans (FY.trans GJ)))) FV⟩
     | false=>
      obtain ⟨Em,eu,ek,ex,Il⟩:=dd
      subst eu
      subst ex
      have hk:=hc.1
      unfold eQ at hk
      rw [if_neg Bool.false_ne_true,Option.isSome_iff_exists] at hk
      obtain ⟨kk,hk⟩:=hk
      obtain ⟨ez,dz⟩:=gI hk rz
      subst ez
      obtain ⟨t1,t2⟩:=nP (K:=X.K) (G:=G4) kD tN (k:=kk) rs Nf
      rw [<-ek,<-dz] at t1 t2
      obtain ⟨fq,FV,GJ⟩:=cg (.dK (jx Em kk y)) _ _ _ ⟨jx Em kk y,rfl,t1.symm,rfl,qm (P:=wK) Il (tR hk rz)⟩ t2
      have hlen:Em.length < sizeLine:=by have:=hc.2;rw [ek,List.length_map] at this;exact this
      exact ⟨p,_,rfl,DPut.k hp hlen,k _ _ G4 fq (EC.trans (Ew.trans (EX.trans (FY.trans GJ)))) FV⟩
    ·exact k.elim
   ·exact k.elim
end
end PV
namespace NX
open PySem PySem.Spec PyProof.Rows L2
section
variable {prog:Program} {w:World} {A:Around} {E:Value->Shared->Prop} {s:Shared} {d:Addr} {es:Array DictEntry} {ep:Nat}
theorem me (nm:(d == sysModules)=false):MeetsIn prog w (Builtin.«dict.__len__» ⟨[.ref d],[]⟩) (fun _ R s=>RawD s.heap d es ep/\R (.ok (.ret (.int es.size s.toks))) { s with toks:=s.toks + 1 }):=
 .of_wp fun A R s EA=>by
  obtain ⟨⟨o,g,_,dat⟩,h⟩:=EA
  show wpAny _ _ (dictSize d >>= fun _=>_) _ _ s
  unfold dictSize
  refine wpAny_bind (wpAny_bind (wpAny_dictEntries g dat (wpAny_pure ?_)))
  show wpAny _ _ (Builtin.Dict.pendingCount d >>= fun _=>_) _ _ s
  refine wpAny_bind (wpAny_pendingCount_other nm (wpAny_ret_mkInt ?_))
  rw [Nat.add_zero]
  exact h
theorem yn {Q:Value->Shared->Prop} (nm:(d == sysModules)=false) (x:RawD s.heap d es ep) (hf:(es.size:Int) < 2 ^ 63) (h:Q (.int es.size (s.toks + 1)) { s with toks:=s.toks + 1 + 1 }):wpAny (model prog w) A (call (.builtin "len") [.ref d]) Q E s:=by
 have ty:=jH x
 refine Calls.call_function_entry kind_len plain_len entry_len (args_len1 _) ?_
 unfold Builtin.«len»
 refine wpAny_bind (m:=oneArg "len" _) (wpAny_pure (wpAny_bind (m:=callSpecial? (.ref d) (Str.ofString "__len__")) (wpAny_callSpecial?_slot (name:=Str.ofString "__len__") ty F.slot_dict_len
  (call_meetsIn F.slot_dict_len ty F.entry_dict_len (F.args_dict_len_1 _) (me (es:=es) (ep:=ep) nm) ⟨x,?_⟩))))
 show wpAny _ _ _ _ _ { s with toks:=s.toks + 1 }
 refine wpAny_bind (wpAny_holding (wpAny_pure (wpAny_bind (wpAny_letGo ?_))))
 show wpAny _ _ (if ((es.size:Nat):Int) < 0 then _ else _) _ _ _
 rw [if_neg (Int.not_lt.mpr (Int.natCast_nonneg _))]
 show wpAny _ _ (if ((es.size:Nat):Int) >= 2 ^ 63 then _ else _) _ _ _
 rw [if_neg (Int.not_le.mpr hf)]
 exact wpAny_bind (wpAny_mkInt (wpAny_pure ⟨_,rfl,h⟩))
end
end NX
namespace PV
open PySem PySem.Spec PyProof.Rows L2 NX
section
variable {X:Cx}
noncomputable def mf:List D->Res R
 | [.dct _ ks _]=>.ok (.f,.int ks.length)
 | ds=>CK ds
theorem AL {pins:List (Addr×Obj)} {σ:L2.St} {H:Hp} {s:Shared} (I:Inv X pins σ H s) {p:Addr} {o:HO} {tk:Bool} {ks:List D} {xs:List V} (rd:Rd H p o) (dd:DictO o tk ks xs):(p == sysModules)=false/\∃ es ep,RawD s.heap p es ep/\es.size=ks.length/\ks.length<=sizeLine:=by
 have ok:=rd.ok I.hok
 cases tk with
 | true=>
  obtain ⟨Em,eo,ek,_⟩:=dd
  subst eo
  obtain ⟨z,nm,ws,r,o2,es,ep,h1,h2,h3,h4,_⟩:=ok
  refine ⟨nm,es,ep,⟨o2,h1,h2,h3⟩,?_,by rw [ek,List.length_map];exact z⟩
  have:=congrArg List.length h4
  rw [List.length_map,Array.length_toList,<-Paired.length r] at this
  rw [ek,List.length_map]
  exact this
 | false=>
  obtain ⟨Em,eo,ek,_⟩:=dd
  subst eo
  obtain ⟨z,nm,ws,r,o2,es,ep,h1,h2,h3,h4,h5,_⟩:=ok
  refine ⟨nm,es,ep,⟨o2,h1,h2,h3⟩,?_,by rw [ek,List.length_map];exact z⟩
  have l1:=h5.length
  have l2:Em.length=ws.length:=Paired.length r
  rw [ek,List.length_map]
  rw [Array.length_toList] at l1
  lia
theorem dJ:cW X (.builtin "len") (rC X.K mf):=by
 rintro pins s σ H xs us Q I rx ⟨G,fp,es,vs,ds,r,⟨rel,k⟩,vd,e⟩
 unfold mf at e
 split at e
 ·rename_i tk ks ws
  cases e
  obtain ⟨v,ev,p,ys,o,ep,rd,dd,_⟩:=kO vd
  subst ev
  subst ep
  obtain ⟨u,rfl,ru⟩:=dN rx
  cases ru
  obtain ⟨nm,en,ep,raw,h1,h2⟩:=AL I rd dd
  refine yn nm raw (by rw [h1];rw [sizeLine_eq] at h2;lia) ?_
  refine ⟨.int ks.length,H,I.tok _,⟨_,by rw [h1]⟩,k _ H G fp .refl (rel.push (a8 _))⟩
 ·exact Ax pins s σ H xs us Q I rx ⟨G,fp,es,vs,_,r,⟨rel,k⟩,vd,e⟩
noncomputable def CN (g:List Nat->List D->Res R) (fa:FO) (fs:FOs):FX:=fun env=>(fa env).bind fun p=>match EU p.2 p.1 with
 | .ok (.str l)=>(fs p.2).bind fun q=>(oM q.2 q.1).bind fun ds=>(g l ds).bind fun r=>.ok (r,q.2)
 | _=>.bad
inductive rMtS (K:W.Frag) (g:List Nat->List D->Res R) (x:V) (xs:List V) (H:Hp) (Q:VK):Prop
 | mk:∀ G fp es vs l ds r,Goes K H G fp es vs r Q->x=.str (S l)->l.length<=sizeLine->KG K G H ds xs->g l ds=.ok r->rMtS K g x xs H Q
theorem AM {g:List Nat->List D->Res R} {id:String} {name:Str} {o e:Expr} {es:List Expr} {fa:FO} {fs:FOs} {apos EG:Pos} (slot:Slot "str" name id) (Jj:typeOf (.builtin id)=pure (.type "method_descriptor")) (hm:JR X id (rMtS X.K g)) (ho:QO X o fa) (ha:Jq X (e :: es) fs)
  (Fz:attributeBase o name X.env (eval o X.env)=eval o X.env:=by rfl)
  (GL:((backTo EG (starEach (e :: es) X.env)).all (fun x=>!x.1) && (backToKw EG (keywordEach [] X.env)).all (fun x=>x.1.isSome) && decide ((e :: es).length + ([]:List Keyword).length + (if ([]:List Keyword).isEmpty then 0 else 1) < 30))=true:=by rfl)
  (FA:(apos.endLine == EG.line)=true:=by rfl) (hs:starEach (e :: es) X.env=(false,eval e X.env) :: starEach es X.env:=by rfl) (E7:(backTo EG (starEach es X.env)).any (·.1)=false:=by rfl) :
  QE X (.Call (.Attribute o name apos) (e :: es) [] EG) (CN g fa fs):=by
 refine bU (xG PySem.F.plainAttrs_str slot Jj hm ho ha Fz GL FA hs E7) fun σ H Q EE=>?_
 obtain ⟨G,env,fp,r,env',rel,e,k⟩:=EE
 obtain ⟨⟨oa,Ej⟩,e1,e⟩:=ar e
 dsimp only at e
 split at e
 ·rename_i l hl
  obtain ⟨⟨os,Ep⟩,e2,e⟩:=ar e
  obtain ⟨ds,e3,e⟩:=ar e
  obtain ⟨r',e4,e⟩:=ar e
  cases e
  refine ⟨G,env,fp,oa,Ej,rel,e1,fun v H1 G1 EH EC Eo Gd=>?_⟩
  obtain ⟨ev,hz⟩:=eK (Eo.vw Gd hl)
  subst ev
  exact ⟨rfl,G1,Ej,EH,os,Ep,Eo,e2,fun vs H2 G2 E3 Ew Ek IU=>⟨G2,E3,Ep,σ,l,ds,r,⟨Ek,fun v H' G' Et st EL=>k v H' G' Et (EC.trans (Ew.trans st)) EL⟩,rfl,hz,Ek.vws IU e3,e4⟩⟩
 ·cases e
end
theorem fnok_of {P:Program} {w:World} {K:W.Frag} {mg:Str->Option Value} {base:Heap} {x:Str} {st:Stmt} {N ps:List Str} {k:Nat} {g:FS} {f:Addr} {fd:FuncData} (F:Fun K x x st f fd) (sc:FnScope N ps (defScope st))
  (body:∀ (EJ:Value) (A:Around) (outer:List PySem.Env) (s:Shared) (H:Hp) (E:XK),Room k (A.deeper (envOfC x (defScope st) s.heap.objs.size f EJ))->JM (md:=.plain) (wu Jl P w K mg base N x (defScope st) f EJ A outer s H E).nox (dW st) g) :
  FnOk P w K mg base Jl (k + 1) f fd ps (spF K (fBody ps.length (N.length - ps.length) g)):=by
 refine F.ok sc (fun vs H Q E h=>?_) (fun EJ A outer s H vs Q E hr h=>?_)
 ·obtain ⟨G,ds,r,_,rs,e,_⟩:=h
  unfold fBody at e
  split at e
  ·rename_i hl
   rw [rs.length,hl]
  ·cases e
 ·obtain ⟨G,ds,r,gh,rs,e,q⟩:=h
  unfold fBody at e
  split at e
  ·rename_i hl
   refine ⟨_,body EJ A outer s H E hr,G,ds.map (fun d=>some (O.f,d))++List.replicate (N.length - ps.length) none,[],⟨?_,List.nodup_nil,(fun _ h=>nomatch h),gh⟩,?_⟩
   ·have:=jW (K:=K) (G:=G) (H:=H) (N.length - ps.length) rs
    unfold L2.start
    rw [rs.length,hl]
    exact this
   ·obtain ⟨o,eo,e⟩:=ar e
    rw [eo]
    cases o with
    | rt r'=>
     cases e
     exact fun v H' G' Et st rel=>q v H' G' Et st rel
    | nx env'=>
     cases e
     exact fun σ' H' G' Et st rel=>q .non H' G' [] (st.trans (Step.cut fun _ h=>nomatch h)) (rel.nilF.push o4)
    | bk env'=>cases e
    | ct env'=>cases e
  ·cases e
noncomputable def vR (K:W.Frag):Sp:=fun vs H Q _=>∃ (a:Addr) (ns:List Int),vs=[.ref a]/\SqL K H a (ns.map V.int)/\ns.length<=63/\∀ H',Q (.bl true) H'
theorem AN {K:W.Frag} {F:List D->Res R} (h:∀ ns:List Int,ns.length<=63->∃ o,F [.lst (ns.map D.int)]=.ok (o,.bl true)):∀ vs H Q E,vR K vs H Q E->spF K F vs H Q E:=by
 rintro vs H Q E ⟨a,ns,rfl,sq,hl,q⟩
 obtain ⟨o,e⟩:=h ns hl
 refine ⟨H,_,_,.refl _,?_,e,fun v H' G' Et st rel=>?_⟩
 ·refine .one ?_
  rw [Rep]
  exact ⟨a,_,rfl,sq,fm fun n _=>a8 n⟩
 ·rw [cX rel.top]
  exact q H'
theorem _root_.L2.Room.u65 {k:Nat} {A:Around} (r:Room k A):A.units + 65 < cLine:=by have:=r.un;lia
noncomputable def AO (f:FX) (a:FG):FS:=fun env=>(f env).bind fun p=>(a p.1.2 p.2).bind fun e=>.ok (.nx e)
theorem wX {X:Cx} {tg e:Expr} {f:FX} {a:FG} {pos:Pos} (he:QE X e f) (hg:QG X tg a) (hs:swapsWithSole [tg] e pos.line X.env=pure false:=by rfl) (hw:swappedStores [tg] e X.env=pure none:=by rfl)
  (h1:(assignEach [tg] X.env).map (·.2)=[assign tg X.env]:=by rfl):QS (md:=md) X (.Assign [tg] e pos) (AO f a):=fQ (zT he hg hs hw h1) fun Dd σ H EA=>by
 obtain ⟨G,env,fp,rel,k⟩:=EA
 unfold AO at k
 match q:f env,k with
 | .ok (r,Ej),k=>
  have k:OutOk X.K G H fp Dd ((a r.2 Ej).bind fun e=>.ok (.nx e)):=k
  match q2:a r.2 Ej,k with
  | .ok Ep,k=>
   refine ⟨G,env,fp,r,Ej,rel,q,fun v H1 G1 EH EC Eo=>?_⟩
   obtain ⟨G2,b,rv,Ek,Ew⟩:=Eo.freeze
   exact ⟨G2,Ej,b,r.2,Ep,Ek,rv,q2,fun σ' G' Et st EL=>k σ' H1 G' Et (EC.trans (Ew.trans st)) EL⟩
theorem D3 {l:PySem.W.OpenLaw} {q:Program} {loose:List Str} {XP:(Str->Option Value)->Heap->Prop} {YP:World->Heap->Prop} {d:DefRec} {K:Params->W.Frag} {k:Nat} {x:Str} (hn:l.most=some 63) (LV:d.params.defaults=[]) (hr:Room k PySem.callerA)
  (hY:∀ (w:World) (h:Heap),YP w h->(K w.params).In h)
  (F:∀ (w:World) (mg:Str->Option Value) (fa:Addr) (h:Heap),(K w.params).In h->h.Ns mainGlobals mg->mg d.name=some (.ref fa)->
   ∃ fd:FuncData,(∀ (s:Shared) (u:Value),BindsTo s fd ⟨[u],[]⟩ [(x,u)])/\∀ base:Heap,(K w.params).In base->base.Ns mainGlobals mg->FnOk l.prog w (K w.params) mg base Jl k fa fd [x] (vR (K w.params))) :
  PySem.W.WalkO q loose XP YP l.row.toRowW d [] (fun f vs=>PySem.call f vs):=
 L2.xI (n:=63) (k:=k) (x:=x) (CX:=fun _=>Jl) (sp:=fun w=>vR (K w.params)) hn (by decide) LV hr hY F (fun _ _ a ns hl _ hS=>⟨a,ns,rfl,hS,hl,fun _=>rfl⟩) fun _ _ _ _ _ z=>z
theorem qo:bootBuiltins "max" = some (.builtin "max"):=by decide +kernel
theorem wY:bootBuiltins "min" = some (.builtin "min"):=by decide +kernel
theorem AQ:bootBuiltins "sum" = some (.builtin "sum"):=by decide +kernel
theorem AR:bootBuiltins "all" = some (.builtin "all"):=by decide +kernel
theorem wZ:bootBuiltins "any" = some (.builtin "any"):=by decide +kernel
theorem nQ:bootBuiltins "sorted" = some (.builtin "sorted"):=by decide +kernel
theorem bM {K:W.Frag} {h:Heap} {mg:Str->Option Value} {x:Str} {st:Stmt} {f:Addr} {oc:Value} {od an:Option Addr} {JJ:Array (Option Value)} {kV doc pm EJ ct:Value} (X:K.In h) (G:h.Ns mainGlobals mg)
  (a:PySem.W.nsIn K mainGlobals x=some (some (.ref f))) (l:K.lookup f=some ⟨oc,od,.func (PySem.W.fnOf x x (fP st) (dW st) (defScope st) .none kV doc pm an EJ ct),JJ⟩)
  (c:PySem.W.codeIn K EJ x=true) (k:PySem.W.keepIn K (.ref f)=true):Def K mg x st:=⟨f,_,wz l c k,PySem.W.mg_of X G a⟩
inductive tQL (K:W.Frag) (f:FI) (σ:L2.St) (H:Hp) (R:It->Hp->Prop):Prop
 | mk:∀ G env fp ds env',Rel K G H env σ fp->f env=.ok (ds,env')->(∀ J H' G' Et,Step G H fp G' H' Et->Rel K G' H' env' σ Et->(∀ G2,Same G' G2->(∀ (i:Nat) (r:PV.R) (v:V),env'[i]?=some (some r)->σ[i]?=some (some v)->Rep K G2 r.2 v)->Walk K G2 J ds)->R J H')->tQL K f σ H R
def Le (X:Cx) (tg e:Expr) (f:FI):Prop:=PI X tg e (tQL X.K f)
theorem Walk.mono {K:W.Frag} {G G2:Hp} {J:It} {ds:List D} (w:Walk K G J ds) (gg:Same G G2):Walk K G2 J ds:=fun G' H' es vs fp g rel=>w G' H' es vs fp (gg.trans g) rel
theorem w4 {K:W.Frag} {fi:FI} {ix:List (Option Nat)} {a:FG} {c:FT} {f:FX} {σ:L2.St} {H:Hp} {Q:VK} (h:tQ K (cu fi ix a c f) σ H Q):xJ (tQL K fi) ix (tQG K a) (tQT K c) (tQ K f) σ H Q:=by
 obtain ⟨G,env,fp,r,env',rel,e,k⟩:=h
 obtain ⟨⟨ds,Ej⟩,e1,e⟩:=ar e
 obtain ⟨rs,e2,e⟩:=ar e
 refine ⟨G,env,fp,ds,Ej,rel,e1,fun J H1 G1 EH EC Eo wk D hD=>?_⟩
 dsimp only at e e2
 split at e
 ·rename_i hz
  have er:r=(.l .f,.lst rs):=by cases e;rfl
  have ee:env'=if flatDs rs then Ej else Ej.map frz:=by cases e;rfl
  subst er
  obtain ⟨G2,NW,NY,HJ,hrE,Jr⟩:=Eo.lend
  have wk2:=wk G2 NW HJ
  have Ek:Rel K G2 H1 (dZ ix Ej) (k9 ix σ) []:=⟨fT HJ (fun i r er=>let ⟨v,ev,_⟩:=Eo.view er;⟨v,ev⟩) ix,List.nodup_nil,(fun _ h=>nomatch h),NY⟩
  obtain ⟨EK,EX⟩:=Ek.newL (ds:=[]) (xs:=[]) hD .nil
  refine ⟨fun i m σ1 H2=>m=ds.length - i/\i<=ds.length/\∃ G' es Et acc fE,Step G2 H1 [] G' H2 Et/\Rel K G' H2 (some (.l .f,.lst acc) :: es) (some (.ref D) :: σ1) Et/\b5 a c f (ds.drop i) es=.ok fE/\acc++fE=rs,
   ⟨_,rfl,Nat.zero_le _,G2,dZ ix Ej,_,[],rs,EX,EK,e2,rfl⟩,?_⟩
  rintro i m σ1 H2 ⟨rfl,hi,G3,es,G0,acc,fE,FY,E4,e4,Jw⟩
  obtain ⟨w1,w2⟩:=wk2 G3 H2 _ _ _ FY.gg E4 i
  by_cases EY:i < ds.length
  ·have hd:ds[i]?=some ds[i]:=List.getElem?_eq_getElem EY
   obtain ⟨go,yl⟩:=w1 _ hd
   rw [List.drop_eq_getElem_cons EY] at e4
   unfold b5 at e4
   obtain ⟨OE,h1,e4⟩:=ar e4
   obtain ⟨⟨b,Mg⟩,h2,e4⟩:=ar e4
   dsimp only at e4
   refine .inr ⟨go,fun x H3 y=>?_⟩
   obtain ⟨G4,rx,FV,GJ⟩:=yl x H3 y
   obtain ⟨fa,fb,OF,ra,relb,bk⟩:=FV.frame
   refine ⟨G4,es,fb,ds[i],OE,relb,rx,h1,fun σ2 G5 Mh st6 rel6=>?_⟩
   refine ⟨G5,OE,Mh,b,Mg,rel6,h2,fun H6 G6 OG st7 Mi=>?_⟩
   have Mj:=st6.trans st7
   cases b with
   | false=>
    refine iteF ⟨ds.length - (i + 1),by lia,rfl,EY,?_⟩
    obtain ⟨Jx,J4⟩:=bk G6 H6 Mg σ2 OG Mj Mi
    rw [<-OF] at J4
    exact ⟨G6,Mg,_,acc,fE,FY.trans (GJ.trans J4),Jx,e4,Jw⟩
   | true=>
    have e4:((f Mg).bind fun q=>(b5 a c f (ds.drop (i + 1)) q.2).bind fun rs=>.ok (q.1.2 :: rs))=.ok fE:=e4
    obtain ⟨⟨r,N4⟩,h3,e4⟩:=ar e4
    obtain ⟨Mk,h4,e4⟩:=ar e4
    cases e4
    refine BV ⟨G6,Mg,OG,r,N4,Mi,h3,fun v H7 G7 fp7 st8 rel8=>?_⟩
    obtain ⟨G8,fp8,rv,rel9,st9⟩:=rel8.freeze
    obtain ⟨Jx,J4⟩:=bk G8 H7 N4 σ2 fp8 (Mj.trans (st8.trans st9)) rel9
    rw [<-OF] at J4
    obtain ⟨p,xs,ep,hp,Md,cg⟩:=Jx.chg (i:=0) (ds:=acc) (ds':=acc++[r.2]) rfl
    have ep:some (some (V.ref D))=some (some (V.ref p)):=ep
    cases ep
    obtain ⟨fq,rely,sty⟩:=cg (xs++[v]) (Md.app (.one rv))
    refine ⟨xs,hp,?_,ds.length - (i + 1),by lia,rfl,EY,G8,N4,fq,acc++[r.2],Mk,FY.trans (GJ.trans (J4.trans sty)),rely,h4,?_⟩
    ·rw [Md.length]
     have:=congrArg List.length Jw
     rw [List.length_append,List.length_cons] at this
     lia
    ·rw [<-Jw,List.append_assoc]
     rfl
  ·have ei:i=ds.length:=by lia
   subst ei
   rw [List.drop_length] at e4
   cases e4
   rw [List.append_nil] at Jw
   subst Jw
   refine .inl ⟨w2 rfl,?_⟩
   obtain ⟨fa,relo,sto⟩:=E4.only
   obtain ⟨k1,k2⟩:=Jr H2 G3 fa _ _ (FY.trans sto) relo
   rw [ee] at k
   by_cases hc:flatDs acc=true
   ·rw [if_pos hc] at k
    obtain ⟨G5,Mh,GJ,FV⟩:=k1 (by rw [bJ,lX];exact hc)
    exact k _ H2 G5 Mh (EC.trans GJ) FV
   ·rw [if_neg hc] at k
    obtain ⟨G5,Mh,GJ,FV⟩:=k2
    exact k _ H2 G5 Mh (EC.trans GJ) FV
 ·cases e
section
variable {md:Mode} {X:Cx} {scope:Scope} {N:List Str} {tg iter elt:Expr} {ifs:List Expr} {pos:Pos} {fi:FI} {a:FG} {c:FT} {f:FX}
variable {l e:Expr} {g fj:FI}
theorem bc (h:QI X tg e fi):Le X tg e fi:=jV h fun σ H R ⟨G,env,fp,ds,env',rel,e,k⟩=>⟨G,env,fp,ds,env',rel,e,fun J H' G' Et st EL wk=>k J H' G' Et st EL fun _ gg _=>wk.mono gg⟩
theorem cQ (h:Le X tg e fi) (h2:Le X tg e fj):Le X tg e (Fj fi fj):=fun pins s σ H R I EA=>by
 obtain ⟨G,env,fp,ds,env',rel,ee,k⟩:=EA
 rcases wV ee with z | z
 ·exact h pins s σ H R I ⟨G,env,fp,ds,env',rel,z,k⟩
 ·exact h2 pins s σ H R I ⟨G,env,fp,ds,env',rel,z,k⟩
noncomputable def gM (i:Nat):FI:=fun env=>match env[i]? with
 | some (some (_,.lst ds))=>.ok (ds,env)
 | _=>.bad
theorem eB {i:Nat} (h:PE X l (uV i)):Le X tg l (gM i):=jV (rU h) fun σ H R EA=>by
 obtain ⟨G,env,fp,ds,env',rel,e,k⟩:=EA
 unfold gM at e
 split at e
 ·rename_i o ds hr
  cases e
  obtain ⟨v,ev,rv⟩:=rel.view hr
  obtain ⟨p,xs,OH,sq,rs⟩:=bH rv
  refine ⟨v,ev,p,OH,⟨xs,sq⟩,k _ H G fp .refl rel fun G2 gg HJ=>?_⟩
  obtain ⟨p',Gb,Ml,FU,GD⟩:=bH (HJ i _ v hr ev)
  rw [OH] at Ml
  cases Ml
  exact nH FU GD
 ·cases e
theorem a9 (ix:List (Option Nat)) (N:List Str) (hc:X.calm=true) (hi:Le X tg iter fi) (hg:∀ C s H fp pn,QG (b0 X scope N C s H fp pn) tg a) (ht:∀ C s H fp pn,Na (b0 X scope N C s H fp pn) ifs c) (he:∀ C s H fp pn,QE (b0 X scope N C s H fp pn) elt f)
  (hf:ie scope X.env=true:=by rfl) (hk:scope.kind=.function:=by rfl) (E5:∀ y∈scope.names,y.2≠.cell:=by decide +kernel) (F1:∀ y∈scope.names,y.2=.local->scope.names.lookup y.1=some .local:=by decide +kernel) (Ga:wB X scope N ix=true:=by rfl)
  (hs:∀ x,foldedSetIterable iter X.env x=pure x:=by intro _;rfl):QE X (.ListComp elt [⟨tg,iter,ifs,0⟩] scope pos) (cu fi ix a c f):=
 bU (xN (g:=tQG X.K a) (tc:=tQT X.K c) (te:=tQ X.K f) ix N hc hi hg ht he hf hk E5 F1 Ga hs) fun _ _ _=>w4
theorem iz {i:Nat} {y:Str} {py Jn:Pos} (ix:List (Option Nat)) (N:List Str) (hN:X.N.Nodup) (NG:X.N[i]?=some y) (hy:Loc X.env.scope y) (hc:X.calm=true) (hi:Le X tg iter fi) (hg:∀ C s H fp pn,QG (b0 X scope N C s H fp pn) tg a) (ht:∀ C s H fp pn,Na (b0 X scope N C s H fp pn) ifs c)
  (he:∀ C s H fp pn,QE (b0 X scope N C s H fp pn) elt f) (NH:swapsWith (.ListComp elt [⟨tg,iter,ifs,0⟩] scope pos) (some (.Name y py)) Jn.line X.env=pure true:=by rfl)
  (hf:ie scope X.env=true:=by rfl) (hk:scope.kind=.function:=by rfl) (E5:∀ y∈scope.names,y.2≠.cell:=by decide +kernel) (F1:∀ y∈scope.names,y.2=.local->scope.names.lookup y.1=some .local:=by decide +kernel) (Ga:wB X scope N ix=true:=by rfl)
  (hs:∀ x,foldedSetIterable iter X.env x=pure x:=by intro _;rfl) (Jg:X.fn y=true\/X.env.scope.names.lookup y=some .local:=by first | exact .inl rfl | exact .inr rfl) :
  QS (md:=md) X (.Assign [.Name y py] (.ListComp elt [⟨tg,iter,ifs,0⟩] scope pos) Jn) (b9 i (cu fi ix a c f)):=
 fQ (xO (i:=i) (g:=tQG X.K a) (tc:=tQT X.K c) (te:=tQ X.K f) ix N hN NG hy hc hi hg ht he NH hf hk E5 F1 Ga hs Jg) fun D σ H ⟨G,env,fp,rel,k⟩=>w4 (tq rel k)
end
section
variable {X:Cx} {a:Expr} {pos:Pos} {fa:FO}
noncomputable def Eh (fa:FO):FX:=fun env=>(fa env).bind fun p=>(EU p.2 p.1).bind fun d=>match d with
 | .int i=>.ok ((.f,.int (-i)),p.2)
 | _=>.bad
theorem tU {i:Int} (h:i.natAbs < 2 ^ 1000):Builtin.Int.intBits i<=2 ^ 20:=by
 unfold Builtin.Int.intBits
 split
 ·exact Nat.zero_le _
 ·rename_i h0
  have h1:i.natAbs≠0:=by
   intro e
   rw [Int.natAbs_eq_zero] at e
   exact h0 (by rw [e];rfl)
  have:=(Nat.log2_lt h1).mpr h
  have e:(2:Nat) ^ 20=1048576:=by decide
  lia
theorem yo:E2 X (binaryOp .Mult) (rI (fun i j=>i.natAbs < 2 ^ 1000/\j.natAbs < 2 ^ 1000) fun i j=>.int (i * j)):=LQ fun _ _ _ _ _ _ _ hc q=>mul_int q (.of_bits (tU hc.1) (tU hc.2))
theorem nR {α:Type}:∀ (ls:List (Array α)) (acc:Array α),(ls.foldl (·++·) acc).toList=acc.toList++(ls.map Array.toList).flatten
 | [],acc=>by simp
 | a :: ls,acc=>by
  rw [List.foldl_cons,nR ls,Array.toList_append,List.map_cons,List.flatten_cons,List.append_assoc]
theorem CO (l:List Nat) (n:Nat):(⟨(List.replicate n (S l).cps).foldl (·++·) #[]⟩:Str)=S (List.replicate n l).flatten:=by
 have h:((List.replicate n (S l).cps).foldl (·++·) #[]).toList=(List.replicate n l).flatten:=by
  rw [nR,List.map_replicate]
  simp only [dB,List.nil_append]
 show Str.mk _=Str.mk _
 rw [<-h]
theorem yp (a b:Int):CF (.int a) (.int b)=if cB a || cB b then .ok (.f,.int (a * b)) else .bad:=rfl
noncomputable def yq:D->D->Res R
 | .int i,.int j=>if cB i || cB j then .ok (.f,.int (i * j)) else if i.natAbs < 2 ^ 1000/\j.natAbs < 2 ^ 1000 then .ok (.f,.int (i * j)) else .bad
 | .str l,.int k=>if 2<=k/\k<=1000/\1<=l.length/\l.length<=1000 then .ok (.f,.str (List.replicate k.toNat l).flatten) else .bad
 | _,_=>.bad
theorem yr:E2 X (binaryOp .Mult) (rG X.K yq):=by
 rintro pins s σ H x y v u Q I rx ry ⟨G,fp,es,vs,a,b,r,⟨rel,k⟩,va,vb,e⟩
 unfold yq at e
 split at e
 ·rename_i i j
  split at e
  ·rename_i hc
   exact Au pins s σ H x y v u Q I rx ry ⟨G,fp,es,vs,.int i,.int j,r,⟨rel,k⟩,va,vb,by rw [yp,if_pos hc];exact e⟩
  ·split at e
   ·rename_i hc
    cases e
    cases bI va
    cases bI vb
    exact yo pins s σ H _ _ v u Q I rx ry ⟨i,j,rfl,rfl,hc,k _ H G fp .refl (rel.push (a8 _))⟩
   ·cases e
 ·rename_i l j
  split at e
  ·rename_i hc
   cases e
   obtain ⟨ev,hl⟩:=eK va
   subst ev
   cases bI vb
   obtain ⟨t,rfl⟩:=rx
   obtain ⟨t',rfl⟩:=ry
   have hlen:(S l).length=l.length:=kP l
   have hz:(List.replicate j.toNat l).flatten.length<=1000000:=by
    rw [lF]
    exact Nat.mul_le_mul (by lia:j.toNat<=1000) hc.2.2.2
   have JN:(List.replicate j.toNat l).flatten.length<=sizeLine:=Nat.le_trans hz (by decide)
   refine PySem.P.mul_str ?_ ?_ ?_ ?_
   ·rw [decide_eq_false (by lia),decide_eq_false (by lia)];rfl
   ·intro _ _
    rw [hlen]
    have h1:1000<=(2 ^ 63 - 1) / j:=(Int.le_ediv_iff_mul_le (by lia)).mpr (by lia)
    lia
   ·intro _ _
    unfold Builtin.Str.tooLong
    rw [decide_eq_false_iff_not,hlen,Nat.mul_comm,<-lF]
    lia
   ·rw [if_neg (by lia),if_neg (by rw [hlen,Bool.or_eq_true,beq_iff_eq,beq_iff_eq];lia),CO]
    refine ⟨?_,?_⟩
    ·rw [kP]
     exact JN
    ·exact ⟨.str (S (List.replicate j.toNat l).flatten),H,I.tok _,⟨_,rfl⟩,k _ H G fp .refl (rel.push (g6 JN))⟩
  ·cases e
 ·cases e
end
end PV
namespace HT
open PySem PySem.Spec PyProof.Rows L2
variable {prog:Program} {w:World} {A:Around} {E:Value->Shared->Prop} {s:Shared}
theorem iA {t sl:Addr} {items:Array Value} {vl vu:Value} {lo hi:Option Int} {Q:Value->Shared->Prop} (ht:IsTup s.heap t items) (hs:s.heap.IsSliceOf sl vl vu .none) (pl:IsPart vl lo) (pu:IsPart vu hi)
  (hw:sIx items.size 0 lo=0/\sIx items.size items.size hi=items.size) (h:Q (.ref t) s):wpAny (model prog w) A (getItem (.ref t) (.ref sl)) Q E s:=by
 obtain ⟨os,KU,M4,KW⟩:=id hs
 have NA:s.TypeIs (.ref sl) "slice":=⟨os,KU,M4⟩
 unfold getItem
 try with_reducible refine wpAny_holding ?_
 first | refine wpAny_bind (wpAny_pure ?_) | skip
 refine wpAny_bind (wpAny_sequenceKey ht.typeIs (by decide) ?_)
 refine wpAny_bind (wpAny_callSpecial?_slot (name:=Str.ofString "__getitem__") ht.typeIs PyProof.Rows.slot_tuple_getitem
  (wpAny_call_entry PyProof.Rows.slot_tuple_getitem ht.typeIs entry_tuple_getitem ?_ (args_tuple_getitem _ _)))
 show wpAny _ _ (Builtin.Tuple.tupleItemsOf (.ref t) >>= _) _ _ s
 refine wpAny_bind (tupleItemsOf_ ht ?_)
 refine wpAny_bind (wpAny_typeOf NA ?_)
 rw [if_pos (by decide)]
 refine wpAny_bind (fF hs pl pu ?_)
 have hyes:(((sIx items.size 0 lo:Nat):Int) == 0 && (1:Int) == 1 && (sIx items.size items.size hi - sIx items.size 0 lo) == items.size)=true:=by
  rw [hw.1,hw.2]
  simp
 show wpAny _ _ (if (((sIx items.size 0 lo:Nat):Int) == 0 && (1:Int) == 1 && (sIx items.size items.size hi - sIx items.size 0 lo) == items.size)=true then _ else _) _ _ s
 rw [if_pos hyes]
 refine wpAny_bind (m:=Builtin.Tuple.tupleIsExact _) ?_
 unfold Builtin.Tuple.tupleIsExact
 refine wpAny_bind (wpAny_typeOf ht.typeIs (wpAny_pure ?_))
 rw [if_pos (by decide)]
 exact wpAny_bind (wpAny_rule (wpAny_pure ⟨_,rfl,wpAny_pure h⟩))
end HT
namespace PV
open PySem PySem.Spec PyProof.Rows L2 NX
section
variable {X:Cx} {pos:Pos} {fa:FO}
theorem yt:KY X (fun x lo hi H Q=>∃ a xs,x=.ref a/\SqT X.K H a xs/\(HT.sIx xs.length 0 lo=0/\HT.sIx xs.length xs.length hi=xs.length)/\Q x H):=by
 intro pins s σ H x v vl vu lo hi sl Q I rx hs pl pu h
 obtain ⟨a,xs,rfl,hx,hw,q⟩:=h
 cases rx
 obtain ⟨El,r,ht,hz⟩:=I.tuple hx
 have hlen:El.toArray.size=xs.length:=by rw [List.size_toArray];exact r.length.symm
 refine ⟨"tuple",_,PyProof.Rows.slot_tuple_getitem.lookup,ht.typeIs,?_⟩
 exact HT.iA ht hs pl pu (by rw [hlen];exact hw) ⟨.ref a,H,I,rfl,q⟩
noncomputable def Mm (k:D) (lo hi:Option Int):Res R:=match k with
 | .tup ds=>if HT.sIx ds.length 0 lo=0/\HT.sIx ds.length ds.length hi=ds.length then .ok (.f,.tup ds) else Mc k lo hi
 | _=>Mc k lo hi
noncomputable def AS (fa:FO) (lo hi:FP):FX:=fun env=>(fa env).bind fun p=>(lo p.2).bind fun q=>(hi q.2).bind fun t=>(EU t.2 p.1).bind fun d=>(Mm d q.1 t.1).bind fun r=>.ok (r,t.2)
inductive rSlW (K:W.Frag) (x:V) (lo:Option Int) (hi:Option Int) (H:Hp) (Q:VK):Prop
 | mk:∀ G fp es vs d r,Goes K H G fp es vs r Q->Vw K G H d x->Mm d lo hi=.ok r->rSlW K x lo hi H Q
theorem AU:KY X (rSlW X.K):=by
 rintro pins s σ H x v vl vu lo hi sl Q I rx hs pl pu ⟨G,fp,es,vs,d,r,⟨rel,k⟩,vd,e⟩
 unfold Mm at e
 split at e
 ·rename_i ds
  split at e
  ·rename_i hw
   cases e
   obtain ⟨p,xs,ev,sq,rs⟩:=gP vd
   subst ev
   refine yt pins s σ H _ v vl vu lo hi sl Q I rx hs pl pu ⟨p,xs,rfl,bR rel.gh sq,by rw [rs.length];exact hw,?_⟩
   exact k _ H G fp .refl (rel.push vd)
  ·exact Aw pins s σ H x v vl vu lo hi sl Q I rx hs pl pu ⟨G,fp,es,vs,_,r,⟨rel,k⟩,vd,e⟩
 ·exact Aw pins s σ H x v vl vu lo hi sl Q I rx hs pl pu ⟨G,fp,es,vs,_,r,⟨rel,k⟩,vd,e⟩
theorem tV {e:Expr} {lo hi:Option Expr} {p2:Pos} {fl fh:FP} (he:QO X e fa) (hl:QP X lo fl) (hh:QP X hi fh):QE X (.Subscript e (.Slice lo hi none p2) pos) (AS fa fl fh):=
 bU (vk AU he hl hh) fun σ H Q EA=>by
  obtain ⟨G,env,fp,r,env',rel,e,k⟩:=EA
  obtain ⟨⟨o,Ej⟩,e1,e⟩:=ar e
  obtain ⟨⟨i,Ep⟩,e2,e⟩:=ar e
  obtain ⟨⟨j,E9⟩,e3,e⟩:=ar e
  obtain ⟨d,e4,e⟩:=ar e
  obtain ⟨r',e5,e⟩:=ar e
  cases e
  exact ⟨G,env,fp,o,Ej,rel,e1,fun v H1 G1 EH EC Eo Gd=>⟨G1,Ej,EH,i,Ep,Eo,e2,fun H2 G2 E3 Ew Ek=>⟨G2,Ep,E3,j,E9,Ek,e3,fun H3 G3 G0 EX EK=>
   ⟨G3,G0,E9,σ,d,r,⟨EK,fun v H' G' Et st EL=>k v H' G' Et (EC.trans (Ew.trans (EX.trans st))) EL⟩,EK.vw ((Gd.mono Ew.gg).mono EX.gg) e4,e5⟩⟩⟩⟩
end
end PV
namespace L2
open PySem PySem.Spec PyProof.Rows
section
variable {X:Cx} {tg:Expr}
def tW (i j c:Int):Prop:=(-1048576<=i/\i<=1048576)/\(-1048576<=j/\j<=1048576)/\(c = -1\/1<=c)/\c<=1048576
instance (i j c:Int):Decidable (tW i j c):=by unfold tW;infer_instance
end
end L2
namespace PV
open PySem PySem.Spec PyProof.Rows L2 NX
section
variable {X:Cx} {tg:Expr}
noncomputable def w5:List D->Res R
 | [d]=>match (jX d).bind cF with
  | some (n :: ns)=>.ok (.f,.int (dO (n :: ns)))
  | _=>.bad
 | [.int i,.int j]=>.ok (.f,.int (if j < i then j else i))
 | _=>.bad
theorem w6 (hc:X.calm=true):cW X (.builtin "min") (rC X.K w5):=by
 rintro pins s σ H xs us Q I rx ⟨G,fp,es,vs,ds,r,⟨rel,k⟩,vd,e⟩
 unfold w5 at e
 split at e
 ·rename_i d
  split at e
  ·rename_i n ns hb
   cases e
   obtain ⟨v,ev,vt⟩:=kO vd
   obtain ⟨p,ep,sq⟩:=fU rel.gh hb vt
   subst ev
   subst ep
   exact sM hc pins s σ H _ us Q I rx ⟨p,n :: ns,rfl,sq,by simp,k _ H G fp .refl (rel.push (a8 _))⟩
  ·cases e
 ·rename_i i j
  cases e
  obtain ⟨v,w',ev,v1,v2⟩:=Du vd
  subst ev
  cases bI v1
  cases bI v2
  exact r9 hc pins s σ H _ us Q I rx ⟨i,j,rfl,k _ H G fp .refl (rel.push (a8 _))⟩
 ·cases e
noncomputable def Ei:List D->Res R
 | [.int i]=>.ok (.f,.int (if i < 0 then -i else i))
 | _=>.bad
noncomputable def CP (fs:FOs):FI:=fun env=>(fs env).bind fun p=>(oM p.2 p.1).bind fun d=>match d with
 | [.int i,.int j,.int c]=>if tW i j c then .ok ((List.range (Builtin.Range.rangeSize i j c).toNat).map fun (k:Nat)=>D.int (i + (k:Int) * c),p.2) else .bad
 | _=>.bad
end
end PV
namespace NX
open PySem PySem.Spec PyProof.Rows L2
section
open PySem.SeqAt
open PySem.AutoSeq1 (wpAny_loadPart')
theorem j9 {M:Model} {A:Around} {E:Value->Shared->Prop} {s:Shared} {β:Type} (f:Nat->β->Sem (ForInStep β)) (n:Nat) (I:Nat->β->Shared->Prop) (Q:β->Shared->Prop)
  (turn:∀ (i:Nat) (b:β) (s:Shared),i < n->I i b s->wpAny M A (f i b) (fun r s'=>match r with | .yield b'=>I (i + 1) b' s' | .done b'=>Q b' s') E s)
  (fin:∀ (b:β) (s:Shared),I n b s->Q b s) (b:β) (h:I 0 b s):wpAny M A (forIn [0:n] b f) Q E s:=by
 rw [Std.Legacy.Range.forIn_eq_forIn_range']
 refine wpAny_forIn_list f (fun fE b s=>∃ i,i<=n/\fE=List.range' i (n - i)/\I i b s) Q ?_ ?_ _ b ?_
 ·rintro x fE b s ⟨i,hi,hr,h⟩
  by_cases Jy:i < n
  ·have e:n - i=(n - (i + 1)) + 1:=by lia
   rw [e,List.range'_succ] at hr
   injection hr with h1 h2
   subst h1
   refine ED (turn x b s Jy h) fun r s' OI=>?_
   cases r with
   | yield b'=>exact ⟨x + 1,by lia,h2,OI⟩
   | done b'=>exact OI
  ·have e:n - i=0:=by lia
   rw [e] at hr
   cases hr
 ·rintro b s ⟨i,hi,hr,h⟩
  by_cases Jy:i < n
  ·have e:n - i=(n - (i + 1)) + 1:=by lia
   rw [e,List.range'_succ] at hr
   cases hr
  ·have e:i=n:=by lia
   subst e
   exact fin b s h
 ·refine ⟨0,Nat.zero_le _,?_,h⟩
  simp [Std.Legacy.Range.size]
theorem jB (l:Addr) (items:Array Value) (n:Nat) (dd:Option Addr) (sl:Array (Option Value)) (ns:List Str) (c:Str) (t:Tok) (hi:Vals (ns.map V.str) items.toList) (i:Nat) (hx:ns[i]?=some c) (h0:∀ j,j < i->ns[j]?≠some c) :
  Meets (Builtin.«tuple.index» ⟨[.ref l,.str c t],[]⟩)
   (fun _ R s=>s.heap.get? l=some { cls:=.type "tuple",dict:=dd,data:=.seq items n,slots:=sl }/\R (.ok (.ret (.int (i:Int) s.toks))) { s with toks:=s.toks + 1 }):=
 .of_wp fun prog w A R s h=>by
  obtain ⟨hp,g,d,tk,os⟩:=s;obtain ⟨hl,h⟩:=h
  have z1:items.size=ns.length:=by have:=hi.length;simp at this;lia
  have Jy:i < ns.length:=(List.getElem?_eq_some_iff.mp hx).1
  have key:∀ (j:Nat),j < ns.length->∃ (b:Str) (u:Tok),items[j]?=some (.str b u)/\ns[j]?=some b:=by
   intro j hj
   obtain ⟨v,hv,hr⟩:=hi.get (i:=j) (x:=V.str ns[j]) (by simp [hj])
   obtain ⟨u,rfl⟩:=hr
   exact ⟨ns[j],u,by rw [<-Array.getElem?_toList];exact hv,by simp [hj]⟩
  wp_walk using wpAny_loadPart' hl,j9 _ _ (fun j b s'=>b.1=none/\s'=⟨hp,g,d,tk,os⟩/\j<=i) _
  case turn=>
   rintro j ⟨b1,b2⟩ s' hj ⟨hb,rfl,OJ⟩
   simp only at hb
   subst hb
   obtain ⟨b,u,e1,e2⟩:=key j (by lia)
   have he:EqAt A.in1 ⟨hp,g,d,tk,os⟩ (.str b u) (.str c t) (b == c):=EqAt.str_str b u c t
   by_cases hbc:b=c
   ·have hji2:j=i:=by
     rcases Nat.lt_or_ge j i with EY | hge
     ·exact absurd (by rw [e2,hbc]) (h0 j EY)
     ·lia
    subst hji2 hbc
    rw [e1]
    refine wpAny_bind (he prog w _ _ ?_)
    rw [show (b == b)=true from beq_self_eq_true b]
    wp_walk
    exact ⟨_,rfl,h⟩
   ·rw [e1]
    refine wpAny_bind (he prog w _ _ ?_)
    rw [show (b == c)=false from beq_eq_false_iff_ne.mpr hbc]
    wp_walk
    refine ⟨rfl,rfl,?_⟩
    rcases Nat.lt_or_ge j i with EY | hge
    ·exact EY
    ·have:j=i:=by lia
     subst this
     rw [e2] at hx
     cases hx
     exact absurd rfl hbc
  case fin=>
   rintro ⟨b1,b2⟩ s' ⟨hb,rfl,OJ⟩
   rw [Nat.min_self] at OJ
   lia
  case h=>exact ⟨rfl,rfl,Nat.zero_le _⟩
end
end NX
namespace L2
open PySem PySem.Spec PyProof.Rows
section
variable {X:Cx} {o e:Expr} {es:List Expr} {to:TE} {t:TA} {name:Str} {apos EG:Pos} {id:String} {r:V->List V->Hp->VK->Prop}
noncomputable def D4 (K:W.Frag) (r:V->List V->Hp->VK->Prop) (to:TE) (t:TA):TE:=fun σ H Q=>to σ H fun x H1=>(∃ p ys,x=.ref p/\SqT K H1 p ys)/\t σ H1 fun xs H2=>r x xs H2 Q
theorem AV (slot:Slot "tuple" name id) (Jj:typeOf (.builtin id)=pure (.type "method_descriptor")) (hm:JR X id r) (ho:PE X o to) (ha:PA X (e :: es) t)
  (Fz:attributeBase o name X.env (eval o X.env)=eval o X.env:=by rfl)
  (GL:((backTo EG (starEach (e :: es) X.env)).all (fun x=>!x.1) && (backToKw EG (keywordEach [] X.env)).all (fun x=>x.1.isSome)
   && decide ((e :: es).length + ([]:List Keyword).length + (if ([]:List Keyword).isEmpty then 0 else 1) < 30))=true:=by rfl)
  (FA:(apos.endLine == EG.line)=true:=by rfl) (hs:starEach (e :: es) X.env=(false,eval e X.env) :: starEach es X.env:=by rfl) (E7:(backTo EG (starEach es X.env)).any (·.1)=false:=by rfl) :
  PE X (.Call (.Attribute o name apos) (e :: es) [] EG) (D4 X.K r to t):=by
 intro pins s σ H Q I h
 refine wpAny_Call_method_late Fz GL FA rfl (ED (ho pins s σ H _ I h) fun v s1 EE=>?_)
 obtain ⟨x,H1,I1,r1,⟨p,ys,ex,sq⟩,q1⟩:=EE
 subst ex
 cases r1
 obtain ⟨El,_,⟨ob,ho,hc,⟨n,hd⟩,hn⟩,_⟩:=I1.tupleN sq
 refine ⟨"tuple",id,PySem.F.plainAttrs_tuple,slot,Jj,⟨ob,ho,hc⟩,fun a e2=>?_,?_⟩
 ·cases e2
  exact ⟨ob,ho,hn⟩
 have hA:=ha EG pins s1 σ H1 _ I1 q1
 rw [hs] at hA ⊢
 refine Calls.callWith_builtin (by show (false || (backTo EG (starEach es X.env)).any (·.1))=false;rw [E7] <;> rfl) (Calls.evalArgs_plain ?_)
 exact ED hA fun us s2 ⟨vs,H2,I2,r2,q2⟩=>hm pins s2 σ H2 (.ref p) vs _ us Q I2 rfl r2 q2
end
end L2
namespace PV
open PySem PySem.Spec PyProof.Rows L2 NX
section
variable {X:Cx}
noncomputable def vS (g:List D->List D->Res R) (fa:FO) (fs:FOs):FX:=fun env=>(fa env).bind fun p=>(EU p.2 p.1).bind fun a=>match a with
 | .tup _=>(fs p.2).bind fun q=>(EU q.2 p.1).bind fun a2=>match a2 with
  | .tup l=>(oM q.2 q.1).bind fun ds=>(g l ds).bind fun r=>.ok (r,q.2)
  | _=>.bad
 | _=>.bad
inductive rMtT (K:W.Frag) (g:List D->List D->Res R) (x:V) (xs:List V) (H:Hp) (Q:VK):Prop
 | mk:∀ G fp es vs l ds r,Goes K H G fp es vs r Q->Vw K G H (.tup l) x->KG K G H ds xs->g l ds=.ok r->rMtT K g x xs H Q
theorem qp {g:List D->List D->Res R} {id:String} {name:Str} {o e:Expr} {es:List Expr} {fa:FO} {fs:FOs} {apos EG:Pos} (slot:Slot "tuple" name id) (Jj:typeOf (.builtin id)=pure (.type "method_descriptor")) (hm:JR X id (rMtT X.K g)) (ho:QO X o fa) (ha:Jq X (e :: es) fs)
  (Fz:attributeBase o name X.env (eval o X.env)=eval o X.env:=by rfl)
  (GL:((backTo EG (starEach (e :: es) X.env)).all (fun x=>!x.1) && (backToKw EG (keywordEach [] X.env)).all (fun x=>x.1.isSome) && decide ((e :: es).length + ([]:List Keyword).length + (if ([]:List Keyword).isEmpty then 0 else 1) < 30))=true:=by rfl)
  (FA:(apos.endLine == EG.line)=true:=by rfl) (hs:starEach (e :: es) X.env=(false,eval e X.env) :: starEach es X.env:=by rfl) (E7:(backTo EG (starEach es X.env)).any (·.1)=false:=by rfl) :
  QE X (.Call (.Attribute o name apos) (e :: es) [] EG) (vS g fa fs):=by
 refine bU (AV slot Jj hm ho ha Fz GL FA hs E7) fun σ H Q EE=>?_
 obtain ⟨G,env,fp,r,env',rel,e,k⟩:=EE
 obtain ⟨⟨oa,Ej⟩,e1,e⟩:=ar e
 obtain ⟨da,J0,e⟩:=ar e
 dsimp only at e
 split at e
 ·obtain ⟨⟨os,Ep⟩,e2,e⟩:=ar e
  obtain ⟨d2,hd2,e⟩:=ar e
  dsimp only at e
  split at e
  ·obtain ⟨ds,e3,e⟩:=ar e
   obtain ⟨r',e4,e⟩:=ar e
   cases e
   refine ⟨G,env,fp,oa,Ej,rel,e1,fun v H1 G1 EH EC Eo Gd=>?_⟩
   obtain ⟨p,xs,ev,sq,_⟩:=br (Vw.rep Eo.gh (Eo.vw Gd J0))
   exact ⟨⟨p,xs,ev,sq⟩,G1,Ej,EH,os,_,Eo,e2,fun vs H2 G2 E3 Ew Ek IU=>⟨G2,E3,_,σ,_,ds,r,⟨Ek,fun v H' G' Et st EL=>k v H' G' Et (EC.trans (Ew.trans st)) EL⟩,Ek.vw (Gd.mono Ew.gg) hd2,Ek.vws IU e3,e4⟩⟩
  ·cases e
 ·cases e
noncomputable def kW (l:List D):List D->Res R
 | [.str c]=>match eO l with
  | some bs=>if c∈bs then .ok (.f,.int (bs.idxOf c:Nat)) else .bad
  | none=>.bad
 | _=>.bad
noncomputable def zq (l:List D):List D->Res R
 | [.str c]=>match eO l with
  | some bs=>.ok (.f,.int (bs.count c:Nat))
  | none=>.bad
 | _=>.bad
theorem w9 {a b:List Nat} (h:S a=S b):a=b:=by
 have:=congrArg (fun s:Str=>s.cps.toList) h
 simpa only [dB] using this
theorem qq:∀ (bs:List (List Nat)) (c:List Nat) (j:Nat),bs[j]?=some c->bs.idxOf c<=j
 | [],c,j,h=>by simp at h
 | b :: bs,c,0,h=>by
  simp at h
  subst h
  simp [List.idxOf_cons]
 | b :: bs,c,j + 1,h=>by
  rw [List.getElem?_cons_succ] at h
  have:=qq bs c j h
  rw [List.idxOf_cons]
  cases b == c with
  | true=>exact Nat.zero_le _
  | false=>exact Nat.succ_le_succ this
noncomputable def OK (c:Str):Value->Bool
 | .str b _=>b == c
 | _=>false
theorem lq (c:List Nat):∀ (bs:List (List Nat)) (El:List Value),Vals (bs.map fun l=>V.str (S l)) El->El.countP (OK (S c))=bs.count c
 | [],El,h=>by cases h;rfl
 | b :: bs,El,h=>by
  cases h with
  | cons r rr=>
   obtain ⟨t,rfl⟩:=r
   rw [List.countP_cons,List.count_cons,lq c bs _ rr]
   congr 1
   show (if (S b == S c)=true then 1 else 0)=_
   by_cases hbc:b=c
   ·rw [hbc,if_pos (beq_self_eq_true _),if_pos (beq_self_eq_true _)]
   ·rw [if_neg (by rw [beq_iff_eq];exact fun e=>hbc (w9 e)),if_neg (by rw [beq_iff_eq];exact hbc)]
theorem o8:JR X "tuple.count" (rMtT X.K zq):=by
 rintro pins s σ H x xs v us Q I rx rv ⟨G,fp,es,vs,l,ds,r,⟨rel,k⟩,vx,vd,e⟩
 unfold zq at e
 split at e
 ·rename_i c
  split at e
  ·rename_i bs hb
   cases e
   obtain ⟨p,ys,ev,sq,rs⟩:=br (Vw.rep rel.gh vx)
   obtain ⟨hy,_⟩:=fg hb rs
   subst ev
   cases rx
   obtain ⟨w',ew,vc⟩:=kO vd
   obtain ⟨ev,_⟩:=eK vc
   subst ew
   subst ev
   obtain ⟨u,rfl,t',rfl⟩:=dN rv
   obtain ⟨El,vl,⟨ob,h1,h2,⟨n,h3⟩,h4⟩,_⟩:=I.tupleN sq
   subst hy
   obtain ⟨cls,dict,data,slots⟩:=ob
   dsimp only at h2 h3 h4
   subst h2 h3 h4
   refine PySem.call_meets PySem.F.slot_tuple_count ⟨_,h1,rfl⟩ PySem.F.entry_tuple_count (PySem.F.args_tuple_count_2 _ _) (PySem.SeqAt.tuple_countAt p El.toArray n _ _ (.str (S c) t') (OK (S c))) ⟨h1,fun y hy=>?_,⟨.int (bs.count c:Nat),H,I.tok _,⟨s.toks,?_⟩,k _ H G fp .refl (rel.push (a8 _))⟩⟩
   ·have hy:y∈El:=by simpa using hy
    obtain ⟨i,hi,rfl⟩:=List.getElem_of_mem hy
    have hl:=vl.length
    rw [List.length_map] at hl
    obtain ⟨v,hv,hr⟩:=vl.get (i:=i) (x:=V.str (S bs[i])) (by rw [List.getElem?_map,List.getElem?_eq_getElem (by lia)];rfl)
    rw [List.getElem?_eq_getElem hi] at hv
    cases hv
    obtain ⟨t,e⟩:=hr
    rw [e]
    exact PySem.SeqAt.EqAt.str_str _ _ _ _
   ·rw [List.toList_toArray,lq c bs El vl]
  ·cases e
 ·cases e
theorem g9:JR X "tuple.index" (rMtT X.K kW):=by
 rintro pins s σ H x xs v us Q I rx rv ⟨G,fp,es,vs,l,ds,r,⟨rel,k⟩,vx,vd,e⟩
 unfold kW at e
 split at e
 ·rename_i c
  split at e
  ·rename_i bs hb
   split at e
   ·rename_i hc
    cases e
    obtain ⟨p,ys,ev,sq,rs⟩:=br (Vw.rep rel.gh vx)
    obtain ⟨hy,_⟩:=fg hb rs
    subst ev
    cases rx
    obtain ⟨w',ew,vc⟩:=kO vd
    obtain ⟨ev,_⟩:=eK vc
    subst ew
    subst ev
    obtain ⟨u,rfl,t',rfl⟩:=dN rv
    obtain ⟨El,vl,⟨ob,h1,h2,⟨n,h3⟩,h4⟩,_⟩:=I.tupleN sq
    subst hy
    obtain ⟨cls,dict,data,slots⟩:=ob
    dsimp only at h2 h3 h4
    subst h2 h3 h4
    have EY:=List.idxOf_lt_length_of_mem hc
    refine PySem.call_meets PySem.F.slot_tuple_index ⟨_,h1,rfl⟩ PySem.F.entry_tuple_index (PySem.F.args_tuple_index_2 _ _) (jB p El.toArray n _ _ (bs.map S) (S c) t' (by rw [List.map_map];exact vl) (bs.idxOf c) ?_ ?_) ⟨h1,⟨.int (bs.idxOf c:Nat),H,I.tok _,⟨_,rfl⟩,k _ H G fp .refl (rel.push (a8 _))⟩⟩
    ·rw [List.getElem?_map,List.getElem?_eq_getElem EY,List.getElem_idxOf EY]
     rfl
    ·intro j hj he
     rw [List.getElem?_map,List.getElem?_eq_getElem (by lia)] at he
     have he:=w9 (Option.some.inj he)
     have:=qq bs c j (by rw [List.getElem?_eq_getElem (by lia),he])
     lia
   ·cases e
  ·cases e
 ·cases e
noncomputable def dg (a b:D):Res R:=match a,b with
 | .tup [],.tup l=>.ok (.f,.tup l)
 | a,b=>addD a b
theorem aO:E2 X (binaryOp .Add) (rG X.K dg):=by
 rintro pins s σ H x y v u Q I rx ry ⟨G,fp,es,vs,a,b,r,⟨rel,k⟩,va,vb,e⟩
 unfold dg at e
 split at e
 ·rename_i l
  cases e
  obtain ⟨p,xs,e1,h1,r1⟩:=gP va
  obtain ⟨p2,LK,e2,h2,r2⟩:=gP vb
  subst e1
  subst e2
  cases rx
  cases ry
  have hx:xs=[]:=List.eq_nil_of_length_eq_zero (by rw [r1.length];rfl)
  subst hx
  obtain ⟨El,v1,⟨⟨cls,dd,data,sl⟩,ho,hc,n,hd⟩,_⟩:=I.tuple (bR rel.gh h1)
  obtain ⟨Ic,v2,⟨⟨JQ,IF,data2,IG⟩,FW,F0,n2,hd2⟩,_⟩:=I.tuple (bR rel.gh h2)
  dsimp only at hc hd F0 hd2
  subst hc hd F0 hd2
  cases v1
  exact concat_meets ⟨_,ho,rfl⟩ ⟨_,FW,rfl⟩ noFill_tuple_add seq_tuple_add PySem.F.slot_tuple_add PySem.F.entry_tuple_add (PySem.F.args_tuple_add_2 _ _) (tuple_addW0 p p2 _ _ n n2 dd IF sl IG rfl) ⟨ho,FW,⟨.ref p2,H,I,rfl,k _ H G fp .refl (rel.push vb)⟩⟩
 ·exact As pins s σ H _ _ v u Q I rx ry ⟨G,fp,es,vs,a,b,r,⟨rel,k⟩,va,vb,e⟩
noncomputable def nS (fs:FOs):FI:=Fj (rg true true fs) (Fj (rg true false fs) (Fj (rg false true fs) (rg false false fs)))
theorem ka {IV:List Expr} {kt:Nat} {pt:Pos} {e1 e2:Expr} {fs:FOs} {p pos:Pos} (hg:Gl X "zip") (hm:X.mg "zip" = none) (ha:Jq X [e1,e2] fs) (he:starEach [e1,e2] X.env=(false,eval e1 X.env) :: starEach [e2] X.env:=by rfl) (Gm:(backTo pos (starEach [e2] X.env)).any (·.1)=false:=by rfl) :
  QI X (.Tuple IV kt pt) (.Call (.Name "zip" p) [e1,e2] [] pos) (nS fs):=tJ (qf true true hg hm ha he Gm) (tJ (qf true false hg hm ha he Gm) (tJ (qf false true hg hm ha he Gm) (qf false false hg hm ha he Gm)))
end
end PV
namespace NX
open PySem PySem.Spec PyProof.Rows L2
section
open PySem.AutoSeq1 (wpAny_loadPart')
theorem nU (l:Addr) (items:Array Value) (n:Nat) (dd:Option Addr) (sl:Array (Option Value)) (x:Int) (u:Tok) (h1:¬ (!Builtin.List.listFitsIndex x)=true) (h2:¬ items.size * x.toNat > (2 ^ 63 - 1) / 8) (h3:¬ Builtin.List.listTooLong (items.size * x.toNat)=true) (h4:(List.foldl (fun x1 x2=>x1++x2) #[] (List.replicate (if items.isEmpty=true then 0 else x.toNat) items)).size<=sizeLine) :
  Meets (Builtin.«list.__mul__» ⟨[.ref l,.int x u],[]⟩)
   (fun _ R s=>s.heap.get? l=some { cls:=.type "list",dict:=dd,data:=.seq items n,slots:=sl }/\R (.ok (.ret (.ref s.heap.objs.size))) { s with heap:=s.heap.push { cls:=.type "list",data:=.seq (List.foldl (fun x1 x2=>x1++x2) #[] (List.replicate (if items.isEmpty=true then 0 else x.toNat) items)) } }):=
 .of_wp fun prog w A R s h=>by
  obtain ⟨hp,g,d,tk,os⟩:=s;obtain ⟨hl,h⟩:=h
  wp_walk using wpAny_loadPart' hl
  rw [if_neg (by lia)]
  wp_walk
  exact ⟨_,rfl,h⟩
theorem nV (a:Int) (t:Tok) (l:Addr) (T:String) (items:Array Value) (n:Nat) (dd:Option Addr) (sl:Array (Option Value)) :
  Meets (Builtin.«int.__rmul__» ⟨[.int a t,.ref l],[]⟩)
   (fun _ R s=>s.heap.get? l=some { cls:=.type "list",dict:=dd,data:=.seq items n,slots:=sl }/\R (.ok (.ret .notImplemented)) s):=
 .of_wp fun prog w A R s h=>by
  obtain ⟨hp,g,d,tk,os⟩:=s;obtain ⟨hl,h⟩:=h
  wp_walk using wpAny_loadPart' hl
  exact ⟨_,rfl,h⟩
end
end NX
namespace PV
open PySem PySem.Spec PyProof.Rows L2 NX
section
variable {md:Mode} {X:Cx}
inductive rRepS (K:W.Frag) (x:V) (y:V) (H:Hp) (Q:VK):Prop
 | mk:∀ l k xs,x=.ref l->y=.int k->SqL K H l xs->-(2 ^ 62)<=k->k < 2 ^ 62->xs.length * k.toNat<=sizeLine->(∀ p,H p=none->Q (.ref p) (upd H p (.lst (List.replicate k.toNat xs).flatten)))->rRepS K x y H Q
theorem yu:E2 X (binaryOp .Mult) (rRepS X.K):=by
 intro pins s σ H x y v u Q I rx ry h
 obtain ⟨l,k,xs,rfl,rfl,hH,h1,h2,hz,q⟩:=h
 cases rx
 obtain ⟨t,rfl⟩:=ry
 obtain ⟨El,r,p1,_⟩:=I.list hH
 have hl:=r.length
 obtain ⟨⟨cls,dd,data,sl⟩,ho,hc,n,hd⟩:=id p1.isList
 simp only at hc hd
 subst hc hd
 have hlen:El.toArray.size * k.toNat<=sizeLine:=by rw [List.size_toArray,<-hl];exact hz
 have hcap:¬ El.toArray.size * k.toNat > (2 ^ 63 - 1) / 8:=by
  have:(sizeLine:Nat)<=(2 ^ 63 - 1) / 8:=by decide
  lia
 have Il:¬ (!Builtin.List.listFitsIndex k)=true:=by
  rw [fitsIndex_both (by lia) (by lia)]
  exact Bool.false_ne_true
 have Mn:¬ Builtin.List.listTooLong (El.toArray.size * k.toNat)=true:=by
  rw [vo hlen]
  exact Bool.false_ne_true
 have J5:List.foldl (fun x1 x2=>x1++x2) #[] (List.replicate (if El.toArray.isEmpty=true then 0 else k.toNat) El.toArray)=(List.replicate k.toNat El).flatten.toArray:=by
  have f0:∀ m:Nat,List.foldl (fun x1 x2=>x1++x2) #[] (List.replicate m El.toArray)=(List.replicate m El).flatten.toArray:=fun m=>by
   have:=mW El m []
   rw [List.nil_append] at this
   exact this
  rw [f0]
  cases El with
  | nil=>simp
  | cons a r'=>rw [if_neg (by simp)]
 have hsz:(List.foldl (fun x1 x2=>x1++x2) #[] (List.replicate (if El.toArray.isEmpty=true then 0 else k.toNat) El.toArray)).size<=sizeLine:=by
  rw [J5,List.size_toArray,lF,Nat.mul_comm]
  rw [List.size_toArray] at hlen
  exact hlen
 refine wpAny_binaryOp_repeat_ref (T:="list") (U:="int") (by decide) ⟨_,ho,rfl⟩ (fun s'=>typeIs_int s' k t) noFill_list_mul F.fills_int_mul F.slot_int_rmul repeat_list F.slot_int_index.lookup
  (call_meets F.slot_int_rmul (typeIs_int s k t) F.entry_int_rmul (F.args_int_rmul_2 _ _) (nV k t l "" El.toArray n dd sl)
   ⟨ho,rfl,⟨_,ho,rfl⟩,call_meets F.slot_list_mul ⟨_,ho,rfl⟩ F.entry_list_mul (F.args_list_mul_2 _ _) (nU l El.toArray n dd sl k t Il hcap Mn hsz) ⟨ho,?_⟩⟩)
 rw [J5]
 exact ⟨.ref _,_,I.lnew (t':=s.toks) (r.rep k.toNat) (by rw [lF,Nat.mul_comm];exact hz),rfl,q _ I.fresh⟩
theorem qr {K:W.Frag} {G:Hp} {ds:List D} {xs:List V} (r:Reps K G ds xs):∀ n:Nat,Reps K G (List.replicate n ds).flatten (List.replicate n xs).flatten
 | 0=>.nil
 | n + 1=>by
  rw [List.replicate_succ,List.replicate_succ,List.flatten_cons,List.flatten_cons]
  exact r.app (qr r n)
noncomputable def jI (a b:D):Res R:=match a,b with
 | .lst ds,.int k=>if 0<=k/\k < 1000000/\ds.length * k.toNat<=sizeLine then .ok (.l .f,.lst (List.replicate k.toNat ds).flatten) else .bad
 | a,b=>yq a b
theorem eC:E2 X (binaryOp .Mult) (rG X.K jI):=by
 rintro pins s σ H x y v u Q I rx ry ⟨G,fp,es,vs,a,b,r,⟨rel,k⟩,va,vb,e⟩
 unfold jI at e
 split at e
 ·rename_i ds j
  split at e
  ·rename_i hj
   cases e
   obtain ⟨p,xs,e1,h1,r1⟩:=va
   subst e1
   cases bI vb
   refine yu pins s σ H _ _ v u Q I rx ry ⟨p,j,xs,rfl,rfl,h1,by lia,by lia,by rw [r1.length];exact hj.2.2,fun q hq=>?_⟩
   obtain ⟨Ek,Ew⟩:=rel.newL hq (qr r1 j.toNat)
   exact k _ _ G _ Ew Ek
  ·cases e
 ·exact yr pins s σ H _ _ v u Q I rx ry ⟨G,fp,es,vs,a,b,r,⟨rel,k⟩,va,vb,e⟩
noncomputable def CQ (td ty tv:TE):TS:=fun Dd σ H=>tv σ H fun v H1=>td σ H1 fun x H2=>ty σ H2 fun y H3=>Ab x y v H3 fun H4=>Dd.nx σ H4
theorem yv {o i value:Expr} {td ty tv:TE} {pos pos':Pos} (ho:PE X o td) (hi:PE X i ty) (hv:PE X value tv) (hs:swapsWith value (some (.Subscript o i pos')) pos.line X.env=pure false) :
  PS X (.Assign [.Subscript o i pos'] value pos) (CQ td ty tv):=by
 intro pins s σ H Dd I h
 refine wpAny_Assign_Subscript (ED (hv pins s σ H _ I h) fun r s1 ⟨v,H1,I1,rv,q1⟩=>ED (ho pins s1 σ H1 _ I1 q1) fun u s2 ⟨x,H2,I2,rx,q2⟩=>ED (hi pins s2 σ H2 _ I2 q2) fun iv s3 ⟨y,H3,I3,ry,q3⟩=>?_) hs
 exact ED (vm pins s3 σ H3 x y v u iv r _ I3 rx ry rv q3) fun _ s4 ⟨H4,I4,q4⟩=>⟨σ,H4,I4,q4⟩
noncomputable def rl (i:Nat) (fk fv:FX):FS:=fun env=>(fv env).bind fun p=>(fk p.2).bind fun q=>match p.2[i]?,q.2[i]? with
 | some (some _),some (some (.l .f,.lst ds))=>(match q.1.2 with
  | .int k=>(match ixN ds.length k with
   | some j=>.ok (.nx (q.2.set i (some (.l .f,.lst (ds.set j p.1.2)))))
   | none=>.bad)
  | _=>.bad)
 | _,_=>.bad
theorem o9 {i:Nat} {o ix value:Expr} {fk fv:FX} {pos pos':Pos} (ho:PE X o (uV i)) (hi:QE X ix fk) (hv:QE X value fv) (hs:swapsWith value (some (.Subscript o ix pos')) pos.line X.env=pure false:=by rfl) :
  QS (md:=md) X (.Assign [.Subscript o ix pos'] value pos) (rl i fk fv):=fQ (yv ho hi hv hs) fun Dd σ H EA=>by
 obtain ⟨G,env,fp,rel,k⟩:=EA
 unfold rl at k
 match q1:fv env,k with
 | .ok (r1,Ej),k=>
  have k:OutOk X.K G H fp Dd ((fk Ej).bind fun q=>match Ej[i]?,q.2[i]? with
   | some (some _),some (some (.l .f,.lst ds))=>(match q.1.2 with
    | .int k=>(match ixN ds.length k with
     | some j=>.ok (.nx (q.2.set i (some (.l .f,.lst (ds.set j r1.2)))))
     | none=>.bad)
    | _=>.bad)
   | _,_=>.bad):=k
  match q2:fk Ej,k with
  | .ok (r2,Ep),k=>
   have k:OutOk X.K G H fp Dd (match Ej[i]?,Ep[i]? with
    | some (some _),some (some (.l .f,.lst ds))=>(match r2.2 with
     | .int k=>(match ixN ds.length k with
      | some j=>.ok (.nx (Ep.set i (some (.l .f,.lst (ds.set j r1.2)))))
      | none=>.bad)
     | _=>.bad)
    | _,_=>.bad):=k
   split at k
   ·rename_i rr ds h1 h2
    split at k
    ·rename_i kk Ih
     split at k
     ·rename_i j hj
      refine ⟨G,env,fp,r1,Ej,rel,q1,fun y H1 G1 EH EC Eo=>?_⟩
      obtain ⟨G2,b,ry,Ek,Ew⟩:=Eo.freeze
      obtain ⟨v0,Mf,_⟩:=Ek.view h1
      refine ⟨v0,Mf,G2,Ej,b,r2,Ep,Ek,q2,fun z H3 G3 G0 EX EK=>?_⟩
      obtain ⟨G4,b4,rz,E4,FY⟩:=EK.freeze
      have Nf:Rep X.K G4 r1.2 y:=Rep.mono (EX.gg.trans FY.gg) ry
      obtain ⟨p,xs,ep,hp,rs,cg⟩:=E4.chg (ds':=ds.set j r1.2) h2
      rw [Mf] at ep
      cases ep
      rw [Ih] at rz
      have hz:=bG rz
      obtain ⟨fq,FV,GJ⟩:=cg _ (rs.set j Nf)
      exact ⟨p,xs,kk,j,rfl,hz,hp,by rw [rs.length];exact hj,k _ _ G4 fq (EC.trans (Ew.trans (EX.trans (FY.trans GJ)))) FV⟩
     ·exact k.elim
    ·exact k.elim
   ·exact k.elim
end
section
variable {X:Cx}
theorem Rel.own {K:W.Frag} {G H:Hp} {es:PV.Env} {vs:L2.St} {fp:List Addr} {p:Addr} {u:HO} {tk:Bool} {ks ws:List D} {xs:List V} (q:Rel K G H es vs fp) (np:p∉fp) (gp:G p=none) (h:DictO u tk ks xs) (rs:Reps K G ws xs) :
  Rel K G (upd H p u) (some (.d,.dct tk ks ws) :: es) (some (.ref p) :: vs) (p :: fp):=by
 refine ⟨⟨some (.ref p),vs,rfl,.ref p,[p],fp,rfl,rfl,?_,q.rep.step (.refl _) fun z hz=>aP fun e=>np (e▸hz)⟩,List.nodup_cons.mpr ⟨np,q.nd⟩,fun z hz=>?_,fun b o e=>?_⟩
 ·rw [RepO]
  exact ⟨p,xs,u,rfl,bK,h,rfl,rs⟩
 ·rcases List.mem_cons.mp hz with rfl | hz
  ·exact gp
  ·exact q.gn z hz
 ·rw [aP fun z=>by subst z;rw [gp] at e;cases e]
  exact q.gh b o e
theorem Rel.aside {K:W.Frag} {G H:Hp} {es:PV.Env} {vs:L2.St} {fp:List Addr} {p:Addr} {u:HO} (q:Rel K G H es vs fp) (hp:H p=none):Rel K G (upd H p u) es vs fp:=by
 have np:p∉fp:=fun z=>by
  obtain ⟨u,e⟩:=q.rep.live p z
  rw [hp] at e;cases e
 exact ⟨q.rep.step (.refl _) fun z hz=>aP fun e=>np (e▸hz),q.nd,q.gn,fun b o e=>by rw [aP (bg (q.gh b o e) hp)];exact q.gh b o e⟩
theorem Step.aside {K:W.Frag} {G H G2 H2:Hp} {es:PV.Env} {vs:L2.St} {fp E3:List Addr} {p:Addr} {u u2:HO} (q:Rel K G H es vs fp) (hp:H p=none) (hu:isT u=false) (st:Step G (upd H p u) fp G2 H2 E3) :
  Step G H fp G2 (upd H2 p u2) (p :: E3)/\p∉E3/\G2 p=none/\H2 p=some u:=by
 have np:p∉fp:=fun z=>by
  obtain ⟨u,e⟩:=q.rep.live p z
  rw [hp] at e;cases e
 have ne:∀ {b o},H b=some o->b≠p:=fun e=>bg e hp
 refine ⟨⟨st.gg,fun b o e nb=>?_,fun b hb=>?_,fun b o e=>?_,fun b o e=>?_⟩,fun z=>?_,?_,st.keep p u bK np⟩
 ·rw [aP (ne e)]
  exact st.keep b o (by rw [aP (ne e)];exact e) nb
 ·rcases List.mem_cons.mp hb with rfl | hb
  ·exact .inr hp
  ·rcases st.fpn b hb with h | h
   ·exact .inl h
   ·by_cases e:b=p
    ·subst e;exact .inr hp
    ·rw [aP e] at h;exact .inr h
 ·rcases st.gnew b o e with h | h | h | ⟨h1,h2⟩
  ·exact .inl h
  ·exact .inr (.inl h)
  ·by_cases e:b=p
   ·subst e;exact .inr (.inr (.inl hp))
   ·rw [aP e] at h;exact .inr (.inr (.inl h))
  ·by_cases e:b=p
   ·subst e;exact .inr (.inr (.inl hp))
   ·rw [aP e] at h2;exact .inr (.inr (.inr ⟨h1,h2⟩))
 ·obtain ⟨o',h⟩:=st.there b o (by rw [aP (ne e)];exact e)
  exact ⟨o',by rw [aP (ne e)];exact h⟩
 ·rcases st.fpn p z with h | h
  ·exact np h
  ·rw [bK] at h;cases h
 ·cases e:G2 p with
  | none=>rfl
  | some o=>
   rcases st.gnew p o e with h | h | h | ⟨h1,h2⟩
   ·have:=q.gh p o h
    rw [hp] at this;cases this
   ·exact absurd h np
   ·rw [bK] at h;cases h
   ·rw [bK] at h2
    cases h2
    rw [hu] at h1;cases h1
noncomputable def tX (fk fv:FX):FX:=fun env=>(fk env).bind fun p=>(fv p.2).bind fun q=>if eQ false p.1.2 then .ok ((.d,.dct false [p.1.2] [q.1.2]),q.2) else .bad
theorem vT {k v:Expr} {fk fv:FX} {pos:Pos} (hk:QE X k fk) (hv:QE X v fv):QE X (.Dict [some k] [v] pos) (tX fk fv):=
 bU (x4 (vF hk hv x3) rfl rfl (List.cons_ne_nil _ _) (show 1<=15 by decide)) fun σ H Q EA p hp=>by
  obtain ⟨G,env,fp,r,env',rel,e,kk⟩:=EA
  obtain ⟨⟨r1,Ej⟩,e1,e⟩:=ar e
  obtain ⟨⟨r2,Ep⟩,e2,e⟩:=ar e
  dsimp only at e
  split at e
  ·rename_i Gs
   cases e
   refine ⟨G,env,fp,r1,Ej,rel.aside hp,e1,fun x H1 G1 EH EC Eo=>?_⟩
   obtain ⟨G2,b,rx,Ek,Ew⟩:=Eo.freeze
   refine ⟨G2,Ej,b,r2,_,Ek,e2,fun y H3 G3 G0 EX EK=>?_⟩
   obtain ⟨G4,b4,ry,E4,FY⟩:=EK.freeze
   have OL:Rep X.K G4 r1.2 x:=Rep.mono (EX.gg.trans FY.gg) rx
   unfold eQ at Gs
   rw [if_neg Bool.false_ne_true,Option.isSome_iff_exists] at Gs
   obtain ⟨kd,L0⟩:=Gs
   obtain ⟨ex,dx⟩:=gI L0 OL
   obtain ⟨st,np,gp,L7⟩:=Step.aside (u2:=.dK [(kd,y)]) rel hp rfl (EC.trans (Ew.trans (EX.trans FY)))
   refine ⟨L7,[(kd,y)],by rw [ex];rfl,(show 1<=15 by decide),?_⟩
   exact kk _ _ G4 _ st (E4.own np gp ⟨[(kd,y)],rfl,by rw [dx];rfl,rfl,fun kv HI=>by rw [List.mem_singleton.mp HI];exact tR L0 OL⟩ (.one ry))
  ·cases e
noncomputable def getD (ks vs:List D) (k:D):Option D:=((ks.zip vs).find? fun p=>Er k p.1).map (·.2)
theorem kc {κ:Type} [DecidableEq κ] {K:W.Frag} {G:Hp} (f:κ->D) (hf:∀ a b,Er (f a) (f b)=decide (a=b)) {k:κ}:∀ {Em:List (κ×V)} {vs:List D},Reps K G vs (Em.map (·.2))->((getD (Em.map fun kv=>f kv.1) vs (f k)).isSome=(nj Em k).isSome)/\∀ d,getD (Em.map fun kv=>f kv.1) vs (f k)=some d->∃ v,nj Em k=some v/\Rep K G d v
 | [],vs,r=>⟨rfl,fun d h=>nomatch h⟩
 | kv :: Em,vs,r=>by
  cases vs with
  | nil=>have:=r.length;simp at this
  | cons d0 vs=>
   rw [List.map_cons,Reps.cons_iff] at r
   obtain ⟨h1,h2⟩:=kc f hf (k:=k) r.2
   unfold getD nj at h1 h2 ⊢
   rw [List.map_cons,List.zip_cons_cons]
   have e:Er (f k) (f kv.1)=decide (kv.1=k):=by
    rw [hf,Bool.eq_iff_iff,decide_eq_true_eq,decide_eq_true_eq]
    exact ⟨fun z=>z.symm,fun z=>z.symm⟩
   by_cases hk:kv.1=k
   ·rw [List.find?_cons_of_pos (by show Er (f k) (f kv.1)=true;rw [e];exact decide_eq_true hk),List.find?_cons_of_pos (by exact decide_eq_true hk)]
    refine ⟨rfl,fun d h=>?_⟩
    cases h
    exact ⟨_,rfl,r.1⟩
   ·rw [List.find?_cons_of_neg (by show ¬ Er (f k) (f kv.1)=true;rw [e];simpa using hk),List.find?_cons_of_neg (by simpa using hk)]
    exact ⟨h1,h2⟩
theorem pb {K:W.Frag} {G H:Hp} (gh:Same G H) {tk:Bool} {ks vs:List D} {xs:List V} {o:HO} {p:Addr} {b:D} {y:V} (rd:Rd H p o) (dd:DictO o tk ks xs) (rs:Reps K G vs xs) (hk:eQ tk b=true) (ry:Rep K G b y) :
  ∃ ov,DGet H p y ov/\(getD ks vs b).isSome=ov.isSome/\∀ d,getD ks vs b=some d->∃ v,ov=some v/\Rep K G d v:=by
 unfold eQ at hk
 cases tk with
 | true=>
  rw [if_pos rfl,Option.isSome_iff_exists] at hk
  obtain ⟨kk,hk⟩:=hk
  obtain ⟨pz,ez,gz,dz⟩:=cM hk ry
  obtain ⟨Em,eo,ek,ex,_⟩:=dd
  subst eo ex ez dz
  have ek:ks=Em.map fun kv=>kT kv.1:=ek
  obtain ⟨h1,h2⟩:=kc (K:=K) (G:=G) kT wW (k:=kk) rs
  rw [<-ek] at h1 h2
  exact ⟨nj Em kk,.inr ⟨Em,kk,pz,rd,rfl,gh _ _ gz,rfl⟩,h1,h2⟩
 | false=>
  rw [if_neg Bool.false_ne_true,Option.isSome_iff_exists] at hk
  obtain ⟨kk,hk⟩:=hk
  obtain ⟨ez,dz⟩:=gI hk ry
  obtain ⟨Em,eo,ek,ex,_⟩:=dd
  subst eo ex ez dz
  obtain ⟨h1,h2⟩:=kc (K:=K) (G:=G) kD tN (k:=kk) rs
  rw [<-ek] at h1 h2
  exact ⟨nj Em kk,.inl ⟨Em,kk,rd,rfl,rfl⟩,h1,h2⟩
noncomputable def J6 (a b:D):Res R:=match a with
 | .dct tk ks vs=>if eQ tk b then (match getD ks vs b with
  | some d=>.ok (.f,d)
  | none=>.bad) else .bad
 | _=>.bad
theorem AW {a b:Expr} {fa fb:FO} {pos:Pos} (hu:X.A.units + 1 < cLine) (ha:QO X a fa) (hb:QO X b fb) (hs:NoSl b:=by exact fun _ _=>rfl):QE X (.Subscript a b pos) (az J6 fa fb):=
 bU (xY hu ha hb hs) fun σ H Q h=>by
  obtain ⟨G,env,fp,r,env',rel,e,k⟩:=h
  obtain ⟨⟨oa,e1⟩,ha,e⟩:=ar e
  obtain ⟨⟨ob,e2⟩,hb,e⟩:=ar e
  obtain ⟨da,J0,e⟩:=ar e
  obtain ⟨db,Ha,e⟩:=ar e
  obtain ⟨r',hr,e⟩:=ar e
  cases e
  refine ⟨G,env,fp,oa,e1,rel,ha,fun x H1 G1 EH EC Eo Gd=>⟨G1,e1,EH,ob,e2,Eo,hb,fun y H2 G2 E3 Ew Ek IU=>?_⟩⟩
  have va:=Ek.vw (Gd.mono Ew.gg) J0
  have vb:=Ek.vw IU Ha
  unfold J6 at hr
  split at hr
  ·rename_i tk ks vs
   split at hr
   ·rename_i Gs
    split at hr
    ·rename_i d hd
     cases hr
     obtain ⟨p,xs,o,ev,rd,dd,rs⟩:=va
     subst ev
     have vb':Rep X.K G2 db y:=by
      cases db with
      | lst l=>cases tk <;> simp [eQ,fe,j3] at Gs
      | dct _ _ _=>cases tk <;> simp [eQ,fe,j3] at Gs
      | _=>exact vb
     obtain ⟨ov,g,_,h2⟩:=pb Ek.gh rd dd rs Gs vb'
     obtain ⟨v,ho,rv⟩:=h2 d hd
     subst ho
     exact ⟨p,v,rfl,g,k _ H2 G2 E3 (EC.trans Ew) (Ek.push rv)⟩
    ·cases hr
   ·cases hr
  ·cases hr
noncomputable def KH (a b:D):Res R:=match b with
 | .dct tk ks vs=>if eQ tk a then .ok (.f,.bl (getD ks vs a).isSome) else .bad
 | _=>Jc a b
noncomputable def zr (a b:D):Res R:=match b with
 | .dct tk ks vs=>if eQ tk a then .ok (.f,.bl (!(getD ks vs a).isSome)) else .bad
 | _=>uR a b
theorem tY (hu:X.A.units + 65 < cLine):E2 X (compareOp .In) (rGA X.K KH):=by
 rintro pins s σ H x y v u Q I rx ry ⟨G,fp,es,vs,a,b,r,⟨rel,k⟩,va,vb,e⟩
 unfold KH at e
 split at e
 ·rename_i tk ks ws
  split at e
  ·rename_i Gs
   cases e
   obtain ⟨p,xs,o,ev,rd,dd,rs⟩:=vb
   subst ev
   cases ry
   obtain ⟨ov,g,h1,_⟩:=pb (K:=X.K) (G:=H) (fun _ _ z=>z) rd dd rs Gs va
   exact D1 (by lia) I g rx fun s' I'=>⟨.bl ov.isSome,H,I',rfl,by rw [<-h1];exact k _ H G fp .refl (rel.push (cz _))⟩
  ·cases e
 ·exact CL hu pins s σ H x y v u Q I rx ry ⟨G,fp,es,vs,a,b,r,⟨rel,k⟩,va,vb,e⟩
theorem pe (hu:X.A.units + 65 < cLine):E2 X (compareOp .NotIn) (rGA X.K zr):=by
 rintro pins s σ H x y v u Q I rx ry ⟨G,fp,es,vs,a,b,r,⟨rel,k⟩,va,vb,e⟩
 unfold zr at e
 split at e
 ·rename_i tk ks ws
  split at e
  ·rename_i Gs
   cases e
   obtain ⟨p,xs,o,ev,rd,dd,rs⟩:=vb
   subst ev
   cases ry
   obtain ⟨ov,g,h1,_⟩:=pb (K:=X.K) (G:=H) (fun _ _ z=>z) rd dd rs Gs va
   exact xW (by lia) I g rx fun s' I'=>⟨.bl (!ov.isSome),H,I',rfl,by rw [<-h1];exact k _ H G fp .refl (rel.push (cz _))⟩
  ·cases e
 ·exact AE hu pins s σ H x y v u Q I rx ry ⟨G,fp,es,vs,a,b,r,⟨rel,k⟩,va,vb,e⟩
end
section
variable {K:W.Frag} {G G' H H':Hp} {es:PV.Env} {vs:L2.St} {fp:List Addr}
end
section
variable {X:Cx}
noncomputable def AX:O->O->Bool
 | .l .f,.l .f=>true
 | .l .f,.pin _ (.l .f)=>true
 | .d,.d=>true
 | .d,.pin _ .d=>true
 | _,_=>false
open Classical in
noncomputable def AY (F:Addr->List D->Res R) (c:O) (d0:D) (ds:List D):Res (R×D):=
 if h:∃ x:R×D,∀ p,F p (d0 :: ds)=.ok (.t [x.1.1,.pin p c],.tup [x.1.2,x.2]) then .ok (Classical.choose h) else .bad
end
section
variable {X:Cx} {x:Str} {p pos:Pos} {e:Expr} {es:List Expr} {fs:FOs}
end
section
variable {K:W.Frag} {G G' H H':Hp}
end
section
variable {X:Cx} {md:Mode}
end
end PV
namespace NX
open PySem PySem.Spec PyProof.Rows L2
end NX
namespace PV
open PySem PySem.Spec PyProof.Rows L2 NX
section
variable {X:Cx}
end
end PV
namespace NX
open PySem PySem.Spec PyProof.Rows L2
section
variable {prog:Program} {w:World} {A:Around} {E:Value->Shared->Prop} {s:Shared}
end
section
variable {prog:Program} {w:World} {A:Around} {E:Value->Shared->Prop} {s:Shared}
end
section
variable {X:Cx} {e:Expr} {ta:TA} {p p2 pos pos2:Pos}
end
end NX
namespace PV
open PySem PySem.Spec PyProof.Rows L2 NX
section
variable {X:Cx} {e:Expr} {fs:FOs} {p p2 pos pos2:Pos}
end
end PV
namespace NX
open PySem PySem.Spec PyProof.Rows L2
section
open PySem.AutoSeq1 (wpAny_loadPart')
end
end NX
namespace PV
open PySem PySem.Spec PyProof.Rows L2 NX
section
variable {X:Cx}
end
section
variable {md:Mode} {X:Cx} {scope:Scope} {N:List Str} {tg iter elt:Expr} {ifs:List Expr} {pos:Pos} {fi:FI} {a:FG} {c:FT} {f:FX} {j k0:Nat}
end
section
variable {X:Cx} {x:Str} {p pos:Pos} {e:Expr} {es:List Expr} {f0:FX} {fs:FOs}
end
noncomputable def joinL (sep:List Nat):List (List Nat)->List Nat
 | []=>[]
 | [x]=>x
 | x :: y :: r=>x++sep++joinL sep (y :: r)
noncomputable def tZ (sep:List Nat):List D->Res R
 | [.lst ds]=>match eO ds with
  | some ys=>if (ys.map List.length).sum + ys.length * sep.length<=16777216 then .ok (.f,.str (joinL sep ys)) else .bad
  | none=>.bad
 | _=>.bad
theorem ua (sep:List Nat):∀ ys:List (List Nat),Str.join (S sep) (ys.map S)=S (joinL sep ys)
 | []=>rfl
 | [x]=>rfl
 | x :: y :: r=>by
  have ih:=ua sep (y :: r)
  show S x++S sep++Str.join (S sep) ((y :: r).map S)=S (x++sep++joinL sep (y :: r))
  rw [ih]
  apply Str.ext'
  simp [Str.cps_append]
theorem AZ (sep:List Nat):∀ ys:List (List Nat),Txt.join (S sep) (ys.map S)=S (joinL sep ys)
 | ys=>by
  show Builtin.Str.glued (S sep) (ys.map S)=_
  rw [StrLaws.glued_eq_join]
  exact ua sep ys
theorem nW (sep:List Nat):∀ ys:List (List Nat),(joinL sep ys).length<=(ys.map List.length).sum + ys.length * sep.length
 | []=>Nat.zero_le _
 | [x]=>by
  show x.length<=_
  rw [List.map_cons,List.sum_cons]
  lia
 | x :: y :: r=>by
  have ih:=nW sep (y :: r)
  show (x++sep++joinL sep (y :: r)).length<=_
  rw [List.length_append,List.length_append,List.map_cons,List.sum_cons,List.length_cons,Nat.add_mul]
  lia
theorem nX {K:W.Frag} {G:Hp}:∀ {ds:List D} {ys:List (List Nat)} {xs:List V} {us:List Value},eO ds=some ys->Reps K G ds xs->Vals xs us->StrsAre us (ys.map S)
 | [],ys,xs,us,e,r,v=>by
  cases e
  rw [Reps] at r
  subst r
  cases v
  exact .nil
 | .str b :: ds,ys,xs,us,e,r,v=>by
  rw [Reps] at r
  obtain ⟨y,zs,ex,r1,r2⟩:=r
  subst ex
  cases v with
  | cons h t=>
   rw [eO,Option.map_eq_some_iff] at e
   obtain ⟨ws,hw,rfl⟩:=e
   rw [Rep] at r1
   obtain ⟨r1,_⟩:=r1
   subst r1
   obtain ⟨tk,rfl⟩:=h
   exact .cons _ tk (nX hw r2 t)
 | .non :: _,_,_,_,e,_,_ | .bl _ :: _,_,_,_,e,_,_ | .int _ :: _,_,_,_,e,_,_ | .tup _ :: _,_,_,_,e,_,_ | .lst _ :: _,_,_,_,e,_,_ | .dct _ _ _ :: _,_,_,_,e,_,_=>by cases e
section
variable {X:Cx}
theorem yw:JR X "str.join" (rMtS X.K tZ):=by
 rintro pins s σ H x xs v us Q I rx rv ⟨G,fp,es,vs,l,ds,r,⟨rel,k⟩,ex,hz,vd,e⟩
 unfold tZ at e
 split at e
 ·rename_i ds
  split at e
  ·rename_i ys NF
   split at e
   ·rename_i hb
    cases e
    subst ex
    obtain ⟨w',ew,p,zs,ep,sq,rs⟩:=kO vd
    subst ew ep
    obtain ⟨t,rfl⟩:=rx
    obtain ⟨u,rfl,ru⟩:=dN rv
    cases ru
    obtain ⟨El,r',pl,JN⟩:=I.list sq
    refine join_list pl.isList (ys:=ys.map S) (nX NF rs r') ?_ fun t' kk=>?_
    ·rw [List.map_map,List.length_map]
     have e1:((fun x:Str=>x.length)∘S)=List.length:=by funext z;exact kP z
     rw [e1,kP]
     exact hb
    ·rw [AZ]
     refine ⟨.str (S (joinL l ys)),H,I.tok _,⟨_,rfl⟩,k _ H G fp .refl (rel.push ?_)⟩
     rw [Rep]
     have:=nW l ys
     exact ⟨rfl,by rw [line_eq];lia⟩
   ·cases e
  ·cases e
 ·cases e
end
end PV
namespace NX
open PySem PySem.Spec PyProof.Rows L2
section
variable {prog:Program} {w:World} {A:Around} {R:Result->Shared->Prop} {it:Addr} {fp wr:List Addr} {n:Nat} {Pv:Nat->Value->Prop} {Sx:Nat->Heap->Prop} {kw:List (Str×Value)}
theorem mh:(toString "min"++toString ".loop" : String) = "min.loop":=by decide
theorem CS (Wk:Walks prog w A.in1 it fp wr n Pv Sx) (bt:Nat->Nat->Bool) (cm:CmpOf prog w A.in1 .Lt Pv bt) (T:Addr) (nT:T∉fp):∀ (k j:Nat) (s:Shared) (vb:Value) (c:Nat),n - (j + 1)=k->j + 1<=n->Sx (j + 1) s.heap->Pv (argBest bt j) vb->
   s.heap.get? T=some { cls:=.type "list",dict:=none,data:=.seq #[vb,vb] c,slots:=#[] }->
   (∀ v h' tk,Pv (argBest bt (n - 1)) v->(∀ b o,b∉wr->b≠T->s.heap.get? b=some o->h'.get? b=some o)->R (.ok (.ret v)) { s with heap:=h',toks:=tk })->codeAny (model prog w) A (.builtin "min.loop" ⟨[.ref it,.none,.ref T],kw⟩) R s:=by
 have JW:T∉wr:=fun z=>nT (Wk.sub _ z)
 intro k
 induction k with
 | zero=>
  intro j s vb c hk hj st hp hT fin
  have ej:j + 1=n:=by lia
  refine codeAny_builtin F.entry_min_loop ?_
  rw [Around.under_plainId F.plain_min_loop _]
  show wpAny _ A.in1 (seqItems? (.ref T) >>= _) _ _ s
  refine wpAny_bind (wpAny_seqItems hT rfl ?_)
  show wpAny _ A.in1 (tryCatch (pyNext (.ref it)) _ >>= _) _ _ s
  refine wpAny_bind (wpAny_tryCatch (Wk.done s _ _ (ej▸st) fun h' tk kk=>?_))
  have HG:=kk T _ JW hT
  show wpAny _ A.in1 (updateSeq T (fun _=>#[]) >>= _) _ _ _
  refine wpAny_bind (wpAny_updateSeq HG rfl (wpAny_bind (wpAny_letGo (wpAny_pure ?_))))
  exact fin vb _ tk (by rw [<-ej];exact hp) fun b o bw bT e=>(Heap.get?_update_other _ _ (Ne.symm bT)).trans (kk b o bw e)
 | succ k ih=>
  intro j s vb c hk hj st hp hT fin
  have jn:j + 1 < n:=by lia
  refine codeAny_builtin F.entry_min_loop ?_
  rw [Around.under_plainId F.plain_min_loop _]
  show wpAny _ A.in1 (seqItems? (.ref T) >>= _) _ _ s
  refine wpAny_bind (wpAny_seqItems hT rfl ?_)
  show wpAny _ A.in1 (tryCatch (pyNext (.ref it)) _ >>= _) _ _ s
  refine wpAny_bind (wpAny_tryCatch (Wk.item (j + 1) s _ _ jn st fun v h' tk pv Gk kk=>?_))
  have HG:=kk T _ JW hT
  show wpAny _ A.in1 (tryCatch (holding [v,v] (richCompare .Lt v vb >>= _)) _ >>= _) _ _ _
  refine wpAny_bind (wpAny_tryCatch (wpAny_holding (wpAny_bind (cm (j + 1) (argBest bt j) v vb _ _ _ pv hp (wpAny_bind (wpAny_holding (wpAny_truthy_bool (wpAny_bind (wpAny_letGo (wpAny_pure ?_))))))))))
  cases eb:bt (j + 1) (argBest bt j) with
  | true=>
   rw [if_pos rfl]
   refine wpAny_bind (wpAny_updateSeq HG rfl (wpAny_bind (wpAny_letGo ?_)))
   rw [mh]
   refine wpAny_pure ⟨plainId_quiet F.plain_min_loop _,ih (j + 1) _ v _ (by lia) jn (Wk.frame _ _ _ Gk fun b bf o e=>?_) (by simp only [argBest,eb,if_true];exact pv) (Heap.get?_update_self _ HG rfl) fun v2 h2 t2 p2 k2=>?_⟩
   ·exact (Heap.get?_update_other _ _ (fun z:T=b=>nT (by rw [z];exact bf))).trans e
   ·exact fin v2 h2 t2 p2 fun b o bw bT e=>k2 b o bw bT ((Heap.get?_update_other _ _ (Ne.symm bT)).trans (kk b o bw e))
  | false=>
   rw [if_neg Bool.false_ne_true]
   refine wpAny_bind (wpAny_letGo ?_)
   rw [mh]
   refine wpAny_pure ⟨plainId_quiet F.plain_min_loop _,ih (j + 1) _ vb c (by lia) jn Gk (by simp only [argBest,eb,Bool.false_eq_true,if_false];exact hp) HG fun v2 h2 t2 p2 k2=>?_⟩
   exact fin v2 h2 t2 p2 fun b o bw bT e=>k2 b o bw bT (kk b o bw e)
theorem vU (Wk:Walks prog w A.in1 it fp wr n Pv Sx) (bt:Nat->Nat->Bool) (cm:CmpOf prog w A.in1 .Lt Pv bt) (T:Addr) (nT:T∉fp) {s:Shared} {c:Nat} {d:Value} (NK:kw=[(Str.ofString "default",d)]) (st:Sx 0 s.heap)
  (hT:s.heap.get? T=some { cls:=.type "list",dict:=none,data:=.seq #[] c,slots:=#[] }) (fin:∀ v h' tk,(if n=0 then v=d else Pv (argBest bt (n - 1)) v)->(∀ b o,b∉wr->b≠T->s.heap.get? b=some o->h'.get? b=some o)->R (.ok (.ret v)) { s with heap:=h',toks:=tk }) :
  codeAny (model prog w) A (.builtin "min.loop" ⟨[.ref it,.none,.ref T],kw⟩) R s:=by
 have JW:T∉wr:=fun z=>nT (Wk.sub _ z)
 refine codeAny_builtin F.entry_min_loop ?_
 rw [Around.under_plainId F.plain_min_loop _]
 show wpAny _ A.in1 (seqItems? (.ref T) >>= _) _ _ s
 refine wpAny_bind (wpAny_seqItems hT rfl ?_)
 show wpAny _ A.in1 (tryCatch (pyNext (.ref it)) _ >>= _) _ _ s
 by_cases hn:n=0
 ·refine wpAny_bind (wpAny_tryCatch (Wk.done s _ _ (by rw [hn];exact st) fun h' tk kk=>?_))
  subst NK
  refine wpAny_bind (wpAny_rule (wpAny_pure ?_))
  exact fin d _ tk (by rw [if_pos hn]) fun b o bw bT e=>kk b o bw e
 ·refine wpAny_bind (wpAny_tryCatch (Wk.item 0 s _ _ (by lia) st fun v h' tk pv Gk kk=>?_))
  have HG:=kk T _ JW hT
  show wpAny _ A.in1 (updateSeq T (fun _=>#[v,v]) >>= _) _ _ _
  refine wpAny_bind (wpAny_updateSeq HG rfl ?_)
  rw [mh]
  refine wpAny_pure ⟨plainId_quiet F.plain_min_loop _,CS Wk bt cm T nT _ 0 _ v _ rfl (by lia) (Wk.frame _ _ _ Gk fun b bf o e=>?_) pv (Heap.get?_update_self _ HG rfl) fun v2 h2 t2 p2 k2=>?_⟩
  ·exact (Heap.get?_update_other _ _ (fun z:T=b=>nT (by rw [z];exact bf))).trans e
  ·exact fin v2 h2 t2 (by rw [if_neg hn];exact p2) fun b o bw bT e=>k2 b o bw bT ((Heap.get?_update_other _ _ (Ne.symm bT)).trans (kk b o bw e))
end
theorem args_mind (a d:Value):argsOk "min" ⟨[a],[(Str.ofString "default",d)]⟩:=by unfold argsOk;kernel_rfl
section
variable {X:Cx} {e k:Expr} {te tk:TE} {p pos Ht:Pos}
noncomputable def minD (ns:List Int) (d:Int):Int:=if ns=[] then d else dO ns
noncomputable def CT (K:W.Frag) (te tk:TE):TE:=fun σ H Q=>qR te zl σ H fun vs H1=>qR tk zl σ H1 fun ks H2=>∃ (a:Addr) (ns:List Int) (d:Int),vs=[.ref a]/\ks=[.int d]/\(SqL K H2 a (ns.map V.int)\/SqT K H2 a (ns.map V.int))/\Q (.int (minD ns d)) H2
theorem yx (hc:X.calm=true) (hg:Gl X "min") (hm:X.mg "min" = none) (he:PE X e te) (hk:PE X k tk) (hs:starEach [e] X.env=[(false,eval e X.env)]:=by rfl) :
  PE X (.Call (.Name "min" p) [e] [⟨some "default",k,Ht⟩] pos) (CT X.K te tk):=by
 intro pins s σ H Q I h
 refine wpAny_Call_Name_kw (jL I hg hm (by decide +kernel:bootBuiltins "min" = some (.builtin "min")) ?_ (by decide) (by decide))
 refine callWith_kw (ED (eZ he k7 (hs:=hs) pos pins s σ H _ I h) fun us s1 ⟨vs,H1,I1,r1,q1⟩=>?_) (by rw [hs];rfl) (by rw [hs];rfl)
 refine ED (sd hk wt pos pins s1 σ H1 _ I1 q1) fun ws s2 EE=>?_
 obtain ⟨ks,H2,I2,r2,a,ns,d,e1,e2,hp,q⟩:=EE
 subst e1 e2
 obtain ⟨u,rfl,ru⟩:=dN r1
 obtain ⟨w',rfl,t,rfl⟩:=dN r2
 cases ru
 show wpAny _ _ (call (.builtin "min") [.ref a] [(Str.ofString "default",.int d t)]) _ _ s2
 refine tree_kw F.kind_min F.plain_min F.entry_min (args_mind _ _) ?_
 show wpAny _ X.A.in1 (Builtin.Builtins.bindParams "min" ["key","default"] 0 ⟨[],[(Str.ofString "default",.int d t)]⟩ >>= _) _ _ s2
 refine wpAny_bind (wpAny_of_eq (show Builtin.Builtins.bindParams "min" ["key","default"] 0 ⟨[],[(Str.ofString "default",.int d t)]⟩=pure [none,some (.int d t)] from rfl) ?_)
 refine wpAny_bind (wpAny_pure ?_)
 refine wpAny_bind (e7 hc I2 hp fun it fp o ws Sx rv Wk st hf hit=>?_)
 have hl:=rv.length
 rw [List.length_map] at hl
 refine wpAny_bind (wpAny_newObj_type ?_)
 have nT:(s2.heap.push o).objs.size∉fp:=fun z=>Nat.lt_irrefl _ (hf _ z)
 rw [mh]
 refine wpAny_pure ⟨plainId_quiet F.plain_min_loop _,vU Wk _ (m7 rv _) (s2.heap.push o).objs.size nT rfl (Wk.frame _ _ _ st fun b _ ob e=>Heap.get?_push_of_some _ e) (Heap.get?_push_size _ rfl) fun v h' NL hv kk=>?_⟩
 subst hit
 have I3:Inv X pins σ H2 { s2 with heap:=h',toks:=NL }:=dj (s:=s2) (o:=o) I2 fun b ob nb e=>kk b ob nb (Nat.ne_of_lt (Heap.lt_size e)) (Heap.get?_push_of_some _ e)
 refine ⟨.int (minD ns d),H2,I3,?_,q⟩
 unfold minD
 by_cases hn:ns=[]
 ·rw [if_pos (by rw [<-hl,hn];rfl)] at hv
  rw [if_pos hn,hv]
  exact ⟨t,rfl⟩
 ·have h0:0 < ns.length:=List.length_pos_iff.mpr hn
  rw [if_neg (by lia)] at hv
  rw [if_neg hn]
  obtain ⟨b1,b2⟩:=lJ ns (ns.length - 1) (by lia)
  rw [<-hl] at hv
  obtain ⟨t2,rfl⟩:=dG rv hv
  refine ⟨t2,?_⟩
  rw [b2,show ns.length - 1 + 1=ns.length by lia,List.take_length]
  rfl
end
end NX
namespace PV
open PySem PySem.Spec PyProof.Rows L2 NX
noncomputable def yy (f g:FX):FX:=fun env=>(f env).bind fun p=>(g p.2).bind fun q=>match (jX p.1.2).bind cF,q.1.2 with
 | some ns,.int d=>.ok ((.f,.int (NX.minD ns d)),q.2)
 | _,_=>.bad
section
variable {X:Cx}
theorem yz {e k:Expr} {f g:FX} {p pos Ht:Pos} (hc:X.calm=true) (hg:Gl X "min") (hm:X.mg "min" = none) (he:QE X e f) (hk:QE X k g) (hs:starEach [e] X.env=[(false,eval e X.env)]:=by rfl) :
  QE X (.Call (.Name "min" p) [e] [⟨some "default",k,Ht⟩] pos) (yy f g):=bU (yx hc hg hm he hk hs) fun σ H Q EA=>by
 obtain ⟨G,env,fp,r,env',rel,e,k⟩:=EA
 obtain ⟨⟨r1,Ej⟩,e1,e⟩:=ar e
 obtain ⟨⟨r2,Ep⟩,e2,e⟩:=ar e
 dsimp only at e
 split at e
 ·rename_i ns d KD hd
  cases e
  refine ⟨G,env,fp,r1,Ej,rel,e1,fun v H1 G1 EH EC Eo=>?_⟩
  obtain ⟨G2,b,rv,Ek,Ew⟩:=Eo.freeze
  refine ⟨G2,Ej,b,r2,_,Ek,e2,fun w' H3 G3 G0 EX EK=>?_⟩
  have hw:=EK.top
  obtain ⟨b3,E4,FY⟩:=EK.drop
  rw [hd] at hw
  obtain ⟨p',ep,sq⟩:=fU E4.gh KD (Vw.of E4.gh (Rep.mono EX.gg rv))
  subst ep
  exact ⟨p',ns,d,rfl,by rw [bG hw],sq,k _ H3 G3 b3 (EC.trans (Ew.trans (EX.trans FY))) (E4.push (a8 _))⟩
 ·cases e
end
section
variable {X:Cx}
noncomputable def CU (g:List D->List D->Res R) (fa:FO) (fs:FOs):FX:=fun env=>(fa env).bind fun p=>(EU p.2 p.1).bind fun a=>match a with
 | .lst _=>(fs p.2).bind fun q=>(EU q.2 p.1).bind fun a2=>match a2 with
  | .lst l=>(oM q.2 q.1).bind fun ds=>(g l ds).bind fun r=>.ok (r,q.2)
  | _=>.bad
 | _=>.bad
inductive rMtL (K:W.Frag) (g:List D->List D->Res R) (x:V) (xs:List V) (H:Hp) (Q:VK):Prop
 | mk:∀ G fp es vs l ds r,Goes K H G fp es vs r Q->Vw K G H (.lst l) x->KG K G H ds xs->g l ds=.ok r->rMtL K g x xs H Q
theorem A3 {g:List D->List D->Res R} {id:String} {name:Str} {o e:Expr} {es:List Expr} {fa:FO} {fs:FOs} {apos EG:Pos} (slot:Slot "list" name id) (Jj:typeOf (.builtin id)=pure (.type "method_descriptor")) (hm:JR X id (rMtL X.K g)) (ho:QO X o fa) (ha:Jq X (e :: es) fs)
  (Fz:attributeBase o name X.env (eval o X.env)=eval o X.env:=by rfl)
  (GL:((backTo EG (starEach (e :: es) X.env)).all (fun x=>!x.1) && (backToKw EG (keywordEach [] X.env)).all (fun x=>x.1.isSome) && decide ((e :: es).length + ([]:List Keyword).length + (if ([]:List Keyword).isEmpty then 0 else 1) < 30))=true:=by rfl)
  (FA:(apos.endLine == EG.line)=true:=by rfl) (hs:starEach (e :: es) X.env=(false,eval e X.env) :: starEach es X.env:=by rfl) (E7:(backTo EG (starEach es X.env)).any (·.1)=false:=by rfl) :
  QE X (.Call (.Attribute o name apos) (e :: es) [] EG) (CU g fa fs):=by
 refine bU (xG PySem.F.plainAttrs_list slot Jj hm ho ha Fz GL FA hs E7) fun σ H Q EE=>?_
 obtain ⟨G,env,fp,r,env',rel,e,k⟩:=EE
 obtain ⟨⟨oa,Ej⟩,e1,e⟩:=ar e
 obtain ⟨da,J0,e⟩:=ar e
 dsimp only at e
 split at e
 ·obtain ⟨⟨os,Ep⟩,e2,e⟩:=ar e
  obtain ⟨d2,hd2,e⟩:=ar e
  dsimp only at e
  split at e
  ·obtain ⟨ds,e3,e⟩:=ar e
   obtain ⟨r',e4,e⟩:=ar e
   cases e
   refine ⟨G,env,fp,oa,Ej,rel,e1,fun v H1 G1 EH EC Eo Gd=>?_⟩
   obtain ⟨p,xs,ev,sq,_⟩:=Eo.vw Gd J0
   subst ev
   exact ⟨.inl ⟨rfl,xs,sq⟩,G1,Ej,EH,os,_,Eo,e2,fun vs H2 G2 E3 Ew Ek IU=>⟨G2,E3,_,σ,_,ds,r,⟨Ek,fun v H' G' Et st EL=>k v H' G' Et (EC.trans (Ew.trans st)) EL⟩,Ek.vw (Gd.mono Ew.gg) hd2,Ek.vws IU e3,e4⟩⟩
  ·cases e
 ·cases e
open PySem.SeqAt in
theorem yA {pins:List (Addr×Obj)} {σ:L2.St} {H:Hp} {s:Shared} (I:Inv X pins σ H s) {a:D} {x:V} {v:Value} {A:Around} (h:plainD 40 a=true) (hu:A.units + 64 < cLine) (r:Rep X.K H a x) (rx:RelV x v) :
  ∀ (ds:List D) (xs:List V) (us:List Value),plainDs 40 ds=true->Reps X.K H ds xs->Vals xs us->∃ e:Value->Bool,(∀ (j:Nat) (d:D) (u:Value),ds[j]?=some d->us[j]?=some u->e u=Er d a)/\∀ u∈us,EqAt A s u v (e u):=by
 classical
 intro ds xs us hp rs vl
 have key:∀ (j:Nat) (d:D) (u:Value),ds[j]?=some d->us[j]?=some u->decide (∃ (j:Nat) (d:D),ds[j]?=some d/\us[j]?=some u/\Er d a=true)=Er d a:=by
  intro j d u hd hj
  obtain ⟨w1,Ii,Ij⟩:=rs.get hd
  obtain ⟨u1,GO,Ik⟩:=vl.get Ii
  rw [hj] at GO
  cases GO
  rw [Bool.eq_iff_iff,decide_eq_true_eq]
  constructor
  ·rintro ⟨j2,d2,k1,k2,k3⟩
   obtain ⟨w2,Jt,Ju⟩:=rs.get k1
   obtain ⟨u2,HK,Jv⟩:=vl.get Jt
   rw [k2] at HK
   cases HK
   have:=Ik.inj Jv
   subst this
   rw [jZ I _ _ _ 40 (plainDs_mem hp hd) Ij Ju]
   exact k3
  ·intro k3
   exact ⟨j,_,hd,hj,k3⟩
 refine ⟨fun u=>decide (∃ (j:Nat) (d:D),ds[j]?=some d/\us[j]?=some u/\Er d a=true),key,fun u N0=>?_⟩
 obtain ⟨j,hj⟩:=List.mem_iff_getElem?.mp N0
 have l1:=vl.length
 have l2:=rs.length
 have OC:=(List.getElem?_eq_some_iff.mp hj).1
 have g1:ds[j]?=some (ds[j]'(by lia)):=List.getElem?_eq_getElem _
 obtain ⟨w1,Ii,Ij⟩:=rs.get g1
 obtain ⟨u1,GO,Ik⟩:=vl.get Ii
 rw [hj] at GO
 cases GO
 have z:=yi I _ _ w1 x u v A 40 (plainDs_mem hp g1) h (by lia) Ij r Ik rx
 show EqAt A s u v (decide (∃ (j:Nat) (d:D),ds[j]?=some d/\us[j]?=some u/\Er d a=true))
 rw [key j _ u g1 hj]
 exact z
noncomputable def pf (l:List D):List D->Res R
 | [a]=>if plainD 40 a && plainDs 40 l && l.any (fun d=>Er d a) then .ok (.f,.int (l.findIdx (fun d=>Er d a):Nat)) else .bad
 | _=>.bad
theorem pg (hu:X.A.units + 65 < cLine):JR X "list.index" (rMtL X.K pf):=by
 rintro pins s σ H x xs v us Q I rx rv ⟨G,fp,es,vs,l,ds,r,⟨rel,k⟩,vx,vd,e⟩
 unfold pf at e
 split at e
 ·rename_i a
  split at e
  ·rename_i hp
   rw [Bool.and_eq_true,Bool.and_eq_true] at hp
   cases e
   obtain ⟨p,ys,ev,sq,rs⟩:=vx
   subst ev
   cases rx
   obtain ⟨w',ew,va⟩:=kO vd
   subst ew
   obtain ⟨u,rfl,ru⟩:=dN rv
   obtain ⟨El,vl,pl,hz⟩:=I.list sq
   obtain ⟨⟨cls,dd,data,sl⟩,ho,hc,n,hd⟩:=id pl.isList
   simp only at hc hd
   subst hc hd
   obtain ⟨ef,OM,he2⟩:=yA (A:=X.A.in1) I hp.1.1 (by first | lia | (simp only [Around.in1_units];lia)) (va.rep rel.gh) ru l ys El hp.1.2 (Reps.mono rel.gh rs) vl
   have EY:l.findIdx (fun d=>Er d a) < l.length:=List.findIdx_lt_length.mpr (by rw [<-List.any_eq_true];exact hp.2)
   have l1:=vl.length
   have l2:=rs.length
   have hlt2:l.findIdx (fun d=>Er d a) < El.toArray.size:=by rw [List.size_toArray];lia
   have hb:(l.findIdx (fun d=>Er d a):Int) < 2 ^ 63 - 1:=by
    rw [sizeLine_eq] at hz
    lia
   refine PySem.call_meets PySem.F.slot_list_index ⟨_,ho,rfl⟩ PySem.F.entry_list_index (PySem.F.args_list_index_2 _ _) (PySem.SeqAt.list_indexAt p El.toArray n _ _ u ef (l.findIdx fun d=>Er d a) hlt2 hb ?_ ?_) ⟨ho,fun y hy=>?_,⟨.int (l.findIdx (fun d=>Er d a):Nat),H,I.tok _,⟨_,rfl⟩,k _ H G fp .refl (rel.push (a8 _))⟩⟩
   ·rw [OM _ _ _ (List.getElem?_eq_getElem EY) (by rw [List.getElem_toArray];exact List.getElem?_eq_getElem _)]
    exact List.findIdx_getElem (w:=EY)
   ·intro m hm hlt3
    rw [OM m (l[m]'(by lia)) _ (List.getElem?_eq_getElem _) (by rw [List.getElem_toArray];exact List.getElem?_eq_getElem _)]
    exact List.not_of_lt_findIdx hlt3
   ·exact he2 y (by simpa using hy)
  ·cases e
 ·cases e
end
section
variable {K:W.Frag} {G G' H H':Hp} {es:PV.Env} {vs:L2.St} {fp:List Addr}
end
noncomputable def eFunW (c:O) (F:Addr->List D->Res R) (i:Nat) (fs:FOs):FX:=fun env=>(fs env).bind fun p=>match p.1 with
 | .var j :: os=>if j=i then (match p.2[i]? with
  | some (some (ow,d0))=>if AX c ow then (kS (p.2.set i none) os).bind fun ds=>(AY F c d0 ds).bind fun x=>if bJ x.1.1 x.1.2 && bJ c x.2 then .ok (x.1,(p.2.set i none).set i (some (ow,x.2))) else .ok (x.1,((p.2.set i none).map frz).set i (some (ow,x.2))) else .bad
  | _=>.bad) else .bad
 | _=>.bad
section
variable {X:Cx} {x:Str} {p pos:Pos} {e:Expr} {es:List Expr} {f0:FX} {fs:FOs}
end
def SlR3 (X:Cx) (r:V->Option Int->Option Int->Option Int->Hp->VK->Prop):Prop:=
 ∀ (pins:List (Addr×Obj)) (s:Shared) (σ:L2.St) (H:Hp) (x:V) (v vl vu vt:Value) (lo hi st:Option Int) (sl:Addr) (Q:VK),Inv X pins σ H s->RelV x v->s.heap.IsSliceOf sl vl vu vt->IsPart vl lo->IsPart vu hi->IsPart vt st->r x lo hi st H Q->
  ∃ T id,typeLookup (.type T) "__getitem__" = pure (some (.builtin id))/\s.TypeIs v T/\wpAny (model X.prog X.w) X.A (getItem v (.ref sl)) (EP X pins σ Q) X.xe s
noncomputable def D5 (r:V->Option Int->Option Int->Option Int->Hp->VK->Prop) (te:TE) (tl th ts:TO):TE:=fun σ H Q=>te σ H fun x H1=>tl σ H1 fun l H2=>th σ H2 fun u H3=>ts σ H3 fun t H4=>r x l u t H4 Q
theorem ub {X:Cx} {e:Expr} {te:TE} {lo hi:Option Expr} {se:Expr} {tl th ts:TO} {pos p2:Pos} {r:V->Option Int->Option Int->Option Int->Hp->VK->Prop} (hr:SlR3 X r) (he:PE X e te) (hl:PO X lo tl) (hu:PO X hi th) (hs:PO X (some se) ts):PE X (.Subscript e (.Slice lo hi (some se) p2) pos) (D5 r te tl th ts):=by
 intro pins s σ H Q I h
 refine Subscript_ (ED (he pins s σ H _ I h) fun v s1 EE=>?_)
 obtain ⟨x,H1,I1,r1,q1⟩:=EE
 refine wpAny_Slice (ED (hl pins s1 σ H1 _ I1 q1) fun vl s2 ⟨l,H2,I2,pl,q2⟩=>ED (hu pins s2 σ H2 _ I2 q2) fun vu s3 ⟨u,H3,I3,pu,q3⟩=>ED (hs pins s3 σ H3 _ I3 q3) fun vt s4 EE=>?_)
 obtain ⟨t,H4,I4,pt,q4⟩:=EE
 have I5:Inv X pins σ H4 { s4 with heap:=s4.heap.push { cls:=.type "slice",data:=.fields #[vl,vu,vt] } }:=I4.kept (t':=s4.toks) fun b ob q=>Heap.get?_push_of_some _ q
 obtain ⟨T,id,hT,ht,hg⟩:=hr pins { s4 with heap:=s4.heap.push { cls:=.type "slice",data:=.fields #[vl,vu,vt] } } σ H4 x v vl vu vt l u t s4.heap.objs.size Q I5 r1 (Heap.IsSliceOf.new ..) pl pu pt q4
 show wpAny (model X.prog X.w) X.A (subscriptTail e (.Slice lo hi (some se) p2) v (.ref s4.heap.objs.size)) (EP X pins σ Q) X.xe { s4 with heap:=s4.heap.push { cls:=.type "slice",data:=.fields #[vl,vu,vt] } }
 exact tail_any (ops:=[v,.ref s4.heap.objs.size]) ht hT hg (by with_unfolding_all rfl)
noncomputable def fW {α:Type} (xs:List α) (lo hi:Option Int) (c:Int):List α:=
 (sliceRange (sliceBounds lo hi (some c) xs.length).1 (sliceBounds lo hi (some c) xs.length).2.1 (sliceBounds lo hi (some c) xs.length).2.2).filterMap (fun i=>xs[i]?)
theorem nY {K:W.Frag} {G:Hp} {ds:List D} {xs:List V} (r:Reps K G ds xs):∀ ix:List Nat,Reps K G (ix.filterMap fun i=>ds[i]?) (ix.filterMap fun i=>xs[i]?)
 | []=>.nil
 | i :: ix=>by
  have ih:=nY r ix
  cases e:ds[i]? with
  | none=>
   have e2:xs[i]?=none:=by
    rw [List.getElem?_eq_none_iff] at e ⊢
    rw [r.length]
    exact e
   rw [List.filterMap_cons_none e,List.filterMap_cons_none e2]
   exact ih
  | some d=>
   obtain ⟨v,e2,rv⟩:=r.get e
   rw [List.filterMap_cons_some e,List.filterMap_cons_some e2]
   exact .cons rv ih
theorem vals_pick {xs:List V} {us:List Value} (r:Vals xs us):∀ ix:List Nat,Vals (ix.filterMap fun i=>xs[i]?) (ix.filterMap fun i=>us[i]?)
 | []=>.nil
 | i :: ix=>by
  have ih:=vals_pick r ix
  cases e:xs[i]? with
  | none=>
   rw [List.filterMap_cons_none e,List.filterMap_cons_none (r.none_of e)]
   exact ih
  | some d=>
   obtain ⟨v,e2,rv⟩:=r.get e
   rw [List.filterMap_cons_some e,List.filterMap_cons_some e2]
   exact .cons rv ih
theorem qu (El:List Value) (lo hi:Option Int) (c:Int):slicePick El.toArray lo hi (some c)=(fW El lo hi c).toArray:=by
 unfold slicePick fW
 simp only [List.size_toArray,List.getElem?_toArray]
theorem yB (El:List Value) (lo hi:Option Int) (c:Int):(fW El lo hi c).length<=El.length:=by
 have:=slicePick_size_le El.toArray lo hi (some c)
 rw [qu] at this
 simpa using this
noncomputable def A4 (k:D) (lo hi st:Option Int):Res R:=match k,st with
 | .lst ds,some c=>if c≠0 then .ok (.l .f,.lst (fW ds lo hi c)) else .bad
 | _,_=>.bad
noncomputable def CV (fa:FO) (lo hi st:FP):FX:=fun env=>(fa env).bind fun p=>(lo p.2).bind fun q=>(hi q.2).bind fun t=>(st t.2).bind fun u=>(EU u.2 p.1).bind fun d=>(A4 d q.1 t.1 u.1).bind fun r=>.ok (r,u.2)
section
variable {X:Cx} {pos:Pos} {fa:FO}
inductive rSl3 (K:W.Frag) (x:V) (lo:Option Int) (hi:Option Int) (st:Option Int) (H:Hp) (Q:VK):Prop
 | mk:∀ G fp es vs d r,Goes K H G fp es vs r Q->Vw K G H d x->A4 d lo hi st=.ok r->rSl3 K x lo hi st H Q
theorem A5:SlR3 X (rSl3 X.K):=by
 rintro pins s σ H x v vl vu vt lo hi st sl Q I rx hs pl pu pt ⟨G,fp,es,vs,d,r,⟨rel,k⟩,vd,e⟩
 unfold A4 at e
 split at e
 ·rename_i ds c
  split at e
  ·rename_i hc
   cases e
   obtain ⟨p,xs,ev,sq,rs⟩:=vd
   subst ev
   cases rx
   obtain ⟨El,r,ht,hz⟩:=I.list sq
   have hlen:=r.length
   refine ⟨"list",_,slot_list_getitem.lookup,ht.isList.typeIs,?_⟩
   refine wpAny_getItem_list_slice ht.isList hs pl pu pt (fun h=>hc (Option.some.inj h)) ?_ (by rw [List.size_toArray];lia)
   rw [qu]
   have r2:Vals (fW xs lo hi c) (fW El lo hi c):=by
    unfold fW
    rw [hlen]
    exact vals_pick r _
   have rs2:Reps X.K G (fW ds lo hi c) (fW xs lo hi c):=by
    unfold fW
    rw [rs.length]
    exact nY rs _
   have JN:(fW xs lo hi c).length<=sizeLine:=by
    rw [r2.length]
    have:=yB El lo hi c
    lia
   have hq:=I.hok.fresh (Nat.le_refl s.heap.objs.size)
   obtain ⟨Ek,Ew⟩:=rel.newL hq rs2
   refine ⟨.ref s.heap.objs.size,_,I.laid (t':=s.toks) (o:=.lst (fW xs lo hi c)) (fun b ob q=>Heap.get?_push_of_some _ q) (Nat.le_refl _) ?_,rfl,k _ _ G _ Ew Ek⟩
   exact ⟨JN,_,0,r2,Heap.get?_push_size _ rfl⟩
  ·cases e
 ·cases e
theorem A6 {e:Expr} {lo hi:Option Expr} {se:Expr} {p2:Pos} {fl fh fs:FP} (he:QO X e fa) (hl:QP X lo fl) (hh:QP X hi fh) (hs:QP X (some se) fs):QE X (.Subscript e (.Slice lo hi (some se) p2) pos) (CV fa fl fh fs):=
 bU (ub A5 he hl hh hs) fun σ H Q EA=>by
  obtain ⟨G,env,fp,r,env',rel,e,k⟩:=EA
  obtain ⟨⟨o,Ej⟩,e1,e⟩:=ar e
  obtain ⟨⟨i,Ep⟩,e2,e⟩:=ar e
  obtain ⟨⟨j,E9⟩,e3,e⟩:=ar e
  obtain ⟨⟨t,Mo⟩,e4,e⟩:=ar e
  obtain ⟨d,e5,e⟩:=ar e
  obtain ⟨r',e6,e⟩:=ar e
  cases e
  exact ⟨G,env,fp,o,Ej,rel,e1,fun v H1 G1 EH EC Eo Gd=>⟨G1,Ej,EH,i,Ep,Eo,e2,fun H2 G2 E3 Ew Ek=>⟨G2,Ep,E3,j,E9,Ek,e3,fun H3 G3 G0 EX EK=>⟨G3,E9,G0,t,Mo,EK,e4,fun H4 G4 Ma FY E4=>
   ⟨G4,Ma,Mo,σ,d,r,⟨E4,fun v H' G' Et st EL=>k v H' G' Et (EC.trans (Ew.trans (EX.trans (FY.trans st)))) EL⟩,E4.vw (((Gd.mono Ew.gg).mono EX.gg).mono FY.gg) e5,e6⟩⟩⟩⟩⟩
end
section
variable {X:Cx}
noncomputable def yC (fa fb fc:FX):FX:=fun env=>(fa env).bind fun p=>(fb p.2).bind fun q=>(fc q.2).bind fun t=>.ok ((.t [.f,q.1.1,t.1.1],.tup [p.1.2,q.1.2,t.1.2]),t.2)
theorem yD {a b c:Expr} {fa fb fc:FX} {x1} {pos:Pos} (ha:QE X a fa) (hb:QE X b fb) (hc:QE X c fc) (h1:starEach [a,b,c] X.env=(false,eval a X.env) :: starEach [b,c] X.env:=by rfl) (h2:starEach [b,c] X.env=(false,eval b X.env) :: starEach [c] X.env:=by rfl) (h3:starEach [c] X.env=(false,eval c X.env) :: starEach [] X.env:=by rfl) :
  QE X (.Tuple [a,b,c] x1 pos) (yC fa fb fc):=
 bU (wq (eZ ha (eZ hb (eZ hc k7 h3) h2) h1)) fun σ H Q EA=>by
  obtain ⟨G,env,fp,r,env',rel,e,k⟩:=EA
  obtain ⟨⟨r1,Ej⟩,e1,e⟩:=ar e
  obtain ⟨⟨⟨o2,d2⟩,Ep⟩,e2,e⟩:=ar e
  obtain ⟨⟨⟨o3,d3⟩,E9⟩,e3,e⟩:=ar e
  cases e
  refine ⟨G,env,fp,r1,Ej,rel,e1,fun v H1 G1 EH EC Eo=>?_⟩
  obtain ⟨G2,b,rv,Ek,Ew⟩:=Eo.freeze
  refine ⟨G2,Ej,b,(o2,d2),Ep,Ek,e2,fun v2 H3 G3 G0 EX EK=>?_⟩
  obtain ⟨a3,b3,Ng,ro3,Mp,bk3⟩:=EK.frame
  refine ⟨G3,Ep,b3,(o3,d3),E9,Mp,e3,fun v3 H4 G4 Ma FY E4=>⟨by rw [line_eq];exact (by decide:3<=16777216),fun p hp=>?_⟩⟩
  obtain ⟨Jx,J4⟩:=bk3 G4 H4 _ _ Ma FY E4
  rw [<-Ng] at J4
  obtain ⟨FV,GJ⟩:=Jx.newF (u:=.tup [v,v2,v3]) hp
  refine k _ _ _ _ (EC.trans (Ew.trans (EX.trans (J4.trans GJ)))) ?_
  obtain ⟨y,ys,ey,v',a',b',N5,ef,q1,q2⟩:=FV.rep
  cases ey
  cases N5
  obtain ⟨y,ys,ey,v'',Mq,b'',N5,ef',q3,q4⟩:=q2
  cases ey
  cases N5
  subst ef'
  refine ⟨⟨some (.ref p),σ,rfl,.ref p,a'++Mq,b'',rfl,by rw [ef,List.append_assoc],?_,q4⟩,FV.nd,FV.gn,FV.gh⟩
  show RepO X.K _ _ (.t [.f,o2,o3]) (.tup [r1.2,d2,d3]) (.ref p) (a'++Mq)
  rw [RepO]
  refine ⟨p,[v,v2,v3],rfl,bK,?_⟩
  rw [RepT]
  refine ⟨v,[v2,v3],[],a'++Mq,rfl,rfl,jb.mpr ⟨Rep.mono (EX.gg.trans (J4.gg.trans GJ.gg)) rv,rfl⟩,?_⟩
  rw [RepT]
  refine ⟨v2,[v3],a',Mq,rfl,rfl,q1,?_⟩
  rw [RepT]
  refine ⟨v3,[],Mq,[],rfl,by rw [List.append_nil],q3,?_⟩
  rw [RepT]
  exact ⟨rfl,rfl⟩
end
end PV
namespace LW
open PySem L2 NX PV
abbrev mK (f:FX):FI:=Fj (Ar f) (Fj (fM f) (fN f))
noncomputable def og:FS:=(dI (aY AA (ag (aj (cu (nS (ag (aj (aJ 0)) (ag (aj (aJ 1)) ay))) [none,none] (gH 2 (aB (au 0) (aB (au 1) cC))) dy (az jI (ai 0) (ai 1)))) ay)))
noncomputable def bz:List D->Res R:=fBody 2 0 og
noncomputable def xa:FS:=(dI (aY cE (ag (aj (cu (nS (ag (aj (aJ 0)) (ag (aj (aJ 1)) ay))) [none,none] (gH 2 (aB (au 0) (aB (au 1) cC))) dy (az nI (ai 0) (ai 1)))) ay)))
noncomputable def gQ:List D->Res R:=fBody 2 0 xa
noncomputable def ke:FS:=(dI (az dg (aj (aE (.int 1))) (aj (yj (cu (mK (az Eu (ai 0) (aj (aE (.int 1))))) [none,none,none] (gH 3 (aB (au 0) (aB (au 1) (aB (au 2) cC)))) dy (aY maxD (ag (ai 0) (ag (ai 2) ay)))) (aE (.int 0))))))
noncomputable def dm:List D->Res R:=fBody 1 0 ke
noncomputable def d9:FS:=(Gq (uQ (E1 (bo GF (aj (az Eu (ai 4) (aj (aE (.int 0))))) (aj (az Eu (ai 1) (ai 3))))) (E1 (bo zr (aj (az Eu (ai 4) (aj (aE (.int 2))))) (ai 1))))
  (sSeq (iq (qi 1 (az Eu (ai 4) (aj (aE (.int 2))))))
  (iq (qi 2 (aJ 4))))
  dC)
noncomputable def kg:FS:=(lV (mK (aJ 0)) (au 4)
  d9)
noncomputable def jh:FS:=(b9 3 (az dg (ai 3) (aj (aE (.int 1)))))
noncomputable def fX:FS:=(sSeq kg
  jh)
noncomputable def kh:FS:=(cY (E1 (az IW (ai 3) (aj (aY mf (ag (ai 1) ay)))))
  fX 100000)
noncomputable def ji:FS:=(dI (jS 2))
noncomputable def oh:FS:=(sSeq (b9 1 (lZ (aI (aE (.int 0)) bP)))
  (sSeq (b9 2 (lZ bP))
  (sSeq (b9 3 (aE (.int 0)))
  (sSeq kh
  ji))))
noncomputable def cG:List D->Res R:=fBody 1 4 oh
noncomputable def fY:FS:=(BY 1 (aJ 4) (az dg (aj (az J6 (ai 1) (ai 2))) (aj (jz (aI (aJ 3) bP)))))
noncomputable def ki:FS:=(lV (mK (cA cG (ag (aj (az Eu (ai 0) (aj (aE (.int 1))))) ay))) (gH 3 (aB (au 2) (aB (au 3) (aB (au 4) cC))))
  fY)
noncomputable def jj:FS:=(dI (cu (dk (aj (cA dm (ag (ai 0) ay)))) [none,some 1] (au 0) dy (az J6 (ai 1) (ai 0))))
noncomputable def oi:FS:=(sSeq (b9 1 (tX (aE (.int 0)) (jz bP)))
  (sSeq ki
  jj))
noncomputable def cp:List D->Res R:=fBody 1 4 oi
noncomputable def oj:FS:=(dI (aY cE (ag (aj (cu (Fj (gM 0) (Fj (fM (aJ 0)) (fN (aJ 0)))) [none,some 1] (au 0) dy (vS zq (ai 1) (ag (ai 0) ay)))) ay)))
noncomputable def cH:List D->Res R:=fBody 2 0 oj
noncomputable def kj:FS:=(dI (cu (mK (cA cp (ag (ai 0) ay))) [none,some 0] (au 0) dy (cA cH (ag (aj (az Eu (ai 1) (aj (aE (.int 0))))) (ag (ai 0) ay)))))
noncomputable def bX:List D->Res R:=fBody 1 0 kj
noncomputable def ft:FS:=(Gq (E1 (bo zr (ai 4) (ai 2)))
  (iq (qi 3 (cA gQ (ag (aj (cA cH (ag (aj (az Eu (ai 0) (aj (aE (.int 0))))) (ag (aj (az dg (aj (az Eu (ai 1) (aj (az Eu (ai 4) (aj (aE (.int 0))))))) (aj (jz (aI (az Eu (ai 4) (aj (aE (.int 1)))) bP))))) ay)))) (ag (aj (cA cH (ag (aj (az Eu (ai 0) (aj (aE (.int 0))))) (ag (aj (az Eu (ai 1) (aj (az Eu (ai 4) (aj (aE (.int 2))))))) ay)))) ay)))))
  dC)
noncomputable def jk:FS:=(lV (mK (az Eu (ai 0) (aj (aE (.int 1))))) (au 4)
  ft)
noncomputable def iC:FS:=(dI (jS 3))
noncomputable def lr:FS:=(sSeq (b9 1 (cA cp (ag (ai 0) ay)))
  (sSeq (b9 2 (cA cG (ag (aj (az Eu (ai 0) (aj (aE (.int 1))))) ay)))
  (sSeq (b9 3 (lZ bP))
  (sSeq jk
  iC))))
noncomputable def dn:List D->Res R:=fBody 1 4 lr
noncomputable def iE:FS:=(sSeq (b9 2 (cA gQ (ag (aj (az Eu (ai 1) (aj (aE (.int 2))))) (ag (aj (az Eu (ai 1) (aj (aE (.int 1))))) ay))))
  (dI (cu (mK (cA bX (ag (ai 0) ay))) [none,some 1,some 2] (au 0) dy (az dg (aj (az Eu (ai 1) (aj (aE (.int 0))))) (aj (cA bz (ag (ai 2) (ag (ai 0) ay))))))))
noncomputable def cv:List D->Res R:=fBody 2 1 iE
noncomputable def fZ:FS:=(sSeq (b9 6 (vS kW (aj (az Eu (ai 0) (aj (aE (.int 0))))) (ag (ai 4) ay)))
  (Gq (Lc (E1 (az IW (aj (az Eu (ai 2) (ai 3))) (aj (az Eu (aj (az Eu (ai 1) (aj (aE (.int 1))))) (ai 6))))) (E1 (bo HL (aj (az Eu (ai 2) (ai 5))) (aj (az dg (aj (az nI (aj (az Eu (ai 2) (ai 3))) (aj (az Eu (aj (az Eu (ai 1) (aj (aE (.int 1))))) (ai 6))))) (aj (az Eu (aj (az Eu (ai 1) (aj (aE (.int 2))))) (ai 6))))))))
  (dI (aE (.bl false)))
  dC))
noncomputable def hJ:FS:=(lV (mK (az Eu (ai 0) (aj (aE (.int 1))))) (gH 3 (aB (au 3) (aB (au 4) (aB (au 5) cC))))
  fZ)
noncomputable def jl:FS:=(dI (aE (.bl true)))
noncomputable def om:FS:=(sSeq (b9 2 (cA cv (ag (ai 0) (ag (ai 1) ay))))
  (sSeq hJ
  jl))
noncomputable def c5:List D->Res R:=fBody 2 5 om
noncomputable def lu:FS:=(dI (aY zo (ag (aj (cu (mK (az Eu (ai 0) (aj (aE (.int 1))))) [none,none,none,some 1] (gH 3 (aB (au 0) (aB (au 1) (aB (au 2) cC)))) dy (bo GF (ai 1) (ai 3)))) ay)))
noncomputable def cR:List D->Res R:=fBody 2 0 lu
noncomputable def jm:FS:=(sSeq (Gq (E1 (aY zo (ag (aj (cu (mK (cA dn (ag (ai 0) ay))) [none,some 1] (au 0) dy (bo HL (aj (cA bz (ag (ai 1) (ag (ai 0) ay)))) (aj (aE (.int 0)))))) ay)))
  (dI (aE (.bl false)))
  dC)
  (dI (aY Ay (ag (aj (cu (nS (ag (aj (az Eu (ai 0) (aj (aE (.int 0))))) (ag (aj (aJ 1)) ay))) [none,none,some 0] (gH 2 (aB (au 0) (aB (au 1) cC))) dy (L9 (bo GF (ai 1) (aj (aE (.int 0)))) (cA cR (ag (ai 2) (ag (ai 0) ay)))))) ay))))
noncomputable def bE:List D->Res R:=fBody 2 0 jm
noncomputable def lx:FS:=(sSeq (Gq (yc (E1 (cA bE (ag (ai 0) (ag (ai 1) ay)))))
  wN
  dC)
  (sSeq (b9 2 (cu (mK (cA bX (ag (ai 0) ay))) [none,some 1] (au 0) dy (cA bz (ag (ai 1) (ag (ai 0) ay)))))
  (dI (cu (Fj (gM 2) (Fj (fM (aJ 2)) (fN (aJ 2)))) [none,some 2] (au 0) dy (az nI (ai 0) (aj (aY w5 (ag (ai 1) ay))))))))
noncomputable def b6:List D->Res R:=fBody 2 1 lx
noncomputable def uc:FS:=(sSeq (b9 3 (cu (mK (az Eu (ai 0) (aj (aE (.int 1))))) [none,none,none,some 1,some 2] (gH 3 (aB (au 0) (aB (au 1) (aB (au 2) cC)))) (E1 (bo GF (ai 1) (ai 4))) (az Eu (ai 3) (ai 0))))
  (dI (yy (aJ 3) (az dg (aj (aY maxD (ag (ai 1) ay))) (aj (aE (.int 1)))))))
noncomputable def f6:List D->Res R:=fBody 3 1 uc
noncomputable def ly:FS:=(sSeq (b9 2 (cA b6 (ag (ai 0) (ag (ai 1) ay))))
  (sSeq (b9 3 (aY cE (ag (aj (cu (mK (az Eu (ai 0) (aj (aE (.int 0))))) [none,some 0,some 2] (au 0) dy (cA f6 (ag (ai 1) (ag (ai 2) (ag (ai 0) ay)))))) ay)))
  (dI (jz (aI (az Eu (ai 2) (aj (aE (.int 0)))) (aI (aJ 3) (aI (aY cE (ag (aj (cu (nS (ag (aj (aJ 3)) (ag (aj (aJ 1)) ay))) [none,none] (gH 2 (aB (au 0) (aB (au 1) cC))) dy (az dg (ai 0) (ai 1)))) ay)) bP)))))))
noncomputable def dq:List D->Res R:=fBody 2 2 ly
noncomputable def gR:FS:=(sSeq (Gq (E1 (az IW (ai 1) (aj (aY mf (ag (ai 0) ay)))))
  (dI (az Eu (ai 0) (ai 1)))
  dC)
  (dI (aE (.int 0))))
noncomputable def aN:List D->Res R:=fBody 2 0 gR
noncomputable def jo:FS:=(sSeq (b9 2 (az dg (aj (az jc (ai 0) (aj (aE (.int 2147483647))))) (aj (az jI (aj (aE (.int 48271))) (aj (az dg (ai 1) (aj (aE (.int 1)))))))))
  (sSeq (b9 2 (az jc (aj (az dg (aj (az jI (ai 2) (ai 2))) (aj (az jI (aj (aE (.int 69621))) (ai 1))))) (aj (aE (.int 2147483647)))))
  (dI (az jc (aj (az dg (aj (az dg (aj (az jI (ai 2) (ai 2))) (aj (az jI (aj (aE (.int 16807))) (ai 1))))) (aj (aE (.int 1))))) (aj (aE (.int 2147483647)))))))
noncomputable def aZ:List D->Res R:=fBody 2 1 jo
noncomputable def c6:FS:=(sSeq (b9 7 (AS (ai 2) vN (l5 (aJ 3))))
  (sSeq (rl 7 (aJ 4) (az jc (aj (az dg (aj (az Eu (ai 7) (ai 4))) (ai 6))) (aj (aE (.int 26)))))
  (sSeq (Gq (E1 (bo GF (aj (az jc (aj (az gL (ai 0) (aj (aE (.int 64))))) (aj (aE (.int 4))))) (aj (aE (.int 1)))))
  (b9 7 (AS (ai 2) vN (l5 (az dg (ai 6) (aj (aE (.int 1)))))))
  dC)
  (iq (qi 5 (CN tZ (aj (aE (.str []))) (ag (aj (cu (Fj (gM 7) (Fj (fM (aJ 7)) (fN (aJ 7)))) [none,some 1] (au 0) dy (az Eu (ai 1) (ai 0)))) ay)))))))
noncomputable def gS:FS:=(lV (dk (aj (aE (.int 5)))) (au 6)
  c6)
noncomputable def f7:FS:=(sSeq (Gq (E1 (bo KH (aj (aE (.str [109,111,118,101,115]))) (ai 5)))
  (b9 5 (cu (Fj (gM 5) (Fj (fM (aJ 5)) (fN (aJ 5)))) [none] (au 0) dy (az dg (aj (aE (.str [115]))) (ai 0))))
  dC)
  (dI (aY fV (ag (ai 5) ay))))
noncomputable def jq:FS:=(sSeq (b9 1 (aE (.str [97,98,99,100,101,102,103,104,105,106,107,108,109,110,111,112,113,114,115,116,117,118,119,120,121,122])))
  (sSeq (b9 2 (cu (dk (aj (aE (.int 8)))) [none,some 0] (au 0) dy (az jc (aj (cA aZ (ag (ai 1) (ag (ai 0) ay)))) (aj (aE (.int 26))))))
  (sSeq (b9 3 (az dg (aj (aE (.int 1))) (aj (az jc (ai 0) (aj (aE (.int 8)))))))
  (sSeq (b9 4 (az jc (aj (az gL (ai 0) (aj (aE (.int 8))))) (ai 3)))
  (sSeq (b9 5 (lZ bP))
  (sSeq gS
  f7))))))
noncomputable def cS:List D->Res R:=fBody 1 7 jq
noncomputable def cI:FS:=(sSeq (Gq (E1 (az IW (ai 5) (aj (az Eu (aj (az Eu (ai 6) (aj (aE (.int 1))))) (ai 3)))))
  (dI (aE .non))
  dC)
  (iq (qi 4 (az dg (aj (az nI (ai 5) (aj (az Eu (aj (az Eu (ai 6) (aj (aE (.int 1))))) (ai 3))))) (aj (az Eu (aj (az Eu (ai 6) (aj (aE (.int 2))))) (ai 3)))))))
noncomputable def fu:FS:=(lV (nS (ag (aj (aJ 1)) (ag (aj (az Eu (ai 0) (aj (aE (.int 1))))) ay))) (gH 2 (aB (au 5) (aB (au 6) cC)))
  cI)
noncomputable def gT:FS:=(dI (aY cE (ag (ai 4) ay)))
noncomputable def kl:FS:=(sSeq (b9 3 (vS kW (aj (az Eu (ai 0) (aj (aE (.int 0))))) (ag (ai 2) ay)))
  (sSeq (b9 4 (lZ bP))
  (sSeq fu
  gT)))
noncomputable def cN:List D->Res R:=fBody 3 4 kl
noncomputable def c7:FS:=(sSeq (b9 6 (cA cN (ag (ai 0) (ag (aj (az Eu (ai 2) (ai 4))) (ag (ai 5) ay)))))
  (Gq (E1 (bo isnO (ai 6) (aj (aE .non))))
  (sSeq (Gq (E1 (bo zr (ai 6) (ai 2)))
  (sSeq (Gq (E1 (bo GF (aj (aY mf (ag (ai 2) ay))) (ai 1)))
  (dI (aE .non))
  dC)
  (iq (qi 2 (aJ 6))))
  dC)
  (iq (qi 3 (jz (aI (aJ 4) (aI (aJ 5) (aI (CU pf (ai 2) (ag (ai 6) ay)) bP)))))))
  dC))
noncomputable def f9:FS:=(lV (mK (az Eu (ai 0) (aj (aE (.int 0))))) (au 5)
  c7)
noncomputable def iF:FS:=(b9 4 (az dg (ai 4) (aj (aE (.int 1)))))
noncomputable def c8:FS:=(sSeq f9
  iF)
noncomputable def gc:FS:=(cY (E1 (az IW (ai 4) (aj (aY mf (ag (ai 2) ay)))))
  c8 100000)
noncomputable def iG:FS:=(dI (jz (aI (aY fV (ag (ai 3) ay)) (aI (aJ 2) bP))))
noncomputable def lz:FS:=(sSeq (b9 2 (lZ (aI (aY cE (ag (aj (cu (mK (az Eu (ai 0) (aj (aE (.int 1))))) [none,none,none] (gH 3 (aB (au 0) (aB (au 1) (aB (au 2) cC)))) dy (aJ 0))) ay)) bP)))
  (sSeq (b9 3 (lZ bP))
  (sSeq (b9 4 (aE (.int 0)))
  (sSeq gc
  iG))))
noncomputable def bV:List D->Res R:=fBody 2 5 lz
noncomputable def eD:FS:=(b9 3 (cA aZ (ag (aj (az dg (ai 4) (ai 3))) (ag (ai 2) ay))))
noncomputable def iH:FS:=(lV (mK (CV (ai 0) (l5 (az dg (ai 1) (ai 2))) (l5 (az dg (ai 1) (aj (aE (.int 84))))) (l5 (aE (.int 6))))) (au 4)
  eD)
noncomputable def gU:FS:=(dI (jS 3))
noncomputable def km:FS:=(sSeq (b9 3 (az dg (aj (aE (.int 7))) (ai 2)))
  (sSeq iH
  gU))
noncomputable def dr:List D->Res R:=fBody 3 2 km
noncomputable def d4:FS:=(sSeq (b9 5 (cA aZ (ag (ai 0) (ag (ai 4) ay))))
  (sSeq (b9 6 (az nI (aj (az jc (ai 5) (aj (aE (.int 5))))) (aj (aE (.int 2)))))
  (sSeq (b9 7 (az gL (aj (az jc (aj (az gL (ai 5) (aj (aE (.int 8))))) (aj (aE (.int 4))))) (aj (aE (.int 3)))))
  (sSeq (iq (qi 2 (az dg (aj (aY maxD (ag (aj (aE (.int 0))) (ag (aj (az nI (aj (aE (.int 0))) (ai 6))) ay)))) (ai 7))))
  (iq (qi 3 (az dg (aj (aY maxD (ag (aj (aE (.int 0))) (ag (ai 6) ay)))) (ai 7))))))))
noncomputable def gW:FS:=(lV (dk (ai 1)) (au 4)
  d4)
noncomputable def gf:FS:=(dI (yC (az jc (aj (az gL (ai 0) (aj (aE (.int 16))))) (aj (aE (.int 4)))) (jS 2) (jS 3)))
noncomputable def jr:FS:=(sSeq (b9 2 (lZ bP))
  (sSeq (b9 3 (lZ bP))
  (sSeq gW
  gf)))
noncomputable def cT:List D->Res R:=fBody 2 6 jr
noncomputable def iI:FS:=(sSeq (b9 2 (az dg (aj (aE (.int 1))) (aj (az jc (ai 1) (aj (az zm (aj (aE (.int 10))) (aj (aE (.int 50)))))))))
  (sSeq (AO (aJ 0) (gH 3 (aB (au 3) (aB (au 4) (aB (au 5) cC)))))
  (sSeq (b9 4 (aY cE (ag (aj (cu (Fj (gM 4) (Fj (fM (aJ 4)) (fN (aJ 4)))) [none,some 2] (au 0) dy (az jI (ai 1) (ai 0)))) ay)))
  (dI (jz (aI (az dg (aj (az jI (ai 2) (ai 3))) (aj (az jc (aj (az gL (ai 1) (aj (aE (.int 7))))) (ai 2)))) (aI (aJ 4) (aI (aY cE (ag (aj (cu (Fj (gM 5) (Fj (fM (aJ 5)) (fN (aJ 5)))) [none,some 2] (au 0) dy (az jI (ai 1) (ai 0)))) ay)) bP))))))))
noncomputable def bY:List D->Res R:=fBody 2 4 iI
noncomputable def cJ:FS:=(sSeq (b9 5 (cA dr (ag (ai 0) (ag (ai 1) (ag (ai 4) ay)))))
  (sSeq (b9 6 (cA cT (ag (ai 5) (ag (ai 2) ay))))
  (sSeq (iq (qi 3 (cA bY (ag (ai 6) (ag (aj (cA aN (ag (ai 0) (ag (aj (az dg (ai 1) (ai 4))) ay)))) ay)))))
  (Gq (E1 (az Nb (aj (az jc (aj (az gL (ai 5) (aj (aE (.int 64))))) (aj (aE (.int 3))))) (aj (aE (.int 0)))))
  (sSeq (b9 7 (jz (aI (az jc (aj (az gL (ai 5) (aj (aE (.int 256))))) (aj (aE (.int 4)))) (aI (az Eu (aj (aJ 6)) (aj (aE (.int 2)))) (aI (az Eu (aj (aJ 6)) (aj (aE (.int 1)))) bP)))))
  (iq (qi 3 (cA bY (ag (ai 7) (ag (aj (cA aN (ag (ai 0) (ag (aj (az dg (aj (az dg (ai 1) (aj (aE (.int 6))))) (ai 4))) ay)))) ay))))))
  dC))))
noncomputable def gj:FS:=(lV (dk (aj (az dg (aj (aE (.int 1))) (aj (az jc (aj (az gL (aj (cA aN (ag (ai 0) (ag (aj (aE (.int 1))) ay)))) (aj (aE (.int 4))))) (aj (aE (.int 4)))))))) (au 4)
  cJ)
noncomputable def fG:FS:=(dI (jS 3))
noncomputable def iJ:FS:=(sSeq (b9 3 (lZ bP))
  (sSeq gj
  fG))
noncomputable def cw:List D->Res R:=fBody 3 5 iJ
noncomputable def jt:FS:=(sSeq (b9 1 (cA cS (ag (aj (cA aN (ag (ai 0) (ag (aj (aE (.int 0))) ay)))) ay)))
  (sSeq (b9 2 (cA aN (ag (ai 0) (ag (aj (aE (.int 1))) ay))))
  (sSeq (b9 3 (az dg (aj (aE (.int 1))) (aj (az jc (ai 2) (aj (aE (.int 3)))))))
  (sSeq (b9 4 (az jc (aj (az gL (ai 2) (aj (aE (.int 32))))) (aj (az nI (aj (aE (.int 6))) (ai 3)))))
  (dI (aY cE (ag (aj (AS (ai 1) (l5 (aJ 4)) (l5 (az dg (ai 4) (ai 3))))) ay)))))))
noncomputable def cU:List D->Res R:=fBody 1 4 jt
noncomputable def lA:FS:=(sSeq (b9 2 (cA cU (ag (ai 0) ay)))
  (sSeq (b9 3 (aY mf (ag (ai 2) ay)))
  (sSeq (b9 4 (cA cw (ag (ai 0) (ag (ai 1) (ag (ai 3) ay)))))
  (sSeq (Gq (E1 (bo isnO (aj (cA bV (ag (aj (jz (aI (aJ 2) (aI (aJ 4) bP)))) (ag (aj (aE (.int 8))) ay)))) (aj (aE .non))))
  (dI (jz (aI (aJ 2) (aI (aJ 4) bP))))
  dC)
  (sSeq (b9 5 (aY cE (ag (aj (cu (Fj (gM 2) (Fj (fM (aJ 2)) (fN (aJ 2)))) [none] (au 0) dy (aE (.int 1)))) ay)))
  (sSeq (b9 6 (aY cE (ag (aj (cu (Fj (gM 2) (Fj (fM (aJ 2)) (fN (aJ 2)))) [none] (au 0) dy (aE (.int 0)))) ay)))
  (sSeq (Gq (E1 (bo isnO (aj (cA bV (ag (aj (jz (aI (aJ 2) (aI (az dg (ai 4) (aj (lZ (aI (jz (aI (aE (.int 2)) (aI (aJ 5) (aI (aJ 6) bP)))) bP)))) bP)))) (ag (aj (aE (.int 8))) ay)))) (aj (aE .non))))
  (dI (jz (aI (aJ 2) (aI (az dg (ai 4) (aj (lZ (aI (jz (aI (aE (.int 2)) (aI (aJ 5) (aI (aJ 6) bP)))) bP)))) bP))))
  dC)
  (dI (jz (aI (aJ 2) (aI (az dg (ai 4) (aj (lZ (aI (jz (aI (aE (.int 1)) (aI (aJ 5) (aI (aJ 6) bP)))) bP)))) bP)))))))))))
noncomputable def dt:List D->Res R:=fBody 2 5 lA
noncomputable def eE:FS:=(sSeq (b9 6 (vS kW (aj (az Eu (ai 0) (aj (aE (.int 0))))) (ag (ai 4) ay)))
  (sSeq (b9 7 (az nI (aj (az Eu (ai 2) (ai 3))) (aj (az Eu (aj (az Eu (ai 1) (aj (aE (.int 1))))) (ai 6)))))
  (Gq (Lc (E1 (az IW (ai 7) (aj (aE (.int 0))))) (E1 (bo HL (aj (az Eu (ai 2) (ai 5))) (aj (az dg (ai 7) (aj (az Eu (aj (az Eu (ai 1) (aj (aE (.int 2))))) (ai 6))))))))
  (dI (aE (.bl false)))
  dC)))
noncomputable def iK:FS:=(lV (mK (az Eu (ai 0) (aj (aE (.int 1))))) (gH 3 (aB (au 3) (aB (au 4) (aB (au 5) cC))))
  eE)
noncomputable def gX:FS:=(dI (aE (.bl true)))
noncomputable def kn:FS:=(sSeq (Gq (Lc (E1 (bo HL (aj (az Eu (ai 2) (aj (aE (.int 0))))) (aj (az Eu (ai 1) (aj (aE (.int 0))))))) (E1 (bo HL (aj (aY w5 (ag (ai 2) ay))) (aj (aE (.int 0))))))
  (dI (aE (.bl false)))
  dC)
  (sSeq iK
  gX))
noncomputable def cO:List D->Res R:=fBody 3 5 kn
noncomputable def eR:FS:=(sSeq (b9 2 (aY tH (ag (aj (az Eu (ai 0) (aj (aE (.int 1))))) ay)))
  (sSeq (b9 3 (aY tH (ag (aj (az Eu (ai 0) (aj (aE (.int 2))))) ay)))
  (sSeq (rl 2 (aJ 1) (az dg (aj (az Eu (ai 2) (ai 1))) (aj (aE (.int 1)))))
  (sSeq (rl 3 (aJ 1) (az dg (aj (az Eu (ai 3) (ai 1))) (aj (aE (.int 1)))))
  (dI (jz (aI (az Eu (ai 0) (aj (aE (.int 0)))) (aI (aY cE (ag (ai 2) ay)) (aI (aY cE (ag (ai 3) ay)) bP)))))))))
noncomputable def bF:List D->Res R:=fBody 2 2 eR
noncomputable def cx:FS:=(sSeq (b9 8 (bo HL (aj (cu (mK (az Eu (ai 0) (aj (aE (.int 1))))) [none,some 5,some 7,some 0] (au 0) (uQ (E1 (bo GF (aj (az Eu (ai 0) (aj (aE (.int 0))))) (ai 1))) (E1 (bo GF (aj (az Eu (ai 0) (aj (aE (.int 1))))) (aj (az Eu (aj (az Eu (ai 3) (aj (aE (.int 0))))) (ai 2)))))) (aJ 0))) (aj (lZ bP))))
  (Gq (uQ (yc (E1 (aJ 8))) (uQ (E1 (az IW (aj (az Eu (ai 2) (ai 5))) (aj (az Eu (aj (az Eu (ai 1) (aj (aE (.int 1))))) (ai 7))))) (E1 (az Nc (aj (az Eu (ai 4) (ai 5))) (aj (az Eu (aj (az Eu (ai 3) (aj (aE (.int 1))))) (ai 7)))))))
  (dI (aE (.bl false)))
  dC))
noncomputable def fH:FS:=(lV (dk (aj (aY mf (ag (aj (az Eu (ai 0) (aj (aE (.int 0))))) ay)))) (au 7)
  cx)
noncomputable def cy:FS:=(Gq (uQ (E1 (bo HL (aj (az Eu (ai 2) (ai 5))) (aj (az Eu (ai 2) (ai 6))))) (E1 (bo GF (aj (az Eu (ai 4) (ai 5))) (aj (az Eu (ai 4) (ai 6))))))
  (dI (aE (.bl false)))
  dC)
noncomputable def fI:FS:=(lV (dk (ai 5)) (au 6)
  cy)
noncomputable def eS:FS:=fH
noncomputable def du:FS:=(sSeq fI
  eS)
noncomputable def fJ:FS:=(lV (dk (aj (aY mf (ag (ai 4) ay)))) (au 5)
  du)
noncomputable def eU:FS:=(dI (aE (.bl true)))
noncomputable def gY:FS:=(sSeq fJ
  eU)
noncomputable def bO:List D->Res R:=fBody 5 4 gY
noncomputable def jJ:FS:=(Gq (uQ (E1 (bo KH (aj (az Eu (aj (az Eu (ai 1) (aj (aE (.int 0))))) (ai 12))) (ai 5))) (E1 (bo isnO (aj (cA c5 (ag (ai 4) (ag (aj (cA bF (ag (ai 10) (ag (ai 12) ay)))) ay)))) (aj (aE (.bl false))))))
  (dI (aE (.bl false)))
  dC)
noncomputable def ud:FS:=(lV (dk (aj (aY mf (ag (aj (az Eu (ai 1) (aj (aE (.int 0))))) ay)))) (au 12)
  jJ)
noncomputable def jK:FS:=(sSeq (b9 7 (az Eu (aj (az Eu (ai 1) (aj (aE (.int 1))))) (ai 6)))
  (sSeq (b9 8 (cu (dk (aj (aY mf (ag (aj (az Eu (ai 1) (aj (aE (.int 0))))) ay)))) [none,some 5,some 7,some 1] (au 0) dy (az jI (aj (az nI (aj (az Eu (aj (az Eu (ai 2) (aj (aE (.int 2))))) (ai 0))) (aj (az Eu (aj (az Eu (ai 2) (aj (aE (.int 1))))) (ai 0))))) (aj (aY zp (ag (aj (bo KH (aj (az Eu (aj (az Eu (ai 3) (aj (aE (.int 0))))) (ai 0))) (ai 1))) ay))))))
  (sSeq (Gq (E1 (bo isnO (aj (cA bE (ag (ai 4) (ag (aj (aY cE (ag (ai 8) ay))) ay)))) (aj (aE (.bl true)))))
  (dI (aE (.bl false)))
  dC)
  (sSeq (b9 9 (cA b6 (ag (ai 4) (ag (aj (aY cE (ag (ai 8) ay))) ay))))
  (sSeq (b9 10 (cA dq (ag (ai 4) (ag (aj (aY cE (ag (ai 8) ay))) ay))))
  (sSeq (Gq (Lc (yc (E1 (N2 "list" (ai 9)))) (Lc (E1 (bo HL (aj (aY mf (ag (ai 9) ay))) (aj (aY mf (ag (ai 3) ay))))) (yc (E1 (cA cO (ag (ai 4) (ag (ai 10) (ag (ai 9) ay))))))))
  (dI (aE (.bl false)))
  dC)
  (sSeq (Gq (E1 (bo isnO (aj (cA c5 (ag (ai 4) (ag (ai 10) ay)))) (aj (aE (.bl true)))))
  (dI (aE (.bl false)))
  dC)
  (sSeq (b9 11 (cu (Fj (gM 3) (Fj (fM (aJ 3)) (fN (aJ 3)))) [none,some 6] (au 0) dy (az Eu (ai 0) (ai 1))))
  (sSeq (Gq (yc (E1 (cA bO (ag (ai 4) (ag (ai 7) (ag (ai 11) (ag (ai 10) (ag (ai 9) ay))))))))
  (dI (aE (.bl false)))
  dC)
  ud)))))))))
noncomputable def ue:FS:=(lV (dk (aj (aY mf (ag (aj (az Eu (ai 1) (aj (aE (.int 1))))) ay)))) (au 6)
  jK)
noncomputable def qv:FS:=(dI (aE (.bl true)))
noncomputable def A7:FS:=(sSeq (b9 1 (cA dt (ag (ai 0) (ag (aj (aE (.int 2))) ay))))
  (sSeq (AO (cA bV (ag (ai 1) (ag (aj (aE (.int 8))) ay))) (gH 2 (aB (au 2) (aB (au 3) cC))))
  (sSeq (b9 4 (jz (aI (az Eu (ai 1) (aj (aE (.int 0)))) (aI (aJ 2) bP))))
  (sSeq (b9 5 (cu (Fj (gM 2) (Fj (fM (aJ 2)) (fN (aJ 2)))) [none,none,none] (gH 3 (aB (au 0) (aB (au 1) (aB (au 2) cC)))) dy (aJ 1)))
  (sSeq ue
  qv)))))
noncomputable def yE:List D->Res R:=fBody 1 12 A7
end LW
namespace LW
open PySem PySem.Spec PyProof.Rows L2 NX PV
theorem yF {α:Type} {Q:List α->Prop} (h:∀ a,Q [a]):∀ us,us.length=1->Q us
 | [a],_=>h a
theorem oN {α:Type} {Q:List α->Prop} (h:∀ a b,Q [a,b]):∀ us,us.length=2->Q us
 | [a,b],_=>h a b
theorem A8 {α:Type} {Q:List α->Prop} (h:∀ a b c,Q [a,b,c]):∀ us,us.length=3->Q us
 | [a,b,c],_=>h a b c
theorem D6 {α:Type} {Q:List α->Prop} (h:∀ a b c d e,Q [a,b,c,d,e]):∀ us,us.length=5->Q us
 | [a,b,c,d,e],_=>h a b c d e
theorem dD {X:Cx} {tg e:Expr} {f:FX} (h:QE X e f):QI X tg e (Fj (Ar f) (Fj (fM f) (fN f))):=tJ (yd h) (tJ (fR h) (fS h))
noncomputable def top (i:Nat):Stmt:=PySem.Challenge.pw_netfinder_k53_no_place_does_more.main.body.getD i (.Pass ⟨0,0,0,0⟩)
theorem D7:Str.ofString "moves" = S [109,111,118,101,115]:=by decide +kernel
theorem D8:Str.ofString "s" = S [115]:=by decide +kernel
theorem D9:Str.ofString "" = S []:=by decide +kernel
theorem Ea:Str.ofString "abcdefghijklmnopqrstuvwxyz" = S [97,98,99,100,101,102,103,104,105,106,107,108,109,110,111,112,113,114,115,116,117,118,119,120,121,122]:=by decide +kernel
section
variable {P:Program} {w:World} {K:W.Frag} {mg:Str->Option Value} {base:Heap}
abbrev ko:Stmt:=top 4
theorem rp:FnScope ["one","other"] ["one","other"] (defScope ko):=fs
theorem rq (Df:Def K mg "product" ko) (HM:mg "sum" = none) (Fl:mg "zip" = none):Ct P w K mg base "product" 1 (spF K bz):=
 cZ Df rp (fun _ _ _ _ _ _=>oN fun _ _=>rfl) fun f EJ A outer s H E hr=>
  (av (aR (aT (AB rfl) (by rfl) HM AQ (af (aa (a9 [none,none] ["number","factor"] rfl (bc (ka (by rfl) Fl (af (aa (aA (pv 0))) (af (aa (aA (pv 1))) ao)))) (fun _ _ _ _ _=>(have h:=(show List.Nodup (["number","factor"]:List Str) from by decide +kernel);(dY rfl (aF (aw (i:=0) h rfl (lo rfl)) (aF (aw (i:=1) h rfl (lo rfl)) cK))))) (fun _ _ _ _ _=>bu) (fun _ _ _ _ _=>(aK eC (ae (pv 0)) (ae (pv 1)))))) ao))))
abbrev uf:Stmt:=top 5
theorem yG:FnScope ["row","other"] ["row","other"] (defScope uf):=fs
theorem yH (Df:Def K mg "less" uf) (Es:mg "tuple" = none) (Fl:mg "zip" = none):Ct P w K mg base "less" 1 (spF K gQ):=
 cZ Df yG (fun _ _ _ _ _ _=>oN fun _ _=>rfl) fun f EJ A outer s H E hr=>
  (av (aR (aV bS (by rfl) Es bQ (af (aa (a9 [none,none] ["number","taken"] rfl (bc (ka (by rfl) Fl (af (aa (aA (pv 0))) (af (aa (aA (pv 1))) ao)))) (fun _ _ _ _ _=>(have h:=(show List.Nodup (["number","taken"]:List Str) from by decide +kernel);(dY rfl (aF (aw (i:=0) h rfl (lo rfl)) (aF (aw (i:=1) h rfl (lo rfl)) cK))))) (fun _ _ _ _ _=>bu) (fun _ _ _ _ _=>(aK ir (ae (pv 0)) (ae (pv 1)))))) ao))))
abbrev hU:Stmt:=top 7
theorem oq:FnScope ["chart"] ["chart"] (defScope hU):=fs
theorem ot (Df:Def K mg "states_of" hU) (FC:mg "max" = none):Ct P w K mg base "states_of" 1 (spF K dm):=
 cZ Df oq (fun _ _ _ _ _ _=>yF fun _=>rfl) fun f EJ A outer s H E hr=>
  (av (aR (aK aO (aa aq) (aa (yk rfl (by rfl) FC (a9 [none,none,none] ["first","move","second"] rfl (bc (dD (aG (ae (pv 0)) (aa aq)))) (fun _ _ _ _ _=>(have h:=(show List.Nodup (["first","move","second"]:List Str) from by decide +kernel);(dY rfl (aF (aw (i:=0) h rfl (lo rfl)) (aF (aw (i:=1) h rfl (lo rfl)) (aF (aw (i:=2) h rfl (lo rfl)) cK)))))) (fun _ _ _ _ _=>bu) (fun _ _ _ _ _=>(aT (ql rfl) (by rfl) FC qo (af (ae (pv 0)) (af (ae (pv 2)) ao))))) aq)))))
abbrev kq:Stmt:=top 8
theorem dR:FnScope ["arcs","met","tree","looked_at","arc"] ["arcs"] (defScope kq):=fs
theorem rA (Df:Def K mg "tree_of" kq) (EM:mg "len" = none):Ct P w K mg base "tree_of" 1 (spF K cG):=
 cZ Df dR (fun _ _ _ _ _ _=>yF fun _=>rfl) fun f EJ A outer s H E hr=>
  (ah (aH (i:=1) dR.nd rfl (lo rfl) (d7 (aD aq aS)))
  (ah (aH (i:=2) dR.nd rfl (lo rfl) (d7 aS))
  (ah (aH (i:=3) dR.nd rfl (lo rfl) aq)
  (ah (qc 100000 PassesOwn.never (il (j8 hr.units0) (ae (pv 3)) (aa (aT dJ (by rfl) EM bt_len (af (ae (pv 1)) ao))) (bD _))
  (ah (dM PassesOwn.never rfl (dD (aA (pv 0))) (aw (i:=4) dR.nd rfl (lo rfl))
  (av (dP (QW.qt (lj (bA (l8 hr.units) (aa (aG (ae (pv 4)) (aa aq))) (aa (aG (ae (pv 1)) (ae (pv 3)))) (bD _)) (jU (bA (pe hr.u65) (aa (aG (ae (pv 4)) (aa aq))) (ae (pv 1)) (by with_unfolding_all rfl)))))
  (ah (dX (cn (pv 1) (aG (ae (pv 4)) (aa aq))))
  (av (dX (cn (pv 2) (aA (pv 4))))))
  bC)))
  (av (aH (i:=3) dR.nd rfl (lo rfl) (aK aO (ae (pv 3)) (aa aq))))))
  (av (aR (iS (pv 2))))))))
abbrev kr:Stmt:=top 10
theorem eV:FnScope ["chart","ways","first","move","second"] ["chart"] (defScope kr):=fs
theorem rB (Df:Def K mg "ways_of" kr) (HN:Ct P w K mg base "states_of" 1 (spF K dm)) (Gu:Ct P w K mg base "tree_of" 1 (spF K cG)) (Ez:mg "range" = none):Ct P w K mg base "ways_of" 2 (spF K cp):=
 cZ Df eV (fun _ _ _ _ _ _=>yF fun _=>rfl) fun f EJ A outer s H E hr=>
  (ah (aH (i:=1) eV.nd rfl (lo rfl) (vT aq (di aS)))
  (ah (dM PassesOwn.never rfl (dD (aQ Gu hr.m (by rfl) (af (aa (aG (ae (pv 0)) (aa aq))) ao))) (dY rfl (aF (aw (i:=2) eV.nd rfl (lo rfl)) (aF (aw (i:=3) eV.nd rfl (lo rfl)) (aF (aw (i:=4) eV.nd rfl (lo rfl)) cK))))
  (av (AK (hu_of hr) (pv 1) (aA (pv 4)) (aK aO (aa (AW (hu_of hr) (ae (pv 1)) (ae (pv 2)))) (aa (di (aD (aA (pv 3)) aS)))))))
  (av (aR (a9 [none,some 1] ["state","ways"] rfl (bc (cj (by rfl) Ez (aa (aQ HN hr.m (by rfl) (af (ae (pv 0)) ao))))) (fun _ _ _ _ _=>(aw (i:=0) (show List.Nodup (["state","ways"]:List Str) from by decide +kernel) rfl (lo rfl))) (fun _ _ _ _ _=>bu) (fun _ _ _ _ _=>(AW (hu_of hr) (ae (pv 1)) (ae (pv 0)))))))))
abbrev ku:Stmt:=top 11
theorem rD:FnScope ["moves","way"] ["moves","way"] (defScope ku):=fs
theorem rE (Df:Def K mg "counted" ku) (Es:mg "tuple" = none):Ct P w K mg base "counted" 1 (spF K cH):=
 cZ Df rD (fun _ _ _ _ _ _=>oN fun _ _=>rfl) fun f EJ A outer s H E hr=>
  (av (aR (aV bS (by rfl) Es bQ (af (aa (a9 [none,some 1] ["move","way"] rfl (cQ (eB (pv 0)) (cQ (bc (fR (aA (pv 0)))) (bc (fS (aA (pv 0)))))) (fun _ _ _ _ _=>(aw (i:=0) (show List.Nodup (["move","way"]:List Str) from by decide +kernel) rfl (lo rfl))) (fun _ _ _ _ _=>bu) (fun _ _ _ _ _=>(qp PySem.F.slot_tuple_count PySem.F.type_tuple_count o8 (ae (pv 1)) (af (ae (pv 0)) ao))))) ao))))
abbrev hV:Stmt:=top 12
theorem ou:FnScope ["chart"] ["chart"] (defScope hV):=fs
theorem ox (Df:Def K mg "counts_of" hV) (FQ:Ct P w K mg base "counted" 1 (spF K cH)) (Gv:Ct P w K mg base "ways_of" 2 (spF K cp)):Ct P w K mg base "counts_of" 3 (spF K bX):=
 cZ Df ou (fun _ _ _ _ _ _=>yF fun _=>rfl) fun f EJ A outer s H E hr=>
  (av (aR (a9 [none,some 0] ["way","chart"] rfl (bc (dD (aQ Gv hr.m (by rfl) (af (ae (pv 0)) ao)))) (fun _ _ _ _ _=>(aw (i:=0) (show List.Nodup (["way","chart"]:List Str) from by decide +kernel) rfl (lo rfl))) (fun _ _ _ _ _=>bu) (fun _ _ _ _ _=>(aQ FQ hr.m (by rfl) (af (aa (aG (ae (pv 1)) (aa aq))) (af (ae (pv 0)) ao)))))))
abbrev iY:Stmt:=top 13
theorem d5:FnScope ["chart","ways","tree","rings","arc"] ["chart"] (defScope iY):=fs
theorem ph (Df:Def K mg "rings_of" iY) (FQ:Ct P w K mg base "counted" 1 (spF K cH)) (Im:Ct P w K mg base "less" 1 (spF K gQ)) (Gu:Ct P w K mg base "tree_of" 1 (spF K cG)) (Gv:Ct P w K mg base "ways_of" 2 (spF K cp)):Ct P w K mg base "rings_of" 3 (spF K dn):=
 cZ Df d5 (fun _ _ _ _ _ _=>yF fun _=>rfl) fun f EJ A outer s H E hr=>
  (ah (aH (i:=1) d5.nd rfl (lo rfl) (aQ Gv hr.m (by rfl) (af (ae (pv 0)) ao)))
  (ah (aH (i:=2) d5.nd rfl (lo rfl) (aQ Gu hr.m (by rfl) (af (aa (aG (ae (pv 0)) (aa aq))) ao)))
  (ah (aH (i:=3) d5.nd rfl (lo rfl) (d7 aS))
  (ah (dM PassesOwn.never rfl (dD (aG (ae (pv 0)) (aa aq))) (aw (i:=4) d5.nd rfl (lo rfl))
  (av (dP (bA (pe hr.u65) (ae (pv 4)) (ae (pv 2)) (by with_unfolding_all rfl))
  (av (dX (cn (pv 3) (aQ Im hr.m (by rfl) (af (aa (aQ FQ hr.m (by rfl) (af (aa (aG (ae (pv 0)) (aa aq))) (af (aa (aK aO (aa (aG (ae (pv 1)) (aa (aG (ae (pv 4)) (aa aq))))) (aa (di (aD (aG (ae (pv 4)) (aa aq)) aS))))) ao)))) (af (aa (aQ FQ hr.m (by rfl) (af (aa (aG (ae (pv 0)) (aa aq))) (af (aa (aG (ae (pv 1)) (aa (aG (ae (pv 4)) (aa aq))))) ao)))) ao))))))
  bC)))
  (av (aR (iS (pv 3))))))))
abbrev fw:Stmt:=top 15
theorem gZ:FnScope ["chart","place","added"] ["chart","place"] (defScope fw):=fs
theorem kX (Df:Def K mg "place_beads" fw) (FD:Ct P w K mg base "counts_of" 3 (spF K bX)) (Im:Ct P w K mg base "less" 1 (spF K gQ)) (Fm:Ct P w K mg base "product" 1 (spF K bz)):Ct P w K mg base "place_beads" 4 (spF K cv):=
 cZ Df gZ (fun _ _ _ _ _ _=>oN fun _ _=>rfl) fun f EJ A outer s H E hr=>
  (ah (aH (i:=2) gZ.nd rfl (lo rfl) (aQ Im hr.m (by rfl) (af (aa (aG (ae (pv 1)) (aa aq))) (af (aa (aG (ae (pv 1)) (aa aq))) ao))))
  (av (aR (a9 [none,some 1,some 2] ["counts","place","added"] rfl (bc (dD (aQ FD hr.m (by rfl) (af (ae (pv 0)) ao)))) (fun _ _ _ _ _=>(aw (i:=0) (show List.Nodup (["counts","place","added"]:List Str) from by decide +kernel) rfl (lo rfl))) (fun _ _ _ _ _=>bu) (fun _ _ _ _ _=>(aK aO (aa (aG (ae (pv 1)) (aa aq))) (aa (aQ Fm hr.m (by rfl) (af (ae (pv 2)) (af (ae (pv 0)) ao))))))))))
abbrev kx:Stmt:=top 16
theorem dS:FnScope ["chart","place","beads","first","move","second","at"] ["chart","place"] (defScope kx):=fs
theorem rF (Df:Def K mg "lets_go" kx) (Hb:Ct P w K mg base "place_beads" 4 (spF K cv)):Ct P w K mg base "lets_go" 5 (spF K c5):=
 cZ Df dS (fun _ _ _ _ _ _=>oN fun _ _=>rfl) fun f EJ A outer s H E hr=>
  (ah (aH (i:=2) dS.nd rfl (lo rfl) (aQ Hb hr.m (by rfl) (af (ae (pv 0)) (af (ae (pv 1)) ao))))
  (ah (dM PassesOwn.never rfl (dD (aG (ae (pv 0)) (aa aq))) (dY rfl (aF (aw (i:=3) dS.nd rfl (lo rfl)) (aF (aw (i:=4) dS.nd rfl (lo rfl)) (aF (aw (i:=5) dS.nd rfl (lo rfl)) cK))))
  (ah (aH (i:=6) dS.nd rfl (lo rfl) (qp PySem.F.slot_tuple_index PySem.F.type_tuple_index g9 (aa (aG (ae (pv 0)) (aa aq))) (af (ae (pv 4)) ao)))
  (av (dP (QW.qt (tf (il (j8 hr.units0) (aa (aG (ae (pv 2)) (ae (pv 3)))) (aa (aG (aa (aG (ae (pv 1)) (aa aq))) (ae (pv 6)))) (bD _)) (qb (bA (nL hr.units) (aa (aG (ae (pv 2)) (ae (pv 5)))) (aa (aK aO (aa (aK ir (aa (aG (ae (pv 2)) (ae (pv 3)))) (aa (aG (aa (aG (ae (pv 1)) (aa aq))) (ae (pv 6)))))) (aa (aG (aa (aG (ae (pv 1)) (aa aq))) (ae (pv 6)))))) (bD _)))))
  (av (aR fL))
  bC))))
  (av (aR fL))))
abbrev iZ:Stmt:=top 17
theorem pj:FnScope ["chart","move"] ["chart","move"] (defScope iZ):=fs
theorem pk (Df:Def K mg "has_arcs" iZ) (GR:mg "any" = none):Ct P w K mg base "has_arcs" 1 (spF K cR):=
 cZ Df pj (fun _ _ _ _ _ _=>oN fun _ _=>rfl) fun f EJ A outer s H E hr=>
  (av (aR (aT (wR rfl) (by rfl) GR wZ (af (aa (a9 [none,none,none,some 1] ["first","by","second","move"] rfl (bc (dD (aG (ae (pv 0)) (aa aq)))) (fun _ _ _ _ _=>(have h:=(show List.Nodup (["first","by","second","move"]:List Str) from by decide +kernel);(dY rfl (aF (aw (i:=0) h rfl (lo rfl)) (aF (aw (i:=1) h rfl (lo rfl)) (aF (aw (i:=2) h rfl (lo rfl)) cK)))))) (fun _ _ _ _ _=>bu) (fun _ _ _ _ _=>(jT (l8 hr.units) (ae (pv 1)) (ae (pv 3)) (bD _))))) ao))))
abbrev gk:Stmt:=top 18
theorem ml:FnScope ["chart","row"] ["chart","row"] (defScope gk):=fs
theorem mn (Df:Def K mg "is_stretch" gk) (Io:Ct P w K mg base "has_arcs" 1 (spF K cR)) (Fm:Ct P w K mg base "product" 1 (spF K bz)) (Ip:Ct P w K mg base "rings_of" 3 (spF K dn)) (HP:mg "all" = none) (GR:mg "any" = none) (Fl:mg "zip" = none):Ct P w K mg base "is_stretch" 4 (spF K bE):=
 cZ Df ml (fun _ _ _ _ _ _=>oN fun _ _=>rfl) fun f EJ A outer s H E hr=>
  (ah (dP (lh (aT (wR rfl) (by rfl) GR wZ (af (aa (a9 [none,some 1] ["ring","row"] rfl (bc (dD (aQ Ip hr.m (by rfl) (af (ae (pv 0)) ao)))) (fun _ _ _ _ _=>(aw (i:=0) (show List.Nodup (["ring","row"]:List Str) from by decide +kernel) rfl (lo rfl))) (fun _ _ _ _ _=>bu) (fun _ _ _ _ _=>(jT (nL hr.units) (aa (aQ Fm hr.m (by rfl) (af (ae (pv 1)) (af (ae (pv 0)) ao)))) (aa aq) (bD _))))) ao)))
  (av (aR fL))
  bC)
  (av (aR (aT (Az rfl) (by rfl) HP AR (af (aa (a9 [none,none,some 0] ["move","number","chart"] rfl (bc (ka (by rfl) Fl (af (aa (aG (ae (pv 0)) (aa aq))) (af (aa (aA (pv 1))) ao)))) (fun _ _ _ _ _=>(have h:=(show List.Nodup (["move","number","chart"]:List Str) from by decide +kernel);(dY rfl (aF (aw (i:=0) h rfl (lo rfl)) (aF (aw (i:=1) h rfl (lo rfl)) cK))))) (fun _ _ _ _ _=>bu) (fun _ _ _ _ _=>(CC (jT (l8 hr.units) (ae (pv 1)) (aa aq) (bD _)) (Aq (aQ Io hr.m (by rfl) (af (ae (pv 2)) (af (ae (pv 0)) ao)))))))) ao)))))
abbrev i0:Stmt:=top 19
theorem ky:FnScope ["chart","row","heights"] ["chart","row"] (defScope i0):=fs
theorem pq (Df:Def K mg "beads_of" i0) (FD:Ct P w K mg base "counts_of" 3 (spF K bX)) (Fo:Ct P w K mg base "is_stretch" 4 (spF K bE)) (Fm:Ct P w K mg base "product" 1 (spF K bz)) (Ge:mg "min" = none):Ct P w K mg base "beads_of" 5 (spF K b6):=
 cZ Df ky (fun _ _ _ _ _ _=>oN fun _ _=>rfl) fun f EJ A outer s H E hr=>
  (ah (dP (nG (lh (aQ Fo hr.m (by rfl) (af (ae (pv 0)) (af (ae (pv 1)) ao)))))
  (av vK)
  bC)
  (ah (aH (i:=2) ky.nd rfl (lo rfl) (a9 [none,some 1] ["counts","row"] rfl (bc (dD (aQ FD hr.m (by rfl) (af (ae (pv 0)) ao)))) (fun _ _ _ _ _=>(aw (i:=0) (show List.Nodup (["counts","row"]:List Str) from by decide +kernel) rfl (lo rfl))) (fun _ _ _ _ _=>bu) (fun _ _ _ _ _=>(aQ Fm hr.m (by rfl) (af (ae (pv 1)) (af (ae (pv 0)) ao))))))
  (av (aR (a9 [none,some 2] ["height","heights"] rfl (cQ (eB (pv 2)) (cQ (bc (fR (aA (pv 2)))) (bc (fS (aA (pv 2)))))) (fun _ _ _ _ _=>(aw (i:=0) (show List.Nodup (["height","heights"]:List Str) from by decide +kernel) rfl (lo rfl))) (fun _ _ _ _ _=>bu) (fun _ _ _ _ _=>(aK ir (ae (pv 0)) (aa (aT (w6 rfl) (by rfl) Ge wY (af (ae (pv 1)) ao))))))))))
abbrev pw:Stmt:=top 20
theorem qw:FnScope ["chart","beads","move","having"] ["chart","beads","move"] (defScope pw):=fs
theorem vV (Df:Def K mg "taken" pw) (FC:mg "max" = none) (Ge:mg "min" = none):Ct P w K mg base "taken" 1 (spF K f6):=
 cZ Df qw (fun _ _ _ _ _ _=>A8 fun _ _ _=>rfl) fun f EJ A outer s H E hr=>
  (ah (iz (i:=3) [none,none,none,some 1,some 2] ["first","by","second","beads","move"] qw.nd rfl (lo rfl) rfl (bc (dD (aG (ae (pv 0)) (aa aq)))) (fun _ _ _ _ _=>(have h:=(show List.Nodup (["first","by","second","beads","move"]:List Str) from by decide +kernel);(dY rfl (aF (aw (i:=0) h rfl (lo rfl)) (aF (aw (i:=1) h rfl (lo rfl)) (aF (aw (i:=2) h rfl (lo rfl)) cK)))))) (fun _ _ _ _ _=>(tw (bA (l8 hr.units) (ae (pv 1)) (ae (pv 4)) (bD _)))) (fun _ _ _ _ _=>(aG (ae (pv 3)) (ae (pv 0)))))
  (av (aR (yz rfl (by rfl) Ge (aA (pv 3)) (aK aO (aa (aT (ql rfl) (by rfl) FC qo (af (ae (pv 1)) ao))) (aa aq))))))
abbrev i4:Stmt:=top 21
theorem hW:FnScope ["chart","row","beads","takes"] ["chart","row"] (defScope i4):=fs
theorem px (Df:Def K mg "place_of" i4) (F2:Ct P w K mg base "beads_of" 5 (spF K b6)) (J7:Ct P w K mg base "taken" 1 (spF K f6)) (Es:mg "tuple" = none) (Fl:mg "zip" = none):Ct P w K mg base "place_of" 6 (spF K dq):=
 cZ Df hW (fun _ _ _ _ _ _=>oN fun _ _=>rfl) fun f EJ A outer s H E hr=>
  (ah (aH (i:=2) hW.nd rfl (lo rfl) (aQ F2 hr.m (by rfl) (af (ae (pv 0)) (af (ae (pv 1)) ao))))
  (ah (aH (i:=3) hW.nd rfl (lo rfl) (aV bS (by rfl) Es bQ (af (aa (a9 [none,some 0,some 2] ["move","chart","beads"] rfl (bc (dD (aG (ae (pv 0)) (aa aq)))) (fun _ _ _ _ _=>(aw (i:=0) (show List.Nodup (["move","chart","beads"]:List Str) from by decide +kernel) rfl (lo rfl))) (fun _ _ _ _ _=>bu) (fun _ _ _ _ _=>(aQ J7 hr.m (by rfl) (af (ae (pv 1)) (af (ae (pv 2)) (af (ae (pv 0)) ao))))))) ao)))
  (av (aR (di (aD (aG (ae (pv 2)) (aa aq)) (aD (aA (pv 3)) (aD (aV bS (by rfl) Es bQ (af (aa (a9 [none,none] ["number","more"] rfl (bc (ka (by rfl) Fl (af (aa (aA (pv 3))) (af (aa (aA (pv 1))) ao)))) (fun _ _ _ _ _=>(have h:=(show List.Nodup (["number","more"]:List Str) from by decide +kernel);(dY rfl (aF (aw (i:=0) h rfl (lo rfl)) (aF (aw (i:=1) h rfl (lo rfl)) cK))))) (fun _ _ _ _ _=>bu) (fun _ _ _ _ _=>(aK aO (ae (pv 0)) (ae (pv 1)))))) ao)) aS))))))))
abbrev eF:Stmt:=top 23
theorem kz:FnScope ["_law_script","_law_k"] ["_law_script","_law_k"] (defScope eF):=fs
theorem kA (Df:Def K mg "_law_cell_at" eF) (EM:mg "len" = none):Ct P w K mg base "_law_cell_at" 1 (spF K aN):=
 cZ Df kz (fun _ _ _ _ _ _=>oN fun _ _=>rfl) fun f EJ A outer s H E hr=>
  (ah (dP (il (j8 hr.units0) (ae (pv 1)) (aa (aT dJ (by rfl) EM bt_len (af (ae (pv 0)) ao))) (bD _))
  (av (aR (aG (ae (pv 0)) (ae (pv 1)))))
  bC)
  (av (aR aq)))
abbrev gm:Stmt:=top 24
theorem fA:FnScope ["_law_cell","_law_k","_law_number"] ["_law_cell","_law_k"] (defScope gm):=fs
theorem mq (Df:Def K mg "_law_mixed" gm):Ct P w K mg base "_law_mixed" 1 (spF K aZ):=
 cZ Df fA (fun _ _ _ _ _ _=>oN fun _ _=>rfl) fun f EJ A outer s H E hr=>
  (ah (aH (i:=2) fA.nd rfl (lo rfl) (aK aO (aa (aK dh (ae (pv 0)) (aa aq))) (aa (aK eC (aa aq) (aa (aK aO (ae (pv 1)) (aa aq)))))))
  (ah (aH (i:=2) fA.nd rfl (lo rfl) (aK dh (aa (aK aO (aa (aK eC (ae (pv 2)) (ae (pv 2)))) (aa (aK eC (aa aq) (ae (pv 1)))))) (aa aq)))
  (av (aR (aK dh (aa (aK aO (aa (aK aO (aa (aK eC (ae (pv 2)) (ae (pv 2)))) (aa (aK eC (aa aq) (ae (pv 1)))))) (aa aq))) (aa aq))))))
abbrev gq:Stmt:=top 25
theorem bj:FnScope ["_law_cell","_law_letters","_law_base","_law_width","_law_spot","_law_names_here","_law_k","_law_moved_on"] ["_law_cell"] (defScope gq):=fs
theorem mr (Df:Def K mg "_law_names" gq) (ER:Ct P w K mg base "_law_mixed" 1 (spF K aZ)) (Ez:mg "range" = none) (Fb:mg "sorted" = none):Ct P w K mg base "_law_names" 2 (spF K cS):=
 cZ Df bj (fun _ _ _ _ _ _=>yF fun _=>rfl) fun f EJ A outer s H E hr=>
  (ah (aH (i:=1) bj.nd rfl (lo rfl) (qa Ea (by decide)))
  (ah (iz (i:=2) [none,some 0] ["_law_j","_law_cell"] bj.nd rfl (lo rfl) rfl (bc (cj (by rfl) Ez (aa aq))) (fun _ _ _ _ _=>(aw (i:=0) (show List.Nodup (["_law_j","_law_cell"]:List Str) from by decide +kernel) rfl (lo rfl))) (fun _ _ _ _ _=>bu) (fun _ _ _ _ _=>(aK dh (aa (aQ ER hr.m (by rfl) (af (ae (pv 1)) (af (ae (pv 0)) ao)))) (aa aq))))
  (ah (aH (i:=3) bj.nd rfl (lo rfl) (aK aO (aa aq) (aa (aK dh (ae (pv 0)) (aa aq)))))
  (ah (aH (i:=4) bj.nd rfl (lo rfl) (aK dh (aa (aK eh (ae (pv 0)) (aa aq))) (ae (pv 3))))
  (ah (aH (i:=5) bj.nd rfl (lo rfl) (d7 aS))
  (ah (dM PassesOwn.never rfl (cj (by rfl) Ez (aa aq)) (aw (i:=6) bj.nd rfl (lo rfl))
  (ah (aH (i:=7) bj.nd rfl (lo rfl) (tV (ae (pv 2)) tF (g7 (aA (pv 3)))))
  (ah (o9 (pv 7) (aA (pv 4)) (aK dh (aa (aK aO (aa (aG (ae (pv 7)) (ae (pv 4)))) (ae (pv 6)))) (aa aq)))
  (ah (dP (bA (l8 hr.units) (aa (aK dh (aa (aK eh (ae (pv 0)) (aa aq))) (aa aq))) (aa aq) (bD _))
  (av (aH (i:=7) bj.nd rfl (lo rfl) (tV (ae (pv 2)) tF (g7 (aK aO (ae (pv 6)) (aa aq))))))
  bC)
  (av (dX (cn (pv 5) (AM PySem.F.slot_str_join PySem.F.type_str_join yw (aa (qa D9 (by decide))) (af (aa (a9 [none,some 1] ["_law_j","_law_letters"] rfl (cQ (eB (pv 7)) (cQ (bc (fR (aA (pv 7)))) (bc (fS (aA (pv 7)))))) (fun _ _ _ _ _=>(aw (i:=0) (show List.Nodup (["_law_j","_law_letters"]:List Str) from by decide +kernel) rfl (lo rfl))) (fun _ _ _ _ _=>bu) (fun _ _ _ _ _=>(aG (ae (pv 1)) (ae (pv 0)))))) ao)))))))))
  (ah (dP (bA (tY hr.u65) (aa (qa D7 (by decide))) (ae (pv 5)) (by with_unfolding_all rfl))
  (av (iz (i:=5) [none] ["_law_name"] bj.nd rfl (lo rfl) rfl (cQ (eB (pv 5)) (cQ (bc (fR (aA (pv 5)))) (bc (fS (aA (pv 5)))))) (fun _ _ _ _ _=>(aw (i:=0) (show List.Nodup (["_law_name"]:List Str) from by decide +kernel) rfl (lo rfl))) (fun _ _ _ _ _=>bu) (fun _ _ _ _ _=>(aK aO (aa (qa D8 (by decide))) (ae (pv 0))))))
  bC)
  (av (aR (aT (nO rfl) (by rfl) Fb nQ (af (ae (pv 5)) ao)))))))))))
abbrev hX:Stmt:=top 26
theorem dE:FnScope ["_law_net_here","_law_marking","_law_move","_law_k","_law_after","_law_beads","_law_place_here"] ["_law_net_here","_law_marking","_law_move"] (defScope hX):=fs
theorem oy (Df:Def K mg "_law_step" hX) (Es:mg "tuple" = none) (Fl:mg "zip" = none):Ct P w K mg base "_law_step" 1 (spF K cN):=
 cZ Df dE (fun _ _ _ _ _ _=>A8 fun _ _ _=>rfl) fun f EJ A outer s H E hr=>
  (ah (aH (i:=3) dE.nd rfl (lo rfl) (qp PySem.F.slot_tuple_index PySem.F.type_tuple_index g9 (aa (aG (ae (pv 0)) (aa aq))) (af (ae (pv 2)) ao)))
  (ah (aH (i:=4) dE.nd rfl (lo rfl) (d7 aS))
  (ah (dM PassesOwn.never rfl (ka (by rfl) Fl (af (aa (aA (pv 1))) (af (aa (aG (ae (pv 0)) (aa aq))) ao))) (dY rfl (aF (aw (i:=5) dE.nd rfl (lo rfl)) (aF (aw (i:=6) dE.nd rfl (lo rfl)) cK)))
  (ah (dP (il (j8 hr.units0) (ae (pv 5)) (aa (aG (aa (aG (ae (pv 6)) (aa aq))) (ae (pv 3)))) (bD _))
  (av (aR nF))
  bC)
  (av (dX (cn (pv 4) (aK aO (aa (aK ir (ae (pv 5)) (aa (aG (aa (aG (ae (pv 6)) (aa aq))) (ae (pv 3)))))) (aa (aG (aa (aG (ae (pv 6)) (aa aq))) (ae (pv 3))))))))))
  (av (aR (aV bS (by rfl) Es bQ (af (ae (pv 4)) ao)))))))
abbrev i5:Stmt:=top 27
theorem cP:FnScope ["_law_net_here","_law_most","_law_markings","_law_arcs","_law_done","_law_move","_law_after"] ["_law_net_here","_law_most"] (defScope i5):=fs
theorem pA (Df:Def K mg "_law_run" i5) (HQ:Ct P w K mg base "_law_step" 1 (spF K cN)) (EM:mg "len" = none) (Fb:mg "sorted" = none) (Es:mg "tuple" = none):Ct P w K mg base "_law_run" 2 (spF K bV):=
 cZ Df cP (fun _ _ _ _ _ _=>oN fun _ _=>rfl) fun f EJ A outer s H E hr=>
  (ah (aH (i:=2) cP.nd rfl (lo rfl) (d7 (aD (aV bS (by rfl) Es bQ (af (aa (a9 [none,none,none] ["_law_beads","_law_takes","_law_gives"] rfl (bc (dD (aG (ae (pv 0)) (aa aq)))) (fun _ _ _ _ _=>(have h:=(show List.Nodup (["_law_beads","_law_takes","_law_gives"]:List Str) from by decide +kernel);(dY rfl (aF (aw (i:=0) h rfl (lo rfl)) (aF (aw (i:=1) h rfl (lo rfl)) (aF (aw (i:=2) h rfl (lo rfl)) cK)))))) (fun _ _ _ _ _=>bu) (fun _ _ _ _ _=>(aA (pv 0))))) ao)) aS)))
  (ah (aH (i:=3) cP.nd rfl (lo rfl) (d7 aS))
  (ah (aH (i:=4) cP.nd rfl (lo rfl) aq)
  (ah (qc 100000 PassesOwn.never (il (j8 hr.units0) (ae (pv 4)) (aa (aT dJ (by rfl) EM bt_len (af (ae (pv 2)) ao))) (bD _))
  (ah (dM PassesOwn.never rfl (dD (aG (ae (pv 0)) (aa aq))) (aw (i:=5) cP.nd rfl (lo rfl))
  (ah (aH (i:=6) cP.nd rfl (lo rfl) (aQ HQ hr.m (by rfl) (af (ae (pv 0)) (af (aa (aG (ae (pv 2)) (ae (pv 4)))) (af (ae (pv 5)) ao)))))
  (av (dP (bA ll (ae (pv 6)) (aa nF) (bD _))
  (ah (dP (bA (pe hr.u65) (ae (pv 6)) (ae (pv 2)) (by with_unfolding_all rfl))
  (ah (dP (bA (l8 hr.units) (aa (aT dJ (by rfl) EM bt_len (af (ae (pv 2)) ao))) (ae (pv 1)) (bD _))
  (av (aR nF))
  bC)
  (av (dX (cn (pv 2) (aA (pv 6))))))
  bC)
  (av (dX (cn (pv 3) (di (aD (aA (pv 4)) (aD (aA (pv 5)) (aD (A3 PySem.F.slot_list_index PySem.F.type_list_index (pg hr.u65) (ae (pv 2)) (af (ae (pv 6)) ao)) aS))))))))
  bC))))
  (av (aH (i:=4) cP.nd rfl (lo rfl) (aK aO (ae (pv 4)) (aa aq))))))
  (av (aR (di (aD (aT (nO rfl) (by rfl) Fb nQ (af (ae (pv 3)) ao)) (aD (aA (pv 2)) aS)))))))))
abbrev hZ:Stmt:=top 28
theorem eg:FnScope ["_law_script","_law_first","_law_k","_law_number","_law_cell"] ["_law_script","_law_first","_law_k"] (defScope hZ):=fs
theorem oz (Df:Def K mg "_law_fold" hZ) (ER:Ct P w K mg base "_law_mixed" 1 (spF K aZ)):Ct P w K mg base "_law_fold" 2 (spF K dr):=
 cZ Df eg (fun _ _ _ _ _ _=>A8 fun _ _ _=>rfl) fun f EJ A outer s H E hr=>
  (ah (aH (i:=3) eg.nd rfl (lo rfl) (aK aO (aa aq) (ae (pv 2))))
  (ah (dM PassesOwn.never rfl (dD (A6 (ae (pv 0)) (g7 (aK aO (ae (pv 1)) (ae (pv 2)))) (g7 (aK aO (ae (pv 1)) (aa aq))) (g7 aq))) (aw (i:=4) eg.nd rfl (lo rfl))
  (av (aH (i:=3) eg.nd rfl (lo rfl) (aQ ER hr.m (by rfl) (af (aa (aK aO (ae (pv 4)) (ae (pv 3)))) (af (ae (pv 2)) ao))))))
  (av (aR (iS (pv 3))))))
abbrev gr:Stmt:=top 29
theorem bZ:FnScope ["_law_number","_law_count","_law_takes","_law_gives","_law_j","_law_mixed_here","_law_step_here","_law_loop"] ["_law_number","_law_count"] (defScope gr):=fs
theorem mw (Df:Def K mg "_law_place" gr) (ER:Ct P w K mg base "_law_mixed" 1 (spF K aZ)) (FC:mg "max" = none) (Ez:mg "range" = none):Ct P w K mg base "_law_place" 2 (spF K cT):=
 cZ Df bZ (fun _ _ _ _ _ _=>oN fun _ _=>rfl) fun f EJ A outer s H E hr=>
  (ah (aH (i:=2) bZ.nd rfl (lo rfl) (d7 aS))
  (ah (aH (i:=3) bZ.nd rfl (lo rfl) (d7 aS))
  (ah (dM PassesOwn.never rfl (cj (by rfl) Ez (ae (pv 1))) (aw (i:=4) bZ.nd rfl (lo rfl))
  (ah (aH (i:=5) bZ.nd rfl (lo rfl) (aQ ER hr.m (by rfl) (af (ae (pv 0)) (af (ae (pv 4)) ao))))
  (ah (aH (i:=6) bZ.nd rfl (lo rfl) (aK ir (aa (aK dh (ae (pv 5)) (aa aq))) (aa aq)))
  (ah (aH (i:=7) bZ.nd rfl (lo rfl) (aK eh (aa (aK dh (aa (aK eh (ae (pv 5)) (aa aq))) (aa aq))) (aa aq)))
  (ah (dX (cn (pv 2) (aK aO (aa (aT (ql rfl) (by rfl) FC qo (af (aa aq) (af (aa (aK ir (aa aq) (ae (pv 6)))) ao)))) (ae (pv 7)))))
  (av (dX (cn (pv 3) (aK aO (aa (aT (ql rfl) (by rfl) FC qo (af (aa aq) (af (ae (pv 6)) ao)))) (ae (pv 7)))))))))))
  (av (aR (yD (aK dh (aa (aK eh (ae (pv 0)) (aa aq))) (aa aq)) (iS (pv 2)) (iS (pv 3))))))))
abbrev fB:Stmt:=top 30
theorem b7:FnScope ["_law_place_here","_law_cell","_law_factor","_law_beads","_law_takes","_law_gives"] ["_law_place_here","_law_cell"] (defScope fB):=fs
theorem kY (Df:Def K mg "_law_scaled" fB) (Es:mg "tuple" = none):Ct P w K mg base "_law_scaled" 1 (spF K bY):=
 cZ Df b7 (fun _ _ _ _ _ _=>oN fun _ _=>rfl) fun f EJ A outer s H E hr=>
  (ah (aH (i:=2) b7.nd rfl (lo rfl) (aK aO (aa aq) (aa (aK dh (ae (pv 1)) (aa (aK Av (aa aq) (aa aq)))))))
  (ah (wX (aA (pv 0)) (dY rfl (aF (aw (i:=3) b7.nd rfl (lo rfl)) (aF (aw (i:=4) b7.nd rfl (lo rfl)) (aF (aw (i:=5) b7.nd rfl (lo rfl)) cK)))))
  (ah (aH (i:=4) b7.nd rfl (lo rfl) (aV bS (by rfl) Es bQ (af (aa (a9 [none,some 2] ["_law_take","_law_factor"] rfl (cQ (eB (pv 4)) (cQ (bc (fR (aA (pv 4)))) (bc (fS (aA (pv 4)))))) (fun _ _ _ _ _=>(aw (i:=0) (show List.Nodup (["_law_take","_law_factor"]:List Str) from by decide +kernel) rfl (lo rfl))) (fun _ _ _ _ _=>bu) (fun _ _ _ _ _=>(aK eC (ae (pv 1)) (ae (pv 0)))))) ao)))
  (av (aR (di (aD (aK aO (aa (aK eC (ae (pv 2)) (ae (pv 3)))) (aa (aK dh (aa (aK eh (ae (pv 1)) (aa aq))) (ae (pv 2))))) (aD (aA (pv 4)) (aD (aV bS (by rfl) Es bQ (af (aa (a9 [none,some 2] ["_law_give","_law_factor"] rfl (cQ (eB (pv 5)) (cQ (bc (fR (aA (pv 5)))) (bc (fS (aA (pv 5)))))) (fun _ _ _ _ _=>(aw (i:=0) (show List.Nodup (["_law_give","_law_factor"]:List Str) from by decide +kernel) rfl (lo rfl))) (fun _ _ _ _ _=>bu) (fun _ _ _ _ _=>(aK eC (ae (pv 1)) (ae (pv 0)))))) ao)) aS)))))))))
abbrev fC:Stmt:=top 31
theorem b8:FnScope ["_law_script","_law_first","_law_count","_law_places_here","_law_k","_law_number","_law_place_here","_law_mate"] ["_law_script","_law_first","_law_count"] (defScope fC):=fs
theorem kZ (Df:Def K mg "_law_places" fC) (EF:Ct P w K mg base "_law_cell_at" 1 (spF K aN)) (HR:Ct P w K mg base "_law_fold" 2 (spF K dr)) (Hu:Ct P w K mg base "_law_place" 2 (spF K cT)) (FZ:Ct P w K mg base "_law_scaled" 1 (spF K bY)) (Ez:mg "range" = none):Ct P w K mg base "_law_places" 3 (spF K cw):=
 cZ Df b8 (fun _ _ _ _ _ _=>A8 fun _ _ _=>rfl) fun f EJ A outer s H E hr=>
  (ah (aH (i:=3) b8.nd rfl (lo rfl) (d7 aS))
  (ah (dM PassesOwn.never rfl (cj (by rfl) Ez (aa (aK aO (aa aq) (aa (aK dh (aa (aK eh (aa (aQ EF hr.m (by rfl) (af (ae (pv 0)) (af (aa aq) ao)))) (aa aq))) (aa aq)))))) (aw (i:=4) b8.nd rfl (lo rfl))
  (ah (aH (i:=5) b8.nd rfl (lo rfl) (aQ HR hr.m (by rfl) (af (ae (pv 0)) (af (ae (pv 1)) (af (ae (pv 4)) ao)))))
  (ah (aH (i:=6) b8.nd rfl (lo rfl) (aQ Hu hr.m (by rfl) (af (ae (pv 5)) (af (ae (pv 2)) ao))))
  (ah (dX (cn (pv 3) (aQ FZ hr.m (by rfl) (af (ae (pv 6)) (af (aa (aQ EF hr.m (by rfl) (af (ae (pv 0)) (af (aa (aK aO (ae (pv 1)) (ae (pv 4)))) ao)))) ao)))))
  (av (dP (il CH (aa (aK dh (aa (aK eh (ae (pv 5)) (aa aq))) (aa aq))) (aa aq) (bD _))
  (ah (aH (i:=7) b8.nd rfl (lo rfl) (di (aD (aK dh (aa (aK eh (ae (pv 5)) (aa aq))) (aa aq)) (aD (aG (aa (aA (pv 6))) (aa aq)) (aD (aG (aa (aA (pv 6))) (aa aq)) aS)))))
  (av (dX (cn (pv 3) (aQ FZ hr.m (by rfl) (af (ae (pv 7)) (af (aa (aQ EF hr.m (by rfl) (af (ae (pv 0)) (af (aa (aK aO (aa (aK aO (ae (pv 1)) (aa aq))) (ae (pv 4)))) ao)))) ao)))))))
  bC))))))
  (av (aR (iS (pv 3))))))
abbrev gu:Stmt:=top 32
theorem c9:FnScope ["_law_script","_law_names_here","_law_cell","_law_count","_law_start"] ["_law_script"] (defScope gu):=fs
theorem mx (Df:Def K mg "_law_moves" gu) (EF:Ct P w K mg base "_law_cell_at" 1 (spF K aN)) (Hv:Ct P w K mg base "_law_names" 2 (spF K cS)) (Es:mg "tuple" = none):Ct P w K mg base "_law_moves" 3 (spF K cU):=
 cZ Df c9 (fun _ _ _ _ _ _=>yF fun _=>rfl) fun f EJ A outer s H E hr=>
  (ah (aH (i:=1) c9.nd rfl (lo rfl) (aQ Hv hr.m (by rfl) (af (aa (aQ EF hr.m (by rfl) (af (ae (pv 0)) (af (aa aq) ao)))) ao)))
  (ah (aH (i:=2) c9.nd rfl (lo rfl) (aQ EF hr.m (by rfl) (af (ae (pv 0)) (af (aa aq) ao))))
  (ah (aH (i:=3) c9.nd rfl (lo rfl) (aK aO (aa aq) (aa (aK dh (ae (pv 2)) (aa aq)))))
  (ah (aH (i:=4) c9.nd rfl (lo rfl) (aK dh (aa (aK eh (ae (pv 2)) (aa aq))) (aa (aK ir (aa aq) (ae (pv 3))))))
  (av (aR (aV bS (by rfl) Es bQ (af (aa (tV (ae (pv 1)) (g7 (aA (pv 4))) (g7 (aK aO (ae (pv 4)) (ae (pv 3)))))) ao))))))))
abbrev i6:Stmt:=top 33
theorem dv:FnScope ["_law_script","_law_first","_law_moves_here","_law_count","_law_places_here","_law_ones","_law_noughts"] ["_law_script","_law_first"] (defScope i6):=fs
theorem pB (Df:Def K mg "_law_net" i6) (Hw:Ct P w K mg base "_law_moves" 3 (spF K cU)) (Hc:Ct P w K mg base "_law_places" 3 (spF K cw)) (Fp:Ct P w K mg base "_law_run" 2 (spF K bV)) (EM:mg "len" = none) (Es:mg "tuple" = none):Ct P w K mg base "_law_net" 4 (spF K dt):=
 cZ Df dv (fun _ _ _ _ _ _=>oN fun _ _=>rfl) fun f EJ A outer s H E hr=>
  (ah (aH (i:=2) dv.nd rfl (lo rfl) (aQ Hw hr.m (by rfl) (af (ae (pv 0)) ao)))
  (ah (aH (i:=3) dv.nd rfl (lo rfl) (aT dJ (by rfl) EM bt_len (af (ae (pv 2)) ao)))
  (ah (aH (i:=4) dv.nd rfl (lo rfl) (aQ Hc hr.m (by rfl) (af (ae (pv 0)) (af (ae (pv 1)) (af (ae (pv 3)) ao)))))
  (ah (dP (bA ll (aa (aQ Fp hr.m (by rfl) (af (aa (di (aD (aA (pv 2)) (aD (aA (pv 4)) aS)))) (af (aa aq) ao)))) (aa nF) (bD _))
  (av (aR (di (aD (aA (pv 2)) (aD (aA (pv 4)) aS)))))
  bC)
  (ah (aH (i:=5) dv.nd rfl (lo rfl) (aV bS (by rfl) Es bQ (af (aa (a9 [none] ["_law_move"] rfl (cQ (eB (pv 2)) (cQ (bc (fR (aA (pv 2)))) (bc (fS (aA (pv 2)))))) (fun _ _ _ _ _=>(aw (i:=0) (show List.Nodup (["_law_move"]:List Str) from by decide +kernel) rfl (lo rfl))) (fun _ _ _ _ _=>bu) (fun _ _ _ _ _=>aq))) ao)))
  (ah (aH (i:=6) dv.nd rfl (lo rfl) (aV bS (by rfl) Es bQ (af (aa (a9 [none] ["_law_move"] rfl (cQ (eB (pv 2)) (cQ (bc (fR (aA (pv 2)))) (bc (fS (aA (pv 2)))))) (fun _ _ _ _ _=>(aw (i:=0) (show List.Nodup (["_law_move"]:List Str) from by decide +kernel) rfl (lo rfl))) (fun _ _ _ _ _=>bu) (fun _ _ _ _ _=>aq))) ao)))
  (ah (dP (bA ll (aa (aQ Fp hr.m (by rfl) (af (aa (di (aD (aA (pv 2)) (aD (aK aO (ae (pv 4)) (aa (d7 (aD (di (aD aq (aD (aA (pv 5)) (aD (aA (pv 6)) aS)))) aS)))) aS)))) (af (aa aq) ao)))) (aa nF) (bD _))
  (av (aR (di (aD (aA (pv 2)) (aD (aK aO (ae (pv 4)) (aa (d7 (aD (di (aD aq (aD (aA (pv 5)) (aD (aA (pv 6)) aS)))) aS)))) aS)))))
  bC)
  (av (aR (di (aD (aA (pv 2)) (aD (aK aO (ae (pv 4)) (aa (d7 (aD (di (aD aq (aD (aA (pv 5)) (aD (aA (pv 6)) aS)))) aS)))) aS))))))))))))
abbrev ia:Stmt:=top 34
theorem cV:FnScope ["_law_chart","_law_place_here","_law_beads","_law_one","_law_move","_law_other","_law_k","_law_left"] ["_law_chart","_law_place_here","_law_beads"] (defScope ia):=fs
theorem oA (Df:Def K mg "_law_goes" ia) (Ge:mg "min" = none):Ct P w K mg base "_law_goes" 1 (spF K cO):=
 cZ Df cV (fun _ _ _ _ _ _=>A8 fun _ _ _=>rfl) fun f EJ A outer s H E hr=>
  (ah (dP (QW.qt (tf (bA (nL hr.units) (aa (aG (ae (pv 2)) (aa aq))) (aa (aG (ae (pv 1)) (aa aq))) (bD _)) (qb (bA (nL hr.units) (aa (aT (w6 rfl) (by rfl) Ge wY (af (ae (pv 2)) ao))) (aa aq) (bD _)))))
  (av (aR fL))
  bC)
  (ah (dM PassesOwn.never rfl (dD (aG (ae (pv 0)) (aa aq))) (dY rfl (aF (aw (i:=3) cV.nd rfl (lo rfl)) (aF (aw (i:=4) cV.nd rfl (lo rfl)) (aF (aw (i:=5) cV.nd rfl (lo rfl)) cK))))
  (ah (aH (i:=6) cV.nd rfl (lo rfl) (qp PySem.F.slot_tuple_index PySem.F.type_tuple_index g9 (aa (aG (ae (pv 0)) (aa aq))) (af (ae (pv 4)) ao)))
  (ah (aH (i:=7) cV.nd rfl (lo rfl) (aK ir (aa (aG (ae (pv 2)) (ae (pv 3)))) (aa (aG (aa (aG (ae (pv 1)) (aa aq))) (ae (pv 6))))))
  (av (dP (QW.qt (tf (il (j8 hr.units0) (ae (pv 7)) (aa aq) (bD _)) (qb (bA (nL hr.units) (aa (aG (ae (pv 2)) (ae (pv 5)))) (aa (aK aO (ae (pv 7)) (aa (aG (aa (aG (ae (pv 1)) (aa aq))) (ae (pv 6)))))) (bD _)))))
  (av (aR fL))
  bC)))))
  (av (aR fL))))
abbrev dw:Stmt:=top 35
theorem de:FnScope ["_law_place_here","_law_k","_law_takes","_law_gives"] ["_law_place_here","_law_k"] (defScope dw):=fs
theorem iL (Df:Def K mg "_law_more_taken" dw) (FE:mg "list" = none) (Es:mg "tuple" = none):Ct P w K mg base "_law_more_taken" 1 (spF K bF):=
 cZ Df de (fun _ _ _ _ _ _=>oN fun _ _=>rfl) fun f EJ A outer s H E hr=>
  (ah (aH (i:=2) de.nd rfl (lo rfl) (aV tI (by rfl) FE oT (af (aa (aG (ae (pv 0)) (aa aq))) ao)))
  (ah (aH (i:=3) de.nd rfl (lo rfl) (aV tI (by rfl) FE oT (af (aa (aG (ae (pv 0)) (aa aq))) ao)))
  (ah (o9 (pv 2) (aA (pv 1)) (aK aO (aa (aG (ae (pv 2)) (ae (pv 1)))) (aa aq)))
  (ah (o9 (pv 3) (aA (pv 1)) (aK aO (aa (aG (ae (pv 3)) (ae (pv 1)))) (aa aq)))
  (av (aR (di (aD (aG (ae (pv 0)) (aa aq)) (aD (aV bS (by rfl) Es bQ (af (ae (pv 2)) ao)) (aD (aV bS (by rfl) Es bQ (af (ae (pv 3)) ao)) aS))))))))))
abbrev eG:Stmt:=top 36
theorem cq:FnScope ["_law_chart","_law_old","_law_old_beads","_law_place_here","_law_beads","_law_one","_law_other","_law_k","_law_having"] ["_law_chart","_law_old","_law_old_beads","_law_place_here","_law_beads"] (defScope eG):=fs
theorem kB (Df:Def K mg "_law_as_good" eG) (EM:mg "len" = none) (Ez:mg "range" = none):Ct P w K mg base "_law_as_good" 1 (spF K bO):=
 cZ Df cq (fun _ _ _ _ _ _=>D6 fun _ _ _ _ _=>rfl) fun f EJ A outer s H E hr=>
  (ah (dM PassesOwn.never rfl (cj (by rfl) Ez (aa (aT dJ (by rfl) EM bt_len (af (ae (pv 4)) ao)))) (aw (i:=5) cq.nd rfl (lo rfl))
  (ah (dM PassesOwn.never rfl (cj (by rfl) Ez (ae (pv 5))) (aw (i:=6) cq.nd rfl (lo rfl))
  (av (dP (QW.qt (lj (bA (nL hr.units) (aa (aG (ae (pv 2)) (ae (pv 5)))) (aa (aG (ae (pv 2)) (ae (pv 6)))) (bD _)) (jU (bA (l8 hr.units) (aa (aG (ae (pv 4)) (ae (pv 5)))) (aa (aG (ae (pv 4)) (ae (pv 6)))) (bD _)))))
  (av (aR fL))
  bC)))
  (av (dM PassesOwn.never rfl (cj (by rfl) Ez (aa (aT dJ (by rfl) EM bt_len (af (aa (aG (ae (pv 0)) (aa aq))) ao)))) (aw (i:=7) cq.nd rfl (lo rfl))
  (ah (aH (i:=8) cq.nd rfl (lo rfl) (jT (nL hr.units) (aa (a9 [none,some 5,some 7,some 0] ["_law_arc","_law_one","_law_k","_law_chart"] rfl (bc (dD (aG (ae (pv 0)) (aa aq)))) (fun _ _ _ _ _=>(aw (i:=0) (show List.Nodup (["_law_arc","_law_one","_law_k","_law_chart"]:List Str) from by decide +kernel) rfl (lo rfl))) (fun _ _ _ _ _=>(tw (QW.qt (lj (bA (l8 hr.units) (aa (aG (ae (pv 0)) (aa aq))) (ae (pv 1)) (bD _)) (jU (bA (l8 hr.units) (aa (aG (ae (pv 0)) (aa aq))) (aa (aG (aa (aG (ae (pv 3)) (aa aq))) (ae (pv 2)))) (bD _))))))) (fun _ _ _ _ _=>(aA (pv 0))))) (aa (d7 aS)) (bD _)))
  (av (dP (QW.qt (lj (nG (lh (aA (pv 8)))) (lj (il (j8 hr.units0) (aa (aG (ae (pv 2)) (ae (pv 5)))) (aa (aG (aa (aG (ae (pv 1)) (aa aq))) (ae (pv 7)))) (bD _)) (jU (il (AJ hr.units0) (aa (aG (ae (pv 4)) (ae (pv 5)))) (aa (aG (aa (aG (ae (pv 3)) (aa aq))) (ae (pv 7)))) (bD _))))))
  (av (aR fL))
  bC)))))))
  (av (aR fL)))
abbrev my:Stmt:=top 37
theorem eW:FnScope ["_law_script","_law_net_here","_law_arcs","_law_markings","_law_chart","_law_used","_law_j","_law_old","_law_row","_law_beads","_law_place_here","_law_there","_law_k"] ["_law_script"] (defScope my):=fs
theorem A9 {f:Addr} {fd:FuncData} (F:Fun K "law" "law" my f fd) (GS:Ct P w K mg base "_law_as_good" 1 (spF K bO)) (HS:Ct P w K mg base "_law_goes" 1 (spF K cO)) (Gf:Ct P w K mg base "_law_more_taken" 1 (spF K bF)) (Iq:Ct P w K mg base "_law_net" 4 (spF K dt)) (Fp:Ct P w K mg base "_law_run" 2 (spF K bV)) (F2:Ct P w K mg base "beads_of" 5 (spF K b6)) (Fo:Ct P w K mg base "is_stretch" 4 (spF K bE)) (Hm:Ct P w K mg base "lets_go" 5 (spF K c5)) (Ir:Ct P w K mg base "place_of" 6 (spF K dq)) (HU:mg "int" = none) (ES:mg "isinstance" = none) (EM:mg "len" = none) (FE:mg "list" = none) (Ez:mg "range" = none) (Es:mg "tuple" = none):FnOk P w K mg base Jl 7 f fd ["_law_script"] (spF K yE):=
 fnok_of F eW fun EJ A outer s H E hr=>
  (ah (aH (i:=1) eW.nd rfl (lo rfl) (aQ Iq hr.m (by rfl) (af (ae (pv 0)) (af (aa aq) ao))))
  (ah (wX (aQ Fp hr.m (by rfl) (af (ae (pv 1)) (af (aa aq) ao))) (dY rfl (aF (aw (i:=2) eW.nd rfl (lo rfl)) (aF (aw (i:=3) eW.nd rfl (lo rfl)) cK))))
  (ah (aH (i:=4) eW.nd rfl (lo rfl) (di (aD (aG (ae (pv 1)) (aa aq)) (aD (aA (pv 2)) aS))))
  (ah (aH (i:=5) eW.nd rfl (lo rfl) (a9 [none,none,none] ["_law_one","_law_move","_law_other"] rfl (cQ (eB (pv 2)) (cQ (bc (fR (aA (pv 2)))) (bc (fS (aA (pv 2)))))) (fun _ _ _ _ _=>(have h:=(show List.Nodup (["_law_one","_law_move","_law_other"]:List Str) from by decide +kernel);(dY rfl (aF (aw (i:=0) h rfl (lo rfl)) (aF (aw (i:=1) h rfl (lo rfl)) (aF (aw (i:=2) h rfl (lo rfl)) cK)))))) (fun _ _ _ _ _=>bu) (fun _ _ _ _ _=>(aA (pv 1)))))
  (ah (dM PassesOwn.never rfl (cj (by rfl) Ez (aa (aT dJ (by rfl) EM bt_len (af (aa (aG (ae (pv 1)) (aa aq))) ao)))) (aw (i:=6) eW.nd rfl (lo rfl))
  (ah (aH (i:=7) eW.nd rfl (lo rfl) (aG (aa (aG (ae (pv 1)) (aa aq))) (ae (pv 6))))
  (ah (iz (i:=8) [none,some 5,some 7,some 1] ["_law_k","_law_used","_law_old","_law_net_here"] eW.nd rfl (lo rfl) rfl (bc (cj (by rfl) Ez (aa (aT dJ (by rfl) EM bt_len (af (aa (aG (ae (pv 1)) (aa aq))) ao))))) (fun _ _ _ _ _=>(aw (i:=0) (show List.Nodup (["_law_k","_law_used","_law_old","_law_net_here"]:List Str) from by decide +kernel) rfl (lo rfl))) (fun _ _ _ _ _=>bu) (fun _ _ _ _ _=>(aK eC (aa (aK ir (aa (aG (aa (aG (ae (pv 2)) (aa aq))) (ae (pv 0)))) (aa (aG (aa (aG (ae (pv 2)) (aa aq))) (ae (pv 0)))))) (aa (aV AF (by rfl) HU Ag (af (aa (jT (tY hr.u65) (aa (aG (aa (aG (ae (pv 3)) (aa aq))) (ae (pv 0)))) (ae (pv 1)) (by with_unfolding_all rfl))) ao))))))
  (ah (dP (bA ll (aa (aQ Fo hr.m (by rfl) (af (ae (pv 4)) (af (aa (aV bS (by rfl) Es bQ (af (ae (pv 8)) ao))) ao)))) (aa fL) (bD _))
  (av (aR fL))
  bC)
  (ah (aH (i:=9) eW.nd rfl (lo rfl) (aQ F2 hr.m (by rfl) (af (ae (pv 4)) (af (aa (aV bS (by rfl) Es bQ (af (ae (pv 8)) ao))) ao))))
  (ah (aH (i:=10) eW.nd rfl (lo rfl) (aQ Ir hr.m (by rfl) (af (ae (pv 4)) (af (aa (aV bS (by rfl) Es bQ (af (ae (pv 8)) ao))) ao))))
  (ah (dP (QW.qt (tf (nG (lh (CM (T:="list") (by decide) (ae (pv 9)) (by rfl) ES (by rfl) FE oT))) (tf (bA (nL hr.units) (aa (aT dJ (by rfl) EM bt_len (af (ae (pv 9)) ao))) (aa (aT dJ (by rfl) EM bt_len (af (ae (pv 3)) ao))) (bD _)) (qb (nG (lh (aQ HS hr.m (by rfl) (af (ae (pv 4)) (af (ae (pv 10)) (af (ae (pv 9)) ao))))))))))
  (av (aR fL))
  bC)
  (ah (dP (bA ll (aa (aQ Hm hr.m (by rfl) (af (ae (pv 4)) (af (ae (pv 10)) ao)))) (aa fL) (bD _))
  (av (aR fL))
  bC)
  (ah (iz (i:=11) [none,some 6] ["_law_marking","_law_j"] eW.nd rfl (lo rfl) rfl (cQ (eB (pv 3)) (cQ (bc (fR (aA (pv 3)))) (bc (fS (aA (pv 3)))))) (fun _ _ _ _ _=>(aw (i:=0) (show List.Nodup (["_law_marking","_law_j"]:List Str) from by decide +kernel) rfl (lo rfl))) (fun _ _ _ _ _=>bu) (fun _ _ _ _ _=>(aG (ae (pv 0)) (ae (pv 1)))))
  (ah (dP (nG (lh (aQ GS hr.m (by rfl) (af (ae (pv 4)) (af (ae (pv 7)) (af (ae (pv 11)) (af (ae (pv 10)) (af (ae (pv 9)) ao))))))))
  (av (aR fL))
  bC)
  (av (dM PassesOwn.never rfl (cj (by rfl) Ez (aa (aT dJ (by rfl) EM bt_len (af (aa (aG (ae (pv 1)) (aa aq))) ao)))) (aw (i:=12) eW.nd rfl (lo rfl))
  (av (dP (QW.qt (lj (bA (tY hr.u65) (aa (aG (aa (aG (ae (pv 1)) (aa aq))) (ae (pv 12)))) (ae (pv 5)) (by with_unfolding_all rfl)) (jU (bA ll (aa (aQ Hm hr.m (by rfl) (af (ae (pv 4)) (af (aa (aQ Gf hr.m (by rfl) (af (ae (pv 10)) (af (ae (pv 12)) ao)))) ao)))) (aa fL) (bD _)))))
  (av (aR fL))
  bC))))))))))))))
  (av (aR fL)))))))
end
end LW
namespace PV
open PySem L2 NX
class Cont (α β:Type) where
 run:α->Res β
noncomputable def Res.bnd {α β:Type} [f:Cont α β] (x:Res α):Res β:=x.bind f.run
theorem EI {α β:Type} (a:α) (f:α->Res β):Res.bnd (Res.ok a) (f:=⟨f⟩)=f a:=id rfl
section
variable (env:PV.Env) (i n:Nat) (d:D) (f g:FX) (c c':FT) (fo Nh fo'':FO) (fs:FOs) (fd:FDs) (s t:FS) (op op':D->D->Res R) (F:List D->Res R) (a:FG) (as:J2) (fi fj:FI) (fp Et:FP) (T:String)
theorem Lf:aE d env=.ok ((.f,d),env):=id rfl
theorem IK:aJ i env=match env[i]? with | some (some r)=>.ok ((.f,r.2),env.set i (some (fz r.1,r.2))) | _=>.bad:=id rfl
theorem Mr:fz .f=.f:=id rfl
theorem Ms (c:O):fz (.l c)=.f:=id rfl
theorem Mt (cs:List O):fz (.t cs)=.f:=id rfl
theorem Jz (p:Addr):wL (.pin p .d)=true:=id rfl
theorem J8:jS i env=match env[i]? with | some (some r)=>.ok (r,env.set i none) | _=>.bad:=id rfl
theorem Fq:aj f env=Res.bnd (f env) (f:=⟨fun p=>.ok (.val p.1.2,p.2)⟩):=id rfl
theorem Gg:ay env=.ok ([],env):=id rfl
theorem EN:ag fo fs env=Res.bnd (fo env) (f:=⟨fun p=>Res.bnd (fs p.2) (f:=⟨fun q=>.ok (p.1 :: q.1,q.2)⟩)⟩):=id rfl
theorem J9:bP env=.ok ([],env):=id rfl
theorem fD:aI f fd env=Res.bnd (f env) (f:=⟨fun p=>Res.bnd (fd p.2) (f:=⟨fun q=>.ok (p.1.2 :: q.1,q.2)⟩)⟩):=id rfl
theorem Lg:EU env (.val d)=.ok d:=id rfl
theorem Lh:EU env (.var i)=match env[i]? with | some (some r)=>if wL r.1 then .ok r.2 else .bad | _=>.bad:=id rfl
theorem Ka:eY env (.val d)=.ok d:=id rfl
theorem Kb:eY env (.var i)=match env[i]? with | some (some r)=>.ok r.2 | _=>.bad:=id rfl
theorem Kc:oM env []=.ok []:=id rfl
theorem IL (o:Opd) (os:List Opd):oM env (o :: os)=Res.bnd (EU env o) (f:=⟨fun d=>Res.bnd (oM env os) (f:=⟨fun ds=>.ok (d :: ds)⟩)⟩):=id rfl
theorem JA:kS env []=.ok []:=id rfl
theorem Fc (o:Opd) (os:List Opd):kS env (o :: os)=Res.bnd (eY env o) (f:=⟨fun d=>Res.bnd (kS env os) (f:=⟨fun ds=>.ok (d :: ds)⟩)⟩):=id rfl
theorem Kd:wL .f=true:=id rfl
theorem Ke:wL (.l .f)=true:=id rfl
theorem Kf:wL .d=true:=id rfl
theorem GU:az op fo Nh env=Res.bnd (fo env) (f:=⟨fun p=>Res.bnd (Nh p.2) (f:=⟨fun q=>Res.bnd (EU q.2 p.1) (f:=⟨fun a=>Res.bnd (EU q.2 q.1) (f:=⟨fun b=>Res.bnd (op a b) (f:=⟨fun r=>.ok (r,q.2)⟩)⟩)⟩)⟩)⟩):=id rfl
theorem mz:bo op fo Nh env=Res.bnd (fo env) (f:=⟨fun p=>Res.bnd (Nh p.2) (f:=⟨fun q=>Res.bnd (eY q.2 p.1) (f:=⟨fun a=>Res.bnd (eY q.2 q.1) (f:=⟨fun b=>Res.bnd (op a b) (f:=⟨fun r=>.ok (r,q.2)⟩)⟩)⟩)⟩)⟩):=id rfl
theorem Mu:E1 f env=Res.bnd (f env) (f:=⟨fun p=>match p.1.2 with | .bl k=>.ok (k,p.2) | _=>.bad⟩):=id rfl
theorem Li:uQ c c' env=Res.bnd (c env) (f:=⟨fun p=>if p.1 then c' p.2 else .ok (false,p.2)⟩):=id rfl
theorem Mv:Lc c c' env=Res.bnd (c env) (f:=⟨fun p=>if p.1 then .ok (true,p.2) else c' p.2⟩):=id rfl
theorem Lj:yc c env=Res.bnd (c env) (f:=⟨fun p=>.ok (!p.1,p.2)⟩):=id rfl
theorem Mw:L9 f g env=Res.bnd (f env) (f:=⟨fun p=>match p.1.2 with | .bl true=>.ok ((.f,.bl true),p.2) | .bl false=>g p.2 | _=>.bad⟩):=id rfl
theorem Hx:aY F fs env=Res.bnd (fs env) (f:=⟨fun p=>Res.bnd (oM p.2 p.1) (f:=⟨fun ds=>Res.bnd (F ds) (f:=⟨fun r=>.ok (r,p.2)⟩)⟩)⟩):=id rfl
theorem GV:cA F fs env=Res.bnd (fs env) (f:=⟨fun p=>Res.bnd (kS p.2 p.1) (f:=⟨fun ds=>Res.bnd (F ds) (f:=⟨fun r=>.ok (r,if bJ r.1 r.2 then p.2 else p.2.map frz)⟩)⟩)⟩):=id rfl
theorem Hy:jz fd env=Res.bnd (fd env) (f:=⟨fun p=>if p.1.length<=1000 then .ok ((.f,.tup p.1),p.2) else .bad⟩):=id rfl
theorem Ba:lZ fd env=Res.bnd (fd env) (f:=⟨fun p=>if p.1.length<=1000 then .ok ((.l .f,.lst p.1),p.2) else .bad⟩):=id rfl
theorem Kg:vN env=.ok (none,env):=id rfl
theorem Kh:l5 f env=Res.bnd (f env) (f:=⟨fun p=>match p.1.2 with | .int i=>.ok (some i,p.2) | _=>.bad⟩):=id rfl
theorem Lk:qi i f env=if tG env i then (Res.bnd (f env) (f:=⟨fun (p:R×PV.Env)=>match p.2[i]? with
 | some (some (.l .f,.lst ds))=>if ds.length < sizeLine then .ok ((.f,.non),p.2.set i (some (.l .f,.lst (ds++[p.1.2])))) else .bad
 | _=>.bad⟩)) else .bad:=id rfl
theorem Ki:tG env i=match env[i]? with | some (some (_,.lst _))=>true | _=>false:=id rfl
theorem Mx:N2 T fo env=Res.bnd (fo env) (f:=⟨fun p=>Res.bnd (eY p.2 p.1) (f:=⟨fun d=>.ok ((.f,.bl (wU T d)),p.2)⟩)⟩):=id rfl
theorem Kj:yj f g env=Res.bnd (f env) (f:=⟨fun p=>Res.bnd (g p.2) (f:=⟨fun q=>match (jX p.1.2).bind cF,q.1.2 with | some ns,.int d=>.ok ((.f,.int (NX.maxD ns d)),q.2) | _,_=>.bad⟩)⟩):=id rfl
theorem Ll (gg:List Nat->List D->Res R):CN gg fo fs env=Res.bnd (fo env) (f:=⟨fun p=>match EU p.2 p.1 with
 | .ok (.str l)=>Res.bnd (fs p.2) (f:=⟨fun q=>Res.bnd (oM q.2 q.1) (f:=⟨fun ds=>Res.bnd (gg l ds) (f:=⟨fun r=>.ok (r,q.2)⟩)⟩)⟩)
 | _=>.bad⟩):=id rfl
theorem Kk (ix:List (Option Nat)):cu fi ix a c f env=Res.bnd (fi env) (f:=⟨fun p=>Res.bnd (b5 a c f p.1 (dZ ix p.2)) (f:=⟨fun ds=>if ds.length<=sizeLine then .ok ((.l .f,.lst ds),if flatDs ds then p.2 else p.2.map frz) else .bad⟩)⟩):=id rfl
theorem Iu:dZ [] env=[]:=id rfl
theorem Iv (ix:List (Option Nat)):dZ (none :: ix) env=none :: dZ ix env:=id rfl
theorem Iw (ix:List (Option Nat)):dZ (some i :: ix) env=(match env[i]? with | some (some r)=>some (O.f,r.2) | _=>none) :: dZ ix env:=id rfl
theorem Bb:dy env=.ok (true,env):=id rfl
theorem qx (ds:List D):b5 a c f (d :: ds) env=Res.bnd (a d env) (f:=⟨fun e=>Res.bnd (c e) (f:=⟨fun p=>if p.1 then (Res.bnd (f p.2) (f:=⟨fun q=>Res.bnd (b5 a c f ds q.2) (f:=⟨fun rs=>.ok (q.1.2 :: rs)⟩)⟩)) else b5 a c f ds p.2⟩)⟩):=id rfl
theorem Bc:Ar f env=Res.bnd (f env) (f:=⟨fun p=>match p.1.2 with | .lst ds=>.ok (ds,p.2) | _=>.bad⟩):=id rfl
theorem ug:fM f env=Res.bnd (f env) (f:=⟨fun p=>match p.1.2 with | .tup ds=>.ok (ds,p.2) | _=>.bad⟩):=id rfl
theorem uh:fN f env=Res.bnd (f env) (f:=⟨fun p=>match p.1.2 with | .str l=>.ok (l.map fun c=>.str [c],p.2) | _=>.bad⟩):=id rfl
theorem pC:Fj fi fj env=match fi env with | .ok a=>.ok a | _=>fj env:=by
 unfold Fj
 cases fi env <;> rfl
theorem Lm:Fj (Ar f) (Fj (fM f) (fN f)) env=Res.bnd (f env) (f:=⟨fun p=>match p.1.2 with
 | .lst ds=>.ok (ds,p.2)
 | .tup ds=>.ok (ds,p.2)
 | .str l=>.ok (l.map fun c=>.str [c],p.2)
 | _=>.bad⟩):=by
 rw [pC,pC,Bc,ug,uh]
 cases f env with
 | ok p=>
  obtain ⟨⟨o,d⟩,e⟩:=p
  cases d <;> rfl
 | exc c=>rfl
 | bad=>rfl
theorem Kl:Fj (gM i) (Fj (fM (aJ i)) (fN (aJ i))) env=match env[i]? with
 | some (some (_,.lst ds))=>.ok (ds,env)
 | some (some (o,.tup ds))=>.ok (ds,env.set i (some (fz o,.tup ds)))
 | some (some (o,.str l))=>.ok (l.map fun c=>.str [c],env.set i (some (fz o,.str l)))
 | _=>.bad:=by
 rw [pC,pC,ug,uh,IK]
 unfold gM
 cases env[i]? with
 | none=>rfl
 | some r=>
  cases r with
  | none=>rfl
  | some r=>
   obtain ⟨o,d⟩:=r
   cases d <;> rfl
theorem IX:dk fo env=Res.bnd (fo env) (f:=⟨fun p=>Res.bnd (EU p.2 p.1) (f:=⟨fun d=>match d with
 | .int j=>if -4611686018427387904<=j/\j < 4611686018427387904 then .ok ((List.range j.toNat).map fun (k:Nat)=>D.int (k:Int),p.2) else .bad
 | _=>.bad⟩)⟩):=id rfl
theorem mB (k1 k2:Bool):rg k1 k2 fs env=Res.bnd (fs env) (f:=⟨fun p=>match p.1 with
 | [.val d1,.val d2]=>Res.bnd (iT k1 d1) (f:=⟨fun a=>Res.bnd (iT k2 d2) (f:=⟨fun b=>.ok ((a.zip b).map fun z=>D.tup [z.1,z.2],p.2)⟩)⟩)
 | _=>.bad⟩):=id rfl
theorem kC:au i d env=if i < env.length then .ok (env.set i (some (.f,d))) else .bad:=id rfl
theorem Km:cC [] env=.ok env:=id rfl
theorem Fn (ds:List D):aB a as (d :: ds) env=Res.bnd (a d env) (f:=⟨fun e=>as ds e⟩):=id rfl
theorem Iy (ds:List D):gH n as (.tup ds) env=if ds.length=n then as ds env else .bad:=id rfl
theorem GW:sSeq s t env=Res.bnd (s env) (f:=⟨fun o=>match o with | .nx e=>t e | o=>.ok o⟩):=id rfl
theorem Kn:dC env=.ok (.nx env):=id rfl
theorem Ko:iq f env=Res.bnd (f env) (f:=⟨fun p=>.ok (.nx p.2)⟩):=id rfl
theorem Ln:dI f env=Res.bnd (f env) (f:=⟨fun p=>.ok (.rt p.1)⟩):=id rfl
theorem My:Gq c s t env=Res.bnd (c env) (f:=⟨fun p=>if p.1 then s p.2 else t p.2⟩):=id rfl
theorem Lo:lV fi a s env=Res.bnd (fi env) (f:=⟨fun p=>jy a s p.1 p.2⟩):=id rfl
theorem kF (ds:List D):jy a s (d :: ds) env=Res.bnd (a d env) (f:=⟨fun e=>Res.bnd (s e) (f:=⟨fun o=>match o with
 | .nx e=>jy a s ds e
 | .ct e=>jy a s ds e
 | .bk e=>.ok (.nx e)
 | .rt r=>.ok (.rt r)⟩)⟩):=id rfl
theorem iM:cY c s (n + 1) env=Res.bnd (c env) (f:=⟨fun p=>if p.1 then (Res.bnd (s p.2) (f:=⟨fun o=>match o with
  | .nx e=>cY c s n e
  | .ct e=>cY c s n e
  | .bk e=>.ok (.nx e)
  | .rt r=>.ok (.rt r)⟩)) else .ok (.nx p.2)⟩):=id rfl
theorem Lp:BY i f g env=Res.bnd (g env) (f:=⟨fun (p:R×PV.Env)=>Res.bnd (f p.2) (f:=⟨fun (q:R×PV.Env)=>match p.2[i]?,q.2[i]? with
 | some (some _),some (some (.d,.dct tk ks vs))=>if eQ tk q.1.2 && decide (ks.length < sizeLine) then .ok (.nx (q.2.set i (some (.d,.dct tk (rj ks vs q.1.2 p.1.2).1 (rj ks vs q.1.2 p.1.2).2)))) else .bad
 | _,_=>.bad⟩)⟩):=id rfl
theorem Lq:AO f a env=Res.bnd (f env) (f:=⟨fun p=>Res.bnd (a p.1.2 p.2) (f:=⟨fun e=>.ok (.nx e)⟩)⟩):=id rfl
theorem aU (ds:List D) (nn:Nat) (h:ds.length=n):fBody n nn s ds=Res.bnd (s (ds.map (fun d=>some (O.f,d))++List.replicate nn none)) (f:=⟨fun o=>match o with
 | .rt r=>.ok r
 | .nx _=>.ok (.f,.non)
 | _=>.bad⟩):=by
 unfold fBody
 rw [if_pos h]
 all_goals cases s (ds.map (fun d=>some (O.f,d))++List.replicate nn none) with
 | ok o=>cases o <;> rfl
 | exc c=>rfl
 | bad=>rfl
end
theorem line_le {n:Nat} (h:n<=16777216):n<=sizeLine:=by rw [line_eq];exact h
section
variable (a b:Int) (x y:List Nat) (p q:Bool) (ds es:List D)
theorem CW:GF (.int a) (.int b)=.ok (.f,.bl (a == b)):=by simp only [GF,plainD,Er,Bool.and_self,if_true]
theorem CY:GF (.str x) (.str y)=.ok (.f,.bl (x == y)):=by simp only [GF,plainD,Er,Bool.and_self,if_true]
theorem CZ:HL (.int a) (.int b)=.ok (.f,.bl (!(a == b))):=by simp only [HL,plainD,Er,Bool.and_self,if_true]
theorem Bd:nI (.int a) (.int b)=.ok (.f,.int (a - b)):=id rfl
theorem yI:gL (.int a) (.int b)=if 0 < b/\b < 1073741824 then .ok (.f,.int (a / b)) else .bad:=id rfl
theorem Be:jc (.int a) (.int b)=if 0 < b then .ok (.f,.int (a % b)) else .bad:=id rfl
theorem Bf:zm (.int a) (.int b)=if 0<=b/\b<=1000000/\a.natAbs < 2 ^ 64 then .ok (.f,.int (a ^ b.toNat)) else .bad:=id rfl
theorem C0:IW (.int a) (.int b)=.ok (.f,.bl (decide (a < b))):=id rfl
theorem C1:Nb (.int a) (.int b)=.ok (.f,.bl (decide (b < a))):=id rfl
theorem C2:Nc (.int a) (.int b)=.ok (.f,.bl (decide (b<=a))):=id rfl
theorem Bg:mf [.lst ds]=.ok (.f,.int ds.length):=id rfl
theorem Bh:mf [.tup ds]=.ok (.f,.int ds.length):=id rfl
theorem yJ:tH [.tup ds]=.ok (.l .f,.lst ds):=id rfl
theorem vW:cE [.lst ds]=.ok (.f,.tup ds):=id rfl
theorem Bi:zp [.bl p]=.ok (.f,.int (if p then 1 else 0)):=id rfl
theorem C3:Eu (.lst ds) (.int a)=match E6 ds a with | some d=>.ok (.f,d) | none=>.bad:=id rfl
theorem C4:Eu (.tup ds) (.int a)=match E6 ds a with | some d=>.ok (.f,d) | none=>.bad:=id rfl
theorem C5:Eu (.str x) (.int a)=match E6 x a with | some c=>.ok (.f,.str [c]) | none=>.bad:=id rfl
theorem Bj:maxD [.int a,.int b]=.ok (.f,.int (if a < b then b else a)):=id rfl
theorem Bk (bs:List Bool):Ay [.lst (bs.map D.bl)]=.ok (.f,.bl (bs.all id)):=by
 unfold Ay
 show (match kU (bs.map D.bl) with | some bs=>_ | none=>_)=_
 rw [nJ]
theorem Bl:isnO (.bl p) (.bl q)=.ok (.f,.bl (!(p == q))):=id rfl
theorem at0 {α:Type} (d:α) (l:List α):E6 (d :: l) 0=some d:=by
 have:=dF (xs:=d :: l) (j:=0) (v:=d) rfl
 simpa using this
theorem at1 {α:Type} (c d:α) (l:List α):E6 (c :: d :: l) 1=some d:=by
 have:=dF (xs:=c :: d :: l) (j:=1) (v:=d) rfl
 simpa using this
end
theorem En (l:List Int):flatDs (l.map D.int)=true:=by
 rw [bq,List.all_map,List.all_eq_true]
 intro b _
 rfl
theorem mC (l:List Bool):flatDs (l.map D.bl)=true:=by
 rw [bq,List.all_map,List.all_eq_true]
 intro b _
 rfl
theorem flat_strs (l:List (List Nat)):flatDs (l.map D.str)=true:=by
 rw [bq,List.all_map,List.all_eq_true]
 intro b _
 rfl
theorem yK (d:D):bJ .f d=cD d:=by rw [bJ]
theorem vX (ds:List D):bJ (.l .f) (.lst ds)=flatDs ds:=by rw [bJ,lX]
theorem gJ (i:Int):cD (.int i)=true:=by rw [cD];all_goals simp
theorem yL (i:Bool):cD (.bl i)=true:=by rw [cD];all_goals simp
theorem bN (ds:List D):cD (.tup ds)=flatDs ds:=by rw [cD]
theorem lB (n:Nat) (l:List Int):plainDs n (l.map D.int)=true:=by
 induction l with
 | nil=>rfl
 | cons a l ih=>rw [List.map_cons,plainDs,ih,plainD];all_goals simp
theorem rH (n:Nat) (l:List (List Nat)):plainDs n (l.map D.str)=true:=by
 induction l with
 | nil=>rfl
 | cons a l ih=>rw [List.map_cons,plainDs,ih,plainD];all_goals simp
theorem eqDs_ints:∀ a b:List Int,iW (a.map D.int) (b.map D.int)=(a == b)
 | [],[]=>by simp [iW]
 | [],_ :: _=>by simp [iW]
 | _ :: _,[]=>by simp [iW]
 | a :: r,b :: t=>by
  rw [List.map_cons,List.map_cons,iW,Er,eqDs_ints r t,Bool.eq_iff_iff]
  simp
theorem vY (a:Int) (l:List Int):rO (.int a) (l.map D.int)=decide (a∈l):=by
 unfold rO
 rw [List.any_map,Bool.eq_iff_iff,List.any_eq_true,decide_eq_true_eq]
 constructor
 ·rintro ⟨x,hx,e⟩
  have e:Er (.int x) (.int a)=true:=e
  rw [Er,beq_iff_eq] at e
  rw [<-e]
  exact hx
 ·intro h
  refine ⟨a,h,?_⟩
  show Er (.int a) (.int a)=true
  rw [Er,beq_self_eq_true]
theorem vZ (a:List Nat) (l:List (List Nat)):rO (.str a) (l.map D.str)=decide (a∈l):=by
 unfold rO
 rw [List.any_map,Bool.eq_iff_iff,List.any_eq_true,decide_eq_true_eq]
 constructor
 ·rintro ⟨x,hx,e⟩
  have e:Er (.str x) (.str a)=true:=e
  rw [Er,beq_iff_eq] at e
  rw [<-e]
  exact hx
 ·intro h
  refine ⟨a,h,?_⟩
  show Er (.str a) (.str a)=true
  rw [Er,beq_self_eq_true]
theorem Bm (a:Int) (l:List Int):Jc (.int a) (.lst (l.map D.int))=.ok (.f,.bl (decide (a∈l))):=by
 unfold Jc
 dsimp only
 rw [lB,vY,plainD]
 all_goals simp
theorem yM (a:Int) (l:List Int):uR (.int a) (.lst (l.map D.int))=.ok (.f,.bl (!decide (a∈l))):=by
 unfold uR
 rw [Bm]
 rfl
theorem qy {α:Type} {a:FG} {c:FT} {f:FX} {e:α->D} {p:α->Bool} {r:α->D} (I:PV.Env->Prop) (l:List α)
  (h:∀ x∈l,∀ env,I env->∃ Ej,a (e x) env=.ok Ej/\∃ Ep,c Ej=.ok (p x,Ep)/\if p x then ∃ o E9,f Ep=.ok ((o,r x),E9)/\I E9 else I Ep):∀ env,I env->b5 a c f (l.map e) env=.ok ((l.filter p).map r):=by
 induction l with
 | nil=>intro env _;rfl
 | cons x l ih=>
  intro env hI
  obtain ⟨Ej,h1,Ep,h2,h3⟩:=h x List.mem_cons_self env hI
  have ih:=ih fun y hy=>h y (List.mem_cons_of_mem _ hy)
  rw [List.map_cons,qx,h1,EI,h2,EI]
  cases hp:p x with
  | true=>
   rw [hp] at h3
   obtain ⟨o,E9,h4,h5⟩:=h3
   rw [if_pos rfl,h4,EI,ih E9 h5,EI,List.filter_cons_of_pos hp]
   rfl
  | false=>
   rw [hp] at h3
   rw [if_neg Bool.false_ne_true,ih Ep h3,List.filter_cons_of_neg (by rw [hp];exact Bool.false_ne_true)]
theorem aW {α:Type} {a:FG} {f:FX} {e:α->D} {r:α->D} (I:PV.Env->Prop) (l:List α)
  (h:∀ x∈l,∀ env,I env->∃ Ej,a (e x) env=.ok Ej/\∃ o E9,f Ej=.ok ((o,r x),E9)/\I E9):∀ env,I env->b5 a dy f (l.map e) env=.ok (l.map r):=by
 induction l with
 | nil=>intro env _;rfl
 | cons x l ih=>
  intro env hI
  obtain ⟨Ej,h1,o,E9,h4,h5⟩:=h x List.mem_cons_self env hI
  have ih:=ih fun y hy=>h y (List.mem_cons_of_mem _ hy)
  rw [List.map_cons,qx,h1,EI,Bb,EI,if_pos rfl,h4,EI,ih E9 h5]
  rfl
theorem yN {a:FG} {g:FS} (P:Nat->PV.Env->Prop) (ds:List D) (h:∀ i d env,ds[i]?=some d->P i env->∃ Ej,a d env=.ok Ej/\∃ Ep,(g Ej=.ok (.nx Ep)\/g Ej=.ok (.ct Ep))/\P (i + 1) Ep) :
  ∀ env,P 0 env->∃ env',jy a g ds env=.ok (.nx env')/\P ds.length env':=by
 have key:∀ (l:List D) (k:Nat) (env:PV.Env),(∀ i d,l[i]?=some d->ds[k + i]?=some d)->P k env->∃ env',jy a g l env=.ok (.nx env')/\P (k + l.length) env':=by
  intro l
  induction l with
  | nil=>exact fun k env _ hp=>⟨env,rfl,hp⟩
  | cons d l ih=>
   intro k env hd hp
   obtain ⟨Ej,h1,Ep,h2,h3⟩:=h k d env (hd 0 d rfl) hp
   obtain ⟨env',h4,h5⟩:=ih (k + 1) Ep (fun i d e=>by have:=hd (i + 1) d (by simpa using e);rw [show k + 1 + i=k + (i + 1) by lia];exact this) h3
   refine ⟨env',?_,by rw [List.length_cons,show k + (l.length + 1)=k + 1 + l.length by lia];exact h5⟩
   rw [kF,h1,EI]
   rcases h2 with h2 | h2
   ·rw [h2,EI]
    exact h4
   ·rw [h2,EI]
    exact h4
 intro env hp
 obtain ⟨env',h1,h2⟩:=key ds 0 env (fun i d e=>by rw [Nat.zero_add];exact e) hp
 exact ⟨env',h1,by rw [Nat.zero_add] at h2;exact h2⟩
section
variable (env:PV.Env) (fo:FO) (fp Et:FP) (a b:Int) (ds:List D) (x:List Nat)
theorem Lr:AS fo fp Et env=Res.bnd (fo env) (f:=⟨fun p=>Res.bnd (fp p.2) (f:=⟨fun q=>Res.bnd (Et q.2) (f:=⟨fun t=>Res.bnd (EU t.2 p.1) (f:=⟨fun d=>Res.bnd (Mm d q.1 t.1) (f:=⟨fun r=>.ok (r,t.2)⟩)⟩)⟩)⟩)⟩):=id rfl
theorem Bn (lo hi:Option Int):Mm (.lst ds) lo hi=.ok (.l .f,.lst (jA ds lo hi)):=id rfl
theorem Bo (lo hi:Option Int) (h:HT.sIx ds.length 0 lo=0/\HT.sIx ds.length ds.length hi=ds.length):jA ds lo hi=ds:=by
 unfold jA
 rw [h.1,h.2,List.drop_zero,Nat.sub_zero,List.take_of_length_le (Nat.le_refl _)]
theorem uk:yq (.int a) (.int b)=if cB a || cB b then .ok (.f,.int (a * b)) else if a.natAbs < 2 ^ 1000/\b.natAbs < 2 ^ 1000 then .ok (.f,.int (a * b)) else .bad:=id rfl
end
section
variable (env:PV.Env) (fo:FO) (fs:FOs) (f g:FX) (a b c:Int) (ds es:List D) (x y:List Nat)
theorem Ls (gg:List D->List D->Res R):vS gg fo fs env=Res.bnd (fo env) (f:=⟨fun p=>Res.bnd (EU p.2 p.1) (f:=⟨fun d=>match d with
 | .tup _=>Res.bnd (fs p.2) (f:=⟨fun q=>Res.bnd (EU q.2 p.1) (f:=⟨fun d2=>match d2 with
  | .tup l=>Res.bnd (oM q.2 q.1) (f:=⟨fun ds=>Res.bnd (gg l ds) (f:=⟨fun r=>.ok (r,q.2)⟩)⟩)
  | _=>.bad⟩)⟩)
 | _=>.bad⟩)⟩):=id rfl
theorem Dv (d:D):(∃ l,iT true d=.ok l/\iT false d=.bad/\jX d=some l)\/(∃ l,iT true d=.bad/\iT false d=.ok l/\jX d=some l)\/(iT true d=.bad/\iT false d=.bad/\jX d=none):=by
 cases d with
 | lst l=>exact .inl ⟨l,rfl,rfl,rfl⟩
 | tup l=>exact .inr (.inl ⟨l,rfl,rfl,rfl⟩)
 | _=>exact .inr (.inr ⟨rfl,rfl,rfl⟩)
noncomputable def v5 (k1 k2:Bool) (e:PV.Env) (d1 d2:D):Res (List D×PV.Env):=(iT k1 d1).bind fun a=>(iT k2 d2).bind fun b=>.ok ((a.zip b).map fun z=>D.tup [z.1,z.2],e)
noncomputable def C6 (e:PV.Env) (d1 d2:D):Res (List D×PV.Env):=match jX d1,jX d2 with | some a,some b=>.ok ((a.zip b).map fun z=>D.tup [z.1,z.2],e) | _,_=>.bad
noncomputable def KI (a b:Res (List D×PV.Env)):Res (List D×PV.Env):=match a with | .ok a=>.ok a | _=>b
noncomputable def uS (g:D->D->Res (List D×PV.Env)) (os:List Opd):Res (List D×PV.Env):=match os with | [.val d1,.val d2]=>g d1 d2 | _=>.bad
theorem pD (g h:D->D->Res (List D×PV.Env)) (os:List Opd):KI (uS g os) (uS h os)=uS (fun a b=>KI (g a b) (h a b)) os:=by
 unfold uS
 split <;> rfl
theorem yO (e:PV.Env) (a b:D):KI (v5 true true e a b) (KI (v5 true false e a b) (KI (v5 false true e a b) (v5 false false e a b)))=C6 e a b:=by
 unfold v5 C6
 rcases Dv a with ⟨l,h1,h2,h3⟩ | ⟨l,h1,h2,h3⟩ | ⟨h1,h2,h3⟩ <;> rcases Dv b with ⟨m,i1,i2,i3⟩ | ⟨m,i1,i2,i3⟩ | ⟨i1,i2,i3⟩ <;> rw [h1,h2,h3,i1,i2,i3] <;> rfl
theorem Kp:nS fs env=Res.bnd (fs env) (f:=⟨fun p=>match p.1 with
 | [.val d1,.val d2]=>(match jX d1,jX d2 with | some a,some b=>.ok ((a.zip b).map fun z=>D.tup [z.1,z.2],p.2) | _,_=>.bad)
 | _=>.bad⟩):=by
 unfold nS
 rw [pC,pC,pC,mB,mB,mB,mB]
 cases fs env with
 | ok p=>
  show KI (uS (v5 true true p.2) p.1) (KI (uS (v5 true false p.2) p.1) (KI (uS (v5 false true p.2) p.1) (uS (v5 false false p.2) p.1)))=uS (C6 p.2) p.1
  rw [pD,pD,pD]
  exact congrArg (fun g=>uS g p.1) (funext fun a=>funext fun b=>yO p.2 a b)
 | _=>rfl
theorem Kq:jX (.lst ds)=some ds:=id rfl
theorem Kr:jX (.tup ds)=some ds:=id rfl
theorem Ks (i:Nat):rl i f g env=Res.bnd (g env) (f:=⟨fun (p:R×PV.Env)=>Res.bnd (f p.2) (f:=⟨fun (q:R×PV.Env)=>match p.2[i]?,q.2[i]? with
 | some (some _),some (some (.l .f,.lst ds))=>(match q.1.2 with
  | .int k=>(match ixN ds.length k with
   | some j=>.ok (.nx (q.2.set i (some (.l .f,.lst (ds.set j p.1.2)))))
   | none=>.bad)
  | _=>.bad)
 | _,_=>.bad⟩)⟩):=id rfl
theorem yP:jI (.int a) (.int b)=yq (.int a) (.int b):=id rfl
theorem JB:tX f g env=Res.bnd (f env) (f:=⟨fun p=>Res.bnd (g p.2) (f:=⟨fun q=>if eQ false p.1.2 then .ok ((.d,.dct false [p.1.2] [q.1.2]),q.2) else .bad⟩)⟩):=id rfl
theorem Bp (d:D):KH d (.lst ds)=Jc d (.lst ds):=id rfl
theorem yQ (d:D):zr d (.lst ds)=uR d (.lst ds):=id rfl
theorem Bq:eQ false (.int a)=true:=id rfl
theorem Br:eQ false (.str x)=true:=id rfl
theorem yR:dg (.int a) (.int b)=.ok (.f,.int (a + b)):=id rfl
theorem yS:dg (.str x) (.str y)=if x.length + y.length<=sizeLine then .ok (.f,.str (x++y)) else .bad:=id rfl
theorem yT:dg (.lst ds) (.lst es)=if ds.length + es.length<=sizeLine then .ok (.l .f,.lst (ds++es)) else .bad:=id rfl
theorem yU:dg (.tup ds) (.tup es)=if ds.length + es.length<=sizeLine\/ds=[] then .ok (.f,.tup (ds++es)) else .bad:=by
 unfold dg
 cases ds with
 | nil=>rw [if_pos (.inr rfl)];rfl
 | cons d ds=>
  dsimp only
  unfold addD
  dsimp only
  by_cases h:(d :: ds).length + es.length<=sizeLine
  ·rw [if_pos ⟨nofun,h⟩,if_pos (.inl h)]
  ·rw [if_neg (fun z=>h z.2),if_neg (fun z=>z.elim h nofun)]
end
section
variable (env:PV.Env) (f g:FX) (ds ks:List D) (i:Nat)
end
section
variable (env:PV.Env) (f:FX) (fs:FOs) (ds:List D) (i:Nat)
end
noncomputable def pv:=(And.intro @EI (And.intro @Lf (And.intro @IK (And.intro @J8 (And.intro @Fq (And.intro @Gg (And.intro @EN (And.intro @J9 (And.intro @Lg (And.intro @Lh (And.intro @Ka (And.intro @Kb (And.intro @Kc (And.intro @IL (And.intro @JA (And.intro @Fc (And.intro @Kd (And.intro @Ke (And.intro @Kf (And.intro @GU (And.intro @Mu (And.intro @Li (And.intro @Mv (And.intro @Lj (And.intro @Mw (And.intro @Hx (And.intro @GV (And.intro @Hy (And.intro @Lr (And.intro @Kg (And.intro @Kh (And.intro @Lk (And.intro @Ki (And.intro @Mx (And.intro @Kj (And.intro @Ll (And.intro @Kk (And.intro @Iu (And.intro @Iv (And.intro @Iw (And.intro @Lm (And.intro @Kl (And.intro @IX (And.intro @Km (And.intro @Fn (And.intro @Iy (And.intro @GW (And.intro @Kn (And.intro @Ko (And.intro @Ln (And.intro @My (And.intro @Lo (And.intro @Lp (And.intro @Lq (And.intro @List.getElem?_cons_zero.{0} (And.intro @List.getElem?_cons_succ.{0} (And.intro @List.set_cons_zero.{0} (And.intro @List.set_cons_succ.{0} (And.intro @List.length_cons.{0} (And.intro @List.length_nil.{0} (And.intro @List.map_cons.{0,0} (And.intro @List.map_nil.{0,0} (And.intro @List.replicate_succ.{0} (And.intro @List.replicate_zero.{0} (And.intro @List.cons_append.{0} (And.intro @List.nil_append.{0} (And.intro @Nat.zero_add (And.intro @Ls (And.intro @Kp (And.intro @Kq (And.intro @Kr (And.intro @Ks (And.intro @JB (And.intro @Mr (And.intro @Ms (And.intro @Mt @Jz))))))))))))))))))))))))))))))))))))))))))))))))))))))))))))))))))))))))))))
noncomputable def op:=(And.intro @CW (And.intro @CY (And.intro @CZ (And.intro @Bd (And.intro @C0 (And.intro @C1 (And.intro @C2 (And.intro @Bg (And.intro @Bh (And.intro @yJ (And.intro @vW (And.intro @Bi (And.intro @C3 (And.intro @C4 (And.intro @C5 (And.intro @Bn (And.intro @Bj (And.intro @Bl (And.intro @at0 (And.intro @at1 (And.intro @yM (And.intro @Bk (And.intro @yK (And.intro @vX (And.intro @gJ (And.intro @yL (And.intro @En (And.intro @PV.flat_strs (And.intro @bN (And.intro @yR (And.intro @yP (And.intro @Bp (And.intro @yQ (And.intro @Bq @Br))))))))))))))))))))))))))))))))))
noncomputable def put (i:Nat) (r:R) (e:PV.Env):Res Out:=if i < e.length then .ok (.nx (e.set i (some r))) else .bad
theorem oV (n:Nat) (w:PV.Env):(ai n w=.ok (.var n,w))\/(ai n w=.bad/\EU w (.var n)=.bad/\eY w (.var n)=.bad):=by
 unfold ai EU eY
 dsimp only
 cases w[n]? with
 | none=>exact .inr ⟨rfl,rfl,rfl⟩
 | some r=>
  cases r with
  | none=>exact .inr ⟨rfl,rfl,rfl⟩
  | some r=>exact .inl rfl
theorem dV (n:Nat) (w:PV.Env):(∃ d,EU w (.var n)=.ok d)\/EU w (.var n)=.bad:=by
 unfold EU
 dsimp only
 split
 ·split
  ·exact .inl ⟨_,rfl⟩
  ·exact .inr rfl
 ·exact .inr rfl
theorem dA (n:Nat) (w:PV.Env):(∃ d,eY w (.var n)=.ok d)\/eY w (.var n)=.bad:=by
 unfold eY
 dsimp only
 split
 ·exact .inl ⟨_,rfl⟩
 ·exact .inr rfl
section
variable (w:PV.Env) (op:D->D->Res R) (F:List D->Res R) (f g h:FX) (n n' Ni:Nat) (x y:D)
theorem Mz:b9 n f w=Res.bnd (f w) (f:=⟨fun p=>put n p.1 p.2⟩):=id rfl
theorem y_fv:az op (aj f) (ai n) w=Res.bnd (f w) (f:=⟨fun p=>Res.bnd (EU p.2 (.var n)) (f:=⟨fun b=>Res.bnd (op p.1.2 b) (f:=⟨fun r=>.ok (r,p.2)⟩)⟩)⟩):=by
 rw [GU,Fq]
 cases f w with
 | ok p=>
  rw [EI,EI,EI]
  rcases oV n p.2 with e | ⟨e,e1,_⟩
  ·rw [e];rfl
  ·rw [e,e1];rfl
 | exc c=>rfl
 | bad=>rfl
theorem MA:bo op (aj f) (ai n) w=Res.bnd (f w) (f:=⟨fun p=>Res.bnd (eY p.2 (.var n)) (f:=⟨fun b=>Res.bnd (op p.1.2 b) (f:=⟨fun r=>.ok (r,p.2)⟩)⟩)⟩):=by
 rw [mz,Fq]
 cases f w with
 | ok p=>
  rw [EI,EI,EI]
  rcases oV n p.2 with e | ⟨e,_,e1⟩
  ·rw [e];rfl
  ·rw [e,e1];rfl
 | exc c=>rfl
 | bad=>rfl
theorem y_ff:az op (aj f) (aj g) w=Res.bnd (f w) (f:=⟨fun p=>Res.bnd (g p.2) (f:=⟨fun q=>Res.bnd (op p.1.2 q.1.2) (f:=⟨fun r=>.ok (r,q.2)⟩)⟩)⟩):=by
 rw [GU,Fq]
 cases f w with
 | ok p=>
  rw [EI,EI,EI,Fq]
  cases g p.2 <;> rfl
 | exc c=>rfl
 | bad=>rfl
theorem MB:bo op (aj f) (aj g) w=Res.bnd (f w) (f:=⟨fun p=>Res.bnd (g p.2) (f:=⟨fun q=>Res.bnd (op p.1.2 q.1.2) (f:=⟨fun r=>.ok (r,q.2)⟩)⟩)⟩):=by
 rw [mz,Fq]
 cases f w with
 | ok p=>
  rw [EI,EI,EI,Fq]
  cases g p.2 <;> rfl
 | exc c=>rfl
 | bad=>rfl
theorem y_vl:az op (ai n) (aj (aE y)) w=Res.bnd (EU w (.var n)) (f:=⟨fun a=>Res.bnd (op a y) (f:=⟨fun r=>.ok (r,w)⟩)⟩):=by
 rw [GU]
 rcases oV n w with e | ⟨e,e1,_⟩
 ·rw [e];rfl
 ·rw [e,e1];rfl
theorem MC:bo op (ai n) (aj (aE y)) w=Res.bnd (eY w (.var n)) (f:=⟨fun a=>Res.bnd (op a y) (f:=⟨fun r=>.ok (r,w)⟩)⟩):=by
 rw [mz]
 rcases oV n w with e | ⟨e,_,e1⟩
 ·rw [e];rfl
 ·rw [e,e1];rfl
theorem y_vv:az op (ai n) (ai n') w=Res.bnd (EU w (.var n)) (f:=⟨fun a=>Res.bnd (EU w (.var n')) (f:=⟨fun b=>Res.bnd (op a b) (f:=⟨fun r=>.ok (r,w)⟩)⟩)⟩):=by
 rw [GU]
 rcases oV n w with e | ⟨e,e1,_⟩
 ·rw [e,EI]
  rcases oV n' w with e' | ⟨e',e1,_⟩
  ·rw [e'];rfl
  ·rw [e',e1]
   rcases dV n w with ⟨d,e2⟩ | e2 <;> rw [e2] <;> rfl
 ·rw [e,e1];rfl
theorem MD:bo op (ai n) (ai n') w=Res.bnd (eY w (.var n)) (f:=⟨fun a=>Res.bnd (eY w (.var n')) (f:=⟨fun b=>Res.bnd (op a b) (f:=⟨fun r=>.ok (r,w)⟩)⟩)⟩):=by
 rw [mz]
 rcases oV n w with e | ⟨e,_,e1⟩
 ·rw [e,EI]
  rcases oV n' w with e' | ⟨e',_,e1⟩
  ·rw [e'];rfl
  ·rw [e',e1]
   rcases dA n w with ⟨d,e2⟩ | e2 <;> rw [e2] <;> rfl
 ·rw [e,e1];rfl
theorem y_c1:aY F (ag (ai n) ay) w=Res.bnd (EU w (.var n)) (f:=⟨fun d=>Res.bnd (F [d]) (f:=⟨fun r=>.ok (r,w)⟩)⟩):=by
 rw [Hx,EN]
 rcases oV n w with e | ⟨e,e1,_⟩
 ·rw [e,EI,Gg,EI,EI,IL]
  rcases dV n w with ⟨d,e2⟩ | e2 <;> rw [e2] <;> rfl
 ·rw [e,e1];rfl
theorem y_cf:aY F (ag (aj f) ay) w=Res.bnd (f w) (f:=⟨fun p=>Res.bnd (F [p.1.2]) (f:=⟨fun r=>.ok (r,p.2)⟩)⟩):=by
 rw [Hx,EN,Fq]
 cases f w <;> rfl
theorem y_u1:cA F (ag (ai n) ay) w=Res.bnd (eY w (.var n)) (f:=⟨fun d=>Res.bnd (F [d]) (f:=⟨fun r=>.ok (r,if bJ r.1 r.2 then w else w.map frz)⟩)⟩):=by
 rw [GV,EN]
 rcases oV n w with e | ⟨e,_,e1⟩
 ·rw [e,EI,Gg,EI,EI,Fc]
  rcases dA n w with ⟨d,e2⟩ | e2 <;> rw [e2] <;> rfl
 ·rw [e,e1];rfl
theorem y_uf:cA F (ag (aj f) ay) w=Res.bnd (f w) (f:=⟨fun p=>Res.bnd (F [p.1.2]) (f:=⟨fun r=>.ok (r,if bJ r.1 r.2 then p.2 else p.2.map frz)⟩)⟩):=by
 rw [GV,EN,Fq]
 cases f w <;> rfl
theorem y_u2:cA F (ag (ai n) (ag (ai n') ay)) w=Res.bnd (eY w (.var n)) (f:=⟨fun d=>Res.bnd (eY w (.var n')) (f:=⟨fun d'=>Res.bnd (F [d,d']) (f:=⟨fun r=>.ok (r,if bJ r.1 r.2 then w else w.map frz)⟩)⟩)⟩):=by
 rw [GV,EN]
 rcases oV n w with e | ⟨e,_,e1⟩
 ·rw [e,EI,EN]
  rcases oV n' w with e' | ⟨e',_,K5⟩
  ·rw [e',EI,Gg,EI,EI,EI,Fc,Fc]
   rcases dA n w with ⟨d,e2⟩ | e2 <;> rw [e2] <;> rcases dA n' w with ⟨d',e3⟩ | e3 <;> rw [e3] <;> rfl
  ·rw [e',K5]
   rcases dA n w with ⟨d,e2⟩ | e2 <;> rw [e2] <;> rfl
 ·rw [e,e1];rfl
theorem y_u3:cA F (ag (ai n) (ag (ai n') (ag (ai Ni) ay))) w=Res.bnd (eY w (.var n)) (f:=⟨fun d=>Res.bnd (eY w (.var n')) (f:=⟨fun d'=>Res.bnd (eY w (.var Ni)) (f:=⟨fun ON=>Res.bnd (F [d,d',ON]) (f:=⟨fun r=>.ok (r,if bJ r.1 r.2 then w else w.map frz)⟩)⟩)⟩)⟩):=by
 rw [GV,EN]
 rcases oV n w with e | ⟨e,_,e1⟩
 ·rw [e,EI,EN]
  rcases oV n' w with e' | ⟨e',_,K5⟩
  ·rw [e',EI,EN]
   rcases oV Ni w with e'' | ⟨e'',_,e1''⟩
   ·rw [e'',EI,Gg,EI,EI,EI,EI,Fc,Fc,Fc]
    rcases dA n w with ⟨d,e2⟩ | e2 <;> rw [e2] <;> rcases dA n' w with ⟨d',e3⟩ | e3 <;> rw [e3] <;> rcases dA Ni w with ⟨ON,e4⟩ | e4 <;> rw [e4] <;> rfl
   ·rw [e'',e1'']
    rcases dA n w with ⟨d,e2⟩ | e2 <;> rw [e2] <;> rcases dA n' w with ⟨d',e3⟩ | e3 <;> rw [e3] <;> rfl
  ·rw [e',K5]
   rcases dA n w with ⟨d,e2⟩ | e2 <;> rw [e2] <;> rfl
 ·rw [e,e1];rfl
theorem y_t1:jz (aI f bP) w=Res.bnd (f w) (f:=⟨fun p=>.ok ((.f,.tup [p.1.2]),p.2)⟩):=by
 rw [Hy,fD]
 cases f w <;> rfl
theorem y_t2:jz (aI f (aI g bP)) w=Res.bnd (f w) (f:=⟨fun p=>Res.bnd (g p.2) (f:=⟨fun q=>.ok ((.f,.tup [p.1.2,q.1.2]),q.2)⟩)⟩):=by
 rw [Hy,fD]
 cases f w with
 | ok p=>
  rw [EI,EI,fD]
  cases g p.2 <;> rfl
 | exc c=>rfl
 | bad=>rfl
theorem y_t3:jz (aI f (aI g (aI h bP))) w=Res.bnd (f w) (f:=⟨fun p=>Res.bnd (g p.2) (f:=⟨fun q=>Res.bnd (h q.2) (f:=⟨fun t=>.ok ((.f,.tup [p.1.2,q.1.2,t.1.2]),t.2)⟩)⟩)⟩):=by
 rw [Hy,fD]
 cases f w with
 | ok p=>
  rw [EI,EI,fD]
  cases g p.2 with
  | ok q=>
   rw [EI,EI,fD]
   cases h q.2 <;> rfl
  | exc c=>rfl
  | bad=>rfl
 | exc c=>rfl
 | bad=>rfl
theorem y_l0:lZ bP w=.ok ((.l .f,.lst []),w):=id rfl
theorem y_l1:lZ (aI f bP) w=Res.bnd (f w) (f:=⟨fun p=>.ok ((.l .f,.lst [p.1.2]),p.2)⟩):=by
 rw [Ba,fD]
 cases f w <;> rfl
end
section
variable (a b c d e g h i j k l m s t v u:Option R) (z:PV.Env) (r:R) (o:O) (x:D) {ρ:Type}
theorem y_o0 (q:Opd×PV.Env->Res ρ):Res.bnd (f:=⟨q⟩) (ai 0 (some r :: z))=q (.var 0,(some r :: z)):=id rfl
theorem y_d0 (q:D->Res ρ):Res.bnd (f:=⟨q⟩) (EU (some (.f,x) :: z) (.var 0))=q x:=id rfl
theorem y_a0 (q:D->Res ρ):Res.bnd (f:=⟨q⟩) (eY (some r :: z) (.var 0))=q r.2:=id rfl
theorem y_f0 (q:R×PV.Env->Res ρ):Res.bnd (f:=⟨q⟩) (aJ 0 (some (.f,x) :: z))=q ((.f,x),(some (.f,x) :: z)):=id rfl
theorem y_n0 (q:PV.Env->Res ρ):Res.bnd (f:=⟨q⟩) (au 0 x (u :: z))=q (some (.f,x) :: z):=id rfl
theorem y_o1 (q:Opd×PV.Env->Res ρ):Res.bnd (f:=⟨q⟩) (ai 1 (a :: some r :: z))=q (.var 1,(a :: some r :: z)):=id rfl
theorem y_d1 (q:D->Res ρ):Res.bnd (f:=⟨q⟩) (EU (a :: some (.f,x) :: z) (.var 1))=q x:=id rfl
theorem y_e1 (q:D->Res ρ):Res.bnd (f:=⟨q⟩) (EU (a :: some (.l .f,x) :: z) (.var 1))=q x:=id rfl
theorem y_a1 (q:D->Res ρ):Res.bnd (f:=⟨q⟩) (eY (a :: some r :: z) (.var 1))=q r.2:=id rfl
theorem y_f1 (q:R×PV.Env->Res ρ):Res.bnd (f:=⟨q⟩) (aJ 1 (a :: some (.f,x) :: z))=q ((.f,x),(a :: some (.f,x) :: z)):=id rfl
theorem y_n1 (q:PV.Env->Res ρ):Res.bnd (f:=⟨q⟩) (au 1 x (a :: u :: z))=q (a :: some (.f,x) :: z):=id rfl
theorem y_p1:put 1 r (a :: u :: z)=.ok (.nx (a :: some r :: z)):=id rfl
theorem y_o2 (q:Opd×PV.Env->Res ρ):Res.bnd (f:=⟨q⟩) (ai 2 (a :: b :: some r :: z))=q (.var 2,(a :: b :: some r :: z)):=id rfl
theorem y_d2 (q:D->Res ρ):Res.bnd (f:=⟨q⟩) (EU (a :: b :: some (.f,x) :: z) (.var 2))=q x:=id rfl
theorem y_e2 (q:D->Res ρ):Res.bnd (f:=⟨q⟩) (EU (a :: b :: some (.l .f,x) :: z) (.var 2))=q x:=id rfl
theorem y_a2 (q:D->Res ρ):Res.bnd (f:=⟨q⟩) (eY (a :: b :: some r :: z) (.var 2))=q r.2:=id rfl
theorem y_f2 (q:R×PV.Env->Res ρ):Res.bnd (f:=⟨q⟩) (aJ 2 (a :: b :: some (.f,x) :: z))=q ((.f,x),(a :: b :: some (.f,x) :: z)):=id rfl
theorem y_m2 (q:R×PV.Env->Res ρ):Res.bnd (f:=⟨q⟩) (jS 2 (a :: b :: some r :: z))=q (r,(a :: b :: none :: z)):=id rfl
theorem y_n2 (q:PV.Env->Res ρ):Res.bnd (f:=⟨q⟩) (au 2 x (a :: b :: u :: z))=q (a :: b :: some (.f,x) :: z):=id rfl
theorem y_p2:put 2 r (a :: b :: u :: z)=.ok (.nx (a :: b :: some r :: z)):=id rfl
theorem y_o3 (q:Opd×PV.Env->Res ρ):Res.bnd (f:=⟨q⟩) (ai 3 (a :: b :: c :: some r :: z))=q (.var 3,(a :: b :: c :: some r :: z)):=id rfl
theorem y_d3 (q:D->Res ρ):Res.bnd (f:=⟨q⟩) (EU (a :: b :: c :: some (.f,x) :: z) (.var 3))=q x:=id rfl
theorem y_e3 (q:D->Res ρ):Res.bnd (f:=⟨q⟩) (EU (a :: b :: c :: some (.l .f,x) :: z) (.var 3))=q x:=id rfl
theorem y_a3 (q:D->Res ρ):Res.bnd (f:=⟨q⟩) (eY (a :: b :: c :: some r :: z) (.var 3))=q r.2:=id rfl
theorem y_f3 (q:R×PV.Env->Res ρ):Res.bnd (f:=⟨q⟩) (aJ 3 (a :: b :: c :: some (.f,x) :: z))=q ((.f,x),(a :: b :: c :: some (.f,x) :: z)):=id rfl
theorem y_g3 (q:R×PV.Env->Res ρ):Res.bnd (f:=⟨q⟩) (aJ 3 (a :: b :: c :: some (.l o,x) :: z))=q ((.f,x),(a :: b :: c :: some (.f,x) :: z)):=id rfl
theorem y_m3 (q:R×PV.Env->Res ρ):Res.bnd (f:=⟨q⟩) (jS 3 (a :: b :: c :: some r :: z))=q (r,(a :: b :: c :: none :: z)):=id rfl
theorem y_n3 (q:PV.Env->Res ρ):Res.bnd (f:=⟨q⟩) (au 3 x (a :: b :: c :: u :: z))=q (a :: b :: c :: some (.f,x) :: z):=id rfl
theorem y_p3:put 3 r (a :: b :: c :: u :: z)=.ok (.nx (a :: b :: c :: some r :: z)):=id rfl
theorem y_o4 (q:Opd×PV.Env->Res ρ):Res.bnd (f:=⟨q⟩) (ai 4 (a :: b :: c :: d :: some r :: z))=q (.var 4,(a :: b :: c :: d :: some r :: z)):=id rfl
theorem y_d4 (q:D->Res ρ):Res.bnd (f:=⟨q⟩) (EU (a :: b :: c :: d :: some (.f,x) :: z) (.var 4))=q x:=id rfl
theorem y_e4 (q:D->Res ρ):Res.bnd (f:=⟨q⟩) (EU (a :: b :: c :: d :: some (.l .f,x) :: z) (.var 4))=q x:=id rfl
theorem y_a4 (q:D->Res ρ):Res.bnd (f:=⟨q⟩) (eY (a :: b :: c :: d :: some r :: z) (.var 4))=q r.2:=id rfl
theorem y_f4 (q:R×PV.Env->Res ρ):Res.bnd (f:=⟨q⟩) (aJ 4 (a :: b :: c :: d :: some (.f,x) :: z))=q ((.f,x),(a :: b :: c :: d :: some (.f,x) :: z)):=id rfl
theorem y_n4 (q:PV.Env->Res ρ):Res.bnd (f:=⟨q⟩) (au 4 x (a :: b :: c :: d :: u :: z))=q (a :: b :: c :: d :: some (.f,x) :: z):=id rfl
theorem y_p4:put 4 r (a :: b :: c :: d :: u :: z)=.ok (.nx (a :: b :: c :: d :: some r :: z)):=id rfl
theorem y_o5 (q:Opd×PV.Env->Res ρ):Res.bnd (f:=⟨q⟩) (ai 5 (a :: b :: c :: d :: e :: some r :: z))=q (.var 5,(a :: b :: c :: d :: e :: some r :: z)):=id rfl
theorem y_d5 (q:D->Res ρ):Res.bnd (f:=⟨q⟩) (EU (a :: b :: c :: d :: e :: some (.f,x) :: z) (.var 5))=q x:=id rfl
theorem y_e5 (q:D->Res ρ):Res.bnd (f:=⟨q⟩) (EU (a :: b :: c :: d :: e :: some (.l .f,x) :: z) (.var 5))=q x:=id rfl
theorem y_a5 (q:D->Res ρ):Res.bnd (f:=⟨q⟩) (eY (a :: b :: c :: d :: e :: some r :: z) (.var 5))=q r.2:=id rfl
theorem y_n5 (q:PV.Env->Res ρ):Res.bnd (f:=⟨q⟩) (au 5 x (a :: b :: c :: d :: e :: u :: z))=q (a :: b :: c :: d :: e :: some (.f,x) :: z):=id rfl
theorem y_p5:put 5 r (a :: b :: c :: d :: e :: u :: z)=.ok (.nx (a :: b :: c :: d :: e :: some r :: z)):=id rfl
theorem y_o6 (q:Opd×PV.Env->Res ρ):Res.bnd (f:=⟨q⟩) (ai 6 (a :: b :: c :: d :: e :: g :: some r :: z))=q (.var 6,(a :: b :: c :: d :: e :: g :: some r :: z)):=id rfl
theorem y_d6 (q:D->Res ρ):Res.bnd (f:=⟨q⟩) (EU (a :: b :: c :: d :: e :: g :: some (.f,x) :: z) (.var 6))=q x:=id rfl
theorem y_a6 (q:D->Res ρ):Res.bnd (f:=⟨q⟩) (eY (a :: b :: c :: d :: e :: g :: some r :: z) (.var 6))=q r.2:=id rfl
theorem y_f6 (q:R×PV.Env->Res ρ):Res.bnd (f:=⟨q⟩) (aJ 6 (a :: b :: c :: d :: e :: g :: some (.f,x) :: z))=q ((.f,x),(a :: b :: c :: d :: e :: g :: some (.f,x) :: z)):=id rfl
theorem y_n6 (q:PV.Env->Res ρ):Res.bnd (f:=⟨q⟩) (au 6 x (a :: b :: c :: d :: e :: g :: u :: z))=q (a :: b :: c :: d :: e :: g :: some (.f,x) :: z):=id rfl
theorem y_p6:put 6 r (a :: b :: c :: d :: e :: g :: u :: z)=.ok (.nx (a :: b :: c :: d :: e :: g :: some r :: z)):=id rfl
theorem y_o7 (q:Opd×PV.Env->Res ρ):Res.bnd (f:=⟨q⟩) (ai 7 (a :: b :: c :: d :: e :: g :: h :: some r :: z))=q (.var 7,(a :: b :: c :: d :: e :: g :: h :: some r :: z)):=id rfl
theorem y_d7 (q:D->Res ρ):Res.bnd (f:=⟨q⟩) (EU (a :: b :: c :: d :: e :: g :: h :: some (.f,x) :: z) (.var 7))=q x:=id rfl
theorem y_e7 (q:D->Res ρ):Res.bnd (f:=⟨q⟩) (EU (a :: b :: c :: d :: e :: g :: h :: some (.l .f,x) :: z) (.var 7))=q x:=id rfl
theorem y_a7 (q:D->Res ρ):Res.bnd (f:=⟨q⟩) (eY (a :: b :: c :: d :: e :: g :: h :: some r :: z) (.var 7))=q r.2:=id rfl
theorem y_p7:put 7 r (a :: b :: c :: d :: e :: g :: h :: u :: z)=.ok (.nx (a :: b :: c :: d :: e :: g :: h :: some r :: z)):=id rfl
theorem y_e8 (q:D->Res ρ):Res.bnd (f:=⟨q⟩) (EU (a :: b :: c :: d :: e :: g :: h :: i :: some (.l .f,x) :: z) (.var 8))=q x:=id rfl
theorem y_f8 (q:R×PV.Env->Res ρ):Res.bnd (f:=⟨q⟩) (aJ 8 (a :: b :: c :: d :: e :: g :: h :: i :: some (.f,x) :: z))=q ((.f,x),(a :: b :: c :: d :: e :: g :: h :: i :: some (.f,x) :: z)):=id rfl
theorem y_p8:put 8 r (a :: b :: c :: d :: e :: g :: h :: i :: u :: z)=.ok (.nx (a :: b :: c :: d :: e :: g :: h :: i :: some r :: z)):=id rfl
theorem y_o9 (q:Opd×PV.Env->Res ρ):Res.bnd (f:=⟨q⟩) (ai 9 (a :: b :: c :: d :: e :: g :: h :: i :: j :: some r :: z))=q (.var 9,(a :: b :: c :: d :: e :: g :: h :: i :: j :: some r :: z)):=id rfl
theorem y_e9 (q:D->Res ρ):Res.bnd (f:=⟨q⟩) (EU (a :: b :: c :: d :: e :: g :: h :: i :: j :: some (.l .f,x) :: z) (.var 9))=q x:=id rfl
theorem y_a9 (q:D->Res ρ):Res.bnd (f:=⟨q⟩) (eY (a :: b :: c :: d :: e :: g :: h :: i :: j :: some r :: z) (.var 9))=q r.2:=id rfl
theorem y_p9:put 9 r (a :: b :: c :: d :: e :: g :: h :: i :: j :: u :: z)=.ok (.nx (a :: b :: c :: d :: e :: g :: h :: i :: j :: some r :: z)):=id rfl
theorem ME (q:Opd×PV.Env->Res ρ):Res.bnd (f:=⟨q⟩) (ai 10 (a :: b :: c :: d :: e :: g :: h :: i :: j :: k :: some r :: z))=q (.var 10,(a :: b :: c :: d :: e :: g :: h :: i :: j :: k :: some r :: z)):=id rfl
theorem MF (q:D->Res ρ):Res.bnd (f:=⟨q⟩) (eY (a :: b :: c :: d :: e :: g :: h :: i :: j :: k :: some r :: z) (.var 10))=q r.2:=id rfl
theorem MG:put 10 r (a :: b :: c :: d :: e :: g :: h :: i :: j :: k :: u :: z)=.ok (.nx (a :: b :: c :: d :: e :: g :: h :: i :: j :: k :: some r :: z)):=id rfl
theorem MH (q:Opd×PV.Env->Res ρ):Res.bnd (f:=⟨q⟩) (ai 11 (a :: b :: c :: d :: e :: g :: h :: i :: j :: k :: l :: some r :: z))=q (.var 11,(a :: b :: c :: d :: e :: g :: h :: i :: j :: k :: l :: some r :: z)):=id rfl
theorem MI (q:D->Res ρ):Res.bnd (f:=⟨q⟩) (eY (a :: b :: c :: d :: e :: g :: h :: i :: j :: k :: l :: some r :: z) (.var 11))=q r.2:=id rfl
theorem MJ:put 11 r (a :: b :: c :: d :: e :: g :: h :: i :: j :: k :: l :: u :: z)=.ok (.nx (a :: b :: c :: d :: e :: g :: h :: i :: j :: k :: l :: some r :: z)):=id rfl
theorem MK (q:D->Res ρ):Res.bnd (f:=⟨q⟩) (eY (a :: b :: c :: d :: e :: g :: h :: i :: j :: k :: l :: m :: some r :: z) (.var 12))=q r.2:=id rfl
theorem ML:put 12 r (a :: b :: c :: d :: e :: g :: h :: i :: j :: k :: l :: m :: u :: z)=.ok (.nx (a :: b :: c :: d :: e :: g :: h :: i :: j :: k :: l :: m :: some r :: z)):=id rfl
end
noncomputable def pd:=(And.intro @Mz (And.intro @y_fv (And.intro @MA (And.intro @y_ff (And.intro @MB (And.intro @y_vl (And.intro @MC (And.intro @y_vv (And.intro @MD (And.intro @y_c1 (And.intro @y_cf (And.intro @y_u1 (And.intro @y_uf (And.intro @y_u2 (And.intro @y_u3 (And.intro @y_t1 (And.intro @y_t2 (And.intro @y_t3 (And.intro @y_l0 (And.intro @y_l1 (And.intro @y_o0 (And.intro @y_d0 (And.intro @y_a0 (And.intro @y_f0 (And.intro @y_n0 (And.intro @y_o1 (And.intro @y_d1 (And.intro @y_e1 (And.intro @y_a1 (And.intro @y_f1 (And.intro @y_n1 (And.intro @y_p1 (And.intro @y_o2 (And.intro @y_d2 (And.intro @y_e2 (And.intro @y_a2 (And.intro @y_f2 (And.intro @y_m2 (And.intro @y_n2 (And.intro @y_p2 (And.intro @y_o3 (And.intro @y_d3 (And.intro @y_e3 (And.intro @y_a3 (And.intro @y_f3 (And.intro @y_g3 (And.intro @y_m3 (And.intro @y_n3 (And.intro @y_p3 (And.intro @y_o4 (And.intro @y_d4 (And.intro @y_e4 (And.intro @y_a4 (And.intro @y_f4 (And.intro @y_n4 (And.intro @y_p4 (And.intro @y_o5 (And.intro @y_d5 (And.intro @y_e5 (And.intro @y_a5 (And.intro @y_n5 (And.intro @y_p5 (And.intro @y_o6 (And.intro @y_d6 (And.intro @y_a6 (And.intro @y_f6 (And.intro @y_n6 (And.intro @y_p6 (And.intro @y_o7 (And.intro @y_d7 (And.intro @y_e7 (And.intro @y_a7 (And.intro @y_p7 (And.intro @y_e8 (And.intro @y_f8 (And.intro @y_p8 (And.intro @y_o9 (And.intro @y_e9 (And.intro @y_a9 (And.intro @y_p9 (And.intro @ME (And.intro @MF (And.intro @MG (And.intro @MH (And.intro @MI (And.intro @MJ (And.intro @MK @ML)))))))))))))))))))))))))))))))))))))))))))))))))))))))))))))))))))))))))))))))))))))))
end PV
namespace LW
open PySem L2 NX PV
theorem for_list {α:Type} {a:FG} {g:FS} {e:α->D} (l:List α) (P:Nat->PV.Env->Prop)
  (h:∀ k x env,l[k]?=some x->P k env->∃ Ej,a (e x) env=.ok Ej/\∃ Ep,g Ej=.ok (.nx Ep)/\P (k + 1) Ep):∀ env,P 0 env->∃ env',jy a g (l.map e) env=.ok (.nx env')/\P l.length env':=by
 intro env h0
 have:=yN (a:=a) (g:=g) P (l.map e) (fun i d env hi hp=>by
  rw [List.getElem?_map,Option.map_eq_some_iff] at hi
  obtain ⟨x,hx,rfl⟩:=hi
  obtain ⟨Ej,h1,Ep,h2,h3⟩:=h i x env hx hp
  exact ⟨Ej,h1,Ep,.inl h2,h3⟩) env h0
 rwa [List.length_map] at this
theorem gv {a:FG} {g:FS} {e:Nat->D} (n:Nat) (P:Nat->PV.Env->Prop)
  (h:∀ k env,k < n->P k env->∃ Ej,a (e k) env=.ok Ej/\∃ Ep,g Ej=.ok (.nx Ep)/\P (k + 1) Ep):∀ env,P 0 env->∃ env',jy a g ((List.range n).map e) env=.ok (.nx env')/\P n env':=by
 intro env h0
 have:=for_list (a:=a) (g:=g) (e:=e) (List.range n) P (fun k x env hk hp=>by
  obtain ⟨h1,h2⟩:=List.getElem?_eq_some_iff.mp hk
  rw [List.length_range] at h1
  rw [List.getElem_range] at h2
  subst h2
  exact h k env h1 hp) env h0
 rwa [List.length_range] at this
abbrev LNN:=List (List Nat)
theorem a7 {α β:Type} {l:List α} (f:α->β):(l.map f).length=l.length:=List.length_map f
theorem gw:(false=true)=False:=Bool.false_eq_true
theorem mD {α:Type} {l:List α} {i:Nat} {a:α} (h:l[i]?=some a):∃ h:i < l.length,l[i]=a:=List.getElem?_eq_some_iff.mp h
theorem jC {α:Type} {l:List α} {i:Nat} (h:i < l.length):l[i]?=some l[i]:=List.getElem?_eq_getElem h
theorem fK {α β:Type} {f:α->β} {a:α} {l:List α}:(a :: l).map f=f a :: l.map f:=List.map_cons
theorem oO {α:Type} {a b:α} (h:a∈[b]):a=b:=List.mem_singleton.mp h
theorem mL {α β:Type} {f:α->β} {l:List α} {b:β} (h:b∈l.map f):∃ a,a∈l/\f a=b:=List.mem_map.mp h
theorem um {α:Type} {a:α} {s t:List α} (h:a∈s++t):a∈s\/a∈t:=List.mem_append.mp h
theorem mE {α:Type} {s t:List α}:(s++t).length=s.length + t.length:=List.length_append
theorem ax {s t:FS} {env env':PV.Env} (h:s env=.ok (.nx env')):sSeq s t env=t env':=by rw [GW,h,EI]
theorem aM {ds:List D} (h:ds.length<=16777216):ds.length<=sizeLine:=line_le h
theorem d6 {l:List Int} {k:Nat} (h:k < l.length):E6 (l.map D.int) (k:Int)=some (.int (l.getD k 0)):=dF (by rw [List.getElem?_map,List.getD_eq_getElem?_getD,jC h];rfl)
theorem uo {l:LNN} {k:Nat} (h:k < l.length):E6 (l.map D.str) (k:Int)=some (.str l[k]):=dF (by rw [List.getElem?_map,jC h];rfl)
theorem at2 {α:Type} (a b c:α):E6 [a,b,c] (2:Int)=some c:=rfl
theorem dU:∀ l:LNN,eO (l.map D.str)=some l
 | []=>rfl
 | a :: l=>by
  rw [fK,eO,dU l]
  rfl
theorem qz {l:LNN} (nd:l.Nodup) {k:Nat} (h:k < l.length):l.idxOf l[k]=k:=nd.idxOf_getElem k h
theorem pE (x y:D) (t1 t2:Option R) (fE:PV.Env):gH 2 (aB (au 0) (aB (au 1) cC)) (.tup [x,y]) (t1 :: t2 :: fE)=.ok (some (.f,x) :: some (.f,y) :: fE):=by
 rw [Iy,if_pos (by simp),Fn,kC,if_pos (by simp),EI,Fn,kC,if_pos (by simp),EI]
 rfl
theorem kG {α:Type} (lt:α->α->Bool) (l:List α):(EB lt l).length=l.length:=(dQ lt l).length_eq
theorem uq (l:LNN) (h:l.length < 64):fV [.lst (l.map D.str)]=.ok (.l .f,.lst ((EB IJ l).map D.str)):=by
 unfold fV
 dsimp only
 rw [if_pos (by rw [a7];exact h)]
 unfold j5
 cases l with
 | nil=>rfl
 | cons a l=>
  have e:cF ((a :: l).map D.str)=none:=rfl
  rw [e,dU]
noncomputable def Hd:List Nat:=[97,98,99,100,101,102,103,104,105,106,107,108,109,110,111,112,113,114,115,116,117,118,119,120,121,122]
theorem Bs (j:Nat) (h:j < 26):Hd[j]?=some (97 + j):=by
 have:∀ j:_root_.Fin 26,Hd[j.1]?=some (97 + j.1):=by decide
 exact this ⟨j,h⟩
theorem Bt (j:Int) (h0:0<=j) (h:j < 26):E6 Hd j=some (97 + j.toNat):=by
 obtain ⟨n,rfl⟩:=Int.eq_ofNat_of_zero_le h0
 exact dF (Bs n (by lia))
theorem gN (x b:Int) (h:0 < b):0<=x % b/\x % b < b:=⟨Int.emod_nonneg _ (by lia),Int.emod_lt_of_pos _ h⟩
theorem Eb (n:Nat) (h:n<=200):zm (.int 10) (.int (n:Int))=.ok (.f,.int (10 ^ n)):=by
 rw [Bf,if_pos (by lia),Int.toNat_natCast]
theorem lC (x b:Int) (h:0 < b):jc (.int x) (.int b)=.ok (.f,.int (x % b)):=by rw [Be,if_pos h]
theorem jD (x b:Int) (h:0 < b) (h2:b < 1073741824):gL (.int x) (.int b)=.ok (.f,.int (x / b)):=by rw [yI,if_pos ⟨h,h2⟩]
theorem ur (k:Nat) (h:k<=1000000):cB (k:Int)=true:=by
 unfold cB
 rw [decide_eq_true_eq]
 lia
theorem Ec (x y:List Nat) (h:x.length + y.length<=1000):dg (.str x) (.str y)=.ok (.f,.str (x++y)):=by rw [yS,if_pos (line_le (by lia))]
theorem qA {α:Type} (l:List α) (k:Nat):jA l none (some (k:Int))=l.take k:=by
 unfold jA
 rw [HT.vg,HT.oR,List.drop_zero,Nat.sub_zero]
 by_cases h:k<=l.length
 ·rw [Nat.min_eq_left h]
 ·rw [Nat.min_eq_right (by lia),List.take_of_length_le (Nat.le_refl _),List.take_of_length_le (by lia)]
theorem kH {α:Type} (f:Nat->α) (n:Nat) (h:∀ i j,i < n->j < n->f i=f j->i=j):((List.range n).map f).Nodup:=by
 rw [List.nodup_iff_pairwise_ne,List.pairwise_map]
 refine List.pairwise_lt_range.imp_of_mem fun {a b} ha hb hl e=>?_
 have:=h a b (List.mem_range.mp ha) (List.mem_range.mp hb) e
 lia
theorem yV {α:Type} (l:List α) (a b:Nat) (h:a<=b) (hb:b<=l.length):jA l (some (a:Int)) (some (b:Int))=(l.drop a).take (b - a):=by
 unfold jA
 rw [HT.oR,HT.oR,Nat.min_eq_left hb,Nat.min_eq_left (Nat.le_trans h hb)]
theorem kI (x:Int) (h : -1000000<=x) (h2:x<=1000000):cB x=true:=by
 unfold cB
 rw [decide_eq_true_eq]
 lia
theorem v7 (l:List Int):plainD 40 (.tup (l.map D.int))=true:=by
 rw [plainD,lB]
theorem pF (n k:Nat) (h:k < n):ixN n (k:Int)=some k:=by
 unfold ixN
 rw [if_pos (by lia),if_pos (by lia)]
 rfl
theorem Bu (l:List Int):AA [.lst (l.map D.int)]=.ok (.f,.int l.sum):=by
 unfold AA
 dsimp only
 have:(jX (D.lst (l.map D.int))).bind cF=some l:=iV l
 rw [this]
theorem isT (ds:List D):wU "tuple" (.tup ds)=true:=rfl
theorem oB {c:FT} {g:FS} (P:Nat->PV.Env->Prop) (fin:PV.Env->Prop) (h:∀ k env,P k env->(∃ Ej,c env=.ok (false,Ej)/\fin Ej)\/(∃ Ej,c env=.ok (true,Ej)/\∃ Ep k',g Ej=.ok (.nx Ep)/\k' < k/\P k' Ep)) :
  ∀ n k env,k < n->P k env->∃ env',cY c g n env=.ok (.nx env')/\fin env'
 | 0,k,env,hk,_=>absurd hk (Nat.not_lt_zero _)
 | n + 1,k,env,hk,hp=>by
  rcases h k env hp with ⟨Ej,h1,h2⟩ | ⟨Ej,h1,Ep,k',h2,h3,h4⟩
  ·exact ⟨Ej,by rw [iM,h1,EI];rfl,h2⟩
  ·obtain ⟨env',e,hf⟩:=oB P fin h n k' Ep (by lia) h4
   refine ⟨env',?_,hf⟩
   rw [iM,h1,EI]
   dsimp only
   rw [if_pos rfl,h2,EI]
   exact e
theorem yW {α β:Type} (f:α->β) (l:List α) (lo hi:Option Int):jA (l.map f) lo hi=(jA l lo hi).map f:=by
 unfold jA
 rw [a7,<-List.map_drop,<-List.map_take]
theorem iN {α:Type} {l:List α} (h:l.length<=100000):l.length < sizeLine:=Nat.lt_of_lt_of_le (Nat.lt_succ_self _) (line_le (by lia))
section
variable (env:PV.Env) (f:FX) (fs:FOs) (fo:FO)
theorem C7 (i:Nat) (c:O) (F:Addr->List D->Res R):eFunW c F i fs env=Res.bnd (fs env) (f:=⟨fun p=>match p.1 with
 | .var j :: os=>if j=i then (match p.2[i]? with
  | some (some (ow,d0))=>if AX c ow then Res.bnd (kS (p.2.set i none) os) (f:=⟨fun ds=>Res.bnd (AY F c d0 ds) (f:=⟨fun x=>if bJ x.1.1 x.1.2 && bJ c x.2 then .ok (x.1,(p.2.set i none).set i (some (ow,x.2))) else .ok (x.1,((p.2.set i none).map frz).set i (some (ow,x.2)))⟩)⟩) else .bad
  | _=>.bad) else .bad
 | _=>.bad⟩):=id rfl
theorem C8 (r:R):frz (some r)=some (.f,r.2):=id rfl
theorem C9:frz none=none:=id rfl
theorem xb (gg:List D->List D->Res R):CU gg fo fs env=Res.bnd (fo env) (f:=⟨fun p=>Res.bnd (EU p.2 p.1) (f:=⟨fun d=>match d with
 | .lst _=>Res.bnd (fs p.2) (f:=⟨fun q=>Res.bnd (EU q.2 p.1) (f:=⟨fun d2=>match d2 with
  | .lst l=>Res.bnd (oM q.2 q.1) (f:=⟨fun ds=>Res.bnd (gg l ds) (f:=⟨fun r=>.ok (r,q.2)⟩)⟩)
  | _=>.bad⟩)⟩)
 | _=>.bad⟩)⟩):=id rfl
theorem yX (g:FX):yy f g env=Res.bnd (f env) (f:=⟨fun p=>Res.bnd (g p.2) (f:=⟨fun q=>match (jX p.1.2).bind cF,q.1.2 with | some ns,.int d=>.ok ((.f,.int (NX.minD ns d)),q.2) | _,_=>.bad⟩)⟩):=id rfl
end
theorem o_isnT (ds:List D):isnO (.tup ds) .non=.ok (.f,.bl true):=id rfl
theorem uu:isnO .non .non=.ok (.f,.bl false):=id rfl
abbrev Ex:=Int×List Nat×Int
noncomputable def eA (a:Ex):D:=.tup [.int a.1,.str a.2.1,.int a.2.2]
abbrev Nd:=Int×LNN
noncomputable def met (T:List Ex):List Int:=0 :: T.map (·.2.2)
noncomputable def rJ (c:Int) (T:List Ex) (a:Ex):List Ex:=if a.1=c/\a.2.2∉met T then T++[a] else T
inductive Run (arcs:List Ex):Nat->List Ex->Prop where
 | z:Run arcs 0 []
 | s {i:Nat} {T:List Ex} {c:Int}:Run arcs i T->(met T)[i]?=some c->Run arcs (i + 1) (arcs.foldl (rJ c) T)
theorem Run.inj {arcs:List Ex}:∀ {i:Nat} {T T':List Ex},Run arcs i T->Run arcs i T'->T=T'
 | 0,_,_,.z,.z=>rfl
 | i + 1,_,_,.s r h,.s r' h'=>by
  have e:=Run.inj r r'
  subst e
  rw [h] at h'
  cases h'
  rfl
theorem Run.before {arcs:List Ex}:∀ {j:Nat} {T:List Ex},Run arcs j T->∀ i,i < j->∃ T',Run arcs i T'/\i < (met T').length
 | 0,_,_,i,h=>absurd h (Nat.not_lt_zero _)
 | j + 1,_,.s r h,i,hi=>by
  by_cases e:i=j
  ·subst e
   exact ⟨_,r,(mD h).1⟩
  ·exact Run.before r i (by lia)
structure Bfs (arcs:List Ex) (i:Nat) (pre:List Ex) (N:List Nd) (T:List Ex):Prop where
 z:N[0]?=some (0,[])
 len:N.length=T.length + 1
 nd:(N.map (·.1)).Nodup
 bd:∀ n∈N,0<=n.1/\n.1 < 12
 tr:∀ (j:Nat) (a:Ex),T[j]?=some a->a∈arcs/\∃ (k:Nat) (n:Nd),k<=j/\N[k]?=some n/\a.1=n.1/\N[j + 1]?=some (a.2.2,n.2++[a.2.1])
 mono:∀ (j k:Nat) (n m:Nd),j<=k->N[j]?=some n->N[k]?=some m->n.2.length<=m.2.length
 top:∀ n∈N,∀ c:Nd,N[i]?=some c->n.2.length<=c.2.length + 1
 clo:∀ k,k < i->∀ n:Nd,N[k]?=some n->∀ a∈arcs,a.1=n.1->∃ m∈N,m.1=a.2.2/\m.2.length<=n.2.length + 1
 cur:∀ a∈pre,∀ c:Nd,N[i]?=some c->a.1=c.1->∃ m∈N,m.1=a.2.2/\m.2.length<=c.2.length + 1
 nm:N.map (·.1)=met T
theorem Bfs.start (arcs:List Ex):Bfs arcs 0 [] [(0,[])] []:=by
 refine ⟨rfl,rfl,List.nodup_cons.mpr ⟨List.not_mem_nil,List.nodup_nil⟩,fun n hn=>?_,fun j a h=>by simp at h,fun j k n m _ h1 h2=>?_,fun n hn c hc=>?_,fun k hk=>absurd hk (Nat.not_lt_zero _),(fun a ha=>nomatch ha),rfl⟩
 ·rw [oO hn]
  exact ⟨Int.le_refl _,by decide⟩
 ·rw [oO (List.mem_of_getElem? h1)]
  exact Nat.zero_le _
 ·rw [oO hn]
  exact Nat.zero_le _
theorem ib {α:Type} {l:List α} {x:α} {j:Nat} {y:α} (h:l[j]?=some y):(l++[x])[j]?=some y:=by
 rw [List.getElem?_append_left (mD h).1]
 exact h
theorem eX {α:Type} {l:List α} {x:α} {j:Nat} {y:α} (h:(l++[x])[j]?=some y):l[j]?=some y\/(j=l.length/\y=x):=by
 by_cases hj:j < l.length
 ·rw [List.getElem?_append_left hj] at h
  exact .inl h
 ·rw [List.getElem?_append_right (by lia)] at h
  by_cases e:j - l.length=0
  ·rw [e] at h
   exact .inr ⟨by lia,by simpa using h.symm⟩
  ·rw [List.getElem?_eq_none (by simp;lia)] at h
   cases h
theorem Bfs.skip {arcs:List Ex} {i:Nat} {pre:List Ex} {N:List Nd} {T:List Ex} (b:Bfs arcs i pre N T) {a:Ex} {c:Nd} (hc:N[i]?=some c) (h:a.1≠c.1\/a.2.2∈N.map (·.1)):Bfs arcs i (pre++[a]) N T:=by
 refine ⟨b.z,b.len,b.nd,b.bd,b.tr,b.mono,b.top,b.clo,fun x hx c' G9 e=>?_,b.nm⟩
 rcases um hx with hx | hx
 ·exact b.cur x hx c' G9 e
 ·rw [oO hx] at e ⊢
  rw [hc] at G9
  cases G9
  rcases h with h | h
  ·exact absurd e h
  ·obtain ⟨m,hm,em⟩:=mL h
   exact ⟨m,hm,em,b.top m hm c hc⟩
theorem Bfs.take {arcs:List Ex} {i:Nat} {pre:List Ex} {N:List Nd} {T:List Ex} (b:Bfs arcs i pre N T) {a:Ex} {c:Nd} (hc:N[i]?=some c) (ha:a∈arcs) (L5:0<=a.2.2/\a.2.2 < 12) (h1:a.1=c.1) (h2:a.2.2∉N.map (·.1)):Bfs arcs i (pre++[a]) (N++[(a.2.2,c.2++[a.2.1])]) (T++[a]):=by
 have hi:=(mD hc).1
 have K2:(c.2++[a.2.1]).length=c.2.length + 1:=by rw [mE];rfl
 have up:∀ {x:Int} {B:Nat},(∃ m∈N,m.1=x/\m.2.length<=B)->∃ m∈N++[(a.2.2,c.2++[a.2.1])],m.1=x/\m.2.length<=B:=fun ⟨m,hm,q⟩=>⟨m,List.mem_append_left _ hm,q⟩
 refine ⟨ib b.z,by rw [mE,mE,b.len];rfl,?_,fun n hn=>?_,fun j x hx=>?_,fun j k n m hjk hn hm=>?_,fun n hn c' G9=>?_,fun k hk n hn x hx e=>?_,fun x hx c' G9 e=>?_,by unfold met;rw [List.map_append,List.map_append,b.nm];rfl⟩
 ·rw [List.map_append,List.nodup_append]
  refine ⟨b.nd,List.nodup_cons.mpr ⟨List.not_mem_nil,List.nodup_nil⟩,fun x hx y hy=>?_⟩
  have:y=a.2.2:=by simpa using hy
  rw [this]
  rintro rfl
  exact h2 hx
 ·rcases um hn with hn | hn
  ·exact b.bd n hn
  ·rw [oO hn]
   exact L5
 ·rcases eX hx with hx | ⟨rfl,rfl⟩
  ·obtain ⟨q,k,n,hk,hn,e,Jk⟩:=b.tr j x hx
   exact ⟨q,k,n,hk,ib hn,e,ib Jk⟩
  ·refine ⟨ha,i,c,?_,ib hc,h1,?_⟩
   ·have:=b.len
    lia
   ·rw [<-b.len,List.getElem?_append_right (Nat.le_refl _),Nat.sub_self]
    rfl
 ·rcases eX hn with hn | ⟨rfl,rfl⟩
  ·rcases eX hm with hm | ⟨rfl,rfl⟩
   ·exact b.mono j k n m hjk hn hm
   ·show n.2.length<=(c.2++[a.2.1]).length
    rw [K2]
    exact b.top n (List.mem_of_getElem? hn) c hc
  ·rcases eX hm with hm | ⟨rfl,rfl⟩
   ·have:=(mD hm).1
    lia
   ·exact Nat.le_refl _
 ·have:c'=c:=by
   rw [ib hc] at G9
   exact (Option.some.inj G9).symm
  subst this
  rcases um hn with hn | hn
  ·exact b.top n hn c' hc
  ·rw [oO hn]
   exact Nat.le_of_eq K2
 ·rcases eX hn with hn | ⟨rfl,rfl⟩
  ·exact up (b.clo k hk n hn x hx e)
  ·lia
 ·have:c'=c:=by
   rw [ib hc] at G9
   exact (Option.some.inj G9).symm
  subst this
  rcases um hx with hx | hx
  ·exact up (b.cur x hx c' hc e)
  ·rw [oO hx]
   exact ⟨_,List.mem_append_right _ List.mem_cons_self,rfl,Nat.le_of_eq K2⟩
theorem Bfs.next {arcs:List Ex} {i:Nat} {N:List Nd} {T:List Ex} (b:Bfs arcs i arcs N T) {c:Nd} (hc:N[i]?=some c):Bfs arcs (i + 1) [] N T:=by
 refine ⟨b.z,b.len,b.nd,b.bd,b.tr,b.mono,fun n hn c' G9=>?_,fun k hk n hn a ha e=>?_,(fun a ha=>nomatch ha),b.nm⟩
 ·have h1:=b.top n hn c hc
  have h2:=b.mono i (i + 1) c c' (Nat.le_succ _) hc G9
  lia
 ·by_cases hki:k=i
  ·subst hki
   rw [hc] at hn
   cases hn
   exact b.cur a ha c hc e
  ·exact b.clo k (by lia) n hn a ha e
theorem qB:∀ (n:Nat) {l:List Int},l.Nodup->(∀ x∈l,0<=x/\x < (n:Int))->l.length<=n
 | 0,l,_,hb=>by
  cases l with
  | nil=>exact Nat.le_refl _
  | cons a l=>have:=hb a List.mem_cons_self;lia
 | n + 1,l,nd,hb=>by
  have h1:=qB n (l:=l.erase (n:Int)) (nd.erase _) fun x hx=>by
   have h2:=(nd.mem_erase_iff.mp hx)
   have h3:=hb x h2.2
   have h4:=h2.1
   lia
  have:=List.length_erase_le (a:=(n:Int)) (l:=l)
  have h5:l.length<=(l.erase (n:Int)).length + 1:=by
   by_cases hm:(n:Int)∈l
   ·rw [List.length_erase_of_mem hm]
    have:=List.length_pos_of_mem hm
    lia
   ·rw [List.erase_of_not_mem hm]
    lia
  lia
theorem Bfs.le12 {arcs:List Ex} {i:Nat} {pre:List Ex} {N:List Nd} {T:List Ex} (b:Bfs arcs i pre N T):N.length<=12:=by
 have:=qB 12 b.nd fun x hx=>by
  obtain ⟨n,hn,rfl⟩:=mL hx
  exact b.bd n hn
 rw [a7] at this
 exact this
theorem uv (arcs:List Ex) (i:Nat) (pre:List Ex) (N:List Nd) (T:List Ex) (b:Bfs arcs i pre N T) (c:Nd) (hc:N[i]?=some c) (a:Ex) (ha:a∈arcs) (L5:0<=a.2.2/\a.2.2 < 12) :
  ∃ N' T',T'=rJ c.1 T a/\Bfs arcs i (pre++[a]) N' T'/\N'[i]?=some c/\d9 [some (.f,.lst (arcs.map eA)),some (.l .f,.lst ((N.map (·.1)).map D.int)),some (.l .f,.lst (T.map eA)),some (.f,.int (i:Int)),some (.f,eA a)]=.ok (.nx [some (.f,.lst (arcs.map eA)),some (.l .f,.lst ((N'.map (·.1)).map D.int)),some (.l .f,.lst (T'.map eA)),some (.f,.int (i:Int)),some (.f,eA a)]):=by
 have OP:=b.le12
 have EY:=(mD hc).1
 have Jd:E6 ((N.map (·.1)).map D.int) (i:Int)=some (.int c.1):=dF (by rw [List.getElem?_map,List.getElem?_map,hc];rfl)
 have z1:((N.map (·.1)).map D.int).length < sizeLine:=iN (by rw [a7,a7];lia)
 have z2:(T.map eA).length < sizeLine:=iN (by rw [a7];have:=b.len;lia)
 unfold d9 eA
 by_cases h1:a.1=c.1
 ·by_cases h2:a.2.2∈N.map (·.1)
  ·refine ⟨N,T,by unfold rJ;rw [if_neg (by rw [<-b.nm];exact fun z=>z.2 h2)],b.skip hc (.inr h2),hc,?_⟩
   have e1:(a.1 == c.1)=true:=beq_iff_eq.mpr h1
   simp only [↓pd,pv,seval,op,Jd,e1,at2,h2,decide_true,Bool.not_true,gw]
  ·refine ⟨_,_,by unfold rJ;rw [if_pos (by rw [<-b.nm];exact ⟨h1,h2⟩)],b.take hc ha L5 h1 h2,ib hc,?_⟩
   have e1:(a.1 == c.1)=true:=beq_iff_eq.mpr h1
   have e:(fun a:Ex=>D.tup [D.int a.1,D.str a.2.1,D.int a.2.2])=eA:=rfl
   rw [e] at *
   simp only [↓pd,pv,seval,op,Jd,e1,at2,h2,decide_false,Bool.not_false,z1,z2,List.map_append]
   rfl
 ·refine ⟨N,T,by unfold rJ;rw [if_neg (fun z=>h1 z.1)],b.skip hc (.inl h1),hc,?_⟩
  have e1:(a.1 == c.1)=false:=beq_eq_false_iff_ne.mpr h1
  simp only [↓pd,pv,seval,op,Jd,e1,gw]
theorem uw (arcs:List Ex) (hl:arcs.length<=1000) (hb:∀ a∈arcs,0<=a.2.2/\a.2.2 < 12):∃ N T,Bfs arcs N.length [] N T/\Run arcs N.length T/\cG [.lst (arcs.map eA)]=.ok (.l .f,.lst (T.map eA)):=by
 unfold cG oh
 rw [aU (h:=by rfl)]
 rw [ax (env':=[some (.f,.lst (arcs.map eA)),some (.l .f,.lst [.int 0]),none,none,none]) (by simp only [↓pd,pv,seval,op])]
 rw [ax (env':=[some (.f,.lst (arcs.map eA)),some (.l .f,.lst [.int 0]),some (.l .f,.lst []),none,none]) (by simp only [↓pd,pv,seval,op])]
 rw [ax (env':=[some (.f,.lst (arcs.map eA)),some (.l .f,.lst [.int 0]),some (.l .f,.lst []),some (.f,.int 0),none]) (by simp only [↓pd,pv,seval,op])]
 obtain ⟨env',ew,N,T,i,t4,b,hi,Iz,rfl⟩:=oB (c:=(E1 (az IW (ai 3) (aj (aY mf (ag (ai 1) ay)))))) (g:=fX)
  (fun k env=>∃ N T i t4,Bfs arcs i [] N T/\i<=N.length/\Run arcs i T/\k=13 - i/\env=[some (.f,.lst (arcs.map eA)),some (.l .f,.lst ((N.map (·.1)).map D.int)),some (.l .f,.lst (T.map eA)),some (.f,.int ((i:Nat):Int)),t4]) (fun env=>∃ N T i t4,Bfs arcs i [] N T/\i=N.length/\Run arcs i T/\env=[some (.f,.lst (arcs.map eA)),some (.l .f,.lst ((N.map (·.1)).map D.int)),some (.l .f,.lst (T.map eA)),some (.f,.int ((i:Nat):Int)),t4]) (by
  rintro k env ⟨N,T,i,t4,b,hi,Iz,rfl,rfl⟩
  have OP:=b.le12
  by_cases EY:i < N.length
  ·refine .inr ⟨[some (.f,.lst (arcs.map eA)),some (.l .f,.lst ((N.map (·.1)).map D.int)),some (.l .f,.lst (T.map eA)),some (.f,.int ((i:Nat):Int)),t4],?_,?_⟩
   ·have:(i:Int) < (N.length:Int):=by lia
    simp only [↓pd,pv,seval,op,a7,this,decide_true]
   ·obtain ⟨c,hc⟩:∃ c,N[i]?=some c:=⟨N[i],jC EY⟩
    have MM:=Run.s Iz (c:=c.1) (by rw [<-b.nm,List.getElem?_map,hc];rfl)
    obtain ⟨env',ef,N',T',t4',b',G9,eT,rfl⟩:=for_list (a:=au 4) (g:=d9) (e:=eA) arcs (fun j env=>∃ N T2 t4,Bfs arcs i (arcs.take j) N T2/\N[i]?=some c/\T2=(arcs.take j).foldl (rJ c.1) T/\env=[some (.f,.lst (arcs.map eA)),some (.l .f,.lst ((N.map (·.1)).map D.int)),some (.l .f,.lst (T2.map eA)),some (.f,.int ((i:Nat):Int)),t4]) (by
     rintro j a env hj ⟨N,T2,t4,b,hc,eT,rfl⟩
     have Nj:=List.mem_of_getElem? hj
     obtain ⟨N',T',eT',b',G9,e⟩:=uv arcs i _ N T2 b c hc a Nj (hb a Nj)
     have ht:arcs.take (j + 1)=arcs.take j++[a]:=by rw [List.take_add_one,hj];rfl
     exact ⟨_,rfl,_,e,N',T',some (.f,eA a),by rw [ht];exact b',G9,by rw [eT',eT,ht,List.foldl_append];rfl,rfl⟩) _ ⟨N,T,t4,by rw [List.take_zero];exact b,hc,by rw [List.take_zero];rfl,rfl⟩
    rw [List.take_length] at b' eT
    have hlt':=(mD G9).1
    refine ⟨_,13 - (i + 1),?_,by lia,N',T',i + 1,t4',b'.next G9,by lia,by rw [eT];exact MM,rfl,rfl⟩
    unfold fX
    rw [ax (env':=_) (by
     unfold kg
     simp only [↓pd,pv,seval,op]
     exact ef)]
    unfold jh
    simp only [↓pd,pv,seval,op,Int.natCast_add,Int.cast_ofNat_Int]
  ·refine .inl ⟨_,?_,N,T,i,t4,b,by lia,Iz,rfl⟩
   have:¬ (i:Int) < (N.length:Int):=by lia
   simp only [↓pd,pv,seval,op,a7,this,decide_false]) 100000 13 _ (by decide) ⟨[(0,[])],[],0,none,Bfs.start arcs,Nat.zero_le _,.z,rfl,rfl⟩
 subst hi
 rw [ax (env':=_) (by
  unfold kh
  exact ew)]
 unfold ji
 exact ⟨N,T,b,Iz,by simp only [↓pd,pv,seval,op]⟩
noncomputable def Ey (nZ:LNN) (arcs:List Ex):D:=.tup [.tup (nZ.map D.str),.lst (arcs.map eA)]
theorem pG (a:Ex) (t1 t2 t3:Option R) (fE:PV.Env):gH 3 (aB (au 0) (aB (au 1) (aB (au 2) cC))) (eA a) (t1 :: t2 :: t3 :: fE)=.ok (some (.f,.int a.1) :: some (.f,.str a.2.1) :: some (.f,.int a.2.2) :: fE):=by
 unfold eA
 rw [Iy,if_pos (by simp),Fn,kC,if_pos (by simp),EI,Fn,kC,if_pos (by simp),EI,Fn,kC,if_pos (by simp),EI]
 rfl
theorem ux (l:List Int):(jX (.lst (l.map D.int))).bind cF=some l:=iV l
noncomputable def qC (a:Ex):Int:=if a.1 < a.2.2 then a.2.2 else a.1
noncomputable def ba (arcs:List Ex):Int:=1 + NX.maxD (arcs.map qC) 0
theorem v9 {α:Type} {f:α->D} {l:List α} (h:∀ a,cD (f a)=true):flatDs (l.map f)=true:=by
 rw [bq,List.all_map,List.all_eq_true]
 intro a _
 exact h a
theorem pH (nZ:LNN) (arcs:List Ex) (hl:arcs.length<=16777216):dm [Ey nZ arcs]=.ok (.f,.int (ba arcs)):=by
 unfold dm ke
 rw [aU (h:=by rfl)]
 simp only [↓pd,pv,seval,op,Ey]
 rw [aW (r:=fun a:Ex=>D.int (qC a)) (fun env=>∃ t1 t2 t3,env=[t1,t2,t3]) arcs ?_ _ ⟨_,_,_,rfl⟩]
 ·rw [EI,if_pos (aM (by rw [a7];exact hl)),EI,v9 fun a=>gJ _]
  simp only [↓pd,pv,seval,op]
  have e:(some (arcs.map fun a=>D.int (qC a))).bind cF=some (arcs.map qC):=by
   have:=ux (arcs.map qC)
   rw [List.map_map] at this
   exact this
  rw [e]
  rfl
 ·rintro a _ env ⟨t1,t2,t3,rfl⟩
  refine ⟨_,pG a t1 t2 t3 _,?_⟩
  simp only [↓pd,pv,seval,op]
  exact ⟨_,_,rfl,_,_,_,rfl⟩
noncomputable def qD (n:Nd):D:=.tup (n.2.map D.str)
theorem pI:∀ (N:List Nd) (k:Nat) (n:Nd),(N.map (·.1)).Nodup->N[k]?=some n->getD (N.map fun n=>D.int n.1) (N.map qD) (.int n.1)=some (qD n)
 | [],_,_,_,h=>by simp at h
 | m :: N,0,n,_,h=>by
  simp at h
  subst h
  unfold getD
  rw [fK,fK,List.zip_cons_cons,List.find?_cons_of_pos (by show Er (.int m.1) (.int m.1)=true;rw [Er];exact beq_self_eq_true _)]
  rfl
 | m :: N,k + 1,n,nd,h=>by
  rw [List.getElem?_cons_succ] at h
  rw [fK,List.nodup_cons] at nd
  have ih:=pI N k n nd.2 h
  unfold getD at ih ⊢
  have hne:n.1≠m.1:=fun e=>nd.1 (by rw [<-e];exact List.mem_map.mpr ⟨n,List.mem_of_getElem? h,rfl⟩)
  rw [fK,fK,List.zip_cons_cons,List.find?_cons_of_neg (by show ¬ Er (.int n.1) (.int m.1)=true;rw [Er,beq_iff_eq];exact hne)]
  exact ih
theorem yY (N:List Nd) (n:Nd) (h:n.1∉N.map (·.1)):rj (N.map fun n=>D.int n.1) (N.map qD) (.int n.1) (qD n)=((N++[n]).map (fun n=>D.int n.1),(N++[n]).map qD):=by
 have e:(N.map fun n=>D.int n.1).any (Er (.int n.1))=false:=by
  rw [List.any_map,List.any_eq_false]
  intro m hm
  show ¬ Er (.int n.1) (.int m.1)=true
  rw [Er,beq_iff_eq]
  intro e
  exact h (by rw [e];exact List.mem_map.mpr ⟨m,hm,rfl⟩)
 unfold rj
 rw [e,if_neg Bool.false_ne_true,List.map_append,List.map_append]
 rfl
theorem yZ (a:Ex):cD (eA a)=true:=rfl
theorem pJ (as:List Ex):flatDs (as.map eA)=true:=by
 rw [bq,List.all_map,List.all_eq_true]
 exact fun p _=>yZ p
theorem Dw (w:LNN) (m:List Nat) (h:w.length<=1000):dg (.tup (w.map D.str)) (.tup [.str m])=.ok (.f,.tup ((w++[m]).map D.str)):=by
 rw [yU,if_pos (.inl (line_le (by rw [a7,List.length_cons,List.length_nil];lia))),List.map_append]
 rfl
structure Found (arcs:List Ex) (N:List Nd):Prop where
 z:N[0]?=some (0,[])
 nd:(N.map (·.1)).Nodup
 le:N.length<=12
 bd:∀ n∈N,0<=n.1/\n.1 < 12
 wl:∀ n∈N,n.2.length<=12
 par:∀ n∈N,n=(0,[])\/∃ a∈arcs,∃ m∈N,a.1=m.1/\n=(a.2.2,m.2++[a.2.1])
 clo:∀ n∈N,∀ a∈arcs,a.1=n.1->∃ m∈N,m.1=a.2.2/\m.2.length<=n.2.length + 1
theorem Bfs.wlen {arcs:List Ex} {i:Nat} {pre:List Ex} {N:List Nd} {T:List Ex} (b:Bfs arcs i pre N T):∀ (j:Nat) (n:Nd),N[j]?=some n->n.2.length<=j:=by
 intro j
 induction j using Nat.strongRecOn with
 | _ j ih=>
  intro n hn
  cases j with
  | zero=>
   rw [b.z] at hn
   cases hn
   exact Nat.le_refl _
  | succ j=>
   have EY:=(mD hn).1
   have hl:=b.len
   obtain ⟨_,k,m,hk,hm,_,Jk⟩:=b.tr j T[j] (jC (by lia))
   rw [hn] at Jk
   cases Jk
   have:=ih k (by lia) m hm
   show (m.2++[_]).length<=_
   rw [mE,List.length_cons,List.length_nil]
   lia
theorem Bfs.found {arcs:List Ex} {N:List Nd} {T:List Ex} (b:Bfs arcs N.length [] N T):Found arcs N:=by
 refine ⟨b.z,b.nd,b.le12,b.bd,fun n hn=>?_,fun n hn=>?_,fun n hn a ha e=>?_⟩
 ·obtain ⟨j,hj⟩:=List.mem_iff_getElem?.mp hn
  have:=b.wlen j n hj
  have:=(mD hj).1
  have:=b.le12
  lia
 ·obtain ⟨j,hj⟩:=List.mem_iff_getElem?.mp hn
  cases j with
  | zero=>
   rw [b.z] at hj
   cases hj
   exact .inl rfl
  | succ j=>
   have EY:=(mD hj).1
   have hl:=b.len
   obtain ⟨ha,k,m,hk,hm,e,Jk⟩:=b.tr j T[j] (jC (by lia))
   rw [hj] at Jk
   cases Jk
   exact .inr ⟨_,ha,m,List.mem_of_getElem? hm,e,rfl⟩
 ·obtain ⟨j,hj⟩:=List.mem_iff_getElem?.mp hn
  exact b.clo j (mD hj).1 n hj a ha e
noncomputable def aX (N:List Nd) (s:Int):LNN:=((N.find? fun n=>n.1 == s).map (·.2)).getD []
theorem qE {N:List Nd} (nd:(N.map (·.1)).Nodup) {n:Nd} (h:n∈N):aX N n.1=n.2:=by
 unfold aX
 induction N with
 | nil=>cases h
 | cons m N ih=>
  rw [fK,List.nodup_cons] at nd
  rcases List.mem_cons.mp h with rfl | h
  ·rw [List.find?_cons_of_pos (by exact beq_self_eq_true _)]
   rfl
  ·have hne:m.1≠n.1:=fun e=>nd.1 (by rw [e];exact List.mem_map.mpr ⟨n,h,rfl⟩)
   rw [List.find?_cons_of_neg (by simpa using hne)]
   exact ih nd.2 h
theorem uy (nZ:LNN) (arcs:List Ex) (hl:arcs.length<=1000) (hb:∀ a∈arcs,0<=a.2.2/\a.2.2 < 12) (all:∀ N,Found arcs N->∀ s:Int,0<=s->s < ba arcs->s∈N.map (·.1)) (hs:0<=ba arcs/\ba arcs<=100) :
  ∃ N T,Bfs arcs N.length [] N T/\Run arcs N.length T/\cG [.lst (arcs.map eA)]=.ok (.l .f,.lst (T.map eA))/\cp [Ey nZ arcs]=.ok (.l .f,.lst ((List.range (ba arcs).toNat).map fun (s:Nat)=>.tup ((aX N (s:Int)).map D.str))):=by
 obtain ⟨N,T,b,Iz,et⟩:=uw arcs hl hb
 refine ⟨N,T,b,Iz,et,?_⟩
 have F:=b.found
 unfold cp oi
 rw [aU (h:=by rfl)]
 rw [ax (env':=[some (.f,Ey nZ arcs),some (.d,.dct false [.int 0] [.tup []]),none,none,none]) (by simp only [↓pd,pv,seval,op])]
 have hlen:=b.len
 have OP:=F.le
 obtain ⟨env',ef,t2,t3,t4,rfl⟩:=for_list (a:=gH 3 (aB (au 2) (aB (au 3) (aB (au 4) cC)))) (g:=fY) (e:=eA) T (fun j env=>∃ t2 t3 t4,env=[some (.f,Ey nZ arcs),some (.d,.dct false ((N.take (j + 1)).map fun n=>D.int n.1) ((N.take (j + 1)).map qD)),t2,t3,t4]) (by
  rintro j a env hj ⟨t2,t3,t4,rfl⟩
  refine ⟨[some (.f,Ey nZ arcs),some (.d,.dct false ((N.take (j + 1)).map fun n=>D.int n.1) ((N.take (j + 1)).map qD)),some (.f,.int a.1),some (.f,.str a.2.1),some (.f,.int a.2.2)],rfl,_,?_,some (.f,.int a.1),some (.f,.str a.2.1),some (.f,.int a.2.2),rfl⟩
  obtain ⟨_,k,n,hk,hn,e,Jk⟩:=b.tr j a hj
  have ht:N.take (j + 1 + 1)=N.take (j + 1)++[(a.2.2,n.2++[a.2.1])]:=by rw [List.take_add_one,Jk];rfl
  have ndt:((N.take (j + 1)).map (·.1)).Nodup:=by rw [List.map_take];exact F.nd.take
  have LJ:(N.take (j + 1))[k]?=some n:=by rw [List.getElem?_take_of_lt (by lia)];exact hn
  have hg:=pI (N.take (j + 1)) k n ndt LJ
  have J5:a.2.2∉(N.take (j + 1)).map (·.1):=by
   have OQ:((N.take (j + 1 + 1)).map (·.1)).Nodup:=by rw [List.map_take];exact F.nd.take
   rw [ht,List.map_append,List.nodup_append] at OQ
   intro hm
   exact OQ.2.2 _ hm a.2.2 (by simp) rfl
  have hp:=yY (N.take (j + 1)) (a.2.2,n.2++[a.2.1]) J5
  have hw:=F.wl n (List.mem_of_getElem? hn)
  have ha:=Dw n.2 a.2.1 (by lia)
  have hd:J6 (.dct false ((N.take (j + 1)).map fun n=>D.int n.1) ((N.take (j + 1)).map qD)) (.int a.1)=.ok (.f,.tup (n.2.map D.str)):=by
   unfold J6
   dsimp only
   rw [if_pos (show eQ false (.int a.1)=true from rfl),e,hg]
   rfl
  have hz:(decide (((N.take (j + 1)).map fun n=>D.int n.1).length < sizeLine))=true:=decide_eq_true (iN (by rw [a7,List.length_take];lia))
  unfold qD at hp
  dsimp only at hp
  have ew:(fun n:Nd=>D.tup (n.2.map D.str))=qD:=rfl
  rw [ew] at hp
  rw [ht]
  unfold fY
  simp only [↓pd,pv,seval,op,hd,ha,hz,Bool.and_self,hp]) _ ⟨none,none,none,rfl⟩
 rw [show N.take (T.length + 1)=N by rw [<-hlen];exact List.take_length] at ef
 have h0:N.take (0 + 1)=[(0,[])]:=by rw [List.take_add_one,F.z];rfl
 rw [h0] at ef
 rw [ax (env':=_) (by
  unfold ki
  unfold Ey at ef ⊢
  simp only [↓pd,pv,seval,op,et,pJ]
  exact ef)]
 clear ef
 unfold jj
 have Ja:=pH nZ arcs (by lia)
 have hc:b5 (au 0) dy (az J6 (ai 1) (ai 0)) ((List.range (ba arcs).toNat).map fun (k:Nat)=>D.int (k:Int)) [none,some (.f,.dct false (N.map fun n=>D.int n.1) (N.map qD))]=.ok ((List.range (ba arcs).toNat).map fun (s:Nat)=>.tup ((aX N (s:Int)).map D.str)):=by
  refine aW (r:=fun s:Nat=>D.tup ((aX N (s:Int)).map D.str)) (fun env=>∃ t1,env=[t1,some (.f,.dct false (N.map fun n=>D.int n.1) (N.map qD))]) (List.range (ba arcs).toNat) ?_ _ ⟨_,rfl⟩
  rintro s N3 env ⟨t1,rfl⟩
  rw [List.mem_range] at N3
  obtain ⟨n,hn,en⟩:=mL (all N F (s:Int) (by lia) (by lia))
  obtain ⟨k,hk⟩:=List.mem_iff_getElem?.mp hn
  have hd:J6 (.dct false (N.map fun n=>D.int n.1) (N.map qD)) (.int (s:Int))=.ok (.f,.tup ((aX N (s:Int)).map D.str)):=by
   unfold J6
   dsimp only
   rw [if_pos (show eQ false (.int (s:Int))=true from rfl),<-en,pI N k n F.nd hk,qE F.nd hn]
   rfl
  refine ⟨[some (.f,.int (s:Int)),some (.f,.dct false (N.map fun n=>D.int n.1) (N.map qD))],rfl,?_⟩
  simp only [↓pd,pv,seval,op,hd]
  exact ⟨_,_,rfl,_,rfl⟩
 have hf:flatDs ((List.range (ba arcs).toNat).map fun (s:Nat)=>D.tup ((aX N (s:Int)).map D.str))=true:=by
  rw [bq,List.all_map,List.all_eq_true]
  intro s _
  show cD (.tup _)=true
  rw [bN,PV.flat_strs]
 unfold Ey at Ja
 simp only [↓pd,pv,seval,op,Ja]
 rw [if_pos (by lia)]
 simp only [↓pd,pv,seval,op,hc]
 rw [if_pos (aM (by rw [a7,List.length_range];lia)),hf]
 simp only [↓pd,pv,seval,op]
noncomputable def ak (a:Ex):List Key:=[.inl a.1,.inr (S a.2.1),.inl a.2.2]
noncomputable def Fy (a b:Ex):Bool:=dH (ak a) (ak b)
theorem S_inj {a b:List Nat} (h:S a=S b):a=b:=by
 have:=congrArg (fun s:Str=>s.cps.toList) h
 simpa only [dB] using this
theorem Dc (a:Ex):kT (ak a)=eA a:=by
 unfold kT ak eA
 simp only [fK,List.map_nil,kD,dB]
theorem uz {α β:Type} (f:α->β) (lt:β->β->Bool) (x:α):∀ l:List α,ins lt (f x) (l.map f)=(ins (fun a b=>lt (f a) (f b)) x l).map f
 | []=>rfl
 | y :: ys=>by
  rw [fK,ins,ins]
  cases lt (f y) (f x) with
  | true=>rw [if_pos rfl,if_pos rfl,uz f lt x ys,fK]
  | false=>rw [if_neg Bool.false_ne_true,if_neg Bool.false_ne_true,fK,fK]
theorem oC {α β:Type} (f:α->β) (lt:β->β->Bool):∀ l:List α,EB lt (l.map f)=(EB (fun a b=>lt (f a) (f b)) l).map f
 | []=>rfl
 | x :: l=>by
  show ins lt (f x) (EB lt (l.map f))=_
  rw [oC f lt l,uz]
  rfl
theorem uA (as:List Ex):as.map eA=(as.map ak).map kT:=by
 rw [List.map_map]
 exact List.map_congr_left fun a _=>(Dc a).symm
theorem Bv (a b:Ex):Er (eA a) (eA b)=decide (a=b):=by
 obtain ⟨x,y,z⟩:=a
 obtain ⟨x',y',z'⟩:=b
 unfold eA
 simp only [Er,iW]
 rw [Bool.eq_iff_iff]
 simp
theorem gx:∀ (l:List Int) (b:Int),b<=l.foldl max b/\(∀ x∈l,x<=l.foldl max b)/\(l.foldl max b=b\/l.foldl max b∈l)
 | [],b=>⟨Int.le_refl _,fun _ h=>(nomatch h),.inl rfl⟩
 | a :: l,b=>by
  obtain ⟨h1,h2,h3⟩:=gx l (max b a)
  rw [List.foldl_cons]
  refine ⟨by lia,fun x hx=>?_,?_⟩
  ·rcases List.mem_cons.mp hx with rfl | hx
   ·lia
   ·exact h2 x hx
  ·rcases h3 with h3 | h3
   ·rw [h3]
    by_cases h:b<=a
    ·exact .inr (by rw [Int.max_eq_right h];exact List.mem_cons_self)
    ·exact .inl (Int.max_eq_left (by lia))
   ·exact .inr (List.mem_cons_of_mem _ h3)
theorem qF {ns:List Int} {x:Int} (h:x∈ns):x<=m9 ns:=(gx ns _).2.1 x h
theorem wa {ns:List Int} (h:ns≠[]):m9 ns∈ns:=by
 cases ns with
 | nil=>exact absurd rfl h
 | cons a l=>
  rcases (gx (a :: l) a).2.2 with e | e
  ·show List.foldl max a (a :: l)∈a :: l
   rw [e]
   exact List.mem_cons_self
  ·exact e
theorem y0 {ns:List Int} {d x:Int} (h:x∈ns):x<=NX.maxD ns d:=by
 unfold NX.maxD
 rw [if_neg (List.ne_nil_of_mem h)]
 exact qF h
theorem uB (ns:List Int) (d:Int):(ns=[]/\NX.maxD ns d=d)\/NX.maxD ns d∈ns:=by
 unfold NX.maxD
 by_cases h:ns=[]
 ·exact .inl ⟨h,if_pos h⟩
 ·rw [if_neg h]
  exact .inr (wa h)
theorem pK (a:Ex):a.1<=qC a/\a.2.2<=qC a/\(qC a=a.1\/qC a=a.2.2):=by
 unfold qC
 split
 ·exact ⟨by lia,by lia,.inr rfl⟩
 ·exact ⟨by lia,by lia,.inl rfl⟩
theorem uC {arcs:List Ex} {a:Ex} (h:a∈arcs):a.1 < ba arcs/\a.2.2 < ba arcs:=by
 have h1:=y0 (d:=0) (List.mem_map.mpr ⟨a,h,rfl⟩:qC a∈arcs.map qC)
 obtain ⟨h2,h3,_⟩:=pK a
 unfold ba
 lia
theorem rK {arcs:List Ex} (h:∀ a∈arcs,0<=a.1/\0<=a.2.2):1<=ba arcs:=by
 unfold ba
 rcases uB (arcs.map qC) 0 with ⟨_,e⟩ | e
 ·lia
 ·obtain ⟨a,ha,e2⟩:=mL e
  have:=h a ha
  obtain ⟨h1,h2,_⟩:=pK a
  lia
theorem oD {α:Type} (lt:α->α->Bool) {l:List α} {a:α}:a∈EB lt l<->a∈l:=(dQ lt l).mem_iff
theorem Found.zero {arcs:List Ex} {N:List Nd} (F:Found arcs N):(0:Int)∈N.map (·.1):=List.mem_map.mpr ⟨(0,[]),List.mem_of_getElem? F.z,rfl⟩
structure Ch (nZ:LNN) (arcs:List Ex):Prop where
 al:arcs.length<=60
 bd:∀ a∈arcs,(0<=a.1/\a.1 < 12)/\0<=a.2.2/\a.2.2 < 12
 nm:∀ a∈arcs,a.2.1∈nZ
 st:1<=ba arcs/\ba arcs<=12
 all:∀ N,Found arcs N->∀ s:Int,0<=s->s < ba arcs->s∈N.map (·.1)
structure Ra (nZ:LNN) (as:List Ex) (many:Nat):Prop where
 mm:1<=many/\many<=12
 len:as.length<=60
 bd:∀ a∈as,(0<=a.1/\a.1 < (many:Int))/\0<=a.2.2/\a.2.2 < (many:Int)
 nm:∀ a∈as,a.2.1∈nZ
 rc:∀ j:Nat,1<=j->j < many->∃ a∈as,a.2.2=(j:Int)/\∃ b:Nat,b < j/\a.1=(b:Int)
theorem oE {arcs:List Ex} {many:Nat} (hm:1<=many) (h:∀ a∈arcs,(0<=a.1/\a.1 < (many:Int))/\0<=a.2.2/\a.2.2 < (many:Int)):1<=ba arcs/\ba arcs<=(many:Int):=by
 refine ⟨rK fun a ha=>?_,?_⟩
 ·have:=h a ha
  lia
 ·unfold ba
  rcases uB (arcs.map qC) 0 with ⟨_,e⟩ | e
  ·lia
  ·obtain ⟨a,ha,e2⟩:=mL e
   have:=h a ha
   obtain ⟨h1,h2,h3⟩:=pK a
   lia
theorem Ra.sort {nZ:LNN} {as:List Ex} {many:Nat} (r:Ra nZ as many):Ra nZ (EB Fy as) many:=by
 have mem:∀ {a:Ex},a∈EB Fy as<->a∈as:=oD Fy
 refine ⟨r.mm,by rw [kG];exact r.len,fun a ha=>r.bd a (mem.mp ha),fun a ha=>r.nm a (mem.mp ha),fun j h1 h2=>?_⟩
 obtain ⟨a,ha,q⟩:=r.rc j h1 h2
 exact ⟨a,mem.mpr ha,q⟩
theorem Ra.ch {nZ:LNN} {as:List Ex} {many:Nat} (r:Ra nZ as many):Ch nZ as:=by
 have hm:=r.mm
 have Ja:=oE hm.1 r.bd
 refine ⟨r.len,fun a ha=>?_,r.nm,by lia,fun N F s h0 h1=>?_⟩
 ·have:=r.bd a ha
  lia
 ·have key:∀ j:Nat,j < many->(j:Int)∈N.map (·.1):=by
   intro j
   induction j using Nat.strongRecOn with
   | _ j ih=>
    intro hj
    cases j with
    | zero=>exact F.zero
    | succ j=>
     obtain ⟨a,ha,e1,b,hbj,e2⟩:=r.rc (j + 1) (by lia) hj
     obtain ⟨n,hn,en⟩:=mL (ih b hbj (by lia))
     obtain ⟨m,hm,em,_⟩:=F.clo n hn a ha (by rw [e2,en])
     exact List.mem_map.mpr ⟨m,hm,by rw [em,e1]⟩
  obtain ⟨k,rfl⟩:=Int.eq_ofNat_of_zero_le h0
  exact key k (by lia)
theorem y1 (as:List Ex) (h:as.length < 64):fV [.lst (as.map eA)]=.ok (.l .f,.lst ((EB Fy as).map eA)):=by
 have key:j5 (as.map eA)=some ((EB Fy as).map eA):=by
  cases as with
  | nil=>rfl
  | cons a as=>
   have e1:jd ((a :: as).map eA)=some ((a :: as).map ak):=by rw [uA,iX]
   have e2:sameKinds (ak a) (as.map ak)=true:=by
    unfold sameKinds
    rw [List.all_map,Bool.and_eq_true,List.all_eq_true]
    exact ⟨rfl,fun b _=>rfl⟩
   unfold j5
   rw [e1,fK,fK]
   dsimp only [eA,cF,eO]
   rw [if_pos e2,<-fK,oC ak dH,uA]
   rfl
 unfold fV
 dsimp only
 rw [if_pos (by rw [a7];exact h),key]
noncomputable def cell (ns:List Int) (k:Nat):Int:=ns.getD k 0
theorem oF (ns:List Int) (k:Nat):aN [.lst (ns.map D.int),.int (k:Int)]=.ok (.f,.int (cell ns k)):=by
 unfold aN gR cell
 rw [aU (h:=by rfl)]
 simp only [↓pd,pv,seval,op,a7]
 by_cases h:k < ns.length
 ·have h1:(k:Int) < (ns.length:Int):=by lia
  simp only [h1,decide_true,↓pd,pv,seval,d6 h]
 ·have h1:¬ (k:Int) < (ns.length:Int):=by lia
  simp only [h1,decide_false,↓pd,pv,seval,gw,List.getD_eq_getElem?_getD,List.getElem?_eq_none (Nat.le_of_not_lt h),Option.getD_none]
theorem Bw (x y:Int) (h:cB x=true):yq (.int x) (.int y)=.ok (.f,.int (x * y)):=by rw [uk,h,Bool.true_or,if_pos rfl]
theorem BZ (x y:Int) (h:cB y=true):yq (.int x) (.int y)=.ok (.f,.int (x * y)):=by rw [uk,h,Bool.or_true,if_pos rfl]
theorem qG (x:Int) (h:0<=x) (h2:x<=4294967296):cB x=true:=by
 unfold cB
 rw [decide_eq_true_eq]
 lia
noncomputable def wb (c k:Int):Int:=((((c % 2147483647 + 48271 * (k + 1)) * (c % 2147483647 + 48271 * (k + 1)) + 69621 * k) % 2147483647) * (((c % 2147483647 + 48271 * (k + 1)) * (c % 2147483647 + 48271 * (k + 1)) + 69621 * k) % 2147483647) + 16807 * k + 1) % 2147483647
theorem pL (c k:Int) (hk:0<=k) (LJ:k<=1000):aZ [.int c,.int k]=.ok (.f,.int (wb c k)):=by
 have b1:=gN c 2147483647 (by decide)
 have b2:=gN ((c % 2147483647 + 48271 * (k + 1)) * (c % 2147483647 + 48271 * (k + 1)) + 69621 * k) 2147483647 (by decide)
 unfold aZ jo wb
 rw [aU (h:=by rfl)]
 rw [ax (env':=[some (.f,.int c),some (.f,.int k),some (.f,.int (c % 2147483647 + 48271 * (k + 1)))]) (by simp only [↓pd,pv,seval,op,lC _ 2147483647 (by decide),Bw 48271 (k + 1) (by decide)])]
 have hs:cB (c % 2147483647 + 48271 * (k + 1))=true:=qG _ (by lia) (by lia)
 generalize c % 2147483647 + 48271 * (k + 1)=x at *
 rw [ax (env':=[some (.f,.int c),some (.f,.int k),some (.f,.int ((x * x + 69621 * k) % 2147483647))]) (by simp only [↓pd,pv,seval,op,lC _ 2147483647 (by decide),Bw x x hs,Bw 69621 k (by decide)])]
 generalize (x * x + 69621 * k) % 2147483647=y at *
 have hs:cB y=true:=qG _ (by lia) (by lia)
 simp only [↓pd,pv,seval,op,lC _ 2147483647 (by decide),Bw y y hs,Bw 16807 k (by decide)]
theorem qH:∀ l:List Nat,joinL [] (l.map fun c=>[c])=l
 | []=>rfl
 | [c]=>rfl
 | c :: d :: l=>by
  have ih:=qH (d :: l)
  show [c]++[]++joinL [] ((d :: l).map fun c=>[c])=_
  rw [ih]
  rfl
theorem uD:∀ l:List Nat,((l.map fun c=>[c]).map List.length).sum=l.length
 | []=>rfl
 | c :: l=>by
  rw [fK,fK,List.sum_cons,uD l]
  show 1 + l.length=l.length + 1
  lia
theorem y2 (l:List Nat) (h:l.length<=1000):tZ [] [.lst ((l.map fun c=>[c]).map D.str)]=.ok (.f,.str l):=by
 unfold tZ
 dsimp only
 rw [dU]
 dsimp only
 rw [if_pos (by rw [uD,List.length_nil,Nat.mul_zero];lia),qH]
theorem qI (a:List Nat) (l:LNN):Jc (.str a) (.lst (l.map D.str))=.ok (.f,.bl (decide (a∈l))):=by
 unfold Jc
 dsimp only
 rw [rH,vZ,plainD]
 all_goals simp
noncomputable def Je (base:List Int) (wd sp:Nat) (tk:Bool) (k:Nat):List Int:=if tk then base.take (k + 1) else (base.take wd).set sp ((base.getD sp 0 + (k:Int)) % 26)
noncomputable def He (base:List Int) (wd sp:Nat) (tk:Bool) (k:Nat):List Nat:=(Je base wd sp tk k).map fun j=>97 + j.toNat
theorem y3 (l:List Int) (hb:∀ j∈l,0<=j/\j < 26):b5 (au 0) dy (az Eu (ai 1) (ai 0)) (l.map D.int) [none,some (.f,.str Hd)]=.ok (((l.map fun j=>97 + j.toNat).map fun c=>[c]).map D.str):=by
 rw [aW (r:=fun j:Int=>D.str [97 + j.toNat]) (fun env=>∃ t,env=[t,some (.f,.str Hd)]) l ?_ _ ⟨none,rfl⟩]
 ·rw [List.map_map,List.map_map]
  rfl
 ·rintro j hj env ⟨t,rfl⟩
  obtain ⟨h0,h1⟩:=hb j hj
  refine ⟨[some (.f,.int j),some (.f,.str Hd)],rfl,.f,[some (.f,.int j),some (.f,.str Hd)],?_,_,rfl⟩
  simp only [↓pd,pv,seval,op,Bt j h0 h1]
theorem De (base:List Int) (hb:∀ j∈base,0<=j/\j < 26) (wd sp:Nat) (tk:Bool) (k:Nat):∀ j∈Je base wd sp tk k,0<=j/\j < 26:=by
 intro j hj
 unfold Je at hj
 split at hj
 ·exact hb j (List.mem_of_mem_take hj)
 ·rcases List.mem_or_eq_of_mem_set hj with h | h
  ·exact hb j (List.mem_of_mem_take h)
  ·rw [h]
   exact gN _ _ (by decide)
theorem uE (base:List Int) (hl:base.length=8) (wd sp:Nat) (tk:Bool) (k:Nat):(Je base wd sp tk k).length<=8:=by
 unfold Je
 split
 ·rw [List.length_take];lia
 ·rw [List.length_set,List.length_take];lia
theorem Bx (Ff:Int) (base:List Int) (hl:base.length=8) (hb:∀ j∈base,0<=j/\j < 26) (wd sp:Nat) (hw:wd<=8) (hs:sp < wd) (tk:Bool) (Nk:(Ff / 64 % 4 == 1)=tk) (l:LNN) (hll:l.length<=10) (k:Nat) (t7:Option R) :
  ∃ u7,c6 [some (.f,.int Ff),some (.f,.str Hd),some (.l .f,.lst (base.map D.int)),some (.f,.int (wd:Int)),some (.f,.int (sp:Int)),some (.l .f,.lst (l.map D.str)),some (.f,.int (k:Int)),t7]=.ok (.nx [some (.f,.int Ff),some (.f,.str Hd),some (.l .f,.lst (base.map D.int)),some (.f,.int (wd:Int)),some (.f,.int (sp:Int)),some (.l .f,.lst ((l++[He base wd sp tk k]).map D.str)),some (.f,.int (k:Int)),u7]):=by
 have Lu:jA (base.map D.int) none (some (wd:Int))=(base.take wd).map D.int:=by rw [qA,List.map_take]
 have Jd:E6 ((base.take wd).map D.int) (sp:Int)=some (.int (base.getD sp 0)):=by
  rw [d6 (by rw [List.length_take];lia)]
  congr 2
  rw [List.getD_eq_getElem?_getD,List.getD_eq_getElem?_getD,List.getElem?_take_of_lt hs]
 have Ga:ixN (base.take wd).length (sp:Int)=some sp:=pF _ _ (by rw [List.length_take];lia)
 have hnl:=uE base hl wd sp tk k
 have Kt:=y3 (Je base wd sp tk k) (De base hb wd sp tk k)
 have hj:=y2 (He base wd sp tk k) (by unfold He;rw [a7];lia)
 have hz:(l.map D.str).length < sizeLine:=iN (by rw [a7];lia)
 have hzl:(((He base wd sp tk k).map fun c=>[c]).map D.str).length<=sizeLine:=aM (by unfold He;rw [a7,a7,a7];lia)
 have GI:=PV.flat_strs ((He base wd sp tk k).map fun c=>[c])
 have Kt:b5 (au 0) dy (az Eu (ai 1) (ai 0)) ((Je base wd sp tk k).map D.int) [none,some (.f,.str Hd)]=.ok (((He base wd sp tk k).map fun c=>[c]).map D.str):=Kt
 unfold c6
 rw [ax (env':=[some (.f,.int Ff),some (.f,.str Hd),some (.l .f,.lst (base.map D.int)),some (.f,.int (wd:Int)),some (.f,.int (sp:Int)),some (.l .f,.lst (l.map D.str)),some (.f,.int (k:Int)),some (.l .f,.lst ((base.take wd).map D.int))]) (by simp only [↓pd,pv,seval,op,Lu])]
 rw [ax (env':=[some (.f,.int Ff),some (.f,.str Hd),some (.l .f,.lst (base.map D.int)),some (.f,.int (wd:Int)),some (.f,.int (sp:Int)),some (.l .f,.lst (l.map D.str)),some (.f,.int (k:Int)),some (.l .f,.lst (((base.take wd).set sp ((base.getD sp 0 + (k:Int)) % 26)).map D.int))]) (by
  rw [List.map_set]
  simp only [↓pd,pv,seval,op,Jd,lC _ 26 (by decide),a7,Ga])]
 rw [ax (env':=[some (.f,.int Ff),some (.f,.str Hd),some (.l .f,.lst (base.map D.int)),some (.f,.int (wd:Int)),some (.f,.int (sp:Int)),some (.l .f,.lst (l.map D.str)),some (.f,.int (k:Int)),some (.l .f,.lst ((Je base wd sp tk k).map D.int))]) (by
  unfold Je
  cases tk with
  | true=>
   have MN:jA (base.map D.int) none (some ((k:Int) + 1))=(base.take (k + 1)).map D.int:=by rw [show (k:Int) + 1=((k + 1:Nat):Int) by lia,qA,List.map_take]
   simp only [↓pd,pv,seval,op,jD _ 64 (by decide) (by decide),lC _ 4 (by decide),Nk,MN]
  | false=>simp only [↓pd,pv,seval,op,jD _ 64 (by decide) (by decide),lC _ 4 (by decide),Nk,gw])]
 refine ⟨some (.l .f,.lst ((Je base wd sp tk k).map D.int)),?_⟩
 generalize Je base wd sp tk k=W at *
 generalize He base wd sp tk k=V at *
 rw [List.map_append,fK,List.map_nil]
 generalize (az Eu (ai 1) (ai 0))=GG at Kt ⊢
 simp only [↓pd,pv,seval,op,Kt,hzl,GI,hj,hz]
theorem y4 (base:List Int) (hl:base.length=8) (hb:∀ j∈base,0<=j/\j < 26) (wd sp:Nat) (hw:wd<=8) (hs:sp < wd) (tk:Bool) (k k':Nat) (hk:k<=5) (hk':k'<=5) (e:He base wd sp tk k=He base wd sp tk k'):k=k':=by
 unfold He Je at e
 cases tk with
 | true=>
  have:=congrArg List.length e
  simp only [if_true,a7,List.length_take] at this
  lia
 | false=>
  have e2:=congrArg (fun l=>l[sp]?) e
  have EY:sp < (base.take wd).length:=by rw [List.length_take];lia
  simp only [gw,if_false,List.getElem?_map,List.getElem?_set_self EY,Option.map_some,Option.some.injEq] at e2
  have b1:=gN (base.getD sp 0 + (k:Int)) 26 (by decide)
  have b2:=gN (base.getD sp 0 + (k':Int)) 26 (by decide)
  generalize base.getD sp 0=z at *
  lia
theorem y6 (Ff:Int):∃ l:LNN,l.length=5/\l.Nodup/\l.Pairwise (fun a b=>IJ b a=false)/\cS [.int Ff]=.ok (.l .f,.lst (l.map D.str)):=by
 unfold cS jq
 rw [aU (h:=by rfl)]
 rw [ax (env':=[some (.f,.int Ff),some (.f,.str Hd),none,none,none,none,none,none]) (by simp only [↓pd,pv,seval,op];rfl)]
 have hc:b5 (au 0) dy (az jc (aj (cA aZ (ag (ai 1) (ag (ai 0) ay)))) (aj (aE (.int 26)))) ((List.range 8).map fun (k:Nat)=>D.int (k:Int)) [none,some (.f,.int Ff)]=.ok (((List.range 8).map fun (k:Nat)=>wb Ff (k:Int) % 26).map D.int):=by
  rw [aW (r:=fun k:Nat=>D.int (wb Ff (k:Int) % 26)) (fun env=>∃ t,env=[t,some (.f,.int Ff)]) (List.range 8) ?_ _ ⟨none,rfl⟩]
  ·rw [List.map_map]
   rfl
  ·rintro k hk env ⟨t,rfl⟩
   have hk:=List.mem_range.mp hk
   refine ⟨[some (.f,.int (k:Int)),some (.f,.int Ff)],rfl,.f,[some (.f,.int (k:Int)),some (.f,.int Ff)],?_,_,rfl⟩
   simp only [↓pd,pv,seval,op,pL Ff (k:Int) (by lia) (by lia),lC _ 26 (by decide)]
 have KJ:((List.range 8).map fun (k:Nat)=>wb Ff (k:Int) % 26).length=8:=rfl
 have LY:∀ j∈((List.range 8).map fun (k:Nat)=>wb Ff (k:Int) % 26),0<=j/\j < 26:=by
  intro j hj
  obtain ⟨k,_,rfl⟩:=mL hj
  exact gN _ _ (by decide)
 generalize ((List.range 8).map fun (k:Nat)=>wb Ff (k:Int) % 26)=base at hc KJ LY
 have hlen:(base.map D.int).length<=sizeLine:=aM (by rw [a7];lia)
 have hff:=En base
 rw [ax (env':=[some (.f,.int Ff),some (.f,.str Hd),some (.l .f,.lst (base.map D.int)),none,none,none,none,none]) (by
  generalize (az jc (aj (cA aZ (ag (ai 1) (ag (ai 0) ay)))) (aj (aE (.int 26))))=GG at hc ⊢
  simp only [↓pd,pv,seval,op]
  rw [if_pos (by decide)]
  simp only [↓pd,pv,seval,op,show (8:Int).toNat=8 from rfl,hc,hlen,hff])]
 have m8:=gN Ff 8 (by decide)
 obtain ⟨wd,ew⟩:=Int.eq_ofNat_of_zero_le (show 0<=1 + Ff % 8 by lia)
 have msp:=gN (Ff / 8) (wd:Int) (by lia)
 obtain ⟨sp,es⟩:=Int.eq_ofNat_of_zero_le msp.1
 rw [ax (env':=[some (.f,.int Ff),some (.f,.str Hd),some (.l .f,.lst (base.map D.int)),some (.f,.int (wd:Int)),none,none,none,none]) (by simp only [↓pd,pv,seval,op,lC _ 8 (by decide),ew])]
 rw [ax (env':=[some (.f,.int Ff),some (.f,.str Hd),some (.l .f,.lst (base.map D.int)),some (.f,.int (wd:Int)),some (.f,.int (sp:Int)),none,none,none]) (by simp only [↓pd,pv,seval,op,jD _ 8 (by decide) (by decide),lC _ (wd:Int) (by lia),es])]
 rw [ax (env':=[some (.f,.int Ff),some (.f,.str Hd),some (.l .f,.lst (base.map D.int)),some (.f,.int (wd:Int)),some (.f,.int (sp:Int)),some (.l .f,.lst []),none,none]) (by simp only [↓pd,pv,seval,op])]
 obtain ⟨tk,Nk⟩:∃ tk,(Ff / 64 % 4 == 1)=tk:=⟨_,rfl⟩
 obtain ⟨env',ef,t6,t7,rfl⟩:=gv (a:=au 6) (g:=c6) (e:=fun k=>D.int (k:Int)) 5 (fun i env=>∃ (t6 t7:Option R),env=[some (.f,.int Ff),some (.f,.str Hd),some (.l .f,.lst (base.map D.int)),some (.f,.int (wd:Int)),some (.f,.int (sp:Int)),some (.l .f,.lst (((List.range i).map (He base wd sp tk)).map D.str)),t6,t7]) (by
  rintro k env hk ⟨t6,t7,rfl⟩
  obtain ⟨u7,e⟩:=Bx Ff base KJ LY wd sp (by lia) (by lia) tk Nk ((List.range k).map (He base wd sp tk)) (by rw [a7,List.length_range];lia) k t7
  rw [show ((List.range k).map (He base wd sp tk))++[He base wd sp tk k]=(List.range (k + 1)).map (He base wd sp tk) by rw [List.range_succ,List.map_append];rfl] at e
  exact ⟨_,rfl,_,e,_,_,rfl⟩) _ ⟨none,none,rfl⟩
 rw [List.range_zero,List.map_nil,List.map_nil] at ef
 rw [ax (env':=_) (by
  unfold gS
  simp only [↓pd,pv,seval,op]
  rw [if_pos (by decide)]
  simp only [↓pd,pv,seval,op,show (5:Int).toNat=5 from rfl]
  exact ef)]
 unfold f7
 have JC:((List.range 5).map (He base wd sp tk)).length=5:=by rw [a7,List.length_range]
 have Lb:((List.range 5).map (He base wd sp tk)).Nodup:=kH _ 5 fun i j hi hj e=>y4 base KJ LY wd sp (by lia) (by lia) tk i j (by lia) (by lia) e
 have OR:∀ n∈((List.range 5).map (He base wd sp tk)),n.length<=8:=by
  intro n hn
  obtain ⟨k,_,rfl⟩:=mL hn
  unfold He
  rw [a7]
  exact uE base KJ wd sp tk k
 generalize ((List.range 5).map (He base wd sp tk))=l at JC Lb OR
 by_cases hm:[109,111,118,101,115]∈l
 ·have F0:b5 (au 0) dy (az dg (aj (aE (.str [115]))) (ai 0)) (l.map D.str) [none]=.ok ((l.map fun n=>115 :: n).map D.str):=by
   rw [aW (r:=fun n:List Nat=>D.str (115 :: n)) (fun env=>∃ t,env=[t]) l ?_ _ ⟨none,rfl⟩]
   ·rw [List.map_map]
    rfl
   ·rintro n hn env ⟨t,rfl⟩
    have:=OR n hn
    refine ⟨[some (.f,.str n)],rfl,.f,[some (.f,.str n)],?_,_,rfl⟩
    simp only [↓pd,pv,seval,op,Ec [115] n (by rw [List.length_singleton];lia)]
  have N6:((l.map fun n=>115 :: n).map D.str).length<=sizeLine:=aM (by rw [a7,a7];lia)
  have hnd2:(l.map fun n=>115 :: n).Nodup:=by
   rw [List.nodup_iff_pairwise_ne,List.pairwise_map]
   exact (List.nodup_iff_pairwise_ne.mp Lb).imp fun {a b} h e=>h (List.cons.inj e).2
  have GI:=PV.flat_strs (l.map fun n=>115 :: n)
  rw [ax (env':=[some (.f,.int Ff),some (.f,.str Hd),some (.l .f,.lst (base.map D.int)),some (.f,.int (wd:Int)),some (.f,.int (sp:Int)),some (.l .f,.lst ((l.map fun n=>115 :: n).map D.str)),t6,t7]) (by
   generalize (az dg (aj (aE (.str [115]))) (ai 0))=GG at F0 ⊢
   simp only [↓pd,pv,seval,op,qI,hm,decide_true,F0,N6,GI])]
  refine ⟨EB IJ (l.map fun n=>115 :: n),by rw [kG,a7];exact JC,(dQ IJ _).nodup_iff.mpr hnd2,d8 o7 _,?_⟩
  simp only [↓pd,pv,seval,op,uq (l.map fun n=>115 :: n) (by rw [a7];lia)]
 ·rw [ax (env':=[some (.f,.int Ff),some (.f,.str Hd),some (.l .f,.lst (base.map D.int)),some (.f,.int (wd:Int)),some (.f,.int (sp:Int)),some (.l .f,.lst (l.map D.str)),t6,t7]) (by simp only [↓pd,pv,seval,op,qI,hm,decide_false,gw])]
  refine ⟨EB IJ l,by rw [kG];exact JC,(dQ IJ _).nodup_iff.mpr Lb,d8 o7 _,?_⟩
  simp only [↓pd,pv,seval,op,uq l (by lia)]
theorem By (env:PV.Env) (fo:FO) (fp Et fq:FP):CV fo fp Et fq env=Res.bnd (fo env) (f:=⟨fun p=>Res.bnd (fp p.2) (f:=⟨fun q=>Res.bnd (Et q.2) (f:=⟨fun t=>Res.bnd (fq t.2) (f:=⟨fun u=>Res.bnd (EU u.2 p.1) (f:=⟨fun d=>Res.bnd (A4 d q.1 t.1 u.1) (f:=⟨fun r=>.ok (r,u.2)⟩)⟩)⟩)⟩)⟩)⟩):=id rfl
theorem y7 (env:PV.Env) (fa fb fc:FX):yC fa fb fc env=Res.bnd (fa env) (f:=⟨fun p=>Res.bnd (fb p.2) (f:=⟨fun q=>Res.bnd (fc q.2) (f:=⟨fun t=>.ok ((.t [.f,q.1.1,t.1.1],.tup [p.1.2,q.1.2,t.1.2]),t.2)⟩)⟩)⟩):=id rfl
theorem wc {α β:Type} (f:α->β) (l:List α) (lo hi:Option Int) (c:Int):fW (l.map f) lo hi c=(fW l lo hi c).map f:=by
 unfold fW
 rw [a7,List.map_filterMap]
 congr 1
 funext i
 rw [List.getElem?_map]
theorem Dg (ds:List D) (lo hi:Option Int):A4 (.lst ds) lo hi (some 6)=.ok (.l .f,.lst (fW ds lo hi 6)):=id rfl
theorem Bz (ns:List Int) (first k:Int) (hk:0<=k/\k<=1000):∃ v:Int,dr [.lst (ns.map D.int),.int first,.int k]=.ok (.f,.int v):=by
 unfold dr km
 rw [aU (h:=by rfl)]
 rw [ax (env':=[some (.f,.lst (ns.map D.int)),some (.f,.int first),some (.f,.int k),some (.f,.int (7 + k)),none]) (by simp only [↓pd,pv,seval,op])]
 obtain ⟨env',ef,v,t4,rfl⟩:=for_list (a:=au 4) (g:=eD) (e:=D.int) (fW ns (some (first + k)) (some (first + 84)) 6) (fun j env=>∃ (v:Int) (t4:Option R),env=[some (.f,.lst (ns.map D.int)),some (.f,.int first),some (.f,.int k),some (.f,.int v),t4]) (by
  rintro j c env hj ⟨v,t4,rfl⟩
  refine ⟨_,rfl,_,?_,wb (c + v) k,some (.f,.int c),rfl⟩
  unfold eD
  simp only [↓pd,pv,seval,op,pL (c + v) k hk.1 hk.2]) _ ⟨7 + k,none,rfl⟩
 rw [ax (env':=_) (by
  unfold iH
  simp only [↓pd,pv,seval,op,By,Dg,wc]
  exact ef)]
 unfold gU
 exact ⟨v,by simp only [↓pd,pv,seval,op]⟩
def Tk (l:List Int) (cnt:Nat):Prop:=l.length=cnt/\∀ x∈l,0<=x/\x<=10
theorem Tk.app {l:List Int} {cnt:Nat} (h:Tk l cnt) {x:Int} (hx:0<=x/\x<=10):Tk (l++[x]) (cnt + 1):=by
 refine ⟨by rw [mE,h.1];rfl,fun y hy=>?_⟩
 rcases um hy with hy | hy
 ·exact h.2 y hy
 ·rw [oO hy]
  exact hx
theorem y8 (number:Int) (cnt:Nat) (hc:cnt<=10):∃ (b:Int) (ts gs:List Int),(0<=b/\b<=10)/\Tk ts cnt/\Tk gs cnt/\cT [.int number,.int (cnt:Int)]=.ok (.t [.f,.l .f,.l .f],.tup [.int b,.lst (ts.map D.int),.lst (gs.map D.int)]):=by
 unfold cT jr
 rw [aU (h:=by rfl)]
 rw [ax (env':=[some (.f,.int number),some (.f,.int (cnt:Int)),some (.l .f,.lst []),none,none,none,none,none]) (by simp only [↓pd,pv,seval,op])]
 rw [ax (env':=[some (.f,.int number),some (.f,.int (cnt:Int)),some (.l .f,.lst []),some (.l .f,.lst []),none,none,none,none]) (by simp only [↓pd,pv,seval,op])]
 obtain ⟨env',ef,ts,gs,t4,t5,t6,t7,h1,h2,rfl⟩:=gv (a:=au 4) (g:=d4) (e:=fun k=>D.int (k:Int)) cnt (fun i env=>∃ (ts gs:List Int) (t4 t5 t6 t7:Option R),Tk ts i/\Tk gs i/\env=[some (.f,.int number),some (.f,.int (cnt:Int)),some (.l .f,.lst (ts.map D.int)),some (.l .f,.lst (gs.map D.int)),t4,t5,t6,t7]) (by
  rintro j env hj ⟨ts,gs,t4,t5,t6,t7,h1,h2,rfl⟩
  have z1:(ts.map D.int).length < sizeLine:=iN (by rw [a7,h1.1];lia)
  have z2:(gs.map D.int).length < sizeLine:=iN (by rw [a7,h2.1];lia)
  have OS:=pL number (j:Int) (by lia) (by lia)
  generalize wb number (j:Int)=x at OS
  have b1:=gN x 5 (by decide)
  have b2:=gN (x / 8) 4 (by decide)
  refine ⟨[some (.f,.int number),some (.f,.int (cnt:Int)),some (.l .f,.lst (ts.map D.int)),some (.l .f,.lst (gs.map D.int)),some (.f,.int (j:Int)),t5,t6,t7],rfl,_,?_,ts++[(if 0 < 0 - (x % 5 - 2) then 0 - (x % 5 - 2) else 0) + x / 8 % 4 / 3],gs++[(if 0 < x % 5 - 2 then x % 5 - 2 else 0) + x / 8 % 4 / 3],some (.f,.int (j:Int)),some (.f,.int x),some (.f,.int (x % 5 - 2)),some (.f,.int (x / 8 % 4 / 3)),h1.app ?_,h2.app ?_,rfl⟩
  ·unfold d4
   rw [ax (env':=[some (.f,.int number),some (.f,.int (cnt:Int)),some (.l .f,.lst (ts.map D.int)),some (.l .f,.lst (gs.map D.int)),some (.f,.int (j:Int)),some (.f,.int x),t6,t7]) (by simp only [↓pd,pv,seval,op,OS])]
   rw [ax (env':=[some (.f,.int number),some (.f,.int (cnt:Int)),some (.l .f,.lst (ts.map D.int)),some (.l .f,.lst (gs.map D.int)),some (.f,.int (j:Int)),some (.f,.int x),some (.f,.int (x % 5 - 2)),t7]) (by simp only [↓pd,pv,seval,op,lC _ 5 (by decide)])]
   generalize x % 5 - 2=y
   rw [ax (env':=[some (.f,.int number),some (.f,.int (cnt:Int)),some (.l .f,.lst (ts.map D.int)),some (.l .f,.lst (gs.map D.int)),some (.f,.int (j:Int)),some (.f,.int x),some (.f,.int y),some (.f,.int (x / 8 % 4 / 3))]) (by simp only [↓pd,pv,seval,op,lC _ 4 (by decide),jD _ 8 (by decide) (by decide),jD _ 3 (by decide) (by decide)])]
   generalize x / 8 % 4 / 3=z
   rw [List.map_append,List.map_append,fK,fK,List.map_nil]
   rw [ax (env':=[some (.f,.int number),some (.f,.int (cnt:Int)),some (.l .f,.lst (ts.map D.int++[.int ((if 0 < 0 - y then 0 - y else 0) + z)])),some (.l .f,.lst (gs.map D.int)),some (.f,.int (j:Int)),some (.f,.int x),some (.f,.int y),some (.f,.int z)]) (by simp only [↓pd,pv,seval,op,z1])]
   simp only [↓pd,pv,seval,op,z2]
  ·split <;> lia
  ·split <;> lia) _ ⟨[],[],none,none,none,none,⟨rfl,(fun _ h=>nomatch h)⟩,⟨rfl,(fun _ h=>nomatch h)⟩,rfl⟩
 rw [List.map_nil] at ef
 rw [ax (env':=_) (by
  unfold gW
  simp only [↓pd,pv,seval,op]
  rw [if_pos (by lia)]
  simp only [↓pd,pv,seval,op,Int.toNat_natCast]
  exact ef)]
 unfold gf
 have b:=gN (number / 16) 4 (by decide)
 exact ⟨number / 16 % 4,ts,gs,by lia,h1,h2,by simp only [↓pd,pv,seval,op,y7,jD _ 16 (by decide) (by decide),lC _ 4 (by decide)]⟩
abbrev Pl:=Int×List Int×List Int
noncomputable def eP (p:Pl):D:=.tup [.int p.1,.tup (p.2.1.map D.int),.tup (p.2.2.map D.int)]
def Ia (p:Pl) (cnt:Nat):Prop:=p.2.1.length=cnt/\p.2.2.length=cnt
theorem BA (f:Int) (l:List Int) (h:∀ x∈l,0<=x/\x<=10):b5 (au 0) dy (az jI (ai 1) (ai 0)) (l.map D.int) [none,some (.f,.int f)]=.ok ((l.map fun x=>f * x).map D.int):=by
 rw [aW (r:=fun x:Int=>D.int (f * x)) (fun env=>∃ t,env=[t,some (.f,.int f)]) l ?_ _ ⟨none,rfl⟩]
 ·rw [List.map_map]
  rfl
 ·rintro x hx env ⟨t,rfl⟩
  have:=h x hx
  refine ⟨[some (.f,.int x),some (.f,.int f)],rfl,.f,[some (.f,.int x),some (.f,.int f)],?_,_,rfl⟩
  simp only [↓pd,pv,seval,op,BZ f x (kI x (by lia) (by lia))]
theorem qJ (b:Int) (hb:0<=b/\b<=10) (ts gs:List Int) (cnt:Nat) (hc:cnt<=10) (h1:Tk ts cnt) (h2:Tk gs cnt) (Ff:Int):∃ p:Pl,Ia p cnt/\bY [.tup [.int b,.lst (ts.map D.int),.lst (gs.map D.int)],.int Ff]=.ok (.f,eP p):=by
 have p50:zm (.int 10) (.int 50)=.ok (.f,.int (10 ^ 50)):=Eb 50 (by decide)
 have m50:=gN Ff (10 ^ 50) (by decide)
 unfold bY iI
 rw [aU (h:=by rfl)]
 rw [ax (env':=[some (.f,.tup [.int b,.lst (ts.map D.int),.lst (gs.map D.int)]),some (.f,.int Ff),some (.f,.int (1 + Ff % 10 ^ 50)),none,none,none]) (by simp only [↓pd,pv,↓reduceIte,Nat.reduceAdd,Nat.reduceLT,Nat.reduceLeDiff,Nat.reduceEqDiff,op,p50,lC _ (10 ^ 50) (by decide)])]
 have hf:0 < 1 + Ff % 10 ^ 50:=by
  generalize Ff % 10 ^ 50=q at m50
  lia
 generalize 1 + Ff % 10 ^ 50=f at hf
 rw [ax (env':=[some (.f,.tup [.int b,.lst (ts.map D.int),.lst (gs.map D.int)]),some (.f,.int Ff),some (.f,.int f),some (.f,.int b),some (.f,.lst (ts.map D.int)),some (.f,.lst (gs.map D.int))]) (by simp only [↓pd,pv,seval,op])]
 have c1:=BA f ts h1.2
 have c2:=BA f gs h2.2
 have l1:((ts.map fun x=>f * x).map D.int).length<=sizeLine:=aM (by rw [a7,a7,h1.1];lia)
 have l2:((gs.map fun x=>f * x).map D.int).length<=sizeLine:=aM (by rw [a7,a7,h2.1];lia)
 have f1:=En (ts.map fun x=>f * x)
 have f2:=En (gs.map fun x=>f * x)
 refine ⟨(f * b + Ff / 7 % f,ts.map fun x=>f * x,gs.map fun x=>f * x),⟨by rw [a7];exact h1.1,by rw [a7];exact h2.1⟩,?_⟩
 unfold eP
 dsimp only
 generalize (ts.map fun x=>f * x).map D.int=T1 at *
 generalize (gs.map fun x=>f * x).map D.int=T2 at *
 have OT:=BZ f b (kI b (by lia) (by lia))
 have MO:=lC (Ff / 7) f hf
 have hdiv:=jD Ff 7 (by decide) (by decide)
 generalize f * b=fb at OT ⊢
 generalize (Ff / 7) % f=cf at MO ⊢
 rw [ax (env':=[some (.f,.tup [.int b,.lst (ts.map D.int),.lst (gs.map D.int)]),some (.f,.int Ff),some (.f,.int f),some (.f,.int b),some (.f,.tup T1),some (.f,.lst (gs.map D.int))]) (by
  generalize (az jI (ai 1) (ai 0))=GG at c1 ⊢
  simp only [↓pd,pv,seval,op,c1,l1,f1])]
 have OU:∀ GG,GG=(az jI (ai 1) (ai 0))->b5 (au 0) dy GG (gs.map D.int) [none,some (.f,.int f)]=.ok T2:=fun GG h=>by rw [h];exact c2
 rw [show (dI (jz (aI (az dg (aj (az jI (ai 2) (ai 3))) (aj (az jc (aj (az gL (ai 1) (aj (aE (.int 7))))) (ai 2)))) (aI (aJ 4) (aI (aY cE (ag (aj (cu (Fj (gM 5) (Fj (fM (aJ 5)) (fN (aJ 5)))) [none,some 2] (au 0) dy (az jI (ai 1) (ai 0)))) ay)) bP)))))=(fun GG=>dI (jz (aI (az dg (aj (az jI (ai 2) (ai 3))) (aj (az jc (aj (az gL (ai 1) (aj (aE (.int 7))))) (ai 2)))) (aI (aJ 4) (aI (aY cE (ag (aj (cu (Fj (gM 5) (Fj (fM (aJ 5)) (fN (aJ 5)))) [none,some 2] (au 0) dy GG)) ay)) bP))))) (az jI (ai 1) (ai 0)) from rfl]
 generalize eGG:(az jI (ai 1) (ai 0))=GG
 have c2:=OU GG eGG.symm
 clear eGG OU
 simp only [↓pd,pv,seval,op,OT,MO,hdiv,c2,l2,f2]
theorem we (ns:List Int) (first:Nat) (cnt:Nat) (hc:cnt<=10) (ps:List Pl) (OV:∀ p∈ps,Ia p cnt) (hl:ps.length<=100) (k:Nat) (hk:k<=100) (t5 t6 t7:Option R) :
  ∃ (LL:List Pl) (u5 u6 u7:Option R),(∀ p∈LL,Ia p cnt)/\ps.length + 1<=LL.length/\LL.length<=ps.length + 2/\cJ [some (.f,.lst (ns.map D.int)),some (.f,.int (first:Int)),some (.f,.int (cnt:Int)),some (.l .f,.lst (ps.map eP)),some (.f,.int (k:Int)),t5,t6,t7]=.ok (.nx [some (.f,.lst (ns.map D.int)),some (.f,.int (first:Int)),some (.f,.int (cnt:Int)),some (.l .f,.lst (LL.map eP)),some (.f,.int (k:Int)),u5,u6,u7]):=by
 obtain ⟨v,ev⟩:=Bz ns (first:Int) (k:Int) (by lia)
 obtain ⟨b,ts,gs,hb,h1,h2,ep⟩:=y8 v cnt hc
 have c1:=oF ns (first + k)
 rw [show ((first + k:Nat):Int)=(first:Int) + (k:Int) by lia] at c1
 have c2:=oF ns (first + 6 + k)
 rw [show ((first + 6 + k:Nat):Int)=(first:Int) + 6 + (k:Int) by lia] at c2
 obtain ⟨p1,OW,e1⟩:=qJ b hb ts gs cnt hc h1 h2 (cell ns (first + k))
 have m4:=gN (v / 256) 4 (by decide)
 obtain ⟨p2,L7,e2⟩:=qJ (v / 256 % 4) (by lia) gs ts cnt hc h2 h1 (cell ns (first + 6 + k))
 have K2:bJ (.t [.f,.l .f,.l .f]) (.tup [.int b,.lst (ts.map D.int),.lst (gs.map D.int)])=true:=by
  have f1:=En ts
  have f2:=En gs
  simp only [bJ,ny,cD]
  rw [<-bq,<-bq,f1,f2]
  rfl
 have KL:∀ p:Pl,cD (eP p)=true:=fun p=>by
  unfold eP
  rw [bN]
  simp only [flatDs,bN,En,gJ]
  rfl
 have N7:(ps.map eP).length < sizeLine:=iN (by rw [a7];lia)
 have JN:(ps.map eP++[eP p1]).length < sizeLine:=iN (by rw [mE,a7,List.length_singleton];lia)
 unfold cJ
 rw [ax (env':=[some (.f,.lst (ns.map D.int)),some (.f,.int (first:Int)),some (.f,.int (cnt:Int)),some (.l .f,.lst (ps.map eP)),some (.f,.int (k:Int)),some (.f,.int v),t6,t7]) (by simp only [↓pd,pv,seval,op,ev])]
 rw [ax (env':=[some (.f,.lst (ns.map D.int)),some (.f,.int (first:Int)),some (.f,.int (cnt:Int)),some (.l .f,.lst (ps.map eP)),some (.f,.int (k:Int)),some (.f,.int v),some (.t [.f,.l .f,.l .f],.tup [.int b,.lst (ts.map D.int),.lst (gs.map D.int)]),t7]) (by simp only [↓pd,pv,seval,op,ep,K2])]
 rw [ax (env':=[some (.f,.lst (ns.map D.int)),some (.f,.int (first:Int)),some (.f,.int (cnt:Int)),some (.l .f,.lst (ps.map eP++[eP p1])),some (.f,.int (k:Int)),some (.f,.int v),some (.t [.f,.l .f,.l .f],.tup [.int b,.lst (ts.map D.int),.lst (gs.map D.int)]),t7]) (by simp only [↓pd,pv,seval,op,c1,e1,KL,N7])]
 by_cases h3:0 < v / 64 % 3
 ·refine ⟨ps++[p1,p2],some (.f,.int v),some (.f,.tup [.int b,.lst (ts.map D.int),.lst (gs.map D.int)]),some (.f,.tup [.int (v / 256 % 4),.lst (gs.map D.int),.lst (ts.map D.int)]),fun p hp=>?_,by rw [mE];simp,by rw [mE];simp,?_⟩
  ·rcases um hp with hp | hp
   ·exact OV p hp
   ·rcases List.mem_cons.mp hp with rfl | hp
    ·exact OW
    ·rw [oO hp]
     exact L7
  ·rw [List.map_append,fK,fK,List.map_nil,show ps.map eP++[eP p1,eP p2]=(ps.map eP++[eP p1])++[eP p2] by rw [List.append_assoc];rfl]
   simp only [↓pd,pv,seval,op,jD _ 64 (by decide) (by decide),jD _ 256 (by decide) (by decide),lC _ 3 (by decide),lC _ 4 (by decide),gt_iff_lt,h3,decide_true,at2,c2,e2,KL,JN]
 ·refine ⟨ps++[p1],some (.f,.int v),some (.t [.f,.l .f,.l .f],.tup [.int b,.lst (ts.map D.int),.lst (gs.map D.int)]),t7,fun p hp=>?_,by rw [mE];simp,by rw [mE];simp,?_⟩
  ·rcases um hp with hp | hp
   ·exact OV p hp
   ·rw [oO hp]
    exact OW
  ·rw [List.map_append,fK,List.map_nil]
   simp only [↓pd,pv,seval,op,jD _ 64 (by decide) (by decide),lC _ 3 (by decide),gt_iff_lt,h3,decide_false,gw]
theorem wg (ns:List Int) (first:Nat) (cnt:Nat) (hc:cnt<=10):∃ ps:List Pl,(∀ p∈ps,Ia p cnt)/\ps≠[]/\ps.length<=8/\cw [.lst (ns.map D.int),.int (first:Int),.int (cnt:Int)]=.ok (.l .f,.lst (ps.map eP)):=by
 have c1:aN [.lst (ns.map D.int),.int 1]=.ok (.f,.int (cell ns 1)):=oF ns 1
 have m4:=gN (cell ns 1 / 4) 4 (by decide)
 unfold cw iJ
 rw [aU (h:=by rfl)]
 rw [ax (env':=[some (.f,.lst (ns.map D.int)),some (.f,.int (first:Int)),some (.f,.int (cnt:Int)),some (.l .f,.lst []),none,none,none,none]) (by simp only [↓pd,pv,seval,op])]
 obtain ⟨env',ef,ps,t4,t5,t6,t7,h1,h2,h3,rfl⟩:=gv (a:=au 4) (g:=cJ) (e:=fun k=>D.int (k:Int)) (1 + cell ns 1 / 4 % 4).toNat (fun i env=>∃ (ps:List Pl) (t4 t5 t6 t7:Option R),(∀ p∈ps,Ia p cnt)/\i<=ps.length/\ps.length<=2 * i/\env=[some (.f,.lst (ns.map D.int)),some (.f,.int (first:Int)),some (.f,.int (cnt:Int)),some (.l .f,.lst (ps.map eP)),t4,t5,t6,t7]) (by
  rintro k env hk ⟨ps,t4,t5,t6,t7,h1,h2,h3,rfl⟩
  obtain ⟨LL,u5,u6,u7,h1',NP,h3',e⟩:=we ns first cnt hc ps h1 (by lia) k (by lia) t5 t6 t7
  exact ⟨_,rfl,_,e,LL,_,_,_,_,h1',by lia,by lia,rfl⟩) _ ⟨[],none,none,none,none,(fun _ h=>nomatch h),Nat.le_refl _,Nat.le_refl _,rfl⟩
 rw [List.map_nil] at ef
 rw [ax (env':=_) (by
  unfold gj
  simp only [↓pd,pv,seval,op,c1,jD _ 4 (by decide) (by decide),lC _ 4 (by decide)]
  rw [if_pos (by lia)]
  simp only [↓pd,pv,seval,op]
  exact ef)]
 unfold fG
 refine ⟨ps,h1,?_,by lia,by simp only [↓pd,pv,seval,op]⟩
 intro h
 rw [h,List.length_nil] at h2
 lia
theorem BC {α:Type} {l:List α} (h:l.Nodup) (lo hi:Option Int):(jA l lo hi).Nodup:=by
 unfold jA
 exact (h.sublist (List.drop_sublist _ _)).sublist (List.take_sublist _ _)
theorem BD {α:Type} {l:List α} {r:α->α->Prop} (h:l.Pairwise r) (lo hi:Option Int):(jA l lo hi).Pairwise r:=by
 unfold jA
 exact (h.sublist (List.drop_sublist _ _)).sublist (List.take_sublist _ _)
theorem y9 (ns:List Int):∃ nZ:LNN,nZ≠[]/\nZ.length<=3/\nZ.Nodup/\nZ.Pairwise (fun a b=>IJ b a=false)/\cU [.lst (ns.map D.int)]=.ok (.f,.tup (nZ.map D.str)):=by
 have c0:aN [.lst (ns.map D.int),.int 0]=.ok (.f,.int (cell ns 0)):=oF ns 0
 have c1:aN [.lst (ns.map D.int),.int 1]=.ok (.f,.int (cell ns 1)):=oF ns 1
 obtain ⟨l,hl,Lb,hpw,en⟩:=y6 (cell ns 0)
 have m3:=gN (cell ns 1) 3 (by decide)
 unfold cU jt
 rw [aU (h:=by rfl)]
 rw [ax (env':=[some (.f,.lst (ns.map D.int)),some (.l .f,.lst (l.map D.str)),none,none,none]) (by simp only [↓pd,pv,seval,op,c0,en])]
 rw [ax (env':=[some (.f,.lst (ns.map D.int)),some (.l .f,.lst (l.map D.str)),some (.f,.int (cell ns 1)),none,none]) (by simp only [↓pd,pv,seval,op,c1])]
 rw [ax (env':=[some (.f,.lst (ns.map D.int)),some (.l .f,.lst (l.map D.str)),some (.f,.int (cell ns 1)),some (.f,.int (1 + cell ns 1 % 3)),none]) (by simp only [↓pd,pv,seval,op,lC _ 3 (by decide)])]
 obtain ⟨cnt,ec⟩:=Int.eq_ofNat_of_zero_le (show 0<=1 + cell ns 1 % 3 by lia)
 rw [ec]
 have ms:=gN (cell ns 1 / 32) (6 - (cnt:Int)) (by lia)
 obtain ⟨st,es⟩:=Int.eq_ofNat_of_zero_le ms.1
 rw [ax (env':=[some (.f,.lst (ns.map D.int)),some (.l .f,.lst (l.map D.str)),some (.f,.int (cell ns 1)),some (.f,.int (cnt:Int)),some (.f,.int (st:Int))]) (by simp only [↓pd,pv,seval,op,jD _ 32 (by decide) (by decide),lC _ (6 - (cnt:Int)) (by lia),es])]
 have Lu:=yV l st (st + cnt) (by lia) (by lia)
 have hlen:(jA l (some (st:Int)) (some ((st + cnt:Nat):Int))).length=cnt:=by
  rw [Lu,List.length_take,List.length_drop]
  lia
 rw [show ((st + cnt:Nat):Int)=(st:Int) + (cnt:Int) by lia] at hlen
 refine ⟨jA l (some (st:Int)) (some ((st:Int) + (cnt:Int))),?_,by lia,BC Lb _ _,BD hpw _ _,?_⟩
 ·intro h
  rw [h,List.length_nil] at hlen
  lia
 ·simp only [↓pd,pv,seval,op,yW]
theorem BE {α:Type} {a:FG} {g:FS} {e:α->D} {r:R} {Z:Prop} (l:List α) (P:Nat->PV.Env->Prop) (h:∀ k x env,l[k]?=some x->P k env->∃ Ej,a (e x) env=.ok Ej/\((∃ Ep,g Ej=.ok (.nx Ep)/\P (k + 1) Ep)\/(g Ej=.ok (.rt r)/\Z))) :
  ∀ env,P 0 env->(∃ env',jy a g (l.map e) env=.ok (.nx env')/\P l.length env')\/(jy a g (l.map e) env=.ok (.rt r)/\Z):=by
 have key:∀ (l':List α) (k:Nat) (env:PV.Env),(∀ i x,l'[i]?=some x->l[k + i]?=some x)->P k env->(∃ env',jy a g (l'.map e) env=.ok (.nx env')/\P (k + l'.length) env')\/(jy a g (l'.map e) env=.ok (.rt r)/\Z):=by
  intro l'
  induction l' with
  | nil=>exact fun k env _ hp=>.inl ⟨env,rfl,hp⟩
  | cons d l' ih=>
   intro k env hd hp
   obtain ⟨Ej,h1,⟨Ep,h2,h3⟩ | ⟨h2,hz⟩⟩:=h k d env (hd 0 d rfl) hp
   ·rw [fK,kF,h1,EI,h2,EI]
    rcases ih (k + 1) Ep (fun i x e=>by have:=hd (i + 1) x (by simpa using e);rw [show k + 1 + i=k + (i + 1) by lia];exact this) h3 with ⟨env',h4,h5⟩ | h4
    ·exact .inl ⟨env',h4,by rw [List.length_cons,show k + (l'.length + 1)=k + 1 + l'.length by lia];exact h5⟩
    ·exact .inr h4
   ·right
    rw [fK,kF,h1,EI,h2,EI]
    exact ⟨rfl,hz⟩
 intro env hp
 have:=key l 0 env (fun i x e=>by rw [Nat.zero_add];exact e) hp
 rwa [Nat.zero_add] at this
theorem qK {c:FT} {g:FS} {r:R} {Z:Prop} (P:Nat->PV.Env->Prop) (fin:PV.Env->Prop) (h:∀ k env,P k env->(∃ Ej,c env=.ok (false,Ej)/\fin Ej)\/(∃ Ej,c env=.ok (true,Ej)/\((∃ Ep k',g Ej=.ok (.nx Ep)/\k' < k/\P k' Ep)\/(g Ej=.ok (.rt r)/\Z)))) :
  ∀ n k env,k < n->P k env->(∃ env',cY c g n env=.ok (.nx env')/\fin env')\/(cY c g n env=.ok (.rt r)/\Z)
 | 0,k,env,hk,_=>absurd hk (Nat.not_lt_zero _)
 | n + 1,k,env,hk,hp=>by
  rcases h k env hp with ⟨Ej,h1,h2⟩ | ⟨Ej,h1,⟨Ep,k',h2,h3,h4⟩ | ⟨h2,hz⟩⟩
  ·exact .inl ⟨Ej,by rw [iM,h1,EI];rfl,h2⟩
  ·have e:cY c g (n + 1) env=cY c g n Ep:=by
    rw [iM,h1,EI]
    dsimp only
    rw [if_pos rfl,h2,EI]
   rw [e]
   exact qK P fin h n k' Ep (by lia) h4
  ·right
   refine ⟨?_,hz⟩
   rw [iM,h1,EI]
   dsimp only
   rw [if_pos rfl,h2,EI]
noncomputable def gy (k:Nat):List (Int×Pl)->Option (List Int)
 | []=>some []
 | z :: zs=>if z.1 < z.2.2.1.getD k 0 then none else (gy k zs).map fun r=>(z.1 - z.2.2.1.getD k 0 + z.2.2.2.getD k 0) :: r
theorem oG (k:Nat):∀ {zs:List (Int×Pl)} {r:List Int},gy k zs=some r->r.length=zs.length
 | [],r,h=>by cases h;rfl
 | z :: zs,r,h=>by
  rw [gy] at h
  split at h
  ·cases h
  ·rw [Option.map_eq_some_iff] at h
   obtain ⟨r',h1,rfl⟩:=h
   rw [List.length_cons,List.length_cons,oG k h1]
theorem mF (k:Nat):∀ {zs:List (Int×Pl)} {r:List Int} {j:Nat} {z:Int×Pl},gy k zs=some r->zs[j]?=some z->¬ z.1 < z.2.2.1.getD k 0/\r[j]?=some (z.1 - z.2.2.1.getD k 0 + z.2.2.2.getD k 0)
 | [],r,j,z,h,e=>by cases e
 | y :: zs,r,j,z,h,e=>by
  rw [gy] at h
  split at h
  ·cases h
  ·rename_i hn
   rw [Option.map_eq_some_iff] at h
   obtain ⟨r',h1,rfl⟩:=h
   cases j with
   | zero=>
    rw [List.getElem?_cons_zero] at e
    cases e
    exact ⟨hn,rfl⟩
   | succ j=>
    rw [List.getElem?_cons_succ] at e ⊢
    exact mF k h1 e
theorem BF (A0 A1 A2:Option R) (k cnt:Nat) (hk:k < cnt) (acc:List Int) (hl:acc.length<=1000) (z:Int×Pl) (hz:Ia z.2 cnt):cI [A0,A1,A2,some (.f,.int (k:Int)),some (.l .f,.lst (acc.map D.int)),some (.f,.int z.1),some (.f,eP z.2)]=if z.1 < z.2.2.1.getD k 0 then .ok (.rt (.f,.non)) else .ok (.nx [A0,A1,A2,some (.f,.int (k:Int)),some (.l .f,.lst ((acc++[z.1 - z.2.2.1.getD k 0 + z.2.2.2.getD k 0]).map D.int)),some (.f,.int z.1),some (.f,eP z.2)]):=by
 have h1:E6 (z.2.2.1.map D.int) (k:Int)=some (.int (z.2.2.1.getD k 0)):=d6 (by rw [hz.1];exact hk)
 have h2:E6 (z.2.2.2.map D.int) (k:Int)=some (.int (z.2.2.2.getD k 0)):=d6 (by rw [hz.2];exact hk)
 have N6:(acc.map D.int).length < sizeLine:=iN (by rw [a7];lia)
 unfold cI eP
 by_cases h:z.1 < z.2.2.1.getD k 0
 ·rw [if_pos h]
  simp only [↓pd,pv,seval,op,h1,h,decide_true]
 ·rw [if_neg h,List.map_append,fK,List.map_nil]
  simp only [↓pd,pv,seval,op,h1,h2,at2,h,decide_false,gw,N6]
theorem oH (A0 A1 A2:Option R) (k cnt:Nat) (hk:k < cnt):∀ (zs:List (Int×Pl)) (acc:List Int) (t5 t6:Option R),acc.length + zs.length<=1000->(∀ z∈zs,Ia z.2 cnt)->
  (gy k zs=none/\jy (gH 2 (aB (au 5) (aB (au 6) cC))) cI (zs.map fun z:Int×Pl=>D.tup [D.int z.1,eP z.2]) [A0,A1,A2,some (.f,.int (k:Int)),some (.l .f,.lst (acc.map D.int)),t5,t6]=.ok (.rt (.f,.non)))\/
  ∃ r u5 u6,gy k zs=some r/\jy (gH 2 (aB (au 5) (aB (au 6) cC))) cI (zs.map fun z:Int×Pl=>D.tup [D.int z.1,eP z.2]) [A0,A1,A2,some (.f,.int (k:Int)),some (.l .f,.lst (acc.map D.int)),t5,t6]=.ok (.nx [A0,A1,A2,some (.f,.int (k:Int)),some (.l .f,.lst ((acc++r).map D.int)),u5,u6])
 | [],acc,t5,t6,_,_=>.inr ⟨[],t5,t6,rfl,by rw [List.append_nil];rfl⟩
 | z :: zs,acc,t5,t6,hl,hp=>by
  have h1:=BF A0 A1 A2 k cnt hk acc (by rw [List.length_cons] at hl;lia) z (hp z List.mem_cons_self)
  have ha:gH 2 (aB (au 5) (aB (au 6) cC)) (D.tup [D.int z.1,eP z.2]) [A0,A1,A2,some (.f,.int (k:Int)),some (.l .f,.lst (acc.map D.int)),t5,t6]=.ok [A0,A1,A2,some (.f,.int (k:Int)),some (.l .f,.lst (acc.map D.int)),some (.f,.int z.1),some (.f,eP z.2)]:=by simp only [↓pd,pv,seval]
  rw [fK,kF,ha,EI,h1,gy]
  by_cases h:z.1 < z.2.2.1.getD k 0
  ·left
   rw [if_pos h,if_pos h]
   exact ⟨rfl,by rw [EI]⟩
  ·rw [if_neg h,if_neg h,EI]
   rcases oH A0 A1 A2 k cnt hk zs (acc++[z.1 - z.2.2.1.getD k 0 + z.2.2.2.getD k 0]) (some (.f,.int z.1)) (some (.f,eP z.2)) (by rw [List.length_cons] at hl;rw [mE,List.length_singleton];lia) (fun y hy=>hp y (List.mem_cons_of_mem _ hy)) with ⟨e1,e2⟩ | ⟨r,u5,u6,e1,e2⟩
   ·left
    exact ⟨by rw [e1];rfl,e2⟩
   ·right
    refine ⟨_,u5,u6,by rw [e1];rfl,?_⟩
    rw [List.append_assoc] at e2
    exact e2
noncomputable def eN (nZ:LNN) (ps:List Pl):D:=.tup [.tup (nZ.map D.str),.lst (ps.map eP)]
noncomputable def eM (m:List Int):D:=.tup (m.map D.int)
theorem pM {nZ : LNN} {m : List Nat} (h : m ∈ nZ) : kW (nZ.map D.str) [.str m] = .ok (.f, .int ((nZ.idxOf m : Nat) : Int)) := by
  first
    | (unfold kW
       dsimp only
       rw [dU]
       dsimp only
       rw [if_pos h])
    | (unfold kW
       simp only [dU, h, if_true])
theorem iO {α β:Type} (f:α->D) (g:β->D) (xs:List α) (ys:List β):((xs.map f).zip (ys.map g)).map (fun z=>D.tup [z.1,z.2])=(xs.zip ys).map fun z=>D.tup [f z.1,g z.2]:=by
 rw [List.zip_map,List.map_map]
 rfl
theorem BG (nZ:LNN) (ps:List Pl) (hl:ps.length<=100) (hp:∀ p∈ps,Ia p nZ.length) (m:List Int) (mv:List Nat) (hm:mv∈nZ) :
  (gy (nZ.idxOf mv) (m.zip ps)=none/\cN [eN nZ ps,eM m,.str mv]=.ok (.f,.non))\/∃ r,gy (nZ.idxOf mv) (m.zip ps)=some r/\cN [eN nZ ps,eM m,.str mv]=.ok (.f,eM r):=by
 have Ga:=pM hm
 have hk:=List.idxOf_lt_length_of_mem hm
 generalize nZ.idxOf mv=k at Ga hk
 unfold cN kl eN eM
 rw [aU (h:=by rfl)]
 rw [ax (env':=[some (.f,.tup [.tup (nZ.map D.str),.lst (ps.map eP)]),some (.f,.tup (m.map D.int)),some (.f,.str mv),some (.f,.int (k:Int)),none,none,none]) (by simp only [↓pd,pv,seval,op,Ga])]
 rw [ax (env':=[some (.f,.tup [.tup (nZ.map D.str),.lst (ps.map eP)]),some (.f,.tup (m.map D.int)),some (.f,.str mv),some (.f,.int (k:Int)),some (.l .f,.lst []),none,none]) (by simp only [↓pd,pv,seval,op])]
 rcases oH (some (.f,.tup [.tup (nZ.map D.str),.lst (ps.map eP)])) (some (.f,.tup (m.map D.int))) (some (.f,.str mv)) k nZ.length hk (m.zip ps) [] none none (by rw [List.length_nil,List.length_zip];lia) (fun z hz=>hp _ (List.of_mem_zip (show (z.1,z.2)∈m.zip ps from hz)).2) with ⟨e1,e2⟩ | ⟨r,u5,u6,e1,e2⟩
 ·left
  refine ⟨e1,?_⟩
  rw [List.map_nil] at e2
  unfold fu
  simp only [↓pd,pv,seval,op,iO,e2]
 ·right
  refine ⟨r,e1,?_⟩
  rw [List.map_nil,List.nil_append] at e2
  unfold fu gT
  simp only [↓pd,pv,seval,op,iO,e2]
theorem eqDs_ints:∀ a b:List Int,iW (a.map D.int) (b.map D.int)=decide (a=b)
 | [],[]=>rfl
 | [],_ :: _=>rfl
 | _ :: _,[]=>rfl
 | x :: a,y :: b=>by
  rw [fK,fK,iW,eqDs_ints a b,Er,Bool.eq_iff_iff]
  simp
theorem za (a b:List Int):Er (eM a) (eM b)=decide (a=b):=by
 unfold eM
 rw [Er,eqDs_ints]
theorem mG (a:List Int):plainD 40 (eM a)=true:=v7 a
theorem mH (l:List (List Int)):plainDs 40 (l.map eM)=true:=by
 induction l with
 | nil=>rfl
 | cons a l ih=>
  rw [fK,plainDs,ih,Bool.and_true]
  exact mG a
theorem ixL {α:Type} [DecidableEq α] {e:α->D} (he:∀ a b,Er (e a) (e b)=decide (a=b)) (hp:∀ l:List α,plainDs 40 (l.map e)=true) (hq:∀ a,plainD 40 (e a)=true) (l:List α) (a:α) (h:a∈l):∃ i:Nat,l[i]?=some a/\pf (l.map e) [e a]=.ok (.f,.int (i:Int)):=by
 have e1:(l.map e).any (fun d=>Er d (e a))=true:=by
  rw [List.any_map,List.any_eq_true]
  exact ⟨a,h,by show Er (e a) (e a)=true;rw [he,decide_eq_true rfl]⟩
 have e2:(l.map e).findIdx (fun d=>Er d (e a))=l.findIdx fun x=>decide (x=a):=by
  rw [List.findIdx_map]
  congr 1
  funext x
  exact he x a
 have h3:(l.findIdx fun x=>decide (x=a)) < l.length:=List.findIdx_lt_length_of_exists ⟨a,h,decide_eq_true rfl⟩
 have h4:=List.findIdx_getElem (p:=fun x=>decide (x=a)) (xs:=l) (w:=h3)
 refine ⟨l.findIdx fun x=>decide (x=a),by rw [jC h3];congr 1;simpa using h4,?_⟩
 unfold pf
 dsimp only
 rw [hq,hp,e1,e2]
 rfl
theorem kJ {α:Type} [DecidableEq α] (a:α):∀ l:List α,a∉l->((l++[a]).findIdx fun x=>decide (x=a))=l.length
 | [],_=>by simp
 | x :: l,h=>by
  rw [List.mem_cons,not_or] at h
  rw [List.cons_append,List.findIdx_cons,kJ a l h.2,decide_eq_false (fun e=>h.1 e.symm)]
  rfl
theorem Dh {α:Type} [DecidableEq α] {e:α->D} (he:∀ a b,Er (e a) (e b)=decide (a=b)) (hp:∀ l:List α,plainDs 40 (l.map e)=true) (hq:∀ a,plainD 40 (e a)=true) (l:List α) (a:α) (h:a∉l):pf (l.map e++[e a]) [e a]=.ok (.f,.int (l.length:Int)):=by
 have e0:l.map e++[e a]=(l++[a]).map e:=by rw [List.map_append];rfl
 have e1:((l++[a]).map e).any (fun d=>Er d (e a))=true:=by
  rw [List.any_map,List.any_eq_true]
  exact ⟨a,List.mem_append_right _ (List.mem_singleton.mpr rfl),by show Er (e a) (e a)=true;rw [he,decide_eq_true rfl]⟩
 have e2:((l++[a]).map e).findIdx (fun d=>Er d (e a))=l.length:=by
  rw [List.findIdx_map]
  rw [<-kJ a l h]
  congr 1
  funext x
  exact he x a
 unfold pf
 dsimp only
 rw [e0,hq,hp,e1,e2]
 rfl
theorem Ed {α:Type} [DecidableEq α] {e:α->D} (he:∀ a b,Er (e a) (e b)=decide (a=b)) (hp:∀ l:List α,plainDs 40 (l.map e)=true) (hq:∀ a,plainD 40 (e a)=true) (l:List α) (a:α):uR (e a) (.lst (l.map e))=.ok (.f,.bl (!decide (a∈l))):=by
 have e1:rO (e a) (l.map e)=decide (a∈l):=by
  unfold rO
  rw [List.any_map,Bool.eq_iff_iff,List.any_eq_true,decide_eq_true_eq]
  constructor
  ·rintro ⟨x,hx,e1⟩
   have e1:Er (e x) (e a)=true:=e1
   rw [he,decide_eq_true_eq] at e1
   rw [<-e1]
   exact hx
  ·intro h
   refine ⟨a,h,?_⟩
   show Er (e a) (e a)=true
   rw [he,decide_eq_true_eq]
 unfold uR Jc
 dsimp only
 rw [hq,hp,Bool.and_self,if_pos rfl,e1]
 rfl
structure Rm (nZ:LNN) (ps:List Pl) (S:List (List Int)) (A:List Ex) (m:Nat):Prop where
 nd:S.Nodup
 z:S[0]?=some (ps.map (·.1))
 ln:∀ s∈S,s.length=ps.length
 le:S.length<=8
 ab:∀ a∈A,a.2.1∈nZ/\∃ i j:Nat,i < m/\a.1=(i:Int)/\a.2.2=(j:Int)/\∃ s t,S[i]?=some s/\S[j]?=some t/\gy (nZ.idxOf a.2.1) (s.zip ps)=some t
 rc:∀ j:Nat,1<=j->j < S.length->∃ a∈A,a.2.2=(j:Int)/\∃ b:Nat,b < j/\a.1=(b:Int)
theorem Rm.more {nZ:LNN} {ps:List Pl} {S:List (List Int)} {A:List Ex} {m m':Nat} (r:Rm nZ ps S A m) (h:m<=m'):Rm nZ ps S A m':=⟨r.nd,r.z,r.ln,r.le,fun a ha=>by
 obtain ⟨h1,i,j,h2,h3⟩:=r.ab a ha
 exact ⟨h1,i,j,by lia,h3⟩,r.rc⟩
theorem Rm.old {nZ:LNN} {ps:List Pl} {S:List (List Int)} {A:List Ex} {d:Nat} (r:Rm nZ ps S A (d + 1)) {mv:List Nat} (hn:mv∈nZ) {s t:List Int} (hs:S[d]?=some s) {i:Nat} (ht:S[i]?=some t) (hf:gy (nZ.idxOf mv) (s.zip ps)=some t):Rm nZ ps S (A++[((d:Int),mv,(i:Int))]) (d + 1):=by
 refine ⟨r.nd,r.z,r.ln,r.le,fun a ha=>?_,fun j j1 j2=>?_⟩
 ·rcases um ha with ha | ha
  ·exact r.ab a ha
  ·rw [oO ha]
   exact ⟨hn,d,i,by lia,rfl,rfl,s,t,hs,ht,hf⟩
 ·obtain ⟨a,ha,q⟩:=r.rc j j1 j2
  exact ⟨a,List.mem_append_left _ ha,q⟩
theorem Rm.new {nZ:LNN} {ps:List Pl} {S:List (List Int)} {A:List Ex} {d:Nat} (r:Rm nZ ps S A (d + 1)) {mv:List Nat} (hn:mv∈nZ) {s t:List Int} (hs:S[d]?=some s) (ht:t∉S) (hf:gy (nZ.idxOf mv) (s.zip ps)=some t) (h8:S.length < 8):Rm nZ ps (S++[t]) (A++[((d:Int),mv,(S.length:Int))]) (d + 1):=by
 have hd:=(mD hs).1
 have hl:(S++[t]).length=S.length + 1:=by rw [mE];rfl
 have up:∀ {i:Nat} {x:List Int},S[i]?=some x->(S++[t])[i]?=some x:=fun {i x} h=>by
  rw [List.getElem?_append_left (mD h).1]
  exact h
 refine ⟨List.nodup_append.mpr ⟨r.nd,List.nodup_cons.mpr ⟨List.not_mem_nil,List.nodup_nil⟩,fun x hx y hy=>?_⟩,up r.z,fun x hx=>?_,by lia,fun a ha=>?_,fun j j1 j2=>?_⟩
 ·rw [oO hy]
  rintro rfl
  exact ht hx
 ·rcases um hx with hx | hx
  ·exact r.ln x hx
  ·rw [oO hx,oG _ hf,List.length_zip,r.ln s (List.mem_of_getElem? hs),Nat.min_self]
 ·rcases um ha with ha | ha
  ·obtain ⟨h1,i,j,h2,h3,h4,x,y,h5,h6,h7⟩:=r.ab a ha
   exact ⟨h1,i,j,h2,h3,h4,x,y,up h5,up h6,h7⟩
  ·rw [oO ha]
   exact ⟨hn,d,S.length,by lia,rfl,rfl,s,t,up hs,by rw [List.getElem?_append_right (Nat.le_refl _),Nat.sub_self];rfl,hf⟩
 ·by_cases e:j=S.length
  ·subst e
   exact ⟨_,List.mem_append_right _ (List.mem_singleton.mpr rfl),rfl,d,hd,rfl⟩
  ·obtain ⟨a,ha,q⟩:=r.rc j j1 (by lia)
   exact ⟨a,List.mem_append_left _ ha,q⟩
theorem BH (t:List Int):cD (eM t)=true:=by
 unfold eM
 rw [bN,En]
theorem BI (nZ:LNN) (ps:List Pl) (hl:ps.length<=100) (hp:∀ p∈ps,Ia p nZ.length) (S:List (List Int)) (A:List Ex) (hA:A.length<=1000) (d:Nat) (r:Rm nZ ps S A (d + 1)) (hd:d < S.length) (mv:List Nat) (hn:mv∈nZ) (t6:Option R) :
  (∃ (S':List (List Int)) (A':List Ex) (u6:Option R),Rm nZ ps S' A' (d + 1)/\S.length<=S'.length/\A'.length<=A.length + 1/\c7 [some (.f,eN nZ ps),some (.f,.int 8),some (.l .f,.lst (S.map eM)),some (.l .f,.lst (A.map eA)),some (.f,.int ((d:Nat):Int)),some (.f,.str mv),t6]=.ok (.nx [some (.f,eN nZ ps),some (.f,.int 8),some (.l .f,.lst (S'.map eM)),some (.l .f,.lst (A'.map eA)),some (.f,.int ((d:Nat):Int)),some (.f,.str mv),u6]))\/
  (c7 [some (.f,eN nZ ps),some (.f,.int 8),some (.l .f,.lst (S.map eM)),some (.l .f,.lst (A.map eA)),some (.f,.int ((d:Nat):Int)),some (.f,.str mv),t6]=.ok (.rt (.f,.non))/\∃ S A m,Rm nZ ps S A m/\S.length=8):=by
 have N8:S[d]?=some S[d]:=jC hd
 have Jd:E6 (S.map eM) (d:Int)=some (eM S[d]):=dF (by rw [List.getElem?_map,N8];rfl)
 have h8:=r.le
 have hzA:(A.map eA).length < sizeLine:=iN (by rw [a7];lia)
 have hzS:(S.map eM).length < sizeLine:=iN (by rw [a7];lia)
 have Nl:cD .non=true:=rfl
 unfold c7
 rcases BG nZ ps hl hp S[d] mv hn with ⟨hf,e⟩ | ⟨t,hf,e⟩
 ·refine .inl ⟨S,A,some (.f,.non),r,Nat.le_refl _,by lia,?_⟩
  rw [ax (env':=[some (.f,eN nZ ps),some (.f,.int 8),some (.l .f,.lst (S.map eM)),some (.l .f,.lst (A.map eA)),some (.f,.int ((d:Nat):Int)),some (.f,.str mv),some (.f,.non)]) (by simp only [↓pd,pv,seval,op,Jd,e,Nl])]
  simp only [↓pd,pv,seval,op,uu,gw]
 ·have N9:=BH t
  have Lv:=Ed za mH mG S t
  have Oa:isnO (eM t) .non=.ok (.f,.bl true):=id rfl
  rw [ax (env':=[some (.f,eN nZ ps),some (.f,.int 8),some (.l .f,.lst (S.map eM)),some (.l .f,.lst (A.map eA)),some (.f,.int ((d:Nat):Int)),some (.f,.str mv),some (.f,eM t)]) (by simp only [↓pd,pv,seval,op,Jd,e,N9])]
  by_cases hm:t∈S
  ·obtain ⟨i,hi,Ga⟩:=ixL za mH mG S t hm
   refine .inl ⟨S,A++[((d:Int),mv,(i:Int))],some (.f,eM t),r.old hn N8 hi hf,Nat.le_refl _,by rw [mE];exact Nat.le_refl _,?_⟩
   rw [List.map_append]
   simp only [↓pd,pv,seval,op,Oa,Lv,hm,decide_true,Bool.not_true,gw,xb,Ga,hzA]
   rfl
  ·by_cases h9:S.length=8
   ·right
    refine ⟨?_,S,A,d + 1,r,h9⟩
    have he:((S.length:Int) == 8)=true:=by rw [h9];rfl
    simp only [↓pd,pv,seval,op,Oa,Lv,hm,decide_false,Bool.not_false,a7,he]
   ·have he:((S.length:Int) == 8)=false:=by
     rw [beq_eq_false_iff_ne]
     lia
    have Ga:=Dh za mH mG S t hm
    refine .inl ⟨S++[t],A++[((d:Int),mv,(S.length:Int))],some (.f,eM t),r.new hn N8 hm hf (by lia),by rw [mE];lia,by rw [mE];exact Nat.le_refl _,?_⟩
    rw [List.map_append,List.map_append,fK,List.map_nil]
    have hzS':S.length < sizeLine:=iN (by lia)
    have hzA':A.length < sizeLine:=iN (by lia)
    simp only [↓pd,pv,seval,op,Oa,Lv,hm,decide_false,Bool.not_false,gw,a7,he,xb,Ga,hzA',hzS']
    rfl
theorem zb (nZ:LNN) (hn:nZ.length<=3) (ps:List Pl) (hl:ps.length<=100) (hp:∀ p∈ps,Ia p nZ.length) :
  (∃ S A m,Rm nZ ps S A m/\A.length<=24/\bV [eN nZ ps,.int 8]=.ok (.f,.tup [.lst ((EB Fy A).map eA),.lst (S.map eM)]))\/(bV [eN nZ ps,.int 8]=.ok (.f,.non)/\∃ S A m,Rm nZ ps S A m/\S.length=8):=by
 unfold bV lz
 rw [aU (h:=by rfl)]
 have hc:b5 (gH 3 (aB (au 0) (aB (au 1) (aB (au 2) cC)))) dy (aJ 0) (ps.map eP) [none,none,none]=.ok ((ps.map (·.1)).map D.int):=by
  rw [aW (r:=fun p:Pl=>D.int p.1) (fun env=>∃ t u w,env=[t,u,w]) ps ?_ _ ⟨none,none,none,rfl⟩]
  ·rw [List.map_map]
   rfl
  ·rintro p _ env ⟨t,u,w,rfl⟩
   exact ⟨[some (.f,.int p.1),some (.f,.tup (p.2.1.map D.int)),some (.f,.tup (p.2.2.map D.int))],by unfold eP;simp only [↓pd,pv,seval],.f,_,rfl,_,_,_,rfl⟩
 have hlen:((ps.map (·.1)).map D.int).length<=sizeLine:=aM (by rw [a7,a7];lia)
 have GI:=En (ps.map (·.1))
 rw [ax (env':=[some (.f,eN nZ ps),some (.f,.int 8),some (.l .f,.lst [eM (ps.map (·.1))]),none,none,none,none]) (by
  unfold eN eM
  simp only [↓pd,pv,seval,op,hc,hlen,GI])]
 rw [ax (env':=[some (.f,eN nZ ps),some (.f,.int 8),some (.l .f,.lst [eM (ps.map (·.1))]),some (.l .f,.lst []),none,none,none]) (by simp only [↓pd,pv,seval,op])]
 rw [ax (env':=[some (.f,eN nZ ps),some (.f,.int 8),some (.l .f,.lst [eM (ps.map (·.1))]),some (.l .f,.lst []),some (.f,.int 0),none,none]) (by simp only [↓pd,pv,seval,op])]
 rcases qK (c:=(E1 (az IW (ai 4) (aj (aY mf (ag (ai 2) ay)))))) (g:=c8) (r:=(.f,.non)) (Z:=∃ S A m,Rm nZ ps S A m/\S.length=8)
  (fun k env=>∃ S A d t5 t6,Rm nZ ps S A d/\d<=S.length/\A.length<=3 * d/\k=9 - d/\env=[some (.f,eN nZ ps),some (.f,.int 8),some (.l .f,.lst (S.map eM)),some (.l .f,.lst (A.map eA)),some (.f,.int ((d:Nat):Int)),t5,t6]) (fun env=>∃ S A d t5 t6,Rm nZ ps S A d/\d=S.length/\A.length<=3 * d/\env=[some (.f,eN nZ ps),some (.f,.int 8),some (.l .f,.lst (S.map eM)),some (.l .f,.lst (A.map eA)),some (.f,.int ((d:Nat):Int)),t5,t6]) (by
  rintro k env ⟨S,A,d,t5,t6,r,hd,hA,rfl,rfl⟩
  have h8:=r.le
  by_cases EY:d < S.length
  ·refine .inr ⟨[some (.f,eN nZ ps),some (.f,.int 8),some (.l .f,.lst (S.map eM)),some (.l .f,.lst (A.map eA)),some (.f,.int ((d:Nat):Int)),t5,t6],?_,?_⟩
   ·have:(d:Int) < (S.length:Int):=by lia
    simp only [↓pd,pv,seval,op,a7,this,decide_true]
   ·rcases BE (a:=au 5) (g:=c7) (e:=D.str) (r:=(.f,.non)) (Z:=∃ S A m,Rm nZ ps S A m/\S.length=8) nZ (fun j env=>∃ S' A' t5 t6,Rm nZ ps S' A' (d + 1)/\S.length<=S'.length/\A'.length<=3 * d + j/\env=[some (.f,eN nZ ps),some (.f,.int 8),some (.l .f,.lst (S'.map eM)),some (.l .f,.lst (A'.map eA)),some (.f,.int ((d:Nat):Int)),t5,t6]) (by
     rintro j mv env hj ⟨S',A',t5,t6,r',KP,hA',rfl⟩
     have OC:=(mD hj).1
     have h8:=r'.le
     refine ⟨[some (.f,eN nZ ps),some (.f,.int 8),some (.l .f,.lst (S'.map eM)),some (.l .f,.lst (A'.map eA)),some (.f,.int ((d:Nat):Int)),some (.f,.str mv),t6],rfl,?_⟩
     rcases BI nZ ps hl hp S' A' (by lia) d r' (by lia) mv (List.mem_of_getElem? hj) t6 with ⟨S2,A2,u6,r2,hd2,hA2,e⟩ | e
     ·exact .inl ⟨_,e,S2,A2,_,_,r2,by lia,by lia,rfl⟩
     ·exact .inr e) _ ⟨S,A,t5,t6,r.more (by lia),Nat.le_refl _,by lia,rfl⟩ with ⟨env',ef,S',A',t5',MP,r',KP,hA',rfl⟩ | ⟨ef,hz⟩
    ·have h8':=r'.le
     refine .inl ⟨_,9 - (d + 1),?_,by lia,S',A',d + 1,t5',MP,r',by lia,by lia,rfl,rfl⟩
     unfold c8
     rw [ax (env':=_) (by
      unfold f9
      unfold eN at ef ⊢
      simp only [↓pd,pv,seval,op]
      exact ef)]
     unfold iF
     simp only [↓pd,pv,seval,op,Int.natCast_add,Int.cast_ofNat_Int]
     rfl
    ·refine .inr ⟨?_,hz⟩
     unfold c8
     rw [GW]
     unfold f9
     unfold eN at ef ⊢
     simp only [↓pd,pv,seval,op,ef]
  ·refine .inl ⟨_,?_,S,A,d,t5,t6,r,by lia,hA,rfl⟩
   have:¬ (d:Int) < (S.length:Int):=by lia
   simp only [↓pd,pv,seval,op,a7,this,decide_false]) 100000 9 _ (by decide) ⟨[ps.map (·.1)],[],0,none,none,⟨List.nodup_cons.mpr ⟨List.not_mem_nil,List.nodup_nil⟩,rfl,fun x hx=>by rw [oO hx,a7],by simp,(fun _ h=>nomatch h),fun j j1 j2=>by rw [List.length_singleton] at j2;lia⟩,Nat.zero_le _,Nat.le_refl _,rfl,rfl⟩ with ⟨env',ew,S,A,d,t5,t6,r,hd,hA,rfl⟩ | ⟨ew,hz⟩
 ·have h8:=r.le
  left
  refine ⟨S,A,d,r,by lia,?_⟩
  rw [ax (env':=_) (by
   unfold gc
   exact ew)]
  unfold iG
  simp only [↓pd,pv,seval,op,y1 A (by lia)]
 ·right
  refine ⟨?_,hz⟩
  rw [GW]
  unfold gc
  have ew2:(cY (E1 (az IW (ai 4) (aj (aY mf (ag (ai 2) ay))))) c8 100000) [some (.f,eN nZ ps),some (.f,.int 8),some (.l .f,.lst [eM (ps.map (·.1))]),some (.l .f,.lst []),some (.f,.int 0),none,none]=.ok (.rt (.f,.non)):=ew
  rw [ew2]
  simp only [↓pd,pv,seval]
theorem BJ (p:Pl):cD (eP p)=true:=by
 unfold eP
 rw [bN]
 simp only [flatDs,bN,En,gJ]
 rfl
theorem zc (ps:List Pl):flatDs (ps.map eP)=true:=by
 rw [bq,List.all_map,List.all_eq_true]
 exact fun p _=>BJ p
theorem uF {α:Type} [DecidableEq α]:∀ (l m:List α),l.Nodup->(∀ x∈l,x∈m)->l.length<=m.length
 | [],m,_,_=>Nat.zero_le _
 | a :: l,m,nd,h=>by
  rw [List.nodup_cons] at nd
  have ha:=h a List.mem_cons_self
  have:=uF l (m.erase a) nd.2 fun x hx=>(List.mem_erase_of_ne (fun e=>nd.1 (by rw [<-e];exact hx))).mpr (h x (List.mem_cons_of_mem _ hx))
  rw [List.length_erase_of_mem ha] at this
  have:=List.length_pos_of_mem ha
  rw [List.length_cons]
  lia
noncomputable def mM (nZ:LNN) (b:Int):Pl:=(b,nZ.map fun _=>1,nZ.map fun _=>0)
theorem qL (nZ:LNN) (c:Int) {k:Nat} (h:k < nZ.length):(nZ.map fun _=>c).getD k 0=c:=by
 rw [List.getD_eq_getElem?_getD,List.getElem?_map,jC h]
 rfl
theorem uG {nZ:LNN} {ps:List Pl} {b:Int} {k:Nat} (hk:k < nZ.length) {s t:List Int} (hs:s.length=(ps++[mM nZ b]).length) (hf:gy k (s.zip (ps++[mM nZ b]))=some t):1<=s.getD ps.length 0/\t.getD ps.length 0=s.getD ps.length 0 - 1:=by
 rw [mE,List.length_singleton] at hs
 have EY:ps.length < s.length:=by lia
 have e:(s.zip (ps++[mM nZ b]))[ps.length]?=some (s[ps.length],mM nZ b):=by
  rw [List.getElem?_zip_eq_some]
  exact ⟨jC EY,by rw [List.getElem?_append_right (Nat.le_refl _),Nat.sub_self];rfl⟩
 obtain ⟨h1,h2⟩:=mF k hf e
 have e1:(mM nZ b).2.1.getD k 0=1:=qL nZ 1 hk
 have e2:(mM nZ b).2.2.getD k 0=0:=qL nZ 0 hk
 dsimp only at h1 h2
 rw [e1] at h1
 rw [e1,e2] at h2
 have e3:s.getD ps.length 0=s[ps.length]:=by rw [List.getD_eq_getElem?_getD,jC EY];rfl
 rw [e3,List.getD_eq_getElem?_getD,h2]
 exact ⟨by lia,by show _=_;simp⟩
theorem wj {nZ:LNN} {ps:List Pl} {S:List (List Int)} {A:List Ex} {m:Nat} (r:Rm nZ (ps++[mM nZ 1]) S A m):S.length<=1 + nZ.length:=by
 have hz:=r.z
 cases hS:S with
 | nil=>exact Nat.zero_le _
 | cons s0 tl=>
  rw [hS,List.getElem?_cons_zero,Option.some.injEq] at hz
  have h0:s0.getD ps.length 0=1:=by
   rw [hz,List.getD_eq_getElem?_getD,List.getElem?_map,List.getElem?_append_right (Nat.le_refl _),Nat.sub_self]
   rfl
  have key:∀ j:Nat,1<=j->∀ s,S[j]?=some s->s.getD ps.length 0=0/\∃ mv∈nZ,gy (nZ.idxOf mv) (s0.zip (ps++[mM nZ 1]))=some s:=by
   intro j
   induction j using Nat.strongRecOn with
   | _ j ih=>
    intro hj s hs
    obtain ⟨a,ha,e1,b,hb,e2⟩:=r.rc j hj (mD hs).1
    obtain ⟨hn,i',j',_,e3,e4,x,y,hx,hy,hf⟩:=r.ab a ha
    have:i'=b:=by lia
    subst this
    have:j'=j:=by lia
    subst this
    rw [hs] at hy
    cases hy
    have hd:=uG (List.idxOf_lt_length_of_mem hn) (r.ln x (List.mem_of_getElem? hx)) hf
    cases i' with
    | zero=>
     rw [hS,List.getElem?_cons_zero,Option.some.injEq] at hx
     subst hx
     exact ⟨by lia,_,hn,hf⟩
    | succ i'=>
     have:=(ih (i' + 1) hb (by lia) x hx).1
     lia
  have nd:=r.nd
  rw [hS] at nd
  have:=uF tl (nZ.filterMap fun mv=>gy (nZ.idxOf mv) (s0.zip (ps++[mM nZ 1]))) (List.nodup_cons.mp nd).2 fun s hs=>by
   obtain ⟨i,hi⟩:=List.mem_iff_getElem?.mp hs
   obtain ⟨_,mv,hmv,hf⟩:=key (i + 1) (by lia) s (by rw [hS,List.getElem?_cons_succ];exact hi)
   exact List.mem_filterMap.mpr ⟨mv,hmv,hf⟩
  have h2:=List.length_filterMap_le (fun mv=>gy (nZ.idxOf mv) (s0.zip (ps++[mM nZ 1]))) nZ
  rw [List.length_cons]
  lia
theorem oI (nZ:LNN) (c:Int):b5 (au 0) dy (aE (.int c)) (nZ.map D.str) [none]=.ok ((nZ.map fun _=>c).map D.int):=by
 rw [aW (r:=fun _:List Nat=>D.int c) (fun env=>∃ t,env=[t]) nZ ?_ _ ⟨none,rfl⟩]
 ·rw [List.map_map]
  rfl
 ·rintro n _ env ⟨t,rfl⟩
  exact ⟨[some (.f,.str n)],rfl,.f,_,rfl,_,rfl⟩
theorem Ee (ps:List Pl) (hl:ps.length<=100) (d:D):dg (.lst (ps.map eP)) (.lst [d])=.ok (.l .f,.lst (ps.map eP++[d])):=by
 rw [yT,if_pos (line_le (by rw [a7,List.length_singleton];lia))]
structure Nt (nZ:LNN) (ps:List Pl) (S:List (List Int)) (A:List Ex):Prop where
 n0:nZ≠[]
 n3:nZ.length<=3
 nn:nZ.Nodup
 nw:nZ.Pairwise (fun a b=>IJ b a=false)
 p0:ps≠[]
 p9:ps.length<=9
 po:∀ p∈ps,Ia p nZ.length
 al:A.length<=24
 rm:∃ m,Rm nZ ps S A m
theorem Di (ns:List Int) (first:Nat):∃ nZ ps S A,Nt nZ ps S A/\dt [.lst (ns.map D.int),.int (first:Int)]=.ok (.f,eN nZ ps)/\bV [eN nZ ps,.int 8]=.ok (.f,.tup [.lst ((EB Fy A).map eA),.lst (S.map eM)]):=by
 obtain ⟨nZ,n0,n3,nn,nw,en⟩:=y9 ns
 obtain ⟨ps,Ob,hp0,hp8,ep⟩:=wg ns first nZ.length (by lia)
 have KL:=zc ps
 have Jg:cD (.tup (nZ.map D.str))=true:=by rw [bN,PV.flat_strs]
 have Nl:cD .non=true:=rfl
 have Lw:∀ (x y:List D),flatDs [.lst x,.lst y]=false:=fun _ _=>rfl
 unfold dt lA
 rw [aU (h:=by rfl)]
 rw [ax (env':=[some (.f,.lst (ns.map D.int)),some (.f,.int (first:Int)),some (.f,.tup (nZ.map D.str)),none,none,none,none]) (by simp only [↓pd,pv,seval,op,en,Jg])]
 rw [ax (env':=[some (.f,.lst (ns.map D.int)),some (.f,.int (first:Int)),some (.f,.tup (nZ.map D.str)),some (.f,.int (nZ.length:Int)),none,none,none]) (by simp only [↓pd,pv,seval,op,a7])]
 rw [ax (env':=[some (.f,.lst (ns.map D.int)),some (.f,.int (first:Int)),some (.f,.tup (nZ.map D.str)),some (.f,.int (nZ.length:Int)),some (.l .f,.lst (ps.map eP)),none,none]) (by simp only [↓pd,pv,seval,op,ep,KL])]
 rcases zb nZ n3 ps (by lia) Ob with ⟨S,A,m,r,hA,er⟩ | ⟨er,_⟩
 ·refine ⟨nZ,ps,S,A,⟨n0,n3,nn,nw,hp0,by lia,Ob,hA,m,r⟩,?_,er⟩
  unfold eN at er ⊢
  simp only [↓pd,pv,seval,op,er,Lw,gw,o_isnT,C8,C9]
 ·unfold eN at er
  rw [ax (env':=[some (.f,.lst (ns.map D.int)),some (.f,.int (first:Int)),some (.f,.tup (nZ.map D.str)),some (.f,.int (nZ.length:Int)),some (.f,.lst (ps.map eP)),none,none]) (by simp only [↓pd,pv,seval,op,er,Nl,uu,gw])]
  have c1:=oI nZ 1
  have c0:=oI nZ 0
  have l1:((nZ.map fun _=>(1:Int)).map D.int).length<=sizeLine:=aM (by rw [a7,a7];lia)
  have l0:((nZ.map fun _=>(0:Int)).map D.int).length<=sizeLine:=aM (by rw [a7,a7];lia)
  have f1:=En (nZ.map fun _=>(1:Int))
  have f0:=En (nZ.map fun _=>(0:Int))
  rw [ax (env':=[some (.f,.lst (ns.map D.int)),some (.f,.int (first:Int)),some (.f,.tup (nZ.map D.str)),some (.f,.int (nZ.length:Int)),some (.f,.lst (ps.map eP)),some (.f,.tup ((nZ.map fun _=>(1:Int)).map D.int)),none]) (by simp only [↓pd,pv,seval,op,c1,l1,f1])]
  rw [ax (env':=[some (.f,.lst (ns.map D.int)),some (.f,.int (first:Int)),some (.f,.tup (nZ.map D.str)),some (.f,.int (nZ.length:Int)),some (.f,.lst (ps.map eP)),some (.f,.tup ((nZ.map fun _=>(1:Int)).map D.int)),some (.f,.tup ((nZ.map fun _=>(0:Int)).map D.int))]) (by simp only [↓pd,pv,seval,op,c0,l0,f0])]
  have KN:∀ b:Int,(ps++[mM nZ b]).map eP=ps.map eP++[.tup [.int b,.tup ((nZ.map fun _=>(1:Int)).map D.int),.tup ((nZ.map fun _=>(0:Int)).map D.int)]]:=fun b=>by
   rw [List.map_append]
   rfl
  have Ku:∀ b:Int,∀ p∈ps++[mM nZ b],Ia p nZ.length:=fun b p hp=>by
   rcases um hp with hp | hp
   ·exact Ob p hp
   ·rw [oO hp]
    exact ⟨a7 _,a7 _⟩
  have IM:∀ b:Int,(ps++[mM nZ b]).length<=9:=fun b=>by
   rw [mE,List.length_singleton]
   lia
  have MQ:∀ b:Int,ps++[mM nZ b]≠[]:=fun b h=>by simp at h
  have Oc:=fun d=>Ee ps (by lia) d
  have lo:((ps.map eP).length)<=100:=by rw [a7];lia
  rcases zb nZ n3 (ps++[mM nZ 2]) (by have:=IM 2;lia) (Ku 2) with ⟨S,A,m,r,hA,er2⟩ | ⟨er2,_⟩
  ·refine ⟨nZ,ps++[mM nZ 2],S,A,⟨n0,n3,nn,nw,MQ 2,IM 2,Ku 2,hA,m,r⟩,?_,er2⟩
   unfold eN at er2 ⊢
   rw [KN] at er2 ⊢
   simp only [↓pd,pv,seval,op,Oc,er2,Lw,gw,o_isnT,C8,C9]
  ·rcases zb nZ n3 (ps++[mM nZ 1]) (by have:=IM 1;lia) (Ku 1) with ⟨S,A,m,r,hA,er3⟩ | ⟨_,S,A,m,r,h8⟩
   ·refine ⟨nZ,ps++[mM nZ 1],S,A,⟨n0,n3,nn,nw,MQ 1,IM 1,Ku 1,hA,m,r⟩,?_,er3⟩
    unfold eN at er2 ⊢
    rw [KN] at er2 ⊢
    rw [ax (env':=[some (.f,.lst (ns.map D.int)),some (.f,.int (first:Int)),some (.f,.tup (nZ.map D.str)),some (.f,.int (nZ.length:Int)),some (.f,.lst (ps.map eP)),some (.f,.tup ((nZ.map fun _=>(1:Int)).map D.int)),some (.f,.tup ((nZ.map fun _=>(0:Int)).map D.int))]) (by simp only [↓pd,pv,seval,op,Oc,er2,Nl,uu,gw])]
    simp only [↓pd,pv,seval,op,Oc]
   ·have:=wj r
    lia
theorem Nt.ra {nZ:LNN} {ps:List Pl} {S:List (List Int)} {A:List Ex} (n:Nt nZ ps S A):Ra nZ A S.length:=by
 obtain ⟨m,r⟩:=n.rm
 have h8:=r.le
 have GH:=n.al
 have h0:=(mD r.z).1
 refine ⟨by lia,by lia,fun a ha=>?_,fun a ha=>(r.ab a ha).1,r.rc⟩
 obtain ⟨_,i,j,_,e1,e2,s,t,hs,ht,_⟩:=r.ab a ha
 have h1:=(mD hs).1
 have h2:=(mD ht).1
 lia
noncomputable def wD (w:LNN):D:=.tup (w.map D.str)
theorem BK (w:LNN) (m:List Nat):zq (w.map D.str) [.str m]=.ok (.f,.int ((w.count m:Nat):Int)):=by
 unfold zq
 dsimp only
 rw [dU]
noncomputable def row (nZ w:LNN):List Int:=nZ.map fun m=>((w.count m:Nat):Int)
theorem kK (nZ w:LNN) (hl:nZ.length<=1000):cH [.tup (nZ.map D.str),.tup (w.map D.str)]=.ok (.f,.tup ((row nZ w).map D.int)):=by
 unfold cH oj
 rw [aU (h:=by rfl)]
 have hc:b5 (au 0) dy (vS zq (ai 1) (ag (ai 0) ay)) (nZ.map D.str) [none,some (.f,.tup (w.map D.str))]=.ok ((row nZ w).map D.int):=by
  rw [aW (r:=fun m:List Nat=>D.int ((w.count m:Nat):Int)) (fun env=>∃ t1,env=[t1,some (.f,.tup (w.map D.str))]) nZ ?_ _ ⟨_,rfl⟩]
  ·unfold row
   rw [List.map_map]
   rfl
  ·rintro m _ env ⟨t1,rfl⟩
   refine ⟨[some (.f,.str m),some (.f,.tup (w.map D.str))],rfl,?_⟩
   simp only [↓pd,pv,seval,op,BK]
   exact ⟨_,_,rfl,_,rfl⟩
 simp only [↓pd,pv,seval,op,hc]
 rw [if_pos (aM (by unfold row;rw [a7,a7];lia))]
 simp only [↓pd,pv,seval,op]
theorem zd (ws:List (LNN)):flatDs (ws.map wD)=true:=by
 rw [bq,List.all_map,List.all_eq_true]
 intro s _
 show cD (.tup _)=true
 rw [bN,PV.flat_strs]
theorem xc (l:List (Int×Int)) (hl:l.length<=1000):gQ [.tup (l.map fun p=>.int p.1),.tup (l.map fun p=>.int p.2)]=.ok (.f,.tup ((l.map fun p=>p.1 - p.2).map D.int)):=by
 unfold gQ xa
 rw [aU (h:=by rfl)]
 have ez:((l.map fun p=>D.int p.1).zip (l.map fun p=>D.int p.2)).map (fun z=>D.tup [z.1,z.2])=l.map fun p=>D.tup [.int p.1,.int p.2]:=by
  rw [List.zip_map',List.map_map]
  rfl
 have hc:b5 (gH 2 (aB (au 0) (aB (au 1) cC))) dy (az nI (ai 0) (ai 1)) (l.map fun p=>D.tup [.int p.1,.int p.2]) [none,none]=.ok ((l.map fun p=>p.1 - p.2).map D.int):=by
  rw [aW (r:=fun p:Int×Int=>D.int (p.1 - p.2)) (fun env=>∃ t1 t2,env=[t1,t2]) l ?_ _ ⟨_,_,rfl⟩]
  ·rw [List.map_map]
   rfl
  ·rintro p _ env ⟨t1,t2,rfl⟩
   refine ⟨_,pE _ _ t1 t2 [],?_⟩
   simp only [↓pd,pv,seval,op]
   exact ⟨_,_,rfl,_,_,rfl⟩
 simp only [↓pd,pv,seval,op,ez,hc]
 rw [if_pos (aM (by rw [a7,a7];lia))]
 simp only [↓pd,pv,seval,op]
noncomputable def rP (nZ:LNN) (N:List Nd) (a:Ex):List Int:=(nZ.map fun m=>((((aX N a.1++[a.2.1]).count m:Nat):Int),(((aX N a.2.2).count m:Nat):Int))).map fun p=>p.1 - p.2
theorem ze (nZ w w':LNN) (hl:nZ.length<=1000):gQ [.tup ((row nZ w).map D.int),.tup ((row nZ w').map D.int)]=.ok (.f,.tup (((nZ.map fun m=>(((w.count m:Nat):Int),((w'.count m:Nat):Int))).map fun p=>p.1 - p.2).map D.int)):=by
 have h:=xc (nZ.map fun m=>(((w.count m:Nat):Int),((w'.count m:Nat):Int))) (by rw [a7];exact hl)
 rw [<-h]
 unfold row
 rw [List.map_map,List.map_map,List.map_map,List.map_map]
 rfl
theorem uH {N:List Nd} {many:Nat} {s:Int} (h0:0<=s) (h:s < (many:Int)):E6 (((List.range many).map fun (s:Nat)=>aX N (s:Int)).map wD) s=some (.tup ((aX N s).map D.str)):=by
 obtain ⟨k,rfl⟩:=Int.eq_ofNat_of_zero_le h0
 exact dF (by rw [List.getElem?_map,List.getElem?_map,List.getElem?_range (by lia)];rfl)
theorem lD (n:Nat) (arcs:List Ex):plainDs (n + 3) (arcs.map eA)=true:=by
 induction arcs with
 | nil=>rfl
 | cons a l ih=>
  rw [fK,plainDs,ih]
  rfl
theorem wm (T:List Ex) (a:Ex):uR (eA a) (.lst (T.map eA))=.ok (.f,.bl (!decide (a∈T))):=by
 have e:rO (eA a) (T.map eA)=decide (a∈T):=by
  unfold rO
  rw [List.any_map,Bool.eq_iff_iff,List.any_eq_true,decide_eq_true_eq]
  constructor
  ·rintro ⟨x,hx,e⟩
   have e:Er (eA x) (eA a)=true:=e
   rw [Bv,decide_eq_true_eq] at e
   rw [<-e]
   exact hx
  ·intro h
   refine ⟨a,h,?_⟩
   show Er (eA a) (eA a)=true
   rw [Bv,decide_eq_true_eq]
 unfold uR Jc
 dsimp only
 rw [show plainD 40 (eA a)=true from rfl,lD 37 T,Bool.and_self,if_pos rfl,e]
 rfl
noncomputable def Hf (nZ:LNN) (N:List Nd) (T arcs:List Ex):List (List Int):=(arcs.filter fun a=>!decide (a∈T)).map (rP nZ N)
theorem zf (nZ:LNN) (N:List Nd) (T l:List Ex) (a:Ex):Hf nZ N T (l++[a])=if a∈T then Hf nZ N T l else Hf nZ N T l++[rP nZ N a]:=by
 unfold Hf
 rw [List.filter_append,List.map_append]
 by_cases h:a∈T
 ·rw [if_pos h,List.filter_cons_of_neg (by simpa using h)]
  simp
 ·rw [if_neg h,List.filter_cons_of_pos (by simpa using h)]
  rfl
theorem uI (nZ:LNN) (N:List Nd) (T l:List Ex):(Hf nZ N T l).length<=l.length:=by
 unfold Hf
 rw [a7]
 exact List.length_filter_le _ _
theorem rL {nZ:LNN} {arcs:List Ex} {N:List Nd} {T:List Ex} {many:Nat} (ew:cp [Ey nZ arcs]=.ok (.l .f,.lst (((List.range many).map fun (s:Nat)=>aX N (s:Int)).map wD))) (et:cG [.lst (arcs.map eA)]=.ok (.l .f,.lst (T.map eA)))
  (hb:∀ a∈arcs,(0<=a.1/\a.1 < (many:Int))/\0<=a.2.2/\a.2.2 < (many:Int)) (hw:∀ s:Int,(aX N s).length<=1000) (hn:nZ.length<=1000) (hl:arcs.length<=1000):dn [Ey nZ arcs]=.ok (.l .f,.lst ((Hf nZ N T arcs).map fun r=>D.tup (r.map D.int))):=by
 unfold dn lr
 rw [aU (h:=by rfl)]
 have hf:=zd ((List.range many).map fun (s:Nat)=>aX N (s:Int))
 rw [ax (env':=[some (.f,Ey nZ arcs),some (.l .f,.lst (((List.range many).map fun (s:Nat)=>aX N (s:Int)).map wD)),none,none,none]) (by simp only [↓pd,pv,seval,op,ew,hf])]
 rw [ax (env':=[some (.f,Ey nZ arcs),some (.l .f,.lst (((List.range many).map fun (s:Nat)=>aX N (s:Int)).map wD)),some (.l .f,.lst (T.map eA)),none,none]) (by unfold Ey;simp only [↓pd,pv,seval,op,et,pJ])]
 rw [ax (env':=[some (.f,Ey nZ arcs),some (.l .f,.lst (((List.range many).map fun (s:Nat)=>aX N (s:Int)).map wD)),some (.l .f,.lst (T.map eA)),some (.l .f,.lst []),none]) (by simp only [↓pd,pv,seval,op])]
 obtain ⟨env',ef,t4,rfl⟩:=for_list (a:=au 4) (g:=ft) (e:=eA) arcs (fun j env=>∃ t4,env=[some (.f,Ey nZ arcs),some (.l .f,.lst (((List.range many).map fun (s:Nat)=>aX N (s:Int)).map wD)),some (.l .f,.lst (T.map eA)),some (.l .f,.lst ((Hf nZ N T (arcs.take j)).map fun r=>D.tup (r.map D.int))),t4]) (by
  rintro j a env hj ⟨t4,rfl⟩
  have Nj:=List.mem_of_getElem? hj
  have HF:=hb a Nj
  have ht:arcs.take (j + 1)=arcs.take j++[a]:=by rw [List.take_add_one,hj];rfl
  refine ⟨[some (.f,Ey nZ arcs),some (.l .f,.lst (((List.range many).map fun (s:Nat)=>aX N (s:Int)).map wD)),some (.l .f,.lst (T.map eA)),some (.l .f,.lst ((Hf nZ N T (arcs.take j)).map fun r=>D.tup (r.map D.int))),some (.f,eA a)],rfl,_,?_,some (.f,eA a),rfl⟩
  have Nm:=wm T a
  rw [ht,zf]
  unfold ft
  by_cases h:a∈T
  ·rw [if_pos h]
   simp only [↓pd,pv,seval,op,Nm,h,decide_true,Bool.not_true,gw]
  ·rw [if_neg h]
   have w1:=uH (N:=N) (many:=many) (s:=a.1) HF.1.1 HF.1.2
   have w2:=uH (N:=N) (many:=many) (s:=a.2.2) HF.2.1 HF.2.2
   have hz:((Hf nZ N T (arcs.take j)).map fun r=>D.tup (r.map D.int)).length < sizeLine:=iN (by
    have:=uI nZ N T (arcs.take j)
    rw [List.length_take] at this
    rw [a7]
    lia)
   have hr:=ze nZ (aX N a.1++[a.2.1]) (aX N a.2.2) hn
   have Od:=kK nZ (aX N a.1++[a.2.1]) hn
   have F0:=kK nZ (aX N a.2.2) hn
   have ha:=Dw (aX N a.1) a.2.1 (hw _)
   have hrr:((nZ.map fun m=>((((aX N a.1++[a.2.1]).count m:Nat):Int),(((aX N a.2.2).count m:Nat):Int))).map fun p=>p.1 - p.2)=rP nZ N a:=rfl
   rw [hrr] at hr
   rw [List.map_append,fK,List.map_nil]
   generalize ((Hf nZ N T (arcs.take j)).map fun r=>D.tup (r.map D.int))=RR at hz ⊢
   generalize (((List.range many).map fun (s:Nat)=>aX N (s:Int)).map wD)=WW at w1 w2 ⊢
   generalize ((aX N a.1++[a.2.1]).map D.str)=WA at ha Od
   generalize (row nZ (aX N a.1++[a.2.1]))=R1 at hr Od
   generalize (row nZ (aX N a.2.2))=R2 at hr F0
   generalize T.map eA=TT at Nm ⊢
   unfold Ey
   rw [show eA a=.tup [.int a.1,.str a.2.1,.int a.2.2] from rfl] at Nm ⊢
   simp only [↓pd,pv,seval,op,Nm,h,decide_false,Bool.not_false,w1,w2,at2,ha,Od,F0,hr,hz]) _ ⟨none,rfl⟩
 rw [List.take_length] at ef
 rw [ax (env':=_) (by
  unfold jk
  unfold Ey at ef ⊢
  simp only [↓pd,pv,seval,op]
  exact ef)]
 unfold iC
 simp only [↓pd,pv,seval,op]
theorem uJ (nZ:LNN) (N:List Nd) (many:Nat):flatDs ((List.range many).map fun (s:Nat)=>D.tup ((row nZ (aX N (s:Int))).map D.int))=true:=by
 rw [bq,List.all_map,List.all_eq_true]
 intro s _
 show cD (.tup _)=true
 rw [bN,En]
theorem BL (N:List Nd) (many:Nat):flatDs ((List.range many).map fun (s:Nat)=>D.tup ((aX N (s:Int)).map D.str))=true:=by
 rw [bq,List.all_map,List.all_eq_true]
 intro s _
 show cD (.tup _)=true
 rw [bN,PV.flat_strs]
theorem pN {nZ:LNN} {arcs:List Ex} {N:List Nd} {many:Nat} (hm:many<=12) (hl:nZ.length<=1000) (ew:cp [Ey nZ arcs]=.ok (.l .f,.lst ((List.range many).map fun (s:Nat)=>D.tup ((aX N (s:Int)).map D.str)))):bX [Ey nZ arcs]=.ok (.l .f,.lst ((List.range many).map fun (s:Nat)=>D.tup ((row nZ (aX N (s:Int))).map D.int))):=by
 unfold bX kj
 rw [aU (h:=by rfl)]
 have hc:b5 (au 0) dy (cA cH (ag (aj (az Eu (ai 1) (aj (aE (.int 0))))) (ag (ai 0) ay))) ((List.range many).map fun (s:Nat)=>D.tup ((aX N (s:Int)).map D.str)) [none,some (.f,Ey nZ arcs)]=.ok ((List.range many).map fun (s:Nat)=>D.tup ((row nZ (aX N (s:Int))).map D.int)):=by
  refine aW (r:=fun s:Nat=>D.tup ((row nZ (aX N (s:Int))).map D.int)) (fun env=>∃ t1,env=[t1,some (.f,Ey nZ arcs)]) (List.range many) ?_ _ ⟨_,rfl⟩
  rintro s _ env ⟨t1,rfl⟩
  refine ⟨[some (.f,.tup ((aX N (s:Int)).map D.str)),some (.f,Ey nZ arcs)],rfl,?_⟩
  unfold Ey
  simp only [↓pd,pv,seval,op,kK nZ _ hl]
  exact ⟨_,_,rfl,_,rfl⟩
 simp only [↓pd,pv,seval,op,ew,BL]
 rw [hc,EI,if_pos (aM (by rw [a7,List.length_range];lia)),uJ]
 simp only [↓pd,pv,seval,op]
noncomputable def pr (x y:List Int):Int:=((x.zip y).map fun p=>p.1 * p.2).sum
theorem kM (x y:List Int) (hl:y.length<=1000) (hs:∀ v∈y,cB v=true):bz [.tup (x.map D.int),.tup (y.map D.int)]=.ok (.f,.int (pr x y)):=by
 unfold bz og
 rw [aU (h:=by rfl)]
 have hc:b5 (gH 2 (aB (au 0) (aB (au 1) cC))) dy (az jI (ai 0) (ai 1)) ((x.zip y).map fun z=>D.tup [D.int z.1,D.int z.2]) [none,none]=.ok (((x.zip y).map fun p=>p.1 * p.2).map D.int):=by
  rw [aW (r:=fun z:Int×Int=>D.int (z.1 * z.2)) (fun env=>∃ t u,env=[t,u]) (x.zip y) ?_ _ ⟨none,none,rfl⟩]
  ·rw [List.map_map]
   rfl
  ·rintro z hz env ⟨t,u,rfl⟩
   have N7:=(List.of_mem_zip (show (z.1,z.2)∈x.zip y from hz)).2
   refine ⟨[some (.f,.int z.1),some (.f,.int z.2)],rfl,.f,[some (.f,.int z.1),some (.f,.int z.2)],?_,_,_,rfl⟩
   simp only [↓pd,pv,seval,op,BZ z.1 z.2 (hs _ N7)]
 have hlen:(((x.zip y).map fun p=>p.1 * p.2).map D.int).length<=sizeLine:=aM (by
  rw [a7,a7,List.length_zip]
  lia)
 have GI:=En ((x.zip y).map fun p=>p.1 * p.2)
 simp only [↓pd,pv,seval,op,iO,hc,hlen,GI,Bu]
 rfl
theorem i7 (a b:Int) (r s:List Int):pr (a :: r) (b :: s)=a * b + pr r s:=by
 unfold pr
 rw [List.zip_cons_cons,fK,List.sum_cons]
theorem uK (w:LNN) (m:List Nat):∀ (nZ:LNN) (uZ:List Int),nZ.Nodup->uZ.length=nZ.length->m∈nZ->pr uZ (row nZ (w++[m]))=pr uZ (row nZ w) + uZ.getD (nZ.idxOf m) 0
 | [],_,_,_,h=>nomatch h
 | x :: nZ,[],_,h,_=>by simp at h
 | x :: nZ,b :: uZ,nd,hl,hm=>by
  have nd:=List.nodup_cons.mp nd
  have e1:∀ v:LNN,row (x :: nZ) v=((v.count x:Nat):Int) :: row nZ v:=fun v=>rfl
  rw [e1,e1,i7,i7]
  by_cases hx:x=m
  ·subst hx
   have e2:row nZ (w++[x])=row nZ w:=by
    unfold row
    refine List.map_congr_left fun y hy=>?_
    have hne:y≠x:=fun h=>nd.1 (h▸hy)
    rw [List.count_append,List.count_cons_of_ne (fun h=>hne h.symm),List.count_nil,Nat.add_zero]
   rw [e2,List.count_append,List.count_singleton_self,List.idxOf_cons_self,List.getD_cons_zero]
   have:(((w.count x + 1:Nat)):Int)=(w.count x:Int) + 1:=by lia
   rw [this,Int.mul_add]
   lia
  ·have hm:=(List.mem_cons.mp hm).resolve_left fun h=>hx h.symm
   have ih:=uK w m nZ uZ nd.2 (by simpa using hl) hm
   rw [ih,List.count_append,List.count_cons_of_ne (fun h=>hx h.symm),List.count_nil,Nat.add_zero,List.idxOf_cons,beq_false_of_ne hx,cond_false,List.getD_cons_succ]
   lia
theorem xf:∀ (uZ:List Int) (l:List (Int×Int)),pr uZ (l.map fun p=>p.1 - p.2)=pr uZ (l.map fun p=>p.1) - pr uZ (l.map fun p=>p.2)
 | [],l=>rfl
 | b :: uZ,[]=>rfl
 | b :: uZ,p :: l=>by
  rw [fK,fK,fK,i7,i7,i7,xf uZ l,Int.mul_sub]
  lia
theorem zg (nZ:LNN) (N:List Nd) (a:Ex) (uZ:List Int) (nd:nZ.Nodup) (hl:uZ.length=nZ.length) (hm:a.2.1∈nZ):pr uZ (rP nZ N a)=pr uZ (row nZ (aX N a.1)) + uZ.getD (nZ.idxOf a.2.1) 0 - pr uZ (row nZ (aX N a.2.2)):=by
 rw [<-uK _ _ nZ uZ nd hl hm]
 unfold rP
 rw [xf,List.map_map,List.map_map]
 rfl
theorem xg:∀ (nZ:LNN) (uZ:List Int),pr uZ (row nZ [])=0
 | [],uZ=>by
  unfold pr row
  rw [List.map_nil,List.zip_nil_right]
  rfl
 | x :: nZ,[]=>rfl
 | x :: nZ,b :: uZ=>by
  show pr (b :: uZ) (((0:Nat):Int) :: row nZ [])=0
  rw [i7,xg nZ uZ]
  simp
structure Ck (nZ:LNN) (arcs:List Ex) (many:Nat) (N:List Nd) (T:List Ex):Prop where
 m1:1<=many/\many<=12
 nn:nZ.Nodup
 n3:nZ.length<=1000
 al:arcs.length<=60
 nm:∀ a∈arcs,a.2.1∈nZ
 hb:∀ a∈arcs,(0<=a.1/\a.1 < (many:Int))/\0<=a.2.2/\a.2.2 < (many:Int)
 hw:∀ s:Int,(aX N s).length<=1000
 F:Found arcs N
 all:∀ s:Int,0<=s->s < (many:Int)->s∈N.map (·.1)
 er:dn [Ey nZ arcs]=.ok (.l .f,.lst ((Hf nZ N T arcs).map fun r=>D.tup (r.map D.int)))
 ec:bX [Ey nZ arcs]=.ok (.l .f,.lst ((List.range many).map fun (s:Nat)=>D.tup ((row nZ (aX N (s:Int))).map D.int)))
theorem Ra.states {nZ:LNN} {as:List Ex} {many:Nat} (r:Ra nZ as many):ba as=(many:Int):=by
 have hm:=r.mm
 have h1:=oE hm.1 r.bd
 by_cases h:many=1
 ·lia
 ·obtain ⟨a,ha,e,_⟩:=r.rc (many - 1) (by lia) (by lia)
  have:=uC ha
  lia
theorem Ra.ck {nZ:LNN} {as:List Ex} {many:Nat} (r:Ra nZ as many) (nn:nZ.Nodup) (n3:nZ.length<=1000):∃ N T,Ck nZ as many N T:=by
 have C:=r.ch
 have Ja:=r.states
 have GH:=C.al
 have hm:=r.mm
 obtain ⟨N,T,b,Iz,et,Oe⟩:=uy nZ as (by lia) (fun a ha=>(C.bd a ha).2) C.all (by lia)
 have F:=b.found
 have LC:∀ s:Int,(aX N s).length<=1000:=by
  intro s
  unfold aX
  cases hf:(N.find? fun n=>n.1 == s) with
  | none=>exact Nat.zero_le _
  | some n=>
   have:=F.wl n (List.mem_of_find?_eq_some hf)
   show n.2.length<=1000
   lia
 have em:(ba as).toNat=many:=by lia
 rw [em] at Oe
 have e2:=pN (by lia) n3 Oe
 have eww2:cp [Ey nZ as]=.ok (.l .f,.lst (((List.range many).map fun (s:Nat)=>aX N (s:Int)).map wD)):=by
  rw [Oe,List.map_map]
  rfl
 have e1:=rL eww2 et r.bd LC n3 (by lia)
 exact ⟨N,T,hm,nn,n3,GH,r.nm,r.bd,LC,F,fun s h0 h1=>C.all N F s h0 (by lia),e1,e2⟩
theorem rM (nZ:LNN) (N:List Nd) (a:Ex) (hw:∀ s:Int,(aX N s).length<=1000):∀ x∈rP nZ N a,cB x=true:=by
 intro x hx
 unfold rP at hx
 obtain ⟨p,hp,rfl⟩:=mL hx
 obtain ⟨m,_,rfl⟩:=mL hp
 have h1:=List.count_le_length (a:=m) (l:=aX N a.1++[a.2.1])
 have h2:=List.count_le_length (a:=m) (l:=aX N a.2.2)
 have h3:=hw a.1
 have h4:=hw a.2.2
 rw [mE,List.length_singleton] at h1
 refine kI _ ?_ ?_ <;> dsimp only <;> lia
theorem oJ (nZ w:LNN) (hw:w.length<=1000):∀ x∈row nZ w,cB x=true:=by
 intro x hx
 unfold row at hx
 obtain ⟨m,_,rfl⟩:=mL hx
 have h1:=List.count_le_length (a:=m) (l:=w)
 exact ur _ (by lia)
theorem xh (bs:List Bool):zo [.lst (bs.map D.bl)]=.ok (.f,.bl (bs.any id)):=by
 unfold zo
 show (match kU (bs.map D.bl) with | some bs=>_ | none=>_)=_
 rw [nJ]
theorem uL (rows:List (List Int)):flatDs (rows.map fun r=>D.tup (r.map D.int))=true:=by
 rw [bq,List.all_map,List.all_eq_true]
 intro s _
 show cD (.tup _)=true
 rw [bN,En]
section
variable {nZ:LNN} {arcs:List Ex} {many:Nat} {N:List Nd} {T:List Ex}
theorem Ck.has_arcs (c:Ck nZ arcs many N T) (m:List Nat):cR [Ey nZ arcs,.str m]=.ok (.f,.bl (arcs.any fun a=>a.2.1 == m)):=by
 have GH:=c.al
 unfold cR lu
 rw [aU (h:=by rfl)]
 have hc:b5 (gH 3 (aB (au 0) (aB (au 1) (aB (au 2) cC)))) dy (bo GF (ai 1) (ai 3)) (arcs.map eA) [none,none,none,some (.f,.str m)]=.ok ((arcs.map fun a=>a.2.1 == m).map D.bl):=by
  rw [aW (r:=fun a:Ex=>D.bl (a.2.1 == m)) (fun env=>∃ t u v,env=[t,u,v,some (.f,.str m)]) arcs ?_ _ ⟨none,none,none,rfl⟩]
  ·rw [List.map_map]
   rfl
  ·rintro a _ env ⟨t,u,v,rfl⟩
   refine ⟨[some (.f,.int a.1),some (.f,.str a.2.1),some (.f,.int a.2.2),some (.f,.str m)],by unfold eA;simp only [↓pd,pv,seval],.f,[some (.f,.int a.1),some (.f,.str a.2.1),some (.f,.int a.2.2),some (.f,.str m)],?_,_,_,_,rfl⟩
   simp only [↓pd,pv,seval,op]
 have hlen:((arcs.map fun a=>a.2.1 == m).map D.bl).length<=sizeLine:=aM (by rw [a7,a7];lia)
 have GI:=mC (arcs.map fun a=>a.2.1 == m)
 unfold Ey
 generalize (bo GF (ai 1) (ai 3))=GG at hc ⊢
 simp only [↓pd,pv,seval,op,hc,hlen,GI,xh,List.any_map]
 rfl
theorem Ck.stretch (c:Ck nZ arcs many N T) (uZ:List Int) (h1:∀ a∈arcs,pr uZ (rP nZ N a)=0) (h2:∀ z∈nZ.zip uZ,z.2=0\/∃ a∈arcs,a.2.1=z.1):bE [Ey nZ arcs,.tup (uZ.map D.int)]=.ok (.f,.bl true):=by
 have GH:=c.al
 have Kv:=c.n3
 have hrl:=uI nZ N T arcs
 have Lw:=uL (Hf nZ N T arcs)
 have er:=c.er
 unfold bE jm
 rw [aU (h:=by rfl)]
 have hc:b5 (au 0) dy (bo HL (aj (cA bz (ag (ai 1) (ag (ai 0) ay)))) (aj (aE (.int 0)))) ((Hf nZ N T arcs).map fun r=>D.tup (r.map D.int)) [none,some (.f,.tup (uZ.map D.int))]=.ok (((Hf nZ N T arcs).map fun _=>false).map D.bl):=by
  rw [aW (e:=fun r:List Int=>D.tup (r.map D.int)) (r:=fun _:List Int=>D.bl false) (fun env=>∃ t,env=[t,some (.f,.tup (uZ.map D.int))]) (Hf nZ N T arcs) ?_ _ ⟨none,rfl⟩]
  ·rw [List.map_map]
   rfl
  ·rintro r hr env ⟨t,rfl⟩
   obtain ⟨a,ha,rfl⟩:=mL hr
   have ha:=(List.mem_filter.mp ha).1
   have hp:=kM uZ (rP nZ N a) (by unfold rP;rw [a7,a7];exact Kv) (rM nZ N a c.hw)
   rw [h1 a ha] at hp
   refine ⟨[some (.f,.tup ((rP nZ N a).map D.int)),some (.f,.tup (uZ.map D.int))],rfl,.f,[some (.f,.tup ((rP nZ N a).map D.int)),some (.f,.tup (uZ.map D.int))],?_,_,rfl⟩
   simp only [↓pd,pv,seval,op,hp]
   rfl
 have hlen:(((Hf nZ N T arcs).map fun _=>false).map D.bl).length<=sizeLine:=aM (by rw [a7,a7];lia)
 have GI:=mC ((Hf nZ N T arcs).map fun _=>false)
 have J3:((Hf nZ N T arcs).map fun _=>false).any id=false:=by
  rw [List.any_map,List.any_eq_false]
  intro x _
  exact Bool.false_ne_true
 rw [ax (env':=[some (.f,Ey nZ arcs),some (.f,.tup (uZ.map D.int))]) (by
  generalize (bo HL (aj (cA bz (ag (ai 1) (ag (ai 0) ay)))) (aj (aE (.int 0))))=GG at hc ⊢
  generalize ((Hf nZ N T arcs).map fun r=>D.tup (r.map D.int))=RR at er hc Lw
  generalize ((Hf nZ N T arcs).map fun _=>false)=BB at hc hlen GI J3
  simp only [↓pd,pv,seval,op,er,Lw,hc,hlen,GI,xh,J3,gw])]
 have F0:b5 (gH 2 (aB (au 0) (aB (au 1) cC))) dy (L9 (bo GF (ai 1) (aj (aE (.int 0)))) (cA cR (ag (ai 2) (ag (ai 0) ay)))) ((nZ.zip uZ).map fun z=>D.tup [D.str z.1,D.int z.2]) [none,none,some (.f,Ey nZ arcs)]=.ok (((nZ.zip uZ).map fun _=>true).map D.bl):=by
  rw [aW (e:=fun z:List Nat×Int=>D.tup [D.str z.1,D.int z.2]) (r:=fun _:List Nat×Int=>D.bl true) (fun env=>∃ t u,env=[t,u,some (.f,Ey nZ arcs)]) (nZ.zip uZ) ?_ _ ⟨none,none,rfl⟩]
  ·rw [List.map_map]
   rfl
  ·rintro z hz env ⟨t,u,rfl⟩
   have hh:=c.has_arcs z.1
   refine ⟨[some (.f,.str z.1),some (.f,.int z.2),some (.f,Ey nZ arcs)],rfl,.f,[some (.f,.str z.1),some (.f,.int z.2),some (.f,Ey nZ arcs)],?_,_,_,rfl⟩
   by_cases h0:z.2=0
   ·have e0:(z.2 == 0)=true:=beq_iff_eq.mpr h0
    simp only [↓pd,pv,seval,op,e0]
   ·have e0:(z.2 == 0)=false:=beq_eq_false_iff_ne.mpr h0
    obtain ⟨a,ha,e⟩:=(h2 z hz).resolve_left h0
    have e1:(arcs.any fun a=>a.2.1 == z.1)=true:=List.any_eq_true.mpr ⟨a,ha,beq_iff_eq.mpr e⟩
    rw [e1] at hh
    simp only [↓pd,pv,seval,op,e0,hh]
 have Hn:(((nZ.zip uZ).map fun _=>true).map D.bl).length<=sizeLine:=aM (by rw [a7,a7,List.length_zip];lia)
 have IY:=mC ((nZ.zip uZ).map fun _=>true)
 have GN:((nZ.zip uZ).map fun _=>true).all id=true:=by
  rw [List.all_map,List.all_eq_true]
  exact fun _ _=>rfl
 generalize ((nZ.zip uZ).map fun _=>true)=BB at F0 Hn IY GN
 unfold Ey at F0 ⊢
 generalize (L9 (bo GF (ai 1) (aj (aE (.int 0)))) (cA cR (ag (ai 2) (ag (ai 0) ay))))=GG at F0 ⊢
 simp only [↓pd,pv,seval,op,iO,F0,Hn,IY,GN]
noncomputable def th (nZ:LNN) (N:List Nd) (uZ:List Int) (s:Int):Int:=pr uZ (row nZ (aX N s))
theorem gA:∀ (l:List Int) (b:Int),l.foldl min b<=b/\(∀ x∈l,l.foldl min b<=x)/\(l.foldl min b=b\/l.foldl min b∈l)
 | [],b=>⟨Int.le_refl _,(fun _ h=>nomatch h),.inl rfl⟩
 | a :: l,b=>by
  obtain ⟨h1,h2,h3⟩:=gA l (min b a)
  rw [List.foldl_cons]
  refine ⟨by lia,fun x hx=>?_,?_⟩
  ·rcases List.mem_cons.mp hx with rfl | hx
   ·lia
   ·exact h2 x hx
  ·rcases h3 with h3 | h3
   ·by_cases HF:b<=a
    ·left
     rw [h3]
     lia
    ·right
     rw [h3]
     exact List.mem_cons.mpr (.inl (by lia))
   ·exact .inr (List.mem_cons_of_mem _ h3)
theorem mI {ns:List Int} {x:Int} (h:x∈ns):dO ns<=x:=(gA ns _).2.1 x h
theorem mJ {ns:List Int} (h:ns≠[]):dO ns∈ns:=by
 unfold dO
 rcases (gA ns (ns.headD 0)).2.2 with e | e
 ·rw [e]
  cases ns with
  | nil=>exact absurd rfl h
  | cons a l=>exact List.mem_cons_self
 ·exact e
theorem xi {l:List Int} (h:l≠[]):w5 [.lst (l.map D.int)]=.ok (.f,.int (dO l)):=by
 unfold w5
 dsimp only
 rw [ux]
 cases l with
 | nil=>exact absurd rfl h
 | cons a l=>rfl
theorem BM {l:List Int} (h:l≠[]):maxD [.lst (l.map D.int)]=.ok (.f,.int (m9 l)):=by
 unfold PV.maxD
 dsimp only
 rw [ux]
 cases l with
 | nil=>exact absurd rfl h
 | cons a l=>rfl
noncomputable def Hg (nZ:LNN) (N:List Nd) (uZ:List Int) (many:Nat):List Int:=(List.range many).map fun (s:Nat)=>th nZ N uZ (s:Int)
noncomputable def Nn (nZ:LNN) (N:List Nd) (uZ:List Int) (many:Nat):List Int:=(Hg nZ N uZ many).map fun h=>h - dO (Hg nZ N uZ many)
theorem Ck.beads (c:Ck nZ arcs many N T) (uZ:List Int) (hs:bE [Ey nZ arcs,.tup (uZ.map D.int)]=.ok (.f,.bl true)):b6 [Ey nZ arcs,.tup (uZ.map D.int)]=.ok (.l .f,.lst ((Nn nZ N uZ many).map D.int)):=by
 have hm:=c.m1
 have Kv:=c.n3
 have ec:=c.ec
 have MR:=uJ nZ N many
 unfold b6 lx
 rw [aU (h:=by rfl)]
 rw [ax (env':=[some (.f,Ey nZ arcs),some (.f,.tup (uZ.map D.int)),none]) (by simp only [↓pd,pv,seval,op,hs,Bool.not_true,gw])]
 have hc:b5 (au 0) dy (cA bz (ag (ai 1) (ag (ai 0) ay))) ((List.range many).map fun (s:Nat)=>D.tup ((row nZ (aX N (s:Int))).map D.int)) [none,some (.f,.tup (uZ.map D.int))]=.ok ((Hg nZ N uZ many).map D.int):=by
  rw [aW (r:=fun s:Nat=>D.int (th nZ N uZ (s:Int))) (fun env=>∃ t,env=[t,some (.f,.tup (uZ.map D.int))]) (List.range many) ?_ _ ⟨none,rfl⟩]
  ·unfold Hg
   rw [List.map_map]
   rfl
  ·rintro s _ env ⟨t,rfl⟩
   have hp:=kM uZ (row nZ (aX N (s:Int))) (by unfold row;rw [a7];exact Kv) (oJ nZ _ (c.hw _))
   refine ⟨[some (.f,.tup ((row nZ (aX N (s:Int))).map D.int)),some (.f,.tup (uZ.map D.int))],rfl,.f,[some (.f,.tup ((row nZ (aX N (s:Int))).map D.int)),some (.f,.tup (uZ.map D.int))],?_,_,rfl⟩
   simp only [↓pd,pv,seval,op,hp]
   rfl
 have hhl:(Hg nZ N uZ many).length=many:=by unfold Hg;rw [a7,List.length_range]
 have hlen:((Hg nZ N uZ many).map D.int).length<=sizeLine:=aM (by rw [a7];lia)
 have hne:Hg nZ N uZ many≠[]:=fun h=>by rw [h,List.length_nil] at hhl;lia
 have GI:=En (Hg nZ N uZ many)
 rw [ax (env':=[some (.f,Ey nZ arcs),some (.f,.tup (uZ.map D.int)),some (.l .f,.lst ((Hg nZ N uZ many).map D.int))]) (by
  generalize (cA bz (ag (ai 1) (ag (ai 0) ay)))=GG at hc ⊢
  generalize ((List.range many).map fun (s:Nat)=>D.tup ((row nZ (aX N (s:Int))).map D.int))=RR at ec hc MR
  simp only [↓pd,pv,seval,op,ec,MR,hc,hlen,GI])]
 unfold Nn
 generalize Hg nZ N uZ many=hh at *
 have Lx:=xi hne
 have F0:b5 (au 0) dy (az nI (ai 0) (aj (aY w5 (ag (ai 1) ay)))) (hh.map D.int) [none,some (.f,.lst (hh.map D.int))]=.ok ((hh.map fun h=>h - dO hh).map D.int):=by
  rw [aW (r:=fun h:Int=>D.int (h - dO hh)) (fun env=>∃ t,env=[t,some (.f,.lst (hh.map D.int))]) hh ?_ _ ⟨none,rfl⟩]
  ·rw [List.map_map]
   rfl
  ·rintro x _ env ⟨t,rfl⟩
   refine ⟨[some (.f,.int x),some (.f,.lst (hh.map D.int))],rfl,.f,[some (.f,.int x),some (.f,.lst (hh.map D.int))],?_,_,rfl⟩
   simp only [↓pd,pv,seval,op,Lx]
 have Hn:((hh.map fun h=>h - dO hh).map D.int).length<=sizeLine:=aM (by rw [a7,a7];lia)
 have IY:=En (hh.map fun h=>h - dO hh)
 generalize (az nI (ai 0) (aj (aY w5 (ag (ai 1) ay))))=GG at F0 ⊢
 simp only [↓pd,pv,seval,op,F0,Hn,IY]
noncomputable def hv (B:Int->Int) (arcs:List Ex) (m:List Nat):List Int:=(arcs.filter fun a=>a.2.1 == m).map fun a=>B a.1
noncomputable def tk (B:Int->Int) (arcs:List Ex) (bs:List Int) (m:List Nat):Int:=NX.minD (hv B arcs m) (m9 bs + 1)
theorem Ck.taken (c:Ck nZ arcs many N T) (B:Int->Int) (bs:List Int) (MS:bs=(List.range many).map fun (s:Nat)=>B (s:Int)) (m:List Nat):f6 [Ey nZ arcs,.lst (bs.map D.int),.str m]=.ok (.f,.int (tk B arcs bs m)):=by
 have hm:=c.m1
 have GH:=c.al
 have KJ:bs.length=many:=by rw [MS,a7,List.length_range]
 have hne:bs≠[]:=fun h=>by rw [h,List.length_nil] at KJ;lia
 have hmax:=BM hne
 have Jd:∀ s:Int,0<=s->s < (many:Int)->E6 (bs.map D.int) s=some (.int (B s)):=fun s h0 h1=>by
  obtain ⟨k,rfl⟩:=Int.eq_ofNat_of_zero_le h0
  exact dF (by rw [MS,List.getElem?_map,List.getElem?_map,List.getElem?_range (by lia)];rfl)
 unfold f6 uc
 rw [aU (h:=by rfl)]
 have hc:b5 (gH 3 (aB (au 0) (aB (au 1) (aB (au 2) cC)))) (E1 (bo GF (ai 1) (ai 4))) (az Eu (ai 3) (ai 0)) (arcs.map eA) [none,none,none,some (.f,.lst (bs.map D.int)),some (.f,.str m)]=.ok ((hv B arcs m).map D.int):=by
  unfold hv
  rw [List.map_map]
  refine qy (e:=eA) (p:=fun a=>a.2.1 == m) (r:=fun a=>D.int (B a.1)) (fun env=>∃ t u v,env=[t,u,v,some (.f,.lst (bs.map D.int)),some (.f,.str m)]) arcs ?_ _ ⟨none,none,none,rfl⟩
  rintro a ha env ⟨t,u,v,rfl⟩
  have HF:=(c.hb a ha).1
  refine ⟨[some (.f,.int a.1),some (.f,.str a.2.1),some (.f,.int a.2.2),some (.f,.lst (bs.map D.int)),some (.f,.str m)],by unfold eA;simp only [↓pd,pv,seval],[some (.f,.int a.1),some (.f,.str a.2.1),some (.f,.int a.2.2),some (.f,.lst (bs.map D.int)),some (.f,.str m)],?_,?_⟩
  ·simp only [↓pd,pv,seval,op]
  ·split
   ·refine ⟨.f,[some (.f,.int a.1),some (.f,.str a.2.1),some (.f,.int a.2.2),some (.f,.lst (bs.map D.int)),some (.f,.str m)],?_,_,_,_,rfl⟩
    simp only [↓pd,pv,seval,op,Jd a.1 HF.1 HF.2]
   ·exact ⟨_,_,_,rfl⟩
 have hlen:((hv B arcs m).map D.int).length<=sizeLine:=aM (by
  unfold hv
  rw [a7,a7]
  have:=List.length_filter_le (fun a:Ex=>a.2.1 == m) arcs
  lia)
 have GI:=En (hv B arcs m)
 rw [ax (env':=[some (.f,Ey nZ arcs),some (.f,.lst (bs.map D.int)),some (.f,.str m),some (.l .f,.lst ((hv B arcs m).map D.int))]) (by
  unfold Ey
  generalize (E1 (bo GF (ai 1) (ai 4)))=G1 at hc ⊢
  generalize (az Eu (ai 3) (ai 0))=G2 at hc ⊢
  simp only [↓pd,pv,seval,op,hc,hlen,GI])]
 unfold tk
 generalize hv B arcs m=hh
 simp only [↓pd,pv,seval,op,yX,hmax,Option.bind_some,iV]
theorem Ck.place (c:Ck nZ arcs many N T) (uZ:List Int) (B:Int->Int) (bs:List Int) (MS:bs=(List.range many).map fun (s:Nat)=>B (s:Int)) (Jf:b6 [Ey nZ arcs,.tup (uZ.map D.int)]=.ok (.l .f,.lst (bs.map D.int))):dq [Ey nZ arcs,.tup (uZ.map D.int)]=.ok (.f,.tup [.int (B 0),.tup ((nZ.map (tk B arcs bs)).map D.int),.tup ((((nZ.map (tk B arcs bs)).zip uZ).map fun p=>p.1 + p.2).map D.int)]):=by
 have hm:=c.m1
 have Kv:=c.n3
 have Of:=En bs
 have h0:E6 (bs.map D.int) 0=some (.int (B 0)):=by
  exact dF (j:=0) (by rw [MS,List.getElem?_map,List.getElem?_map,List.getElem?_range (by lia)];rfl)
 unfold dq ly
 rw [aU (h:=by rfl)]
 rw [ax (env':=[some (.f,Ey nZ arcs),some (.f,.tup (uZ.map D.int)),some (.l .f,.lst (bs.map D.int)),none]) (by simp only [↓pd,pv,seval,op,Jf,Of])]
 have hc:b5 (au 0) dy (cA f6 (ag (ai 1) (ag (ai 2) (ag (ai 0) ay)))) (nZ.map D.str) [none,some (.f,Ey nZ arcs),some (.f,.lst (bs.map D.int))]=.ok ((nZ.map (tk B arcs bs)).map D.int):=by
  rw [aW (r:=fun m:List Nat=>D.int (tk B arcs bs m)) (fun env=>∃ t,env=[t,some (.f,Ey nZ arcs),some (.f,.lst (bs.map D.int))]) nZ ?_ _ ⟨none,rfl⟩]
  ·rw [List.map_map]
   rfl
  ·rintro m _ env ⟨t,rfl⟩
   have ht:=c.taken B bs MS m
   refine ⟨[some (.f,.str m),some (.f,Ey nZ arcs),some (.f,.lst (bs.map D.int))],rfl,.f,[some (.f,.str m),some (.f,Ey nZ arcs),some (.f,.lst (bs.map D.int))],?_,_,rfl⟩
   simp only [↓pd,pv,seval,op,ht]
 have htl:(nZ.map (tk B arcs bs)).length=nZ.length:=a7 _
 generalize nZ.map (tk B arcs bs)=ts at *
 have hlen:(ts.map D.int).length<=sizeLine:=aM (by rw [a7];lia)
 have GI:=En ts
 rw [ax (env':=[some (.f,Ey nZ arcs),some (.f,.tup (uZ.map D.int)),some (.l .f,.lst (bs.map D.int)),some (.f,.tup (ts.map D.int))]) (by
  unfold Ey at hc ⊢
  generalize (cA f6 (ag (ai 1) (ag (ai 2) (ag (ai 0) ay))))=GG at hc ⊢
  simp only [↓pd,pv,seval,op,hc,hlen,GI])]
 have F0:b5 (gH 2 (aB (au 0) (aB (au 1) cC))) dy (az dg (ai 0) (ai 1)) ((ts.zip uZ).map fun z=>D.tup [D.int z.1,D.int z.2]) [none,none]=.ok (((ts.zip uZ).map fun p=>p.1 + p.2).map D.int):=by
  rw [aW (r:=fun z:Int×Int=>D.int (z.1 + z.2)) (fun env=>∃ t u,env=[t,u]) (ts.zip uZ) ?_ _ ⟨none,none,rfl⟩]
  ·rw [List.map_map]
   rfl
  ·rintro z hz env ⟨t,u,rfl⟩
   refine ⟨[some (.f,.int z.1),some (.f,.int z.2)],rfl,.f,[some (.f,.int z.1),some (.f,.int z.2)],?_,_,_,rfl⟩
   simp only [↓pd,pv,seval,op]
 have Hn:(((ts.zip uZ).map fun p=>p.1 + p.2).map D.int).length<=sizeLine:=aM (by rw [a7,a7,List.length_zip];lia)
 have IY:=En ((ts.zip uZ).map fun p=>p.1 + p.2)
 generalize (az dg (ai 0) (ai 1))=GG at F0 ⊢
 simp only [↓pd,pv,seval,op,h0,iO,F0,Hn,IY]
end
theorem for_all {α:Type} {a:FG} {g:FS} {e:α->D} {r:R} (P:PV.Env->Prop) (ok:α->Bool):∀ (l:List α),(∀ x∈l,∀ env,P env->∃ Ej,a (e x) env=.ok Ej/\if ok x then ∃ Ep,g Ej=.ok (.nx Ep)/\P Ep else g Ej=.ok (.rt r))->
  ∀ env,P env->if l.all ok then ∃ env',jy a g (l.map e) env=.ok (.nx env')/\P env' else jy a g (l.map e) env=.ok (.rt r)
 | [],_,env,hp=>by rw [List.all_nil,if_pos rfl];exact ⟨env,rfl,hp⟩
 | x :: l,h,env,hp=>by
  obtain ⟨Ej,h1,h2⟩:=h x List.mem_cons_self env hp
  rw [List.all_cons,fK,kF,h1,EI]
  cases hk:ok x with
  | false=>
   rw [hk,if_neg Bool.false_ne_true] at h2
   rw [Bool.false_and,if_neg Bool.false_ne_true,h2,EI]
  | true=>
   rw [hk,if_pos rfl] at h2
   obtain ⟨Ep,h2,h3⟩:=h2
   rw [Bool.true_and,h2,EI]
   exact for_all P ok l (fun y hy=>h y (List.mem_cons_of_mem _ hy)) Ep h3
noncomputable def Hh (x y:List Int):List Int:=(x.zip y).map fun p=>p.1 - p.2
theorem zh (x y:List Int) (h:x.length=y.length) (hl:x.length<=1000):gQ [.tup (x.map D.int),.tup (y.map D.int)]=.ok (.f,.tup ((Hh x y).map D.int)):=by
 have:=xc (x.zip y) (by rw [List.length_zip];lia)
 rw [show (x.zip y).map (fun p=>D.int p.1)=x.map D.int by rw [<-List.map_fst_zip (l₁:=x) (l₂:=y) (by lia),List.map_map,List.map_fst_zip (by lia)];rfl,show (x.zip y).map (fun p=>D.int p.2)=y.map D.int by rw [<-List.map_snd_zip (l₁:=x) (l₂:=y) (by lia),List.map_map,List.map_snd_zip (by lia)];rfl] at this
 exact this
theorem zi {x y:List Int} (h:x.length=y.length):(Hh x y).length=y.length:=by
 unfold Hh
 rw [a7,List.length_zip,h,Nat.min_self]
theorem uM:∀ (x y:List Int) (k:Nat),Hh (x.set k (x.getD k 0 + 1)) (y.set k (y.getD k 0 + 1))=Hh x y
 | [],y,k=>rfl
 | a :: x,[],k=>by cases k <;> rfl
 | a :: x,b :: y,0=>by
  show (a + 1 - (b + 1)) :: Hh x y=(a - b) :: Hh x y
  congr 1
  lia
 | a :: x,b :: y,k + 1=>by
  show (a - b) :: Hh (x.set k (x.getD k 0 + 1)) (y.set k (y.getD k 0 + 1))=(a - b) :: Hh x y
  rw [uM x y k]
theorem uN:∀ (t n:List Int),t.length=n.length->Hh ((t.zip n).map fun p=>p.1 + p.2) t=n
 | [],[],_=>rfl
 | [],_ :: _,h=>by simp at h
 | _ :: _,[],h=>by simp at h
 | a :: t,b :: n,h=>by
  show (a + b - a) :: Hh ((t.zip n).map fun p=>p.1 + p.2) t=b :: n
  rw [uN t n (by simpa using h)]
  congr 1
  lia
section
variable {nZ:LNN} {arcs:List Ex} {many:Nat} {N:List Nd} {T:List Ex}
theorem Ck.pot (c:Ck nZ arcs many N T) (uZ:List Int) (hl:uZ.length=nZ.length) (f:Int->Int) (hf:∀ a∈arcs,f a.2.2=f a.1 + uZ.getD (nZ.idxOf a.2.1) 0):∀ s:Int,0<=s->s < (many:Int)->th nZ N uZ s=f s - f 0:=by
 have key:∀ (k:Nat) (n:Nd),n∈N->n.2.length=k->pr uZ (row nZ n.2)=f n.1 - f 0:=by
  intro k
  induction k using Nat.strongRecOn with
  | _ k ih=>
   intro n hn hk
   rcases c.F.par n hn with rfl | ⟨a,ha,m,hm,e1,rfl⟩
   ·show pr uZ (row nZ [])=f 0 - f 0
    rw [xg]
    lia
   ·have:=ih m.2.length (by rw [<-hk];show _ < (m.2++[a.2.1]).length;rw [mE,List.length_singleton];lia) m hm rfl
    show pr uZ (row nZ (m.2++[a.2.1]))=f a.2.2 - f 0
    rw [uK _ _ nZ uZ c.nn hl (c.nm a ha),this,hf a ha,e1]
    lia
 intro s h0 h1
 obtain ⟨n,hn,rfl⟩:=mL (c.all s h0 h1)
 unfold th
 rw [qE c.F.nd hn]
 exact key _ n hn rfl
noncomputable def EV (b:Int) (ts gs:List Int):D:=.tup [.int b,.tup (ts.map D.int),.tup (gs.map D.int)]
theorem Ck.pbeads (c:Ck nZ arcs many N T) (b:Int) (ts gs:List Int) (h1:ts.length=nZ.length) (h2:gs.length=nZ.length) (B:Int->Int) (hB:B=fun s=>b + th nZ N (Hh gs ts) s):cv [Ey nZ arcs,EV b ts gs]=.ok (.l .f,.lst (((List.range many).map fun (s:Nat)=>B (s:Int)).map D.int)):=by
 have Kv:=c.n3
 have hm:=c.m1
 have hle:=zh gs ts (by lia) (by lia)
 have hdl:=zi (x:=gs) (y:=ts) (by lia)
 have ec:=c.ec
 have MR:=uJ nZ N many
 have hfd:cD (.tup ((Hh gs ts).map D.int))=true:=by rw [bN,En]
 unfold cv iE
 rw [aU (h:=by rfl)]
 rw [ax (env':=[some (.f,Ey nZ arcs),some (.f,EV b ts gs),some (.f,.tup ((Hh gs ts).map D.int))]) (by
  unfold EV
  simp only [↓pd,pv,seval,op,at2,hle,hfd])]
 have hc:b5 (au 0) dy (az dg (aj (az Eu (ai 1) (aj (aE (.int 0))))) (aj (cA bz (ag (ai 2) (ag (ai 0) ay))))) ((List.range many).map fun (s:Nat)=>D.tup ((row nZ (aX N (s:Int))).map D.int)) [none,some (.f,EV b ts gs),some (.f,.tup ((Hh gs ts).map D.int))]=.ok (((List.range many).map fun (s:Nat)=>B (s:Int)).map D.int):=by
  rw [aW (r:=fun s:Nat=>D.int (B (s:Int))) (fun env=>∃ t,env=[t,some (.f,EV b ts gs),some (.f,.tup ((Hh gs ts).map D.int))]) (List.range many) ?_ _ ⟨none,rfl⟩]
  ·rw [List.map_map]
   rfl
  ·rintro s _ env ⟨t,rfl⟩
   have hp:=kM (Hh gs ts) (row nZ (aX N (s:Int))) (by unfold row;rw [a7];exact Kv) (oJ nZ _ (c.hw _))
   refine ⟨[some (.f,.tup ((row nZ (aX N (s:Int))).map D.int)),some (.f,EV b ts gs),some (.f,.tup ((Hh gs ts).map D.int))],rfl,.f,[some (.f,.tup ((row nZ (aX N (s:Int))).map D.int)),some (.f,EV b ts gs),some (.f,.tup ((Hh gs ts).map D.int))],?_,_,rfl⟩
   unfold EV
   simp only [↓pd,pv,seval,op,hp,hB]
   rfl
 have hlen:(((List.range many).map fun (s:Nat)=>B (s:Int)).map D.int).length<=sizeLine:=aM (by rw [a7,a7,List.length_range];lia)
 have GI:=En ((List.range many).map fun (s:Nat)=>B (s:Int))
 generalize (az dg (aj (az Eu (ai 1) (aj (aE (.int 0))))) (aj (cA bz (ag (ai 2) (ag (ai 0) ay)))))=GG at hc ⊢
 generalize ((List.range many).map fun (s:Nat)=>D.tup ((row nZ (aX N (s:Int))).map D.int))=RR at ec hc MR
 simp only [↓pd,pv,seval,op,ec,MR,hc,hlen,GI]
noncomputable def JD (nZ:LNN) (B:Int->Int) (ts gs:List Int) (a:Ex):Bool:=!decide (B a.1 < ts.getD (nZ.idxOf a.2.1) 0) && (B a.2.2 == B a.1 - ts.getD (nZ.idxOf a.2.1) 0 + gs.getD (nZ.idxOf a.2.1) 0)
theorem df (B:Int->Int) {s:Int} (h0:0<=s) (h1:s < (many:Int)):E6 (((List.range many).map fun (s:Nat)=>B (s:Int)).map D.int) s=some (.int (B s)):=by
 obtain ⟨k,rfl⟩:=Int.eq_ofNat_of_zero_le h0
 exact dF (by rw [List.getElem?_map,List.getElem?_map,List.getElem?_range (by lia)];rfl)
theorem Ck.lets_go (c:Ck nZ arcs many N T) (b:Int) (ts gs:List Int) (h1:ts.length=nZ.length) (h2:gs.length=nZ.length) (B:Int->Int) (hB:B=fun s=>b + th nZ N (Hh gs ts) s):c5 [Ey nZ arcs,EV b ts gs]=.ok (.f,.bl (arcs.all (JD nZ B ts gs))):=by
 have hpb:=c.pbeads b ts gs h1 h2 B hB
 have GI:=En ((List.range many).map fun (s:Nat)=>B (s:Int))
 unfold c5 om
 rw [aU (h:=by rfl)]
 rw [ax (env':=[some (.f,Ey nZ arcs),some (.f,EV b ts gs),some (.l .f,.lst (((List.range many).map fun (s:Nat)=>B (s:Int)).map D.int)),none,none,none,none]) (by simp only [↓pd,pv,seval,op,hpb,GI])]
 have key:=for_all (a:=gH 3 (aB (au 3) (aB (au 4) (aB (au 5) cC)))) (g:=fZ) (e:=eA) (r:=(.f,.bl false)) (fun env=>∃ t3 t4 t5 t6,env=[some (.f,Ey nZ arcs),some (.f,EV b ts gs),some (.l .f,.lst (((List.range many).map fun (s:Nat)=>B (s:Int)).map D.int)),t3,t4,t5,t6]) (JD nZ B ts gs) arcs (by
  rintro a ha env ⟨t3,t4,t5,t6,rfl⟩
  have HF:=c.hb a ha
  have b1:=df (many:=many) B HF.1.1 HF.1.2
  have b2:=df (many:=many) B HF.2.1 HF.2.2
  have Ga:=pM (c.nm a ha)
  have hk:=List.idxOf_lt_length_of_mem (c.nm a ha)
  have q1:E6 (ts.map D.int) ((nZ.idxOf a.2.1:Nat):Int)=some (.int (ts.getD (nZ.idxOf a.2.1) 0)):=d6 (by lia)
  have q2:E6 (gs.map D.int) ((nZ.idxOf a.2.1:Nat):Int)=some (.int (gs.getD (nZ.idxOf a.2.1) 0)):=d6 (by lia)
  refine ⟨[some (.f,Ey nZ arcs),some (.f,EV b ts gs),some (.l .f,.lst (((List.range many).map fun (s:Nat)=>B (s:Int)).map D.int)),some (.f,.int a.1),some (.f,.str a.2.1),some (.f,.int a.2.2),t6],by unfold eA;simp only [↓pd,pv,seval],?_⟩
  unfold JD
  generalize nZ.idxOf a.2.1=k at *
  generalize ((List.range many).map fun (s:Nat)=>B (s:Int)).map D.int=BB at *
  unfold fZ
  have s1:(b9 6 (vS kW (aj (az Eu (ai 0) (aj (aE (.int 0))))) (ag (ai 4) ay))) [some (.f,Ey nZ arcs),some (.f,EV b ts gs),some (.l .f,.lst BB),some (.f,.int a.1),some (.f,.str a.2.1),some (.f,.int a.2.2),t6]=.ok (.nx [some (.f,Ey nZ arcs),some (.f,EV b ts gs),some (.l .f,.lst BB),some (.f,.int a.1),some (.f,.str a.2.1),some (.f,.int a.2.2),some (.f,.int (k:Int))]):=by
   unfold Ey
   simp only [↓pd,pv,seval,op,Ga]
  rw [ax s1]
  unfold EV
  by_cases h3:B a.1 < ts.getD k 0
  ·rw [decide_eq_true h3,Bool.not_true,Bool.false_and,if_neg Bool.false_ne_true]
   simp only [↓pd,pv,seval,op,b1,q1,h3,decide_true]
  ·rw [decide_eq_false h3,Bool.not_false,Bool.true_and]
   cases h4:(B a.2.2 == B a.1 - ts.getD k 0 + gs.getD k 0) with
   | true=>
    rw [if_pos rfl]
    refine ⟨_,?_,some (.f,.int a.1),some (.f,.str a.2.1),some (.f,.int a.2.2),some (.f,.int (k:Int)),rfl⟩
    simp only [↓pd,pv,seval,op,b1,b2,q1,q2,at2,h3,h4,decide_false,Bool.not_true,gw]
   | false=>
    rw [if_neg Bool.false_ne_true]
    simp only [↓pd,pv,seval,op,b1,b2,q1,q2,at2,h3,h4,decide_false,Bool.not_false,gw]) _ ⟨none,none,none,none,rfl⟩
 cases GN:arcs.all (JD nZ B ts gs) with
 | true=>
  rw [GN,if_pos rfl] at key
  obtain ⟨env',ef,t3,t4,t5,t6,rfl⟩:=key
  rw [ax (env':=_) (by
   unfold hJ
   unfold Ey at ef ⊢
   simp only [↓pd,pv,seval,op]
   exact ef)]
  unfold jl
  simp only [↓pd,pv,seval,op]
 | false=>
  rw [GN,if_neg Bool.false_ne_true] at key
  rw [GW]
  unfold hJ
  unfold Ey at key ⊢
  simp only [↓pd,pv,seval,op,key]
end
section
variable {nZ:LNN} {arcs:List Ex} {many:Nat} {N:List Nd} {T:List Ex}
theorem Ck.goes (c:Ck nZ arcs many N T) (b:Int) (ts gs:List Int) (h1:ts.length=nZ.length) (h2:gs.length=nZ.length) (B:Int->Int) (hb0:B 0=b) (Lx:dO ((List.range many).map fun (s:Nat)=>B (s:Int))=0) (hok:∀ a∈arcs,JD nZ B ts gs a=true):cO [Ey nZ arcs,EV b ts gs,.lst (((List.range many).map fun (s:Nat)=>B (s:Int)).map D.int)]=.ok (.f,.bl true):=by
 have hm:=c.m1
 have hl:((List.range many).map fun (s:Nat)=>B (s:Int))≠[]:=fun h=>by
  have:=congrArg List.length h
  rw [a7,List.length_range,List.length_nil] at this
  lia
 have OX:=xi hl
 rw [Lx] at OX
 have h0:E6 (((List.range many).map fun (s:Nat)=>B (s:Int)).map D.int) 0=some (.int b):=by
  rw [<-hb0]
  exact df (many:=many) B (s:=0) (by lia) (by lia)
 unfold cO kn
 rw [aU (h:=by rfl)]
 rw [ax (env':=[some (.f,Ey nZ arcs),some (.f,EV b ts gs),some (.f,.lst (((List.range many).map fun (s:Nat)=>B (s:Int)).map D.int)),none,none,none,none,none]) (by
  generalize ((List.range many).map fun (s:Nat)=>B (s:Int)).map D.int=BB at *
  unfold EV
  simp only [↓pd,pv,seval,op,h0,OX,beq_self_eq_true,Bool.not_true,gw])]
 have key:=for_all (a:=gH 3 (aB (au 3) (aB (au 4) (aB (au 5) cC)))) (g:=eE) (e:=eA) (r:=(.f,.bl false)) (fun env=>∃ t3 t4 t5 t6 t7,env=[some (.f,Ey nZ arcs),some (.f,EV b ts gs),some (.f,.lst (((List.range many).map fun (s:Nat)=>B (s:Int)).map D.int)),t3,t4,t5,t6,t7]) (fun _=>true) arcs (by
  rintro a ha env ⟨t3,t4,t5,t6,t7,rfl⟩
  have HF:=c.hb a ha
  have b1:=df (many:=many) B HF.1.1 HF.1.2
  have b2:=df (many:=many) B HF.2.1 HF.2.2
  have Ga:=pM (c.nm a ha)
  have hk:=List.idxOf_lt_length_of_mem (c.nm a ha)
  have Np:=hok a ha
  unfold JD at Np
  have q1:E6 (ts.map D.int) ((nZ.idxOf a.2.1:Nat):Int)=some (.int (ts.getD (nZ.idxOf a.2.1) 0)):=d6 (by lia)
  have q2:E6 (gs.map D.int) ((nZ.idxOf a.2.1:Nat):Int)=some (.int (gs.getD (nZ.idxOf a.2.1) 0)):=d6 (by lia)
  refine ⟨[some (.f,Ey nZ arcs),some (.f,EV b ts gs),some (.f,.lst (((List.range many).map fun (s:Nat)=>B (s:Int)).map D.int)),some (.f,.int a.1),some (.f,.str a.2.1),some (.f,.int a.2.2),t6,t7],by unfold eA;simp only [↓pd,pv,seval],?_⟩
  rw [if_pos rfl]
  generalize nZ.idxOf a.2.1=k at *
  generalize ((List.range many).map fun (s:Nat)=>B (s:Int)).map D.int=BB at *
  refine ⟨[some (.f,Ey nZ arcs),some (.f,EV b ts gs),some (.f,.lst BB),some (.f,.int a.1),some (.f,.str a.2.1),some (.f,.int a.2.2),some (.f,.int (k:Int)),some (.f,.int (B a.1 - ts.getD k 0))],?_,_,_,_,_,_,rfl⟩
  unfold eE
  rw [Bool.and_eq_true] at Np
  have h3:¬ B a.1 - ts.getD k 0 < 0:=by
   have:=Np.1
   simp only [Bool.not_eq_true',decide_eq_false_iff_not] at this
   lia
  have h4:=Np.2
  have s1:(b9 6 (vS kW (aj (az Eu (ai 0) (aj (aE (.int 0))))) (ag (ai 4) ay))) [some (.f,Ey nZ arcs),some (.f,EV b ts gs),some (.f,.lst BB),some (.f,.int a.1),some (.f,.str a.2.1),some (.f,.int a.2.2),t6,t7]=.ok (.nx [some (.f,Ey nZ arcs),some (.f,EV b ts gs),some (.f,.lst BB),some (.f,.int a.1),some (.f,.str a.2.1),some (.f,.int a.2.2),some (.f,.int (k:Int)),t7]):=by
   unfold Ey
   simp only [↓pd,pv,seval,op,Ga]
  rw [ax s1]
  rw [ax (env':=[some (.f,Ey nZ arcs),some (.f,EV b ts gs),some (.f,.lst BB),some (.f,.int a.1),some (.f,.str a.2.1),some (.f,.int a.2.2),some (.f,.int (k:Int)),some (.f,.int (B a.1 - ts.getD k 0))]) (by
   unfold EV
   simp only [↓pd,pv,seval,op,b1,q1])]
  unfold EV
  simp only [↓pd,pv,seval,op,b2,q2,at2,h3,h4,decide_false,Bool.not_true,gw]) _ ⟨none,none,none,none,none,rfl⟩
 rw [if_pos (List.all_eq_true.mpr fun _ _=>rfl)] at key
 obtain ⟨env',ef,t3,t4,t5,t6,t7,rfl⟩:=key
 rw [ax (env':=_) (by
  unfold iK
  unfold Ey at ef ⊢
  simp only [↓pd,pv,seval,op]
  exact ef)]
 unfold gX
 simp only [↓pd,pv,seval,op]
theorem BN (b:Int) (ts gs:List Int) (k:Nat) (h1:k < ts.length) (h2:k < gs.length):bF [EV b ts gs,.int (k:Int)]=.ok (.f,EV b (ts.set k (ts.getD k 0 + 1)) (gs.set k (gs.getD k 0 + 1))):=by
 have q1:E6 (ts.map D.int) (k:Int)=some (.int (ts.getD k 0)):=d6 h1
 have q2:E6 (gs.map D.int) (k:Int)=some (.int (gs.getD k 0)):=d6 h2
 have i1:=pF ts.length k h1
 have i2:=pF gs.length k h2
 unfold bF eR EV
 rw [aU (h:=by rfl),List.map_set,List.map_set]
 simp only [↓pd,pv,seval,op,at2,q1,q2,a7,i1,i2]
theorem BO (arcs:List Ex):HL (.lst (arcs.map eA)) (.lst [])=.ok (.f,.bl (!arcs.isEmpty)):=by
 unfold HL
 rw [plainD,lD 36 arcs]
 cases arcs <;> rfl
theorem BP (B O1:Int->Int) (old:Pl) (b:Int) (ts gs:List Int) (x y:Nat) (hx:x < many) (hy:y < x) (hd:∀ s t:Nat,s < many->t < many->B (s:Int)=B (t:Int)->O1 (s:Int)=O1 (t:Int)) (t7 t8:Option R):cy [some (.f,Ey nZ arcs),some (.f,eP old),some (.f,.lst (((List.range many).map fun (s:Nat)=>O1 (s:Int)).map D.int)),some (.f,EV b ts gs),some (.f,.lst (((List.range many).map fun (s:Nat)=>B (s:Int)).map D.int)),some (.f,.int (x:Int)),some (.f,.int (y:Int)),t7,t8]=.ok (.nx [some (.f,Ey nZ arcs),some (.f,eP old),some (.f,.lst (((List.range many).map fun (s:Nat)=>O1 (s:Int)).map D.int)),some (.f,EV b ts gs),some (.f,.lst (((List.range many).map fun (s:Nat)=>B (s:Int)).map D.int)),some (.f,.int (x:Int)),some (.f,.int (y:Int)),t7,t8]):=by
 have b1:=df (many:=many) B (s:=(x:Int)) (by lia) (by lia)
 have b2:=df (many:=many) B (s:=(y:Int)) (by lia) (by lia)
 have o1:=df (many:=many) O1 (s:=(x:Int)) (by lia) (by lia)
 have o2:=df (many:=many) O1 (s:=(y:Int)) (by lia) (by lia)
 unfold cy
 generalize ((List.range many).map fun (s:Nat)=>B (s:Int)).map D.int=BB at *
 generalize (((List.range many).map fun (s:Nat)=>O1 (s:Int)).map D.int)=OO at *
 cases h:(O1 (x:Int) == O1 (y:Int)) with
 | true=>simp only [↓pd,pv,seval,op,o1,o2,h,Bool.not_true,gw]
 | false=>
  have h2:(B (x:Int) == B (y:Int))=false:=by
   rw [beq_eq_false_iff_ne] at h ⊢
   exact fun e=>h (hd _ _ hx (by lia) e)
  simp only [↓pd,pv,seval,op,o1,o2,b1,b2,h,h2,Bool.not_false,gw]
theorem BQ (c:Ck nZ arcs many N T) (B O1:Int->Int) (old:Pl) (ho:Ia old nZ.length) (b:Int) (ts gs:List Int) (h1:ts.length=nZ.length) (x k:Nat) (hx:x < many) (hk:k < nZ.length) (hd:O1 (x:Int) < old.2.1.getD k 0->B (x:Int) < ts.getD k 0) (t6 t8:Option R):∃ u8,cx [some (.f,Ey nZ arcs),some (.f,eP old),some (.f,.lst (((List.range many).map fun (s:Nat)=>O1 (s:Int)).map D.int)),some (.f,EV b ts gs),some (.f,.lst (((List.range many).map fun (s:Nat)=>B (s:Int)).map D.int)),some (.f,.int (x:Int)),t6,some (.f,.int (k:Int)),t8]=.ok (.nx [some (.f,Ey nZ arcs),some (.f,eP old),some (.f,.lst (((List.range many).map fun (s:Nat)=>O1 (s:Int)).map D.int)),some (.f,EV b ts gs),some (.f,.lst (((List.range many).map fun (s:Nat)=>B (s:Int)).map D.int)),some (.f,.int (x:Int)),t6,some (.f,.int (k:Int)),u8]):=by
 have GH:=c.al
 have b1:=df (many:=many) B (s:=(x:Int)) (by lia) (by lia)
 have o1:=df (many:=many) O1 (s:=(x:Int)) (by lia) (by lia)
 have q1:E6 (ts.map D.int) (k:Int)=some (.int (ts.getD k 0)):=d6 (by lia)
 have q2:E6 (old.2.1.map D.int) (k:Int)=some (.int (old.2.1.getD k 0)):=d6 (by rw [ho.1];exact hk)
 have LM:E6 (nZ.map D.str) (k:Int)=some (.str nZ[k]):=uo hk
 have hc:b5 (au 0) (uQ (E1 (bo GF (aj (az Eu (ai 0) (aj (aE (.int 0))))) (ai 1))) (E1 (bo GF (aj (az Eu (ai 0) (aj (aE (.int 1))))) (aj (az Eu (aj (az Eu (ai 3) (aj (aE (.int 0))))) (ai 2)))))) (aJ 0) (arcs.map eA) [none,some (.f,.int (x:Int)),some (.f,.int (k:Int)),some (.f,Ey nZ arcs)]=.ok ((arcs.filter fun a=>(a.1 == (x:Int)) && (a.2.1 == nZ[k])).map eA):=by
  refine qy (e:=eA) (p:=fun a=>(a.1 == (x:Int)) && (a.2.1 == nZ[k])) (r:=eA) (fun env=>∃ t,env=[t,some (.f,.int (x:Int)),some (.f,.int (k:Int)),some (.f,Ey nZ arcs)]) arcs ?_ _ ⟨none,rfl⟩
  rintro a _ env ⟨t,rfl⟩
  refine ⟨[some (.f,eA a),some (.f,.int (x:Int)),some (.f,.int (k:Int)),some (.f,Ey nZ arcs)],rfl,[some (.f,eA a),some (.f,.int (x:Int)),some (.f,.int (k:Int)),some (.f,Ey nZ arcs)],?_,?_⟩
  ·unfold eA Ey
   cases h:(a.1 == (x:Int)) with
   | true=>simp only [↓pd,pv,seval,op,h,LM,Bool.true_and]
   | false=>simp only [↓pd,pv,seval,op,h,Bool.false_and,gw]
  ·split
   ·exact ⟨.f,_,rfl,_,rfl⟩
   ·exact ⟨_,rfl⟩
 have MT:(arcs.filter fun a=>(a.1 == (x:Int)) && (a.2.1 == nZ[k])).length<=60:=Nat.le_trans (List.length_filter_le _ _) GH
 generalize (arcs.filter fun a=>(a.1 == (x:Int)) && (a.2.1 == nZ[k]))=fa at hc MT
 have hlen:(fa.map eA).length<=sizeLine:=aM (by rw [a7];lia)
 have GI:=pJ fa
 have hne:=BO fa
 unfold cx
 have s1:∀ GG,GG=(uQ (E1 (bo GF (aj (az Eu (ai 0) (aj (aE (.int 0))))) (ai 1))) (E1 (bo GF (aj (az Eu (ai 0) (aj (aE (.int 1))))) (aj (az Eu (aj (az Eu (ai 3) (aj (aE (.int 0))))) (ai 2))))))->(b9 8 (bo HL (aj (cu (mK (az Eu (ai 0) (aj (aE (.int 1))))) [none,some 5,some 7,some 0] (au 0) GG (aJ 0))) (aj (lZ bP)))) [some (.f,Ey nZ arcs),some (.f,eP old),some (.f,.lst (((List.range many).map fun (s:Nat)=>O1 (s:Int)).map D.int)),some (.f,EV b ts gs),some (.f,.lst (((List.range many).map fun (s:Nat)=>B (s:Int)).map D.int)),some (.f,.int (x:Int)),t6,some (.f,.int (k:Int)),t8]=.ok (.nx [some (.f,Ey nZ arcs),some (.f,eP old),some (.f,.lst (((List.range many).map fun (s:Nat)=>O1 (s:Int)).map D.int)),some (.f,EV b ts gs),some (.f,.lst (((List.range many).map fun (s:Nat)=>B (s:Int)).map D.int)),some (.f,.int (x:Int)),t6,some (.f,.int (k:Int)),some (.f,.bl (!fa.isEmpty))]):=by
  intro GG e
  rw [<-e] at hc
  clear e
  unfold Ey at hc ⊢
  simp only [↓pd,pv,seval,op,hc,hlen,GI,hne]
 rw [ax (s1 _ rfl)]
 refine ⟨some (.f,.bl (!fa.isEmpty)),?_⟩
 generalize ((List.range many).map fun (s:Nat)=>B (s:Int)).map D.int=BB at *
 generalize (((List.range many).map fun (s:Nat)=>O1 (s:Int)).map D.int)=OO at *
 cases hE:fa.isEmpty with
 | false=>simp only [↓pd,pv,seval,op,Bool.not_false,Bool.not_true,gw]
 | true=>
  unfold eP EV
  by_cases h3:O1 (x:Int) < old.2.1.getD k 0
  ·have h4:=hd h3
   have h5:¬ B (x:Int) >= ts.getD k 0:=by lia
   simp only [↓pd,pv,seval,op,Bool.not_false,Bool.not_true,o1,b1,q1,q2,h3,h5,decide_true,decide_false,gw]
  ·simp only [↓pd,pv,seval,op,Bool.not_false,Bool.not_true,o1,q2,h3,decide_false,gw]
theorem Ck.good (c:Ck nZ arcs many N T) (B O1:Int->Int) (old:Pl) (ho:Ia old nZ.length) (b:Int) (ts gs:List Int) (h1:ts.length=nZ.length) (hd:∀ s t:Nat,s < many->t < many->B (s:Int)=B (t:Int)->O1 (s:Int)=O1 (t:Int)) (hd2:∀ x k:Nat,x < many->k < nZ.length->O1 (x:Int) < old.2.1.getD k 0->B (x:Int) < ts.getD k 0):bO [Ey nZ arcs,eP old,.lst (((List.range many).map fun (s:Nat)=>O1 (s:Int)).map D.int),EV b ts gs,.lst (((List.range many).map fun (s:Nat)=>B (s:Int)).map D.int)]=.ok (.f,.bl true):=by
 have hm:=c.m1
 have Kv:=c.n3
 unfold bO gY
 rw [aU (h:=by rfl)]
 obtain ⟨env',ef,t5,t6,t7,t8,rfl⟩:=gv (a:=au 5) (g:=du) (e:=fun k=>D.int (k:Int)) many (fun i env=>∃ t5 t6 t7 t8,env=[some (.f,Ey nZ arcs),some (.f,eP old),some (.f,.lst (((List.range many).map fun (s:Nat)=>O1 (s:Int)).map D.int)),some (.f,EV b ts gs),some (.f,.lst (((List.range many).map fun (s:Nat)=>B (s:Int)).map D.int)),t5,t6,t7,t8]) (by
  rintro x env hx ⟨t5,t6,t7,t8,rfl⟩
  refine ⟨[some (.f,Ey nZ arcs),some (.f,eP old),some (.f,.lst (((List.range many).map fun (s:Nat)=>O1 (s:Int)).map D.int)),some (.f,EV b ts gs),some (.f,.lst (((List.range many).map fun (s:Nat)=>B (s:Int)).map D.int)),some (.f,.int (x:Int)),t6,t7,t8],rfl,?_⟩
  obtain ⟨Ep,ef2,MP,rfl⟩:=gv (a:=au 6) (g:=cy) (e:=fun k=>D.int (k:Int)) x (fun i env=>∃ t6,env=[some (.f,Ey nZ arcs),some (.f,eP old),some (.f,.lst (((List.range many).map fun (s:Nat)=>O1 (s:Int)).map D.int)),some (.f,EV b ts gs),some (.f,.lst (((List.range many).map fun (s:Nat)=>B (s:Int)).map D.int)),some (.f,.int (x:Int)),t6,t7,t8]) (by
   rintro y env hy ⟨t6,rfl⟩
   exact ⟨_,rfl,_,BP B O1 old b ts gs x y hx hy hd t7 t8,_,rfl⟩) _ ⟨t6,rfl⟩
  obtain ⟨E9,Ng,t7',t8',rfl⟩:=gv (a:=au 7) (g:=cx) (e:=fun k=>D.int (k:Int)) nZ.length (fun i env=>∃ t7 t8,env=[some (.f,Ey nZ arcs),some (.f,eP old),some (.f,.lst (((List.range many).map fun (s:Nat)=>O1 (s:Int)).map D.int)),some (.f,EV b ts gs),some (.f,.lst (((List.range many).map fun (s:Nat)=>B (s:Int)).map D.int)),some (.f,.int (x:Int)),MP,t7,t8]) (by
   rintro k env hk ⟨t7,t8,rfl⟩
   obtain ⟨u8,e⟩:=BQ c B O1 old ho b ts gs h1 x k hx hk (hd2 x k hx hk) MP t8
   exact ⟨_,rfl,_,e,_,u8,rfl⟩) _ ⟨t7,t8,rfl⟩
  refine ⟨[some (.f,Ey nZ arcs),some (.f,eP old),some (.f,.lst (((List.range many).map fun (s:Nat)=>O1 (s:Int)).map D.int)),some (.f,EV b ts gs),some (.f,.lst (((List.range many).map fun (s:Nat)=>B (s:Int)).map D.int)),some (.f,.int (x:Int)),MP,t7',t8'],?_,_,_,_,_,rfl⟩
  unfold du
  rw [ax (env':=_) (by
   unfold fI
   simp only [↓pd,pv,seval,op]
   rw [if_pos (by lia)]
   simp only [↓pd,pv,seval,op,Int.toNat_natCast]
   exact ef2)]
  unfold eS fH
  unfold Ey at Ng ⊢
  simp only [↓pd,pv,seval,op,a7]
  rw [if_pos (by lia)]
  simp only [↓pd,pv,seval,op,Int.toNat_natCast]
  exact Ng) _ ⟨none,none,none,none,rfl⟩
 rw [ax (env':=_) (by
  unfold fJ
  simp only [↓pd,pv,seval,op,a7,List.length_range]
  rw [if_pos (by lia)]
  simp only [↓pd,pv,seval,op,Int.toNat_natCast]
  exact ef)]
 unfold eU
 simp only [↓pd,pv,seval,op]
end
theorem getD_of {α:Type} {l:List α} {i:Nat} {x d:α} (h:l[i]?=some x):l.getD i d=x:=by
 rw [List.getD_eq_getElem?_getD,h]
 rfl
noncomputable def fO (S:List (List Int)) (j:Nat) (s:Int):Int:=(S.getD s.toNat []).getD j 0
noncomputable def EO (nZ:LNN) (arcs:List Ex) (p:Pl):List Int:=(List.range nZ.length).map fun k=>(p.2.2.getD k 0 - p.2.1.getD k 0) * (if decide (nZ.getD k []∈arcs.map (·.2.1))=true then 1 else 0)
theorem BR {nZ:LNN} {m:List Nat} (h:m∈nZ):nZ.getD (nZ.idxOf m) []=m:=by
 rw [List.getD_eq_getElem?_getD,jC (List.idxOf_lt_length_of_mem h),List.getElem_idxOf]
 rfl
theorem i8 (nZ:LNN) (arcs:List Ex) (p:Pl):(EO nZ arcs p).length=nZ.length:=by
 unfold EO
 rw [a7,List.length_range]
theorem xj (nZ:LNN) (arcs:List Ex) (p:Pl) {k:Nat} (h:k < nZ.length):(EO nZ arcs p).getD k 0=(p.2.2.getD k 0 - p.2.1.getD k 0) * (if decide (nZ.getD k []∈arcs.map (·.2.1))=true then 1 else 0):=by
 unfold EO
 rw [List.getD_eq_getElem?_getD,List.getElem?_map,List.getElem?_range h]
 rfl
structure Ok (nZ:LNN) (arcs:List Ex) (many:Nat) (f:Int->Int) (p:Pl):Prop where
 po:Ia p nZ.length
 fire:∀ a∈arcs,¬ f a.1 < p.2.1.getD (nZ.idxOf a.2.1) 0/\f a.2.2=f a.1 - p.2.1.getD (nZ.idxOf a.2.1) 0 + p.2.2.getD (nZ.idxOf a.2.1) 0
theorem Nt.ok {nZ:LNN} {ps:List Pl} {S:List (List Int)} {A:List Ex} (n:Nt nZ ps S A) {j:Nat} {p:Pl} (hj:ps[j]?=some p):Ok nZ (EB Fy A) S.length (fO S j) p:=by
 obtain ⟨m,r⟩:=n.rm
 refine ⟨n.po p (List.mem_of_getElem? hj),fun a ha=>?_⟩
 obtain ⟨_,i,i',_,e1,e2,s,t,hs,ht,hf⟩:=r.ab a ((oD Fy).mp ha)
 have EY:j < s.length:=by
  rw [r.ln s (List.mem_of_getElem? hs)]
  exact (mD hj).1
 obtain ⟨h1,h2⟩:=mF _ hf (show (s.zip ps)[j]?=some (s[j],p) from List.getElem?_zip_eq_some.mpr ⟨jC EY,hj⟩)
 have f1:fO S j a.1=s[j]:=by
  unfold fO
  rw [e1,Int.toNat_natCast,getD_of hs,getD_of (jC EY)]
 have f2:fO S j a.2.2=s[j] - p.2.1.getD (nZ.idxOf a.2.1) 0 + p.2.2.getD (nZ.idxOf a.2.1) 0:=by
  unfold fO
  rw [e2,Int.toNat_natCast,getD_of ht,getD_of h2]
 rw [f1,f2]
 exact ⟨h1,rfl⟩
section
variable {nZ:LNN} {arcs:List Ex} {many:Nat} {N:List Nd} {T:List Ex} {f:Int->Int} {p:Pl}
theorem Ok.step (o:Ok nZ arcs many f p) (c:Ck nZ arcs many N T) {a:Ex} (ha:a∈arcs):f a.2.2=f a.1 + (EO nZ arcs p).getD (nZ.idxOf a.2.1) 0:=by
 have hm:=c.nm a ha
 rw [xj nZ arcs p (List.idxOf_lt_length_of_mem hm),BR hm,decide_eq_true (List.mem_map.mpr ⟨a,ha,rfl⟩),if_pos rfl,(o.fire a ha).2]
 lia
theorem Ok.pot (o:Ok nZ arcs many f p) (c:Ck nZ arcs many N T):∀ s:Int,0<=s->s < (many:Int)->th nZ N (EO nZ arcs p) s=f s - f 0:=c.pot _ (i8 nZ arcs p) f fun a ha=>o.step c ha
theorem Ok.stretch (o:Ok nZ arcs many f p) (c:Ck nZ arcs many N T):bE [Ey nZ arcs,.tup ((EO nZ arcs p).map D.int)]=.ok (.f,.bl true):=by
 refine c.stretch _ (fun a ha=>?_) fun z hz=>?_
 ·rw [zg nZ N a _ c.nn (i8 nZ arcs p) (c.nm a ha)]
  have hb:=c.hb a ha
  have h1:=o.pot c a.1 hb.1.1 hb.1.2
  have h2:=o.pot c a.2.2 hb.2.1 hb.2.2
  have h3:=o.step c ha
  unfold th at h1 h2
  lia
 ·obtain ⟨k,hk⟩:=List.mem_iff_getElem?.mp hz
  obtain ⟨k1,k2⟩:=List.getElem?_zip_eq_some.mp (show (nZ.zip (EO nZ arcs p))[k]?=some (z.1,z.2) from hk)
  have EY:=(mD k1).1
  have e:=xj nZ arcs p EY
  rw [List.getD_eq_getElem?_getD,k2,Option.getD_some,List.getD_eq_getElem?_getD (l:=nZ),k1,Option.getD_some] at e
  by_cases hu:z.1∈arcs.map (·.2.1)
  ·obtain ⟨a,ha,e⟩:=mL hu
   exact .inr ⟨a,ha,e⟩
  ·left
   rw [e,decide_eq_false hu,if_neg Bool.false_ne_true,Int.mul_zero]
noncomputable def bB (nZ:LNN) (arcs:List Ex) (N:List Nd) (many:Nat) (p:Pl) (s:Int):Int:=th nZ N (EO nZ arcs p) s - dO (Hg nZ N (EO nZ arcs p) many)
theorem BS:Nn nZ N (EO nZ arcs p) many=(List.range many).map fun (s:Nat)=>bB nZ arcs N many p (s:Int):=by
 unfold Nn
 rw [show Hg nZ N (EO nZ arcs p) many=(List.range many).map fun (s:Nat)=>th nZ N (EO nZ arcs p) (s:Int) from rfl,List.map_map]
 rfl
theorem Ck.hne (c:Ck nZ arcs many N T) (uZ:List Int):Hg nZ N uZ many≠[]:=fun h=>by
 have:=congrArg List.length h
 unfold Hg at this
 rw [a7,List.length_range,List.length_nil] at this
 have:=c.m1
 lia
theorem Ck.bmin (c:Ck nZ arcs many N T):dO ((List.range many).map fun (s:Nat)=>bB nZ arcs N many p (s:Int))=0:=by
 have hne:=c.hne (EO nZ arcs p)
 have hne2:((List.range many).map fun (s:Nat)=>bB nZ arcs N many p (s:Int))≠[]:=fun h=>by
  have:=congrArg List.length h
  rw [a7,List.length_range,List.length_nil] at this
  have:=c.m1
  lia
 have h1:=mJ hne2
 obtain ⟨s,hs,e⟩:=mL h1
 have h2:dO (Hg nZ N (EO nZ arcs p) many)<=th nZ N (EO nZ arcs p) (s:Int):=mI (List.mem_map.mpr ⟨s,hs,rfl⟩)
 obtain ⟨s',L4,e'⟩:=mL (mJ hne)
 have e':th nZ N (EO nZ arcs p) (s':Int)=dO (Hg nZ N (EO nZ arcs p) many):=e'
 have h3:dO ((List.range many).map fun (s:Nat)=>bB nZ arcs N many p (s:Int))<=bB nZ arcs N many p (s':Int):=mI (List.mem_map.mpr ⟨s',L4,rfl⟩)
 have e4:bB nZ arcs N many p (s:Int)=th nZ N (EO nZ arcs p) (s:Int) - dO (Hg nZ N (EO nZ arcs p) many):=rfl
 have e5:bB nZ arcs N many p (s':Int)=th nZ N (EO nZ arcs p) (s':Int) - dO (Hg nZ N (EO nZ arcs p) many):=rfl
 lia
theorem zj {k:Nat} (h:k < nZ.length):(nZ.map (tk (bB nZ arcs N many p) arcs ((List.range many).map fun (s:Nat)=>bB nZ arcs N many p (s:Int)))).getD k 0=tk (bB nZ arcs N many p) arcs ((List.range many).map fun (s:Nat)=>bB nZ arcs N many p (s:Int)) (nZ.getD k []):=by
 rw [List.getD_eq_getElem?_getD,List.getElem?_map,List.getD_eq_getElem?_getD,jC h]
 rfl
theorem Dj {k:Nat} (h:k < nZ.length):(((nZ.map (tk (bB nZ arcs N many p) arcs ((List.range many).map fun (s:Nat)=>bB nZ arcs N many p (s:Int)))).zip (EO nZ arcs p)).map fun q=>q.1 + q.2).getD k 0=(nZ.map (tk (bB nZ arcs N many p) arcs ((List.range many).map fun (s:Nat)=>bB nZ arcs N many p (s:Int)))).getD k 0 + (EO nZ arcs p).getD k 0:=by
 have h1:k < (nZ.map (tk (bB nZ arcs N many p) arcs ((List.range many).map fun (s:Nat)=>bB nZ arcs N many p (s:Int)))).length:=by rw [a7];exact h
 have h2:k < (EO nZ arcs p).length:=by rw [i8];exact h
 generalize nZ.map (tk (bB nZ arcs N many p) arcs ((List.range many).map fun (s:Nat)=>bB nZ arcs N many p (s:Int)))=ts at h1 ⊢
 generalize EO nZ arcs p=nu at h2 ⊢
 have e:(ts.zip nu)[k]?=some (ts[k],nu[k]):=List.getElem?_zip_eq_some.mpr ⟨jC h1,jC h2⟩
 rw [getD_of (jC h1),getD_of (jC h2)]
 exact getD_of (by rw [List.getElem?_map,e];rfl)
theorem Dk {B:Int->Int} {bs:List Int} {a:Ex} (ha:a∈arcs):tk B arcs bs a.2.1<=B a.1:=by
 have hm:B a.1∈hv B arcs a.2.1:=List.mem_map.mpr ⟨a,List.mem_filter.mpr ⟨ha,beq_self_eq_true _⟩,rfl⟩
 unfold tk NX.minD
 rw [if_neg (List.ne_nil_of_mem hm)]
 exact mI hm
theorem uO {B:Int->Int} {bs:List Int} {m:List Nat} (hu:m∈arcs.map (·.2.1)):∃ a∈arcs,a.2.1=m/\tk B arcs bs m=B a.1:=by
 obtain ⟨a0,ha0,e0⟩:=mL hu
 have hm:B a0.1∈hv B arcs m:=List.mem_map.mpr ⟨a0,List.mem_filter.mpr ⟨ha0,beq_iff_eq.mpr e0⟩,rfl⟩
 unfold tk NX.minD
 rw [if_neg (List.ne_nil_of_mem hm)]
 obtain ⟨a,ha,e⟩:=mL (mJ (List.ne_nil_of_mem hm))
 obtain ⟨ha,e2⟩:=List.mem_filter.mp ha
 exact ⟨a,ha,beq_iff_eq.mp e2,e.symm⟩
theorem zk {B:Int->Int} {bs:List Int} {m:List Nat} (hu:m∉arcs.map (·.2.1)) {x:Int} (hx:x∈bs):x < tk B arcs bs m:=by
 have Ld:hv B arcs m=[]:=by
  unfold hv
  rw [List.filter_eq_nil_iff.mpr fun a ha e=>hu (List.mem_map.mpr ⟨a,ha,beq_iff_eq.mp e⟩)]
  rfl
 unfold tk NX.minD
 rw [if_pos Ld]
 have:=qF hx
 lia
theorem Ok.oks (o:Ok nZ arcs many f p) (c:Ck nZ arcs many N T):∀ a∈arcs,JD nZ (bB nZ arcs N many p) (nZ.map (tk (bB nZ arcs N many p) arcs ((List.range many).map fun (s:Nat)=>bB nZ arcs N many p (s:Int)))) (((nZ.map (tk (bB nZ arcs N many p) arcs ((List.range many).map fun (s:Nat)=>bB nZ arcs N many p (s:Int)))).zip (EO nZ arcs p)).map fun q=>q.1 + q.2) a=true:=by
 intro a ha
 have hm:=c.nm a ha
 have hk:=List.idxOf_lt_length_of_mem hm
 have h1:=zj (arcs:=arcs) (N:=N) (many:=many) (p:=p) hk
 have h2:=Dj (arcs:=arcs) (N:=N) (many:=many) (p:=p) hk
 rw [BR hm] at h1
 have h3:=Dk (B:=bB nZ arcs N many p) (bs:=(List.range many).map fun (s:Nat)=>bB nZ arcs N many p (s:Int)) ha
 have hb:=c.hb a ha
 have p1:=o.pot c a.1 hb.1.1 hb.1.2
 have p2:=o.pot c a.2.2 hb.2.1 hb.2.2
 have h4:=o.step c ha
 unfold JD
 rw [h2,h1]
 have e1:bB nZ arcs N many p a.1=th nZ N (EO nZ arcs p) a.1 - dO (Hg nZ N (EO nZ arcs p) many):=rfl
 have e2:bB nZ arcs N many p a.2.2=th nZ N (EO nZ arcs p) a.2.2 - dO (Hg nZ N (EO nZ arcs p) many):=rfl
 rw [Bool.and_eq_true,beq_iff_eq]
 refine ⟨?_,by lia⟩
 rw [decide_eq_false (by lia)]
 rfl
theorem kN:(nZ.map (tk (bB nZ arcs N many p) arcs ((List.range many).map fun (s:Nat)=>bB nZ arcs N many p (s:Int)))).length=nZ.length:=a7 _
theorem qM:(((nZ.map (tk (bB nZ arcs N many p) arcs ((List.range many).map fun (s:Nat)=>bB nZ arcs N many p (s:Int)))).zip (EO nZ arcs p)).map fun q=>q.1 + q.2).length=nZ.length:=by
 rw [a7,List.length_zip,a7,i8,Nat.min_self]
theorem Ok.bfun (o:Ok nZ arcs many f p) (c:Ck nZ arcs many N T):(bB nZ arcs N many p)=fun s=>bB nZ arcs N many p 0 + th nZ N (Hh (((nZ.map (tk (bB nZ arcs N many p) arcs ((List.range many).map fun (s:Nat)=>bB nZ arcs N many p (s:Int)))).zip (EO nZ arcs p)).map fun q=>q.1 + q.2) (nZ.map (tk (bB nZ arcs N many p) arcs ((List.range many).map fun (s:Nat)=>bB nZ arcs N many p (s:Int))))) s:=by
 have h0:=o.pot c 0 (Int.le_refl _) (by have:=c.m1;lia)
 have e:=uN (nZ.map (tk (bB nZ arcs N many p) arcs ((List.range many).map fun (s:Nat)=>bB nZ arcs N many p (s:Int)))) (EO nZ arcs p) (by rw [kN,i8])
 funext s
 rw [e]
 unfold bB
 lia
theorem Ok.lets (o:Ok nZ arcs many f p) (c:Ck nZ arcs many N T):c5 [Ey nZ arcs,EV (bB nZ arcs N many p 0) (nZ.map (tk (bB nZ arcs N many p) arcs ((List.range many).map fun (s:Nat)=>bB nZ arcs N many p (s:Int)))) (((nZ.map (tk (bB nZ arcs N many p) arcs ((List.range many).map fun (s:Nat)=>bB nZ arcs N many p (s:Int)))).zip (EO nZ arcs p)).map fun q=>q.1 + q.2)]=.ok (.f,.bl true):=by
 rw [c.lets_go (bB nZ arcs N many p 0) (nZ.map (tk (bB nZ arcs N many p) arcs ((List.range many).map fun (s:Nat)=>bB nZ arcs N many p (s:Int)))) (((nZ.map (tk (bB nZ arcs N many p) arcs ((List.range many).map fun (s:Nat)=>bB nZ arcs N many p (s:Int)))).zip (EO nZ arcs p)).map fun q=>q.1 + q.2) kN qM (bB nZ arcs N many p) (o.bfun c),List.all_eq_true.mpr (o.oks c)]
theorem Ok.not (o:Ok nZ arcs many f p) (c:Ck nZ arcs many N T) {k:Nat} (hk:k < nZ.length) (hu:nZ.getD k []∈arcs.map (·.2.1)):c5 [Ey nZ arcs,EV (bB nZ arcs N many p 0) ((nZ.map (tk (bB nZ arcs N many p) arcs ((List.range many).map fun (s:Nat)=>bB nZ arcs N many p (s:Int)))).set k ((nZ.map (tk (bB nZ arcs N many p) arcs ((List.range many).map fun (s:Nat)=>bB nZ arcs N many p (s:Int)))).getD k 0 + 1)) ((((nZ.map (tk (bB nZ arcs N many p) arcs ((List.range many).map fun (s:Nat)=>bB nZ arcs N many p (s:Int)))).zip (EO nZ arcs p)).map fun q=>q.1 + q.2).set k ((((nZ.map (tk (bB nZ arcs N many p) arcs ((List.range many).map fun (s:Nat)=>bB nZ arcs N many p (s:Int)))).zip (EO nZ arcs p)).map fun q=>q.1 + q.2).getD k 0 + 1))]=.ok (.f,.bl false):=by
 have e:=o.bfun c
 rw [<-uM (((nZ.map (tk (bB nZ arcs N many p) arcs ((List.range many).map fun (s:Nat)=>bB nZ arcs N many p (s:Int)))).zip (EO nZ arcs p)).map fun q=>q.1 + q.2) (nZ.map (tk (bB nZ arcs N many p) arcs ((List.range many).map fun (s:Nat)=>bB nZ arcs N many p (s:Int)))) k] at e
 rw [c.lets_go (bB nZ arcs N many p 0) ((nZ.map (tk (bB nZ arcs N many p) arcs ((List.range many).map fun (s:Nat)=>bB nZ arcs N many p (s:Int)))).set k ((nZ.map (tk (bB nZ arcs N many p) arcs ((List.range many).map fun (s:Nat)=>bB nZ arcs N many p (s:Int)))).getD k 0 + 1)) ((((nZ.map (tk (bB nZ arcs N many p) arcs ((List.range many).map fun (s:Nat)=>bB nZ arcs N many p (s:Int)))).zip (EO nZ arcs p)).map fun q=>q.1 + q.2).set k ((((nZ.map (tk (bB nZ arcs N many p) arcs ((List.range many).map fun (s:Nat)=>bB nZ arcs N many p (s:Int)))).zip (EO nZ arcs p)).map fun q=>q.1 + q.2).getD k 0 + 1)) (by rw [List.length_set,kN]) (by rw [List.length_set,qM]) (bB nZ arcs N many p) e]
 obtain ⟨a,ha,e1,e2⟩:=uO (B:=bB nZ arcs N many p) (bs:=(List.range many).map fun (s:Nat)=>bB nZ arcs N many p (s:Int)) hu
 have h1:=zj (arcs:=arcs) (N:=N) (many:=many) (p:=p) hk
 have Og:nZ.idxOf a.2.1=k:=by
  rw [e1,List.getD_eq_getElem?_getD,jC hk]
  exact qz c.nn hk
 have hset:((nZ.map (tk (bB nZ arcs N many p) arcs ((List.range many).map fun (s:Nat)=>bB nZ arcs N many p (s:Int)))).set k ((nZ.map (tk (bB nZ arcs N many p) arcs ((List.range many).map fun (s:Nat)=>bB nZ arcs N many p (s:Int)))).getD k 0 + 1)).getD k 0=(nZ.map (tk (bB nZ arcs N many p) arcs ((List.range many).map fun (s:Nat)=>bB nZ arcs N many p (s:Int)))).getD k 0 + 1:=by
  rw [List.getD_eq_getElem?_getD,List.getElem?_set_self (by rw [kN];exact hk)]
  rfl
 have hbad:JD nZ (bB nZ arcs N many p) ((nZ.map (tk (bB nZ arcs N many p) arcs ((List.range many).map fun (s:Nat)=>bB nZ arcs N many p (s:Int)))).set k ((nZ.map (tk (bB nZ arcs N many p) arcs ((List.range many).map fun (s:Nat)=>bB nZ arcs N many p (s:Int)))).getD k 0 + 1)) ((((nZ.map (tk (bB nZ arcs N many p) arcs ((List.range many).map fun (s:Nat)=>bB nZ arcs N many p (s:Int)))).zip (EO nZ arcs p)).map fun q=>q.1 + q.2).set k ((((nZ.map (tk (bB nZ arcs N many p) arcs ((List.range many).map fun (s:Nat)=>bB nZ arcs N many p (s:Int)))).zip (EO nZ arcs p)).map fun q=>q.1 + q.2).getD k 0 + 1)) a=false:=by
  unfold JD
  rw [Og,hset,h1,e2,decide_eq_true (by lia)]
  rfl
 have:arcs.all (JD nZ (bB nZ arcs N many p) ((nZ.map (tk (bB nZ arcs N many p) arcs ((List.range many).map fun (s:Nat)=>bB nZ arcs N many p (s:Int)))).set k ((nZ.map (tk (bB nZ arcs N many p) arcs ((List.range many).map fun (s:Nat)=>bB nZ arcs N many p (s:Int)))).getD k 0 + 1)) ((((nZ.map (tk (bB nZ arcs N many p) arcs ((List.range many).map fun (s:Nat)=>bB nZ arcs N many p (s:Int)))).zip (EO nZ arcs p)).map fun q=>q.1 + q.2).set k ((((nZ.map (tk (bB nZ arcs N many p) arcs ((List.range many).map fun (s:Nat)=>bB nZ arcs N many p (s:Int)))).zip (EO nZ arcs p)).map fun q=>q.1 + q.2).getD k 0 + 1)))=false:=List.all_eq_false.mpr ⟨a,ha,by rw [hbad];exact Bool.false_ne_true⟩
 rw [this]
theorem Ok.goes (o:Ok nZ arcs many f p) (c:Ck nZ arcs many N T):cO [Ey nZ arcs,EV (bB nZ arcs N many p 0) (nZ.map (tk (bB nZ arcs N many p) arcs ((List.range many).map fun (s:Nat)=>bB nZ arcs N many p (s:Int)))) (((nZ.map (tk (bB nZ arcs N many p) arcs ((List.range many).map fun (s:Nat)=>bB nZ arcs N many p (s:Int)))).zip (EO nZ arcs p)).map fun q=>q.1 + q.2),.lst (((List.range many).map fun (s:Nat)=>bB nZ arcs N many p (s:Int)).map D.int)]=.ok (.f,.bl true):=by
 have h:=c.goes (bB nZ arcs N many p 0) (nZ.map (tk (bB nZ arcs N many p) arcs ((List.range many).map fun (s:Nat)=>bB nZ arcs N many p (s:Int)))) (((nZ.map (tk (bB nZ arcs N many p) arcs ((List.range many).map fun (s:Nat)=>bB nZ arcs N many p (s:Int)))).zip (EO nZ arcs p)).map fun q=>q.1 + q.2) kN qM (bB nZ arcs N many p) rfl c.bmin (o.oks c)
 with_reducible exact h
theorem Ok.good (o:Ok nZ arcs many f p) (c:Ck nZ arcs many N T):bO [Ey nZ arcs,eP p,.lst (((List.range many).map fun (s:Nat)=>f (s:Int)).map D.int),EV (bB nZ arcs N many p 0) (nZ.map (tk (bB nZ arcs N many p) arcs ((List.range many).map fun (s:Nat)=>bB nZ arcs N many p (s:Int)))) (((nZ.map (tk (bB nZ arcs N many p) arcs ((List.range many).map fun (s:Nat)=>bB nZ arcs N many p (s:Int)))).zip (EO nZ arcs p)).map fun q=>q.1 + q.2),.lst (((List.range many).map fun (s:Nat)=>bB nZ arcs N many p (s:Int)).map D.int)]=.ok (.f,.bl true):=by
 suffices hh:(∀ s t:Nat,s < many->t < many->bB nZ arcs N many p (s:Int)=bB nZ arcs N many p (t:Int)->f (s:Int)=f (t:Int))/\(∀ x k:Nat,x < many->k < nZ.length->f (x:Int) < p.2.1.getD k 0->bB nZ arcs N many p (x:Int) < (nZ.map (tk (bB nZ arcs N many p) arcs ((List.range many).map fun (s:Nat)=>bB nZ arcs N many p (s:Int)))).getD k 0) by
  have h:=c.good (bB nZ arcs N many p) f p o.po (bB nZ arcs N many p 0) (nZ.map (tk (bB nZ arcs N many p) arcs ((List.range many).map fun (s:Nat)=>bB nZ arcs N many p (s:Int)))) (((nZ.map (tk (bB nZ arcs N many p) arcs ((List.range many).map fun (s:Nat)=>bB nZ arcs N many p (s:Int)))).zip (EO nZ arcs p)).map fun q=>q.1 + q.2) kN hh.1 hh.2
  with_reducible exact h
 refine ⟨fun s t hs ht e=>?_,fun x k hx hk EY=>?_⟩
 ·have p1:=o.pot c (s:Int) (by lia) (by lia)
  have p2:=o.pot c (t:Int) (by lia) (by lia)
  unfold bB at e
  lia
 ·rw [zj hk]
  by_cases hu:nZ.getD k []∈arcs.map (·.2.1)
  ·obtain ⟨a,ha,e1,e2⟩:=uO (B:=bB nZ arcs N many p) (bs:=(List.range many).map fun (s:Nat)=>bB nZ arcs N many p (s:Int)) hu
   have Og:nZ.idxOf a.2.1=k:=by
    rw [e1,List.getD_eq_getElem?_getD,jC hk]
    exact qz c.nn hk
   have hf:=(o.fire a ha).1
   rw [Og] at hf
   have hb:=(c.hb a ha).1
   have p1:=o.pot c (x:Int) (by lia) (by lia)
   have p2:=o.pot c a.1 hb.1 hb.2
   rw [e2]
   unfold bB
   lia
  ·exact zk hu (List.mem_map.mpr ⟨x,List.mem_range.mpr hx,rfl⟩)
theorem Ok.beads (o:Ok nZ arcs many f p) (c:Ck nZ arcs many N T):b6 [Ey nZ arcs,.tup ((EO nZ arcs p).map D.int)]=.ok (.l .f,.lst (((List.range many).map fun (s:Nat)=>bB nZ arcs N many p (s:Int)).map D.int)):=by
 rw [c.beads _ (o.stretch c),BS]
theorem Ok.place (o:Ok nZ arcs many f p) (c:Ck nZ arcs many N T):dq [Ey nZ arcs,.tup ((EO nZ arcs p).map D.int)]=.ok (.f,EV (bB nZ arcs N many p 0) (nZ.map (tk (bB nZ arcs N many p) arcs ((List.range many).map fun (s:Nat)=>bB nZ arcs N many p (s:Int)))) (((nZ.map (tk (bB nZ arcs N many p) arcs ((List.range many).map fun (s:Nat)=>bB nZ arcs N many p (s:Int)))).zip (EO nZ arcs p)).map fun q=>q.1 + q.2)):=by
 have h:=c.place (EO nZ arcs p) (bB nZ arcs N many p) ((List.range many).map fun (s:Nat)=>bB nZ arcs N many p (s:Int)) rfl (o.beads c)
 unfold EV
 with_reducible exact h
end
section
variable {nZ:LNN} {arcs:List Ex} {N:List Nd} {T:List Ex} {f:Int->Int} {p:Pl}
theorem wo (ps:List Pl) (hp:Ia p nZ.length):b5 (au 0) dy (az jI (aj (az nI (aj (az Eu (aj (az Eu (ai 2) (aj (aE (.int 2))))) (ai 0))) (aj (az Eu (aj (az Eu (ai 2) (aj (aE (.int 1))))) (ai 0))))) (aj (aY zp (ag (aj (bo KH (aj (az Eu (aj (az Eu (ai 3) (aj (aE (.int 0))))) (ai 0))) (ai 1))) ay)))) ((List.range nZ.length).map fun (k:Nat)=>D.int (k:Int)) [none,some (.f,.lst ((arcs.map (·.2.1)).map D.str)),some (.f,eP p),some (.f,eN nZ ps)]=.ok ((EO nZ arcs p).map D.int):=by
 rw [aW (r:=fun k:Nat=>D.int ((p.2.2.getD k 0 - p.2.1.getD k 0) * (if decide (nZ.getD k []∈arcs.map (·.2.1))=true then 1 else 0))) (fun env=>∃ t,env=[t,some (.f,.lst ((arcs.map (·.2.1)).map D.str)),some (.f,eP p),some (.f,eN nZ ps)]) (List.range nZ.length) ?_ _ ⟨none,rfl⟩]
 ·unfold EO
  rw [List.map_map]
  rfl
 ·rintro k hk env ⟨t,rfl⟩
  have hk:=List.mem_range.mp hk
  have q1:E6 (p.2.1.map D.int) (k:Int)=some (.int (p.2.1.getD k 0)):=d6 (by rw [hp.1];exact hk)
  have q2:E6 (p.2.2.map D.int) (k:Int)=some (.int (p.2.2.getD k 0)):=d6 (by rw [hp.2];exact hk)
  have LM:E6 (nZ.map D.str) (k:Int)=some (.str (nZ.getD k [])):=by
   rw [uo hk,getD_of (jC hk)]
  refine ⟨[some (.f,.int (k:Int)),some (.f,.lst ((arcs.map (·.2.1)).map D.str)),some (.f,eP p),some (.f,eN nZ ps)],rfl,.f,[some (.f,.int (k:Int)),some (.f,.lst ((arcs.map (·.2.1)).map D.str)),some (.f,eP p),some (.f,eN nZ ps)],?_,_,rfl⟩
  have Jy:=qI (nZ.getD k []) (arcs.map (·.2.1))
  generalize decide (nZ.getD k []∈arcs.map (·.2.1))=bb at Jy
  have hsm:cB (if bb=true then 1 else 0)=true:=by cases bb <;> rfl
  have hmu:=BZ (p.2.2.getD k 0 - p.2.1.getD k 0) (if bb=true then 1 else 0) hsm
  unfold eP eN
  simp only [↓pd,pv,seval,op,q1,q2,at2,LM,Jy,hmu]
theorem Dl (ns:List Int) (ps:List Pl) (S:List (List Int)) (many:Nat) (c:Ck nZ arcs many N T) (o:Ok nZ arcs many f p) (t6 t7 t8 t9 Hz:Option R) (k:Nat) (hk:k < nZ.length) :
  jJ [some (.f,.lst (ns.map D.int)),some (.f,eN nZ ps),some (.f,.lst (arcs.map eA)),some (.f,.lst (S.map eM)),some (.f,Ey nZ arcs),some (.l .f,.lst ((arcs.map (·.2.1)).map D.str)),t6,t7,t8,t9,some (.f,EV (bB nZ arcs N many p 0) (nZ.map (tk (bB nZ arcs N many p) arcs ((List.range many).map fun (s:Nat)=>bB nZ arcs N many p (s:Int)))) (((nZ.map (tk (bB nZ arcs N many p) arcs ((List.range many).map fun (s:Nat)=>bB nZ arcs N many p (s:Int)))).zip (EO nZ arcs p)).map fun q=>q.1 + q.2)),Hz,some (.f,.int (k:Int))]=.ok (.nx [some (.f,.lst (ns.map D.int)),some (.f,eN nZ ps),some (.f,.lst (arcs.map eA)),some (.f,.lst (S.map eM)),some (.f,Ey nZ arcs),some (.l .f,.lst ((arcs.map (·.2.1)).map D.str)),t6,t7,t8,t9,some (.f,EV (bB nZ arcs N many p 0) (nZ.map (tk (bB nZ arcs N many p) arcs ((List.range many).map fun (s:Nat)=>bB nZ arcs N many p (s:Int)))) (((nZ.map (tk (bB nZ arcs N many p) arcs ((List.range many).map fun (s:Nat)=>bB nZ arcs N many p (s:Int)))).zip (EO nZ arcs p)).map fun q=>q.1 + q.2)),Hz,some (.f,.int (k:Int))]):=by
 have hnot:=fun hu=>o.not c hk hu
 have h1:(nZ.map (tk (bB nZ arcs N many p) arcs ((List.range many).map fun (s:Nat)=>bB nZ arcs N many p (s:Int)))).length=nZ.length:=kN
 have h2:(((nZ.map (tk (bB nZ arcs N many p) arcs ((List.range many).map fun (s:Nat)=>bB nZ arcs N many p (s:Int)))).zip (EO nZ arcs p)).map fun q=>q.1 + q.2).length=nZ.length:=qM
 generalize (((nZ.map (tk (bB nZ arcs N many p) arcs ((List.range many).map fun (s:Nat)=>bB nZ arcs N many p (s:Int)))).zip (EO nZ arcs p)).map fun q=>q.1 + q.2)=gs at *
 generalize (nZ.map (tk (bB nZ arcs N many p) arcs ((List.range many).map fun (s:Nat)=>bB nZ arcs N many p (s:Int))))=ts at *
 generalize bB nZ arcs N many p 0=b at *
 have MU:=BN b ts gs k (by lia) (by lia)
 have LM:E6 (nZ.map D.str) (k:Int)=some (.str (nZ.getD k [])):=by
  rw [uo hk,getD_of (jC hk)]
 have Jy:=qI (nZ.getD k []) (arcs.map (·.2.1))
 have KL:∀ (b:Int) (ts gs:List Int),cD (EV b ts gs)=true:=fun b ts gs=>by
  unfold EV
  rw [bN]
  simp only [flatDs,bN,En,gJ]
  rfl
 unfold jJ
 by_cases hu:nZ.getD k []∈arcs.map (·.2.1)
 ·have hl:=hnot hu
  rw [decide_eq_true hu] at Jy
  unfold eN
  simp only [↓pd,pv,seval,op,LM,Jy,MU,KL,hl,beq_self_eq_true,Bool.not_true,gw]
 ·rw [decide_eq_false hu] at Jy
  unfold eN
  simp only [↓pd,pv,seval,op,LM,Jy,gw]
end
theorem law_2 (ns:List Int) {nZ:LNN} {ps:List Pl} {S:List (List Int)} {A arcs:List Ex} {N:List Nd} {T:List Ex} (n:Nt nZ ps S A) (ea:arcs=EB Fy A) (c:Ck nZ arcs S.length N T) (j:Nat) (hj:j < ps.length) (t7 t8 t9 JO Hz Hi:Option R) :
  ∃ u7 u8 u9 OY OZ O0,jK [some (.f,.lst (ns.map D.int)),some (.f,eN nZ ps),some (.f,.lst (arcs.map eA)),some (.f,.lst (S.map eM)),some (.f,Ey nZ arcs),some (.l .f,.lst ((arcs.map (·.2.1)).map D.str)),some (.f,.int (j:Int)),t7,t8,t9,JO,Hz,Hi]=.ok (.nx [some (.f,.lst (ns.map D.int)),some (.f,eN nZ ps),some (.f,.lst (arcs.map eA)),some (.f,.lst (S.map eM)),some (.f,Ey nZ arcs),some (.l .f,.lst ((arcs.map (·.2.1)).map D.str)),some (.f,.int (j:Int)),u7,u8,u9,OY,OZ,O0]):=by
 obtain ⟨p,hp⟩:∃ p,ps[j]?=some p:=⟨ps[j],jC hj⟩
 have o:=n.ok hp
 rw [<-ea] at o
 obtain ⟨m,r⟩:=n.rm
 have Kv:=n.n3
 have h8:=r.le
 have hstr:=o.stretch c
 have Jf:=o.beads c
 have Gm:=o.place c
 have hgo:=o.goes c
 have hle:=o.lets c
 have hgd:=o.good c
 have Ly:=wo (arcs:=arcs) ps o.po
 have hnl:=i8 nZ arcs p
 have hlen:((EO nZ arcs p).map D.int).length<=sizeLine:=aM (by rw [a7];lia)
 have Jg:=En (EO nZ arcs p)
 have Of:=En ((List.range S.length).map fun (s:Nat)=>bB nZ arcs N S.length p (s:Int))
 have KJ:(((List.range S.length).map fun (s:Nat)=>bB nZ arcs N S.length p (s:Int)).map D.int).length=S.length:=by rw [a7,a7,List.length_range]
 have KL:∀ (b:Int) (ts gs:List Int),cD (EV b ts gs)=true:=fun b ts gs=>by
  unfold EV
  rw [bN]
  simp only [flatDs,bN,En,gJ]
  rfl
 have O2:b5 (au 0) dy (az Eu (ai 0) (ai 1)) (S.map eM) [none,some (.f,.int (j:Int))]=.ok (((List.range S.length).map fun (s:Nat)=>fO S j (s:Int)).map D.int):=by
  rw [aW (r:=fun s:List Int=>D.int (s.getD j 0)) (fun env=>∃ t,env=[t,some (.f,.int (j:Int))]) S ?_ _ ⟨none,rfl⟩]
  ·refine congrArg Res.ok ?_
   rw [List.map_map]
   refine List.ext_getElem? fun i=>?_
   rw [List.getElem?_map,List.getElem?_map]
   by_cases hi:i < S.length
   ·rw [jC hi,List.getElem?_range hi]
    have e:fO S j (i:Int)=S[i].getD j 0:=by
     unfold fO
     rw [Int.toNat_natCast,getD_of (jC hi)]
    simp only [Option.map_some,Function.comp,e]
   ·rw [List.getElem?_eq_none (by lia),List.getElem?_eq_none (by rw [List.length_range];lia),Option.map_none,Option.map_none]
  ·rintro s hs env ⟨t,rfl⟩
   have Jd:E6 (s.map D.int) (j:Int)=some (.int (s.getD j 0)):=d6 (by rw [r.ln s hs];exact hj)
   refine ⟨[some (.f,eM s),some (.f,.int (j:Int))],rfl,.f,[some (.f,eM s),some (.f,.int (j:Int))],?_,_,rfl⟩
   unfold eM
   simp only [↓pd,pv,seval,op,Jd]
 have EY:(((List.range S.length).map fun (s:Nat)=>fO S j (s:Int)).map D.int).length<=sizeLine:=aM (by rw [a7,a7,List.length_range];lia)
 have N9:=En ((List.range S.length).map fun (s:Nat)=>fO S j (s:Int))
 have hold:E6 (ps.map eP) (j:Int)=some (eP p):=dF (by rw [List.getElem?_map,hp];rfl)
 have MV:=fun t6 t7 t8 t9 Hz Hi=>gv (a:=au 12) (g:=jJ) (e:=fun k=>D.int (k:Int)) nZ.length (fun i env=>∃ Hi,env=[some (.f,.lst (ns.map D.int)),some (.f,eN nZ ps),some (.f,.lst (arcs.map eA)),some (.f,.lst (S.map eM)),some (.f,Ey nZ arcs),some (.l .f,.lst ((arcs.map (·.2.1)).map D.str)),t6,t7,t8,t9,some (.f,EV (bB nZ arcs N S.length p 0) (nZ.map (tk (bB nZ arcs N S.length p) arcs ((List.range S.length).map fun (s:Nat)=>bB nZ arcs N S.length p (s:Int)))) (((nZ.map (tk (bB nZ arcs N S.length p) arcs ((List.range S.length).map fun (s:Nat)=>bB nZ arcs N S.length p (s:Int)))).zip (EO nZ arcs p)).map fun q=>q.1 + q.2)),Hz,Hi]) (by
  rintro k env hk ⟨Hi,rfl⟩
  exact ⟨_,rfl,_,Dl ns ps S S.length c o t6 t7 t8 t9 Hz k hk,_,rfl⟩) _ ⟨Hi,rfl⟩
 generalize (((List.range S.length).map fun (s:Nat)=>fO S j (s:Int)).map D.int)=TH at *
 generalize (((nZ.map (tk (bB nZ arcs N S.length p) arcs ((List.range S.length).map fun (s:Nat)=>bB nZ arcs N S.length p (s:Int)))).zip (EO nZ arcs p)).map fun q=>q.1 + q.2)=gs at *
 generalize (nZ.map (tk (bB nZ arcs N S.length p) arcs ((List.range S.length).map fun (s:Nat)=>bB nZ arcs N S.length p (s:Int))))=ts at *
 generalize bB nZ arcs N S.length p 0=b at *
 generalize (((List.range S.length).map fun (s:Nat)=>bB nZ arcs N S.length p (s:Int)).map D.int)=BB at *
 generalize (EO nZ arcs p).map D.int=NU at *
 have hfpo:=KL b ts gs
 generalize EV b ts gs=PL at *
 unfold jK
 rw [ax (env':=[some (.f,.lst (ns.map D.int)),some (.f,eN nZ ps),some (.f,.lst (arcs.map eA)),some (.f,.lst (S.map eM)),some (.f,Ey nZ arcs),some (.l .f,.lst ((arcs.map (·.2.1)).map D.str)),some (.f,.int (j:Int)),some (.f,eP p),t8,t9,JO,Hz,Hi]) (by
  unfold eN
  simp only [↓pd,pv,seval,op,hold])]
 rw [ax (env':=[some (.f,.lst (ns.map D.int)),some (.f,eN nZ ps),some (.f,.lst (arcs.map eA)),some (.f,.lst (S.map eM)),some (.f,Ey nZ arcs),some (.l .f,.lst ((arcs.map (·.2.1)).map D.str)),some (.f,.int (j:Int)),some (.f,eP p),some (.l .f,.lst NU),t9,JO,Hz,Hi]) (by
  unfold eN at Ly ⊢
  generalize (az jI (aj (az nI (aj (az Eu (aj (az Eu (ai 2) (aj (aE (.int 2))))) (ai 0))) (aj (az Eu (aj (az Eu (ai 2) (aj (aE (.int 1))))) (ai 0))))) (aj (aY zp (ag (aj (bo KH (aj (az Eu (aj (az Eu (ai 3) (aj (aE (.int 0))))) (ai 0))) (ai 1))) ay))))=GG at Ly ⊢
  simp only [↓pd,pv,seval,op,a7]
  rw [if_pos (by lia)]
  simp only [↓pd,pv,seval,op,Int.toNat_natCast,Ly,hlen,Jg])]
 rw [ax (env':=[some (.f,.lst (ns.map D.int)),some (.f,eN nZ ps),some (.f,.lst (arcs.map eA)),some (.f,.lst (S.map eM)),some (.f,Ey nZ arcs),some (.l .f,.lst ((arcs.map (·.2.1)).map D.str)),some (.f,.int (j:Int)),some (.f,eP p),some (.l .f,.lst NU),t9,JO,Hz,Hi]) (by simp only [↓pd,pv,seval,op,hstr,beq_self_eq_true,Bool.not_true,gw])]
 rw [ax (env':=[some (.f,.lst (ns.map D.int)),some (.f,eN nZ ps),some (.f,.lst (arcs.map eA)),some (.f,.lst (S.map eM)),some (.f,Ey nZ arcs),some (.l .f,.lst ((arcs.map (·.2.1)).map D.str)),some (.f,.int (j:Int)),some (.f,eP p),some (.l .f,.lst NU),some (.l .f,.lst BB),JO,Hz,Hi]) (by simp only [↓pd,pv,seval,op,Jf,Of])]
 rw [ax (env':=[some (.f,.lst (ns.map D.int)),some (.f,eN nZ ps),some (.f,.lst (arcs.map eA)),some (.f,.lst (S.map eM)),some (.f,Ey nZ arcs),some (.l .f,.lst ((arcs.map (·.2.1)).map D.str)),some (.f,.int (j:Int)),some (.f,eP p),some (.l .f,.lst NU),some (.l .f,.lst BB),some (.f,PL),Hz,Hi]) (by simp only [↓pd,pv,seval,op,Gm,hfpo])]
 have isLs:wU "list" (.lst BB)=true:=rfl
 rw [ax (env':=[some (.f,.lst (ns.map D.int)),some (.f,eN nZ ps),some (.f,.lst (arcs.map eA)),some (.f,.lst (S.map eM)),some (.f,Ey nZ arcs),some (.l .f,.lst ((arcs.map (·.2.1)).map D.str)),some (.f,.int (j:Int)),some (.f,eP p),some (.l .f,.lst NU),some (.l .f,.lst BB),some (.f,PL),Hz,Hi]) (by simp only [↓pd,pv,seval,op,isLs,KJ,a7,beq_self_eq_true,hgo,Bool.not_true,gw])]
 rw [ax (env':=[some (.f,.lst (ns.map D.int)),some (.f,eN nZ ps),some (.f,.lst (arcs.map eA)),some (.f,.lst (S.map eM)),some (.f,Ey nZ arcs),some (.l .f,.lst ((arcs.map (·.2.1)).map D.str)),some (.f,.int (j:Int)),some (.f,eP p),some (.l .f,.lst NU),some (.l .f,.lst BB),some (.f,PL),Hz,Hi]) (by simp only [↓pd,pv,seval,op,hle,beq_self_eq_true,Bool.not_true,gw])]
 rw [ax (env':=[some (.f,.lst (ns.map D.int)),some (.f,eN nZ ps),some (.f,.lst (arcs.map eA)),some (.f,.lst (S.map eM)),some (.f,Ey nZ arcs),some (.l .f,.lst ((arcs.map (·.2.1)).map D.str)),some (.f,.int (j:Int)),some (.f,eP p),some (.l .f,.lst NU),some (.l .f,.lst BB),some (.f,PL),some (.l .f,.lst TH),Hi]) (by
  generalize (az Eu (ai 0) (ai 1))=GG at O2 ⊢
  simp only [↓pd,pv,seval,op,O2,EY,N9])]
 rw [ax (env':=[some (.f,.lst (ns.map D.int)),some (.f,eN nZ ps),some (.f,.lst (arcs.map eA)),some (.f,.lst (S.map eM)),some (.f,Ey nZ arcs),some (.l .f,.lst ((arcs.map (·.2.1)).map D.str)),some (.f,.int (j:Int)),some (.f,eP p),some (.l .f,.lst NU),some (.l .f,.lst BB),some (.f,PL),some (.l .f,.lst TH),Hi]) (by simp only [↓pd,pv,seval,op,hgd,Bool.not_true,gw])]
 obtain ⟨env',ef,t12',rfl⟩:=MV (some (.f,.int (j:Int))) (some (.f,eP p)) (some (.l .f,.lst NU)) (some (.l .f,.lst BB)) (some (.l .f,.lst TH)) Hi
 refine ⟨some (.f,eP p),some (.l .f,.lst NU),some (.l .f,.lst BB),some (.f,PL),some (.l .f,.lst TH),t12',?_⟩
 unfold ud
 unfold eN at ef ⊢
 simp only [↓pd,pv,seval,op,a7]
 rw [if_pos (by lia)]
 simp only [↓pd,pv,seval,op,Int.toNat_natCast]
 exact ef
theorem uP:∀ ns:List Int,ns.length<=63->∃ o,yE [.lst (ns.map D.int)]=.ok (o,.bl true):=by
 intro ns _
 obtain ⟨nZ,ps,S,A,n,en,er⟩:=Di ns 2
 have en:dt [.lst (ns.map D.int),.int 2]=.ok (.f,eN nZ ps):=en
 have Kv:=n.n3
 have hp9:=n.p9
 obtain ⟨N,T,c⟩:=n.ra.sort.ck n.nn (by lia)
 have Oh:=fun arcs (ea:arcs=EB Fy A) (c:Ck nZ arcs S.length N T)=>law_2 ns n ea c
 have GH:=c.al
 obtain ⟨arcs,ea⟩:∃ arcs,arcs=EB Fy A:=⟨_,rfl⟩
 rw [<-ea] at c er GH
 have Oh:=Oh arcs ea c
 have Lw:∀ (x y:List D),flatDs [.lst x,.lst y]=false:=fun _ _=>rfl
 have hus:b5 (gH 3 (aB (au 0) (aB (au 1) (aB (au 2) cC)))) dy (aJ 1) (arcs.map eA) [none,none,none]=.ok ((arcs.map (·.2.1)).map D.str):=by
  rw [aW (r:=fun a:Ex=>D.str a.2.1) (fun env=>∃ t u v,env=[t,u,v]) arcs ?_ _ ⟨none,none,none,rfl⟩]
  ·rw [List.map_map]
   rfl
  ·rintro a _ env ⟨t,u,v,rfl⟩
   exact ⟨[some (.f,.int a.1),some (.f,.str a.2.1),some (.f,.int a.2.2)],by unfold eA;simp only [↓pd,pv,seval],.f,_,rfl,_,_,_,rfl⟩
 have hul:((arcs.map (·.2.1)).map D.str).length<=sizeLine:=aM (by rw [a7,a7];lia)
 have huf:=PV.flat_strs (arcs.map (·.2.1))
 unfold yE A7
 rw [aU (h:=by rfl)]
 rw [ax (env':=[some (.f,.lst (ns.map D.int)),some (.f,eN nZ ps),none,none,none,none,none,none,none,none,none,none,none]) (by
  simp only [↓pd,pv,seval,op,en]
  cases cD (eN nZ ps) <;> rfl)]
 rw [ax (env':=[some (.f,.lst (ns.map D.int)),some (.f,eN nZ ps),some (.f,.lst (arcs.map eA)),some (.f,.lst (S.map eM)),none,none,none,none,none,none,none,none,none]) (by
  simp only [↓pd,pv,seval,op,er,Lw,gw,C8,C9])]
 rw [ax (env':=[some (.f,.lst (ns.map D.int)),some (.f,eN nZ ps),some (.f,.lst (arcs.map eA)),some (.f,.lst (S.map eM)),some (.f,Ey nZ arcs),none,none,none,none,none,none,none,none]) (by
  unfold eN Ey
  simp only [↓pd,pv,seval,op])]
 rw [ax (env':=[some (.f,.lst (ns.map D.int)),some (.f,eN nZ ps),some (.f,.lst (arcs.map eA)),some (.f,.lst (S.map eM)),some (.f,Ey nZ arcs),some (.l .f,.lst ((arcs.map (·.2.1)).map D.str)),none,none,none,none,none,none,none]) (by
  simp only [↓pd,pv,seval,op,hus,hul,huf])]
 obtain ⟨env',ef,t6,t7,t8,t9,JO,Hz,Hi,rfl⟩:=gv (a:=au 6) (g:=jK) (e:=fun k=>D.int (k:Int)) ps.length (fun i env=>∃ t6 t7 t8 t9 JO Hz Hi,env=[some (.f,.lst (ns.map D.int)),some (.f,eN nZ ps),some (.f,.lst (arcs.map eA)),some (.f,.lst (S.map eM)),some (.f,Ey nZ arcs),some (.l .f,.lst ((arcs.map (·.2.1)).map D.str)),t6,t7,t8,t9,JO,Hz,Hi]) (by
  rintro j env hj ⟨t6,t7,t8,t9,JO,Hz,Hi,rfl⟩
  obtain ⟨u7,u8,u9,OY,OZ,O0,e⟩:=Oh j hj t7 t8 t9 JO Hz Hi
  exact ⟨_,rfl,_,e,_,_,_,_,_,_,_,rfl⟩) _ ⟨none,none,none,none,none,none,none,rfl⟩
 rw [ax (env':=_) (by
  unfold ue
  unfold eN at ef ⊢
  simp only [↓pd,pv,seval,op,a7]
  rw [if_pos (by lia)]
  simp only [↓pd,pv,seval,op,Int.toNat_natCast]
  exact ef)]
 unfold qv
 exact ⟨.f,by simp only [↓pd,pv,seval,op]⟩
end LW
namespace FIN
open PySem PySem.Spec PyProof.Rows L2 NX PV LW
theorem BU {l:PySem.W.OpenLaw} {w:World} {K:W.Frag} {h:Heap} {mg:Str->Option Value} {fa f:Addr} {od an:Option Addr} {sl:Array (Option Value)} {oc kV dc pm cd ct:Value} (X:K.In h) (G:h.Ns mainGlobals mg) (hfa:mg "law" = some (.ref fa))
  (aL:PySem.W.nsIn K mainGlobals "law" = some (some (.ref f))) (lL:K.lookup f=some ⟨oc,od,.func (PySem.W.fnOf "law" "law" (fP my) (dW my) (defScope my) .none kV dc pm an cd ct),sl⟩) (cL:PySem.W.codeIn K cd "law" = true) (kL:PySem.W.keepIn K (.ref f)=true)
  (Gw:Def K mg "product" ko) (IA:Def K mg "less" uf) (FF:Def K mg "states_of" hU) (Gx:Def K mg "tree_of" kq) (Gy:Def K mg "ways_of" kr) (Gz:Def K mg "counted" ku) (FH:Def K mg "counts_of" hV) (F3:Def K mg "rings_of" iY) (Fg:Def K mg "place_beads" fw) (GA:Def K mg "lets_go" kx) (F4:Def K mg "has_arcs" iZ) (Fs:Def K mg "is_stretch" gk) (F5:Def K mg "beads_of" i0) (HA:Def K mg "taken" pw) (F6:Def K mg "place_of" i4) (Fd:Def K mg "_law_cell_at" eF) (Ft:Def K mg "_law_mixed" gm) (Fu:Def K mg "_law_names" gq) (FJ:Def K mg "_law_step" hX) (F7:Def K mg "_law_run" i5) (FK:Def K mg "_law_fold" hZ) (Fv:Def K mg "_law_place" gr) (Fh:Def K mg "_law_scaled" fB) (Fi:Def K mg "_law_places" fC) (Fw:Def K mg "_law_moves" gu) (F8:Def K mg "_law_net" i6) (FL:Def K mg "_law_goes" ia) (ET:Def K mg "_law_more_taken" dw) (Fe:Def K mg "_law_as_good" eG)
  (HP:PySem.W.nsIn K mainGlobals "all" = some none) (GR:PySem.W.nsIn K mainGlobals "any" = some none) (HU:PySem.W.nsIn K mainGlobals "int" = some none) (ES:PySem.W.nsIn K mainGlobals "isinstance" = some none) (EM:PySem.W.nsIn K mainGlobals "len" = some none) (FE:PySem.W.nsIn K mainGlobals "list" = some none) (FC:PySem.W.nsIn K mainGlobals "max" = some none) (Ge:PySem.W.nsIn K mainGlobals "min" = some none) (Ez:PySem.W.nsIn K mainGlobals "range" = some none) (Fb:PySem.W.nsIn K mainGlobals "sorted" = some none) (HM:PySem.W.nsIn K mainGlobals "sum" = some none) (Es:PySem.W.nsIn K mainGlobals "tuple" = some none) (Fl:PySem.W.nsIn K mainGlobals "zip" = some none) :
  ∃ fd:FuncData,(∀ (s:Shared) (v:Value),BindsTo s fd ⟨[v],[]⟩ [("_law_script",v)])/\∀ base:Heap,K.In base->base.Ns mainGlobals mg->FnOk l.prog w K mg base Jl 7 fa fd ["_law_script"] (vR K):=by
 have e:=hfa.symm.trans (PySem.W.mg_of X G aL)
 cases e
 have F:=wz (st:=my) lL cL kL
 have MW:=PySem.W.mg_none_of X G HP
 have KO:=PySem.W.mg_none_of X G GR
 have MX:=PySem.W.mg_none_of X G HU
 have HB:=PySem.W.mg_none_of X G ES
 have Ho:=PySem.W.mg_none_of X G EM
 have JE:=PySem.W.mg_none_of X G FE
 have JF:=PySem.W.mg_none_of X G FC
 have JG:=PySem.W.mg_none_of X G Ge
 have FR:=PySem.W.mg_none_of X G Ez
 have HV:=PySem.W.mg_none_of X G Fb
 have MY:=PySem.W.mg_none_of X G HM
 have EZ:=PySem.W.mg_none_of X G Es
 have HW:=PySem.W.mg_none_of X G Fl
 refine ⟨PySem.W.fnOf "law" "law" (fP my) (dW my) (defScope my) .none kV dc pm an cd ct,fun s v=>.of_eq rfl,fun base _ _=>?_⟩
 have GB:Ct l.prog w K mg base "product" 1 (spF K bz):=rq Gw MY HW
 have JH:Ct l.prog w K mg base "less" 1 (spF K gQ):=yH IA EZ HW
 have HX:Ct l.prog w K mg base "states_of" 1 (spF K dm):=ot FF JF
 have Hq:Ct l.prog w K mg base "tree_of" 1 (spF K cG):=rA Gx Ho
 have Hr:Ct l.prog w K mg base "ways_of" 2 (spF K cp):=rB Gy HX Hq FR
 have Hs:Ct l.prog w K mg base "counted" 1 (spF K cH):=rE Gz EZ
 have GC:Ct l.prog w K mg base "counts_of" 3 (spF K bX):=ox FH Hs Hr
 have IB:Ct l.prog w K mg base "rings_of" 3 (spF K dn):=ph F3 Hs JH Hq Hr
 have Hj:Ct l.prog w K mg base "place_beads" 4 (spF K cv):=kX Fg GC JH GB
 have IZ:Ct l.prog w K mg base "lets_go" 5 (spF K c5):=rF GA Hj
 have IC:Ct l.prog w K mg base "has_arcs" 1 (spF K cR):=pk F4 KO
 have Gh:Ct l.prog w K mg base "is_stretch" 4 (spF K bE):=mn Fs IC GB IB MW KO HW
 have GX:Ct l.prog w K mg base "beads_of" 5 (spF K b6):=pq F5 GC Gh GB JG
 have Kw:Ct l.prog w K mg base "taken" 1 (spF K f6):=vV HA JF JG
 have ID:Ct l.prog w K mg base "place_of" 6 (spF K dq):=px F6 GX Kw EZ HW
 have FN:Ct l.prog w K mg base "_law_cell_at" 1 (spF K aN):=kA Fd Ho
 have Fx:Ct l.prog w K mg base "_law_mixed" 1 (spF K aZ):=mq Ft
 have HC:Ct l.prog w K mg base "_law_names" 2 (spF K cS):=mr Fu Fx FR HV
 have HY:Ct l.prog w K mg base "_law_step" 1 (spF K cN):=oy FJ EZ HW
 have GY:Ct l.prog w K mg base "_law_run" 2 (spF K bV):=pA F7 HY Ho HV EZ
 have HZ:Ct l.prog w K mg base "_law_fold" 2 (spF K dr):=oz FK Fx
 have HD:Ct l.prog w K mg base "_law_place" 2 (spF K cT):=mw Fv Fx JF FR
 have Hk:Ct l.prog w K mg base "_law_scaled" 1 (spF K bY):=kY Fh EZ
 have Hl:Ct l.prog w K mg base "_law_places" 3 (spF K cw):=kZ Fi FN HZ HD Hk FR
 have HE:Ct l.prog w K mg base "_law_moves" 3 (spF K cU):=mx Fw FN HC EZ
 have IE:Ct l.prog w K mg base "_law_net" 4 (spF K dt):=pB F8 HE Hl GY Ho EZ
 have H0:Ct l.prog w K mg base "_law_goes" 1 (spF K cO):=oA FL JG
 have Gi:Ct l.prog w K mg base "_law_more_taken" 1 (spF K bF):=iL ET JE EZ
 have GZ:Ct l.prog w K mg base "_law_as_good" 1 (spF K bO):=kB Fe Ho FR
 exact (A9 F GZ H0 Gi IE GY GX Gh IZ ID MX HB Ho JE FR EZ).imp (AN uP)
end FIN
def PySem.W.Fast.tw12061766909443474646:=0
def PySem.W.Fast.tw6014323729748462643:=0
def PySem.W.Fast.tw4505926691052613499:=0
def PySem.W.Fast.tw2944205071440226946:=0
def PySem.W.Fast.tw8282386128761623974:=0
def PySem.W.Fast.tw15859071611842672684:=0
def PySem.W.Fast.tw14951763999697771634:=0
def PySem.W.Fast.tw8918563701482209904:=0
def PySem.W.Fast.tw11221887618817532733:=0
def PySem.W.Fast.tw11817960175630396302:=0
def PySem.W.Fast.tw171475318004688934:=0
def PySem.W.Fast.tw6340371051743911024:=0
def PySem.W.Fast.tw8212300573149496148:=0
def PySem.W.Fast.tw5568107016110529493:=0
def PySem.W.Fast.tw9685952970817256246:=0
def PySem.W.Fast.tw9230305275222291864:=0
def PySem.W.Fast.tw7647053327846375274:=0
def PySem.W.Fast.tw16172388623527592882:=0
def PySem.W.Fast.tw12739921266441397756:=0
def PySem.W.Fast.tw4986947309190453254:=0
def PySem.W.Fast.tw2491829078694436466:=0
def PySem.W.Fast.tw2427334751176091401:=0
def PySem.W.Fast.tw7288197090901714534:=0
def PySem.W.Fast.tw4667534039395353019:=0
def PySem.W.Fast.tw4417226360123508453:=0
def PySem.W.Fast.tw12249530708968849690:=0
def PySem.W.Fast.tw10856203358820612494:=0
def PySem.W.Fast.tw9018006260326424825:=0
def PySem.W.Fast.tw1186237193151657235:=0
def PySem.W.Fast.tw10333544106328805003:=0
open PySem PySem.W PyProof.Rows
set_option maxRecDepth 100000 in
set_option maxHeartbeats 0 in
theorem PySem.Challenge.cw_netfinder_k53_no_place_does_more_holds : PySem.Challenge.rw_netfinder_k53_no_place_does_more.Holds := by
  w_on; o_law; k_head; (case hw => w_witness2)
  k_fill
  refine PV.D3 (l := PySem.Challenge.rw_netfinder_k53_no_place_does_more) (k := 7) (x := "_law_script") rfl rfl ⟨rfl, by decide, by decide⟩ (fun w h Y => PySem.W.kIn_of Y) ?F
  case F =>
    intro w mg fa h KX G LX
    refine' FIN.BU KX G LX ?aL ?lL ?cL ?kL ?Gw ?IA ?FF ?Gx ?Gy ?Gz ?FH ?F3 ?Fg ?GA ?F4 ?Fs ?F5 ?HA ?F6 ?Fd ?Ft ?Fu ?FJ ?F7 ?FK ?Fv ?Fh ?Fi ?Fw ?F8 ?FL ?ET ?Fe ?HP ?GR ?HU ?ES ?EM ?FE ?FC ?Ge ?Ez ?Fb ?HM ?Es ?Fl
    (case aL => k_is); (case lL => k_is); (case cL => k_is); (case kL => k_is)
    (case Gw => (refine' PV.bM KX G ?a ?l ?c ?k; (case a => k_is); (case l => k_is); (case c => k_is); (case k => k_is)))
    (case IA => (refine' PV.bM KX G ?a ?l ?c ?k; (case a => k_is); (case l => k_is); (case c => k_is); (case k => k_is)))
    (case FF => (refine' PV.bM KX G ?a ?l ?c ?k; (case a => k_is); (case l => k_is); (case c => k_is); (case k => k_is)))
    (case Gx => (refine' PV.bM KX G ?a ?l ?c ?k; (case a => k_is); (case l => k_is); (case c => k_is); (case k => k_is)))
    (case Gy => (refine' PV.bM KX G ?a ?l ?c ?k; (case a => k_is); (case l => k_is); (case c => k_is); (case k => k_is)))
    (case Gz => (refine' PV.bM KX G ?a ?l ?c ?k; (case a => k_is); (case l => k_is); (case c => k_is); (case k => k_is)))
    (case FH => (refine' PV.bM KX G ?a ?l ?c ?k; (case a => k_is); (case l => k_is); (case c => k_is); (case k => k_is)))
    (case F3 => (refine' PV.bM KX G ?a ?l ?c ?k; (case a => k_is); (case l => k_is); (case c => k_is); (case k => k_is)))
    (case Fg => (refine' PV.bM KX G ?a ?l ?c ?k; (case a => k_is); (case l => k_is); (case c => k_is); (case k => k_is)))
    (case GA => (refine' PV.bM KX G ?a ?l ?c ?k; (case a => k_is); (case l => k_is); (case c => k_is); (case k => k_is)))
    (case F4 => (refine' PV.bM KX G ?a ?l ?c ?k; (case a => k_is); (case l => k_is); (case c => k_is); (case k => k_is)))
    (case Fs => (refine' PV.bM KX G ?a ?l ?c ?k; (case a => k_is); (case l => k_is); (case c => k_is); (case k => k_is)))
    (case F5 => (refine' PV.bM KX G ?a ?l ?c ?k; (case a => k_is); (case l => k_is); (case c => k_is); (case k => k_is)))
    (case HA => (refine' PV.bM KX G ?a ?l ?c ?k; (case a => k_is); (case l => k_is); (case c => k_is); (case k => k_is)))
    (case F6 => (refine' PV.bM KX G ?a ?l ?c ?k; (case a => k_is); (case l => k_is); (case c => k_is); (case k => k_is)))
    (case Fd => (refine' PV.bM KX G ?a ?l ?c ?k; (case a => k_is); (case l => k_is); (case c => k_is); (case k => k_is)))
    (case Ft => (refine' PV.bM KX G ?a ?l ?c ?k; (case a => k_is); (case l => k_is); (case c => k_is); (case k => k_is)))
    (case Fu => (refine' PV.bM KX G ?a ?l ?c ?k; (case a => k_is); (case l => k_is); (case c => k_is); (case k => k_is)))
    (case FJ => (refine' PV.bM KX G ?a ?l ?c ?k; (case a => k_is); (case l => k_is); (case c => k_is); (case k => k_is)))
    (case F7 => (refine' PV.bM KX G ?a ?l ?c ?k; (case a => k_is); (case l => k_is); (case c => k_is); (case k => k_is)))
    (case FK => (refine' PV.bM KX G ?a ?l ?c ?k; (case a => k_is); (case l => k_is); (case c => k_is); (case k => k_is)))
    (case Fv => (refine' PV.bM KX G ?a ?l ?c ?k; (case a => k_is); (case l => k_is); (case c => k_is); (case k => k_is)))
    (case Fh => (refine' PV.bM KX G ?a ?l ?c ?k; (case a => k_is); (case l => k_is); (case c => k_is); (case k => k_is)))
    (case Fi => (refine' PV.bM KX G ?a ?l ?c ?k; (case a => k_is); (case l => k_is); (case c => k_is); (case k => k_is)))
    (case Fw => (refine' PV.bM KX G ?a ?l ?c ?k; (case a => k_is); (case l => k_is); (case c => k_is); (case k => k_is)))
    (case F8 => (refine' PV.bM KX G ?a ?l ?c ?k; (case a => k_is); (case l => k_is); (case c => k_is); (case k => k_is)))
    (case FL => (refine' PV.bM KX G ?a ?l ?c ?k; (case a => k_is); (case l => k_is); (case c => k_is); (case k => k_is)))
    (case ET => (refine' PV.bM KX G ?a ?l ?c ?k; (case a => k_is); (case l => k_is); (case c => k_is); (case k => k_is)))
    (case Fe => (refine' PV.bM KX G ?a ?l ?c ?k; (case a => k_is); (case l => k_is); (case c => k_is); (case k => k_is)))
    (case HP => k_is)
    (case GR => k_is)
    (case HU => k_is)
    (case ES => k_is)
    (case EM => k_is)
    (case FE => k_is)
    (case FC => k_is)
    (case Ge => k_is)
    (case Ez => k_is)
    (case Fb => k_is)
    (case HM => k_is)
    (case Es => k_is)
    (case Fl => k_is)
