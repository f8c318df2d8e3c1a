import PyProof.Rows.All
import Wide.All
import OpenK.AllK
import Wide.FinOn
import Lean
import PyProof.EqAt
import PyProof.EqKinds
import PyProof.TupleCall
import PySem.Challenge.RW_overlaid_k22_whole_rests
set_option Elab.async false
set_option linter.all false
set_option maxRecDepth 100000
namespace L2
open PySem PySem.Spec PyProof.Rows
abbrev aE:=Sum Int Str
def eX:aE→Value→Bool
 | .inl k,v=>Value.isInt k v
 | .inr x,v=>Value.isStrOf x v
def vd(w:World):aE→Int
 | .inl k=>hashInt k
 | .inr x=>hashStr w x
theorem dt:∀{k:aE} {v:Value},eX k v=true→(∃i t,k=Sum.inl i∧v=Value.int i t)∨(∃x t,k=Sum.inr x∧v=Value.str x t)
 | .inl i,v,h=>by
   obtain⟨t,e⟩:=Value.isInt_shape (k:=i) (v:=v) h
   exact .inl ⟨i,t,rfl,e⟩
 | .inr x,v,h=>by
   obtain⟨t,e⟩:=Value.isStrOf_shape (x:=x) (v:=v) h
   exact .inr ⟨x,t,rfl,e⟩
theorem qH(i:Int)(t:Tok):eX (.inl i) (.int i t)=true:=by simp[eX,Value.isInt]
theorem rR(x:Str)(t:Tok):eX (.inr x) (.str x t)=true:=by simp[eX,Value.isStrOf]
theorem zl(a b:Int):decide ((Sum.inl a:aE)=Sum.inl b)=(a == b):=by
 by_cases e:a=b
 ·subst e;simp
 ·have h:¬(Sum.inl a:aE)=Sum.inl b:=fun q=>e (Sum.inl.inj q)
  rw[decide_eq_false h]
  exact(beq_eq_false_iff_ne.mpr e).symm
theorem t8(a b:Str):decide ((Sum.inr a:aE)=Sum.inr b)=decide (a=b):=by
 by_cases e:a=b
 ·subst e;simp
 ·have h:¬(Sum.inr a:aE)=Sum.inr b:=fun q=>e (Sum.inr.inj q)
  rw[decide_eq_false h,decide_eq_false e]
theorem yv(a:Int)(b:Str):decide ((Sum.inl a:aE)=Sum.inr b)=false:=decide_eq_false (fun q=>nomatch q)
theorem vA(a:Str)(b:Int):decide ((Sum.inr a:aE)=Sum.inl b)=false:=decide_eq_false (fun q=>nomatch q)
def bU(prog:Program)(w:World):PySem.KeyKind prog w aE where
 is:=eX
 hash:=vd w
 inj:=fun v a b ha hb=>by
  rcases dt ha with⟨i,t,rfl,rfl⟩ | ⟨x,t,rfl,rfl⟩
  ·rcases dt hb with⟨j,u,rfl,e⟩ | ⟨y,u,rfl,e⟩
   ·injection e with e1 _;rw[e1]
   ·exact nomatch e
  ·rcases dt hb with⟨j,u,rfl,e⟩ | ⟨y,u,rfl,e⟩
   ·exact nomatch e
   ·injection e with e1 _;rw[e1]
 byValue:=fun k v h=>by
  rcases dt h with⟨i,t,rfl,rfl⟩ | ⟨x,t,rfl,rfl⟩ <;> rfl
 pyHash:=fun hv h=>by
  rcases dt hv with⟨i,t,rfl,rfl⟩ | ⟨x,t,rfl,rfl⟩
  ·exact wpAny_pyHash_int h
  ·exact wpAny_pyHash_str h
 eqBool:=fun hu hv h=>by
  rcases dt hu with⟨i,t,rfl,rfl⟩ | ⟨x,t,rfl,rfl⟩
  ·rcases dt hv with⟨j,u,rfl,rfl⟩ | ⟨y,u,rfl,rfl⟩
   ·rw[zl] at h;exact wpAny_eqBool_int h
   ·rw[yv] at h;exact SeqAt.EqAt.int_str i t y u _ _ _ _ h
  ·rcases dt hv with⟨j,u,rfl,rfl⟩ | ⟨y,u,rfl,rfl⟩
   ·rw[vA] at h;exact SeqAt.EqAt.str_int x t j u _ _ _ _ h
   ·rw[t8] at h;exact wpAny_eqBool_str h
 «strs»:=fun k x t v h=>by
  rcases dt h with⟨i,u,rfl,e⟩ | ⟨y,u,rfl,e⟩
  ·exact nomatch e
  ·injection e with e1 _
   subst e1
   cases v <;> rfl
theorem qR(prog:Program)(w:World)(i:Int)(t:Tok):(bU prog w).is (.inl i) (.int i t)=true:=qH i t
theorem rE(prog:Program)(w:World)(x:Str)(t:Tok):(bU prog w).is (.inr x) (.str x t)=true:=rR x t
inductive V where
 | non | bl (b:Bool) | int (i:Int) | str (x:Str) | byt (b:Array UInt8) | flt (b:UInt64) | ref (a:Addr) | ty (n:String)
 deriving DecidableEq
def RelV:V→Value→Prop
 | .non,u=>u=Value.none
 | .bl b,u=>u=Value.bool b
 | .int i,u=>∃t,u=Value.int i t
 | .str x,u=>∃t,u=Value.str x t
 | .byt b,u=>∃t,u=Value.bytes b t
 | .flt b,u=>∃t,u=Value.float b t
 | .ref a,u=>u=Value.ref a
 | .ty n,u=>u=Value.type n
abbrev Vals:List V→List Value→Prop:=Paired RelV
theorem Vals.length{xs:List V}{us:List Value}(r:Vals xs us):xs.length=us.length:=Paired.length r
theorem Vals.get:∀{xs:List V} {us:List Value} {i:Nat} {x:V},Vals xs us→xs[i]?=some x→∃u,us[i]?=some u∧RelV x u
 | _,_,_,_,.nil,e=>by simp at e
 | _,_,0,_,.cons r _,e=>by simp at e;subst e;exact⟨_,rfl,r⟩
 | _,_,i+1,x,.cons _ t,e=>by
   obtain⟨u,h1,h2⟩:=Vals.get (i:=i) (x:=x) t (by simpa using e)
   exact⟨u,by simpa using h1,h2⟩
theorem Vals.set{x:V}{u:Value}(r:RelV x u):∀{xs:List V} {us:List Value} (i:Nat),Vals xs us→Vals (xs.set i x) (us.set i u)
 | _,_,_,.nil=>.nil
 | _,_,0,.cons _ t=>.cons r t
 | _,_,i+1,.cons q t=>.cons q (Vals.set r i t)
theorem Vals.append:∀{xs ys:List V} {us ws:List Value},Vals xs us→Vals ys ws→Vals (xs++ys) (us++ws)
 | _,_,_,_,.nil,s=>s
 | _,_,_,_,.cons r t,s=>.cons r (Vals.append t s)
theorem Vals.take:∀{xs:List V} {us:List Value} (n:Nat),Vals xs us→Vals (xs.take n) (us.take n)
 | _,_,0,_=>.nil
 | _,_,_+1,.nil=>.nil
 | _,_,n+1,.cons r t=>.cons r (Vals.take n t)
theorem Vals.drop:∀{xs:List V} {us:List Value} (n:Nat),Vals xs us→Vals (xs.drop n) (us.drop n)
 | _,_,0,r=>r
 | _,_,_+1,.nil=>.nil
 | _,_,n+1,.cons _ t=>Vals.drop n t
def gy:Option V→Option Value→Prop
 | some v,some u=>RelV v u
 | none,none=>True
 | _,_=>False
def KV{κ:Type}:List (κ×V)→List (κ×Value)→Prop:=Paired fun(p:κ×V) (q:κ×Value)=>p.1=q.1∧RelV p.2 q.2
def kV:aE→V
 | .inl i=>.int i
 | .inr x=>.str x
inductive HO where
 | lst (xs:List V)
 | tup (xs:List V)
 | dK (kvs:List (aE×V)) | dT (kvs:List (List aE×V))
 | set (S:Int→Bool) (n:Nat)
 | ins (C dx:Addr) (fs:List (Str×V))
 | own (x:Addr)
 | xd (fs:List (Str×V))
 | met (f x:Addr)
 | rng (lo hi:Int)
 | frz (o:Obj) (u:HO)
 | tbl (ps:Array Value)
 | ext (φ:Heap→Prop)
abbrev Hp:=Addr→Option HO
def upd(H:Hp)(a:Addr)(o:HO):Hp:=fun b=>if b=a then some o else H b
theorem ad{H:Hp}{a:Addr}{o:HO}:upd H a o a=some o:=by unfold upd;rw[if_pos rfl]
theorem ao{H:Hp}{a b:Addr}{o:HO}(h:b≠a):upd H a o b=H b:=by unfold upd;rw[if_neg h]
theorem dZ{H:Hp}{a b:Addr}{o u:HO}(h:H a=some o)(h':H b=some u)(d:o≠u):a≠b:=by
 intro e;subst e;rw[h] at h';exact d (Option.some.inj h')
theorem aN{H:Hp}{a b:Addr}{o:HO}(h:H a=some o)(h':H b=none):a≠b:=by
 intro e;subst e;rw[h] at h';cases h'
section
variable(P:Program)(w:World)
def ObjOk(H:Hp)(h:Heap)(a:Addr):HO→Prop
 | .lst xs=>xs.length≤sizeLine∧∃(its:List Value) (n:Nat),Vals xs its∧h.get? a=some {cls:=.type "list",data:=.seq its.toArray n}
 | .tup xs=>xs.length≤sizeLine∧∃its:List Value,Vals xs its∧IsTup h a its.toArray
 | .dK kvs=>kvs.length≤sizeLine∧(a == sysModules)=false∧∃vs,KV kvs vs∧h.DictOf (bU P w) a vs
 | .dT kvs=>kvs.length≤sizeLine∧(a == sysModules)=false∧∃xs:List (List aE×Addr×Value),
  Paired (fun(p:List aE×V) (q:List aE×Addr×Value)=>p.1=q.1∧H q.2.1=some (.tup (p.1.map kV))∧RelV p.2 q.2.2) kvs xs∧
  ∃o es ep,h.get? a=some o∧o.ExactDict∧o.data=.dict es ep∧es.toList=xs.map (entryOfKey (tupleKind (bU P w)))∧(xs.map (·.1)).Nodup
 | .set S n=>h.SetOf (intKind P w) a S n
 | .ins C dx fs=>H dx=some (.own a)∧fs.length≤1000∧dx≠a∧h.get? a=some (PySem.W.instObj C dx)∧
  ∃mA,h.Ns1 dx mA∧(∀f,gy (fs.lookup f) (mA f))∧PySem.Within mA (fs.map (·.1))
 | .own _=>∃o,h.get? a=some o
 | .xd fs=>∃mA,h.Ns1 a mA∧∀f,gy (fs.lookup f) (mA f)
 | .rng lo hi=>∃t u v,h.get? a=some {cls:=.type "range",data:=.fields #[.int lo t,.int hi u,.int 1 v]}
 | .frz o u=>h.get? a=some o∧ObjOk H h a u
 | .tbl ps=>h.get? a=some {cls:=.none,data:=.fields ps}
 | .met f x=>h.get? a=some (PySem.W.methodObj (.ref f) (.ref x))
 | .ext φ=>φ h∧(∃o,h.get? a=some o)∧∀h1 h2:Heap,φ h1→(∀o,h1.get? a=some o→h2.get? a=some o)→φ h2
def HOk(H:Hp)(h:Heap):Prop:=∀a o,H a=some o→ObjOk P w H h a o
end
section
variable{P:Program}{w:World}{H H':Hp}{h h':Heap}{a:Addr}{o:HO}
theorem ObjOk.lt(x:ObjOk P w H h a o):a<h.objs.size:=by
 cases o with
 | lst xs=>obtain⟨_,_,_,_,e⟩:=x;exact Heap.lt_size e
 | tup xs=>obtain⟨_,_,_,p⟩:=x;exact p.lt
 | dK kvs=>obtain⟨_,_,_,_,o,_,_,e,_⟩:=x;exact Heap.lt_size e
 | dT kvs=>obtain⟨_,_,_,_,o,_,_,e,_⟩:=x;exact Heap.lt_size e
 | set S n=>obtain⟨o,_,_,_,e,_⟩:=x;exact Heap.lt_size e
 | ins C dx fs=>obtain⟨_,_,_,e,_⟩:=x;exact Heap.lt_size e
 | own y=>obtain⟨_,e⟩:=x;exact Heap.lt_size e
 | xd fs=>obtain⟨_,⟨_,_,_,e,_⟩,_⟩:=x;exact Heap.lt_size e
 | rng lo hi=>obtain⟨_,_,_,e⟩:=x;exact Heap.lt_size e
 | frz ob u=>obtain⟨e,_⟩:=x;exact Heap.lt_size e
 | tbl ps=>exact Heap.lt_size (show h.get? a=some _ from x)
 | met f y=>exact Heap.lt_size (show h.get? a=some _ from x)
 | ext φ=>obtain⟨_,⟨_,e⟩,_⟩:=x;exact Heap.lt_size e
theorem Paired.mapP{α β:Type}{F G:α→β→Prop}:∀{l₁:List α} {l₂:List β},Paired F l₁ l₂→(∀a b,F a b→G a b)→Paired G l₁ l₂
 | _,_,.nil,_=>.nil
 | _,_,.cons r t,f=>.cons (f _ _ r) (Paired.mapP t f)
theorem ObjOk.stay(x:ObjOk P w H h a o)(k:∀b u,(b=a∨H b=some (.own a))→h.get? b=some u→h'.get? b=some u)(ho:∀b,H b=some (.own a)→H' b=some (.own a))(ht:∀b xs,H b=some (.tup xs)→H' b=some (.tup xs)):ObjOk P w H' h' a o:=by
 induction o with
 | lst xs=>obtain⟨z,its,n,r,e⟩:=x;exact⟨z,its,n,r,k _ _ (.inl rfl) e⟩
 | tup xs=>obtain⟨z,its,r,ob,e,c⟩:=x;exact⟨z,its,r,ob,k _ _ (.inl rfl) e,c⟩
 | dK kvs=>obtain⟨z,y,vs,r,ob,es,ep,e,c⟩:=x;exact⟨z,y,vs,r,ob,es,ep,k _ _ (.inl rfl) e,c⟩
 | dT kvs=>
   obtain⟨z,y,xs,r,ob,es,ep,e,c⟩:=x
   exact⟨z,y,xs,Paired.mapP r fun p q z=>⟨z.1,ht _ _ z.2.1,z.2.2⟩,ob,es,ep,k _ _ (.inl rfl) e,c⟩
 | set S n=>obtain⟨ob,es,ep,t,e,c⟩:=x;exact⟨ob,es,ep,t,k _ _ (.inl rfl) e,c⟩
 | ins C dx fs=>
   obtain⟨d,z,ne,e,mA,⟨od,es,ep,e2,c⟩,r⟩:=x
   exact⟨ho _ d,z,ne,k _ _ (.inl rfl) e,mA,⟨od,es,ep,k _ _ (.inr d) e2,c⟩,r⟩
 | own y=>obtain⟨ob,e⟩:=x;exact⟨ob,k _ _ (.inl rfl) e⟩
 | xd fs=>obtain⟨mA,⟨od,es,ep,e,c⟩,r⟩:=x;exact⟨mA,⟨od,es,ep,k _ _ (.inl rfl) e,c⟩,r⟩
 | rng lo hi=>obtain⟨t,u,v,e⟩:=x;exact⟨t,u,v,k _ _ (.inl rfl) e⟩
 | frz ob u ih=>obtain⟨e,q⟩:=x;exact⟨k _ _ (.inl rfl) e,ih q⟩
 | tbl ps=>
   have e:h.get? a=some {cls:=.none,data:=.fields ps}:=x
   show h'.get? a=some {cls:=.none,data:=.fields ps}
   exact k a _ (.inl rfl) e
 | met f y=>
   have e:h.get? a=some (PySem.W.methodObj (.ref f) (.ref y)):=x
   show h'.get? a=some (PySem.W.methodObj (.ref f) (.ref y))
   exact k a _ (.inl rfl) e
 | ext φ=>obtain⟨p,⟨o,e⟩,st⟩:=x;exact⟨st _ _ p fun o q=>k _ _ (.inl rfl) q,⟨o,k _ _ (.inl rfl) e⟩,st⟩
theorem HOk.lt(x:HOk P w H h)(e:H a=some o):a<h.objs.size:=(x a o e).lt
theorem HOk.fresh(x:HOk P w H h)(e:h.objs.size≤a):H a=none:=by
 cases q:H a with
 | none=>rfl
 | some u=>exact absurd (Nat.lt_of_lt_of_le (x.lt q) e) (Nat.lt_irrefl _)
theorem HOk.kept(x:HOk P w H h)(k:∀b u,h.get? b=some u→h'.get? b=some u):HOk P w H h':=fun a o e=>
 (x a o e).stay (fun b u _ q=>k b u q) (fun _ q=>q) fun _ _ q=>q
theorem HOk.laid(x:HOk P w H h)(k:∀b u,h.get? b=some u→h'.get? b=some u)(hp:h.objs.size≤a)(new:ObjOk P w (upd H a o) h' a o):HOk P w (upd H a o) h':=fun b u e=>by
 have hn:=x.fresh hp
 by_cases hb:b=a
 ·subst hb;rw[ad] at e;cases e;exact new
 ·rw[ao hb] at e
  exact(x b u e).stay (fun c v _ q=>k c v q) (fun c q=>by rw[ao (aN q hn)];exact q) fun c xs q=>by rw[ao (aN q hn)];exact q
end
def Rd(H:Hp)(a:Addr)(u:HO):Prop:=H a=some u∨∃o,H a=some (.frz o u)
theorem Rd.ok{P:Program}{w:World}{H:Hp}{h:Heap}{a:Addr}{u:HO}(r:Rd H a u)(x:HOk P w H h):ObjOk P w H h a u:=by
 rcases r with r | ⟨o,r⟩
 ·exact x a u r
 ·obtain⟨_,q⟩:=x a _ r
  exact q
def fQ:Option HO→Prop
 | some (.lst _)=>True
 | some (.dK _)=>True
 | some (.dT _)=>True
 | some (.set _ _)=>True
 | some (.ins _ _ _)=>True
 | some (.ext _)=>True
 | _=>False
section
variable{P:Program}{w:World}{H:Hp}{h h':Heap}{x e:Addr}{o':HO}
theorem HOk.write(ok:HOk P w H h)(mu:fQ (H x))(he:e=x∨H e=some (.own x))(k:∀b u,b≠e→h.get? b=some u→h'.get? b=some u)(heo:∃u,h'.get? e=some u)(new:ObjOk P w (upd H x o') h' x o'):HOk P w (upd H x o') h':=fun b u q=>by
 have nown:∀c y,H c=some (.own y)→c≠x:=fun c y r z=>by subst z;rw[r] at mu;exact mu
 have ntup:∀c xs,H c=some (.tup xs)→c≠x:=fun c xs r z=>by subst z;rw[r] at mu;exact mu
 by_cases hb:b=x
 ·subst hb;rw[ad] at q;cases q;exact new
 ·rw[ao hb] at q
  by_cases hbe:b=e
  ·have q':H b=some (.own x):=by
    rcases he with z | z
    ·exact absurd (hbe.trans z) hb
    ·rw[hbe];exact z
   rw[q] at q';cases q'
   obtain⟨v,hv⟩:=heo
   exact⟨v,by rw[hbe];exact hv⟩
  ·refine(ok b u q).stay (fun c v hc r=>k c v ?_ r) (fun c r=>by rw[ao (nown c b r)];exact r) fun c xs r=>by rw[ao (ntup c xs r)];exact r
   rcases hc with rfl | hc
   ·exact hbe
   ·rintro rfl
    rcases he with z | z
    ·exact nown c b hc z
    ·rw[hc] at z;cases z;exact hb rfl
end
structure Un(fs ex:List Addr)(H H':Hp)(h h':Heap):Prop where
 keep:∀b o,h.get? b=some o→H b=none→b∉fs→b∉ex→h'.get? b=some o
 slot:∀b o,h.get? b=some o→H b=none→b∈fs→b∉ex→∃sl,h'.get? b=some {o with slots:=sl}
 free:∀b o,h.get? b=some o→H b=none→b∉ex→H' b=none
 there:∀b o,h.get? b=some o→b∉ex→∃o',h'.get? b=some o'
 tups:∀b xs,H b=some (.tup xs)→H' b=some (.tup xs)
 frzs:∀b o u,H b=some (.frz o u)→H' b=some (.frz o u)
 tbls:∀b ps,H b=some (.tbl ps)→∃more,H' b=some (.tbl (ps++more))
section
variable{fs fs' ex ex':List Addr}{H H1 H2:Hp}{h h1 h2 h':Heap}{a x e:Addr}{o:HO}
theorem Un.any(u:Un fs ex H H1 h h1){b:Addr}{ob:Obj}(q:h.get? b=some ob)(n:H b=none)(hx:b∉ex):∃sl,h1.get? b=some {ob with slots:=sl}:=by
 by_cases hb:b∈fs
 ·exact u.slot b ob q n hb hx
 ·exact⟨ob.slots,u.keep b ob q n hb hx⟩
theorem Un.kept(k:∀b u,h.get? b=some u→h'.get? b=some u):Un fs ex H H h h':=
 ⟨fun b ob q _ _ _=>k b ob q,fun b ob q _ _ _=>⟨ob.slots,k b ob q⟩,fun _ _ _ n _=>n,fun b ob q _=>⟨ob,k b ob q⟩,fun _ _ q=>q,fun _ _ _ q=>q,fun _ ps q=>⟨#[],by rw[q];simp⟩⟩
theorem Un.refl:Un fs ex H H h h:=Un.kept fun _ _ q=>q
theorem Un.laid(k:∀b u,h.get? b=some u→h'.get? b=some u)(hp:h.objs.size≤a)(hn:H a=none):Un fs ex H (upd H a o) h h' where
 keep:=fun b u q _ _ _=>k b u q
 slot:=fun b u q _ _ _=>⟨u.slots,k b u q⟩
 free:=fun b u q n _=>by rw[ao (Nat.ne_of_lt (Nat.lt_of_lt_of_le (Heap.lt_size q) hp))];exact n
 there:=fun b u q _=>⟨u,k b u q⟩
 tups:=fun b xs q=>by rw[ao (aN q hn)];exact q
 frzs:=fun b u xs q=>by rw[ao (aN q hn)];exact q
 tbls:=fun b ps q=>⟨#[],by rw[ao (aN q hn),q];simp⟩
theorem Un.write(mu:fQ (H x))(he:e=x∨H e=some (.own x))(k:∀b u,b≠e→h.get? b=some u→h'.get? b=some u)(heo:∃u,h'.get? e=some u):Un fs ex H (upd H x o) h h':=by
 have hx:∀b,H b=none→b≠x:=fun b n z=>by subst z;rw[n] at mu;exact mu
 have hb:∀b,H b=none→b≠e:=fun b n z=>by
  subst z
  rcases he with r | r
  ·exact hx b n r
  ·rw[n] at r;cases r
 have hm:∀b u,H b=some u→¬fQ (some u)→b≠x:=fun b u q nm z=>by subst z;rw[q] at mu;exact nm mu
 refine⟨fun b u q n _ _=>k b u (hb b n) q,fun b u q n _ _=>⟨u.slots,k b u (hb b n) q⟩,fun b u q n _=>by rw[ao (hx b n)];exact n,fun b u q _=>?_,
  fun b xs q=>by rw[ao (hm b _ q fun z=>z)];exact q,fun b u xs q=>by rw[ao (hm b _ q fun z=>z)];exact q,fun b ps q=>⟨#[],by rw[ao (hm b _ q fun z=>z),q];simp⟩⟩
 by_cases hbe:b=e
 ·subst hbe;exact heo
 ·exact⟨u,k b u hbe q⟩
end
def dR(h:Heap)(H:Hp):List Addr:=(List.range h.objs.size).filter fun a=>(H a).isSome
def dC(h:Heap)(H:Hp):Heap:=PySem.W.hideAll h (dR h H)
theorem um(h:Heap)(H:Hp):(dC h H).objs.size=h.objs.size:=PySem.W.hideAll_size _ _
theorem kO{h:Heap}{H:Hp}{b:Addr}{o:Obj}(e:h.get? b=some o)(n:H b=none):(dC h H).get? b=some o:=
 PySem.W.hideAll_get _ e fun hm=>by
  have q:(H b).isSome=true:=(List.mem_filter.mp hm).2
  rw[n] at q;simp at q
theorem sL{h:Heap}{H:Hp}{b:Addr}{o:Obj}(e:(dC h H).get? b=some o):h.get? b=some o∧H b=none:=by
 have e':h.get? b=some o:=PySem.W.of_hideAll (dR h H) e
 refine⟨e',?_⟩
 cases q:H b with
 | none=>rfl
 | some x=>
   have hm:b∈dR h H:=List.mem_filter.mpr ⟨List.mem_range.mpr (Heap.lt_size e'),by simp[q]⟩
   have z:(dC h H).get? b=none:=PySem.W.hideAll_none (dR h H) hm
   rw[z] at e;cases e
def xN(g h:Heap)(L:Addr):List (Addr×Obj):=(List.range h.objs.size).filterMap fun a=>if a=L∨(g.get? a).isSome=true then none else(h.get? a).map fun o=>(a,o)
def aq(g h:Heap)(L d:Addr):List (Addr×Obj):=(xN g h L).filter fun p=>decide (p.1≠d)
structure Mod(K:PySem.W.Frag)(mg:Str→Option Value)(base:Heap):Prop where
 kin:K.In base
 glob:base.Ns mainGlobals mg
 blt:∃mb,base.Ns builtinsNs mb∧∀x:Str,x≠"__name__"→mb x=bootBuiltins x
 nolimit:base.NoLimit
structure Cx where
 prog:Program
 w:World
 K:PySem.W.Frag
 mg:Str→Option Value
 base:Heap
 A:Around
 N:List Str
 s₀:Shared
 H₀:Hp
 env:Env
 outer:List Env
 stack:List Env
 ex:List Addr
 fn:Str→Bool
 calm:Bool
 pn:List (Addr×Obj)
 xe:Value→Shared→Prop
def aX(l:List Env):List Addr:=l.filterMap (·.frame)
abbrev Cx.fs(X:Cx):List Addr:=aX X.outer
def im(sc:Scope)(x:Str):Prop:=sc.names.lookup x=some .local∨sc.names.lookup x=some .cell∨sc.names.lookup x=some .free
def eP(sc:Scope)(x:Str):Prop:=sc.names.lookup x=some .local∨sc.names.lookup x=some .cell
def vS(env:Env)(h:Heap)(m:Str→Option Value)(x:Str)(u:Value):Prop:=
 (env.kindOf x=some .local∧m x=some u)∨((env.kindOf x=some .cell∨env.kindOf x=some .free)∧∃c,env.cells.lookup x=some c∧h.IsCell c (some u))
structure Cx.Ok(X:Cx):Prop where
 mod:Mod X.K X.mg X.base
 kind:X.env.scope.kind=.function
 glob:X.env.globals=mainGlobals
 blt:X.env.builtins=builtinsNs
 above:X.s₀.heap.objs.size≤X.env.locals
 inj:∀x y c,X.env.cells.lookup x=some c→X.env.cells.lookup y=some c→x=y
 has:∀x,(X.env.kindOf x=some .cell∨X.env.kindOf x=some .free)→∃c,X.env.cells.lookup x=some c
 cab:∀x c,X.fn x=true→X.env.cells.lookup x=some c→X.s₀.heap.objs.size≤c
 hd:X.calm=true→X.A.handled=none
 frames:X.A.frames=some X.stack
 stk:X.stack=X.outer∨(X.stack=X.env::X.outer∧X.env.frame=some X.env.locals)
 exf:∀b∈X.ex,b≠X.env.locals∧∀x c,X.env.cells.lookup x=some c→c≠b
 bs:∀b o,X.base.get? b=some o→X.s₀.heap.get? b=some o∧X.H₀ b=none
 bsz:X.base.objs.size≤X.s₀.heap.objs.size
 noex:∀b o,X.base.get? b=some o→b∉X.ex
 exfs:∀b∈X.ex,b∉X.fs
 funs:X.s₀.heap.FunFrames X.base X.outer
 frf:∀b∈X.fs,X.H₀ b=none
structure Inv(X:Cx)(pins:List (Addr×Obj))(σ:List (Option V))(H:Hp)(s:Shared):Prop where
 ok:X.Ok
 os:s.os=X.s₀.os
 bare:AllBare s.gens
 base:Un X.fs X.ex X.H₀ H X.s₀.heap s.heap
 loc:∃m,s.heap.Ns X.env.locals m∧∀(i:Nat) (x:Str) (v:V),X.N[i]?=some x→σ[i]?=some (some v)→im X.env.scope x→∃u,RelV v u∧vS X.env s.heap m x u
 cell:∀x c,X.env.cells.lookup x=some c→∃v,s.heap.IsCell c v
 free:H X.env.locals=none
 freeC:∀x c,X.env.cells.lookup x=some c→H c=none
 pin:∀p∈X.pn++pins,s.heap.get? p.1=some p.2∧H p.1=none∧p.1≠X.env.locals∧p.1∉X.fs∧∀v,p.2.data≠ .cell v
 hok:HOk X.prog X.w H s.heap
 len:σ.length=X.N.length
section
variable{X:Cx}{pins:List (Addr×Obj)}{σ:List (Option V)}{H H':Hp}{s:Shared}{h':Heap}
theorem Cx.Ok.nofr(ok:X.Ok){b:Addr}{o:Obj}(e:X.base.get? b=some o):b∉X.fs:=fun hb=>by
 have:=(ok.funs.mem hb).1
 rw[e] at this;cases this
theorem Inv.bs(I:Inv X pins σ H s):∀b o,X.base.get? b=some o→s.heap.get? b=some o∧H b=none:=fun b o e=>
 ⟨I.base.keep b o (I.ok.bs b o e).1 (I.ok.bs b o e).2 (I.ok.nofr e) (I.ok.noex b o e),I.base.free b o (I.ok.bs b o e).1 (I.ok.bs b o e).2 (I.ok.noex b o e)⟩
theorem Inv.bk(I:Inv X pins σ H s):∀b o,X.base.get? b=some o→s.heap.get? b=some o:=fun b o e=>(I.bs b o e).1
theorem Inv.mod(I:Inv X pins σ H s):Mod X.K X.mg X.base:=I.ok.mod
theorem Inv.kIn(I:Inv X pins σ H s):X.K.In s.heap:=I.ok.mod.kin.keeps I.bk
theorem Inv.nolimit(I:Inv X pins σ H s):s.heap.NoLimit:=I.ok.mod.nolimit.keeps I.bk
theorem Inv.lt(I:Inv X pins σ H s):X.env.locals<s.heap.objs.size:=let ⟨_,hn,_⟩:=I.loc;hn.lt
theorem Inv.sz(I:Inv X pins σ H s):X.s₀.heap.objs.size≤s.heap.objs.size:=Nat.le_trans I.ok.above (Nat.le_of_lt I.lt)
theorem Inv.nofs(I:Inv X pins σ H s){a:Addr}(h:s.heap.objs.size≤a):a∉X.fs:=fun hb=>by
 obtain⟨_,o,ho,_⟩:=I.ok.funs.mem hb
 exact absurd (Nat.lt_of_lt_of_le (Heap.lt_size ho) (Nat.le_trans I.sz h)) (Nat.lt_irrefl _)
theorem Inv.cne(I:Inv X pins σ H s):∀x c,X.env.cells.lookup x=some c→c≠X.env.locals:=fun x c e z=>by
 obtain⟨v,o,ho,hd⟩:=I.cell x c e
 obtain⟨m,⟨o',es,ep,ho',hd',_⟩,_⟩:=I.loc
 rw[z,ho'] at ho;cases ho;rw[hd'] at hd;cases hd
theorem Inv.funs(I:Inv X pins σ H s):s.heap.FunFrames X.base X.outer:=by
 have all:∀(l:List Env),(∀b∈aX l,b∈X.fs)→X.s₀.heap.FunFrames X.base l→s.heap.FunFrames X.base l:=by
  intro l
  induction l with
  | nil=>intro _ _;trivial
  | cons env r ih=>
    intro hs hl
    obtain⟨hk,⟨L,o,hf,hn,ho,hd⟩,hr⟩:=hl
    have hL:L∈X.fs:=hs L (by unfold aX;rw[List.filterMap_cons,hf];exact List.mem_cons_self)
    obtain⟨sl,e⟩:=I.base.slot L o ho (I.ok.frf L hL) hL fun z=>I.ok.exfs L z hL
    exact⟨hk,⟨L,_,hf,hn,e,hd⟩,ih (fun b hb=>hs b (by unfold aX;rw[List.filterMap_cons,hf];exact List.mem_cons_of_mem _ hb)) hr⟩
 exact all X.outer (fun _ hb=>hb) I.ok.funs
theorem Inv.stack(I:Inv X pins σ H s):s.heap.FunFrames X.base X.stack:=by
 rcases I.ok.stk with e | ⟨e,hf⟩
 ·rw[e];exact I.funs
 ·rw[e]
  obtain⟨m,hn,_⟩:=I.loc
  refine .cons (by rw[I.ok.kind];decide) hf hn ?_ I.funs
  exact Heap.get?_none_of_le (Nat.le_trans I.ok.bsz I.ok.above)
theorem Inv.stkSub(I:Inv X pins σ H s):∀b∈aX X.stack,b∈X.env.locals::X.fs:=fun b hb=>by
 rcases I.ok.stk with e | ⟨e,hf⟩
 ·rw[e] at hb;exact List.mem_cons_of_mem _ hb
 ·rw[e] at hb
  unfold aX at hb
  rw[List.filterMap_cons,hf] at hb
  exact hb
theorem Inv.stkFree(I:Inv X pins σ H s):∀b∈aX X.stack,H b=none:=fun b hb=>by
 rcases List.mem_cons.mp (I.stkSub b hb) with e | hb
 ·rw[e];exact I.free
 ·obtain⟨_,o,ho,_⟩:=I.ok.funs.mem hb
  exact I.base.free b o ho (I.ok.frf b hb) fun z=>I.ok.exfs b z hb
theorem Inv.step{g':Array GenState}{t':Nat}{d':Drawn}{ch:List Addr}(I:Inv X pins σ H s)(hch:∀b∈ch,(b∈X.ex∨X.s₀.heap.objs.size≤b)∧b≠X.env.locals∧(∀x c,X.env.cells.lookup x=some c→c≠b)∧∀p∈X.pn++pins,p.1≠b)(keep:∀b o,b≠X.env.locals→b∉X.fs→b∉ch→s.heap.get? b=some o→H b=none→h'.get? b=some o)(slot:∀b o,b≠X.env.locals→b∈X.fs→b∉ch→s.heap.get? b=some o→H b=none→∃sl,h'.get? b=some {o with slots:=sl})(free:∀b o,b∉ch→s.heap.get? b=some o→H b=none→H' b=none)(there:∀b o,b∉ch→s.heap.get? b=some o→∃o',h'.get? b=some o')(tups:∀b xs,H b=some (.tup xs)→H' b=some (.tup xs))(frzs:∀b o u,H b=some (.frz o u)→H' b=some (.frz o u))(tbls:∀b ps,H b=some (.tbl ps)→∃more,H' b=some (.tbl (ps++more)))(ns:∀m,s.heap.Ns X.env.locals m→h'.Ns X.env.locals m)(hok:HOk X.prog X.w H' h')(hg:AllBare g'):Inv X pins σ H' {s with heap:=h',gens:=g',drawn:=d',toks:=t'}:=by
 have neL:∀b o,X.s₀.heap.get? b=some o→b≠X.env.locals:=fun b o e=>Nat.ne_of_lt (Nat.lt_of_lt_of_le (Heap.lt_size e) I.ok.above)
 have neC:∀b o,X.s₀.heap.get? b=some o→b∉X.ex→b∉ch:=fun b o e hx hb=>by
  rcases(hch b hb).1 with z | z
  ·exact hx z
  ·exact absurd (Nat.lt_of_lt_of_le (Heap.lt_size e) z) (Nat.lt_irrefl _)
 have cellK:∀x c,X.env.cells.lookup x=some c→∀v,s.heap.IsCell c v→h'.IsCell c v:=fun x c e v ⟨o,ho,hd⟩=>by
  have nch:c∉ch:=fun z=>(hch c z).2.2.1 x c e rfl
  by_cases hc:c∈X.fs
  ·obtain⟨sl,q⟩:=slot c o (I.cne x c e) hc nch ho (I.freeC x c e)
   exact⟨_,q,hd⟩
  ·exact⟨o,keep c o (I.cne x c e) hc nch ho (I.freeC x c e),hd⟩
 refine⟨I.ok,I.os,hg,⟨fun b o e n hb hx=>?_,fun b o e n hb hx=>?_,fun b o e n hx=>?_,fun b o e hx=>?_,fun b xs e=>tups b xs (I.base.tups b xs e),fun b o xs e=>frzs b o xs (I.base.frzs b o xs e),fun b ps e=>?_⟩,?_,fun x c e=>?_,?_,fun x c e=>?_,fun p hp=>?_,hok,I.len⟩
 ·exact keep b o (neL b o e) hb (neC b o e hx) (I.base.keep b o e n hb hx) (I.base.free b o e n hx)
 ·obtain⟨sl,e1⟩:=I.base.slot b o e n hb hx
  obtain⟨sl',e2⟩:=slot b _ (neL b o e) hb (neC b o e hx) e1 (I.base.free b o e n hx)
  exact⟨sl',e2⟩
 ·obtain⟨o',e1⟩:=I.base.there b o e hx
  exact free b o' (neC b o e hx) e1 (I.base.free b o e n hx)
 ·obtain⟨o',e1⟩:=I.base.there b o e hx
  exact there b o' (neC b o e hx) e1
 ·obtain⟨m1,e1⟩:=I.base.tbls b ps e
  obtain⟨m2,e2⟩:=tbls b _ e1
  exact⟨m1++m2,by rw[e2,Array.append_assoc]⟩
 ·obtain⟨m,hn,hl⟩:=I.loc
  refine⟨m,ns m hn,fun i x v e1 e2 e3=>?_⟩
  obtain⟨u,r,l⟩:=hl i x v e1 e2 e3
  refine⟨u,r,?_⟩
  rcases l with l | ⟨k,c,e,z⟩
  ·exact .inl l
  ·exact .inr ⟨k,c,e,cellK x c e _ z⟩
 ·obtain⟨v,z⟩:=I.cell x c e
  exact⟨v,cellK x c e v z⟩
 ·obtain⟨m,⟨o,_,_,ho,_⟩,_⟩:=I.loc
  exact free _ o (fun z=>(hch _ z).2.1 rfl) ho I.free
 ·obtain⟨v,o,ho,hd⟩:=I.cell x c e
  exact free c o (fun z=>(hch c z).2.2.1 x c e rfl) ho (I.freeC x c e)
 ·obtain⟨e,n,ne,nf,d⟩:=I.pin p hp
  have nch:p.1∉ch:=fun z=>(hch p.1 z).2.2.2 p hp rfl
  exact⟨keep p.1 p.2 ne nf nch e n,free p.1 p.2 nch e n,ne,nf,d⟩
theorem Inv.un{t':Nat}(I:Inv X pins σ H s)(u:Un X.fs [] H H' s.heap h')(hok:HOk X.prog X.w H' h'):Inv X pins σ H' {s with heap:=h',toks:=t'}:=by
 obtain⟨m,⟨o,es,ep,ho,r⟩,_⟩:=id I.loc
 obtain⟨sl,hL⟩:=u.any ho I.free (by simp)
 exact I.step (g':=s.gens) (d':=s.drawn) (ch:=[]) (fun _ z=>nomatch z) (fun b o _ hb _ e n=>u.keep b o e n hb (by simp)) (fun b o _ hb _ e n=>u.slot b o e n hb (by simp)) (fun b o _ e n=>u.free b o e n (by simp)) (fun b o _ e=>u.there b o e (by simp)) u.tups u.frzs u.tbls (fun m' hm=>by
  obtain⟨o',es',ep',ho',r'⟩:=hm
  rw[ho] at ho';cases ho'
  exact⟨_,es',ep',hL,r'⟩) hok I.bare
theorem Inv.call{g':Array GenState}{t':Nat}{d':Drawn}{ch:List Addr}(I:Inv X pins σ H s)(u:Un (aX X.stack) ch H H' s.heap h')(hok:HOk X.prog X.w H' h')(hg:AllBare g')(hch:∀b∈ch,(b∈X.ex∨X.s₀.heap.objs.size≤b)∧b≠X.env.locals∧(∀x c,X.env.cells.lookup x=some c→c≠b)∧∀p∈X.pn++pins,p.1≠b):Inv X pins σ H' {s with heap:=h',gens:=g',drawn:=d',toks:=t'}:=by
 obtain⟨m,⟨o,es,ep,ho,r⟩,_⟩:=id I.loc
 obtain⟨sl,hL⟩:=u.any ho I.free fun z=>(hch _ z).2.1 rfl
 exact I.step (ch:=ch) hch (fun b o hL hb hc e n=>u.keep b o e n (fun z=>(List.mem_cons.mp (I.stkSub b z)).elim hL hb) hc) (fun b o _ _ hc e n=>u.any e n hc) (fun b o hc e n=>u.free b o e n hc) (fun b o hc e=>u.there b o e hc) u.tups u.frzs u.tbls (fun m' hm=>by
  obtain⟨o',es',ep',ho',r'⟩:=hm
  rw[ho] at ho';cases ho'
  exact⟨_,es',ep',hL,r'⟩) hok hg
theorem Inv.turned{t':Nat}{it:Addr}(I:Inv X pins σ H s)(k:∀b o,b≠it→s.heap.get? b=some o→h'.get? b=some o)(hn:H it=none)(hL:it≠X.env.locals)(h1:it∈X.ex∨X.s₀.heap.objs.size≤it)(h2:∀x c,X.env.cells.lookup x=some c→c≠it)(h3:∀p∈X.pn++pins,p.1≠it):Inv X pins σ H {s with heap:=h',toks:=t'}:=by
 have nit:∀b u,H b=some u→b≠it:=fun b u e z=>by rw[z,hn] at e;cases e
 refine I.step (g':=s.gens) (d':=s.drawn) (ch:=[it]) (fun b hb=>?_) (fun b o _ _ hc e _=>k b o (fun z=>hc (by simp[z])) e) (fun b o _ _ hc e _=>⟨o.slots,k b o (fun z=>hc (by simp[z])) e⟩) (fun _ _ _ _ n=>n)
  (fun b o hc e=>⟨o,k b o (fun z=>hc (by simp[z])) e⟩) (fun _ _ e=>e) (fun _ _ _ e=>e) (fun b ps e=>⟨#[],by rw[e];simp⟩) (fun m hm=>?_) (fun b u e=>?_) I.bare
 ·have e:b=it:=by simpa using hb
  subst e
  exact⟨h1,hL,h2,h3⟩
 ·obtain⟨o,es,ep,ho,r⟩:=hm
  exact⟨o,es,ep,k _ o (Ne.symm hL) ho,r⟩
 ·refine(I.hok b u e).stay (fun c v hc q=>k c v ?_ q) (fun _ q=>q) fun _ _ q=>q
  rcases hc with z | z
  ·rw[z];exact nit b u e
  ·exact nit c _ z
theorem Inv.tok(I:Inv X pins σ H s)(t:Nat):Inv X pins σ H {s with toks:=t}:=I.un (h':=s.heap) (t':=t) Un.refl I.hok
theorem Inv.kept{t':Nat}(I:Inv X pins σ H s)(k:∀b u,s.heap.get? b=some u→h'.get? b=some u):Inv X pins σ H {s with heap:=h',toks:=t'}:=I.un (Un.kept k) (I.hok.kept k)
theorem Inv.laid{a:Addr}{o:HO}{t':Nat}(I:Inv X pins σ H s)(k:∀b u,s.heap.get? b=some u→h'.get? b=some u)(hp:s.heap.objs.size≤a)(new:ObjOk X.prog X.w (upd H a o) h' a o):Inv X pins σ (upd H a o) {s with heap:=h',toks:=t'}:=I.un (Un.laid k hp (I.hok.fresh hp)) (I.hok.laid k hp new)
theorem Inv.write{x e:Addr}{o:HO}{t':Nat}(I:Inv X pins σ H s)(mu:fQ (H x))(he:e=x∨H e=some (.own x))(k:∀b u,b≠e→s.heap.get? b=some u→h'.get? b=some u)(heo:∃u,h'.get? e=some u)(new:ObjOk X.prog X.w (upd H x o) h' x o):Inv X pins σ (upd H x o) {s with heap:=h',toks:=t'}:=I.un (Un.write mu he k heo) (I.hok.write mu he k heo new)
theorem Inv.weak{σ':List (Option V)}(I:Inv X pins σ H s)(hl:σ'.length=σ.length)(w:∀(i:Nat) v,σ'[i]?=some (some v)→σ[i]?=some (some v)):Inv X pins σ' H s:=
 ⟨I.ok,I.os,I.bare,I.base,let ⟨m,hn,hl'⟩:=I.loc;⟨m,hn,fun i x v e1 e2 e3=>hl' i x v e1 (w i v e2) e3⟩,I.cell,I.free,I.freeC,I.pin,I.hok,hl.trans I.len⟩
theorem Inv.pins_of{pins':List (Addr×Obj)}(I:Inv X pins σ H s)(h:∀p∈pins',s.heap.get? p.1=some p.2∧H p.1=none∧p.1≠X.env.locals∧p.1∉X.fs∧∀v,p.2.data≠ .cell v):Inv X pins' σ H s:=
 ⟨I.ok,I.os,I.bare,I.base,I.loc,I.cell,I.free,I.freeC,fun p hp=>(List.mem_append.mp hp).elim (fun z=>I.pin p (List.mem_append_left _ z)) (h p),I.hok,I.len⟩
theorem nN{N:List Str}(hN:N.Nodup){i j:Nat}{x:Str}(a:N[i]?=some x)(b:N[j]?=some x):i=j:=by
 obtain⟨h1,e1⟩:=List.getElem?_eq_some_iff.mp a
 obtain⟨h2,e2⟩:=List.getElem?_eq_some_iff.mp b
 exact(List.getElem_inj hN).mp (e1.trans e2.symm)
theorem jL{M:Model}{A:Around}{E:Value→Shared→Prop}{i:Nat}{x:Str}{v:V}{u:Value}{Q:Unit→Shared→Prop}(I:Inv X pins σ H s)(hN:X.N.Nodup)(hi:X.N[i]?=some x)(hx:eP X.env.scope x)(r:RelV v u)(h:∀s',Inv X pins (σ.set i (some v)) H s'→(∃a,Heap.SameBut a s.heap s'.heap∧(a=X.env.locals∨X.env.cells.lookup x=some a))→Q () s')(hf:X.fn x=true∨X.env.scope.names.lookup x=some .local:=by first | exact .inl rfl | exact .inr rfl | assumption):wpAny M A (storeName X.env x u) Q E s:=by
 obtain⟨m,hn,hl⟩:=id I.loc
 have hcls:(X.env.scope.kind == .class || (X.env.scope.kind == .module && X.env.locals != X.env.globals))=false:=by rw[I.ok.kind];rfl
 have hiσ:i<σ.length:=by rw[I.len];exact(List.getElem?_eq_some_iff.mp hi).1
 have cne:=I.cne
 have tracked:∀{a:Addr} {h':Heap},(∃o,s.heap.get? a=some o∧H a=none)→Heap.SameBut a s.heap h'→HOk X.prog X.w H h':=fun{a h'} ha hs b ob e=>by
  obtain⟨_,_,hfree⟩:=ha
  refine(I.hok b ob e).stay (fun c w' hc q=>(hs.2 c ?_).trans q) (fun _ q=>q) fun _ _ q=>q
  rintro rfl
  rcases hc with rfl | hc
  ·rw[hfree] at e;cases e
  ·rw[hfree] at hc;cases hc
 rcases hx with hk | hk
 ·refine wpAny_storeName_local hk hn (fun h' hn' hs=>?_) hcls
  obtain⟨oL,_,_,hoL,_⟩:=id hn
  refine h _ ⟨I.ok,I.os,I.bare,⟨fun b o e n hb hx=>?_,fun b o e n hb hx=>?_,I.base.free,fun b o e hx=>?_,I.base.tups,I.base.frzs,I.base.tbls⟩,⟨_,hn',fun j y v' e1 e2 e3=>?_⟩,fun y c e=>?_,I.free,I.freeC,fun p hp=>?_,tracked ⟨oL,hoL,I.free⟩ hs,by simpa using I.len⟩ ⟨_,hs,.inl rfl⟩
  ·exact(hs.2 b (Nat.ne_of_lt (Nat.lt_of_lt_of_le (Heap.lt_size e) I.ok.above))).trans (I.base.keep b o e n hb hx)
  ·obtain⟨sl,e1⟩:=I.base.slot b o e n hb hx
   exact⟨sl,(hs.2 b (Nat.ne_of_lt (Nat.lt_of_lt_of_le (Heap.lt_size e) I.ok.above))).trans e1⟩
  ·obtain⟨o',e1⟩:=I.base.there b o e hx
   exact⟨o',(hs.2 b (Nat.ne_of_lt (Nat.lt_of_lt_of_le (Heap.lt_size e) I.ok.above))).trans e1⟩
  ·by_cases hj:j=i
   ·subst hj
    rw[hi] at e1;cases e1
    rw[List.getElem?_set_self hiσ] at e2
    cases e2
    exact⟨u,r,.inl ⟨hk,by simp⟩⟩
   ·rw[List.getElem?_set_ne (Ne.symm hj)] at e2
    obtain⟨u',r',q⟩:=hl j y v' e1 e2 e3
    refine⟨u',r',?_⟩
    rcases q with⟨k,e⟩ | ⟨k,c,e,z⟩
    ·refine .inl ⟨k,?_⟩
     have:y≠x:=fun e=>hj (nN hN e1 (e▸hi))
     simp[this,e]
    ·exact .inr ⟨k,c,e,z.sameBut hs (cne y c e)⟩
  ·obtain⟨w',z⟩:=I.cell y c e
   exact⟨w',z.sameBut hs (cne y c e)⟩
  ·obtain⟨e,n,ne,nf,d⟩:=I.pin p hp
   exact⟨(hs.2 p.1 ne).trans e,n,ne,nf,d⟩
 ·have hfn:X.fn x=true:=by
   rcases hf with z | z
   ·exact z
   ·rw[z] at hk;cases hk
  obtain⟨c,hc⟩:=I.ok.has x (.inl hk)
  obtain⟨w',z⟩:=I.cell x c hc
  refine wpAny_storeName_cell I.ok.kind hk hc z (fun h' hc' hs=>?_)
  obtain⟨oc,hoc,hocd⟩:=id z
  refine h {s with heap:=h'} ⟨I.ok,I.os,I.bare,⟨fun b o e n hb hx=>?_,fun b o e n hb hx=>?_,I.base.free,fun b o e hx=>?_,I.base.tups,I.base.frzs,I.base.tbls⟩,⟨m,hn.sameBut hs (Ne.symm (cne x c hc)),fun j y v' e1 e2 e3=>?_⟩,fun y c' e=>?_,I.free,I.freeC,fun p hp=>?_,tracked ⟨oc,hoc,I.freeC x c hc⟩ hs,by simpa using I.len⟩ ⟨c,hs,.inr hc⟩
  ·exact(hs.2 b (Nat.ne_of_lt (Nat.lt_of_lt_of_le (Heap.lt_size e) (I.ok.cab x c hfn hc)))).trans (I.base.keep b o e n hb hx)
  ·obtain⟨sl,e1⟩:=I.base.slot b o e n hb hx
   exact⟨sl,(hs.2 b (Nat.ne_of_lt (Nat.lt_of_lt_of_le (Heap.lt_size e) (I.ok.cab x c hfn hc)))).trans e1⟩
  ·obtain⟨o',e1⟩:=I.base.there b o e hx
   exact⟨o',(hs.2 b (Nat.ne_of_lt (Nat.lt_of_lt_of_le (Heap.lt_size e) (I.ok.cab x c hfn hc)))).trans e1⟩
  ·by_cases hj:j=i
   ·subst hj
    rw[hi] at e1;cases e1
    rw[List.getElem?_set_self hiσ] at e2
    cases e2
    exact⟨u,r,.inr ⟨.inl hk,c,hc,hc'⟩⟩
   ·rw[List.getElem?_set_ne (Ne.symm hj)] at e2
    obtain⟨u',r',q⟩:=hl j y v' e1 e2 e3
    refine⟨u',r',?_⟩
    rcases q with q | ⟨k,c',e,z'⟩
    ·exact .inl q
    ·refine .inr ⟨k,c',e,z'.sameBut hs ?_⟩
     rintro rfl
     exact hj (nN hN e1 (I.ok.inj _ _ _ e hc▸hi))
  ·by_cases hcc:c'=c
   ·subst hcc;exact⟨_,hc'⟩
   ·obtain⟨w2,z2⟩:=I.cell y c' e
    exact⟨w2,z2.sameBut hs hcc⟩
  ·obtain⟨e,n,ne,nf,d⟩:=I.pin p hp
   refine⟨(hs.2 p.1 ?_).trans e,n,ne,nf,d⟩
   intro q
   rw[q,hoc] at e
   have q':oc=p.2:=Option.some.inj e
   exact d w' (by rw[←q'];exact hocd)
theorem iM{M:Model}{A:Around}{E:Value→Shared→Prop}{i:Nat}{x:Str}{v:V}{u:Value}{Q:Unit→Shared→Prop}(I:Inv X pins σ H s)(hN:X.N.Nodup)(hi:X.N[i]?=some x)(hx:eP X.env.scope x)(r:RelV v u)(h:∀s',Inv X pins (σ.set i (some v)) H s'→Q () s')(hf:X.fn x=true∨X.env.scope.names.lookup x=some .local:=by first | exact .inl rfl | exact .inr rfl | assumption):wpAny M A (storeName X.env x u) Q E s:=
 jL I hN hi hx r (fun s' I' _=>h s' I') hf
theorem Inv.call'{s':Shared}{ch:List Addr}(I:Inv X pins σ H s)(ho:s'.os=s.os)(u:Un (aX X.stack) ch H H' s.heap s'.heap)(hok:HOk X.prog X.w H' s'.heap)(hg:AllBare s'.gens)(hch:∀b∈ch,(b∈X.ex∨X.s₀.heap.objs.size≤b)∧b≠X.env.locals∧(∀x c,X.env.cells.lookup x=some c→c≠b)∧∀p∈X.pn++pins,p.1≠b):Inv X pins σ H' s':=by
 obtain⟨h',g',d',t',o'⟩:=s'
 have e:o'=s.os:=ho
 subst e
 exact I.call (g':=g') (t':=t') (d':=d') u hok hg hch
end
abbrev XK:=Value→Option Addr→Hp→Prop
abbrev St:=List (Option V)
abbrev VK:=V→Hp→Prop
abbrev TE:=St→Hp→VK→Prop
abbrev TT:=St→Hp→(Bool→Hp→Prop)→Prop
abbrev TA:=St→Hp→(List V→Hp→Prop)→Prop
structure Ends where
 nx:St→Hp→Prop
 rt:VK
 bk:St→Hp→Prop:=fun _ _=>False
 ct:St→Hp→Prop:=fun _ _=>False
abbrev TS:=Ends→St→Hp→Prop
def EP(X:Cx)(pins:List (Addr×Obj))(σ:St)(Q:VK)(u:Value)(s':Shared):Prop:=∃v H',Inv X pins σ H' s'∧RelV v u∧Q v H'
def TP(X:Cx)(pins:List (Addr×Obj))(σ:St)(Q:Bool→Hp→Prop)(b:Bool)(s':Shared):Prop:=∃H',Inv X pins σ H' s'∧Q b H'
def AP(X:Cx)(pins:List (Addr×Obj))(σ:St)(Q:List V→Hp→Prop)(us:List Value)(s':Shared):Prop:=∃vs H',Inv X pins σ H' s'∧Vals vs us∧Q vs H'
def SP(X:Cx)(pins:List (Addr×Obj))(D:Ends)(f:Flow)(s':Shared):Prop:=
 match f with
 | .next=>∃σ' H',Inv X pins σ' H' s'∧D.nx σ' H'
 | .brk=>∃σ' H',Inv X pins σ' H' s'∧D.bk σ' H'
 | .cont=>∃σ' H',Inv X pins σ' H' s'∧D.ct σ' H'
 | .ret u=>∃v σ' H',Inv X pins σ' H' s'∧RelV v u∧D.rt v H'
def PE(X:Cx)(e:Expr)(t:TE):Prop:=
 ∀(pins:List (Addr×Obj)) (s:Shared) (σ:St) (H:Hp) (Q:VK),Inv X pins σ H s→t σ H Q→wpAny (model X.prog X.w) X.A (eval e X.env) (EP X pins σ Q) X.xe s
def PT(X:Cx)(e:Expr)(t:TT):Prop:=
 ∀(pins:List (Addr×Obj)) (s:Shared) (σ:St) (H:Hp) (Q:Bool→Hp→Prop),Inv X pins σ H s→t σ H Q→wpAny (model X.prog X.w) X.A (isTrue e X.env (eval e X.env)) (TP X pins σ Q) X.xe s
def PW(X:Cx)(e:Expr)(t:TT):Prop:=
 ∀(whole:Sem Value) (pins:List (Addr×Obj)) (s:Shared) (σ:St) (H:Hp) (Q:Bool→Hp→Prop),Inv X pins σ H s→t σ H Q→wpAny (model X.prog X.w) X.A (isTrue e X.env whole) (TP X pins σ Q) X.xe s
theorem PW.pt{X:Cx}{e:Expr}{t:TT}(h:PW X e t):PT X e t:=h _
def PA(X:Cx)(es:List Expr)(t:TA):Prop:=
 ∀(pos:Pos) (pins:List (Addr×Obj)) (s:Shared) (σ:St) (H:Hp) (Q:List V→Hp→Prop),Inv X pins σ H s→t σ H Q→wpAny (model X.prog X.w) X.A (spliced (backTo pos (starEach es X.env))) (AP X pins σ Q) X.xe s
def PS(X:Cx)(st:Stmt)(t:TS):Prop:=
 ∀(pins:List (Addr×Obj)) (s:Shared) (σ:St) (H:Hp) (D:Ends),Inv X pins σ H s→t D σ H→wpAny (model X.prog X.w) X.A (exec st X.env) (SP X pins D) X.xe s
def PSs(X:Cx)(st:List Stmt)(t:TS):Prop:=
 ∀(pins:List (Addr×Obj)) (s:Shared) (σ:St) (H:Hp) (D:Ends),Inv X pins σ H s→t D σ H→wpAny (model X.prog X.w) X.A (execs st X.env) (SP X pins D) X.xe s
theorem ap{α:Type}{t:Sem α}{Q Q':α→Shared→Prop}{M:Model}{A:Around}{E:Value→Shared→Prop}{s:Shared}(h:wpAny M A t Q E s)(hQ:∀a s,Q a s→Q' a s):wpAny M A t Q' E s:=wpAny_mono h hQ fun _ _ x=>x
section
variable{X:Cx}
def bo(i:Nat):TE:=fun σ H Q=>∃v,σ[i]?=some (some v)∧Q v H
def tC(v:V):TE:=fun _ H Q=>Q v H
theorem ue{i:Nat}{x:Str}{pos:Pos}(hN:X.N[i]?=some x)(hv:im X.env.scope x)(hd:(x == ("__debug__":Str))=false:=by decide)(hcd:(x == ("__classdict__":Str))=false:=by decide):PE X (.Name x pos) (bo i):=by
 intro pins s σ H Q I h
 obtain⟨v,e,h⟩:=h
 obtain⟨m,hn,hl⟩:=I.loc
 obtain⟨u,r,l⟩:=hl i x v hN e hv
 have fin:EP X pins σ Q u s:=⟨v,H,I,r,h⟩
 rcases l with⟨hk,hm⟩ | ⟨hk,c,hc,hcell⟩
 ·exact wpAny_Name (wpAny_loadName_local I.ok.kind hk hn hm fin) hd
 ·rcases hk with hk | hk
  ·exact wpAny_Name (wpAny_loadName_cell I.ok.kind hk hc hcell fin) hd
  ·exact wpAny_Name (wpAny_loadName_free I.ok.kind hk hc hcell fin hcd) hd
theorem af{i j pos}:PE X (.Constant (.int i) j pos) (tC (.int i)):=fun _ _ _ H _ I h=>wpAny_Constant_int ⟨.int i,H,I.tok _,⟨_,rfl⟩,h⟩
theorem bB{b j pos}:PE X (.Constant (.bool b) j pos) (tC (.bl b)):=fun _ _ _ H _ I h=>Constant_bool ⟨.bl b,H,I,rfl,h⟩
theorem iC{j pos}:PE X (.Constant .none j pos) (tC .non):=fun _ _ _ H _ I h=>Constant_none ⟨.non,H,I,rfl,h⟩
theorem cS{x j pos}:PE X (.Constant (.str x) j pos) (tC (.str x)):=fun _ _ _ H _ I h=>Calls.Constant_str ⟨.str x,H,I.tok _,⟨_,rfl⟩,h⟩
def Gl(X:Cx)(x:Str):Prop:=X.env.kindOf x=some .globalImplicit
theorem fH{E:Value→Shared→Prop}{pins:List (Addr×Obj)}{s:Shared}{σ:St}{H:Hp}{x:Str}{u:Value}{pos:Pos}{Q:Value→Shared→Prop}(I:Inv X pins σ H s)(hg:Gl X x)(hm:X.mg x=some u)(h:Q u s)(hd:(x == ("__debug__":Str))=false:=by decide):wpAny (model X.prog X.w) X.A (eval (.Name x pos) X.env) Q E s:=
 Calls.Name_function_global I.ok.kind hg (Calls.loadGlobal_global (by rw[I.ok.glob];exact I.mod.glob.keeps I.bk) hm h) hd
theorem cW{E:Value→Shared→Prop}{pins:List (Addr×Obj)}{s:Shared}{σ:St}{H:Hp}{x:Str}{u:Value}{pos:Pos}{Q:Value→Shared→Prop}(I:Inv X pins σ H s)(hg:Gl X x)(hm:X.mg x=none)(hv:bootBuiltins x=some u)(h:Q u s)(hn:x≠"__name__":=by decide)(hd:(x == ("__debug__":Str))=false:=by decide):wpAny (model X.prog X.w) X.A (eval (.Name x pos) X.env) Q E s:=by
 obtain⟨mb,h1,h2⟩:=I.mod.blt
 exact Calls.Name_function_global I.ok.kind hg (Calls.loadGlobal_builtin (by rw[I.ok.glob];exact I.mod.glob.keeps I.bk) hm (by rw[I.ok.blt];exact h1.keeps I.bk) ((h2 x hn).trans hv) h) hd
theorem mS{x:Str}{v:V}{u:Value}{pos:Pos}(hg:Gl X x)(hm:X.mg x=some u)(r:RelV v u)(hd:(x == ("__debug__":Str))=false:=by decide):PE X (.Name x pos) (tC v):=
 fun _ _ _ H _ I h=>fH I hg hm ⟨v,H,I,r,h⟩ hd
theorem uE{x:Str}{v:V}{u:Value}{pos:Pos}(hg:Gl X x)(hm:X.mg x=none)(hv:bootBuiltins x=some u)(r:RelV v u)(hn:x≠"__name__":=by decide)(hd:(x == ("__debug__":Str))=false:=by decide):PE X (.Name x pos) (tC v):=
 fun _ _ _ H _ I h=>cW I hg hm hv ⟨v,H,I,r,h⟩ hn hd
variable{a b:Expr}{ta tb:TE}{pos:Pos}
def tB(t:TE):TT:=fun σ H Q=>t σ H fun x H1=>∃c,x=.bl c∧Q c H1
theorem bx{e:Expr}{t:TE}(h:PE X e t)(he:∀whole,isTrue e X.env whole=(do let v←whole;standAt e.pos;holding [v] (truthy v)):=by intro _;rfl):PT X e (tB t):=by
 intro pins s σ H Q I hw
 refine isTrue_plain (ap (h pins s σ H _ I hw) fun v s1 ⟨x,H1,I1,r1,q1⟩=>?_) (he _)
 obtain⟨d,rfl,q⟩:=q1
 cases r1
 exact wpAny_truthy_bool ⟨H1,I1,q⟩
variable{tA tB':TT}{aq:List Expr}
def mG(t u:TT):TT:=fun σ H Q=>t σ H fun c H1=>if c=true then u σ H1 Q else Q false H1
def kg(t u:TT):TT:=fun σ H Q=>t σ H fun c H1=>if c=true then Q true H1 else u σ H1 Q
def pG(t:TT):TT:=fun σ H Q=>t σ H fun c H1=>Q (!c) H1
theorem fX(ha:PT X a tA):PW X (.BoolOp .And [a] pos) tA:=by
 intro wh pins s σ H Q I h
 refine isTrue_and (ap (ha pins s σ H Q I h) fun c s1 e=>?_)
 cases c with
 | true=>exact isTrue_and_nil e
 | false=>exact e
theorem eR(ha:PT X a tA):PW X (.BoolOp .Or [a] pos) tA:=by
 intro wh pins s σ H Q I h
 refine isTrue_or (ap (ha pins s σ H Q I h) fun c s1 e=>?_)
 cases c with
 | false=>exact isTrue_or_nil e
 | true=>exact e
theorem gc(ha:PT X a tA)(hb:PW X (.BoolOp .And (b::aq) pos) tB'):PW X (.BoolOp .And (a::b::aq) pos) (mG tA tB'):=by
 intro wh pins s σ H Q I h
 refine isTrue_and (ap (ha pins s σ H _ I h) fun c s1 ⟨H1,I1,q1⟩=>?_)
 cases c with
 | true=>exact hb wh pins s1 σ H1 Q I1 q1
 | false=>exact⟨H1,I1,q1⟩
theorem eI(ha:PT X a tA)(hb:PW X (.BoolOp .Or (b::aq) pos) tB'):PW X (.BoolOp .Or (a::b::aq) pos) (kg tA tB'):=by
 intro wh pins s σ H Q I h
 refine isTrue_or (ap (ha pins s σ H _ I h) fun c s1 ⟨H1,I1,q1⟩=>?_)
 cases c with
 | true=>exact⟨H1,I1,q1⟩
 | false=>exact hb wh pins s1 σ H1 Q I1 q1
theorem cO(ha:PT X a tA):PT X (.UnaryOp .Not a pos) (pG tA):=by
 intro pins s σ H Q I h
 exact isTrue_not (ha pins s σ H (fun c H1=>Q (!c) H1) I h)
def tQ(ta tb:TE):TE:=fun σ H Q=>ta σ H fun x H1=>∃c,x=.bl c∧if c=true then tb σ H1 Q else Q (.bl false) H1
def rV(ta tb:TE):TE:=fun σ H Q=>ta σ H fun x H1=>∃c,x=.bl c∧if c=true then Q (.bl true) H1 else tb σ H1 Q
def yg(ta:TE):TE:=fun σ H Q=>ta σ H fun x H1=>∃c,x=.bl c∧Q (.bl (!c)) H1
theorem gR{op}{t:TE}(h:PE X a t):PE X (.BoolOp op [a] pos) t:=fun pins s σ H Q I hw=>BoolOp_one (h pins s σ H Q I hw)
theorem pO(ha:PE X a ta)(hb:PE X (.BoolOp .And (b::aq) pos) tb):PE X (.BoolOp .And (a::b::aq) pos) (tQ ta tb):=by
 intro pins s σ H Q I h
 refine BoolOp_and (ap (ha pins s σ H _ I h) fun v s1 ⟨x,H1,I1,r1,q1⟩=>?_)
 obtain⟨c,rfl,q1⟩:=q1
 cases r1
 refine wpAny_truthy_bool ?_
 cases c with
 | true=>exact hb pins s1 σ H1 Q I1 q1
 | false=>exact⟨.bl false,H1,I1,rfl,q1⟩
theorem yM(ha:PE X a ta)(hb:PE X (.BoolOp .Or (b::aq) pos) tb):PE X (.BoolOp .Or (a::b::aq) pos) (rV ta tb):=by
 intro pins s σ H Q I h
 refine BoolOp_or (ap (ha pins s σ H _ I h) fun v s1 ⟨x,H1,I1,r1,q1⟩=>?_)
 obtain⟨c,rfl,q1⟩:=q1
 cases r1
 refine wpAny_truthy_bool ?_
 cases c with
 | false=>exact hb pins s1 σ H1 Q I1 q1
 | true=>exact⟨.bl true,H1,I1,rfl,q1⟩
theorem xn(ha:PE X a ta):PE X (.UnaryOp .Not a pos) (yg ta):=by
 intro pins s σ H Q I h
 refine UnaryOp_ (ap (ha pins s σ H _ I h) fun v s1 ⟨x,H1,I1,r1,q1⟩=>?_)
 obtain⟨c,rfl,q1⟩:=q1
 cases r1
 exact not_of (wpAny_truthy_bool ⟨.bl (!c),H1,I1,rfl,q1⟩)
end
def SqL(K:PySem.W.Frag)(H:Hp)(a:Addr)(xs:List V):Prop:=
 Rd H a (.lst xs)∨
  ∃(o:Obj) (its:Array Value) (n:Nat),K.lookup a=some o∧o.cls=.type "list"∧o.dict=none∧o.data=.seq its n∧its.size≤sizeLine∧Vals xs its.toList
def SqT(K:PySem.W.Frag)(H:Hp)(a:Addr)(xs:List V):Prop:=
 Rd H a (.tup xs)∨
  ∃(o:Obj) (its:Array Value) (n:Nat),K.lookup a=some o∧o.cls=.type "tuple"∧o.data=.seq its n∧its.size≤sizeLine∧Vals xs its.toList
def wc:Value→Option V
 | .none=>some .non
 | .bool b=>some (.bl b)
 | .int i _=>some (.int i)
 | .str x _=>some (.str x)
 | .bytes b _=>some (.byt b)
 | .float b _=>some (.flt b)
 | .ref a=>some (.ref a)
 | .type n=>some (.ty n)
 | _=>none
theorem RelV.abs{x:V}{u:Value}(r:RelV x u):wc u=some x:=by
 cases x with
 | non=>cases r;rfl
 | bl _=>cases r;rfl
 | int _=>obtain⟨t,rfl⟩:=r;rfl
 | str _=>obtain⟨t,rfl⟩:=r;rfl
 | byt _=>obtain⟨t,rfl⟩:=r;rfl
 | flt _=>obtain⟨t,rfl⟩:=r;rfl
 | ref _=>cases r;rfl
 | ty _=>cases r;rfl
theorem RelV.inj{x y:V}{u:Value}(r:RelV x u)(q:RelV y u):x=y:=Option.some.inj (r.abs.symm.trans q.abs)
theorem Vals.inj:∀{xs ys:List V} {us:List Value},Vals xs us→Vals ys us→xs=ys
 | _,_,_,.nil,.nil=>rfl
 | _,_,_,.cons r t,.cons r' t'=>by rw[r.inj r',Vals.inj t t']
section
variable{X:Cx}{pins:List (Addr×Obj)}{σ:St}{H:Hp}{s:Shared}{a:Addr}{xs ys:List V}
theorem SqL.of{K:PySem.W.Frag}(h:H a=some (.lst xs)):SqL K H a xs:=.inl (.inl h)
theorem SqT.of{K:PySem.W.Frag}(h:H a=some (.tup xs)):SqT K H a xs:=.inl (.inl h)
theorem Inv.list(I:Inv X pins σ H s)(h:SqL X.K H a xs):∃its:List Value,Vals xs its∧PlainL s.heap a its.toArray∧xs.length≤sizeLine:=by
 rcases h with h | ⟨o,its,n,hk,hc,hd,hs,hz,r⟩
 ·obtain⟨z,its,n,r,e⟩:=h.ok I.hok
  exact⟨its,r,⟨_,n,e,rfl,rfl,rfl⟩,z⟩
 ·refine⟨its.toList,r,⟨o,n,I.kIn a o hk,hc,hd,by simpa using hs⟩,?_⟩
  have e:=r.length
  simp only[Array.length_toList] at e
  lia
theorem Inv.tuple(I:Inv X pins σ H s)(h:SqT X.K H a xs):∃its:List Value,Vals xs its∧IsTup s.heap a its.toArray∧xs.length≤sizeLine:=by
 rcases h with h | ⟨o,its,n,hk,hc,hs,hz,r⟩
 ·obtain⟨z,its,r,p⟩:=h.ok I.hok
  exact⟨its,r,p,z⟩
 ·refine⟨its.toList,r,⟨o,I.kIn a o hk,hc,n,by simpa using hs⟩,?_⟩
  have e:=r.length
  simp only[Array.length_toList] at e
  lia
theorem Inv.list_inj(I:Inv X pins σ H s)(h:SqL X.K H a xs)(h':SqL X.K H a ys):xs=ys:=by
 obtain⟨its,r,⟨o,n,e,_,_,d⟩,_⟩:=I.list h
 obtain⟨its',r',⟨o',n',e',_,_,d'⟩,_⟩:=I.list h'
 rw[e] at e';cases e'
 rw[d] at d'
 injection d' with d1 _
 have:its=its':=by simpa using congrArg Array.toList d1
 subst this
 exact r.inj r'
end
abbrev Cx.wish(X:Cx)(E:Value→Shared→Prop):Cx:={X with xe:=E}
abbrev Cx.nox(X:Cx):Cx:=X.wish fun _ _=>False
theorem Cx.Ok.wish{X:Cx}(ok:X.Ok)(E:Value→Shared→Prop):(X.wish E).Ok:=
 ⟨ok.mod,ok.kind,ok.glob,ok.blt,ok.above,ok.inj,ok.has,ok.cab,ok.hd,ok.frames,ok.stk,ok.exf,ok.bs,ok.bsz,ok.noex,ok.exfs,ok.funs,ok.frf⟩
theorem Cx.Ok.unwish{X:Cx}{E:Value→Shared→Prop}(ok:(X.wish E).Ok):X.Ok:=
 ⟨ok.mod,ok.kind,ok.glob,ok.blt,ok.above,ok.inj,ok.has,ok.cab,ok.hd,ok.frames,ok.stk,ok.exf,ok.bs,ok.bsz,ok.noex,ok.exfs,ok.funs,ok.frf⟩
section
variable{X:Cx}{pins:List (Addr×Obj)}{σ:St}{H:Hp}{s:Shared}{E:Value→Shared→Prop}
theorem Inv.wish(I:Inv X pins σ H s)(E:Value→Shared→Prop):Inv (X.wish E) pins σ H s:=⟨I.ok.wish E,I.os,I.bare,I.base,I.loc,I.cell,I.free,I.freeC,I.pin,I.hok,I.len⟩
theorem Inv.unwish(I:Inv (X.wish E) pins σ H s):Inv X pins σ H s:=⟨I.ok.unwish,I.os,I.bare,I.base,I.loc,I.cell,I.free,I.freeC,I.pin,I.hok,I.len⟩
theorem SP.unwish{D:Ends}{f:Flow}{s':Shared}(h:SP (X.wish E) pins D f s'):SP X pins D f s':=by
 cases f with
 | next=>obtain⟨σ',H',I,q⟩:=h;exact⟨σ',H',I.unwish,q⟩
 | brk=>obtain⟨σ',H',I,q⟩:=h;exact⟨σ',H',I.unwish,q⟩
 | cont=>obtain⟨σ',H',I,q⟩:=h;exact⟨σ',H',I.unwish,q⟩
 | ret u=>obtain⟨v,σ',H',I,r,q⟩:=h;exact⟨v,σ',H',I.unwish,r,q⟩
theorem PSs.nox{st:List Stmt}{t:TS}(h:PSs X.nox st t):PSs X st t:=fun pins s σ H D I hw=>
 wpAny_mono (h pins s σ H D (I.wish _) hw) (fun _ _ q=>q.unwish) fun _ _ z=>False.elim z
end
section
variable{X:Cx}{st:Stmt}{aq:List Stmt}{t u:TS}{e:Expr}{te:TE}{pos:Pos}
def fg:TS:=fun D σ H=>D.nx σ H
def cY(t u:TS):TS:=fun D σ H=>t {D with nx:=u D} σ H
theorem aU:PSs X [] fg:=fun _ _ σ H _ I h=>wpAny_execs_nil ⟨σ,H,I,h⟩
theorem ah(h1:PS X st t)(h2:PSs X aq u):PSs X (st::aq) (cY t u):=by
 intro pins s σ H D I h
 refine wpAny_execs_cons (ap (h1 pins s σ H {D with nx:=u D} I h) fun f s1 q=>?_)
 cases f with
 | next=>
   obtain⟨σ',H',I',q⟩:=q
   exact h2 pins s1 σ' H' D I' q
 | ret v=>exact q
 | brk=>exact q
 | cont=>exact q
theorem al(h1:PS X st t):PSs X [st] t:=by
 intro pins s σ H D I h
 refine wpAny_execs_cons (ap (h1 pins s σ H D I h) fun f s1 q=>?_)
 cases f with
 | next=>exact wpAny_execs_nil q
 | ret v=>exact q
 | brk=>exact q
 | cont=>exact q
theorem Inv.quiet{pins:List (Addr×Obj)}{σ:St}{H:Hp}{s:Shared}(I:Inv X pins σ H s):interactive X.env=false:=by simp[interactive,I.ok.kind]
def qL(te:TE):TS:=fun D σ H=>te σ H fun _ H1=>D.nx σ H1
theorem bc(he:PE X e te)(hs:swapsWith e none pos.line X.env=pure false:=by rfl):PS X (.Expr e pos) (qL te):=by
 intro pins s σ H D I h
 exact wpAny_Expr_any (ap (he pins s σ H _ I h) fun v s1 ⟨x,H1,I1,r1,q1⟩=>⟨σ,H1,I1,q1⟩) I.quiet hs
def wE(te:TE):TS:=fun D σ H=>te σ H D.rt
theorem aw(he:PE X e te):PS X (.Return (some e) pos) (wE te):=by
 intro pins s σ H D I h
 exact wpAny_Return_some (ap (he pins s σ H _ I h) fun v s1 ⟨x,H1,I1,r1,q1⟩=>⟨x,σ,H1,I1,r1,q1⟩)
def fz(c:TT)(t u:TS):TS:=fun D σ H=>c σ H fun b H1=>if b=true then t D σ H1 else u D σ H1
theorem aV{c:Expr}{a b:List Stmt}{tc:TT}(hc:PT X c tc)(ha:PSs X a t)(hb:PSs X b u):PS X (.If c a b pos) (fz tc t u):=by
 intro pins s σ H D I h
 refine wpAny_If (ap (hc pins s σ H _ I h) fun d s1 ⟨H1,I1,q1⟩=>?_)
 cases d with
 | true=>exact ha pins s1 σ H1 D I1 q1
 | false=>exact hb pins s1 σ H1 D I1 q1
def tJ:TS:=fun _ _ _=>False
theorem fD:PS X st tJ:=fun _ _ _ _ _ _ h=>h.elim
end
abbrev TG:=V→St→Hp→(St→Hp→Prop)→Prop
abbrev eH:=List V→St→Hp→(St→Hp→Prop)→Prop
def PG(X:Cx)(target:Expr)(t:TG):Prop:=
 ∀ (pins:List (Addr×Obj)) (s:Shared) (σ:St) (H:Hp) (v:V) (u:Value) (Q:St→Hp→Prop),Inv X pins σ H s→RelV v u→t v σ H Q→
   wpAny (model X.prog X.w) X.A (assign target X.env u) (fun _ s'=>∃σ' H',Inv X pins σ' H' s'∧Q σ' H') X.xe s
def iz(X:Cx)(ts:List Expr)(t:eH):Prop:=
 ∀ (pins:List (Addr×Obj)) (s:Shared) (σ:St) (H:Hp) (vs:List V) (us:List Value) (Q:St→Hp→Prop),Inv X pins σ H s→Vals vs us→t vs σ H Q→
   wpAny (model X.prog X.w) X.A (assignInOrder ((assignEach ts X.env).map (·.2)) us) (fun _ s'=>∃σ' H',Inv X pins σ' H' s'∧Q σ' H') X.xe s
abbrev jz:=V→V→V→Hp→(Hp→Prop)→Prop
def oq(X:Cx)(t:jz):Prop:=
 ∀ (pins:List (Addr×Obj)) (s:Shared) (σ:St) (H:Hp) (o i v:V) (ov iv u:Value) (Q:Hp→Prop),Inv X pins σ H s→RelV o ov→RelV i iv→RelV v u→t o i v H Q→
   wpAny (model X.prog X.w) X.A (setItem ov iv u) (fun _ s'=>∃H',Inv X pins σ H' s'∧Q H') X.xe s
abbrev ia:=V→V→Hp→VK→Prop
def j7(X:Cx)(op:Operator)(t:ia):Prop:=
 ∀ (pins:List (Addr×Obj)) (s:Shared) (σ:St) (H:Hp) (x y:V) (v u:Value) (Q:VK),Inv X pins σ H s→RelV x v→RelV y u→t x y H Q→
   wpAny (model X.prog X.w) X.A (inplaceOp op v u) (EP X pins σ Q) X.xe s
section
variable{X:Cx}{pos:Pos}
def cA(i:Nat):TG:=fun v σ H Q=>Q (σ.set i (some v)) H
theorem bq{i:Nat}{x:Str}(hN:X.N.Nodup)(hi:X.N[i]?=some x)(hx:eP X.env.scope x)(hf:X.fn x=true∨X.env.scope.names.lookup x=some .local:=by first | exact .inl rfl | exact .inr rfl | assumption):PG X (.Name x pos) (cA i):=by
 intro pins s σ H v u Q I r h
 exact wpAny_assign_Name (iM I hN hi hx r (fun s' I'=>⟨_,H,I',h⟩) hf)
def rM:eH:=fun vs σ H Q=>vs=[]∧Q σ H
def uH(t:TG)(u:eH):eH:=fun vs σ H Q=>∃v r,vs=v::r∧t v σ H fun σ' H'=>u r σ' H' Q
theorem fc:iz X [] rM:=by
 intro pins s σ H vs us Q I r h
 obtain⟨e,h⟩:=h
 subst e
 cases r
 exact assignInOrder_nil ⟨σ,H,I,h⟩
theorem cF{e:Expr}{es:List Expr}{t:TG}{u:eH}(h1:PG X e t)(h2:iz X es u)(hs:(assignEach (e::es) X.env).map (·.2)=assign e X.env::(assignEach es X.env).map (·.2):=by rfl):iz X (e::es) (uH t u):=by
 intro pins s σ H vs us Q I r h
 obtain⟨v,vr,e1,h⟩:=h
 subst e1
 cases r with
 | cons r rr=>
   rw[hs]
   refine assignInOrder_cons (ap (h1 pins s σ H _ _ _ I r h) fun _ s1 ⟨σ1,H1,I1,q1⟩=>?_)
   exact h2 pins s1 σ1 H1 _ _ Q I1 rr q1
def xI(K:PySem.W.Frag)(n:Nat)(t:eH):TG:=fun v σ H Q=>∃a xs,v=.ref a∧SqT K H a xs∧xs.length=n∧t xs σ H Q
theorem eV{es:List Expr}{k:Nat}{t:eH}{n:Nat}(hc:X.calm=true)(h:iz X es t)(hn:(assignEach es X.env).length=n:=by rfl)(hst:(assignEach es X.env).findIdx? (·.1)=none:=by rfl):PG X (.Tuple es k pos) (xI X.K n t):=by
 intro pins s σ H v u Q I r hw
 obtain⟨a,xs,e1,hq,hl,hw⟩:=hw
 subst e1
 cases r
 obtain⟨its,rv,ht,hz⟩:=I.tuple hq
 refine assign_Tuple_tuple (I.ok.hd hc) ht (by simp[hn,←hl,rv.length]) hst fun h' hx=>?_
 have I1:Inv X pins σ H {s with heap:=h'}:=I.kept (t':=s.toks) fun b o e=>hx b o (Nat.ne_of_lt (Heap.lt_size e)) e
 exact h pins _ σ H xs _ Q I1 (by simpa using rv) hw
def uN(to ti:TE)(t:jz):TG:=fun v σ H Q=>to σ H fun o H1=>ti σ H1 fun i H2=>t o i v H2 fun H3=>Q σ H3
theorem lO{o i:Expr}{to ti:TE}{t:jz}(ho:PE X o to)(hi:PE X i ti)(hs:oq X t)(ha:∀v,assign (.Subscript o i pos) X.env v=(do
 let ov←holding [v] (eval o X.env)
 let iv←holding [v,ov] (eval i X.env)
 standAt pos
 holding [v,ov,iv] (setItem ov iv v)
 release [v,ov,iv] []):=by intro _;rfl):PG X (.Subscript o i pos) (uN to ti t):=by
 intro pins s σ H v u Q I r h
 rw[ha]
 refine wpAny_bind (wpAny_holding (ap (ho pins s σ H _ I h) fun ov s1 ⟨x,H1,I1,r1,q1⟩=>?_))
 refine wpAny_bind (wpAny_holding (ap (hi pins s1 σ H1 _ I1 q1) fun iv s2 ⟨y,H2,I2,r2,q2⟩=>?_))
 refine wpAny_bind (wpAny_standAt (wpAny_bind (wpAny_holding (ap (hs pins s2 σ H2 x y v ov iv u _ I2 r1 r2 r q2) fun _ s3 ⟨H3,I3,q3⟩=>?_))))
 exact wpAny_release ⟨σ,H3,I3,q3⟩
def d8(te:TE)(g:TG):TS:=fun D σ H=>te σ H fun x H1=>g x σ H1 D.nx
theorem fJ{tg e:Expr}{te:TE}{g:TG}(he:PE X e te)(hg:PG X tg g)(hs:swapsWithSole [tg] e pos.line X.env=pure false:=by rfl)(hw:swappedStores [tg] e X.env=pure none:=by rfl)
 (h1:(assignEach [tg] X.env).map (·.2)=[assign tg X.env]:=by rfl):PS X (.Assign [tg] e pos) (d8 te g):=by
 intro pins s σ H D I h
 refine wpAny_Assign_stores (ap (he pins s σ H _ I h) fun v s1 ⟨x,H1,I1,r1,q1⟩=>?_) hs hw
 rw[h1]
 exact ap (hg pins s1 σ H1 x v _ I1 r1 q1) fun _ s2 q=>q
theorem ar{i:Nat}{x:Str}{e:Expr}{te:TE}{pos':Pos}(hN:X.N.Nodup)(hi:X.N[i]?=some x)(hx:eP X.env.scope x)(he:PE X e te)(hs:swapsWith e (some (.Name x pos')) pos.line X.env=pure false:=by rfl)(hf:X.fn x=true∨X.env.scope.names.lookup x=some .local:=by first | exact .inl rfl | exact .inr rfl | assumption):
 PS X (.Assign [.Name x pos'] e pos) (d8 te (cA i)):=by
 intro pins s σ H D I h
 refine wpAny_Assign_Name (ap (he pins s σ H _ I h) fun v s1 ⟨y,H1,I1,r1,q1⟩=>?_) hs
 exact iM I1 hN hi hx r1 (fun s2 I2=>⟨_,H1,I2,q1⟩) hf
def ur(i:Nat)(te:TE)(ti:ia):TS:=fun D σ H=>∃x,σ[i]?=some (some x)∧te σ H fun y H1=>ti x y H1 fun z H2=>D.nx (σ.set i (some z)) H2
theorem kq{i:Nat}{x:Str}{e:Expr}{te:TE}{op:Operator}{ti:ia}{pos':Pos}(hN:X.N.Nodup)(hi:X.N[i]?=some x)(hx:eP X.env.scope x)(he:PE X e te)(ho:j7 X op ti)(hf:X.fn x=true∨X.env.scope.names.lookup x=some .local:=by first | exact .inl rfl | exact .inr rfl | assumption):
 PS X (.AugAssign (.Name x pos') op e pos) (ur i te ti):=by
 intro pins s σ H D I h
 obtain⟨v,e1,h⟩:=h
 obtain⟨m,hn,hl⟩:=I.loc
 have vis:im X.env.scope x:=by rcases hx with k | k;exact .inl k;exact .inr (.inl k)
 obtain⟨u,r,l⟩:=hl i x v hi e1 vis
 refine wpAny_AugAssign_Name ?_
 have go:wpAny (model X.prog X.w) X.A (eval e X.env) (fun w s₂=>wpAny (model X.prog X.w) X.A (inplaceOp op u w) (fun r s₃=>wpAny (model X.prog X.w) X.A (storeName X.env x r) (fun _=>SP X pins D .next) X.xe s₃) X.xe s₂) X.xe s:=by
  refine ap (he pins s σ H _ I h) fun w s1 ⟨y,H1,I1,r1,q1⟩=>?_
  refine ap (ho pins s1 σ H1 v y u w _ I1 r r1 q1) fun z s2 ⟨zv,H2,I2,r2,q2⟩=>?_
  exact iM I2 hN hi hx r2 (fun s3 I3=>⟨_,H2,I3,q2⟩) hf
 rcases l with⟨hk,hm⟩ | ⟨hk,c,hc,hcell⟩
 ·exact wpAny_loadName_local I.ok.kind hk hn hm go
 ·rcases hk with hk | hk
  ·exact wpAny_loadName_cell I.ok.kind hk hc hcell go
  ·rcases hx with k | k
   ·have:X.env.scope.names.lookup x=some .free:=hk
    rw[k] at this;cases this
   ·have:X.env.scope.names.lookup x=some .free:=hk
    rw[k] at this;cases this
def lR(f:Int→Int→Int):ia:=fun x y H Q=>∃i j,x=.int i∧y=.int j∧Q (.int (f i j)) H
theorem oh:j7 X .Add (lR fun i j=>i+j):=by
 intro pins s σ H x y v u Q I r1 r2 h
 obtain⟨i,j,e1,e2,q⟩:=h
 subst e1;subst e2
 obtain⟨t,rfl⟩:=r1
 obtain⟨t',rfl⟩:=r2
 exact iadd_int ⟨.int _,H,I.tok _,⟨_,rfl⟩,q⟩
theorem sx:j7 X .Sub (lR fun i j=>i-j):=by
 intro pins s σ H x y v u Q I r1 r2 h
 obtain⟨i,j,e1,e2,q⟩:=h
 subst e1;subst e2
 obtain⟨t,rfl⟩:=r1
 obtain⟨t',rfl⟩:=r2
 exact isub_int ⟨.int _,H,I.tok _,⟨_,rfl⟩,q⟩
end
section
variable{X:Cx}{pos:Pos}
def nS(c:TT)(tb:TS):TS:=fun D σ H=>∃W:Nat→St→Hp→Prop,(∃m,W m σ H)∧∀m σ H,W m σ H→
 c σ H fun b H1=>if b=true then∃N:St→Hp→Prop,(∀σ' H',N σ' H'→∃m',m'<m∧W m' σ' H')∧tb {D with nx:=N,ct:=N,bk:=D.nx} σ H1 else D.nx σ H1
theorem gr{c:Expr}{body:List Stmt}{tc:TT}{tb:TS}(hp:PassesOwn (model X.prog X.w) X.A X.env X.xe)(hc:PT X c tc)(hb:PSs X body tb):PS X (.While c body [] pos) (nS tc tb):=by
 intro pins s σ H D I h
 obtain⟨W,⟨m0,w0⟩,turn⟩:=h
 refine wpAny_While (codeAny_whileLoop (fun n s'=>∃σ' H',Inv X pins σ' H' s'∧W n σ' H') ?_ m0 ⟨σ,H,I,w0⟩)
 rintro n s1 ⟨σ1,H1,I1,w1⟩
 refine wpAny_passesOwn hp (ap (hc pins s1 σ1 H1 _ I1 (turn n σ1 H1 w1)) fun b s2 ⟨H2,I2,q2⟩=>?_)
 cases b with
 | true=>
   obtain⟨N,hN,q2⟩:=q2
   rw[if_pos rfl]
   refine wpAny_passesOwn hp (ap (hb pins s2 σ1 H2 _ I2 q2) fun f s3 q3=>?_)
   cases f with
   | next=>
     obtain⟨σ3,H3,I3,n3⟩:=q3
     obtain⟨m',hm,w3⟩:=hN σ3 H3 n3
     exact⟨m',hm,σ3,H3,I3,w3⟩
   | cont=>
     obtain⟨σ3,H3,I3,n3⟩:=q3
     obtain⟨m',hm,w3⟩:=hN σ3 H3 n3
     exact⟨m',hm,σ3,H3,I3,w3⟩
   | brk=>exact q3
   | ret v=>exact q3
 | false=>
   rw[if_neg Bool.false_ne_true]
   exact wpAny_execs_nil ⟨σ1,H2,I2,q2⟩
end
structure It where
 go:Nat→Hp→Prop
 yld:Nat→Hp→V→Hp→Prop
 stop:Nat→Hp→Prop
def bQ(X:Cx)(pins:List (Addr×Obj))(H:Hp)(b:Addr):Prop:=
 H b=none∧b≠X.env.locals∧b∉X.fs∧(b∈X.ex∨X.s₀.heap.objs.size≤b)∧(∀x c,X.env.cells.lookup x=some c→c≠b)∧∀p∈X.pn++pins,p.1≠b
theorem Inv.fpOk{X:Cx}{pins:List (Addr×Obj)}{σ:St}{H H':Hp}{s:Shared}{b:Addr}(I:Inv X pins σ H s)(hb:s.heap.objs.size≤b)(hn:H' b=none):bQ X pins H' b:=by
 refine⟨hn,Nat.ne_of_gt (Nat.lt_of_lt_of_le I.lt hb),I.nofs hb,.inr (Nat.le_trans I.sz hb),fun x c e z=>?_,fun p hp z=>?_⟩
 ·obtain⟨v,q⟩:=I.cell x c e
  exact absurd (Nat.lt_of_lt_of_le q.lt (by rw[z];exact hb)) (Nat.lt_irrefl _)
 ·exact absurd (Nat.lt_of_lt_of_le (Heap.lt_size (I.pin p hp).1) (by rw[z];exact hb)) (Nat.lt_irrefl _)
structure Turn(P:Program)(w:World)(K:PySem.W.Frag)(tg:Expr)(J:It)(fp:List Addr)(it:Addr)(tn:Nat→Heap→Prop):Prop where
 mem:it∈fp
 obj:∀i h,tn i h→∀b∈fp,∃o,h.get? b=some o∧∀v,o.data≠ .cell v
 keep:∀i h h',tn i h→(∀b∈fp,∀o,h.get? b=some o→h'.get? b=some o)→tn i h'
 item:∀(X:Cx),X.prog=P→X.w=w→X.K=K→X.calm=true→∀(i:Nat) (pins:List (Addr×Obj)) (s:Shared) (σ:St) (H:Hp) (E:Value→Shared→Prop),Inv X pins σ H s→(∀b∈fp,bQ X pins H b)→tn i s.heap→J.go i H→
  wpAny (model P w) X.A (pyNext (.ref it)) (fun r s1=>∃u,r=some u∧
   wpAny (model P w) X.A (letOwnedTupleGo tg (.ref it) u) (fun _ s2=>∃x H',Inv X pins σ H' s2∧RelV x u∧J.yld i H x H'∧tn (i+1) s2.heap∧∀b∈fp,H' b=none) E s1) E s
 done:∀(X:Cx),X.prog=P→X.w=w→X.K=K→X.calm=true→∀(i:Nat) (pins:List (Addr×Obj)) (s:Shared) (σ:St) (H:Hp) (E:Value→Shared→Prop),Inv X pins σ H s→(∀b∈fp,bQ X pins H b)→tn i s.heap→J.stop i H→
  wpAny (model P w) X.A (pyNext (.ref it)) (fun r s1=>r=none∧Inv X pins σ H s1) E s
 self:∀(A:Around) (i:Nat) (s:Shared) (Q:Value→Shared→Prop) (E:Value→Shared→Prop),tn i s.heap→Q (.ref it) s→wpAny (model P w) A (pyIter (.ref it)) Q E s
abbrev TI:=St→Hp→(It→Hp→Prop)→Prop
def lN(X:Cx)(pins:List (Addr×Obj))(σ:St)(tg:Expr)(R:It→Hp→Prop)(itv:Value)(s2:Shared):Prop:=
 ∃(it:Addr) (fp:List Addr) (tn:Nat→Heap→Prop) (J:It) (H':Hp),itv=.ref it∧Inv X pins σ H' s2∧Turn X.prog X.w X.K tg J fp it tn∧tn 0 s2.heap∧(∀b∈fp,bQ X pins H' b)∧R J H'
def PI(X:Cx)(tg iter:Expr)(wi:TI):Prop:=
 ∀ (pins:List (Addr×Obj)) (s:Shared) (σ:St) (H:Hp) (R:It→Hp→Prop),Inv X pins σ H s→wi σ H R→
   wpAny (model X.prog X.w) X.A (eval iter X.env) (fun v s1=>wpAny (model X.prog X.w) X.A (pyIter v) (lN X pins σ tg R) X.xe s1) X.xe s
theorem jp{M:Model}{A:Around}{E:Value→Shared→Prop}{s:Shared}{tg:Expr}{it:Addr}{u:Value}{o:Obj}{n:String}{vs:Array Value}{Q:Unit→Shared→Prop}(ho:s.heap.get? it=some o)(hc:o.cls=.type n)(hd:o.data=.fields vs)(hn:["enumerate","zip","dict_itemiterator","dict_reverseitemiterator","odict_iterator","itertools.zip_longest","itertools.pairwise"].contains n=false)(hQ:Q () s):wpAny M A (letOwnedTupleGo tg (.ref it) u) Q E s:=by
 unfold letOwnedTupleGo
 cases tg <;> first
  | exact wpAny_pure hQ
  | (cases u <;> first
   | exact wpAny_pure hQ
   | (refine wpAny_bind (wpAny_load ho ?_)
      rw[hc,hd]
      show wpAny M A (if(["enumerate","zip","dict_itemiterator","dict_reverseitemiterator","odict_iterator","itertools.zip_longest","itertools.pairwise"].contains n && vs[0]? == some (rawInt _))=true then _ else _) Q E s
      rw[if_neg (by intro h;rw[hn,Bool.false_and] at h;cases h)]
      exact wpAny_pure hQ))
def cm(K:PySem.W.Frag)(a:Addr):It:=
 ⟨fun i H=>∃xs x,SqL K H a xs∧xs[i]?=some x,fun i H x H'=>H'=H∧∀xs,SqL K H a xs→xs[i]?=some x,fun i H=>∃xs,SqL K H a xs∧xs.length≤i⟩
def cK(lo:Int)(n:Nat):It:=⟨fun i _=>i<n,fun i H x H'=>H'=H∧x=.int (lo+i),fun i _=>n≤i⟩
theorem xD{P:Program}{w:World}{K:PySem.W.Frag}{tg:Expr}(a it:Addr):Turn P w K tg (cm K a) [it] it (fun i h=>h.IsListIter it a i) where
 mem:=by simp
 obj:=fun i h st b hb=>by
  have e:b=it:=by simpa using hb
  subst e
  obtain⟨o,e,c,d⟩:=st
  exact⟨o,e,fun v z=>by rw[d] at z;cases z⟩
 keep:=fun i h h' st k=>st.at fun o e=>k it (by simp) o e
 item:=by
  intro X hP hw hK hc i pins s σ H E I hf st hg
  subst hP hw hK
  obtain⟨xs,x,hq,hx⟩:=hg
  obtain⟨its,rv,p,hz⟩:=I.list hq
  obtain⟨u,hu,ru⟩:=rv.get hx
  obtain⟨f0,f1,f2,f3,f4,f5⟩:=hf it (by simp)
  refine wpAny_pyNext_list_item st p.isList (x:=u) (by simpa using hu) fun h' st' sb=>?_
  have I1:Inv X pins σ H {s with heap:=h'}:=I.turned (t':=s.toks) (fun b o hb e=>(sb.2 b hb).trans e) f0 f1 f3 f4 f5
  obtain⟨o,e,c,d⟩:=id st'
  exact⟨u,rfl,jp (s:={s with heap:=h'}) e c d (by decide) ⟨x,H,I1,ru,⟨rfl,fun ys hy=>by rw[I.list_inj hy hq];exact hx⟩,st',fun b hb=>(hf b hb).1⟩⟩
 done:=by
  intro X hP hw hK hc i pins s σ H E I hf st hg
  subst hP hw hK
  obtain⟨xs,hq,hx⟩:=hg
  obtain⟨its,rv,p,hz⟩:=I.list hq
  obtain⟨f0,f1,f2,f3,f4,f5⟩:=hf it (by simp)
  have hl:=rv.length
  exact wpAny_pyNext_list_end (I.ok.hd hc) st p.isList (by simp;lia) fun h' eb=>⟨rfl,I.turned (t':=s.toks) (fun b o hb e=>eb b o hb e) f0 f1 f3 f4 f5⟩
 self:=fun _ _ _ _ _ st h=>wpAny_pyIter_listiter st h
theorem qI{P:Program}{w:World}{K:PySem.W.Frag}{tg:Expr}(it:Addr)(lo:Int)(n:Nat):Turn P w K tg (cK lo n) [it] it (fun i h=>IsRangeIter h it (lo+(i:Nat)*1) ((n:Int)-(i:Nat)) 1) where
 mem:=by simp
 obj:=fun i h st b hb=>by
  have e:b=it:=by simpa using hb
  subst e
  exact⟨_,st,fun v z=>by
   have z':Data.fields _=Data.cell v:=z
   cases z'⟩
 keep:=fun i h h' st k=>k it (by simp) _ st
 item:=by
  intro X hP hw hK hc i pins s σ H E I hf st hg
  subst hP hw hK
  obtain⟨f0,f1,f2,f3,f4,f5⟩:=hf it (by simp)
  have W:=Walks.range (prog:=X.prog) (w:=X.w) (I.ok.hd hc) it lo 1 n
  refine W.item i s _ _ hg st fun v h' tk hv st' kk=>?_
  obtain⟨t,rfl⟩:=hv
  have I1:Inv X pins σ H {s with heap:=h',toks:=tk}:=I.turned (fun b o hb e=>kk b o (by simpa using hb) e) f0 f1 f3 f4 f5
  refine⟨_,rfl,jp (s:={s with heap:=h',toks:=tk}) (n:="range_iterator") st' rfl rfl (by decide) ⟨.int (lo+i),H,I1,⟨t,?_⟩,⟨rfl,rfl⟩,st',fun b hb=>(hf b hb).1⟩⟩
  rw[Int.mul_one]
 done:=by
  intro X hP hw hK hc i pins s σ H E I hf st hg
  subst hP hw hK
  obtain⟨f0,f1,f2,f3,f4,f5⟩:=hf it (by simp)
  exact wpAny_pyNext_range_end (I.ok.hd hc) st (by have:n≤i:=hg;lia) fun h' eb=>⟨rfl,I.turned (t':=s.toks) (fun b o hb e=>eb b o hb e) f0 f1 f3 f4 f5⟩
 self:=fun _ _ _ _ _ st h=>wpAny_pyIter_rangeiter st h
section
variable{X:Cx}{tg:Expr}
def ng(K:PySem.W.Frag)(tl:TE):TI:=fun σ H R=>tl σ H fun x H1=>∃a,x=.ref a∧(∃xs,SqL K H1 a xs)∧R (cm K a) H1
theorem bK{l:Expr}{tl:TE}(hl:PE X l tl):PI X tg l (ng X.K tl):=by
 intro pins s σ H R I h
 refine ap (hl pins s σ H _ I h) fun v s1 ⟨x,H1,I1,r1,q1⟩=>?_
 obtain⟨a,e,⟨xs,hq⟩,q⟩:=q1
 subst e
 cases r1
 obtain⟨its,rv,p,hz⟩:=I1.list hq
 refine wpAny_pyIter_list p.isList ?_
 refine⟨s1.heap.objs.size,[s1.heap.objs.size],_,_,H1,rfl,I1.kept (t':=s1.toks) fun b o e=>Heap.get?_push_of_some _ e,xD a _,⟨_,Heap.get?_push_size _ rfl,rfl,rfl⟩,fun b hb=>?_,q⟩
 have e:b=s1.heap.objs.size:=by simpa using hb
 subst e
 exact I1.fpOk (Nat.le_refl _) (I1.hok.fresh (Nat.le_refl _))
theorem n8{pins:List (Addr×Obj)}{σ:St}{H:Hp}{s:Shared}{R:It→Hp→Prop}{E:Value→Shared→Prop}{lo hi:Int}{t u v:Tok}{tk:Nat}(I:Inv X pins σ H s)(h1: -(2 ^ 62)≤lo)(h2:lo<2 ^ 62)(h3: -(2 ^ 62)≤hi)(h4:hi<2 ^ 62)(q:R (cK lo (hi-lo).toNat) H):wpAny (model X.prog X.w) X.A (pyIter (.ref s.heap.objs.size)) (lN X pins σ tg R) E {s with heap:=s.heap.push {cls:=.type "range",data:=.fields #[.int lo t,.int hi u,.int 1 v]},toks:=tk}:=by
 refine wpAny_pyIter_range (IsRange.new ..) (small_one h1 h2 h3 h4) ?_
 have I1:Inv X pins σ H {s with heap:=s.heap.push {cls:=.type "range",data:=.fields #[.int lo t,.int hi u,.int 1 v]},toks:=tk}:=I.kept fun b o e=>Heap.get?_push_of_some _ e
 refine⟨(s.heap.push {cls:=.type "range",data:=.fields #[.int lo t,.int hi u,.int 1 v]}).objs.size,[(s.heap.push {cls:=.type "range",data:=.fields #[.int lo t,.int hi u,.int 1 v]}).objs.size],_,_,H,rfl,
  I1.kept (t':=tk) fun b o e=>Heap.get?_push_of_some _ e,qI _ lo (hi-lo).toNat,?_,fun b hb=>?_,q⟩
 ·have e1:lo+((0:Nat):Int)*1=lo:=by simp
  have e2:(((hi-lo).toNat:Nat):Int)-((0:Nat):Int)=Builtin.Range.rangeSize lo hi 1:=by rw[rangeSize_one];split <;> lia
  show IsRangeIter _ _ (lo+((0:Nat):Int)*1) ((((hi-lo).toNat:Nat):Int)-((0:Nat):Int)) 1
  rw[e1,e2]
  exact Heap.get?_push_size _ rfl
 ·have e:b=(s.heap.push {cls:=.type "range",data:=.fields #[.int lo t,.int hi u,.int 1 v]}).objs.size:=by simpa using hb
  subst e
  exact I1.fpOk (Nat.le_refl _) (I1.hok.fresh (Nat.le_refl _))
def sY(ta:TA):TI:=fun σ H R=>ta σ H fun vs H1=>∃j:Int,vs=[.int j]∧ -(2 ^ 62)≤j∧j<2 ^ 62∧R (cK 0 j.toNat) H1
def wj(ta:TA):TI:=fun σ H R=>ta σ H fun vs H1=>∃i j:Int,vs=[.int i,.int j]∧(-(2 ^ 62)≤i∧i<2 ^ 62∧ -(2 ^ 62)≤j∧j<2 ^ 62)∧R (cK i (j-i).toNat) H1
theorem dq{a:Expr}{ta:TA}{p pos:Pos}(hg:Gl X "range")(hm:X.mg "range"=none)(ha:PA X [a] ta)(hs:starEach [a] X.env=[(false,eval a X.env)]:=by rfl):PI X tg (.Call (.Name "range" p) [a] [] pos) (sY ta):=by
 intro pins s σ H R I h
 refine Call_ (cW I hg hm boot_range (PyProof.Rows.callWith_type1 (ap (ha pos pins s σ H _ I h) fun us s1 ⟨vs,H1,I1,r1,q1⟩=>?_) hs rfl))
 obtain⟨j,e,q1,q2,q⟩:=q1
 subst e
 cases r1 with
 | cons r rr=>
   cases rr
   obtain⟨t,rfl⟩:=r
   exact call_range_1 (n8 I1 (by lia) (by lia) q1 q2 (by simpa using q))
theorem gQ{a b:Expr}{ta:TA}{p pos:Pos}(hg:Gl X "range")(hm:X.mg "range"=none)(ha:PA X [a,b] ta)(hs:starEach [a,b] X.env=[(false,eval a X.env),(false,eval b X.env)]:=by rfl)(hs2:starEach [b] X.env=[(false,eval b X.env)]:=by rfl):
 PI X tg (.Call (.Name "range" p) [a,b] [] pos) (wj ta):=by
 intro pins s σ H R I h
 refine Call_ (cW I hg hm boot_range (PyProof.Rows.callWith_type1 (ap (ha pos pins s σ H _ I h) fun us s1 ⟨vs,H1,I1,r1,q1⟩=>?_) (by rw[hs,hs2]) (by rw[hs2];rfl)))
 obtain⟨i,j,e,⟨q1,q2,q3,q4⟩,q⟩:=q1
 subst e
 cases r1 with
 | cons r rr=>
   cases rr with
   | cons r' rr=>
     cases rr
     obtain⟨t,rfl⟩:=r
     obtain⟨t',rfl⟩:=r'
     exact call_range_2 (n8 I1 q1 q2 q3 q4 q)
def m4(wi:TI)(g:TG)(tb:TS):TS:=fun D σ H=>wi σ H fun J H1=>∃W:Nat→Nat→St→Hp→Prop,(∃m,W 0 m σ H1)∧∀i m σ H,W i m σ H→
 (J.stop i H∧D.nx σ H)∨(J.go i H∧∃N:St→Hp→Prop,(∀σ' H',N σ' H'→∃m',m'<m∧W (i+1) m' σ' H')∧∀x H',J.yld i H x H'→g x σ H' fun σ2 H2=>tb {D with nx:=N,ct:=N,bk:=D.nx} σ2 H2)
def fq(fp:List Addr)(h:Heap):List (Addr×Obj):=fp.filterMap fun b=>(h.get? b).map fun o=>(b,o)
theorem eT{fp:List Addr}{h:Heap}{b:Addr}{o:Obj}(hb:b∈fp)(e:h.get? b=some o):(b,o)∈fq fp h:=List.mem_filterMap.mpr ⟨b,hb,by rw[e];rfl⟩
theorem qD{fp:List Addr}{h:Heap}{p:Addr×Obj}(hp:p∈fq fp h):p.1∈fp∧h.get? p.1=some p.2:=by
 obtain⟨b,hb,e⟩:=List.mem_filterMap.mp hp
 cases q:h.get? b with
 | none=>rw[q] at e;cases e
 | some o=>
   rw[q] at e
   have e':(b,o)=p:=Option.some.inj e
   subst e'
   exact⟨hb,q⟩
theorem Inv.pinned{pins:List (Addr×Obj)}{σ:St}{H:Hp}{s:Shared}{fp:List Addr}(I:Inv X pins σ H s)(hf:∀b∈fp,bQ X pins H b)(ho:∀b∈fp,∃o,s.heap.get? b=some o∧∀v,o.data≠ .cell v):Inv X (pins++fq fp s.heap) σ H s:=
 I.pins_of fun p hp=>(List.mem_append.mp hp).elim (fun z=>I.pin p (List.mem_append_right _ z)) fun z=>by
  obtain⟨hb,e⟩:=qD z
  obtain⟨f0,f1,f2,_⟩:=hf p.1 hb
  obtain⟨o,e',d⟩:=ho p.1 hb
  rw[e] at e';cases e'
  exact⟨e,f0,f1,f2,d⟩
theorem Inv.unpinned{pins pl:List (Addr×Obj)}{σ:St}{H:Hp}{s:Shared}(I:Inv X (pins++pl) σ H s):Inv X pins σ H s:=I.pins_of fun p hp=>I.pin p (List.mem_append_right _ (List.mem_append_left _ hp))
theorem cT{iter:Expr}{body:List Stmt}{wi:TI}{g:TG}{tb:TS}{pos:Pos}(hp:PassesOwn (model X.prog X.w) X.A X.env X.xe)(hc:X.calm=true)(hi:PI X tg iter wi)(hg:PG X tg g)(hb:PSs X body tb)(hs:∀x,foldedSetIterable iter X.env x=pure x:=by intro _;rfl):PS X (.For tg iter body [] pos) (m4 wi g tb):=by
 intro pins s σ H D I h
 refine wpAny_For (ap (hi pins s σ H _ I h) fun v s1 h1=>ap h1 fun itv s2 h2=>?_) hs
 obtain⟨it,fp,tn,J,H2,e,I2,T,st2,f2,W,⟨m0,w0⟩,turn⟩:=h2
 subst e
 have stat:∀{H':Hp},(∀b∈fp,H' b=none)→∀b∈fp,bQ X pins H' b:=fun hn b hb=>⟨hn b hb,(f2 b hb).2⟩
 refine codeAny_forLoop_any (fun n s'=>∃i σ' H',Inv X pins σ' H' s'∧tn i s'.heap∧(∀b∈fp,H' b=none)∧W i n σ' H') ?_ m0 ⟨0,σ,H2,I2,st2,fun b hb=>(f2 b hb).1,w0⟩
 rintro n s3 ⟨i,σ3,H3,I3,st3,fr3,w3⟩
 rcases turn i n σ3 H3 w3 with⟨stop,qn⟩ | ⟨go,N,hN,step⟩
 ·refine wpAny_passesOwn hp (ap (T.done X rfl rfl rfl hc i pins s3 σ3 H3 X.xe I3 (stat fr3) st3 stop) fun r s4 ⟨hr,I4⟩=>?_)
  subst hr
  exact wpAny_execs_nil ⟨σ3,H3,I4,qn⟩
 ·refine wpAny_passesOwn hp (ap (T.item X rfl rfl rfl hc i pins s3 σ3 H3 X.xe I3 (stat fr3) st3 go) fun r s4 ⟨u,hr,h4⟩=>?_)
  subst hr
  refine wpAny_passesOwn hp (ap h4 fun _ s5 ⟨x,H5,I5,r5,y5,st5,fr5⟩=>?_)
  have I5':=I5.pinned (stat fr5) (T.obj _ _ st5)
  refine wpAny_passesOwn hp (ap (hg _ s5 σ3 H5 x u _ I5' r5 (step x H5 y5)) fun _ s6 ⟨σ6,H6,I6,q6⟩=>?_)
  refine wpAny_passesOwn hp (ap (hb _ s6 σ6 H6 _ I6 q6) fun f s7 q7=>?_)
  have again:∀{σ7:St} {H7:Hp},Inv X (pins++fq fp s5.heap) σ7 H7 s7→N σ7 H7→∃m,m<n∧∃i σ' H',Inv X pins σ' H' s7∧tn i s7.heap∧(∀b∈fp,H' b=none)∧W i m σ' H':=fun{σ7 H7} I7 n7=>by
   obtain⟨m',hm,w7⟩:=hN σ7 H7 n7
   refine⟨m',hm,i+1,σ7,H7,I7.unpinned,T.keep _ _ _ st5 fun b hb o e=>(I7.pin (b,o) (List.mem_append_right _ (List.mem_append_right _ (eT hb e)))).1,fun b hb=>?_,w7⟩
   obtain⟨o,e,d⟩:=T.obj _ _ st5 b hb
   exact(I7.pin (b,o) (List.mem_append_right _ (List.mem_append_right _ (eT hb e)))).2.1
  cases f with
  | next=>obtain⟨σ7,H7,I7,n7⟩:=q7;exact again I7 n7
  | cont=>obtain⟨σ7,H7,I7,n7⟩:=q7;exact again I7 n7
  | brk=>obtain⟨σ7,H7,I7,q7⟩:=q7;exact⟨σ7,H7,I7.unpinned,q7⟩
  | ret v=>obtain⟨x7,σ7,H7,I7,r7,q7⟩:=q7;exact⟨x7,σ7,H7,I7.unpinned,r7,q7⟩
end
theorem ie{K:PySem.W.Frag}{a:Addr}{xs:List V}{g:TG}{tb:TS}{D:Ends}{σ:St}{H:Hp}(Pv:Nat→St→Hp→Prop)(h0:Pv 0 σ H)(hl:∀i σ H,i≤xs.length→Pv i σ H→SqL K H a xs)(hs:∀i x σ H,xs[i]?=some x→Pv i σ H→g x σ H fun σ2 H2=>tb {D with nx:=Pv (i+1),ct:=Pv (i+1),bk:=D.nx} σ2 H2)(hd:∀σ H,Pv xs.length σ H→D.nx σ H):
 ∃ W:Nat→Nat→St→Hp→Prop,(∃m,W 0 m σ H)∧∀i m σ H,W i m σ H→
   ((cm K a).stop i H∧D.nx σ H)∨((cm K a).go i H∧∃N:St→Hp→Prop,(∀σ' H',N σ' H'→∃m',m'<m∧W (i+1) m' σ' H')∧∀x H',(cm K a).yld i H x H'→g x σ H' fun σ2 H2=>tb {D with nx:=N,ct:=N,bk:=D.nx} σ2 H2):=by
 refine⟨fun i m σ H=>m=xs.length-i∧i≤xs.length∧Pv i σ H,⟨xs.length,by simp,Nat.zero_le _,h0⟩,?_⟩
 rintro i m σ H ⟨rfl,hi,p⟩
 have q:=hl i σ H hi p
 by_cases hlt:i<xs.length
 ·refine .inr ⟨⟨xs,xs[i],q,by simp[hlt]⟩,Pv (i+1),fun σ' H' p'=>⟨xs.length-(i+1),by lia,rfl,hlt,p'⟩,fun x H' y=>?_⟩
  obtain⟨e,y⟩:=y
  subst e
  exact hs i x σ _ (y xs q) p
 ·have e:i=xs.length:=by lia
  subst e
  exact .inl ⟨⟨xs,q,Nat.le_refl _⟩,hd σ H p⟩
theorem gJ{lo:Int}{n:Nat}{g:TG}{tb:TS}{D:Ends}{σ:St}{H:Hp}(Pv:Nat→St→Hp→Prop)(h0:Pv 0 σ H)(hs:∀i σ H,i<n→Pv i σ H→g (.int (lo+i)) σ H fun σ2 H2=>tb {D with nx:=Pv (i+1),ct:=Pv (i+1),bk:=D.nx} σ2 H2)(hd:∀σ H,Pv n σ H→D.nx σ H):
 ∃ W:Nat→Nat→St→Hp→Prop,(∃m,W 0 m σ H)∧∀i m σ H,W i m σ H→
   ((cK lo n).stop i H∧D.nx σ H)∨((cK lo n).go i H∧∃N:St→Hp→Prop,(∀σ' H',N σ' H'→∃m',m'<m∧W (i+1) m' σ' H')∧∀x H',(cK lo n).yld i H x H'→g x σ H' fun σ2 H2=>tb {D with nx:=N,ct:=N,bk:=D.nx} σ2 H2):=by
 refine⟨fun i m σ H=>m=n-i∧i≤n∧Pv i σ H,⟨n,by simp,Nat.zero_le _,h0⟩,?_⟩
 rintro i m σ H ⟨rfl,hi,p⟩
 by_cases hlt:i<n
 ·refine .inr ⟨hlt,Pv (i+1),fun σ' H' p'=>⟨n-(i+1),by lia,rfl,hlt,p'⟩,fun x H' y=>?_⟩
  obtain⟨e,y⟩:=y
  subst e y
  exact hs i σ _ hlt p
 ·have e:i=n:=by lia
  subst e
  exact .inl ⟨Nat.le_refl _,hd σ H p⟩
theorem su{c:TT}{tb:TS}{D:Ends}{σ:St}{H:Hp}(Pv:St→Hp→Prop)(μ:St→Hp→Nat)(h0:Pv σ H)(hs:∀σ H,Pv σ H→c σ H fun b H1=>if b=true then tb {D with nx:=fun σ' H'=>Pv σ' H'∧μ σ' H'<μ σ H,ct:=fun σ' H'=>Pv σ' H'∧μ σ' H'<μ σ H,bk:=D.nx} σ H1 else D.nx σ H1)
 (mono:∀σ H Q Q',(∀b H1,Q b H1→Q' b H1)→c σ H Q→c σ H Q'):nS c tb D σ H:=by
 refine⟨fun m σ H=>m=μ σ H∧Pv σ H,⟨_,rfl,h0⟩,?_⟩
 rintro m σ H ⟨rfl,p⟩
 refine mono σ H _ _ (fun b H1 q=>?_) (hs σ H p)
 cases b with
 | true=>exact⟨_,fun σ' H' ⟨p',l⟩=>⟨_,l,rfl,p'⟩,q⟩
 | false=>exact q
abbrev R2:=V→V→Hp→VK→Prop
def OpR(X:Cx)(f:Value→Value→Sem Value)(r:R2):Prop:=
 ∀ (pins:List (Addr×Obj)) (s:Shared) (σ:St) (H:Hp) (x y:V) (v u:Value) (Q:VK),Inv X pins σ H s→RelV x v→RelV y u→r x y H Q→
   wpAny (model X.prog X.w) X.A (f v u) (EP X pins σ Q) X.xe s
def jc(X:Cx)(f:Value→Sem Value)(r:V→Hp→VK→Prop):Prop:=
 ∀ (pins:List (Addr×Obj)) (s:Shared) (σ:St) (H:Hp) (x:V) (v:Value) (Q:VK),Inv X pins σ H s→RelV x v→r x H Q→
   wpAny (model X.prog X.w) X.A (f v) (EP X pins σ Q) X.xe s
def cB(X:Cx)(f:Value)(r:List V→Hp→VK→Prop):Prop:=
 ∀ (pins:List (Addr×Obj)) (s:Shared) (σ:St) (H:Hp) (xs:List V) (us:List Value) (Q:VK),Inv X pins σ H s→Vals xs us→r xs H Q→
   wpAny (model X.prog X.w) X.A (call f us) (EP X pins σ Q) X.xe s
def yr(X:Cx)(r:V→Hp→(Bool→Hp→Prop)→Prop):Prop:=
 ∀ (pins:List (Addr×Obj)) (s:Shared) (σ:St) (H:Hp) (x:V) (v:Value) (Q:Bool→Hp→Prop),Inv X pins σ H s→RelV x v→r x H Q→
   wpAny (model X.prog X.w) X.A (truthy v) (TP X pins σ Q) X.xe s
def cf(r:R2)(ta tb:TE):TE:=fun σ H Q=>ta σ H fun x H1=>tb σ H1 fun y H2=>r x y H2 Q
def wq(r:V→Hp→VK→Prop)(ta:TE):TE:=fun σ H Q=>ta σ H fun x H1=>r x H1 Q
def rI(C:Int→Int→Prop)(g:Int→Int→V):R2:=fun x y H Q=>∃i j,x=.int i∧y=.int j∧C i j∧Q (g i j) H
def dc(g:Int→Int→V):R2:=fun x y H Q=>∃i j,x=.int i∧y=.int j∧Q (g i j) H
def rU(g:Int→V):V→Hp→VK→Prop:=fun x H Q=>∃i,x=.int i∧Q (g i) H
section
variable{X:Cx}{a b c:Expr}{ta tb tc:TE}{pos:Pos}
theorem jD(ha:PE X a ta)(hb:PE X b tb){pins:List (Addr×Obj)}{s:Shared}{σ:St}{H:Hp}{R:V→V→Hp→Prop}(I:Inv X pins σ H s)(h:ta σ H fun x H1=>tb σ H1 fun y H2=>R x y H2){Q:Value→Shared→Prop}{f:Value→Value→Sem Value}
 (hf:∀v u s2 x y H2,Inv X pins σ H2 s2→RelV x v→RelV y u→R x y H2→wpAny (model X.prog X.w) X.A (f v u) Q X.xe s2):
 wpAny (model X.prog X.w) X.A (eval a X.env) (fun v s₁=>wpAny (model X.prog X.w) X.A (eval b X.env) (fun u s₂=>wpAny (model X.prog X.w) X.A (f v u) Q X.xe s₂) X.xe s₁) X.xe s:=by
 refine ap (ha pins s σ H _ I h) fun v s1 ⟨x,H1,I1,r1,q1⟩=>?_
 refine ap (hb pins s1 σ H1 _ I1 q1) fun u s2 ⟨y,H2,I2,r2,q2⟩=>?_
 exact hf v u s2 x y H2 I2 r1 r2 q2
theorem ak{op:Operator}{r:R2}(ho:OpR X (binaryOp op) r)(ha:PE X a ta)(hb:PE X b tb):PE X (.BinOp a op b pos) (cf r ta tb):=by
 intro pins s σ H Q I h
 exact wpAny_BinOp (jD ha hb I h fun v u s2 x y H2 I2 rx ry q=>ho pins s2 σ H2 x y v u Q I2 rx ry q)
theorem nX{op:UnaryOp}{r:V→Hp→VK→Prop}(ho:jc X (unaryOp op) r)(ha:PE X a ta):PE X (.UnaryOp op a pos) (wq r ta):=by
 intro pins s σ H Q I h
 exact UnaryOp_ (ap (ha pins s σ H _ I h) fun v s1 ⟨x,H1,I1,r1,q1⟩=>ho pins s1 σ H1 x v Q I1 r1 q1)
theorem gA{f:Value→Value→Sem Value}{C:Int→Int→Prop}{g:Int→Int→Int}(rule:∀(i j:Int) (t u:Tok) (s:Shared) (Q:Value→Shared→Prop) (E:Value→Shared→Prop),C i j→Q (.int (g i j) s.toks) {s with toks:=s.toks+1}→wpAny (model X.prog X.w) X.A (f (.int i t) (.int j u)) Q E s):OpR X f (rI C fun i j=>.int (g i j)):=by
 intro pins s σ H x y v u Q I rx ry h
 obtain⟨i,j,rfl,rfl,hc,q⟩:=h
 obtain⟨t,rfl⟩:=rx
 obtain⟨t',rfl⟩:=ry
 exact rule i j t t' s _ _ hc ⟨.int (g i j),H,I.tok _,⟨_,rfl⟩,q⟩
theorem qk{f:Value→Value→Sem Value}{g:Int→Int→Int}(rule:∀(i j:Int) (t u:Tok) (s:Shared) (Q:Value→Shared→Prop) (E:Value→Shared→Prop),Q (.int (g i j) s.toks) {s with toks:=s.toks+1}→wpAny (model X.prog X.w) X.A (f (.int i t) (.int j u)) Q E s):OpR X f (dc fun i j=>.int (g i j)):=by
 intro pins s σ H x y v u Q I rx ry h
 obtain⟨i,j,rfl,rfl,q⟩:=h
 obtain⟨t,rfl⟩:=rx
 obtain⟨t',rfl⟩:=ry
 exact rule i j t t' s _ _ ⟨.int (g i j),H,I.tok _,⟨_,rfl⟩,q⟩
theorem ib{f:Value→Value→Sem Value}{g:Int→Int→Bool}(rule:∀(i j:Int) (t u:Tok) (s:Shared) (Q:Value→Shared→Prop) (E:Value→Shared→Prop),Q (.bool (g i j)) s→wpAny (model X.prog X.w) X.A (f (.int i t) (.int j u)) Q E s):OpR X f (dc fun i j=>.bl (g i j)):=by
 intro pins s σ H x y v u Q I rx ry h
 obtain⟨i,j,rfl,rfl,q⟩:=h
 obtain⟨t,rfl⟩:=rx
 obtain⟨t',rfl⟩:=ry
 exact rule i j t t' s _ _ ⟨.bl (g i j),H,I,rfl,q⟩
def wA(i j:Int):Prop:=0≤j∧j≤1000000∧i.natAbs<2 ^ 64
def CMul(i j:Int):Prop:=(-(2 ^ 64)<i∧i<2 ^ 64)∨(-(2 ^ 64)<j∧j<2 ^ 64)
theorem CMul.ok{i j:Int}(h:CMul i j):IntMulOk i j:=by
 rcases h with⟨h1,h2⟩ | ⟨h1,h2⟩
 ·exact .of_left (intBits_le_64 h1 h2)
 ·exact .of_right (intBits_le_64 h1 h2)
theorem aW:OpR X (binaryOp .Add) (dc fun i j=>.int (i+j)):=qk fun _ _ _ _ _ _ _ q=>add_int q
theorem a7:OpR X (binaryOp .Sub) (dc fun i j=>.int (i-j)):=qk fun _ _ _ _ _ _ _ q=>sub_int q
theorem dJ:OpR X (binaryOp .Mult) (rI CMul fun i j=>.int (i*j)):=gA fun _ _ _ _ _ _ _ hc q=>mul_int q hc.ok
theorem dh:OpR X (binaryOp .Mod) (rI (fun _ j=>0<j) fun i j=>.int (i % j)):=gA fun i j _ _ _ _ _ hc q=>by
 have h1:(0:Int)<j:=hc
 exact mod_int' (by lia) (by rw[Int.fmod_eq_emod_of_nonneg i (by lia)];exact q)
theorem zB:OpR X (binaryOp .Pow) (rI wA fun i j=>.int (i ^ j.toNat)):=gA fun _ _ _ _ _ _ _ hc q=>pow_int_small hc.1 hc.2.1 hc.2.2 q
theorem xb{f:Value→Sem Value}{g:Int→Int}(rule:∀(i:Int) (t:Tok) (s:Shared) (Q:Value→Shared→Prop) (E:Value→Shared→Prop),Q (.int (g i) s.toks) {s with toks:=s.toks+1}→wpAny (model X.prog X.w) X.A (f (.int i t)) Q E s):jc X f (rU fun i=>.int (g i)):=by
 intro pins s σ H x v Q I rx h
 obtain⟨i,rfl,q⟩:=h
 obtain⟨t,rfl⟩:=rx
 exact rule i t s _ _ ⟨.int (g i),H,I.tok _,⟨_,rfl⟩,q⟩
theorem lM:jc X (unaryOp .USub) (rU fun i=>.int (-i)):=xb fun _ _ _ _ _ q=>neg_int q
end
def mU:V→V→Bool
 | .non,.non=>true | .non,.int _=>true | .int _,.non=>true | .non,.bl _=>true | .bl _,.non=>true | .non,.str _=>true | .str _,.non=>true
 | .int _,.int _=>true | .bl _,.bl _=>true | .str _,.str _=>true | .byt _,.byt _=>true
 | .int _,.str _=>true | .str _,.int _=>true | .bl _,.str _=>true | .str _,.bl _=>true
 | _,_=>false
def qy:R2:=fun x y H Q=>mU x y=true∧Q (.bl (decide (x=y))) H
def oP:R2:=fun x y H Q=>mU x y=true∧Q (.bl (!decide (x=y))) H
theorem oB{i j:Int}:decide (V.int i=V.int j)=(i == j):=by
 rw[Bool.eq_iff_iff]
 simp
theorem mQ{i j:Bool}:decide (V.bl i=V.bl j)=(i == j):=by
 rw[Bool.eq_iff_iff]
 simp
theorem l6{i j:Str}:decide (V.str i=V.str j)=(i == j):=by
 rw[Bool.eq_iff_iff]
 simp
theorem mf{i j:Array UInt8}:decide (V.byt i=V.byt j)=(i.toList == j.toList):=by
 rw[Bool.eq_iff_iff]
 cases i
 cases j
 simp
section
variable{X:Cx}{a b c:Expr}{ta tb tc:TE}{pos:Pos}
theorem a8{pins:List (Addr×Obj)}{σ:St}{H:Hp}{s:Shared}{Q:VK}{k k':Bool}(I:Inv X pins σ H s)(q:Q (.bl k) H)(e:k=k'):EP X pins σ Q (.bool k') s:=by
 subst e
 exact⟨.bl k,H,I,rfl,q⟩
theorem bR:OpR X (compareOp .Eq) qy:=by
 intro pins s σ H x y v u Q I rx ry h
 obtain⟨hs,q⟩:=h
 cases x with
 | non=>
   cases rx
   cases y with
   | non=>cases ry;exact PySem.EqNone.eq_none_none (a8 I q (by simp))
   | bl j=>cases ry;exact PySem.EqNone.eq_none_bool (a8 I q (by simp))
   | int j=>obtain⟨t',rfl⟩:=ry;exact PySem.EqNone.eq_none_int (a8 I q (by simp))
   | str j=>obtain⟨t',rfl⟩:=ry;exact PySem.EqNone.eq_none_str (a8 I q (by simp))
   | _=>exact absurd (show false=true from hs) Bool.false_ne_true
 | bl i=>
   cases rx
   cases y with
   | non=>cases ry;exact PySem.EqNone.eq_bool_none (a8 I q (by simp))
   | bl j=>cases ry;exact eq_bool (a8 I q mQ)
   | str j=>obtain⟨t',rfl⟩:=ry;exact PySem.EqMixed.eq_bool_str (a8 I q (by simp))
   | _=>exact absurd (show false=true from hs) Bool.false_ne_true
 | int i=>
   obtain⟨t,rfl⟩:=rx
   cases y with
   | non=>cases ry;exact PySem.EqNone.eq_int_none (a8 I q (by simp))
   | int j=>obtain⟨t',rfl⟩:=ry;exact eq_int (a8 I q oB)
   | str j=>obtain⟨t',rfl⟩:=ry;exact PySem.EqMixed.eq_int_str (a8 I q (by simp))
   | _=>exact absurd (show false=true from hs) Bool.false_ne_true
 | str i=>
   obtain⟨t,rfl⟩:=rx
   cases y with
   | non=>cases ry;exact PySem.EqNone.eq_str_none (a8 I q (by simp))
   | bl j=>cases ry;exact PySem.EqMixed.eq_str_bool (a8 I q (by simp))
   | int j=>obtain⟨t',rfl⟩:=ry;exact PySem.EqMixed.eq_str_int (a8 I q (by simp))
   | str j=>obtain⟨t',rfl⟩:=ry;exact eq_str (a8 I q l6)
   | _=>exact absurd (show false=true from hs) Bool.false_ne_true
 | byt i=>
   obtain⟨t,rfl⟩:=rx
   cases y with
   | byt j=>obtain⟨t',rfl⟩:=ry;exact PySem.W.eq_bytes (a8 I q mf)
   | _=>exact absurd (show false=true from hs) Bool.false_ne_true
 | _=>cases y <;> exact absurd (show false=true from hs) Bool.false_ne_true
theorem i5:OpR X (compareOp .NotEq) oP:=by
 intro pins s σ H x y v u Q I rx ry h
 obtain⟨hs,q⟩:=h
 cases x with
 | non=>
   cases rx
   cases y with
   | non=>cases ry;exact PySem.EqNone.ne_none_none (a8 I q (by simp))
   | bl j=>cases ry;exact PySem.EqNone.ne_none_bool (a8 I q (by simp))
   | int j=>obtain⟨t',rfl⟩:=ry;exact PySem.EqNone.ne_none_int (a8 I q (by simp))
   | str j=>obtain⟨t',rfl⟩:=ry;exact PySem.EqNone.ne_none_str (a8 I q (by simp))
   | _=>exact absurd (show false=true from hs) Bool.false_ne_true
 | bl i=>
   cases rx
   cases y with
   | non=>cases ry;exact PySem.EqNone.ne_bool_none (a8 I q (by simp))
   | bl j=>cases ry;exact ne_bool (a8 I q (congrArg not mQ))
   | str j=>obtain⟨t',rfl⟩:=ry;exact PySem.EqMixed.ne_bool_str (a8 I q (by simp))
   | _=>exact absurd (show false=true from hs) Bool.false_ne_true
 | int i=>
   obtain⟨t,rfl⟩:=rx
   cases y with
   | non=>cases ry;exact PySem.EqNone.ne_int_none (a8 I q (by simp))
   | int j=>obtain⟨t',rfl⟩:=ry;exact ne_int (a8 I q (congrArg not oB))
   | str j=>obtain⟨t',rfl⟩:=ry;exact PySem.EqMixed.ne_int_str (a8 I q (by simp))
   | _=>exact absurd (show false=true from hs) Bool.false_ne_true
 | str i=>
   obtain⟨t,rfl⟩:=rx
   cases y with
   | non=>cases ry;exact PySem.EqNone.ne_str_none (a8 I q (by simp))
   | bl j=>cases ry;exact PySem.EqMixed.ne_str_bool (a8 I q (by simp))
   | int j=>obtain⟨t',rfl⟩:=ry;exact PySem.EqMixed.ne_str_int (a8 I q (by simp))
   | str j=>obtain⟨t',rfl⟩:=ry;exact ne_str (a8 I q (congrArg not l6))
   | _=>exact absurd (show false=true from hs) Bool.false_ne_true
 | byt i=>
   obtain⟨t,rfl⟩:=rx
   cases y with
   | byt j=>obtain⟨t',rfl⟩:=ry;exact PySem.W.ne_bytes (a8 I q (congrArg not mf))
   | _=>exact absurd (show false=true from hs) Bool.false_ne_true
 | _=>cases y <;> exact absurd (show false=true from hs) Bool.false_ne_true
theorem gg:OpR X (compareOp .Lt) (dc fun i j=>.bl (decide (i<j))):=ib fun _ _ _ _ _ _ _ q=>lt_int q
theorem ir:OpR X (compareOp .LtE) (dc fun i j=>.bl (decide (i≤j))):=ib fun _ _ _ _ _ _ _ q=>le_int q
theorem eJ:OpR X (compareOp .Gt) (dc fun i j=>.bl (decide (j<i))):=ib fun _ _ _ _ _ _ _ q=>gt_int q
theorem kP:OpR X (compareOp .GtE) (dc fun i j=>.bl (decide (j≤i))):=ib fun _ _ _ _ _ _ _ q=>ge_int q
theorem zj:OpR X (compareOp .Is) (fun x y H Q=>y=.non∧Q (.bl (decide (x=.non))) H):=by
 intro pins s σ H x y v u Q I rx ry h
 obtain⟨rfl,q⟩:=h
 cases ry
 refine is_none_gen (a8 I q ?_)
 cases x <;> first
  | (cases rx;rfl)
  | (obtain⟨t,rfl⟩:=rx;rfl)
theorem sC:OpR X (compareOp .IsNot) (fun x y H Q=>y=.non∧Q (.bl (!decide (x=.non))) H):=by
 intro pins s σ H x y v u Q I rx ry h
 obtain⟨rfl,q⟩:=h
 cases ry
 refine isnot_none_gen (a8 I q ?_)
 cases x <;> first
  | (cases rx;rfl)
  | (obtain⟨t,rfl⟩:=rx;rfl)
theorem aF(b:Expr){op:CmpOp}(h:op≠ .In:=by decide)(h2:op≠ .NotIn:=by decide):behindInMarks op b=false:=by
 have e1:(op == CmpOp.In)=false:=by cases op <;> first | rfl | exact absurd rfl h
 have e2:(op == CmpOp.NotIn)=false:=by cases op <;> first | rfl | exact absurd rfl h2
 cases b <;> simp[behindInMarks,e1,e2]
theorem dL{op:CmpOp}{r:R2}(ho:OpR X (compareOp op) r)(ha:PE X a ta)(hb:PE X b tb)(hm:behindInMarks op b=false):PE X (.Compare a [op] [b] pos) (cf r ta tb):=by
 intro pins s σ H Q I h
 exact wpAny_Compare1 (jD ha hb I h fun v u s2 x y H2 I2 rx ry q=>ho pins s2 σ H2 x y v u Q I2 rx ry q) hm
def o9(t:TE):TT:=fun σ H Q=>t σ H fun x H'=>∃k,x=.bl k∧Q k H'
theorem aM{op:CmpOp}{r:R2}(ho:OpR X (compareOp op) r)(ha:PE X a ta)(hb:PE X b tb)(hm:behindInMarks op b=false):PT X (.Compare a [op] [b] pos) (o9 (cf r ta tb)):=by
 intro pins s σ H Q I h
 refine wpAny_isTrue_Compare1 (ap (ha pins s σ H _ I h) fun v s1 ⟨x,H1,I1,r1,q1⟩=>ap (hb pins s1 σ H1 _ I1 q1) fun u s2 ⟨y,H2,I2,r2,q2⟩=>
  ap (ho pins s2 σ H2 x y v u _ I2 r1 r2 q2) fun c s3 ⟨z,H3,I3,r3,k,e,q3⟩=>?_) hm
 subst e
 cases r3
 exact wpAny_truthy_bool ⟨H3,I3,q3⟩
def oJ(r r':R2)(ta tb tc:TE):TE:=fun σ H Q=>ta σ H fun x H1=>tb σ H1 fun y H2=>r x y H2 fun z H3=>∃k,z=.bl k∧
 (if k=true then tc σ H3 fun w' H4=>r' y w' H4 Q else Q (.bl false) H3)
theorem wC{op op':CmpOp}{r r':R2}(ho:OpR X (compareOp op) r)(ho':OpR X (compareOp op') r')(ha:PE X a ta)(hb:PE X b tb)(hc:PE X c tc)(hm:lastMarks [op,op'] [b,c]=false:=by with_unfolding_all rfl):PE X (.Compare a [op,op'] [b,c] pos) (oJ r r' ta tb tc):=by
 intro pins s σ H Q I h
 refine Compare_chain (ap (ha pins s σ H _ I h) fun v s1 ⟨x,H1,I1,r1,q1⟩=>chain_link (ap (hb pins s1 σ H1 _ I1 q1) fun u s2 ⟨y,H2,I2,r2,q2⟩=>
  ap (ho pins s2 σ H2 x y v u _ I2 r1 r2 q2) fun d s3 ⟨z,H3,I3,r3,k,e,q3⟩=>?_)) hm
 subst e
 cases r3
 refine wpAny_truthy_bool ?_
 cases k with
 | false=>exact ite_ff ⟨.bl false,H3,I3,rfl,q3⟩
 | true=>exact ite_tt (chain_last (ap (hc pins s3 σ H3 _ I3 q3) fun w' s4 ⟨z',H4,I4,r4,q4⟩=>ho' pins s4 σ H4 y z' u w' Q I4 r2 r4 q4))
theorem u3{op op':CmpOp}{r r':R2}(ho:OpR X (compareOp op) r)(ho':OpR X (compareOp op') r')(ha:PE X a ta)(hb:PE X b tb)(hc:PE X c tc)(hm:lastMarks [op,op'] [b,c]=false:=by with_unfolding_all rfl):PT X (.Compare a [op,op'] [b,c] pos) (o9 (oJ r r' ta tb tc)):=by
 intro pins s σ H Q I h
 refine isTrue_chain (ap (ha pins s σ H _ I h) fun v s1 ⟨x,H1,I1,r1,q1⟩=>test_link (ap (hb pins s1 σ H1 _ I1 q1) fun u s2 ⟨y,H2,I2,r2,q2⟩=>
  ap (ho pins s2 σ H2 x y v u _ I2 r1 r2 q2) fun d s3 ⟨z,H3,I3,r3,k,e,q3⟩=>?_)) hm
 subst e
 cases r3
 refine wpAny_truthy_bool ?_
 cases k with
 | false=>
   obtain⟨k',e',q'⟩:=q3
   cases e'
   exact ite_ff ⟨H3,I3,q'⟩
 | true=>
   refine ite_tt (test_last (ap (hc pins s3 σ H3 _ I3 q3) fun w' s4 ⟨z',H4,I4,r4,q4⟩=>ap (ho' pins s4 σ H4 y z' u w' _ I4 r2 r4 q4) fun d' s5 ⟨z2,H5,I5,r5,k2,e2,q5⟩=>?_))
   subst e2
   cases r5
   exact wpAny_truthy_bool ⟨H5,I5,q5⟩
def pR(K:PySem.W.Frag)(x:V)(H:Hp)(k:Bool):Prop:=
 match x with
 | .non=>k=false
 | .bl b=>k=b
 | .int i=>k=(i != 0)
 | .str y=>y.length≤sizeLine∧k=((y.length:Int) != 0)
 | .byt y=>y.size≤sizeLine∧k=((y.size:Int) != 0)
 | .ref p=>(∃xs,SqL K H p xs∧k= !xs.isEmpty)∨(∃xs,SqT K H p xs∧k= !xs.isEmpty)∨∃kvs,H p=some (.dK kvs)∧k= !kvs.isEmpty
 | _=>False
theorem rO{κ:Type}{kvs:List (κ×V)}{vs:List (κ×Value)}(r:KV kvs vs):(!vs.isEmpty)= !kvs.isEmpty:=by
 cases r <;> rfl
theorem lS{xs:List V}{its:List Value}(r:Vals xs its):(!its.toArray.isEmpty)= !xs.isEmpty:=by
 cases r <;> simp
theorem ez:(sizeLine:Nat)<2 ^ 63:=by rw[sizeLine_eq];decide
theorem yY:yr X (fun x H Q=>∃k,pR X.K x H k∧Q k H):=by
 intro pins s σ H x v Q I rx h
 obtain⟨k,e,q⟩:=h
 have hl:=ez
 have hs:sizeLine=16777216:=sizeLine_eq
 cases x with
 | non=>
   cases rx
   have e':k=false:=e
   subst e'
   exact truthy_none ⟨H,I,q⟩
 | bl b=>
   cases rx
   have e':k=b:=e
   subst e'
   exact wpAny_truthy_bool ⟨H,I,q⟩
 | int i=>
   obtain⟨t,rfl⟩:=rx
   have e':k=(i != 0):=e
   subst e'
   exact PySem.P.truthy_int ⟨H,I,q⟩
 | str y=>
   obtain⟨t,rfl⟩:=rx
   obtain⟨hy,e'⟩:y.length≤sizeLine∧k=((y.length:Int) != 0):=e
   subst e'
   exact PySem.P.truthy_str (by lia) ⟨H,I.tok _,q⟩
 | byt y=>
   obtain⟨t,rfl⟩:=rx
   obtain⟨hy,e'⟩:y.size≤sizeLine∧k=((y.size:Int) != 0):=e
   subst e'
   exact PySem.W.truthy_bytes (by lia) ⟨H,I.tok _,q⟩
 | ref p=>
   cases rx
   have e':(∃xs,SqL X.K H p xs∧k= !xs.isEmpty)∨(∃xs,SqT X.K H p xs∧k= !xs.isEmpty)∨∃kvs,H p=some (.dK kvs)∧k= !kvs.isEmpty:=e
   rcases e' with⟨xs,hx,e'⟩ | ⟨xs,hx,e'⟩ | ⟨kvs,hx,e'⟩
   ·subst e'
    obtain⟨its,r,pl,hz⟩:=I.list hx
    have hlen:=r.length
    exact wpAny_truthy_list pl.isList (by simp only[List.size_toArray];lia) ⟨H,I.tok _,by rw[lS r];exact q⟩
   ·subst e'
    obtain⟨its,r,pl,hz⟩:=I.tuple hx
    have hlen:=r.length
    exact truthy_tuple pl (by simp only[List.size_toArray];lia) ⟨H,I.tok _,by rw[lS r];exact q⟩
   ·subst e'
    obtain⟨hz,hS,vs,r,m⟩:kvs.length≤sizeLine∧(p == sysModules)=false∧∃vs,KV kvs vs∧s.heap.DictOf (bU X.prog X.w) p vs:=I.hok p _ hx
    have hlen:kvs.length=vs.length:=Paired.length r
    exact wpAny_truthy_dict hS m (by lia) ⟨H,I.tok _,by rw[rO r];exact q⟩
 | _=>exact(show False from e).elim
theorem eZ{x:V}{us:List Value}(r:Vals [x] us):∃u,us=[u]∧RelV x u:=by
 cases r with
 | cons r1 r2=>cases r2;exact⟨_,rfl,r1⟩
theorem iZ{x y:V}{us:List Value}(r:Vals [x,y] us):∃u w',us=[u,w']∧RelV x u∧RelV y w':=by
 cases r with
 | cons r1 r2=>
   cases r2 with
   | cons r3 r4=>cases r4;exact⟨_,_,rfl,r1,r3⟩
theorem sJ(hc:X.calm=true):cB X (.builtin "max") (fun xs H Q=>∃i j,xs=[.int i,.int j]∧Q (.int (if j>i then j else i)) H):=by
 intro pins s σ H xs us Q I r h
 obtain⟨i,j,rfl,q⟩:=h
 obtain⟨u,w',rfl,⟨t,rfl⟩,⟨t',rfl⟩⟩:=iZ r
 refine max_two_ints (I.ok.hd hc) fun h' tk k=>⟨_,H,I.kept k,?_,q⟩
 by_cases hj:j>i
 ·rw[if_pos hj,if_pos hj];exact⟨_,rfl⟩
 ·rw[if_neg hj,if_neg hj];exact⟨_,rfl⟩
theorem xM(hc:X.calm=true):cB X (.builtin "min") (fun xs H Q=>∃i j,xs=[.int i,.int j]∧Q (.int (if j<i then j else i)) H):=by
 intro pins s σ H xs us Q I r h
 obtain⟨i,j,rfl,q⟩:=h
 obtain⟨u,w',rfl,⟨t,rfl⟩,⟨t',rfl⟩⟩:=iZ r
 refine min_two_ints (I.ok.hd hc) fun h' tk k=>⟨_,H,I.kept k,?_,q⟩
 by_cases hj:j<i
 ·rw[if_pos hj,if_pos hj];exact⟨_,rfl⟩
 ·rw[if_neg hj,if_neg hj];exact⟨_,rfl⟩
end
structure ObjM(h:Heap)(x dx C:Addr)(mA:Str→Option Value):Prop where
 obj:h.get? x=some (PySem.W.instObj C dx)
 ns:h.Ns1 dx mA
 ne:dx≠x
theorem r8{h:Heap}{dx:Addr}{mA:Str→Option Value}(n:h.Ns1 dx mA):∃od,h.get? dx=some od∧∀name,PySem.W.lookIn name od=some (mA name):=by
 obtain⟨o,es,ep,ho,hd,hk,_,hm⟩:=n
 refine⟨o,ho,fun name=>?_⟩
 have e:=hm name
 unfold nsFind findBy at e
 rw[←Array.find?_toList] at e
 unfold PySem.W.lookIn
 rw[hd]
 dsimp only
 split
 ·rename_i y q
  rw[q] at e
  exact congrArg some e
 ·rename_i q
  rw[q] at e
  have a:es.toList.any (·.refKey)=false:=by
   rw[List.any_eq_false]
   intro y hy
   obtain⟨z,t,hkey⟩:=hk y (Array.mem_toList_iff.mp hy)
   simp[DictEntry.refKey,hkey]
  have a':¬es.toList.any (·.refKey)=true:=by rw[a];exact Bool.false_ne_true
  rw[if_neg a']
  exact congrArg some e
theorem ObjM.look{h:Heap}{x dx C:Addr}{mA:Str→Option Value}(I:ObjM h x dx C mA):∃od,PySem.W.InstAt h x (PySem.W.instObj C dx) C (some od)∧∀name,PySem.W.lookIn name od=some (mA name):=
 let ⟨od,ho,hl⟩:=r8 I.ns
 ⟨od,⟨I.obj,rfl,rfl,ho⟩,hl⟩
section
variable{prog:Program}{w:World}{A:Around}{E:Value→Shared→Prop}{s:Shared}{K:PySem.W.Frag}{x dx C f:Addr}{mA:Str→Option Value}{name:Str}{v:Value}
end
section
variable{P:Program}{w:World}{H H':Hp}{h h':Heap}{a C dx:Addr}{fs fs':List (Str×V)}
theorem xB(hok:HOk P w H h)(e:H a=some (.ins C dx fs)):∃mA,ObjM h a dx C mA∧(∀f,gy (fs.lookup f) (mA f))∧PySem.Within mA (fs.map (·.1))∧fs.length≤1000∧H dx=some (.own a):=by
 obtain⟨d,z,ne,ob,mA,n,r,q⟩:=(show ObjOk P w H h a (.ins C dx fs) from hok a _ e)
 exact⟨mA,⟨ob,n,ne⟩,r,q,z,d⟩
end
structure Cls(K:PySem.W.Frag)(C:Addr):Prop where
 pg:PySem.W.plainGet K C Str.empty=true
 hd:PySem.W.hasDictIn K C=true
 po:PySem.W.plainOver K C=true
 sa:PySem.W.findIn K (.ref C) "__setattr__"=some (some (.builtin "object.__setattr__"))
theorem Cls.get{K:PySem.W.Frag}{C:Addr}(c:Cls K C)(f:Str):PySem.W.plainGet K C f=true:=c.pg
structure Con(K:PySem.W.Frag)(C:Addr)(f:Str)(v:V)(u:Value):Prop where
 at_:PySem.W.findIn K (.ref C) f=some (some u)
 rel:RelV v u
 get:PySem.W.specialIn K u "__get__"=some none
 cp:PySem.W.copiedNames.contains f=false
structure Meth(K:PySem.W.Frag)(C:Addr)(m:Str)(f:Addr):Prop where
 at_:PySem.W.findIn K (.ref C) m=some (some (.ref f))
 fn:PySem.W.isFn K (.ref f)=true
 kp:PySem.W.keepIn K (.ref f)=true
section
variable{X:Cx}{pins:List (Addr×Obj)}{σ:St}{H:Hp}{s:Shared}{a C dx:Addr}{fs:List (Str×V)}{f:Str}{v:V}{A:Around}{E:Value→Shared→Prop}
end
section
variable{X:Cx}{o e value:Expr}{f:Str}{pos pos' tpos:Pos}{ta tv:TE}
end
section
variable{X:Cx}{pins:List (Addr×Obj)}{σ:St}{H:Hp}{s:Shared}{A:Around}{E:Value→Shared→Prop}{Q:Value→Shared→Prop}{c:Value}{b:Bool}
inductive TyOf (K:PySem.W.Frag) (H:Hp):V→Value→Prop where
 | non:TyOf K H .non (.type "NoneType")
 | bl (x:Bool):TyOf K H (.bl x) (.type "bool")
 | int (i:Int):TyOf K H (.int i) (.type "int")
 | str (x:Str):TyOf K H (.str x) (.type "str")
 | flt (x:UInt64):TyOf K H (.flt x) (.type "float")
 | lst {a:Addr} {xs:List V} (e:H a=some (.lst xs)):TyOf K H (.ref a) (.type "list")
 | frz {a:Addr} {o:Obj} {xs:List V} (e:H a=some (.frz o (.lst xs))):TyOf K H (.ref a) (.type "list")
 | tup {a:Addr} {xs:List V} (e:H a=some (.tup xs)):TyOf K H (.ref a) (.type "tuple")
 | dK {a:Addr} {kvs:List (aE×V)} (e:H a=some (.dK kvs)):TyOf K H (.ref a) (.type "dict")
 | dT {a:Addr} {kvs:List (List aE×V)} (e:H a=some (.dT kvs)):TyOf K H (.ref a) (.type "dict")
 | ins {a C dx:Addr} {fs:List (Str×V)} (e:H a=some (.ins C dx fs)) (cl:Cls K C) (ha:PySem.W.findIn K (.ref C) "__class__"=some (some (.builtin "object.__class__")))
  (hn:PySem.W.specialIn K (.builtin "object.__class__") "__get__"=some (some (.builtin "getset_descriptor.__get__"))) (htk:PySem.W.takesIn K (.builtin "object.__class__")=some true)
  (hm:PySem.W.mroIn K C (.type "object")=some true):TyOf K H (.ref a) (.ref C)
theorem wH{x:V}{u t:Value}(I:Inv X pins σ H s)(rx:RelV x u)(ty:TyOf X.K H x t)(e:PySem.W.kitOne X.K t c=some b)(h:∀tk,Q (.bool b) {s with toks:=tk}):wpAny (model X.prog X.w) A (call (.builtin "isinstance") [u,c]) Q E s:=by
 cases ty with
 | non=>cases(show u=Value.none from rx);exact PySem.W.kia_one PySem.W.kitx_none I.kIn True.intro e (fun z=>nomatch z) h
 | bl y=>cases(show u=Value.bool y from rx);exact PySem.W.kia_one PySem.W.kitx_bool I.kIn True.intro e (fun z=>nomatch z) h
 | int i=>obtain⟨t,q⟩:=(show∃t,u=Value.int i t from rx);cases q;exact PySem.W.kia_one PySem.W.kitx_int I.kIn True.intro e (fun z=>nomatch z) h
 | str y=>obtain⟨t,q⟩:=(show∃t,u=Value.str y t from rx);cases q;exact PySem.W.kia_one PySem.W.kitx_str I.kIn True.intro e (fun z=>nomatch z) h
 | flt y=>obtain⟨t,q⟩:=(show∃t,u=Value.float y t from rx);cases q;exact PySem.W.kia_one PySem.W.kitx_float I.kIn True.intro e (fun z=>nomatch z) h
 | @lst a xs ea=>
   cases(show u=Value.ref a from rx)
   obtain⟨_,_,n,_,h1⟩:=(show ObjOk X.prog X.w H s.heap a (.lst xs) from I.hok a _ ea)
   exact PySem.W.kia_one PySem.W.kitx_list I.kIn ⟨_,h1,rfl⟩ e (fun z=>nomatch z) h
 | @frz a ob xs ea=>
   cases(show u=Value.ref a from rx)
   obtain⟨_,_,_,n,_,h1⟩:=(show ObjOk X.prog X.w H s.heap a (.frz ob (.lst xs)) from I.hok a _ ea)
   exact PySem.W.kia_one PySem.W.kitx_list I.kIn ⟨_,h1,rfl⟩ e (fun z=>nomatch z) h
 | @tup a xs ea=>
   cases(show u=Value.ref a from rx)
   obtain⟨_,_,_,p⟩:=(show ObjOk X.prog X.w H s.heap a (.tup xs) from I.hok a _ ea)
   obtain⟨o,h1,h2,_⟩:=p
   exact PySem.W.kia_one PySem.W.kitx_tuple I.kIn ⟨o,h1,h2⟩ e (fun z=>nomatch z) h
 | @dK a kvs ea=>
   cases(show u=Value.ref a from rx)
   obtain⟨_,_,vs,_,p⟩:=(show ObjOk X.prog X.w H s.heap a (.dK kvs) from I.hok a _ ea)
   obtain⟨o,es,ep,h1,h2,_⟩:=p
   exact PySem.W.kia_one PySem.W.kitx_dict I.kIn ⟨o,h1,h2.1⟩ e (fun z=>nomatch z) h
 | @dT a kvs ea=>
   cases(show u=Value.ref a from rx)
   obtain⟨_,_,xs,_,o,es,ep,h1,h2,_⟩:=(show ObjOk X.prog X.w H s.heap a (.dT kvs) from I.hok a _ ea)
   exact PySem.W.kia_one PySem.W.kitx_dict I.kIn ⟨o,h1,h2.1⟩ e (fun z=>nomatch z) h
 | @ins a C dx fs ea cl ha hn htk hm=>
   cases(show u=Value.ref a from rx)
   obtain⟨mA,O,_⟩:=xB I.hok ea
   obtain⟨od,J,_⟩:=O.look
   exact PySem.W.kia_one (PySem.W.kitx_own (cl.get _) cl.hd ha hn htk hm) I.kIn J e (fun z=>nomatch z) h
end
structure Room(k:Nat)(A:Around):Prop where
 hd:A.handled=none
 dp:A.depth+3*k+5<recursionLimit
 un:A.units+16*k+200<cLine
theorem Room.mono{j k:Nat}{A:Around}(r:Room k A)(h:j≤k):Room j A:=⟨r.hd,by have:=r.dp;lia,by have:=r.un;lia⟩
theorem Room.deeper{k:Nat}{A:Around}(r:Room (k+1) A)(env:Env):Room k (A.deeper env):=
 ⟨r.hd,by have:=r.dp;show A.depth+1+3*k+5<_;lia,by have:=r.un;show A.units+3+16*k+200<_;lia⟩
theorem Room.in1{k:Nat}{A:Around}(r:Room (k+1) A):Room k A.in1:=
 ⟨r.hd,by have:=r.dp;show A.depth+3*k+5<_;lia,by have:=r.un;show A.units+1+16*k+200<_;lia⟩
theorem Room.depth{k:Nat}{A:Around}(r:Room k A):A.depth<recursionLimit:=by have:=r.dp;lia
theorem Room.units{k:Nat}{A:Around}(r:Room k A):A.units+64<cLine:=by have:=r.un;lia
theorem Room.units0{k:Nat}{A:Around}(r:Room k A):A.units<cLine:=by have:=r.un;lia
def dO:TA:=fun _ H Q=>Q [] H
def bV(ta:TE)(tr:TA):TA:=fun σ H Q=>ta σ H fun x H1=>tr σ H1 fun xs H2=>Q (x::xs) H2
section
variable{X:Cx}{e:Expr}{es:List Expr}{te:TE}{t:TA}{pos:Pos}
theorem ac:PA X [] dO:=fun _ _ _ _ H Q I h=>Calls.spliced_nil ⟨[],H,I,.nil,h⟩
theorem aa(ha:PE X e te)(hr:PA X es t)(hs:starEach (e::es) X.env=(false,eval e X.env)::starEach es X.env:=by rfl):PA X (e::es) (bV te t):=by
 intro pos pins s σ H Q I h
 rw[hs]
 show wpAny _ _ (spliced ((false,eval e X.env)::backTo pos (starEach es X.env))) _ _ s
 refine Calls.spliced_cons (ap (ha pins s σ H _ I h) fun u s1 ⟨x,H1,I1,r1,q1⟩=>?_)
 exact ap (hr pos pins s1 σ H1 _ I1 q1) fun us s2 ⟨xs,H2,I2,r2,q2⟩=>⟨x::xs,H2,I2,.cons r1 r2,q2⟩
def ve(t:TA):TE:=fun σ H Q=>t σ H fun xs H1=>xs.length≤sizeLine∧∀p,H1 p=none→Q (.ref p) (upd H1 p (.tup xs))
def om(t:TA):TE:=fun σ H Q=>t σ H fun xs H1=>xs.length≤sizeLine∧∀p,H1 p=none→Q (.ref p) (upd H1 p (.lst xs))
theorem fY{x1}(h:PA X es t):PE X (.Tuple es x1 pos) (ve t):=by
 intro pins s σ H Q I hq
 refine wpAny_Tuple_spliced (ap (h pos pins s σ H _ I hq) fun us s1 ⟨xs,H1,I1,r,z,q⟩=>⟨by rw[←r.length];exact z,?_⟩)
 have hf:H1 s1.heap.objs.size=none:=I1.hok.fresh (Nat.le_refl _)
 refine⟨.ref s1.heap.objs.size,upd H1 s1.heap.objs.size (.tup xs),I1.laid (t':=s1.toks) (fun b u e=>Heap.get?_push_of_some _ e) (Nat.le_refl _) ?_,rfl,q _ hf⟩
 exact⟨z,us,r,⟨_,Heap.get?_push_size _ rfl,rfl,_,rfl⟩⟩
theorem bI(h:PA X es t):PE X (.List es pos) (om t):=by
 intro pins s σ H Q I hq
 refine wpAny_List_spliced (ap (h pos pins s σ H _ I hq) fun us s1 ⟨xs,H1,I1,r,z,q⟩=>⟨by rw[←r.length];exact z,?_⟩)
 have hf:H1 s1.heap.objs.size=none:=I1.hok.fresh (Nat.le_refl _)
 refine⟨.ref s1.heap.objs.size,upd H1 s1.heap.objs.size (.lst xs),I1.laid (t':=s1.toks) (fun b u e=>Heap.get?_push_of_some _ e) (Nat.le_refl _) ?_,rfl,q _ hf⟩
 exact⟨z,us,0,r,Heap.get?_push_size _ rfl⟩
end
abbrev Sp:=List V→Hp→VK→XK→Prop
abbrev bN:=List Env→Hp→Shared→XK→Value→Shared→Prop
structure Env0(P:Program)(w:World)(K:PySem.W.Frag)(mg:Str→Option Value)(base:Heap)(A:Around)(outer:List Env)(s:Shared)(H:Hp):Prop where
 frames:A.frames=some outer
 mod:Mod K mg base
 bs:∀b o,base.get? b=some o→s.heap.get? b=some o∧H b=none
 bsz:base.objs.size≤s.heap.objs.size
 funs:s.heap.FunFrames base outer
 frf:∀b∈aX outer,H b=none
 hok:HOk P w H s.heap
 bare:AllBare s.gens
def CE(outer:List Env)(P:Program)(w:World)(H:Hp)(s:Shared)(Q:VK)(u:Value)(s':Shared):Prop:=
 ∃v H',s'.os=s.os∧AllBare s'.gens∧Un (aX outer) [] H H' s.heap s'.heap∧HOk P w H' s'.heap∧RelV v u∧Q v H'
def CR(CX:bN)(outer:List Env)(P:Program)(w:World)(H:Hp)(s:Shared)(Q:VK)(E:XK)(r:Result)(s':Shared):Prop:=
 match r with
 | .ok (.ret u)=>CE outer P w H s Q u s'
 | .ok _=>False
 | .error e=>CX outer H s E e s'
structure FnOk(P:Program)(w:World)(K:PySem.W.Frag)(mg:Str→Option Value)(base:Heap)(CX:bN)(k:Nat)(f:Addr)(fd:FuncData)(ps:List Str)(sp:Sp):Prop where
 len:∀vs H Q E,sp vs H Q E→vs.length=ps.length
 run:∀(A:Around) (outer:List Env) (s:Shared) (H:Hp) (args:Args) (us:List Value) (vs:List V) (Q:VK) (E:XK),Room k A→Env0 P w K mg base A outer s H→BindsTo s fd args (ps.zip us)→Vals vs us→sp vs H Q E→
  codeAny (model P w) A (.call (.ref f) args) (CR CX outer P w H s Q E) s
theorem Env0.in1{P:Program}{w:World}{K:PySem.W.Frag}{mg:Str→Option Value}{base:Heap}{A:Around}{outer:List Env}{s:Shared}{H:Hp}(e:Env0 P w K mg base A outer s H):Env0 P w K mg base A.in1 outer s H:=⟨e.frames,e.mod,e.bs,e.bsz,e.funs,e.frf,e.hok,e.bare⟩
section
variable{X:Cx}{pins:List (Addr×Obj)}{σ:St}{H:Hp}{s s':Shared}
theorem Inv.env0(I:Inv X pins σ H s):Env0 X.prog X.w X.K X.mg X.base X.A X.stack s H:=
 ⟨I.ok.frames,I.ok.mod,I.bs,Nat.le_trans I.ok.bsz I.sz,I.stack,I.stkFree,I.hok,I.bare⟩
theorem Inv.after{Q:VK}{u:Value}(I:Inv X pins σ H s)(h:CE X.stack X.prog X.w H s Q u s'):EP X pins σ Q u s':=by
 obtain⟨v,H',os,bare,un,hok,r,q⟩:=h
 obtain⟨hh,g,d,t,os'⟩:=s'
 obtain rfl:os'=s.os:=os
 exact⟨v,H',I.call (h':=hh) (g':=g) (d':=d) (t':=t) (ch:=[]) un hok bare (fun b z=>absurd z (by simp)),r,q⟩
end
def dG(sp:Sp)(dvs:List V)(E:XK)(t:TA):TE:=fun σ H Q=>t σ H fun vs H1=>sp (vs++dvs) H1 Q E
def Binds(K:PySem.W.Frag)(fd:FuncData)(ps:List Str)(ds:List Value):Prop:=
 ∀(s:Shared) (us:List Value),K.In s.heap→(us++ds).length=ps.length→BindsTo s fd ⟨us,[]⟩ (ps.zip (us++ds))
theorem Binds.all{K:PySem.W.Frag}{fd:FuncData}{ps:List Str}(h:∀us:List Value,us.length=ps.length→bindArgs fd ⟨us,[]⟩=pure (ps.zip us)):Binds K fd ps []:=fun s us _ hl=>by
 rw[List.append_nil] at hl ⊢
 exact .of_eq (h us hl)
def gY(CX:bN)(X:Cx)(E:XK):Prop:=∀(pins:List (Addr×Obj)) (σ:St) (H:Hp) (s:Shared) (e:Value) (s':Shared),Inv X pins σ H s→CX X.stack H s E e s'→X.xe e s'
section
variable{X:Cx}{CX:bN}{k:Nat}{f C:Addr}{fd:FuncData}{ps:List Str}{sp:Sp}{dvs:List V}{ds:List Value}{E:XK}{x m:Str}{p pos apos:Pos}{e o:Expr}{es:List Expr}{ta:TE}{t:TA}
theorem q9{pins:List (Addr×Obj)}{σ:St}{H:Hp}{s:Shared}{Q:VK}{us:List Value}{vs:List V}(F:FnOk X.prog X.w X.K X.mg X.base CX k f fd ps sp)(hr:Room k X.A)(hb:Binds X.K fd ps ds)(hd:Vals dvs ds)(hx:gY CX X E)(I:Inv X pins σ H s)(r:Vals vs us)(h:sp (vs++dvs) H Q E):wpAny (model X.prog X.w) X.A (call (.ref f) us) (EP X pins σ Q) X.xe s:=by
 have r2:Vals (vs++dvs) (us++ds):=r.append hd
 have hl:(us++ds).length=ps.length:=by rw[←r2.length];exact F.len _ _ _ _ h
 refine wpAny_call (codeAny_mono (F.run X.A X.stack s H ⟨us,[]⟩ (us++ds) (vs++dvs) Q E hr I.env0 (hb s us I.kIn hl) r2 h) fun r s' hq=>?_)
 cases r with
 | error e=>exact hx pins σ H s e s' I hq
 | ok fl=>
   cases fl with
   | ret u=>exact I.after hq
   | next=>exact False.elim hq
   | brk=>exact False.elim hq
   | cont=>exact False.elim hq
theorem t7(F:FnOk X.prog X.w X.K X.mg X.base CX k f fd ps sp)(hr:Room k X.A)(hg:Gl X x)(hm:X.mg x=some (.ref f))(hk:PySem.W.keepIn X.K (.ref f)=true)(hb:Binds X.K fd ps ds)(hd:Vals dvs ds)(hx:gY CX X E)(ha:PA X (e::es) t)(hdb:(x == ("__debug__":Str))=false:=by decide)(he:starEach (e::es) X.env=(false,eval e X.env)::starEach es X.env:=by rfl)(hpl:(backTo pos (starEach es X.env)).any (·.1)=false:=by rfl):
 PE X (.Call (.Name x p) (e::es) [] pos) (dG sp dvs E t):=by
 intro pins s σ H Q I h
 refine wpAny_Call_Name_kw (fH I hg hm ?_ hdb)
 refine PySem.W.callWith_K (h₀:=X.base) I.ok.mod.kin hk (ap (ha pos pins s σ H _ I h) fun us s1 ⟨vs,H1,I1,r,q⟩=>⟨I1.kIn,?_⟩) he hpl
 exact q9 F hr hb hd hx I1 r q
structure Mk(K:PySem.W.Frag)(C f:Addr):Prop where
 makes:PySem.W.makesIn K C=true
 init:PySem.W.findIn K (.ref C) "__init__"=some (some (.ref f))
 fn:PySem.W.isFn K (.ref f)=true
 kp:PySem.W.keepIn K (.ref C)=true
end
section
variable{X:Cx}{CX:bN}{k:Nat}{f C:Addr}{fd:FuncData}{ps ks:List Str}{sp:Sp}{E:XK}{x m:Str}{p pos apos kpos:Pos}{e o:Expr}{es:List Expr}{kws:List Keyword}{te ta:TE}{t tk:TA}{nm:Option Str}
structure KBinds(K:PySem.W.Frag)(fd:FuncData)(ps ks:List Str)(g:List Value→List Value→List Value)(gV:List V→List V→List V):Prop where
 to:∀(s:Shared) (us ws:List Value),K.In s.heap→(g us ws).length=ps.length→BindsTo s fd ⟨us,ks.zip ws⟩ (ps.zip (g us ws))
 rel:∀{vs:List V} {us:List Value} {zs:List V} {ws:List Value},Vals vs us→Vals zs ws→Vals (gV vs zs) (g us ws)
variable{g:List Value→List Value→List Value}{gV:List V→List V→List V}
end
structure FnScope(N P:List Str)(sc:Scope):Prop where
 kind:sc.kind=.function
 co:sc.isCoroutine=false
 gen:sc.isGenerator=false
 nd:N.Nodup
 pre:N.take P.length=P
 par:∀x∈P,sc.names.lookup x=some .local∨sc.names.lookup x=some .cell
 nofree:∀y∈sc.names,y.2≠ .free
theorem p5{kindOf:Str→Option NameKind}{x:Str}:∀{binds:List (Str×Value)} {m:Str→Option Value},(∀v,(x,v)∉binds)→bindL kindOf binds m x=m x
 | [],_,_=>rfl
 | (n,v)::r,m,h=>by
   unfold bindL
   rw[p5 fun w hw=>h w (List.mem_cons_of_mem _ hw)]
   split
   ·have:x≠n:=by rintro rfl;exact h v List.mem_cons_self
    simp[this]
   ·rfl
theorem lw{kindOf:Str→Option NameKind}{x:Str}:∀{binds:List (Str×Value)} {m:Str→Option Value},(∀v,(x,v)∉binds)→bindC kindOf binds m x=m x
 | [],_,_=>rfl
 | (n,v)::r,m,h=>by
   unfold bindC
   rw[lw fun w hw=>h w (List.mem_cons_of_mem _ hw)]
   split
   ·rfl
   ·have:x≠n:=by rintro rfl;exact h v List.mem_cons_self
    simp[this]
theorem m9{kindOf:Str→Option NameKind}{x:Str}{v:Value}:∀{P:List Str} {vs:List Value} {i:Nat} {m:Str→Option Value},P.Nodup→P[i]?=some x→vs[i]?=some v→kindOf x=some .local→bindL kindOf (P.zip vs) m x=some v
 | [],_,_,_,_,h,_,_=>by simp at h
 | _::_,[],_,_,_,_,h,_=>by simp at h
 | p::P,w::vs,0,m,nd,h1,h2,hk=>by
   simp at h1 h2;subst h1;subst h2
   show bindL kindOf ((p,w)::P.zip vs) m p=_
   unfold bindL
   rw[p5 fun v hv=>(List.nodup_cons.mp nd).1 (List.of_mem_zip hv).1,if_pos hk]
   simp
 | p::P,w::vs,i+1,m,nd,h1,h2,hk=>by
   show bindL kindOf ((p,w)::P.zip vs) m x=_
   unfold bindL
   exact m9 (i:=i) (List.nodup_cons.mp nd).2 (by simpa using h1) (by simpa using h2) hk
theorem mE{kindOf:Str→Option NameKind}{x:Str}{v:Value}:∀{P:List Str} {vs:List Value} {i:Nat} {m:Str→Option Value},P.Nodup→P[i]?=some x→vs[i]?=some v→kindOf x≠some .local→bindC kindOf (P.zip vs) m x=some v
 | [],_,_,_,_,h,_,_=>by simp at h
 | _::_,[],_,_,_,_,h,_=>by simp at h
 | p::P,w::vs,0,m,nd,h1,h2,hk=>by
   simp at h1 h2;subst h1;subst h2
   show bindC kindOf ((p,w)::P.zip vs) m p=_
   unfold bindC
   rw[lw fun v hv=>(List.nodup_cons.mp nd).1 (List.of_mem_zip hv).1,if_neg hk]
   simp
 | p::P,w::vs,i+1,m,nd,h1,h2,hk=>by
   show bindC kindOf ((p,w)::P.zip vs) m x=_
   unfold bindC
   exact mE (i:=i) (List.nodup_cons.mp nd).2 (by simpa using h1) (by simpa using h2) hk
def cV(N:List Str)(vs:List V):St:=vs.map some++List.replicate (N.length-vs.length) none
def bY(CX:bN)(P:Program)(w:World)(K:PySem.W.Frag)(mg:Str→Option Value)(base:Heap)(N:List Str)(qual:Str)(scope:Scope)(f:Addr)(cd:Value)(A:Around)(outer:List Env)(s:Shared)(H:Hp)(E:XK):Cx where
 prog:=P
 w:=w
 K:=K
 mg:=mg
 base:=base
 A:=A.deeper (envOfC qual scope s.heap.objs.size f cd)
 N:=N
 s₀:=s
 H₀:=H
 env:=envOfC qual scope s.heap.objs.size f cd
 outer:=outer
 stack:=envOfC qual scope s.heap.objs.size f cd::outer
 ex:=[]
 calm:=true
 fn:=fun _=>true
 pn:=[]
 xe:=fun e s'=>wpAny (model P w) (A.deeper (envOfC qual scope s.heap.objs.size f cd)) (leaving (envOfC qual scope s.heap.objs.size f cd) e) (fun _ s''=>CX outer H s E e s'') (fun e' s''=>CX outer H s E e' s'') s'
theorem l9{sc:Scope}{n:Nat}{x:Str}(h:sc.names.lookup x=some .cell):∃c,(cellsFrom n sc.names []).lookup x=some c:=by
 have q:=PySem.W.cellsFrom_some sc.names n [] (.inl h)
 exact Option.isSome_iff_exists.mp q
theorem tF{CX:bN}{P:Program}{w:World}{K:PySem.W.Frag}{mg:Str→Option Value}{base:Heap}{N ps:List Str}{qual:Str}{scope:Scope}{f:Addr}{cd:Value}{A:Around}{outer:List Env}{s s1:Shared}{H:Hp}{E:XK}{us:List Value}{vs:List V}(S:FnScope N ps scope)(hd:A.handled=none)(e0:Env0 P w K mg base A outer s H)(hl:vs.length=ps.length)(r:Vals vs us)(x:InCallC s s.heap.objs.size (bindL (envOfC qual scope s.heap.objs.size f cd).kindOf (ps.zip us) fun _=>none) (cellsFrom (s.heap.objs.size+1) scope.names []) (bindC (envOfC qual scope s.heap.objs.size f cd).kindOf (ps.zip us) fun _=>none) s1):
 Inv (bY CX P w K mg base N qual scope f cd A outer s H E) [] (cV N vs) H s1:=by
 have hpl:ps.length≤N.length:=by have:=congrArg List.length S.pre;rw[List.length_take] at this;lia
 obtain⟨h1,tk,rfl,hk⟩:=x.done
 have noA:∀b:Addr,b∉(bY CX P w K mg base N qual scope f cd A outer s H E).ex:=fun b z=>absurd (show b∈([]:List Addr) from z) (by simp)
 refine⟨⟨e0.mod,S.kind,rfl,rfl,Nat.le_refl _,fun y z c h1 h2=>?_,fun y hy=>?_,fun y c _ h=>?_,fun _=>hd,Around.frames_deeper e0.frames,.inr ⟨rfl,rfl⟩,fun b z=>absurd z (noA b),e0.bs,e0.bsz,fun b _ _=>noA b,fun b z=>absurd z (noA b),e0.funs,e0.frf⟩,
  rfl,e0.bare,Un.kept hk,⟨_,x.toInCall.ns,fun i y v h1 h2 h3=>?_⟩,fun y c h=>⟨_,x.cell y c h⟩,e0.hok.fresh (Nat.le_refl _),fun y c h=>?_,fun p hp=>absurd (show p∈([]:List (Addr×Obj)) from hp) (by simp),e0.hok.kept hk,?_⟩
 ·exact name_of_addr x.apart (PySem.mem_of_lookup h1) (PySem.mem_of_lookup h2)
 ·have hy:scope.names.lookup y=some .cell∨scope.names.lookup y=some .free:=hy
  rcases hy with hy | hy
  ·exact l9 hy
  ·exact absurd rfl (S.nofree _ (PySem.mem_of_lookup hy))
 ·exact Nat.le_of_lt (x.above y c (PySem.mem_of_lookup h))
 ·have hi:i<vs.length:=by
   unfold cV at h2
   by_cases hi:i<vs.length
   ·exact hi
   ·rw[List.getElem?_append_right (by simpa using hi)] at h2
    rw[List.getElem?_replicate] at h2
    split at h2 <;> cases h2
  have ha:vs[i]?=some v:=by
   unfold cV at h2
   rw[List.getElem?_append_left (by simpa using hi),List.getElem?_map] at h2
   cases e:vs[i]? with
   | none=>rw[e] at h2;cases h2
   | some a=>rw[e] at h2;cases h2;rfl
  obtain⟨u,hu,rv⟩:=r.get ha
  have hp:ps[i]?=some y:=by
   rw[←S.pre,List.getElem?_take_of_lt (by lia)];exact h1
  have ndP:ps.Nodup:=by rw[←S.pre];exact S.nd.sublist (List.take_sublist _ _)
  refine⟨u,rv,?_⟩
  rcases S.par y (List.mem_of_getElem? hp) with k | k
  ·exact .inl ⟨k,m9 ndP hp hu k⟩
  ·obtain⟨c,e⟩:=l9 (n:=s.heap.objs.size+1) k
   refine .inr ⟨.inl k,c,e,?_⟩
   have q:=x.cell y c e
   rw[mE ndP hp hu (by show scope.names.lookup y≠_;rw[k];decide)] at q
   exact q
 ·exact e0.hok.fresh (Nat.le_of_lt (x.above y c (PySem.mem_of_lookup h)))
 ·unfold cV
  show _=N.length
  rw[List.length_append,List.length_map,List.length_replicate]
  lia
theorem iP{CX:bN}{P:Program}{w:World}{K:PySem.W.Frag}{mg:Str→Option Value}{base:Heap}{k:Nat}{f:Addr}{name qual:Str}{params:Arguments}{body:List Stmt}{scope:Scope}{dV kV doc pm cdv ct oc:Value}{an od:Option Addr}{osl:Array (Option Value)}{N ps:List Str}{sp:Sp}(lk:K.lookup f=some ⟨oc,od,.func (PySem.W.fnOf name qual params body scope dV kV doc pm an cdv ct),osl⟩)(hcd:PySem.W.codeIn K cdv qual=true)(S:FnScope N ps scope)(len:∀vs H Q E,sp vs H Q E→vs.length=ps.length)(hbody:∀(A:Around) (outer:List Env) (s:Shared) (H:Hp) (vs:List V) (Q:VK) (E:XK),Room k (A.deeper (envOfC qual scope s.heap.objs.size f cdv))→sp vs H Q E→∃t,PSs (bY CX P w K mg base N qual scope f cdv A outer s H E) body t∧t {nx:=fun _ H'=>Q .non H',rt:=Q} (cV N vs) H):
 FnOk P w K mg base CX (k+1) f (PySem.W.fnOf name qual params body scope dV kV doc pm an cdv ct) ps sp:=by
 refine⟨len,fun A outer s H args us vs Q E hr e0 hb r hsp=>?_⟩
 have hl:=len _ _ _ _ hsp
 have KX:K.In s.heap:=e0.mod.kin.keeps fun b o e=>(e0.bs b o e).1
 have lim:s.heap.NoLimit:=e0.mod.nolimit.keeps fun b o e=>(e0.bs b o e).1
 have hkind:∀y∈ps.zip us,scope.names.lookup y.1=some .local∨(scope.names.lookup y.1=some .cell∧((cellsFrom (s.heap.objs.size+1) scope.names []).lookup y.1).isSome=true):=fun⟨n,v⟩ hy=>by
  rcases S.par n (List.of_mem_zip hy).1 with q | q
  ·exact .inl q
  ·exact .inr ⟨q,PySem.W.cellsFrom_some _ _ _ (.inl q)⟩
 refine codeAny_call_function hr.depth (KX _ _ lk) rfl S.co S.gen rfl (PySem.W.codeRec_of KX hcd) (hb _ _ _ _ ?_)
 refine wpAny_newFunctionEnv_cells S.kind hkind fun env he s1 x=>?_
 subst he
 refine⟨lim.keeps x.toInCall.keep,codeAny_func ?_⟩
 obtain⟨t,ht,hq⟩:=hbody A outer s H vs Q E (hr.deeper _) hsp
 have I:Inv (bY CX P w K mg base N qual scope f cdv A outer s H E) [] (cV N vs) H s1:=tF S hr.hd e0 hl r x
 refine wpAny_mono (ht [] s1 (cV N vs) H _ I hq) (fun fl s' hs=>?_) fun e s' hs=>hs
 have fin:∀{σ':St} {H':Hp} {v:V} {u:Value},Inv (bY CX P w K mg base N qual scope f cdv A outer s H E) [] σ' H' s'→RelV v u→Q v H'→CE outer P w H s Q u s':=
  fun{σ' H' v u} J rv q=>⟨v,H',J.os,J.bare,J.base,J.hok,rv,q⟩
 cases fl with
 | ret u=>
   obtain⟨v,σ',H',J,rv,q⟩:=hs
   exact fin J rv q
 | next=>
   obtain⟨σ',H',J,q⟩:=hs
   exact fin (v:=V.non) (u:=Value.none) J rfl q
 | brk=>
   obtain⟨_,_,_,q⟩:=hs
   exact False.elim q
 | cont=>
   obtain⟨_,_,_,q⟩:=hs
   exact False.elim q
section
variable{X:Cx}{x:Str}{p pos:Pos}{e:Expr}{es:List Expr}{t:TA}{id T:String}{r:List V→Hp→VK→Prop}
def lC(r:List V→Hp→VK→Prop)(t:TA):TE:=fun σ H Q=>t σ H fun vs H1=>r vs H1 Q
theorem dk(hc:cB X (.builtin id) r)(hg:Gl X x)(hm:X.mg x=none)(hv:bootBuiltins x=some (.builtin id))(ha:PA X (e::es) t)(hn:x≠"__name__":=by decide)(hdb:(x == ("__debug__":Str))=false:=by decide)
 (he:starEach (e::es) X.env=(false,eval e X.env)::starEach es X.env:=by rfl)(hpl:(backTo pos (starEach es X.env)).any (·.1)=false:=by rfl):PE X (.Call (.Name x p) (e::es) [] pos) (lC r t):=by
 intro pins s σ H Q I h
 refine wpAny_Call_Name_kw (cW I hg hm hv ?_ hn hdb)
 exact PyProof.Rows.callWith_builtin1 (ap (ha pos pins s σ H _ I h) fun us s1 ⟨vs,H1,I1,r1,q1⟩=>hc pins s1 σ H1 vs us Q I1 r1 q1) he hpl
theorem gF(hc:cB X (.type T) r)(hg:Gl X x)(hm:X.mg x=none)(hv:bootBuiltins x=some (.type T))(ha:PA X (e::es) t)(hn:x≠"__name__":=by decide)(hdb:(x == ("__debug__":Str))=false:=by decide)
 (he:starEach (e::es) X.env=(false,eval e X.env)::starEach es X.env:=by rfl)(hpl:(backTo pos (starEach es X.env)).any (·.1)=false:=by rfl):PE X (.Call (.Name x p) (e::es) [] pos) (lC r t):=by
 intro pins s σ H Q I h
 refine wpAny_Call_Name_kw (cW I hg hm hv ?_ hn hdb)
 exact PyProof.Rows.callWith_type1 (ap (ha pos pins s σ H _ I h) fun us s1 ⟨vs,H1,I1,r1,q1⟩=>hc pins s1 σ H1 vs us Q I1 r1 q1) he hpl
end
end L2
namespace HT
open PySem PyProof.Rows
section
open PySem.SeqAt
open PySem.AutoSeq1 (wpAny_loadPart')
open PySem.MeetsSeq PySem.MeetsSeq2 PySem.MeetsSeq3
end
section
variable{prog:Program}{w:World}{A:Around}{E:Value→Shared→Prop}{s:Shared}
def sIx(n d:Nat):Option Int→Nat
 | none=>d
 | some v=>if v<0 then(v+(n:Int)).toNat else min v.toNat n
theorem sIx_none(n d:Nat):sIx n d none=d:=rfl
end
end HT
namespace L2
open PySem PySem.Spec PyProof.Rows
abbrev TO:=St→Hp→(Option Int→Hp→Prop)→Prop
def PO(X:Cx)(e:Option Expr)(t:TO):Prop:=
 ∀ (pins:List (Addr×Obj)) (s:Shared) (σ:St) (H:Hp) (Q:Option Int→Hp→Prop),Inv X pins σ H s→t σ H Q→
   wpAny (model X.prog X.w) X.A (evalPart e X.env) (fun u s'=>∃o H',Inv X pins σ H' s'∧IsPart u o∧Q o H') X.xe s
def fF:TO:=fun _ H Q=>Q none H
def fB(t:TE):TO:=fun σ H Q=>t σ H fun x H1=>∃i,x=.int i∧Q (some i) H1
section
variable{X:Cx}{e:Expr}{te:TE}{lo hi:Option Expr}{tl th:TO}{pos p2:Pos}
theorem a6:PO X none fF:=by
 intro pins s σ H Q I h
 rw[evalPart_none]
 exact wpAny_pure ⟨none,H,I,.none,h⟩
theorem aH(h:PE X e te):PO X (some e) (fB te):=by
 intro pins s σ H Q I hw
 rw[evalPart_some]
 refine ap (h pins s σ H _ I hw) fun u s1 ⟨x,H1,I1,r1,q1⟩=>?_
 obtain⟨i,rfl,q⟩:=q1
 obtain⟨t,rfl⟩:=r1
 exact⟨some i,H1,I1,.int i t,q⟩
def mL(X:Cx)(r:V→Option Int→Option Int→Hp→VK→Prop):Prop:=
 ∀ (pins:List (Addr×Obj)) (s:Shared) (σ:St) (H:Hp) (x:V) (v vl vu:Value) (lo hi:Option Int) (sl:Addr) (Q:VK),Inv X pins σ H s→RelV x v→s.heap.IsSliceOf sl vl vu .none→IsPart vl lo→IsPart vu hi→r x lo hi H Q→
   ∃T id,typeLookup (.type T) "__getitem__"=pure (some (.builtin id))∧s.TypeIs v T∧wpAny (model X.prog X.w) X.A (getItem v (.ref sl)) (EP X pins σ Q) X.xe s
def fi(r:V→Option Int→Option Int→Hp→VK→Prop)(te:TE)(tl th:TO):TE:=fun σ H Q=>te σ H fun x H1=>tl σ H1 fun l H2=>th σ H2 fun u H3=>r x l u H3 Q
theorem aP{r:V→Option Int→Option Int→Hp→VK→Prop}(hr:mL X r)(he:PE X e te)(hl:PO X lo tl)(hu:PO X hi th):PE X (.Subscript e (.Slice lo hi none p2) pos) (fi r te tl th):=by
 intro pins s σ H Q I h
 refine Subscript_ (ap (he pins s σ H _ I h) fun v s1 ⟨x,H1,I1,r1,q1⟩=>?_)
 refine wpAny_Slice (ap (hl pins s1 σ H1 _ I1 q1) fun vl s2 ⟨l,H2,I2,pl,q2⟩=>ap (hu pins s2 σ H2 _ I2 q2) fun vu s3 ⟨u,H3,I3,pu,q3⟩=>?_)
 rw[evalPart_none]
 refine wpAny_pure ?_
 have I4:Inv X pins σ H3 {s3 with heap:=s3.heap.push {cls:=.type "slice",data:=.fields #[vl,vu,.none]}}:=I3.kept (t':=s3.toks) fun b ob q=>Heap.get?_push_of_some _ q
 obtain⟨T,id,hT,ht,hg⟩:=hr pins {s3 with heap:=s3.heap.push {cls:=.type "slice",data:=.fields #[vl,vu,.none]}} σ H3 x v vl vu l u s3.heap.objs.size Q I4 r1 (Heap.IsSliceOf.new ..) pl pu q3
 show wpAny (model X.prog X.w) X.A (subscriptTail e (.Slice lo hi none p2) v (.ref s3.heap.objs.size)) (EP X pins σ Q) X.xe {s3 with heap:=s3.heap.push {cls:=.type "slice",data:=.fields #[vl,vu,.none]}}
 exact tail_any (ops:=[.ref s3.heap.objs.size,v]) ht hT hg (by with_unfolding_all rfl)
def bp(xs:List V)(lo hi:Option Int):List V:=(xs.drop (HT.sIx xs.length 0 lo)).take (HT.sIx xs.length xs.length hi-HT.sIx xs.length 0 lo)
theorem uO(xs:List V)(lo hi:Option Int):(bp xs lo hi).length≤xs.length:=by
 unfold bp
 rw[List.length_take,List.length_drop]
 lia
end
def eA(n:Nat)(i:Int):Option Nat:=if 0≤i then(if i<n then some i.toNat else none) else if -(n:Int)≤i then some (i+n).toNat else none
def bA{α:Type}(xs:List α)(i:Int):Option α:=(eA xs.length i).bind fun j=>xs[j]?
theorem mD{n:Nat}{i:Int}{j:Nat}(h:eA n i=some j):seqIndex? i n=some j∧j<n∧ -(n:Int)≤i∧i<n:=by
 unfold eA at h
 by_cases h0:0≤i
 ·rw[if_pos h0] at h
  by_cases h1:i<n
  ·rw[if_pos h1] at h
   have e:i.toNat=j:=Option.some.inj h
   exact⟨by rw[seqIndex_of h0 h1,e],by lia,by lia,h1⟩
  ·rw[if_neg h1] at h;cases h
 ·rw[if_neg h0] at h
  by_cases h1: -(n:Int)≤i
  ·rw[if_pos h1] at h
   have e:(i+n).toNat=j:=Option.some.inj h
   exact⟨by rw[seqIndex_neg (by lia) h1,e],by lia,h1,by lia⟩
  ·rw[if_neg h1] at h;cases h
theorem i0{α:Type}{xs:List α}{i:Int}{v:α}(h:bA xs i=some v):∃j,seqIndex? i xs.length=some j∧xs[j]?=some v∧j<xs.length∧ -(xs.length:Int)≤i∧i<xs.length:=by
 unfold bA at h
 cases e:eA xs.length i with
 | none=>rw[e] at h;cases h
 | some j=>
   rw[e] at h
   obtain⟨h1,h2,h3,h4⟩:=mD e
   exact⟨j,h1,h,h2,h3,h4⟩
theorem bu{α:Type}{xs:List α}{j:Nat}{v:α}(h:xs[j]?=some v):bA xs (j:Int)=some v:=by
 have hj:j<xs.length:=(List.getElem?_eq_some_iff.mp h).1
 have e:eA xs.length (j:Int)=some j:=by
  unfold eA
  rw[if_pos (by lia),if_pos (by lia)];simp
 unfold bA;rw[e];exact h
def vO(b:Expr):Prop:=∀o i,subscripted b false o i=operate [o,i] (getItem o i)
def gD(X:Cx)(r:R2):Prop:=
 ∀ (value slice:Expr) (pins:List (Addr×Obj)) (s:Shared) (σ:St) (H:Hp) (x y:V) (v u:Value) (Q:VK),Inv X pins σ H s→RelV x v→RelV y u→r x y H Q→
   subscripted slice false v u=operate [v,u] (getItem v u)→wpAny (model X.prog X.w) X.A (subscriptTail value slice v u) (EP X pins σ Q) X.xe s
def js(X:Cx)(id:String)(r:V→List V→Hp→VK→Prop):Prop:=
 ∀ (pins:List (Addr×Obj)) (s:Shared) (σ:St) (H:Hp) (x:V) (xs:List V) (v:Value) (us:List Value) (Q:VK),Inv X pins σ H s→RelV x v→Vals xs us→r x xs H Q→
   wpAny (model X.prog X.w) X.A (call (.builtin id) (v::us)) (EP X pins σ Q) X.xe s
section
variable{X:Cx}{a b:Expr}{ta tb:TE}{pos:Pos}
theorem aR{r:R2}(hr:gD X r)(ha:PE X a ta)(hb:PE X b tb)(hs:vO b):PE X (.Subscript a b pos) (cf r ta tb):=by
 intro pins s σ H Q I h
 exact Subscript_ (jD ha hb I h fun v u s2 x y H2 I2 rx ry q=>hr a b pins s2 σ H2 x y v u Q I2 rx ry q (hs _ _))
def mY(K:PySem.W.Frag):R2:=fun x y H Q=>∃p xs i v,x=.ref p∧y=.int i∧SqL K H p xs∧bA xs i=some v∧Q v H
def gW(K:PySem.W.Frag):R2:=fun x y H Q=>∃p xs i v,x=.ref p∧y=.int i∧SqT K H p xs∧bA xs i=some v∧Q v H
def vL:R2:=fun x y H Q=>∃z i c,x=.str z∧y=.int i∧z.length≤sizeLine∧bA z.cps.toList i=some c∧Q (.str ⟨#[c]⟩) H
theorem aZ:gD X (mY X.K):=by
 intro value slice pins s σ H x y v u Q I rx ry h hs
 obtain⟨p,xs,i,z,rfl,rfl,hq,he,q⟩:=h
 cases rx
 obtain⟨t,rfl⟩:=ry
 obtain⟨its,r,pl,hz⟩:=I.list hq
 obtain⟨j,h1,h2,h3,h4,h5⟩:=i0 he
 obtain⟨w,ew,rw'⟩:=r.get h2
 have hl:=r.length
 have hn:=ez
 have fin:EP X pins σ Q w s:=⟨z,H,I,rw',q⟩
 by_cases h0:0≤i
 ·have hj:i.toNat=j:=by
   rw[seqIndex_of h0 h5] at h1
   exact Option.some.inj h1
  exact item_listR pl.isList h0 (by lia) (by rw[hj];simpa using ew) fin hs
 ·have hj:(i+(its.toArray.size:Int)).toNat=j:=by
   rw[seqIndex_neg (by lia) h4] at h1
   rw[List.size_toArray,←hl]
   exact Option.some.inj h1
  exact subscriptTail_builtinR (x:=w) pl.isList.typeIs slot_list_getitem.lookup
   (wpAny_getItem_list_neg (Q:=fun r s'=>r=w∧EP X pins σ Q r s') pl.isList (by lia) (by rw[List.size_toArray] <;> lia) (by lia) (by rw[hj];simpa using ew) ⟨rfl,fin⟩) hs
theorem kR:gD X (gW X.K):=by
 intro value slice pins s σ H x y v u Q I rx ry h hs
 obtain⟨p,xs,i,z,rfl,rfl,hq,he,q⟩:=h
 cases rx
 obtain⟨t,rfl⟩:=ry
 obtain⟨its,r,pl,hz⟩:=I.tuple hq
 obtain⟨j,h1,h2,h3,h4,h5⟩:=i0 he
 obtain⟨w,ew,rw'⟩:=r.get h2
 have hl:=r.length
 have hn:=ez
 have fin:EP X pins σ Q w s:=⟨z,H,I,rw',q⟩
 exact subscriptTail_builtinR (x:=w) pl.typeIs slot_tuple_getitem.lookup
  (getItem_tuple (j:=j) (Q:=fun r s'=>r=w∧EP X pins σ Q r s') pl (by lia) (by lia) (by rw[List.size_toArray,←hl];exact h1) (by simpa using ew) ⟨rfl,fin⟩) hs
theorem li:gD X vL:=by
 intro value slice pins s σ H x y v u Q I rx ry h hs
 obtain⟨z,i,c,rfl,rfl,hz,he,q⟩:=h
 obtain⟨t,rfl⟩:=rx
 obtain⟨t',rfl⟩:=ry
 obtain⟨j,h1,h2,h3,h4,h5⟩:=i0 he
 have hl:z.cps.toList.length=z.length:=by simp[Str.length]
 rw[hl] at h1 h4 h5
 have hn:=ez
 exact tail_any (typeIs_str s z t) slot_str_getitem.lookup (getItem_str (c:=c) (by
  have e1:decide (i < -(2 ^ 63:Int))=false:=decide_eq_false (by lia)
  have e2:decide (i≥2 ^ 63)=false:=decide_eq_false (by lia)
  rw[e1,e2,Bool.or_false]) (by rw[h1];simpa using h2) ⟨.str ⟨#[c]⟩,H,I.tok _,⟨_,rfl⟩,q⟩) hs
theorem zu(its:List Value)(n j:Nat)(u:Value):Obj.mapSeq (·.setIfInBounds j u) {cls:=.type "list",data:=.seq its.toArray n}={cls:=.type "list",data:=.seq (its.set j u).toArray n}:=by
 simp[Obj.mapSeq]
theorem Inv.lst{pins:List (Addr×Obj)}{σ:St}{H:Hp}{s:Shared}{p:Addr}{xs:List V}(I:Inv X pins σ H s)(h:H p=some (.lst xs)):∃(its:List Value) (n:Nat),Vals xs its∧s.heap.get? p=some {cls:=.type "list",data:=.seq its.toArray n}∧xs.length≤sizeLine:=by
 obtain⟨z,its,n,r,e⟩:=I.hok p _ h
 exact⟨its,n,r,e,z⟩
theorem Inv.lstUpd{pins:List (Addr×Obj)}{σ:St}{H:Hp}{s:Shared}{p:Addr}{xs ys:List V}{its its':List Value}{n n':Nat}{f:Obj→Obj}(I:Inv X pins σ H s)(h:H p=some (.lst xs))(ho:s.heap.get? p=some {cls:=.type "list",data:=.seq its.toArray n})(hf:f {cls:=.type "list",data:=.seq its.toArray n}={cls:=.type "list",data:=.seq its'.toArray n'})(r:Vals ys its')(hz:ys.length≤sizeLine)(t:Nat):Inv X pins σ (upd H p (.lst ys)) {s with heap:=s.heap.update p f,toks:=t}:=by
 have e:(s.heap.update p f).get? p=some {cls:=.type "list",data:=.seq its'.toArray n'}:=by
  rw[Heap.get?_update_self f ho (by rw[hf] <;> rfl),hf]
 refine I.write (x:=p) (e:=p) (by rw[h];trivial) (.inl rfl) (fun b u hb q=>(Heap.get?_update_other _ _ (Ne.symm hb)).trans q) ⟨_,e⟩ ?_
 exact⟨hz,its',n',r,e⟩
def uZ:V→V→V→Hp→(Hp→Prop)→Prop:=fun o i v H Q=>∃p xs k j,o=.ref p∧i=.int k∧H p=some (.lst xs)∧eA xs.length k=some j∧Q (upd H p (.lst (xs.set j v)))
theorem nt:oq X uZ:=by
 intro pins s σ H o i v ov iv u Q I ro ri rv h
 obtain⟨p,xs,k,j,rfl,rfl,hp,hj,q⟩:=h
 cases ro
 obtain⟨t,rfl⟩:=ri
 obtain⟨its,n,r,ho,hz⟩:=I.lst hp
 obtain⟨h1,h2,h3,h4⟩:=mD hj
 have hl:=r.length
 have hn:=ez
 have I':Inv X pins σ (upd H p (.lst (xs.set j v))) {s with heap:=s.heap.update p (Obj.mapSeq (·.setIfInBounds j u))}:=
  I.lstUpd hp ho (zu its n j u) (r.set rv j) (by rw[List.length_set];exact hz) s.toks
 by_cases h0:0≤k
 ·have hk:k.toNat=j:=by
   rw[seqIndex_of h0 h4] at h1
   exact Option.some.inj h1
  exact PySem.W.ki_setAt ho h0 (by lia) (by rw[List.size_toArray,←hl];exact h4) (by rw[hk];exact⟨_,I',q⟩)
 ·have hk:(k+(its.toArray.size:Int)).toNat=j:=by
   rw[seqIndex_neg (by lia) h3] at h1
   rw[List.size_toArray,←hl]
   exact Option.some.inj h1
  exact PySem.W.ki_setBack ho (by lia) (by rw[List.size_toArray,←hl];exact h3) (by lia) (by rw[hk];exact⟨_,I',q⟩)
theorem si(lo hi:Option Int)(n:Nat):(sliceBounds lo hi none n).1=((HT.sIx n 0 lo:Nat):Int)∧(sliceBounds lo hi none n).2.1=((HT.sIx n n hi:Nat):Int)∧(sliceBounds lo hi none n).2.2=1:=by
 refine⟨?_,?_,rfl⟩
 ·cases lo with
  | none=>simp[sliceBounds,HT.sIx]
  | some i=>
    simp only[sliceBounds,HT.sIx,Option.getD_none,show(1:Int)>0 by decide,if_true]
    by_cases h:i<0
    ·simp only[h,if_true] <;> lia
    ·simp only[h,if_false] <;> lia
 ·cases hi with
  | none=>simp[sliceBounds,HT.sIx]
  | some i=>
    simp only[sliceBounds,HT.sIx,Option.getD_none,show(1:Int)>0 by decide,if_true]
    by_cases h:i<0
    ·simp only[h,if_true] <;> lia
    ·simp only[h,if_false] <;> lia
theorem sv(its:List Value)(lo hi:Option Int):slicePick its.toArray lo hi none=((its.drop (HT.sIx its.length 0 lo)).take (HT.sIx its.length its.length hi-HT.sIx its.length 0 lo)).toArray:=by
 obtain⟨h1,h2,h3⟩:=si lo hi its.toArray.size
 unfold slicePick
 rw[h1,h2,h3]
 simp only[sliceRange_one,pick_run,List.size_toArray] <;> rfl
def fA(K:PySem.W.Frag):V→Option Int→Option Int→Hp→VK→Prop:=fun x lo hi H Q=>∃a xs,x=.ref a∧SqL K H a xs∧∀p,H p=none→Q (.ref p) (upd H p (.lst (bp xs lo hi)))
theorem aO:mL X (fA X.K):=by
 intro pins s σ H x v vl vu lo hi sl Q I rx hs pl pu h
 obtain⟨a,xs,rfl,hx,q⟩:=h
 cases rx
 obtain⟨its,r,ht,hz⟩:=I.list hx
 have hlen:=r.length
 refine⟨"list",_,slot_list_getitem.lookup,ht.isList.typeIs,?_⟩
 refine wpAny_getItem_list_slice ht.isList hs pl pu .none (by simp) ?_ (by rw[List.size_toArray] <;> lia)
 rw[sv,←hlen]
 refine⟨.ref s.heap.objs.size,_,I.laid (t':=s.toks) (o:=.lst (bp xs lo hi)) (fun b ob q=>Heap.get?_push_of_some _ q) (Nat.le_refl _) ?_,rfl,q _ (I.hok.fresh (Nat.le_refl _))⟩
 exact⟨Nat.le_trans (uO xs lo hi) hz,_,0,(r.drop (HT.sIx xs.length 0 lo)).take (HT.sIx xs.length xs.length hi-HT.sIx xs.length 0 lo),Heap.get?_push_size _ rfl⟩
def nj:V→Bool
 | .non=>true
 | .bl _=>true
 | .int _=>true
 | .str _=>true
 | _=>false
def pD:V→V→Bool
 | .non,.non=>true
 | .bl a,.bl b=>a == b
 | .bl a,.int b=>(if a then 1 else 0) == b
 | .int a,.bl b=>a == (if b then 1 else 0)
 | .int a,.int b=>a == b
 | .str a,.str b=>a == b
 | _,_=>false
theorem qB{A:Around}{s:Shared}{y x:V}{u v:Value}(ry:RelV y u)(rx:RelV x v)(fy:nj y=true)(fx:nj x=true):SeqAt.EqAt A s u v (pD y x):=by
 cases y with
 | non=>
   cases ry
   cases x with
   | non=>cases rx;exact SeqAt.EqAt.same _
   | bl b=>cases rx;exact SeqAt.EqAt.none_bool b
   | int b=>obtain⟨t,rfl⟩:=rx;exact SeqAt.EqAt.none_int b t
   | str b=>obtain⟨t,rfl⟩:=rx;exact SeqAt.EqAt.none_str b t
   | _=>exact absurd (show false=true from fx) Bool.false_ne_true
 | bl a=>
   cases ry
   cases x with
   | non=>cases rx;exact SeqAt.EqAt.bool_none a
   | bl b=>cases rx;exact SeqAt.EqAt.bool_bool a b
   | int b=>obtain⟨t,rfl⟩:=rx;exact SeqAt.EqAt.bool_int a b t
   | str b=>obtain⟨t,rfl⟩:=rx;exact SeqAt.EqAt.bool_str a b t
   | _=>exact absurd (show false=true from fx) Bool.false_ne_true
 | int a=>
   obtain⟨t',rfl⟩:=ry
   cases x with
   | non=>cases rx;exact SeqAt.EqAt.int_none a t'
   | bl b=>cases rx;exact SeqAt.EqAt.int_bool a t' b
   | int b=>obtain⟨t,rfl⟩:=rx;exact SeqAt.EqAt.int_int a t' b t
   | str b=>obtain⟨t,rfl⟩:=rx;exact SeqAt.EqAt.int_str a t' b t
   | _=>exact absurd (show false=true from fx) Bool.false_ne_true
 | str a=>
   obtain⟨t',rfl⟩:=ry
   cases x with
   | non=>cases rx;exact SeqAt.EqAt.str_none a t'
   | bl b=>cases rx;exact SeqAt.EqAt.str_bool a t' b
   | int b=>obtain⟨t,rfl⟩:=rx;exact SeqAt.EqAt.str_int a t' b t
   | str b=>obtain⟨t,rfl⟩:=rx;exact SeqAt.EqAt.str_str a t' b t
   | _=>exact absurd (show false=true from fx) Bool.false_ne_true
 | _=>exact absurd (show false=true from fy) Bool.false_ne_true
theorem uC:cB X (.builtin "len") (fun xs H Q=>∃p ys,xs=[.ref p]∧(SqL X.K H p ys∨SqT X.K H p ys)∧Q (.int ys.length) H):=by
 intro pins s σ H xs us Q I r h
 obtain⟨p,ys,rfl,hq,q⟩:=h
 obtain⟨u,rfl,rx⟩:=eZ r
 cases rx
 have hn:=ez
 rcases hq with hq | hq
 ·obtain⟨its,r',pl,hz⟩:=I.list hq
  have hlen:=r'.length
  exact Calls.call_len_list pl.isList (by simp only[List.size_toArray] <;> lia) ⟨.int ys.length,H,I.tok _,⟨s.toks+1,by rw[List.size_toArray,hlen]⟩,q⟩
 ·obtain⟨its,r',pl,hz⟩:=I.tuple hq
  have hlen:=r'.length
  exact len_tuple pl (by simp only[List.size_toArray] <;> lia) ⟨.int ys.length,H,I.tok _,⟨s.toks+1,by rw[List.size_toArray,hlen]⟩,q⟩
theorem rF:cB X (.builtin "len") (fun xs H Q=>∃z,xs=[.str z]∧z.length≤sizeLine∧Q (.int z.length) H):=by
 intro pins s σ H xs us Q I r h
 obtain⟨z,rfl,hz,q⟩:=h
 obtain⟨u,rfl,t,rfl⟩:=eZ r
 have hn:=ez
 exact len_str (by lia) ⟨.int z.length,H,I.tok _,⟨_,rfl⟩,q⟩
theorem n4:cB X (.type "list") (fun xs H Q=>∃p ys,xs=[.ref p]∧(SqL X.K H p ys∨SqT X.K H p ys)∧∀l,H l=none→Q (.ref l) (upd H l (.lst ys))):=by
 intro pins s σ H xs us Q I r h
 obtain⟨p,ys,rfl,hq,q⟩:=h
 obtain⟨u,rfl,rx⟩:=eZ r
 cases rx
 have fin:∀(its:List Value),Vals ys its→ys.length≤sizeLine→∀(h':Heap) (c':Nat),(∀b o',s.heap.get? b=some o'→h'.get? b=some o')→
  h'.get? s.heap.objs.size=some {cls:=.type "list",dict:=none,data:=.seq its.toArray c',slots:=#[]}→EP X pins σ Q (.ref s.heap.objs.size) {s with heap:=h'}:=fun its r' hz h' c' kp e=>
  ⟨.ref s.heap.objs.size,_,I.laid (t':=s.toks) kp (Nat.le_refl _) (show ObjOk X.prog X.w _ h' _ (.lst ys) from⟨hz,its,c',r',e⟩),rfl,q _ (I.hok.fresh (Nat.le_refl _))⟩
 rcases hq with hq | hq
 ·obtain⟨its,r',pl,hz⟩:=I.list hq
  have hlen:=r'.length
  obtain⟨o,ho,hc,n,hd⟩:=pl.isList
  exact call_list_seq p (.inl rfl) ho hc hd (fun h' c' kp e=>fin its r' hz h' c' kp e) (by simp only[List.size_toArray] <;> lia)
 ·obtain⟨its,r',pl,hz⟩:=I.tuple hq
  have hlen:=r'.length
  obtain⟨o,ho,hc,n,hd⟩:=pl
  exact call_list_seq p (.inr rfl) ho hc hd (fun h' c' kp e=>fin its r' hz h' c' kp e) (by simp only[List.size_toArray] <;> lia)
theorem sZ:cB X (.type "tuple") (fun xs H Q=>∃p ys,xs=[.ref p]∧((SqL X.K H p ys∧∀l,H l=none→Q (.ref l) (upd H l (.tup ys)))∨(SqT X.K H p ys∧Q (.ref p) H))):=by
 intro pins s σ H xs us Q I r h
 obtain⟨p,ys,rfl,h⟩:=h
 obtain⟨u,rfl,rx⟩:=eZ r
 cases rx
 rcases h with⟨hq,q⟩ | ⟨hq,q⟩
 ·obtain⟨its,r',pl,hz⟩:=I.list hq
  have hlen:=r'.length
  refine call_tuple_list pl.isList (fun h' kp=>?_) (by simp only[List.size_toArray] <;> lia)
  have I1:Inv X pins σ H {s with heap:=h'}:=I.kept (t':=s.toks) kp
  have I2:Inv X pins σ (upd H h'.objs.size (.tup ys)) {s with heap:=h'.push {cls:=.type "tuple",data:=.seq its.toArray}}:=
   I1.laid (t':=s.toks) (fun b o e=>Heap.get?_push_of_some _ e) (Nat.le_refl _) (show ObjOk X.prog X.w _ _ _ (.tup ys) from⟨hz,its,r',IsTup.new _ _⟩)
  exact⟨.ref h'.objs.size,_,I2,rfl,q _ (I1.hok.fresh (Nat.le_refl _))⟩
 ·obtain⟨its,r',pl,hz⟩:=I.tuple hq
  exact call_tuple_same pl ⟨.ref p,H,I,rfl,q⟩
def qc(K:PySem.W.Frag)(T:String)(x:V)(H:Hp):Prop:=match x with
 | .str _=>T="str"
 | .int _=>T="int"
 | .ref p=>(T="list"∧∃xs,SqL K H p xs)∨(T="tuple"∧∃o,K.lookup p=some o∧o.cls=.type "tuple"∧o.dict=none)∨
  (T="dict"∧((∃kvs,H p=some (.dK kvs))∨∃kvs,H p=some (.dT kvs)))∨(T="set"∧∃S n,H p=some (.set S n))
 | _=>False
theorem nY{pins:List (Addr×Obj)}{σ:St}{H:Hp}{s:Shared}{T:String}{x:V}{v:Value}(I:Inv X pins σ H s)(r:RelV x v)(ty:qc X.K T x H):s.TypeIs v T∧∀a,v=.ref a→∃ob,s.heap.get? a=some ob∧ob.dict=none:=by
 cases x with
 | str z=>
   obtain⟨t,rfl⟩:=r
   cases(show T="str" from ty)
   exact⟨typeIs_str s z t,fun _ e=>nomatch e⟩
 | int i=>
   obtain⟨t,rfl⟩:=r
   cases(show T="int" from ty)
   exact⟨typeIs_int s i t,fun _ e=>nomatch e⟩
 | ref p=>
   cases r
   rcases ty with⟨rfl,xs,hq⟩ | ⟨rfl,o,hk,hc,hd⟩ | ⟨rfl,hk⟩ | ⟨rfl,S,n,hk⟩
   ·obtain⟨its,_,pl,_⟩:=I.list hq
    refine⟨pl.isList.typeIs,fun a e=>?_⟩
    cases e
    obtain⟨o,n,e,c,hd,_⟩:=pl
    exact⟨o,e,hd⟩
   ·refine⟨⟨o,I.kIn p o hk,hc⟩,fun a e=>?_⟩
    cases e
    exact⟨o,I.kIn _ o hk,hd⟩
   ·have z:∃o,s.heap.get? p=some o∧o.ExactDict:=by
     rcases hk with⟨kvs,hk⟩ | ⟨kvs,hk⟩
     ·obtain⟨_,_,_,_,o,_,_,e,ex,_⟩:=I.hok p _ hk
      exact⟨o,e,ex⟩
     ·obtain⟨_,_,_,_,o,_,_,e,ex,_⟩:=I.hok p _ hk
      exact⟨o,e,ex⟩
    obtain⟨o,e,ex⟩:=z
    refine⟨⟨o,e,ex.1⟩,fun a e2=>?_⟩
    cases e2
    exact⟨o,e,ex.2.1⟩
   ·obtain⟨o,_,_,_,e,ex,_⟩:=I.hok p _ hk
    refine⟨⟨o,e,ex.1⟩,fun a e2=>?_⟩
    cases e2
    exact⟨o,e,ex.2.1⟩
 | _=>exact False.elim ty
def xi(K:PySem.W.Frag)(T:String)(r:V→List V→Hp→VK→Prop)(to:TE)(t:TA):TE:=fun σ H Q=>to σ H fun x H1=>qc K T x H1∧t σ H1 fun xs H2=>r x xs H2 Q
variable{o e:Expr}{es:List Expr}{to:TE}{t:TA}{name:Str}{apos cpos:Pos}{T id:String}{r:V→List V→Hp→VK→Prop}
theorem fk(pa:PlainAttrs T)(slot:Slot T name id)(hty:typeOf (.builtin id)=pure (.type "method_descriptor"))(hm:js X id r)(ho:PE X o to)(ha:PA X (e::es) t)(hbase:attributeBase o name X.env (eval o X.env)=eval o X.env:=by rfl)
 (hfew:((backTo cpos (starEach (e::es) X.env)).all (fun x=>!x.1) && (backToKw cpos (keywordEach [] X.env)).all (fun x=>x.1.isSome)
  && decide ((e::es).length+([]:List Keyword).length+(if([]:List Keyword).isEmpty then 0 else 1)<30))=true:=by rfl)
 (hline:(apos.endLine == cpos.line)=true:=by rfl)(hs:starEach (e::es) X.env=(false,eval e X.env)::starEach es X.env:=by rfl)(hplain:(backTo cpos (starEach es X.env)).any (·.1)=false:=by rfl):
 PE X (.Call (.Attribute o name apos) (e::es) [] cpos) (xi X.K T r to t):=by
 intro pins s σ H Q I h
 refine wpAny_Call_method_late hbase hfew hline rfl (ap (ho pins s σ H _ I h) fun v s1 ⟨x,H1,I1,r1,ty,q1⟩=>?_)
 obtain⟨h1,h2⟩:=nY I1 r1 ty
 refine⟨T,id,pa,slot,hty,h1,h2,?_⟩
 have hA:=ha cpos pins s1 σ H1 _ I1 q1
 rw[hs] at hA ⊢
 refine Calls.callWith_builtin (by show(false || (backTo cpos (starEach es X.env)).any (·.1))=false;rw[hplain] <;> rfl) (Calls.evalArgs_plain ?_)
 exact ap hA fun us s2 ⟨vs,H2,I2,r2,q2⟩=>hm pins s2 σ H2 x vs v us Q I2 r1 r2 q2
end
def qx(X:Cx)(id:String)(r:V→List V→Hp→VK→Prop):Prop:=
 ∀ (pins:List (Addr×Obj)) (s:Shared) (σ:St) (H:Hp) (x:V) (xs:List V) (v:Value) (us:List Value) (Q:VK),Inv X pins σ H s→RelV x v→Vals xs us→r x xs H Q→
   wpAny (model X.prog X.w) X.A (call (.builtin id) (v::us)) (EP X pins σ Q) X.xe s
theorem Vals.one:∀{x:V} {us:List Value},Vals [x] us→∃u,us=[u]∧RelV x u
 | _,_,.cons r .nil=>⟨_,rfl,r⟩
theorem Vals.two:∀{x y:V} {us:List Value},Vals [x,y] us→∃u v,us=[u,v]∧RelV x u∧RelV y v
 | _,_,_,.cons r (.cons q .nil)=>⟨_,_,rfl,r,q⟩
theorem Vals.reverse{xs:List V}{us:List Value}(h:Vals xs us):Vals xs.reverse us.reverse:=by
 induction h with
 | nil=>exact .nil
 | cons r t ih=>rw[List.reverse_cons,List.reverse_cons];exact Vals.append ih (.cons r .nil)
theorem Vals.rep{xs:List V}{us:List Value}(h:Vals xs us):∀k:Nat,Vals (List.replicate k xs).flatten (List.replicate k us).flatten
 | 0=>.nil
 | k+1=>by
   rw[List.replicate_succ,List.replicate_succ,List.flatten_cons,List.flatten_cons]
   exact Vals.append h (Vals.rep h k)
theorem nA(its:List Value):∀(k:Nat) (acc:List Value),List.foldl (fun x1 x2=>x1++x2) acc.toArray (List.replicate k its.toArray)=(acc++(List.replicate k its).flatten).toArray
 | 0,acc=>by simp
 | k+1,acc=>by
   have e:acc.toArray++its.toArray=(acc++its).toArray:=by simp
   have e2:(acc++its)++(List.replicate k its).flatten=acc++(List.replicate (k+1) its).flatten:=by
    rw[List.replicate_succ,List.flatten_cons,List.append_assoc]
   rw[←e2,←nA its k (acc++its),←e,List.replicate_succ,List.foldl_cons]
section
variable{X:Cx}{pins:List (Addr×Obj)}{σ:St}{H:Hp}{s:Shared}{l b:Addr}{xs ys zs:List V}
theorem Inv.lset{its its':List Value}{n:Nat}{f:Array Value→Array Value}{t':Nat}(I:Inv X pins σ H s)(hH:H l=some (.lst xs))(e:s.heap.get? l=some {cls:=.type "list",data:=.seq its.toArray n})(hf:f its.toArray=its'.toArray)(hv:Vals ys its')(hz:ys.length≤sizeLine):Inv X pins σ (upd H l (.lst ys)) {s with heap:=s.heap.update l (Obj.mapSeq f),toks:=t'}:=by
 have q:=PySem.IsL.update e f
 rw[hf] at q
 refine I.write (x:=l) (e:=l) (by rw[hH];exact trivial) (.inl rfl) (fun b' u hb hu=>(Heap.get?_update_other s.heap (Obj.mapSeq f) (Ne.symm hb)).trans hu) ⟨_,q⟩ ?_
 exact⟨hz,its',_,hv,q⟩
theorem Inv.lnew{its:List Value}{t':Nat}(I:Inv X pins σ H s)(hv:Vals ys its)(hz:ys.length≤sizeLine):Inv X pins σ (upd H s.heap.objs.size (.lst ys)) {s with heap:=s.heap.push {cls:=.type "list",data:=.seq its.toArray},toks:=t'}:=
 I.laid (fun _ _ q=>Heap.get?_push_of_some _ q) (Nat.le_refl _) ⟨hz,its,0,hv,Heap.get?_push_size _ rfl⟩
theorem Inv.fresh(I:Inv X pins σ H s):H s.heap.objs.size=none:=I.hok.fresh (Nat.le_refl _)
theorem Inv.lstM(I:Inv X pins σ H s)(hH:H l=some (.lst xs)):xs.length≤sizeLine∧∃(its:List Value) (n:Nat),Vals xs its∧xs.length=its.length∧s.heap.get? l=some {cls:=.type "list",data:=.seq its.toArray n}:=by
 obtain⟨z,its,n,r,e⟩:=I.hok l _ hH
 exact⟨z,its,n,r,r.length,e⟩
theorem ny{n:Nat}(h:n≤sizeLine):Builtin.List.listTooLong n=false:=by
 unfold Builtin.List.listTooLong
 exact decide_eq_false (by lia)
end
section
variable{X:Cx}
def qQ:V→List V→Hp→VK→Prop:=fun x vs H Q=>∃l xs y,x=.ref l∧vs=[y]∧H l=some (.lst xs)∧xs.length<sizeLine∧Q .non (upd H l (.lst (xs++[y])))
theorem iN:qx X "list.append" qQ:=by
 intro pins s σ H x vs v us Q I rx rv h
 obtain⟨l,xs,y,rfl,rfl,hH,hz,q⟩:=h
 cases rx
 obtain⟨u,rfl,ru⟩:=rv.one
 obtain⟨z,its,n,r,hl,e⟩:=I.lstM hH
 refine call_meets F.slot_list_append ⟨_,e,rfl⟩ F.entry_list_append (F.args_list_append_2 _ _) (PySem.list_append l its.toArray n u (by rw[List.size_toArray];lia)) ⟨e,?_⟩
 refine⟨.non,_,I.lset (its':=its++[u]) hH e (by simp) (r.append (.cons ru .nil)) ?_,rfl,q⟩
 rw[List.length_append,List.length_singleton]
 lia
def yo:V→List V→Hp→VK→Prop:=fun x vs H Q=>∃l b xs zs,x=.ref l∧vs=[.ref b]∧H l=some (.lst xs)∧H b=some (.lst zs)∧xs.length+zs.length≤sizeLine∧Q .non (upd H l (.lst (xs++zs)))
theorem zx:qx X "list.extend" yo:=by
 intro pins s σ H x vs v us Q I rx rv h
 obtain⟨l,b,xs,zs,rfl,rfl,hH,hB,hz,q⟩:=h
 cases rx
 obtain⟨u,rfl,ru⟩:=rv.one
 cases ru
 obtain⟨z,its,n,r,hl,e⟩:=I.lstM hH
 obtain⟨z2,its2,n2,r2,hl2,e2⟩:=I.lstM hB
 have hsz:its.toArray.size+its2.toArray.size≤sizeLine:=by rw[List.size_toArray,List.size_toArray];lia
 have hlong:¬(!its.toArray.isEmpty && Builtin.List.listTooLong (its.toArray.size+its2.toArray.size))=true:=by
  rw[ny hsz,Bool.and_false]
  exact Bool.false_ne_true
 refine call_meets F.slot_list_extend ⟨_,e,rfl⟩ F.entry_list_extend (F.args_list_extend_2 _ _)
  (AutoSeq1.list_extend_list_list_0 l its.toArray n b its2.toArray n2 hlong (by rw[List.size_toArray];lia) (by lia)) ⟨e,e2,?_⟩
 refine⟨.non,_,I.lset (its':=its++its2) hH e (by simp) (r.append r2) ?_,rfl,q⟩
 rw[List.length_append]
 lia
def jF:R2:=fun x y H Q=>∃l b xs zs,x=.ref l∧y=.ref b∧H l=some (.lst xs)∧H b=some (.lst zs)∧xs.length+zs.length≤sizeLine∧∀p,H p=none→Q (.ref p) (upd H p (.lst (xs++zs)))
theorem bZ:OpR X (binaryOp .Add) jF:=by
 intro pins s σ H x y v u Q I rx ry h
 obtain⟨l,b,xs,zs,rfl,rfl,hH,hB,hz,q⟩:=h
 cases rx
 cases ry
 obtain⟨z,its,n,r,hl,e⟩:=I.lstM hH
 obtain⟨z2,its2,n2,r2,hl2,e2⟩:=I.lstM hB
 refine PySem.P.add_list e e2 ?_ (by rw[List.size_toArray,List.size_toArray];lia)
 have ea:its.toArray++its2.toArray=(its++its2).toArray:=by simp
 rw[ea]
 exact⟨.ref _,_,I.lnew (t':=s.toks) (r.append r2) (by rw[List.length_append];lia),rfl,q _ I.fresh⟩
def uR:R2:=fun x y H Q=>∃l k xs,x=.ref l∧y=.int k∧H l=some (.lst xs)∧ -(2 ^ 63)≤k∧k<2 ^ 63∧xs.length*k.toNat≤sizeLine∧
 ∀p,H p=none→Q (.ref p) (upd H p (.lst (List.replicate k.toNat xs).flatten))
theorem vZ{α:Type}(xs:List α)(k:Nat):(List.replicate k xs).flatten.length=k*xs.length:=by
 induction k with
 | zero=>simp
 | succ k ih=>rw[List.replicate_succ,List.flatten_cons,List.length_append,ih,Nat.succ_mul,Nat.add_comm]
theorem oO:OpR X (binaryOp .Mult) uR:=by
 intro pins s σ H x y v u Q I rx ry h
 obtain⟨l,k,xs,rfl,rfl,hH,h1,h2,hz,q⟩:=h
 cases rx
 obtain⟨t,rfl⟩:=ry
 obtain⟨z,its,n,r,hl,e⟩:=I.lstM hH
 have hlen:its.toArray.size*k.toNat≤sizeLine:=by rw[List.size_toArray,←hl];exact hz
 have hcap:¬its.toArray.size*k.toNat>(2 ^ 63-1) / 8:=by
  have:(sizeLine:Nat)≤(2 ^ 63-1) / 8:=by decide
  lia
 have hfit:¬(!Builtin.List.listFitsIndex k)=true:=by
  rw[fitsIndex_both h1 h2]
  exact Bool.false_ne_true
 have hlong:¬Builtin.List.listTooLong (its.toArray.size*k.toNat)=true:=by
  rw[ny hlen]
  exact Bool.false_ne_true
 have hnew:List.foldl (fun x1 x2=>x1++x2) #[] (List.replicate (if its.toArray.isEmpty=true then 0 else k.toNat) its.toArray)=(List.replicate k.toNat its).flatten.toArray:=by
  have f0:∀m:Nat,List.foldl (fun x1 x2=>x1++x2) #[] (List.replicate m its.toArray)=(List.replicate m its).flatten.toArray:=fun m=>by
   have:=nA its m []
   rw[List.nil_append] at this
   exact this
  rw[f0]
  cases its with
  | nil=>simp
  | cons a r'=>rw[if_neg (by simp)]
 refine wpAny_binaryOp_repeat_ref (T:="list") (U:="int") (by decide) ⟨_,e,rfl⟩ (fun s'=>typeIs_int s' k t) noFill_list_mul F.fills_int_mul F.slot_int_rmul repeat_list F.slot_int_index.lookup
  (call_meets F.slot_int_rmul (typeIs_int s k t) F.entry_int_rmul (F.args_int_rmul_2 _ _) (int___rmul___int_list k t l its.toArray n)
   ⟨e,rfl,⟨_,e,rfl⟩,call_meets F.slot_list_mul ⟨_,e,rfl⟩ F.entry_list_mul (F.args_list_mul_2 _ _) (AutoListH.list___mul___list_int_3 l its.toArray n k t hfit hcap hlong) ⟨e,?_⟩⟩)
 rw[hnew]
 exact⟨.ref _,_,I.lnew (t':=s.toks) (r.rep k.toNat) (by rw[vZ,Nat.mul_comm];exact hz),rfl,q _ I.fresh⟩
end
section
variable{prog:Program}{w:World}{A:Around}{E:Value→Shared→Prop}{s:Shared}
set_option maxRecDepth 100000 in
end
section
variable{X:Cx}
end
end L2
namespace Att
open PySem PySem.W PySem.Calls PyProof.Rows
theorem we{P:Params}{h:Heap}:∀(ns:List Int) (vs:List Value),WellAll P h vs (ns.map WData.int)→IntsAre vs ns:=by
 intro ns
 induction ns with
 | nil=>
   intro vs w
   rw[List.map_nil] at w
   cases w
   exact .nil
 | cons n ns ih=>
   intro vs w
   rw[List.map_cons] at w
   cases w with
   | cons a b=>
     cases a
     exact .cons _ _ (ih _ b)
theorem vN{l:OpenLaw}{n:Nat}(hn:l.most=some n){P:Params}{h:Heap}{args:List WData}{vals:List Value}(hpre:l.row.toRowW.claim.pre args=true)(hwl:WellAll P h vals args):∃a vs ns,vals=[Value.ref a]∧args=[WData.list (ns.map WData.int)]∧h.get? a=some {cls:=.type "list",data:=.seq vs.toArray}∧IntsAre vs ns∧ns.length≤n:=by
 have hsh:WShape.hasAll [] args [.list .int]=true:=(pre_splitW hpre).1
 have hc:l.pre.holds [] {args:=args}=true:=(pre_splitW hpre).2
 obtain⟨d,r,rfl,h1,h2⟩:=hasAllW_cons hsh
 obtain rfl:=hasAllW_nil h2
 obtain⟨xs,rfl,h3⟩:=hasW_list h1
 obtain⟨ns,rfl⟩:=items_int h3
 have hlen:ns.length≤n:=by
  unfold OpenLaw.pre at hc
  have h4:(WTm.not (.lt (.lit (.int (n:Int))) (.len (.arg 0)))).holds [] {args:=[.list (ns.map .int)]}=true:=by
   have h4:=(holds_andW hc).1
   rw[hn] at h4
   exact h4
  have h5:=condW_of h4 (w_not (w_lt w_lit (w_len_list (w_arg rfl))))
  rw[List.length_map] at h5
  refine Nat.le_of_not_lt fun q=>?_
  have q':(n:Int)<((ns.length:Nat):Int):=by lia
  first
   | (rw[decide_eq_true q'] at h5;exact absurd h5 (by decide))
   | (simp at h5;lia)
 cases hwl with
 | cons w1 w2=>
   cases w2
   cases w1 with
   | list ho hall=>exact⟨_,_,ns,rfl,rfl,ho,we ns _ hall,hlen⟩
theorem rq(l:OpenLaw)(args:List WData):l.row.toRowW.claim.post args (.bool true) args=true:=
 postW_of (r:=l.row.toRowW) (X:=(true == true))
  (show WShape.has [] (.bool true) .bool=true by first | rfl | decide | simp[WShape.has,WShape.arms,WShape.armsAll])
  (show(WTm.eq .res (.lit (.bool true))).value [] {args:=args,res:=some (.bool true),after:=args}=some (.bool (true == true)) from w_eq_bool (w_res rfl) w_lit) rfl
theorem attach_call{l:OpenLaw}{n:Nat}{q:Program}{loose:List Str}{XP:(Str→Option Value)→Heap→Prop}{YP:World→Heap→Prop}{d:DefRec}(hn:l.most=some n)(hdf:d.params.defaults=[])(call:∀(w:World) (s₀ s₁:Shared) (mg mb:Str→Option Value) (fa:Addr) (o:Obj) (pm cd doc:Value) (a:Addr) (vs:List Value) (ns:List Int),Ground q loose [] XP w s₀ mg mb s₁.heap→YP w s₁.heap→s₁.heap.get? fa=some o→o.data=.func (docDef d.name d.params d.body d.scope pm cd doc)→s₁.heap.CodeRec cd d.name→mg d.name=some (.ref fa)→s₁.heap.get? a=some {cls:=.type "list",data:=.seq vs.toArray}→IntsAre vs ns→ns.length≤n→s₁.gens=#[]→codeAny (model l.prog w) callerA (.call (.ref fa) ⟨[.ref a],[]⟩) (fun r s'=>r=.ok (.ret (.bool true))∧OldK s₁.heap s'.heap∧s'.os=s₁.os∧AllBare s'.gens) s₁):
 WalkO q loose XP YP l.row.toRowW d [] (fun f vs=>PySem.call f vs):=by
 intro w s₀ s₁ mg mb G Y fa o pm cd doc dV kV ho hd hcd hD hmg hg args vals as hpre hlay hrd hwl hlo
 obtain rfl:dV=.none:=Dflts.none hD hdf
 obtain rfl:kV=.none:=Dflts.noKw hD
 obtain⟨a,vs,ns,rfl,rfl,hobj,hints,hlen⟩:=vN hn hpre hwl
 refine enter_call (codeAny_mono (call w s₀ s₁ mg mb fa o pm cd doc a vs ns G Y ho (fd_plain hd) hcd hmg hobj hints hlen hg) fun r s' hq=>?_)
 obtain⟨rfl,h2,h3,h4⟩:=hq
 exact⟨.inl ⟨.bool true,.bool true,[],rfl,fun _=>rfl,.bool true,rq l _,fun _=>⟨List.Pairwise.nil,fun _ hm=>(nomatch hm)⟩⟩,h2,h3,h4⟩
section
variable{prog:Program}{w:World}{A:Around}{E:Value→Shared→Prop}{s:Shared}{K:Frag}
def zD(h:Heap)(L d:Addr):List (Addr×Obj):=(List.range h.objs.size).filterMap fun a=>if a=L∨a=d then none else(h.get? a).map fun o=>(a,o)
end
end Att
namespace L2
open PySem PySem.Spec PyProof.Rows
theorem nF:∀{vs:List Value} {ns:List Int},IntsAre vs ns→Vals (ns.map V.int) vs
 | _,_,.nil=>.nil
 | _,_,.cons n t h=>.cons ⟨t,rfl⟩ (nF h)
abbrev zF{K:PySem.W.Frag}{h:Heap}(_:K.In h):PySem.W.Frag:=K
def cE(s:Stmt):Arguments:=match s with
 | .FunctionDef _ a _ _ _ _ _ _ _ _=>a
 | _=>{posonlyargs:=[],args:=[],vararg:=none,kwonlyargs:=[],kw_defaults:=[],kwarg:=none,defaults:=[]}
def bw(s:Stmt):List Stmt:=match s with
 | .FunctionDef _ _ b _ _ _ _ _ _ _=>b
 | _=>[]
def au(s:Stmt):Scope:=match s with
 | .FunctionDef _ _ _ _ _ _ sc _ _ _=>sc
 | _=>{kind:=.function,names:=[],isGenerator:=false,isCoroutine:=false}
abbrev ae:bN:=fun _ _ _ _ _ _=>False
abbrev E0:XK:=fun _ _ _=>False
theorem aj{X:Cx}:gY ae X E0:=fun _ _ _ _ _ _ _ h=>h.elim
structure Fun(K:PySem.W.Frag)(x qual:Str)(st:Stmt)(f:Addr)(fd:FuncData):Prop where
 ex:∃(oc:Value) (od:Option Addr) (kV doc pm:Value) (an:Option Addr) (cdv ct:Value) (osl:Array (Option Value)),
  fd=PySem.W.fnOf x qual (cE st) (bw st) (au st) .none kV doc pm an cdv ct∧K.lookup f=some ⟨oc,od,.func fd,osl⟩∧PySem.W.codeIn K cdv qual=true
 kp:PySem.W.keepIn K (.ref f)=true
section
variable{P:Program}{w:World}{K:PySem.W.Frag}{mg:Str→Option Value}{base:Heap}
theorem Fun.ok{x qual:Str}{st:Stmt}{f:Addr}{fd:FuncData}{N ps:List Str}{k:Nat}{sp:Sp}(F:Fun K x qual st f fd)(S:FnScope N ps (au st))(len:∀vs H Q E,sp vs H Q E→vs.length=ps.length)(hbody:∀(cdv:Value) (A:Around) (outer:List Env) (s:Shared) (H:Hp) (vs:List V) (Q:VK) (E:XK),Room k (A.deeper (envOfC qual (au st) s.heap.objs.size f cdv))→sp vs H Q E→∃t,PSs (bY ae P w K mg base N qual (au st) f cdv A outer s H E).nox (bw st) t∧t {nx:=fun _ H'=>Q .non H',rt:=Q} (cV N vs) H):FnOk P w K mg base ae (k+1) f fd ps sp:=by
 obtain⟨oc,od,kV,doc,pm,an,cdv,ct,osl,rfl,lk,hcd⟩:=F.ex
 refine iP lk hcd S len fun A outer s H vs Q E hr hsp=>?_
 obtain⟨t,h,q⟩:=hbody cdv A outer s H vs Q E hr hsp
 exact⟨t,h.nox,q⟩
theorem Fun.binds{x qual:Str}{st:Stmt}{f:Addr}{fd:FuncData}{ps:List Str}(F:Fun K x qual st f fd)(h:∀(kV doc pm:Value) (an:Option Addr) (cdv ct:Value) (us:List Value),us.length=ps.length→bindArgs (PySem.W.fnOf x qual (cE st) (bw st) (au st) .none kV doc pm an cdv ct) ⟨us,[]⟩=pure (ps.zip us)):Binds K fd ps []:=by
 obtain⟨oc,od,kV,doc,pm,an,cdv,ct,osl,rfl,lk,hcd⟩:=F.ex
 exact .all (h kV doc pm an cdv ct)
theorem iE{x qual:Str}{st:Stmt}{f:Addr}{oc:Value}{od an:Option Addr}{osl:Array (Option Value)}{kV doc pm cdv ct:Value}(l:K.lookup f=some ⟨oc,od,.func (PySem.W.fnOf x qual (cE st) (bw st) (au st) .none kV doc pm an cdv ct),osl⟩)(c:PySem.W.codeIn K cdv qual=true)(k:PySem.W.keepIn K (.ref f)=true):Fun K x qual st f (PySem.W.fnOf x qual (cE st) (bw st) (au st) .none kV doc pm an cdv ct):=⟨⟨oc,od,kV,doc,pm,an,cdv,ct,osl,rfl,l,c⟩,k⟩
end
theorem vg{A:Around}{k:Nat}(hr:Room k A):A.units+1<cLine:=Nat.lt_of_le_of_lt (Nat.add_le_add_left (by decide:1≤64) _) hr.units
theorem bi{n:Nat}(h:n≤1000):n<sizeLine:=Nat.lt_of_le_of_lt h (by decide)
section
variable{X:Cx}
theorem pv(i:Nat){x:Str}{pos:Pos}(hN:X.N[i]?=some x:=by rfl)(hv:im X.env.scope x:=by first | exact Or.inl rfl | exact Or.inr (Or.inl rfl) | exact Or.inr (Or.inr rfl))(hd:(x == ("__debug__":Str))=false:=by decide)
 (hcd:(x == ("__classdict__":Str))=false:=by decide):PE X (.Name x pos) (bo i):=ue hN hv hd hcd
end
theorem a9{A B:Prop}(h:B):if false=true then A else B:=by
 rw[if_neg Bool.false_ne_true]
 exact h
theorem bh{A B:Prop}(h:A):if true=true then A else B:=by
 rw[if_pos rfl]
 exact h
theorem bf{c A B:Prop}[Decidable c](h1:c→A)(h2:¬c→B):if c then A else B:=by
 by_cases h:c
 ·rw[if_pos h]
  exact h1 h
 ·rw[if_neg h]
  exact h2 h
def Same(H H':Hp):Prop:=∀b o,H b=some o→H' b=some o
theorem Same.refl(H:Hp):Same H H:=fun _ _ h=>h
theorem Same.trans{H H1 H2:Hp}(a:Same H H1)(b:Same H1 H2):Same H H2:=fun c o h=>b c o (a c o h)
theorem Same.free{H H':Hp}(e:Same H H'){l:Addr}(h:H' l=Option.none):H l=Option.none:=by
 cases q:H l with
 | none=>rfl
 | some o=>
   rw[e l o q] at h
   cases h
theorem Same.seq{K:PySem.W.Frag}{H H':Hp}{a:Addr}{xs:List V}(e:Same H H')(h:SqL K H a xs):SqL K H' a xs:=by
 rcases h with(h | ⟨o,h⟩) | h
 ·exact .inl (.inl (e _ _ h))
 ·exact .inl (.inr ⟨o,e _ _ h⟩)
 ·exact .inr h
end L2
set_option maxHeartbeats 4000000
namespace L2
open PySem PySem.Spec PyProof.Rows
def fR(outer sc:Scope)(x:Str)(M N:List Str):Bool:=
 decide (sc.kind=.function) && sc.names.all (fun y=>decide (y.2≠ .cell)) && sc.names.all (fun y=>decide (y.2=.local→sc.names.lookup y.1=some .local)) && decide (sc.names.lookup x=some .local) &&
 sc.names.all (fun y=>decide (y.2=.free→(outer.names.lookup y.1=some .cell∨outer.names.lookup y.1=some .free))) &&
 decide ((M++[x]).Nodup) && decide (M.length=N.length) && (M.zip N).all (fun p=>decide (p.1=p.2∨sc.names.lookup p.1=none)) && M.all (fun y=>decide (sc.names.lookup y≠some .local))
theorem jB{env:Env}:∀{names:List (Str×NameKind)} {x:Str} {k':NameKind},(names.map fun(n,k)=>if(k == NameKind.free && env.scope.kind == .function && env.kindOf n == some .cell) then(n,NameKind.cell) else(n,k)).lookup x=some k'→
 ∃k,names.lookup x=some k∧(k'=k∨(k=.free∧k'=.cell))
 | [],_,_,h=>by simp at h
 | (n,k)::r,x,k',h=>by
   have ih:= @jB env r x k'
   have h':List.lookup x ((if(k == NameKind.free && env.scope.kind == .function && env.kindOf n == some .cell)=true then(n,NameKind.cell) else(n,k))::_)=some k':=h
   cases hx:x == n with
   | true=>
     by_cases hc:((k == NameKind.free && env.scope.kind == .function && env.kindOf n == some .cell))=true
     ·rw[if_pos hc] at h'
      simp only[List.lookup_cons,hx] at h'
      refine⟨k,by simp[List.lookup_cons,hx],.inr ⟨?_,(Option.some.inj h').symm⟩⟩
      simp only[Bool.and_eq_true,beq_iff_eq] at hc
      exact hc.1.1
     ·rw[if_neg hc] at h'
      simp only[List.lookup_cons,hx] at h'
      exact⟨k,by simp[List.lookup_cons,hx],.inl (Option.some.inj h').symm⟩
   | false=>
     have h'':List.lookup x (r.map fun(n,k)=>if(k == NameKind.free && env.scope.kind == .function && env.kindOf n == some .cell) then(n,NameKind.cell) else(n,k))=some k':=by
      by_cases hc:((k == NameKind.free && env.scope.kind == .function && env.kindOf n == some .cell))=true
      ·rw[if_pos hc] at h';simp only[List.lookup_cons,hx] at h';exact h'
      ·rw[if_neg hc] at h';simp only[List.lookup_cons,hx] at h';exact h'
     obtain⟨k0,a,b⟩:=ih h''
     exact⟨k0,by simp only[List.lookup_cons,hx];exact a,b⟩
theorem iG{env:Env}:∀(names:List (Str×NameKind)) (cs:List (Str×Addr)),(∀y∈names,y.2=.free→∃c,env.cells.lookup y.1=some c)→(∀y c,cs.lookup y=some c→env.cells.lookup y=some c)→∃cl,(forIn names cs fun(x:Str×NameKind) (r:List (Str×Addr))=>(if(x.2 == NameKind.free)=true then(do let a←cellOf env x.1;pure (ForInStep.yield ((x.1,a)::r))) else pure (ForInStep.yield r):Sem _))=pure cl∧
 (∀y c,cl.lookup y=some c→env.cells.lookup y=some c)∧(∀y,((∃c,cs.lookup y=some c)∨(y,NameKind.free)∈names)→∃c,cl.lookup y=some c)
 | [],cs,_,hc=>⟨cs,rfl,hc,fun y h=>by
  rcases h with h | h
  ·exact h
  ·cases h⟩
 | (n,k)::r,cs,hf,hc=>by
   by_cases hk:k=.free
   ·subst hk
    obtain⟨a,ha⟩:=hf (n,.free) List.mem_cons_self rfl
    have hc':∀y c,List.lookup y ((n,a)::cs)=some c→env.cells.lookup y=some c:=fun y c e=>by
     simp only[List.lookup_cons] at e
     split at e
     ·rename_i q
      have q':y=n:=by simpa using q
      subst q'
      exact ha.trans e
     ·exact hc y c e
    obtain⟨cl,h1,h2,h3⟩:=iG r ((n,a)::cs) (fun y hy=>hf y (List.mem_cons_of_mem _ hy)) hc'
    refine⟨cl,?_,h2,fun y h=>?_⟩
    ·rw[List.forIn_cons]
     show((if(NameKind.free == NameKind.free)=true then(do let a←cellOf env n;pure (ForInStep.yield ((n,a)::cs))) else pure (ForInStep.yield cs):Sem _) >>= _)=_
     rw[if_pos (by decide)]
     have e:cellOf env n=pure a:=by unfold cellOf;rw[ha]
     rw[e]
     exact h1
    ·refine h3 y ?_
     rcases h with⟨c,h⟩ | h
     ·left
      simp only[List.lookup_cons]
      split
      ·exact⟨_,rfl⟩
      ·exact⟨c,h⟩
     ·rcases List.mem_cons.mp h with q | q
      ·left
       cases q
       exact⟨a,by simp[List.lookup_cons]⟩
      ·exact .inr q
   ·obtain⟨cl,h1,h2,h3⟩:=iG r cs (fun y hy=>hf y (List.mem_cons_of_mem _ hy)) hc
    refine⟨cl,?_,h2,fun y h=>?_⟩
    ·rw[List.forIn_cons]
     show((if(k == NameKind.free)=true then(do let a←cellOf env n;pure (ForInStep.yield ((n,a)::cs))) else pure (ForInStep.yield cs):Sem _) >>= _)=_
     rw[if_neg (by simpa using hk)]
     exact h1
    ·refine h3 y ?_
     rcases h with h | h
     ·exact .inl h
     ·rcases List.mem_cons.mp h with q | q
      ·cases q;exact absurd rfl hk
      ·exact .inr q
theorem pK{env:Env}{scope:Scope}(hf:∀y∈scope.names,y.2=.free→∃c,env.cells.lookup y.1=some c):∃cl,closureFor scope env=pure cl∧(∀y c,cl.lookup y=some c→env.cells.lookup y=some c)∧(∀y,(y,NameKind.free)∈scope.names→∃c,cl.lookup y=some c):=by
 obtain⟨cl,h1,h2,h3⟩:=iG scope.names [] hf (fun y c e=>by simp at e)
 refine⟨cl,?_,h2,fun y h=>h3 y (.inr h)⟩
 unfold closureFor
 rw[←bind_pure (x:=(pure cl:Sem _)),←h1]
structure CB where
 cl:List (Str×Addr)
 C:Addr
 s2:Shared
 H2:Hp
 fp:List Addr
def Cx.comp(X:Cx)(N':List Str)(scope:Scope)(b:CB):Cx where
 prog:=X.prog
 w:=X.w
 K:=X.K
 mg:=X.mg
 base:=X.base
 A:=X.A
 N:=N'
 s₀:=b.s2
 H₀:=b.H2
 env:=compEnvC scope b.cl b.C X.env
 outer:=X.stack
 stack:=X.stack
 ex:=b.fp
 fn:=fun _=>false
 calm:=X.calm
 pn:=[]
 xe:=fun _ _=>False
structure CompOK(outer sc:Scope)(x:Str)(M N:List Str):Prop where
 kind:sc.kind=.function
 nocell:∀y∈sc.names,y.2≠ .cell
 loc:∀y∈sc.names,y.2=.local→sc.names.lookup y.1=some .local
 own:sc.names.lookup x=some .local
 free:∀y∈sc.names,y.2=.free→(outer.names.lookup y.1=some .cell∨outer.names.lookup y.1=some .free)
 nd:(M++[x]).Nodup
 len:M.length=N.length
 same:∀p∈M.zip N,p.1=p.2∨sc.names.lookup p.1=none
 noloc:∀y∈M,sc.names.lookup y≠some .local
theorem xh{outer sc:Scope}{x:Str}{M N:List Str}(h:fR outer sc x M N=true):CompOK outer sc x M N:=by
 unfold fR at h
 simp only[Bool.and_eq_true,decide_eq_true_eq,List.all_eq_true] at h
 obtain⟨⟨⟨⟨⟨⟨⟨⟨h1,h2⟩,h3⟩,h4⟩,h5⟩,h6⟩,h7⟩,h8⟩,h9⟩:=h
 exact⟨h1,h2,h3,h4,h5,h6,h7,h8,h9⟩
section
variable{X:Cx}{pins:List (Addr×Obj)}{σ:St}{H2:Hp}{s2:Shared}{scope:Scope}{x:Str}{M:List Str}{cl:List (Str×Addr)}{fp:List Addr}{h1:Heap}{t':Nat}
theorem Inv.comp(I:Inv X pins σ H2 s2)(K:CompOK X.env.scope scope x M X.N)(hcl:∀y c,cl.lookup y=some c→X.env.cells.lookup y=some c)(hcf:∀y,(y,NameKind.free)∈scope.names→∃c,cl.lookup y=some c)(hfp:∀b∈fp,bQ X pins H2 b)(hlt:∀b∈fp,b<s2.heap.objs.size)(kp:∀b o,s2.heap.get? b=some o→h1.get? b=some o)(hD:h1.get? s2.heap.objs.size=some {cls:=.type "list",dict:=none,data:=.seq ([]:List Value).toArray})(hC:h1.Ns (s2.heap.objs.size+1) (fun _=>none)):
 Inv (X.comp (M++[x]) scope ⟨cl,s2.heap.objs.size+1,s2,H2,fp⟩) [] (σ++[none]) (upd H2 s2.heap.objs.size (.lst [])) {s2 with heap:=h1,toks:=t'}:=by
 have cellLt:∀y c,cl.lookup y=some c→c<s2.heap.objs.size:=fun y c e=>by
  obtain⟨v,z⟩:=I.cell y c (hcl y c e)
  exact z.lt
 have kindEq:∀y k',(compEnvC scope cl (s2.heap.objs.size+1) X.env).kindOf y=some k'→∃k,scope.names.lookup y=some k∧(k'=k∨(k=.free∧k'=.cell)):=fun y k' e=>jB e
 have freeOf:∀y k',(compEnvC scope cl (s2.heap.objs.size+1) X.env).kindOf y=some k'→(k'=.cell∨k'=.free)→(y,NameKind.free)∈scope.names:=fun y k' e hk=>by
  obtain⟨k,e1,e2⟩:=kindEq y k' e
  have mem:=PySem.mem_of_lookup e1
  have:k=.free:=by
   rcases e2 with rfl | ⟨rfl,_⟩
   ·rcases hk with rfl | rfl
    ·exact absurd rfl (K.nocell _ mem)
    ·rfl
   ·rfl
  subst this
  exact mem
 have hDn:H2 s2.heap.objs.size=none:=I.hok.fresh (Nat.le_refl _)
 refine⟨⟨I.ok.mod,K.kind,I.ok.glob,I.ok.blt,Nat.le_succ _,fun y z c e1 e2=>I.ok.inj y z c (hcl y c e1) (hcl z c e2),fun y hy=>?_,fun y c hf _=>?_,I.ok.hd,I.ok.frames,.inl rfl,fun b hb=>⟨Nat.ne_of_lt (Nat.lt_succ_of_lt (hlt b hb)),fun y c e=>(hfp b hb).2.2.2.2.1 y c (hcl y c e)⟩,
  fun b o e=>I.bs b o e,Nat.le_trans I.ok.bsz I.sz,fun b o e hb=>?_,fun b hb hf=>?_,I.stack,I.stkFree⟩,rfl,I.bare,Un.laid kp (Nat.le_refl _) hDn,⟨_,hC,fun i y v e1 e2 e3=>?_⟩,fun y c e=>?_,?_,fun y c e=>?_,fun p hp=>absurd (show p∈([]:List (Addr×Obj)) from hp) (by simp),I.hok.laid kp (Nat.le_refl _) ?_,?_⟩
 ·rcases hy with hy | hy
  ·exact hcf y (freeOf y _ hy (.inl rfl))
  ·exact hcf y (freeOf y _ hy (.inr rfl))
 ·exact absurd (show false=true from hf) Bool.false_ne_true
 ·obtain⟨f0,f1,f2,f3,f4,f5⟩:=hfp b hb
  rcases f3 with z | z
  ·exact I.ok.noex b o e z
  ·exact absurd (Nat.lt_of_lt_of_le (Heap.lt_size (I.ok.bs b o e).1) z) (Nat.lt_irrefl _)
 ·obtain⟨f0,f1,f2,f3,f4,f5⟩:=hfp b hb
  rcases List.mem_cons.mp (I.stkSub b hf) with z | z
  ·exact f1 z
  ·exact f2 z
 ·
  have hi:i<σ.length:=by
   by_cases hi:i<σ.length
   ·exact hi
   ·have hz:(σ++[none])[i]?=some (some v):=e2
    rw[List.getElem?_append_right (by lia)] at hz
    by_cases hq:i-σ.length=0
    ·rw[hq] at hz;cases hz
    ·rw[List.getElem?_eq_none (by simp;lia)] at hz;cases hz
  have e2':σ[i]?=some (some v):=by
   have hz:(σ++[none])[i]?=some (some v):=e2
   rw[List.getElem?_append_left hi] at hz
   exact hz
  have hiM:i<M.length:=by rw[K.len,←I.len];exact hi
  have e1':M[i]?=some y:=by
   have hz:(M++[x])[i]?=some y:=e1
   rw[List.getElem?_append_left hiM] at hz
   exact hz
  have hyM:y∈M:=List.mem_of_getElem? e1'
  have e3':∃k',(compEnvC scope cl (s2.heap.objs.size+1) X.env).kindOf y=some k'∧(k'=.cell∨k'=.free):=by
   rcases e3 with z | z | z
   ·obtain⟨k,a,b⟩:=kindEq y _ z
    rcases b with b | ⟨_,b⟩
    ·subst b;exact absurd a (K.noloc y hyM)
    ·cases b
   ·exact⟨_,z,.inl rfl⟩
   ·exact⟨_,z,.inr rfl⟩
  obtain⟨k',ek,hk⟩:=e3'
  have mem:=freeOf y k' ek hk
  obtain⟨k0,a0,_⟩:=kindEq y k' ek
  have hiN:i<X.N.length:=by rw[←K.len];exact hiM
  have eN:X.N[i]?=some y:=by
   have hz:(M[i],X.N[i])∈M.zip X.N:=by
    rw[List.mem_iff_getElem?]
    exact⟨i,List.getElem?_zip_eq_some.mpr ⟨List.getElem?_eq_getElem hiM,List.getElem?_eq_getElem hiN⟩⟩
   have eM:M[i]=y:=by
    rw[List.getElem?_eq_getElem hiM] at e1'
    exact Option.some.inj e1'
   rcases K.same _ hz with q | q
   ·rw[List.getElem?_eq_getElem hiN]
    have q':M[i]=X.N[i]:=q
    rw[←q',eM]
   ·have q':scope.names.lookup M[i]=none:=q
    rw[eM,a0] at q'
    cases q'
  have hv:=K.free _ mem rfl
  obtain⟨m,hn,hl⟩:=I.loc
  obtain⟨u,r,l⟩:=hl i y v eN e2' (hv.elim (fun z=>.inr (.inl z)) (fun z=>.inr (.inr z)))
  refine⟨u,r,.inr ⟨?_,?_⟩⟩
  ·rcases hk with rfl | rfl
   ·exact .inl ek
   ·exact .inr ek
  ·obtain⟨c,ec⟩:=hcf y mem
   refine⟨c,ec,?_⟩
   rcases l with⟨z,_⟩ | ⟨_,c',ec',cc⟩
   ·have z':X.env.scope.names.lookup y=some .local:=z
    rcases hv with q | q <;> (rw[z'] at q;cases q)
   ·have:=(hcl y c ec).symm.trans ec'
    cases this
    obtain⟨o,ho,hd⟩:=cc
    exact⟨o,kp _ o ho,hd⟩
 ·obtain⟨v,o,ho,hd⟩:=I.cell y c (hcl y c e)
  exact⟨v,o,kp _ o ho,hd⟩
 ·show upd H2 s2.heap.objs.size (.lst []) (s2.heap.objs.size+1)=none
  rw[ao (Nat.succ_ne_self _)]
  exact I.hok.fresh (Nat.le_succ _)
 ·rw[ao (Nat.ne_of_lt (cellLt y c e))]
  exact I.freeC y c (hcl y c e)
 ·exact⟨Nat.zero_le _,[],_,.nil,hD⟩
 ·show(σ++[none]).length=(M++[x]).length
  simp[I.len,K.len]
end
theorem oz{prog:Program}{w:World}{A:Around}{R:Result→Shared→Prop}{s:Shared}{elt target iter:Expr}{ifs:List Expr}{scope:Scope}{pos:Pos}{it acc:Value}{env:Env}(I:Nat→Shared→Prop)(onward:∀n s,I n s→wpAny (model prog w) A (pyNext it) (fun r za=>match r with
 | none=>R (.ok .next) za
 | some v=>wpAny (model prog w) A (letOwnedTupleGo target it v) (fun _ zb=>wpAny (model prog w) A (assign target env v) (fun _ zc=>
  wpAny (model prog w) A (forIn ifs true fun c r=>if r=true then do let ok←isTrue c env (eval c env);pure (ForInStep.yield ok) else pure (ForInStep.yield r)) (fun ok zd=>
   if ok=true then wpAny (model prog w) A (eval elt env) (fun x ze=>
    wpAny (model prog w) A (call (.builtin "list.append") [acc,x]) (fun _ zf=>∃m,m<n∧I m zf) (fun _ _=>False) ze) (fun _ _=>False) zd
   else∃m,m<n∧I m zd) (fun _ _=>False) zc) (fun _ _=>False) zb) (fun _ _=>False) za) (fun _ _=>False) s)
 (n:Nat)(h:I n s):
 codeAny (model prog w) A (.compLoop (.ListComp elt [⟨target,iter,ifs,0⟩] scope pos) 0 it acc env) R s:=
 by
 refine codeAny_loop rfl I (fun n s hJ=>?_) n h
 show wpAny _ A ((compTurn (.ListComp elt [⟨target,iter,ifs,0⟩] scope pos) 0 it acc env).onRaise (fun ex=>do noteFrame ex env;theTreesLotGoes ex)) _ _ s
 refine wpAny_noted (wpAny_mono (E:=fun _ _=>False) ?_ (fun _ _ q=>q) fun _ _ z=>z.elim)
 rw[compTurn_list]
 refine wpAny_bind (wpAny_standAt (wpAny_bind (wpAny_mono (onward n s hJ) (fun r za ya=>?_) fun _ _ u=>u)))
 cases r with
 | none=>exact wpAny_pure ya
 | some v=>
   refine wpAny_bind (wpAny_mono ya (fun _ zb yb=>?_) fun _ _ u=>u)
   refine wpAny_bind (wpAny_mono yb (fun _ zc yc=>wpAny_bind (wpAny_mono yc (fun ok zd yd=>?_) fun _ _ u=>u)) fun _ _ u=>u)
   cases ok with
   | false=>exact wpAny_pure ⟨rfl,yd⟩
   | true=>
     exact wpAny_bind (wpAny_bind (wpAny_mono yd (fun x ze ye=>wpAny_bind (wpAny_mono ye (fun _ zf yf=>wpAny_pure (wpAny_pure ⟨rfl,yf⟩)) fun _ _ u=>u)) fun _ _ u=>u))
def eF(X:Cx)(ifs:List Expr)(t:TT):Prop:=
 ∀ (pins:List (Addr×Obj)) (s:Shared) (σ:St) (H:Hp) (Q:Bool→Hp→Prop),Inv X pins σ H s→t σ H Q→
   wpAny (model X.prog X.w) X.A (forIn ifs true fun c r=>if r=true then do let ok←isTrue c X.env (eval c X.env);pure (ForInStep.yield ok) else pure (ForInStep.yield r)) (TP X pins σ Q) X.xe s
def lP:TT:=fun _ H Q=>Q true H
theorem d5{X:Cx}:eF X [] lP:=fun pins s σ H Q I h=>wpAny_tests_nil ⟨H,I,h⟩
theorem cg{X:Cx}{c:Expr}{t:TT}(h:PT X c t):eF X [c] t:=fun pins s σ H Q I q=>wpAny_tests_one (h pins s σ H Q I q)
def iQ(wi:TI)(tc:CB→TT)(te:CB→TE):TE:=fun σ H Q=>wi σ H fun J H1=>∀D,H1 D=none→∀b:CB,∃W:Nat→Nat→List V→Hp→Prop,(∃m,W 0 m [] (upd H1 D (.lst [])))∧
 ∀ i m ys H,W i m ys H→(J.stop i H∧Q (.ref D) H)∨(J.go i H∧ys.length<sizeLine∧∃N:List V→Hp→Prop,(∀ys' H',N ys' H'→∃m',m'<m∧W (i+1) m' ys' H')∧∀x H',J.yld i H x H'→tc b (σ++[some x]) H' fun ok H2=>
   if ok=true then te b (σ++[some x]) H2 fun v H3=>H3 D=some (.lst ys)∧N (ys++[v]) (upd H3 D (.lst (ys++[v]))) else N ys H2)
theorem nO{X:Cx}{pins:List (Addr×Obj)}{σ:St}{H:Hp}{s:Shared}{D:Addr}{ys:List V}{v:V}{u:Value}{E:Value→Shared→Prop}(I:Inv X pins σ H s)(hD:H D=some (.lst ys))(hz:ys.length<sizeLine)(r:RelV v u):wpAny (model X.prog X.w) X.A (call (.builtin "list.append") [.ref D,u]) (fun _ s'=>Inv X pins σ (upd H D (.lst (ys++[v]))) s') E s:=by
 obtain⟨z,its,n,rv,hl,e⟩:=I.lstM hD
 refine call_meets F.slot_list_append ⟨_,e,rfl⟩ F.entry_list_append (F.args_list_append_2 _ _) (PySem.list_append D its.toArray n u (by rw[List.size_toArray];lia)) ⟨e,?_⟩
 refine I.lset (its':=its++[u]) hD e (by simp) (rv.append (.cons r .nil)) ?_
 rw[List.length_append,List.length_singleton]
 lia
theorem SameBut.unC{H H':Hp}{fs ex:List Addr}{h h1 h2:Heap}{C:Addr}(u:Un fs ex H H' h h1)(sb:Heap.SameBut C h1 h2)(hC:h.objs.size≤C):Un fs ex H H' h h2:=by
 have ne:∀b o,h.get? b=some o→b≠C:=fun b o e z=>by subst z;exact absurd (Nat.lt_of_lt_of_le (Heap.lt_size e) hC) (Nat.lt_irrefl _)
 refine⟨fun b o e n hb hx=>(sb.2 b (ne b o e)).trans (u.keep b o e n hb hx),fun b o e n hb hx=>?_,u.free,fun b o e hx=>?_,u.tups,u.frzs,u.tbls⟩
 ·obtain⟨sl,q⟩:=u.slot b o e n hb hx
  exact⟨sl,(sb.2 b (ne b o e)).trans q⟩
 ·obtain⟨o',q⟩:=u.there b o e hx
  exact⟨o',(sb.2 b (ne b o e)).trans q⟩
theorem SameBut.hokC{P:Program}{w:World}{H:Hp}{h1 h2:Heap}{C:Addr}(ok:HOk P w H h1)(sb:Heap.SameBut C h1 h2)(hn:H C=none):HOk P w H h2:=fun b ob e=>by
 refine(ok b ob e).stay (fun c w' hc q=>(sb.2 c ?_).trans q) (fun _ q=>q) fun _ _ q=>q
 rintro rfl
 rcases hc with rfl | hc
 ·rw[hn] at e;cases e
 ·rw[hn] at hc;cases hc
theorem pj{X:Cx}{iter elt:Expr}{ifs:List Expr}{x:Str}{px pos pos0:Pos}{scope:Scope}(M:List Str){wi:TI}{tc:CB→TT}{te:CB→TE}{use:Option (Value→Sem Unit)}{R:Value→Shared→Prop}{pins:List (Addr×Obj)}{s:Shared}{σ:St}{H:Hp}{Q:VK}(I:Inv X pins σ H s)(h:iQ wi tc te σ H Q)(hfin:∀(D C:Addr) (m:Str→Option Value) (s':Shared) (H':Hp),s'.heap.Ns C m→bQ X pins H' C→(∀h',Heap.SameBut C s'.heap h'→Inv X pins σ H' {s' with heap:=h'})→Q (.ref D) H'→compPost (model X.prog X.w) X.A X.xe use R (.ref D) C (.ok .next) s')(hc:X.calm=true)(hi:PI X (.Name x px) iter wi)(hif:∀b:CB,eF (X.comp (M++[x]) scope b) ifs (tc b))(he:∀b:CB,PE (X.comp (M++[x]) scope b) elt (te b))(ok:fR X.env.scope scope x M X.N=true:=by kernel_rfl)
 (hs:∀x,foldedSetIterable iter X.env x=pure x:=by intro _;rfl):
 wpAny (model X.prog X.w) X.A (comprehension (.ListComp elt [⟨.Name x px,iter,ifs,0⟩] scope pos) scope X.env pos0 (newList []) false (eval iter X.env) use) R X.xe s:=by
 have K:=xh ok
 obtain⟨cl,hclos,hcl,hcf⟩:=pK (env:=X.env) (scope:=scope) fun y hy hk=>I.ok.has y.1 (K.free y hy hk)
 refine wpAny_comprehension_free (use:=use) rfl hs hclos K.kind K.loc ?_
 refine ap (hi pins s σ H _ I h) fun v s1 h1=>ap h1 fun itv s2 h2=>?_
 obtain⟨it,fp,tn,J,H2,rfl,I2,T,st2,f2,hq⟩:=h2
 refine wpAny_newObj_type (wpAny_newFunctionEnv K.nocell (by intro y hy;simp at hy) (fun h₁ hns₁ hsb₁=>?_) K.kind)
 dsimp only at hns₁ hsb₁ ⊢
 have hsize:(s2.heap.push {cls:=.type "list",dict:=none,data:=.seq ([]:List Value).toArray}).objs.size=s2.heap.objs.size+1:=Heap.size_push ..
 rw[hsize] at hns₁ hsb₁
 have ltD:s2.heap.objs.size≠s2.heap.objs.size+1:=Nat.ne_of_lt (Nat.lt_succ_self _)
 have kp:∀b o,s2.heap.get? b=some o→h₁.get? b=some o:=fun b o e=>hsb₁.extBut b o (Nat.ne_of_lt (Nat.lt_succ_of_lt (Heap.lt_size e))) (Heap.get?_push_of_some _ (Heap.get?_push_of_some _ e))
 have hD:h₁.get? s2.heap.objs.size=some {cls:=.type "list",dict:=none,data:=.seq ([]:List Value).toArray}:=hsb₁.extBut _ _ ltD (Heap.get?_push_of_some _ (Heap.get?_push_size _ rfl))
 have hlt:∀b∈fp,b<s2.heap.objs.size:=fun b hb=>let ⟨o,e,_⟩:=T.obj _ _ st2 b hb;Heap.lt_size e
 have I3:=I2.comp (t':=s2.toks+([]:List (Str×Value)).length) K hcl hcf f2 hlt kp hD hns₁
 obtain⟨W,⟨m0,w0⟩,step⟩:=hq s2.heap.objs.size (I2.hok.fresh (Nat.le_refl _)) ⟨cl,s2.heap.objs.size+1,s2,H2,fp⟩
 have st3:tn 0 h₁:=T.keep _ _ _ st2 fun b _ o e=>kp b o e
 have fr3:∀b∈fp,(upd H2 s2.heap.objs.size (.lst [])) b=none:=fun b hb=>by rw[ao (Nat.ne_of_lt (hlt b hb))];exact(f2 b hb).1
 have fin:∀(s':Shared) (σ':St) (H':Hp),Inv (X.comp (M++[x]) scope ⟨cl,s2.heap.objs.size+1,s2,H2,fp⟩) [] σ' H' s'→Q (.ref s2.heap.objs.size) H'→
  compPost (model X.prog X.w) X.A X.xe use R (.ref s2.heap.objs.size) (s2.heap.objs.size+1) (.ok .next) s':=fun s' σ' H' J' q=>by
  obtain⟨m,hn,_⟩:=id J'.loc
  have hC:H' (s2.heap.objs.size+1)=none:=J'.free
  refine hfin _ _ m s' H' hn (I2.fpOk (Nat.le_succ _) hC) (fun h' sb=>?_) q
  exact I2.call' (ch:=fp) (show s'.os=s2.os from J'.os) (SameBut.unC J'.base sb (Nat.le_succ _)) (SameBut.hokC J'.hok sb hC) J'.bare fun b hb=>by
   obtain⟨f0,f1,f2',f3,f4,f5⟩:=f2 b hb
   exact⟨f3,f1,f4,f5⟩
 have stat:∀{H':Hp},(∀b∈fp,H' b=none)→∀b∈fp,bQ (X.comp (M++[x]) scope ⟨cl,s2.heap.objs.size+1,s2,H2,fp⟩) [] H' b:=fun hn b hb=>by
  obtain⟨f0,f1,f2',f3,f4,f5⟩:=f2 b hb
  refine⟨hn b hb,Nat.ne_of_lt (Nat.lt_succ_of_lt (hlt b hb)),fun z=>?_,.inl hb,fun y c e=>f4 y c (hcl y c e),fun p hp=>absurd (show p∈([]:List (Addr×Obj)) from hp) (by simp)⟩
  rcases List.mem_cons.mp (I2.stkSub b z) with z | z
  ·exact f1 z
  ·exact f2' z
 have len3:σ.length=M.length:=by rw[I.len,K.len]
 have loop:codeAny (model X.prog X.w) X.A (.compLoop (.ListComp elt [⟨.Name x px,iter,ifs,0⟩] scope pos) 0 (.ref it) (.ref s2.heap.objs.size) (compEnvC scope cl (s2.heap.objs.size+1) X.env))
  (compPost (model X.prog X.w) X.A X.xe use R (.ref s2.heap.objs.size) (s2.heap.objs.size+1)) {s2 with heap:=h₁,toks:=s2.toks+([]:List (Str×Value)).length}:=by
  refine oz (fun n s'=>∃i ys H',Inv (X.comp (M++[x]) scope ⟨cl,s2.heap.objs.size+1,s2,H2,fp⟩) [] (σ++[none]) H' s'∧tn i s'.heap∧(∀b∈fp,H' b=none)∧W i n ys H') ?_ m0 ⟨0,[],_,I3,st3,fr3,w0⟩
  rintro n s4 ⟨i,ys,H4,I4,st4,fr4,w4⟩
  rcases step i n ys H4 w4 with⟨stop,q⟩ | ⟨go,hz,N,hN,st⟩
  ·refine wpAny_mono (T.done (X.comp (M++[x]) scope ⟨cl,s2.heap.objs.size+1,s2,H2,fp⟩) rfl rfl rfl hc i [] s4 _ H4 (fun _ _=>False) I4 (stat fr4) st4 stop) (fun r s5 ⟨hr,I5⟩=>?_) fun _ _ z=>z
   subst hr
   exact fin s5 _ H4 I5 q
  ·refine wpAny_mono (T.item (X.comp (M++[x]) scope ⟨cl,s2.heap.objs.size+1,s2,H2,fp⟩) rfl rfl rfl hc i [] s4 _ H4 (fun _ _=>False) I4 (stat fr4) st4 go) (fun r s5 ⟨u,hr,h5⟩=>?_) fun _ _ z=>z
   subst hr
   refine wpAny_mono h5 (fun _ s6 ⟨xv,H6,I6,r6,y6,st6,fr6⟩=>?_) fun _ _ z=>z
   have I6':=I6.pinned (stat fr6) (T.obj _ _ st6)
   have hset:(σ++[none]).set σ.length (some xv)=σ++[some xv]:=by simp
   have hNx:(X.comp (M++[x]) scope ⟨cl,s2.heap.objs.size+1,s2,H2,fp⟩).N[σ.length]?=some x:=by
    show(M++[x])[σ.length]?=some x
    rw[len3];simp
   have hlx:(X.comp (M++[x]) scope ⟨cl,s2.heap.objs.size+1,s2,H2,fp⟩).env.scope.names.lookup x=some .local:=lookup_relabel_local K.own
   have PGx:PG (X.comp (M++[x]) scope ⟨cl,s2.heap.objs.size+1,s2,H2,fp⟩) (.Name x px) (cA σ.length):=bq K.nd hNx (.inl hlx) (.inr hlx)
   refine wpAny_mono (PGx _ s6 _ H6 xv u (fun σ' H'=>σ'=σ++[some xv]∧H'=H6) I6' r6 ⟨hset,rfl⟩) (fun _ s7 ⟨σ7,H7,I7,e7,e7'⟩=>?_) fun _ _ z=>z
   subst e7 e7'
   have again:∀{ys':List V} {H8:Hp} {s8:Shared} {m:Nat},Inv (X.comp (M++[x]) scope ⟨cl,s2.heap.objs.size+1,s2,H2,fp⟩) ([]++fq fp s6.heap) (σ++[some xv]) H8 s8→m<n→W (i+1) m ys' H8→
    ∃m,m<n∧∃i ys H',Inv (X.comp (M++[x]) scope ⟨cl,s2.heap.objs.size+1,s2,H2,fp⟩) [] (σ++[none]) H' s8∧tn i s8.heap∧(∀b∈fp,H' b=none)∧W i m ys H':=fun{ys' H8 s8 m} I8 hm w8=>by
    refine⟨m,hm,i+1,ys',H8,(I8.unpinned).weak (by simp) (fun j v e=>?_),T.keep _ _ _ st6 fun b hb o e=>(I8.pin (b,o) (List.mem_append_right _ (List.mem_append_right _ (eT hb e)))).1,fun b hb=>?_,w8⟩
    ·by_cases hj:j<σ.length
     ·rw[List.getElem?_append_left hj] at e ⊢;exact e
     ·rw[List.getElem?_append_right (by lia)] at e
      by_cases hq:j-σ.length=0
      ·rw[hq] at e;cases e
      ·rw[List.getElem?_eq_none (by simp;lia)] at e;cases e
    ·obtain⟨o,e,d⟩:=T.obj _ _ st6 b hb
     exact(I8.pin (b,o) (List.mem_append_right _ (List.mem_append_right _ (eT hb e)))).2.1
   refine wpAny_mono (hif ⟨cl,s2.heap.objs.size+1,s2,H2,fp⟩ _ s7 _ _ _ I7 (st xv _ y6)) (fun ok s8 ⟨H8,I8,q8⟩=>?_) fun _ _ z=>z
   cases ok with
   | false=>
     rw[if_neg Bool.false_ne_true] at q8
     obtain⟨m,hm,w8⟩:=hN _ _ q8
     exact again I8 hm w8
   | true=>
     rw[if_pos rfl] at q8
     refine wpAny_mono (he ⟨cl,s2.heap.objs.size+1,s2,H2,fp⟩ _ s8 _ H8 _ I8 q8) (fun xu s9 ⟨v9,H9,I9,r9,hD9,n9⟩=>?_) fun _ _ z=>z
     obtain⟨m,hm,w9⟩:=hN _ _ n9
     exact wpAny_mono (nO (X:=X.comp (M++[x]) scope ⟨cl,s2.heap.objs.size+1,s2,H2,fp⟩) I9 hD9 hz r9) (fun _ s10 I10=>again I10 hm w9) fun _ _ z=>z
 rw[hsize]
 exact codeAny_compStart_list loop (T.self X.A 0 _ _ _ st3 loop)
theorem bP{X:Cx}{iter elt:Expr}{ifs:List Expr}{x:Str}{px pos:Pos}{scope:Scope}(M:List Str){wi:TI}{tc:CB→TT}{te:CB→TE}(hc:X.calm=true)(hi:PI X (.Name x px) iter wi)(hif:∀b:CB,eF (X.comp (M++[x]) scope b) ifs (tc b))(he:∀b:CB,PE (X.comp (M++[x]) scope b) elt (te b))(ok:fR X.env.scope scope x M X.N=true:=by kernel_rfl)
 (hs:∀x,foldedSetIterable iter X.env x=pure x:=by intro _;rfl):
 PE X (.ListComp elt [⟨.Name x px,iter,ifs,0⟩] scope pos) (iQ wi tc te):=by
 intro pins s σ H Q I h
 rw[eval_ListComp]
 exact pj M (use:=none) (R:=EP X pins σ Q) I h (fun D C m s' H' hn _ hI q=>⟨m,hn,fun h' sb=>⟨.ref D,H',hI h' sb,rfl,q⟩⟩) hc hi hif he ok hs
theorem Inv.butC{X:Cx}{pins:List (Addr×Obj)}{σ:St}{H:Hp}{s:Shared}{C:Addr}{h':Heap}(I:Inv X pins σ H s)(f:bQ X pins H C)(sb:Heap.SameBut C s.heap h'):Inv X pins σ H {s with heap:=h'}:=by
 obtain⟨f0,f1,f2,f3,f4,f5⟩:=f
 refine I.call' (ch:=[C]) rfl ⟨fun b o e n _ hx=>?_,fun b o e n _ hx=>?_,fun b o e n _=>n,fun b o e hx=>?_,fun _ _ z=>z,fun _ _ _ z=>z,fun _ ps z=>⟨#[],by simpa using z⟩⟩ (SameBut.hokC I.hok sb f0) I.bare fun b hb=>?_
 ·exact(sb.2 b (by simpa using hx)).trans e
 ·exact⟨o.slots,(sb.2 b (by simpa using hx)).trans e⟩
 ·exact⟨o,(sb.2 b (by simpa using hx)).trans e⟩
 ·have:b=C:=by simpa using hb
  subst this
  exact⟨f3,f1,f4,f5⟩
theorem gT{X:Cx}{iter elt:Expr}{ifs:List Expr}{x y:Str}{px py pos spos:Pos}{scope:Scope}(M:List Str){i:Nat}{wi:TI}{tc:CB→TT}{te:CB→TE}(hc:X.calm=true)(hN:X.N.Nodup)(hiy:X.N[i]?=some y)(hy:eP X.env.scope y)(hi:PI X (.Name x px) iter wi)(hif:∀b:CB,eF (X.comp (M++[x]) scope b) ifs (tc b))(he:∀b:CB,PE (X.comp (M++[x]) scope b) elt (te b))(hsw:swapsWith (.ListComp elt [⟨.Name x px,iter,ifs,0⟩] scope pos) (some (.Name y py)) spos.line X.env=pure true:=by rfl)
 (ok:fR X.env.scope scope x M X.N=true:=by kernel_rfl)
 (hs:∀x,foldedSetIterable iter X.env x=pure x:=by intro _;rfl)
 (hf:X.fn y=true∨X.env.scope.names.lookup y=some .local:=by first | exact .inl rfl | exact .inr rfl | assumption):
 PS X (.Assign [.Name y py] (.ListComp elt [⟨.Name x px,iter,ifs,0⟩] scope pos) spos) (d8 (iQ wi tc te) (cA i)):=by
 intro pins s σ H D I h
 rw[exec_Assign_Name_used _ _ _ _ hsw];refine wpAny_bind (wpAny_standAt (wpAny_bind ?_))
 show wpAny _ X.A (do let _←comprehension (.ListComp elt [⟨.Name x px,iter,ifs,0⟩] scope pos) scope X.env _ (newList []) false (eval iter X.env) (some (assign (.Name y py) X.env))) _ _ s
 refine wpAny_bind (wpAny_mono (pj M (use:=some (assign (.Name y py) X.env)) (R:=fun _ s'=>_) I h (fun D' C m s' H' hn f hI q=>?_) hc hi hif he ok hs) (fun _ s' hq=>wpAny_pure (wpAny_pure hq)) fun _ _ e=>e)
 have I':Inv X pins σ H' s':=hI s'.heap ⟨rfl,fun _ _=>rfl⟩
 show wpAny _ X.A (assign (.Name y py) X.env (.ref D')) _ _ _
 refine wpAny_assign_Name (jL (v:=.ref D') I' hN hiy hy rfl (fun s2 I2 ⟨a,sb,ha⟩=>?_) hf)
 have hCa:C≠a:=by
  obtain⟨f0,f1,f2,f3,f4,f5⟩:=f
  rintro rfl
  rcases ha with z | z
  ·exact f1 z
  ·exact f4 _ _ z rfl
 exact⟨m,hn.sameBut sb hCa,fun h' sb'=>⟨_,H',I2.butC f sb',q⟩⟩
theorem du{lo:Int}{n:Nat}{tc:TT}{te:TE}{σ:St}{H1:Hp}{Q:Hp→Prop}{D:Addr}(Pv:Nat→List V→Hp→Prop)(hn:n<sizeLine)(h0:Pv 0 [] (upd H1 D (.lst [])))(hl:∀i ys H,Pv i ys H→ys.length≤i)(hs:∀i ys H,i<n→Pv i ys H→tc (σ++[some (.int (lo+i))]) H fun b H2=>if b=true then te (σ++[some (.int (lo+i))]) H2 fun v H3=>H3 D=some (.lst ys)∧Pv (i+1) (ys++[v]) (upd H3 D (.lst (ys++[v]))) else Pv (i+1) ys H2)
 (hd:∀ys H,Pv n ys H→Q H):
 ∃ W:Nat→Nat→List V→Hp→Prop,(∃m,W 0 m [] (upd H1 D (.lst [])))∧
   ∀ i m ys H,W i m ys H→((cK lo n).stop i H∧Q H)∨((cK lo n).go i H∧ys.length<sizeLine∧∃N:List V→Hp→Prop,(∀ys' H',N ys' H'→∃m',m'<m∧W (i+1) m' ys' H')∧∀x H',(cK lo n).yld i H x H'→tc (σ++[some x]) H' fun b H2=>
     if b=true then te (σ++[some x]) H2 fun v H3=>H3 D=some (.lst ys)∧N (ys++[v]) (upd H3 D (.lst (ys++[v]))) else N ys H2):=by
 refine⟨fun i m ys H=>m=n-i∧i≤n∧Pv i ys H,⟨n,by simp,Nat.zero_le _,h0⟩,?_⟩
 rintro i m ys H ⟨rfl,hi,p⟩
 by_cases hlt:i<n
 ·refine .inr ⟨hlt,Nat.lt_of_le_of_lt (hl i ys H p) (Nat.lt_trans hlt hn),Pv (i+1),fun ys' H' p'=>⟨n-(i+1),by lia,rfl,hlt,p'⟩,fun x H' y=>?_⟩
  obtain⟨e,y⟩:=y
  subst e y
  exact hs i ys _ hlt p
 ·have e:i=n:=by lia
  subst e
  exact .inl ⟨Nat.le_refl _,hd ys H p⟩
theorem c9{K:PySem.W.Frag}{a:Addr}{xs:List V}{tc:TT}{te:TE}{σ:St}{H1:Hp}{Q:Hp→Prop}{D:Addr}(Pv:Nat→List V→Hp→Prop)(hn:xs.length<sizeLine)(h0:Pv 0 [] (upd H1 D (.lst [])))(hl:∀i ys H,Pv i ys H→ys.length≤i)(hq:∀i ys H,i≤xs.length→Pv i ys H→SqL K H a xs)(hs:∀i x ys H,xs[i]?=some x→Pv i ys H→tc (σ++[some x]) H fun b H2=>if b=true then te (σ++[some x]) H2 fun v H3=>H3 D=some (.lst ys)∧Pv (i+1) (ys++[v]) (upd H3 D (.lst (ys++[v]))) else Pv (i+1) ys H2)
 (hd:∀ys H,Pv xs.length ys H→Q H):
 ∃ W:Nat→Nat→List V→Hp→Prop,(∃m,W 0 m [] (upd H1 D (.lst [])))∧
   ∀ i m ys H,W i m ys H→((cm K a).stop i H∧Q H)∨((cm K a).go i H∧ys.length<sizeLine∧∃N:List V→Hp→Prop,(∀ys' H',N ys' H'→∃m',m'<m∧W (i+1) m' ys' H')∧∀x H',(cm K a).yld i H x H'→tc (σ++[some x]) H' fun b H2=>
     if b=true then te (σ++[some x]) H2 fun v H3=>H3 D=some (.lst ys)∧N (ys++[v]) (upd H3 D (.lst (ys++[v]))) else N ys H2):=by
 refine⟨fun i m ys H=>m=xs.length-i∧i≤xs.length∧Pv i ys H,⟨xs.length,by simp,Nat.zero_le _,h0⟩,?_⟩
 rintro i m ys H ⟨rfl,hi,p⟩
 have q:=hq i ys H hi p
 by_cases hlt:i<xs.length
 ·refine .inr ⟨⟨xs,xs[i],q,by simp[hlt]⟩,Nat.lt_of_le_of_lt (hl i ys H p) (Nat.lt_trans hlt hn),Pv (i+1),fun ys' H' p'=>⟨xs.length-(i+1),by lia,rfl,hlt,p'⟩,fun x H' y=>?_⟩
  obtain⟨e,y⟩:=y
  subst e
  exact hs i x ys _ (y xs q) p
 ·have e:i=xs.length:=by lia
  subst e
  exact .inl ⟨⟨xs,q,Nat.le_refl _⟩,hd ys H p⟩
mutual
def DatV(K:PySem.W.Frag)(H:Hp):PyData→V→Prop
 | .none,v=>v=.non
 | .bool b,v=>v=.bl b
 | .int i,v=>v=.int i
 | .str x,v=>v=.str x∧PyData.strOk x=true
 | .list ds,v=>∃a xs,v=.ref a∧SqL K H a xs∧DatVs K H ds xs
 | .tuple ds,v=>∃a xs,v=.ref a∧SqT K H a xs∧DatVs K H ds xs
 | .dict _,_=>False
def DatVs(K:PySem.W.Frag)(H:Hp):List PyData→List V→Prop
 | [],xs=>xs=[]
 | d::ds,xs=>∃x r,xs=x::r∧DatV K H d x∧DatVs K H ds r
end
section
variable{X:Cx}{pins:List (Addr×Obj)}{σ:St}{H:Hp}{s:Shared}
mutual
theorem DatV.reads(I:Inv X pins σ H s):∀(d:PyData) (v:V) (u:Value),DatV X.K H d v→RelV v u→(∃as,Reads s.heap u d as)∧d.canLay0=true
 | .none,v,u,h,r=>by
   rw[DatV] at h;subst h;cases r;exact⟨⟨_,.none⟩,by simp[PyData.canLay0]⟩
 | .bool b,v,u,h,r=>by
   rw[DatV] at h;subst h;cases r;exact⟨⟨_,.bool b⟩,by simp[PyData.canLay0]⟩
 | .int i,v,u,h,r=>by
   rw[DatV] at h;subst h;obtain⟨t,rfl⟩:=r;exact⟨⟨_,.int i t⟩,by simp[PyData.canLay0]⟩
 | .str x,v,u,h,r=>by
   rw[DatV] at h;obtain⟨h,hx⟩:=h;subst h;obtain⟨t,rfl⟩:=r;exact⟨⟨_,.str x t⟩,by simp[PyData.canLay0,hx]⟩
 | .list ds,v,u,h,r=>by
   rw[DatV] at h;obtain⟨a,xs,rfl,hq,hd⟩:=h
   cases r
   obtain⟨its,rv,p,hz⟩:=I.list hq
   obtain⟨⟨as,ra⟩,cl⟩:=DatVs.reads I ds xs its hd rv
   obtain⟨o,ho,hc,n,hdt⟩:=p.isList
   exact⟨⟨_,.list ho hc hdt (by simpa using ra)⟩,by rw[PyData.canLay0];exact cl⟩
 | .tuple ds,v,u,h,r=>by
   rw[DatV] at h;obtain⟨a,xs,rfl,hq,hd⟩:=h
   cases r
   obtain⟨its,rv,p,hz⟩:=I.tuple hq
   obtain⟨⟨as,ra⟩,cl⟩:=DatVs.reads I ds xs its hd rv
   obtain⟨o,ho,hc,n,hdt⟩:=p
   exact⟨⟨_,.tuple ho hc hdt (by simpa using ra)⟩,by rw[PyData.canLay0];exact cl⟩
 | .dict _,v,u,h,r=>by rw[DatV] at h;exact h.elim
theorem DatVs.reads(I:Inv X pins σ H s):∀(ds:List PyData) (vs:List V) (us:List Value),DatVs X.K H ds vs→Vals vs us→(∃as,ReadsAll s.heap us ds as)∧PyData.canLayAll0 ds=true
 | [],vs,us,h,r=>by
   rw[DatVs] at h;subst h;cases r;exact⟨⟨_,.nil⟩,by simp[PyData.canLayAll0]⟩
 | d::ds,vs,us,h,r=>by
   rw[DatVs] at h;obtain⟨x,rr,rfl,h1,h2⟩:=h
   cases r with
   | cons r1 r2=>
     obtain⟨⟨as,ra⟩,ca⟩:=DatV.reads I d x _ h1 r1
     obtain⟨⟨bs,rb⟩,cb⟩:=DatVs.reads I ds rr _ h2 r2
     exact⟨⟨_,.cons ra rb⟩,by rw[PyData.canLayAll0,ca,cb];rfl⟩
end
def fN(K:PySem.W.Frag)(neg:Bool):R2:=fun x y H Q=>∃da db,DatV K H da x∧DatV K H db y∧min da.depth db.depth≤64∧Q (.bl (if neg then !PyData.eqv da db else PyData.eqv da db)) H
theorem qw{k:Nat}(hr:Room k X.A):OpR X (compareOp .Eq) (fN X.K false):=by
 intro pins s σ H x y v u Q I rx ry h
 obtain⟨da,db,h1,h2,hd,q⟩:=h
 obtain⟨⟨as,ra⟩,ca⟩:=DatV.reads I da x v h1 rx
 obtain⟨⟨bs,rb⟩,cb⟩:=DatV.reads I db y u h2 ry
 exact SeqAt.compareEq_reads ra rb ca cb (by have:=hr.units;lia) ⟨.bl _,H,I,rfl,q⟩
theorem fG{k:Nat}(hr:Room k X.A):OpR X (compareOp .NotEq) (fN X.K true):=by
 intro pins s σ H x y v u Q I rx ry h
 obtain⟨da,db,h1,h2,hd,q⟩:=h
 obtain⟨⟨as,ra⟩,ca⟩:=DatV.reads I da x v h1 rx
 obtain⟨⟨bs,rb⟩,cb⟩:=DatV.reads I db y u h2 ry
 exact SeqAt.compareNe_reads ra rb ca cb (by have:=hr.units;lia) ⟨.bl _,H,I,rfl,q⟩
end
theorem oQ{K:PySem.W.Frag}{H:Hp}:∀ns:List Int,DatVs K H (ns.map PyData.int) (ns.map V.int)
 | []=>by simp[DatVs]
 | n::ns=>by
   rw[List.map_cons,List.map_cons,DatVs]
   exact⟨_,_,rfl,by rw[DatV],oQ ns⟩
theorem nH{K:PySem.W.Frag}{H:Hp}{a:Addr}{ns:List Int}(h:SqL K H a (ns.map V.int)):DatV K H (.list (ns.map PyData.int)) (.ref a):=by
 rw[DatV];exact⟨a,_,rfl,h,oQ ns⟩
abbrev aA(c:Nat):Str:=⟨#[c]⟩
abbrev sg(c:Nat):V:=.str (aA c)
theorem oy{K:PySem.W.Frag}{H:Hp}:∀cs:List Nat,(∀c∈cs,c<0x110000)→DatVs K H (cs.map fun c=>PyData.str (aA c)) (cs.map sg)
 | [],_=>by simp[DatVs]
 | c::cs,h=>by
   rw[List.map_cons,List.map_cons,DatVs]
   refine⟨_,_,rfl,?_,oy cs fun c hc=>h c (List.mem_cons_of_mem _ hc)⟩
   rw[DatV]
   exact⟨rfl,by simp[PyData.strOk,h c List.mem_cons_self]⟩
theorem gk{K:PySem.W.Frag}{H:Hp}{a:Addr}{cs:List Nat}(h:SqL K H a (cs.map sg))(hc:∀c∈cs,c<0x110000):DatV K H (.list (cs.map fun c=>PyData.str (aA c))) (.ref a):=by
 rw[DatV];exact⟨a,_,rfl,h,oy cs hc⟩
theorem lU:∀ns:List Int,PyData.depthAll (ns.map PyData.int)≤1
 | []=>by simp[PyData.depthAll]
 | n::ns=>by
   have:=lU ns
   rw[List.map_cons,PyData.depthAll]
   simp only[PyData.depth]
   lia
theorem nQ:∀cs:List Nat,PyData.depthAll (cs.map fun c=>PyData.str (aA c))≤1
 | []=>by simp[PyData.depthAll]
 | c::cs=>by
   have:=nQ cs
   rw[List.map_cons,PyData.depthAll]
   simp only[PyData.depth]
   lia
theorem wb(ns:List Int):(PyData.list (ns.map PyData.int)).depth≤2:=by
 have:=lU ns
 rw[PyData.depth];lia
theorem oI(cs:List Nat):(PyData.list (cs.map fun c=>PyData.str (aA c))).depth≤2:=by
 have:=nQ cs
 rw[PyData.depth];lia
theorem pQ:∀ns ms:List Int,PyData.eqvAll (ns.map PyData.int) (ms.map PyData.int)=decide (ns=ms)
 | [],[]=>by simp[PyData.eqvAll]
 | [],_::_=>by simp[PyData.eqvAll]
 | _::_,[]=>by simp[PyData.eqvAll]
 | n::ns,m::ms=>by
   rw[List.map_cons,List.map_cons,PyData.eqvAll,pQ ns ms]
   rw[PyData.eqv,Bool.beq_eq_decide_eq]
   simp
theorem tO{a b:Nat}:(aA a == aA b)=decide (a=b):=by
 by_cases h:a=b
 ·subst h;simp
 ·have:aA a≠aA b:=fun e=>h (by simpa [aA] using e)
  simp[h,this]
theorem o7:∀cs ds:List Nat,PyData.eqvAll (cs.map fun c=>PyData.str (aA c)) (ds.map fun c=>PyData.str (aA c))=decide (cs=ds)
 | [],[]=>by simp[PyData.eqvAll]
 | [],_::_=>by simp[PyData.eqvAll]
 | _::_,[]=>by simp[PyData.eqvAll]
 | c::cs,d::ds=>by
   rw[List.map_cons,List.map_cons,PyData.eqvAll,o7 cs ds,PyData.eqv,tO]
   simp
theorem uL(ns ms:List Int):PyData.eqv (.list (ns.map PyData.int)) (.list (ms.map PyData.int))=decide (ns=ms):=by rw[PyData.eqv,pQ]
theorem oE(cs ds:List Nat):PyData.eqv (.list (cs.map fun c=>PyData.str (aA c))) (.list (ds.map fun c=>PyData.str (aA c)))=decide (cs=ds):=by rw[PyData.eqv,o7]
def rEqI(K:PySem.W.Frag)(neg:Bool):R2:=fun x y H Q=>∃(a b:Addr) (ns ms:List Int),x=.ref a∧y=.ref b∧SqL K H a (ns.map V.int)∧SqL K H b (ms.map V.int)∧Q (.bl (if neg then !decide (ns=ms) else decide (ns=ms))) H
def rEqS(K:PySem.W.Frag)(neg:Bool):R2:=fun x y H Q=>∃(a b:Addr) (cs ds:List Nat),x=.ref a∧y=.ref b∧SqL K H a (cs.map sg)∧SqL K H b (ds.map sg)∧(∀c∈cs,c<0x110000)∧(∀c∈ds,c<0x110000)∧Q (.bl (if neg then !decide (cs=ds) else decide (cs=ds))) H
section
variable{X:Cx}{k:Nat}
theorem OpR.imp{f:Value→Value→Sem Value}{r r':R2}(h:OpR X f r)(i:∀x y H Q,r' x y H Q→r x y H Q):OpR X f r':=fun pins s σ H x y v u Q I rx ry q=>h pins s σ H x y v u Q I rx ry (i _ _ _ _ q)
theorem rEqI.toD{K:PySem.W.Frag}{neg:Bool}:∀x y H Q,rEqI K neg x y H Q→fN K neg x y H Q:=by
 rintro x y H Q ⟨a,b,ns,ms,rfl,rfl,h1,h2,q⟩
 refine⟨_,_,nH h1,nH h2,Nat.le_trans (Nat.min_le_left _ _) (Nat.le_trans (wb ns) (by decide)),?_⟩
 rw[uL]
 exact q
theorem rEqS.toD{K:PySem.W.Frag}{neg:Bool}:∀x y H Q,rEqS K neg x y H Q→fN K neg x y H Q:=by
 rintro x y H Q ⟨a,b,ns,ms,rfl,rfl,h1,h2,c1,c2,q⟩
 refine⟨_,_,gk h1 c1,gk h2 c2,Nat.le_trans (Nat.min_le_left _ _) (Nat.le_trans (oI ns) (by decide)),?_⟩
 rw[oE]
 exact q
theorem u0(hr:Room k X.A):OpR X (compareOp .Eq) (rEqI X.K false):=(qw hr).imp rEqI.toD
theorem ip(hr:Room k X.A):OpR X (compareOp .NotEq) (rEqI X.K true):=(fG hr).imp rEqI.toD
theorem eU(hr:Room k X.A):OpR X (compareOp .Eq) (rEqS X.K false):=(qw hr).imp rEqS.toD
theorem rH(hr:Room k X.A):OpR X (compareOp .NotEq) (rEqS X.K true):=(fG hr).imp rEqS.toD
theorem oC:OpR X (compareOp .LtE) (fun x y H Q=>∃i j,x=.str i∧y=.str j∧Q (.bl (!decide (j.cps.toList<i.cps.toList))) H):=by
 intro pins s σ H x y v u Q I rx ry h
 obtain⟨i,j,rfl,rfl,q⟩:=h
 obtain⟨t,rfl⟩:=rx
 obtain⟨t',rfl⟩:=ry
 exact PySem.P.le_str ⟨.bl _,H,I,rfl,q⟩
theorem zt:cB X (.builtin "isinstance") (fun xs H Q=>∃x t c b,xs=[x,.ty c]∧TyOf X.K H x t∧PySem.W.kitOne X.K t (.type c)=some b∧Q (.bl b) H):=by
 intro pins s σ H xs us Q I r h
 obtain⟨x,t,c,b,rfl,ty,e,q⟩:=h
 obtain⟨u,u',rfl,rx,rc⟩:=iZ r
 cases rc
 exact wH I rx ty e fun tk=>⟨.bl b,H,I.tok tk,rfl,q⟩
end
structure Fn(P:Program)(w:World)(K:PySem.W.Frag)(mg:Str→Option Value)(base:Heap)(CX:bN)(x:Str)(k:Nat)(ps:List Str)(sp:Sp):Prop where
 ex:∃f fd,FnOk P w K mg base CX k f fd ps sp∧mg x=some (.ref f)∧PySem.W.keepIn K (.ref f)=true∧Binds K fd ps []∧∃oc od osl,K.lookup f=some ⟨oc,od,.func fd,osl⟩
theorem ai{X:Cx}{CX:bN}{k j:Nat}{ps:List Str}{sp:Sp}{E:XK}{x:Str}{p pos:Pos}{e:Expr}{es:List Expr}{t:TA}(F:Fn X.prog X.w X.K X.mg X.base CX x k ps sp)(hr:Room j X.A)(hx:gY CX X E)(ha:PA X (e::es) t)(hg:Gl X x:=by rfl)(hj:k≤j:=by decide)
 (hdb:(x == ("__debug__":Str))=false:=by decide)(he:starEach (e::es) X.env=(false,eval e X.env)::starEach es X.env:=by rfl)(hpl:(backTo pos (starEach es X.env)).any (·.1)=false:=by rfl):
 PE X (.Call (.Name x p) (e::es) [] pos) (dG sp [] E t):=by
 obtain⟨f,fd,F,hm,hk,hb,_⟩:=F.ex
 exact t7 F (hr.mono hj) hg hm hk hb .nil hx ha hdb he hpl
structure FF(K:PySem.W.Frag)(x:Str)(st:Stmt):Prop where
 ex:∃(f:Addr) (oc:Value) (od an:Option Addr) (osl:Array (Option Value)) (kV doc pm cdv ct:Value),PySem.W.nsIn K mainGlobals x=some (some (.ref f))∧
  K.lookup f=some ⟨oc,od,.func (PySem.W.fnOf x x (cE st) (bw st) (au st) .none kV doc pm an cdv ct),osl⟩∧PySem.W.codeIn K cdv x=true∧PySem.W.keepIn K (.ref f)=true
theorem ff_mk{K:PySem.W.Frag}{x:Str}{st:Stmt}{f:Addr}{oc:Value}{od an:Option Addr}{osl:Array (Option Value)}{kV doc pm cdv ct:Value}(a:PySem.W.nsIn K mainGlobals x=some (some (.ref f)))(l:K.lookup f=some ⟨oc,od,.func (PySem.W.fnOf x x (cE st) (bw st) (au st) .none kV doc pm an cdv ct),osl⟩)(c:PySem.W.codeIn K cdv x=true)(k:PySem.W.keepIn K (.ref f)=true):FF K x st:=⟨f,oc,od,an,osl,kV,doc,pm,cdv,ct,a,l,c,k⟩
structure Md(K:PySem.W.Frag)(mg:Str→Option Value):Prop where
 ns:∀x v,PySem.W.nsIn K mainGlobals x=some v→mg x=v
theorem sR{K:PySem.W.Frag}{h:Heap}{mg:Str→Option Value}(X:K.In h)(G:h.Ns mainGlobals mg):Md K mg:=⟨fun x v e=>by
 cases v with
 | none=>exact PySem.W.mg_none_of X G e
 | some u=>exact PySem.W.mg_of X G e⟩
theorem aK{P:Program}{w:World}{K:PySem.W.Frag}{mg:Str→Option Value}{base:Heap}{x:Str}{st:Stmt}{N ps:List Str}{k:Nat}{sp:Sp}(M:Md K mg)(F:FF K x st)(S:FnScope N ps (au st))(hbind:∀(kV doc pm:Value) (an:Option Addr) (cdv ct:Value) (us:List Value),us.length=ps.length→bindArgs (PySem.W.fnOf x x (cE st) (bw st) (au st) .none kV doc pm an cdv ct) ⟨us,[]⟩=pure (ps.zip us))(len:∀vs H Q E,sp vs H Q E→vs.length=ps.length)(hbody:∀(f:Addr) (cdv:Value) (A:Around) (outer:List Env) (s:Shared) (H:Hp) (vs:List V) (Q:VK) (E:XK),Room k (A.deeper (envOfC x (au st) s.heap.objs.size f cdv))→sp vs H Q E→∃t,PSs (bY ae P w K mg base N x (au st) f cdv A outer s H E).nox (bw st) t∧t {nx:=fun _ H'=>Q .non H',rt:=Q} (cV N vs) H):Fn P w K mg base ae x (k+1) ps sp:=by
 obtain⟨f,oc,od,an,osl,kV,doc,pm,cdv,ct,a,l,c,kk⟩:=F.ex
 have F1:=iE (st:=st) l c kk
 exact⟨f,_,F1.ok S len (fun cdv A outer s H vs Q E hr h=>hbody f cdv A outer s H vs Q E hr h),M.ns _ _ a,kk,F1.binds hbind,oc,od,osl,l⟩
theorem qE{CX:bN}{P:Program}{w:World}{K:PySem.W.Frag}{mg:Str→Option Value}{base:Heap}{x:Str}{st:Stmt}{N ps:List Str}{k:Nat}{sp:Sp}(M:Md K mg)(F:FF K x st)(S:FnScope N ps (au st))(hbind:∀(kV doc pm:Value) (an:Option Addr) (cdv ct:Value) (us:List Value),us.length=ps.length→bindArgs (PySem.W.fnOf x x (cE st) (bw st) (au st) .none kV doc pm an cdv ct) ⟨us,[]⟩=pure (ps.zip us))(len:∀vs H Q E,sp vs H Q E→vs.length=ps.length)(hbody:∀(f:Addr) (cdv:Value) (A:Around) (outer:List Env) (s:Shared) (H:Hp) (vs:List V) (Q:VK) (E:XK),Room k (A.deeper (envOfC x (au st) s.heap.objs.size f cdv))→sp vs H Q E→∃t,PSs (bY CX P w K mg base N x (au st) f cdv A outer s H E) (bw st) t∧t {nx:=fun _ H'=>Q .non H',rt:=Q} (cV N vs) H):Fn P w K mg base CX x (k+1) ps sp:=by
 obtain⟨f,oc,od,an,osl,kV,doc,pm,cdv,ct,a,l,c,kk⟩:=F.ex
 have F1:=iE (st:=st) l c kk
 exact⟨f,_,iP l c S len (fun A outer s H vs Q E hr h=>hbody f cdv A outer s H vs Q E hr h),M.ns _ _ a,kk,F1.binds hbind,oc,od,osl,l⟩
structure Bl(mg:Str→Option Value):Prop where
 max:mg "max"=none
 int:mg "int"=none
 len:mg "len"=none
 range:mg "range"=none
 list:mg "list"=none
 isinst:mg "isinstance"=none
 bool:mg "bool"=none
 str:mg "str"=none
 tuple:mg "tuple"=none
 rev:mg "reversed"=none
 zip:mg "zip"=none
 min:mg "min"=none
 sum:mg "sum"=none
 enumerate:mg "enumerate"=none
 dict:mg "dict"=none
theorem bl_of{K:PySem.W.Frag}{mg:Str→Option Value}(M:Md K mg)(b1:PySem.W.nsIn K mainGlobals "max"=some none)(b2:PySem.W.nsIn K mainGlobals "int"=some none)(b3:PySem.W.nsIn K mainGlobals "len"=some none)(b4:PySem.W.nsIn K mainGlobals "range"=some none)(b5:PySem.W.nsIn K mainGlobals "list"=some none)(b6:PySem.W.nsIn K mainGlobals "isinstance"=some none)(b7:PySem.W.nsIn K mainGlobals "bool"=some none)(b8:PySem.W.nsIn K mainGlobals "str"=some none)(b9:PySem.W.nsIn K mainGlobals "tuple"=some none)(b10:PySem.W.nsIn K mainGlobals "reversed"=some none)(b11:PySem.W.nsIn K mainGlobals "zip"=some none)(b12:PySem.W.nsIn K mainGlobals "min"=some none)(b13:PySem.W.nsIn K mainGlobals "sum"=some none)(b14:PySem.W.nsIn K mainGlobals "enumerate"=some none)(b15:PySem.W.nsIn K mainGlobals "dict"=some none):Bl mg:=
 ⟨M.ns _ _ b1,M.ns _ _ b2,M.ns _ _ b3,M.ns _ _ b4,M.ns _ _ b5,M.ns _ _ b6,M.ns _ _ b7,M.ns _ _ b8,M.ns _ _ b9,M.ns _ _ b10,M.ns _ _ b11,M.ns _ _ b12,M.ns _ _ b13,M.ns _ _ b14,M.ns _ _ b15⟩
def Keep(p:Addr)(H H':Hp):Prop:=∀b o,H b=some o→b≠p→H' b=some o
theorem Keep.trans{p:Addr}{H H1 H2:Hp}(a:Keep p H H1)(b:Keep p H1 H2):Keep p H H2:=fun c o h n=>b c o (a c o h n) n
theorem Same.keep{p:Addr}{H H':Hp}(a:Same H H'):Keep p H H':=fun c o h _=>a c o h
theorem Keep.upd{p:Addr}{H:Hp}{o:HO}:Keep p H (upd H p o):=fun c u h n=>by rw[ao n];exact h
theorem Same.upd{H:Hp}{p:Addr}{o:HO}(h:H p=none):Same H (upd H p o):=fun c u e=>by rw[ao (aN e h)];exact e
theorem Keep.free{p:Addr}{H H':Hp}(a:Keep p H H'){o:HO}(hp:H' p=some o){l:Addr}(h:H' l=none):H l=none:=by
 cases q:H l with
 | none=>rfl
 | some u=>
   have:l≠p:=fun z=>by subst z;rw[hp] at h;cases h
   rw[a l u q this] at h;cases h
theorem mZ:bootBuiltins "max"=some (.builtin "max"):=by decide+kernel
theorem oD:bootBuiltins "min"=some (.builtin "min"):=by decide+kernel
theorem yx:bootBuiltins "sum"=some (.builtin "sum"):=by decide+kernel
theorem oG:bootBuiltins "len"=some (.builtin "len"):=by decide+kernel
theorem wY:bootBuiltins "isinstance"=some (.builtin "isinstance"):=by decide+kernel
theorem u7:bootBuiltins "str"=some (.type "str"):=by decide+kernel
theorem jx:bootBuiltins "list"=some (.type "list"):=by decide+kernel
theorem wT:bootBuiltins "tuple"=some (.type "tuple"):=by decide+kernel
theorem uJ:bootBuiltins "reversed"=some (.type "reversed"):=by decide+kernel
section
variable{X:Cx}{e e2:Expr}{te te2:TE}{p p2 pos:Pos}
theorem PE.imp{t t':TE}(h:PE X e t)(i:∀σ H Q,t' σ H Q→t σ H Q):PE X e t':=fun pins s σ H Q I q=>h pins s σ H Q I (i σ H Q q)
def je(K:PySem.W.Frag)(te:TE):TE:=fun σ H Q=>te σ H fun x H1=>∃a ys,x=.ref a∧SqL K H1 a ys∧Q (.int ys.length) H1
def tf(te:TE):TE:=fun σ H Q=>te σ H fun x H1=>∃z,x=.str z∧z.length≤sizeLine∧Q (.int z.length) H1
def zy(te te2:TE):TE:=fun σ H Q=>te σ H fun x H1=>te2 σ H1 fun y H2=>∃i j,x=.int i∧y=.int j∧Q (.int (if j>i then j else i)) H2
def tj(K:PySem.W.Frag)(te:TE):TE:=fun σ H Q=>te σ H fun x H1=>∃a ys,x=.ref a∧SqL K H1 a ys∧∀l,H1 l=none→Q (.ref l) (upd H1 l (.lst ys))
def yy(K:PySem.W.Frag)(c:String)(te:TE):TE:=fun σ H Q=>te σ H fun x H1=>∃t b,TyOf K H1 x t∧PySem.W.kitOne K t (.type c)=some b∧Q (.bl b) H1
def r1(r:V→Hp→VK→Prop):List V→Hp→VK→Prop:=fun xs H Q=>match xs with | [x]=>r x H Q | _=>False
def ik(r:V→V→Hp→VK→Prop):List V→Hp→VK→Prop:=fun xs H Q=>match xs with | [x,y]=>r x y H Q | _=>False
theorem c7{f:Value}{r:V→Hp→VK→Prop}(h:∀pins s σ H x us Q,Inv X pins σ H s→Vals [x] us→r x H Q→wpAny (model X.prog X.w) X.A (call f us) (EP X pins σ Q) X.xe s):cB X f (r1 r):=by
 intro pins s σ H xs us Q I rv q
 match xs,q with
 | [x],q=>exact h pins s σ H x us Q I rv q
theorem jj{f:Value}{r:V→V→Hp→VK→Prop}(h:∀pins s σ H x y us Q,Inv X pins σ H s→Vals [x,y] us→r x y H Q→wpAny (model X.prog X.w) X.A (call f us) (EP X pins σ Q) X.xe s):cB X f (ik r):=by
 intro pins s σ H xs us Q I rv q
 match xs,q with
 | [x,y],q=>exact h pins s σ H x y us Q I rv q
theorem av(hm:X.mg "len"=none)(ha:PE X e te)(hg:Gl X "len":=by rfl)(he:starEach [e] X.env=[(false,eval e X.env)]:=by rfl):PE X (.Call (.Name "len" p) [e] [] pos) (je X.K te):=
 dk (r:=r1 fun x H Q=>∃a ys,x=.ref a∧SqL X.K H a ys∧Q (.int ys.length) H) (c7 fun pins s σ H x us Q I rv ⟨a,ys,ex,h,q⟩=>uC pins s σ H _ us Q I rv ⟨a,ys,by rw[ex],.inl h,q⟩) hg hm oG (aa ha ac (by exact he)) (he:=by exact he)
theorem uQ(hm:X.mg "len"=none)(ha:PE X e te)(hg:Gl X "len":=by rfl)(he:starEach [e] X.env=[(false,eval e X.env)]:=by rfl):PE X (.Call (.Name "len" p) [e] [] pos) (tf te):=
 dk (r:=r1 fun x H Q=>∃z,x=.str z∧z.length≤sizeLine∧Q (.int z.length) H) (c7 fun pins s σ H x us Q I rv ⟨z,ex,h,q⟩=>rF pins s σ H _ us Q I rv ⟨z,by rw[ex],h,q⟩) hg hm oG (aa ha ac (by exact he)) (he:=by exact he)
theorem nv(hc:X.calm=true)(hm:X.mg "max"=none)(ha:PE X e te)(hb:PE X e2 te2)(hg:Gl X "max":=by rfl)(he:starEach [e,e2] X.env=[(false,eval e X.env),(false,eval e2 X.env)]:=by rfl)(he2:starEach [e2] X.env=[(false,eval e2 X.env)]:=by rfl):PE X (.Call (.Name "max" p) [e,e2] [] pos) (zy te te2):=
 dk (r:=ik fun x y H Q=>∃i j,x=.int i∧y=.int j∧Q (.int (if j>i then j else i)) H) (jj fun pins s σ H x y us Q I rv ⟨i,j,ex,ey,q⟩=>sJ hc pins s σ H _ us Q I rv ⟨i,j,by rw[ex,ey],q⟩) hg hm mZ (aa ha (aa hb ac (by exact he2)) (by rw[he,he2])) (he:=by rw[he,he2]) (hpl:=by rw[he2];rfl)
theorem iJ(hm:X.mg "list"=none)(ha:PE X e te)(hg:Gl X "list":=by rfl)(he:starEach [e] X.env=[(false,eval e X.env)]:=by rfl):PE X (.Call (.Name "list" p) [e] [] pos) (tj X.K te):=
 gF (r:=r1 fun x H Q=>∃a ys,x=.ref a∧SqL X.K H a ys∧∀l,H l=none→Q (.ref l) (upd H l (.lst ys))) (c7 fun pins s σ H x us Q I rv ⟨a,ys,ex,h,q⟩=>n4 pins s σ H _ us Q I rv ⟨a,ys,by rw[ex],.inl h,q⟩) hg hm jx (aa ha ac (by exact he)) (he:=by exact he)
theorem wt{T:Str}{c:String}(hm:X.mg "isinstance"=none)(hT:X.mg T=none)(hb:bootBuiltins T=some (.type c))(ha:PE X e te)(hg:Gl X "isinstance":=by rfl)(hgT:Gl X T:=by rfl)(he:starEach [e,.Name T p2] X.env=[(false,eval e X.env),(false,eval (.Name T p2) X.env)]:=by rfl)
 (hn:T≠"__name__":=by decide)(hd:(T == ("__debug__":Str))=false:=by decide):PE X (.Call (.Name "isinstance" p) [e,.Name T p2] [] pos) (yy X.K c te):=
 dk (r:=ik fun x y H Q=>∃t b,y=.ty c∧TyOf X.K H x t∧PySem.W.kitOne X.K t (.type c)=some b∧Q (.bl b) H)
  (jj fun pins s σ H x y us Q I rv ⟨t,b,ey,ty,ek,q⟩=>zt pins s σ H _ us Q I rv ⟨x,t,c,b,by rw[ey],ty,ek,q⟩) hg hm wY
  (aa ha (aa (uE (v:=.ty c) hgT hT hb rfl hn hd) ac) (by exact he)) (he:=by exact he) |>.imp fun σ H Q h=>by
   show te σ H fun x H1=>∃t b,V.ty c=.ty c∧_
   simp only[true_and]
   exact h
end
theorem gx(n d:Nat)(i:Int)(h:0≤i):HT.sIx n d (some i)=min i.toNat n:=by
 show(if i<0 then(i+(n:Int)).toNat else min i.toNat n)=min i.toNat n
 rw[if_neg (by lia)]
theorem xy{α:Type}(xs:List α)(k:Nat):xs.take (min k xs.length)=xs.take k:=by
 rcases Nat.le_total k xs.length with h | h
 ·rw[Nat.min_eq_left h]
 ·rw[Nat.min_eq_right h,List.take_length,List.take_of_length_le h]
theorem mJ{α:Type}(xs:List α)(k:Nat):xs.drop (min k xs.length)=xs.drop k:=by
 rcases Nat.le_total k xs.length with h | h
 ·rw[Nat.min_eq_left h]
 ·rw[Nat.min_eq_right h,List.drop_length,List.drop_of_length_le h]
def de{α:Type}(xs:List α)(lo hi:Option Int):List α:=(xs.drop (HT.sIx xs.length 0 lo)).take (HT.sIx xs.length xs.length hi-HT.sIx xs.length 0 lo)
theorem fT{α:Type}(xs:List α)(k:Int)(h:0≤k):de xs none (some k)=xs.take k.toNat:=by
 unfold de
 rw[gx _ _ _ h,HT.sIx_none,List.drop_zero,Nat.sub_zero,xy]
theorem iH{α:Type}(xs:List α)(k:Int)(h:0≤k):de xs (some k) none=xs.drop k.toNat:=by
 unfold de
 rw[gx _ _ _ h,HT.sIx_none,mJ]
 exact List.take_of_length_le (by rw[List.length_drop];lia)
theorem dN{α:Type}(xs:List α)(i j:Int)(hi:0≤i)(hj:i≤j):de xs (some i) (some j)=(xs.drop i.toNat).take (j.toNat-i.toNat):=by
 unfold de
 rw[gx _ _ _ hi,gx _ _ _ (Int.le_trans hi hj),mJ]
 rcases Nat.le_total j.toNat xs.length with h | h
 ·rw[Nat.min_eq_left h,Nat.min_eq_left (by lia)]
 ·rw[Nat.min_eq_right h]
  rcases Nat.le_total i.toNat xs.length with h' | h'
  ·rw[Nat.min_eq_left h',List.take_of_length_le (by rw[List.length_drop];lia),List.take_of_length_le (by rw[List.length_drop];lia)]
  ·rw[List.drop_of_length_le h'];simp
theorem bE{α β:Type}(f:α→β)(xs:List α)(lo hi:Option Int):de (xs.map f) lo hi=(de xs lo hi).map f:=by
 unfold de
 rw[List.length_map,List.map_take,List.map_drop]
theorem bO(xs:List V)(lo hi:Option Int):bp xs lo hi=de xs lo hi:=rfl
theorem fj{α:Type}(xs:List α)(r:Int)(h0:0≤r)(h1:r<xs.length):∃v,xs[r.toNat]?=some v∧v∈xs∧bA xs r=some v:=by
 have hl:r.toNat<xs.length:=by lia
 refine⟨xs[r.toNat],by simp[hl],List.getElem_mem hl,?_⟩
 have e:((r.toNat:Nat):Int)=r:=by lia
 have q:bA xs ((r.toNat:Nat):Int)=some xs[r.toNat]:=bu (by simp[hl])
 rw[e] at q
 exact q
theorem mT(cs:List Nat):(Str.length ⟨cs.toArray⟩)=cs.length:=by simp[Str.length]
def dv(K:PySem.W.Frag)(a:Addr)(xs:List V):It:=
 ⟨fun i H=>SqL K H a xs∧i<xs.length,fun i H x H'=>H'=H∧xs[xs.length-1-i]?=some x,fun i _=>xs.length≤i⟩
theorem vQ{P:Program}{w:World}{K:PySem.W.Frag}{tg:Expr}(a it:Addr)(xs:List V):Turn P w K tg (dv K a xs) [it] it (fun i h=>i≤xs.length∧h.IsRevIter it a ((xs.length:Int)-1-(i:Int))) where
 mem:=by simp
 obj:=fun i h st b hb=>by
  have e:b=it:=by simpa using hb
  subst e
  obtain⟨o,e,c,d⟩:=st.2
  exact⟨o,e,fun v z=>by rw[d] at z;cases z⟩
 keep:=fun i h h' st k=>⟨st.1,st.2.at fun o e=>k it (by simp) o e⟩
 item:=by
  intro X hP hw hK hc i pins s σ H E I hf st hg
  subst hP hw hK
  obtain⟨hq,hx⟩:=hg
  obtain⟨its,rv,p,hz⟩:=I.list hq
  have hlt:xs.length-1-i<xs.length:=by lia
  obtain⟨u,hu,ru⟩:=rv.get (show xs[xs.length-1-i]?=some xs[xs.length-1-i] by simp[hlt])
  obtain⟨f0,f1,f2,f3,f4,f5⟩:=hf it (by simp)
  have e1:(xs.length:Int)-1-(i:Int)=((xs.length-1-i:Nat):Int):=by lia
  have hit:=st.2
  rw[e1] at hit
  refine wpAny_pyNext_rev_item hit p.isList (x:=u) (by simpa using hu) fun h' st' sb=>?_
  have e2:((xs.length-1-i:Nat):Int)-1=(xs.length:Int)-1-((i+1:Nat):Int):=by lia
  rw[e2] at st'
  have I1:Inv X pins σ H {s with heap:=h'}:=I.turned (t':=s.toks) (fun b o hb e=>(sb.2 b hb).trans e) f0 f1 f3 f4 f5
  obtain⟨o,e,c,d⟩:=id st'
  exact⟨u,rfl,jp (s:={s with heap:=h'}) e c d (by decide) ⟨_,H,I1,ru,⟨rfl,by simp[hlt]⟩,⟨hx,st'⟩,fun b hb=>(hf b hb).1⟩⟩
 done:=by
  intro X hP hw hK hc i pins s σ H E I hf st hg
  subst hP hw hK
  obtain⟨f0,f1,f2,f3,f4,f5⟩:=hf it (by simp)
  have hg':xs.length≤i:=hg
  have e1:(xs.length:Int)-1-(i:Int)= -1:=by have:=st.1;lia
  have hit:=st.2
  rw[e1] at hit
  exact wpAny_pyNext_rev_end (I.ok.hd hc) hit fun h' eb=>⟨rfl,I.turned (t':=s.toks) (fun b o hb e=>eb b o hb e) f0 f1 f3 f4 f5⟩
 self:=fun _ _ _ _ _ st h=>wpAny_pyIter_revIter st.2 h
def y0(K:PySem.W.Frag)(tl:TE):TI:=fun σ H R=>tl σ H fun x H1=>∃a xs,x=.ref a∧SqL K H1 a xs∧R (dv K a xs) H1
theorem zq{X:Cx}{tg e:Expr}{te:TE}{p pos:Pos}(hm:X.mg "reversed"=none)(he:PE X e te)(hg:Gl X "reversed":=by rfl)(hs:starEach [e] X.env=[(false,eval e X.env)]:=by rfl):PI X tg (.Call (.Name "reversed" p) [e] [] pos) (y0 X.K te):=by
 intro pins s σ H R I h
 refine Call_ (cW I hg hm uJ (PyProof.Rows.callWith_type1 (ap ((aa he ac (by exact hs)) pos pins s σ H (fun vs H1=>∃x,vs=[x]∧∃a xs,x=.ref a∧SqL X.K H1 a xs∧R (dv X.K a xs) H1) I ?_) fun us s1 ⟨vs,H1,I1,r1,q1⟩=>?_) hs rfl))
 ·show te σ H fun x H1=>∃x',[x]=[x']∧∃a xs,x'=.ref a∧SqL X.K H1 a xs∧R (dv X.K a xs) H1
  have e:(fun(x:V) (H1:Hp)=>∃x',[x]=[x']∧∃a xs,x'=V.ref a∧SqL X.K H1 a xs∧R (dv X.K a xs) H1)=fun x H1=>∃a xs,x=.ref a∧SqL X.K H1 a xs∧R (dv X.K a xs) H1:=by
   funext x H1
   apply propext
   constructor
   ·rintro⟨x',e,r⟩
    cases e
    exact r
   ·intro r
    exact⟨x,rfl,r⟩
  rw[e]
  exact h
 ·obtain⟨x,rfl,a,xs,rfl,hq,q⟩:=q1
  obtain⟨u,rfl,ru⟩:=eZ r1
  cases ru
  obtain⟨its,rv,pl,hz⟩:=I1.list hq
  refine call_reversed_list pl.isList ?_
  have I2:Inv X pins σ H1 {s1 with heap:=s1.heap.push (revObj a ((its.toArray.size:Int)-1))}:=I1.kept (t':=s1.toks) fun b o e=>Heap.get?_push_of_some _ e
  have hl:=rv.length
  have st:({s1 with heap:=s1.heap.push (revObj a ((its.toArray.size:Int)-1))}:Shared).heap.IsRevIter s1.heap.objs.size a ((xs.length:Int)-1-((0:Nat):Int)):=by
   refine⟨_,Heap.get?_push_size _ rfl,rfl,?_⟩
   have:(its.toArray.size:Int)-1=(xs.length:Int)-1-((0:Nat):Int):=by simp;lia
   rw[←this];rfl
  refine wpAny_pyIter_revIter st ?_
  refine⟨s1.heap.objs.size,[s1.heap.objs.size],_,_,H1,rfl,I2,vQ a _ xs,⟨Nat.zero_le _,st⟩,fun b hb=>?_,q⟩
  have e:b=s1.heap.objs.size:=by simpa using hb
  subst e
  exact I1.fpOk (Nat.le_refl _) (I1.hok.fresh (Nat.le_refl _))
theorem rg{K:PySem.W.Frag}{a:Addr}{xs:List V}{tc:TT}{te:TE}{σ:St}{H1:Hp}{Q:Hp→Prop}{D:Addr}(Pv:Nat→List V→Hp→Prop)(hn:xs.length<sizeLine)(h0:Pv 0 [] (upd H1 D (.lst [])))(hl:∀i ys H,Pv i ys H→ys.length≤i)(hq:∀i ys H,i≤xs.length→Pv i ys H→SqL K H a xs)(hs:∀i x ys H,xs[xs.length-1-i]?=some x→i<xs.length→Pv i ys H→tc (σ++[some x]) H fun b H2=>if b=true then te (σ++[some x]) H2 fun v H3=>H3 D=some (.lst ys)∧Pv (i+1) (ys++[v]) (upd H3 D (.lst (ys++[v]))) else Pv (i+1) ys H2)
 (hd:∀ys H,Pv xs.length ys H→Q H):
 ∃ W:Nat→Nat→List V→Hp→Prop,(∃m,W 0 m [] (upd H1 D (.lst [])))∧
   ∀ i m ys H,W i m ys H→((dv K a xs).stop i H∧Q H)∨((dv K a xs).go i H∧ys.length<sizeLine∧∃N:List V→Hp→Prop,(∀ys' H',N ys' H'→∃m',m'<m∧W (i+1) m' ys' H')∧∀x H',(dv K a xs).yld i H x H'→tc (σ++[some x]) H' fun b H2=>
     if b=true then te (σ++[some x]) H2 fun v H3=>H3 D=some (.lst ys)∧N (ys++[v]) (upd H3 D (.lst (ys++[v]))) else N ys H2):=by
 refine⟨fun i m ys H=>m=xs.length-i∧i≤xs.length∧Pv i ys H,⟨xs.length,by simp,Nat.zero_le _,h0⟩,?_⟩
 rintro i m ys H ⟨rfl,hi,p⟩
 have q:=hq i ys H hi p
 by_cases hlt:i<xs.length
 ·refine .inr ⟨⟨q,hlt⟩,Nat.lt_of_le_of_lt (hl i ys H p) (Nat.lt_trans hlt hn),Pv (i+1),fun ys' H' p'=>⟨xs.length-(i+1),by lia,rfl,hlt,p'⟩,fun x H' y=>?_⟩
  obtain⟨e,y⟩:=y
  subst e
  exact hs i x ys _ y hlt p
 ·have e:i=xs.length:=by lia
  subst e
  exact .inl ⟨Nat.le_refl _,hd ys H p⟩
theorem dW{σ:St}{H:Hp}{A B:Hp→Prop}(h:A H):lP σ H fun b H2=>if b=true then A H2 else B H2:=by
 show if true=true then A H else B H
 rw[if_pos rfl]
 exact h
theorem lj{K:PySem.W.Frag}{H:Hp}:DatVs K H [] []:=by rw[DatVs]
theorem qz{K:PySem.W.Frag}{H:Hp}{d:PyData}{ds:List PyData}{v:V}{vs:List V}(h:DatV K H d v)(g:DatVs K H ds vs):DatVs K H (d::ds) (v::vs):=by
 rw[DatVs];exact⟨v,vs,rfl,h,g⟩
theorem i8{K:PySem.W.Frag}{H:Hp}{p:Addr}{ds:List PyData}{vs:List V}(h:SqL K H p vs)(g:DatVs K H ds vs):DatV K H (.list ds) (.ref p):=by
 rw[DatV];exact⟨p,vs,rfl,h,g⟩
theorem wV{K:PySem.W.Frag}{H:Hp}(b:Bool):DatV K H (.bool b) (.bl b):=by rw[DatV]
def eO(cs:List Nat):PyData:=.list (cs.map fun c=>PyData.str (aA c))
theorem sF(cs ds:List Nat):PyData.eqv (eO cs) (eO ds)=decide (cs=ds):=oE cs ds
theorem yj(cs:List Nat):(eO cs).depth≤2:=oI cs
section
variable{X:Cx}{a b e:Expr}{aq:List Expr}{ta tb te:TE}{p pos:Pos}
def pe(K:PySem.W.Frag)(ta tb:TE):TE:=fun σ H Q=>ta σ H fun x H1=>∃k,pR K x H1 k∧if k=true then Q x H1 else tb σ H1 Q
theorem my(ha:PE X a ta)(hb:PE X (.BoolOp .Or (b::aq) pos) tb):PE X (.BoolOp .Or (a::b::aq) pos) (pe X.K ta tb):=by
 intro pins s σ H Q I h
 refine BoolOp_or (ap (ha pins s σ H _ I h) fun v s1 ⟨x,H1,I1,r1,q1⟩=>?_)
 obtain⟨k,tk,q1⟩:=q1
 refine ap (yY pins s1 σ H1 x v (fun k' H'=>k'=k∧H'=H1) I1 r1 ⟨k,tk,rfl,rfl⟩) fun k' s2 ⟨H2,I2,e1,e2⟩=>?_
 subst e1 e2
 cases k' with
 | false=>exact hb pins s2 σ H2 Q I2 (by rw[if_neg Bool.false_ne_true] at q1;exact q1)
 | true=>exact⟨x,H2,I2,r1,by rw[if_pos rfl] at q1;exact q1⟩
end
def FW(J:It)(g:TG)(tb:TS)(D:Ends)(σ:St)(H1:Hp):Prop:=∃W:Nat→Nat→St→Hp→Prop,(∃m,W 0 m σ H1)∧∀i m σ H,W i m σ H→
 (J.stop i H∧D.nx σ H)∨(J.go i H∧∃N:St→Hp→Prop,(∀σ' H',N σ' H'→∃m',m'<m∧W (i+1) m' σ' H')∧∀x H',J.yld i H x H'→g x σ H' fun σ2 H2=>tb {D with nx:=N,ct:=N,bk:=D.nx} σ2 H2)
theorem oY{wi:TI}{g:TG}{tb aq:TS}{D:Ends}{σ:St}{H:Hp}(h:wi σ H fun J H1=>FW J g tb {D with nx:=aq D} σ H1):cY (m4 wi g tb) aq D σ H:=h
theorem uD{te:TE}{g:TG}{aq:TS}{D:Ends}{σ:St}{H:Hp}(h:te σ H fun x H1=>g x σ H1 (aq D)):cY (d8 te g) aq D σ H:=h
def xK(i j:Int):Prop:=0<j∧j<1000000000000000000000000000000000000000000000000000000000000
theorem m5{X:Cx}:OpR X (binaryOp .FloorDiv) (rI xK fun i j=>.int (i / j)):=gA fun i j _ _ _ _ _ hc q=>by
 have hn:j.natAbs.log2<9000:=by
  have h0:j.natAbs≠0:=by have:=hc.1;lia
  rw[Nat.log2_lt h0]
  have h1:j.natAbs<1000000000000000000000000000000000000000000000000000000000000:=by have:=hc.1;have:=hc.2;lia
  exact Nat.lt_of_lt_of_le h1 (Nat.le_trans (show 1000000000000000000000000000000000000000000000000000000000000≤2 ^ 200 by decide) (Nat.pow_le_pow_right (by decide) (by decide)))
 refine floordiv_int (by have:=hc.1;lia) ?_ (.inl (PyProof.noPylong_of_log2 hn))
 rw[Int.fdiv_eq_ediv_of_nonneg _ (by have:=hc.1;lia)]
 exact q
theorem Inv.turnLaid{X:Cx}{pins:List (Addr×Obj)}{σ:St}{H:Hp}{s:Shared}{h':Heap}{t':Nat}{ch:List Addr}{a:Addr}{o:HO}(I:Inv X pins σ H s)(hch:∀b∈ch,bQ X pins H b)(k:∀b u,b∉ch→s.heap.get? b=some u→h'.get? b=some u)(hp:s.heap.objs.size≤a)(new:ObjOk X.prog X.w (upd H a o) h' a o):Inv X pins σ (upd H a o) {s with heap:=h',toks:=t'}:=by
 have hn:=I.hok.fresh hp
 have nch:∀b u,H b=some u→b∉ch:=fun b u e hb=>by rw[(hch b hb).1] at e;cases e
 refine I.step (g':=s.gens) (d':=s.drawn) (ch:=ch) (fun b hb=>?_) (fun b o _ _ hc e _=>k b o hc e) (fun b o _ _ hc e _=>⟨o.slots,k b o hc e⟩) (fun b o hc e n=>?_) (fun b o hc e=>⟨o,k b o hc e⟩) (fun b xs e=>?_) (fun b o u e=>?_) (fun b ps e=>⟨#[],?_⟩) (fun m hm=>?_) (fun b u e=>?_) I.bare
 ·obtain⟨f0,f1,f2,f3,f4,f5⟩:=hch b hb
  exact⟨f3,f1,f4,f5⟩
 ·rw[ao (Nat.ne_of_lt (Nat.lt_of_lt_of_le (Heap.lt_size e) hp))];exact n
 ·rw[ao (aN e hn)];exact e
 ·rw[ao (aN e hn)];exact e
 ·rw[ao (aN e hn),e];simp
 ·obtain⟨o,es,ep,ho,r⟩:=hm
  exact⟨o,es,ep,k _ o (fun hb=>(hch _ hb).2.1 rfl) ho,r⟩
 ·by_cases hb:b=a
  ·subst hb;rw[ad] at e;cases e;exact new
  ·rw[ao hb] at e
   refine(I.hok b u e).stay (fun c v hc q=>k c v ?_ q) (fun c q=>by rw[ao (aN q hn)];exact q) fun c xs q=>by rw[ao (aN q hn)];exact q
   rcases hc with z | z
   ·rw[z];exact nch b u e
   ·exact nch c _ z
theorem Inv.turnMany{X:Cx}{pins:List (Addr×Obj)}{σ:St}{H:Hp}{s:Shared}{h':Heap}{t':Nat}{ch:List Addr}(I:Inv X pins σ H s)(hch:∀b∈ch,bQ X pins H b)(k:∀b u,b∉ch→s.heap.get? b=some u→h'.get? b=some u):Inv X pins σ H {s with heap:=h',toks:=t'}:=by
 have nch:∀b u,H b=some u→b∉ch:=fun b u e hb=>by rw[(hch b hb).1] at e;cases e
 refine I.step (g':=s.gens) (d':=s.drawn) (ch:=ch) (fun b hb=>?_) (fun b o _ _ hc e _=>k b o hc e) (fun b o _ _ hc e _=>⟨o.slots,k b o hc e⟩) (fun b o hc e n=>n) (fun b o hc e=>⟨o,k b o hc e⟩) (fun b xs e=>e) (fun b o u e=>e) (fun b ps e=>⟨#[],by rw[e];simp⟩) (fun m hm=>?_) (fun b u e=>?_) I.bare
 ·obtain⟨f0,f1,f2,f3,f4,f5⟩:=hch b hb
  exact⟨f3,f1,f4,f5⟩
 ·obtain⟨o,es,ep,ho,r⟩:=hm
  exact⟨o,es,ep,k _ o (fun hb=>(hch _ hb).2.1 rfl) ho,r⟩
 ·refine(I.hok b u e).stay (fun c v hc q=>k c v ?_ q) (fun _ q=>q) fun _ _ q=>q
  rcases hc with z | z
  ·rw[z];exact nch b u e
  ·exact nch c _ z
def eG(a b:Addr):It:=
 ⟨fun i H=>∃xs ys,H a=some (.lst xs)∧H b=some (.lst ys)∧i<xs.length∧i<ys.length,
  fun i H x H'=>∃xs ys u v p,H a=some (.lst xs)∧H b=some (.lst ys)∧xs[i]?=some u∧ys[i]?=some v∧H p=none∧H'=upd H p (.tup [u,v])∧x=.ref p,
  fun i H=>∃xs ys,H a=some (.lst xs)∧H b=some (.lst ys)∧(xs.length≤i∨ys.length≤i)⟩
theorem sD{P:Program}{w:World}{K:PySem.W.Frag}{es:List Expr}{kk:Nat}{tp:Pos}(a b z TI TO i1 i2:Addr)(D:ZipApart z TI TO i1 i2 a b):Turn P w K (.Tuple es kk tp) (eG a b) [z,TI,TO,i1,i2] z (fun i h=>IsZip h z TI TO .none∧IsPair h TI (.ref i1) (.ref i2)∧(∃x y,IsPair h TO x y)∧h.IsListIter i1 a i∧h.IsListIter i2 b i) where
 mem:=by simp
 obj:=fun i h st c hc=>by
  obtain⟨h1,h2,⟨x,y,h3⟩,h4,h5⟩:=st
  simp only[List.mem_cons,List.not_mem_nil,or_false] at hc
  rcases hc with rfl | rfl | rfl | rfl | rfl
  ·exact⟨_,h1,fun v q=>by have q':Data.fields _=Data.cell v:=q;cases q'⟩
  ·exact⟨_,h2,fun v q=>by have q':Data.seq _ _=Data.cell v:=q;cases q'⟩
  ·exact⟨_,h3,fun v q=>by have q':Data.seq _ _=Data.cell v:=q;cases q'⟩
  ·obtain⟨o,e,c,d⟩:=h4
   exact⟨o,e,fun v q=>by rw[d] at q;cases q⟩
  ·obtain⟨o,e,c,d⟩:=h5
   exact⟨o,e,fun v q=>by rw[d] at q;cases q⟩
 keep:=fun i h h' st k=>by
  obtain⟨h1,h2,⟨x,y,h3⟩,h4,h5⟩:=st
  exact⟨k z (by simp) _ h1,k TI (by simp) _ h2,⟨x,y,k TO (by simp) _ h3⟩,h4.at fun o e=>k i1 (by simp) o e,h5.at fun o e=>k i2 (by simp) o e⟩
 item:=by
  intro X hP hw hK hc i pins s σ H E I hf st hg
  subst hP hw hK
  obtain⟨h1,h2,⟨x,y,h3⟩,h4,h5⟩:=st
  obtain⟨xs,ys,ha,hb,hi1,hi2⟩:=hg
  obtain⟨_,its1,n1,rv1,hl1,e1⟩:=I.lstM ha
  obtain⟨_,its2,n2,rv2,hl2,e2⟩:=I.lstM hb
  obtain⟨u,hu,ru⟩:=rv1.get (show xs[i]?=some xs[i] by simp[hi1])
  obtain⟨v,hv,rv⟩:=rv2.get (show ys[i]?=some ys[i] by simp[hi2])
  refine wpAny_pyNext_zip_item D h1 h2 h3 h4 h5 ⟨_,e1,rfl,n1,rfl⟩ ⟨_,e2,rfl,n2,rfl⟩ (x:=u) (y:=v) (by simpa using hu) (by simpa using hv) fun h' z1 z2 z3 z4 z5 z6 z7=>⟨_,rfl,?_⟩
  refine wpAny_letOwnedTupleGo_zip (s:={s with heap:=h'}) z1 fun h'' y1 sb=>?_
  have zlt:z<s.heap.objs.size:=Heap.lt_size h1
  have nz:s.heap.objs.size≠z:=Nat.ne_of_gt zlt
  have hnew:IsPair h'' s.heap.objs.size u v:=sb.extBut _ _ nz z5
  have kk:∀c o,c∉ [z,TI,TO,i1,i2]→s.heap.get? c=some o→h''.get? c=some o:=fun c o hc e=>by
   simp only[List.mem_cons,List.not_mem_nil,or_false,not_or] at hc
   exact sb.extBut _ _ hc.1 (z7 c o hc.1 hc.2.2.1 hc.2.2.2.1 hc.2.2.2.2 e)
  have I1:Inv X pins σ (upd H s.heap.objs.size (.tup [xs[i],ys[i]])) {s with heap:=h'',toks:=s.toks}:=I.turnLaid hf kk (Nat.le_refl _) ⟨by show 2≤sizeLine;decide,[u,v],.cons ru (.cons rv .nil),⟨_,hnew,rfl,_,rfl⟩⟩
  refine⟨.ref s.heap.objs.size,_,I1,rfl,⟨xs,ys,xs[i],ys[i],s.heap.objs.size,ha,hb,by simp[hi1],by simp[hi2],I.hok.fresh (Nat.le_refl _),rfl,rfl⟩,⟨y1,?_,⟨u,v,?_⟩,?_,?_⟩,fun c hc=>?_⟩
  ·exact sb.extBut _ _ D.TIz (z7 TI _ D.TIz D.TITO D.TIi1 D.TIi2 h2)
  ·exact sb.extBut _ _ D.TOz z2
  ·exact z3.at fun o e=>sb.extBut _ _ D.i1z e
  ·exact z4.at fun o e=>sb.extBut _ _ D.i2z e
  ·rw[ao]
   ·exact(hf c hc).1
   ·intro q
    subst q
    obtain⟨o,e,_⟩:∃o,s.heap.get? s.heap.objs.size=some o∧True:=by
     simp only[List.mem_cons,List.not_mem_nil,or_false] at hc
     rcases hc with q | q | q | q | q
     ·rw[q] at*;exact⟨_,h1,trivial⟩
     ·exact⟨_,q▸h2,trivial⟩
     ·exact⟨_,q▸h3,trivial⟩
     ·obtain⟨o,e,_⟩:=h4;exact⟨o,q▸e,trivial⟩
     ·obtain⟨o,e,_⟩:=h5;exact⟨o,q▸e,trivial⟩
    exact absurd (Heap.lt_size e) (Nat.lt_irrefl _)
 done:=by
  intro X hP hw hK hc i pins s σ H E I hf st hg
  subst hP hw hK
  obtain⟨h1,h2,⟨x,y,h3⟩,h4,h5⟩:=st
  obtain⟨xs,ys,ha,hb,hend⟩:=hg
  obtain⟨_,its1,n1,rv1,hl1,e1⟩:=I.lstM ha
  obtain⟨_,its2,n2,rv2,hl2,e2⟩:=I.lstM hb
  refine wpAny_pyNext_zip_end (I.ok.hd hc) D h1 h2 h3 h4 h5 ⟨_,e1,rfl,n1,rfl⟩ ⟨_,e2,rfl,n2,rfl⟩ ?_ fun h' k=>⟨rfl,I.turnMany (t':=s.toks) hf fun c o hc e=>?_⟩
  ·rcases hend with q | q
   ·left;simp;lia
   ·right;simp;lia
  ·simp only[List.mem_cons,List.not_mem_nil,or_false,not_or] at hc
   exact k c o hc.1 hc.2.2.1 hc.2.2.2.1 hc.2.2.2.2 e
 self:=fun _ _ _ _ _ st h=>wpAny_pyIter_zip st.1 h
theorem vR:bootBuiltins "zip"=some (.type "zip"):=by decide+kernel
def rG(te te2:TE):TI:=fun σ H R=>te σ H fun x H1=>te2 σ H1 fun y H2=>∃a b xs ys,x=.ref a∧y=.ref b∧H2 a=some (.lst xs)∧H2 b=some (.lst ys)∧R (eG a b) H2
theorem xq{X:Cx}{es:List Expr}{kk:Nat}{tp:Pos}{e e2:Expr}{te te2:TE}{p pos:Pos}(hm:X.mg "zip"=none)(he:PE X e te)(he2:PE X e2 te2)(hg:Gl X "zip":=by rfl)
 (hs:starEach [e,e2] X.env=[(false,eval e X.env),(false,eval e2 X.env)]:=by rfl)(hs2:starEach [e2] X.env=[(false,eval e2 X.env)]:=by rfl):PI X (.Tuple es kk tp) (.Call (.Name "zip" p) [e,e2] [] pos) (rG te te2):=by
 intro pins s σ H R I h
 refine Call_ (cW I hg hm vR (PyProof.Rows.callWith_type1 (ap ((aa he (aa he2 ac (by exact hs2)) (by rw[hs,hs2])) pos pins s σ H (fun vs H2=>match vs with | [x,y]=>∃a b xs ys,x=.ref a∧y=.ref b∧H2 a=some (.lst xs)∧H2 b=some (.lst ys)∧R (eG a b) H2 | _=>False) I h) fun us s1 ⟨vs,H1,I1,r1,q1⟩=>?_) (by rw[hs,hs2]) (by rw[hs2];rfl)))
 match vs,q1 with
 | [x,y],q1=>
   obtain⟨a,b,xs,ys,rfl,rfl,ha,hb,q⟩:=q1
   obtain⟨u,v,rfl,ru,rv⟩:=r1.two
   cases ru
   cases rv
   obtain⟨_,its1,n1,rv1,hl1,e1⟩:=I1.lstM ha
   obtain⟨_,its2,n2,rv2,hl2,e2⟩:=I1.lstM hb
   have ih1:s1.heap.IsList a its1.toArray:=⟨_,e1,rfl,n1,rfl⟩
   have ih2:s1.heap.IsList b its2.toArray:=⟨_,e2,rfl,n2,rfl⟩
   refine call_zip_2 ih1 ih2 fun h' z1 z2 z3 z4 z5 z6 z7=>?_
   have I2:Inv X pins σ H1 {s1 with heap:=h'}:=I1.kept (t':=s1.toks) z7
   refine wpAny_pyIter_zip (s:={s1 with heap:=h'}) z1 ?_
   refine⟨_,_,_,eG a b,H1,rfl,I2,sD a b _ _ _ _ _ (zipApart_new (Heap.lt_size e1) (Heap.lt_size e2)),⟨z1,z2,⟨_,_,z3⟩,z4,z5⟩,fun c hc=>?_,q⟩
   have hge:s1.heap.objs.size≤c:=by
    simp only[List.mem_cons,List.not_mem_nil,or_false] at hc
    rcases hc with q | q | q | q | q <;> (subst q;first | exact Nat.le_add_right _ _ | exact Nat.le_refl _)
   exact I1.fpOk hge (I1.hok.fresh hge)
theorem xr{a b:Addr}{xs ys:List V}{g:TG}{tb:TS}{D:Ends}{σ:St}{H:Hp}(Pv:Nat→St→Hp→Prop)(h0:Pv 0 σ H)(hl:∀i σ H,i≤min xs.length ys.length→Pv i σ H→H a=some (.lst xs)∧H b=some (.lst ys))(hs:∀i u v p σ H,xs[i]?=some u→ys[i]?=some v→H p=none→Pv i σ H→g (.ref p) σ (upd H p (.tup [u,v])) fun σ2 H2=>tb {D with nx:=Pv (i+1),ct:=Pv (i+1),bk:=D.nx} σ2 H2)(hd:∀σ H,Pv (min xs.length ys.length) σ H→D.nx σ H):
 ∃ W:Nat→Nat→St→Hp→Prop,(∃m,W 0 m σ H)∧∀i m σ H,W i m σ H→
   ((eG a b).stop i H∧D.nx σ H)∨((eG a b).go i H∧∃N:St→Hp→Prop,(∀σ' H',N σ' H'→∃m',m'<m∧W (i+1) m' σ' H')∧∀x H',(eG a b).yld i H x H'→g x σ H' fun σ2 H2=>tb {D with nx:=N,ct:=N,bk:=D.nx} σ2 H2):=by
 refine⟨fun i m σ H=>m=min xs.length ys.length-i∧i≤min xs.length ys.length∧Pv i σ H,⟨min xs.length ys.length,by simp,Nat.zero_le _,h0⟩,?_⟩
 rintro i m σ H ⟨rfl,hi,p⟩
 obtain⟨qa,qb⟩:=hl i σ H hi p
 by_cases hlt:i<min xs.length ys.length
 ·refine .inr ⟨⟨xs,ys,qa,qb,by lia,by lia⟩,Pv (i+1),fun σ' H' p'=>⟨min xs.length ys.length-(i+1),by lia,rfl,hlt,p'⟩,fun x H' y=>?_⟩
  obtain⟨xs',ys',u,v,q,ea,eb,eu,ev,hq,e1,e2⟩:=y
  rw[qa] at ea
  rw[qb] at eb
  have e3:xs=xs':=HO.lst.inj (Option.some.inj ea)
  have e4:ys=ys':=HO.lst.inj (Option.some.inj eb)
  subst e3 e4 e1 e2
  exact hs i u v q σ H eu ev hq p
 ·have e:i=min xs.length ys.length:=by lia
  subst e
  exact .inl ⟨⟨xs,ys,qa,qb,by lia⟩,hd σ H p⟩
def vk(K:PySem.W.Frag)(te:TE):TE:=fun σ H Q=>te σ H fun x H1=>∃a xs,x=.ref a∧SqL K H1 a xs∧∀p,H1 p=none→Q (.ref p) (upd H1 p (.lst xs.reverse))
theorem jb{X:Cx}{e:Expr}{te:TE}{pos p1 p2 p3:Pos}{j:Nat}(he:PE X e te):PE X (.Subscript e (.Slice none none (some (.UnaryOp .USub (.Constant (.int 1) j p1) p2)) p3) pos) (vk X.K te):=by
 intro pins s σ H Q I h
 refine Subscript_ (ap (he pins s σ H _ I h) fun v s1 ⟨x,H1,I1,r1,q1⟩=>?_)
 obtain⟨a,xs,rfl,hq,q⟩:=q1
 cases r1
 refine wpAny_Slice ?_
 rw[evalPart_none,evalPart_some]
 refine wpAny_pure (wpAny_pure ?_)
 refine ap (nX lM (af (i:=1)) pins s1 σ H1 (fun y H'=>y=.int (-1)∧H'=H1) I1 ⟨1,rfl,rfl,rfl⟩) fun u s2 ⟨y,H2,I2,r2,e1,e2⟩=>?_
 subst e1 e2
 obtain⟨t,rfl⟩:=r2
 have I3:Inv X pins σ H2 {s2 with heap:=s2.heap.push {cls:=.type "slice",data:=.fields #[.none,.none,.int (-1) t]}}:=I2.kept (t':=s2.toks) fun b ob q=>Heap.get?_push_of_some _ q
 obtain⟨its,r,ht,hz⟩:=I3.list hq
 have hlen:=r.length
 refine tail_any (ops:=[.ref a,.ref s2.heap.objs.size]) ht.isList.typeIs slot_list_getitem.lookup (wpAny_getItem_list_slice ht.isList (Heap.IsSliceOf.new ..) .none .none (.int (-1) t) (by simp) ?_ (by rw[List.size_toArray] <;> lia)) (by with_unfolding_all rfl)
 rw[PySem.W.krv_pick]
 refine⟨.ref _,_,I3.laid (t':=s2.toks) (o:=.lst xs.reverse) (fun b ob q=>Heap.get?_push_of_some _ q) (Nat.le_refl _) ?_,rfl,q _ (I3.hok.fresh (Nat.le_refl _))⟩
 exact⟨by rw[List.length_reverse];exact hz,_,0,r.reverse,Heap.get?_push_size _ rfl⟩
theorem e8{n:Nat}(h:n≤5000):n<sizeLine:=Nat.lt_of_le_of_lt h (by decide)
section
variable{X:Cx}{e e2:Expr}{te te2:TE}{p p2 pos:Pos}
def vC(te te2:TE):TE:=fun σ H Q=>te σ H fun x H1=>te2 σ H1 fun y H2=>∃i j,x=.int i∧y=.int j∧Q (.int (if j<i then j else i)) H2
theorem oW(hc:X.calm=true)(hm:X.mg "min"=none)(ha:PE X e te)(hb:PE X e2 te2)(hg:Gl X "min":=by rfl)(he:starEach [e,e2] X.env=[(false,eval e X.env),(false,eval e2 X.env)]:=by rfl)(he2:starEach [e2] X.env=[(false,eval e2 X.env)]:=by rfl):PE X (.Call (.Name "min" p) [e,e2] [] pos) (vC te te2):=
 dk (r:=ik fun x y H Q=>∃i j,x=.int i∧y=.int j∧Q (.int (if j<i then j else i)) H) (jj fun pins s σ H x y us Q I rv ⟨i,j,ex,ey,q⟩=>xM hc pins s σ H _ us Q I rv ⟨i,j,by rw[ex,ey],q⟩) hg hm oD (aa ha (aa hb ac (by exact he2)) (by rw[he,he2])) (he:=by rw[he,he2]) (hpl:=by rw[he2];rfl)
end
def dH:List Expr→Option (List Int)
 | []=>some []
 | .Constant (.int k) _ _::r=>(dH r).map (k:: ·)
 | _=>none
def tH(ks:List Int):TA:=fun _ H Q=>Q (ks.map V.int) H
theorem ig{X:Cx}:∀{es:List Expr} {ks:List Int},dH es=some ks→PA X es (tH ks)
 | [],ks,h=>by
   have:ks=[]:=(Option.some.inj h).symm
   subst this
   exact ac
 | .Constant (.int k) j p::r,ks,h=>by
   cases e:dH r with
   | none=>rw[show dH (.Constant (.int k) j p::r)=(dH r).map (k:: ·) from rfl,e] at h;cases h
   | some ls=>
     rw[show dH (.Constant (.int k) j p::r)=(dH r).map (k:: ·) from rfl,e] at h
     have:ks=k::ls:=(Option.some.inj h).symm
     subst this
     exact aa af (ig e)
theorem pf{ns:List Int}:∀j,j≤ns.length→preSum (fun i=>ns.getD i 0) j=(ns.take j).sum
 | 0,_=>by simp[preSum]
 | j+1,h=>by
   rw[show preSum (fun i=>ns.getD i 0) (j+1)=preSum (fun i=>ns.getD i 0) j+ns.getD j 0 from rfl,pf j (by lia),List.take_succ]
   have:ns[j]?=some (ns.getD j 0):=by
    rw[List.getD_eq_getElem?_getD]
    cases q:ns[j]? with
    | none=>rw[List.getElem?_eq_none_iff] at q;lia
    | some v=>rfl
   rw[this,List.sum_append];simp
section
variable{X:Cx}
variable{e:Expr}{te:TE}{p pos:Pos}
def uV(K:PySem.W.Frag)(te:TE):TE:=fun σ H Q=>te σ H fun x H1=>∃a ys,x=.ref a∧SqT K H1 a ys∧∀l,H1 l=none→Q (.ref l) (upd H1 l (.lst ys))
theorem sq(hm:X.mg "list"=none)(ha:PE X e te)(hg:Gl X "list":=by rfl)(he:starEach [e] X.env=[(false,eval e X.env)]:=by rfl):PE X (.Call (.Name "list" p) [e] [] pos) (uV X.K te):=
 gF (r:=r1 fun x H Q=>∃a ys,x=.ref a∧SqT X.K H a ys∧∀l,H l=none→Q (.ref l) (upd H l (.lst ys))) (c7 fun pins s σ H x us Q I rv ⟨a,ys,ex,h,q⟩=>n4 pins s σ H _ us Q I rv ⟨a,ys,by rw[ex],.inr h,q⟩) hg hm jx (aa ha ac (by exact he)) (he:=by exact he)
end
theorem jr:∀{xs:List V} {us:List Value},xs.length=us.length→(∀(i:Nat) (x:V) (u:Value),xs[i]?=some x→us[i]?=some u→RelV x u)→Vals xs us
 | [],[],_,_=>.nil
 | [],_::_,h,_=>by simp at h
 | _::_,[],h,_=>by simp at h
 | x::xs,u::us,h,g=>.cons (g 0 x u rfl rfl) (jr (by simpa using h) fun i x' u' a b=>g (i+1) x' u' (by simpa using a) (by simpa using b))
section
variable{X:Cx}{e:Expr}{te:TE}{p pos:Pos}
end
def gK(outer sc:Scope)(xs:List Str)(M N:List Str):Bool:=
 decide (sc.kind=.function) && sc.names.all (fun y=>decide (y.2≠ .cell)) && sc.names.all (fun y=>decide (y.2=.local→sc.names.lookup y.1=some .local)) && xs.all (fun x=>decide (sc.names.lookup x=some .local)) &&
 sc.names.all (fun y=>decide (y.2=.free→(outer.names.lookup y.1=some .cell∨outer.names.lookup y.1=some .free))) &&
 decide ((M++xs).Nodup) && decide (M.length=N.length) && (M.zip N).all (fun p=>decide (p.1=p.2∨sc.names.lookup p.1=none)) && M.all (fun y=>decide (sc.names.lookup y≠some .local))
structure CompOK2(outer sc:Scope)(xs:List Str)(M N:List Str):Prop where
 kind:sc.kind=.function
 nocell:∀y∈sc.names,y.2≠ .cell
 loc:∀y∈sc.names,y.2=.local→sc.names.lookup y.1=some .local
 own:∀x∈xs,sc.names.lookup x=some .local
 free:∀y∈sc.names,y.2=.free→(outer.names.lookup y.1=some .cell∨outer.names.lookup y.1=some .free)
 nd:(M++xs).Nodup
 len:M.length=N.length
 same:∀p∈M.zip N,p.1=p.2∨sc.names.lookup p.1=none
 noloc:∀y∈M,sc.names.lookup y≠some .local
theorem rD{outer sc:Scope}{xs M N:List Str}(h:gK outer sc xs M N=true):CompOK2 outer sc xs M N:=by
 unfold gK at h
 simp only[Bool.and_eq_true,decide_eq_true_eq,List.all_eq_true] at h
 obtain⟨⟨⟨⟨⟨⟨⟨⟨h1,h2⟩,h3⟩,h4⟩,h5⟩,h6⟩,h7⟩,h8⟩,h9⟩:=h
 exact⟨h1,h2,h3,h4,h5,h6,h7,h8,h9⟩
section
variable{X:Cx}{pins:List (Addr×Obj)}{σ:St}{H2:Hp}{s2:Shared}{scope:Scope}{xs M:List Str}{cl:List (Str×Addr)}{fp:List Addr}{h1:Heap}{t':Nat}
theorem Inv.comp2(I:Inv X pins σ H2 s2)(K:CompOK2 X.env.scope scope xs M X.N)(hcl:∀y c,cl.lookup y=some c→X.env.cells.lookup y=some c)(hcf:∀y,(y,NameKind.free)∈scope.names→∃c,cl.lookup y=some c)(hfp:∀b∈fp,bQ X pins H2 b)(hlt:∀b∈fp,b<s2.heap.objs.size)(kp:∀b o,s2.heap.get? b=some o→h1.get? b=some o)(hD:h1.get? s2.heap.objs.size=some {cls:=.type "list",dict:=none,data:=.seq ([]:List Value).toArray})(hC:h1.Ns (s2.heap.objs.size+1) (fun _=>none)):
 Inv (X.comp (M++xs) scope ⟨cl,s2.heap.objs.size+1,s2,H2,fp⟩) [] (σ++List.replicate xs.length none) (upd H2 s2.heap.objs.size (.lst [])) {s2 with heap:=h1,toks:=t'}:=by
 have cellLt:∀y c,cl.lookup y=some c→c<s2.heap.objs.size:=fun y c e=>by
  obtain⟨v,z⟩:=I.cell y c (hcl y c e)
  exact z.lt
 have kindEq:∀y k',(compEnvC scope cl (s2.heap.objs.size+1) X.env).kindOf y=some k'→∃k,scope.names.lookup y=some k∧(k'=k∨(k=.free∧k'=.cell)):=fun y k' e=>jB e
 have freeOf:∀y k',(compEnvC scope cl (s2.heap.objs.size+1) X.env).kindOf y=some k'→(k'=.cell∨k'=.free)→(y,NameKind.free)∈scope.names:=fun y k' e hk=>by
  obtain⟨k,e1,e2⟩:=kindEq y k' e
  have mem:=PySem.mem_of_lookup e1
  have:k=.free:=by
   rcases e2 with rfl | ⟨rfl,_⟩
   ·rcases hk with rfl | rfl
    ·exact absurd rfl (K.nocell _ mem)
    ·rfl
   ·rfl
  subst this
  exact mem
 have hDn:H2 s2.heap.objs.size=none:=I.hok.fresh (Nat.le_refl _)
 refine⟨⟨I.ok.mod,K.kind,I.ok.glob,I.ok.blt,Nat.le_succ _,fun y z c e1 e2=>I.ok.inj y z c (hcl y c e1) (hcl z c e2),fun y hy=>?_,fun y c hf _=>?_,I.ok.hd,I.ok.frames,.inl rfl,fun b hb=>⟨Nat.ne_of_lt (Nat.lt_succ_of_lt (hlt b hb)),fun y c e=>(hfp b hb).2.2.2.2.1 y c (hcl y c e)⟩,
  fun b o e=>I.bs b o e,Nat.le_trans I.ok.bsz I.sz,fun b o e hb=>?_,fun b hb hf=>?_,I.stack,I.stkFree⟩,rfl,I.bare,Un.laid kp (Nat.le_refl _) hDn,⟨_,hC,fun i y v e1 e2 e3=>?_⟩,fun y c e=>?_,?_,fun y c e=>?_,fun p hp=>absurd (show p∈([]:List (Addr×Obj)) from hp) (by simp),I.hok.laid kp (Nat.le_refl _) ?_,?_⟩
 ·rcases hy with hy | hy
  ·exact hcf y (freeOf y _ hy (.inl rfl))
  ·exact hcf y (freeOf y _ hy (.inr rfl))
 ·exact absurd (show false=true from hf) Bool.false_ne_true
 ·obtain⟨f0,f1,f2,f3,f4,f5⟩:=hfp b hb
  rcases f3 with z | z
  ·exact I.ok.noex b o e z
  ·exact absurd (Nat.lt_of_lt_of_le (Heap.lt_size (I.ok.bs b o e).1) z) (Nat.lt_irrefl _)
 ·obtain⟨f0,f1,f2,f3,f4,f5⟩:=hfp b hb
  rcases List.mem_cons.mp (I.stkSub b hf) with z | z
  ·exact f1 z
  ·exact f2 z
 ·
  have hi:i<σ.length:=by
   by_cases hi:i<σ.length
   ·exact hi
   ·have hz:(σ++List.replicate xs.length none)[i]?=some (some v):=e2
    rw[List.getElem?_append_right (by lia)] at hz
    rw[List.getElem?_replicate] at hz
    split at hz <;> cases hz
  have e2':σ[i]?=some (some v):=by
   have hz:(σ++List.replicate xs.length none)[i]?=some (some v):=e2
   rw[List.getElem?_append_left hi] at hz
   exact hz
  have hiM:i<M.length:=by rw[K.len,←I.len];exact hi
  have e1':M[i]?=some y:=by
   have hz:(M++xs)[i]?=some y:=e1
   rw[List.getElem?_append_left hiM] at hz
   exact hz
  have hyM:y∈M:=List.mem_of_getElem? e1'
  have e3':∃k',(compEnvC scope cl (s2.heap.objs.size+1) X.env).kindOf y=some k'∧(k'=.cell∨k'=.free):=by
   rcases e3 with z | z | z
   ·obtain⟨k,a,b⟩:=kindEq y _ z
    rcases b with b | ⟨_,b⟩
    ·subst b;exact absurd a (K.noloc y hyM)
    ·cases b
   ·exact⟨_,z,.inl rfl⟩
   ·exact⟨_,z,.inr rfl⟩
  obtain⟨k',ek,hk⟩:=e3'
  have mem:=freeOf y k' ek hk
  obtain⟨k0,a0,_⟩:=kindEq y k' ek
  have hiN:i<X.N.length:=by rw[←K.len];exact hiM
  have eN:X.N[i]?=some y:=by
   have hz:(M[i],X.N[i])∈M.zip X.N:=by
    rw[List.mem_iff_getElem?]
    exact⟨i,List.getElem?_zip_eq_some.mpr ⟨List.getElem?_eq_getElem hiM,List.getElem?_eq_getElem hiN⟩⟩
   have eM:M[i]=y:=by
    rw[List.getElem?_eq_getElem hiM] at e1'
    exact Option.some.inj e1'
   rcases K.same _ hz with q | q
   ·rw[List.getElem?_eq_getElem hiN]
    have q':M[i]=X.N[i]:=q
    rw[←q',eM]
   ·have q':scope.names.lookup M[i]=none:=q
    rw[eM,a0] at q'
    cases q'
  have hv:=K.free _ mem rfl
  obtain⟨m,hn,hl⟩:=I.loc
  obtain⟨u,r,l⟩:=hl i y v eN e2' (hv.elim (fun z=>.inr (.inl z)) (fun z=>.inr (.inr z)))
  refine⟨u,r,.inr ⟨?_,?_⟩⟩
  ·rcases hk with rfl | rfl
   ·exact .inl ek
   ·exact .inr ek
  ·obtain⟨c,ec⟩:=hcf y mem
   refine⟨c,ec,?_⟩
   rcases l with⟨z,_⟩ | ⟨_,c',ec',cc⟩
   ·have z':X.env.scope.names.lookup y=some .local:=z
    rcases hv with q | q <;> (rw[z'] at q;cases q)
   ·have:=(hcl y c ec).symm.trans ec'
    cases this
    obtain⟨o,ho,hd⟩:=cc
    exact⟨o,kp _ o ho,hd⟩
 ·obtain⟨v,o,ho,hd⟩:=I.cell y c (hcl y c e)
  exact⟨v,o,kp _ o ho,hd⟩
 ·show upd H2 s2.heap.objs.size (.lst []) (s2.heap.objs.size+1)=none
  rw[ao (Nat.succ_ne_self _)]
  exact I.hok.fresh (Nat.le_succ _)
 ·rw[ao (Nat.ne_of_lt (cellLt y c e))]
  exact I.freeC y c (hcl y c e)
 ·exact⟨Nat.zero_le _,[],_,.nil,hD⟩
 ·show(σ++List.replicate xs.length none).length=(M++xs).length
  simp[I.len,K.len]
end
def qu(k:Nat)(wi:TI)(g:CB→TG)(tc:CB→TT)(te:CB→TE):TE:=fun σ H Q=>wi σ H fun J H1=>∀D,H1 D=none→∀b:CB,∃W:Nat→Nat→List V→Hp→Prop,(∃m,W 0 m [] (upd H1 D (.lst [])))∧
 ∀ i m ys H,W i m ys H→(J.stop i H∧Q (.ref D) H)∨(J.go i H∧ys.length<sizeLine∧∃N:List V→Hp→Prop,(∀ys' H',N ys' H'→∃m',m'<m∧W (i+1) m' ys' H')∧∀x H',J.yld i H x H'→g b x (σ++List.replicate k none) H' fun σ2 H2=>(∀j,j<σ.length→σ2[j]?=σ[j]?)∧tc b σ2 H2 fun ok H3=>
   if ok=true then te b σ2 H3 fun v H4=>H4 D=some (.lst ys)∧N (ys++[v]) (upd H4 D (.lst (ys++[v]))) else N ys H3)
theorem xG{X:Cx}{iter elt tg:Expr}{ifs:List Expr}(xs:List Str){pos pos0:Pos}{scope:Scope}(M:List Str){wi:TI}{tc:CB→TT}{te:CB→TE}{g:CB→TG}{use:Option (Value→Sem Unit)}{R:Value→Shared→Prop}{pins:List (Addr×Obj)}{s:Shared}{σ:St}{H:Hp}{Q:VK}(I:Inv X pins σ H s)(h:qu xs.length wi g tc te σ H Q)(hfin:∀(D C:Addr) (m:Str→Option Value) (s':Shared) (H':Hp),s'.heap.Ns C m→bQ X pins H' C→(∀h',Heap.SameBut C s'.heap h'→Inv X pins σ H' {s' with heap:=h'})→Q (.ref D) H'→compPost (model X.prog X.w) X.A X.xe use R (.ref D) C (.ok .next) s')(hc:X.calm=true)(hi:PI X tg iter wi)(hg:∀b:CB,PG (X.comp (M++xs) scope b) tg (g b))(hif:∀b:CB,eF (X.comp (M++xs) scope b) ifs (tc b))(he:∀b:CB,PE (X.comp (M++xs) scope b) elt (te b))(ok:gK X.env.scope scope xs M X.N=true:=by kernel_rfl)
 (hs:∀x,foldedSetIterable iter X.env x=pure x:=by intro _;rfl):
 wpAny (model X.prog X.w) X.A (comprehension (.ListComp elt [⟨tg,iter,ifs,0⟩] scope pos) scope X.env pos0 (newList []) false (eval iter X.env) use) R X.xe s:=by
 have K:=rD ok
 obtain⟨cl,hclos,hcl,hcf⟩:=pK (env:=X.env) (scope:=scope) fun y hy hk=>I.ok.has y.1 (K.free y hy hk)
 refine wpAny_comprehension_free (use:=use) rfl hs hclos K.kind K.loc ?_
 refine ap (hi pins s σ H _ I h) fun v s1 h1=>ap h1 fun itv s2 h2=>?_
 obtain⟨it,fp,tn,J,H2,rfl,I2,T,st2,f2,hq⟩:=h2
 refine wpAny_newObj_type (wpAny_newFunctionEnv K.nocell (by intro y hy;simp at hy) (fun h₁ hns₁ hsb₁=>?_) K.kind)
 dsimp only at hns₁ hsb₁ ⊢
 have hsize:(s2.heap.push {cls:=.type "list",dict:=none,data:=.seq ([]:List Value).toArray}).objs.size=s2.heap.objs.size+1:=Heap.size_push ..
 rw[hsize] at hns₁ hsb₁
 have ltD:s2.heap.objs.size≠s2.heap.objs.size+1:=Nat.ne_of_lt (Nat.lt_succ_self _)
 have kp:∀b o,s2.heap.get? b=some o→h₁.get? b=some o:=fun b o e=>hsb₁.extBut b o (Nat.ne_of_lt (Nat.lt_succ_of_lt (Heap.lt_size e))) (Heap.get?_push_of_some _ (Heap.get?_push_of_some _ e))
 have hD:h₁.get? s2.heap.objs.size=some {cls:=.type "list",dict:=none,data:=.seq ([]:List Value).toArray}:=hsb₁.extBut _ _ ltD (Heap.get?_push_of_some _ (Heap.get?_push_size _ rfl))
 have hlt:∀b∈fp,b<s2.heap.objs.size:=fun b hb=>let ⟨o,e,_⟩:=T.obj _ _ st2 b hb;Heap.lt_size e
 have I3:=I2.comp2 (t':=s2.toks+([]:List (Str×Value)).length) K hcl hcf f2 hlt kp hD hns₁
 obtain⟨W,⟨m0,w0⟩,step⟩:=hq s2.heap.objs.size (I2.hok.fresh (Nat.le_refl _)) ⟨cl,s2.heap.objs.size+1,s2,H2,fp⟩
 have st3:tn 0 h₁:=T.keep _ _ _ st2 fun b _ o e=>kp b o e
 have fr3:∀b∈fp,(upd H2 s2.heap.objs.size (.lst [])) b=none:=fun b hb=>by rw[ao (Nat.ne_of_lt (hlt b hb))];exact(f2 b hb).1
 have fin:∀(s':Shared) (σ':St) (H':Hp),Inv (X.comp (M++xs) scope ⟨cl,s2.heap.objs.size+1,s2,H2,fp⟩) [] σ' H' s'→Q (.ref s2.heap.objs.size) H'→
  compPost (model X.prog X.w) X.A X.xe use R (.ref s2.heap.objs.size) (s2.heap.objs.size+1) (.ok .next) s':=fun s' σ' H' J' q=>by
  obtain⟨m,hn,_⟩:=id J'.loc
  have hC:H' (s2.heap.objs.size+1)=none:=J'.free
  refine hfin _ _ m s' H' hn (I2.fpOk (Nat.le_succ _) hC) (fun h' sb=>?_) q
  exact I2.call' (ch:=fp) (show s'.os=s2.os from J'.os) (SameBut.unC J'.base sb (Nat.le_succ _)) (SameBut.hokC J'.hok sb hC) J'.bare fun b hb=>by
   obtain⟨f0,f1,f2',f3,f4,f5⟩:=f2 b hb
   exact⟨f3,f1,f4,f5⟩
 have stat:∀{H':Hp},(∀b∈fp,H' b=none)→∀b∈fp,bQ (X.comp (M++xs) scope ⟨cl,s2.heap.objs.size+1,s2,H2,fp⟩) [] H' b:=fun hn b hb=>by
  obtain⟨f0,f1,f2',f3,f4,f5⟩:=f2 b hb
  refine⟨hn b hb,Nat.ne_of_lt (Nat.lt_succ_of_lt (hlt b hb)),fun z=>?_,.inl hb,fun y c e=>f4 y c (hcl y c e),fun p hp=>absurd (show p∈([]:List (Addr×Obj)) from hp) (by simp)⟩
  rcases List.mem_cons.mp (I2.stkSub b z) with z | z
  ·exact f1 z
  ·exact f2' z
 have len3:σ.length=M.length:=by rw[I.len,K.len]
 have loop:codeAny (model X.prog X.w) X.A (.compLoop (.ListComp elt [⟨tg,iter,ifs,0⟩] scope pos) 0 (.ref it) (.ref s2.heap.objs.size) (compEnvC scope cl (s2.heap.objs.size+1) X.env))
  (compPost (model X.prog X.w) X.A X.xe use R (.ref s2.heap.objs.size) (s2.heap.objs.size+1)) {s2 with heap:=h₁,toks:=s2.toks+([]:List (Str×Value)).length}:=by
  refine oz (fun n s'=>∃i ys H',Inv (X.comp (M++xs) scope ⟨cl,s2.heap.objs.size+1,s2,H2,fp⟩) [] (σ++List.replicate xs.length none) H' s'∧tn i s'.heap∧(∀b∈fp,H' b=none)∧W i n ys H') ?_ m0 ⟨0,[],_,I3,st3,fr3,w0⟩
  rintro n s4 ⟨i,ys,H4,I4,st4,fr4,w4⟩
  rcases step i n ys H4 w4 with⟨stop,q⟩ | ⟨go,hz,N,hN,st⟩
  ·refine wpAny_mono (T.done (X.comp (M++xs) scope ⟨cl,s2.heap.objs.size+1,s2,H2,fp⟩) rfl rfl rfl hc i [] s4 _ H4 (fun _ _=>False) I4 (stat fr4) st4 stop) (fun r s5 ⟨hr,I5⟩=>?_) fun _ _ z=>z
   subst hr
   exact fin s5 _ H4 I5 q
  ·refine wpAny_mono (T.item (X.comp (M++xs) scope ⟨cl,s2.heap.objs.size+1,s2,H2,fp⟩) rfl rfl rfl hc i [] s4 _ H4 (fun _ _=>False) I4 (stat fr4) st4 go) (fun r s5 ⟨u,hr,h5⟩=>?_) fun _ _ z=>z
   subst hr
   refine wpAny_mono h5 (fun _ s6 ⟨xv,H6,I6,r6,y6,st6,fr6⟩=>?_) fun _ _ z=>z
   have I6':=I6.pinned (stat fr6) (T.obj _ _ st6)
   refine wpAny_mono (hg ⟨cl,s2.heap.objs.size+1,s2,H2,fp⟩ _ s6 _ H6 xv u _ I6' r6 (st xv _ y6)) (fun _ s7 ⟨σ7,H7,I7,ag,q7⟩=>?_) fun _ _ z=>z
   have again:∀{ys':List V} {H8:Hp} {s8:Shared} {m:Nat},Inv (X.comp (M++xs) scope ⟨cl,s2.heap.objs.size+1,s2,H2,fp⟩) ([]++fq fp s6.heap) σ7 H8 s8→m<n→W (i+1) m ys' H8→
    ∃m,m<n∧∃i ys H',Inv (X.comp (M++xs) scope ⟨cl,s2.heap.objs.size+1,s2,H2,fp⟩) [] (σ++List.replicate xs.length none) H' s8∧tn i s8.heap∧(∀b∈fp,H' b=none)∧W i m ys H':=fun{ys' H8 s8 m} I8 hm w8=>by
    refine⟨m,hm,i+1,ys',H8,(I8.unpinned).weak (by rw[List.length_append,List.length_replicate,I8.len];show _=(M++xs).length;rw[List.length_append,len3]) (fun j v e=>?_),T.keep _ _ _ st6 fun b hb o e=>(I8.pin (b,o) (List.mem_append_right _ (List.mem_append_right _ (eT hb e)))).1,fun b hb=>?_,w8⟩
    ·by_cases hj:j<σ.length
     ·rw[List.getElem?_append_left hj] at e
      rw[ag j hj];exact e
     ·rw[List.getElem?_append_right (by lia),List.getElem?_replicate] at e
      split at e <;> cases e
    ·obtain⟨o,e,d⟩:=T.obj _ _ st6 b hb
     exact(I8.pin (b,o) (List.mem_append_right _ (List.mem_append_right _ (eT hb e)))).2.1
   refine wpAny_mono (hif ⟨cl,s2.heap.objs.size+1,s2,H2,fp⟩ _ s7 _ _ _ I7 q7) (fun ok s8 ⟨H8,I8,q8⟩=>?_) fun _ _ z=>z
   cases ok with
   | false=>
     rw[if_neg Bool.false_ne_true] at q8
     obtain⟨m,hm,w8⟩:=hN _ _ q8
     exact again I8 hm w8
   | true=>
     rw[if_pos rfl] at q8
     refine wpAny_mono (he ⟨cl,s2.heap.objs.size+1,s2,H2,fp⟩ _ s8 _ H8 _ I8 q8) (fun xu s9 ⟨v9,H9,I9,r9,hD9,n9⟩=>?_) fun _ _ z=>z
     obtain⟨m,hm,w9⟩:=hN _ _ n9
     exact wpAny_mono (nO (X:=X.comp (M++xs) scope ⟨cl,s2.heap.objs.size+1,s2,H2,fp⟩) I9 hD9 hz r9) (fun _ s10 I10=>again I10 hm w9) fun _ _ z=>z
 rw[hsize]
 exact codeAny_compStart_list loop (T.self X.A 0 _ _ _ st3 loop)
inductive TyB (H:Hp):V→Value→Prop where
 | non:TyB H .non (.type "NoneType")
 | bl (x:Bool):TyB H (.bl x) (.type "bool")
 | int (i:Int):TyB H (.int i) (.type "int")
 | str (x:Str):TyB H (.str x) (.type "str")
 | lst {a:Addr} {xs:List V} (e:H a=some (.lst xs)):TyB H (.ref a) (.type "list")
 | tup {a:Addr} {xs:List V} (e:H a=some (.tup xs)):TyB H (.ref a) (.type "tuple")
section
variable{X:Cx}{e:Expr}{te:TE}{p pos:Pos}
end
def dz(P:Program)(w:World):bN:=fun outer H s E e s'=>
 ∃ (a:Addr) (cls a0:Value) (B:Heap) (H':Hp),e=.ref a∧s'.os=s.os∧AllBare s'.gens∧Un (aX outer) [] H H' s.heap s'.heap∧HOk P w H' s'.heap∧H' a=none∧s.heap.get? a=none∧
   Heap.FlyingW B outer a cls a0 s'.heap∧(∀b o,s'.heap.get? b=some o→b∉aX outer→(s.heap.get? b≠none∨H' b≠none)→B.get? b=some o)∧E cls none H'
theorem nG{h h' base base':Heap}:∀{l:List Env},(∀L∈aX l,base'.get? L=none∧∀o,h.get? L=some o→(∀vs,o.data≠ .fields vs)→∃o',h'.get? L=some o'∧o'.data=o.data)→h.FunFrames base l→h'.FunFrames base' l
 | [],_,_=>trivial
 | env::r,k,⟨h1,⟨L,o,h2,h3,h4,h5⟩,h6⟩=>by
   have hL:L∈aX (env::r):=List.mem_filterMap.mpr ⟨env,List.mem_cons_self,h2⟩
   obtain⟨k1,k2⟩:=k L hL
   obtain⟨o',e1,e2⟩:=k2 o h4 h5
   refine⟨h1,⟨L,o',h2,k1,e1,fun vs=>by rw[e2];exact h5 vs⟩,nG (fun L' hL'=>k L' ?_) h6⟩
   obtain⟨en,e3,e4⟩:=List.mem_filterMap.mp hL'
   exact List.mem_filterMap.mpr ⟨en,List.mem_cons_of_mem _ e3,e4⟩
theorem iU{h base:Heap}:∀{l:List Env},h.FunFrames base l→∀L∈aX l,∃o,h.get? L=some o∧∀vs,o.data≠ .fields vs
 | [],_,L,hL=>by cases hL
 | env::r,⟨h1,⟨L',o,h2,h3,h4,h5⟩,h6⟩,L,hL=>by
   obtain⟨en,e3,e4⟩:=List.mem_filterMap.mp hL
   rcases List.mem_cons.mp e3 with z | z
   ·subst z
    have:L=L':=Option.some.inj (e4.symm.trans h2)
    subst this
    exact⟨o,h4,h5⟩
   ·exact iU h6 L (List.mem_filterMap.mpr ⟨en,z,e4⟩)
theorem ObjOk.isAt{P:Program}{w:World}{H:Hp}{h:Heap}{a:Addr}{o:HO}(x:ObjOk P w H h a o):∃ob,h.get? a=some ob:=by
 cases o with
 | lst xs=>obtain⟨_,_,_,_,q⟩:=x;exact⟨_,q⟩
 | tup xs=>obtain⟨_,_,_,ob,q,_⟩:=x;exact⟨_,q⟩
 | dK kvs=>obtain⟨_,_,_,_,ob,_,_,q,_⟩:=x;exact⟨_,q⟩
 | dT kvs=>obtain⟨_,_,_,_,ob,_,_,q,_⟩:=x;exact⟨_,q⟩
 | set S n=>obtain⟨ob,_,_,_,q,_⟩:=x;exact⟨_,q⟩
 | ins C dx fs=>obtain⟨_,_,_,q,_⟩:=x;exact⟨_,q⟩
 | own y=>obtain⟨_,q⟩:=x;exact⟨_,q⟩
 | xd fs=>obtain⟨_,⟨_,_,_,q,_⟩,_⟩:=x;exact⟨_,q⟩
 | rng lo hi=>obtain⟨_,_,_,q⟩:=x;exact⟨_,q⟩
 | frz ob u=>obtain⟨q,_⟩:=x;exact⟨_,q⟩
 | tbl ps=>exact⟨_,(show h.get? a=some _ from x)⟩
 | met f y=>exact⟨_,(show h.get? a=some _ from x)⟩
 | ext φ=>obtain⟨_,⟨_,q⟩,_⟩:=x;exact⟨_,q⟩
theorem mB{P:Program}{w:World}{H:Hp}{h:Heap}(x:HOk P w H h){a:Addr}(e:h.get? a=none):H a=none:=by
 cases q:H a with
 | none=>rfl
 | some o=>
   obtain⟨ob,q'⟩:=(x a o q).isAt
   rw[e] at q';cases q'
section
variable{X:Cx}{pins:List (Addr×Obj)}{σ:St}{H1:Hp}{s1:Shared}
theorem Inv.fsAt(I:Inv X pins σ H1 s1):∀L∈X.fs,∃o,s1.heap.get? L=some o∧(∀vs,o.data≠ .fields vs)∧H1 L=none∧X.base.get? L=none:=fun L hL=>by
 obtain⟨o,h1,h2⟩:=iU I.ok.funs L hL
 have hx:L∉X.ex:=fun z=>I.ok.exfs L z hL
 obtain⟨sl,e⟩:=I.base.slot L o h1 (I.ok.frf L hL) hL hx
 exact⟨_,e,h2,I.base.free L o h1 (I.ok.frf L hL) hx,(I.ok.funs.mem hL).1⟩
theorem xJ{A:Around}{outer:List Env}{s:Shared}{H:Hp}{E:XK}{env:Env}{P:Program}{w:World}{e:Addr}{cls:Value}{args:List Value}{h2:Heap}{tk:Nat}(hX:X.A=A.deeper env∧X.env=env∧X.stack=env::outer∧X.outer=outer∧X.s₀=s∧X.H₀=H∧X.ex=[]∧X.prog=P∧X.w=w)(hfr:env.frame=some env.locals)(I:Inv X pins σ H1 s1)(hx:Heap.MadeExcOf s1.heap h2 e cls args)(hE:E cls none H1):wpAny (model P w) (A.deeper env) (leaving env (.ref e)) (fun _ s''=>dz P w outer H s E (.ref e) s'') (fun e' s''=>dz P w outer H s E e' s'') {s1 with heap:=h2,toks:=tk}:=by
 obtain⟨xA,xe,xs,xo,x0,xH,xx,xP,xw⟩:=hX
 subst xe xP xw x0 xH xo
 have hlt:=I.lt
 have hL:∀L∈aX (X.env::X.outer),∃o,s1.heap.get? L=some o∧(∀vs,o.data≠ .fields vs)∧H1 L=none:=fun L hm=>by
  obtain⟨en,e3,e4⟩:=List.mem_filterMap.mp hm
  rcases List.mem_cons.mp e3 with z | z
  ·subst z
   have:L=X.env.locals:=Option.some.inj (e4.symm.trans hfr)
   subst this
   obtain⟨m,hn,_⟩:=I.loc
   obtain⟨o,es,ep,ho,hd,_⟩:=id hn
   exact⟨o,ho,(fun vs q=>by rw[hd] at q;cases q),I.free⟩
  ·obtain⟨o,h1,h2,h3,_⟩:=I.fsAt L (List.mem_filterMap.mpr ⟨en,z,e4⟩)
   exact⟨o,h1,h2,h3⟩
 have dR:∀b u,H1 b=some u→b∉aX (X.env::X.outer):=fun b u e hm=>by
  obtain⟨_,_,_,h3⟩:=hL b hm
  rw[h3] at e;cases e
 have old:∀b o,X.s₀.heap.get? b=some o→b≠X.env.locals:=fun b o q z=>by
  have:=Nat.lt_of_lt_of_le (Heap.lt_size q) I.ok.above
  rw[z] at this;exact absurd this (Nat.lt_irrefl _)
 have nin:∀b,b≠X.env.locals→b∉aX X.outer→b∉aX (X.env::X.outer):=fun b h1 h2 hm=>by
  obtain⟨en,e3,e4⟩:=List.mem_filterMap.mp hm
  rcases List.mem_cons.mp e3 with z | z
  ·subst z
   exact h1 (Option.some.inj (e4.symm.trans hfr))
  ·exact h2 (List.mem_filterMap.mpr ⟨en,z,e4⟩)
 refine wpAny_leaves_madeW (base:=PySem.W.hideAll s1.heap (aX (X.env::X.outer))) (h:=s1.heap) (by rw[←xA,I.ok.frames,xs]) hfr (fun b o q=>PySem.W.of_hideAll _ q) ?_ hx fun h' t f1 f2 f3 f4=>?_
 ·have F:s1.heap.FunFrames X.base X.outer:=I.funs
  have F':s1.heap.FunFrames (PySem.W.hideAll s1.heap (aX (X.env::X.outer))) X.outer:=nG (fun L hm=>⟨PySem.W.hideAll_none _ (by
   obtain⟨en,e3,e4⟩:=List.mem_filterMap.mp hm
   exact List.mem_filterMap.mpr ⟨en,List.mem_cons_of_mem _ e3,e4⟩),fun o q _=>⟨o,q,rfl⟩⟩) F
  obtain⟨o,ho,hd,_⟩:=hL X.env.locals (List.mem_filterMap.mpr ⟨X.env,List.mem_cons_self,hfr⟩)
  exact⟨by rw[I.ok.kind];decide,⟨X.env.locals,o,hfr,PySem.W.hideAll_none _ (List.mem_filterMap.mpr ⟨X.env,List.mem_cons_self,hfr⟩),ho,hd⟩,F'⟩
 ·have st:∀b o,s1.heap.get? b=some o→b∉aX (X.env::X.outer)→h'.get? b=some o:=fun b o q n=>f1.1 b o (PySem.W.hideAll_get _ q n)
  have sl:∀b o,s1.heap.get? b=some o→(∀vs,o.data≠ .fields vs)→∃z,h'.get? b=some {o with slots:=z}:=fun b o q n=>f4 b o (hx.keeps b o q) n
  have isAt:∀b u,H1 b=some u→∃o,s1.heap.get? b=some o:=fun b u q=>by
   cases q':s1.heap.get? b with
   | some o=>exact⟨o,rfl⟩
   | none=>exact absurd q (by rw[mB I.hok q'];simp)
  have eNew:H1 e=none:=mB I.hok hx.new
  refine⟨e,cls,.ref t,PySem.W.hideAll s1.heap (aX (X.env::X.outer)),H1,rfl,I.os,I.bare,⟨fun b o q n hb _=>?_,fun b o q n hb _=>?_,fun b o q n _=>I.base.free b o q n (by rw[xx];simp),fun b o q _=>?_,I.base.tups,I.base.frzs,I.base.tbls⟩,fun b u q=>?_,eNew,?_,f1,?_,hE⟩
  ·exact st b o (I.base.keep b o q n hb (by rw[xx];simp)) (nin b (old b o q) hb)
  ·obtain⟨z,q'⟩:=I.base.slot b o q n hb (by rw[xx];simp)
   obtain⟨o',q2,q3⟩:=iU I.ok.funs b hb
   rw[q] at q2;cases q2
   obtain⟨z',q4⟩:=sl b _ q' q3
   exact⟨z',q4⟩
  ·obtain⟨o',q'⟩:=I.base.there b o q (by rw[xx];simp)
   by_cases hb:b∈aX X.outer
   ·obtain⟨o2,h1,h2,_⟩:=I.fsAt b hb
    obtain⟨z,q4⟩:=sl b o2 h1 h2
    exact⟨_,q4⟩
   ·exact⟨o',st b o' q' (nin b (old b o q) hb)⟩
  ·refine(I.hok b u q).stay (fun c v hc q'=>st c v q' ?_) (fun _ q'=>q') fun _ _ q'=>q'
   rcases hc with z | z
   ·rw[z];exact dR b u q
   ·exact dR c _ z
  ·cases q:X.s₀.heap.get? e with
   | none=>rfl
   | some o=>
     obtain⟨o',q'⟩:=I.base.there e o q (by rw[xx];simp)
     rw[hx.new] at q';cases q'
  ·intro b o q hb hor
   have ex:∃o1,s1.heap.get? b=some o1∧b∉aX (X.env::X.outer):=by
    rcases hor with z | z
    ·cases q0:X.s₀.heap.get? b with
     | none=>exact absurd q0 z
     | some o0=>
       obtain⟨o1,q1⟩:=I.base.there b o0 q0 (by rw[xx];simp)
       exact⟨o1,q1,nin b (old b o0 q0) hb⟩
    ·cases q0:H1 b with
     | none=>exact absurd q0 z
     | some u=>
       obtain⟨o1,q1⟩:=isAt b u q0
       exact⟨o1,q1,dR b u q0⟩
   obtain⟨o1,q1,nb⟩:=ex
   have:=st b o1 q1 nb
   rw[q] at this;cases this
   exact PySem.W.hideAll_get _ q1 nb
end
abbrev e9:List Value:=[.type "ValueError",.type "Exception",.type "BaseException",.type "object"]
structure Exc(K:PySem.W.Frag)(mg:Str→Option Value)(x:Str)(C:Addr):Prop where
 bound:mg x=some (.ref C)
 isIn:PySem.W.excIn K C e9 "ValueError.__new__"=true
theorem ud{K:PySem.W.Frag}{C:Addr}(q:PySem.W.excIn K C e9 "ValueError.__new__"=true)(h:Heap)(X:K.In h):∃bm N nm qn bs hdct sn sub ab col dd k0 k1 k2 k3 k5 mN,h.get? C=some (excClassObj nm qn C N bs bm hdct sn sub ab col dd k0 k1 k2 k3 k5 "ValueError.__new__")∧h.Ns N mN∧mN "__init__"=none∧OwnTail h e9 bm:=by
 unfold PySem.W.excIn at q
 split at q
 case h_2=>cases q
 case h_1 dd cd sl ho=>
  split at q
  case h_2=>cases q
  case h_1 C' bm k0 k1 k2 k3 n k5 hm hs=>
   simp only[Bool.and_eq_true,beq_iff_eq,Bool.not_eq_true'] at q
   obtain⟨⟨⟨⟨⟨e1,e2⟩,hdel⟩,ht⟩,hok⟩,hni⟩:=q
   subst e1 e2
   obtain⟨nm,bs,mro,nsA,qn,hd,sn,sub,ab,col,del⟩:=cd
   have hm':mro=.ref C'::bm:=hm
   have hdel':del=false:=hdel
   subst hm' hdel'
   have esl:sl=#[k0,k1,k2,k3,some (.builtin "ValueError.__new__"),k5]:=by
    cases sl with
    | mk l=>exact congrArg Array.mk hs
   subst esl
   exact⟨bm,nsA,nm,qn,bs,hd,sn,sub,ab,col,dd,k0,k1,k2,k3,k5,_,X _ _ ho,.of_isNs (PySem.W.isNs_of_in X hok),PySem.W.nsMap_none_of_in X hok hni,PySem.W.tail_of_in X ht⟩
theorem vq{P:Program}{w:World}{K:PySem.W.Frag}{mg:Str→Option Value}{base:Heap}{N:List Str}{qual:Str}{scope:Scope}{f:Addr}{cd:Value}{A:Around}{outer:List Env}{s:Shared}{H:Hp}{E:XK}{x:Str}{C:Addr}{np cpos pos:Pos}{e0:Expr}{te:TE}(O:Exc K mg x C)(he:PE (bY (dz P w) P w K mg base N qual scope f cd A outer s H E) e0 te)(hg:Gl (bY (dz P w) P w K mg base N qual scope f cd A outer s H E) x:=by rfl)
 (hst:starEach [e0] (envOfC qual scope s.heap.objs.size f cd)=[(false,eval e0 (envOfC qual scope s.heap.objs.size f cd))]:=by rfl)(hd:(x == ("__debug__":Str))=false:=by decide):
 PS (bY (dz P w) P w K mg base N qual scope f cd A outer s H E) (.Raise (some (.Call (.Name x np) [e0] [] cpos)) none pos) (fun D σ H1=>te σ H1 fun v H2=>[v].length=1∧E (.ref C) none H2):=by
 intro pins s1 σ H1 D I h
 obtain⟨tl,Nn,nm,q,bs,hdct,sn,sub,ab,col,dd,k0,k1,k2,k3,k5,mN,hC,hN,hni,T⟩:=ud O.isIn base I.ok.mod.kin
 refine wpAny_Raise_call_subT (C:=C) (nm:=nm) (q:=q) (N:=Nn) (bs:=bs) (bm:=tl) (hdct:=hdct) (sn:=sn) (sub:=sub) (ab:=ab) (col:=col) (dd:=dd) (k0:=k0) (k1:=k1) (k2:=k2) (k3:=k3) (k5:=k5) (env:=envOfC qual scope s.heap.objs.size f cd)
  F.excBase_ValueError (mN:=mN) (T.hasType F.excBase_ValueError.hasBase) (I.ok.hd rfl) (by rw[hst];rfl) hni (fH I hg O.bound ⟨rfl,?_⟩ hd)
 rw[hst]
 refine Calls.evalArgs_plain ?_
 have hp:=(aa he ac (by exact hst)) cpos pins s1 σ H1 (fun vs H2=>vs.length=1∧E (.ref C) none H2) I h
 have hp':wpAny (model P w) (A.deeper (envOfC qual scope s.heap.objs.size f cd)) (spliced (backTo cpos (starEach [e0] (envOfC qual scope s.heap.objs.size f cd)))) _ _ s1:=hp
 rw[hst] at hp'
 refine ap hp' fun us s2 ⟨vs,H2,I2,r2,l2,q2⟩=>?_
 refine⟨rfl,?_,I2.bk _ _ hC,hN.keeps I2.bk,T.keeps I2.bk,fun h' e made=>?_⟩
 ·show us.length≤sizeLine
  rw[←r2.length,l2];decide
 ·exact xJ (tk:=s2.toks) (A:=A) (outer:=outer) (s:=s) (H:=H) (E:=E) (env:=envOfC qual scope s.heap.objs.size f cd) ⟨rfl,rfl,rfl,rfl,rfl,rfl,rfl,rfl,rfl⟩ rfl I2 made q2
def rQ(X:Cx)(pins:List (Addr×Obj))(σ0:St)(E0:XK):Value→Shared→Prop:=fun e s'=>∃H1 s1,Inv X pins σ0 H1 s1∧dz X.prog X.w X.stack H1 s1 E0 e s'
abbrev fZ(X:Cx)(pins:List (Addr×Obj))(σ0:St)(E0:XK):Cx:={X with pn:=X.pn++pins,xe:=rQ X pins σ0 E0}
abbrev gM(X:Cx)(e:Addr)(xe:Value→Shared→Prop):Cx:={X with A:=X.A.mark (some (.ref e)),calm:=false,xe:=xe}
section
variable{X:Cx}{pins:List (Addr×Obj)}{σ σ0:St}{H H1:Hp}{s s1:Shared}{E0:XK}
theorem Inv.toTry(I:Inv X pins σ H s):Inv (fZ X pins σ0 E0) [] σ H s:=
 ⟨⟨I.ok.mod,I.ok.kind,I.ok.glob,I.ok.blt,I.ok.above,I.ok.inj,I.ok.has,I.ok.cab,I.ok.hd,I.ok.frames,I.ok.stk,I.ok.exf,I.ok.bs,I.ok.bsz,I.ok.noex,I.ok.exfs,I.ok.funs,I.ok.frf⟩,I.os,I.bare,I.base,I.loc,I.cell,I.free,I.freeC,fun p hp=>I.pin p (by simpa using hp),I.hok,I.len⟩
theorem Inv.ofTry{pins':List (Addr×Obj)}(I:Inv (fZ X pins σ0 E0) pins' σ H s):Inv X pins σ H s:=
 ⟨⟨I.ok.mod,I.ok.kind,I.ok.glob,I.ok.blt,I.ok.above,I.ok.inj,I.ok.has,I.ok.cab,I.ok.hd,I.ok.frames,I.ok.stk,I.ok.exf,I.ok.bs,I.ok.bsz,I.ok.noex,I.ok.exfs,I.ok.funs,I.ok.frf⟩,I.os,I.bare,I.base,I.loc,I.cell,I.free,I.freeC,fun p hp=>I.pin p (List.mem_append_left _ hp),I.hok,I.len⟩
theorem Inv.toSuf{e:Addr}{xe:Value→Shared→Prop}(I:Inv X pins σ H s):Inv (gM X e xe) pins σ H s:=
 ⟨⟨I.ok.mod,I.ok.kind,I.ok.glob,I.ok.blt,I.ok.above,I.ok.inj,I.ok.has,I.ok.cab,(fun q=>by cases q),I.ok.frames,I.ok.stk,I.ok.exf,I.ok.bs,I.ok.bsz,I.ok.noex,I.ok.exfs,I.ok.funs,I.ok.frf⟩,I.os,I.bare,I.base,I.loc,I.cell,I.free,I.freeC,I.pin,I.hok,I.len⟩
theorem Inv.ofSuf{e:Addr}{xe:Value→Shared→Prop}(hd:X.calm=true→X.A.handled=none)(I:Inv (gM X e xe) pins σ H s):Inv X pins σ H s:=
 ⟨⟨I.ok.mod,I.ok.kind,I.ok.glob,I.ok.blt,I.ok.above,I.ok.inj,I.ok.has,I.ok.cab,hd,I.ok.frames,I.ok.stk,I.ok.exf,I.ok.bs,I.ok.bsz,I.ok.noex,I.ok.exfs,I.ok.funs,I.ok.frf⟩,I.os,I.bare,I.base,I.loc,I.cell,I.free,I.freeC,I.pin,I.hok,I.len⟩
def wL(σ0:St)(t:TE):TE:=fun σ H Q=>σ=σ0∧t σ H Q
theorem tW{k j:Nat}{ps:List Str}{sp:Sp}{x:Str}{p pos:Pos}{e:Expr}{es:List Expr}{t:TA}(F:Fn X.prog X.w X.K X.mg X.base (dz X.prog X.w) x k ps sp)(hr:Room j X.A)(ha:PA (fZ X pins σ0 E0) (e::es) t)(hg:Gl X x:=by rfl)(hj:k≤j:=by decide)
 (hdb:(x == ("__debug__":Str))=false:=by decide)(he:starEach (e::es) X.env=(false,eval e X.env)::starEach es X.env:=by rfl)(hpl:(backTo pos (starEach es X.env)).any (·.1)=false:=by rfl):
 PE (fZ X pins σ0 E0) (.Call (.Name x p) (e::es) [] pos) (wL σ0 (dG sp [] E0 t)):=by
 obtain⟨f,fd,F,hm,hk,hb,_⟩:=F.ex
 have hr:=hr.mono hj
 intro pins' s σ H Q I h
 obtain⟨rfl,h⟩:=h
 refine wpAny_Call_Name_kw (fH I hg hm ?_ hdb)
 refine PySem.W.callWith_K (h₀:=X.base) I.ok.mod.kin hk (ap (ha pos pins' s σ H _ I h) fun us s1 ⟨vs,H1,I1,r,q⟩=>⟨I1.kIn,?_⟩) he hpl
 have r2:Vals (vs++[]) (us++[]):=r.append .nil
 have hl:(us++[]).length=ps.length:=by rw[←r2.length];exact F.len _ _ _ _ q
 refine wpAny_call (codeAny_mono (F.run X.A X.stack s1 H1 ⟨us,[]⟩ (us++[]) (vs++[]) Q E0 hr I1.env0 (hb s1 us I1.kIn hl) r2 q) fun r s' hq=>?_)
 cases r with
 | error e=>exact⟨H1,s1,I1.ofTry,hq⟩
 | ok fl=>
   cases fl with
   | ret u=>exact I1.after hq
   | next=>exact False.elim hq
   | brk=>exact False.elim hq
   | cont=>exact False.elim hq
theorem Inv.caught{s':Shared}{H':Hp}{B h5:Heap}(hst:X.stack=X.env::X.outer)(hfr:X.env.frame=some X.env.locals)(I:Inv X pins σ H1 s1)(os:s'.os=s1.os)(gb:AllBare s'.gens)(un:Un (aX X.stack) [] H1 H' s1.heap s'.heap)(hok:HOk X.prog X.w H' s'.heap)(hB:∀b o,s'.heap.get? b=some o→b∉aX X.stack→(s1.heap.get? b≠none∨H' b≠none)→B.get? b=some o)(st5:∀b o,B.get? b=some o→h5.get? b=some o)(up:s'.heap.UpToSlots h5):Inv X pins σ H' {s' with heap:=h5}:=by
 have frn:∀b,b∈aX X.stack→H1 b=none∧H' b=none∧∃o,s1.heap.get? b=some o∧∀vs,o.data≠ .fields vs:=fun b hm=>by
  have h1:∃o,s1.heap.get? b=some o∧(∀vs,o.data≠ .fields vs)∧H1 b=none:=by
   rw[hst] at hm
   obtain⟨en,e3,e4⟩:=List.mem_filterMap.mp hm
   rcases List.mem_cons.mp e3 with z | z
   ·subst z
    have:b=X.env.locals:=Option.some.inj (e4.symm.trans hfr)
    subst this
    obtain⟨m,hn',_⟩:=I.loc
    obtain⟨o,es,ep,ho,hd,_⟩:=id hn'
    exact⟨o,ho,(fun vs q=>by rw[hd] at q;cases q),I.free⟩
   ·obtain⟨o,h1,h2,h3,_⟩:=I.fsAt b (List.mem_filterMap.mpr ⟨en,z,e4⟩)
    exact⟨o,h1,h2,h3⟩
  obtain⟨o,h2,h3,h4⟩:=h1
  exact⟨h4,un.free b o h2 h4 (by simp),o,h2,h3⟩
 have st:∀b o,s'.heap.get? b=some o→b∉aX X.stack→(s1.heap.get? b≠none∨H' b≠none)→h5.get? b=some o:=fun b o q n z=>st5 b o (hB b o q n z)
 refine I.call' (ch:=[]) os ⟨fun b o q n hb hx=>?_,fun b o q n hb hx=>?_,un.free,fun b o q hx=>?_,un.tups,un.frzs,un.tbls⟩ (fun b u q=>?_) gb (by simp)
 ·exact st b o (un.keep b o q n hb hx) hb (.inl (by rw[q];simp))
 ·obtain⟨z,q'⟩:=un.slot b o q n hb hx
  obtain⟨_,_,o2,q2,q3⟩:=frn b hb
  rw[q] at q2;cases q2
  obtain⟨z',q4⟩:=up b _ q' q3
  exact⟨z',q4⟩
 ·by_cases hb:b∈aX X.stack
  ·obtain⟨n1,_,o2,q2,q3⟩:=frn b hb
   rw[q] at q2;cases q2
   obtain⟨z,q'⟩:=un.slot b o q n1 hb hx
   obtain⟨z',q4⟩:=up b _ q' q3
   exact⟨_,q4⟩
  ·obtain⟨o2,q2⟩:=un.there b o q hx
   exact⟨o2,st b o2 q2 hb (.inl (by rw[q];simp))⟩
 ·refine(hok b u q).stay (fun c v hc q'=>st c v q' ?_ (.inr ?_)) (fun _ q'=>q') fun _ _ q'=>q'
  ·intro hm
   rcases hc with z | z
   ·rw[z] at hm;rw[(frn b hm).2.1] at q;cases q
   ·rw[(frn c hm).2.1] at z;cases z
  ·rcases hc with z | z
   ·rw[z,q];simp
   ·rw[z];simp
end
def Ends.drop(D:Ends)(i:Nat):Ends:=⟨fun σ H=>D.nx (σ.set i none) H,D.rt,fun σ H=>D.bk (σ.set i none) H,fun σ H=>D.ct (σ.set i none) H⟩
end L2
namespace PySem.W
open PySem PySem.Spec PySem.Calls PyProof.Rows Builtin Builtin.ObjectAttr Builtin.Getset_descriptor
section
variable{prog:Program}{w:World}{A:Around}{E:Value→Shared→Prop}{K:Frag}{h:Heap}{g:Array GenState}{d:Drawn}{t:Nat}{os:OsState}{a D:Addr}{o:Obj}{R:Result→Shared→Prop}
def excKit(K:Frag)(D:Addr):Bool:=(clsIn K D).isSome && mroIn K D (.type "object") == some true && mroIn K D (.type "BaseException") == some true && findIn K (.ref D) "__getattribute__" == some (some (.builtin "BaseException.__getattribute__"))
 && findIn K (.ref D) "__getattr__" == some none && findIn K (.ref D) "__class__" == some (some (.builtin "object.__class__"))
end
end PySem.W
namespace L2
open PySem PySem.Spec PyProof.Rows
section
variable{X:Cx}{e e2:Expr}{te te2:TE}{p p2 pos:Pos}
end
structure ExF(K:PySem.W.Frag)(CE D:Addr)(Cs:List Addr):Prop where
 exm:PySem.W.exmOne K (.ref D) (.ref CE)=some true
 kit:PySem.W.excKit K D=true
 isIn:PySem.W.excIn K D e9 "ValueError.__new__"=true
 val:PySem.W.kitOne K (.ref D) (.type "ValueError")=some true
 one:∀C∈Cs,PySem.W.kitOne K (.ref D) (.ref C)=some (D == C)
section
variable{X:Cx}
end
section
variable{X:Cx}
end
end L2
namespace PySem.W
open PySem PySem.Spec PySem.Calls PyProof.Rows
section
variable{prog:Program}{w:World}{A:Around}{E:Value→Shared→Prop}{s:Shared}
end
end PySem.W
namespace L2
open PySem PySem.Spec PyProof.Rows
section
variable{X:Cx}{e:Expr}{te:TE}{p pos:Pos}
theorem iu:∀{ns:List Int} {its:List Value},Vals (ns.map V.int) its→IntsAre its ns
 | [],_,h=>by cases h;exact .nil
 | n::ns,_,h=>by
   cases h with
   | cons r t=>obtain⟨u,rfl⟩:=r;exact .cons n u (iu t)
def xQ(te:TE):TE:=fun σ H Q=>te σ H fun x H1=>∃(l:Addr) (ns:List Int),x=.ref l∧H1 l=some (.lst (ns.map V.int))∧ns≠ []∧∀m,m∈ns→(∀a,a∈ns→a≤m)→Q (.int m) H1
theorem rN(hc:X.calm=true)(hm:X.mg "max"=none)(ha:PE X e te)(hg:Gl X "max":=by rfl)(he:starEach [e] X.env=[(false,eval e X.env)]:=by rfl):PE X (.Call (.Name "max" p) [e] [] pos) (xQ te):=
 dk (r:=r1 fun x H Q=>∃(l:Addr) (ns:List Int),x=.ref l∧H l=some (.lst (ns.map V.int))∧ns≠ []∧∀m,m∈ns→(∀a,a∈ns→a≤m)→Q (.int m) H)
  (c7 fun pins s σ H x us Q I rv ⟨l,ns,ex,hH,hne,q⟩=>by
   subst ex
   obtain⟨u,rfl,ru⟩:=rv.one
   cases ru
   obtain⟨z,its,n,r,hl,e1⟩:=I.lstM hH
   have hi:=iu r
   have hL:s.heap.IsList l its.toArray:=⟨_,e1,rfl,n,rfl⟩
   obtain⟨xs,ex⟩:=hi.allInts.items
   have hns:ns=xs.toList.map (·.1):=by rw[←hi.numsOf,←nums_intItems,←ex]
   have hsz:0<xs.size:=by
    cases ns with
    | nil=>exact absurd rfl hne
    | cons _ _=>
      have:=congrArg List.length hns
      simp at this;lia
   rw[ex] at hL
   refine max_intList (I.ok.hd hc) hL hsz fun v h' tk hv hk=>?_
   obtain⟨t,rfl⟩:=intItems_at hv
   obtain⟨h1,h2⟩:=argBest_gt (numAt xs) (xs.size-1)
   refine⟨.int _,H,I.kept (t':=tk) hk,⟨_,rfl⟩,q _ ?_ fun a ha=>?_⟩
   ·rw[hns,numAt_eq];exact getD_mem (by rw[List.length_map,Array.length_toList];lia)
   ·rw[hns] at ha
    obtain⟨j,hj,rfl⟩:=mem_getD ha
    rw[List.length_map,Array.length_toList] at hj
    rw[←numAt_eq];exact h2 j (by lia)) hg hm mZ (aa ha ac (by exact he)) (he:=by exact he)
def yZ:V→List V→Hp→VK→Prop:=fun x vs H Q=>∃(l:Addr) (ns:List Int) (n:Int) (j:Nat),x=.ref l∧vs=[.int n]∧H l=some (.lst (ns.map V.int))∧ns[j]?=some n∧(∀i,i<j→ns[i]?≠some n)∧Q (.int (j:Int)) H
theorem yA:js X "list.index" yZ:=by
 intro pins s σ H x vs v us Q I rx rv h
 obtain⟨l,ns,k,j,rfl,rfl,hH,hj,hb,q⟩:=h
 cases rx
 obtain⟨u,rfl,ru⟩:=rv.one
 obtain⟨t,rfl⟩:=(show∃t,u=Value.int k t from ru)
 obtain⟨z,its,n,r,hl,e⟩:=I.lstM hH
 have hi:=iu r
 have hlen:its.length=ns.length:=by have:(ns.map V.int).length=its.length:=r.length;rw[List.length_map] at this;lia
 have hget:∀(i:Nat) (b:Int),ns[i]?=some b→∃u,its[i]?=some (Value.int b u):=fun i b hi=>by
  obtain⟨w,hw,rw'⟩:=r.get (show(ns.map V.int)[i]?=some (.int b) by rw[List.getElem?_map,hi];rfl)
  obtain⟨u,rfl⟩:=(show∃u,w=Value.int b u from rw')
  exact⟨u,hw⟩
 have hjx:j<ns.length:=(List.getElem?_eq_some_iff.mp hj).1
 have hsl:=sizeLine_eq
 have hnl:ns.length≤sizeLine:=by simpa using z
 have hjl:j<its.toArray.size:=by simp;lia
 refine call_meets F.slot_list_index ⟨_,e,rfl⟩ F.entry_list_index (F.args_list_index_2 _ _) (SeqAt.list_indexAt l its.toArray n none #[] (.int k t) (isInt k) j hjl ?_ ?_ ?_) ⟨e,fun y hy=>(eq_isInt k t hi y (by simpa using hy)).at _ _,?_⟩
 ·lia
 ·obtain⟨u,hu⟩:=hget j k hj
  have:its.toArray[j]=Value.int k u:=by
   rw[List.getElem?_eq_getElem (by lia)] at hu;simpa using hu
  rw[this];simp[isInt]
 ·intro m hm hmj
  have hml:m<ns.length:=by simp at hm;lia
  obtain⟨u,hu⟩:=hget m ns[m] (by simp[hml])
  have e1:its.toArray[m]=Value.int ns[m] u:=by
   rw[List.getElem?_eq_getElem (by lia)] at hu;simpa using hu
  rw[e1]
  have:=hb m hmj
  simp[hml] at this
  simp[isInt,this]
 ·exact⟨.int (j:Int),H,I.tok _,⟨_,rfl⟩,q⟩
end
section
variable{X:Cx}{e:Expr}{te:TE}{p pos:Pos}
end
section
variable{κ:Type}[DecidableEq κ]
def bX(kvs:List (κ×V))(k:κ):Option V:=(kvs.find? fun kv=>decide (kv.1=k)).map (·.2)
theorem pT{p:κ×V}{r:List (κ×V)}{k:κ}(e:p.1=k):bX (p::r) k=some p.2:=by simp[bX,List.find?_cons,e]
theorem mP{p:κ×V}{r:List (κ×V)}{k:κ}(e:¬p.1=k):bX (p::r) k=bX r k:=by simp[bX,List.find?_cons,e]
end
theorem rB{P:Program}{w:World}{k:aE}{u:Value}(r:RelV (kV k) u):(bU P w).is k u=true:=by
 cases k with
 | inl i=>obtain⟨t,e⟩:=(show∃t,u=Value.int i t from r);subst e;exact qR P w i t
 | inr x=>obtain⟨t,e⟩:=(show∃t,u=Value.str x t from r);subst e;exact rE P w x t
theorem oU{P:Program}{w:World}:∀{ks:List aE} {us:List Value},Vals (ks.map kV) us→ItemsAre (bU P w) ks us
 | [],_,r=>by rw[List.map_nil] at r;cases r;exact .nil
 | k::ks,_,r=>by
   rw[List.map_cons] at r
   cases r with
   | cons h t=>exact .cons (rB h) (oU t)
abbrev KT(H:Hp):List (List aE×V)→List (List aE×Addr×Value)→Prop:=Paired fun p q=>p.1=q.1∧H q.2.1=some (.tup (p.1.map kV))∧RelV p.2 q.2.2
theorem KT.val{H:Hp}{kvs:List (List aE×V)}{xs:List (List aE×Addr×Value)}(r:KT H kvs xs)(k:List aE):gy (bX kvs k) ((atKey xs k).map (·.2)):=by
 induction r with
 | nil=>exact True.intro
 | @cons p q ps qs h t ih=>
   obtain⟨h1,_,h2⟩:=h
   by_cases e:p.1=k
   ·have e':q.1=k:=h1.symm.trans e
    have b:atKey (q::qs) k=some q.2:=by simp[atKey,List.find?_cons,e']
    rw[pT e,b];exact h2
   ·have e':¬q.1=k:=fun z=>e (h1.trans z)
    have b:atKey (q::qs) k=atKey qs k:=by simp[atKey,List.find?_cons,e']
    rw[mP e,b];exact ih
theorem KT.keeps{H H':Hp}{kvs:List (List aE×V)}{xs:List (List aE×Addr×Value)}(r:KT H kvs xs)(ht:∀b ys,H b=some (.tup ys)→H' b=some (.tup ys)):KT H' kvs xs:=
 Paired.mapP r fun _ _ z=>⟨z.1,ht _ _ z.2.1,z.2.2⟩
section
variable{P:Program}{w:World}{H:Hp}{h:Heap}{a:Addr}
theorem mK{u:HO}(ok:HOk P w H h)(e:Rd H a u):ObjOk P w H h a u:=e.ok ok
theorem vH{kvs:List (aE×V)}(ok:HOk P w H h)(e:Rd H a (.dK kvs)):kvs.length≤sizeLine∧(a == sysModules)=false∧∃vs,KV kvs vs∧h.DictOf (bU P w) a vs:=
 show ObjOk P w H h a (.dK kvs) from mK ok e
theorem mR{ks:List aE}(ok:HOk P w H h)(e:H a=some (.tup (ks.map kV))):(tupleKind (bU P w)).is h ks a:=by
 obtain⟨_,its,r,o,h1,h2,n,h3⟩:=(show ObjOk P w H h a (.tup (ks.map kV)) from ok a _ e)
 exact⟨o,its.toArray,n,h1,h2,h3,by simpa using oU r⟩
theorem mH{kvs:List (List aE×V)}(ok:HOk P w H h)(e:Rd H a (.dT kvs)):kvs.length≤sizeLine∧(a == sysModules)=false∧∃xs,KT H kvs xs∧h.DictOfH (tupleKind (bU P w)) a xs:=by
 obtain⟨z,y,xs,r,o,es,ep,h1,h2,h3,h4,h5⟩:=(show ObjOk P w H h a (.dT kvs) from mK ok e)
 refine⟨z,y,xs,r,o,es,ep,h1,h2,h3,h4,fun x hx=>?_,h5⟩
 have all:∀{l:List (List aE×V)} {m:List (List aE×Addr×Value)},KT H l m→∀x∈m,(tupleKind (bU P w)).is h x.1 x.2.1:=by
  intro l m q
  induction q with
  | nil=>intro x hx;exact nomatch hx
  | @cons p q ps qs hq t ih=>
    intro x hx
    rcases List.mem_cons.mp hx with e | hx
    ·subst e
     exact mR ok (by rw[←hq.1];exact hq.2.1)
    ·exact ih x hx
 exact all r x hx
theorem vU{kvs:List (List aE×V)}(ok:HOk P w H h)(e:H a=some (.dT kvs)):kvs.length≤sizeLine∧(a == sysModules)=false∧∃xs,KT H kvs xs∧h.DictOfH (tupleKind (bU P w)) a xs:=mH ok (.inl e)
end
section
variable{X:Cx}{pins:List (Addr×Obj)}{σ:St}{H:Hp}{s:Shared}{a:Addr}{y v:V}{u r:Value}{o:Option V}{A:Around}{E:Value→Shared→Prop}
theorem Inv.big(I:Inv X pins σ H s):sysModules<s.heap.objs.size:=by
 have h:mainGlobals<s.heap.objs.size:=(I.mod.glob.keeps I.bk).lt
 exact Nat.lt_trans (by decide) h
theorem nI{h':Heap}{t':Nat}{ob:HO}(I:Inv X pins σ H s)(mu:fQ (H a))(hs:Heap.SameBut a s.heap h')(he:∃q,h'.get? a=some q)(new:ObjOk X.prog X.w (upd H a ob) h' a ob):Inv X pins σ (upd H a ob) {s with heap:=h',toks:=t'}:=
 I.write (x:=a) (e:=a) mu (.inl rfl) (fun b q hb z=>(hs.2 b hb).trans z) he new
end
section
variable{X:Cx}{pins:List (Addr×Obj)}{σ:St}{H:Hp}{s:Shared}{a:Addr}{kvs:List (aE×V)}{k:aE}{u:Value}{A:Around}{E:Value→Shared→Prop}
end
section
variable{X:Cx}{o i e value:Expr}{pos pos' tpos:Pos}{td ty tv:TE}
end
theorem vi{P:Program}{w:World}{H:Hp}(h:Heap)(hb:sysModules<h.objs.size):ObjOk P w H (h.push {cls:=.type "dict",data:=.dict #[]}) h.objs.size (.dT []):=
 ⟨Nat.zero_le _,beq_eq_false_iff_ne.mpr (Ne.symm (Nat.ne_of_lt hb)),[],.nil,_,#[],0,Heap.get?_push_size _ rfl,⟨rfl,rfl,rfl⟩,rfl,rfl,List.nodup_nil⟩
def vj:TE:=fun _ H Q=>∀p,H p=none→Q (.ref p) (upd H p (.dT []))
section
variable{X:Cx}{pos:Pos}
theorem tV:PE X (.Dict [] [] pos) vj:=fun pins s σ H Q I h=>
 wpAny_Dict_empty ⟨.ref s.heap.objs.size,_,I.laid (a:=s.heap.objs.size) (o:=.dT []) (t':=s.toks) (fun _ _ q=>Heap.get?_push_of_some _ q) (Nat.le_refl _) (vi s.heap I.big),rfl,h _ (I.hok.fresh (Nat.le_refl _))⟩
end
structure M1(X:Cx)(o:Expr)(m:Str)(apos:Pos)(e:Expr)(cpos:Pos):Prop where
 base:attributeBase o m X.env (eval o X.env)=eval o X.env
 few:((backTo cpos (starEach [e] X.env)).all (fun x=>!x.1) && (backToKw cpos (keywordEach [] X.env)).all (fun x=>x.1.isSome)
  && decide (([e]:List Expr).length+([]:List Keyword).length+(if([]:List Keyword).isEmpty then 0 else 1)<30))=true
 line:(apos.endLine == cpos.line)=true
 trees:backTo cpos (starEach [e] X.env)=[(false,eval e X.env)]
structure M2(X:Cx)(o:Expr)(m:Str)(apos:Pos)(e f:Expr)(cpos:Pos):Prop where
 base:attributeBase o m X.env (eval o X.env)=eval o X.env
 few:((backTo cpos (starEach [e,f] X.env)).all (fun x=>!x.1) && (backToKw cpos (keywordEach [] X.env)).all (fun x=>x.1.isSome)
  && decide (([e,f]:List Expr).length+([]:List Keyword).length+(if([]:List Keyword).isEmpty then 0 else 1)<30))=true
 line:(apos.endLine == cpos.line)=true
 trees:backTo cpos (starEach [e,f] X.env)=[(false,eval e X.env),(false,eval f X.env)]
def p6(H:Hp)(a:Addr):Prop:=(∃kvs,Rd H a (.dK kvs))∨∃kvs,Rd H a (.dT kvs)
theorem va{X:Cx}{pins:List (Addr×Obj)}{σ:St}{H:Hp}{s:Shared}{a:Addr}(I:Inv X pins σ H s)(d:p6 H a):s.TypeIs (.ref a) "dict"∧(∀b,Value.ref a=.ref b→∃ob,s.heap.get? b=some ob∧ob.dict=none)∧(a == sysModules)=false:=by
 rcases d with⟨kvs,e⟩ | ⟨kvs,e⟩
 ·obtain⟨_,hd,vs,_,dd⟩:=vH I.hok e
  refine⟨dd.typeIs,fun b q=>?_,hd⟩
  cases q
  obtain⟨ob,_,_,h1,h2,_⟩:=dd
  exact⟨ob,h1,h2.2.1⟩
 ·obtain⟨_,hd,xs,_,dd⟩:=mH I.hok e
  refine⟨dd.typeIs,fun b q=>?_,hd⟩
  cases q
  obtain⟨ob,_,_,h1,h2,_⟩:=dd
  exact⟨ob,h1,h2.2.1⟩
section
variable{X:Cx}{pins:List (Addr×Obj)}{σ:St}{H:Hp}{s:Shared}{a:Addr}{y d:V}{u r:Value}{o:Option V}{A:Around}{E:Value→Shared→Prop}
end
section
variable{X:Cx}{o e f:Expr}{apos cpos:Pos}{td ty tx:TE}
end
section
variable{X:Cx}{pins:List (Addr×Obj)}{σ:St}{H:Hp}{s:Shared}{a:Addr}{kvs:List (aE×V)}{A:Around}{E:Value→Shared→Prop}
end
section
variable{X:Cx}{pins:List (Addr×Obj)}{σ:St}{H:Hp}{s:Shared}{a:Addr}{y:V}{u:Value}{A:Around}{E:Value→Shared→Prop}
end
section
variable{X:Cx}
theorem rZ(hc:X.calm=true):cB X (.builtin "sum") (fun xs H Q=>∃(p:Addr) (ns:List Int),xs=[.ref p]∧H p=some (.lst (ns.map V.int))∧Q (.int ns.sum) H):=by
 intro pins s σ H xs us Q I r h
 obtain⟨p,ns,rfl,hp,q⟩:=h
 obtain⟨u,rfl,rx⟩:=eZ r
 cases rx
 obtain⟨_,its,n,rv,hlen,e1⟩:=I.lstM hp
 have isl:s.heap.IsList p its.toArray:=⟨_,e1,rfl,n,rfl⟩
 have below:p<s.heap.objs.size:=Heap.lt_size e1
 have hil:its.length=ns.length:=by rw[←hlen,List.length_map]
 refine call_sum_walkG (wpAny_pyIter_list isl ?_)
 refine⟨s.heap.objs.size,[s.heap.objs.size,p],[s.heap.objs.size],_,_,_,fun i=>ns.getD i 0,rfl,Walks.list (by first | exact I.ok.hd hc | (show X.A.in1.handled=none;exact I.ok.hd hc)) s.heap.objs.size p (Nat.ne_of_lt below) its.toArray,⟨⟨_,Heap.get?_push_size _ rfl,rfl,rfl⟩,isl.at fun o q=>Heap.get?_push_of_some _ q⟩,?_,?_,?_⟩
 ·intro b hb
  rw[Heap.size_push]
  simp only[List.mem_cons,List.not_mem_nil,or_false] at hb
  rcases hb with rfl | rfl
  ·exact Nat.lt_succ_self _
  ·exact Nat.lt_succ_of_lt below
 ·intro i v hv
  have hi:i<ns.length:=by
   have:=(Array.getElem?_eq_some_iff.mp hv).1
   simp at this;lia
  obtain⟨u,hu,ru⟩:=rv.get (show(ns.map V.int)[i]?=some (.int ns[i]) by simp[hi])
  have:its[i]?=some v:=by simpa using hv
  rw[hu] at this
  cases this
  obtain⟨t,rfl⟩:=ru
  exact⟨t,by simp[hi]⟩
 ·intro h' tk t' hk
  refine⟨.int ns.sum,H,?_,⟨t',?_⟩,q⟩
  ·exact I.kept (h':=h') (t':=tk) fun b o e=>hk b o (by simp;exact Nat.ne_of_lt (Heap.lt_size e)) (Heap.get?_push_of_some _ e)
  ·rw[show its.toArray.size=ns.length by simp[hil],pf _ (Nat.le_refl _),List.take_length]
variable{e:Expr}{te:TE}{p pos:Pos}
def x9(te:TE):TE:=fun σ H Q=>te σ H fun x H1=>∃(a:Addr) (ns:List Int),x=.ref a∧H1 a=some (.lst (ns.map V.int))∧Q (.int ns.sum) H1
theorem qo(hc:X.calm=true)(hm:X.mg "sum"=none)(ha:PE X e te)(hg:Gl X "sum":=by rfl)(he:starEach [e] X.env=[(false,eval e X.env)]:=by rfl):PE X (.Call (.Name "sum" p) [e] [] pos) (x9 te):=
 dk (r:=r1 fun x H Q=>∃(a:Addr) (ns:List Int),x=.ref a∧H a=some (.lst (ns.map V.int))∧Q (.int ns.sum) H) (c7 fun pins s σ H x us Q I rv ⟨a,ns,ex,h1,q⟩=>rZ hc pins s σ H _ us Q I rv ⟨a,ns,by rw[ex],h1,q⟩) hg hm yx (aa ha ac (by exact he)) (he:=by exact he)
end
theorem yi{X:Cx}{iter elt tg:Expr}{ifs:List Expr}{y:Str}{py pos spos:Pos}{scope:Scope}(xs M:List Str){i:Nat}{wi:TI}{tc:CB→TT}{te:CB→TE}{g:CB→TG}(hc:X.calm=true)(hN:X.N.Nodup)(hiy:X.N[i]?=some y)(hy:eP X.env.scope y)(hi:PI X tg iter wi)(hg:∀b:CB,PG (X.comp (M++xs) scope b) tg (g b))(hif:∀b:CB,eF (X.comp (M++xs) scope b) ifs (tc b))(he:∀b:CB,PE (X.comp (M++xs) scope b) elt (te b))(hsw:swapsWith (.ListComp elt [⟨tg,iter,ifs,0⟩] scope pos) (some (.Name y py)) spos.line X.env=pure true:=by rfl)
 (ok:gK X.env.scope scope xs M X.N=true:=by kernel_rfl)
 (hs:∀x,foldedSetIterable iter X.env x=pure x:=by intro _;rfl)
 (hf:X.fn y=true∨X.env.scope.names.lookup y=some .local:=by first | exact .inl rfl | exact .inr rfl | assumption):
 PS X (.Assign [.Name y py] (.ListComp elt [⟨tg,iter,ifs,0⟩] scope pos) spos) (d8 (qu xs.length wi g tc te) (cA i)):=by
 intro pins s σ H D I h
 rw[exec_Assign_Name_used _ _ _ _ hsw];refine wpAny_bind (wpAny_standAt (wpAny_bind ?_))
 show wpAny _ X.A (do let _←comprehension (.ListComp elt [⟨tg,iter,ifs,0⟩] scope pos) scope X.env _ (newList []) false (eval iter X.env) (some (assign (.Name y py) X.env))) _ _ s
 refine wpAny_bind (wpAny_mono (xG xs M (use:=some (assign (.Name y py) X.env)) (R:=fun _ s'=>_) I h (fun D' C m s' H' hn f hI q=>?_) hc hi hg hif he ok hs) (fun _ s' hq=>wpAny_pure (wpAny_pure hq)) fun _ _ e=>e)
 have I':Inv X pins σ H' s':=hI s'.heap ⟨rfl,fun _ _=>rfl⟩
 show wpAny _ X.A (assign (.Name y py) X.env (.ref D')) _ _ _
 refine wpAny_assign_Name (jL (v:=.ref D') I' hN hiy hy rfl (fun s2 I2 ⟨a,sb,ha⟩=>?_) hf)
 have hCa:C≠a:=by
  obtain⟨f0,f1,f2,f3,f4,f5⟩:=f
  rintro rfl
  rcases ha with z | z
  ·exact f1 z
  ·exact f4 _ _ z rfl
 exact⟨m,hn.sameBut sb hCa,fun h' sb'=>⟨_,H',I2.butC f sb',q⟩⟩
section
variable{prog:Program}{w:World}{κ:Type}[DecidableEq κ]{knd:HeapKind prog w κ}{A:Around}{E:Value→Shared→Prop}{s:Shared}
theorem uv{d c:Addr}{xs:List (κ×Addr×Value)}{k:κ}{v:Value}{R:Value→Shared→Prop}(room:knd.room A)(isk:knd.is s.heap k c)(hm:s.heap.DictOfH knd d xs)(old:∀p,atKey xs k=some p→R p.2 {s with toks:=s.toks+knd.draws k})(new:atKey xs k=none→∀h',h'.DictOfH knd d (xs++[(k,c,v)])→Heap.SameBut d s.heap h'→R v {s with heap:=h',toks:=s.toks+knd.draws k})(few:xs.length≤sizeLine):wpAny (model prog w) A (dictSetDefault d (.ref c) v) R E s:=by
 obtain⟨o,es,ep,ho,hc,hd,he,his,hn⟩:=id hm
 unfold dictSetDefault;try with_reducible refine wpAny_holding ?_
 refine wpAny_bind (knd.pyHash room isk (wpAny_bind (wpAny_dictFind_heap (s:={s with toks:=s.toks+knd.draws k}) room isk ho hd he his hn (fun hno=>?_) fun j p hj=>?_)))
 ·have fresh:=not_mem_keys_of_get hno
  have none:=atKey_none_of_get hno
  refine wpAny_bind (wpAny_rule (wpAny_bind (wpAny_updateDictKeys (hz:=by have e:=size_of_entries he;lia) (s:={s with toks:=s.toks+knd.draws k}) ho hd (wpAny_pure (new none _ ⟨_,_,ep+1,Heap.get?_update_self _ ho (Obj.isFreed_of_dict (Obj.data_mapDictKeys hd _)),hc.mapDictKeys _,Obj.data_mapDictKeys hd _,?_,?_,?_⟩ (Heap.SameBut.update ..))))))
  ·simp[he,entryOfKey]
  ·intro x hx
   rcases List.mem_append.mp hx with hl | hx
   ·exact knd.keeps (his x hl) ho hd (Heap.SameBut.update ..)
   ·rw[List.mem_singleton.mp hx]
    exact knd.keeps isk ho hd (Heap.SameBut.update ..)
  ·rw[List.map_append,List.nodup_append];refine⟨hn,by simp,fun x hx y hy e=>?_⟩
   have hy':y=k:=by simpa using hy
   exact fresh (hy'▸e▸hx)
 ·refine wpAny_bind (wpAny_dictEntries (s:={s with toks:=s.toks+knd.draws k}) ho hd ?_)
  rw[entry_at he j,hj]
  exact wpAny_bind (wpAny_rule (wpAny_pure (old p (atKey_of_get hn hj))))
theorem uz(knd:HeapKind prog w κ)(d c:Addr)(hd:(d == sysModules)=false)(v:Value):MeetsIn prog w (Builtin.«dict.setdefault» ⟨[.ref d,.ref c,v],[]⟩) (fun A R s=>knd.room A.in1∧∃k xs,knd.is s.heap k c∧s.heap.DictOfH knd d xs∧xs.length≤sizeLine∧
 (∀p,atKey xs k=some p→R (.ok (.ret p.2)) {s with toks:=s.toks+knd.draws k})∧
 (atKey xs k=none→∀h',h'.DictOfH knd d (xs++[(k,c,v)])→Heap.SameBut d s.heap h'→R (.ok (.ret v)) {s with heap:=h',toks:=s.toks+knd.draws k})):=
 .of_wp fun A R s ⟨room,k,xs,isk,hm,few,old,new⟩=>by
  unfold Builtin.«dict.setdefault»;refine wpAny_bind ?_
  unfold Builtin.Dict.keyAndDefault;refine wpAny_bind (wpAny_notOrdered_dict hm.typeIs ?_);show wpAny _ _ (pure (d,Value.ref c,some v)) _ _ s
  refine wpAny_pure ?_
  show wpAny _ _ (if(d == sysModules)=true then _ else(dictSetDefault d (.ref c) v >>= _)) _ _ s
  rw[if_neg (by rw[hd];decide)]
  exact wpAny_bind (uv room isk hm (fun p hp=>wpAny_pure ⟨p.2,rfl,old p hp⟩) (fun hn h' hm' sb=>wpAny_pure ⟨v,rfl,new hn h' hm' sb⟩) few)
end
theorem KT.snoc{H:Hp}{kvs:List (List aE×V)}{xs:List (List aE×Addr×Value)}(r:KT H kvs xs){k:List aE}{c:Addr}{y:V}{u:Value}(hc:H c=some (.tup (k.map kV)))(ry:RelV y u):KT H (kvs++[(k,y)]) (xs++[(k,c,u)]):=
 Paired.snoc r ⟨rfl,hc,ry⟩
section
variable{X:Cx}{pins:List (Addr×Obj)}{σ:St}{H:Hp}{s:Shared}{a c:Addr}{kvs:List (List aE×V)}{k:List aE}{v:V}{r:Value}{A:Around}{E:Value→Shared→Prop}
theorem xf{R:Value→Shared→Prop}(room:A.units+1<cLine)(I:Inv X pins σ H s)(e:H a=some (.dT kvs))(ec:H c=some (.tup (k.map kV)))(rv:RelV v r)(few:kvs.length<sizeLine)(old:∀y,bX kvs k=some y→∀u s',Inv X pins σ H s'→RelV y u→R u s')(new:bX kvs k=none→∀s',Inv X pins σ (upd H a (.dT (kvs++[(k,v)]))) s'→R r s'):wpAny (model X.prog X.w) A (call (.builtin "dict.setdefault") [.ref a,.ref c,r]) R E s:=by
 obtain⟨z,hd,xs,rel,dd⟩:=vU I.hok e
 have hl:xs.length=kvs.length:=(Paired.length rel).symm
 have val:=rel.val k
 refine call_meetsIn PySem.F.slot_dict_setdefault dd.typeIs PySem.F.entry_dict_setdefault (PySem.F.args_dict_setdefault_3 _ _ _) (uz (tupleKind (bU X.prog X.w)) a c hd r) ⟨tupleKind_room_in1 room,k,xs,mR I.hok ec,dd,by lia,fun p hp=>?_,fun hn h' dd' sb=>?_⟩
 ·rw[hp] at val
  cases q:bX kvs k with
  | none=>rw[q] at val;exact(show False from val).elim
  | some y=>
    rw[q] at val
    exact old y q _ _ (I.tok _) val
 ·have q:bX kvs k=none:=by
   cases q:bX kvs k with
   | none=>rfl
   | some y=>rw[q,hn] at val;exact(show False from val).elim
  refine new q _ ?_
  obtain⟨ob,es,ep,h1,h2,h3,h4,_,h5⟩:=dd'
  refine nI I (by rw[e];exact True.intro) sb ⟨ob,h1⟩ ⟨by rw[List.length_append,List.length_singleton];lia,hd,_,(rel.snoc ec rv).keeps fun b ys eb=>?_,ob,es,ep,h1,h2,h3,h4,h5⟩
  rw[ao (dZ eb e (fun z=>nomatch z))]
  exact eb
end
def xm(td ty tx:TE):TE:=fun σ H Q=>td σ H fun x H1=>∃a,x=.ref a∧p6 H1 a∧ty σ H1 fun y H2=>tx σ H2 fun z H3=>∃c kvs k,y=.ref c∧H3 a=some (.dT kvs)∧H3 c=some (.tup (k.map kV))∧kvs.length<sizeLine∧
 (∀v,bX kvs k=some v→Q v H3)∧(bX kvs k=none→Q z (upd H3 a (.dT (kvs++[(k,z)]))))
theorem re{X:Cx}{o e f:Expr}{apos cpos:Pos}{td ty tx:TE}(room:X.A.units+1<cLine)(ho:PE X o td)(he:PE X e ty)(hf:PE X f tx)(m:M2 X o "setdefault" apos e f cpos):PE X (.Call (.Attribute o "setdefault" apos) [e,f] [] cpos) (xm td ty tx):=by
 intro pins s σ H Q I h
 refine wpAny_Call_method m.base m.few m.line PySem.F.plainAttrs_dict PySem.F.slot_dict_setdefault PySem.F.type_dict_setdefault (ap (ho pins s σ H _ I h) fun u s1 ⟨x,H1,I1,rx,a,ex,d,q1⟩=>?_)
 subst ex
 obtain rfl:u=Value.ref a:=rx
 obtain⟨t1,t2,_⟩:=va I1 d
 refine⟨t1,t2,?_⟩
 rw[m.trees]
 refine Calls.callWith_builtin rfl (Calls.evalArgs_plain (Calls.spliced_cons (ap (he pins s1 σ H1 _ I1 q1) fun iv s2 ⟨y,H2,I2,ry,q2⟩=>
  Calls.spliced_cons (ap (hf pins s2 σ H2 _ I2 q2) fun fv s3 ⟨z,H3,I3,rz,c,kvs,k,ey,ea,ec,few,old,new⟩=>Calls.spliced_nil ?_))))
 subst ey
 obtain rfl:iv=Value.ref c:=ry
 exact xf room I3 ea ec rz few (fun v hv u s4 I4 ru=>⟨v,H3,I4,ru,old v hv⟩) fun hn s4 I4=>⟨z,_,I4,rz,new hn⟩
section
variable{X:Cx}{e:Expr}{te:TE}{p pos:Pos}
def v0(K:PySem.W.Frag)(te:TE):TE:=fun σ H Q=>te σ H fun x H1=>∃a ys,x=.ref a∧SqL K H1 a ys∧∀l,H1 l=none→Q (.ref l) (upd H1 l (.tup ys))
theorem sE(hm:X.mg "tuple"=none)(ha:PE X e te)(hg:Gl X "tuple":=by rfl)(he:starEach [e] X.env=[(false,eval e X.env)]:=by rfl):PE X (.Call (.Name "tuple" p) [e] [] pos) (v0 X.K te):=
 gF (r:=r1 fun x H Q=>∃a ys,x=.ref a∧SqL X.K H a ys∧∀l,H l=none→Q (.ref l) (upd H l (.tup ys))) (c7 fun pins s σ H x us Q I rv ⟨a,ys,ex,h,q⟩=>sZ pins s σ H _ us Q I rv ⟨a,ys,by rw[ex],.inl ⟨h,q⟩⟩) hg hm wT (aa ha ac (by exact he)) (he:=by exact he)
end
theorem Inv.still{X:Cx}{pins:List (Addr×Obj)}{σ:St}{H:Hp}{s:Shared}{a:Addr}{kvs:List (List aE×V)}(I:Inv X pins σ H s)(e:H a=some (.dT kvs)):∃o,s.heap.get? a=some o∧Inv X pins σ (upd H a (.frz o (.dT kvs))) s:=by
 obtain⟨z,hd,xs,rel,o,es,ep,h1,h2,h3,h4,h5⟩:=(show ObjOk X.prog X.w H s.heap a (.dT kvs) from I.hok a _ e)
 refine⟨o,h1,nI (h':=s.heap) (t':=s.toks) I (by rw[e];exact True.intro) ⟨rfl,fun _ _=>rfl⟩ ⟨o,h1⟩ ⟨h1,z,hd,xs,KT.keeps rel fun b ys eb=>?_,o,es,ep,h1,h2,h3,h4,h5⟩⟩
 rw[ao (dZ eb e (fun z=>nomatch z))]
 exact eb
section
variable{prog:Program}{w:World}{A:Around}{E:Value→Shared→Prop}{s:Shared}{it d:Addr}{i n ep:Nat}{od:Obj}{es:Array DictEntry}
end
theorem hW{α β:Type}{F:α→β→Prop}:∀{l₁:List α} {l₂:List β} {i:Nat} {x:α},Paired F l₁ l₂→l₁[i]?=some x→∃y,l₂[i]?=some y∧F x y
 | _,_,0,_,.cons r _,h=>⟨_,rfl,by cases h;exact r⟩
 | _,_,i+1,_,.cons _ t,h=>by
   obtain⟨y,e,r⟩:=hW (i:=i) t (by simpa using h)
   exact⟨y,by simpa using e,r⟩
theorem oX{X:Cx}{pins:List (Addr×Obj)}{σ:St}{H:Hp}{s:Shared}{d:Addr}{o:Obj}{kvs:List (List aE×V)}(I:Inv X pins σ H s)(e:H d=some (.frz o (.dT kvs))){es:Array DictEntry}{ep:Nat}(eo:o.data=.dict es ep):s.heap.get? d=some o∧es.size=kvs.length∧∀(i:Nat) (k:List aE) (x:V),kvs[i]?=some (k,x)→∃en:DictEntry,es[i]?=some en∧RelV x en.val:=by
 obtain⟨e1,z,hd,xs,rel,o',es',ep',h1,h2,h3,h4,h5⟩:=(show ObjOk X.prog X.w H s.heap d (.frz o (.dT kvs)) from I.hok d _ e)
 rw[e1] at h1
 cases h1
 rw[eo] at h3
 cases h3
 refine⟨e1,by rw[size_of_entries h4,Paired.length rel],fun i k x hx=>?_⟩
 obtain⟨y,hy,ry⟩:=hW rel hx
 exact⟨_,by rw[entry_at h4 i,hy];rfl,ry.2.2⟩
def xS(K:PySem.W.Frag)(neg:Bool):R2:=fun x y H Q=>∃(d:PyData) (ds:List PyData),DatV K H d x∧DatV K H (.list ds) y∧d.depth≤32∧Q (.bl (if neg then !(ds.any fun e=>PyData.eqv e d) else ds.any fun e=>PyData.eqv e d)) H
theorem ut{X:Cx}{k:Nat}(hr:Room k X.A):OpR X (compareOp .In) (xS X.K false):=by
 intro pins s σ H x y v u Q I rx ry h
 obtain⟨d,ds,h1,h2,hd,q⟩:=h
 obtain⟨⟨as,ra⟩,ca⟩:=DatV.reads I d x v h1 rx
 obtain⟨⟨bs,rb⟩,cb⟩:=DatV.reads I (.list ds) y u h2 ry
 have lim:min (PyData.depthAll ds) d.depth≤32:=Nat.le_trans (Nat.min_le_right _ _) hd
 exact SeqAt.in_list_reads rb ra (by simpa [PyData.canLay0] using cb) ca (by have:=hr.units;lia) ⟨.bl _,H,I,rfl,q⟩
section
variable{X:Cx}
end
section
variable{prog:Program}{w:World}{A:Around}{E:Value→Shared→Prop}{s:Shared}{it d:Addr}{i n ep:Nat}{od:Obj}{es:Array DictEntry}
theorem xg(d:Addr)(hd:(d == sysModules)=false):MeetsIn prog w (Builtin.«dict.items» ⟨[.ref d],[]⟩) (fun _ R s=>s.TypeIs (.ref d) "dict"∧R (.ok (.ret (.ref s.heap.objs.size))) ({s with heap:=s.heap.push {cls:=.type "dict_items",data:=.fields #[.ref d]}}:Shared)):=
 .of_wp fun A R s ⟨ty,q⟩=>by
  refine wpAny_bind ?_;unfold Builtin.Dict.noArgs
  refine wpAny_bind (wpAny_notOrdered_dict ty ?_)
  show wpAny _ _ (pure d) _ _ s
  refine wpAny_pure ?_;show wpAny _ _ (Builtin.Dict.showsAll d >>= _) _ _ s
  unfold Builtin.Dict.showsAll;rw[if_neg (by rw[hd];decide)]
  exact wpAny_bind (wpAny_pure (wpAny_bind (wpAny_newObj_type (wpAny_pure ⟨_,rfl,q⟩))))
theorem wP{v:Addr}{Q:Value→Shared→Prop}(hv:s.heap.IsItemsView v d)(e1:s.heap.get? d=some od)(e2:od.data=.dict es ep)(e3:es.size=n)(q:Q (.ref s.heap.objs.size) {s with heap:=s.heap.push {cls:=.type "dict_itemiterator",data:=.fields #[.none,.bool false,.ref d,.int 0 0,.int n 0,.int ep 0,.none,.none]}}):wpAny (model prog w) A (pyIter (.ref v)) Q E s:=by
 obtain⟨vo,v1,v2,v3⟩:=id hv
 refine wpAny_pyIter_slot hv.typeIs F.slot_dict_items_iter (wpAny_call_entry F.slot_dict_items_iter hv.typeIs F.entry_dict_items_iter ?_ (F.args_dict_items_iter_1 _));unfold Builtin.«dict_items.__iter__»;refine wpAny_bind (wpAny_pure (wpAny_bind ?_))
 unfold Builtin.Dict_items.dictOf;refine wpAny_bind (wpAny_field v1 v3 (x:=.ref d) rfl (wpAny_pure (wpAny_bind ?_)))
 unfold Builtin.Dict_items.newIterator;refine wpAny_bind (wpAny_dictEntries e1 e2 (wpAny_bind (wpAny_dictEpoch e1 e2 ?_)))
 simp only[show Builtin.Dict_items.ownsTuple "dict_itemiterator"=true by decide,if_true]
 refine wpAny_newObj_type (wpAny_pure ⟨_,rfl,"dict_itemiterator",_,⟨_,Heap.get?_push_size _ rfl,rfl⟩,F.slot_dict_itemiterator_next.lookup,?_⟩) (by simp only[sizeOk,Builtin.Dict_items.ownedTupleFields,List.size_toArray,List.length_append,List.length_cons,List.length_nil,sizeLine_eq];lia);simpa [rawInt,e3,Builtin.Dict_items.ownedTupleFields] using q
theorem vD{en:DictEntry}{ok ov:Value}{Q:Option Value→Shared→Prop}(hit:IsItemIter s.heap it d i n ep ok ov)(e1:s.heap.get? d=some od)(e2:od.data=.dict es ep)(e3:es.size=n)(e4:es[i]?=some en)(q:∀h',IsItemIterOut h' it d (i+1) n ep en.key en.val s.heap.objs.size→h'.get? s.heap.objs.size=some {cls:=.type "tuple",data:=.seq #[en.key,en.val]}→(∀b o,b≠it→s.heap.get? b=some o→h'.get? b=some o)→Q (some (.ref s.heap.objs.size)) {s with heap:=h'}):wpAny (model prog w) A (pyNext (.ref it)) Q E s:=by
 obtain⟨hq0,gn,dw,tkk,ost⟩:=s
 obtain⟨lt,eg⟩:=Array.getElem?_eq_some_iff.mp e4
 have tyi:Shared.TypeIs ⟨hq0,gn,dw,tkk,ost⟩ (.ref it) "dict_itemiterator":=⟨_,hit,rfl⟩
 unfold pyNext;refine wpAny_bind (wpAny_attempt (wpAny_callSpecial?_slot (name:=Str.ofString "__next__") tyi F.slot_dict_itemiterator_next (wpAny_call_entry F.slot_dict_itemiterator_next tyi F.entry_dict_itemiterator_next ?_ (F.args_dict_itemiterator_next_1 _))))
 refine wpAny_bind (wpAny_pure (wpAny_bind (wpAny_bind ?_)))
 first | refine wpAny_bind (wpAny_typeNameOfWhole_itemiter tyi (wpAny_pure (wpAny_bind (wpAny_fieldsOf hit rfl ?_)))) | refine wpAny_bind (wpAny_typeNameOf_itemiter tyi (wpAny_pure (wpAny_bind (wpAny_fieldsOf hit rfl ?_))))
 simp only[show Builtin.Dict_items.ownsTuple "dict_itemiterator"=true by decide,if_true]
 show wpAny _ _ (if(Value.ref d == Value.none)=true then _ else _) _ _ _;rw[if_neg (show¬((Value.ref d == Value.none)=true) by exact Bool.false_ne_true)]
 refine wpAny_bind (wpAny_pure (wpAny_bind (wpAny_dictEntries e1 e2 ?_)))
 rw[if_neg (by rw[e3];simp)];refine wpAny_bind (wpAny_pure (wpAny_bind (wpAny_dictEpoch e1 e2 ?_)))
 rw[if_neg (by simp)];refine wpAny_pure ?_
 simp only[show¬((i:Int)<0) by lia,if_false,Int.toNat_natCast,e4]
 refine wpAny_bind ?_
 first | refine wpAny_bind (wpAny_typeNameOfWhole_itemiter tyi (wpAny_pure (wpAny_bind (wpAny_isOneOf_itemiter tyi ?_)))) | refine wpAny_bind (wpAny_typeNameOf_itemiter tyi (wpAny_pure (wpAny_bind (wpAny_isOneOf_itemiter tyi ?_))))
 show wpAny _ _ (setField (.ref it) 3 (rawInt ((i:Int)+1)) >>= _) _ _ ⟨hq0,gn,dw,tkk,ost⟩;refine wpAny_bind (wpAny_setField_rec hit (by simp) fun ga0 gea0 gsa0=>?_)
 replace gsa0:Heap.SameBut it hq0 ga0:=gsa0
 replace gea0:IsItemIter ga0 it d (i+1) n ep ok ov:=by
  have ei:((i+1:Nat):Int)=(i:Int)+1:=by lia
  unfold IsItemIter;rw[ei];simpa [rawInt] using gea0
 have gTa0:Shared.TypeIs ⟨ga0,gn,dw,tkk,ost⟩ (.ref it) "dict_itemiterator":=⟨_,gea0,rfl⟩
 refine wpAny_bind (wpAny_holding (wpAny_bind (wpAny_isOneOf_itemiter gTa0 (wpAny_bind (wpAny_isOneOf_itemiter gTa0 ?_)))))
 show wpAny _ _ (Builtin.Dict_items.pairFromOwner (.ref it) 6 en.key en.val) _ _ ⟨ga0,gn,dw,tkk,ost⟩;unfold Builtin.Dict_items.pairFromOwner
 refine wpAny_bind (wpAny_newTuple (?_))
 have geb0:IsItemIter (ga0.push {cls:=.type "tuple",data:=.seq #[en.key,en.val]}) it d (i+1) n ep ok ov:=Heap.get?_push_of_some _ gea0
 generalize ggb0:ga0.push {cls:=.type "tuple",data:=.seq #[en.key,en.val]}=gb0 at geb0
 have gza0:ga0.objs.size=hq0.objs.size:=gsa0.1
 have nil':hq0.objs.size≠it:=Nat.ne_of_gt (Heap.lt_size hit)
 have gtb0:gb0.get? hq0.objs.size=some {cls:=.type "tuple",data:=.seq #[en.key,en.val]}:=by rw[←ggb0,←gza0];exact Heap.get?_push_size _ rfl
 have gkb0:∀b o,b≠it→hq0.get? b=some o→gb0.get? b=some o:=fun b o hb e=>by rw[←ggb0];exact Heap.get?_push_of_some _ (gsa0.extBut b o hb e)
 show wpAny _ _ (Builtin.Dict_items.ownedTupleIsFree (.ref it) >>= _) _ _ ⟨gb0,gn,dw,tkk,ost⟩;rw[gza0]
 refine wpAny_bind ?_;unfold Builtin.Dict_items.ownedTupleIsFree
 refine wpAny_bind (wpAny_field geb0 rfl (x:=.none) rfl (wpAny_pure ?_));simp only[if_true]
 refine wpAny_bind (wpAny_field geb0 rfl (x:=ok) rfl (wpAny_bind (wpAny_field geb0 rfl (x:=ov) rfl (wpAny_bind (wpAny_setField_rec geb0 (by simp) fun gc0 gec0 gsc0=>?_)))))
 replace gsc0:Heap.SameBut it gb0 gc0:=gsc0
 replace gec0:IsItemIter gc0 it d (i+1) n ep en.key ov:=gec0
 refine wpAny_bind (wpAny_setField_rec gec0 (by simp) fun gd0 ged0 gsd0=>wpAny_bind (wpAny_setField_rec ged0 (by simp) fun ge0 gee0 gse0=>?_))
 replace gsd0:Heap.SameBut it gc0 gd0:=gsd0
 replace gse0:Heap.SameBut it gd0 ge0:=gse0
 replace gee0:IsItemIterOut ge0 it d (i+1) n ep en.key en.val hq0.objs.size:=gee0
 refine wpAny_bind (wpAny_setField_rec gee0 (by simp) fun gf0 gef0 gsf0=>?_)
 replace gsf0:Heap.SameBut it ge0 gf0:=gsf0
 replace gef0:IsItemIterOut gf0 it d (i+1) n ep en.key en.val hq0.objs.size:=gef0
 have kk:∀b o,b≠it→gb0.get? b=some o→gf0.get? b=some o:=fun b o hb e=>gsf0.extBut b o hb (gse0.extBut b o hb (gsd0.extBut b o hb (gsc0.extBut b o hb e)))
 exact wpAny_bind (wpAny_letGo (wpAny_pure (wpAny_pure ⟨_,rfl,wpAny_pure (q gf0 gef0 (kk _ _ nil' gtb0) fun b o hb e=>kk b o hb (gkb0 b o hb e))⟩)))
theorem zz{ok ov:Value}{Q:Option Value→Shared→Prop}(calm:A.handled=none)(hit:IsItemIter s.heap it d i n ep ok ov)(e1:s.heap.get? d=some od)(e2:od.data=.dict es ep)(e3:es.size=n)(e4:n≤i)(q:∀h',Heap.ExtBut it s.heap h'→Q none {s with heap:=h'}):wpAny (model prog w) A (pyNext (.ref it)) Q E s:=by
 have tyi:s.TypeIs (.ref it) "dict_itemiterator":=⟨_,hit,rfl⟩
 unfold pyNext;refine wpAny_bind (wpAny_attempt (wpAny_callSpecial?_slot (name:=Str.ofString "__next__") tyi F.slot_dict_itemiterator_next (wpAny_call_entry F.slot_dict_itemiterator_next tyi F.entry_dict_itemiterator_next ?_ (F.args_dict_itemiterator_next_1 _))))
 refine wpAny_bind (wpAny_pure (wpAny_bind (wpAny_bind ?_)))
 first | refine wpAny_bind (wpAny_typeNameOfWhole_itemiter tyi (wpAny_pure (wpAny_bind (wpAny_fieldsOf hit rfl ?_)))) | refine wpAny_bind (wpAny_typeNameOf_itemiter tyi (wpAny_pure (wpAny_bind (wpAny_fieldsOf hit rfl ?_))))
 simp only[show Builtin.Dict_items.ownsTuple "dict_itemiterator"=true by decide,if_true]
 show wpAny _ _ (if(Value.ref d == Value.none)=true then _ else _) _ _ s;rw[if_neg (show¬((Value.ref d == Value.none)=true) by exact Bool.false_ne_true)]
 refine wpAny_bind (wpAny_pure (wpAny_bind (wpAny_dictEntries e1 e2 ?_)))
 rw[if_neg (by rw[e3];simp)];refine wpAny_bind (wpAny_pure (wpAny_bind (wpAny_dictEpoch e1 e2 ?_)))
 rw[if_neg (by simp)];refine wpAny_pure ?_
 simp only[show¬((i:Int)<0) by lia,if_false,Int.toNat_natCast,Array.getElem?_eq_none (show es.size≤i by lia)]
 refine wpAny_bind ?_
 first | refine wpAny_bind (wpAny_typeNameOfWhole_itemiter tyi (wpAny_pure ?_)) | refine wpAny_bind (wpAny_typeNameOf_itemiter tyi (wpAny_pure ?_))
 show wpAny _ _ (setField (.ref it) 2 .none >>= _) _ _ s;refine wpAny_bind (wpAny_setField hit rfl (by simp) ?_)
 show wpAny _ _ (newExc (.type "StopIteration") [] >>= _) _ _ _;refine wpAny_bind ?_
 simp only[newExc,newTuple];refine wpAny_bind (wpAny_newObj_type ?_ (by size_fits))
 refine wpAny_bind (m:=firstArgMember _ _) (wpAny_of_eq (a:=Value.none) (by first | (simp only[firstArgMember];rfl) | rfl) ?_)
 refine wpAny_newObj_type ?_ (by size_fits);simp only[raiseNew]
 refine wpAny_bind (wpAny_handled ?_);rw[show A.in1.handled=none from calm]
 refine wpAny_bind (wpAny_pure (wpAny_throw ?_));refine wpAny_bind (wpAny_isInstance (T:="StopIteration") (b:=true) ⟨_,Heap.get?_push_size _ rfl,rfl⟩ isSubtype_stop (wpAny_pure ?_))
 exact q _ (((Heap.SameBut.update ..).extBut.push _).push _)
end
def fu(d:Addr)(o:Obj)(kvs:List (List aE×V)):It:=
 ⟨fun i H=>H d=some (.frz o (.dT kvs))∧i<kvs.length,fun i H x H'=>∃k v ka p,kvs[i]?=some (k,v)∧H ka=some (.tup (k.map kV))∧H p=none∧H'=upd H p (.tup [.ref ka,v])∧x=.ref p,fun i H=>H d=some (.frz o (.dT kvs))∧kvs.length≤i⟩
theorem yh{X:Cx}{pins:List (Addr×Obj)}{σ:St}{H:Hp}{s:Shared}{d:Addr}{o:Obj}{kvs:List (List aE×V)}(I:Inv X pins σ H s)(e:H d=some (.frz o (.dT kvs))){es:Array DictEntry}{ep:Nat}(eo:o.data=.dict es ep):∀(i:Nat) (k:List aE) (x:V),kvs[i]?=some (k,x)→∃(en:DictEntry) (ka:Addr),es[i]?=some en∧RelV x en.val∧en.key=.ref ka∧H ka=some (.tup (k.map kV)):=by
 obtain⟨e1,z,hd,xs,rel,o',es',ep',h1,h2,h3,h4,h5⟩:=(show ObjOk X.prog X.w H s.heap d (.frz o (.dT kvs)) from I.hok d _ e)
 rw[e1] at h1
 cases h1
 rw[eo] at h3
 cases h3
 intro i k x hx
 obtain⟨y,hy,ry⟩:=hW rel hx
 exact⟨_,y.2.1,by rw[entry_at h4 i,hy];rfl,ry.2.2,rfl,ry.2.1⟩
theorem yI{P:Program}{w:World}{K:PySem.W.Frag}{els:List Expr}{kk:Nat}{tp:Pos}(d it:Addr)(o:Obj)(kvs:List (List aE×V)){es:Array DictEntry}{ep:Nat}(eo:o.data=.dict es ep):Turn P w K (.Tuple els kk tp) (fu d o kvs) [it] it (fun i h=>∃ok ov,IsItemIter h it d i kvs.length ep ok ov) where
 mem:=by simp
 obj:=fun i h st b hb=>by
  obtain rfl:b=it:=by simpa using hb
  obtain⟨ok,ov,st⟩:=st
  exact⟨_,st,fun v q=>by have q':Data.fields _=Data.cell v:=q;cases q'⟩
 keep:=fun i h h' st k=>by
  obtain⟨ok,ov,st⟩:=st
  exact⟨ok,ov,k it (by simp) _ st⟩
 item:=by
  intro X hP hw hK hc i pins s σ H E I hf st hg
  subst hP hw hK
  obtain⟨he,hi⟩:=hg
  obtain⟨ok,ov,st⟩:=st
  obtain⟨e1,e3,_⟩:=oX I he eo
  obtain⟨en,ka,e4,ry,ek,hka⟩:=yh I he eo i kvs[i].1 kvs[i].2 (List.getElem?_eq_getElem hi)
  refine vD st e1 eo e3 e4 fun h' out hnew keep=>⟨_,rfl,?_⟩
  refine wpAny_letOwnedTupleGo_items (s:={s with heap:=h'}) out fun h'' y1 sb=>?_
  have nz:s.heap.objs.size≠it:=Nat.ne_of_gt (Heap.lt_size st)
  have hnew2:=sb.extBut _ _ nz hnew
  have kk:∀c u,c∉ [it]→s.heap.get? c=some u→h''.get? c=some u:=fun c u hc e=>by
   have hc':c≠it:=by simpa using hc
   exact sb.extBut _ _ hc' (keep c u hc' e)
  have I1:Inv X pins σ (upd H s.heap.objs.size (.tup [.ref ka,kvs[i].2])) {s with heap:=h'',toks:=s.toks}:=I.turnLaid hf kk (Nat.le_refl _) ⟨by show 2≤sizeLine;decide,[en.key,en.val],.cons ek (.cons ry .nil),⟨_,hnew2,rfl,_,rfl⟩⟩
  refine⟨.ref s.heap.objs.size,_,I1,rfl,⟨kvs[i].1,kvs[i].2,ka,s.heap.objs.size,List.getElem?_eq_getElem hi,hka,I.hok.fresh (Nat.le_refl _),rfl,rfl⟩,⟨_,_,y1⟩,fun c hc=>?_⟩
  obtain rfl:c=it:=by simpa using hc
  rw[ao (Ne.symm nz)]
  exact(hf _ hc).1
 done:=by
  intro X hP hw hK hc i pins s σ H E I hf st hg
  subst hP hw hK
  obtain⟨he,hi⟩:=hg
  obtain⟨ok,ov,st⟩:=st
  obtain⟨e1,e3,_⟩:=oX I he eo
  obtain⟨f0,f1,f2,f3,f4,f5⟩:=hf it (by simp)
  exact zz (I.ok.hd hc) st e1 eo e3 hi fun h' eb=>⟨rfl,I.turned (t':=s.toks) (fun b ob hb e=>eb b ob hb e) f0 f1 f3 f4 f5⟩
 self:=fun _ _ _ _ _ st h=>by
  obtain⟨ok,ov,st⟩:=st
  exact PySem.W.kcp_self st h
def rC(te:TE):TI:=fun σ H R=>te σ H fun x H1=>∃a kvs,x=.ref a∧H1 a=some (.dT kvs)∧∀o,R (fu a o kvs) (upd H1 a (.frz o (.dT kvs)))
theorem rA{X:Cx}{els:List Expr}{kk:Nat}{tp:Pos}{e:Expr}{te:TE}{apos cpos:Pos}(he:PE X e te)(hbase:attributeBase e "items" X.env (eval e X.env)=eval e X.env:=by rfl)(hline:(apos.endLine == cpos.line)=true:=by rfl):
 PI X (.Tuple els kk tp) (.Call (.Attribute e "items" apos) [] [] cpos) (rC te):=by
 intro pins s σ H R I h
 refine wpAny_Call_method0_late hbase hline (ap (he pins s σ H _ I h) fun v s1 ⟨x,H1,I1,rx,a,kvs,ex,ha,q⟩=>?_)
 subst ex
 obtain rfl:v=Value.ref a:=rx
 obtain⟨t1,t2⟩:=nY (x:=.ref a) (v:=.ref a) (T:="dict") I1 rfl (.inr (.inr (.inl ⟨rfl,.inr ⟨kvs,ha⟩⟩)))
 obtain⟨z,hd,xs,rel,ob,es,ep,h1,h2,h3,h4,h5⟩:=(show ObjOk X.prog X.w H1 s1.heap a (.dT kvs) from I1.hok a _ ha)
 refine⟨"dict","dict.items",PySem.F.plainAttrs_dict,PySem.F.slot_dict_items,PySem.F.type_dict_items,t1,t2,Calls.callWith_builtin rfl (PySem.evalArgs_none ?_)⟩
 refine call_meetsIn PySem.F.slot_dict_items t1 PySem.F.entry_dict_items (PySem.F.args_dict_items_1 _) (xg a hd) ⟨t1,?_⟩
 obtain⟨ob',h1',I2⟩:=I1.still ha
 rw[h1] at h1'
 cases h1'
 have I3:=I2.kept (h':=s1.heap.push {cls:=.type "dict_items",data:=.fields #[.ref a]}) (t':=s1.toks) fun b o e=>Heap.get?_push_of_some _ e
 refine wP (d:=a) (n:=kvs.length) ⟨_,Heap.get?_push_size _ rfl,rfl,rfl⟩ (Heap.get?_push_of_some _ h1) h3 (by rw[size_of_entries h4,Paired.length rel]) ?_
 refine⟨_,[_],_,fu a ob kvs,_,rfl,I3.kept (t':=s1.toks) fun b o e=>Heap.get?_push_of_some _ e,yI a _ ob kvs h3,⟨_,_,Heap.get?_push_size _ rfl⟩,fun b hb=>?_,q ob⟩
 have eb:=List.mem_singleton.mp hb
 subst eb
 exact I3.fpOk (Nat.le_refl _) (I3.hok.fresh (Nat.le_refl _))
theorem vK{a:Addr}{o:Obj}{kvs:List (List aE×V)}{g:TG}{tb:TS}{D:Ends}{σ:St}{H:Hp}(Pv:Nat→St→Hp→Prop)(h0:Pv 0 σ H)(hl:∀i σ H,i≤kvs.length→Pv i σ H→H a=some (.frz o (.dT kvs)))(hs:∀i k x ka p σ H,kvs[i]?=some (k,x)→H ka=some (.tup (k.map kV))→H p=none→Pv i σ H→g (.ref p) σ (upd H p (.tup [.ref ka,x])) fun σ2 H2=>tb {D with nx:=Pv (i+1),ct:=Pv (i+1),bk:=D.nx} σ2 H2)(hd:∀σ H,Pv kvs.length σ H→D.nx σ H):
 ∃ W:Nat→Nat→St→Hp→Prop,(∃m,W 0 m σ H)∧∀i m σ H,W i m σ H→
   ((fu a o kvs).stop i H∧D.nx σ H)∨((fu a o kvs).go i H∧∃N:St→Hp→Prop,(∀σ' H',N σ' H'→∃m',m'<m∧W (i+1) m' σ' H')∧∀x H',(fu a o kvs).yld i H x H'→g x σ H' fun σ2 H2=>tb {D with nx:=N,ct:=N,bk:=D.nx} σ2 H2):=by
 refine⟨fun i m σ H=>m=kvs.length-i∧i≤kvs.length∧Pv i σ H,⟨kvs.length,by simp,Nat.zero_le _,h0⟩,?_⟩
 rintro i m σ H ⟨rfl,hi,p⟩
 have q:=hl i σ H hi p
 by_cases hlt:i<kvs.length
 ·refine .inr ⟨⟨q,hlt⟩,Pv (i+1),fun σ' H' p'=>⟨kvs.length-(i+1),by lia,rfl,hlt,p'⟩,fun x H' y=>?_⟩
  obtain⟨k,v,ka,pp,ek,hka,hpp,e1,e2⟩:=y
  subst e1 e2
  exact hs i k v ka pp σ H ek hka hpp p
 ·have e:i=kvs.length:=by lia
  subst e
  exact .inl ⟨⟨q,Nat.le_refl _⟩,hd σ H p⟩
section
variable{s:Shared}{prog:Program}{w:World}{A:Around}{E:Value→Shared→Prop}
end
def aQ:List Int→List Int→Bool
 | [],[]=>false
 | [],_::_=>true
 | _::_,[]=>false
 | x::xs,y::ys=>if x=y then aQ xs ys else decide (x<y)
theorem xT:∀ys:List Int,aQ [] ys=decide (0<ys.length)
 | []=>rfl
 | _::_=>by simp[aQ]
theorem yp:∀xs:List Int,aQ xs []=false
 | []=>rfl
 | _::_=>rfl
section
open SeqAt MeetsSeq MeetsSeq2 MeetsSeq3 SeqRoads2
open AutoSeq1 (wpAny_loadPart')
def LtAt(A:Around)(s:Shared)(y x:Value)(b:Bool):Prop:=∀(prog:Program) (w:World) (E:Value→Shared→Prop) (Q:Value→Shared→Prop),Q (.bool b) s→wpAny (model prog w) A (richCompare .Lt y x) Q E s
def sV(a b:Int)(xs ys:List Int):Bool:=if a=b then aQ xs ys else decide (a<b)
theorem m3:∀xs:List Int,aQ xs xs=false
 | []=>rfl
 | x::xs=>by simp only[aQ,if_true];exact m3 xs
end
theorem bJ{C:List Value→Prop}(h:∀a,C [a]):∀us:List Value,us.length=1→C us
 | [a],_=>h a
theorem bC{C:List Value→Prop}(h:∀a b,C [a,b]):∀us:List Value,us.length=2→C us
 | [a,b],_=>h a b
theorem cN{C:List Value→Prop}(h:∀a b c,C [a,b,c]):∀us:List Value,us.length=3→C us
 | [a,b,c],_=>h a b c
theorem jn{C:List Value→Prop}(h:∀a b c d,C [a,b,c,d]):∀us:List Value,us.length=4→C us
 | [a,b,c,d],_=>h a b c d
theorem lB{K:PySem.W.Frag}{a:Addr}{xs:List V}{g:TG}{tb:TS}{D:Ends}{σ:St}{H:Hp}(Pv:Nat→St→Hp→Prop)(h0:Pv 0 σ H)(hl:∀i σ H,i≤xs.length→Pv i σ H→SqL K H a xs)(hs:∀(D2:Ends) i x σ H,(∀σ' H',Pv (i+1) σ' H'→D2.nx σ' H')→xs[i]?=some x→Pv i σ H→g x σ H fun σ2 H2=>tb D2 σ2 H2)(hd:∀σ H,Pv xs.length σ H→D.nx σ H):FW (cm K a) g tb D σ H:=
 ie Pv h0 hl (fun i x σ H hx p=>hs _ i x σ H (fun _ _ h=>h) hx p) hd
theorem sf{lo:Int}{n:Nat}{g:TG}{tb:TS}{D:Ends}{σ:St}{H:Hp}(Pv:Nat→St→Hp→Prop)(h0:Pv 0 σ H)(hs:∀(D2:Ends) i σ H,(∀σ' H',Pv (i+1) σ' H'→D2.nx σ' H')→i<n→Pv i σ H→g (.int (lo+i)) σ H fun σ2 H2=>tb D2 σ2 H2)(hd:∀σ H,Pv n σ H→D.nx σ H):FW (cK lo n) g tb D σ H:=
 gJ Pv h0 (fun i σ H hx p=>hs _ i σ H (fun _ _ h=>h) hx p) hd
section
variable{X:Cx}{tg:Expr}
end
section
variable{X:Cx}{a b c:Expr}{ta:TA}{p p2 pos pos2:Pos}
end
theorem jO:∀{xs ys zs:List Int},aQ xs ys=true→aQ ys zs=true→aQ xs zs=true
 | [],[],_,h,_=>by simp[aQ] at h
 | [],_::_,[],_,h=>by simp[aQ] at h
 | [],_::_,_::_,_,_=>(rfl:true=true)
 | _::_,[],_,h,_=>by simp[aQ] at h
 | _::_,_::_,[],_,h=>by simp[aQ] at h
 | x::xs,y::ys,z::zs,h1,h2=>by
   simp only[aQ] at h1 h2 ⊢
   by_cases e1:x=y
   ·rw[if_pos e1] at h1
    by_cases e2:y=z
    ·rw[if_pos e2] at h2
     rw[if_pos (e1.trans e2)]
     exact jO h1 h2
    ·rw[if_neg e2] at h2
     rw[if_neg (by rw[e1];exact e2),e1]
     exact h2
   ·rw[if_neg e1] at h1
    have l1:=of_decide_eq_true h1
    by_cases e2:y=z
    ·rw[if_neg (by rw[←e2];exact e1),←e2]
     exact h1
    ·rw[if_neg e2] at h2
     have l2:=of_decide_eq_true h2
     rw[if_neg (by lia)]
     exact decide_eq_true (Int.lt_trans l1 l2)
abbrev K3:=Int×Int×List Int
section
variable{s:Shared}{prog:Program}{w:World}{A:Around}{E:Value→Shared→Prop}
end
section
open SeqAt MeetsSeq MeetsSeq2 MeetsSeq3 SeqRoads2
open AutoSeq1 (wpAny_loadPart')
end
def wO(isL:Bool)(H:Hp)(c:Addr)(k:K3):Prop:=match isL with
 | false=>∃d:Int,k.2.2=[d]∧H c=some (.tup [.int k.1,.int k.2.1,.int d])
 | true=>∃g:Addr,H c=some (.tup [.int k.1,.int k.2.1,.ref g])∧H g=some (.lst (k.2.2.map V.int))
structure Trips(isL:Bool)(H:Hp)(cs:List Addr)(ks:List K3):Prop where
 len:cs.length=ks.length
 at_:∀(i:Nat) (c:Addr) (k:K3),cs[i]?=some c→ks[i]?=some k→wO isL H c k
section
variable{X:Cx}{e d:Expr}{te td:TE}{p pos kp:Pos}{k:Nat}
end
section
variable{prog:Program}{w:World}{A:Around}{E:Value→Shared→Prop}{s:Shared}
end
section
variable{X:Cx}{tg a:Expr}{ta:TA}{p p2 pos pos2:Pos}
end
section
variable{prog:Program}{w:World}{A:Around}{E:Value→Shared→Prop}{s:Shared}
end
section
variable{prog:Program}{w:World}{A:Around}{E:Value→Shared→Prop}{s:Shared}
end
structure RoomH(k:Nat)(A:Around):Prop where
 dp:A.depth+3*k+5<recursionLimit
 un:A.units+16*k+200<cLine
structure FnHOk(P:Program)(w:World)(K:PySem.W.Frag)(mg:Str→Option Value)(base:Heap)(k:Nat)(f:Addr)(fd:FuncData)(ps:List Str)(sp:Sp):Prop where
 len:∀vs H Q E,sp vs H Q E→vs.length=ps.length
 run:∀(A:Around) (outer:List Env) (s:Shared) (H:Hp) (args:Args) (us:List Value) (vs:List V) (Q:VK),RoomH k A→Env0 P w K mg base A outer s H→BindsTo s fd args (ps.zip us)→Vals vs us→sp vs H Q E0→
  codeAny (model P w) A (.call (.ref f) args) (CR ae outer P w H s Q E0) s
structure FnH(P:Program)(w:World)(K:PySem.W.Frag)(mg:Str→Option Value)(base:Heap)(x:Str)(k:Nat)(ps:List Str)(sp:Sp):Prop where
 ex:∃f fd,FnHOk P w K mg base k f fd ps sp∧mg x=some (.ref f)∧PySem.W.keepIn K (.ref f)=true∧Binds K fd ps []
section
variable{X:Cx}{e:Expr}{te:TE}{p pos:Pos}
end
section
variable{X:Cx}
end
section
variable{X:Cx}{a b c:Expr}{ta:TA}{p p2 pos pos2:Pos}
def d7(i k n:Nat):List Int:=(List.range n).map fun q=>((i+q*k:Nat):Int)
def tR(ta:TA):TE:=fun σ H Q=>ta σ H fun vs H1=>∃(i j n:Nat),vs=[.int (i:Int),.int (j:Int)]∧i≤100000∧j≤100000∧n=(j-i+1-1) / 1∧∀l,H1 l=none→Q (.ref l) (upd H1 l (.lst ((d7 i 1 n).map V.int)))
theorem zp{i j k n:Nat}(k1:1≤k)(hn:n=(j-i+k-1) / k):Builtin.Range.rangeSize (i:Int) (j:Int) (k:Int)=((n:Nat):Int):=by
 unfold Builtin.Range.rangeSize
 rw[if_pos (by lia)]
 split
 ·rename_i h
  rw[hn]
  have e:((j:Int)-(i:Int)-1) / (k:Int)+1=((j:Int)-(i:Int)-1+1*(k:Int)) / (k:Int):=by rw[Int.add_mul_ediv_right _ _ (by lia)]
  rw[e,show((j:Int)-(i:Int)-1+1*(k:Int))=((j-i+k-1:Nat):Int) by lia]
  exact(Int.natCast_ediv _ _).symm
 ·rename_i h
  have:j-i+k-1<k:=by lia
  rw[hn,Nat.div_eq_of_lt this]
  rfl
theorem qK{pins:List (Addr×Obj)}{σ:St}{H1:Hp}{s:Shared}{Q:VK}{E:Value→Shared→Prop}{i j k n:Nat}{r:Addr}{t u v:Tok}(hc:X.calm=true)(I2:Inv X pins σ H1 s)(hr:IsRange s.heap r (i:Int) (j:Int) (k:Int) t u v)(k1:1≤k)(k2:k≤100000)(i2:i≤100000)(j2:j≤100000)(hn:n=(j-i+k-1) / k)(q:∀l,H1 l=none→Q (.ref l) (upd H1 l (.lst ((d7 i k n).map V.int)))):wpAny (model X.prog X.w) X.A (call (.type "list") [.ref r]) (EP X pins σ Q) E s:=by
 have hsz:=zp k1 hn
 have hnb:n≤200000:=by rw[hn];exact Nat.le_trans (Nat.div_le_self _ _) (by lia)
 have hsm:Builtin.Range.small (i:Int) (j:Int) (k:Int)=true:=by
  unfold Builtin.Range.small
  rw[hsz,if_pos (show(k:Int)>0 by lia)]
  simp only[Builtin.Range.rangeFitsLong,Bool.and_eq_true,Bool.or_eq_true,decide_eq_true_eq,beq_iff_eq]
  lia
 refine call_list_range (I2.ok.hd hc) hr hsm hsz (Nat.le_trans hnb (by decide)) fun h' tk acc c k' hl hit=>?_
 refine⟨.ref _,_,I2.laid (t':=tk) (o:=.lst ((d7 i k n).map V.int)) k' (Nat.le_refl _) ?_,rfl,q _ (I2.hok.fresh (Nat.le_refl _))⟩
 obtain⟨hz,hat⟩:=hit
 refine⟨by unfold d7;rw[List.length_map,List.length_map,List.length_range];exact Nat.le_trans hnb (by decide),acc.toList,c,?_,by simpa using hl⟩
 refine jr (by unfold d7;rw[List.length_map,List.length_map];simp[hz]) fun y x u' hx hu=>?_
 have hu':acc[y]?=some u':=by simpa using hu
 obtain⟨tt,rfl⟩:=hat y u' hu'
 have hi:y<n:=by rw[←hz];exact(Array.getElem?_eq_some_iff.mp hu').1
 unfold d7 at hx
 rw[List.getElem?_map,List.getElem?_map,List.getElem?_range hi] at hx
 have e:V.int ((i+y*k:Nat):Int)=x:=Option.some.inj hx
 subst e
 refine⟨tt,?_⟩
 rw[Int.natCast_add,Int.natCast_mul]
theorem yt(hc:X.calm=true)(hml:X.mg "list"=none)(hmr:X.mg "range"=none)(ha:PA X [a,b] ta)(hgl:Gl X "list":=by rfl)(hgr:Gl X "range":=by rfl)
 (he:starEach [Expr.Call (.Name "range" p2) [a,b] [] pos2] X.env=[(false,eval (Expr.Call (.Name "range" p2) [a,b] [] pos2) X.env)]:=by rfl)
 (hs:starEach [a,b] X.env=(false,eval a X.env)::starEach [b] X.env:=by rfl)(hs2:(backTo pos2 (starEach [b] X.env)).any (·.1)=false:=by rfl):
 PE X (.Call (.Name "list" p) [.Call (.Name "range" p2) [a,b] [] pos2] [] pos) (tR ta):=by
 intro pins s σ H Q I h
 refine wpAny_Call_Name_kw (cW I hgl hml jx ?_)
 refine PyProof.Rows.callWith_type1 ?_ he rfl
 rw[he]
 show wpAny _ _ (spliced ((false,eval (Expr.Call (.Name "range" p2) [a,b] [] pos2) X.env)::backTo pos [])) _ _ s
 refine Calls.spliced_cons ?_
 refine Call_ (cW I hgr hmr boot_range (PyProof.Rows.callWith_type1 (ap (ha pos2 pins s σ H _ I h) fun us s1 ⟨vs,H1,I1,r1,q1⟩=>?_) hs hs2))
 obtain⟨i,j,n,e,i2,j2,en,q⟩:=q1
 subst e
 cases r1 with
 | cons r rr=>
   cases rr with
   | cons r' rr=>
     cases rr
     obtain⟨t,rfl⟩:=r
     obtain⟨t',rfl⟩:=r'
     refine call_range_2 ?_
     refine Calls.spliced_nil ?_
     have I2:Inv X pins σ H1 {s1 with heap:=s1.heap.push {cls:=.type "range",data:=.fields #[.int (i:Int) t,.int (j:Int) t',.int 1 s1.toks]},toks:=s1.toks+1}:=I1.kept fun b o e=>Heap.get?_push_of_some _ e
     exact qK (k:=1) hc I2 (IsRange.new ..) (by decide) (by decide) i2 j2 en q
end
def zm(K:PySem.W.Frag)(C:Addr)(tb:St→XK→TS)(th:TS):TS:=fun D σ H=>tb σ (fun cls _ H'=>PySem.W.exmOne K cls (.ref C)=some true∧th D σ H') D σ H
theorem yw{X:Cx}{body suite:List Stmt}{b₀:Stmt}{x:Str}{np hpos pos:Pos}{C:Addr}{tb:St→XK→TS}{th:TS}(hC:X.mg x=some (.ref C))(hb:∀pins σ0 E0,PSs (fZ X pins σ0 E0) body (tb σ0 E0))(hs:∀e xe,PSs (gM X e xe) (b₀::suite) th)(hst:X.stack=X.env::X.outer:=by rfl)(hfr:X.env.frame=some X.env.locals:=by rfl)(hg:Gl X x:=by rfl)(hd:(x == ("__debug__":Str))=false:=by decide):
 PS X (.Try body [.ExceptHandler (some (.Name x np)) none (b₀::suite) hpos] [] [] pos) (zm X.K C tb th):=by
 intro pins s σ H D I h
 refine wpAny_Try_except (wpAny_mono (hb pins σ _ [] s σ H D I.toTry h) (fun f s1 q=>?_) fun e s' q=>?_)
 ·cases f with
  | next=>
    obtain⟨σ',H',I',q⟩:=q
    exact wpAny_execs_nil ⟨σ',H',I'.ofTry,q⟩
  | brk=>obtain⟨σ',H',I',q⟩:=q;exact⟨σ',H',I'.ofTry,q⟩
  | cont=>obtain⟨σ',H',I',q⟩:=q;exact⟨σ',H',I'.ofTry,q⟩
  | ret u=>obtain⟨v,σ',H',I',r,q⟩:=q;exact⟨v,σ',H',I'.ofTry,r,q⟩
 ·obtain⟨H1,s1,I1,a,cls,a0,B,H',rfl,os,gb,un,hok,ha,hn,fl,hB,hm,hE⟩:=q
  have fl':Heap.FlyingW B (X.env::X.outer) a cls a0 s'.heap:=by rw[←hst];exact fl
  refine wpAny_looks_onW (base:=B) (by rw[I1.ok.frames,hst]) hfr fl' fun h4 held4 up4=>?_
  refine wpAny_landsW held4 fun h5 fl5 up5=>?_
  have up:=up4.trans up5
  have I5:Inv X pins σ H' {s' with heap:=h5}:=I1.caught hst hfr os gb un hok hB fl5.1 up
  refine wpAny_handleBy_cons (codeAny_handlers_test (fH (X:=gM X a fun _ _=>False) (I5.toSuf) hg hC ?_ hd)) (by intro q;cases q)
  obtain⟨oe,hoe,hoc⟩:=fl5.there
  have LT:PySem.W.Looks (model X.prog X.w) h5 (typeOf (.ref a)) cls:=by
   rw[←hoc]
   exact(PySem.W.Looks.ld hoe).andThen .now
  refine(PySem.W.exm_one (M:=model X.prog X.w) I5.kIn LT hm).here ?_
  refine codeAny_handlers_suite ?_
  refine lands_againW fl5 fun h6 fl6 up6=>?_
  have I6:Inv X pins σ H' {s' with heap:=h6}:=I1.caught hst hfr os gb un hok hB fl6.1 (up.trans up6)
  refine wpAny_mono (hs a _ pins _ _ _ D I6.toSuf hE) (fun f s9 q=>?_) (fun _ _ z=>z)
  cases f with
  | next=>obtain⟨σ',H9,I9,q⟩:=q;exact⟨_,_,I9.ofSuf I.ok.hd,q⟩
  | brk=>obtain⟨σ',H9,I9,q⟩:=q;exact⟨_,_,I9.ofSuf I.ok.hd,q⟩
  | cont=>obtain⟨σ',H9,I9,q⟩:=q;exact⟨_,_,I9.ofSuf I.ok.hd,q⟩
  | ret u=>obtain⟨v,σ',H9,I9,r,q⟩:=q;exact⟨v,_,_,I9.ofSuf I.ok.hd,r,q⟩
section
variable{prog:Program}{w:World}{A:Around}{E:Value→Shared→Prop}{s:Shared}
end
section
variable{prog:Program}{w:World}{κ:Type}[DecidableEq κ]{knd:KeyKind prog w κ}{A:Around}{E:Value→Shared→Prop}{s:Shared}
end
section
variable{X:Cx}{pins:List (Addr×Obj)}{σ:St}{H:Hp}{s:Shared}
end
section
variable{X:Cx}{e:Expr}{te:TE}{p pos:Pos}
end
section
variable{X:Cx}{e:Expr}{te:TE}{p pos:Pos}
def rK(te:TE):TE:=fun σ H Q=>te σ H fun x H1=>∃(l:Addr) (ns:List Int),x=.ref l∧H1 l=some (.lst (ns.map V.int))∧ns≠ []∧∀m,m∈ns→(∀a,a∈ns→m≤a)→Q (.int m) H1
theorem wg(hc:X.calm=true)(hm:X.mg "min"=none)(ha:PE X e te)(hg:Gl X "min":=by rfl)(he:starEach [e] X.env=[(false,eval e X.env)]:=by rfl):PE X (.Call (.Name "min" p) [e] [] pos) (rK te):=
 dk (r:=r1 fun x H Q=>∃(l:Addr) (ns:List Int),x=.ref l∧H l=some (.lst (ns.map V.int))∧ns≠ []∧∀m,m∈ns→(∀a,a∈ns→m≤a)→Q (.int m) H)
  (c7 fun pins s σ H x us Q I rv ⟨l,ns,ex,hH,hne,q⟩=>by
   subst ex
   obtain⟨u,rfl,ru⟩:=rv.one
   cases ru
   obtain⟨z,its,n,r,hl,e1⟩:=I.lstM hH
   have hi:=iu r
   have hL:s.heap.IsList l its.toArray:=⟨_,e1,rfl,n,rfl⟩
   obtain⟨xs,ex⟩:=hi.allInts.items
   have hns:ns=xs.toList.map (·.1):=by rw[←hi.numsOf,←nums_intItems,←ex]
   have hsz:0<xs.size:=by
    cases ns with
    | nil=>exact absurd rfl hne
    | cons _ _=>
      have:=congrArg List.length hns
      simp at this;lia
   rw[ex] at hL
   refine min_intList (I.ok.hd hc) hL hsz fun v h' tk hv hk=>?_
   obtain⟨t,rfl⟩:=intItems_at hv
   obtain⟨h1,h2⟩:=argBest_lt (numAt xs) (xs.size-1)
   refine⟨.int _,H,I.kept (t':=tk) hk,⟨_,rfl⟩,q _ ?_ fun a ha=>?_⟩
   ·rw[hns,numAt_eq];exact getD_mem (by rw[List.length_map,Array.length_toList];lia)
   ·rw[hns] at ha
    obtain⟨j,hj,rfl⟩:=mem_getD ha
    rw[List.length_map,Array.length_toList] at hj
    rw[←numAt_eq];exact h2 j (by lia)) hg hm oD (aa ha ac (by exact he)) (he:=by exact he)
end
section
variable{prog:Program}{w:World}{A:Around}{E:Value→Shared→Prop}{s:Shared}{a₀:Array Keyed}
theorem wK(vs:List Value):(pairsOf vs).map (·.2)=vs.toArray:=by
 apply Array.toList_inj.mp
 rw[Array.toList_map,pairsOf_toList,List.map_snd_zip (Nat.le_refl _)]
end
section
variable{prog:Program}{w:World}{κ:Type}[DecidableEq κ]{knd:KeyKind prog w κ}{A:Around}{E:Value→Shared→Prop}{s:Shared}
end
theorem n5:bootBuiltins "sorted"=some (.builtin "sorted"):=by decide+kernel
section
variable{X:Cx}{e:Expr}{te:TE}{p pos:Pos}
end
section
variable{prog:Program}{w:World}{A:Around}{E:Value→Shared→Prop}{s:Shared}
end
section
open SeqAt MeetsSeq MeetsSeq2 MeetsSeq3 SeqRoads2
open AutoSeq1 (wpAny_loadPart')
def aI(t:List Nat):List Int:=t.map fun(c:Nat)=>(c:Int)
def dX(xs:List Nat)(items:Array Value):Prop:=items.size=xs.length∧∀(j:Nat) (h:j<items.size),∃(x:Nat) (t:Tok),xs[j]?=some x∧items[j]=.str (aA x) t
theorem LtAt.signs{A:Around}{s:Shared}{c d:Nat}{t u:Tok}:LtAt A s (.str (aA c) t) (.str (aA d) u) (decide ((c:Int)<(d:Int))):=fun prog w E Q h=>by
 have e:decide ((aA c).cps.toList<(aA d).cps.toList)=decide ((c:Int)<(d:Int)):=by
  apply decide_eq_decide.mpr
  show [c] < [d]↔_
  rw[List.cons_lt_cons_iff]
  simp
 rw[←e] at h
 exact richCompare_gives (op:=.Lt) (typeIs_str s _ t) (typeIs_str s _ u) F.slot_str_lt F.entry_str_lt (F.args_str_lt_2 _ _) (gives_str_lt _ _ t u) (fun x=>nomatch x) h
theorem uY{A:Around}{s:Shared}{c d:Nat}{t u:Tok}:EqAt A s (.str (aA c) t) (.str (aA d) u) (decide ((c:Int)=(d:Int))):=by
 have:=qB (A:=A) (s:=s) (y:=sg c) (x:=sg d) (u:=.str (aA c) t) (v:=.str (aA d) u) ⟨t,rfl⟩ ⟨u,rfl⟩ rfl rfl
 have e:pD (sg c) (sg d)=decide ((c:Int)=(d:Int)):=by
  show(aA c == aA d)=_
  by_cases h:c=d
  ·subst h;simp
  ·rw[decide_eq_false (by lia)]
   refine beq_eq_false_iff_ne.mpr fun q=>h ?_
   have:=congrArg (fun z:Str=>z.cps) q
   simpa using this
 rw[e] at this
 exact this
theorem wn{l b:Addr}{items items2:Array Value}{n n2:Nat}{dd dd2:Option Addr}{sl sl2:Array (Option Value)}{xs ys:List Nat}(N1:dX xs items)(N2:dX ys items2)(k:Nat):∀i:Nat,items.size-i=k→i≤items.size→i≤items2.size→Meets (Builtin.«list.__eq__.loop» ⟨[.ref l,.ref b,rawInt i,rawInt 0],[]⟩) (fun A R s=>s.heap.get? l=some {cls:=.type "list",dict:=dd,data:=.seq items n,slots:=sl}∧s.heap.get? b=some {cls:=.type "list",dict:=dd2,data:=.seq items2 n2,slots:=sl2}∧R (.ok (.ret (.bool (aQ ((aI xs).drop i) ((aI ys).drop i))))) s):=by
 have L1:(aI xs).length=xs.length:=List.length_map ..
 have L2:(aI ys).length=ys.length:=List.length_map ..
 have gt:∀(zs:List Nat) (i x:Nat),zs[i]?=some x→(aI zs)[i]?=some (x:Int):=fun zs i x h=>by unfold aI;rw[List.getElem?_map,h];rfl
 induction k with
 | zero=>
   intro i hk hle hle2 prog w A R s h
   obtain⟨hp,g,d,tk,os⟩:=s;obtain⟨hl,hb,h⟩:=h
   wp_walk using wpAny_loadPart' hl,wpAny_loadPart' hb
   have none1:items[((i:Nat):Int).toNat]?=none:=by simp;lia
   have e1:(aI xs).drop i=[]:=List.drop_eq_nil_of_le (by rw[L1,←N1.1];lia)
   rw[e1,xT,List.length_drop,L2,←N2.1] at h
   rw[none1]
   wp_walk using wpAny_loadPart' hl,wpAny_loadPart' hb
   have e2:decide (items.size<items2.size)=decide (0<items2.size-i):=decide_eq_decide.mpr (by lia)
   show R (.ok (.ret (.bool (decide (items.size<items2.size))))) _
   rw[e2]
   exact h
 | succ k ih=>
   intro i hk hle hle2 prog w A R s h
   obtain⟨hp,g,d,tk,os⟩:=s;obtain⟨hl,hb,h⟩:=h
   have lt1:i<items.size:=by lia
   by_cases j4:i<items2.size
   ·obtain⟨x,t,hx',ex⟩:=N1.2 i lt1
    obtain⟨y,u,hy',ey⟩:=N2.2 i j4
    have hx:=gt _ _ _ hx'
    have hy:=gt _ _ _ hy'
    have dx:(aI xs).drop i=(x:Int)::(aI xs).drop (i+1):=by
     obtain⟨q1,q2⟩:=List.getElem?_eq_some_iff.mp hx
     rw[List.drop_eq_getElem_cons q1,q2]
    have dy:(aI ys).drop i=(y:Int)::(aI ys).drop (i+1):=by
     obtain⟨q1,q2⟩:=List.getElem?_eq_some_iff.mp hy
     rw[List.drop_eq_getElem_cons q1,q2]
    wp_walk using wpAny_loadPart' hl,wpAny_loadPart' hb
    have at1:items[((i:Nat):Int).toNat]?=some (.str (aA x) t):=by simp[lt1,ex]
    have at2:items2[((i:Nat):Int).toNat]?=some (.str (aA y) u):=by simp[j4,ey]
    have hc:((i:Int)+1)=((i+1:Nat):Int):=by push_cast;rfl
    rw[dx,dy] at h
    simp only[aQ] at h
    rw[at1,at2]
    refine wpAny_bind (uY prog w _ _ ?_)
    by_cases exy:(x:Int)=y
    ·rw[if_pos exy] at h
     rw[decide_eq_true exy]
     wp_walk
     rw[hc]
     exact⟨plainId_quiet plain_eq_loop _,codeAny_builtin entry_eq_loop (by
      rw[Around.under_plainId plain_eq_loop _]
      exact ih (i+1) (by lia) (by lia) (by lia) prog w A R _ ⟨hl,hb,h⟩)⟩
    ·rw[if_neg exy] at h
     rw[decide_eq_false exy]
     wp_walk using wpAny_loadPart' hl,wpAny_loadPart' hb
     rw[at1,at2]
     refine wpAny_bind (LtAt.signs prog w _ _ ?_)
     wp_walk
     exact h
   ·wp_walk using wpAny_loadPart' hl,wpAny_loadPart' hb
    obtain⟨x,t,hx,ex⟩:=N1.2 i lt1
    have at1:items[((i:Nat):Int).toNat]?=some (.str (aA x) t):=by simp[lt1,ex]
    have none2:items2[((i:Nat):Int).toNat]?=none:=by simp;lia
    have e1:(aI ys).drop i=[]:=List.drop_eq_nil_of_le (by rw[L2,←N2.1];lia)
    rw[e1,yp] at h
    rw[at1,none2]
    wp_walk using wpAny_loadPart' hl,wpAny_loadPart' hb
    have e2:decide (items.size<items2.size)=false:=decide_eq_false (by lia)
    show R (.ok (.ret (.bool (decide (items.size<items2.size))))) _
    rw[e2]
    exact h
theorem t5{l b:Addr}{items items2:Array Value}{n n2:Nat}{dd dd2:Option Addr}{sl sl2:Array (Option Value)}{xs ys:List Nat}(N1:dX xs items)(N2:dX ys items2):Meets (Builtin.«list.__lt__» ⟨[.ref l,.ref b],[]⟩) (fun A R s=>s.heap.get? l=some {cls:=.type "list",dict:=dd,data:=.seq items n,slots:=sl}∧s.heap.get? b=some {cls:=.type "list",dict:=dd2,data:=.seq items2 n2,slots:=sl2}∧R (.ok (.ret (.bool (aQ (aI xs) (aI ys))))) s):=by
 intro prog w A R s h
 obtain⟨hp,g,d,tk,os⟩:=s;obtain⟨hl,hb,h⟩:=h
 have sub:=AutoSeq1.sub_list_list
 wp_walk using wpAny_loadPart' hl,wpAny_loadPart' hb
 exact⟨plainId_quiet plain_eq_loop _,codeAny_builtin entry_eq_loop (by
  rw[Around.under_plainId plain_eq_loop _]
  exact wn N1 N2 _ 0 rfl (Nat.zero_le _) (Nat.zero_le _) prog w A R _ ⟨hl,hb,by simpa using h⟩)⟩
theorem vV{xs:List Nat}{its:List Value}(r:Vals (xs.map sg) its):dX xs its.toArray:=by
 have hl:=r.length
 rw[List.length_map] at hl
 refine⟨by rw[List.size_toArray];lia,fun j h=>?_⟩
 have hj:j<xs.length:=by rw[List.size_toArray] at h;lia
 obtain⟨u,hu,ru⟩:=r.get (show(xs.map sg)[j]?=some (sg xs[j]) by simp[hj])
 obtain⟨t,rfl⟩:=ru
 refine⟨xs[j],t,List.getElem?_eq_getElem hj,?_⟩
 have h2:=(List.getElem?_eq_some_iff.mp hu).2
 simpa using h2
end
abbrev K2:=Int×List Nat
def j4(x y:K2):Bool:=sV x.1 y.1 (aI x.2) (aI y.2)
def y8(H:Hp)(c:Addr)(k:K2):Prop:=(∀x∈k.2,x<0x110000)∧∃g:Addr,H c=some (.tup [.int k.1,.ref g])∧H g=some (.lst (k.2.map sg))
structure Pairs2(H:Hp)(cs:List Addr)(ks:List K2):Prop where
 len:cs.length=ks.length
 at_:∀(i:Nat) (c:Addr) (k:K2),cs[i]?=some c→ks[i]?=some k→y8 H c k
section
variable{X:Cx}{e d:Expr}{te td:TE}{p pos kp:Pos}{k:Nat}
end
section
variable{X:Cx}{tg a b c:Expr}{ta:TA}{p pos:Pos}
end
section
variable{X:Cx}{a:Expr}{ta:TA}{p p2 pos pos2:Pos}
end
end L2
namespace L2
open PySem PySem.Spec PyProof.Rows PySem.W
section
variable{prog:Program}{w:World}{A:Around}{E:Value→Shared→Prop}{s:Shared}
end
section
variable{X:Cx}{e:Expr}{te:TE}{p pos:Pos}
end
theorem t9:∀k:Fin 26,Builtin.Str.occurrences "abcdefghijklmnopqrstuvwxyz" ⟨#[97+k.val]⟩ 0 26 1=[k.val]:=by decide+kernel
def sA:V→List V→Hp→VK→Prop:=fun x vs H Q=>∃c:Nat,x=.str "abcdefghijklmnopqrstuvwxyz"∧vs=[sg c]∧97≤c∧c≤122∧Q (.int ((c-97:Nat):Int)) H
theorem vh{X:Cx}:js X "str.index" sA:=by
 intro pins s σ H x vs v us Q I rx rv h
 obtain⟨c,rfl,rfl,h1,h2,q⟩:=h
 obtain⟨t,rfl⟩:=rx
 obtain⟨u,rfl,ru⟩:=rv.one
 obtain⟨t',rfl⟩:=ru
 have e:=t9 ⟨c-97,by lia⟩
 rw[show 97+(⟨c-97,by lia⟩:Fin 26).val=c by show 97+(c-97)=c;lia] at e
 exact call_gives F.slot_str_index (typeIs_str s _ t) F.entry_str_index (F.args_str_index_2 _ _) (gives_str_index _ _ t t' (c-97) [] e) ⟨.int ((c-97:Nat):Int),H,I.kept (h':=s.heap) (t':=s.toks+1) (fun b o e=>e),⟨_,rfl⟩,q⟩
structure Ordr(κ:Type) where
 lt:κ→κ→Bool
 irr:∀a,lt a a=false
 tr:∀a b c,lt a b=true→lt b c=true→lt a c=true
 neg:∀a b c,lt a c=true→lt a b=true∨lt b c=true
namespace Ordr
variable{κ:Type}(O:Ordr κ)
def le(a b:κ):Prop:=O.lt b a=false
variable{O}
theorem le_refl(a:κ):O.le a a:=O.irr a
theorem le_of_lt{a b:κ}(h:O.lt a b=true):O.le a b:=by
 cases z:O.lt b a with
 | false=>exact z
 | true=>have:=O.tr _ _ _ h z;rw[O.irr] at this;cases this
theorem le_trans{a b c:κ}(h1:O.le a b)(h2:O.le b c):O.le a c:=by
 cases z:O.lt c a with
 | false=>exact z
 | true=>
   rcases O.neg _ b _ z with y | y
   ·rw[show O.lt c b=false from h2] at y;cases y
   ·rw[show O.lt b a=false from h1] at y;cases y
theorem lt_le{a b c:κ}(h1:O.lt a b=true)(h2:O.le b c):O.lt a c=true:=by
 rcases O.neg _ c _ h1 with y | y
 ·exact y
 ·rw[show O.lt c b=false from h2] at y;cases y
theorem le_not{a b:κ}(h:¬O.lt a b=true):O.le b a:=by
 cases z:O.lt a b with
 | false=>exact z
 | true=>exact absurd z h
end Ordr
section
variable{κ:Type}(O:Ordr κ)(key:Keyed→κ)
def kk(a:Array Keyed)(i:Nat):κ:=key ((a[i]?).getD (.none,.none))
theorem fK{a b:Array Keyed}{i j:Nat}(h:a[i]?=b[j]?):kk key a i=kk key b j:=by unfold kk;rw[h]
def bH(a:Array Keyed)(lo hi:Nat):Prop:=∀i j,lo≤i→i≤j→j<hi→O.le (kk key a i) (kk key a j)
def OnlyA(a b:Array Keyed)(lo hi:Nat):Prop:=∀i,i<lo∨hi≤i→b[i]?=a[i]?
structure Bas(a₀:Array Keyed)(kd:SortKind)(st:SortSt):Prop where
 perm:(arrOf st).Perm a₀
 kind:kindOf st=kd
 failed:failedOf st=none
theorem OnlyA.refl(a:Array Keyed)(lo hi:Nat):OnlyA a a lo hi:=fun _ _=>rfl
theorem OnlyA.trans{a b c:Array Keyed}{lo hi:Nat}(h:OnlyA a b lo hi)(g:OnlyA b c lo hi):OnlyA a c lo hi:=fun i hi=>(g i hi).trans (h i hi)
theorem mV{O:Ordr κ}{key:Keyed→κ}{a:Array Keyed}{lo hi:Nat}(h:∀i,lo≤i→i+1<hi→O.le (kk key a i) (kk key a (i+1))):bH O key a lo hi:=by
 intro i j h1 h2 h3
 induction j with
 | zero => have:i=0:=by lia
           subst this;exact Ordr.le_refl _
 | succ j ih=>
   by_cases e:i=j+1
   ·subst e;exact Ordr.le_refl _
   ·exact Ordr.le_trans (ih (by lia) (by lia)) (h j (by lia) (by lia))
variable{prog:Program}{w:World}{A:Around}{E:Value→Shared→Prop}{s:Shared}{a₀:Array Keyed}{kd:SortKind}
def fh(prog:Program)(w:World)(A:Around)(E:Value→Shared→Prop)(s:Shared)(a₀:Array Keyed)(kd:SortKind):Prop:=∀x y,x∈a₀→y∈a₀→∀(st:SortSt) (Q:Option Bool→SortSt→Prop),kindOf st=kd→Q (some (O.lt (key x) (key y))) st→wpS (model prog w) A E s (lt' x y) Q st
variable{O key}
theorem Bas.size{st:SortSt}(h:Bas a₀ kd st):(arrOf st).size=a₀.size:=h.perm.size_eq
theorem Bas.at{st:SortSt}(h:Bas a₀ kd st){i:Nat}(hi:i<a₀.size):∃x,(arrOf st)[i]?=some x∧x∈a₀:=by
 have hl:i<(arrOf st).size:=by rw[h.size];exact hi
 refine⟨(arrOf st)[i],by simp[hl],?_⟩
 exact h.perm.mem_iff.mp (Array.getElem_mem hl)
theorem Bas.set{st:SortSt}(h:Bas a₀ kd st){xs:Array Keyed}(hp:xs.Perm (arrOf st)):Bas a₀ kd (setArr st xs):=⟨hp.trans h.perm,h.kind,h.failed⟩
theorem fP(C:fh O key prog w A E s a₀ kd){st:SortSt}{i j:Nat}{Q:Option Bool→SortSt→Prop}(hB:Bas a₀ kd st)(hi:i<a₀.size)(hj:j<a₀.size)(h:Q (some (O.lt (kk key (arrOf st) i) (kk key (arrOf st) j))) st):wpS (model prog w) A E s (ltAt' i j) Q st:=by
 obtain⟨x,e1,m1⟩:=hB.at hi
 obtain⟨y,e2,m2⟩:=hB.at hj
 rw[ltAt'_eq]
 refine wpS_bind (wpS_get ?_)
 show wpS _ _ _ _ (do let x←elem' (arrOf st) i;let y←elem' (arrOf st) j;lt' x y) Q st
 rw[elem'_eq,elem'_eq,e1,e2]
 refine wpS_bind (wpS_pure (wpS_bind (wpS_pure (C x y m1 m2 st Q hB.kind ?_))))
 unfold kk at h
 rw[e1,e2] at h
 exact h
theorem uB(C:fh O key prog w A E s a₀ kd){st:SortSt}{lo n ok:Nat}{Q:Bool→SortSt→Prop}(hB:Bas a₀ kd st)(hn:lo+n≤a₀.size)(hok:ok≤n)(hs:bH O key (arrOf st) lo (lo+ok))(h:∀st',Bas a₀ kd st'→pendingOf st'=pendingOf st→OnlyA (arrOf st) (arrOf st') lo (lo+n)→bH O key (arrOf st') lo (lo+n)→Q true st'):wpS (model prog w) A E s (binarySort' lo n ok) Q st:=by
 rw[binarySort'_eq]
 refine wpS_bind (wpS_mono (wpS_forRange (I:=fun k c st'=>c=(none,())∧Bas a₀ kd st'∧pendingOf st'=pendingOf st∧OnlyA (arrOf st) (arrOf st') lo (lo+n)∧bH O key (arrOf st') lo (lo+k)) (Q:=fun c st'=>c=(none,())∧Bas a₀ kd st'∧pendingOf st'=pendingOf st∧OnlyA (arrOf st) (arrOf st') lo (lo+n)∧bH O key (arrOf st') lo (lo+max (max ok 1) n)) ?one ?last ?init) ?behind)
 case init=>
  refine⟨rfl,hB,rfl,OnlyA.refl _ _ _,fun i j h1 h2 h3=>?_⟩
  by_cases e:ok=0
  ·have:i=j:=by lia
   subst this;exact Ordr.le_refl _
  ·exact hs i j h1 h2 (by lia)
 case last=>exact fun c st' z=>z
 case behind=>
  rintro c st' ⟨rfl,hB',hp,ho,hr⟩
  refine wpS_pure (h st' hB' hp ho fun i j h1 h2 h3=>hr i j h1 h2 (by lia))
 case one=>
  rintro k c st' hk1 hk2 ⟨rfl,hB',hp,ho,hr⟩
  dsimp only
  refine wpS_bind (wpS_mono (wpS_forRange (I:=fun x c z=>z=st'∧∃l r,c=(none,l,r)∧l≤r∧r≤k∧(r-l)+x≤k∧(∀i,i<l→O.le (kk key (arrOf st') (lo+i)) (kk key (arrOf st') (lo+k)))∧(∀i,r≤i→i<k→O.lt (kk key (arrOf st') (lo+k)) (kk key (arrOf st') (lo+i))=true)) (Q:=fun c z=>z=st'∧∃l,c=(none,l,l)∧l≤k∧(∀i,i<l→O.le (kk key (arrOf st') (lo+i)) (kk key (arrOf st') (lo+k)))∧(∀i,l≤i→i<k→O.lt (kk key (arrOf st') (lo+k)) (kk key (arrOf st') (lo+i))=true)) ?in1 ?in2 ?in3) ?in4)
  case in3=>exact⟨rfl,0,k,rfl,by lia,by lia,by lia,fun i hi=>by lia,fun i h1 h2=>by lia⟩
  case in2=>
   rintro c z ⟨rfl,l,r,rfl,h1,h2,h3,h4,h5⟩
   have:l=r:=by lia
   subst this
   exact⟨rfl,l,rfl,h2,h4,h5⟩
  case in1=>
   rintro x c z _ hx ⟨rfl,l,r,rfl,h1,h2,h3,h4,h5⟩
   dsimp only
   by_cases hlr:l≥r
   ·rw[if_pos hlr]
    have:l=r:=by lia
    subst this
    exact wpS_pure ⟨rfl,l,rfl,h2,h4,h5⟩
   ·rw[if_neg hlr]
    refine wpS_bind (fP C hB' (by lia) (by lia) ?_)
    dsimp only
    have hm1:l≤(l+r) / 2:=by lia
    have hm2:(l+r) / 2<r:=by lia
    by_cases hc:O.lt (kk key (arrOf z) (lo+k)) (kk key (arrOf z) (lo+(l+r) / 2))=true
    ·rw[if_pos hc]
     refine wpS_pure ⟨rfl,l,(l+r) / 2,rfl,by lia,by lia,by lia,h4,fun i h6 h7=>?_⟩
     exact Ordr.lt_le hc (hr _ _ (by lia) (by lia) (by lia))
    ·rw[if_neg hc]
     refine wpS_pure ⟨rfl,(l+r) / 2+1,r,rfl,by lia,by lia,by lia,fun i h6=>?_,h5⟩
     exact Ordr.le_trans (hr _ _ (by lia) (by lia) (by lia)) (Ordr.le_not hc)
  case in4=>
   rintro c z ⟨rfl,l,rfl,h2,h4,h5⟩
   dsimp only
   rw[moveDown'_eq]
   refine wpS_bind (wpS_modify (wpS_pure ⟨rfl,hB'.set (bubble_perm _ _ _),hp,?_,?_⟩))
   ·intro i hi
    show(bubble (arrOf z) (lo+k) (lo+k-(lo+l)))[i]?=_
    rw[getElem?_bubble (by rw[hB'.size];lia) _ (by lia),if_neg (by lia),if_neg (by lia)]
    exact ho i hi
   ·have g:∀i,kk key (bubble (arrOf z) (lo+k) (lo+k-(lo+l))) i=if i=lo+l then kk key (arrOf z) (lo+k) else if lo+l<i∧i≤lo+k then kk key (arrOf z) (i-1) else kk key (arrOf z) i:=fun i=>by
     have:=getElem?_bubble (xs:=arrOf z) (src:=lo+k) (by rw[hB'.size];lia) (lo+k-(lo+l)) (by lia) i
     rw[show lo+k-(lo+k-(lo+l))=lo+l by lia] at this
     by_cases c1:i=lo+l
     ·rw[if_pos c1] at this ⊢;exact fK key this
     ·rw[if_neg c1] at this ⊢
      by_cases c2:lo+l<i∧i≤lo+k
      ·rw[if_pos c2] at this ⊢;exact fK key this
      ·rw[if_neg c2] at this ⊢;exact fK key this
    refine mV fun i h6 h7=>?_
    show O.le (kk key (bubble (arrOf z) (lo+k) (lo+k-(lo+l))) i) (kk key (bubble (arrOf z) (lo+k) (lo+k-(lo+l))) (i+1))
    rw[g,g]
    by_cases c1:i=lo+l
    ·rw[if_pos c1,if_neg (by lia),if_pos (by lia)]
     refine Ordr.le_of_lt ?_
     have:=h5 (i-lo) (by lia) (by lia)
     rw[show lo+(i-lo)=i+1-1 by lia] at this
     exact this
    ·rw[if_neg c1]
     by_cases c2:i+1=lo+l
     ·rw[if_neg (by lia),if_pos c2]
      have:=h4 (i-lo) (by lia)
      rw[show lo+(i-lo)=i by lia] at this
      exact this
     ·rw[if_neg c2]
      by_cases c3:lo+l<i∧i≤lo+k
      ·rw[if_pos c3,if_pos (by lia)]
       exact hr _ _ (by lia) (by lia) (by lia)
      ·rw[if_neg c3,if_neg (by lia)]
       exact hr _ _ (by lia) (by lia) (by lia)
end
section
variable{κ:Type}{O:Ordr κ}{key:Keyed→κ}{prog:Program}{w:World}{A:Around}{E:Value→Shared→Prop}{s:Shared}{a₀:Array Keyed}{kd:SortKind}
def gG(O:Ordr κ)(key:Keyed→κ)(a:Array Keyed)(lo hi:Nat):Prop:=∀i j,lo≤i→i≤j→j<hi→O.le (kk key a j) (kk key a i)
def iB(O:Ordr κ)(key:Keyed→κ)(a:Array Keyed)(lo hi:Nat):Prop:=∀i j,lo≤i→i<hi→lo≤j→j<hi→O.le (kk key a i) (kk key a j)
theorem df{a:Array Keyed}{p q:Nat}(hq:q≤a.size)(i:Nat):kk key (mirror a p q ((q-p) / 2)) i=if p≤i∧i<q then kk key a (p+q-1-i) else kk key a i:=by
 have e:=getElem?_mirror_all (xs:=a) (i:=p) hq i
 by_cases c:p≤i∧i<q
 ·rw[if_pos c] at e ⊢;exact fK key e
 ·rw[if_neg c] at e ⊢;exact fK key e
theorem fE{a:Array Keyed}{p q lo hi:Nat}(hq:q≤a.size)(h1:lo≤p)(h2:q≤hi):OnlyA a (mirror a p q ((q-p) / 2)) lo hi:=fun i z=>by
 rw[getElem?_mirror_all hq,if_neg (by lia)]
theorem wx{a:Array Keyed}{lo hi p q:Nat}(h:gG O key a lo hi)(hq:q≤a.size)(h1:lo≤p)(h2:q≤hi)(ev:iB O key a p q):gG O key (mirror a p q ((q-p) / 2)) lo hi:=fun i j z1 z2 z3=>by
 rw[df hq,df hq]
 by_cases ci:p≤i∧i<q <;> by_cases cj:p≤j∧j<q
 ·rw[if_pos ci,if_pos cj];exact ev _ _ (by lia) (by lia) (by lia) (by lia)
 ·rw[if_pos ci,if_neg cj];exact h _ _ (by lia) (by lia) (by lia)
 ·rw[if_neg ci,if_pos cj];exact h _ _ (by lia) (by lia) (by lia)
 ·rw[if_neg ci,if_neg cj];exact h _ _ z1 z2 z3
theorem gm{a:Array Keyed}{lo hi:Nat}(h:gG O key a lo hi)(hq:hi≤a.size):bH O key (mirror a lo hi ((hi-lo) / 2)) lo hi:=fun i j z1 z2 z3=>by
 rw[df hq,df hq,if_pos (by lia),if_pos (by lia)]
 exact h _ _ (by lia) (by lia) (by lia)
structure Down(O:Ordr κ)(key:Keyed→κ)(a₀:Array Keyed)(kd:SortKind)(st z:SortSt)(lo nrem n q:Nat):Prop where
 bas:Bas a₀ kd z
 pend:pendingOf z=pendingOf st
 only:OnlyA (arrOf st) (arrOf z) lo (lo+nrem)
 q1:q<n
 fall:gG O key (arrOf z) lo (lo+n)
 even:iB O key (arrOf z) (lo+n-(q+1)) (lo+n)
theorem Down.turn{st z:SortSt}{lo nrem n q:Nat}(h:Down O key a₀ kd st z lo nrem n q)(hn:n≤nrem)(hs:lo+nrem≤a₀.size):Down O key a₀ kd st (setArr z (mirror (arrOf z) (lo+n-(q+1)) (lo+n) ((lo+n-(lo+n-(q+1))) / 2))) lo nrem n 0:=by
 have q1:=h.q1
 have hz:lo+n≤(arrOf z).size:=by rw[h.bas.size];lia
 refine⟨h.bas.set (mirror_perm _ _ _ _),h.pend,h.only.trans (fE hz (by lia) (by lia)),by lia,wx h.fall hz (by lia) (Nat.le_refl _) h.even,fun i j h1 h2 h3 h4=>?_⟩
 have:i=j:=by lia
 subst this;exact Ordr.le_refl _
theorem qW(C:fh O key prog w A E s a₀ kd){st:SortSt}{lo nrem:Nat}{Q:Option Nat→SortSt→Prop}(hB:Bas a₀ kd st)(hn:lo+nrem≤a₀.size)(h1:1≤nrem)(h:∀st' n,Bas a₀ kd st'→pendingOf st'=pendingOf st→OnlyA (arrOf st) (arrOf st') lo (lo+nrem)→1≤n→n≤nrem→bH O key (arrOf st') lo (lo+n)→Q (some n) st'):wpS (model prog w) A E s (countRun' lo nrem) Q st:=by
 rw[countRun'_eq]
 have up:∀(z:SortSt) (m:Nat),Bas a₀ kd z→1≤m→m≤nrem→bH O key (arrOf z) lo (lo+m)→∀(Q':Option (Option Nat)×Nat→SortSt→Prop),(∀n,m≤n→n≤nrem→bH O key (arrOf z) lo (lo+n)→(n<nrem→O.lt (kk key (arrOf z) (lo+n)) (kk key (arrOf z) (lo+n-1))=true)→Q' (none,n) z)→
  wpS (model prog w) A E s (forIn [m:nrem] ((none,m):Option (Option Nat)×Nat) fun _ r=>do
   let x←ltAt' (lo+r.2) (lo+r.2-1)
   match x with
   | some smaller=>if smaller=true then pure (ForInStep.done (none,r.2)) else pure (ForInStep.yield (none,r.2+1))
   | _=>pure (ForInStep.done (some none,r.2))) Q' z:=by
  intro z m hBz m1 m2 hr Q' hQ
  refine wpS_forRange (I:=fun x c z'=>z'=z∧c=(none,x)∧m≤x∧x≤nrem∧bH O key (arrOf z) lo (lo+x)) ?_ ?_ ⟨rfl,rfl,Nat.le_refl _,m2,hr⟩
  ·rintro x c z' hx1 hx2 ⟨rfl,rfl,g1,g2,g3⟩
   dsimp only
   refine wpS_bind (fP C hBz (by lia) (by lia) ?_)
   dsimp only
   by_cases hc:O.lt (kk key (arrOf z') (lo+x)) (kk key (arrOf z') (lo+x-1))=true
   ·rw[if_pos hc]
    exact wpS_pure (hQ x g1 g2 g3 fun _=>hc)
   ·rw[if_neg hc]
    refine wpS_pure ⟨rfl,rfl,by lia,by lia,mV fun i z1 z2=>?_⟩
    by_cases e:i+1=lo+x
    ·rw[e,show i=lo+x-1 by lia]
     exact Ordr.le_not hc
    ·exact g3 _ _ z1 (by lia) (by lia)
  ·rintro c z' ⟨rfl,rfl,g1,g2,g3⟩
   rw[Nat.max_eq_right m2] at g1 g2 g3 ⊢
   exact hQ nrem g1 g2 g3 fun z=>absurd z (Nat.lt_irrefl _)
 have hsz:lo+nrem≤(arrOf st).size:=by rw[hB.size];exact hn
 have r1:bH O key (arrOf st) lo (lo+1):=fun i j z1 z2 z3=>by
  have:i=j:=by lia
  subst this;exact Ordr.le_refl _
 have down:∀(z:SortSt) (m:Nat),Down O key a₀ kd st z lo nrem m 0→m≤nrem→∀(Q':Option (Option Nat)×Nat×Nat→SortSt→Prop),(∀z' n q,Down O key a₀ kd st z' lo nrem n q→n≤nrem→Q' (none,n,q) z')→
  wpS (model prog w) A E s (forIn [m:nrem] ((none,m,0):Option (Option Nat)×Nat×Nat) fun _ r=>do
   let x←ltAt' (lo+r.2.1) (lo+r.2.1-1)
   match x with
   | some smaller=>
     if smaller=true then
      if r.2.2>0 then do
       reverseSlice' (lo+r.2.1-(r.2.2+1)) (lo+r.2.1)
       pure (ForInStep.yield (none,r.2.1+1,0))
      else pure (ForInStep.yield (none,r.2.1+1,0))
     else do
      let x←ltAt' (lo+r.2.1-1) (lo+r.2.1)
      match x with
      | some larger=>if larger=true then pure (ForInStep.done (none,r.2.1,r.2.2)) else pure (ForInStep.yield (none,r.2.1+1,r.2.2+1))
      | _=>pure (ForInStep.done (some none,r.2.1,r.2.2))
   | _=>pure (ForInStep.done (some none,r.2.1,r.2.2))) Q' z:=by
  intro z m hD m2 Q' hQ
  refine wpS_forRange (I:=fun x c z'=>∃q,c=(none,x,q)∧x≤nrem∧Down O key a₀ kd st z' lo nrem x q) ?_ ?_ ⟨0,rfl,m2,hD⟩
  ·rintro x c z' hx1 hx2 ⟨q,rfl,g2,g3⟩
   dsimp only
   have q1:=g3.q1
   refine wpS_bind (fP C g3.bas (by lia) (by lia) ?_)
   dsimp only
   by_cases hc:O.lt (kk key (arrOf z') (lo+x)) (kk key (arrOf z') (lo+x-1))=true
   ·rw[if_pos hc]
    have more:∀z'':SortSt,Down O key a₀ kd st z'' lo nrem x 0→O.lt (kk key (arrOf z'') (lo+x)) (kk key (arrOf z'') (lo+x-1))=true→Down O key a₀ kd st z'' lo nrem (x+1) 0:=fun z'' D hlt=>by
     refine⟨D.bas,D.pend,D.only,by lia,fun i j z1 z2 z3=>?_,fun i j z1 z2 z3 z4=>?_⟩
     ·by_cases ej:j=lo+x
      ·subst ej
       by_cases ei:i=lo+x
       ·subst ei;exact Ordr.le_refl _
       ·exact Ordr.le_trans (Ordr.le_of_lt hlt) (D.fall _ _ z1 (by lia) (by lia))
      ·exact D.fall _ _ z1 z2 (by lia)
     ·have:i=j:=by lia
      subst this;exact Ordr.le_refl _
    by_cases hq:q>0
    ·rw[if_pos hq,reverseSlice'_eq]
     refine wpS_bind (wpS_modify (wpS_pure ⟨0,rfl,by lia,more _ (g3.turn g2 hn) ?_⟩))
     have hz:lo+x≤(arrOf z').size:=by rw[g3.bas.size];lia
     show O.lt (kk key (mirror (arrOf z') _ _ _) _) (kk key (mirror (arrOf z') _ _ _) _)=true
     rw[df hz,df hz,if_neg (by lia),if_pos (by lia)]
     exact Ordr.lt_le hc (g3.even _ _ (by lia) (by lia) (by lia) (by lia))
    ·rw[if_neg hq]
     have:q=0:=by lia
     subst this
     exact wpS_pure ⟨0,rfl,by lia,more _ g3 hc⟩
   ·rw[if_neg hc]
    refine wpS_bind (fP C g3.bas (by lia) (by lia) ?_)
    dsimp only
    by_cases hl:O.lt (kk key (arrOf z') (lo+x-1)) (kk key (arrOf z') (lo+x))=true
    ·rw[if_pos hl]
     exact wpS_pure (hQ _ _ _ g3 g2)
    ·rw[if_neg hl]
     have le1:=Ordr.le_not hc
     have le2:=Ordr.le_not hl
     refine wpS_pure ⟨q+1,rfl,by lia,g3.bas,g3.pend,g3.only,by lia,fun i j z1 z2 z3=>?_,fun i j z1 z2 z3 z4=>?_⟩
     ·by_cases ej:j=lo+x
      ·subst ej
       by_cases ei:i=lo+x
       ·subst ei;exact Ordr.le_refl _
       ·exact Ordr.le_trans le2 (g3.fall _ _ z1 (by lia) (by lia))
      ·exact g3.fall _ _ z1 z2 (by lia)
     ·by_cases ei:i=lo+x <;> by_cases ej:j=lo+x
      ·subst ei ej;exact Ordr.le_refl _
      ·subst ei;exact Ordr.le_trans le2 (g3.even _ _ (by lia) (by lia) (by lia) (by lia))
      ·subst ej;exact Ordr.le_trans (g3.even _ _ (by lia) (by lia) (by lia) (by lia)) le1
      ·exact g3.even _ _ (by lia) (by lia) (by lia) (by lia)
  ·rintro c z' ⟨q,rfl,g2,g3⟩
   rw[Nat.max_eq_right m2] at g2 g3 ⊢
   exact hQ _ _ _ g3 g2
 refine wpS_bind (up st 1 hB (Nat.le_refl _) h1 r1 _ fun n n1 n2 hr hlt=>?_)
 dsimp only
 by_cases en:n=nrem
 ·rw[if_pos (by rw[en];exact beq_self_eq_true _)]
  exact wpS_pure (h st n hB rfl (OnlyA.refl _ _ _) n1 n2 hr)
 ·rw[if_neg (by simpa using en)]
  have hl:=hlt (by lia)
  have dn:∀z:SortSt,Bas a₀ kd z→pendingOf z=pendingOf st→OnlyA (arrOf st) (arrOf z) lo (lo+nrem)→iB O key (arrOf z) lo (lo+n)→O.lt (kk key (arrOf z) (lo+n)) (kk key (arrOf z) (lo+n-1))=true→Down O key a₀ kd st z lo nrem (n+1) 0:=fun z b1 b2 b3 ev hz=>by
   refine⟨b1,b2,b3,by lia,fun i j z1 z2 z3=>?_,fun i j z1 z2 z3 z4=>?_⟩
   ·by_cases ej:j=lo+n
    ·subst ej
     by_cases ei:i=lo+n
     ·subst ei;exact Ordr.le_refl _
     ·exact Ordr.le_trans (Ordr.le_of_lt hz) (ev _ _ (by lia) (by lia) (by lia) (by lia))
    ·exact ev _ _ (by lia) (by lia) (by lia) (by lia)
   ·have:i=j:=by lia
    subst this;exact Ordr.le_refl _
  by_cases hn1:n>1
  ·rw[if_pos hn1]
   refine wpS_bind (fP C hB (by lia) (by lia) ?_)
   dsimp only
   by_cases hc:O.lt (kk key (arrOf st) lo) (kk key (arrOf st) (lo+n-1))=true
   ·rw[if_pos hc]
    exact wpS_pure (h st n hB rfl (OnlyA.refl _ _ _) n1 n2 hr)
   ·rw[if_neg hc,reverseSlice'_eq]
    have hz:lo+n≤(arrOf st).size:=by lia
    have le1:=Ordr.le_not hc
    have ev:iB O key (arrOf st) lo (lo+n):=fun i j z1 z2 z3 z4=>Ordr.le_trans (hr i (lo+n-1) z1 (by lia) (by lia)) (Ordr.le_trans le1 (hr lo j (by lia) z3 (by lia)))
    refine wpS_bind (wpS_modify ?_)
    have D0:=dn (setArr st (mirror (arrOf st) lo (lo+n) ((lo+n-lo) / 2))) (hB.set (mirror_perm _ _ _ _)) rfl (fE hz (Nat.le_refl _) (by lia)) (fun i j z1 z2 z3 z4=>by
     show O.le (kk key (mirror (arrOf st) _ _ _) _) (kk key (mirror (arrOf st) _ _ _) _)
     rw[df hz,df hz,if_pos (by lia),if_pos (by lia)]
     exact ev _ _ (by lia) (by lia) (by lia) (by lia)) (by
     show O.lt (kk key (mirror (arrOf st) _ _ _) _) (kk key (mirror (arrOf st) _ _ _) _)=true
     rw[df hz,df hz,if_neg (by lia),if_pos (by lia)]
     exact Ordr.lt_le hl (ev _ _ (by lia) (by lia) (by lia) (by lia)))
    refine wpS_bind (wpS_lift (wpAny_rule ⟨rfl,?_⟩))
    refine wpS_bind (down _ (n+1) D0 (by lia) _ fun z' m q D1 hm=>?_)
    dsimp only
    by_cases hq:q>0
    ·rw[if_pos hq]
     refine wpS_bind ?_
     rw[reverseSlice'_eq]
     refine wpS_modify ?_
     have D2:=D1.turn hm hn
     rw[reverseSlice'_eq]
     refine wpS_bind (wpS_modify ?_)
     exact wpS_bind (up _ m (D2.bas.set (mirror_perm _ _ _ _)) (by have:=D2.q1;lia) hm (gm D2.fall (by rw[D2.bas.size];lia)) _ fun n' g1 g2 g3 _=>wpS_pure (h _ n' (D2.bas.set (mirror_perm _ _ _ _)) D2.pend (D2.only.trans (fE (by rw[D2.bas.size];lia) (Nat.le_refl _) (by lia))) (by have:=D2.q1;lia) g2 g3))
    ·rw[if_neg hq]
     have e0:q=0:=by lia
     subst e0
     rw[reverseSlice'_eq]
     refine wpS_bind (wpS_modify ?_)
     exact wpS_bind (up _ m (D1.bas.set (mirror_perm _ _ _ _)) (by have:=D1.q1;lia) hm (gm D1.fall (by rw[D1.bas.size];lia)) _ fun n' g1 g2 g3 _=>wpS_pure (h _ n' (D1.bas.set (mirror_perm _ _ _ _)) D1.pend (D1.only.trans (fE (by rw[D1.bas.size];lia) (Nat.le_refl _) (by lia))) (by have:=D1.q1;lia) g2 g3))
  ·rw[if_neg hn1]
   have:n=1:=by lia
   subst this
   have D0:=dn st hB rfl (OnlyA.refl _ _ _) (fun i j z1 z2 z3 z4=>by
    have e0:i=j:=by lia
    subst e0;exact Ordr.le_refl _) hl
   refine wpS_bind (wpS_lift (wpAny_rule ⟨rfl,?_⟩))
   refine wpS_bind (down _ (1+1) D0 (by lia) _ fun z' m q D1 hm=>?_)
   dsimp only
   by_cases hq:q>0
   ·rw[if_pos hq]
    refine wpS_bind ?_
    rw[reverseSlice'_eq]
    refine wpS_modify ?_
    have D2:=D1.turn hm hn
    rw[reverseSlice'_eq]
    refine wpS_bind (wpS_modify ?_)
    exact wpS_bind (up _ m (D2.bas.set (mirror_perm _ _ _ _)) (by have:=D2.q1;lia) hm (gm D2.fall (by rw[D2.bas.size];lia)) _ fun n' g1 g2 g3 _=>wpS_pure (h _ n' (D2.bas.set (mirror_perm _ _ _ _)) D2.pend (D2.only.trans (fE (by rw[D2.bas.size];lia) (Nat.le_refl _) (by lia))) (by have:=D2.q1;lia) g2 g3))
   ·rw[if_neg hq]
    have e0:q=0:=by lia
    subst e0
    rw[reverseSlice'_eq]
    refine wpS_bind (wpS_modify ?_)
    exact wpS_bind (up _ m (D1.bas.set (mirror_perm _ _ _ _)) (by have:=D1.q1;lia) hm (gm D1.fall (by rw[D1.bas.size];lia)) _ fun n' g1 g2 g3 _=>wpS_pure (h _ n' (D1.bas.set (mirror_perm _ _ _ _)) D1.pend (D1.only.trans (fE (by rw[D1.bas.size];lia) (Nat.le_refl _) (by lia))) (by have:=D1.q1;lia) g2 g3))
end
def wX:Ordr Int:=⟨fun a b=>decide (a<b),fun a=>decide_eq_false (Int.lt_irrefl a),fun a b c h1 h2=>decide_eq_true (Int.lt_trans (of_decide_eq_true h1) (of_decide_eq_true h2)),fun a b c h=>by
 have:=of_decide_eq_true h
 by_cases z:a<b
 ·exact .inl (decide_eq_true z)
 ·exact .inr (decide_eq_true (by lia))⟩
section
variable{κ:Type}{O:Ordr κ}{key:Keyed→κ}{prog:Program}{w:World}{A:Around}{E:Value→Shared→Prop}{s:Shared}{a₀:Array Keyed}{kd:SortKind}
theorem lF{xs:Array Keyed}{i:Nat}{x:Keyed}(e:xs[i]?=some x):kk key xs i=key x:=by unfold kk;rw[e];rfl
theorem pW{xs:Array Keyed}{i:Nat}(h:i<xs.size):xs[i]?=some xs[i]:=by simp[h]
theorem nc(C:fh O key prog w A E s a₀ kd){st:SortSt}{Q:Unit→SortSt→Prop}(hB:Bas a₀ kd st)(hp:pendingOf st=#[])(h1:1≤a₀.size)(h64:a₀.size<64)(h:∀z,Bas a₀ kd z→bH O key (arrOf z) 0 a₀.size→Q () z):wpS (model prog w) A E s sortRuns' Q st:=by
 rw[sortRuns'_eq]
 refine wpS_bind (wpS_get ?_)
 dsimp only
 simp only[hB.size]
 have hmr:minRun' a₀.size a₀.size 0=a₀.size:=by
  obtain⟨m,e⟩:∃m,a₀.size=m+1:=⟨a₀.size-1,by lia⟩
  rw[e,minRun'_succ,if_pos (by lia)]
 rw[hmr]
 refine wpS_bind (wpS_mono (wpS_forRange (I:=fun x c z=>∃lo,c=(none,lo)∧Bas a₀ kd z∧((lo=0∧pendingOf z=#[])∨(lo=a₀.size∧(pendingOf z).size≤1∧bH O key (arrOf z) 0 a₀.size))∧x≤lo) (Q:=fun c z=>c=(none,a₀.size)∧Bas a₀ kd z∧(pendingOf z).size≤1∧bH O key (arrOf z) 0 a₀.size) ?one ?last ⟨0,rfl,hB,.inl ⟨rfl,hp⟩,Nat.le_refl _⟩) ?behind)
 case last=>
  rintro c z ⟨lo,rfl,B,⟨e,_⟩ | ⟨e,p,r⟩,l2⟩
  ·lia
  ·subst e;exact⟨rfl,B,p,r⟩
 case one=>
  rintro x c z _ hx ⟨lo,rfl,B,hlo,l2⟩
  dsimp only
  rcases hlo with⟨rfl,pz⟩ | ⟨rfl,p,r⟩
  ·rw[if_neg (by lia)]
   refine wpS_bind (qW C B (by lia) (by lia) fun z1 n B1 P1 On1 n1 n2 R1=>?_)
   dsimp only
   by_cases hn:n<a₀.size
   ·rw[if_pos hn]
    refine wpS_bind (wpS_lift (wpAny_rule ⟨rfl,?_⟩))
    refine wpS_bind (uB C B1 (by lia) (by lia) R1 fun z2 B2 P2 On2 R2=>?_)
    rw[if_neg (by simp)]
    refine wpS_bind (wpS_get ?_)
    have e0:(pendingOf z2).back?=none:=by rw[P2,P1,pz];rfl
    rw[e0]
    dsimp only
    have e:min (a₀.size-0) a₀.size=a₀.size:=by lia
    rw[e] at R2 ⊢
    rw[Nat.zero_add] at R2 ⊢
    refine wpS_bind (wpS_modify (wpS_pure ⟨a₀.size,rfl,⟨B2.perm,B2.kind,B2.failed⟩,.inr ⟨rfl,?_,R2⟩,by lia⟩))
    show((pendingOf z2).push _).size≤1
    rw[P2,P1,pz];simp
   ·rw[if_neg hn]
    refine wpS_bind (wpS_get ?_)
    have e0:(pendingOf z1).back?=none:=by rw[P1,pz];rfl
    rw[e0]
    dsimp only
    have e:n=a₀.size:=by lia
    rw[e] at R1 ⊢
    rw[Nat.zero_add] at R1 ⊢
    refine wpS_bind (wpS_modify (wpS_pure ⟨a₀.size,rfl,⟨B1.perm,B1.kind,B1.failed⟩,.inr ⟨rfl,?_,R1⟩,by lia⟩))
    show((pendingOf z1).push _).size≤1
    rw[P1,pz];simp
  ·rw[if_pos (Nat.le_refl _)]
   exact wpS_pure ⟨rfl,B,p,r⟩
 case behind=>
  rintro c z ⟨rfl,B,p,r⟩
  dsimp only
  refine wpS_bind (wpS_mono (wpS_forRange (I:=fun x c z=>c=(none,())∧Bas a₀ kd z∧(pendingOf z).size≤1∧bH O key (arrOf z) 0 a₀.size) (Q:=fun c z=>c=(none,())∧Bas a₀ kd z∧bH O key (arrOf z) 0 a₀.size) ?go ?stop ⟨rfl,B,p,r⟩) ?fin)
  case stop=>
   rintro c z ⟨rfl,B,p,r⟩
   exact⟨rfl,B,r⟩
  case go=>
   rintro x c z _ hx ⟨rfl,B,p,r⟩
   refine wpS_bind (wpS_get ?_)
   rw[if_pos p]
   exact wpS_pure ⟨rfl,B,r⟩
  case fin=>
   rintro c z ⟨rfl,B,r⟩
   exact wpS_pure (h z B r)
end
section
variable{prog:Program}{w:World}{A:Around}{R:Result→Shared→Prop}{I S ax:Addr}{items:Array Value}{L:Nat→List Value}
end
section
variable{X:Cx}{e e2:Expr}{te te2:TE}{p pos:Pos}
end
def vf(P:Addr)(ps:Array Value):Heap→Prop:=fun h=>h.get? P=some (PySem.W.tabObj ps)
def j9(c:Addr)(qual:Str):Heap→Prop:=fun h=>h.CodeRec (.ref c) qual
def cU(mg:Str→Option Value)(h:Heap):Prop:=∃bm ob,mg "__builtins__"=some (.ref bm)∧bm≠builtinsNs∧h.get? bm=some ob∧ob.cls=.type "module"∧ob.dict=some builtinsNs∧ob.data=.plain
def cM(P:Addr)(ps:Array Value):HO:=.ext (vf P ps)
theorem jG{prog:Program}{w:World}{H:Hp}{h:Heap}{P:Addr}{ps:Array Value}(e:h.get? P=some (PySem.W.tabObj ps)):ObjOk prog w H h P (cM P ps):=⟨e,⟨_,e⟩,fun _ _ z k=>k _ z⟩
section
variable{Pr:Program}{w:World}{K:PySem.W.Frag}{mg mb:Str→Option Value}{CX:bN}{k:Nat}{fa a P:Addr}{fd:FuncData}{x:Str}{sp:Sp}{s₁:Shared}{vs:List Value}{ns:List Int}
structure Beg(K:PySem.W.Frag)(a P:Addr)(H:Hp):Prop where
 tab:H P=some (cM P #[])
 only:∀b u,H b=some u→(b=P∧u=cM P #[])∨(b=a∧K.lookup a=none∧∃o xs,u=.frz o (.lst xs))
theorem wZ(KX:K.In s₁.heap)(hns:s₁.heap.Ns mainGlobals mg)(hb:s₁.heap.Ns builtinsNs mb)(hbb:∀x:Str,x≠"__name__"→mb x=bootBuiltins x)(hbm:cU mg s₁.heap)(hlim:s₁.heap.NoLimit)(hg:s₁.gens=#[])(ha:s₁.heap.get? a=some {cls:=.type "list",data:=.seq vs.toArray})(hi:IntsAre vs ns)(hl:ns.length≤sizeLine)(hr:Room k callerA)(hP:s₁.heap.get? P=some (PySem.W.tabObj #[]))(hKP:K.lookup P=none)(hcT:isCodeTable s₁.heap P)(F:∀base:Heap,K.In base→base.Ns mainGlobals mg→cU mg base→FnOk Pr w K mg base CX k fa fd [x] sp)(hbind:∀(s:Shared) (u:Value),BindsTo s fd ⟨[u],[]⟩ [(x,u)])(hsp:∀H:Hp,Beg K a P H→SqL K H a (ns.map V.int)→sp [.ref a] H (fun v H'=>v=.bl true∧∃ps,H' P=some (cM P ps)) fun _ _ _=>False)
 (hCX:∀H e s',CX [] H s₁ (fun _ _ _=>False) e s'→False):
 codeAny (model Pr w) callerA (.call (.ref fa) ⟨[.ref a],[]⟩) (fun r s'=>r=.ok (.ret (.bool true))∧OldK s₁.heap s'.heap∧s'.os=s₁.os∧AllBare s'.gens) s₁:=by
 have rv:=nF hi
 have nPa:P≠a:=fun z=>by rw[z,ha] at hP;cases hP
 have go:∀H:Hp,Beg K a P H→SqL K H a (ns.map V.int)→HOk Pr w H s₁.heap→codeAny (model Pr w) callerA (.call (.ref fa) ⟨[.ref a],[]⟩) (fun r s'=>r=.ok (.ret (.bool true))∧OldK s₁.heap s'.heap∧s'.os=s₁.os∧AllBare s'.gens) s₁:=by
  intro H B hS hok
  have fr:∀{b:Addr} {o:Obj},s₁.heap.get? b=some o→(∀xs n,o.data≠ .seq xs n)→(∀f,o.data≠ .fields f)→H b=none:=fun{b o} e n1 n2=>by
   cases q:H b with
   | none=>rfl
   | some u=>
     rcases B.only b u q with⟨z,_⟩ | ⟨z,_⟩
     ·rw[z,hP] at e;cases e;exact absurd rfl (n2 _)
     ·rw[z,ha] at e;cases e;exact absurd rfl (n1 _ _)
  have up:∀{b:Addr} {m:Str→Option Value},s₁.heap.Ns b m→(dC s₁.heap H).Ns b m:=fun{b m} ⟨o,es,ep,e,d,r⟩=>⟨o,es,ep,kO e (fr e (fun _ _ z=>by rw[d] at z;cases z) fun _ z=>by rw[d] at z;cases z),d,r⟩
  have hKb:K.In (dC s₁.heap H):=fun b o e=>kO (KX b o e) (by
   cases q:H b with
   | none=>rfl
   | some u=>
     rcases B.only b u q with⟨z,_⟩ | ⟨z,z2,_⟩
     ·rw[z,hKP] at e;cases e
     ·rw[z,z2] at e;cases e)
  have hMb:cU mg (dC s₁.heap H):=by
   obtain⟨bm,ob,h1,h2,h3,h4,h5,h6⟩:=hbm
   exact⟨bm,ob,h1,h2,kO h3 (fr h3 (fun _ _ z=>by rw[h6] at z;cases z) fun _ z=>by rw[h6] at z;cases z),h4,h5,h6⟩
  have hM:Mod K mg (dC s₁.heap H):=⟨hKb,up hns,⟨mb,up hb,hbb⟩,let ⟨mc,h1,h2⟩:=hlim;⟨mc,up h1,h2⟩⟩
  have e0:Env0 Pr w K mg (dC s₁.heap H) callerA [] s₁ H:=⟨rfl,hM,fun b o e=>sL e,Nat.le_of_eq (um _ _),trivial,(fun b hb=>nomatch hb),hok,.of_eq hg⟩
  refine codeAny_mono ((F _ hKb (up hns) hMb).run callerA [] s₁ H ⟨[.ref a],[]⟩ [.ref a] [.ref a] _ _ hr e0 (hbind s₁ (.ref a)) (.cons rfl .nil) (hsp H B hS)) fun r s' h=>?_
  match r,h with
  | .error e,h=>exact(hCX H e s' h).elim
  | .ok (.ret u),h=>
    obtain⟨v,H',os,bare,un,hok',r',rfl,ps,hps⟩:=h
    obtain rfl:u=Value.bool true:=r'
    obtain⟨gP,_⟩:=hok' P _ hps
    have cases3:∀b o,s₁.heap.get? b=some o→s'.heap.get? b=some o∨b=P:=fun b o e=>by
     cases q:H b with
     | none=>exact .inl (un.keep b o e q (fun z=>nomatch z) (fun z=>nomatch z))
     | some u=>
       rcases B.only b u q with⟨z,_⟩ | ⟨z,_,ob,xs,z2⟩
       ·exact .inr z
       ·subst z2
        obtain⟨e1,_⟩:=hok b _ q
        obtain⟨e2,_⟩:=hok' b _ (un.frzs b ob _ q)
        rw[e] at e1;cases e1
        exact .inl e2
    refine⟨rfl,⟨fun b o e=>?_,fun b o e=>?_⟩,os,bare⟩
    ·rcases cases3 b o e with z | z
     ·exact .inl z
     ·subst z
      rw[hP] at e;cases e
      exact .inr (.inl ⟨hcT,rfl,#[],ps,rfl,by rw[Array.empty_append];exact gP⟩)
    ·rcases cases3 b o e with z | z
     ·exact⟨o,z⟩
     ·subst z;exact⟨_,gP⟩
 cases hk:K.lookup a with
 | some o=>
   have e:=KX a o hk
   rw[ha] at e
   cases e
   refine go (fun b=>if b=P then some (cM P #[]) else none) ⟨if_pos rfl,fun b u q=>?_⟩ (.inr ⟨_,vs.toArray,_,hk,rfl,rfl,rfl,by rw[List.size_toArray,hi.length];exact hl,by simpa using rv⟩) fun b u q=>?_
   ·try dsimp only at q
    by_cases z:b=P
    ·rw[if_pos z] at q;cases q;exact .inl ⟨z,rfl⟩
    ·rw[if_neg z] at q;cases q
   ·try dsimp only at q
    by_cases z:b=P
    ·rw[if_pos z] at q;cases q;subst z;exact jG hP
    ·rw[if_neg z] at q;cases q
 | none=>
   refine go (fun b=>if b=P then some (cM P #[]) else if b=a then some (.frz {cls:=.type "list",data:=.seq vs.toArray} (.lst (ns.map V.int))) else none) ⟨if_pos rfl,fun b u q=>?_⟩ (.inl (.inr ⟨{cls:=.type "list",data:=.seq vs.toArray},by show(if a=P then _ else if a=a then _ else _)=_;rw[if_neg (Ne.symm nPa),if_pos rfl]⟩)) fun b u q=>?_
   ·try dsimp only at q
    by_cases z:b=P
    ·rw[if_pos z] at q;cases q;exact .inl ⟨z,rfl⟩
    ·rw[if_neg z] at q
     by_cases z2:b=a
     ·rw[if_pos z2] at q;cases q;exact .inr ⟨z2,hk,_,_,rfl⟩
     ·rw[if_neg z2] at q;cases q
   ·try dsimp only at q
    by_cases z:b=P
    ·rw[if_pos z] at q;cases q;subst z;exact jG hP
    ·rw[if_neg z] at q
     by_cases z2:b=a
     ·rw[if_pos z2] at q;cases q;subst z2
      exact⟨ha,by rw[List.length_map];exact hl,vs,_,rv,ha⟩
     ·rw[if_neg z2] at q;cases q
end
theorem walk_tab{l:PySem.W.OpenLaw}{n k:Nat}{q:Program}{loose:List Str}{XP:(Str→Option Value)→Heap→Prop}{YP:World→Heap→Prop}{d:DefRec}{K:Params→PySem.W.Frag}{CX:World→bN}{sp:World→Sp}{x:Str}{c P:Addr}(hn:l.most=some n)(hn2:n≤sizeLine)(hdf:d.params.defaults=[])(hr:Room k callerA)(hY:∀(w:World) (h:Heap),YP w h→(K w.params).In h)(hT:∀(w:World) (h:Heap),YP w h→h.get? P=some (PySem.W.tabObj #[]))(hC:∀w:World,PySem.W.codeHdIn (K w.params) c P=true)(hKP:∀w:World,(K w.params).lookup P=none)(F:∀(w:World) (mg:Str→Option Value) (fa:Addr) (h:Heap),(K w.params).In h→h.Ns mainGlobals mg→mg d.name=some (.ref fa)→∃fd:FuncData,(∀(s:Shared) (u:Value),BindsTo s fd ⟨[u],[]⟩ [(x,u)])∧∀base:Heap,(K w.params).In base→base.Ns mainGlobals mg→cU mg base→FnOk l.prog w (K w.params) mg base (CX w) k fa fd [x] (sp w))(hsp:∀(w:World) (H:Hp) (a:Addr) (ns:List Int),ns.length≤n→Beg (K w.params) a P H→SqL (K w.params) H a (ns.map V.int)→sp w [.ref a] H (fun v H'=>v=.bl true∧∃ps,H' P=some (cM P ps)) fun _ _ _=>False)
 (hCX:∀(w:World) (H:Hp) (s:Shared) (e:Value) (s':Shared),CX w [] H s (fun _ _ _=>False) e s'→False):
 PySem.W.WalkO q loose XP YP l.row.toRowW d [] (fun f vs=>PySem.call f vs):=by
 refine Att.attach_call hn hdf fun w s₀ s₁ mg mb fa o pm cd doc a vs ns G Y ho hd hcd hmg hobj hints hlen hg=>?_
 have KX:=hY w _ Y
 obtain⟨fd,hb,hF⟩:=F w mg fa _ KX G.T.g hmg
 have hc:=PySem.W.codeHd_of_K KX (hC w)
 have hP:=hT w _ Y
 exact wZ KX G.T.g G.T.b G.T.builtins G.T.bmain G.T.nolimit hg hobj hints (Nat.le_trans hlen hn2) hr hP (hKP w) (hc.tab hP).isCodeTable hF hb (fun H B hS=>hsp w H a ns hlen B hS) fun H e s'=>hCX w H s₁ e s'
abbrev fU(qual:Str)(scope:Scope)(L f c:Addr)(fv:Str)(cw:Addr):Env:=PySem.W.envX qual scope L f (.ref c) [(fv,cw)]
abbrev kG(X:Cx)(A:Around)(N:List Str)(env:Env)(s:Shared)(H:Hp):Cx:=
 {X with A:=A.deeper env,N:=N,s₀:=s,H₀:=H,env:=env,outer:=X.stack,stack:=env::X.stack,ex:=[],fn:=fun _=>false,calm:=true,pn:=[],xe:=fun _ _=>False}
structure LamSc(fv y:Str)(scope:Scope):Prop where
 kind:scope.kind=.function
 co:scope.isCoroutine=false
 gen:scope.isGenerator=false
 nocell:∀x∈scope.names,x.2≠ .cell
 yl:scope.names.lookup y=some .local
 ff:scope.names.lookup fv=some .free
 one:∀x∈scope.names,x.2=.free→x.1=fv
theorem gj{fv x:Str}{cw c:Addr}(e:([(fv,cw)]:List (Str×Addr)).lookup x=some c):x=fv∧c=cw:=by
 rw[List.lookup_cons] at e
 cases h:x == fv with
 | true=>rw[h] at e;exact⟨eq_of_beq h,(Option.some.inj e).symm⟩
 | false=>rw[h] at e;cases e
theorem lr{fv:Str}{cw:Addr}:([(fv,cw)]:List (Str×Addr)).lookup fv=some cw:=by rw[List.lookup_cons,beq_self_eq_true]
theorem uu{X:Cx}{pins:List (Addr×Obj)}{σ:St}{H:Hp}{s:Shared}{A:Around}{f c cw:Addr}{name qual fv y:Str}{params:Arguments}{body:Expr}{scope:Scope}{pm ctv u uw:Value}{v vw:V}{tb:TE}{Q:VK}{R:Result→Shared→Prop}(I:Inv X pins σ H s)(hA:A.frames=some X.stack)(hh:A.handled=none)(hd:A.depth<recursionLimit)(S:LamSc fv y scope)(hny:fv≠y)(ho:s.heap.get? f=some (PySem.W.kla_obj name qual params body scope [(fv,cw)] pm c ctv))(hcd:s.heap.CodeRec (.ref c) qual)(hcw:s.heap.IsCell cw (some uw))(hHc:H cw=none)(rw':RelV vw uw)(ru:RelV v u)(hbind:bindArgs (PySem.W.kla_fn name qual params body scope [(fv,cw)] pm (.ref c) ctv) ⟨[u],[]⟩=pure [(y,u)])(hb:PE (kG X A [fv,y] (fU qual scope s.heap.objs.size f c fv cw) s H) body tb)(q:tb [some vw,some v] H Q)(k:∀v' u' H' s',Inv X pins σ H' s'→Un (aX X.stack) [] H H' s.heap s'.heap→RelV v' u'→Q v' H'→R (.ok (.ret u')) s'):codeAny (model X.prog X.w) A (.call (.ref f) ⟨[u],[]⟩) R s:=by
 refine PySem.W.kla_callFunE hd ho rfl S.co S.gen rfl hcd ?_
 rw[hbind]
 refine wpAny_pure (wpAny_newFunctionEnv S.nocell (fun x hx=>by rw[List.mem_singleton.mp hx];exact S.yl) (fun h1 hns hsb=>?_) S.kind)
 have kp:∀b o,s.heap.get? b=some o→h1.get? b=some o:=fun b o e=>hsb.extBut b o (Nat.ne_of_lt (Heap.lt_size e)) (Heap.get?_push_of_some _ e)
 refine⟨I.nolimit.keeps kp,?_⟩
 show codeAny _ _ (.expr body (fU qual scope s.heap.objs.size f c fv cw)) _ _
 have e0:=I.env0
 have kf:(fU qual scope s.heap.objs.size f c fv cw).kindOf fv=some .free:=S.ff
 have J:Inv (kG X A [fv,y] (fU qual scope s.heap.objs.size f c fv cw) s H) [] [some vw,some v] H {s with heap:=h1,toks:=s.toks+ [(y,u)].length}:=by
  refine⟨⟨I.ok.mod,S.kind,rfl,rfl,Nat.le_refl _,fun x z c' h1 h2=>?_,fun x hx=>?_,fun x c' h=>(by cases h),fun _=>hh,Around.frames_deeper hA,.inr ⟨rfl,rfl⟩,fun b z=>(nomatch z),e0.bs,e0.bsz,fun b _ _ z=>(nomatch z),fun b z=>(nomatch z),e0.funs,e0.frf⟩,
   rfl,I.bare,Un.kept kp,⟨_,hns,fun i x z h1' h2' h3'=>?_⟩,fun x c' e=>?_,I.fresh,fun x c' e=>?_,fun p hp=>(nomatch hp),I.hok.kept kp,rfl⟩
  ·exact(gj h1).1.trans (gj h2).1.symm
  ·rcases hx with hx | hx
   ·exact absurd rfl (S.nocell _ (PySem.mem_of_lookup hx))
   ·have:=S.one _ (PySem.mem_of_lookup hx) rfl
    exact⟨cw,by rw[show x=fv from this];exact lr⟩
  ·match i,h1',h2' with
   | 0,h1',h2'=>
     obtain rfl:fv=x:=Option.some.inj h1'
     cases h2'
     obtain⟨o,e1,e2⟩:=hcw
     exact⟨uw,rw',.inr ⟨.inr kf,cw,lr,o,kp _ _ e1,e2⟩⟩
   | 1,h1',h2'=>
     obtain rfl:y=x:=Option.some.inj h1'
     cases h2'
     refine⟨u,ru,.inl ⟨S.yl,?_⟩⟩
     show([(y,u)]:List (Str×Value)).reverse.lookup y=some u
     rw[List.reverse_singleton,List.lookup_cons,beq_self_eq_true]
   | i+2,h1',_=>cases h1'
  ·obtain⟨_,rfl⟩:=gj e
   obtain⟨o,e1,e2⟩:=hcw
   exact⟨_,o,kp _ _ e1,e2⟩
  ·obtain⟨_,rfl⟩:=gj e
   exact hHc
 refine PySem.W.kla_codeExpr (wpAny_mono (hb [] _ _ H Q J q) (fun u' s' ⟨v',H',J',r',q'⟩=>?_) fun _ _ z=>z.elim)
 exact k v' u' H' s' (I.call' J'.os J'.base J'.hok J'.bare (fun b z=>(nomatch z))) J'.base r' q'
def iT(H:Hp)(P:Addr)(pos:Pos)(qual:Str)(c:Addr):Prop:=H P=some (cM P #[rawInt pos.line,rawInt pos.col,.ref c])∧H c=some (.ext (j9 c qual))
def Tab(H:Hp)(P:Addr)(pos:Pos)(qual:Str):Prop:=H P=some (cM P #[])∨∃c,iT H P pos qual c
theorem Tab.same{H H':Hp}{P:Addr}{pos:Pos}{qual:Str}(h:Tab H P pos qual)(s:Same H H'):Tab H' P pos qual:=by
 rcases h with h | ⟨c,h1,h2⟩
 ·exact .inl (s _ _ h)
 ·exact .inr ⟨c,s _ _ h1,s _ _ h2⟩
theorem vG{prog:Program}{w:World}{H:Hp}{h:Heap}{c:Addr}{qual:Str}(e:h.CodeRec (.ref c) qual):ObjOk prog w H h c (.ext (j9 c qual)):=by
 obtain⟨c',oc,vs,t,e1,e2,e3,e4⟩:=id e
 cases e1
 refine⟨e,⟨_,e2⟩,fun h1 h2 z k=>?_⟩
 obtain⟨c',oc',vs',t',f1,f2,f3,f4⟩:=z
 cases f1
 exact⟨c,oc',vs',t',rfl,k _ f2,f3,f4⟩
theorem Inv.trackE{X:Cx}{pins:List (Addr×Obj)}{σ:St}{H:Hp}{s:Shared}{e:Addr}{u:HO}(I:Inv X pins σ H s)(hn:H e=none)(h0:X.s₀.heap.get? e=none)(hl:e≠X.env.locals)(hc:∀x c,X.env.cells.lookup x=some c→c≠e)(hp:∀p∈X.pn++pins,p.1≠e)(hx:ObjOk X.prog X.w (upd H e u) s.heap e u):Inv X pins σ (upd H e u) s:=by
 have ne:∀{b:Addr} {o:HO},H b=some o→(upd H e u) b=some o:=fun{b o} q=>by rw[ao (fun z=>by rw[z,hn] at q;cases q)];exact q
 have nn:∀{b:Addr},b≠e→H b=none→(upd H e u) b=none:=fun{b} z q=>by rw[ao z];exact q
 refine⟨I.ok,I.os,I.bare,⟨I.base.keep,I.base.slot,fun b o q n hx=>nn (fun z=>by rw[z,h0] at q;cases q) (I.base.free b o q n hx),I.base.there,fun b xs q=>ne (I.base.tups b xs q),fun b o u q=>ne (I.base.frzs b o u q),fun b ps q=>?_⟩,I.loc,I.cell,nn (Ne.symm hl) I.free,fun x c q=>nn (hc x c q) (I.freeC x c q),fun p q=>?_,fun b o q=>?_,I.len⟩
 ·obtain⟨m,q'⟩:=I.base.tbls b ps q
  exact⟨m,ne q'⟩
 ·obtain⟨a1,a2,a3,a4,a5⟩:=I.pin p q
  exact⟨a1,nn (hp p q) a2,a3,a4,a5⟩
 ·by_cases z:b=e
  ·subst z
   rw[ad] at q
   cases q
   exact hx
  ·rw[ao z] at q
   exact(I.hok b o q).stay (fun c v _ q'=>q') (fun c q'=>ne q') fun c xs q'=>ne q'
theorem wM{X:Cx}{pins:List (Addr×Obj)}{σ:St}{H:Hp}{s:Shared}{M:Model}{A:Around}{E:Value→Shared→Prop}{Q:Value→Shared→Prop}{cc P cw:Addr}{fv:Str}{params:Arguments}{body:Expr}{scope:Scope}{lp:Pos}(I:Inv X pins σ H s)(hcode:X.env.code=.ref cc)(C:PySem.W.CodeHd X.base cc P)(hBm:cU X.mg X.base)(T:Tab H P lp (X.env.qual++"<lambda>"))(hcl:closureFor scope X.env=pure [(fv,cw)])(hdef:defaultsOf params X.env=([],[]))(h:∀f c pm ctv H' s',Inv X pins σ H' s'→iT H' P lp (X.env.qual++"<lambda>") c→Keep P H H'→s'.heap.get? f=some (PySem.W.kla_obj "<lambda>" (X.env.qual++"<lambda>") params body scope [(fv,cw)] pm c ctv)→H' f=none→s.heap.objs.size≤f→(∀b,s'.heap.objs.size≤b→s.heap.objs.size≤b)→Q (.ref f) s'):wpAny M A (eval (.Lambda params body scope lp) X.env) Q E s:=by
 refine PySem.W.kla_eval hdef ?_
 have hg:=I.mod.glob.keeps I.bk
 have Cs:=C.keeps I.bk
 have tab:∀ps,H P=some (cM P ps)→s.heap.get? P=some (PySem.W.tabObj ps):=fun ps e=>(I.hok P _ e).1
 have hgP:mainGlobals≠P:=fun z=>by
  obtain⟨o,es,ep,e,d,_⟩:=I.mod.glob
  have:=(I.bs _ _ e).2
  rw[z] at this
  rcases T with t | ⟨c,t,_⟩ <;> (rw[this] at t;cases t)
 have hB:s.heap.BuiltinsAt X.mg P:=by
  obtain⟨bm,ob,b1,b2,b3,b4,b5,b6⟩:=hBm
  refine⟨bm,ob,b1,b2,fun z=>?_,fun z=>?_,I.bk _ _ b3,b4,b5,b6⟩
  ·obtain⟨o,es,ep,e,d,_⟩:=I.mod.glob
   rw[z,e] at b3;cases b3;rw[d] at b6;cases b6
  ·have:=(I.bs _ _ b3).2
   rw[z] at this
   rcases T with t | ⟨c,t,_⟩ <;> (rw[this] at t;cases t)
 rcases T with t | ⟨c,t,tc⟩
 ·refine PySem.W.kla_makeFunction (mg:=X.mg) hcl I.ok.glob hg hcode Cs (tab _ t) (by first | trivial | exact rfl | decide) rfl hgP hB fun c ctv h' tk hx hge hlt hrec htb=>?_
  rw[Array.empty_append] at htb
  have I1:=I.write (x:=P) (e:=P) (o:=cM P #[rawInt lp.line,rawInt lp.col,.ref c]) (t':=tk) (by rw[t];exact trivial) (.inl rfl) (fun b u hb e=>hx b u hb e) ⟨_,htb⟩ (jG htb)
  have nP:c≠P:=fun z=>by have:=Heap.lt_size (tab _ t);rw[←z] at this;exact absurd (Nat.lt_of_lt_of_le this hge) (Nat.lt_irrefl _)
  have ltc:∀{b:Addr} {o:Obj},s.heap.get? b=some o→b≠c:=fun e=>Nat.ne_of_lt (Nat.lt_of_lt_of_le (Heap.lt_size e) hge)
  have hc0:H c=none:=I.hok.fresh hge
  have I2:=I1.trackE (e:=c) (u:=.ext (j9 c (X.env.qual++"<lambda>"))) (by rw[ao nP];exact hc0) (Heap.get?_none_of_le (Nat.le_trans I.sz hge)) (Nat.ne_of_gt (Nat.lt_of_lt_of_le I.lt hge)) (fun x c' e=>by obtain⟨v,o,e1,_⟩:=I.cell x c' e;exact ltc e1) (fun p hp=>ltc (I.pin p hp).1) (vG hrec)
  have I3:=I2.kept (h':=h'.push (PySem.W.kla_obj "<lambda>" (X.env.qual++"<lambda>") params body scope [(fv,cw)] ((X.mg "__name__").getD .none) c ctv)) (t':=tk) fun b o e=>Heap.get?_push_of_some _ e
  have hf:s.heap.objs.size≤h'.objs.size:=Nat.le_trans hge (Nat.le_of_lt hlt)
  refine h h'.objs.size c _ ctv _ _ I3 ⟨by rw[ao nP.symm,ad],ad⟩ (fun b o e n=>?_) (Heap.get?_push_size _ rfl) ?_ hf (fun b hb=>?_)
  ·rw[ao (fun z=>by rw[z,hc0] at e;cases e),ao n];exact e
  ·rw[ao (Nat.ne_of_gt hlt),ao (fun z=>by have:=Heap.lt_size htb;rw[←z] at this;exact absurd this (Nat.lt_irrefl _))]
   exact I.hok.fresh hf
  ·rw[Heap.size_push] at hb;exact Nat.le_trans hf (Nat.le_of_lt hb)
 ·have hrec:s.heap.CodeRec (.ref c) (X.env.qual++"<lambda>"):=(I.hok c _ tc).1
  refine PySem.W.kla_makeFunctionHit (mg:=X.mg) (cv:=.ref c) hcl I.ok.glob hg hcode Cs (tab _ t) (by first | trivial | exact⟨_,_,rfl⟩ | decide) ?_ hB fun ctv h' tk hk hsz=>?_
  ·exact codeAmong_snoc [] trivial rfl
  ·have I3:=I.kept (h':=h'.push (PySem.W.kla_obj "<lambda>" (X.env.qual++"<lambda>") params body scope [(fv,cw)] ((X.mg "__name__").getD .none) c ctv)) (t':=tk) fun b o e=>Heap.get?_push_of_some _ (hk b o e)
   refine h h'.objs.size c _ ctv _ _ I3 ⟨t,tc⟩ (fun b o e _=>e) (Heap.get?_push_size _ rfl) (I.hok.fresh hsz) hsz (fun b hb=>?_)
   rw[Heap.size_push] at hb;exact Nat.le_trans hsz (Nat.le_of_lt hb)
theorem kY:∀(xs ys:List Int),aQ xs ys=true∨xs=ys∨aQ ys xs=true
 | [],[]=>.inr (.inl rfl)
 | [],_::_=>.inl rfl
 | _::_,[]=>.inr (.inr rfl)
 | x::xs,y::ys=>by
   simp only[aQ]
   by_cases e:x=y
   ·subst e
    rw[if_pos rfl]
    rcases kY xs ys with h | h | h
    ·exact .inl h
    ·exact .inr (.inl (by rw[h]))
    ·exact .inr (.inr (by rw[if_pos rfl];exact h))
   ·rw[if_neg e,if_neg (fun z=>e z.symm)]
    by_cases h:x<y
    ·exact .inl (decide_eq_true h)
    ·exact .inr (.inr (decide_eq_true (by lia)))
def jM:Ordr (List Int):=⟨aQ,fun a=>m3 a,fun a b c h1 h2=>jO h1 h2,fun a b c h=>by
 rcases kY a b with z | z | z
 ·exact .inl z
 ·subst z;exact .inr h
 ·exact .inr (jO z h)⟩
section
variable{prog:Program}{w:World}{A:Around}{E:Value→Shared→Prop}{s:Shared}
theorem uh{l b:Addr}{items items2:Array Value}{xs ys:List Nat}{Q:Bool→Shared→Prop}(hu:A.units<cLine)(hl:s.heap.IsList l items)(hb:s.heap.IsList b items2)(N1:dX xs items)(N2:dX ys items2)(h:Q (aQ (aI xs) (aI ys)) s):wpAny (model prog w) A (oneLt' true (.ref l) (.ref b)) Q E s:=by
 obtain⟨⟨cls,dd,data,sl⟩,ho,hc,n,hd⟩:=id hl
 obtain⟨⟨cls2,dd2,data2,sl2⟩,ho2,hc2,n2,hd2⟩:=id hb
 simp only at hc hd hc2 hd2;subst hc hd hc2 hd2
 rw[oneLt'_eq,if_pos rfl]
 refine wpAny_bind (wpAny_cRoomFor hu (wpAny_bind (wpAny_callSpecialIfBound?_slot (T:="list") ⟨_,ho,rfl⟩ F.slot_list_lt (call_meets F.slot_list_lt ⟨_,ho,rfl⟩ F.entry_list_lt (F.args_list_lt_2 _ _) (t5 N1 N2) ⟨ho,ho2,?_⟩))))
 exact wpAny_truthy_bool h
def lQ(s:Shared)(k:Addr)(xs:List Nat):Prop:=∃items:Array Value,s.heap.IsList k items∧dX xs items
def jS(cz:Addr→List Nat)(p:Keyed):List Int:=match p.1 with | .ref k=>aI (cz k) | _=>[]
theorem x5{a₀:Array Keyed}{cz:Addr→List Nat}(hu:A.units<cLine)(h0:∀x∈a₀,∃k,x.1=.ref k∧lQ s k (cz k)):fh jM (jS cz) prog w A E s a₀ oneType':=by
 intro x y hx hy st Q hk q
 obtain⟨a,ex,i1,l1,n1⟩:=h0 x hx
 obtain⟨b,ey,i2,l2,n2⟩:=h0 y hy
 obtain⟨x1,x2⟩:=x
 obtain⟨y1,y2⟩:=y
 dsimp only at ex ey
 subst ex ey
 rw[lt'_eq]
 refine wpS_bind (wpS_get ?_)
 rw[hk,keyLt'_oneType]
 exact wpS_bind (wpS_lift (wpAny_attempt (uh hu l1 l2 n1 n2 ⟨rfl,wpS_pure q⟩)))
end
structure NewAd(X:Cx)(pins:List (Addr×Obj))(b:Addr):Prop where
 s0:X.s₀.heap.objs.size≤b
 loc:b≠X.env.locals
 cell:∀x c,X.env.cells.lookup x=some c→c≠b
 pin:∀p∈X.pn++pins,p.1≠b
 stk:b∉aX X.stack
theorem Inv.newAd{X:Cx}{pins:List (Addr×Obj)}{σ:St}{H:Hp}{s:Shared}{b:Addr}(I:Inv X pins σ H s)(hb:s.heap.objs.size≤b):NewAd X pins b:=by
 have lt:∀{a:Addr} {o:Obj},s.heap.get? a=some o→a≠b:=fun e=>Nat.ne_of_lt (Nat.lt_of_lt_of_le (Heap.lt_size e) hb)
 refine⟨Nat.le_trans I.sz hb,Nat.ne_of_gt (Nat.lt_of_lt_of_le I.lt hb),fun x c e=>?_,fun p hp=>lt (I.pin p hp).1,fun z=>?_⟩
 ·obtain⟨v,o,e1,_⟩:=I.cell x c e
  exact lt e1
 ·rcases List.mem_cons.mp (I.stkSub b z) with z' | z'
  ·exact absurd z' (Nat.ne_of_gt (Nat.lt_of_lt_of_le I.lt hb))
  ·exact I.nofs hb z'
theorem Inv.own{X:Cx}{pins:List (Addr×Obj)}{σ:St}{H:Hp}{s:Shared}{b:Addr}{h':Heap}{t':Nat}(I:Inv X pins σ H s)(n:NewAd X pins b)(hb:H b=none)(hs:Heap.SameBut b s.heap h'):Inv X pins σ H {s with heap:=h',toks:=t'}:=
 I.turned (fun c o hc e=>(hs.2 c hc).trans e) hb n.loc (.inr n.s0) n.cell n.pin
section
variable{X:Cx}{pins:List (Addr×Obj)}{σ:St}{H:Hp}{s:Shared}{f l:Addr}{ns:List Int}{kf:Int→List Nat}{fo:Obj}
structure KeyW(X:Cx)(pins:List (Addr×Obj))(σ:St)(H:Hp)(f:Addr)(fo:Obj)(D kS:Addr)(e1:Nat)(ns:List Int)(kf:Int→List Nat)(i:Nat)(s':Shared):Prop where
 ex:∃(H':Hp) (ks:List Addr) (e:Nat),Inv X pins σ H' s'∧Same H H'∧s'.heap.get? f=some fo∧H' f=none∧s'.heap.get? D=some (seqObj "list" #[] e1)∧H' D=none∧s'.heap.get? kS=some (seqObj "list" (ks.map Value.ref).toArray e)∧H' kS=none∧ks.length=i∧∀(j:Nat) (k:Addr) (n:Int),ks[j]?=some k→ns[j]?=some n→H' k=some (.lst ((kf n).map sg))
def kJ(X:Cx)(pins:List (Addr×Obj))(σ:St)(H:Hp)(f:Addr)(fo:Obj)(ns:List Int)(kf:Int→List Nat):Prop:=
 ∀ n∈ns,∀(H':Hp) (s':Shared) (u:Value),Inv X pins σ H' s'→Same H H'→s'.heap.get? f=some fo→H' f=none→RelV (.int n) u→
   wpAny (model X.prog X.w) X.A.in1.in1 (call (.ref f) [u]) (fun u' s''=>∃(k:Addr) (H'':Hp),u'=.ref k∧Inv X pins σ H'' s''∧H'' k=some (.lst ((kf n).map sg))∧Same H' H''∧Un (aX X.stack) [] H' H'' s'.heap s''.heap) (fun _ _=>False) s'
theorem oi{D kS:Addr}{e1:Nat}{vs:List Value}{E:Value→Shared→Prop}{P:PUnit→Shared→Prop}{body:Value→PUnit→Sem (ForInStep PUnit)}(nD:NewAd X pins D)(nk:NewAd X pins kS)(nf:NewAd X pins f)(hDk:D≠kS)(hfk:f≠kS)(hv:Vals (ns.map V.int) vs)(hle:ns.length≤1000)(T:kJ X pins σ H f fo ns kf)(hbody:∀x,body x ⟨⟩=(do
 match←(call (.ref f) [x]).attempt with
 | .ok k=>Builtin.List.listUpdate (.ref kS) (·.push k);pure (ForInStep.yield PUnit.unit)
 | .error e=>rule "list.sort.key-raised";let made←Builtin.List.listItems (.ref kS);Builtin.List.listUpdate (.ref kS) fun _=>#[];letGo made.toList.reverse [e];Builtin.List.listUpdate (.ref D) fun _=>vs.toArray;throw e)):
 ∀(r:List Value) (i:Nat) (s':Shared),vs.drop i=r→i≤vs.length→KeyW X pins σ H f fo D kS e1 ns kf i s'→(∀s'',KeyW X pins σ H f fo D kS e1 ns kf vs.length s''→P ⟨⟩ s'')→wpAny (model X.prog X.w) X.A.in1.in1 (forIn r PUnit.unit body) P E s'
 | [],i,s',hr,hi2,W,done=>by
   rw[List.forIn_nil]
   have hi:vs.length≤i:=List.drop_eq_nil_iff.mp hr
   exact wpAny_pure (done s' (by rw[show vs.length=i by lia];exact W))
 | x::r,i,s',hr,hi2,W,done=>by
   rw[List.forIn_cons,hbody]
   obtain⟨H',ks,e,I',sm,hf',Hf',hD',HD',hk',Hk',hl,hks⟩:=W.ex
   have hi:i<vs.length:=by
    refine Nat.lt_of_not_le fun z=>?_
    rw[List.drop_eq_nil_of_le z] at hr;cases hr
   have hx:vs[i]?=some x:=by
    have:=List.getElem?_drop (xs:=vs) (i:=i) (j:=0)
    rw[hr] at this
    simpa using this.symm
   have hil:i<ns.length:=by have:=hv.length;rw[List.length_map] at this;lia
   obtain⟨u,hu,ru⟩:=hv.get (show(ns.map V.int)[i]?=some (.int ns[i]) by simp[hil])
   obtain rfl:x=u:=by rw[hx] at hu;exact Option.some.inj hu
   refine wpAny_bind (wpAny_bind (wpAny_attempt (wpAny_mono (T ns[i] (List.getElem_mem hil) H' s' x I' sm hf' Hf' ru) (fun u' s'' h=>?_) fun _ _ z=>z.elim)))
   obtain⟨k,H'',rfl,I2,hk2,sm2,un⟩:=h
   have kp:∀{b:Addr} {o:Obj},NewAd X pins b→H' b=none→s'.heap.get? b=some o→s''.heap.get? b=some o∧H'' b=none:=fun{b o} n q e=>⟨un.keep b o e q n.stk (fun z=>nomatch z),un.free b o e q (fun z=>nomatch z)⟩
   obtain⟨hf2,Hf2⟩:=kp nf Hf' hf'
   obtain⟨hD2,HD2⟩:=kp nD HD' hD'
   obtain⟨hS2,HS2⟩:=kp nk Hk' hk'
   dsimp only
   have sb:=Heap.SameBut.update s''.heap kS (Obj.mapSeq (·.push (.ref k)))
   obtain⟨c2,hc2⟩:∃c2,(s''.heap.update kS (Obj.mapSeq (·.push (.ref k)))).get? kS=some (seqObj "list" ((ks.map Value.ref).toArray.push (.ref k)) c2):=⟨_,get?_update_seq hS2 (·.push (.ref k))⟩
   have szk:(ks.map Value.ref).toArray.size≤1000:=by simp;lia
   refine wpAny_bind (listUpdate_at hS2 rfl (wpAny_pure ?_) (Nat.le_trans szk (by decide)) (by rw[Array.size_push];exact Nat.le_trans (Nat.succ_le_succ szk) (by decide)))
   show wpAny _ _ (forIn r PUnit.unit body) P E _
   refine oi nD nk nf hDk hfk hv hle T hbody r (i+1) _ (by rw[←List.drop_drop,hr];rfl) hi ⟨H'',ks++[k],c2,I2.own nk HS2 sb,sm.trans sm2,(sb.2 f hfk).trans hf2,Hf2,(sb.2 D hDk).trans hD2,HD2,?_,HS2,by simp[hl],fun j k' n hj hn=>?_⟩ done
   ·rw[hc2];congr 1;simp[seqObj]
   ·by_cases z:j<ks.length
    ·rw[List.getElem?_append_left z] at hj
     exact sm2 _ _ (hks j k' n hj hn)
    ·rw[List.getElem?_append_right (by lia)] at hj
     have z0:j-ks.length=0:=by have:=(List.getElem?_eq_some_iff.mp hj).1;simp at this;lia
     rw[z0] at hj
     obtain rfl:k=k':=by simpa using hj
     have:j=i:=by lia
     subst this
     rw[List.getElem?_eq_getElem hil] at hn
     cases hn
     exact hk2
theorem lE{D kS:Addr}{e1 e:Nat}{vs:List Value}{ks:List Addr}{cz:Addr→List Nat}{st:SortSt}{E:Value→Shared→Prop}{P:PySem.Fin→Shared→Prop}{H':Hp}(I:Inv X pins σ H' s)(nD:NewAd X pins D)(nk:NewAd X pins kS)(hDk:D≠kS)(hD:s.heap.get? D=some (seqObj "list" #[] e1))(HD:H' D=none)(hS:s.heap.get? kS=some (seqObj "list" (ks.map Value.ref).toArray e))(HS:H' kS=none)(hv:Vals (ns.map V.int) vs)(hle:ns.length≤1000)(hkl:ks.length=ns.length)(hcz:∀(j:Nat) (k:Addr) (n:Int),ks[j]?=some k→ns[j]?=some n→cz k=kf n)(hp:(arrOf st).Perm ((ks.map Value.ref).toArray.zip vs.toArray))(hfl:failedOf st=none)(R:bH jM (jS cz) (arrOf st) 0 ((ks.map Value.ref).toArray.zip vs.toArray).size)(done:∀(s':Shared) (ms:List Int) (ws:List Value) (c:Nat),Inv X pins σ H' s'→s'.heap.get? D=some (seqObj "list" ws.toArray c)→Vals (ms.map V.int) ws→ms.Perm ns→ms.Pairwise (fun a b=>aQ (aI (kf b)) (aI (kf a))=false)→P (.done (.ret .none)) s'):
 wpAny (model X.prog X.w) X.A.in1.in1 (ksk_tail D false e1 (.ref kS) st) P E s:=by
 have hvl:ns.length=vs.length:=by have:=hv.length;rw[List.length_map] at this;exact this
 have hz:((ks.map Value.ref).toArray.zip vs.toArray).toList=(ks.map Value.ref).zip vs:=by simp
 have hzl:((ks.map Value.ref).toArray.zip vs.toArray).size=vs.length:=by simp;lia
 have hsz:(arrOf st).size=vs.length:=by rw[hp.size_eq,hzl]
 have hpl:(arrOf st).toList.Perm ((ks.map Value.ref).zip vs):=by rw[←hz];exact Array.perm_iff_toList_perm.mp hp
 have pr:∀p∈(arrOf st).toList,∃(j:Nat) (k:Addr) (n:Int) (t:Tok),ks[j]?=some k∧ns[j]?=some n∧p=(.ref k,.int n t):=fun p hp'=>by
  obtain⟨j,hj⟩:=List.mem_iff_getElem?.mp (hpl.mem_iff.mp hp')
  obtain⟨p1,p2⟩:=p
  rw[List.getElem?_zip_eq_some] at hj
  obtain⟨h1,h2⟩:=hj
  dsimp only at h1 h2
  have jl:j<ns.length:=by have:=(List.getElem?_eq_some_iff.mp h2).1;lia
  obtain⟨u,hu,ru⟩:=hv.get (show(ns.map V.int)[j]?=some (.int ns[j]) by simp[jl])
  rw[h2] at hu
  cases hu
  obtain⟨t,rfl⟩:=ru
  have kl:j<ks.length:=by lia
  rw[List.getElem?_map,List.getElem?_eq_getElem kl] at h1
  cases h1
  exact⟨j,ks[j],ns[j],t,List.getElem?_eq_getElem kl,List.getElem?_eq_getElem jl,rfl⟩
 have hvn:vs.map numOf=ns:=by
  apply List.ext_getElem?
  intro j
  by_cases jl:j<ns.length
  ·obtain⟨u,hu,ru⟩:=hv.get (show(ns.map V.int)[j]?=some (.int ns[j]) by simp[jl])
   obtain⟨t,rfl⟩:=ru
   rw[List.getElem?_map,hu,List.getElem?_eq_getElem jl];rfl
  ·rw[List.getElem?_eq_none (by rw[List.length_map];lia),List.getElem?_eq_none (by lia)]
 have sb1:=Heap.SameBut.update s.heap kS (Obj.mapSeq fun _=>(#[]:Array Value))
 have hD1:=(sb1.2 D hDk).trans hD
 obtain⟨c2,hc2⟩:∃c2,((s.heap.update kS (Obj.mapSeq fun _=>(#[]:Array Value))).update D (Obj.mapSeq fun _=>(arrOf st).map (·.2))).get? D=some (seqObj "list" ((arrOf st).map (·.2)) c2):=⟨_,get?_update_seq hD1 fun _=>(arrOf st).map (·.2)⟩
 have sb2:=Heap.SameBut.update (s.heap.update kS (Obj.mapSeq fun _=>(#[]:Array Value))) D (Obj.mapSeq fun _=>(arrOf st).map (·.2))
 unfold ksk_tail
 refine wpAny_bind (listUpdate_at hS rfl (wpAny_bind (wpAny_letGo (wpAny_bind (seqEpoch_at hD1 rfl (wpAny_bind (listUpdate_at hD1 rfl ?_ (Nat.zero_le _) ?_)))))) ?_ (Nat.zero_le _))
 ·rw[hfl]
  simp only[bne_self_eq_false,Bool.false_eq_true,if_false]
  refine wpAny_pure (done _ ((arrOf st).toList.map fun p=>numOf p.2) ((arrOf st).toList.map (·.2)) c2 ((I.own (t':=s.toks) nk HS sb1).own (t':=s.toks) nD HD sb2) ?_ ?_ ?_ ?_)
  ·show Heap.get? _ D=_
   rw[hc2,←Array.toList_map,Array.toArray_toList]
  ·rw[List.map_map]
   refine jr (by simp) fun j x u hx hu=>?_
   rw[List.getElem?_map] at hx hu
   cases q:(arrOf st).toList[j]? with
   | none=>rw[q] at hx;cases hx
   | some p=>
     rw[q] at hx hu
     obtain⟨_,k,n,t,_,_,rfl⟩:=pr p (List.mem_of_getElem? q)
     cases hx
     cases hu
     exact⟨t,rfl⟩
  ·have h1:=hpl.map fun p=>numOf p.2
   have h2:((ks.map Value.ref).zip vs).map (fun p=>numOf p.2)=ns:=by
    rw[show(fun p:Value×Value=>numOf p.2)=numOf ∘ Prod.snd from rfl,←List.map_map,List.map_snd_zip (by rw[List.length_map];lia),hvn]
   rw[h2] at h1
   exact h1
  ·refine List.pairwise_map.mpr (List.pairwise_iff_getElem.mpr fun i j h1 h3 h4=>?_)
   rw[Array.length_toList] at h1 h3
   have r:=R i j (Nat.zero_le _) (by lia) (by rw[hzl];lia)
   rw[lF (pW h1),lF (pW h3)] at r
   obtain⟨j1,k1,n1,t1,a1,b1,c1⟩:=pr (arrOf st)[i] (by simp)
   obtain⟨j2,k2,n2,t2,a2,b2,c2⟩:=pr (arrOf st)[j] (by simp)
   rw[c1,c2] at r
   have r':aQ (aI (cz k2)) (aI (cz k1))=false:=r
   rw[hcz _ _ _ a1 b1,hcz _ _ _ a2 b2] at r'
   simp only[Array.getElem_toList]
   rw[c1,c2]
   exact r'
 ·rw[if_neg Bool.false_ne_true,Array.size_map,hsz];exact Nat.le_trans (show vs.length≤1000 by lia) (by decide)
 ·simp;exact Nat.le_trans (show ks.length≤1000 by lia) (by decide)
end
section
variable{X:Cx}{pins:List (Addr×Obj)}{σ:St}{H:Hp}{s:Shared}{f l:Addr}{ns:List Int}{kf:Int→List Nat}{fo:Obj}
theorem fI{n:Nat}(h:n≤63):n≤sizeLine:=Nat.le_of_lt (bi (by lia))
theorem qG{D kS:Addr}{e1 e:Nat}{vs:List Value}{ks:List Addr}{E:Value→Shared→Prop}{P:PySem.Fin→Shared→Prop}{H':Hp}(hu:(X.A.in1.in1).units<cLine)(I:Inv X pins σ H' s)(nD:NewAd X pins D)(nk:NewAd X pins kS)(hDk:D≠kS)(hD:s.heap.get? D=some (seqObj "list" #[] e1))(HD:H' D=none)(hS:s.heap.get? kS=some (seqObj "list" (ks.map Value.ref).toArray e))(HS:H' kS=none)(hv:Vals (ns.map V.int) vs)(hle:ns.length≤63)(hkl:ks.length=ns.length)(hks:∀(j:Nat) (k:Addr) (n:Int),ks[j]?=some k→ns[j]?=some n→H' k=some (.lst ((kf n).map sg)))(done:∀(s':Shared) (ms:List Int) (ws:List Value) (c:Nat),Inv X pins σ H' s'→s'.heap.get? D=some (seqObj "list" ws.toArray c)→Vals (ms.map V.int) ws→ms.Perm ns→ms.Pairwise (fun a b=>aQ (aI (kf b)) (aI (kf a))=false)→P (.done (.ret .none)) s'):
 wpAny (model X.prog X.w) X.A.in1.in1 (ksk_end D false vs.toArray e1 (.ref kS) (ks.map Value.ref).toArray) P E s:=by
 have hvl:ns.length=vs.length:=by have:=hv.length;rw[List.length_map] at this;exact this
 have hzl:((ks.map Value.ref).toArray.zip vs.toArray).size=vs.length:=by simp;lia
 have hex:∀k:Addr,∃xs:List Nat,∀(j:Nat) (n:Int),ks[j]?=some k→ns[j]?=some n→xs=kf n:=fun k=>by
  by_cases hk:k∈ks
  ·obtain⟨j0,hj0⟩:=List.mem_iff_getElem?.mp hk
   have jl:j0<ns.length:=by have:=(List.getElem?_eq_some_iff.mp hj0).1;lia
   refine⟨kf ns[j0],fun j n h1 h2=>?_⟩
   have a1:=hks j0 k ns[j0] hj0 (List.getElem?_eq_getElem jl)
   have a2:=hks j k n h1 h2
   rw[a1] at a2
   have a3:(kf ns[j0]).map sg=(kf n).map sg:=by injection a2 with a2;injection a2
   refine List.map_inj_right (f:=sg) (fun x y h=>?_) |>.mp a3
   have:aA x=aA y:=V.str.inj h
   simpa [aA] using this
  ·exact⟨[],fun j n h1 _=>absurd (List.mem_of_getElem? h1) hk⟩
 obtain⟨cz,hcz⟩:=Classical.axiomOfChoice hex
 have lat:∀k∈ks,lQ s k (cz k):=fun k hk=>by
  obtain⟨j0,hj0⟩:=List.mem_iff_getElem?.mp hk
  have jl:j0<ns.length:=by have:=(List.getElem?_eq_some_iff.mp hj0).1;lia
  have e0:=List.getElem?_eq_getElem jl
  rw[hcz k j0 _ hj0 e0]
  obtain⟨_,its,m,r,_,g⟩:=I.lstM (hks j0 k _ hj0 e0)
  exact⟨its.toArray,⟨_,g,rfl,m,rfl⟩,vV r⟩
 have at0:∀p∈(ks.map Value.ref).toArray.zip vs.toArray,∃k,p.1=.ref k∧k∈ks:=fun p hp=>by
  have:p∈(ks.map Value.ref).zip vs:=by simpa using Array.mem_toList_iff.mpr hp
  obtain⟨p1,p2⟩:=p
  obtain⟨k,hk,e⟩:=List.mem_map.mp (List.of_mem_zip this).1
  exact⟨k,e.symm,hk⟩
 unfold ksk_end
 dsimp only
 rw[if_neg Bool.false_ne_true,if_neg Bool.false_ne_true]
 by_cases h2:vs.toArray.size<2
 ·rw[if_pos h2,if_pos h2]
  refine wpAny_bind (wpAny_pure ?_)
  rw[StateT.run_pure]
  refine wpAny_bind (wpAny_pure ?_)
  refine lE (cz:=cz) (st:=SortSt.mk' general' ((ks.map Value.ref).toArray.zip vs.toArray) #[] 7 none) I nD nk hDk hD HD hS HS hv (Nat.le_trans hle (by decide)) hkl (fun j k n h1 h2=>hcz k j n h1 h2) (Array.Perm.refl _) rfl ?_ done
  intro i j h1 h3 h4
  rw[hzl] at h4
  rw[List.size_toArray] at h2
  have:i=j:=by lia
  subst this
  exact Ordr.le_refl _
 ·rw[if_neg h2,if_neg h2]
  rw[List.size_toArray] at h2
  refine wpAny_bind (PySem.W.kas_kind (T:=.type "list") (by rw[List.length_map];lia) (fun v hv=>?_) rfl rfl ?_)
  ·obtain⟨k,hk,rfl⟩:=List.mem_map.mp hv
   obtain⟨items,⟨o,ho,hoc,_⟩,_⟩:=lat k hk
   rw[←hoc]
   exact(PySem.W.Looks.ld ho).andThen .now
  ·refine wpAny_bind (wpAny_mono (nc (x5 (cz:=cz) (a₀:=(ks.map Value.ref).toArray.zip vs.toArray) hu fun p hp=>by obtain⟨k,e,hk⟩:=at0 p hp;exact⟨k,e,lat k hk⟩) (a₀:=(ks.map Value.ref).toArray.zip vs.toArray) (kd:=oneType') (st:=SortSt.mk' oneType' ((ks.map Value.ref).toArray.zip vs.toArray) #[] 7 none) (Q:=fun _ z=>(arrOf z).Perm ((ks.map Value.ref).toArray.zip vs.toArray)∧failedOf z=none∧bH jM (jS cz) (arrOf z) 0 ((ks.map Value.ref).toArray.zip vs.toArray).size) ⟨Array.Perm.refl _,rfl,rfl⟩ rfl (by rw[hzl];lia) (by rw[hzl];lia) fun z B R=>⟨B.perm,B.failed,R⟩) ?_ fun _ _ e=>e)
   rintro⟨⟨⟩,z⟩ s' ⟨rfl,pm,hf,R⟩
   exact lE (cz:=cz) I nD nk hDk hD HD hS HS hv (Nat.le_trans hle (by decide)) hkl (fun j k n h1 h2=>hcz k j n h1 h2) pm hf R done
theorem yC{D:Addr}{n0:Nat}{vs:List Value}{E:Value→Shared→Prop}{P:PySem.Fin→Shared→Prop}(hu:(X.A.in1.in1).units<cLine)(I:Inv X pins σ H s)(nD:NewAd X pins D)(hD:s.heap.get? D=some (seqObj "list" vs.toArray n0))(HD:H D=none)(nf:NewAd X pins f)(hf:s.heap.get? f=some fo)(Hf:H f=none)(hDf:D≠f)(hv:Vals (ns.map V.int) vs)(hle:ns.length≤63)(T:kJ X pins σ H f fo ns kf)(done:∀(H':Hp) (s':Shared) (ms:List Int) (ws:List Value) (c:Nat),Inv X pins σ H' s'→Same H H'→s'.heap.get? D=some (seqObj "list" ws.toArray c)→H' D=none→Vals (ms.map V.int) ws→ms.Perm ns→ms.Pairwise (fun a b=>aQ (aI (kf b)) (aI (kf a))=false)→P (.done (.ret .none)) s'):
 wpAny (model X.prog X.w) X.A.in1.in1 (ksk_tree D (.ref f) false) P E s:=by
 have hvl:ns.length=vs.length:=by have:=hv.length;rw[List.length_map] at this;exact this
 have sb:=Heap.SameBut.update s.heap D (Obj.mapSeq fun _=>(#[]:Array Value))
 obtain⟨e1,hD1⟩:∃e1,(s.heap.update D (Obj.mapSeq fun _=>(#[]:Array Value))).get? D=some (seqObj "list" #[] e1):=⟨_,get?_update_seq hD fun _=>#[]⟩
 have I1:=I.own (t':=s.toks) nD HD sb
 have hf1:=(sb.2 f hDf.symm).trans hf
 have ltD:D<s.heap.objs.size:=Heap.lt_size hD
 have ltf:f<s.heap.objs.size:=Heap.lt_size hf
 generalize eg:s.heap.update D (Obj.mapSeq fun _=>(#[]:Array Value))=g at hD1 I1 hf1
 have hg:g.objs.size=s.heap.objs.size:=by rw[←eg,Heap.size_update]
 unfold ksk_tree
 refine wpAny_bind (listItems_at hD rfl (wpAny_bind (listUpdate_at hD rfl ?_ (by rw[List.size_toArray];exact fI (by lia)) (Nat.zero_le _))))
 show wpAny _ _ _ _ _ {s with heap:=s.heap.update D (Obj.mapSeq fun _=>(#[]:Array Value))}
 rw[eg]
 refine wpAny_bind (seqEpoch_at hD1 rfl (wpAny_bind (wpAny_newTuple (wpAny_bind (wpAny_newList (wpAny_holding ?_) (Nat.zero_le _))) (fI (by simp;lia)))))
 dsimp only
 have hk1:(g.push (seqObj "tuple" vs.toArray 0)).objs.size=s.heap.objs.size+1:=by rw[Heap.size_push,hg]
 have keep:∀b o,g.get? b=some o→((g.push (seqObj "tuple" vs.toArray 0)).push (seqObj "list" #[] 0)).get? b=some o:=fun b o e=>Heap.get?_push_of_some _ (Heap.get?_push_of_some _ e)
 have I2:=I1.kept (h':=(g.push (seqObj "tuple" vs.toArray 0)).push (seqObj "list" #[] 0)) (t':=s.toks) keep
 have nk:NewAd X pins (g.push (seqObj "tuple" vs.toArray 0)).objs.size:=I.newAd (by rw[hk1];exact Nat.le_succ _)
 have hDk:D≠(g.push (seqObj "tuple" vs.toArray 0)).objs.size:=by rw[hk1];exact Nat.ne_of_lt (Nat.lt_succ_of_lt ltD)
 have hfk:f≠(g.push (seqObj "tuple" vs.toArray 0)).objs.size:=by rw[hk1];exact Nat.ne_of_lt (Nat.lt_succ_of_lt ltf)
 have HS:H (g.push (seqObj "tuple" vs.toArray 0)).objs.size=none:=I.hok.fresh (by rw[hk1];exact Nat.le_succ _)
 have hS:((g.push (seqObj "tuple" vs.toArray 0)).push (seqObj "list" #[] 0)).get? (g.push (seqObj "tuple" vs.toArray 0)).objs.size=some (seqObj "list" #[] 0):=Heap.get?_push_size _ rfl
 show wpAny _ _ (ksk_rest D (.ref f) false vs.toArray e1 (.ref (g.push (seqObj "tuple" vs.toArray 0)).objs.size)) _ _ {s with heap:=(g.push (seqObj "tuple" vs.toArray 0)).push (seqObj "list" #[] 0)}
 generalize (g.push (seqObj "tuple" vs.toArray 0)).objs.size=kS at*
 unfold ksk_rest
 refine wpAny_bind (wpAny_rule (wpAny_bind ?_))
 rw[List.forIn_toArray]
 refine oi (e1:=e1) (vs:=vs) nD nk nf hDk hfk hv (Nat.le_trans hle (by decide)) T (fun x=>rfl) vs 0 _ rfl (Nat.zero_le _) ⟨H,[],0,I2,Same.refl _,keep _ _ hf1,Hf,keep _ _ hD1,HD,hS,HS,rfl,fun j k n h=>by simp at h⟩ fun s3 W=>?_
 obtain⟨H3,ks,e,I3,sm,_,_,hD3,HD3,hS3,HS3,hl3,hks⟩:=W.ex
 refine wpAny_bind (listItems_at hS3 rfl ?_)
 exact qG hu I3 nD nk hDk hD3 HD3 hS3 HS3 hv hle (by lia) hks fun s' ms ws c I' g' v' p' o'=>done H3 s' ms ws c I' sm g' HD3 v' p' o'
end
def qd(P:Addr)(lp:Pos)(q:Str)(iw:Nat)(te tb:TE):TE:=fun σ H Q=>te σ H fun x H1=>∃(l:Addr) (ns:List Int) (vw:V) (kf:Int→List Nat),x=.ref l∧H1 l=some (.lst (ns.map V.int))∧ns.length≤63∧σ[iw]?=some (some vw)∧Tab H1 P lp q∧
 (∀n∈ns,∀H',Keep P H1 H'→tb [some vw,some (.int n)] H' fun v H''=>∃k,v=.ref k∧H'' k=some (.lst ((kf n).map sg))∧Same H' H'')∧
 ∀(r:Addr) (ms:List Int) (H':Hp),ms.Perm ns→ms.Pairwise (fun a b=>aQ (aI (kf b)) (aI (kf a))=false)→Keep P H1 H'→(∃c,iT H' P lp q c)→H1 r=none→H' r=some (.lst (ms.map V.int))→Q (.ref r) H'
theorem yF{X:Cx}{e body:Expr}{te tb:TE}{p pos kp lp:Pos}{params:Arguments}{scope:Scope}{fv y:Str}{cc P:Addr}{iw k:Nat}(hc:X.calm=true)(hm:X.mg "sorted"=none)(hr:Room (k+2) X.A)(hcode:X.env.code=.ref cc)(C:PySem.W.CodeHd X.base cc P)(hB:cU X.mg X.base)(S:LamSc fv y scope)(hny:fv≠y)(hN:X.N[iw]?=some fv)(hkc:X.env.kindOf fv=some .cell)(hcl:∀cw,X.env.cells.lookup fv=some cw→closureFor scope X.env=pure [(fv,cw)])(hdef:defaultsOf params X.env=([],[]))(hbind:∀(q:Str) (cw c:Addr) (pm ctv u:Value),bindArgs (PySem.W.kla_fn "<lambda>" q params body scope [(fv,cw)] pm (.ref c) ctv) ⟨[u],[]⟩=pure [(y,u)])(ha:PE X e te)(hb:∀(A:Around) (s:Shared) (H:Hp) (L f c cw:Addr),PE (kG X A [fv,y] (fU (X.env.qual++"<lambda>") scope L f c fv cw) s H) body tb)(hg:Gl X "sorted":=by rfl)(he:starEach [e] X.env=[(false,eval e X.env)]:=by rfl):
 PE X (.Call (.Name "sorted" p) [e] [⟨some "key",.Lambda params body scope lp,kp⟩] pos) (qd P lp (X.env.qual++"<lambda>") iw te tb):=by
 intro pins s σ H Q I h
 refine wpAny_Call_Name_kw (cW I hg hm n5 ?_)
 have hbk:backTo pos (starEach [e] X.env)=(false,eval e X.env)::backTo pos (starEach [] X.env):=by rw[he];rfl
 refine PyProof.Rows.callWith_kw ?_ hbk (by rw[he];rfl) (by rfl) (by rfl)
 refine ap ((aa ha ac (by exact he)) pos pins s σ H (fun vs H1=>match vs with | [x]=>qd P lp (X.env.qual++"<lambda>") iw (fun _ H Q=>Q x H) tb σ H1 Q | _=>False) I h) fun us s1 ⟨vs,H1,I1,r1,q1⟩=>?_
 match vs,q1 with
 | [x],q1=>
   obtain⟨u,rfl,ru⟩:=r1.one
   obtain⟨l,ns,vw,kf,rfl,hl,hle,hvw,T,turn,k1⟩:=q1
   cases ru
   have cellAt:∀{H':Hp} {s':Shared},Inv X pins σ H' s'→∃cw uw,X.env.cells.lookup fv=some cw∧s'.heap.IsCell cw (some uw)∧RelV vw uw∧H' cw=none:=fun{H' s'} I'=>by
    obtain⟨m,_,hloc⟩:=I'.loc
    obtain⟨uw,rw',lk⟩:=hloc iw fv vw hN hvw (.inr (.inl hkc))
    rcases lk with⟨z,_⟩ | ⟨_,cw,e1,e2⟩
    ·rw[hkc] at z;cases z
    ·exact⟨cw,uw,e1,e2,rw',I'.freeC fv cw e1⟩
   obtain⟨cw,_,hcw,_⟩:=cellAt I1
   refine PyProof.Rows.kws_cons (wM I1 hcode C hB T (hcl cw hcw) hdef fun f c pm ctv H2 s2 I2 T2 k2 hf2 Hf2 hfs _=>PyProof.Rows.kws_nil ?_)
   have hl2:H2 l=some (.lst (ns.map V.int)):=k2 _ _ hl (fun z=>by
    rw[z] at hl
    rcases T with t | ⟨c',t,_⟩ <;> (rw[hl] at t;cases t))
   obtain⟨_,its,n,rv,hz,e1⟩:=I2.lstM hl2
   have hnl:ns.length=its.length:=by rw[←hz,List.length_map]
   have hL:s2.heap.IsList l its.toArray:=⟨_,e1,rfl,n,rfl⟩
   have hr2:Room k X.A.in1.in1:=hr.in1.in1
   have nf:NewAd X pins f:=I1.newAd hfs
   have TT:kJ X pins σ H2 f (PySem.W.kla_obj "<lambda>" (X.env.qual++"<lambda>") params body scope [(fv,cw)] pm c ctv) ns kf:=by
    intro n0 hn0 H' s' u I' sm hf' _ ru
    obtain⟨cw',uw,e2,e3,e4,e5⟩:=cellAt I'
    rw[hcw] at e2
    cases e2
    have e0:=I'.env0.in1.in1
    have hcd:s'.heap.CodeRec (.ref c) (X.env.qual++"<lambda>"):=(I'.hok c _ (sm _ _ T2.2)).1
    refine wpAny_call (uu I' e0.frames hr2.hd hr2.depth S hny hf' hcd e3 e5 e4 ru (hbind _ _ _ _ _ _) (hb _ _ _ _ _ _ _) (turn n0 hn0 H' fun b o e n=>sm _ _ (k2 _ _ e n)) fun v' u' H'' s'' J un rv' q'=>?_)
    obtain⟨k0,rfl,hk0,sm2⟩:=q'
    cases rv'
    exact⟨k0,H'',rfl,J,hk0,sm2,un⟩
   refine PyProof.Rows.call_function_entry_kw kind_sorted plain_sorted entry_sorted (ksk_s1 _ _) ?_
   unfold Builtin.«sorted»
   refine wpAny_bind (m:=checkCount "sorted" 1 1 _) (wpAny_pure (wpAny_bind (collect_list hL (wpAny_bind (wpAny_newList ?_ (fI (by lia)))) (fI (by lia)))))
   have sz1:((s2.heap.push (seqObj "list" #[] 0)).update s2.heap.objs.size (Obj.mapSeq (·++its.toArray))).objs.size=s2.heap.objs.size+1:=by rw[Heap.size_update,size_push']
   have keep:∀b o,s2.heap.get? b=some o→(((s2.heap.push (seqObj "list" #[] 0)).update s2.heap.objs.size (Obj.mapSeq (·++its.toArray))).push (seqObj "list" its.toArray 0)).get? b=some o:=fun b o q=>by
    have hlt:b<s2.heap.objs.size:=Heap.lt_size q
    refine Heap.get?_push_of_some _ ((Heap.get?_update_other _ _ (Nat.ne_of_gt hlt)).trans (Heap.get?_push_of_some _ q))
   have at1:(((s2.heap.push (seqObj "list" #[] 0)).update s2.heap.objs.size (Obj.mapSeq (·++its.toArray))).push (seqObj "list" its.toArray 0)).get? (s2.heap.objs.size+1)=some (seqObj "list" its.toArray 0):=by
    rw[←sz1];exact Heap.get?_push_size _ rfl
   have I3:=I2.kept (h':=((s2.heap.push (seqObj "list" #[] 0)).update s2.heap.objs.size (Obj.mapSeq (·++its.toArray))).push (seqObj "list" its.toArray 0)) (t':=s2.toks) keep
   have hf3:=keep _ _ hf2
   show wpAny _ _ _ _ _ {s2 with heap:=((s2.heap.push (seqObj "list" #[] 0)).update s2.heap.objs.size (Obj.mapSeq (·++its.toArray))).push (seqObj "list" its.toArray 0)}
   rw[sz1]
   generalize ((s2.heap.push (seqObj "list" #[] 0)).update s2.heap.objs.size (Obj.mapSeq (·++its.toArray))).push (seqObj "list" its.toArray 0)=g at*
   have nD:NewAd X pins (s2.heap.objs.size+1):=I2.newAd (Nat.le_succ _)
   have HD2:H2 (s2.heap.objs.size+1)=none:=I2.hok.fresh (Nat.le_succ _)
   have hDf:s2.heap.objs.size+1≠f:=Nat.ne_of_gt (Nat.lt_succ_of_lt (Heap.lt_size hf2))
   refine wpAny_bind (wpAny_holding (wpAny_call_entry_kw slot_list_sort ⟨_,at1,rfl⟩ entry_list_sort ?_ (ksk_l1 _ _)))
   show wpAny (model X.prog X.w) X.A.in1.in1 (Builtin.«list.sort» ⟨[.ref (s2.heap.objs.size+1)],[(Str.ofString "key",.ref f)]⟩) _ _ _
   rw[ksk_t1]
   refine yC hr2.units0 I3 nD at1 HD2 nf hf3 Hf2 hDf rv hle TT fun H4 s4 ms ws c4 I4 sm4 g4 HD4 v4 p4 o4=>⟨_,rfl,wpAny_pure ⟨_,rfl,?_⟩⟩
   have hwl:(ms.map V.int).length≤sizeLine:=by rw[List.length_map,p4.length_eq];exact fI hle
   have I5:=I4.trackE (e:=s2.heap.objs.size+1) (u:=.lst (ms.map V.int)) HD4 (Heap.get?_none_of_le nD.s0) nD.loc nD.cell nD.pin ⟨hwl,ws,c4,v4,g4⟩
   have sm5:Same H2 (upd H4 (s2.heap.objs.size+1) (.lst (ms.map V.int))):=sm4.trans (Same.upd HD4)
   have kk:Keep P H1 (upd H4 (s2.heap.objs.size+1) (.lst (ms.map V.int))):=fun b o e n=>sm5 _ _ (k2 _ _ e n)
   have HD1:H1 (s2.heap.objs.size+1)=none:=by
    cases q:H1 (s2.heap.objs.size+1) with
    | none=>rfl
    | some o=>
      by_cases z:s2.heap.objs.size+1=P
      ·have:=T2.1;rw[←z,HD2] at this;cases this
      ·have:=k2 _ _ q z;rw[HD2] at this;cases this
   exact⟨.ref (s2.heap.objs.size+1),_,I5,rfl,k1 _ ms _ p4 o4 kk ⟨c,sm5 _ _ T2.1,sm5 _ _ T2.2⟩ HD1 ad⟩
theorem vx{M:Model}{A:Around}{E:Value→Shared→Prop}{s:Shared}{src:Source}{n:Nat}{Q:Nat→Shared→Prop}(hn:n≠0)(h:∀i d,i<n→Q i {s with drawn:=d}):wpAny M A (choose src n) Q E s:=fun Γ p _=>by
 unfold choose
 rw[Sem.wp_choose]
 exact⟨hn,h _ _ (Nat.mod_lt _ (by lia))⟩
theorem og{α:Type}{l:List α}{i:Nat}(h:i<l.length):(l[i]::l.eraseIdx i).Perm l:=by
 have e:l.take i++l[i]::l.drop (i+1)=l:=by rw[←List.drop_eq_getElem_cons h,List.take_append_drop]
 rw[List.eraseIdx_eq_take_drop_succ]
 conv=>rhs;rw[←e]
 exact List.perm_middle.symm
theorem ph{M:Model}{A:Around}{E:Value→Shared→Prop}{α:Type}:∀(n:Nat) (xs:List α) (s:Shared) (Q:List α→Shared→Prop),xs.length≤n→(∀ys d,ys.Perm xs→Q ys {s with drawn:=d})→wpAny M A (drawOrder n xs) Q E s
 | 0,xs,s,Q,hl,h=>by
   obtain rfl:xs=[]:=List.length_eq_zero_iff.mp (by lia)
   exact wpAny_pure (h [] s.drawn (List.Perm.refl _))
 | n+1,[],s,Q,hl,h=>wpAny_pure (h [] s.drawn (List.Perm.refl _))
 | n+1,x::xs,s,Q,hl,h=>by
   unfold drawOrder
   refine wpAny_bind (vx (by simp) fun i d hi=>?_)
   have hi':(x::xs)[i]?=some (x::xs)[i]:=by simp[hi]
   rw[hi']
   refine wpAny_bind (ph n ((x::xs).eraseIdx i) _ _ (by rw[List.length_eraseIdx];simp only[List.length_cons] at hl hi ⊢;split <;> lia) fun ys d2 p=>wpAny_pure (h _ d2 ?_))
   exact(p.cons _).trans (og hi)
section
variable{prog:Program}{w:World}{A:Around}{E:Value→Shared→Prop}{s:Shared}{it d:Addr}{i n ep:Nat}{od:Obj}{es:Array DictEntry}
end
section
variable{prog:Program}{w:World}{A:Around}{E:Value→Shared→Prop}{s:Shared}
abbrev tk(prog:Program)(w:World):HeapKind prog w (List aE):=tupleKind (bU prog w)
end
section
variable{X:Cx}{pins:List (Addr×Obj)}{σ:St}{H:Hp}{s:Shared}
end
section
variable{X:Cx}{e:Expr}{te:TE}{p pos:Pos}
end
theorem tG(t:SetTable)(n:Nat):(t.orStandIn n).led=t.led∧(t.plain=false→(t.orStandIn n).plain=false):=by
 unfold SetTable.orStandIn SetTable.standIn
 split
 ·exact⟨rfl,fun z=>z⟩
 ·exact⟨rfl,fun z=>by first | rfl | exact z⟩
theorem wR(t:SetTable)(es:Array (Int×Value))(h:Int)(x:Value):(layNew t es h x).2.1.led=t.led∧(t.plain=false→(layNew t es h x).2.1.plain=false):=by
 unfold layNew
 split
 ·rename_i slot wd _
  exact tG (t.put slot).1 _
 ·exact⟨rfl,fun z=>by first | rfl | exact z⟩
theorem tP(t:SetTable)(es:Array (Int×Value))(n:Nat):(relayAll t es n).2.1.led=t.led∧(t.plain=false→(relayAll t es n).2.1.plain=false):=by
 unfold relayAll
 split
 ·rename_i t' order e
  dsimp only
  split
  ·unfold SetTable.relaid SetTable.laid at e
   cases q:SetTable.layClean (SetTable.sizeAbove n-1) (es.map (·.1)) with
   | none=>rw[q] at e;cases e
   | some owner=>
     rw[q] at e
     cases e
     exact⟨rfl,fun z=>z⟩
  ·exact⟨rfl,fun z=>by first | rfl | exact z⟩
 ·exact⟨rfl,fun z=>by first | rfl | exact z⟩
section
variable{prog:Program}{w:World}{A:Around}{E:Value→Shared→Prop}{s:Shared}
def bM:Value→Str | .str x _=>x | _=>⟨#[]⟩
def c8(w:World)(e:Int×Value):Prop:=∃k t,e=(hashStr w k,.str k t)
structure TxSet(w:World)(led:Bool)(ws:List Str)(o:Obj):Prop where
 ex:o.ExactSet
 got:∃es ep t,o.data=.set es ep t∧(∀e∈es.toList,c8 w e)∧(es.toList.map fun e=>bM e.2).Perm ws∧t.fits es.size=true∧t.led=led∧(ws≠ []→t.plain=false)
theorem lX{l:List (Int×Value)}(h:∀e∈l,c8 w e):ElemsOf (strKind prog w) l:=fun e m=>by
 obtain⟨k,t,rfl⟩:=h e m
 exact⟨⟨k,by show Value.isStrOf k (.str k t)=true;simp[Value.isStrOf],rfl⟩,rfl⟩
theorem kt{α:Type}{m:Sem α}{Q:α→Shared→Prop}(h:wpAny (model prog w) A m (fun _ s'=>s'=s) E s)(k:∀v,Q v s):wpAny (model prog w) A m Q E s:=wpAny_mono h (fun v s' e=>e▸k v) fun _ _ z=>z
theorem zg{α:Type}{c:Bool}{m:Sem Bool}{r:Bool→Sem α}{Q:α→Shared→Prop}(hm:wpAny (model prog w) A m (fun b s'=>b=false∧s'=s) E s)(h:∀b,b=false∨c=false→wpAny (model prog w) A (r b) Q E s):wpAny (model prog w) A (if c=true then m >>= r else pure true >>= r) Q E s:=by
 cases c with
 | false=>exact wpAny_bind (wpAny_pure (h true (.inr rfl)))
 | true=>exact wpAny_bind (wpAny_mono hm (fun b s' z=>z.2▸h b (.inl z.1)) fun _ _ z=>z)
def bF(k:Str)(ws:List Str):List Str:=if k∈ws then ws else ws++[k]
theorem TxSet.lay{o:Obj}{led:Bool}{ws:List Str}{es es':Array (Int×Value)}{ep:Nat}{t t':SetTable}(ex:o.ExactSet)(hd:o.data=.set es ep t)(h1:∀e∈es'.toList,c8 w e)(h2:(es'.toList.map fun e=>bM e.2).Perm ws)(h3:t'.fits es'.size=true)(h4:t'.led=led)(h5:t'.plain=false):
 TxSet w led ws (Obj.putSet es' t' o)∧∃ep',(Obj.putSet es' t' o).data=.set es' ep' t':=by
 rw[putSet_of es' t' hd]
 exact⟨⟨ex,es',ep+1,t',rfl,h1,h2,h3,h4,fun _=>h5⟩,ep+1,rfl⟩
theorem pM{es:List (Int×Value)}{k:Str}(h:∀e∈es,c8 w e):(es.findIdx? fun e=>(strKind prog w).is k e.2)=none↔k∉es.map fun e=>bM e.2:=by
 rw[List.findIdx?_eq_none_iff]
 constructor
 ·intro q z
  obtain⟨e,m,rfl⟩:=List.mem_map.mp z
  obtain⟨u,t,rfl⟩:=h e m
  exact absurd (q _ m) (by show¬Value.isStrOf u (.str u t)=false;simp[Value.isStrOf])
 ·intro q e m
  obtain⟨u,t,rfl⟩:=h e m
  show Value.isStrOf k (.str u t)=false
  have:u≠k:=fun z=>q (List.mem_map.mpr ⟨_,m,z⟩)
  simp[Value.isStrOf,this,Ne.symm this]
theorem uf{a:Addr}{o:Obj}{led:Bool}{ws:List Str}{k:Str}{tg:Tok}{Q:Bool→Shared→Prop}(ho:s.heap.get? a=some o)(hS:TxSet w led ws o)(room:ws.length+1<scanBound)(h:∀h' o' b,Heap.SameBut a s.heap h'→h'.get? a=some o'→TxSet w led (bF k ws) o'→Q b {s with heap:=h'}):wpAny (model prog w) A (setAddHashed a (.str k tg) (hashStr w k)) Q E s:=by
 obtain⟨ex,es,ep,t,hd,hT,hP,hf,hl,hp⟩:=hS
 have len:es.size=ws.length:=by have:=hP.length_eq;simpa using this
 have small:es.size<scanBound:=by lia
 have key:(strKind prog w).is k (.str k tg)=true:=by show Value.isStrOf k (.str k tg)=true;simp[Value.isStrOf]
 have seen:byScan (.str k tg) es=true:=byScan_of (knd:=strKind prog w) rfl small (lX hT)
 refine wpAny_holding ?_
 show wpAny _ _ (setState a >>= _) _ _ _
 refine wpAny_bind (wpAny_setState_of (hf:=hf) ho hd ?_)
 simp only[seen,if_true]
 refine wpAny_bind (wpAny_bind (wpAny_rule (wpAny_bind (wpAny_setScan_of (knd:=strKind prog w) key ho hd hf (lX hT) ?_))))
 by_cases inn:k∈ws
 ·have:(es.toList.findIdx? fun e=>(strKind prog w).is k e.2)≠none:=fun z=>(pM (prog:=prog) hT).mp z (hP.mem_iff.mpr inn)
  obtain⟨j,ej⟩:=Option.ne_none_iff_exists'.mp this
  rw[ej]
  refine wpAny_pure (wpAny_pure (?_:Q false s))
  have:=h s.heap o false (Heap.SameBut.refl a _) ho (by rw[bF,if_pos inn];exact⟨ex,es,ep,t,hd,hT,hP,hf,hl,hp⟩)
  cases s;exact this
 ·rw[(pM (prog:=prog) hT).mpr fun z=>inn (hP.mem_iff.mp z)]
  have pm:=layNew_perm t es (hashStr w k) (.str k tg)
  have ft:=layNew_fits t es (hashStr w k) (.str k tg)
  have mk:=(wR t es (hashStr w k) (.str k tg)).1
  have eh:(strKind prog w).hash k=hashStr w k:=rfl
  generalize layNew t es (hashStr w k) (.str k tg)=X at pm ft mk ⊢
  obtain⟨e1,t1,wd,gv⟩:=X
  dsimp only at pm ft mk ⊢
  have hT1:∀e∈e1.toList,c8 w e:=fun e m=>by
   rcases List.mem_append.mp (Array.toList_push▸pm.mem_iff.mp m) with m | m
   ·exact hT e m
   ·exact List.mem_singleton.mp m▸⟨k,tg,rfl⟩
  have hP1:(e1.toList.map fun e=>bM e.2).Perm (bF k ws):=by
   rw[bF,if_neg inn]
   refine(pm.map _).trans ?_
   rw[Array.toList_push,List.map_append]
   exact hP.append_right _
  have n1:e1.size=ws.length+1:=by have:=hP1.length_eq;rw[bF,if_neg inn] at this;simpa using this
  refine wpAny_bind (kt (by cases gv;exact wpAny_pure rfl;exact wpAny_rule rfl) fun _=>?_)
  refine zg ?_ fun b hb=>?_
  ·rw[hashByValue_scannable 8 rfl];exact wpAny_pure ⟨rfl,rfl⟩
  have lk:∀e2 t2,(∀e∈e2.toList,c8 w e)→(e2.toList.map fun e=>bM e.2).Perm (bF k ws)→t2.fits e2.size=true→t2.led=led→t2.plain=false→∀(s':Shared) o',s'.heap.get? a=some o'→o'.ExactSet→(∃e0 p0 t0,o'.data=.set e0 p0 t0)→∀R:Unit→Shared→Prop,(∀o2,(s'.heap.update a (Obj.putSet e2 t2)).get? a=some o2→TxSet w led (bF k ws) o2→R () {s' with heap:=s'.heap.update a (Obj.putSet e2 t2)})→wpAny (model prog w) A (storeSet a e2 t2) R E s':=by
   intro e2 t2 c1 c2 c3 c4 c5 s' o' ho' ex' hd' R hR
   obtain⟨e0,p0,t0,hd'⟩:=hd'
   have n2:e2.size=ws.length+1:=by have:=c2.length_eq;rw[bF,if_neg inn] at this;simpa using this
   refine wpAny_storeSet_of ho' hd' (hR _ (Heap.get?_update_self _ ho' ?_) (TxSet.lay ex' hd' c1 c2 c3 c4 c5).1) (fits_of_scanBound (by lia))
   rw[putSet_of _ _ hd'];rfl
  generalize e2:(if b=true then t1 else{t1 with plain:=false})=t2
  have m2:t2.fits e1.size=true∧t2.led=led∧t2.plain=false:=by
   subst e2
   cases b with
   | false=>exact⟨SetTable.fits_plain_off ft,mk.trans hl,rfl⟩
   | true=>exact⟨ft,mk.trans hl,hb.resolve_left (by decide)⟩
  refine wpAny_bind (lk e1 t2 hT1 hP1 m2.1 m2.2.1 m2.2.2 s o ho ex ⟨_,_,_,hd⟩ _ fun o2 g2 S2=>?_)
  have sb:=Heap.SameBut.update s.heap a (Obj.putSet e1 t2)
  split
  ·have pr:=relayAll_perm t2 e1 (SetTable.grown e1.size)
   have fr:=relayAll_fits t2 e1 (SetTable.grown e1.size)
   have mr:=tP t2 e1 (SetTable.grown e1.size)
   generalize relayAll t2 e1 (SetTable.grown e1.size)=Y at pr fr mr ⊢
   obtain⟨e3,t3,gv3⟩:=Y
   dsimp only at pr fr mr ⊢
   refine wpAny_bind (kt (by cases gv3;exact wpAny_pure rfl;exact wpAny_rule rfl) fun _=>wpAny_bind ?_)
   obtain⟨ex2,e0,p0,t0,hd2,_⟩:=S2
   exact lk e3 t3 (fun e m=>hT1 e (pr.mem_iff.mp m)) ((pr.map _).trans hP1) fr (mr.1.trans m2.2.1) (mr.2 m2.2.2) _ o2 g2 ex2 ⟨e0,p0,t0,hd2⟩ _ fun o3 g3 S3=>wpAny_pure (wpAny_pure (h _ o3 true (sb.trans (Heap.SameBut.update _ a _)) g3 S3))
  ·exact wpAny_pure (wpAny_pure (h _ o2 true sb g2 S2))
end
section
variable{prog:Program}{w:World}{A:Around}{n:Nat}{P:Nat→Value→Prop}{St:Nat→Shared→Prop}{I:Addr}{fp wr:List Addr}{G:Array GenState→Array GenState→Prop}{R:Result→Shared→Prop}
def eQ:List Str→List Str:=fun l=>l.foldl (fun ws k=>bF k ws) []
theorem yS{led:Bool}(W:WalksS prog w A.in1 I fp wr G n P St){a:Addr}(ha:a∉fp)(ky:Nat→Str)(hky:∀i v,P i v→∃t,v=.str (ky i) t)(few:n+1<scanBound)(ws:Nat→List Str)(hw:∀i,ws (i+1)=bF (ky i) (ws i))(hn:∀i,(ws i).length≤i):∀(d i:Nat) (s:Shared),i+d=n→St i s→(∃o,s.heap.get? a=some o∧TxSet w led (ws i) o)→(∀s',Moved (a::wr) G s s'→(∃o,s'.heap.get? a=some o∧TxSet w led (ws n) o)→R (.ok (.ret .none)) s')→codeAny (model prog w) A (.builtin "set.update.loop" ⟨[.ref a,.ref I],[]⟩) R s:=by
 have haw:a∉wr:=fun h=>ha (W.sub _ h)
 have up:∀b∈wr,b∈a::wr:=fun b hb=>List.mem_cons_of_mem _ hb
 intro d
 induction d with
 | zero=>
   intro i s e hst ⟨o,ho,hS⟩ k;obtain rfl:i=n:=by lia
   refine codeAny_builtin F.entry_set_update_loop ?_;rw[Around.under_plainId F.plain_set_update_loop _]
   refine wpAny_bind (W.done s _ _ hst fun s' hm=>?_);show wpAny _ A.in1 (ret Value.none) _ _ s'
   exact wpAny_pure (k s' (hm.mono up) ⟨o,hm.heap a _ haw ho,hS⟩)
 | succ d ih=>
   intro i s e hst ⟨o,ho,hS⟩ k
   refine codeAny_builtin F.entry_set_update_loop ?_;rw[Around.under_plainId F.plain_set_update_loop _]
   refine wpAny_bind (W.item i s _ _ (by lia) hst fun v s' hP hst' hm=>?_)
   obtain⟨tg,rfl⟩:=hky i v hP
   have ho':=hm.heap a _ haw ho
   refine wpAny_bind (wpAny_holding ?_);unfold setAdd
   refine wpAny_holding (wpAny_bind (wpAny_pyHash_str ?_))
   refine uf (s:={s' with toks:=s'.toks+1}) ho' hS (by have:=hn i;lia) fun h' o2 _ hsb g2 S2=>?_
   have ne:∀b,b≠a→h'.get? b=s'.heap.get? b:=fun b hb=>hsb.2 b hb
   refine wpAny_pure ⟨plainId_quiet F.plain_set_update_loop _,ih (i+1) _ (by lia) (W.frame _ s' _ _ hst' (Nat.le_succ _) fun b hb o e'=>?_) ⟨o2,g2,hw i▸S2⟩ fun s'' hm2 hS4=>?_⟩
   ·rw[ne b fun z=>ha (z▸hb)];exact e'
   ·refine k s'' (Moved.trans W.gtrans ((hm.mono up).then_heap (Nat.le_succ _) fun b o hb e'=>?_) hm2) hS4
    rw[ne b fun z=>hb (z▸List.mem_cons_self)];exact e'
end
abbrev di(led:Bool):Obj:={cls:=.type "set",dict:=none,data:=.set #[] 0 (.fresh 0 0 led)}
section
variable{prog:Program}{w:World}{A:Around}{E:Value→Shared→Prop}{s:Shared}
abbrev cZ(w:World):Bool:=!w.params.followText "set-order"
theorem qN{Q:Value→Shared→Prop}(h:Q (.ref s.heap.objs.size) {s with heap:=s.heap.push (di (cZ w))}):wpAny (model prog w) A (newSet (.type "set")) Q E s:=
 wpAny_bind (wpAny_bind (wpAny_askSetting (wpAny_pure (wpAny_bind (wpAny_alloc (wpAny_pure h))))))
theorem sk(x:Value){Q₁:Value→Shared→Prop}(h:Q₁ (.ref s.heap.objs.size) {s with heap:=s.heap.push (di (cZ w))}):codeAny (model prog w) A (.call (.builtin "set.__new__") ⟨[.type "set",x],[]⟩) (wants Q₁ E) s:=by
 have own:=sub_set_self
 refine codeAny_of_tree (wpAny_bind (wpAny_of_eq (PySem.F.newCall_set_1 x) (wpAny_pure ⟨plainId_quiet PySem.F.plain_set_new _,codeAny_builtin PySem.F.entry_set_new ?_⟩)))
 rw[Around.under_plainId PySem.F.plain_set_new _];unfold Builtin.«set.__new__» Builtin.Frozenset.newClass
 generalize hN:newSet=N
 wp_walk
 subst hN
 exact qN (wpAny_pure h)
def pC(w:World)(s:Shared)(ws:List Str)(s':Shared):Prop:=∃h' tk,s'={s with heap:=h',toks:=tk}∧(∃o,h'.get? s.heap.objs.size=some o∧TxSet w (cZ w) ws o)∧∀b o,b<s.heap.objs.size→s.heap.get? b=some o→h'.get? b=some o
theorem uP(k:Str)(ws:List Str):(bF k ws).length≤ws.length+1:=by unfold bF;split <;> simp
theorem vM(us:List Str):∃ws:Nat→List Str,(∀i,ws (i+1)=bF (us.getD i ⟨#[]⟩) (ws i))∧(∀i,(ws i).length≤i)∧ws us.length=eQ us∧ws 0=[]:=by
 let ws:Nat→List Str:=fun i=>Nat.rec [] (fun i r=>bF (us.getD i ⟨#[]⟩) r) i
 have hw:∀i,ws (i+1)=bF (us.getD i ⟨#[]⟩) (ws i):=fun i=>rfl
 refine⟨ws,hw,fun i=>?_,?_,rfl⟩
 ·induction i with
  | zero=>exact Nat.le_refl _
  | succ i ih=>rw[hw];exact Nat.le_trans (uP _ _) (Nat.succ_le_succ ih)
 ·have:∀j,j≤us.length→ws j=eQ (us.take j):=fun j=>by
   induction j with
   | zero=>intro _;rfl
   | succ j ih=>intro q;rw[hw,ih (by lia),List.take_add_one,eQ,eQ,List.foldl_append,List.getElem?_eq_getElem (by lia)];simp[List.getD_eq_getElem?_getD,List.getElem?_eq_getElem (show j<us.length by lia)]
  rw[this _ (Nat.le_refl _),List.take_length]
theorem qZ{l:Addr}{items:Array Value}{us:List Str}{Q:Value→Shared→Prop}(hh:A.handled=none)(hl:s.heap.IsList l items)(hu:∀(i:Nat) (v:Value),items[i]?=some v→∃t,v=.str (us.getD i ⟨#[]⟩) t)(hz:items.size=us.length)(few:us.length+1<scanBound)(h:∀s',pC w s (eQ us) s'→Q (.ref s.heap.objs.size) s'):wpAny (model prog w) A (call (.type "set") [.ref l]) Q E s:=by
 obtain⟨ws,hw,hn,he,w0⟩:=vM us
 have cs:=PySem.F.called_set
 obtain⟨c,tl,hmro⟩:=cs.mro
 have hmade:=cs.made;have hsub:=cs.sub;have h1:=cs.notType;have h2:=cs.canCreate;have hct:=PySem.F.typeCall_set_1 (.ref l)
 refine wpAny_call (codeAny_of_tree ?_);show wpAny _ _ (callAny (.type "set") _) _ _ _
 refine wpAny_pure ⟨Code.quiet_builtin _ (by decide+kernel),codeAny_builtin PySem.F.entry_type_call ?_⟩
 rw[Around.under_plain (weight_type_call_type "set" [.ref l] []) rfl];repeat (any_goals (first | assumption | wp_step))
 generalize eL:cZ w=led at*
 refine codeAny_mono (sk (.ref l) (E:=E) (Q₁:=fun obj s₁=>obj=.ref s.heap.objs.size∧s₁={s with heap:=s.heap.push (di led)}) ⟨rfl,by rw[eL]⟩) fun r s₁ hr=>?_
 match r,hr with
 | .error e,hr=>exact hr
 | .ok (.ret obj),hr=>
   obtain⟨rfl,rfl⟩:=hr
   have hS:(s.heap.push (di led)).get? s.heap.objs.size=some (di led):=Heap.get?_push_size _ rfl
   have hT:Shared.TypeIs {s with heap:=s.heap.push (di led)} (.ref s.heap.objs.size) "set":=⟨_,hS,rfl⟩
   have hli:=cs.init.lookup;have hbi:=cs.init.bind (.ref s.heap.objs.size);repeat (any_goals (first | assumption | wp_step))
   refine codeAny_mono (codeAny_call_builtin (R:=wants (fun r s₂=>r=.none∧pC w s (eQ us) s₂) E) cs.init.plain PySem.F.entry_set_init (check_set_init_1 hT ?_)) fun r₂ s₂ hr₂=>?_
   ·obtain⟨⟨ocls,odict,odata,oslots⟩,hol,hcl,nl,hdl⟩:=hl
    simp only at hcl hdl
    subst hcl hdl
    have hol':(s.heap.push (di led)).get? l=some {cls:=.type "list",dict:=odict,data:=.seq items nl,slots:=oslots}:=Heap.get?_push_of_some _ hol
    have hsls:=PySem.F.sub_list_set;have hslf:=PySem.F.sub_list_frozenset
    have notD:(Value.type "list" == Value.type "dict")=false:=by decide
    have hl1:(s.heap.push (di led)).IsList l items:=⟨_,hol',rfl,nl,rfl⟩
    unfold Builtin.«set.__init__» noKeywords Builtin.Frozenset.updateFrom;generalize hPI:pyIter=PI;wp_walk;subst hPI
    refine wpAny_pyIter_list hl1 (wpAny_bind (wpAny_runValue ?_))
    have sz:(s.heap.push (di led)).objs.size=s.heap.objs.size+1:=Heap.size_push _ _
    have old:l<s.heap.objs.size:=Heap.lt_size hol
    refine yS (led:=led) ((Walks.list (by simp[hh]) _ l (by rw[sz];exact Nat.ne_of_lt (Nat.lt_succ_of_lt old)) items).toS) (by rw[sz];exact fun z=>(List.mem_cons.mp z).elim (fun e=>absurd e (Nat.ne_of_lt (Nat.lt_succ_self _))) fun z=>absurd (List.mem_singleton.mp z) (Nat.ne_of_gt old)) (fun i=>us.getD i ⟨#[]⟩) hu (by lia) ws hw hn items.size 0 _ (by lia) ⟨⟨_,Heap.get?_push_size _ rfl,rfl,rfl⟩,hl1.push _⟩ ?_ ?_
    ·exact⟨_,Heap.get?_push_of_some _ hS,⟨rfl,rfl,rfl⟩,#[],0,_,rfl,fun e m=>(nomatch m),w0▸ .refl _,rfl,rfl,fun z=>absurd w0 z⟩
    ·intro s' hm hS'
     obtain⟨h',g',d',tk',os'⟩:=s';obtain rfl:g'=s.gens:=hm.gens;obtain rfl:d'=s.drawn:=hm.drawn;obtain rfl:os'=s.os:=hm.os
     refine wpAny_pure (show wpAny _ _ (ret Value.none) _ _ _ from wpAny_pure ⟨rfl,h',tk',rfl,by rw[hz,he] at hS';rw[eL];exact hS',fun b o hb e=>?_⟩)
     exact hm.heap b o (fun z=>(List.mem_cons.mp z).elim (fun e=>absurd e (Nat.ne_of_lt hb)) fun z=>absurd (List.mem_singleton.mp z) (by rw[sz];exact Nat.ne_of_lt (Nat.lt_succ_of_lt hb))) (Heap.get?_push_of_some _ (Heap.get?_push_of_some _ e))
   ·match r₂,hr₂ with
    | .error e,hr₂=>exact hr₂
    | .ok (.ret r),hr₂=>
      obtain⟨rfl,hq⟩:=hr₂
      have hq':=h _ hq;repeat (any_goals (first | assumption | wp_step))
end
section
variable{prog:Program}{w:World}{A:Around}{E:Value→Shared→Prop}{s:Shared}
theorem zn:entryFor table "set.__iter__"=some Builtin.«frozenset.__iter__»:=entryFor_alias (id':="frozenset.__iter__") (by rw[fastTable_eq_tree];kernel_rfl) (by first | rfl | decide+kernel) (by decide+kernel) (by rw[fastTable_eq_tree];kernel_rfl)
theorem slot_setItNext:Slot "set_iterator" "__next__" "set_iterator.__next__":=
 .of (n:="__next__") (owner:="set_iterator") (by rw[typeLookup_type,builtinLookup_eq_fast];kernel_rfl) (by decide+kernel) (by decide+kernel) (by decide+kernel) (by first | exact .inl (by decide+kernel) | exact .inr (by decide+kernel)) (by rw[isSubtype_type];kernel_rfl)
theorem ij:entryFor table "set_iterator.__next__"=some Builtin.«set_iterator.__next__»:=entryFor_of_tree (by kernel_rfl)
theorem gL(x:Value):argsOk "set_iterator.__next__" ⟨[x],[]⟩:=by
 unfold argsOk;rw[signature?_of (rows:=Manifest.sig_set_iterator) (id:="set_iterator.__next__") (n:=['_','_','t','x','e','n','_','_']) (o:="set_iterator".toList.reverse) (by kernel_rfl) (by kernel_rfl)];kernel_rfl
theorem qi:Slot "set_iterator" "__iter__" "set_iterator.__iter__":=
 .of (n:="__iter__") (owner:="set_iterator") (by rw[typeLookup_type,builtinLookup_eq_fast];kernel_rfl) (by decide+kernel) (by decide+kernel) (by decide+kernel) (by first | exact .inl (by decide+kernel) | exact .inr (by decide+kernel)) (by rw[isSubtype_type];kernel_rfl)
theorem xL:entryFor table "set_iterator.__iter__"=some Builtin.«dict_keyiterator.__iter__»:=entryFor_alias (id':="dict_keyiterator.__iter__") (by rw[fastTable_eq_tree];kernel_rfl) (by first | rfl | decide+kernel) (by decide+kernel) (by rw[fastTable_eq_tree];kernel_rfl)
theorem xY(x:Value):argsOk "set_iterator.__iter__" ⟨[x],[]⟩:=by
 unfold argsOk;rw[signature?_of (rows:=Manifest.sig_set_iterator) (id:="set_iterator.__iter__") (n:=['_','_','r','e','t','i','_','_']) (o:="set_iterator".toList.reverse) (by kernel_rfl) (by kernel_rfl)];kernel_rfl
def SIt(h:Heap)(it:Addr)(first:Value)(i:Nat)(a:Addr)(n ep:Nat):Prop:=∃o,h.get? it=some o∧o.cls=.type "set_iterator"∧o.data=.fields #[first,.int i 0,.ref a,.int n 0,.int ep 0]
theorem SIt.typeIs{it a:Addr}{first:Value}{i n ep:Nat}(h:SIt s.heap it first i a n ep):Shared.TypeIs s (.ref it) "set_iterator":=let ⟨o,h1,h2,_⟩:=h;⟨o,h1,h2⟩
theorem SIt.set{it a:Addr}{first x:Value}{i j n ep:Nat}{h:Heap}(hi:SIt h it first i a n ep):SIt (h.update it (Obj.mapFields (·.setIfInBounds 0 x))) it x i a n ep∧SIt (h.update it (Obj.mapFields (·.setIfInBounds 1 (rawInt (j:Nat))))) it first j a n ep:=by
 obtain⟨o,h1,h2,h3⟩:=hi
 refine⟨⟨_,Heap.get?_update_self _ h1 (Obj.isFreed_of_fields (Obj.data_mapFields h3 _)),(Obj.cls_mapFields ..).trans h2,?_⟩,⟨_,Heap.get?_update_self _ h1 (Obj.isFreed_of_fields (Obj.data_mapFields h3 _)),(Obj.cls_mapFields ..).trans h2,?_⟩⟩
 ·rw[Obj.data_mapFields h3];simp
 ·rw[Obj.data_mapFields h3];simp[rawInt]
theorem jH{it a:Addr}{first:Value}{i n ep:Nat}{Q:Value→Shared→Prop}(hi:SIt s.heap it first i a n ep)(q:Q (.ref it) s):wpAny (model prog w) A (pyIter (.ref it)) Q E s:=by
 refine wpAny_pyIter_slot hi.typeIs qi (wpAny_call_entry qi hi.typeIs xL ?_ (xY _))
 exact wpAny_bind (wpAny_pure (wpAny_pure ⟨_,rfl,"set_iterator",_,hi.typeIs,slot_setItNext.lookup,q⟩))
theorem pP{α:Type}{m:Sem α}{Q:α→Shared→Prop}{v:α}(h:wpAny (model prog w) A m (fun r s'=>r=v∧s'=s) (fun _ _=>False) s)(k:Q v s):wpAny (model prog w) A m Q E s:=wpAny_mono h (fun r s' e=>by obtain⟨rfl,rfl⟩:=e;exact k) fun _ _ z=>z.elim
theorem kZ{α:Type}{Q:α→Shared→Prop}{E:Value→Shared→Prop}{s:Shared}(calm:A.handled=none)(q:∀(v:Value) (h':Heap),Shared.TypeIs {s with heap:=h'} v "StopIteration"→(∀b o,s.heap.get? b=some o→h'.get? b=some o)→E v {s with heap:=h'}):wpAny (model prog w) A (newExc (.type "StopIteration") [] >>= fun e=>(raiseNew e:Sem α)) Q E s:=by
 refine wpAny_bind ?_
 simp only[newExc,newTuple];refine wpAny_bind (wpAny_newObj_type ?_ (by size_fits))
 refine wpAny_bind (m:=firstArgMember _ _) (wpAny_of_eq (a:=Value.none) (by first | (simp only[firstArgMember];rfl) | rfl) ?_)
 refine wpAny_newObj_type ?_ (by size_fits);simp only[raiseNew]
 refine wpAny_bind (wpAny_handled ?_);rw[calm]
 exact wpAny_bind (wpAny_pure (wpAny_throw (q _ _ (by exact⟨_,Heap.get?_push_size _ rfl,rfl⟩) fun b o e=>Heap.get?_push_of_some _ (Heap.get?_push_of_some _ e))))
theorem qf{it a:Addr}{o:Obj}{es:Array (Int×Value)}{ep:Nat}{t:SetTable}{slot i n nx:Nat}{x:Value}{Q:Option Value→Shared→Prop}(hi:SIt s.heap it (.int slot 0) i a n ep)(ho:s.heap.get? a=some o)(hd:o.data=.set es ep t)(hf:t.fits es.size=true)(hn:es.size=n)(hN:wpAny (model prog w) A.in1 (setNext a slot i ep) (fun r s'=>r=some (x,nx)∧s'=s) (fun _ _=>False) s)(q:∀h',SIt h' it (.int nx 0) (i+1) a n ep→Heap.SameBut it s.heap h'→Q (some x) {s with heap:=h'}):wpAny (model prog w) A (pyNext (.ref it)) Q E s:=by
 obtain⟨io,i1,i2,i3⟩:=id hi
 unfold pyNext;refine wpAny_bind (wpAny_attempt (wpAny_callSpecial?_slot (name:=Str.ofString "__next__") hi.typeIs slot_setItNext (wpAny_call_entry slot_setItNext hi.typeIs ij ?_ (gL _))))
 refine wpAny_bind (wpAny_pure (wpAny_bind (wpAny_fieldsOf i1 i3 ?_)))
 show wpAny _ _ (setEntries a >>= _) _ _ _
 refine wpAny_bind (wpAny_setEntries_of ho hd hf ?_)
 rw[if_neg (by rw[hn];simp)]
 refine wpAny_bind (pP hN ?_)
 show wpAny _ _ (setField (.ref it) 0 (rawInt nx) >>= _) _ _ _
 refine wpAny_bind (wpAny_setField i1 i3 (by simp) ?_)
 have S1:=(hi.set (x:=rawInt nx) (j:=0)).1
 have b1:=Heap.SameBut.update s.heap it (Obj.mapFields (·.setIfInBounds 0 (rawInt nx)))
 generalize s.heap.update it (Obj.mapFields (·.setIfInBounds 0 (rawInt nx)))=h1 at S1 b1 ⊢
 have S2:=(S1.set (x:=.none) (j:=i+1)).2
 obtain⟨o1,j1,j2,j3⟩:=S1
 show wpAny _ _ (setField (.ref it) 1 (rawInt ((i:Int)+1)) >>= _) _ _ _
 exact wpAny_bind (wpAny_setField j1 j3 (by simp) (wpAny_pure ⟨_,rfl,wpAny_pure (q _ S2 (b1.trans (Heap.SameBut.update ..)))⟩))
theorem ml{it a:Addr}{o:Obj}{es:Array (Int×Value)}{ep:Nat}{t:SetTable}{slot i n:Nat}{Q:Option Value→Shared→Prop}(calm:A.handled=none)(hi:SIt s.heap it (.int slot 0) i a n ep)(ho:s.heap.get? a=some o)(hd:o.data=.set es ep t)(hf:t.fits es.size=true)(hn:es.size=n)(hN:wpAny (model prog w) A.in1 (setNext a slot i ep) (fun r s'=>r=none∧s'=s) (fun _ _=>False) s)(q:∀h',Heap.ExtBut it s.heap h'→Q none {s with heap:=h'}):wpAny (model prog w) A (pyNext (.ref it)) Q E s:=by
 obtain⟨io,i1,i2,i3⟩:=id hi
 unfold pyNext;refine wpAny_bind (wpAny_attempt (wpAny_callSpecial?_slot (name:=Str.ofString "__next__") hi.typeIs slot_setItNext (wpAny_call_entry slot_setItNext hi.typeIs ij ?_ (gL _))))
 refine wpAny_bind (wpAny_pure (wpAny_bind (wpAny_fieldsOf i1 i3 ?_)))
 show wpAny _ _ (setEntries a >>= _) _ _ _
 refine wpAny_bind (wpAny_setEntries_of ho hd hf ?_)
 rw[if_neg (by rw[hn];simp)]
 refine wpAny_bind (pP hN ?_)
 show wpAny _ _ (setField (.ref it) 2 .none >>= _) _ _ _
 refine wpAny_bind (wpAny_setField i1 i3 (by simp) (kZ calm fun v h' ty kp=>?_))
 exact wpAny_bind (wpAny_isInstance (T:="StopIteration") (b:=true) ty isSubtype_stop (wpAny_pure (q h' fun b o hb e=>kp b o ((Heap.SameBut.update ..).extBut b o hb e))))
theorem yE{it a tp:Addr}{o ot:Obj}{es:Array (Int×Value)}{ps:Array Value}{ep np:Nat}{t:SetTable}{i n p:Nat}{hx:Int}{x:Value}{Q:Option Value→Shared→Prop}(hi:SIt s.heap it (.ref tp) i a n ep)(ho:s.heap.get? a=some o)(hd:o.data=.set es ep t)(hf:t.fits es.size=true)(hn:es.size=n)(ht:s.heap.get? tp=some ot)(hs:ot.data=.seq ps np)(hp:ps[i]?=some (rawInt (p:Nat)))(he:es[p]?=some (hx,x))(q:∀h',SIt h' it (.ref tp) (i+1) a n ep→Heap.SameBut it s.heap h'→Q (some x) {s with heap:=h'}):wpAny (model prog w) A (pyNext (.ref it)) Q E s:=by
 obtain⟨io,i1,i2,i3⟩:=id hi
 unfold pyNext;refine wpAny_bind (wpAny_attempt (wpAny_callSpecial?_slot (name:=Str.ofString "__next__") hi.typeIs slot_setItNext (wpAny_call_entry slot_setItNext hi.typeIs ij ?_ (gL _))))
 refine wpAny_bind (wpAny_pure (wpAny_bind (wpAny_fieldsOf i1 i3 ?_)))
 show wpAny _ _ (setEntries a >>= _) _ _ _
 refine wpAny_bind (wpAny_setEntries_of ho hd hf ?_)
 rw[if_neg (by rw[hn];simp)]
 show wpAny _ _ (seqItems? (.ref tp) >>= _) _ _ _
 refine wpAny_bind (wpAny_seqItems ht hs ?_)
 simp only[Int.toNat_natCast,hp,rawInt]
 refine wpAny_bind ?_
 unfold setNextDrawn
 refine wpAny_bind (wpAny_setState_of (hf:=hf) ho hd ?_)
 simp only[bne_self_eq_false,Bool.false_eq_true,if_false,he]
 refine wpAny_pure ?_
 have S2:=(hi.set (x:=.none) (j:=i+1)).2
 show wpAny _ _ (setField (.ref it) 1 (rawInt ((i:Int)+1)) >>= _) _ _ _
 exact wpAny_bind (wpAny_setField i1 i3 (by simp) (wpAny_pure ⟨_,rfl,wpAny_pure (q _ S2 (Heap.SameBut.update ..))⟩))
theorem ss{it a tp:Addr}{o ot:Obj}{es:Array (Int×Value)}{ps:Array Value}{ep np:Nat}{t:SetTable}{i n:Nat}{Q:Option Value→Shared→Prop}(calm:A.handled=none)(hi:SIt s.heap it (.ref tp) i a n ep)(ho:s.heap.get? a=some o)(hd:o.data=.set es ep t)(hf:t.fits es.size=true)(hn:es.size=n)(ht:s.heap.get? tp=some ot)(hs:ot.data=.seq ps np)(hp:ps[i]?=none)(q:∀h',Heap.ExtBut it s.heap h'→Q none {s with heap:=h'}):wpAny (model prog w) A (pyNext (.ref it)) Q E s:=by
 obtain⟨io,i1,i2,i3⟩:=id hi
 unfold pyNext;refine wpAny_bind (wpAny_attempt (wpAny_callSpecial?_slot (name:=Str.ofString "__next__") hi.typeIs slot_setItNext (wpAny_call_entry slot_setItNext hi.typeIs ij ?_ (gL _))))
 refine wpAny_bind (wpAny_pure (wpAny_bind (wpAny_fieldsOf i1 i3 ?_)))
 show wpAny _ _ (setEntries a >>= _) _ _ _
 refine wpAny_bind (wpAny_setEntries_of ho hd hf ?_)
 rw[if_neg (by rw[hn];simp)]
 show wpAny _ _ (seqItems? (.ref tp) >>= _) _ _ _
 refine wpAny_bind (wpAny_seqItems ht hs ?_)
 simp only[Int.toNat_natCast,hp]
 show wpAny _ _ (setField (.ref it) 0 (rawInt 0) >>= _) _ _ _
 refine wpAny_bind (wpAny_setField i1 i3 (by simp) ?_)
 have S1:=(hi.set (x:=rawInt 0) (j:=0)).1
 have b1:=Heap.SameBut.update s.heap it (Obj.mapFields (·.setIfInBounds 0 (rawInt 0)))
 generalize s.heap.update it (Obj.mapFields (·.setIfInBounds 0 (rawInt 0)))=h1 at S1 b1 ⊢
 obtain⟨o1,j1,j2,j3⟩:=S1
 show wpAny _ _ (setField (.ref it) 2 .none >>= _) _ _ _
 refine wpAny_bind (wpAny_setField j1 j3 (by simp) (kZ calm fun v h' ty kp=>?_))
 exact wpAny_bind (wpAny_isInstance (T:="StopIteration") (b:=true) ty isSubtype_stop (wpAny_pure (q h' fun b o hb e=>kp b o ((Heap.SameBut.update ..).extBut b o hb (b1.extBut b o hb e)))))
end
theorem mv{α:Type}(f:Nat→Nat):∀(fuel k:Nat) (left:List α) (out:Array α),left.length≤fuel→(pickOrder.go f fuel k left out).toList.Perm (out.toList++left)
 | 0,k,left,out,h=>by
   obtain rfl:left=[]:=List.length_eq_zero_iff.mp (by lia)
   simp[pickOrder.go]
 | fuel+1,k,[],out,h=>by simp[pickOrder.go]
 | fuel+1,k,x::xs,out,h=>by
   have lt:f k % (x::xs).length<(x::xs).length:=Nat.mod_lt _ (by simp)
   unfold pickOrder.go
   rw[List.getElem?_eq_getElem lt]
   refine(mv f fuel (k+1) _ _ (by rw[List.length_eraseIdx_of_lt lt];simp only[List.length_cons] at h ⊢;lia)).trans ?_
   rw[Array.toList_push,List.append_assoc]
   exact(og lt).append_left _
theorem zC{α:Type}(f:Nat→Nat)(xs:Array α):(pickOrder f xs).toList.Perm xs.toList:=by
 have:=mv f xs.size 0 xs.toList #[] (by simp)
 simpa [pickOrder] using this
section
variable{prog:Program}{w:World}{A:Around}{E:Value→Shared→Prop}{s:Shared}
theorem gw{Q:Bool→Shared→Prop}(h:Q (w.params.followText "set-order") s):wpAny (model prog w) A setsByText Q E s:=wpAny_bind (wpAny_askSetting (wpAny_pure h))
theorem oV{a:Addr}{o:Obj}{es:Array (Int×Value)}{ep:Nat}{t:SetTable}{slot i:Nat}{Q:Option (Value×Nat)→Shared→Prop}(hb:w.params.followText "set-order"=true)(ho:s.heap.get? a=some o)(hd:o.data=.set es ep t)(hf:t.fits es.size=true)(q:Q (((pickOrder (w.params.setOrder a ep) es)[i]?).map fun e=>(e.2,slot)) s):wpAny (model prog w) A (setNext a slot i ep) Q E s:=by
 unfold setNext
 refine wpAny_bind (wpAny_setState_of ho hd hf (wpAny_bind (gw ?_)))
 simp only[hb,if_true,bne_self_eq_false,Bool.false_eq_true,if_false]
 refine wpAny_bind ?_
 unfold setWalk
 refine wpAny_bind (wpAny_setState_of ho hd hf (wpAny_bind (gw ?_)))
 simp only[hb,if_true]
 exact wpAny_bind (wpAny_askSetting (wpAny_pure (wpAny_pure q)))
theorem vB(p j:Nat):SetTable.below #[p] j=if p<j then 1 else 0:=by
 by_cases h:p<j <;> simp[SetTable.below,SetTable.below.go,h]
theorem m6{a:Addr}{o:Obj}{e:Int×Value}{ep:Nat}{t:SetTable}{p slot i:Nat}{Q:Option (Value×Nat)→Shared→Prop}(hb:w.params.followText "set-order"=false)(hl:t.led=true)(hp:t.place=#[p])(ho:s.heap.get? a=some o)(hd:o.data=.set #[e] ep t)(hf:t.fits 1=true)(q:Q (if p<slot then none else some (e.2,p+1)) s):wpAny (model prog w) A (setNext a slot i ep) Q E s:=by
 unfold setNext
 refine wpAny_bind (wpAny_setState_of ho hd hf (wpAny_bind (gw ?_)))
 simp only[hb,if_false,Bool.false_eq_true]
 rw[if_neg (by show¬(!t.plain && decide ((#[e]:Array (Int×Value)).size>1))=true;simp)]
 refine wpAny_bind (kt ?_ fun _=>?_)
 ·show wpAny _ _ (if(!t.led && !(#[e]:Array (Int×Value)).isEmpty)=true then _ else _) _ _ _
  rw[hl];exact wpAny_pure rfl
 ·rw[hp,vB]
  refine wpAny_pure ?_
  by_cases z:p<slot <;> simpa [z] using q
end
section
variable{prog:Program}{w:World}{A:Around}{E:Value→Shared→Prop}{s:Shared}
def d6(ys:List Str)(i:Nat)(v:Value):Prop:=∃t,∃h:i<ys.length,v=.str ys[i] t
theorem kB{it:Addr}{h h':Heap}(sb:Heap.SameBut it h h'):∀b o,b∉ [it]→h.get? b=some o→h'.get? b=some o:=fun b o hb e=>(sb.2 b fun z=>hb (z▸List.mem_singleton_self _)).trans e
theorem jU{it:Addr}{h h':Heap}(sb:Heap.ExtBut it h h'):∀b o,b∉ [it]→h.get? b=some o→h'.get? b=some o:=fun b o hb e=>sb b o (fun z=>hb (z▸List.mem_singleton_self _)) e
theorem kH{it a:Addr}{first:Value}{i n ep:Nat}{h h':Heap}(x:SIt h it first i a n ep)(k:∀o,h.get? it=some o→h'.get? it=some o):SIt h' it first i a n ep:=let ⟨o,h1,h2,h3⟩:=x;⟨o,k o h1,h2,h3⟩
theorem pV{es:Array (Int×Value)}(hT:∀e∈es.toList,c8 w e){p:Nat}(hp:p<es.size):∃t,es[p].2=.str (bM es[p].2) t:=by
 obtain⟨k,t,e⟩:=hT es[p] (by rw[←Array.getElem_toList];exact List.getElem_mem _)
 exact⟨t,by rw[e];rfl⟩
theorem tU{a it:Addr}{o:Obj}{es:Array (Int×Value)}{ep:Nat}{t:SetTable}(calm:A.handled=none)(hne:it≠a)(hb:w.params.followText "set-order"=true)(hd:o.data=.set es ep t)(hf:t.fits es.size=true)(hT:∀e∈es.toList,c8 w e):∃ys:List Str,ys.Perm (es.toList.map fun e=>bM e.2)∧Walks prog w A it [it,a] [it] es.size (d6 ys) (fun i h=>SIt h it (.int 0 0) i a es.size ep∧h.get? a=some o):=by
 have pm:=zC (w.params.setOrder a ep) es
 have sz:(pickOrder (w.params.setOrder a ep) es).size=es.size:=by simpa using pm.length_eq
 refine⟨(pickOrder (w.params.setOrder a ep) es).toList.map fun e=>bM e.2,pm.map _,fun b hb=>by simp at hb;simp[hb],fun i h h' x k=>⟨kH x.1 fun o e=>k it (by simp) o e,k a (by simp) o x.2⟩,fun i s Q E hi x q=>?_,fun s Q E x q=>?_,fun i s Q E x q=>jH x.1 q⟩
 ·have hi':i<(pickOrder (w.params.setOrder a ep) es).size:=by lia
  obtain⟨tg,ev⟩:=pV (w:=w) (es:=pickOrder (w.params.setOrder a ep) es) (fun e m=>hT e (pm.mem_iff.mp m)) hi'
  refine qf (slot:=0) (nx:=0) (x:=((pickOrder (w.params.setOrder a ep) es)[i]).2) x.1 x.2 hd hf rfl (oV hb x.2 hd hf ⟨by rw[Array.getElem?_eq_getElem hi'];rfl,rfl⟩) fun h' S sb=>?_
  exact q _ h' s.toks ⟨tg,by simpa using hi',by simpa using ev⟩ ⟨S,(sb.2 a hne.symm).trans x.2⟩ (kB sb)
 ·exact ml (slot:=0) calm x.1 x.2 hd hf rfl (oV hb x.2 hd hf ⟨by rw[Array.getElem?_eq_none (by lia)];rfl,rfl⟩) fun h' sb=>q h' s.toks (jU sb)
theorem sy{a it tp:Addr}{o ot:Obj}{es:Array (Int×Value)}{ep np:Nat}{t:SetTable}{ps:List Nat}(calm:A.handled=none)(hne:it≠a)(hnt:it≠tp)(hd:o.data=.set es ep t)(hf:t.fits es.size=true)(hT:∀e∈es.toList,c8 w e)(ht:ot.data=.seq (ps.map fun i:Nat=>rawInt i).toArray np)(pp:ps.Perm (List.range es.size)):
 ∃ys:List Str,ys.Perm (es.toList.map fun e=>bM e.2)∧Walks prog w A it [it,a,tp] [it] es.size (d6 ys) (fun i h=>SIt h it (.ref tp) i a es.size ep∧h.get? a=some o∧h.get? tp=some ot):=by
 have sz:ps.length=es.size:=by simpa using pp.length_eq
 have inb:∀p∈ps,p<es.size:=fun p m=>List.mem_range.mp (pp.mem_iff.mp m)
 refine⟨ps.map fun p=>bM (es.getD p (0,.none)).2,?_,fun b hb=>by simp at hb;simp[hb],fun i h h' x k=>⟨kH x.1 fun o e=>k it (by simp) o e,k a (by simp) o x.2.1,k tp (by simp) ot x.2.2⟩,fun i s Q E hi x q=>?_,fun s Q E x q=>?_,fun i s Q E x q=>jH x.1 q⟩
 ·refine(pp.map _).trans (List.Perm.of_eq (List.ext_getElem (by simp) fun i h1 h2=>?_))
  have:i<es.size:=by simpa using h1
  simp[Array.getD,this]
 ·have hi':i<ps.length:=by lia
  have hp:=inb ps[i] (List.getElem_mem _)
  obtain⟨tg,ev⟩:=pV hT hp
  refine yE (p:=ps[i]) (hx:=es[ps[i]].1) (x:=es[ps[i]].2) x.1 x.2.1 hd hf rfl x.2.2 ht (by simp[hi']) (by rw[Array.getElem?_eq_getElem hp]) fun h' S sb=>?_
  refine q _ h' s.toks ⟨tg,by simpa using hi',?_⟩ ⟨S,(sb.2 a hne.symm).trans x.2.1,(sb.2 tp hnt.symm).trans x.2.2⟩ (kB sb)
  rw[List.getElem_map,Array.getD,dif_pos hp]
  exact ev
 ·exact ss calm x.1 x.2.1 hd hf rfl x.2.2 ht (by simp;lia) fun h' sb=>q h' s.toks (jU sb)
theorem yH{a it:Addr}{o:Obj}{e:Int×Value}{ep p:Nat}{t:SetTable}(calm:A.handled=none)(hne:it≠a)(hb:w.params.followText "set-order"=false)(hl:t.led=true)(hp:t.place=#[p])(hd:o.data=.set #[e] ep t)(hf:t.fits 1=true)(hT:c8 w e):Walks prog w A it [it,a] [it] 1 (d6 [bM e.2]) (fun i h=>SIt h it (.int (if i=0 then 0 else p+1:Nat) 0) i a 1 ep∧h.get? a=some o):=by
 refine⟨fun b hb=>by simp at hb;simp[hb],fun i h h' x k=>⟨kH x.1 fun o e=>k it (by simp) o e,k a (by simp) o x.2⟩,fun i s Q E hi x q=>?_,fun s Q E x q=>?_,fun i s Q E x q=>jH x.1 q⟩
 ·obtain rfl:i=0:=by lia
  obtain⟨k,tg,rfl⟩:=hT
  refine qf (slot:=0) (nx:=p+1) (x:=.str k tg) x.1 x.2 hd hf rfl (m6 hb hl hp x.2 hd hf ⟨by simp,rfl⟩) fun h' S sb=>?_
  exact q _ h' s.toks ⟨tg,by simp,rfl⟩ ⟨S,(sb.2 a hne.symm).trans x.2⟩ (kB sb)
 ·exact ml (slot:=p+1) calm x.1 x.2 hd hf rfl (m6 hb hl hp x.2 hd hf ⟨by simp,rfl⟩) fun h' sb=>q h' s.toks (jU sb)
end
section
variable{prog:Program}{w:World}{A:Around}{E:Value→Shared→Prop}{s:Shared}
theorem vE{A':Around}{a:Addr}{o:Obj}{ws:List Str}{Q:Value→Shared→Prop}(calm:A'.handled=none)(ho:s.heap.get? a=some o)(hS:TxSet w (cZ w) ws o)(hw:ws≠ [])(few:ws.length≤sizeLine)(q:∀(h':Heap) (dr:Drawn) (it:Addr) (ys:List Str) (fp:List Addr) (St:Nat→Heap→Prop),(∀b u,s.heap.get? b=some u→h'.get? b=some u)→s.heap.objs.size≤it→(∀b∈fp,b=a∨s.heap.objs.size≤b)→ys.Perm ws→Walks prog w A' it fp [it] ws.length (d6 ys) St→St 0 h'→Q (.ref it) {s with heap:=h',drawn:=dr}):wpAny (model prog w) A (pyIter (.ref a)) Q E s:=by
 obtain⟨ex,es,ep,t,hd,hT,hP,hf,hl,hp⟩:=hS
 have hTy:Shared.TypeIs s (.ref a) "set":=⟨o,ho,ex.1⟩
 have len:es.size=ws.length:=by simpa using hP.length_eq
 have old:=Heap.lt_size ho
 rw[←len] at q
 refine wpAny_pyIter_slot hTy PySem.F.slot_set_iter (wpAny_call_entry PySem.F.slot_set_iter hTy zn ?_ (PySem.F.args_set_iter_1 _))
 unfold Builtin.«frozenset.__iter__»
 refine wpAny_bind (wpAny_bind (wpAny_pure (wpAny_pure (wpAny_bind (wpAny_bind (wpAny_setEntries_of ho hd hf (wpAny_pure (wpAny_bind ?_))))))))
 unfold setDrawn
 refine wpAny_bind (wpAny_setState_of ho hd hf (wpAny_bind (gw (wpAny_pure ?_))))
 show wpAny _ _ (if(!w.params.followText "set-order" && (!t.plain && decide (es.size>1)))=true then _ else _) _ _ _
 rw[hp hw]
 have last:∀(h:Heap) (dr:Drawn) (first:Value),(∀b u,s.heap.get? b=some u→h.get? b=some u)→(∀h',(∀b u,h.get? b=some u→h'.get? b=some u)→SIt h' h.objs.size first 0 a es.size ep→h'.get? a=some o→Q (.ref h.objs.size) {s with heap:=h',drawn:=dr})→
  wpAny (model prog w) A.in1 (setEpoch a >>= fun e=>newFields "set_iterator" [first,rawInt 0,.ref a,rawInt es.size,rawInt e] >>= fun v=>ret v) (fun fin s'=>∃v,fin=Fin.done (Flow.ret v)∧∃T' r,s'.TypeIs v T'∧typeLookup (Value.type T') (Str.ofString "__next__")=pure (some r)∧Q v s') E {s with heap:=h,drawn:=dr}:=fun h dr first k z=>
  wpAny_bind (wpAny_setEpoch_of (s:={s with heap:=h,drawn:=dr}) (k a o ho) hd hf (wpAny_bind (wpAny_newObj_type (wpAny_pure ⟨_,rfl,"set_iterator",_,⟨_,Heap.get?_push_size _ rfl,rfl⟩,slot_setItNext.lookup,z _ (fun b u e=>Heap.get?_push_of_some _ e) ⟨_,Heap.get?_push_size _ rfl,rfl,rfl⟩ (Heap.get?_push_of_some _ (k a o ho))⟩))))
 have s0:s={s with heap:=s.heap,drawn:=s.drawn}:=by cases s;rfl
 by_cases hb:w.params.followText "set-order"=true
 ·rw[hb]
  simp only[Bool.not_true,Bool.false_and,Bool.false_eq_true,if_false]
  refine wpAny_bind (wpAny_pure ?_);have:=last s.heap s.drawn (rawInt 0) (fun _ _ e=>e) fun h' k S ha=>by
   obtain⟨ys,py,W⟩:=tU (prog:=prog) (A:=A') (it:=s.heap.objs.size) calm (Nat.ne_of_gt old) hb hd hf hT
   exact q h' s.drawn _ ys _ _ k (Nat.le_refl _) (fun b m=>by simp at m;rcases m with rfl | rfl;exact .inr (Nat.le_refl _);exact .inl rfl) (py.trans hP) W ⟨S,ha⟩
  rw[s0];exact this
 ·have hb:w.params.followText "set-order"=false:=by simpa using hb
  rw[hb]
  by_cases two:es.size>1
  ·rw[decide_eq_true two]
   simp only[Bool.not_false,Bool.true_and,if_true]
   refine wpAny_bind (ph _ _ s _ (by simp) fun ps dr pp=>wpAny_bind (wpAny_newTuple ?_ (by have:=pp.length_eq;simp at this ⊢;lia)))
   refine last _ dr (.ref s.heap.objs.size) (fun b u e=>Heap.get?_push_of_some _ e) fun h' k S ha=>?_
   have sz:(s.heap.push {cls:=.type "tuple",data:=.seq (ps.map fun i:Nat=>rawInt i).toArray}).objs.size=s.heap.objs.size+1:=Heap.size_push _ _
   have tt:=k s.heap.objs.size _ (Heap.get?_push_size _ rfl)
   rw[sz] at S ⊢
   obtain⟨ys,py,W⟩:=sy (prog:=prog) (A:=A') (it:=s.heap.objs.size+1) (tp:=s.heap.objs.size) (ot:={cls:=.type "tuple",data:=.seq (ps.map fun i:Nat=>rawInt i).toArray}) calm (Nat.ne_of_gt (Nat.lt_succ_of_lt old)) (Nat.succ_ne_self _) hd hf hT rfl pp
   exact q h' dr _ ys _ _ (fun b u e=>k b u (Heap.get?_push_of_some _ e)) (Nat.le_succ _) (fun b m=>by simp at m;rcases m with rfl | rfl | rfl;exact .inr (Nat.le_succ _);exact .inl rfl;exact .inr (Nat.le_refl _)) (py.trans hP) W ⟨S,ha,tt⟩
  ·rw[decide_eq_false two]
   simp only[Bool.not_false,Bool.and_false,Bool.false_eq_true,if_false]
   refine wpAny_bind (wpAny_pure ?_);have one:es.size=1:=by
    have:ws.length≠0:=fun z=>hw (List.length_eq_zero_iff.mp z)
    lia
   obtain⟨e,rfl⟩:∃e,es=#[e]:=Array.size_eq_one_iff.mp one
   obtain⟨p,ep'⟩:∃p,t.place=#[p]:=Array.size_eq_one_iff.mp (by unfold SetTable.fits at hf;simp at hf;exact hf.1)
   have W:=yH (prog:=prog) (A:=A') (it:=s.heap.objs.size) calm (Nat.ne_of_gt old) hb (by rw[hl,cZ,hb];rfl) ep' hd hf (hT e (by simp))
   have:=last s.heap s.drawn (rawInt 0) (fun _ _ e=>e) fun h' k S ha=>by
    exact q h' s.drawn _ _ _ _ k (Nat.le_refl _) (fun b m=>by simp at m;rcases m with rfl | rfl;exact .inr (Nat.le_refl _);exact .inl rfl) hP W ⟨S,ha⟩
   rw[s0];exact this
theorem tw{r:Addr}{Q:Bool→Shared→Prop}(hT:s.TypeIs (.ref r) "set")(h:Q false s):wpAny (model prog w) A (Builtin.List.listLengthHint (.ref r)) Q E s:=by
 have sp:splitId "set.__len__"=some ("set","__len__"):=by decide+kernel
 unfold Builtin.List.listLengthHint;refine wpAny_bind (wpAny_specialOf hT PySem.F.slot_set_len.lookup ?_)
 generalize hid:("set.__len__":String)=id0 at sp
 wp_delta
 rw[sp]
 subst hid
 refine wpAny_bind (wpAny_isInstance (T:="set") (b:=true) hT sub_set_self ?_)
 refine wpAny_ite_split (fun z=>absurd z (by decide)) fun _=>wpAny_ite_split (fun _=>wpAny_bind (wpAny_typeOf hT (wpAny_pure h))) fun z=>absurd (by decide+kernel) z
theorem tK{R:Result→Shared→Prop}{a l:Addr}{o:Obj}{ws:List Str}{c:Nat}(res:Value)(calm:A.handled=none)(ho:s.heap.get? a=some o)(hS:TxSet w (cZ w) ws o)(hw:ws≠ [])(few:ws.length≤sizeLine)(hla:l≠a)(hl:s.heap.get? l=some {cls:=.type "list",data:=.seq #[] c})(q:∀(h':Heap) (dr:Drawn) (tk:Nat) (ys:List Str) (acc:Array Value) (c':Nat),(∀b u,b≠l→s.heap.get? b=some u→h'.get? b=some u)→h'.get? l=some {cls:=.type "list",data:=.seq acc c'}→ys.Perm ws→ItemsOf (d6 ys) acc ws.length→R (.ok (.ret res)) {s with heap:=h',drawn:=dr,toks:=tk}):wpAny (model prog w) A.in1 (Builtin.List.listExtendWith (.ref l) (.ref a) res) (fun fin s'=>match fin with | .done f=>R (.ok f) s' | .again c'=>c'.quiet=true∧codeAny (model prog w) A c' R s') (fun e s'=>R (.error e) s') s:=by
 have hT:s.TypeIs (.ref a) "set":=⟨o,ho,hS.ex.1⟩
 unfold Builtin.List.listExtendWith;refine wpAny_bind (wpAny_typeOf hT ?_)
 rw[if_neg (by simp[Builtin.List.listSameRef,hla])]
 refine wpAny_bind (vE (A':=A.in1) calm ho hS hw few fun h1 dr it ys fp St k1 hit hfp py W st=>?_)
 have lf:l∉fp:=fun m=>(hfp l m).elim hla fun z=>absurd (Heap.lt_size hl) (Nat.not_lt.mpr z)
 refine wpAny_bind (wpAny_holding (tw ⟨o,k1 a o ho,hS.ex.1⟩ ?_))
 have g1:=k1 l _ hl
 have go:∀(h2:Heap) (c2:Nat),(∀b u,b≠l→h1.get? b=some u→h2.get? b=some u)→h2.get? l=some {cls:=.type "list",data:=.seq #[] c2}→codeAny (model prog w) A (.builtin "list.extend.loop" ⟨[.ref l,.ref it,res],[]⟩) R {s with heap:=h2,drawn:=dr}:=fun h2 c2 k2 g2=>by
  refine codeAny_extend_loopS W.toS few l lf res ws.length 0 {s with heap:=h2,drawn:=dr} #[] c2 rfl (Nat.zero_le _) (W.frame 0 h1 h2 st fun b m u e=>k2 b u (fun z=>lf (z▸m)) e) g2 (ItemsOf.nil _) fun s' acc c' hm hS' hacc=>?_
  rw[Moved.eq_with hm]
  refine q s'.heap dr s'.toks ys acc c' (fun b u hb e=>hm.heap b u (fun m=>?_) (k2 b u hb (k1 b u e))) hS' py hacc
  rcases List.mem_cons.mp m with z | m
  ·exact hb z
  ·exact absurd (Heap.lt_size e) (by rw[List.mem_singleton.mp m];exact Nat.not_lt.mpr hit)
 refine wpAny_ite_split (fun _=>wpAny_bind (wpAny_rule (wpAny_bind ?_))) fun _=>wpAny_pure ⟨plainId_quiet PySem.F.plain_extend_loop _,go h1 c (fun _ _ _ e=>e) g1⟩
 refine wpAny_bind (m:=updateSeq l (·.push .none)) (f:=fun _=>updateSeq l (·.pop)) (wpAny_updateSeq g1 rfl ?_)
 have g2:=Heap.get?_update_self (Obj.mapSeq (·.push Value.none)) g1 rfl
 refine wpAny_updateSeq (hz:=by seq_fits) g2 rfl (wpAny_pure ⟨plainId_quiet PySem.F.plain_extend_loop _,go _ _ (fun b u hb e=>?_) (Heap.get?_update_self (Obj.mapSeq (·.pop)) g2 rfl)⟩)
 rw[Heap.get?_update_other _ _ (Ne.symm hb),Heap.get?_update_other _ _ (Ne.symm hb)]
 exact e
end
section
variable{prog:Program}{w:World}{A:Around}{E:Value→Shared→Prop}{s:Shared}
theorem xR{a:Addr}{o:Obj}{ws:List Str}{R:List Value→Shared→Prop}(calm:A.handled=none)(ho:s.heap.get? a=some o)(hS:TxSet w (cZ w) ws o)(hw:ws≠ [])(few:ws.length≤sizeLine)(q:∀(h':Heap) (dr:Drawn) (tk:Nat) (ys:List Str) (acc:Array Value),(∀b u,s.heap.get? b=some u→h'.get? b=some u)→ys.Perm ws→ItemsOf (d6 ys) acc ws.length→R acc.toList {s with heap:=h',drawn:=dr,toks:=tk}):wpAny (model prog w) A (collect (.ref a)) R E s:=by
 have old:=Heap.lt_size ho
 refine wpAny_bind (wpAny_runValue (codeAny_builtin entry_proto_collect' (?_:wpAny _ (A.under _) _ _ _ s)));rw[Around.under_plainId PySem.F.plain_proto_collect _]
 refine wpAny_bind (m:=newList []) (f:=fun l=>again (.builtin "list.__iadd__" ⟨[l,.ref a],[]⟩)) (wpAny_newObj_type (wpAny_pure ⟨plainId_quiet PySem.F.plain_list_iadd _,codeAny_builtin entry_list_iadd' ?_⟩))
 rw[Around.under_plainId PySem.F.plain_list_iadd _];have hl:(s.heap.push {cls:=.type "list",data:=.seq ([]:List Value).toArray}).get? s.heap.objs.size=some {cls:=.type "list",data:=.seq #[]}:=Heap.get?_push_size _ rfl
 show wpAny _ A.in1 (Builtin.List.listExtendWith (.ref s.heap.objs.size) (.ref a) (.ref s.heap.objs.size)) _ _ _
 have go:=tK (prog:=prog) (A:=A) (R:=fun(r:Result) (s':Shared)=>∃(h':Heap) (dr:Drawn) (tk:Nat) (ys:List Str) (acc:Array Value) (c':Nat),r=.ok (.ret (.ref s.heap.objs.size))∧s'={s with heap:=h',drawn:=dr,toks:=tk}∧(∀b u,s.heap.get? b=some u→h'.get? b=some u)∧h'.get? s.heap.objs.size=some {cls:=.type "list",data:=.seq acc c'}∧ys.Perm ws∧ItemsOf (d6 ys) acc ws.length)
  (s:={s with heap:=s.heap.push {cls:=.type "list",data:=.seq ([]:List Value).toArray}}) (.ref s.heap.objs.size) calm (Heap.get?_push_of_some _ ho) hS hw few (Nat.ne_of_gt old) hl
  fun h' dr tk ys acc c' k g py it=>⟨h',dr,tk,ys,acc,c',rfl,rfl,fun b u e=>k b u (Nat.ne_of_lt (Heap.lt_size e)) (Heap.get?_push_of_some _ e),g,py,it⟩
 have out:∀{r:Result} {s':Shared},(∃(h':Heap) (dr:Drawn) (tk:Nat) (ys:List Str) (acc:Array Value) (c':Nat),r=.ok (.ret (.ref s.heap.objs.size))∧s'={s with heap:=h',drawn:=dr,toks:=tk}∧(∀b u,s.heap.get? b=some u→h'.get? b=some u)∧h'.get? s.heap.objs.size=some {cls:=.type "list",data:=.seq acc c'}∧ys.Perm ws∧ItemsOf (d6 ys) acc ws.length)→r=.ok (.ret (.ref s.heap.objs.size))∧wpAny (model prog w) A (match (Value.ref s.heap.objs.size) with | .ref a=>(load a >>= fun o=>match o.data with | .seq xs _=>pure xs.toList | _=>unsupported "internal:collect") | _=>unsupported "internal:collect") R E s':=by
  rintro r s' ⟨h',dr,tk,ys,acc,c',rfl,rfl,k,g,py,it⟩
  exact⟨rfl,wpAny_bind (wpAny_load g (wpAny_pure (q h' dr tk ys acc k py it)))⟩
 refine wpAny_mono go (fun fin s' x=>?_) fun e s' x=>?_
 ·cases fin with
  | done f=>
    obtain⟨e,y⟩:=out x
    cases e
    exact y
  | again c₁=>
    refine⟨x.1,codeAny_mono x.2 fun r s₂ y=>?_⟩
    obtain⟨e,z⟩:=out y
    subst e
    exact z
 ·have:=(out x).1
  cases this
end
def vp(vs:List Value):Prop:=∀v∈vs,∃x t,v=.str x t
theorem j8{α β:Type}{f:α→Sem β}{g:α→β}:∀{l:List α},(∀x∈l,f x=pure (g x))→l.mapM f=pure (l.map g)
 | [],_=>by simp
 | x::l,h=>by rw[List.mapM_cons,h x (by simp),j8 (l:=l) fun y m=>h y (by simp[m])];simp
theorem vF{v:Value}{vs:List Value}(h:vp (v::vs)):keyKind' (v::vs).toArray=pure oneType':=by
 have e1:(v::vs).mapM firstOfTuple'=pure ((v::vs).map fun _=>none):=j8 fun x m=>by obtain⟨y,t,rfl⟩:=h x m;rfl
 have e2:(v::vs).mapM typeOf=pure ((v::vs).map fun _=>Value.type "str"):=j8 fun x m=>by obtain⟨y,t,rfl⟩:=h x m;rfl
 have a:((v::vs).map fun _=>Value.type "str").toArray.all (fun x=>x == Value.type "str")=true:=by simp
 have n:(((v::vs).map fun _=>(none:Option Value)).toArray.all fun x=>x.isSome)=false:=by simp
 have z:((v::vs).map fun _=>Value.type "str").toArray[0]?=some (Value.type "str"):=by simp
 rw[keyKind'_eq,oneTypeOnly'_eq,List.mapM_toArray,List.mapM_toArray,e1,e2]
 simp only[map_pure,pure_bind,n,z,a,Bool.false_eq_true,if_false,if_true,Option.isSome_some]
 simp
def wJ(k:Keyed):Int:=match k.1 with | .str x _=>((x.cps.toList.headD 0:Nat):Int) | _=>0
section
variable{prog:Program}{w:World}{A:Around}{E:Value→Shared→Prop}{s:Shared}
theorem yB{c d:Nat}{t u:Tok}{Q:Bool→Shared→Prop}(h:Q (decide ((c:Int)<(d:Int))) s):wpAny (model prog w) A (oneLt' true (.str (aA c) t) (.str (aA d) u)) Q E s:=by
 have e:decide ((aA c).cps.toList<(aA d).cps.toList)=decide ((c:Int)<(d:Int)):=decide_eq_decide.mpr (by show [c] < [d]↔_;rw[List.cons_lt_cons_iff];simp)
 rw[oneLt'_eq,if_pos rfl]
 refine wpAny_bind (wpAny_cRoomFor_byValue rfl (wpAny_bind (wpAny_callSpecialIfBound?_slot (typeIs_str s _ t) PySem.F.slot_str_lt (wpAny_call_entry PySem.F.slot_str_lt (typeIs_str s _ t) PySem.F.entry_str_lt ?_ (PySem.F.args_str_lt_2 _ _)))))
 show wpAny _ _ (ret (.bool (decide ((aA c).cps.toList<(aA d).cps.toList)))) _ _ s
 rw[e]
 exact wpAny_pure ⟨_,rfl,wpAny_truthy_bool h⟩
theorem rJ{a₀:Array Keyed}(h0:∀x∈a₀,∃c t,x.1=.str (aA c) t):fh wX wJ prog w A E s a₀ oneType':=by
 intro x y hx hy st Q hk q
 obtain⟨a,t,ex⟩:=h0 x hx
 obtain⟨b,u,ey⟩:=h0 y hy
 obtain⟨x1,x2⟩:=x
 obtain⟨y1,y2⟩:=y
 dsimp only at ex ey
 subst ex ey
 rw[lt'_eq]
 refine wpS_bind (wpS_get ?_)
 rw[hk,keyLt'_oneType]
 exact wpS_bind (wpS_lift (wpAny_attempt (yB ⟨rfl,wpS_pure q⟩)))
def jJ(vs:List Value):Prop:=∀v∈vs,∃c t,v=.str (aA c) t
theorem yQ{a:Addr}{vs:List Value}{n:Nat}{P:Fin→Shared→Prop}(ho:s.heap.get? a=some (seqObj "list" vs.toArray n))(hI:jJ vs)(hle:vs.length≤63)(h:∀ws:List Value,ws.Perm vs→P (.done (.ret .none)) {s with heap:=sortedHeap s.heap a vs ws.toArray}):wpAny (model prog w) A (Builtin.«list.sort» ⟨[.ref a],[]⟩) P E s:=by
 have big:vs.length≤sizeLine:=Nat.le_trans hle (by decide)
 generalize hh:s.heap.update a (Obj.mapSeq fun _=>#[])=h0
 have g0:∃e0,h0.get? a=some (seqObj "list" #[] e0):=⟨_,hh▸get?_update_seq ho (fun _=>#[])⟩
 obtain⟨e0,g0⟩:=g0
 have g2:((h0.push (seqObj "tuple" vs.toArray 0)).push (seqObj "list" #[] 0)).get? a=some (seqObj "list" #[] e0):=Heap.get?_push_of_some _ (Heap.get?_push_of_some _ g0)
 rw[list_sort_plain]
 refine wpAny_bind (listItems_at ho rfl (wpAny_bind (listUpdate_at ho rfl ?_)))
 simp only[hh]
 refine wpAny_bind (seqEpoch_at g0 rfl (wpAny_bind (wpAny_newTuple (wpAny_bind (wpAny_newList (wpAny_holding (?_:wpAny (model prog w) A _ P E {s with heap:=(h0.push (seqObj "tuple" vs.toArray 0)).push (seqObj "list" #[] 0)})))))))
 have lay:∀ws:List Value,P (.done (.ret .none)) {s with heap:=sortedHeap s.heap a vs ws.toArray}→P (.done (.ret .none)) {s with heap:=((h0.push (seqObj "tuple" vs.toArray 0)).push (seqObj "list" #[] 0)).update a (Obj.mapSeq fun _=>ws.toArray)}:=fun ws x=>by
  rw[←hh];exact x
 have fin:∀z:SortSt,(arrOf z).Perm (pairsOf vs)→((arrOf z).map (·.2)).size≤sizeLine∧P (.done (.ret .none)) {s with heap:=((h0.push (seqObj "tuple" vs.toArray 0)).push (seqObj "list" #[] 0)).update a (Obj.mapSeq fun _=>(arrOf z).map (·.2))}:=fun z pm=>by
  have p2:=(Array.perm_iff_toList_perm.mp pm).map (·.2)
  rw[←Array.toList_map,←Array.toList_map,wK] at p2
  exact⟨by rw[←Array.length_toList,p2.length_eq];exact big,lay _ (h _ p2)⟩
 by_cases few:vs.toArray.size<2
 ·simp only[if_pos few]
  obtain⟨f1,f2⟩:=fin (SortSt.mk' general' (vs.toArray.zip vs.toArray) #[] 7 none) (Array.Perm.refl _)
  refine wpAny_bind (wpAny_pure (wpAny_bind (wpAny_pure (wpAny_bind (seqEpoch_at g2 rfl (wpAny_bind (listUpdate_at g2 rfl ?_ (hsz2:=Nat.le_succ_of_le f1))))))))
  exact wpAny_ite_split (fun z=>absurd z (by simp)) fun _=>wpAny_pure f2
 ·simp only[if_neg few]
  obtain⟨v,aq,rfl⟩:∃v aq,vs=v::aq:=by
   cases vs with
   | nil=>exact absurd (by decide) few
   | cons v aq=>exact⟨v,aq,rfl⟩
  have sgk:∀x∈pairsOf (v::aq),∃c t,x.1=.str (aA c) t:=fun x m=>by
   have m':=Array.mem_toList_iff.mpr m
   rw[pairsOf_toList] at m'
   exact hI x.1 (List.of_mem_zip m').1
  rw[vF fun x m=>by obtain⟨c,t,e⟩:=hI x m;exact⟨_,t,e⟩]
  refine wpAny_bind (wpAny_pure (wpAny_bind (wpAny_mono (nc (rJ sgk) (kd:=oneType') (st:=SortSt.mk' oneType' ((v::aq).toArray.zip (v::aq).toArray) #[] 7 none) (Q:=fun _ z=>(arrOf z).Perm (pairsOf (v::aq))∧failedOf z=none) ⟨Array.Perm.refl _,rfl,rfl⟩ rfl (by rw[pairsOf_size];simp) (by rw[pairsOf_size];exact Nat.lt_of_le_of_lt hle (by decide)) fun z B R=>⟨B.perm,B.failed⟩) ?_ fun _ _ e=>e)))
  rintro⟨⟨⟩,z⟩ s' ⟨rfl,pm,hf⟩
  obtain⟨f1,f2⟩:=fin z pm
  refine wpAny_bind (seqEpoch_at g2 rfl (wpAny_bind (listUpdate_at g2 rfl ?_ (hsz2:=Nat.le_succ_of_le f1))))
  rw[hf]
  exact wpAny_ite_split (fun z=>absurd z (by simp)) fun _=>wpAny_pure f2
end
def cJ(c:Nat)(ls:List Nat):List Nat:=if c∈ls then ls else ls++[c]
def dQ(u:List Nat):List Nat:=u.foldl (fun ls c=>cJ c ls) []
theorem xp{c d:Nat}(h:aA c=aA d):c=d:=by
 have:=congrArg (fun z:Str=>z.cps) h
 simpa using this
theorem qA(c:Nat)(ls:List Nat):(cJ c ls).map aA=bF (aA c) (ls.map aA):=by
 unfold cJ bF
 by_cases h:c∈ls
 ·rw[if_pos h,if_pos (List.mem_map.mpr ⟨c,h,rfl⟩)]
 ·rw[if_neg h,if_neg fun z=>by obtain⟨d,m,e⟩:=List.mem_map.mp z;exact h (xp e▸m),List.map_append];rfl
theorem ww(u:List Nat):(dQ u).map aA=eQ (u.map aA):=by
 have:∀(u ls:List Nat),(u.foldl (fun ls c=>cJ c ls) ls).map aA=(u.map aA).foldl (fun ws k=>bF k ws) (ls.map aA):=by
  intro u
  induction u with
  | nil=>intro ls;rfl
  | cons c u ih=>intro ls;rw[List.foldl_cons,ih,List.map_cons,List.foldl_cons,qA]
 exact this u []
theorem wl(u:List Nat):(dQ u).Nodup∧(∀c,c∈dQ u↔c∈u)∧(dQ u).length≤u.length:=by
 have:∀(u ls:List Nat),ls.Nodup→(u.foldl (fun ls c=>cJ c ls) ls).Nodup∧(∀c,c∈u.foldl (fun ls c=>cJ c ls) ls↔c∈ls∨c∈u)∧(u.foldl (fun ls c=>cJ c ls) ls).length≤ls.length+u.length:=by
  intro u
  induction u with
  | nil=>intro ls h;exact⟨h,fun c=>by simp,Nat.le_refl _⟩
  | cons d u ih=>
    intro ls h
    have n:(cJ d ls).Nodup∧(∀c,c∈cJ d ls↔c∈ls∨c=d)∧(cJ d ls).length≤ls.length+1:=by
     unfold cJ
     by_cases z:d∈ls
     ·rw[if_pos z];exact⟨h,fun c=>⟨.inl,fun y=>y.elim id fun e=>e▸z⟩,Nat.le_succ _⟩
     ·rw[if_neg z];exact⟨List.nodup_append.mpr ⟨h,by simp,fun a m b q e=>z (by simp at q;rw[←q,←e];exact m)⟩,fun c=>by simp,by simp⟩
    obtain⟨i1,i2,i3⟩:=ih (cJ d ls) n.1
    refine⟨i1,fun c=>?_,?_⟩
    ·rw[List.foldl_cons,i2,n.2.1,List.mem_cons,or_assoc]
    ·rw[List.foldl_cons];have:=n.2.2;simp only[List.length_cons];lia
 have t:=this u [] .nil
 exact⟨t.1,fun c=>(t.2.1 c).trans (by simp),Nat.le_trans t.2.2 (by simp)⟩
def hO(w:World)(a:Addr)(ls:List Nat):HO:=.ext fun h=>∃o,h.get? a=some o∧TxSet w (cZ w) (ls.map aA) o
theorem lG:∀{ws:List Value},jJ ws→Vals ((ws.map fun v=>(bM v).cps.toList.headD 0).map sg) ws
 | [],_=>.nil
 | v::ws,h=>by
   obtain⟨c,t,rfl⟩:=h v (by simp)
   exact .cons ⟨t,rfl⟩ (lG fun x m=>h x (by simp[m]))
theorem y3:bootBuiltins "set"=some (.type "set"):=by decide+kernel
section
variable{prog:Program}{w:World}{A:Around}{E:Value→Shared→Prop}{s:Shared}
theorem vW{a:Addr}{o:Obj}{ls:List Nat}{Q:Value→Shared→Prop}(calm:A.handled=none)(ho:s.heap.get? a=some o)(hS:TxSet w (cZ w) (ls.map aA) o)(hw:ls≠ [])(few:ls.length≤63)(h:∀(h1 h':Heap) (dr:Drawn) (tk:Nat) (ms:List Nat) (vs:List Value) (c:Nat),(∀b u,s.heap.get? b=some u→h1.get? b=some u)→(∀b u,h1.get? b=some u→h'.get? b=some u)→ms.Perm ls→Vals (ms.map sg) vs→h'.get? h1.objs.size=some (seqObj "list" vs.toArray c)→Q (.ref h1.objs.size) {s with heap:=h',drawn:=dr,toks:=tk}):wpAny (model prog w) A (call (.builtin "sorted") [.ref a]) Q E s:=by
 have f2:(ls.map aA).length≤sizeLine:=by rw[List.length_map];exact Nat.le_trans few (by decide)
 refine Calls.call_function_entry kind_sorted plain_sorted entry_sorted (args_sorted1 _) ?_
 unfold Builtin.«sorted»
 refine wpAny_bind (m:=checkCount "sorted" 1 1 _) (wpAny_pure ?_)
 refine wpAny_bind (xR (A:=A.in1) calm ho hS (by simpa using hw) f2 fun h1 dr tk ys acc keep py hacc=>?_)
 have hlen:acc.toList.length=ls.length:=by rw[Array.length_toList,hacc.1,List.length_map]
 have yl:ys.length=ls.length:=by simpa using py.length_eq
 have ay:acc.toList.map bM=ys:=by
  refine List.ext_getElem (by rw[List.length_map];lia) fun i h1 h2=>?_
  have hi:i<acc.size:=by simpa using h1
  obtain⟨t,q1,q2⟩:=hacc.2 i acc[i] (Array.getElem?_eq_getElem hi)
  rw[List.getElem_map,Array.getElem_toList,q2];rfl
 have hI:jJ acc.toList:=fun v m=>by
  obtain⟨i,hi⟩:=List.mem_iff_getElem?.mp m
  obtain⟨t,q1,q2⟩:=hacc.2 i v (by rw[←Array.getElem?_toList];exact hi)
  obtain⟨c,_,e⟩:=List.mem_map.mp (py.mem_iff.mp (List.getElem_mem q1))
  exact⟨c,t,by rw[q2,e]⟩
 refine wpAny_bind (wpAny_newList ?_ (by rw[hlen];exact Nat.le_trans few (by decide)))
 have hoL:(h1.push (seqObj "list" acc.toList.toArray 0)).get? h1.objs.size=some (seqObj "list" acc.toList.toArray 0):=Heap.get?_push_size _ rfl
 refine wpAny_bind (wpAny_holding (wpAny_call_entry slot_list_sort ⟨_,hoL,rfl⟩ entry_list_sort (yQ hoL hI (by lia) fun vs pv=>⟨_,rfl,?_⟩) (args_list_sort _)))
 refine wpAny_pure ⟨_,rfl,?_⟩;obtain⟨c1,o1⟩:∃c1,((h1.push (seqObj "list" acc.toList.toArray 0)).update h1.objs.size (Obj.mapSeq fun _=>#[])).get? h1.objs.size=some (seqObj "list" #[] c1):=⟨_,get?_update_seq hoL (fun _=>#[])⟩
 have o2:=Heap.get?_push_of_some (seqObj "list" #[] 0) (Heap.get?_push_of_some (seqObj "tuple" acc.toList.toArray 0) o1)
 refine h h1 _ dr tk (vs.map fun v=>(bM v).cps.toList.headD 0) vs _ keep (fun b u e1=>?_) ?_ (lG fun v m=>hI v (pv.mem_iff.mp m)) (get?_update_seq o2 (fun _=>vs.toArray))
 ·have nb:h1.objs.size≠b:=(Nat.ne_of_lt (Heap.lt_size e1)).symm
  show(sortedHeap _ _ _ _).get? b=some u
  unfold sortedHeap
  rw[Heap.get?_update_other _ _ nb]
  refine Heap.get?_push_of_some _ (Heap.get?_push_of_some _ ?_)
  rw[Heap.get?_update_other _ _ nb]
  exact Heap.get?_push_of_some _ e1
 ·have p1:(vs.map bM).Perm (ls.map aA):=((pv.map bM).trans (List.Perm.of_eq ay)).trans py
  have p2:=p1.map fun z:Str=>z.cps.toList.headD 0
  rw[List.map_map,List.map_map] at p2
  exact p2.trans (List.Perm.of_eq ((List.map_congr_left fun _ _=>rfl).trans (List.map_id ls)))
end
theorem Inv.drawnTo{X:Cx}{pins:List (Addr×Obj)}{σ:St}{H:Hp}{s:Shared}{d:Drawn}(I:Inv X pins σ H s):Inv X pins σ H {s with drawn:=d}:=⟨I.ok,I.os,I.bare,I.base,I.loc,I.cell,I.free,I.freeC,I.pin,I.hok,I.len⟩
section
variable{X:Cx}{e:Expr}{te:TE}{p pos:Pos}
def p7(w:World):V→Hp→VK→Prop:=fun x H1 Q=>∃(l:Addr) (u:List Nat),x=.ref l∧H1 l=some (.lst (u.map sg))∧u.length≤1000∧∀a,H1 a=none→Q (.ref a) (upd H1 a (hO w a (dQ u)))
def yO(w:World)(te:TE):TE:=fun σ H Q=>te σ H fun x H1=>p7 w x H1 Q
theorem wF(hc:X.calm=true)(hm:X.mg "set"=none)(ha:PE X e te)(hg:Gl X "set":=by rfl)(he:starEach [e] X.env=[(false,eval e X.env)]:=by rfl):PE X (.Call (.Name "set" p) [e] [] pos) (yO X.w te):=
 gF (r:=r1 (p7 X.w))
  (c7 fun pins s σ H x us Q I rv ⟨l,u,ex,hl,hn,q⟩=>by
   subst ex
   obtain⟨v,rfl,ru⟩:=rv.one
   cases ru
   obtain⟨z,its,n,r,hle,e1⟩:=I.lstM hl
   have rl:=r.length
   refine qZ (us:=u.map aA) (items:=its.toArray) (by first | exact I.ok.hd hc | (show X.A.in1.handled=none;exact I.ok.hd hc)) ⟨_,e1,rfl,n,rfl⟩ (fun i v hi=>?_) (by simpa using rl.symm) (by rw[List.length_map];unfold scanBound;lia) fun s' ⟨h',tk,es,⟨o,g,S⟩,keep⟩=>?_
   ·have hi':its[i]?=some v:=by simpa using hi
    have lt:i<u.length:=by have:=(List.getElem?_eq_some_iff.mp hi').1;simp only[List.length_map] at rl;lia
    obtain⟨y,ey,t,e⟩:=hW (i:=i) (x:=sg u[i]) r (by simp[lt])
    rw[ey] at hi'
    obtain rfl:=Option.some.inj hi'
    exact⟨t,by rw[e,List.getD_eq_getElem?_getD,List.getElem?_map,List.getElem?_eq_getElem lt];rfl⟩
   ·subst es
    have fr:H s.heap.objs.size=none:=I.fresh
    have k:∀b o,s.heap.get? b=some o→h'.get? b=some o:=fun b o e=>keep b o (Heap.lt_size e) e
    rw[←ww] at S
    exact⟨.ref s.heap.objs.size,_,I.laid (a:=s.heap.objs.size) (o:=hO X.w s.heap.objs.size (dQ u)) (t':=tk) k (Nat.le_refl _) ⟨⟨o,g,S⟩,⟨o,g⟩,fun h1 h2 ⟨o,g,S⟩ kk=>⟨o,kk o g,S⟩⟩,rfl,q _ fr⟩)
  hg hm y3 (aa ha ac (by exact he)) (he:=by exact he)
def mC(w:World):V→Hp→VK→Prop:=fun x H1 Q=>∃(a:Addr) (ls:List Nat),x=.ref a∧H1 a=some (hO w a ls)∧ls≠ []∧ls.length≤63∧∀(r:Addr) (ms:List Nat),ms.Perm ls→H1 r=none→Q (.ref r) (upd H1 r (.lst (ms.map sg)))
def tS(w:World)(te:TE):TE:=fun σ H Q=>te σ H fun x H1=>mC w x H1 Q
theorem u8(hc:X.calm=true)(hm:X.mg "sorted"=none)(ha:PE X e te)(hg:Gl X "sorted":=by rfl)(he:starEach [e] X.env=[(false,eval e X.env)]:=by rfl):PE X (.Call (.Name "sorted" p) [e] [] pos) (tS X.w te):=
 dk (r:=r1 (mC X.w))
  (c7 fun pins s σ H x us Q I rv ⟨a,ls,ex,hH,hw,hn,q⟩=>by
   subst ex
   obtain⟨v,rfl,ru⟩:=rv.one
   cases ru
   obtain⟨⟨o,g,S⟩,_⟩:=I.hok a _ hH
   refine vW (by first | exact I.ok.hd hc | (show X.A.in1.handled=none;exact I.ok.hd hc)) g S hw hn fun h1 h' dr tk ms vs c k1 k2 pm rv at2=>?_
   have I1:Inv X pins σ H {s with heap:=h1,drawn:=dr,toks:=tk}:=(I.kept (h':=h1) (t':=tk) k1).drawnTo
   exact⟨.ref h1.objs.size,_,I1.laid (a:=h1.objs.size) (o:=.lst (ms.map sg)) (t':=tk) k2 (Nat.le_refl _) ⟨by rw[List.length_map,pm.length_eq];exact Nat.le_trans hn (by decide),vs,c,rv,at2⟩,rfl,q _ ms pm (I1.hok.fresh (Nat.le_refl _))⟩)
  hg hm n5 (aa ha ac (by exact he)) (he:=by exact he)
end
section
variable{P:Program}{w:World}{K:PySem.W.Frag}{mg:Str→Option Value}{base:Heap}{x:Str}{k k1 k2:Nat}{ps:List Str}{sp sp1 sp2 sp':Sp}
end
section
variable{X:Cx}{e e1 e2:Expr}{te te1 te2:TE}{p pos:Pos}
end
end L2
namespace Ov
open PySem L2
theorem fsc_{N p:List Str}{sc:Scope}(a:sc.kind=.function:=by rfl)(b:sc.isCoroutine=false:=by rfl)(c:sc.isGenerator=false:=by rfl)(d:N.Nodup:=by decide+kernel)(e:N.take p.length=p:=by rfl)(f:∀x∈p,sc.names.lookup x=some .local∨sc.names.lookup x=some .cell:=by decide+kernel)(g:∀y∈sc.names,y.2≠.free:=by decide+kernel):FnScope N p sc:=⟨a,b,c,d,e,f,g⟩
def aJ(i:Nat):Stmt:=PySem.Challenge.pw_overlaid_k22_whole_rests.main.body.getD i (.Pass ⟨0,0,0,0⟩)
abbrev iL:Stmt:=aJ 47
abbrev kT:Stmt:=aJ 48
abbrev ji:Stmt:=aJ 49
def Hand(H:Hp)(p:Addr):Prop:=∃a b n:Int,H p=some (.lst [.int a,.int b,.int n])
def lI:Sp:=fun vs H Q _=>∃c:Int,vs=[.int c]∧∀p H',H p=none→Hand H' p→Same H H'→Q (.ref p) H'
def dg:Sp:=fun vs H Q _=>∃(p:Addr) (many:Int),vs=[.ref p,.int many]∧Hand H p∧1≤many∧
 ∀(r:Int) (H':Hp),0≤r→r<many→Hand H' p→Keep p H H'→Q (.int r) H'
def kz(K:PySem.W.Frag):Sp:=fun vs H Q _=>∃(a:Addr) (ns:List Int),vs=[.ref a,.int 0]∧SqL K H a (ns.map V.int)∧∀c:Int,Q (.int c) H
section
variable{P:Program}{w:World}{K:PySem.W.Frag}{mg:Str→Option Value}{base:Heap}
theorem zr:FnScope ["script","k"] ["script","k"] (au iL):=fsc_
theorem xV(M:Md K mg)(B:Bl mg)(F:FF K "_law_cell_at" iL):Fn P w K mg base ae "_law_cell_at" 1 ["script","k"] (kz K):=by
 refine aK M F zr (fun _ _ _ _ _ _=>bC fun _ _=>rfl) (fun vs H Q E h=>?_) (fun f cdv A outer s H vs Q E hr h=>?_)
 ·obtain⟨a,ns,rfl,_⟩:=h;rfl
 ·obtain⟨a,ns,rfl,hS,k⟩:=h
  refine⟨_,(ah (aV (aM gg (pv 1) (av B.len (pv 0)) (aF _)) (al (aw (aR aZ (pv 0) (pv 1) (fun _ _=>rfl)))) aU)
   (al (aw af))),?_⟩
  refine⟨_,rfl,_,rfl,a,_,rfl,hS,_,_,rfl,rfl,_,rfl,?_⟩
  refine bf (fun hc=>?_) (fun hc=>?_)
  ·cases ns with
   | nil=>simp at hc
   | cons n ns=>exact⟨_,rfl,_,rfl,a,_,_,_,rfl,rfl,hS,bu (j:=0) rfl,k n⟩
  ·exact k 0
theorem tD:FnScope ["cell"] ["cell"] (au kT):=fsc_
theorem vX(M:Md K mg)(B:Bl mg)(F:FF K "_law_deck" kT):Fn P w K mg base ae "_law_deck" 1 ["cell"] lI:=by
 refine aK M F tD (fun _ _ _ _ _ _=>bJ fun _=>rfl) (fun vs H Q E h=>?_) (fun f cdv A outer s H vs Q E hr h=>?_)
 ·obtain⟨c,rfl,_⟩:=h;rfl
 ·obtain⟨c,rfl,k⟩:=h
  refine⟨_,(al (aw (bI (aa (nv rfl B.max af (ak a7 (pv 0) (ak zB af af))) (aa (ak dh (pv 0) af) (aa af ac)))))),?_⟩
  refine⟨_,rfl,_,_,rfl,rfl,⟨by decide,by decide,by decide⟩,_,_,rfl,rfl,_,_,rfl,rfl,?_⟩
  refine⟨_,rfl,_,_,rfl,rfl,(by show(0:Int)<2147483629;decide),by show 3≤sizeLine;decide,fun l hl=>k l _ hl ⟨_,_,_,ad⟩ (Same.upd hl)⟩
theorem scTake:FnScope ["deck","many","digit","stir"] ["deck","many"] (au ji):=fsc_
theorem rX(M:Md K mg)(F:FF K "_law_take" ji):Fn P w K mg base ae "_law_take" 1 ["deck","many"] dg:=by
 refine aK M F scTake (fun _ _ _ _ _ _=>bC fun _ _=>rfl) (fun vs H Q E h=>?_) (fun f cdv A outer s H vs Q E hr h=>?_)
 ·obtain⟨p,many,rfl,_⟩:=h;rfl
 ·obtain⟨p,many,rfl,⟨a,b,n,hp⟩,h1,k⟩:=h
  refine⟨_,(ah (fJ (ak aW (aR aZ (pv 0) af (fun _ _=>rfl)) af) (lO (pv 0) af nt))
   (ah (aV (aM eJ (aR aZ (pv 0) af (fun _ _=>rfl)) af (aF _)) (ah (ar (i:=2) scTake.nd rfl (.inl rfl) (ak dh (aR aZ (pv 0) af (fun _ _=>rfl)) af))
   (ah (fJ (ak m5 (aR aZ (pv 0) af (fun _ _=>rfl)) af) (lO (pv 0) af nt))
   (al (aw (ak dh (pv 2) (pv 1)))))) aU)
   (ah (ar (i:=3) scTake.nd rfl (.inl rfl) (ak dh (ak dJ (ak aW (aR aZ (pv 0) af (fun _ _=>rfl)) (ak dJ af (aR aZ (pv 0) af (fun _ _=>rfl)))) af) af))
   (ah (ar (i:=3) scTake.nd rfl (.inl rfl) (ak dh (ak dJ (pv 3) (pv 3)) af))
   (al (aw (ak dh (ak m5 (ak dh (ak dJ (ak aW (pv 3) (ak dJ af (aR aZ (pv 0) af (fun _ _=>rfl)))) af) af) af) (pv 1)))))))),?_⟩
  refine⟨_,rfl,p,_,_,_,rfl,rfl,SqL.of hp,bu (j:=2) rfl,_,_,rfl,rfl,_,rfl,p,_,2,2,rfl,rfl,hp,rfl,?_⟩
  have k1:Keep p H (L2.upd H p (.lst ([V.int a,V.int b,V.int n].set 2 (.int (n+1))))):=Keep.upd
  have hp1:(L2.upd H p (.lst ([V.int a,V.int b,V.int n].set 2 (.int (n+1))))) p=some (.lst [.int a,.int b,.int (n+1)]):=ad
  generalize L2.upd H p (.lst ([V.int a,V.int b,V.int n].set 2 (.int (n+1))))=H1 at k1 hp1
  refine⟨_,rfl,p,_,_,_,rfl,rfl,SqL.of hp1,bu (j:=0) rfl,_,_,rfl,rfl,_,rfl,?_⟩
  refine bf (fun hc=>?_) (fun hc=>?_)
  ·refine⟨_,rfl,p,_,_,_,rfl,rfl,SqL.of hp1,bu (j:=0) rfl,_,_,rfl,rfl,(by show(0:Int)<65536;decide),?_⟩
   refine⟨_,rfl,p,_,_,_,rfl,rfl,SqL.of hp1,bu (j:=0) rfl,_,_,rfl,rfl,⟨by decide,by decide⟩,?_⟩
   refine⟨_,rfl,p,_,0,0,rfl,rfl,hp1,rfl,_,rfl,_,rfl,_,_,rfl,rfl,(by show 0<many;lia),?_⟩
   exact k _ _ (Int.emod_nonneg _ (by lia)) (Int.emod_lt_of_pos _ (by lia)) ⟨_,_,_,ad⟩ (k1.trans Keep.upd)
  ·refine⟨_,rfl,p,_,_,_,rfl,rfl,SqL.of hp1,bu (j:=1) rfl,_,rfl,p,_,_,_,rfl,rfl,SqL.of hp1,bu (j:=2) rfl,_,_,rfl,rfl,.inl ⟨by decide,by decide⟩,_,_,rfl,rfl,_,_,rfl,rfl,.inr ⟨by decide,by decide⟩,_,_,rfl,rfl,(by show(0:Int)<2147483647;decide),?_⟩
   have m1:=Int.emod_nonneg ((b+7919*(n+1))*48271) (show(2147483647:Int)≠0 by decide)
   have m2:=Int.emod_lt_of_pos ((b+7919*(n+1))*48271) (show(0:Int)<2147483647 by decide)
   refine⟨_,rfl,_,rfl,_,_,rfl,rfl,.inl ⟨by lia,by lia⟩,_,_,rfl,rfl,(by show(0:Int)<2147483629;decide),?_⟩
   refine⟨_,rfl,_,rfl,p,_,_,_,rfl,rfl,SqL.of hp1,bu (j:=2) rfl,_,_,rfl,rfl,.inl ⟨by decide,by decide⟩,_,_,rfl,rfl,_,_,rfl,rfl,.inr ⟨by decide,by decide⟩,_,_,rfl,rfl,(by show(0:Int)<2147483563;decide),_,_,rfl,rfl,⟨by decide,by decide⟩,_,rfl,_,_,rfl,rfl,(by show 0<many;lia),?_⟩
   exact k _ _ (Int.emod_nonneg _ (by lia)) (Int.emod_lt_of_pos _ (by lia)) ⟨_,_,_,hp1⟩ k1
end
abbrev kA:Stmt:=aJ 51
abbrev fV:Stmt:=aJ 50
def az:List Nat:=(List.range 26).map (97+ ·)
theorem sh{c:Nat}(h:c∈az):97≤c∧c≤122:=by
 simp[az] at h
 lia
def Low(t:List Nat):Prop:=∀c∈t,97≤c∧c≤122
theorem Low.cp{t:List Nat}(h:Low t):∀c∈t,c<0x110000:=fun c hc=>by have:=h c hc;lia
theorem Low.take{t:List Nat}(h:Low t)(n:Nat):Low (t.take n):=fun c hc=>h c (List.mem_of_mem_take hc)
theorem Low.drop{t:List Nat}(h:Low t)(n:Nat):Low (t.drop n):=fun c hc=>h c (List.mem_of_mem_drop hc)
theorem Low.app{t u:List Nat}(h:Low t)(g:Low u):Low (t++u):=fun c hc=>(List.mem_append.mp hc).elim (h c) (g c)
theorem Low.nil:Low []:=fun c hc=>by cases hc
theorem Hand.ne{H:Hp}{p l:Addr}(h:Hand H p)(hl:H l=none):p≠l:=by
 obtain⟨a,b,n,e⟩:=h
 exact aN e hl
theorem Hand.upd{H:Hp}{p l:Addr}{o:HO}(h:Hand H p)(hl:p≠l):Hand (L2.upd H l o) p:=by
 obtain⟨a,b,n,e⟩:=h
 exact⟨a,b,n,by rw[ao hl];exact e⟩
theorem Hand.same{H H':Hp}{p:Addr}(h:Hand H p)(k:Same H H'):Hand H' p:=by
 obtain⟨a,b,n,e⟩:=h
 exact⟨a,b,n,k _ _ e⟩
theorem Hand.free{H H':Hp}{p l:Addr}(h:Hand H' p)(k:Keep p H H')(hl:H' l=none):H l=none:=by
 obtain⟨a,b,n,e⟩:=h
 exact k.free e hl
theorem aB{H:Hp}{p a:Addr}{t:List Nat}(h:Hand H p)(ha:H a=some (.lst (t.map sg))):a≠p:=by
 obtain⟨x,y,n,e⟩:=h
 refine dZ ha e fun z=>?_
 have z':t.map sg=[.int x,.int y,.int n]:=HO.lst.inj z
 cases t with
 | nil=>cases z'
 | cons c t=>cases z'
theorem jP{p:Prop}[Decidable p](h:¬decide p=true):¬p:=fun z=>h (decide_eq_true z)
theorem sz{n:Nat}(h:n≤1000):n≤sizeLine:=Nat.le_of_lt (bi h)
theorem wu{n:Nat}(h:n≤5000):n≤sizeLine:=Nat.le_of_lt (e8 h)
def am(ks:List Nat):List V:=(ks.map fun(k:Nat)=>(k:Int)).map V.int
theorem gu(ks:List Nat)(i:Nat):am (ks++[i])=am ks++[V.int (0+(i:Int))]:=by
 simp[am]
theorem aT(ks:List Nat):(am ks).length=ks.length:=by simp[am]
theorem gE{i:Nat}(p:Nat→Bool):((List.range i).filter p).length≤i:=by
 have:=List.length_filter_le p (List.range i)
 simpa using this
theorem yn{t:List Nat}{r:Int}(lt:Low t)(r0:0≤r)(r1:r<t.length):∃c,t[r.toNat]?=some c∧97≤c∧c≤122∧bA (t.map sg) r=some (sg c):=by
 obtain⟨v,hv,hm,e⟩:=fj (t.map sg) r r0 (by rw[List.length_map];exact r1)
 rw[List.getElem?_map] at hv
 cases q:t[r.toNat]? with
 | none=>rw[q] at hv;cases hv
 | some c=>
   rw[q] at hv
   have:sg c=v:=Option.some.inj hv
   subst this
   exact⟨c,rfl,(lt c (List.mem_of_getElem? q)).1,(lt c (List.mem_of_getElem? q)).2,e⟩
theorem ce{H:Hp}{l0 l1:Addr}{t u:List Nat}{Q:VK}(h0:H l0=some (.lst (t.map sg)))(h1:H l1=some (.lst (u.map sg)))(hz:t.length+u.length≤5000)(k:∀b,H b=none→Q (.ref b) (L2.upd H b (.lst ((t++u).map sg)))):jF (.ref l0) (.ref l1) H Q:=
 ⟨l0,l1,_,_,rfl,rfl,h0,h1,by rw[List.length_map,List.length_map];exact wu hz,fun b hb=>by have:=k b hb;rw[List.map_append] at this;exact this⟩
theorem bW{t:List Nat}{n:Int}(h:0≤n):bp (t.map sg) none (some n)=(t.take n.toNat).map sg:=by rw[bO,bE,fT _ _ h]
theorem cR{t:List Nat}{n:Int}(h:0≤n):bp (t.map sg) (some n) none=(t.drop n.toNat).map sg:=by rw[bO,bE,iH _ _ h]
def nZ:Sp:=fun vs H Q _=>∃p:Addr,vs=[.ref p]∧Hand H p∧∀(z:List Nat) (r:Addr) (H':Hp),H r=none→H' r=some (.lst (z.map sg))→Low z→1≤z.length→z.length≤26→Hand H' p→Keep p H H'→Q (.ref r) H'
def iA:Sp:=fun vs H Q _=>∃(p b:Addr) (z:List Nat) (n:Int),vs=[.ref p,.ref b,.int n]∧Hand H p∧H b=some (.lst (z.map sg))∧Low z∧1≤z.length∧z.length≤900∧0≤n∧n≤1000∧
 ∀(t:List Nat) (r:Addr) (H':Hp),H r=none→H' r=some (.lst (t.map sg))→Low t→t.length=n.toNat→Hand H' p→Keep p H H'→Q (.ref r) H'
section
variable{P:Program}{w:World}{K:PySem.W.Frag}{mg:Str→Option Value}{base:Heap}
theorem scLetters:FnScope ["deck","every","first","step","many"] ["deck"] (au fV):=fsc_
theorem gZ{ns:List Int}{r:Int}(r0:0≤r)(r1:r<ns.length):∃n∈ns,bA (ns.map V.int) r=some (.int n):=by
 obtain⟨v,hv,hm,e⟩:=fj (ns.map V.int) r r0 (by rw[List.length_map];exact r1)
 obtain⟨n,hn,rfl⟩:=List.mem_map.mp hm
 exact⟨n,hn,e⟩
def zi(es:List Expr):List Stmt→List Stmt
 | [a,b,.Assign t (.Subscript (.List _ p) ix q) r,c,d]=>[a,b,.Assign t (.Subscript (.List es p) ix q) r,c,d]
 | x=>x
theorem qU:∃es,bw fV=zi es (bw fV)∧dH es=some [1,3,5,7,9,11,15,17,19,21,23,25]:=⟨_,rfl,rfl⟩
theorem uq(M:Md K mg)(B:Bl mg)(F:FF K "_law_letters" fV)(F_law_take:Fn P w K mg base ae "_law_take" 1 ["deck","many"] dg):Fn P w K mg base ae "_law_letters" 2 ["deck"] nZ:=by
 refine aK M F scLetters (fun _ _ _ _ _ _=>bJ fun _=>rfl) (fun vs H Q E h=>?_) (fun f cdv A outer s H vs Q E hr h=>?_)
 ·obtain⟨p,rfl,_⟩:=h;rfl
 ·obtain⟨p,rfl,hp,k⟩:=h
  obtain⟨es,hes,ei⟩:=qU
  rw[hes]
  refine⟨_,(ah (ar (i:=1) scLetters.nd rfl (.inr rfl) cS)
   (ah (ar (i:=2) scLetters.nd rfl (.inr rfl) (ai F_law_take hr aj (aa (pv 0) (aa af ac))))
   (ah (ar (i:=3) scLetters.nd rfl (.inr rfl) (aR aZ (bI (ig ei)) (ai F_law_take hr aj (aa (pv 0) (aa af ac))) (fun _ _=>rfl)))
   (ah (ar (i:=4) scLetters.nd rfl (.inl rfl) (aR aZ (bI (ig (by rfl))) (ai F_law_take hr aj (aa (pv 0) (aa af ac))) (fun _ _=>rfl)))
   (al (aw (bP ["deck","every","first","step","many"] rfl (dq (by rfl) B.range (aa (pv 4) ac)) (fun _=>by exact d5) (fun _=>by exact(aR li (pv 1) (ak dh (ak aW (pv 2) (ak dJ (pv 3) (pv 5))) af) (fun _ _=>rfl)))))))))),?_⟩
  refine⟨_,rfl,p,26,rfl,hp,by decide,fun first H1 f0 f1 hp1 k1=>?_⟩
  refine⟨by show 12≤sizeLine;decide,fun l hl=>?_⟩
  refine⟨_,rfl,p,12,rfl,hp1.upd (hp1.ne hl),by decide,fun r H2 r0 r1 hp2 k2=>?_⟩
  have hl2:H2 l=some (.lst ([1,3,5,7,9,11,15,17,19,21,23,25].map V.int)):=k2 _ _ ad (hp1.ne hl).symm
  obtain⟨st,hst,est⟩:=gZ (ns:=[1,3,5,7,9,11,15,17,19,21,23,25]) r0 r1
  have hst':0≤st∧st≤25:=by simp at hst;omega
  refine⟨l,_,r,_,rfl,rfl,SqL.of hl2,est,?_⟩
  have k02:Keep p H H2:=(k1.trans (Same.upd hl).keep).trans k2
  refine⟨by show 6≤sizeLine;decide,fun l2 hl2'=>?_⟩
  refine⟨_,rfl,p,6,rfl,hp2.upd (hp2.ne hl2'),by decide,fun r2 H3 r20 r21 hp3 k3=>?_⟩
  have hl3:H3 l2=some (.lst ([2,2,3,26,26,1].map V.int)):=k3 _ _ ad (hp2.ne hl2').symm
  obtain⟨n,hn,en⟩:=gZ (ns:=[2,2,3,26,26,1]) r20 r21
  have hn':1≤n∧n≤26:=by simp at hn;lia
  refine⟨l2,_,r2,_,rfl,rfl,SqL.of hl3,en,?_⟩
  have k03:Keep p H H3:=(k02.trans (Same.upd hl2').keep).trans k3
  refine⟨_,rfl,n,rfl,by lia,by lia,fun D hD b=>?_⟩
  refine du (lo:=0) (n:=n.toNat) (fun i ys H4=>∃t:List Nat,ys=t.map sg∧Low t∧t.length=i∧Same H3 H4∧H4 D=some (.lst ys)) (bi (by lia)) ?_ ?_ ?_ ?_
  ·exact⟨[],rfl,Low.nil,rfl,Same.upd hD,ad⟩
  ·rintro i ys H4 ⟨t,rfl,_,rfl,_⟩
   simp
  ·rintro i ys H4 hi ⟨t,rfl,lt,rfl,s4,hD4⟩
   refine dW ?_
   have m1:=Int.emod_nonneg (first+st*(0+(t.length:Int))) (show(26:Int)≠0 by decide)
   have m2:=Int.emod_lt_of_pos (first+st*(0+(t.length:Int))) (show(0:Int)<26 by decide)
   obtain⟨c,_,hm,ec⟩:=fj az ((first+st*(0+(t.length:Int))) % 26) m1 (by simpa [az] using m2)
   have hc:=sh hm
   refine⟨_,rfl,_,rfl,_,rfl,_,rfl,_,_,rfl,rfl,.inl ⟨by lia,by lia⟩,_,_,rfl,rfl,_,_,rfl,rfl,(by show(0:Int)<26;decide),⟨az.toArray⟩,_,c,rfl,rfl,by rw[mT];exact sz (by simp[az]),by simpa using ec,hD4,t++[c],by simp,?_,by simp,?_,ad⟩
   ·exact lt.app fun d hd=>by rw[List.mem_singleton.mp hd];exact hc
   ·intro b o e
    rw[ao (aN e hD)]
    exact s4 b o e
  ·rintro ys H4 ⟨t,rfl,lt,hl4,s4,hD4⟩
   exact k t D H4 (hp3.free k03 hD) hD4 lt (by lia) (by lia) (hp3.same s4) (k03.trans s4.keep)
theorem vY:FnScope ["deck","letters","many"] ["deck","letters","many"] (au kA):=fsc_
theorem xz(M:Md K mg)(B:Bl mg)(F:FF K "_law_signs" kA)(F_law_take:Fn P w K mg base ae "_law_take" 1 ["deck","many"] dg):Fn P w K mg base ae "_law_signs" 2 ["deck","letters","many"] iA:=by
 refine aK M F vY (fun _ _ _ _ _ _=>cN fun _ _ _=>rfl) (fun vs H Q E h=>?_) (fun f cdv A outer s H vs Q E hr h=>?_)
 ·obtain⟨p,b,z,n,rfl,_⟩:=h;rfl
 ·obtain⟨p,b,z,n,rfl,hp,hb,lz,z1,z2,n0,n1,k⟩:=h
  refine⟨_,(al (aw (bP ["deck","letters","many"] rfl (dq (by rfl) B.range (aa (pv 2) ac)) (fun _=>by exact d5) (fun _=>by exact(aR aZ (pv 1) (ai F_law_take hr aj (aa (pv 0) (aa (av B.len (pv 1)) ac))) (fun _ _=>rfl)))))),?_⟩
  have nbp:=aB hp hb
  refine⟨_,rfl,n,rfl,by lia,by lia,fun D hD cb=>?_⟩
  have nD:D≠p:=(hp.ne hD).symm
  refine du (lo:=0) (n:=n.toNat) (fun i ys H2=>∃t:List Nat,ys=t.map sg∧Low t∧t.length=i∧Hand H2 p∧Keep p H H2∧H2 D=some (.lst ys)) (bi (by lia)) ?_ ?_ ?_ ?_
  ·exact⟨[],rfl,Low.nil,rfl,hp.upd (hp.ne hD),(Same.upd hD).keep,ad⟩
  ·rintro i ys H2 ⟨t,rfl,_,rfl,_⟩
   simp
  ·rintro i ys H2 hi ⟨t,rfl,lt,rfl,hp2,k2,hD2⟩
   refine dW ?_
   have hb2:=k2 _ _ hb nbp
   refine⟨_,rfl,_,rfl,_,rfl,b,_,rfl,SqL.of hb2,p,_,rfl,hp2,by rw[List.length_map];lia,fun r H3 r0 r1 hp3 k3=>?_⟩
   rw[List.length_map] at r1
   obtain⟨c,_,c1,c2,ec⟩:=yn lz r0 r1
   refine⟨b,_,r,_,rfl,rfl,SqL.of (k3 _ _ hb2 nbp),ec,k3 _ _ hD2 nD,t++[c],by simp,?_,by simp,hp3.upd nD.symm,?_,ad⟩
   ·exact lt.app fun d hd=>by rw[List.mem_singleton.mp hd];exact⟨c1,c2⟩
   ·intro b o e nb
    rw[ao (aN e hD)]
    exact k3 _ _ (k2 b o e nb) nb
  ·rintro ys H2 ⟨t,rfl,lt,hl,hp2,k2,hD2⟩
   exact k t D H2 hD hD2 lt hl hp2 k2
end
abbrev jT:Stmt:=aJ 52
abbrev jg:Stmt:=aJ 54
def pI:Sp:=fun vs H Q _=>∃(p b:Addr) (z:List Nat) (m:Int),vs=[.ref p,.ref b,.int m]∧Hand H p∧H b=some (.lst (z.map sg))∧Low z∧1≤z.length∧z.length≤900∧1≤m∧m≤12∧
 ∀(t:List Nat) (r:Addr) (H':Hp),H r=none→H' r=some (.lst (t.map sg))→Low t→1≤t.length→t.length≤48→Hand H' p→Keep p H H'→Q (.ref r) H'
def nK:Sp:=fun vs H Q _=>∃(p b a:Addr) (z t:List Nat),vs=[.ref p,.ref b,.ref a]∧Hand H p∧H b=some (.lst (z.map sg))∧Low z∧1≤z.length∧z.length≤900∧H a=some (.lst (t.map sg))∧Low t∧t.length≤900∧
 ∀(u:List Nat) (r:Addr) (H':Hp),H r=none→H' r=some (.lst (u.map sg))→Low u→u.length≤t.length+1→Hand H' p→Keep p H H'→Q (.ref r) H'
section
variable{P:Program}{w:World}{K:PySem.W.Frag}{mg:Str→Option Value}{base:Heap}
theorem yX(n:Nat)(t:List Nat):(List.replicate n (t.map sg)).flatten=((List.replicate n t).flatten).map sg:=by
 induction n with
 | zero=>rfl
 | succ n ih=>rw[List.replicate_succ,List.flatten_cons,ih,List.replicate_succ,List.flatten_cons,List.map_append]
theorem Low.rep{t:List Nat}(h:Low t)(n:Nat):Low (List.replicate n t).flatten:=fun c hc=>by
 obtain⟨l,hl,hc⟩:=List.mem_flatten.mp hc
 rw[(List.mem_replicate.mp hl).2] at hc
 exact h c hc
theorem qS(n:Nat)(t:List Nat):(List.replicate n t).flatten.length=n*t.length:=by
 induction n with
 | zero=>simp
 | succ n ih=>rw[List.replicate_succ,List.flatten_cons,List.length_append,ih,Nat.succ_mul,Nat.add_comm]
theorem scWord:FnScope ["deck","letters","most","way","one"] ["deck","letters","most"] (au jT):=fsc_
theorem wy(M:Md K mg)(B:Bl mg)(F:FF K "_law_word" jT)(F_law_take:Fn P w K mg base ae "_law_take" 1 ["deck","many"] dg)(F_law_signs:Fn P w K mg base ae "_law_signs" 2 ["deck","letters","many"] iA):Fn P w K mg base ae "_law_word" 3 ["deck","letters","most"] pI:=by
 refine aK M F scWord (fun _ _ _ _ _ _=>cN fun _ _ _=>rfl) (fun vs H Q E h=>?_) (fun f cdv A outer s H vs Q E hr h=>?_)
 ·obtain⟨p,b,z,m,rfl,_⟩:=h;rfl
 ·obtain⟨p,b,z,m,rfl,hp,hb,lz,z1,z2,m1,m2,k⟩:=h
  refine⟨_,(ah (ar (i:=3) scWord.nd rfl (.inl rfl) (ai F_law_take hr aj (aa (pv 0) (aa af ac))))
   (ah (ar (i:=4) scWord.nd rfl (.inl rfl) (ai F_law_signs hr aj (aa (pv 0) (aa (pv 1) (aa (ak aW af (ai F_law_take hr aj (aa (pv 0) (aa (pv 2) ac)))) ac)))))
   (ah (aV (aM bR (pv 3) af (aF _)) (al (ar (i:=4) scWord.nd rfl (.inl rfl) (ak bZ (ak bZ (pv 4) (ai F_law_signs hr aj (aa (pv 0) (aa (pv 1) (aa (ai F_law_take hr aj (aa (pv 0) (aa af ac))) ac))))) (pv 4)))) aU)
   (ah (aV (aM bR (pv 3) af (aF _)) (al (ar (i:=4) scWord.nd rfl (.inl rfl) (ak bZ (ak oO (pv 4) (ak aW af (ai F_law_take hr aj (aa (pv 0) (aa af ac))))) (aP aO (pv 4) a6 (aH (ai F_law_take hr aj (aa (pv 0) (aa (ak aW (av B.len (pv 4)) af) ac)))))))) aU)
   (al (aw (pv 4))))))),?_⟩
  refine⟨_,rfl,p,4,rfl,hp,by decide,fun way H1 w0 w1 hp1 k1=>?_⟩
  have hb1:=k1 _ _ hb (aB hp hb)
  refine⟨_,rfl,_,rfl,_,rfl,_,rfl,p,_,rfl,hp1,m1,fun n H2 n0 n1 hp2 k2=>?_⟩
  have hb2:=k2 _ _ hb1 (aB hp1 hb1)
  refine⟨_,_,rfl,rfl,p,b,z,1+n,rfl,hp2,hb2,lz,z1,z2,by lia,by lia,fun t r H3 hr0 hr3 lt tl hp3 k3=>?_⟩
  have hb3:=k3 _ _ hb2 (aB hp2 hb2)
  have k03:=(k1.trans k2).trans k3
  have hrn:H r=none:=hp2.free (k1.trans k2) hr0
  have tl':1≤t.length∧t.length≤12:=by lia
  refine⟨_,rfl,rfl,_,rfl,?_⟩
  refine bf (fun hc=>?_) (fun hc=>?_)
  ·have hw:way=1:=V.int.inj (of_decide_eq_true hc)
   refine⟨_,rfl,_,rfl,_,rfl,_,rfl,p,3,rfl,hp3,by decide,fun c H4 c0 c1 hp4 k4=>?_⟩
   have hb4:=k4 _ _ hb3 (aB hp3 hb3)
   have hr4:=k4 _ _ hr3 (aB hp3 hr3)
   refine⟨p,b,z,c,rfl,hp4,hb4,lz,z1,z2,c0,by lia,fun v q H5 hq0 hq5 lv vl hp5 k5=>?_⟩
   have hr5:=k5 _ _ hr4 (aB hp4 hr4)
   refine ce hr5 hq5 (by lia) fun l hl=>?_
   have s6:=Same.upd (o:=.lst ((t++v).map sg)) hl
   refine⟨_,rfl,ce ad (s6 _ _ hr5) (by rw[List.length_append];lia) fun l2 hl2=>?_⟩
   have s7:=Same.upd (o:=.lst ((t++v++t).map sg)) hl2
   have k06:=((k03.trans k4).trans k5).trans s6.keep
   have hp6:=hp5.same s6
   refine⟨_,rfl,rfl,_,rfl,bf (fun hc2=>absurd (V.int.inj (of_decide_eq_true hc2)) (by lia)) fun _=>?_⟩
   exact⟨_,rfl,k (t++v++t) l2 _ (hp6.free k06 hl2) ad ((lt.app lv).app lt) (by rw[List.length_append];lia) (by rw[List.length_append,List.length_append];lia) (hp6.same s7) (k06.trans s7.keep)⟩
  ·refine⟨_,rfl,rfl,_,rfl,?_⟩
   refine bf (fun hc2=>?_) (fun hc2=>?_)
   ·refine⟨_,rfl,_,rfl,p,3,rfl,hp3,by decide,fun c H5 c0 c1 hp5 k5=>?_⟩
    have hq5:=k5 _ _ hr3 (aB hp3 hr3)
    have hle:t.length*(1+c).toNat≤36:=by
     have:(1+c).toNat≤3:=by lia
     exact Nat.le_trans (Nat.mul_le_mul tl'.2 this) (by decide)
    refine⟨_,_,rfl,rfl,r,_,_,rfl,rfl,hq5,by lia,by lia,by rw[List.length_map];exact sz (by lia),fun l hl=>?_⟩
    rw[yX]
    have s6:=Same.upd (o:=.lst ((List.replicate (1+c).toNat t).flatten.map sg)) hl
    have hp6:=hp5.same s6
    refine⟨_,rfl,_,rfl,_,rfl,r,_,rfl,SqL.of (s6 _ _ hq5),_,_,rfl,rfl,p,_,rfl,hp6,by rw[List.length_map];lia,fun d H7 d0 d1 hp7 k7=>?_⟩
    rw[List.length_map] at d1
    have hq7:=k7 _ _ (s6 _ _ hq5) (aB hp6 (s6 _ _ hq5))
    have hl7:=k7 _ _ ad (aB hp6 ad)
    refine⟨d,rfl,r,_,rfl,SqL.of hq7,fun l2 hl2=>?_⟩
    rw[bW d0]
    have s8:=Same.upd (o:=.lst ((t.take d.toNat).map sg)) hl2
    have rl:=qS (1+c).toNat t
    rw[Nat.mul_comm] at rl
    refine ce (s8 _ _ hl7) ad (by rw[List.length_take];lia) fun l3 hl3=>?_
    have s9:=Same.upd (o:=.lst (((List.replicate (1+c).toNat t).flatten++t.take d.toNat).map sg)) hl3
    have k08:=(((k03.trans k5).trans s6.keep).trans k7).trans s8.keep
    refine⟨_,rfl,k _ l3 _ ((hp7.same s8).free k08 hl3) ad ((lt.rep _).app (lt.take _)) ?_ ?_ ((hp7.same s8).same s9) (k08.trans s9.keep)⟩
    ·rw[List.length_append,rl]
     have:1*1≤t.length*(1+c).toNat:=Nat.mul_le_mul tl'.1 (by lia)
     lia
    ·rw[List.length_append,rl,List.length_take];lia
   ·exact⟨_,rfl,k t r H3 hrn hr3 lt tl'.1 (by lia) hp3 k03⟩
theorem scBent:FnScope ["deck","letters","text","at","way"] ["deck","letters","text"] (au jg):=fsc_
theorem rW(M:Md K mg)(B:Bl mg)(F:FF K "_law_bent" jg)(F_law_take:Fn P w K mg base ae "_law_take" 1 ["deck","many"] dg)(F_law_signs:Fn P w K mg base ae "_law_signs" 2 ["deck","letters","many"] iA):Fn P w K mg base ae "_law_bent" 3 ["deck","letters","text"] nK:=by
 refine aK M F scBent (fun _ _ _ _ _ _=>cN fun _ _ _=>rfl) (fun vs H Q E h=>?_) (fun f cdv A outer s H vs Q E hr h=>?_)
 ·obtain⟨p,b,a,z,t,rfl,_⟩:=h;rfl
 ·obtain⟨p,b,a,z,t,rfl,hp,hb,lz,z1,z2,ha,lt,tl,k⟩:=h
  refine⟨_,(ah (ar (i:=3) scBent.nd rfl (.inl rfl) (ai F_law_take hr aj (aa (pv 0) (aa (ak aW (av B.len (pv 2)) af) ac))))
   (ah (ar (i:=4) scBent.nd rfl (.inl rfl) (ai F_law_take hr aj (aa (pv 0) (aa af ac))))
   (ah (aV (aM bR (pv 4) af (aF _)) (al (aw (ak bZ (aP aO (pv 2) a6 (aH (pv 3))) (aP aO (pv 2) (aH (ak aW (pv 3) af)) a6)))) aU)
   (al (aw (ak bZ (ak bZ (aP aO (pv 2) a6 (aH (pv 3))) (ai F_law_signs hr aj (aa (pv 0) (aa (pv 1) (aa af ac))))) (aP aO (pv 2) (aH (ak a7 (ak aW (pv 3) af) (pv 4))) a6))))))),?_⟩
  refine⟨_,rfl,_,rfl,a,_,rfl,SqL.of ha,_,_,rfl,rfl,p,_,rfl,hp,by rw[List.length_map];lia,fun at_ H1 a0 a1 hp1 k1=>?_⟩
  rw[List.length_map] at a1
  have hb1:=k1 _ _ hb (aB hp hb)
  have ha1:=k1 _ _ ha (aB hp ha)
  refine⟨_,rfl,p,3,rfl,hp1,by decide,fun way H2 w0 w1 hp2 k2=>?_⟩
  have hb2:=k2 _ _ hb1 (aB hp1 hb1)
  have ha2:=k2 _ _ ha1 (aB hp1 ha1)
  have k02:=k1.trans k2
  refine⟨_,rfl,rfl,_,rfl,?_⟩
  refine bf (fun hc=>?_) (fun hc=>?_)
  ·refine⟨_,rfl,_,rfl,at_,rfl,a,_,rfl,SqL.of ha2,fun l hl=>?_⟩
   rw[bW a0]
   have s3:=Same.upd (o:=.lst ((t.take at_.toNat).map sg)) hl
   refine⟨_,rfl,_,rfl,_,_,rfl,rfl,at_+1,rfl,a,_,rfl,SqL.of (s3 _ _ ha2),fun l2 hl2=>?_⟩
   rw[cR (by lia)]
   have s4:=Same.upd (o:=.lst ((t.drop (at_+1).toNat).map sg)) hl2
   refine ce (s4 _ _ ad) ad (by rw[List.length_take,List.length_drop];lia) fun l3 hl3=>?_
   have s5:=Same.upd (o:=.lst ((t.take at_.toNat++t.drop (at_+1).toNat).map sg)) hl3
   have s24:=s3.trans s4
   have k04:=k02.trans s24.keep
   have hp4:=hp2.same s24
   exact k _ l3 _ (hp4.free k04 hl3) ad ((lt.take _).app (lt.drop _)) (by rw[List.length_append,List.length_take,List.length_drop];lia) (hp4.same s5) (k04.trans s5.keep)
  ·have hw:way≠0:=fun q=>jP hc (by rw[q])
   refine⟨_,rfl,_,rfl,at_,rfl,a,_,rfl,SqL.of ha2,fun l hl=>?_⟩
   rw[bW a0]
   have s3:=Same.upd (o:=.lst ((t.take at_.toNat).map sg)) hl
   have hp3:=hp2.same s3
   refine⟨_,rfl,_,rfl,p,b,z,1,rfl,hp3,s3 _ _ hb2,lz,z1,z2,by decide,by decide,fun v q H4 hq0 hq4 lv vl hp4 k4=>?_⟩
   have hl4:=k4 _ _ ad (aB hp3 ad)
   have ha4:=k4 _ _ (s3 _ _ ha2) (aB hp3 (s3 _ _ ha2))
   refine ce hl4 hq4 (by rw[List.length_take,vl];show _+1≤5000;lia) fun l3 hl3=>?_
   have s5:=Same.upd (o:=.lst ((t.take at_.toNat++v).map sg)) hl3
   refine⟨_,rfl,_,rfl,_,_,rfl,rfl,_,rfl,_,_,rfl,rfl,at_+2-way,rfl,a,_,rfl,SqL.of (s5 _ _ ha4),fun l4 hl4'=>?_⟩
   rw[cR (by lia)]
   have s6:=Same.upd (o:=.lst ((t.drop (at_+2-way).toNat).map sg)) hl4'
   have vl':v.length=1:=vl
   refine ce (s6 _ _ ad) ad (by rw[List.length_append,List.length_take,List.length_drop];lia) fun l5 hl5=>?_
   have s7:=Same.upd (o:=.lst ((t.take at_.toNat++v++t.drop (at_+2-way).toNat).map sg)) hl5
   have s46:=s5.trans s6
   have k06:=((k02.trans s3.keep).trans k4).trans s46.keep
   have hp6:=hp4.same s46
   exact k _ l5 _ (hp6.free k06 hl5) ad (((lt.take _).app lv).app (lt.drop _)) (by rw[List.length_append,List.length_append,List.length_take,List.length_drop];lia) (hp6.same s7) (k06.trans s7.keep)
end
abbrev ke:Stmt:=aJ 53
def jZ:Sp:=fun vs H Q _=>∃(p b a:Addr) (z u:List Nat) (n:Int),vs=[.ref p,.ref b,.ref a,.int n]∧Hand H p∧H b=some (.lst (z.map sg))∧Low z∧1≤z.length∧z.length≤900∧H a=some (.lst (u.map sg))∧Low u∧1≤u.length∧u.length≤49∧0≤n∧n≤20∧
 ∀(t:List Nat) (r:Addr) (H':Hp),H r=none→H' r=some (.lst (t.map sg))→Low t→1≤t.length→t.length≤1060→Hand H' p→Keep p H H'→Q (.ref r) H'
section
variable{P:Program}{w:World}{K:PySem.W.Frag}{mg:Str→Option Value}{base:Heap}
theorem tT{ks:List Nat}{r:Int}(r0:0≤r)(r1:r<ks.length):∃k:Nat,k∈ks∧ks[r.toNat]?=some k∧bA (am ks) r=some (V.int (k:Int)):=by
 obtain⟨v,hv,hm,e⟩:=fj (am ks) r r0 (by rw[aT];exact r1)
 unfold am at hv
 rw[List.map_map,List.getElem?_map] at hv
 cases q:ks[r.toNat]? with
 | none=>rw[q] at hv;cases hv
 | some k=>
   rw[q] at hv
   have:V.int (k:Int)=v:=Option.some.inj hv
   subst this
   exact⟨k,List.mem_of_getElem? q,rfl,e⟩
theorem scOverlaid:FnScope ["deck","letters","word","many","found","k","some","over"] ["deck","letters","word","many"] (au ke):=fsc_
theorem yk(M:Md K mg)(B:Bl mg)(F:FF K "_law_overlaid" ke)(F_law_take:Fn P w K mg base ae "_law_take" 1 ["deck","many"] dg)(F_law_signs:Fn P w K mg base ae "_law_signs" 2 ["deck","letters","many"] iA):Fn P w K mg base ae "_law_overlaid" 3 ["deck","letters","word","many"] jZ:=by
 refine aK M F scOverlaid (fun _ _ _ _ _ _=>jn fun _ _ _ _=>rfl) (fun vs H Q E h=>?_) (fun f cdv A outer s H vs Q E hr h=>?_)
 ·obtain⟨p,b,a,z,u,n,rfl,_⟩:=h;rfl
 ·obtain⟨p,b,a,z,u,n,rfl,hp,hb,lz,z1,z2,ha,lu,u1,u2,n0,n1,k⟩:=h
  refine⟨_,(ah (ar (i:=4) scOverlaid.nd rfl (.inr rfl) (iJ B.list (pv 2)))
   (ah (cT PassesOwn.never rfl (dq (by rfl) B.range (aa (pv 3) ac)) (bq (i:=5) scOverlaid.nd rfl (.inl rfl))
   (ah (gT (i:=6) ["deck","letters","word","many","found","k","some","over"] rfl scOverlaid.nd rfl (.inl rfl) (dq (by rfl) B.range (aa (av B.len (pv 2)) ac)) (fun _=>by exact(cg (PW.pt (eI (aM bR (pv 8) af (aF _)) (eR (aM (eU (by exact hr)) (aP aO (pv 4) (aH (ak a7 (av B.len (pv 4)) (pv 8))) a6) (aP aO (pv 2) a6 (aH (pv 8))) (aF _))))))) (fun _=>by exact(pv 8)))
   (ah (ar (i:=7) scOverlaid.nd rfl (.inl rfl) (aR aZ (pv 6) (ai F_law_take hr aj (aa (pv 0) (aa (av B.len (pv 6)) ac))) (fun _ _=>rfl)))
   (ah (aV (aM bR (ai F_law_take hr aj (aa (pv 0) (aa af ac))) af (aF _)) (ah (ar (i:=4) scOverlaid.nd rfl (.inr rfl) (ak bZ (pv 4) (ai F_law_signs hr aj (aa (pv 0) (aa (pv 1) (aa af ac))))))
   (al (ar (i:=7) scOverlaid.nd rfl (.inl rfl) af))) aU)
   (al (ar (i:=4) scOverlaid.nd rfl (.inr rfl) (ak bZ (pv 4) (aP aO (pv 2) (aH (pv 7)) a6))))))))
   (al (aw (pv 4))))),?_⟩
  refine⟨_,rfl,a,_,rfl,SqL.of ha,fun r0 hr0=>?_⟩
  have s0:=Same.upd (o:=.lst (u.map sg)) hr0
  refine⟨_,rfl,n,rfl,by lia,by lia,?_⟩
  refine gJ (lo:=0) (n:=n.toNat) (fun i σ H2=>∃(t:List Nat) (r:Addr) (v5 v6 v7:Option V),σ=[some (.ref p),some (.ref b),some (.ref a),some (.int n),some (.ref r),v5,v6,v7]∧H r=none∧H2 r=some (.lst (t.map sg))∧Low t∧u.length≤t.length∧t.length≤49+i*50∧Hand H2 p∧Keep p H H2) ?_ ?_ ?_
  ·exact⟨u,r0,none,none,none,rfl,hr0,ad,lu,Nat.le_refl _,by lia,hp.same s0,s0.keep⟩
  ·rintro i σ H2 hi ⟨t,r,v5,v6,v7,rfl,hrn,hr2,lt,tu,tl,hp2,k2⟩
   have hi':i<20:=by lia
   have hb2:=k2 _ _ hb (aB hp hb)
   have ha2:=k2 _ _ ha (aB hp ha)
   refine⟨_,rfl,a,_,rfl,SqL.of ha2,_,rfl,by lia,by rw[List.length_map];lia,fun D hD cb=>?_⟩
   rw[List.length_map,Int.toNat_natCast]
   refine du (lo:=0) (n:=u.length) (fun j ys H3=>∃ks:List Nat,ys=am ks∧(∀q∈ks,q<u.length)∧ks.length≤j∧(1≤j→1≤ks.length)∧Same H2 H3∧H3 D=some (.lst ys)) (bi (by lia)) ?_ ?_ ?_ ?_
   ·exact⟨[],rfl,fun q hq=>by(cases hq),Nat.le_refl _,fun h=>by lia,Same.upd hD,ad⟩
   ·rintro j ys H3 ⟨ks,rfl,_,h,_⟩
    rw[aT];exact h
   ·rintro j ys H3 hj ⟨ks,rfl,hk,kl,kn,s3,hD3⟩
    have add:∀H4:Hp,Same H3 H4→H4 D=some (.lst (am ks))∧∃ks':List Nat,am ks++[V.int (0+(j:Int))]=am ks'∧(∀q∈ks',q<u.length)∧ks'.length≤j+1∧(1≤j+1→1≤ks'.length)∧Same H2 (L2.upd H4 D (.lst (am ks++[V.int (0+(j:Int))])))∧(L2.upd H4 D (.lst (am ks++[V.int (0+(j:Int))]))) D=some (.lst (am ks++[V.int (0+(j:Int))])):=fun H4 s4=>
     ⟨s4 _ _ hD3,ks++[j],(gu ks j).symm,fun q hq=>by
      rcases List.mem_append.mp hq with z | z
      ·exact hk q z
      ·rw[List.mem_singleton.mp z];exact hj,by simp;lia,fun _=>by simp,fun b o e=>by
       rw[ao (aN e hD)]
       exact s4 _ _ (s3 b o e),ad⟩
    refine⟨_,rfl,rfl,_,rfl,?_⟩
    refine bf (fun hc=>?_) (fun hc=>?_)
    ·exact bh ⟨_,rfl,add H3 (Same.refl _)⟩
    ·have hj0:j≠0:=fun q=>jP hc (by rw[q];rfl)
     refine⟨_,rfl,_,rfl,r,_,rfl,SqL.of (s3 _ _ hr2),_,rfl,_,_,rfl,rfl,_,rfl,r,_,rfl,SqL.of (s3 _ _ hr2),fun p1 hp1=>?_⟩
     rw[List.length_map,cR (by lia)]
     have s4:=Same.upd (o:=.lst ((t.drop ((t.length:Int)-(0+(j:Int))).toNat).map sg)) hp1
     refine⟨_,rfl,_,rfl,_,rfl,a,_,rfl,SqL.of (s4 _ _ (s3 _ _ ha2)),fun p2 hp2=>?_⟩
     rw[bW (by lia)]
     have s5:=Same.upd (o:=.lst ((u.take (0+(j:Int)).toNat).map sg)) hp2
     refine⟨p1,p2,_,_,rfl,rfl,SqL.of (s5 _ _ ad),SqL.of ad,(lt.drop _).cp,(lu.take _).cp,_,rfl,?_⟩
     refine bf (fun hd=>?_) (fun hd=>?_)
     ·exact⟨_,rfl,add _ (s4.trans s5)⟩
     ·exact⟨ks,rfl,hk,by lia,fun _=>kn (by lia),s3.trans (s4.trans s5),(s4.trans s5) _ _ hD3⟩
   ·rintro ys H3 ⟨ks,rfl,hk,kl,kn,s3,hD3⟩
    have hp3:=hp2.same s3
    have k03:=k2.trans s3.keep
    have nDp:D≠p:=fun q=>by
     obtain⟨x,y,w',e⟩:=hp2
     rw[←q,hD] at e;cases e
    have kn':=kn u1
    refine⟨_,rfl,_,rfl,_,rfl,D,_,rfl,SqL.of hD3,p,_,rfl,hp3,by rw[aT];lia,fun c H4 c0 c1 hp4 k4=>?_⟩
    rw[aT] at c1
    obtain⟨o,ho,_,eo⟩:=tT c0 c1
    have hou:=hk o ho
    have hD4:=k4 _ _ hD3 nDp
    have k04:=k03.trans k4
    have hr3:=s3 _ _ hr2
    have hr4:=k4 _ _ hr3 (aB hp3 hr3)
    refine⟨D,_,c,_,rfl,rfl,SqL.of hD4,eo,?_⟩
    refine⟨_,rfl,p,8,rfl,hp4,by decide,fun e H5 e0 e1 hp5 k5=>⟨rfl,_,rfl,?_⟩⟩
    have k05:=k04.trans k5
    have hr5:=k5 _ _ hr4 (aB hp4 hr4)
    have hb5:=k05 _ _ hb (aB hp hb)
    have ha5:=k05 _ _ ha (aB hp ha)
    refine bf (fun hc=>?_) (fun hc=>?_)
    ·refine⟨_,rfl,_,rfl,_,rfl,p,b,z,1,rfl,hp5,hb5,lz,z1,z2,by decide,by decide,fun v q H6 hq0 hq6 lv vl hp6 k6=>?_⟩
     have hr6:=k6 _ _ hr5 (aB hp5 hr5)
     have vl':v.length=1:=vl
     refine ce hr6 hq6 (by lia) fun l hl=>?_
     have s7:=Same.upd (o:=.lst ((t++v).map sg)) hl
     have k07:=(k05.trans k6).trans s7.keep
     have ha7:=k07 _ _ ha (aB hp ha)
     refine⟨_,rfl,_,rfl,_,rfl,0,rfl,a,_,rfl,SqL.of ha7,fun l2 hl2=>?_⟩
     rw[cR (by decide)]
     have s8:=Same.upd (o:=.lst ((u.drop (0:Int).toNat).map sg)) hl2
     refine ce (s8 _ _ ad) ad (by rw[List.length_append,List.length_drop];lia) fun l3 hl3=>?_
     have s9:=Same.upd (o:=.lst ((t++v++u.drop (0:Int).toNat).map sg)) hl3
     have k08:=k07.trans s8.keep
     have hp8:=(hp6.same s7).same s8
     exact⟨_,l3,_,_,_,rfl,hp8.free k08 hl3,ad,(lt.app lv).app (lu.drop _),by rw[List.length_append,List.length_append];lia,by rw[List.length_append,List.length_append,List.length_drop];lia,hp8.same s9,k08.trans s9.keep⟩
    ·refine⟨_,rfl,_,rfl,_,rfl,o,rfl,a,_,rfl,SqL.of ha5,fun l2 hl2=>?_⟩
     rw[cR (by lia)]
     have s8:=Same.upd (o:=.lst ((u.drop (o:Int).toNat).map sg)) hl2
     refine ce (s8 _ _ hr5) ad (by rw[List.length_drop];lia) fun l3 hl3=>?_
     have s9:=Same.upd (o:=.lst ((t++u.drop (o:Int).toNat).map sg)) hl3
     have k08:=k05.trans s8.keep
     have hp8:=hp5.same s8
     exact⟨_,l3,_,_,_,rfl,hp8.free k08 hl3,ad,lt.app (lu.drop _),by rw[List.length_append];lia,by rw[List.length_append,List.length_drop];lia,hp8.same s9,k08.trans s9.keep⟩
  ·rintro σ H2 ⟨t,r,v5,v6,v7,rfl,hrn,hr2,lt,tu,tl,hp2,k2⟩
   have hn20:n.toNat≤20:=by lia
   exact⟨_,rfl,k t r H2 hrn hr2 lt (by lia) (by lia) hp2 k2⟩
end
abbrev jq:Stmt:=aJ 55
def m8:Sp:=fun vs H Q _=>∃(p:Addr),vs=[.ref p,.bl true]∧Hand H p∧
 ∀(t u:List Nat) (a b g:Addr) (H':Hp),H a=none→H b=none→H g=none→H' a=some (.lst (t.map sg))→H' b=some (.lst (u.map sg))→H' g=some (.tup [.ref a,.ref b])→Low t→1≤t.length→t.length≤200→Low u→1≤u.length→u.length≤49→Hand H' p→Keep p H H'→Q (.ref g) H'
section
variable{P:Program}{w:World}{K:PySem.W.Frag}{mg:Str→Option Value}{base:Heap}
theorem scPair:FnScope ["deck","long","letters","word","text","begin","end"] ["deck","long"] (au jq):=fsc_
theorem lm{H:Hp}{p l:Addr}{r m:Int}(r0:0≤r)(r1:r<2)(hm:1≤m):∃v:Int,bA [V.int 1,V.int m] r=some (.int v)∧1≤v∧v≤m:=by
 obtain⟨v,hv,hmem,e⟩:=fj [V.int 1,V.int m] r r0 (by simpa using r1)
 simp at hmem
 rcases hmem with rfl | rfl
 ·exact⟨1,e,by decide,hm⟩
 ·exact⟨m,e,hm,by lia⟩
theorem mx{K:PySem.W.Frag}{H:Hp}{a:Addr}{t z:List Nat}{b:Addr}{σ:St}{i j:Nat}{Q:VK}(hi:σ[i]?=some (some (.ref a)))(hj:σ[j]?=some (some (.ref b)))(ha:H a=some (.lst (t.map sg)))(hb:H b=some (.lst (z.map sg)))(lt:Low t)(lz:Low z)(z1:1≤z.length)(k:∀(t':List Nat) (r:Addr) (H':Hp),(r=a∨H r=none)→H' r=some (.lst (t'.map sg))→Low t'→1≤t'.length→(t'.length≤t.length∨t'.length=1)→Same H H'→Q (.ref r) H'):pe K (bo i) (fi (fA K) (bo j) fF (fB (tC (.int 1)))) σ H Q:=by
 refine⟨_,hi,?_⟩
 by_cases ht:t=[]
 ·subst ht
  refine⟨false,.inl ⟨_,SqL.of ha,rfl⟩,a9 ?_⟩
  refine⟨_,hj,1,rfl,b,_,rfl,SqL.of hb,fun l hl=>?_⟩
  rw[bW (by decide)]
  refine k (z.take 1) l _ (.inr hl) ad (lz.take _) ?_ (.inr ?_) (Same.upd hl)
  ·rw[List.length_take];lia
  ·rw[List.length_take];lia
 ·refine⟨true,.inl ⟨_,SqL.of ha,?_⟩,bh ?_⟩
  ·cases t with
   | nil=>exact absurd rfl ht
   | cons _ _=>rfl
  ·refine k t a H (.inl rfl) ha lt ?_ (.inl (Nat.le_refl _)) (Same.refl _)
   cases t with
   | nil=>exact absurd rfl ht
   | cons _ _=>simp
theorem jK{c:TT}{t u aq:TS}{D:Ends}{σ:St}{H:Hp}(T:St→Hp→Prop)(hr:∀σ' H',T σ' H'→aq D σ' H')(h:∀R:St→Hp→Prop,(∀σ' H',T σ' H'→R σ' H')→c σ H fun b H1=>if b=true then t {D with nx:=R} σ H1 else u {D with nx:=R} σ H1):cY (fz c t u) aq D σ H:=h (aq D) hr
theorem qO(M:Md K mg)(B:Bl mg)(F:FF K "_law_pair" jq)(F_law_take:Fn P w K mg base ae "_law_take" 1 ["deck","many"] dg)(F_law_letters:Fn P w K mg base ae "_law_letters" 2 ["deck"] nZ)(F_law_word:Fn P w K mg base ae "_law_word" 3 ["deck","letters","most"] pI)(F_law_overlaid:Fn P w K mg base ae "_law_overlaid" 3 ["deck","letters","word","many"] jZ)(F_law_bent:Fn P w K mg base ae "_law_bent" 3 ["deck","letters","text"] nK):Fn P w K mg base ae "_law_pair" 4 ["deck","long"] m8:=by
 refine aK M F scPair (fun _ _ _ _ _ _=>bC fun _ _=>rfl) (fun vs H Q E h=>?_) (fun f cdv A outer s H vs Q E hr h=>?_)
 ·obtain⟨p,rfl,_⟩:=h;rfl
 ·obtain⟨p,rfl,hp,k⟩:=h
  refine⟨_,(ah (ar (i:=2) scPair.nd rfl (.inl rfl) (ai F_law_letters hr aj (aa (pv 0) ac)))
   (ah (ar (i:=3) scPair.nd rfl (.inl rfl) (ai F_law_word hr aj (aa (pv 0) (aa (pv 2) (aa (aR aZ (bI (aa af (aa af (aa af ac)))) (ai F_law_take hr aj (aa (pv 0) (aa af ac))) (fun _ _=>rfl)) ac)))))
   (ah (ar (i:=4) scPair.nd rfl (.inl rfl) (ai F_law_overlaid hr aj (aa (pv 0) (aa (pv 2) (aa (pv 3) (aa (ai F_law_take hr aj (aa (pv 0) (aa af ac))) ac))))))
   (ah (aV (PW.pt (gc (bx (pv 1)) (fX (aM bR (ai F_law_take hr aj (aa (pv 0) (aa af ac))) af (aF _))))) (ah (ar (i:=4) scPair.nd rfl (.inl rfl) (ai F_law_overlaid hr aj (aa (pv 0) (aa (pv 2) (aa (pv 3) (aa af ac))))))
   (al (gr PassesOwn.never (aM gg (av B.len (pv 4)) af (aF _)) (al (ar (i:=4) scPair.nd rfl (.inl rfl) (ak bZ (pv 4) (pv 4))))))) aU)
   (ah (ar (i:=5) scPair.nd rfl (.inl rfl) (ai F_law_take hr aj (aa (pv 0) (aa (aR aZ (bI (aa af (aa (ak aW (av B.len (pv 3)) af) ac))) (ai F_law_take hr aj (aa (pv 0) (aa af ac))) (fun _ _=>rfl)) ac))))
   (ah (ar (i:=6) scPair.nd rfl (.inl rfl) (ai F_law_take hr aj (aa (pv 0) (aa (aR aZ (bI (aa af (aa (ak aW (av B.len (pv 3)) af) ac))) (ai F_law_take hr aj (aa (pv 0) (aa af ac))) (fun _ _=>rfl)) ac))))
   (ah (ar (i:=4) scPair.nd rfl (.inl rfl) (aP aO (aP aO (pv 4) (aH (pv 5)) a6) a6 (aH af)))
   (ah (ar (i:=4) scPair.nd rfl (.inl rfl) (aP aO (pv 4) a6 (aH (ak a7 (av B.len (pv 4)) (oW rfl B.min (pv 6) (av B.len (pv 4)))))))
   (ah (aV (aM bR (ai F_law_take hr aj (aa (pv 0) (aa af ac))) af (aF _)) (al (ar (i:=4) scPair.nd rfl (.inl rfl) (aP aO (ai F_law_bent hr aj (aa (pv 0) (aa (pv 2) (aa (pv 4) ac)))) a6 (aH af)))) aU)
   (ah (aV (aM bR (ai F_law_take hr aj (aa (pv 0) (aa af ac))) af (aF _)) (al (ar (i:=3) scPair.nd rfl (.inl rfl) (ai F_law_bent hr aj (aa (pv 0) (aa (pv 2) (aa (pv 3) ac)))))) aU)
   (al (aw (fY (aa (my (pv 4) (gR (aP aO (pv 2) a6 (aH af)))) (aa (my (pv 3) (gR (aP aO (pv 2) a6 (aH af)))) ac))))))))))))))),?_⟩
  refine⟨_,rfl,p,rfl,hp,fun z b H1 hb0 hb1 lz z1 z2 hp1 k1=>?_⟩
  refine⟨_,rfl,_,rfl,by show 3≤sizeLine;decide,fun l hl=>?_⟩
  have s2:=Same.upd (o:=.lst [.int 3,.int 6,.int 12]) hl
  have hp1':=hp1.same s2
  refine⟨_,rfl,p,3,rfl,hp1',by decide,fun r H2 r0 r1 hp2 k2=>?_⟩
  have hl2:H2 l=some (.lst ([3,6,12].map V.int)):=k2 _ _ ad (fun q=>by obtain⟨x,y,w',e⟩:=hp1;rw[←q,hl] at e;cases e)
  obtain⟨m,hm,em⟩:=gZ (ns:=[3,6,12]) r0 r1
  have hm':1≤m∧m≤12:=by simp at hm;lia
  refine⟨l,_,r,_,rfl,rfl,SqL.of hl2,em,?_⟩
  have k02:=(k1.trans s2.keep).trans k2
  have hb2:=k2 _ _ (s2 _ _ hb1) (aB hp1' (s2 _ _ hb1))
  refine⟨p,b,z,m,rfl,hp2,hb2,lz,z1,by lia,hm'.1,hm'.2,fun u a H3 ha0 ha3 lu u1 u2 hp3 k3=>?_⟩
  have hb3:=k3 _ _ hb2 (aB hp2 hb2)
  have k03:=k02.trans k3
  have han:H a=none:=hp2.free k02 ha0
  have hbn:H b=none:=hb0
  refine⟨_,rfl,_,rfl,_,rfl,_,rfl,p,5,rfl,hp3,by decide,fun c H4 c0 c1 hp4 k4=>?_⟩
  have hb4:=k4 _ _ hb3 (aB hp3 hb3)
  have ha4:=k4 _ _ ha3 (aB hp3 ha3)
  have k04:=k03.trans k4
  refine⟨p,b,a,z,u,c,rfl,hp4,hb4,lz,z1,by lia,ha4,lu,u1,by lia,c0,by lia,fun t q H5 hq0 hq5 lt t1 t2 hp5 k5=>?_⟩
  have hb5:=k5 _ _ hb4 (aB hp4 hb4)
  have ha5:=k5 _ _ ha4 (aB hp4 ha4)
  have k05:=k04.trans k5
  have hqn:H q=none:=hp4.free k04 hq0
  (try dsimp only[cA])
  refine jK (fun σ H'=>∃(t:List Nat) (q:Addr),σ=[some (.ref p),some (.bl true),some (.ref b),some (.ref a),some (.ref q),none,none]∧H q=none∧H' q=some (.lst (t.map sg))∧Low t∧1≤t.length∧t.length≤1060∧H' b=some (.lst (z.map sg))∧H' a=some (.lst (u.map sg))∧Hand H' p∧Keep p H H') ?_ fun R hR=>?_
  ·rintro σ H7 ⟨t,q,rfl,hqn,hq7,lt,t1,t2,hb7,ha7,hp7,k07⟩
   refine⟨_,rfl,_,rfl,a,_,rfl,SqL.of ha7,_,_,rfl,rfl,by show 2≤sizeLine;decide,fun l hl=>?_⟩
   have s8:=Same.upd (o:=.lst [.int 1,.int (((u.map sg).length:Int)+1)]) hl
   have hp7':=hp7.same s8
   refine⟨_,rfl,p,2,rfl,hp7',by decide,fun r H8 r0 r1 hp8 k8=>?_⟩
   have hl8:=k8 _ _ ad (fun q=>by obtain⟨x,y,w',e⟩:=hp7;rw[←q,hl] at e;cases e)
   obtain⟨v,ev,v1,v2⟩:=lm (H:=H8) (p:=p) (l:=l) r0 r1 (m:=((u.map sg).length:Int)+1) (by lia)
   refine⟨l,_,r,_,rfl,rfl,SqL.of hl8,ev,p,v,rfl,hp8,v1,fun begin H9 b0 b1 hp9 k9=>?_⟩
   have k09:=((k07.trans s8.keep).trans k8).trans k9
   have up:∀{e:Addr} {x:List Nat},H7 e=some (.lst (x.map sg))→H9 e=some (.lst (x.map sg)):=fun{e x} h=>by
    have h1:=k8 _ _ (s8 _ _ h) (aB hp7' (s8 _ _ h))
    exact k9 _ _ h1 (aB hp8 h1)
   have hq9:=up hq7
   have ha9:=up ha7
   have hb9:=up hb7
   refine⟨_,rfl,_,rfl,a,_,rfl,SqL.of ha9,_,_,rfl,rfl,by show 2≤sizeLine;decide,fun l' hl'=>?_⟩
   have s10:=Same.upd (o:=.lst [.int 1,.int (((u.map sg).length:Int)+1)]) hl'
   have hp9':=hp9.same s10
   refine⟨_,rfl,p,2,rfl,hp9',by decide,fun r' H10 r0' r1' hp10 k10=>?_⟩
   have hl10:=k10 _ _ ad (fun q=>by obtain⟨x,y,w',e⟩:=hp9;rw[←q,hl'] at e;cases e)
   obtain⟨v',ev',v1',v2'⟩:=lm (H:=H10) (p:=p) (l:=l') r0' r1' (m:=((u.map sg).length:Int)+1) (by lia)
   refine⟨l',_,r',_,rfl,rfl,SqL.of hl10,ev',p,v',rfl,hp10,v1',fun en H11 en0 en1 hp11 k11=>?_⟩
   have k011:=((k09.trans s10.keep).trans k10).trans k11
   have up2:∀{e:Addr} {x:List Nat},H9 e=some (.lst (x.map sg))→H11 e=some (.lst (x.map sg)):=fun{e x} h=>by
    have h1:=k10 _ _ (s10 _ _ h) (aB hp9' (s10 _ _ h))
    exact k11 _ _ h1 (aB hp10 h1)
   have hq11:=up2 hq9
   have ha11:=up2 ha9
   have hb11:=up2 hb9
   refine⟨_,rfl,_,rfl,begin,rfl,q,_,rfl,SqL.of hq11,fun l1 hl1=>?_⟩
   rw[cR b0]
   have s12:=Same.upd (o:=.lst ((t.drop begin.toNat).map sg)) hl1
   refine⟨200,rfl,l1,_,rfl,SqL.of ad,fun l2 hl2=>?_⟩
   rw[bW (by decide)]
   have s13:=s12.trans (Same.upd (o:=.lst (((t.drop begin.toNat).take (200:Int).toNat).map sg)) hl2)
   have lx:Low ((t.drop begin.toNat).take (200:Int).toNat):=(lt.drop _).take _
   have xl:((t.drop begin.toNat).take (200:Int).toNat).length≤200:=by rw[List.length_take];exact Nat.min_le_left _ _
   have hx13:=ad (H:=L2.upd H11 l1 (.lst ((t.drop begin.toNat).map sg))) (a:=l2) (o:=.lst (((t.drop begin.toNat).take (200:Int).toNat).map sg))
   generalize (t.drop begin.toNat).take (200:Int).toNat=x at*
   generalize L2.upd (L2.upd H11 l1 (.lst ((t.drop begin.toNat).map sg))) l2 (.lst (x.map sg))=H13 at*
   have hp13:=hp11.same s13
   have k013:=k011.trans s13.keep
   refine⟨_,rfl,_,rfl,l2,_,rfl,SqL.of hx13,_,rfl,_,rfl,l2,_,rfl,SqL.of hx13,_,_,rfl,rfl,_,_,rfl,rfl,_,rfl,l2,_,rfl,SqL.of hx13,fun l3 hl3=>?_⟩
   rw[bW (by rw[List.length_map];split <;> lia)]
   have s14:=Same.upd (o:=.lst ((x.take (((x.map sg).length:Int)-(if((x.map sg).length:Int)<en then((x.map sg).length:Int) else en)).toNat).map sg)) hl3
   have ly:Low (x.take (((x.map sg).length:Int)-(if((x.map sg).length:Int)<en then((x.map sg).length:Int) else en)).toNat):=lx.take _
   have yl:(x.take (((x.map sg).length:Int)-(if((x.map sg).length:Int)<en then((x.map sg).length:Int) else en)).toNat).length≤200:=Nat.le_trans (by rw[List.length_take];exact Nat.min_le_right _ _) xl
   have hy14:=ad (H:=H13) (a:=l3) (o:=.lst ((x.take (((x.map sg).length:Int)-(if((x.map sg).length:Int)<en then((x.map sg).length:Int) else en)).toNat).map sg))
   generalize x.take (((x.map sg).length:Int)-(if((x.map sg).length:Int)<en then((x.map sg).length:Int) else en)).toNat=y at*
   have hp14:=hp13.same s14
   have k014:=k013.trans s14.keep
   have hl3n:H l3=none:=hp13.free k013 hl3
   have ha14:=s14 _ _ (s13 _ _ ha11)
   have hb14:=s14 _ _ (s13 _ _ hb11)
   generalize L2.upd H13 l3 (.lst (y.map sg))=H14 at*
   (try dsimp only[cA])
   refine jK (fun σ H'=>∃(t:List Nat) (q:Addr),σ=[some (.ref p),some (.bl true),some (.ref b),some (.ref a),some (.ref q),some (.int begin),some (.int en)]∧H q=none∧H' q=some (.lst (t.map sg))∧Low t∧t.length≤200∧H' b=some (.lst (z.map sg))∧H' a=some (.lst (u.map sg))∧Hand H' p∧Keep p H H') ?_ fun R hR=>?_
   ·rintro σ H16 ⟨y',q',rfl,hqn',hq16,ly',yl',hb16,ha16,hp16,k016⟩
    (try dsimp only[cA])
    refine jK (fun σ H'=>∃(u':List Nat) (a':Addr),σ=[some (.ref p),some (.bl true),some (.ref b),some (.ref a'),some (.ref q'),some (.int begin),some (.int en)]∧H a'=none∧H' a'=some (.lst (u'.map sg))∧Low u'∧u'.length≤49∧H' b=some (.lst (z.map sg))∧H' q'=some (.lst (y'.map sg))∧Hand H' p∧Keep p H H') ?_ fun R hR=>?_
    ·rintro σ H18 ⟨u',a',rfl,han',ha18,lu',ul',hb18,hq18,hp18,k018⟩
     refine mx (K:=K) (i:=4) (j:=2) rfl rfl hq18 hb18 ly' lz z1 fun t' r2 H19 hr2 hr19 lt' t1' tl' s19=>?_
     have ha19:=s19 _ _ ha18
     have hb19:=s19 _ _ hb18
     refine mx (K:=K) (i:=3) (j:=2) rfl rfl ha19 hb19 lu' lz z1 fun u2' r3 H20 hr3 hr20 lu2 u1' ul2 s20=>?_
     refine⟨by show 2≤sizeLine;decide,fun g2 hg2=>?_⟩
     have s21:=Same.upd (o:=.tup [.ref r2,.ref r3]) hg2
     have k019:=k018.trans s19.keep
     have k020:=k019.trans s20.keep
     have hp19:=hp18.same s19
     have hp20:=hp19.same s20
     refine k t' u2' r2 r3 g2 _ ?_ ?_ (hp20.free k020 hg2) (s21 _ _ (s20 _ _ hr19)) (s21 _ _ hr20) ad lt' t1' ?_ lu2 u1' ?_ (hp20.same s21) (k020.trans s21.keep)
     ·rcases hr2 with rfl | h
      ·exact hqn'
      ·exact hp18.free k018 h
     ·rcases hr3 with rfl | h
      ·exact han'
      ·exact hp19.free k019 h
     ·rcases tl' with h | h <;> lia
     ·rcases ul2 with h | h <;> lia
    ·refine⟨_,rfl,p,6,rfl,hp16,by decide,fun g H17 g0 g1 hp17 k17=>⟨rfl,_,rfl,?_⟩⟩
     have hq17:=k17 _ _ hq16 (aB hp16 hq16)
     have ha17:=k17 _ _ ha16 (aB hp16 ha16)
     have hb17:=k17 _ _ hb16 (aB hp16 hb16)
     have k017:=k016.trans k17
     refine bf (fun hc=>?_) (fun hc=>?_)
     ·refine⟨_,rfl,_,rfl,_,rfl,p,b,a,z,u,rfl,hp17,hb17,lz,z1,by lia,ha17,lu,by lia,fun u' a' H18 ha0' ha18 lu' ul' hp18 k18=>?_⟩
      exact hR _ _ ⟨u',a',rfl,hp17.free k017 ha0',ha18,lu',by lia,k18 _ _ hb17 (aB hp17 hb17),k18 _ _ hq17 (aB hp17 hq17),hp18,k017.trans k18⟩
     ·exact hR _ _ ⟨u,a,rfl,han,ha17,lu,by lia,hb17,hq17,hp17,k017⟩
   ·refine⟨_,rfl,p,4,rfl,hp14,by decide,fun d H15 d0 d1 hp15 k15=>⟨rfl,_,rfl,?_⟩⟩
    have hy15:=k15 _ _ hy14 (aB hp14 hy14)
    have ha15:=k15 _ _ ha14 (aB hp14 ha14)
    have hb15:=k15 _ _ hb14 (aB hp14 hb14)
    have k015:=k014.trans k15
    refine bf (fun hc=>?_) (fun hc=>?_)
    ·refine⟨_,rfl,_,rfl,_,rfl,p,b,l3,z,y,rfl,hp15,hb15,lz,z1,by lia,hy15,ly,by lia,fun x' q' H16 hq0 hq16 lx' xl' hp16 k16=>?_⟩
     refine⟨200,rfl,q',_,rfl,SqL.of hq16,fun l4 hl4=>?_⟩
     rw[bW (by decide)]
     have s17:=Same.upd (o:=.lst ((x'.take (200:Int).toNat).map sg)) hl4
     have k016:=k015.trans k16
     exact hR _ _ ⟨_,l4,rfl,hp16.free k016 hl4,ad,lx'.take _,by rw[List.length_take];exact Nat.min_le_left _ _,s17 _ _ (k16 _ _ hb15 (aB hp15 hb15)),s17 _ _ (k16 _ _ ha15 (aB hp15 ha15)),hp16.same s17,k016.trans s17.keep⟩
    ·exact hR _ _ ⟨y,l3,rfl,hl3n,hy15,ly,yl,hb15,ha15,hp15,k015⟩
  ·refine⟨_,rfl,true,rfl,bh ?_⟩
   refine⟨_,rfl,p,16,rfl,hp5,by decide,fun e H6 e0 e1 hp6 k6=>⟨rfl,_,rfl,?_⟩⟩
   have hb6:=k6 _ _ hb5 (aB hp5 hb5)
   have ha6:=k6 _ _ ha5 (aB hp5 ha5)
   have hq6:=k6 _ _ hq5 (aB hp5 hq5)
   have k06:=k05.trans k6
   refine bf (fun hc=>?_) (fun hc=>?_)
   ·refine⟨_,rfl,_,rfl,_,rfl,p,b,a,z,u,20,rfl,hp6,hb6,lz,z1,by lia,ha6,lu,u1,by lia,by decide,by decide,fun t q H7 hq0 hq7 lt t1 t2 hp7 k7=>?_⟩
    have hqn:H q=none:=hp6.free k06 hq0
    refine su (fun σ H'=>∃(t:List Nat) (q:Addr),σ=[some (.ref p),some (.bl true),some (.ref b),some (.ref a),some (.ref q),none,none]∧H q=none∧H' q=some (.lst (t.map sg))∧Low t∧1≤t.length∧t.length≤1060∧H' b=some (.lst (z.map sg))∧H' a=some (.lst (u.map sg))∧Hand H' p∧Keep p H H')
     (fun σ H'=>200-(match (σ[4]?:Option (Option V)) with | some (some (V.ref q))=>(match (H' q:Option HO) with | some (.lst xs)=>xs.length | _=>0) | _=>0)) ?_ ?_ ?_
    ·exact⟨t,q,rfl,hqn,hq7,lt,t1,t2,k7 _ _ hb6 (aB hp6 hb6),k7 _ _ ha6 (aB hp6 ha6),hp7,k06.trans k7⟩
    ·rintro σ H8 ⟨t,q,rfl,hqn,hq8,lt,t1,t2,hb8,ha8,hp8,k08⟩
     refine⟨_,rfl,q,_,rfl,SqL.of hq8,_,_,rfl,rfl,_,rfl,?_⟩
     refine bf (fun hc=>?_) (fun hc=>?_)
     ·have hlt:t.length<200:=by
       have:=of_decide_eq_true hc
       rw[List.length_map] at this;lia
      refine⟨_,rfl,_,rfl,ce hq8 hq8 (by lia) fun l hl=>?_⟩
      have s9:=Same.upd (o:=.lst ((t++t).map sg)) hl
      refine⟨⟨t++t,l,rfl,hp8.free k08 hl,ad,lt.app lt,by rw[List.length_append];lia,by rw[List.length_append];lia,s9 _ _ hb8,s9 _ _ ha8,hp8.same s9,k08.trans s9.keep⟩,?_⟩
      show 200-(match ((L2.upd H8 l (.lst ((t++t).map sg))) l:Option HO) with | some (.lst xs)=>xs.length | _=>0)<200-(match (H8 q:Option HO) with | some (.lst xs)=>xs.length | _=>0)
      rw[ad,hq8]
      show 200-((t++t).map sg).length<200-(t.map sg).length
      rw[List.length_map,List.length_map,List.length_append];lia
     ·exact hR _ _ ⟨t,q,rfl,hqn,hq8,lt,t1,t2,hb8,ha8,hp8,k08⟩
    ·rintro σ H8 Q1 Q2 himp ⟨v,e1,a1,xs,e2,e3,i1,j1,e4,e5,b1,e6,h⟩
     exact⟨v,e1,a1,xs,e2,e3,i1,j1,e4,e5,b1,e6,himp _ _ h⟩
   ·exact hR _ _ ⟨t,q,rfl,hqn,hq6,lt,t1,t2,hb6,ha6,hp6,k06⟩
end
abbrev ki:Stmt:=aJ 10
abbrev jA:Stmt:=aJ 11
def mq:Sp:=fun vs H Q _=>∃c:Nat,vs=[sg c]∧97≤c∧c≤122∧Q (.bl true) H
def dI:Sp:=fun vs H Q _=>∃(a:Addr) (t:List Nat),vs=[.ref a]∧H a=some (.lst (t.map sg))∧Low t∧Q .non H
theorem zw{c:Nat}(h:97≤c):(!decide ((aA c).cps.toList<(Str.ofString "a").cps.toList))=true:=by
 have e:(Str.ofString "a").cps.toList=[97]:=by decide+kernel
 rw[e]
 have:¬([c] < [97]):=fun q=>by
  cases q with
  | rel r=>lia
  | cons r=>cases r
 simp[this]
theorem xc{c:Nat}(h:c≤122):(!decide ((Str.ofString "z").cps.toList<(aA c).cps.toList))=true:=by
 have e:(Str.ofString "z").cps.toList=[122]:=by decide+kernel
 rw[e]
 have:¬([122] < [c]):=fun q=>by
  cases q with
  | rel r=>lia
  | cons r=>cases r
 simp[this]
section
variable{P:Program}{w:World}{K:PySem.W.Frag}{mg:Str→Option Value}{base:Heap}
theorem vb:FnScope ["sign"] ["sign"] (au ki):=fsc_
theorem sM(M:Md K mg)(B:Bl mg)(F:FF K "is_sign" ki):Fn P w K mg base ae "is_sign" 1 ["sign"] mq:=by
 refine aK M F vb (fun _ _ _ _ _ _=>bJ fun _=>rfl) (fun vs H Q E h=>?_) (fun f cdv A outer s H vs Q E hr h=>?_)
 ·obtain⟨c,rfl,_⟩:=h;rfl
 ·obtain⟨c,rfl,c1,c2,k⟩:=h
  refine⟨_,(al (aw (pO (wt B.isinst B.str u7 (pv 0)) (pO (dL bR (uQ B.len (pv 0)) af (aF _)) (gR (wC oC oC cS (pv 0) cS)))))),?_⟩
  refine⟨_,rfl,_,true,TyOf.str _,rfl,_,rfl,bh ?_⟩
  refine⟨_,rfl,_,rfl,sz (by show 1≤1000;decide),rfl,true,rfl,bh ?_⟩
  refine⟨_,rfl,_,_,rfl,rfl,_,rfl,?_⟩
  rw[zw c1]
  refine bh ⟨_,_,rfl,rfl,?_⟩
  rw[xc c2]
  exact k
theorem scCheck:FnScope ["text","sign"] ["text"] (au jA):=fsc_
theorem qF(M:Md K mg)(B:Bl mg)(F:FF K "check_signs" jA)(Fis_sign:Fn P w K mg base ae "is_sign" 1 ["sign"] mq):Fn P w K mg base ae "check_signs" 2 ["text"] dI:=by
 refine aK M F scCheck (fun _ _ _ _ _ _=>bJ fun _=>rfl) (fun vs H Q E h=>?_) (fun f cdv A outer s H vs Q E hr h=>?_)
 ·obtain⟨a,t,rfl,_⟩:=h;rfl
 ·obtain⟨a,t,rfl,ha,lt,k⟩:=h
  refine⟨_,(al (cT PassesOwn.never rfl (bK (pv 0)) (bq (i:=1) scCheck.nd rfl (.inl rfl))
   (al (aV (cO (bx (ai Fis_sign hr aj (aa (pv 1) ac)))) (al fD) aU)))),?_⟩
  refine⟨_,rfl,a,rfl,⟨_,SqL.of ha⟩,ie (K:=K) (a:=a) (xs:=t.map sg) (fun i σ H2=>H2=H∧∃v,σ=[some (.ref a),v]) ⟨rfl,none,rfl⟩ (fun i σ H2 _ h2=>by rw[h2.1];exact SqL.of ha) ?_ ?_⟩
  ·rintro i x σ H2 hx ⟨rfl,v,rfl⟩
   rw[List.getElem?_map] at hx
   cases e:t[i]? with
   | none=>rw[e] at hx;cases hx
   | some c=>
     rw[e] at hx
     have:sg c=x:=Option.some.inj hx
     subst this
     have hc:=lt c (List.mem_of_getElem? e)
     exact⟨_,rfl,c,rfl,hc.1,hc.2,true,rfl,a9 ⟨rfl,_,rfl⟩⟩
  ·rintro σ H2 ⟨rfl,_⟩
   exact k
end
def cI(t:List Nat):List Nat:=(List.range t.length).filter fun k=>decide (t.take k=t.drop (t.length-k))
def oN:Sp:=fun vs H Q _=>∃(a:Addr) (t:List Nat),vs=[.ref a]∧H a=some (.lst (t.map sg))∧Low t∧t.length≤1000∧
 ∀(r:Addr) (H':Hp),H r=none→H' r=some (.lst (am (cI t)))→Same H H'→Q (.ref r) H'
theorem yK{t:List Nat}{k:Nat}(h:k∈cI t):k<t.length:=by
 simp[cI] at h;exact h.1
theorem tI(t:List Nat):(cI t).length≤t.length:=gE _
theorem pJ{t:List Nat}{i:Nat}:((List.range (i+1)).filter fun k=>decide (t.take k=t.drop (t.length-k)))=((List.range i).filter fun k=>decide (t.take k=t.drop (t.length-k)))++(if t.take i=t.drop (t.length-i) then [i] else []):=by
 rw[List.range_succ,List.filter_append]
 congr 1
 by_cases h:t.take i=t.drop (t.length-i) <;> simp[h]
abbrev kM:Stmt:=aJ 17
section
variable{P:Program}{w:World}{K:PySem.W.Frag}{mg:Str→Option Value}{base:Heap}
theorem scBorders:FnScope ["text","length"] ["text"] (au kM):=fsc_
theorem sQ(M:Md K mg)(B:Bl mg)(F:FF K "borders" kM)(Fcheck_signs:Fn P w K mg base ae "check_signs" 2 ["text"] dI):Fn P w K mg base ae "borders" 3 ["text"] oN:=by
 refine aK M F scBorders (fun _ _ _ _ _ _=>bJ fun _=>rfl) (fun vs H Q E h=>?_) (fun f cdv A outer s H vs Q E hr h=>?_)
 ·obtain⟨a,t,rfl,_⟩:=h;rfl
 ·obtain⟨a,t,rfl,ha,lt,hl,k⟩:=h
  refine⟨_,(ah (bc (ai Fcheck_signs hr aj (aa (pv 0) ac)))
   (ah (ar (i:=1) scBorders.nd rfl (.inr rfl) (av B.len (pv 0)))
   (al (aw (bP ["text","length"] rfl (dq (by rfl) B.range (aa (pv 1) ac)) (fun _=>by exact(cg (aM (eU (by exact hr)) (aP aO (pv 0) a6 (aH (pv 2))) (aP aO (pv 0) (aH (ak a7 (pv 1) (pv 2))) a6) (aF _)))) (fun _=>by exact(pv 2))))))),?_⟩
  refine⟨_,rfl,a,t,rfl,ha,lt,?_⟩
  refine⟨_,rfl,a,_,rfl,SqL.of ha,?_⟩
  refine⟨_,rfl,_,rfl,by rw[List.length_map];lia,by rw[List.length_map];lia,fun D hD b=>?_⟩
  rw[List.length_map,Int.toNat_natCast]
  refine du (lo:=0) (n:=t.length) (fun i ys H2=>ys=am ((List.range i).filter fun k=>decide (t.take k=t.drop (t.length-k)))∧Same H H2∧H2 D=some (.lst ys)) (bi hl) ?_ ?_ ?_ ?_
  ·exact⟨rfl,Same.upd hD,ad⟩
  ·rintro i ys H2 ⟨rfl,_⟩
   rw[aT];exact gE _
  ·rintro i ys H2 hi ⟨rfl,s2,hD2⟩
   refine⟨_,rfl,_,rfl,_,rfl,a,_,rfl,SqL.of (s2 _ _ ha),fun p1 hp1=>?_⟩
   have s3:=s2.trans (Same.upd (o:=.lst (bp (t.map sg) none (some (0+(i:Int))))) hp1)
   refine⟨_,rfl,_,rfl,_,rfl,_,_,rfl,rfl,_,rfl,a,_,rfl,SqL.of (s3 _ _ ha),fun p2 hp2=>?_⟩
   have n12:p1≠p2:=aN ad hp2
   refine⟨p1,p2,t.take i,t.drop (t.length-i),rfl,rfl,SqL.of ?_,SqL.of ?_,(lt.take _).cp,(lt.drop _).cp,_,rfl,?_⟩
   ·rw[ao n12,ad,bO,bE,fT _ _ (by lia),show(0+(i:Int)).toNat=i by lia]
   ·rw[ad,bO,bE,iH _ _ (by lia),show((t.length:Int)-(0+(i:Int))).toNat=t.length-i by lia]
   ·have s4:=s3.trans (Same.upd (o:=.lst (bp (t.map sg) (some ((t.length:Int)-(0+(i:Int)))) none)) hp2)
    have hD4:=(Same.upd (H:=L2.upd H2 p1 _) (o:=.lst (bp (t.map sg) (some ((t.length:Int)-(0+(i:Int)))) none)) hp2) _ _ ((Same.upd (o:=.lst (bp (t.map sg) none (some (0+(i:Int))))) hp1) _ _ hD2)
    refine bf (fun hc=>?_) (fun hc=>?_)
    ·have hc':t.take i=t.drop (t.length-i):=by simpa using hc
     refine⟨_,rfl,hD4,?_,?_,ad⟩
     ·rw[pJ,if_pos hc',gu]
     ·intro b o e
      rw[ao (aN e hD)]
      exact s4 b o e
    ·have hc':¬t.take i=t.drop (t.length-i):=by simpa using hc
     refine⟨?_,s4,hD4⟩
     rw[pJ,if_neg hc',List.append_nil]
  ·rintro ys H2 ⟨rfl,s2,hD2⟩
   exact k D H2 hD hD2 s2
end
abbrev kD:Stmt:=aJ 18
def kI(t:List Nat):List Nat:=(cI t).reverse.map (t.length - ·)
def nL:Sp:=fun vs H Q _=>∃(a:Addr) (t:List Nat),vs=[.ref a]∧H a=some (.lst (t.map sg))∧Low t∧t.length≤1000∧
 ∀(r:Addr) (H':Hp),H r=none→H' r=some (.lst (am (kI t)))→Same H H'→Q (.ref r) H'
theorem rf{α:Type}(xs:List α)(i:Nat)(x:α)(h:xs[xs.length-1-i]?=some x)(hi:i<xs.length):xs.reverse.take (i+1)=xs.reverse.take i++[x]:=by
 rw[List.take_add_one,List.getElem?_reverse hi,h]
 rfl
section
variable{P:Program}{w:World}{K:PySem.W.Frag}{mg:Str→Option Value}{base:Heap}
theorem vc:FnScope ["text"] ["text"] (au kD):=fsc_
theorem tZ(M:Md K mg)(B:Bl mg)(F:FF K "periods" kD)(Fborders:Fn P w K mg base ae "borders" 3 ["text"] oN):Fn P w K mg base ae "periods" 4 ["text"] nL:=by
 refine aK M F vc (fun _ _ _ _ _ _=>bJ fun _=>rfl) (fun vs H Q E h=>?_) (fun f cdv A outer s H vs Q E hr h=>?_)
 ·obtain⟨a,t,rfl,_⟩:=h;rfl
 ·obtain⟨a,t,rfl,ha,lt,hl,k⟩:=h
  refine⟨_,(al (aw (bP ["text"] rfl (zq B.rev (ai Fborders hr aj (aa (pv 0) ac))) (fun _=>by exact d5) (fun _=>by exact(ak a7 (av B.len (pv 0)) (pv 1)))))),?_⟩
  refine⟨_,rfl,a,t,rfl,ha,lt,hl,fun r H1 hr0 hr1 s1=>?_⟩
  refine⟨r,_,rfl,SqL.of hr1,fun D hD b=>?_⟩
  have el:=tI t
  refine rg (K:=K) (a:=r) (xs:=am (cI t)) (fun i ys H2=>ys=am (((cI t).reverse.take i).map (t.length - ·))∧Same H1 H2∧H2 D=some (.lst ys)) (by rw[aT];exact bi (by lia)) ?_ ?_ ?_ ?_ ?_
  ·exact⟨by simp[am],Same.upd hD,ad⟩
  ·rintro i ys H2 ⟨rfl,_⟩
   rw[aT,List.length_map,List.length_take];lia
  ·rintro i ys H2 _ ⟨rfl,s2,_⟩;exact SqL.of (s2 _ _ hr1)
  ·rintro i x ys H2 hx hi ⟨rfl,s2,hD2⟩
   refine dW ?_
   rw[aT] at hx hi
   obtain⟨k,hk,rfl⟩:∃k,(cI t)[(cI t).length-1-i]?=some k∧x=V.int (k:Int):=by
    unfold am at hx
    rw[List.map_map,List.getElem?_map] at hx
    cases q:(cI t)[(cI t).length-1-i]? with
    | none=>rw[q] at hx;cases hx
    | some k=>
      rw[q] at hx
      exact⟨k,rfl,(Option.some.inj hx).symm⟩
   have hk':=yK (List.mem_of_getElem? hk)
   refine⟨_,rfl,a,_,rfl,SqL.of (s2 _ _ (s1 _ _ ha)),_,rfl,_,_,rfl,rfl,hD2,?_,?_,ad⟩
   ·rw[rf _ _ _ hk hi,List.map_append,List.length_map]
    show am _++[V.int ((t.length:Int)-(k:Int))]=am (_++[t.length-k])
    rw[gu,Int.zero_add,Int.ofNat_sub (Nat.le_of_lt hk')]
   ·intro b o e
    rw[ao (aN e hD)]
    exact s2 b o e
  ·rintro ys H2 ⟨rfl,s2,hD2⟩
   refine k D H2 (s1.free hD) ?_ (s1.trans s2)
   rw[hD2,aT,List.take_of_length_le (by simp)]
   rfl
end
def aD(t u:List Nat):List Nat:=(List.range (t.length+1-u.length)).filter fun p=>decide ((t.drop p).take u.length=u)
theorem sg_inj{a b:Nat}:(sg a=sg b)↔a=b:=by
 constructor
 ·intro h
  have:aA a=aA b:=V.str.inj h
  simpa [aA] using this
 ·intro h;rw[h]
theorem cP(ks:List Nat)(i:Nat):am (ks++[i])=am ks++[V.int (i:Int)]:=by simp[am]
def zE(t u:List Nat)(p j:Nat):List Nat:=(List.range j).filter fun q=>!decide (t[p+q]?=u[q]?)
theorem oo(t u:List Nat)(i:Nat):((List.range (i+1)).filter fun p=>decide ((t.drop p).take u.length=u))=((List.range i).filter fun p=>decide ((t.drop p).take u.length=u))++(if(t.drop i).take u.length=u then [i] else []):=by
 rw[List.range_succ,List.filter_append]
 congr 1
 by_cases h:(t.drop i).take u.length=u <;> simp[h]
def gq:Sp:=fun vs H Q _=>∃(a b:Addr) (t u:List Nat),vs=[.ref a,.ref b]∧H a=some (.lst (t.map sg))∧H b=some (.lst (u.map sg))∧Low t∧Low u∧t.length≤900∧u.length≤900∧1≤u.length∧
 ∀(r:Addr) (H':Hp),H r=none→H' r=some (.lst (am (aD t u)))→Same H H'→Q (.ref r) H'
abbrev kj:Stmt:=aJ 12
abbrev kL:Stmt:=aJ 19
def gd:Sp:=fun vs H Q _=>∃(a:Addr) (t:List Nat),vs=[.ref a]∧H a=some (.lst (t.map sg))∧Low t∧1≤t.length∧Q .non H
section
variable{P:Program}{w:World}{K:PySem.W.Frag}{mg:Str→Option Value}{base:Heap}
theorem sd:FnScope ["word"] ["word"] (au kj):=fsc_
theorem wz(M:Md K mg)(B:Bl mg)(F:FF K "check_word" kj)(Fcheck_signs:Fn P w K mg base ae "check_signs" 2 ["text"] dI):Fn P w K mg base ae "check_word" 3 ["word"] gd:=by
 refine aK M F sd (fun _ _ _ _ _ _=>bJ fun _=>rfl) (fun vs H Q E h=>?_) (fun f cdv A outer s H vs Q E hr h=>?_)
 ·obtain⟨a,t,rfl,_⟩:=h;rfl
 ·obtain⟨a,t,rfl,ha,lt,t1,k⟩:=h
  refine⟨_,(ah (aV (aM bR (av B.len (pv 0)) af (aF _)) (al fD) aU)
   (al (bc (ai Fcheck_signs hr aj (aa (pv 0) ac))))),?_⟩
  refine⟨_,rfl,a,_,rfl,SqL.of ha,rfl,_,rfl,?_⟩
  rw[decide_eq_false (fun q=>by have:=V.int.inj q;rw[List.length_map] at this;lia)]
  exact a9 ⟨_,rfl,a,t,rfl,ha,lt,k⟩
theorem scLiesAt:FnScope ["text","word","many"] ["text","word"] (au kL):=fsc_
theorem y9(M:Md K mg)(B:Bl mg)(F:FF K "lies_at" kL)(Fcheck_signs:Fn P w K mg base ae "check_signs" 2 ["text"] dI)(Fcheck_word:Fn P w K mg base ae "check_word" 3 ["word"] gd):Fn P w K mg base ae "lies_at" 4 ["text","word"] gq:=by
 refine aK M F scLiesAt (fun _ _ _ _ _ _=>bC fun _ _=>rfl) (fun vs H Q E h=>?_) (fun f cdv A outer s H vs Q E hr h=>?_)
 ·obtain⟨a,b,t,u,rfl,_⟩:=h;rfl
 ·obtain⟨a,b,t,u,rfl,ha,hb,lt,lu,tl,ul,u1,k⟩:=h
  refine⟨_,(ah (bc (ai Fcheck_word hr aj (aa (pv 1) ac)))
   (ah (bc (ai Fcheck_signs hr aj (aa (pv 0) ac)))
   (ah (ar (i:=2) scLiesAt.nd rfl (.inr rfl) (av B.len (pv 1)))
   (al (aw (bP ["text","word","many"] rfl (dq (by rfl) B.range (aa (ak aW (ak a7 (av B.len (pv 0)) (pv 2)) af) ac)) (fun _=>by exact(cg (aM (eU (by exact hr)) (aP aO (pv 0) (aH (pv 3)) (aH (ak aW (pv 3) (pv 2)))) (pv 1) (aF _)))) (fun _=>by exact(pv 3)))))))),?_⟩
  refine⟨_,rfl,b,u,rfl,hb,lu,u1,?_⟩
  refine⟨_,rfl,a,t,rfl,ha,lt,?_⟩
  refine⟨_,rfl,b,_,rfl,SqL.of hb,?_⟩
  refine⟨_,rfl,a,_,rfl,SqL.of ha,_,rfl,_,_,rfl,rfl,_,_,rfl,rfl,_,rfl,by rw[List.length_map,List.length_map];lia,by rw[List.length_map,List.length_map];lia,fun D hD cb=>?_⟩
  rw[List.length_map,List.length_map,show((t.length:Int)-(u.length:Int)+1).toNat=t.length+1-u.length by lia]
  refine du (lo:=0) (n:=t.length+1-u.length) (fun i ys H2=>ys=am ((List.range i).filter fun p=>decide ((t.drop p).take u.length=u))∧Same H H2∧H2 D=some (.lst ys)) (bi (by lia)) ?_ ?_ ?_ ?_
  ·exact⟨rfl,Same.upd hD,ad⟩
  ·rintro i ys H2 ⟨rfl,_⟩
   rw[aT];exact gE _
  ·rintro i ys H2 hi ⟨rfl,s2,hD2⟩
   refine⟨_,rfl,_,rfl,_,rfl,_,rfl,_,rfl,_,_,rfl,rfl,_,rfl,a,_,rfl,SqL.of (s2 _ _ ha),fun p1 hp1=>?_⟩
   have s3:=s2.trans (Same.upd (o:=.lst (bp (t.map sg) (some (0+(i:Int))) (some (0+(i:Int)+(u.length:Int))))) hp1)
   refine⟨_,rfl,p1,b,(t.drop i).take u.length,u,rfl,rfl,SqL.of ?_,SqL.of (s3 _ _ hb),((lt.drop _).take _).cp,lu.cp,_,rfl,?_⟩
   ·rw[ad,bO,bE,dN _ _ _ (by lia) (by lia),show(0+(i:Int)).toNat=i by lia,show(0+(i:Int)+(u.length:Int)).toNat-i=u.length by lia]
   ·have hD3:=(Same.upd (o:=.lst (bp (t.map sg) (some (0+(i:Int))) (some (0+(i:Int)+(u.length:Int))))) hp1) _ _ hD2
    refine bf (fun hc=>?_) (fun hc=>?_)
    ·have hc':(t.drop i).take u.length=u:=by simpa using hc
     refine⟨_,rfl,hD3,?_,?_,ad⟩
     ·rw[oo,if_pos hc',gu]
     ·intro b o e
      rw[ao (aN e hD)]
      exact s3 b o e
    ·have hc':¬(t.drop i).take u.length=u:=by simpa using hc
     refine⟨?_,s3,hD3⟩
     rw[oo,if_neg hc',List.append_nil]
  ·rintro ys H2 ⟨rfl,s2,hD2⟩
   exact k D H2 hD hD2 s2
end
theorem qm{α:Type}{f:α→Bool}:∀{l:List α},(∀x∈l,f x=true)→l.takeWhile f=l
 | [],_=>rfl
 | x::l,h=>by
   rw[List.takeWhile_cons,h x List.mem_cons_self,if_pos rfl,qm fun y hy=>h y (List.mem_cons_of_mem _ hy)]
theorem ma{α:Type}{f:α→Bool}{y:α}:∀{l:List α},y∈l.takeWhile f→f y=true
 | [],h=>by cases h
 | x::l,h=>by
   rw[List.takeWhile_cons] at h
   cases q:f x with
   | false=>rw[q] at h;cases h
   | true=>
     rw[q,if_pos rfl] at h
     rcases List.mem_cons.mp h with rfl | h
     ·exact q
     ·exact ma h
def cov(ks:List Nat)(m i:Nat):Bool:=ks.any fun p=>decide (p≤i∧i<p+m)
def cq(n m:Nat)(ks:List Nat):Nat:=((List.range n).takeWhile (cov ks m)).length
theorem zo(n m:Nat)(ks:List Nat):cq n m ks≤n:=by
 unfold cq
 have:=(List.takeWhile_sublist (cov ks m) (l:=List.range n)).length_le
 simpa using this
theorem vP{n x:Nat}{f:Nat→Bool}(hx:x≤n)(h1:∀i,i<x→f i=true)(h2:x<n→f x=false):((List.range n).takeWhile f).length=x:=by
 have e:List.range n=List.range x++(List.range (n-x)).map (x+ ·):=by
  rw[←List.range_add];congr 1;lia
 have a:(List.range x).takeWhile f=List.range x:=by
  apply qm
  intro i hi
  exact h1 i (by simpa using hi)
 rw[e,List.takeWhile_append,a]
 simp only[List.length_range,if_true]
 by_cases hlt:x<n
 ·obtain⟨d,hd⟩:∃d,n-x=d+1:=⟨n-x-1,by lia⟩
  rw[hd,List.range_succ_eq_map,List.map_cons,List.takeWhile_cons]
  simp[h2 hlt]
 ·have:n-x=0:=by lia
  rw[this];simp
theorem sX{n:Nat}{f:Nat→Bool}{i:Nat}(h:i<((List.range n).takeWhile f).length):f i=true:=by
 have hp:=List.takeWhile_prefix f (l:=List.range n)
 have e:((List.range n).takeWhile f)[i]?=(List.range n)[i]?:=by
  obtain⟨r,hr⟩:=hp
  conv=>rhs;rw[←hr]
  rw[List.getElem?_append_left h]
 have hi:i<n:=by
  have:=hp.length_le
  simp at this;lia
 have m:i∈(List.range n).takeWhile f:=by
  rw[List.mem_iff_getElem?]
  exact⟨i,by rw[e];simp[hi]⟩
 exact ma m
theorem rL{n m:Nat}{ks:List Nat}{i:Nat}(h:i<cq n m ks):cov ks m i=true:=sX h
theorem jf{n m x:Nat}{ks:List Nat}(hx:x≤n)(h1:∀i,i<x→cov ks m i=true)(h2:x<n→cov ks m x=false):cq n m ks=x:=vP hx h1 h2
def fb(m:Nat):Nat→List Nat→Nat
 | reach,[]=>reach
 | reach,p::r=>if p>reach then reach else fb m (p+m) r
theorem cov_true{ks:List Nat}{m i:Nat}:cov ks m i=true↔∃p∈ks,p≤i∧i<p+m:=by
 unfold cov
 rw[List.any_eq_true]
 constructor
 ·rintro⟨p,hp,h⟩;exact⟨p,hp,of_decide_eq_true h⟩
 ·rintro⟨p,hp,h⟩;exact⟨p,hp,decide_eq_true h⟩
theorem o6{ks:List Nat}{m i:Nat}:cov ks m i=false↔∀p∈ks,¬(p≤i∧i<p+m):=by
 rw[←Bool.not_eq_true,cov_true]
 constructor
 ·intro h p hp q;exact h ⟨p,hp,q⟩
 ·rintro h ⟨p,hp,q⟩;exact h p hp q
theorem mj{m n:Nat}:∀(ks D:List Nat) (R:Nat),(D++ks).Pairwise (·< ·)→(∀p∈D,p+m≤R)→(∀i,i<R→cov D m i=true)→R≤n→(∀p∈ks,p+m≤n)→fb m R ks≤n∧(∀i,i<fb m R ks→cov (D++ks) m i=true)∧cov (D++ks) m (fb m R ks)=false
 | [],D,R,hs,hd,hc,hr,hk=>by
   rw[List.append_nil]
   refine⟨hr,hc,?_⟩
   rw[o6]
   intro p hp q
   have:=hd p hp
   simp only[fb] at q
   lia
 | p::r,D,R,hs,hd,hc,hr,hk=>by
   simp only[fb]
   have hsp:=List.pairwise_append.mp hs
   have hpr:=List.pairwise_cons.mp hsp.2.1
   by_cases h:p>R
   ·rw[if_pos h]
    refine⟨hr,fun i hi=>?_,?_⟩
    ·obtain⟨q,hq,z⟩:=cov_true.mp (hc i hi)
     exact cov_true.mpr ⟨q,List.mem_append_left _ hq,z⟩
    ·rw[o6]
     intro q hq z
     rcases List.mem_append.mp hq with hq | hq
     ·have:=hd q hq;lia
     ·rcases List.mem_cons.mp hq with rfl | hq
      ·lia
      ·have:=hpr.1 q hq;lia
   ·rw[if_neg h]
    have e:D++p::r=(D++[p])++r:=by simp
    rw[e] at hs ⊢
    refine mj r (D++[p]) (p+m) hs (fun q hq=>?_) (fun i hi=>?_) (hk p List.mem_cons_self) (fun q hq=>hk q (List.mem_cons_of_mem _ hq))
    ·rcases List.mem_append.mp hq with hq | hq
     ·have:=hsp.2.2 q hq p List.mem_cons_self;lia
     ·rw[List.mem_singleton.mp hq];lia
    ·by_cases hi2:i<R
     ·obtain⟨q,hq,z⟩:=cov_true.mp (hc i hi2)
      exact cov_true.mpr ⟨q,List.mem_append_left _ hq,z⟩
     ·exact cov_true.mpr ⟨p,by simp,by lia,hi⟩
theorem rY{m n:Nat}{ks:List Nat}(hs:ks.Pairwise (·< ·))(hk:∀p∈ks,p+m≤n):fb m 0 ks=cq n m ks:=by
 obtain⟨h1,h2,h3⟩:=mj (m:=m) (n:=n) ks [] 0 (by simpa using hs) (by simp) (by simp) (Nat.zero_le _) hk
 rw[List.nil_append] at h2 h3
 exact(jf h1 h2 fun _=>h3).symm
theorem oR(t u:List Nat):(aD t u).Pairwise (·< ·):=by
 unfold aD
 exact List.Pairwise.filter _ List.pairwise_lt_range
theorem eK{t u:List Nat}{p:Nat}(h:p∈aD t u)(u1:1≤u.length):p+u.length≤t.length:=by
 unfold aD at h
 have:=(List.mem_filter.mp h).1
 simp at this
 lia
theorem dF{ks:List Nat}{i:Nat}{x:V}(h:(am ks)[i]?=some x):∃k,ks[i]?=some k∧x=V.int (k:Int):=by
 unfold am at h
 rw[List.map_map,List.getElem?_map] at h
 cases q:ks[i]? with
 | none=>rw[q] at h;cases h
 | some k=>rw[q] at h;exact⟨k,rfl,(Option.some.inj h).symm⟩
def ba(t u:List Nat):Bool:=decide (cq t.length u.length (aD t u)=t.length)
theorem mem_lies{t u:List Nat}{p:Nat}:p∈aD t u↔p<t.length+1-u.length∧(t.drop p).take u.length=u:=by
 unfold aD
 rw[List.mem_filter]
 simp
theorem covers_iff{t u:List Nat}:ba t u=true↔∀i,i<t.length→∃p∈aD t u,p≤i∧i<p+u.length:=by
 unfold ba
 rw[decide_eq_true_eq]
 constructor
 ·intro h i hi
  exact cov_true.mp (rL (n:=t.length) (by lia))
 ·intro h
  exact jf (Nat.le_refl _) (fun i hi=>cov_true.mpr (h i hi)) (fun z=>absurd z (Nat.lt_irrefl _))
theorem wQ{t:List Nat}:ba t t=true:=by
 rw[covers_iff]
 intro i hi
 exact⟨0,mem_lies.mpr ⟨by lia,by simp⟩,Nat.zero_le _,by lia⟩
abbrev jV:Stmt:=aJ 13
abbrev fS:Stmt:=aJ 22
def eW:Sp:=fun vs H Q _=>∃(a:Addr) (t:List Nat),vs=[.ref a]∧H a=some (.lst (t.map sg))∧1≤t.length∧Q .non H
def qt:Sp:=fun vs H Q _=>∃(a:Addr) (ks:List Nat) (m:Nat),vs=[.ref a,.int (m:Int)]∧H a=some (.lst (am ks))∧Q (.int (fb m 0 ks:Nat)) H
section
variable{P:Program}{w:World}{K:PySem.W.Frag}{mg:Str→Option Value}{base:Heap}
theorem zA:FnScope ["text"] ["text"] (au jV):=fsc_
theorem tX(M:Md K mg)(B:Bl mg)(F:FF K "check_some" jV):Fn P w K mg base ae "check_some" 1 ["text"] eW:=by
 refine aK M F zA (fun _ _ _ _ _ _=>bJ fun _=>rfl) (fun vs H Q E h=>?_) (fun f cdv A outer s H vs Q E hr h=>?_)
 ·obtain⟨a,t,rfl,_⟩:=h;rfl
 ·obtain⟨a,t,rfl,ha,t1,k⟩:=h
  refine⟨_,(al (aV (aM bR (av B.len (pv 0)) af (aF _)) (al fD) aU)),?_⟩
  refine⟨_,rfl,a,_,rfl,SqL.of ha,rfl,_,rfl,?_⟩
  rw[decide_eq_false (fun q=>by have:=V.int.inj q;rw[List.length_map] at this;lia)]
  exact a9 k
theorem scFirstBare:FnScope ["places","many","reach","place"] ["places","many"] (au fS):=fsc_
theorem wB(M:Md K mg)(B:Bl mg)(F:FF K "first_bare" fS):Fn P w K mg base ae "first_bare" 1 ["places","many"] qt:=by
 refine aK M F scFirstBare (fun _ _ _ _ _ _=>bC fun _ _=>rfl) (fun vs H Q E h=>?_) (fun f cdv A outer s H vs Q E hr h=>?_)
 ·obtain⟨a,ks,m,rfl,_⟩:=h;rfl
 ·obtain⟨a,ks,m,rfl,ha,k⟩:=h
  refine⟨_,(ah (ar (i:=2) scFirstBare.nd rfl (.inl rfl) af)
   (ah (cT PassesOwn.never rfl (bK (pv 0)) (bq (i:=3) scFirstBare.nd rfl (.inl rfl))
   (ah (aV (aM eJ (pv 3) (pv 2) (aF _)) (al (aw (pv 2))) aU)
   (al (ar (i:=2) scFirstBare.nd rfl (.inl rfl) (ak aW (pv 3) (pv 1))))))
   (al (aw (pv 2))))),?_⟩
  refine⟨_,rfl,a,rfl,⟨_,SqL.of ha⟩,ie (K:=K) (a:=a) (xs:=am ks) (fun i σ H2=>H2=H∧∃(R:Nat) (v3:Option V),σ=[some (.ref a),some (.int (m:Int)),some (.int (R:Int)),v3]∧fb m 0 ks=fb m R (ks.drop i)) ⟨rfl,0,none,rfl,rfl⟩ (fun i σ H2 _ h2=>by rw[h2.1];exact SqL.of ha) ?_ ?_⟩
  ·rintro i x σ H2 hx ⟨rfl,R,v3,rfl,e⟩
   obtain⟨p,hp,rfl⟩:=dF hx
   have ed:ks.drop i=p::ks.drop (i+1):=by
    obtain⟨h1,h2⟩:=List.getElem?_eq_some_iff.mp hp
    rw[List.drop_eq_getElem_cons h1,h2]
   rw[ed] at e
   refine⟨_,rfl,_,rfl,_,_,rfl,rfl,_,rfl,?_⟩
   refine bf (fun hc=>?_) (fun hc=>?_)
   ·have hc':R<p:=by simpa using hc
    refine⟨_,rfl,?_⟩
    have:fb m 0 ks=R:=by rw[e];simp only[fb];rw[if_pos hc']
    rw[this] at k
    exact k
   ·have hc':¬p>R:=by simpa using hc
    refine⟨_,rfl,_,rfl,_,_,rfl,rfl,rfl,p+m,some (.int (p:Int)),?_,?_⟩
    ·rw[Int.natCast_add]
     rfl
    ·rw[e];simp only[fb];rw[if_neg hc']
  ·rintro σ H2 ⟨rfl,R,v3,rfl,e⟩
   rw[aT,List.drop_length] at e
   simp only[fb] at e
   rw[e] at k
   exact⟨_,rfl,k⟩
end
abbrev jC:Stmt:=aJ 23
def d9:Sp:=fun vs H Q _=>∃(a b:Addr) (t u:List Nat),vs=[.ref a,.ref b]∧H a=some (.lst (t.map sg))∧H b=some (.lst (u.map sg))∧Low t∧Low u∧1≤t.length∧t.length≤900∧u.length≤900∧1≤u.length∧
 (∀(r:Addr) (H':Hp),H r=none→Same H H'→cq t.length u.length (aD t u)<t.length→H' r=some (.tup [.str "bare",.int (cq t.length u.length (aD t u):Nat)])→Q (.ref r) H')∧
 (∀(r q:Addr) (H':Hp),H r=none→H q=none→Same H H'→cq t.length u.length (aD t u)=t.length→H' q=some (.lst (am (aD t u)))→H' r=some (.tup [.str "covers",.ref q])→Q (.ref r) H')
section
variable{P:Program}{w:World}{K:PySem.W.Frag}{mg:Str→Option Value}{base:Heap}
theorem scCovered:FnScope ["text","word","places","bare"] ["text","word"] (au jC):=fsc_
theorem uk(M:Md K mg)(B:Bl mg)(F:FF K "covered" jC)(Flies_at:Fn P w K mg base ae "lies_at" 4 ["text","word"] gq)(Fcheck_some:Fn P w K mg base ae "check_some" 1 ["text"] eW)(Ffirst_bare:Fn P w K mg base ae "first_bare" 1 ["places","many"] qt):Fn P w K mg base ae "covered" 5 ["text","word"] d9:=by
 refine aK M F scCovered (fun _ _ _ _ _ _=>bC fun _ _=>rfl) (fun vs H Q E h=>?_) (fun f cdv A outer s H vs Q E hr h=>?_)
 ·obtain⟨a,b,t,u,rfl,_⟩:=h;rfl
 ·obtain⟨a,b,t,u,rfl,ha,hb,lt,lu,t1,tl,ul,u1,k1,k2⟩:=h
  refine⟨_,(ah (ar (i:=2) scCovered.nd rfl (.inl rfl) (ai Flies_at hr aj (aa (pv 0) (aa (pv 1) ac))))
   (ah (bc (ai Fcheck_some hr aj (aa (pv 0) ac)))
   (ah (ar (i:=3) scCovered.nd rfl (.inl rfl) (ai Ffirst_bare hr aj (aa (pv 2) (aa (av B.len (pv 1)) ac))))
   (ah (aV (aM gg (pv 3) (av B.len (pv 0)) (aF _)) (al (aw (fY (aa cS (aa (pv 3) ac))))) aU)
   (al (aw (fY (aa cS (aa (pv 2) ac))))))))),?_⟩
  refine⟨_,rfl,_,rfl,a,b,t,u,rfl,ha,hb,lt,lu,tl,ul,u1,fun q H1 hq0 hq1 s1=>?_⟩
  refine⟨_,rfl,a,t,rfl,s1 _ _ ha,t1,?_⟩
  refine⟨_,rfl,_,rfl,b,_,rfl,SqL.of (s1 _ _ hb),q,aD t u,u.length,by rw[List.length_map];rfl,hq1,?_⟩
  have ef:fb u.length 0 (aD t u)=cq t.length u.length (aD t u):=rY (oR t u) fun p hp=>eK hp u1
  rw[ef]
  have hbl:=zo t.length u.length (aD t u)
  refine⟨_,rfl,_,rfl,a,_,rfl,SqL.of (s1 _ _ ha),_,_,rfl,rfl,_,rfl,?_⟩
  refine bf (fun hc=>?_) (fun hc=>?_)
  ·have hc':cq t.length u.length (aD t u)<t.length:=by simpa using hc
   exact⟨_,rfl,by show 2≤sizeLine;decide,fun r hr0=>k1 r _ (s1.free hr0) (s1.trans (Same.upd hr0)) hc' ad⟩
  ·have hc':¬cq t.length u.length (aD t u)<t.length:=by simpa using hc
   exact⟨_,rfl,by show 2≤sizeLine;decide,fun r hr0=>k2 r q _ (s1.free hr0) hq0 (s1.trans (Same.upd hr0)) (by lia) ((Same.upd hr0) _ _ hq1) ad⟩
end
def cQ(u:List Nat):List Nat:=((List.range u.length).map (·+1)).filter fun d=>decide (u.drop d=u.take (u.length-d))
theorem uF(u:List Nat):(cQ u).length≤u.length:=by
 unfold cQ
 have:=List.length_filter_le (fun d=>decide (u.drop d=u.take (u.length-d))) ((List.range u.length).map (·+1))
 simpa using this
def oZ:Sp:=fun vs H Q _=>∃(a:Addr) (u:List Nat),vs=[.ref a]∧H a=some (.lst (u.map sg))∧Low u∧1≤u.length∧u.length≤900∧
 ∀(r:Addr) (H':Hp),H r=none→H' r=some (.lst (am (cQ u)))→Same H H'→Q (.ref r) H'
abbrev kF:Stmt:=aJ 38
theorem xU(n:Nat):(List.range n).reverse.map (n - ·)=(List.range n).map (·+1):=by
 apply List.ext_getElem
 ·simp
 ·intro i h1 h2
  simp at h1 h2 ⊢
  lia
theorem sI(t:List Nat):kI t=cQ t:=by
 unfold kI cI cQ
 rw[←List.filter_reverse,←xU,List.filter_map]
 congr 1
 apply List.filter_congr
 intro k hk
 have hk':k<t.length:=by simpa using hk
 show decide _=decide _
 have e:t.length-(t.length-k)=k:=by lia
 rw[e]
 exact decide_eq_decide.mpr ⟨fun h=>h.symm,fun h=>h.symm⟩
section
variable{P:Program}{w:World}{K:PySem.W.Frag}{mg:Str→Option Value}{base:Heap}
theorem uG:FnScope ["word"] ["word"] (au kF):=fsc_
theorem uA(M:Md K mg)(B:Bl mg)(F:FF K "shifts" kF)(Fcheck_word:Fn P w K mg base ae "check_word" 3 ["word"] gd)(Fperiods:Fn P w K mg base ae "periods" 4 ["text"] nL):Fn P w K mg base ae "shifts" 5 ["word"] oZ:=by
 refine aK M F uG (fun _ _ _ _ _ _=>bJ fun _=>rfl) (fun vs H Q E h=>?_) (fun f cdv A outer s H vs Q E hr h=>?_)
 ·obtain⟨a,t,rfl,_⟩:=h;rfl
 ·obtain⟨a,t,rfl,ha,lt,t1,tl,k⟩:=h
  refine⟨_,(ah (bc (ai Fcheck_word hr aj (aa (pv 0) ac)))
   (al (aw (ai Fperiods hr aj (aa (pv 0) ac))))),?_⟩
  refine⟨_,rfl,a,t,rfl,ha,lt,t1,?_⟩
  refine⟨_,rfl,a,t,rfl,ha,lt,by lia,fun r H1 hr0 hr1 s1=>k r H1 hr0 ?_ s1⟩
  rw[hr1,sI]
end
def cu(m:Int):Int→List Int→Int
 | R,[]=>R
 | R,p::r=>if p>R then R else cu m (p+m) r
theorem l8{m n:Int}:∀{A:List Int} {R:Int},A.Pairwise (·< ·)→(∀p∈A,p<n∧R≤p+m)→(n≤cu m R A↔∀i,R≤i→i<n→∃p∈A,p≤i∧i<p+m)
 | [],R,_,_=>by
   simp only[cu]
   constructor
   ·intro h i h1 h2;lia
   ·intro h
    by_cases hn:n≤R
    ·exact hn
    ·obtain⟨p,hp,_⟩:=h R (Int.le_refl _) (by lia);cases hp
 | p::r,R,hs,hA=>by
   have hs':=List.pairwise_cons.mp hs
   have hp:=hA p List.mem_cons_self
   simp only[cu]
   by_cases hg:p>R
   ·rw[if_pos hg]
    constructor
    ·intro h;lia
    ·intro h
     obtain⟨q,hq,h1,h2⟩:=h R (Int.le_refl _) (by lia)
     rcases List.mem_cons.mp hq with z | z
     ·lia
     ·have:=hs'.1 q z;lia
   ·rw[if_neg hg,l8 hs'.2 fun q hq=>⟨(hA q (List.mem_cons_of_mem _ hq)).1,by have:=hs'.1 q hq;lia⟩]
    constructor
    ·intro h i h1 h2
     by_cases hi:i<p+m
     ·exact⟨p,List.mem_cons_self,by lia,hi⟩
     ·obtain⟨q,hq,h3⟩:=h i (by lia) h2
      exact⟨q,List.mem_cons_of_mem _ hq,h3⟩
    ·intro h i h1 h2
     obtain⟨q,hq,h3,h4⟩:=h i (by lia) h2
     rcases List.mem_cons.mp hq with z | z
     ·lia
     ·exact⟨q,z,h3,h4⟩
def bG(t u:List Nat)(p:Int):Prop:=∀i:Nat,i<t.length→p≤i→(i:Int)<p+u.length→t[i]?=u[(i-p).toNat]?
def aS(p:Int):Int:=if 0>p then 0 else p
def bj(t u:List Nat)(p:Int):Int:=if(t.length:Int)<p+u.length then t.length else p+u.length
def dU(t u:List Nat)(p:Int):Bool:=decide ((t.drop (aS p).toNat).take ((bj t u p).toNat-(aS p).toNat)=(u.drop (aS p-p).toNat).take ((bj t u p-p).toNat-(aS p-p).toNat))
theorem ii{t u:List Nat}{p:Int}(h1:1-(u.length:Int)≤p)(h2:p<t.length):dU t u p=true↔bG t u p:=by
 unfold dU
 rw[decide_eq_true_eq]
 have b0:0≤aS p∧p≤aS p∧(aS p=0∨aS p=p):=by unfold aS;split <;> lia
 have e0:bj t u p≤t.length∧bj t u p≤p+u.length∧(bj t u p=t.length∨bj t u p=p+u.length):=by unfold bj;split <;> lia
 have be:aS p≤bj t u p:=by lia
 constructor
 ·intro h i hi h3 h4
  have h5:aS p≤i∧(i:Int)<bj t u p:=by
   rcases b0.2.2 with z | z <;> rcases e0.2.2 with y | y <;> lia
  have:=congrArg (·[i-(aS p).toNat]?) h
  have this:((t.drop (aS p).toNat).take ((bj t u p).toNat-(aS p).toNat))[i-(aS p).toNat]?=((u.drop (aS p-p).toNat).take ((bj t u p-p).toNat-(aS p-p).toNat))[i-(aS p).toNat]?:=this
  rw[List.getElem?_take_of_lt (by lia),List.getElem?_take_of_lt (by lia),List.getElem?_drop,List.getElem?_drop] at this
  rw[show(aS p).toNat+(i-(aS p).toNat)=i by lia,show(aS p-p).toNat+(i-(aS p).toNat)=((i:Int)-p).toNat by lia] at this
  exact this
 ·intro h
  apply List.ext_getElem?
  intro j
  by_cases hj:j<(bj t u p).toNat-(aS p).toNat
  ·rw[List.getElem?_take_of_lt hj,List.getElem?_take_of_lt (by lia),List.getElem?_drop,List.getElem?_drop]
   have:=h ((aS p).toNat+j) (by lia) (by lia) (by lia)
   rw[this,show((((aS p).toNat+j:Nat):Int)-p).toNat=(aS p-p).toNat+j by lia]
  ·rw[List.getElem?_eq_none (by rw[List.length_take];lia),List.getElem?_eq_none (by rw[List.length_take];lia)]
def bS(t u:List Nat)(lo:Int)(k:Nat):List Int:=((List.range k).map fun(i:Nat)=>lo+(i:Int)).filter (dU t u)
theorem xk(t u:List Nat)(lo:Int)(k:Nat):(bS t u lo k).Pairwise (·< ·):=List.Pairwise.filter _ (List.pairwise_map.mpr (List.pairwise_lt_range.imp fun q=>by lia))
theorem mem_agPl{t u:List Nat}{lo:Int}{k:Nat}{p:Int}:p∈bS t u lo k↔(lo≤p∧p<lo+k)∧dU t u p=true:=by
 unfold bS
 rw[List.mem_filter,List.mem_map]
 constructor
 ·rintro⟨⟨i,hi,rfl⟩,h⟩
  have:i<k:=by simpa using hi
  exact⟨⟨by lia,by lia⟩,h⟩
 ·rintro⟨⟨h1,h2⟩,h⟩
  exact⟨⟨(p-lo).toNat,by simp;lia,by lia⟩,h⟩
def Cov(t u:List Nat)(lo hi:Int):Prop:=∀i:Nat,i<t.length→∃p:Int,lo≤p∧p≤hi∧p≤i∧(i:Int)<p+u.length∧bG t u p
def bv(t u:List Nat)(lo hi:Int):Bool:=decide ((t.length:Int)≤cu u.length 0 (bS t u lo (hi+1-lo).toNat))
theorem ko{t u:List Nat}{lo hi:Int}(h1:1-(u.length:Int)≤lo)(h2:hi<t.length):bv t u lo hi=true↔Cov t u lo hi:=by
 unfold bv
 rw[decide_eq_true_eq,l8 (xk _ _ _ _) fun p hp=>?_]
 ·constructor
  ·intro h i hi'
   obtain⟨p,hp,h3,h4⟩:=h i (by lia) (by lia)
   obtain⟨⟨h5,h6⟩,h7⟩:=mem_agPl.mp hp
   exact⟨p,h5,by lia,h3,h4,(ii (by lia) (by lia)).mp h7⟩
  ·intro h i h3 h4
   obtain⟨p,h5,h6,h7,h8,h9⟩:=h i.toNat (by lia)
   exact⟨p,mem_agPl.mpr ⟨⟨h5,by lia⟩,(ii (by lia) (by lia)).mpr h9⟩,by lia,by lia⟩
 ·obtain⟨⟨h5,h6⟩,_⟩:=mem_agPl.mp hp
  constructor <;> lia
def aG(u:List Nat)(ahead:Bool):Int:=if ahead then 1-(u.length:Int) else 0
def aL(t u:List Nat)(behind:Bool):Int:=if behind then(t.length:Int)-1 else(t.length:Int)-u.length
theorem iV{u:List Nat}{ahead:Bool}(u1:1≤u.length):1-(u.length:Int)≤aG u ahead:=by unfold aG;split <;> lia
theorem iO{t u:List Nat}{behind:Bool}(u1:1≤u.length):aL t u behind<t.length:=by unfold aL;split <;> lia
def bn(t u:List Nat)(one other:Nat):List Nat:=u.take one++t++u.drop (u.length-other)
theorem hZ{U u:List Nat}{p:Nat}(hp:p+u.length≤U.length)(h:∀j,j<u.length→U[p+j]?=u[j]?):p∈aD U u:=by
 refine mem_lies.mpr ⟨by lia,?_⟩
 apply List.ext_getElem?
 intro j
 by_cases hj:j<u.length
 ·rw[List.getElem?_take_of_lt hj,List.getElem?_drop];exact h j hj
 ·rw[List.getElem?_eq_none (by rw[List.length_take];lia),List.getElem?_eq_none (by lia)]
theorem gB{U u:List Nat}{p:Nat}(h:p∈aD U u):∀j,j<u.length→U[p+j]?=u[j]?:=fun j hj=>by
 have h':=(mem_lies.mp h).2
 have:=congrArg (·[j]?) h'
 have this:((U.drop p).take u.length)[j]?=u[j]?:=this
 rw[List.getElem?_take_of_lt hj,List.getElem?_drop] at this
 exact this
theorem dY{t u:List Nat}{one other:Nat}(h1:one≤u.length)(h2:other≤u.length):(bn t u one other).length=one+t.length+other:=by
 unfold bn
 rw[List.length_append,List.length_append,List.length_take,List.length_drop]
 lia
theorem eY{t u:List Nat}{one other i:Nat}(h1:one≤u.length)(hi:i<t.length):(bn t u one other)[one+i]?=t[i]?:=by
 unfold bn
 have hl:(u.take one).length=one:=by rw[List.length_take];lia
 rw[List.getElem?_append_left (by rw[List.length_append,hl];lia),List.getElem?_append_right (by lia),hl]
 congr 1;lia
theorem oF{t u:List Nat}{one other i:Nat}(h1:one≤u.length)(hi:i<one):(bn t u one other)[i]?=u[i]?:=by
 unfold bn
 have hl:(u.take one).length=one:=by rw[List.length_take];lia
 rw[List.append_assoc,List.getElem?_append_left (by lia),List.getElem?_take_of_lt hi]
theorem pi{t u:List Nat}{one other i:Nat}(h1:one≤u.length)(h2:other≤u.length):(bn t u one other)[one+t.length+i]?=u[u.length-other+i]?:=by
 unfold bn
 have hl:(u.take one).length=one:=by rw[List.length_take];lia
 rw[List.getElem?_append_right (by rw[List.length_append,hl];lia),List.getElem?_drop,List.length_append,hl]
 congr 1;lia
theorem lV{P:Nat→Prop}(h:∃n,P n):∃n,P n∧∀k,k<n→¬P k:=by
 obtain⟨n,hn⟩:=h
 induction n using Nat.strongRecOn with
 | ind n ih=>
   by_cases hk:∃k,k<n∧P k
   ·obtain⟨k,h1,h2⟩:=hk
    exact ih k h1 h2
   ·exact⟨n,hn,fun k h1 h2=>hk ⟨k,h1,h2⟩⟩
theorem wv{t u:List Nat}{one other:Nat}{ahead behind:Bool}(u1:1≤u.length)(t1:1≤t.length)(h1:one<u.length)(h2:other<u.length)(ha:ahead=false→one=0)(hb:behind=false→other=0)(h:ba (bn t u one other) u=true):Cov t u (aG u ahead) (aL t u behind):=by
 intro i hi
 obtain⟨p,hp,h3,h4⟩:=covers_iff.mp h (one+i) (by rw[dY (by lia) (by lia)];lia)
 have hin:=eK hp u1
 rw[dY (by lia) (by lia)] at hin
 refine⟨(p:Int)-one,?_,?_,by lia,by lia,fun j hj h5 h6=>?_⟩
 ·unfold aG
  cases ahead with
  | true=>rw[if_pos rfl];lia
  | false=>rw[if_neg Bool.false_ne_true,ha rfl];lia
 ·unfold aL
  cases behind with
  | true=>rw[if_pos rfl];lia
  | false=>rw[if_neg Bool.false_ne_true];have:=hb rfl;lia
 ·rw[←eY (u:=u) (one:=one) (other:=other) (by lia) hj]
  have:=gB hp (one+j-p) (by lia)
  rw[show p+(one+j-p)=one+j by lia] at this
  rw[this]
  congr 1;lia
abbrev j5:Stmt:=aJ 25
abbrev jh:Stmt:=aJ 26
abbrev jw:Stmt:=aJ 27
abbrev kX:Stmt:=aJ 29
abbrev kC:Stmt:=aJ 30
abbrev iK:Stmt:=aJ 31
def gX:Sp:=fun vs H Q _=>∃(a b:Addr) (t u:List Nat),vs=[.ref a,.ref b]∧H a=some (.lst (t.map sg))∧H b=some (.lst (u.map sg))∧Low t∧Low u∧1≤t.length∧1≤u.length∧Q .non H
def pY:Sp:=fun vs H Q _=>∃(a b:Addr) (t u:List Nat) (p:Int),vs=[.ref a,.ref b,.int p]∧H a=some (.lst (t.map sg))∧H b=some (.lst (u.map sg))∧Low t∧Low u∧1-(u.length:Int)≤p∧p<t.length∧
 ∀H',Same H H'→Q (.bl (dU t u p)) H'
def iq:Sp:=fun vs H Q _=>∃(a b:Addr) (t u:List Nat) (lo hi:Int),vs=[.ref a,.ref b,.int lo,.int hi]∧H a=some (.lst (t.map sg))∧H b=some (.lst (u.map sg))∧Low t∧Low u∧t.length≤900∧u.length≤900∧1-(u.length:Int)≤lo∧hi<t.length∧lo≤t.length∧ -900≤hi∧(hi+1-lo).toNat≤2000∧
 ∀(r:Addr) (H':Hp),H r=none→H' r=some (.lst ((bS t u lo (hi+1-lo).toNat).map V.int))→Same H H'→Q (.ref r) H'
def l7:Sp:=fun vs H Q _=>∃(a:Addr) (ks:List Int) (m:Nat),vs=[.ref a,.int (m:Int)]∧H a=some (.lst (ks.map V.int))∧Q (.int (cu m 0 ks)) H
def ic:Sp:=fun vs H Q _=>∃(a b c:Addr) (t u:List Nat) (ks:List Int),vs=[.ref a,.ref b,.ref c]∧H a=some (.lst (t.map sg))∧H b=some (.lst (u.map sg))∧H c=some (.lst (ks.map V.int))∧Q (.bl (decide ((t.length:Int)≤cu u.length 0 ks))) H
def bD(ahead behind:Bool):Sp:=fun vs H Q _=>∃(a b:Addr) (t u:List Nat),vs=[.ref a,.ref b]∧H a=some (.lst (t.map sg))∧H b=some (.lst (u.map sg))∧Low t∧Low u∧1≤t.length∧1≤u.length∧t.length≤900∧u.length≤900∧
 ∀H',Same H H'→Q (.bl (bv t u (aG u ahead) (aL t u behind))) H'
section
variable{P:Program}{w:World}{K:PySem.W.Frag}{mg:Str→Option Value}{base:Heap}
theorem vy:FnScope ["text","word"] ["text","word"] (au j5):=fsc_
theorem tN(M:Md K mg)(B:Bl mg)(F:FF K "check_both" j5)(Fcheck_signs:Fn P w K mg base ae "check_signs" 2 ["text"] dI)(Fcheck_word:Fn P w K mg base ae "check_word" 3 ["word"] gd)(Fcheck_some:Fn P w K mg base ae "check_some" 1 ["text"] eW):Fn P w K mg base ae "check_both" 4 ["text","word"] gX:=by
 refine aK M F vy (fun _ _ _ _ _ _=>bC fun _ _=>rfl) (fun vs H Q E h=>?_) (fun f cdv A outer s H vs Q E hr h=>?_)
 ·obtain⟨a,b,t,u,rfl,_⟩:=h;rfl
 ·obtain⟨a,b,t,u,rfl,ha,hb,lt,lu,t1,u1,k⟩:=h
  refine⟨_,(ah (bc (ai Fcheck_word hr aj (aa (pv 1) ac)))
   (ah (bc (ai Fcheck_signs hr aj (aa (pv 0) ac)))
   (al (bc (ai Fcheck_some hr aj (aa (pv 0) ac)))))),?_⟩
  exact⟨_,rfl,b,u,rfl,hb,lu,u1,_,rfl,a,t,rfl,ha,lt,_,rfl,a,t,rfl,ha,t1,k⟩
theorem scAgrees:FnScope ["text","word","place","begin","end"] ["text","word","place"] (au jh):=fsc_
theorem rh(M:Md K mg)(B:Bl mg)(F:FF K "agrees_at" jh):Fn P w K mg base ae "agrees_at" 1 ["text","word","place"] pY:=by
 refine aK M F scAgrees (fun _ _ _ _ _ _=>cN fun _ _ _=>rfl) (fun vs H Q E h=>?_) (fun f cdv A outer s H vs Q E hr h=>?_)
 ·obtain⟨a,b,t,u,p,rfl,_⟩:=h;rfl
 ·obtain⟨a,b,t,u,p,rfl,ha,hb,lt,lu,p1,p2,k⟩:=h
  refine⟨_,(ah (ar (i:=3) scAgrees.nd rfl (.inl rfl) (nv rfl B.max (pv 2) af))
   (ah (ar (i:=4) scAgrees.nd rfl (.inl rfl) (oW rfl B.min (ak aW (pv 2) (av B.len (pv 1))) (av B.len (pv 0))))
   (al (aw (dL (eU (by exact hr)) (aP aO (pv 0) (aH (pv 3)) (aH (pv 4))) (aP aO (pv 1) (aH (ak a7 (pv 3) (pv 2))) (aH (ak a7 (pv 4) (pv 2)))) (aF _)))))),?_⟩
  refine⟨_,rfl,_,_,rfl,rfl,?_⟩
  refine⟨_,rfl,_,rfl,b,_,rfl,SqL.of hb,_,_,rfl,rfl,_,rfl,a,_,rfl,SqL.of ha,_,_,rfl,rfl,?_⟩
  have b0:0≤aS p∧p≤aS p∧(aS p=0∨aS p=p):=by unfold aS;split <;> lia
  have e0:bj t u p≤t.length∧bj t u p≤p+u.length∧(bj t u p=t.length∨bj t u p=p+u.length):=by unfold bj;split <;> lia
  have be:aS p≤bj t u p:=by lia
  have ee:(if((t.map sg).length:Int)<p+((u.map sg).length:Int) then((t.map sg).length:Int) else p+((u.map sg).length:Int))=bj t u p:=by
   rw[List.length_map,List.length_map];rfl
  rw[ee]
  refine⟨_,rfl,_,rfl,aS p,rfl,_,rfl,bj t u p,rfl,a,_,rfl,SqL.of ha,fun l1 hl1=>?_⟩
  rw[bO,bE,dN _ _ _ b0.1 be]
  have s1:=Same.upd (o:=.lst (((t.drop (aS p).toNat).take ((bj t u p).toNat-(aS p).toNat)).map sg)) hl1
  refine⟨_,rfl,_,rfl,_,rfl,_,_,rfl,rfl,aS p-p,rfl,_,rfl,_,rfl,_,_,rfl,rfl,bj t u p-p,rfl,b,_,rfl,SqL.of (s1 _ _ hb),fun l2 hl2=>?_⟩
  rw[bO,bE,dN _ _ _ (by lia) (by lia)]
  have s2:=Same.upd (o:=.lst (((u.drop (aS p-p).toNat).take ((bj t u p-p).toNat-(aS p-p).toNat)).map sg)) hl2
  exact⟨l1,l2,_,_,rfl,rfl,SqL.of (s2 _ _ ad),SqL.of ad,((lt.drop _).take _).cp,((lu.drop _).take _).cp,k _ (s1.trans s2)⟩
theorem xt(t u:List Nat)(lo:Int)(i:Nat):bS t u lo (i+1)=bS t u lo i++(if dU t u (lo+i)=true then [lo+(i:Int)] else []):=by
 unfold bS
 rw[List.range_succ,List.map_append,List.filter_append]
 congr 1
 by_cases h:dU t u (lo+i)=true <;> simp[h]
theorem pq(t u:List Nat)(lo:Int)(i:Nat):(bS t u lo i).length≤i:=by
 unfold bS
 have:=List.length_filter_le (dU t u) ((List.range i).map fun(i:Nat)=>lo+(i:Int))
 simpa using this
theorem qJ:FnScope ["text","word","first","last"] ["text","word","first","last"] (au jw):=fsc_
theorem xX(M:Md K mg)(B:Bl mg)(F:FF K "agreeing_places" jw)(Fagrees_at:Fn P w K mg base ae "agrees_at" 1 ["text","word","place"] pY):Fn P w K mg base ae "agreeing_places" 2 ["text","word","first","last"] iq:=by
 refine aK M F qJ (fun _ _ _ _ _ _=>jn fun _ _ _ _=>rfl) (fun vs H Q E h=>?_) (fun f cdv A outer s H vs Q E hr h=>?_)
 ·obtain⟨a,b,t,u,lo,hi,rfl,_⟩:=h;rfl
 ·obtain⟨a,b,t,u,lo,hi,rfl,ha,hb,lt,lu,tl,ul,l1,h1,l2,h2,hz,k⟩:=h
  refine⟨_,(al (aw (bP ["text","word","first","last"] rfl (gQ (by rfl) B.range (aa (pv 2) (aa (ak aW (pv 3) af) ac))) (fun _=>by exact(cg (bx (ai Fagrees_at hr aj (aa (pv 0) (aa (pv 1) (aa (pv 4) ac))))))) (fun _=>by exact(pv 4))))),?_⟩
  refine⟨_,rfl,_,rfl,_,_,rfl,rfl,lo,hi+1,rfl,⟨by lia,by lia,by lia,by lia⟩,fun D hD cb=>?_⟩
  refine du (lo:=lo) (n:=(hi+1-lo).toNat) (fun i ys H2=>ys=(bS t u lo i).map V.int∧Same H H2∧H2 D=some (.lst ys)) (e8 (by lia)) ?_ ?_ ?_ ?_
  ·exact⟨rfl,Same.upd hD,ad⟩
  ·rintro i ys H2 ⟨rfl,_⟩
   rw[List.length_map];exact pq _ _ _ _
  ·rintro i ys H2 hi' ⟨rfl,s2,hD2⟩
   refine⟨_,rfl,_,rfl,_,rfl,a,b,t,u,lo+i,rfl,s2 _ _ ha,s2 _ _ hb,lt,lu,by lia,by lia,fun H3 s3=>⟨_,rfl,?_⟩⟩
   have hD3:=s3 _ _ hD2
   rw[xt]
   refine bf (fun hc=>?_) (fun hc=>?_)
   ·refine⟨_,rfl,hD3,?_,?_,ad⟩
    ·rw[if_pos hc,List.map_append];rfl
    ·intro b o e
     rw[ao (aN e hD)]
     exact s3 _ _ (s2 b o e)
   ·refine⟨?_,s2.trans s3,hD3⟩
    rw[if_neg hc,List.append_nil]
  ·rintro ys H2 ⟨rfl,s2,hD2⟩
   exact k D H2 hD hD2 s2
theorem scFirstBareI:FnScope ["places","many","reach","place"] ["places","many"] (au fS):=fsc_
theorem wp{ks:List Int}{i:Nat}{x:V}(h:(ks.map V.int)[i]?=some x):∃k,ks[i]?=some k∧x=V.int k:=by
 rw[List.getElem?_map] at h
 cases q:ks[i]? with
 | none=>rw[q] at h;cases h
 | some k=>rw[q] at h;exact⟨k,rfl,(Option.some.inj h).symm⟩
theorem sj(M:Md K mg)(B:Bl mg)(F:FF K "first_bare" fS):Fn P w K mg base ae "first_bare" 1 ["places","many"] l7:=by
 refine aK M F scFirstBareI (fun _ _ _ _ _ _=>bC fun _ _=>rfl) (fun vs H Q E h=>?_) (fun f cdv A outer s H vs Q E hr h=>?_)
 ·obtain⟨a,ks,m,rfl,_⟩:=h;rfl
 ·obtain⟨a,ks,m,rfl,ha,k⟩:=h
  refine⟨_,(ah (ar (i:=2) scFirstBareI.nd rfl (.inl rfl) af)
   (ah (cT PassesOwn.never rfl (bK (pv 0)) (bq (i:=3) scFirstBareI.nd rfl (.inl rfl))
   (ah (aV (aM eJ (pv 3) (pv 2) (aF _)) (al (aw (pv 2))) aU)
   (al (ar (i:=2) scFirstBareI.nd rfl (.inl rfl) (ak aW (pv 3) (pv 1))))))
   (al (aw (pv 2))))),?_⟩
  refine⟨_,rfl,a,rfl,⟨_,SqL.of ha⟩,ie (K:=K) (a:=a) (xs:=ks.map V.int) (fun i σ H2=>H2=H∧∃(R:Int) (v3:Option V),σ=[some (.ref a),some (.int (m:Int)),some (.int R),v3]∧cu m 0 ks=cu m R (ks.drop i)) ⟨rfl,0,none,rfl,rfl⟩ (fun i σ H2 _ h2=>by rw[h2.1];exact SqL.of ha) ?_ ?_⟩
  ·rintro i x σ H2 hx ⟨rfl,R,v3,rfl,e⟩
   obtain⟨p,hp,rfl⟩:=wp hx
   have ed:ks.drop i=p::ks.drop (i+1):=by
    obtain⟨h1,h2⟩:=List.getElem?_eq_some_iff.mp hp
    rw[List.drop_eq_getElem_cons h1,h2]
   rw[ed] at e
   refine⟨_,rfl,_,rfl,_,_,rfl,rfl,_,rfl,?_⟩
   refine bf (fun hc=>?_) (fun hc=>?_)
   ·have hc':p>R:=of_decide_eq_true hc
    refine⟨_,rfl,?_⟩
    have:cu m 0 ks=R:=by rw[e];simp only[cu];rw[if_pos hc']
    rw[this] at k
    exact k
   ·have hc':¬p>R:=jP hc
    refine⟨_,rfl,_,rfl,_,_,rfl,rfl,rfl,p+m,some (.int p),rfl,?_⟩
    rw[e];simp only[cu];rw[if_neg hc']
  ·rintro σ H2 ⟨rfl,R,v3,rfl,e⟩
   rw[List.length_map,List.drop_length] at e
   simp only[cu] at e
   rw[e] at k
   exact⟨_,rfl,k⟩
theorem yT:FnScope ["text","word","places"] ["text","word","places"] (au kX):=fsc_
theorem yD(M:Md K mg)(B:Bl mg)(F:FF K "leaves_none_bare" kX)(Ffirst_bare:Fn P w K mg base ae "first_bare" 1 ["places","many"] l7):Fn P w K mg base ae "leaves_none_bare" 2 ["text","word","places"] ic:=by
 refine aK M F yT (fun _ _ _ _ _ _=>cN fun _ _ _=>rfl) (fun vs H Q E h=>?_) (fun f cdv A outer s H vs Q E hr h=>?_)
 ·obtain⟨a,b,c,t,u,ks,rfl,_⟩:=h;rfl
 ·obtain⟨a,b,c,t,u,ks,rfl,ha,hb,hc,k⟩:=h
  refine⟨_,(al (aw (dL kP (ai Ffirst_bare hr aj (aa (pv 2) (aa (av B.len (pv 1)) ac))) (av B.len (pv 0)) (aF _)))),?_⟩
  refine⟨_,rfl,_,rfl,b,_,rfl,SqL.of hb,c,ks,u.length,(by rw[List.length_map];rfl),hc,_,rfl,a,_,rfl,SqL.of ha,_,_,rfl,rfl,?_⟩
  rw[List.length_map]
  exact k
theorem wD:FnScope ["text","word"] ["text","word"] (au kC):=fsc_
theorem uU(M:Md K mg)(B:Bl mg)(F:FF K "rest_behind" kC)(Fcheck_both:Fn P w K mg base ae "check_both" 4 ["text","word"] gX)(Fleaves_none_bare:Fn P w K mg base ae "leaves_none_bare" 2 ["text","word","places"] ic)(Fagreeing_places:Fn P w K mg base ae "agreeing_places" 2 ["text","word","first","last"] iq):Fn P w K mg base ae "rest_behind" 5 ["text","word"] (bD false true):=by
 refine aK M F wD (fun _ _ _ _ _ _=>bC fun _ _=>rfl) (fun vs H Q E h=>?_) (fun f cdv A outer s H vs Q E hr h=>?_)
 ·obtain⟨a,b,t,u,rfl,_⟩:=h;rfl
 ·obtain⟨a,b,t,u,rfl,ha,hb,lt,lu,t1,u1,tl,ul,k⟩:=h
  refine⟨_,(ah (bc (ai Fcheck_both hr aj (aa (pv 0) (aa (pv 1) ac))))
   (al (aw (ai Fleaves_none_bare hr aj (aa (pv 0) (aa (pv 1) (aa (ai Fagreeing_places hr aj (aa (pv 0) (aa (pv 1) (aa af (aa (ak a7 (av B.len (pv 0)) af) ac))))) ac))))))),?_⟩
  refine⟨_,rfl,_,rfl,a,b,t,u,rfl,ha,hb,lt,lu,t1,u1,?_⟩
  refine⟨_,rfl,_,rfl,_,rfl,_,rfl,_,rfl,a,_,rfl,SqL.of ha,_,_,rfl,rfl,a,b,t,u,0,(t.length:Int)-1,(by rw[List.length_map];rfl),ha,hb,lt,lu,tl,ul,by lia,by lia,by lia,by lia,by lia,fun r H' hr0 hr1 s1=>?_⟩
  exact⟨a,b,r,t,u,_,rfl,s1 _ _ ha,s1 _ _ hb,hr1,k H' s1⟩
theorem y4:FnScope ["text","word"] ["text","word"] (au iK):=fsc_
theorem yL(M:Md K mg)(B:Bl mg)(F:FF K "rest_ahead" iK)(Fcheck_both:Fn P w K mg base ae "check_both" 4 ["text","word"] gX)(Fleaves_none_bare:Fn P w K mg base ae "leaves_none_bare" 2 ["text","word","places"] ic)(Fagreeing_places:Fn P w K mg base ae "agreeing_places" 2 ["text","word","first","last"] iq):Fn P w K mg base ae "rest_ahead" 5 ["text","word"] (bD true false):=by
 refine aK M F y4 (fun _ _ _ _ _ _=>bC fun _ _=>rfl) (fun vs H Q E h=>?_) (fun f cdv A outer s H vs Q E hr h=>?_)
 ·obtain⟨a,b,t,u,rfl,_⟩:=h;rfl
 ·obtain⟨a,b,t,u,rfl,ha,hb,lt,lu,t1,u1,tl,ul,k⟩:=h
  refine⟨_,(ah (bc (ai Fcheck_both hr aj (aa (pv 0) (aa (pv 1) ac))))
   (al (aw (ai Fleaves_none_bare hr aj (aa (pv 0) (aa (pv 1) (aa (ai Fagreeing_places hr aj (aa (pv 0) (aa (pv 1) (aa (ak a7 af (av B.len (pv 1))) (aa (ak a7 (av B.len (pv 0)) (av B.len (pv 1))) ac))))) ac))))))),?_⟩
  refine⟨_,rfl,_,rfl,a,b,t,u,rfl,ha,hb,lt,lu,t1,u1,?_⟩
  refine⟨_,rfl,_,rfl,_,rfl,_,rfl,_,rfl,b,_,rfl,SqL.of hb,_,_,rfl,rfl,_,rfl,a,_,rfl,SqL.of ha,_,rfl,b,_,rfl,SqL.of hb,_,_,rfl,rfl,a,b,t,u,1-(u.length:Int),(t.length:Int)-u.length,(by rw[List.length_map,List.length_map];rfl),ha,hb,lt,lu,tl,ul,by lia,by lia,by lia,by lia,by lia,fun r H' hr0 hr1 s1=>?_⟩
  exact⟨a,b,r,t,u,_,rfl,s1 _ _ ha,s1 _ _ hb,hr1,k H' s1⟩
end
abbrev kW:Stmt:=aJ 28
abbrev iI:Stmt:=aJ 32
def kh:Sp:=fun vs H Q _=>∃(a b:Addr) (t u:List Nat),vs=[.ref a,.ref b]∧H a=some (.lst (t.map sg))∧H b=some (.lst (u.map sg))∧Low t∧Low u∧1≤t.length∧1≤u.length∧t.length≤900∧u.length≤900∧
 ∀(r:Addr) (H':Hp),H r=none→H' r=some (.lst ((bS t u (aG u true) (aL t u true+1-aG u true).toNat).map V.int))→Same H H'→Q (.ref r) H'
section
variable{P:Program}{w:World}{K:PySem.W.Frag}{mg:Str→Option Value}{base:Heap}
theorem tE:FnScope ["text","word"] ["text","word"] (au kW):=fsc_
theorem ui(M:Md K mg)(B:Bl mg)(F:FF K "places_with_rests" kW)(Fagreeing_places:Fn P w K mg base ae "agreeing_places" 2 ["text","word","first","last"] iq):Fn P w K mg base ae "places_with_rests" 3 ["text","word"] kh:=by
 refine aK M F tE (fun _ _ _ _ _ _=>bC fun _ _=>rfl) (fun vs H Q E h=>?_) (fun f cdv A outer s H vs Q E hr h=>?_)
 ·obtain⟨a,b,t,u,rfl,_⟩:=h;rfl
 ·obtain⟨a,b,t,u,rfl,ha,hb,lt,lu,t1,u1,tl,ul,k⟩:=h
  refine⟨_,(al (aw (ai Fagreeing_places hr aj (aa (pv 0) (aa (pv 1) (aa (ak a7 af (av B.len (pv 1))) (aa (ak a7 (av B.len (pv 0)) af) ac))))))),?_⟩
  refine⟨_,rfl,_,rfl,_,rfl,b,_,rfl,SqL.of hb,_,_,rfl,rfl,_,rfl,a,_,rfl,SqL.of ha,_,_,rfl,rfl,a,b,t,u,1-(u.length:Int),(t.length:Int)-1,(by rw[List.length_map,List.length_map];rfl),ha,hb,lt,lu,tl,ul,by lia,by lia,by lia,by lia,by lia,fun r H' hr0 hr1 s1=>?_⟩
  exact k r H' hr0 hr1 s1
theorem x3:FnScope ["text","word"] ["text","word"] (au iI):=fsc_
theorem rs(M:Md K mg)(B:Bl mg)(F:FF K "rest_both" iI)(Fcheck_both:Fn P w K mg base ae "check_both" 4 ["text","word"] gX)(Fleaves_none_bare:Fn P w K mg base ae "leaves_none_bare" 2 ["text","word","places"] ic)(Fplaces_with_rests:Fn P w K mg base ae "places_with_rests" 3 ["text","word"] kh):Fn P w K mg base ae "rest_both" 5 ["text","word"] (bD true true):=by
 refine aK M F x3 (fun _ _ _ _ _ _=>bC fun _ _=>rfl) (fun vs H Q E h=>?_) (fun f cdv A outer s H vs Q E hr h=>?_)
 ·obtain⟨a,b,t,u,rfl,_⟩:=h;rfl
 ·obtain⟨a,b,t,u,rfl,ha,hb,lt,lu,t1,u1,tl,ul,k⟩:=h
  refine⟨_,(ah (bc (ai Fcheck_both hr aj (aa (pv 0) (aa (pv 1) ac))))
   (al (aw (ai Fleaves_none_bare hr aj (aa (pv 0) (aa (pv 1) (aa (ai Fplaces_with_rests hr aj (aa (pv 0) (aa (pv 1) ac))) ac))))))),?_⟩
  refine⟨_,rfl,_,rfl,a,b,t,u,rfl,ha,hb,lt,lu,t1,u1,?_⟩
  refine⟨_,rfl,_,rfl,_,rfl,_,rfl,a,b,t,u,rfl,ha,hb,lt,lu,t1,u1,tl,ul,fun r H' hr0 hr1 s1=>?_⟩
  exact⟨a,b,r,t,u,_,rfl,s1 _ _ ha,s1 _ _ hb,hr1,k H' s1⟩
end
def IsShown(t u L:List Nat):Prop:=(∃one other,one<u.length∧other<u.length∧L=bn t u one other∧ba L u=true)∧
 ∀one other,one<u.length→other<u.length→ba (bn t u one other) u=true→L.length<(bn t u one other).length∨bn t u one other=L
theorem IsShown.uniq{t u L M:List Nat}(h:IsShown t u L)(g:IsShown t u M):L=M:=by
 obtain⟨⟨o,d,o1,d1,rfl,c1⟩,h⟩:=h
 obtain⟨⟨p,e,p1,e1,rfl,c2⟩,g⟩:=g
 rcases h p e p1 e1 c2 with z | z
 ·rcases g o d o1 d1 c1 with y | y
  ·lia
  ·exact y
 ·exact z.symm
theorem IsShown.low{t u L:List Nat}(h:IsShown t u L)(lt:Low t)(lu:Low u):Low L:=by
 obtain⟨⟨o,d,_,_,rfl,_⟩,_⟩:=h
 exact((lu.take _).app lt).app (lu.drop _)
theorem n6{U u:List Nat}(u1:1≤u.length)(n1:1≤U.length)(h:ba U u=true):0∈aD U u∧u.length≤U.length∧(U.length-u.length)∈aD U u:=by
 obtain⟨p,hp,h1,h2⟩:=covers_iff.mp h 0 (by lia)
 have e:p=0:=by lia
 subst e
 have hin:=eK hp u1
 obtain⟨q,hq,h3,h4⟩:=covers_iff.mp h (U.length-1) (by lia)
 have hin2:=eK hq u1
 have e2:q=U.length-u.length:=by lia
 exact⟨hp,by lia,by rw[←e2];exact hq⟩
theorem pX{t u:List Nat}{one other p:Nat}(h1:one<u.length)(h2:other<u.length)(hp:p∈aD (bn t u one other) u):bG t u ((p:Int)-one):=fun j hj h5 h6=>by
 rw[←eY (u:=u) (one:=one) (other:=other) (by lia) hj]
 have:=gB hp (one+j-p) (by lia)
 rw[show p+(one+j-p)=one+j by lia] at this
 rw[this]
 congr 1;lia
theorem oH{t u:List Nat}{p:Nat}(u1:1≤u.length)(t1:1≤t.length)(hp:p∈aD u t):IsShown t u u:=by
 have hin:=eK hp t1
 have e:bn t u p (u.length-p-t.length)=u:=by
  apply List.ext_getElem?
  intro x
  by_cases hx:x<p
  ·exact oF (by lia) hx
  ·by_cases hx2:x<p+t.length
   ·have:=eY (t:=t) (u:=u) (one:=p) (other:=u.length-p-t.length) (i:=x-p) (by lia) (by lia)
    rw[show p+(x-p)=x by lia] at this
    have g:=gB hp (x-p) (by lia)
    rw[show p+(x-p)=x by lia] at g
    rw[this,g]
   ·have:=pi (t:=t) (u:=u) (one:=p) (other:=u.length-p-t.length) (i:=x-p-t.length) (by lia) (by lia)
    rw[show p+t.length+(x-p-t.length)=x by lia] at this
    rw[this]
    congr 1;lia
 refine⟨⟨p,u.length-p-t.length,by lia,by lia,e.symm,wQ⟩,fun o d o1 d1 hc=>?_⟩
 have hl:=dY (t:=t) (u:=u) (one:=o) (other:=d) (by lia) (by lia)
 obtain⟨g1,g2,_⟩:=n6 u1 (by lia) hc
 by_cases hlt:u.length<(bn t u o d).length
 ·exact .inl hlt
 ·right
  have:=(mem_lies.mp g1).2
  rw[List.drop_zero,List.take_of_length_le (by lia)] at this
  exact this
structure Ends2(t u:List Nat)(one d:Nat):Prop where
 o1:one<u.length
 oA:bG t u (-(one:Int))
 oM:∀k,k<one→¬bG t u (-(k:Int))
 d1:d<u.length
 dA:bG t u ((t.length:Int)-u.length+d)
 dM:∀k,k<d→¬bG t u ((t.length:Int)-u.length+k)
theorem uc{t u:List Nat}{k:Nat}(t1:1≤t.length)(h:bG t u (-(k:Int)))(hk:k+t.length≤u.length):k∈aD u t:=
 hZ hk fun j hj=>by
  have:=h j hj (by lia) (by lia)
  rw[this];congr 1;lia
theorem pb{t u:List Nat}(u1:1≤u.length)(t1:1≤t.length)(h:Cov t u (aG u true) (aL t u true)):∃one d,Ends2 t u one d:=by
 obtain⟨one,⟨ho1,ho4⟩,homin⟩:=lV (P:=fun k=>k<u.length∧bG t u (-(k:Int))) (by
  obtain⟨p,h3,h4,h5,h6,h7⟩:=h 0 (by lia)
  refine⟨(-p).toNat,by lia,?_⟩
  rw[show -((-p).toNat:Int)=p by lia];exact h7)
 obtain⟨d,⟨hd1,hd4⟩,hdmin⟩:=lV (P:=fun k=>k<u.length∧bG t u ((t.length:Int)-u.length+k)) (by
  obtain⟨p,h3,h4,h5,h6,h7⟩:=h (t.length-1) (by lia)
  unfold aL at h4;rw[if_pos rfl] at h4
  refine⟨(p+u.length-t.length).toNat,by lia,?_⟩
  rw[show(t.length:Int)-u.length+((p+u.length-t.length).toNat:Int)=p by lia];exact h7)
 exact⟨one,d,ho1,ho4,fun k hk q=>homin k hk ⟨by lia,q⟩,hd1,hd4,fun k hk q=>hdmin k hk ⟨by lia,q⟩⟩
theorem nW{t u:List Nat}{one d:Nat}(u1:1≤u.length)(t1:1≤t.length)(h:Cov t u (aG u true) (aL t u true))(E:Ends2 t u one d)(no:aD u t=[]):IsShown t u (bn t u one d):=by
 obtain⟨ho1,ho4,homin,hd1,hd4,hdmin⟩:=E
 have nol:∀p,p∉aD u t:=fun p hp=>by rw[no] at hp;cases hp
 have hA:u.length<one+t.length:=by
  by_cases hz:u.length<one+t.length
  ·exact hz
  ·exact absurd (uc t1 ho4 (by lia)) (nol _)
 have hmax:∀p:Int,bG t u p→p≤0→0<p+u.length→p≤ -(one:Int):=fun p h5 h6 h7=>by
  by_cases hlt:(-p).toNat<one
  ·exact absurd (by rw[show -((-p).toNat:Int)=p by lia];exact h5) (homin _ hlt)
  ·lia
 have hpos:(0:Int)<(t.length:Int)-u.length+d:=by
  by_cases hz:(0:Int)<(t.length:Int)-u.length+d
  ·exact hz
  ·have:=hmax _ hd4 (by lia) (by lia);lia
 have hlen:=dY (t:=t) (u:=u) (one:=one) (other:=d) (by lia) (by lia)
 have l0:0∈aD (bn t u one d) u:=hZ (by lia) fun j hj=>by
  rw[Nat.zero_add]
  by_cases hx:j<one
  ·exact oF (by lia) hx
  ·have:=eY (t:=t) (u:=u) (one:=one) (other:=d) (i:=j-one) (by lia) (by lia)
   rw[show one+(j-one)=j by lia] at this
   rw[this,ho4 (j-one) (by lia) (by lia) (by lia)]
   congr 1;lia
 have l1:one+(t.length+d-u.length)∈aD (bn t u one d) u:=hZ (by lia) fun j hj=>by
  by_cases hx:j<u.length-d
  ·have:=eY (t:=t) (u:=u) (one:=one) (other:=d) (i:=t.length+d-u.length+j) (by lia) (by lia)
   rw[show one+(t.length+d-u.length)+j=one+(t.length+d-u.length+j) by lia,this,hd4 (t.length+d-u.length+j) (by lia) (by lia) (by lia)]
   congr 1;lia
  ·have:=pi (t:=t) (u:=u) (one:=one) (other:=d) (i:=j-(u.length-d)) (by lia) (by lia)
   rw[show one+(t.length+d-u.length)+j=one+t.length+(j-(u.length-d)) by lia,this]
   congr 1;lia
 refine⟨⟨one,d,ho1,hd1,rfl,covers_iff.mpr fun x hx=>?_⟩,fun o' d' o1' d1' hc=>?_⟩
 ·rw[hlen] at hx
  by_cases hx1:x<u.length
  ·exact⟨0,l0,by lia,by lia⟩
  ·by_cases hx2:one+(t.length+d-u.length)≤x
   ·exact⟨_,l1,hx2,by lia⟩
   ·obtain⟨p,h3,h4,h5,h6,h7⟩:=h (x-one) (by lia)
    have hp0:0<p:=by
     by_cases hz:0<p
     ·exact hz
     ·have:=hmax p h7 (by lia) (by lia);lia
    have hpe:p+u.length<t.length:=by
     by_cases hz:p+u.length<t.length
     ·exact hz
     ·have hge:d≤(p+u.length-t.length).toNat:=by
       by_cases hlt:(p+u.length-t.length).toNat<d
       ·exact absurd (by rw[show(t.length:Int)-u.length+((p+u.length-t.length).toNat:Int)=p by lia];exact h7) (hdmin _ hlt)
       ·lia
      lia
    refine⟨one+p.toNat,hZ (by lia) fun j hj=>?_,by lia,by lia⟩
    have:=eY (t:=t) (u:=u) (one:=one) (other:=d) (i:=p.toNat+j) (by lia) (by lia)
    rw[show one+p.toNat+j=one+(p.toNat+j) by lia,this,h7 (p.toNat+j) (by lia) (by lia) (by lia)]
    congr 1;lia
 ·have hl':=dY (t:=t) (u:=u) (one:=o') (other:=d') (by lia) (by lia)
  obtain⟨g1,g2,g3⟩:=n6 u1 (by lia) hc
  have a1:=pX o1' d1' g1
  have a2:=pX o1' d1' g3
  have e1:one≤o':=by
   by_cases hz:one≤o'
   ·exact hz
   ·exact absurd (by rw[show -((o':Nat):Int)=((0:Nat):Int)-o' by lia];exact a1) (homin o' (by lia))
  have e2:d≤d':=by
   by_cases hz:d≤d'
   ·exact hz
   ·refine absurd ?_ (hdmin d' (by lia))
    rw[show(t.length:Int)-u.length+(d':Nat)=(((bn t u o' d').length-u.length:Nat):Int)-o' by lia]
    exact a2
  rw[hlen,hl']
  by_cases hz:one=o'∧d=d'
  ·right;rw[hz.1,hz.2]
  ·left;lia
theorem qg{t u:List Nat}(u1:1≤u.length)(t1:1≤t.length):bv t u (aG u true) (aL t u true)=true↔∃L,IsShown t u L:=by
 rw[ko (iV u1) (iO u1)]
 constructor
 ·intro h
  by_cases no:aD u t=[]
  ·obtain⟨one,d,E⟩:=pb u1 t1 h
   exact⟨_,nW u1 t1 h E no⟩
  ·obtain⟨p,r,e⟩:=List.exists_cons_of_ne_nil no
   exact⟨u,oH u1 t1 (p:=p) (by rw[e];exact List.mem_cons_self)⟩
 ·rintro⟨L,⟨o,d,o1,d1,rfl,hc⟩,_⟩
  exact wv u1 t1 o1 d1 (fun e=>by cases e) (fun e=>by cases e) hc
structure Exs(K:PySem.W.Frag)(mg:Str→Option Value)(cNoCover:Addr):Prop where
 bNoCover:mg "NoCover"=some (.ref cNoCover)
 isIn:PySem.W.excIn K cNoCover e9 "ValueError.__new__"=true
 self:PySem.W.exmOne K (.ref cNoCover) (.ref cNoCover)=some true
theorem exs_mk{K:PySem.W.Frag}{mg:Str→Option Value}{c:Addr}(M:Md K mg)(a:PySem.W.nsIn K mainGlobals "NoCover"=some (some (.ref c)))(i:PySem.W.excIn K c e9 "ValueError.__new__"=true)(es:PySem.W.exmOne K (.ref c) (.ref c)=some true):Exs K mg c:=⟨M.ns _ _ a,i,es⟩
abbrev kw:Stmt:=aJ 36
def mw(cC:Addr):Sp:=fun vs H Q E=>∃(a b:Addr) (t u:List Nat),vs=[.ref a,.ref b]∧H a=some (.lst (t.map sg))∧H b=some (.lst (u.map sg))∧Low t∧Low u∧1≤t.length∧1≤u.length∧t.length≤900∧u.length≤900∧
 ((∀L,¬IsShown t u L)→∀H',Same H H'→E (.ref cC) none H')∧
 (∀L,IsShown t u L→∀(r:Addr) (H':Hp),H r=none→H' r=some (.lst (L.map sg))→Same H H'→Q (.ref r) H')
theorem sB{α:Type}{xs:List α}{i:Nat}{x:α}(h:xs[i]?=some x):xs.take (i+1)=xs.take i++[x]:=by
 rw[List.take_add_one,h];rfl
theorem hU{A:List Int}{f:Int→Bool}{i:Nat}{z:Int}(hz:A[i]?=some z):(((A.take (i+1)).filter f).map V.int)=(((A.take i).filter f).map V.int)++(if f z=true then [V.int z] else []):=by
 rw[sB hz,List.filter_append,List.map_append]
 congr 1
 by_cases h:f z=true <;> simp[h]
theorem mm{A:List Int}{i:Nat}{x:V}(h:(A.map V.int)[i]?=some x):∃z,A[i]?=some z∧x=.int z:=by
 rw[List.getElem?_map] at h
 cases e:A[i]? with
 | none=>rw[e] at h;cases h
 | some z=>rw[e] at h;exact⟨z,rfl,(Option.some.inj h).symm⟩
section
variable{P:Program}{w:World}{K:PySem.W.Frag}{mg:Str→Option Value}{base:Heap}{cNoCover:Addr}
theorem scShown:FnScope ["text","word","places","ahead","behind"] ["text","word"] (au kw):=fsc_
theorem yP(M:Md K mg)(B:Bl mg)(F:FF K "shown_with_rests" kw)(ONoCover:Exc K mg "NoCover" cNoCover)(Frest_both:Fn P w K mg base ae "rest_both" 5 ["text","word"] (bD true true))(Flies_at:Fn P w K mg base ae "lies_at" 4 ["text","word"] gq)(Fplaces_with_rests:Fn P w K mg base ae "places_with_rests" 3 ["text","word"] kh):Fn P w K mg base (dz P w) "shown_with_rests" 6 ["text","word"] (mw cNoCover):=by
 refine qE M F scShown (fun _ _ _ _ _ _=>bC fun _ _=>rfl) (fun vs H Q E h=>?_) (fun f cdv A outer s H vs Q E hr h=>?_)
 ·obtain⟨a,b,t,u,rfl,_⟩:=h;rfl
 ·obtain⟨a,b,t,u,rfl,ha,hb,lt,lu,t1,u1,tl,ul,kx,k⟩:=h
  refine⟨_,(ah (aV (cO (bx (ai Frest_both hr aj (aa (pv 0) (aa (pv 1) ac))))) (al (vq ONoCover cS)) aU)
   (ah (aV (aM eJ (av B.len (ai Flies_at hr aj (aa (pv 1) (aa (pv 0) ac)))) af (aF _)) (al (aw (iJ B.list (pv 1)))) aU)
   (ah (ar (i:=2) scShown.nd rfl (.inl rfl) (ai Fplaces_with_rests hr aj (aa (pv 0) (aa (pv 1) ac))))
   (ah (ar (i:=3) scShown.nd rfl (.inl rfl) (rN rfl B.max (bP ["text","word","places","ahead","behind"] rfl (bK (pv 2)) (fun _=>by exact(cg (aM ir (pv 5) af (aF _)))) (fun _=>by exact(pv 5)))))
   (ah (ar (i:=4) scShown.nd rfl (.inl rfl) (wg rfl B.min (bP ["text","word","places","ahead","behind"] rfl (bK (pv 2)) (fun _=>by exact(cg (aM kP (ak aW (pv 5) (av B.len (pv 1))) (av B.len (pv 0)) (aF _)))) (fun _=>by exact(pv 5)))))
   (al (aw (ak bZ (ak bZ (aP aO (pv 1) a6 (aH (nX lM (pv 3)))) (pv 0)) (aP aO (pv 1) (aH (ak a7 (av B.len (pv 0)) (pv 4))) a6))))))))),?_⟩
  refine⟨_,rfl,_,rfl,a,b,t,u,rfl,ha,hb,lt,lu,t1,u1,tl,ul,fun H1 s1=>?_⟩
  have hiff:=qg (t:=t) (u:=u) u1 t1
  cases hB:bv t u (aG u true) (aL t u true) with
  | false=>
    rw[hB] at hiff
    exact⟨false,rfl,bh ⟨rfl,kx (fun L hL=>by have:=hiff.mpr ⟨L,hL⟩;cases this) H1 s1⟩⟩
  | true=>
    refine⟨true,rfl,a9 ?_⟩
    have hC:=(ko (iV u1) (iO u1)).mp hB
    have ha1:=s1 _ _ ha
    have hb1:=s1 _ _ hb
    refine⟨_,rfl,_,rfl,b,a,u,t,rfl,hb1,ha1,lu,lt,ul,tl,t1,fun r2 H2 hr20 hr22 s2=>?_⟩
    have s02:=s1.trans s2
    refine⟨r2,_,rfl,SqL.of hr22,_,_,rfl,rfl,_,rfl,?_⟩
    rw[aT]
    by_cases no:aD u t=[]
    ·rw[no,decide_eq_false (by simp)]
     refine a9 ?_
     obtain⟨one,d,Em⟩:=pb u1 t1 hC
     have hs:=nW u1 t1 hC Em no
     refine⟨_,rfl,_,rfl,a,b,t,u,rfl,s02 _ _ ha,s02 _ _ hb,lt,lu,t1,u1,tl,ul,fun r3 H3 hr30 hr33 s3=>?_⟩
     have s03:=s02.trans s3
     have hlo:aG u true=1-(u.length:Int):=rfl
     have hhi:aL t u true=(t.length:Int)-1:=rfl
     have hmem:∀p:Int,p∈bS t u (aG u true) (aL t u true+1-aG u true).toNat↔(1-(u.length:Int)≤p∧p<t.length)∧bG t u p:=fun p=>by
      rw[mem_agPl,hlo,hhi]
      constructor
      ·rintro⟨h1,h2⟩
       exact⟨by lia,(ii (by lia) (by lia)).mp h2⟩
      ·rintro⟨h1,h2⟩
       exact⟨by lia,(ii (by lia) (by lia)).mpr h2⟩
     have hAl:=pq t u (aG u true) (aL t u true+1-aG u true).toNat
     have hAl2:(bS t u (aG u true) (aL t u true+1-aG u true).toNat).length≤1800:=by rw[hlo,hhi] at*;lia
     generalize bS t u (aG u true) (aL t u true+1-aG u true).toNat=Ap at hmem hAl2 hr33
     refine⟨_,rfl,r3,rfl,⟨_,SqL.of hr33⟩,fun D hD cb=>?_⟩
     refine c9 (K:=K) (a:=r3) (xs:=Ap.map V.int) (fun i ys H4=>ys=(((Ap.take i).filter fun p=>decide (p≤0)).map V.int)∧Same H3 H4∧H4 D=some (.lst ys)) (by rw[List.length_map];exact e8 (by lia)) ?_ ?_ ?_ ?_ ?_
     ·exact⟨by rw[List.take_zero];rfl,Same.upd hD,ad⟩
     ·rintro i ys H4 ⟨rfl,_⟩
      rw[List.length_map]
      refine Nat.le_trans (List.length_filter_le _ _) ?_
      rw[List.length_take];lia
     ·rintro i ys H4 _ ⟨_,s4,_⟩
      exact SqL.of (s4 _ _ hr33)
     ·rintro i x ys H4 hx ⟨rfl,s4,hD4⟩
      obtain⟨z,hz,rfl⟩:=mm hx
      refine⟨_,rfl,_,_,rfl,rfl,_,rfl,?_⟩
      refine bf (fun hc=>?_) (fun hc=>?_)
      ·refine⟨_,rfl,hD4,?_,?_,ad⟩
       ·rw[hU hz,if_pos hc]
       ·intro e o q
        rw[ao (aN q hD)]
        exact s4 e o q
      ·refine⟨?_,s4,hD4⟩
       rw[hU hz,if_neg hc,List.append_nil]
     ·rintro ys H4 ⟨rfl,s4,hD4⟩
      rw[List.length_map,List.take_length] at hD4
      have o1:=Em.o1
      have d1:=Em.d1
      have inA: -(one:Int)∈Ap.filter fun p=>decide (p≤0):=List.mem_filter.mpr ⟨(hmem _).mpr ⟨by lia,Em.oA⟩,decide_eq_true (by lia)⟩
      refine⟨D,_,rfl,hD4,List.ne_nil_of_mem inA,fun m hm hmx=>?_⟩
      have em:m= -(one:Int):=by
       have h1:=hmx _ inA
       obtain⟨h2,h3⟩:=List.mem_filter.mp hm
       obtain⟨h4,h5⟩:=(hmem _).mp h2
       have h6:=of_decide_eq_true h3
       by_cases hlt:(-m).toNat<one
       ·exact absurd (by rw[show -((-m).toNat:Int)=m by lia];exact h5) (Em.oM _ hlt)
       ·lia
      subst em
      have s04:=s03.trans s4
      refine⟨_,rfl,r3,rfl,⟨_,SqL.of (s4 _ _ hr33)⟩,fun D2 hD2 cb2=>?_⟩
      refine c9 (K:=K) (a:=r3) (xs:=Ap.map V.int) (fun i ys H5=>ys=(((Ap.take i).filter fun p=>decide (p+(u.length:Int)≥(t.length:Int))).map V.int)∧Same H4 H5∧H5 D2=some (.lst ys)) (by rw[List.length_map];exact e8 (by lia)) ?_ ?_ ?_ ?_ ?_
      ·exact⟨by rw[List.take_zero];rfl,Same.upd hD2,ad⟩
      ·rintro i ys H5 ⟨rfl,_⟩
       rw[List.length_map]
       refine Nat.le_trans (List.length_filter_le _ _) ?_
       rw[List.length_take];lia
      ·rintro i ys H5 _ ⟨_,s5,_⟩
       exact SqL.of (s5 _ _ (s4 _ _ hr33))
      ·rintro i x ys H5 hx ⟨rfl,s5,hD5⟩
       obtain⟨z,hz,rfl⟩:=mm hx
       have s05:=s04.trans s5
       refine⟨_,rfl,_,rfl,b,_,rfl,SqL.of (s05 _ _ hb),_,_,rfl,rfl,_,rfl,a,_,rfl,SqL.of (s05 _ _ ha),_,_,rfl,rfl,_,rfl,?_⟩
       rw[List.length_map,List.length_map]
       refine bf (fun hc=>?_) (fun hc=>?_)
       ·refine⟨_,rfl,hD5,?_,?_,ad⟩
        ·rw[hU hz,if_pos hc]
        ·intro e o q
         rw[ao (aN q hD2)]
         exact s5 e o q
       ·refine⟨?_,s5,hD5⟩
        rw[hU hz,if_neg hc,List.append_nil]
      ·rintro ys H5 ⟨rfl,s5,hD5⟩
       rw[List.length_map,List.take_length] at hD5
       have inB:(t.length:Int)-u.length+d∈Ap.filter fun p=>decide (p+(u.length:Int)≥(t.length:Int)):=List.mem_filter.mpr ⟨(hmem _).mpr ⟨by lia,Em.dA⟩,decide_eq_true (by lia)⟩
       refine⟨D2,_,rfl,hD5,List.ne_nil_of_mem inB,fun m hm hmn=>?_⟩
       have em:m=(t.length:Int)-u.length+d:=by
        have h1:=hmn _ inB
        obtain⟨h2,h3⟩:=List.mem_filter.mp hm
        obtain⟨h4,h5⟩:=(hmem _).mp h2
        have h6:=of_decide_eq_true h3
        by_cases hlt:(m+u.length-t.length).toNat<d
        ·exact absurd (by rw[show(t.length:Int)-u.length+((m+u.length-t.length).toNat:Int)=m by lia];exact h5) (Em.dM _ hlt)
        ·lia
       subst em
       have s05:=s04.trans s5
       refine⟨_,rfl,_,rfl,_,rfl,_,rfl,b,_,rfl,SqL.of (s05 _ _ hb),fun l1 hl1=>?_⟩
       rw[bW (by lia),show(- -(one:Int)).toNat=one by lia]
       have s6:=Same.upd (o:=.lst ((u.take one).map sg)) hl1
       have hl16:=ad (H:=H5) (a:=l1) (o:=.lst ((u.take one).map sg))
       generalize L2.upd H5 l1 (.lst ((u.take one).map sg))=H6 at s6 hl16 ⊢
       have s06:=s05.trans s6
       refine⟨_,rfl,ce hl16 (s06 _ _ ha) (by rw[List.length_take];lia) fun l2 hl2=>?_⟩
       have s7:=Same.upd (o:=.lst ((u.take one++t).map sg)) hl2
       have hl27:=ad (H:=H6) (a:=l2) (o:=.lst ((u.take one++t).map sg))
       generalize L2.upd H6 l2 (.lst ((u.take one++t).map sg))=H7 at s7 hl27 ⊢
       have s07:=s06.trans s7
       refine⟨_,rfl,_,rfl,a,_,rfl,SqL.of (s07 _ _ ha),_,rfl,_,_,rfl,rfl,_,rfl,b,_,rfl,SqL.of (s07 _ _ hb),fun l3 hl3=>?_⟩
       rw[List.length_map,cR (by lia),show((t.length:Int)-((t.length:Int)-u.length+d)).toNat=u.length-d by lia]
       have s8:=Same.upd (o:=.lst ((u.drop (u.length-d)).map sg)) hl3
       have hl38:=ad (H:=H7) (a:=l3) (o:=.lst ((u.drop (u.length-d)).map sg))
       generalize L2.upd H7 l3 (.lst ((u.drop (u.length-d)).map sg))=H8 at s8 hl38 ⊢
       have s08:=s07.trans s8
       refine ce (s8 _ _ hl27) hl38 (by rw[List.length_append,List.length_take,List.length_drop];lia) fun l4 hl4=>?_
       exact k _ hs l4 _ (s08.free hl4) ad (s08.trans (Same.upd hl4))
    ·obtain⟨p,r,e⟩:=List.exists_cons_of_ne_nil no
     have hs:=oH u1 t1 (p:=p) (u:=u) (t:=t) (by rw[e];exact List.mem_cons_self)
     rw[decide_eq_true (by rw[e];simp)]
     refine bh ⟨_,rfl,b,_,rfl,SqL.of (s02 _ _ hb),fun l hl=>?_⟩
     exact k u hs l _ (s02.free hl) ad (s02.trans (Same.upd hl))
end
def RunsAt(H:Hp)(r:Addr)(L:List (Nat×Nat)):Prop:=
 ∃cs:List Addr,H r=some (.lst (cs.map V.ref))∧cs.length=L.length∧∀(i:Nat) (c:Addr) (q:Nat×Nat),cs[i]?=some c→L[i]?=some q→H c=some (.tup [.int (q.1:Int),.int (q.2:Int)])
theorem RunsAt.same{H H':Hp}{r:Addr}{L:List (Nat×Nat)}(h:RunsAt H r L)(s:Same H H'):RunsAt H' r L:=by
 obtain⟨cs,h1,h2,h3⟩:=h
 exact⟨cs,s _ _ h1,h2,fun i c q a b=>s _ _ (h3 i c q a b)⟩
theorem RunsAt.nil{H:Hp}{r:Addr}(h:H r=some (.lst [])):RunsAt H r []:=⟨[],h,rfl,fun i c q a=>by simp at a⟩
theorem RunsAt.app{H:Hp}{r g:Addr}{L:List (Nat×Nat)}{cs:List Addr}{b e:Nat}(h1:H r=some (.lst (cs.map V.ref)))(h2:cs.length=L.length)(h3:∀(i:Nat) (c:Addr) (q:Nat×Nat),cs[i]?=some c→L[i]?=some q→H c=some (.tup [.int (q.1:Int),.int (q.2:Int)]))(hg:H g=some (.tup [.int (b:Int),.int (e:Int)])):RunsAt (L2.upd H r (.lst (cs.map V.ref++[V.ref g]))) r (L++[(b,e)]):=by
 have nr:∀c x,H c=some (.tup x)→c≠r:=fun c x q z=>by rw[z,h1] at q;cases q
 refine⟨cs++[g],by rw[ad];simp,by simp[h2],fun i c q a b'=>?_⟩
 by_cases hi:i<cs.length
 ·rw[List.getElem?_append_left hi] at a
  rw[List.getElem?_append_left (by lia)] at b'
  have:=h3 i c q a b'
  rw[ao (nr _ _ this)];exact this
 ·rw[List.getElem?_append_right (by lia)] at a b'
  have hz:i-cs.length=0:=by
   by_cases hz:i-cs.length=0
   ·exact hz
   ·rw[List.getElem?_eq_none (by simp;lia)] at a;cases a
  have e1:g=c:=by rw[hz] at a;exact Option.some.inj a
  have e2:(b,e)=q:=by rw[show i-L.length=0 by lia] at b';exact Option.some.inj b'
  subst e1 e2
  rw[ao (nr _ _ hg)];exact hg
theorem RunsAt.imp{H H':Hp}{r:Addr}{L:List (Nat×Nat)}(h:RunsAt H r L)(k1:∀xs,H r=some (.lst xs)→H' r=some (.lst xs))(k2:∀b xs,H b=some (.tup xs)→H' b=some (.tup xs)):RunsAt H' r L:=by
 obtain⟨cs,h1,h2,h3⟩:=h
 exact⟨cs,k1 _ h1,h2,fun i c q a b=>k2 _ _ (h3 i c q a b)⟩
theorem qM{K:PySem.W.Frag}{a:Addr}{xs:List V}{k:Nat}{g:TG}{tc:TT}{te:TE}{σ:St}{H1:Hp}{Q:Hp→Prop}{D:Addr}(Pv:Nat→List V→Hp→Prop)(hn:xs.length<sizeLine)(h0:Pv 0 [] (upd H1 D (.lst [])))(hl:∀i ys' H,Pv i ys' H→ys'.length≤i)(hq:∀i ys' H,i≤xs.length→Pv i ys' H→SqL K H a xs)(hs:∀i x ys' H,xs[i]?=some x→Pv i ys' H→g x (σ++List.replicate k none) H fun σ2 H2=>(∀j,j<σ.length→σ2[j]?=σ[j]?)∧tc σ2 H2 fun ok H3=>if ok=true then te σ2 H3 fun v H4=>H4 D=some (.lst ys')∧Pv (i+1) (ys'++[v]) (upd H4 D (.lst (ys'++[v]))) else Pv (i+1) ys' H3)
 (hd:∀ys' H,Pv xs.length ys' H→Q H):
 ∃ W:Nat→Nat→List V→Hp→Prop,(∃m,W 0 m [] (upd H1 D (.lst [])))∧
   ∀ i m ys' H,W i m ys' H→((cm K a).stop i H∧Q H)∨((cm K a).go i H∧ys'.length<sizeLine∧∃N:List V→Hp→Prop,(∀ys'' H',N ys'' H'→∃m',m'<m∧W (i+1) m' ys'' H')∧∀x H',(cm K a).yld i H x H'→g x (σ++List.replicate k none) H' fun σ2 H2=>(∀j,j<σ.length→σ2[j]?=σ[j]?)∧tc σ2 H2 fun ok H3=>
     if ok=true then te σ2 H3 fun v H4=>H4 D=some (.lst ys')∧N (ys'++[v]) (upd H4 D (.lst (ys'++[v]))) else N ys' H3):=by
 refine⟨fun i m ys H=>m=xs.length-i∧i≤xs.length∧Pv i ys H,⟨xs.length,by simp,Nat.zero_le _,h0⟩,?_⟩
 rintro i m ys H ⟨rfl,hi,p⟩
 have q:=hq i ys H hi p
 by_cases hlt:i<xs.length
 ·refine .inr ⟨⟨xs,xs[i],q,by simp[hlt]⟩,Nat.lt_of_le_of_lt (hl i ys H p) (Nat.lt_trans hlt hn),Pv (i+1),fun ys' H' p'=>⟨xs.length-(i+1),by lia,rfl,hlt,p'⟩,fun x H' y=>?_⟩
  obtain⟨e,y⟩:=y
  subst e
  exact hs i x ys _ (y xs q) p
 ·have e:i=xs.length:=by lia
  subst e
  exact .inl ⟨⟨xs,q,Nat.le_refl _⟩,hd ys H p⟩
abbrev aC(t:List Nat)(m p:Nat):List Nat:=(t.drop p).take m
def bz(t:List Nat)(m:Nat):Nat→List (List Nat)
 | 0=>[]
 | j+1=>if aC t m j∈bz t m j then bz t m j else bz t m j++[aC t m j]
def cH(t:List Nat)(m j:Nat)(u:List Nat):List Nat:=(List.range j).filter fun p=>decide (aC t m p=u)
theorem mem_us{t:List Nat}{m:Nat}{u:List Nat}:∀{j:Nat},u∈bz t m j↔∃p,p<j∧aC t m p=u
 | 0=>by simp[bz]
 | j+1=>by
   simp only[bz]
   split
   ·rename_i h
    rw[mem_us (j:=j)]
    constructor
    ·rintro⟨p,h1,h2⟩;exact⟨p,by lia,h2⟩
    ·rintro⟨p,h1,h2⟩
     by_cases e:p=j
     ·subst e;rw[h2] at h;exact mem_us.mp h
     ·exact⟨p,by lia,h2⟩
   ·rw[List.mem_append,mem_us (j:=j),List.mem_singleton]
    constructor
    ·rintro(⟨p,h1,h2⟩ | h)
     ·exact⟨p,by lia,h2⟩
     ·exact⟨j,by lia,h.symm⟩
    ·rintro⟨p,h1,h2⟩
     by_cases e:p=j
     ·subst e;exact .inr h2.symm
     ·exact .inl ⟨p,by lia,h2⟩
theorem jk{t:List Nat}{m:Nat}:∀{j:Nat},(bz t m j).Nodup
 | 0=>by simp[bz]
 | j+1=>by
   simp only[bz]
   split
   ·exact jk
   ·rename_i h
    rw[List.nodup_append]
    refine⟨jk,by simp,fun x hx y hy e=>?_⟩
    rw[List.mem_singleton.mp hy] at e
    exact h (e▸hx)
theorem gO{t:List Nat}{m:Nat}:∀j:Nat,(bz t m j).length≤j
 | 0=>Nat.le_refl _
 | j+1=>by
   have:=gO (t:=t) (m:=m) j
   simp only[bz]
   split
   ·lia
   ·rw[List.length_append,List.length_singleton];lia
theorem gs(t:List Nat)(m j:Nat)(u:List Nat):cH t m (j+1) u=cH t m j u++(if aC t m j=u then [j] else []):=by
 unfold cH
 rw[List.range_succ,List.filter_append]
 congr 1
 by_cases h:aC t m j=u <;> simp[h]
theorem sw{t:List Nat}{m j:Nat}{u:List Nat}(h:u∉bz t m j):cH t m j u=[]:=by
 unfold cH
 rw[List.filter_eq_nil_iff]
 intro p hp
 have hp':p<j:=by simpa using hp
 simp only[decide_eq_true_eq]
 intro e
 exact h (mem_us.mpr ⟨p,hp',e⟩)
theorem t6{t u:List Nat}{m:Nat}(hu:u.length=m):cH t m (t.length+1-m) u=aD t u:=by
 unfold cH aD
 rw[hu]
theorem uX{t u:List Nat}{m j:Nat}(hj:j≤t.length+1-m)(h:u∈bz t m j)(m1:1≤m):u.length=m:=by
 obtain⟨p,hp,rfl⟩:=mem_us.mp h
 rw[List.length_take,List.length_drop];lia
def dm(u:List Nat):List aE:=u.map fun c=>Sum.inr (aA c)
theorem gp(u:List Nat):(dm u).map kV=u.map sg:=by
 unfold dm
 rw[List.map_map]
 rfl
theorem wS{u v:List Nat}(h:dm u=dm v):u=v:=by
 have:=congrArg (List.map kV) h
 rw[gp,gp] at this
 clear h
 induction u generalizing v with
 | nil=>cases v with
   | nil=>rfl
   | cons _ _=>cases this
 | cons a r ih=>cases v with
   | nil=>cases this
   | cons b q=>
     rw[List.map_cons,List.map_cons] at this
     obtain⟨h1,h2⟩:=List.cons.inj this
     rw[sg_inj.mp h1,ih h2]
def bT(es:List (List Nat×Addr)):List (List aE×V):=es.map fun e=>(dm e.1,V.ref e.2)
theorem jE(q:List Nat):∀es:List (List Nat×Addr),bX (bT es) (dm q)=(es.find? fun e=>decide (e.1=q)).map fun e=>V.ref e.2
 | []=>rfl
 | e::r=>by
   unfold bT
   rw[List.map_cons]
   by_cases h:e.1=q
   ·rw[pT (by rw[h]),List.find?_cons_of_pos (by simpa using h)];rfl
   ·rw[mP (fun z=>h (wS z)),List.find?_cons_of_neg (by simpa using h)]
    exact jE q r
theorem iD{α β:Type}{f:α→β}:∀{l:List α} {x y:α},(l.map f).Nodup→x∈l→y∈l→f x=f y→x=y
 | [],_,_,_,h,_,_=>by cases h
 | z::l,x,y,hn,hx,hy,e=>by
   rw[List.map_cons,List.nodup_cons] at hn
   rcases List.mem_cons.mp hx with rfl | hx'
   ·rcases List.mem_cons.mp hy with rfl | hy'
    ·rfl
    ·exact absurd (List.mem_map.mpr ⟨y,hy',e.symm⟩) hn.1
   ·rcases List.mem_cons.mp hy with rfl | hy'
    ·exact absurd (List.mem_map.mpr ⟨x,hx',e⟩) hn.1
    ·exact iD hn.2 hx' hy' e
structure Pieces(t:List Nat)(m j:Nat)(H0 H:Hp)(es:List (List Nat×Addr)):Prop where
 us:es.map (·.1)=bz t m j
 nd:(es.map (·.2)).Nodup
 at_:∀e∈es,H0 e.2=none∧H e.2=some (.lst (am (cH t m j e.1)))
theorem Pieces.old{t:List Nat}{m j:Nat}{H0 H:Hp}{es:List (List Nat×Addr)}(h:Pieces t m j H0 H es){e:List Nat×Addr}(he:e∈es)(hq:e.1=aC t m j){z:Int}(hz:z=(j:Int)):Pieces t m (j+1) H0 (L2.upd H e.2 (.lst (am (cH t m j e.1)++[V.int z]))) es:=by
 subst hz
 have hin:aC t m j∈bz t m j:=by rw[←h.us];exact List.mem_map.mpr ⟨e,he,hq⟩
 have nu:(es.map (·.1)).Nodup:=by rw[h.us];exact jk
 refine⟨by rw[h.us];simp only[bz];rw[if_pos hin],h.nd,fun f hf=>⟨(h.at_ f hf).1,?_⟩⟩
 by_cases e2:f.2=e.2
 ·have:f=e:=iD h.nd hf he e2
  subst this
  rw[ad,gs,if_pos hq.symm,cP]
 ·rw[ao e2,(h.at_ f hf).2,gs,if_neg,List.append_nil]
  intro z
  exact e2 (congrArg Prod.snd (iD nu hf he (z.symm.trans hq.symm)))
theorem Pieces.new{t:List Nat}{m j:Nat}{H0 H H':Hp}{es:List (List Nat×Addr)}{l:Addr}(h:Pieces t m j H0 H es)(hn:aC t m j∉bz t m j)(h0:H0 l=none){z:Int}(hz:z=(j:Int))(hl:H' l=some (.lst [V.int z]))(hk:∀e∈es,e.2≠l∧H' e.2=H e.2):Pieces t m (j+1) H0 H' (es++[(aC t m j,l)]):=by
 subst hz
 refine⟨?_,?_,fun f hf=>?_⟩
 ·rw[List.map_append,h.us];simp only[bz];rw[if_neg hn];rfl
 ·rw[List.map_append,List.nodup_append]
  refine⟨h.nd,by simp,fun x hx y hy e=>?_⟩
  obtain⟨f,hf,rfl⟩:=List.mem_map.mp hx
  have hy':y=l:=by simpa using hy
  exact(hk f hf).1 (e.trans hy')
 ·rcases List.mem_append.mp hf with hf1 | hf1
  ·have hne:f.1≠aC t m j:=fun z=>hn (by rw[←h.us,←z];exact List.mem_map.mpr ⟨f,hf1,rfl⟩)
   refine⟨(h.at_ f hf1).1,?_⟩
   rw[(hk f hf1).2,(h.at_ f hf1).2,gs,if_neg (fun z=>hne z.symm),List.append_nil]
  ·rw[List.mem_singleton.mp hf1]
   refine⟨h0,?_⟩
   rw[hl,gs,sw hn,if_pos rfl];rfl
theorem Pieces.mono{t:List Nat}{m j:Nat}{H0 H H':Hp}{es:List (List Nat×Addr)}(h:Pieces t m j H0 H es)(s:Same H H'):Pieces t m j H0 H' es:=⟨h.us,h.nd,fun e he=>⟨(h.at_ e he).1,s _ _ (h.at_ e he).2⟩⟩
theorem Pieces.len{t:List Nat}{m j:Nat}{H0 H:Hp}{es:List (List Nat×Addr)}(h:Pieces t m j H0 H es):es.length≤j:=by
 have:=gO (t:=t) (m:=m) j
 rw[←h.us,List.length_map] at this
 exact this
theorem rP{q:List Nat}{es:List (List Nat×Addr)}(h:(es.find? fun e=>decide (e.1=q))=none):q∉es.map (·.1):=by
 intro hm
 obtain⟨e,he,z⟩:=List.mem_map.mp hm
 have:=List.find?_eq_none.mp h e he
 simp[z] at this
theorem xa{q:List Nat}{es:List (List Nat×Addr)}{e:List Nat×Addr}(h:(es.find? fun e=>decide (e.1=q))=some e):e∈es∧e.1=q:=
 ⟨List.mem_of_find?_eq_some h,by simpa using List.find?_some h⟩
abbrev iX:Stmt:=aJ 20
def nR:Sp:=fun vs H Q _=>∃(a:Addr) (t:List Nat) (m:Nat),vs=[.ref a,.int (m:Int)]∧H a=some (.lst (t.map sg))∧1≤m∧m≤t.length∧t.length≤900∧
 ∀(w:Addr) (es:List (List Nat×Addr)) (H':Hp),H w=none→H' w=some (.dT (bT es))→Pieces t m (t.length+1-m) H H' es→Same H H'→Q (.ref w) H'
section
variable{P:Program}{w:World}{K:PySem.W.Frag}{mg:Str→Option Value}{base:Heap}
theorem scPieces:FnScope ["text","many","places","place","piece"] ["text","many"] (au iX):=fsc_
theorem u9(M:Md K mg)(B:Bl mg)(F:FF K "piece_places" iX):Fn P w K mg base ae "piece_places" 1 ["text","many"] nR:=by
 refine aK M F scPieces (fun _ _ _ _ _ _=>bC fun _ _=>rfl) (fun vs H Q E h=>?_) (fun f cdv A outer s H vs Q E hr h=>?_)
 ·obtain⟨a,t,m,rfl,_⟩:=h;rfl
 ·obtain⟨a,t,m,rfl,ha,m1,mt,tl,k⟩:=h
  refine⟨_,(ah (ar (i:=2) scPieces.nd rfl (.inl rfl) tV)
   (ah (cT PassesOwn.never rfl (dq (by rfl) B.range (aa (ak aW (ak a7 (av B.len (pv 0)) (pv 1)) af) ac)) (bq (i:=3) scPieces.nd rfl (.inl rfl))
   (ah (ar (i:=4) scPieces.nd rfl (.inl rfl) (sE B.tuple (aP aO (pv 0) (aH (pv 3)) (aH (ak aW (pv 3) (pv 1))))))
   (al (bc (fk PySem.F.plainAttrs_list PySem.F.slot_list_append PySem.F.type_list_append iN (re (by exact vg hr) (pv 2) (pv 4) (bI ac) ⟨rfl,rfl,rfl,rfl⟩) (aa (pv 3) ac))))))
   (al (aw (pv 2))))),?_⟩
  intro w hw
  have s1:=Same.upd (o:=.dT []) hw
  refine⟨_,rfl,a,_,rfl,SqL.of (s1 _ _ ha),_,rfl,_,_,rfl,rfl,_,_,rfl,rfl,_,rfl,by rw[List.length_map];lia,by rw[List.length_map];lia,?_⟩
  rw[List.length_map,show((t.length:Int)-(m:Int)+1).toNat=t.length+1-m by lia]
  refine gJ (lo:=0) (n:=t.length+1-m) (fun j σ H2=>Same H H2∧∃es v3 v4,H2 w=some (.dT (bT es))∧Pieces t m j H H2 es∧σ=[some (.ref a),some (.int (m:Int)),some (.ref w),v3,v4]) ?_ ?_ ?_
  ·exact⟨s1,[],none,none,ad,⟨rfl,by simp,fun e he=>by cases he⟩,rfl⟩
  ·rintro j σ H2 hj ⟨sH,es,v3,v4,hw2,pc,rfl⟩
   have ha2:=sH _ _ ha
   refine⟨_,rfl,_,rfl,_,rfl,_,rfl,_,rfl,_,_,rfl,rfl,_,rfl,a,_,rfl,SqL.of ha2,fun p1 hp1=>?_⟩
   have e1:bp (t.map sg) (some (0+(j:Int))) (some (0+(j:Int)+(m:Int)))=(aC t m j).map sg:=by
    rw[bO,bE,dN _ _ _ (by lia) (by lia),show(0+(j:Int)).toNat=j by lia,show(0+(j:Int)+(m:Int)).toNat-j=m by lia]
   rw[e1]
   have s3:=Same.upd (o:=.lst ((aC t m j).map sg)) hp1
   refine⟨p1,_,rfl,SqL.of ad,fun c hc=>?_⟩
   have s4:=Same.upd (o:=.tup ((aC t m j).map sg)) hc
   refine⟨_,rfl,w,rfl,.inr ⟨_,.inl (s4 _ _ (s3 _ _ hw2))⟩,_,rfl,Nat.zero_le _,fun l hl=>?_⟩
   have s5:=Same.upd (o:=.lst []) hl
   have s25:=(s3.trans s4).trans s5
   have hw5:=s25 _ _ hw2
   have hc5:=s5 _ _ (ad (H:=L2.upd H2 p1 (.lst ((aC t m j).map sg))) (a:=c) (o:=.tup ((aC t m j).map sg)))
   have hl5:=ad (H:=L2.upd (L2.upd H2 p1 (.lst ((aC t m j).map sg))) c (.tup ((aC t m j).map sg))) (a:=l) (o:=.lst [])
   have ln:H2 l=none:=(s3.trans s4).free hl
   have pc5:=pc.mono s25
   generalize L2.upd (L2.upd (L2.upd H2 p1 (.lst ((aC t m j).map sg))) c (.tup ((aC t m j).map sg))) l (.lst [])=H5 at s25 hw5 hc5 hl5 pc5 ⊢
   have len:=pc.len
   have sH5:=sH.trans s25
   refine⟨c,bT es,dm (aC t m j),rfl,hw5,by rw[gp];exact hc5,by unfold bT;rw[List.length_map];exact bi (by lia),fun v hv=>?_,fun hv=>?_⟩
   ·rw[jE] at hv
    cases q:es.find? fun e=>decide (e.1=aC t m j) with
    | none=>rw[q] at hv;cases hv
    | some e=>
      rw[q] at hv
      obtain⟨he,eq⟩:=xa q
      have:V.ref e.2=v:=Option.some.inj hv
      subst this
      have h5:=(pc5.at_ e he).2
      have pl:(cH t m j e.1).length≤j:=gE _
      refine⟨.inl ⟨rfl,_,SqL.of h5⟩,_,rfl,e.2,_,_,rfl,rfl,h5,by rw[aT];exact bi (by lia),?_⟩
      refine⟨fun b o z=>by rw[ao (aN z (pc.at_ e he).1)];exact sH5 _ _ z,es,_,_,?_,pc5.old he eq (by lia),rfl⟩
      rw[ao (dZ hw5 h5 (fun z=>nomatch z))]
      exact hw5
   ·rw[jE] at hv
    have q:(es.find? fun e=>decide (e.1=aC t m j))=none:=by
     cases q:es.find? fun e=>decide (e.1=aC t m j) with
     | none=>rfl
     | some e=>rw[q] at hv;cases hv
    have hn:aC t m j∉bz t m j:=by rw[←pc.us];exact rP q
    have nlw:l≠w:=(dZ hw5 hl5 (fun z=>nomatch z)).symm
    have hl6:(L2.upd H5 w (.dT (bT es++[(dm (aC t m j),V.ref l)]))) l=some (.lst []):=by rw[ao nlw];exact hl5
    have l0:H l=none:=sH.free ln
    refine⟨.inl ⟨rfl,_,SqL.of hl6⟩,_,rfl,l,_,_,rfl,rfl,hl6,by decide,?_⟩
    refine⟨fun b o z=>?_,es++[(aC t m j,l)],_,_,?_,pc5.new hn l0 (show(0+(j:Int))=(j:Int) by lia) ad fun e he=>?_,rfl⟩
    ·rw[ao (aN z l0),ao (aN z hw)]
     exact sH5 _ _ z
    ·rw[ao (Ne.symm nlw),ad]
     unfold bT
     rw[List.map_append];rfl
    ·have h2:=(pc.at_ e he).2
     have nel:e.2≠l:=aN h2 ln
     refine⟨nel,?_⟩
     rw[ao nel,ao (dZ h2 hw2 (fun z=>nomatch z))]
  ·rintro σ H2 ⟨sH,es,v3,v4,hw2,pc,rfl⟩
   exact⟨_,rfl,k w es H2 hw hw2 pc sH⟩
end
abbrev jN:Stmt:=aJ 14
def p8:Sp:=fun vs H Q _=>∃(a:Addr) (t:List Nat),vs=[.ref a]∧H a=some (.lst (t.map sg))∧Low t∧1≤t.length∧t.length≤40∧Q .non H
section
variable{P:Program}{w:World}{K:PySem.W.Frag}{mg:Str→Option Value}{base:Heap}
theorem wm:FnScope ["text"] ["text"] (au jN):=fsc_
theorem sW(M:Md K mg)(B:Bl mg){uM:Value}(gMOST_SIGNS:mg "MOST_SIGNS"=some uM)(rMOST_SIGNS:RelV (.int 40) uM)(F:FF K "check_few" jN)(Fcheck_signs:Fn P w K mg base ae "check_signs" 2 ["text"] dI)(Fcheck_some:Fn P w K mg base ae "check_some" 1 ["text"] eW):Fn P w K mg base ae "check_few" 3 ["text"] p8:=by
 refine aK M F wm (fun _ _ _ _ _ _=>bJ fun _=>rfl) (fun vs H Q E h=>?_) (fun f cdv A outer s H vs Q E hr h=>?_)
 ·obtain⟨a,t,rfl,_⟩:=h;rfl
 ·obtain⟨a,t,rfl,ha,lt,t1,tl,k⟩:=h
  refine⟨_,(ah (bc (ai Fcheck_signs hr aj (aa (pv 0) ac)))
   (ah (bc (ai Fcheck_some hr aj (aa (pv 0) ac)))
   (al (aV (aM eJ (av B.len (pv 0)) (mS (v:=.int 40) (by rfl) gMOST_SIGNS rMOST_SIGNS) (aF _)) (al fD) aU)))),?_⟩
  refine⟨_,rfl,a,t,rfl,ha,lt,_,rfl,a,t,rfl,ha,t1,?_⟩
  refine⟨_,rfl,a,_,rfl,SqL.of ha,_,_,rfl,rfl,_,rfl,?_⟩
  rw[decide_eq_false (fun q=>by rw[List.length_map] at q;lia)]
  exact a9 k
end
def RB(t u:List Nat):Bool:=bv t u (aG u true) (aL t u true)
def cG(t:List Nat)(m:Nat)(u:List Nat):Option (Nat×Nat):=if RB t u=true then some (m,((aD t u).head?).getD 0) else none
def cx(t:List Nat)(m:Nat):List (List Nat):=bz t m (t.length+1-m)
def bt(t:List Nat)(k:Nat):List (Nat×Nat):=(List.range k).flatMap fun i=>(cx t (i+1)).filterMap (cG t (i+1))
theorem pU(t:List Nat)(k:Nat):bt t (k+1)=bt t k++(cx t (k+1)).filterMap (cG t (k+1)):=by
 unfold bt
 rw[List.range_succ,List.flatMap_append]
 simp
theorem pE{t:List Nat}{m k:Nat}(us:List (List Nat))(h:us.length≤k):(us.filterMap (cG t m)).length≤k:=Nat.le_trans (List.length_filterMap_le _ _) h
theorem lH(t:List Nat):∀k,(bt t k).length≤k*t.length
 | 0=>by simp[bt]
 | k+1=>by
   rw[pU,List.length_append,Nat.succ_mul]
   have:=lH t k
   have:=pE (t:=t) (m:=k+1) (k:=t.length) (cx t (k+1)) (by have:=gO (t:=t) (m:=k+1) (t.length+1-(k+1));unfold cx;lia)
   lia
theorem m7{t:List Nat}{k:Nat}(hk:k≤40)(tl:t.length≤40):(bt t k).length≤1600:=by
 have h1:=lH t k
 have h2:k*t.length≤40*40:=Nat.mul_le_mul hk tl
 lia
theorem nT{t:List Nat}{m p:Nat}(h:p<t.length+1-m):(aC t m p).length=m:=by
 show((t.drop p).take m).length=m
 rw[List.length_take,List.length_drop]
 lia
abbrev kU:Stmt:=aJ 35
def lK:Sp:=fun vs H Q _=>∃(a:Addr) (t:List Nat),vs=[.ref a]∧H a=some (.lst (t.map sg))∧Low t∧1≤t.length∧t.length≤40∧∀(r:Addr) (H':Hp),H r=none→RunsAt H' r (bt t t.length)→Same H H'→Q (.ref r) H'
theorem ym{es:List (List Nat×Addr)}{i:Nat}{k:List aE}{x:V}(h:(bT es)[i]?=some (k,x)):∃e,es[i]?=some e∧x=V.ref e.2∧k=dm e.1:=by
 unfold bT at h
 rw[List.getElem?_map] at h
 cases q:es[i]? with
 | none=>rw[q] at h;cases h
 | some e=>
   rw[q] at h
   exact⟨e,rfl,(congrArg Prod.snd (Option.some.inj h)).symm,(congrArg Prod.fst (Option.some.inj h)).symm⟩
section
variable{P:Program}{w:World}{K:PySem.W.Frag}{mg:Str→Option Value}{base:Heap}
theorem scPWR:FnScope ["text","found","many","piece","places"] ["text"] (au kU):=fsc_
theorem yG(M:Md K mg)(B:Bl mg)(F:FF K "pieces_with_rests" kU)(Fcheck_few:Fn P w K mg base ae "check_few" 3 ["text"] p8)(Fpiece_places:Fn P w K mg base ae "piece_places" 1 ["text","many"] nR)(Frest_both:Fn P w K mg base ae "rest_both" 5 ["text","word"] (bD true true)):Fn P w K mg base ae "pieces_with_rests" 6 ["text"] lK:=by
 refine aK M F scPWR (fun _ _ _ _ _ _=>bJ fun _=>rfl) (fun vs H Q E h=>?_) (fun f cdv A outer s H vs Q E hr h=>?_)
 ·obtain⟨a,t,rfl,_⟩:=h;rfl
 ·obtain⟨a,t,rfl,ha,lt,t1,tl,k⟩:=h
  refine⟨_,(ah (bc (ai Fcheck_few hr aj (aa (pv 0) ac)))
   (ah (ar (i:=1) scPWR.nd rfl (.inl rfl) (bI ac))
   (ah (cT PassesOwn.never rfl (gQ (by rfl) B.range (aa af (aa (ak aW (av B.len (pv 0)) af) ac))) (bq (i:=2) scPWR.nd rfl (.inl rfl))
   (al (cT PassesOwn.never rfl (rA (ai Fpiece_places hr aj (aa (pv 0) (aa (pv 2) ac)))) (eV rfl (cF (bq (i:=3) scPWR.nd rfl (.inl rfl)) (cF (bq (i:=4) scPWR.nd rfl (.inl rfl)) fc)))
   (al (aV (bx (ai Frest_both hr aj (aa (pv 0) (aa (sq B.list (pv 3)) ac)))) (al (bc (fk PySem.F.plainAttrs_list PySem.F.slot_list_append PySem.F.type_list_append iN (pv 1) (aa (fY (aa (pv 2) (aa (aR aZ (pv 4) af (fun _ _=>rfl)) ac))) ac)))) aU)))))
   (al (aw (pv 1)))))),?_⟩
  refine⟨_,rfl,a,t,rfl,ha,lt,t1,tl,?_⟩
  refine⟨Nat.zero_le _,fun r hr0=>?_⟩
  have s0:=Same.upd (o:=.lst []) hr0
  refine⟨_,rfl,a,_,rfl,SqL.of (s0 _ _ ha),_,_,rfl,rfl,1,_,rfl,⟨by decide,by decide,by rw[List.length_map];lia,by rw[List.length_map];lia⟩,?_⟩
  rw[List.length_map,show((t.length:Int)+1-1).toNat=t.length by lia]
  refine gJ (lo:=1) (n:=t.length) (fun j σ H2=>Same H H2∧RunsAt H2 r (bt t j)∧∃v2 v3 v4,σ=[some (.ref a),some (.ref r),v2,v3,v4]) ⟨s0,RunsAt.nil ad,_,_,_,rfl⟩ ?_ ?_
  ·rintro j σ H2 hj ⟨sH,rn,v2,v3,v4,rfl⟩
   rw[show(1+(j:Int))=((j+1:Nat):Int) by lia]
   have ha2:=sH _ _ ha
   refine⟨_,rfl,_,rfl,a,t,j+1,rfl,ha2,by lia,by lia,by lia,fun w es H4 hw0 hw4 pc s4=>⟨w,bT es,rfl,hw4,fun o=>?_⟩⟩
   have rn4:=rn.same s4
   have wr:w≠r:=by
    obtain⟨cs,h1,_⟩:=rn
    intro z
    rw[z,h1] at hw0
    cases hw0
   have er:∀e∈es,e.2≠r:=fun e he z=>by
    obtain⟨cs,h1,_⟩:=rn
    have:=(pc.at_ e he).1
    rw[z,h1] at this
    cases this
   have eus:es.map (·.1)=cx t (j+1):=pc.us
   have bnd:=m7 (t:=t) (k:=j) (by lia) tl
   refine vK (a:=w) (o:=o) (kvs:=bT es) (fun i σ H5=>Same H H5∧H5 w=some (.frz o (.dT (bT es)))∧(∀e∈es,H5 e.2=some (.lst (am (cH t (j+1) (t.length+1-(j+1)) e.1))))∧RunsAt H5 r (bt t j++((cx t (j+1)).take i).filterMap (cG t (j+1)))∧∃v3 v4,σ=[some (.ref a),some (.ref r),some (.int ((j+1:Nat):Int)),v3,v4]) ?_ (fun i σ H5 _ h5=>h5.2.1) ?_ ?_
   ·refine⟨fun b ob z=>by rw[ao (aN (sH _ _ z) hw0)];exact s4 _ _ (sH _ _ z),ad,fun e he=>?_,?_,_,_,rfl⟩
    ·rw[ao (dZ (pc.at_ e he).2 hw4 (fun z=>nomatch z))]
     exact(pc.at_ e he).2
    ·rw[List.take_zero,List.filterMap_nil,List.append_nil]
     exact rn4.imp (fun xs z=>by rw[ao (Ne.symm wr)];exact z) fun b xs z=>by rw[ao (dZ z hw4 (fun z=>nomatch z))];exact z
   ·rintro i kk x ka p σ H5 hx hka hp ⟨sH5,hw5,hes,rn5,v3,v4,rfl⟩
    obtain⟨e,he,rfl,rfl⟩:=ym hx
    have hem:=List.mem_of_getElem? he
    have hu:(cx t (j+1))[i]?=some e.1:=by rw[←eus,List.getElem?_map,he];rfl
    have hum:=List.mem_of_getElem? hu
    have ul:e.1.length=j+1:=uX (Nat.le_refl _) hum (by lia)
    have epl:=t6 (t:=t) ul
    have he5:=hes e hem
    rw[epl] at he5
    rw[gp] at hka
    obtain⟨q,hq,hqe⟩:=mem_us.mp hum
    have hql:q∈aD t e.1:=by rw[←epl];unfold cH;rw[List.mem_filter];exact⟨by simpa using hq,by simpa using hqe⟩
    have lu:Low e.1:=by rw[←hqe];exact(lt.drop _).take _
    have sp:=Same.upd (o:=.tup [V.ref ka,.ref e.2]) hp
    have hp5:=ad (H:=H5) (a:=p) (o:=.tup [V.ref ka,.ref e.2])
    generalize L2.upd H5 p (.tup [V.ref ka,.ref e.2])=H6 at sp hp5 ⊢
    refine⟨p,_,rfl,SqT.of hp5,rfl,_,_,rfl,_,_,rfl,rfl,?_⟩
    have ka6:=sp _ _ hka
    refine⟨_,rfl,_,rfl,ka,_,rfl,SqT.of ka6,fun l hl=>?_⟩
    have s7:=Same.upd (o:=.lst (e.1.map sg)) hl
    have s57:=sp.trans s7
    refine⟨a,l,t,e.1,rfl,s57 _ _ (sH5 _ _ ha),ad,lt,lu,t1,by lia,by lia,by lia,fun H8 s8=>?_⟩
    have s58:=s57.trans s8
    have sH8:=sH5.trans s58
    have etk:(cx t (j+1)).take (i+1)=(cx t (j+1)).take i++[e.1]:=by rw[List.take_add_one,hu];rfl
    have rn8:=rn5.same s58
    refine⟨_,rfl,?_⟩
    refine bf (fun hc=>?_) (fun hc=>?_)
    ·have hc':RB t e.1=true:=hc
     obtain⟨y,ys,ey⟩:=List.exists_cons_of_ne_nil (List.ne_nil_of_mem hql)
     have eg:cG t (j+1) e.1=some (j+1,y):=by unfold cG;rw[if_pos hc',ey];rfl
     obtain⟨cs,h1,h2,h3⟩:=rn8
     refine⟨_,rfl,.inl ⟨rfl,_,SqL.of h1⟩,_,rfl,_,rfl,e.2,_,_,_,rfl,rfl,SqL.of (s58 _ _ he5),bu (j:=0) (v:=V.int (y:Int)) (by rw[ey];rfl),by show 2≤sizeLine;decide,fun g hg=>?_⟩
     have s9:=Same.upd (o:=.tup [.int ((j+1:Nat):Int),.int (y:Int)]) hg
     have lb:cs.length≤1700:=by
      rw[h2,List.length_append]
      have:=pE (t:=t) (m:=j+1) (k:=t.length) ((cx t (j+1)).take i) (by have:=gO (t:=t) (m:=j+1) (t.length+1-(j+1));unfold cx;rw[List.length_take];lia)
      lia
     refine⟨r,_,_,rfl,rfl,s9 _ _ h1,by rw[List.length_map];exact e8 (by lia),?_⟩
     have rn9:=RunsAt.app (s9 _ _ h1) h2 (fun i c q a b=>s9 _ _ (h3 i c q a b)) (ad (H:=H8) (a:=g) (o:=.tup [.int ((j+1:Nat):Int),.int (y:Int)]))
     refine⟨fun b ob z=>?_,?_,fun e' h'=>?_,?_,_,_,rfl⟩
     ·rw[ao (aN z hr0)];exact s9 _ _ (sH8 _ _ z)
     ·rw[ao wr];exact s9 _ _ (s58 _ _ hw5)
     ·rw[ao (er e' h')];exact s9 _ _ (s58 _ _ (hes e' h'))
     ·rw[etk,List.filterMap_append,←List.append_assoc]
      have:[e.1].filterMap (cG t (j+1))=[(j+1,y)]:=by simp[eg]
      rw[this]
      exact rn9
    ·have hc':¬RB t e.1=true:=hc
     have eg:cG t (j+1) e.1=none:=by unfold cG;rw[if_neg hc']
     refine⟨sH8,s58 _ _ hw5,fun e' h'=>s58 _ _ (hes e' h'),?_,_,_,rfl⟩
     rw[etk,List.filterMap_append]
     have:[e.1].filterMap (cG t (j+1))=[]:=by simp[eg]
     rw[this,List.append_nil]
     exact rn8
   ·rintro σ H5 ⟨sH5,hw5,hes,rn5,v3,v4,rfl⟩
    have el:(bT es).length=(cx t (j+1)).length:=by unfold bT;rw[←eus,List.length_map,List.length_map]
    rw[el,List.take_length,←pU] at rn5
    exact⟨sH5,rn5,_,_,_,rfl⟩
  ·rintro σ H2 ⟨sH,rn,v2,v3,v4,rfl⟩
   exact⟨_,rfl,k r H2 hr0 rn sH⟩
end
def Oc(w t:List Nat)(p:Nat):Prop:=∃a b,t=a++(w++b)∧a.length=p
def bb(w:List Nat)(d:Nat):List Nat:=w.drop (w.length-d)
def dj(w:List Nat)(d:Nat):Prop:=1≤d∧d≤w.length∧w.drop d=w.take (w.length-d)
def Sg(w:List Nat)(d:Nat):Prop:=dj w d∧∀j,0<j→j<d→¬Oc w (w.take d++w) j
theorem Oc.le{w t:List Nat}{p:Nat}(h:Oc w t p):p+w.length≤t.length:=by
 obtain⟨a,b,rfl,rfl⟩:=h
 simp only[List.length_append];lia
theorem oc_iff{w t:List Nat}{p:Nat}:Oc w t p↔p+w.length≤t.length∧(t.drop p).take w.length=w:=by
 constructor
 ·intro h
  refine⟨h.le,?_⟩
  obtain⟨a,b,rfl,rfl⟩:=h
  rw[List.drop_left,List.take_left]
 ·rintro⟨h1,h2⟩
  refine⟨t.take p,(t.drop p).drop w.length,?_,by rw[List.length_take];lia⟩
  have:=List.take_append_drop w.length (t.drop p)
  rw[h2] at this
  rw[this,List.take_append_drop]
theorem mz{w a t:List Nat}{p:Nat}:Oc w (a++t) (a.length+p)↔Oc w t p:=by
 constructor
 ·rintro⟨x,b,e,l⟩
  have hx:a <+:x:=by
   have:a <+:x++(w++b):=by rw[←e];exact List.prefix_append _ _
   exact List.prefix_of_prefix_length_le this (List.prefix_append _ _) (by lia)
  obtain⟨y,rfl⟩:=hx
  rw[List.append_assoc] at e
  refine⟨y,b,List.append_cancel_left e,?_⟩
  rw[List.length_append] at l;lia
 ·rintro⟨x,b,rfl,rfl⟩
  exact⟨a++x,b,by rw[List.append_assoc],by rw[List.length_append]⟩
theorem Oc.more{w t:List Nat}{p:Nat}(h:Oc w t p)(z:List Nat):Oc w (t++z) p:=by
 obtain⟨a,b,rfl,rfl⟩:=h
 exact⟨a,b++z,by simp only[List.append_assoc],rfl⟩
theorem Oc.cut{w t z:List Nat}{p:Nat}(h:Oc w (t++z) p)(hl:p+w.length≤t.length):Oc w t p:=by
 rw[oc_iff] at h ⊢
 refine⟨hl,?_⟩
 have e:=h.2
 rw[List.drop_append_of_le_length (by lia),List.take_append_of_le_length (by rw[List.length_drop];lia)] at e
 exact e
theorem fm{w:List Nat}{d:Nat}(h:dj w d):w.take d++w=w++bb w d:=by
 obtain⟨_,_,h⟩:=h
 have e1:w=w.take d++w.take (w.length-d):=by rw[←h,List.take_append_drop]
 have e2:w.take (w.length-d)++bb w d=w:=List.take_append_drop _ _
 calc w.take d++w=w.take d++(w.take (w.length-d)++bb w d):=by rw[e2]
  _=(w.take d++w.take (w.length-d))++bb w d:=by rw[List.append_assoc]
  _=w++bb w d:=by rw[←e1]
theorem fM{w:List Nat}{d:Nat}(h:d≤w.length):(bb w d).length=d:=by unfold bb;rw[List.length_drop];lia
theorem yu{w t:List Nat}{d:Nat}(d1:1≤d)(d2:d≤w.length)(h0:Oc w t 0)(hd:Oc w t d):dj w d∧t=w.take d++t.drop d:=by
 obtain⟨a,b,e0,la⟩:=h0
 have:a=[]:=List.length_eq_zero_iff.mp la
 subst this
 rw[List.nil_append] at e0
 have e1:t.take d=w.take d:=by rw[e0,List.take_append_of_le_length d2]
 refine⟨⟨d1,d2,?_⟩,?_⟩
 ·have q:=(oc_iff.mp hd).2
  have:=congrArg (List.take (w.length-d)) q
  rw[List.take_take,Nat.min_eq_left (by lia),e0,List.drop_append_of_le_length d2,List.take_left' (by rw[List.length_drop])] at this
  exact this
 ·rw[←e1,List.take_append_drop]
def tx(w:List Nat):List Nat→List Nat
 | []=>w
 | d::ds=>w.take d++tx w ds
def aY(p:Nat):List Nat→List Nat
 | []=>[p]
 | d::ds=>p::aY (p+d) ds
theorem gi{w:List Nat}:∀{ds:List Nat},(∀d∈ds,d≤w.length)→(tx w ds).length=w.length+ds.sum
 | [],_=>by simp[tx]
 | d::ds,h=>by
   rw[tx,List.length_append,gi fun x hx=>h x (List.mem_cons_of_mem _ hx),List.length_take,List.sum_cons]
   have:=h d List.mem_cons_self
   lia
theorem kb{w:List Nat}:∀{ds:List Nat},(∀d∈ds,dj w d)→∃z,tx w ds=w++z
 | [],_=>⟨[],by simp[tx]⟩
 | d::ds,h=>by
   obtain⟨z,hz⟩:=kb fun x hx=>h x (List.mem_cons_of_mem d hx)
   refine⟨bb w d++z,?_⟩
   rw[tx,hz,←List.append_assoc,fm (h d List.mem_cons_self),List.append_assoc]
theorem lW{w:List Nat}{d:Nat}{ds:List Nat}(h:∀x∈d::ds,dj w x):∃z,tx w (d::ds)=w++(bb w d++z):=by
 obtain⟨z,hz⟩:=kb fun x hx=>h x (List.mem_cons_of_mem d hx)
 exact⟨z,by rw[tx,hz,←List.append_assoc,fm (h d List.mem_cons_self),List.append_assoc]⟩
theorem on{w:List Nat}{d:Nat}(h:dj w d):∀ds:List Nat,tx w (ds++[d])=tx w ds++bb w d
 | []=>by show w.take d++w=w++bb w d;exact fm h
 | x::ds=>by show w.take x++tx w (ds++[d])=(w.take x++tx w ds)++bb w d;rw[on h ds,List.append_assoc]
theorem mo:∀{ds:List Nat} {p x:Nat},x∈aY p ds→p≤x
 | [],p,x,h=>by rw[List.mem_singleton.mp h];exact Nat.le_refl _
 | d::ds,p,x,h=>by
   rcases List.mem_cons.mp h with e | e
   ·lia
   ·have:=mo e;lia
theorem qp:∀{ds:List Nat} {p:Nat},(∀d∈ds,1≤d)→(aY p ds).Pairwise (·< ·)
 | [],p,_=>by simp[aY]
 | d::ds,p,h=>by
   rw[aY,List.pairwise_cons]
   refine⟨fun x hx=>?_,qp fun x hx=>h x (List.mem_cons_of_mem _ hx)⟩
   have:=mo hx
   have:=h d List.mem_cons_self
   lia
theorem ju:∀{ds:List Nat} {p x:Nat},x∈aY p ds↔p≤x∧x-p∈aY 0 ds
 | [],p,x=>by simp only[aY,List.mem_singleton];lia
 | d::ds,p,x=>by
   simp only[aY,List.mem_cons]
   rw[ju (p:=p+d) (x:=x),ju (p:=0+d) (x:=x-p)]
   constructor
   ·rintro(h | ⟨h1,h2⟩)
    ·exact⟨by lia,.inl (by lia)⟩
    ·exact⟨by lia,.inr ⟨by lia,by rw[show x-p-(0+d)=x-(p+d) by lia];exact h2⟩⟩
   ·rintro⟨h1,h | ⟨h2,h3⟩⟩
    ·exact .inl (by lia)
    ·exact .inr ⟨by lia,by rw[show x-(p+d)=x-p-(0+d) by lia];exact h3⟩
theorem fO{w:List Nat}:∀{ds:List Nat},(∀d∈ds,Sg w d)→∀p,Oc w (tx w ds) p↔p∈aY 0 ds
 | [],_,p=>by
   simp only[tx,aY,List.mem_singleton]
   constructor
   ·intro h;have:=h.le;lia
   ·rintro rfl;exact⟨[],[],by simp,rfl⟩
 | d::ds,h,p=>by
   have hd:=h d List.mem_cons_self
   obtain⟨⟨d1,d2,d3⟩,d4⟩:=hd
   have ih:=fO fun x hx=>h x (List.mem_cons_of_mem d hx)
   have hl:(w.take d).length=d:=by rw[List.length_take];lia
   obtain⟨z,hz⟩:=kb (w:=w) (ds:=ds) fun x hx=>(h x (List.mem_cons_of_mem d hx)).1
   rw[tx,aY,List.mem_cons,ju (p:=0+d)]
   by_cases hp:d≤p
   ·have:Oc w (w.take d++tx w ds) p↔Oc w (tx w ds) (p-d):=by
     have:=mz (w:=w) (a:=w.take d) (t:=tx w ds) (p:=p-d)
     rw[hl,show d+(p-d)=p by lia] at this
     exact this
    rw[this,ih,Nat.zero_add]
    constructor
    ·intro q;exact .inr ⟨hp,q⟩
    ·rintro(q | q)
     ·lia
     ·exact q.2
   ·constructor
    ·intro q
     by_cases p0:p=0
     ·exact .inl p0
     ·exfalso
      rw[hz,←List.append_assoc] at q
      exact d4 p (by lia) (by lia) (q.cut (by rw[List.length_append,hl];lia))
    ·rintro(q | q)
     ·subst q
      rw[hz,←List.append_assoc,fm ⟨d1,d2,d3⟩]
      exact⟨[],bb w d++z,by simp,rfl⟩
     ·lia
def Cv(w t:List Nat):Prop:=Oc w t 0∧∀p,Oc w t p→p+w.length<t.length→∃q,p<q∧q≤p+w.length∧Oc w t q
theorem nq{P:Nat→Prop}:∀n,P n→∃m,P m∧m≤n∧∀k,k<m→¬P k:=by
 intro n
 induction n using Nat.strongRecOn with
 | ind n ih=>
   intro h
   by_cases z:∃k,k<n∧P k
   ·obtain⟨k,hk,pk⟩:=z
    obtain⟨m,h1,h2,h3⟩:=ih k hk pk
    exact⟨m,h1,by lia,h3⟩
   ·exact⟨n,h,Nat.le_refl _,fun k hk pk=>z ⟨k,hk,pk⟩⟩
theorem yU{w:List Nat}(w1:1≤w.length):∀(n:Nat) (t:List Nat),t.length=n→Cv w t→∃ds,(∀d∈ds,Sg w d)∧t=tx w ds:=by
 intro n
 induction n using Nat.strongRecOn with
 | ind n ih=>
   intro t hn ⟨h0,hc⟩
   have hl:=h0.le
   by_cases e:w.length=t.length
   ·refine⟨[],by simp,?_⟩
    obtain⟨a,b,e1,e2⟩:=h0
    have:a=[]:=List.length_eq_zero_iff.mp e2
    subst this
    have:b=[]:=by
     apply List.length_eq_zero_iff.mp
     have:=congrArg List.length e1
     simp only[List.length_append,List.length_nil] at this
     lia
    subst this
    rw[e1];simp[tx]
   ·obtain⟨q,q1,q2,q3⟩:=hc 0 h0 (by lia)
    obtain⟨d,⟨d1,d2⟩,d3,d4⟩:=nq (P:=fun d=>0<d∧Oc w t d) q ⟨q1,q3⟩
    obtain⟨pr,et⟩:=yu (by lia) (by lia) h0 d2
    have dl:(w.take d).length=d:=by rw[List.length_take];lia
    have tr:∀p,Oc w (t.drop d) p↔Oc w t (d+p):=fun p=>by
     have:=mz (w:=w) (a:=w.take d) (t:=t.drop d) (p:=p)
     rw[dl,←et] at this
     exact this.symm
    have h1:Oc w (t.drop d) 0:=(tr 0).mpr d2
    obtain⟨ds,s1,s2⟩:=ih (t.length-d) (by lia) (t.drop d) (by rw[List.length_drop]) ⟨h1,fun p hp hl2=>by
     rw[List.length_drop] at hl2
     obtain⟨r,r1,r2,r3⟩:=hc (d+p) ((tr p).mp hp) (by lia)
     refine⟨r-d,by lia,by lia,(tr _).mpr ?_⟩
     rw[show d+(r-d)=r by lia];exact r3⟩
    refine⟨d::ds,fun x hx=>?_,?_⟩
    ·rcases List.mem_cons.mp hx with rfl | hx
     ·refine⟨pr,fun j j1 j2 hj=>?_⟩
      refine d4 j j2 ⟨j1,?_⟩
      obtain⟨a,b,e1,e2⟩:=h1
      have:a=[]:=List.length_eq_zero_iff.mp e2
      subst this
      rw[et,e1,List.nil_append,←List.append_assoc]
      exact hj.more b
     ·exact s1 x hx
    ·rw[tx,←s2];exact et
theorem vm{w:List Nat}(w1:1≤w.length){ds:List Nat}(h:∀d∈ds,Sg w d):Cv w (tx w ds):=by
 have hl:=gi (w:=w) (ds:=ds) fun d hd=>(h d hd).1.2.1
 refine⟨(fO h 0).mpr (by cases ds <;> simp[aY]),fun p hp hlt=>?_⟩
 rw[hl] at hlt
 rw[fO h] at hp
 suffices∃q,p<q∧q≤p+w.length∧q∈aY 0 ds by
  obtain⟨q,q1,q2,q3⟩:=this
  exact⟨q,q1,q2,(fO h q).mpr q3⟩
 have gen:∀(ds:List Nat) (b:Nat),(∀d∈ds,Sg w d)→p∈aY b ds→p<b+ds.sum→∃q,p<q∧q≤p+w.length∧q∈aY b ds:=by
  intro ds
  induction ds with
  | nil=>intro b _ h1 h2;rw[List.mem_singleton.mp h1] at h2;simp at h2
  | cons d ds ih=>
    intro b hs h1 h2
    have hd:=(hs d List.mem_cons_self).1
    rcases List.mem_cons.mp h1 with e | e
    ·refine⟨b+d,by have:=hd.1;lia,by have:=hd.2.1;lia,List.mem_cons_of_mem _ ?_⟩
     cases ds <;> simp[aY]
    ·rw[List.sum_cons] at h2
     obtain⟨q,q1,q2,q3⟩:=ih (b+d) (fun x hx=>hs x (List.mem_cons_of_mem _ hx)) e (by lia)
     exact⟨q,q1,q2,List.mem_cons_of_mem _ q3⟩
 exact gen ds 0 h hp (by lia)
theorem sG{w:List Nat}{d e:Nat}(hd:Sg w d)(he:Sg w e)(h:bb w d <+:bb w e):d=e:=by
 have l1:=fM hd.1.2.1
 have l2:=fM he.1.2.1
 have l3:=h.length_le
 by_cases z:d=e
 ·exact z
 ·exfalso
  obtain⟨x,hx⟩:=h
  refine he.2 d (by have:=hd.1.1;lia) (by lia) ?_
  rw[fm he.1,←hx,←List.append_assoc,←fm hd.1]
  refine Oc.more ⟨w.take d,[],by simp,?_⟩ x
  have:=hd.1.2.1
  rw[List.length_take];lia
def cl(S:List Nat)(L:Nat):Nat→List Nat
 | 0=>List.replicate L 0++[1]
 | k+1=>cl S L k++[(S.map fun d=>(cl S L k).getD ((cl S L k).length-d) 0).sum]
theorem dB(S:List Nat)(L:Nat):∀k,(cl S L k).length=L+1+k
 | 0=>by simp[cl]
 | k+1=>by rw[cl,List.length_append,dB S L k];rfl
def cn(S:List Nat)(L n:Nat):Nat:=(cl S L n).getD n 0
theorem jo{S:List Nat}{L k n:Nat}(h:n<L+1+k):∀j,(cl S L (k+j)).getD n 0=(cl S L k).getD n 0
 | 0=>rfl
 | j+1=>by
   rw[←Nat.add_assoc,cl,List.getD_eq_getElem?_getD,List.getElem?_append_left (by rw[dB];lia),←List.getD_eq_getElem?_getD]
   exact jo h j
theorem cX{S:List Nat}{L k n:Nat}(h:n<L+1+k):(cl S L k).getD n 0=cn S L n:=by
 unfold cn
 rcases Nat.le_total k n with z | z
 ·have:=jo (S:=S) h (n-k)
  rw[show k+(n-k)=n by lia] at this
  exact this.symm
 ·have:=jo (S:=S) (L:=L) (k:=n) (n:=n) (by lia) (k-n)
  rw[show n+(k-n)=k by lia] at this
  exact this
theorem gC{S:List Nat}{L n:Nat}(h:n<L):cn S L n=0:=by
 rw[←cX (k:=0) (by lia),cl,List.getD_eq_getElem?_getD,List.getElem?_append_left (by rw[List.length_replicate];lia),List.getElem?_replicate,if_pos h]
 rfl
theorem gH{S:List Nat}{L:Nat}:cn S L L=1:=by
 rw[←cX (k:=0) (by lia),cl]
 simp[List.getD_eq_getElem?_getD]
theorem ga{l:List Nat}{g h:Nat→Nat}(e:∀c∈l,g c=h c):(l.map g).sum=(l.map h).sum:=by rw[List.map_congr_left e]
theorem hV{S:List Nat}{L n:Nat}(hS:∀d∈S,1≤d)(h:L<n):cn S L n=(S.map fun d=>cn S L (n-d)).sum:=by
 obtain⟨k,rfl⟩:∃k,n=L+1+k:=⟨n-L-1,by lia⟩
 rw[←cX (k:=k+1) (by lia),cl,List.getD_eq_getElem?_getD,List.getElem?_append_right (by rw[dB];lia),dB,Nat.sub_self]
 show(S.map fun d=>(cl S L k).getD (L+1+k-d) 0).sum=_
 exact ga fun d hd=>cX (by have:=hS d hd;lia)
theorem sS{S T:List Nat}{L:Nat}(hS:∀d∈S,1≤d)(p:S.Perm T):∀n,cn S L n=cn T L n:=by
 intro n
 induction n using Nat.strongRecOn with
 | ind n ih=>
   have hT:∀d∈T,1≤d:=fun d hd=>hS d (p.mem_iff.mpr hd)
   rcases Nat.lt_trichotomy n L with z | z | z
   ·rw[gC z,gC z]
   ·subst z;rw[gH,gH]
   ·rw[hV hS z,hV hT z,ga (l:=S) (g:=fun d=>cn S L (n-d)) (h:=fun d=>cn T L (n-d)) fun d hd=>ih (n-d) (by have:=hS d hd;lia)]
    exact(p.map _).sum_nat
def pre(S:List Nat)(d:Nat):List Nat:=S.takeWhile (·≠d)
theorem fL{S:List Nat}{d:Nat}(h:d∈S):∃post,S=pre S d++d::post:=by
 unfold pre
 induction S with
 | nil=>cases h
 | cons x r ih=>
   by_cases e:x=d
   ·subst e;exact⟨r,by rw[List.takeWhile_cons_of_neg (by simp)];rfl⟩
   ·obtain⟨post,hp⟩:=ih ((List.mem_cons.mp h).resolve_left fun q=>e q.symm)
    refine⟨post,?_⟩
    rw[List.takeWhile_cons_of_pos (by simpa using e),List.cons_append,←hp]
theorem iR{S p q:List Nat}{d:Nat}(hn:S.Nodup)(e:S=p++d::q):pre S d=p:=by
 unfold pre
 subst e
 have hp:=(List.nodup_append.mp hn).2.2
 rw[List.takeWhile_append_of_pos fun x hx=>by
  have:=hp x hx d List.mem_cons_self
  simpa using this,List.takeWhile_cons_of_neg (by simp),List.append_nil]
def rk(S:List Nat)(L:Nat):List Nat→Nat
 | []=>0
 | d::ds=>((pre S d).map fun s=>cn S L (L+(d+ds.sum)-s)).sum+rk S L ds
section
variable{S:List Nat}{L:Nat}
theorem u6(hS:∀d∈S,1≤d){d:Nat}(hd:d∈S){n:Nat}(h:L<n):((pre S d).map fun s=>cn S L (n-s)).sum+cn S L (n-d)≤cn S L n:=by
 obtain⟨post,e⟩:=fL hd
 rw[hV hS h]
 have gen:∀g:Nat→Nat,(S.map g).sum=((pre S d).map g).sum+(g d+(post.map g).sum):=fun g=>by
  conv=>lhs;rw[e]
  rw[List.map_append,List.sum_append,List.map_cons,List.sum_cons]
 rw[gen fun s=>cn S L (n-s)];lia
theorem i9(hS:∀d∈S,1≤d):∀{ds:List Nat},(∀d∈ds,d∈S)→rk S L ds<cn S L (L+ds.sum)
 | [],_=>by simp[rk,gH]
 | d::ds,h=>by
   have hd:=h d List.mem_cons_self
   have ih:=i9 hS (ds:=ds) fun x hx=>h x (List.mem_cons_of_mem _ hx)
   have:=u6 (L:=L) hS hd (n:=L+(d+ds.sum)) (by have:=hS d hd;lia)
   rw[show L+(d+ds.sum)-d=L+ds.sum by lia] at this
   rw[rk,List.sum_cons]
   lia
theorem uy{d e:Nat}(hd:d∈S)(he:e∈S)(h:d≠e):d∈pre S e∨e∈pre S d:=by
 obtain⟨p,hp⟩:=fL hd
 obtain⟨q,hq⟩:=fL he
 by_cases z:d∈pre S e
 ·exact .inl z
 ·right
  unfold pre at z ⊢
  clear hp hq p q
  induction S with
  | nil=>cases hd
  | cons x r ih=>
    by_cases e1:x=d
    ·subst e1
     rw[List.takeWhile_cons_of_pos (by simpa using h)] at z
     exact absurd List.mem_cons_self z
    ·rw[List.takeWhile_cons_of_pos (by simpa using e1)]
     by_cases e2:x=e
     ·subst e2;exact List.mem_cons_self
     ·rw[List.takeWhile_cons_of_pos (by simpa using e2)] at z
      exact List.mem_cons_of_mem _ (ih ((List.mem_cons.mp hd).resolve_left fun q=>e1 q.symm) ((List.mem_cons.mp he).resolve_left fun q=>e2 q.symm) fun q=>z (List.mem_cons_of_mem _ q))
theorem vn{d e:Nat}(hn:S.Nodup)(he:e∈S)(h:d∈pre S e):∃x,pre S e=pre S d++d::x:=by
 obtain⟨q,hq⟩:=fL he
 obtain⟨a,b,hab⟩:=List.append_of_mem h
 refine⟨b,?_⟩
 have:pre S d=a:=iR hn (q:=b++e::q) (by rw[hab] at hq;rw[hq];simp)
 rw[this];exact hab
theorem oj(hS:∀d∈S,1≤d)(hn:S.Nodup){d e:Nat}{ds es:List Nat}(hd:∀x∈d::ds,x∈S)(he:∀x∈e::es,x∈S)(hs:(d::ds).sum=(e::es).sum)(h:d∈pre S e):rk S L (d::ds)<rk S L (e::es):=by
 obtain⟨x,hx⟩:=vn hn (he e List.mem_cons_self) h
 rw[List.sum_cons,List.sum_cons] at hs
 rw[rk,rk,hx,List.map_append,List.sum_append,List.map_cons,List.sum_cons,←hs]
 have:=i9 (L:=L) hS (ds:=ds) fun y hy=>hd y (List.mem_cons_of_mem _ hy)
 rw[show L+(d+ds.sum)-d=L+ds.sum by lia]
 lia
end
theorem nC(c x y:List Int):aQ (c++x) (c++y)=aQ x y:=by
 induction c with
 | nil=>rfl
 | cons a c ih=>simp[aQ,ih]
theorem nM:∀{x y:List Int},aQ y x=false→¬x <+:y→∀u v,aQ (x++u) (y++v)=true
 | [],y,_,h,_,_=>absurd (List.nil_prefix) h
 | a::x,[],h,_,_,_=>by simp[aQ] at h
 | a::x,b::y,h1,h2,u,v=>by
   simp only[aQ] at h1
   rw[List.cons_append,List.cons_append]
   simp only[aQ]
   by_cases e:a=b
   ·subst e
    rw[if_pos rfl] at h1 ⊢
    exact nM h1 (fun z=>h2 (by rw[List.prefix_cons_inj];exact z)) u v
   ·rw[if_neg e]
    rw[if_neg (fun z=>e z.symm)] at h1
    have:¬b<a:=of_decide_eq_false h1
    exact decide_eq_true (by lia)
theorem fe(x y:List Nat):aI (x++y)=aI x++aI y:=by simp[aI]
theorem wG{x y:List Nat}(h:aI x <+:aI y):x <+:y:=by
 rw[List.prefix_iff_eq_take] at h ⊢
 unfold aI at h
 rw[List.length_map,←List.map_take] at h
 have inj:∀{a b:List Nat},a.map (fun c:Nat=>(c:Int))=b.map (fun c:Nat=>(c:Int))→a=b:=by
  intro a
  induction a with
  | nil=>intro b h;cases b with | nil=>rfl | cons _ _=>cases h
  | cons x a ih=>
    intro b h
    cases b with
    | nil=>cases h
    | cons y b=>
      rw[List.map_cons,List.map_cons] at h
      have h':=List.cons.inj h
      rw[ih h'.2,Int.ofNat.inj h'.1]
 exact inj h
section
variable{w S:List Nat}
def dP(w S:List Nat):Prop:=S.Pairwise fun a b=>aQ (aI (bb w b)) (aI (bb w a))=false
theorem xC(hS:∀d,d∈S→Sg w d)(hn:S.Nodup)(hk:dP w S){d e:Nat}{ds es:List Nat}(hd:∀x∈d::ds,x∈S)(he:∀x∈e::es,x∈S)(h:d∈pre S e):aQ (aI (tx w (d::ds))) (aI (tx w (e::es)))=true:=by
 obtain⟨q,hq⟩:=fL (he e List.mem_cons_self)
 have hk':aQ (aI (bb w e)) (aI (bb w d))=false:=by
  unfold dP at hk
  rw[hq] at hk
  exact(List.pairwise_append.mp hk).2.2 d h e List.mem_cons_self
 have hne:d≠e:=fun z=>by
  subst z
  rw[hq] at hn
  exact(List.nodup_append.mp hn).2.2 d h d List.mem_cons_self rfl
 obtain⟨u,hu⟩:=lW (w:=w) fun x hx=>(hS x (hd x hx)).1
 obtain⟨v,hv⟩:=lW (w:=w) fun x hx=>(hS x (he x hx)).1
 rw[hu,hv,fe,fe w,nC,fe,fe (bb w e)]
 refine nM hk' (fun z=>hne ?_) _ _
 exact sG (hS d (hd d List.mem_cons_self)) (hS e (he e List.mem_cons_self)) (wG z)
theorem nh(hS:∀d,d∈S→Sg w d)(hn:S.Nodup)(hk:dP w S):∀(ds es:List Nat),(∀x∈ds,x∈S)→(∀x∈es,x∈S)→ds.sum=es.sum→ds=es∨(rk S w.length ds<rk S w.length es∧aQ (aI (tx w ds)) (aI (tx w es))=true)∨rk S w.length es<rk S w.length ds
 | [],[],_,_,_=>.inl rfl
 | [],e::es,_,h,z=>by
   have:=(hS e (h e List.mem_cons_self)).1.1
   rw[List.sum_cons] at z;simp at z;lia
 | d::ds,[],h,_,z=>by
   have:=(hS d (h d List.mem_cons_self)).1.1
   rw[List.sum_cons] at z;simp at z;lia
 | d::ds,e::es,h1,h2,z=>by
   have hS1:∀d∈S,1≤d:=fun d hd=>(hS d hd).1.1
   by_cases q:d=e
   ·subst q
    rw[List.sum_cons,List.sum_cons] at z
    have z':ds.sum=es.sum:=by lia
    have hr:∀a b:List Nat,a.sum=b.sum→rk S w.length a<rk S w.length b→rk S w.length (d::a)<rk S w.length (d::b):=fun a b e l=>by
     rw[rk,rk,e];lia
    rcases nh hS hn hk ds es (fun x hx=>h1 x (List.mem_cons_of_mem _ hx)) (fun x hx=>h2 x (List.mem_cons_of_mem _ hx)) z' with r | ⟨r1,r2⟩ | r
    ·exact .inl (by rw[r])
    ·refine .inr (.inl ⟨hr _ _ z' r1,?_⟩)
     rw[tx,tx,fe,fe,nC];exact r2
    ·exact .inr (.inr (hr _ _ z'.symm r))
   ·rcases uy (h1 d List.mem_cons_self) (h2 e List.mem_cons_self) q with r | r
    ·exact .inr (.inl ⟨oj hS1 hn h1 h2 z r,xC hS hn hk h1 h2 r⟩)
    ·exact .inr (.inr (oj hS1 hn h2 h1 z.symm r))
theorem vv(hS:∀d,d∈S→Sg w d)(hn:S.Nodup)(hk:dP w S){ds es:List Nat}(h1:∀x∈ds,x∈S)(h2:∀x∈es,x∈S)(z:ds.sum=es.sum)(e:rk S w.length ds=rk S w.length es):ds=es:=by
 rcases nh hS hn hk ds es h1 h2 z with r | r | r
 ·exact r
 ·lia
 ·lia
end
theorem lies_oc{t u:List Nat}{p:Nat}:p∈aD t u↔Oc u t p:=by
 rw[oc_iff]
 unfold aD
 rw[List.mem_filter]
 simp only[List.mem_range,decide_eq_true_eq]
 constructor
 ·rintro⟨h1,h2⟩;exact⟨by lia,h2⟩
 ·rintro⟨h1,h2⟩;exact⟨by lia,h2⟩
theorem rj{t u:List Nat}(h:Cv u t):cq t.length u.length (aD t u)=t.length:=by
 refine jf (Nat.le_refl _) (fun i hi=>?_) (fun z=>absurd z (Nat.lt_irrefl _))
 rw[cov_true]
 have go:∀k p,Oc u t p→p≤i→i-p≤k→∃q∈aD t u,q≤i∧i<q+u.length:=by
  intro k
  induction k with
  | zero=>
    intro p hp h1 h2
    by_cases z:i<p+u.length
    ·exact⟨p,lies_oc.mpr hp,h1,z⟩
    ·obtain⟨q,q1,q2,q3⟩:=h.2 p hp (by lia)
     lia
  | succ k ih=>
    intro p hp h1 h2
    by_cases z:i<p+u.length
    ·exact⟨p,lies_oc.mpr hp,h1,z⟩
    ·obtain⟨q,q1,q2,q3⟩:=h.2 p hp (by lia)
     exact ih q q3 (by lia) (by lia)
 exact go i 0 h.1 (Nat.zero_le _) (by lia)
theorem nw:∀{a b:List Nat},a.Pairwise (·< ·)→b.Pairwise (·< ·)→(∀x,x∈a↔x∈b)→a=b
 | [],[],_,_,_=>rfl
 | [],y::b,_,_,h=>by have:=(h y).mpr List.mem_cons_self;cases this
 | x::a,[],_,_,h=>by have:=(h x).mp List.mem_cons_self;cases this
 | x::a,y::b,ha,hb,h=>by
   have ha':=List.pairwise_cons.mp ha
   have hb':=List.pairwise_cons.mp hb
   have e:x=y:=by
    rcases List.mem_cons.mp ((h x).mp List.mem_cons_self) with q | q
    ·exact q
    ·rcases List.mem_cons.mp ((h y).mpr List.mem_cons_self) with r | r
     ·exact r.symm
     ·have:=ha'.1 y r;have:=hb'.1 x q;lia
   subst e
   congr 1
   refine nw ha'.2 hb'.2 fun z=>?_
   have hz:=h z
   rw[List.mem_cons,List.mem_cons] at hz
   constructor
   ·intro q
    rcases hz.mp (.inr q) with r | r
    ·subst r;exact absurd (ha'.1 z q) (Nat.lt_irrefl _)
    ·exact r
   ·intro q
    rcases hz.mpr (.inr q) with r | r
    ·subst r;exact absurd (hb'.1 z q) (Nat.lt_irrefl _)
    ·exact r
theorem mW{u ds:List Nat}(h:∀d∈ds,Sg u d):aD (tx u ds) u=aY 0 ds:=
 nw (oR _ _) (qp fun d hd=>(h d hd).1.1) fun x=>by rw[lies_oc,fO h]
theorem mem_shifts{u:List Nat}{d:Nat}:d∈cQ u↔dj u d:=by
 unfold cQ dj
 rw[List.mem_filter,List.mem_map,decide_eq_true_eq]
 constructor
 ·rintro⟨⟨q,hq,rfl⟩,h⟩
  rw[List.mem_range] at hq
  exact⟨by lia,by lia,h⟩
 ·rintro⟨h1,h2,h3⟩
  exact⟨⟨d-1,by rw[List.mem_range];lia,by lia⟩,h3⟩
theorem qe{u:List Nat}{d:Nat}(h:dj u d):aD (u.take d++u) u=[0,d]↔Sg u d:=by
 have dl:(u.take d).length=d:=by rw[List.length_take];have:=h.2.1;lia
 constructor
 ·intro e
  refine⟨h,fun j j1 j2 hj=>?_⟩
  have:=lies_oc.mpr hj
  rw[e] at this
  simp at this;lia
 ·intro hs
  have:=mW (u:=u) (ds:=[d]) fun x hx=>by rw[List.mem_singleton.mp hx];exact hs
  rw[show tx u [d]=u.take d++u from rfl] at this
  rw[this];simp[aY]
def eE(u:List Nat):List Nat:=(cQ u).filter fun d=>decide (aD (u.take d++u) u=[0,d])
theorem mem_singles{u:List Nat}{d:Nat}:d∈eE u↔Sg u d:=by
 unfold eE
 rw[List.mem_filter,mem_shifts,decide_eq_true_eq]
 constructor
 ·rintro⟨h1,h2⟩;exact(qe h1).mp h2
 ·intro h;exact⟨h.1,(qe h.1).mpr h⟩
theorem yJ(u:List Nat):(eE u).Nodup:=by
 unfold eE cQ
 refine List.Pairwise.filter _ (List.Pairwise.filter _ ?_)
 rw[List.pairwise_map]
 exact List.Pairwise.imp (fun h=>by lia) List.nodup_range
structure Stp(u S:List Nat):Prop where
 perm:S.Perm (eE u)
 key:dP u S
theorem Stp.mem{u S:List Nat}(h:Stp u S){d:Nat}:d∈S↔Sg u d:=h.perm.mem_iff.trans mem_singles
theorem Stp.nodup{u S:List Nat}(h:Stp u S):S.Nodup:=h.perm.nodup_iff.mpr (yJ u)
theorem Stp.one{u S:List Nat}(h:Stp u S):∀d∈S,1≤d:=fun d hd=>(h.mem.mp hd).1.1
theorem Stp.len{u S:List Nat}(h:Stp u S):S.length≤u.length:=by
 rw[h.perm.length_eq]
 refine Nat.le_trans (List.length_filter_le _ _) ?_
 refine Nat.le_trans (List.length_filter_le _ _) ?_
 simp
def dD(u:List Nat)(n:Nat):Nat:=cn (eE u) u.length n
theorem Stp.cn{u S:List Nat}(h:Stp u S)(n:Nat):cn S u.length n=dD u n:=sS h.one h.perm n
theorem kc{α:Type}{l:List α}{j:Nat}{x:α}(h:l[j]?=some x):l.take (j+1)=l.take j++[x]:=by
 rw[List.take_add_one,h];rfl
theorem i6{k:Nat}{v:V}{j:Int}{σ:St}{H:Hp}{R:St→Hp→Prop}(e:v=.int j)(h:cA k (.int j) σ H R):cA k v σ H R:=by rw[e];exact h
theorem bL{te:TE}{i:Nat}{aq:TS}{D:Ends}{σ:St}{H:Hp}(h:te σ H fun x H1=>aq D (σ.set i (some x)) H1):cY (d8 te (cA i)) aq D σ H:=h
theorem kK{l:List Nat}{f:Nat→Bool}{i o:Nat}(h:l[i]?=some o):(l.take (i+1)).filter f=(l.take i).filter f++(if f o=true then [o] else []):=by
 rw[kc h,List.filter_append]
 congr 1
 by_cases hf:f o=true <;> simp[hf]
open PySem.Spec PyProof.Rows
structure FFC(K:PySem.W.Frag)(x:Str)(st:Stmt)(cc:Addr):Prop where
 ex:∃(f:Addr) (oc:Value) (od an:Option Addr) (osl:Array (Option Value)) (kV doc pm ct:Value),PySem.W.nsIn K mainGlobals x=some (some (.ref f))∧
  K.lookup f=some ⟨oc,od,.func (PySem.W.fnOf x x (cE st) (bw st) (au st) .none kV doc pm an (.ref cc) ct),osl⟩∧PySem.W.codeIn K (.ref cc) x=true∧PySem.W.keepIn K (.ref f)=true
theorem ffc_mk{K:PySem.W.Frag}{x:Str}{st:Stmt}{f cc:Addr}{oc:Value}{od an:Option Addr}{osl:Array (Option Value)}{kV doc pm ct:Value}(a:PySem.W.nsIn K mainGlobals x=some (some (.ref f)))(l:K.lookup f=some ⟨oc,od,.func (PySem.W.fnOf x x (cE st) (bw st) (au st) .none kV doc pm an (.ref cc) ct),osl⟩)(c:PySem.W.codeIn K (.ref cc) x=true)(k:PySem.W.keepIn K (.ref f)=true):FFC K x st cc:=⟨f,oc,od,an,osl,kV,doc,pm,ct,a,l,c,k⟩
theorem xj{P:Program}{w:World}{K:PySem.W.Frag}{mg:Str→Option Value}{base:Heap}{x:Str}{st:Stmt}{N ps:List Str}{k:Nat}{sp:Sp}{cc:Addr}(M:Md K mg)(F:FFC K x st cc)(S:FnScope N ps (au st))(hbind:∀(kV doc pm:Value) (an:Option Addr) (cdv ct:Value) (us:List Value),us.length=ps.length→bindArgs (PySem.W.fnOf x x (cE st) (bw st) (au st) .none kV doc pm an cdv ct) ⟨us,[]⟩=pure (ps.zip us))(len:∀vs H Q E,sp vs H Q E→vs.length=ps.length)(hbody:∀(f:Addr) (A:Around) (outer:List Env) (s:Shared) (H:Hp) (vs:List V) (Q:VK) (E:XK),Room k (A.deeper (envOfC x (au st) s.heap.objs.size f (.ref cc)))→sp vs H Q E→∃t,PSs (bY ae P w K mg base N x (au st) f (.ref cc) A outer s H E).nox (bw st) t∧t {nx:=fun _ H'=>Q .non H',rt:=Q} (cV N vs) H):Fn P w K mg base ae x (k+1) ps sp:=by
 obtain⟨f,oc,od,an,osl,kV,doc,pm,ct,a,l,c,kk⟩:=F.ex
 have F1:=iE (st:=st) l c kk
 refine⟨f,_,iP l c S len (fun A outer s H vs Q E hr h=>?_),M.ns _ _ a,kk,F1.binds hbind,oc,od,osl,l⟩
 obtain⟨t,h1,q⟩:=hbody f A outer s H vs Q E hr h
 exact⟨t,h1.nox,q⟩
abbrev fw:Stmt:=aJ 41
def vI:Pos:=⟨129,29,129,65⟩
abbrev vT:Str:=(envOfC "single_steps" (au fw) 0 0 .none).qual++"<lambda>"
abbrev lT:Scope:={kind:=.function,names:=[(PySem.Str.ofString "step",.local),(PySem.Str.ofString "word",.free),(PySem.Str.ofString "len",.globalImplicit)],isGenerator:=false,isCoroutine:=false,more:=[]}
theorem se:LamSc "word" "step" lT:=⟨rfl,rfl,rfl,by decide+kernel,by decide+kernel,by decide+kernel,by decide+kernel⟩
abbrev qP(K:PySem.W.Frag):TE:=fi (fA K) (bo 0) (fB (cf (dc fun i j=>.int (i-j)) (je K (bo 0)) (bo 1))) fF
abbrev TB(H:Hp)(pt:Addr):Prop:=Tab H pt vI vT
theorem TB.ne{H:Hp}{pt a:Addr}{xs:List V}(h:TB H pt)(ha:H a=some (.lst xs)):a≠pt:=fun z=>by
 rw[z] at ha
 rcases h with t | ⟨c,t,_⟩ <;> (rw[ha] at t;cases t)
def jQ(pt:Addr):Sp:=fun vs H Q _=>∃(a:Addr) (u:List Nat),vs=[.ref a]∧H a=some (.lst (u.map sg))∧Low u∧1≤u.length∧u.length≤62∧TB H pt∧
 ∀(r:Addr) (S:List Nat) (H':Hp),H r=none→H' r=some (.lst (am S))→Stp u S→Keep pt H H'→TB H' pt→Q (.ref r) H'
theorem wI{S0:List Nat}{ms:List Int}(h:ms.Perm (S0.map fun(k:Nat)=>(k:Int))):∃S:List Nat,S.Perm S0∧ms=S.map fun(k:Nat)=>(k:Int):=by
 refine⟨ms.map Int.toNat,?_,?_⟩
 ·have:=h.map Int.toNat
  rw[List.map_map] at this
  have e:S0.map (Int.toNat ∘ fun(k:Nat)=>(k:Int))=S0:=by
   conv=>rhs;rw[←List.map_id S0]
   exact List.map_congr_left fun x _=>by simp
  rw[e] at this
  exact this
 ·rw[List.map_map]
  conv=>lhs;rw[←List.map_id ms]
  refine List.map_congr_left fun x hx=>?_
  obtain⟨k,_,rfl⟩:=List.mem_map.mp (h.mem_iff.mp hx)
  simp
theorem wk{a b:List Nat}(h:(a.map fun(k:Nat)=>(k:Int))=b.map fun(k:Nat)=>(k:Int)):a=b:=by
 have:=congrArg (List.map Int.toNat) h
 rw[List.map_map,List.map_map] at this
 have e:∀l:List Nat,l.map (Int.toNat ∘ fun(k:Nat)=>(k:Int))=l:=fun l=>by
  conv=>rhs;rw[←List.map_id l]
  exact List.map_congr_left fun x _=>by simp
 rw[e,e] at this
 exact this
section
variable{P:Program}{w:World}{K:PySem.W.Frag}{mg:Str→Option Value}{base:Heap}
theorem scSingle:FnScope ["word","steps"] ["word"] (au fw):=fsc_
theorem vt{cc pt:Addr}(M:Md K mg)(B:Bl mg)(nsorted:mg "sorted"=none)(C:PySem.W.CodeHd base cc pt)(hB:cU mg base)(F:FFC K "single_steps" fw cc)(Fshifts:Fn P w K mg base ae "shifts" 5 ["word"] oZ)(Flies_at:Fn P w K mg base ae "lies_at" 4 ["text","word"] gq):Fn P w K mg base ae "single_steps" 6 ["word"] (jQ pt):=by
 refine xj M F scSingle (fun _ _ _ _ _ _=>bJ fun _=>rfl) (fun vs H Q E h=>?_) (fun f A outer s H vs Q E hr h=>?_)
 ·obtain⟨a,u,rfl,_⟩:=h;rfl
 ·obtain⟨a,u,rfl,ha,lu,u1,ul,T,k⟩:=h
  have hcl:∀cw,(bY ae P w K mg base ["word","steps"] "single_steps" (au fw) f (.ref cc) A outer s H E).nox.env.cells.lookup ("word":Str)=some cw→closureFor lT (bY ae P w K mg base ["word","steps"] "single_steps" (au fw) f (.ref cc) A outer s H E).nox.env=pure [(("word":Str),cw)]:=by
   intro cw e
   have e':some (s.heap.objs.size+1)=some cw:=e
   cases e'
   rfl
  refine⟨_,(ah (gT (i:=1) ["word","steps"] rfl scSingle.nd rfl (.inl rfl) (bK (ai Fshifts hr aj (aa (pv 0) ac))) (fun _=>by exact(cg (aM (u0 (by exact hr)) (ai Flies_at hr aj (aa (ak bZ (aP aO (pv 0) a6 (aH (pv 2))) (pv 0)) (aa (pv 0) ac))) (bI (aa af (aa (pv 2) ac))) (aF _)))) (fun _=>by exact(pv 2)))
   (al (aw (yF (iw:=0) (tb:=qP K) rfl nsorted hr rfl C hB se (by decide) rfl rfl hcl rfl (fun _ _ _ _ _ _=>rfl) (pv 1) (fun _ _ _ _ _ _ _=>(aP aO (pv 0) (aH (ak a7 (av B.len (pv 0)) (pv 1))) a6)))))),?_⟩
  have nap:=T.ne ha
  refine⟨_,rfl,a,u,rfl,ha,lu,u1,by lia,fun st H1 hst0 hst1 s1=>?_⟩
  refine⟨st,rfl,⟨_,SqL.of hst1⟩,fun D hD cb=>?_⟩
  have sl:=uF u
  refine c9 (K:=K) (a:=st) (xs:=am (cQ u)) (fun i ys H2=>ys=am (((cQ u).take i).filter fun d=>decide (aD (u.take d++u) u=[0,d]))∧Same H1 H2∧H2 D=some (.lst ys)) (by rw[aT];exact bi (by lia)) ?_ ?_ ?_ ?_ ?_
  ·exact⟨rfl,Same.upd hD,ad⟩
  ·rintro i ys H2 ⟨rfl,_⟩
   rw[aT]
   exact Nat.le_trans (List.length_filter_le _ _) (by rw[List.length_take];lia)
  ·rintro i ys H2 _ ⟨_,s2,_⟩;exact SqL.of (s2 _ _ hst1)
  ·rintro i x ys H2 hx ⟨rfl,s2,hD2⟩
   obtain⟨d,hd,rfl⟩:=dF hx
   obtain⟨d1,d2,d3⟩:=mem_shifts.mp (List.mem_of_getElem? hd)
   have ha2:=s2 _ _ (s1 _ _ ha)
   refine⟨_,rfl,_,rfl,_,rfl,a,_,rfl,SqL.of ha2,fun q1 hq1=>?_⟩
   have e1:bp (u.map sg) none (some (d:Int))=(u.take d).map sg:=by
    rw[bO,bE,fT _ _ (by lia),show((d:Nat):Int).toNat=d by lia]
   rw[e1]
   have s3:=Same.upd (o:=.lst ((u.take d).map sg)) hq1
   have hq3:=ad (H:=H2) (a:=q1) (o:=.lst ((u.take d).map sg))
   generalize L2.upd H2 q1 (.lst ((u.take d).map sg))=H3 at s3 hq3 ⊢
   refine⟨_,rfl,ce hq3 (s3 _ _ ha2) (by rw[List.length_take];lia) fun q2 hq2=>?_⟩
   have s4:=Same.upd (o:=.lst ((u.take d++u).map sg)) hq2
   have hq4:=ad (H:=H3) (a:=q2) (o:=.lst ((u.take d++u).map sg))
   generalize L2.upd H3 q2 (.lst ((u.take d++u).map sg))=H4 at s4 hq4 ⊢
   have s24:=s3.trans s4
   refine⟨_,rfl,q2,a,u.take d++u,u,rfl,hq4,s24 _ _ ha2,(lu.take _).app lu,lu,by rw[List.length_append,List.length_take];lia,by lia,u1,fun r5 H5 hr50 hr51 s5=>?_⟩
   refine⟨_,rfl,(by show 2≤sizeLine;decide),fun e0 he0=>?_⟩
   have s6:=Same.upd (o:=.lst [V.int 0,V.int (d:Int)]) he0
   have he6:=ad (H:=H5) (a:=e0) (o:=.lst [V.int 0,V.int (d:Int)])
   generalize L2.upd H5 e0 (.lst [V.int 0,V.int (d:Int)])=H6 at s6 he6 ⊢
   have s26:=s24.trans (s5.trans s6)
   refine⟨r5,e0,(aD (u.take d++u) u).map (fun(k:Nat)=>(k:Int)),[0,(d:Int)],rfl,rfl,SqL.of (s6 _ _ hr51),SqL.of he6,_,rfl,?_⟩
   have stp:=kK (f:=fun d=>decide (aD (u.take d++u) u=[0,d])) hd
   have hD6:=s26 _ _ hD2
   by_cases h1:aD (u.take d++u) u=[0,d]
   ·have h1':((aD (u.take d++u) u).map (fun(k:Nat)=>(k:Int))=[0,(d:Int)]):=by rw[h1];rfl
    rw[if_neg (by decide),decide_eq_true h1']
    refine bh ⟨_,rfl,hD6,?_,fun e o' z=>by rw[ao (aN z hD)];exact s26 _ _ (s2 _ _ z),ad⟩
    rw[stp,if_pos (by simpa using h1),cP]
   ·have h1':¬((aD (u.take d++u) u).map (fun(k:Nat)=>(k:Int))=[0,(d:Int)]):=fun z=>h1 (wk z)
    rw[if_neg (by decide),decide_eq_false h1']
    refine a9 ⟨?_,s2.trans s26,hD6⟩
    rw[stp,if_neg (by simpa using h1),List.append_nil]
  ·rintro ys H2 ⟨rfl,s2,hD2⟩
   rw[aT,List.take_length] at hD2
   have nD:H D=none:=s1.free hD
   have T2:TB H2 pt:=Tab.same (Tab.same T s1) s2
   refine⟨_,rfl,D,(eE u).map fun(k:Nat)=>(k:Int),.ref a,fun n=>bb u n.toNat,rfl,?_,?_,rfl,T2,fun n hn H3 k3=>?_,fun r ms H3 pm pw k3 tb hr0 hr1=>?_⟩
   ·exact hD2
   ·rw[List.length_map];exact Nat.le_trans (List.length_filter_le _ _) (by lia)
   ·obtain⟨d,hd,rfl⟩:=List.mem_map.mp hn
    have hdl:=(mem_singles.mp hd).1.2.1
    have ha2:=s2 _ _ (s1 _ _ ha)
    have ha3:=k3 _ _ ha2 nap
    refine⟨_,rfl,_,rfl,a,_,rfl,SqL.of ha3,_,rfl,_,_,rfl,rfl,_,rfl,a,_,rfl,SqL.of ha3,fun q1 hq1=>?_⟩
    have e1:bp (u.map sg) (some (((u.map sg).length:Nat)-(d:Int))) none=(bb u d).map sg:=by
     rw[List.length_map,show((u.length:Int)-(d:Int))=((u.length-d:Nat):Int) by lia,cR (by lia)];rfl
    rw[e1]
    exact⟨q1,rfl,ad,Same.upd hq1⟩
   ·obtain⟨S,pS,rfl⟩:=wI pm
    refine k r S H3 ((s1.trans s2).free hr0) hr1 ⟨pS,?_⟩ (fun c o h n=>k3 _ _ (s2 _ _ (s1 _ _ h)) n) (.inr tb)
    unfold dP
    rw[List.pairwise_map] at pw
    exact pw
end
end Ov
namespace Ov
open PySem L2
abbrev j6:Stmt:=aJ 42
def jX:Sp:=fun vs H Q _=>∃(a b:Addr) (u S:List Nat) (n:Nat),vs=[.ref a,.ref b,.int (n:Int)]∧H a=some (.lst (u.map sg))∧H b=some (.lst (am S))∧1≤u.length∧u.length≤62∧S.length≤400∧n≤300∧(∀d∈S,1≤d∧d≤u.length)∧
 ∀(r:Addr) (k:Nat) (H':Hp),H r=none→H' r=some (.lst (am (cl S u.length k)))→n<u.length+1+k→Same H H'→Q (.ref r) H'
theorem fW{l:List Nat}{j:Nat}(h:j<l.length):bA (am l) (j:Int)=some (.int ((l.getD j 0:Nat):Int)):=by
 refine bu ?_
 unfold am
 rw[List.map_map,List.getElem?_map,List.getD_eq_getElem?_getD]
 simp[h]
theorem lZ(l:List Nat):(l.map fun(k:Nat)=>(k:Int)).sum=((l.sum:Nat):Int):=by
 induction l with
 | nil=>rfl
 | cons x r ih=>rw[List.map_cons,List.sum_cons,ih,List.sum_cons];lia
theorem iW{l:List Nat}{f:Nat→Nat}{i o:Nat}(h:l[i]?=some o):(l.take (i+1)).map f=(l.take i).map f++[f o]:=by
 rw[kc h,List.map_append];rfl
section
variable{P:Program}{w:World}{K:PySem.W.Frag}{mg:Str→Option Value}{base:Heap}
theorem scCounts:FnScope ["word","steps","length","counts"] ["word","steps","length"] (au j6):=fsc_
theorem uT(M:Md K mg)(B:Bl mg)(F:FF K "counts_by_length" j6):Fn P w K mg base ae "counts_by_length" 1 ["word","steps","length"] jX:=by
 refine aK M F scCounts (fun _ _ _ _ _ _=>cN fun _ _ _=>rfl) (fun vs H Q E h=>?_) (fun f cdv A outer s H vs Q E hr h=>?_)
 ·obtain⟨a,b,u,S,n,rfl,_⟩:=h;rfl
 ·obtain⟨a,b,u,S,n,rfl,ha,hb,u1,ul,sl,nl,hS,k⟩:=h
  refine⟨_,(ah (ar (i:=3) scCounts.nd rfl (.inr rfl) (ak bZ (bP ["word","steps","length","counts"] rfl (bK (pv 0)) (fun _=>by exact d5) (fun _=>by exact af)) (bI (aa af ac))))
   (ah (gr PassesOwn.never (aM ir (av B.len (pv 3)) (pv 2) (aF _)) (al (bc (fk PySem.F.plainAttrs_list PySem.F.slot_list_append PySem.F.type_list_append iN (pv 3) (aa (qo rfl B.sum (bP ["word","steps","length","counts"] rfl (bK (pv 1)) (fun _=>by exact d5) (fun _=>by exact(aR aZ (pv 3) (ak a7 (av B.len (pv 3)) (pv 4)) (fun _ _=>rfl))))) ac)))))
   (al (aw (pv 3))))),?_⟩
  refine⟨_,rfl,a,rfl,⟨_,SqL.of ha⟩,fun D hD cb=>?_⟩
  refine c9 (K:=K) (a:=a) (xs:=u.map sg) (fun i ys H2=>ys=am (List.replicate i 0)∧Same H H2∧H2 D=some (.lst ys)) (by rw[List.length_map];exact bi (by lia)) ?_ ?_ ?_ ?_ ?_
  ·exact⟨rfl,Same.upd hD,ad⟩
  ·rintro i ys H2 ⟨rfl,_⟩
   rw[aT,List.length_replicate];exact Nat.le_refl _
  ·rintro i ys H2 _ ⟨_,s2,_⟩;exact SqL.of (s2 _ _ ha)
  ·rintro i x ys H2 hx ⟨rfl,s2,hD2⟩
   refine dW ⟨hD2,?_,fun e o' z=>by rw[ao (aN z hD)];exact s2 _ _ z,ad⟩
   rw[List.replicate_succ',cP];rfl
  ·rintro ys H2 ⟨rfl,s2,hD2⟩
   rw[List.length_map] at hD2
   refine⟨(by show 1≤sizeLine;decide),fun e0 he0=>?_⟩
   have s3:=Same.upd (o:=.lst [V.int 1]) he0
   have he3:=ad (H:=H2) (a:=e0) (o:=.lst [V.int 1])
   generalize L2.upd H2 e0 (.lst [V.int 1])=H3 at s3 he3 ⊢
   refine⟨D,e0,_,_,rfl,rfl,s3 _ _ hD2,he3,by rw[aT,List.length_replicate];exact Nat.le_of_lt (bi (by show u.length+1≤1000;lia)),fun c hc=>?_⟩
   have e4:am (List.replicate u.length 0)++[V.int 1]=am (cl S u.length 0):=by rw[cl,cP];rfl
   rw[e4]
   have s4:=Same.upd (o:=.lst (am (cl S u.length 0))) hc
   have hc4:=ad (H:=H3) (a:=c) (o:=.lst (am (cl S u.length 0)))
   have cn:H c=none:=(s2.trans s3).free hc
   generalize L2.upd H3 c (.lst (am (cl S u.length 0)))=H4 at s4 hc4 ⊢
   have s04:=s2.trans (s3.trans s4)
   refine⟨fun m σ H5=>∃k:Nat,m+k=n+1∧σ=[some (.ref a),some (.ref b),some (.int (n:Int)),some (.ref c)]∧H5 c=some (.lst (am (cl S u.length k)))∧Same H H5,⟨n+1,0,rfl,rfl,hc4,s04⟩,?_⟩
   rintro m σ H5 ⟨k0,mk,rfl,hc5,s5⟩
   refine⟨_,rfl,c,_,rfl,SqL.of hc5,_,rfl,_,_,rfl,rfl,_,rfl,?_⟩
   rw[aT,dB]
   refine bf (fun hcd=>?_) (fun hcd=>?_)
   ·have hcd':u.length+1+k0≤n:=by have:=of_decide_eq_true hcd;lia
    have cll:=dB S u.length k0
    refine⟨fun σ' H'=>∃m',m'<m∧∃k:Nat,m'+k=n+1∧σ'=[some (.ref a),some (.ref b),some (.int (n:Int)),some (.ref c)]∧H' c=some (.lst (am (cl S u.length k)))∧Same H H',fun _ _ h=>h,?_⟩
    have hb5:=s5 _ _ hb
    refine⟨_,rfl,.inl ⟨rfl,_,SqL.of hc5⟩,_,rfl,b,rfl,⟨_,SqL.of hb5⟩,fun G hG cb2=>?_⟩
    refine c9 (K:=K) (a:=b) (xs:=am S) (fun i ys H6=>ys=am ((S.take i).map fun d=>(cl S u.length k0).getD ((cl S u.length k0).length-d) 0)∧Same H5 H6∧H6 G=some (.lst ys)) (by rw[aT];exact bi (by lia)) ?_ ?_ ?_ ?_ ?_
    ·exact⟨rfl,Same.upd hG,ad⟩
    ·rintro i ys H6 ⟨rfl,_⟩
     rw[aT,List.length_map,List.length_take];lia
    ·rintro i ys H6 _ ⟨_,s6,_⟩;exact SqL.of (s6 _ _ hb5)
    ·rintro i x ys H6 hx ⟨rfl,s6,hG6⟩
     obtain⟨d,hd,rfl⟩:=dF hx
     obtain⟨d1,d2⟩:=hS d (List.mem_of_getElem? hd)
     have hc6:=s6 _ _ hc5
     have hat:bA (am (cl S u.length k0)) (((am (cl S u.length k0)).length:Int)-(d:Int))=some (.int (((cl S u.length k0).getD ((cl S u.length k0).length-d) 0:Nat):Int)):=by
      rw[aT,show(((cl S u.length k0).length:Int)-(d:Int))=(((cl S u.length k0).length-d:Nat):Int) by lia]
      exact fW (by lia)
     refine dW ⟨_,rfl,_,rfl,c,_,rfl,SqL.of hc6,_,rfl,_,_,rfl,rfl,c,_,_,_,rfl,rfl,SqL.of hc6,hat,hG6,?_,fun e o' z=>by rw[ao (aN z hG)];exact s6 _ _ z,ad⟩
     rw[iW hd,cP]
    ·rintro ys H6 ⟨rfl,s6,hG6⟩
     rw[aT,List.take_length] at hG6
     refine⟨G,_,rfl,hG6,c,_,_,rfl,rfl,s6 _ _ hc5,by rw[aT,cll];exact bi (by lia),m-1,by lia,k0+1,by lia,rfl,?_,?_⟩
     ·rw[ad,lZ,cl,cP]
     ·intro e o' z
      rw[ao (aN z cn)]
      exact s6 _ _ (s5 _ _ z)
   ·have hcd':¬(((u.length+1+k0:Nat):Int)≤(n:Int)):=fun z=>hcd (decide_eq_true z)
    exact⟨_,rfl,k c k0 H5 cn hc5 (by lia) s5⟩
end
abbrev jd:Stmt:=aJ 15
def ql:Sp:=fun vs H Q _=>∃a lo hi:Int,vs=[.int a,.int lo,.int hi]∧lo≤a∧a≤hi∧Q .non H
section
variable{P:Program}{w:World}{K:PySem.W.Frag}{mg:Str→Option Value}{base:Heap}
theorem xW:FnScope ["number","least","most"] ["number","least","most"] (au jd):=fsc_
theorem wf(M:Md K mg)(B:Bl mg)(F:FF K "check_within" jd):Fn P w K mg base ae "check_within" 1 ["number","least","most"] ql:=by
 refine aK M F xW (fun _ _ _ _ _ _=>cN fun _ _ _=>rfl) (fun vs H Q E h=>?_) (fun f cdv A outer s H vs Q E hr h=>?_)
 ·obtain⟨a,lo,hi,rfl,_⟩:=h;rfl
 ·obtain⟨a,lo,hi,rfl,h1,h2,k⟩:=h
  refine⟨_,(al (aV (cO (u3 ir ir (pv 1) (pv 0) (pv 2))) (al fD) aU)),?_⟩
  refine⟨_,rfl,_,rfl,_,_,rfl,rfl,_,rfl,?_⟩
  rw[decide_eq_true h1]
  refine bh ⟨_,rfl,_,_,rfl,rfl,_,rfl,?_⟩
  rw[decide_eq_true h2]
  exact a9 k
end
abbrev jI:Stmt:=aJ 44
def lh:Sp:=fun vs H Q _=>∃(b c:Addr) (S C:List Nat) (aq num:Nat),vs=[.ref b,.ref c,.int (aq:Int),.int (num:Int)]∧H b=some (.lst (am S))∧H c=some (.lst (am C))∧(∀d∈S,d≤aq∧aq-d<C.length)∧num<(S.map fun d=>C.getD (aq-d) 0).sum∧
 ∀(r:Addr) (p q:List Nat) (d left:Nat) (H':Hp),H r=none→S=p++d::q→num=(p.map fun d=>C.getD (aq-d) 0).sum+left→left<C.getD (aq-d) 0→H' r=some (.tup [.int (d:Int),.int (left:Int)])→Same H H'→Q (.ref r) H'
theorem rd{S:List Nat}{g:Nat→Nat}{i d:Nat}(h:S[i]?=some d):((S.take (i+1)).map g).sum=((S.take i).map g).sum+g d:=by
 rw[iW h,List.sum_append,List.sum_cons];simp
section
variable{P:Program}{w:World}{K:PySem.W.Frag}{mg:Str→Option Value}{base:Heap}
theorem scNext:FnScope ["steps","counts","rest","number","at","left"] ["steps","counts","rest","number"] (au jI):=fsc_
theorem yN(M:Md K mg)(B:Bl mg)(F:FF K "next_step" jI):Fn P w K mg base ae "next_step" 1 ["steps","counts","rest","number"] lh:=by
 refine aK M F scNext (fun _ _ _ _ _ _=>jn fun _ _ _ _=>rfl) (fun vs H Q E h=>?_) (fun f cdv A outer s H vs Q E hr h=>?_)
 ·obtain⟨b,c,S,C,aq,num,rfl,_⟩:=h;rfl
 ·obtain⟨b,c,S,C,aq,num,rfl,hb,hc,hS,hlt,k⟩:=h
  refine⟨_,(ah (ar (i:=4) scNext.nd rfl (.inl rfl) af)
   (ah (ar (i:=5) scNext.nd rfl (.inl rfl) (pv 3))
   (ah (gr PassesOwn.never (aM kP (pv 5) (aR aZ (pv 1) (ak a7 (pv 2) (aR aZ (pv 0) (pv 4) (fun _ _=>rfl))) (fun _ _=>rfl)) (aF _)) (ah (kq (i:=5) scNext.nd rfl (.inl rfl) (aR aZ (pv 1) (ak a7 (pv 2) (aR aZ (pv 0) (pv 4) (fun _ _=>rfl))) (fun _ _=>rfl)) sx)
   (al (kq (i:=4) scNext.nd rfl (.inl rfl) af oh))))
   (al (aw (fY (aa (aR aZ (pv 0) (pv 4) (fun _ _=>rfl)) (aa (pv 5) ac)))))))),?_⟩
  have S0:0<S.length:=by
   cases S with
   | nil=>simp at hlt
   | cons _ _=>simp
  refine⟨_,rfl,fun m σ H5=>∃(i left:Nat),m+i=S.length∧i<S.length∧σ=[some (.ref b),some (.ref c),some (.int (aq:Int)),some (.int (num:Int)),some (.int (i:Int)),some (.int (left:Int))]∧num=((S.take i).map fun d=>C.getD (aq-d) 0).sum+left∧H5=H,⟨S.length,0,num,rfl,S0,rfl,by simp,rfl⟩,?_⟩
  rintro m σ H5 ⟨i,left,mi,iS,rfl,hn,rfl⟩
  obtain⟨d,hd⟩:∃d,S[i]?=some d:=⟨S[i],by simp[iS]⟩
  obtain⟨d1,d2⟩:=hS d (List.mem_of_getElem? hd)
  have hat1:bA (am S) (i:Int)=some (.int (d:Int)):=by
   rw[fW iS,List.getD_eq_getElem?_getD,hd];rfl
  have hat2:bA (am C) ((aq:Int)-(d:Int))=some (.int ((C.getD (aq-d) 0:Nat):Int)):=by
   rw[show((aq:Int)-(d:Int))=((aq-d:Nat):Int) by lia];exact fW d2
  have ts:=rd (g:=fun d=>C.getD (aq-d) 0) hd
  refine⟨_,rfl,_,rfl,_,rfl,_,rfl,_,rfl,b,_,_,_,rfl,rfl,SqL.of hb,hat1,_,_,rfl,rfl,c,_,_,_,rfl,rfl,SqL.of hc,hat2,_,_,rfl,rfl,_,rfl,?_⟩
  refine bf (fun hcd=>?_) (fun hcd=>?_)
  ·have hge:C.getD (aq-d) 0≤left:=by have:=of_decide_eq_true hcd;lia
   have hi:i+1<S.length:=by
    by_cases z:i+1<S.length
    ·exact z
    ·exfalso
     rw[List.take_of_length_le (by lia)] at ts
     lia
   refine⟨fun σ' H'=>∃m',m'<m∧∃(i left:Nat),m'+i=S.length∧i<S.length∧σ'=[some (.ref b),some (.ref c),some (.int (aq:Int)),some (.int (num:Int)),some (.int (i:Int)),some (.int (left:Int))]∧num=((S.take i).map fun d=>C.getD (aq-d) 0).sum+left∧H'=H5,fun _ _ h=>h,?_⟩
   refine⟨_,rfl,_,rfl,_,rfl,_,rfl,_,rfl,b,_,_,_,rfl,rfl,SqL.of hb,hat1,_,_,rfl,rfl,c,_,_,_,rfl,rfl,SqL.of hc,hat2,_,_,rfl,rfl,?_⟩
   refine⟨_,rfl,_,_,rfl,rfl,?_⟩
   have e1:((left:Int)-((C.getD (aq-d) 0:Nat):Int))=((left-C.getD (aq-d) 0:Nat):Int):=by lia
   exact⟨m-1,by lia,i+1,left-C.getD (aq-d) 0,by lia,hi,by rw[←e1];rfl,by lia,rfl⟩
  ·have hlt2:left<C.getD (aq-d) 0:=by
    have:¬((left:Int)≥((C.getD (aq-d) 0:Nat):Int)):=fun z=>hcd (decide_eq_true z)
    lia
   refine⟨_,rfl,_,rfl,b,_,_,_,rfl,rfl,SqL.of hb,hat1,_,rfl,(by show 2≤sizeLine;decide),fun r hr0=>?_⟩
   have sp:=List.take_append_drop i S
   have dr:S.drop i=d::S.drop (i+1):=by
    rw[List.drop_eq_getElem_cons iS]
    congr 1
    have:=List.getElem?_eq_getElem iS
    rw[this] at hd
    exact Option.some.inj hd
   exact k r (S.take i) (S.drop (i+1)) d left _ hr0 (by rw[←dr,sp]) hn hlt2 ad (Same.upd hr0)
end
theorem Stp.le{u S:List Nat}(h:Stp u S):∀d∈S,1≤d∧d≤u.length:=fun d hd=>⟨(h.mem.mp hd).1.1,(h.mem.mp hd).1.2.1⟩
theorem yV{u S:List Nat}(h:Stp u S){k n:Nat}(hn:n<u.length+1+k):bA (am (cl S u.length k)) (n:Int)=some (.int ((dD u n:Nat):Int)):=by
 rw[fW (by rw[dB];exact hn),cX hn,h.cn]
abbrev i4:Stmt:=aJ 45
def nJ(pt:Addr):Sp:=fun vs H Q _=>∃(b:Addr) (u:List Nat) (n x:Nat),vs=[.ref b,.int (n:Int),.int (x:Int)]∧H b=some (.lst (u.map sg))∧Low u∧1≤u.length∧u.length≤62∧1≤n∧n≤200∧x<dD u n∧TB H pt∧
 ∀(r:Addr) (S ds:List Nat) (H':Hp),H r=none→Stp u S→(∀d∈ds,d∈S)→u.length+ds.sum=n→rk S u.length ds=x→H' r=some (.lst ((tx u ds).map sg))→Keep pt H H'→TB H' pt→Q (.ref r) H'
section
variable{P:Program}{w:World}{K:PySem.W.Frag}{mg:Str→Option Value}{base:Heap}
theorem scTextAt:FnScope ["word","length","number","steps","counts","text","left","rest","step"] ["word","length","number"] (au i4):=fsc_
theorem tz{pt:Addr}(M:Md K mg)(B:Bl mg){uM:Value}(gMOST_LENGTH:mg "MOST_LENGTH"=some uM)(rMOST_LENGTH:RelV (.int 200) uM)(F:FF K "text_at" i4)(Fcheck_word:Fn P w K mg base ae "check_word" 3 ["word"] gd)(Fcheck_within:Fn P w K mg base ae "check_within" 1 ["number","least","most"] ql)(Fsingle_steps:Fn P w K mg base ae "single_steps" 6 ["word"] (jQ pt))(Fcounts_by_length:Fn P w K mg base ae "counts_by_length" 1 ["word","steps","length"] jX)(Fnext_step:Fn P w K mg base ae "next_step" 1 ["steps","counts","rest","number"] lh):Fn P w K mg base ae "text_at" 7 ["word","length","number"] (nJ pt):=by
 refine aK M F scTextAt (fun _ _ _ _ _ _=>cN fun _ _ _=>rfl) (fun vs H Q E h=>?_) (fun f cdv A outer s H vs Q E hr h=>?_)
 ·obtain⟨b,u,n,x,rfl,_⟩:=h;rfl
 ·obtain⟨b,u,n,x,rfl,hb,lu,u1,ul,n1,n2,hx,T,k⟩:=h
  refine⟨_,(ah (bc (ai Fcheck_word hr aj (aa (pv 0) ac)))
   (ah (bc (ai Fcheck_within hr aj (aa (pv 1) (aa af (aa (mS (v:=.int 200) (by rfl) gMOST_LENGTH rMOST_LENGTH) ac)))))
   (ah (ar (i:=3) scTextAt.nd rfl (.inl rfl) (ai Fsingle_steps hr aj (aa (pv 0) ac)))
   (ah (ar (i:=4) scTextAt.nd rfl (.inl rfl) (ai Fcounts_by_length hr aj (aa (pv 0) (aa (pv 3) (aa (pv 1) ac)))))
   (ah (bc (ai Fcheck_within hr aj (aa (pv 2) (aa af (aa (ak a7 (aR aZ (pv 4) (pv 1) (fun _ _=>rfl)) af) ac)))))
   (ah (ar (i:=5) scTextAt.nd rfl (.inl rfl) (iJ B.list (pv 0)))
   (ah (ar (i:=6) scTextAt.nd rfl (.inl rfl) (pv 2))
   (ah (gr PassesOwn.never (aM gg (av B.len (pv 5)) (pv 1) (aF _)) (ah (ar (i:=7) scTextAt.nd rfl (.inl rfl) (ak aW (ak a7 (pv 1) (av B.len (pv 5))) (av B.len (pv 0))))
   (ah (fJ (ai Fnext_step hr aj (aa (pv 3) (aa (pv 4) (aa (pv 7) (aa (pv 6) ac))))) (eV rfl (cF (bq (i:=8) scTextAt.nd rfl (.inl rfl)) (cF (bq (i:=6) scTextAt.nd rfl (.inl rfl)) fc))))
   (al (bc (fk PySem.F.plainAttrs_list PySem.F.slot_list_extend PySem.F.type_list_extend zx (pv 5) (aa (aP aO (pv 0) (aH (ak a7 (av B.len (pv 0)) (pv 8))) a6) ac)))))))
   (al (aw (pv 5))))))))))),?_⟩
  have nbp:=T.ne hb
  refine⟨_,rfl,b,u,rfl,hb,lu,u1,?_⟩
  refine⟨_,rfl,_,_,_,rfl,by lia,by lia,?_⟩
  refine⟨_,rfl,b,u,rfl,hb,lu,u1,ul,T,fun r S H1 hr0 hr1 st k1 T1=>?_⟩
  refine⟨_,rfl,_,rfl,_,rfl,b,r,u,S,n,rfl,k1 _ _ hb nbp,hr1,u1,ul,by have:=st.len;lia,by lia,st.le,fun c kk H2 hc0 hc2 hn s2=>?_⟩
  refine⟨_,rfl,_,rfl,_,rfl,c,_,_,_,rfl,rfl,SqL.of hc2,yV st hn,_,_,rfl,rfl,_,_,_,rfl,by lia,by lia,?_⟩
  have k2:Keep pt H H2:=fun e o h n=>s2 _ _ (k1 _ _ h n)
  have hb2:=k2 _ _ hb nbp
  have T2:=T1.same s2
  refine⟨_,rfl,b,_,rfl,SqL.of hb2,fun tq htq=>?_⟩
  have s3:=Same.upd (o:=.lst (u.map sg)) htq
  have htq3:=ad (H:=H2) (a:=tq) (o:=.lst (u.map sg))
  generalize L2.upd H2 tq (.lst (u.map sg))=H3 at s3 htq3 ⊢
  have tqn:H tq=none:=by
   cases e:H tq with
   | none=>rfl
   | some o=>
     exfalso
     by_cases z:tq=pt
     ·subst z
      rcases T2 with t | ⟨_,t,_⟩ <;> (rw[htq] at t;cases t)
     ·have:=k2 _ _ e z
      rw[htq] at this;cases this
  have hle:u.length≤n:=by
   by_cases z:n<u.length
   ·unfold dD at hx
    rw[gC z] at hx;lia
   ·lia
  have Sg':∀d∈S,Sg u d:=fun d hd=>st.mem.mp hd
  refine⟨_,rfl,fun m σ H5=>∃(ds:List Nat) (left:Nat) (v7 v8:Option V),m+(u.length+ds.sum)=n∧σ=[some (.ref b),some (.int (n:Int)),some (.int (x:Int)),some (.ref r),some (.ref c),some (.ref tq),some (.int (left:Int)),v7,v8]∧H5 tq=some (.lst ((tx u ds).map sg))∧(∀d∈ds,d∈S)∧left<dD u (n-ds.sum)∧(∀es,(∀d∈es,d∈S)→u.length+ds.sum+es.sum=n→rk S u.length (ds++es)+left=rk S u.length es+x)∧Same H2 H5,⟨n-u.length,[],x,none,none,by simp;lia,rfl,htq3,by simp,by simpa using hx,fun es _ _=>rfl,s3⟩,?_⟩
  rintro m σ H5 ⟨ds,left,v7,v8,mn,rfl,htq5,hds,hlt,hrk,s5⟩
  have txl:(tx u ds).length=u.length+ds.sum:=gi fun d hd=>(Sg' d (hds d hd)).1.2.1
  refine⟨_,rfl,tq,_,rfl,SqL.of htq5,_,rfl,_,_,rfl,rfl,_,rfl,?_⟩
  rw[List.length_map,txl]
  refine bf (fun hcd=>?_) (fun hcd=>?_)
  ·have hcd':u.length+ds.sum<n:=by have:=of_decide_eq_true hcd;lia
   refine⟨fun σ' H'=>∃m',m'<m∧∃(ds:List Nat) (left:Nat) (v7 v8:Option V),m'+(u.length+ds.sum)=n∧σ'=[some (.ref b),some (.int (n:Int)),some (.int (x:Int)),some (.ref r),some (.ref c),some (.ref tq),some (.int (left:Int)),v7,v8]∧H' tq=some (.lst ((tx u ds).map sg))∧(∀d∈ds,d∈S)∧left<dD u (n-ds.sum)∧(∀es,(∀d∈es,d∈S)→u.length+ds.sum+es.sum=n→rk S u.length (ds++es)+left=rk S u.length es+x)∧Same H2 H',fun _ _ h=>h,?_⟩
   have hb5:=s5 _ _ hb2
   refine⟨_,rfl,_,rfl,tq,_,rfl,SqL.of htq5,_,_,rfl,rfl,_,rfl,b,_,rfl,SqL.of hb5,_,_,rfl,rfl,?_⟩
   refine i6 (j:=((n-ds.sum:Nat):Int)) (congrArg V.int (by rw[List.length_map,List.length_map,txl];lia)) ?_
   have hsum:dD u (n-ds.sum)=(S.map fun d=>(cl S u.length kk).getD (n-ds.sum-d) 0).sum:=by
    rw[←st.cn,hV st.one (by lia)]
    exact ga fun d hd=>(cX (by lia)).symm
   refine⟨_,rfl,_,rfl,_,rfl,_,rfl,r,c,S,cl S u.length kk,n-ds.sum,left,rfl,s5 _ _ (s2 _ _ hr1),s5 _ _ hc2,fun d hd=>⟨by have:=(st.le d hd).2;lia,by rw[dB];lia⟩,by rw[←hsum];exact hlt,fun r2 p q d left' H6 hr20 eS en lt' h6 s6=>?_⟩
   have dS:d∈S:=by rw[eS];simp
   have dl:=(st.le d dS)
   refine⟨r2,_,rfl,SqT.of h6,rfl,_,_,rfl,_,_,rfl,rfl,?_⟩
   have hb6:=s6 _ _ hb5
   have htq6:=s6 _ _ htq5
   refine⟨_,rfl,.inl ⟨rfl,_,SqL.of htq6⟩,_,rfl,_,rfl,b,_,rfl,SqL.of hb6,_,rfl,_,_,rfl,rfl,_,rfl,b,_,rfl,SqL.of hb6,fun q1 hq1=>?_⟩
   have e1:bp (u.map sg) (some (((u.map sg).length:Nat)-(d:Int))) none=(bb u d).map sg:=by
    rw[List.length_map,show((u.length:Int)-(d:Int))=((u.length-d:Nat):Int) by lia,cR (by lia)];rfl
   rw[e1]
   have s7:=Same.upd (o:=.lst ((bb u d).map sg)) hq1
   have hq7:=ad (H:=H6) (a:=q1) (o:=.lst ((bb u d).map sg))
   generalize L2.upd H6 q1 (.lst ((bb u d).map sg))=H7 at s7 hq7 ⊢
   have kl:=fM dl.2
   have pd:pre S d=p:=iR st.nodup eS
   have hd1:=dl.1
   have hdn:d≤m:=by
    by_cases z:d≤m
    ·exact z
    ·rw[cX (by lia),gC (by lia)] at lt';lia
   refine⟨tq,q1,_,_,rfl,rfl,s7 _ _ htq6,hq7,by rw[List.length_map,List.length_map,txl,kl];exact Nat.le_of_lt (bi (by lia)),m-d,by lia,ds++[d],left',_,_,by rw[List.sum_append];simp;lia,rfl,?_,?_,?_,?_,?_⟩
   ·rw[ad,on (Sg' d dS).1,List.map_append]
   ·intro y hy
    rcases List.mem_append.mp hy with hy | hy
    ·exact hds y hy
    ·rw[List.mem_singleton.mp hy];exact dS
   ·rw[List.sum_append,←st.cn,←cX (k:=kk) (by simp;lia)]
    simp only[List.sum_cons,List.sum_nil,Nat.add_zero,←Nat.sub_sub]
    exact lt'
   ·intro es hes hs
    rw[List.sum_append] at hs
    simp only[List.sum_cons,List.sum_nil,Nat.add_zero] at hs
    have h1:=hrk (d::es) (fun y hy=>(List.mem_cons.mp hy).elim (fun z=>z▸dS) (hes y)) (by rw[List.sum_cons];lia)
    rw[rk,pd,show u.length+(d+es.sum)=n-ds.sum by lia] at h1
    have h2:(p.map fun s=>cn S u.length (n-ds.sum-s)).sum=(p.map fun d=>(cl S u.length kk).getD (n-ds.sum-d) 0).sum:=ga fun y _=>(cX (by lia)).symm
    rw[h2] at h1
    rw[List.append_assoc,List.singleton_append]
    lia
   ·intro e o z
    rw[ao (aN z htq)]
    exact s7 _ _ (s6 _ _ (s5 _ _ z))
  ·have hcd':¬(((u.length+ds.sum:Nat):Int)<(n:Int)):=fun z=>hcd (decide_eq_true z)
   have hnd:u.length+ds.sum=n:=by lia
   have hl0:left=0:=by
    rw[show n-ds.sum=u.length by lia] at hlt
    unfold dD at hlt
    rw[gH] at hlt;lia
   have hr:=hrk [] (by simp) (by simpa using hnd)
   rw[List.append_nil,hl0] at hr
   exact⟨_,rfl,k tq S ds H5 tqn st hds hnd (by simpa [rk] using hr) htq5 (fun e o h n=>s5 _ _ (k2 _ _ h n)) (T2.same s5)⟩
end
theorem sP{l:List Nat}{n:Nat}:bp (am l) none (some (n:Int))=am (l.take n):=by
 unfold am
 rw[bO,bE,bE,fT _ _ (by lia),Int.toNat_natCast]
theorem vJ{l:List Nat}{n:Nat}:bp (am l) (some (n:Int)) none=am (l.drop n):=by
 unfold am
 rw[bO,bE,bE,iH _ _ (by lia),Int.toNat_natCast]
abbrev kN:Stmt:=aJ 43
def nB(pt:Addr):Sp:=fun vs H Q _=>∃(b a:Addr) (u ds:List Nat),vs=[.ref b,.ref a]∧H b=some (.lst (u.map sg))∧H a=some (.lst ((tx u ds).map sg))∧Low u∧Low (tx u ds)∧1≤u.length∧u.length≤62∧(tx u ds).length≤200∧(∀d∈ds,Sg u d)∧TB H pt∧
 ∀(S:List Nat) (H':Hp),Stp u S→Keep pt H H'→TB H' pt→Q (.int ((rk S u.length ds:Nat):Int)) H'
theorem md:∀{ds:List Nat} {p i:Nat},i≤ds.length→(aY p ds)[i]?=some (p+(ds.take i).sum)
 | [],p,i,h=>by
   have:i=0:=by simpa using h
   subst this;simp[aY]
 | d::ds,p,0,_=>by simp[aY]
 | d::ds,p,i+1,h=>by
   rw[aY,List.getElem?_cons_succ,md (by simpa using h),List.take_succ_cons,List.sum_cons,Nat.add_assoc]
theorem mM:∀{ds:List Nat} {p:Nat},(aY p ds).length=ds.length+1
 | [],_=>rfl
 | d::ds,p=>by rw[aY,List.length_cons,mM,List.length_cons]
theorem uK{S:List Nat}{d j:Nat}(hn:S.Nodup)(h:S[j]?=some d):S.take j=pre S d:=by
 have hj:=(List.getElem?_eq_some_iff.mp h).1
 refine(iR hn (q:=S.drop (j+1)) ?_).symm
 have e:=List.take_append_drop j S
 have dr:S.drop j=d::S.drop (j+1):=by
  rw[List.drop_eq_getElem_cons hj]
  congr 1
  rw[List.getElem?_eq_getElem hj] at h
  exact Option.some.inj h
 rw[←dr,e]
theorem w5{S:List Nat}{d:Nat}(h:d∈S):∃j:Nat,S[j]?=some d∧∀i:Nat,i<j→S[i]?≠some d:=by
 obtain⟨j0,hj0⟩:=List.mem_iff_getElem?.mp h
 obtain⟨j,h1,_,h2⟩:=nq (P:=fun j=>S[j]?=some d) j0 hj0
 exact⟨j,h1,h2⟩
theorem cast_at{S:List Nat}{j d:Nat}:(S.map fun(k:Nat)=>(k:Int))[j]?=some (d:Int)↔S[j]?=some d:=by
 rw[List.getElem?_map]
 cases S[j]? with
 | none=>simp
 | some x=>
   constructor
   ·intro z
    have:((x:Nat):Int)=(d:Int):=Option.some.inj z
    rw[show x=d by lia]
   ·intro z;rw[Option.some.inj z];rfl
section
variable{P:Program}{w:World}{K:PySem.W.Frag}{mg:Str→Option Value}{base:Heap}
theorem scNum:FnScope ["word","text","kind","places","steps","counts","number","before","behind","rest"] ["word","text"] (au kN):=fsc_
theorem qC{pt:Addr}(M:Md K mg)(B:Bl mg)(F:FF K "number_of" kN)(Fcovered:Fn P w K mg base ae "covered" 5 ["text","word"] d9)(Fsingle_steps:Fn P w K mg base ae "single_steps" 6 ["word"] (jQ pt))(Fcounts_by_length:Fn P w K mg base ae "counts_by_length" 1 ["word","steps","length"] jX):Fn P w K mg base ae "number_of" 7 ["word","text"] (nB pt):=by
 refine aK M F scNum (fun _ _ _ _ _ _=>bC fun _ _=>rfl) (fun vs H Q E h=>?_) (fun f cdv A outer s H vs Q E hr h=>?_)
 ·obtain⟨b,a,u,ds,rfl,_⟩:=h;rfl
 ·obtain⟨b,a,u,ds,rfl,hb,ha,lu,lt,u1,ul,tl,hds,T,k⟩:=h
  refine⟨_,(ah (fJ (ai Fcovered hr aj (aa (pv 1) (aa (pv 0) ac))) (eV rfl (cF (bq (i:=2) scNum.nd rfl (.inl rfl)) (cF (bq (i:=3) scNum.nd rfl (.inl rfl)) fc))))
   (ah (aV (aM bR (pv 2) cS (aF _)) (al fD) aU)
   (ah (ar (i:=4) scNum.nd rfl (.inl rfl) (ai Fsingle_steps hr aj (aa (pv 0) ac)))
   (ah (ar (i:=5) scNum.nd rfl (.inr rfl) (ai Fcounts_by_length hr aj (aa (pv 0) (aa (pv 4) (aa (av B.len (pv 1)) ac)))))
   (ah (ar (i:=6) scNum.nd rfl (.inl rfl) af)
   (ah (cT PassesOwn.never rfl (xq B.zip (pv 3) (aP aO (pv 3) (aH af) a6)) (eV rfl (cF (bq (i:=7) scNum.nd rfl (.inl rfl)) (cF (bq (i:=8) scNum.nd rfl (.inl rfl)) fc)))
   (ah (ar (i:=9) scNum.nd rfl (.inr rfl) (ak a7 (av B.len (pv 1)) (pv 7)))
   (al (kq (i:=6) scNum.nd rfl (.inl rfl) (qo rfl B.sum (bP ["word","text","kind","places","steps","counts","number","before","behind","rest"] rfl (bK (aP aO (pv 4) a6 (aH (fk PySem.F.plainAttrs_list PySem.F.slot_list_index PySem.F.type_list_index yA (pv 4) (aa (ak a7 (pv 8) (pv 7)) ac))))) (fun _=>by exact d5) (fun _=>by exact(aR aZ (pv 5) (ak a7 (pv 9) (pv 10)) (fun _ _=>rfl))))) oh))))
   (al (aw (pv 6))))))))),?_⟩
  have nbp:=T.ne hb
  have nap:=T.ne ha
  have txl:(tx u ds).length=u.length+ds.sum:=gi fun d hd=>(hds d hd).1.2.1
  have cvb:=rj (vm u1 hds)
  have lpl:=mW hds
  refine⟨_,rfl,_,rfl,a,b,tx u ds,u,rfl,ha,hb,lt,lu,by lia,by lia,by lia,u1,fun _ _ _ _ z=>absurd z (by lia),fun r q H1 hr0 hq0 s1 _ hq1 hr1=>?_⟩
  rw[lpl] at hq1
  refine⟨r,_,rfl,SqT.of hr1,rfl,_,_,rfl,_,_,rfl,rfl,?_⟩
  refine⟨_,rfl,rfl,_,rfl,?_⟩
  rw[decide_eq_false (by intro z;have:=V.str.inj z;revert this;decide)]
  refine a9 ?_
  refine⟨_,rfl,b,u,rfl,s1 _ _ hb,lu,u1,ul,T.same s1,fun rr S H2 hrr0 hrr1 st k2 T2=>?_⟩
  have k02:Keep pt H H2:=fun e o h n=>k2 _ _ (s1 _ _ h) n
  have nqp:=TB.ne (T.same s1) hq1
  have hq2:=k2 _ _ hq1 nqp
  refine⟨_,rfl,_,rfl,_,rfl,a,_,rfl,SqL.of (k02 _ _ ha nap),b,rr,u,S,(tx u ds).length,by rw[List.length_map];rfl,k02 _ _ hb nbp,hrr1,u1,ul,by have:=st.len;lia,by lia,st.le,fun c kk H3 hc0 hc3 hn s3=>?_⟩
  have k03:Keep pt H H3:=fun e o h n=>s3 _ _ (k02 _ _ h n)
  have T3:=T2.same s3
  refine⟨_,rfl,_,rfl,_,rfl,q,_,rfl,SqL.of (s3 _ _ hq2),fun q1 hq1'=>?_⟩
  have e1:bp (am (aY 0 ds)) (some (1:Int)) none=am ((aY 0 ds).drop 1):=vJ (n:=1)
  rw[e1]
  have s4:=Same.upd (o:=.lst (am ((aY 0 ds).drop 1))) hq1'
  have hq14:=ad (H:=H3) (a:=q1) (o:=.lst (am ((aY 0 ds).drop 1)))
  generalize L2.upd H3 q1 (.lst (am ((aY 0 ds).drop 1)))=H4 at s4 hq14 ⊢
  have hq4:=s4 _ _ (s3 _ _ hq2)
  have k04:Keep pt H H4:=fun e o h n=>s4 _ _ (k03 _ _ h n)
  have T4:=T3.same s4
  have pl:=mM (ds:=ds) (p:=0)
  refine⟨q,q1,_,_,rfl,rfl,hq4,hq14,xr (a:=q) (b:=q1) (xs:=am (aY 0 ds)) (ys:=am ((aY 0 ds).drop 1)) (fun i σ H5=>Same H4 H5∧∃(num:Nat) (v7 v8 v9:Option V),num+rk S u.length (ds.drop i)=rk S u.length ds∧σ=[some (.ref b),some (.ref a),some (.str "covers"),some (.ref q),some (.ref rr),some (.ref c),some (.int (num:Int)),v7,v8,v9]) ?_ ?_ ?_ ?_⟩
  ·exact⟨fun _ _ h=>h,0,_,_,_,by simp,rfl⟩
  ·rintro i σ H5 _ ⟨s5,_⟩
   exact⟨s5 _ _ hq4,s5 _ _ hq14⟩
  ·rintro i x' y' p σ H5 hx' hy' hp ⟨s5,num,v7,v8,v9,hnum,rfl⟩
   obtain⟨z1,hz1,rfl⟩:=dF hx'
   obtain⟨z2,hz2,rfl⟩:=dF hy'
   rw[List.getElem?_drop,show 1+i=i+1 by lia] at hz2
   have hi:i<ds.length:=by have:=(List.getElem?_eq_some_iff.mp hz2).1;lia
   rw[md (by lia)] at hz1 hz2
   have e1:z1=(ds.take i).sum:=by have:=Option.some.inj hz1;lia
   obtain⟨d,hd⟩:∃d,ds[i]?=some d:=⟨ds[i],by simp[hi]⟩
   have e2:z2=(ds.take i).sum+d:=by
    have:=Option.some.inj hz2
    rw[kc hd,List.sum_append] at this
    simp at this;lia
   have dS:d∈S:=st.mem.mpr (hds d (List.mem_of_getElem? hd))
   have dr:ds.drop i=d::ds.drop (i+1):=by
    rw[List.drop_eq_getElem_cons hi]
    congr 1
    rw[List.getElem?_eq_getElem hi] at hd
    exact Option.some.inj hd
   have hsum:(ds.take i).sum+(d+(ds.drop (i+1)).sum)=ds.sum:=by
    rw[←List.sum_cons,←dr,←List.sum_append,List.take_append_drop]
   rw[dr,rk] at hnum
   have s6:=Same.upd (o:=.tup [V.int (z1:Int),V.int (z2:Int)]) hp
   have hp6:=ad (H:=H5) (a:=p) (o:=.tup [V.int (z1:Int),V.int (z2:Int)])
   generalize L2.upd H5 p (.tup [V.int (z1:Int),V.int (z2:Int)])=H6 at s6 hp6 ⊢
   have s46:=s5.trans s6
   have k06:Keep pt H H6:=fun e o h n=>s46 _ _ (k04 _ _ h n)
   refine⟨p,_,rfl,SqT.of hp6,rfl,_,_,rfl,_,_,rfl,rfl,?_⟩
   refine⟨_,rfl,a,_,rfl,SqL.of (k06 _ _ ha nap),_,rfl,_,_,rfl,rfl,?_⟩
   refine i6 (j:=((u.length+(d+(ds.drop (i+1)).sum):Nat):Int)) (congrArg V.int (by rw[List.length_map,txl];lia)) ?_
   obtain⟨j,hj1,hj2⟩:=w5 dS
   have hjl:=(List.getElem?_eq_some_iff.mp hj1).1
   have hrr6:=s46 _ _ (s4 _ _ (s3 _ _ hrr1))
   have hc6:=s46 _ _ (s4 _ _ hc3)
   refine⟨_,rfl,_,rfl,_,rfl,.inl ⟨rfl,_,SqL.of hrr6⟩,_,rfl,_,rfl,_,_,rfl,rfl,rr,S.map (fun(k:Nat)=>(k:Int)),(d:Int),j,rfl,by show [V.int ((z2:Int)-(z1:Int))]=[V.int (d:Int)];rw[show((z2:Int)-(z1:Int))=(d:Int) by lia],hrr6,cast_at.mpr hj1,fun i' hi' z=>hj2 i' hi' (cast_at.mp z),_,rfl,rr,_,rfl,SqL.of hrr6,fun q2 hq2=>?_⟩
   have e3:bp (am S) none (some (j:Int))=am (S.take j):=sP
   rw[e3]
   have s7:=Same.upd (o:=.lst (am (S.take j))) hq2
   have hq27:=ad (H:=H6) (a:=q2) (o:=.lst (am (S.take j)))
   generalize L2.upd H6 q2 (.lst (am (S.take j)))=H7 at s7 hq27 ⊢
   have hc7:=s7 _ _ hc6
   have stl:=st.len
   have tjl:(S.take j).length=j:=by rw[List.length_take];lia
   refine⟨q2,rfl,⟨_,SqL.of hq27⟩,fun D hD cb=>?_⟩
   refine c9 (K:=K) (a:=q2) (xs:=am (S.take j)) (fun i' ys H8=>ys=am (((S.take j).take i').map fun s=>(cl S u.length kk).getD (u.length+(d+(ds.drop (i+1)).sum)-s) 0)∧Same H7 H8∧H8 D=some (.lst ys)) (by rw[aT,tjl];exact bi (by lia)) ?_ ?_ ?_ ?_ ?_
   ·exact⟨rfl,Same.upd hD,ad⟩
   ·rintro i' ys H8 ⟨rfl,_⟩
    rw[aT,List.length_map,List.length_take];lia
   ·rintro i' ys H8 _ ⟨_,s8,_⟩;exact SqL.of (s8 _ _ hq27)
   ·rintro i' x8 ys H8 hx8 ⟨rfl,s8,hD8⟩
    obtain⟨e,he,rfl⟩:=dF hx8
    obtain⟨e5,e6⟩:=st.le e (List.mem_of_mem_take (List.mem_of_getElem? he))
    have hc8:=s8 _ _ hc7
    have hat:bA (am (cl S u.length kk)) (((u.length+(d+(ds.drop (i+1)).sum):Nat):Int)-(e:Int))=some (.int (((cl S u.length kk).getD (u.length+(d+(ds.drop (i+1)).sum)-e) 0:Nat):Int)):=by
     rw[show(((u.length+(d+(ds.drop (i+1)).sum):Nat):Int)-(e:Int))=((u.length+(d+(ds.drop (i+1)).sum)-e:Nat):Int) by lia]
     exact fW (by rw[dB];lia)
    refine dW ⟨_,rfl,_,rfl,_,rfl,_,_,rfl,rfl,c,_,_,_,rfl,rfl,SqL.of hc8,hat,hD8,?_,fun e o' z=>by rw[ao (aN z hD)];exact s8 _ _ z,ad⟩
    rw[iW he,cP]
   ·rintro ys H8 ⟨rfl,s8,hD8⟩
    rw[aT,List.take_length,uK st.nodup hj1] at hD8
    refine⟨D,_,rfl,hD8,_,_,rfl,rfl,fun e o h=>s8 _ _ (s7 _ _ (s46 _ _ h)),num+((pre S d).map fun s=>(cl S u.length kk).getD (u.length+(d+(ds.drop (i+1)).sum)-s) 0).sum,some (.int (z1:Int)),some (.int (z2:Int)),some (.int ((u.length+(d+(ds.drop (i+1)).sum):Nat):Int)),?_,?_⟩
    ·rw[←hnum]
     have:((pre S d).map fun s=>(cl S u.length kk).getD (u.length+(d+(ds.drop (i+1)).sum)-s) 0).sum=((pre S d).map fun s=>cn S u.length (u.length+(d+(ds.drop (i+1)).sum)-s)).sum:=ga fun y _=>cX (by lia)
     lia
    ·rw[lZ];rfl
  ·rintro σ H5 ⟨s5,num,v7,v8,v9,hnum,rfl⟩
   have e0:ds.drop (min (am (aY 0 ds)).length (am ((aY 0 ds).drop 1)).length)=[]:=by
    rw[aT,aT,List.length_drop,pl]
    exact List.drop_eq_nil_of_le (by lia)
   rw[e0] at hnum
   have en:num=rk S u.length ds:=by simpa [rk] using hnum
   subst en
   exact⟨_,rfl,k S H5 st (fun e o h n=>s5 _ _ (k04 _ _ h n)) (T4.same s5)⟩
end
abbrev iY:Stmt:=aJ 57
def ck(far times:Int)(c:Nat):Nat:=97+((times*((c-97:Nat):Int)+far) % 26).toNat
theorem y7{far times:Int}{c:Nat}:97≤ck far times c∧ck far times c≤122:=by
 unfold ck
 have h1:=Int.emod_nonneg (times*((c-97:Nat):Int)+far) (show(26:Int)≠0 by decide)
 have h2:=Int.emod_lt_of_pos (times*((c-97:Nat):Int)+far) (show(0:Int)<26 by decide)
 lia
theorem sO{far times:Int}(ht:times∈[1,3,5,7,9,11,15,17,19,21,23,25]):∀a b:Nat,(97≤a∧a≤122)→(97≤b∧b≤122)→ck far times a=ck far times b→a=b:=by
 intro a b ha hb h
 unfold ck at h
 have a1:=Int.emod_nonneg (times*((a-97:Nat):Int)+far) (show(26:Int)≠0 by decide)
 have b1:=Int.emod_nonneg (times*((b-97:Nat):Int)+far) (show(26:Int)≠0 by decide)
 have h':(times*((a-97:Nat):Int)+far) % 26=(times*((b-97:Nat):Int)+far) % 26:=by lia
 clear h a1 b1
 simp only[List.mem_cons,List.not_mem_nil,or_false] at ht
 rcases ht with rfl | rfl | rfl | rfl | rfl | rfl | rfl | rfl | rfl | rfl | rfl | rfl <;> lia
def nE:Sp:=fun vs H Q _=>∃(a:Addr) (t:List Nat) (far times:Int),vs=[.ref a,.int far,.int times]∧H a=some (.lst (t.map sg))∧Low t∧t.length≤900∧(-1000≤times∧times≤1000)∧
 ∀(r:Addr) (H':Hp),H r=none→H' r=some (.lst ((t.map (ck far times)).map sg))→Same H H'→Q (.ref r) H'
section
variable{P:Program}{w:World}{K:PySem.W.Frag}{mg:Str→Option Value}{base:Heap}
theorem scRen:FnScope ["signs","far","times","every"] ["signs","far","times"] (au iY):=fsc_
theorem x4(M:Md K mg)(B:Bl mg)(F:FF K "_law_renamed" iY):Fn P w K mg base ae "_law_renamed" 1 ["signs","far","times"] nE:=by
 refine aK M F scRen (fun _ _ _ _ _ _=>cN fun _ _ _=>rfl) (fun vs H Q E h=>?_) (fun f cdv A outer s H vs Q E hr h=>?_)
 ·obtain⟨a,t,far,times,rfl,_⟩:=h;rfl
 ·obtain⟨a,t,far,times,rfl,ha,lt,tl,tm,k⟩:=h
  refine⟨_,(ah (ar (i:=3) scRen.nd rfl (.inr rfl) cS)
   (al (aw (bP ["signs","far","times","every"] rfl (bK (pv 0)) (fun _=>by exact d5) (fun _=>by exact(aR li (pv 3) (ak dh (ak aW (ak dJ (pv 2) (fk PySem.F.plainAttrs_str PySem.F.slot_str_index PySem.F.type_str_index vh (pv 3) (aa (pv 4) ac))) (pv 1)) af) (fun _ _=>rfl))))))),?_⟩
  refine⟨_,rfl,a,rfl,⟨_,SqL.of ha⟩,fun D hD cb=>?_⟩
  refine c9 (K:=K) (a:=a) (xs:=t.map sg) (fun i ys H4=>ys=(((t.take i).map (ck far times)).map sg)∧Same H H4∧H4 D=some (.lst ys)) (by rw[List.length_map];exact bi (by lia)) ?_ ?_ ?_ ?_ ?_
  ·exact⟨by rw[List.take_zero];rfl,Same.upd hD,ad⟩
  ·rintro i ys H4 ⟨rfl,_⟩
   rw[List.length_map,List.length_map,List.length_take];lia
  ·rintro i ys H4 _ ⟨_,s4,_⟩
   exact SqL.of (s4 _ _ ha)
  ·rintro i x ys H4 hx ⟨rfl,s4,hD4⟩
   rw[List.getElem?_map] at hx
   cases hc:t[i]? with
   | none=>rw[hc] at hx;cases hx
   | some c=>
     rw[hc] at hx
     obtain rfl:sg c=x:=Option.some.inj hx
     have lc:=lt c (List.mem_of_getElem? hc)
     have m1:=Int.emod_nonneg (times*((c-97:Nat):Int)+far) (show(26:Int)≠0 by decide)
     have m2:=Int.emod_lt_of_pos (times*((c-97:Nat):Int)+far) (show(0:Int)<26 by decide)
     obtain⟨d,hd,hm,ec⟩:=fj az ((times*((c-97:Nat):Int)+far) % 26) m1 (by simpa [az] using m2)
     have ed:d=ck far times c:=by
      unfold ck
      have hlt:((times*((c-97:Nat):Int)+far) % 26).toNat<26:=by lia
      simp[az,hlt] at hd
      exact hd.symm
     refine dW ?_
     refine⟨_,rfl,_,rfl,_,rfl,rfl,_,rfl,c,rfl,rfl,lc.1,lc.2,_,_,rfl,rfl,.inl ⟨by lia,by lia⟩,_,rfl,_,_,rfl,rfl,_,_,rfl,rfl,(by show(0:Int)<26;decide),⟨az.toArray⟩,_,d,rfl,rfl,by rw[mT];exact sz (by simp[az]),by simpa using ec,hD4,?_,?_,ad⟩
     ·rw[List.take_add_one,hc,ed];simp
     ·intro b' o' e
      rw[ao (aN e hD)]
      exact s4 _ _ e
  ·rintro ys H4 ⟨rfl,s4,hD4⟩
   rw[List.length_map,List.take_length] at hD4
   exact k D H4 hD hD4 s4
end
theorem eB{t u:List Nat}{a b:Bool}(u1:1≤u.length):bv t u (aG u a) (aL t u b)=true↔Cov t u (aG u a) (aL t u b):=ko (iV u1) (iO u1)
theorem Cov.mono{t u:List Nat}{lo hi lo' hi':Int}(h:Cov t u lo hi)(h1:lo'≤lo)(h2:hi≤hi'):Cov t u lo' hi':=fun i hi=>by
 obtain⟨p,a,b,c⟩:=h i hi
 exact⟨p,by lia,by lia,c⟩
theorem p9{t u:List Nat}{p:Nat}(hp:p∈aD t u):bG t u (p:Int):=fun j hj h3 h4=>by
 have:=gB hp (j-p) (by lia)
 rw[show p+(j-p)=j by lia] at this
 rw[this];congr 1;lia
theorem jv{t u:List Nat}{a b:Bool}(u1:1≤u.length)(h:ba t u=true):bv t u (aG u a) (aL t u b)=true:=by
 rw[eB u1]
 intro i hi
 obtain⟨p,hp,h1,h2⟩:=covers_iff.mp h i hi
 have hin:=eK hp u1
 refine⟨p,?_,?_,by lia,by lia,p9 hp⟩
 ·unfold aG;split <;> lia
 ·unfold aL;split <;> lia
theorem pL{t u:List Nat}{a b:Bool}(u1:1≤u.length)(h:bv t u (aG u a) (aL t u b)=true):bv t u (aG u true) (aL t u true)=true:=by
 rw[eB u1] at h ⊢
 refine h.mono ?_ ?_
 ·unfold aG;rw[if_pos rfl];split <;> lia
 ·unfold aL;rw[if_pos rfl];split <;> lia
theorem xF{t u:List Nat}{p:Int}(h:bG t u p):bG t.reverse u.reverse ((t.length:Int)-u.length-p):=fun i hi h1 h2=>by
 rw[List.length_reverse] at hi h2
 rw[List.getElem?_reverse hi,List.getElem?_reverse (by lia),h (t.length-1-i) (by lia) (by lia) (by lia)]
 congr 1;lia
theorem qr{t u:List Nat}{lo hi:Int}(h:Cov t u lo hi):Cov t.reverse u.reverse ((t.length:Int)-u.length-hi) ((t.length:Int)-u.length-lo):=fun i hi'=>by
 rw[List.length_reverse] at hi'
 obtain⟨p,h1,h2,h3,h4,h5⟩:=h (t.length-1-i) (by lia)
 exact⟨(t.length:Int)-u.length-p,by lia,by lia,by lia,by rw[List.length_reverse];lia,xF h5⟩
theorem pF{t u:List Nat}{a:Bool}:(t.length:Int)-u.length-aL t u a=aG u a:=by
 unfold aG aL
 cases a <;> simp <;> lia
theorem oK{t u:List Nat}{a:Bool}:(t.length:Int)-u.length-aG u a=aL t u a:=by
 unfold aG aL
 cases a <;> simp <;> lia
theorem ug{u:List Nat}{a:Bool}:aG u.reverse a=aG u a:=by unfold aG;rw[List.length_reverse]
theorem tM{t u:List Nat}{a:Bool}:aL t.reverse u.reverse a=aL t u a:=by unfold aL;rw[List.length_reverse,List.length_reverse]
theorem gz{t u:List Nat}{a b:Bool}(u1:1≤u.length):bv t.reverse u.reverse (aG u.reverse a) (aL t.reverse u.reverse b)=bv t u (aG u b) (aL t u a):=by
 have u1':1≤u.reverse.length:=by rw[List.length_reverse];exact u1
 refine Bool.eq_iff_iff.mpr ?_
 rw[eB u1',eB u1,ug,tM]
 constructor
 ·intro h
  have:=qr h
  rw[List.reverse_reverse,List.reverse_reverse,List.length_reverse,List.length_reverse,pF,oK] at this
  exact this
 ·intro h
  have:=qr h
  rw[pF,oK] at this
  exact this
theorem pB{f:Nat→Nat}{t u:List Nat}{p:Int}(hf:∀a∈t,∀b∈u,f a=f b→a=b):bG (t.map f) (u.map f) p↔bG t u p:=by
 unfold bG
 rw[List.length_map,List.length_map]
 constructor
 ·intro h i hi h1 h2
  have:=h i hi h1 h2
  rw[List.getElem?_map,List.getElem?_map] at this
  have ku:((i:Int)-p).toNat<u.length:=by lia
  rw[List.getElem?_eq_getElem hi,List.getElem?_eq_getElem ku] at this ⊢
  congr 1
  exact hf _ (List.getElem_mem hi) _ (List.getElem_mem ku) (Option.some.inj this)
 ·intro h i hi h1 h2
  rw[List.getElem?_map,List.getElem?_map,h i hi h1 h2]
theorem ja{f:Nat→Nat}{t u:List Nat}{a b:Bool}(u1:1≤u.length)(hf:∀a∈t,∀b∈u,f a=f b→a=b):bv (t.map f) (u.map f) (aG (u.map f) a) (aL (t.map f) (u.map f) b)=bv t u (aG u a) (aL t u b):=by
 refine Bool.eq_iff_iff.mpr ?_
 rw[eB (by rw[List.length_map];exact u1),eB u1]
 have e1:aG (u.map f) a=aG u a:=by unfold aG;rw[List.length_map]
 have e2:aL (t.map f) (u.map f) b=aL t u b:=by unfold aL;rw[List.length_map,List.length_map]
 rw[e1,e2]
 unfold Cov
 rw[List.length_map,List.length_map]
 constructor
 ·intro h i hi
  obtain⟨p,h1,h2,h3,h4,h5⟩:=h i hi
  exact⟨p,h1,h2,h3,h4,(pB hf).mp h5⟩
 ·intro h i hi
  obtain⟨p,h1,h2,h3,h4,h5⟩:=h i hi
  exact⟨p,h1,h2,h3,h4,(pB hf).mpr h5⟩
theorem IsShown.cov{t u L:List Nat}(h:IsShown t u L):ba L u=true:=by
 obtain⟨⟨o,d,_,_,_,c⟩,_⟩:=h
 exact c
theorem IsShown.stands{t u L:List Nat}(h:IsShown t u L):∃k,k+t.length≤L.length∧(L.drop k).take t.length=t:=by
 obtain⟨⟨o,d,o1,d1,rfl,_⟩,_⟩:=h
 refine⟨o,by rw[dY (by lia) (by lia)];lia,?_⟩
 unfold bn
 have hl:(u.take o).length=o:=by rw[List.length_take];lia
 rw[List.append_assoc,List.drop_append_of_le_length (by lia),List.drop_eq_nil_of_le (by lia),List.nil_append,List.take_left]
theorem IsShown.len2{t u L:List Nat}(h:IsShown t u L):L.length+2≤t.length+2*u.length∧t.length≤L.length:=by
 obtain⟨⟨o,d,o1,d1,rfl,_⟩,_⟩:=h
 rw[dY (by lia) (by lia)];lia
theorem lJ(t u:List Nat):bn t u 0 0=t:=by simp[bn]
theorem xZ{t u:List Nat}(u1:1≤u.length)(h:ba t u=true):IsShown t u t:=by
 refine⟨⟨0,0,by lia,by lia,(lJ t u).symm,h⟩,fun o d o1 d1 _=>?_⟩
 by_cases z:o=0∧d=0
 ·right;rw[z.1,z.2,lJ]
 ·left;rw[dY (by lia) (by lia)];lia
theorem t4{t u:List Nat}(u1:1≤u.length)(t1:1≤t.length)(h:ba t u=true):Cv u t:=by
 have at_:∀i,i<t.length→∃p,Oc u t p∧p≤i∧i<p+u.length:=fun i hi=>by
  obtain⟨p,hp,h1,h2⟩:=covers_iff.mp h i hi
  exact⟨p,lies_oc.mp hp,h1,h2⟩
 refine⟨?_,fun p hp hl=>?_⟩
 ·obtain⟨p,hp,h1,_⟩:=at_ 0 (by lia)
  have:p=0:=by lia
  exact this▸hp
 ·obtain⟨q,hq,h1,h2⟩:=at_ (p+u.length) hl
  exact⟨q,by lia,h1,hq⟩
theorem i7{t u:List Nat}{b e:Nat}{A B:Bool}(u1:1≤u.length)(h:ba t u=true)(hbe:b<e)(he:e≤t.length)(hA:A=false→b=0)(hB:B=false→e=t.length):bv ((t.drop b).take (e-b)) u (aG u A) (aL ((t.drop b).take (e-b)) u B)=true:=by
 have cl:((t.drop b).take (e-b)).length=e-b:=by rw[List.length_take,List.length_drop];lia
 rw[eB u1]
 intro i hi
 rw[cl] at hi
 obtain⟨p,hp,h1,h2⟩:=covers_iff.mp h (b+i) (by lia)
 have hin:=eK hp u1
 refine⟨(p:Int)-b,?_,?_,by lia,by lia,fun j hj h3 h4=>?_⟩
 ·unfold aG
  cases A with
  | true=>rw[if_pos rfl];lia
  | false=>rw[if_neg Bool.false_ne_true];have:=hA rfl;lia
 ·unfold aL
  rw[cl]
  cases B with
  | true=>rw[if_pos rfl];lia
  | false=>rw[if_neg Bool.false_ne_true];have:=hB rfl;lia
 ·rw[cl] at hj
  rw[List.getElem?_take_of_lt hj,List.getElem?_drop,p9 hp (b+j) (by lia) (by lia) (by lia)]
  congr 1;lia
def cy(t:List Nat)(k:Nat):Bool:=bv t (t.take k) (aG (t.take k) false) (aL t (t.take k) true)
def cD(t:List Nat)(k:Nat):Bool:=bv t (t.drop (t.length-k)) (aG (t.drop (t.length-k)) true) (aL t (t.drop (t.length-k)) false)
theorem qT{t:List Nat}{k:Nat}(k1:1≤k)(kn:k≤t.length):cy t.reverse k=cD t k:=by
 unfold cy cD
 have e:t.reverse.take k=(t.drop (t.length-k)).reverse:=by rw[List.take_reverse]
 rw[e]
 exact gz (by rw[List.length_drop];lia)
def bd(n:Nat):List Nat:=(List.range n).map (·+1)
theorem gh{n k:Nat}(h:k∈bd n):1≤k∧k≤n:=by
 obtain⟨j,hj,rfl⟩:=List.mem_map.mp h
 have:=List.mem_range.mp hj
 lia
theorem qh(n:Nat):(bd n).length=n:=by simp[bd]
theorem qV(t:List Nat):(bd t.reverse.length).filter (cy t.reverse)=(bd t.length).filter (cD t):=by
 rw[List.length_reverse]
 exact List.filter_congr fun k hk=>qT (gh hk).1 (gh hk).2
theorem ol{t:List Nat}{m p:Nat}(m1:1≤m)(hp:p<t.length+1-m):∃f,((aD t (aC t m p)).head?).getD 0=f∧f<t.length+1-m∧aC t m f=aC t m p:=by
 have pl:(aC t m p).length=m:=nT hp
 have hm:p∈aD t (aC t m p):=mem_lies.mpr ⟨by rw[pl];exact hp,by rw[pl]⟩
 cases hl:aD t (aC t m p) with
 | nil=>rw[hl] at hm;cases hm
 | cons f r=>
   have hf:f∈aD t (aC t m p):=by rw[hl];exact List.mem_cons_self
   have:=mem_lies.mp hf
   rw[pl] at this
   exact⟨f,rfl,this.1,this.2⟩
theorem sT{t:List Nat}{m p:Nat}(m1:1≤m)(mn:m≤t.length)(hp:p<t.length+1-m):(∃q,(m,q)∈bt t t.length∧aC t m q=aC t m p)↔RB t (aC t m p)=true:=by
 unfold bt
 constructor
 ·rintro⟨q,hq,e⟩
  obtain⟨i,hi,h⟩:=List.mem_flatMap.mp hq
  obtain⟨u,hu,hg⟩:=List.mem_filterMap.mp h
  unfold cG at hg
  split at hg
  ·rename_i hr
   have e2:=Option.some.inj hg
   have e3:i+1=m:=(Prod.mk.inj e2).1
   have e4:=(Prod.mk.inj e2).2
   rw[e3] at hu
   obtain⟨x,hx,rfl⟩:=mem_us.mp hu
   obtain⟨f,h1,h2,h3⟩:=ol m1 hx
   rw[h1] at e4
   rw[←e,←e4,h3]
   exact hr
  ·cases hg
 ·intro hr
  obtain⟨f,h1,h2,h3⟩:=ol m1 hp
  refine⟨f,List.mem_flatMap.mpr ⟨m-1,List.mem_range.mpr (by lia),List.mem_filterMap.mpr ⟨aC t m p,?_,?_⟩⟩,h3⟩
  ·rw[show m-1+1=m by lia]
   exact mem_us.mpr ⟨p,hp,rfl⟩
  ·unfold cG
   rw[if_pos hr,h1,show m-1+1=m by lia]
abbrev kE:Stmt:=aJ 33
abbrev jR:Stmt:=aJ 34
abbrev jy:Stmt:=aJ 56
theorem yR(i:Nat):bd (i+1)=bd i++[i+1]:=by simp[bd,List.range_succ]
theorem gU(f:Nat→Bool)(i:Nat):(bd (i+1)).filter f=(bd i).filter f++(if f (i+1)=true then [i+1] else []):=by
 rw[yR,List.filter_append]
 congr 1
 by_cases h:f (i+1)=true <;> simp[h]
theorem pA(f:Nat→Bool)(i:Nat):((bd i).filter f).length≤i:=by
 have:=List.length_filter_le f (bd i)
 rw[qh] at this
 exact this
def eC(t u:List Nat):List Bool:=[bv t u (aG u false) (aL t u true),bv t u (aG u true) (aL t u false),bv t u (aG u true) (aL t u true)]
def pH:Sp:=fun vs H Q _=>∃(a:Addr) (t:List Nat),vs=[.ref a]∧H a=some (.lst (t.map sg))∧Low t∧1≤t.length∧t.length≤300∧
 ∀(r:Addr) (H':Hp),H r=none→H' r=some (.lst (am ((bd t.length).filter (cy t))))→Same H H'→Q (.ref r) H'
def nU:Sp:=fun vs H Q _=>∃(a:Addr) (t:List Nat),vs=[.ref a]∧H a=some (.lst (t.map sg))∧Low t∧1≤t.length∧t.length≤300∧
 ∀(r:Addr) (H':Hp),H r=none→H' r=some (.lst (am ((bd t.length).filter (cD t))))→Same H H'→Q (.ref r) H'
def ou:Sp:=fun vs H Q _=>∃(a b:Addr) (t u:List Nat),vs=[.ref a,.ref b]∧H a=some (.lst (t.map sg))∧H b=some (.lst (u.map sg))∧Low t∧Low u∧1≤t.length∧1≤u.length∧t.length≤900∧u.length≤900∧
 ∀(r:Addr) (H':Hp),H r=none→H' r=some (.lst ((eC t u).map V.bl))→Same H H'→Q (.ref r) H'
section
variable{K:PySem.W.Frag}{P:Program}{w:World}{mg:Str→Option Value}{base:Heap}
theorem mX{σ:St}{H:Hp}{Q:Bool→Hp→Prop}{a:Addr}{t:List Nat}{j:Nat}{n:Int}(h0:σ[0]?=some (some (.ref a)))(hj:σ[j]?=some (some (.int n)))(ha:H a=some (.lst (t.map sg)))(lt:Low t)(n1:1≤n)(n2:n≤t.length)(tl:t.length≤300)(k:∀H',Same H H'→Q (cy t n.toNat) H'):tB (dG (bD false true) [] E0 (bV (bo 0) (bV (fi (fA K) (bo 0) fF (fB (bo j))) dO))) σ H Q:=by
 refine⟨_,h0,_,h0,_,hj,_,rfl,a,_,rfl,SqL.of ha,fun l hl=>?_⟩
 rw[bW (by lia)]
 have s1:=Same.upd (o:=.lst ((t.take n.toNat).map sg)) hl
 refine⟨a,l,t,t.take n.toNat,rfl,s1 _ _ ha,ad,lt,lt.take _,by lia,by rw[List.length_take];lia,by lia,by rw[List.length_take];lia,fun H' s2=>⟨_,rfl,k H' (s1.trans s2)⟩⟩
theorem mI{σ:St}{H:Hp}{Q:Bool→Hp→Prop}{a:Addr}{t:List Nat}{j:Nat}{n:Int}(h0:σ[0]?=some (some (.ref a)))(hj:σ[j]?=some (some (.int n)))(ha:H a=some (.lst (t.map sg)))(lt:Low t)(n1:1≤n)(n2:n≤t.length)(tl:t.length≤300)(k:∀H',Same H H'→Q (cD t n.toNat) H'):tB (dG (bD true false) [] E0 (bV (bo 0) (bV (fi (fA K) (bo 0) (fB (cf (dc fun i j=>V.int (i-j)) (je K (bo 0)) (bo j))) fF) dO))) σ H Q:=by
 refine⟨_,h0,_,h0,_,h0,a,_,rfl,SqL.of ha,_,hj,_,_,rfl,rfl,_,rfl,a,_,rfl,SqL.of ha,fun l hl=>?_⟩
 rw[List.length_map,cR (by lia),show((t.length:Int)-n).toNat=t.length-n.toNat by lia]
 have s1:=Same.upd (o:=.lst ((t.drop (t.length-n.toNat)).map sg)) hl
 refine⟨a,l,t,t.drop (t.length-n.toNat),rfl,s1 _ _ ha,ad,lt,lt.drop _,by lia,by rw[List.length_drop];lia,by lia,by rw[List.length_drop];lia,fun H' s2=>⟨_,rfl,k H' (s1.trans s2)⟩⟩
theorem rT:FnScope ["text"] ["text"] (au kE):=fsc_
theorem x6:FnScope ["text"] ["text"] (au jR):=fsc_
theorem qX:FnScope ["text","word"] ["text","word"] (au jy):=fsc_
theorem uW(M:Md K mg)(B:Bl mg)(F:FF K "beginnings_with_rest" kE)(Fcheck_signs:Fn P w K mg base ae "check_signs" 2 ["text"] dI)(Fcheck_some:Fn P w K mg base ae "check_some" 1 ["text"] eW)(Frest_behind:Fn P w K mg base ae "rest_behind" 5 ["text","word"] (bD false true)):Fn P w K mg base ae "beginnings_with_rest" 6 ["text"] pH:=by
 refine aK M F rT (fun _ _ _ _ _ _=>bJ fun _=>rfl) (fun vs H Q E h=>?_) (fun f cdv A outer s H vs Q E hr h=>?_)
 ·obtain⟨a,t,rfl,_⟩:=h;rfl
 ·obtain⟨a,t,rfl,ha,lt,t1,tl,k⟩:=h
  refine⟨_,(ah (bc (ai Fcheck_signs hr aj (aa (pv 0) ac)))
   (ah (bc (ai Fcheck_some hr aj (aa (pv 0) ac)))
   (al (aw (bP ["text"] rfl (gQ (by rfl) B.range (aa af (aa (ak aW (av B.len (pv 0)) af) ac))) (fun _=>by exact(cg (bx (ai Frest_behind hr aj (aa (pv 0) (aa (aP aO (pv 0) a6 (aH (pv 1))) ac)))))) (fun _=>by exact(pv 1))))))),?_⟩
  refine⟨_,rfl,a,t,rfl,ha,lt,_,rfl,a,t,rfl,ha,t1,?_⟩
  refine⟨_,rfl,a,_,rfl,SqL.of ha,_,_,rfl,rfl,1,_,rfl,⟨by decide,by decide,by rw[List.length_map];lia,by rw[List.length_map];lia⟩,fun D hD cb=>?_⟩
  rw[List.length_map,show((t.length:Int)+1-1).toNat=t.length by lia]
  refine du (lo:=1) (n:=t.length) (fun i ys H2=>ys=am ((bd i).filter (cy t))∧Same H H2∧H2 D=some (.lst ys)) (bi (by lia)) ?_ ?_ ?_ ?_
  ·exact⟨rfl,Same.upd hD,ad⟩
  ·rintro i ys H2 ⟨rfl,_⟩
   rw[aT];exact pA _ _
  ·rintro i ys H2 hi ⟨rfl,s2,hD2⟩
   refine mX (K:=K) (j:=1) (n:=1+(i:Int)) rfl rfl (s2 _ _ ha) lt (by lia) (by lia) tl fun H3 s3=>?_
   rw[show(1+(i:Int)).toNat=i+1 by lia]
   have hD3:=s3 _ _ hD2
   have s23:=s2.trans s3
   by_cases hb:cy t (i+1)=true
   ·rw[hb]
    refine bh ⟨_,rfl,hD3,?_,fun b o e=>?_,ad⟩
    ·rw[gU,if_pos hb,cP,show 1+(i:Int)=((i+1:Nat):Int) by lia]
    ·rw[ao (aN e hD)];exact s23 _ _ e
   ·rw[show cy t (i+1)=false by simpa using hb]
    refine a9 ⟨?_,s23,hD3⟩
    rw[gU,if_neg hb,List.append_nil]
  ·rintro ys H2 ⟨rfl,s2,hD2⟩
   exact k D H2 hD hD2 s2
theorem yq(M:Md K mg)(B:Bl mg)(F:FF K "ends_with_rest" jR)(Fcheck_signs:Fn P w K mg base ae "check_signs" 2 ["text"] dI)(Fcheck_some:Fn P w K mg base ae "check_some" 1 ["text"] eW)(Frest_ahead:Fn P w K mg base ae "rest_ahead" 5 ["text","word"] (bD true false)):Fn P w K mg base ae "ends_with_rest" 6 ["text"] nU:=by
 refine aK M F x6 (fun _ _ _ _ _ _=>bJ fun _=>rfl) (fun vs H Q E h=>?_) (fun f cdv A outer s H vs Q E hr h=>?_)
 ·obtain⟨a,t,rfl,_⟩:=h;rfl
 ·obtain⟨a,t,rfl,ha,lt,t1,tl,k⟩:=h
  refine⟨_,(ah (bc (ai Fcheck_signs hr aj (aa (pv 0) ac)))
   (ah (bc (ai Fcheck_some hr aj (aa (pv 0) ac)))
   (al (aw (bP ["text"] rfl (gQ (by rfl) B.range (aa af (aa (ak aW (av B.len (pv 0)) af) ac))) (fun _=>by exact(cg (bx (ai Frest_ahead hr aj (aa (pv 0) (aa (aP aO (pv 0) (aH (ak a7 (av B.len (pv 0)) (pv 1))) a6) ac)))))) (fun _=>by exact(pv 1))))))),?_⟩
  refine⟨_,rfl,a,t,rfl,ha,lt,_,rfl,a,t,rfl,ha,t1,?_⟩
  refine⟨_,rfl,a,_,rfl,SqL.of ha,_,_,rfl,rfl,1,_,rfl,⟨by decide,by decide,by rw[List.length_map];lia,by rw[List.length_map];lia⟩,fun D hD cb=>?_⟩
  rw[List.length_map,show((t.length:Int)+1-1).toNat=t.length by lia]
  refine du (lo:=1) (n:=t.length) (fun i ys H2=>ys=am ((bd i).filter (cD t))∧Same H H2∧H2 D=some (.lst ys)) (bi (by lia)) ?_ ?_ ?_ ?_
  ·exact⟨rfl,Same.upd hD,ad⟩
  ·rintro i ys H2 ⟨rfl,_⟩
   rw[aT];exact pA _ _
  ·rintro i ys H2 hi ⟨rfl,s2,hD2⟩
   refine mI (K:=K) (j:=1) (n:=1+(i:Int)) rfl rfl (s2 _ _ ha) lt (by lia) (by lia) tl fun H3 s3=>?_
   rw[show(1+(i:Int)).toNat=i+1 by lia]
   have hD3:=s3 _ _ hD2
   have s23:=s2.trans s3
   by_cases hb:cD t (i+1)=true
   ·rw[hb]
    refine bh ⟨_,rfl,hD3,?_,fun b o e=>?_,ad⟩
    ·rw[gU,if_pos hb,cP,show 1+(i:Int)=((i+1:Nat):Int) by lia]
    ·rw[ao (aN e hD)];exact s23 _ _ e
   ·rw[show cD t (i+1)=false by simpa using hb]
    refine a9 ⟨?_,s23,hD3⟩
    rw[gU,if_neg hb,List.append_nil]
  ·rintro ys H2 ⟨rfl,s2,hD2⟩
   exact k D H2 hD hD2 s2
theorem sU(M:Md K mg)(B:Bl mg)(F:FF K "_law_kinds" jy)(Frest_behind:Fn P w K mg base ae "rest_behind" 5 ["text","word"] (bD false true))(Frest_ahead:Fn P w K mg base ae "rest_ahead" 5 ["text","word"] (bD true false))(Frest_both:Fn P w K mg base ae "rest_both" 5 ["text","word"] (bD true true)):Fn P w K mg base ae "_law_kinds" 6 ["text","word"] ou:=by
 refine aK M F qX (fun _ _ _ _ _ _=>bC fun _ _=>rfl) (fun vs H Q E h=>?_) (fun f cdv A outer s H vs Q E hr h=>?_)
 ·obtain⟨a,b,t,u,rfl,_⟩:=h;rfl
 ·obtain⟨a,b,t,u,rfl,ha,hb,lt,lu,t1,u1,tl,ul,k⟩:=h
  refine⟨_,(al (aw (bI (aa (ai Frest_behind hr aj (aa (pv 0) (aa (pv 1) ac))) (aa (ai Frest_ahead hr aj (aa (pv 0) (aa (pv 1) ac))) (aa (ai Frest_both hr aj (aa (pv 0) (aa (pv 1) ac))) ac)))))),?_⟩
  refine⟨_,rfl,_,rfl,a,b,t,u,rfl,ha,hb,lt,lu,t1,u1,tl,ul,fun H1 s1=>?_⟩
  refine⟨_,rfl,_,rfl,a,b,t,u,rfl,s1 _ _ ha,s1 _ _ hb,lt,lu,t1,u1,tl,ul,fun H2 s2=>?_⟩
  have s12:=s1.trans s2
  refine⟨_,rfl,_,rfl,a,b,t,u,rfl,s12 _ _ ha,s12 _ _ hb,lt,lu,t1,u1,tl,ul,fun H3 s3=>?_⟩
  have s13:=s12.trans s3
  exact⟨by show 3≤sizeLine;decide,fun l hl=>k l _ (s13.free hl) ad (s13.trans (Same.upd hl))⟩
end
abbrev jW:Stmt:=aJ 58
abbrev jY:Stmt:=aJ 59
theorem sN{v:V}{i:Nat}{aq:TS}{D:Ends}{σ:St}{H:Hp}(h:aq D (σ.set i (some v)) H):cY (d8 (tC v) (cA i)) aq D σ H:=h
theorem mO{t aq:TS}{D:Ends}{σ:St}{H:Hp}(T:St→Hp→Prop)(hr:∀σ' H',T σ' H'→aq D σ' H')(h:∀R:St→Hp→Prop,(∀σ' H',T σ' H'→R σ' H')→t {D with nx:=R} σ H):cY t aq D σ H:=h (aq D) hr
def ox:Sp:=fun vs H Q _=>∃(a b:Addr) (t u:List Nat),vs=[.ref a,.ref b]∧H a=some (.lst (t.map sg))∧H b=some (.lst (u.map sg))∧Low t∧Low u∧1≤t.length∧1≤u.length∧t.length≤900∧u.length≤900∧
 ((∀L,¬IsShown t u L)→∀H',Same H H'→Q .non H')∧(∀L,IsShown t u L→∀(r:Addr) (H':Hp),H r=none→H' r=some (.lst (L.map sg))→Same H H'→Q (.ref r) H')
def ni:Sp:=fun vs H Q _=>∃(a b:Addr) (t L:List Nat),vs=[.ref a,.ref b]∧H a=some (.lst (t.map sg))∧H b=some (.lst (L.map sg))∧Low t∧Low L∧t.length≤L.length∧L.length≤900∧(∃k,k+t.length≤L.length∧(L.drop k).take t.length=t)∧
 ∀(H':Hp),Same H H'→Q (.bl true) H'
section
variable{P:Program}{w:World}{K:PySem.W.Frag}{mg:Str→Option Value}{base:Heap}{cNoCover:Addr}
theorem scShownL:FnScope ["text","word","told"] ["text","word"] (au jW):=fsc_
theorem scStands:FnScope ["text","longer","places"] ["text","longer"] (au jY):=fsc_
theorem wU(M:Md K mg)(B:Bl mg)(F:FF K "_law_shown" jW)(S:Exs K mg cNoCover)(Fshown_with_rests:Fn P w K mg base (dz P w) "shown_with_rests" 6 ["text","word"] (mw cNoCover)):Fn P w K mg base ae "_law_shown" 7 ["text","word"] ox:=by
 have bNoCover:=S.bNoCover
 refine aK M F scShownL (fun _ _ _ _ _ _=>bC fun _ _=>rfl) (fun vs H Q E h=>?_) (fun f cdv A outer s H vs Q E hr h=>?_)
 ·obtain⟨a,b,t,u,rfl,_⟩:=h;rfl
 ·obtain⟨a,b,t,u,rfl,ha,hb,lt,lu,t1,u1,tl,ul,k1,k2⟩:=h
  refine⟨_,(ah (ar (i:=2) scShownL.nd rfl (.inl rfl) iC)
   (ah (yw bNoCover (fun _ _ _=>by exact(al (ar (i:=2) scShownL.nd rfl (.inl rfl) (tW Fshown_with_rests hr (aa (pv 0) (aa (pv 1) ac))))))
   (fun _ _=>by exact(al (ar (i:=2) scShownL.nd rfl (.inl rfl) iC))))
   (al (aw (pv 2))))),?_⟩
  refine sN ?_
  refine mO (fun σ H'=>∃v,σ[2]?=some (some v)∧Q v H') (fun σ H' h=>?_) fun R hR=>?_
  ·obtain⟨v,hv,q⟩:=h
   exact⟨_,hv,q⟩
  exact⟨rfl,_,rfl,_,rfl,a,b,t,u,rfl,ha,hb,lt,lu,t1,u1,tl,ul,fun no H' s'=>⟨S.self,hR _ _ ⟨.non,rfl,k1 no H' s'⟩⟩,fun L hL r H' r0 hr s'=>hR _ _ ⟨.ref r,rfl,k2 L hL r H' r0 hr s'⟩⟩
theorem wW(M:Md K mg)(B:Bl mg)(F:FF K "_law_stands" jY):Fn P w K mg base ae "_law_stands" 1 ["text","longer"] ni:=by
 refine aK M F scStands (fun _ _ _ _ _ _=>bC fun _ _=>rfl) (fun vs H Q E h=>?_) (fun f cdv A outer s H vs Q E hr h=>?_)
 ·obtain⟨a,b,t,L,rfl,_⟩:=h;rfl
 ·obtain⟨a,b,t,L,rfl,ha,hb,lt,lL,tL,Ll,⟨x,hx1,hx2⟩,k⟩:=h
  refine⟨_,(ah (ar (i:=2) scStands.nd rfl (.inl rfl) (ak aW (ak a7 (av B.len (pv 1)) (av B.len (pv 0))) af))
   (al (aw (dL (ip (by exact hr)) (bP ["text","longer","places"] rfl (dq (by rfl) B.range (aa (pv 2) ac)) (fun _=>by exact(cg (aM (eU (by exact hr)) (aP aO (pv 1) (aH (pv 3)) (aH (ak aW (pv 3) (av B.len (pv 0))))) (pv 0) (aF _)))) (fun _=>by exact(pv 3))) (bI ac) (aF _))))),?_⟩
  refine⟨_,rfl,b,_,rfl,SqL.of hb,_,rfl,a,_,rfl,SqL.of ha,_,_,rfl,rfl,_,_,rfl,rfl,?_⟩
  rw[List.length_map,List.length_map]
  refine⟨_,rfl,_,rfl,by lia,by lia,fun D hD cb=>?_⟩
  rw[show((L.length:Int)-(t.length:Int)+1).toNat=L.length-t.length+1 by lia]
  refine du (lo:=0) (n:=L.length-t.length+1) (fun i ys H2=>∃ns:List Int,ys=ns.map V.int∧ns.length≤i∧(x<i→ns≠ [])∧Same H H2∧H2 D=some (.lst ys)) (bi (by lia)) ?_ ?_ ?_ ?_
  ·exact⟨[],rfl,Nat.le_refl _,fun h=>by lia,Same.upd hD,ad⟩
  ·rintro i ys H2 ⟨ns,rfl,h,_⟩
   rw[List.length_map];exact h
  ·rintro i ys H2 hi ⟨ns,rfl,nl,nx,s2,hD2⟩
   refine⟨_,rfl,_,rfl,_,rfl,_,rfl,_,rfl,a,_,rfl,SqL.of (s2 _ _ ha),_,_,rfl,rfl,_,rfl,b,_,rfl,SqL.of (s2 _ _ hb),fun p1 hp1=>?_⟩
   rw[List.length_map,bO,bE,dN _ _ _ (by lia) (by lia),show(0+(i:Int)).toNat=i by lia,show(0+(i:Int)+(t.length:Int)).toNat-i=t.length by lia]
   have s3:=Same.upd (o:=.lst (((L.drop i).take t.length).map sg)) hp1
   have hD3:=s3 _ _ hD2
   have s23:=s2.trans s3
   refine⟨_,rfl,p1,a,(L.drop i).take t.length,t,rfl,rfl,SqL.of ad,SqL.of (s23 _ _ ha),((lL.drop _).take _).cp,lt.cp,_,rfl,?_⟩
   by_cases he:(L.drop i).take t.length=t
   ·rw[show(if false=true then !decide ((L.drop i).take t.length=t) else decide ((L.drop i).take t.length=t))=true by rw[if_neg (by decide),decide_eq_true he]]
    refine bh ⟨_,rfl,hD3,ns++[0+(i:Int)],by simp,by simp;lia,fun _=>by simp,fun b o e=>?_,ad⟩
    rw[ao (aN e hD)];exact s23 _ _ e
   ·rw[show(if false=true then !decide ((L.drop i).take t.length=t) else decide ((L.drop i).take t.length=t))=false by rw[if_neg (by decide),decide_eq_false he]]
    refine a9 ⟨ns,rfl,by lia,fun h=>nx ?_,s23,hD3⟩
    by_cases z:x=i
    ·subst z;exact absurd hx2 he
    ·lia
  ·rintro ys H2 ⟨ns,rfl,nl,nx,s2,hD2⟩
   have nn:=nx (by lia)
   refine⟨Nat.zero_le _,fun l hl=>?_⟩
   have s3:=Same.upd (o:=.lst []) hl
   refine⟨D,l,ns,[],rfl,rfl,SqL.of (s3 _ _ hD2),SqL.of ad,?_⟩
   have e:(if true=true then !decide (ns=[]) else decide (ns=[]))=true:=by rw[if_pos rfl,decide_eq_false nn];rfl
   rw[e]
   exact k _ (s2.trans s3)
end
abbrev gf:Stmt:=aJ 60
def KK(p pt:Addr)(H H':Hp):Prop:=∀b o,H b=some o→b≠p→b≠pt→H' b=some o
theorem TB.hand{H H':Hp}{p pt:Addr}(h:TB H pt)(hp:Hand H p)(k:Keep p H H'):TB H' pt:=by
 obtain⟨x,y,z,hp⟩:=hp
 have np:=h.ne hp
 rcases h with t | ⟨c,t1,t2⟩
 ·exact .inl (k _ _ t (Ne.symm np))
 ·refine .inr ⟨c,k _ _ t1 (Ne.symm np),k _ _ t2 fun e=>?_⟩
  rw[e,hp] at t2;cases t2
theorem TB.handNe{H:Hp}{p pt:Addr}(h:TB H pt)(hp:Hand H p):p≠pt:=by
 obtain⟨x,y,z,hp⟩:=hp
 exact h.ne hp
theorem Hand.keepP{H H':Hp}{p pt:Addr}(hp:Hand H p)(n:p≠pt)(k:Keep pt H H'):Hand H' p:=by
 obtain⟨x,y,z,hp⟩:=hp
 exact⟨x,y,z,k _ _ hp n⟩
theorem pZ{u:List Nat}:∀{S T:List Nat},S.Perm T→(∀d∈S,d≤u.length)→dP u S→dP u T→S=T
 | [],T,p,_,_,_=>by rw[List.nil_perm.mp p]
 | x::S,[],p,_,_,_=>by have:=p.length_eq;simp at this
 | x::S,y::T,p,hl,hS,hT=>by
   have hS':=List.pairwise_cons.mp hS
   have hT':=List.pairwise_cons.mp hT
   have e:x=y:=by
    have hy:y∈x::S:=p.mem_iff.mpr List.mem_cons_self
    have hx:x∈y::T:=p.mem_iff.mp List.mem_cons_self
    rcases List.mem_cons.mp hy with q | q
    ·exact q.symm
    ·rcases List.mem_cons.mp hx with r | r
     ·exact r
     ·have h1:=hS'.1 y q
      have h2:=hT'.1 x r
      rcases kY (aI (bb u x)) (aI (bb u y)) with z | z | z
      ·rw[z] at h2;cases h2
      ·have:=congrArg List.length z
       unfold aI at this
       rw[List.length_map,List.length_map,fM (hl x List.mem_cons_self),fM (hl y hy)] at this
       exact this
      ·rw[z] at h1;cases h1
   subst e
   rw[pZ (List.Perm.cons_inv p) (fun d hd=>hl d (List.mem_cons_of_mem _ hd)) hS'.2 hT'.2]
theorem Stp.uniq{u S T:List Nat}(h1:Stp u S)(h2:Stp u T):S=T:=pZ (h1.perm.trans h2.perm.symm) (fun d hd=>(h1.le d hd).2) h1.key h2.key
def eD(bs:List Bool):PyData:=.list (bs.map PyData.bool)
theorem jt{K:PySem.W.Frag}{H:Hp}:∀bs:List Bool,DatVs K H (bs.map PyData.bool) (bs.map V.bl)
 | []=>lj
 | b::bs=>qz (wV b) (jt bs)
theorem lY:∀bs:List Bool,PyData.depthAll (bs.map PyData.bool)≤1
 | []=>by rw[List.map_nil,PyData.depthAll];exact Nat.zero_le _
 | b::bs=>by
   have:=lY bs
   simp only[List.map_cons,PyData.depthAll,PyData.depth]
   lia
theorem yW(bs:List Bool):(eD bs).depth≤64:=by
 have:=lY bs
 unfold eD
 simp only[PyData.depth]
 lia
theorem qv:∀bs:List Bool,PyData.eqvAll (bs.map PyData.bool) (bs.map PyData.bool)=true
 | []=>by rw[List.map_nil,PyData.eqvAll]
 | b::bs=>by
   rw[List.map_cons,PyData.eqvAll,qv bs]
   cases b <;> simp[PyData.eqv]
theorem rS(bs:List Bool):PyData.eqv (eD bs) (eD bs)=true:=by
 unfold eD
 simp only[PyData.eqv]
 exact qv bs
theorem iF{K:PySem.W.Frag}{H:Hp}{h k:Addr}{bs:List Bool}{Q:VK}(hh:H h=some (.lst (bs.map V.bl)))(hk:H k=some (.lst (bs.map V.bl)))(q:Q (.bl false) H):fN K true (.ref h) (.ref k) H Q:=by
 refine⟨eD bs,eD bs,i8 (SqL.of hh) (jt bs),i8 (SqL.of hk) (jt bs),Nat.le_trans (Nat.min_le_left _ _) (yW bs),?_⟩
 rw[rS]
 exact q
theorem c6{c:TT}{t aq:TS}{D:Ends}{σ:St}{H:Hp}(h:∀R:Bool→Hp→Prop,(∀H',Same H H'→R false H')→c σ H R)(q:∀H',Same H H'→aq D σ H'):cY (fz c t fg) aq D σ H:=h (fun b H1=>if b=true then _ else _) fun H' s'=>a9 (q H' s')
theorem u4{c:TT}{t:TS}{D:Ends}{σ:St}{H:Hp}(h:∀R:Bool→Hp→Prop,(∀H',Same H H'→R false H')→c σ H R)(q:∀H',Same H H'→D.nx σ H'):fz c t fg D σ H:=h (fun b H1=>if b=true then _ else _) fun H' s'=>a9 (q H' s')
theorem gN{c d:TT}{σ:St}{H:Hp}{R:Bool→Hp→Prop}(h:∀Q:Bool→Hp→Prop,(∀H',Same H H'→Q false H')→c σ H Q)(g:∀H',Same H H'→d σ H' R):kg c d σ H R:=h (fun b H1=>if b=true then _ else _) fun H' s'=>a9 (g H' s')
theorem wN{c d:TT}{σ:St}{H:Hp}{R:Bool→Hp→Prop}(h:∀Q:Bool→Hp→Prop,(∀H',Same H H'→Q false H')→c σ H Q)(g:∀H',Same H H'→R false H'):mG c d σ H R:=h (fun b H1=>if b=true then _ else _) fun H' s'=>a9 (g H' s')
def ux(es:List Expr):List Stmt→List Stmt
 | [a,b,c,d,e,f,.Assign t (.Subscript (.List _ p) ix q) r,g,h,i,j,k,l,m,n]=>[a,b,c,d,e,f,.Assign t (.Subscript (.List es p) ix q) r,g,h,i,j,k,l,m,n]
 | x=>x
theorem yz:∃es,bw gf=ux es (bw gf)∧dH es=some [1,3,5,7,9,11,15,17,19,21,23,25]:=⟨_,rfl,rfl⟩
section
variable{K:PySem.W.Frag}{σ:St}{H:Hp}{i j:Nat}{a b:Addr}{t u:List Nat}
theorem lD{Q:VK}(hi:σ[i]?=some (some (.ref a)))(hj:σ[j]?=some (some (.ref b)))(ha:H a=some (.lst (t.map sg)))(hb:H b=some (.lst (u.map sg)))(lt:Low t)(lu:Low u)(t1:1≤t.length)(u1:1≤u.length)(tl:t.length≤900)(ul:u.length≤900)(k:∀H',Same H H'→Q (.str (if ba t u=true then "covers" else "bare")) H'):cf (gW K) (dG d9 [] E0 (bV (bo i) (bV (bo j) dO))) (tC (.int 0)) σ H Q:=by
 refine⟨_,hi,_,hj,a,b,t,u,rfl,ha,hb,lt,lu,t1,tl,ul,u1,fun r H1 _ s1 hlt hr1=>?_,fun r q H1 _ _ s1 he hq1 hr1=>?_⟩
 ·have e:¬ba t u=true:=by unfold ba;rw[decide_eq_true_eq];lia
  have:=k H1 s1
  rw[if_neg e] at this
  exact⟨r,_,_,_,rfl,rfl,SqT.of hr1,bu (j:=0) rfl,this⟩
 ·have e:ba t u=true:=by unfold ba;rw[decide_eq_true_eq];exact he
  have:=k H1 s1
  rw[if_pos e] at this
  exact⟨r,_,_,_,rfl,rfl,SqT.of hr1,bu (j:=0) rfl,this⟩
theorem nV{t u:List Nat}:decide (V.str (if ba t u=true then "covers" else "bare")=V.str "covers")=ba t u:=by
 cases ba t u with
 | true=>exact decide_eq_true rfl
 | false=>exact decide_eq_false fun e=>by have:=V.str.inj e;revert this;decide
theorem mh{Q:VK}(hi:σ[i]?=some (some (.ref a)))(hj:σ[j]?=some (some (.ref b)))(ha:H a=some (.lst (t.map sg)))(hb:H b=some (.lst (u.map sg)))(lt:Low t)(lu:Low u)(t1:1≤t.length)(u1:1≤u.length)(tl:t.length≤900)(ul:u.length≤900)(k:∀H',Same H H'→Q (.bl (ba t u)) H'):cf qy (cf (gW K) (dG d9 [] E0 (bV (bo i) (bV (bo j) dO))) (tC (.int 0))) (tC (.str "covers")) σ H Q:=
 lD (K:=K) hi hj ha hb lt lu t1 u1 tl ul fun H' s'=>⟨rfl,by rw[nV];exact k H' s'⟩
theorem wo{Q:VK}(hi:σ[i]?=some (some (.ref a)))(hj:σ[j]?=some (some (.ref b)))(ha:H a=some (.lst (t.map sg)))(hb:H b=some (.lst (u.map sg)))(lt:Low t)(lu:Low u)(t1:1≤t.length)(u1:1≤u.length)(tl:t.length≤900)(ul:u.length≤900)(k:∀H',Same H H'→Q (.bl (!ba t u)) H'):cf oP (cf (gW K) (dG d9 [] E0 (bV (bo i) (bV (bo j) dO))) (tC (.int 0))) (tC (.str "covers")) σ H Q:=
 lD (K:=K) hi hj ha hb lt lu t1 u1 tl ul fun H' s'=>⟨rfl,by rw[nV];exact k H' s'⟩
end
theorem rp{t u:List Nat}(u1:1≤u.length)(t1:1≤t.length):∃k0 k1 k2:Bool,eC t u=[k0,k1,k2]∧eC t.reverse u.reverse=[k1,k0,k2]∧(ba t u=true→k0=true∧k1=true∧k2=true)∧(k0=true→k2=true)∧(k1=true→k2=true)∧(k2=true↔∃L,IsShown t u L):=
 ⟨_,_,_,rfl,by unfold eC;rw[gz u1,gz u1,gz u1],fun h=>⟨jv u1 h,jv u1 h,jv u1 h⟩,pL u1,pL u1,qg u1 t1⟩
theorem u5{f:Nat→Nat}{t u:List Nat}(u1:1≤u.length)(hf:∀a∈t,∀b∈u,f a=f b→a=b):eC (t.map f) (u.map f)=eC t u:=by
 unfold eC
 rw[ja u1 hf,ja u1 hf,ja u1 hf]
def o5(pt:Addr):Sp:=fun vs H Q _=>∃(p a b:Addr) (t u:List Nat),vs=[.ref p,.ref a,.ref b]∧Hand H p∧H a=some (.lst (t.map sg))∧H b=some (.lst (u.map sg))∧Low t∧Low u∧1≤t.length∧t.length≤300∧1≤u.length∧u.length≤62∧TB H pt∧
 ∀H',Hand H' p→KK p pt H H'→TB H' pt→Q (.bl true) H'
section
variable{P:Program}{w:World}{K:PySem.W.Frag}{mg:Str→Option Value}{base:Heap}
theorem scRight:FnScope ["deck","text","word","kinds","whole","turned","far","times","shown","number"] ["deck","text","word"] (au gf):=fsc_
theorem uI{pt:Addr}(M:Md K mg)(B:Bl mg)(F:FF K "_law_right" gf)(F_law_take:Fn P w K mg base ae "_law_take" 1 ["deck","many"] dg)(F_law_kinds:Fn P w K mg base ae "_law_kinds" 6 ["text","word"] ou)(Fcovered:Fn P w K mg base ae "covered" 5 ["text","word"] d9)(F_law_renamed:Fn P w K mg base ae "_law_renamed" 1 ["signs","far","times"] nE)(F_law_shown:Fn P w K mg base ae "_law_shown" 7 ["text","word"] ox)(F_law_stands:Fn P w K mg base ae "_law_stands" 1 ["text","longer"] ni)(Fnumber_of:Fn P w K mg base ae "number_of" 7 ["word","text"] (nB pt))(Ftext_at:Fn P w K mg base ae "text_at" 7 ["word","length","number"] (nJ pt)):Fn P w K mg base ae "_law_right" 8 ["deck","text","word"] (o5 pt):=by
 refine aK M F scRight (fun _ _ _ _ _ _=>cN fun _ _ _=>rfl) (fun vs H Q E h=>?_) (fun f cdv A outer s H vs Q E hr h=>?_)
 ·obtain⟨p,a,b,t,u,rfl,_⟩:=h;rfl
 ·obtain⟨p,a,b,t,u,rfl,hp,ha,hb,lt,lu,t1,tl,u1,ul,T,k⟩:=h
  obtain⟨es,hes,ei⟩:=yz
  rw[hes]
  refine⟨_,(ah (ar (i:=3) scRight.nd rfl (.inl rfl) (ai F_law_kinds hr aj (aa (pv 1) (aa (pv 2) ac))))
   (ah (ar (i:=4) scRight.nd rfl (.inl rfl) (dL bR (aR kR (ai Fcovered hr aj (aa (pv 1) (aa (pv 2) ac))) af (fun _ _=>rfl)) cS (aF _)))
   (ah (aV (PW.pt (eI (PW.pt (gc (bx (pv 4)) (fX (aM (fG (by exact hr)) (pv 3) (ak oO (bI (aa bB ac)) af) (aF _))))) (eR (PW.pt (gc (PW.pt (eI (bx (aR aZ (pv 3) af (fun _ _=>rfl))) (eR (bx (aR aZ (pv 3) af (fun _ _=>rfl)))))) (fX (cO (bx (aR aZ (pv 3) af (fun _ _=>rfl)))))))))) (al (aw bB)) aU)
   (ah (ar (i:=5) scRight.nd rfl (.inl rfl) (ai F_law_kinds hr aj (aa (jb (pv 1)) (aa (jb (pv 2)) ac))))
   (ah (aV (aM (fG (by exact hr)) (pv 5) (bI (aa (aR aZ (pv 3) af (fun _ _=>rfl)) (aa (aR aZ (pv 3) af (fun _ _=>rfl)) (aa (aR aZ (pv 3) af (fun _ _=>rfl)) ac)))) (aF _)) (al (aw bB)) aU)
   (ah (ar (i:=6) scRight.nd rfl (.inl rfl) (ai F_law_take hr aj (aa (pv 0) (aa af ac))))
   (ah (ar (i:=7) scRight.nd rfl (.inl rfl) (aR aZ (bI (ig ei)) (ai F_law_take hr aj (aa (pv 0) (aa af ac))) (fun _ _=>rfl)))
   (ah (aV (aM (fG (by exact hr)) (ai F_law_kinds hr aj (aa (ai F_law_renamed hr aj (aa (pv 1) (aa (pv 6) (aa (pv 7) ac)))) (aa (ai F_law_renamed hr aj (aa (pv 2) (aa (pv 6) (aa (pv 7) ac)))) ac))) (pv 3) (aF _)) (al (aw bB)) aU)
   (ah (ar (i:=8) scRight.nd rfl (.inl rfl) (ai F_law_shown hr aj (aa (pv 1) (aa (pv 2) ac))))
   (ah (aV (aM i5 (dL sC (pv 8) iC (aF _)) (aR aZ (pv 3) af (fun _ _=>rfl)) (aF _)) (al (aw bB)) aU)
   (ah (aV (aM zj (pv 8) iC (aF _)) (al (aw bB)) aU)
   (ah (aV (PW.pt (eI (aM i5 (aR kR (ai Fcovered hr aj (aa (pv 8) (aa (pv 2) ac))) af (fun _ _=>rfl)) cS (aF _)) (eR (cO (bx (ai F_law_stands hr aj (aa (pv 1) (aa (pv 8) ac)))))))) (al (aw bB)) aU)
   (ah (aV (PW.pt (gc (aM eJ (av B.len (pv 8)) (ak a7 (ak aW (av B.len (pv 1)) (ak dJ af (av B.len (pv 2)))) af) (aF _)) (fX (aM eJ (av B.len (pv 8)) (av B.len (pv 2)) (aF _))))) (al (aw bB)) aU)
   (ah (aV (aM gg (av B.len (pv 8)) af (aF _)) (ah (ar (i:=9) scRight.nd rfl (.inl rfl) (ai Fnumber_of hr aj (aa (pv 2) (aa (pv 8) ac))))
   (al (aV (aM (rH (by exact hr)) (ai Ftext_at hr aj (aa (pv 2) (aa (av B.len (pv 8)) (aa (pv 9) ac)))) (pv 8) (aF _)) (al (aw bB)) aU))) aU)
   (al (aw (yM (xn (pv 4)) (gR (dL (eU (by exact hr)) (pv 8) (pv 1) (aF _)))))))))))))))))))),?_⟩
  have nap:=aB hp ha
  have nbp:=aB hp hb
  obtain⟨k0,k1,k2,ek,er,hcv,h02,h12,hsh⟩:=rp (t:=t) u1 t1
  refine bL ?_
  refine⟨_,rfl,_,rfl,a,b,t,u,rfl,ha,hb,lt,lu,t1,u1,by lia,by lia,fun kr H1 kr0 hkr s1=>?_⟩
  rw[ek] at hkr
  have nkr:kr≠p:=(hp.ne kr0).symm
  refine bL (mh (i:=1) (j:=2) rfl rfl (s1 _ _ ha) (s1 _ _ hb) lt lu t1 u1 (by lia) (by lia) fun H2 s2=>?_)
  have s02:=s1.trans s2
  have hkr2:=s2 _ _ hkr
  refine c6 (fun R hR=>?_) fun H3 s3=>?_
  ·refine gN (fun R' hR'=>?_) fun H3 s3=>?_
   ·cases hw:ba t u with
    | false=>exact⟨_,rfl,_,rfl,a9 (hR' _ (Same.refl _))⟩
    | true=>
      obtain⟨rfl,rfl,rfl⟩:=hcv hw
      refine⟨_,rfl,_,rfl,bh ⟨_,rfl,by show 1≤sizeLine;decide,fun l hl=>?_⟩⟩
      have sl:=Same.upd (o:=.lst [V.bl true]) hl
      refine⟨l,3,_,rfl,rfl,ad,by decide,by decide,by show 3≤sizeLine;decide,fun l2 hl2=>?_⟩
      have sl2:=sl.trans (Same.upd (o:=.lst (List.replicate (3:Int).toNat [V.bl true]).flatten) hl2)
      exact iF (bs:=[true,true,true]) (sl2 _ _ hkr2) ad ⟨_,rfl,hR' _ sl2⟩
   ·have hkr3:=s3 _ _ hkr2
    have last:k2=true→∀Q':Bool→Hp→Prop,Q' false H3→pG (tB (cf (mY K) (bo 3) (tC (.int 2)))) [some (.ref p),some (.ref a),some (.ref b),some (.ref kr),some (.bl (ba t u)),none,none,none,none,none] H3 Q':=fun e Q' q=>by
     subst e
     exact⟨_,rfl,kr,_,_,_,rfl,rfl,SqL.of hkr3,bu (j:=2) rfl,_,rfl,q⟩
    refine⟨_,rfl,kr,_,_,_,rfl,rfl,SqL.of hkr3,bu (j:=0) rfl,k0,rfl,?_⟩
    cases k0 with
    | true=>exact bh (bh (last (h02 rfl) _ (hR _ s3)))
    | false=>
      refine a9 ⟨_,rfl,kr,_,_,_,rfl,rfl,SqL.of hkr3,bu (j:=1) rfl,k1,rfl,?_⟩
      cases k1 with
      | true=>exact bh (last (h12 rfl) _ (hR _ s3))
      | false=>exact a9 (hR _ s3)
  have s03:=s02.trans s3
  have hkr3:=s3 _ _ hkr2
  refine bL ?_
  refine⟨_,rfl,a,_,rfl,SqL.of (s03 _ _ ha),fun ra hra=>?_⟩
  rw[←List.map_reverse]
  have s4:=s03.trans (Same.upd (o:=.lst (t.reverse.map sg)) hra)
  refine⟨_,rfl,b,_,rfl,SqL.of (s4 _ _ hb),fun rb hrb=>?_⟩
  rw[←List.map_reverse]
  have s5:=Same.upd (o:=.lst (u.reverse.map sg)) hrb
  have s05:=s4.trans s5
  refine⟨ra,rb,t.reverse,u.reverse,rfl,s5 _ _ ad,ad,fun c hc=>lt c (List.mem_reverse.mp hc),fun c hc=>lu c (List.mem_reverse.mp hc),by rw[List.length_reverse];exact t1,by rw[List.length_reverse];exact u1,by rw[List.length_reverse];lia,by rw[List.length_reverse];lia,fun tr H6 tr0 htr s6=>?_⟩
  rw[er] at htr
  have hkr6:=s6 _ _ (s5 _ _ ((Same.upd (o:=.lst (t.reverse.map sg)) hra) _ _ hkr3))
  have s06:=s05.trans s6
  clear s05 s5 s4 s6
  refine c6 (fun R hR=>?_) fun H7 s7=>?_
  ·refine⟨_,rfl,_,rfl,kr,_,_,_,rfl,rfl,SqL.of hkr6,bu (j:=1) rfl,_,rfl,kr,_,_,_,rfl,rfl,SqL.of hkr6,bu (j:=0) rfl,_,rfl,kr,_,_,_,rfl,rfl,SqL.of hkr6,bu (j:=2) rfl,by show 3≤sizeLine;decide,fun l hl=>?_⟩
   have sl:=Same.upd (o:=.lst [V.bl k1,.bl k0,.bl k2]) hl
   exact iF (bs:=[k1,k0,k2]) (sl _ _ htr) ad ⟨_,rfl,hR _ sl⟩
  have s07:=s06.trans s7
  have hkr7:=s7 _ _ hkr6
  have hp7:=hp.same s07
  refine bL ⟨_,rfl,p,26,rfl,hp7,by decide,fun far H8 f0 f1 hp8 k8=>?_⟩
  refine bL ⟨by show 12≤sizeLine;decide,fun l12 hl12=>?_⟩
  refine⟨_,rfl,p,12,rfl,hp8.upd (hp8.ne hl12),by decide,fun r H9 r0 r1 hp9 k9=>?_⟩
  have hl9:H9 l12=some (.lst ([1,3,5,7,9,11,15,17,19,21,23,25].map V.int)):=k9 _ _ ad (hp8.ne hl12).symm
  obtain⟨times,htm,etm⟩:=gZ (ns:=[1,3,5,7,9,11,15,17,19,21,23,25]) r0 r1
  have htb: -1000≤times∧times≤1000:=by simp at htm;omega
  refine⟨l12,_,r,_,rfl,rfl,SqL.of hl9,etm,?_⟩
  have k79:Keep p H7 H9:=fun c o h n=>k9 _ _ ((Same.upd hl12) _ _ (k8 _ _ h n)) n
  have k09:Keep p H H9:=fun c o h n=>k79 _ _ (s07 _ _ h) n
  have hkr9:=k79 _ _ hkr7 nkr
  have ha9:=k09 _ _ ha nap
  have hb9:=k09 _ _ hb nbp
  have T9:TB H9 pt:=TB.hand (T.same s07) hp7 k79
  clear hl9 k79 k8 k9
  have lren:∀v:List Nat,Low (v.map (ck far times)):=fun v c hc=>by
   obtain⟨d,_,rfl⟩:=List.mem_map.mp hc
   exact y7
  refine c6 (fun R hR=>?_) fun H10 s10=>?_
  ·refine⟨_,rfl,_,rfl,_,rfl,a,t,far,times,rfl,ha9,lt,by lia,htb,fun ra H10 ra0 hra s10=>?_⟩
   refine⟨_,rfl,_,rfl,_,rfl,b,u,far,times,rfl,s10 _ _ hb9,lu,by lia,htb,fun rb H11 rb0 hrb s11=>?_⟩
   refine⟨ra,rb,t.map (ck far times),u.map (ck far times),rfl,s11 _ _ hra,hrb,lren _,lren _,by rw[List.length_map];exact t1,by rw[List.length_map];exact u1,by rw[List.length_map];lia,by rw[List.length_map];lia,fun kr2 H12 kr20 hkr2 s12=>?_⟩
   rw[u5 u1 fun x hx y hy=>sO htm x y (lt x hx) (lu y hy),ek] at hkr2
   have s912:=(s10.trans s11).trans s12
   exact⟨_,rfl,iF (bs:=[k0,k1,k2]) hkr2 (s912 _ _ hkr9) ⟨_,rfl,hR _ s912⟩⟩
  have k010:Keep p H H10:=fun c o h n=>s10 _ _ (k09 _ _ h n)
  have hkr10:=s10 _ _ hkr9
  have ha10:=s10 _ _ ha9
  have hb10:=s10 _ _ hb9
  have hp10:=hp9.same s10
  have T10:=T9.same s10
  clear hkr9 ha9 hb9 s10 k09 T9
  refine bL ?_
  refine⟨_,rfl,_,rfl,a,b,t,u,rfl,ha10,hb10,lt,lu,t1,u1,by lia,by lia,fun no H11 s11=>?_,fun L hL sr H11 sr0 hsr s11=>?_⟩
  ·have e2:k2=false:=by
    cases k2 with
    | false=>rfl
    | true=>
      obtain⟨L,hL⟩:=hsh.mp rfl
      exact absurd hL (no L)
   subst e2
   have hkr11:=s11 _ _ hkr10
   refine c6 (fun R hR=>?_) fun H12 s12=>?_
   ·exact⟨_,rfl,rfl,_,rfl,kr,_,_,_,rfl,rfl,SqL.of hkr11,bu (j:=2) rfl,rfl,_,rfl,hR _ (Same.refl _)⟩
   refine⟨_,rfl,rfl,_,rfl,bh ?_⟩
   exact k H12 ((hp10.same s11).same s12) (fun x o h n _=>s12 _ _ (s11 _ _ (k010 _ _ h n))) ((T10.same s11).same s12)
  ·have e2:k2=true:=hsh.mpr ⟨L,hL⟩
   subst e2
   have hkr11:=s11 _ _ hkr10
   have lL:=hL.low lt lu
   have ⟨Ll,tL⟩:=hL.len2
   have cL:=hL.cov
   have L1:1≤L.length:=by lia
   have k011:Keep p H H11:=fun c o h n=>s11 _ _ (k010 _ _ h n)
   have ha11:=s11 _ _ ha10
   have hb11:=s11 _ _ hb10
   have hp11:=hp10.same s11
   have T11:=T10.same s11
   clear hkr10 ha10 hb10 s11 k010 T10
   refine c6 (fun R hR=>?_) fun H12 s12=>?_
   ·exact⟨_,rfl,rfl,_,rfl,kr,_,_,_,rfl,rfl,SqL.of hkr11,bu (j:=2) rfl,rfl,_,rfl,hR _ (Same.refl _)⟩
   refine⟨_,rfl,rfl,_,rfl,a9 ?_⟩
   have ha12:=s12 _ _ ha11
   have hb12:=s12 _ _ hb11
   have hsr12:=s12 _ _ hsr
   unfold fg
   dsimp only
   refine c6 (fun R hR=>?_) fun H13 s13=>?_
   ·refine gN (fun R' hR'=>?_) fun H13 s13=>?_
    ·refine wo (i:=8) (j:=2) rfl rfl hsr12 hb12 lL lu L1 u1 (by lia) (by lia) fun H13 s13=>?_
     rw[cL]
     exact⟨_,rfl,hR' _ s13⟩
    ·refine⟨_,rfl,_,rfl,a,sr,t,L,rfl,s13 _ _ ha12,s13 _ _ hsr12,lt,lL,tL,by lia,hL.stands,fun H14 s14=>⟨_,rfl,hR _ (s13.trans s14)⟩⟩
   have ha13:=s13 _ _ ha12
   have hb13:=s13 _ _ hb12
   have hsr13:=s13 _ _ hsr12
   refine c6 (fun R hR=>?_) fun H14 s14=>?_
   ·refine wN (fun R' hR'=>?_) fun H14 s14=>hR _ s14
    refine⟨_,rfl,sr,_,rfl,SqL.of hsr13,_,rfl,a,_,rfl,SqL.of ha13,_,rfl,b,_,rfl,SqL.of hb13,_,_,rfl,rfl,.inl ⟨by decide,by decide⟩,_,_,rfl,rfl,_,_,rfl,rfl,_,_,rfl,rfl,_,rfl,?_⟩
    rw[List.length_map,List.length_map,List.length_map,decide_eq_false (by lia)]
    exact hR' _ (Same.refl _)
   have s1114:=(s12.trans s13).trans s14
   have k014:Keep p H H14:=fun c o h n=>s1114 _ _ (k011 _ _ h n)
   have ha14:=s1114 _ _ ha11
   have hb14:=s1114 _ _ hb11
   have hsr14:=s1114 _ _ hsr
   have hp14:=hp11.same s1114
   have T14:=T11.same s1114
   have nsr:sr≠p:=aB hp14 hsr14
   clear s12 s13 s14 s1114 ha12 ha13 hb12 hb13 hsr12 hsr13
   refine mO (fun σ H'=>∃v9,σ=[some (.ref p),some (.ref a),some (.ref b),some (.ref kr),some (.bl (ba t u)),some (.ref tr),some (.int far),some (.int times),some (.ref sr),v9]∧Keep pt H14 H'∧TB H' pt) ?_ fun R hR=>?_
   ·rintro σ H15 ⟨v9,rfl,k15,T15⟩
    have hp15:Hand H15 p:=hp14.keepP (TB.handNe T14 hp14) k15
    have fin:Q (.bl true) H15:=k H15 hp15 (fun x o h n m=>k15 _ _ (k014 _ _ h n) m) T15
    cases hw:ba t u with
    | false=>exact⟨_,rfl,_,rfl,_,rfl,bh fin⟩
    | true=>
      have e:L=t:=hL.uniq (xZ u1 hw)
      refine⟨_,rfl,_,rfl,_,rfl,a9 ⟨_,rfl,_,rfl,sr,a,L,t,rfl,rfl,SqL.of (k15 _ _ hsr14 (TB.ne T14 hsr14)),SqL.of (k15 _ _ ha14 (TB.ne T14 ha14)),lL.cp,lt.cp,?_⟩⟩
      rw[decide_eq_true e]
      exact fin
   ·refine⟨_,rfl,sr,_,rfl,SqL.of hsr14,_,_,rfl,rfl,_,rfl,?_⟩
    rw[List.length_map]
    by_cases h2:(L.length:Int)<201
    ·rw[decide_eq_true h2]
     refine bh ?_
     obtain⟨ds,hds,eL⟩:=yU u1 _ _ rfl (t4 u1 L1 cL)
     have txl:(tx u ds).length=u.length+ds.sum:=gi fun d hd=>(hds d hd).1.2.1
     rw[eL] at hsr14 lL h2
     refine bL ⟨_,rfl,_,rfl,b,sr,u,ds,rfl,hb14,hsr14,lu,lL,u1,ul,by lia,hds,T14,fun S H15 st k15 T15=>?_⟩
     have hsr15:=k15 _ _ hsr14 (TB.ne T14 hsr14)
     have hb15:=k15 _ _ hb14 (TB.ne T14 hb14)
     have hdS:∀d∈ds,d∈S:=fun d hd=>st.mem.mpr (hds d hd)
     have hSg:∀d,d∈S→Sg u d:=fun d hd=>st.mem.mp hd
     have hrl:rk S u.length ds<dD u (tx u ds).length:=by rw[txl,←st.cn];exact i9 st.one hdS
     have t1x:1≤(tx u ds).length:=by rw[txl];lia
     refine⟨_,rfl,_,rfl,sr,_,rfl,SqL.of hsr15,_,rfl,b,u,(tx u ds).length,rk S u.length ds,by rw[List.length_map];rfl,hb15,lu,u1,ul,t1x,by lia,hrl,T15,fun tq S3 es3 H16 tq0 st3 hes hsum hrk htq k16 T16=>?_⟩
     obtain rfl:=st.uniq st3
     obtain rfl:ds=es3:=vv hSg st.nodup st.key hdS hes (by lia) hrk.symm
     have hsr16:=k16 _ _ hsr15 (T15.ne hsr15)
     refine⟨_,rfl,tq,sr,tx u ds,tx u ds,rfl,rfl,SqL.of htq,SqL.of hsr16,lL.cp,lL.cp,_,rfl,?_⟩
     rw[if_pos rfl,decide_eq_true rfl]
     exact a9 (hR _ _ ⟨_,rfl,fun x o h n=>k16 _ _ (k15 _ _ h n) n,T16⟩)
    ·rw[decide_eq_false h2]
     exact a9 (hR _ _ ⟨_,rfl,fun _ _ h _=>h,T14⟩)
end
abbrev jm:Stmt:=aJ 61
abbrev kQ:Stmt:=aJ 62
def me:Sp:=fun vs H Q _=>∃(p a b:Addr) (t u:List Nat),vs=[.ref p,.ref a,.ref b]∧Hand H p∧H a=some (.lst (t.map sg))∧H b=some (.lst (u.map sg))∧Low t∧Low u∧1≤t.length∧t.length≤300∧1≤u.length∧u.length≤62∧ba t u=true∧
 ∀H',Hand H' p→Keep p H H'→Q (.bl true) H'
def pN:Sp:=fun vs H Q _=>∃(a:Addr) (t:List Nat),vs=[.ref a]∧H a=some (.lst (t.map sg))∧Low t∧1≤t.length∧t.length≤40∧∀H',Same H H'→Q (.bl true) H'
def OwnAt(D:Addr)(H:Hp):List V→List (List Nat)→Prop
 | [],[]=>True
 | y::ys,v::os=>(∃x,y=.ref x∧x≠D∧H x=some (.lst (v.map sg)))∧OwnAt D H ys os
 | _,_=>False
theorem OwnAt.mono{D:Addr}{H H':Hp}(h:∀x o,x≠D→H x=some o→H' x=some o):∀{ys:List V} {os:List (List Nat)},OwnAt D H ys os→OwnAt D H' ys os
 | [],[],_=>trivial
 | y::ys,v::os,⟨⟨x,e,n,g⟩,r⟩=>⟨⟨x,e,n,h x _ n g⟩,r.mono h⟩
theorem OwnAt.snoc{D x:Addr}{H:Hp}{v:List Nat}(n:x≠D)(g:H x=some (.lst (v.map sg))):∀{ys:List V} {os:List (List Nat)},OwnAt D H ys os→OwnAt D H (ys++[.ref x]) (os++[v])
 | [],[],_=>⟨⟨x,rfl,n,g⟩,trivial⟩
 | y::ys,w::os,⟨a,r⟩=>⟨a,r.snoc n g⟩
theorem OwnAt.dat{K:PySem.W.Frag}{D:Addr}{H:Hp}:∀{ys:List V} {os:List (List Nat)},OwnAt D H ys os→(∀v∈os,Low v)→DatVs K H (os.map eO) ys
 | [],[],_,_=>lj
 | y::ys,v::os,⟨⟨x,e,_,g⟩,r⟩,l=>by
   subst e
   exact qz (gk (SqL.of g) (l v List.mem_cons_self).cp) (r.dat fun w hw=>l w (List.mem_cons_of_mem _ hw))
theorem uj(os:List (List Nat))(v:List Nat):(os.map eO).any (fun e=>PyData.eqv e (eO v))=decide (v∈os):=by
 induction os with
 | nil=>rfl
 | cons w os ih=>
   rw[List.map_cons,List.any_cons,ih,sF]
   by_cases h:w=v
   ·subst h;simp
   ·simp[h,Ne.symm h]
def dE(t:List Nat)(m:Nat)(L:List (Nat×Nat)):List (List Nat):=(L.filter fun q=>decide (q.1=m)).map fun q=>aC t m q.2
theorem oT(t:List Nat)(m:Nat)(L:List (Nat×Nat))(q:Nat×Nat):dE t m (L++[q])=dE t m L++(if q.1=m then [aC t m q.2] else []):=by
 unfold dE
 rw[List.filter_append,List.map_append]
 congr 1
 by_cases h:q.1=m <;> simp[h]
theorem mem_own{t:List Nat}{m:Nat}{L:List (Nat×Nat)}{v:List Nat}:v∈dE t m L↔∃q,(m,q)∈L∧aC t m q=v:=by
 unfold dE
 constructor
 ·intro h
  obtain⟨⟨a,q⟩,h1,h2⟩:=List.mem_map.mp h
  obtain⟨h3,h4⟩:=List.mem_filter.mp h1
  have:a=m:=of_decide_eq_true h4
  subst this
  exact⟨q,h3,h2⟩
 ·rintro⟨q,h1,h2⟩
  exact List.mem_map.mpr ⟨(m,q),List.mem_filter.mpr ⟨h1,decide_eq_true rfl⟩,h2⟩
theorem uo(n:Nat):(d7 1 1 n).map V.int=am (bd n):=by
 unfold d7 am bd
 rw[List.map_map,List.map_map,List.map_map]
 refine List.map_congr_left fun q _=>?_
 show V.int ((1+q*1:Nat):Int)=V.int ((q+1:Nat):Int)
 congr 2;lia
section
variable{P:Program}{w:World}{K:PySem.W.Frag}{mg:Str→Option Value}{base:Heap}
theorem scPR:FnScope ["deck","longer","word","begin","end"] ["deck","longer","word"] (au jm):=fsc_
theorem scLR:FnScope ["text","every","back","told","length","own","place","piece"] ["text"] (au kQ):=fsc_
theorem qY(M:Md K mg)(B:Bl mg)(F:FF K "_law_pieces_right" jm)(F_law_take:Fn P w K mg base ae "_law_take" 1 ["deck","many"] dg)(Frest_behind:Fn P w K mg base ae "rest_behind" 5 ["text","word"] (bD false true))(Frest_ahead:Fn P w K mg base ae "rest_ahead" 5 ["text","word"] (bD true false))(Frest_both:Fn P w K mg base ae "rest_both" 5 ["text","word"] (bD true true)):Fn P w K mg base ae "_law_pieces_right" 6 ["deck","longer","word"] me:=by
 refine aK M F scPR (fun _ _ _ _ _ _=>cN fun _ _ _=>rfl) (fun vs H Q E h=>?_) (fun f cdv A outer s H vs Q E hr h=>?_)
 ·obtain⟨p,a,b,t,u,rfl,_⟩:=h;rfl
 ·obtain⟨p,a,b,t,u,rfl,hp,ha,hb,lt,lu,t1,tl,u1,ul,cv,k⟩:=h
  refine⟨_,(ah (ar (i:=3) scPR.nd rfl (.inl rfl) (ai F_law_take hr aj (aa (pv 0) (aa (av B.len (pv 1)) ac))))
   (ah (ar (i:=4) scPR.nd rfl (.inl rfl) (ak aW (ak aW (pv 3) af) (ai F_law_take hr aj (aa (pv 0) (aa (ak a7 (av B.len (pv 1)) (pv 3)) ac)))))
   (ah (aV (PW.pt (eI (cO (bx (ai Frest_both hr aj (aa (aP aO (pv 1) (aH (pv 3)) (aH (pv 4))) (aa (pv 2) ac))))) (eR (cO (bx (ai Frest_behind hr aj (aa (aP aO (pv 1) a6 (aH (pv 4))) (aa (pv 2) ac)))))))) (al (aw bB)) aU)
   (al (aw (ai Frest_ahead hr aj (aa (aP aO (pv 1) (aH (pv 3)) a6) (aa (pv 2) ac)))))))),?_⟩
  have nap:=aB hp ha
  have nbp:=aB hp hb
  refine bL ⟨_,rfl,_,rfl,a,_,rfl,SqL.of ha,p,_,rfl,hp,by rw[List.length_map];lia,fun bg H1 b0 b1 hp1 k1=>?_⟩
  rw[List.length_map] at b1
  obtain⟨n,rfl⟩:∃n:Nat,bg=(n:Int):=⟨bg.toNat,by lia⟩
  have ha1:=k1 _ _ ha nap
  refine uD ⟨_,rfl,_,_,rfl,rfl,_,rfl,_,rfl,a,_,rfl,SqL.of ha1,_,rfl,_,_,rfl,rfl,p,_,rfl,hp1,by rw[List.length_map];lia,fun d H2 d0 d1 hp2 k2=>?_⟩
  rw[List.length_map] at d1
  refine⟨_,_,rfl,rfl,?_⟩
  obtain⟨e,he⟩:∃e:Nat,(n:Int)+1+d=(e:Int):=⟨((n:Int)+1+d).toNat,by lia⟩
  refine i6 (j:=(e:Int)) (congrArg V.int he) ?_
  have ne:n<e:=by lia
  have et:e≤t.length:=by lia
  have k02:Keep p H H2:=fun x o h m=>k2 _ _ (k1 _ _ h m) m
  have ha2:=k02 _ _ ha nap
  have hb2:=k02 _ _ hb nbp
  have cl:((t.drop n).take (e-n)).length=e-n:=by rw[List.length_take,List.length_drop];lia
  refine c6 (fun R hR=>?_) fun H3 s3=>?_
  ·refine gN (fun R' hR'=>?_) fun H3 s3=>?_
   ·refine⟨_,rfl,_,rfl,_,rfl,_,rfl,_,rfl,a,_,rfl,SqL.of ha2,fun l hl=>?_⟩
    rw[bO,bE,dN _ _ _ (by lia) (by lia),Int.toNat_natCast,Int.toNat_natCast]
    have s3:=Same.upd (o:=.lst (((t.drop n).take (e-n)).map sg)) hl
    refine⟨_,rfl,l,b,(t.drop n).take (e-n),u,rfl,ad,s3 _ _ hb2,(lt.drop _).take _,lu,by rw[cl];lia,u1,by rw[cl];lia,by lia,fun H4 s4=>?_⟩
    rw[i7 (A:=true) (B:=true) u1 cv ne et (fun z=>nomatch z) (fun z=>nomatch z)]
    exact⟨_,rfl,hR' _ (s3.trans s4)⟩
   ·refine⟨_,rfl,_,rfl,_,rfl,a,_,rfl,SqL.of (s3 _ _ ha2),fun l hl=>?_⟩
    rw[bW (by lia),Int.toNat_natCast]
    have s4:=Same.upd (o:=.lst ((t.take e).map sg)) hl
    have cr:=i7 (A:=false) (B:=true) (b:=0) (e:=e) u1 cv (by lia) et (fun _=>rfl) (fun z=>nomatch z)
    rw[List.drop_zero,Nat.sub_zero] at cr
    refine⟨_,rfl,l,b,t.take e,u,rfl,ad,s4 _ _ (s3 _ _ hb2),lt.take _,lu,by rw[List.length_take];lia,u1,by rw[List.length_take];lia,by lia,fun H5 s5=>?_⟩
    rw[cr]
    exact⟨_,rfl,hR _ ((s3.trans s4).trans s5)⟩
  refine⟨_,rfl,_,rfl,_,rfl,a,_,rfl,SqL.of (s3 _ _ ha2),fun l hl=>?_⟩
  rw[cR (by lia),Int.toNat_natCast]
  have s4:=Same.upd (o:=.lst ((t.drop n).map sg)) hl
  have cr:=i7 (A:=true) (B:=false) (b:=n) (e:=t.length) u1 cv (by lia) (Nat.le_refl _) (fun z=>nomatch z) (fun _=>rfl)
  rw[List.take_of_length_le (by rw[List.length_drop];lia)] at cr
  refine⟨_,rfl,l,b,t.drop n,u,rfl,ad,s4 _ _ (s3 _ _ hb2),lt.drop _,lu,by rw[List.length_drop];lia,u1,by rw[List.length_drop];lia,by lia,fun H5 s5=>?_⟩
  rw[cr]
  have s25:=(s3.trans s4).trans s5
  exact k H5 (hp2.same s25) fun x o h m=>s25 _ _ (k02 _ _ h m)
theorem xO(M:Md K mg)(B:Bl mg)(F:FF K "_law_lists_right" kQ)(Frest_behind:Fn P w K mg base ae "rest_behind" 5 ["text","word"] (bD false true))(Frest_ahead:Fn P w K mg base ae "rest_ahead" 5 ["text","word"] (bD true false))(Frest_both:Fn P w K mg base ae "rest_both" 5 ["text","word"] (bD true true))(Fbeginnings_with_rest:Fn P w K mg base ae "beginnings_with_rest" 6 ["text"] pH)(Fends_with_rest:Fn P w K mg base ae "ends_with_rest" 6 ["text"] nU)(Fpieces_with_rests:Fn P w K mg base ae "pieces_with_rests" 6 ["text"] lK):Fn P w K mg base ae "_law_lists_right" 7 ["text"] pN:=by
 refine aK M F scLR (fun _ _ _ _ _ _=>bJ fun _=>rfl) (fun vs H Q E h=>?_) (fun f cdv A outer s H vs Q E hr h=>?_)
 ·obtain⟨a,t,rfl,_⟩:=h;rfl
 ·obtain⟨a,t,rfl,ha,lt,t1,tl,k⟩:=h
  refine⟨_,(ah (ar (i:=1) scLR.nd rfl (.inl rfl) (yt rfl B.list B.range (aa af (aa (ak aW (av B.len (pv 0)) af) ac))))
   (ah (aV (aM (ip (by exact hr)) (ai Fbeginnings_with_rest hr aj (aa (pv 0) ac)) (bP ["text","every","back","told","length","own","place","piece"] rfl (bK (pv 1)) (fun _=>by exact(cg (bx (ai Frest_behind hr aj (aa (pv 0) (aa (aP aO (pv 0) a6 (aH (pv 8))) ac)))))) (fun _=>by exact(pv 8))) (aF _)) (al (aw bB)) aU)
   (ah (gT (i:=2) ["text","every","back","told","length","own","place","piece"] rfl scLR.nd rfl (.inl rfl) (bK (pv 1)) (fun _=>by exact(cg (bx (ai Frest_ahead hr aj (aa (pv 0) (aa (aP aO (pv 0) (aH (ak a7 (av B.len (pv 0)) (pv 8))) a6) ac)))))) (fun _=>by exact(pv 8)))
   (ah (aV (PW.pt (eI (aM (ip (by exact hr)) (ai Fends_with_rest hr aj (aa (pv 0) ac)) (pv 2) (aF _)) (eR (aM (ip (by exact hr)) (ai Fbeginnings_with_rest hr aj (aa (jb (pv 0)) ac)) (pv 2) (aF _))))) (al (aw bB)) aU)
   (ah (ar (i:=3) scLR.nd rfl (.inl rfl) (ai Fpieces_with_rests hr aj (aa (pv 0) ac)))
   (ah (cT PassesOwn.never rfl (bK (pv 1)) (bq (i:=4) scLR.nd rfl (.inr rfl))
   (ah (yi (i:=5) ["size","place"] ["text","every","back","told","length","own"," ","piece"] rfl scLR.nd rfl (.inl rfl) (bK (pv 3)) (fun _=>by exact(eV rfl (cF (bq (i:=8) (show((["text","every","back","told","length","own"," ","piece"]:List Str)++(["size","place"]:List Str)).Nodup by decide+kernel) rfl (.inl rfl)) (cF (bq (i:=9) (show((["text","every","back","told","length","own"," ","piece"]:List Str)++(["size","place"]:List Str)).Nodup by decide+kernel) rfl (.inl rfl)) fc)))) (fun _=>by exact(cg (aM bR (pv 8) (pv 4) (aF _)))) (fun _=>by exact(aP aO (pv 0) (aH (pv 9)) (aH (ak aW (pv 9) (pv 4))))))
   (al (cT PassesOwn.never rfl (dq (by rfl) B.range (aa (ak aW (ak a7 (av B.len (pv 0)) (pv 4)) af) ac)) (bq (i:=6) scLR.nd rfl (.inl rfl))
   (ah (ar (i:=7) scLR.nd rfl (.inl rfl) (aP aO (pv 0) (aH (pv 6)) (aH (ak aW (pv 6) (pv 4)))))
   (al (aV (aM i5 (dL (ut (by exact hr)) (pv 7) (pv 5) (by with_unfolding_all rfl)) (ai Frest_both hr aj (aa (pv 0) (aa (pv 7) ac))) (aF _)) (al (aw bB)) aU)))))))
   (al (aw bB)))))))),?_⟩
  refine bL ⟨_,rfl,a,_,rfl,SqL.of ha,_,_,rfl,rfl,1,t.length+1,t.length,by rw[List.length_map];rfl,by decide,by lia,by lia,fun ev hev=>?_⟩
  rw[uo]
  have s1:=Same.upd (o:=.lst (am (bd t.length))) hev
  have hev1:=ad (H:=H) (a:=ev) (o:=.lst (am (bd t.length)))
  generalize L2.upd H ev (.lst (am (bd t.length)))=H1 at s1 hev1 ⊢
  have upl:=qh t.length
  refine c6 (fun R hR=>?_) fun H2 s2=>?_
  ·refine⟨_,rfl,a,t,rfl,s1 _ _ ha,lt,t1,by lia,fun br H2 br0 hbr s2=>?_⟩
   refine⟨_,rfl,ev,rfl,⟨_,SqL.of (s2 _ _ hev1)⟩,fun D hD cb=>?_⟩
   refine c9 (K:=K) (a:=ev) (xs:=am (bd t.length)) (fun i ys H3=>ys=am (((bd t.length).take i).filter (cy t))∧Same H2 H3∧H3 D=some (.lst ys)) (by rw[aT,upl];exact bi (by lia)) ?_ ?_ ?_ ?_ ?_
   ·exact⟨rfl,Same.upd hD,ad⟩
   ·rintro i ys H3 ⟨rfl,_⟩
    rw[aT]
    exact Nat.le_trans (List.length_filter_le _ _) (by rw[List.length_take];lia)
   ·rintro i ys H3 _ ⟨_,s3,_⟩;exact SqL.of (s3 _ _ (s2 _ _ hev1))
   ·rintro i x ys H3 hx ⟨rfl,s3,hD3⟩
    obtain⟨m,hm,rfl⟩:=dF hx
    obtain⟨m1,mn⟩:=gh (List.mem_of_getElem? hm)
    refine mX (K:=K) (j:=8) (n:=(m:Int)) rfl rfl (s3 _ _ (s2 _ _ (s1 _ _ ha))) lt (by lia) (by lia) (by lia) fun H4 s4=>?_
    rw[Int.toNat_natCast]
    have hD4:=s4 _ _ hD3
    have s34:=s3.trans s4
    have fa:=kK (f:=cy t) hm
    by_cases hb:cy t m=true
    ·rw[hb]
     refine bh ⟨_,rfl,hD4,?_,fun b o e=>?_,ad⟩
     ·rw[fa,if_pos hb,cP]
     ·rw[ao (aN e hD)];exact s34 _ _ e
    ·rw[show cy t m=false by simpa using hb]
     refine a9 ⟨?_,s34,hD4⟩
     rw[fa,if_neg hb,List.append_nil]
   ·rintro ys H3 ⟨rfl,s3,hD3⟩
    rw[aT,List.take_length] at hD3
    refine⟨br,D,_,_,rfl,rfl,SqL.of (s3 _ _ hbr),SqL.of hD3,?_⟩
    rw[if_pos rfl,decide_eq_true rfl]
    exact⟨_,rfl,hR _ (s2.trans s3)⟩
  have s02:=s1.trans s2
  have hev2:=s2 _ _ hev1
  refine bL ⟨_,rfl,ev,rfl,⟨_,SqL.of hev2⟩,fun bk hbk cb=>?_⟩
  refine c9 (K:=K) (a:=ev) (xs:=am (bd t.length)) (fun i ys H3=>ys=am (((bd t.length).take i).filter (cD t))∧Same H2 H3∧H3 bk=some (.lst ys)) (by rw[aT,upl];exact bi (by lia)) ?_ ?_ ?_ ?_ ?_
  ·exact⟨rfl,Same.upd hbk,ad⟩
  ·rintro i ys H3 ⟨rfl,_⟩
   rw[aT]
   exact Nat.le_trans (List.length_filter_le _ _) (by rw[List.length_take];lia)
  ·rintro i ys H3 _ ⟨_,s3,_⟩;exact SqL.of (s3 _ _ hev2)
  ·rintro i x ys H3 hx ⟨rfl,s3,hD3⟩
   obtain⟨m,hm,rfl⟩:=dF hx
   obtain⟨m1,mn⟩:=gh (List.mem_of_getElem? hm)
   refine mI (K:=K) (j:=8) (n:=(m:Int)) rfl rfl (s3 _ _ (s02 _ _ ha)) lt (by lia) (by lia) (by lia) fun H4 s4=>?_
   rw[Int.toNat_natCast]
   have hD4:=s4 _ _ hD3
   have s34:=s3.trans s4
   have fa:=kK (f:=cD t) hm
   by_cases hb:cD t m=true
   ·rw[hb]
    refine bh ⟨_,rfl,hD4,?_,fun b o e=>?_,ad⟩
    ·rw[fa,if_pos hb,cP]
    ·rw[ao (aN e hbk)];exact s34 _ _ e
   ·rw[show cD t m=false by simpa using hb]
    refine a9 ⟨?_,s34,hD4⟩
    rw[fa,if_neg hb,List.append_nil]
  ·rintro ys H3 ⟨rfl,s3,hbk3⟩
   rw[aT,List.take_length] at hbk3
   have s03:=s02.trans s3
   have hev3:=s3 _ _ hev2
   refine c6 (fun R hR=>?_) fun H4 s4=>?_
   ·refine gN (fun R' hR'=>?_) fun H4 s4=>?_
    ·refine⟨_,rfl,a,t,rfl,s03 _ _ ha,lt,t1,by lia,fun er H4 er0 her s4=>?_⟩
     refine⟨_,rfl,er,bk,_,_,rfl,rfl,SqL.of her,SqL.of (s4 _ _ hbk3),?_⟩
     rw[if_pos rfl,decide_eq_true rfl]
     exact⟨_,rfl,hR' _ s4⟩
    ·refine⟨_,rfl,a,_,rfl,SqL.of (s4 _ _ (s03 _ _ ha)),fun ra hra=>?_⟩
     rw[←List.map_reverse]
     have s5:=Same.upd (o:=.lst (t.reverse.map sg)) hra
     refine⟨ra,t.reverse,rfl,ad,fun c hc=>lt c (List.mem_reverse.mp hc),by rw[List.length_reverse];exact t1,by rw[List.length_reverse];lia,fun er H6 er0 her s6=>?_⟩
     rw[qV] at her
     have s46:=(s4.trans s5).trans s6
     refine⟨_,rfl,er,bk,_,_,rfl,rfl,SqL.of her,SqL.of (s46 _ _ hbk3),?_⟩
     rw[if_pos rfl,decide_eq_true rfl]
     exact⟨_,rfl,hR _ s46⟩
   have s04:=s03.trans s4
   refine bL ⟨_,rfl,a,t,rfl,s04 _ _ ha,lt,t1,tl,fun tr H5 tr0 htr s5=>?_⟩
   have s05:=s04.trans s5
   have hev5:=s5 _ _ (s4 _ _ hev3)
   obtain⟨cs,hcs,csl,hcq⟩:=htr
   have dl:=m7 (t:=t) (k:=t.length) tl tl
   refine oY ⟨_,rfl,ev,rfl,⟨_,SqL.of hev5⟩,?_⟩
   refine lB (K:=K) (a:=ev) (xs:=am (bd t.length)) (fun i σ H6=>Same H5 H6∧∃v4 v5 v6 v7,σ=[some (.ref a),some (.ref ev),some (.ref bk),some (.ref tr),v4,v5,v6,v7]) ⟨Same.refl _,_,_,_,_,rfl⟩ (fun i σ H6 _ h=>SqL.of (h.1 _ _ hev5)) ?_ ?_
   ·rintro D1 i x σ H6 nx1 hx ⟨s6,v4,v5,v6,v7,rfl⟩
    obtain⟨m,hm,rfl⟩:=dF hx
    obtain⟨m1,mn⟩:=gh (List.mem_of_getElem? hm)
    have s06:=s05.trans s6
    have ha6:=s06 _ _ ha
    refine bL ⟨_,rfl,tr,rfl,⟨_,SqL.of (s6 _ _ hcs)⟩,fun ow how cb=>?_⟩
    refine qM (K:=K) (k:=2) (a:=tr) (xs:=cs.map V.ref) (fun i ys H7=>OwnAt ow H7 ys (dE t m ((bt t t.length).take i))∧ys.length≤i∧Same H6 H7∧H7 ow=some (.lst ys)) ?_ ?_ ?_ ?_ ?_ ?_
    ·rw[List.length_map,csl];exact e8 (by lia)
    ·exact⟨by rw[List.take_zero];exact trivial,Nat.le_refl _,Same.upd how,ad⟩
    ·rintro i ys H7 ⟨_,h,_⟩;exact h
    ·rintro i ys H7 _ ⟨_,_,s7,_⟩
     exact SqL.of (s7 _ _ (s6 _ _ hcs))
    ·rintro i2 x ys H7 hx7 ⟨oa,yl,s7,how7⟩
     rw[List.getElem?_map] at hx7
     cases q:cs[i2]? with
     | none=>rw[q] at hx7;cases hx7
     | some c=>
       rw[q] at hx7
       obtain rfl:=Option.some.inj hx7
       have il:i2<(bt t t.length).length:=by have:=(List.getElem?_eq_some_iff.mp q).1;lia
       have hq:(bt t t.length)[i2]?=some (bt t t.length)[i2]:=List.getElem?_eq_getElem il
       generalize (bt t t.length)[i2]=qq at hq
       have hc7:=s7 _ _ (s6 _ _ (hcq i2 c qq q hq))
       have tk:(bt t t.length).take (i2+1)=(bt t t.length).take i2++[qq]:=by rw[List.take_add_one,hq];rfl
       refine⟨c,_,rfl,SqT.of hc7,rfl,_,_,rfl,_,_,rfl,rfl,?_,?_⟩
       ·intro j hj
        match j,hj with
        | 0,_=>rfl
        | 1,_=>rfl
        | 2,_=>rfl
        | 3,_=>rfl
        | 4,_=>rfl
        | 5,_=>rfl
        | 6,_=>rfl
        | 7,_=>rfl
       ·refine⟨_,rfl,_,rfl,rfl,_,rfl,?_⟩
        by_cases hm':qq.1=m
        ·rw[decide_eq_true (by rw[hm'])]
         refine bh ⟨_,rfl,_,rfl,_,rfl,_,rfl,_,rfl,_,_,rfl,rfl,_,rfl,a,_,rfl,SqL.of (s7 _ _ ha6),fun l hl=>?_⟩
         rw[bO,bE,dN _ _ _ (by lia) (by lia),Int.toNat_natCast,show((qq.2:Int)+(m:Int)).toNat-qq.2=m by lia]
         have s8:=Same.upd (o:=.lst ((aC t m qq.2).map sg)) hl
         have nl:l≠ow:=fun e=>by rw[e,how7] at hl;cases hl
         refine⟨s8 _ _ how7,?_,by simp;lia,fun x o e=>?_,ad⟩
         ·rw[tk,oT,if_pos hm']
          have o8:OwnAt ow (L2.upd H7 l (.lst ((aC t m qq.2).map sg))) ys (dE t m ((bt t t.length).take i2)):=oa.mono fun x o _ e=>s8 _ _ e
          exact(o8.snoc nl ad).mono fun x o n e=>by rw[ao n];exact e
         ·rw[ao (aN e how)];exact s8 _ _ (s7 _ _ e)
        ·rw[decide_eq_false (fun e=>hm' (by have:=V.int.inj e;lia))]
         refine a9 ⟨?_,by lia,s7,how7⟩
         rw[tk,oT,if_neg hm',List.append_nil]
         exact oa
    ·rintro ys H7 ⟨oa,yl,s7,how7⟩
     rw[List.length_map,csl,List.take_length] at oa
     have s07:=s06.trans s7
     have lo:∀v∈dE t m (bt t t.length),Low v:=fun v hv=>by
      obtain⟨q,_,rfl⟩:=mem_own.mp hv
      exact(lt.drop _).take _
     refine⟨_,rfl,a,_,rfl,SqL.of (s07 _ _ ha),_,rfl,_,_,rfl,rfl,_,_,rfl,rfl,_,rfl,by rw[List.length_map];lia,by rw[List.length_map];lia,?_⟩
     rw[List.length_map,show((t.length:Int)-(m:Int)+1).toNat=t.length+1-m by lia]
     refine sf (lo:=0) (n:=t.length+1-m) (fun j σ H8=>Same H7 H8∧∃v6 v7,σ=[some (.ref a),some (.ref ev),some (.ref bk),some (.ref tr),some (.int (m:Int)),some (.ref ow),v6,v7]) ⟨Same.refl _,_,_,rfl⟩ ?_ ?_
     ·rintro D2 j σ H8 nx2 jl ⟨s8,w6,w7,rfl⟩
      have s08:=s07.trans s8
      refine bL ⟨_,rfl,_,rfl,_,rfl,_,rfl,_,rfl,_,_,rfl,rfl,_,rfl,a,_,rfl,SqL.of (s08 _ _ ha),fun pl hpl=>?_⟩
      rw[bO,bE,dN _ _ _ (by lia) (by lia),show(0+(j:Int)).toNat=j by lia,show(0+(j:Int)+(m:Int)).toNat-j=m by lia]
      have s9:=Same.upd (o:=.lst ((aC t m j).map sg)) hpl
      have hpl9:=ad (H:=H8) (a:=pl) (o:=.lst ((aC t m j).map sg))
      generalize L2.upd H8 pl (.lst ((aC t m j).map sg))=H9 at s9 hpl9 ⊢
      have s89:=s8.trans s9
      have pl':(aC t m j).length=m:=nT jl
      have lp:Low (aC t m j):=(lt.drop _).take _
      refine u4 (fun R hR=>?_) fun H10 s10=>nx2 _ _ ⟨s89.trans s10,_,_,rfl⟩
      refine⟨_,rfl,_,rfl,eO (aC t m j),_,gk (SqL.of hpl9) lp.cp,i8 (SqL.of (s89 _ _ how7)) ((oa.mono fun x o _ e=>s89 _ _ e).dat lo),Nat.le_trans (yj _) (by decide),?_⟩
      rw[if_neg (by decide),uj]
      refine⟨_,rfl,_,rfl,a,pl,t,aC t m j,rfl,(s08.trans s9) _ _ ha,hpl9,lt,lp,t1,by lia,by lia,by lia,fun H10 s10=>⟨rfl,_,rfl,?_⟩⟩
      have e:decide (aC t m j∈dE t m (bt t t.length))=bv t (aC t m j) (aG (aC t m j) true) (aL t (aC t m j) true):=by
       refine Bool.eq_iff_iff.mpr ?_
       rw[decide_eq_true_eq,mem_own]
       exact sT m1 mn jl
      rw[e,decide_eq_true rfl]
      exact hR _ s10
     ·rintro σ H8 ⟨s8,w6,w7,rfl⟩
      exact nx1 _ _ ⟨(s6.trans s7).trans s8,_,_,_,_,rfl⟩
   ·rintro σ H6 ⟨s6,v4,v5,v6,v7,rfl⟩
    exact k H6 (s05.trans s6)
end
abbrev km:Stmt:=aJ 63
def gl(K:PySem.W.Frag)(pt:Addr):Sp:=fun vs H Q _=>∃(a:Addr) (ns:List Int),vs=[.ref a]∧SqL K H a (ns.map V.int)∧ns.length≤63∧TB H pt∧∀H',TB H' pt→Q (.bl true) H'
theorem xE{K:PySem.W.Frag}{σ:St}{H:Hp}{a:Addr}{ns:List Int}{n:Int}{R:It→Hp→Prop}(hi:σ[0]?=some (some (.ref a)))(hS:SqL K H a (ns.map V.int))(hn:0≤n)(hn2:n≤100)(k:∀(b:Addr) (xs:List Int) (H':Hp),H' b=some (.lst (xs.map V.int))→Same H H'→R (cm K b) H'):ng K (cf jF (fi (fA K) (bo 0) fF (fB (tC (.int n)))) (om (bV (dG (kz K) [] E0 (bV (bo 0) (bV (tC (.int 0)) dO))) dO))) σ H R:=by
 refine⟨_,hi,n,rfl,a,_,rfl,hS,fun l0 hl0=>?_⟩
 have e1:bp (ns.map V.int) none (some n)=(ns.take n.toNat).map V.int:=by rw[bO,bE,fT _ _ hn]
 rw[e1] at*
 have s1:=Same.upd (o:=.lst ((ns.take n.toNat).map V.int)) hl0
 refine⟨_,hi,a,ns,rfl,s1.seq hS,fun c=>⟨by show 1≤sizeLine;decide,fun l1 hl1=>?_⟩⟩
 have s2:=Same.upd (o:=.lst [V.int c]) hl1
 refine⟨l0,l1,_,_,rfl,rfl,s2 _ _ ad,ad,by rw[List.length_map,List.length_take,List.length_singleton];exact sz (by lia),fun b hb=>?_⟩
 refine⟨b,rfl,⟨_,SqL.of ad⟩,k b (ns.take n.toNat++[c]) _ ?_ ((s1.trans s2).trans (Same.upd hb))⟩
 rw[ad,List.map_append];rfl
theorem zh{xs:List Int}{i:Nat}{x:V}(h:(xs.map V.int)[i]?=some x):∃z:Int,x=.int z:=by
 rw[List.getElem?_map] at h
 cases e:xs[i]? with
 | none=>rw[e] at h;cases h
 | some z=>rw[e] at h;exact⟨z,(Option.some.inj h).symm⟩
theorem ub{te:TE}{g:TG}{aq:TS}{D:Ends}{σ:St}{H:Hp}(h:te σ H fun x H1=>g x σ H1 fun σ2 H2=>aq D σ2 H2):cY (d8 te g) aq D σ H:=h
theorem qj{c:TT}{t aq:TS}{D:Ends}{σ:St}{H:Hp}(T:Hp→Prop)(h:∀R:Bool→Hp→Prop,(∀H',T H'→R false H')→c σ H R)(q:∀H',T H'→aq D σ H'):cY (fz c t fg) aq D σ H:=h (fun b H1=>if b=true then _ else _) fun H' s'=>a9 (q H' s')
theorem zk{c:TT}{t:TS}{D:Ends}{σ:St}{H:Hp}(T:Hp→Prop)(h:∀R:Bool→Hp→Prop,(∀H',T H'→R false H')→c σ H R)(q:∀H',T H'→D.nx σ H'):fz c t fg D σ H:=h (fun b H1=>if b=true then _ else _) fun H' s'=>a9 (q H' s')
theorem wa{c d:TT}{σ:St}{H:Hp}{R:Bool→Hp→Prop}(T:Hp→Prop)(h:∀Q:Bool→Hp→Prop,(∀H',T H'→Q false H')→c σ H Q)(g:∀H',T H'→d σ H' R):kg c d σ H R:=h (fun b H1=>if b=true then _ else _) fun H' s'=>a9 (g H' s')
theorem rm{n:Nat}{l:List Nat}(h:l.Nodup)(b:∀x∈l,x<n):l.length≤n:=by
 have p:l.Perm ((List.range n).filter fun x=>decide (x∈l)):=(List.perm_ext_iff_of_nodup h (List.nodup_range.filter _)).mpr fun x=>by
  rw[List.mem_filter,List.mem_range,decide_eq_true_eq]
  exact⟨fun m=>⟨b x m,m⟩,fun m=>m.2⟩
 have:=p.length_eq
 have q:=List.length_filter_le (fun x=>decide (x∈l)) (List.range n)
 rw[List.length_range] at q
 lia
theorem tY{u A:List Nat}(hA:A.Nodup)(h:∀c∈A,c∈u)(lu:Low u):A.length≤26:=by
 have:=rm (n:=26) (l:=A.map fun c=>c-97) ?_ ?_
 ·rwa[List.length_map] at this
 ·refine List.pairwise_map.mpr (hA.imp_of_mem fun{x y} hx hy ne e=>ne ?_)
  have b1:=lu x (h x hx)
  have b2:=lu y (h y hy)
  lia
 ·intro v hv
  obtain⟨c,hc,rfl⟩:=List.mem_map.mp hv
  have:=lu c (h c hc)
  lia
structure LawS(b p ta ua pt:Addr)(cs:List Int)(t u:List Nat)(H:Hp):Prop where
 hb:H b=some (.lst (cs.map V.int))
 ht:H ta=some (.lst (t.map sg))
 hu:H ua=some (.lst (u.map sg))
 hp:Hand H p
 tb:TB H pt
 nb:b≠p
section
variable{b p ta ua pt:Addr}{cs:List Int}{t u:List Nat}{H H':Hp}
theorem LawS.same(L:LawS b p ta ua pt cs t u H)(s:Same H H'):LawS b p ta ua pt cs t u H':=⟨s _ _ L.hb,s _ _ L.ht,s _ _ L.hu,L.hp.same s,L.tb.same s,L.nb⟩
theorem LawS.kp(L:LawS b p ta ua pt cs t u H)(k:Keep p H H')(h:Hand H' p):LawS b p ta ua pt cs t u H':=⟨k _ _ L.hb L.nb,k _ _ L.ht (aB L.hp L.ht),k _ _ L.hu (aB L.hp L.hu),h,TB.hand L.tb L.hp k,L.nb⟩
theorem LawS.kk(L:LawS b p ta ua pt cs t u H)(k:KK p pt H H')(h:Hand H' p)(T:TB H' pt):LawS b p ta ua pt cs t u H':=⟨k _ _ L.hb L.nb (TB.ne L.tb L.hb),k _ _ L.ht (aB L.hp L.ht) (TB.ne L.tb L.ht),k _ _ L.hu (aB L.hp L.hu) (TB.ne L.tb L.hu),h,T,L.nb⟩
end
section
variable{P:Program}{w:World}{K:PySem.W.Frag}{mg:Str→Option Value}{base:Heap}
theorem scLaw:FnScope ["script","cell","deck","text","word","letters","longer"] ["script"] (au km):=fsc_
theorem sK{pt:Addr}(M:Md K mg)(B:Bl mg)(nsorted:mg "sorted"=none)(nset:mg "set"=none)(F:FF K "law" km)(F_law_cell_at:Fn P w K mg base ae "_law_cell_at" 1 ["script","k"] (kz K))(F_law_deck:Fn P w K mg base ae "_law_deck" 1 ["cell"] lI)(F_law_take:Fn P w K mg base ae "_law_take" 1 ["deck","many"] dg)(F_law_pair:Fn P w K mg base ae "_law_pair" 4 ["deck","long"] m8)(F_law_right:Fn P w K mg base ae "_law_right" 8 ["deck","text","word"] (o5 pt))(F_law_overlaid:Fn P w K mg base ae "_law_overlaid" 3 ["deck","letters","word","many"] jZ)(Fcovered:Fn P w K mg base ae "covered" 5 ["text","word"] d9)(F_law_pieces_right:Fn P w K mg base ae "_law_pieces_right" 6 ["deck","longer","word"] me)(F_law_lists_right:Fn P w K mg base ae "_law_lists_right" 7 ["text"] pN):Fn P w K mg base ae "law" 9 ["script"] (gl K pt):=by
 refine aK M F scLaw (fun _ _ _ _ _ _=>bJ fun _=>rfl) (fun vs H Q E h=>?_) (fun f cdv A outer s H vs Q E hr h=>?_)
 ·obtain⟨a,ns,rfl,_⟩:=h;rfl
 ·obtain⟨a,ns,rfl,hS,hlen,T,k⟩:=h
  refine⟨_,(ah (cT PassesOwn.never rfl (bK (ak bZ (aP aO (pv 0) a6 (aH af)) (bI (aa (ai F_law_cell_at hr aj (aa (pv 0) (aa af ac))) ac)))) (bq (i:=1) scLaw.nd rfl (.inl rfl))
   (ah (ar (i:=2) scLaw.nd rfl (.inl rfl) (ai F_law_deck hr aj (aa (pv 1) ac)))
   (ah (fJ (ai F_law_pair hr aj (aa (pv 2) (aa bB ac))) (eV rfl (cF (bq (i:=3) scLaw.nd rfl (.inl rfl)) (cF (bq (i:=4) scLaw.nd rfl (.inl rfl)) fc))))
   (ah (aV (PW.pt (eI (cO (bx (ai F_law_right hr aj (aa (pv 2) (aa (pv 3) (aa (pv 4) ac)))))) (eR (cO (bx (ai F_law_right hr aj (aa (pv 2) (aa (pv 4) (aa (aP aO (pv 3) a6 (aH af)) ac))))))))) (al (aw bB)) aU)
   (ah (gT (i:=5) ["script","cell","deck","text","word","letters","longer"] rfl scLaw.nd rfl (.inl rfl) (bK (u8 rfl nsorted (wF rfl nset (pv 3)))) (fun _=>by exact d5) (fun _=>by exact(pv 7)))
   (ah (ar (i:=6) scLaw.nd rfl (.inl rfl) (aP aO (ai F_law_overlaid hr aj (aa (pv 2) (aa (pv 5) (aa (pv 4) (aa (ak aW af (ai F_law_take hr aj (aa (pv 2) (aa af ac)))) ac))))) a6 (aH af)))
   (ah (aV (PW.pt (gc (aM bR (aR kR (ai Fcovered hr aj (aa (pv 6) (aa (pv 4) ac))) af (fun _ _=>rfl)) cS (aF _)) (fX (cO (bx (ai F_law_pieces_right hr aj (aa (pv 2) (aa (pv 6) (aa (pv 4) ac))))))))) (al (aw bB)) aU)
   (al (aV (cO (bx (ai F_law_lists_right hr aj (aa (aP aO (pv 3) a6 (aH (aR aZ (bI (aa af (aa af (aa af (aa af ac))))) (ai F_law_take hr aj (aa (pv 2) (aa af ac))) (fun _ _=>rfl)))) ac)))) (al (aw bB)) aU)))))))))
   (al (aw bB))),?_⟩
  refine oY (xE (K:=K) (n:=3) rfl hS (by decide) (by decide) fun b cs H1 hb1 s01=>?_)
  refine lB (K:=K) (a:=b) (xs:=cs.map V.int) (fun i σ H2=>H2 b=some (.lst (cs.map V.int))∧TB H2 pt∧∃v1 v2 v3 v4 v5 v6,σ=[some (.ref a),v1,v2,v3,v4,v5,v6]) ⟨hb1,T.same s01,_,_,_,_,_,_,rfl⟩ (fun i σ H2 _ h2=>SqL.of h2.1) ?_ ?_
  ·rintro D1 i x σ H2 nx1 hx ⟨hb2,T2,v1,v2,v3,v4,v5,v6,rfl⟩
   obtain⟨c,rfl⟩:=zh hx
   refine bL ⟨_,rfl,c,rfl,fun p H3 hp0 hp3 s3=>?_⟩
   have hb3:=s3 _ _ hb2
   have nb:b≠p:=aN hb2 hp0
   have T3:=T2.same s3
   refine ub ⟨_,rfl,p,rfl,hp3,fun t u ta ua g H4 hta0 hua0 hg0 hta hua hg lt t1 tl lu u1 ul hp4 k4=>?_⟩
   refine⟨g,_,rfl,SqT.of hg,rfl,_,_,rfl,_,_,rfl,rfl,?_⟩
   have L4:LawS b p ta ua pt cs t u H4:=⟨k4 _ _ hb3 nb,hta,hua,hp4,TB.hand T3 hp3 k4,nb⟩
   refine qj (LawS b p ta ua pt cs t u) (fun R hR=>?_) fun H5 L5=>?_
   ·refine wa (LawS b p ta ua pt cs t u) (fun R' hR'=>?_) fun H5 L5=>?_
    ·exact⟨_,rfl,_,rfl,_,rfl,p,ta,ua,t,u,rfl,L4.hp,L4.ht,L4.hu,lt,lu,t1,by lia,u1,by lia,L4.tb,fun H5 hp5 k5 T5=>⟨_,rfl,hR' _ (L4.kk k5 hp5 T5)⟩⟩
    ·refine⟨_,rfl,_,rfl,_,rfl,9,rfl,ta,_,rfl,SqL.of L5.ht,fun l hl=>?_⟩
     rw[bW (by decide)]
     have s6:=Same.upd (o:=.lst ((t.take (9:Int).toNat).map sg)) hl
     have L6:=L5.same s6
     have tk1:1≤(t.take (9:Int).toNat).length∧(t.take (9:Int).toNat).length≤9:=by rw[List.length_take,show(9:Int).toNat=9 from rfl];lia
     exact⟨p,ua,l,u,t.take (9:Int).toNat,rfl,L6.hp,L6.hu,ad,lu,lt.take _,u1,by lia,tk1.1,by lia,L6.tb,fun H7 hp7 k7 T7=>⟨_,rfl,hR _ (L6.kk k7 hp7 T7)⟩⟩
   have dn:=wl t
   have d26:=tY dn.1 (fun c hc=>(dn.2.1 c).mp hc) lt
   refine bL ⟨_,rfl,ta,t,rfl,L5.ht,by lia,fun sa hsa=>⟨sa,dQ t,rfl,ad,fun z=>?_,by lia,fun so Al pm so0=>?_⟩⟩
   ·cases t with
    | nil=>simp at t1
    | cons c r=>have:=(dn.2.1 c).mpr (by simp);rw[z] at this;cases this
   have Alt:∀c,c∈Al↔c∈t:=fun c=>pm.mem_iff.trans (dn.2.1 c)
   have lA:Low Al:=fun c hc=>lt c ((Alt c).mp hc)
   have A26:Al.length≤26:=by rw[pm.length_eq];exact d26
   have A1:1≤Al.length:=by
    cases t with
    | nil=>simp at t1
    | cons c r=>
      have:=(Alt c).mpr (by simp)
      cases Al with
      | nil=>cases this
      | cons x y=>simp
   generalize hO _ sa (dQ t)=oS at so0 ⊢
   have s6:=(Same.upd (o:=oS) hsa).trans (Same.upd (o:=.lst (Al.map sg)) so0)
   have hso:=ad (H:=L2.upd H5 sa oS) (a:=so) (o:=.lst (Al.map sg))
   have L6:=L5.same s6
   generalize L2.upd (L2.upd H5 sa oS) so (.lst (Al.map sg))=H6 at s6 hso L6 ⊢
   refine⟨so,rfl,⟨_,SqL.of hso⟩,fun ll hll cb=>?_⟩
   refine c9 (K:=K) (a:=so) (xs:=Al.map sg) (fun i ys H7=>ys=(Al.take i).map sg∧Same H6 H7∧H7 ll=some (.lst ys)) (by rw[List.length_map];exact bi (by lia)) ?_ ?_ ?_ ?_ ?_
   ·exact⟨rfl,Same.upd hll,ad⟩
   ·rintro i ys H7 ⟨rfl,_⟩
    rw[List.length_map,List.length_take];lia
   ·rintro i ys H7 _ ⟨_,s7,_⟩;exact SqL.of (s7 _ _ hso)
   ·rintro i x ys H7 hx ⟨rfl,s7,hll7⟩
    rw[List.getElem?_map] at hx
    cases e:Al[i]? with
    | none=>rw[e] at hx;cases hx
    | some d=>
      rw[e] at hx
      obtain rfl:=Option.some.inj hx
      refine dW ⟨_,rfl,hll7,?_,fun x o q=>by rw[ao (aN q hll)];exact s7 _ _ q,ad⟩
      rw[List.take_add_one,e];simp
   rintro ys H7 ⟨rfl,s7,hll7⟩
   rw[List.length_map,List.take_length] at hll7
   have L7:=L6.same s7
   refine bL ⟨_,rfl,_,rfl,_,rfl,_,rfl,p,4,rfl,L7.hp,by decide,fun r H8 r0 r1 hp8 k8=>?_⟩
   have L8:=L7.kp k8 hp8
   have hll8:=k8 _ _ hll7 (aB L7.hp hll7)
   refine⟨_,_,rfl,rfl,p,ll,ua,Al,u,1+r,rfl,hp8,hll8,lA,A1,by lia,L8.hu,lu,u1,ul,by lia,by lia,fun lg lq H9 lq0 hlq llg lg1 lgl hp9 k9=>?_⟩
   have L9:=L8.kp k9 hp9
   refine⟨200,rfl,lq,_,rfl,SqL.of hlq,fun lo hlo=>?_⟩
   rw[bW (by decide)]
   have s10:=Same.upd (o:=.lst ((lg.take (200:Int).toNat).map sg)) hlo
   have hlo10:=ad (H:=H9) (a:=lo) (o:=.lst ((lg.take (200:Int).toNat).map sg))
   have L10:=L9.same s10
   generalize L2.upd H9 lo (.lst ((lg.take (200:Int).toNat).map sg))=H10 at s10 hlo10 L10 ⊢
   have vl:1≤(lg.take (200:Int).toNat).length∧(lg.take (200:Int).toNat).length≤200:=by rw[List.length_take,show(200:Int).toNat=200 from rfl];lia
   have lv:Low (lg.take (200:Int).toNat):=llg.take _
   generalize lg.take (200:Int).toNat=v at hlo10 vl lv
   refine qj (LawS b p ta ua pt cs t u) (fun R hR=>?_) fun H11 L11=>?_
   ·refine mh (i:=6) (j:=4) rfl rfl hlo10 L10.hu lv lu vl.1 u1 (by lia) (by lia) fun H11 s11=>⟨_,rfl,?_⟩
    have L11:=L10.same s11
    cases hw:ba v u with
    | false=>exact a9 (hR _ L11)
    | true=>exact bh ⟨_,rfl,_,rfl,_,rfl,p,lo,ua,v,u,rfl,L11.hp,s11 _ _ hlo10,L11.hu,lv,lu,vl.1,by lia,u1,by lia,hw,fun H12 hp12 k12=>⟨_,rfl,hR _ (L11.kp k12 hp12)⟩⟩
   refine zk (LawS b p ta ua pt cs t u) (fun R hR=>?_) fun H12 L12=>nx1 _ _ ⟨L12.hb,L12.tb,_,_,_,_,_,_,rfl⟩
   refine⟨_,rfl,by show 4≤sizeLine;decide,fun l hl=>?_⟩
   have s12:=Same.upd (o:=.lst [V.int 9,.int 9,.int 9,.int 40]) hl
   have hl12:=ad (H:=H11) (a:=l) (o:=.lst [V.int 9,.int 9,.int 9,.int 40])
   have L12:=L11.same s12
   have nl:l≠p:=(L11.hp.ne hl).symm
   generalize L2.upd H11 l (.lst [V.int 9,.int 9,.int 9,.int 40])=H12 at s12 hl12 L12 ⊢
   refine⟨_,rfl,p,4,rfl,L12.hp,by decide,fun d H13 d0 d1 hp13 k13=>?_⟩
   have L13:=L12.kp k13 hp13
   obtain⟨m,m1,m2,hat⟩:∃m:Int,9≤m∧m≤40∧bA [V.int 9,.int 9,.int 9,.int 40] d=some (.int m):=by
    have:d=0∨d=1∨d=2∨d=3:=by lia
    rcases this with h | h | h | h
    ·subst h;exact⟨9,by decide,by decide,rfl⟩
    ·subst h;exact⟨9,by decide,by decide,rfl⟩
    ·subst h;exact⟨9,by decide,by decide,rfl⟩
    ·subst h;exact⟨40,by decide,by decide,rfl⟩
   refine⟨l,_,d,_,rfl,rfl,SqL.of (k13 _ _ hl12 nl),hat,_,rfl,ta,_,rfl,SqL.of L13.ht,fun tx htx=>?_⟩
   rw[bW (by lia)]
   have s14:=Same.upd (o:=.lst ((t.take m.toNat).map sg)) htx
   have L14:=L13.same s14
   exact⟨tx,t.take m.toNat,rfl,ad,lt.take _,by rw[List.length_take];lia,by rw[List.length_take];lia,fun H15 s15=>⟨_,rfl,hR _ (L14.same s15)⟩⟩
  ·rintro σ H2 ⟨hb2,T2,v1,v2,v3,v4,v5,v6,rfl⟩
   exact k H2 T2
end
def iy(n:Int):Option (Option Value)→Bool
 | some (some (.int i _))=>decide (i=n)
 | _=>false
theorem mF{n:Int}{o:Option (Option Value)}(h:iy n o=true):∃u,o=some (some u)∧RelV (.int n) u:=by
 unfold iy at h
 split at h
 ·rename_i i t
  have e:i=n:=of_decide_eq_true h
  subst e
  exact⟨_,rfl,t,rfl⟩
 ·cases h
theorem vz{P:Program}{w:World}{K:PySem.W.Frag}{mg:Str→Option Value}{st:Stmt}{fa:Addr}{k:Nat}{sp:Sp}{CX:bN}(M:Md K mg)(F:FF K "law" st)(hfa:mg "law"=some (.ref fa))(hb:∀(kV doc pm:Value) (an:Option Addr) (cdv ct:Value) (s:Shared) (v:Value),BindsTo s (PySem.W.fnOf "law" "law" (cE st) (bw st) (au st) .none kV doc pm an cdv ct) ⟨[v],[]⟩ [("script",v)])(h:∀base:Heap,K.In base→cU mg base→Fn P w K mg base CX "law" k ["script"] sp):∃fd:FuncData,(∀(s:Shared) (v:Value),BindsTo s fd ⟨[v],[]⟩ [("script",v)])∧∀base:Heap,K.In base→base.Ns mainGlobals mg→cU mg base→FnOk P w K mg base CX k fa fd ["script"] sp:=by
 obtain⟨f,oc,od,an,osl,kV,doc,pm,cdv,ct,a,l,c,kk⟩:=F.ex
 have e:=hfa.symm.trans (M.ns _ _ a)
 cases e
 refine⟨_,hb kV doc pm an cdv ct,fun base hK _ hB=>?_⟩
 obtain⟨f',fd',F',hm',_,_,oc',od',osl',l'⟩:=(h base hK hB).ex
 have e:=hm'.symm.trans (M.ns _ _ a)
 cases e
 rw[l] at l'
 cases l'
 exact F'
theorem all_mk{P:Program}{w:World}{K:PySem.W.Frag}{h:Heap}{mg:Str→Option Value}{fa cc pt:Addr}(X:K.In h)(G:h.Ns mainGlobals mg)(hfa:mg "law"=some (.ref fa))(hC:PySem.W.codeHdIn K cc pt=true)(f1:FF K "_law_cell_at" iL)(f2:FF K "_law_deck" kT)(f3:FF K "_law_take" ji)(f4:FF K "_law_letters" fV)(f5:FF K "_law_signs" kA)(f6:FF K "_law_word" jT)(f7:FF K "_law_overlaid" ke)(f8:FF K "_law_bent" jg)(f9:FF K "_law_pair" jq)(f10:FF K "is_sign" ki)(f11:FF K "check_signs" jA)(f12:FF K "check_word" kj)(f13:FF K "check_some" jV)(f14:FF K "check_few" jN)(f15:FF K "check_within" jd)(f16:FF K "borders" kM)(f17:FF K "periods" kD)(f18:FF K "lies_at" kL)(f19:FF K "piece_places" iX)(f20:FF K "first_bare" fS)(f21:FF K "covered" jC)(f22:FF K "check_both" j5)(f23:FF K "agrees_at" jh)(f24:FF K "agreeing_places" jw)(f25:FF K "places_with_rests" kW)(f26:FF K "leaves_none_bare" kX)(f27:FF K "rest_behind" kC)(f28:FF K "rest_ahead" iK)(f29:FF K "rest_both" iI)(f30:FF K "beginnings_with_rest" kE)(f31:FF K "ends_with_rest" jR)(f32:FF K "pieces_with_rests" kU)(f33:FF K "shown_with_rests" kw)(f34:FF K "shifts" kF)(f35:FF K "counts_by_length" j6)(f36:FF K "number_of" kN)(f37:FF K "next_step" jI)(f38:FF K "text_at" i4)(f39:FF K "_law_kinds" jy)(f40:FF K "_law_renamed" iY)(f41:FF K "_law_shown" jW)(f42:FF K "_law_stands" jY)(f43:FF K "_law_right" gf)(f44:FF K "_law_pieces_right" jm)(f45:FF K "_law_lists_right" kQ)(f46:FF K "law" km)(fC:FFC K "single_steps" fw cc)(exs:Md K mg→∃c,Exs K mg c)(na:PySem.W.nsIn K mainGlobals "sorted"=some none)(ne:PySem.W.nsIn K mainGlobals "set"=some none)(nm:iy 200 (PySem.W.nsIn K mainGlobals "MOST_LENGTH")=true)(ns:iy 40 (PySem.W.nsIn K mainGlobals "MOST_SIGNS")=true)(b:Md K mg→Bl mg):∃fd:FuncData,(∀(s:Shared) (v:Value),BindsTo s fd ⟨[v],[]⟩ [("script",v)])∧∀base:Heap,K.In base→base.Ns mainGlobals mg→cU mg base→FnOk P w K mg base ae 9 fa fd ["script"] (gl K pt):=by
 have M:=sR X G
 have Bl:=b M
 obtain⟨cC,S⟩:=exs M
 obtain⟨uM,nm1,nm2⟩:=mF nm
 obtain⟨uS,ns1,ns2⟩:=mF ns
 have nsorted:mg "sorted"=none:=M.ns _ _ na
 have nset:mg "set"=none:=M.ns _ _ ne
 refine vz M f46 hfa (fun _ _ _ _ _ _ s v=>.of_eq rfl) fun base hK hB=>?_
 have C:=PySem.W.codeHd_of_K hK hC
 have g1:=xV (P:=P) (w:=w) (base:=base) M Bl f1
 have g2:=vX (P:=P) (w:=w) (base:=base) M Bl f2
 have g3:=rX (P:=P) (w:=w) (base:=base) M f3
 have g4:=uq M Bl f4 g3
 have g5:=xz M Bl f5 g3
 have g6:=wy M Bl f6 g3 g5
 have g7:=yk M Bl f7 g3 g5
 have g8:=rW M Bl f8 g3 g5
 have g9:=qO M Bl f9 g3 g4 g6 g7 g8
 have g10:=sM (P:=P) (w:=w) (base:=base) M Bl f10
 have g11:=qF M Bl f11 g10
 have g12:=wz M Bl f12 g11
 have g13:=tX (P:=P) (w:=w) (base:=base) M Bl f13
 have g14:=sW M Bl (M.ns _ _ ns1) ns2 f14 g11 g13
 have g15:=wf (P:=P) (w:=w) (base:=base) M Bl f15
 have g16:=sQ M Bl f16 g11
 have g17:=tZ M Bl f17 g16
 have g18:=y9 M Bl f18 g11 g12
 have g19:=u9 (P:=P) (w:=w) (base:=base) M Bl f19
 have g20:=wB (P:=P) (w:=w) (base:=base) M Bl f20
 have gI:=sj (P:=P) (w:=w) (base:=base) M Bl f20
 have g21:=uk M Bl f21 g18 g13 g20
 have g22:=tN M Bl f22 g11 g12 g13
 have g23:=rh (P:=P) (w:=w) (base:=base) M Bl f23
 have g24:=xX M Bl f24 g23
 have g25:=ui M Bl f25 g24
 have g26:=yD M Bl f26 gI
 have g27:=uU M Bl f27 g22 g26 g24
 have g28:=yL M Bl f28 g22 g26 g24
 have g29:=rs M Bl f29 g22 g26 g25
 have g30:=uW M Bl f30 g11 g13 g27
 have g31:=yq M Bl f31 g11 g13 g28
 have g32:=yG M Bl f32 g14 g19 g29
 have g33:=yP M Bl f33 ⟨S.bNoCover,S.isIn⟩ g29 g18 g25
 have g34:=uA M Bl f34 g12 g17
 have gS:=vt M Bl nsorted C hB fC g34 g18
 have g35:=uT (P:=P) (w:=w) (base:=base) M Bl f35
 have g36:=qC M Bl f36 g21 gS g35
 have g37:=yN (P:=P) (w:=w) (base:=base) M Bl f37
 have g38:=tz M Bl (M.ns _ _ nm1) nm2 f38 g12 g15 gS g35 g37
 have g39:=sU M Bl f39 g27 g28 g29
 have g40:=x4 (P:=P) (w:=w) (base:=base) M Bl f40
 have g41:=wU M Bl f41 S g33
 have g42:=wW (P:=P) (w:=w) (base:=base) M Bl f42
 have g43:=uI M Bl f43 g3 g39 g21 g40 g41 g42 g36 g38
 have g44:=qY M Bl f44 g3 g27 g28 g29
 have g45:=xO M Bl f45 g27 g28 g29 g30 g31 g32
 exact sK M Bl nsorted nset f46 g1 g2 g3 g9 g43 g7 g21 g44 g45
theorem walk{l:PySem.W.OpenLaw}{q:Program}{loose:List Str}{XP:(Str→Option Value)→Heap→Prop}{YP:World→Heap→Prop}{d:DefRec}{K:Params→PySem.W.Frag}{c pt:Addr}(hn:l.most=some 63)(hdf:d.params.defaults=[])(hY:∀(w:World) (h:Heap),YP w h→(K w.params).In h)(hT:∀(w:World) (h:Heap),YP w h→h.get? pt=some (PySem.W.tabObj #[]))(hC:∀w:World,PySem.W.codeHdIn (K w.params) c pt=true)(hKP:∀w:World,(K w.params).lookup pt=none)(F:∀(w:World) (mg:Str→Option Value) (fa:Addr) (h:Heap),PySem.W.codeHdIn (K w.params) c pt=true→(K w.params).In h→h.Ns mainGlobals mg→mg d.name=some (.ref fa)→∃fd:FuncData,(∀(s:Shared) (u:Value),BindsTo s fd ⟨[u],[]⟩ [("script",u)])∧∀base:Heap,(K w.params).In base→base.Ns mainGlobals mg→cU mg base→FnOk l.prog w (K w.params) mg base ae 9 fa fd ["script"] (gl (K w.params) pt)):PySem.W.WalkO q loose XP YP l.row.toRowW d [] (fun f vs=>PySem.call f vs):=by
 refine L2.walk_tab (n:=63) (k:=9) (x:="script") (c:=c) (P:=pt) (CX:=fun _=>ae) (sp:=fun w=>gl (K w.params) pt) hn (by decide) hdf ⟨rfl,by decide,by decide⟩ hY hT hC hKP (fun w mg fa h=>F w mg fa h (hC w)) (fun _ _ a ns hl B hS=>⟨a,ns,rfl,hS,hl,.inl B.tab,fun H' T=>⟨rfl,?_⟩⟩) fun _ _ _ _ _ z=>z
 rcases T with t | ⟨c,t,_⟩
 ·exact⟨_,t⟩
 ·exact⟨_,t⟩
end Ov
noncomputable section
namespace PySem.W.Fast
def tw5187632265247045412:=Nat
def tw14914243844910767666:=Nat
def tw3319543037832857656:=Nat
def tw3002243117055605111:=Nat
def tw5246145834435391575:=Nat
def tw18084705463395703603:=Nat
def tw2853456376243962673:=Nat
def tw13261705071107693877:=Nat
def tw12668841727972188478:=Nat
def tw2665934360586634538:=Nat
def tw1465509473012701886:=Nat
def tw17687605469404372312:=Nat
def tw3598081641973916126:=Nat
def tw14379381991737106878:=Nat
def tw16564192208243086:=Nat
def tw11350873369611487589:=Nat
def tw11244277282093145548:=Nat
def tw6950522577206297927:=Nat
def tw9223391611743950699:=Nat
def tw8658899956161870464:=Nat
def tw10209402669488474417:=Nat
def tw11332964692170693390:=Nat
def tw1338741518265748882:=Nat
def tw10652122301315332860:=Nat
def tw6218046726487084326:=Nat
def tw5804456728866394577:=Nat
def tw2097145888014713819:=Nat
def tw13000109868541882939:=Nat
def tw13586430716446693217:=Nat
def tw11394260382813157871:=Nat
def tw18546334624937494:=Nat
def tw10607062660314086317:=Nat
def tw5375914933574349395:=Nat
def tw15873691525731642715:=Nat
def tw6831926671152902855:=Nat
def tw15433468939583429210:=Nat
def tw2740625040474493057:=Nat
def tw4209404877640410752:=Nat
def tw9215267785003421786:=Nat
def tw10596689034681448536:=Nat
def tw15989187457302895393:=Nat
def tw10730135439138637174:=Nat
def tw13461149680423406484:=Nat
def tw16217176911745330339:=Nat
def tw11745832454418594879:=Nat
def tw14413297668806133711:=Nat
def tw9431317006689415652:=Nat
def tw3405823213510784067:=Nat
def tw250883079411816694:=Nat
def tw6739886229184449655:=Nat
def tw8617785522060202166:=Nat
def tw17201169265015143798:=Nat
def tw1858819878226134897:=Nat
def tw16348574802214618943:=Nat
def tw12806200039439827200:=Nat
def tw1874786723874808326:=Nat
def tw11545463691301186230:=Nat
def tw4237489154618138194:=Nat
def tw4940488411390029121:=Nat
def tw3472460691923370057:=Nat
def tw7794574688436946733:=Nat
def tw7707790159482756583:=Nat
def tw7119745242660406788:=Nat
def tw7501274388154228048:=Nat
def tw4057684723763386192:=Nat
def tw2098392160727958194:=Nat
def tw12237451568997508975:=Nat
def tw18208912315777782435:=Nat
def tw9539422137715424519:=Nat
def tw13589350795795567035:=Nat
def tw5244326087888293145:=Nat
def tw12221502959346816633:=Nat
def tw17885340182426259068:=Nat
def tw15724926915217823844:=Nat
def tw10566761163158506565:=Nat
def tw7791078577284469566:=Nat
def tw11349003571807050775:=Nat
def tw4553382916353954542:=Nat
def tw14137224628960675547:=Nat
def tw16082822567890069691:=Nat
def tw14359450238025368120:=Nat
def tw408762978963212703:=Nat
def tw11834084386115928411:=Nat
def tw913779287193571400:=Nat
def tw15236292850559065022:=Nat
def tw12276315152468480257:=Nat
def tw14660172556962047322:=Nat
def tw13118182980331379708:=Nat
def tw17720675989675364338:=Nat
def tw1042447466209347900:=Nat
def tw6665617457167892865:=Nat
def tw15493541525284575326:=Nat
def tw7054961002241852877:=Nat
def tw12561211513468188030:=Nat
def tw11214438009144798336:=Nat
def tw12495303850198326535:=Nat
def tw8556427688496047190:=Nat
def tw15526933394142606460:=Nat
def tw10680840586874026602:=Nat
def tw435617679274856402:=Nat
def tw2550786923179994228:=Nat
def tw15657499047525050377:=Nat
def tw10596942678824974125:=Nat
def tw15998134621788679131:=Nat
def tw15161277618473454848:=Nat
def tw14605693091400704528:=Nat
def tw1852837817578238864:=Nat
def tw14581953068073975596:=Nat
def tw16618415565444893404:=Nat
def tw5770522542365101851:=Nat
def tw14571880146831635736:=Nat
def tw13666173145465502836:=Nat
def tw4780432469805374900:=Nat
def tw16689878462861619128:=Nat
def tw17105170660083980151:=Nat
def tw12743593058449699878:=Nat
def tw6086294676534569595:=Nat
def tw16582614025784471879:=Nat
def tw14079613783585129693:=Nat
def tw3523711744499332902:=Nat
def tw5410196818722538619:=Nat
def tw9791578107911422017:=Nat
def tw2708838896390499772:=Nat
def tw12197742169762240222:=Nat
def tw5208564688143540469:=Nat
def tw11321850393578827359:=Nat
def tw12455628609376087302:=Nat
def tw4756304409619135333:=Nat
def tw16689362237605866658:=Nat
def tw9377125551646928586:=Nat
def tw2116115072410757430:=Nat
def tw9678882490628336028:=Nat
def tw5654706734450018756:=Nat
def tw10654590309365985129:=Nat
def tw13132713332356165867:=Nat
def tw14347364476817884992:=Nat
def tw2851596300802200606:=Nat
def tw2176706059493761025:=Nat
def tw11753208619269504193:=Nat
def tw1945579823590744926:=Nat
def tw11449586552017848802:=Nat
def tw8137513559280596455:=Nat
def tw7627075067258538221:=Nat
def tw18276769181931660033:=Nat
def tw3719135247148344892:=Nat
def tw13580473490620611315:=Nat
def tw7585368190777611395:=Nat
def tw17506965898601502439:=Nat
def tw2273733674188648727:=Nat
def tw10699374857996042023:=Nat
end PySem.W.Fast
end
open PySem PySem.W PyProof.Rows
set_option maxRecDepth 100000 in
set_option maxHeartbeats 0 in
theorem PySem.Challenge.cw_overlaid_k22_whole_rests_holds : PySem.Challenge.rw_overlaid_k22_whole_rests.Holds := by
 w_on;o_law;k_head;(case hw=>w_witness2)
 k_fill
 refine' Ov.walk (l:=PySem.Challenge.rw_overlaid_k22_whole_rests) rfl rfl (fun w h Y=>PySem.W.km_in_of Y) (fun w h Y=>PySem.W.km_tabs_of Y _ List.mem_cons_self) ?hC ?hKP ?F
 case F=>
  intro w mg fa h hc KX G hmg
  refine' Ov.all_mk KX G hmg hc ?f1 ?f2 ?f3 ?f4 ?f5 ?f6 ?f7 ?f8 ?f9 ?f10 ?f11 ?f12 ?f13 ?f14 ?f15 ?f16 ?f17 ?f18 ?f19 ?f20 ?f21 ?f22 ?f23 ?f24 ?f25 ?f26 ?f27 ?f28 ?f29 ?f30 ?f31 ?f32 ?f33 ?f34 ?f35 ?f36 ?f37 ?f38 ?f39 ?f40 ?f41 ?f42 ?f43 ?f44 ?f45 ?f46 ?fC ?X ?Nsorted ?Nset ?NMOST ?NMOSTS ?B
  (case fC=>(refine' Ov.ffc_mk ?a ?l ?c ?k;(case a|l|c|k=>k_is)))
  (case f1|f2|f3|f4|f5|f6|f7|f8|f9|f10|f11|f12|f13|f14|f15|f16|f17|f18|f19|f20|f21|f22|f23|f24|f25|f26|f27|f28|f29|f30|f31|f32|f33|f34|f35|f36|f37|f38|f39|f40|f41|f42|f43|f44|f45|f46=>(refine' L2.ff_mk ?a ?l ?c ?k;(case a|l|c|k=>k_is)))
  (case X=>(intro M;refine' ⟨_,Ov.exs_mk M ?a ?i ?es⟩;(case a=>k_is);(case i=>kernel_rfl);(case es=>kernel_rfl)))
  (case Nsorted=>k_is)
  (case Nset=>k_is)
  (case NMOST=>kernel_rfl)
  (case NMOSTS=>kernel_rfl)
  (case B=>(intro M;refine' L2.bl_of M ?b1 ?b2 ?b3 ?b4 ?b5 ?b6 ?b7 ?b8 ?b9 ?b10 ?b11 ?b12 ?b13 ?b14 ?b15;(case b1|b2|b3|b4|b5|b6|b7|b8|b9|b10|b11|b12|b13|b14|b15=>k_is)))
 case hC=>(intro w;kernel_rfl)
 case hKP=>(intro w;kernel_rfl)
