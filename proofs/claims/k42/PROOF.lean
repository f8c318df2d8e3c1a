import PyProof.Rows.All
import Wide.All
import OpenK.AllK
import Wide.FinOn
import Lean
import PyProof.EqAt
import PyProof.EqKinds
import PyProof.TupleCall
import PySem.Challenge.RW_overlaid_k42_counts_planted
set_option Elab.async false
set_option linter.all false
set_option maxRecDepth 100000
namespace L2
open PySem PySem.Spec PyProof.Rows
abbrev aM:=Sum Int Str
def ju:aM→Value→Bool
 | .inl k,v=>Value.isInt k v
 | .inr x,v=>Value.isStrOf x v
def p9(w:World):aM→Int
 | .inl k=>hashInt k
 | .inr x=>hashStr w x
theorem bT:∀{k:aM} {v:Value},ju k v=true→(∃i t,k=Sum.inl i∧v=Value.int i t)∨(∃x t,k=Sum.inr x∧v=Value.str x t)
 | .inl i,v,h=>by
   obtain⟨t,e⟩:=Value.isInt_shape (k:=i) (v:=v) h
   exact .inl ⟨i,t,rfl,e⟩
 | .inr x,v,h=>by
   obtain⟨t,e⟩:=Value.isStrOf_shape (x:=x) (v:=v) h
   exact .inr ⟨x,t,rfl,e⟩
theorem rE(a b:Int):decide ((Sum.inl a:aM)=Sum.inl b)=(a == b):=by
 by_cases e:a=b
 ·subst e;simp
 ·have h:¬(Sum.inl a:aM)=Sum.inl b:=fun q=>e (Sum.inl.inj q)
  rw[decide_eq_false h]
  exact(beq_eq_false_iff_ne.mpr e).symm
theorem pH(a b:Str):decide ((Sum.inr a:aM)=Sum.inr b)=decide (a=b):=by
 by_cases e:a=b
 ·subst e;simp
 ·have h:¬(Sum.inr a:aM)=Sum.inr b:=fun q=>e (Sum.inr.inj q)
  rw[decide_eq_false h,decide_eq_false e]
theorem nC(a:Int)(b:Str):decide ((Sum.inl a:aM)=Sum.inr b)=false:=decide_eq_false (fun q=>nomatch q)
theorem nU(a:Str)(b:Int):decide ((Sum.inr a:aM)=Sum.inl b)=false:=decide_eq_false (fun q=>nomatch q)
def iQ(prog:Program)(w:World):PySem.KeyKind prog w aM where
 is:=ju
 hash:=p9 w
 inj:=fun v a b ha hb=>by
  rcases bT ha with⟨i,t,rfl,rfl⟩ | ⟨x,t,rfl,rfl⟩
  ·rcases bT hb with⟨j,u,rfl,e⟩ | ⟨y,u,rfl,e⟩
   ·injection e with e1 _;rw[e1]
   ·exact nomatch e
  ·rcases bT hb with⟨j,u,rfl,e⟩ | ⟨y,u,rfl,e⟩
   ·exact nomatch e
   ·injection e with e1 _;rw[e1]
 byValue:=fun k v h=>by
  rcases bT h with⟨i,t,rfl,rfl⟩ | ⟨x,t,rfl,rfl⟩ <;> rfl
 pyHash:=fun hv h=>by
  rcases bT hv with⟨i,t,rfl,rfl⟩ | ⟨x,t,rfl,rfl⟩
  ·exact wpAny_pyHash_int h
  ·exact wpAny_pyHash_str h
 eqBool:=fun hu hv h=>by
  rcases bT hu with⟨i,t,rfl,rfl⟩ | ⟨x,t,rfl,rfl⟩
  ·rcases bT hv with⟨j,u,rfl,rfl⟩ | ⟨y,u,rfl,rfl⟩
   ·rw[rE] at h;exact wpAny_eqBool_int h
   ·rw[nC] at h;exact SeqAt.EqAt.int_str i t y u _ _ _ _ h
  ·rcases bT hv with⟨j,u,rfl,rfl⟩ | ⟨y,u,rfl,rfl⟩
   ·rw[nU] at h;exact SeqAt.EqAt.str_int x t j u _ _ _ _ h
   ·rw[pH] at h;exact wpAny_eqBool_str h
 «strs»:=fun k x t v h=>by
  rcases bT h with⟨i,u,rfl,e⟩ | ⟨y,u,rfl,e⟩
  ·exact nomatch e
  ·injection e with e1 _
   subst e1
   cases v <;> rfl
inductive V where
 | non | bl (b:Bool) | int (i:Int) | str (x:Str) | byt (b:Array UInt8) | flt (b:UInt64) | ref (a:Addr) | ty (n:String)
 deriving DecidableEq
def RelV:V→Value→Prop
 | .non,u=>u=Value.none
 | .bl b,u=>u=Value.bool b
 | .int i,u=>∃t,u=Value.int i t
 | .str x,u=>∃t,u=Value.str x t
 | .byt b,u=>∃t,u=Value.bytes b t
 | .flt b,u=>∃t,u=Value.float b t
 | .ref a,u=>u=Value.ref a
 | .ty n,u=>u=Value.type n
abbrev Vals:List V→List Value→Prop:=Paired RelV
theorem Vals.length{xs:List V}{us:List Value}(r:Vals xs us):xs.length=us.length:=Paired.length r
theorem Vals.get:∀{xs:List V} {us:List Value} {i:Nat} {x:V},Vals xs us→xs[i]?=some x→∃u,us[i]?=some u∧RelV x u
 | _,_,_,_,.nil,e=>by simp at e
 | _,_,0,_,.cons r _,e=>by simp at e;subst e;exact⟨_,rfl,r⟩
 | _,_,i+1,x,.cons _ t,e=>by
   obtain⟨u,h1,h2⟩:=Vals.get (i:=i) (x:=x) t (by simpa using e)
   exact⟨u,by simpa using h1,h2⟩
theorem Vals.set{x:V}{u:Value}(r:RelV x u):∀{xs:List V} {us:List Value} (i:Nat),Vals xs us→Vals (xs.set i x) (us.set i u)
 | _,_,_,.nil=>.nil
 | _,_,0,.cons _ t=>.cons r t
 | _,_,i+1,.cons q t=>.cons q (Vals.set r i t)
theorem Vals.append:∀{xs ys:List V} {us ws:List Value},Vals xs us→Vals ys ws→Vals (xs++ys) (us++ws)
 | _,_,_,_,.nil,s=>s
 | _,_,_,_,.cons r t,s=>.cons r (Vals.append t s)
theorem Vals.take:∀{xs:List V} {us:List Value} (n:Nat),Vals xs us→Vals (xs.take n) (us.take n)
 | _,_,0,_=>.nil
 | _,_,_+1,.nil=>.nil
 | _,_,n+1,.cons r t=>.cons r (Vals.take n t)
theorem Vals.drop:∀{xs:List V} {us:List Value} (n:Nat),Vals xs us→Vals (xs.drop n) (us.drop n)
 | _,_,0,r=>r
 | _,_,_+1,.nil=>.nil
 | _,_,n+1,.cons _ t=>Vals.drop n t
def gf:Option V→Option Value→Prop
 | some v,some u=>RelV v u
 | none,none=>True
 | _,_=>False
def KV{κ:Type}:List (κ×V)→List (κ×Value)→Prop:=Paired fun(p:κ×V) (q:κ×Value)=>p.1=q.1∧RelV p.2 q.2
def kV:aM→V
 | .inl i=>.int i
 | .inr x=>.str x
inductive HO where
 | lst (xs:List V)
 | tup (xs:List V)
 | dK (kvs:List (aM×V)) | dT (kvs:List (List aM×V))
 | set (S:Int→Bool) (n:Nat)
 | ins (C dx:Addr) (fs:List (Str×V))
 | own (x:Addr)
 | xd (fs:List (Str×V))
 | met (f x:Addr)
 | rng (lo hi:Int)
 | frz (o:Obj) (u:HO)
 | tbl (ps:Array Value)
 | ext (φ:Heap→Prop)
abbrev Hp:=Addr→Option HO
def upd(H:Hp)(a:Addr)(o:HO):Hp:=fun b=>if b=a then some o else H b
theorem ag{H:Hp}{a:Addr}{o:HO}:upd H a o a=some o:=by unfold upd;rw[if_pos rfl]
theorem ao{H:Hp}{a b:Addr}{o:HO}(h:b≠a):upd H a o b=H b:=by unfold upd;rw[if_neg h]
theorem rf{H:Hp}{a b:Addr}{o u:HO}(h:H a=some o)(h':H b=some u)(d:o≠u):a≠b:=by
 intro e;subst e;rw[h] at h';exact d (Option.some.inj h')
theorem aK{H:Hp}{a b:Addr}{o:HO}(h:H a=some o)(h':H b=none):a≠b:=by
 intro e;subst e;rw[h] at h';cases h'
section
variable(P:Program)(w:World)
def ObjOk(H:Hp)(h:Heap)(a:Addr):HO→Prop
 | .lst xs=>xs.length≤sizeLine∧∃(its:List Value) (n:Nat),Vals xs its∧h.get? a=some {cls:=.type "list",data:=.seq its.toArray n}
 | .tup xs=>xs.length≤sizeLine∧∃its:List Value,Vals xs its∧IsTup h a its.toArray
 | .dK kvs=>kvs.length≤sizeLine∧(a == sysModules)=false∧∃vs,KV kvs vs∧h.DictOf (iQ P w) a vs
 | .dT kvs=>kvs.length≤sizeLine∧(a == sysModules)=false∧∃xs:List (List aM×Addr×Value),
  Paired (fun(p:List aM×V) (q:List aM×Addr×Value)=>p.1=q.1∧H q.2.1=some (.tup (p.1.map kV))∧RelV p.2 q.2.2) kvs xs∧
  ∃o es ep,h.get? a=some o∧o.ExactDict∧o.data=.dict es ep∧es.toList=xs.map (entryOfKey (tupleKind (iQ P w)))∧(xs.map (·.1)).Nodup
 | .set S n=>h.SetOf (intKind P w) a S n
 | .ins C dx fs=>H dx=some (.own a)∧fs.length≤1000∧dx≠a∧h.get? a=some (PySem.W.instObj C dx)∧
  ∃mA,h.Ns1 dx mA∧(∀f,gf (fs.lookup f) (mA f))∧PySem.Within mA (fs.map (·.1))
 | .own _=>∃o,h.get? a=some o
 | .xd fs=>∃mA,h.Ns1 a mA∧∀f,gf (fs.lookup f) (mA f)
 | .rng lo hi=>∃t u v,h.get? a=some {cls:=.type "range",data:=.fields #[.int lo t,.int hi u,.int 1 v]}
 | .frz o u=>h.get? a=some o∧ObjOk H h a u
 | .tbl ps=>h.get? a=some {cls:=.none,data:=.fields ps}
 | .met f x=>h.get? a=some (PySem.W.methodObj (.ref f) (.ref x))
 | .ext φ=>φ h∧(∃o,h.get? a=some o)∧∀h1 h2:Heap,φ h1→(∀o,h1.get? a=some o→h2.get? a=some o)→φ h2
def HOk(H:Hp)(h:Heap):Prop:=∀a o,H a=some o→ObjOk P w H h a o
end
section
variable{P:Program}{w:World}{H H':Hp}{h h':Heap}{a:Addr}{o:HO}
theorem ObjOk.lt(x:ObjOk P w H h a o):a<h.objs.size:=by
 cases o with
 | lst xs=>obtain⟨_,_,_,_,e⟩:=x;exact Heap.lt_size e
 | tup xs=>obtain⟨_,_,_,p⟩:=x;exact p.lt
 | dK kvs=>obtain⟨_,_,_,_,o,_,_,e,_⟩:=x;exact Heap.lt_size e
 | dT kvs=>obtain⟨_,_,_,_,o,_,_,e,_⟩:=x;exact Heap.lt_size e
 | set S n=>obtain⟨o,_,_,_,e,_⟩:=x;exact Heap.lt_size e
 | ins C dx fs=>obtain⟨_,_,_,e,_⟩:=x;exact Heap.lt_size e
 | own y=>obtain⟨_,e⟩:=x;exact Heap.lt_size e
 | xd fs=>obtain⟨_,⟨_,_,_,e,_⟩,_⟩:=x;exact Heap.lt_size e
 | rng lo hi=>obtain⟨_,_,_,e⟩:=x;exact Heap.lt_size e
 | frz ob u=>obtain⟨e,_⟩:=x;exact Heap.lt_size e
 | tbl ps=>exact Heap.lt_size (show h.get? a=some _ from x)
 | met f y=>exact Heap.lt_size (show h.get? a=some _ from x)
 | ext φ=>obtain⟨_,⟨_,e⟩,_⟩:=x;exact Heap.lt_size e
theorem Paired.mapP{α β:Type}{F G:α→β→Prop}:∀{l₁:List α} {l₂:List β},Paired F l₁ l₂→(∀a b,F a b→G a b)→Paired G l₁ l₂
 | _,_,.nil,_=>.nil
 | _,_,.cons r t,f=>.cons (f _ _ r) (Paired.mapP t f)
theorem ObjOk.stay(x:ObjOk P w H h a o)(k:∀b u,(b=a∨H b=some (.own a))→h.get? b=some u→h'.get? b=some u)(ho:∀b,H b=some (.own a)→H' b=some (.own a))(ht:∀b xs,H b=some (.tup xs)→H' b=some (.tup xs)):ObjOk P w H' h' a o:=by
 induction o with
 | lst xs=>obtain⟨z,its,n,r,e⟩:=x;exact⟨z,its,n,r,k _ _ (.inl rfl) e⟩
 | tup xs=>obtain⟨z,its,r,ob,e,c⟩:=x;exact⟨z,its,r,ob,k _ _ (.inl rfl) e,c⟩
 | dK kvs=>obtain⟨z,y,vs,r,ob,es,ep,e,c⟩:=x;exact⟨z,y,vs,r,ob,es,ep,k _ _ (.inl rfl) e,c⟩
 | dT kvs=>
   obtain⟨z,y,xs,r,ob,es,ep,e,c⟩:=x
   exact⟨z,y,xs,Paired.mapP r fun p q z=>⟨z.1,ht _ _ z.2.1,z.2.2⟩,ob,es,ep,k _ _ (.inl rfl) e,c⟩
 | set S n=>obtain⟨ob,es,ep,t,e,c⟩:=x;exact⟨ob,es,ep,t,k _ _ (.inl rfl) e,c⟩
 | ins C dx fs=>
   obtain⟨d,z,ne,e,mA,⟨od,es,ep,e2,c⟩,r⟩:=x
   exact⟨ho _ d,z,ne,k _ _ (.inl rfl) e,mA,⟨od,es,ep,k _ _ (.inr d) e2,c⟩,r⟩
 | own y=>obtain⟨ob,e⟩:=x;exact⟨ob,k _ _ (.inl rfl) e⟩
 | xd fs=>obtain⟨mA,⟨od,es,ep,e,c⟩,r⟩:=x;exact⟨mA,⟨od,es,ep,k _ _ (.inl rfl) e,c⟩,r⟩
 | rng lo hi=>obtain⟨t,u,v,e⟩:=x;exact⟨t,u,v,k _ _ (.inl rfl) e⟩
 | frz ob u ih=>obtain⟨e,q⟩:=x;exact⟨k _ _ (.inl rfl) e,ih q⟩
 | tbl ps=>
   have e:h.get? a=some {cls:=.none,data:=.fields ps}:=x
   show h'.get? a=some {cls:=.none,data:=.fields ps}
   exact k a _ (.inl rfl) e
 | met f y=>
   have e:h.get? a=some (PySem.W.methodObj (.ref f) (.ref y)):=x
   show h'.get? a=some (PySem.W.methodObj (.ref f) (.ref y))
   exact k a _ (.inl rfl) e
 | ext φ=>obtain⟨p,⟨o,e⟩,st⟩:=x;exact⟨st _ _ p fun o q=>k _ _ (.inl rfl) q,⟨o,k _ _ (.inl rfl) e⟩,st⟩
theorem HOk.lt(x:HOk P w H h)(e:H a=some o):a<h.objs.size:=(x a o e).lt
theorem HOk.fresh(x:HOk P w H h)(e:h.objs.size≤a):H a=none:=by
 cases q:H a with
 | none=>rfl
 | some u=>exact absurd (Nat.lt_of_lt_of_le (x.lt q) e) (Nat.lt_irrefl _)
theorem HOk.kept(x:HOk P w H h)(k:∀b u,h.get? b=some u→h'.get? b=some u):HOk P w H h':=fun a o e=>
 (x a o e).stay (fun b u _ q=>k b u q) (fun _ q=>q) fun _ _ q=>q
theorem HOk.laid(x:HOk P w H h)(k:∀b u,h.get? b=some u→h'.get? b=some u)(hp:h.objs.size≤a)(new:ObjOk P w (upd H a o) h' a o):HOk P w (upd H a o) h':=fun b u e=>by
 have hn:=x.fresh hp
 by_cases hb:b=a
 ·subst hb;rw[ag] at e;cases e;exact new
 ·rw[ao hb] at e
  exact(x b u e).stay (fun c v _ q=>k c v q) (fun c q=>by rw[ao (aK q hn)];exact q) fun c xs q=>by rw[ao (aK q hn)];exact q
end
def Rd(H:Hp)(a:Addr)(u:HO):Prop:=H a=some u∨∃o,H a=some (.frz o u)
theorem Rd.ok{P:Program}{w:World}{H:Hp}{h:Heap}{a:Addr}{u:HO}(r:Rd H a u)(x:HOk P w H h):ObjOk P w H h a u:=by
 rcases r with r | ⟨o,r⟩
 ·exact x a u r
 ·obtain⟨_,q⟩:=x a _ r
  exact q
def d0:Option HO→Prop
 | some (.lst _)=>True
 | some (.dK _)=>True
 | some (.dT _)=>True
 | some (.set _ _)=>True
 | some (.ins _ _ _)=>True
 | some (.ext _)=>True
 | _=>False
section
variable{P:Program}{w:World}{H:Hp}{h h':Heap}{x e:Addr}{o':HO}
theorem HOk.write(ok:HOk P w H h)(mu:d0 (H x))(he:e=x∨H e=some (.own x))(k:∀b u,b≠e→h.get? b=some u→h'.get? b=some u)(heo:∃u,h'.get? e=some u)(new:ObjOk P w (upd H x o') h' x o'):HOk P w (upd H x o') h':=fun b u q=>by
 have nown:∀c y,H c=some (.own y)→c≠x:=fun c y r z=>by subst z;rw[r] at mu;exact mu
 have ntup:∀c xs,H c=some (.tup xs)→c≠x:=fun c xs r z=>by subst z;rw[r] at mu;exact mu
 by_cases hb:b=x
 ·subst hb;rw[ag] at q;cases q;exact new
 ·rw[ao hb] at q
  by_cases hbe:b=e
  ·have q':H b=some (.own x):=by
    rcases he with z | z
    ·exact absurd (hbe.trans z) hb
    ·rw[hbe];exact z
   rw[q] at q';cases q'
   obtain⟨v,hv⟩:=heo
   exact⟨v,by rw[hbe];exact hv⟩
  ·refine(ok b u q).stay (fun c v hc r=>k c v ?_ r) (fun c r=>by rw[ao (nown c b r)];exact r) fun c xs r=>by rw[ao (ntup c xs r)];exact r
   rcases hc with rfl | hc
   ·exact hbe
   ·rintro rfl
    rcases he with z | z
    ·exact nown c b hc z
    ·rw[hc] at z;cases z;exact hb rfl
end
structure Un(fs ex:List Addr)(H H':Hp)(h h':Heap):Prop where
 keep:∀b o,h.get? b=some o→H b=none→b∉fs→b∉ex→h'.get? b=some o
 slot:∀b o,h.get? b=some o→H b=none→b∈fs→b∉ex→∃sl,h'.get? b=some {o with slots:=sl}
 free:∀b o,h.get? b=some o→H b=none→b∉ex→H' b=none
 there:∀b o,h.get? b=some o→b∉ex→∃o',h'.get? b=some o'
 tups:∀b xs,H b=some (.tup xs)→H' b=some (.tup xs)
 frzs:∀b o u,H b=some (.frz o u)→H' b=some (.frz o u)
 tbls:∀b ps,H b=some (.tbl ps)→∃more,H' b=some (.tbl (ps++more))
section
variable{fs fs' ex ex':List Addr}{H H1 H2:Hp}{h h1 h2 h':Heap}{a x e:Addr}{o:HO}
theorem Un.any(u:Un fs ex H H1 h h1){b:Addr}{ob:Obj}(q:h.get? b=some ob)(n:H b=none)(hx:b∉ex):∃sl,h1.get? b=some {ob with slots:=sl}:=by
 by_cases hb:b∈fs
 ·exact u.slot b ob q n hb hx
 ·exact⟨ob.slots,u.keep b ob q n hb hx⟩
theorem Un.kept(k:∀b u,h.get? b=some u→h'.get? b=some u):Un fs ex H H h h':=
 ⟨fun b ob q _ _ _=>k b ob q,fun b ob q _ _ _=>⟨ob.slots,k b ob q⟩,fun _ _ _ n _=>n,fun b ob q _=>⟨ob,k b ob q⟩,fun _ _ q=>q,fun _ _ _ q=>q,fun _ ps q=>⟨#[],by rw[q];simp⟩⟩
theorem Un.refl:Un fs ex H H h h:=Un.kept fun _ _ q=>q
theorem Un.laid(k:∀b u,h.get? b=some u→h'.get? b=some u)(hp:h.objs.size≤a)(hn:H a=none):Un fs ex H (upd H a o) h h' where
 keep:=fun b u q _ _ _=>k b u q
 slot:=fun b u q _ _ _=>⟨u.slots,k b u q⟩
 free:=fun b u q n _=>by rw[ao (Nat.ne_of_lt (Nat.lt_of_lt_of_le (Heap.lt_size q) hp))];exact n
 there:=fun b u q _=>⟨u,k b u q⟩
 tups:=fun b xs q=>by rw[ao (aK q hn)];exact q
 frzs:=fun b u xs q=>by rw[ao (aK q hn)];exact q
 tbls:=fun b ps q=>⟨#[],by rw[ao (aK q hn),q];simp⟩
theorem Un.write(mu:d0 (H x))(he:e=x∨H e=some (.own x))(k:∀b u,b≠e→h.get? b=some u→h'.get? b=some u)(heo:∃u,h'.get? e=some u):Un fs ex H (upd H x o) h h':=by
 have hx:∀b,H b=none→b≠x:=fun b n z=>by subst z;rw[n] at mu;exact mu
 have hb:∀b,H b=none→b≠e:=fun b n z=>by
  subst z
  rcases he with r | r
  ·exact hx b n r
  ·rw[n] at r;cases r
 have hm:∀b u,H b=some u→¬d0 (some u)→b≠x:=fun b u q nm z=>by subst z;rw[q] at mu;exact nm mu
 refine⟨fun b u q n _ _=>k b u (hb b n) q,fun b u q n _ _=>⟨u.slots,k b u (hb b n) q⟩,fun b u q n _=>by rw[ao (hx b n)];exact n,fun b u q _=>?_,
  fun b xs q=>by rw[ao (hm b _ q fun z=>z)];exact q,fun b u xs q=>by rw[ao (hm b _ q fun z=>z)];exact q,fun b ps q=>⟨#[],by rw[ao (hm b _ q fun z=>z),q];simp⟩⟩
 by_cases hbe:b=e
 ·subst hbe;exact heo
 ·exact⟨u,k b u hbe q⟩
end
def fD(h:Heap)(H:Hp):List Addr:=(List.range h.objs.size).filter fun a=>(H a).isSome
def bQ(h:Heap)(H:Hp):Heap:=PySem.W.hideAll h (fD h H)
theorem pY(h:Heap)(H:Hp):(bQ h H).objs.size=h.objs.size:=PySem.W.hideAll_size _ _
theorem gk{h:Heap}{H:Hp}{b:Addr}{o:Obj}(e:h.get? b=some o)(n:H b=none):(bQ h H).get? b=some o:=
 PySem.W.hideAll_get _ e fun hm=>by
  have q:(H b).isSome=true:=(List.mem_filter.mp hm).2
  rw[n] at q;simp at q
theorem qq{h:Heap}{H:Hp}{b:Addr}{o:Obj}(e:(bQ h H).get? b=some o):h.get? b=some o∧H b=none:=by
 have e':h.get? b=some o:=PySem.W.of_hideAll (fD h H) e
 refine⟨e',?_⟩
 cases q:H b with
 | none=>rfl
 | some x=>
   have hm:b∈fD h H:=List.mem_filter.mpr ⟨List.mem_range.mpr (Heap.lt_size e'),by simp[q]⟩
   have z:(bQ h H).get? b=none:=PySem.W.hideAll_none (fD h H) hm
   rw[z] at e;cases e
def nA(g h:Heap)(L:Addr):List (Addr×Obj):=(List.range h.objs.size).filterMap fun a=>if a=L∨(g.get? a).isSome=true then none else(h.get? a).map fun o=>(a,o)
def aw(g h:Heap)(L d:Addr):List (Addr×Obj):=(nA g h L).filter fun p=>decide (p.1≠d)
structure Mod(K:PySem.W.Frag)(mg:Str→Option Value)(base:Heap):Prop where
 kin:K.In base
 glob:base.Ns mainGlobals mg
 blt:∃mb,base.Ns builtinsNs mb∧∀x:Str,x≠"__name__"→mb x=bootBuiltins x
 nolimit:base.NoLimit
structure Cx where
 prog:Program
 w:World
 K:PySem.W.Frag
 mg:Str→Option Value
 base:Heap
 A:Around
 N:List Str
 s₀:Shared
 H₀:Hp
 env:Env
 outer:List Env
 stack:List Env
 ex:List Addr
 fn:Str→Bool
 calm:Bool
 pn:List (Addr×Obj)
 xe:Value→Shared→Prop
def bf(l:List Env):List Addr:=l.filterMap (·.frame)
abbrev Cx.fs(X:Cx):List Addr:=bf X.outer
def ee(sc:Scope)(x:Str):Prop:=sc.names.lookup x=some .local∨sc.names.lookup x=some .cell∨sc.names.lookup x=some .free
def c5(sc:Scope)(x:Str):Prop:=sc.names.lookup x=some .local∨sc.names.lookup x=some .cell
def pT(env:Env)(h:Heap)(m:Str→Option Value)(x:Str)(u:Value):Prop:=
 (env.kindOf x=some .local∧m x=some u)∨((env.kindOf x=some .cell∨env.kindOf x=some .free)∧∃c,env.cells.lookup x=some c∧h.IsCell c (some u))
structure Cx.Ok(X:Cx):Prop where
 mod:Mod X.K X.mg X.base
 kind:X.env.scope.kind=.function
 glob:X.env.globals=mainGlobals
 blt:X.env.builtins=builtinsNs
 above:X.s₀.heap.objs.size≤X.env.locals
 inj:∀x y c,X.env.cells.lookup x=some c→X.env.cells.lookup y=some c→x=y
 has:∀x,(X.env.kindOf x=some .cell∨X.env.kindOf x=some .free)→∃c,X.env.cells.lookup x=some c
 cab:∀x c,X.fn x=true→X.env.cells.lookup x=some c→X.s₀.heap.objs.size≤c
 hd:X.calm=true→X.A.handled=none
 frames:X.A.frames=some X.stack
 stk:X.stack=X.outer∨(X.stack=X.env::X.outer∧X.env.frame=some X.env.locals)
 exf:∀b∈X.ex,b≠X.env.locals∧∀x c,X.env.cells.lookup x=some c→c≠b
 bs:∀b o,X.base.get? b=some o→X.s₀.heap.get? b=some o∧X.H₀ b=none
 bsz:X.base.objs.size≤X.s₀.heap.objs.size
 noex:∀b o,X.base.get? b=some o→b∉X.ex
 exfs:∀b∈X.ex,b∉X.fs
 funs:X.s₀.heap.FunFrames X.base X.outer
 frf:∀b∈X.fs,X.H₀ b=none
structure Inv(X:Cx)(pins:List (Addr×Obj))(σ:List (Option V))(H:Hp)(s:Shared):Prop where
 ok:X.Ok
 os:s.os=X.s₀.os
 bare:AllBare s.gens
 base:Un X.fs X.ex X.H₀ H X.s₀.heap s.heap
 loc:∃m,s.heap.Ns X.env.locals m∧∀(i:Nat) (x:Str) (v:V),X.N[i]?=some x→σ[i]?=some (some v)→ee X.env.scope x→∃u,RelV v u∧pT X.env s.heap m x u
 cell:∀x c,X.env.cells.lookup x=some c→∃v,s.heap.IsCell c v
 free:H X.env.locals=none
 freeC:∀x c,X.env.cells.lookup x=some c→H c=none
 pin:∀p∈X.pn++pins,s.heap.get? p.1=some p.2∧H p.1=none∧p.1≠X.env.locals∧p.1∉X.fs∧∀v,p.2.data≠ .cell v
 hok:HOk X.prog X.w H s.heap
 len:σ.length=X.N.length
section
variable{X:Cx}{pins:List (Addr×Obj)}{σ:List (Option V)}{H H':Hp}{s:Shared}{h':Heap}
theorem Cx.Ok.nofr(ok:X.Ok){b:Addr}{o:Obj}(e:X.base.get? b=some o):b∉X.fs:=fun hb=>by
 have:=(ok.funs.mem hb).1
 rw[e] at this;cases this
theorem Inv.bs(I:Inv X pins σ H s):∀b o,X.base.get? b=some o→s.heap.get? b=some o∧H b=none:=fun b o e=>
 ⟨I.base.keep b o (I.ok.bs b o e).1 (I.ok.bs b o e).2 (I.ok.nofr e) (I.ok.noex b o e),I.base.free b o (I.ok.bs b o e).1 (I.ok.bs b o e).2 (I.ok.noex b o e)⟩
theorem Inv.bk(I:Inv X pins σ H s):∀b o,X.base.get? b=some o→s.heap.get? b=some o:=fun b o e=>(I.bs b o e).1
theorem Inv.mod(I:Inv X pins σ H s):Mod X.K X.mg X.base:=I.ok.mod
theorem Inv.kIn(I:Inv X pins σ H s):X.K.In s.heap:=I.ok.mod.kin.keeps I.bk
theorem Inv.nolimit(I:Inv X pins σ H s):s.heap.NoLimit:=I.ok.mod.nolimit.keeps I.bk
theorem Inv.lt(I:Inv X pins σ H s):X.env.locals<s.heap.objs.size:=let ⟨_,hn,_⟩:=I.loc;hn.lt
theorem Inv.sz(I:Inv X pins σ H s):X.s₀.heap.objs.size≤s.heap.objs.size:=Nat.le_trans I.ok.above (Nat.le_of_lt I.lt)
theorem Inv.nofs(I:Inv X pins σ H s){a:Addr}(h:s.heap.objs.size≤a):a∉X.fs:=fun hb=>by
 obtain⟨_,o,ho,_⟩:=I.ok.funs.mem hb
 exact absurd (Nat.lt_of_lt_of_le (Heap.lt_size ho) (Nat.le_trans I.sz h)) (Nat.lt_irrefl _)
theorem Inv.cne(I:Inv X pins σ H s):∀x c,X.env.cells.lookup x=some c→c≠X.env.locals:=fun x c e z=>by
 obtain⟨v,o,ho,hd⟩:=I.cell x c e
 obtain⟨m,⟨o',es,ep,ho',hd',_⟩,_⟩:=I.loc
 rw[z,ho'] at ho;cases ho;rw[hd'] at hd;cases hd
theorem Inv.funs(I:Inv X pins σ H s):s.heap.FunFrames X.base X.outer:=by
 have all:∀(l:List Env),(∀b∈bf l,b∈X.fs)→X.s₀.heap.FunFrames X.base l→s.heap.FunFrames X.base l:=by
  intro l
  induction l with
  | nil=>intro _ _;trivial
  | cons env r ih=>
    intro hs hl
    obtain⟨hk,⟨L,o,hf,hn,ho,hd⟩,hr⟩:=hl
    have hL:L∈X.fs:=hs L (by unfold bf;rw[List.filterMap_cons,hf];exact List.mem_cons_self)
    obtain⟨sl,e⟩:=I.base.slot L o ho (I.ok.frf L hL) hL fun z=>I.ok.exfs L z hL
    exact⟨hk,⟨L,_,hf,hn,e,hd⟩,ih (fun b hb=>hs b (by unfold bf;rw[List.filterMap_cons,hf];exact List.mem_cons_of_mem _ hb)) hr⟩
 exact all X.outer (fun _ hb=>hb) I.ok.funs
theorem Inv.stack(I:Inv X pins σ H s):s.heap.FunFrames X.base X.stack:=by
 rcases I.ok.stk with e | ⟨e,hf⟩
 ·rw[e];exact I.funs
 ·rw[e]
  obtain⟨m,hn,_⟩:=I.loc
  refine .cons (by rw[I.ok.kind];decide) hf hn ?_ I.funs
  exact Heap.get?_none_of_le (Nat.le_trans I.ok.bsz I.ok.above)
theorem Inv.stkSub(I:Inv X pins σ H s):∀b∈bf X.stack,b∈X.env.locals::X.fs:=fun b hb=>by
 rcases I.ok.stk with e | ⟨e,hf⟩
 ·rw[e] at hb;exact List.mem_cons_of_mem _ hb
 ·rw[e] at hb
  unfold bf at hb
  rw[List.filterMap_cons,hf] at hb
  exact hb
theorem Inv.stkFree(I:Inv X pins σ H s):∀b∈bf X.stack,H b=none:=fun b hb=>by
 rcases List.mem_cons.mp (I.stkSub b hb) with e | hb
 ·rw[e];exact I.free
 ·obtain⟨_,o,ho,_⟩:=I.ok.funs.mem hb
  exact I.base.free b o ho (I.ok.frf b hb) fun z=>I.ok.exfs b z hb
theorem Inv.step{g':Array GenState}{t':Nat}{d':Drawn}{ch:List Addr}(I:Inv X pins σ H s)(hch:∀b∈ch,(b∈X.ex∨X.s₀.heap.objs.size≤b)∧b≠X.env.locals∧(∀x c,X.env.cells.lookup x=some c→c≠b)∧∀p∈X.pn++pins,p.1≠b)(keep:∀b o,b≠X.env.locals→b∉X.fs→b∉ch→s.heap.get? b=some o→H b=none→h'.get? b=some o)(slot:∀b o,b≠X.env.locals→b∈X.fs→b∉ch→s.heap.get? b=some o→H b=none→∃sl,h'.get? b=some {o with slots:=sl})(free:∀b o,b∉ch→s.heap.get? b=some o→H b=none→H' b=none)(there:∀b o,b∉ch→s.heap.get? b=some o→∃o',h'.get? b=some o')(tups:∀b xs,H b=some (.tup xs)→H' b=some (.tup xs))(frzs:∀b o u,H b=some (.frz o u)→H' b=some (.frz o u))(tbls:∀b ps,H b=some (.tbl ps)→∃more,H' b=some (.tbl (ps++more)))(ns:∀m,s.heap.Ns X.env.locals m→h'.Ns X.env.locals m)(hok:HOk X.prog X.w H' h')(hg:AllBare g'):Inv X pins σ H' {s with heap:=h',gens:=g',drawn:=d',toks:=t'}:=by
 have neL:∀b o,X.s₀.heap.get? b=some o→b≠X.env.locals:=fun b o e=>Nat.ne_of_lt (Nat.lt_of_lt_of_le (Heap.lt_size e) I.ok.above)
 have neC:∀b o,X.s₀.heap.get? b=some o→b∉X.ex→b∉ch:=fun b o e hx hb=>by
  rcases(hch b hb).1 with z | z
  ·exact hx z
  ·exact absurd (Nat.lt_of_lt_of_le (Heap.lt_size e) z) (Nat.lt_irrefl _)
 have cellK:∀x c,X.env.cells.lookup x=some c→∀v,s.heap.IsCell c v→h'.IsCell c v:=fun x c e v ⟨o,ho,hd⟩=>by
  have nch:c∉ch:=fun z=>(hch c z).2.2.1 x c e rfl
  by_cases hc:c∈X.fs
  ·obtain⟨sl,q⟩:=slot c o (I.cne x c e) hc nch ho (I.freeC x c e)
   exact⟨_,q,hd⟩
  ·exact⟨o,keep c o (I.cne x c e) hc nch ho (I.freeC x c e),hd⟩
 refine⟨I.ok,I.os,hg,⟨fun b o e n hb hx=>?_,fun b o e n hb hx=>?_,fun b o e n hx=>?_,fun b o e hx=>?_,fun b xs e=>tups b xs (I.base.tups b xs e),fun b o xs e=>frzs b o xs (I.base.frzs b o xs e),fun b ps e=>?_⟩,?_,fun x c e=>?_,?_,fun x c e=>?_,fun p hp=>?_,hok,I.len⟩
 ·exact keep b o (neL b o e) hb (neC b o e hx) (I.base.keep b o e n hb hx) (I.base.free b o e n hx)
 ·obtain⟨sl,e1⟩:=I.base.slot b o e n hb hx
  obtain⟨sl',e2⟩:=slot b _ (neL b o e) hb (neC b o e hx) e1 (I.base.free b o e n hx)
  exact⟨sl',e2⟩
 ·obtain⟨o',e1⟩:=I.base.there b o e hx
  exact free b o' (neC b o e hx) e1 (I.base.free b o e n hx)
 ·obtain⟨o',e1⟩:=I.base.there b o e hx
  exact there b o' (neC b o e hx) e1
 ·obtain⟨m1,e1⟩:=I.base.tbls b ps e
  obtain⟨m2,e2⟩:=tbls b _ e1
  exact⟨m1++m2,by rw[e2,Array.append_assoc]⟩
 ·obtain⟨m,hn,hl⟩:=I.loc
  refine⟨m,ns m hn,fun i x v e1 e2 e3=>?_⟩
  obtain⟨u,r,l⟩:=hl i x v e1 e2 e3
  refine⟨u,r,?_⟩
  rcases l with l | ⟨k,c,e,z⟩
  ·exact .inl l
  ·exact .inr ⟨k,c,e,cellK x c e _ z⟩
 ·obtain⟨v,z⟩:=I.cell x c e
  exact⟨v,cellK x c e v z⟩
 ·obtain⟨m,⟨o,_,_,ho,_⟩,_⟩:=I.loc
  exact free _ o (fun z=>(hch _ z).2.1 rfl) ho I.free
 ·obtain⟨v,o,ho,hd⟩:=I.cell x c e
  exact free c o (fun z=>(hch c z).2.2.1 x c e rfl) ho (I.freeC x c e)
 ·obtain⟨e,n,ne,nf,d⟩:=I.pin p hp
  have nch:p.1∉ch:=fun z=>(hch p.1 z).2.2.2 p hp rfl
  exact⟨keep p.1 p.2 ne nf nch e n,free p.1 p.2 nch e n,ne,nf,d⟩
theorem Inv.un{t':Nat}(I:Inv X pins σ H s)(u:Un X.fs [] H H' s.heap h')(hok:HOk X.prog X.w H' h'):Inv X pins σ H' {s with heap:=h',toks:=t'}:=by
 obtain⟨m,⟨o,es,ep,ho,r⟩,_⟩:=id I.loc
 obtain⟨sl,hL⟩:=u.any ho I.free (by simp)
 exact I.step (g':=s.gens) (d':=s.drawn) (ch:=[]) (fun _ z=>nomatch z) (fun b o _ hb _ e n=>u.keep b o e n hb (by simp)) (fun b o _ hb _ e n=>u.slot b o e n hb (by simp)) (fun b o _ e n=>u.free b o e n (by simp)) (fun b o _ e=>u.there b o e (by simp)) u.tups u.frzs u.tbls (fun m' hm=>by
  obtain⟨o',es',ep',ho',r'⟩:=hm
  rw[ho] at ho';cases ho'
  exact⟨_,es',ep',hL,r'⟩) hok I.bare
theorem Inv.call{g':Array GenState}{t':Nat}{d':Drawn}{ch:List Addr}(I:Inv X pins σ H s)(u:Un (bf X.stack) ch H H' s.heap h')(hok:HOk X.prog X.w H' h')(hg:AllBare g')(hch:∀b∈ch,(b∈X.ex∨X.s₀.heap.objs.size≤b)∧b≠X.env.locals∧(∀x c,X.env.cells.lookup x=some c→c≠b)∧∀p∈X.pn++pins,p.1≠b):Inv X pins σ H' {s with heap:=h',gens:=g',drawn:=d',toks:=t'}:=by
 obtain⟨m,⟨o,es,ep,ho,r⟩,_⟩:=id I.loc
 obtain⟨sl,hL⟩:=u.any ho I.free fun z=>(hch _ z).2.1 rfl
 exact I.step (ch:=ch) hch (fun b o hL hb hc e n=>u.keep b o e n (fun z=>(List.mem_cons.mp (I.stkSub b z)).elim hL hb) hc) (fun b o _ _ hc e n=>u.any e n hc) (fun b o hc e n=>u.free b o e n hc) (fun b o hc e=>u.there b o e hc) u.tups u.frzs u.tbls (fun m' hm=>by
  obtain⟨o',es',ep',ho',r'⟩:=hm
  rw[ho] at ho';cases ho'
  exact⟨_,es',ep',hL,r'⟩) hok hg
theorem Inv.turned{t':Nat}{it:Addr}(I:Inv X pins σ H s)(k:∀b o,b≠it→s.heap.get? b=some o→h'.get? b=some o)(hn:H it=none)(hL:it≠X.env.locals)(h1:it∈X.ex∨X.s₀.heap.objs.size≤it)(h2:∀x c,X.env.cells.lookup x=some c→c≠it)(h3:∀p∈X.pn++pins,p.1≠it):Inv X pins σ H {s with heap:=h',toks:=t'}:=by
 have nit:∀b u,H b=some u→b≠it:=fun b u e z=>by rw[z,hn] at e;cases e
 refine I.step (g':=s.gens) (d':=s.drawn) (ch:=[it]) (fun b hb=>?_) (fun b o _ _ hc e _=>k b o (fun z=>hc (by simp[z])) e) (fun b o _ _ hc e _=>⟨o.slots,k b o (fun z=>hc (by simp[z])) e⟩) (fun _ _ _ _ n=>n)
  (fun b o hc e=>⟨o,k b o (fun z=>hc (by simp[z])) e⟩) (fun _ _ e=>e) (fun _ _ _ e=>e) (fun b ps e=>⟨#[],by rw[e];simp⟩) (fun m hm=>?_) (fun b u e=>?_) I.bare
 ·have e:b=it:=by simpa using hb
  subst e
  exact⟨h1,hL,h2,h3⟩
 ·obtain⟨o,es,ep,ho,r⟩:=hm
  exact⟨o,es,ep,k _ o (Ne.symm hL) ho,r⟩
 ·refine(I.hok b u e).stay (fun c v hc q=>k c v ?_ q) (fun _ q=>q) fun _ _ q=>q
  rcases hc with z | z
  ·rw[z];exact nit b u e
  ·exact nit c _ z
theorem Inv.tok(I:Inv X pins σ H s)(t:Nat):Inv X pins σ H {s with toks:=t}:=I.un (h':=s.heap) (t':=t) Un.refl I.hok
theorem Inv.kept{t':Nat}(I:Inv X pins σ H s)(k:∀b u,s.heap.get? b=some u→h'.get? b=some u):Inv X pins σ H {s with heap:=h',toks:=t'}:=I.un (Un.kept k) (I.hok.kept k)
theorem Inv.laid{a:Addr}{o:HO}{t':Nat}(I:Inv X pins σ H s)(k:∀b u,s.heap.get? b=some u→h'.get? b=some u)(hp:s.heap.objs.size≤a)(new:ObjOk X.prog X.w (upd H a o) h' a o):Inv X pins σ (upd H a o) {s with heap:=h',toks:=t'}:=I.un (Un.laid k hp (I.hok.fresh hp)) (I.hok.laid k hp new)
theorem Inv.write{x e:Addr}{o:HO}{t':Nat}(I:Inv X pins σ H s)(mu:d0 (H x))(he:e=x∨H e=some (.own x))(k:∀b u,b≠e→s.heap.get? b=some u→h'.get? b=some u)(heo:∃u,h'.get? e=some u)(new:ObjOk X.prog X.w (upd H x o) h' x o):Inv X pins σ (upd H x o) {s with heap:=h',toks:=t'}:=I.un (Un.write mu he k heo) (I.hok.write mu he k heo new)
theorem Inv.weak{σ':List (Option V)}(I:Inv X pins σ H s)(hl:σ'.length=σ.length)(w:∀(i:Nat) v,σ'[i]?=some (some v)→σ[i]?=some (some v)):Inv X pins σ' H s:=
 ⟨I.ok,I.os,I.bare,I.base,let ⟨m,hn,hl'⟩:=I.loc;⟨m,hn,fun i x v e1 e2 e3=>hl' i x v e1 (w i v e2) e3⟩,I.cell,I.free,I.freeC,I.pin,I.hok,hl.trans I.len⟩
theorem Inv.pins_of{pins':List (Addr×Obj)}(I:Inv X pins σ H s)(h:∀p∈pins',s.heap.get? p.1=some p.2∧H p.1=none∧p.1≠X.env.locals∧p.1∉X.fs∧∀v,p.2.data≠ .cell v):Inv X pins' σ H s:=
 ⟨I.ok,I.os,I.bare,I.base,I.loc,I.cell,I.free,I.freeC,fun p hp=>(List.mem_append.mp hp).elim (fun z=>I.pin p (List.mem_append_left _ z)) (h p),I.hok,I.len⟩
theorem jq{N:List Str}(hN:N.Nodup){i j:Nat}{x:Str}(a:N[i]?=some x)(b:N[j]?=some x):i=j:=by
 obtain⟨h1,e1⟩:=List.getElem?_eq_some_iff.mp a
 obtain⟨h2,e2⟩:=List.getElem?_eq_some_iff.mp b
 exact(List.getElem_inj hN).mp (e1.trans e2.symm)
theorem jI{M:Model}{A:Around}{E:Value→Shared→Prop}{i:Nat}{x:Str}{v:V}{u:Value}{Q:Unit→Shared→Prop}(I:Inv X pins σ H s)(hN:X.N.Nodup)(hi:X.N[i]?=some x)(hx:c5 X.env.scope x)(r:RelV v u)(h:∀s',Inv X pins (σ.set i (some v)) H s'→(∃a,Heap.SameBut a s.heap s'.heap∧(a=X.env.locals∨X.env.cells.lookup x=some a))→Q () s')(hf:X.fn x=true∨X.env.scope.names.lookup x=some .local:=by first | exact .inl rfl | exact .inr rfl | assumption):wpAny M A (storeName X.env x u) Q E s:=by
 obtain⟨m,hn,hl⟩:=id I.loc
 have hcls:(X.env.scope.kind == .class || (X.env.scope.kind == .module && X.env.locals != X.env.globals))=false:=by rw[I.ok.kind];rfl
 have hiσ:i<σ.length:=by rw[I.len];exact(List.getElem?_eq_some_iff.mp hi).1
 have cne:=I.cne
 have tracked:∀{a:Addr} {h':Heap},(∃o,s.heap.get? a=some o∧H a=none)→Heap.SameBut a s.heap h'→HOk X.prog X.w H h':=fun{a h'} ha hs b ob e=>by
  obtain⟨_,_,hfree⟩:=ha
  refine(I.hok b ob e).stay (fun c w' hc q=>(hs.2 c ?_).trans q) (fun _ q=>q) fun _ _ q=>q
  rintro rfl
  rcases hc with rfl | hc
  ·rw[hfree] at e;cases e
  ·rw[hfree] at hc;cases hc
 rcases hx with hk | hk
 ·refine wpAny_storeName_local hk hn (fun h' hn' hs=>?_) hcls
  obtain⟨oL,_,_,hoL,_⟩:=id hn
  refine h _ ⟨I.ok,I.os,I.bare,⟨fun b o e n hb hx=>?_,fun b o e n hb hx=>?_,I.base.free,fun b o e hx=>?_,I.base.tups,I.base.frzs,I.base.tbls⟩,⟨_,hn',fun j y v' e1 e2 e3=>?_⟩,fun y c e=>?_,I.free,I.freeC,fun p hp=>?_,tracked ⟨oL,hoL,I.free⟩ hs,by simpa using I.len⟩ ⟨_,hs,.inl rfl⟩
  ·exact(hs.2 b (Nat.ne_of_lt (Nat.lt_of_lt_of_le (Heap.lt_size e) I.ok.above))).trans (I.base.keep b o e n hb hx)
  ·obtain⟨sl,e1⟩:=I.base.slot b o e n hb hx
   exact⟨sl,(hs.2 b (Nat.ne_of_lt (Nat.lt_of_lt_of_le (Heap.lt_size e) I.ok.above))).trans e1⟩
  ·obtain⟨o',e1⟩:=I.base.there b o e hx
   exact⟨o',(hs.2 b (Nat.ne_of_lt (Nat.lt_of_lt_of_le (Heap.lt_size e) I.ok.above))).trans e1⟩
  ·by_cases hj:j=i
   ·subst hj
    rw[hi] at e1;cases e1
    rw[List.getElem?_set_self hiσ] at e2
    cases e2
    exact⟨u,r,.inl ⟨hk,by simp⟩⟩
   ·rw[List.getElem?_set_ne (Ne.symm hj)] at e2
    obtain⟨u',r',q⟩:=hl j y v' e1 e2 e3
    refine⟨u',r',?_⟩
    rcases q with⟨k,e⟩ | ⟨k,c,e,z⟩
    ·refine .inl ⟨k,?_⟩
     have:y≠x:=fun e=>hj (jq hN e1 (e▸hi))
     simp[this,e]
    ·exact .inr ⟨k,c,e,z.sameBut hs (cne y c e)⟩
  ·obtain⟨w',z⟩:=I.cell y c e
   exact⟨w',z.sameBut hs (cne y c e)⟩
  ·obtain⟨e,n,ne,nf,d⟩:=I.pin p hp
   exact⟨(hs.2 p.1 ne).trans e,n,ne,nf,d⟩
 ·have hfn:X.fn x=true:=by
   rcases hf with z | z
   ·exact z
   ·rw[z] at hk;cases hk
  obtain⟨c,hc⟩:=I.ok.has x (.inl hk)
  obtain⟨w',z⟩:=I.cell x c hc
  refine wpAny_storeName_cell I.ok.kind hk hc z (fun h' hc' hs=>?_)
  obtain⟨oc,hoc,hocd⟩:=id z
  refine h {s with heap:=h'} ⟨I.ok,I.os,I.bare,⟨fun b o e n hb hx=>?_,fun b o e n hb hx=>?_,I.base.free,fun b o e hx=>?_,I.base.tups,I.base.frzs,I.base.tbls⟩,⟨m,hn.sameBut hs (Ne.symm (cne x c hc)),fun j y v' e1 e2 e3=>?_⟩,fun y c' e=>?_,I.free,I.freeC,fun p hp=>?_,tracked ⟨oc,hoc,I.freeC x c hc⟩ hs,by simpa using I.len⟩ ⟨c,hs,.inr hc⟩
  ·exact(hs.2 b (Nat.ne_of_lt (Nat.lt_of_lt_of_le (Heap.lt_size e) (I.ok.cab x c hfn hc)))).trans (I.base.keep b o e n hb hx)
  ·obtain⟨sl,e1⟩:=I.base.slot b o e n hb hx
   exact⟨sl,(hs.2 b (Nat.ne_of_lt (Nat.lt_of_lt_of_le (Heap.lt_size e) (I.ok.cab x c hfn hc)))).trans e1⟩
  ·obtain⟨o',e1⟩:=I.base.there b o e hx
   exact⟨o',(hs.2 b (Nat.ne_of_lt (Nat.lt_of_lt_of_le (Heap.lt_size e) (I.ok.cab x c hfn hc)))).trans e1⟩
  ·by_cases hj:j=i
   ·subst hj
    rw[hi] at e1;cases e1
    rw[List.getElem?_set_self hiσ] at e2
    cases e2
    exact⟨u,r,.inr ⟨.inl hk,c,hc,hc'⟩⟩
   ·rw[List.getElem?_set_ne (Ne.symm hj)] at e2
    obtain⟨u',r',q⟩:=hl j y v' e1 e2 e3
    refine⟨u',r',?_⟩
    rcases q with q | ⟨k,c',e,z'⟩
    ·exact .inl q
    ·refine .inr ⟨k,c',e,z'.sameBut hs ?_⟩
     rintro rfl
     exact hj (jq hN e1 (I.ok.inj _ _ _ e hc▸hi))
  ·by_cases hcc:c'=c
   ·subst hcc;exact⟨_,hc'⟩
   ·obtain⟨w2,z2⟩:=I.cell y c' e
    exact⟨w2,z2.sameBut hs hcc⟩
  ·obtain⟨e,n,ne,nf,d⟩:=I.pin p hp
   refine⟨(hs.2 p.1 ?_).trans e,n,ne,nf,d⟩
   intro q
   rw[q,hoc] at e
   have q':oc=p.2:=Option.some.inj e
   exact d w' (by rw[←q'];exact hocd)
theorem gX{M:Model}{A:Around}{E:Value→Shared→Prop}{i:Nat}{x:Str}{v:V}{u:Value}{Q:Unit→Shared→Prop}(I:Inv X pins σ H s)(hN:X.N.Nodup)(hi:X.N[i]?=some x)(hx:c5 X.env.scope x)(r:RelV v u)(h:∀s',Inv X pins (σ.set i (some v)) H s'→Q () s')(hf:X.fn x=true∨X.env.scope.names.lookup x=some .local:=by first | exact .inl rfl | exact .inr rfl | assumption):wpAny M A (storeName X.env x u) Q E s:=
 jI I hN hi hx r (fun s' I' _=>h s' I') hf
theorem Inv.call'{s':Shared}{ch:List Addr}(I:Inv X pins σ H s)(ho:s'.os=s.os)(u:Un (bf X.stack) ch H H' s.heap s'.heap)(hok:HOk X.prog X.w H' s'.heap)(hg:AllBare s'.gens)(hch:∀b∈ch,(b∈X.ex∨X.s₀.heap.objs.size≤b)∧b≠X.env.locals∧(∀x c,X.env.cells.lookup x=some c→c≠b)∧∀p∈X.pn++pins,p.1≠b):Inv X pins σ H' s':=by
 obtain⟨h',g',d',t',o'⟩:=s'
 have e:o'=s.os:=ho
 subst e
 exact I.call (g':=g') (t':=t') (d':=d') u hok hg hch
end
abbrev XK:=Value→Option Addr→Hp→Prop
abbrev St:=List (Option V)
abbrev VK:=V→Hp→Prop
abbrev TE:=St→Hp→VK→Prop
abbrev TT:=St→Hp→(Bool→Hp→Prop)→Prop
abbrev TA:=St→Hp→(List V→Hp→Prop)→Prop
structure Ends where
 nx:St→Hp→Prop
 rt:VK
 bk:St→Hp→Prop:=fun _ _=>False
 ct:St→Hp→Prop:=fun _ _=>False
abbrev TS:=Ends→St→Hp→Prop
def EP(X:Cx)(pins:List (Addr×Obj))(σ:St)(Q:VK)(u:Value)(s':Shared):Prop:=∃v H',Inv X pins σ H' s'∧RelV v u∧Q v H'
def TP(X:Cx)(pins:List (Addr×Obj))(σ:St)(Q:Bool→Hp→Prop)(b:Bool)(s':Shared):Prop:=∃H',Inv X pins σ H' s'∧Q b H'
def AP(X:Cx)(pins:List (Addr×Obj))(σ:St)(Q:List V→Hp→Prop)(us:List Value)(s':Shared):Prop:=∃vs H',Inv X pins σ H' s'∧Vals vs us∧Q vs H'
def SP(X:Cx)(pins:List (Addr×Obj))(D:Ends)(f:Flow)(s':Shared):Prop:=
 match f with
 | .next=>∃σ' H',Inv X pins σ' H' s'∧D.nx σ' H'
 | .brk=>∃σ' H',Inv X pins σ' H' s'∧D.bk σ' H'
 | .cont=>∃σ' H',Inv X pins σ' H' s'∧D.ct σ' H'
 | .ret u=>∃v σ' H',Inv X pins σ' H' s'∧RelV v u∧D.rt v H'
def PE(X:Cx)(e:Expr)(t:TE):Prop:=
 ∀(pins:List (Addr×Obj)) (s:Shared) (σ:St) (H:Hp) (Q:VK),Inv X pins σ H s→t σ H Q→wpAny (model X.prog X.w) X.A (eval e X.env) (EP X pins σ Q) X.xe s
def PT(X:Cx)(e:Expr)(t:TT):Prop:=
 ∀(pins:List (Addr×Obj)) (s:Shared) (σ:St) (H:Hp) (Q:Bool→Hp→Prop),Inv X pins σ H s→t σ H Q→wpAny (model X.prog X.w) X.A (isTrue e X.env (eval e X.env)) (TP X pins σ Q) X.xe s
def PW(X:Cx)(e:Expr)(t:TT):Prop:=
 ∀(whole:Sem Value) (pins:List (Addr×Obj)) (s:Shared) (σ:St) (H:Hp) (Q:Bool→Hp→Prop),Inv X pins σ H s→t σ H Q→wpAny (model X.prog X.w) X.A (isTrue e X.env whole) (TP X pins σ Q) X.xe s
theorem PW.pt{X:Cx}{e:Expr}{t:TT}(h:PW X e t):PT X e t:=h _
def PA(X:Cx)(es:List Expr)(t:TA):Prop:=
 ∀(pos:Pos) (pins:List (Addr×Obj)) (s:Shared) (σ:St) (H:Hp) (Q:List V→Hp→Prop),Inv X pins σ H s→t σ H Q→wpAny (model X.prog X.w) X.A (spliced (backTo pos (starEach es X.env))) (AP X pins σ Q) X.xe s
def PS(X:Cx)(st:Stmt)(t:TS):Prop:=
 ∀(pins:List (Addr×Obj)) (s:Shared) (σ:St) (H:Hp) (D:Ends),Inv X pins σ H s→t D σ H→wpAny (model X.prog X.w) X.A (exec st X.env) (SP X pins D) X.xe s
def PSs(X:Cx)(st:List Stmt)(t:TS):Prop:=
 ∀(pins:List (Addr×Obj)) (s:Shared) (σ:St) (H:Hp) (D:Ends),Inv X pins σ H s→t D σ H→wpAny (model X.prog X.w) X.A (execs st X.env) (SP X pins D) X.xe s
theorem ah{α:Type}{t:Sem α}{Q Q':α→Shared→Prop}{M:Model}{A:Around}{E:Value→Shared→Prop}{s:Shared}(h:wpAny M A t Q E s)(hQ:∀a s,Q a s→Q' a s):wpAny M A t Q' E s:=wpAny_mono h hQ fun _ _ x=>x
section
variable{X:Cx}
def cx(i:Nat):TE:=fun σ H Q=>∃v,σ[i]?=some (some v)∧Q v H
def tC(v:V):TE:=fun _ H Q=>Q v H
theorem nQ{i:Nat}{x:Str}{pos:Pos}(hN:X.N[i]?=some x)(hv:ee X.env.scope x)(hd:(x == ("__debug__":Str))=false:=by decide)(hcd:(x == ("__classdict__":Str))=false:=by decide):PE X (.Name x pos) (cx i):=by
 intro pins s σ H Q I h
 obtain⟨v,e,h⟩:=h
 obtain⟨m,hn,hl⟩:=I.loc
 obtain⟨u,r,l⟩:=hl i x v hN e hv
 have fin:EP X pins σ Q u s:=⟨v,H,I,r,h⟩
 rcases l with⟨hk,hm⟩ | ⟨hk,c,hc,hcell⟩
 ·exact wpAny_Name (wpAny_loadName_local I.ok.kind hk hn hm fin) hd
 ·rcases hk with hk | hk
  ·exact wpAny_Name (wpAny_loadName_cell I.ok.kind hk hc hcell fin) hd
  ·exact wpAny_Name (wpAny_loadName_free I.ok.kind hk hc hcell fin hcd) hd
theorem af{i j pos}:PE X (.Constant (.int i) j pos) (tC (.int i)):=fun _ _ _ H _ I h=>wpAny_Constant_int ⟨.int i,H,I.tok _,⟨_,rfl⟩,h⟩
theorem bu{b j pos}:PE X (.Constant (.bool b) j pos) (tC (.bl b)):=fun _ _ _ H _ I h=>Constant_bool ⟨.bl b,H,I,rfl,h⟩
theorem fL{j pos}:PE X (.Constant .none j pos) (tC .non):=fun _ _ _ H _ I h=>Constant_none ⟨.non,H,I,rfl,h⟩
theorem c6{x j pos}:PE X (.Constant (.str x) j pos) (tC (.str x)):=fun _ _ _ H _ I h=>Calls.Constant_str ⟨.str x,H,I.tok _,⟨_,rfl⟩,h⟩
def Gl(X:Cx)(x:Str):Prop:=X.env.kindOf x=some .globalImplicit
theorem kX{E:Value→Shared→Prop}{pins:List (Addr×Obj)}{s:Shared}{σ:St}{H:Hp}{x:Str}{u:Value}{pos:Pos}{Q:Value→Shared→Prop}(I:Inv X pins σ H s)(hg:Gl X x)(hm:X.mg x=some u)(h:Q u s)(hd:(x == ("__debug__":Str))=false:=by decide):wpAny (model X.prog X.w) X.A (eval (.Name x pos) X.env) Q E s:=
 Calls.Name_function_global I.ok.kind hg (Calls.loadGlobal_global (by rw[I.ok.glob];exact I.mod.glob.keeps I.bk) hm h) hd
theorem bO{E:Value→Shared→Prop}{pins:List (Addr×Obj)}{s:Shared}{σ:St}{H:Hp}{x:Str}{u:Value}{pos:Pos}{Q:Value→Shared→Prop}(I:Inv X pins σ H s)(hg:Gl X x)(hm:X.mg x=none)(hv:bootBuiltins x=some u)(h:Q u s)(hn:x≠"__name__":=by decide)(hd:(x == ("__debug__":Str))=false:=by decide):wpAny (model X.prog X.w) X.A (eval (.Name x pos) X.env) Q E s:=by
 obtain⟨mb,h1,h2⟩:=I.mod.blt
 exact Calls.Name_function_global I.ok.kind hg (Calls.loadGlobal_builtin (by rw[I.ok.glob];exact I.mod.glob.keeps I.bk) hm (by rw[I.ok.blt];exact h1.keeps I.bk) ((h2 x hn).trans hv) h) hd
theorem fw{x:Str}{v:V}{u:Value}{pos:Pos}(hg:Gl X x)(hm:X.mg x=some u)(r:RelV v u)(hd:(x == ("__debug__":Str))=false:=by decide):PE X (.Name x pos) (tC v):=
 fun _ _ _ H _ I h=>kX I hg hm ⟨v,H,I,r,h⟩ hd
theorem qK{x:Str}{v:V}{u:Value}{pos:Pos}(hg:Gl X x)(hm:X.mg x=none)(hv:bootBuiltins x=some u)(r:RelV v u)(hn:x≠"__name__":=by decide)(hd:(x == ("__debug__":Str))=false:=by decide):PE X (.Name x pos) (tC v):=
 fun _ _ _ H _ I h=>bO I hg hm hv ⟨v,H,I,r,h⟩ hn hd
variable{a b:Expr}{ta tb:TE}{pos:Pos}
def tB(t:TE):TT:=fun σ H Q=>t σ H fun x H1=>∃c,x=.bl c∧Q c H1
theorem dO{e:Expr}{t:TE}(h:PE X e t)(he:∀whole,isTrue e X.env whole=(do let v←whole;standAt e.pos;holding [v] (truthy v)):=by intro _;rfl):PT X e (tB t):=by
 intro pins s σ H Q I hw
 refine isTrue_plain (ah (h pins s σ H _ I hw) fun v s1 ⟨x,H1,I1,r1,q1⟩=>?_) (he _)
 obtain⟨d,rfl,q⟩:=q1
 cases r1
 exact wpAny_truthy_bool ⟨H1,I1,q⟩
variable{tA tB':TT}{aw:List Expr}
def oO(t u:TT):TT:=fun σ H Q=>t σ H fun c H1=>if c=true then u σ H1 Q else Q false H1
def j3(t u:TT):TT:=fun σ H Q=>t σ H fun c H1=>if c=true then Q true H1 else u σ H1 Q
def nG(t:TT):TT:=fun σ H Q=>t σ H fun c H1=>Q (!c) H1
theorem qh(ha:PT X a tA):PW X (.BoolOp .And [a] pos) tA:=by
 intro wh pins s σ H Q I h
 refine isTrue_and (ah (ha pins s σ H Q I h) fun c s1 e=>?_)
 cases c with
 | true=>exact isTrue_and_nil e
 | false=>exact e
theorem d6(ha:PT X a tA):PW X (.BoolOp .Or [a] pos) tA:=by
 intro wh pins s σ H Q I h
 refine isTrue_or (ah (ha pins s σ H Q I h) fun c s1 e=>?_)
 cases c with
 | false=>exact isTrue_or_nil e
 | true=>exact e
theorem ph(ha:PT X a tA)(hb:PW X (.BoolOp .And (b::aw) pos) tB'):PW X (.BoolOp .And (a::b::aw) pos) (oO tA tB'):=by
 intro wh pins s σ H Q I h
 refine isTrue_and (ah (ha pins s σ H _ I h) fun c s1 ⟨H1,I1,q1⟩=>?_)
 cases c with
 | true=>exact hb wh pins s1 σ H1 Q I1 q1
 | false=>exact⟨H1,I1,q1⟩
theorem eG(ha:PT X a tA)(hb:PW X (.BoolOp .Or (b::aw) pos) tB'):PW X (.BoolOp .Or (a::b::aw) pos) (j3 tA tB'):=by
 intro wh pins s σ H Q I h
 refine isTrue_or (ah (ha pins s σ H _ I h) fun c s1 ⟨H1,I1,q1⟩=>?_)
 cases c with
 | true=>exact⟨H1,I1,q1⟩
 | false=>exact hb wh pins s1 σ H1 Q I1 q1
theorem c0(ha:PT X a tA):PT X (.UnaryOp .Not a pos) (nG tA):=by
 intro pins s σ H Q I h
 exact isTrue_not (ha pins s σ H (fun c H1=>Q (!c) H1) I h)
def n5(ta tb:TE):TE:=fun σ H Q=>ta σ H fun x H1=>∃c,x=.bl c∧if c=true then tb σ H1 Q else Q (.bl false) H1
def oV(ta tb:TE):TE:=fun σ H Q=>ta σ H fun x H1=>∃c,x=.bl c∧if c=true then Q (.bl true) H1 else tb σ H1 Q
theorem bY{op}{t:TE}(h:PE X a t):PE X (.BoolOp op [a] pos) t:=fun pins s σ H Q I hw=>BoolOp_one (h pins s σ H Q I hw)
theorem dz(ha:PE X a ta)(hb:PE X (.BoolOp .And (b::aw) pos) tb):PE X (.BoolOp .And (a::b::aw) pos) (n5 ta tb):=by
 intro pins s σ H Q I h
 refine BoolOp_and (ah (ha pins s σ H _ I h) fun v s1 ⟨x,H1,I1,r1,q1⟩=>?_)
 obtain⟨c,rfl,q1⟩:=q1
 cases r1
 refine wpAny_truthy_bool ?_
 cases c with
 | true=>exact hb pins s1 σ H1 Q I1 q1
 | false=>exact⟨.bl false,H1,I1,rfl,q1⟩
theorem eR(ha:PE X a ta)(hb:PE X (.BoolOp .Or (b::aw) pos) tb):PE X (.BoolOp .Or (a::b::aw) pos) (oV ta tb):=by
 intro pins s σ H Q I h
 refine BoolOp_or (ah (ha pins s σ H _ I h) fun v s1 ⟨x,H1,I1,r1,q1⟩=>?_)
 obtain⟨c,rfl,q1⟩:=q1
 cases r1
 refine wpAny_truthy_bool ?_
 cases c with
 | false=>exact hb pins s1 σ H1 Q I1 q1
 | true=>exact⟨.bl true,H1,I1,rfl,q1⟩
end
def SqL(K:PySem.W.Frag)(H:Hp)(a:Addr)(xs:List V):Prop:=
 Rd H a (.lst xs)∨
  ∃(o:Obj) (its:Array Value) (n:Nat),K.lookup a=some o∧o.cls=.type "list"∧o.dict=none∧o.data=.seq its n∧its.size≤sizeLine∧Vals xs its.toList
def SqT(K:PySem.W.Frag)(H:Hp)(a:Addr)(xs:List V):Prop:=
 Rd H a (.tup xs)∨
  ∃(o:Obj) (its:Array Value) (n:Nat),K.lookup a=some o∧o.cls=.type "tuple"∧o.data=.seq its n∧its.size≤sizeLine∧Vals xs its.toList
def lO:Value→Option V
 | .none=>some .non
 | .bool b=>some (.bl b)
 | .int i _=>some (.int i)
 | .str x _=>some (.str x)
 | .bytes b _=>some (.byt b)
 | .float b _=>some (.flt b)
 | .ref a=>some (.ref a)
 | .type n=>some (.ty n)
 | _=>none
theorem RelV.abs{x:V}{u:Value}(r:RelV x u):lO u=some x:=by
 cases x with
 | non=>cases r;rfl
 | bl _=>cases r;rfl
 | int _=>obtain⟨t,rfl⟩:=r;rfl
 | str _=>obtain⟨t,rfl⟩:=r;rfl
 | byt _=>obtain⟨t,rfl⟩:=r;rfl
 | flt _=>obtain⟨t,rfl⟩:=r;rfl
 | ref _=>cases r;rfl
 | ty _=>cases r;rfl
theorem RelV.inj{x y:V}{u:Value}(r:RelV x u)(q:RelV y u):x=y:=Option.some.inj (r.abs.symm.trans q.abs)
theorem Vals.inj:∀{xs ys:List V} {us:List Value},Vals xs us→Vals ys us→xs=ys
 | _,_,_,.nil,.nil=>rfl
 | _,_,_,.cons r t,.cons r' t'=>by rw[r.inj r',Vals.inj t t']
section
variable{X:Cx}{pins:List (Addr×Obj)}{σ:St}{H:Hp}{s:Shared}{a:Addr}{xs ys:List V}
theorem SqL.of{K:PySem.W.Frag}(h:H a=some (.lst xs)):SqL K H a xs:=.inl (.inl h)
theorem SqT.of{K:PySem.W.Frag}(h:H a=some (.tup xs)):SqT K H a xs:=.inl (.inl h)
theorem Inv.list(I:Inv X pins σ H s)(h:SqL X.K H a xs):∃its:List Value,Vals xs its∧PlainL s.heap a its.toArray∧xs.length≤sizeLine:=by
 rcases h with h | ⟨o,its,n,hk,hc,hd,hs,hz,r⟩
 ·obtain⟨z,its,n,r,e⟩:=h.ok I.hok
  exact⟨its,r,⟨_,n,e,rfl,rfl,rfl⟩,z⟩
 ·refine⟨its.toList,r,⟨o,n,I.kIn a o hk,hc,hd,by simpa using hs⟩,?_⟩
  have e:=r.length
  simp only[Array.length_toList] at e
  lia
theorem Inv.tuple(I:Inv X pins σ H s)(h:SqT X.K H a xs):∃its:List Value,Vals xs its∧IsTup s.heap a its.toArray∧xs.length≤sizeLine:=by
 rcases h with h | ⟨o,its,n,hk,hc,hs,hz,r⟩
 ·obtain⟨z,its,r,p⟩:=h.ok I.hok
  exact⟨its,r,p,z⟩
 ·refine⟨its.toList,r,⟨o,I.kIn a o hk,hc,n,by simpa using hs⟩,?_⟩
  have e:=r.length
  simp only[Array.length_toList] at e
  lia
theorem Inv.list_inj(I:Inv X pins σ H s)(h:SqL X.K H a xs)(h':SqL X.K H a ys):xs=ys:=by
 obtain⟨its,r,⟨o,n,e,_,_,d⟩,_⟩:=I.list h
 obtain⟨its',r',⟨o',n',e',_,_,d'⟩,_⟩:=I.list h'
 rw[e] at e';cases e'
 rw[d] at d'
 injection d' with d1 _
 have:its=its':=by simpa using congrArg Array.toList d1
 subst this
 exact r.inj r'
end
abbrev Cx.wish(X:Cx)(E:Value→Shared→Prop):Cx:={X with xe:=E}
abbrev Cx.nox(X:Cx):Cx:=X.wish fun _ _=>False
theorem Cx.Ok.wish{X:Cx}(ok:X.Ok)(E:Value→Shared→Prop):(X.wish E).Ok:=
 ⟨ok.mod,ok.kind,ok.glob,ok.blt,ok.above,ok.inj,ok.has,ok.cab,ok.hd,ok.frames,ok.stk,ok.exf,ok.bs,ok.bsz,ok.noex,ok.exfs,ok.funs,ok.frf⟩
theorem Cx.Ok.unwish{X:Cx}{E:Value→Shared→Prop}(ok:(X.wish E).Ok):X.Ok:=
 ⟨ok.mod,ok.kind,ok.glob,ok.blt,ok.above,ok.inj,ok.has,ok.cab,ok.hd,ok.frames,ok.stk,ok.exf,ok.bs,ok.bsz,ok.noex,ok.exfs,ok.funs,ok.frf⟩
section
variable{X:Cx}{pins:List (Addr×Obj)}{σ:St}{H:Hp}{s:Shared}{E:Value→Shared→Prop}
theorem Inv.wish(I:Inv X pins σ H s)(E:Value→Shared→Prop):Inv (X.wish E) pins σ H s:=⟨I.ok.wish E,I.os,I.bare,I.base,I.loc,I.cell,I.free,I.freeC,I.pin,I.hok,I.len⟩
theorem Inv.unwish(I:Inv (X.wish E) pins σ H s):Inv X pins σ H s:=⟨I.ok.unwish,I.os,I.bare,I.base,I.loc,I.cell,I.free,I.freeC,I.pin,I.hok,I.len⟩
theorem SP.unwish{D:Ends}{f:Flow}{s':Shared}(h:SP (X.wish E) pins D f s'):SP X pins D f s':=by
 cases f with
 | next=>obtain⟨σ',H',I,q⟩:=h;exact⟨σ',H',I.unwish,q⟩
 | brk=>obtain⟨σ',H',I,q⟩:=h;exact⟨σ',H',I.unwish,q⟩
 | cont=>obtain⟨σ',H',I,q⟩:=h;exact⟨σ',H',I.unwish,q⟩
 | ret u=>obtain⟨v,σ',H',I,r,q⟩:=h;exact⟨v,σ',H',I.unwish,r,q⟩
theorem PSs.nox{st:List Stmt}{t:TS}(h:PSs X.nox st t):PSs X st t:=fun pins s σ H D I hw=>
 wpAny_mono (h pins s σ H D (I.wish _) hw) (fun _ _ q=>q.unwish) fun _ _ z=>False.elim z
end
section
variable{X:Cx}{st:Stmt}{aw:List Stmt}{t u:TS}{e:Expr}{te:TE}{pos:Pos}
def fe:TS:=fun D σ H=>D.nx σ H
def d8(t u:TS):TS:=fun D σ H=>t {D with nx:=u D} σ H
theorem aW:PSs X [] fe:=fun _ _ σ H _ I h=>wpAny_execs_nil ⟨σ,H,I,h⟩
theorem ae(h1:PS X st t)(h2:PSs X aw u):PSs X (st::aw) (d8 t u):=by
 intro pins s σ H D I h
 refine wpAny_execs_cons (ah (h1 pins s σ H {D with nx:=u D} I h) fun f s1 q=>?_)
 cases f with
 | next=>
   obtain⟨σ',H',I',q⟩:=q
   exact h2 pins s1 σ' H' D I' q
 | ret v=>exact q
 | brk=>exact q
 | cont=>exact q
theorem al(h1:PS X st t):PSs X [st] t:=by
 intro pins s σ H D I h
 refine wpAny_execs_cons (ah (h1 pins s σ H D I h) fun f s1 q=>?_)
 cases f with
 | next=>exact wpAny_execs_nil q
 | ret v=>exact q
 | brk=>exact q
 | cont=>exact q
theorem Inv.quiet{pins:List (Addr×Obj)}{σ:St}{H:Hp}{s:Shared}(I:Inv X pins σ H s):interactive X.env=false:=by simp[interactive,I.ok.kind]
def o7(te:TE):TS:=fun D σ H=>te σ H fun _ H1=>D.nx σ H1
theorem ba(he:PE X e te)(hs:swapsWith e none pos.line X.env=pure false:=by rfl):PS X (.Expr e pos) (o7 te):=by
 intro pins s σ H D I h
 exact wpAny_Expr_any (ah (he pins s σ H _ I h) fun v s1 ⟨x,H1,I1,r1,q1⟩=>⟨σ,H1,I1,q1⟩) I.quiet hs
def qr(te:TE):TS:=fun D σ H=>te σ H D.rt
theorem aD(he:PE X e te):PS X (.Return (some e) pos) (qr te):=by
 intro pins s σ H D I h
 exact wpAny_Return_some (ah (he pins s σ H _ I h) fun v s1 ⟨x,H1,I1,r1,q1⟩=>⟨x,σ,H1,I1,r1,q1⟩)
def ic(c:TT)(t u:TS):TS:=fun D σ H=>c σ H fun b H1=>if b=true then t D σ H1 else u D σ H1
theorem aU{c:Expr}{a b:List Stmt}{tc:TT}(hc:PT X c tc)(ha:PSs X a t)(hb:PSs X b u):PS X (.If c a b pos) (ic tc t u):=by
 intro pins s σ H D I h
 refine wpAny_If (ah (hc pins s σ H _ I h) fun d s1 ⟨H1,I1,q1⟩=>?_)
 cases d with
 | true=>exact ha pins s1 σ H1 D I1 q1
 | false=>exact hb pins s1 σ H1 D I1 q1
def oX:TS:=fun _ _ _=>False
theorem c7:PS X st oX:=fun _ _ _ _ _ _ h=>h.elim
end
abbrev TG:=V→St→Hp→(St→Hp→Prop)→Prop
abbrev cA:=List V→St→Hp→(St→Hp→Prop)→Prop
def PG(X:Cx)(target:Expr)(t:TG):Prop:=
 ∀ (pins:List (Addr×Obj)) (s:Shared) (σ:St) (H:Hp) (v:V) (u:Value) (Q:St→Hp→Prop),Inv X pins σ H s→RelV v u→t v σ H Q→
   wpAny (model X.prog X.w) X.A (assign target X.env u) (fun _ s'=>∃σ' H',Inv X pins σ' H' s'∧Q σ' H') X.xe s
def fq(X:Cx)(ts:List Expr)(t:cA):Prop:=
 ∀ (pins:List (Addr×Obj)) (s:Shared) (σ:St) (H:Hp) (vs:List V) (us:List Value) (Q:St→Hp→Prop),Inv X pins σ H s→Vals vs us→t vs σ H Q→
   wpAny (model X.prog X.w) X.A (assignInOrder ((assignEach ts X.env).map (·.2)) us) (fun _ s'=>∃σ' H',Inv X pins σ' H' s'∧Q σ' H') X.xe s
abbrev gQ:=V→V→V→Hp→(Hp→Prop)→Prop
def lh(X:Cx)(t:gQ):Prop:=
 ∀ (pins:List (Addr×Obj)) (s:Shared) (σ:St) (H:Hp) (o i v:V) (ov iv u:Value) (Q:Hp→Prop),Inv X pins σ H s→RelV o ov→RelV i iv→RelV v u→t o i v H Q→
   wpAny (model X.prog X.w) X.A (setItem ov iv u) (fun _ s'=>∃H',Inv X pins σ H' s'∧Q H') X.xe s
abbrev eH:=V→V→Hp→VK→Prop
def ia(X:Cx)(op:Operator)(t:eH):Prop:=
 ∀ (pins:List (Addr×Obj)) (s:Shared) (σ:St) (H:Hp) (x y:V) (v u:Value) (Q:VK),Inv X pins σ H s→RelV x v→RelV y u→t x y H Q→
   wpAny (model X.prog X.w) X.A (inplaceOp op v u) (EP X pins σ Q) X.xe s
section
variable{X:Cx}{pos:Pos}
def cr(i:Nat):TG:=fun v σ H Q=>Q (σ.set i (some v)) H
theorem bh{i:Nat}{x:Str}(hN:X.N.Nodup)(hi:X.N[i]?=some x)(hx:c5 X.env.scope x)(hf:X.fn x=true∨X.env.scope.names.lookup x=some .local:=by first | exact .inl rfl | exact .inr rfl | assumption):PG X (.Name x pos) (cr i):=by
 intro pins s σ H v u Q I r h
 exact wpAny_assign_Name (gX I hN hi hx r (fun s' I'=>⟨_,H,I',h⟩) hf)
def lX:cA:=fun vs σ H Q=>vs=[]∧Q σ H
def o0(t:TG)(u:cA):cA:=fun vs σ H Q=>∃v r,vs=v::r∧t v σ H fun σ' H'=>u r σ' H' Q
theorem eI:fq X [] lX:=by
 intro pins s σ H vs us Q I r h
 obtain⟨e,h⟩:=h
 subst e
 cases r
 exact assignInOrder_nil ⟨σ,H,I,h⟩
theorem ce{e:Expr}{es:List Expr}{t:TG}{u:cA}(h1:PG X e t)(h2:fq X es u)(hs:(assignEach (e::es) X.env).map (·.2)=assign e X.env::(assignEach es X.env).map (·.2):=by rfl):fq X (e::es) (o0 t u):=by
 intro pins s σ H vs us Q I r h
 obtain⟨v,vr,e1,h⟩:=h
 subst e1
 cases r with
 | cons r rr=>
   rw[hs]
   refine assignInOrder_cons (ah (h1 pins s σ H _ _ _ I r h) fun _ s1 ⟨σ1,H1,I1,q1⟩=>?_)
   exact h2 pins s1 σ1 H1 _ _ Q I1 rr q1
def mD(K:PySem.W.Frag)(n:Nat)(t:cA):TG:=fun v σ H Q=>∃a xs,v=.ref a∧SqT K H a xs∧xs.length=n∧t xs σ H Q
theorem eZ{es:List Expr}{k:Nat}{t:cA}{n:Nat}(hc:X.calm=true)(h:fq X es t)(hn:(assignEach es X.env).length=n:=by rfl)(hst:(assignEach es X.env).findIdx? (·.1)=none:=by rfl):PG X (.Tuple es k pos) (mD X.K n t):=by
 intro pins s σ H v u Q I r hw
 obtain⟨a,xs,e1,hq,hl,hw⟩:=hw
 subst e1
 cases r
 obtain⟨its,rv,ht,hz⟩:=I.tuple hq
 refine assign_Tuple_tuple (I.ok.hd hc) ht (by simp[hn,←hl,rv.length]) hst fun h' hx=>?_
 have I1:Inv X pins σ H {s with heap:=h'}:=I.kept (t':=s.toks) fun b o e=>hx b o (Nat.ne_of_lt (Heap.lt_size e)) e
 exact h pins _ σ H xs _ Q I1 (by simpa using rv) hw
def oN(to ti:TE)(t:gQ):TG:=fun v σ H Q=>to σ H fun o H1=>ti σ H1 fun i H2=>t o i v H2 fun H3=>Q σ H3
theorem lH{o i:Expr}{to ti:TE}{t:gQ}(ho:PE X o to)(hi:PE X i ti)(hs:lh X t)(ha:∀v,assign (.Subscript o i pos) X.env v=(do
 let ov←holding [v] (eval o X.env)
 let iv←holding [v,ov] (eval i X.env)
 standAt pos
 holding [v,ov,iv] (setItem ov iv v)
 release [v,ov,iv] []):=by intro _;rfl):PG X (.Subscript o i pos) (oN to ti t):=by
 intro pins s σ H v u Q I r h
 rw[ha]
 refine wpAny_bind (wpAny_holding (ah (ho pins s σ H _ I h) fun ov s1 ⟨x,H1,I1,r1,q1⟩=>?_))
 refine wpAny_bind (wpAny_holding (ah (hi pins s1 σ H1 _ I1 q1) fun iv s2 ⟨y,H2,I2,r2,q2⟩=>?_))
 refine wpAny_bind (wpAny_standAt (wpAny_bind (wpAny_holding (ah (hs pins s2 σ H2 x y v ov iv u _ I2 r1 r2 r q2) fun _ s3 ⟨H3,I3,q3⟩=>?_))))
 exact wpAny_release ⟨σ,H3,I3,q3⟩
def dM(te:TE)(g:TG):TS:=fun D σ H=>te σ H fun x H1=>g x σ H1 D.nx
theorem eF{tg e:Expr}{te:TE}{g:TG}(he:PE X e te)(hg:PG X tg g)(hs:swapsWithSole [tg] e pos.line X.env=pure false:=by rfl)(hw:swappedStores [tg] e X.env=pure none:=by rfl)
 (h1:(assignEach [tg] X.env).map (·.2)=[assign tg X.env]:=by rfl):PS X (.Assign [tg] e pos) (dM te g):=by
 intro pins s σ H D I h
 refine wpAny_Assign_stores (ah (he pins s σ H _ I h) fun v s1 ⟨x,H1,I1,r1,q1⟩=>?_) hs hw
 rw[h1]
 exact ah (hg pins s1 σ H1 x v _ I1 r1 q1) fun _ s2 q=>q
theorem aB{i:Nat}{x:Str}{e:Expr}{te:TE}{pos':Pos}(hN:X.N.Nodup)(hi:X.N[i]?=some x)(hx:c5 X.env.scope x)(he:PE X e te)(hs:swapsWith e (some (.Name x pos')) pos.line X.env=pure false:=by rfl)(hf:X.fn x=true∨X.env.scope.names.lookup x=some .local:=by first | exact .inl rfl | exact .inr rfl | assumption):
 PS X (.Assign [.Name x pos'] e pos) (dM te (cr i)):=by
 intro pins s σ H D I h
 refine wpAny_Assign_Name (ah (he pins s σ H _ I h) fun v s1 ⟨y,H1,I1,r1,q1⟩=>?_) hs
 exact gX I1 hN hi hx r1 (fun s2 I2=>⟨_,H1,I2,q1⟩) hf
def rp(i:Nat)(te:TE)(ti:eH):TS:=fun D σ H=>∃x,σ[i]?=some (some x)∧te σ H fun y H1=>ti x y H1 fun z H2=>D.nx (σ.set i (some z)) H2
theorem gj{i:Nat}{x:Str}{e:Expr}{te:TE}{op:Operator}{ti:eH}{pos':Pos}(hN:X.N.Nodup)(hi:X.N[i]?=some x)(hx:c5 X.env.scope x)(he:PE X e te)(ho:ia X op ti)(hf:X.fn x=true∨X.env.scope.names.lookup x=some .local:=by first | exact .inl rfl | exact .inr rfl | assumption):
 PS X (.AugAssign (.Name x pos') op e pos) (rp i te ti):=by
 intro pins s σ H D I h
 obtain⟨v,e1,h⟩:=h
 obtain⟨m,hn,hl⟩:=I.loc
 have vis:ee X.env.scope x:=by rcases hx with k | k;exact .inl k;exact .inr (.inl k)
 obtain⟨u,r,l⟩:=hl i x v hi e1 vis
 refine wpAny_AugAssign_Name ?_
 have go:wpAny (model X.prog X.w) X.A (eval e X.env) (fun w s₂=>wpAny (model X.prog X.w) X.A (inplaceOp op u w) (fun r s₃=>wpAny (model X.prog X.w) X.A (storeName X.env x r) (fun _=>SP X pins D .next) X.xe s₃) X.xe s₂) X.xe s:=by
  refine ah (he pins s σ H _ I h) fun w s1 ⟨y,H1,I1,r1,q1⟩=>?_
  refine ah (ho pins s1 σ H1 v y u w _ I1 r r1 q1) fun z s2 ⟨zv,H2,I2,r2,q2⟩=>?_
  exact gX I2 hN hi hx r2 (fun s3 I3=>⟨_,H2,I3,q2⟩) hf
 rcases l with⟨hk,hm⟩ | ⟨hk,c,hc,hcell⟩
 ·exact wpAny_loadName_local I.ok.kind hk hn hm go
 ·rcases hk with hk | hk
  ·exact wpAny_loadName_cell I.ok.kind hk hc hcell go
  ·rcases hx with k | k
   ·have:X.env.scope.names.lookup x=some .free:=hk
    rw[k] at this;cases this
   ·have:X.env.scope.names.lookup x=some .free:=hk
    rw[k] at this;cases this
def kR(f:Int→Int→Int):eH:=fun x y H Q=>∃i j,x=.int i∧y=.int j∧Q (.int (f i j)) H
theorem jE:ia X .Add (kR fun i j=>i+j):=by
 intro pins s σ H x y v u Q I r1 r2 h
 obtain⟨i,j,e1,e2,q⟩:=h
 subst e1;subst e2
 obtain⟨t,rfl⟩:=r1
 obtain⟨t',rfl⟩:=r2
 exact iadd_int ⟨.int _,H,I.tok _,⟨_,rfl⟩,q⟩
theorem oP:ia X .Sub (kR fun i j=>i-j):=by
 intro pins s σ H x y v u Q I r1 r2 h
 obtain⟨i,j,e1,e2,q⟩:=h
 subst e1;subst e2
 obtain⟨t,rfl⟩:=r1
 obtain⟨t',rfl⟩:=r2
 exact isub_int ⟨.int _,H,I.tok _,⟨_,rfl⟩,q⟩
end
section
variable{X:Cx}{pos:Pos}
def mK(c:TT)(tb:TS):TS:=fun D σ H=>∃W:Nat→St→Hp→Prop,(∃m,W m σ H)∧∀m σ H,W m σ H→
 c σ H fun b H1=>if b=true then∃N:St→Hp→Prop,(∀σ' H',N σ' H'→∃m',m'<m∧W m' σ' H')∧tb {D with nx:=N,ct:=N,bk:=D.nx} σ H1 else D.nx σ H1
theorem eU{c:Expr}{body:List Stmt}{tc:TT}{tb:TS}(hp:PassesOwn (model X.prog X.w) X.A X.env X.xe)(hc:PT X c tc)(hb:PSs X body tb):PS X (.While c body [] pos) (mK tc tb):=by
 intro pins s σ H D I h
 obtain⟨W,⟨m0,w0⟩,turn⟩:=h
 refine wpAny_While (codeAny_whileLoop (fun n s'=>∃σ' H',Inv X pins σ' H' s'∧W n σ' H') ?_ m0 ⟨σ,H,I,w0⟩)
 rintro n s1 ⟨σ1,H1,I1,w1⟩
 refine wpAny_passesOwn hp (ah (hc pins s1 σ1 H1 _ I1 (turn n σ1 H1 w1)) fun b s2 ⟨H2,I2,q2⟩=>?_)
 cases b with
 | true=>
   obtain⟨N,hN,q2⟩:=q2
   rw[if_pos rfl]
   refine wpAny_passesOwn hp (ah (hb pins s2 σ1 H2 _ I2 q2) fun f s3 q3=>?_)
   cases f with
   | next=>
     obtain⟨σ3,H3,I3,n3⟩:=q3
     obtain⟨m',hm,w3⟩:=hN σ3 H3 n3
     exact⟨m',hm,σ3,H3,I3,w3⟩
   | cont=>
     obtain⟨σ3,H3,I3,n3⟩:=q3
     obtain⟨m',hm,w3⟩:=hN σ3 H3 n3
     exact⟨m',hm,σ3,H3,I3,w3⟩
   | brk=>exact q3
   | ret v=>exact q3
 | false=>
   rw[if_neg Bool.false_ne_true]
   exact wpAny_execs_nil ⟨σ1,H2,I2,q2⟩
end
structure It where
 go:Nat→Hp→Prop
 yld:Nat→Hp→V→Hp→Prop
 stop:Nat→Hp→Prop
def bp(X:Cx)(pins:List (Addr×Obj))(H:Hp)(b:Addr):Prop:=
 H b=none∧b≠X.env.locals∧b∉X.fs∧(b∈X.ex∨X.s₀.heap.objs.size≤b)∧(∀x c,X.env.cells.lookup x=some c→c≠b)∧∀p∈X.pn++pins,p.1≠b
theorem Inv.fpOk{X:Cx}{pins:List (Addr×Obj)}{σ:St}{H H':Hp}{s:Shared}{b:Addr}(I:Inv X pins σ H s)(hb:s.heap.objs.size≤b)(hn:H' b=none):bp X pins H' b:=by
 refine⟨hn,Nat.ne_of_gt (Nat.lt_of_lt_of_le I.lt hb),I.nofs hb,.inr (Nat.le_trans I.sz hb),fun x c e z=>?_,fun p hp z=>?_⟩
 ·obtain⟨v,q⟩:=I.cell x c e
  exact absurd (Nat.lt_of_lt_of_le q.lt (by rw[z];exact hb)) (Nat.lt_irrefl _)
 ·exact absurd (Nat.lt_of_lt_of_le (Heap.lt_size (I.pin p hp).1) (by rw[z];exact hb)) (Nat.lt_irrefl _)
structure Turn(P:Program)(w:World)(K:PySem.W.Frag)(tg:Expr)(J:It)(fp:List Addr)(it:Addr)(tn:Nat→Heap→Prop):Prop where
 mem:it∈fp
 obj:∀i h,tn i h→∀b∈fp,∃o,h.get? b=some o∧∀v,o.data≠ .cell v
 keep:∀i h h',tn i h→(∀b∈fp,∀o,h.get? b=some o→h'.get? b=some o)→tn i h'
 item:∀(X:Cx),X.prog=P→X.w=w→X.K=K→X.calm=true→∀(i:Nat) (pins:List (Addr×Obj)) (s:Shared) (σ:St) (H:Hp) (E:Value→Shared→Prop),Inv X pins σ H s→(∀b∈fp,bp X pins H b)→tn i s.heap→J.go i H→
  wpAny (model P w) X.A (pyNext (.ref it)) (fun r s1=>∃u,r=some u∧
   wpAny (model P w) X.A (letOwnedTupleGo tg (.ref it) u) (fun _ s2=>∃x H',Inv X pins σ H' s2∧RelV x u∧J.yld i H x H'∧tn (i+1) s2.heap∧∀b∈fp,H' b=none) E s1) E s
 done:∀(X:Cx),X.prog=P→X.w=w→X.K=K→X.calm=true→∀(i:Nat) (pins:List (Addr×Obj)) (s:Shared) (σ:St) (H:Hp) (E:Value→Shared→Prop),Inv X pins σ H s→(∀b∈fp,bp X pins H b)→tn i s.heap→J.stop i H→
  wpAny (model P w) X.A (pyNext (.ref it)) (fun r s1=>r=none∧Inv X pins σ H s1) E s
 self:∀(A:Around) (i:Nat) (s:Shared) (Q:Value→Shared→Prop) (E:Value→Shared→Prop),tn i s.heap→Q (.ref it) s→wpAny (model P w) A (pyIter (.ref it)) Q E s
abbrev TI:=St→Hp→(It→Hp→Prop)→Prop
def iU(X:Cx)(pins:List (Addr×Obj))(σ:St)(tg:Expr)(R:It→Hp→Prop)(itv:Value)(s2:Shared):Prop:=
 ∃(it:Addr) (fp:List Addr) (tn:Nat→Heap→Prop) (J:It) (H':Hp),itv=.ref it∧Inv X pins σ H' s2∧Turn X.prog X.w X.K tg J fp it tn∧tn 0 s2.heap∧(∀b∈fp,bp X pins H' b)∧R J H'
def PI(X:Cx)(tg iter:Expr)(wi:TI):Prop:=
 ∀ (pins:List (Addr×Obj)) (s:Shared) (σ:St) (H:Hp) (R:It→Hp→Prop),Inv X pins σ H s→wi σ H R→
   wpAny (model X.prog X.w) X.A (eval iter X.env) (fun v s1=>wpAny (model X.prog X.w) X.A (pyIter v) (iU X pins σ tg R) X.xe s1) X.xe s
theorem fR{M:Model}{A:Around}{E:Value→Shared→Prop}{s:Shared}{tg:Expr}{it:Addr}{u:Value}{o:Obj}{n:String}{vs:Array Value}{Q:Unit→Shared→Prop}(ho:s.heap.get? it=some o)(hc:o.cls=.type n)(hd:o.data=.fields vs)(hn:["enumerate","zip","dict_itemiterator","dict_reverseitemiterator","odict_iterator","itertools.zip_longest","itertools.pairwise"].contains n=false)(hQ:Q () s):wpAny M A (letOwnedTupleGo tg (.ref it) u) Q E s:=by
 unfold letOwnedTupleGo
 cases tg <;> first
  | exact wpAny_pure hQ
  | (cases u <;> first
   | exact wpAny_pure hQ
   | (refine wpAny_bind (wpAny_load ho ?_)
      rw[hc,hd]
      show wpAny M A (if(["enumerate","zip","dict_itemiterator","dict_reverseitemiterator","odict_iterator","itertools.zip_longest","itertools.pairwise"].contains n && vs[0]? == some (rawInt _))=true then _ else _) Q E s
      rw[if_neg (by intro h;rw[hn,Bool.false_and] at h;cases h)]
      exact wpAny_pure hQ))
def bV(K:PySem.W.Frag)(a:Addr):It:=
 ⟨fun i H=>∃xs x,SqL K H a xs∧xs[i]?=some x,fun i H x H'=>H'=H∧∀xs,SqL K H a xs→xs[i]?=some x,fun i H=>∃xs,SqL K H a xs∧xs.length≤i⟩
def bK(lo:Int)(n:Nat):It:=⟨fun i _=>i<n,fun i H x H'=>H'=H∧x=.int (lo+i),fun i _=>n≤i⟩
theorem qV{P:Program}{w:World}{K:PySem.W.Frag}{tg:Expr}(a it:Addr):Turn P w K tg (bV K a) [it] it (fun i h=>h.IsListIter it a i) where
 mem:=by simp
 obj:=fun i h st b hb=>by
  have e:b=it:=by simpa using hb
  subst e
  obtain⟨o,e,c,d⟩:=st
  exact⟨o,e,fun v z=>by rw[d] at z;cases z⟩
 keep:=fun i h h' st k=>st.at fun o e=>k it (by simp) o e
 item:=by
  intro X hP hw hK hc i pins s σ H E I hf st hg
  subst hP hw hK
  obtain⟨xs,x,hq,hx⟩:=hg
  obtain⟨its,rv,p,hz⟩:=I.list hq
  obtain⟨u,hu,ru⟩:=rv.get hx
  obtain⟨f0,f1,f2,f3,f4,f5⟩:=hf it (by simp)
  refine wpAny_pyNext_list_item st p.isList (x:=u) (by simpa using hu) fun h' st' sb=>?_
  have I1:Inv X pins σ H {s with heap:=h'}:=I.turned (t':=s.toks) (fun b o hb e=>(sb.2 b hb).trans e) f0 f1 f3 f4 f5
  obtain⟨o,e,c,d⟩:=id st'
  exact⟨u,rfl,fR (s:={s with heap:=h'}) e c d (by decide) ⟨x,H,I1,ru,⟨rfl,fun ys hy=>by rw[I.list_inj hy hq];exact hx⟩,st',fun b hb=>(hf b hb).1⟩⟩
 done:=by
  intro X hP hw hK hc i pins s σ H E I hf st hg
  subst hP hw hK
  obtain⟨xs,hq,hx⟩:=hg
  obtain⟨its,rv,p,hz⟩:=I.list hq
  obtain⟨f0,f1,f2,f3,f4,f5⟩:=hf it (by simp)
  have hl:=rv.length
  exact wpAny_pyNext_list_end (I.ok.hd hc) st p.isList (by simp;lia) fun h' eb=>⟨rfl,I.turned (t':=s.toks) (fun b o hb e=>eb b o hb e) f0 f1 f3 f4 f5⟩
 self:=fun _ _ _ _ _ st h=>wpAny_pyIter_listiter st h
theorem nR{P:Program}{w:World}{K:PySem.W.Frag}{tg:Expr}(it:Addr)(lo:Int)(n:Nat):Turn P w K tg (bK lo n) [it] it (fun i h=>IsRangeIter h it (lo+(i:Nat)*1) ((n:Int)-(i:Nat)) 1) where
 mem:=by simp
 obj:=fun i h st b hb=>by
  have e:b=it:=by simpa using hb
  subst e
  exact⟨_,st,fun v z=>by
   have z':Data.fields _=Data.cell v:=z
   cases z'⟩
 keep:=fun i h h' st k=>k it (by simp) _ st
 item:=by
  intro X hP hw hK hc i pins s σ H E I hf st hg
  subst hP hw hK
  obtain⟨f0,f1,f2,f3,f4,f5⟩:=hf it (by simp)
  have W:=Walks.range (prog:=X.prog) (w:=X.w) (I.ok.hd hc) it lo 1 n
  refine W.item i s _ _ hg st fun v h' tk hv st' kk=>?_
  obtain⟨t,rfl⟩:=hv
  have I1:Inv X pins σ H {s with heap:=h',toks:=tk}:=I.turned (fun b o hb e=>kk b o (by simpa using hb) e) f0 f1 f3 f4 f5
  refine⟨_,rfl,fR (s:={s with heap:=h',toks:=tk}) (n:="range_iterator") st' rfl rfl (by decide) ⟨.int (lo+i),H,I1,⟨t,?_⟩,⟨rfl,rfl⟩,st',fun b hb=>(hf b hb).1⟩⟩
  rw[Int.mul_one]
 done:=by
  intro X hP hw hK hc i pins s σ H E I hf st hg
  subst hP hw hK
  obtain⟨f0,f1,f2,f3,f4,f5⟩:=hf it (by simp)
  exact wpAny_pyNext_range_end (I.ok.hd hc) st (by have:n≤i:=hg;lia) fun h' eb=>⟨rfl,I.turned (t':=s.toks) (fun b o hb e=>eb b o hb e) f0 f1 f3 f4 f5⟩
 self:=fun _ _ _ _ _ st h=>wpAny_pyIter_rangeiter st h
section
variable{X:Cx}{tg:Expr}
def mw(K:PySem.W.Frag)(tl:TE):TI:=fun σ H R=>tl σ H fun x H1=>∃a,x=.ref a∧(∃xs,SqL K H1 a xs)∧R (bV K a) H1
theorem cM{l:Expr}{tl:TE}(hl:PE X l tl):PI X tg l (mw X.K tl):=by
 intro pins s σ H R I h
 refine ah (hl pins s σ H _ I h) fun v s1 ⟨x,H1,I1,r1,q1⟩=>?_
 obtain⟨a,e,⟨xs,hq⟩,q⟩:=q1
 subst e
 cases r1
 obtain⟨its,rv,p,hz⟩:=I1.list hq
 refine wpAny_pyIter_list p.isList ?_
 refine⟨s1.heap.objs.size,[s1.heap.objs.size],_,_,H1,rfl,I1.kept (t':=s1.toks) fun b o e=>Heap.get?_push_of_some _ e,qV a _,⟨_,Heap.get?_push_size _ rfl,rfl,rfl⟩,fun b hb=>?_,q⟩
 have e:b=s1.heap.objs.size:=by simpa using hb
 subst e
 exact I1.fpOk (Nat.le_refl _) (I1.hok.fresh (Nat.le_refl _))
theorem jg{pins:List (Addr×Obj)}{σ:St}{H:Hp}{s:Shared}{R:It→Hp→Prop}{E:Value→Shared→Prop}{lo hi:Int}{t u v:Tok}{tk:Nat}(I:Inv X pins σ H s)(h1: -(2 ^ 62)≤lo)(h2:lo<2 ^ 62)(h3: -(2 ^ 62)≤hi)(h4:hi<2 ^ 62)(q:R (bK lo (hi-lo).toNat) H):wpAny (model X.prog X.w) X.A (pyIter (.ref s.heap.objs.size)) (iU X pins σ tg R) E {s with heap:=s.heap.push {cls:=.type "range",data:=.fields #[.int lo t,.int hi u,.int 1 v]},toks:=tk}:=by
 refine wpAny_pyIter_range (IsRange.new ..) (small_one h1 h2 h3 h4) ?_
 have I1:Inv X pins σ H {s with heap:=s.heap.push {cls:=.type "range",data:=.fields #[.int lo t,.int hi u,.int 1 v]},toks:=tk}:=I.kept fun b o e=>Heap.get?_push_of_some _ e
 refine⟨(s.heap.push {cls:=.type "range",data:=.fields #[.int lo t,.int hi u,.int 1 v]}).objs.size,[(s.heap.push {cls:=.type "range",data:=.fields #[.int lo t,.int hi u,.int 1 v]}).objs.size],_,_,H,rfl,
  I1.kept (t':=tk) fun b o e=>Heap.get?_push_of_some _ e,nR _ lo (hi-lo).toNat,?_,fun b hb=>?_,q⟩
 ·have e1:lo+((0:Nat):Int)*1=lo:=by simp
  have e2:(((hi-lo).toNat:Nat):Int)-((0:Nat):Int)=Builtin.Range.rangeSize lo hi 1:=by rw[rangeSize_one];split <;> lia
  show IsRangeIter _ _ (lo+((0:Nat):Int)*1) ((((hi-lo).toNat:Nat):Int)-((0:Nat):Int)) 1
  rw[e1,e2]
  exact Heap.get?_push_size _ rfl
 ·have e:b=(s.heap.push {cls:=.type "range",data:=.fields #[.int lo t,.int hi u,.int 1 v]}).objs.size:=by simpa using hb
  subst e
  exact I1.fpOk (Nat.le_refl _) (I1.hok.fresh (Nat.le_refl _))
def rP(ta:TA):TI:=fun σ H R=>ta σ H fun vs H1=>∃j:Int,vs=[.int j]∧ -(2 ^ 62)≤j∧j<2 ^ 62∧R (bK 0 j.toNat) H1
def lT(ta:TA):TI:=fun σ H R=>ta σ H fun vs H1=>∃i j:Int,vs=[.int i,.int j]∧(-(2 ^ 62)≤i∧i<2 ^ 62∧ -(2 ^ 62)≤j∧j<2 ^ 62)∧R (bK i (j-i).toNat) H1
theorem jj{a:Expr}{ta:TA}{p pos:Pos}(hg:Gl X "range")(hm:X.mg "range"=none)(ha:PA X [a] ta)(hs:starEach [a] X.env=[(false,eval a X.env)]:=by rfl):PI X tg (.Call (.Name "range" p) [a] [] pos) (rP ta):=by
 intro pins s σ H R I h
 refine Call_ (bO I hg hm boot_range (PyProof.Rows.callWith_type1 (ah (ha pos pins s σ H _ I h) fun us s1 ⟨vs,H1,I1,r1,q1⟩=>?_) hs rfl))
 obtain⟨j,e,q1,q2,q⟩:=q1
 subst e
 cases r1 with
 | cons r rr=>
   cases rr
   obtain⟨t,rfl⟩:=r
   exact call_range_1 (jg I1 (by lia) (by lia) q1 q2 (by simpa using q))
theorem qM{a b:Expr}{ta:TA}{p pos:Pos}(hg:Gl X "range")(hm:X.mg "range"=none)(ha:PA X [a,b] ta)(hs:starEach [a,b] X.env=[(false,eval a X.env),(false,eval b X.env)]:=by rfl)(hs2:starEach [b] X.env=[(false,eval b X.env)]:=by rfl):
 PI X tg (.Call (.Name "range" p) [a,b] [] pos) (lT ta):=by
 intro pins s σ H R I h
 refine Call_ (bO I hg hm boot_range (PyProof.Rows.callWith_type1 (ah (ha pos pins s σ H _ I h) fun us s1 ⟨vs,H1,I1,r1,q1⟩=>?_) (by rw[hs,hs2]) (by rw[hs2];rfl)))
 obtain⟨i,j,e,⟨q1,q2,q3,q4⟩,q⟩:=q1
 subst e
 cases r1 with
 | cons r rr=>
   cases rr with
   | cons r' rr=>
     cases rr
     obtain⟨t,rfl⟩:=r
     obtain⟨t',rfl⟩:=r'
     exact call_range_2 (jg I1 q1 q2 q3 q4 q)
def jz(wi:TI)(g:TG)(tb:TS):TS:=fun D σ H=>wi σ H fun J H1=>∃W:Nat→Nat→St→Hp→Prop,(∃m,W 0 m σ H1)∧∀i m σ H,W i m σ H→
 (J.stop i H∧D.nx σ H)∨(J.go i H∧∃N:St→Hp→Prop,(∀σ' H',N σ' H'→∃m',m'<m∧W (i+1) m' σ' H')∧∀x H',J.yld i H x H'→g x σ H' fun σ2 H2=>tb {D with nx:=N,ct:=N,bk:=D.nx} σ2 H2)
def di(fp:List Addr)(h:Heap):List (Addr×Obj):=fp.filterMap fun b=>(h.get? b).map fun o=>(b,o)
theorem dZ{fp:List Addr}{h:Heap}{b:Addr}{o:Obj}(hb:b∈fp)(e:h.get? b=some o):(b,o)∈di fp h:=List.mem_filterMap.mpr ⟨b,hb,by rw[e];rfl⟩
theorem qs{fp:List Addr}{h:Heap}{p:Addr×Obj}(hp:p∈di fp h):p.1∈fp∧h.get? p.1=some p.2:=by
 obtain⟨b,hb,e⟩:=List.mem_filterMap.mp hp
 cases q:h.get? b with
 | none=>rw[q] at e;cases e
 | some o=>
   rw[q] at e
   have e':(b,o)=p:=Option.some.inj e
   subst e'
   exact⟨hb,q⟩
theorem Inv.pinned{pins:List (Addr×Obj)}{σ:St}{H:Hp}{s:Shared}{fp:List Addr}(I:Inv X pins σ H s)(hf:∀b∈fp,bp X pins H b)(ho:∀b∈fp,∃o,s.heap.get? b=some o∧∀v,o.data≠ .cell v):Inv X (pins++di fp s.heap) σ H s:=
 I.pins_of fun p hp=>(List.mem_append.mp hp).elim (fun z=>I.pin p (List.mem_append_right _ z)) fun z=>by
  obtain⟨hb,e⟩:=qs z
  obtain⟨f0,f1,f2,_⟩:=hf p.1 hb
  obtain⟨o,e',d⟩:=ho p.1 hb
  rw[e] at e';cases e'
  exact⟨e,f0,f1,f2,d⟩
theorem Inv.unpinned{pins pl:List (Addr×Obj)}{σ:St}{H:Hp}{s:Shared}(I:Inv X (pins++pl) σ H s):Inv X pins σ H s:=I.pins_of fun p hp=>I.pin p (List.mem_append_right _ (List.mem_append_left _ hp))
theorem cS{iter:Expr}{body:List Stmt}{wi:TI}{g:TG}{tb:TS}{pos:Pos}(hp:PassesOwn (model X.prog X.w) X.A X.env X.xe)(hc:X.calm=true)(hi:PI X tg iter wi)(hg:PG X tg g)(hb:PSs X body tb)(hs:∀x,foldedSetIterable iter X.env x=pure x:=by intro _;rfl):PS X (.For tg iter body [] pos) (jz wi g tb):=by
 intro pins s σ H D I h
 refine wpAny_For (ah (hi pins s σ H _ I h) fun v s1 h1=>ah h1 fun itv s2 h2=>?_) hs
 obtain⟨it,fp,tn,J,H2,e,I2,T,st2,f2,W,⟨m0,w0⟩,turn⟩:=h2
 subst e
 have stat:∀{H':Hp},(∀b∈fp,H' b=none)→∀b∈fp,bp X pins H' b:=fun hn b hb=>⟨hn b hb,(f2 b hb).2⟩
 refine codeAny_forLoop_any (fun n s'=>∃i σ' H',Inv X pins σ' H' s'∧tn i s'.heap∧(∀b∈fp,H' b=none)∧W i n σ' H') ?_ m0 ⟨0,σ,H2,I2,st2,fun b hb=>(f2 b hb).1,w0⟩
 rintro n s3 ⟨i,σ3,H3,I3,st3,fr3,w3⟩
 rcases turn i n σ3 H3 w3 with⟨stop,qn⟩ | ⟨go,N,hN,step⟩
 ·refine wpAny_passesOwn hp (ah (T.done X rfl rfl rfl hc i pins s3 σ3 H3 X.xe I3 (stat fr3) st3 stop) fun r s4 ⟨hr,I4⟩=>?_)
  subst hr
  exact wpAny_execs_nil ⟨σ3,H3,I4,qn⟩
 ·refine wpAny_passesOwn hp (ah (T.item X rfl rfl rfl hc i pins s3 σ3 H3 X.xe I3 (stat fr3) st3 go) fun r s4 ⟨u,hr,h4⟩=>?_)
  subst hr
  refine wpAny_passesOwn hp (ah h4 fun _ s5 ⟨x,H5,I5,r5,y5,st5,fr5⟩=>?_)
  have I5':=I5.pinned (stat fr5) (T.obj _ _ st5)
  refine wpAny_passesOwn hp (ah (hg _ s5 σ3 H5 x u _ I5' r5 (step x H5 y5)) fun _ s6 ⟨σ6,H6,I6,q6⟩=>?_)
  refine wpAny_passesOwn hp (ah (hb _ s6 σ6 H6 _ I6 q6) fun f s7 q7=>?_)
  have again:∀{σ7:St} {H7:Hp},Inv X (pins++di fp s5.heap) σ7 H7 s7→N σ7 H7→∃m,m<n∧∃i σ' H',Inv X pins σ' H' s7∧tn i s7.heap∧(∀b∈fp,H' b=none)∧W i m σ' H':=fun{σ7 H7} I7 n7=>by
   obtain⟨m',hm,w7⟩:=hN σ7 H7 n7
   refine⟨m',hm,i+1,σ7,H7,I7.unpinned,T.keep _ _ _ st5 fun b hb o e=>(I7.pin (b,o) (List.mem_append_right _ (List.mem_append_right _ (dZ hb e)))).1,fun b hb=>?_,w7⟩
   obtain⟨o,e,d⟩:=T.obj _ _ st5 b hb
   exact(I7.pin (b,o) (List.mem_append_right _ (List.mem_append_right _ (dZ hb e)))).2.1
  cases f with
  | next=>obtain⟨σ7,H7,I7,n7⟩:=q7;exact again I7 n7
  | cont=>obtain⟨σ7,H7,I7,n7⟩:=q7;exact again I7 n7
  | brk=>obtain⟨σ7,H7,I7,q7⟩:=q7;exact⟨σ7,H7,I7.unpinned,q7⟩
  | ret v=>obtain⟨x7,σ7,H7,I7,r7,q7⟩:=q7;exact⟨x7,σ7,H7,I7.unpinned,r7,q7⟩
end
theorem fU{K:PySem.W.Frag}{a:Addr}{xs:List V}{g:TG}{tb:TS}{D:Ends}{σ:St}{H:Hp}(Pv:Nat→St→Hp→Prop)(h0:Pv 0 σ H)(hl:∀i σ H,i≤xs.length→Pv i σ H→SqL K H a xs)(hs:∀i x σ H,xs[i]?=some x→Pv i σ H→g x σ H fun σ2 H2=>tb {D with nx:=Pv (i+1),ct:=Pv (i+1),bk:=D.nx} σ2 H2)(hd:∀σ H,Pv xs.length σ H→D.nx σ H):
 ∃ W:Nat→Nat→St→Hp→Prop,(∃m,W 0 m σ H)∧∀i m σ H,W i m σ H→
   ((bV K a).stop i H∧D.nx σ H)∨((bV K a).go i H∧∃N:St→Hp→Prop,(∀σ' H',N σ' H'→∃m',m'<m∧W (i+1) m' σ' H')∧∀x H',(bV K a).yld i H x H'→g x σ H' fun σ2 H2=>tb {D with nx:=N,ct:=N,bk:=D.nx} σ2 H2):=by
 refine⟨fun i m σ H=>m=xs.length-i∧i≤xs.length∧Pv i σ H,⟨xs.length,by simp,Nat.zero_le _,h0⟩,?_⟩
 rintro i m σ H ⟨rfl,hi,p⟩
 have q:=hl i σ H hi p
 by_cases hlt:i<xs.length
 ·refine .inr ⟨⟨xs,xs[i],q,by simp[hlt]⟩,Pv (i+1),fun σ' H' p'=>⟨xs.length-(i+1),by lia,rfl,hlt,p'⟩,fun x H' y=>?_⟩
  obtain⟨e,y⟩:=y
  subst e
  exact hs i x σ _ (y xs q) p
 ·have e:i=xs.length:=by lia
  subst e
  exact .inl ⟨⟨xs,q,Nat.le_refl _⟩,hd σ H p⟩
theorem qg{lo:Int}{n:Nat}{g:TG}{tb:TS}{D:Ends}{σ:St}{H:Hp}(Pv:Nat→St→Hp→Prop)(h0:Pv 0 σ H)(hs:∀i σ H,i<n→Pv i σ H→g (.int (lo+i)) σ H fun σ2 H2=>tb {D with nx:=Pv (i+1),ct:=Pv (i+1),bk:=D.nx} σ2 H2)(hd:∀σ H,Pv n σ H→D.nx σ H):
 ∃ W:Nat→Nat→St→Hp→Prop,(∃m,W 0 m σ H)∧∀i m σ H,W i m σ H→
   ((bK lo n).stop i H∧D.nx σ H)∨((bK lo n).go i H∧∃N:St→Hp→Prop,(∀σ' H',N σ' H'→∃m',m'<m∧W (i+1) m' σ' H')∧∀x H',(bK lo n).yld i H x H'→g x σ H' fun σ2 H2=>tb {D with nx:=N,ct:=N,bk:=D.nx} σ2 H2):=by
 refine⟨fun i m σ H=>m=n-i∧i≤n∧Pv i σ H,⟨n,by simp,Nat.zero_le _,h0⟩,?_⟩
 rintro i m σ H ⟨rfl,hi,p⟩
 by_cases hlt:i<n
 ·refine .inr ⟨hlt,Pv (i+1),fun σ' H' p'=>⟨n-(i+1),by lia,rfl,hlt,p'⟩,fun x H' y=>?_⟩
  obtain⟨e,y⟩:=y
  subst e y
  exact hs i σ _ hlt p
 ·have e:i=n:=by lia
  subst e
  exact .inl ⟨Nat.le_refl _,hd σ H p⟩
abbrev R2:=V→V→Hp→VK→Prop
def OpR(X:Cx)(f:Value→Value→Sem Value)(r:R2):Prop:=
 ∀ (pins:List (Addr×Obj)) (s:Shared) (σ:St) (H:Hp) (x y:V) (v u:Value) (Q:VK),Inv X pins σ H s→RelV x v→RelV y u→r x y H Q→
   wpAny (model X.prog X.w) X.A (f v u) (EP X pins σ Q) X.xe s
def bo(X:Cx)(f:Value)(r:List V→Hp→VK→Prop):Prop:=
 ∀ (pins:List (Addr×Obj)) (s:Shared) (σ:St) (H:Hp) (xs:List V) (us:List Value) (Q:VK),Inv X pins σ H s→Vals xs us→r xs H Q→
   wpAny (model X.prog X.w) X.A (call f us) (EP X pins σ Q) X.xe s
def cN(r:R2)(ta tb:TE):TE:=fun σ H Q=>ta σ H fun x H1=>tb σ H1 fun y H2=>r x y H2 Q
def rI(C:Int→Int→Prop)(g:Int→Int→V):R2:=fun x y H Q=>∃i j,x=.int i∧y=.int j∧C i j∧Q (g i j) H
def bW(g:Int→Int→V):R2:=fun x y H Q=>∃i j,x=.int i∧y=.int j∧Q (g i j) H
section
variable{X:Cx}{a b c:Expr}{ta tb tc:TE}{pos:Pos}
theorem gJ(ha:PE X a ta)(hb:PE X b tb){pins:List (Addr×Obj)}{s:Shared}{σ:St}{H:Hp}{R:V→V→Hp→Prop}(I:Inv X pins σ H s)(h:ta σ H fun x H1=>tb σ H1 fun y H2=>R x y H2){Q:Value→Shared→Prop}{f:Value→Value→Sem Value}
 (hf:∀v u s2 x y H2,Inv X pins σ H2 s2→RelV x v→RelV y u→R x y H2→wpAny (model X.prog X.w) X.A (f v u) Q X.xe s2):
 wpAny (model X.prog X.w) X.A (eval a X.env) (fun v s₁=>wpAny (model X.prog X.w) X.A (eval b X.env) (fun u s₂=>wpAny (model X.prog X.w) X.A (f v u) Q X.xe s₂) X.xe s₁) X.xe s:=by
 refine ah (ha pins s σ H _ I h) fun v s1 ⟨x,H1,I1,r1,q1⟩=>?_
 refine ah (hb pins s1 σ H1 _ I1 q1) fun u s2 ⟨y,H2,I2,r2,q2⟩=>?_
 exact hf v u s2 x y H2 I2 r1 r2 q2
theorem ak{op:Operator}{r:R2}(ho:OpR X (binaryOp op) r)(ha:PE X a ta)(hb:PE X b tb):PE X (.BinOp a op b pos) (cN r ta tb):=by
 intro pins s σ H Q I h
 exact wpAny_BinOp (gJ ha hb I h fun v u s2 x y H2 I2 rx ry q=>ho pins s2 σ H2 x y v u Q I2 rx ry q)
theorem fh{f:Value→Value→Sem Value}{C:Int→Int→Prop}{g:Int→Int→Int}(rule:∀(i j:Int) (t u:Tok) (s:Shared) (Q:Value→Shared→Prop) (E:Value→Shared→Prop),C i j→Q (.int (g i j) s.toks) {s with toks:=s.toks+1}→wpAny (model X.prog X.w) X.A (f (.int i t) (.int j u)) Q E s):OpR X f (rI C fun i j=>.int (g i j)):=by
 intro pins s σ H x y v u Q I rx ry h
 obtain⟨i,j,rfl,rfl,hc,q⟩:=h
 obtain⟨t,rfl⟩:=rx
 obtain⟨t',rfl⟩:=ry
 exact rule i j t t' s _ _ hc ⟨.int (g i j),H,I.tok _,⟨_,rfl⟩,q⟩
theorem jN{f:Value→Value→Sem Value}{g:Int→Int→Int}(rule:∀(i j:Int) (t u:Tok) (s:Shared) (Q:Value→Shared→Prop) (E:Value→Shared→Prop),Q (.int (g i j) s.toks) {s with toks:=s.toks+1}→wpAny (model X.prog X.w) X.A (f (.int i t) (.int j u)) Q E s):OpR X f (bW fun i j=>.int (g i j)):=by
 intro pins s σ H x y v u Q I rx ry h
 obtain⟨i,j,rfl,rfl,q⟩:=h
 obtain⟨t,rfl⟩:=rx
 obtain⟨t',rfl⟩:=ry
 exact rule i j t t' s _ _ ⟨.int (g i j),H,I.tok _,⟨_,rfl⟩,q⟩
theorem eK{f:Value→Value→Sem Value}{g:Int→Int→Bool}(rule:∀(i j:Int) (t u:Tok) (s:Shared) (Q:Value→Shared→Prop) (E:Value→Shared→Prop),Q (.bool (g i j)) s→wpAny (model X.prog X.w) X.A (f (.int i t) (.int j u)) Q E s):OpR X f (bW fun i j=>.bl (g i j)):=by
 intro pins s σ H x y v u Q I rx ry h
 obtain⟨i,j,rfl,rfl,q⟩:=h
 obtain⟨t,rfl⟩:=rx
 obtain⟨t',rfl⟩:=ry
 exact rule i j t t' s _ _ ⟨.bl (g i j),H,I,rfl,q⟩
def ot(i j:Int):Prop:=0≤j∧j≤1000000∧i.natAbs<2 ^ 64
def CMul(i j:Int):Prop:=(-(2 ^ 64)<i∧i<2 ^ 64)∨(-(2 ^ 64)<j∧j<2 ^ 64)
theorem CMul.ok{i j:Int}(h:CMul i j):IntMulOk i j:=by
 rcases h with⟨h1,h2⟩ | ⟨h1,h2⟩
 ·exact .of_left (intBits_le_64 h1 h2)
 ·exact .of_right (intBits_le_64 h1 h2)
theorem bg:OpR X (binaryOp .Add) (bW fun i j=>.int (i+j)):=jN fun _ _ _ _ _ _ _ q=>add_int q
theorem a7:OpR X (binaryOp .Sub) (bW fun i j=>.int (i-j)):=jN fun _ _ _ _ _ _ _ q=>sub_int q
theorem eD:OpR X (binaryOp .Mult) (rI CMul fun i j=>.int (i*j)):=fh fun _ _ _ _ _ _ _ hc q=>mul_int q hc.ok
theorem cf:OpR X (binaryOp .Mod) (rI (fun _ j=>0<j) fun i j=>.int (i % j)):=fh fun i j _ _ _ _ _ hc q=>by
 have h1:(0:Int)<j:=hc
 exact mod_int' (by lia) (by rw[Int.fmod_eq_emod_of_nonneg i (by lia)];exact q)
theorem qP:OpR X (binaryOp .Pow) (rI ot fun i j=>.int (i ^ j.toNat)):=fh fun _ _ _ _ _ _ _ hc q=>pow_int_small hc.1 hc.2.1 hc.2.2 q
end
def kz:V→V→Bool
 | .non,.non=>true | .non,.int _=>true | .int _,.non=>true | .non,.bl _=>true | .bl _,.non=>true | .non,.str _=>true | .str _,.non=>true
 | .int _,.int _=>true | .bl _,.bl _=>true | .str _,.str _=>true | .byt _,.byt _=>true
 | .int _,.str _=>true | .str _,.int _=>true | .bl _,.str _=>true | .str _,.bl _=>true
 | _,_=>false
def mH:R2:=fun x y H Q=>kz x y=true∧Q (.bl (decide (x=y))) H
def oT:R2:=fun x y H Q=>kz x y=true∧Q (.bl (!decide (x=y))) H
theorem kC{i j:Int}:decide (V.int i=V.int j)=(i == j):=by
 rw[Bool.eq_iff_iff]
 simp
theorem jb{i j:Bool}:decide (V.bl i=V.bl j)=(i == j):=by
 rw[Bool.eq_iff_iff]
 simp
theorem iE{i j:Str}:decide (V.str i=V.str j)=(i == j):=by
 rw[Bool.eq_iff_iff]
 simp
theorem iM{i j:Array UInt8}:decide (V.byt i=V.byt j)=(i.toList == j.toList):=by
 rw[Bool.eq_iff_iff]
 cases i
 cases j
 simp
section
variable{X:Cx}{a b c:Expr}{ta tb tc:TE}{pos:Pos}
theorem aF{pins:List (Addr×Obj)}{σ:St}{H:Hp}{s:Shared}{Q:VK}{k k':Bool}(I:Inv X pins σ H s)(q:Q (.bl k) H)(e:k=k'):EP X pins σ Q (.bool k') s:=by
 subst e
 exact⟨.bl k,H,I,rfl,q⟩
theorem bj:OpR X (compareOp .Eq) mH:=by
 intro pins s σ H x y v u Q I rx ry h
 obtain⟨hs,q⟩:=h
 cases x with
 | non=>
   cases rx
   cases y with
   | non=>cases ry;exact PySem.EqNone.eq_none_none (aF I q (by simp))
   | bl j=>cases ry;exact PySem.EqNone.eq_none_bool (aF I q (by simp))
   | int j=>obtain⟨t',rfl⟩:=ry;exact PySem.EqNone.eq_none_int (aF I q (by simp))
   | str j=>obtain⟨t',rfl⟩:=ry;exact PySem.EqNone.eq_none_str (aF I q (by simp))
   | _=>exact absurd (show false=true from hs) Bool.false_ne_true
 | bl i=>
   cases rx
   cases y with
   | non=>cases ry;exact PySem.EqNone.eq_bool_none (aF I q (by simp))
   | bl j=>cases ry;exact eq_bool (aF I q jb)
   | str j=>obtain⟨t',rfl⟩:=ry;exact PySem.EqMixed.eq_bool_str (aF I q (by simp))
   | _=>exact absurd (show false=true from hs) Bool.false_ne_true
 | int i=>
   obtain⟨t,rfl⟩:=rx
   cases y with
   | non=>cases ry;exact PySem.EqNone.eq_int_none (aF I q (by simp))
   | int j=>obtain⟨t',rfl⟩:=ry;exact eq_int (aF I q kC)
   | str j=>obtain⟨t',rfl⟩:=ry;exact PySem.EqMixed.eq_int_str (aF I q (by simp))
   | _=>exact absurd (show false=true from hs) Bool.false_ne_true
 | str i=>
   obtain⟨t,rfl⟩:=rx
   cases y with
   | non=>cases ry;exact PySem.EqNone.eq_str_none (aF I q (by simp))
   | bl j=>cases ry;exact PySem.EqMixed.eq_str_bool (aF I q (by simp))
   | int j=>obtain⟨t',rfl⟩:=ry;exact PySem.EqMixed.eq_str_int (aF I q (by simp))
   | str j=>obtain⟨t',rfl⟩:=ry;exact eq_str (aF I q iE)
   | _=>exact absurd (show false=true from hs) Bool.false_ne_true
 | byt i=>
   obtain⟨t,rfl⟩:=rx
   cases y with
   | byt j=>obtain⟨t',rfl⟩:=ry;exact PySem.W.eq_bytes (aF I q iM)
   | _=>exact absurd (show false=true from hs) Bool.false_ne_true
 | _=>cases y <;> exact absurd (show false=true from hs) Bool.false_ne_true
theorem dG:OpR X (compareOp .NotEq) oT:=by
 intro pins s σ H x y v u Q I rx ry h
 obtain⟨hs,q⟩:=h
 cases x with
 | non=>
   cases rx
   cases y with
   | non=>cases ry;exact PySem.EqNone.ne_none_none (aF I q (by simp))
   | bl j=>cases ry;exact PySem.EqNone.ne_none_bool (aF I q (by simp))
   | int j=>obtain⟨t',rfl⟩:=ry;exact PySem.EqNone.ne_none_int (aF I q (by simp))
   | str j=>obtain⟨t',rfl⟩:=ry;exact PySem.EqNone.ne_none_str (aF I q (by simp))
   | _=>exact absurd (show false=true from hs) Bool.false_ne_true
 | bl i=>
   cases rx
   cases y with
   | non=>cases ry;exact PySem.EqNone.ne_bool_none (aF I q (by simp))
   | bl j=>cases ry;exact ne_bool (aF I q (congrArg not jb))
   | str j=>obtain⟨t',rfl⟩:=ry;exact PySem.EqMixed.ne_bool_str (aF I q (by simp))
   | _=>exact absurd (show false=true from hs) Bool.false_ne_true
 | int i=>
   obtain⟨t,rfl⟩:=rx
   cases y with
   | non=>cases ry;exact PySem.EqNone.ne_int_none (aF I q (by simp))
   | int j=>obtain⟨t',rfl⟩:=ry;exact ne_int (aF I q (congrArg not kC))
   | str j=>obtain⟨t',rfl⟩:=ry;exact PySem.EqMixed.ne_int_str (aF I q (by simp))
   | _=>exact absurd (show false=true from hs) Bool.false_ne_true
 | str i=>
   obtain⟨t,rfl⟩:=rx
   cases y with
   | non=>cases ry;exact PySem.EqNone.ne_str_none (aF I q (by simp))
   | bl j=>cases ry;exact PySem.EqMixed.ne_str_bool (aF I q (by simp))
   | int j=>obtain⟨t',rfl⟩:=ry;exact PySem.EqMixed.ne_str_int (aF I q (by simp))
   | str j=>obtain⟨t',rfl⟩:=ry;exact ne_str (aF I q (congrArg not iE))
   | _=>exact absurd (show false=true from hs) Bool.false_ne_true
 | byt i=>
   obtain⟨t,rfl⟩:=rx
   cases y with
   | byt j=>obtain⟨t',rfl⟩:=ry;exact PySem.W.ne_bytes (aF I q (congrArg not iM))
   | _=>exact absurd (show false=true from hs) Bool.false_ne_true
 | _=>cases y <;> exact absurd (show false=true from hs) Bool.false_ne_true
theorem dJ:OpR X (compareOp .Lt) (bW fun i j=>.bl (decide (i<j))):=eK fun _ _ _ _ _ _ _ q=>lt_int q
theorem fm:OpR X (compareOp .LtE) (bW fun i j=>.bl (decide (i≤j))):=eK fun _ _ _ _ _ _ _ q=>le_int q
theorem io:OpR X (compareOp .Gt) (bW fun i j=>.bl (decide (j<i))):=eK fun _ _ _ _ _ _ _ q=>gt_int q
theorem dX:OpR X (compareOp .GtE) (bW fun i j=>.bl (decide (j≤i))):=eK fun _ _ _ _ _ _ _ q=>ge_int q
theorem n4:OpR X (compareOp .Lt) (fun x y H Q=>∃i j,x=.str i∧y=.str j∧Q (.bl (decide (i.cps.toList<j.cps.toList))) H):=by
 intro pins s σ H x y v u Q I rx ry h
 obtain⟨i,j,rfl,rfl,q⟩:=h
 obtain⟨t,rfl⟩:=rx
 obtain⟨t',rfl⟩:=ry
 exact lt_str (aF I q rfl)
theorem kq:OpR X (compareOp .IsNot) (fun x y H Q=>y=.non∧Q (.bl (!decide (x=.non))) H):=by
 intro pins s σ H x y v u Q I rx ry h
 obtain⟨rfl,q⟩:=h
 cases ry
 refine isnot_none_gen (aF I q ?_)
 cases x <;> first
  | (cases rx;rfl)
  | (obtain⟨t,rfl⟩:=rx;rfl)
theorem aA(b:Expr){op:CmpOp}(h:op≠ .In:=by decide)(h2:op≠ .NotIn:=by decide):behindInMarks op b=false:=by
 have e1:(op == CmpOp.In)=false:=by cases op <;> first | rfl | exact absurd rfl h
 have e2:(op == CmpOp.NotIn)=false:=by cases op <;> first | rfl | exact absurd rfl h2
 cases b <;> simp[behindInMarks,e1,e2]
theorem a9{op:CmpOp}{r:R2}(ho:OpR X (compareOp op) r)(ha:PE X a ta)(hb:PE X b tb)(hm:behindInMarks op b=false):PE X (.Compare a [op] [b] pos) (cN r ta tb):=by
 intro pins s σ H Q I h
 exact wpAny_Compare1 (gJ ha hb I h fun v u s2 x y H2 I2 rx ry q=>ho pins s2 σ H2 x y v u Q I2 rx ry q) hm
def jL(t:TE):TT:=fun σ H Q=>t σ H fun x H'=>∃k,x=.bl k∧Q k H'
theorem aI{op:CmpOp}{r:R2}(ho:OpR X (compareOp op) r)(ha:PE X a ta)(hb:PE X b tb)(hm:behindInMarks op b=false):PT X (.Compare a [op] [b] pos) (jL (cN r ta tb)):=by
 intro pins s σ H Q I h
 refine wpAny_isTrue_Compare1 (ah (ha pins s σ H _ I h) fun v s1 ⟨x,H1,I1,r1,q1⟩=>ah (hb pins s1 σ H1 _ I1 q1) fun u s2 ⟨y,H2,I2,r2,q2⟩=>
  ah (ho pins s2 σ H2 x y v u _ I2 r1 r2 q2) fun c s3 ⟨z,H3,I3,r3,k,e,q3⟩=>?_) hm
 subst e
 cases r3
 exact wpAny_truthy_bool ⟨H3,I3,q3⟩
def kA(r r':R2)(ta tb tc:TE):TE:=fun σ H Q=>ta σ H fun x H1=>tb σ H1 fun y H2=>r x y H2 fun z H3=>∃k,z=.bl k∧
 (if k=true then tc σ H3 fun w' H4=>r' y w' H4 Q else Q (.bl false) H3)
theorem lJ{op op':CmpOp}{r r':R2}(ho:OpR X (compareOp op) r)(ho':OpR X (compareOp op') r')(ha:PE X a ta)(hb:PE X b tb)(hc:PE X c tc)(hm:lastMarks [op,op'] [b,c]=false:=by with_unfolding_all rfl):PE X (.Compare a [op,op'] [b,c] pos) (kA r r' ta tb tc):=by
 intro pins s σ H Q I h
 refine Compare_chain (ah (ha pins s σ H _ I h) fun v s1 ⟨x,H1,I1,r1,q1⟩=>chain_link (ah (hb pins s1 σ H1 _ I1 q1) fun u s2 ⟨y,H2,I2,r2,q2⟩=>
  ah (ho pins s2 σ H2 x y v u _ I2 r1 r2 q2) fun d s3 ⟨z,H3,I3,r3,k,e,q3⟩=>?_)) hm
 subst e
 cases r3
 refine wpAny_truthy_bool ?_
 cases k with
 | false=>exact ite_ff ⟨.bl false,H3,I3,rfl,q3⟩
 | true=>exact ite_tt (chain_last (ah (hc pins s3 σ H3 _ I3 q3) fun w' s4 ⟨z',H4,I4,r4,q4⟩=>ho' pins s4 σ H4 y z' u w' Q I4 r2 r4 q4))
theorem ox{op op':CmpOp}{r r':R2}(ho:OpR X (compareOp op) r)(ho':OpR X (compareOp op') r')(ha:PE X a ta)(hb:PE X b tb)(hc:PE X c tc)(hm:lastMarks [op,op'] [b,c]=false:=by with_unfolding_all rfl):PT X (.Compare a [op,op'] [b,c] pos) (jL (kA r r' ta tb tc)):=by
 intro pins s σ H Q I h
 refine isTrue_chain (ah (ha pins s σ H _ I h) fun v s1 ⟨x,H1,I1,r1,q1⟩=>test_link (ah (hb pins s1 σ H1 _ I1 q1) fun u s2 ⟨y,H2,I2,r2,q2⟩=>
  ah (ho pins s2 σ H2 x y v u _ I2 r1 r2 q2) fun d s3 ⟨z,H3,I3,r3,k,e,q3⟩=>?_)) hm
 subst e
 cases r3
 refine wpAny_truthy_bool ?_
 cases k with
 | false=>
   obtain⟨k',e',q'⟩:=q3
   cases e'
   exact ite_ff ⟨H3,I3,q'⟩
 | true=>
   refine ite_tt (test_last (ah (hc pins s3 σ H3 _ I3 q3) fun w' s4 ⟨z',H4,I4,r4,q4⟩=>ah (ho' pins s4 σ H4 y z' u w' _ I4 r2 r4 q4) fun d' s5 ⟨z2,H5,I5,r5,k2,e2,q5⟩=>?_))
   subst e2
   cases r5
   exact wpAny_truthy_bool ⟨H5,I5,q5⟩
theorem eO:(sizeLine:Nat)<2 ^ 63:=by rw[sizeLine_eq];decide
theorem cu{x:V}{us:List Value}(r:Vals [x] us):∃u,us=[u]∧RelV x u:=by
 cases r with
 | cons r1 r2=>cases r2;exact⟨_,rfl,r1⟩
theorem lA{x y:V}{us:List Value}(r:Vals [x,y] us):∃u w',us=[u,w']∧RelV x u∧RelV y w':=by
 cases r with
 | cons r1 r2=>
   cases r2 with
   | cons r3 r4=>cases r4;exact⟨_,_,rfl,r1,r3⟩
theorem oq(hc:X.calm=true):bo X (.builtin "max") (fun xs H Q=>∃i j,xs=[.int i,.int j]∧Q (.int (if j>i then j else i)) H):=by
 intro pins s σ H xs us Q I r h
 obtain⟨i,j,rfl,q⟩:=h
 obtain⟨u,w',rfl,⟨t,rfl⟩,⟨t',rfl⟩⟩:=lA r
 refine max_two_ints (I.ok.hd hc) fun h' tk k=>⟨_,H,I.kept k,?_,q⟩
 by_cases hj:j>i
 ·rw[if_pos hj,if_pos hj];exact⟨_,rfl⟩
 ·rw[if_neg hj,if_neg hj];exact⟨_,rfl⟩
theorem rJ:bo X (.type "int") (fun xs H Q=>(∃i,xs=[.int i]∧Q (.int i) H)∨∃k,xs=[.bl k]∧Q (.int (if k then 1 else 0)) H):=by
 intro pins s σ H xs us Q I r h
 rcases h with⟨i,rfl,q⟩ | ⟨k,rfl,q⟩
 ·obtain⟨u,rfl,t,rfl⟩:=cu r
  exact call_int_int ⟨.int i,H,I,⟨_,rfl⟩,q⟩
 ·obtain⟨u,rfl,r1⟩:=cu r
  cases r1
  exact call_int_bool ⟨.int (if k then 1 else 0),H,I.tok _,⟨_,rfl⟩,q⟩
end
structure ObjM(h:Heap)(x dx C:Addr)(mA:Str→Option Value):Prop where
 obj:h.get? x=some (PySem.W.instObj C dx)
 ns:h.Ns1 dx mA
 ne:dx≠x
theorem mP{h:Heap}{dx:Addr}{mA:Str→Option Value}(n:h.Ns1 dx mA):∃od,h.get? dx=some od∧∀name,PySem.W.lookIn name od=some (mA name):=by
 obtain⟨o,es,ep,ho,hd,hk,_,hm⟩:=n
 refine⟨o,ho,fun name=>?_⟩
 have e:=hm name
 unfold nsFind findBy at e
 rw[←Array.find?_toList] at e
 unfold PySem.W.lookIn
 rw[hd]
 dsimp only
 split
 ·rename_i y q
  rw[q] at e
  exact congrArg some e
 ·rename_i q
  rw[q] at e
  have a:es.toList.any (·.refKey)=false:=by
   rw[List.any_eq_false]
   intro y hy
   obtain⟨z,t,hkey⟩:=hk y (Array.mem_toList_iff.mp hy)
   simp[DictEntry.refKey,hkey]
  have a':¬es.toList.any (·.refKey)=true:=by rw[a];exact Bool.false_ne_true
  rw[if_neg a']
  exact congrArg some e
theorem ObjM.look{h:Heap}{x dx C:Addr}{mA:Str→Option Value}(I:ObjM h x dx C mA):∃od,PySem.W.InstAt h x (PySem.W.instObj C dx) C (some od)∧∀name,PySem.W.lookIn name od=some (mA name):=
 let ⟨od,ho,hl⟩:=mP I.ns
 ⟨od,⟨I.obj,rfl,rfl,ho⟩,hl⟩
section
variable{prog:Program}{w:World}{A:Around}{E:Value→Shared→Prop}{s:Shared}{K:PySem.W.Frag}{x dx C f:Addr}{mA:Str→Option Value}{name:Str}{v:Value}
end
section
variable{P:Program}{w:World}{H H':Hp}{h h':Heap}{a C dx:Addr}{fs fs':List (Str×V)}
theorem rN(hok:HOk P w H h)(e:H a=some (.ins C dx fs)):∃mA,ObjM h a dx C mA∧(∀f,gf (fs.lookup f) (mA f))∧PySem.Within mA (fs.map (·.1))∧fs.length≤1000∧H dx=some (.own a):=by
 obtain⟨d,z,ne,ob,mA,n,r,q⟩:=(show ObjOk P w H h a (.ins C dx fs) from hok a _ e)
 exact⟨mA,⟨ob,n,ne⟩,r,q,z,d⟩
end
structure Cls(K:PySem.W.Frag)(C:Addr):Prop where
 pg:PySem.W.plainGet K C Str.empty=true
 hd:PySem.W.hasDictIn K C=true
 po:PySem.W.plainOver K C=true
 sa:PySem.W.findIn K (.ref C) "__setattr__"=some (some (.builtin "object.__setattr__"))
theorem Cls.get{K:PySem.W.Frag}{C:Addr}(c:Cls K C)(f:Str):PySem.W.plainGet K C f=true:=c.pg
structure Con(K:PySem.W.Frag)(C:Addr)(f:Str)(v:V)(u:Value):Prop where
 at_:PySem.W.findIn K (.ref C) f=some (some u)
 rel:RelV v u
 get:PySem.W.specialIn K u "__get__"=some none
 cp:PySem.W.copiedNames.contains f=false
structure Meth(K:PySem.W.Frag)(C:Addr)(m:Str)(f:Addr):Prop where
 at_:PySem.W.findIn K (.ref C) m=some (some (.ref f))
 fn:PySem.W.isFn K (.ref f)=true
 kp:PySem.W.keepIn K (.ref f)=true
section
variable{X:Cx}{pins:List (Addr×Obj)}{σ:St}{H:Hp}{s:Shared}{a C dx:Addr}{fs:List (Str×V)}{f:Str}{v:V}{A:Around}{E:Value→Shared→Prop}
end
section
variable{X:Cx}{o e value:Expr}{f:Str}{pos pos' tpos:Pos}{ta tv:TE}
end
section
variable{X:Cx}{pins:List (Addr×Obj)}{σ:St}{H:Hp}{s:Shared}{A:Around}{E:Value→Shared→Prop}{Q:Value→Shared→Prop}{c:Value}{b:Bool}
inductive TyOf (K:PySem.W.Frag) (H:Hp):V→Value→Prop where
 | non:TyOf K H .non (.type "NoneType")
 | bl (x:Bool):TyOf K H (.bl x) (.type "bool")
 | int (i:Int):TyOf K H (.int i) (.type "int")
 | str (x:Str):TyOf K H (.str x) (.type "str")
 | flt (x:UInt64):TyOf K H (.flt x) (.type "float")
 | lst {a:Addr} {xs:List V} (e:H a=some (.lst xs)):TyOf K H (.ref a) (.type "list")
 | frz {a:Addr} {o:Obj} {xs:List V} (e:H a=some (.frz o (.lst xs))):TyOf K H (.ref a) (.type "list")
 | tup {a:Addr} {xs:List V} (e:H a=some (.tup xs)):TyOf K H (.ref a) (.type "tuple")
 | dK {a:Addr} {kvs:List (aM×V)} (e:H a=some (.dK kvs)):TyOf K H (.ref a) (.type "dict")
 | dT {a:Addr} {kvs:List (List aM×V)} (e:H a=some (.dT kvs)):TyOf K H (.ref a) (.type "dict")
 | ins {a C dx:Addr} {fs:List (Str×V)} (e:H a=some (.ins C dx fs)) (cl:Cls K C) (ha:PySem.W.findIn K (.ref C) "__class__"=some (some (.builtin "object.__class__")))
  (hn:PySem.W.specialIn K (.builtin "object.__class__") "__get__"=some (some (.builtin "getset_descriptor.__get__"))) (htk:PySem.W.takesIn K (.builtin "object.__class__")=some true)
  (hm:PySem.W.mroIn K C (.type "object")=some true):TyOf K H (.ref a) (.ref C)
theorem qx{x:V}{u t:Value}(I:Inv X pins σ H s)(rx:RelV x u)(ty:TyOf X.K H x t)(e:PySem.W.kitOne X.K t c=some b)(h:∀tk,Q (.bool b) {s with toks:=tk}):wpAny (model X.prog X.w) A (call (.builtin "isinstance") [u,c]) Q E s:=by
 cases ty with
 | non=>cases(show u=Value.none from rx);exact PySem.W.kia_one PySem.W.kitx_none I.kIn True.intro e (fun z=>nomatch z) h
 | bl y=>cases(show u=Value.bool y from rx);exact PySem.W.kia_one PySem.W.kitx_bool I.kIn True.intro e (fun z=>nomatch z) h
 | int i=>obtain⟨t,q⟩:=(show∃t,u=Value.int i t from rx);cases q;exact PySem.W.kia_one PySem.W.kitx_int I.kIn True.intro e (fun z=>nomatch z) h
 | str y=>obtain⟨t,q⟩:=(show∃t,u=Value.str y t from rx);cases q;exact PySem.W.kia_one PySem.W.kitx_str I.kIn True.intro e (fun z=>nomatch z) h
 | flt y=>obtain⟨t,q⟩:=(show∃t,u=Value.float y t from rx);cases q;exact PySem.W.kia_one PySem.W.kitx_float I.kIn True.intro e (fun z=>nomatch z) h
 | @lst a xs ea=>
   cases(show u=Value.ref a from rx)
   obtain⟨_,_,n,_,h1⟩:=(show ObjOk X.prog X.w H s.heap a (.lst xs) from I.hok a _ ea)
   exact PySem.W.kia_one PySem.W.kitx_list I.kIn ⟨_,h1,rfl⟩ e (fun z=>nomatch z) h
 | @frz a ob xs ea=>
   cases(show u=Value.ref a from rx)
   obtain⟨_,_,_,n,_,h1⟩:=(show ObjOk X.prog X.w H s.heap a (.frz ob (.lst xs)) from I.hok a _ ea)
   exact PySem.W.kia_one PySem.W.kitx_list I.kIn ⟨_,h1,rfl⟩ e (fun z=>nomatch z) h
 | @tup a xs ea=>
   cases(show u=Value.ref a from rx)
   obtain⟨_,_,_,p⟩:=(show ObjOk X.prog X.w H s.heap a (.tup xs) from I.hok a _ ea)
   obtain⟨o,h1,h2,_⟩:=p
   exact PySem.W.kia_one PySem.W.kitx_tuple I.kIn ⟨o,h1,h2⟩ e (fun z=>nomatch z) h
 | @dK a kvs ea=>
   cases(show u=Value.ref a from rx)
   obtain⟨_,_,vs,_,p⟩:=(show ObjOk X.prog X.w H s.heap a (.dK kvs) from I.hok a _ ea)
   obtain⟨o,es,ep,h1,h2,_⟩:=p
   exact PySem.W.kia_one PySem.W.kitx_dict I.kIn ⟨o,h1,h2.1⟩ e (fun z=>nomatch z) h
 | @dT a kvs ea=>
   cases(show u=Value.ref a from rx)
   obtain⟨_,_,xs,_,o,es,ep,h1,h2,_⟩:=(show ObjOk X.prog X.w H s.heap a (.dT kvs) from I.hok a _ ea)
   exact PySem.W.kia_one PySem.W.kitx_dict I.kIn ⟨o,h1,h2.1⟩ e (fun z=>nomatch z) h
 | @ins a C dx fs ea cl ha hn htk hm=>
   cases(show u=Value.ref a from rx)
   obtain⟨mA,O,_⟩:=rN I.hok ea
   obtain⟨od,J,_⟩:=O.look
   exact PySem.W.kia_one (PySem.W.kitx_own (cl.get _) cl.hd ha hn htk hm) I.kIn J e (fun z=>nomatch z) h
end
structure Room(k:Nat)(A:Around):Prop where
 hd:A.handled=none
 dp:A.depth+3*k+5<recursionLimit
 un:A.units+16*k+200<cLine
theorem Room.mono{j k:Nat}{A:Around}(r:Room k A)(h:j≤k):Room j A:=⟨r.hd,by have:=r.dp;lia,by have:=r.un;lia⟩
theorem Room.deeper{k:Nat}{A:Around}(r:Room (k+1) A)(env:Env):Room k (A.deeper env):=
 ⟨r.hd,by have:=r.dp;show A.depth+1+3*k+5<_;lia,by have:=r.un;show A.units+3+16*k+200<_;lia⟩
theorem Room.in1{k:Nat}{A:Around}(r:Room (k+1) A):Room k A.in1:=
 ⟨r.hd,by have:=r.dp;show A.depth+3*k+5<_;lia,by have:=r.un;show A.units+1+16*k+200<_;lia⟩
theorem Room.depth{k:Nat}{A:Around}(r:Room k A):A.depth<recursionLimit:=by have:=r.dp;lia
theorem Room.units{k:Nat}{A:Around}(r:Room k A):A.units+64<cLine:=by have:=r.un;lia
theorem Room.units0{k:Nat}{A:Around}(r:Room k A):A.units<cLine:=by have:=r.un;lia
def gZ:TA:=fun _ H Q=>Q [] H
def fY(ta:TE)(tr:TA):TA:=fun σ H Q=>ta σ H fun x H1=>tr σ H1 fun xs H2=>Q (x::xs) H2
section
variable{X:Cx}{e:Expr}{es:List Expr}{te:TE}{t:TA}{pos:Pos}
theorem ab:PA X [] gZ:=fun _ _ _ _ H Q I h=>Calls.spliced_nil ⟨[],H,I,.nil,h⟩
theorem aa(ha:PE X e te)(hr:PA X es t)(hs:starEach (e::es) X.env=(false,eval e X.env)::starEach es X.env:=by rfl):PA X (e::es) (fY te t):=by
 intro pos pins s σ H Q I h
 rw[hs]
 show wpAny _ _ (spliced ((false,eval e X.env)::backTo pos (starEach es X.env))) _ _ s
 refine Calls.spliced_cons (ah (ha pins s σ H _ I h) fun u s1 ⟨x,H1,I1,r1,q1⟩=>?_)
 exact ah (hr pos pins s1 σ H1 _ I1 q1) fun us s2 ⟨xs,H2,I2,r2,q2⟩=>⟨x::xs,H2,I2,.cons r1 r2,q2⟩
def nL(t:TA):TE:=fun σ H Q=>t σ H fun xs H1=>xs.length≤sizeLine∧∀p,H1 p=none→Q (.ref p) (upd H1 p (.tup xs))
def fV(t:TA):TE:=fun σ H Q=>t σ H fun xs H1=>xs.length≤sizeLine∧∀p,H1 p=none→Q (.ref p) (upd H1 p (.lst xs))
theorem iq{x1}(h:PA X es t):PE X (.Tuple es x1 pos) (nL t):=by
 intro pins s σ H Q I hq
 refine wpAny_Tuple_spliced (ah (h pos pins s σ H _ I hq) fun us s1 ⟨xs,H1,I1,r,z,q⟩=>⟨by rw[←r.length];exact z,?_⟩)
 have hf:H1 s1.heap.objs.size=none:=I1.hok.fresh (Nat.le_refl _)
 refine⟨.ref s1.heap.objs.size,upd H1 s1.heap.objs.size (.tup xs),I1.laid (t':=s1.toks) (fun b u e=>Heap.get?_push_of_some _ e) (Nat.le_refl _) ?_,rfl,q _ hf⟩
 exact⟨z,us,r,⟨_,Heap.get?_push_size _ rfl,rfl,_,rfl⟩⟩
theorem a6(h:PA X es t):PE X (.List es pos) (fV t):=by
 intro pins s σ H Q I hq
 refine wpAny_List_spliced (ah (h pos pins s σ H _ I hq) fun us s1 ⟨xs,H1,I1,r,z,q⟩=>⟨by rw[←r.length];exact z,?_⟩)
 have hf:H1 s1.heap.objs.size=none:=I1.hok.fresh (Nat.le_refl _)
 refine⟨.ref s1.heap.objs.size,upd H1 s1.heap.objs.size (.lst xs),I1.laid (t':=s1.toks) (fun b u e=>Heap.get?_push_of_some _ e) (Nat.le_refl _) ?_,rfl,q _ hf⟩
 exact⟨z,us,0,r,Heap.get?_push_size _ rfl⟩
end
abbrev Sp:=List V→Hp→VK→XK→Prop
abbrev be:=List Env→Hp→Shared→XK→Value→Shared→Prop
structure Env0(P:Program)(w:World)(K:PySem.W.Frag)(mg:Str→Option Value)(base:Heap)(A:Around)(outer:List Env)(s:Shared)(H:Hp):Prop where
 frames:A.frames=some outer
 mod:Mod K mg base
 bs:∀b o,base.get? b=some o→s.heap.get? b=some o∧H b=none
 bsz:base.objs.size≤s.heap.objs.size
 funs:s.heap.FunFrames base outer
 frf:∀b∈bf outer,H b=none
 hok:HOk P w H s.heap
 bare:AllBare s.gens
def CE(outer:List Env)(P:Program)(w:World)(H:Hp)(s:Shared)(Q:VK)(u:Value)(s':Shared):Prop:=
 ∃v H',s'.os=s.os∧AllBare s'.gens∧Un (bf outer) [] H H' s.heap s'.heap∧HOk P w H' s'.heap∧RelV v u∧Q v H'
def CR(CX:be)(outer:List Env)(P:Program)(w:World)(H:Hp)(s:Shared)(Q:VK)(E:XK)(r:Result)(s':Shared):Prop:=
 match r with
 | .ok (.ret u)=>CE outer P w H s Q u s'
 | .ok _=>False
 | .error e=>CX outer H s E e s'
structure FnOk(P:Program)(w:World)(K:PySem.W.Frag)(mg:Str→Option Value)(base:Heap)(CX:be)(k:Nat)(f:Addr)(fd:FuncData)(ps:List Str)(sp:Sp):Prop where
 len:∀vs H Q E,sp vs H Q E→vs.length=ps.length
 run:∀(A:Around) (outer:List Env) (s:Shared) (H:Hp) (args:Args) (us:List Value) (vs:List V) (Q:VK) (E:XK),Room k A→Env0 P w K mg base A outer s H→BindsTo s fd args (ps.zip us)→Vals vs us→sp vs H Q E→
  codeAny (model P w) A (.call (.ref f) args) (CR CX outer P w H s Q E) s
theorem Env0.in1{P:Program}{w:World}{K:PySem.W.Frag}{mg:Str→Option Value}{base:Heap}{A:Around}{outer:List Env}{s:Shared}{H:Hp}(e:Env0 P w K mg base A outer s H):Env0 P w K mg base A.in1 outer s H:=⟨e.frames,e.mod,e.bs,e.bsz,e.funs,e.frf,e.hok,e.bare⟩
section
variable{X:Cx}{pins:List (Addr×Obj)}{σ:St}{H:Hp}{s s':Shared}
theorem Inv.env0(I:Inv X pins σ H s):Env0 X.prog X.w X.K X.mg X.base X.A X.stack s H:=
 ⟨I.ok.frames,I.ok.mod,I.bs,Nat.le_trans I.ok.bsz I.sz,I.stack,I.stkFree,I.hok,I.bare⟩
theorem Inv.after{Q:VK}{u:Value}(I:Inv X pins σ H s)(h:CE X.stack X.prog X.w H s Q u s'):EP X pins σ Q u s':=by
 obtain⟨v,H',os,bare,un,hok,r,q⟩:=h
 obtain⟨hh,g,d,t,os'⟩:=s'
 obtain rfl:os'=s.os:=os
 exact⟨v,H',I.call (h':=hh) (g':=g) (d':=d) (t':=t) (ch:=[]) un hok bare (fun b z=>absurd z (by simp)),r,q⟩
end
def kJ(sp:Sp)(dvs:List V)(E:XK)(t:TA):TE:=fun σ H Q=>t σ H fun vs H1=>sp (vs++dvs) H1 Q E
def Binds(K:PySem.W.Frag)(fd:FuncData)(ps:List Str)(ds:List Value):Prop:=
 ∀(s:Shared) (us:List Value),K.In s.heap→(us++ds).length=ps.length→BindsTo s fd ⟨us,[]⟩ (ps.zip (us++ds))
theorem Binds.all{K:PySem.W.Frag}{fd:FuncData}{ps:List Str}(h:∀us:List Value,us.length=ps.length→bindArgs fd ⟨us,[]⟩=pure (ps.zip us)):Binds K fd ps []:=fun s us _ hl=>by
 rw[List.append_nil] at hl ⊢
 exact .of_eq (h us hl)
def eW(CX:be)(X:Cx)(E:XK):Prop:=∀(pins:List (Addr×Obj)) (σ:St) (H:Hp) (s:Shared) (e:Value) (s':Shared),Inv X pins σ H s→CX X.stack H s E e s'→X.xe e s'
section
variable{X:Cx}{CX:be}{k:Nat}{f C:Addr}{fd:FuncData}{ps:List Str}{sp:Sp}{dvs:List V}{ds:List Value}{E:XK}{x m:Str}{p pos apos:Pos}{e o:Expr}{es:List Expr}{ta:TE}{t:TA}
theorem mL{pins:List (Addr×Obj)}{σ:St}{H:Hp}{s:Shared}{Q:VK}{us:List Value}{vs:List V}(F:FnOk X.prog X.w X.K X.mg X.base CX k f fd ps sp)(hr:Room k X.A)(hb:Binds X.K fd ps ds)(hd:Vals dvs ds)(hx:eW CX X E)(I:Inv X pins σ H s)(r:Vals vs us)(h:sp (vs++dvs) H Q E):wpAny (model X.prog X.w) X.A (call (.ref f) us) (EP X pins σ Q) X.xe s:=by
 have r2:Vals (vs++dvs) (us++ds):=r.append hd
 have hl:(us++ds).length=ps.length:=by rw[←r2.length];exact F.len _ _ _ _ h
 refine wpAny_call (codeAny_mono (F.run X.A X.stack s H ⟨us,[]⟩ (us++ds) (vs++dvs) Q E hr I.env0 (hb s us I.kIn hl) r2 h) fun r s' hq=>?_)
 cases r with
 | error e=>exact hx pins σ H s e s' I hq
 | ok fl=>
   cases fl with
   | ret u=>exact I.after hq
   | next=>exact False.elim hq
   | brk=>exact False.elim hq
   | cont=>exact False.elim hq
theorem pG(F:FnOk X.prog X.w X.K X.mg X.base CX k f fd ps sp)(hr:Room k X.A)(hg:Gl X x)(hm:X.mg x=some (.ref f))(hk:PySem.W.keepIn X.K (.ref f)=true)(hb:Binds X.K fd ps ds)(hd:Vals dvs ds)(hx:eW CX X E)(ha:PA X (e::es) t)(hdb:(x == ("__debug__":Str))=false:=by decide)(he:starEach (e::es) X.env=(false,eval e X.env)::starEach es X.env:=by rfl)(hpl:(backTo pos (starEach es X.env)).any (·.1)=false:=by rfl):
 PE X (.Call (.Name x p) (e::es) [] pos) (kJ sp dvs E t):=by
 intro pins s σ H Q I h
 refine wpAny_Call_Name_kw (kX I hg hm ?_ hdb)
 refine PySem.W.callWith_K (h₀:=X.base) I.ok.mod.kin hk (ah (ha pos pins s σ H _ I h) fun us s1 ⟨vs,H1,I1,r,q⟩=>⟨I1.kIn,?_⟩) he hpl
 exact mL F hr hb hd hx I1 r q
structure Mk(K:PySem.W.Frag)(C f:Addr):Prop where
 makes:PySem.W.makesIn K C=true
 init:PySem.W.findIn K (.ref C) "__init__"=some (some (.ref f))
 fn:PySem.W.isFn K (.ref f)=true
 kp:PySem.W.keepIn K (.ref C)=true
end
section
variable{X:Cx}{CX:be}{k:Nat}{f C:Addr}{fd:FuncData}{ps ks:List Str}{sp:Sp}{E:XK}{x m:Str}{p pos apos kpos:Pos}{e o:Expr}{es:List Expr}{kws:List Keyword}{te ta:TE}{t tk:TA}{nm:Option Str}
structure KBinds(K:PySem.W.Frag)(fd:FuncData)(ps ks:List Str)(g:List Value→List Value→List Value)(gV:List V→List V→List V):Prop where
 to:∀(s:Shared) (us ws:List Value),K.In s.heap→(g us ws).length=ps.length→BindsTo s fd ⟨us,ks.zip ws⟩ (ps.zip (g us ws))
 rel:∀{vs:List V} {us:List Value} {zs:List V} {ws:List Value},Vals vs us→Vals zs ws→Vals (gV vs zs) (g us ws)
variable{g:List Value→List Value→List Value}{gV:List V→List V→List V}
end
structure FnScope(N P:List Str)(sc:Scope):Prop where
 kind:sc.kind=.function
 co:sc.isCoroutine=false
 gen:sc.isGenerator=false
 nd:N.Nodup
 pre:N.take P.length=P
 par:∀x∈P,sc.names.lookup x=some .local∨sc.names.lookup x=some .cell
 nofree:∀y∈sc.names,y.2≠ .free
theorem jD{kindOf:Str→Option NameKind}{x:Str}:∀{binds:List (Str×Value)} {m:Str→Option Value},(∀v,(x,v)∉binds)→bindL kindOf binds m x=m x
 | [],_,_=>rfl
 | (n,v)::r,m,h=>by
   unfold bindL
   rw[jD fun w hw=>h w (List.mem_cons_of_mem _ hw)]
   split
   ·have:x≠n:=by rintro rfl;exact h v List.mem_cons_self
    simp[this]
   ·rfl
theorem kB{kindOf:Str→Option NameKind}{x:Str}:∀{binds:List (Str×Value)} {m:Str→Option Value},(∀v,(x,v)∉binds)→bindC kindOf binds m x=m x
 | [],_,_=>rfl
 | (n,v)::r,m,h=>by
   unfold bindC
   rw[kB fun w hw=>h w (List.mem_cons_of_mem _ hw)]
   split
   ·rfl
   ·have:x≠n:=by rintro rfl;exact h v List.mem_cons_self
    simp[this]
theorem jQ{kindOf:Str→Option NameKind}{x:Str}{v:Value}:∀{P:List Str} {vs:List Value} {i:Nat} {m:Str→Option Value},P.Nodup→P[i]?=some x→vs[i]?=some v→kindOf x=some .local→bindL kindOf (P.zip vs) m x=some v
 | [],_,_,_,_,h,_,_=>by simp at h
 | _::_,[],_,_,_,_,h,_=>by simp at h
 | p::P,w::vs,0,m,nd,h1,h2,hk=>by
   simp at h1 h2;subst h1;subst h2
   show bindL kindOf ((p,w)::P.zip vs) m p=_
   unfold bindL
   rw[jD fun v hv=>(List.nodup_cons.mp nd).1 (List.of_mem_zip hv).1,if_pos hk]
   simp
 | p::P,w::vs,i+1,m,nd,h1,h2,hk=>by
   show bindL kindOf ((p,w)::P.zip vs) m x=_
   unfold bindL
   exact jQ (i:=i) (List.nodup_cons.mp nd).2 (by simpa using h1) (by simpa using h2) hk
theorem iL{kindOf:Str→Option NameKind}{x:Str}{v:Value}:∀{P:List Str} {vs:List Value} {i:Nat} {m:Str→Option Value},P.Nodup→P[i]?=some x→vs[i]?=some v→kindOf x≠some .local→bindC kindOf (P.zip vs) m x=some v
 | [],_,_,_,_,h,_,_=>by simp at h
 | _::_,[],_,_,_,_,h,_=>by simp at h
 | p::P,w::vs,0,m,nd,h1,h2,hk=>by
   simp at h1 h2;subst h1;subst h2
   show bindC kindOf ((p,w)::P.zip vs) m p=_
   unfold bindC
   rw[kB fun v hv=>(List.nodup_cons.mp nd).1 (List.of_mem_zip hv).1,if_neg hk]
   simp
 | p::P,w::vs,i+1,m,nd,h1,h2,hk=>by
   show bindC kindOf ((p,w)::P.zip vs) m x=_
   unfold bindC
   exact iL (i:=i) (List.nodup_cons.mp nd).2 (by simpa using h1) (by simpa using h2) hk
def bI(N:List Str)(vs:List V):St:=vs.map some++List.replicate (N.length-vs.length) none
def bE(CX:be)(P:Program)(w:World)(K:PySem.W.Frag)(mg:Str→Option Value)(base:Heap)(N:List Str)(qual:Str)(scope:Scope)(f:Addr)(cd:Value)(A:Around)(outer:List Env)(s:Shared)(H:Hp)(E:XK):Cx where
 prog:=P
 w:=w
 K:=K
 mg:=mg
 base:=base
 A:=A.deeper (envOfC qual scope s.heap.objs.size f cd)
 N:=N
 s₀:=s
 H₀:=H
 env:=envOfC qual scope s.heap.objs.size f cd
 outer:=outer
 stack:=envOfC qual scope s.heap.objs.size f cd::outer
 ex:=[]
 calm:=true
 fn:=fun _=>true
 pn:=[]
 xe:=fun e s'=>wpAny (model P w) (A.deeper (envOfC qual scope s.heap.objs.size f cd)) (leaving (envOfC qual scope s.heap.objs.size f cd) e) (fun _ s''=>CX outer H s E e s'') (fun e' s''=>CX outer H s E e' s'') s'
theorem li{sc:Scope}{n:Nat}{x:Str}(h:sc.names.lookup x=some .cell):∃c,(cellsFrom n sc.names []).lookup x=some c:=by
 have q:=PySem.W.cellsFrom_some sc.names n [] (.inl h)
 exact Option.isSome_iff_exists.mp q
theorem pP{CX:be}{P:Program}{w:World}{K:PySem.W.Frag}{mg:Str→Option Value}{base:Heap}{N ps:List Str}{qual:Str}{scope:Scope}{f:Addr}{cd:Value}{A:Around}{outer:List Env}{s s1:Shared}{H:Hp}{E:XK}{us:List Value}{vs:List V}(S:FnScope N ps scope)(hd:A.handled=none)(e0:Env0 P w K mg base A outer s H)(hl:vs.length=ps.length)(r:Vals vs us)(x:InCallC s s.heap.objs.size (bindL (envOfC qual scope s.heap.objs.size f cd).kindOf (ps.zip us) fun _=>none) (cellsFrom (s.heap.objs.size+1) scope.names []) (bindC (envOfC qual scope s.heap.objs.size f cd).kindOf (ps.zip us) fun _=>none) s1):
 Inv (bE CX P w K mg base N qual scope f cd A outer s H E) [] (bI N vs) H s1:=by
 have hpl:ps.length≤N.length:=by have:=congrArg List.length S.pre;rw[List.length_take] at this;lia
 obtain⟨h1,tk,rfl,hk⟩:=x.done
 have noA:∀b:Addr,b∉(bE CX P w K mg base N qual scope f cd A outer s H E).ex:=fun b z=>absurd (show b∈([]:List Addr) from z) (by simp)
 refine⟨⟨e0.mod,S.kind,rfl,rfl,Nat.le_refl _,fun y z c h1 h2=>?_,fun y hy=>?_,fun y c _ h=>?_,fun _=>hd,Around.frames_deeper e0.frames,.inr ⟨rfl,rfl⟩,fun b z=>absurd z (noA b),e0.bs,e0.bsz,fun b _ _=>noA b,fun b z=>absurd z (noA b),e0.funs,e0.frf⟩,
  rfl,e0.bare,Un.kept hk,⟨_,x.toInCall.ns,fun i y v h1 h2 h3=>?_⟩,fun y c h=>⟨_,x.cell y c h⟩,e0.hok.fresh (Nat.le_refl _),fun y c h=>?_,fun p hp=>absurd (show p∈([]:List (Addr×Obj)) from hp) (by simp),e0.hok.kept hk,?_⟩
 ·exact name_of_addr x.apart (PySem.mem_of_lookup h1) (PySem.mem_of_lookup h2)
 ·have hy:scope.names.lookup y=some .cell∨scope.names.lookup y=some .free:=hy
  rcases hy with hy | hy
  ·exact li hy
  ·exact absurd rfl (S.nofree _ (PySem.mem_of_lookup hy))
 ·exact Nat.le_of_lt (x.above y c (PySem.mem_of_lookup h))
 ·have hi:i<vs.length:=by
   unfold bI at h2
   by_cases hi:i<vs.length
   ·exact hi
   ·rw[List.getElem?_append_right (by simpa using hi)] at h2
    rw[List.getElem?_replicate] at h2
    split at h2 <;> cases h2
  have ha:vs[i]?=some v:=by
   unfold bI at h2
   rw[List.getElem?_append_left (by simpa using hi),List.getElem?_map] at h2
   cases e:vs[i]? with
   | none=>rw[e] at h2;cases h2
   | some a=>rw[e] at h2;cases h2;rfl
  obtain⟨u,hu,rv⟩:=r.get ha
  have hp:ps[i]?=some y:=by
   rw[←S.pre,List.getElem?_take_of_lt (by lia)];exact h1
  have ndP:ps.Nodup:=by rw[←S.pre];exact S.nd.sublist (List.take_sublist _ _)
  refine⟨u,rv,?_⟩
  rcases S.par y (List.mem_of_getElem? hp) with k | k
  ·exact .inl ⟨k,jQ ndP hp hu k⟩
  ·obtain⟨c,e⟩:=li (n:=s.heap.objs.size+1) k
   refine .inr ⟨.inl k,c,e,?_⟩
   have q:=x.cell y c e
   rw[iL ndP hp hu (by show scope.names.lookup y≠_;rw[k];decide)] at q
   exact q
 ·exact e0.hok.fresh (Nat.le_of_lt (x.above y c (PySem.mem_of_lookup h)))
 ·unfold bI
  show _=N.length
  rw[List.length_append,List.length_map,List.length_replicate]
  lia
theorem kv{CX:be}{P:Program}{w:World}{K:PySem.W.Frag}{mg:Str→Option Value}{base:Heap}{k:Nat}{f:Addr}{name qual:Str}{params:Arguments}{body:List Stmt}{scope:Scope}{dV kV doc pm cdv ct oc:Value}{an od:Option Addr}{osl:Array (Option Value)}{N ps:List Str}{sp:Sp}(lk:K.lookup f=some ⟨oc,od,.func (PySem.W.fnOf name qual params body scope dV kV doc pm an cdv ct),osl⟩)(hcd:PySem.W.codeIn K cdv qual=true)(S:FnScope N ps scope)(len:∀vs H Q E,sp vs H Q E→vs.length=ps.length)(hbody:∀(A:Around) (outer:List Env) (s:Shared) (H:Hp) (vs:List V) (Q:VK) (E:XK),Room k (A.deeper (envOfC qual scope s.heap.objs.size f cdv))→sp vs H Q E→∃t,PSs (bE CX P w K mg base N qual scope f cdv A outer s H E) body t∧t {nx:=fun _ H'=>Q .non H',rt:=Q} (bI N vs) H):
 FnOk P w K mg base CX (k+1) f (PySem.W.fnOf name qual params body scope dV kV doc pm an cdv ct) ps sp:=by
 refine⟨len,fun A outer s H args us vs Q E hr e0 hb r hsp=>?_⟩
 have hl:=len _ _ _ _ hsp
 have KX:K.In s.heap:=e0.mod.kin.keeps fun b o e=>(e0.bs b o e).1
 have lim:s.heap.NoLimit:=e0.mod.nolimit.keeps fun b o e=>(e0.bs b o e).1
 have hkind:∀y∈ps.zip us,scope.names.lookup y.1=some .local∨(scope.names.lookup y.1=some .cell∧((cellsFrom (s.heap.objs.size+1) scope.names []).lookup y.1).isSome=true):=fun⟨n,v⟩ hy=>by
  rcases S.par n (List.of_mem_zip hy).1 with q | q
  ·exact .inl q
  ·exact .inr ⟨q,PySem.W.cellsFrom_some _ _ _ (.inl q)⟩
 refine codeAny_call_function hr.depth (KX _ _ lk) rfl S.co S.gen rfl (PySem.W.codeRec_of KX hcd) (hb _ _ _ _ ?_)
 refine wpAny_newFunctionEnv_cells S.kind hkind fun env he s1 x=>?_
 subst he
 refine⟨lim.keeps x.toInCall.keep,codeAny_func ?_⟩
 obtain⟨t,ht,hq⟩:=hbody A outer s H vs Q E (hr.deeper _) hsp
 have I:Inv (bE CX P w K mg base N qual scope f cdv A outer s H E) [] (bI N vs) H s1:=pP S hr.hd e0 hl r x
 refine wpAny_mono (ht [] s1 (bI N vs) H _ I hq) (fun fl s' hs=>?_) fun e s' hs=>hs
 have fin:∀{σ':St} {H':Hp} {v:V} {u:Value},Inv (bE CX P w K mg base N qual scope f cdv A outer s H E) [] σ' H' s'→RelV v u→Q v H'→CE outer P w H s Q u s':=
  fun{σ' H' v u} J rv q=>⟨v,H',J.os,J.bare,J.base,J.hok,rv,q⟩
 cases fl with
 | ret u=>
   obtain⟨v,σ',H',J,rv,q⟩:=hs
   exact fin J rv q
 | next=>
   obtain⟨σ',H',J,q⟩:=hs
   exact fin (v:=V.non) (u:=Value.none) J rfl q
 | brk=>
   obtain⟨_,_,_,q⟩:=hs
   exact False.elim q
 | cont=>
   obtain⟨_,_,_,q⟩:=hs
   exact False.elim q
section
variable{X:Cx}{x:Str}{p pos:Pos}{e:Expr}{es:List Expr}{t:TA}{id T:String}{r:List V→Hp→VK→Prop}
def iZ(r:List V→Hp→VK→Prop)(t:TA):TE:=fun σ H Q=>t σ H fun vs H1=>r vs H1 Q
theorem dC(hc:bo X (.builtin id) r)(hg:Gl X x)(hm:X.mg x=none)(hv:bootBuiltins x=some (.builtin id))(ha:PA X (e::es) t)(hn:x≠"__name__":=by decide)(hdb:(x == ("__debug__":Str))=false:=by decide)
 (he:starEach (e::es) X.env=(false,eval e X.env)::starEach es X.env:=by rfl)(hpl:(backTo pos (starEach es X.env)).any (·.1)=false:=by rfl):PE X (.Call (.Name x p) (e::es) [] pos) (iZ r t):=by
 intro pins s σ H Q I h
 refine wpAny_Call_Name_kw (bO I hg hm hv ?_ hn hdb)
 exact PyProof.Rows.callWith_builtin1 (ah (ha pos pins s σ H _ I h) fun us s1 ⟨vs,H1,I1,r1,q1⟩=>hc pins s1 σ H1 vs us Q I1 r1 q1) he hpl
theorem gK(hc:bo X (.type T) r)(hg:Gl X x)(hm:X.mg x=none)(hv:bootBuiltins x=some (.type T))(ha:PA X (e::es) t)(hn:x≠"__name__":=by decide)(hdb:(x == ("__debug__":Str))=false:=by decide)
 (he:starEach (e::es) X.env=(false,eval e X.env)::starEach es X.env:=by rfl)(hpl:(backTo pos (starEach es X.env)).any (·.1)=false:=by rfl):PE X (.Call (.Name x p) (e::es) [] pos) (iZ r t):=by
 intro pins s σ H Q I h
 refine wpAny_Call_Name_kw (bO I hg hm hv ?_ hn hdb)
 exact PyProof.Rows.callWith_type1 (ah (ha pos pins s σ H _ I h) fun us s1 ⟨vs,H1,I1,r1,q1⟩=>hc pins s1 σ H1 vs us Q I1 r1 q1) he hpl
end
end L2
namespace HT
open PySem PyProof.Rows
section
open PySem.SeqAt
open PySem.AutoSeq1 (wpAny_loadPart')
open PySem.MeetsSeq PySem.MeetsSeq2 PySem.MeetsSeq3
end
section
variable{prog:Program}{w:World}{A:Around}{E:Value→Shared→Prop}{s:Shared}
def sIx(n d:Nat):Option Int→Nat
 | none=>d
 | some v=>if v<0 then(v+(n:Int)).toNat else min v.toNat n
theorem sIx_none(n d:Nat):sIx n d none=d:=rfl
end
end HT
namespace L2
open PySem PySem.Spec PyProof.Rows
abbrev TO:=St→Hp→(Option Int→Hp→Prop)→Prop
def PO(X:Cx)(e:Option Expr)(t:TO):Prop:=
 ∀ (pins:List (Addr×Obj)) (s:Shared) (σ:St) (H:Hp) (Q:Option Int→Hp→Prop),Inv X pins σ H s→t σ H Q→
   wpAny (model X.prog X.w) X.A (evalPart e X.env) (fun u s'=>∃o H',Inv X pins σ H' s'∧IsPart u o∧Q o H') X.xe s
def gi:TO:=fun _ H Q=>Q none H
def hU(t:TE):TO:=fun σ H Q=>t σ H fun x H1=>∃i,x=.int i∧Q (some i) H1
section
variable{X:Cx}{e:Expr}{te:TE}{lo hi:Option Expr}{tl th:TO}{pos p2:Pos}
theorem bS:PO X none gi:=by
 intro pins s σ H Q I h
 rw[evalPart_none]
 exact wpAny_pure ⟨none,H,I,.none,h⟩
theorem bv(h:PE X e te):PO X (some e) (hU te):=by
 intro pins s σ H Q I hw
 rw[evalPart_some]
 refine ah (h pins s σ H _ I hw) fun u s1 ⟨x,H1,I1,r1,q1⟩=>?_
 obtain⟨i,rfl,q⟩:=q1
 obtain⟨t,rfl⟩:=r1
 exact⟨some i,H1,I1,.int i t,q⟩
def jF(X:Cx)(r:V→Option Int→Option Int→Hp→VK→Prop):Prop:=
 ∀ (pins:List (Addr×Obj)) (s:Shared) (σ:St) (H:Hp) (x:V) (v vl vu:Value) (lo hi:Option Int) (sl:Addr) (Q:VK),Inv X pins σ H s→RelV x v→s.heap.IsSliceOf sl vl vu .none→IsPart vl lo→IsPart vu hi→r x lo hi H Q→
   ∃T id,typeLookup (.type T) "__getitem__"=pure (some (.builtin id))∧s.TypeIs v T∧wpAny (model X.prog X.w) X.A (getItem v (.ref sl)) (EP X pins σ Q) X.xe s
def gU(r:V→Option Int→Option Int→Hp→VK→Prop)(te:TE)(tl th:TO):TE:=fun σ H Q=>te σ H fun x H1=>tl σ H1 fun l H2=>th σ H2 fun u H3=>r x l u H3 Q
theorem bD{r:V→Option Int→Option Int→Hp→VK→Prop}(hr:jF X r)(he:PE X e te)(hl:PO X lo tl)(hu:PO X hi th):PE X (.Subscript e (.Slice lo hi none p2) pos) (gU r te tl th):=by
 intro pins s σ H Q I h
 refine Subscript_ (ah (he pins s σ H _ I h) fun v s1 ⟨x,H1,I1,r1,q1⟩=>?_)
 refine wpAny_Slice (ah (hl pins s1 σ H1 _ I1 q1) fun vl s2 ⟨l,H2,I2,pl,q2⟩=>ah (hu pins s2 σ H2 _ I2 q2) fun vu s3 ⟨u,H3,I3,pu,q3⟩=>?_)
 rw[evalPart_none]
 refine wpAny_pure ?_
 have I4:Inv X pins σ H3 {s3 with heap:=s3.heap.push {cls:=.type "slice",data:=.fields #[vl,vu,.none]}}:=I3.kept (t':=s3.toks) fun b ob q=>Heap.get?_push_of_some _ q
 obtain⟨T,id,hT,ht,hg⟩:=hr pins {s3 with heap:=s3.heap.push {cls:=.type "slice",data:=.fields #[vl,vu,.none]}} σ H3 x v vl vu l u s3.heap.objs.size Q I4 r1 (Heap.IsSliceOf.new ..) pl pu q3
 show wpAny (model X.prog X.w) X.A (subscriptTail e (.Slice lo hi none p2) v (.ref s3.heap.objs.size)) (EP X pins σ Q) X.xe {s3 with heap:=s3.heap.push {cls:=.type "slice",data:=.fields #[vl,vu,.none]}}
 exact tail_any (ops:=[.ref s3.heap.objs.size,v]) ht hT hg (by with_unfolding_all rfl)
def aS(xs:List V)(lo hi:Option Int):List V:=(xs.drop (HT.sIx xs.length 0 lo)).take (HT.sIx xs.length xs.length hi-HT.sIx xs.length 0 lo)
theorem oS(xs:List V)(lo hi:Option Int):(aS xs lo hi).length≤xs.length:=by
 unfold aS
 rw[List.length_take,List.length_drop]
 lia
end
def bP(n:Nat)(i:Int):Option Nat:=if 0≤i then(if i<n then some i.toNat else none) else if -(n:Int)≤i then some (i+n).toNat else none
def aX{α:Type}(xs:List α)(i:Int):Option α:=(bP xs.length i).bind fun j=>xs[j]?
theorem ix{n:Nat}{i:Int}{j:Nat}(h:bP n i=some j):seqIndex? i n=some j∧j<n∧ -(n:Int)≤i∧i<n:=by
 unfold bP at h
 by_cases h0:0≤i
 ·rw[if_pos h0] at h
  by_cases h1:i<n
  ·rw[if_pos h1] at h
   have e:i.toNat=j:=Option.some.inj h
   exact⟨by rw[seqIndex_of h0 h1,e],by lia,by lia,h1⟩
  ·rw[if_neg h1] at h;cases h
 ·rw[if_neg h0] at h
  by_cases h1: -(n:Int)≤i
  ·rw[if_pos h1] at h
   have e:(i+n).toNat=j:=Option.some.inj h
   exact⟨by rw[seqIndex_neg (by lia) h1,e],by lia,h1,by lia⟩
  ·rw[if_neg h1] at h;cases h
theorem mE{α:Type}{xs:List α}{i:Int}{v:α}(h:aX xs i=some v):∃j,seqIndex? i xs.length=some j∧xs[j]?=some v∧j<xs.length∧ -(xs.length:Int)≤i∧i<xs.length:=by
 unfold aX at h
 cases e:bP xs.length i with
 | none=>rw[e] at h;cases h
 | some j=>
   rw[e] at h
   obtain⟨h1,h2,h3,h4⟩:=ix e
   exact⟨j,h1,h,h2,h3,h4⟩
theorem bX{α:Type}{xs:List α}{j:Nat}{v:α}(h:xs[j]?=some v):aX xs (j:Int)=some v:=by
 have hj:j<xs.length:=(List.getElem?_eq_some_iff.mp h).1
 have e:bP xs.length (j:Int)=some j:=by
  unfold bP
  rw[if_pos (by lia),if_pos (by lia)];simp
 unfold aX;rw[e];exact h
def rG(b:Expr):Prop:=∀o i,subscripted b false o i=operate [o,i] (getItem o i)
def i9(X:Cx)(r:R2):Prop:=
 ∀ (value slice:Expr) (pins:List (Addr×Obj)) (s:Shared) (σ:St) (H:Hp) (x y:V) (v u:Value) (Q:VK),Inv X pins σ H s→RelV x v→RelV y u→r x y H Q→
   subscripted slice false v u=operate [v,u] (getItem v u)→wpAny (model X.prog X.w) X.A (subscriptTail value slice v u) (EP X pins σ Q) X.xe s
def gv(X:Cx)(id:String)(r:V→List V→Hp→VK→Prop):Prop:=
 ∀ (pins:List (Addr×Obj)) (s:Shared) (σ:St) (H:Hp) (x:V) (xs:List V) (v:Value) (us:List Value) (Q:VK),Inv X pins σ H s→RelV x v→Vals xs us→r x xs H Q→
   wpAny (model X.prog X.w) X.A (call (.builtin id) (v::us)) (EP X pins σ Q) X.xe s
section
variable{X:Cx}{a b:Expr}{ta tb:TE}{pos:Pos}
theorem aP{r:R2}(hr:i9 X r)(ha:PE X a ta)(hb:PE X b tb)(hs:rG b):PE X (.Subscript a b pos) (cN r ta tb):=by
 intro pins s σ H Q I h
 exact Subscript_ (gJ ha hb I h fun v u s2 x y H2 I2 rx ry q=>hr a b pins s2 σ H2 x y v u Q I2 rx ry q (hs _ _))
def l9(K:PySem.W.Frag):R2:=fun x y H Q=>∃p xs i v,x=.ref p∧y=.int i∧SqL K H p xs∧aX xs i=some v∧Q v H
theorem aO:i9 X (l9 X.K):=by
 intro value slice pins s σ H x y v u Q I rx ry h hs
 obtain⟨p,xs,i,z,rfl,rfl,hq,he,q⟩:=h
 cases rx
 obtain⟨t,rfl⟩:=ry
 obtain⟨its,r,pl,hz⟩:=I.list hq
 obtain⟨j,h1,h2,h3,h4,h5⟩:=mE he
 obtain⟨w,ew,rw'⟩:=r.get h2
 have hl:=r.length
 have hn:=eO
 have fin:EP X pins σ Q w s:=⟨z,H,I,rw',q⟩
 by_cases h0:0≤i
 ·have hj:i.toNat=j:=by
   rw[seqIndex_of h0 h5] at h1
   exact Option.some.inj h1
  exact item_listR pl.isList h0 (by lia) (by rw[hj];simpa using ew) fin hs
 ·have hj:(i+(its.toArray.size:Int)).toNat=j:=by
   rw[seqIndex_neg (by lia) h4] at h1
   rw[List.size_toArray,←hl]
   exact Option.some.inj h1
  exact subscriptTail_builtinR (x:=w) pl.isList.typeIs slot_list_getitem.lookup
   (wpAny_getItem_list_neg (Q:=fun r s'=>r=w∧EP X pins σ Q r s') pl.isList (by lia) (by rw[List.size_toArray] <;> lia) (by lia) (by rw[hj];simpa using ew) ⟨rfl,fin⟩) hs
theorem lN(its:List Value)(n j:Nat)(u:Value):Obj.mapSeq (·.setIfInBounds j u) {cls:=.type "list",data:=.seq its.toArray n}={cls:=.type "list",data:=.seq (its.set j u).toArray n}:=by
 simp[Obj.mapSeq]
theorem Inv.lst{pins:List (Addr×Obj)}{σ:St}{H:Hp}{s:Shared}{p:Addr}{xs:List V}(I:Inv X pins σ H s)(h:H p=some (.lst xs)):∃(its:List Value) (n:Nat),Vals xs its∧s.heap.get? p=some {cls:=.type "list",data:=.seq its.toArray n}∧xs.length≤sizeLine:=by
 obtain⟨z,its,n,r,e⟩:=I.hok p _ h
 exact⟨its,n,r,e,z⟩
theorem Inv.lstUpd{pins:List (Addr×Obj)}{σ:St}{H:Hp}{s:Shared}{p:Addr}{xs ys:List V}{its its':List Value}{n n':Nat}{f:Obj→Obj}(I:Inv X pins σ H s)(h:H p=some (.lst xs))(ho:s.heap.get? p=some {cls:=.type "list",data:=.seq its.toArray n})(hf:f {cls:=.type "list",data:=.seq its.toArray n}={cls:=.type "list",data:=.seq its'.toArray n'})(r:Vals ys its')(hz:ys.length≤sizeLine)(t:Nat):Inv X pins σ (upd H p (.lst ys)) {s with heap:=s.heap.update p f,toks:=t}:=by
 have e:(s.heap.update p f).get? p=some {cls:=.type "list",data:=.seq its'.toArray n'}:=by
  rw[Heap.get?_update_self f ho (by rw[hf] <;> rfl),hf]
 refine I.write (x:=p) (e:=p) (by rw[h];trivial) (.inl rfl) (fun b u hb q=>(Heap.get?_update_other _ _ (Ne.symm hb)).trans q) ⟨_,e⟩ ?_
 exact⟨hz,its',n',r,e⟩
def oQ:V→V→V→Hp→(Hp→Prop)→Prop:=fun o i v H Q=>∃p xs k j,o=.ref p∧i=.int k∧H p=some (.lst xs)∧bP xs.length k=some j∧Q (upd H p (.lst (xs.set j v)))
theorem jw:lh X oQ:=by
 intro pins s σ H o i v ov iv u Q I ro ri rv h
 obtain⟨p,xs,k,j,rfl,rfl,hp,hj,q⟩:=h
 cases ro
 obtain⟨t,rfl⟩:=ri
 obtain⟨its,n,r,ho,hz⟩:=I.lst hp
 obtain⟨h1,h2,h3,h4⟩:=ix hj
 have hl:=r.length
 have hn:=eO
 have I':Inv X pins σ (upd H p (.lst (xs.set j v))) {s with heap:=s.heap.update p (Obj.mapSeq (·.setIfInBounds j u))}:=
  I.lstUpd hp ho (lN its n j u) (r.set rv j) (by rw[List.length_set];exact hz) s.toks
 by_cases h0:0≤k
 ·have hk:k.toNat=j:=by
   rw[seqIndex_of h0 h4] at h1
   exact Option.some.inj h1
  exact PySem.W.ki_setAt ho h0 (by lia) (by rw[List.size_toArray,←hl];exact h4) (by rw[hk];exact⟨_,I',q⟩)
 ·have hk:(k+(its.toArray.size:Int)).toNat=j:=by
   rw[seqIndex_neg (by lia) h3] at h1
   rw[List.size_toArray,←hl]
   exact Option.some.inj h1
  exact PySem.W.ki_setBack ho (by lia) (by rw[List.size_toArray,←hl];exact h3) (by lia) (by rw[hk];exact⟨_,I',q⟩)
theorem oC(lo hi:Option Int)(n:Nat):(sliceBounds lo hi none n).1=((HT.sIx n 0 lo:Nat):Int)∧(sliceBounds lo hi none n).2.1=((HT.sIx n n hi:Nat):Int)∧(sliceBounds lo hi none n).2.2=1:=by
 refine⟨?_,?_,rfl⟩
 ·cases lo with
  | none=>simp[sliceBounds,HT.sIx]
  | some i=>
    simp only[sliceBounds,HT.sIx,Option.getD_none,show(1:Int)>0 by decide,if_true]
    by_cases h:i<0
    ·simp only[h,if_true] <;> lia
    ·simp only[h,if_false] <;> lia
 ·cases hi with
  | none=>simp[sliceBounds,HT.sIx]
  | some i=>
    simp only[sliceBounds,HT.sIx,Option.getD_none,show(1:Int)>0 by decide,if_true]
    by_cases h:i<0
    ·simp only[h,if_true] <;> lia
    ·simp only[h,if_false] <;> lia
theorem pU(its:List Value)(lo hi:Option Int):slicePick its.toArray lo hi none=((its.drop (HT.sIx its.length 0 lo)).take (HT.sIx its.length its.length hi-HT.sIx its.length 0 lo)).toArray:=by
 obtain⟨h1,h2,h3⟩:=oC lo hi its.toArray.size
 unfold slicePick
 rw[h1,h2,h3]
 simp only[sliceRange_one,pick_run,List.size_toArray] <;> rfl
def fT(K:PySem.W.Frag):V→Option Int→Option Int→Hp→VK→Prop:=fun x lo hi H Q=>∃a xs,x=.ref a∧SqL K H a xs∧∀p,H p=none→Q (.ref p) (upd H p (.lst (aS xs lo hi)))
theorem bC:jF X (fT X.K):=by
 intro pins s σ H x v vl vu lo hi sl Q I rx hs pl pu h
 obtain⟨a,xs,rfl,hx,q⟩:=h
 cases rx
 obtain⟨its,r,ht,hz⟩:=I.list hx
 have hlen:=r.length
 refine⟨"list",_,slot_list_getitem.lookup,ht.isList.typeIs,?_⟩
 refine wpAny_getItem_list_slice ht.isList hs pl pu .none (by simp) ?_ (by rw[List.size_toArray] <;> lia)
 rw[pU,←hlen]
 refine⟨.ref s.heap.objs.size,_,I.laid (t':=s.toks) (o:=.lst (aS xs lo hi)) (fun b ob q=>Heap.get?_push_of_some _ q) (Nat.le_refl _) ?_,rfl,q _ (I.hok.fresh (Nat.le_refl _))⟩
 exact⟨Nat.le_trans (oS xs lo hi) hz,_,0,(r.drop (HT.sIx xs.length 0 lo)).take (HT.sIx xs.length xs.length hi-HT.sIx xs.length 0 lo),Heap.get?_push_size _ rfl⟩
def iV:V→Bool
 | .non=>true
 | .bl _=>true
 | .int _=>true
 | .str _=>true
 | _=>false
def kr:V→V→Bool
 | .non,.non=>true
 | .bl a,.bl b=>a == b
 | .bl a,.int b=>(if a then 1 else 0) == b
 | .int a,.bl b=>a == (if b then 1 else 0)
 | .int a,.int b=>a == b
 | .str a,.str b=>a == b
 | _,_=>false
theorem rK{A:Around}{s:Shared}{y x:V}{u v:Value}(ry:RelV y u)(rx:RelV x v)(fy:iV y=true)(fx:iV x=true):SeqAt.EqAt A s u v (kr y x):=by
 cases y with
 | non=>
   cases ry
   cases x with
   | non=>cases rx;exact SeqAt.EqAt.same _
   | bl b=>cases rx;exact SeqAt.EqAt.none_bool b
   | int b=>obtain⟨t,rfl⟩:=rx;exact SeqAt.EqAt.none_int b t
   | str b=>obtain⟨t,rfl⟩:=rx;exact SeqAt.EqAt.none_str b t
   | _=>exact absurd (show false=true from fx) Bool.false_ne_true
 | bl a=>
   cases ry
   cases x with
   | non=>cases rx;exact SeqAt.EqAt.bool_none a
   | bl b=>cases rx;exact SeqAt.EqAt.bool_bool a b
   | int b=>obtain⟨t,rfl⟩:=rx;exact SeqAt.EqAt.bool_int a b t
   | str b=>obtain⟨t,rfl⟩:=rx;exact SeqAt.EqAt.bool_str a b t
   | _=>exact absurd (show false=true from fx) Bool.false_ne_true
 | int a=>
   obtain⟨t',rfl⟩:=ry
   cases x with
   | non=>cases rx;exact SeqAt.EqAt.int_none a t'
   | bl b=>cases rx;exact SeqAt.EqAt.int_bool a t' b
   | int b=>obtain⟨t,rfl⟩:=rx;exact SeqAt.EqAt.int_int a t' b t
   | str b=>obtain⟨t,rfl⟩:=rx;exact SeqAt.EqAt.int_str a t' b t
   | _=>exact absurd (show false=true from fx) Bool.false_ne_true
 | str a=>
   obtain⟨t',rfl⟩:=ry
   cases x with
   | non=>cases rx;exact SeqAt.EqAt.str_none a t'
   | bl b=>cases rx;exact SeqAt.EqAt.str_bool a t' b
   | int b=>obtain⟨t,rfl⟩:=rx;exact SeqAt.EqAt.str_int a t' b t
   | str b=>obtain⟨t,rfl⟩:=rx;exact SeqAt.EqAt.str_str a t' b t
   | _=>exact absurd (show false=true from fx) Bool.false_ne_true
 | _=>exact absurd (show false=true from fy) Bool.false_ne_true
theorem qT:bo X (.builtin "len") (fun xs H Q=>∃p ys,xs=[.ref p]∧(SqL X.K H p ys∨SqT X.K H p ys)∧Q (.int ys.length) H):=by
 intro pins s σ H xs us Q I r h
 obtain⟨p,ys,rfl,hq,q⟩:=h
 obtain⟨u,rfl,rx⟩:=cu r
 cases rx
 have hn:=eO
 rcases hq with hq | hq
 ·obtain⟨its,r',pl,hz⟩:=I.list hq
  have hlen:=r'.length
  exact Calls.call_len_list pl.isList (by simp only[List.size_toArray] <;> lia) ⟨.int ys.length,H,I.tok _,⟨s.toks+1,by rw[List.size_toArray,hlen]⟩,q⟩
 ·obtain⟨its,r',pl,hz⟩:=I.tuple hq
  have hlen:=r'.length
  exact len_tuple pl (by simp only[List.size_toArray] <;> lia) ⟨.int ys.length,H,I.tok _,⟨s.toks+1,by rw[List.size_toArray,hlen]⟩,q⟩
theorem oi:bo X (.builtin "len") (fun xs H Q=>∃z,xs=[.str z]∧z.length≤sizeLine∧Q (.int z.length) H):=by
 intro pins s σ H xs us Q I r h
 obtain⟨z,rfl,hz,q⟩:=h
 obtain⟨u,rfl,t,rfl⟩:=cu r
 have hn:=eO
 exact len_str (by lia) ⟨.int z.length,H,I.tok _,⟨_,rfl⟩,q⟩
theorem mq:bo X (.type "list") (fun xs H Q=>∃p ys,xs=[.ref p]∧(SqL X.K H p ys∨SqT X.K H p ys)∧∀l,H l=none→Q (.ref l) (upd H l (.lst ys))):=by
 intro pins s σ H xs us Q I r h
 obtain⟨p,ys,rfl,hq,q⟩:=h
 obtain⟨u,rfl,rx⟩:=cu r
 cases rx
 have fin:∀(its:List Value),Vals ys its→ys.length≤sizeLine→∀(h':Heap) (c':Nat),(∀b o',s.heap.get? b=some o'→h'.get? b=some o')→
  h'.get? s.heap.objs.size=some {cls:=.type "list",dict:=none,data:=.seq its.toArray c',slots:=#[]}→EP X pins σ Q (.ref s.heap.objs.size) {s with heap:=h'}:=fun its r' hz h' c' kp e=>
  ⟨.ref s.heap.objs.size,_,I.laid (t':=s.toks) kp (Nat.le_refl _) (show ObjOk X.prog X.w _ h' _ (.lst ys) from⟨hz,its,c',r',e⟩),rfl,q _ (I.hok.fresh (Nat.le_refl _))⟩
 rcases hq with hq | hq
 ·obtain⟨its,r',pl,hz⟩:=I.list hq
  have hlen:=r'.length
  obtain⟨o,ho,hc,n,hd⟩:=pl.isList
  exact call_list_seq p (.inl rfl) ho hc hd (fun h' c' kp e=>fin its r' hz h' c' kp e) (by simp only[List.size_toArray] <;> lia)
 ·obtain⟨its,r',pl,hz⟩:=I.tuple hq
  have hlen:=r'.length
  obtain⟨o,ho,hc,n,hd⟩:=pl
  exact call_list_seq p (.inr rfl) ho hc hd (fun h' c' kp e=>fin its r' hz h' c' kp e) (by simp only[List.size_toArray] <;> lia)
def i0(K:PySem.W.Frag)(T:String)(x:V)(H:Hp):Prop:=match x with
 | .str _=>T="str"
 | .int _=>T="int"
 | .ref p=>(T="list"∧∃xs,SqL K H p xs)∨(T="tuple"∧∃o,K.lookup p=some o∧o.cls=.type "tuple"∧o.dict=none)∨
  (T="dict"∧((∃kvs,H p=some (.dK kvs))∨∃kvs,H p=some (.dT kvs)))∨(T="set"∧∃S n,H p=some (.set S n))
 | _=>False
theorem qE{pins:List (Addr×Obj)}{σ:St}{H:Hp}{s:Shared}{T:String}{x:V}{v:Value}(I:Inv X pins σ H s)(r:RelV x v)(ty:i0 X.K T x H):s.TypeIs v T∧∀a,v=.ref a→∃ob,s.heap.get? a=some ob∧ob.dict=none:=by
 cases x with
 | str z=>
   obtain⟨t,rfl⟩:=r
   cases(show T="str" from ty)
   exact⟨typeIs_str s z t,fun _ e=>nomatch e⟩
 | int i=>
   obtain⟨t,rfl⟩:=r
   cases(show T="int" from ty)
   exact⟨typeIs_int s i t,fun _ e=>nomatch e⟩
 | ref p=>
   cases r
   rcases ty with⟨rfl,xs,hq⟩ | ⟨rfl,o,hk,hc,hd⟩ | ⟨rfl,hk⟩ | ⟨rfl,S,n,hk⟩
   ·obtain⟨its,_,pl,_⟩:=I.list hq
    refine⟨pl.isList.typeIs,fun a e=>?_⟩
    cases e
    obtain⟨o,n,e,c,hd,_⟩:=pl
    exact⟨o,e,hd⟩
   ·refine⟨⟨o,I.kIn p o hk,hc⟩,fun a e=>?_⟩
    cases e
    exact⟨o,I.kIn _ o hk,hd⟩
   ·have z:∃o,s.heap.get? p=some o∧o.ExactDict:=by
     rcases hk with⟨kvs,hk⟩ | ⟨kvs,hk⟩
     ·obtain⟨_,_,_,_,o,_,_,e,ex,_⟩:=I.hok p _ hk
      exact⟨o,e,ex⟩
     ·obtain⟨_,_,_,_,o,_,_,e,ex,_⟩:=I.hok p _ hk
      exact⟨o,e,ex⟩
    obtain⟨o,e,ex⟩:=z
    refine⟨⟨o,e,ex.1⟩,fun a e2=>?_⟩
    cases e2
    exact⟨o,e,ex.2.1⟩
   ·obtain⟨o,_,_,_,e,ex,_⟩:=I.hok p _ hk
    refine⟨⟨o,e,ex.1⟩,fun a e2=>?_⟩
    cases e2
    exact⟨o,e,ex.2.1⟩
 | _=>exact False.elim ty
def mU(K:PySem.W.Frag)(T:String)(r:V→List V→Hp→VK→Prop)(to:TE)(t:TA):TE:=fun σ H Q=>to σ H fun x H1=>i0 K T x H1∧t σ H1 fun xs H2=>r x xs H2 Q
variable{o e:Expr}{es:List Expr}{to:TE}{t:TA}{name:Str}{apos cpos:Pos}{T id:String}{r:V→List V→Hp→VK→Prop}
theorem dt(pa:PlainAttrs T)(slot:Slot T name id)(hty:typeOf (.builtin id)=pure (.type "method_descriptor"))(hm:gv X id r)(ho:PE X o to)(ha:PA X (e::es) t)(hbase:attributeBase o name X.env (eval o X.env)=eval o X.env:=by rfl)
 (hfew:((backTo cpos (starEach (e::es) X.env)).all (fun x=>!x.1) && (backToKw cpos (keywordEach [] X.env)).all (fun x=>x.1.isSome)
  && decide ((e::es).length+([]:List Keyword).length+(if([]:List Keyword).isEmpty then 0 else 1)<30))=true:=by rfl)
 (hline:(apos.endLine == cpos.line)=true:=by rfl)(hs:starEach (e::es) X.env=(false,eval e X.env)::starEach es X.env:=by rfl)(hplain:(backTo cpos (starEach es X.env)).any (·.1)=false:=by rfl):
 PE X (.Call (.Attribute o name apos) (e::es) [] cpos) (mU X.K T r to t):=by
 intro pins s σ H Q I h
 refine wpAny_Call_method_late hbase hfew hline rfl (ah (ho pins s σ H _ I h) fun v s1 ⟨x,H1,I1,r1,ty,q1⟩=>?_)
 obtain⟨h1,h2⟩:=qE I1 r1 ty
 refine⟨T,id,pa,slot,hty,h1,h2,?_⟩
 have hA:=ha cpos pins s1 σ H1 _ I1 q1
 rw[hs] at hA ⊢
 refine Calls.callWith_builtin (by show(false || (backTo cpos (starEach es X.env)).any (·.1))=false;rw[hplain] <;> rfl) (Calls.evalArgs_plain ?_)
 exact ah hA fun us s2 ⟨vs,H2,I2,r2,q2⟩=>hm pins s2 σ H2 x vs v us Q I2 r1 r2 q2
end
def iy(X:Cx)(id:String)(r:V→List V→Hp→VK→Prop):Prop:=
 ∀ (pins:List (Addr×Obj)) (s:Shared) (σ:St) (H:Hp) (x:V) (xs:List V) (v:Value) (us:List Value) (Q:VK),Inv X pins σ H s→RelV x v→Vals xs us→r x xs H Q→
   wpAny (model X.prog X.w) X.A (call (.builtin id) (v::us)) (EP X pins σ Q) X.xe s
theorem Vals.one:∀{x:V} {us:List Value},Vals [x] us→∃u,us=[u]∧RelV x u
 | _,_,.cons r .nil=>⟨_,rfl,r⟩
theorem Vals.two:∀{x y:V} {us:List Value},Vals [x,y] us→∃u v,us=[u,v]∧RelV x u∧RelV y v
 | _,_,_,.cons r (.cons q .nil)=>⟨_,_,rfl,r,q⟩
theorem Vals.eraseIdx:∀{xs:List V} {us:List Value} (i:Nat),Vals xs us→Vals (xs.eraseIdx i) (us.eraseIdx i)
 | _,_,_,.nil=>.nil
 | _,_,0,.cons _ t=>t
 | _,_,i+1,.cons r t=>.cons r (Vals.eraseIdx i t)
theorem Vals.rep{xs:List V}{us:List Value}(h:Vals xs us):∀k:Nat,Vals (List.replicate k xs).flatten (List.replicate k us).flatten
 | 0=>.nil
 | k+1=>by
   rw[List.replicate_succ,List.replicate_succ,List.flatten_cons,List.flatten_cons]
   exact Vals.append h (Vals.rep h k)
theorem iO{α:Type}:∀(l:List α) (i:Nat),(l.eraseIdx i).length≤l.length
 | [],_=>Nat.le_refl _
 | _::_,0=>Nat.le_succ _
 | _::r,i+1=>Nat.succ_le_succ (iO r i)
theorem kO(its:List Value):∀(k:Nat) (acc:List Value),List.foldl (fun x1 x2=>x1++x2) acc.toArray (List.replicate k its.toArray)=(acc++(List.replicate k its).flatten).toArray
 | 0,acc=>by simp
 | k+1,acc=>by
   have e:acc.toArray++its.toArray=(acc++its).toArray:=by simp
   have e2:(acc++its)++(List.replicate k its).flatten=acc++(List.replicate (k+1) its).flatten:=by
    rw[List.replicate_succ,List.flatten_cons,List.append_assoc]
   rw[←e2,←kO its k (acc++its),←e,List.replicate_succ,List.foldl_cons]
section
variable{X:Cx}{pins:List (Addr×Obj)}{σ:St}{H:Hp}{s:Shared}{l b:Addr}{xs ys zs:List V}
theorem Inv.lset{its its':List Value}{n:Nat}{f:Array Value→Array Value}{t':Nat}(I:Inv X pins σ H s)(hH:H l=some (.lst xs))(e:s.heap.get? l=some {cls:=.type "list",data:=.seq its.toArray n})(hf:f its.toArray=its'.toArray)(hv:Vals ys its')(hz:ys.length≤sizeLine):Inv X pins σ (upd H l (.lst ys)) {s with heap:=s.heap.update l (Obj.mapSeq f),toks:=t'}:=by
 have q:=PySem.IsL.update e f
 rw[hf] at q
 refine I.write (x:=l) (e:=l) (by rw[hH];exact trivial) (.inl rfl) (fun b' u hb hu=>(Heap.get?_update_other s.heap (Obj.mapSeq f) (Ne.symm hb)).trans hu) ⟨_,q⟩ ?_
 exact⟨hz,its',_,hv,q⟩
theorem Inv.lnew{its:List Value}{t':Nat}(I:Inv X pins σ H s)(hv:Vals ys its)(hz:ys.length≤sizeLine):Inv X pins σ (upd H s.heap.objs.size (.lst ys)) {s with heap:=s.heap.push {cls:=.type "list",data:=.seq its.toArray},toks:=t'}:=
 I.laid (fun _ _ q=>Heap.get?_push_of_some _ q) (Nat.le_refl _) ⟨hz,its,0,hv,Heap.get?_push_size _ rfl⟩
theorem Inv.fresh(I:Inv X pins σ H s):H s.heap.objs.size=none:=I.hok.fresh (Nat.le_refl _)
theorem Inv.lstM(I:Inv X pins σ H s)(hH:H l=some (.lst xs)):xs.length≤sizeLine∧∃(its:List Value) (n:Nat),Vals xs its∧xs.length=its.length∧s.heap.get? l=some {cls:=.type "list",data:=.seq its.toArray n}:=by
 obtain⟨z,its,n,r,e⟩:=I.hok l _ hH
 exact⟨z,its,n,r,r.length,e⟩
theorem kc{n:Nat}(h:n≤sizeLine):Builtin.List.listTooLong n=false:=by
 unfold Builtin.List.listTooLong
 exact decide_eq_false (by lia)
end
section
variable{X:Cx}
def m6:V→List V→Hp→VK→Prop:=fun x vs H Q=>∃l xs y,x=.ref l∧vs=[y]∧H l=some (.lst xs)∧xs.length<sizeLine∧Q .non (upd H l (.lst (xs++[y])))
theorem jr:iy X "list.append" m6:=by
 intro pins s σ H x vs v us Q I rx rv h
 obtain⟨l,xs,y,rfl,rfl,hH,hz,q⟩:=h
 cases rx
 obtain⟨u,rfl,ru⟩:=rv.one
 obtain⟨z,its,n,r,hl,e⟩:=I.lstM hH
 refine call_meets F.slot_list_append ⟨_,e,rfl⟩ F.entry_list_append (F.args_list_append_2 _ _) (PySem.list_append l its.toArray n u (by rw[List.size_toArray];lia)) ⟨e,?_⟩
 refine⟨.non,_,I.lset (its':=its++[u]) hH e (by simp) (r.append (.cons ru .nil)) ?_,rfl,q⟩
 rw[List.length_append,List.length_singleton]
 lia
def lK:V→List V→Hp→VK→Prop:=fun x vs H Q=>∃l b xs zs,x=.ref l∧vs=[.ref b]∧H l=some (.lst xs)∧H b=some (.lst zs)∧xs.length+zs.length≤sizeLine∧Q .non (upd H l (.lst (xs++zs)))
theorem mM:iy X "list.extend" lK:=by
 intro pins s σ H x vs v us Q I rx rv h
 obtain⟨l,b,xs,zs,rfl,rfl,hH,hB,hz,q⟩:=h
 cases rx
 obtain⟨u,rfl,ru⟩:=rv.one
 cases ru
 obtain⟨z,its,n,r,hl,e⟩:=I.lstM hH
 obtain⟨z2,its2,n2,r2,hl2,e2⟩:=I.lstM hB
 have hsz:its.toArray.size+its2.toArray.size≤sizeLine:=by rw[List.size_toArray,List.size_toArray];lia
 have hlong:¬(!its.toArray.isEmpty && Builtin.List.listTooLong (its.toArray.size+its2.toArray.size))=true:=by
  rw[kc hsz,Bool.and_false]
  exact Bool.false_ne_true
 refine call_meets F.slot_list_extend ⟨_,e,rfl⟩ F.entry_list_extend (F.args_list_extend_2 _ _)
  (AutoSeq1.list_extend_list_list_0 l its.toArray n b its2.toArray n2 hlong (by rw[List.size_toArray];lia) (by lia)) ⟨e,e2,?_⟩
 refine⟨.non,_,I.lset (its':=its++its2) hH e (by simp) (r.append r2) ?_,rfl,q⟩
 rw[List.length_append]
 lia
def rg:V→List V→Hp→VK→Prop:=fun x vs H Q=>∃l xs i k y,x=.ref l∧vs=[.int i]∧H l=some (.lst xs)∧ -(2 ^ 63)≤i∧i<2 ^ 63∧seqIndex? i xs.length=some k∧xs[k]?=some y∧Q y (upd H l (.lst (xs.eraseIdx k)))
theorem o8:iy X "list.pop" rg:=by
 intro pins s σ H x vs v us Q I rx rv h
 obtain⟨l,xs,i,k,y,rfl,rfl,hH,h1,h2,hk,hy,q⟩:=h
 cases rx
 obtain⟨u,rfl,ru⟩:=rv.one
 obtain⟨t,rfl⟩:=ru
 obtain⟨z,its,n,r,hl,e⟩:=I.lstM hH
 obtain⟨w,hw,rw'⟩:=r.get hy
 refine call_meets F.slot_list_pop ⟨_,e,rfl⟩ F.entry_list_pop (F.args_list_pop_2 _ _)
  (MeetsSeq.list_pop_at l its.toArray n i t k w (fitsIndex_both h1 h2) (by rw[List.size_toArray,←hl];exact hk) (by rw[←Array.getElem?_toList];exact hw) (by rw[List.size_toArray];lia)) ⟨e,?_⟩
 refine⟨y,_,I.lset (its':=its.eraseIdx k) hH e ?_ (r.eraseIdx k) ?_,rw',q⟩
 ·show its.toArray.eraseIdxIfInBounds k=(its.eraseIdx k).toArray
  rw[List.eraseIdxIfInBounds_toArray]
 ·have:=iO xs k
  lia
def ik:R2:=fun x y H Q=>∃l b xs zs,x=.ref l∧y=.ref b∧H l=some (.lst xs)∧H b=some (.lst zs)∧xs.length+zs.length≤sizeLine∧∀p,H p=none→Q (.ref p) (upd H p (.lst (xs++zs)))
theorem dB:OpR X (binaryOp .Add) ik:=by
 intro pins s σ H x y v u Q I rx ry h
 obtain⟨l,b,xs,zs,rfl,rfl,hH,hB,hz,q⟩:=h
 cases rx
 cases ry
 obtain⟨z,its,n,r,hl,e⟩:=I.lstM hH
 obtain⟨z2,its2,n2,r2,hl2,e2⟩:=I.lstM hB
 refine PySem.P.add_list e e2 ?_ (by rw[List.size_toArray,List.size_toArray];lia)
 have ea:its.toArray++its2.toArray=(its++its2).toArray:=by simp
 rw[ea]
 exact⟨.ref _,_,I.lnew (t':=s.toks) (r.append r2) (by rw[List.length_append];lia),rfl,q _ I.fresh⟩
def je:R2:=fun x y H Q=>∃l k xs,x=.ref l∧y=.int k∧H l=some (.lst xs)∧ -(2 ^ 63)≤k∧k<2 ^ 63∧xs.length*k.toNat≤sizeLine∧
 ∀p,H p=none→Q (.ref p) (upd H p (.lst (List.replicate k.toNat xs).flatten))
theorem l8{α:Type}(xs:List α)(k:Nat):(List.replicate k xs).flatten.length=k*xs.length:=by
 induction k with
 | zero=>simp
 | succ k ih=>rw[List.replicate_succ,List.flatten_cons,List.length_append,ih,Nat.succ_mul,Nat.add_comm]
theorem cJ:OpR X (binaryOp .Mult) je:=by
 intro pins s σ H x y v u Q I rx ry h
 obtain⟨l,k,xs,rfl,rfl,hH,h1,h2,hz,q⟩:=h
 cases rx
 obtain⟨t,rfl⟩:=ry
 obtain⟨z,its,n,r,hl,e⟩:=I.lstM hH
 have hlen:its.toArray.size*k.toNat≤sizeLine:=by rw[List.size_toArray,←hl];exact hz
 have hcap:¬its.toArray.size*k.toNat>(2 ^ 63-1) / 8:=by
  have:(sizeLine:Nat)≤(2 ^ 63-1) / 8:=by decide
  lia
 have hfit:¬(!Builtin.List.listFitsIndex k)=true:=by
  rw[fitsIndex_both h1 h2]
  exact Bool.false_ne_true
 have hlong:¬Builtin.List.listTooLong (its.toArray.size*k.toNat)=true:=by
  rw[kc hlen]
  exact Bool.false_ne_true
 have hnew:List.foldl (fun x1 x2=>x1++x2) #[] (List.replicate (if its.toArray.isEmpty=true then 0 else k.toNat) its.toArray)=(List.replicate k.toNat its).flatten.toArray:=by
  have f0:∀m:Nat,List.foldl (fun x1 x2=>x1++x2) #[] (List.replicate m its.toArray)=(List.replicate m its).flatten.toArray:=fun m=>by
   have:=kO its m []
   rw[List.nil_append] at this
   exact this
  rw[f0]
  cases its with
  | nil=>simp
  | cons a r'=>rw[if_neg (by simp)]
 refine wpAny_binaryOp_repeat_ref (T:="list") (U:="int") (by decide) ⟨_,e,rfl⟩ (fun s'=>typeIs_int s' k t) noFill_list_mul F.fills_int_mul F.slot_int_rmul repeat_list F.slot_int_index.lookup
  (call_meets F.slot_int_rmul (typeIs_int s k t) F.entry_int_rmul (F.args_int_rmul_2 _ _) (int___rmul___int_list k t l its.toArray n)
   ⟨e,rfl,⟨_,e,rfl⟩,call_meets F.slot_list_mul ⟨_,e,rfl⟩ F.entry_list_mul (F.args_list_mul_2 _ _) (AutoListH.list___mul___list_int_3 l its.toArray n k t hfit hcap hlong) ⟨e,?_⟩⟩)
 rw[hnew]
 exact⟨.ref _,_,I.lnew (t':=s.toks) (r.rep k.toNat) (by rw[l8,Nat.mul_comm];exact hz),rfl,q _ I.fresh⟩
end
section
variable{prog:Program}{w:World}{A:Around}{E:Value→Shared→Prop}{s:Shared}
set_option maxRecDepth 100000 in
end
section
variable{X:Cx}
end
end L2
namespace Att
open PySem PySem.W PySem.Calls PyProof.Rows
theorem m8{P:Params}{h:Heap}:∀(ns:List Int) (vs:List Value),WellAll P h vs (ns.map WData.int)→IntsAre vs ns:=by
 intro ns
 induction ns with
 | nil=>
   intro vs w
   rw[List.map_nil] at w
   cases w
   exact .nil
 | cons n ns ih=>
   intro vs w
   rw[List.map_cons] at w
   cases w with
   | cons a b=>
     cases a
     exact .cons _ _ (ih _ b)
theorem qL{l:OpenLaw}{n:Nat}(hn:l.most=some n){P:Params}{h:Heap}{args:List WData}{vals:List Value}(hpre:l.row.toRowW.claim.pre args=true)(hwl:WellAll P h vals args):∃a vs ns,vals=[Value.ref a]∧args=[WData.list (ns.map WData.int)]∧h.get? a=some {cls:=.type "list",data:=.seq vs.toArray}∧IntsAre vs ns∧ns.length≤n:=by
 have hsh:WShape.hasAll [] args [.list .int]=true:=(pre_splitW hpre).1
 have hc:l.pre.holds [] {args:=args}=true:=(pre_splitW hpre).2
 obtain⟨d,r,rfl,h1,h2⟩:=hasAllW_cons hsh
 obtain rfl:=hasAllW_nil h2
 obtain⟨xs,rfl,h3⟩:=hasW_list h1
 obtain⟨ns,rfl⟩:=items_int h3
 have hlen:ns.length≤n:=by
  unfold OpenLaw.pre at hc
  have h4:(WTm.not (.lt (.lit (.int (n:Int))) (.len (.arg 0)))).holds [] {args:=[.list (ns.map .int)]}=true:=by
   have h4:=(holds_andW hc).1
   rw[hn] at h4
   exact h4
  have h5:=condW_of h4 (w_not (w_lt w_lit (w_len_list (w_arg rfl))))
  rw[List.length_map] at h5
  refine Nat.le_of_not_lt fun q=>?_
  have q':(n:Int)<((ns.length:Nat):Int):=by lia
  first
   | (rw[decide_eq_true q'] at h5;exact absurd h5 (by decide))
   | (simp at h5;lia)
 cases hwl with
 | cons w1 w2=>
   cases w2
   cases w1 with
   | list ho hall=>exact⟨_,_,ns,rfl,rfl,ho,m8 ns _ hall,hlen⟩
theorem oY(l:OpenLaw)(args:List WData):l.row.toRowW.claim.post args (.bool true) args=true:=
 postW_of (r:=l.row.toRowW) (X:=(true == true))
  (show WShape.has [] (.bool true) .bool=true by first | rfl | decide | simp[WShape.has,WShape.arms,WShape.armsAll])
  (show(WTm.eq .res (.lit (.bool true))).value [] {args:=args,res:=some (.bool true),after:=args}=some (.bool (true == true)) from w_eq_bool (w_res rfl) w_lit) rfl
theorem attach_call{l:OpenLaw}{n:Nat}{q:Program}{loose:List Str}{XP:(Str→Option Value)→Heap→Prop}{YP:World→Heap→Prop}{d:DefRec}(hn:l.most=some n)(hdf:d.params.defaults=[])(call:∀(w:World) (s₀ s₁:Shared) (mg mb:Str→Option Value) (fa:Addr) (o:Obj) (pm cd doc:Value) (a:Addr) (vs:List Value) (ns:List Int),Ground q loose [] XP w s₀ mg mb s₁.heap→YP w s₁.heap→s₁.heap.get? fa=some o→o.data=.func (docDef d.name d.params d.body d.scope pm cd doc)→s₁.heap.CodeRec cd d.name→mg d.name=some (.ref fa)→s₁.heap.get? a=some {cls:=.type "list",data:=.seq vs.toArray}→IntsAre vs ns→ns.length≤n→s₁.gens=#[]→codeAny (model l.prog w) callerA (.call (.ref fa) ⟨[.ref a],[]⟩) (fun r s'=>r=.ok (.ret (.bool true))∧OldK s₁.heap s'.heap∧s'.os=s₁.os∧AllBare s'.gens) s₁):
 WalkO q loose XP YP l.row.toRowW d [] (fun f vs=>PySem.call f vs):=by
 intro w s₀ s₁ mg mb G Y fa o pm cd doc dV kV ho hd hcd hD hmg hg args vals as hpre hlay hrd hwl hlo
 obtain rfl:dV=.none:=Dflts.none hD hdf
 obtain rfl:kV=.none:=Dflts.noKw hD
 obtain⟨a,vs,ns,rfl,rfl,hobj,hints,hlen⟩:=qL hn hpre hwl
 refine enter_call (codeAny_mono (call w s₀ s₁ mg mb fa o pm cd doc a vs ns G Y ho (fd_plain hd) hcd hmg hobj hints hlen hg) fun r s' hq=>?_)
 obtain⟨rfl,h2,h3,h4⟩:=hq
 exact⟨.inl ⟨.bool true,.bool true,[],rfl,fun _=>rfl,.bool true,oY l _,fun _=>⟨List.Pairwise.nil,fun _ hm=>(nomatch hm)⟩⟩,h2,h3,h4⟩
section
variable{prog:Program}{w:World}{A:Around}{E:Value→Shared→Prop}{s:Shared}{K:Frag}
def rX(h:Heap)(L d:Addr):List (Addr×Obj):=(List.range h.objs.size).filterMap fun a=>if a=L∨a=d then none else(h.get? a).map fun o=>(a,o)
end
end Att
namespace L2
open PySem PySem.Spec PyProof.Rows
theorem jm:∀{vs:List Value} {ns:List Int},IntsAre vs ns→Vals (ns.map V.int) vs
 | _,_,.nil=>.nil
 | _,_,.cons n t h=>.cons ⟨t,rfl⟩ (jm h)
abbrev rU{K:PySem.W.Frag}{h:Heap}(_:K.In h):PySem.W.Frag:=K
def bA(s:Stmt):Arguments:=match s with
 | .FunctionDef _ a _ _ _ _ _ _ _ _=>a
 | _=>{posonlyargs:=[],args:=[],vararg:=none,kwonlyargs:=[],kw_defaults:=[],kwarg:=none,defaults:=[]}
def bd(s:Stmt):List Stmt:=match s with
 | .FunctionDef _ _ b _ _ _ _ _ _ _=>b
 | _=>[]
def ar(s:Stmt):Scope:=match s with
 | .FunctionDef _ _ _ _ _ _ sc _ _ _=>sc
 | _=>{kind:=.function,names:=[],isGenerator:=false,isCoroutine:=false}
abbrev ad:be:=fun _ _ _ _ _ _=>False
abbrev E0:XK:=fun _ _ _=>False
theorem ap{X:Cx}:eW ad X E0:=fun _ _ _ _ _ _ _ h=>h.elim
structure Fun(K:PySem.W.Frag)(x qual:Str)(st:Stmt)(f:Addr)(fd:FuncData):Prop where
 ex:∃(oc:Value) (od:Option Addr) (kV doc pm:Value) (an:Option Addr) (cdv ct:Value) (osl:Array (Option Value)),
  fd=PySem.W.fnOf x qual (bA st) (bd st) (ar st) .none kV doc pm an cdv ct∧K.lookup f=some ⟨oc,od,.func fd,osl⟩∧PySem.W.codeIn K cdv qual=true
 kp:PySem.W.keepIn K (.ref f)=true
section
variable{P:Program}{w:World}{K:PySem.W.Frag}{mg:Str→Option Value}{base:Heap}
theorem Fun.ok{x qual:Str}{st:Stmt}{f:Addr}{fd:FuncData}{N ps:List Str}{k:Nat}{sp:Sp}(F:Fun K x qual st f fd)(S:FnScope N ps (ar st))(len:∀vs H Q E,sp vs H Q E→vs.length=ps.length)(hbody:∀(cdv:Value) (A:Around) (outer:List Env) (s:Shared) (H:Hp) (vs:List V) (Q:VK) (E:XK),Room k (A.deeper (envOfC qual (ar st) s.heap.objs.size f cdv))→sp vs H Q E→∃t,PSs (bE ad P w K mg base N qual (ar st) f cdv A outer s H E).nox (bd st) t∧t {nx:=fun _ H'=>Q .non H',rt:=Q} (bI N vs) H):FnOk P w K mg base ad (k+1) f fd ps sp:=by
 obtain⟨oc,od,kV,doc,pm,an,cdv,ct,osl,rfl,lk,hcd⟩:=F.ex
 refine kv lk hcd S len fun A outer s H vs Q E hr hsp=>?_
 obtain⟨t,h,q⟩:=hbody cdv A outer s H vs Q E hr hsp
 exact⟨t,h.nox,q⟩
theorem Fun.binds{x qual:Str}{st:Stmt}{f:Addr}{fd:FuncData}{ps:List Str}(F:Fun K x qual st f fd)(h:∀(kV doc pm:Value) (an:Option Addr) (cdv ct:Value) (us:List Value),us.length=ps.length→bindArgs (PySem.W.fnOf x qual (bA st) (bd st) (ar st) .none kV doc pm an cdv ct) ⟨us,[]⟩=pure (ps.zip us)):Binds K fd ps []:=by
 obtain⟨oc,od,kV,doc,pm,an,cdv,ct,osl,rfl,lk,hcd⟩:=F.ex
 exact .all (h kV doc pm an cdv ct)
theorem kZ{x qual:Str}{st:Stmt}{f:Addr}{oc:Value}{od an:Option Addr}{osl:Array (Option Value)}{kV doc pm cdv ct:Value}(l:K.lookup f=some ⟨oc,od,.func (PySem.W.fnOf x qual (bA st) (bd st) (ar st) .none kV doc pm an cdv ct),osl⟩)(c:PySem.W.codeIn K cdv qual=true)(k:PySem.W.keepIn K (.ref f)=true):Fun K x qual st f (PySem.W.fnOf x qual (bA st) (bd st) (ar st) .none kV doc pm an cdv ct):=⟨⟨oc,od,kV,doc,pm,an,cdv,ct,osl,rfl,l,c⟩,k⟩
end
theorem bi{n:Nat}(h:n≤1000):n<sizeLine:=Nat.lt_of_le_of_lt h (by decide)
section
variable{X:Cx}
theorem pv(i:Nat){x:Str}{pos:Pos}(hN:X.N[i]?=some x:=by rfl)(hv:ee X.env.scope x:=by first | exact Or.inl rfl | exact Or.inr (Or.inl rfl) | exact Or.inr (Or.inr rfl))(hd:(x == ("__debug__":Str))=false:=by decide)
 (hcd:(x == ("__classdict__":Str))=false:=by decide):PE X (.Name x pos) (cx i):=nQ hN hv hd hcd
end
theorem aY{A B:Prop}(h:B):if false=true then A else B:=by
 rw[if_neg Bool.false_ne_true]
 exact h
theorem bc{A B:Prop}(h:A):if true=true then A else B:=by
 rw[if_pos rfl]
 exact h
theorem bJ{c A B:Prop}[Decidable c](h1:c→A)(h2:¬c→B):if c then A else B:=by
 by_cases h:c
 ·rw[if_pos h]
  exact h1 h
 ·rw[if_neg h]
  exact h2 h
def Same(H H':Hp):Prop:=∀b o,H b=some o→H' b=some o
theorem Same.refl(H:Hp):Same H H:=fun _ _ h=>h
theorem Same.trans{H H1 H2:Hp}(a:Same H H1)(b:Same H1 H2):Same H H2:=fun c o h=>b c o (a c o h)
theorem Same.free{H H':Hp}(e:Same H H'){l:Addr}(h:H' l=Option.none):H l=Option.none:=by
 cases q:H l with
 | none=>rfl
 | some o=>
   rw[e l o q] at h
   cases h
theorem Same.seq{K:PySem.W.Frag}{H H':Hp}{a:Addr}{xs:List V}(e:Same H H')(h:SqL K H a xs):SqL K H' a xs:=by
 rcases h with(h | ⟨o,h⟩) | h
 ·exact .inl (.inl (e _ _ h))
 ·exact .inl (.inr ⟨o,e _ _ h⟩)
 ·exact .inr h
end L2
set_option maxHeartbeats 4000000
namespace L2
open PySem PySem.Spec PyProof.Rows
def dN(outer sc:Scope)(x:Str)(M N:List Str):Bool:=
 decide (sc.kind=.function) && sc.names.all (fun y=>decide (y.2≠ .cell)) && sc.names.all (fun y=>decide (y.2=.local→sc.names.lookup y.1=some .local)) && decide (sc.names.lookup x=some .local) &&
 sc.names.all (fun y=>decide (y.2=.free→(outer.names.lookup y.1=some .cell∨outer.names.lookup y.1=some .free))) &&
 decide ((M++[x]).Nodup) && decide (M.length=N.length) && (M.zip N).all (fun p=>decide (p.1=p.2∨sc.names.lookup p.1=none)) && M.all (fun y=>decide (sc.names.lookup y≠some .local))
theorem iB{env:Env}:∀{names:List (Str×NameKind)} {x:Str} {k':NameKind},(names.map fun(n,k)=>if(k == NameKind.free && env.scope.kind == .function && env.kindOf n == some .cell) then(n,NameKind.cell) else(n,k)).lookup x=some k'→
 ∃k,names.lookup x=some k∧(k'=k∨(k=.free∧k'=.cell))
 | [],_,_,h=>by simp at h
 | (n,k)::r,x,k',h=>by
   have ih:= @iB env r x k'
   have h':List.lookup x ((if(k == NameKind.free && env.scope.kind == .function && env.kindOf n == some .cell)=true then(n,NameKind.cell) else(n,k))::_)=some k':=h
   cases hx:x == n with
   | true=>
     by_cases hc:((k == NameKind.free && env.scope.kind == .function && env.kindOf n == some .cell))=true
     ·rw[if_pos hc] at h'
      simp only[List.lookup_cons,hx] at h'
      refine⟨k,by simp[List.lookup_cons,hx],.inr ⟨?_,(Option.some.inj h').symm⟩⟩
      simp only[Bool.and_eq_true,beq_iff_eq] at hc
      exact hc.1.1
     ·rw[if_neg hc] at h'
      simp only[List.lookup_cons,hx] at h'
      exact⟨k,by simp[List.lookup_cons,hx],.inl (Option.some.inj h').symm⟩
   | false=>
     have h'':List.lookup x (r.map fun(n,k)=>if(k == NameKind.free && env.scope.kind == .function && env.kindOf n == some .cell) then(n,NameKind.cell) else(n,k))=some k':=by
      by_cases hc:((k == NameKind.free && env.scope.kind == .function && env.kindOf n == some .cell))=true
      ·rw[if_pos hc] at h';simp only[List.lookup_cons,hx] at h';exact h'
      ·rw[if_neg hc] at h';simp only[List.lookup_cons,hx] at h';exact h'
     obtain⟨k0,a,b⟩:=ih h''
     exact⟨k0,by simp only[List.lookup_cons,hx];exact a,b⟩
theorem gq{env:Env}:∀(names:List (Str×NameKind)) (cs:List (Str×Addr)),(∀y∈names,y.2=.free→∃c,env.cells.lookup y.1=some c)→(∀y c,cs.lookup y=some c→env.cells.lookup y=some c)→∃cl,(forIn names cs fun(x:Str×NameKind) (r:List (Str×Addr))=>(if(x.2 == NameKind.free)=true then(do let a←cellOf env x.1;pure (ForInStep.yield ((x.1,a)::r))) else pure (ForInStep.yield r):Sem _))=pure cl∧
 (∀y c,cl.lookup y=some c→env.cells.lookup y=some c)∧(∀y,((∃c,cs.lookup y=some c)∨(y,NameKind.free)∈names)→∃c,cl.lookup y=some c)
 | [],cs,_,hc=>⟨cs,rfl,hc,fun y h=>by
  rcases h with h | h
  ·exact h
  ·cases h⟩
 | (n,k)::r,cs,hf,hc=>by
   by_cases hk:k=.free
   ·subst hk
    obtain⟨a,ha⟩:=hf (n,.free) List.mem_cons_self rfl
    have hc':∀y c,List.lookup y ((n,a)::cs)=some c→env.cells.lookup y=some c:=fun y c e=>by
     simp only[List.lookup_cons] at e
     split at e
     ·rename_i q
      have q':y=n:=by simpa using q
      subst q'
      exact ha.trans e
     ·exact hc y c e
    obtain⟨cl,h1,h2,h3⟩:=gq r ((n,a)::cs) (fun y hy=>hf y (List.mem_cons_of_mem _ hy)) hc'
    refine⟨cl,?_,h2,fun y h=>?_⟩
    ·rw[List.forIn_cons]
     show((if(NameKind.free == NameKind.free)=true then(do let a←cellOf env n;pure (ForInStep.yield ((n,a)::cs))) else pure (ForInStep.yield cs):Sem _) >>= _)=_
     rw[if_pos (by decide)]
     have e:cellOf env n=pure a:=by unfold cellOf;rw[ha]
     rw[e]
     exact h1
    ·refine h3 y ?_
     rcases h with⟨c,h⟩ | h
     ·left
      simp only[List.lookup_cons]
      split
      ·exact⟨_,rfl⟩
      ·exact⟨c,h⟩
     ·rcases List.mem_cons.mp h with q | q
      ·left
       cases q
       exact⟨a,by simp[List.lookup_cons]⟩
      ·exact .inr q
   ·obtain⟨cl,h1,h2,h3⟩:=gq r cs (fun y hy=>hf y (List.mem_cons_of_mem _ hy)) hc
    refine⟨cl,?_,h2,fun y h=>?_⟩
    ·rw[List.forIn_cons]
     show((if(k == NameKind.free)=true then(do let a←cellOf env n;pure (ForInStep.yield ((n,a)::cs))) else pure (ForInStep.yield cs):Sem _) >>= _)=_
     rw[if_neg (by simpa using hk)]
     exact h1
    ·refine h3 y ?_
     rcases h with h | h
     ·exact .inl h
     ·rcases List.mem_cons.mp h with q | q
      ·cases q;exact absurd rfl hk
      ·exact .inr q
theorem pL{env:Env}{scope:Scope}(hf:∀y∈scope.names,y.2=.free→∃c,env.cells.lookup y.1=some c):∃cl,closureFor scope env=pure cl∧(∀y c,cl.lookup y=some c→env.cells.lookup y=some c)∧(∀y,(y,NameKind.free)∈scope.names→∃c,cl.lookup y=some c):=by
 obtain⟨cl,h1,h2,h3⟩:=gq scope.names [] hf (fun y c e=>by simp at e)
 refine⟨cl,?_,h2,fun y h=>h3 y (.inr h)⟩
 unfold closureFor
 rw[←bind_pure (x:=(pure cl:Sem _)),←h1]
structure CB where
 cl:List (Str×Addr)
 C:Addr
 s2:Shared
 H2:Hp
 fp:List Addr
def Cx.comp(X:Cx)(N':List Str)(scope:Scope)(b:CB):Cx where
 prog:=X.prog
 w:=X.w
 K:=X.K
 mg:=X.mg
 base:=X.base
 A:=X.A
 N:=N'
 s₀:=b.s2
 H₀:=b.H2
 env:=compEnvC scope b.cl b.C X.env
 outer:=X.stack
 stack:=X.stack
 ex:=b.fp
 fn:=fun _=>false
 calm:=X.calm
 pn:=[]
 xe:=fun _ _=>False
structure CompOK(outer sc:Scope)(x:Str)(M N:List Str):Prop where
 kind:sc.kind=.function
 nocell:∀y∈sc.names,y.2≠ .cell
 loc:∀y∈sc.names,y.2=.local→sc.names.lookup y.1=some .local
 own:sc.names.lookup x=some .local
 free:∀y∈sc.names,y.2=.free→(outer.names.lookup y.1=some .cell∨outer.names.lookup y.1=some .free)
 nd:(M++[x]).Nodup
 len:M.length=N.length
 same:∀p∈M.zip N,p.1=p.2∨sc.names.lookup p.1=none
 noloc:∀y∈M,sc.names.lookup y≠some .local
theorem lZ{outer sc:Scope}{x:Str}{M N:List Str}(h:dN outer sc x M N=true):CompOK outer sc x M N:=by
 unfold dN at h
 simp only[Bool.and_eq_true,decide_eq_true_eq,List.all_eq_true] at h
 obtain⟨⟨⟨⟨⟨⟨⟨⟨h1,h2⟩,h3⟩,h4⟩,h5⟩,h6⟩,h7⟩,h8⟩,h9⟩:=h
 exact⟨h1,h2,h3,h4,h5,h6,h7,h8,h9⟩
section
variable{X:Cx}{pins:List (Addr×Obj)}{σ:St}{H2:Hp}{s2:Shared}{scope:Scope}{x:Str}{M:List Str}{cl:List (Str×Addr)}{fp:List Addr}{h1:Heap}{t':Nat}
theorem Inv.comp(I:Inv X pins σ H2 s2)(K:CompOK X.env.scope scope x M X.N)(hcl:∀y c,cl.lookup y=some c→X.env.cells.lookup y=some c)(hcf:∀y,(y,NameKind.free)∈scope.names→∃c,cl.lookup y=some c)(hfp:∀b∈fp,bp X pins H2 b)(hlt:∀b∈fp,b<s2.heap.objs.size)(kp:∀b o,s2.heap.get? b=some o→h1.get? b=some o)(hD:h1.get? s2.heap.objs.size=some {cls:=.type "list",dict:=none,data:=.seq ([]:List Value).toArray})(hC:h1.Ns (s2.heap.objs.size+1) (fun _=>none)):
 Inv (X.comp (M++[x]) scope ⟨cl,s2.heap.objs.size+1,s2,H2,fp⟩) [] (σ++[none]) (upd H2 s2.heap.objs.size (.lst [])) {s2 with heap:=h1,toks:=t'}:=by
 have cellLt:∀y c,cl.lookup y=some c→c<s2.heap.objs.size:=fun y c e=>by
  obtain⟨v,z⟩:=I.cell y c (hcl y c e)
  exact z.lt
 have kindEq:∀y k',(compEnvC scope cl (s2.heap.objs.size+1) X.env).kindOf y=some k'→∃k,scope.names.lookup y=some k∧(k'=k∨(k=.free∧k'=.cell)):=fun y k' e=>iB e
 have freeOf:∀y k',(compEnvC scope cl (s2.heap.objs.size+1) X.env).kindOf y=some k'→(k'=.cell∨k'=.free)→(y,NameKind.free)∈scope.names:=fun y k' e hk=>by
  obtain⟨k,e1,e2⟩:=kindEq y k' e
  have mem:=PySem.mem_of_lookup e1
  have:k=.free:=by
   rcases e2 with rfl | ⟨rfl,_⟩
   ·rcases hk with rfl | rfl
    ·exact absurd rfl (K.nocell _ mem)
    ·rfl
   ·rfl
  subst this
  exact mem
 have hDn:H2 s2.heap.objs.size=none:=I.hok.fresh (Nat.le_refl _)
 refine⟨⟨I.ok.mod,K.kind,I.ok.glob,I.ok.blt,Nat.le_succ _,fun y z c e1 e2=>I.ok.inj y z c (hcl y c e1) (hcl z c e2),fun y hy=>?_,fun y c hf _=>?_,I.ok.hd,I.ok.frames,.inl rfl,fun b hb=>⟨Nat.ne_of_lt (Nat.lt_succ_of_lt (hlt b hb)),fun y c e=>(hfp b hb).2.2.2.2.1 y c (hcl y c e)⟩,
  fun b o e=>I.bs b o e,Nat.le_trans I.ok.bsz I.sz,fun b o e hb=>?_,fun b hb hf=>?_,I.stack,I.stkFree⟩,rfl,I.bare,Un.laid kp (Nat.le_refl _) hDn,⟨_,hC,fun i y v e1 e2 e3=>?_⟩,fun y c e=>?_,?_,fun y c e=>?_,fun p hp=>absurd (show p∈([]:List (Addr×Obj)) from hp) (by simp),I.hok.laid kp (Nat.le_refl _) ?_,?_⟩
 ·rcases hy with hy | hy
  ·exact hcf y (freeOf y _ hy (.inl rfl))
  ·exact hcf y (freeOf y _ hy (.inr rfl))
 ·exact absurd (show false=true from hf) Bool.false_ne_true
 ·obtain⟨f0,f1,f2,f3,f4,f5⟩:=hfp b hb
  rcases f3 with z | z
  ·exact I.ok.noex b o e z
  ·exact absurd (Nat.lt_of_lt_of_le (Heap.lt_size (I.ok.bs b o e).1) z) (Nat.lt_irrefl _)
 ·obtain⟨f0,f1,f2,f3,f4,f5⟩:=hfp b hb
  rcases List.mem_cons.mp (I.stkSub b hf) with z | z
  ·exact f1 z
  ·exact f2 z
 ·
  have hi:i<σ.length:=by
   by_cases hi:i<σ.length
   ·exact hi
   ·have hz:(σ++[none])[i]?=some (some v):=e2
    rw[List.getElem?_append_right (by lia)] at hz
    by_cases hq:i-σ.length=0
    ·rw[hq] at hz;cases hz
    ·rw[List.getElem?_eq_none (by simp;lia)] at hz;cases hz
  have e2':σ[i]?=some (some v):=by
   have hz:(σ++[none])[i]?=some (some v):=e2
   rw[List.getElem?_append_left hi] at hz
   exact hz
  have hiM:i<M.length:=by rw[K.len,←I.len];exact hi
  have e1':M[i]?=some y:=by
   have hz:(M++[x])[i]?=some y:=e1
   rw[List.getElem?_append_left hiM] at hz
   exact hz
  have hyM:y∈M:=List.mem_of_getElem? e1'
  have e3':∃k',(compEnvC scope cl (s2.heap.objs.size+1) X.env).kindOf y=some k'∧(k'=.cell∨k'=.free):=by
   rcases e3 with z | z | z
   ·obtain⟨k,a,b⟩:=kindEq y _ z
    rcases b with b | ⟨_,b⟩
    ·subst b;exact absurd a (K.noloc y hyM)
    ·cases b
   ·exact⟨_,z,.inl rfl⟩
   ·exact⟨_,z,.inr rfl⟩
  obtain⟨k',ek,hk⟩:=e3'
  have mem:=freeOf y k' ek hk
  obtain⟨k0,a0,_⟩:=kindEq y k' ek
  have hiN:i<X.N.length:=by rw[←K.len];exact hiM
  have eN:X.N[i]?=some y:=by
   have hz:(M[i],X.N[i])∈M.zip X.N:=by
    rw[List.mem_iff_getElem?]
    exact⟨i,List.getElem?_zip_eq_some.mpr ⟨List.getElem?_eq_getElem hiM,List.getElem?_eq_getElem hiN⟩⟩
   have eM:M[i]=y:=by
    rw[List.getElem?_eq_getElem hiM] at e1'
    exact Option.some.inj e1'
   rcases K.same _ hz with q | q
   ·rw[List.getElem?_eq_getElem hiN]
    have q':M[i]=X.N[i]:=q
    rw[←q',eM]
   ·have q':scope.names.lookup M[i]=none:=q
    rw[eM,a0] at q'
    cases q'
  have hv:=K.free _ mem rfl
  obtain⟨m,hn,hl⟩:=I.loc
  obtain⟨u,r,l⟩:=hl i y v eN e2' (hv.elim (fun z=>.inr (.inl z)) (fun z=>.inr (.inr z)))
  refine⟨u,r,.inr ⟨?_,?_⟩⟩
  ·rcases hk with rfl | rfl
   ·exact .inl ek
   ·exact .inr ek
  ·obtain⟨c,ec⟩:=hcf y mem
   refine⟨c,ec,?_⟩
   rcases l with⟨z,_⟩ | ⟨_,c',ec',cc⟩
   ·have z':X.env.scope.names.lookup y=some .local:=z
    rcases hv with q | q <;> (rw[z'] at q;cases q)
   ·have:=(hcl y c ec).symm.trans ec'
    cases this
    obtain⟨o,ho,hd⟩:=cc
    exact⟨o,kp _ o ho,hd⟩
 ·obtain⟨v,o,ho,hd⟩:=I.cell y c (hcl y c e)
  exact⟨v,o,kp _ o ho,hd⟩
 ·show upd H2 s2.heap.objs.size (.lst []) (s2.heap.objs.size+1)=none
  rw[ao (Nat.succ_ne_self _)]
  exact I.hok.fresh (Nat.le_succ _)
 ·rw[ao (Nat.ne_of_lt (cellLt y c e))]
  exact I.freeC y c (hcl y c e)
 ·exact⟨Nat.zero_le _,[],_,.nil,hD⟩
 ·show(σ++[none]).length=(M++[x]).length
  simp[I.len,K.len]
end
theorem oK{prog:Program}{w:World}{A:Around}{R:Result→Shared→Prop}{s:Shared}{elt target iter:Expr}{ifs:List Expr}{scope:Scope}{pos:Pos}{it acc:Value}{env:Env}(I:Nat→Shared→Prop)(onward:∀n s,I n s→wpAny (model prog w) A (pyNext it) (fun r za=>match r with
 | none=>R (.ok .next) za
 | some v=>wpAny (model prog w) A (letOwnedTupleGo target it v) (fun _ zb=>wpAny (model prog w) A (assign target env v) (fun _ zc=>
  wpAny (model prog w) A (forIn ifs true fun c r=>if r=true then do let ok←isTrue c env (eval c env);pure (ForInStep.yield ok) else pure (ForInStep.yield r)) (fun ok zd=>
   if ok=true then wpAny (model prog w) A (eval elt env) (fun x ze=>
    wpAny (model prog w) A (call (.builtin "list.append") [acc,x]) (fun _ zf=>∃m,m<n∧I m zf) (fun _ _=>False) ze) (fun _ _=>False) zd
   else∃m,m<n∧I m zd) (fun _ _=>False) zc) (fun _ _=>False) zb) (fun _ _=>False) za) (fun _ _=>False) s)
 (n:Nat)(h:I n s):
 codeAny (model prog w) A (.compLoop (.ListComp elt [⟨target,iter,ifs,0⟩] scope pos) 0 it acc env) R s:=
 by
 refine codeAny_loop rfl I (fun n s hJ=>?_) n h
 show wpAny _ A ((compTurn (.ListComp elt [⟨target,iter,ifs,0⟩] scope pos) 0 it acc env).onRaise (fun ex=>do noteFrame ex env;theTreesLotGoes ex)) _ _ s
 refine wpAny_noted (wpAny_mono (E:=fun _ _=>False) ?_ (fun _ _ q=>q) fun _ _ z=>z.elim)
 rw[compTurn_list]
 refine wpAny_bind (wpAny_standAt (wpAny_bind (wpAny_mono (onward n s hJ) (fun r za ya=>?_) fun _ _ u=>u)))
 cases r with
 | none=>exact wpAny_pure ya
 | some v=>
   refine wpAny_bind (wpAny_mono ya (fun _ zb yb=>?_) fun _ _ u=>u)
   refine wpAny_bind (wpAny_mono yb (fun _ zc yc=>wpAny_bind (wpAny_mono yc (fun ok zd yd=>?_) fun _ _ u=>u)) fun _ _ u=>u)
   cases ok with
   | false=>exact wpAny_pure ⟨rfl,yd⟩
   | true=>
     exact wpAny_bind (wpAny_bind (wpAny_mono yd (fun x ze ye=>wpAny_bind (wpAny_mono ye (fun _ zf yf=>wpAny_pure (wpAny_pure ⟨rfl,yf⟩)) fun _ _ u=>u)) fun _ _ u=>u))
def dD(X:Cx)(ifs:List Expr)(t:TT):Prop:=
 ∀ (pins:List (Addr×Obj)) (s:Shared) (σ:St) (H:Hp) (Q:Bool→Hp→Prop),Inv X pins σ H s→t σ H Q→
   wpAny (model X.prog X.w) X.A (forIn ifs true fun c r=>if r=true then do let ok←isTrue c X.env (eval c X.env);pure (ForInStep.yield ok) else pure (ForInStep.yield r)) (TP X pins σ Q) X.xe s
def jW:TT:=fun _ H Q=>Q true H
theorem fg{X:Cx}:dD X [] jW:=fun pins s σ H Q I h=>wpAny_tests_nil ⟨H,I,h⟩
theorem fX{X:Cx}{c:Expr}{t:TT}(h:PT X c t):dD X [c] t:=fun pins s σ H Q I q=>wpAny_tests_one (h pins s σ H Q I q)
def iu(wi:TI)(tc:CB→TT)(te:CB→TE):TE:=fun σ H Q=>wi σ H fun J H1=>∀D,H1 D=none→∀b:CB,∃W:Nat→Nat→List V→Hp→Prop,(∃m,W 0 m [] (upd H1 D (.lst [])))∧
 ∀ i m ys H,W i m ys H→(J.stop i H∧Q (.ref D) H)∨(J.go i H∧ys.length<sizeLine∧∃N:List V→Hp→Prop,(∀ys' H',N ys' H'→∃m',m'<m∧W (i+1) m' ys' H')∧∀x H',J.yld i H x H'→tc b (σ++[some x]) H' fun ok H2=>
   if ok=true then te b (σ++[some x]) H2 fun v H3=>H3 D=some (.lst ys)∧N (ys++[v]) (upd H3 D (.lst (ys++[v]))) else N ys H2)
theorem pN{X:Cx}{pins:List (Addr×Obj)}{σ:St}{H:Hp}{s:Shared}{D:Addr}{ys:List V}{v:V}{u:Value}{E:Value→Shared→Prop}(I:Inv X pins σ H s)(hD:H D=some (.lst ys))(hz:ys.length<sizeLine)(r:RelV v u):wpAny (model X.prog X.w) X.A (call (.builtin "list.append") [.ref D,u]) (fun _ s'=>Inv X pins σ (upd H D (.lst (ys++[v]))) s') E s:=by
 obtain⟨z,its,n,rv,hl,e⟩:=I.lstM hD
 refine call_meets F.slot_list_append ⟨_,e,rfl⟩ F.entry_list_append (F.args_list_append_2 _ _) (PySem.list_append D its.toArray n u (by rw[List.size_toArray];lia)) ⟨e,?_⟩
 refine I.lset (its':=its++[u]) hD e (by simp) (rv.append (.cons r .nil)) ?_
 rw[List.length_append,List.length_singleton]
 lia
theorem SameBut.unC{H H':Hp}{fs ex:List Addr}{h h1 h2:Heap}{C:Addr}(u:Un fs ex H H' h h1)(sb:Heap.SameBut C h1 h2)(hC:h.objs.size≤C):Un fs ex H H' h h2:=by
 have ne:∀b o,h.get? b=some o→b≠C:=fun b o e z=>by subst z;exact absurd (Nat.lt_of_lt_of_le (Heap.lt_size e) hC) (Nat.lt_irrefl _)
 refine⟨fun b o e n hb hx=>(sb.2 b (ne b o e)).trans (u.keep b o e n hb hx),fun b o e n hb hx=>?_,u.free,fun b o e hx=>?_,u.tups,u.frzs,u.tbls⟩
 ·obtain⟨sl,q⟩:=u.slot b o e n hb hx
  exact⟨sl,(sb.2 b (ne b o e)).trans q⟩
 ·obtain⟨o',q⟩:=u.there b o e hx
  exact⟨o',(sb.2 b (ne b o e)).trans q⟩
theorem SameBut.hokC{P:Program}{w:World}{H:Hp}{h1 h2:Heap}{C:Addr}(ok:HOk P w H h1)(sb:Heap.SameBut C h1 h2)(hn:H C=none):HOk P w H h2:=fun b ob e=>by
 refine(ok b ob e).stay (fun c w' hc q=>(sb.2 c ?_).trans q) (fun _ q=>q) fun _ _ q=>q
 rintro rfl
 rcases hc with rfl | hc
 ·rw[hn] at e;cases e
 ·rw[hn] at hc;cases hc
theorem iJ{X:Cx}{iter elt:Expr}{ifs:List Expr}{x:Str}{px pos pos0:Pos}{scope:Scope}(M:List Str){wi:TI}{tc:CB→TT}{te:CB→TE}{use:Option (Value→Sem Unit)}{R:Value→Shared→Prop}{pins:List (Addr×Obj)}{s:Shared}{σ:St}{H:Hp}{Q:VK}(I:Inv X pins σ H s)(h:iu wi tc te σ H Q)(hfin:∀(D C:Addr) (m:Str→Option Value) (s':Shared) (H':Hp),s'.heap.Ns C m→bp X pins H' C→(∀h',Heap.SameBut C s'.heap h'→Inv X pins σ H' {s' with heap:=h'})→Q (.ref D) H'→compPost (model X.prog X.w) X.A X.xe use R (.ref D) C (.ok .next) s')(hc:X.calm=true)(hi:PI X (.Name x px) iter wi)(hif:∀b:CB,dD (X.comp (M++[x]) scope b) ifs (tc b))(he:∀b:CB,PE (X.comp (M++[x]) scope b) elt (te b))(ok:dN X.env.scope scope x M X.N=true:=by kernel_rfl)
 (hs:∀x,foldedSetIterable iter X.env x=pure x:=by intro _;rfl):
 wpAny (model X.prog X.w) X.A (comprehension (.ListComp elt [⟨.Name x px,iter,ifs,0⟩] scope pos) scope X.env pos0 (newList []) false (eval iter X.env) use) R X.xe s:=by
 have K:=lZ ok
 obtain⟨cl,hclos,hcl,hcf⟩:=pL (env:=X.env) (scope:=scope) fun y hy hk=>I.ok.has y.1 (K.free y hy hk)
 refine wpAny_comprehension_free (use:=use) rfl hs hclos K.kind K.loc ?_
 refine ah (hi pins s σ H _ I h) fun v s1 h1=>ah h1 fun itv s2 h2=>?_
 obtain⟨it,fp,tn,J,H2,rfl,I2,T,st2,f2,hq⟩:=h2
 refine wpAny_newObj_type (wpAny_newFunctionEnv K.nocell (by intro y hy;simp at hy) (fun h₁ hns₁ hsb₁=>?_) K.kind)
 dsimp only at hns₁ hsb₁ ⊢
 have hsize:(s2.heap.push {cls:=.type "list",dict:=none,data:=.seq ([]:List Value).toArray}).objs.size=s2.heap.objs.size+1:=Heap.size_push ..
 rw[hsize] at hns₁ hsb₁
 have ltD:s2.heap.objs.size≠s2.heap.objs.size+1:=Nat.ne_of_lt (Nat.lt_succ_self _)
 have kp:∀b o,s2.heap.get? b=some o→h₁.get? b=some o:=fun b o e=>hsb₁.extBut b o (Nat.ne_of_lt (Nat.lt_succ_of_lt (Heap.lt_size e))) (Heap.get?_push_of_some _ (Heap.get?_push_of_some _ e))
 have hD:h₁.get? s2.heap.objs.size=some {cls:=.type "list",dict:=none,data:=.seq ([]:List Value).toArray}:=hsb₁.extBut _ _ ltD (Heap.get?_push_of_some _ (Heap.get?_push_size _ rfl))
 have hlt:∀b∈fp,b<s2.heap.objs.size:=fun b hb=>let ⟨o,e,_⟩:=T.obj _ _ st2 b hb;Heap.lt_size e
 have I3:=I2.comp (t':=s2.toks+([]:List (Str×Value)).length) K hcl hcf f2 hlt kp hD hns₁
 obtain⟨W,⟨m0,w0⟩,step⟩:=hq s2.heap.objs.size (I2.hok.fresh (Nat.le_refl _)) ⟨cl,s2.heap.objs.size+1,s2,H2,fp⟩
 have st3:tn 0 h₁:=T.keep _ _ _ st2 fun b _ o e=>kp b o e
 have fr3:∀b∈fp,(upd H2 s2.heap.objs.size (.lst [])) b=none:=fun b hb=>by rw[ao (Nat.ne_of_lt (hlt b hb))];exact(f2 b hb).1
 have fin:∀(s':Shared) (σ':St) (H':Hp),Inv (X.comp (M++[x]) scope ⟨cl,s2.heap.objs.size+1,s2,H2,fp⟩) [] σ' H' s'→Q (.ref s2.heap.objs.size) H'→
  compPost (model X.prog X.w) X.A X.xe use R (.ref s2.heap.objs.size) (s2.heap.objs.size+1) (.ok .next) s':=fun s' σ' H' J' q=>by
  obtain⟨m,hn,_⟩:=id J'.loc
  have hC:H' (s2.heap.objs.size+1)=none:=J'.free
  refine hfin _ _ m s' H' hn (I2.fpOk (Nat.le_succ _) hC) (fun h' sb=>?_) q
  exact I2.call' (ch:=fp) (show s'.os=s2.os from J'.os) (SameBut.unC J'.base sb (Nat.le_succ _)) (SameBut.hokC J'.hok sb hC) J'.bare fun b hb=>by
   obtain⟨f0,f1,f2',f3,f4,f5⟩:=f2 b hb
   exact⟨f3,f1,f4,f5⟩
 have stat:∀{H':Hp},(∀b∈fp,H' b=none)→∀b∈fp,bp (X.comp (M++[x]) scope ⟨cl,s2.heap.objs.size+1,s2,H2,fp⟩) [] H' b:=fun hn b hb=>by
  obtain⟨f0,f1,f2',f3,f4,f5⟩:=f2 b hb
  refine⟨hn b hb,Nat.ne_of_lt (Nat.lt_succ_of_lt (hlt b hb)),fun z=>?_,.inl hb,fun y c e=>f4 y c (hcl y c e),fun p hp=>absurd (show p∈([]:List (Addr×Obj)) from hp) (by simp)⟩
  rcases List.mem_cons.mp (I2.stkSub b z) with z | z
  ·exact f1 z
  ·exact f2' z
 have len3:σ.length=M.length:=by rw[I.len,K.len]
 have loop:codeAny (model X.prog X.w) X.A (.compLoop (.ListComp elt [⟨.Name x px,iter,ifs,0⟩] scope pos) 0 (.ref it) (.ref s2.heap.objs.size) (compEnvC scope cl (s2.heap.objs.size+1) X.env))
  (compPost (model X.prog X.w) X.A X.xe use R (.ref s2.heap.objs.size) (s2.heap.objs.size+1)) {s2 with heap:=h₁,toks:=s2.toks+([]:List (Str×Value)).length}:=by
  refine oK (fun n s'=>∃i ys H',Inv (X.comp (M++[x]) scope ⟨cl,s2.heap.objs.size+1,s2,H2,fp⟩) [] (σ++[none]) H' s'∧tn i s'.heap∧(∀b∈fp,H' b=none)∧W i n ys H') ?_ m0 ⟨0,[],_,I3,st3,fr3,w0⟩
  rintro n s4 ⟨i,ys,H4,I4,st4,fr4,w4⟩
  rcases step i n ys H4 w4 with⟨stop,q⟩ | ⟨go,hz,N,hN,st⟩
  ·refine wpAny_mono (T.done (X.comp (M++[x]) scope ⟨cl,s2.heap.objs.size+1,s2,H2,fp⟩) rfl rfl rfl hc i [] s4 _ H4 (fun _ _=>False) I4 (stat fr4) st4 stop) (fun r s5 ⟨hr,I5⟩=>?_) fun _ _ z=>z
   subst hr
   exact fin s5 _ H4 I5 q
  ·refine wpAny_mono (T.item (X.comp (M++[x]) scope ⟨cl,s2.heap.objs.size+1,s2,H2,fp⟩) rfl rfl rfl hc i [] s4 _ H4 (fun _ _=>False) I4 (stat fr4) st4 go) (fun r s5 ⟨u,hr,h5⟩=>?_) fun _ _ z=>z
   subst hr
   refine wpAny_mono h5 (fun _ s6 ⟨xv,H6,I6,r6,y6,st6,fr6⟩=>?_) fun _ _ z=>z
   have I6':=I6.pinned (stat fr6) (T.obj _ _ st6)
   have hset:(σ++[none]).set σ.length (some xv)=σ++[some xv]:=by simp
   have hNx:(X.comp (M++[x]) scope ⟨cl,s2.heap.objs.size+1,s2,H2,fp⟩).N[σ.length]?=some x:=by
    show(M++[x])[σ.length]?=some x
    rw[len3];simp
   have hlx:(X.comp (M++[x]) scope ⟨cl,s2.heap.objs.size+1,s2,H2,fp⟩).env.scope.names.lookup x=some .local:=lookup_relabel_local K.own
   have PGx:PG (X.comp (M++[x]) scope ⟨cl,s2.heap.objs.size+1,s2,H2,fp⟩) (.Name x px) (cr σ.length):=bh K.nd hNx (.inl hlx) (.inr hlx)
   refine wpAny_mono (PGx _ s6 _ H6 xv u (fun σ' H'=>σ'=σ++[some xv]∧H'=H6) I6' r6 ⟨hset,rfl⟩) (fun _ s7 ⟨σ7,H7,I7,e7,e7'⟩=>?_) fun _ _ z=>z
   subst e7 e7'
   have again:∀{ys':List V} {H8:Hp} {s8:Shared} {m:Nat},Inv (X.comp (M++[x]) scope ⟨cl,s2.heap.objs.size+1,s2,H2,fp⟩) ([]++di fp s6.heap) (σ++[some xv]) H8 s8→m<n→W (i+1) m ys' H8→
    ∃m,m<n∧∃i ys H',Inv (X.comp (M++[x]) scope ⟨cl,s2.heap.objs.size+1,s2,H2,fp⟩) [] (σ++[none]) H' s8∧tn i s8.heap∧(∀b∈fp,H' b=none)∧W i m ys H':=fun{ys' H8 s8 m} I8 hm w8=>by
    refine⟨m,hm,i+1,ys',H8,(I8.unpinned).weak (by simp) (fun j v e=>?_),T.keep _ _ _ st6 fun b hb o e=>(I8.pin (b,o) (List.mem_append_right _ (List.mem_append_right _ (dZ hb e)))).1,fun b hb=>?_,w8⟩
    ·by_cases hj:j<σ.length
     ·rw[List.getElem?_append_left hj] at e ⊢;exact e
     ·rw[List.getElem?_append_right (by lia)] at e
      by_cases hq:j-σ.length=0
      ·rw[hq] at e;cases e
      ·rw[List.getElem?_eq_none (by simp;lia)] at e;cases e
    ·obtain⟨o,e,d⟩:=T.obj _ _ st6 b hb
     exact(I8.pin (b,o) (List.mem_append_right _ (List.mem_append_right _ (dZ hb e)))).2.1
   refine wpAny_mono (hif ⟨cl,s2.heap.objs.size+1,s2,H2,fp⟩ _ s7 _ _ _ I7 (st xv _ y6)) (fun ok s8 ⟨H8,I8,q8⟩=>?_) fun _ _ z=>z
   cases ok with
   | false=>
     rw[if_neg Bool.false_ne_true] at q8
     obtain⟨m,hm,w8⟩:=hN _ _ q8
     exact again I8 hm w8
   | true=>
     rw[if_pos rfl] at q8
     refine wpAny_mono (he ⟨cl,s2.heap.objs.size+1,s2,H2,fp⟩ _ s8 _ H8 _ I8 q8) (fun xu s9 ⟨v9,H9,I9,r9,hD9,n9⟩=>?_) fun _ _ z=>z
     obtain⟨m,hm,w9⟩:=hN _ _ n9
     exact wpAny_mono (pN (X:=X.comp (M++[x]) scope ⟨cl,s2.heap.objs.size+1,s2,H2,fp⟩) I9 hD9 hz r9) (fun _ s10 I10=>again I10 hm w9) fun _ _ z=>z
 rw[hsize]
 exact codeAny_compStart_list loop (T.self X.A 0 _ _ _ st3 loop)
theorem cR{X:Cx}{iter elt:Expr}{ifs:List Expr}{x:Str}{px pos:Pos}{scope:Scope}(M:List Str){wi:TI}{tc:CB→TT}{te:CB→TE}(hc:X.calm=true)(hi:PI X (.Name x px) iter wi)(hif:∀b:CB,dD (X.comp (M++[x]) scope b) ifs (tc b))(he:∀b:CB,PE (X.comp (M++[x]) scope b) elt (te b))(ok:dN X.env.scope scope x M X.N=true:=by kernel_rfl)
 (hs:∀x,foldedSetIterable iter X.env x=pure x:=by intro _;rfl):
 PE X (.ListComp elt [⟨.Name x px,iter,ifs,0⟩] scope pos) (iu wi tc te):=by
 intro pins s σ H Q I h
 rw[eval_ListComp]
 exact iJ M (use:=none) (R:=EP X pins σ Q) I h (fun D C m s' H' hn _ hI q=>⟨m,hn,fun h' sb=>⟨.ref D,H',hI h' sb,rfl,q⟩⟩) hc hi hif he ok hs
theorem Inv.butC{X:Cx}{pins:List (Addr×Obj)}{σ:St}{H:Hp}{s:Shared}{C:Addr}{h':Heap}(I:Inv X pins σ H s)(f:bp X pins H C)(sb:Heap.SameBut C s.heap h'):Inv X pins σ H {s with heap:=h'}:=by
 obtain⟨f0,f1,f2,f3,f4,f5⟩:=f
 refine I.call' (ch:=[C]) rfl ⟨fun b o e n _ hx=>?_,fun b o e n _ hx=>?_,fun b o e n _=>n,fun b o e hx=>?_,fun _ _ z=>z,fun _ _ _ z=>z,fun _ ps z=>⟨#[],by simpa using z⟩⟩ (SameBut.hokC I.hok sb f0) I.bare fun b hb=>?_
 ·exact(sb.2 b (by simpa using hx)).trans e
 ·exact⟨o.slots,(sb.2 b (by simpa using hx)).trans e⟩
 ·exact⟨o,(sb.2 b (by simpa using hx)).trans e⟩
 ·have:b=C:=by simpa using hb
  subst this
  exact⟨f3,f1,f4,f5⟩
theorem nO{X:Cx}{iter elt:Expr}{ifs:List Expr}{x y:Str}{px py pos spos:Pos}{scope:Scope}(M:List Str){i:Nat}{wi:TI}{tc:CB→TT}{te:CB→TE}(hc:X.calm=true)(hN:X.N.Nodup)(hiy:X.N[i]?=some y)(hy:c5 X.env.scope y)(hi:PI X (.Name x px) iter wi)(hif:∀b:CB,dD (X.comp (M++[x]) scope b) ifs (tc b))(he:∀b:CB,PE (X.comp (M++[x]) scope b) elt (te b))(hsw:swapsWith (.ListComp elt [⟨.Name x px,iter,ifs,0⟩] scope pos) (some (.Name y py)) spos.line X.env=pure true:=by rfl)
 (ok:dN X.env.scope scope x M X.N=true:=by kernel_rfl)
 (hs:∀x,foldedSetIterable iter X.env x=pure x:=by intro _;rfl)
 (hf:X.fn y=true∨X.env.scope.names.lookup y=some .local:=by first | exact .inl rfl | exact .inr rfl | assumption):
 PS X (.Assign [.Name y py] (.ListComp elt [⟨.Name x px,iter,ifs,0⟩] scope pos) spos) (dM (iu wi tc te) (cr i)):=by
 intro pins s σ H D I h
 rw[exec_Assign_Name_used _ _ _ _ hsw];refine wpAny_bind (wpAny_standAt (wpAny_bind ?_))
 show wpAny _ X.A (do let _←comprehension (.ListComp elt [⟨.Name x px,iter,ifs,0⟩] scope pos) scope X.env _ (newList []) false (eval iter X.env) (some (assign (.Name y py) X.env))) _ _ s
 refine wpAny_bind (wpAny_mono (iJ M (use:=some (assign (.Name y py) X.env)) (R:=fun _ s'=>_) I h (fun D' C m s' H' hn f hI q=>?_) hc hi hif he ok hs) (fun _ s' hq=>wpAny_pure (wpAny_pure hq)) fun _ _ e=>e)
 have I':Inv X pins σ H' s':=hI s'.heap ⟨rfl,fun _ _=>rfl⟩
 show wpAny _ X.A (assign (.Name y py) X.env (.ref D')) _ _ _
 refine wpAny_assign_Name (jI (v:=.ref D') I' hN hiy hy rfl (fun s2 I2 ⟨a,sb,ha⟩=>?_) hf)
 have hCa:C≠a:=by
  obtain⟨f0,f1,f2,f3,f4,f5⟩:=f
  rintro rfl
  rcases ha with z | z
  ·exact f1 z
  ·exact f4 _ _ z rfl
 exact⟨m,hn.sameBut sb hCa,fun h' sb'=>⟨_,H',I2.butC f sb',q⟩⟩
theorem jn{lo:Int}{n:Nat}{tc:TT}{te:TE}{σ:St}{H1:Hp}{Q:Hp→Prop}{D:Addr}(Pv:Nat→List V→Hp→Prop)(hn:n<sizeLine)(h0:Pv 0 [] (upd H1 D (.lst [])))(hl:∀i ys H,Pv i ys H→ys.length≤i)(hs:∀i ys H,i<n→Pv i ys H→tc (σ++[some (.int (lo+i))]) H fun b H2=>if b=true then te (σ++[some (.int (lo+i))]) H2 fun v H3=>H3 D=some (.lst ys)∧Pv (i+1) (ys++[v]) (upd H3 D (.lst (ys++[v]))) else Pv (i+1) ys H2)
 (hd:∀ys H,Pv n ys H→Q H):
 ∃ W:Nat→Nat→List V→Hp→Prop,(∃m,W 0 m [] (upd H1 D (.lst [])))∧
   ∀ i m ys H,W i m ys H→((bK lo n).stop i H∧Q H)∨((bK lo n).go i H∧ys.length<sizeLine∧∃N:List V→Hp→Prop,(∀ys' H',N ys' H'→∃m',m'<m∧W (i+1) m' ys' H')∧∀x H',(bK lo n).yld i H x H'→tc (σ++[some x]) H' fun b H2=>
     if b=true then te (σ++[some x]) H2 fun v H3=>H3 D=some (.lst ys)∧N (ys++[v]) (upd H3 D (.lst (ys++[v]))) else N ys H2):=by
 refine⟨fun i m ys H=>m=n-i∧i≤n∧Pv i ys H,⟨n,by simp,Nat.zero_le _,h0⟩,?_⟩
 rintro i m ys H ⟨rfl,hi,p⟩
 by_cases hlt:i<n
 ·refine .inr ⟨hlt,Nat.lt_of_le_of_lt (hl i ys H p) (Nat.lt_trans hlt hn),Pv (i+1),fun ys' H' p'=>⟨n-(i+1),by lia,rfl,hlt,p'⟩,fun x H' y=>?_⟩
  obtain⟨e,y⟩:=y
  subst e y
  exact hs i ys _ hlt p
 ·have e:i=n:=by lia
  subst e
  exact .inl ⟨Nat.le_refl _,hd ys H p⟩
theorem eV{K:PySem.W.Frag}{a:Addr}{xs:List V}{tc:TT}{te:TE}{σ:St}{H1:Hp}{Q:Hp→Prop}{D:Addr}(Pv:Nat→List V→Hp→Prop)(hn:xs.length<sizeLine)(h0:Pv 0 [] (upd H1 D (.lst [])))(hl:∀i ys H,Pv i ys H→ys.length≤i)(hq:∀i ys H,i≤xs.length→Pv i ys H→SqL K H a xs)(hs:∀i x ys H,xs[i]?=some x→Pv i ys H→tc (σ++[some x]) H fun b H2=>if b=true then te (σ++[some x]) H2 fun v H3=>H3 D=some (.lst ys)∧Pv (i+1) (ys++[v]) (upd H3 D (.lst (ys++[v]))) else Pv (i+1) ys H2)
 (hd:∀ys H,Pv xs.length ys H→Q H):
 ∃ W:Nat→Nat→List V→Hp→Prop,(∃m,W 0 m [] (upd H1 D (.lst [])))∧
   ∀ i m ys H,W i m ys H→((bV K a).stop i H∧Q H)∨((bV K a).go i H∧ys.length<sizeLine∧∃N:List V→Hp→Prop,(∀ys' H',N ys' H'→∃m',m'<m∧W (i+1) m' ys' H')∧∀x H',(bV K a).yld i H x H'→tc (σ++[some x]) H' fun b H2=>
     if b=true then te (σ++[some x]) H2 fun v H3=>H3 D=some (.lst ys)∧N (ys++[v]) (upd H3 D (.lst (ys++[v]))) else N ys H2):=by
 refine⟨fun i m ys H=>m=xs.length-i∧i≤xs.length∧Pv i ys H,⟨xs.length,by simp,Nat.zero_le _,h0⟩,?_⟩
 rintro i m ys H ⟨rfl,hi,p⟩
 have q:=hq i ys H hi p
 by_cases hlt:i<xs.length
 ·refine .inr ⟨⟨xs,xs[i],q,by simp[hlt]⟩,Nat.lt_of_le_of_lt (hl i ys H p) (Nat.lt_trans hlt hn),Pv (i+1),fun ys' H' p'=>⟨xs.length-(i+1),by lia,rfl,hlt,p'⟩,fun x H' y=>?_⟩
  obtain⟨e,y⟩:=y
  subst e
  exact hs i x ys _ (y xs q) p
 ·have e:i=xs.length:=by lia
  subst e
  exact .inl ⟨⟨xs,q,Nat.le_refl _⟩,hd ys H p⟩
mutual
def DatV(K:PySem.W.Frag)(H:Hp):PyData→V→Prop
 | .none,v=>v=.non
 | .bool b,v=>v=.bl b
 | .int i,v=>v=.int i
 | .str x,v=>v=.str x∧PyData.strOk x=true
 | .list ds,v=>∃a xs,v=.ref a∧SqL K H a xs∧DatVs K H ds xs
 | .tuple ds,v=>∃a xs,v=.ref a∧SqT K H a xs∧DatVs K H ds xs
 | .dict _,_=>False
def DatVs(K:PySem.W.Frag)(H:Hp):List PyData→List V→Prop
 | [],xs=>xs=[]
 | d::ds,xs=>∃x r,xs=x::r∧DatV K H d x∧DatVs K H ds r
end
section
variable{X:Cx}{pins:List (Addr×Obj)}{σ:St}{H:Hp}{s:Shared}
mutual
theorem DatV.reads(I:Inv X pins σ H s):∀(d:PyData) (v:V) (u:Value),DatV X.K H d v→RelV v u→(∃as,Reads s.heap u d as)∧d.canLay0=true
 | .none,v,u,h,r=>by
   rw[DatV] at h;subst h;cases r;exact⟨⟨_,.none⟩,by simp[PyData.canLay0]⟩
 | .bool b,v,u,h,r=>by
   rw[DatV] at h;subst h;cases r;exact⟨⟨_,.bool b⟩,by simp[PyData.canLay0]⟩
 | .int i,v,u,h,r=>by
   rw[DatV] at h;subst h;obtain⟨t,rfl⟩:=r;exact⟨⟨_,.int i t⟩,by simp[PyData.canLay0]⟩
 | .str x,v,u,h,r=>by
   rw[DatV] at h;obtain⟨h,hx⟩:=h;subst h;obtain⟨t,rfl⟩:=r;exact⟨⟨_,.str x t⟩,by simp[PyData.canLay0,hx]⟩
 | .list ds,v,u,h,r=>by
   rw[DatV] at h;obtain⟨a,xs,rfl,hq,hd⟩:=h
   cases r
   obtain⟨its,rv,p,hz⟩:=I.list hq
   obtain⟨⟨as,ra⟩,cl⟩:=DatVs.reads I ds xs its hd rv
   obtain⟨o,ho,hc,n,hdt⟩:=p.isList
   exact⟨⟨_,.list ho hc hdt (by simpa using ra)⟩,by rw[PyData.canLay0];exact cl⟩
 | .tuple ds,v,u,h,r=>by
   rw[DatV] at h;obtain⟨a,xs,rfl,hq,hd⟩:=h
   cases r
   obtain⟨its,rv,p,hz⟩:=I.tuple hq
   obtain⟨⟨as,ra⟩,cl⟩:=DatVs.reads I ds xs its hd rv
   obtain⟨o,ho,hc,n,hdt⟩:=p
   exact⟨⟨_,.tuple ho hc hdt (by simpa using ra)⟩,by rw[PyData.canLay0];exact cl⟩
 | .dict _,v,u,h,r=>by rw[DatV] at h;exact h.elim
theorem DatVs.reads(I:Inv X pins σ H s):∀(ds:List PyData) (vs:List V) (us:List Value),DatVs X.K H ds vs→Vals vs us→(∃as,ReadsAll s.heap us ds as)∧PyData.canLayAll0 ds=true
 | [],vs,us,h,r=>by
   rw[DatVs] at h;subst h;cases r;exact⟨⟨_,.nil⟩,by simp[PyData.canLayAll0]⟩
 | d::ds,vs,us,h,r=>by
   rw[DatVs] at h;obtain⟨x,rr,rfl,h1,h2⟩:=h
   cases r with
   | cons r1 r2=>
     obtain⟨⟨as,ra⟩,ca⟩:=DatV.reads I d x _ h1 r1
     obtain⟨⟨bs,rb⟩,cb⟩:=DatVs.reads I ds rr _ h2 r2
     exact⟨⟨_,.cons ra rb⟩,by rw[PyData.canLayAll0,ca,cb];rfl⟩
end
def fk(K:PySem.W.Frag)(neg:Bool):R2:=fun x y H Q=>∃da db,DatV K H da x∧DatV K H db y∧min da.depth db.depth≤64∧Q (.bl (if neg then !PyData.eqv da db else PyData.eqv da db)) H
theorem kM{k:Nat}(hr:Room k X.A):OpR X (compareOp .Eq) (fk X.K false):=by
 intro pins s σ H x y v u Q I rx ry h
 obtain⟨da,db,h1,h2,hd,q⟩:=h
 obtain⟨⟨as,ra⟩,ca⟩:=DatV.reads I da x v h1 rx
 obtain⟨⟨bs,rb⟩,cb⟩:=DatV.reads I db y u h2 ry
 exact SeqAt.compareEq_reads ra rb ca cb (by have:=hr.units;lia) ⟨.bl _,H,I,rfl,q⟩
theorem ol{k:Nat}(hr:Room k X.A):OpR X (compareOp .NotEq) (fk X.K true):=by
 intro pins s σ H x y v u Q I rx ry h
 obtain⟨da,db,h1,h2,hd,q⟩:=h
 obtain⟨⟨as,ra⟩,ca⟩:=DatV.reads I da x v h1 rx
 obtain⟨⟨bs,rb⟩,cb⟩:=DatV.reads I db y u h2 ry
 exact SeqAt.compareNe_reads ra rb ca cb (by have:=hr.units;lia) ⟨.bl _,H,I,rfl,q⟩
end
theorem j9{K:PySem.W.Frag}{H:Hp}:∀ns:List Int,DatVs K H (ns.map PyData.int) (ns.map V.int)
 | []=>by simp[DatVs]
 | n::ns=>by
   rw[List.map_cons,List.map_cons,DatVs]
   exact⟨_,_,rfl,by rw[DatV],j9 ns⟩
theorem kF{K:PySem.W.Frag}{H:Hp}{a:Addr}{ns:List Int}(h:SqL K H a (ns.map V.int)):DatV K H (.list (ns.map PyData.int)) (.ref a):=by
 rw[DatV];exact⟨a,_,rfl,h,j9 ns⟩
abbrev aC(c:Nat):Str:=⟨#[c]⟩
abbrev sg(c:Nat):V:=.str (aC c)
theorem jV{K:PySem.W.Frag}{H:Hp}:∀cs:List Nat,(∀c∈cs,c<0x110000)→DatVs K H (cs.map fun c=>PyData.str (aC c)) (cs.map sg)
 | [],_=>by simp[DatVs]
 | c::cs,h=>by
   rw[List.map_cons,List.map_cons,DatVs]
   refine⟨_,_,rfl,?_,jV cs fun c hc=>h c (List.mem_cons_of_mem _ hc)⟩
   rw[DatV]
   exact⟨rfl,by simp[PyData.strOk,h c List.mem_cons_self]⟩
theorem jJ{K:PySem.W.Frag}{H:Hp}{a:Addr}{cs:List Nat}(h:SqL K H a (cs.map sg))(hc:∀c∈cs,c<0x110000):DatV K H (.list (cs.map fun c=>PyData.str (aC c))) (.ref a):=by
 rw[DatV];exact⟨a,_,rfl,h,jV cs hc⟩
theorem iH:∀ns:List Int,PyData.depthAll (ns.map PyData.int)≤1
 | []=>by simp[PyData.depthAll]
 | n::ns=>by
   have:=iH ns
   rw[List.map_cons,PyData.depthAll]
   simp only[PyData.depth]
   lia
theorem iN:∀cs:List Nat,PyData.depthAll (cs.map fun c=>PyData.str (aC c))≤1
 | []=>by simp[PyData.depthAll]
 | c::cs=>by
   have:=iN cs
   rw[List.map_cons,PyData.depthAll]
   simp only[PyData.depth]
   lia
theorem rO(ns:List Int):(PyData.list (ns.map PyData.int)).depth≤2:=by
 have:=iH ns
 rw[PyData.depth];lia
theorem nt(cs:List Nat):(PyData.list (cs.map fun c=>PyData.str (aC c))).depth≤2:=by
 have:=iN cs
 rw[PyData.depth];lia
theorem lF:∀ns ms:List Int,PyData.eqvAll (ns.map PyData.int) (ms.map PyData.int)=decide (ns=ms)
 | [],[]=>by simp[PyData.eqvAll]
 | [],_::_=>by simp[PyData.eqvAll]
 | _::_,[]=>by simp[PyData.eqvAll]
 | n::ns,m::ms=>by
   rw[List.map_cons,List.map_cons,PyData.eqvAll,lF ns ms]
   rw[PyData.eqv,Bool.beq_eq_decide_eq]
   simp
theorem qO{a b:Nat}:(aC a == aC b)=decide (a=b):=by
 by_cases h:a=b
 ·subst h;simp
 ·have:aC a≠aC b:=fun e=>h (by simpa [aC] using e)
  simp[h,this]
theorem jd:∀cs ds:List Nat,PyData.eqvAll (cs.map fun c=>PyData.str (aC c)) (ds.map fun c=>PyData.str (aC c))=decide (cs=ds)
 | [],[]=>by simp[PyData.eqvAll]
 | [],_::_=>by simp[PyData.eqvAll]
 | _::_,[]=>by simp[PyData.eqvAll]
 | c::cs,d::ds=>by
   rw[List.map_cons,List.map_cons,PyData.eqvAll,jd cs ds,PyData.eqv,qO]
   simp
theorem qp(ns ms:List Int):PyData.eqv (.list (ns.map PyData.int)) (.list (ms.map PyData.int))=decide (ns=ms):=by rw[PyData.eqv,lF]
theorem qG(cs ds:List Nat):PyData.eqv (.list (cs.map fun c=>PyData.str (aC c))) (.list (ds.map fun c=>PyData.str (aC c)))=decide (cs=ds):=by rw[PyData.eqv,jd]
def rEqI(K:PySem.W.Frag)(neg:Bool):R2:=fun x y H Q=>∃(a b:Addr) (ns ms:List Int),x=.ref a∧y=.ref b∧SqL K H a (ns.map V.int)∧SqL K H b (ms.map V.int)∧Q (.bl (if neg then !decide (ns=ms) else decide (ns=ms))) H
def rEqS(K:PySem.W.Frag)(neg:Bool):R2:=fun x y H Q=>∃(a b:Addr) (cs ds:List Nat),x=.ref a∧y=.ref b∧SqL K H a (cs.map sg)∧SqL K H b (ds.map sg)∧(∀c∈cs,c<0x110000)∧(∀c∈ds,c<0x110000)∧Q (.bl (if neg then !decide (cs=ds) else decide (cs=ds))) H
section
variable{X:Cx}{k:Nat}
theorem OpR.imp{f:Value→Value→Sem Value}{r r':R2}(h:OpR X f r)(i:∀x y H Q,r' x y H Q→r x y H Q):OpR X f r':=fun pins s σ H x y v u Q I rx ry q=>h pins s σ H x y v u Q I rx ry (i _ _ _ _ q)
theorem rEqI.toD{K:PySem.W.Frag}{neg:Bool}:∀x y H Q,rEqI K neg x y H Q→fk K neg x y H Q:=by
 rintro x y H Q ⟨a,b,ns,ms,rfl,rfl,h1,h2,q⟩
 refine⟨_,_,kF h1,kF h2,Nat.le_trans (Nat.min_le_left _ _) (Nat.le_trans (rO ns) (by decide)),?_⟩
 rw[qp]
 exact q
theorem rEqS.toD{K:PySem.W.Frag}{neg:Bool}:∀x y H Q,rEqS K neg x y H Q→fk K neg x y H Q:=by
 rintro x y H Q ⟨a,b,ns,ms,rfl,rfl,h1,h2,c1,c2,q⟩
 refine⟨_,_,jJ h1 c1,jJ h2 c2,Nat.le_trans (Nat.min_le_left _ _) (Nat.le_trans (nt ns) (by decide)),?_⟩
 rw[qG]
 exact q
theorem qX(hr:Room k X.A):OpR X (compareOp .Eq) (rEqI X.K false):=(kM hr).imp rEqI.toD
theorem dq(hr:Room k X.A):OpR X (compareOp .Eq) (rEqS X.K false):=(kM hr).imp rEqS.toD
theorem pM(hr:Room k X.A):OpR X (compareOp .NotEq) (rEqS X.K true):=(ol hr).imp rEqS.toD
theorem kT:OpR X (compareOp .LtE) (fun x y H Q=>∃i j,x=.str i∧y=.str j∧Q (.bl (!decide (j.cps.toList<i.cps.toList))) H):=by
 intro pins s σ H x y v u Q I rx ry h
 obtain⟨i,j,rfl,rfl,q⟩:=h
 obtain⟨t,rfl⟩:=rx
 obtain⟨t',rfl⟩:=ry
 exact PySem.P.le_str ⟨.bl _,H,I,rfl,q⟩
theorem nc:bo X (.builtin "isinstance") (fun xs H Q=>∃x t c b,xs=[x,.ty c]∧TyOf X.K H x t∧PySem.W.kitOne X.K t (.type c)=some b∧Q (.bl b) H):=by
 intro pins s σ H xs us Q I r h
 obtain⟨x,t,c,b,rfl,ty,e,q⟩:=h
 obtain⟨u,u',rfl,rx,rc⟩:=lA r
 cases rc
 exact qx I rx ty e fun tk=>⟨.bl b,H,I.tok tk,rfl,q⟩
end
structure Fn(P:Program)(w:World)(K:PySem.W.Frag)(mg:Str→Option Value)(base:Heap)(CX:be)(x:Str)(k:Nat)(ps:List Str)(sp:Sp):Prop where
 ex:∃f fd,FnOk P w K mg base CX k f fd ps sp∧mg x=some (.ref f)∧PySem.W.keepIn K (.ref f)=true∧Binds K fd ps []∧∃oc od osl,K.lookup f=some ⟨oc,od,.func fd,osl⟩
theorem am{X:Cx}{CX:be}{k j:Nat}{ps:List Str}{sp:Sp}{E:XK}{x:Str}{p pos:Pos}{e:Expr}{es:List Expr}{t:TA}(F:Fn X.prog X.w X.K X.mg X.base CX x k ps sp)(hr:Room j X.A)(hx:eW CX X E)(ha:PA X (e::es) t)(hg:Gl X x:=by rfl)(hj:k≤j:=by decide)
 (hdb:(x == ("__debug__":Str))=false:=by decide)(he:starEach (e::es) X.env=(false,eval e X.env)::starEach es X.env:=by rfl)(hpl:(backTo pos (starEach es X.env)).any (·.1)=false:=by rfl):
 PE X (.Call (.Name x p) (e::es) [] pos) (kJ sp [] E t):=by
 obtain⟨f,fd,F,hm,hk,hb,_⟩:=F.ex
 exact pG F (hr.mono hj) hg hm hk hb .nil hx ha hdb he hpl
structure FF(K:PySem.W.Frag)(x:Str)(st:Stmt):Prop where
 ex:∃(f:Addr) (oc:Value) (od an:Option Addr) (osl:Array (Option Value)) (kV doc pm cdv ct:Value),PySem.W.nsIn K mainGlobals x=some (some (.ref f))∧
  K.lookup f=some ⟨oc,od,.func (PySem.W.fnOf x x (bA st) (bd st) (ar st) .none kV doc pm an cdv ct),osl⟩∧PySem.W.codeIn K cdv x=true∧PySem.W.keepIn K (.ref f)=true
theorem ff_mk{K:PySem.W.Frag}{x:Str}{st:Stmt}{f:Addr}{oc:Value}{od an:Option Addr}{osl:Array (Option Value)}{kV doc pm cdv ct:Value}(a:PySem.W.nsIn K mainGlobals x=some (some (.ref f)))(l:K.lookup f=some ⟨oc,od,.func (PySem.W.fnOf x x (bA st) (bd st) (ar st) .none kV doc pm an cdv ct),osl⟩)(c:PySem.W.codeIn K cdv x=true)(k:PySem.W.keepIn K (.ref f)=true):FF K x st:=⟨f,oc,od,an,osl,kV,doc,pm,cdv,ct,a,l,c,k⟩
structure Md(K:PySem.W.Frag)(mg:Str→Option Value):Prop where
 ns:∀x v,PySem.W.nsIn K mainGlobals x=some v→mg x=v
theorem nM{K:PySem.W.Frag}{h:Heap}{mg:Str→Option Value}(X:K.In h)(G:h.Ns mainGlobals mg):Md K mg:=⟨fun x v e=>by
 cases v with
 | none=>exact PySem.W.mg_none_of X G e
 | some u=>exact PySem.W.mg_of X G e⟩
theorem aQ{P:Program}{w:World}{K:PySem.W.Frag}{mg:Str→Option Value}{base:Heap}{x:Str}{st:Stmt}{N ps:List Str}{k:Nat}{sp:Sp}(M:Md K mg)(F:FF K x st)(S:FnScope N ps (ar st))(hbind:∀(kV doc pm:Value) (an:Option Addr) (cdv ct:Value) (us:List Value),us.length=ps.length→bindArgs (PySem.W.fnOf x x (bA st) (bd st) (ar st) .none kV doc pm an cdv ct) ⟨us,[]⟩=pure (ps.zip us))(len:∀vs H Q E,sp vs H Q E→vs.length=ps.length)(hbody:∀(f:Addr) (cdv:Value) (A:Around) (outer:List Env) (s:Shared) (H:Hp) (vs:List V) (Q:VK) (E:XK),Room k (A.deeper (envOfC x (ar st) s.heap.objs.size f cdv))→sp vs H Q E→∃t,PSs (bE ad P w K mg base N x (ar st) f cdv A outer s H E).nox (bd st) t∧t {nx:=fun _ H'=>Q .non H',rt:=Q} (bI N vs) H):Fn P w K mg base ad x (k+1) ps sp:=by
 obtain⟨f,oc,od,an,osl,kV,doc,pm,cdv,ct,a,l,c,kk⟩:=F.ex
 have F1:=kZ (st:=st) l c kk
 exact⟨f,_,F1.ok S len (fun cdv A outer s H vs Q E hr h=>hbody f cdv A outer s H vs Q E hr h),M.ns _ _ a,kk,F1.binds hbind,oc,od,osl,l⟩
structure Bl(mg:Str→Option Value):Prop where
 max:mg "max"=none
 int:mg "int"=none
 len:mg "len"=none
 range:mg "range"=none
 list:mg "list"=none
 isinst:mg "isinstance"=none
 bool:mg "bool"=none
 str:mg "str"=none
 tuple:mg "tuple"=none
 rev:mg "reversed"=none
 zip:mg "zip"=none
 min:mg "min"=none
 sum:mg "sum"=none
 enumerate:mg "enumerate"=none
 dict:mg "dict"=none
theorem bl_of{K:PySem.W.Frag}{mg:Str→Option Value}(M:Md K mg)(b1:PySem.W.nsIn K mainGlobals "max"=some none)(b2:PySem.W.nsIn K mainGlobals "int"=some none)(b3:PySem.W.nsIn K mainGlobals "len"=some none)(b4:PySem.W.nsIn K mainGlobals "range"=some none)(b5:PySem.W.nsIn K mainGlobals "list"=some none)(b6:PySem.W.nsIn K mainGlobals "isinstance"=some none)(b7:PySem.W.nsIn K mainGlobals "bool"=some none)(b8:PySem.W.nsIn K mainGlobals "str"=some none)(b9:PySem.W.nsIn K mainGlobals "tuple"=some none)(b10:PySem.W.nsIn K mainGlobals "reversed"=some none)(b11:PySem.W.nsIn K mainGlobals "zip"=some none)(b12:PySem.W.nsIn K mainGlobals "min"=some none)(b13:PySem.W.nsIn K mainGlobals "sum"=some none)(b14:PySem.W.nsIn K mainGlobals "enumerate"=some none)(b15:PySem.W.nsIn K mainGlobals "dict"=some none):Bl mg:=
 ⟨M.ns _ _ b1,M.ns _ _ b2,M.ns _ _ b3,M.ns _ _ b4,M.ns _ _ b5,M.ns _ _ b6,M.ns _ _ b7,M.ns _ _ b8,M.ns _ _ b9,M.ns _ _ b10,M.ns _ _ b11,M.ns _ _ b12,M.ns _ _ b13,M.ns _ _ b14,M.ns _ _ b15⟩
def Keep(p:Addr)(H H':Hp):Prop:=∀b o,H b=some o→b≠p→H' b=some o
theorem Keep.upd{p:Addr}{H:Hp}{o:HO}:Keep p H (upd H p o):=fun c u h n=>by rw[ao n];exact h
theorem Same.upd{H:Hp}{p:Addr}{o:HO}(h:H p=none):Same H (upd H p o):=fun c u e=>by rw[ao (aK e h)];exact e
theorem pZ:bootBuiltins "max"=some (.builtin "max"):=by decide+kernel
theorem pK:bootBuiltins "sum"=some (.builtin "sum"):=by decide+kernel
theorem kG:bootBuiltins "len"=some (.builtin "len"):=by decide+kernel
theorem lR:bootBuiltins "isinstance"=some (.builtin "isinstance"):=by decide+kernel
theorem qJ:bootBuiltins "int"=some (.type "int"):=by decide+kernel
theorem mh:bootBuiltins "str"=some (.type "str"):=by decide+kernel
theorem jZ:bootBuiltins "list"=some (.type "list"):=by decide+kernel
theorem mS:bootBuiltins "reversed"=some (.type "reversed"):=by decide+kernel
section
variable{X:Cx}{e e2:Expr}{te te2:TE}{p p2 pos:Pos}
theorem PE.imp{t t':TE}(h:PE X e t)(i:∀σ H Q,t' σ H Q→t σ H Q):PE X e t':=fun pins s σ H Q I q=>h pins s σ H Q I (i σ H Q q)
def jO(K:PySem.W.Frag)(te:TE):TE:=fun σ H Q=>te σ H fun x H1=>∃a ys,x=.ref a∧SqL K H1 a ys∧Q (.int ys.length) H1
def qW(te:TE):TE:=fun σ H Q=>te σ H fun x H1=>∃z,x=.str z∧z.length≤sizeLine∧Q (.int z.length) H1
def lY(te te2:TE):TE:=fun σ H Q=>te σ H fun x H1=>te2 σ H1 fun y H2=>∃i j,x=.int i∧y=.int j∧Q (.int (if j>i then j else i)) H2
def jc(te:TE):TE:=fun σ H Q=>te σ H fun x H1=>∃k,x=.bl k∧Q (.int (if k then 1 else 0)) H1
def mZ(K:PySem.W.Frag)(te:TE):TE:=fun σ H Q=>te σ H fun x H1=>∃a ys,x=.ref a∧SqL K H1 a ys∧∀l,H1 l=none→Q (.ref l) (upd H1 l (.lst ys))
def p8(K:PySem.W.Frag)(c:String)(te:TE):TE:=fun σ H Q=>te σ H fun x H1=>∃t b,TyOf K H1 x t∧PySem.W.kitOne K t (.type c)=some b∧Q (.bl b) H1
def r1(r:V→Hp→VK→Prop):List V→Hp→VK→Prop:=fun xs H Q=>match xs with | [x]=>r x H Q | _=>False
def gN(r:V→V→Hp→VK→Prop):List V→Hp→VK→Prop:=fun xs H Q=>match xs with | [x,y]=>r x y H Q | _=>False
theorem cW{f:Value}{r:V→Hp→VK→Prop}(h:∀pins s σ H x us Q,Inv X pins σ H s→Vals [x] us→r x H Q→wpAny (model X.prog X.w) X.A (call f us) (EP X pins σ Q) X.xe s):bo X f (r1 r):=by
 intro pins s σ H xs us Q I rv q
 match xs,q with
 | [x],q=>exact h pins s σ H x us Q I rv q
theorem kQ{f:Value}{r:V→V→Hp→VK→Prop}(h:∀pins s σ H x y us Q,Inv X pins σ H s→Vals [x,y] us→r x y H Q→wpAny (model X.prog X.w) X.A (call f us) (EP X pins σ Q) X.xe s):bo X f (gN r):=by
 intro pins s σ H xs us Q I rv q
 match xs,q with
 | [x,y],q=>exact h pins s σ H x y us Q I rv q
theorem aT(hm:X.mg "len"=none)(ha:PE X e te)(hg:Gl X "len":=by rfl)(he:starEach [e] X.env=[(false,eval e X.env)]:=by rfl):PE X (.Call (.Name "len" p) [e] [] pos) (jO X.K te):=
 dC (r:=r1 fun x H Q=>∃a ys,x=.ref a∧SqL X.K H a ys∧Q (.int ys.length) H) (cW fun pins s σ H x us Q I rv ⟨a,ys,ex,h,q⟩=>qT pins s σ H _ us Q I rv ⟨a,ys,by rw[ex],.inl h,q⟩) hg hm kG (aa ha ab (by exact he)) (he:=by exact he)
theorem nj(hm:X.mg "len"=none)(ha:PE X e te)(hg:Gl X "len":=by rfl)(he:starEach [e] X.env=[(false,eval e X.env)]:=by rfl):PE X (.Call (.Name "len" p) [e] [] pos) (qW te):=
 dC (r:=r1 fun x H Q=>∃z,x=.str z∧z.length≤sizeLine∧Q (.int z.length) H) (cW fun pins s σ H x us Q I rv ⟨z,ex,h,q⟩=>oi pins s σ H _ us Q I rv ⟨z,by rw[ex],h,q⟩) hg hm kG (aa ha ab (by exact he)) (he:=by exact he)
theorem qe(hc:X.calm=true)(hm:X.mg "max"=none)(ha:PE X e te)(hb:PE X e2 te2)(hg:Gl X "max":=by rfl)(he:starEach [e,e2] X.env=[(false,eval e X.env),(false,eval e2 X.env)]:=by rfl)(he2:starEach [e2] X.env=[(false,eval e2 X.env)]:=by rfl):PE X (.Call (.Name "max" p) [e,e2] [] pos) (lY te te2):=
 dC (r:=gN fun x y H Q=>∃i j,x=.int i∧y=.int j∧Q (.int (if j>i then j else i)) H) (kQ fun pins s σ H x y us Q I rv ⟨i,j,ex,ey,q⟩=>oq hc pins s σ H _ us Q I rv ⟨i,j,by rw[ex,ey],q⟩) hg hm pZ (aa ha (aa hb ab (by exact he2)) (by rw[he,he2])) (he:=by rw[he,he2]) (hpl:=by rw[he2];rfl)
theorem ft(hm:X.mg "int"=none)(ha:PE X e te)(hg:Gl X "int":=by rfl)(he:starEach [e] X.env=[(false,eval e X.env)]:=by rfl):PE X (.Call (.Name "int" p) [e] [] pos) (jc te):=
 gK (r:=r1 fun x H Q=>∃k,x=.bl k∧Q (.int (if k then 1 else 0)) H) (cW fun pins s σ H x us Q I rv ⟨z,ex,q⟩=>rJ pins s σ H _ us Q I rv (.inr ⟨z,by rw[ex],q⟩)) hg hm qJ (aa ha ab (by exact he)) (he:=by exact he)
theorem mN(hm:X.mg "list"=none)(ha:PE X e te)(hg:Gl X "list":=by rfl)(he:starEach [e] X.env=[(false,eval e X.env)]:=by rfl):PE X (.Call (.Name "list" p) [e] [] pos) (mZ X.K te):=
 gK (r:=r1 fun x H Q=>∃a ys,x=.ref a∧SqL X.K H a ys∧∀l,H l=none→Q (.ref l) (upd H l (.lst ys))) (cW fun pins s σ H x us Q I rv ⟨a,ys,ex,h,q⟩=>mq pins s σ H _ us Q I rv ⟨a,ys,by rw[ex],.inl h,q⟩) hg hm jZ (aa ha ab (by exact he)) (he:=by exact he)
theorem q9{T:Str}{c:String}(hm:X.mg "isinstance"=none)(hT:X.mg T=none)(hb:bootBuiltins T=some (.type c))(ha:PE X e te)(hg:Gl X "isinstance":=by rfl)(hgT:Gl X T:=by rfl)(he:starEach [e,.Name T p2] X.env=[(false,eval e X.env),(false,eval (.Name T p2) X.env)]:=by rfl)
 (hn:T≠"__name__":=by decide)(hd:(T == ("__debug__":Str))=false:=by decide):PE X (.Call (.Name "isinstance" p) [e,.Name T p2] [] pos) (p8 X.K c te):=
 dC (r:=gN fun x y H Q=>∃t b,y=.ty c∧TyOf X.K H x t∧PySem.W.kitOne X.K t (.type c)=some b∧Q (.bl b) H)
  (kQ fun pins s σ H x y us Q I rv ⟨t,b,ey,ty,ek,q⟩=>nc pins s σ H _ us Q I rv ⟨x,t,c,b,by rw[ey],ty,ek,q⟩) hg hm lR
  (aa ha (aa (qK (v:=.ty c) hgT hT hb rfl hn hd) ab) (by exact he)) (he:=by exact he) |>.imp fun σ H Q h=>by
   show te σ H fun x H1=>∃t b,V.ty c=.ty c∧_
   simp only[true_and]
   exact h
end
theorem eX(n d:Nat)(i:Int)(h:0≤i):HT.sIx n d (some i)=min i.toNat n:=by
 show(if i<0 then(i+(n:Int)).toNat else min i.toNat n)=min i.toNat n
 rw[if_neg (by lia)]
theorem rB{α:Type}(xs:List α)(k:Nat):xs.take (min k xs.length)=xs.take k:=by
 rcases Nat.le_total k xs.length with h | h
 ·rw[Nat.min_eq_left h]
 ·rw[Nat.min_eq_right h,List.take_length,List.take_of_length_le h]
theorem jh{α:Type}(xs:List α)(k:Nat):xs.drop (min k xs.length)=xs.drop k:=by
 rcases Nat.le_total k xs.length with h | h
 ·rw[Nat.min_eq_left h]
 ·rw[Nat.min_eq_right h,List.drop_length,List.drop_of_length_le h]
def bL{α:Type}(xs:List α)(lo hi:Option Int):List α:=(xs.drop (HT.sIx xs.length 0 lo)).take (HT.sIx xs.length xs.length hi-HT.sIx xs.length 0 lo)
theorem eY{α:Type}(xs:List α)(k:Int)(h:0≤k):bL xs none (some k)=xs.take k.toNat:=by
 unfold bL
 rw[eX _ _ _ h,HT.sIx_none,List.drop_zero,Nat.sub_zero,rB]
theorem gH{α:Type}(xs:List α)(k:Int)(h:0≤k):bL xs (some k) none=xs.drop k.toNat:=by
 unfold bL
 rw[eX _ _ _ h,HT.sIx_none,jh]
 exact List.take_of_length_le (by rw[List.length_drop];lia)
theorem oy{α:Type}(xs:List α)(i j:Int)(hi:0≤i)(hj:i≤j):bL xs (some i) (some j)=(xs.drop i.toNat).take (j.toNat-i.toNat):=by
 unfold bL
 rw[eX _ _ _ hi,eX _ _ _ (Int.le_trans hi hj),jh]
 rcases Nat.le_total j.toNat xs.length with h | h
 ·rw[Nat.min_eq_left h,Nat.min_eq_left (by lia)]
 ·rw[Nat.min_eq_right h]
  rcases Nat.le_total i.toNat xs.length with h' | h'
  ·rw[Nat.min_eq_left h',List.take_of_length_le (by rw[List.length_drop];lia),List.take_of_length_le (by rw[List.length_drop];lia)]
  ·rw[List.drop_of_length_le h'];simp
theorem bG{α β:Type}(f:α→β)(xs:List α)(lo hi:Option Int):bL (xs.map f) lo hi=(bL xs lo hi).map f:=by
 unfold bL
 rw[List.length_map,List.map_take,List.map_drop]
theorem bZ(xs:List V)(lo hi:Option Int):aS xs lo hi=bL xs lo hi:=rfl
theorem pO(n:Nat)(i:Int)(h0:0≤i)(h1:i<n):bP n i=some i.toNat:=by
 unfold bP
 rw[if_pos h0,if_pos h1]
theorem lU(cs:List Nat):(Str.length ⟨cs.toArray⟩)=cs.length:=by simp[Str.length]
def bU(K:PySem.W.Frag)(a:Addr)(xs:List V):It:=
 ⟨fun i H=>SqL K H a xs∧i<xs.length,fun i H x H'=>H'=H∧xs[xs.length-1-i]?=some x,fun i _=>xs.length≤i⟩
theorem lW{P:Program}{w:World}{K:PySem.W.Frag}{tg:Expr}(a it:Addr)(xs:List V):Turn P w K tg (bU K a xs) [it] it (fun i h=>i≤xs.length∧h.IsRevIter it a ((xs.length:Int)-1-(i:Int))) where
 mem:=by simp
 obj:=fun i h st b hb=>by
  have e:b=it:=by simpa using hb
  subst e
  obtain⟨o,e,c,d⟩:=st.2
  exact⟨o,e,fun v z=>by rw[d] at z;cases z⟩
 keep:=fun i h h' st k=>⟨st.1,st.2.at fun o e=>k it (by simp) o e⟩
 item:=by
  intro X hP hw hK hc i pins s σ H E I hf st hg
  subst hP hw hK
  obtain⟨hq,hx⟩:=hg
  obtain⟨its,rv,p,hz⟩:=I.list hq
  have hlt:xs.length-1-i<xs.length:=by lia
  obtain⟨u,hu,ru⟩:=rv.get (show xs[xs.length-1-i]?=some xs[xs.length-1-i] by simp[hlt])
  obtain⟨f0,f1,f2,f3,f4,f5⟩:=hf it (by simp)
  have e1:(xs.length:Int)-1-(i:Int)=((xs.length-1-i:Nat):Int):=by lia
  have hit:=st.2
  rw[e1] at hit
  refine wpAny_pyNext_rev_item hit p.isList (x:=u) (by simpa using hu) fun h' st' sb=>?_
  have e2:((xs.length-1-i:Nat):Int)-1=(xs.length:Int)-1-((i+1:Nat):Int):=by lia
  rw[e2] at st'
  have I1:Inv X pins σ H {s with heap:=h'}:=I.turned (t':=s.toks) (fun b o hb e=>(sb.2 b hb).trans e) f0 f1 f3 f4 f5
  obtain⟨o,e,c,d⟩:=id st'
  exact⟨u,rfl,fR (s:={s with heap:=h'}) e c d (by decide) ⟨_,H,I1,ru,⟨rfl,by simp[hlt]⟩,⟨hx,st'⟩,fun b hb=>(hf b hb).1⟩⟩
 done:=by
  intro X hP hw hK hc i pins s σ H E I hf st hg
  subst hP hw hK
  obtain⟨f0,f1,f2,f3,f4,f5⟩:=hf it (by simp)
  have hg':xs.length≤i:=hg
  have e1:(xs.length:Int)-1-(i:Int)= -1:=by have:=st.1;lia
  have hit:=st.2
  rw[e1] at hit
  exact wpAny_pyNext_rev_end (I.ok.hd hc) hit fun h' eb=>⟨rfl,I.turned (t':=s.toks) (fun b o hb e=>eb b o hb e) f0 f1 f3 f4 f5⟩
 self:=fun _ _ _ _ _ st h=>wpAny_pyIter_revIter st.2 h
def rn(K:PySem.W.Frag)(tl:TE):TI:=fun σ H R=>tl σ H fun x H1=>∃a xs,x=.ref a∧SqL K H1 a xs∧R (bU K a xs) H1
theorem ng{X:Cx}{tg e:Expr}{te:TE}{p pos:Pos}(hm:X.mg "reversed"=none)(he:PE X e te)(hg:Gl X "reversed":=by rfl)(hs:starEach [e] X.env=[(false,eval e X.env)]:=by rfl):PI X tg (.Call (.Name "reversed" p) [e] [] pos) (rn X.K te):=by
 intro pins s σ H R I h
 refine Call_ (bO I hg hm mS (PyProof.Rows.callWith_type1 (ah ((aa he ab (by exact hs)) pos pins s σ H (fun vs H1=>∃x,vs=[x]∧∃a xs,x=.ref a∧SqL X.K H1 a xs∧R (bU X.K a xs) H1) I ?_) fun us s1 ⟨vs,H1,I1,r1,q1⟩=>?_) hs rfl))
 ·show te σ H fun x H1=>∃x',[x]=[x']∧∃a xs,x'=.ref a∧SqL X.K H1 a xs∧R (bU X.K a xs) H1
  have e:(fun(x:V) (H1:Hp)=>∃x',[x]=[x']∧∃a xs,x'=V.ref a∧SqL X.K H1 a xs∧R (bU X.K a xs) H1)=fun x H1=>∃a xs,x=.ref a∧SqL X.K H1 a xs∧R (bU X.K a xs) H1:=by
   funext x H1
   apply propext
   constructor
   ·rintro⟨x',e,r⟩
    cases e
    exact r
   ·intro r
    exact⟨x,rfl,r⟩
  rw[e]
  exact h
 ·obtain⟨x,rfl,a,xs,rfl,hq,q⟩:=q1
  obtain⟨u,rfl,ru⟩:=cu r1
  cases ru
  obtain⟨its,rv,pl,hz⟩:=I1.list hq
  refine call_reversed_list pl.isList ?_
  have I2:Inv X pins σ H1 {s1 with heap:=s1.heap.push (revObj a ((its.toArray.size:Int)-1))}:=I1.kept (t':=s1.toks) fun b o e=>Heap.get?_push_of_some _ e
  have hl:=rv.length
  have st:({s1 with heap:=s1.heap.push (revObj a ((its.toArray.size:Int)-1))}:Shared).heap.IsRevIter s1.heap.objs.size a ((xs.length:Int)-1-((0:Nat):Int)):=by
   refine⟨_,Heap.get?_push_size _ rfl,rfl,?_⟩
   have:(its.toArray.size:Int)-1=(xs.length:Int)-1-((0:Nat):Int):=by simp;lia
   rw[←this];rfl
  refine wpAny_pyIter_revIter st ?_
  refine⟨s1.heap.objs.size,[s1.heap.objs.size],_,_,H1,rfl,I2,lW a _ xs,⟨Nat.zero_le _,st⟩,fun b hb=>?_,q⟩
  have e:b=s1.heap.objs.size:=by simpa using hb
  subst e
  exact I1.fpOk (Nat.le_refl _) (I1.hok.fresh (Nat.le_refl _))
theorem oF{K:PySem.W.Frag}{a:Addr}{xs:List V}{tc:TT}{te:TE}{σ:St}{H1:Hp}{Q:Hp→Prop}{D:Addr}(Pv:Nat→List V→Hp→Prop)(hn:xs.length<sizeLine)(h0:Pv 0 [] (upd H1 D (.lst [])))(hl:∀i ys H,Pv i ys H→ys.length≤i)(hq:∀i ys H,i≤xs.length→Pv i ys H→SqL K H a xs)(hs:∀i x ys H,xs[xs.length-1-i]?=some x→i<xs.length→Pv i ys H→tc (σ++[some x]) H fun b H2=>if b=true then te (σ++[some x]) H2 fun v H3=>H3 D=some (.lst ys)∧Pv (i+1) (ys++[v]) (upd H3 D (.lst (ys++[v]))) else Pv (i+1) ys H2)
 (hd:∀ys H,Pv xs.length ys H→Q H):
 ∃ W:Nat→Nat→List V→Hp→Prop,(∃m,W 0 m [] (upd H1 D (.lst [])))∧
   ∀ i m ys H,W i m ys H→((bU K a xs).stop i H∧Q H)∨((bU K a xs).go i H∧ys.length<sizeLine∧∃N:List V→Hp→Prop,(∀ys' H',N ys' H'→∃m',m'<m∧W (i+1) m' ys' H')∧∀x H',(bU K a xs).yld i H x H'→tc (σ++[some x]) H' fun b H2=>
     if b=true then te (σ++[some x]) H2 fun v H3=>H3 D=some (.lst ys)∧N (ys++[v]) (upd H3 D (.lst (ys++[v]))) else N ys H2):=by
 refine⟨fun i m ys H=>m=xs.length-i∧i≤xs.length∧Pv i ys H,⟨xs.length,by simp,Nat.zero_le _,h0⟩,?_⟩
 rintro i m ys H ⟨rfl,hi,p⟩
 have q:=hq i ys H hi p
 by_cases hlt:i<xs.length
 ·refine .inr ⟨⟨q,hlt⟩,Nat.lt_of_le_of_lt (hl i ys H p) (Nat.lt_trans hlt hn),Pv (i+1),fun ys' H' p'=>⟨xs.length-(i+1),by lia,rfl,hlt,p'⟩,fun x H' y=>?_⟩
  obtain⟨e,y⟩:=y
  subst e
  exact hs i x ys _ y hlt p
 ·have e:i=xs.length:=by lia
  subst e
  exact .inl ⟨Nat.le_refl _,hd ys H p⟩
theorem eh{σ:St}{H:Hp}{A B:Hp→Prop}(h:A H):jW σ H fun b H2=>if b=true then A H2 else B H2:=by
 show if true=true then A H else B H
 rw[if_pos rfl]
 exact h
section
variable{X:Cx}{a b e:Expr}{aw:List Expr}{ta tb te:TE}{p pos:Pos}
end
def FW(J:It)(g:TG)(tb:TS)(D:Ends)(σ:St)(H1:Hp):Prop:=∃W:Nat→Nat→St→Hp→Prop,(∃m,W 0 m σ H1)∧∀i m σ H,W i m σ H→
 (J.stop i H∧D.nx σ H)∨(J.go i H∧∃N:St→Hp→Prop,(∀σ' H',N σ' H'→∃m',m'<m∧W (i+1) m' σ' H')∧∀x H',J.yld i H x H'→g x σ H' fun σ2 H2=>tb {D with nx:=N,ct:=N,bk:=D.nx} σ2 H2)
theorem rz{wi:TI}{g:TG}{tb aw:TS}{D:Ends}{σ:St}{H:Hp}(h:wi σ H fun J H1=>FW J g tb {D with nx:=aw D} σ H1):d8 (jz wi g tb) aw D σ H:=h
def nF(i j:Int):Prop:=0<j∧j<1000000000000000000000000000000000000000000000000000000000000
theorem dU{X:Cx}:OpR X (binaryOp .FloorDiv) (rI nF fun i j=>.int (i / j)):=fh fun i j _ _ _ _ _ hc q=>by
 have hn:j.natAbs.log2<9000:=by
  have h0:j.natAbs≠0:=by have:=hc.1;lia
  rw[Nat.log2_lt h0]
  have h1:j.natAbs<1000000000000000000000000000000000000000000000000000000000000:=by have:=hc.1;have:=hc.2;lia
  exact Nat.lt_of_lt_of_le h1 (Nat.le_trans (show 1000000000000000000000000000000000000000000000000000000000000≤2 ^ 200 by decide) (Nat.pow_le_pow_right (by decide) (by decide)))
 refine floordiv_int (by have:=hc.1;lia) ?_ (.inl (PyProof.noPylong_of_log2 hn))
 rw[Int.fdiv_eq_ediv_of_nonneg _ (by have:=hc.1;lia)]
 exact q
theorem Inv.turnLaid{X:Cx}{pins:List (Addr×Obj)}{σ:St}{H:Hp}{s:Shared}{h':Heap}{t':Nat}{ch:List Addr}{a:Addr}{o:HO}(I:Inv X pins σ H s)(hch:∀b∈ch,bp X pins H b)(k:∀b u,b∉ch→s.heap.get? b=some u→h'.get? b=some u)(hp:s.heap.objs.size≤a)(new:ObjOk X.prog X.w (upd H a o) h' a o):Inv X pins σ (upd H a o) {s with heap:=h',toks:=t'}:=by
 have hn:=I.hok.fresh hp
 have nch:∀b u,H b=some u→b∉ch:=fun b u e hb=>by rw[(hch b hb).1] at e;cases e
 refine I.step (g':=s.gens) (d':=s.drawn) (ch:=ch) (fun b hb=>?_) (fun b o _ _ hc e _=>k b o hc e) (fun b o _ _ hc e _=>⟨o.slots,k b o hc e⟩) (fun b o hc e n=>?_) (fun b o hc e=>⟨o,k b o hc e⟩) (fun b xs e=>?_) (fun b o u e=>?_) (fun b ps e=>⟨#[],?_⟩) (fun m hm=>?_) (fun b u e=>?_) I.bare
 ·obtain⟨f0,f1,f2,f3,f4,f5⟩:=hch b hb
  exact⟨f3,f1,f4,f5⟩
 ·rw[ao (Nat.ne_of_lt (Nat.lt_of_lt_of_le (Heap.lt_size e) hp))];exact n
 ·rw[ao (aK e hn)];exact e
 ·rw[ao (aK e hn)];exact e
 ·rw[ao (aK e hn),e];simp
 ·obtain⟨o,es,ep,ho,r⟩:=hm
  exact⟨o,es,ep,k _ o (fun hb=>(hch _ hb).2.1 rfl) ho,r⟩
 ·by_cases hb:b=a
  ·subst hb;rw[ag] at e;cases e;exact new
  ·rw[ao hb] at e
   refine(I.hok b u e).stay (fun c v hc q=>k c v ?_ q) (fun c q=>by rw[ao (aK q hn)];exact q) fun c xs q=>by rw[ao (aK q hn)];exact q
   rcases hc with z | z
   ·rw[z];exact nch b u e
   ·exact nch c _ z
theorem Inv.turnMany{X:Cx}{pins:List (Addr×Obj)}{σ:St}{H:Hp}{s:Shared}{h':Heap}{t':Nat}{ch:List Addr}(I:Inv X pins σ H s)(hch:∀b∈ch,bp X pins H b)(k:∀b u,b∉ch→s.heap.get? b=some u→h'.get? b=some u):Inv X pins σ H {s with heap:=h',toks:=t'}:=by
 have nch:∀b u,H b=some u→b∉ch:=fun b u e hb=>by rw[(hch b hb).1] at e;cases e
 refine I.step (g':=s.gens) (d':=s.drawn) (ch:=ch) (fun b hb=>?_) (fun b o _ _ hc e _=>k b o hc e) (fun b o _ _ hc e _=>⟨o.slots,k b o hc e⟩) (fun b o hc e n=>n) (fun b o hc e=>⟨o,k b o hc e⟩) (fun b xs e=>e) (fun b o u e=>e) (fun b ps e=>⟨#[],by rw[e];simp⟩) (fun m hm=>?_) (fun b u e=>?_) I.bare
 ·obtain⟨f0,f1,f2,f3,f4,f5⟩:=hch b hb
  exact⟨f3,f1,f4,f5⟩
 ·obtain⟨o,es,ep,ho,r⟩:=hm
  exact⟨o,es,ep,k _ o (fun hb=>(hch _ hb).2.1 rfl) ho,r⟩
 ·refine(I.hok b u e).stay (fun c v hc q=>k c v ?_ q) (fun _ q=>q) fun _ _ q=>q
  rcases hc with z | z
  ·rw[z];exact nch b u e
  ·exact nch c _ z
def cD(a b:Addr):It:=
 ⟨fun i H=>∃xs ys,H a=some (.lst xs)∧H b=some (.lst ys)∧i<xs.length∧i<ys.length,
  fun i H x H'=>∃xs ys u v p,H a=some (.lst xs)∧H b=some (.lst ys)∧xs[i]?=some u∧ys[i]?=some v∧H p=none∧H'=upd H p (.tup [u,v])∧x=.ref p,
  fun i H=>∃xs ys,H a=some (.lst xs)∧H b=some (.lst ys)∧(xs.length≤i∨ys.length≤i)⟩
theorem nq{P:Program}{w:World}{K:PySem.W.Frag}{es:List Expr}{kk:Nat}{tp:Pos}(a b z TI TO i1 i2:Addr)(D:ZipApart z TI TO i1 i2 a b):Turn P w K (.Tuple es kk tp) (cD a b) [z,TI,TO,i1,i2] z (fun i h=>IsZip h z TI TO .none∧IsPair h TI (.ref i1) (.ref i2)∧(∃x y,IsPair h TO x y)∧h.IsListIter i1 a i∧h.IsListIter i2 b i) where
 mem:=by simp
 obj:=fun i h st c hc=>by
  obtain⟨h1,h2,⟨x,y,h3⟩,h4,h5⟩:=st
  simp only[List.mem_cons,List.not_mem_nil,or_false] at hc
  rcases hc with rfl | rfl | rfl | rfl | rfl
  ·exact⟨_,h1,fun v q=>by have q':Data.fields _=Data.cell v:=q;cases q'⟩
  ·exact⟨_,h2,fun v q=>by have q':Data.seq _ _=Data.cell v:=q;cases q'⟩
  ·exact⟨_,h3,fun v q=>by have q':Data.seq _ _=Data.cell v:=q;cases q'⟩
  ·obtain⟨o,e,c,d⟩:=h4
   exact⟨o,e,fun v q=>by rw[d] at q;cases q⟩
  ·obtain⟨o,e,c,d⟩:=h5
   exact⟨o,e,fun v q=>by rw[d] at q;cases q⟩
 keep:=fun i h h' st k=>by
  obtain⟨h1,h2,⟨x,y,h3⟩,h4,h5⟩:=st
  exact⟨k z (by simp) _ h1,k TI (by simp) _ h2,⟨x,y,k TO (by simp) _ h3⟩,h4.at fun o e=>k i1 (by simp) o e,h5.at fun o e=>k i2 (by simp) o e⟩
 item:=by
  intro X hP hw hK hc i pins s σ H E I hf st hg
  subst hP hw hK
  obtain⟨h1,h2,⟨x,y,h3⟩,h4,h5⟩:=st
  obtain⟨xs,ys,ha,hb,hi1,hi2⟩:=hg
  obtain⟨_,its1,n1,rv1,hl1,e1⟩:=I.lstM ha
  obtain⟨_,its2,n2,rv2,hl2,e2⟩:=I.lstM hb
  obtain⟨u,hu,ru⟩:=rv1.get (show xs[i]?=some xs[i] by simp[hi1])
  obtain⟨v,hv,rv⟩:=rv2.get (show ys[i]?=some ys[i] by simp[hi2])
  refine wpAny_pyNext_zip_item D h1 h2 h3 h4 h5 ⟨_,e1,rfl,n1,rfl⟩ ⟨_,e2,rfl,n2,rfl⟩ (x:=u) (y:=v) (by simpa using hu) (by simpa using hv) fun h' z1 z2 z3 z4 z5 z6 z7=>⟨_,rfl,?_⟩
  refine wpAny_letOwnedTupleGo_zip (s:={s with heap:=h'}) z1 fun h'' y1 sb=>?_
  have zlt:z<s.heap.objs.size:=Heap.lt_size h1
  have nz:s.heap.objs.size≠z:=Nat.ne_of_gt zlt
  have hnew:IsPair h'' s.heap.objs.size u v:=sb.extBut _ _ nz z5
  have kk:∀c o,c∉ [z,TI,TO,i1,i2]→s.heap.get? c=some o→h''.get? c=some o:=fun c o hc e=>by
   simp only[List.mem_cons,List.not_mem_nil,or_false,not_or] at hc
   exact sb.extBut _ _ hc.1 (z7 c o hc.1 hc.2.2.1 hc.2.2.2.1 hc.2.2.2.2 e)
  have I1:Inv X pins σ (upd H s.heap.objs.size (.tup [xs[i],ys[i]])) {s with heap:=h'',toks:=s.toks}:=I.turnLaid hf kk (Nat.le_refl _) ⟨by show 2≤sizeLine;decide,[u,v],.cons ru (.cons rv .nil),⟨_,hnew,rfl,_,rfl⟩⟩
  refine⟨.ref s.heap.objs.size,_,I1,rfl,⟨xs,ys,xs[i],ys[i],s.heap.objs.size,ha,hb,by simp[hi1],by simp[hi2],I.hok.fresh (Nat.le_refl _),rfl,rfl⟩,⟨y1,?_,⟨u,v,?_⟩,?_,?_⟩,fun c hc=>?_⟩
  ·exact sb.extBut _ _ D.TIz (z7 TI _ D.TIz D.TITO D.TIi1 D.TIi2 h2)
  ·exact sb.extBut _ _ D.TOz z2
  ·exact z3.at fun o e=>sb.extBut _ _ D.i1z e
  ·exact z4.at fun o e=>sb.extBut _ _ D.i2z e
  ·rw[ao]
   ·exact(hf c hc).1
   ·intro q
    subst q
    obtain⟨o,e,_⟩:∃o,s.heap.get? s.heap.objs.size=some o∧True:=by
     simp only[List.mem_cons,List.not_mem_nil,or_false] at hc
     rcases hc with q | q | q | q | q
     ·rw[q] at*;exact⟨_,h1,trivial⟩
     ·exact⟨_,q▸h2,trivial⟩
     ·exact⟨_,q▸h3,trivial⟩
     ·obtain⟨o,e,_⟩:=h4;exact⟨o,q▸e,trivial⟩
     ·obtain⟨o,e,_⟩:=h5;exact⟨o,q▸e,trivial⟩
    exact absurd (Heap.lt_size e) (Nat.lt_irrefl _)
 done:=by
  intro X hP hw hK hc i pins s σ H E I hf st hg
  subst hP hw hK
  obtain⟨h1,h2,⟨x,y,h3⟩,h4,h5⟩:=st
  obtain⟨xs,ys,ha,hb,hend⟩:=hg
  obtain⟨_,its1,n1,rv1,hl1,e1⟩:=I.lstM ha
  obtain⟨_,its2,n2,rv2,hl2,e2⟩:=I.lstM hb
  refine wpAny_pyNext_zip_end (I.ok.hd hc) D h1 h2 h3 h4 h5 ⟨_,e1,rfl,n1,rfl⟩ ⟨_,e2,rfl,n2,rfl⟩ ?_ fun h' k=>⟨rfl,I.turnMany (t':=s.toks) hf fun c o hc e=>?_⟩
  ·rcases hend with q | q
   ·left;simp;lia
   ·right;simp;lia
  ·simp only[List.mem_cons,List.not_mem_nil,or_false,not_or] at hc
   exact k c o hc.1 hc.2.2.1 hc.2.2.2.1 hc.2.2.2.2 e
 self:=fun _ _ _ _ _ st h=>wpAny_pyIter_zip st.1 h
theorem qm:bootBuiltins "zip"=some (.type "zip"):=by decide+kernel
def nh(te te2:TE):TI:=fun σ H R=>te σ H fun x H1=>te2 σ H1 fun y H2=>∃a b xs ys,x=.ref a∧y=.ref b∧H2 a=some (.lst xs)∧H2 b=some (.lst ys)∧R (cD a b) H2
theorem qR{X:Cx}{es:List Expr}{kk:Nat}{tp:Pos}{e e2:Expr}{te te2:TE}{p pos:Pos}(hm:X.mg "zip"=none)(he:PE X e te)(he2:PE X e2 te2)(hg:Gl X "zip":=by rfl)
 (hs:starEach [e,e2] X.env=[(false,eval e X.env),(false,eval e2 X.env)]:=by rfl)(hs2:starEach [e2] X.env=[(false,eval e2 X.env)]:=by rfl):PI X (.Tuple es kk tp) (.Call (.Name "zip" p) [e,e2] [] pos) (nh te te2):=by
 intro pins s σ H R I h
 refine Call_ (bO I hg hm qm (PyProof.Rows.callWith_type1 (ah ((aa he (aa he2 ab (by exact hs2)) (by rw[hs,hs2])) pos pins s σ H (fun vs H2=>match vs with | [x,y]=>∃a b xs ys,x=.ref a∧y=.ref b∧H2 a=some (.lst xs)∧H2 b=some (.lst ys)∧R (cD a b) H2 | _=>False) I h) fun us s1 ⟨vs,H1,I1,r1,q1⟩=>?_) (by rw[hs,hs2]) (by rw[hs2];rfl)))
 match vs,q1 with
 | [x,y],q1=>
   obtain⟨a,b,xs,ys,rfl,rfl,ha,hb,q⟩:=q1
   obtain⟨u,v,rfl,ru,rv⟩:=r1.two
   cases ru
   cases rv
   obtain⟨_,its1,n1,rv1,hl1,e1⟩:=I1.lstM ha
   obtain⟨_,its2,n2,rv2,hl2,e2⟩:=I1.lstM hb
   have ih1:s1.heap.IsList a its1.toArray:=⟨_,e1,rfl,n1,rfl⟩
   have ih2:s1.heap.IsList b its2.toArray:=⟨_,e2,rfl,n2,rfl⟩
   refine call_zip_2 ih1 ih2 fun h' z1 z2 z3 z4 z5 z6 z7=>?_
   have I2:Inv X pins σ H1 {s1 with heap:=h'}:=I1.kept (t':=s1.toks) z7
   refine wpAny_pyIter_zip (s:={s1 with heap:=h'}) z1 ?_
   refine⟨_,_,_,cD a b,H1,rfl,I2,nq a b _ _ _ _ _ (zipApart_new (Heap.lt_size e1) (Heap.lt_size e2)),⟨z1,z2,⟨_,_,z3⟩,z4,z5⟩,fun c hc=>?_,q⟩
   have hge:s1.heap.objs.size≤c:=by
    simp only[List.mem_cons,List.not_mem_nil,or_false] at hc
    rcases hc with q | q | q | q | q <;> (subst q;first | exact Nat.le_add_right _ _ | exact Nat.le_refl _)
   exact I1.fpOk hge (I1.hok.fresh hge)
theorem om{a b:Addr}{xs ys:List V}{g:TG}{tb:TS}{D:Ends}{σ:St}{H:Hp}(Pv:Nat→St→Hp→Prop)(h0:Pv 0 σ H)(hl:∀i σ H,i≤min xs.length ys.length→Pv i σ H→H a=some (.lst xs)∧H b=some (.lst ys))(hs:∀i u v p σ H,xs[i]?=some u→ys[i]?=some v→H p=none→Pv i σ H→g (.ref p) σ (upd H p (.tup [u,v])) fun σ2 H2=>tb {D with nx:=Pv (i+1),ct:=Pv (i+1),bk:=D.nx} σ2 H2)(hd:∀σ H,Pv (min xs.length ys.length) σ H→D.nx σ H):
 ∃ W:Nat→Nat→St→Hp→Prop,(∃m,W 0 m σ H)∧∀i m σ H,W i m σ H→
   ((cD a b).stop i H∧D.nx σ H)∨((cD a b).go i H∧∃N:St→Hp→Prop,(∀σ' H',N σ' H'→∃m',m'<m∧W (i+1) m' σ' H')∧∀x H',(cD a b).yld i H x H'→g x σ H' fun σ2 H2=>tb {D with nx:=N,ct:=N,bk:=D.nx} σ2 H2):=by
 refine⟨fun i m σ H=>m=min xs.length ys.length-i∧i≤min xs.length ys.length∧Pv i σ H,⟨min xs.length ys.length,by simp,Nat.zero_le _,h0⟩,?_⟩
 rintro i m σ H ⟨rfl,hi,p⟩
 obtain⟨qa,qb⟩:=hl i σ H hi p
 by_cases hlt:i<min xs.length ys.length
 ·refine .inr ⟨⟨xs,ys,qa,qb,by lia,by lia⟩,Pv (i+1),fun σ' H' p'=>⟨min xs.length ys.length-(i+1),by lia,rfl,hlt,p'⟩,fun x H' y=>?_⟩
  obtain⟨xs',ys',u,v,q,ea,eb,eu,ev,hq,e1,e2⟩:=y
  rw[qa] at ea
  rw[qb] at eb
  have e3:xs=xs':=HO.lst.inj (Option.some.inj ea)
  have e4:ys=ys':=HO.lst.inj (Option.some.inj eb)
  subst e3 e4 e1 e2
  exact hs i u v q σ H eu ev hq p
 ·have e:i=min xs.length ys.length:=by lia
  subst e
  exact .inl ⟨⟨xs,ys,qa,qb,by lia⟩,hd σ H p⟩
theorem mj{n:Nat}(h:n≤5000):n<sizeLine:=Nat.lt_of_le_of_lt h (by decide)
section
variable{X:Cx}{e e2:Expr}{te te2:TE}{p p2 pos:Pos}
end
def cH:List Expr→Option (List Int)
 | []=>some []
 | .Constant (.int k) _ _::r=>(cH r).map (k:: ·)
 | _=>none
def pf(ks:List Int):TA:=fun _ H Q=>Q (ks.map V.int) H
theorem lm{X:Cx}:∀{es:List Expr} {ks:List Int},cH es=some ks→PA X es (pf ks)
 | [],ks,h=>by
   have:ks=[]:=(Option.some.inj h).symm
   subst this
   exact ab
 | .Constant (.int k) j p::r,ks,h=>by
   cases e:cH r with
   | none=>rw[show cH (.Constant (.int k) j p::r)=(cH r).map (k:: ·) from rfl,e] at h;cases h
   | some ls=>
     rw[show cH (.Constant (.int k) j p::r)=(cH r).map (k:: ·) from rfl,e] at h
     have:ks=k::ls:=(Option.some.inj h).symm
     subst this
     exact aa af (lm e)
def cF(a:Addr):It:=
 ⟨fun i H=>∃xs,H a=some (.lst xs)∧i<xs.length,
  fun i H x H'=>∃xs v p,H a=some (.lst xs)∧xs[i]?=some v∧H p=none∧H'=upd H p (.tup [.int (i:Int),v])∧x=.ref p,
  fun i H=>∃xs,H a=some (.lst xs)∧xs.length≤i⟩
theorem lM{P:Program}{w:World}{K:PySem.W.Frag}{es:List Expr}{kk:Nat}{tp:Pos}(a e it:Addr)(hei:e≠it)(hae:a≠e)(hai:a≠it):Turn P w K (.Tuple es kk tp) (cF a) [e,it] e (fun i h=>(∃old,IsEnum h e it i old)∧h.IsListIter it a i) where
 mem:=by simp
 obj:=fun i h st c hc=>by
  obtain⟨⟨old,h1⟩,h2⟩:=st
  simp only[List.mem_cons,List.not_mem_nil,or_false] at hc
  rcases hc with rfl | rfl
  ·exact⟨_,h1,fun v q=>by have q':Data.fields _=Data.cell v:=q;cases q'⟩
  ·obtain⟨o,e,c,d⟩:=h2
   exact⟨o,e,fun v q=>by rw[d] at q;cases q⟩
 keep:=fun i h h' st k=>by
  obtain⟨⟨old,h1⟩,h2⟩:=st
  exact⟨⟨old,k e (by simp) _ h1⟩,h2.at fun o q=>k it (by simp) o q⟩
 item:=by
  intro X hP hw hK hc i pins s σ H E I hf st hg
  subst hP hw hK
  obtain⟨⟨old,h1⟩,h2⟩:=st
  obtain⟨xs,ha,hi⟩:=hg
  obtain⟨_,its,n,rv,hl,e1⟩:=I.lstM ha
  obtain⟨u,hu,ru⟩:=rv.get (show xs[i]?=some xs[i] by simp[hi])
  refine wpAny_pyNext_enum_item h1 h2 ⟨_,e1,rfl,n,rfl⟩ (x:=u) (by simpa using hu) hei fun h' z1 z2 z3 z4 z5=>⟨_,rfl,?_⟩
  refine wpAny_letOwnedTupleGo_enum (s:={s with heap:=h',toks:=s.toks+1}) z1 fun h'' y1 sb=>?_
  have elt:e<s.heap.objs.size:=Heap.lt_size h1
  have ne:s.heap.objs.size≠e:=Nat.ne_of_gt elt
  have hnew:h''.get? s.heap.objs.size=some {cls:=.type "tuple",data:=.seq #[.int i s.toks,u]}:=(sb.2 _ ne).trans z3
  have kk:∀c o,c∉ [e,it]→s.heap.get? c=some o→h''.get? c=some o:=fun c o hc q=>by
   simp only[List.mem_cons,List.not_mem_nil,or_false,not_or] at hc
   exact(sb.2 c hc.1).trans (z5 c o hc.1 hc.2 q)
  have I1:Inv X pins σ (upd H s.heap.objs.size (.tup [.int (i:Int),xs[i]])) {s with heap:=h'',toks:=s.toks+1}:=I.turnLaid (t':=s.toks+1) hf kk (Nat.le_refl _) ⟨by show 2≤sizeLine;decide,[.int i s.toks,u],.cons ⟨_,rfl⟩ (.cons ru .nil),⟨_,hnew,rfl,_,rfl⟩⟩
  refine⟨.ref s.heap.objs.size,_,I1,rfl,⟨xs,xs[i],s.heap.objs.size,ha,by simp[hi],I.hok.fresh (Nat.le_refl _),rfl,rfl⟩,⟨⟨u,by simpa using y1⟩,z2.at fun o q=>(sb.2 it hei.symm).trans q⟩,fun c hc=>?_⟩
  rw[ao]
  ·exact(hf c hc).1
  ·intro q
   subst q
   obtain⟨o,e',_⟩:∃o,s.heap.get? s.heap.objs.size=some o∧True:=by
    simp only[List.mem_cons,List.not_mem_nil,or_false] at hc
    rcases hc with q | q
    ·exact absurd q ne
    ·obtain⟨o,e',_⟩:=h2;exact⟨o,q▸e',trivial⟩
   exact absurd (Heap.lt_size e') (Nat.lt_irrefl _)
 done:=by
  intro X hP hw hK hc i pins s σ H E I hf st hg
  subst hP hw hK
  obtain⟨⟨old,h1⟩,h2⟩:=st
  obtain⟨xs,ha,hend⟩:=hg
  obtain⟨_,its,n,rv,hl,e1⟩:=I.lstM ha
  refine wpAny_pyNext_enum_end (I.ok.hd hc) h1 h2 ⟨_,e1,rfl,n,rfl⟩ ?_ fun h' k=>⟨rfl,I.turnMany (t':=s.toks) hf fun c o hc q=>?_⟩
  ·rw[Array.getElem?_eq_none];simp;lia
  ·simp only[List.mem_cons,List.not_mem_nil,or_false,not_or] at hc
   exact k c o hc.2 q
 self:=fun _ _ _ _ _ st h=>wpAny_pyIter_enum st.1.choose_spec h
theorem o9:bootBuiltins "enumerate"=some (.type "enumerate"):=by decide+kernel
def qA(te:TE):TI:=fun σ H R=>te σ H fun x H1=>∃a xs,x=.ref a∧H1 a=some (.lst xs)∧R (cF a) H1
theorem oU{X:Cx}{es:List Expr}{kk:Nat}{tp:Pos}{e:Expr}{te:TE}{p pos:Pos}(hm:X.mg "enumerate"=none)(he:PE X e te)(hg:Gl X "enumerate":=by rfl)
 (hs:starEach [e] X.env=[(false,eval e X.env)]:=by rfl):PI X (.Tuple es kk tp) (.Call (.Name "enumerate" p) [e] [] pos) (qA te):=by
 intro pins s σ H R I h
 refine Call_ (bO I hg hm o9 (PyProof.Rows.callWith_type1 (ah ((aa he ab (by exact hs)) pos pins s σ H (fun vs H2=>match vs with | [x]=>∃a xs,x=.ref a∧H2 a=some (.lst xs)∧R (cF a) H2 | _=>False) I h) fun us s1 ⟨vs,H1,I1,r1,q1⟩=>?_) (by rw[hs];rfl) (by rfl)))
 match vs,q1 with
 | [x],q1=>
   obtain⟨a,xs,rfl,ha,q⟩:=q1
   obtain⟨u,rfl,ru⟩:=r1.one
   cases ru
   obtain⟨_,its,n,rv,hl,e1⟩:=I1.lstM ha
   refine call_enumerate_list ⟨_,e1,rfl,n,rfl⟩ fun h' z1 z2 z3 z4=>?_
   have I2:Inv X pins σ H1 {s1 with heap:=h'}:=I1.kept (t':=s1.toks) z4
   refine wpAny_pyIter_enum (s:={s1 with heap:=h'}) z1 ?_
   have alt:a<s1.heap.objs.size:=Heap.lt_size e1
   refine⟨_,_,_,cF a,H1,rfl,I2,lM a _ _ (Nat.ne_of_gt (Nat.lt_succ_self _)) (Nat.ne_of_lt (Nat.lt_succ_of_lt alt)) (Nat.ne_of_lt alt),⟨⟨_,z1⟩,z2⟩,fun c hc=>?_,q⟩
   have hge:s1.heap.objs.size≤c:=by
    simp only[List.mem_cons,List.not_mem_nil,or_false] at hc
    rcases hc with q | q <;> (subst q;first | exact Nat.le_add_right _ _ | exact Nat.le_refl _)
   exact I1.fpOk hge (I1.hok.fresh hge)
theorem nS{a:Addr}{xs:List V}{g:TG}{tb:TS}{D:Ends}{σ:St}{H:Hp}(Pv:Nat→St→Hp→Prop)(h0:Pv 0 σ H)(hl:∀i σ H,i≤xs.length→Pv i σ H→H a=some (.lst xs))(hs:∀i v p σ H,xs[i]?=some v→H p=none→Pv i σ H→g (.ref p) σ (upd H p (.tup [.int (i:Int),v])) fun σ2 H2=>tb {D with nx:=Pv (i+1),ct:=Pv (i+1),bk:=D.nx} σ2 H2)(hd:∀σ H,Pv xs.length σ H→D.nx σ H):
 ∃ W:Nat→Nat→St→Hp→Prop,(∃m,W 0 m σ H)∧∀i m σ H,W i m σ H→
   ((cF a).stop i H∧D.nx σ H)∨((cF a).go i H∧∃N:St→Hp→Prop,(∀σ' H',N σ' H'→∃m',m'<m∧W (i+1) m' σ' H')∧∀x H',(cF a).yld i H x H'→g x σ H' fun σ2 H2=>tb {D with nx:=N,ct:=N,bk:=D.nx} σ2 H2):=by
 refine⟨fun i m σ H=>m=xs.length-i∧i≤xs.length∧Pv i σ H,⟨xs.length,by simp,Nat.zero_le _,h0⟩,?_⟩
 rintro i m σ H ⟨rfl,hi,p⟩
 have qa:=hl i σ H hi p
 by_cases hlt:i<xs.length
 ·refine .inr ⟨⟨xs,qa,hlt⟩,Pv (i+1),fun σ' H' p'=>⟨xs.length-(i+1),by lia,rfl,hlt,p'⟩,fun x H' y=>?_⟩
  obtain⟨xs',v,q,ea,ev,hq,e1,e2⟩:=y
  rw[qa] at ea
  have e3:xs=xs':=HO.lst.inj (Option.some.inj ea)
  subst e3 e1 e2
  exact hs i v q σ H ev hq p
 ·have e:i=xs.length:=by lia
  subst e
  exact .inl ⟨⟨xs,qa,Nat.le_refl _⟩,hd σ H p⟩
theorem i6{ns:List Int}:∀j,j≤ns.length→preSum (fun i=>ns.getD i 0) j=(ns.take j).sum
 | 0,_=>by simp[preSum]
 | j+1,h=>by
   rw[show preSum (fun i=>ns.getD i 0) (j+1)=preSum (fun i=>ns.getD i 0) j+ns.getD j 0 from rfl,i6 j (by lia),List.take_succ]
   have:ns[j]?=some (ns.getD j 0):=by
    rw[List.getD_eq_getElem?_getD]
    cases q:ns[j]? with
    | none=>rw[List.getElem?_eq_none_iff] at q;lia
    | some v=>rfl
   rw[this,List.sum_append];simp
section
variable{X:Cx}
variable{e:Expr}{te:TE}{p pos:Pos}
end
theorem hE:∀{xs:List V} {us:List Value},xs.length=us.length→(∀(i:Nat) (x:V) (u:Value),xs[i]?=some x→us[i]?=some u→RelV x u)→Vals xs us
 | [],[],_,_=>.nil
 | [],_::_,h,_=>by simp at h
 | _::_,[],h,_=>by simp at h
 | x::xs,u::us,h,g=>.cons (g 0 x u rfl rfl) (hE (by simpa using h) fun i x' u' a b=>g (i+1) x' u' (by simpa using a) (by simpa using b))
section
variable{X:Cx}{e:Expr}{te:TE}{p pos:Pos}
theorem rj(hc:X.calm=true):bo X (.type "list") (fun xs H Q=>∃z:Str,xs=[.str z]∧z.length≤sizeLine∧∀l,H l=none→Q (.ref l) (upd H l (.lst (z.cps.toList.map sg)))):=by
 intro pins s σ H xs us Q I r h
 obtain⟨z,rfl,hz,q⟩:=h
 obtain⟨u,rfl,rx⟩:=cu r
 obtain⟨t,rfl⟩:=rx
 refine call_list_str (hn:=hz) (I.ok.hd hc) z t fun h' tk acc c k hl hit=>?_
 refine⟨.ref _,_,I.laid (t':=tk) (o:=.lst (z.cps.toList.map sg)) k (Nat.le_refl _) ?_,rfl,q _ (I.hok.fresh (Nat.le_refl _))⟩
 obtain⟨hsz,hat⟩:=hit
 refine⟨by rw[List.length_map];simpa [Str.length] using hz,acc.toList,c,?_,by simpa using hl⟩
 refine hE (by rw[List.length_map];simp[hsz]) fun i x u hx hu=>?_
 have hu':acc[i]?=some u:=by simpa using hu
 obtain⟨c',t',h1,rfl⟩:=hat i u hu'
 rw[List.getElem?_map] at hx
 have:z.cps.toList[i]?=some c':=by simpa using h1
 rw[this] at hx
 have e:sg c'=x:=Option.some.inj hx
 subst e
 exact⟨t',rfl⟩
def nY(te:TE):TE:=fun σ H Q=>te σ H fun x H1=>∃z:Str,x=.str z∧z.length≤sizeLine∧∀l,H1 l=none→Q (.ref l) (upd H1 l (.lst (z.cps.toList.map sg)))
theorem mQ(hc:X.calm=true)(hm:X.mg "list"=none)(ha:PE X e te)(hg:Gl X "list":=by rfl)(he:starEach [e] X.env=[(false,eval e X.env)]:=by rfl):PE X (.Call (.Name "list" p) [e] [] pos) (nY te):=
 gK (r:=r1 fun x H Q=>∃z:Str,x=.str z∧z.length≤sizeLine∧∀l,H l=none→Q (.ref l) (upd H l (.lst (z.cps.toList.map sg)))) (cW fun pins s σ H x us Q I rv ⟨z,ex,h,q⟩=>rj hc pins s σ H _ us Q I rv ⟨z,by rw[ex],h,q⟩) hg hm jZ (aa ha ab (by exact he)) (he:=by exact he)
end
structure CompOK2(outer sc:Scope)(xs:List Str)(M N:List Str):Prop where
 kind:sc.kind=.function
 nocell:∀y∈sc.names,y.2≠ .cell
 loc:∀y∈sc.names,y.2=.local→sc.names.lookup y.1=some .local
 own:∀x∈xs,sc.names.lookup x=some .local
 free:∀y∈sc.names,y.2=.free→(outer.names.lookup y.1=some .cell∨outer.names.lookup y.1=some .free)
 nd:(M++xs).Nodup
 len:M.length=N.length
 same:∀p∈M.zip N,p.1=p.2∨sc.names.lookup p.1=none
 noloc:∀y∈M,sc.names.lookup y≠some .local
section
variable{X:Cx}{pins:List (Addr×Obj)}{σ:St}{H2:Hp}{s2:Shared}{scope:Scope}{xs M:List Str}{cl:List (Str×Addr)}{fp:List Addr}{h1:Heap}{t':Nat}
end
inductive TyB (H:Hp):V→Value→Prop where
 | non:TyB H .non (.type "NoneType")
 | bl (x:Bool):TyB H (.bl x) (.type "bool")
 | int (i:Int):TyB H (.int i) (.type "int")
 | str (x:Str):TyB H (.str x) (.type "str")
 | lst {a:Addr} {xs:List V} (e:H a=some (.lst xs)):TyB H (.ref a) (.type "list")
 | tup {a:Addr} {xs:List V} (e:H a=some (.tup xs)):TyB H (.ref a) (.type "tuple")
section
variable{X:Cx}{e:Expr}{te:TE}{p pos:Pos}
end
section
variable{X:Cx}{pins:List (Addr×Obj)}{σ:St}{H1:Hp}{s1:Shared}
end
abbrev kN:List Value:=[.type "ValueError",.type "Exception",.type "BaseException",.type "object"]
structure Exc(K:PySem.W.Frag)(mg:Str→Option Value)(x:Str)(C:Addr):Prop where
 bound:mg x=some (.ref C)
 isIn:PySem.W.excIn K C kN "ValueError.__new__"=true
section
variable{X:Cx}{pins:List (Addr×Obj)}{σ σ0:St}{H H1:Hp}{s s1:Shared}{E0:XK}
end
def Ends.drop(D:Ends)(i:Nat):Ends:=⟨fun σ H=>D.nx (σ.set i none) H,D.rt,fun σ H=>D.bk (σ.set i none) H,fun σ H=>D.ct (σ.set i none) H⟩
end L2
namespace PySem.W
open PySem PySem.Spec PySem.Calls PyProof.Rows Builtin Builtin.ObjectAttr Builtin.Getset_descriptor
section
variable{prog:Program}{w:World}{A:Around}{E:Value→Shared→Prop}{K:Frag}{h:Heap}{g:Array GenState}{d:Drawn}{t:Nat}{os:OsState}{a D:Addr}{o:Obj}{R:Result→Shared→Prop}
def excKit(K:Frag)(D:Addr):Bool:=(clsIn K D).isSome && mroIn K D (.type "object") == some true && mroIn K D (.type "BaseException") == some true && findIn K (.ref D) "__getattribute__" == some (some (.builtin "BaseException.__getattribute__"))
 && findIn K (.ref D) "__getattr__" == some none && findIn K (.ref D) "__class__" == some (some (.builtin "object.__class__"))
end
end PySem.W
namespace L2
open PySem PySem.Spec PyProof.Rows
section
variable{X:Cx}{e e2:Expr}{te te2:TE}{p p2 pos:Pos}
end
structure ExF(K:PySem.W.Frag)(CE D:Addr)(Cs:List Addr):Prop where
 exm:PySem.W.exmOne K (.ref D) (.ref CE)=some true
 kit:PySem.W.excKit K D=true
 isIn:PySem.W.excIn K D kN "ValueError.__new__"=true
 val:PySem.W.kitOne K (.ref D) (.type "ValueError")=some true
 one:∀C∈Cs,PySem.W.kitOne K (.ref D) (.ref C)=some (D == C)
section
variable{X:Cx}
end
section
variable{X:Cx}
end
end L2
namespace PySem.W
open PySem PySem.Spec PySem.Calls PyProof.Rows
section
variable{prog:Program}{w:World}{A:Around}{E:Value→Shared→Prop}{s:Shared}
end
end PySem.W
namespace L2
open PySem PySem.Spec PyProof.Rows
section
variable{X:Cx}{e:Expr}{te:TE}{p pos:Pos}
theorem iP:∀{ns:List Int} {its:List Value},Vals (ns.map V.int) its→IntsAre its ns
 | [],_,h=>by cases h;exact .nil
 | n::ns,_,h=>by
   cases h with
   | cons r t=>obtain⟨u,rfl⟩:=r;exact .cons n u (iP t)
def pp:V→List V→Hp→VK→Prop:=fun x vs H Q=>∃(l:Addr) (ns:List Int) (n:Int) (j:Nat),x=.ref l∧vs=[.int n]∧H l=some (.lst (ns.map V.int))∧ns[j]?=some n∧(∀i,i<j→ns[i]?≠some n)∧Q (.int (j:Int)) H
theorem ou:gv X "list.index" pp:=by
 intro pins s σ H x vs v us Q I rx rv h
 obtain⟨l,ns,k,j,rfl,rfl,hH,hj,hb,q⟩:=h
 cases rx
 obtain⟨u,rfl,ru⟩:=rv.one
 obtain⟨t,rfl⟩:=(show∃t,u=Value.int k t from ru)
 obtain⟨z,its,n,r,hl,e⟩:=I.lstM hH
 have hi:=iP r
 have hlen:its.length=ns.length:=by have:(ns.map V.int).length=its.length:=r.length;rw[List.length_map] at this;lia
 have hget:∀(i:Nat) (b:Int),ns[i]?=some b→∃u,its[i]?=some (Value.int b u):=fun i b hi=>by
  obtain⟨w,hw,rw'⟩:=r.get (show(ns.map V.int)[i]?=some (.int b) by rw[List.getElem?_map,hi];rfl)
  obtain⟨u,rfl⟩:=(show∃u,w=Value.int b u from rw')
  exact⟨u,hw⟩
 have hjx:j<ns.length:=(List.getElem?_eq_some_iff.mp hj).1
 have hsl:=sizeLine_eq
 have hnl:ns.length≤sizeLine:=by simpa using z
 have hjl:j<its.toArray.size:=by simp;lia
 refine call_meets F.slot_list_index ⟨_,e,rfl⟩ F.entry_list_index (F.args_list_index_2 _ _) (SeqAt.list_indexAt l its.toArray n none #[] (.int k t) (isInt k) j hjl ?_ ?_ ?_) ⟨e,fun y hy=>(eq_isInt k t hi y (by simpa using hy)).at _ _,?_⟩
 ·lia
 ·obtain⟨u,hu⟩:=hget j k hj
  have:its.toArray[j]=Value.int k u:=by
   rw[List.getElem?_eq_getElem (by lia)] at hu;simpa using hu
  rw[this];simp[isInt]
 ·intro m hm hmj
  have hml:m<ns.length:=by simp at hm;lia
  obtain⟨u,hu⟩:=hget m ns[m] (by simp[hml])
  have e1:its.toArray[m]=Value.int ns[m] u:=by
   rw[List.getElem?_eq_getElem (by lia)] at hu;simpa using hu
  rw[e1]
  have:=hb m hmj
  simp[hml] at this
  simp[isInt,this]
 ·exact⟨.int (j:Int),H,I.tok _,⟨_,rfl⟩,q⟩
end
section
variable{X:Cx}{e:Expr}{te:TE}{p pos:Pos}
end
section
variable{κ:Type}[DecidableEq κ]
end
abbrev KT(H:Hp):List (List aM×V)→List (List aM×Addr×Value)→Prop:=Paired fun p q=>p.1=q.1∧H q.2.1=some (.tup (p.1.map kV))∧RelV p.2 q.2.2
section
variable{P:Program}{w:World}{H:Hp}{h:Heap}{a:Addr}
end
section
variable{X:Cx}{pins:List (Addr×Obj)}{σ:St}{H:Hp}{s:Shared}{a:Addr}{y v:V}{u r:Value}{o:Option V}{A:Around}{E:Value→Shared→Prop}
end
section
variable{X:Cx}{pins:List (Addr×Obj)}{σ:St}{H:Hp}{s:Shared}{a:Addr}{kvs:List (aM×V)}{k:aM}{u:Value}{A:Around}{E:Value→Shared→Prop}
end
section
variable{X:Cx}{o i e value:Expr}{pos pos' tpos:Pos}{td ty tv:TE}
end
section
variable{X:Cx}{pos:Pos}
end
structure M1(X:Cx)(o:Expr)(m:Str)(apos:Pos)(e:Expr)(cpos:Pos):Prop where
 base:attributeBase o m X.env (eval o X.env)=eval o X.env
 few:((backTo cpos (starEach [e] X.env)).all (fun x=>!x.1) && (backToKw cpos (keywordEach [] X.env)).all (fun x=>x.1.isSome)
  && decide (([e]:List Expr).length+([]:List Keyword).length+(if([]:List Keyword).isEmpty then 0 else 1)<30))=true
 line:(apos.endLine == cpos.line)=true
 trees:backTo cpos (starEach [e] X.env)=[(false,eval e X.env)]
structure M2(X:Cx)(o:Expr)(m:Str)(apos:Pos)(e f:Expr)(cpos:Pos):Prop where
 base:attributeBase o m X.env (eval o X.env)=eval o X.env
 few:((backTo cpos (starEach [e,f] X.env)).all (fun x=>!x.1) && (backToKw cpos (keywordEach [] X.env)).all (fun x=>x.1.isSome)
  && decide (([e,f]:List Expr).length+([]:List Keyword).length+(if([]:List Keyword).isEmpty then 0 else 1)<30))=true
 line:(apos.endLine == cpos.line)=true
 trees:backTo cpos (starEach [e,f] X.env)=[(false,eval e X.env),(false,eval f X.env)]
section
variable{X:Cx}{pins:List (Addr×Obj)}{σ:St}{H:Hp}{s:Shared}{a:Addr}{y d:V}{u r:Value}{o:Option V}{A:Around}{E:Value→Shared→Prop}
end
section
variable{X:Cx}{o e f:Expr}{apos cpos:Pos}{td ty tx:TE}
end
section
variable{X:Cx}{pins:List (Addr×Obj)}{σ:St}{H:Hp}{s:Shared}{a:Addr}{kvs:List (aM×V)}{A:Around}{E:Value→Shared→Prop}
end
section
variable{X:Cx}{pins:List (Addr×Obj)}{σ:St}{H:Hp}{s:Shared}{a:Addr}{y:V}{u:Value}{A:Around}{E:Value→Shared→Prop}
end
section
variable{X:Cx}
theorem l4(hc:X.calm=true):bo X (.builtin "sum") (fun xs H Q=>∃(p:Addr) (ns:List Int),xs=[.ref p]∧H p=some (.lst (ns.map V.int))∧Q (.int ns.sum) H):=by
 intro pins s σ H xs us Q I r h
 obtain⟨p,ns,rfl,hp,q⟩:=h
 obtain⟨u,rfl,rx⟩:=cu r
 cases rx
 obtain⟨_,its,n,rv,hlen,e1⟩:=I.lstM hp
 have isl:s.heap.IsList p its.toArray:=⟨_,e1,rfl,n,rfl⟩
 have below:p<s.heap.objs.size:=Heap.lt_size e1
 have hil:its.length=ns.length:=by rw[←hlen,List.length_map]
 refine call_sum_walkG (wpAny_pyIter_list isl ?_)
 refine⟨s.heap.objs.size,[s.heap.objs.size,p],[s.heap.objs.size],_,_,_,fun i=>ns.getD i 0,rfl,Walks.list (by first | exact I.ok.hd hc | (show X.A.in1.handled=none;exact I.ok.hd hc)) s.heap.objs.size p (Nat.ne_of_lt below) its.toArray,⟨⟨_,Heap.get?_push_size _ rfl,rfl,rfl⟩,isl.at fun o q=>Heap.get?_push_of_some _ q⟩,?_,?_,?_⟩
 ·intro b hb
  rw[Heap.size_push]
  simp only[List.mem_cons,List.not_mem_nil,or_false] at hb
  rcases hb with rfl | rfl
  ·exact Nat.lt_succ_self _
  ·exact Nat.lt_succ_of_lt below
 ·intro i v hv
  have hi:i<ns.length:=by
   have:=(Array.getElem?_eq_some_iff.mp hv).1
   simp at this;lia
  obtain⟨u,hu,ru⟩:=rv.get (show(ns.map V.int)[i]?=some (.int ns[i]) by simp[hi])
  have:its[i]?=some v:=by simpa using hv
  rw[hu] at this
  cases this
  obtain⟨t,rfl⟩:=ru
  exact⟨t,by simp[hi]⟩
 ·intro h' tk t' hk
  refine⟨.int ns.sum,H,?_,⟨t',?_⟩,q⟩
  ·exact I.kept (h':=h') (t':=tk) fun b o e=>hk b o (by simp;exact Nat.ne_of_lt (Heap.lt_size e)) (Heap.get?_push_of_some _ e)
  ·rw[show its.toArray.size=ns.length by simp[hil],i6 _ (Nat.le_refl _),List.take_length]
variable{e:Expr}{te:TE}{p pos:Pos}
def oM(te:TE):TE:=fun σ H Q=>te σ H fun x H1=>∃(a:Addr) (ns:List Int),x=.ref a∧H1 a=some (.lst (ns.map V.int))∧Q (.int ns.sum) H1
theorem kD(hc:X.calm=true)(hm:X.mg "sum"=none)(ha:PE X e te)(hg:Gl X "sum":=by rfl)(he:starEach [e] X.env=[(false,eval e X.env)]:=by rfl):PE X (.Call (.Name "sum" p) [e] [] pos) (oM te):=
 dC (r:=r1 fun x H Q=>∃(a:Addr) (ns:List Int),x=.ref a∧H a=some (.lst (ns.map V.int))∧Q (.int ns.sum) H) (cW fun pins s σ H x us Q I rv ⟨a,ns,ex,h1,q⟩=>l4 hc pins s σ H _ us Q I rv ⟨a,ns,by rw[ex],h1,q⟩) hg hm pK (aa ha ab (by exact he)) (he:=by exact he)
end
section
variable{prog:Program}{w:World}{κ:Type}[DecidableEq κ]{knd:HeapKind prog w κ}{A:Around}{E:Value→Shared→Prop}{s:Shared}
end
section
variable{X:Cx}{pins:List (Addr×Obj)}{σ:St}{H:Hp}{s:Shared}{a c:Addr}{kvs:List (List aM×V)}{k:List aM}{v:V}{r:Value}{A:Around}{E:Value→Shared→Prop}
end
section
variable{X:Cx}{e:Expr}{te:TE}{p pos:Pos}
end
section
variable{prog:Program}{w:World}{A:Around}{E:Value→Shared→Prop}{s:Shared}{it d:Addr}{i n ep:Nat}{od:Obj}{es:Array DictEntry}
end
section
variable{X:Cx}
end
section
variable{prog:Program}{w:World}{A:Around}{E:Value→Shared→Prop}{s:Shared}{it d:Addr}{i n ep:Nat}{od:Obj}{es:Array DictEntry}
end
section
variable{s:Shared}{prog:Program}{w:World}{A:Around}{E:Value→Shared→Prop}
end
def au:List Int→List Int→Bool
 | [],[]=>false
 | [],_::_=>true
 | _::_,[]=>false
 | x::xs,y::ys=>if x=y then au xs ys else decide (x<y)
theorem rC:∀ys:List Int,au [] ys=decide (0<ys.length)
 | []=>rfl
 | _::_=>by simp[au]
theorem m7:∀xs:List Int,au xs []=false
 | []=>rfl
 | _::_=>rfl
section
open SeqAt MeetsSeq MeetsSeq2 MeetsSeq3 SeqRoads2
open AutoSeq1 (wpAny_loadPart')
def LtAt(A:Around)(s:Shared)(y x:Value)(b:Bool):Prop:=∀(prog:Program) (w:World) (E:Value→Shared→Prop) (Q:Value→Shared→Prop),Q (.bool b) s→wpAny (model prog w) A (richCompare .Lt y x) Q E s
def l6(a b:Int)(xs ys:List Int):Bool:=if a=b then au xs ys else decide (a<b)
theorem ip:∀xs:List Int,au xs xs=false
 | []=>rfl
 | x::xs=>by simp only[au,if_true];exact ip xs
end
theorem bM{C:List Value→Prop}(h:∀a,C [a]):∀us:List Value,us.length=1→C us
 | [a],_=>h a
theorem cE{C:List Value→Prop}(h:∀a b,C [a,b]):∀us:List Value,us.length=2→C us
 | [a,b],_=>h a b
theorem dj{C:List Value→Prop}(h:∀a b c,C [a,b,c]):∀us:List Value,us.length=3→C us
 | [a,b,c],_=>h a b c
theorem gx{C:List Value→Prop}(h:∀a b c d,C [a,b,c,d]):∀us:List Value,us.length=4→C us
 | [a,b,c,d],_=>h a b c d
theorem mY{K:PySem.W.Frag}{a:Addr}{xs:List V}{g:TG}{tb:TS}{D:Ends}{σ:St}{H:Hp}(Pv:Nat→St→Hp→Prop)(h0:Pv 0 σ H)(hl:∀i σ H,i≤xs.length→Pv i σ H→SqL K H a xs)(hs:∀(D2:Ends) i x σ H,(∀σ' H',Pv (i+1) σ' H'→D2.nx σ' H')→xs[i]?=some x→Pv i σ H→g x σ H fun σ2 H2=>tb D2 σ2 H2)(hd:∀σ H,Pv xs.length σ H→D.nx σ H):FW (bV K a) g tb D σ H:=
 fU Pv h0 hl (fun i x σ H hx p=>hs _ i x σ H (fun _ _ h=>h) hx p) hd
section
variable{X:Cx}{tg:Expr}
end
section
variable{X:Cx}{a b c:Expr}{ta:TA}{p p2 pos pos2:Pos}
end
theorem dF:∀{xs ys zs:List Int},au xs ys=true→au ys zs=true→au xs zs=true
 | [],[],_,h,_=>by simp[au] at h
 | [],_::_,[],_,h=>by simp[au] at h
 | [],_::_,_::_,_,_=>(rfl:true=true)
 | _::_,[],_,h,_=>by simp[au] at h
 | _::_,_::_,[],_,h=>by simp[au] at h
 | x::xs,y::ys,z::zs,h1,h2=>by
   simp only[au] at h1 h2 ⊢
   by_cases e1:x=y
   ·rw[if_pos e1] at h1
    by_cases e2:y=z
    ·rw[if_pos e2] at h2
     rw[if_pos (e1.trans e2)]
     exact dF h1 h2
    ·rw[if_neg e2] at h2
     rw[if_neg (by rw[e1];exact e2),e1]
     exact h2
   ·rw[if_neg e1] at h1
    have l1:=of_decide_eq_true h1
    by_cases e2:y=z
    ·rw[if_neg (by rw[←e2];exact e1),←e2]
     exact h1
    ·rw[if_neg e2] at h2
     have l2:=of_decide_eq_true h2
     rw[if_neg (by lia)]
     exact decide_eq_true (Int.lt_trans l1 l2)
abbrev K3:=Int×Int×List Int
section
variable{s:Shared}{prog:Program}{w:World}{A:Around}{E:Value→Shared→Prop}
end
section
open SeqAt MeetsSeq MeetsSeq2 MeetsSeq3 SeqRoads2
open AutoSeq1 (wpAny_loadPart')
end
def mv(isL:Bool)(H:Hp)(c:Addr)(k:K3):Prop:=match isL with
 | false=>∃d:Int,k.2.2=[d]∧H c=some (.tup [.int k.1,.int k.2.1,.int d])
 | true=>∃g:Addr,H c=some (.tup [.int k.1,.int k.2.1,.ref g])∧H g=some (.lst (k.2.2.map V.int))
structure Trips(isL:Bool)(H:Hp)(cs:List Addr)(ks:List K3):Prop where
 len:cs.length=ks.length
 at_:∀(i:Nat) (c:Addr) (k:K3),cs[i]?=some c→ks[i]?=some k→mv isL H c k
section
variable{X:Cx}{e d:Expr}{te td:TE}{p pos kp:Pos}{k:Nat}
end
section
variable{prog:Program}{w:World}{A:Around}{E:Value→Shared→Prop}{s:Shared}
end
section
variable{X:Cx}{tg a:Expr}{ta:TA}{p p2 pos pos2:Pos}
end
section
variable{prog:Program}{w:World}{A:Around}{E:Value→Shared→Prop}{s:Shared}
end
section
variable{prog:Program}{w:World}{A:Around}{E:Value→Shared→Prop}{s:Shared}
end
structure RoomH(k:Nat)(A:Around):Prop where
 dp:A.depth+3*k+5<recursionLimit
 un:A.units+16*k+200<cLine
structure FnHOk(P:Program)(w:World)(K:PySem.W.Frag)(mg:Str→Option Value)(base:Heap)(k:Nat)(f:Addr)(fd:FuncData)(ps:List Str)(sp:Sp):Prop where
 len:∀vs H Q E,sp vs H Q E→vs.length=ps.length
 run:∀(A:Around) (outer:List Env) (s:Shared) (H:Hp) (args:Args) (us:List Value) (vs:List V) (Q:VK),RoomH k A→Env0 P w K mg base A outer s H→BindsTo s fd args (ps.zip us)→Vals vs us→sp vs H Q E0→
  codeAny (model P w) A (.call (.ref f) args) (CR ad outer P w H s Q E0) s
structure FnH(P:Program)(w:World)(K:PySem.W.Frag)(mg:Str→Option Value)(base:Heap)(x:Str)(k:Nat)(ps:List Str)(sp:Sp):Prop where
 ex:∃f fd,FnHOk P w K mg base k f fd ps sp∧mg x=some (.ref f)∧PySem.W.keepIn K (.ref f)=true∧Binds K fd ps []
section
variable{X:Cx}{e:Expr}{te:TE}{p pos:Pos}
end
section
variable{X:Cx}
end
section
variable{X:Cx}{a b c:Expr}{ta:TA}{p p2 pos pos2:Pos}
end
section
variable{prog:Program}{w:World}{A:Around}{E:Value→Shared→Prop}{s:Shared}
end
section
variable{prog:Program}{w:World}{κ:Type}[DecidableEq κ]{knd:KeyKind prog w κ}{A:Around}{E:Value→Shared→Prop}{s:Shared}
end
section
variable{X:Cx}{pins:List (Addr×Obj)}{σ:St}{H:Hp}{s:Shared}
end
section
variable{X:Cx}{e:Expr}{te:TE}{p pos:Pos}
end
section
variable{X:Cx}{e:Expr}{te:TE}{p pos:Pos}
end
section
variable{prog:Program}{w:World}{A:Around}{E:Value→Shared→Prop}{s:Shared}{a₀:Array Keyed}
end
section
variable{prog:Program}{w:World}{κ:Type}[DecidableEq κ]{knd:KeyKind prog w κ}{A:Around}{E:Value→Shared→Prop}{s:Shared}
end
theorem ny:bootBuiltins "sorted"=some (.builtin "sorted"):=by decide+kernel
section
variable{X:Cx}{e:Expr}{te:TE}{p pos:Pos}
end
section
variable{prog:Program}{w:World}{A:Around}{E:Value→Shared→Prop}{s:Shared}
end
section
open SeqAt MeetsSeq MeetsSeq2 MeetsSeq3 SeqRoads2
open AutoSeq1 (wpAny_loadPart')
def aj(t:List Nat):List Int:=t.map fun(c:Nat)=>(c:Int)
def cy(xs:List Nat)(items:Array Value):Prop:=items.size=xs.length∧∀(j:Nat) (h:j<items.size),∃(x:Nat) (t:Tok),xs[j]?=some x∧items[j]=.str (aC x) t
theorem LtAt.signs{A:Around}{s:Shared}{c d:Nat}{t u:Tok}:LtAt A s (.str (aC c) t) (.str (aC d) u) (decide ((c:Int)<(d:Int))):=fun prog w E Q h=>by
 have e:decide ((aC c).cps.toList<(aC d).cps.toList)=decide ((c:Int)<(d:Int)):=by
  apply decide_eq_decide.mpr
  show [c] < [d]↔_
  rw[List.cons_lt_cons_iff]
  simp
 rw[←e] at h
 exact richCompare_gives (op:=.Lt) (typeIs_str s _ t) (typeIs_str s _ u) F.slot_str_lt F.entry_str_lt (F.args_str_lt_2 _ _) (gives_str_lt _ _ t u) (fun x=>nomatch x) h
theorem nK{A:Around}{s:Shared}{c d:Nat}{t u:Tok}:EqAt A s (.str (aC c) t) (.str (aC d) u) (decide ((c:Int)=(d:Int))):=by
 have:=rK (A:=A) (s:=s) (y:=sg c) (x:=sg d) (u:=.str (aC c) t) (v:=.str (aC d) u) ⟨t,rfl⟩ ⟨u,rfl⟩ rfl rfl
 have e:kr (sg c) (sg d)=decide ((c:Int)=(d:Int)):=by
  show(aC c == aC d)=_
  by_cases h:c=d
  ·subst h;simp
  ·rw[decide_eq_false (by lia)]
   refine beq_eq_false_iff_ne.mpr fun q=>h ?_
   have:=congrArg (fun z:Str=>z.cps) q
   simpa using this
 rw[e] at this
 exact this
theorem o6{l b:Addr}{items items2:Array Value}{n n2:Nat}{dd dd2:Option Addr}{sl sl2:Array (Option Value)}{xs ys:List Nat}(N1:cy xs items)(N2:cy ys items2)(k:Nat):∀i:Nat,items.size-i=k→i≤items.size→i≤items2.size→Meets (Builtin.«list.__eq__.loop» ⟨[.ref l,.ref b,rawInt i,rawInt 0],[]⟩) (fun A R s=>s.heap.get? l=some {cls:=.type "list",dict:=dd,data:=.seq items n,slots:=sl}∧s.heap.get? b=some {cls:=.type "list",dict:=dd2,data:=.seq items2 n2,slots:=sl2}∧R (.ok (.ret (.bool (au ((aj xs).drop i) ((aj ys).drop i))))) s):=by
 have L1:(aj xs).length=xs.length:=List.length_map ..
 have L2:(aj ys).length=ys.length:=List.length_map ..
 have gt:∀(zs:List Nat) (i x:Nat),zs[i]?=some x→(aj zs)[i]?=some (x:Int):=fun zs i x h=>by unfold aj;rw[List.getElem?_map,h];rfl
 induction k with
 | zero=>
   intro i hk hle hle2 prog w A R s h
   obtain⟨hp,g,d,tk,os⟩:=s;obtain⟨hl,hb,h⟩:=h
   wp_walk using wpAny_loadPart' hl,wpAny_loadPart' hb
   have none1:items[((i:Nat):Int).toNat]?=none:=by simp;lia
   have e1:(aj xs).drop i=[]:=List.drop_eq_nil_of_le (by rw[L1,←N1.1];lia)
   rw[e1,rC,List.length_drop,L2,←N2.1] at h
   rw[none1]
   wp_walk using wpAny_loadPart' hl,wpAny_loadPart' hb
   have e2:decide (items.size<items2.size)=decide (0<items2.size-i):=decide_eq_decide.mpr (by lia)
   show R (.ok (.ret (.bool (decide (items.size<items2.size))))) _
   rw[e2]
   exact h
 | succ k ih=>
   intro i hk hle hle2 prog w A R s h
   obtain⟨hp,g,d,tk,os⟩:=s;obtain⟨hl,hb,h⟩:=h
   have lt1:i<items.size:=by lia
   by_cases iA:i<items2.size
   ·obtain⟨x,t,hx',ex⟩:=N1.2 i lt1
    obtain⟨y,u,hy',ey⟩:=N2.2 i iA
    have hx:=gt _ _ _ hx'
    have hy:=gt _ _ _ hy'
    have dx:(aj xs).drop i=(x:Int)::(aj xs).drop (i+1):=by
     obtain⟨q1,q2⟩:=List.getElem?_eq_some_iff.mp hx
     rw[List.drop_eq_getElem_cons q1,q2]
    have dy:(aj ys).drop i=(y:Int)::(aj ys).drop (i+1):=by
     obtain⟨q1,q2⟩:=List.getElem?_eq_some_iff.mp hy
     rw[List.drop_eq_getElem_cons q1,q2]
    wp_walk using wpAny_loadPart' hl,wpAny_loadPart' hb
    have at1:items[((i:Nat):Int).toNat]?=some (.str (aC x) t):=by simp[lt1,ex]
    have at2:items2[((i:Nat):Int).toNat]?=some (.str (aC y) u):=by simp[iA,ey]
    have hc:((i:Int)+1)=((i+1:Nat):Int):=by push_cast;rfl
    rw[dx,dy] at h
    simp only[au] at h
    rw[at1,at2]
    refine wpAny_bind (nK prog w _ _ ?_)
    by_cases exy:(x:Int)=y
    ·rw[if_pos exy] at h
     rw[decide_eq_true exy]
     wp_walk
     rw[hc]
     exact⟨plainId_quiet plain_eq_loop _,codeAny_builtin entry_eq_loop (by
      rw[Around.under_plainId plain_eq_loop _]
      exact ih (i+1) (by lia) (by lia) (by lia) prog w A R _ ⟨hl,hb,h⟩)⟩
    ·rw[if_neg exy] at h
     rw[decide_eq_false exy]
     wp_walk using wpAny_loadPart' hl,wpAny_loadPart' hb
     rw[at1,at2]
     refine wpAny_bind (LtAt.signs prog w _ _ ?_)
     wp_walk
     exact h
   ·wp_walk using wpAny_loadPart' hl,wpAny_loadPart' hb
    obtain⟨x,t,hx,ex⟩:=N1.2 i lt1
    have at1:items[((i:Nat):Int).toNat]?=some (.str (aC x) t):=by simp[lt1,ex]
    have none2:items2[((i:Nat):Int).toNat]?=none:=by simp;lia
    have e1:(aj ys).drop i=[]:=List.drop_eq_nil_of_le (by rw[L2,←N2.1];lia)
    rw[e1,m7] at h
    rw[at1,none2]
    wp_walk using wpAny_loadPart' hl,wpAny_loadPart' hb
    have e2:decide (items.size<items2.size)=false:=decide_eq_false (by lia)
    show R (.ok (.ret (.bool (decide (items.size<items2.size))))) _
    rw[e2]
    exact h
theorem mC{l b:Addr}{items items2:Array Value}{n n2:Nat}{dd dd2:Option Addr}{sl sl2:Array (Option Value)}{xs ys:List Nat}(N1:cy xs items)(N2:cy ys items2):Meets (Builtin.«list.__lt__» ⟨[.ref l,.ref b],[]⟩) (fun A R s=>s.heap.get? l=some {cls:=.type "list",dict:=dd,data:=.seq items n,slots:=sl}∧s.heap.get? b=some {cls:=.type "list",dict:=dd2,data:=.seq items2 n2,slots:=sl2}∧R (.ok (.ret (.bool (au (aj xs) (aj ys))))) s):=by
 intro prog w A R s h
 obtain⟨hp,g,d,tk,os⟩:=s;obtain⟨hl,hb,h⟩:=h
 have sub:=AutoSeq1.sub_list_list
 wp_walk using wpAny_loadPart' hl,wpAny_loadPart' hb
 exact⟨plainId_quiet plain_eq_loop _,codeAny_builtin entry_eq_loop (by
  rw[Around.under_plainId plain_eq_loop _]
  exact o6 N1 N2 _ 0 rfl (Nat.zero_le _) (Nat.zero_le _) prog w A R _ ⟨hl,hb,by simpa using h⟩)⟩
theorem qc{xs:List Nat}{its:List Value}(r:Vals (xs.map sg) its):cy xs its.toArray:=by
 have hl:=r.length
 rw[List.length_map] at hl
 refine⟨by rw[List.size_toArray];lia,fun j h=>?_⟩
 have hj:j<xs.length:=by rw[List.size_toArray] at h;lia
 obtain⟨u,hu,ru⟩:=r.get (show(xs.map sg)[j]?=some (sg xs[j]) by simp[hj])
 obtain⟨t,rfl⟩:=ru
 refine⟨xs[j],t,List.getElem?_eq_getElem hj,?_⟩
 have h2:=(List.getElem?_eq_some_iff.mp hu).2
 simpa using h2
end
abbrev K2:=Int×List Nat
def iA(x y:K2):Bool:=l6 x.1 y.1 (aj x.2) (aj y.2)
def oZ(H:Hp)(c:Addr)(k:K2):Prop:=(∀x∈k.2,x<0x110000)∧∃g:Addr,H c=some (.tup [.int k.1,.ref g])∧H g=some (.lst (k.2.map sg))
structure Pairs2(H:Hp)(cs:List Addr)(ks:List K2):Prop where
 len:cs.length=ks.length
 at_:∀(i:Nat) (c:Addr) (k:K2),cs[i]?=some c→ks[i]?=some k→oZ H c k
section
variable{X:Cx}{e d:Expr}{te td:TE}{p pos kp:Pos}{k:Nat}
end
section
variable{X:Cx}{tg a b c:Expr}{ta:TA}{p pos:Pos}
end
section
variable{X:Cx}{a:Expr}{ta:TA}{p p2 pos pos2:Pos}
end
end L2
namespace L2
open PySem PySem.Spec PyProof.Rows PySem.W
section
variable{prog:Program}{w:World}{A:Around}{E:Value→Shared→Prop}{s:Shared}
end
section
variable{X:Cx}{e:Expr}{te:TE}{p pos:Pos}
end
theorem rH:∀k:Fin 26,Builtin.Str.occurrences "abcdefghijklmnopqrstuvwxyz" ⟨#[97+k.val]⟩ 0 26 1=[k.val]:=by decide+kernel
def rL:V→List V→Hp→VK→Prop:=fun x vs H Q=>∃c:Nat,x=.str "abcdefghijklmnopqrstuvwxyz"∧vs=[sg c]∧97≤c∧c≤122∧Q (.int ((c-97:Nat):Int)) H
theorem rV{X:Cx}:gv X "str.index" rL:=by
 intro pins s σ H x vs v us Q I rx rv h
 obtain⟨c,rfl,rfl,h1,h2,q⟩:=h
 obtain⟨t,rfl⟩:=rx
 obtain⟨u,rfl,ru⟩:=rv.one
 obtain⟨t',rfl⟩:=ru
 have e:=rH ⟨c-97,by lia⟩
 rw[show 97+(⟨c-97,by lia⟩:Fin 26).val=c by show 97+(c-97)=c;lia] at e
 exact call_gives F.slot_str_index (typeIs_str s _ t) F.entry_str_index (F.args_str_index_2 _ _) (gives_str_index _ _ t t' (c-97) [] e) ⟨.int ((c-97:Nat):Int),H,I.kept (h':=s.heap) (t':=s.toks+1) (fun b o e=>e),⟨_,rfl⟩,q⟩
structure Ordr(κ:Type) where
 lt:κ→κ→Bool
 irr:∀a,lt a a=false
 tr:∀a b c,lt a b=true→lt b c=true→lt a c=true
 neg:∀a b c,lt a c=true→lt a b=true∨lt b c=true
namespace Ordr
variable{κ:Type}(O:Ordr κ)
def le(a b:κ):Prop:=O.lt b a=false
variable{O}
theorem le_refl(a:κ):O.le a a:=O.irr a
theorem le_of_lt{a b:κ}(h:O.lt a b=true):O.le a b:=by
 cases z:O.lt b a with
 | false=>exact z
 | true=>have:=O.tr _ _ _ h z;rw[O.irr] at this;cases this
theorem le_trans{a b c:κ}(h1:O.le a b)(h2:O.le b c):O.le a c:=by
 cases z:O.lt c a with
 | false=>exact z
 | true=>
   rcases O.neg _ b _ z with y | y
   ·rw[show O.lt c b=false from h2] at y;cases y
   ·rw[show O.lt b a=false from h1] at y;cases y
theorem lt_le{a b c:κ}(h1:O.lt a b=true)(h2:O.le b c):O.lt a c=true:=by
 rcases O.neg _ c _ h1 with y | y
 ·exact y
 ·rw[show O.lt c b=false from h2] at y;cases y
theorem le_lt{a b c:κ}(h1:O.le a b)(h2:O.lt b c=true):O.lt a c=true:=by
 rcases O.neg _ a _ h2 with y | y
 ·rw[show O.lt b a=false from h1] at y;cases y
 ·exact y
theorem le_not{a b:κ}(h:¬O.lt a b=true):O.le b a:=by
 cases z:O.lt a b with
 | false=>exact z
 | true=>exact absurd z h
end Ordr
section
variable{κ:Type}(O:Ordr κ)(key:Keyed→κ)
def kk(a:Array Keyed)(i:Nat):κ:=key ((a[i]?).getD (.none,.none))
theorem bb{a b:Array Keyed}{i j:Nat}(h:a[i]?=b[j]?):kk key a i=kk key b j:=by unfold kk;rw[h]
def Rise(a:Array Keyed)(lo hi:Nat):Prop:=∀i j,lo≤i→i≤j→j<hi→O.le (kk key a i) (kk key a j)
def OnlyA(a b:Array Keyed)(lo hi:Nat):Prop:=∀i,i<lo∨hi≤i→b[i]?=a[i]?
structure Bas(a₀:Array Keyed)(kd:SortKind)(st:SortSt):Prop where
 perm:(arrOf st).Perm a₀
 kind:kindOf st=kd
 failed:failedOf st=none
theorem OnlyA.refl(a:Array Keyed)(lo hi:Nat):OnlyA a a lo hi:=fun _ _=>rfl
theorem OnlyA.trans{a b c:Array Keyed}{lo hi:Nat}(h:OnlyA a b lo hi)(g:OnlyA b c lo hi):OnlyA a c lo hi:=fun i hi=>(g i hi).trans (h i hi)
theorem OnlyA.wide{a b:Array Keyed}{lo hi lo' hi':Nat}(h:OnlyA a b lo hi)(h1:lo'≤lo)(h2:hi≤hi'):OnlyA a b lo' hi':=fun i z=>h i (by lia)
theorem Rise.keep{O:Ordr κ}{key:Keyed→κ}{a b:Array Keyed}{lo hi l r:Nat}(h:Rise O key a l r)(g:OnlyA a b lo hi)(d:r≤lo∨hi≤l):Rise O key b l r:=fun i j h1 h2 h3=>by
 rw[bb key (g i (by lia)),bb key (g j (by lia))]
 exact h i j h1 h2 h3
theorem jP{O:Ordr κ}{key:Keyed→κ}{a:Array Keyed}{lo hi:Nat}(h:∀i,lo≤i→i+1<hi→O.le (kk key a i) (kk key a (i+1))):Rise O key a lo hi:=by
 intro i j h1 h2 h3
 induction j with
 | zero => have:i=0:=by lia
           subst this;exact Ordr.le_refl _
 | succ j ih=>
   by_cases e:i=j+1
   ·subst e;exact Ordr.le_refl _
   ·exact Ordr.le_trans (ih (by lia) (by lia)) (h j (by lia) (by lia))
variable{prog:Program}{w:World}{A:Around}{E:Value→Shared→Prop}{s:Shared}{a₀:Array Keyed}{kd:SortKind}
def bB(prog:Program)(w:World)(A:Around)(E:Value→Shared→Prop)(s:Shared)(a₀:Array Keyed)(kd:SortKind):Prop:=∀x y,x∈a₀→y∈a₀→∀(st:SortSt) (Q:Option Bool→SortSt→Prop),kindOf st=kd→Q (some (O.lt (key x) (key y))) st→wpS (model prog w) A E s (lt' x y) Q st
variable{O key}
theorem Bas.size{st:SortSt}(h:Bas a₀ kd st):(arrOf st).size=a₀.size:=h.perm.size_eq
theorem Bas.at{st:SortSt}(h:Bas a₀ kd st){i:Nat}(hi:i<a₀.size):∃x,(arrOf st)[i]?=some x∧x∈a₀:=by
 have hl:i<(arrOf st).size:=by rw[h.size];exact hi
 refine⟨(arrOf st)[i],by simp[hl],?_⟩
 exact h.perm.mem_iff.mp (Array.getElem_mem hl)
theorem Bas.set{st:SortSt}(h:Bas a₀ kd st){xs:Array Keyed}(hp:xs.Perm (arrOf st)):Bas a₀ kd (setArr st xs):=⟨hp.trans h.perm,h.kind,h.failed⟩
theorem dm(C:bB O key prog w A E s a₀ kd){st:SortSt}{i j:Nat}{Q:Option Bool→SortSt→Prop}(hB:Bas a₀ kd st)(hi:i<a₀.size)(hj:j<a₀.size)(h:Q (some (O.lt (kk key (arrOf st) i) (kk key (arrOf st) j))) st):wpS (model prog w) A E s (ltAt' i j) Q st:=by
 obtain⟨x,e1,m1⟩:=hB.at hi
 obtain⟨y,e2,m2⟩:=hB.at hj
 rw[ltAt'_eq]
 refine wpS_bind (wpS_get ?_)
 show wpS _ _ _ _ (do let x←elem' (arrOf st) i;let y←elem' (arrOf st) j;lt' x y) Q st
 rw[elem'_eq,elem'_eq,e1,e2]
 refine wpS_bind (wpS_pure (wpS_bind (wpS_pure (C x y m1 m2 st Q hB.kind ?_))))
 unfold kk at h
 rw[e1,e2] at h
 exact h
theorem mV(C:bB O key prog w A E s a₀ kd){st:SortSt}{lo n ok:Nat}{Q:Bool→SortSt→Prop}(hB:Bas a₀ kd st)(hn:lo+n≤a₀.size)(hok:ok≤n)(hs:Rise O key (arrOf st) lo (lo+ok))(h:∀st',Bas a₀ kd st'→pendingOf st'=pendingOf st→OnlyA (arrOf st) (arrOf st') lo (lo+n)→Rise O key (arrOf st') lo (lo+n)→Q true st'):wpS (model prog w) A E s (binarySort' lo n ok) Q st:=by
 rw[binarySort'_eq]
 refine wpS_bind (wpS_mono (wpS_forRange (I:=fun k c st'=>c=(none,())∧Bas a₀ kd st'∧pendingOf st'=pendingOf st∧OnlyA (arrOf st) (arrOf st') lo (lo+n)∧Rise O key (arrOf st') lo (lo+k)) (Q:=fun c st'=>c=(none,())∧Bas a₀ kd st'∧pendingOf st'=pendingOf st∧OnlyA (arrOf st) (arrOf st') lo (lo+n)∧Rise O key (arrOf st') lo (lo+max (max ok 1) n)) ?one ?last ?init) ?behind)
 case init=>
  refine⟨rfl,hB,rfl,OnlyA.refl _ _ _,fun i j h1 h2 h3=>?_⟩
  by_cases e:ok=0
  ·have:i=j:=by lia
   subst this;exact Ordr.le_refl _
  ·exact hs i j h1 h2 (by lia)
 case last=>exact fun c st' z=>z
 case behind=>
  rintro c st' ⟨rfl,hB',hp,ho,hr⟩
  refine wpS_pure (h st' hB' hp ho fun i j h1 h2 h3=>hr i j h1 h2 (by lia))
 case one=>
  rintro k c st' hk1 hk2 ⟨rfl,hB',hp,ho,hr⟩
  dsimp only
  refine wpS_bind (wpS_mono (wpS_forRange (I:=fun x c z=>z=st'∧∃l r,c=(none,l,r)∧l≤r∧r≤k∧(r-l)+x≤k∧(∀i,i<l→O.le (kk key (arrOf st') (lo+i)) (kk key (arrOf st') (lo+k)))∧(∀i,r≤i→i<k→O.lt (kk key (arrOf st') (lo+k)) (kk key (arrOf st') (lo+i))=true)) (Q:=fun c z=>z=st'∧∃l,c=(none,l,l)∧l≤k∧(∀i,i<l→O.le (kk key (arrOf st') (lo+i)) (kk key (arrOf st') (lo+k)))∧(∀i,l≤i→i<k→O.lt (kk key (arrOf st') (lo+k)) (kk key (arrOf st') (lo+i))=true)) ?in1 ?in2 ?in3) ?in4)
  case in3=>exact⟨rfl,0,k,rfl,by lia,by lia,by lia,fun i hi=>by lia,fun i h1 h2=>by lia⟩
  case in2=>
   rintro c z ⟨rfl,l,r,rfl,h1,h2,h3,h4,h5⟩
   have:l=r:=by lia
   subst this
   exact⟨rfl,l,rfl,h2,h4,h5⟩
  case in1=>
   rintro x c z _ hx ⟨rfl,l,r,rfl,h1,h2,h3,h4,h5⟩
   dsimp only
   by_cases hlr:l≥r
   ·rw[if_pos hlr]
    have:l=r:=by lia
    subst this
    exact wpS_pure ⟨rfl,l,rfl,h2,h4,h5⟩
   ·rw[if_neg hlr]
    refine wpS_bind (dm C hB' (by lia) (by lia) ?_)
    dsimp only
    have hm1:l≤(l+r) / 2:=by lia
    have hm2:(l+r) / 2<r:=by lia
    by_cases hc:O.lt (kk key (arrOf z) (lo+k)) (kk key (arrOf z) (lo+(l+r) / 2))=true
    ·rw[if_pos hc]
     refine wpS_pure ⟨rfl,l,(l+r) / 2,rfl,by lia,by lia,by lia,h4,fun i h6 h7=>?_⟩
     exact Ordr.lt_le hc (hr _ _ (by lia) (by lia) (by lia))
    ·rw[if_neg hc]
     refine wpS_pure ⟨rfl,(l+r) / 2+1,r,rfl,by lia,by lia,by lia,fun i h6=>?_,h5⟩
     exact Ordr.le_trans (hr _ _ (by lia) (by lia) (by lia)) (Ordr.le_not hc)
  case in4=>
   rintro c z ⟨rfl,l,rfl,h2,h4,h5⟩
   dsimp only
   rw[moveDown'_eq]
   refine wpS_bind (wpS_modify (wpS_pure ⟨rfl,hB'.set (bubble_perm _ _ _),hp,?_,?_⟩))
   ·intro i hi
    show(bubble (arrOf z) (lo+k) (lo+k-(lo+l)))[i]?=_
    rw[getElem?_bubble (by rw[hB'.size];lia) _ (by lia),if_neg (by lia),if_neg (by lia)]
    exact ho i hi
   ·have g:∀i,kk key (bubble (arrOf z) (lo+k) (lo+k-(lo+l))) i=if i=lo+l then kk key (arrOf z) (lo+k) else if lo+l<i∧i≤lo+k then kk key (arrOf z) (i-1) else kk key (arrOf z) i:=fun i=>by
     have:=getElem?_bubble (xs:=arrOf z) (src:=lo+k) (by rw[hB'.size];lia) (lo+k-(lo+l)) (by lia) i
     rw[show lo+k-(lo+k-(lo+l))=lo+l by lia] at this
     by_cases c1:i=lo+l
     ·rw[if_pos c1] at this ⊢;exact bb key this
     ·rw[if_neg c1] at this ⊢
      by_cases c2:lo+l<i∧i≤lo+k
      ·rw[if_pos c2] at this ⊢;exact bb key this
      ·rw[if_neg c2] at this ⊢;exact bb key this
    refine jP fun i h6 h7=>?_
    show O.le (kk key (bubble (arrOf z) (lo+k) (lo+k-(lo+l))) i) (kk key (bubble (arrOf z) (lo+k) (lo+k-(lo+l))) (i+1))
    rw[g,g]
    by_cases c1:i=lo+l
    ·rw[if_pos c1,if_neg (by lia),if_pos (by lia)]
     refine Ordr.le_of_lt ?_
     have:=h5 (i-lo) (by lia) (by lia)
     rw[show lo+(i-lo)=i+1-1 by lia] at this
     exact this
    ·rw[if_neg c1]
     by_cases c2:i+1=lo+l
     ·rw[if_neg (by lia),if_pos c2]
      have:=h4 (i-lo) (by lia)
      rw[show lo+(i-lo)=i by lia] at this
      exact this
     ·rw[if_neg c2]
      by_cases c3:lo+l<i∧i≤lo+k
      ·rw[if_pos c3,if_pos (by lia)]
       exact hr _ _ (by lia) (by lia) (by lia)
      ·rw[if_neg c3,if_neg (by lia)]
       exact hr _ _ (by lia) (by lia) (by lia)
end
section
variable{κ:Type}{O:Ordr κ}{key:Keyed→κ}{prog:Program}{w:World}{A:Around}{E:Value→Shared→Prop}{s:Shared}{a₀:Array Keyed}{kd:SortKind}
def eC(O:Ordr κ)(key:Keyed→κ)(a:Array Keyed)(lo hi:Nat):Prop:=∀i j,lo≤i→i≤j→j<hi→O.le (kk key a j) (kk key a i)
def d9(O:Ordr κ)(key:Keyed→κ)(a:Array Keyed)(lo hi:Nat):Prop:=∀i j,lo≤i→i<hi→lo≤j→j<hi→O.le (kk key a i) (kk key a j)
theorem bF{a:Array Keyed}{p q:Nat}(hq:q≤a.size)(i:Nat):kk key (mirror a p q ((q-p) / 2)) i=if p≤i∧i<q then kk key a (p+q-1-i) else kk key a i:=by
 have e:=getElem?_mirror_all (xs:=a) (i:=p) hq i
 by_cases c:p≤i∧i<q
 ·rw[if_pos c] at e ⊢;exact bb key e
 ·rw[if_neg c] at e ⊢;exact bb key e
theorem cP{a:Array Keyed}{p q lo hi:Nat}(hq:q≤a.size)(h1:lo≤p)(h2:q≤hi):OnlyA a (mirror a p q ((q-p) / 2)) lo hi:=fun i z=>by
 rw[getElem?_mirror_all hq,if_neg (by lia)]
theorem rq{a:Array Keyed}{lo hi p q:Nat}(h:eC O key a lo hi)(hq:q≤a.size)(h1:lo≤p)(h2:q≤hi)(ev:d9 O key a p q):eC O key (mirror a p q ((q-p) / 2)) lo hi:=fun i j z1 z2 z3=>by
 rw[bF hq,bF hq]
 by_cases ci:p≤i∧i<q <;> by_cases cj:p≤j∧j<q
 ·rw[if_pos ci,if_pos cj];exact ev _ _ (by lia) (by lia) (by lia) (by lia)
 ·rw[if_pos ci,if_neg cj];exact h _ _ (by lia) (by lia) (by lia)
 ·rw[if_neg ci,if_pos cj];exact h _ _ (by lia) (by lia) (by lia)
 ·rw[if_neg ci,if_neg cj];exact h _ _ z1 z2 z3
theorem dY{a:Array Keyed}{lo hi:Nat}(h:eC O key a lo hi)(hq:hi≤a.size):Rise O key (mirror a lo hi ((hi-lo) / 2)) lo hi:=fun i j z1 z2 z3=>by
 rw[bF hq,bF hq,if_pos (by lia),if_pos (by lia)]
 exact h _ _ (by lia) (by lia) (by lia)
structure Down(O:Ordr κ)(key:Keyed→κ)(a₀:Array Keyed)(kd:SortKind)(st z:SortSt)(lo nrem n q:Nat):Prop where
 bas:Bas a₀ kd z
 pend:pendingOf z=pendingOf st
 only:OnlyA (arrOf st) (arrOf z) lo (lo+nrem)
 q1:q<n
 fall:eC O key (arrOf z) lo (lo+n)
 even:d9 O key (arrOf z) (lo+n-(q+1)) (lo+n)
theorem Down.turn{st z:SortSt}{lo nrem n q:Nat}(h:Down O key a₀ kd st z lo nrem n q)(hn:n≤nrem)(hs:lo+nrem≤a₀.size):Down O key a₀ kd st (setArr z (mirror (arrOf z) (lo+n-(q+1)) (lo+n) ((lo+n-(lo+n-(q+1))) / 2))) lo nrem n 0:=by
 have q1:=h.q1
 have hz:lo+n≤(arrOf z).size:=by rw[h.bas.size];lia
 refine⟨h.bas.set (mirror_perm _ _ _ _),h.pend,h.only.trans (cP hz (by lia) (by lia)),by lia,rq h.fall hz (by lia) (Nat.le_refl _) h.even,fun i j h1 h2 h3 h4=>?_⟩
 have:i=j:=by lia
 subst this;exact Ordr.le_refl _
theorem mG(C:bB O key prog w A E s a₀ kd){st:SortSt}{lo nrem:Nat}{Q:Option Nat→SortSt→Prop}(hB:Bas a₀ kd st)(hn:lo+nrem≤a₀.size)(h1:1≤nrem)(h:∀st' n,Bas a₀ kd st'→pendingOf st'=pendingOf st→OnlyA (arrOf st) (arrOf st') lo (lo+nrem)→1≤n→n≤nrem→Rise O key (arrOf st') lo (lo+n)→Q (some n) st'):wpS (model prog w) A E s (countRun' lo nrem) Q st:=by
 rw[countRun'_eq]
 have up:∀(z:SortSt) (m:Nat),Bas a₀ kd z→1≤m→m≤nrem→Rise O key (arrOf z) lo (lo+m)→∀(Q':Option (Option Nat)×Nat→SortSt→Prop),(∀n,m≤n→n≤nrem→Rise O key (arrOf z) lo (lo+n)→(n<nrem→O.lt (kk key (arrOf z) (lo+n)) (kk key (arrOf z) (lo+n-1))=true)→Q' (none,n) z)→
  wpS (model prog w) A E s (forIn [m:nrem] ((none,m):Option (Option Nat)×Nat) fun _ r=>do
   let x←ltAt' (lo+r.2) (lo+r.2-1)
   match x with
   | some smaller=>if smaller=true then pure (ForInStep.done (none,r.2)) else pure (ForInStep.yield (none,r.2+1))
   | _=>pure (ForInStep.done (some none,r.2))) Q' z:=by
  intro z m hBz m1 m2 hr Q' hQ
  refine wpS_forRange (I:=fun x c z'=>z'=z∧c=(none,x)∧m≤x∧x≤nrem∧Rise O key (arrOf z) lo (lo+x)) ?_ ?_ ⟨rfl,rfl,Nat.le_refl _,m2,hr⟩
  ·rintro x c z' hx1 hx2 ⟨rfl,rfl,g1,g2,g3⟩
   dsimp only
   refine wpS_bind (dm C hBz (by lia) (by lia) ?_)
   dsimp only
   by_cases hc:O.lt (kk key (arrOf z') (lo+x)) (kk key (arrOf z') (lo+x-1))=true
   ·rw[if_pos hc]
    exact wpS_pure (hQ x g1 g2 g3 fun _=>hc)
   ·rw[if_neg hc]
    refine wpS_pure ⟨rfl,rfl,by lia,by lia,jP fun i z1 z2=>?_⟩
    by_cases e:i+1=lo+x
    ·rw[e,show i=lo+x-1 by lia]
     exact Ordr.le_not hc
    ·exact g3 _ _ z1 (by lia) (by lia)
  ·rintro c z' ⟨rfl,rfl,g1,g2,g3⟩
   rw[Nat.max_eq_right m2] at g1 g2 g3 ⊢
   exact hQ nrem g1 g2 g3 fun z=>absurd z (Nat.lt_irrefl _)
 have hsz:lo+nrem≤(arrOf st).size:=by rw[hB.size];exact hn
 have r1:Rise O key (arrOf st) lo (lo+1):=fun i j z1 z2 z3=>by
  have:i=j:=by lia
  subst this;exact Ordr.le_refl _
 have down:∀(z:SortSt) (m:Nat),Down O key a₀ kd st z lo nrem m 0→m≤nrem→∀(Q':Option (Option Nat)×Nat×Nat→SortSt→Prop),(∀z' n q,Down O key a₀ kd st z' lo nrem n q→n≤nrem→Q' (none,n,q) z')→
  wpS (model prog w) A E s (forIn [m:nrem] ((none,m,0):Option (Option Nat)×Nat×Nat) fun _ r=>do
   let x←ltAt' (lo+r.2.1) (lo+r.2.1-1)
   match x with
   | some smaller=>
     if smaller=true then
      if r.2.2>0 then do
       reverseSlice' (lo+r.2.1-(r.2.2+1)) (lo+r.2.1)
       pure (ForInStep.yield (none,r.2.1+1,0))
      else pure (ForInStep.yield (none,r.2.1+1,0))
     else do
      let x←ltAt' (lo+r.2.1-1) (lo+r.2.1)
      match x with
      | some larger=>if larger=true then pure (ForInStep.done (none,r.2.1,r.2.2)) else pure (ForInStep.yield (none,r.2.1+1,r.2.2+1))
      | _=>pure (ForInStep.done (some none,r.2.1,r.2.2))
   | _=>pure (ForInStep.done (some none,r.2.1,r.2.2))) Q' z:=by
  intro z m hD m2 Q' hQ
  refine wpS_forRange (I:=fun x c z'=>∃q,c=(none,x,q)∧x≤nrem∧Down O key a₀ kd st z' lo nrem x q) ?_ ?_ ⟨0,rfl,m2,hD⟩
  ·rintro x c z' hx1 hx2 ⟨q,rfl,g2,g3⟩
   dsimp only
   have q1:=g3.q1
   refine wpS_bind (dm C g3.bas (by lia) (by lia) ?_)
   dsimp only
   by_cases hc:O.lt (kk key (arrOf z') (lo+x)) (kk key (arrOf z') (lo+x-1))=true
   ·rw[if_pos hc]
    have more:∀z'':SortSt,Down O key a₀ kd st z'' lo nrem x 0→O.lt (kk key (arrOf z'') (lo+x)) (kk key (arrOf z'') (lo+x-1))=true→Down O key a₀ kd st z'' lo nrem (x+1) 0:=fun z'' D hlt=>by
     refine⟨D.bas,D.pend,D.only,by lia,fun i j z1 z2 z3=>?_,fun i j z1 z2 z3 z4=>?_⟩
     ·by_cases ej:j=lo+x
      ·subst ej
       by_cases ei:i=lo+x
       ·subst ei;exact Ordr.le_refl _
       ·exact Ordr.le_trans (Ordr.le_of_lt hlt) (D.fall _ _ z1 (by lia) (by lia))
      ·exact D.fall _ _ z1 z2 (by lia)
     ·have:i=j:=by lia
      subst this;exact Ordr.le_refl _
    by_cases hq:q>0
    ·rw[if_pos hq,reverseSlice'_eq]
     refine wpS_bind (wpS_modify (wpS_pure ⟨0,rfl,by lia,more _ (g3.turn g2 hn) ?_⟩))
     have hz:lo+x≤(arrOf z').size:=by rw[g3.bas.size];lia
     show O.lt (kk key (mirror (arrOf z') _ _ _) _) (kk key (mirror (arrOf z') _ _ _) _)=true
     rw[bF hz,bF hz,if_neg (by lia),if_pos (by lia)]
     exact Ordr.lt_le hc (g3.even _ _ (by lia) (by lia) (by lia) (by lia))
    ·rw[if_neg hq]
     have:q=0:=by lia
     subst this
     exact wpS_pure ⟨0,rfl,by lia,more _ g3 hc⟩
   ·rw[if_neg hc]
    refine wpS_bind (dm C g3.bas (by lia) (by lia) ?_)
    dsimp only
    by_cases hl:O.lt (kk key (arrOf z') (lo+x-1)) (kk key (arrOf z') (lo+x))=true
    ·rw[if_pos hl]
     exact wpS_pure (hQ _ _ _ g3 g2)
    ·rw[if_neg hl]
     have le1:=Ordr.le_not hc
     have le2:=Ordr.le_not hl
     refine wpS_pure ⟨q+1,rfl,by lia,g3.bas,g3.pend,g3.only,by lia,fun i j z1 z2 z3=>?_,fun i j z1 z2 z3 z4=>?_⟩
     ·by_cases ej:j=lo+x
      ·subst ej
       by_cases ei:i=lo+x
       ·subst ei;exact Ordr.le_refl _
       ·exact Ordr.le_trans le2 (g3.fall _ _ z1 (by lia) (by lia))
      ·exact g3.fall _ _ z1 z2 (by lia)
     ·by_cases ei:i=lo+x <;> by_cases ej:j=lo+x
      ·subst ei ej;exact Ordr.le_refl _
      ·subst ei;exact Ordr.le_trans le2 (g3.even _ _ (by lia) (by lia) (by lia) (by lia))
      ·subst ej;exact Ordr.le_trans (g3.even _ _ (by lia) (by lia) (by lia) (by lia)) le1
      ·exact g3.even _ _ (by lia) (by lia) (by lia) (by lia)
  ·rintro c z' ⟨q,rfl,g2,g3⟩
   rw[Nat.max_eq_right m2] at g2 g3 ⊢
   exact hQ _ _ _ g3 g2
 refine wpS_bind (up st 1 hB (Nat.le_refl _) h1 r1 _ fun n n1 n2 hr hlt=>?_)
 dsimp only
 by_cases en:n=nrem
 ·rw[if_pos (by rw[en];exact beq_self_eq_true _)]
  exact wpS_pure (h st n hB rfl (OnlyA.refl _ _ _) n1 n2 hr)
 ·rw[if_neg (by simpa using en)]
  have hl:=hlt (by lia)
  have dn:∀z:SortSt,Bas a₀ kd z→pendingOf z=pendingOf st→OnlyA (arrOf st) (arrOf z) lo (lo+nrem)→d9 O key (arrOf z) lo (lo+n)→O.lt (kk key (arrOf z) (lo+n)) (kk key (arrOf z) (lo+n-1))=true→Down O key a₀ kd st z lo nrem (n+1) 0:=fun z b1 b2 b3 ev hz=>by
   refine⟨b1,b2,b3,by lia,fun i j z1 z2 z3=>?_,fun i j z1 z2 z3 z4=>?_⟩
   ·by_cases ej:j=lo+n
    ·subst ej
     by_cases ei:i=lo+n
     ·subst ei;exact Ordr.le_refl _
     ·exact Ordr.le_trans (Ordr.le_of_lt hz) (ev _ _ (by lia) (by lia) (by lia) (by lia))
    ·exact ev _ _ (by lia) (by lia) (by lia) (by lia)
   ·have:i=j:=by lia
    subst this;exact Ordr.le_refl _
  by_cases hn1:n>1
  ·rw[if_pos hn1]
   refine wpS_bind (dm C hB (by lia) (by lia) ?_)
   dsimp only
   by_cases hc:O.lt (kk key (arrOf st) lo) (kk key (arrOf st) (lo+n-1))=true
   ·rw[if_pos hc]
    exact wpS_pure (h st n hB rfl (OnlyA.refl _ _ _) n1 n2 hr)
   ·rw[if_neg hc,reverseSlice'_eq]
    have hz:lo+n≤(arrOf st).size:=by lia
    have le1:=Ordr.le_not hc
    have ev:d9 O key (arrOf st) lo (lo+n):=fun i j z1 z2 z3 z4=>Ordr.le_trans (hr i (lo+n-1) z1 (by lia) (by lia)) (Ordr.le_trans le1 (hr lo j (by lia) z3 (by lia)))
    refine wpS_bind (wpS_modify ?_)
    have D0:=dn (setArr st (mirror (arrOf st) lo (lo+n) ((lo+n-lo) / 2))) (hB.set (mirror_perm _ _ _ _)) rfl (cP hz (Nat.le_refl _) (by lia)) (fun i j z1 z2 z3 z4=>by
     show O.le (kk key (mirror (arrOf st) _ _ _) _) (kk key (mirror (arrOf st) _ _ _) _)
     rw[bF hz,bF hz,if_pos (by lia),if_pos (by lia)]
     exact ev _ _ (by lia) (by lia) (by lia) (by lia)) (by
     show O.lt (kk key (mirror (arrOf st) _ _ _) _) (kk key (mirror (arrOf st) _ _ _) _)=true
     rw[bF hz,bF hz,if_neg (by lia),if_pos (by lia)]
     exact Ordr.lt_le hl (ev _ _ (by lia) (by lia) (by lia) (by lia)))
    refine wpS_bind (wpS_lift (wpAny_rule ⟨rfl,?_⟩))
    refine wpS_bind (down _ (n+1) D0 (by lia) _ fun z' m q D1 hm=>?_)
    dsimp only
    by_cases hq:q>0
    ·rw[if_pos hq]
     refine wpS_bind ?_
     rw[reverseSlice'_eq]
     refine wpS_modify ?_
     have D2:=D1.turn hm hn
     rw[reverseSlice'_eq]
     refine wpS_bind (wpS_modify ?_)
     exact wpS_bind (up _ m (D2.bas.set (mirror_perm _ _ _ _)) (by have:=D2.q1;lia) hm (dY D2.fall (by rw[D2.bas.size];lia)) _ fun n' g1 g2 g3 _=>wpS_pure (h _ n' (D2.bas.set (mirror_perm _ _ _ _)) D2.pend (D2.only.trans (cP (by rw[D2.bas.size];lia) (Nat.le_refl _) (by lia))) (by have:=D2.q1;lia) g2 g3))
    ·rw[if_neg hq]
     have e0:q=0:=by lia
     subst e0
     rw[reverseSlice'_eq]
     refine wpS_bind (wpS_modify ?_)
     exact wpS_bind (up _ m (D1.bas.set (mirror_perm _ _ _ _)) (by have:=D1.q1;lia) hm (dY D1.fall (by rw[D1.bas.size];lia)) _ fun n' g1 g2 g3 _=>wpS_pure (h _ n' (D1.bas.set (mirror_perm _ _ _ _)) D1.pend (D1.only.trans (cP (by rw[D1.bas.size];lia) (Nat.le_refl _) (by lia))) (by have:=D1.q1;lia) g2 g3))
  ·rw[if_neg hn1]
   have:n=1:=by lia
   subst this
   have D0:=dn st hB rfl (OnlyA.refl _ _ _) (fun i j z1 z2 z3 z4=>by
    have e0:i=j:=by lia
    subst e0;exact Ordr.le_refl _) hl
   refine wpS_bind (wpS_lift (wpAny_rule ⟨rfl,?_⟩))
   refine wpS_bind (down _ (1+1) D0 (by lia) _ fun z' m q D1 hm=>?_)
   dsimp only
   by_cases hq:q>0
   ·rw[if_pos hq]
    refine wpS_bind ?_
    rw[reverseSlice'_eq]
    refine wpS_modify ?_
    have D2:=D1.turn hm hn
    rw[reverseSlice'_eq]
    refine wpS_bind (wpS_modify ?_)
    exact wpS_bind (up _ m (D2.bas.set (mirror_perm _ _ _ _)) (by have:=D2.q1;lia) hm (dY D2.fall (by rw[D2.bas.size];lia)) _ fun n' g1 g2 g3 _=>wpS_pure (h _ n' (D2.bas.set (mirror_perm _ _ _ _)) D2.pend (D2.only.trans (cP (by rw[D2.bas.size];lia) (Nat.le_refl _) (by lia))) (by have:=D2.q1;lia) g2 g3))
   ·rw[if_neg hq]
    have e0:q=0:=by lia
    subst e0
    rw[reverseSlice'_eq]
    refine wpS_bind (wpS_modify ?_)
    exact wpS_bind (up _ m (D1.bas.set (mirror_perm _ _ _ _)) (by have:=D1.q1;lia) hm (dY D1.fall (by rw[D1.bas.size];lia)) _ fun n' g1 g2 g3 _=>wpS_pure (h _ n' (D1.bas.set (mirror_perm _ _ _ _)) D1.pend (D1.only.trans (cP (by rw[D1.bas.size];lia) (Nat.le_refl _) (by lia))) (by have:=D1.q1;lia) g2 g3))
end
def cg:Bool→Keyed→Array Keyed→Nat→Nat→Nat→StateT SortSt Sem (Option Nat):=sortPriv% PySem.Builtin.gallop
theorem pi(lf:Bool)(ky:Keyed)(xs:Array Keyed)(b0 n hint:Nat):cg lf ky xs b0 n hint=(do
 let past (i:Nat):StateT SortSt Sem (Option Bool):=do
  let x←elem' xs (b0+i)
  if lf then lt' x ky else return (←lt' ky x).map (!·)
 let mut p1:=0
 let mut p2:=1
 let mut lo:=0
 let mut hi:=0
 let some rt←past hint | return none
 if rt then
  let mo:=n-hint
  for _ in [0:n] do
   if p2≥mo then break
   let some yet←past (hint+p2) | return none
   if !yet then break
   p1:=p2
   p2:=2*p2+1
  lo:=hint+p1+1
  hi:=hint+min p2 mo
 else
  let mo:=hint+1
  for _ in [0:n] do
   if p2≥mo then break
   let some yet←past (hint-p2) | return none
   if yet then break
   p1:=p2
   p2:=2*p2+1
  lo:=hint+1-min p2 mo
  hi:=hint-p1
 for _ in [0:n] do
  if lo≥hi then break
  let m:=lo+(hi-lo) / 2
  let some yet←past m | return none
  if yet then lo:=m+1 else hi:=m
 return some hi):=rfl
section
variable{κ:Type}{O:Ordr κ}{key:Keyed→κ}{prog:Program}{w:World}{A:Around}{E:Value→Shared→Prop}{s:Shared}{a₀:Array Keyed}{kd:SortKind}
structure Edge(P:Nat→Bool)(n k:Nat):Prop where
 le:k≤n
 yes:∀i,i<k→P i=true
 no:∀i,k≤i→i<n→P i=false
def aJ(O:Ordr κ)(key:Keyed→κ)(lf:Bool)(ky:Keyed)(xs:Array Keyed)(b0 i:Nat):Bool:=if lf=true then O.lt (kk key xs (b0+i)) (key ky) else !O.lt (key ky) (kk key xs (b0+i))
theorem cU(C:bB O key prog w A E s a₀ kd){st:SortSt}{lf:Bool}{ky:Keyed}{xs:Array Keyed}{b0 n hint:Nat}{Q:Option Nat→SortSt→Prop}(hk:kindOf st=kd)(mk:ky∈a₀)(mx:∀i,i<n→∃x,xs[b0+i]?=some x∧x∈a₀)(hr:Rise O key xs b0 (b0+n))(hh:hint<n)(h:∀k,Edge (aJ O key lf ky xs b0) n k→Q (some k) st):wpS (model prog w) A E s (cg lf ky xs b0 n hint) Q st:=by
 rw[pi]
 generalize hP:aJ O key lf ky xs b0=P at h
 have mono:∀i j,i≤j→j<n→P j=true→P i=true:=by
  intro i j h1 h2 h3
  rw[←hP] at h3 ⊢
  unfold aJ at h3 ⊢
  have hle:=hr (b0+i) (b0+j) (by lia) (by lia) (by lia)
  cases lf with
  | true=>
    rw[if_pos rfl] at h3 ⊢
    exact Ordr.le_lt hle h3
  | false=>
    rw[if_neg Bool.false_ne_true] at h3 ⊢
    cases z:O.lt (key ky) (kk key xs (b0+i)) with
    | false=>rfl
    | true=>rw[Ordr.lt_le z hle] at h3;cases h3
 have monoF:∀i j,i≤j→j<n→P i=false→P j=false:=fun i j h1 h2 h3=>by
  cases z:P j with
  | false=>rfl
  | true=>rw[mono i j h1 h2 z] at h3;cases h3
 have past:∀i,i<n→∀Q':Option Bool→SortSt→Prop,Q' (some (P i)) st→wpS (model prog w) A E s (do
  let x←elem' xs (b0+i)
  if lf=true then lt' x ky else do
   let y←lt' ky x
   pure (y.map (!·))) Q' st:=by
  intro i hi Q' q
  obtain⟨x,ex,mx⟩:=mx i hi
  rw[elem'_eq,ex]
  refine wpS_bind (wpS_pure ?_)
  have ek:kk key xs (b0+i)=key x:=by unfold kk;rw[ex];rfl
  rw[←hP] at q
  unfold aJ at q
  rw[ek] at q
  cases lf with
  | true=>
    rw[if_pos rfl] at q ⊢
    exact C x ky mx mk st _ hk q
  | false=>
    rw[if_neg Bool.false_ne_true] at q ⊢
    exact wpS_bind (C ky x mk mx st _ hk (wpS_pure q))
 have halves:∀lo hi,lo≤hi→hi≤n→(∀i,i<lo→P i=true)→(∀i,hi≤i→i<n→P i=false)→∀Q':Option (Option Nat)×Nat×Nat→SortSt→Prop,(∀k,Edge P n k→Q' (none,k,k) st)→
  wpS (model prog w) A E s (forIn [0:n] ((none,lo,hi):Option (Option Nat)×Nat×Nat) fun _ r=>
   if r.2.1≥r.2.2 then pure (ForInStep.done (none,r.2.1,r.2.2)) else do
    let y←(do
     let x←elem' xs (b0+(r.2.1+(r.2.2-r.2.1) / 2))
     if lf=true then lt' x ky else do
      let y←lt' ky x
      pure (y.map (!·)))
    match y with
    | some yet=>if yet=true then pure (ForInStep.yield (none,r.2.1+(r.2.2-r.2.1) / 2+1,r.2.2)) else pure (ForInStep.yield (none,r.2.1,r.2.1+(r.2.2-r.2.1) / 2))
    | _=>pure (ForInStep.done (some none,r.2.1,r.2.2))) Q' st:=by
  intro lo hi h1 h2 h3 h4 Q' hQ
  refine wpS_forRange (I:=fun x c z=>z=st∧∃l r,c=(none,l,r)∧l≤r∧r≤n∧(r-l)+x≤n∧(∀i,i<l→P i=true)∧(∀i,r≤i→i<n→P i=false)) ?_ ?_ ⟨rfl,lo,hi,rfl,h1,h2,by lia,h3,h4⟩
  ·rintro x c z _ hx ⟨rfl,l,r,rfl,g1,g2,g3,g4,g5⟩
   dsimp only
   by_cases hlr:l≥r
   ·rw[if_pos hlr]
    have e:l=r:=by lia
    subst e
    exact wpS_pure (hQ l ⟨g2,g4,g5⟩)
   ·rw[if_neg hlr]
    refine wpS_bind (past _ (by lia) _ ?_)
    dsimp only
    by_cases hc:P (l+(r-l) / 2)=true
    ·rw[if_pos hc]
     exact wpS_pure ⟨rfl,_,r,rfl,by lia,g2,by lia,fun i hi=>mono _ _ (by lia) (by lia) hc,g5⟩
    ·rw[if_neg hc]
     have hf:P (l+(r-l) / 2)=false:=by simpa using hc
     exact wpS_pure ⟨rfl,l,_,rfl,by lia,by lia,by lia,g4,fun i hi hn=>monoF _ _ hi hn hf⟩
  ·rintro c z ⟨rfl,l,r,rfl,g1,g2,g3,g4,g5⟩
   have e:l=r:=by lia
   subst e
   exact hQ l ⟨g2,g4,g5⟩
 dsimp only
 refine wpS_bind (past hint hh _ ?_)
 dsimp only
 by_cases hc:P hint=true
 ·rw[if_pos hc]
  refine wpS_bind (wpS_mono (wpS_forRange (I:=fun x c z=>z=st∧∃q1 q2,c=(none,q1,q2)∧q1<q2∧x+1≤q2∧hint+q1<n∧P (hint+q1)=true) (Q:=fun c z=>z=st∧∃q1 q2,c=(none,q1,q2)∧q1<q2∧hint+q1<n∧P (hint+q1)=true∧(q2<n-hint→P (hint+q2)=false)) ?_ ?_ ⟨rfl,0,1,rfl,by lia,by lia,by lia,hc⟩) ?_)
  ·rintro x c z _ hx ⟨rfl,q1,q2,rfl,g1,g2,g3,g4⟩
   dsimp only
   by_cases hm:q2≥n-hint
   ·rw[if_pos hm]
    exact wpS_pure ⟨rfl,q1,q2,rfl,g1,g3,g4,fun z=>by lia⟩
   ·rw[if_neg hm]
    refine wpS_bind (past _ (by lia) _ ?_)
    dsimp only
    cases hy:P (hint+q2) with
    | false=>
      rw[if_pos (by decide)]
      exact wpS_pure ⟨rfl,q1,q2,rfl,g1,g3,g4,fun _=>hy⟩
    | true=>
      rw[if_neg (by decide)]
      exact wpS_pure ⟨rfl,q2,2*q2+1,rfl,by lia,by lia,by lia,hy⟩
  ·rintro c z ⟨rfl,q1,q2,rfl,g1,g2,g3,g4⟩
   exact⟨rfl,q1,q2,rfl,g1,g3,g4,fun z=>by lia⟩
  ·rintro c z ⟨rfl,q1,q2,rfl,g1,g3,g4,g5⟩
   dsimp only
   refine wpS_bind (halves _ _ (by lia) (by lia) (fun i hi=>mono _ _ (by lia) g3 g4) (fun i h1 h2=>?_) _ fun k e=>?_)
   ·exact monoF _ _ (show hint+q2≤i by lia) h2 (g5 (by lia))
   ·exact wpS_pure (h k e)
 ·rw[if_neg hc]
  have hf:P hint=false:=by simpa using hc
  refine wpS_bind (wpS_mono (wpS_forRange (I:=fun x c z=>z=st∧∃q1 q2,c=(none,q1,q2)∧q1<q2∧x+1≤q2∧q1≤hint∧P (hint-q1)=false) (Q:=fun c z=>z=st∧∃q1 q2,c=(none,q1,q2)∧q1<q2∧q1≤hint∧P (hint-q1)=false∧(q2<hint+1→P (hint-q2)=true)) ?_ ?_ ⟨rfl,0,1,rfl,by lia,by lia,by lia,hf⟩) ?_)
  ·rintro x c z _ hx ⟨rfl,q1,q2,rfl,g1,g2,g3,g4⟩
   dsimp only
   by_cases hm:q2≥hint+1
   ·rw[if_pos hm]
    exact wpS_pure ⟨rfl,q1,q2,rfl,g1,g3,g4,fun z=>by lia⟩
   ·rw[if_neg hm]
    refine wpS_bind (past _ (by lia) _ ?_)
    dsimp only
    cases hy:P (hint-q2) with
    | true=>
      rw[if_pos rfl]
      exact wpS_pure ⟨rfl,q1,q2,rfl,g1,g3,g4,fun _=>hy⟩
    | false=>
      rw[if_neg Bool.false_ne_true]
      exact wpS_pure ⟨rfl,q2,2*q2+1,rfl,by lia,by lia,by lia,hy⟩
  ·rintro c z ⟨rfl,q1,q2,rfl,g1,g2,g3,g4⟩
   exact⟨rfl,q1,q2,rfl,g1,g3,g4,fun z=>by lia⟩
  ·rintro c z ⟨rfl,q1,q2,rfl,g1,g3,g4,g5⟩
   dsimp only
   refine wpS_bind (halves _ _ (by lia) (by lia) (fun i hi=>?_) (fun i h1 h2=>monoF _ _ h1 h2 g4) _ fun k e=>?_)
   ·exact mono _ _ (show i≤hint-q2 by lia) (by lia) (g5 (by lia))
   ·exact wpS_pure (h k e)
end
section
variable{κ:Type}{O:Ordr κ}{key:Keyed→κ}
def cG(O:Ordr κ)(key:Keyed→κ)(xs ys:List Keyed):Prop:=∀x∈xs,∀y∈ys,O.le (key x) (key y)
def Up(O:Ordr κ)(key:Keyed→κ)(xs:List Keyed):Prop:=xs.Pairwise fun x y=>O.le (key x) (key y)
structure Mg(O:Ordr κ)(key:Keyed→κ)(T out xs ys:List Keyed):Prop where
 perm:(out++(xs++ys)).Perm T
 up:Up O key out
 lx:cG O key out xs
 ly:cG O key out ys
 ux:Up O key xs
 uy:Up O key ys
theorem Up.app{xs ys:List Keyed}(h1:Up O key xs)(h2:Up O key ys)(h3:cG O key xs ys):Up O key (xs++ys):=List.pairwise_append.mpr ⟨h1,h2,h3⟩
theorem Mg.mvX{T out x1 x2 ys:List Keyed}(h:Mg O key T out (x1++x2) ys)(g:cG O key x1 ys):Mg O key T (out++x1) x2 ys:=by
 have ux:=List.pairwise_append.mp h.ux
 refine⟨by have:=h.perm;simpa using this,Up.app h.up ux.1 fun x hx y hy=>h.lx x hx y (List.mem_append_left _ hy),fun x hx y hy=>?_,fun x hx y hy=>?_,ux.2.1,h.uy⟩
 ·rcases List.mem_append.mp hx with z | z
  ·exact h.lx x z y (List.mem_append_right _ hy)
  ·exact ux.2.2 x z y hy
 ·rcases List.mem_append.mp hx with z | z
  ·exact h.ly x z y hy
  ·exact g x z y hy
theorem Mg.mvY{T out xs y1 y2:List Keyed}(h:Mg O key T out xs (y1++y2))(g:cG O key y1 xs):Mg O key T (out++y1) xs y2:=by
 have uy:=List.pairwise_append.mp h.uy
 refine⟨?_,Up.app h.up uy.1 fun x hx y hy=>h.ly x hx y (List.mem_append_left _ hy),fun x hx y hy=>?_,fun x hx y hy=>?_,h.ux,uy.2.1⟩
 ·refine List.Perm.trans ?_ h.perm
  rw[List.append_assoc]
  refine List.Perm.append_left _ ?_
  rw[←List.append_assoc,←List.append_assoc]
  exact List.Perm.append_right _ List.perm_append_comm
 ·rcases List.mem_append.mp hx with z | z
  ·exact h.lx x z y hy
  ·exact g x z y hy
 ·rcases List.mem_append.mp hx with z | z
  ·exact h.ly x z y (List.mem_append_right _ hy)
  ·exact uy.2.2 x z y hy
def Made(O:Ordr κ)(key:Keyed→κ)(T:List Keyed)(r:List Keyed):Prop:=r.Perm T∧Up O key r
theorem Mg.endY{T out xs:List Keyed}(h:Mg O key T out xs []):Made O key T (out++xs):=⟨by have:=h.perm;simpa using this,Up.app h.up h.ux h.lx⟩
theorem Mg.endX{T out xs ys:List Keyed}(h:Mg O key T out xs ys)(g:cG O key ys xs):Made O key T (out++ys++xs):=by
 refine⟨?_,Up.app (Up.app h.up h.uy h.ly) h.ux fun x hx y hy=>?_⟩
 ·refine List.Perm.trans ?_ h.perm
  rw[List.append_assoc]
  exact List.Perm.append_left _ List.perm_append_comm
 ·rcases List.mem_append.mp hx with z | z
  ·exact h.lx x z y hy
  ·exact g x z y hy
theorem rd{xs:List Keyed}{n:Nat}(h:Up O key xs):Up O key (xs.drop n):=h.sublist (List.drop_sublist _ _)
theorem mt{x y:Keyed}{xs:List Keyed}(h:Up O key (x::xs))(hy:y∈x::xs):O.le (key x) (key y):=by
 rcases List.mem_cons.mp hy with rfl | z
 ·exact Ordr.le_refl _
 ·exact(List.pairwise_cons.mp h).1 y z
end
def fJ:Array Keyed→Array Keyed→StateT SortSt Sem (Array Keyed):=sortPriv% PySem.Builtin.mergeLo
def setG(g:Nat):StateT SortSt Sem Unit:=modify fun s=>SortSt.mk' (kindOf s) (arrOf s) (pendingOf s) g (failedOf s)
theorem pA(xa xb:Array Keyed):fJ xa xb=(do
 rule "list.sort.merge-lo"
 let tot:=xa.size+xb.size
 let fin (o:Array Keyed) (i j:Nat):=o++xa.extract i xa.size++xb.extract j xb.size
 let oneA (o:Array Keyed) (i j:Nat):=o++xb.extract j xb.size++xa.extract i xa.size
 let mut o:Array Keyed:=#[←elem' xb 0]
 let mut i:=0
 let mut j:=1
 if j == xb.size then return fin o i j
 if i+1 == xa.size then return oneA o i j
 let mut mg:=gallopOf (←get)
 for _ in [0:tot] do
  let mut ca:=0
  let mut cb:=0
  for _ in [0:tot] do
   let some won←lt' (←elem' xb j) (←elem' xa i) | return fin o i j
   if won then
    o:=o.push (←elem' xb j);j:=j+1;cb:=cb+1;ca:=0
    if j == xb.size then return fin o i j
    if cb≥mg then break
   else
    o:=o.push (←elem' xa i);i:=i+1;ca:=ca+1;cb:=0
    if i+1 == xa.size then return oneA o i j
    if ca≥mg then break
  rule "list.sort.gallop"
  mg:=mg+1
  for _ in [0:tot] do
   if mg>1 then mg:=mg-1
   setG mg
   let some k←cg false (←elem' xb j) xa i (xa.size-i) 0 | return fin o i j
   ca:=k
   if k>0 then
    o:=o++xa.extract i (i+k);i:=i+k
    if i+1 == xa.size then return oneA o i j
    if i == xa.size then return fin o i j
   o:=o.push (←elem' xb j);j:=j+1
   if j == xb.size then return fin o i j
   let some k←cg true (←elem' xa i) xb j (xb.size-j) 0 | return fin o i j
   cb:=k
   if k>0 then
    o:=o++xb.extract j (j+k);j:=j+k
    if j == xb.size then return fin o i j
   o:=o.push (←elem' xa i);i:=i+1
   if i+1 == xa.size then return oneA o i j
   if ca<7 && cb<7 then break
  mg:=mg+1
  setG mg
 unsupported "internal:list.sort.merge-bound"):=rfl
section
variable{κ:Type}{O:Ordr κ}{key:Keyed→κ}{prog:Program}{w:World}{A:Around}{E:Value→Shared→Prop}{s:Shared}{a₀:Array Keyed}{kd:SortKind}
structure SamS(st z:SortSt):Prop where
 arr:arrOf z=arrOf st
 kind:kindOf z=kindOf st
 pend:pendingOf z=pendingOf st
 failed:failedOf z=failedOf st
theorem SamS.refl(st:SortSt):SamS st st:=⟨rfl,rfl,rfl,rfl⟩
theorem fc{M:Model}{z:SortSt}{g:Nat}{Q:PUnit→SortSt→Prop}(h:Q ⟨⟩ (SortSt.mk' (kindOf z) (arrOf z) (pendingOf z) g (failedOf z))):wpS M A E s (setG g) Q z:=wpS_modify h
theorem SamS.setG{st z:SortSt}(h:SamS st z)(g:Nat):SamS st (SortSt.mk' (kindOf z) (arrOf z) (pendingOf z) g (failedOf z)):=⟨h.arr,h.kind,h.pend,h.failed⟩
theorem aV{M:Model}{z:SortSt}{xs:Array Keyed}{i:Nat}{x:Keyed}{Q:Keyed→SortSt→Prop}(e:xs[i]?=some x)(h:Q x z):wpS M A E s (elem' xs i) Q z:=by
 rw[elem'_eq,e]
 exact wpS_pure h
theorem aZ{xs:Array Keyed}{i:Nat}{x:Keyed}(e:xs[i]?=some x):kk key xs i=key x:=by unfold kk;rw[e];rfl
theorem dL{xs:Array Keyed}{i:Nat}{x:Keyed}(e:xs[i]?=some x):xs.toList.drop i=x::xs.toList.drop (i+1):=by
 rw[←Array.getElem?_toList] at e
 obtain⟨h1,h2⟩:=List.getElem?_eq_some_iff.mp e
 rw[List.drop_eq_getElem_cons h1,h2]
theorem dP{xs:Array Keyed}(h:Up O key xs.toList)(lo hi:Nat)(hh:hi≤xs.size):Rise O key xs lo hi:=fun i j h1 h2 h3=>by
 have l1:i<xs.size:=by lia
 have l2:j<xs.size:=by lia
 rw[aZ (x:=xs[i]) (by simp[l1]),aZ (x:=xs[j]) (by simp[l2])]
 rcases Nat.lt_or_eq_of_le h2 with z | z
 ·have:=List.pairwise_iff_getElem.mp h i j (by simpa using l1) (by simpa using l2) z
  simpa using this
 ·subst z;exact Ordr.le_refl _
theorem ck(xs:Array Keyed)(i:Nat):(xs.extract i xs.size).toList=xs.toList.drop i:=by
 rw[Array.toList_extract,List.extract_eq_drop_take]
 exact List.take_of_length_le (by rw[List.length_drop];simp)
theorem kg(xs:Array Keyed)(i k:Nat):(xs.extract i (i+k)).toList=(xs.toList.drop i).take k:=by
 rw[Array.toList_extract,List.extract_eq_drop_take,Nat.add_sub_cancel_left]
structure JLo(O:Ordr κ)(key:Keyed→κ)(xa xb:Array Keyed)(T:List Keyed)(o:Array Keyed)(i j:Nat):Prop where
 mg:Mg O key T o.toList (xa.toList.drop i) (xb.toList.drop j)
 i1:i+1<xa.size
 j1:j<xb.size
 sz:o.size=i+j
structure Two(O:Ordr κ)(key:Keyed→κ)(a₀ xa xb:Array Keyed):Prop where
 ma:∀(i:Nat) (x:Keyed),xa[i]?=some x→x∈a₀
 mb:∀(i:Nat) (x:Keyed),xb[i]?=some x→x∈a₀
 ua:Up O key xa.toList
 ub:Up O key xb.toList
 na:1≤xa.size
 nb:1≤xb.size
 first:∀x y:Keyed,xa[0]?=some x→xb[0]?=some y→O.lt (key y) (key x)=true
 last:∀(x y:Keyed) (j:Nat),xa[xa.size-1]?=some x→xb[j]?=some y→O.lt (key y) (key x)=true
variable{xa xb:Array Keyed}{T:List Keyed}{o:Array Keyed}{i j:Nat}
theorem du(h:Mg O key T o.toList (xa.toList.drop i) (xb.toList.drop j))(e:j=xb.size):Made O key T (o++xa.extract i xa.size++xb.extract j xb.size).toList:=by
 rw[Array.toList_append,Array.toList_append,ck,ck]
 have e0:xb.toList.drop j=[]:=List.drop_eq_nil_of_le (by rw[e];simp)
 rw[e0] at h ⊢
 rw[List.append_nil]
 exact h.endY
theorem dw(W:Two O key a₀ xa xb)(h:Mg O key T o.toList (xa.toList.drop i) (xb.toList.drop j))(e:i+1=xa.size):Made O key T (o++xb.extract j xb.size++xa.extract i xa.size).toList:=by
 rw[Array.toList_append,Array.toList_append,ck,ck]
 refine h.endX fun y hy x hx=>?_
 have l1:i<xa.size:=by lia
 have ex:xa[i]?=some xa[i]:=by simp[l1]
 rw[dL ex,List.drop_eq_nil_of_le (by simp;lia)] at hx
 rw[List.mem_singleton.mp hx]
 obtain⟨q,hq⟩:=List.mem_iff_getElem?.mp hy
 rw[List.getElem?_drop,Array.getElem?_toList] at hq
 exact Ordr.le_of_lt (W.last _ y _ (by rw[show xa.size-1=i by lia];exact ex) hq)
theorem eE{xs:Array Keyed}{k:Nat}{y z:Keyed}(hu:Up O key xs.toList)(e:xs[k]?=some y)(h:O.le (key z) (key y)):cG O key [z] (xs.toList.drop k):=fun u hu' v hv=>by
 rw[List.mem_singleton.mp hu']
 rw[dL e] at hv
 have:=rd (n:=k) hu
 rw[dL e] at this
 exact Ordr.le_trans h (mt this hv)
theorem d7(W:Two O key a₀ xa xb)(h:Mg O key T o.toList (xa.toList.drop i) (xb.toList.drop j)){x y:Keyed}(ex:xa[i]?=some x)(ey:xb[j]?=some y)(hc:O.le (key y) (key x)):Mg O key T (o.push y).toList (xa.toList.drop i) (xb.toList.drop (j+1)):=by
 rw[dL ey] at h
 have:=h.mvY (y1:=[y]) (eE W.ua ex hc)
 rw[Array.toList_push]
 exact this
theorem d5(W:Two O key a₀ xa xb)(h:Mg O key T o.toList (xa.toList.drop i) (xb.toList.drop j)){x y:Keyed}(ex:xa[i]?=some x)(ey:xb[j]?=some y)(hc:O.le (key x) (key y)):Mg O key T (o.push x).toList (xa.toList.drop (i+1)) (xb.toList.drop j):=by
 rw[dL ex] at h
 have:=h.mvX (x1:=[x]) (eE W.ub ey hc)
 rw[Array.toList_push]
 exact this
theorem jR(W:Two O key a₀ xa xb){k:Nat}{y:Keyed}(ey:xb[j]?=some y)(hi:i<xa.size)(g:Edge (aJ O key false y xa i) (xa.size-i) k):i+k<xa.size∧∀x,xa[i+k]?=some x→O.lt (key y) (key x)=true:=by
 have lt:i+k<xa.size:=by
  by_cases z:i+k<xa.size
  ·exact z
  ·have hk:k=xa.size-i:=by have:=g.le;lia
   have l1:xa.size-1<xa.size:=by lia
   have ex:xa[xa.size-1]?=some xa[xa.size-1]:=by simp[l1]
   have h1:=g.yes (xa.size-1-i) (by lia)
   unfold aJ at h1
   rw[if_neg Bool.false_ne_true,show i+(xa.size-1-i)=xa.size-1 by lia,aZ ex,W.last _ y _ ex ey] at h1
   cases h1
 refine⟨lt,fun x ex=>?_⟩
 have h1:=g.no k (Nat.le_refl _) (by lia)
 unfold aJ at h1
 rw[if_neg Bool.false_ne_true,aZ ex] at h1
 cases z:O.lt (key y) (key x) with
 | true=>rfl
 | false=>rw[z] at h1;cases h1
theorem kP(W:Two O key a₀ xa xb)(h:Mg O key T o.toList (xa.toList.drop i) (xb.toList.drop j)){k:Nat}{y:Keyed}(ey:xb[j]?=some y)(g:Edge (aJ O key false y xa i) (xa.size-i) k):Mg O key T (o++xa.extract i (i+k)).toList (xa.toList.drop (i+k)) (xb.toList.drop j):=by
 rw[Array.toList_append,kg,←List.drop_drop]
 rw[←List.take_append_drop k (xa.toList.drop i)] at h
 refine h.mvX fun x hx v hv=>?_
 obtain⟨q,hq⟩:=List.mem_iff_getElem?.mp hx
 have hqk:q<k:=by
  have:=(List.getElem?_eq_some_iff.mp hq).1
  rw[List.length_take] at this;lia
 rw[List.getElem?_take_of_lt hqk,List.getElem?_drop,Array.getElem?_toList] at hq
 have h1:=g.yes q hqk
 unfold aJ at h1
 rw[if_neg Bool.false_ne_true,aZ hq] at h1
 have h2:O.le (key x) (key y):=by
  show O.lt (key y) (key x)=false
  cases z:O.lt (key y) (key x) with
  | false=>rfl
  | true=>rw[z] at h1;cases h1
 exact eE W.ub ey h2 x (List.mem_singleton.mpr rfl) v hv
theorem jY(W:Two O key a₀ xa xb)(h:Mg O key T o.toList (xa.toList.drop i) (xb.toList.drop j)){k:Nat}{x:Keyed}(ex:xa[i]?=some x)(g:Edge (aJ O key true x xb j) (xb.size-j) k):Mg O key T (o++xb.extract j (j+k)).toList (xa.toList.drop i) (xb.toList.drop (j+k))∧∀y,j+k<xb.size→xb[j+k]?=some y→O.le (key x) (key y):=by
 constructor
 ·rw[Array.toList_append,kg,←List.drop_drop]
  rw[←List.take_append_drop k (xb.toList.drop j)] at h
  refine h.mvY fun y hy v hv=>?_
  obtain⟨q,hq⟩:=List.mem_iff_getElem?.mp hy
  have hqk:q<k:=by
   have:=(List.getElem?_eq_some_iff.mp hq).1
   rw[List.length_take] at this;lia
  rw[List.getElem?_take_of_lt hqk,List.getElem?_drop,Array.getElem?_toList] at hq
  have h1:=g.yes q hqk
  unfold aJ at h1
  rw[if_pos rfl,aZ hq] at h1
  exact eE W.ua ex (Ordr.le_of_lt h1) y (List.mem_singleton.mpr rfl) v hv
 ·intro y hl ey
  have h1:=g.no k (Nat.le_refl _) (by lia)
  unfold aJ at h1
  rw[if_pos rfl,aZ ey] at h1
  exact h1
theorem aG{xs:Array Keyed}{i:Nat}(h:i<xs.size):xs[i]?=some xs[i]:=by simp[h]
theorem js(xs o:Array Keyed)(i k:Nat)(h:i+k≤xs.size):(o++xs.extract i (i+k)).size=o.size+k:=by
 rw[Array.size_append,Array.size_extract];lia
theorem kE{M:Model}{α:Type}{Q:α→SortSt→Prop}{z:SortSt}{c:Nat→Prop}{dc:∀g,Decidable (c g)}{x F:Nat→StateT SortSt Sem α}(hx:∀g,x g=F (g-1))(h:∀g,wpS M A E s (F g) Q z):∀g,wpS M A E s (@ite _ (c g) (dc g) (x g) (F g)) Q z:=fun g=>by
 rw[hx]
 split
 ·exact h _
 ·exact h _
theorem eT{M:Model}{α:Type}{Q:α→SortSt→Prop}{z:SortSt}{c:Nat→Prop}{dc:∀i,Decidable (c i)}{x F:Array Keyed→Nat→StateT SortSt Sem α}{o:Array Keyed}{i:Nat}(P:Array Keyed→Nat→Prop)(h:∀o i,P o i→wpS M A E s (F o i) Q z)(h1:c i→(∀o i,P o i→wpS M A E s (F o i) Q z)→wpS M A E s (x o i) Q z)(h2:¬c i→P o i):∀o',o=o'→∀i',i=i'→wpS M A E s (@ite _ (c i') (dc i') (x o' i') (F o' i')) Q z:=by
 rintro _ rfl _ rfl
 split
 ·exact h1 ‹_› h
 ·exact h _ _ (h2 ‹_›)
theorem lI(C:bB O key prog w A E s a₀ kd){st:SortSt}{Q:Array Keyed→SortSt→Prop}(hk:kindOf st=kd)(W:Two O key a₀ xa xb)(h:∀r z,SamS st z→Made O key (xa.toList++xb.toList) r.toList→Q r z):wpS (model prog w) A E s (fJ xa xb) Q st:=by
 obtain⟨T,hT⟩:∃T,T=xa.toList++xb.toList:=⟨_,rfl⟩
 rw[←hT] at h
 have na:=W.na
 have nb:=W.nb
 rw[pA]
 refine wpS_bind (wpS_lift (wpAny_rule ⟨rfl,?_⟩))
 dsimp only
 have ey0:=aG (xs:=xb) (i:=0) (by lia)
 have ex0:=aG (xs:=xa) (i:=0) (by lia)
 have M0:Mg O key T #[xb[0]].toList (xa.toList.drop 0) (xb.toList.drop 1):=by
  have h0:Mg O key T [] (xa.toList.drop 0) (xb.toList.drop 0):=⟨by rw[hT];simp,List.Pairwise.nil,(fun x hx=>by cases hx),(fun x hx=>by cases hx),by simpa using W.ua,by simpa using W.ub⟩
  exact d7 (o:=#[]) W h0 ex0 ey0 (Ordr.le_of_lt (W.first _ _ ex0 ey0))
 refine wpS_bind (aV ey0 ?_)
 by_cases e1:1=xb.size
 ·rw[if_pos (by rw[←e1];rfl)]
  exact wpS_pure (h _ st (SamS.refl _) (du M0 e1))
 rw[if_neg (by simpa using e1)]
 by_cases e2:0+1=xa.size
 ·rw[if_pos (by rw[←e2];rfl)]
  exact wpS_pure (h _ st (SamS.refl _) (dw W M0 e2))
 rw[if_neg (by simpa using e2)]
 refine wpS_bind (wpS_get ?_)
 have J0:JLo O key xa xb T #[xb[0]] 0 1:=⟨M0,by lia,by lia,rfl⟩
 refine wpS_bind (wpS_mono (wpS_forRange (I:=fun x c z=>SamS st z∧∃o i j g,c=(none,o,i,j,g)∧JLo O key xa xb T o i j∧x+1≤o.size) (Q:=fun c z=>SamS st z∧∃r,c.1=some r∧Made O key T r.toList) ?out1 ?out2 ⟨SamS.refl _,_,_,_,_,rfl,J0,by simp⟩) ?out3)
 case out3=>
  rintro⟨c1,c2⟩ z ⟨SS,r,e,M⟩
  dsimp only at e
  subst e
  exact wpS_pure (h r z SS M)
 case out2=>
  rintro c z ⟨SS,o,i,j,g,rfl,J,hx⟩
  have:=J.sz;have:=J.i1;have:=J.j1
  lia
 case out1=>
  rintro x0 c z _ hx0 ⟨SS,o,i,j,g,rfl,J,hx⟩
  dsimp only
  have hkz:kindOf z=kd:=SS.kind.trans hk
  refine wpS_bind (wpS_mono (wpS_forRange (I:=fun x c z'=>z'=z∧∃o' i j ca cb,c=(none,o',i,j,ca,cb)∧JLo O key xa xb T o' i j∧o.size+min x 1≤o'.size) (Q:=fun c z'=>z'=z∧((∃o' i j ca cb,c=(none,o',i,j,ca,cb)∧JLo O key xa xb T o' i j∧o.size+1≤o'.size)∨∃r,c.1=some r∧Made O key T r.toList)) ?in1 ?in2 ⟨rfl,o,i,j,0,0,rfl,J,by lia⟩) ?in3)
  case in2=>
   rintro c z' ⟨rfl,o',i,j,ca,cb,rfl,J,hp⟩
   refine⟨rfl,.inl ⟨o',i,j,ca,cb,rfl,J,?_⟩⟩
   have:min (max 0 (xa.size+xb.size)) 1=1:=by lia
   lia
  case in1=>
   rintro x c z' _ hx ⟨rfl,o',i,j,ca,cb,rfl,J,hp⟩
   dsimp only
   have ex:=aG (xs:=xa) (i:=i) (by have:=J.i1;lia)
   have ey:=aG (xs:=xb) (i:=j) J.j1
   have i1:=J.i1
   have j1:=J.j1
   refine wpS_bind (aV ey (wpS_bind (aV ex (wpS_bind (C _ _ (W.mb _ _ ey) (W.ma _ _ ex) z' _ hkz ?_)))))
   dsimp only
   by_cases hc:O.lt (key xb[j]) (key xa[i])=true
   ·rw[if_pos hc]
    refine wpS_bind (aV ey ?_)
    have M1:=d7 W J.mg ex ey (Ordr.le_of_lt hc)
    by_cases e:j+1=xb.size
    ·rw[if_pos (by simpa using e)]
     exact wpS_pure ⟨rfl,.inr ⟨_,rfl,du M1 e⟩⟩
    ·rw[if_neg (by simpa using e)]
     have J1:JLo O key xa xb T (o'.push xb[j]) i (j+1):=⟨M1,i1,by lia,by rw[Array.size_push,J.sz];lia⟩
     have sz1:o.size+1≤(o'.push xb[j]).size:=by rw[Array.size_push];lia
     split
     ·exact wpS_pure ⟨rfl,.inl ⟨_,_,_,_,_,rfl,J1,sz1⟩⟩
     ·exact wpS_pure ⟨rfl,_,_,_,_,_,rfl,J1,by lia⟩
   ·rw[if_neg hc]
    refine wpS_bind (aV ex ?_)
    have M1:=d5 W J.mg ex ey (Ordr.le_not hc)
    by_cases e:i+1+1=xa.size
    ·rw[if_pos (by simpa using e)]
     exact wpS_pure ⟨rfl,.inr ⟨_,rfl,dw W M1 e⟩⟩
    ·rw[if_neg (by simpa using e)]
     have J1:JLo O key xa xb T (o'.push xa[i]) (i+1) j:=⟨M1,by lia,j1,by rw[Array.size_push,J.sz];lia⟩
     have sz1:o.size+1≤(o'.push xa[i]).size:=by rw[Array.size_push];lia
     split
     ·exact wpS_pure ⟨rfl,.inl ⟨_,_,_,_,_,rfl,J1,sz1⟩⟩
     ·exact wpS_pure ⟨rfl,_,_,_,_,_,rfl,J1,by lia⟩
  case in3=>
   rintro c z' ⟨rfl,⟨o1,i,j,ca,cb,rfl,J1,hp⟩ | ⟨r,e,M⟩⟩
   ·dsimp only
    refine wpS_bind (wpS_lift (wpAny_rule ⟨rfl,?_⟩))
    refine wpS_bind (wpS_mono (wpS_forRange (I:=fun x c z=>SamS st z∧∃o' i j g ca cb,c=(none,o',i,j,g,ca,cb)∧JLo O key xa xb T o' i j∧o.size+1≤o'.size) (Q:=fun c z=>SamS st z∧((∃o' i j g ca cb,c=(none,o',i,j,g,ca,cb)∧JLo O key xa xb T o' i j∧o.size+1≤o'.size)∨∃r,c.1=some r∧Made O key T r.toList)) ?gl1 ?gl2 ⟨SS,o1,i,j,_,_,_,rfl,J1,hp⟩) ?gl3)
    case gl2=>
     rintro c z ⟨SS,h⟩
     exact⟨SS,.inl h⟩
    case gl3=>
     rintro c z ⟨SS,⟨o',i,j,g,ca,cb,rfl,J,hp⟩ | ⟨r,e,M⟩⟩
     ·dsimp only
      exact wpS_bind (fc (wpS_pure ⟨SS.setG _,_,_,_,_,rfl,J,by lia⟩))
     ·obtain⟨c1,c2⟩:=c
      dsimp only at e
      subst e
      exact wpS_pure ⟨SS,r,rfl,M⟩
    case gl1=>
     rintro x c z _ hx ⟨SS,o2,i,j,g,ca,cb,rfl,J,hp⟩
     dsimp only
     revert g
     refine kE (fun g=>rfl) fun g=>?_
     refine wpS_bind (fc ?_)
     have SS1:=SS.setG g
     have i1:=J.i1
     have j1:=J.j1
     have jsz:=J.sz
     have ey:=aG (xs:=xb) (i:=j) j1
     refine wpS_bind (aV ey (wpS_bind (cU C (SS1.kind.trans hk) (W.mb _ _ ey) (fun q hq=>⟨_,aG (by lia),W.ma _ _ (aG (by lia))⟩) (dP W.ua _ _ (by lia)) (by lia) fun k eg=>?_)))
     dsimp only
     have M1:=kP W J.mg ey eg
     obtain⟨lk,ltk⟩:=jR W ey (by lia) eg
     obtain⟨ax,ex⟩:∃ax,xa[i+k]?=some ax:=⟨_,aG lk⟩
     have hlt:=ltk _ ex
     have sz1:=js xa o2 i k (by lia)
     generalize hgi:i=i'
     revert i'
     generalize hgo:o2=o'
     revert o'
     refine eT (o:=o2) (i:=i) (fun o3 i3=>i3+1<xa.size∧Mg O key T o3.toList (xa.toList.drop i3) (xb.toList.drop j)∧o3.size=i3+j∧o.size+1≤o3.size∧xa[i3]?=some ax) ?b1 (fun hk0 hF=>?w1) (fun hk0=>?w2)
     case w1=>
      by_cases ea:i+k+1=xa.size
      ·rw[if_pos (by simpa using ea)]
       exact wpS_pure ⟨SS1,.inr ⟨_,rfl,dw W M1 ea⟩⟩
      ·rw[if_neg (by simpa using ea),if_neg (by simp;lia)]
       exact hF _ _ ⟨by lia,M1,by lia,by lia,ex⟩
     case w2=>
      have e5:k=0:=by lia
      subst e5
      exact⟨i1,J.mg,jsz,hp,ex⟩
     case b1=>
      rintro o3 i3 ⟨hi3,M3,z3,p3,x3⟩
      refine wpS_bind (aV ey ?_)
      have M4:=d7 W M3 x3 ey (Ordr.le_of_lt hlt)
      by_cases eb:j+1=xb.size
      ·rw[if_pos (by simpa using eb)]
       exact wpS_pure ⟨SS1,.inr ⟨_,rfl,du M4 eb⟩⟩
      ·rw[if_neg (by simpa using eb)]
       refine wpS_bind (aV x3 (wpS_bind (cU C (SS1.kind.trans hk) (W.ma _ _ x3) (fun q hq=>⟨_,aG (by lia),W.mb _ _ (aG (by lia))⟩) (dP W.ub _ _ (by lia)) (by lia) fun k2 eg2=>?_)))
       dsimp only
       obtain⟨M5,le5⟩:=jY W M4 x3 eg2
       have hk2:=eg2.le
       obtain⟨o4,e4⟩:∃o4,o4=o3.push xb[j]:=⟨_,rfl⟩
       obtain⟨j4,e8⟩:∃j4,j4=j+1:=⟨_,rfl⟩
       have sz4:o4.size=o3.size+1:=by rw[e4,Array.size_push]
       rw[←e4] at M4 M5 ⊢
       rw[←e8] at M4 M5 le5 hk2 eb ⊢
       have eQ:=js xb o4 j4 k2 (by lia)
       generalize hgi:j4=j'
       revert j'
       generalize hgo:o4=o'
       revert o'
       refine eT (o:=o4) (i:=j4) (fun o5 j5=>j5<xb.size∧Mg O key T (o5.push ax).toList (xa.toList.drop (i3+1)) (xb.toList.drop j5)∧o5.size=i3+j5∧o.size+1≤o5.size) ?b2 (fun hk0 hF=>?w3) (fun hk0=>?w4)
       case w3=>
        by_cases ec:j4+k2=xb.size
        ·rw[if_pos (by simpa using ec)]
         exact wpS_pure ⟨SS1,.inr ⟨_,rfl,du M5 ec⟩⟩
        ·rw[if_neg (by simpa using ec)]
         have ey5:=aG (xs:=xb) (i:=j4+k2) (by lia)
         exact hF _ _ ⟨by lia,d5 W M5 x3 ey5 (le5 _ (by lia) ey5),by lia,by lia⟩
       case w4=>
        have e5:k2=0:=by lia
        subst e5
        have ey5:=aG (xs:=xb) (i:=j4) (by lia)
        exact⟨by lia,d5 W M4 x3 ey5 (le5 _ (by lia) ey5),by lia,by lia⟩
       case b2=>
        rintro o5 j5 ⟨hj5,M6,z5,p5⟩
        refine wpS_bind (aV x3 ?_)
        by_cases ed:i3+1+1=xa.size
        ·rw[if_pos (by simpa using ed)]
         exact wpS_pure ⟨SS1,.inr ⟨_,rfl,dw W M6 ed⟩⟩
        ·rw[if_neg (by simpa using ed)]
         have J6:JLo O key xa xb T (o5.push ax) (i3+1) j5:=⟨M6,by lia,by lia,by rw[Array.size_push];lia⟩
         have p6:=J6.sz
         split
         ·exact wpS_pure ⟨SS1,.inl ⟨_,_,_,_,_,_,rfl,J6,by rw[p6];lia⟩⟩
         ·exact wpS_pure ⟨SS1,_,_,_,_,_,_,rfl,J6,by rw[p6];lia⟩
   ·obtain⟨c1,c2⟩:=c
    dsimp only at e
    subst e
    exact wpS_pure ⟨SS,r,rfl,M⟩
end
def Ordr.flip{κ:Type}(O:Ordr κ):Ordr κ:=⟨fun a b=>O.lt b a,O.irr,fun _ _ _ h1 h2=>O.tr _ _ _ h2 h1,fun _ b _ h=>(O.neg _ b _ h).symm⟩
def gR:Array Keyed→Array Keyed→StateT SortSt Sem (Array Keyed):=sortPriv% PySem.Builtin.mergeHi
theorem nu(xa xb:Array Keyed):gR xa xb=(do
 rule "list.sort.merge-hi"
 let tot:=xa.size+xb.size
 let fin (o:Array Keyed) (i j:Nat):=xa.extract 0 i++xb.extract 0 j++o.reverse
 let oneB (o:Array Keyed) (i j:Nat):=xb.extract 0 j++xa.extract 0 i++o.reverse
 let mut i:=xa.size-1
 let mut j:=xb.size
 let mut o:Array Keyed:=#[←elem' xa i]
 if i == 0 then return fin o i j
 if j == 1 then return oneB o i j
 let mut mg:=gallopOf (←get)
 for _ in [0:tot] do
  let mut ca:=0
  let mut cb:=0
  for _ in [0:tot] do
   let some won←lt' (←elem' xb (j-1)) (←elem' xa (i-1)) | return fin o i j
   if won then
    i:=i-1;o:=o.push (←elem' xa i);ca:=ca+1;cb:=0
    if i == 0 then return fin o i j
    if ca≥mg then break
   else
    j:=j-1;o:=o.push (←elem' xb j);cb:=cb+1;ca:=0
    if j == 1 then return oneB o i j
    if cb≥mg then break
  rule "list.sort.gallop"
  mg:=mg+1
  for _ in [0:tot] do
   if mg>1 then mg:=mg-1
   setG mg
   let some p←cg false (←elem' xb (j-1)) xa 0 i (i-1) | return fin o i j
   let k:=i-p
   ca:=k
   if k>0 then
    o:=o++(xa.extract p i).reverse;i:=p
    if i == 0 then return fin o i j
   j:=j-1;o:=o.push (←elem' xb j)
   if j == 1 then return oneB o i j
   let some p←cg true (←elem' xa (i-1)) xb 0 j (j-1) | return fin o i j
   let k:=j-p
   cb:=k
   if k>0 then
    o:=o++(xb.extract p j).reverse;j:=p
    if j == 1 then return oneB o i j
    if j == 0 then return fin o i j
   i:=i-1;o:=o.push (←elem' xa i)
   if i == 0 then return fin o i j
   if ca<7 && cb<7 then break
  mg:=mg+1
  setG mg
 unsupported "internal:list.sort.merge-bound"):=rfl
section
variable{κ:Type}{O:Ordr κ}{key:Keyed→κ}{prog:Program}{w:World}{A:Around}{E:Value→Shared→Prop}{s:Shared}{a₀:Array Keyed}{kd:SortKind}
theorem gO{xs:Array Keyed}{n q:Nat}(hn:n≤xs.size)(hq:q<n):xs.reverse[xs.size-n+q]?=xs[n-1-q]?:=by
 rw[Array.getElem?_reverse (by lia)]
 congr 1
 lia
theorem fA{xs:Array Keyed}{n q:Nat}(hn:n≤xs.size)(hq:q<n):kk key xs.reverse (xs.size-n+q)=kk key xs (n-1-q):=bb key (gO hn hq)
theorem jy(xs:Array Keyed){p n:Nat}(hp:p≤n)(hn:n≤xs.size):(xs.extract p n).reverse=xs.reverse.extract (xs.size-n) (xs.size-n+(n-p)):=by
 apply Array.ext
 ·simp;lia
 ·intro i h1 h2
  simp only[Array.getElem_reverse,Array.getElem_extract]
  simp at h1
  congr 1
  simp
  lia
theorem Up.flip{xs:List Keyed}(h:Up O key xs):Up O.flip key xs.reverse:=List.pairwise_reverse.mpr h
theorem Made.flip{T T' r:List Keyed}(h:Made O.flip key T r)(p:T.Perm T'):Made O key T' r.reverse:=⟨(List.reverse_perm _).trans (h.1.trans p),List.pairwise_reverse.mpr h.2⟩
theorem Two.flip{xa xb:Array Keyed}(W:Two O key a₀ xa xb):Two O.flip key a₀ xb.reverse xa.reverse:=by
 have na:=W.na
 have nb:=W.nb
 have gb:∀(i:Nat) (x:Keyed),xb.reverse[i]?=some x→∃j:Nat,xb[j]?=some x∧i<xb.size∧j=xb.size-1-i:=fun i x e=>by
  have hi:i<xb.size:=by
   have:=(Array.getElem?_eq_some_iff.mp e).1
   simpa using this
  rw[Array.getElem?_reverse hi] at e
  exact⟨_,e,hi,rfl⟩
 have ga:∀(i:Nat) (x:Keyed),xa.reverse[i]?=some x→∃j:Nat,xa[j]?=some x∧i<xa.size∧j=xa.size-1-i:=fun i x e=>by
  have hi:i<xa.size:=by
   have:=(Array.getElem?_eq_some_iff.mp e).1
   simpa using this
  rw[Array.getElem?_reverse hi] at e
  exact⟨_,e,hi,rfl⟩
 refine⟨fun i x e=>?_,fun i x e=>?_,by rw[Array.toList_reverse];exact W.ub.flip,by rw[Array.toList_reverse];exact W.ua.flip,by simpa using nb,by simpa using na,fun x y ex ey=>?_,fun x y j ex ey=>?_⟩
 ·obtain⟨j,e',_⟩:=gb i x e
  exact W.mb j x e'
 ·obtain⟨j,e',_⟩:=ga i x e
  exact W.ma j x e'
 ·obtain⟨j,e1,_,h1⟩:=gb 0 x ex
  obtain⟨k,e2,_,h2⟩:=ga 0 y ey
  subst h2
  exact W.last y x j e2 e1
 ·obtain⟨k,e1,_,h1⟩:=gb _ x ex
  obtain⟨m,e2,_,h2⟩:=ga _ y ey
  rw[Array.size_reverse] at h1
  have hk:k=0:=by lia
  subst hk
  have ea0:=aG (xs:=xa) (i:=0) (by lia)
  have lt0:=W.first _ x ea0 e1
  have hr:=dP W.ua 0 xa.size (Nat.le_refl _) 0 m (Nat.le_refl _) (Nat.zero_le _) (by lia)
  rw[aZ ea0,aZ e2] at hr
  have:=Ordr.lt_le (O:=O) lt0 hr
  exact this
theorem mT{xs:Array Keyed}{n p:Nat}{y:Keyed}(hn:n≤xs.size)(g:Edge (aJ O key false y xs 0) n p):Edge (aJ O.flip key true y xs.reverse (xs.size-n)) (xs.reverse.size-(xs.size-n)) (n-p):=by
 have hp:=g.le
 refine⟨by rw[Array.size_reverse];lia,fun q hq=>?_,fun q h1 h2=>?_⟩
 ·have:=g.no (n-1-q) (by lia) (by lia)
  unfold aJ at this ⊢
  rw[if_neg Bool.false_ne_true,Nat.zero_add] at this
  rw[if_pos rfl,fA hn (by lia)]
  show O.lt (key y) _=true
  cases z:O.lt (key y) (kk key xs (n-1-q)) with
  | true=>rfl
  | false=>rw[z] at this;cases this
 ·rw[Array.size_reverse] at h2
  have:=g.yes (n-1-q) (by lia)
  unfold aJ at this ⊢
  rw[if_neg Bool.false_ne_true,Nat.zero_add] at this
  rw[if_pos rfl,fA hn (by lia)]
  show O.lt (key y) _=false
  cases z:O.lt (key y) (kk key xs (n-1-q)) with
  | false=>rfl
  | true=>rw[z] at this;cases this
theorem jH{xs:Array Keyed}{n p:Nat}{y:Keyed}(hn:n≤xs.size)(g:Edge (aJ O key true y xs 0) n p):Edge (aJ O.flip key false y xs.reverse (xs.size-n)) (xs.reverse.size-(xs.size-n)) (n-p):=by
 have hp:=g.le
 refine⟨by rw[Array.size_reverse];lia,fun q hq=>?_,fun q h1 h2=>?_⟩
 ·have:=g.no (n-1-q) (by lia) (by lia)
  unfold aJ at this ⊢
  rw[if_pos rfl,Nat.zero_add] at this
  rw[if_neg Bool.false_ne_true,fA hn (by lia)]
  show(!O.lt _ (key y))=true
  rw[this];rfl
 ·rw[Array.size_reverse] at h2
  have:=g.yes (n-1-q) (by lia)
  unfold aJ at this ⊢
  rw[if_pos rfl,Nat.zero_add] at this
  rw[if_neg Bool.false_ne_true,fA hn (by lia)]
  show(!O.lt _ (key y))=false
  rw[this];rfl
variable{xa xb:Array Keyed}{T:List Keyed}{o:Array Keyed}{i j:Nat}
theorem ez(xs:Array Keyed){n:Nat}(hn:n≤xs.size):(xs.reverse.toList.drop (xs.size-n)).reverse=(xs.extract 0 n).toList:=by
 rw[Array.toList_reverse,List.drop_reverse,List.reverse_reverse,Array.toList_extract,List.extract_eq_drop_take,Array.length_toList,List.drop_zero]
 congr 1
 lia
theorem oz{na nb:Nat}(ha:na≤xa.size)(hb:nb≤xb.size)(h:Mg O.flip key (xb.reverse.toList++xa.reverse.toList) o.toList (xb.reverse.toList.drop (xb.size-nb)) (xa.reverse.toList.drop (xa.size-na)))(e:na=0):Made O key (xa.toList++xb.toList) (xa.extract 0 na++xb.extract 0 nb++o.reverse).toList:=by
 have:=du h (by rw[Array.size_reverse];lia)
 have m:=this.flip (T':=xa.toList++xb.toList) (by
  rw[Array.toList_reverse,Array.toList_reverse]
  exact((List.reverse_perm _).append (List.reverse_perm _)).trans List.perm_append_comm)
 rw[Array.toList_append,Array.toList_append,ck,ck,List.reverse_append,List.reverse_append,ez xa ha,ez xb hb] at m
 rw[Array.toList_append,Array.toList_append,Array.toList_reverse,List.append_assoc]
 exact m
theorem pX{na nb:Nat}(ha:na≤xa.size)(hb:nb≤xb.size)(W:Two O.flip key a₀ xb.reverse xa.reverse)(h:Mg O.flip key (xb.reverse.toList++xa.reverse.toList) o.toList (xb.reverse.toList.drop (xb.size-nb)) (xa.reverse.toList.drop (xa.size-na)))(e:nb=1):Made O key (xa.toList++xb.toList) (xb.extract 0 nb++xa.extract 0 na++o.reverse).toList:=by
 have:=dw W h (by rw[Array.size_reverse];lia)
 have m:=this.flip (T':=xa.toList++xb.toList) (by
  rw[Array.toList_reverse,Array.toList_reverse]
  exact((List.reverse_perm _).append (List.reverse_perm _)).trans List.perm_append_comm)
 rw[Array.toList_append,Array.toList_append,ck,ck,List.reverse_append,List.reverse_append,ez xa ha,ez xb hb] at m
 rw[Array.toList_append,Array.toList_append,Array.toList_reverse,List.append_assoc]
 exact m
structure JHi(O:Ordr κ)(key:Keyed→κ)(xa xb:Array Keyed)(T:List Keyed)(o:Array Keyed)(i j:Nat):Prop where
 mg:Mg O.flip key T o.toList (xb.reverse.toList.drop (xb.size-j)) (xa.reverse.toList.drop (xa.size-i))
 i1:1≤i
 i2:i≤xa.size
 j1:2≤j
 j2:j≤xb.size
 sz:o.size=(xa.size-i)+(xb.size-j)
theorem lj(o xs:Array Keyed){p n:Nat}(hn:n≤xs.size):(o++(xs.extract p n).reverse).size=o.size+(n-p):=by
 rw[Array.size_append,Array.size_reverse,Array.size_extract];lia
theorem lV(C:bB O key prog w A E s a₀ kd){st:SortSt}{Q:Array Keyed→SortSt→Prop}(hk:kindOf st=kd)(V:Two O key a₀ xa xb)(h:∀r z,SamS st z→Made O key (xa.toList++xb.toList) r.toList→Q r z):wpS (model prog w) A E s (gR xa xb) Q st:=by
 have W:=V.flip
 have na:=V.na
 have nb:=V.nb
 obtain⟨T,hT⟩:∃T,T=xb.reverse.toList++xa.reverse.toList:=⟨_,rfl⟩
 have fin:∀{o:Array Keyed} {i j:Nat},i≤xa.size→j≤xb.size→Mg O.flip key T o.toList (xb.reverse.toList.drop (xb.size-j)) (xa.reverse.toList.drop (xa.size-i))→i=0→Made O key (xa.toList++xb.toList) (xa.extract 0 i++xb.extract 0 j++o.reverse).toList:=fun h1 h2 m e=>by
  rw[hT] at m
  exact oz h1 h2 m e
 have oneB:∀{o:Array Keyed} {i j:Nat},i≤xa.size→j≤xb.size→Mg O.flip key T o.toList (xb.reverse.toList.drop (xb.size-j)) (xa.reverse.toList.drop (xa.size-i))→j=1→Made O key (xa.toList++xb.toList) (xb.extract 0 j++xa.extract 0 i++o.reverse).toList:=fun h1 h2 m e=>by
  rw[hT] at m
  exact pX h1 h2 W m e
 generalize xa.toList++xb.toList=TT at h fin oneB
 have sa:xa.reverse.size=xa.size:=Array.size_reverse
 have sb:xb.reverse.size=xb.size:=Array.size_reverse
 have atA:∀{i:Nat} {x:Keyed},1≤i→i≤xa.size→xa[i-1]?=some x→xa.reverse[xa.size-i]?=some x:=fun{i x} h1 h2 e=>by
  have:=gO (xs:=xa) (n:=i) (q:=0) h2 (by lia)
  rw[Nat.add_zero,Nat.sub_zero] at this
  rw[this];exact e
 have atB:∀{i:Nat} {x:Keyed},1≤i→i≤xb.size→xb[i-1]?=some x→xb.reverse[xb.size-i]?=some x:=fun{i x} h1 h2 e=>by
  have:=gO (xs:=xb) (n:=i) (q:=0) h2 (by lia)
  rw[Nat.add_zero,Nat.sub_zero] at this
  rw[this];exact e
 have pushA:∀{o:Array Keyed} {i j:Nat} {x y:Keyed},1≤i→i≤xa.size→1≤j→j≤xb.size→xb[j-1]?=some x→xa[i-1]?=some y→O.lt (key x) (key y)=true→Mg O.flip key T o.toList (xb.reverse.toList.drop (xb.size-j)) (xa.reverse.toList.drop (xa.size-i))→Mg O.flip key T (o.push y).toList (xb.reverse.toList.drop (xb.size-j)) (xa.reverse.toList.drop (xa.size-(i-1))):=fun{o i j x y} h1 h2 h3 h4 ex ey hc m=>by
  have:=d7 W m (atB h3 h4 ex) (atA h1 h2 ey) (Ordr.le_of_lt (O:=O.flip) hc)
  rw[show xa.size-(i-1)=xa.size-i+1 by lia]
  exact this
 have pushB:∀{o:Array Keyed} {i j:Nat} {x y:Keyed},1≤i→i≤xa.size→1≤j→j≤xb.size→xb[j-1]?=some x→xa[i-1]?=some y→O.le (key y) (key x)→Mg O.flip key T o.toList (xb.reverse.toList.drop (xb.size-j)) (xa.reverse.toList.drop (xa.size-i))→Mg O.flip key T (o.push x).toList (xb.reverse.toList.drop (xb.size-(j-1))) (xa.reverse.toList.drop (xa.size-i)):=fun{o i j x y} h1 h2 h3 h4 ex ey hc m=>by
  have:=d5 W m (atB h3 h4 ex) (atA h1 h2 ey) (show O.flip.le (key x) (key y) from hc)
  rw[show xb.size-(j-1)=xb.size-j+1 by lia]
  exact this
 have galA:∀{o:Array Keyed} {i j p:Nat} {x:Keyed},1≤i→i≤xa.size→1≤j→j≤xb.size→xb[j-1]?=some x→Edge (aJ O key false x xa 0) i p→Mg O.flip key T o.toList (xb.reverse.toList.drop (xb.size-j)) (xa.reverse.toList.drop (xa.size-i))→Mg O.flip key T (o++(xa.extract p i).reverse).toList (xb.reverse.toList.drop (xb.size-j)) (xa.reverse.toList.drop (xa.size-p))∧∀y,1≤p→xa[p-1]?=some y→O.le (key y) (key x):=fun{o i j p x} h1 h2 h3 h4 ex g m=>by
  have gl:=g.le
  obtain⟨m1,m2⟩:=jY W m (atB h3 h4 ex) (mT h2 g)
  rw[←jy xa gl h2,show xa.size-i+(i-p)=xa.size-p by lia] at m1
  refine⟨m1,fun y hp ey=>?_⟩
  have:=m2 y (by rw[sa];lia) (by rw[show xa.size-i+(i-p)=xa.size-p by lia];exact atA hp (by lia) ey)
  exact this
 have galB:∀{o:Array Keyed} {i j p:Nat} {y:Keyed},1≤i→i≤xa.size→1≤j→j≤xb.size→xa[i-1]?=some y→Edge (aJ O key true y xb 0) j p→Mg O.flip key T o.toList (xb.reverse.toList.drop (xb.size-j)) (xa.reverse.toList.drop (xa.size-i))→Mg O.flip key T (o++(xb.extract p j).reverse).toList (xb.reverse.toList.drop (xb.size-p)) (xa.reverse.toList.drop (xa.size-i))∧1≤p∧∀x,xb[p-1]?=some x→O.lt (key x) (key y)=true:=fun{o i j p y} h1 h2 h3 h4 ey g m=>by
  have gl:=g.le
  have m1:=kP W m (atA h1 h2 ey) (jH h4 g)
  obtain⟨l1,l2⟩:=jR W (atA h1 h2 ey) (i:=xb.size-j) (by rw[sb];lia) (jH h4 g)
  rw[sb] at l1
  rw[←jy xb gl h4,show xb.size-j+(j-p)=xb.size-p by lia] at m1
  refine⟨m1,by lia,fun x ex=>?_⟩
  have:=l2 x (by rw[show xb.size-j+(j-p)=xb.size-p by lia];exact atB (by lia) (by lia) ex)
  exact this
 rw[nu]
 refine wpS_bind (wpS_lift (wpAny_rule ⟨rfl,?_⟩))
 dsimp only
 have ea0:=aG (xs:=xa) (i:=xa.size-1) (by lia)
 have eb0:=aG (xs:=xb) (i:=xb.size-1) (by lia)
 have M0:Mg O.flip key T #[xa[xa.size-1]].toList (xb.reverse.toList.drop (xb.size-xb.size)) (xa.reverse.toList.drop (xa.size-(xa.size-1))):=by
  have h0:Mg O.flip key T (#[]:Array Keyed).toList (xb.reverse.toList.drop (xb.size-xb.size)) (xa.reverse.toList.drop (xa.size-xa.size)):=⟨by rw[hT];simp,List.Pairwise.nil,(fun x hx=>by cases hx),(fun x hx=>by cases hx),by simpa using W.ua,by simpa using W.ub⟩
  exact pushA (i:=xa.size) (j:=xb.size) na (Nat.le_refl _) nb (Nat.le_refl _) eb0 ea0 (V.last _ _ _ ea0 eb0) h0
 refine wpS_bind (aV ea0 ?_)
 by_cases e1:xa.size-1=0
 ·rw[if_pos (by simpa using e1)]
  exact wpS_pure (h _ st (SamS.refl _) (fin (by lia) (Nat.le_refl _) M0 e1))
 rw[if_neg (by simpa using e1)]
 by_cases e2:xb.size=1
 ·rw[if_pos (by simpa using e2)]
  exact wpS_pure (h _ st (SamS.refl _) (oneB (by lia) (Nat.le_refl _) M0 e2))
 rw[if_neg (by simpa using e2)]
 refine wpS_bind (wpS_get ?_)
 have J0:JHi O key xa xb T #[xa[xa.size-1]] (xa.size-1) xb.size:=⟨M0,by lia,by lia,by lia,Nat.le_refl _,by simp;lia⟩
 refine wpS_bind (wpS_mono (wpS_forRange (I:=fun x c z=>SamS st z∧∃o i j g,c=(none,i,j,o,g)∧JHi O key xa xb T o i j∧x+1≤o.size) (Q:=fun c z=>SamS st z∧∃r,c.1=some r∧Made O key TT r.toList) ?out1 ?out2 ⟨SamS.refl _,_,_,_,_,rfl,J0,by simp⟩) ?out3)
 case out3=>
  rintro⟨c1,c2⟩ z ⟨SS,r,e,M⟩
  dsimp only at e
  subst e
  exact wpS_pure (h r z SS M)
 case out2=>
  rintro c z ⟨SS,o,i,j,g,rfl,J,hx⟩
  have:=J.sz;have:=J.i1;have:=J.j1
  lia
 case out1=>
  rintro x0 c z _ hx0 ⟨SS,o,i,j,g,rfl,J,hx⟩
  dsimp only
  have hkz:kindOf z=kd:=SS.kind.trans hk
  refine wpS_bind (wpS_mono (wpS_forRange (I:=fun x c z'=>z'=z∧∃o' i j ca cb,c=(none,i,j,o',ca,cb)∧JHi O key xa xb T o' i j∧o.size+min x 1≤o'.size) (Q:=fun c z'=>z'=z∧((∃o' i j ca cb,c=(none,i,j,o',ca,cb)∧JHi O key xa xb T o' i j∧o.size+1≤o'.size)∨∃r,c.1=some r∧Made O key TT r.toList)) ?in1 ?in2 ⟨rfl,o,i,j,0,0,rfl,J,by lia⟩) ?in3)
  case in2=>
   rintro c z' ⟨rfl,o',i,j,ca,cb,rfl,J,hp⟩
   refine⟨rfl,.inl ⟨o',i,j,ca,cb,rfl,J,?_⟩⟩
   have:min (max 0 (xa.size+xb.size)) 1=1:=by lia
   lia
  case in1=>
   rintro x c z' _ hx ⟨rfl,o',i,j,ca,cb,rfl,J,hp⟩
   dsimp only
   have i1:=J.i1
   have i2:=J.i2
   have j1:=J.j1
   have j2:=J.j2
   have sz:=J.sz
   have ey:=aG (xs:=xa) (i:=i-1) (by lia)
   have ex:=aG (xs:=xb) (i:=j-1) (by lia)
   refine wpS_bind (aV ex (wpS_bind (aV ey (wpS_bind (C _ _ (V.mb _ _ ex) (V.ma _ _ ey) z' _ hkz ?_)))))
   dsimp only
   by_cases hc:O.lt (key xb[j-1]) (key xa[i-1])=true
   ·rw[if_pos hc]
    refine wpS_bind (aV ey ?_)
    have M1:=pushA i1 i2 (by lia) j2 ex ey hc J.mg
    by_cases e:i-1=0
    ·rw[if_pos (by simpa using e)]
     exact wpS_pure ⟨rfl,.inr ⟨_,rfl,fin (by lia) j2 M1 e⟩⟩
    ·rw[if_neg (by simpa using e)]
     have J1:JHi O key xa xb T (o'.push xa[i-1]) (i-1) j:=⟨M1,by lia,by lia,j1,j2,by rw[Array.size_push];lia⟩
     have sz1:o.size+1≤(o'.push xa[i-1]).size:=by rw[Array.size_push];lia
     split
     ·exact wpS_pure ⟨rfl,.inl ⟨_,_,_,_,_,rfl,J1,sz1⟩⟩
     ·exact wpS_pure ⟨rfl,_,_,_,_,_,rfl,J1,by lia⟩
   ·rw[if_neg hc]
    refine wpS_bind (aV ex ?_)
    have M1:=pushB i1 i2 (by lia) j2 ex ey (Ordr.le_not hc) J.mg
    by_cases e:j-1=1
    ·rw[if_pos (by simpa using e)]
     exact wpS_pure ⟨rfl,.inr ⟨_,rfl,oneB i2 (by lia) M1 e⟩⟩
    ·rw[if_neg (by simpa using e)]
     have J1:JHi O key xa xb T (o'.push xb[j-1]) i (j-1):=⟨M1,i1,i2,by lia,by lia,by rw[Array.size_push];lia⟩
     have sz1:o.size+1≤(o'.push xb[j-1]).size:=by rw[Array.size_push];lia
     split
     ·exact wpS_pure ⟨rfl,.inl ⟨_,_,_,_,_,rfl,J1,sz1⟩⟩
     ·exact wpS_pure ⟨rfl,_,_,_,_,_,rfl,J1,by lia⟩
  case in3=>
   rintro c z' ⟨rfl,⟨o1,i,j,ca,cb,rfl,J1,hp⟩ | ⟨r,e,M⟩⟩
   ·dsimp only
    refine wpS_bind (wpS_lift (wpAny_rule ⟨rfl,?_⟩))
    refine wpS_bind (wpS_mono (wpS_forRange (I:=fun x c z=>SamS st z∧∃o' i j g ca cb,c=(none,i,j,o',g,ca,cb)∧JHi O key xa xb T o' i j∧o.size+1≤o'.size) (Q:=fun c z=>SamS st z∧((∃o' i j g ca cb,c=(none,i,j,o',g,ca,cb)∧JHi O key xa xb T o' i j∧o.size+1≤o'.size)∨∃r,c.1=some r∧Made O key TT r.toList)) ?gl1 ?gl2 ⟨SS,o1,i,j,_,_,_,rfl,J1,hp⟩) ?gl3)
    case gl2=>
     rintro c z ⟨SS,h⟩
     exact⟨SS,.inl h⟩
    case gl3=>
     rintro c z ⟨SS,⟨o',i,j,g,ca,cb,rfl,J,hp⟩ | ⟨r,e,M⟩⟩
     ·dsimp only
      exact wpS_bind (fc (wpS_pure ⟨SS.setG _,_,_,_,_,rfl,J,by lia⟩))
     ·obtain⟨c1,c2⟩:=c
      dsimp only at e
      subst e
      exact wpS_pure ⟨SS,r,rfl,M⟩
    case gl1=>
     rintro x c z _ hx ⟨SS,o2,i,j,g,ca,cb,rfl,J,hp⟩
     dsimp only
     revert g
     refine kE (fun g=>rfl) fun g=>?_
     refine wpS_bind (fc ?_)
     have SS1:=SS.setG g
     have i1:=J.i1
     have i2:=J.i2
     have j1:=J.j1
     have j2:=J.j2
     have sz:=J.sz
     obtain⟨bx,ex⟩:∃bx,xb[j-1]?=some bx:=⟨_,aG (by lia)⟩
     refine wpS_bind (aV ex (wpS_bind (cU C (SS1.kind.trans hk) (V.mb _ _ ex) (fun q hq=>⟨_,aG (by lia),V.ma _ _ (aG (by lia))⟩) (dP V.ua _ _ (by lia)) (by lia) fun p eg=>?_)))
     dsimp only
     obtain⟨M1,le1⟩:=galA i1 i2 (by lia) j2 ex eg J.mg
     have pl:=eg.le
     have sz1:=lj o2 xa (p:=p) i2
     generalize hkk:i-p=k1
     generalize hgi:i=i'
     revert i'
     generalize hgo:o2=o'
     revert o'
     refine eT (o:=o2) (i:=i) (fun o3 i3=>(1≤i3∧i3≤xa.size)∧Mg O.flip key T o3.toList (xb.reverse.toList.drop (xb.size-j)) (xa.reverse.toList.drop (xa.size-i3))∧o3.size=(xa.size-i3)+(xb.size-j)∧o.size+1≤o3.size∧∃ay,xa[i3-1]?=some ay∧O.le (key ay) (key bx)) ?b1 (fun hk0 hF=>?w1) (fun hk0=>?w2)
     case w1=>
      by_cases ea:p=0
      ·rw[if_pos (by simpa using ea)]
       exact wpS_pure ⟨SS1,.inr ⟨_,rfl,fin (by lia) j2 M1 ea⟩⟩
      ·rw[if_neg (by simpa using ea)]
       obtain⟨ay,ey⟩:∃ay,xa[p-1]?=some ay:=⟨_,aG (by lia)⟩
       exact hF (o2++(xa.extract p i).reverse) p ⟨by lia,M1,by lia,by lia,ay,ey,le1 _ (by lia) ey⟩
     case w2=>
      have e5:p=i:=by lia
      subst e5
      obtain⟨ay,ey⟩:∃ay,xa[p-1]?=some ay:=⟨_,aG (by lia)⟩
      exact⟨⟨i1,i2⟩,J.mg,sz,hp,ay,ey,le1 _ (by lia) ey⟩
     case b1=>
      rintro o3 i3 ⟨hi3,M3,z3,p3,ay,y3,le3⟩
      refine wpS_bind (aV ex ?_)
      have M4:=pushB hi3.1 hi3.2 (by lia) j2 ex y3 le3 M3
      by_cases eb:j-1=1
      ·rw[if_pos (by simpa using eb)]
       exact wpS_pure ⟨SS1,.inr ⟨_,rfl,oneB hi3.2 (by lia) M4 eb⟩⟩
      ·rw[if_neg (by simpa using eb)]
       clear M1 le1 pl sz1 eg
       obtain⟨o4,e4⟩:∃o4,o4=o3.push bx:=⟨_,rfl⟩
       obtain⟨j4,e8⟩:∃j4,j4=j-1:=⟨_,rfl⟩
       have sz4:o4.size=o3.size+1:=by rw[e4,Array.size_push]
       rw[←e4] at M4 ⊢
       rw[←e8] at M4 eb ⊢
       have j41:2≤j4:=by lia
       have j42:j4≤xb.size:=by lia
       have z4:o4.size=(xa.size-i3)+(xb.size-j4):=by lia
       have p4:o.size+1≤o4.size:=by lia
       clear z3 p3 M3 e4 e8 ex sz4 eb j1 j2 sz
       refine wpS_bind (aV y3 (wpS_bind (cU C (SS1.kind.trans hk) (V.ma _ _ y3) (fun q hq=>⟨_,aG (by lia),V.mb _ _ (aG (by lia))⟩) (dP V.ub _ _ (by lia)) (by lia) fun p2 eg2=>?_)))
       dsimp only
       obtain⟨M5,p21,lt5⟩:=galB hi3.1 hi3.2 (by lia) (by lia) y3 eg2 M4
       have hk2:=eg2.le
       have eQ:=lj o4 xb (p:=p2) (n:=j4) (by lia)
       generalize hkk2:j4-p2=k2
       generalize hgi:j4=j'
       revert j'
       generalize hgo:o4=o'
       revert o'
       refine eT (o:=o4) (i:=j4) (fun o5 j5=>(2≤j5∧j5≤xb.size)∧Mg O.flip key T (o5.push ay).toList (xb.reverse.toList.drop (xb.size-j5)) (xa.reverse.toList.drop (xa.size-(i3-1)))∧o5.size=(xa.size-i3)+(xb.size-j5)∧o.size+1≤o5.size) ?b2 (fun hk0 hF=>?w3) (fun hk0=>?w4)
       case w3=>
        by_cases ec:p2=1
        ·rw[if_pos (by simpa using ec)]
         exact wpS_pure ⟨SS1,.inr ⟨_,rfl,oneB hi3.2 (by lia) M5 ec⟩⟩
        ·rw[if_neg (by simpa using ec),if_neg (by simp;lia)]
         obtain⟨bx5,ex5⟩:∃bx5,xb[p2-1]?=some bx5:=⟨_,aG (by lia)⟩
         exact hF (o4++(xb.extract p2 j4).reverse) p2 ⟨by lia,pushA hi3.1 hi3.2 p21 (by lia) ex5 y3 (lt5 _ ex5) M5,by lia,by lia⟩
       case w4=>
        have e9:p2=j4:=by lia
        subst e9
        obtain⟨bx5,ex5⟩:∃bx5,xb[p2-1]?=some bx5:=⟨_,aG (by lia)⟩
        exact⟨by lia,pushA hi3.1 hi3.2 p21 j42 ex5 y3 (lt5 _ ex5) M4,z4,p4⟩
       case b2=>
        rintro o5 j5 ⟨hj5,M6,z5,p5⟩
        clear M5 lt5 hk2 eQ eg2 M4 z4 p4
        refine wpS_bind (aV y3 ?_)
        by_cases ed:i3-1=0
        ·rw[if_pos (by simpa using ed)]
         exact wpS_pure ⟨SS1,.inr ⟨_,rfl,fin (by lia) (by lia) M6 ed⟩⟩
        ·rw[if_neg (by simpa using ed)]
         have J6:JHi O key xa xb T (o5.push ay) (i3-1) j5:=⟨M6,by lia,by lia,by lia,by lia,by rw[Array.size_push];lia⟩
         have p6:=J6.sz
         split
         ·exact wpS_pure ⟨SS1,.inl ⟨_,_,_,_,_,_,rfl,J6,by rw[p6];lia⟩⟩
         ·exact wpS_pure ⟨SS1,_,_,_,_,_,_,rfl,J6,by rw[p6];lia⟩
   ·obtain⟨c1,c2⟩:=c
    dsimp only at e
    subst e
    exact wpS_pure ⟨SS,r,rfl,M⟩
end
section
variable{κ:Type}{O:Ordr κ}{key:Keyed→κ}{prog:Program}{w:World}{A:Around}{E:Value→Shared→Prop}{s:Shared}{a₀:Array Keyed}{kd:SortKind}
def cT(a:Array Keyed)(lo:Nat)(r:List (Keyed×Nat)):Array Keyed:=r.foldl (fun b q=>b.setIfInBounds (lo+q.2) q.1) a
theorem kw(lo:Nat):∀(r:List Keyed) (n:Nat) (a:Array Keyed),lo+n+r.length≤a.size→(cT a lo (r.zipIdx n)).toList=a.toList.take (lo+n)++r++a.toList.drop (lo+n+r.length)
 | [],n,a,h=>by simp[cT]
 | x::r,n,a,h=>by
   have hl:lo+n<a.toList.length:=by rw[Array.length_toList];simp at h;lia
   have ih:=kw lo r (n+1) (a.setIfInBounds (lo+n) x) (by rw[Array.size_setIfInBounds];simp at h;lia)
   have e0:cT a lo ((x::r).zipIdx n)=cT (a.setIfInBounds (lo+n) x) lo (r.zipIdx (n+1)):=rfl
   rw[e0,ih,Array.toList_setIfInBounds,List.set_eq_take_append_cons_drop,if_pos hl]
   have tl:(a.toList.take (lo+n)).length=lo+n:=by rw[List.length_take];lia
   have e1:(a.toList.take (lo+n)++x::a.toList.drop (lo+n+1)).take (lo+(n+1))=a.toList.take (lo+n)++[x]:=by
    rw[List.take_append,tl,List.take_of_length_le (by rw[tl];lia),show lo+(n+1)-(lo+n)=1 by lia];rfl
   have e2:(a.toList.take (lo+n)++x::a.toList.drop (lo+n+1)).drop (lo+(n+1)+r.length)=a.toList.drop (lo+n+(x::r).length):=by
    rw[List.drop_append,tl,List.drop_eq_nil_of_le (by rw[tl];lia),List.nil_append,show lo+(n+1)+r.length-(lo+n)=r.length+1 by lia,List.drop_succ_cons,List.drop_drop,List.length_cons]
    congr 1
    lia
   rw[e1,e2]
   simp
theorem ke(a:Array Keyed){lo sb hi:Nat}(h1:lo≤sb)(h2:sb≤hi):(a.extract lo sb).toList++(a.extract sb hi).toList=(a.toList.drop lo).take (hi-lo):=by
 rw[Array.toList_extract,Array.toList_extract,List.extract_eq_drop_take,List.extract_eq_drop_take]
 have e1:(a.toList.drop lo).take (hi-lo)=(a.toList.drop lo).take (sb-lo)++((a.toList.drop lo).drop (sb-lo)).take (hi-sb):=by
  rw[show hi-lo=(sb-lo)+(hi-sb) by lia,List.take_add]
 rw[e1,List.drop_drop,show lo+(sb-lo)=sb by lia]
theorem rR{a a':Array Keyed}{sa lo sb hi en:Nat}{r:List Keyed}(h1:sa≤lo)(h2:lo<sb)(h3:sb≤hi)(h4:hi≤en)(h5:en≤a.size)(h6:sb<en)(Ra:Rise O key a sa sb)(Rb:Rise O key a sb en)(pre:∀p,sa≤p→p<lo→O.le (kk key a p) (kk key a sb))(suf:∀q,hi≤q→q<en→O.le (kk key a (sb-1)) (kk key a q))(M:Made O key ((a.extract lo sb).toList++(a.extract sb hi).toList) r)(e:a'.toList=a.toList.take lo++r++a.toList.drop hi):Rise O key a' sa en∧a'.toList.Perm a.toList∧OnlyA a a' lo hi:=by
 obtain⟨pm,up⟩:=M
 rw[ke a (by lia) h3] at pm
 have rl:r.length=hi-lo:=by rw[pm.length_eq,List.length_take,List.length_drop,Array.length_toList];lia
 have tl:(a.toList.take lo).length=lo:=by rw[List.length_take,Array.length_toList];lia
 have g1:∀p,p<lo→a'[p]?=a[p]?:=fun p hp=>by
  rw[←Array.getElem?_toList,e,List.append_assoc,List.getElem?_append_left (by lia),List.getElem?_take_of_lt hp,Array.getElem?_toList]
 have g3:∀p,hi≤p→a'[p]?=a[p]?:=fun p hp=>by
  rw[←Array.getElem?_toList,e,List.getElem?_append_right (by rw[List.length_append,tl,rl];lia),List.length_append,tl,rl,List.getElem?_drop,Array.getElem?_toList]
  congr 1
  lia
 have g2:∀p,lo≤p→p<hi→a'[p]?=r[p-lo]?:=fun p hp hq=>by
  rw[←Array.getElem?_toList,e,List.getElem?_append_left (by rw[List.length_append,tl,rl];lia),List.getElem?_append_right (by lia),tl]
 have mem:∀m∈r,∃p,lo≤p∧p<hi∧a[p]?=some m:=fun m hm=>by
  obtain⟨q,hq⟩:=List.mem_iff_getElem?.mp (pm.mem_iff.mp hm)
  have ql:q<hi-lo:=by
   have:=(List.getElem?_eq_some_iff.mp hq).1
   rw[List.length_take] at this;lia
  rw[List.getElem?_take_of_lt ql,List.getElem?_drop,Array.getElem?_toList] at hq
  exact⟨lo+q,by lia,by lia,hq⟩
 have k2:∀p,lo≤p→p<hi→∃p',lo≤p'∧p'<hi∧kk key a' p=kk key a p':=fun p hp hq=>by
  have hr:r[p-lo]?=some (r[p-lo]'(by lia)):=List.getElem?_eq_getElem (by lia)
  obtain⟨p',q1,q2,q3⟩:=mem _ (List.mem_of_getElem? hr)
  exact⟨p',q1,q2,bb key ((g2 p hp hq).trans (hr.trans q3.symm))⟩
 have lowM:∀p p',sa≤p→p<lo→lo≤p'→p'<hi→O.le (kk key a p) (kk key a p'):=fun p p' q1 q2 q3 q4=>by
  rcases Nat.lt_or_ge p' sb with z | z
  ·exact Ra p p' q1 (by lia) z
  ·exact Ordr.le_trans (pre p q1 q2) (Rb sb p' (Nat.le_refl _) z (by lia))
 have midH:∀p' q,lo≤p'→p'<hi→hi≤q→q<en→O.le (kk key a p') (kk key a q):=fun p' q q1 q2 q3 q4=>by
  rcases Nat.lt_or_ge p' sb with z | z
  ·exact Ordr.le_trans (Ra p' (sb-1) (by lia) (by lia) (by lia)) (suf q q3 q4)
  ·exact Rb p' q z (by lia) q4
 refine⟨fun p q q1 q2 q3=>?_,?_,fun p hp=>?_⟩
 ·rcases Nat.lt_or_ge p lo with z1 | z1
  ·rw[bb key (g1 p z1)]
   rcases Nat.lt_or_ge q lo with z2 | z2
   ·rw[bb key (g1 q z2)];exact Ra p q q1 q2 (by lia)
   ·rcases Nat.lt_or_ge q hi with z3 | z3
    ·obtain⟨q',r1,r2,r3⟩:=k2 q z2 z3
     rw[r3];exact lowM p q' q1 z1 r1 r2
    ·rw[bb key (g3 q z3)]
     exact Ordr.le_trans (Ra p (sb-1) q1 (by lia) (by lia)) (suf q z3 q3)
  ·rcases Nat.lt_or_ge p hi with z4 | z4
   ·rcases Nat.lt_or_ge q hi with z3 | z3
    ·rcases Nat.lt_or_eq_of_le q2 with z5 | z5
     ·have hr1:r[p-lo]?=some (r[p-lo]'(by lia)):=List.getElem?_eq_getElem (by lia)
      have hr2:r[q-lo]?=some (r[q-lo]'(by lia)):=List.getElem?_eq_getElem (by lia)
      rw[aZ ((g2 p z1 z4).trans hr1),aZ ((g2 q (by lia) z3).trans hr2)]
      exact List.pairwise_iff_getElem.mp up (p-lo) (q-lo) (by lia) (by lia) (by lia)
     ·rw[z5];exact Ordr.le_refl _
    ·obtain⟨p',r1,r2,r3⟩:=k2 p z1 z4
     rw[r3,bb key (g3 q z3)]
     exact midH p' q r1 r2 z3 q3
   ·rw[bb key (g3 p z4),bb key (g3 q (by lia))]
    exact Rb p q (by lia) q2 q3
 ·rw[e]
  have e1:a.toList=a.toList.take lo++((a.toList.drop lo).take (hi-lo)++a.toList.drop hi):=by
   have:(a.toList.drop lo).take (hi-lo)++a.toList.drop hi=a.toList.drop lo:=by
    conv=>rhs;rw[←List.take_append_drop (hi-lo) (a.toList.drop lo)]
    rw[List.drop_drop,show lo+(hi-lo)=hi by lia]
   rw[this,List.take_append_drop]
  conv=>rhs;rw[e1]
  rw[List.append_assoc]
  exact(pm.append_right _).append_left _
 ·rcases hp with hp | hp
  ·exact g1 p hp
  ·exact g3 p hp
end
def iF:Nat→StateT SortSt Sem Bool:=sortPriv% PySem.Builtin.mergeAt
theorem pJ(i:Nat):iF i=(do
 let z←get
 let (some (la,ca,pw),some (lb,cb,_)):=((pendingOf z)[i]?,(pendingOf z)[i+1]?) | unsupported "internal:list.sort.pending"
 set (SortSt.mk' (kindOf z) (arrOf z) (((pendingOf z).setIfInBounds i (la,ca+cb,pw)).eraseIdxIfInBounds (i+1)) (gallopOf z) (failedOf z))
 let some k←cg false (←elem' (arrOf z) lb) (arrOf z) la ca 0 | return false
 let (la,ca):=(la+k,ca-k)
 if ca == 0 then return true
 let some cb←cg true (←elem' (arrOf z) (la+ca-1)) (arrOf z) lb cb (cb-1) | return false
 if cb == 0 then return true
 let xx:=(arrOf z).extract la lb
 let yy:=(arrOf z).extract lb (lb+cb)
 let m←if ca≤cb then fJ xx yy else gR xx yy
 modify fun q=>SortSt.mk' (kindOf q) (m.toList.zipIdx.foldl (fun a (p,j)=>a.setIfInBounds (la+j) p) (arrOf q)) (pendingOf q) (gallopOf q) (failedOf q)
 return (failedOf (←get)).isNone):=rfl
section
variable{κ:Type}{O:Ordr κ}{key:Keyed→κ}{prog:Program}{w:World}{A:Around}{E:Value→Shared→Prop}{s:Shared}{a₀:Array Keyed}{kd:SortKind}
theorem mX{M:Model}{st z:SortSt}{Q:PUnit→SortSt→Prop}(h:Q ⟨⟩ z):wpS M A E s (set z:StateT SortSt Sem PUnit) Q st:=by
 unfold wpS
 rw[StateT.run_set]
 exact wpAny_pure ⟨rfl,h⟩
theorem kK{a:Array Keyed}{sa sb en:Nat}(h:sb<en)(Ra:Rise O key a sa sb)(Rb:Rise O key a sb en)(m:∀p,sa≤p→p<sb→O.le (kk key a p) (kk key a sb)):Rise O key a sa en:=fun p q q1 q2 q3=>by
 rcases Nat.lt_or_ge p sb with z | z
 ·rcases Nat.lt_or_ge q sb with y | y
  ·exact Ra p q q1 q2 y
  ·exact Ordr.le_trans (m p q1 z) (Rb sb q (Nat.le_refl _) y q3)
 ·exact Rb p q z q2 q3
theorem cm{a:Array Keyed}{lo hi i:Nat}{x:Keyed}(h:hi≤a.size)(e:(a.extract lo hi)[i]?=some x):lo+i<hi∧a[lo+i]?=some x:=by
 rw[Array.getElem?_extract] at e
 split at e
 ·exact⟨by lia,e⟩
 ·cases e
theorem ki{a:Array Keyed}{lo hi:Nat}(h:hi≤a.size)(R:Rise O key a lo hi):Up O key (a.extract lo hi).toList:=by
 refine List.pairwise_iff_getElem.mpr fun i j h1 h2 h3=>?_
 rw[Array.length_toList] at h1 h2
 have e1:(a.extract lo hi)[i]?=some ((a.extract lo hi).toList[i]):=by rw[←Array.getElem?_toList];exact List.getElem?_eq_getElem _
 have e2:(a.extract lo hi)[j]?=some ((a.extract lo hi).toList[j]):=by rw[←Array.getElem?_toList];exact List.getElem?_eq_getElem _
 obtain⟨l1,g1⟩:=cm h e1
 obtain⟨l2,g2⟩:=cm h e2
 have:=R (lo+i) (lo+j) (by lia) (by lia) l2
 rw[aZ g1,aZ g2] at this
 exact this
theorem mO(C:bB O key prog w A E s a₀ kd){st:SortSt}{i la ca pa lb cb pb:Nat}{Q:Bool→SortSt→Prop}(hB:Bas a₀ kd st)(e1:(pendingOf st)[i]?=some (la,ca,pa))(e2:(pendingOf st)[i+1]?=some (lb,cb,pb))(el:lb=la+ca)(c1:1≤ca)(c2:1≤cb)(hz:lb+cb≤a₀.size)(Ra:Rise O key (arrOf st) la lb)(Rb:Rise O key (arrOf st) lb (lb+cb))(h:∀z,Bas a₀ kd z→pendingOf z=((pendingOf st).setIfInBounds i (la,ca+cb,pa)).eraseIdxIfInBounds (i+1)→OnlyA (arrOf st) (arrOf z) la (lb+cb)→Rise O key (arrOf z) la (lb+cb)→Q true z):wpS (model prog w) A E s (iF i) Q st:=by
 rw[pJ]
 refine wpS_bind (wpS_get ?_)
 dsimp only
 rw[e1,e2]
 dsimp only
 refine wpS_bind (mX ?_)
 obtain⟨P,hP⟩:∃P,P=((pendingOf st).setIfInBounds i (la,ca+cb,pa)).eraseIdxIfInBounds (i+1):=⟨_,rfl⟩
 rw[←hP] at h ⊢
 have hsz:=hB.size
 have BZ:Bas a₀ kd (SortSt.mk' (kindOf st) (arrOf st) P (gallopOf st) (failedOf st)):=⟨hB.perm,hB.kind,hB.failed⟩
 obtain⟨y0,ey0,my0⟩:=hB.at (i:=lb) (by lia)
 have mem:∀{q:Nat} {x:Keyed},(arrOf st)[q]?=some x→x∈a₀:=fun{q x} e=>by
  have hq:q<a₀.size:=by
   have:=(Array.getElem?_eq_some_iff.mp e).1
   lia
  obtain⟨x',e',m'⟩:=hB.at hq
  rw[e] at e'
  rw[Option.some.inj e'];exact m'
 refine wpS_bind (aV ey0 (wpS_bind (cU C BZ.kind my0 (fun q hq=>?m1) (by rw[←el];exact Ra) (by lia) fun k eg=>?_)))
 case m1=>
  obtain⟨x,ex,mx⟩:=hB.at (i:=la+q) (by lia)
  exact⟨x,ex,mx⟩
 dsimp only
 have kl:=eg.le
 have lowB:∀p,la≤p→p<la+k→O.le (kk key (arrOf st) p) (kk key (arrOf st) lb):=fun p h1 h2=>by
  have:=eg.yes (p-la) (by lia)
  unfold aJ at this
  rw[if_neg Bool.false_ne_true,show la+(p-la)=p by lia] at this
  rw[aZ ey0]
  show O.lt (key y0) (kk key (arrOf st) p)=false
  cases z:O.lt (key y0) (kk key (arrOf st) p) with
  | false=>rfl
  | true=>rw[z] at this;cases this
 by_cases z0:ca-k=0
 ·rw[if_pos (by simpa using z0)]
  exact wpS_pure (h _ BZ rfl (OnlyA.refl _ _ _) (kK (by lia) Ra Rb fun p h1 h2=>lowB p h1 (by lia)))
 rw[if_neg (by simpa using z0),show la+k+(ca-k)-1=lb-1 by lia]
 obtain⟨xl,exl,mxl⟩:=hB.at (i:=lb-1) (by lia)
 refine wpS_bind (aV exl (wpS_bind (cU C BZ.kind mxl (fun q hq=>?m2) Rb (by lia) fun k2 eg2=>?_)))
 case m2=>
  obtain⟨x,ex,mx⟩:=hB.at (i:=lb+q) (by lia)
  exact⟨x,ex,mx⟩
 dsimp only
 have kl2:=eg2.le
 have hiL:∀q,lb+k2≤q→q<lb+cb→O.le (kk key (arrOf st) (lb-1)) (kk key (arrOf st) q):=fun q h1 h2=>by
  have:=eg2.no (q-lb) (by lia) (by lia)
  unfold aJ at this
  rw[if_pos rfl,show lb+(q-lb)=q by lia] at this
  rw[aZ exl]
  exact this
 by_cases z1:k2=0
 ·rw[if_pos (by simpa using z1)]
  exact wpS_pure (h _ BZ rfl (OnlyA.refl _ _ _) (kK (by lia) Ra Rb fun p h1 h2=>Ordr.le_trans (Ra p (lb-1) h1 (by lia) (by lia)) (hiL lb (by lia) (by lia))))
 rw[if_neg (by simpa using z1)]
 have W:Two O key a₀ ((arrOf st).extract (la+k) lb) ((arrOf st).extract lb (lb+k2)):=by
  refine⟨fun q x e=>mem (cm (by lia) e).2,fun q x e=>mem (cm (by lia) e).2,ki (by lia) fun p q h1 h2 h3=>Ra p q (by lia) h2 h3,ki (by lia) fun p q h1 h2 h3=>Rb p q h1 h2 (by lia),by rw[Array.size_extract];lia,by rw[Array.size_extract];lia,fun x y ex ey=>?_,fun x y j ex ey=>?_⟩
  ·obtain⟨_,g1⟩:=cm (by lia) ex
   obtain⟨_,g2⟩:=cm (by lia) ey
   rw[Nat.add_zero] at g1
   have:=eg.no k (Nat.le_refl _) (by lia)
   unfold aJ at this
   rw[if_neg Bool.false_ne_true,aZ g1] at this
   rw[show lb+0=lb by lia,ey0] at g2
   rw[←Option.some.inj g2]
   cases z:O.lt (key y0) (key x) with
   | true=>rfl
   | false=>rw[z] at this;cases this
  ·rw[Array.size_extract] at ex
   obtain⟨_,g1⟩:=cm (by lia) ex
   obtain⟨l2,g2⟩:=cm (by lia) ey
   rw[show la+k+(min lb (arrOf st).size-(la+k)-1)=lb-1 by lia,exl] at g1
   have:=eg2.yes j (by lia)
   unfold aJ at this
   rw[if_pos rfl,aZ g2,Option.some.inj g1] at this
   exact this
 have cont:∀(r:Array Keyed) (z:SortSt),SamS (SortSt.mk' (kindOf st) (arrOf st) P (gallopOf st) (failedOf st)) z→Made O key (((arrOf st).extract (la+k) lb).toList++((arrOf st).extract lb (lb+k2)).toList) r.toList→Q true (SortSt.mk' (kindOf z) (cT (arrOf z) (la+k) r.toList.zipIdx) (pendingOf z) (gallopOf z) (failedOf z)):=fun r z SS M=>by
  have ea:arrOf z=arrOf st:=SS.arr
  have rl:r.toList.length=lb+k2-(la+k):=by
   rw[M.1.length_eq,ke _ (by lia) (by lia),List.length_take,List.length_drop,Array.length_toList];lia
  have pe:=kw (la+k) r.toList 0 (arrOf z) (by rw[ea,rl];lia)
  rw[Nat.add_zero,rl,ea,show la+k+(lb+k2-(la+k))=lb+k2 by lia] at pe
  obtain⟨R1,R2,R3⟩:=rR (a':=cT (arrOf st) (la+k) r.toList.zipIdx) (sa:=la) (en:=lb+cb) (by lia) (by lia) (by lia) (by lia) (by lia) (by lia) Ra Rb (fun p h1 h2=>lowB p h1 h2) hiL M pe
  rw[ea]
  exact h _ ⟨(Array.perm_iff_toList_perm.mpr R2).trans hB.perm,SS.kind.trans hB.kind,SS.failed.trans hB.failed⟩ SS.pend (R3.wide (by lia) (by lia)) R1
 have fz:∀(z:SortSt),SamS (SortSt.mk' (kindOf st) (arrOf st) P (gallopOf st) (failedOf st)) z→(failedOf z).isNone=true:=fun z SS=>by rw[SS.failed,show failedOf (SortSt.mk' (kindOf st) (arrOf st) P (gallopOf st) (failedOf st))=none from hB.failed];rfl
 split
 ·refine wpS_bind (lI C BZ.kind W fun r z SS M=>wpS_bind (wpS_modify (wpS_bind (wpS_get (wpS_pure ?_)))))
  rw[show(failedOf (SortSt.mk' (kindOf z) _ (pendingOf z) (gallopOf z) (failedOf z))).isNone=true from fz z SS]
  exact cont r z SS M
 ·refine wpS_bind (lV C BZ.kind W fun r z SS M=>wpS_bind (wpS_modify (wpS_bind (wpS_get (wpS_pure ?_)))))
  rw[show(failedOf (SortSt.mk' (kindOf z) _ (pendingOf z) (gallopOf z) (failedOf z))).isNone=true from fz z SS]
  exact cont r z SS M
end
section
variable{κ:Type}{O:Ordr κ}{key:Keyed→κ}{prog:Program}{w:World}{A:Around}{E:Value→Shared→Prop}{s:Shared}{a₀:Array Keyed}{kd:SortKind}
inductive Stk (O:Ordr κ) (key:Keyed→κ) (x:Array Keyed):List (Nat×Nat×Nat)→Nat→Nat→Prop
 | nil (a:Nat):Stk O key x [] a a
 | cons {a n p b:Nat} {r:List (Nat×Nat×Nat)}:1≤n→Rise O key x a (a+n)→Stk O key x r (a+n) b→Stk O key x ((a,n,p)::r) a b
theorem Stk.len{x:Array Keyed}{l:List (Nat×Nat×Nat)}{a b:Nat}(h:Stk O key x l a b):a+l.length≤b:=by
 induction h with
 | nil=>simp
 | cons h1 _ _ ih=>rw[List.length_cons];lia
theorem Stk.snoc{x:Array Keyed}{l:List (Nat×Nat×Nat)}{a b n p:Nat}(h:Stk O key x l a b)(h1:1≤n)(R:Rise O key x b (b+n)):Stk O key x (l++[(b,n,p)]) a (b+n):=by
 induction h with
 | nil=>exact .cons h1 R (.nil _)
 | cons g1 g2 _ ih=>exact .cons g1 g2 (ih R)
theorem Stk.keep{x y:Array Keyed}{l:List (Nat×Nat×Nat)}{a b lo hi:Nat}(h:Stk O key x l a b)(g:OnlyA x y lo hi)(d:b≤lo∨hi≤a):Stk O key y l a b:=by
 induction h with
 | nil=>exact .nil _
 | cons g1 g2 g3 ih=>
   have:=g3.len
   exact .cons g1 (g2.keep g (by lia)) (ih (by lia))
theorem Stk.at{x:Array Keyed}{l:List (Nat×Nat×Nat)}{a b:Nat}(h:Stk O key x l a b):∀{i u n p:Nat},l[i]?=some (u,n,p)→1≤n∧a≤u∧u+n≤b∧Rise O key x u (u+n):=by
 induction h with
 | nil=>intro i u n p e;simp at e
 | cons g1 g2 g3 ih=>
   intro i u n p e
   cases i with
   | zero=>
     have e:=Option.some.inj e
     injection e with e1 e2
     injection e2 with e2 e3
     subst e1 e2
     exact⟨g1,Nat.le_refl _,(by have:=g3.len;lia),g2⟩
   | succ i=>
     obtain⟨k1,k2,k3,k4⟩:=ih e
     exact⟨k1,by lia,k3,k4⟩
theorem Stk.merge{x y:Array Keyed}{l:List (Nat×Nat×Nat)}{a b:Nat}(h:Stk O key x l a b):∀{i u n p v m q:Nat},l[i]?=some (u,n,p)→l[i+1]?=some (v,m,q)→v=u+n∧(OnlyA x y u (v+m)→Rise O key y u (v+m)→Stk O key y ((l.set i (u,n+m,p)).eraseIdx (i+1)) a b):=by
 induction h with
 | nil=>intro i u n p v m q e;simp at e
 | @cons a n0 p0 b r g1 g2 g3 ih=>
   intro i u n p v m q e1 e2
   cases i with
   | zero=>
     have e:=Option.some.inj e1
     injection e with e1 e3
     injection e3 with e3 e4
     subst e1 e3 e4
     cases g3 with
     | nil=>simp at e2
     | @cons _ n1 p1 _ r1 k1 k2 k3=>
       have e:=Option.some.inj e2
       injection e with f1 f3
       injection f3 with f3 f4
       subst f3
       refine⟨f1.symm,fun On R=>?_⟩
       subst f1
       have:=k3.len
       show Stk O key y ((a,n0+n1,p0)::r1) a b
       refine .cons (by lia) (by rw[←Nat.add_assoc];exact R) ?_
       rw[←Nat.add_assoc]
       exact k3.keep On (by lia)
   | succ i=>
     obtain⟨j1,j2⟩:=ih e1 e2
     obtain⟨_,k2,_,_⟩:=g3.at e1
     exact⟨j1,fun On R=>.cons g1 (g2.keep On (by lia)) (j2 On R)⟩
theorem Stk.pow{x:Array Keyed}{l:List (Nat×Nat×Nat)}{a b pw:Nat}(h:Stk O key x l a b):∀i,Stk O key x (l.modify i fun q=>(q.1,q.2.1,pw)) a b:=by
 induction h with
 | nil=>intro i;cases i <;> exact .nil _
 | cons g1 g2 g3 ih=>
   intro i
   cases i with
   | zero=>exact .cons g1 g2 g3
   | succ i=>exact .cons g1 g2 (ih i)
theorem gW(C:bB O key prog w A E s a₀ kd){z:SortSt}{i lo:Nat}{Q:Bool→SortSt→Prop}(hB:Bas a₀ kd z)(S:Stk O key (arrOf z) (pendingOf z).toList 0 lo)(hl:lo≤a₀.size)(hi:i+1<(pendingOf z).size)(h:∀z',Bas a₀ kd z'→Stk O key (arrOf z') (pendingOf z').toList 0 lo→(pendingOf z').size+1=(pendingOf z).size→OnlyA (arrOf z) (arrOf z') 0 lo→Q true z'):wpS (model prog w) A E s (mergeAt' i) Q z:=by
 have e1:(pendingOf z)[i]?=some ((pendingOf z)[i]):=Array.getElem?_eq_getElem _
 have e2:(pendingOf z)[i+1]?=some ((pendingOf z)[i+1]):=Array.getElem?_eq_getElem _
 obtain⟨⟨u,n,p⟩,hu⟩:∃q,q=(pendingOf z)[i]:=⟨_,rfl⟩
 obtain⟨⟨v,m,q⟩,hv⟩:∃q,q=(pendingOf z)[i+1]:=⟨_,rfl⟩
 rw[←hu] at e1
 rw[←hv] at e2
 have f1:(pendingOf z).toList[i]?=some (u,n,p):=by rw[Array.getElem?_toList];exact e1
 have f2:(pendingOf z).toList[i+1]?=some (v,m,q):=by rw[Array.getElem?_toList];exact e2
 obtain⟨a1,a2,a3,a4⟩:=S.at f1
 obtain⟨b1,b2,b3,b4⟩:=S.at f2
 have ev:=(S.merge (y:=arrOf z) f1 f2).1
 refine mO C hB e1 e2 ev a1 b1 (by lia) (by rw[ev];exact a4) b4 fun z' B' P' On R=>?_
 have st:=(S.merge (y:=arrOf z') f1 f2).2 On R
 have sz:(pendingOf z').size+1=(pendingOf z).size:=by
  rw[P']
  unfold Array.eraseIdxIfInBounds
  rw[dif_pos (by rw[Array.size_setIfInBounds];exact hi),Array.size_eraseIdx,Array.size_setIfInBounds];lia
 refine h z' B' ?_ sz (On.wide (by lia) (by lia))
 rw[P']
 unfold Array.eraseIdxIfInBounds
 rw[dif_pos (by rw[Array.size_setIfInBounds];exact hi),Array.toList_eraseIdx,Array.toList_setIfInBounds]
 exact st
theorem qw(C:bB O key prog w A E s a₀ kd){st:SortSt}{Q:Unit→SortSt→Prop}(hB:Bas a₀ kd st)(hp:pendingOf st=#[])(h1:1≤a₀.size)(h:∀z,Bas a₀ kd z→Rise O key (arrOf z) 0 a₀.size→Q () z):wpS (model prog w) A E s sortRuns' Q st:=by
 rw[sortRuns'_eq]
 refine wpS_bind (wpS_get ?_)
 dsimp only
 simp only[hB.size]
 generalize minRun' a₀.size a₀.size 0=mr
 have S0:Stk O key (arrOf st) (pendingOf st).toList 0 0:=by rw[hp];exact .nil _
 refine wpS_bind (wpS_mono (wpS_forRange (I:=fun x c z=>∃lo,c=(none,lo)∧Bas a₀ kd z∧Stk O key (arrOf z) (pendingOf z).toList 0 lo∧lo≤a₀.size∧x≤lo) (Q:=fun c z=>c=(none,a₀.size)∧Bas a₀ kd z∧Stk O key (arrOf z) (pendingOf z).toList 0 a₀.size) ?one ?last ⟨0,rfl,hB,S0,Nat.zero_le _,Nat.le_refl _⟩) ?behind)
 case last=>
  rintro c z ⟨lo,rfl,B,S,l1,l2⟩
  have e:lo=a₀.size:=by lia
  subst e
  exact⟨rfl,B,S⟩
 case one=>
  rintro x c z _ hx ⟨lo,rfl,B,S,l1,l2⟩
  dsimp only
  by_cases hlo:lo≥a₀.size
  ·rw[if_pos hlo]
   have e:lo=a₀.size:=by lia
   subst e
   exact wpS_pure ⟨rfl,B,S⟩
  ·rw[if_neg hlo]
   refine wpS_bind (mG C B (by lia) (by lia) fun z1 n B1 P1 On1 n1 n2 R1=>?_)
   dsimp only
   have S1:Stk O key (arrOf z1) (pendingOf z1).toList 0 lo:=by rw[P1];exact S.keep On1 (.inl (Nat.le_refl _))
   by_cases hmr:n<mr
   ·rw[if_pos hmr]
    refine wpS_bind (wpS_lift (wpAny_rule ⟨rfl,?_⟩))
    refine wpS_bind (mV C B1 (by lia) (by lia) R1 fun z2 B2 P2 On2 R2=>?_)
    rw[if_neg (by simp)]
    have S2:Stk O key (arrOf z2) (pendingOf z2).toList 0 lo:=by rw[P2];exact S1.keep On2 (.inl (Nat.le_refl _))
    have m1:1≤min (a₀.size-lo) mr:=by lia
    have m2:lo+min (a₀.size-lo) mr≤a₀.size:=by lia
    generalize min (a₀.size-lo) mr=N at R2 m1 m2 ⊢
    refine wpS_bind (wpS_get ?_)
    cases hb:(pendingOf z2).back? with
    | none=>
      dsimp only
      refine wpS_bind (wpS_modify (wpS_pure ⟨lo+N,rfl,⟨B2.perm,B2.kind,B2.failed⟩,?_,m2,by lia⟩))
      show Stk O key (arrOf z2) ((pendingOf z2).push (lo,N,0)).toList 0 (lo+N)
      rw[Array.toList_push]
      exact S2.snoc m1 R2
    | some t=>
      obtain⟨s1,k1,q1⟩:=t
      dsimp only
      refine wpS_bind (wpS_mono (wpS_forRange (I:=fun _ c z=>c=(none,())∧Bas a₀ kd z∧Stk O key (arrOf z) (pendingOf z).toList 0 lo∧Rise O key (arrOf z) lo (lo+N)) (Q:=fun c z=>c=(none,())∧Bas a₀ kd z∧Stk O key (arrOf z) (pendingOf z).toList 0 lo∧Rise O key (arrOf z) lo (lo+N)) ?st (fun c z q=>q) ⟨rfl,B2,S2,R2⟩) ?en)
      case st=>
       rintro y c z _ _ ⟨rfl,Bz,Sz,Rz⟩
       refine wpS_bind (wpS_get ?_)
       by_cases h2:(pendingOf z).size>1
       ·rw[if_pos h2]
        cases he:(pendingOf z)[(pendingOf z).size-2]? with
        | none=>exact wpS_pure ⟨rfl,Bz,Sz,Rz⟩
        | some t=>
          obtain⟨t1,t2,t3⟩:=t
          dsimp only
          split
          ·exact wpS_pure ⟨rfl,Bz,Sz,Rz⟩
          ·refine wpS_bind (gW C Bz Sz l1 (by lia) fun z' B' S' _ On'=>?_)
           rw[if_neg (by simp)]
           exact wpS_pure ⟨rfl,B',S',Rz.keep On' (.inr (Nat.le_refl _))⟩
       ·rw[if_neg h2]
        exact wpS_pure ⟨rfl,Bz,Sz,Rz⟩
      case en=>
       rintro c z ⟨rfl,Bz,Sz,Rz⟩
       dsimp only
       refine wpS_bind (wpS_modify (wpS_bind (wpS_modify (wpS_pure ⟨lo+N,rfl,⟨Bz.perm,Bz.kind,Bz.failed⟩,?_,m2,by lia⟩))))
       show Stk O key (arrOf z) (((pendingOf z).modify _ _).push (lo,N,0)).toList 0 (lo+N)
       rw[Array.toList_push,Array.toList_modify]
       exact(Sz.pow _).snoc m1 Rz
   ·rw[if_neg hmr]
    have m2:lo+n≤a₀.size:=by lia
    refine wpS_bind (wpS_get ?_)
    cases hb:(pendingOf z1).back? with
    | none=>
      dsimp only
      refine wpS_bind (wpS_modify (wpS_pure ⟨lo+n,rfl,⟨B1.perm,B1.kind,B1.failed⟩,?_,m2,by lia⟩))
      show Stk O key (arrOf z1) ((pendingOf z1).push (lo,n,0)).toList 0 (lo+n)
      rw[Array.toList_push]
      exact S1.snoc n1 R1
    | some t=>
      obtain⟨s1,k1,q1⟩:=t
      dsimp only
      refine wpS_bind (wpS_mono (wpS_forRange (I:=fun _ c z=>c=(none,())∧Bas a₀ kd z∧Stk O key (arrOf z) (pendingOf z).toList 0 lo∧Rise O key (arrOf z) lo (lo+n)) (Q:=fun c z=>c=(none,())∧Bas a₀ kd z∧Stk O key (arrOf z) (pendingOf z).toList 0 lo∧Rise O key (arrOf z) lo (lo+n)) ?st (fun c z q=>q) ⟨rfl,B1,S1,R1⟩) ?en)
      case st=>
       rintro y c z _ _ ⟨rfl,Bz,Sz,Rz⟩
       refine wpS_bind (wpS_get ?_)
       by_cases h2:(pendingOf z).size>1
       ·rw[if_pos h2]
        cases he:(pendingOf z)[(pendingOf z).size-2]? with
        | none=>exact wpS_pure ⟨rfl,Bz,Sz,Rz⟩
        | some t=>
          obtain⟨t1,t2,t3⟩:=t
          dsimp only
          split
          ·exact wpS_pure ⟨rfl,Bz,Sz,Rz⟩
          ·refine wpS_bind (gW C Bz Sz l1 (by lia) fun z' B' S' _ On'=>?_)
           rw[if_neg (by simp)]
           exact wpS_pure ⟨rfl,B',S',Rz.keep On' (.inr (Nat.le_refl _))⟩
       ·rw[if_neg h2]
        exact wpS_pure ⟨rfl,Bz,Sz,Rz⟩
      case en=>
       rintro c z ⟨rfl,Bz,Sz,Rz⟩
       dsimp only
       refine wpS_bind (wpS_modify (wpS_bind (wpS_modify (wpS_pure ⟨lo+n,rfl,⟨Bz.perm,Bz.kind,Bz.failed⟩,?_,m2,by lia⟩))))
       show Stk O key (arrOf z) (((pendingOf z).modify _ _).push (lo,n,0)).toList 0 (lo+n)
       rw[Array.toList_push,Array.toList_modify]
       exact(Sz.pow _).snoc n1 Rz
 case behind=>
  rintro c z ⟨rfl,B,S⟩
  dsimp only
  refine wpS_bind (wpS_mono (wpS_forRange (I:=fun x c z=>c=(none,())∧Bas a₀ kd z∧Stk O key (arrOf z) (pendingOf z).toList 0 a₀.size∧((pendingOf z).size≤1∨(pendingOf z).size+x≤a₀.size)) (Q:=fun c z=>c=(none,())∧Bas a₀ kd z∧Stk O key (arrOf z) (pendingOf z).toList 0 a₀.size∧(pendingOf z).size≤1) ?go ?stop ⟨rfl,B,S,.inr (by have:=S.len;rw[Array.length_toList] at this;lia)⟩) ?fin)
  case stop=>
   rintro c z ⟨rfl,B,S,o⟩
   exact⟨rfl,B,S,by lia⟩
  case go=>
   rintro x c z _ hx ⟨rfl,B,S,o⟩
   refine wpS_bind (wpS_get ?_)
   by_cases h2:(pendingOf z).size≤1
   ·rw[if_pos h2]
    exact wpS_pure ⟨rfl,B,S,h2⟩
   ·rw[if_neg h2]
    have hi:∀b:Bool,(if b=true then(pendingOf z).size-2-1 else(pendingOf z).size-2)+1<(pendingOf z).size:=fun b=>by
     cases b
     ·rw[if_neg Bool.false_ne_true];lia
     ·rw[if_pos rfl];lia
    refine wpS_bind (gW C B S (Nat.le_refl _) (hi _) fun z' B' S' sz' _=>?_)
    rw[if_neg (by simp)]
    exact wpS_pure ⟨rfl,B',S',by lia⟩
  case fin=>
   rintro c z ⟨rfl,B,S,o⟩
   refine wpS_pure (h z B ?_)
   rw[←Array.length_toList] at o
   cases hl:(pendingOf z).toList with
   | nil=>
     rw[hl] at S
     generalize e:a₀.size=m at S h1
     cases S
     lia
   | cons q r=>
     rw[hl] at S o
     have hr:r=[]:=by
      cases r with
      | nil=>rfl
      | cons _ _=>simp at o
     subst hr
     obtain⟨u,n,p⟩:=q
     generalize e:a₀.size=m at S ⊢
     cases S with
     | cons g1 g2 g3=>
       cases g3
       exact g2
end
section
variable{prog:Program}{w:World}{A:Around}{E:Value→Shared→Prop}{s:Shared}
end
section
variable{X:Cx}{e:Expr}{te:TE}{p pos:Pos}
end
section
variable{prog:Program}{w:World}{A:Around}{R:Result→Shared→Prop}{I S ax:Addr}{items:Array Value}{L:Nat→List Value}
end
section
variable{X:Cx}{e e2:Expr}{te te2:TE}{p pos:Pos}
end
def qF(P:Addr)(ps:Array Value):Heap→Prop:=fun h=>h.get? P=some (PySem.W.tabObj ps)
def gz(c:Addr)(qual:Str):Heap→Prop:=fun h=>h.CodeRec (.ref c) qual
def bt(mg:Str→Option Value)(h:Heap):Prop:=∃bm ob,mg "__builtins__"=some (.ref bm)∧bm≠builtinsNs∧h.get? bm=some ob∧ob.cls=.type "module"∧ob.dict=some builtinsNs∧ob.data=.plain
def bz(P:Addr)(ps:Array Value):HO:=.ext (qF P ps)
theorem fK{prog:Program}{w:World}{H:Hp}{h:Heap}{P:Addr}{ps:Array Value}(e:h.get? P=some (PySem.W.tabObj ps)):ObjOk prog w H h P (bz P ps):=⟨e,⟨_,e⟩,fun _ _ z k=>k _ z⟩
section
variable{Pr:Program}{w:World}{K:PySem.W.Frag}{mg mb:Str→Option Value}{CX:be}{k:Nat}{fa a P:Addr}{fd:FuncData}{x:Str}{sp:Sp}{s₁:Shared}{vs:List Value}{ns:List Int}
structure Beg(K:PySem.W.Frag)(a P:Addr)(H:Hp):Prop where
 tab:H P=some (bz P #[])
 only:∀b u,H b=some u→(b=P∧u=bz P #[])∨(b=a∧K.lookup a=none∧∃o xs,u=.frz o (.lst xs))
theorem mI(KX:K.In s₁.heap)(hns:s₁.heap.Ns mainGlobals mg)(hb:s₁.heap.Ns builtinsNs mb)(hbb:∀x:Str,x≠"__name__"→mb x=bootBuiltins x)(hbm:bt mg s₁.heap)(hlim:s₁.heap.NoLimit)(hg:s₁.gens=#[])(ha:s₁.heap.get? a=some {cls:=.type "list",data:=.seq vs.toArray})(hi:IntsAre vs ns)(hl:ns.length≤sizeLine)(hr:Room k callerA)(hP:s₁.heap.get? P=some (PySem.W.tabObj #[]))(hKP:K.lookup P=none)(hcT:isCodeTable s₁.heap P)(F:∀base:Heap,K.In base→base.Ns mainGlobals mg→bt mg base→FnOk Pr w K mg base CX k fa fd [x] sp)(hbind:∀(s:Shared) (u:Value),BindsTo s fd ⟨[u],[]⟩ [(x,u)])(hsp:∀H:Hp,Beg K a P H→SqL K H a (ns.map V.int)→sp [.ref a] H (fun v H'=>v=.bl true∧∃ps,H' P=some (bz P ps)) fun _ _ _=>False)
 (hCX:∀H e s',CX [] H s₁ (fun _ _ _=>False) e s'→False):
 codeAny (model Pr w) callerA (.call (.ref fa) ⟨[.ref a],[]⟩) (fun r s'=>r=.ok (.ret (.bool true))∧OldK s₁.heap s'.heap∧s'.os=s₁.os∧AllBare s'.gens) s₁:=by
 have rv:=jm hi
 have nPa:P≠a:=fun z=>by rw[z,ha] at hP;cases hP
 have go:∀H:Hp,Beg K a P H→SqL K H a (ns.map V.int)→HOk Pr w H s₁.heap→codeAny (model Pr w) callerA (.call (.ref fa) ⟨[.ref a],[]⟩) (fun r s'=>r=.ok (.ret (.bool true))∧OldK s₁.heap s'.heap∧s'.os=s₁.os∧AllBare s'.gens) s₁:=by
  intro H B hS hok
  have fr:∀{b:Addr} {o:Obj},s₁.heap.get? b=some o→(∀xs n,o.data≠ .seq xs n)→(∀f,o.data≠ .fields f)→H b=none:=fun{b o} e n1 n2=>by
   cases q:H b with
   | none=>rfl
   | some u=>
     rcases B.only b u q with⟨z,_⟩ | ⟨z,_⟩
     ·rw[z,hP] at e;cases e;exact absurd rfl (n2 _)
     ·rw[z,ha] at e;cases e;exact absurd rfl (n1 _ _)
  have up:∀{b:Addr} {m:Str→Option Value},s₁.heap.Ns b m→(bQ s₁.heap H).Ns b m:=fun{b m} ⟨o,es,ep,e,d,r⟩=>⟨o,es,ep,gk e (fr e (fun _ _ z=>by rw[d] at z;cases z) fun _ z=>by rw[d] at z;cases z),d,r⟩
  have hKb:K.In (bQ s₁.heap H):=fun b o e=>gk (KX b o e) (by
   cases q:H b with
   | none=>rfl
   | some u=>
     rcases B.only b u q with⟨z,_⟩ | ⟨z,z2,_⟩
     ·rw[z,hKP] at e;cases e
     ·rw[z,z2] at e;cases e)
  have hMb:bt mg (bQ s₁.heap H):=by
   obtain⟨bm,ob,h1,h2,h3,h4,h5,h6⟩:=hbm
   exact⟨bm,ob,h1,h2,gk h3 (fr h3 (fun _ _ z=>by rw[h6] at z;cases z) fun _ z=>by rw[h6] at z;cases z),h4,h5,h6⟩
  have hM:Mod K mg (bQ s₁.heap H):=⟨hKb,up hns,⟨mb,up hb,hbb⟩,let ⟨mc,h1,h2⟩:=hlim;⟨mc,up h1,h2⟩⟩
  have e0:Env0 Pr w K mg (bQ s₁.heap H) callerA [] s₁ H:=⟨rfl,hM,fun b o e=>qq e,Nat.le_of_eq (pY _ _),trivial,(fun b hb=>nomatch hb),hok,.of_eq hg⟩
  refine codeAny_mono ((F _ hKb (up hns) hMb).run callerA [] s₁ H ⟨[.ref a],[]⟩ [.ref a] [.ref a] _ _ hr e0 (hbind s₁ (.ref a)) (.cons rfl .nil) (hsp H B hS)) fun r s' h=>?_
  match r,h with
  | .error e,h=>exact(hCX H e s' h).elim
  | .ok (.ret u),h=>
    obtain⟨v,H',os,bare,un,hok',r',rfl,ps,hps⟩:=h
    obtain rfl:u=Value.bool true:=r'
    obtain⟨gP,_⟩:=hok' P _ hps
    have cases3:∀b o,s₁.heap.get? b=some o→s'.heap.get? b=some o∨b=P:=fun b o e=>by
     cases q:H b with
     | none=>exact .inl (un.keep b o e q (fun z=>nomatch z) (fun z=>nomatch z))
     | some u=>
       rcases B.only b u q with⟨z,_⟩ | ⟨z,_,ob,xs,z2⟩
       ·exact .inr z
       ·subst z2
        obtain⟨e1,_⟩:=hok b _ q
        obtain⟨e2,_⟩:=hok' b _ (un.frzs b ob _ q)
        rw[e] at e1;cases e1
        exact .inl e2
    refine⟨rfl,⟨fun b o e=>?_,fun b o e=>?_⟩,os,bare⟩
    ·rcases cases3 b o e with z | z
     ·exact .inl z
     ·subst z
      rw[hP] at e;cases e
      exact .inr (.inl ⟨hcT,rfl,#[],ps,rfl,by rw[Array.empty_append];exact gP⟩)
    ·rcases cases3 b o e with z | z
     ·exact⟨o,z⟩
     ·subst z;exact⟨_,gP⟩
 cases hk:K.lookup a with
 | some o=>
   have e:=KX a o hk
   rw[ha] at e
   cases e
   refine go (fun b=>if b=P then some (bz P #[]) else none) ⟨if_pos rfl,fun b u q=>?_⟩ (.inr ⟨_,vs.toArray,_,hk,rfl,rfl,rfl,by rw[List.size_toArray,hi.length];exact hl,by simpa using rv⟩) fun b u q=>?_
   ·try dsimp only at q
    by_cases z:b=P
    ·rw[if_pos z] at q;cases q;exact .inl ⟨z,rfl⟩
    ·rw[if_neg z] at q;cases q
   ·try dsimp only at q
    by_cases z:b=P
    ·rw[if_pos z] at q;cases q;subst z;exact fK hP
    ·rw[if_neg z] at q;cases q
 | none=>
   refine go (fun b=>if b=P then some (bz P #[]) else if b=a then some (.frz {cls:=.type "list",data:=.seq vs.toArray} (.lst (ns.map V.int))) else none) ⟨if_pos rfl,fun b u q=>?_⟩ (.inl (.inr ⟨{cls:=.type "list",data:=.seq vs.toArray},by show(if a=P then _ else if a=a then _ else _)=_;rw[if_neg (Ne.symm nPa),if_pos rfl]⟩)) fun b u q=>?_
   ·try dsimp only at q
    by_cases z:b=P
    ·rw[if_pos z] at q;cases q;exact .inl ⟨z,rfl⟩
    ·rw[if_neg z] at q
     by_cases z2:b=a
     ·rw[if_pos z2] at q;cases q;exact .inr ⟨z2,hk,_,_,rfl⟩
     ·rw[if_neg z2] at q;cases q
   ·try dsimp only at q
    by_cases z:b=P
    ·rw[if_pos z] at q;cases q;subst z;exact fK hP
    ·rw[if_neg z] at q
     by_cases z2:b=a
     ·rw[if_pos z2] at q;cases q;subst z2
      exact⟨ha,by rw[List.length_map];exact hl,vs,_,rv,ha⟩
     ·rw[if_neg z2] at q;cases q
end
theorem walk_tab{l:PySem.W.OpenLaw}{n k:Nat}{q:Program}{loose:List Str}{XP:(Str→Option Value)→Heap→Prop}{YP:World→Heap→Prop}{d:DefRec}{K:Params→PySem.W.Frag}{CX:World→be}{sp:World→Sp}{x:Str}{c P:Addr}(hn:l.most=some n)(hn2:n≤sizeLine)(hdf:d.params.defaults=[])(hr:Room k callerA)(hY:∀(w:World) (h:Heap),YP w h→(K w.params).In h)(hT:∀(w:World) (h:Heap),YP w h→h.get? P=some (PySem.W.tabObj #[]))(hC:∀w:World,PySem.W.codeHdIn (K w.params) c P=true)(hKP:∀w:World,(K w.params).lookup P=none)(F:∀(w:World) (mg:Str→Option Value) (fa:Addr) (h:Heap),(K w.params).In h→h.Ns mainGlobals mg→mg d.name=some (.ref fa)→∃fd:FuncData,(∀(s:Shared) (u:Value),BindsTo s fd ⟨[u],[]⟩ [(x,u)])∧∀base:Heap,(K w.params).In base→base.Ns mainGlobals mg→bt mg base→FnOk l.prog w (K w.params) mg base (CX w) k fa fd [x] (sp w))(hsp:∀(w:World) (H:Hp) (a:Addr) (ns:List Int),ns.length≤n→Beg (K w.params) a P H→SqL (K w.params) H a (ns.map V.int)→sp w [.ref a] H (fun v H'=>v=.bl true∧∃ps,H' P=some (bz P ps)) fun _ _ _=>False)
 (hCX:∀(w:World) (H:Hp) (s:Shared) (e:Value) (s':Shared),CX w [] H s (fun _ _ _=>False) e s'→False):
 PySem.W.WalkO q loose XP YP l.row.toRowW d [] (fun f vs=>PySem.call f vs):=by
 refine Att.attach_call hn hdf fun w s₀ s₁ mg mb fa o pm cd doc a vs ns G Y ho hd hcd hmg hobj hints hlen hg=>?_
 have KX:=hY w _ Y
 obtain⟨fd,hb,hF⟩:=F w mg fa _ KX G.T.g hmg
 have hc:=PySem.W.codeHd_of_K KX (hC w)
 have hP:=hT w _ Y
 exact mI KX G.T.g G.T.b G.T.builtins G.T.bmain G.T.nolimit hg hobj hints (Nat.le_trans hlen hn2) hr hP (hKP w) (hc.tab hP).isCodeTable hF hb (fun H B hS=>hsp w H a ns hlen B hS) fun H e s'=>hCX w H s₁ e s'
abbrev dk(qual:Str)(scope:Scope)(L f c:Addr)(fv:Str)(cw:Addr):Env:=PySem.W.envX qual scope L f (.ref c) [(fv,cw)]
abbrev gu(X:Cx)(A:Around)(N:List Str)(env:Env)(s:Shared)(H:Hp):Cx:=
 {X with A:=A.deeper env,N:=N,s₀:=s,H₀:=H,env:=env,outer:=X.stack,stack:=env::X.stack,ex:=[],fn:=fun _=>false,calm:=true,pn:=[],xe:=fun _ _=>False}
structure LamSc(fv y:Str)(scope:Scope):Prop where
 kind:scope.kind=.function
 co:scope.isCoroutine=false
 gen:scope.isGenerator=false
 nocell:∀x∈scope.names,x.2≠ .cell
 yl:scope.names.lookup y=some .local
 ff:scope.names.lookup fv=some .free
 one:∀x∈scope.names,x.2=.free→x.1=fv
theorem eP{fv x:Str}{cw c:Addr}(e:([(fv,cw)]:List (Str×Addr)).lookup x=some c):x=fv∧c=cw:=by
 rw[List.lookup_cons] at e
 cases h:x == fv with
 | true=>rw[h] at e;exact⟨eq_of_beq h,(Option.some.inj e).symm⟩
 | false=>rw[h] at e;cases e
theorem lv{fv:Str}{cw:Addr}:([(fv,cw)]:List (Str×Addr)).lookup fv=some cw:=by rw[List.lookup_cons,beq_self_eq_true]
theorem rS{X:Cx}{pins:List (Addr×Obj)}{σ:St}{H:Hp}{s:Shared}{A:Around}{f c cw:Addr}{name qual fv y:Str}{params:Arguments}{body:Expr}{scope:Scope}{pm ctv u uw:Value}{v vw:V}{tb:TE}{Q:VK}{R:Result→Shared→Prop}(I:Inv X pins σ H s)(hA:A.frames=some X.stack)(hh:A.handled=none)(hd:A.depth<recursionLimit)(S:LamSc fv y scope)(hny:fv≠y)(ho:s.heap.get? f=some (PySem.W.kla_obj name qual params body scope [(fv,cw)] pm c ctv))(hcd:s.heap.CodeRec (.ref c) qual)(hcw:s.heap.IsCell cw (some uw))(hHc:H cw=none)(rw':RelV vw uw)(ru:RelV v u)(hbind:bindArgs (PySem.W.kla_fn name qual params body scope [(fv,cw)] pm (.ref c) ctv) ⟨[u],[]⟩=pure [(y,u)])(hb:PE (gu X A [fv,y] (dk qual scope s.heap.objs.size f c fv cw) s H) body tb)(q:tb [some vw,some v] H Q)(k:∀v' u' H' s',Inv X pins σ H' s'→Un (bf X.stack) [] H H' s.heap s'.heap→RelV v' u'→Q v' H'→R (.ok (.ret u')) s'):codeAny (model X.prog X.w) A (.call (.ref f) ⟨[u],[]⟩) R s:=by
 refine PySem.W.kla_callFunE hd ho rfl S.co S.gen rfl hcd ?_
 rw[hbind]
 refine wpAny_pure (wpAny_newFunctionEnv S.nocell (fun x hx=>by rw[List.mem_singleton.mp hx];exact S.yl) (fun h1 hns hsb=>?_) S.kind)
 have kp:∀b o,s.heap.get? b=some o→h1.get? b=some o:=fun b o e=>hsb.extBut b o (Nat.ne_of_lt (Heap.lt_size e)) (Heap.get?_push_of_some _ e)
 refine⟨I.nolimit.keeps kp,?_⟩
 show codeAny _ _ (.expr body (dk qual scope s.heap.objs.size f c fv cw)) _ _
 have e0:=I.env0
 have kf:(dk qual scope s.heap.objs.size f c fv cw).kindOf fv=some .free:=S.ff
 have J:Inv (gu X A [fv,y] (dk qual scope s.heap.objs.size f c fv cw) s H) [] [some vw,some v] H {s with heap:=h1,toks:=s.toks+ [(y,u)].length}:=by
  refine⟨⟨I.ok.mod,S.kind,rfl,rfl,Nat.le_refl _,fun x z c' h1 h2=>?_,fun x hx=>?_,fun x c' h=>(by cases h),fun _=>hh,Around.frames_deeper hA,.inr ⟨rfl,rfl⟩,fun b z=>(nomatch z),e0.bs,e0.bsz,fun b _ _ z=>(nomatch z),fun b z=>(nomatch z),e0.funs,e0.frf⟩,
   rfl,I.bare,Un.kept kp,⟨_,hns,fun i x z h1' h2' h3'=>?_⟩,fun x c' e=>?_,I.fresh,fun x c' e=>?_,fun p hp=>(nomatch hp),I.hok.kept kp,rfl⟩
  ·exact(eP h1).1.trans (eP h2).1.symm
  ·rcases hx with hx | hx
   ·exact absurd rfl (S.nocell _ (PySem.mem_of_lookup hx))
   ·have:=S.one _ (PySem.mem_of_lookup hx) rfl
    exact⟨cw,by rw[show x=fv from this];exact lv⟩
  ·match i,h1',h2' with
   | 0,h1',h2'=>
     obtain rfl:fv=x:=Option.some.inj h1'
     cases h2'
     obtain⟨o,e1,e2⟩:=hcw
     exact⟨uw,rw',.inr ⟨.inr kf,cw,lv,o,kp _ _ e1,e2⟩⟩
   | 1,h1',h2'=>
     obtain rfl:y=x:=Option.some.inj h1'
     cases h2'
     refine⟨u,ru,.inl ⟨S.yl,?_⟩⟩
     show([(y,u)]:List (Str×Value)).reverse.lookup y=some u
     rw[List.reverse_singleton,List.lookup_cons,beq_self_eq_true]
   | i+2,h1',_=>cases h1'
  ·obtain⟨_,rfl⟩:=eP e
   obtain⟨o,e1,e2⟩:=hcw
   exact⟨_,o,kp _ _ e1,e2⟩
  ·obtain⟨_,rfl⟩:=eP e
   exact hHc
 refine PySem.W.kla_codeExpr (wpAny_mono (hb [] _ _ H Q J q) (fun u' s' ⟨v',H',J',r',q'⟩=>?_) fun _ _ z=>z.elim)
 exact k v' u' H' s' (I.call' J'.os J'.base J'.hok J'.bare (fun b z=>(nomatch z))) J'.base r' q'
def gT(H:Hp)(P:Addr)(pos:Pos)(qual:Str)(c:Addr):Prop:=H P=some (bz P #[rawInt pos.line,rawInt pos.col,.ref c])∧H c=some (.ext (gz c qual))
def Tab(H:Hp)(P:Addr)(pos:Pos)(qual:Str):Prop:=H P=some (bz P #[])∨∃c,gT H P pos qual c
theorem Tab.same{H H':Hp}{P:Addr}{pos:Pos}{qual:Str}(h:Tab H P pos qual)(s:Same H H'):Tab H' P pos qual:=by
 rcases h with h | ⟨c,h1,h2⟩
 ·exact .inl (s _ _ h)
 ·exact .inr ⟨c,s _ _ h1,s _ _ h2⟩
theorem me{prog:Program}{w:World}{H:Hp}{h:Heap}{c:Addr}{qual:Str}(e:h.CodeRec (.ref c) qual):ObjOk prog w H h c (.ext (gz c qual)):=by
 obtain⟨c',oc,vs,t,e1,e2,e3,e4⟩:=id e
 cases e1
 refine⟨e,⟨_,e2⟩,fun h1 h2 z k=>?_⟩
 obtain⟨c',oc',vs',t',f1,f2,f3,f4⟩:=z
 cases f1
 exact⟨c,oc',vs',t',rfl,k _ f2,f3,f4⟩
theorem Inv.trackE{X:Cx}{pins:List (Addr×Obj)}{σ:St}{H:Hp}{s:Shared}{e:Addr}{u:HO}(I:Inv X pins σ H s)(hn:H e=none)(h0:X.s₀.heap.get? e=none)(hl:e≠X.env.locals)(hc:∀x c,X.env.cells.lookup x=some c→c≠e)(hp:∀p∈X.pn++pins,p.1≠e)(hx:ObjOk X.prog X.w (upd H e u) s.heap e u):Inv X pins σ (upd H e u) s:=by
 have ne:∀{b:Addr} {o:HO},H b=some o→(upd H e u) b=some o:=fun{b o} q=>by rw[ao (fun z=>by rw[z,hn] at q;cases q)];exact q
 have nn:∀{b:Addr},b≠e→H b=none→(upd H e u) b=none:=fun{b} z q=>by rw[ao z];exact q
 refine⟨I.ok,I.os,I.bare,⟨I.base.keep,I.base.slot,fun b o q n hx=>nn (fun z=>by rw[z,h0] at q;cases q) (I.base.free b o q n hx),I.base.there,fun b xs q=>ne (I.base.tups b xs q),fun b o u q=>ne (I.base.frzs b o u q),fun b ps q=>?_⟩,I.loc,I.cell,nn (Ne.symm hl) I.free,fun x c q=>nn (hc x c q) (I.freeC x c q),fun p q=>?_,fun b o q=>?_,I.len⟩
 ·obtain⟨m,q'⟩:=I.base.tbls b ps q
  exact⟨m,ne q'⟩
 ·obtain⟨a1,a2,a3,a4,a5⟩:=I.pin p q
  exact⟨a1,nn (hp p q) a2,a3,a4,a5⟩
 ·by_cases z:b=e
  ·subst z
   rw[ag] at q
   cases q
   exact hx
  ·rw[ao z] at q
   exact(I.hok b o q).stay (fun c v _ q'=>q') (fun c q'=>ne q') fun c xs q'=>ne q'
theorem nB{X:Cx}{pins:List (Addr×Obj)}{σ:St}{H:Hp}{s:Shared}{M:Model}{A:Around}{E:Value→Shared→Prop}{Q:Value→Shared→Prop}{cc P cw:Addr}{fv:Str}{params:Arguments}{body:Expr}{scope:Scope}{lp:Pos}(I:Inv X pins σ H s)(hcode:X.env.code=.ref cc)(C:PySem.W.CodeHd X.base cc P)(hBm:bt X.mg X.base)(T:Tab H P lp (X.env.qual++"<lambda>"))(hcl:closureFor scope X.env=pure [(fv,cw)])(hdef:defaultsOf params X.env=([],[]))(h:∀f c pm ctv H' s',Inv X pins σ H' s'→gT H' P lp (X.env.qual++"<lambda>") c→Keep P H H'→s'.heap.get? f=some (PySem.W.kla_obj "<lambda>" (X.env.qual++"<lambda>") params body scope [(fv,cw)] pm c ctv)→H' f=none→s.heap.objs.size≤f→(∀b,s'.heap.objs.size≤b→s.heap.objs.size≤b)→Q (.ref f) s'):wpAny M A (eval (.Lambda params body scope lp) X.env) Q E s:=by
 refine PySem.W.kla_eval hdef ?_
 have hg:=I.mod.glob.keeps I.bk
 have Cs:=C.keeps I.bk
 have tab:∀ps,H P=some (bz P ps)→s.heap.get? P=some (PySem.W.tabObj ps):=fun ps e=>(I.hok P _ e).1
 have hgP:mainGlobals≠P:=fun z=>by
  obtain⟨o,es,ep,e,d,_⟩:=I.mod.glob
  have:=(I.bs _ _ e).2
  rw[z] at this
  rcases T with t | ⟨c,t,_⟩ <;> (rw[this] at t;cases t)
 have hB:s.heap.BuiltinsAt X.mg P:=by
  obtain⟨bm,ob,b1,b2,b3,b4,b5,b6⟩:=hBm
  refine⟨bm,ob,b1,b2,fun z=>?_,fun z=>?_,I.bk _ _ b3,b4,b5,b6⟩
  ·obtain⟨o,es,ep,e,d,_⟩:=I.mod.glob
   rw[z,e] at b3;cases b3;rw[d] at b6;cases b6
  ·have:=(I.bs _ _ b3).2
   rw[z] at this
   rcases T with t | ⟨c,t,_⟩ <;> (rw[this] at t;cases t)
 rcases T with t | ⟨c,t,tc⟩
 ·refine PySem.W.kla_makeFunction (mg:=X.mg) hcl I.ok.glob hg hcode Cs (tab _ t) (by first | trivial | exact rfl | decide) rfl hgP hB fun c ctv h' tk hx hge hlt hrec htb=>?_
  rw[Array.empty_append] at htb
  have I1:=I.write (x:=P) (e:=P) (o:=bz P #[rawInt lp.line,rawInt lp.col,.ref c]) (t':=tk) (by rw[t];exact trivial) (.inl rfl) (fun b u hb e=>hx b u hb e) ⟨_,htb⟩ (fK htb)
  have nP:c≠P:=fun z=>by have:=Heap.lt_size (tab _ t);rw[←z] at this;exact absurd (Nat.lt_of_lt_of_le this hge) (Nat.lt_irrefl _)
  have ltc:∀{b:Addr} {o:Obj},s.heap.get? b=some o→b≠c:=fun e=>Nat.ne_of_lt (Nat.lt_of_lt_of_le (Heap.lt_size e) hge)
  have hc0:H c=none:=I.hok.fresh hge
  have I2:=I1.trackE (e:=c) (u:=.ext (gz c (X.env.qual++"<lambda>"))) (by rw[ao nP];exact hc0) (Heap.get?_none_of_le (Nat.le_trans I.sz hge)) (Nat.ne_of_gt (Nat.lt_of_lt_of_le I.lt hge)) (fun x c' e=>by obtain⟨v,o,e1,_⟩:=I.cell x c' e;exact ltc e1) (fun p hp=>ltc (I.pin p hp).1) (me hrec)
  have I3:=I2.kept (h':=h'.push (PySem.W.kla_obj "<lambda>" (X.env.qual++"<lambda>") params body scope [(fv,cw)] ((X.mg "__name__").getD .none) c ctv)) (t':=tk) fun b o e=>Heap.get?_push_of_some _ e
  have hf:s.heap.objs.size≤h'.objs.size:=Nat.le_trans hge (Nat.le_of_lt hlt)
  refine h h'.objs.size c _ ctv _ _ I3 ⟨by rw[ao nP.symm,ag],ag⟩ (fun b o e n=>?_) (Heap.get?_push_size _ rfl) ?_ hf (fun b hb=>?_)
  ·rw[ao (fun z=>by rw[z,hc0] at e;cases e),ao n];exact e
  ·rw[ao (Nat.ne_of_gt hlt),ao (fun z=>by have:=Heap.lt_size htb;rw[←z] at this;exact absurd this (Nat.lt_irrefl _))]
   exact I.hok.fresh hf
  ·rw[Heap.size_push] at hb;exact Nat.le_trans hf (Nat.le_of_lt hb)
 ·have hrec:s.heap.CodeRec (.ref c) (X.env.qual++"<lambda>"):=(I.hok c _ tc).1
  refine PySem.W.kla_makeFunctionHit (mg:=X.mg) (cv:=.ref c) hcl I.ok.glob hg hcode Cs (tab _ t) (by first | trivial | exact⟨_,_,rfl⟩ | decide) ?_ hB fun ctv h' tk hk hsz=>?_
  ·exact codeAmong_snoc [] trivial rfl
  ·have I3:=I.kept (h':=h'.push (PySem.W.kla_obj "<lambda>" (X.env.qual++"<lambda>") params body scope [(fv,cw)] ((X.mg "__name__").getD .none) c ctv)) (t':=tk) fun b o e=>Heap.get?_push_of_some _ (hk b o e)
   refine h h'.objs.size c _ ctv _ _ I3 ⟨t,tc⟩ (fun b o e _=>e) (Heap.get?_push_size _ rfl) (I.hok.fresh hsz) hsz (fun b hb=>?_)
   rw[Heap.size_push] at hb;exact Nat.le_trans hsz (Nat.le_of_lt hb)
theorem gB:∀(xs ys:List Int),au xs ys=true∨xs=ys∨au ys xs=true
 | [],[]=>.inr (.inl rfl)
 | [],_::_=>.inl rfl
 | _::_,[]=>.inr (.inr rfl)
 | x::xs,y::ys=>by
   simp only[au]
   by_cases e:x=y
   ·subst e
    rw[if_pos rfl]
    rcases gB xs ys with h | h | h
    ·exact .inl h
    ·exact .inr (.inl (by rw[h]))
    ·exact .inr (.inr (by rw[if_pos rfl];exact h))
   ·rw[if_neg e,if_neg (fun z=>e z.symm)]
    by_cases h:x<y
    ·exact .inl (decide_eq_true h)
    ·exact .inr (.inr (decide_eq_true (by lia)))
def hX:Ordr (List Int):=⟨au,fun a=>ip a,fun a b c h1 h2=>dF h1 h2,fun a b c h=>by
 rcases gB a b with z | z | z
 ·exact .inl z
 ·subst z;exact .inr h
 ·exact .inr (dF z h)⟩
section
variable{prog:Program}{w:World}{A:Around}{E:Value→Shared→Prop}{s:Shared}
theorem rM{l b:Addr}{items items2:Array Value}{xs ys:List Nat}{Q:Bool→Shared→Prop}(hu:A.units<cLine)(hl:s.heap.IsList l items)(hb:s.heap.IsList b items2)(N1:cy xs items)(N2:cy ys items2)(h:Q (au (aj xs) (aj ys)) s):wpAny (model prog w) A (oneLt' true (.ref l) (.ref b)) Q E s:=by
 obtain⟨⟨cls,dd,data,sl⟩,ho,hc,n,hd⟩:=id hl
 obtain⟨⟨cls2,dd2,data2,sl2⟩,ho2,hc2,n2,hd2⟩:=id hb
 simp only at hc hd hc2 hd2;subst hc hd hc2 hd2
 rw[oneLt'_eq,if_pos rfl]
 refine wpAny_bind (wpAny_cRoomFor hu (wpAny_bind (wpAny_callSpecialIfBound?_slot (T:="list") ⟨_,ho,rfl⟩ F.slot_list_lt (call_meets F.slot_list_lt ⟨_,ho,rfl⟩ F.entry_list_lt (F.args_list_lt_2 _ _) (mC N1 N2) ⟨ho,ho2,?_⟩))))
 exact wpAny_truthy_bool h
def ka(s:Shared)(k:Addr)(xs:List Nat):Prop:=∃items:Array Value,s.heap.IsList k items∧cy xs items
def gh(cz:Addr→List Nat)(p:Keyed):List Int:=match p.1 with | .ref k=>aj (cz k) | _=>[]
theorem m9{a₀:Array Keyed}{cz:Addr→List Nat}(hu:A.units<cLine)(h0:∀x∈a₀,∃k,x.1=.ref k∧ka s k (cz k)):bB hX (gh cz) prog w A E s a₀ oneType':=by
 intro x y hx hy st Q hk q
 obtain⟨a,ex,i1,l1,n1⟩:=h0 x hx
 obtain⟨b,ey,i2,l2,n2⟩:=h0 y hy
 obtain⟨x1,x2⟩:=x
 obtain⟨y1,y2⟩:=y
 dsimp only at ex ey
 subst ex ey
 rw[lt'_eq]
 refine wpS_bind (wpS_get ?_)
 rw[hk,keyLt'_oneType]
 exact wpS_bind (wpS_lift (wpAny_attempt (rM hu l1 l2 n1 n2 ⟨rfl,wpS_pure q⟩)))
end
structure NewAd(X:Cx)(pins:List (Addr×Obj))(b:Addr):Prop where
 s0:X.s₀.heap.objs.size≤b
 loc:b≠X.env.locals
 cell:∀x c,X.env.cells.lookup x=some c→c≠b
 pin:∀p∈X.pn++pins,p.1≠b
 stk:b∉bf X.stack
theorem Inv.newAd{X:Cx}{pins:List (Addr×Obj)}{σ:St}{H:Hp}{s:Shared}{b:Addr}(I:Inv X pins σ H s)(hb:s.heap.objs.size≤b):NewAd X pins b:=by
 have lt:∀{a:Addr} {o:Obj},s.heap.get? a=some o→a≠b:=fun e=>Nat.ne_of_lt (Nat.lt_of_lt_of_le (Heap.lt_size e) hb)
 refine⟨Nat.le_trans I.sz hb,Nat.ne_of_gt (Nat.lt_of_lt_of_le I.lt hb),fun x c e=>?_,fun p hp=>lt (I.pin p hp).1,fun z=>?_⟩
 ·obtain⟨v,o,e1,_⟩:=I.cell x c e
  exact lt e1
 ·rcases List.mem_cons.mp (I.stkSub b z) with z' | z'
  ·exact absurd z' (Nat.ne_of_gt (Nat.lt_of_lt_of_le I.lt hb))
  ·exact I.nofs hb z'
theorem Inv.own{X:Cx}{pins:List (Addr×Obj)}{σ:St}{H:Hp}{s:Shared}{b:Addr}{h':Heap}{t':Nat}(I:Inv X pins σ H s)(n:NewAd X pins b)(hb:H b=none)(hs:Heap.SameBut b s.heap h'):Inv X pins σ H {s with heap:=h',toks:=t'}:=
 I.turned (fun c o hc e=>(hs.2 c hc).trans e) hb n.loc (.inr n.s0) n.cell n.pin
section
variable{X:Cx}{pins:List (Addr×Obj)}{σ:St}{H:Hp}{s:Shared}{f l:Addr}{ns:List Int}{kf:Int→List Nat}{fo:Obj}
structure KeyW(X:Cx)(pins:List (Addr×Obj))(σ:St)(H:Hp)(f:Addr)(fo:Obj)(D kS:Addr)(e1:Nat)(ns:List Int)(kf:Int→List Nat)(i:Nat)(s':Shared):Prop where
 ex:∃(H':Hp) (ks:List Addr) (e:Nat),Inv X pins σ H' s'∧Same H H'∧s'.heap.get? f=some fo∧H' f=none∧s'.heap.get? D=some (seqObj "list" #[] e1)∧H' D=none∧s'.heap.get? kS=some (seqObj "list" (ks.map Value.ref).toArray e)∧H' kS=none∧ks.length=i∧∀(j:Nat) (k:Addr) (n:Int),ks[j]?=some k→ns[j]?=some n→H' k=some (.lst ((kf n).map sg))
def gn(X:Cx)(pins:List (Addr×Obj))(σ:St)(H:Hp)(f:Addr)(fo:Obj)(ns:List Int)(kf:Int→List Nat):Prop:=
 ∀ n∈ns,∀(H':Hp) (s':Shared) (u:Value),Inv X pins σ H' s'→Same H H'→s'.heap.get? f=some fo→H' f=none→RelV (.int n) u→
   wpAny (model X.prog X.w) X.A.in1.in1 (call (.ref f) [u]) (fun u' s''=>∃(k:Addr) (H'':Hp),u'=.ref k∧Inv X pins σ H'' s''∧H'' k=some (.lst ((kf n).map sg))∧Same H' H''∧Un (bf X.stack) [] H' H'' s'.heap s''.heap) (fun _ _=>False) s'
theorem jk{D kS:Addr}{e1:Nat}{vs:List Value}{E:Value→Shared→Prop}{P:PUnit→Shared→Prop}{body:Value→PUnit→Sem (ForInStep PUnit)}(nD:NewAd X pins D)(nk:NewAd X pins kS)(nf:NewAd X pins f)(hDk:D≠kS)(hfk:f≠kS)(hv:Vals (ns.map V.int) vs)(hle:ns.length≤1000)(T:gn X pins σ H f fo ns kf)(hbody:∀x,body x ⟨⟩=(do
 match←(call (.ref f) [x]).attempt with
 | .ok k=>Builtin.List.listUpdate (.ref kS) (·.push k);pure (ForInStep.yield PUnit.unit)
 | .error e=>rule "list.sort.key-raised";let made←Builtin.List.listItems (.ref kS);Builtin.List.listUpdate (.ref kS) fun _=>#[];letGo made.toList.reverse [e];Builtin.List.listUpdate (.ref D) fun _=>vs.toArray;throw e)):
 ∀(r:List Value) (i:Nat) (s':Shared),vs.drop i=r→i≤vs.length→KeyW X pins σ H f fo D kS e1 ns kf i s'→(∀s'',KeyW X pins σ H f fo D kS e1 ns kf vs.length s''→P ⟨⟩ s'')→wpAny (model X.prog X.w) X.A.in1.in1 (forIn r PUnit.unit body) P E s'
 | [],i,s',hr,hi2,W,done=>by
   rw[List.forIn_nil]
   have hi:vs.length≤i:=List.drop_eq_nil_iff.mp hr
   exact wpAny_pure (done s' (by rw[show vs.length=i by lia];exact W))
 | x::r,i,s',hr,hi2,W,done=>by
   rw[List.forIn_cons,hbody]
   obtain⟨H',ks,e,I',sm,hf',Hf',hD',HD',hk',Hk',hl,hks⟩:=W.ex
   have hi:i<vs.length:=by
    refine Nat.lt_of_not_le fun z=>?_
    rw[List.drop_eq_nil_of_le z] at hr;cases hr
   have hx:vs[i]?=some x:=by
    have:=List.getElem?_drop (xs:=vs) (i:=i) (j:=0)
    rw[hr] at this
    simpa using this.symm
   have hil:i<ns.length:=by have:=hv.length;rw[List.length_map] at this;lia
   obtain⟨u,hu,ru⟩:=hv.get (show(ns.map V.int)[i]?=some (.int ns[i]) by simp[hil])
   obtain rfl:x=u:=by rw[hx] at hu;exact Option.some.inj hu
   refine wpAny_bind (wpAny_bind (wpAny_attempt (wpAny_mono (T ns[i] (List.getElem_mem hil) H' s' x I' sm hf' Hf' ru) (fun u' s'' h=>?_) fun _ _ z=>z.elim)))
   obtain⟨k,H'',rfl,I2,hk2,sm2,un⟩:=h
   have kp:∀{b:Addr} {o:Obj},NewAd X pins b→H' b=none→s'.heap.get? b=some o→s''.heap.get? b=some o∧H'' b=none:=fun{b o} n q e=>⟨un.keep b o e q n.stk (fun z=>nomatch z),un.free b o e q (fun z=>nomatch z)⟩
   obtain⟨hf2,Hf2⟩:=kp nf Hf' hf'
   obtain⟨hD2,HD2⟩:=kp nD HD' hD'
   obtain⟨hS2,HS2⟩:=kp nk Hk' hk'
   dsimp only
   have sb:=Heap.SameBut.update s''.heap kS (Obj.mapSeq (·.push (.ref k)))
   obtain⟨c2,hc2⟩:∃c2,(s''.heap.update kS (Obj.mapSeq (·.push (.ref k)))).get? kS=some (seqObj "list" ((ks.map Value.ref).toArray.push (.ref k)) c2):=⟨_,get?_update_seq hS2 (·.push (.ref k))⟩
   have szk:(ks.map Value.ref).toArray.size≤1000:=by simp;lia
   refine wpAny_bind (listUpdate_at hS2 rfl (wpAny_pure ?_) (Nat.le_trans szk (by decide)) (by rw[Array.size_push];exact Nat.le_trans (Nat.succ_le_succ szk) (by decide)))
   show wpAny _ _ (forIn r PUnit.unit body) P E _
   refine jk nD nk nf hDk hfk hv hle T hbody r (i+1) _ (by rw[←List.drop_drop,hr];rfl) hi ⟨H'',ks++[k],c2,I2.own nk HS2 sb,sm.trans sm2,(sb.2 f hfk).trans hf2,Hf2,(sb.2 D hDk).trans hD2,HD2,?_,HS2,by simp[hl],fun j k' n hj hn=>?_⟩ done
   ·rw[hc2];congr 1;simp[seqObj]
   ·by_cases z:j<ks.length
    ·rw[List.getElem?_append_left z] at hj
     exact sm2 _ _ (hks j k' n hj hn)
    ·rw[List.getElem?_append_right (by lia)] at hj
     have z0:j-ks.length=0:=by have:=(List.getElem?_eq_some_iff.mp hj).1;simp at this;lia
     rw[z0] at hj
     obtain rfl:k=k':=by simpa using hj
     have:j=i:=by lia
     subst this
     rw[List.getElem?_eq_getElem hil] at hn
     cases hn
     exact hk2
theorem lg{D kS:Addr}{e1 e:Nat}{vs:List Value}{ks:List Addr}{cz:Addr→List Nat}{st:SortSt}{E:Value→Shared→Prop}{P:PySem.Fin→Shared→Prop}{H':Hp}(I:Inv X pins σ H' s)(nD:NewAd X pins D)(nk:NewAd X pins kS)(hDk:D≠kS)(hD:s.heap.get? D=some (seqObj "list" #[] e1))(HD:H' D=none)(hS:s.heap.get? kS=some (seqObj "list" (ks.map Value.ref).toArray e))(HS:H' kS=none)(hv:Vals (ns.map V.int) vs)(hle:ns.length≤1000)(hkl:ks.length=ns.length)(hcz:∀(j:Nat) (k:Addr) (n:Int),ks[j]?=some k→ns[j]?=some n→cz k=kf n)(hp:(arrOf st).Perm ((ks.map Value.ref).toArray.zip vs.toArray))(hfl:failedOf st=none)(R:Rise hX (gh cz) (arrOf st) 0 ((ks.map Value.ref).toArray.zip vs.toArray).size)(done:∀(s':Shared) (ms:List Int) (ws:List Value) (c:Nat),Inv X pins σ H' s'→s'.heap.get? D=some (seqObj "list" ws.toArray c)→Vals (ms.map V.int) ws→ms.Perm ns→ms.Pairwise (fun a b=>au (aj (kf b)) (aj (kf a))=false)→P (.done (.ret .none)) s'):
 wpAny (model X.prog X.w) X.A.in1.in1 (ksk_tail D false e1 (.ref kS) st) P E s:=by
 have hvl:ns.length=vs.length:=by have:=hv.length;rw[List.length_map] at this;exact this
 have hz:((ks.map Value.ref).toArray.zip vs.toArray).toList=(ks.map Value.ref).zip vs:=by simp
 have hzl:((ks.map Value.ref).toArray.zip vs.toArray).size=vs.length:=by simp;lia
 have hsz:(arrOf st).size=vs.length:=by rw[hp.size_eq,hzl]
 have hpl:(arrOf st).toList.Perm ((ks.map Value.ref).zip vs):=by rw[←hz];exact Array.perm_iff_toList_perm.mp hp
 have pr:∀p∈(arrOf st).toList,∃(j:Nat) (k:Addr) (n:Int) (t:Tok),ks[j]?=some k∧ns[j]?=some n∧p=(.ref k,.int n t):=fun p hp'=>by
  obtain⟨j,hj⟩:=List.mem_iff_getElem?.mp (hpl.mem_iff.mp hp')
  obtain⟨p1,p2⟩:=p
  rw[List.getElem?_zip_eq_some] at hj
  obtain⟨h1,h2⟩:=hj
  dsimp only at h1 h2
  have jl:j<ns.length:=by have:=(List.getElem?_eq_some_iff.mp h2).1;lia
  obtain⟨u,hu,ru⟩:=hv.get (show(ns.map V.int)[j]?=some (.int ns[j]) by simp[jl])
  rw[h2] at hu
  cases hu
  obtain⟨t,rfl⟩:=ru
  have kl:j<ks.length:=by lia
  rw[List.getElem?_map,List.getElem?_eq_getElem kl] at h1
  cases h1
  exact⟨j,ks[j],ns[j],t,List.getElem?_eq_getElem kl,List.getElem?_eq_getElem jl,rfl⟩
 have hvn:vs.map numOf=ns:=by
  apply List.ext_getElem?
  intro j
  by_cases jl:j<ns.length
  ·obtain⟨u,hu,ru⟩:=hv.get (show(ns.map V.int)[j]?=some (.int ns[j]) by simp[jl])
   obtain⟨t,rfl⟩:=ru
   rw[List.getElem?_map,hu,List.getElem?_eq_getElem jl];rfl
  ·rw[List.getElem?_eq_none (by rw[List.length_map];lia),List.getElem?_eq_none (by lia)]
 have sb1:=Heap.SameBut.update s.heap kS (Obj.mapSeq fun _=>(#[]:Array Value))
 have hD1:=(sb1.2 D hDk).trans hD
 obtain⟨c2,hc2⟩:∃c2,((s.heap.update kS (Obj.mapSeq fun _=>(#[]:Array Value))).update D (Obj.mapSeq fun _=>(arrOf st).map (·.2))).get? D=some (seqObj "list" ((arrOf st).map (·.2)) c2):=⟨_,get?_update_seq hD1 fun _=>(arrOf st).map (·.2)⟩
 have sb2:=Heap.SameBut.update (s.heap.update kS (Obj.mapSeq fun _=>(#[]:Array Value))) D (Obj.mapSeq fun _=>(arrOf st).map (·.2))
 unfold ksk_tail
 refine wpAny_bind (listUpdate_at hS rfl (wpAny_bind (wpAny_letGo (wpAny_bind (seqEpoch_at hD1 rfl (wpAny_bind (listUpdate_at hD1 rfl ?_ (Nat.zero_le _) ?_)))))) ?_ (Nat.zero_le _))
 ·rw[hfl]
  simp only[bne_self_eq_false,Bool.false_eq_true,if_false]
  refine wpAny_pure (done _ ((arrOf st).toList.map fun p=>numOf p.2) ((arrOf st).toList.map (·.2)) c2 ((I.own (t':=s.toks) nk HS sb1).own (t':=s.toks) nD HD sb2) ?_ ?_ ?_ ?_)
  ·show Heap.get? _ D=_
   rw[hc2,←Array.toList_map,Array.toArray_toList]
  ·rw[List.map_map]
   refine hE (by simp) fun j x u hx hu=>?_
   rw[List.getElem?_map] at hx hu
   cases q:(arrOf st).toList[j]? with
   | none=>rw[q] at hx;cases hx
   | some p=>
     rw[q] at hx hu
     obtain⟨_,k,n,t,_,_,rfl⟩:=pr p (List.mem_of_getElem? q)
     cases hx
     cases hu
     exact⟨t,rfl⟩
  ·have h1:=hpl.map fun p=>numOf p.2
   have h2:((ks.map Value.ref).zip vs).map (fun p=>numOf p.2)=ns:=by
    rw[show(fun p:Value×Value=>numOf p.2)=numOf ∘ Prod.snd from rfl,←List.map_map,List.map_snd_zip (by rw[List.length_map];lia),hvn]
   rw[h2] at h1
   exact h1
  ·refine List.pairwise_map.mpr (List.pairwise_iff_getElem.mpr fun i j h1 h3 h4=>?_)
   rw[Array.length_toList] at h1 h3
   have r:=R i j (Nat.zero_le _) (by lia) (by rw[hzl];lia)
   rw[aZ (aG h1),aZ (aG h3)] at r
   obtain⟨j1,k1,n1,t1,a1,b1,c1⟩:=pr (arrOf st)[i] (by simp)
   obtain⟨j2,k2,n2,t2,a2,b2,c2⟩:=pr (arrOf st)[j] (by simp)
   rw[c1,c2] at r
   have r':au (aj (cz k2)) (aj (cz k1))=false:=r
   rw[hcz _ _ _ a1 b1,hcz _ _ _ a2 b2] at r'
   simp only[Array.getElem_toList]
   rw[c1,c2]
   exact r'
 ·rw[if_neg Bool.false_ne_true,Array.size_map,hsz];exact Nat.le_trans (show vs.length≤1000 by lia) (by decide)
 ·simp;exact Nat.le_trans (show ks.length≤1000 by lia) (by decide)
end
section
variable{X:Cx}{pins:List (Addr×Obj)}{σ:St}{H:Hp}{s:Shared}{f l:Addr}{ns:List Int}{kf:Int→List Nat}{fo:Obj}
theorem dE{n:Nat}(h:n≤1000):n≤sizeLine:=Nat.le_of_lt (bi h)
theorem qt{D kS:Addr}{e1 e:Nat}{vs:List Value}{ks:List Addr}{E:Value→Shared→Prop}{P:PySem.Fin→Shared→Prop}{H':Hp}(hu:(X.A.in1.in1).units<cLine)(I:Inv X pins σ H' s)(nD:NewAd X pins D)(nk:NewAd X pins kS)(hDk:D≠kS)(hD:s.heap.get? D=some (seqObj "list" #[] e1))(HD:H' D=none)(hS:s.heap.get? kS=some (seqObj "list" (ks.map Value.ref).toArray e))(HS:H' kS=none)(hv:Vals (ns.map V.int) vs)(hle:ns.length≤1000)(hkl:ks.length=ns.length)(hks:∀(j:Nat) (k:Addr) (n:Int),ks[j]?=some k→ns[j]?=some n→H' k=some (.lst ((kf n).map sg)))(done:∀(s':Shared) (ms:List Int) (ws:List Value) (c:Nat),Inv X pins σ H' s'→s'.heap.get? D=some (seqObj "list" ws.toArray c)→Vals (ms.map V.int) ws→ms.Perm ns→ms.Pairwise (fun a b=>au (aj (kf b)) (aj (kf a))=false)→P (.done (.ret .none)) s'):
 wpAny (model X.prog X.w) X.A.in1.in1 (ksk_end D false vs.toArray e1 (.ref kS) (ks.map Value.ref).toArray) P E s:=by
 have hvl:ns.length=vs.length:=by have:=hv.length;rw[List.length_map] at this;exact this
 have hzl:((ks.map Value.ref).toArray.zip vs.toArray).size=vs.length:=by simp;lia
 have hex:∀k:Addr,∃xs:List Nat,∀(j:Nat) (n:Int),ks[j]?=some k→ns[j]?=some n→xs=kf n:=fun k=>by
  by_cases hk:k∈ks
  ·obtain⟨j0,hj0⟩:=List.mem_iff_getElem?.mp hk
   have jl:j0<ns.length:=by have:=(List.getElem?_eq_some_iff.mp hj0).1;lia
   refine⟨kf ns[j0],fun j n h1 h2=>?_⟩
   have a1:=hks j0 k ns[j0] hj0 (List.getElem?_eq_getElem jl)
   have a2:=hks j k n h1 h2
   rw[a1] at a2
   have a3:(kf ns[j0]).map sg=(kf n).map sg:=by injection a2 with a2;injection a2
   refine List.map_inj_right (f:=sg) (fun x y h=>?_) |>.mp a3
   have:aC x=aC y:=V.str.inj h
   simpa [aC] using this
  ·exact⟨[],fun j n h1 _=>absurd (List.mem_of_getElem? h1) hk⟩
 obtain⟨cz,hcz⟩:=Classical.axiomOfChoice hex
 have lat:∀k∈ks,ka s k (cz k):=fun k hk=>by
  obtain⟨j0,hj0⟩:=List.mem_iff_getElem?.mp hk
  have jl:j0<ns.length:=by have:=(List.getElem?_eq_some_iff.mp hj0).1;lia
  have e0:=List.getElem?_eq_getElem jl
  rw[hcz k j0 _ hj0 e0]
  obtain⟨_,its,m,r,_,g⟩:=I.lstM (hks j0 k _ hj0 e0)
  exact⟨its.toArray,⟨_,g,rfl,m,rfl⟩,qc r⟩
 have at0:∀p∈(ks.map Value.ref).toArray.zip vs.toArray,∃k,p.1=.ref k∧k∈ks:=fun p hp=>by
  have:p∈(ks.map Value.ref).zip vs:=by simpa using Array.mem_toList_iff.mpr hp
  obtain⟨p1,p2⟩:=p
  obtain⟨k,hk,e⟩:=List.mem_map.mp (List.of_mem_zip this).1
  exact⟨k,e.symm,hk⟩
 unfold ksk_end
 dsimp only
 rw[if_neg Bool.false_ne_true,if_neg Bool.false_ne_true]
 by_cases h2:vs.toArray.size<2
 ·rw[if_pos h2,if_pos h2]
  refine wpAny_bind (wpAny_pure ?_)
  rw[StateT.run_pure]
  refine wpAny_bind (wpAny_pure ?_)
  refine lg (cz:=cz) (st:=SortSt.mk' general' ((ks.map Value.ref).toArray.zip vs.toArray) #[] 7 none) I nD nk hDk hD HD hS HS hv hle hkl (fun j k n h1 h2=>hcz k j n h1 h2) (Array.Perm.refl _) rfl ?_ done
  intro i j h1 h3 h4
  rw[hzl] at h4
  rw[List.size_toArray] at h2
  have:i=j:=by lia
  subst this
  exact Ordr.le_refl _
 ·rw[if_neg h2,if_neg h2]
  rw[List.size_toArray] at h2
  refine wpAny_bind (PySem.W.kas_kind (T:=.type "list") (by rw[List.length_map];lia) (fun v hv=>?_) rfl rfl ?_)
  ·obtain⟨k,hk,rfl⟩:=List.mem_map.mp hv
   obtain⟨items,⟨o,ho,hoc,_⟩,_⟩:=lat k hk
   rw[←hoc]
   exact(PySem.W.Looks.ld ho).andThen .now
  ·refine wpAny_bind (wpAny_mono (qw (m9 (cz:=cz) (a₀:=(ks.map Value.ref).toArray.zip vs.toArray) hu fun p hp=>by obtain⟨k,e,hk⟩:=at0 p hp;exact⟨k,e,lat k hk⟩) (a₀:=(ks.map Value.ref).toArray.zip vs.toArray) (kd:=oneType') (st:=SortSt.mk' oneType' ((ks.map Value.ref).toArray.zip vs.toArray) #[] 7 none) (Q:=fun _ z=>(arrOf z).Perm ((ks.map Value.ref).toArray.zip vs.toArray)∧failedOf z=none∧Rise hX (gh cz) (arrOf z) 0 ((ks.map Value.ref).toArray.zip vs.toArray).size) ⟨Array.Perm.refl _,rfl,rfl⟩ rfl (by rw[hzl];lia) fun z B R=>⟨B.perm,B.failed,R⟩) ?_ fun _ _ e=>e)
   rintro⟨⟨⟩,z⟩ s' ⟨rfl,pm,hf,R⟩
   exact lg (cz:=cz) I nD nk hDk hD HD hS HS hv hle hkl (fun j k n h1 h2=>hcz k j n h1 h2) pm hf R done
theorem nV{D:Addr}{n0:Nat}{vs:List Value}{E:Value→Shared→Prop}{P:PySem.Fin→Shared→Prop}(hu:(X.A.in1.in1).units<cLine)(I:Inv X pins σ H s)(nD:NewAd X pins D)(hD:s.heap.get? D=some (seqObj "list" vs.toArray n0))(HD:H D=none)(nf:NewAd X pins f)(hf:s.heap.get? f=some fo)(Hf:H f=none)(hDf:D≠f)(hv:Vals (ns.map V.int) vs)(hle:ns.length≤1000)(T:gn X pins σ H f fo ns kf)(done:∀(H':Hp) (s':Shared) (ms:List Int) (ws:List Value) (c:Nat),Inv X pins σ H' s'→Same H H'→s'.heap.get? D=some (seqObj "list" ws.toArray c)→H' D=none→Vals (ms.map V.int) ws→ms.Perm ns→ms.Pairwise (fun a b=>au (aj (kf b)) (aj (kf a))=false)→P (.done (.ret .none)) s'):
 wpAny (model X.prog X.w) X.A.in1.in1 (ksk_tree D (.ref f) false) P E s:=by
 have hvl:ns.length=vs.length:=by have:=hv.length;rw[List.length_map] at this;exact this
 have sb:=Heap.SameBut.update s.heap D (Obj.mapSeq fun _=>(#[]:Array Value))
 obtain⟨e1,hD1⟩:∃e1,(s.heap.update D (Obj.mapSeq fun _=>(#[]:Array Value))).get? D=some (seqObj "list" #[] e1):=⟨_,get?_update_seq hD fun _=>#[]⟩
 have I1:=I.own (t':=s.toks) nD HD sb
 have hf1:=(sb.2 f hDf.symm).trans hf
 have ltD:D<s.heap.objs.size:=Heap.lt_size hD
 have ltf:f<s.heap.objs.size:=Heap.lt_size hf
 generalize eg:s.heap.update D (Obj.mapSeq fun _=>(#[]:Array Value))=g at hD1 I1 hf1
 have hg:g.objs.size=s.heap.objs.size:=by rw[←eg,Heap.size_update]
 unfold ksk_tree
 refine wpAny_bind (listItems_at hD rfl (wpAny_bind (listUpdate_at hD rfl ?_ (by rw[List.size_toArray];exact dE (by lia)) (Nat.zero_le _))))
 show wpAny _ _ _ _ _ {s with heap:=s.heap.update D (Obj.mapSeq fun _=>(#[]:Array Value))}
 rw[eg]
 refine wpAny_bind (seqEpoch_at hD1 rfl (wpAny_bind (wpAny_newTuple (wpAny_bind (wpAny_newList (wpAny_holding ?_) (Nat.zero_le _))) (dE (by simp;lia)))))
 dsimp only
 have hk1:(g.push (seqObj "tuple" vs.toArray 0)).objs.size=s.heap.objs.size+1:=by rw[Heap.size_push,hg]
 have keep:∀b o,g.get? b=some o→((g.push (seqObj "tuple" vs.toArray 0)).push (seqObj "list" #[] 0)).get? b=some o:=fun b o e=>Heap.get?_push_of_some _ (Heap.get?_push_of_some _ e)
 have I2:=I1.kept (h':=(g.push (seqObj "tuple" vs.toArray 0)).push (seqObj "list" #[] 0)) (t':=s.toks) keep
 have nk:NewAd X pins (g.push (seqObj "tuple" vs.toArray 0)).objs.size:=I.newAd (by rw[hk1];exact Nat.le_succ _)
 have hDk:D≠(g.push (seqObj "tuple" vs.toArray 0)).objs.size:=by rw[hk1];exact Nat.ne_of_lt (Nat.lt_succ_of_lt ltD)
 have hfk:f≠(g.push (seqObj "tuple" vs.toArray 0)).objs.size:=by rw[hk1];exact Nat.ne_of_lt (Nat.lt_succ_of_lt ltf)
 have HS:H (g.push (seqObj "tuple" vs.toArray 0)).objs.size=none:=I.hok.fresh (by rw[hk1];exact Nat.le_succ _)
 have hS:((g.push (seqObj "tuple" vs.toArray 0)).push (seqObj "list" #[] 0)).get? (g.push (seqObj "tuple" vs.toArray 0)).objs.size=some (seqObj "list" #[] 0):=Heap.get?_push_size _ rfl
 show wpAny _ _ (ksk_rest D (.ref f) false vs.toArray e1 (.ref (g.push (seqObj "tuple" vs.toArray 0)).objs.size)) _ _ {s with heap:=(g.push (seqObj "tuple" vs.toArray 0)).push (seqObj "list" #[] 0)}
 generalize (g.push (seqObj "tuple" vs.toArray 0)).objs.size=kS at*
 unfold ksk_rest
 refine wpAny_bind (wpAny_rule (wpAny_bind ?_))
 rw[List.forIn_toArray]
 refine jk (e1:=e1) (vs:=vs) nD nk nf hDk hfk hv hle T (fun x=>rfl) vs 0 _ rfl (Nat.zero_le _) ⟨H,[],0,I2,Same.refl _,keep _ _ hf1,Hf,keep _ _ hD1,HD,hS,HS,rfl,fun j k n h=>by simp at h⟩ fun s3 W=>?_
 obtain⟨H3,ks,e,I3,sm,_,_,hD3,HD3,hS3,HS3,hl3,hks⟩:=W.ex
 refine wpAny_bind (listItems_at hS3 rfl ?_)
 exact qt hu I3 nD nk hDk hD3 HD3 hS3 HS3 hv hle (by lia) hks fun s' ms ws c I' g' v' p' o'=>done H3 s' ms ws c I' sm g' HD3 v' p' o'
end
def iY(P:Addr)(lp:Pos)(q:Str)(iw:Nat)(te tb:TE):TE:=fun σ H Q=>te σ H fun x H1=>∃(l:Addr) (ns:List Int) (vw:V) (kf:Int→List Nat),x=.ref l∧H1 l=some (.lst (ns.map V.int))∧ns.length≤1000∧σ[iw]?=some (some vw)∧Tab H1 P lp q∧
 (∀n∈ns,∀H',Keep P H1 H'→tb [some vw,some (.int n)] H' fun v H''=>∃k,v=.ref k∧H'' k=some (.lst ((kf n).map sg))∧Same H' H'')∧
 ∀(r:Addr) (ms:List Int) (H':Hp),ms.Perm ns→ms.Pairwise (fun a b=>au (aj (kf b)) (aj (kf a))=false)→Keep P H1 H'→(∃c,gT H' P lp q c)→H1 r=none→H' r=some (.lst (ms.map V.int))→Q (.ref r) H'
theorem qQ{X:Cx}{e body:Expr}{te tb:TE}{p pos kp lp:Pos}{params:Arguments}{scope:Scope}{fv y:Str}{cc P:Addr}{iw k:Nat}(hc:X.calm=true)(hm:X.mg "sorted"=none)(hr:Room (k+2) X.A)(hcode:X.env.code=.ref cc)(C:PySem.W.CodeHd X.base cc P)(hB:bt X.mg X.base)(S:LamSc fv y scope)(hny:fv≠y)(hN:X.N[iw]?=some fv)(hkc:X.env.kindOf fv=some .cell)(hcl:∀cw,X.env.cells.lookup fv=some cw→closureFor scope X.env=pure [(fv,cw)])(hdef:defaultsOf params X.env=([],[]))(hbind:∀(q:Str) (cw c:Addr) (pm ctv u:Value),bindArgs (PySem.W.kla_fn "<lambda>" q params body scope [(fv,cw)] pm (.ref c) ctv) ⟨[u],[]⟩=pure [(y,u)])(ha:PE X e te)(hb:∀(A:Around) (s:Shared) (H:Hp) (L f c cw:Addr),PE (gu X A [fv,y] (dk (X.env.qual++"<lambda>") scope L f c fv cw) s H) body tb)(hg:Gl X "sorted":=by rfl)(he:starEach [e] X.env=[(false,eval e X.env)]:=by rfl):
 PE X (.Call (.Name "sorted" p) [e] [⟨some "key",.Lambda params body scope lp,kp⟩] pos) (iY P lp (X.env.qual++"<lambda>") iw te tb):=by
 intro pins s σ H Q I h
 refine wpAny_Call_Name_kw (bO I hg hm ny ?_)
 have hbk:backTo pos (starEach [e] X.env)=(false,eval e X.env)::backTo pos (starEach [] X.env):=by rw[he];rfl
 refine PyProof.Rows.callWith_kw ?_ hbk (by rw[he];rfl) (by rfl) (by rfl)
 refine ah ((aa ha ab (by exact he)) pos pins s σ H (fun vs H1=>match vs with | [x]=>iY P lp (X.env.qual++"<lambda>") iw (fun _ H Q=>Q x H) tb σ H1 Q | _=>False) I h) fun us s1 ⟨vs,H1,I1,r1,q1⟩=>?_
 match vs,q1 with
 | [x],q1=>
   obtain⟨u,rfl,ru⟩:=r1.one
   obtain⟨l,ns,vw,kf,rfl,hl,hle,hvw,T,turn,k1⟩:=q1
   cases ru
   have cellAt:∀{H':Hp} {s':Shared},Inv X pins σ H' s'→∃cw uw,X.env.cells.lookup fv=some cw∧s'.heap.IsCell cw (some uw)∧RelV vw uw∧H' cw=none:=fun{H' s'} I'=>by
    obtain⟨m,_,hloc⟩:=I'.loc
    obtain⟨uw,rw',lk⟩:=hloc iw fv vw hN hvw (.inr (.inl hkc))
    rcases lk with⟨z,_⟩ | ⟨_,cw,e1,e2⟩
    ·rw[hkc] at z;cases z
    ·exact⟨cw,uw,e1,e2,rw',I'.freeC fv cw e1⟩
   obtain⟨cw,_,hcw,_⟩:=cellAt I1
   refine PyProof.Rows.kws_cons (nB I1 hcode C hB T (hcl cw hcw) hdef fun f c pm ctv H2 s2 I2 T2 k2 hf2 Hf2 hfs _=>PyProof.Rows.kws_nil ?_)
   have hl2:H2 l=some (.lst (ns.map V.int)):=k2 _ _ hl (fun z=>by
    rw[z] at hl
    rcases T with t | ⟨c',t,_⟩ <;> (rw[hl] at t;cases t))
   obtain⟨_,its,n,rv,hz,e1⟩:=I2.lstM hl2
   have hnl:ns.length=its.length:=by rw[←hz,List.length_map]
   have hL:s2.heap.IsList l its.toArray:=⟨_,e1,rfl,n,rfl⟩
   have hr2:Room k X.A.in1.in1:=hr.in1.in1
   have nf:NewAd X pins f:=I1.newAd hfs
   have TT:gn X pins σ H2 f (PySem.W.kla_obj "<lambda>" (X.env.qual++"<lambda>") params body scope [(fv,cw)] pm c ctv) ns kf:=by
    intro n0 hn0 H' s' u I' sm hf' _ ru
    obtain⟨cw',uw,e2,e3,e4,e5⟩:=cellAt I'
    rw[hcw] at e2
    cases e2
    have e0:=I'.env0.in1.in1
    have hcd:s'.heap.CodeRec (.ref c) (X.env.qual++"<lambda>"):=(I'.hok c _ (sm _ _ T2.2)).1
    refine wpAny_call (rS I' e0.frames hr2.hd hr2.depth S hny hf' hcd e3 e5 e4 ru (hbind _ _ _ _ _ _) (hb _ _ _ _ _ _ _) (turn n0 hn0 H' fun b o e n=>sm _ _ (k2 _ _ e n)) fun v' u' H'' s'' J un rv' q'=>?_)
    obtain⟨k0,rfl,hk0,sm2⟩:=q'
    cases rv'
    exact⟨k0,H'',rfl,J,hk0,sm2,un⟩
   refine PyProof.Rows.call_function_entry_kw kind_sorted plain_sorted entry_sorted (ksk_s1 _ _) ?_
   unfold Builtin.«sorted»
   refine wpAny_bind (m:=checkCount "sorted" 1 1 _) (wpAny_pure (wpAny_bind (collect_list hL (wpAny_bind (wpAny_newList ?_ (dE (by lia)))) (dE (by lia)))))
   have sz1:((s2.heap.push (seqObj "list" #[] 0)).update s2.heap.objs.size (Obj.mapSeq (·++its.toArray))).objs.size=s2.heap.objs.size+1:=by rw[Heap.size_update,size_push']
   have keep:∀b o,s2.heap.get? b=some o→(((s2.heap.push (seqObj "list" #[] 0)).update s2.heap.objs.size (Obj.mapSeq (·++its.toArray))).push (seqObj "list" its.toArray 0)).get? b=some o:=fun b o q=>by
    have hlt:b<s2.heap.objs.size:=Heap.lt_size q
    refine Heap.get?_push_of_some _ ((Heap.get?_update_other _ _ (Nat.ne_of_gt hlt)).trans (Heap.get?_push_of_some _ q))
   have at1:(((s2.heap.push (seqObj "list" #[] 0)).update s2.heap.objs.size (Obj.mapSeq (·++its.toArray))).push (seqObj "list" its.toArray 0)).get? (s2.heap.objs.size+1)=some (seqObj "list" its.toArray 0):=by
    rw[←sz1];exact Heap.get?_push_size _ rfl
   have I3:=I2.kept (h':=((s2.heap.push (seqObj "list" #[] 0)).update s2.heap.objs.size (Obj.mapSeq (·++its.toArray))).push (seqObj "list" its.toArray 0)) (t':=s2.toks) keep
   have hf3:=keep _ _ hf2
   show wpAny _ _ _ _ _ {s2 with heap:=((s2.heap.push (seqObj "list" #[] 0)).update s2.heap.objs.size (Obj.mapSeq (·++its.toArray))).push (seqObj "list" its.toArray 0)}
   rw[sz1]
   generalize ((s2.heap.push (seqObj "list" #[] 0)).update s2.heap.objs.size (Obj.mapSeq (·++its.toArray))).push (seqObj "list" its.toArray 0)=g at*
   have nD:NewAd X pins (s2.heap.objs.size+1):=I2.newAd (Nat.le_succ _)
   have HD2:H2 (s2.heap.objs.size+1)=none:=I2.hok.fresh (Nat.le_succ _)
   have hDf:s2.heap.objs.size+1≠f:=Nat.ne_of_gt (Nat.lt_succ_of_lt (Heap.lt_size hf2))
   refine wpAny_bind (wpAny_holding (wpAny_call_entry_kw slot_list_sort ⟨_,at1,rfl⟩ entry_list_sort ?_ (ksk_l1 _ _)))
   show wpAny (model X.prog X.w) X.A.in1.in1 (Builtin.«list.sort» ⟨[.ref (s2.heap.objs.size+1)],[(Str.ofString "key",.ref f)]⟩) _ _ _
   rw[ksk_t1]
   refine nV hr2.units0 I3 nD at1 HD2 nf hf3 Hf2 hDf rv hle TT fun H4 s4 ms ws c4 I4 sm4 g4 HD4 v4 p4 o4=>⟨_,rfl,wpAny_pure ⟨_,rfl,?_⟩⟩
   have hwl:(ms.map V.int).length≤sizeLine:=by rw[List.length_map,p4.length_eq];exact dE hle
   have I5:=I4.trackE (e:=s2.heap.objs.size+1) (u:=.lst (ms.map V.int)) HD4 (Heap.get?_none_of_le nD.s0) nD.loc nD.cell nD.pin ⟨hwl,ws,c4,v4,g4⟩
   have sm5:Same H2 (upd H4 (s2.heap.objs.size+1) (.lst (ms.map V.int))):=sm4.trans (Same.upd HD4)
   have kk:Keep P H1 (upd H4 (s2.heap.objs.size+1) (.lst (ms.map V.int))):=fun b o e n=>sm5 _ _ (k2 _ _ e n)
   have HD1:H1 (s2.heap.objs.size+1)=none:=by
    cases q:H1 (s2.heap.objs.size+1) with
    | none=>rfl
    | some o=>
      by_cases z:s2.heap.objs.size+1=P
      ·have:=T2.1;rw[←z,HD2] at this;cases this
      ·have:=k2 _ _ q z;rw[HD2] at this;cases this
   exact⟨.ref (s2.heap.objs.size+1),_,I5,rfl,k1 _ ms _ p4 o4 kk ⟨c,sm5 _ _ T2.1,sm5 _ _ T2.2⟩ HD1 ag⟩
end L2
namespace Ov
open PySem L2
theorem fsc_{N p:List Str}{sc:Scope}(a:sc.kind=.function:=by rfl)(b:sc.isCoroutine=false:=by rfl)(c:sc.isGenerator=false:=by rfl)(d:N.Nodup:=by decide+kernel)(e:N.take p.length=p:=by rfl)(f:∀x∈p,sc.names.lookup x=some .local∨sc.names.lookup x=some .cell:=by decide+kernel)(g:∀y∈sc.names,y.2≠.free:=by decide+kernel):FnScope N p sc:=⟨a,b,c,d,e,f,g⟩
def aL(i:Nat):Stmt:=PySem.Challenge.pw_overlaid_k42_counts_planted.main.body.getD i (.Pass ⟨0,0,0,0⟩)
abbrev gw:Stmt:=aL 32
abbrev gp:Stmt:=aL 33
def Hand(H:Hp)(p:Addr):Prop:=∃a b n:Int,H p=some (.lst [.int a,.int b,.int n])
def jC:Sp:=fun vs H Q _=>∃c:Int,vs=[.int c]∧∀p H',H p=none→Hand H' p→Same H H'→Q (.ref p) H'
def kU:Sp:=fun vs H Q _=>∃(p:Addr) (many:Int),vs=[.ref p,.int many]∧Hand H p∧1≤many∧many<1000000000000000000000000000000000000000000000000000000000000∧
 ∀(r:Int) (H':Hp),0≤r→r<many→Hand H' p→Keep p H H'→Q (.int r) H'
section
variable{P:Program}{w:World}{K:PySem.W.Frag}{mg:Str→Option Value}{base:Heap}
theorem qS:FnScope ["cell"] ["cell"] (ar gw):=fsc_
theorem mB(M:Md K mg)(B:Bl mg)(F:FF K "_law_pot" gw):Fn P w K mg base ad "_law_pot" 1 ["cell"] jC:=by
 refine aQ M F qS (fun _ _ _ _ _ _=>bM fun _=>rfl) (fun vs H Q E h=>?_) (fun f cdv A outer s H vs Q E hr h=>?_)
 ·obtain⟨c,rfl,_⟩:=h;rfl
 ·obtain⟨c,rfl,k⟩:=h
  refine⟨_,(al (aD (a6 (aa (qe rfl B.max af (ak a7 (pv 0) (ak qP af af))) (aa (ak cf (pv 0) af) (aa af ab)))))),?_⟩
  refine⟨_,rfl,_,_,rfl,rfl,⟨by decide,by decide,by decide⟩,_,_,rfl,rfl,_,_,rfl,rfl,?_⟩
  refine⟨_,rfl,_,_,rfl,rfl,(by show(0:Int)<99999999977;decide),by show 3≤sizeLine;decide,fun l hl=>k l _ hl ⟨_,_,_,ag⟩ (Same.upd hl)⟩
theorem scTake:FnScope ["pot","many","found","number"] ["pot","many"] (ar gp):=fsc_
theorem pE(M:Md K mg)(F:FF K "_law_take" gp):Fn P w K mg base ad "_law_take" 1 ["pot","many"] kU:=by
 refine aQ M F scTake (fun _ _ _ _ _ _=>cE fun _ _=>rfl) (fun vs H Q E h=>?_) (fun f cdv A outer s H vs Q E hr h=>?_)
 ·obtain⟨p,many,rfl,_⟩:=h;rfl
 ·obtain⟨p,many,rfl,⟨a,b,n,hp⟩,h1,h2,k⟩:=h
  refine⟨_,(ae (aU (aI io (aP aO (pv 0) af (fun _ _=>rfl)) af (aA _)) (ae (aB (i:=2) scTake.nd rfl (.inl rfl) (ak cf (aP aO (pv 0) af (fun _ _=>rfl)) (pv 1)))
   (ae (eF (ak dU (aP aO (pv 0) af (fun _ _=>rfl)) (pv 1)) (lH (pv 0) af jw))
   (al (aD (pv 2))))) aW)
   (ae (eF (ak bg (aP aO (pv 0) af (fun _ _=>rfl)) af) (lH (pv 0) af jw))
   (ae (aB (i:=3) scTake.nd rfl (.inl rfl) (ak cf (ak bg (aP aO (pv 0) af (fun _ _=>rfl)) (ak eD af (aP aO (pv 0) af (fun _ _=>rfl)))) af))
   (ae (aB (i:=3) scTake.nd rfl (.inl rfl) (ak cf (ak eD (pv 3) (pv 3)) af))
   (ae (aB (i:=3) scTake.nd rfl (.inl rfl) (ak cf (ak eD (pv 3) (ak bg (pv 3) af)) af))
   (al (aD (ak cf (ak dU (pv 3) af) (pv 1))))))))),?_⟩
  refine⟨_,rfl,p,_,_,_,rfl,rfl,SqL.of hp,bX (j:=0) rfl,_,_,rfl,rfl,_,rfl,?_⟩
  refine bJ (fun hc=>?_) (fun hc=>?_)
  ·refine⟨_,rfl,p,_,_,_,rfl,rfl,SqL.of hp,bX (j:=0) rfl,_,rfl,_,_,rfl,rfl,(by show 0<many;lia),?_⟩
   refine⟨_,rfl,p,_,_,_,rfl,rfl,SqL.of hp,bX (j:=0) rfl,_,rfl,_,_,rfl,rfl,⟨by lia,by lia⟩,?_⟩
   refine⟨_,rfl,p,_,0,0,rfl,rfl,hp,rfl,_,rfl,?_⟩
   exact k _ _ (Int.emod_nonneg _ (by lia)) (Int.emod_lt_of_pos _ (by lia)) ⟨_,_,_,ag⟩ Keep.upd
  ·refine⟨_,rfl,p,_,_,_,rfl,rfl,SqL.of hp,bX (j:=2) rfl,_,_,rfl,rfl,_,rfl,p,_,2,2,rfl,rfl,hp,rfl,?_⟩
   have k1:Keep p H (L2.upd H p (.lst ([V.int a,V.int b,V.int n].set 2 (.int (n+1))))):=Keep.upd
   have hp1:(L2.upd H p (.lst ([V.int a,V.int b,V.int n].set 2 (.int (n+1))))) p=some (.lst [.int a,.int b,.int (n+1)]):=ag
   generalize L2.upd H p (.lst ([V.int a,V.int b,V.int n].set 2 (.int (n+1))))=H1 at k1 hp1
   refine⟨_,rfl,p,_,_,_,rfl,rfl,SqL.of hp1,bX (j:=1) rfl,_,rfl,p,_,_,_,rfl,rfl,SqL.of hp1,bX (j:=2) rfl,_,_,rfl,rfl,.inl ⟨by decide,by decide⟩,_,_,rfl,rfl,_,_,rfl,rfl,(by show(0:Int)<99999999947;decide),?_⟩
   have m1:=Int.emod_nonneg (b+700001*(n+1)) (show(99999999947:Int)≠0 by decide)
   have m2:=Int.emod_lt_of_pos (b+700001*(n+1)) (show(0:Int)<99999999947 by decide)
   generalize (b+700001*(n+1)) % 99999999947=x at m1 m2
   refine⟨_,rfl,_,rfl,_,_,rfl,rfl,.inl ⟨by lia,by lia⟩,_,_,rfl,rfl,(by show(0:Int)<99999999821;decide),?_⟩
   have m3:=Int.emod_nonneg (x*x) (show(99999999821:Int)≠0 by decide)
   have m4:=Int.emod_lt_of_pos (x*x) (show(0:Int)<99999999821 by decide)
   generalize x*x % 99999999821=y at m3 m4
   refine⟨_,rfl,_,rfl,_,_,rfl,rfl,_,_,rfl,rfl,.inl ⟨by lia,by lia⟩,_,_,rfl,rfl,(by show(0:Int)<9999999967;decide),?_⟩
   refine⟨_,rfl,_,_,rfl,rfl,⟨by decide,by decide⟩,_,rfl,_,_,rfl,rfl,(by show 0<many;lia),?_⟩
   exact k _ _ (Int.emod_nonneg _ (by lia)) (Int.emod_lt_of_pos _ (by lia)) ⟨_,_,_,hp1⟩ k1
end
def az:List Nat:=(List.range 26).map (97+ ·)
theorem jM{c:Nat}(h:c∈az):97≤c∧c≤122:=by
 simp[az] at h
 lia
def Low(t:List Nat):Prop:=∀c∈t,97≤c∧c≤122
theorem Low.cp{t:List Nat}(h:Low t):∀c∈t,c<0x110000:=fun c hc=>by have:=h c hc;lia
theorem Low.take{t:List Nat}(h:Low t)(n:Nat):Low (t.take n):=fun c hc=>h c (List.mem_of_mem_take hc)
theorem Low.drop{t:List Nat}(h:Low t)(n:Nat):Low (t.drop n):=fun c hc=>h c (List.mem_of_mem_drop hc)
theorem Low.app{t u:List Nat}(h:Low t)(g:Low u):Low (t++u):=fun c hc=>(List.mem_append.mp hc).elim (h c) (g c)
theorem Hand.ne{H:Hp}{p l:Addr}(h:Hand H p)(hl:H l=none):p≠l:=by
 obtain⟨a,b,n,e⟩:=h
 exact aK e hl
theorem Hand.upd{H:Hp}{p l:Addr}{o:HO}(h:Hand H p)(hl:p≠l):Hand (L2.upd H l o) p:=by
 obtain⟨a,b,n,e⟩:=h
 exact⟨a,b,n,by rw[ao hl];exact e⟩
theorem Hand.same{H H':Hp}{p:Addr}(h:Hand H p)(k:Same H H'):Hand H' p:=by
 obtain⟨a,b,n,e⟩:=h
 exact⟨a,b,n,k _ _ e⟩
theorem sz{n:Nat}(h:n≤1000):n≤sizeLine:=Nat.le_of_lt (bi h)
theorem eQ{n:Nat}(h:n≤5000):n≤sizeLine:=Nat.le_of_lt (mj h)
def ac(ks:List Nat):List V:=(ks.map fun(k:Nat)=>(k:Int)).map V.int
theorem gm(ks:List Nat)(i:Nat):ac (ks++[i])=ac ks++[V.int (0+(i:Int))]:=by
 simp[ac]
theorem aN(ks:List Nat):(ac ks).length=ks.length:=by simp[ac]
theorem hW{i:Nat}(p:Nat→Bool):((List.range i).filter p).length≤i:=by
 have:=List.length_filter_le p (List.range i)
 simpa using this
theorem pq{H:Hp}{l0 l1:Addr}{t u:List Nat}{Q:VK}(h0:H l0=some (.lst (t.map sg)))(h1:H l1=some (.lst (u.map sg)))(hz:t.length+u.length≤5000)(k:∀b,H b=none→Q (.ref b) (L2.upd H b (.lst ((t++u).map sg)))):ik (.ref l0) (.ref l1) H Q:=
 ⟨l0,l1,_,_,rfl,rfl,h0,h1,by rw[List.length_map,List.length_map];exact eQ hz,fun b hb=>by have:=k b hb;rw[List.map_append] at this;exact this⟩
theorem i4{t:List Nat}{n:Int}(h:0≤n):aS (t.map sg) (some n) none=(t.drop n.toNat).map sg:=by rw[bZ,bG,gH _ _ h]
def br(u:List Nat):List Nat:=((List.range u.length).map (·+1)).filter fun d=>decide (u.drop d=u.take (u.length-d))
theorem nI(u:List Nat):(br u).length≤u.length:=by
 unfold br
 have:=List.length_filter_le (fun d=>decide (u.drop d=u.take (u.length-d))) ((List.range u.length).map (·+1))
 simpa using this
def iC:Sp:=fun vs H Q _=>∃(a:Addr) (u:List Nat),vs=[.ref a]∧H a=some (.lst (u.map sg))∧Low u∧1≤u.length∧u.length≤900∧
 ∀(r:Addr) (H':Hp),H r=none→H' r=some (.lst (ac (br u)))→Same H H'→Q (.ref r) H'
theorem cC(ks:List Nat)(i:Nat):ac (ks++[i])=ac ks++[V.int (i:Int)]:=by simp[ac]
abbrev gd:Stmt:=aL 8
abbrev fW:Stmt:=aL 9
def iD:Sp:=fun vs H Q _=>∃c:Nat,vs=[sg c]∧97≤c∧c≤122∧Q (.bl true) H
def fi:Sp:=fun vs H Q _=>∃(a:Addr) (t:List Nat),vs=[.ref a]∧H a=some (.lst (t.map sg))∧Low t∧Q .non H
theorem mJ{c:Nat}(h:97≤c):(!decide ((aC c).cps.toList<(Str.ofString "a").cps.toList))=true:=by
 have e:(Str.ofString "a").cps.toList=[97]:=by decide+kernel
 rw[e]
 have:¬([c] < [97]):=fun q=>by
  cases q with
  | rel r=>lia
  | cons r=>cases r
 simp[this]
theorem qB{c:Nat}(h:c≤122):(!decide ((Str.ofString "z").cps.toList<(aC c).cps.toList))=true:=by
 have e:(Str.ofString "z").cps.toList=[122]:=by decide+kernel
 rw[e]
 have:¬([122] < [c]):=fun q=>by
  cases q with
  | rel r=>lia
  | cons r=>cases r
 simp[this]
section
variable{P:Program}{w:World}{K:PySem.W.Frag}{mg:Str→Option Value}{base:Heap}
theorem mW:FnScope ["sign"] ["sign"] (ar gd):=fsc_
theorem n8(M:Md K mg)(B:Bl mg)(F:FF K "is_sign" gd):Fn P w K mg base ad "is_sign" 1 ["sign"] iD:=by
 refine aQ M F mW (fun _ _ _ _ _ _=>bM fun _=>rfl) (fun vs H Q E h=>?_) (fun f cdv A outer s H vs Q E hr h=>?_)
 ·obtain⟨c,rfl,_⟩:=h;rfl
 ·obtain⟨c,rfl,c1,c2,k⟩:=h
  refine⟨_,(al (aD (dz (q9 B.isinst B.str mh (pv 0)) (dz (a9 bj (nj B.len (pv 0)) af (aA _)) (bY (lJ kT kT c6 (pv 0) c6)))))),?_⟩
  refine⟨_,rfl,_,true,TyOf.str _,rfl,_,rfl,bc ?_⟩
  refine⟨_,rfl,_,rfl,sz (by show 1≤1000;decide),rfl,true,rfl,bc ?_⟩
  refine⟨_,rfl,_,_,rfl,rfl,_,rfl,?_⟩
  rw[mJ c1]
  refine bc ⟨_,_,rfl,rfl,?_⟩
  rw[qB c2]
  exact k
theorem scCheck:FnScope ["text","sign"] ["text"] (ar fW):=fsc_
theorem rD(M:Md K mg)(B:Bl mg)(F:FF K "check_signs" fW)(Fis_sign:Fn P w K mg base ad "is_sign" 1 ["sign"] iD):Fn P w K mg base ad "check_signs" 2 ["text"] fi:=by
 refine aQ M F scCheck (fun _ _ _ _ _ _=>bM fun _=>rfl) (fun vs H Q E h=>?_) (fun f cdv A outer s H vs Q E hr h=>?_)
 ·obtain⟨a,t,rfl,_⟩:=h;rfl
 ·obtain⟨a,t,rfl,ha,lt,k⟩:=h
  refine⟨_,(al (cS PassesOwn.never rfl (cM (pv 0)) (bh (i:=1) scCheck.nd rfl (.inl rfl))
   (al (aU (c0 (dO (am Fis_sign hr ap (aa (pv 1) ab)))) (al c7) aW)))),?_⟩
  refine⟨_,rfl,a,rfl,⟨_,SqL.of ha⟩,fU (K:=K) (a:=a) (xs:=t.map sg) (fun i σ H2=>H2=H∧∃v,σ=[some (.ref a),v]) ⟨rfl,none,rfl⟩ (fun i σ H2 _ h2=>by rw[h2.1];exact SqL.of ha) ?_ ?_⟩
  ·rintro i x σ H2 hx ⟨rfl,v,rfl⟩
   rw[List.getElem?_map] at hx
   cases e:t[i]? with
   | none=>rw[e] at hx;cases hx
   | some c=>
     rw[e] at hx
     have:sg c=x:=Option.some.inj hx
     subst this
     have hc:=lt c (List.mem_of_getElem? e)
     exact⟨_,rfl,c,rfl,hc.1,hc.2,true,rfl,aY ⟨rfl,_,rfl⟩⟩
  ·rintro σ H2 ⟨rfl,_⟩
   exact k
end
def bn(t:List Nat):List Nat:=(List.range t.length).filter fun k=>decide (t.take k=t.drop (t.length-k))
def kY:Sp:=fun vs H Q _=>∃(a:Addr) (t:List Nat),vs=[.ref a]∧H a=some (.lst (t.map sg))∧Low t∧t.length≤1000∧
 ∀(r:Addr) (H':Hp),H r=none→H' r=some (.lst (ac (bn t)))→Same H H'→Q (.ref r) H'
theorem nw{t:List Nat}{k:Nat}(h:k∈bn t):k<t.length:=by
 simp[bn] at h;exact h.1
theorem pW(t:List Nat):(bn t).length≤t.length:=hW _
theorem iW{t:List Nat}{i:Nat}:((List.range (i+1)).filter fun k=>decide (t.take k=t.drop (t.length-k)))=((List.range i).filter fun k=>decide (t.take k=t.drop (t.length-k)))++(if t.take i=t.drop (t.length-i) then [i] else []):=by
 rw[List.range_succ,List.filter_append]
 congr 1
 by_cases h:t.take i=t.drop (t.length-i) <;> simp[h]
abbrev ib:Stmt:=aL 14
section
variable{P:Program}{w:World}{K:PySem.W.Frag}{mg:Str→Option Value}{base:Heap}
theorem scBorders:FnScope ["text","length"] ["text"] (ar ib):=fsc_
theorem lQ(M:Md K mg)(B:Bl mg)(F:FF K "borders" ib)(Fcheck_signs:Fn P w K mg base ad "check_signs" 2 ["text"] fi):Fn P w K mg base ad "borders" 3 ["text"] kY:=by
 refine aQ M F scBorders (fun _ _ _ _ _ _=>bM fun _=>rfl) (fun vs H Q E h=>?_) (fun f cdv A outer s H vs Q E hr h=>?_)
 ·obtain⟨a,t,rfl,_⟩:=h;rfl
 ·obtain⟨a,t,rfl,ha,lt,hl,k⟩:=h
  refine⟨_,(ae (ba (am Fcheck_signs hr ap (aa (pv 0) ab)))
   (ae (aB (i:=1) scBorders.nd rfl (.inr rfl) (aT B.len (pv 0)))
   (al (aD (cR ["text","length"] rfl (jj (by rfl) B.range (aa (pv 1) ab)) (fun _=>by exact(fX (aI (dq (by exact hr)) (bD bC (pv 0) bS (bv (pv 2))) (bD bC (pv 0) (bv (ak a7 (pv 1) (pv 2))) bS) (aA _)))) (fun _=>by exact(pv 2))))))),?_⟩
  refine⟨_,rfl,a,t,rfl,ha,lt,?_⟩
  refine⟨_,rfl,a,_,rfl,SqL.of ha,?_⟩
  refine⟨_,rfl,_,rfl,by rw[List.length_map];lia,by rw[List.length_map];lia,fun D hD b=>?_⟩
  rw[List.length_map,Int.toNat_natCast]
  refine jn (lo:=0) (n:=t.length) (fun i ys H2=>ys=ac ((List.range i).filter fun k=>decide (t.take k=t.drop (t.length-k)))∧Same H H2∧H2 D=some (.lst ys)) (bi hl) ?_ ?_ ?_ ?_
  ·exact⟨rfl,Same.upd hD,ag⟩
  ·rintro i ys H2 ⟨rfl,_⟩
   rw[aN];exact hW _
  ·rintro i ys H2 hi ⟨rfl,s2,hD2⟩
   refine⟨_,rfl,_,rfl,_,rfl,a,_,rfl,SqL.of (s2 _ _ ha),fun p1 hp1=>?_⟩
   have s3:=s2.trans (Same.upd (o:=.lst (aS (t.map sg) none (some (0+(i:Int))))) hp1)
   refine⟨_,rfl,_,rfl,_,rfl,_,_,rfl,rfl,_,rfl,a,_,rfl,SqL.of (s3 _ _ ha),fun p2 hp2=>?_⟩
   have n12:p1≠p2:=aK ag hp2
   refine⟨p1,p2,t.take i,t.drop (t.length-i),rfl,rfl,SqL.of ?_,SqL.of ?_,(lt.take _).cp,(lt.drop _).cp,_,rfl,?_⟩
   ·rw[ao n12,ag,bZ,bG,eY _ _ (by lia),show(0+(i:Int)).toNat=i by lia]
   ·rw[ag,bZ,bG,gH _ _ (by lia),show((t.length:Int)-(0+(i:Int))).toNat=t.length-i by lia]
   ·have s4:=s3.trans (Same.upd (o:=.lst (aS (t.map sg) (some ((t.length:Int)-(0+(i:Int)))) none)) hp2)
    have hD4:=(Same.upd (H:=L2.upd H2 p1 _) (o:=.lst (aS (t.map sg) (some ((t.length:Int)-(0+(i:Int)))) none)) hp2) _ _ ((Same.upd (o:=.lst (aS (t.map sg) none (some (0+(i:Int))))) hp1) _ _ hD2)
    refine bJ (fun hc=>?_) (fun hc=>?_)
    ·have hc':t.take i=t.drop (t.length-i):=by simpa using hc
     refine⟨_,rfl,hD4,?_,?_,ag⟩
     ·rw[iW,if_pos hc',gm]
     ·intro b o e
      rw[ao (aK e hD)]
      exact s4 b o e
    ·have hc':¬t.take i=t.drop (t.length-i):=by simpa using hc
     refine⟨?_,s4,hD4⟩
     rw[iW,if_neg hc',List.append_nil]
  ·rintro ys H2 ⟨rfl,s2,hD2⟩
   exact k D H2 hD hD2 s2
end
abbrev fS:Stmt:=aL 15
def gF(t:List Nat):List Nat:=(bn t).reverse.map (t.length - ·)
def ji:Sp:=fun vs H Q _=>∃(a:Addr) (t:List Nat),vs=[.ref a]∧H a=some (.lst (t.map sg))∧Low t∧t.length≤1000∧
 ∀(r:Addr) (H':Hp),H r=none→H' r=some (.lst (ac (gF t)))→Same H H'→Q (.ref r) H'
theorem ni{α:Type}(xs:List α)(i:Nat)(x:α)(h:xs[xs.length-1-i]?=some x)(hi:i<xs.length):xs.reverse.take (i+1)=xs.reverse.take i++[x]:=by
 rw[List.take_add_one,List.getElem?_reverse hi,h]
 rfl
section
variable{P:Program}{w:World}{K:PySem.W.Frag}{mg:Str→Option Value}{base:Heap}
theorem oj:FnScope ["text"] ["text"] (ar fS):=fsc_
theorem qH(M:Md K mg)(B:Bl mg)(F:FF K "periods" fS)(Fborders:Fn P w K mg base ad "borders" 3 ["text"] kY):Fn P w K mg base ad "periods" 4 ["text"] ji:=by
 refine aQ M F oj (fun _ _ _ _ _ _=>bM fun _=>rfl) (fun vs H Q E h=>?_) (fun f cdv A outer s H vs Q E hr h=>?_)
 ·obtain⟨a,t,rfl,_⟩:=h;rfl
 ·obtain⟨a,t,rfl,ha,lt,hl,k⟩:=h
  refine⟨_,(al (aD (cR ["text"] rfl (ng B.rev (am Fborders hr ap (aa (pv 0) ab))) (fun _=>by exact fg) (fun _=>by exact(ak a7 (aT B.len (pv 0)) (pv 1)))))),?_⟩
  refine⟨_,rfl,a,t,rfl,ha,lt,hl,fun r H1 hr0 hr1 s1=>?_⟩
  refine⟨r,_,rfl,SqL.of hr1,fun D hD b=>?_⟩
  have el:=pW t
  refine oF (K:=K) (a:=r) (xs:=ac (bn t)) (fun i ys H2=>ys=ac (((bn t).reverse.take i).map (t.length - ·))∧Same H1 H2∧H2 D=some (.lst ys)) (by rw[aN];exact bi (by lia)) ?_ ?_ ?_ ?_ ?_
  ·exact⟨by simp[ac],Same.upd hD,ag⟩
  ·rintro i ys H2 ⟨rfl,_⟩
   rw[aN,List.length_map,List.length_take];lia
  ·rintro i ys H2 _ ⟨rfl,s2,_⟩;exact SqL.of (s2 _ _ hr1)
  ·rintro i x ys H2 hx hi ⟨rfl,s2,hD2⟩
   refine eh ?_
   rw[aN] at hx hi
   obtain⟨k,hk,rfl⟩:∃k,(bn t)[(bn t).length-1-i]?=some k∧x=V.int (k:Int):=by
    unfold ac at hx
    rw[List.map_map,List.getElem?_map] at hx
    cases q:(bn t)[(bn t).length-1-i]? with
    | none=>rw[q] at hx;cases hx
    | some k=>
      rw[q] at hx
      exact⟨k,rfl,(Option.some.inj hx).symm⟩
   have hk':=nw (List.mem_of_getElem? hk)
   refine⟨_,rfl,a,_,rfl,SqL.of (s2 _ _ (s1 _ _ ha)),_,rfl,_,_,rfl,rfl,hD2,?_,?_,ag⟩
   ·rw[ni _ _ _ hk hi,List.map_append,List.length_map]
    show ac _++[V.int ((t.length:Int)-(k:Int))]=ac (_++[t.length-k])
    rw[gm,Int.zero_add,Int.ofNat_sub (Nat.le_of_lt hk')]
   ·intro b o e
    rw[ao (aK e hD)]
    exact s2 b o e
  ·rintro ys H2 ⟨rfl,s2,hD2⟩
   refine k D H2 (s1.free hD) ?_ (s1.trans s2)
   rw[hD2,aN,List.take_of_length_le (by simp)]
   rfl
end
def aH(t u:List Nat):List Nat:=(List.range (t.length+1-u.length)).filter fun p=>decide ((t.drop p).take u.length=u)
def rW(t u:List Nat)(p j:Nat):List Nat:=(List.range j).filter fun q=>!decide (t[p+q]?=u[q]?)
theorem k6(t u:List Nat)(i:Nat):((List.range (i+1)).filter fun p=>decide ((t.drop p).take u.length=u))=((List.range i).filter fun p=>decide ((t.drop p).take u.length=u))++(if(t.drop i).take u.length=u then [i] else []):=by
 rw[List.range_succ,List.filter_append]
 congr 1
 by_cases h:(t.drop i).take u.length=u <;> simp[h]
def gD:Sp:=fun vs H Q _=>∃(a b:Addr) (t u:List Nat),vs=[.ref a,.ref b]∧H a=some (.lst (t.map sg))∧H b=some (.lst (u.map sg))∧Low t∧Low u∧t.length≤900∧u.length≤900∧1≤u.length∧
 ∀(r:Addr) (H':Hp),H r=none→H' r=some (.lst (ac (aH t u)))→Same H H'→Q (.ref r) H'
abbrev fZ:Stmt:=aL 10
abbrev gA:Stmt:=aL 16
def cZ:Sp:=fun vs H Q _=>∃(a:Addr) (t:List Nat),vs=[.ref a]∧H a=some (.lst (t.map sg))∧Low t∧1≤t.length∧Q .non H
section
variable{P:Program}{w:World}{K:PySem.W.Frag}{mg:Str→Option Value}{base:Heap}
theorem nH:FnScope ["word"] ["word"] (ar fZ):=fsc_
theorem qU(M:Md K mg)(B:Bl mg)(F:FF K "check_word" fZ)(Fcheck_signs:Fn P w K mg base ad "check_signs" 2 ["text"] fi):Fn P w K mg base ad "check_word" 3 ["word"] cZ:=by
 refine aQ M F nH (fun _ _ _ _ _ _=>bM fun _=>rfl) (fun vs H Q E h=>?_) (fun f cdv A outer s H vs Q E hr h=>?_)
 ·obtain⟨a,t,rfl,_⟩:=h;rfl
 ·obtain⟨a,t,rfl,ha,lt,t1,k⟩:=h
  refine⟨_,(ae (aU (aI bj (aT B.len (pv 0)) af (aA _)) (al c7) aW)
   (al (ba (am Fcheck_signs hr ap (aa (pv 0) ab))))),?_⟩
  refine⟨_,rfl,a,_,rfl,SqL.of ha,rfl,_,rfl,?_⟩
  rw[decide_eq_false (fun q=>by have:=V.int.inj q;rw[List.length_map] at this;lia)]
  exact aY ⟨_,rfl,a,t,rfl,ha,lt,k⟩
theorem scLiesAt:FnScope ["text","word","many"] ["text","word"] (ar gA):=fsc_
theorem lS(M:Md K mg)(B:Bl mg)(F:FF K "lies_at" gA)(Fcheck_signs:Fn P w K mg base ad "check_signs" 2 ["text"] fi)(Fcheck_word:Fn P w K mg base ad "check_word" 3 ["word"] cZ):Fn P w K mg base ad "lies_at" 4 ["text","word"] gD:=by
 refine aQ M F scLiesAt (fun _ _ _ _ _ _=>cE fun _ _=>rfl) (fun vs H Q E h=>?_) (fun f cdv A outer s H vs Q E hr h=>?_)
 ·obtain⟨a,b,t,u,rfl,_⟩:=h;rfl
 ·obtain⟨a,b,t,u,rfl,ha,hb,lt,lu,tl,ul,u1,k⟩:=h
  refine⟨_,(ae (ba (am Fcheck_word hr ap (aa (pv 1) ab)))
   (ae (ba (am Fcheck_signs hr ap (aa (pv 0) ab)))
   (ae (aB (i:=2) scLiesAt.nd rfl (.inr rfl) (aT B.len (pv 1)))
   (al (aD (cR ["text","word","many"] rfl (jj (by rfl) B.range (aa (ak bg (ak a7 (aT B.len (pv 0)) (pv 2)) af) ab)) (fun _=>by exact(fX (aI (dq (by exact hr)) (bD bC (pv 0) (bv (pv 3)) (bv (ak bg (pv 3) (pv 2)))) (pv 1) (aA _)))) (fun _=>by exact(pv 3)))))))),?_⟩
  refine⟨_,rfl,b,u,rfl,hb,lu,u1,?_⟩
  refine⟨_,rfl,a,t,rfl,ha,lt,?_⟩
  refine⟨_,rfl,b,_,rfl,SqL.of hb,?_⟩
  refine⟨_,rfl,a,_,rfl,SqL.of ha,_,rfl,_,_,rfl,rfl,_,_,rfl,rfl,_,rfl,by rw[List.length_map,List.length_map];lia,by rw[List.length_map,List.length_map];lia,fun D hD cb=>?_⟩
  rw[List.length_map,List.length_map,show((t.length:Int)-(u.length:Int)+1).toNat=t.length+1-u.length by lia]
  refine jn (lo:=0) (n:=t.length+1-u.length) (fun i ys H2=>ys=ac ((List.range i).filter fun p=>decide ((t.drop p).take u.length=u))∧Same H H2∧H2 D=some (.lst ys)) (bi (by lia)) ?_ ?_ ?_ ?_
  ·exact⟨rfl,Same.upd hD,ag⟩
  ·rintro i ys H2 ⟨rfl,_⟩
   rw[aN];exact hW _
  ·rintro i ys H2 hi ⟨rfl,s2,hD2⟩
   refine⟨_,rfl,_,rfl,_,rfl,_,rfl,_,rfl,_,_,rfl,rfl,_,rfl,a,_,rfl,SqL.of (s2 _ _ ha),fun p1 hp1=>?_⟩
   have s3:=s2.trans (Same.upd (o:=.lst (aS (t.map sg) (some (0+(i:Int))) (some (0+(i:Int)+(u.length:Int))))) hp1)
   refine⟨_,rfl,p1,b,(t.drop i).take u.length,u,rfl,rfl,SqL.of ?_,SqL.of (s3 _ _ hb),((lt.drop _).take _).cp,lu.cp,_,rfl,?_⟩
   ·rw[ag,bZ,bG,oy _ _ _ (by lia) (by lia),show(0+(i:Int)).toNat=i by lia,show(0+(i:Int)+(u.length:Int)).toNat-i=u.length by lia]
   ·have hD3:=(Same.upd (o:=.lst (aS (t.map sg) (some (0+(i:Int))) (some (0+(i:Int)+(u.length:Int))))) hp1) _ _ hD2
    refine bJ (fun hc=>?_) (fun hc=>?_)
    ·have hc':(t.drop i).take u.length=u:=by simpa using hc
     refine⟨_,rfl,hD3,?_,?_,ag⟩
     ·rw[k6,if_pos hc',gm]
     ·intro b o e
      rw[ao (aK e hD)]
      exact s3 b o e
    ·have hc':¬(t.drop i).take u.length=u:=by simpa using hc
     refine⟨?_,s3,hD3⟩
     rw[k6,if_neg hc',List.append_nil]
  ·rintro ys H2 ⟨rfl,s2,hD2⟩
   exact k D H2 hD hD2 s2
end
theorem jA{α:Type}{f:α→Bool}:∀{l:List α},(∀x∈l,f x=true)→l.takeWhile f=l
 | [],_=>rfl
 | x::l,h=>by
   rw[List.takeWhile_cons,h x List.mem_cons_self,if_pos rfl,jA fun y hy=>h y (List.mem_cons_of_mem _ hy)]
def bN(ks:List Nat)(m i:Nat):Bool:=ks.any fun p=>decide (p≤i∧i<p+m)
def bq(n m:Nat)(ks:List Nat):Nat:=((List.range n).takeWhile (bN ks m)).length
theorem ow(n m:Nat)(ks:List Nat):bq n m ks≤n:=by
 unfold bq
 have:=(List.takeWhile_sublist (bN ks m) (l:=List.range n)).length_le
 simpa using this
theorem p7{n x:Nat}{f:Nat→Bool}(hx:x≤n)(h1:∀i,i<x→f i=true)(h2:x<n→f x=false):((List.range n).takeWhile f).length=x:=by
 have e:List.range n=List.range x++(List.range (n-x)).map (x+ ·):=by
  rw[←List.range_add];congr 1;lia
 have a:(List.range x).takeWhile f=List.range x:=by
  apply jA
  intro i hi
  exact h1 i (by simpa using hi)
 rw[e,List.takeWhile_append,a]
 simp only[List.length_range,if_true]
 by_cases hlt:x<n
 ·obtain⟨d,hd⟩:∃d,n-x=d+1:=⟨n-x-1,by lia⟩
  rw[hd,List.range_succ_eq_map,List.map_cons,List.takeWhile_cons]
  simp[h2 hlt]
 ·have:n-x=0:=by lia
  rw[this];simp
theorem iG{n m x:Nat}{ks:List Nat}(hx:x≤n)(h1:∀i,i<x→bN ks m i=true)(h2:x<n→bN ks m x=false):bq n m ks=x:=p7 hx h1 h2
def fb(m:Nat):Nat→List Nat→Nat
 | reach,[]=>reach
 | reach,p::r=>if p>reach then reach else fb m (p+m) r
theorem cov_true{ks:List Nat}{m i:Nat}:bN ks m i=true↔∃p∈ks,p≤i∧i<p+m:=by
 unfold bN
 rw[List.any_eq_true]
 constructor
 ·rintro⟨p,hp,h⟩;exact⟨p,hp,of_decide_eq_true h⟩
 ·rintro⟨p,hp,h⟩;exact⟨p,hp,decide_eq_true h⟩
theorem jp{ks:List Nat}{m i:Nat}:bN ks m i=false↔∀p∈ks,¬(p≤i∧i<p+m):=by
 rw[←Bool.not_eq_true,cov_true]
 constructor
 ·intro h p hp q;exact h ⟨p,hp,q⟩
 ·rintro h ⟨p,hp,q⟩;exact h p hp q
theorem kn{m n:Nat}:∀(ks D:List Nat) (R:Nat),(D++ks).Pairwise (·< ·)→(∀p∈D,p+m≤R)→(∀i,i<R→bN D m i=true)→R≤n→(∀p∈ks,p+m≤n)→fb m R ks≤n∧(∀i,i<fb m R ks→bN (D++ks) m i=true)∧bN (D++ks) m (fb m R ks)=false
 | [],D,R,hs,hd,hc,hr,hk=>by
   rw[List.append_nil]
   refine⟨hr,hc,?_⟩
   rw[jp]
   intro p hp q
   have:=hd p hp
   simp only[fb] at q
   lia
 | p::r,D,R,hs,hd,hc,hr,hk=>by
   simp only[fb]
   have hsp:=List.pairwise_append.mp hs
   have hpr:=List.pairwise_cons.mp hsp.2.1
   by_cases h:p>R
   ·rw[if_pos h]
    refine⟨hr,fun i hi=>?_,?_⟩
    ·obtain⟨q,hq,z⟩:=cov_true.mp (hc i hi)
     exact cov_true.mpr ⟨q,List.mem_append_left _ hq,z⟩
    ·rw[jp]
     intro q hq z
     rcases List.mem_append.mp hq with hq | hq
     ·have:=hd q hq;lia
     ·rcases List.mem_cons.mp hq with rfl | hq
      ·lia
      ·have:=hpr.1 q hq;lia
   ·rw[if_neg h]
    have e:D++p::r=(D++[p])++r:=by simp
    rw[e] at hs ⊢
    refine kn r (D++[p]) (p+m) hs (fun q hq=>?_) (fun i hi=>?_) (hk p List.mem_cons_self) (fun q hq=>hk q (List.mem_cons_of_mem _ hq))
    ·rcases List.mem_append.mp hq with hq | hq
     ·have:=hsp.2.2 q hq p List.mem_cons_self;lia
     ·rw[List.mem_singleton.mp hq];lia
    ·by_cases hi2:i<R
     ·obtain⟨q,hq,z⟩:=cov_true.mp (hc i hi2)
      exact cov_true.mpr ⟨q,List.mem_append_left _ hq,z⟩
     ·exact cov_true.mpr ⟨p,by simp,by lia,hi⟩
theorem pD{m n:Nat}{ks:List Nat}(hs:ks.Pairwise (·< ·))(hk:∀p∈ks,p+m≤n):fb m 0 ks=bq n m ks:=by
 obtain⟨h1,h2,h3⟩:=kn (m:=m) (n:=n) ks [] 0 (by simpa using hs) (by simp) (by simp) (Nat.zero_le _) hk
 rw[List.nil_append] at h2 h3
 exact(iG h1 h2 fun _=>h3).symm
theorem jX(t u:List Nat):(aH t u).Pairwise (·< ·):=by
 unfold aH
 exact List.Pairwise.filter _ List.pairwise_lt_range
theorem qY{t u:List Nat}{p:Nat}(h:p∈aH t u)(u1:1≤u.length):p+u.length≤t.length:=by
 unfold aH at h
 have:=(List.mem_filter.mp h).1
 simp at this
 lia
theorem cB{ks:List Nat}{i:Nat}{x:V}(h:(ac ks)[i]?=some x):∃k,ks[i]?=some k∧x=V.int (k:Int):=by
 unfold ac at h
 rw[List.map_map,List.getElem?_map] at h
 cases q:ks[i]? with
 | none=>rw[q] at h;cases h
 | some k=>rw[q] at h;exact⟨k,rfl,(Option.some.inj h).symm⟩
abbrev hZ:Stmt:=aL 21
theorem re(n:Nat):(List.range n).reverse.map (n - ·)=(List.range n).map (·+1):=by
 apply List.ext_getElem
 ·simp
 ·intro i h1 h2
  simp at h1 h2 ⊢
  lia
theorem lL(t:List Nat):gF t=br t:=by
 unfold gF bn br
 rw[←List.filter_reverse,←re,List.filter_map]
 congr 1
 apply List.filter_congr
 intro k hk
 have hk':k<t.length:=by simpa using hk
 show decide _=decide _
 have e:t.length-(t.length-k)=k:=by lia
 rw[e]
 exact decide_eq_decide.mpr ⟨fun h=>h.symm,fun h=>h.symm⟩
section
variable{P:Program}{w:World}{K:PySem.W.Frag}{mg:Str→Option Value}{base:Heap}
theorem rh:FnScope ["word"] ["word"] (ar hZ):=fsc_
theorem pI(M:Md K mg)(B:Bl mg)(F:FF K "shifts" hZ)(Fcheck_word:Fn P w K mg base ad "check_word" 3 ["word"] cZ)(Fperiods:Fn P w K mg base ad "periods" 4 ["text"] ji):Fn P w K mg base ad "shifts" 5 ["word"] iC:=by
 refine aQ M F rh (fun _ _ _ _ _ _=>bM fun _=>rfl) (fun vs H Q E h=>?_) (fun f cdv A outer s H vs Q E hr h=>?_)
 ·obtain⟨a,t,rfl,_⟩:=h;rfl
 ·obtain⟨a,t,rfl,ha,lt,t1,tl,k⟩:=h
  refine⟨_,(ae (ba (am Fcheck_word hr ap (aa (pv 0) ab)))
   (al (aD (am Fperiods hr ap (aa (pv 0) ab))))),?_⟩
  refine⟨_,rfl,a,t,rfl,ha,lt,t1,?_⟩
  refine⟨_,rfl,a,t,rfl,ha,lt,by lia,fun r H1 hr0 hr1 s1=>k r H1 hr0 ?_ s1⟩
  rw[hr1,lL]
end
abbrev ig:Stmt:=aL 11
abbrev fN:Stmt:=aL 18
def iX:Sp:=fun vs H Q _=>∃(a:Addr) (t:List Nat),vs=[.ref a]∧H a=some (.lst (t.map sg))∧1≤t.length∧Q .non H
def lC:Sp:=fun vs H Q _=>∃(a:Addr) (ks:List Nat) (m:Nat),vs=[.ref a,.int (m:Int)]∧H a=some (.lst (ac ks))∧Q (.int (fb m 0 ks:Nat)) H
section
variable{P:Program}{w:World}{K:PySem.W.Frag}{mg:Str→Option Value}{base:Heap}
theorem oH:FnScope ["text"] ["text"] (ar ig):=fsc_
theorem pB(M:Md K mg)(B:Bl mg)(F:FF K "check_some" ig):Fn P w K mg base ad "check_some" 1 ["text"] iX:=by
 refine aQ M F oH (fun _ _ _ _ _ _=>bM fun _=>rfl) (fun vs H Q E h=>?_) (fun f cdv A outer s H vs Q E hr h=>?_)
 ·obtain⟨a,t,rfl,_⟩:=h;rfl
 ·obtain⟨a,t,rfl,ha,t1,k⟩:=h
  refine⟨_,(al (aU (aI bj (aT B.len (pv 0)) af (aA _)) (al c7) aW)),?_⟩
  refine⟨_,rfl,a,_,rfl,SqL.of ha,rfl,_,rfl,?_⟩
  rw[decide_eq_false (fun q=>by have:=V.int.inj q;rw[List.length_map] at this;lia)]
  exact aY k
theorem scFirstBare:FnScope ["places","many","reach","place"] ["places","many"] (ar fN):=fsc_
theorem qD(M:Md K mg)(B:Bl mg)(F:FF K "first_bare" fN):Fn P w K mg base ad "first_bare" 1 ["places","many"] lC:=by
 refine aQ M F scFirstBare (fun _ _ _ _ _ _=>cE fun _ _=>rfl) (fun vs H Q E h=>?_) (fun f cdv A outer s H vs Q E hr h=>?_)
 ·obtain⟨a,ks,m,rfl,_⟩:=h;rfl
 ·obtain⟨a,ks,m,rfl,ha,k⟩:=h
  refine⟨_,(ae (aB (i:=2) scFirstBare.nd rfl (.inl rfl) af)
   (ae (cS PassesOwn.never rfl (cM (pv 0)) (bh (i:=3) scFirstBare.nd rfl (.inl rfl))
   (ae (aU (aI io (pv 3) (pv 2) (aA _)) (al (aD (pv 2))) aW)
   (al (aB (i:=2) scFirstBare.nd rfl (.inl rfl) (ak bg (pv 3) (pv 1))))))
   (al (aD (pv 2))))),?_⟩
  refine⟨_,rfl,a,rfl,⟨_,SqL.of ha⟩,fU (K:=K) (a:=a) (xs:=ac ks) (fun i σ H2=>H2=H∧∃(R:Nat) (v3:Option V),σ=[some (.ref a),some (.int (m:Int)),some (.int (R:Int)),v3]∧fb m 0 ks=fb m R (ks.drop i)) ⟨rfl,0,none,rfl,rfl⟩ (fun i σ H2 _ h2=>by rw[h2.1];exact SqL.of ha) ?_ ?_⟩
  ·rintro i x σ H2 hx ⟨rfl,R,v3,rfl,e⟩
   obtain⟨p,hp,rfl⟩:=cB hx
   have ed:ks.drop i=p::ks.drop (i+1):=by
    obtain⟨h1,h2⟩:=List.getElem?_eq_some_iff.mp hp
    rw[List.drop_eq_getElem_cons h1,h2]
   rw[ed] at e
   refine⟨_,rfl,_,rfl,_,_,rfl,rfl,_,rfl,?_⟩
   refine bJ (fun hc=>?_) (fun hc=>?_)
   ·have hc':R<p:=by simpa using hc
    refine⟨_,rfl,?_⟩
    have:fb m 0 ks=R:=by rw[e];simp only[fb];rw[if_pos hc']
    rw[this] at k
    exact k
   ·have hc':¬p>R:=by simpa using hc
    refine⟨_,rfl,_,rfl,_,_,rfl,rfl,rfl,p+m,some (.int (p:Int)),?_,?_⟩
    ·rw[Int.natCast_add]
     rfl
    ·rw[e];simp only[fb];rw[if_neg hc']
  ·rintro σ H2 ⟨rfl,R,v3,rfl,e⟩
   rw[aN,List.drop_length] at e
   simp only[fb] at e
   rw[e] at k
   exact⟨_,rfl,k⟩
end
abbrev fM:Stmt:=aL 19
def jt:Sp:=fun vs H Q _=>∃(a b:Addr) (t u:List Nat),vs=[.ref a,.ref b]∧H a=some (.lst (t.map sg))∧H b=some (.lst (u.map sg))∧Low t∧Low u∧1≤t.length∧t.length≤900∧u.length≤900∧1≤u.length∧
 (∀(r:Addr) (H':Hp),H r=none→Same H H'→bq t.length u.length (aH t u)<t.length→H' r=some (.tup [.str "bare",.int (bq t.length u.length (aH t u):Nat)])→Q (.ref r) H')∧
 (∀(r q:Addr) (H':Hp),H r=none→H q=none→Same H H'→bq t.length u.length (aH t u)=t.length→H' q=some (.lst (ac (aH t u)))→H' r=some (.tup [.str "covers",.ref q])→Q (.ref r) H')
section
variable{P:Program}{w:World}{K:PySem.W.Frag}{mg:Str→Option Value}{base:Heap}
theorem scCovered:FnScope ["text","word","places","bare"] ["text","word"] (ar fM):=fsc_
theorem rT(M:Md K mg)(B:Bl mg)(F:FF K "covered" fM)(Flies_at:Fn P w K mg base ad "lies_at" 4 ["text","word"] gD)(Fcheck_some:Fn P w K mg base ad "check_some" 1 ["text"] iX)(Ffirst_bare:Fn P w K mg base ad "first_bare" 1 ["places","many"] lC):Fn P w K mg base ad "covered" 5 ["text","word"] jt:=by
 refine aQ M F scCovered (fun _ _ _ _ _ _=>cE fun _ _=>rfl) (fun vs H Q E h=>?_) (fun f cdv A outer s H vs Q E hr h=>?_)
 ·obtain⟨a,b,t,u,rfl,_⟩:=h;rfl
 ·obtain⟨a,b,t,u,rfl,ha,hb,lt,lu,t1,tl,ul,u1,k1,k2⟩:=h
  refine⟨_,(ae (aB (i:=2) scCovered.nd rfl (.inl rfl) (am Flies_at hr ap (aa (pv 0) (aa (pv 1) ab))))
   (ae (ba (am Fcheck_some hr ap (aa (pv 0) ab)))
   (ae (aB (i:=3) scCovered.nd rfl (.inl rfl) (am Ffirst_bare hr ap (aa (pv 2) (aa (aT B.len (pv 1)) ab))))
   (ae (aU (aI dJ (pv 3) (aT B.len (pv 0)) (aA _)) (al (aD (iq (aa c6 (aa (pv 3) ab))))) aW)
   (al (aD (iq (aa c6 (aa (pv 2) ab))))))))),?_⟩
  refine⟨_,rfl,_,rfl,a,b,t,u,rfl,ha,hb,lt,lu,tl,ul,u1,fun q H1 hq0 hq1 s1=>?_⟩
  refine⟨_,rfl,a,t,rfl,s1 _ _ ha,t1,?_⟩
  refine⟨_,rfl,_,rfl,b,_,rfl,SqL.of (s1 _ _ hb),q,aH t u,u.length,by rw[List.length_map];rfl,hq1,?_⟩
  have ef:fb u.length 0 (aH t u)=bq t.length u.length (aH t u):=pD (jX t u) fun p hp=>qY hp u1
  rw[ef]
  have hbl:=ow t.length u.length (aH t u)
  refine⟨_,rfl,_,rfl,a,_,rfl,SqL.of (s1 _ _ ha),_,_,rfl,rfl,_,rfl,?_⟩
  refine bJ (fun hc=>?_) (fun hc=>?_)
  ·have hc':bq t.length u.length (aH t u)<t.length:=by simpa using hc
   exact⟨_,rfl,by show 2≤sizeLine;decide,fun r hr0=>k1 r _ (s1.free hr0) (s1.trans (Same.upd hr0)) hc' ag⟩
  ·have hc':¬bq t.length u.length (aH t u)<t.length:=by simpa using hc
   exact⟨_,rfl,by show 2≤sizeLine;decide,fun r hr0=>k2 r q _ (s1.free hr0) hq0 (s1.trans (Same.upd hr0)) (by lia) ((Same.upd hr0) _ _ hq1) ag⟩
end
abbrev gc:Stmt:=aL 12
def fP:Sp:=fun vs H Q _=>∃a lo hi:Int,vs=[.int a,.int lo,.int hi]∧lo≤a∧a≤hi∧Q .non H
section
variable{P:Program}{w:World}{K:PySem.W.Frag}{mg:Str→Option Value}{base:Heap}
theorem mR:FnScope ["number","least","most"] ["number","least","most"] (ar gc):=fsc_
theorem nZ(M:Md K mg)(B:Bl mg)(F:FF K "check_within" gc):Fn P w K mg base ad "check_within" 1 ["number","least","most"] fP:=by
 refine aQ M F mR (fun _ _ _ _ _ _=>dj fun _ _ _=>rfl) (fun vs H Q E h=>?_) (fun f cdv A outer s H vs Q E hr h=>?_)
 ·obtain⟨a,lo,hi,rfl,_⟩:=h;rfl
 ·obtain⟨a,lo,hi,rfl,h1,h2,k⟩:=h
  refine⟨_,(al (aU (c0 (ox fm fm (pv 1) (pv 0) (pv 2))) (al c7) aW)),?_⟩
  refine⟨_,rfl,_,rfl,_,_,rfl,rfl,_,rfl,?_⟩
  rw[decide_eq_true h1]
  refine bc ⟨_,rfl,_,_,rfl,rfl,_,rfl,?_⟩
  rw[decide_eq_true h2]
  exact aY k
end
def Oc(w t:List Nat)(p:Nat):Prop:=∃a b,t=a++(w++b)∧a.length=p
def av(w:List Nat)(d:Nat):List Nat:=w.drop (w.length-d)
def aR(w:List Nat)(d:Nat):Prop:=1≤d∧d≤w.length∧w.drop d=w.take (w.length-d)
def Sg(w:List Nat)(d:Nat):Prop:=aR w d∧∀j,0<j→j<d→¬Oc w (w.take d++w) j
theorem Oc.le{w t:List Nat}{p:Nat}(h:Oc w t p):p+w.length≤t.length:=by
 obtain⟨a,b,rfl,rfl⟩:=h
 simp only[List.length_append];lia
theorem oc_iff{w t:List Nat}{p:Nat}:Oc w t p↔p+w.length≤t.length∧(t.drop p).take w.length=w:=by
 constructor
 ·intro h
  refine⟨h.le,?_⟩
  obtain⟨a,b,rfl,rfl⟩:=h
  rw[List.drop_left,List.take_left]
 ·rintro⟨h1,h2⟩
  refine⟨t.take p,(t.drop p).drop w.length,?_,by rw[List.length_take];lia⟩
  have:=List.take_append_drop w.length (t.drop p)
  rw[h2] at this
  rw[this,List.take_append_drop]
theorem nr{w a t:List Nat}{p:Nat}:Oc w (a++t) (a.length+p)↔Oc w t p:=by
 constructor
 ·rintro⟨x,b,e,l⟩
  have hx:a <+:x:=by
   have:a <+:x++(w++b):=by rw[←e];exact List.prefix_append _ _
   exact List.prefix_of_prefix_length_le this (List.prefix_append _ _) (by lia)
  obtain⟨y,rfl⟩:=hx
  rw[List.append_assoc] at e
  refine⟨y,b,List.append_cancel_left e,?_⟩
  rw[List.length_append] at l;lia
 ·rintro⟨x,b,rfl,rfl⟩
  exact⟨a++x,b,by rw[List.append_assoc],by rw[List.length_append]⟩
theorem Oc.more{w t:List Nat}{p:Nat}(h:Oc w t p)(z:List Nat):Oc w (t++z) p:=by
 obtain⟨a,b,rfl,rfl⟩:=h
 exact⟨a,b++z,by simp only[List.append_assoc],rfl⟩
theorem Oc.cut{w t z:List Nat}{p:Nat}(h:Oc w (t++z) p)(hl:p+w.length≤t.length):Oc w t p:=by
 rw[oc_iff] at h ⊢
 refine⟨hl,?_⟩
 have e:=h.2
 rw[List.drop_append_of_le_length (by lia),List.take_append_of_le_length (by rw[List.length_drop];lia)] at e
 exact e
theorem cL{w:List Nat}{d:Nat}(h:aR w d):w.take d++w=w++av w d:=by
 obtain⟨_,_,h⟩:=h
 have e1:w=w.take d++w.take (w.length-d):=by rw[←h,List.take_append_drop]
 have e2:w.take (w.length-d)++av w d=w:=List.take_append_drop _ _
 calc w.take d++w=w.take d++(w.take (w.length-d)++av w d):=by rw[e2]
  _=(w.take d++w.take (w.length-d))++av w d:=by rw[List.append_assoc]
  _=w++av w d:=by rw[←e1]
theorem eo{w:List Nat}{d:Nat}(h:d≤w.length):(av w d).length=d:=by unfold av;rw[List.length_drop];lia
theorem kx{w t:List Nat}{d:Nat}(d1:1≤d)(d2:d≤w.length)(h0:Oc w t 0)(hd:Oc w t d):aR w d∧t=w.take d++t.drop d:=by
 obtain⟨a,b,e0,la⟩:=h0
 have:a=[]:=List.length_eq_zero_iff.mp la
 subst this
 rw[List.nil_append] at e0
 have e1:t.take d=w.take d:=by rw[e0,List.take_append_of_le_length d2]
 refine⟨⟨d1,d2,?_⟩,?_⟩
 ·have q:=(oc_iff.mp hd).2
  have:=congrArg (List.take (w.length-d)) q
  rw[List.take_take,Nat.min_eq_left (by lia),e0,List.drop_append_of_le_length d2,List.take_left' (by rw[List.length_drop])] at this
  exact this
 ·rw[←e1,List.take_append_drop]
def tx(w:List Nat):List Nat→List Nat
 | []=>w
 | d::ds=>w.take d++tx w ds
def aE(p:Nat):List Nat→List Nat
 | []=>[p]
 | d::ds=>p::aE (p+d) ds
theorem df{w:List Nat}:∀{ds:List Nat},(∀d∈ds,d≤w.length)→(tx w ds).length=w.length+ds.sum
 | [],_=>by simp[tx]
 | d::ds,h=>by
   rw[tx,List.length_append,df fun x hx=>h x (List.mem_cons_of_mem _ hx),List.length_take,List.sum_cons]
   have:=h d List.mem_cons_self
   lia
theorem im{w:List Nat}:∀{ds:List Nat},(∀d∈ds,aR w d)→∃z,tx w ds=w++z
 | [],_=>⟨[],by simp[tx]⟩
 | d::ds,h=>by
   obtain⟨z,hz⟩:=im fun x hx=>h x (List.mem_cons_of_mem d hx)
   refine⟨av w d++z,?_⟩
   rw[tx,hz,←List.append_assoc,cL (h d List.mem_cons_self),List.append_assoc]
theorem kW{w:List Nat}{d:Nat}{ds:List Nat}(h:∀x∈d::ds,aR w x):∃z,tx w (d::ds)=w++(av w d++z):=by
 obtain⟨z,hz⟩:=im fun x hx=>h x (List.mem_cons_of_mem d hx)
 exact⟨z,by rw[tx,hz,←List.append_assoc,cL (h d List.mem_cons_self),List.append_assoc]⟩
theorem hO{w:List Nat}{d:Nat}(h:aR w d):∀ds:List Nat,tx w (ds++[d])=tx w ds++av w d
 | []=>by show w.take d++w=w++av w d;exact cL h
 | x::ds=>by show w.take x++tx w (ds++[d])=(w.take x++tx w ds)++av w d;rw[hO h ds,List.append_assoc]
theorem iT:∀{ds:List Nat} {p x:Nat},x∈aE p ds→p≤x
 | [],p,x,h=>by rw[List.mem_singleton.mp h];exact Nat.le_refl _
 | d::ds,p,x,h=>by
   rcases List.mem_cons.mp h with e | e
   ·lia
   ·have:=iT e;lia
theorem jB:∀{ds:List Nat} {p:Nat},(∀d∈ds,1≤d)→(aE p ds).Pairwise (·< ·)
 | [],p,_=>by simp[aE]
 | d::ds,p,h=>by
   rw[aE,List.pairwise_cons]
   refine⟨fun x hx=>?_,jB fun x hx=>h x (List.mem_cons_of_mem _ hx)⟩
   have:=iT hx
   have:=h d List.mem_cons_self
   lia
theorem fF:∀{ds:List Nat} {p x:Nat},x∈aE p ds↔p≤x∧x-p∈aE 0 ds
 | [],p,x=>by simp only[aE,List.mem_singleton];lia
 | d::ds,p,x=>by
   simp only[aE,List.mem_cons]
   rw[fF (p:=p+d) (x:=x),fF (p:=0+d) (x:=x-p)]
   constructor
   ·rintro(h | ⟨h1,h2⟩)
    ·exact⟨by lia,.inl (by lia)⟩
    ·exact⟨by lia,.inr ⟨by lia,by rw[show x-p-(0+d)=x-(p+d) by lia];exact h2⟩⟩
   ·rintro⟨h1,h | ⟨h2,h3⟩⟩
    ·exact .inl (by lia)
    ·exact .inr ⟨by lia,by rw[show x-(p+d)=x-p-(0+d) by lia];exact h3⟩
theorem dh{w:List Nat}:∀{ds:List Nat},(∀d∈ds,Sg w d)→∀p,Oc w (tx w ds) p↔p∈aE 0 ds
 | [],_,p=>by
   simp only[tx,aE,List.mem_singleton]
   constructor
   ·intro h;have:=h.le;lia
   ·rintro rfl;exact⟨[],[],by simp,rfl⟩
 | d::ds,h,p=>by
   have hd:=h d List.mem_cons_self
   obtain⟨⟨d1,d2,d3⟩,d4⟩:=hd
   have ih:=dh fun x hx=>h x (List.mem_cons_of_mem d hx)
   have hl:(w.take d).length=d:=by rw[List.length_take];lia
   obtain⟨z,hz⟩:=im (w:=w) (ds:=ds) fun x hx=>(h x (List.mem_cons_of_mem d hx)).1
   rw[tx,aE,List.mem_cons,fF (p:=0+d)]
   by_cases hp:d≤p
   ·have:Oc w (w.take d++tx w ds) p↔Oc w (tx w ds) (p-d):=by
     have:=nr (w:=w) (a:=w.take d) (t:=tx w ds) (p:=p-d)
     rw[hl,show d+(p-d)=p by lia] at this
     exact this
    rw[this,ih,Nat.zero_add]
    constructor
    ·intro q;exact .inr ⟨hp,q⟩
    ·rintro(q | q)
     ·lia
     ·exact q.2
   ·constructor
    ·intro q
     by_cases p0:p=0
     ·exact .inl p0
     ·exfalso
      rw[hz,←List.append_assoc] at q
      exact d4 p (by lia) (by lia) (q.cut (by rw[List.length_append,hl];lia))
    ·rintro(q | q)
     ·subst q
      rw[hz,←List.append_assoc,cL ⟨d1,d2,d3⟩]
      exact⟨[],av w d++z,by simp,rfl⟩
     ·lia
def Cv(w t:List Nat):Prop:=Oc w t 0∧∀p,Oc w t p→p+w.length<t.length→∃q,p<q∧q≤p+w.length∧Oc w t q
theorem qo{P:Nat→Prop}:∀n,P n→∃m,P m∧m≤n∧∀k,k<m→¬P k:=by
 intro n
 induction n using Nat.strongRecOn with
 | ind n ih=>
   intro h
   by_cases z:∃k,k<n∧P k
   ·obtain⟨k,hk,pk⟩:=z
    obtain⟨m,h1,h2,h3⟩:=ih k hk pk
    exact⟨m,h1,by lia,h3⟩
   ·exact⟨n,h,Nat.le_refl _,fun k hk pk=>z ⟨k,hk,pk⟩⟩
theorem pR{w:List Nat}(w1:1≤w.length){ds:List Nat}(h:∀d∈ds,Sg w d):Cv w (tx w ds):=by
 have hl:=df (w:=w) (ds:=ds) fun d hd=>(h d hd).1.2.1
 refine⟨(dh h 0).mpr (by cases ds <;> simp[aE]),fun p hp hlt=>?_⟩
 rw[hl] at hlt
 rw[dh h] at hp
 suffices∃q,p<q∧q≤p+w.length∧q∈aE 0 ds by
  obtain⟨q,q1,q2,q3⟩:=this
  exact⟨q,q1,q2,(dh h q).mpr q3⟩
 have gen:∀(ds:List Nat) (b:Nat),(∀d∈ds,Sg w d)→p∈aE b ds→p<b+ds.sum→∃q,p<q∧q≤p+w.length∧q∈aE b ds:=by
  intro ds
  induction ds with
  | nil=>intro b _ h1 h2;rw[List.mem_singleton.mp h1] at h2;simp at h2
  | cons d ds ih=>
    intro b hs h1 h2
    have hd:=(hs d List.mem_cons_self).1
    rcases List.mem_cons.mp h1 with e | e
    ·refine⟨b+d,by have:=hd.1;lia,by have:=hd.2.1;lia,List.mem_cons_of_mem _ ?_⟩
     cases ds <;> simp[aE]
    ·rw[List.sum_cons] at h2
     obtain⟨q,q1,q2,q3⟩:=ih (b+d) (fun x hx=>hs x (List.mem_cons_of_mem _ hx)) e (by lia)
     exact⟨q,q1,q2,List.mem_cons_of_mem _ q3⟩
 exact gen ds 0 h hp (by lia)
theorem rQ{w:List Nat}{d e:Nat}(hd:Sg w d)(he:Sg w e)(h:av w d <+:av w e):d=e:=by
 have l1:=eo hd.1.2.1
 have l2:=eo he.1.2.1
 have l3:=h.length_le
 by_cases z:d=e
 ·exact z
 ·exfalso
  obtain⟨x,hx⟩:=h
  refine he.2 d (by have:=hd.1.1;lia) (by lia) ?_
  rw[cL he.1,←hx,←List.append_assoc,←cL hd.1]
  refine Oc.more ⟨w.take d,[],by simp,?_⟩ x
  have:=hd.1.2.1
  rw[List.length_take];lia
def cl(S:List Nat)(L:Nat):Nat→List Nat
 | 0=>List.replicate L 0++[1]
 | k+1=>cl S L k++[(S.map fun d=>(cl S L k).getD ((cl S L k).length-d) 0).sum]
theorem bH(S:List Nat)(L:Nat):∀k,(cl S L k).length=L+1+k
 | 0=>by simp[cl]
 | k+1=>by rw[cl,List.length_append,bH S L k];rfl
def cn(S:List Nat)(L n:Nat):Nat:=(cl S L n).getD n 0
theorem fH{S:List Nat}{L k n:Nat}(h:n<L+1+k):∀j,(cl S L (k+j)).getD n 0=(cl S L k).getD n 0
 | 0=>rfl
 | j+1=>by
   rw[←Nat.add_assoc,cl,List.getD_eq_getElem?_getD,List.getElem?_append_left (by rw[bH];lia),←List.getD_eq_getElem?_getD]
   exact fH h j
theorem bw{S:List Nat}{L k n:Nat}(h:n<L+1+k):(cl S L k).getD n 0=cn S L n:=by
 unfold cn
 rcases Nat.le_total k n with z | z
 ·have:=fH (S:=S) h (n-k)
  rw[show k+(n-k)=n by lia] at this
  exact this.symm
 ·have:=fH (S:=S) (L:=L) (k:=n) (n:=n) (by lia) (k-n)
  rw[show n+(k-n)=k by lia] at this
  exact this
theorem cq{S:List Nat}{L n:Nat}(h:n<L):cn S L n=0:=by
 rw[←bw (k:=0) (by lia),cl,List.getD_eq_getElem?_getD,List.getElem?_append_left (by rw[List.length_replicate];lia),List.getElem?_replicate,if_pos h]
 rfl
theorem cQ{S:List Nat}{L:Nat}:cn S L L=1:=by
 rw[←bw (k:=0) (by lia),cl]
 simp[List.getD_eq_getElem?_getD]
theorem de{l:List Nat}{g h:Nat→Nat}(e:∀c∈l,g c=h c):(l.map g).sum=(l.map h).sum:=by rw[List.map_congr_left e]
theorem cV{S:List Nat}{L n:Nat}(hS:∀d∈S,1≤d)(h:L<n):cn S L n=(S.map fun d=>cn S L (n-d)).sum:=by
 obtain⟨k,rfl⟩:∃k,n=L+1+k:=⟨n-L-1,by lia⟩
 rw[←bw (k:=k+1) (by lia),cl,List.getD_eq_getElem?_getD,List.getElem?_append_right (by rw[bH];lia),bH,Nat.sub_self]
 show(S.map fun d=>(cl S L k).getD (L+1+k-d) 0).sum=_
 exact de fun d hd=>bw (by have:=hS d hd;lia)
theorem oI{S T:List Nat}{L:Nat}(hS:∀d∈S,1≤d)(p:S.Perm T):∀n,cn S L n=cn T L n:=by
 intro n
 induction n using Nat.strongRecOn with
 | ind n ih=>
   have hT:∀d∈T,1≤d:=fun d hd=>hS d (p.mem_iff.mpr hd)
   rcases Nat.lt_trichotomy n L with z | z | z
   ·rw[cq z,cq z]
   ·subst z;rw[cQ,cQ]
   ·rw[cV hS z,cV hT z,de (l:=S) (g:=fun d=>cn S L (n-d)) (h:=fun d=>cn T L (n-d)) fun d hd=>ih (n-d) (by have:=hS d hd;lia)]
    exact(p.map _).sum_nat
def pre(S:List Nat)(d:Nat):List Nat:=S.takeWhile (·≠d)
theorem dA{S:List Nat}{d:Nat}(h:d∈S):∃post,S=pre S d++d::post:=by
 unfold pre
 induction S with
 | nil=>cases h
 | cons x r ih=>
   by_cases e:x=d
   ·subst e;exact⟨r,by rw[List.takeWhile_cons_of_neg (by simp)];rfl⟩
   ·obtain⟨post,hp⟩:=ih ((List.mem_cons.mp h).resolve_left fun q=>e q.symm)
    refine⟨post,?_⟩
    rw[List.takeWhile_cons_of_pos (by simpa using e),List.cons_append,←hp]
theorem fI{S p q:List Nat}{d:Nat}(hn:S.Nodup)(e:S=p++d::q):pre S d=p:=by
 unfold pre
 subst e
 have hp:=(List.nodup_append.mp hn).2.2
 rw[List.takeWhile_append_of_pos fun x hx=>by
  have:=hp x hx d List.mem_cons_self
  simpa using this,List.takeWhile_cons_of_neg (by simp),List.append_nil]
def rk(S:List Nat)(L:Nat):List Nat→Nat
 | []=>0
 | d::ds=>((pre S d).map fun s=>cn S L (L+(d+ds.sum)-s)).sum+rk S L ds
section
variable{S:List Nat}{L:Nat}
theorem qN(hS:∀d∈S,1≤d){d:Nat}(hd:d∈S){n:Nat}(h:L<n):((pre S d).map fun s=>cn S L (n-s)).sum+cn S L (n-d)≤cn S L n:=by
 obtain⟨post,e⟩:=dA hd
 rw[cV hS h]
 have gen:∀g:Nat→Nat,(S.map g).sum=((pre S d).map g).sum+(g d+(post.map g).sum):=fun g=>by
  conv=>lhs;rw[e]
  rw[List.map_append,List.sum_append,List.map_cons,List.sum_cons]
 rw[gen fun s=>cn S L (n-s)];lia
theorem jT(hS:∀d∈S,1≤d):∀{ds:List Nat},(∀d∈ds,d∈S)→rk S L ds<cn S L (L+ds.sum)
 | [],_=>by simp[rk,cQ]
 | d::ds,h=>by
   have hd:=h d List.mem_cons_self
   have ih:=jT hS (ds:=ds) fun x hx=>h x (List.mem_cons_of_mem _ hx)
   have:=qN (L:=L) hS hd (n:=L+(d+ds.sum)) (by have:=hS d hd;lia)
   rw[show L+(d+ds.sum)-d=L+ds.sum by lia] at this
   rw[rk,List.sum_cons]
   lia
theorem oR{d e:Nat}(hd:d∈S)(he:e∈S)(h:d≠e):d∈pre S e∨e∈pre S d:=by
 obtain⟨p,hp⟩:=dA hd
 obtain⟨q,hq⟩:=dA he
 by_cases z:d∈pre S e
 ·exact .inl z
 ·right
  unfold pre at z ⊢
  clear hp hq p q
  induction S with
  | nil=>cases hd
  | cons x r ih=>
    by_cases e1:x=d
    ·subst e1
     rw[List.takeWhile_cons_of_pos (by simpa using h)] at z
     exact absurd List.mem_cons_self z
    ·rw[List.takeWhile_cons_of_pos (by simpa using e1)]
     by_cases e2:x=e
     ·subst e2;exact List.mem_cons_self
     ·rw[List.takeWhile_cons_of_pos (by simpa using e2)] at z
      exact List.mem_cons_of_mem _ (ih ((List.mem_cons.mp hd).resolve_left fun q=>e1 q.symm) ((List.mem_cons.mp he).resolve_left fun q=>e2 q.symm) fun q=>z (List.mem_cons_of_mem _ q))
theorem rA{d e:Nat}(hn:S.Nodup)(he:e∈S)(h:d∈pre S e):∃x,pre S e=pre S d++d::x:=by
 obtain⟨q,hq⟩:=dA he
 obtain⟨a,b,hab⟩:=List.append_of_mem h
 refine⟨b,?_⟩
 have:pre S d=a:=fI hn (q:=b++e::q) (by rw[hab] at hq;rw[hq];simp)
 rw[this];exact hab
theorem j6(hS:∀d∈S,1≤d)(hn:S.Nodup){d e:Nat}{ds es:List Nat}(hd:∀x∈d::ds,x∈S)(he:∀x∈e::es,x∈S)(hs:(d::ds).sum=(e::es).sum)(h:d∈pre S e):rk S L (d::ds)<rk S L (e::es):=by
 obtain⟨x,hx⟩:=rA hn (he e List.mem_cons_self) h
 rw[List.sum_cons,List.sum_cons] at hs
 rw[rk,rk,hx,List.map_append,List.sum_append,List.map_cons,List.sum_cons,←hs]
 have:=jT (L:=L) hS (ds:=ds) fun y hy=>hd y (List.mem_cons_of_mem _ hy)
 rw[show L+(d+ds.sum)-d=L+ds.sum by lia]
 lia
end
theorem i5(c x y:List Int):au (c++x) (c++y)=au x y:=by
 induction c with
 | nil=>rfl
 | cons a c ih=>simp[au,ih]
theorem jx:∀{x y:List Int},au y x=false→¬x <+:y→∀u v,au (x++u) (y++v)=true
 | [],y,_,h,_,_=>absurd (List.nil_prefix) h
 | a::x,[],h,_,_,_=>by simp[au] at h
 | a::x,b::y,h1,h2,u,v=>by
   simp only[au] at h1
   rw[List.cons_append,List.cons_append]
   simp only[au]
   by_cases e:a=b
   ·subst e
    rw[if_pos rfl] at h1 ⊢
    exact jx h1 (fun z=>h2 (by rw[List.prefix_cons_inj];exact z)) u v
   ·rw[if_neg e]
    rw[if_neg (fun z=>e z.symm)] at h1
    have:¬b<a:=of_decide_eq_false h1
    exact decide_eq_true (by lia)
theorem cX(x y:List Nat):aj (x++y)=aj x++aj y:=by simp[aj]
theorem oW{x y:List Nat}(h:aj x <+:aj y):x <+:y:=by
 rw[List.prefix_iff_eq_take] at h ⊢
 unfold aj at h
 rw[List.length_map,←List.map_take] at h
 have inj:∀{a b:List Nat},a.map (fun c:Nat=>(c:Int))=b.map (fun c:Nat=>(c:Int))→a=b:=by
  intro a
  induction a with
  | nil=>intro b h;cases b with | nil=>rfl | cons _ _=>cases h
  | cons x a ih=>
    intro b h
    cases b with
    | nil=>cases h
    | cons y b=>
      rw[List.map_cons,List.map_cons] at h
      have h':=List.cons.inj h
      rw[ih h'.2,Int.ofNat.inj h'.1]
 exact inj h
section
variable{w S:List Nat}
def c8(w S:List Nat):Prop:=S.Pairwise fun a b=>au (aj (av w b)) (aj (av w a))=false
theorem qz(hS:∀d,d∈S→Sg w d)(hn:S.Nodup)(hk:c8 w S){d e:Nat}{ds es:List Nat}(hd:∀x∈d::ds,x∈S)(he:∀x∈e::es,x∈S)(h:d∈pre S e):au (aj (tx w (d::ds))) (aj (tx w (e::es)))=true:=by
 obtain⟨q,hq⟩:=dA (he e List.mem_cons_self)
 have hk':au (aj (av w e)) (aj (av w d))=false:=by
  unfold c8 at hk
  rw[hq] at hk
  exact(List.pairwise_append.mp hk).2.2 d h e List.mem_cons_self
 have hne:d≠e:=fun z=>by
  subst z
  rw[hq] at hn
  exact(List.nodup_append.mp hn).2.2 d h d List.mem_cons_self rfl
 obtain⟨u,hu⟩:=kW (w:=w) fun x hx=>(hS x (hd x hx)).1
 obtain⟨v,hv⟩:=kW (w:=w) fun x hx=>(hS x (he x hx)).1
 rw[hu,hv,cX,cX w,i5,cX,cX (av w e)]
 refine jx hk' (fun z=>hne ?_) _ _
 exact rQ (hS d (hd d List.mem_cons_self)) (hS e (he e List.mem_cons_self)) (oW z)
theorem kh(hS:∀d,d∈S→Sg w d)(hn:S.Nodup)(hk:c8 w S):∀(ds es:List Nat),(∀x∈ds,x∈S)→(∀x∈es,x∈S)→ds.sum=es.sum→ds=es∨(rk S w.length ds<rk S w.length es∧au (aj (tx w ds)) (aj (tx w es))=true)∨rk S w.length es<rk S w.length ds
 | [],[],_,_,_=>.inl rfl
 | [],e::es,_,h,z=>by
   have:=(hS e (h e List.mem_cons_self)).1.1
   rw[List.sum_cons] at z;simp at z;lia
 | d::ds,[],h,_,z=>by
   have:=(hS d (h d List.mem_cons_self)).1.1
   rw[List.sum_cons] at z;simp at z;lia
 | d::ds,e::es,h1,h2,z=>by
   have hS1:∀d∈S,1≤d:=fun d hd=>(hS d hd).1.1
   by_cases q:d=e
   ·subst q
    rw[List.sum_cons,List.sum_cons] at z
    have z':ds.sum=es.sum:=by lia
    have hr:∀a b:List Nat,a.sum=b.sum→rk S w.length a<rk S w.length b→rk S w.length (d::a)<rk S w.length (d::b):=fun a b e l=>by
     rw[rk,rk,e];lia
    rcases kh hS hn hk ds es (fun x hx=>h1 x (List.mem_cons_of_mem _ hx)) (fun x hx=>h2 x (List.mem_cons_of_mem _ hx)) z' with r | ⟨r1,r2⟩ | r
    ·exact .inl (by rw[r])
    ·refine .inr (.inl ⟨hr _ _ z' r1,?_⟩)
     rw[tx,tx,cX,cX,i5];exact r2
    ·exact .inr (.inr (hr _ _ z'.symm r))
   ·rcases oR (h1 d List.mem_cons_self) (h2 e List.mem_cons_self) q with r | r
    ·exact .inr (.inl ⟨j6 hS1 hn h1 h2 z r,qz hS hn hk h1 h2 r⟩)
    ·exact .inr (.inr (j6 hS1 hn h2 h1 z.symm r))
theorem l7(hS:∀d,d∈S→Sg w d)(hn:S.Nodup)(hk:c8 w S){ds es:List Nat}(h1:∀x∈ds,x∈S)(h2:∀x∈es,x∈S)(z:ds.sum=es.sum)(e:rk S w.length ds=rk S w.length es):ds=es:=by
 rcases kh hS hn hk ds es h1 h2 z with r | r | r
 ·exact r
 ·lia
 ·lia
end
theorem lies_oc{t u:List Nat}{p:Nat}:p∈aH t u↔Oc u t p:=by
 rw[oc_iff]
 unfold aH
 rw[List.mem_filter]
 simp only[List.mem_range,decide_eq_true_eq]
 constructor
 ·rintro⟨h1,h2⟩;exact⟨by lia,h2⟩
 ·rintro⟨h1,h2⟩;exact⟨by lia,h2⟩
theorem md{t u:List Nat}(h:Cv u t):bq t.length u.length (aH t u)=t.length:=by
 refine iG (Nat.le_refl _) (fun i hi=>?_) (fun z=>absurd z (Nat.lt_irrefl _))
 rw[cov_true]
 have go:∀k p,Oc u t p→p≤i→i-p≤k→∃q∈aH t u,q≤i∧i<q+u.length:=by
  intro k
  induction k with
  | zero=>
    intro p hp h1 h2
    by_cases z:i<p+u.length
    ·exact⟨p,lies_oc.mpr hp,h1,z⟩
    ·obtain⟨q,q1,q2,q3⟩:=h.2 p hp (by lia)
     lia
  | succ k ih=>
    intro p hp h1 h2
    by_cases z:i<p+u.length
    ·exact⟨p,lies_oc.mpr hp,h1,z⟩
    ·obtain⟨q,q1,q2,q3⟩:=h.2 p hp (by lia)
     exact ih q q3 (by lia) (by lia)
 exact go i 0 h.1 (Nat.zero_le _) (by lia)
theorem lr:∀{a b:List Nat},a.Pairwise (·< ·)→b.Pairwise (·< ·)→(∀x,x∈a↔x∈b)→a=b
 | [],[],_,_,_=>rfl
 | [],y::b,_,_,h=>by have:=(h y).mpr List.mem_cons_self;cases this
 | x::a,[],_,_,h=>by have:=(h x).mp List.mem_cons_self;cases this
 | x::a,y::b,ha,hb,h=>by
   have ha':=List.pairwise_cons.mp ha
   have hb':=List.pairwise_cons.mp hb
   have e:x=y:=by
    rcases List.mem_cons.mp ((h x).mp List.mem_cons_self) with q | q
    ·exact q
    ·rcases List.mem_cons.mp ((h y).mpr List.mem_cons_self) with r | r
     ·exact r.symm
     ·have:=ha'.1 y r;have:=hb'.1 x q;lia
   subst e
   congr 1
   refine lr ha'.2 hb'.2 fun z=>?_
   have hz:=h z
   rw[List.mem_cons,List.mem_cons] at hz
   constructor
   ·intro q
    rcases hz.mp (.inr q) with r | r
    ·subst r;exact absurd (ha'.1 z q) (Nat.lt_irrefl _)
    ·exact r
   ·intro q
    rcases hz.mpr (.inr q) with r | r
    ·subst r;exact absurd (hb'.1 z q) (Nat.lt_irrefl _)
    ·exact r
theorem lc{u ds:List Nat}(h:∀d∈ds,Sg u d):aH (tx u ds) u=aE 0 ds:=
 lr (jX _ _) (jB fun d hd=>(h d hd).1.1) fun x=>by rw[lies_oc,dh h]
theorem mem_shifts{u:List Nat}{d:Nat}:d∈br u↔aR u d:=by
 unfold br aR
 rw[List.mem_filter,List.mem_map,decide_eq_true_eq]
 constructor
 ·rintro⟨⟨q,hq,rfl⟩,h⟩
  rw[List.mem_range] at hq
  exact⟨by lia,by lia,h⟩
 ·rintro⟨h1,h2,h3⟩
  exact⟨⟨d-1,by rw[List.mem_range];lia,by lia⟩,h3⟩
theorem lD{u:List Nat}{d:Nat}(h:aR u d):aH (u.take d++u) u=[0,d]↔Sg u d:=by
 have dl:(u.take d).length=d:=by rw[List.length_take];have:=h.2.1;lia
 constructor
 ·intro e
  refine⟨h,fun j j1 j2 hj=>?_⟩
  have:=lies_oc.mpr hj
  rw[e] at this
  simp at this;lia
 ·intro hs
  have:=lc (u:=u) (ds:=[d]) fun x hx=>by rw[List.mem_singleton.mp hx];exact hs
  rw[show tx u [d]=u.take d++u from rfl] at this
  rw[this];simp[aE]
def bR(u:List Nat):List Nat:=(br u).filter fun d=>decide (aH (u.take d++u) u=[0,d])
theorem mem_singles{u:List Nat}{d:Nat}:d∈bR u↔Sg u d:=by
 unfold bR
 rw[List.mem_filter,mem_shifts,decide_eq_true_eq]
 constructor
 ·rintro⟨h1,h2⟩;exact(lD h1).mp h2
 ·intro h;exact⟨h.1,(lD h.1).mpr h⟩
theorem oh(u:List Nat):(bR u).Nodup:=by
 unfold bR br
 refine List.Pairwise.filter _ (List.Pairwise.filter _ ?_)
 rw[List.pairwise_map]
 exact List.Pairwise.imp (fun h=>by lia) List.nodup_range
structure Stp(u S:List Nat):Prop where
 perm:S.Perm (bR u)
 key:c8 u S
theorem Stp.mem{u S:List Nat}(h:Stp u S){d:Nat}:d∈S↔Sg u d:=h.perm.mem_iff.trans mem_singles
theorem Stp.nodup{u S:List Nat}(h:Stp u S):S.Nodup:=h.perm.nodup_iff.mpr (oh u)
theorem Stp.one{u S:List Nat}(h:Stp u S):∀d∈S,1≤d:=fun d hd=>(h.mem.mp hd).1.1
theorem Stp.len{u S:List Nat}(h:Stp u S):S.length≤u.length:=by
 rw[h.perm.length_eq]
 refine Nat.le_trans (List.length_filter_le _ _) ?_
 refine Nat.le_trans (List.length_filter_le _ _) ?_
 simp
def aq(u:List Nat)(n:Nat):Nat:=cn (bR u) u.length n
theorem Stp.cn{u S:List Nat}(h:Stp u S)(n:Nat):cn S u.length n=aq u n:=oI h.one h.perm n
theorem jf{S T:List Nat}(h1:S.Nodup)(h2:T.Nodup)(h:∀x,x∈S↔x∈T):S.Perm T:=(List.perm_ext_iff_of_nodup h1 h2).mpr h
theorem fQ{α:Type}{l:List α}{j:Nat}{x:α}(h:l[j]?=some x):l.take (j+1)=l.take j++[x]:=by
 rw[List.take_add_one,h];rfl
theorem ko{k:Nat}{v:V}{j:Int}{σ:St}{H:Hp}{R:St→Hp→Prop}(e:v=.int j)(h:cr k (.int j) σ H R):cr k v σ H R:=by rw[e];exact h
theorem qu{te:TE}{i:Nat}{D:Ends}{σ:St}{H:Hp}(h:te σ H fun x H1=>D.nx (σ.set i (some x)) H1):dM te (cr i) D σ H:=h
theorem oG{l:List Nat}{f:Nat→Bool}{i o:Nat}(h:l[i]?=some o):(l.take (i+1)).filter f=(l.take i).filter f++(if f o=true then [o] else []):=by
 rw[fQ h,List.filter_append]
 congr 1
 by_cases hf:f o=true <;> simp[hf]
open PySem.Spec PyProof.Rows
structure FFC(K:PySem.W.Frag)(x:Str)(st:Stmt)(cc:Addr):Prop where
 ex:∃(f:Addr) (oc:Value) (od an:Option Addr) (osl:Array (Option Value)) (kV doc pm ct:Value),PySem.W.nsIn K mainGlobals x=some (some (.ref f))∧
  K.lookup f=some ⟨oc,od,.func (PySem.W.fnOf x x (bA st) (bd st) (ar st) .none kV doc pm an (.ref cc) ct),osl⟩∧PySem.W.codeIn K (.ref cc) x=true∧PySem.W.keepIn K (.ref f)=true
theorem ffc_mk{K:PySem.W.Frag}{x:Str}{st:Stmt}{f cc:Addr}{oc:Value}{od an:Option Addr}{osl:Array (Option Value)}{kV doc pm ct:Value}(a:PySem.W.nsIn K mainGlobals x=some (some (.ref f)))(l:K.lookup f=some ⟨oc,od,.func (PySem.W.fnOf x x (bA st) (bd st) (ar st) .none kV doc pm an (.ref cc) ct),osl⟩)(c:PySem.W.codeIn K (.ref cc) x=true)(k:PySem.W.keepIn K (.ref f)=true):FFC K x st cc:=⟨f,oc,od,an,osl,kV,doc,pm,ct,a,l,c,k⟩
theorem qf{P:Program}{w:World}{K:PySem.W.Frag}{mg:Str→Option Value}{base:Heap}{x:Str}{st:Stmt}{N ps:List Str}{k:Nat}{sp:Sp}{cc:Addr}(M:Md K mg)(F:FFC K x st cc)(S:FnScope N ps (ar st))(hbind:∀(kV doc pm:Value) (an:Option Addr) (cdv ct:Value) (us:List Value),us.length=ps.length→bindArgs (PySem.W.fnOf x x (bA st) (bd st) (ar st) .none kV doc pm an cdv ct) ⟨us,[]⟩=pure (ps.zip us))(len:∀vs H Q E,sp vs H Q E→vs.length=ps.length)(hbody:∀(f:Addr) (A:Around) (outer:List Env) (s:Shared) (H:Hp) (vs:List V) (Q:VK) (E:XK),Room k (A.deeper (envOfC x (ar st) s.heap.objs.size f (.ref cc)))→sp vs H Q E→∃t,PSs (bE ad P w K mg base N x (ar st) f (.ref cc) A outer s H E).nox (bd st) t∧t {nx:=fun _ H'=>Q .non H',rt:=Q} (bI N vs) H):Fn P w K mg base ad x (k+1) ps sp:=by
 obtain⟨f,oc,od,an,osl,kV,doc,pm,ct,a,l,c,kk⟩:=F.ex
 have F1:=kZ (st:=st) l c kk
 refine⟨f,_,kv l c S len (fun A outer s H vs Q E hr h=>?_),M.ns _ _ a,kk,F1.binds hbind,oc,od,osl,l⟩
 obtain⟨t,h1,q⟩:=hbody f A outer s H vs Q E hr h
 exact⟨t,h1.nox,q⟩
abbrev cY:Stmt:=aL 24
def mF:Pos:=⟨66,29,66,65⟩
abbrev qy:Str:=(envOfC "single_steps" (ar cY) 0 0 .none).qual++"<lambda>"
abbrev i7:Scope:={kind:=.function,names:=[(PySem.Str.ofString "step",.local),(PySem.Str.ofString "word",.free),(PySem.Str.ofString "len",.globalImplicit)],isGenerator:=false,isCoroutine:=false,more:=[]}
theorem nv:LamSc "word" "step" i7:=⟨rfl,rfl,rfl,by decide+kernel,by decide+kernel,by decide+kernel,by decide+kernel⟩
abbrev og(K:PySem.W.Frag):TE:=gU (fT K) (cx 0) (hU (cN (bW fun i j=>.int (i-j)) (jO K (cx 0)) (cx 1))) gi
abbrev TB(H:Hp)(pt:Addr):Prop:=Tab H pt mF qy
theorem TB.ne{H:Hp}{pt a:Addr}{xs:List V}(h:TB H pt)(ha:H a=some (.lst xs)):a≠pt:=fun z=>by
 rw[z] at ha
 rcases h with t | ⟨c,t,_⟩ <;> (rw[ha] at t;cases t)
def dH(pt:Addr):Sp:=fun vs H Q _=>∃(a:Addr) (u:List Nat),vs=[.ref a]∧H a=some (.lst (u.map sg))∧Low u∧1≤u.length∧u.length≤400∧TB H pt∧
 ∀(r:Addr) (S:List Nat) (H':Hp),H r=none→H' r=some (.lst (ac S))→Stp u S→Keep pt H H'→TB H' pt→Q (.ref r) H'
theorem oE{S0:List Nat}{ms:List Int}(h:ms.Perm (S0.map fun(k:Nat)=>(k:Int))):∃S:List Nat,S.Perm S0∧ms=S.map fun(k:Nat)=>(k:Int):=by
 refine⟨ms.map Int.toNat,?_,?_⟩
 ·have:=h.map Int.toNat
  rw[List.map_map] at this
  have e:S0.map (Int.toNat ∘ fun(k:Nat)=>(k:Int))=S0:=by
   conv=>rhs;rw[←List.map_id S0]
   exact List.map_congr_left fun x _=>by simp
  rw[e] at this
  exact this
 ·rw[List.map_map]
  conv=>lhs;rw[←List.map_id ms]
  refine List.map_congr_left fun x hx=>?_
  obtain⟨k,_,rfl⟩:=List.mem_map.mp (h.mem_iff.mp hx)
  simp
theorem n6{a b:List Nat}(h:(a.map fun(k:Nat)=>(k:Int))=b.map fun(k:Nat)=>(k:Int)):a=b:=by
 have:=congrArg (List.map Int.toNat) h
 rw[List.map_map,List.map_map] at this
 have e:∀l:List Nat,l.map (Int.toNat ∘ fun(k:Nat)=>(k:Int))=l:=fun l=>by
  conv=>rhs;rw[←List.map_id l]
  exact List.map_congr_left fun x _=>by simp
 rw[e,e] at this
 exact this
section
variable{P:Program}{w:World}{K:PySem.W.Frag}{mg:Str→Option Value}{base:Heap}
theorem scSingle:FnScope ["word","steps"] ["word"] (ar cY):=fsc_
theorem rF{cc pt:Addr}(M:Md K mg)(B:Bl mg)(nsorted:mg "sorted"=none)(C:PySem.W.CodeHd base cc pt)(hB:bt mg base)(F:FFC K "single_steps" cY cc)(Fshifts:Fn P w K mg base ad "shifts" 5 ["word"] iC)(Flies_at:Fn P w K mg base ad "lies_at" 4 ["text","word"] gD):Fn P w K mg base ad "single_steps" 6 ["word"] (dH pt):=by
 refine qf M F scSingle (fun _ _ _ _ _ _=>bM fun _=>rfl) (fun vs H Q E h=>?_) (fun f A outer s H vs Q E hr h=>?_)
 ·obtain⟨a,u,rfl,_⟩:=h;rfl
 ·obtain⟨a,u,rfl,ha,lu,u1,ul,T,k⟩:=h
  have hcl:∀cw,(bE ad P w K mg base ["word","steps"] "single_steps" (ar cY) f (.ref cc) A outer s H E).nox.env.cells.lookup ("word":Str)=some cw→closureFor i7 (bE ad P w K mg base ["word","steps"] "single_steps" (ar cY) f (.ref cc) A outer s H E).nox.env=pure [(("word":Str),cw)]:=by
   intro cw e
   have e':some (s.heap.objs.size+1)=some cw:=e
   cases e'
   rfl
  refine⟨_,(ae (nO (i:=1) ["word","steps"] rfl scSingle.nd rfl (.inl rfl) (cM (am Fshifts hr ap (aa (pv 0) ab))) (fun _=>by exact(fX (aI (qX (by exact hr)) (am Flies_at hr ap (aa (ak dB (bD bC (pv 0) bS (bv (pv 2))) (pv 0)) (aa (pv 0) ab))) (a6 (aa af (aa (pv 2) ab))) (aA _)))) (fun _=>by exact(pv 2)))
   (al (aD (qQ (iw:=0) (tb:=og K) rfl nsorted hr rfl C hB nv (by decide) rfl rfl hcl rfl (fun _ _ _ _ _ _=>rfl) (pv 1) (fun _ _ _ _ _ _ _=>(bD bC (pv 0) (bv (ak a7 (aT B.len (pv 0)) (pv 1))) bS)))))),?_⟩
  have nap:=T.ne ha
  refine⟨_,rfl,a,u,rfl,ha,lu,u1,by lia,fun st H1 hst0 hst1 s1=>?_⟩
  refine⟨st,rfl,⟨_,SqL.of hst1⟩,fun D hD cb=>?_⟩
  have sl:=nI u
  refine eV (K:=K) (a:=st) (xs:=ac (br u)) (fun i ys H2=>ys=ac (((br u).take i).filter fun d=>decide (aH (u.take d++u) u=[0,d]))∧Same H1 H2∧H2 D=some (.lst ys)) (by rw[aN];exact bi (by lia)) ?_ ?_ ?_ ?_ ?_
  ·exact⟨rfl,Same.upd hD,ag⟩
  ·rintro i ys H2 ⟨rfl,_⟩
   rw[aN]
   exact Nat.le_trans (List.length_filter_le _ _) (by rw[List.length_take];lia)
  ·rintro i ys H2 _ ⟨_,s2,_⟩;exact SqL.of (s2 _ _ hst1)
  ·rintro i x ys H2 hx ⟨rfl,s2,hD2⟩
   obtain⟨d,hd,rfl⟩:=cB hx
   obtain⟨d1,d2,d3⟩:=mem_shifts.mp (List.mem_of_getElem? hd)
   have ha2:=s2 _ _ (s1 _ _ ha)
   refine⟨_,rfl,_,rfl,_,rfl,a,_,rfl,SqL.of ha2,fun q1 hq1=>?_⟩
   have e1:aS (u.map sg) none (some (d:Int))=(u.take d).map sg:=by
    rw[bZ,bG,eY _ _ (by lia),show((d:Nat):Int).toNat=d by lia]
   rw[e1]
   have s3:=Same.upd (o:=.lst ((u.take d).map sg)) hq1
   have hq3:=ag (H:=H2) (a:=q1) (o:=.lst ((u.take d).map sg))
   generalize L2.upd H2 q1 (.lst ((u.take d).map sg))=H3 at s3 hq3 ⊢
   refine⟨_,rfl,pq hq3 (s3 _ _ ha2) (by rw[List.length_take];lia) fun q2 hq2=>?_⟩
   have s4:=Same.upd (o:=.lst ((u.take d++u).map sg)) hq2
   have hq4:=ag (H:=H3) (a:=q2) (o:=.lst ((u.take d++u).map sg))
   generalize L2.upd H3 q2 (.lst ((u.take d++u).map sg))=H4 at s4 hq4 ⊢
   have s24:=s3.trans s4
   refine⟨_,rfl,q2,a,u.take d++u,u,rfl,hq4,s24 _ _ ha2,(lu.take _).app lu,lu,by rw[List.length_append,List.length_take];lia,by lia,u1,fun r5 H5 hr50 hr51 s5=>?_⟩
   refine⟨_,rfl,(by show 2≤sizeLine;decide),fun e0 he0=>?_⟩
   have s6:=Same.upd (o:=.lst [V.int 0,V.int (d:Int)]) he0
   have he6:=ag (H:=H5) (a:=e0) (o:=.lst [V.int 0,V.int (d:Int)])
   generalize L2.upd H5 e0 (.lst [V.int 0,V.int (d:Int)])=H6 at s6 he6 ⊢
   have s26:=s24.trans (s5.trans s6)
   refine⟨r5,e0,(aH (u.take d++u) u).map (fun(k:Nat)=>(k:Int)),[0,(d:Int)],rfl,rfl,SqL.of (s6 _ _ hr51),SqL.of he6,_,rfl,?_⟩
   have stp:=oG (f:=fun d=>decide (aH (u.take d++u) u=[0,d])) hd
   have hD6:=s26 _ _ hD2
   by_cases h1:aH (u.take d++u) u=[0,d]
   ·have h1':((aH (u.take d++u) u).map (fun(k:Nat)=>(k:Int))=[0,(d:Int)]):=by rw[h1];rfl
    rw[if_neg (by decide),decide_eq_true h1']
    refine bc ⟨_,rfl,hD6,?_,fun e o' z=>by rw[ao (aK z hD)];exact s26 _ _ (s2 _ _ z),ag⟩
    rw[stp,if_pos (by simpa using h1),cC]
   ·have h1':¬((aH (u.take d++u) u).map (fun(k:Nat)=>(k:Int))=[0,(d:Int)]):=fun z=>h1 (n6 z)
    rw[if_neg (by decide),decide_eq_false h1']
    refine aY ⟨?_,s2.trans s26,hD6⟩
    rw[stp,if_neg (by simpa using h1),List.append_nil]
  ·rintro ys H2 ⟨rfl,s2,hD2⟩
   rw[aN,List.take_length] at hD2
   have nD:H D=none:=s1.free hD
   have T2:TB H2 pt:=Tab.same (Tab.same T s1) s2
   refine⟨_,rfl,D,(bR u).map fun(k:Nat)=>(k:Int),.ref a,fun n=>av u n.toNat,rfl,?_,?_,rfl,T2,fun n hn H3 k3=>?_,fun r ms H3 pm pw k3 tb hr0 hr1=>?_⟩
   ·exact hD2
   ·rw[List.length_map];exact Nat.le_trans (List.length_filter_le _ _) (by lia)
   ·obtain⟨d,hd,rfl⟩:=List.mem_map.mp hn
    have hdl:=(mem_singles.mp hd).1.2.1
    have ha2:=s2 _ _ (s1 _ _ ha)
    have ha3:=k3 _ _ ha2 nap
    refine⟨_,rfl,_,rfl,a,_,rfl,SqL.of ha3,_,rfl,_,_,rfl,rfl,_,rfl,a,_,rfl,SqL.of ha3,fun q1 hq1=>?_⟩
    have e1:aS (u.map sg) (some (((u.map sg).length:Nat)-(d:Int))) none=(av u d).map sg:=by
     rw[List.length_map,show((u.length:Int)-(d:Int))=((u.length-d:Nat):Int) by lia,i4 (by lia)];rfl
    rw[e1]
    exact⟨q1,rfl,ag,Same.upd hq1⟩
   ·obtain⟨S,pS,rfl⟩:=oE pm
    refine k r S H3 ((s1.trans s2).free hr0) hr1 ⟨pS,?_⟩ (fun c o h n=>k3 _ _ (s2 _ _ (s1 _ _ h)) n) (.inr tb)
    unfold c8
    rw[List.pairwise_map] at pw
    exact pw
end
end Ov
namespace Ov
open PySem L2
abbrev gI:Stmt:=aL 25
def dI:Sp:=fun vs H Q _=>∃(a b:Addr) (u S:List Nat) (n:Nat),vs=[.ref a,.ref b,.int (n:Int)]∧H a=some (.lst (u.map sg))∧H b=some (.lst (ac S))∧1≤u.length∧u.length≤400∧S.length≤400∧n≤300∧(∀d∈S,1≤d∧d≤u.length)∧
 ∀(r:Addr) (k:Nat) (H':Hp),H r=none→H' r=some (.lst (ac (cl S u.length k)))→n<u.length+1+k→Same H H'→Q (.ref r) H'
theorem cI{l:List Nat}{j:Nat}(h:j<l.length):aX (ac l) (j:Int)=some (.int ((l.getD j 0:Nat):Int)):=by
 refine bX ?_
 unfold ac
 rw[List.map_map,List.getElem?_map,List.getD_eq_getElem?_getD]
 simp[h]
theorem lw(l:List Nat):(l.map fun(k:Nat)=>(k:Int)).sum=((l.sum:Nat):Int):=by
 induction l with
 | nil=>rfl
 | cons x r ih=>rw[List.map_cons,List.sum_cons,ih,List.sum_cons];lia
theorem ie{l:List Nat}{f:Nat→Nat}{i o:Nat}(h:l[i]?=some o):(l.take (i+1)).map f=(l.take i).map f++[f o]:=by
 rw[fQ h,List.map_append];rfl
section
variable{P:Program}{w:World}{K:PySem.W.Frag}{mg:Str→Option Value}{base:Heap}
theorem scCounts:FnScope ["word","steps","length","counts"] ["word","steps","length"] (ar gI):=fsc_
theorem pV(M:Md K mg)(B:Bl mg)(F:FF K "counts_by_length" gI):Fn P w K mg base ad "counts_by_length" 1 ["word","steps","length"] dI:=by
 refine aQ M F scCounts (fun _ _ _ _ _ _=>dj fun _ _ _=>rfl) (fun vs H Q E h=>?_) (fun f cdv A outer s H vs Q E hr h=>?_)
 ·obtain⟨a,b,u,S,n,rfl,_⟩:=h;rfl
 ·obtain⟨a,b,u,S,n,rfl,ha,hb,u1,ul,sl,nl,hS,k⟩:=h
  refine⟨_,(ae (aB (i:=3) scCounts.nd rfl (.inr rfl) (ak dB (cR ["word","steps","length","counts"] rfl (cM (pv 0)) (fun _=>by exact fg) (fun _=>by exact af)) (a6 (aa af ab))))
   (ae (eU PassesOwn.never (aI fm (aT B.len (pv 3)) (pv 2) (aA _)) (al (ba (dt PySem.F.plainAttrs_list PySem.F.slot_list_append PySem.F.type_list_append jr (pv 3) (aa (kD rfl B.sum (cR ["word","steps","length","counts"] rfl (cM (pv 1)) (fun _=>by exact fg) (fun _=>by exact(aP aO (pv 3) (ak a7 (aT B.len (pv 3)) (pv 4)) (fun _ _=>rfl))))) ab)))))
   (al (aD (pv 3))))),?_⟩
  refine⟨_,rfl,a,rfl,⟨_,SqL.of ha⟩,fun D hD cb=>?_⟩
  refine eV (K:=K) (a:=a) (xs:=u.map sg) (fun i ys H2=>ys=ac (List.replicate i 0)∧Same H H2∧H2 D=some (.lst ys)) (by rw[List.length_map];exact bi (by lia)) ?_ ?_ ?_ ?_ ?_
  ·exact⟨rfl,Same.upd hD,ag⟩
  ·rintro i ys H2 ⟨rfl,_⟩
   rw[aN,List.length_replicate];exact Nat.le_refl _
  ·rintro i ys H2 _ ⟨_,s2,_⟩;exact SqL.of (s2 _ _ ha)
  ·rintro i x ys H2 hx ⟨rfl,s2,hD2⟩
   refine eh ⟨hD2,?_,fun e o' z=>by rw[ao (aK z hD)];exact s2 _ _ z,ag⟩
   rw[List.replicate_succ',cC];rfl
  ·rintro ys H2 ⟨rfl,s2,hD2⟩
   rw[List.length_map] at hD2
   refine⟨(by show 1≤sizeLine;decide),fun e0 he0=>?_⟩
   have s3:=Same.upd (o:=.lst [V.int 1]) he0
   have he3:=ag (H:=H2) (a:=e0) (o:=.lst [V.int 1])
   generalize L2.upd H2 e0 (.lst [V.int 1])=H3 at s3 he3 ⊢
   refine⟨D,e0,_,_,rfl,rfl,s3 _ _ hD2,he3,by rw[aN,List.length_replicate];exact Nat.le_of_lt (bi (by show u.length+1≤1000;lia)),fun c hc=>?_⟩
   have e4:ac (List.replicate u.length 0)++[V.int 1]=ac (cl S u.length 0):=by rw[cl,cC];rfl
   rw[e4]
   have s4:=Same.upd (o:=.lst (ac (cl S u.length 0))) hc
   have hc4:=ag (H:=H3) (a:=c) (o:=.lst (ac (cl S u.length 0)))
   have cn:H c=none:=(s2.trans s3).free hc
   generalize L2.upd H3 c (.lst (ac (cl S u.length 0)))=H4 at s4 hc4 ⊢
   have s04:=s2.trans (s3.trans s4)
   refine⟨fun m σ H5=>∃k:Nat,m+k=n+1∧σ=[some (.ref a),some (.ref b),some (.int (n:Int)),some (.ref c)]∧H5 c=some (.lst (ac (cl S u.length k)))∧Same H H5,⟨n+1,0,rfl,rfl,hc4,s04⟩,?_⟩
   rintro m σ H5 ⟨k0,mk,rfl,hc5,s5⟩
   refine⟨_,rfl,c,_,rfl,SqL.of hc5,_,rfl,_,_,rfl,rfl,_,rfl,?_⟩
   rw[aN,bH]
   refine bJ (fun hcd=>?_) (fun hcd=>?_)
   ·have hcd':u.length+1+k0≤n:=by have:=of_decide_eq_true hcd;lia
    have cll:=bH S u.length k0
    refine⟨fun σ' H'=>∃m',m'<m∧∃k:Nat,m'+k=n+1∧σ'=[some (.ref a),some (.ref b),some (.int (n:Int)),some (.ref c)]∧H' c=some (.lst (ac (cl S u.length k)))∧Same H H',fun _ _ h=>h,?_⟩
    have hb5:=s5 _ _ hb
    refine⟨_,rfl,.inl ⟨rfl,_,SqL.of hc5⟩,_,rfl,b,rfl,⟨_,SqL.of hb5⟩,fun G hG cb2=>?_⟩
    refine eV (K:=K) (a:=b) (xs:=ac S) (fun i ys H6=>ys=ac ((S.take i).map fun d=>(cl S u.length k0).getD ((cl S u.length k0).length-d) 0)∧Same H5 H6∧H6 G=some (.lst ys)) (by rw[aN];exact bi (by lia)) ?_ ?_ ?_ ?_ ?_
    ·exact⟨rfl,Same.upd hG,ag⟩
    ·rintro i ys H6 ⟨rfl,_⟩
     rw[aN,List.length_map,List.length_take];lia
    ·rintro i ys H6 _ ⟨_,s6,_⟩;exact SqL.of (s6 _ _ hb5)
    ·rintro i x ys H6 hx ⟨rfl,s6,hG6⟩
     obtain⟨d,hd,rfl⟩:=cB hx
     obtain⟨d1,d2⟩:=hS d (List.mem_of_getElem? hd)
     have hc6:=s6 _ _ hc5
     have hat:aX (ac (cl S u.length k0)) (((ac (cl S u.length k0)).length:Int)-(d:Int))=some (.int (((cl S u.length k0).getD ((cl S u.length k0).length-d) 0:Nat):Int)):=by
      rw[aN,show(((cl S u.length k0).length:Int)-(d:Int))=(((cl S u.length k0).length-d:Nat):Int) by lia]
      exact cI (by lia)
     refine eh ⟨_,rfl,_,rfl,c,_,rfl,SqL.of hc6,_,rfl,_,_,rfl,rfl,c,_,_,_,rfl,rfl,SqL.of hc6,hat,hG6,?_,fun e o' z=>by rw[ao (aK z hG)];exact s6 _ _ z,ag⟩
     rw[ie hd,cC]
    ·rintro ys H6 ⟨rfl,s6,hG6⟩
     rw[aN,List.take_length] at hG6
     refine⟨G,_,rfl,hG6,c,_,_,rfl,rfl,s6 _ _ hc5,by rw[aN,cll];exact bi (by lia),m-1,by lia,k0+1,by lia,rfl,?_,?_⟩
     ·rw[ag,lw,cl,cC]
     ·intro e o' z
      rw[ao (aK z cn)]
      exact s6 _ _ (s5 _ _ z)
   ·have hcd':¬(((u.length+1+k0:Nat):Int)≤(n:Int)):=fun z=>hcd (decide_eq_true z)
    exact⟨_,rfl,k c k0 H5 cn hc5 (by lia) s5⟩
end
abbrev fO:Stmt:=aL 26
def dv(pt:Addr):Sp:=fun vs H Q _=>∃(a:Addr) (u:List Nat) (n:Nat),vs=[.ref a,.int (n:Int)]∧H a=some (.lst (u.map sg))∧Low u∧1≤u.length∧u.length≤400∧1≤n∧n≤200∧TB H pt∧
 ∀H',Keep pt H H'→TB H' pt→Q (.int ((aq u n:Nat):Int)) H'
theorem Stp.le{u S:List Nat}(h:Stp u S):∀d∈S,1≤d∧d≤u.length:=fun d hd=>⟨(h.mem.mp hd).1.1,(h.mem.mp hd).1.2.1⟩
theorem jU{u S:List Nat}(h:Stp u S){k n:Nat}(hn:n<u.length+1+k):aX (ac (cl S u.length k)) (n:Int)=some (.int ((aq u n:Nat):Int)):=by
 rw[cI (by rw[bH];exact hn),bw hn,h.cn]
section
variable{P:Program}{w:World}{K:PySem.W.Frag}{mg:Str→Option Value}{base:Heap}
theorem nE:FnScope ["word","length"] ["word","length"] (ar fO):=fsc_
theorem pz{pt:Addr}(M:Md K mg)(B:Bl mg){uM:Value}(gMOST_LENGTH:mg "MOST_LENGTH"=some uM)(rMOST_LENGTH:RelV (.int 200) uM)(F:FF K "count_covered" fO)(Fcheck_word:Fn P w K mg base ad "check_word" 3 ["word"] cZ)(Fcheck_within:Fn P w K mg base ad "check_within" 1 ["number","least","most"] fP)(Fsingle_steps:Fn P w K mg base ad "single_steps" 6 ["word"] (dH pt))(Fcounts_by_length:Fn P w K mg base ad "counts_by_length" 1 ["word","steps","length"] dI):Fn P w K mg base ad "count_covered" 7 ["word","length"] (dv pt):=by
 refine aQ M F nE (fun _ _ _ _ _ _=>cE fun _ _=>rfl) (fun vs H Q E h=>?_) (fun f cdv A outer s H vs Q E hr h=>?_)
 ·obtain⟨a,u,n,rfl,_⟩:=h;rfl
 ·obtain⟨a,u,n,rfl,ha,lu,u1,ul,n1,n2,T,k⟩:=h
  refine⟨_,(ae (ba (am Fcheck_word hr ap (aa (pv 0) ab)))
   (ae (ba (am Fcheck_within hr ap (aa (pv 1) (aa af (aa (fw (v:=.int 200) (by rfl) gMOST_LENGTH rMOST_LENGTH) ab)))))
   (al (aD (aP aO (am Fcounts_by_length hr ap (aa (pv 0) (aa (am Fsingle_steps hr ap (aa (pv 0) ab)) (aa (pv 1) ab)))) (pv 1) (fun _ _=>rfl)))))),?_⟩
  have nap:=T.ne ha
  refine⟨_,rfl,a,u,rfl,ha,lu,u1,?_⟩
  refine⟨_,rfl,_,_,_,rfl,by lia,by lia,?_⟩
  refine⟨_,rfl,_,rfl,a,u,rfl,ha,lu,u1,ul,T,fun r S H1 hr0 hr1 st k1 T1=>?_⟩
  refine⟨_,rfl,a,r,u,S,n,rfl,k1 _ _ ha nap,hr1,u1,ul,by have:=st.len;lia,by lia,st.le,fun c kk H2 hc0 hc2 hn s2=>?_⟩
  refine⟨_,rfl,c,_,_,_,rfl,rfl,SqL.of hc2,jU st hn,k H2 (fun e o h n=>s2 _ _ (k1 _ _ h n)) (T1.same s2)⟩
end
abbrev gg:Stmt:=aL 28
def iR:Sp:=fun vs H Q _=>∃(b c:Addr) (S C:List Nat) (aw num:Nat),vs=[.ref b,.ref c,.int (aw:Int),.int (num:Int)]∧H b=some (.lst (ac S))∧H c=some (.lst (ac C))∧(∀d∈S,d≤aw∧aw-d<C.length)∧num<(S.map fun d=>C.getD (aw-d) 0).sum∧
 ∀(r:Addr) (p q:List Nat) (d left:Nat) (H':Hp),H r=none→S=p++d::q→num=(p.map fun d=>C.getD (aw-d) 0).sum+left→left<C.getD (aw-d) 0→H' r=some (.tup [.int (d:Int),.int (left:Int)])→Same H H'→Q (.ref r) H'
theorem qZ{S:List Nat}{g:Nat→Nat}{i d:Nat}(h:S[i]?=some d):((S.take (i+1)).map g).sum=((S.take i).map g).sum+g d:=by
 rw[ie h,List.sum_append,List.sum_cons];simp
section
variable{P:Program}{w:World}{K:PySem.W.Frag}{mg:Str→Option Value}{base:Heap}
theorem scNext:FnScope ["steps","counts","rest","number","at","left"] ["steps","counts","rest","number"] (ar gg):=fsc_
theorem oD(M:Md K mg)(B:Bl mg)(F:FF K "next_step" gg):Fn P w K mg base ad "next_step" 1 ["steps","counts","rest","number"] iR:=by
 refine aQ M F scNext (fun _ _ _ _ _ _=>gx fun _ _ _ _=>rfl) (fun vs H Q E h=>?_) (fun f cdv A outer s H vs Q E hr h=>?_)
 ·obtain⟨b,c,S,C,aw,num,rfl,_⟩:=h;rfl
 ·obtain⟨b,c,S,C,aw,num,rfl,hb,hc,hS,hlt,k⟩:=h
  refine⟨_,(ae (aB (i:=4) scNext.nd rfl (.inl rfl) af)
   (ae (aB (i:=5) scNext.nd rfl (.inl rfl) (pv 3))
   (ae (eU PassesOwn.never (aI dX (pv 5) (aP aO (pv 1) (ak a7 (pv 2) (aP aO (pv 0) (pv 4) (fun _ _=>rfl))) (fun _ _=>rfl)) (aA _)) (ae (gj (i:=5) scNext.nd rfl (.inl rfl) (aP aO (pv 1) (ak a7 (pv 2) (aP aO (pv 0) (pv 4) (fun _ _=>rfl))) (fun _ _=>rfl)) oP)
   (al (gj (i:=4) scNext.nd rfl (.inl rfl) af jE))))
   (al (aD (iq (aa (aP aO (pv 0) (pv 4) (fun _ _=>rfl)) (aa (pv 5) ab)))))))),?_⟩
  have S0:0<S.length:=by
   cases S with
   | nil=>simp at hlt
   | cons _ _=>simp
  refine⟨_,rfl,fun m σ H5=>∃(i left:Nat),m+i=S.length∧i<S.length∧σ=[some (.ref b),some (.ref c),some (.int (aw:Int)),some (.int (num:Int)),some (.int (i:Int)),some (.int (left:Int))]∧num=((S.take i).map fun d=>C.getD (aw-d) 0).sum+left∧H5=H,⟨S.length,0,num,rfl,S0,rfl,by simp,rfl⟩,?_⟩
  rintro m σ H5 ⟨i,left,mi,iS,rfl,hn,rfl⟩
  obtain⟨d,hd⟩:∃d,S[i]?=some d:=⟨S[i],by simp[iS]⟩
  obtain⟨d1,d2⟩:=hS d (List.mem_of_getElem? hd)
  have hat1:aX (ac S) (i:Int)=some (.int (d:Int)):=by
   rw[cI iS,List.getD_eq_getElem?_getD,hd];rfl
  have hat2:aX (ac C) ((aw:Int)-(d:Int))=some (.int ((C.getD (aw-d) 0:Nat):Int)):=by
   rw[show((aw:Int)-(d:Int))=((aw-d:Nat):Int) by lia];exact cI d2
  have ts:=qZ (g:=fun d=>C.getD (aw-d) 0) hd
  refine⟨_,rfl,_,rfl,_,rfl,_,rfl,_,rfl,b,_,_,_,rfl,rfl,SqL.of hb,hat1,_,_,rfl,rfl,c,_,_,_,rfl,rfl,SqL.of hc,hat2,_,_,rfl,rfl,_,rfl,?_⟩
  refine bJ (fun hcd=>?_) (fun hcd=>?_)
  ·have hge:C.getD (aw-d) 0≤left:=by have:=of_decide_eq_true hcd;lia
   have hi:i+1<S.length:=by
    by_cases z:i+1<S.length
    ·exact z
    ·exfalso
     rw[List.take_of_length_le (by lia)] at ts
     lia
   refine⟨fun σ' H'=>∃m',m'<m∧∃(i left:Nat),m'+i=S.length∧i<S.length∧σ'=[some (.ref b),some (.ref c),some (.int (aw:Int)),some (.int (num:Int)),some (.int (i:Int)),some (.int (left:Int))]∧num=((S.take i).map fun d=>C.getD (aw-d) 0).sum+left∧H'=H5,fun _ _ h=>h,?_⟩
   refine⟨_,rfl,_,rfl,_,rfl,_,rfl,_,rfl,b,_,_,_,rfl,rfl,SqL.of hb,hat1,_,_,rfl,rfl,c,_,_,_,rfl,rfl,SqL.of hc,hat2,_,_,rfl,rfl,?_⟩
   refine⟨_,rfl,_,_,rfl,rfl,?_⟩
   have e1:((left:Int)-((C.getD (aw-d) 0:Nat):Int))=((left-C.getD (aw-d) 0:Nat):Int):=by lia
   exact⟨m-1,by lia,i+1,left-C.getD (aw-d) 0,by lia,hi,by rw[←e1];rfl,by lia,rfl⟩
  ·have hlt2:left<C.getD (aw-d) 0:=by
    have:¬((left:Int)≥((C.getD (aw-d) 0:Nat):Int)):=fun z=>hcd (decide_eq_true z)
    lia
   refine⟨_,rfl,_,rfl,b,_,_,_,rfl,rfl,SqL.of hb,hat1,_,rfl,(by show 2≤sizeLine;decide),fun r hr0=>?_⟩
   have sp:=List.take_append_drop i S
   have dr:S.drop i=d::S.drop (i+1):=by
    rw[List.drop_eq_getElem_cons iS]
    congr 1
    have:=List.getElem?_eq_getElem iS
    rw[this] at hd
    exact Option.some.inj hd
   exact k r (S.take i) (S.drop (i+1)) d left _ hr0 (by rw[←dr,sp]) hn hlt2 ag (Same.upd hr0)
end
abbrev il:Stmt:=aL 29
def dQ(pt:Addr):Sp:=fun vs H Q _=>∃(b:Addr) (u:List Nat) (n x:Nat),vs=[.ref b,.int (n:Int),.int (x:Int)]∧H b=some (.lst (u.map sg))∧Low u∧1≤u.length∧u.length≤400∧1≤n∧n≤200∧x<aq u n∧TB H pt∧
 ∀(r:Addr) (S ds:List Nat) (H':Hp),H r=none→Stp u S→(∀d∈ds,d∈S)→u.length+ds.sum=n→rk S u.length ds=x→H' r=some (.lst ((tx u ds).map sg))→Keep pt H H'→TB H' pt→Q (.ref r) H'
section
variable{P:Program}{w:World}{K:PySem.W.Frag}{mg:Str→Option Value}{base:Heap}
theorem scTextAt:FnScope ["word","length","number","steps","counts","text","left","rest","step"] ["word","length","number"] (ar il):=fsc_
theorem nW{pt:Addr}(M:Md K mg)(B:Bl mg){uM:Value}(gMOST_LENGTH:mg "MOST_LENGTH"=some uM)(rMOST_LENGTH:RelV (.int 200) uM)(F:FF K "text_at" il)(Fcheck_word:Fn P w K mg base ad "check_word" 3 ["word"] cZ)(Fcheck_within:Fn P w K mg base ad "check_within" 1 ["number","least","most"] fP)(Fsingle_steps:Fn P w K mg base ad "single_steps" 6 ["word"] (dH pt))(Fcounts_by_length:Fn P w K mg base ad "counts_by_length" 1 ["word","steps","length"] dI)(Fnext_step:Fn P w K mg base ad "next_step" 1 ["steps","counts","rest","number"] iR):Fn P w K mg base ad "text_at" 7 ["word","length","number"] (dQ pt):=by
 refine aQ M F scTextAt (fun _ _ _ _ _ _=>dj fun _ _ _=>rfl) (fun vs H Q E h=>?_) (fun f cdv A outer s H vs Q E hr h=>?_)
 ·obtain⟨b,u,n,x,rfl,_⟩:=h;rfl
 ·obtain⟨b,u,n,x,rfl,hb,lu,u1,ul,n1,n2,hx,T,k⟩:=h
  refine⟨_,(ae (ba (am Fcheck_word hr ap (aa (pv 0) ab)))
   (ae (ba (am Fcheck_within hr ap (aa (pv 1) (aa af (aa (fw (v:=.int 200) (by rfl) gMOST_LENGTH rMOST_LENGTH) ab)))))
   (ae (aB (i:=3) scTextAt.nd rfl (.inl rfl) (am Fsingle_steps hr ap (aa (pv 0) ab)))
   (ae (aB (i:=4) scTextAt.nd rfl (.inl rfl) (am Fcounts_by_length hr ap (aa (pv 0) (aa (pv 3) (aa (pv 1) ab)))))
   (ae (ba (am Fcheck_within hr ap (aa (pv 2) (aa af (aa (ak a7 (aP aO (pv 4) (pv 1) (fun _ _=>rfl)) af) ab)))))
   (ae (aB (i:=5) scTextAt.nd rfl (.inl rfl) (mN B.list (pv 0)))
   (ae (aB (i:=6) scTextAt.nd rfl (.inl rfl) (pv 2))
   (ae (eU PassesOwn.never (aI dJ (aT B.len (pv 5)) (pv 1) (aA _)) (ae (aB (i:=7) scTextAt.nd rfl (.inl rfl) (ak bg (ak a7 (pv 1) (aT B.len (pv 5))) (aT B.len (pv 0))))
   (ae (eF (am Fnext_step hr ap (aa (pv 3) (aa (pv 4) (aa (pv 7) (aa (pv 6) ab))))) (eZ rfl (ce (bh (i:=8) scTextAt.nd rfl (.inl rfl)) (ce (bh (i:=6) scTextAt.nd rfl (.inl rfl)) eI))))
   (al (ba (dt PySem.F.plainAttrs_list PySem.F.slot_list_extend PySem.F.type_list_extend mM (pv 5) (aa (bD bC (pv 0) (bv (ak a7 (aT B.len (pv 0)) (pv 8))) bS) ab)))))))
   (al (aD (pv 5))))))))))),?_⟩
  have nbp:=T.ne hb
  refine⟨_,rfl,b,u,rfl,hb,lu,u1,?_⟩
  refine⟨_,rfl,_,_,_,rfl,by lia,by lia,?_⟩
  refine⟨_,rfl,b,u,rfl,hb,lu,u1,ul,T,fun r S H1 hr0 hr1 st k1 T1=>?_⟩
  refine⟨_,rfl,_,rfl,_,rfl,b,r,u,S,n,rfl,k1 _ _ hb nbp,hr1,u1,ul,by have:=st.len;lia,by lia,st.le,fun c kk H2 hc0 hc2 hn s2=>?_⟩
  refine⟨_,rfl,_,rfl,_,rfl,c,_,_,_,rfl,rfl,SqL.of hc2,jU st hn,_,_,rfl,rfl,_,_,_,rfl,by lia,by lia,?_⟩
  have k2:Keep pt H H2:=fun e o h n=>s2 _ _ (k1 _ _ h n)
  have hb2:=k2 _ _ hb nbp
  have T2:=T1.same s2
  refine⟨_,rfl,b,_,rfl,SqL.of hb2,fun tq htq=>?_⟩
  have s3:=Same.upd (o:=.lst (u.map sg)) htq
  have htq3:=ag (H:=H2) (a:=tq) (o:=.lst (u.map sg))
  generalize L2.upd H2 tq (.lst (u.map sg))=H3 at s3 htq3 ⊢
  have tqn:H tq=none:=by
   cases e:H tq with
   | none=>rfl
   | some o=>
     exfalso
     by_cases z:tq=pt
     ·subst z
      rcases T2 with t | ⟨_,t,_⟩ <;> (rw[htq] at t;cases t)
     ·have:=k2 _ _ e z
      rw[htq] at this;cases this
  have hle:u.length≤n:=by
   by_cases z:n<u.length
   ·unfold aq at hx
    rw[cq z] at hx;lia
   ·lia
  have Sg':∀d∈S,Sg u d:=fun d hd=>st.mem.mp hd
  refine⟨_,rfl,fun m σ H5=>∃(ds:List Nat) (left:Nat) (v7 v8:Option V),m+(u.length+ds.sum)=n∧σ=[some (.ref b),some (.int (n:Int)),some (.int (x:Int)),some (.ref r),some (.ref c),some (.ref tq),some (.int (left:Int)),v7,v8]∧H5 tq=some (.lst ((tx u ds).map sg))∧(∀d∈ds,d∈S)∧left<aq u (n-ds.sum)∧(∀es,(∀d∈es,d∈S)→u.length+ds.sum+es.sum=n→rk S u.length (ds++es)+left=rk S u.length es+x)∧Same H2 H5,⟨n-u.length,[],x,none,none,by simp;lia,rfl,htq3,by simp,by simpa using hx,fun es _ _=>rfl,s3⟩,?_⟩
  rintro m σ H5 ⟨ds,left,v7,v8,mn,rfl,htq5,hds,hlt,hrk,s5⟩
  have txl:(tx u ds).length=u.length+ds.sum:=df fun d hd=>(Sg' d (hds d hd)).1.2.1
  refine⟨_,rfl,tq,_,rfl,SqL.of htq5,_,rfl,_,_,rfl,rfl,_,rfl,?_⟩
  rw[List.length_map,txl]
  refine bJ (fun hcd=>?_) (fun hcd=>?_)
  ·have hcd':u.length+ds.sum<n:=by have:=of_decide_eq_true hcd;lia
   refine⟨fun σ' H'=>∃m',m'<m∧∃(ds:List Nat) (left:Nat) (v7 v8:Option V),m'+(u.length+ds.sum)=n∧σ'=[some (.ref b),some (.int (n:Int)),some (.int (x:Int)),some (.ref r),some (.ref c),some (.ref tq),some (.int (left:Int)),v7,v8]∧H' tq=some (.lst ((tx u ds).map sg))∧(∀d∈ds,d∈S)∧left<aq u (n-ds.sum)∧(∀es,(∀d∈es,d∈S)→u.length+ds.sum+es.sum=n→rk S u.length (ds++es)+left=rk S u.length es+x)∧Same H2 H',fun _ _ h=>h,?_⟩
   have hb5:=s5 _ _ hb2
   refine⟨_,rfl,_,rfl,tq,_,rfl,SqL.of htq5,_,_,rfl,rfl,_,rfl,b,_,rfl,SqL.of hb5,_,_,rfl,rfl,?_⟩
   refine ko (j:=((n-ds.sum:Nat):Int)) (congrArg V.int (by rw[List.length_map,List.length_map,txl];lia)) ?_
   have hsum:aq u (n-ds.sum)=(S.map fun d=>(cl S u.length kk).getD (n-ds.sum-d) 0).sum:=by
    rw[←st.cn,cV st.one (by lia)]
    exact de fun d hd=>(bw (by lia)).symm
   refine⟨_,rfl,_,rfl,_,rfl,_,rfl,r,c,S,cl S u.length kk,n-ds.sum,left,rfl,s5 _ _ (s2 _ _ hr1),s5 _ _ hc2,fun d hd=>⟨by have:=(st.le d hd).2;lia,by rw[bH];lia⟩,by rw[←hsum];exact hlt,fun r2 p q d left' H6 hr20 eS en lt' h6 s6=>?_⟩
   have dS:d∈S:=by rw[eS];simp
   have dl:=(st.le d dS)
   refine⟨r2,_,rfl,SqT.of h6,rfl,_,_,rfl,_,_,rfl,rfl,?_⟩
   have hb6:=s6 _ _ hb5
   have htq6:=s6 _ _ htq5
   refine⟨_,rfl,.inl ⟨rfl,_,SqL.of htq6⟩,_,rfl,_,rfl,b,_,rfl,SqL.of hb6,_,rfl,_,_,rfl,rfl,_,rfl,b,_,rfl,SqL.of hb6,fun q1 hq1=>?_⟩
   have e1:aS (u.map sg) (some (((u.map sg).length:Nat)-(d:Int))) none=(av u d).map sg:=by
    rw[List.length_map,show((u.length:Int)-(d:Int))=((u.length-d:Nat):Int) by lia,i4 (by lia)];rfl
   rw[e1]
   have s7:=Same.upd (o:=.lst ((av u d).map sg)) hq1
   have hq7:=ag (H:=H6) (a:=q1) (o:=.lst ((av u d).map sg))
   generalize L2.upd H6 q1 (.lst ((av u d).map sg))=H7 at s7 hq7 ⊢
   have kl:=eo dl.2
   have pd:pre S d=p:=fI st.nodup eS
   have hd1:=dl.1
   have hdn:d≤m:=by
    by_cases z:d≤m
    ·exact z
    ·rw[bw (by lia),cq (by lia)] at lt';lia
   refine⟨tq,q1,_,_,rfl,rfl,s7 _ _ htq6,hq7,by rw[List.length_map,List.length_map,txl,kl];exact Nat.le_of_lt (bi (by lia)),m-d,by lia,ds++[d],left',_,_,by rw[List.sum_append];simp;lia,rfl,?_,?_,?_,?_,?_⟩
   ·rw[ag,hO (Sg' d dS).1,List.map_append]
   ·intro y hy
    rcases List.mem_append.mp hy with hy | hy
    ·exact hds y hy
    ·rw[List.mem_singleton.mp hy];exact dS
   ·rw[List.sum_append,←st.cn,←bw (k:=kk) (by simp;lia)]
    simp only[List.sum_cons,List.sum_nil,Nat.add_zero,←Nat.sub_sub]
    exact lt'
   ·intro es hes hs
    rw[List.sum_append] at hs
    simp only[List.sum_cons,List.sum_nil,Nat.add_zero] at hs
    have h1:=hrk (d::es) (fun y hy=>(List.mem_cons.mp hy).elim (fun z=>z▸dS) (hes y)) (by rw[List.sum_cons];lia)
    rw[rk,pd,show u.length+(d+es.sum)=n-ds.sum by lia] at h1
    have h2:(p.map fun s=>cn S u.length (n-ds.sum-s)).sum=(p.map fun d=>(cl S u.length kk).getD (n-ds.sum-d) 0).sum:=de fun y _=>(bw (by lia)).symm
    rw[h2] at h1
    rw[List.append_assoc,List.singleton_append]
    lia
   ·intro e o z
    rw[ao (aK z htq)]
    exact s7 _ _ (s6 _ _ (s5 _ _ z))
  ·have hcd':¬(((u.length+ds.sum:Nat):Int)<(n:Int)):=fun z=>hcd (decide_eq_true z)
   have hnd:u.length+ds.sum=n:=by lia
   have hl0:left=0:=by
    rw[show n-ds.sum=u.length by lia] at hlt
    unfold aq at hlt
    rw[cQ] at hlt;lia
   have hr:=hrk [] (by simp) (by simpa using hnd)
   rw[List.append_nil,hl0] at hr
   exact⟨_,rfl,k tq S ds H5 tqn st hds hnd (by simpa [rk] using hr) htq5 (fun e o h n=>s5 _ _ (k2 _ _ h n)) (T2.same s5)⟩
end
abbrev hV:Stmt:=aL 30
def eB(u:List Nat)(many:Int)(v:V):Prop:=(∃n:Nat,v=.int (n:Int)∧n≤200∧many≤((aq u n:Nat):Int)∧∀m,m<n→((aq u m:Nat):Int)<many)∨(v=.non∧∀m,m≤200→((aq u m:Nat):Int)<many)
def dR(pt:Addr):Sp:=fun vs H Q _=>∃(b:Addr) (u:List Nat) (many:Int),vs=[.ref b,.int many]∧H b=some (.lst (u.map sg))∧Low u∧1≤u.length∧u.length≤400∧1≤many∧TB H pt∧
 ∀(v:V) (H':Hp),eB u many v→Keep pt H H'→TB H' pt→Q v H'
theorem jG{l:List Nat}{n:Nat}:aS (ac l) none (some (n:Int))=ac (l.take n):=by
 unfold ac
 rw[bZ,bG,bG,eY _ _ (by lia),Int.toNat_natCast]
theorem lP{l:List Nat}{n:Nat}:aS (ac l) (some (n:Int)) none=ac (l.drop n):=by
 unfold ac
 rw[bZ,bG,bG,gH _ _ (by lia),Int.toNat_natCast]
section
variable{P:Program}{w:World}{K:PySem.W.Frag}{mg:Str→Option Value}{base:Heap}
theorem scLenOf:FnScope ["word","many","counts","length","count"] ["word","many"] (ar hV):=fsc_
theorem pj{pt:Addr}(M:Md K mg)(B:Bl mg){uM:Value}(gMOST_LENGTH:mg "MOST_LENGTH"=some uM)(rMOST_LENGTH:RelV (.int 200) uM)(F:FF K "length_of" hV)(Fcheck_word:Fn P w K mg base ad "check_word" 3 ["word"] cZ)(Fsingle_steps:Fn P w K mg base ad "single_steps" 6 ["word"] (dH pt))(Fcounts_by_length:Fn P w K mg base ad "counts_by_length" 1 ["word","steps","length"] dI):Fn P w K mg base ad "length_of" 7 ["word","many"] (dR pt):=by
 refine aQ M F scLenOf (fun _ _ _ _ _ _=>cE fun _ _=>rfl) (fun vs H Q E h=>?_) (fun f cdv A outer s H vs Q E hr h=>?_)
 ·obtain⟨b,u,many,rfl,_⟩:=h;rfl
 ·obtain⟨b,u,many,rfl,hb,lu,u1,ul,m1,T,k⟩:=h
  refine⟨_,(ae (ba (am Fcheck_word hr ap (aa (pv 0) ab)))
   (ae (aU (aI dJ (pv 1) af (aA _)) (al c7) aW)
   (ae (aB (i:=2) scLenOf.nd rfl (.inl rfl) (am Fcounts_by_length hr ap (aa (pv 0) (aa (am Fsingle_steps hr ap (aa (pv 0) ab)) (aa (fw (v:=.int 200) (by rfl) gMOST_LENGTH rMOST_LENGTH) ab)))))
   (ae (cS PassesOwn.never rfl (oU B.enumerate (bD bC (pv 2) bS (bv (ak bg (fw (v:=.int 200) (by rfl) gMOST_LENGTH rMOST_LENGTH) af)))) (eZ rfl (ce (bh (i:=3) scLenOf.nd rfl (.inl rfl)) (ce (bh (i:=4) scLenOf.nd rfl (.inl rfl)) eI)))
   (al (aU (aI dX (pv 4) (pv 1) (aA _)) (al (aD (pv 3))) aW)))
   (al (aD fL)))))),?_⟩
  have nbp:=T.ne hb
  refine⟨_,rfl,b,u,rfl,hb,lu,u1,?_⟩
  refine⟨_,rfl,_,_,rfl,rfl,_,rfl,?_⟩
  rw[decide_eq_false (by lia)]
  refine aY ?_
  refine⟨_,rfl,_,rfl,b,u,rfl,hb,lu,u1,ul,T,fun r S H1 hr0 hr1 st k1 T1=>?_⟩
  refine⟨b,r,u,S,200,rfl,k1 _ _ hb nbp,hr1,u1,ul,by have:=st.len;lia,by lia,st.le,fun c kk H2 hc0 hc2 hn s2=>?_⟩
  have k2:Keep pt H H2:=fun e o h n=>s2 _ _ (k1 _ _ h n)
  have T2:=T1.same s2
  refine⟨_,rfl,_,_,rfl,rfl,_,rfl,c,_,rfl,SqL.of hc2,fun q hq=>?_⟩
  have e1:aS (ac (cl S u.length kk)) none (some ((200:Int)+1))=ac ((cl S u.length kk).take 201):=jG (n:=201)
  rw[e1]
  have s3:=Same.upd (o:=.lst (ac ((cl S u.length kk).take 201))) hq
  have hq3:=ag (H:=H2) (a:=q) (o:=.lst (ac ((cl S u.length kk).take 201)))
  generalize L2.upd H2 q (.lst (ac ((cl S u.length kk).take 201)))=H3 at s3 hq3 ⊢
  have cll:((cl S u.length kk).take 201).length=201:=by rw[List.length_take,bH];lia
  refine⟨q,_,rfl,hq3,?_⟩
  refine nS (a:=q) (xs:=ac ((cl S u.length kk).take 201)) (fun i σ H4=>(∀j,j<i→((aq u j:Nat):Int)<many)∧Same H2 H4∧H4 q=some (.lst (ac ((cl S u.length kk).take 201)))∧∃v3 v4,σ=[some (.ref b),some (.int many),some (.ref c),v3,v4]) ?_ ?_ ?_ ?_
  ·exact⟨fun j hj=>absurd hj (Nat.not_lt_zero _),s3,hq3,_,_,rfl⟩
  ·rintro i σ H4 _ ⟨_,_,h4,_⟩
   exact h4
  ·rintro i v p σ H4 hv hp ⟨hbf,s4,hq4,v3,v4,rfl⟩
   obtain⟨x,hx',rfl⟩:=cB hv
   have hi:i<201:=by have:=(List.getElem?_eq_some_iff.mp hx').1;lia
   have ex:x=aq u i:=by
    rw[List.getElem?_take_of_lt hi] at hx'
    rw[←st.cn,←bw (k:=kk) (by lia),List.getD_eq_getElem?_getD,hx'];rfl
   have s5:=Same.upd (o:=.tup [V.int (i:Int),V.int (x:Int)]) hp
   have hp5:=ag (H:=H4) (a:=p) (o:=.tup [V.int (i:Int),V.int (x:Int)])
   generalize L2.upd H4 p (.tup [V.int (i:Int),V.int (x:Int)])=H5 at s5 hp5 ⊢
   refine⟨p,_,rfl,SqT.of hp5,rfl,_,_,rfl,_,_,rfl,rfl,?_⟩
   refine⟨_,rfl,_,rfl,_,_,rfl,rfl,_,rfl,?_⟩
   have s25:=s4.trans s5
   refine bJ (fun hcd=>?_) (fun hcd=>?_)
   ·have hge:=of_decide_eq_true hcd
    exact⟨_,rfl,k _ H5 (.inl ⟨i,rfl,by lia,by rw[←ex];exact hge,hbf⟩) (fun e o h n=>s25 _ _ (k2 _ _ h n)) (T2.same s25)⟩
   ·have hlt:¬((x:Int)≥many):=fun z=>hcd (decide_eq_true z)
    refine⟨fun j hj=>?_,s25,s5 _ _ hq4,_,_,rfl⟩
    by_cases z:j=i
    ·subst z;rw[←ex];lia
    ·exact hbf j (by lia)
  ·rintro σ H4 ⟨hbf,s4,hq4,v3,v4,rfl⟩
   rw[aN,cll] at hbf
   exact k _ H4 (.inr ⟨rfl,fun m hm=>hbf m (by lia)⟩) (fun e o h n=>s4 _ _ (k2 _ _ h n)) (T2.same s4)
end
abbrev gY:Stmt:=aL 27
def lG(pt:Addr):Sp:=fun vs H Q _=>∃(b a:Addr) (u ds:List Nat),vs=[.ref b,.ref a]∧H b=some (.lst (u.map sg))∧H a=some (.lst ((tx u ds).map sg))∧Low u∧Low (tx u ds)∧1≤u.length∧u.length≤400∧(tx u ds).length≤200∧(∀d∈ds,Sg u d)∧TB H pt∧
 ∀(S:List Nat) (H':Hp),Stp u S→Keep pt H H'→TB H' pt→Q (.int ((rk S u.length ds:Nat):Int)) H'
theorem iK:∀{ds:List Nat} {p i:Nat},i≤ds.length→(aE p ds)[i]?=some (p+(ds.take i).sum)
 | [],p,i,h=>by
   have:i=0:=by simpa using h
   subst this;simp[aE]
 | d::ds,p,0,_=>by simp[aE]
 | d::ds,p,i+1,h=>by
   rw[aE,List.getElem?_cons_succ,iK (by simpa using h),List.take_succ_cons,List.sum_cons,Nat.add_assoc]
theorem lz:∀{ds:List Nat} {p:Nat},(aE p ds).length=ds.length+1
 | [],_=>rfl
 | d::ds,p=>by rw[aE,List.length_cons,lz,List.length_cons]
theorem rs{S:List Nat}{d j:Nat}(hn:S.Nodup)(h:S[j]?=some d):S.take j=pre S d:=by
 have hj:=(List.getElem?_eq_some_iff.mp h).1
 refine(fI hn (q:=S.drop (j+1)) ?_).symm
 have e:=List.take_append_drop j S
 have dr:S.drop j=d::S.drop (j+1):=by
  rw[List.drop_eq_getElem_cons hj]
  congr 1
  rw[List.getElem?_eq_getElem hj] at h
  exact Option.some.inj h
 rw[←dr,e]
theorem qI{S:List Nat}{d:Nat}(h:d∈S):∃j:Nat,S[j]?=some d∧∀i:Nat,i<j→S[i]?≠some d:=by
 obtain⟨j0,hj0⟩:=List.mem_iff_getElem?.mp h
 obtain⟨j,h1,_,h2⟩:=qo (P:=fun j=>S[j]?=some d) j0 hj0
 exact⟨j,h1,h2⟩
theorem cast_at{S:List Nat}{j d:Nat}:(S.map fun(k:Nat)=>(k:Int))[j]?=some (d:Int)↔S[j]?=some d:=by
 rw[List.getElem?_map]
 cases S[j]? with
 | none=>simp
 | some x=>
   constructor
   ·intro z
    have:((x:Nat):Int)=(d:Int):=Option.some.inj z
    rw[show x=d by lia]
   ·intro z;rw[Option.some.inj z];rfl
section
variable{P:Program}{w:World}{K:PySem.W.Frag}{mg:Str→Option Value}{base:Heap}
theorem scNum:FnScope ["word","text","kind","places","steps","counts","number","before","behind","rest"] ["word","text"] (ar gY):=fsc_
theorem mf{pt:Addr}(M:Md K mg)(B:Bl mg)(F:FF K "number_of" gY)(Fcovered:Fn P w K mg base ad "covered" 5 ["text","word"] jt)(Fsingle_steps:Fn P w K mg base ad "single_steps" 6 ["word"] (dH pt))(Fcounts_by_length:Fn P w K mg base ad "counts_by_length" 1 ["word","steps","length"] dI):Fn P w K mg base ad "number_of" 7 ["word","text"] (lG pt):=by
 refine aQ M F scNum (fun _ _ _ _ _ _=>cE fun _ _=>rfl) (fun vs H Q E h=>?_) (fun f cdv A outer s H vs Q E hr h=>?_)
 ·obtain⟨b,a,u,ds,rfl,_⟩:=h;rfl
 ·obtain⟨b,a,u,ds,rfl,hb,ha,lu,lt,u1,ul,tl,hds,T,k⟩:=h
  refine⟨_,(ae (eF (am Fcovered hr ap (aa (pv 1) (aa (pv 0) ab))) (eZ rfl (ce (bh (i:=2) scNum.nd rfl (.inl rfl)) (ce (bh (i:=3) scNum.nd rfl (.inl rfl)) eI))))
   (ae (aU (aI bj (pv 2) c6 (aA _)) (al c7) aW)
   (ae (aB (i:=4) scNum.nd rfl (.inl rfl) (am Fsingle_steps hr ap (aa (pv 0) ab)))
   (ae (aB (i:=5) scNum.nd rfl (.inr rfl) (am Fcounts_by_length hr ap (aa (pv 0) (aa (pv 4) (aa (aT B.len (pv 1)) ab)))))
   (ae (aB (i:=6) scNum.nd rfl (.inl rfl) af)
   (ae (cS PassesOwn.never rfl (qR B.zip (pv 3) (bD bC (pv 3) (bv af) bS)) (eZ rfl (ce (bh (i:=7) scNum.nd rfl (.inl rfl)) (ce (bh (i:=8) scNum.nd rfl (.inl rfl)) eI)))
   (ae (aB (i:=9) scNum.nd rfl (.inr rfl) (ak a7 (aT B.len (pv 1)) (pv 7)))
   (al (gj (i:=6) scNum.nd rfl (.inl rfl) (kD rfl B.sum (cR ["word","text","kind","places","steps","counts","number","before","behind","rest"] rfl (cM (bD bC (pv 4) bS (bv (dt PySem.F.plainAttrs_list PySem.F.slot_list_index PySem.F.type_list_index ou (pv 4) (aa (ak a7 (pv 8) (pv 7)) ab))))) (fun _=>by exact fg) (fun _=>by exact(aP aO (pv 5) (ak a7 (pv 9) (pv 10)) (fun _ _=>rfl))))) jE))))
   (al (aD (pv 6))))))))),?_⟩
  have nbp:=T.ne hb
  have nap:=T.ne ha
  have txl:(tx u ds).length=u.length+ds.sum:=df fun d hd=>(hds d hd).1.2.1
  have cvb:=md (pR u1 hds)
  have lpl:=lc hds
  refine⟨_,rfl,_,rfl,a,b,tx u ds,u,rfl,ha,hb,lt,lu,by lia,by lia,by lia,u1,fun _ _ _ _ z=>absurd z (by lia),fun r q H1 hr0 hq0 s1 _ hq1 hr1=>?_⟩
  rw[lpl] at hq1
  refine⟨r,_,rfl,SqT.of hr1,rfl,_,_,rfl,_,_,rfl,rfl,?_⟩
  refine⟨_,rfl,rfl,_,rfl,?_⟩
  rw[decide_eq_false (by intro z;have:=V.str.inj z;revert this;decide)]
  refine aY ?_
  refine⟨_,rfl,b,u,rfl,s1 _ _ hb,lu,u1,ul,T.same s1,fun rr S H2 hrr0 hrr1 st k2 T2=>?_⟩
  have k02:Keep pt H H2:=fun e o h n=>k2 _ _ (s1 _ _ h) n
  have nqp:=TB.ne (T.same s1) hq1
  have hq2:=k2 _ _ hq1 nqp
  refine⟨_,rfl,_,rfl,_,rfl,a,_,rfl,SqL.of (k02 _ _ ha nap),b,rr,u,S,(tx u ds).length,by rw[List.length_map];rfl,k02 _ _ hb nbp,hrr1,u1,ul,by have:=st.len;lia,by lia,st.le,fun c kk H3 hc0 hc3 hn s3=>?_⟩
  have k03:Keep pt H H3:=fun e o h n=>s3 _ _ (k02 _ _ h n)
  have T3:=T2.same s3
  refine⟨_,rfl,_,rfl,_,rfl,q,_,rfl,SqL.of (s3 _ _ hq2),fun q1 hq1'=>?_⟩
  have e1:aS (ac (aE 0 ds)) (some (1:Int)) none=ac ((aE 0 ds).drop 1):=lP (n:=1)
  rw[e1]
  have s4:=Same.upd (o:=.lst (ac ((aE 0 ds).drop 1))) hq1'
  have hq14:=ag (H:=H3) (a:=q1) (o:=.lst (ac ((aE 0 ds).drop 1)))
  generalize L2.upd H3 q1 (.lst (ac ((aE 0 ds).drop 1)))=H4 at s4 hq14 ⊢
  have hq4:=s4 _ _ (s3 _ _ hq2)
  have k04:Keep pt H H4:=fun e o h n=>s4 _ _ (k03 _ _ h n)
  have T4:=T3.same s4
  have pl:=lz (ds:=ds) (p:=0)
  refine⟨q,q1,_,_,rfl,rfl,hq4,hq14,om (a:=q) (b:=q1) (xs:=ac (aE 0 ds)) (ys:=ac ((aE 0 ds).drop 1)) (fun i σ H5=>Same H4 H5∧∃(num:Nat) (v7 v8 v9:Option V),num+rk S u.length (ds.drop i)=rk S u.length ds∧σ=[some (.ref b),some (.ref a),some (.str "covers"),some (.ref q),some (.ref rr),some (.ref c),some (.int (num:Int)),v7,v8,v9]) ?_ ?_ ?_ ?_⟩
  ·exact⟨fun _ _ h=>h,0,_,_,_,by simp,rfl⟩
  ·rintro i σ H5 _ ⟨s5,_⟩
   exact⟨s5 _ _ hq4,s5 _ _ hq14⟩
  ·rintro i x' y' p σ H5 hx' hy' hp ⟨s5,num,v7,v8,v9,hnum,rfl⟩
   obtain⟨z1,hz1,rfl⟩:=cB hx'
   obtain⟨z2,hz2,rfl⟩:=cB hy'
   rw[List.getElem?_drop,show 1+i=i+1 by lia] at hz2
   have hi:i<ds.length:=by have:=(List.getElem?_eq_some_iff.mp hz2).1;lia
   rw[iK (by lia)] at hz1 hz2
   have e1:z1=(ds.take i).sum:=by have:=Option.some.inj hz1;lia
   obtain⟨d,hd⟩:∃d,ds[i]?=some d:=⟨ds[i],by simp[hi]⟩
   have e2:z2=(ds.take i).sum+d:=by
    have:=Option.some.inj hz2
    rw[fQ hd,List.sum_append] at this
    simp at this;lia
   have dS:d∈S:=st.mem.mpr (hds d (List.mem_of_getElem? hd))
   have dr:ds.drop i=d::ds.drop (i+1):=by
    rw[List.drop_eq_getElem_cons hi]
    congr 1
    rw[List.getElem?_eq_getElem hi] at hd
    exact Option.some.inj hd
   have hsum:(ds.take i).sum+(d+(ds.drop (i+1)).sum)=ds.sum:=by
    rw[←List.sum_cons,←dr,←List.sum_append,List.take_append_drop]
   rw[dr,rk] at hnum
   have s6:=Same.upd (o:=.tup [V.int (z1:Int),V.int (z2:Int)]) hp
   have hp6:=ag (H:=H5) (a:=p) (o:=.tup [V.int (z1:Int),V.int (z2:Int)])
   generalize L2.upd H5 p (.tup [V.int (z1:Int),V.int (z2:Int)])=H6 at s6 hp6 ⊢
   have s46:=s5.trans s6
   have k06:Keep pt H H6:=fun e o h n=>s46 _ _ (k04 _ _ h n)
   refine⟨p,_,rfl,SqT.of hp6,rfl,_,_,rfl,_,_,rfl,rfl,?_⟩
   refine⟨_,rfl,a,_,rfl,SqL.of (k06 _ _ ha nap),_,rfl,_,_,rfl,rfl,?_⟩
   refine ko (j:=((u.length+(d+(ds.drop (i+1)).sum):Nat):Int)) (congrArg V.int (by rw[List.length_map,txl];lia)) ?_
   obtain⟨j,hj1,hj2⟩:=qI dS
   have hjl:=(List.getElem?_eq_some_iff.mp hj1).1
   have hrr6:=s46 _ _ (s4 _ _ (s3 _ _ hrr1))
   have hc6:=s46 _ _ (s4 _ _ hc3)
   refine⟨_,rfl,_,rfl,_,rfl,.inl ⟨rfl,_,SqL.of hrr6⟩,_,rfl,_,rfl,_,_,rfl,rfl,rr,S.map (fun(k:Nat)=>(k:Int)),(d:Int),j,rfl,by show [V.int ((z2:Int)-(z1:Int))]=[V.int (d:Int)];rw[show((z2:Int)-(z1:Int))=(d:Int) by lia],hrr6,cast_at.mpr hj1,fun i' hi' z=>hj2 i' hi' (cast_at.mp z),_,rfl,rr,_,rfl,SqL.of hrr6,fun q2 hq2=>?_⟩
   have e3:aS (ac S) none (some (j:Int))=ac (S.take j):=jG
   rw[e3]
   have s7:=Same.upd (o:=.lst (ac (S.take j))) hq2
   have hq27:=ag (H:=H6) (a:=q2) (o:=.lst (ac (S.take j)))
   generalize L2.upd H6 q2 (.lst (ac (S.take j)))=H7 at s7 hq27 ⊢
   have hc7:=s7 _ _ hc6
   have stl:=st.len
   have tjl:(S.take j).length=j:=by rw[List.length_take];lia
   refine⟨q2,rfl,⟨_,SqL.of hq27⟩,fun D hD cb=>?_⟩
   refine eV (K:=K) (a:=q2) (xs:=ac (S.take j)) (fun i' ys H8=>ys=ac (((S.take j).take i').map fun s=>(cl S u.length kk).getD (u.length+(d+(ds.drop (i+1)).sum)-s) 0)∧Same H7 H8∧H8 D=some (.lst ys)) (by rw[aN,tjl];exact bi (by lia)) ?_ ?_ ?_ ?_ ?_
   ·exact⟨rfl,Same.upd hD,ag⟩
   ·rintro i' ys H8 ⟨rfl,_⟩
    rw[aN,List.length_map,List.length_take];lia
   ·rintro i' ys H8 _ ⟨_,s8,_⟩;exact SqL.of (s8 _ _ hq27)
   ·rintro i' x8 ys H8 hx8 ⟨rfl,s8,hD8⟩
    obtain⟨e,he,rfl⟩:=cB hx8
    obtain⟨e5,e6⟩:=st.le e (List.mem_of_mem_take (List.mem_of_getElem? he))
    have hc8:=s8 _ _ hc7
    have hat:aX (ac (cl S u.length kk)) (((u.length+(d+(ds.drop (i+1)).sum):Nat):Int)-(e:Int))=some (.int (((cl S u.length kk).getD (u.length+(d+(ds.drop (i+1)).sum)-e) 0:Nat):Int)):=by
     rw[show(((u.length+(d+(ds.drop (i+1)).sum):Nat):Int)-(e:Int))=((u.length+(d+(ds.drop (i+1)).sum)-e:Nat):Int) by lia]
     exact cI (by rw[bH];lia)
    refine eh ⟨_,rfl,_,rfl,_,rfl,_,_,rfl,rfl,c,_,_,_,rfl,rfl,SqL.of hc8,hat,hD8,?_,fun e o' z=>by rw[ao (aK z hD)];exact s8 _ _ z,ag⟩
    rw[ie he,cC]
   ·rintro ys H8 ⟨rfl,s8,hD8⟩
    rw[aN,List.take_length,rs st.nodup hj1] at hD8
    refine⟨D,_,rfl,hD8,_,_,rfl,rfl,fun e o h=>s8 _ _ (s7 _ _ (s46 _ _ h)),num+((pre S d).map fun s=>(cl S u.length kk).getD (u.length+(d+(ds.drop (i+1)).sum)-s) 0).sum,some (.int (z1:Int)),some (.int (z2:Int)),some (.int ((u.length+(d+(ds.drop (i+1)).sum):Nat):Int)),?_,?_⟩
    ·rw[←hnum]
     have:((pre S d).map fun s=>(cl S u.length kk).getD (u.length+(d+(ds.drop (i+1)).sum)-s) 0).sum=((pre S d).map fun s=>cn S u.length (u.length+(d+(ds.drop (i+1)).sum)-s)).sum:=de fun y _=>bw (by lia)
     lia
    ·rw[lw];rfl
  ·rintro σ H5 ⟨s5,num,v7,v8,v9,hnum,rfl⟩
   have e0:ds.drop (min (ac (aE 0 ds)).length (ac ((aE 0 ds).drop 1)).length)=[]:=by
    rw[aN,aN,List.length_drop,pl]
    exact List.drop_eq_nil_of_le (by lia)
   rw[e0] at hnum
   have en:num=rk S u.length ds:=by simpa [rk] using hnum
   subst en
   exact⟨_,rfl,k S H5 st (fun e o h n=>s5 _ _ (k04 _ _ h n)) (T4.same s5)⟩
end
theorem per_get{u:List Nat}{d:Nat}:aR u d↔1≤d∧d≤u.length∧∀q,q<u.length-d→u[d+q]?=u[q]?:=by
 constructor
 ·rintro⟨h1,h2,h3⟩
  refine⟨h1,h2,fun q hq=>?_⟩
  have:=congrArg (fun l=>l[q]?) h3
  simp only[List.getElem?_drop,List.getElem?_take_of_lt hq] at this
  exact this
 ·rintro⟨h1,h2,h3⟩
  refine⟨h1,h2,List.ext_getElem? fun q=>?_⟩
  rw[List.getElem?_drop]
  by_cases hq:q<u.length-d
  ·rw[List.getElem?_take_of_lt hq];exact h3 q hq
  ·rw[List.getElem?_eq_none (by lia),List.getElem?_eq_none (by rw[List.length_take];lia)]
theorem ml{u:List Nat}{k d:Nat}(hk:aR u k)(hd:aR u d)(hkd:k<d)(hr:aR u (d-k)):Oc u (u.take d++u) k:=by
 obtain⟨k1,k2,k3⟩:=per_get.mp hk
 obtain⟨d1,d2,d3⟩:=per_get.mp hd
 obtain⟨r1,r2,r3⟩:=per_get.mp hr
 rw[oc_iff]
 have tl:(u.take d).length=d:=by rw[List.length_take];lia
 refine⟨by rw[List.length_append,tl];lia,List.ext_getElem? fun i=>?_⟩
 by_cases hi:i<u.length
 ·rw[List.getElem?_take_of_lt hi,List.getElem?_drop]
  by_cases h:k+i<d
  ·rw[List.getElem?_append_left (by rw[tl];exact h),List.getElem?_take_of_lt h,k3 i (by lia)]
  ·rw[List.getElem?_append_right (by rw[tl];lia),tl]
   have:=r3 (k+i-d) (by lia)
   rw[←this]
   congr 1
   lia
 ·rw[List.getElem?_eq_none (l:=u) (by lia),List.getElem?_eq_none (by rw[List.length_take];lia)]
theorem iI{u:List Nat}{k:Nat}(hk:aR u k):Oc u (u.take k++u) 0:=by
 rw[cL hk]
 exact⟨[],av u k,rfl,rfl⟩
theorem gE{u:List Nat}{k:Nat}(hk:aR u k)(h:∀d,aR u d→d≠k→k<d∧aR u (d-k))(d:Nat):Sg u d↔d=k:=by
 constructor
 ·rintro⟨hd,no⟩
  by_cases e:d=k
  ·exact e
  ·obtain⟨h1,h2⟩:=h d hd e
   exact absurd (ml hk hd h1 h2) (no k hk.1 h1)
 ·rintro rfl
  refine⟨hk,fun j j1 j2 oc=>?_⟩
  have hj:=(kx j1 (by have:=hk.2.1;lia) (iI hk) oc).1
  have:=(h j hj (by lia)).1
  lia
theorem jv{u S:List Nat}{k:Nat}(hg:∀d,Sg u d↔d=k)(st:Stp u S):S=[k]:=by
 have:S.Perm [k]:=jf st.nodup (by simp) fun x=>by rw[st.mem,hg];simp
 exact List.perm_singleton.mp this
theorem j8{L k:Nat}(k1:1≤k)(kL:k≤L):∀(m n:Nat),n≤m→cn [k] L n=if L≤n∧(n-L) % k=0 then 1 else 0
 | 0,n,h=>by rw[cq (by lia),if_neg (by lia)]
 | m+1,n,h=>by
   rcases Nat.lt_trichotomy n L with h1 | h1 | h1
   ·rw[cq h1,if_neg (by lia)]
   ·subst h1
    rw[cQ,if_pos ⟨Nat.le_refl _,by simp⟩]
   ·rw[cV (fun d hd=>by rw[List.mem_singleton.mp hd];exact k1) h1]
    simp only[List.map_cons,List.map_nil,List.sum_cons,List.sum_nil,Nat.add_zero]
    rw[j8 k1 kL m (n-k) (by lia)]
    by_cases h2:L≤n-k
    ·have e:(n-k-L) % k=(n-L) % k:=by
      rw[show n-L=(n-k-L)+k by lia,Nat.add_mod_right]
     rw[e]
     by_cases h3:(n-L) % k=0
     ·rw[if_pos ⟨h2,h3⟩,if_pos ⟨by lia,h3⟩]
     ·rw[if_neg fun z=>h3 z.2,if_neg fun z=>h3 z.2]
    ·have h3:(n-L) % k≠0:=by rw[Nat.mod_eq_of_lt (by lia)];lia
     rw[if_neg fun z=>h2 z.1,if_neg fun z=>h3 z.2]
theorem gr(u:List Nat):∃S,Stp u S:=by
 refine⟨(bR u).mergeSort fun a b=>!au (aj (av u b)) (aj (av u a)),List.mergeSort_perm _ _,?_⟩
 have h:=List.pairwise_mergeSort (le:=fun a b=>!au (aj (av u b)) (aj (av u a))) (fun a b c h1 h2=>?_) (fun a b=>?_) (bR u)
 ·exact h.imp fun h=>by simpa using h
 ·cases q:au (aj (av u c)) (aj (av u a)) with
  | false=>rfl
  | true=>
    rcases gB (aj (av u c)) (aj (av u b)) with z | z | z
    ·rw[z] at h2;cases h2
    ·rw[←z,q] at h1;cases h1
    ·have:=dF z q
     rw[this] at h1;cases h1
 ·cases q:au (aj (av u b)) (aj (av u a)) with
  | false=>rfl
  | true=>
    cases q2:au (aj (av u a)) (aj (av u b)) with
    | false=>rfl
    | true=>
      have:=dF q q2
      rw[ip] at this;cases this
theorem fB{u:List Nat}{k:Nat}(hg:∀d,Sg u d↔d=k)(n:Nat):aq u n=if u.length≤n∧(n-u.length) % k=0 then 1 else 0:=by
 have hk:=((hg k).mpr rfl).1
 obtain⟨S,st⟩:=gr u
 rw[←st.cn,jv hg st]
 exact j8 hk.1 hk.2.1 n n (Nat.le_refl _)
theorem qv(k:Nat):pre [k] k=[]:=by simp[pre]
theorem ja{k L:Nat}:∀j,rk [k] L (List.replicate j k)=0
 | 0=>rfl
 | j+1=>by rw[List.replicate_succ,rk,qv,ja j];rfl
theorem gC{u ds:List Nat}{k n:Nat}(hg:∀d,Sg u d↔d=k)(h:∀d∈ds,Sg u d)(hs:u.length+ds.sum=n):ds=List.replicate ds.length k∧u.length+ds.length*k=n:=by
 have e:ds=List.replicate ds.length k:=List.eq_replicate_iff.mpr ⟨rfl,fun d hd=>(hg d).mp (h d hd)⟩
 refine⟨e,?_⟩
 rw[←hs]
 conv=>rhs;rw[e]
 rw[List.sum_replicate_nat]
theorem per_one{m c d:Nat}:aR (List.replicate m c) d↔1≤d∧d≤m:=by
 rw[per_get,List.length_replicate]
 refine⟨fun h=>⟨h.1,h.2.1⟩,fun h=>⟨h.1,h.2,fun q hq=>?_⟩⟩
 simp[show d+q<m by lia,show q<m by lia]
theorem on{m c:Nat}(m1:1≤m)(d:Nat):Sg (List.replicate m c) d↔d=1:=
 gE (per_one.mpr ⟨Nat.le_refl _,m1⟩) (fun d hd ne=>by have:=per_one.mp hd;exact⟨by lia,per_one.mpr ⟨by lia,by lia⟩⟩) d
theorem km{m c:Nat}(m1:1≤m):∀j,tx (List.replicate m c) (List.replicate j 1)=List.replicate (m+j) c
 | 0=>rfl
 | j+1=>by
   rw[List.replicate_succ,tx,km m1 j,List.take_replicate,show min 1 m=1 by lia,List.replicate_append_replicate]
   congr 1
   lia
theorem kj{k b c i:Nat}(hi:i<k+1):(b::List.replicate k c)[i]?=some (if i=0 then b else c):=by
 cases i with
 | zero=>rfl
 | succ i=>rw[List.getElem?_cons_succ];simp[show i<k by lia]
theorem jo{k b c d:Nat}(h:b≠c):aR (b::List.replicate k c) d↔d=k+1:=by
 have hl:(b::List.replicate k c).length=k+1:=by simp
 rw[per_get,hl]
 constructor
 ·rintro⟨h1,h2,h3⟩
  by_cases e:d=k+1
  ·exact e
  ·have:=h3 0 (by lia)
   rw[kj (by lia),kj (by lia),if_neg (by lia),if_pos rfl] at this
   exact absurd (Option.some.inj this).symm h
 ·rintro rfl
  exact⟨by lia,Nat.le_refl _,fun q hq=>by lia⟩
theorem oB{k b c:Nat}(h:b≠c)(d:Nat):Sg (b::List.replicate k c) d↔d=k+1:=
 gE ((jo h).mpr rfl) (fun d hd ne=>absurd ((jo h).mp hd) ne) d
theorem jS{u:List Nat}:∀j,tx u (List.replicate j u.length)=(List.replicate (j+1) u).flatten
 | 0=>by simp[tx]
 | j+1=>by rw[List.replicate_succ,tx,jS j,List.take_length,List.replicate_succ (n:=j+1),List.flatten_cons]
def turn(x y n:Nat):List Nat:=(List.replicate n [x,y]).flatten
theorem c9(x y n:Nat):turn x y (n+1)=x::y::turn x y n:=by unfold turn;rw[List.replicate_succ,List.flatten_cons];rfl
theorem gL(x y:Nat):∀n,(turn x y n).length=2*n
 | 0=>rfl
 | n+1=>by rw[c9,List.length_cons,List.length_cons,gL x y n];lia
theorem dg(x y:Nat):∀{n i:Nat},i<2*n→(turn x y n)[i]?=some (if i % 2=0 then x else y)
 | 0,i,h=>by lia
 | n+1,0,h=>by rw[c9];rfl
 | n+1,1,h=>by rw[c9];rfl
 | n+1,i+2,h=>by
   rw[c9,List.getElem?_cons_succ,List.getElem?_cons_succ,dg x y (by lia)]
   congr 1
   rw[show(i+2) % 2=i % 2 by lia]
theorem gM{x y n d:Nat}(h:x≠y):aR (turn x y n) d↔1≤d∧d≤2*n∧d % 2=0:=by
 rw[per_get,gL]
 constructor
 ·rintro⟨h1,h2,h3⟩
  refine⟨h1,h2,?_⟩
  by_cases e:d % 2=0
  ·exact e
  ·have:=h3 0 (by lia)
   rw[dg x y (by lia),dg x y (by lia),Nat.add_zero,if_neg e,if_pos rfl] at this
   exact absurd (Option.some.inj this).symm h
 ·rintro⟨h1,h2,h3⟩
  refine⟨h1,h2,fun q hq=>?_⟩
  rw[dg x y (by lia),dg x y (by lia),show(d+q) % 2=q % 2 by lia]
theorem oa{x y n:Nat}(h:x≠y)(n1:1≤n)(d:Nat):Sg (turn x y n) d↔d=2:=
 gE ((gM h).mpr ⟨by lia,by lia,rfl⟩) (fun d hd ne=>by have:=(gM h).mp hd;exact⟨by lia,(gM h).mpr ⟨by lia,by lia,by lia⟩⟩) d
theorem kt{x y n:Nat}(n1:1≤n):∀j,tx (turn x y n) (List.replicate j 2)=turn x y (n+j)
 | 0=>rfl
 | j+1=>by
   obtain⟨m,rfl⟩:∃m,n=m+1:=⟨n-1,by lia⟩
   rw[List.replicate_succ,tx,kt n1 j,show m+1+(j+1)=(m+1+j)+1 by lia,c9 x y (m+1+j),c9 x y m]
   rfl
theorem fj{x y d:Nat}(h:x≠y):aR [x,y,x] d↔d=2∨d=3:=by
 unfold aR
 constructor
 ·rintro⟨h1,h2,h3⟩
  have h2':d≤3:=h2
  have:d=1∨d=2∨d=3:=by lia
  rcases this with rfl | rfl | rfl
  ·simp at h3;exact absurd h3.1.symm h
  ·exact .inl rfl
  ·exact .inr rfl
 ·rintro(rfl | rfl) <;> simp
theorem ku{x y:Nat}(h:x≠y)(d:Nat):Sg [x,y,x] d↔d=2∨d=3:=by
 constructor
 ·exact fun z=>(fj h).mp z.1
 ·intro z
  have hd:=(fj h).mpr z
  refine⟨hd,fun j j1 j2 oc=>?_⟩
  have hj:=(fj h).mp (kx j1 (by have:=hd.2.1;lia) (iI hd) oc).1
  have e:d=3∧j=2:=by lia
  obtain⟨rfl,rfl⟩:=e
  obtain⟨_,q⟩:=oc_iff.mp oc
  simp at q
  exact h q.1
theorem eJ{x y:Nat}(h:x≠y){S:List Nat}(st:Stp [x,y,x] S):S=if y<x then [2,3] else [3,2]:=by
 have pm:S.Perm [2,3]:=jf st.nodup (by simp) fun d=>by rw[st.mem,ku h];simp
 have l2:au (aj (av [x,y,x] 2)) (aj (av [x,y,x] 3))=decide (y<x):=by
  show(if(y:Int)=(x:Int) then _ else decide ((y:Int)<(x:Int)))=_
  rw[if_neg (by lia)]
  exact decide_eq_decide.mpr (by lia)
 have l3:au (aj (av [x,y,x] 3)) (aj (av [x,y,x] 2))=decide (x<y):=by
  show(if(x:Int)=(y:Int) then _ else decide ((x:Int)<(y:Int)))=_
  rw[if_neg (by lia)]
  exact decide_eq_decide.mpr (by lia)
 have two:S=[2,3]∨S=[3,2]:=by
  have len:=pm.length_eq
  match S,len with
  | [a,b],_=>
    have ha:=pm.mem_iff (a:=a)
    have hb:=pm.mem_iff (a:=b)
    have nd:=st.nodup
    simp at ha hb nd
    rcases ha with rfl | rfl <;> rcases hb with rfl | rfl <;> simp at nd ⊢
 have key:=st.key
 rcases two with e | e
 ·rw[e] at key ⊢
  have:=(List.pairwise_cons.mp key).1 3 (by simp)
  rw[l3] at this
  have:=of_decide_eq_false this
  rw[if_pos (by lia)]
 ·rw[e] at key ⊢
  have:=(List.pairwise_cons.mp key).1 2 (by simp)
  rw[l2] at this
  have:=of_decide_eq_false this
  rw[if_neg (by lia)]
theorem m5{S:List Nat}(hS:S=[2,3]∨S=[3,2]){n:Nat}(h:3<n):cn S 3 n=cn S 3 (n-2)+cn S 3 (n-3):=by
 rw[cV (fun d hd=>by rcases hS with e | e <;> (rw[e] at hd;simp at hd;lia)) h]
 rcases hS with e | e
 ·rw[e];simp
 ·rw[e];simp;lia
theorem j7{x y n:Nat}(h:x≠y)(hn:3<n):aq [x,y,x] n=aq [x,y,x] (n-2)+aq [x,y,x] (n-3):=by
 obtain⟨S,st⟩:=gr [x,y,x]
 have two:S=[2,3]∨S=[3,2]:=by
  rw[eJ h st]
  by_cases q:y<x
  ·rw[if_pos q];exact .inl rfl
  ·rw[if_neg q];exact .inr rfl
 rw[←st.cn,←st.cn,←st.cn]
 exact m5 two hn
theorem cO{u:List Nat}{n:Nat}(h:n<u.length):aq u n=0:=cq h
theorem fG(u:List Nat):aq u u.length=1:=cQ
theorem lq{x y:Nat}(h:x≠y):aq [x,y,x] 4=0:=by
 rw[j7 h (by lia),cO (by show 4-2<3;lia),cO (by show 4-3<3;lia)]
theorem pQ{x y:Nat}(h:x≠y){S:List Nat}(st:Stp [x,y,x] S){d:Nat}{fs:List Nat}(hd:d=2∨d=3)(two:d=2↔(d+fs.sum=2∨(3<d+fs.sum∧(y<x∨d+fs.sum=4)))):rk S 3 (d::fs)=rk S 3 fs:=by
 have e:=eJ h st
 have c4:cn S 3 4=0:=(st.cn 4).trans (lq h)
 have lo:∀n,n<3→cn S 3 n=0:=fun n hn=>cq hn
 rw[rk]
 by_cases q:y<x
 ·rw[if_pos q] at e
  rcases hd with rfl | rfl
  ·have:pre S 2=[]:=by rw[e];rfl
   rw[this];simp
  ·have:pre S 3=[2]:=by rw[e];rfl
   rw[this]
   simp only[List.map_cons,List.map_nil,List.sum_cons,List.sum_nil]
   have:fs.sum=0:=by lia
   rw[this,show 3+(3+0)-2=4 by lia,c4];lia
 ·rw[if_neg q] at e
  rcases hd with rfl | rfl
  ·have:pre S 2=[3]:=by rw[e];rfl
   rw[this]
   simp only[List.map_cons,List.map_nil,List.sum_cons,List.sum_nil]
   have:=two.mp rfl
   have hz:fs.sum=0∨fs.sum=2:=by lia
   rcases hz with hz | hz
   ·rw[hz,show 3+(2+0)-3=2 by lia,lo 2 (by lia)];lia
   ·rw[hz,show 3+(2+2)-3=4 by lia,c4];lia
  ·have:pre S 3=[]:=by rw[e];rfl
   rw[this];simp
structure KT(pt:Addr)(H H':Hp):Prop where
 k:Keep pt H H'
 t:TB H' pt
theorem KT.trans{pt:Addr}{H H1 H2:Hp}(a:KT pt H H1)(b:KT pt H1 H2):KT pt H H2:=⟨fun x o h n=>b.k _ _ (a.k _ _ h n) n,b.t⟩
theorem KT.same{pt:Addr}{H H1 H2:Hp}(a:KT pt H H1)(s:Same H1 H2):KT pt H H2:=⟨fun x o h n=>s _ _ (a.k _ _ h n),a.t.same s⟩
theorem KT.to{pt:Addr}{H H1 H2:Hp}(a:KT pt H H1)(k:Keep pt H1 H2)(t:TB H2 pt):KT pt H H2:=⟨fun x o h n=>k _ _ (a.k _ _ h n) n,t⟩
theorem KT.refl{pt:Addr}{H:Hp}(t:TB H pt):KT pt H H:=⟨fun _ _ h _=>h,t⟩
theorem cK{c:TT}{t aw:TS}{D:Ends}{σ:St}{H:Hp}(T:Hp→Prop)(h:∀R:Bool→Hp→Prop,(∀H',T H'→R false H')→c σ H R)(q:∀H',T H'→aw D σ H'):d8 (ic c t fe) aw D σ H:=h (fun b H1=>if b=true then _ else _) fun H' s'=>aY (q H' s')
theorem eA{c d:TT}{σ:St}{H:Hp}{R:Bool→Hp→Prop}(T:Hp→Prop)(h:∀Q:Bool→Hp→Prop,(∀H',T H'→Q false H')→c σ H Q)(g:∀H',T H'→d σ H' R):j3 c d σ H R:=h (fun b H1=>if b=true then _ else _) fun H' s'=>aY (g H' s')
theorem a8{te:TE}{i:Nat}{aw:TS}{D:Ends}{σ:St}{H:Hp}(h:te σ H fun x H1=>aw D (σ.set i (some x)) H1):d8 (dM te (cr i)) aw D σ H:=h
theorem nN(c m:Nat):(List.replicate (m:Int).toNat [sg c]).flatten=(List.replicate m c).map sg:=by
 rw[Int.toNat_natCast]
 induction m with
 | zero=>rfl
 | succ m ih=>rw[List.replicate_succ,List.flatten_cons,ih,List.replicate_succ,List.map_cons];rfl
theorem g6{c:Nat}(h1:97≤c)(h2:c≤122)(m:Nat):Low (List.replicate m c):=fun d hd=>by
 have:=List.eq_of_mem_replicate hd
 lia
theorem kH{u:List Nat}{many:Int}{v:V}(h:eB u many v)(hc:∀n,((aq u n:Nat):Int)<many):v=.non:=by
 rcases h with⟨n,_,_,h1,_⟩ | ⟨h,_⟩
 ·have:=hc n;lia
 ·exact h
theorem oJ{u:List Nat}{v:V}(h:eB u 1 v)(hu:u.length≤200):v=.int (u.length:Int):=by
 rcases h with⟨n,rfl,n2,h1,h3⟩ | ⟨_,h⟩
 ·by_cases q:n<u.length
  ·rw[cO q] at h1;exact absurd h1 (by decide)
  ·by_cases e:n=u.length
   ·rw[e]
   ·have:=h3 u.length (by lia)
    rw[fG] at this
    exact absurd this (by decide)
 ·have:=h u.length hu
  rw[fG] at this
  exact absurd this (by decide)
theorem pc{H:Hp}{a:Nat}{b:Bool}{R:Bool→Hp→Prop}(h:(a:Int)=if b then 1 else 0)(r:R false H):∃k,V.bl (!decide (V.int (a:Int)=V.int (if b then 1 else 0)))=V.bl k∧R k H:=⟨false,by rw[decide_eq_true (by rw[h])];rfl,r⟩
theorem fu{H:Hp}{v:V}{R:Bool→Hp→Prop}(r:R false H):∃k,V.bl (!decide (v=v))=V.bl k∧R k H:=⟨false,by rw[decide_eq_true rfl];rfl,r⟩
theorem dW{σ:St}{H:Hp}{i j c n:Nat}{Q:VK}(hi:σ[i]?=some (some (sg c)))(hj:σ[j]?=some (some (.int (n:Int))))(hn:n≤900)(k:∀(r:Addr) (H':Hp),H r=none→H' r=some (.lst ((List.replicate n c).map sg))→Same H H'→Q (.ref r) H'):cN je (fV (fY (cx i) gZ)) (cx j) σ H Q:=by
 refine⟨_,hi,by show 1≤sizeLine;decide,fun l0 hl0=>?_⟩
 have s0:=Same.upd (o:=.lst [sg c]) hl0
 have hl1:=ag (H:=H) (a:=l0) (o:=.lst [sg c])
 refine⟨_,hj,l0,_,_,rfl,rfl,hl1,by lia,by lia,by show 1*((n:Int).toNat)≤sizeLine;rw[Int.toNat_natCast];exact sz (by lia),fun wd hwd=>?_⟩
 rw[nN]
 exact k wd _ (s0.free hwd) ag (s0.trans (Same.upd hwd))
abbrev ii:Stmt:=aL 34
def jK(pt:Addr):Sp:=fun vs H Q _=>∃(c m n:Nat),vs=[sg c,.int (m:Int),.int (n:Int)]∧97≤c∧c≤122∧1≤m∧m≤99∧1≤n∧n≤200∧TB H pt∧∀H',KT pt H H'→Q (.bl true) H'
section
variable{P:Program}{w:World}{K:PySem.W.Frag}{mg:Str→Option Value}{base:Heap}
theorem scOne:FnScope ["sign","size","length","word"] ["sign","size","length"] (ar ii):=fsc_
theorem pF{pt:Addr}(M:Md K mg)(B:Bl mg)(F:FF K "_law_one_right" ii)(Fcount_covered:Fn P w K mg base ad "count_covered" 7 ["word","length"] (dv pt))(Flength_of:Fn P w K mg base ad "length_of" 7 ["word","many"] (dR pt))(Ftext_at:Fn P w K mg base ad "text_at" 7 ["word","length","number"] (dQ pt))(Fnumber_of:Fn P w K mg base ad "number_of" 7 ["word","text"] (lG pt)):Fn P w K mg base ad "_law_one_right" 8 ["sign","size","length"] (jK pt):=by
 refine aQ M F scOne (fun _ _ _ _ _ _=>dj fun _ _ _=>rfl) (fun vs H Q E h=>?_) (fun f cdv A outer s H vs Q E hr h=>?_)
 ·obtain⟨c,m,n,rfl,_⟩:=h;rfl
 ·obtain⟨c,m,n,rfl,c1,c2,m1,m2,n1,n2,T,k⟩:=h
  refine⟨_,(ae (aB (i:=3) scOne.nd rfl (.inl rfl) (ak cJ (a6 (aa (pv 0) ab)) (pv 1)))
   (ae (aU (PW.pt (eG (aI dG (am Fcount_covered hr ap (aa (pv 3) (aa (pv 2) ab))) (ft B.int (a9 dX (pv 2) (pv 1) (aA _))) (aA _)) (d6 (aI kq (am Flength_of hr ap (aa (pv 3) (aa af ab))) fL (aA _))))) (al (aD bu)) aW)
   (ae (aU (aI dG (am Flength_of hr ap (aa (pv 3) (aa af ab))) (pv 1) (aA _)) (al (aD bu)) aW)
   (ae (aU (aI dJ (pv 2) (pv 1) (aA _)) (al (aD bu)) aW)
   (al (aD (dz (a9 (dq (by exact hr)) (am Ftext_at hr ap (aa (pv 3) (aa (pv 2) (aa af ab)))) (ak cJ (a6 (aa (pv 0) ab)) (pv 2)) (aA _)) (bY (a9 bj (am Fnumber_of hr ap (aa (pv 3) (aa (ak cJ (a6 (aa (pv 0) ab)) (pv 2)) ab))) af (aA _)))))))))),?_⟩
  refine a8 (dW rfl rfl (by lia) fun wd H1 wd0 hw1 s1=>?_)
  have K1:=(KT.refl T).same s1
  have lu:=g6 c1 c2 m
  have ul:(List.replicate m c).length=m:=List.length_replicate
  have hg:=on (c:=c) m1
  obtain⟨u,hu⟩:∃u,u=List.replicate m c:=⟨_,rfl⟩
  rw[←hu] at hw1 lu ul hg
  have hcnt:∀n,aq u n=if m≤n then 1 else 0:=fun n=>by
   rw[fB hg n,ul,Nat.mod_one]
   by_cases q:m≤n
   ·rw[if_pos ⟨q,rfl⟩,if_pos q]
   ·rw[if_neg fun z=>q z.1,if_neg q]
  have hle:∀n,((aq u n:Nat):Int)<2:=fun n=>by
   rw[hcnt];split <;> decide
  refine cK (fun H'=>KT pt H H'∧H' wd=some (.lst (u.map sg))) (fun R hR=>?_) ?_
  ·refine eA (fun H'=>KT pt H H'∧H' wd=some (.lst (u.map sg))) (fun R' hR'=>?_) ?_
   ·refine⟨_,rfl,_,rfl,wd,u,n,rfl,hw1,lu,by lia,by lia,n1,n2,K1.t,fun H2 k2 T2=>?_⟩
    refine⟨_,rfl,_,rfl,_,_,rfl,rfl,_,rfl,rfl,pc ?_ (hR' _ ⟨K1.to k2 T2,k2 _ _ hw1 (K1.t.ne hw1)⟩)⟩
    rw[hcnt]
    by_cases q:m≤n
    ·rw[decide_eq_true (show(m:Int)≤(n:Int) by lia),if_pos q];rfl
    ·rw[decide_eq_false (show¬(m:Int)≤(n:Int) by lia),if_neg q];rfl
   ·rintro H2 ⟨K2,hw2⟩
    refine⟨_,rfl,wd,u,2,rfl,hw2,lu,by lia,by lia,by decide,K2.t,fun v H3 hv k3 T3=>?_⟩
    rw[kH hv hle]
    exact⟨rfl,false,rfl,hR _ ⟨K2.to k3 T3,k3 _ _ hw2 (K2.t.ne hw2)⟩⟩
  ·rintro H2 ⟨K2,hw2⟩
   refine cK (fun H'=>KT pt H H'∧H' wd=some (.lst (u.map sg))) (fun R hR=>?_) ?_
   ·refine⟨_,rfl,wd,u,1,rfl,hw2,lu,by lia,by lia,by decide,K2.t,fun v H3 hv k3 T3=>?_⟩
    rw[oJ hv (by lia),ul]
    exact⟨_,rfl,rfl,fu (hR _ ⟨K2.to k3 T3,k3 _ _ hw2 (K2.t.ne hw2)⟩)⟩
   ·rintro H3 ⟨K3,hw3⟩
    by_cases q:n<m
    ·refine⟨_,rfl,_,rfl,_,_,rfl,rfl,_,rfl,?_⟩
     rw[decide_eq_true (show(n:Int)<(m:Int) by lia)]
     exact bc (k _ K3)
    ·refine⟨_,rfl,_,rfl,_,_,rfl,rfl,_,rfl,?_⟩
     rw[decide_eq_false (show¬(n:Int)<(m:Int) by lia)]
     refine aY ?_
     have txe:∀ds:List Nat,(∀d∈ds,Sg u d)→u.length+ds.sum=n→tx u ds=List.replicate n c∧ds=List.replicate ds.length 1:=fun ds h1 h2=>by
      obtain⟨e1,e2⟩:=gC hg h1 h2
      refine⟨?_,e1⟩
      rw[e1,hu,km m1]
      congr 1
      lia
     refine⟨_,rfl,_,rfl,wd,u,n,0,rfl,hw3,lu,by lia,by lia,n1,n2,by rw[hcnt,if_pos (by lia)];decide,K3.t,fun r S ds H4 r0 st hds hs hrk hr4 k4 T4=>?_⟩
     have hSg:∀d∈ds,Sg u d:=fun d hd=>st.mem.mp (hds d hd)
     obtain⟨et,ed⟩:=txe ds hSg hs
     have K4:=K3.to k4 T4
     have hw4:=k4 _ _ hw3 (K3.t.ne hw3)
     refine dW rfl rfl (by lia) fun tt H5 tt0 htt s5=>?_
     have ln:=g6 c1 c2 n
     refine⟨r,tt,tx u ds,List.replicate n c,rfl,rfl,SqL.of (s5 _ _ hr4),SqL.of htt,by rw[et];exact ln.cp,ln.cp,true,?_,bc ?_⟩
     ·rw[decide_eq_true et];rfl
     refine⟨_,rfl,dW rfl rfl (by lia) fun t6 H6 t60 ht6 s6=>?_⟩
     have K6:=(K4.same s5).same s6
     refine⟨wd,t6,u,ds,rfl,s6 _ _ (s5 _ _ hw4),by rw[et];exact ht6,lu,by rw[et];exact ln,by lia,by lia,by rw[et,List.length_replicate];exact n2,hSg,K6.t,fun S' H7 st' k7 T7=>?_⟩
     rw[jv hg st',ed,ja]
     exact⟨rfl,k _ (K6.to k7 T7)⟩
end
abbrev iz:Stmt:=aL 35
def fE(pt:Addr):Sp:=fun vs H Q _=>∃(x y m n:Nat),vs=[sg x,sg y,.int (m:Int),.int (n:Int)]∧97≤x∧x≤122∧97≤y∧y≤122∧x≠y∧1≤m∧m≤99∧1≤n∧n≤200∧TB H pt∧∀H',KT pt H H'→Q (.bl true) H'
theorem kI(u:List Nat)(j:Nat):(List.replicate j (u.map sg)).flatten=((List.replicate j u).flatten).map sg:=by
 rw[List.map_flatten,List.map_replicate]
theorem nJ{a:Int}{p:Prop}[Decidable p]{n:Nat}(h1:a=0↔p)(h2:n=if p then 1 else 0):(if decide (V.int a=V.int 0)=true then(1:Int) else 0)=(n:Int):=by
 by_cases q:p
 ·rw[if_pos (decide_eq_true (by rw[h1.mpr q])),h2,if_pos q];rfl
 ·rw[if_neg (by rw[decide_eq_true_eq];exact fun z=>q (h1.mp (V.int.inj z))),h2,if_neg q];rfl
section
variable{P:Program}{w:World}{K:PySem.W.Frag}{mg:Str→Option Value}{base:Heap}
theorem scLone:FnScope ["one","other","size","length","word","due"] ["one","other","size","length"] (ar iz):=fsc_
theorem oo{pt:Addr}(M:Md K mg)(B:Bl mg)(F:FF K "_law_lone_right" iz)(Fcount_covered:Fn P w K mg base ad "count_covered" 7 ["word","length"] (dv pt))(Flength_of:Fn P w K mg base ad "length_of" 7 ["word","many"] (dR pt))(Ftext_at:Fn P w K mg base ad "text_at" 7 ["word","length","number"] (dQ pt)):Fn P w K mg base ad "_law_lone_right" 8 ["one","other","size","length"] (fE pt):=by
 refine aQ M F scLone (fun _ _ _ _ _ _=>gx fun _ _ _ _=>rfl) (fun vs H Q E h=>?_) (fun f cdv A outer s H vs Q E hr h=>?_)
 ·obtain⟨x,y,m,n,rfl,_⟩:=h;rfl
 ·obtain⟨x,y,m,n,rfl,x1,x2,y1,y2,xy,m1,m2,n1,n2,T,k⟩:=h
  refine⟨_,(ae (aB (i:=4) scLone.nd rfl (.inl rfl) (ak dB (a6 (aa (pv 0) ab)) (ak cJ (a6 (aa (pv 1) ab)) (pv 2))))
   (ae (aB (i:=5) scLone.nd rfl (.inl rfl) (ft B.int (a9 bj (ak cf (pv 3) (ak bg (pv 2) af)) af (aA _))))
   (ae (aU (PW.pt (eG (aI dG (am Fcount_covered hr ap (aa (pv 4) (aa (pv 3) ab))) (pv 5) (aA _)) (d6 (aI kq (am Flength_of hr ap (aa (pv 4) (aa af ab))) fL (aA _))))) (al (aD bu)) aW)
   (al (aD (eR (a9 bj (pv 5) af (aA _)) (bY (a9 (dq (by exact hr)) (am Ftext_at hr ap (aa (pv 4) (aa (pv 3) (aa af ab)))) (ak cJ (pv 4) (ak dU (pv 3) (ak bg (pv 2) af))) (aA _))))))))),?_⟩
  refine a8 ⟨_,rfl,by show 1≤sizeLine;decide,fun l0 hl0=>dW rfl rfl (by lia) fun l1 H1 l10 hl1 s1=>?_⟩
  have s01:=(Same.upd (o:=.lst [sg x]) hl0).trans s1
  have hl01:=s1 _ _ (ag (H:=H) (a:=l0) (o:=.lst [sg x]))
  refine⟨l0,l1,_,_,rfl,rfl,hl01,hl1,by rw[List.length_map,List.length_replicate];exact sz (by show 1+m≤1000;lia),fun wd hwd=>?_⟩
  have ew:[sg x]++(List.replicate m y).map sg=(x::List.replicate m y).map sg:=rfl
  rw[ew]
  have s2:=s01.trans (Same.upd (o:=.lst ((x::List.replicate m y).map sg)) hwd)
  have hw2:=ag (H:=H1) (a:=wd) (o:=.lst ((x::List.replicate m y).map sg))
  generalize L2.upd H1 wd (.lst ((x::List.replicate m y).map sg))=H2 at s2 hw2 ⊢
  have K2:=(KT.refl T).same s2
  have lu:Low (x::List.replicate m y):=fun d hd=>by
   rcases List.mem_cons.mp hd with rfl | hd
   ·exact⟨x1,x2⟩
   ·exact g6 y1 y2 m d hd
  have ul:(x::List.replicate m y).length=m+1:=by simp
  have hg:=oB (k:=m) xy
  generalize (x::List.replicate m y)=u at hw2 lu ul hg
  have hcnt:∀n,1≤n→aq u n=if n % (m+1)=0 then 1 else 0:=fun n n1=>by
   rw[fB hg n,ul]
   by_cases q:m+1≤n
   ·have e:(n-(m+1)) % (m+1)=n % (m+1):=by conv=>rhs;rw[show n=n-(m+1)+(m+1) by lia,Nat.add_mod_right]
    rw[e]
    by_cases q2:n % (m+1)=0
    ·rw[if_pos ⟨q,q2⟩,if_pos q2]
    ·rw[if_neg fun z=>q2 z.2,if_neg q2]
   ·rw[if_neg fun z=>q z.1,if_neg (by rw[Nat.mod_eq_of_lt (by lia)];lia)]
  have hle:∀n,((aq u n:Nat):Int)<2:=fun n=>by
   rw[fB hg n];split <;> decide
  refine a8 ⟨_,rfl,_,rfl,_,_,rfl,rfl,_,_,rfl,rfl,(by show(0:Int)<(m:Int)+1;lia),rfl,_,rfl,?_⟩
  have ei:(n:Int) % ((m:Int)+1)=((n % (m+1):Nat):Int):=by push_cast;rfl
  rw[nJ (p:=n % (m+1)=0) (by rw[ei];lia) (hcnt n n1)]
  refine cK (fun H'=>KT pt H H'∧H' wd=some (.lst (u.map sg))) (fun R hR=>?_) ?_
  ·refine eA (fun H'=>KT pt H H'∧H' wd=some (.lst (u.map sg))) (fun R' hR'=>?_) ?_
   ·exact⟨_,rfl,_,rfl,wd,u,n,rfl,hw2,lu,by lia,by lia,n1,n2,K2.t,fun H3 k3 T3=>⟨_,rfl,rfl,fu (hR' _ ⟨K2.to k3 T3,k3 _ _ hw2 (K2.t.ne hw2)⟩)⟩⟩
   ·rintro H3 ⟨K3,hw3⟩
    refine⟨_,rfl,wd,u,2,rfl,hw3,lu,by lia,by lia,by decide,K3.t,fun v H4 hv k4 T4=>?_⟩
    rw[kH hv hle]
    exact⟨rfl,false,rfl,hR _ ⟨K3.to k4 T4,k4 _ _ hw3 (K3.t.ne hw3)⟩⟩
  ·rintro H3 ⟨K3,hw3⟩
   by_cases q:n % (m+1)=0
   ·have c1:aq u n=1:=by rw[hcnt n n1,if_pos q]
    refine⟨_,rfl,rfl,false,by rw[c1];rfl,aY ?_⟩
    refine⟨_,rfl,_,rfl,wd,u,n,0,rfl,hw3,lu,by lia,by lia,n1,n2,by rw[c1];decide,K3.t,fun r S ds H4 r0 st hds hs hrk hr4 k4 T4=>?_⟩
    have hSg:∀d∈ds,Sg u d:=fun d hd=>st.mem.mp (hds d hd)
    obtain⟨e1,e2⟩:=gC hg hSg hs
    have hw4:=k4 _ _ hw3 (K3.t.ne hw3)
    have K4:=K3.to k4 T4
    have qd:n / (m+1)=ds.length+1:=by
     rw[←e2,ul,show m+1+ds.length*(m+1)=(ds.length+1)*(m+1) by rw[Nat.add_mul];lia]
     exact Nat.mul_div_cancel _ (by lia)
    have qi:(n:Int) / ((m:Int)+1)=((ds.length+1:Nat):Int):=by rw[←qd];push_cast;rfl
    have et:tx u ds=(List.replicate (ds.length+1) u).flatten:=by
     conv=>lhs;rw[e1]
     rw[←ul]
     exact jS _
    have lt:Low (tx u ds):=by
     rw[et]
     intro d hd
     obtain⟨z,hz,hd⟩:=List.mem_flatten.mp hd
     rw[List.eq_of_mem_replicate hz] at hd
     exact lu d hd
    refine⟨_,rfl,_,rfl,_,rfl,_,_,rfl,rfl,_,_,rfl,rfl,⟨by lia,by lia⟩,?_⟩
    dsimp only
    rw[qi]
    have dl:ds.length≤199:=by
     have:ds.length*1≤ds.length*(m+1):=Nat.mul_le_mul_left _ (by lia)
     lia
    refine⟨wd,_,_,rfl,rfl,hw4,by lia,by lia,?_,fun tt htt=>?_⟩
    ·rw[List.length_map,Int.toNat_natCast,ul]
     refine sz ?_
     have:(ds.length+1)*(m+1)=m+1+ds.length*(m+1):=by rw[Nat.add_mul];lia
     rw[Nat.mul_comm,this]
     lia
    rw[Int.toNat_natCast,kI,←et]
    have s5:=Same.upd (o:=.lst ((tx u ds).map sg)) htt
    refine⟨r,tt,tx u ds,tx u ds,rfl,rfl,SqL.of (s5 _ _ hr4),SqL.of ag,lt.cp,lt.cp,?_⟩
    rw[decide_eq_true rfl]
    exact k _ (K4.same s5)
   ·have c1:aq u n=0:=by rw[hcnt n n1,if_neg q]
    exact⟨_,rfl,rfl,true,by rw[c1];rfl,bc (k _ K3)⟩
end
abbrev ir:Stmt:=aL 36
theorem lB(x y:Nat)(m:Nat):(List.replicate m [sg x,sg y]).flatten=(turn x y m).map sg:=by
 unfold turn
 rw[←kI];rfl
theorem i8{x y:Nat}(hx:97≤x∧x≤122)(hy:97≤y∧y≤122)(n:Nat):Low (turn x y n):=fun c hc=>by
 obtain⟨l,hl,hc⟩:=List.mem_flatten.mp hc
 rw[List.eq_of_mem_replicate hl] at hc
 simp only[List.mem_cons,List.not_mem_nil,or_false] at hc
 rcases hc with rfl | rfl
 ·exact hx
 ·exact hy
theorem ij{te:TE}{σ:St}{H:Hp}{Q:VK}(v:V)(h:∀R:VK,R v H→te σ H R)(q:Q v H):te σ H Q:=h Q q
section
variable{P:Program}{w:World}{K:PySem.W.Frag}{mg:Str→Option Value}{base:Heap}
theorem scTurns:FnScope ["one","other","size","length","word","due"] ["one","other","size","length"] (ar ir):=fsc_
theorem rm{pt:Addr}(M:Md K mg)(B:Bl mg)(F:FF K "_law_turns_right" ir)(Fcount_covered:Fn P w K mg base ad "count_covered" 7 ["word","length"] (dv pt))(Ftext_at:Fn P w K mg base ad "text_at" 7 ["word","length","number"] (dQ pt)):Fn P w K mg base ad "_law_turns_right" 8 ["one","other","size","length"] (fE pt):=by
 refine aQ M F scTurns (fun _ _ _ _ _ _=>gx fun _ _ _ _=>rfl) (fun vs H Q E h=>?_) (fun f cdv A outer s H vs Q E hr h=>?_)
 ·obtain⟨x,y,m,n,rfl,_⟩:=h;rfl
 ·obtain⟨x,y,m,n,rfl,x1,x2,y1,y2,xy,m1,m2,n1,n2,T,k⟩:=h
  refine⟨_,(ae (aB (i:=4) scTurns.nd rfl (.inl rfl) (ak cJ (a6 (aa (pv 0) (aa (pv 1) ab))) (pv 2)))
   (ae (aB (i:=5) scTurns.nd rfl (.inl rfl) (ft B.int (dz (a9 bj (ak cf (pv 3) af) af (aA _)) (bY (a9 dX (pv 3) (ak eD af (pv 2)) (aA _))))))
   (ae (aU (aI dG (am Fcount_covered hr ap (aa (pv 4) (aa (pv 3) ab))) (pv 5) (aA _)) (al (aD bu)) aW)
   (al (aD (eR (a9 bj (pv 5) af (aA _)) (bY (a9 (dq (by exact hr)) (am Ftext_at hr ap (aa (pv 4) (aa (pv 3) (aa af ab)))) (ak cJ (a6 (aa (pv 0) (aa (pv 1) ab))) (ak dU (pv 3) af)) (aA _))))))))),?_⟩
  refine a8 ⟨_,rfl,_,rfl,by show 2≤sizeLine;decide,fun l0 hl0=>?_⟩
  have s0:=Same.upd (o:=.lst [sg x,sg y]) hl0
  refine⟨_,rfl,l0,_,_,rfl,rfl,ag,by lia,by lia,by show 2*((m:Int).toNat)≤sizeLine;rw[Int.toNat_natCast];exact sz (by lia),fun wd hwd=>?_⟩
  rw[Int.toNat_natCast,lB]
  have s2:=s0.trans (Same.upd (o:=.lst ((turn x y m).map sg)) hwd)
  have hw2:=ag (H:=L2.upd H l0 (.lst [sg x,sg y])) (a:=wd) (o:=.lst ((turn x y m).map sg))
  generalize L2.upd (L2.upd H l0 (.lst [sg x,sg y])) wd (.lst ((turn x y m).map sg))=H2 at s2 hw2 ⊢
  have K2:=(KT.refl T).same s2
  have lu:=i8 ⟨x1,x2⟩ ⟨y1,y2⟩ m
  have ul:=gL x y m
  have hg:=oa xy m1
  obtain⟨u,hu⟩:∃u,u=turn x y m:=⟨_,rfl⟩
  rw[←hu] at hw2 lu ul hg
  have hcnt:aq u n=if n % 2=0∧2*m≤n then 1 else 0:=by
   rw[fB hg n,ul]
   by_cases q:n % 2=0∧2*m≤n
   ·rw[if_pos ⟨q.2,by lia⟩,if_pos q]
   ·rw[if_neg fun z=>q ⟨by lia,z.1⟩,if_neg q]
  refine a8 (ij (te:=jc _) (.int ((aq u n:Nat):Int)) (fun R hR=>?_) ?_)
  ·refine⟨_,rfl,_,_,rfl,rfl,(by show(0:Int)<2;decide),rfl,_,rfl,?_⟩
   by_cases q:n % 2=0
   ·rw[decide_eq_true (show V.int ((n:Int) % 2)=V.int 0 by congr 1;lia)]
    refine bc ⟨_,rfl,_,rfl,_,_,rfl,rfl,.inl ⟨by decide,by decide⟩,_,_,rfl,rfl,_,rfl,?_⟩
    by_cases q2:2*m≤n
    ·rw[hcnt,if_pos ⟨q,q2⟩] at hR
     rw[decide_eq_true (show 2*(m:Int)≤(n:Int) by lia)]
     exact hR
    ·rw[hcnt,if_neg fun z=>q2 z.2] at hR
     rw[decide_eq_false (show¬2*(m:Int)≤(n:Int) by lia)]
     exact hR
   ·rw[decide_eq_false (show¬V.int ((n:Int) % 2)=V.int 0 from fun z=>q (by have:=V.int.inj z;lia))]
    rw[hcnt,if_neg fun z=>q z.1] at hR
    exact aY ⟨_,rfl,hR⟩
  refine cK (fun H'=>KT pt H H'∧H' wd=some (.lst (u.map sg))) (fun R hR=>?_) ?_
  ·exact⟨_,rfl,_,rfl,wd,u,n,rfl,hw2,lu,by lia,by lia,n1,n2,K2.t,fun H3 k3 T3=>⟨_,rfl,rfl,fu (hR _ ⟨K2.to k3 T3,k3 _ _ hw2 (K2.t.ne hw2)⟩)⟩⟩
  ·rintro H3 ⟨K3,hw3⟩
   by_cases q:n % 2=0∧2*m≤n
   ·have c1:aq u n=1:=by rw[hcnt,if_pos q]
    refine⟨_,rfl,rfl,false,by rw[c1];rfl,aY ?_⟩
    refine⟨_,rfl,_,rfl,wd,u,n,0,rfl,hw3,lu,by lia,by lia,n1,n2,by rw[c1];decide,K3.t,fun r S ds H4 r0 st hds hs hrk hr4 k4 T4=>?_⟩
    have hSg:∀d∈ds,Sg u d:=fun d hd=>st.mem.mp (hds d hd)
    obtain⟨e1,e2⟩:=gC hg hSg hs
    have K4:=K3.to k4 T4
    have et:tx u ds=turn x y (n / 2):=by
     rw[e1,hu,kt m1]
     congr 1
     lia
    have lt:Low (tx u ds):=by rw[et];exact i8 ⟨x1,x2⟩ ⟨y1,y2⟩ _
    refine⟨_,rfl,_,rfl,by show 2≤sizeLine;decide,fun l5 hl5=>?_⟩
    have s5:=Same.upd (o:=.lst [sg x,sg y]) hl5
    have qi:(n:Int) / 2=((n / 2:Nat):Int):=by lia
    refine⟨_,rfl,_,_,rfl,rfl,⟨by decide,by decide⟩,?_⟩
    dsimp only
    rw[qi]
    refine⟨l5,_,_,rfl,rfl,ag,by lia,by lia,by show 2*(((n / 2:Nat):Int).toNat)≤sizeLine;rw[Int.toNat_natCast];exact sz (by lia),fun tt htt=>?_⟩
    rw[Int.toNat_natCast,lB,←et]
    have s6:=Same.upd (o:=.lst ((tx u ds).map sg)) htt
    refine⟨r,tt,tx u ds,tx u ds,rfl,rfl,SqL.of (s6 _ _ (s5 _ _ hr4)),SqL.of ag,lt.cp,lt.cp,?_⟩
    rw[decide_eq_true rfl]
    exact k _ ((K4.same s5).same s6)
   ·have c1:aq u n=0:=by rw[hcnt,if_neg q]
    exact⟨_,rfl,rfl,true,by rw[c1];rfl,bc (k _ K3)⟩
end
abbrev gs:Stmt:=aL 37
def kb(pt:Addr):Sp:=fun vs H Q _=>∃(x y n:Nat),vs=[sg x,sg y,.int (n:Int)]∧97≤x∧x≤122∧97≤y∧y≤122∧x≠y∧1≤n∧n≤200∧TB H pt∧∀H',KT pt H H'→Q (.bl true) H'
theorem qj{u:List Nat}{n:Nat}{v:V}(h:eB u ((aq u n:Nat):Int) v)(hn:n≤200):∃n':Nat,v=.int (n':Int)∧n'≤n:=by
 rcases h with⟨n',e,_,_,h3⟩ | ⟨_,h⟩
 ·refine⟨n',e,?_⟩
  by_cases q:n<n'
  ·have:=h3 n q;lia
  ·lia
 ·have:=h n hn;lia
theorem lE{u:List Nat}(lu:Low u):∀ds:List Nat,Low (tx u ds)
 | []=>lu
 | d::ds=>(lu.take d).app (lE lu ds)
structure Lst(x y n:Nat)(S es:List Nat):Prop where
 mem:∀d∈es,d=2∨d=3
 rk:∀fs:List Nat,(∀d∈fs,d=2∨d=3)→3+es.sum+fs.sum=n→rk S 3 (es++fs)=rk S 3 fs
theorem Lst.more{x y n:Nat}{S es:List Nat}(L:Lst x y n S es)(h:x≠y)(st:Stp [x,y,x] S){d:Nat}(hlt:3+es.sum<n)(hd:d=if(n-(3+es.sum)=2∨(3<n-(3+es.sum)∧(y<x∨n-(3+es.sum)=4))) then 2 else 3):Lst x y n S (es++[d]):=by
 have d23:d=2∨d=3:=by rw[hd];split <;> simp
 refine⟨fun e he=>?_,fun fs hfs hs=>?_⟩
 ·rcases List.mem_append.mp he with he | he
  ·exact L.mem e he
  ·rw[List.mem_singleton.mp he];exact d23
 ·rw[List.sum_append] at hs
  simp only[List.sum_cons,List.sum_nil,Nat.add_zero] at hs
  rw[List.append_assoc,List.singleton_append,L.rk (d::fs) (fun e he=>(List.mem_cons.mp he).elim (fun z=>z▸d23) (hfs e)) (by rw[List.sum_cons];lia)]
  refine pQ h st d23 ?_
  have e:n-(3+es.sum)=d+fs.sum:=by lia
  rw[e] at hd
  by_cases q:d+fs.sum=2∨(3<d+fs.sum∧(y<x∨d+fs.sum=4))
  ·rw[if_pos q] at hd
   exact⟨fun _=>q,fun _=>hd⟩
  ·rw[if_neg q] at hd
   exact⟨fun z=>by lia,fun z=>absurd z q⟩
section
variable{P:Program}{w:World}{K:PySem.W.Frag}{mg:Str→Option Value}{base:Heap}
theorem scThree:FnScope ["one","other","length","word","counts","size","least","left","two"] ["one","other","length"] (ar gs):=fsc_
theorem mz{pt:Addr}(M:Md K mg)(B:Bl mg)(F:FF K "_law_three_right" gs)(Fcount_covered:Fn P w K mg base ad "count_covered" 7 ["word","length"] (dv pt))(Flength_of:Fn P w K mg base ad "length_of" 7 ["word","many"] (dR pt))(Ftext_at:Fn P w K mg base ad "text_at" 7 ["word","length","number"] (dQ pt)):Fn P w K mg base ad "_law_three_right" 8 ["one","other","length"] (kb pt):=by
 refine aQ M F scThree (fun _ _ _ _ _ _=>dj fun _ _ _=>rfl) (fun vs H Q E h=>?_) (fun f cdv A outer s H vs Q E hr h=>?_)
 ·obtain⟨x,y,n,rfl,_⟩:=h;rfl
 ·obtain⟨x,y,n,rfl,x1,x2,y1,y2,xy,n1,n2,T,k⟩:=h
  refine⟨_,(ae (aB (i:=3) scThree.nd rfl (.inl rfl) (a6 (aa (pv 0) (aa (pv 1) (aa (pv 0) ab)))))
   (ae (aB (i:=4) scThree.nd rfl (.inl rfl) (a6 (lm (by rfl))))
   (ae (cS PassesOwn.never rfl (qM (by rfl) B.range (aa af (aa af ab))) (bh (i:=5) scThree.nd rfl (.inl rfl))
   (al (ba (dt PySem.F.plainAttrs_list PySem.F.slot_list_append PySem.F.type_list_append jr (pv 4) (aa (ak bg (aP aO (pv 4) (ak a7 (pv 5) af) (fun _ _=>rfl)) (aP aO (pv 4) (ak a7 (pv 5) af) (fun _ _=>rfl))) ab)))))
   (ae (aU (aI dG (am Fcount_covered hr ap (aa (pv 3) (aa (pv 2) ab))) (aP aO (pv 4) (pv 2) (fun _ _=>rfl)) (aA _)) (al (aD bu)) aW)
   (ae (aB (i:=6) scThree.nd rfl (.inl rfl) (a6 (aa (pv 0) (aa (pv 1) (aa (pv 0) ab)))))
   (ae (eU PassesOwn.never (aI dJ (aT B.len (pv 6)) (pv 2) (aA _)) (ae (aB (i:=7) scThree.nd rfl (.inl rfl) (ak a7 (pv 2) (aT B.len (pv 6))))
   (ae (aB (i:=8) scThree.nd rfl (.inl rfl) (eR (a9 bj (pv 7) af (aA _)) (bY (dz (a9 io (pv 7) af (aA _)) (bY (eR (a9 n4 (pv 1) (pv 0) (aA _)) (bY (a9 bj (pv 7) af (aA _)))))))))
   (al (aB (i:=6) scThree.nd rfl (.inl rfl) (ak dB (pv 6) (aP aO (a6 (aa (a6 (aa (pv 0) (aa (pv 1) (aa (pv 0) ab)))) (aa (a6 (aa (pv 1) (aa (pv 0) ab))) ab))) (ft B.int (pv 8)) (fun _ _=>rfl))))))))
   (ae (aU (aI bj (aP aO (pv 4) (pv 2) (fun _ _=>rfl)) af (aA _)) (al (aD bu)) aW)
   (ae (aU (PW.pt (ph (aI bj (aT B.len (pv 6)) (pv 2) (aA _)) (qh (aI (pM (by exact hr)) (am Ftext_at hr ap (aa (pv 3) (aa (pv 2) (aa af ab)))) (pv 6) (aA _))))) (al (aD bu)) aW)
   (al (aD (a9 fm (am Flength_of hr ap (aa (pv 3) (aa (aP aO (pv 4) (pv 2) (fun _ _=>rfl)) ab))) (pv 2) (aA _)))))))))))),?_⟩
  refine a8 ⟨_,rfl,_,rfl,_,rfl,by show 3≤sizeLine;decide,fun wd hwd=>?_⟩
  have s1:=Same.upd (o:=.lst [sg x,sg y,sg x]) hwd
  have hw1:(L2.upd H wd (.lst [sg x,sg y,sg x])) wd=some (.lst ([x,y,x].map sg)):=ag
  generalize L2.upd H wd (.lst [sg x,sg y,sg x])=H1 at s1 hw1 ⊢
  have K1:=(KT.refl T).same s1
  have lu:Low [x,y,x]:=fun d hd=>by
   simp only[List.mem_cons,List.not_mem_nil,or_false] at hd
   lia
  obtain⟨S,st⟩:=gr [x,y,x]
  refine a8 ⟨by show 5≤sizeLine;decide,fun cl hcl=>?_⟩
  dsimp only[List.map_cons,List.map_nil]
  have s2:=Same.upd (o:=.lst (([0,0,0,1,0]:List Int).map V.int)) hcl
  have ec:([0,0,0,1,0]:List Int).map V.int=ac ((List.range 5).map (aq [x,y,x])):=by
   have e0:aq [x,y,x] 0=0:=cO (by show 0<3;decide)
   have e1:aq [x,y,x] 1=0:=cO (by show 1<3;decide)
   have e2:aq [x,y,x] 2=0:=cO (by show 2<3;decide)
   have e3:aq [x,y,x] 3=1:=fG [x,y,x]
   have e4:=lq xy
   have er:List.range 5=[0,1,2,3,4]:=rfl
   rw[er]
   simp only[List.map_cons,List.map_nil,e0,e1,e2,e3,e4]
   rfl
  have hcl2:=ag (H:=H1) (a:=cl) (o:=.lst (([0,0,0,1,0]:List Int).map V.int))
  have cl0:H1 cl=none:=hcl
  generalize L2.upd H1 cl (.lst (([0,0,0,1,0]:List Int).map V.int))=H2 at s2 hcl2 ⊢
  rw[ec] at hcl2
  refine⟨5,201,rfl,⟨by decide,by decide,by decide,by decide⟩,qg (lo:=5) (n:=196) (fun i σ H3=>∃v5,σ=[some (sg x),some (sg y),some (.int (n:Int)),some (.ref wd),some (.ref cl),v5,none,none,none]∧Same H1 H3∧H3 cl=some (.lst (ac ((List.range (5+i)).map (aq [x,y,x]))))) ?_ ?_ ?_⟩
  ·exact⟨_,rfl,s2,hcl2⟩
  ·rintro i σ H3 hi ⟨v5,rfl,s3,hcl3⟩
   have ll:((List.range (5+i)).map (aq [x,y,x])).length=5+i:=by simp
   have at_:∀j,j<5+i→aX (ac ((List.range (5+i)).map (aq [x,y,x]))) (j:Int)=some (.int ((aq [x,y,x] j:Nat):Int)):=fun j hj=>by
    rw[cI (by rw[ll];exact hj),List.getD_eq_getElem?_getD,List.getElem?_map,List.getElem?_range hj];rfl
   have a2:aX (ac ((List.range (5+i)).map (aq [x,y,x]))) (5+(i:Int)-2)=some (.int ((aq [x,y,x] (3+i):Nat):Int)):=by rw[show 5+(i:Int)-2=((3+i:Nat):Int) by lia];exact at_ _ (by lia)
   have a3:aX (ac ((List.range (5+i)).map (aq [x,y,x]))) (5+(i:Int)-3)=some (.int ((aq [x,y,x] (2+i):Nat):Int)):=by rw[show 5+(i:Int)-3=((2+i:Nat):Int) by lia];exact at_ _ (by lia)
   refine⟨_,rfl,.inl ⟨rfl,_,SqL.of hcl3⟩,_,rfl,_,rfl,_,_,rfl,rfl,cl,_,_,_,rfl,rfl,SqL.of hcl3,a2,_,rfl,_,rfl,_,_,rfl,rfl,cl,_,_,_,rfl,rfl,SqL.of hcl3,a3,_,_,rfl,rfl,cl,_,_,rfl,rfl,hcl3,by rw[aN,ll];exact Nat.le_of_lt (bi (by lia)),?_⟩
   refine⟨_,rfl,fun a o e=>by rw[ao (aK e cl0)];exact s3 _ _ e,?_⟩
   rw[ag,show 5+(i+1)=(5+i)+1 by lia,List.range_succ,List.map_append,List.map_cons,List.map_nil,cC,j7 (n:=5+i) xy (by lia),show 5+i-2=3+i by lia,show 5+i-3=2+i by lia]
   rfl
  ·rintro σ H3 ⟨v5,rfl,s3,hcl3⟩
   have K3:=K1.same s3
   have hw3:=s3 _ _ hw1
   have ll:((List.range (5+196)).map (aq [x,y,x])).length=201:=by simp
   have hat:aX (ac ((List.range (5+196)).map (aq [x,y,x]))) (n:Int)=some (.int ((aq [x,y,x] n:Nat):Int)):=by
    rw[cI (by rw[ll];lia),List.getD_eq_getElem?_getD,List.getElem?_map,List.getElem?_range (by lia)];rfl
   generalize ac ((List.range (5+196)).map (aq [x,y,x]))=cv at hcl3 hat
   dsimp only
   refine cK (fun H'=>KT pt H H'∧H' wd=some (.lst ([x,y,x].map sg))∧H' cl=some (.lst cv)) (fun R hR=>?_) ?_
   ·refine⟨_,rfl,_,rfl,wd,[x,y,x],n,rfl,hw3,lu,(by show 1≤3;decide),(by show 3≤400;decide),n1,n2,K3.t,fun H4 k4 T4=>?_⟩
    have hcl4:=k4 _ _ hcl3 (K3.t.ne hcl3)
    exact⟨_,rfl,_,rfl,cl,_,_,_,rfl,rfl,SqL.of hcl4,hat,rfl,fu (hR _ ⟨K3.to k4 T4,k4 _ _ hw3 (K3.t.ne hw3),hcl4⟩)⟩
   ·rintro H4 ⟨K4,hw4,hcl4⟩
    refine a8 ⟨_,rfl,_,rfl,_,rfl,by show 3≤sizeLine;decide,fun le hle=>?_⟩
    have s5:=Same.upd (o:=.lst [sg x,sg y,sg x]) hle
    have hle5:(L2.upd H4 le (.lst [sg x,sg y,sg x])) le=some (.lst ((tx [x,y,x] []).map sg)):=ag
    generalize L2.upd H4 le (.lst [sg x,sg y,sg x])=H5 at s5 hle5 ⊢
    refine⟨fun m σ H6=>∃(es:List Nat) (le:Addr) (v7 v8:Option V),m+(3+es.sum)=300∧σ=[some (sg x),some (sg y),some (.int (n:Int)),some (.ref wd),some (.ref cl),v5,some (.ref le),v7,v8]∧Same H4 H6∧H6 le=some (.lst ((tx [x,y,x] es).map sg))∧Lst x y n S es∧3+es.sum≤203,⟨297,[],le,none,none,by decide,rfl,s5,hle5,⟨by simp,fun fs _ _=>rfl⟩,by decide⟩,?_⟩
    rintro m σ H6 ⟨es,le,v7,v8,mm,rfl,s6,hle6,L,e203⟩
    have per:∀d,d=2∨d=3→aR [x,y,x] d:=fun d hd=>(fj xy).mpr hd
    have txl:(tx [x,y,x] es).length=3+es.sum:=df fun d hd=>(per d (L.mem d hd)).2.1
    refine⟨_,rfl,le,_,rfl,SqL.of hle6,_,rfl,_,_,rfl,rfl,_,rfl,?_⟩
    rw[List.length_map,txl]
    refine bJ (fun hcd=>?_) (fun hcd=>?_)
    ·have hlt:3+es.sum<n:=by have:=of_decide_eq_true hcd;lia
     refine⟨fun σ' H'=>∃m',m'<m∧∃(es:List Nat) (le:Addr) (v7 v8:Option V),m'+(3+es.sum)=300∧σ'=[some (sg x),some (sg y),some (.int (n:Int)),some (.ref wd),some (.ref cl),v5,some (.ref le),v7,v8]∧Same H4 H'∧H' le=some (.lst ((tx [x,y,x] es).map sg))∧Lst x y n S es∧3+es.sum≤203,fun _ _ h=>h,?_⟩
     obtain⟨lf,hlf⟩:∃lf,lf=n-(3+es.sum):=⟨_,rfl⟩
     refine a8 (ij (.int (lf:Int)) (fun R hR=>⟨_,rfl,_,rfl,le,_,rfl,SqL.of hle6,_,_,rfl,rfl,?_⟩) ?_)
     ·dsimp only
      rw[show(n:Int)-(((tx [x,y,x] es).map sg).length:Nat)=(lf:Int) by rw[List.length_map,txl];lia]
      exact hR
     have dl:decide ((aC y).cps.toList<(aC x).cps.toList)=decide (y<x):=decide_eq_decide.mpr (by show [y] < [x]↔_;rw[List.cons_lt_cons_iff];simp)
     obtain⟨b,hb⟩:∃b,b=decide (lf=2∨(3<lf∧(y<x∨lf=4))):=⟨_,rfl⟩
     refine a8 (ij (.bl b) (fun R hR=>?_) ?_)
     ·refine⟨_,rfl,rfl,_,rfl,?_⟩
      by_cases q2:lf=2
      ·rw[hb,decide_eq_true (Or.inl q2)] at hR
       rw[decide_eq_true (show V.int (lf:Int)=V.int 2 by rw[q2];rfl)]
       exact bc hR
      ·rw[decide_eq_false (show¬V.int (lf:Int)=V.int 2 from fun z=>q2 (by have:=V.int.inj z;lia))]
       refine aY ⟨_,rfl,_,_,rfl,rfl,_,rfl,?_⟩
       by_cases q3:3<lf
       ·rw[decide_eq_true (show(3:Int)<(lf:Int) by lia)]
        refine bc ⟨_,rfl,_,rfl,_,_,rfl,rfl,_,rfl,?_⟩
        rw[dl]
        by_cases q4:y<x
        ·rw[hb,decide_eq_true (Or.inr ⟨q3,Or.inl q4⟩)] at hR
         rw[decide_eq_true q4]
         exact bc hR
        ·rw[decide_eq_false q4]
         refine aY ⟨_,rfl,rfl,?_⟩
         by_cases q5:lf=4
         ·rw[hb,decide_eq_true (Or.inr ⟨q3,Or.inr q5⟩)] at hR
          rw[decide_eq_true (show V.int (lf:Int)=V.int 4 by rw[q5];rfl)]
          exact hR
         ·rw[hb,decide_eq_false (by lia)] at hR
          rw[decide_eq_false (show¬V.int (lf:Int)=V.int 4 from fun z=>q5 (by have:=V.int.inj z;lia))]
          exact hR
       ·rw[hb,decide_eq_false (by lia)] at hR
        rw[decide_eq_false (show¬(3:Int)<(lf:Int) by lia)]
        exact aY hR
     refine qu ⟨_,rfl,_,rfl,_,rfl,_,rfl,by show 3≤sizeLine;decide,fun a1 h1=>?_⟩
     have t1:=Same.upd (o:=.lst [sg x,sg y,sg x]) h1
     have g1:(L2.upd H6 a1 (.lst [sg x,sg y,sg x])) a1=some (.lst ((av [x,y,x] 3).map sg)):=ag
     generalize L2.upd H6 a1 (.lst [sg x,sg y,sg x])=H7 at t1 g1 ⊢
     refine⟨_,rfl,_,rfl,by show 2≤sizeLine;decide,fun a2 h2=>?_⟩
     have t2:=Same.upd (o:=.lst [sg y,sg x]) h2
     have g2:(L2.upd H7 a2 (.lst [sg y,sg x])) a2=some (.lst ((av [x,y,x] 2).map sg)):=ag
     generalize L2.upd H7 a2 (.lst [sg y,sg x])=H8 at t2 g2 ⊢
     refine⟨by show 2≤sizeLine;decide,fun a3 h3=>?_⟩
     have t3:=Same.upd (o:=.lst [V.ref a1,.ref a2]) h3
     have g3:=ag (H:=H8) (a:=a3) (o:=.lst [V.ref a1,.ref a2])
     have g13:=t3 _ _ (t2 _ _ g1)
     have g23:=t3 _ _ g2
     have hle9:=t3 _ _ (t2 _ _ (t1 _ _ hle6))
     have s9:=((s6.trans t1).trans t2).trans t3
     generalize L2.upd H8 a3 (.lst [V.ref a1,.ref a2])=H9 at g3 g13 g23 hle9 s9 ⊢
     obtain⟨d,hd⟩:∃d,d=if(lf=2∨(3<lf∧(y<x∨lf=4))) then 2 else 3:=⟨_,rfl⟩
     have L':Lst x y n S (es++[d]):=L.more xy st hlt (by rw[←hlf];exact hd)
     have d23:d=2∨d=3:=L'.mem d (by simp)
     obtain⟨ai,hai,gai⟩:∃ai,aX [V.ref a1,.ref a2] (if b=true then 1 else 0)=some (.ref ai)∧H9 ai=some (.lst ((av [x,y,x] d).map sg)):=by
      by_cases q:lf=2∨(3<lf∧(y<x∨lf=4))
      ·rw[if_pos q] at hd
       rw[decide_eq_true q] at hb
       exact⟨a2,by rw[hb];rfl,by rw[hd];exact g23⟩
      ·rw[if_neg q] at hd
       rw[decide_eq_false q] at hb
       exact⟨a1,by rw[hb];rfl,by rw[hd];exact g13⟩
     have kl:(av [x,y,x] d).length=d:=eo (per d d23).2.1
     refine⟨_,rfl,_,rfl,a3,_,_,.ref ai,rfl,rfl,SqL.of g3,hai,le,ai,_,_,rfl,rfl,hle9,gai,by rw[List.length_map,List.length_map,txl,kl];exact sz (by lia),fun nl hnl=>?_⟩
     rw[←List.map_append,←hO (per d d23)]
     exact⟨m-d,by lia,es++[d],nl,_,_,by rw[List.sum_append];simp;lia,rfl,s9.trans (Same.upd hnl),ag,L',by rw[List.sum_append];simp;lia⟩
    ·have hge:n≤3+es.sum:=by
      have:¬(((3+es.sum:Nat):Int)<(n:Int)):=fun z=>hcd (decide_eq_true z)
      lia
     have K6:=K4.same s6
     have hw6:=s6 _ _ hw4
     have hcl6:=s6 _ _ hcl4
     by_cases z0:aq [x,y,x] n=0
     ·refine⟨_,rfl,_,rfl,cl,_,_,_,rfl,rfl,SqL.of hcl6,hat,rfl,true,?_,bc (k _ K6)⟩
      rw[z0];rfl
     ·refine⟨_,rfl,_,rfl,cl,_,_,_,rfl,rfl,SqL.of hcl6,hat,rfl,false,?_,aY ?_⟩
      ·rw[decide_eq_false fun z=>z0 (by have:=V.int.inj z;lia)]
      unfold fe
      dsimp only
      refine cK (fun H'=>KT pt H H'∧H' wd=some (.lst ([x,y,x].map sg))∧H' cl=some (.lst cv)) (fun R hR=>?_) ?_
      ·by_cases ql:3+es.sum=n
       ·refine⟨_,rfl,le,_,rfl,SqL.of hle6,_,rfl,rfl,true,?_,bc ?_⟩
        ·rw[List.length_map,txl,ql,decide_eq_true rfl]
        refine⟨_,rfl,_,rfl,wd,[x,y,x],n,0,rfl,hw6,lu,(by show 1≤3;decide),(by show 3≤400;decide),n1,n2,by lia,K6.t,fun r S' ds H7 r0 st' hds hs hrk hr7 k7 T7=>?_⟩
        have hle7:=k7 _ _ hle6 (K6.t.ne hle6)
        have eS:S'=S:=by rw[eJ xy st,eJ xy st']
        rw[eS] at hrk hds
        have he:∀d∈es,d∈S:=fun d hd=>st.mem.mpr ((ku xy d).mpr (L.mem d hd))
        have rk0:rk S 3 es=0:=by
         have:=L.rk [] (by simp) (by simpa using ql)
         rw[List.append_nil] at this
         rw[this];rfl
        have hs':3+ds.sum=n:=hs
        have ed:ds=es:=l7 (fun d hd=>st.mem.mp hd) st.nodup st.key hds he (by lia) (hrk.trans rk0.symm)
        have lt:Low (tx [x,y,x] es):=lE lu es
        refine⟨_,rfl,r,le,tx [x,y,x] ds,tx [x,y,x] es,rfl,rfl,SqL.of hr7,SqL.of hle7,by rw[ed];exact lt.cp,lt.cp,false,?_,hR _ ⟨K6.to k7 T7,k7 _ _ hw6 (K6.t.ne hw6),k7 _ _ hcl6 (K6.t.ne hcl6)⟩⟩
        rw[ed,decide_eq_true rfl];rfl
       ·refine⟨_,rfl,le,_,rfl,SqL.of hle6,_,rfl,rfl,false,?_,aY (hR _ ⟨K6,hw6,hcl6⟩)⟩
        rw[List.length_map,txl,decide_eq_false fun z=>ql (by have:=V.int.inj z;lia)]
      ·rintro H7 ⟨K7,hw7,hcl7⟩
       refine⟨_,rfl,_,rfl,_,rfl,cl,_,_,_,rfl,rfl,SqL.of hcl7,hat,wd,[x,y,x],_,rfl,hw7,lu,(by show 1≤3;decide),(by show 3≤400;decide),by lia,K7.t,fun v H8 hv k8 T8=>?_⟩
       obtain⟨n',rfl,hn'⟩:=qj hv n2
       refine⟨_,rfl,_,_,rfl,rfl,?_⟩
       have:decide ((n':Int)≤(n:Int))=true:=decide_eq_true (by lia)
       show Q (V.bl (decide ((n':Int)≤(n:Int)))) H8
       rw[this]
       exact k _ (K7.to k8 T8)
end
abbrev gG:Stmt:=aL 38
def eL(K:PySem.W.Frag)(pt:Addr):Sp:=fun vs H Q _=>∃(a:Addr) (ns:List Int),vs=[.ref a]∧SqL K H a (ns.map V.int)∧ns.length≤63∧TB H pt∧∀H',TB H' pt→Q (.bl true) H'
theorem nX{xs:List Int}{i:Nat}{x:V}(h:(xs.map V.int)[i]?=some x):∃z:Int,x=.int z:=by
 rw[List.getElem?_map] at h
 cases e:xs[i]? with
 | none=>rw[e] at h;cases h
 | some z=>rw[e] at h;exact⟨z,(Option.some.inj h).symm⟩
theorem qC{K:PySem.W.Frag}{σ:St}{H:Hp}{a:Addr}{ns:List Int}{n:Int}{Q:VK}(hi:σ[0]?=some (some (.ref a)))(hS:SqL K H a (ns.map V.int))(hn:0≤n)(hn2:n≤100)(k:∀(b:Addr) (xs:List Int) (H':Hp),H' b=some (.lst (xs.map V.int))→Same H H'→Q (.ref b) H'):cN ik (fV (fY (tC (.int 0)) gZ)) (gU (fT K) (cx 0) gi (hU (tC (.int n)))) σ H Q:=by
 refine⟨by show 1≤sizeLine;decide,fun l0 hl0=>?_⟩
 refine⟨_,hi,n,rfl,a,_,rfl,(Same.upd hl0).seq hS,fun l1 hl1=>?_⟩
 have e1:aS (ns.map V.int) none (some n)=(ns.take n.toNat).map V.int:=by rw[bZ,bG,eY _ _ hn]
 rw[e1] at*
 refine⟨l0,l1,_,_,rfl,rfl,(Same.upd hl1) _ _ ag,ag,by simp only[List.length_cons,List.length_nil,List.length_map,List.length_take];exact sz (by lia),fun b hb=>?_⟩
 refine k b (0::ns.take n.toNat) _ ?_ ((Same.upd hl0).trans ((Same.upd hl1).trans (Same.upd hb)))
 rw[ag]
 rfl
theorem TB.hand{H H':Hp}{p pt:Addr}(h:TB H pt)(hp:Hand H p)(k:Keep p H H'):TB H' pt:=by
 obtain⟨x,y,z,hp⟩:=hp
 have np:=h.ne hp
 rcases h with t | ⟨c,t1,t2⟩
 ·exact .inl (k _ _ t (Ne.symm np))
 ·refine .inr ⟨c,k _ _ t1 (Ne.symm np),k _ _ t2 fun e=>?_⟩
  rw[e,hp] at t2;cases t2
theorem oe{c:TT}{t:TS}{D:Ends}{σ:St}{H:Hp}(T:Hp→Prop)(h:∀R:Bool→Hp→Prop,(∀H',T H'→R false H')→c σ H R)(q:∀H',T H'→D.nx σ H'):ic c t fe D σ H:=h (fun b H1=>if b=true then _ else _) fun H' s'=>aY (q H' s')
theorem pC{l:List Nat}{i:Nat}:(l.map sg).eraseIdx i=(l.eraseIdx i).map sg:=by
 apply List.ext_getElem?
 intro q
 rw[List.getElem?_map,List.getElem?_eraseIdx,List.getElem?_eraseIdx]
 split <;> rw[List.getElem?_map]
theorem nT{l:List Nat}{i:Nat}(hn:l.Nodup)(hi:i<l.length):l[i]∉l.eraseIdx i:=by
 have h1:(l[i]::l.eraseIdx i).Perm l:=by
  rw[List.eraseIdx_eq_take_drop_succ]
  have q:=List.perm_middle (a:=l[i]) (l₁:=l.take i) (l₂:=l.drop (i+1))
  rw[←List.drop_eq_getElem_cons hi,List.take_append_drop] at q
  exact q.symm
 exact(List.nodup_cons.mp (h1.nodup_iff.mpr hn)).1
section
variable{P:Program}{w:World}{K:PySem.W.Frag}{mg:Str→Option Value}{base:Heap}
theorem scLaw:FnScope ["script","cell","pot","left","one","other","length","size"] ["script"] (ar gG):=fsc_
theorem oA{pt:Addr}(M:Md K mg)(B:Bl mg)(F:FF K "law" gG)(F_law_pot:Fn P w K mg base ad "_law_pot" 1 ["cell"] jC)(F_law_take:Fn P w K mg base ad "_law_take" 1 ["pot","many"] kU)(F_law_one_right:Fn P w K mg base ad "_law_one_right" 8 ["sign","size","length"] (jK pt))(F_law_lone_right:Fn P w K mg base ad "_law_lone_right" 8 ["one","other","size","length"] (fE pt))(F_law_turns_right:Fn P w K mg base ad "_law_turns_right" 8 ["one","other","size","length"] (fE pt))(F_law_three_right:Fn P w K mg base ad "_law_three_right" 8 ["one","other","length"] (kb pt)):Fn P w K mg base ad "law" 9 ["script"] (eL K pt):=by
 refine aQ M F scLaw (fun _ _ _ _ _ _=>bM fun _=>rfl) (fun vs H Q E h=>?_) (fun f cdv A outer s H vs Q E hr h=>?_)
 ·obtain⟨a,ns,rfl,_⟩:=h;rfl
 ·obtain⟨a,ns,rfl,hS,hlen,T,k⟩:=h
  refine⟨_,(ae (cS PassesOwn.never rfl (cM (ak dB (a6 (aa af ab)) (bD bC (pv 0) bS (bv af)))) (bh (i:=1) scLaw.nd rfl (.inl rfl))
   (ae (aB (i:=2) scLaw.nd rfl (.inl rfl) (am F_law_pot hr ap (aa (pv 1) ab)))
   (ae (aB (i:=3) scLaw.nd rfl (.inl rfl) (mQ rfl B.list c6))
   (ae (aB (i:=4) scLaw.nd rfl (.inl rfl) (dt PySem.F.plainAttrs_list PySem.F.slot_list_pop PySem.F.type_list_pop o8 (pv 3) (aa (am F_law_take hr ap (aa (pv 2) (aa af ab))) ab)))
   (ae (aB (i:=5) scLaw.nd rfl (.inl rfl) (aP aO (pv 3) (am F_law_take hr ap (aa (pv 2) (aa af ab))) (fun _ _=>rfl)))
   (ae (aB (i:=6) scLaw.nd rfl (.inl rfl) (ak bg af (am F_law_take hr ap (aa (pv 2) (aa (aP aO (a6 (aa af (aa af ab))) (am F_law_take hr ap (aa (pv 2) (aa af ab))) (fun _ _=>rfl)) ab)))))
   (ae (aB (i:=7) scLaw.nd rfl (.inl rfl) (ak bg af (am F_law_take hr ap (aa (pv 2) (aa (aP aO (a6 (aa af (aa af ab))) (am F_law_take hr ap (aa (pv 2) (aa af ab))) (fun _ _=>rfl)) ab)))))
   (ae (aU (PW.pt (eG (c0 (dO (am F_law_one_right hr ap (aa (pv 4) (aa (pv 7) (aa (pv 6) ab)))))) (d6 (c0 (dO (am F_law_lone_right hr ap (aa (pv 4) (aa (pv 5) (aa (pv 7) (aa (pv 6) ab)))))))))) (al (aD bu)) aW)
   (al (aU (PW.pt (eG (c0 (dO (am F_law_turns_right hr ap (aa (pv 4) (aa (pv 5) (aa (pv 7) (aa (pv 6) ab))))))) (d6 (c0 (dO (am F_law_three_right hr ap (aa (pv 4) (aa (pv 5) (aa (pv 6) ab))))))))) (al (aD bu)) aW))))))))))
   (al (aD bu))),?_⟩
  refine rz (qC (K:=K) (n:=8) rfl hS (by decide) (by decide) fun b cs H1 hb1 sm1=>⟨b,rfl,⟨_,SqL.of hb1⟩,?_⟩)
  have T1:=T.same sm1
  refine mY (K:=K) (a:=b) (xs:=cs.map V.int) (fun i σ H2=>H2 b=some (.lst (cs.map V.int))∧TB H2 pt∧∃v1 v2 v3 v4 v5 v6 v7,σ=[some (.ref a),v1,v2,v3,v4,v5,v6,v7]) ⟨hb1,T1,_,_,_,_,_,_,_,rfl⟩ (fun i σ H2 _ h2=>SqL.of h2.1) ?_ ?_
  ·rintro D1 i x σ H2 nx1 hx ⟨hb2,T2,v1,v2,v3,v4,v5,v6,v7,rfl⟩
   obtain⟨c,rfl⟩:=nX hx
   refine a8 ⟨_,rfl,c,rfl,fun p H3 hp0 hp3 s3=>?_⟩
   have hb3:=s3 _ _ hb2
   have nb:b≠p:=aK hb2 hp0
   have T3:=T2.same s3
   have naz:az.Nodup:=by decide+kernel
   have azl:az.length=26:=by simp[az]
   refine a8 ⟨⟨az.toArray⟩,rfl,by rw[lU];exact sz (by simp[az]),fun l hl=>?_⟩
   have s4:=Same.upd (o:=.lst (az.map sg)) hl
   have hl4:(L2.upd H3 l (.lst (az.map sg))) l=some (.lst (az.map sg)):=ag
   have nlp:l≠p:=(hp3.ne hl).symm
   have nbl:b≠l:=aK hb3 hl
   have hp4:=hp3.same s4
   have hb4:=s4 _ _ hb3
   have T4:=T3.same s4
   generalize L2.upd H3 l (.lst (az.map sg))=H4 at s4 hl4 hp4 hb4 T4 ⊢
   refine a8 ⟨_,rfl,.inl ⟨rfl,_,SqL.of hl4⟩,_,rfl,p,26,rfl,hp4,by decide,by decide,fun r H5 r0 r1 hp5 k5=>?_⟩
   have hl5:=k5 _ _ hl4 nlp
   have hb5:=k5 _ _ hb4 nb
   have T5:TB H5 pt:=TB.hand T4 hp4 k5
   have hr':r.toNat<az.length:=by lia
   have hc':az[r.toNat]?=some az[r.toNat]:=by simp[hr']
   refine⟨l,_,r,r.toNat,sg az[r.toNat],rfl,rfl,hl5,by lia,by lia,?_,by rw[List.getElem?_map,hc'];rfl,?_⟩
   ·rw[List.length_map]
    exact(ix (pO _ _ r0 (by lia))).1
   rw[pC]
   obtain⟨hx1,hx2⟩:=jM (List.getElem_mem hr')
   have nin:=nT naz hr'
   have el:(az.eraseIdx r.toNat).length=25:=by rw[List.length_eraseIdx,if_pos hr',azl]
   have em:∀d∈az.eraseIdx r.toNat,d∈az:=fun d hd=>List.mem_of_mem_eraseIdx hd
   generalize az[r.toNat]=x at nin hx1 hx2 ⊢
   generalize az.eraseIdx r.toNat=lf at nin el em ⊢
   have hl6:=ag (H:=H5) (a:=l) (o:=.lst (lf.map sg))
   have hp6:Hand (L2.upd H5 l (.lst (lf.map sg))) p:=hp5.upd (Ne.symm nlp)
   have hb6:(L2.upd H5 l (.lst (lf.map sg))) b=some (.lst (cs.map V.int)):=by rw[ao nbl];exact hb5
   have T6:TB (L2.upd H5 l (.lst (lf.map sg))) pt:=by
    have np:=T5.ne hl5
    rcases T5 with t | ⟨c,t1,t2⟩
    ·exact .inl (by rw[ao (Ne.symm np)];exact t)
    ·exact .inr ⟨c,by rw[ao (Ne.symm np)];exact t1,by rw[ao (rf t2 hl5 fun z=>nomatch z)];exact t2⟩
   generalize L2.upd H5 l (.lst (lf.map sg))=H6 at hl6 hp6 hb6 T6 ⊢
   refine a8 ⟨_,rfl,_,rfl,p,25,rfl,hp6,by decide,by decide,fun r2 H7 q0 q1 hp7 k7=>?_⟩
   have hb7:=k7 _ _ hb6 nb
   have T7:TB H7 pt:=TB.hand T6 hp6 k7
   have hr2:r2.toNat<lf.length:=by lia
   have hat:aX (lf.map sg) r2=some (sg lf[r2.toNat]):=by
    have h:=bX (xs:=lf.map sg) (j:=r2.toNat) (v:=sg lf[r2.toNat]) (by rw[List.getElem?_map,List.getElem?_eq_getElem hr2];rfl)
    rwa[show((r2.toNat:Nat):Int)=r2 by lia] at h
   refine⟨l,_,_,_,rfl,rfl,SqL.of (k7 _ _ hl6 nlp),hat,?_⟩
   have ym:=List.getElem_mem hr2
   generalize lf[r2.toNat]=y at ym ⊢
   obtain⟨hy1,hy2⟩:=jM (em y ym)
   have xy:x≠y:=fun e=>nin (by rw[e];exact ym)
   clear hat hl6 nin em el hl5 hl4 hc' hr'
   refine a8 ⟨_,rfl,by show 2≤sizeLine;decide,fun l2 hl2=>?_⟩
   have s8:=Same.upd (o:=.lst [V.int 12,.int 200]) hl2
   have hl28:=ag (H:=H7) (a:=l2) (o:=.lst [V.int 12,.int 200])
   have nl2:l2≠p:=(hp7.ne hl2).symm
   have hp8:=hp7.same s8
   have hb8:=s8 _ _ hb7
   have T8:=T7.same s8
   generalize L2.upd H7 l2 (.lst [V.int 12,.int 200])=H8 at s8 hl28 hp8 hb8 T8 ⊢
   refine⟨_,rfl,p,2,rfl,hp8,by decide,by decide,fun r3 H9 q0 q1 hp9 k9=>?_⟩
   obtain⟨m,m1,m2,hat⟩:∃m:Int,1≤m∧m≤200∧aX [V.int 12,.int 200] r3=some (.int m):=by
    have:r3=0∨r3=1:=by lia
    rcases this with h | h
    ·subst h;exact⟨12,by decide,by decide,rfl⟩
    ·subst h;exact⟨200,by decide,by decide,rfl⟩
   have T9:TB H9 pt:=TB.hand T8 hp8 k9
   refine⟨l2,_,_,_,rfl,rfl,SqL.of (k9 _ _ hl28 nl2),hat,p,m,rfl,hp9,m1,by lia,fun g H10 g0 g1 hp10 k10=>⟨_,_,rfl,rfl,?_⟩⟩
   have hb10:=k10 _ _ (k9 _ _ hb8 nb) nb
   have T10:TB H10 pt:=TB.hand T9 hp9 k10
   obtain⟨n,hn⟩:∃n:Nat,1+g=(n:Int):=⟨(1+g).toNat,by lia⟩
   dsimp only
   rw[hn]
   have n1:1≤n:=by lia
   have n2:n≤200:=by lia
   clear hn g0 g1 hat m1 m2 hl28 s8 k9 k10
   refine a8 ⟨_,rfl,by show 2≤sizeLine;decide,fun l3 hl3=>?_⟩
   have s11:=Same.upd (o:=.lst [V.int 4,.int 99]) hl3
   have hl311:=ag (H:=H10) (a:=l3) (o:=.lst [V.int 4,.int 99])
   have nl3:l3≠p:=(hp10.ne hl3).symm
   have hp11:=hp10.same s11
   have hb11:=s11 _ _ hb10
   have T11:=T10.same s11
   generalize L2.upd H10 l3 (.lst [V.int 4,.int 99])=H11 at s11 hl311 hp11 hb11 T11 ⊢
   refine⟨_,rfl,p,2,rfl,hp11,by decide,by decide,fun r4 H12 q2 q3 hp12 k12=>?_⟩
   obtain⟨m,m1,m2,hat⟩:∃m:Int,1≤m∧m≤99∧aX [V.int 4,.int 99] r4=some (.int m):=by
    have:r4=0∨r4=1:=by lia
    rcases this with h | h
    ·subst h;exact⟨4,by decide,by decide,rfl⟩
    ·subst h;exact⟨99,by decide,by decide,rfl⟩
   have T12:TB H12 pt:=TB.hand T11 hp11 k12
   refine⟨l3,_,_,_,rfl,rfl,SqL.of (k12 _ _ hl311 nl3),hat,p,m,rfl,hp12,m1,by lia,fun g H13 g0 g1 hp13 k13=>⟨_,_,rfl,rfl,?_⟩⟩
   have hb13:=k13 _ _ (k12 _ _ hb11 nb) nb
   have T13:TB H13 pt:=TB.hand T12 hp12 k13
   obtain⟨z,hz⟩:∃z:Nat,1+g=(z:Int):=⟨(1+g).toNat,by lia⟩
   dsimp only
   rw[hz]
   have z1:1≤z:=by lia
   have z2:z≤99:=by lia
   clear hz g0 g1 hat m1 m2 hl311 s11 k12 k13
   have K13:=KT.refl T13
   refine cK (fun H'=>KT pt H13 H') (fun R hR=>?_) fun H14 K14=>?_
   ·refine eA (fun H'=>KT pt H13 H') (fun R' hR'=>?_) fun H14 K14=>?_
    ·exact⟨_,rfl,_,rfl,_,rfl,x,z,n,rfl,hx1,hx2,z1,z2,n1,n2,T13,fun H14 K14=>⟨_,rfl,hR' _ K14⟩⟩
    ·exact⟨_,rfl,_,rfl,_,rfl,_,rfl,x,y,z,n,rfl,hx1,hx2,hy1,hy2,xy,z1,z2,n1,n2,K14.t,fun H15 K15=>⟨_,rfl,hR _ (K14.trans K15)⟩⟩
   ·refine oe (fun H'=>KT pt H13 H') (fun R hR=>?_) fun H15 K15=>nx1 _ _ ⟨K15.k _ _ hb13 (T13.ne hb13),K15.t,_,_,_,_,_,_,_,rfl⟩
    refine eA (fun H'=>KT pt H13 H') (fun R' hR'=>?_) fun H15 K15=>?_
    ·exact⟨_,rfl,_,rfl,_,rfl,_,rfl,x,y,z,n,rfl,hx1,hx2,hy1,hy2,xy,z1,z2,n1,n2,K14.t,fun H15 K15=>⟨_,rfl,hR' _ (K14.trans K15)⟩⟩
    ·exact⟨_,rfl,_,rfl,_,rfl,x,y,n,rfl,hx1,hx2,hy1,hy2,xy,n1,n2,K15.t,fun H16 K16=>⟨_,rfl,hR _ (K15.trans K16)⟩⟩
  ·rintro σ H2 ⟨hb2,T2,v1,v2,v3,v4,v5,v6,v7,rfl⟩
   exact k H2 T2
end
def gy(n:Int):Option (Option Value)→Bool
 | some (some (.int i _))=>decide (i=n)
 | _=>false
theorem my{n:Int}{o:Option (Option Value)}(h:gy n o=true):∃u,o=some (some u)∧RelV (.int n) u:=by
 unfold gy at h
 split at h
 ·rename_i i t
  have e:i=n:=of_decide_eq_true h
  subst e
  exact⟨_,rfl,t,rfl⟩
 ·cases h
theorem qk{P:Program}{w:World}{K:PySem.W.Frag}{mg:Str→Option Value}{st:Stmt}{fa:Addr}{k:Nat}{sp:Sp}{CX:be}(M:Md K mg)(F:FF K "law" st)(hfa:mg "law"=some (.ref fa))(hb:∀(kV doc pm:Value) (an:Option Addr) (cdv ct:Value) (s:Shared) (v:Value),BindsTo s (PySem.W.fnOf "law" "law" (bA st) (bd st) (ar st) .none kV doc pm an cdv ct) ⟨[v],[]⟩ [("script",v)])(h:∀base:Heap,K.In base→bt mg base→Fn P w K mg base CX "law" k ["script"] sp):∃fd:FuncData,(∀(s:Shared) (v:Value),BindsTo s fd ⟨[v],[]⟩ [("script",v)])∧∀base:Heap,K.In base→base.Ns mainGlobals mg→bt mg base→FnOk P w K mg base CX k fa fd ["script"] sp:=by
 obtain⟨f,oc,od,an,osl,kV,doc,pm,cdv,ct,a,l,c,kk⟩:=F.ex
 have e:=hfa.symm.trans (M.ns _ _ a)
 cases e
 refine⟨_,hb kV doc pm an cdv ct,fun base hK _ hB=>?_⟩
 obtain⟨f',fd',F',hm',_,_,oc',od',osl',l'⟩:=(h base hK hB).ex
 have e:=hm'.symm.trans (M.ns _ _ a)
 cases e
 rw[l] at l'
 cases l'
 exact F'
theorem all_mk{P:Program}{w:World}{K:PySem.W.Frag}{h:Heap}{mg:Str→Option Value}{fa cc pt:Addr}(X:K.In h)(G:h.Ns mainGlobals mg)(hfa:mg "law"=some (.ref fa))(hC:PySem.W.codeHdIn K cc pt=true)(f1:FF K "_law_pot" gw)(f2:FF K "_law_take" gp)(f3:FF K "is_sign" gd)(f4:FF K "check_signs" fW)(f5:FF K "check_word" fZ)(f6:FF K "borders" ib)(f7:FF K "periods" fS)(f8:FF K "lies_at" gA)(f9:FF K "shifts" hZ)(f10:FF K "check_some" ig)(f11:FF K "first_bare" fN)(f12:FF K "covered" fM)(f13:FF K "check_within" gc)(f14:FF K "counts_by_length" gI)(f15:FF K "count_covered" fO)(f16:FF K "next_step" gg)(f17:FF K "text_at" il)(f18:FF K "length_of" hV)(f19:FF K "number_of" gY)(f20:FF K "_law_one_right" ii)(f21:FF K "_law_lone_right" iz)(f22:FF K "_law_turns_right" ir)(f23:FF K "_law_three_right" gs)(f24:FF K "law" gG)(fC:FFC K "single_steps" cY cc)(na:PySem.W.nsIn K mainGlobals "sorted"=some none)(nm:gy 200 (PySem.W.nsIn K mainGlobals "MOST_LENGTH")=true)(b:Md K mg→Bl mg):∃fd:FuncData,(∀(s:Shared) (v:Value),BindsTo s fd ⟨[v],[]⟩ [("script",v)])∧∀base:Heap,K.In base→base.Ns mainGlobals mg→bt mg base→FnOk P w K mg base ad 9 fa fd ["script"] (eL K pt):=by
 have M:=nM X G
 have Bl:=b M
 obtain⟨uM,nm1,nm2⟩:=my nm
 have nm3:=M.ns _ _ nm1
 have nsorted:mg "sorted"=none:=M.ns _ _ na
 refine qk M f24 hfa (fun _ _ _ _ _ _ s v=>.of_eq rfl) fun base hK hB=>?_
 have C:=PySem.W.codeHd_of_K hK hC
 have g1:=mB (P:=P) (w:=w) (base:=base) M Bl f1
 have g2:=pE (P:=P) (w:=w) (base:=base) M f2
 have g7:=n8 (P:=P) (w:=w) (base:=base) M Bl f3
 have g8:=rD M Bl f4 g7
 have g9:=qU M Bl f5 g8
 have g10:=lQ M Bl f6 g8
 have g11:=qH M Bl f7 g10
 have g12:=lS M Bl f8 g8 g9
 have g13:=pI M Bl f9 g9 g11
 have g14:=pB (P:=P) (w:=w) (base:=base) M Bl f10
 have g15:=qD (P:=P) (w:=w) (base:=base) M Bl f11
 have g16:=rT M Bl f12 g12 g14 g15
 have g17:=nZ (P:=P) (w:=w) (base:=base) M Bl f13
 have gS:=rF M Bl nsorted C hB fC g13 g12
 have g19:=pV (P:=P) (w:=w) (base:=base) M Bl f14
 have g20:=pz M Bl nm3 nm2 f15 g9 g17 gS g19
 have g21:=oD (P:=P) (w:=w) (base:=base) M Bl f16
 have g22:=nW M Bl nm3 nm2 f17 g9 g17 gS g19 g21
 have g23:=pj M Bl nm3 nm2 f18 g9 gS g19
 have g24:=mf M Bl f19 g16 gS g19
 have g25:=pF M Bl f20 g20 g23 g22 g24
 have g26:=oo M Bl f21 g20 g23 g22
 have g27:=rm M Bl f22 g20 g22
 have g28:=mz M Bl f23 g20 g23 g22
 exact oA M Bl f24 g1 g2 g25 g26 g27 g28
theorem walk{l:PySem.W.OpenLaw}{q:Program}{loose:List Str}{XP:(Str→Option Value)→Heap→Prop}{YP:World→Heap→Prop}{d:DefRec}{K:Params→PySem.W.Frag}{c pt:Addr}(hn:l.most=some 63)(hdf:d.params.defaults=[])(hY:∀(w:World) (h:Heap),YP w h→(K w.params).In h)(hT:∀(w:World) (h:Heap),YP w h→h.get? pt=some (PySem.W.tabObj #[]))(hC:∀w:World,PySem.W.codeHdIn (K w.params) c pt=true)(hKP:∀w:World,(K w.params).lookup pt=none)(F:∀(w:World) (mg:Str→Option Value) (fa:Addr) (h:Heap),PySem.W.codeHdIn (K w.params) c pt=true→(K w.params).In h→h.Ns mainGlobals mg→mg d.name=some (.ref fa)→∃fd:FuncData,(∀(s:Shared) (u:Value),BindsTo s fd ⟨[u],[]⟩ [("script",u)])∧∀base:Heap,(K w.params).In base→base.Ns mainGlobals mg→bt mg base→FnOk l.prog w (K w.params) mg base ad 9 fa fd ["script"] (eL (K w.params) pt)):PySem.W.WalkO q loose XP YP l.row.toRowW d [] (fun f vs=>PySem.call f vs):=by
 refine L2.walk_tab (n:=63) (k:=9) (x:="script") (c:=c) (P:=pt) (CX:=fun _=>ad) (sp:=fun w=>eL (K w.params) pt) hn (by decide) hdf ⟨rfl,by decide,by decide⟩ hY hT hC hKP (fun w mg fa h=>F w mg fa h (hC w)) (fun _ _ a ns hl B hS=>⟨a,ns,rfl,hS,hl,.inl B.tab,fun H' T=>⟨rfl,?_⟩⟩) fun _ _ _ _ _ z=>z
 rcases T with t | ⟨c,t,_⟩
 ·exact⟨_,t⟩
 ·exact⟨_,t⟩
end Ov
noncomputable section
namespace PySem.W.Fast
def tw17904555306341166419:=Nat
def tw5168458191129437246:=Nat
def tw9211928083345010242:=Nat
def tw10463551608513290473:=Nat
def tw6050366924508374723:=Nat
def tw12742009928722186377:=Nat
def tw9648884791017293784:=Nat
def tw6019595142516578957:=Nat
def tw7753059578762541119:=Nat
def tw4615156457860476115:=Nat
def tw14737440962693092610:=Nat
def tw14810634299061330745:=Nat
def tw3838279089225158676:=Nat
def tw12861006918554665760:=Nat
def tw5547292490320237369:=Nat
def tw10356649841825134036:=Nat
def tw17026916212541216592:=Nat
def tw6377485439467531629:=Nat
def tw627258023148003820:=Nat
def tw10368540464935395903:=Nat
def tw7351336304891684770:=Nat
def tw1554503029195793846:=Nat
def tw14000717222570006899:=Nat
def tw3259116505219463621:=Nat
def tw13834310286956753146:=Nat
def tw4183404176302230149:=Nat
def tw1448720555796449483:=Nat
def tw5997781301877178244:=Nat
def tw734732785205897650:=Nat
def tw994760536053209527:=Nat
def tw5300700994037803398:=Nat
def tw15283181289980918975:=Nat
def tw8431515112295056041:=Nat
def tw11834756991323833045:=Nat
def tw907045370826881876:=Nat
def tw13477951630762916638:=Nat
def tw797210186438768434:=Nat
def tw2402977050921399221:=Nat
def tw10471104145024503633:=Nat
def tw2615903486034568172:=Nat
def tw3002667467509013599:=Nat
def tw6217504636847107489:=Nat
def tw14563987761205001388:=Nat
def tw15934167337408001034:=Nat
def tw1570732504428293183:=Nat
def tw8403362790712302701:=Nat
def tw13873568525222085217:=Nat
def tw9952354742392209147:=Nat
def tw15681065047167727205:=Nat
def tw15375561595379301965:=Nat
def tw4255449655404164947:=Nat
def tw8445772587855783743:=Nat
def tw848708082275083394:=Nat
def tw11148596336582365413:=Nat
def tw10428116479970981348:=Nat
def tw12410906241394429397:=Nat
def tw2449226170549646266:=Nat
def tw5945173431374065007:=Nat
def tw12837328463067267502:=Nat
def tw15192804306833983350:=Nat
def tw8748998524850886059:=Nat
def tw8178818997685574326:=Nat
def tw7721709729842237145:=Nat
def tw8832375457776153091:=Nat
def tw9109076304443837747:=Nat
def tw1577129155491120935:=Nat
def tw17480007192829789977:=Nat
def tw11003541826929540148:=Nat
def tw7282144780355603177:=Nat
def tw17003575873389084263:=Nat
def tw15350069174741160670:=Nat
def tw7488775129147181009:=Nat
def tw3652255754526340403:=Nat
def tw7644443384678469563:=Nat
def tw5318837257618647146:=Nat
def tw16533209634621006886:=Nat
def tw9139952658405387758:=Nat
def tw2925984432741413850:=Nat
def tw17256930289693598464:=Nat
def tw16453928343247811192:=Nat
def tw2134816549416191321:=Nat
def tw13760178689324855994:=Nat
def tw987998779755097587:=Nat
def tw15263790761300036398:=Nat
def tw5625448993877815141:=Nat
def tw18112224861491126802:=Nat
def tw4337311611181332517:=Nat
def tw17566875488054585042:=Nat
def tw11303345199431752805:=Nat
def tw14322840584783360224:=Nat
def tw8804371306498231719:=Nat
def tw12600570974615447863:=Nat
def tw5209326376157578291:=Nat
def tw3058568138699814691:=Nat
def tw3414678706803971699:=Nat
def tw6617113110628821518:=Nat
def tw4433860556849055954:=Nat
def tw17899853682016705557:=Nat
def tw4520673723861933519:=Nat
def tw11097757294232762560:=Nat
end PySem.W.Fast
end
open PySem PySem.W PyProof.Rows
set_option maxRecDepth 100000 in
set_option maxHeartbeats 0 in
theorem PySem.Challenge.cw_overlaid_k42_counts_planted_holds : PySem.Challenge.rw_overlaid_k42_counts_planted.Holds := by
 w_on;o_law;k_head;(case hw=>w_witness2)
 k_fill
 refine' Ov.walk (l:=PySem.Challenge.rw_overlaid_k42_counts_planted) rfl rfl (fun w h Y=>PySem.W.km_in_of Y) (fun w h Y=>PySem.W.km_tabs_of Y _ List.mem_cons_self) ?hC ?hKP ?F
 case F=>
  intro w mg fa h hc KX G hmg
  refine' Ov.all_mk KX G hmg hc ?f1 ?f2 ?f3 ?f4 ?f5 ?f6 ?f7 ?f8 ?f9 ?f10 ?f11 ?f12 ?f13 ?f14 ?f15 ?f16 ?f17 ?f18 ?f19 ?f20 ?f21 ?f22 ?f23 ?f24 ?fC ?Nsorted ?NMOST ?B
  (case fC=>(refine' Ov.ffc_mk ?a ?l ?c ?k;(case a|l|c|k=>k_is)))
  (case f1|f2|f3|f4|f5|f6|f7|f8|f9|f10|f11|f12|f13|f14|f15|f16|f17|f18|f19|f20|f21|f22|f23|f24=>(refine' L2.ff_mk ?a ?l ?c ?k;(case a|l|c|k=>k_is)))
  (case Nsorted=>k_is)
  (case NMOST=>kernel_rfl)
  (case B=>(intro M;refine' L2.bl_of M ?b1 ?b2 ?b3 ?b4 ?b5 ?b6 ?b7 ?b8 ?b9 ?b10 ?b11 ?b12 ?b13 ?b14 ?b15;(case b1|b2|b3|b4|b5|b6|b7|b8|b9|b10|b11|b12|b13|b14|b15=>k_is)))
 case hC=>(intro w;kernel_rfl)
 case hKP=>(intro w;kernel_rfl)
