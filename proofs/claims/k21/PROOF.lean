import PyProof.Rows.All
import Wide.All
import OpenK.AllK
import Wide.FinOn
import Lean
import PyProof.EqAt
import PyProof.EqKinds
import PyProof.TupleCall
import PySem.Challenge.RW_overlaid_k21_rests_refused
set_option Elab.async false
set_option linter.all false
set_option maxRecDepth 100000
namespace L2
open PySem PySem.Spec PyProof.Rows
abbrev ay:=Sum Int Str
def dG:ay→Value→Bool
 | .inl k,v=>Value.isInt k v
 | .inr x,v=>Value.isStrOf x v
def pz(w:World):ay→Int
 | .inl k=>hashInt k
 | .inr x=>hashStr w x
theorem cF:∀{k:ay} {v:Value},dG k v=true→(∃i t,k=Sum.inl i∧v=Value.int i t)∨(∃x t,k=Sum.inr x∧v=Value.str x t)
 | .inl i,v,h=>by
   obtain⟨t,e⟩:=Value.isInt_shape (k:=i) (v:=v) h
   exact .inl ⟨i,t,rfl,e⟩
 | .inr x,v,h=>by
   obtain⟨t,e⟩:=Value.isStrOf_shape (x:=x) (v:=v) h
   exact .inr ⟨x,t,rfl,e⟩
theorem qt(i:Int)(t:Tok):dG (.inl i) (.int i t)=true:=by simp[dG,Value.isInt]
theorem su(x:Str)(t:Tok):dG (.inr x) (.str x t)=true:=by simp[dG,Value.isStrOf]
theorem rB(a b:Int):decide ((Sum.inl a:ay)=Sum.inl b)=(a == b):=by
 by_cases e:a=b
 ·subst e;simp
 ·have h:¬(Sum.inl a:ay)=Sum.inl b:=fun q=>e (Sum.inl.inj q)
  rw[decide_eq_false h]
  exact(beq_eq_false_iff_ne.mpr e).symm
theorem ql(a b:Str):decide ((Sum.inr a:ay)=Sum.inr b)=decide (a=b):=by
 by_cases e:a=b
 ·subst e;simp
 ·have h:¬(Sum.inr a:ay)=Sum.inr b:=fun q=>e (Sum.inr.inj q)
  rw[decide_eq_false h,decide_eq_false e]
theorem rW(a:Int)(b:Str):decide ((Sum.inl a:ay)=Sum.inr b)=false:=decide_eq_false (fun q=>nomatch q)
theorem qT(a:Str)(b:Int):decide ((Sum.inr a:ay)=Sum.inl b)=false:=decide_eq_false (fun q=>nomatch q)
def bG(prog:Program)(w:World):PySem.KeyKind prog w ay where
 is:=dG
 hash:=pz w
 inj:=fun v a b ha hb=>by
  rcases cF ha with⟨i,t,rfl,rfl⟩ | ⟨x,t,rfl,rfl⟩
  ·rcases cF hb with⟨j,u,rfl,e⟩ | ⟨y,u,rfl,e⟩
   ·injection e with e1 _;rw[e1]
   ·exact nomatch e
  ·rcases cF hb with⟨j,u,rfl,e⟩ | ⟨y,u,rfl,e⟩
   ·exact nomatch e
   ·injection e with e1 _;rw[e1]
 byValue:=fun k v h=>by
  rcases cF h with⟨i,t,rfl,rfl⟩ | ⟨x,t,rfl,rfl⟩ <;> rfl
 pyHash:=fun hv h=>by
  rcases cF hv with⟨i,t,rfl,rfl⟩ | ⟨x,t,rfl,rfl⟩
  ·exact wpAny_pyHash_int h
  ·exact wpAny_pyHash_str h
 eqBool:=fun hu hv h=>by
  rcases cF hu with⟨i,t,rfl,rfl⟩ | ⟨x,t,rfl,rfl⟩
  ·rcases cF hv with⟨j,u,rfl,rfl⟩ | ⟨y,u,rfl,rfl⟩
   ·rw[rB] at h;exact wpAny_eqBool_int h
   ·rw[rW] at h;exact SeqAt.EqAt.int_str i t y u _ _ _ _ h
  ·rcases cF hv with⟨j,u,rfl,rfl⟩ | ⟨y,u,rfl,rfl⟩
   ·rw[qT] at h;exact SeqAt.EqAt.str_int x t j u _ _ _ _ h
   ·rw[ql] at h;exact wpAny_eqBool_str h
 «strs»:=fun k x t v h=>by
  rcases cF h with⟨i,u,rfl,e⟩ | ⟨y,u,rfl,e⟩
  ·exact nomatch e
  ·injection e with e1 _
   subst e1
   cases v <;> rfl
theorem pH(prog:Program)(w:World)(i:Int)(t:Tok):(bG prog w).is (.inl i) (.int i t)=true:=qt i t
theorem rG(prog:Program)(w:World)(x:Str)(t:Tok):(bG prog w).is (.inr x) (.str x t)=true:=su x t
inductive V where
 | non | bl (b:Bool) | int (i:Int) | str (x:Str) | byt (b:Array UInt8) | flt (b:UInt64) | ref (a:Addr) | ty (n:String)
 deriving DecidableEq
def RelV:V→Value→Prop
 | .non,u=>u=Value.none
 | .bl b,u=>u=Value.bool b
 | .int i,u=>∃t,u=Value.int i t
 | .str x,u=>∃t,u=Value.str x t
 | .byt b,u=>∃t,u=Value.bytes b t
 | .flt b,u=>∃t,u=Value.float b t
 | .ref a,u=>u=Value.ref a
 | .ty n,u=>u=Value.type n
abbrev Vals:List V→List Value→Prop:=Paired RelV
theorem Vals.length{xs:List V}{us:List Value}(r:Vals xs us):xs.length=us.length:=Paired.length r
theorem Vals.get:∀{xs:List V} {us:List Value} {i:Nat} {x:V},Vals xs us→xs[i]?=some x→∃u,us[i]?=some u∧RelV x u
 | _,_,_,_,.nil,e=>by simp at e
 | _,_,0,_,.cons r _,e=>by simp at e;subst e;exact⟨_,rfl,r⟩
 | _,_,i+1,x,.cons _ t,e=>by
   obtain⟨u,h1,h2⟩:=Vals.get (i:=i) (x:=x) t (by simpa using e)
   exact⟨u,by simpa using h1,h2⟩
theorem Vals.set{x:V}{u:Value}(r:RelV x u):∀{xs:List V} {us:List Value} (i:Nat),Vals xs us→Vals (xs.set i x) (us.set i u)
 | _,_,_,.nil=>.nil
 | _,_,0,.cons _ t=>.cons r t
 | _,_,i+1,.cons q t=>.cons q (Vals.set r i t)
theorem Vals.append:∀{xs ys:List V} {us ws:List Value},Vals xs us→Vals ys ws→Vals (xs++ys) (us++ws)
 | _,_,_,_,.nil,s=>s
 | _,_,_,_,.cons r t,s=>.cons r (Vals.append t s)
theorem Vals.take:∀{xs:List V} {us:List Value} (n:Nat),Vals xs us→Vals (xs.take n) (us.take n)
 | _,_,0,_=>.nil
 | _,_,_+1,.nil=>.nil
 | _,_,n+1,.cons r t=>.cons r (Vals.take n t)
theorem Vals.drop:∀{xs:List V} {us:List Value} (n:Nat),Vals xs us→Vals (xs.drop n) (us.drop n)
 | _,_,0,r=>r
 | _,_,_+1,.nil=>.nil
 | _,_,n+1,.cons _ t=>Vals.drop n t
def fZ:Option V→Option Value→Prop
 | some v,some u=>RelV v u
 | none,none=>True
 | _,_=>False
def KV{κ:Type}:List (κ×V)→List (κ×Value)→Prop:=Paired fun(p:κ×V) (q:κ×Value)=>p.1=q.1∧RelV p.2 q.2
def kV:ay→V
 | .inl i=>.int i
 | .inr x=>.str x
inductive HO where
 | lst (xs:List V)
 | tup (xs:List V)
 | dK (kvs:List (ay×V)) | dT (kvs:List (List ay×V))
 | set (S:Int→Bool) (n:Nat)
 | ins (C dx:Addr) (fs:List (Str×V))
 | own (x:Addr)
 | xd (fs:List (Str×V))
 | met (f x:Addr)
 | rng (lo hi:Int)
 | frz (o:Obj) (u:HO)
 | tbl (ps:Array Value)
 | ext (φ:Heap→Prop)
abbrev Hp:=Addr→Option HO
def upd(H:Hp)(a:Addr)(o:HO):Hp:=fun b=>if b=a then some o else H b
theorem af{H:Hp}{a:Addr}{o:HO}:upd H a o a=some o:=by unfold upd;rw[if_pos rfl]
theorem ap{H:Hp}{a b:Addr}{o:HO}(h:b≠a):upd H a o b=H b:=by unfold upd;rw[if_neg h]
theorem cK{H:Hp}{a b:Addr}{o u:HO}(h:H a=some o)(h':H b=some u)(d:o≠u):a≠b:=by
 intro e;subst e;rw[h] at h';exact d (Option.some.inj h')
theorem aW{H:Hp}{a b:Addr}{o:HO}(h:H a=some o)(h':H b=none):a≠b:=by
 intro e;subst e;rw[h] at h';cases h'
section
variable(P:Program)(w:World)
def ObjOk(H:Hp)(h:Heap)(a:Addr):HO→Prop
 | .lst xs=>xs.length≤sizeLine∧∃(its:List Value) (n:Nat),Vals xs its∧h.get? a=some {cls:=.type "list",data:=.seq its.toArray n}
 | .tup xs=>xs.length≤sizeLine∧∃its:List Value,Vals xs its∧IsTup h a its.toArray
 | .dK kvs=>kvs.length≤sizeLine∧(a == sysModules)=false∧∃vs,KV kvs vs∧h.DictOf (bG P w) a vs
 | .dT kvs=>kvs.length≤sizeLine∧(a == sysModules)=false∧∃xs:List (List ay×Addr×Value),
  Paired (fun(p:List ay×V) (q:List ay×Addr×Value)=>p.1=q.1∧H q.2.1=some (.tup (p.1.map kV))∧RelV p.2 q.2.2) kvs xs∧
  ∃o es ep,h.get? a=some o∧o.ExactDict∧o.data=.dict es ep∧es.toList=xs.map (entryOfKey (tupleKind (bG P w)))∧(xs.map (·.1)).Nodup
 | .set S n=>h.SetOf (intKind P w) a S n
 | .ins C dx fs=>H dx=some (.own a)∧fs.length≤1000∧dx≠a∧h.get? a=some (PySem.W.instObj C dx)∧
  ∃mA,h.Ns1 dx mA∧(∀f,fZ (fs.lookup f) (mA f))∧PySem.Within mA (fs.map (·.1))
 | .own _=>∃o,h.get? a=some o
 | .xd fs=>∃mA,h.Ns1 a mA∧∀f,fZ (fs.lookup f) (mA f)
 | .rng lo hi=>∃t u v,h.get? a=some {cls:=.type "range",data:=.fields #[.int lo t,.int hi u,.int 1 v]}
 | .frz o u=>h.get? a=some o∧ObjOk H h a u
 | .tbl ps=>h.get? a=some {cls:=.none,data:=.fields ps}
 | .met f x=>h.get? a=some (PySem.W.methodObj (.ref f) (.ref x))
 | .ext φ=>φ h∧(∃o,h.get? a=some o)∧∀h1 h2:Heap,φ h1→(∀o,h1.get? a=some o→h2.get? a=some o)→φ h2
def HOk(H:Hp)(h:Heap):Prop:=∀a o,H a=some o→ObjOk P w H h a o
end
section
variable{P:Program}{w:World}{H H':Hp}{h h':Heap}{a:Addr}{o:HO}
theorem ObjOk.lt(x:ObjOk P w H h a o):a<h.objs.size:=by
 cases o with
 | lst xs=>obtain⟨_,_,_,_,e⟩:=x;exact Heap.lt_size e
 | tup xs=>obtain⟨_,_,_,p⟩:=x;exact p.lt
 | dK kvs=>obtain⟨_,_,_,_,o,_,_,e,_⟩:=x;exact Heap.lt_size e
 | dT kvs=>obtain⟨_,_,_,_,o,_,_,e,_⟩:=x;exact Heap.lt_size e
 | set S n=>obtain⟨o,_,_,_,e,_⟩:=x;exact Heap.lt_size e
 | ins C dx fs=>obtain⟨_,_,_,e,_⟩:=x;exact Heap.lt_size e
 | own y=>obtain⟨_,e⟩:=x;exact Heap.lt_size e
 | xd fs=>obtain⟨_,⟨_,_,_,e,_⟩,_⟩:=x;exact Heap.lt_size e
 | rng lo hi=>obtain⟨_,_,_,e⟩:=x;exact Heap.lt_size e
 | frz ob u=>obtain⟨e,_⟩:=x;exact Heap.lt_size e
 | tbl ps=>exact Heap.lt_size (show h.get? a=some _ from x)
 | met f y=>exact Heap.lt_size (show h.get? a=some _ from x)
 | ext φ=>obtain⟨_,⟨_,e⟩,_⟩:=x;exact Heap.lt_size e
theorem Paired.mapP{α β:Type}{F G:α→β→Prop}:∀{l₁:List α} {l₂:List β},Paired F l₁ l₂→(∀a b,F a b→G a b)→Paired G l₁ l₂
 | _,_,.nil,_=>.nil
 | _,_,.cons r t,f=>.cons (f _ _ r) (Paired.mapP t f)
theorem ObjOk.stay(x:ObjOk P w H h a o)(k:∀b u,(b=a∨H b=some (.own a))→h.get? b=some u→h'.get? b=some u)(ho:∀b,H b=some (.own a)→H' b=some (.own a))(ht:∀b xs,H b=some (.tup xs)→H' b=some (.tup xs)):ObjOk P w H' h' a o:=by
 induction o with
 | lst xs=>obtain⟨z,its,n,r,e⟩:=x;exact⟨z,its,n,r,k _ _ (.inl rfl) e⟩
 | tup xs=>obtain⟨z,its,r,ob,e,c⟩:=x;exact⟨z,its,r,ob,k _ _ (.inl rfl) e,c⟩
 | dK kvs=>obtain⟨z,y,vs,r,ob,es,ep,e,c⟩:=x;exact⟨z,y,vs,r,ob,es,ep,k _ _ (.inl rfl) e,c⟩
 | dT kvs=>
   obtain⟨z,y,xs,r,ob,es,ep,e,c⟩:=x
   exact⟨z,y,xs,Paired.mapP r fun p q z=>⟨z.1,ht _ _ z.2.1,z.2.2⟩,ob,es,ep,k _ _ (.inl rfl) e,c⟩
 | set S n=>obtain⟨ob,es,ep,t,e,c⟩:=x;exact⟨ob,es,ep,t,k _ _ (.inl rfl) e,c⟩
 | ins C dx fs=>
   obtain⟨d,z,ne,e,mA,⟨od,es,ep,e2,c⟩,r⟩:=x
   exact⟨ho _ d,z,ne,k _ _ (.inl rfl) e,mA,⟨od,es,ep,k _ _ (.inr d) e2,c⟩,r⟩
 | own y=>obtain⟨ob,e⟩:=x;exact⟨ob,k _ _ (.inl rfl) e⟩
 | xd fs=>obtain⟨mA,⟨od,es,ep,e,c⟩,r⟩:=x;exact⟨mA,⟨od,es,ep,k _ _ (.inl rfl) e,c⟩,r⟩
 | rng lo hi=>obtain⟨t,u,v,e⟩:=x;exact⟨t,u,v,k _ _ (.inl rfl) e⟩
 | frz ob u ih=>obtain⟨e,q⟩:=x;exact⟨k _ _ (.inl rfl) e,ih q⟩
 | tbl ps=>
   have e:h.get? a=some {cls:=.none,data:=.fields ps}:=x
   show h'.get? a=some {cls:=.none,data:=.fields ps}
   exact k a _ (.inl rfl) e
 | met f y=>
   have e:h.get? a=some (PySem.W.methodObj (.ref f) (.ref y)):=x
   show h'.get? a=some (PySem.W.methodObj (.ref f) (.ref y))
   exact k a _ (.inl rfl) e
 | ext φ=>obtain⟨p,⟨o,e⟩,st⟩:=x;exact⟨st _ _ p fun o q=>k _ _ (.inl rfl) q,⟨o,k _ _ (.inl rfl) e⟩,st⟩
theorem HOk.lt(x:HOk P w H h)(e:H a=some o):a<h.objs.size:=(x a o e).lt
theorem HOk.fresh(x:HOk P w H h)(e:h.objs.size≤a):H a=none:=by
 cases q:H a with
 | none=>rfl
 | some u=>exact absurd (Nat.lt_of_lt_of_le (x.lt q) e) (Nat.lt_irrefl _)
theorem HOk.kept(x:HOk P w H h)(k:∀b u,h.get? b=some u→h'.get? b=some u):HOk P w H h':=fun a o e=>
 (x a o e).stay (fun b u _ q=>k b u q) (fun _ q=>q) fun _ _ q=>q
theorem HOk.laid(x:HOk P w H h)(k:∀b u,h.get? b=some u→h'.get? b=some u)(hp:h.objs.size≤a)(new:ObjOk P w (upd H a o) h' a o):HOk P w (upd H a o) h':=fun b u e=>by
 have hn:=x.fresh hp
 by_cases hb:b=a
 ·subst hb;rw[af] at e;cases e;exact new
 ·rw[ap hb] at e
  exact(x b u e).stay (fun c v _ q=>k c v q) (fun c q=>by rw[ap (aW q hn)];exact q) fun c xs q=>by rw[ap (aW q hn)];exact q
end
def Rd(H:Hp)(a:Addr)(u:HO):Prop:=H a=some u∨∃o,H a=some (.frz o u)
theorem Rd.ok{P:Program}{w:World}{H:Hp}{h:Heap}{a:Addr}{u:HO}(r:Rd H a u)(x:HOk P w H h):ObjOk P w H h a u:=by
 rcases r with r | ⟨o,r⟩
 ·exact x a u r
 ·obtain⟨_,q⟩:=x a _ r
  exact q
def eT:Option HO→Prop
 | some (.lst _)=>True
 | some (.dK _)=>True
 | some (.dT _)=>True
 | some (.set _ _)=>True
 | some (.ins _ _ _)=>True
 | some (.ext _)=>True
 | _=>False
section
variable{P:Program}{w:World}{H:Hp}{h h':Heap}{x e:Addr}{o':HO}
theorem HOk.write(ok:HOk P w H h)(mu:eT (H x))(he:e=x∨H e=some (.own x))(k:∀b u,b≠e→h.get? b=some u→h'.get? b=some u)(heo:∃u,h'.get? e=some u)(new:ObjOk P w (upd H x o') h' x o'):HOk P w (upd H x o') h':=fun b u q=>by
 have nown:∀c y,H c=some (.own y)→c≠x:=fun c y r z=>by subst z;rw[r] at mu;exact mu
 have ntup:∀c xs,H c=some (.tup xs)→c≠x:=fun c xs r z=>by subst z;rw[r] at mu;exact mu
 by_cases hb:b=x
 ·subst hb;rw[af] at q;cases q;exact new
 ·rw[ap hb] at q
  by_cases hbe:b=e
  ·have q':H b=some (.own x):=by
    rcases he with z | z
    ·exact absurd (hbe.trans z) hb
    ·rw[hbe];exact z
   rw[q] at q';cases q'
   obtain⟨v,hv⟩:=heo
   exact⟨v,by rw[hbe];exact hv⟩
  ·refine(ok b u q).stay (fun c v hc r=>k c v ?_ r) (fun c r=>by rw[ap (nown c b r)];exact r) fun c xs r=>by rw[ap (ntup c xs r)];exact r
   rcases hc with rfl | hc
   ·exact hbe
   ·rintro rfl
    rcases he with z | z
    ·exact nown c b hc z
    ·rw[hc] at z;cases z;exact hb rfl
end
structure Un(fs ex:List Addr)(H H':Hp)(h h':Heap):Prop where
 keep:∀b o,h.get? b=some o→H b=none→b∉fs→b∉ex→h'.get? b=some o
 slot:∀b o,h.get? b=some o→H b=none→b∈fs→b∉ex→∃sl,h'.get? b=some {o with slots:=sl}
 free:∀b o,h.get? b=some o→H b=none→b∉ex→H' b=none
 there:∀b o,h.get? b=some o→b∉ex→∃o',h'.get? b=some o'
 tups:∀b xs,H b=some (.tup xs)→H' b=some (.tup xs)
 frzs:∀b o u,H b=some (.frz o u)→H' b=some (.frz o u)
 tbls:∀b ps,H b=some (.tbl ps)→∃more,H' b=some (.tbl (ps++more))
section
variable{fs fs' ex ex':List Addr}{H H1 H2:Hp}{h h1 h2 h':Heap}{a x e:Addr}{o:HO}
theorem Un.any(u:Un fs ex H H1 h h1){b:Addr}{ob:Obj}(q:h.get? b=some ob)(n:H b=none)(hx:b∉ex):∃sl,h1.get? b=some {ob with slots:=sl}:=by
 by_cases hb:b∈fs
 ·exact u.slot b ob q n hb hx
 ·exact⟨ob.slots,u.keep b ob q n hb hx⟩
theorem Un.kept(k:∀b u,h.get? b=some u→h'.get? b=some u):Un fs ex H H h h':=
 ⟨fun b ob q _ _ _=>k b ob q,fun b ob q _ _ _=>⟨ob.slots,k b ob q⟩,fun _ _ _ n _=>n,fun b ob q _=>⟨ob,k b ob q⟩,fun _ _ q=>q,fun _ _ _ q=>q,fun _ ps q=>⟨#[],by rw[q];simp⟩⟩
theorem Un.refl:Un fs ex H H h h:=Un.kept fun _ _ q=>q
theorem Un.laid(k:∀b u,h.get? b=some u→h'.get? b=some u)(hp:h.objs.size≤a)(hn:H a=none):Un fs ex H (upd H a o) h h' where
 keep:=fun b u q _ _ _=>k b u q
 slot:=fun b u q _ _ _=>⟨u.slots,k b u q⟩
 free:=fun b u q n _=>by rw[ap (Nat.ne_of_lt (Nat.lt_of_lt_of_le (Heap.lt_size q) hp))];exact n
 there:=fun b u q _=>⟨u,k b u q⟩
 tups:=fun b xs q=>by rw[ap (aW q hn)];exact q
 frzs:=fun b u xs q=>by rw[ap (aW q hn)];exact q
 tbls:=fun b ps q=>⟨#[],by rw[ap (aW q hn),q];simp⟩
theorem Un.write(mu:eT (H x))(he:e=x∨H e=some (.own x))(k:∀b u,b≠e→h.get? b=some u→h'.get? b=some u)(heo:∃u,h'.get? e=some u):Un fs ex H (upd H x o) h h':=by
 have hx:∀b,H b=none→b≠x:=fun b n z=>by subst z;rw[n] at mu;exact mu
 have hb:∀b,H b=none→b≠e:=fun b n z=>by
  subst z
  rcases he with r | r
  ·exact hx b n r
  ·rw[n] at r;cases r
 have hm:∀b u,H b=some u→¬eT (some u)→b≠x:=fun b u q nm z=>by subst z;rw[q] at mu;exact nm mu
 refine⟨fun b u q n _ _=>k b u (hb b n) q,fun b u q n _ _=>⟨u.slots,k b u (hb b n) q⟩,fun b u q n _=>by rw[ap (hx b n)];exact n,fun b u q _=>?_,
  fun b xs q=>by rw[ap (hm b _ q fun z=>z)];exact q,fun b u xs q=>by rw[ap (hm b _ q fun z=>z)];exact q,fun b ps q=>⟨#[],by rw[ap (hm b _ q fun z=>z),q];simp⟩⟩
 by_cases hbe:b=e
 ·subst hbe;exact heo
 ·exact⟨u,k b u hbe q⟩
end
def cQ(h:Heap)(H:Hp):List Addr:=(List.range h.objs.size).filter fun a=>(H a).isSome
def cD(h:Heap)(H:Hp):Heap:=PySem.W.hideAll h (cQ h H)
theorem qc(h:Heap)(H:Hp):(cD h H).objs.size=h.objs.size:=PySem.W.hideAll_size _ _
theorem o5{h:Heap}{H:Hp}{b:Addr}{o:Obj}(e:h.get? b=some o)(n:H b=none):(cD h H).get? b=some o:=
 PySem.W.hideAll_get _ e fun hm=>by
  have q:(H b).isSome=true:=(List.mem_filter.mp hm).2
  rw[n] at q;simp at q
theorem rQ{h:Heap}{H:Hp}{b:Addr}{o:Obj}(e:(cD h H).get? b=some o):h.get? b=some o∧H b=none:=by
 have e':h.get? b=some o:=PySem.W.of_hideAll (cQ h H) e
 refine⟨e',?_⟩
 cases q:H b with
 | none=>rfl
 | some x=>
   have hm:b∈cQ h H:=List.mem_filter.mpr ⟨List.mem_range.mpr (Heap.lt_size e'),by simp[q]⟩
   have z:(cD h H).get? b=none:=PySem.W.hideAll_none (cQ h H) hm
   rw[z] at e;cases e
def qZ(g h:Heap)(L:Addr):List (Addr×Obj):=(List.range h.objs.size).filterMap fun a=>if a=L∨(g.get? a).isSome=true then none else(h.get? a).map fun o=>(a,o)
def aJ(g h:Heap)(L d:Addr):List (Addr×Obj):=(qZ g h L).filter fun p=>decide (p.1≠d)
structure Mod(K:PySem.W.Frag)(mg:Str→Option Value)(base:Heap):Prop where
 kin:K.In base
 glob:base.Ns mainGlobals mg
 blt:∃mb,base.Ns builtinsNs mb∧∀x:Str,x≠"__name__"→mb x=bootBuiltins x
 nolimit:base.NoLimit
structure Cx where
 prog:Program
 w:World
 K:PySem.W.Frag
 mg:Str→Option Value
 base:Heap
 A:Around
 N:List Str
 s₀:Shared
 H₀:Hp
 env:Env
 outer:List Env
 stack:List Env
 ex:List Addr
 fn:Str→Bool
 calm:Bool
 pn:List (Addr×Obj)
 xe:Value→Shared→Prop
def aH(l:List Env):List Addr:=l.filterMap (·.frame)
abbrev Cx.fs(X:Cx):List Addr:=aH X.outer
def il(sc:Scope)(x:Str):Prop:=sc.names.lookup x=some .local∨sc.names.lookup x=some .cell∨sc.names.lookup x=some .free
def dr(sc:Scope)(x:Str):Prop:=sc.names.lookup x=some .local∨sc.names.lookup x=some .cell
def qY(env:Env)(h:Heap)(m:Str→Option Value)(x:Str)(u:Value):Prop:=
 (env.kindOf x=some .local∧m x=some u)∨((env.kindOf x=some .cell∨env.kindOf x=some .free)∧∃c,env.cells.lookup x=some c∧h.IsCell c (some u))
structure Cx.Ok(X:Cx):Prop where
 mod:Mod X.K X.mg X.base
 kind:X.env.scope.kind=.function
 glob:X.env.globals=mainGlobals
 blt:X.env.builtins=builtinsNs
 above:X.s₀.heap.objs.size≤X.env.locals
 inj:∀x y c,X.env.cells.lookup x=some c→X.env.cells.lookup y=some c→x=y
 has:∀x,(X.env.kindOf x=some .cell∨X.env.kindOf x=some .free)→∃c,X.env.cells.lookup x=some c
 cab:∀x c,X.fn x=true→X.env.cells.lookup x=some c→X.s₀.heap.objs.size≤c
 hd:X.calm=true→X.A.handled=none
 frames:X.A.frames=some X.stack
 stk:X.stack=X.outer∨(X.stack=X.env::X.outer∧X.env.frame=some X.env.locals)
 exf:∀b∈X.ex,b≠X.env.locals∧∀x c,X.env.cells.lookup x=some c→c≠b
 bs:∀b o,X.base.get? b=some o→X.s₀.heap.get? b=some o∧X.H₀ b=none
 bsz:X.base.objs.size≤X.s₀.heap.objs.size
 noex:∀b o,X.base.get? b=some o→b∉X.ex
 exfs:∀b∈X.ex,b∉X.fs
 funs:X.s₀.heap.FunFrames X.base X.outer
 frf:∀b∈X.fs,X.H₀ b=none
structure Inv(X:Cx)(pins:List (Addr×Obj))(σ:List (Option V))(H:Hp)(s:Shared):Prop where
 ok:X.Ok
 os:s.os=X.s₀.os
 bare:AllBare s.gens
 base:Un X.fs X.ex X.H₀ H X.s₀.heap s.heap
 loc:∃m,s.heap.Ns X.env.locals m∧∀(i:Nat) (x:Str) (v:V),X.N[i]?=some x→σ[i]?=some (some v)→il X.env.scope x→∃u,RelV v u∧qY X.env s.heap m x u
 cell:∀x c,X.env.cells.lookup x=some c→∃v,s.heap.IsCell c v
 free:H X.env.locals=none
 freeC:∀x c,X.env.cells.lookup x=some c→H c=none
 pin:∀p∈X.pn++pins,s.heap.get? p.1=some p.2∧H p.1=none∧p.1≠X.env.locals∧p.1∉X.fs∧∀v,p.2.data≠ .cell v
 hok:HOk X.prog X.w H s.heap
 len:σ.length=X.N.length
section
variable{X:Cx}{pins:List (Addr×Obj)}{σ:List (Option V)}{H H':Hp}{s:Shared}{h':Heap}
theorem Cx.Ok.nofr(ok:X.Ok){b:Addr}{o:Obj}(e:X.base.get? b=some o):b∉X.fs:=fun hb=>by
 have:=(ok.funs.mem hb).1
 rw[e] at this;cases this
theorem Inv.bs(I:Inv X pins σ H s):∀b o,X.base.get? b=some o→s.heap.get? b=some o∧H b=none:=fun b o e=>
 ⟨I.base.keep b o (I.ok.bs b o e).1 (I.ok.bs b o e).2 (I.ok.nofr e) (I.ok.noex b o e),I.base.free b o (I.ok.bs b o e).1 (I.ok.bs b o e).2 (I.ok.noex b o e)⟩
theorem Inv.bk(I:Inv X pins σ H s):∀b o,X.base.get? b=some o→s.heap.get? b=some o:=fun b o e=>(I.bs b o e).1
theorem Inv.mod(I:Inv X pins σ H s):Mod X.K X.mg X.base:=I.ok.mod
theorem Inv.kIn(I:Inv X pins σ H s):X.K.In s.heap:=I.ok.mod.kin.keeps I.bk
theorem Inv.lt(I:Inv X pins σ H s):X.env.locals<s.heap.objs.size:=let ⟨_,hn,_⟩:=I.loc;hn.lt
theorem Inv.sz(I:Inv X pins σ H s):X.s₀.heap.objs.size≤s.heap.objs.size:=Nat.le_trans I.ok.above (Nat.le_of_lt I.lt)
theorem Inv.nofs(I:Inv X pins σ H s){a:Addr}(h:s.heap.objs.size≤a):a∉X.fs:=fun hb=>by
 obtain⟨_,o,ho,_⟩:=I.ok.funs.mem hb
 exact absurd (Nat.lt_of_lt_of_le (Heap.lt_size ho) (Nat.le_trans I.sz h)) (Nat.lt_irrefl _)
theorem Inv.cne(I:Inv X pins σ H s):∀x c,X.env.cells.lookup x=some c→c≠X.env.locals:=fun x c e z=>by
 obtain⟨v,o,ho,hd⟩:=I.cell x c e
 obtain⟨m,⟨o',es,ep,ho',hd',_⟩,_⟩:=I.loc
 rw[z,ho'] at ho;cases ho;rw[hd'] at hd;cases hd
theorem Inv.funs(I:Inv X pins σ H s):s.heap.FunFrames X.base X.outer:=by
 have all:∀(l:List Env),(∀b∈aH l,b∈X.fs)→X.s₀.heap.FunFrames X.base l→s.heap.FunFrames X.base l:=by
  intro l
  induction l with
  | nil=>intro _ _;trivial
  | cons env r ih=>
    intro hs hl
    obtain⟨hk,⟨L,o,hf,hn,ho,hd⟩,hr⟩:=hl
    have hL:L∈X.fs:=hs L (by unfold aH;rw[List.filterMap_cons,hf];exact List.mem_cons_self)
    obtain⟨sl,e⟩:=I.base.slot L o ho (I.ok.frf L hL) hL fun z=>I.ok.exfs L z hL
    exact⟨hk,⟨L,_,hf,hn,e,hd⟩,ih (fun b hb=>hs b (by unfold aH;rw[List.filterMap_cons,hf];exact List.mem_cons_of_mem _ hb)) hr⟩
 exact all X.outer (fun _ hb=>hb) I.ok.funs
theorem Inv.stack(I:Inv X pins σ H s):s.heap.FunFrames X.base X.stack:=by
 rcases I.ok.stk with e | ⟨e,hf⟩
 ·rw[e];exact I.funs
 ·rw[e]
  obtain⟨m,hn,_⟩:=I.loc
  refine .cons (by rw[I.ok.kind];decide) hf hn ?_ I.funs
  exact Heap.get?_none_of_le (Nat.le_trans I.ok.bsz I.ok.above)
theorem Inv.stkSub(I:Inv X pins σ H s):∀b∈aH X.stack,b∈X.env.locals::X.fs:=fun b hb=>by
 rcases I.ok.stk with e | ⟨e,hf⟩
 ·rw[e] at hb;exact List.mem_cons_of_mem _ hb
 ·rw[e] at hb
  unfold aH at hb
  rw[List.filterMap_cons,hf] at hb
  exact hb
theorem Inv.stkFree(I:Inv X pins σ H s):∀b∈aH X.stack,H b=none:=fun b hb=>by
 rcases List.mem_cons.mp (I.stkSub b hb) with e | hb
 ·rw[e];exact I.free
 ·obtain⟨_,o,ho,_⟩:=I.ok.funs.mem hb
  exact I.base.free b o ho (I.ok.frf b hb) fun z=>I.ok.exfs b z hb
theorem Inv.step{g':Array GenState}{t':Nat}{d':Drawn}{ch:List Addr}(I:Inv X pins σ H s)(hch:∀b∈ch,(b∈X.ex∨X.s₀.heap.objs.size≤b)∧b≠X.env.locals∧(∀x c,X.env.cells.lookup x=some c→c≠b)∧∀p∈X.pn++pins,p.1≠b)(keep:∀b o,b≠X.env.locals→b∉X.fs→b∉ch→s.heap.get? b=some o→H b=none→h'.get? b=some o)(slot:∀b o,b≠X.env.locals→b∈X.fs→b∉ch→s.heap.get? b=some o→H b=none→∃sl,h'.get? b=some {o with slots:=sl})(free:∀b o,b∉ch→s.heap.get? b=some o→H b=none→H' b=none)(there:∀b o,b∉ch→s.heap.get? b=some o→∃o',h'.get? b=some o')(tups:∀b xs,H b=some (.tup xs)→H' b=some (.tup xs))(frzs:∀b o u,H b=some (.frz o u)→H' b=some (.frz o u))(tbls:∀b ps,H b=some (.tbl ps)→∃more,H' b=some (.tbl (ps++more)))(ns:∀m,s.heap.Ns X.env.locals m→h'.Ns X.env.locals m)(hok:HOk X.prog X.w H' h')(hg:AllBare g'):Inv X pins σ H' {s with heap:=h',gens:=g',drawn:=d',toks:=t'}:=by
 have neL:∀b o,X.s₀.heap.get? b=some o→b≠X.env.locals:=fun b o e=>Nat.ne_of_lt (Nat.lt_of_lt_of_le (Heap.lt_size e) I.ok.above)
 have neC:∀b o,X.s₀.heap.get? b=some o→b∉X.ex→b∉ch:=fun b o e hx hb=>by
  rcases(hch b hb).1 with z | z
  ·exact hx z
  ·exact absurd (Nat.lt_of_lt_of_le (Heap.lt_size e) z) (Nat.lt_irrefl _)
 have cellK:∀x c,X.env.cells.lookup x=some c→∀v,s.heap.IsCell c v→h'.IsCell c v:=fun x c e v ⟨o,ho,hd⟩=>by
  have nch:c∉ch:=fun z=>(hch c z).2.2.1 x c e rfl
  by_cases hc:c∈X.fs
  ·obtain⟨sl,q⟩:=slot c o (I.cne x c e) hc nch ho (I.freeC x c e)
   exact⟨_,q,hd⟩
  ·exact⟨o,keep c o (I.cne x c e) hc nch ho (I.freeC x c e),hd⟩
 refine⟨I.ok,I.os,hg,⟨fun b o e n hb hx=>?_,fun b o e n hb hx=>?_,fun b o e n hx=>?_,fun b o e hx=>?_,fun b xs e=>tups b xs (I.base.tups b xs e),fun b o xs e=>frzs b o xs (I.base.frzs b o xs e),fun b ps e=>?_⟩,?_,fun x c e=>?_,?_,fun x c e=>?_,fun p hp=>?_,hok,I.len⟩
 ·exact keep b o (neL b o e) hb (neC b o e hx) (I.base.keep b o e n hb hx) (I.base.free b o e n hx)
 ·obtain⟨sl,e1⟩:=I.base.slot b o e n hb hx
  obtain⟨sl',e2⟩:=slot b _ (neL b o e) hb (neC b o e hx) e1 (I.base.free b o e n hx)
  exact⟨sl',e2⟩
 ·obtain⟨o',e1⟩:=I.base.there b o e hx
  exact free b o' (neC b o e hx) e1 (I.base.free b o e n hx)
 ·obtain⟨o',e1⟩:=I.base.there b o e hx
  exact there b o' (neC b o e hx) e1
 ·obtain⟨m1,e1⟩:=I.base.tbls b ps e
  obtain⟨m2,e2⟩:=tbls b _ e1
  exact⟨m1++m2,by rw[e2,Array.append_assoc]⟩
 ·obtain⟨m,hn,hl⟩:=I.loc
  refine⟨m,ns m hn,fun i x v e1 e2 e3=>?_⟩
  obtain⟨u,r,l⟩:=hl i x v e1 e2 e3
  refine⟨u,r,?_⟩
  rcases l with l | ⟨k,c,e,z⟩
  ·exact .inl l
  ·exact .inr ⟨k,c,e,cellK x c e _ z⟩
 ·obtain⟨v,z⟩:=I.cell x c e
  exact⟨v,cellK x c e v z⟩
 ·obtain⟨m,⟨o,_,_,ho,_⟩,_⟩:=I.loc
  exact free _ o (fun z=>(hch _ z).2.1 rfl) ho I.free
 ·obtain⟨v,o,ho,hd⟩:=I.cell x c e
  exact free c o (fun z=>(hch c z).2.2.1 x c e rfl) ho (I.freeC x c e)
 ·obtain⟨e,n,ne,nf,d⟩:=I.pin p hp
  have nch:p.1∉ch:=fun z=>(hch p.1 z).2.2.2 p hp rfl
  exact⟨keep p.1 p.2 ne nf nch e n,free p.1 p.2 nch e n,ne,nf,d⟩
theorem Inv.un{t':Nat}(I:Inv X pins σ H s)(u:Un X.fs [] H H' s.heap h')(hok:HOk X.prog X.w H' h'):Inv X pins σ H' {s with heap:=h',toks:=t'}:=by
 obtain⟨m,⟨o,es,ep,ho,r⟩,_⟩:=id I.loc
 obtain⟨sl,hL⟩:=u.any ho I.free (by simp)
 exact I.step (g':=s.gens) (d':=s.drawn) (ch:=[]) (fun _ z=>nomatch z) (fun b o _ hb _ e n=>u.keep b o e n hb (by simp)) (fun b o _ hb _ e n=>u.slot b o e n hb (by simp)) (fun b o _ e n=>u.free b o e n (by simp)) (fun b o _ e=>u.there b o e (by simp)) u.tups u.frzs u.tbls (fun m' hm=>by
  obtain⟨o',es',ep',ho',r'⟩:=hm
  rw[ho] at ho';cases ho'
  exact⟨_,es',ep',hL,r'⟩) hok I.bare
theorem Inv.call{g':Array GenState}{t':Nat}{d':Drawn}{ch:List Addr}(I:Inv X pins σ H s)(u:Un (aH X.stack) ch H H' s.heap h')(hok:HOk X.prog X.w H' h')(hg:AllBare g')(hch:∀b∈ch,(b∈X.ex∨X.s₀.heap.objs.size≤b)∧b≠X.env.locals∧(∀x c,X.env.cells.lookup x=some c→c≠b)∧∀p∈X.pn++pins,p.1≠b):Inv X pins σ H' {s with heap:=h',gens:=g',drawn:=d',toks:=t'}:=by
 obtain⟨m,⟨o,es,ep,ho,r⟩,_⟩:=id I.loc
 obtain⟨sl,hL⟩:=u.any ho I.free fun z=>(hch _ z).2.1 rfl
 exact I.step (ch:=ch) hch (fun b o hL hb hc e n=>u.keep b o e n (fun z=>(List.mem_cons.mp (I.stkSub b z)).elim hL hb) hc) (fun b o _ _ hc e n=>u.any e n hc) (fun b o hc e n=>u.free b o e n hc) (fun b o hc e=>u.there b o e hc) u.tups u.frzs u.tbls (fun m' hm=>by
  obtain⟨o',es',ep',ho',r'⟩:=hm
  rw[ho] at ho';cases ho'
  exact⟨_,es',ep',hL,r'⟩) hok hg
theorem Inv.turned{t':Nat}{it:Addr}(I:Inv X pins σ H s)(k:∀b o,b≠it→s.heap.get? b=some o→h'.get? b=some o)(hn:H it=none)(hL:it≠X.env.locals)(h1:it∈X.ex∨X.s₀.heap.objs.size≤it)(h2:∀x c,X.env.cells.lookup x=some c→c≠it)(h3:∀p∈X.pn++pins,p.1≠it):Inv X pins σ H {s with heap:=h',toks:=t'}:=by
 have nit:∀b u,H b=some u→b≠it:=fun b u e z=>by rw[z,hn] at e;cases e
 refine I.step (g':=s.gens) (d':=s.drawn) (ch:=[it]) (fun b hb=>?_) (fun b o _ _ hc e _=>k b o (fun z=>hc (by simp[z])) e) (fun b o _ _ hc e _=>⟨o.slots,k b o (fun z=>hc (by simp[z])) e⟩) (fun _ _ _ _ n=>n)
  (fun b o hc e=>⟨o,k b o (fun z=>hc (by simp[z])) e⟩) (fun _ _ e=>e) (fun _ _ _ e=>e) (fun b ps e=>⟨#[],by rw[e];simp⟩) (fun m hm=>?_) (fun b u e=>?_) I.bare
 ·have e:b=it:=by simpa using hb
  subst e
  exact⟨h1,hL,h2,h3⟩
 ·obtain⟨o,es,ep,ho,r⟩:=hm
  exact⟨o,es,ep,k _ o (Ne.symm hL) ho,r⟩
 ·refine(I.hok b u e).stay (fun c v hc q=>k c v ?_ q) (fun _ q=>q) fun _ _ q=>q
  rcases hc with z | z
  ·rw[z];exact nit b u e
  ·exact nit c _ z
theorem Inv.tok(I:Inv X pins σ H s)(t:Nat):Inv X pins σ H {s with toks:=t}:=I.un (h':=s.heap) (t':=t) Un.refl I.hok
theorem Inv.kept{t':Nat}(I:Inv X pins σ H s)(k:∀b u,s.heap.get? b=some u→h'.get? b=some u):Inv X pins σ H {s with heap:=h',toks:=t'}:=I.un (Un.kept k) (I.hok.kept k)
theorem Inv.laid{a:Addr}{o:HO}{t':Nat}(I:Inv X pins σ H s)(k:∀b u,s.heap.get? b=some u→h'.get? b=some u)(hp:s.heap.objs.size≤a)(new:ObjOk X.prog X.w (upd H a o) h' a o):Inv X pins σ (upd H a o) {s with heap:=h',toks:=t'}:=I.un (Un.laid k hp (I.hok.fresh hp)) (I.hok.laid k hp new)
theorem Inv.write{x e:Addr}{o:HO}{t':Nat}(I:Inv X pins σ H s)(mu:eT (H x))(he:e=x∨H e=some (.own x))(k:∀b u,b≠e→s.heap.get? b=some u→h'.get? b=some u)(heo:∃u,h'.get? e=some u)(new:ObjOk X.prog X.w (upd H x o) h' x o):Inv X pins σ (upd H x o) {s with heap:=h',toks:=t'}:=I.un (Un.write mu he k heo) (I.hok.write mu he k heo new)
theorem Inv.weak{σ':List (Option V)}(I:Inv X pins σ H s)(hl:σ'.length=σ.length)(w:∀(i:Nat) v,σ'[i]?=some (some v)→σ[i]?=some (some v)):Inv X pins σ' H s:=
 ⟨I.ok,I.os,I.bare,I.base,let ⟨m,hn,hl'⟩:=I.loc;⟨m,hn,fun i x v e1 e2 e3=>hl' i x v e1 (w i v e2) e3⟩,I.cell,I.free,I.freeC,I.pin,I.hok,hl.trans I.len⟩
theorem Inv.pins_of{pins':List (Addr×Obj)}(I:Inv X pins σ H s)(h:∀p∈pins',s.heap.get? p.1=some p.2∧H p.1=none∧p.1≠X.env.locals∧p.1∉X.fs∧∀v,p.2.data≠ .cell v):Inv X pins' σ H s:=
 ⟨I.ok,I.os,I.bare,I.base,I.loc,I.cell,I.free,I.freeC,fun p hp=>(List.mem_append.mp hp).elim (fun z=>I.pin p (List.mem_append_left _ z)) (h p),I.hok,I.len⟩
theorem iu{N:List Str}(hN:N.Nodup){i j:Nat}{x:Str}(a:N[i]?=some x)(b:N[j]?=some x):i=j:=by
 obtain⟨h1,e1⟩:=List.getElem?_eq_some_iff.mp a
 obtain⟨h2,e2⟩:=List.getElem?_eq_some_iff.mp b
 exact(List.getElem_inj hN).mp (e1.trans e2.symm)
theorem j7{M:Model}{A:Around}{E:Value→Shared→Prop}{i:Nat}{x:Str}{v:V}{u:Value}{Q:Unit→Shared→Prop}(I:Inv X pins σ H s)(hN:X.N.Nodup)(hi:X.N[i]?=some x)(hx:dr X.env.scope x)(r:RelV v u)(h:∀s',Inv X pins (σ.set i (some v)) H s'→(∃a,Heap.SameBut a s.heap s'.heap∧(a=X.env.locals∨X.env.cells.lookup x=some a))→Q () s')(hf:X.fn x=true∨X.env.scope.names.lookup x=some .local:=by first | exact .inl rfl | exact .inr rfl | assumption):wpAny M A (storeName X.env x u) Q E s:=by
 obtain⟨m,hn,hl⟩:=id I.loc
 have hcls:(X.env.scope.kind == .class || (X.env.scope.kind == .module && X.env.locals != X.env.globals))=false:=by rw[I.ok.kind];rfl
 have hiσ:i<σ.length:=by rw[I.len];exact(List.getElem?_eq_some_iff.mp hi).1
 have cne:=I.cne
 have tracked:∀{a:Addr} {h':Heap},(∃o,s.heap.get? a=some o∧H a=none)→Heap.SameBut a s.heap h'→HOk X.prog X.w H h':=fun{a h'} ha hs b ob e=>by
  obtain⟨_,_,hfree⟩:=ha
  refine(I.hok b ob e).stay (fun c w' hc q=>(hs.2 c ?_).trans q) (fun _ q=>q) fun _ _ q=>q
  rintro rfl
  rcases hc with rfl | hc
  ·rw[hfree] at e;cases e
  ·rw[hfree] at hc;cases hc
 rcases hx with hk | hk
 ·refine wpAny_storeName_local hk hn (fun h' hn' hs=>?_) hcls
  obtain⟨oL,_,_,hoL,_⟩:=id hn
  refine h _ ⟨I.ok,I.os,I.bare,⟨fun b o e n hb hx=>?_,fun b o e n hb hx=>?_,I.base.free,fun b o e hx=>?_,I.base.tups,I.base.frzs,I.base.tbls⟩,⟨_,hn',fun j y v' e1 e2 e3=>?_⟩,fun y c e=>?_,I.free,I.freeC,fun p hp=>?_,tracked ⟨oL,hoL,I.free⟩ hs,by simpa using I.len⟩ ⟨_,hs,.inl rfl⟩
  ·exact(hs.2 b (Nat.ne_of_lt (Nat.lt_of_lt_of_le (Heap.lt_size e) I.ok.above))).trans (I.base.keep b o e n hb hx)
  ·obtain⟨sl,e1⟩:=I.base.slot b o e n hb hx
   exact⟨sl,(hs.2 b (Nat.ne_of_lt (Nat.lt_of_lt_of_le (Heap.lt_size e) I.ok.above))).trans e1⟩
  ·obtain⟨o',e1⟩:=I.base.there b o e hx
   exact⟨o',(hs.2 b (Nat.ne_of_lt (Nat.lt_of_lt_of_le (Heap.lt_size e) I.ok.above))).trans e1⟩
  ·by_cases hj:j=i
   ·subst hj
    rw[hi] at e1;cases e1
    rw[List.getElem?_set_self hiσ] at e2
    cases e2
    exact⟨u,r,.inl ⟨hk,by simp⟩⟩
   ·rw[List.getElem?_set_ne (Ne.symm hj)] at e2
    obtain⟨u',r',q⟩:=hl j y v' e1 e2 e3
    refine⟨u',r',?_⟩
    rcases q with⟨k,e⟩ | ⟨k,c,e,z⟩
    ·refine .inl ⟨k,?_⟩
     have:y≠x:=fun e=>hj (iu hN e1 (e▸hi))
     simp[this,e]
    ·exact .inr ⟨k,c,e,z.sameBut hs (cne y c e)⟩
  ·obtain⟨w',z⟩:=I.cell y c e
   exact⟨w',z.sameBut hs (cne y c e)⟩
  ·obtain⟨e,n,ne,nf,d⟩:=I.pin p hp
   exact⟨(hs.2 p.1 ne).trans e,n,ne,nf,d⟩
 ·have hfn:X.fn x=true:=by
   rcases hf with z | z
   ·exact z
   ·rw[z] at hk;cases hk
  obtain⟨c,hc⟩:=I.ok.has x (.inl hk)
  obtain⟨w',z⟩:=I.cell x c hc
  refine wpAny_storeName_cell I.ok.kind hk hc z (fun h' hc' hs=>?_)
  obtain⟨oc,hoc,hocd⟩:=id z
  refine h {s with heap:=h'} ⟨I.ok,I.os,I.bare,⟨fun b o e n hb hx=>?_,fun b o e n hb hx=>?_,I.base.free,fun b o e hx=>?_,I.base.tups,I.base.frzs,I.base.tbls⟩,⟨m,hn.sameBut hs (Ne.symm (cne x c hc)),fun j y v' e1 e2 e3=>?_⟩,fun y c' e=>?_,I.free,I.freeC,fun p hp=>?_,tracked ⟨oc,hoc,I.freeC x c hc⟩ hs,by simpa using I.len⟩ ⟨c,hs,.inr hc⟩
  ·exact(hs.2 b (Nat.ne_of_lt (Nat.lt_of_lt_of_le (Heap.lt_size e) (I.ok.cab x c hfn hc)))).trans (I.base.keep b o e n hb hx)
  ·obtain⟨sl,e1⟩:=I.base.slot b o e n hb hx
   exact⟨sl,(hs.2 b (Nat.ne_of_lt (Nat.lt_of_lt_of_le (Heap.lt_size e) (I.ok.cab x c hfn hc)))).trans e1⟩
  ·obtain⟨o',e1⟩:=I.base.there b o e hx
   exact⟨o',(hs.2 b (Nat.ne_of_lt (Nat.lt_of_lt_of_le (Heap.lt_size e) (I.ok.cab x c hfn hc)))).trans e1⟩
  ·by_cases hj:j=i
   ·subst hj
    rw[hi] at e1;cases e1
    rw[List.getElem?_set_self hiσ] at e2
    cases e2
    exact⟨u,r,.inr ⟨.inl hk,c,hc,hc'⟩⟩
   ·rw[List.getElem?_set_ne (Ne.symm hj)] at e2
    obtain⟨u',r',q⟩:=hl j y v' e1 e2 e3
    refine⟨u',r',?_⟩
    rcases q with q | ⟨k,c',e,z'⟩
    ·exact .inl q
    ·refine .inr ⟨k,c',e,z'.sameBut hs ?_⟩
     rintro rfl
     exact hj (iu hN e1 (I.ok.inj _ _ _ e hc▸hi))
  ·by_cases hcc:c'=c
   ·subst hcc;exact⟨_,hc'⟩
   ·obtain⟨w2,z2⟩:=I.cell y c' e
    exact⟨w2,z2.sameBut hs hcc⟩
  ·obtain⟨e,n,ne,nf,d⟩:=I.pin p hp
   refine⟨(hs.2 p.1 ?_).trans e,n,ne,nf,d⟩
   intro q
   rw[q,hoc] at e
   have q':oc=p.2:=Option.some.inj e
   exact d w' (by rw[←q'];exact hocd)
theorem fH{M:Model}{A:Around}{E:Value→Shared→Prop}{i:Nat}{x:Str}{v:V}{u:Value}{Q:Unit→Shared→Prop}(I:Inv X pins σ H s)(hN:X.N.Nodup)(hi:X.N[i]?=some x)(hx:dr X.env.scope x)(r:RelV v u)(h:∀s',Inv X pins (σ.set i (some v)) H s'→Q () s')(hf:X.fn x=true∨X.env.scope.names.lookup x=some .local:=by first | exact .inl rfl | exact .inr rfl | assumption):wpAny M A (storeName X.env x u) Q E s:=
 j7 I hN hi hx r (fun s' I' _=>h s' I') hf
theorem Inv.call'{s':Shared}{ch:List Addr}(I:Inv X pins σ H s)(ho:s'.os=s.os)(u:Un (aH X.stack) ch H H' s.heap s'.heap)(hok:HOk X.prog X.w H' s'.heap)(hg:AllBare s'.gens)(hch:∀b∈ch,(b∈X.ex∨X.s₀.heap.objs.size≤b)∧b≠X.env.locals∧(∀x c,X.env.cells.lookup x=some c→c≠b)∧∀p∈X.pn++pins,p.1≠b):Inv X pins σ H' s':=by
 obtain⟨h',g',d',t',o'⟩:=s'
 have e:o'=s.os:=ho
 subst e
 exact I.call (g':=g') (t':=t') (d':=d') u hok hg hch
end
abbrev XK:=Value→Option Addr→Hp→Prop
abbrev St:=List (Option V)
abbrev VK:=V→Hp→Prop
abbrev TE:=St→Hp→VK→Prop
abbrev TT:=St→Hp→(Bool→Hp→Prop)→Prop
abbrev TA:=St→Hp→(List V→Hp→Prop)→Prop
structure Ends where
 nx:St→Hp→Prop
 rt:VK
 bk:St→Hp→Prop:=fun _ _=>False
 ct:St→Hp→Prop:=fun _ _=>False
abbrev TS:=Ends→St→Hp→Prop
def EP(X:Cx)(pins:List (Addr×Obj))(σ:St)(Q:VK)(u:Value)(s':Shared):Prop:=∃v H',Inv X pins σ H' s'∧RelV v u∧Q v H'
def TP(X:Cx)(pins:List (Addr×Obj))(σ:St)(Q:Bool→Hp→Prop)(b:Bool)(s':Shared):Prop:=∃H',Inv X pins σ H' s'∧Q b H'
def AP(X:Cx)(pins:List (Addr×Obj))(σ:St)(Q:List V→Hp→Prop)(us:List Value)(s':Shared):Prop:=∃vs H',Inv X pins σ H' s'∧Vals vs us∧Q vs H'
def SP(X:Cx)(pins:List (Addr×Obj))(D:Ends)(f:Flow)(s':Shared):Prop:=
 match f with
 | .next=>∃σ' H',Inv X pins σ' H' s'∧D.nx σ' H'
 | .brk=>∃σ' H',Inv X pins σ' H' s'∧D.bk σ' H'
 | .cont=>∃σ' H',Inv X pins σ' H' s'∧D.ct σ' H'
 | .ret u=>∃v σ' H',Inv X pins σ' H' s'∧RelV v u∧D.rt v H'
def PE(X:Cx)(e:Expr)(t:TE):Prop:=
 ∀(pins:List (Addr×Obj)) (s:Shared) (σ:St) (H:Hp) (Q:VK),Inv X pins σ H s→t σ H Q→wpAny (model X.prog X.w) X.A (eval e X.env) (EP X pins σ Q) X.xe s
def PT(X:Cx)(e:Expr)(t:TT):Prop:=
 ∀(pins:List (Addr×Obj)) (s:Shared) (σ:St) (H:Hp) (Q:Bool→Hp→Prop),Inv X pins σ H s→t σ H Q→wpAny (model X.prog X.w) X.A (isTrue e X.env (eval e X.env)) (TP X pins σ Q) X.xe s
def PW(X:Cx)(e:Expr)(t:TT):Prop:=
 ∀(whole:Sem Value) (pins:List (Addr×Obj)) (s:Shared) (σ:St) (H:Hp) (Q:Bool→Hp→Prop),Inv X pins σ H s→t σ H Q→wpAny (model X.prog X.w) X.A (isTrue e X.env whole) (TP X pins σ Q) X.xe s
theorem PW.pt{X:Cx}{e:Expr}{t:TT}(h:PW X e t):PT X e t:=h _
def PA(X:Cx)(es:List Expr)(t:TA):Prop:=
 ∀(pos:Pos) (pins:List (Addr×Obj)) (s:Shared) (σ:St) (H:Hp) (Q:List V→Hp→Prop),Inv X pins σ H s→t σ H Q→wpAny (model X.prog X.w) X.A (spliced (backTo pos (starEach es X.env))) (AP X pins σ Q) X.xe s
def PS(X:Cx)(st:Stmt)(t:TS):Prop:=
 ∀(pins:List (Addr×Obj)) (s:Shared) (σ:St) (H:Hp) (D:Ends),Inv X pins σ H s→t D σ H→wpAny (model X.prog X.w) X.A (exec st X.env) (SP X pins D) X.xe s
def PSs(X:Cx)(st:List Stmt)(t:TS):Prop:=
 ∀(pins:List (Addr×Obj)) (s:Shared) (σ:St) (H:Hp) (D:Ends),Inv X pins σ H s→t D σ H→wpAny (model X.prog X.w) X.A (execs st X.env) (SP X pins D) X.xe s
theorem ao{α:Type}{t:Sem α}{Q Q':α→Shared→Prop}{M:Model}{A:Around}{E:Value→Shared→Prop}{s:Shared}(h:wpAny M A t Q E s)(hQ:∀a s,Q a s→Q' a s):wpAny M A t Q' E s:=wpAny_mono h hQ fun _ _ x=>x
section
variable{X:Cx}
def bK(i:Nat):TE:=fun σ H Q=>∃v,σ[i]?=some (some v)∧Q v H
def tC(v:V):TE:=fun _ H Q=>Q v H
theorem o8{i:Nat}{x:Str}{pos:Pos}(hN:X.N[i]?=some x)(hv:il X.env.scope x)(hd:(x == ("__debug__":Str))=false:=by decide)(hcd:(x == ("__classdict__":Str))=false:=by decide):PE X (.Name x pos) (bK i):=by
 intro pins s σ H Q I h
 obtain⟨v,e,h⟩:=h
 obtain⟨m,hn,hl⟩:=I.loc
 obtain⟨u,r,l⟩:=hl i x v hN e hv
 have fin:EP X pins σ Q u s:=⟨v,H,I,r,h⟩
 rcases l with⟨hk,hm⟩ | ⟨hk,c,hc,hcell⟩
 ·exact wpAny_Name (wpAny_loadName_local I.ok.kind hk hn hm fin) hd
 ·rcases hk with hk | hk
  ·exact wpAny_Name (wpAny_loadName_cell I.ok.kind hk hc hcell fin) hd
  ·exact wpAny_Name (wpAny_loadName_free I.ok.kind hk hc hcell fin hcd) hd
theorem ad{i j pos}:PE X (.Constant (.int i) j pos) (tC (.int i)):=fun _ _ _ H _ I h=>wpAny_Constant_int ⟨.int i,H,I.tok _,⟨_,rfl⟩,h⟩
theorem ck{b j pos}:PE X (.Constant (.bool b) j pos) (tC (.bl b)):=fun _ _ _ H _ I h=>Constant_bool ⟨.bl b,H,I,rfl,h⟩
theorem jG{j pos}:PE X (.Constant .none j pos) (tC .non):=fun _ _ _ H _ I h=>Constant_none ⟨.non,H,I,rfl,h⟩
theorem aO{x j pos}:PE X (.Constant (.str x) j pos) (tC (.str x)):=fun _ _ _ H _ I h=>Calls.Constant_str ⟨.str x,H,I.tok _,⟨_,rfl⟩,h⟩
def Gl(X:Cx)(x:Str):Prop:=X.env.kindOf x=some .globalImplicit
theorem eZ{E:Value→Shared→Prop}{pins:List (Addr×Obj)}{s:Shared}{σ:St}{H:Hp}{x:Str}{u:Value}{pos:Pos}{Q:Value→Shared→Prop}(I:Inv X pins σ H s)(hg:Gl X x)(hm:X.mg x=some u)(h:Q u s)(hd:(x == ("__debug__":Str))=false:=by decide):wpAny (model X.prog X.w) X.A (eval (.Name x pos) X.env) Q E s:=
 Calls.Name_function_global I.ok.kind hg (Calls.loadGlobal_global (by rw[I.ok.glob];exact I.mod.glob.keeps I.bk) hm h) hd
theorem e8{E:Value→Shared→Prop}{pins:List (Addr×Obj)}{s:Shared}{σ:St}{H:Hp}{x:Str}{u:Value}{pos:Pos}{Q:Value→Shared→Prop}(I:Inv X pins σ H s)(hg:Gl X x)(hm:X.mg x=none)(hv:bootBuiltins x=some u)(h:Q u s)(hn:x≠"__name__":=by decide)(hd:(x == ("__debug__":Str))=false:=by decide):wpAny (model X.prog X.w) X.A (eval (.Name x pos) X.env) Q E s:=by
 obtain⟨mb,h1,h2⟩:=I.mod.blt
 exact Calls.Name_function_global I.ok.kind hg (Calls.loadGlobal_builtin (by rw[I.ok.glob];exact I.mod.glob.keeps I.bk) hm (by rw[I.ok.blt];exact h1.keeps I.bk) ((h2 x hn).trans hv) h) hd
theorem du{x:Str}{v:V}{u:Value}{pos:Pos}(hg:Gl X x)(hm:X.mg x=some u)(r:RelV v u)(hd:(x == ("__debug__":Str))=false:=by decide):PE X (.Name x pos) (tC v):=
 fun _ _ _ H _ I h=>eZ I hg hm ⟨v,H,I,r,h⟩ hd
theorem jK{x:Str}{v:V}{u:Value}{pos:Pos}(hg:Gl X x)(hm:X.mg x=none)(hv:bootBuiltins x=some u)(r:RelV v u)(hn:x≠"__name__":=by decide)(hd:(x == ("__debug__":Str))=false:=by decide):PE X (.Name x pos) (tC v):=
 fun _ _ _ H _ I h=>e8 I hg hm hv ⟨v,H,I,r,h⟩ hn hd
variable{a b:Expr}{ta tb:TE}{pos:Pos}
def tB(t:TE):TT:=fun σ H Q=>t σ H fun x H1=>∃c,x=.bl c∧Q c H1
theorem bt{e:Expr}{t:TE}(h:PE X e t)(he:∀whole,isTrue e X.env whole=(do let v←whole;standAt e.pos;holding [v] (truthy v)):=by intro _;rfl):PT X e (tB t):=by
 intro pins s σ H Q I hw
 refine isTrue_plain (ao (h pins s σ H _ I hw) fun v s1 ⟨x,H1,I1,r1,q1⟩=>?_) (he _)
 obtain⟨d,rfl,q⟩:=q1
 cases r1
 exact wpAny_truthy_bool ⟨H1,I1,q⟩
variable{tA tB':TT}{aJ:List Expr}
def ko(t u:TT):TT:=fun σ H Q=>t σ H fun c H1=>if c=true then u σ H1 Q else Q false H1
def jP(t u:TT):TT:=fun σ H Q=>t σ H fun c H1=>if c=true then Q true H1 else u σ H1 Q
def mU(t:TT):TT:=fun σ H Q=>t σ H fun c H1=>Q (!c) H1
theorem iM(ha:PT X a tA):PW X (.BoolOp .And [a] pos) tA:=by
 intro wh pins s σ H Q I h
 refine isTrue_and (ao (ha pins s σ H Q I h) fun c s1 e=>?_)
 cases c with
 | true=>exact isTrue_and_nil e
 | false=>exact e
theorem fy(ha:PT X a tA):PW X (.BoolOp .Or [a] pos) tA:=by
 intro wh pins s σ H Q I h
 refine isTrue_or (ao (ha pins s σ H Q I h) fun c s1 e=>?_)
 cases c with
 | false=>exact isTrue_or_nil e
 | true=>exact e
theorem ie(ha:PT X a tA)(hb:PW X (.BoolOp .And (b::aJ) pos) tB'):PW X (.BoolOp .And (a::b::aJ) pos) (ko tA tB'):=by
 intro wh pins s σ H Q I h
 refine isTrue_and (ao (ha pins s σ H _ I h) fun c s1 ⟨H1,I1,q1⟩=>?_)
 cases c with
 | true=>exact hb wh pins s1 σ H1 Q I1 q1
 | false=>exact⟨H1,I1,q1⟩
theorem dF(ha:PT X a tA)(hb:PW X (.BoolOp .Or (b::aJ) pos) tB'):PW X (.BoolOp .Or (a::b::aJ) pos) (jP tA tB'):=by
 intro wh pins s σ H Q I h
 refine isTrue_or (ao (ha pins s σ H _ I h) fun c s1 ⟨H1,I1,q1⟩=>?_)
 cases c with
 | true=>exact⟨H1,I1,q1⟩
 | false=>exact hb wh pins s1 σ H1 Q I1 q1
theorem cx(ha:PT X a tA):PT X (.UnaryOp .Not a pos) (mU tA):=by
 intro pins s σ H Q I h
 exact isTrue_not (ha pins s σ H (fun c H1=>Q (!c) H1) I h)
def mC(ta tb:TE):TE:=fun σ H Q=>ta σ H fun x H1=>∃c,x=.bl c∧if c=true then tb σ H1 Q else Q (.bl false) H1
theorem dX{op}{t:TE}(h:PE X a t):PE X (.BoolOp op [a] pos) t:=fun pins s σ H Q I hw=>BoolOp_one (h pins s σ H Q I hw)
theorem dU(ha:PE X a ta)(hb:PE X (.BoolOp .And (b::aJ) pos) tb):PE X (.BoolOp .And (a::b::aJ) pos) (mC ta tb):=by
 intro pins s σ H Q I h
 refine BoolOp_and (ao (ha pins s σ H _ I h) fun v s1 ⟨x,H1,I1,r1,q1⟩=>?_)
 obtain⟨c,rfl,q1⟩:=q1
 cases r1
 refine wpAny_truthy_bool ?_
 cases c with
 | true=>exact hb pins s1 σ H1 Q I1 q1
 | false=>exact⟨.bl false,H1,I1,rfl,q1⟩
end
def SqL(K:PySem.W.Frag)(H:Hp)(a:Addr)(xs:List V):Prop:=
 Rd H a (.lst xs)∨
  ∃(o:Obj) (its:Array Value) (n:Nat),K.lookup a=some o∧o.cls=.type "list"∧o.dict=none∧o.data=.seq its n∧its.size≤sizeLine∧Vals xs its.toList
def SqT(K:PySem.W.Frag)(H:Hp)(a:Addr)(xs:List V):Prop:=
 Rd H a (.tup xs)∨
  ∃(o:Obj) (its:Array Value) (n:Nat),K.lookup a=some o∧o.cls=.type "tuple"∧o.data=.seq its n∧its.size≤sizeLine∧Vals xs its.toList
def rP:Value→Option V
 | .none=>some .non
 | .bool b=>some (.bl b)
 | .int i _=>some (.int i)
 | .str x _=>some (.str x)
 | .bytes b _=>some (.byt b)
 | .float b _=>some (.flt b)
 | .ref a=>some (.ref a)
 | .type n=>some (.ty n)
 | _=>none
theorem RelV.abs{x:V}{u:Value}(r:RelV x u):rP u=some x:=by
 cases x with
 | non=>cases r;rfl
 | bl _=>cases r;rfl
 | int _=>obtain⟨t,rfl⟩:=r;rfl
 | str _=>obtain⟨t,rfl⟩:=r;rfl
 | byt _=>obtain⟨t,rfl⟩:=r;rfl
 | flt _=>obtain⟨t,rfl⟩:=r;rfl
 | ref _=>cases r;rfl
 | ty _=>cases r;rfl
theorem RelV.inj{x y:V}{u:Value}(r:RelV x u)(q:RelV y u):x=y:=Option.some.inj (r.abs.symm.trans q.abs)
theorem Vals.inj:∀{xs ys:List V} {us:List Value},Vals xs us→Vals ys us→xs=ys
 | _,_,_,.nil,.nil=>rfl
 | _,_,_,.cons r t,.cons r' t'=>by rw[r.inj r',Vals.inj t t']
section
variable{X:Cx}{pins:List (Addr×Obj)}{σ:St}{H:Hp}{s:Shared}{a:Addr}{xs ys:List V}
theorem SqL.of{K:PySem.W.Frag}(h:H a=some (.lst xs)):SqL K H a xs:=.inl (.inl h)
theorem SqT.of{K:PySem.W.Frag}(h:H a=some (.tup xs)):SqT K H a xs:=.inl (.inl h)
theorem Inv.list(I:Inv X pins σ H s)(h:SqL X.K H a xs):∃its:List Value,Vals xs its∧PlainL s.heap a its.toArray∧xs.length≤sizeLine:=by
 rcases h with h | ⟨o,its,n,hk,hc,hd,hs,hz,r⟩
 ·obtain⟨z,its,n,r,e⟩:=h.ok I.hok
  exact⟨its,r,⟨_,n,e,rfl,rfl,rfl⟩,z⟩
 ·refine⟨its.toList,r,⟨o,n,I.kIn a o hk,hc,hd,by simpa using hs⟩,?_⟩
  have e:=r.length
  simp only[Array.length_toList] at e
  lia
theorem Inv.tuple(I:Inv X pins σ H s)(h:SqT X.K H a xs):∃its:List Value,Vals xs its∧IsTup s.heap a its.toArray∧xs.length≤sizeLine:=by
 rcases h with h | ⟨o,its,n,hk,hc,hs,hz,r⟩
 ·obtain⟨z,its,r,p⟩:=h.ok I.hok
  exact⟨its,r,p,z⟩
 ·refine⟨its.toList,r,⟨o,I.kIn a o hk,hc,n,by simpa using hs⟩,?_⟩
  have e:=r.length
  simp only[Array.length_toList] at e
  lia
theorem Inv.list_inj(I:Inv X pins σ H s)(h:SqL X.K H a xs)(h':SqL X.K H a ys):xs=ys:=by
 obtain⟨its,r,⟨o,n,e,_,_,d⟩,_⟩:=I.list h
 obtain⟨its',r',⟨o',n',e',_,_,d'⟩,_⟩:=I.list h'
 rw[e] at e';cases e'
 rw[d] at d'
 injection d' with d1 _
 have:its=its':=by simpa using congrArg Array.toList d1
 subst this
 exact r.inj r'
theorem Inv.tuple_inj(I:Inv X pins σ H s)(h:SqT X.K H a xs)(h':SqT X.K H a ys):xs=ys:=by
 obtain⟨its,r,⟨o,e,_,n,d⟩,_⟩:=I.tuple h
 obtain⟨its',r',⟨o',e',_,n',d'⟩,_⟩:=I.tuple h'
 rw[e] at e';cases e'
 rw[d] at d'
 injection d' with d1 _
 have:its=its':=by simpa using congrArg Array.toList d1
 subst this
 exact r.inj r'
end
abbrev Cx.wish(X:Cx)(E:Value→Shared→Prop):Cx:={X with xe:=E}
abbrev Cx.nox(X:Cx):Cx:=X.wish fun _ _=>False
theorem Cx.Ok.wish{X:Cx}(ok:X.Ok)(E:Value→Shared→Prop):(X.wish E).Ok:=
 ⟨ok.mod,ok.kind,ok.glob,ok.blt,ok.above,ok.inj,ok.has,ok.cab,ok.hd,ok.frames,ok.stk,ok.exf,ok.bs,ok.bsz,ok.noex,ok.exfs,ok.funs,ok.frf⟩
theorem Cx.Ok.unwish{X:Cx}{E:Value→Shared→Prop}(ok:(X.wish E).Ok):X.Ok:=
 ⟨ok.mod,ok.kind,ok.glob,ok.blt,ok.above,ok.inj,ok.has,ok.cab,ok.hd,ok.frames,ok.stk,ok.exf,ok.bs,ok.bsz,ok.noex,ok.exfs,ok.funs,ok.frf⟩
section
variable{X:Cx}{pins:List (Addr×Obj)}{σ:St}{H:Hp}{s:Shared}{E:Value→Shared→Prop}
theorem Inv.wish(I:Inv X pins σ H s)(E:Value→Shared→Prop):Inv (X.wish E) pins σ H s:=⟨I.ok.wish E,I.os,I.bare,I.base,I.loc,I.cell,I.free,I.freeC,I.pin,I.hok,I.len⟩
theorem Inv.unwish(I:Inv (X.wish E) pins σ H s):Inv X pins σ H s:=⟨I.ok.unwish,I.os,I.bare,I.base,I.loc,I.cell,I.free,I.freeC,I.pin,I.hok,I.len⟩
theorem SP.unwish{D:Ends}{f:Flow}{s':Shared}(h:SP (X.wish E) pins D f s'):SP X pins D f s':=by
 cases f with
 | next=>obtain⟨σ',H',I,q⟩:=h;exact⟨σ',H',I.unwish,q⟩
 | brk=>obtain⟨σ',H',I,q⟩:=h;exact⟨σ',H',I.unwish,q⟩
 | cont=>obtain⟨σ',H',I,q⟩:=h;exact⟨σ',H',I.unwish,q⟩
 | ret u=>obtain⟨v,σ',H',I,r,q⟩:=h;exact⟨v,σ',H',I.unwish,r,q⟩
theorem PSs.nox{st:List Stmt}{t:TS}(h:PSs X.nox st t):PSs X st t:=fun pins s σ H D I hw=>
 wpAny_mono (h pins s σ H D (I.wish _) hw) (fun _ _ q=>q.unwish) fun _ _ z=>False.elim z
end
section
variable{X:Cx}{st:Stmt}{aJ:List Stmt}{t u:TS}{e:Expr}{te:TE}{pos:Pos}
def gs:TS:=fun D σ H=>D.nx σ H
def cJ(t u:TS):TS:=fun D σ H=>t {D with nx:=u D} σ H
theorem aM:PSs X [] gs:=fun _ _ σ H _ I h=>wpAny_execs_nil ⟨σ,H,I,h⟩
theorem ae(h1:PS X st t)(h2:PSs X aJ u):PSs X (st::aJ) (cJ t u):=by
 intro pins s σ H D I h
 refine wpAny_execs_cons (ao (h1 pins s σ H {D with nx:=u D} I h) fun f s1 q=>?_)
 cases f with
 | next=>
   obtain⟨σ',H',I',q⟩:=q
   exact h2 pins s1 σ' H' D I' q
 | ret v=>exact q
 | brk=>exact q
 | cont=>exact q
theorem ah(h1:PS X st t):PSs X [st] t:=by
 intro pins s σ H D I h
 refine wpAny_execs_cons (ao (h1 pins s σ H D I h) fun f s1 q=>?_)
 cases f with
 | next=>exact wpAny_execs_nil q
 | ret v=>exact q
 | brk=>exact q
 | cont=>exact q
theorem Inv.quiet{pins:List (Addr×Obj)}{σ:St}{H:Hp}{s:Shared}(I:Inv X pins σ H s):interactive X.env=false:=by simp[interactive,I.ok.kind]
def sG(te:TE):TS:=fun D σ H=>te σ H fun _ H1=>D.nx σ H1
theorem aI(he:PE X e te)(hs:swapsWith e none pos.line X.env=pure false:=by rfl):PS X (.Expr e pos) (sG te):=by
 intro pins s σ H D I h
 exact wpAny_Expr_any (ao (he pins s σ H _ I h) fun v s1 ⟨x,H1,I1,r1,q1⟩=>⟨σ,H1,I1,q1⟩) I.quiet hs
def qO(te:TE):TS:=fun D σ H=>te σ H D.rt
theorem ar(he:PE X e te):PS X (.Return (some e) pos) (qO te):=by
 intro pins s σ H D I h
 exact wpAny_Return_some (ao (he pins s σ H _ I h) fun v s1 ⟨x,H1,I1,r1,q1⟩=>⟨x,σ,H1,I1,r1,q1⟩)
def eG(c:TT)(t u:TS):TS:=fun D σ H=>c σ H fun b H1=>if b=true then t D σ H1 else u D σ H1
theorem aF{c:Expr}{a b:List Stmt}{tc:TT}(hc:PT X c tc)(ha:PSs X a t)(hb:PSs X b u):PS X (.If c a b pos) (eG tc t u):=by
 intro pins s σ H D I h
 refine wpAny_If (ao (hc pins s σ H _ I h) fun d s1 ⟨H1,I1,q1⟩=>?_)
 cases d with
 | true=>exact ha pins s1 σ H1 D I1 q1
 | false=>exact hb pins s1 σ H1 D I1 q1
def sx:TS:=fun _ _ _=>False
theorem fV:PS X st sx:=fun _ _ _ _ _ _ h=>h.elim
end
abbrev TG:=V→St→Hp→(St→Hp→Prop)→Prop
abbrev dm:=List V→St→Hp→(St→Hp→Prop)→Prop
def PG(X:Cx)(target:Expr)(t:TG):Prop:=
 ∀ (pins:List (Addr×Obj)) (s:Shared) (σ:St) (H:Hp) (v:V) (u:Value) (Q:St→Hp→Prop),Inv X pins σ H s→RelV v u→t v σ H Q→
   wpAny (model X.prog X.w) X.A (assign target X.env u) (fun _ s'=>∃σ' H',Inv X pins σ' H' s'∧Q σ' H') X.xe s
def fW(X:Cx)(ts:List Expr)(t:dm):Prop:=
 ∀ (pins:List (Addr×Obj)) (s:Shared) (σ:St) (H:Hp) (vs:List V) (us:List Value) (Q:St→Hp→Prop),Inv X pins σ H s→Vals vs us→t vs σ H Q→
   wpAny (model X.prog X.w) X.A (assignInOrder ((assignEach ts X.env).map (·.2)) us) (fun _ s'=>∃σ' H',Inv X pins σ' H' s'∧Q σ' H') X.xe s
abbrev iG:=V→V→V→Hp→(Hp→Prop)→Prop
def ky(X:Cx)(t:iG):Prop:=
 ∀ (pins:List (Addr×Obj)) (s:Shared) (σ:St) (H:Hp) (o i v:V) (ov iv u:Value) (Q:Hp→Prop),Inv X pins σ H s→RelV o ov→RelV i iv→RelV v u→t o i v H Q→
   wpAny (model X.prog X.w) X.A (setItem ov iv u) (fun _ s'=>∃H',Inv X pins σ H' s'∧Q H') X.xe s
section
variable{X:Cx}{pos:Pos}
def cE(i:Nat):TG:=fun v σ H Q=>Q (σ.set i (some v)) H
theorem bz{i:Nat}{x:Str}(hN:X.N.Nodup)(hi:X.N[i]?=some x)(hx:dr X.env.scope x)(hf:X.fn x=true∨X.env.scope.names.lookup x=some .local:=by first | exact .inl rfl | exact .inr rfl | assumption):PG X (.Name x pos) (cE i):=by
 intro pins s σ H v u Q I r h
 exact wpAny_assign_Name (fH I hN hi hx r (fun s' I'=>⟨_,H,I',h⟩) hf)
def m7:dm:=fun vs σ H Q=>vs=[]∧Q σ H
def on(t:TG)(u:dm):dm:=fun vs σ H Q=>∃v r,vs=v::r∧t v σ H fun σ' H'=>u r σ' H' Q
theorem ib:fW X [] m7:=by
 intro pins s σ H vs us Q I r h
 obtain⟨e,h⟩:=h
 subst e
 cases r
 exact assignInOrder_nil ⟨σ,H,I,h⟩
theorem dQ{e:Expr}{es:List Expr}{t:TG}{u:dm}(h1:PG X e t)(h2:fW X es u)(hs:(assignEach (e::es) X.env).map (·.2)=assign e X.env::(assignEach es X.env).map (·.2):=by rfl):fW X (e::es) (on t u):=by
 intro pins s σ H vs us Q I r h
 obtain⟨v,vr,e1,h⟩:=h
 subst e1
 cases r with
 | cons r rr=>
   rw[hs]
   refine assignInOrder_cons (ao (h1 pins s σ H _ _ _ I r h) fun _ s1 ⟨σ1,H1,I1,q1⟩=>?_)
   exact h2 pins s1 σ1 H1 _ _ Q I1 rr q1
def rJ(K:PySem.W.Frag)(n:Nat)(t:dm):TG:=fun v σ H Q=>∃a xs,v=.ref a∧SqT K H a xs∧xs.length=n∧t xs σ H Q
theorem ir{es:List Expr}{k:Nat}{t:dm}{n:Nat}(hc:X.calm=true)(h:fW X es t)(hn:(assignEach es X.env).length=n:=by rfl)(hst:(assignEach es X.env).findIdx? (·.1)=none:=by rfl):PG X (.Tuple es k pos) (rJ X.K n t):=by
 intro pins s σ H v u Q I r hw
 obtain⟨a,xs,e1,hq,hl,hw⟩:=hw
 subst e1
 cases r
 obtain⟨its,rv,ht,hz⟩:=I.tuple hq
 refine assign_Tuple_tuple (I.ok.hd hc) ht (by simp[hn,←hl,rv.length]) hst fun h' hx=>?_
 have I1:Inv X pins σ H {s with heap:=h'}:=I.kept (t':=s.toks) fun b o e=>hx b o (Nat.ne_of_lt (Heap.lt_size e)) e
 exact h pins _ σ H xs _ Q I1 (by simpa using rv) hw
def sE(to ti:TE)(t:iG):TG:=fun v σ H Q=>to σ H fun o H1=>ti σ H1 fun i H2=>t o i v H2 fun H3=>Q σ H3
theorem kQ{o i:Expr}{to ti:TE}{t:iG}(ho:PE X o to)(hi:PE X i ti)(hs:ky X t)(ha:∀v,assign (.Subscript o i pos) X.env v=(do
 let ov←holding [v] (eval o X.env)
 let iv←holding [v,ov] (eval i X.env)
 standAt pos
 holding [v,ov,iv] (setItem ov iv v)
 release [v,ov,iv] []):=by intro _;rfl):PG X (.Subscript o i pos) (sE to ti t):=by
 intro pins s σ H v u Q I r h
 rw[ha]
 refine wpAny_bind (wpAny_holding (ao (ho pins s σ H _ I h) fun ov s1 ⟨x,H1,I1,r1,q1⟩=>?_))
 refine wpAny_bind (wpAny_holding (ao (hi pins s1 σ H1 _ I1 q1) fun iv s2 ⟨y,H2,I2,r2,q2⟩=>?_))
 refine wpAny_bind (wpAny_standAt (wpAny_bind (wpAny_holding (ao (hs pins s2 σ H2 x y v ov iv u _ I2 r1 r2 r q2) fun _ s3 ⟨H3,I3,q3⟩=>?_))))
 exact wpAny_release ⟨σ,H3,I3,q3⟩
def eh(te:TE)(g:TG):TS:=fun D σ H=>te σ H fun x H1=>g x σ H1 D.nx
theorem iL{tg e:Expr}{te:TE}{g:TG}(he:PE X e te)(hg:PG X tg g)(hs:swapsWithSole [tg] e pos.line X.env=pure false:=by rfl)(hw:swappedStores [tg] e X.env=pure none:=by rfl)
 (h1:(assignEach [tg] X.env).map (·.2)=[assign tg X.env]:=by rfl):PS X (.Assign [tg] e pos) (eh te g):=by
 intro pins s σ H D I h
 refine wpAny_Assign_stores (ao (he pins s σ H _ I h) fun v s1 ⟨x,H1,I1,r1,q1⟩=>?_) hs hw
 rw[h1]
 exact ao (hg pins s1 σ H1 x v _ I1 r1 q1) fun _ s2 q=>q
theorem am{i:Nat}{x:Str}{e:Expr}{te:TE}{pos':Pos}(hN:X.N.Nodup)(hi:X.N[i]?=some x)(hx:dr X.env.scope x)(he:PE X e te)(hs:swapsWith e (some (.Name x pos')) pos.line X.env=pure false:=by rfl)(hf:X.fn x=true∨X.env.scope.names.lookup x=some .local:=by first | exact .inl rfl | exact .inr rfl | assumption):
 PS X (.Assign [.Name x pos'] e pos) (eh te (cE i)):=by
 intro pins s σ H D I h
 refine wpAny_Assign_Name (ao (he pins s σ H _ I h) fun v s1 ⟨y,H1,I1,r1,q1⟩=>?_) hs
 exact fH I1 hN hi hx r1 (fun s2 I2=>⟨_,H1,I2,q1⟩) hf
end
section
variable{X:Cx}{pos:Pos}
def nY(c:TT)(tb:TS):TS:=fun D σ H=>∃W:Nat→St→Hp→Prop,(∃m,W m σ H)∧∀m σ H,W m σ H→
 c σ H fun b H1=>if b=true then∃N:St→Hp→Prop,(∀σ' H',N σ' H'→∃m',m'<m∧W m' σ' H')∧tb {D with nx:=N,ct:=N,bk:=D.nx} σ H1 else D.nx σ H1
theorem mD{c:Expr}{body:List Stmt}{tc:TT}{tb:TS}(hp:PassesOwn (model X.prog X.w) X.A X.env X.xe)(hc:PT X c tc)(hb:PSs X body tb):PS X (.While c body [] pos) (nY tc tb):=by
 intro pins s σ H D I h
 obtain⟨W,⟨m0,w0⟩,turn⟩:=h
 refine wpAny_While (codeAny_whileLoop (fun n s'=>∃σ' H',Inv X pins σ' H' s'∧W n σ' H') ?_ m0 ⟨σ,H,I,w0⟩)
 rintro n s1 ⟨σ1,H1,I1,w1⟩
 refine wpAny_passesOwn hp (ao (hc pins s1 σ1 H1 _ I1 (turn n σ1 H1 w1)) fun b s2 ⟨H2,I2,q2⟩=>?_)
 cases b with
 | true=>
   obtain⟨N,hN,q2⟩:=q2
   rw[if_pos rfl]
   refine wpAny_passesOwn hp (ao (hb pins s2 σ1 H2 _ I2 q2) fun f s3 q3=>?_)
   cases f with
   | next=>
     obtain⟨σ3,H3,I3,n3⟩:=q3
     obtain⟨m',hm,w3⟩:=hN σ3 H3 n3
     exact⟨m',hm,σ3,H3,I3,w3⟩
   | cont=>
     obtain⟨σ3,H3,I3,n3⟩:=q3
     obtain⟨m',hm,w3⟩:=hN σ3 H3 n3
     exact⟨m',hm,σ3,H3,I3,w3⟩
   | brk=>exact q3
   | ret v=>exact q3
 | false=>
   rw[if_neg Bool.false_ne_true]
   exact wpAny_execs_nil ⟨σ1,H2,I2,q2⟩
end
structure It where
 go:Nat→Hp→Prop
 yld:Nat→Hp→V→Hp→Prop
 stop:Nat→Hp→Prop
def ci(X:Cx)(pins:List (Addr×Obj))(H:Hp)(b:Addr):Prop:=
 H b=none∧b≠X.env.locals∧b∉X.fs∧(b∈X.ex∨X.s₀.heap.objs.size≤b)∧(∀x c,X.env.cells.lookup x=some c→c≠b)∧∀p∈X.pn++pins,p.1≠b
theorem Inv.fpOk{X:Cx}{pins:List (Addr×Obj)}{σ:St}{H H':Hp}{s:Shared}{b:Addr}(I:Inv X pins σ H s)(hb:s.heap.objs.size≤b)(hn:H' b=none):ci X pins H' b:=by
 refine⟨hn,Nat.ne_of_gt (Nat.lt_of_lt_of_le I.lt hb),I.nofs hb,.inr (Nat.le_trans I.sz hb),fun x c e z=>?_,fun p hp z=>?_⟩
 ·obtain⟨v,q⟩:=I.cell x c e
  exact absurd (Nat.lt_of_lt_of_le q.lt (by rw[z];exact hb)) (Nat.lt_irrefl _)
 ·exact absurd (Nat.lt_of_lt_of_le (Heap.lt_size (I.pin p hp).1) (by rw[z];exact hb)) (Nat.lt_irrefl _)
structure Turn(P:Program)(w:World)(K:PySem.W.Frag)(tg:Expr)(J:It)(fp:List Addr)(it:Addr)(tn:Nat→Heap→Prop):Prop where
 mem:it∈fp
 obj:∀i h,tn i h→∀b∈fp,∃o,h.get? b=some o∧∀v,o.data≠ .cell v
 keep:∀i h h',tn i h→(∀b∈fp,∀o,h.get? b=some o→h'.get? b=some o)→tn i h'
 item:∀(X:Cx),X.prog=P→X.w=w→X.K=K→X.calm=true→∀(i:Nat) (pins:List (Addr×Obj)) (s:Shared) (σ:St) (H:Hp) (E:Value→Shared→Prop),Inv X pins σ H s→(∀b∈fp,ci X pins H b)→tn i s.heap→J.go i H→
  wpAny (model P w) X.A (pyNext (.ref it)) (fun r s1=>∃u,r=some u∧
   wpAny (model P w) X.A (letOwnedTupleGo tg (.ref it) u) (fun _ s2=>∃x H',Inv X pins σ H' s2∧RelV x u∧J.yld i H x H'∧tn (i+1) s2.heap∧∀b∈fp,H' b=none) E s1) E s
 done:∀(X:Cx),X.prog=P→X.w=w→X.K=K→X.calm=true→∀(i:Nat) (pins:List (Addr×Obj)) (s:Shared) (σ:St) (H:Hp) (E:Value→Shared→Prop),Inv X pins σ H s→(∀b∈fp,ci X pins H b)→tn i s.heap→J.stop i H→
  wpAny (model P w) X.A (pyNext (.ref it)) (fun r s1=>r=none∧Inv X pins σ H s1) E s
 self:∀(A:Around) (i:Nat) (s:Shared) (Q:Value→Shared→Prop) (E:Value→Shared→Prop),tn i s.heap→Q (.ref it) s→wpAny (model P w) A (pyIter (.ref it)) Q E s
abbrev TI:=St→Hp→(It→Hp→Prop)→Prop
def jO(X:Cx)(pins:List (Addr×Obj))(σ:St)(tg:Expr)(R:It→Hp→Prop)(itv:Value)(s2:Shared):Prop:=
 ∃(it:Addr) (fp:List Addr) (tn:Nat→Heap→Prop) (J:It) (H':Hp),itv=.ref it∧Inv X pins σ H' s2∧Turn X.prog X.w X.K tg J fp it tn∧tn 0 s2.heap∧(∀b∈fp,ci X pins H' b)∧R J H'
def PI(X:Cx)(tg iter:Expr)(wi:TI):Prop:=
 ∀ (pins:List (Addr×Obj)) (s:Shared) (σ:St) (H:Hp) (R:It→Hp→Prop),Inv X pins σ H s→wi σ H R→
   wpAny (model X.prog X.w) X.A (eval iter X.env) (fun v s1=>wpAny (model X.prog X.w) X.A (pyIter v) (jO X pins σ tg R) X.xe s1) X.xe s
theorem gI{M:Model}{A:Around}{E:Value→Shared→Prop}{s:Shared}{tg:Expr}{it:Addr}{u:Value}{o:Obj}{n:String}{vs:Array Value}{Q:Unit→Shared→Prop}(ho:s.heap.get? it=some o)(hc:o.cls=.type n)(hd:o.data=.fields vs)(hn:["enumerate","zip","dict_itemiterator","dict_reverseitemiterator","odict_iterator","itertools.zip_longest","itertools.pairwise"].contains n=false)(hQ:Q () s):wpAny M A (letOwnedTupleGo tg (.ref it) u) Q E s:=by
 unfold letOwnedTupleGo
 cases tg <;> first
  | exact wpAny_pure hQ
  | (cases u <;> first
   | exact wpAny_pure hQ
   | (refine wpAny_bind (wpAny_load ho ?_)
      rw[hc,hd]
      show wpAny M A (if(["enumerate","zip","dict_itemiterator","dict_reverseitemiterator","odict_iterator","itertools.zip_longest","itertools.pairwise"].contains n && vs[0]? == some (rawInt _))=true then _ else _) Q E s
      rw[if_neg (by intro h;rw[hn,Bool.false_and] at h;cases h)]
      exact wpAny_pure hQ))
def cn(K:PySem.W.Frag)(a:Addr):It:=
 ⟨fun i H=>∃xs x,SqL K H a xs∧xs[i]?=some x,fun i H x H'=>H'=H∧∀xs,SqL K H a xs→xs[i]?=some x,fun i H=>∃xs,SqL K H a xs∧xs.length≤i⟩
def dN(K:PySem.W.Frag)(a:Addr):It:=
 ⟨fun i H=>∃xs x,SqT K H a xs∧xs[i]?=some x,fun i H x H'=>H'=H∧∀xs,SqT K H a xs→xs[i]?=some x,fun i H=>∃xs,SqT K H a xs∧xs.length≤i⟩
def cu(lo:Int)(n:Nat):It:=⟨fun i _=>i<n,fun i H x H'=>H'=H∧x=.int (lo+i),fun i _=>n≤i⟩
theorem qF{P:Program}{w:World}{K:PySem.W.Frag}{tg:Expr}(a it:Addr):Turn P w K tg (cn K a) [it] it (fun i h=>h.IsListIter it a i) where
 mem:=by simp
 obj:=fun i h st b hb=>by
  have e:b=it:=by simpa using hb
  subst e
  obtain⟨o,e,c,d⟩:=st
  exact⟨o,e,fun v z=>by rw[d] at z;cases z⟩
 keep:=fun i h h' st k=>st.at fun o e=>k it (by simp) o e
 item:=by
  intro X hP hw hK hc i pins s σ H E I hf st hg
  subst hP hw hK
  obtain⟨xs,x,hq,hx⟩:=hg
  obtain⟨its,rv,p,hz⟩:=I.list hq
  obtain⟨u,hu,ru⟩:=rv.get hx
  obtain⟨f0,f1,f2,f3,f4,f5⟩:=hf it (by simp)
  refine wpAny_pyNext_list_item st p.isList (x:=u) (by simpa using hu) fun h' st' sb=>?_
  have I1:Inv X pins σ H {s with heap:=h'}:=I.turned (t':=s.toks) (fun b o hb e=>(sb.2 b hb).trans e) f0 f1 f3 f4 f5
  obtain⟨o,e,c,d⟩:=id st'
  exact⟨u,rfl,gI (s:={s with heap:=h'}) e c d (by decide) ⟨x,H,I1,ru,⟨rfl,fun ys hy=>by rw[I.list_inj hy hq];exact hx⟩,st',fun b hb=>(hf b hb).1⟩⟩
 done:=by
  intro X hP hw hK hc i pins s σ H E I hf st hg
  subst hP hw hK
  obtain⟨xs,hq,hx⟩:=hg
  obtain⟨its,rv,p,hz⟩:=I.list hq
  obtain⟨f0,f1,f2,f3,f4,f5⟩:=hf it (by simp)
  have hl:=rv.length
  exact wpAny_pyNext_list_end (I.ok.hd hc) st p.isList (by simp;lia) fun h' eb=>⟨rfl,I.turned (t':=s.toks) (fun b o hb e=>eb b o hb e) f0 f1 f3 f4 f5⟩
 self:=fun _ _ _ _ _ st h=>wpAny_pyIter_listiter st h
theorem o4{P:Program}{w:World}{K:PySem.W.Frag}{tg:Expr}(a it:Addr):Turn P w K tg (dN K a) [it] it (fun i h=>h.IsTupleIter it a i) where
 mem:=by simp
 obj:=fun i h st b hb=>by
  have e:b=it:=by simpa using hb
  subst e
  obtain⟨o,e,c,d⟩:=st
  exact⟨o,e,fun v z=>by rw[d] at z;cases z⟩
 keep:=fun i h h' st k=>st.at fun o e=>k it (by simp) o e
 item:=by
  intro X hP hw hK hc i pins s σ H E I hf st hg
  subst hP hw hK
  obtain⟨xs,x,hq,hx⟩:=hg
  obtain⟨its,rv,p,hz⟩:=I.tuple hq
  obtain⟨u,hu,ru⟩:=rv.get hx
  obtain⟨f0,f1,f2,f3,f4,f5⟩:=hf it (by simp)
  refine wpAny_pyNext_tuple_item st (show s.heap.IsTuple a its.toArray from p) (x:=u) (by simpa using hu) fun h' st' sb=>?_
  have I1:Inv X pins σ H {s with heap:=h'}:=I.turned (t':=s.toks) (fun b o hb e=>(sb.2 b hb).trans e) f0 f1 f3 f4 f5
  obtain⟨o,e,c,d⟩:=id st'
  exact⟨u,rfl,gI (s:={s with heap:=h'}) e c d (by decide) ⟨x,H,I1,ru,⟨rfl,fun ys hy=>by rw[I.tuple_inj hy hq];exact hx⟩,st',fun b hb=>(hf b hb).1⟩⟩
 done:=by
  intro X hP hw hK hc i pins s σ H E I hf st hg
  subst hP hw hK
  obtain⟨xs,hq,hx⟩:=hg
  obtain⟨its,rv,p,hz⟩:=I.tuple hq
  obtain⟨f0,f1,f2,f3,f4,f5⟩:=hf it (by simp)
  have hl:=rv.length
  exact wpAny_pyNext_tuple_end (I.ok.hd hc) st (show s.heap.IsTuple a its.toArray from p) (by simp;lia) fun h' eb=>⟨rfl,I.turned (t':=s.toks) (fun b o hb e=>eb b o hb e) f0 f1 f3 f4 f5⟩
 self:=fun _ _ _ _ _ st h=>wpAny_pyIter_tupleiter st h
theorem pR{P:Program}{w:World}{K:PySem.W.Frag}{tg:Expr}(it:Addr)(lo:Int)(n:Nat):Turn P w K tg (cu lo n) [it] it (fun i h=>IsRangeIter h it (lo+(i:Nat)*1) ((n:Int)-(i:Nat)) 1) where
 mem:=by simp
 obj:=fun i h st b hb=>by
  have e:b=it:=by simpa using hb
  subst e
  exact⟨_,st,fun v z=>by
   have z':Data.fields _=Data.cell v:=z
   cases z'⟩
 keep:=fun i h h' st k=>k it (by simp) _ st
 item:=by
  intro X hP hw hK hc i pins s σ H E I hf st hg
  subst hP hw hK
  obtain⟨f0,f1,f2,f3,f4,f5⟩:=hf it (by simp)
  have W:=Walks.range (prog:=X.prog) (w:=X.w) (I.ok.hd hc) it lo 1 n
  refine W.item i s _ _ hg st fun v h' tk hv st' kk=>?_
  obtain⟨t,rfl⟩:=hv
  have I1:Inv X pins σ H {s with heap:=h',toks:=tk}:=I.turned (fun b o hb e=>kk b o (by simpa using hb) e) f0 f1 f3 f4 f5
  refine⟨_,rfl,gI (s:={s with heap:=h',toks:=tk}) (n:="range_iterator") st' rfl rfl (by decide) ⟨.int (lo+i),H,I1,⟨t,?_⟩,⟨rfl,rfl⟩,st',fun b hb=>(hf b hb).1⟩⟩
  rw[Int.mul_one]
 done:=by
  intro X hP hw hK hc i pins s σ H E I hf st hg
  subst hP hw hK
  obtain⟨f0,f1,f2,f3,f4,f5⟩:=hf it (by simp)
  exact wpAny_pyNext_range_end (I.ok.hd hc) st (by have:n≤i:=hg;lia) fun h' eb=>⟨rfl,I.turned (t':=s.toks) (fun b o hb e=>eb b o hb e) f0 f1 f3 f4 f5⟩
 self:=fun _ _ _ _ _ st h=>wpAny_pyIter_rangeiter st h
section
variable{X:Cx}{tg:Expr}
def jE(K:PySem.W.Frag)(tl:TE):TI:=fun σ H R=>tl σ H fun x H1=>∃a,x=.ref a∧(∃xs,SqL K H1 a xs)∧R (cn K a) H1
def qi(K:PySem.W.Frag)(tl:TE):TI:=fun σ H R=>tl σ H fun x H1=>∃a,x=.ref a∧(∃xs,SqT K H1 a xs)∧R (dN K a) H1
theorem cj{l:Expr}{tl:TE}(hl:PE X l tl):PI X tg l (jE X.K tl):=by
 intro pins s σ H R I h
 refine ao (hl pins s σ H _ I h) fun v s1 ⟨x,H1,I1,r1,q1⟩=>?_
 obtain⟨a,e,⟨xs,hq⟩,q⟩:=q1
 subst e
 cases r1
 obtain⟨its,rv,p,hz⟩:=I1.list hq
 refine wpAny_pyIter_list p.isList ?_
 refine⟨s1.heap.objs.size,[s1.heap.objs.size],_,_,H1,rfl,I1.kept (t':=s1.toks) fun b o e=>Heap.get?_push_of_some _ e,qF a _,⟨_,Heap.get?_push_size _ rfl,rfl,rfl⟩,fun b hb=>?_,q⟩
 have e:b=s1.heap.objs.size:=by simpa using hb
 subst e
 exact I1.fpOk (Nat.le_refl _) (I1.hok.fresh (Nat.le_refl _))
theorem q9{l:Expr}{tl:TE}(hl:PE X l tl):PI X tg l (qi X.K tl):=by
 intro pins s σ H R I h
 refine ao (hl pins s σ H _ I h) fun v s1 ⟨x,H1,I1,r1,q1⟩=>?_
 obtain⟨a,e,⟨xs,hq⟩,q⟩:=q1
 subst e
 cases r1
 obtain⟨its,rv,p,hz⟩:=I1.tuple hq
 refine wpAny_pyIter_tuple (show s1.heap.IsTuple a its.toArray from p) ?_
 refine⟨s1.heap.objs.size,[s1.heap.objs.size],_,_,H1,rfl,I1.kept (t':=s1.toks) fun b o e=>Heap.get?_push_of_some _ e,o4 a _,⟨_,Heap.get?_push_size _ rfl,rfl,rfl⟩,fun b hb=>?_,q⟩
 have e:b=s1.heap.objs.size:=by simpa using hb
 subst e
 exact I1.fpOk (Nat.le_refl _) (I1.hok.fresh (Nat.le_refl _))
theorem i8{pins:List (Addr×Obj)}{σ:St}{H:Hp}{s:Shared}{R:It→Hp→Prop}{E:Value→Shared→Prop}{lo hi:Int}{t u v:Tok}{tk:Nat}(I:Inv X pins σ H s)(h1: -(2 ^ 62)≤lo)(h2:lo<2 ^ 62)(h3: -(2 ^ 62)≤hi)(h4:hi<2 ^ 62)(q:R (cu lo (hi-lo).toNat) H):wpAny (model X.prog X.w) X.A (pyIter (.ref s.heap.objs.size)) (jO X pins σ tg R) E {s with heap:=s.heap.push {cls:=.type "range",data:=.fields #[.int lo t,.int hi u,.int 1 v]},toks:=tk}:=by
 refine wpAny_pyIter_range (IsRange.new ..) (small_one h1 h2 h3 h4) ?_
 have I1:Inv X pins σ H {s with heap:=s.heap.push {cls:=.type "range",data:=.fields #[.int lo t,.int hi u,.int 1 v]},toks:=tk}:=I.kept fun b o e=>Heap.get?_push_of_some _ e
 refine⟨(s.heap.push {cls:=.type "range",data:=.fields #[.int lo t,.int hi u,.int 1 v]}).objs.size,[(s.heap.push {cls:=.type "range",data:=.fields #[.int lo t,.int hi u,.int 1 v]}).objs.size],_,_,H,rfl,
  I1.kept (t':=tk) fun b o e=>Heap.get?_push_of_some _ e,pR _ lo (hi-lo).toNat,?_,fun b hb=>?_,q⟩
 ·have e1:lo+((0:Nat):Int)*1=lo:=by simp
  have e2:(((hi-lo).toNat:Nat):Int)-((0:Nat):Int)=Builtin.Range.rangeSize lo hi 1:=by rw[rangeSize_one];split <;> lia
  show IsRangeIter _ _ (lo+((0:Nat):Int)*1) ((((hi-lo).toNat:Nat):Int)-((0:Nat):Int)) 1
  rw[e1,e2]
  exact Heap.get?_push_size _ rfl
 ·have e:b=(s.heap.push {cls:=.type "range",data:=.fields #[.int lo t,.int hi u,.int 1 v]}).objs.size:=by simpa using hb
  subst e
  exact I1.fpOk (Nat.le_refl _) (I1.hok.fresh (Nat.le_refl _))
def pW(ta:TA):TI:=fun σ H R=>ta σ H fun vs H1=>∃j:Int,vs=[.int j]∧ -(2 ^ 62)≤j∧j<2 ^ 62∧R (cu 0 j.toNat) H1
def ol(ta:TA):TI:=fun σ H R=>ta σ H fun vs H1=>∃i j:Int,vs=[.int i,.int j]∧(-(2 ^ 62)≤i∧i<2 ^ 62∧ -(2 ^ 62)≤j∧j<2 ^ 62)∧R (cu i (j-i).toNat) H1
theorem d5{a:Expr}{ta:TA}{p pos:Pos}(hg:Gl X "range")(hm:X.mg "range"=none)(ha:PA X [a] ta)(hs:starEach [a] X.env=[(false,eval a X.env)]:=by rfl):PI X tg (.Call (.Name "range" p) [a] [] pos) (pW ta):=by
 intro pins s σ H R I h
 refine Call_ (e8 I hg hm boot_range (PyProof.Rows.callWith_type1 (ao (ha pos pins s σ H _ I h) fun us s1 ⟨vs,H1,I1,r1,q1⟩=>?_) hs rfl))
 obtain⟨j,e,q1,q2,q⟩:=q1
 subst e
 cases r1 with
 | cons r rr=>
   cases rr
   obtain⟨t,rfl⟩:=r
   exact call_range_1 (i8 I1 (by lia) (by lia) q1 q2 (by simpa using q))
theorem dq{a b:Expr}{ta:TA}{p pos:Pos}(hg:Gl X "range")(hm:X.mg "range"=none)(ha:PA X [a,b] ta)(hs:starEach [a,b] X.env=[(false,eval a X.env),(false,eval b X.env)]:=by rfl)(hs2:starEach [b] X.env=[(false,eval b X.env)]:=by rfl):
 PI X tg (.Call (.Name "range" p) [a,b] [] pos) (ol ta):=by
 intro pins s σ H R I h
 refine Call_ (e8 I hg hm boot_range (PyProof.Rows.callWith_type1 (ao (ha pos pins s σ H _ I h) fun us s1 ⟨vs,H1,I1,r1,q1⟩=>?_) (by rw[hs,hs2]) (by rw[hs2];rfl)))
 obtain⟨i,j,e,⟨q1,q2,q3,q4⟩,q⟩:=q1
 subst e
 cases r1 with
 | cons r rr=>
   cases rr with
   | cons r' rr=>
     cases rr
     obtain⟨t,rfl⟩:=r
     obtain⟨t',rfl⟩:=r'
     exact call_range_2 (i8 I1 q1 q2 q3 q4 q)
def jH(wi:TI)(g:TG)(tb:TS):TS:=fun D σ H=>wi σ H fun J H1=>∃W:Nat→Nat→St→Hp→Prop,(∃m,W 0 m σ H1)∧∀i m σ H,W i m σ H→
 (J.stop i H∧D.nx σ H)∨(J.go i H∧∃N:St→Hp→Prop,(∀σ' H',N σ' H'→∃m',m'<m∧W (i+1) m' σ' H')∧∀x H',J.yld i H x H'→g x σ H' fun σ2 H2=>tb {D with nx:=N,ct:=N,bk:=D.nx} σ2 H2)
def eW(fp:List Addr)(h:Heap):List (Addr×Obj):=fp.filterMap fun b=>(h.get? b).map fun o=>(b,o)
theorem fz{fp:List Addr}{h:Heap}{b:Addr}{o:Obj}(hb:b∈fp)(e:h.get? b=some o):(b,o)∈eW fp h:=List.mem_filterMap.mpr ⟨b,hb,by rw[e];rfl⟩
theorem nS{fp:List Addr}{h:Heap}{p:Addr×Obj}(hp:p∈eW fp h):p.1∈fp∧h.get? p.1=some p.2:=by
 obtain⟨b,hb,e⟩:=List.mem_filterMap.mp hp
 cases q:h.get? b with
 | none=>rw[q] at e;cases e
 | some o=>
   rw[q] at e
   have e':(b,o)=p:=Option.some.inj e
   subst e'
   exact⟨hb,q⟩
theorem Inv.pinned{pins:List (Addr×Obj)}{σ:St}{H:Hp}{s:Shared}{fp:List Addr}(I:Inv X pins σ H s)(hf:∀b∈fp,ci X pins H b)(ho:∀b∈fp,∃o,s.heap.get? b=some o∧∀v,o.data≠ .cell v):Inv X (pins++eW fp s.heap) σ H s:=
 I.pins_of fun p hp=>(List.mem_append.mp hp).elim (fun z=>I.pin p (List.mem_append_right _ z)) fun z=>by
  obtain⟨hb,e⟩:=nS z
  obtain⟨f0,f1,f2,_⟩:=hf p.1 hb
  obtain⟨o,e',d⟩:=ho p.1 hb
  rw[e] at e';cases e'
  exact⟨e,f0,f1,f2,d⟩
theorem Inv.unpinned{pins pl:List (Addr×Obj)}{σ:St}{H:Hp}{s:Shared}(I:Inv X (pins++pl) σ H s):Inv X pins σ H s:=I.pins_of fun p hp=>I.pin p (List.mem_append_right _ (List.mem_append_left _ hp))
theorem bM{iter:Expr}{body:List Stmt}{wi:TI}{g:TG}{tb:TS}{pos:Pos}(hp:PassesOwn (model X.prog X.w) X.A X.env X.xe)(hc:X.calm=true)(hi:PI X tg iter wi)(hg:PG X tg g)(hb:PSs X body tb)(hs:∀x,foldedSetIterable iter X.env x=pure x:=by intro _;rfl):PS X (.For tg iter body [] pos) (jH wi g tb):=by
 intro pins s σ H D I h
 refine wpAny_For (ao (hi pins s σ H _ I h) fun v s1 h1=>ao h1 fun itv s2 h2=>?_) hs
 obtain⟨it,fp,tn,J,H2,e,I2,T,st2,f2,W,⟨m0,w0⟩,turn⟩:=h2
 subst e
 have stat:∀{H':Hp},(∀b∈fp,H' b=none)→∀b∈fp,ci X pins H' b:=fun hn b hb=>⟨hn b hb,(f2 b hb).2⟩
 refine codeAny_forLoop_any (fun n s'=>∃i σ' H',Inv X pins σ' H' s'∧tn i s'.heap∧(∀b∈fp,H' b=none)∧W i n σ' H') ?_ m0 ⟨0,σ,H2,I2,st2,fun b hb=>(f2 b hb).1,w0⟩
 rintro n s3 ⟨i,σ3,H3,I3,st3,fr3,w3⟩
 rcases turn i n σ3 H3 w3 with⟨stop,qn⟩ | ⟨go,N,hN,step⟩
 ·refine wpAny_passesOwn hp (ao (T.done X rfl rfl rfl hc i pins s3 σ3 H3 X.xe I3 (stat fr3) st3 stop) fun r s4 ⟨hr,I4⟩=>?_)
  subst hr
  exact wpAny_execs_nil ⟨σ3,H3,I4,qn⟩
 ·refine wpAny_passesOwn hp (ao (T.item X rfl rfl rfl hc i pins s3 σ3 H3 X.xe I3 (stat fr3) st3 go) fun r s4 ⟨u,hr,h4⟩=>?_)
  subst hr
  refine wpAny_passesOwn hp (ao h4 fun _ s5 ⟨x,H5,I5,r5,y5,st5,fr5⟩=>?_)
  have I5':=I5.pinned (stat fr5) (T.obj _ _ st5)
  refine wpAny_passesOwn hp (ao (hg _ s5 σ3 H5 x u _ I5' r5 (step x H5 y5)) fun _ s6 ⟨σ6,H6,I6,q6⟩=>?_)
  refine wpAny_passesOwn hp (ao (hb _ s6 σ6 H6 _ I6 q6) fun f s7 q7=>?_)
  have again:∀{σ7:St} {H7:Hp},Inv X (pins++eW fp s5.heap) σ7 H7 s7→N σ7 H7→∃m,m<n∧∃i σ' H',Inv X pins σ' H' s7∧tn i s7.heap∧(∀b∈fp,H' b=none)∧W i m σ' H':=fun{σ7 H7} I7 n7=>by
   obtain⟨m',hm,w7⟩:=hN σ7 H7 n7
   refine⟨m',hm,i+1,σ7,H7,I7.unpinned,T.keep _ _ _ st5 fun b hb o e=>(I7.pin (b,o) (List.mem_append_right _ (List.mem_append_right _ (fz hb e)))).1,fun b hb=>?_,w7⟩
   obtain⟨o,e,d⟩:=T.obj _ _ st5 b hb
   exact(I7.pin (b,o) (List.mem_append_right _ (List.mem_append_right _ (fz hb e)))).2.1
  cases f with
  | next=>obtain⟨σ7,H7,I7,n7⟩:=q7;exact again I7 n7
  | cont=>obtain⟨σ7,H7,I7,n7⟩:=q7;exact again I7 n7
  | brk=>obtain⟨σ7,H7,I7,q7⟩:=q7;exact⟨σ7,H7,I7.unpinned,q7⟩
  | ret v=>obtain⟨x7,σ7,H7,I7,r7,q7⟩:=q7;exact⟨x7,σ7,H7,I7.unpinned,r7,q7⟩
end
theorem gc{K:PySem.W.Frag}{a:Addr}{xs:List V}{g:TG}{tb:TS}{D:Ends}{σ:St}{H:Hp}(Pv:Nat→St→Hp→Prop)(h0:Pv 0 σ H)(hl:∀i σ H,i≤xs.length→Pv i σ H→SqL K H a xs)(hs:∀i x σ H,xs[i]?=some x→Pv i σ H→g x σ H fun σ2 H2=>tb {D with nx:=Pv (i+1),ct:=Pv (i+1),bk:=D.nx} σ2 H2)(hd:∀σ H,Pv xs.length σ H→D.nx σ H):
 ∃ W:Nat→Nat→St→Hp→Prop,(∃m,W 0 m σ H)∧∀i m σ H,W i m σ H→
   ((cn K a).stop i H∧D.nx σ H)∨((cn K a).go i H∧∃N:St→Hp→Prop,(∀σ' H',N σ' H'→∃m',m'<m∧W (i+1) m' σ' H')∧∀x H',(cn K a).yld i H x H'→g x σ H' fun σ2 H2=>tb {D with nx:=N,ct:=N,bk:=D.nx} σ2 H2):=by
 refine⟨fun i m σ H=>m=xs.length-i∧i≤xs.length∧Pv i σ H,⟨xs.length,by simp,Nat.zero_le _,h0⟩,?_⟩
 rintro i m σ H ⟨rfl,hi,p⟩
 have q:=hl i σ H hi p
 by_cases hlt:i<xs.length
 ·refine .inr ⟨⟨xs,xs[i],q,by simp[hlt]⟩,Pv (i+1),fun σ' H' p'=>⟨xs.length-(i+1),by lia,rfl,hlt,p'⟩,fun x H' y=>?_⟩
  obtain⟨e,y⟩:=y
  subst e
  exact hs i x σ _ (y xs q) p
 ·have e:i=xs.length:=by lia
  subst e
  exact .inl ⟨⟨xs,q,Nat.le_refl _⟩,hd σ H p⟩
theorem oD{K:PySem.W.Frag}{a:Addr}{xs:List V}{g:TG}{tb:TS}{D:Ends}{σ:St}{H:Hp}(Pv:Nat→St→Hp→Prop)(h0:Pv 0 σ H)(hl:∀i σ H,i≤xs.length→Pv i σ H→SqT K H a xs)(hs:∀i x σ H,xs[i]?=some x→Pv i σ H→g x σ H fun σ2 H2=>tb {D with nx:=Pv (i+1),ct:=Pv (i+1),bk:=D.nx} σ2 H2)(hd:∀σ H,Pv xs.length σ H→D.nx σ H):
 ∃ W:Nat→Nat→St→Hp→Prop,(∃m,W 0 m σ H)∧∀i m σ H,W i m σ H→
   ((dN K a).stop i H∧D.nx σ H)∨((dN K a).go i H∧∃N:St→Hp→Prop,(∀σ' H',N σ' H'→∃m',m'<m∧W (i+1) m' σ' H')∧∀x H',(dN K a).yld i H x H'→g x σ H' fun σ2 H2=>tb {D with nx:=N,ct:=N,bk:=D.nx} σ2 H2):=by
 refine⟨fun i m σ H=>m=xs.length-i∧i≤xs.length∧Pv i σ H,⟨xs.length,by simp,Nat.zero_le _,h0⟩,?_⟩
 rintro i m σ H ⟨rfl,hi,p⟩
 have q:=hl i σ H hi p
 by_cases hlt:i<xs.length
 ·refine .inr ⟨⟨xs,xs[i],q,by simp[hlt]⟩,Pv (i+1),fun σ' H' p'=>⟨xs.length-(i+1),by lia,rfl,hlt,p'⟩,fun x H' y=>?_⟩
  obtain⟨e,y⟩:=y
  subst e
  exact hs i x σ _ (y xs q) p
 ·have e:i=xs.length:=by lia
  subst e
  exact .inl ⟨⟨xs,q,Nat.le_refl _⟩,hd σ H p⟩
theorem iE{lo:Int}{n:Nat}{g:TG}{tb:TS}{D:Ends}{σ:St}{H:Hp}(Pv:Nat→St→Hp→Prop)(h0:Pv 0 σ H)(hs:∀i σ H,i<n→Pv i σ H→g (.int (lo+i)) σ H fun σ2 H2=>tb {D with nx:=Pv (i+1),ct:=Pv (i+1),bk:=D.nx} σ2 H2)(hd:∀σ H,Pv n σ H→D.nx σ H):
 ∃ W:Nat→Nat→St→Hp→Prop,(∃m,W 0 m σ H)∧∀i m σ H,W i m σ H→
   ((cu lo n).stop i H∧D.nx σ H)∨((cu lo n).go i H∧∃N:St→Hp→Prop,(∀σ' H',N σ' H'→∃m',m'<m∧W (i+1) m' σ' H')∧∀x H',(cu lo n).yld i H x H'→g x σ H' fun σ2 H2=>tb {D with nx:=N,ct:=N,bk:=D.nx} σ2 H2):=by
 refine⟨fun i m σ H=>m=n-i∧i≤n∧Pv i σ H,⟨n,by simp,Nat.zero_le _,h0⟩,?_⟩
 rintro i m σ H ⟨rfl,hi,p⟩
 by_cases hlt:i<n
 ·refine .inr ⟨hlt,Pv (i+1),fun σ' H' p'=>⟨n-(i+1),by lia,rfl,hlt,p'⟩,fun x H' y=>?_⟩
  obtain⟨e,y⟩:=y
  subst e y
  exact hs i σ _ hlt p
 ·have e:i=n:=by lia
  subst e
  exact .inl ⟨Nat.le_refl _,hd σ H p⟩
abbrev R2:=V→V→Hp→VK→Prop
def OpR(X:Cx)(f:Value→Value→Sem Value)(r:R2):Prop:=
 ∀ (pins:List (Addr×Obj)) (s:Shared) (σ:St) (H:Hp) (x y:V) (v u:Value) (Q:VK),Inv X pins σ H s→RelV x v→RelV y u→r x y H Q→
   wpAny (model X.prog X.w) X.A (f v u) (EP X pins σ Q) X.xe s
def gN(X:Cx)(f:Value→Sem Value)(r:V→Hp→VK→Prop):Prop:=
 ∀ (pins:List (Addr×Obj)) (s:Shared) (σ:St) (H:Hp) (x:V) (v:Value) (Q:VK),Inv X pins σ H s→RelV x v→r x H Q→
   wpAny (model X.prog X.w) X.A (f v) (EP X pins σ Q) X.xe s
def bU(X:Cx)(f:Value)(r:List V→Hp→VK→Prop):Prop:=
 ∀ (pins:List (Addr×Obj)) (s:Shared) (σ:St) (H:Hp) (xs:List V) (us:List Value) (Q:VK),Inv X pins σ H s→Vals xs us→r xs H Q→
   wpAny (model X.prog X.w) X.A (call f us) (EP X pins σ Q) X.xe s
def oI(X:Cx)(r:V→Hp→(Bool→Hp→Prop)→Prop):Prop:=
 ∀ (pins:List (Addr×Obj)) (s:Shared) (σ:St) (H:Hp) (x:V) (v:Value) (Q:Bool→Hp→Prop),Inv X pins σ H s→RelV x v→r x H Q→
   wpAny (model X.prog X.w) X.A (truthy v) (TP X pins σ Q) X.xe s
def dz(r:R2)(ta tb:TE):TE:=fun σ H Q=>ta σ H fun x H1=>tb σ H1 fun y H2=>r x y H2 Q
def sr(r:V→Hp→VK→Prop)(ta:TE):TE:=fun σ H Q=>ta σ H fun x H1=>r x H1 Q
def rI(C:Int→Int→Prop)(g:Int→Int→V):R2:=fun x y H Q=>∃i j,x=.int i∧y=.int j∧C i j∧Q (g i j) H
def cH(g:Int→Int→V):R2:=fun x y H Q=>∃i j,x=.int i∧y=.int j∧Q (g i j) H
def rU(g:Int→V):V→Hp→VK→Prop:=fun x H Q=>∃i,x=.int i∧Q (g i) H
section
variable{X:Cx}{a b c:Expr}{ta tb tc:TE}{pos:Pos}
theorem gp(ha:PE X a ta)(hb:PE X b tb){pins:List (Addr×Obj)}{s:Shared}{σ:St}{H:Hp}{R:V→V→Hp→Prop}(I:Inv X pins σ H s)(h:ta σ H fun x H1=>tb σ H1 fun y H2=>R x y H2){Q:Value→Shared→Prop}{f:Value→Value→Sem Value}
 (hf:∀v u s2 x y H2,Inv X pins σ H2 s2→RelV x v→RelV y u→R x y H2→wpAny (model X.prog X.w) X.A (f v u) Q X.xe s2):
 wpAny (model X.prog X.w) X.A (eval a X.env) (fun v s₁=>wpAny (model X.prog X.w) X.A (eval b X.env) (fun u s₂=>wpAny (model X.prog X.w) X.A (f v u) Q X.xe s₂) X.xe s₁) X.xe s:=by
 refine ao (ha pins s σ H _ I h) fun v s1 ⟨x,H1,I1,r1,q1⟩=>?_
 refine ao (hb pins s1 σ H1 _ I1 q1) fun u s2 ⟨y,H2,I2,r2,q2⟩=>?_
 exact hf v u s2 x y H2 I2 r1 r2 q2
theorem ak{op:Operator}{r:R2}(ho:OpR X (binaryOp op) r)(ha:PE X a ta)(hb:PE X b tb):PE X (.BinOp a op b pos) (dz r ta tb):=by
 intro pins s σ H Q I h
 exact wpAny_BinOp (gp ha hb I h fun v u s2 x y H2 I2 rx ry q=>ho pins s2 σ H2 x y v u Q I2 rx ry q)
theorem kN{op:UnaryOp}{r:V→Hp→VK→Prop}(ho:gN X (unaryOp op) r)(ha:PE X a ta):PE X (.UnaryOp op a pos) (sr r ta):=by
 intro pins s σ H Q I h
 exact UnaryOp_ (ao (ha pins s σ H _ I h) fun v s1 ⟨x,H1,I1,r1,q1⟩=>ho pins s1 σ H1 x v Q I1 r1 q1)
theorem gh{f:Value→Value→Sem Value}{C:Int→Int→Prop}{g:Int→Int→Int}(rule:∀(i j:Int) (t u:Tok) (s:Shared) (Q:Value→Shared→Prop) (E:Value→Shared→Prop),C i j→Q (.int (g i j) s.toks) {s with toks:=s.toks+1}→wpAny (model X.prog X.w) X.A (f (.int i t) (.int j u)) Q E s):OpR X f (rI C fun i j=>.int (g i j)):=by
 intro pins s σ H x y v u Q I rx ry h
 obtain⟨i,j,rfl,rfl,hc,q⟩:=h
 obtain⟨t,rfl⟩:=rx
 obtain⟨t',rfl⟩:=ry
 exact rule i j t t' s _ _ hc ⟨.int (g i j),H,I.tok _,⟨_,rfl⟩,q⟩
theorem jg{f:Value→Value→Sem Value}{g:Int→Int→Int}(rule:∀(i j:Int) (t u:Tok) (s:Shared) (Q:Value→Shared→Prop) (E:Value→Shared→Prop),Q (.int (g i j) s.toks) {s with toks:=s.toks+1}→wpAny (model X.prog X.w) X.A (f (.int i t) (.int j u)) Q E s):OpR X f (cH fun i j=>.int (g i j)):=by
 intro pins s σ H x y v u Q I rx ry h
 obtain⟨i,j,rfl,rfl,q⟩:=h
 obtain⟨t,rfl⟩:=rx
 obtain⟨t',rfl⟩:=ry
 exact rule i j t t' s _ _ ⟨.int (g i j),H,I.tok _,⟨_,rfl⟩,q⟩
theorem fj{f:Value→Value→Sem Value}{g:Int→Int→Bool}(rule:∀(i j:Int) (t u:Tok) (s:Shared) (Q:Value→Shared→Prop) (E:Value→Shared→Prop),Q (.bool (g i j)) s→wpAny (model X.prog X.w) X.A (f (.int i t) (.int j u)) Q E s):OpR X f (cH fun i j=>.bl (g i j)):=by
 intro pins s σ H x y v u Q I rx ry h
 obtain⟨i,j,rfl,rfl,q⟩:=h
 obtain⟨t,rfl⟩:=rx
 obtain⟨t',rfl⟩:=ry
 exact rule i j t t' s _ _ ⟨.bl (g i j),H,I,rfl,q⟩
def oE(i j:Int):Prop:=0≤j∧j≤1000000∧i.natAbs<2 ^ 64
def CMul(i j:Int):Prop:=(-(2 ^ 64)<i∧i<2 ^ 64)∨(-(2 ^ 64)<j∧j<2 ^ 64)
theorem CMul.ok{i j:Int}(h:CMul i j):IntMulOk i j:=by
 rcases h with⟨h1,h2⟩ | ⟨h1,h2⟩
 ·exact .of_left (intBits_le_64 h1 h2)
 ·exact .of_right (intBits_le_64 h1 h2)
theorem aV:OpR X (binaryOp .Add) (cH fun i j=>.int (i+j)):=jg fun _ _ _ _ _ _ _ q=>add_int q
theorem bp:OpR X (binaryOp .Sub) (cH fun i j=>.int (i-j)):=jg fun _ _ _ _ _ _ _ q=>sub_int q
theorem dZ:OpR X (binaryOp .Mult) (rI CMul fun i j=>.int (i*j)):=gh fun _ _ _ _ _ _ _ hc q=>mul_int q hc.ok
theorem cO:OpR X (binaryOp .Mod) (rI (fun _ j=>0<j) fun i j=>.int (i % j)):=gh fun i j _ _ _ _ _ hc q=>by
 have h1:(0:Int)<j:=hc
 exact mod_int' (by lia) (by rw[Int.fmod_eq_emod_of_nonneg i (by lia)];exact q)
theorem oW:OpR X (binaryOp .Pow) (rI oE fun i j=>.int (i ^ j.toNat)):=gh fun _ _ _ _ _ _ _ hc q=>pow_int_small hc.1 hc.2.1 hc.2.2 q
theorem sj{f:Value→Sem Value}{g:Int→Int}(rule:∀(i:Int) (t:Tok) (s:Shared) (Q:Value→Shared→Prop) (E:Value→Shared→Prop),Q (.int (g i) s.toks) {s with toks:=s.toks+1}→wpAny (model X.prog X.w) X.A (f (.int i t)) Q E s):gN X f (rU fun i=>.int (g i)):=by
 intro pins s σ H x v Q I rx h
 obtain⟨i,rfl,q⟩:=h
 obtain⟨t,rfl⟩:=rx
 exact rule i t s _ _ ⟨.int (g i),H,I.tok _,⟨_,rfl⟩,q⟩
theorem md:gN X (unaryOp .USub) (rU fun i=>.int (-i)):=sj fun _ _ _ _ _ q=>neg_int q
end
def km:V→V→Bool
 | .non,.non=>true | .non,.int _=>true | .int _,.non=>true | .non,.bl _=>true | .bl _,.non=>true | .non,.str _=>true | .str _,.non=>true
 | .int _,.int _=>true | .bl _,.bl _=>true | .str _,.str _=>true | .byt _,.byt _=>true
 | .int _,.str _=>true | .str _,.int _=>true | .bl _,.str _=>true | .str _,.bl _=>true
 | _,_=>false
def sD:R2:=fun x y H Q=>km x y=true∧Q (.bl (decide (x=y))) H
def nT:R2:=fun x y H Q=>km x y=true∧Q (.bl (!decide (x=y))) H
theorem lC{i j:Int}:decide (V.int i=V.int j)=(i == j):=by
 rw[Bool.eq_iff_iff]
 simp
theorem ml{i j:Bool}:decide (V.bl i=V.bl j)=(i == j):=by
 rw[Bool.eq_iff_iff]
 simp
theorem i6{i j:Str}:decide (V.str i=V.str j)=(i == j):=by
 rw[Bool.eq_iff_iff]
 simp
theorem jf{i j:Array UInt8}:decide (V.byt i=V.byt j)=(i.toList == j.toList):=by
 rw[Bool.eq_iff_iff]
 cases i
 cases j
 simp
section
variable{X:Cx}{a b c:Expr}{ta tb tc:TE}{pos:Pos}
theorem aR{pins:List (Addr×Obj)}{σ:St}{H:Hp}{s:Shared}{Q:VK}{k k':Bool}(I:Inv X pins σ H s)(q:Q (.bl k) H)(e:k=k'):EP X pins σ Q (.bool k') s:=by
 subst e
 exact⟨.bl k,H,I,rfl,q⟩
theorem bd:OpR X (compareOp .Eq) sD:=by
 intro pins s σ H x y v u Q I rx ry h
 obtain⟨hs,q⟩:=h
 cases x with
 | non=>
   cases rx
   cases y with
   | non=>cases ry;exact PySem.EqNone.eq_none_none (aR I q (by simp))
   | bl j=>cases ry;exact PySem.EqNone.eq_none_bool (aR I q (by simp))
   | int j=>obtain⟨t',rfl⟩:=ry;exact PySem.EqNone.eq_none_int (aR I q (by simp))
   | str j=>obtain⟨t',rfl⟩:=ry;exact PySem.EqNone.eq_none_str (aR I q (by simp))
   | _=>exact absurd (show false=true from hs) Bool.false_ne_true
 | bl i=>
   cases rx
   cases y with
   | non=>cases ry;exact PySem.EqNone.eq_bool_none (aR I q (by simp))
   | bl j=>cases ry;exact eq_bool (aR I q ml)
   | str j=>obtain⟨t',rfl⟩:=ry;exact PySem.EqMixed.eq_bool_str (aR I q (by simp))
   | _=>exact absurd (show false=true from hs) Bool.false_ne_true
 | int i=>
   obtain⟨t,rfl⟩:=rx
   cases y with
   | non=>cases ry;exact PySem.EqNone.eq_int_none (aR I q (by simp))
   | int j=>obtain⟨t',rfl⟩:=ry;exact eq_int (aR I q lC)
   | str j=>obtain⟨t',rfl⟩:=ry;exact PySem.EqMixed.eq_int_str (aR I q (by simp))
   | _=>exact absurd (show false=true from hs) Bool.false_ne_true
 | str i=>
   obtain⟨t,rfl⟩:=rx
   cases y with
   | non=>cases ry;exact PySem.EqNone.eq_str_none (aR I q (by simp))
   | bl j=>cases ry;exact PySem.EqMixed.eq_str_bool (aR I q (by simp))
   | int j=>obtain⟨t',rfl⟩:=ry;exact PySem.EqMixed.eq_str_int (aR I q (by simp))
   | str j=>obtain⟨t',rfl⟩:=ry;exact eq_str (aR I q i6)
   | _=>exact absurd (show false=true from hs) Bool.false_ne_true
 | byt i=>
   obtain⟨t,rfl⟩:=rx
   cases y with
   | byt j=>obtain⟨t',rfl⟩:=ry;exact PySem.W.eq_bytes (aR I q jf)
   | _=>exact absurd (show false=true from hs) Bool.false_ne_true
 | _=>cases y <;> exact absurd (show false=true from hs) Bool.false_ne_true
theorem eR:OpR X (compareOp .NotEq) nT:=by
 intro pins s σ H x y v u Q I rx ry h
 obtain⟨hs,q⟩:=h
 cases x with
 | non=>
   cases rx
   cases y with
   | non=>cases ry;exact PySem.EqNone.ne_none_none (aR I q (by simp))
   | bl j=>cases ry;exact PySem.EqNone.ne_none_bool (aR I q (by simp))
   | int j=>obtain⟨t',rfl⟩:=ry;exact PySem.EqNone.ne_none_int (aR I q (by simp))
   | str j=>obtain⟨t',rfl⟩:=ry;exact PySem.EqNone.ne_none_str (aR I q (by simp))
   | _=>exact absurd (show false=true from hs) Bool.false_ne_true
 | bl i=>
   cases rx
   cases y with
   | non=>cases ry;exact PySem.EqNone.ne_bool_none (aR I q (by simp))
   | bl j=>cases ry;exact ne_bool (aR I q (congrArg not ml))
   | str j=>obtain⟨t',rfl⟩:=ry;exact PySem.EqMixed.ne_bool_str (aR I q (by simp))
   | _=>exact absurd (show false=true from hs) Bool.false_ne_true
 | int i=>
   obtain⟨t,rfl⟩:=rx
   cases y with
   | non=>cases ry;exact PySem.EqNone.ne_int_none (aR I q (by simp))
   | int j=>obtain⟨t',rfl⟩:=ry;exact ne_int (aR I q (congrArg not lC))
   | str j=>obtain⟨t',rfl⟩:=ry;exact PySem.EqMixed.ne_int_str (aR I q (by simp))
   | _=>exact absurd (show false=true from hs) Bool.false_ne_true
 | str i=>
   obtain⟨t,rfl⟩:=rx
   cases y with
   | non=>cases ry;exact PySem.EqNone.ne_str_none (aR I q (by simp))
   | bl j=>cases ry;exact PySem.EqMixed.ne_str_bool (aR I q (by simp))
   | int j=>obtain⟨t',rfl⟩:=ry;exact PySem.EqMixed.ne_str_int (aR I q (by simp))
   | str j=>obtain⟨t',rfl⟩:=ry;exact ne_str (aR I q (congrArg not i6))
   | _=>exact absurd (show false=true from hs) Bool.false_ne_true
 | byt i=>
   obtain⟨t,rfl⟩:=rx
   cases y with
   | byt j=>obtain⟨t',rfl⟩:=ry;exact PySem.W.ne_bytes (aR I q (congrArg not jf))
   | _=>exact absurd (show false=true from hs) Bool.false_ne_true
 | _=>cases y <;> exact absurd (show false=true from hs) Bool.false_ne_true
theorem e6:OpR X (compareOp .Lt) (cH fun i j=>.bl (decide (i<j))):=fj fun _ _ _ _ _ _ _ q=>lt_int q
theorem j9:OpR X (compareOp .LtE) (cH fun i j=>.bl (decide (i≤j))):=fj fun _ _ _ _ _ _ _ q=>le_int q
theorem dy:OpR X (compareOp .Gt) (cH fun i j=>.bl (decide (j<i))):=fj fun _ _ _ _ _ _ _ q=>gt_int q
theorem gG:OpR X (compareOp .GtE) (cH fun i j=>.bl (decide (j≤i))):=fj fun _ _ _ _ _ _ _ q=>ge_int q
theorem mz:OpR X (compareOp .In) (fun x y H Q=>∃i j,x=.str i∧y=.str j∧Q (.bl (!(Builtin.Str.occurrences j i 0 j.length 1).isEmpty)) H):=by
 intro pins s σ H x y v u Q I rx ry h
 obtain⟨i,j,rfl,rfl,q⟩:=h
 obtain⟨t,rfl⟩:=rx
 obtain⟨t',rfl⟩:=ry
 exact in_str (aR I q rfl)
theorem oF:OpR X (compareOp .Is) (fun x y H Q=>y=.non∧Q (.bl (decide (x=.non))) H):=by
 intro pins s σ H x y v u Q I rx ry h
 obtain⟨rfl,q⟩:=h
 cases ry
 refine is_none_gen (aR I q ?_)
 cases x <;> first
  | (cases rx;rfl)
  | (obtain⟨t,rfl⟩:=rx;rfl)
theorem aC(b:Expr){op:CmpOp}(h:op≠ .In:=by decide)(h2:op≠ .NotIn:=by decide):behindInMarks op b=false:=by
 have e1:(op == CmpOp.In)=false:=by cases op <;> first | rfl | exact absurd rfl h
 have e2:(op == CmpOp.NotIn)=false:=by cases op <;> first | rfl | exact absurd rfl h2
 cases b <;> simp[behindInMarks,e1,e2]
theorem cZ{op:CmpOp}{r:R2}(ho:OpR X (compareOp op) r)(ha:PE X a ta)(hb:PE X b tb)(hm:behindInMarks op b=false):PE X (.Compare a [op] [b] pos) (dz r ta tb):=by
 intro pins s σ H Q I h
 exact wpAny_Compare1 (gp ha hb I h fun v u s2 x y H2 I2 rx ry q=>ho pins s2 σ H2 x y v u Q I2 rx ry q) hm
def lF(t:TE):TT:=fun σ H Q=>t σ H fun x H'=>∃k,x=.bl k∧Q k H'
theorem aE{op:CmpOp}{r:R2}(ho:OpR X (compareOp op) r)(ha:PE X a ta)(hb:PE X b tb)(hm:behindInMarks op b=false):PT X (.Compare a [op] [b] pos) (lF (dz r ta tb)):=by
 intro pins s σ H Q I h
 refine wpAny_isTrue_Compare1 (ao (ha pins s σ H _ I h) fun v s1 ⟨x,H1,I1,r1,q1⟩=>ao (hb pins s1 σ H1 _ I1 q1) fun u s2 ⟨y,H2,I2,r2,q2⟩=>
  ao (ho pins s2 σ H2 x y v u _ I2 r1 r2 q2) fun c s3 ⟨z,H3,I3,r3,k,e,q3⟩=>?_) hm
 subst e
 cases r3
 exact wpAny_truthy_bool ⟨H3,I3,q3⟩
def oP(r r':R2)(ta tb tc:TE):TE:=fun σ H Q=>ta σ H fun x H1=>tb σ H1 fun y H2=>r x y H2 fun z H3=>∃k,z=.bl k∧
 (if k=true then tc σ H3 fun w' H4=>r' y w' H4 Q else Q (.bl false) H3)
theorem lO{op op':CmpOp}{r r':R2}(ho:OpR X (compareOp op) r)(ho':OpR X (compareOp op') r')(ha:PE X a ta)(hb:PE X b tb)(hc:PE X c tc)(hm:lastMarks [op,op'] [b,c]=false:=by with_unfolding_all rfl):PE X (.Compare a [op,op'] [b,c] pos) (oP r r' ta tb tc):=by
 intro pins s σ H Q I h
 refine Compare_chain (ao (ha pins s σ H _ I h) fun v s1 ⟨x,H1,I1,r1,q1⟩=>chain_link (ao (hb pins s1 σ H1 _ I1 q1) fun u s2 ⟨y,H2,I2,r2,q2⟩=>
  ao (ho pins s2 σ H2 x y v u _ I2 r1 r2 q2) fun d s3 ⟨z,H3,I3,r3,k,e,q3⟩=>?_)) hm
 subst e
 cases r3
 refine wpAny_truthy_bool ?_
 cases k with
 | false=>exact ite_ff ⟨.bl false,H3,I3,rfl,q3⟩
 | true=>exact ite_tt (chain_last (ao (hc pins s3 σ H3 _ I3 q3) fun w' s4 ⟨z',H4,I4,r4,q4⟩=>ho' pins s4 σ H4 y z' u w' Q I4 r2 r4 q4))
def mm(K:PySem.W.Frag)(x:V)(H:Hp)(k:Bool):Prop:=
 match x with
 | .non=>k=false
 | .bl b=>k=b
 | .int i=>k=(i != 0)
 | .str y=>y.length≤sizeLine∧k=((y.length:Int) != 0)
 | .byt y=>y.size≤sizeLine∧k=((y.size:Int) != 0)
 | .ref p=>(∃xs,SqL K H p xs∧k= !xs.isEmpty)∨(∃xs,SqT K H p xs∧k= !xs.isEmpty)∨∃kvs,H p=some (.dK kvs)∧k= !kvs.isEmpty
 | _=>False
theorem sw{κ:Type}{kvs:List (κ×V)}{vs:List (κ×Value)}(r:KV kvs vs):(!vs.isEmpty)= !kvs.isEmpty:=by
 cases r <;> rfl
theorem jM{xs:List V}{its:List Value}(r:Vals xs its):(!its.toArray.isEmpty)= !xs.isEmpty:=by
 cases r <;> simp
theorem dR:(sizeLine:Nat)<2 ^ 63:=by rw[sizeLine_eq];decide
theorem ou:oI X (fun x H Q=>∃k,mm X.K x H k∧Q k H):=by
 intro pins s σ H x v Q I rx h
 obtain⟨k,e,q⟩:=h
 have hl:=dR
 have hs:sizeLine=16777216:=sizeLine_eq
 cases x with
 | non=>
   cases rx
   have e':k=false:=e
   subst e'
   exact truthy_none ⟨H,I,q⟩
 | bl b=>
   cases rx
   have e':k=b:=e
   subst e'
   exact wpAny_truthy_bool ⟨H,I,q⟩
 | int i=>
   obtain⟨t,rfl⟩:=rx
   have e':k=(i != 0):=e
   subst e'
   exact PySem.P.truthy_int ⟨H,I,q⟩
 | str y=>
   obtain⟨t,rfl⟩:=rx
   obtain⟨hy,e'⟩:y.length≤sizeLine∧k=((y.length:Int) != 0):=e
   subst e'
   exact PySem.P.truthy_str (by lia) ⟨H,I.tok _,q⟩
 | byt y=>
   obtain⟨t,rfl⟩:=rx
   obtain⟨hy,e'⟩:y.size≤sizeLine∧k=((y.size:Int) != 0):=e
   subst e'
   exact PySem.W.truthy_bytes (by lia) ⟨H,I.tok _,q⟩
 | ref p=>
   cases rx
   have e':(∃xs,SqL X.K H p xs∧k= !xs.isEmpty)∨(∃xs,SqT X.K H p xs∧k= !xs.isEmpty)∨∃kvs,H p=some (.dK kvs)∧k= !kvs.isEmpty:=e
   rcases e' with⟨xs,hx,e'⟩ | ⟨xs,hx,e'⟩ | ⟨kvs,hx,e'⟩
   ·subst e'
    obtain⟨its,r,pl,hz⟩:=I.list hx
    have hlen:=r.length
    exact wpAny_truthy_list pl.isList (by simp only[List.size_toArray];lia) ⟨H,I.tok _,by rw[jM r];exact q⟩
   ·subst e'
    obtain⟨its,r,pl,hz⟩:=I.tuple hx
    have hlen:=r.length
    exact truthy_tuple pl (by simp only[List.size_toArray];lia) ⟨H,I.tok _,by rw[jM r];exact q⟩
   ·subst e'
    obtain⟨hz,hS,vs,r,m⟩:kvs.length≤sizeLine∧(p == sysModules)=false∧∃vs,KV kvs vs∧s.heap.DictOf (bG X.prog X.w) p vs:=I.hok p _ hx
    have hlen:kvs.length=vs.length:=Paired.length r
    exact wpAny_truthy_dict hS m (by lia) ⟨H,I.tok _,by rw[sw r];exact q⟩
 | _=>exact(show False from e).elim
theorem lW:OpR X (binaryOp .Add) (fun x y H Q=>∃i j,x=.str i∧y=.str j∧i.length+j.length≤sizeLine∧Q (.str (i++j)) H):=by
 intro pins s σ H x y v u Q I rx ry h
 obtain⟨i,j,rfl,rfl,hz,q⟩:=h
 obtain⟨t,rfl⟩:=rx
 obtain⟨t',rfl⟩:=ry
 exact add_str (fun t' tk=>⟨.str (i++j),H,I.tok _,⟨_,rfl⟩,q⟩) hz
theorem d8{x:V}{us:List Value}(r:Vals [x] us):∃u,us=[u]∧RelV x u:=by
 cases r with
 | cons r1 r2=>cases r2;exact⟨_,rfl,r1⟩
theorem iK{x y:V}{us:List Value}(r:Vals [x,y] us):∃u w',us=[u,w']∧RelV x u∧RelV y w':=by
 cases r with
 | cons r1 r2=>
   cases r2 with
   | cons r3 r4=>cases r4;exact⟨_,_,rfl,r1,r3⟩
theorem qv(hc:X.calm=true):bU X (.builtin "max") (fun xs H Q=>∃i j,xs=[.int i,.int j]∧Q (.int (if j>i then j else i)) H):=by
 intro pins s σ H xs us Q I r h
 obtain⟨i,j,rfl,q⟩:=h
 obtain⟨u,w',rfl,⟨t,rfl⟩,⟨t',rfl⟩⟩:=iK r
 refine max_two_ints (I.ok.hd hc) fun h' tk k=>⟨_,H,I.kept k,?_,q⟩
 by_cases hj:j>i
 ·rw[if_pos hj,if_pos hj];exact⟨_,rfl⟩
 ·rw[if_neg hj,if_neg hj];exact⟨_,rfl⟩
theorem nQ(hc:X.calm=true):bU X (.builtin "min") (fun xs H Q=>∃i j,xs=[.int i,.int j]∧Q (.int (if j<i then j else i)) H):=by
 intro pins s σ H xs us Q I r h
 obtain⟨i,j,rfl,q⟩:=h
 obtain⟨u,w',rfl,⟨t,rfl⟩,⟨t',rfl⟩⟩:=iK r
 refine min_two_ints (I.ok.hd hc) fun h' tk k=>⟨_,H,I.kept k,?_,q⟩
 by_cases hj:j<i
 ·rw[if_pos hj,if_pos hj];exact⟨_,rfl⟩
 ·rw[if_neg hj,if_neg hj];exact⟨_,rfl⟩
theorem rk:bU X (.type "int") (fun xs H Q=>(∃i,xs=[.int i]∧Q (.int i) H)∨∃k,xs=[.bl k]∧Q (.int (if k then 1 else 0)) H):=by
 intro pins s σ H xs us Q I r h
 rcases h with⟨i,rfl,q⟩ | ⟨k,rfl,q⟩
 ·obtain⟨u,rfl,t,rfl⟩:=d8 r
  exact call_int_int ⟨.int i,H,I,⟨_,rfl⟩,q⟩
 ·obtain⟨u,rfl,r1⟩:=d8 r
  cases r1
  exact call_int_bool ⟨.int (if k then 1 else 0),H,I.tok _,⟨_,rfl⟩,q⟩
end
structure ObjM(h:Heap)(x dx C:Addr)(mA:Str→Option Value):Prop where
 obj:h.get? x=some (PySem.W.instObj C dx)
 ns:h.Ns1 dx mA
 ne:dx≠x
theorem nW{h:Heap}{dx:Addr}{mA:Str→Option Value}(n:h.Ns1 dx mA):∃od,h.get? dx=some od∧∀name,PySem.W.lookIn name od=some (mA name):=by
 obtain⟨o,es,ep,ho,hd,hk,_,hm⟩:=n
 refine⟨o,ho,fun name=>?_⟩
 have e:=hm name
 unfold nsFind findBy at e
 rw[←Array.find?_toList] at e
 unfold PySem.W.lookIn
 rw[hd]
 dsimp only
 split
 ·rename_i y q
  rw[q] at e
  exact congrArg some e
 ·rename_i q
  rw[q] at e
  have a:es.toList.any (·.refKey)=false:=by
   rw[List.any_eq_false]
   intro y hy
   obtain⟨z,t,hkey⟩:=hk y (Array.mem_toList_iff.mp hy)
   simp[DictEntry.refKey,hkey]
  have a':¬es.toList.any (·.refKey)=true:=by rw[a];exact Bool.false_ne_true
  rw[if_neg a']
  exact congrArg some e
theorem ObjM.look{h:Heap}{x dx C:Addr}{mA:Str→Option Value}(I:ObjM h x dx C mA):∃od,PySem.W.InstAt h x (PySem.W.instObj C dx) C (some od)∧∀name,PySem.W.lookIn name od=some (mA name):=
 let ⟨od,ho,hl⟩:=nW I.ns
 ⟨od,⟨I.obj,rfl,rfl,ho⟩,hl⟩
section
variable{prog:Program}{w:World}{A:Around}{E:Value→Shared→Prop}{s:Shared}{K:PySem.W.Frag}{x dx C f:Addr}{mA:Str→Option Value}{name:Str}{v:Value}
end
section
variable{P:Program}{w:World}{H H':Hp}{h h':Heap}{a C dx:Addr}{fs fs':List (Str×V)}
theorem m4(hok:HOk P w H h)(e:H a=some (.ins C dx fs)):∃mA,ObjM h a dx C mA∧(∀f,fZ (fs.lookup f) (mA f))∧PySem.Within mA (fs.map (·.1))∧fs.length≤1000∧H dx=some (.own a):=by
 obtain⟨d,z,ne,ob,mA,n,r,q⟩:=(show ObjOk P w H h a (.ins C dx fs) from hok a _ e)
 exact⟨mA,⟨ob,n,ne⟩,r,q,z,d⟩
end
structure Cls(K:PySem.W.Frag)(C:Addr):Prop where
 pg:PySem.W.plainGet K C Str.empty=true
 hd:PySem.W.hasDictIn K C=true
 po:PySem.W.plainOver K C=true
 sa:PySem.W.findIn K (.ref C) "__setattr__"=some (some (.builtin "object.__setattr__"))
theorem Cls.get{K:PySem.W.Frag}{C:Addr}(c:Cls K C)(f:Str):PySem.W.plainGet K C f=true:=c.pg
structure Con(K:PySem.W.Frag)(C:Addr)(f:Str)(v:V)(u:Value):Prop where
 at_:PySem.W.findIn K (.ref C) f=some (some u)
 rel:RelV v u
 get:PySem.W.specialIn K u "__get__"=some none
 cp:PySem.W.copiedNames.contains f=false
structure Meth(K:PySem.W.Frag)(C:Addr)(m:Str)(f:Addr):Prop where
 at_:PySem.W.findIn K (.ref C) m=some (some (.ref f))
 fn:PySem.W.isFn K (.ref f)=true
 kp:PySem.W.keepIn K (.ref f)=true
section
variable{X:Cx}{pins:List (Addr×Obj)}{σ:St}{H:Hp}{s:Shared}{a C dx:Addr}{fs:List (Str×V)}{f:Str}{v:V}{A:Around}{E:Value→Shared→Prop}
end
section
variable{X:Cx}{o e value:Expr}{f:Str}{pos pos' tpos:Pos}{ta tv:TE}
end
section
variable{X:Cx}{pins:List (Addr×Obj)}{σ:St}{H:Hp}{s:Shared}{A:Around}{E:Value→Shared→Prop}{Q:Value→Shared→Prop}{c:Value}{b:Bool}
inductive TyOf (K:PySem.W.Frag) (H:Hp):V→Value→Prop where
 | non:TyOf K H .non (.type "NoneType")
 | bl (x:Bool):TyOf K H (.bl x) (.type "bool")
 | int (i:Int):TyOf K H (.int i) (.type "int")
 | str (x:Str):TyOf K H (.str x) (.type "str")
 | flt (x:UInt64):TyOf K H (.flt x) (.type "float")
 | lst {a:Addr} {xs:List V} (e:H a=some (.lst xs)):TyOf K H (.ref a) (.type "list")
 | frz {a:Addr} {o:Obj} {xs:List V} (e:H a=some (.frz o (.lst xs))):TyOf K H (.ref a) (.type "list")
 | tup {a:Addr} {xs:List V} (e:H a=some (.tup xs)):TyOf K H (.ref a) (.type "tuple")
 | dK {a:Addr} {kvs:List (ay×V)} (e:H a=some (.dK kvs)):TyOf K H (.ref a) (.type "dict")
 | dT {a:Addr} {kvs:List (List ay×V)} (e:H a=some (.dT kvs)):TyOf K H (.ref a) (.type "dict")
 | ins {a C dx:Addr} {fs:List (Str×V)} (e:H a=some (.ins C dx fs)) (cl:Cls K C) (ha:PySem.W.findIn K (.ref C) "__class__"=some (some (.builtin "object.__class__")))
  (hn:PySem.W.specialIn K (.builtin "object.__class__") "__get__"=some (some (.builtin "getset_descriptor.__get__"))) (htk:PySem.W.takesIn K (.builtin "object.__class__")=some true)
  (hm:PySem.W.mroIn K C (.type "object")=some true):TyOf K H (.ref a) (.ref C)
theorem nl{x:V}{u t:Value}(I:Inv X pins σ H s)(rx:RelV x u)(ty:TyOf X.K H x t)(e:PySem.W.kitOne X.K t c=some b)(h:∀tk,Q (.bool b) {s with toks:=tk}):wpAny (model X.prog X.w) A (call (.builtin "isinstance") [u,c]) Q E s:=by
 cases ty with
 | non=>cases(show u=Value.none from rx);exact PySem.W.kia_one PySem.W.kitx_none I.kIn True.intro e (fun z=>nomatch z) h
 | bl y=>cases(show u=Value.bool y from rx);exact PySem.W.kia_one PySem.W.kitx_bool I.kIn True.intro e (fun z=>nomatch z) h
 | int i=>obtain⟨t,q⟩:=(show∃t,u=Value.int i t from rx);cases q;exact PySem.W.kia_one PySem.W.kitx_int I.kIn True.intro e (fun z=>nomatch z) h
 | str y=>obtain⟨t,q⟩:=(show∃t,u=Value.str y t from rx);cases q;exact PySem.W.kia_one PySem.W.kitx_str I.kIn True.intro e (fun z=>nomatch z) h
 | flt y=>obtain⟨t,q⟩:=(show∃t,u=Value.float y t from rx);cases q;exact PySem.W.kia_one PySem.W.kitx_float I.kIn True.intro e (fun z=>nomatch z) h
 | @lst a xs ea=>
   cases(show u=Value.ref a from rx)
   obtain⟨_,_,n,_,h1⟩:=(show ObjOk X.prog X.w H s.heap a (.lst xs) from I.hok a _ ea)
   exact PySem.W.kia_one PySem.W.kitx_list I.kIn ⟨_,h1,rfl⟩ e (fun z=>nomatch z) h
 | @frz a ob xs ea=>
   cases(show u=Value.ref a from rx)
   obtain⟨_,_,_,n,_,h1⟩:=(show ObjOk X.prog X.w H s.heap a (.frz ob (.lst xs)) from I.hok a _ ea)
   exact PySem.W.kia_one PySem.W.kitx_list I.kIn ⟨_,h1,rfl⟩ e (fun z=>nomatch z) h
 | @tup a xs ea=>
   cases(show u=Value.ref a from rx)
   obtain⟨_,_,_,p⟩:=(show ObjOk X.prog X.w H s.heap a (.tup xs) from I.hok a _ ea)
   obtain⟨o,h1,h2,_⟩:=p
   exact PySem.W.kia_one PySem.W.kitx_tuple I.kIn ⟨o,h1,h2⟩ e (fun z=>nomatch z) h
 | @dK a kvs ea=>
   cases(show u=Value.ref a from rx)
   obtain⟨_,_,vs,_,p⟩:=(show ObjOk X.prog X.w H s.heap a (.dK kvs) from I.hok a _ ea)
   obtain⟨o,es,ep,h1,h2,_⟩:=p
   exact PySem.W.kia_one PySem.W.kitx_dict I.kIn ⟨o,h1,h2.1⟩ e (fun z=>nomatch z) h
 | @dT a kvs ea=>
   cases(show u=Value.ref a from rx)
   obtain⟨_,_,xs,_,o,es,ep,h1,h2,_⟩:=(show ObjOk X.prog X.w H s.heap a (.dT kvs) from I.hok a _ ea)
   exact PySem.W.kia_one PySem.W.kitx_dict I.kIn ⟨o,h1,h2.1⟩ e (fun z=>nomatch z) h
 | @ins a C dx fs ea cl ha hn htk hm=>
   cases(show u=Value.ref a from rx)
   obtain⟨mA,O,_⟩:=m4 I.hok ea
   obtain⟨od,J,_⟩:=O.look
   exact PySem.W.kia_one (PySem.W.kitx_own (cl.get _) cl.hd ha hn htk hm) I.kIn J e (fun z=>nomatch z) h
end
structure Room(k:Nat)(A:Around):Prop where
 hd:A.handled=none
 dp:A.depth+3*k+5<recursionLimit
 un:A.units+16*k+200<cLine
theorem Room.mono{j k:Nat}{A:Around}(r:Room k A)(h:j≤k):Room j A:=⟨r.hd,by have:=r.dp;lia,by have:=r.un;lia⟩
theorem Room.deeper{k:Nat}{A:Around}(r:Room (k+1) A)(env:Env):Room k (A.deeper env):=
 ⟨r.hd,by have:=r.dp;show A.depth+1+3*k+5<_;lia,by have:=r.un;show A.units+3+16*k+200<_;lia⟩
theorem Room.depth{k:Nat}{A:Around}(r:Room k A):A.depth<recursionLimit:=by have:=r.dp;lia
theorem Room.units{k:Nat}{A:Around}(r:Room k A):A.units+64<cLine:=by have:=r.un;lia
def dI:TA:=fun _ H Q=>Q [] H
def cX(ta:TE)(tr:TA):TA:=fun σ H Q=>ta σ H fun x H1=>tr σ H1 fun xs H2=>Q (x::xs) H2
section
variable{X:Cx}{e:Expr}{es:List Expr}{te:TE}{t:TA}{pos:Pos}
theorem ac:PA X [] dI:=fun _ _ _ _ H Q I h=>Calls.spliced_nil ⟨[],H,I,.nil,h⟩
theorem aa(ha:PE X e te)(hr:PA X es t)(hs:starEach (e::es) X.env=(false,eval e X.env)::starEach es X.env:=by rfl):PA X (e::es) (cX te t):=by
 intro pos pins s σ H Q I h
 rw[hs]
 show wpAny _ _ (spliced ((false,eval e X.env)::backTo pos (starEach es X.env))) _ _ s
 refine Calls.spliced_cons (ao (ha pins s σ H _ I h) fun u s1 ⟨x,H1,I1,r1,q1⟩=>?_)
 exact ao (hr pos pins s1 σ H1 _ I1 q1) fun us s2 ⟨xs,H2,I2,r2,q2⟩=>⟨x::xs,H2,I2,.cons r1 r2,q2⟩
def rO(t:TA):TE:=fun σ H Q=>t σ H fun xs H1=>xs.length≤sizeLine∧∀p,H1 p=none→Q (.ref p) (upd H1 p (.tup xs))
def gU(t:TA):TE:=fun σ H Q=>t σ H fun xs H1=>xs.length≤sizeLine∧∀p,H1 p=none→Q (.ref p) (upd H1 p (.lst xs))
theorem cV{x1}(h:PA X es t):PE X (.Tuple es x1 pos) (rO t):=by
 intro pins s σ H Q I hq
 refine wpAny_Tuple_spliced (ao (h pos pins s σ H _ I hq) fun us s1 ⟨xs,H1,I1,r,z,q⟩=>⟨by rw[←r.length];exact z,?_⟩)
 have hf:H1 s1.heap.objs.size=none:=I1.hok.fresh (Nat.le_refl _)
 refine⟨.ref s1.heap.objs.size,upd H1 s1.heap.objs.size (.tup xs),I1.laid (t':=s1.toks) (fun b u e=>Heap.get?_push_of_some _ e) (Nat.le_refl _) ?_,rfl,q _ hf⟩
 exact⟨z,us,r,⟨_,Heap.get?_push_size _ rfl,rfl,_,rfl⟩⟩
theorem aY(h:PA X es t):PE X (.List es pos) (gU t):=by
 intro pins s σ H Q I hq
 refine wpAny_List_spliced (ao (h pos pins s σ H _ I hq) fun us s1 ⟨xs,H1,I1,r,z,q⟩=>⟨by rw[←r.length];exact z,?_⟩)
 have hf:H1 s1.heap.objs.size=none:=I1.hok.fresh (Nat.le_refl _)
 refine⟨.ref s1.heap.objs.size,upd H1 s1.heap.objs.size (.lst xs),I1.laid (t':=s1.toks) (fun b u e=>Heap.get?_push_of_some _ e) (Nat.le_refl _) ?_,rfl,q _ hf⟩
 exact⟨z,us,0,r,Heap.get?_push_size _ rfl⟩
end
abbrev Sp:=List V→Hp→VK→XK→Prop
abbrev bi:=List Env→Hp→Shared→XK→Value→Shared→Prop
structure Env0(P:Program)(w:World)(K:PySem.W.Frag)(mg:Str→Option Value)(base:Heap)(A:Around)(outer:List Env)(s:Shared)(H:Hp):Prop where
 frames:A.frames=some outer
 mod:Mod K mg base
 bs:∀b o,base.get? b=some o→s.heap.get? b=some o∧H b=none
 bsz:base.objs.size≤s.heap.objs.size
 funs:s.heap.FunFrames base outer
 frf:∀b∈aH outer,H b=none
 hok:HOk P w H s.heap
 bare:AllBare s.gens
def CE(outer:List Env)(P:Program)(w:World)(H:Hp)(s:Shared)(Q:VK)(u:Value)(s':Shared):Prop:=
 ∃v H',s'.os=s.os∧AllBare s'.gens∧Un (aH outer) [] H H' s.heap s'.heap∧HOk P w H' s'.heap∧RelV v u∧Q v H'
def CR(CX:bi)(outer:List Env)(P:Program)(w:World)(H:Hp)(s:Shared)(Q:VK)(E:XK)(r:Result)(s':Shared):Prop:=
 match r with
 | .ok (.ret u)=>CE outer P w H s Q u s'
 | .ok _=>False
 | .error e=>CX outer H s E e s'
structure FnOk(P:Program)(w:World)(K:PySem.W.Frag)(mg:Str→Option Value)(base:Heap)(CX:bi)(k:Nat)(f:Addr)(fd:FuncData)(ps:List Str)(sp:Sp):Prop where
 len:∀vs H Q E,sp vs H Q E→vs.length=ps.length
 run:∀(A:Around) (outer:List Env) (s:Shared) (H:Hp) (args:Args) (us:List Value) (vs:List V) (Q:VK) (E:XK),Room k A→Env0 P w K mg base A outer s H→BindsTo s fd args (ps.zip us)→Vals vs us→sp vs H Q E→
  codeAny (model P w) A (.call (.ref f) args) (CR CX outer P w H s Q E) s
section
variable{X:Cx}{pins:List (Addr×Obj)}{σ:St}{H:Hp}{s s':Shared}
theorem Inv.env0(I:Inv X pins σ H s):Env0 X.prog X.w X.K X.mg X.base X.A X.stack s H:=
 ⟨I.ok.frames,I.ok.mod,I.bs,Nat.le_trans I.ok.bsz I.sz,I.stack,I.stkFree,I.hok,I.bare⟩
theorem Inv.after{Q:VK}{u:Value}(I:Inv X pins σ H s)(h:CE X.stack X.prog X.w H s Q u s'):EP X pins σ Q u s':=by
 obtain⟨v,H',os,bare,un,hok,r,q⟩:=h
 obtain⟨hh,g,d,t,os'⟩:=s'
 obtain rfl:os'=s.os:=os
 exact⟨v,H',I.call (h':=hh) (g':=g) (d':=d) (t':=t) (ch:=[]) un hok bare (fun b z=>absurd z (by simp)),r,q⟩
end
def d9(sp:Sp)(dvs:List V)(E:XK)(t:TA):TE:=fun σ H Q=>t σ H fun vs H1=>sp (vs++dvs) H1 Q E
def Binds(K:PySem.W.Frag)(fd:FuncData)(ps:List Str)(ds:List Value):Prop:=
 ∀(s:Shared) (us:List Value),K.In s.heap→(us++ds).length=ps.length→BindsTo s fd ⟨us,[]⟩ (ps.zip (us++ds))
theorem Binds.all{K:PySem.W.Frag}{fd:FuncData}{ps:List Str}(h:∀us:List Value,us.length=ps.length→bindArgs fd ⟨us,[]⟩=pure (ps.zip us)):Binds K fd ps []:=fun s us _ hl=>by
 rw[List.append_nil] at hl ⊢
 exact .of_eq (h us hl)
def eK(CX:bi)(X:Cx)(E:XK):Prop:=∀(pins:List (Addr×Obj)) (σ:St) (H:Hp) (s:Shared) (e:Value) (s':Shared),Inv X pins σ H s→CX X.stack H s E e s'→X.xe e s'
section
variable{X:Cx}{CX:bi}{k:Nat}{f C:Addr}{fd:FuncData}{ps:List Str}{sp:Sp}{dvs:List V}{ds:List Value}{E:XK}{x m:Str}{p pos apos:Pos}{e o:Expr}{es:List Expr}{ta:TE}{t:TA}
theorem qI{pins:List (Addr×Obj)}{σ:St}{H:Hp}{s:Shared}{Q:VK}{us:List Value}{vs:List V}(F:FnOk X.prog X.w X.K X.mg X.base CX k f fd ps sp)(hr:Room k X.A)(hb:Binds X.K fd ps ds)(hd:Vals dvs ds)(hx:eK CX X E)(I:Inv X pins σ H s)(r:Vals vs us)(h:sp (vs++dvs) H Q E):wpAny (model X.prog X.w) X.A (call (.ref f) us) (EP X pins σ Q) X.xe s:=by
 have r2:Vals (vs++dvs) (us++ds):=r.append hd
 have hl:(us++ds).length=ps.length:=by rw[←r2.length];exact F.len _ _ _ _ h
 refine wpAny_call (codeAny_mono (F.run X.A X.stack s H ⟨us,[]⟩ (us++ds) (vs++dvs) Q E hr I.env0 (hb s us I.kIn hl) r2 h) fun r s' hq=>?_)
 cases r with
 | error e=>exact hx pins σ H s e s' I hq
 | ok fl=>
   cases fl with
   | ret u=>exact I.after hq
   | next=>exact False.elim hq
   | brk=>exact False.elim hq
   | cont=>exact False.elim hq
theorem qQ(F:FnOk X.prog X.w X.K X.mg X.base CX k f fd ps sp)(hr:Room k X.A)(hg:Gl X x)(hm:X.mg x=some (.ref f))(hk:PySem.W.keepIn X.K (.ref f)=true)(hb:Binds X.K fd ps ds)(hd:Vals dvs ds)(hx:eK CX X E)(ha:PA X (e::es) t)(hdb:(x == ("__debug__":Str))=false:=by decide)(he:starEach (e::es) X.env=(false,eval e X.env)::starEach es X.env:=by rfl)(hpl:(backTo pos (starEach es X.env)).any (·.1)=false:=by rfl):
 PE X (.Call (.Name x p) (e::es) [] pos) (d9 sp dvs E t):=by
 intro pins s σ H Q I h
 refine wpAny_Call_Name_kw (eZ I hg hm ?_ hdb)
 refine PySem.W.callWith_K (h₀:=X.base) I.ok.mod.kin hk (ao (ha pos pins s σ H _ I h) fun us s1 ⟨vs,H1,I1,r,q⟩=>⟨I1.kIn,?_⟩) he hpl
 exact qI F hr hb hd hx I1 r q
structure Mk(K:PySem.W.Frag)(C f:Addr):Prop where
 makes:PySem.W.makesIn K C=true
 init:PySem.W.findIn K (.ref C) "__init__"=some (some (.ref f))
 fn:PySem.W.isFn K (.ref f)=true
 kp:PySem.W.keepIn K (.ref C)=true
end
section
variable{X:Cx}{CX:bi}{k:Nat}{f C:Addr}{fd:FuncData}{ps ks:List Str}{sp:Sp}{E:XK}{x m:Str}{p pos apos kpos:Pos}{e o:Expr}{es:List Expr}{kws:List Keyword}{te ta:TE}{t tk:TA}{nm:Option Str}
structure KBinds(K:PySem.W.Frag)(fd:FuncData)(ps ks:List Str)(g:List Value→List Value→List Value)(gV:List V→List V→List V):Prop where
 to:∀(s:Shared) (us ws:List Value),K.In s.heap→(g us ws).length=ps.length→BindsTo s fd ⟨us,ks.zip ws⟩ (ps.zip (g us ws))
 rel:∀{vs:List V} {us:List Value} {zs:List V} {ws:List Value},Vals vs us→Vals zs ws→Vals (gV vs zs) (g us ws)
variable{g:List Value→List Value→List Value}{gV:List V→List V→List V}
end
structure FnScope(N P:List Str)(sc:Scope):Prop where
 kind:sc.kind=.function
 co:sc.isCoroutine=false
 gen:sc.isGenerator=false
 nd:N.Nodup
 pre:N.take P.length=P
 par:∀x∈P,sc.names.lookup x=some .local∨sc.names.lookup x=some .cell
 nofree:∀y∈sc.names,y.2≠ .free
theorem kJ{kindOf:Str→Option NameKind}{x:Str}:∀{binds:List (Str×Value)} {m:Str→Option Value},(∀v,(x,v)∉binds)→bindL kindOf binds m x=m x
 | [],_,_=>rfl
 | (n,v)::r,m,h=>by
   unfold bindL
   rw[kJ fun w hw=>h w (List.mem_cons_of_mem _ hw)]
   split
   ·have:x≠n:=by rintro rfl;exact h v List.mem_cons_self
    simp[this]
   ·rfl
theorem kD{kindOf:Str→Option NameKind}{x:Str}:∀{binds:List (Str×Value)} {m:Str→Option Value},(∀v,(x,v)∉binds)→bindC kindOf binds m x=m x
 | [],_,_=>rfl
 | (n,v)::r,m,h=>by
   unfold bindC
   rw[kD fun w hw=>h w (List.mem_cons_of_mem _ hw)]
   split
   ·rfl
   ·have:x≠n:=by rintro rfl;exact h v List.mem_cons_self
    simp[this]
theorem jt{kindOf:Str→Option NameKind}{x:Str}{v:Value}:∀{P:List Str} {vs:List Value} {i:Nat} {m:Str→Option Value},P.Nodup→P[i]?=some x→vs[i]?=some v→kindOf x=some .local→bindL kindOf (P.zip vs) m x=some v
 | [],_,_,_,_,h,_,_=>by simp at h
 | _::_,[],_,_,_,_,h,_=>by simp at h
 | p::P,w::vs,0,m,nd,h1,h2,hk=>by
   simp at h1 h2;subst h1;subst h2
   show bindL kindOf ((p,w)::P.zip vs) m p=_
   unfold bindL
   rw[kJ fun v hv=>(List.nodup_cons.mp nd).1 (List.of_mem_zip hv).1,if_pos hk]
   simp
 | p::P,w::vs,i+1,m,nd,h1,h2,hk=>by
   show bindL kindOf ((p,w)::P.zip vs) m x=_
   unfold bindL
   exact jt (i:=i) (List.nodup_cons.mp nd).2 (by simpa using h1) (by simpa using h2) hk
theorem iZ{kindOf:Str→Option NameKind}{x:Str}{v:Value}:∀{P:List Str} {vs:List Value} {i:Nat} {m:Str→Option Value},P.Nodup→P[i]?=some x→vs[i]?=some v→kindOf x≠some .local→bindC kindOf (P.zip vs) m x=some v
 | [],_,_,_,_,h,_,_=>by simp at h
 | _::_,[],_,_,_,_,h,_=>by simp at h
 | p::P,w::vs,0,m,nd,h1,h2,hk=>by
   simp at h1 h2;subst h1;subst h2
   show bindC kindOf ((p,w)::P.zip vs) m p=_
   unfold bindC
   rw[kD fun v hv=>(List.nodup_cons.mp nd).1 (List.of_mem_zip hv).1,if_neg hk]
   simp
 | p::P,w::vs,i+1,m,nd,h1,h2,hk=>by
   show bindC kindOf ((p,w)::P.zip vs) m x=_
   unfold bindC
   exact iZ (i:=i) (List.nodup_cons.mp nd).2 (by simpa using h1) (by simpa using h2) hk
def cw(N:List Str)(vs:List V):St:=vs.map some++List.replicate (N.length-vs.length) none
def bZ(CX:bi)(P:Program)(w:World)(K:PySem.W.Frag)(mg:Str→Option Value)(base:Heap)(N:List Str)(qual:Str)(scope:Scope)(f:Addr)(cd:Value)(A:Around)(outer:List Env)(s:Shared)(H:Hp)(E:XK):Cx where
 prog:=P
 w:=w
 K:=K
 mg:=mg
 base:=base
 A:=A.deeper (envOfC qual scope s.heap.objs.size f cd)
 N:=N
 s₀:=s
 H₀:=H
 env:=envOfC qual scope s.heap.objs.size f cd
 outer:=outer
 stack:=envOfC qual scope s.heap.objs.size f cd::outer
 ex:=[]
 calm:=true
 fn:=fun _=>true
 pn:=[]
 xe:=fun e s'=>wpAny (model P w) (A.deeper (envOfC qual scope s.heap.objs.size f cd)) (leaving (envOfC qual scope s.heap.objs.size f cd) e) (fun _ s''=>CX outer H s E e s'') (fun e' s''=>CX outer H s E e' s'') s'
theorem kH{sc:Scope}{n:Nat}{x:Str}(h:sc.names.lookup x=some .cell):∃c,(cellsFrom n sc.names []).lookup x=some c:=by
 have q:=PySem.W.cellsFrom_some sc.names n [] (.inl h)
 exact Option.isSome_iff_exists.mp q
theorem oy{CX:bi}{P:Program}{w:World}{K:PySem.W.Frag}{mg:Str→Option Value}{base:Heap}{N ps:List Str}{qual:Str}{scope:Scope}{f:Addr}{cd:Value}{A:Around}{outer:List Env}{s s1:Shared}{H:Hp}{E:XK}{us:List Value}{vs:List V}(S:FnScope N ps scope)(hd:A.handled=none)(e0:Env0 P w K mg base A outer s H)(hl:vs.length=ps.length)(r:Vals vs us)(x:InCallC s s.heap.objs.size (bindL (envOfC qual scope s.heap.objs.size f cd).kindOf (ps.zip us) fun _=>none) (cellsFrom (s.heap.objs.size+1) scope.names []) (bindC (envOfC qual scope s.heap.objs.size f cd).kindOf (ps.zip us) fun _=>none) s1):
 Inv (bZ CX P w K mg base N qual scope f cd A outer s H E) [] (cw N vs) H s1:=by
 have hpl:ps.length≤N.length:=by have:=congrArg List.length S.pre;rw[List.length_take] at this;lia
 obtain⟨h1,tk,rfl,hk⟩:=x.done
 have noA:∀b:Addr,b∉(bZ CX P w K mg base N qual scope f cd A outer s H E).ex:=fun b z=>absurd (show b∈([]:List Addr) from z) (by simp)
 refine⟨⟨e0.mod,S.kind,rfl,rfl,Nat.le_refl _,fun y z c h1 h2=>?_,fun y hy=>?_,fun y c _ h=>?_,fun _=>hd,Around.frames_deeper e0.frames,.inr ⟨rfl,rfl⟩,fun b z=>absurd z (noA b),e0.bs,e0.bsz,fun b _ _=>noA b,fun b z=>absurd z (noA b),e0.funs,e0.frf⟩,
  rfl,e0.bare,Un.kept hk,⟨_,x.toInCall.ns,fun i y v h1 h2 h3=>?_⟩,fun y c h=>⟨_,x.cell y c h⟩,e0.hok.fresh (Nat.le_refl _),fun y c h=>?_,fun p hp=>absurd (show p∈([]:List (Addr×Obj)) from hp) (by simp),e0.hok.kept hk,?_⟩
 ·exact name_of_addr x.apart (PySem.mem_of_lookup h1) (PySem.mem_of_lookup h2)
 ·have hy:scope.names.lookup y=some .cell∨scope.names.lookup y=some .free:=hy
  rcases hy with hy | hy
  ·exact kH hy
  ·exact absurd rfl (S.nofree _ (PySem.mem_of_lookup hy))
 ·exact Nat.le_of_lt (x.above y c (PySem.mem_of_lookup h))
 ·have hi:i<vs.length:=by
   unfold cw at h2
   by_cases hi:i<vs.length
   ·exact hi
   ·rw[List.getElem?_append_right (by simpa using hi)] at h2
    rw[List.getElem?_replicate] at h2
    split at h2 <;> cases h2
  have ha:vs[i]?=some v:=by
   unfold cw at h2
   rw[List.getElem?_append_left (by simpa using hi),List.getElem?_map] at h2
   cases e:vs[i]? with
   | none=>rw[e] at h2;cases h2
   | some a=>rw[e] at h2;cases h2;rfl
  obtain⟨u,hu,rv⟩:=r.get ha
  have hp:ps[i]?=some y:=by
   rw[←S.pre,List.getElem?_take_of_lt (by lia)];exact h1
  have ndP:ps.Nodup:=by rw[←S.pre];exact S.nd.sublist (List.take_sublist _ _)
  refine⟨u,rv,?_⟩
  rcases S.par y (List.mem_of_getElem? hp) with k | k
  ·exact .inl ⟨k,jt ndP hp hu k⟩
  ·obtain⟨c,e⟩:=kH (n:=s.heap.objs.size+1) k
   refine .inr ⟨.inl k,c,e,?_⟩
   have q:=x.cell y c e
   rw[iZ ndP hp hu (by show scope.names.lookup y≠_;rw[k];decide)] at q
   exact q
 ·exact e0.hok.fresh (Nat.le_of_lt (x.above y c (PySem.mem_of_lookup h)))
 ·unfold cw
  show _=N.length
  rw[List.length_append,List.length_map,List.length_replicate]
  lia
theorem i7{CX:bi}{P:Program}{w:World}{K:PySem.W.Frag}{mg:Str→Option Value}{base:Heap}{k:Nat}{f:Addr}{name qual:Str}{params:Arguments}{body:List Stmt}{scope:Scope}{dV kV doc pm cdv ct oc:Value}{an od:Option Addr}{osl:Array (Option Value)}{N ps:List Str}{sp:Sp}(lk:K.lookup f=some ⟨oc,od,.func (PySem.W.fnOf name qual params body scope dV kV doc pm an cdv ct),osl⟩)(hcd:PySem.W.codeIn K cdv qual=true)(S:FnScope N ps scope)(len:∀vs H Q E,sp vs H Q E→vs.length=ps.length)(hbody:∀(A:Around) (outer:List Env) (s:Shared) (H:Hp) (vs:List V) (Q:VK) (E:XK),Room k (A.deeper (envOfC qual scope s.heap.objs.size f cdv))→sp vs H Q E→∃t,PSs (bZ CX P w K mg base N qual scope f cdv A outer s H E) body t∧t {nx:=fun _ H'=>Q .non H',rt:=Q} (cw N vs) H):
 FnOk P w K mg base CX (k+1) f (PySem.W.fnOf name qual params body scope dV kV doc pm an cdv ct) ps sp:=by
 refine⟨len,fun A outer s H args us vs Q E hr e0 hb r hsp=>?_⟩
 have hl:=len _ _ _ _ hsp
 have KX:K.In s.heap:=e0.mod.kin.keeps fun b o e=>(e0.bs b o e).1
 have lim:s.heap.NoLimit:=e0.mod.nolimit.keeps fun b o e=>(e0.bs b o e).1
 have hkind:∀y∈ps.zip us,scope.names.lookup y.1=some .local∨(scope.names.lookup y.1=some .cell∧((cellsFrom (s.heap.objs.size+1) scope.names []).lookup y.1).isSome=true):=fun⟨n,v⟩ hy=>by
  rcases S.par n (List.of_mem_zip hy).1 with q | q
  ·exact .inl q
  ·exact .inr ⟨q,PySem.W.cellsFrom_some _ _ _ (.inl q)⟩
 refine codeAny_call_function hr.depth (KX _ _ lk) rfl S.co S.gen rfl (PySem.W.codeRec_of KX hcd) (hb _ _ _ _ ?_)
 refine wpAny_newFunctionEnv_cells S.kind hkind fun env he s1 x=>?_
 subst he
 refine⟨lim.keeps x.toInCall.keep,codeAny_func ?_⟩
 obtain⟨t,ht,hq⟩:=hbody A outer s H vs Q E (hr.deeper _) hsp
 have I:Inv (bZ CX P w K mg base N qual scope f cdv A outer s H E) [] (cw N vs) H s1:=oy S hr.hd e0 hl r x
 refine wpAny_mono (ht [] s1 (cw N vs) H _ I hq) (fun fl s' hs=>?_) fun e s' hs=>hs
 have fin:∀{σ':St} {H':Hp} {v:V} {u:Value},Inv (bZ CX P w K mg base N qual scope f cdv A outer s H E) [] σ' H' s'→RelV v u→Q v H'→CE outer P w H s Q u s':=
  fun{σ' H' v u} J rv q=>⟨v,H',J.os,J.bare,J.base,J.hok,rv,q⟩
 cases fl with
 | ret u=>
   obtain⟨v,σ',H',J,rv,q⟩:=hs
   exact fin J rv q
 | next=>
   obtain⟨σ',H',J,q⟩:=hs
   exact fin (v:=V.non) (u:=Value.none) J rfl q
 | brk=>
   obtain⟨_,_,_,q⟩:=hs
   exact False.elim q
 | cont=>
   obtain⟨_,_,_,q⟩:=hs
   exact False.elim q
section
variable{X:Cx}{x:Str}{p pos:Pos}{e:Expr}{es:List Expr}{t:TA}{id T:String}{r:List V→Hp→VK→Prop}
def jZ(r:List V→Hp→VK→Prop)(t:TA):TE:=fun σ H Q=>t σ H fun vs H1=>r vs H1 Q
theorem cz(hc:bU X (.builtin id) r)(hg:Gl X x)(hm:X.mg x=none)(hv:bootBuiltins x=some (.builtin id))(ha:PA X (e::es) t)(hn:x≠"__name__":=by decide)(hdb:(x == ("__debug__":Str))=false:=by decide)
 (he:starEach (e::es) X.env=(false,eval e X.env)::starEach es X.env:=by rfl)(hpl:(backTo pos (starEach es X.env)).any (·.1)=false:=by rfl):PE X (.Call (.Name x p) (e::es) [] pos) (jZ r t):=by
 intro pins s σ H Q I h
 refine wpAny_Call_Name_kw (e8 I hg hm hv ?_ hn hdb)
 exact PyProof.Rows.callWith_builtin1 (ao (ha pos pins s σ H _ I h) fun us s1 ⟨vs,H1,I1,r1,q1⟩=>hc pins s1 σ H1 vs us Q I1 r1 q1) he hpl
theorem fC(hc:bU X (.type T) r)(hg:Gl X x)(hm:X.mg x=none)(hv:bootBuiltins x=some (.type T))(ha:PA X (e::es) t)(hn:x≠"__name__":=by decide)(hdb:(x == ("__debug__":Str))=false:=by decide)
 (he:starEach (e::es) X.env=(false,eval e X.env)::starEach es X.env:=by rfl)(hpl:(backTo pos (starEach es X.env)).any (·.1)=false:=by rfl):PE X (.Call (.Name x p) (e::es) [] pos) (jZ r t):=by
 intro pins s σ H Q I h
 refine wpAny_Call_Name_kw (e8 I hg hm hv ?_ hn hdb)
 exact PyProof.Rows.callWith_type1 (ao (ha pos pins s σ H _ I h) fun us s1 ⟨vs,H1,I1,r1,q1⟩=>hc pins s1 σ H1 vs us Q I1 r1 q1) he hpl
end
end L2
namespace HT
open PySem PyProof.Rows
section
open PySem.SeqAt
open PySem.AutoSeq1 (wpAny_loadPart')
open PySem.MeetsSeq PySem.MeetsSeq2 PySem.MeetsSeq3
end
section
variable{prog:Program}{w:World}{A:Around}{E:Value→Shared→Prop}{s:Shared}
def sIx(n d:Nat):Option Int→Nat
 | none=>d
 | some v=>if v<0 then(v+(n:Int)).toNat else min v.toNat n
theorem sIx_none(n d:Nat):sIx n d none=d:=rfl
end
end HT
namespace L2
open PySem PySem.Spec PyProof.Rows
abbrev TO:=St→Hp→(Option Int→Hp→Prop)→Prop
def PO(X:Cx)(e:Option Expr)(t:TO):Prop:=
 ∀ (pins:List (Addr×Obj)) (s:Shared) (σ:St) (H:Hp) (Q:Option Int→Hp→Prop),Inv X pins σ H s→t σ H Q→
   wpAny (model X.prog X.w) X.A (evalPart e X.env) (fun u s'=>∃o H',Inv X pins σ H' s'∧IsPart u o∧Q o H') X.xe s
def eC:TO:=fun _ H Q=>Q none H
def et(t:TE):TO:=fun σ H Q=>t σ H fun x H1=>∃i,x=.int i∧Q (some i) H1
section
variable{X:Cx}{e:Expr}{te:TE}{lo hi:Option Expr}{tl th:TO}{pos p2:Pos}
theorem bb:PO X none eC:=by
 intro pins s σ H Q I h
 rw[evalPart_none]
 exact wpAny_pure ⟨none,H,I,.none,h⟩
theorem aP(h:PE X e te):PO X (some e) (et te):=by
 intro pins s σ H Q I hw
 rw[evalPart_some]
 refine ao (h pins s σ H _ I hw) fun u s1 ⟨x,H1,I1,r1,q1⟩=>?_
 obtain⟨i,rfl,q⟩:=q1
 obtain⟨t,rfl⟩:=r1
 exact⟨some i,H1,I1,.int i t,q⟩
def kg(X:Cx)(r:V→Option Int→Option Int→Hp→VK→Prop):Prop:=
 ∀ (pins:List (Addr×Obj)) (s:Shared) (σ:St) (H:Hp) (x:V) (v vl vu:Value) (lo hi:Option Int) (sl:Addr) (Q:VK),Inv X pins σ H s→RelV x v→s.heap.IsSliceOf sl vl vu .none→IsPart vl lo→IsPart vu hi→r x lo hi H Q→
   ∃T id,typeLookup (.type T) "__getitem__"=pure (some (.builtin id))∧s.TypeIs v T∧wpAny (model X.prog X.w) X.A (getItem v (.ref sl)) (EP X pins σ Q) X.xe s
def eY(r:V→Option Int→Option Int→Hp→VK→Prop)(te:TE)(tl th:TO):TE:=fun σ H Q=>te σ H fun x H1=>tl σ H1 fun l H2=>th σ H2 fun u H3=>r x l u H3 Q
theorem aS{r:V→Option Int→Option Int→Hp→VK→Prop}(hr:kg X r)(he:PE X e te)(hl:PO X lo tl)(hu:PO X hi th):PE X (.Subscript e (.Slice lo hi none p2) pos) (eY r te tl th):=by
 intro pins s σ H Q I h
 refine Subscript_ (ao (he pins s σ H _ I h) fun v s1 ⟨x,H1,I1,r1,q1⟩=>?_)
 refine wpAny_Slice (ao (hl pins s1 σ H1 _ I1 q1) fun vl s2 ⟨l,H2,I2,pl,q2⟩=>ao (hu pins s2 σ H2 _ I2 q2) fun vu s3 ⟨u,H3,I3,pu,q3⟩=>?_)
 rw[evalPart_none]
 refine wpAny_pure ?_
 have I4:Inv X pins σ H3 {s3 with heap:=s3.heap.push {cls:=.type "slice",data:=.fields #[vl,vu,.none]}}:=I3.kept (t':=s3.toks) fun b ob q=>Heap.get?_push_of_some _ q
 obtain⟨T,id,hT,ht,hg⟩:=hr pins {s3 with heap:=s3.heap.push {cls:=.type "slice",data:=.fields #[vl,vu,.none]}} σ H3 x v vl vu l u s3.heap.objs.size Q I4 r1 (Heap.IsSliceOf.new ..) pl pu q3
 show wpAny (model X.prog X.w) X.A (subscriptTail e (.Slice lo hi none p2) v (.ref s3.heap.objs.size)) (EP X pins σ Q) X.xe {s3 with heap:=s3.heap.push {cls:=.type "slice",data:=.fields #[vl,vu,.none]}}
 exact tail_any (ops:=[.ref s3.heap.objs.size,v]) ht hT hg (by with_unfolding_all rfl)
def cg(xs:List V)(lo hi:Option Int):List V:=(xs.drop (HT.sIx xs.length 0 lo)).take (HT.sIx xs.length xs.length hi-HT.sIx xs.length 0 lo)
theorem nH(xs:List V)(lo hi:Option Int):(cg xs lo hi).length≤xs.length:=by
 unfold cg
 rw[List.length_take,List.length_drop]
 lia
end
def dv(n:Nat)(i:Int):Option Nat:=if 0≤i then(if i<n then some i.toNat else none) else if -(n:Int)≤i then some (i+n).toNat else none
def bF{α:Type}(xs:List α)(i:Int):Option α:=(dv xs.length i).bind fun j=>xs[j]?
theorem j0{n:Nat}{i:Int}{j:Nat}(h:dv n i=some j):seqIndex? i n=some j∧j<n∧ -(n:Int)≤i∧i<n:=by
 unfold dv at h
 by_cases h0:0≤i
 ·rw[if_pos h0] at h
  by_cases h1:i<n
  ·rw[if_pos h1] at h
   have e:i.toNat=j:=Option.some.inj h
   exact⟨by rw[seqIndex_of h0 h1,e],by lia,by lia,h1⟩
  ·rw[if_neg h1] at h;cases h
 ·rw[if_neg h0] at h
  by_cases h1: -(n:Int)≤i
  ·rw[if_pos h1] at h
   have e:(i+n).toNat=j:=Option.some.inj h
   exact⟨by rw[seqIndex_neg (by lia) h1,e],by lia,h1,by lia⟩
  ·rw[if_neg h1] at h;cases h
theorem jN{α:Type}{xs:List α}{i:Int}{v:α}(h:bF xs i=some v):∃j,seqIndex? i xs.length=some j∧xs[j]?=some v∧j<xs.length∧ -(xs.length:Int)≤i∧i<xs.length:=by
 unfold bF at h
 cases e:dv xs.length i with
 | none=>rw[e] at h;cases h
 | some j=>
   rw[e] at h
   obtain⟨h1,h2,h3,h4⟩:=j0 e
   exact⟨j,h1,h,h2,h3,h4⟩
theorem bD{α:Type}{xs:List α}{j:Nat}{v:α}(h:xs[j]?=some v):bF xs (j:Int)=some v:=by
 have hj:j<xs.length:=(List.getElem?_eq_some_iff.mp h).1
 have e:dv xs.length (j:Int)=some j:=by
  unfold dv
  rw[if_pos (by lia),if_pos (by lia)];simp
 unfold bF;rw[e];exact h
def mE(b:Expr):Prop:=∀o i,subscripted b false o i=operate [o,i] (getItem o i)
def ii(X:Cx)(r:R2):Prop:=
 ∀ (value slice:Expr) (pins:List (Addr×Obj)) (s:Shared) (σ:St) (H:Hp) (x y:V) (v u:Value) (Q:VK),Inv X pins σ H s→RelV x v→RelV y u→r x y H Q→
   subscripted slice false v u=operate [v,u] (getItem v u)→wpAny (model X.prog X.w) X.A (subscriptTail value slice v u) (EP X pins σ Q) X.xe s
def fQ(X:Cx)(id:String)(r:V→List V→Hp→VK→Prop):Prop:=
 ∀ (pins:List (Addr×Obj)) (s:Shared) (σ:St) (H:Hp) (x:V) (xs:List V) (v:Value) (us:List Value) (Q:VK),Inv X pins σ H s→RelV x v→Vals xs us→r x xs H Q→
   wpAny (model X.prog X.w) X.A (call (.builtin id) (v::us)) (EP X pins σ Q) X.xe s
section
variable{X:Cx}{a b:Expr}{ta tb:TE}{pos:Pos}
theorem aZ{r:R2}(hr:ii X r)(ha:PE X a ta)(hb:PE X b tb)(hs:mE b):PE X (.Subscript a b pos) (dz r ta tb):=by
 intro pins s σ H Q I h
 exact Subscript_ (gp ha hb I h fun v u s2 x y H2 I2 rx ry q=>hr a b pins s2 σ H2 x y v u Q I2 rx ry q (hs _ _))
def mq(K:PySem.W.Frag):R2:=fun x y H Q=>∃p xs i v,x=.ref p∧y=.int i∧SqL K H p xs∧bF xs i=some v∧Q v H
def pT:R2:=fun x y H Q=>∃z i c,x=.str z∧y=.int i∧z.length≤sizeLine∧bF z.cps.toList i=some c∧Q (.str ⟨#[c]⟩) H
theorem bh:ii X (mq X.K):=by
 intro value slice pins s σ H x y v u Q I rx ry h hs
 obtain⟨p,xs,i,z,rfl,rfl,hq,he,q⟩:=h
 cases rx
 obtain⟨t,rfl⟩:=ry
 obtain⟨its,r,pl,hz⟩:=I.list hq
 obtain⟨j,h1,h2,h3,h4,h5⟩:=jN he
 obtain⟨w,ew,rw'⟩:=r.get h2
 have hl:=r.length
 have hn:=dR
 have fin:EP X pins σ Q w s:=⟨z,H,I,rw',q⟩
 by_cases h0:0≤i
 ·have hj:i.toNat=j:=by
   rw[seqIndex_of h0 h5] at h1
   exact Option.some.inj h1
  exact item_listR pl.isList h0 (by lia) (by rw[hj];simpa using ew) fin hs
 ·have hj:(i+(its.toArray.size:Int)).toNat=j:=by
   rw[seqIndex_neg (by lia) h4] at h1
   rw[List.size_toArray,←hl]
   exact Option.some.inj h1
  exact subscriptTail_builtinR (x:=w) pl.isList.typeIs slot_list_getitem.lookup
   (wpAny_getItem_list_neg (Q:=fun r s'=>r=w∧EP X pins σ Q r s') pl.isList (by lia) (by rw[List.size_toArray] <;> lia) (by lia) (by rw[hj];simpa using ew) ⟨rfl,fin⟩) hs
theorem e9:ii X pT:=by
 intro value slice pins s σ H x y v u Q I rx ry h hs
 obtain⟨z,i,c,rfl,rfl,hz,he,q⟩:=h
 obtain⟨t,rfl⟩:=rx
 obtain⟨t',rfl⟩:=ry
 obtain⟨j,h1,h2,h3,h4,h5⟩:=jN he
 have hl:z.cps.toList.length=z.length:=by simp[Str.length]
 rw[hl] at h1 h4 h5
 have hn:=dR
 exact tail_any (typeIs_str s z t) slot_str_getitem.lookup (getItem_str (c:=c) (by
  have e1:decide (i < -(2 ^ 63:Int))=false:=decide_eq_false (by lia)
  have e2:decide (i≥2 ^ 63)=false:=decide_eq_false (by lia)
  rw[e1,e2,Bool.or_false]) (by rw[h1];simpa using h2) ⟨.str ⟨#[c]⟩,H,I.tok _,⟨_,rfl⟩,q⟩) hs
theorem pb(its:List Value)(n j:Nat)(u:Value):Obj.mapSeq (·.setIfInBounds j u) {cls:=.type "list",data:=.seq its.toArray n}={cls:=.type "list",data:=.seq (its.set j u).toArray n}:=by
 simp[Obj.mapSeq]
theorem Inv.lst{pins:List (Addr×Obj)}{σ:St}{H:Hp}{s:Shared}{p:Addr}{xs:List V}(I:Inv X pins σ H s)(h:H p=some (.lst xs)):∃(its:List Value) (n:Nat),Vals xs its∧s.heap.get? p=some {cls:=.type "list",data:=.seq its.toArray n}∧xs.length≤sizeLine:=by
 obtain⟨z,its,n,r,e⟩:=I.hok p _ h
 exact⟨its,n,r,e,z⟩
theorem Inv.lstUpd{pins:List (Addr×Obj)}{σ:St}{H:Hp}{s:Shared}{p:Addr}{xs ys:List V}{its its':List Value}{n n':Nat}{f:Obj→Obj}(I:Inv X pins σ H s)(h:H p=some (.lst xs))(ho:s.heap.get? p=some {cls:=.type "list",data:=.seq its.toArray n})(hf:f {cls:=.type "list",data:=.seq its.toArray n}={cls:=.type "list",data:=.seq its'.toArray n'})(r:Vals ys its')(hz:ys.length≤sizeLine)(t:Nat):Inv X pins σ (upd H p (.lst ys)) {s with heap:=s.heap.update p f,toks:=t}:=by
 have e:(s.heap.update p f).get? p=some {cls:=.type "list",data:=.seq its'.toArray n'}:=by
  rw[Heap.get?_update_self f ho (by rw[hf] <;> rfl),hf]
 refine I.write (x:=p) (e:=p) (by rw[h];trivial) (.inl rfl) (fun b u hb q=>(Heap.get?_update_other _ _ (Ne.symm hb)).trans q) ⟨_,e⟩ ?_
 exact⟨hz,its',n',r,e⟩
def oJ:V→V→V→Hp→(Hp→Prop)→Prop:=fun o i v H Q=>∃p xs k j,o=.ref p∧i=.int k∧H p=some (.lst xs)∧dv xs.length k=some j∧Q (upd H p (.lst (xs.set j v)))
theorem kB:ky X oJ:=by
 intro pins s σ H o i v ov iv u Q I ro ri rv h
 obtain⟨p,xs,k,j,rfl,rfl,hp,hj,q⟩:=h
 cases ro
 obtain⟨t,rfl⟩:=ri
 obtain⟨its,n,r,ho,hz⟩:=I.lst hp
 obtain⟨h1,h2,h3,h4⟩:=j0 hj
 have hl:=r.length
 have hn:=dR
 have I':Inv X pins σ (upd H p (.lst (xs.set j v))) {s with heap:=s.heap.update p (Obj.mapSeq (·.setIfInBounds j u))}:=
  I.lstUpd hp ho (pb its n j u) (r.set rv j) (by rw[List.length_set];exact hz) s.toks
 by_cases h0:0≤k
 ·have hk:k.toNat=j:=by
   rw[seqIndex_of h0 h4] at h1
   exact Option.some.inj h1
  exact PySem.W.ki_setAt ho h0 (by lia) (by rw[List.size_toArray,←hl];exact h4) (by rw[hk];exact⟨_,I',q⟩)
 ·have hk:(k+(its.toArray.size:Int)).toNat=j:=by
   rw[seqIndex_neg (by lia) h3] at h1
   rw[List.size_toArray,←hl]
   exact Option.some.inj h1
  exact PySem.W.ki_setBack ho (by lia) (by rw[List.size_toArray,←hl];exact h3) (by lia) (by rw[hk];exact⟨_,I',q⟩)
theorem nZ(lo hi:Option Int)(n:Nat):(sliceBounds lo hi none n).1=((HT.sIx n 0 lo:Nat):Int)∧(sliceBounds lo hi none n).2.1=((HT.sIx n n hi:Nat):Int)∧(sliceBounds lo hi none n).2.2=1:=by
 refine⟨?_,?_,rfl⟩
 ·cases lo with
  | none=>simp[sliceBounds,HT.sIx]
  | some i=>
    simp only[sliceBounds,HT.sIx,Option.getD_none,show(1:Int)>0 by decide,if_true]
    by_cases h:i<0
    ·simp only[h,if_true] <;> lia
    ·simp only[h,if_false] <;> lia
 ·cases hi with
  | none=>simp[sliceBounds,HT.sIx]
  | some i=>
    simp only[sliceBounds,HT.sIx,Option.getD_none,show(1:Int)>0 by decide,if_true]
    by_cases h:i<0
    ·simp only[h,if_true] <;> lia
    ·simp only[h,if_false] <;> lia
theorem nv(its:List Value)(lo hi:Option Int):slicePick its.toArray lo hi none=((its.drop (HT.sIx its.length 0 lo)).take (HT.sIx its.length its.length hi-HT.sIx its.length 0 lo)).toArray:=by
 obtain⟨h1,h2,h3⟩:=nZ lo hi its.toArray.size
 unfold slicePick
 rw[h1,h2,h3]
 simp only[sliceRange_one,pick_run,List.size_toArray] <;> rfl
def eL(K:PySem.W.Frag):V→Option Int→Option Int→Hp→VK→Prop:=fun x lo hi H Q=>∃a xs,x=.ref a∧SqL K H a xs∧∀p,H p=none→Q (.ref p) (upd H p (.lst (cg xs lo hi)))
theorem aU:kg X (eL X.K):=by
 intro pins s σ H x v vl vu lo hi sl Q I rx hs pl pu h
 obtain⟨a,xs,rfl,hx,q⟩:=h
 cases rx
 obtain⟨its,r,ht,hz⟩:=I.list hx
 have hlen:=r.length
 refine⟨"list",_,slot_list_getitem.lookup,ht.isList.typeIs,?_⟩
 refine wpAny_getItem_list_slice ht.isList hs pl pu .none (by simp) ?_ (by rw[List.size_toArray] <;> lia)
 rw[nv,←hlen]
 refine⟨.ref s.heap.objs.size,_,I.laid (t':=s.toks) (o:=.lst (cg xs lo hi)) (fun b ob q=>Heap.get?_push_of_some _ q) (Nat.le_refl _) ?_,rfl,q _ (I.hok.fresh (Nat.le_refl _))⟩
 exact⟨Nat.le_trans (nH xs lo hi) hz,_,0,(r.drop (HT.sIx xs.length 0 lo)).take (HT.sIx xs.length xs.length hi-HT.sIx xs.length 0 lo),Heap.get?_push_size _ rfl⟩
theorem pA:bU X (.builtin "len") (fun xs H Q=>∃p ys,xs=[.ref p]∧(SqL X.K H p ys∨SqT X.K H p ys)∧Q (.int ys.length) H):=by
 intro pins s σ H xs us Q I r h
 obtain⟨p,ys,rfl,hq,q⟩:=h
 obtain⟨u,rfl,rx⟩:=d8 r
 cases rx
 have hn:=dR
 rcases hq with hq | hq
 ·obtain⟨its,r',pl,hz⟩:=I.list hq
  have hlen:=r'.length
  exact Calls.call_len_list pl.isList (by simp only[List.size_toArray] <;> lia) ⟨.int ys.length,H,I.tok _,⟨s.toks+1,by rw[List.size_toArray,hlen]⟩,q⟩
 ·obtain⟨its,r',pl,hz⟩:=I.tuple hq
  have hlen:=r'.length
  exact len_tuple pl (by simp only[List.size_toArray] <;> lia) ⟨.int ys.length,H,I.tok _,⟨s.toks+1,by rw[List.size_toArray,hlen]⟩,q⟩
theorem mP:bU X (.builtin "len") (fun xs H Q=>∃z,xs=[.str z]∧z.length≤sizeLine∧Q (.int z.length) H):=by
 intro pins s σ H xs us Q I r h
 obtain⟨z,rfl,hz,q⟩:=h
 obtain⟨u,rfl,t,rfl⟩:=d8 r
 have hn:=dR
 exact len_str (by lia) ⟨.int z.length,H,I.tok _,⟨_,rfl⟩,q⟩
theorem j8:bU X (.type "list") (fun xs H Q=>∃p ys,xs=[.ref p]∧(SqL X.K H p ys∨SqT X.K H p ys)∧∀l,H l=none→Q (.ref l) (upd H l (.lst ys))):=by
 intro pins s σ H xs us Q I r h
 obtain⟨p,ys,rfl,hq,q⟩:=h
 obtain⟨u,rfl,rx⟩:=d8 r
 cases rx
 have fin:∀(its:List Value),Vals ys its→ys.length≤sizeLine→∀(h':Heap) (c':Nat),(∀b o',s.heap.get? b=some o'→h'.get? b=some o')→
  h'.get? s.heap.objs.size=some {cls:=.type "list",dict:=none,data:=.seq its.toArray c',slots:=#[]}→EP X pins σ Q (.ref s.heap.objs.size) {s with heap:=h'}:=fun its r' hz h' c' kp e=>
  ⟨.ref s.heap.objs.size,_,I.laid (t':=s.toks) kp (Nat.le_refl _) (show ObjOk X.prog X.w _ h' _ (.lst ys) from⟨hz,its,c',r',e⟩),rfl,q _ (I.hok.fresh (Nat.le_refl _))⟩
 rcases hq with hq | hq
 ·obtain⟨its,r',pl,hz⟩:=I.list hq
  have hlen:=r'.length
  obtain⟨o,ho,hc,n,hd⟩:=pl.isList
  exact call_list_seq p (.inl rfl) ho hc hd (fun h' c' kp e=>fin its r' hz h' c' kp e) (by simp only[List.size_toArray] <;> lia)
 ·obtain⟨its,r',pl,hz⟩:=I.tuple hq
  have hlen:=r'.length
  obtain⟨o,ho,hc,n,hd⟩:=pl
  exact call_list_seq p (.inr rfl) ho hc hd (fun h' c' kp e=>fin its r' hz h' c' kp e) (by simp only[List.size_toArray] <;> lia)
theorem rS:bU X (.type "tuple") (fun xs H Q=>∃p ys,xs=[.ref p]∧((SqL X.K H p ys∧∀l,H l=none→Q (.ref l) (upd H l (.tup ys)))∨(SqT X.K H p ys∧Q (.ref p) H))):=by
 intro pins s σ H xs us Q I r h
 obtain⟨p,ys,rfl,h⟩:=h
 obtain⟨u,rfl,rx⟩:=d8 r
 cases rx
 rcases h with⟨hq,q⟩ | ⟨hq,q⟩
 ·obtain⟨its,r',pl,hz⟩:=I.list hq
  have hlen:=r'.length
  refine call_tuple_list pl.isList (fun h' kp=>?_) (by simp only[List.size_toArray] <;> lia)
  have I1:Inv X pins σ H {s with heap:=h'}:=I.kept (t':=s.toks) kp
  have I2:Inv X pins σ (upd H h'.objs.size (.tup ys)) {s with heap:=h'.push {cls:=.type "tuple",data:=.seq its.toArray}}:=
   I1.laid (t':=s.toks) (fun b o e=>Heap.get?_push_of_some _ e) (Nat.le_refl _) (show ObjOk X.prog X.w _ _ _ (.tup ys) from⟨hz,its,r',IsTup.new _ _⟩)
  exact⟨.ref h'.objs.size,_,I2,rfl,q _ (I1.hok.fresh (Nat.le_refl _))⟩
 ·obtain⟨its,r',pl,hz⟩:=I.tuple hq
  exact call_tuple_same pl ⟨.ref p,H,I,rfl,q⟩
def jJ(K:PySem.W.Frag)(T:String)(x:V)(H:Hp):Prop:=match x with
 | .str _=>T="str"
 | .int _=>T="int"
 | .ref p=>(T="list"∧∃xs,SqL K H p xs)∨(T="tuple"∧∃o,K.lookup p=some o∧o.cls=.type "tuple"∧o.dict=none)∨
  (T="dict"∧((∃kvs,H p=some (.dK kvs))∨∃kvs,H p=some (.dT kvs)))∨(T="set"∧∃S n,H p=some (.set S n))
 | _=>False
theorem lI{pins:List (Addr×Obj)}{σ:St}{H:Hp}{s:Shared}{T:String}{x:V}{v:Value}(I:Inv X pins σ H s)(r:RelV x v)(ty:jJ X.K T x H):s.TypeIs v T∧∀a,v=.ref a→∃ob,s.heap.get? a=some ob∧ob.dict=none:=by
 cases x with
 | str z=>
   obtain⟨t,rfl⟩:=r
   cases(show T="str" from ty)
   exact⟨typeIs_str s z t,fun _ e=>nomatch e⟩
 | int i=>
   obtain⟨t,rfl⟩:=r
   cases(show T="int" from ty)
   exact⟨typeIs_int s i t,fun _ e=>nomatch e⟩
 | ref p=>
   cases r
   rcases ty with⟨rfl,xs,hq⟩ | ⟨rfl,o,hk,hc,hd⟩ | ⟨rfl,hk⟩ | ⟨rfl,S,n,hk⟩
   ·obtain⟨its,_,pl,_⟩:=I.list hq
    refine⟨pl.isList.typeIs,fun a e=>?_⟩
    cases e
    obtain⟨o,n,e,c,hd,_⟩:=pl
    exact⟨o,e,hd⟩
   ·refine⟨⟨o,I.kIn p o hk,hc⟩,fun a e=>?_⟩
    cases e
    exact⟨o,I.kIn _ o hk,hd⟩
   ·have z:∃o,s.heap.get? p=some o∧o.ExactDict:=by
     rcases hk with⟨kvs,hk⟩ | ⟨kvs,hk⟩
     ·obtain⟨_,_,_,_,o,_,_,e,ex,_⟩:=I.hok p _ hk
      exact⟨o,e,ex⟩
     ·obtain⟨_,_,_,_,o,_,_,e,ex,_⟩:=I.hok p _ hk
      exact⟨o,e,ex⟩
    obtain⟨o,e,ex⟩:=z
    refine⟨⟨o,e,ex.1⟩,fun a e2=>?_⟩
    cases e2
    exact⟨o,e,ex.2.1⟩
   ·obtain⟨o,_,_,_,e,ex,_⟩:=I.hok p _ hk
    refine⟨⟨o,e,ex.1⟩,fun a e2=>?_⟩
    cases e2
    exact⟨o,e,ex.2.1⟩
 | _=>exact False.elim ty
def p8(K:PySem.W.Frag)(T:String)(r:V→List V→Hp→VK→Prop)(to:TE)(t:TA):TE:=fun σ H Q=>to σ H fun x H1=>jJ K T x H1∧t σ H1 fun xs H2=>r x xs H2 Q
variable{o e:Expr}{es:List Expr}{to:TE}{t:TA}{name:Str}{apos cpos:Pos}{T id:String}{r:V→List V→Hp→VK→Prop}
theorem eB(pa:PlainAttrs T)(slot:Slot T name id)(hty:typeOf (.builtin id)=pure (.type "method_descriptor"))(hm:fQ X id r)(ho:PE X o to)(ha:PA X (e::es) t)(hbase:attributeBase o name X.env (eval o X.env)=eval o X.env:=by rfl)
 (hfew:((backTo cpos (starEach (e::es) X.env)).all (fun x=>!x.1) && (backToKw cpos (keywordEach [] X.env)).all (fun x=>x.1.isSome)
  && decide ((e::es).length+([]:List Keyword).length+(if([]:List Keyword).isEmpty then 0 else 1)<30))=true:=by rfl)
 (hline:(apos.endLine == cpos.line)=true:=by rfl)(hs:starEach (e::es) X.env=(false,eval e X.env)::starEach es X.env:=by rfl)(hplain:(backTo cpos (starEach es X.env)).any (·.1)=false:=by rfl):
 PE X (.Call (.Attribute o name apos) (e::es) [] cpos) (p8 X.K T r to t):=by
 intro pins s σ H Q I h
 refine wpAny_Call_method_late hbase hfew hline rfl (ao (ho pins s σ H _ I h) fun v s1 ⟨x,H1,I1,r1,ty,q1⟩=>?_)
 obtain⟨h1,h2⟩:=lI I1 r1 ty
 refine⟨T,id,pa,slot,hty,h1,h2,?_⟩
 have hA:=ha cpos pins s1 σ H1 _ I1 q1
 rw[hs] at hA ⊢
 refine Calls.callWith_builtin (by show(false || (backTo cpos (starEach es X.env)).any (·.1))=false;rw[hplain] <;> rfl) (Calls.evalArgs_plain ?_)
 exact ao hA fun us s2 ⟨vs,H2,I2,r2,q2⟩=>hm pins s2 σ H2 x vs v us Q I2 r1 r2 q2
end
def sm(X:Cx)(id:String)(r:V→List V→Hp→VK→Prop):Prop:=
 ∀ (pins:List (Addr×Obj)) (s:Shared) (σ:St) (H:Hp) (x:V) (xs:List V) (v:Value) (us:List Value) (Q:VK),Inv X pins σ H s→RelV x v→Vals xs us→r x xs H Q→
   wpAny (model X.prog X.w) X.A (call (.builtin id) (v::us)) (EP X pins σ Q) X.xe s
theorem Vals.one:∀{x:V} {us:List Value},Vals [x] us→∃u,us=[u]∧RelV x u
 | _,_,.cons r .nil=>⟨_,rfl,r⟩
theorem Vals.two:∀{x y:V} {us:List Value},Vals [x,y] us→∃u v,us=[u,v]∧RelV x u∧RelV y v
 | _,_,_,.cons r (.cons q .nil)=>⟨_,_,rfl,r,q⟩
theorem Vals.rep{xs:List V}{us:List Value}(h:Vals xs us):∀k:Nat,Vals (List.replicate k xs).flatten (List.replicate k us).flatten
 | 0=>.nil
 | k+1=>by
   rw[List.replicate_succ,List.replicate_succ,List.flatten_cons,List.flatten_cons]
   exact Vals.append h (Vals.rep h k)
theorem lQ(its:List Value):∀(k:Nat) (acc:List Value),List.foldl (fun x1 x2=>x1++x2) acc.toArray (List.replicate k its.toArray)=(acc++(List.replicate k its).flatten).toArray
 | 0,acc=>by simp
 | k+1,acc=>by
   have e:acc.toArray++its.toArray=(acc++its).toArray:=by simp
   have e2:(acc++its)++(List.replicate k its).flatten=acc++(List.replicate (k+1) its).flatten:=by
    rw[List.replicate_succ,List.flatten_cons,List.append_assoc]
   rw[←e2,←lQ its k (acc++its),←e,List.replicate_succ,List.foldl_cons]
section
variable{X:Cx}{pins:List (Addr×Obj)}{σ:St}{H:Hp}{s:Shared}{l b:Addr}{xs ys zs:List V}
theorem Inv.lset{its its':List Value}{n:Nat}{f:Array Value→Array Value}{t':Nat}(I:Inv X pins σ H s)(hH:H l=some (.lst xs))(e:s.heap.get? l=some {cls:=.type "list",data:=.seq its.toArray n})(hf:f its.toArray=its'.toArray)(hv:Vals ys its')(hz:ys.length≤sizeLine):Inv X pins σ (upd H l (.lst ys)) {s with heap:=s.heap.update l (Obj.mapSeq f),toks:=t'}:=by
 have q:=PySem.IsL.update e f
 rw[hf] at q
 refine I.write (x:=l) (e:=l) (by rw[hH];exact trivial) (.inl rfl) (fun b' u hb hu=>(Heap.get?_update_other s.heap (Obj.mapSeq f) (Ne.symm hb)).trans hu) ⟨_,q⟩ ?_
 exact⟨hz,its',_,hv,q⟩
theorem Inv.lnew{its:List Value}{t':Nat}(I:Inv X pins σ H s)(hv:Vals ys its)(hz:ys.length≤sizeLine):Inv X pins σ (upd H s.heap.objs.size (.lst ys)) {s with heap:=s.heap.push {cls:=.type "list",data:=.seq its.toArray},toks:=t'}:=
 I.laid (fun _ _ q=>Heap.get?_push_of_some _ q) (Nat.le_refl _) ⟨hz,its,0,hv,Heap.get?_push_size _ rfl⟩
theorem Inv.fresh(I:Inv X pins σ H s):H s.heap.objs.size=none:=I.hok.fresh (Nat.le_refl _)
theorem Inv.lstM(I:Inv X pins σ H s)(hH:H l=some (.lst xs)):xs.length≤sizeLine∧∃(its:List Value) (n:Nat),Vals xs its∧xs.length=its.length∧s.heap.get? l=some {cls:=.type "list",data:=.seq its.toArray n}:=by
 obtain⟨z,its,n,r,e⟩:=I.hok l _ hH
 exact⟨z,its,n,r,r.length,e⟩
theorem oo{n:Nat}(h:n≤sizeLine):Builtin.List.listTooLong n=false:=by
 unfold Builtin.List.listTooLong
 exact decide_eq_false (by lia)
end
section
variable{X:Cx}
def pM:V→List V→Hp→VK→Prop:=fun x vs H Q=>∃l xs y,x=.ref l∧vs=[y]∧H l=some (.lst xs)∧xs.length<sizeLine∧Q .non (upd H l (.lst (xs++[y])))
theorem gF:sm X "list.append" pM:=by
 intro pins s σ H x vs v us Q I rx rv h
 obtain⟨l,xs,y,rfl,rfl,hH,hz,q⟩:=h
 cases rx
 obtain⟨u,rfl,ru⟩:=rv.one
 obtain⟨z,its,n,r,hl,e⟩:=I.lstM hH
 refine call_meets F.slot_list_append ⟨_,e,rfl⟩ F.entry_list_append (F.args_list_append_2 _ _) (PySem.list_append l its.toArray n u (by rw[List.size_toArray];lia)) ⟨e,?_⟩
 refine⟨.non,_,I.lset (its':=its++[u]) hH e (by simp) (r.append (.cons ru .nil)) ?_,rfl,q⟩
 rw[List.length_append,List.length_singleton]
 lia
def im:R2:=fun x y H Q=>∃l b xs zs,x=.ref l∧y=.ref b∧H l=some (.lst xs)∧H b=some (.lst zs)∧xs.length+zs.length≤sizeLine∧∀p,H p=none→Q (.ref p) (upd H p (.lst (xs++zs)))
theorem bw:OpR X (binaryOp .Add) im:=by
 intro pins s σ H x y v u Q I rx ry h
 obtain⟨l,b,xs,zs,rfl,rfl,hH,hB,hz,q⟩:=h
 cases rx
 cases ry
 obtain⟨z,its,n,r,hl,e⟩:=I.lstM hH
 obtain⟨z2,its2,n2,r2,hl2,e2⟩:=I.lstM hB
 refine PySem.P.add_list e e2 ?_ (by rw[List.size_toArray,List.size_toArray];lia)
 have ea:its.toArray++its2.toArray=(its++its2).toArray:=by simp
 rw[ea]
 exact⟨.ref _,_,I.lnew (t':=s.toks) (r.append r2) (by rw[List.length_append];lia),rfl,q _ I.fresh⟩
def pN:R2:=fun x y H Q=>∃l k xs,x=.ref l∧y=.int k∧H l=some (.lst xs)∧ -(2 ^ 63)≤k∧k<2 ^ 63∧xs.length*k.toNat≤sizeLine∧
 ∀p,H p=none→Q (.ref p) (upd H p (.lst (List.replicate k.toNat xs).flatten))
theorem qV{α:Type}(xs:List α)(k:Nat):(List.replicate k xs).flatten.length=k*xs.length:=by
 induction k with
 | zero=>simp
 | succ k ih=>rw[List.replicate_succ,List.flatten_cons,List.length_append,ih,Nat.succ_mul,Nat.add_comm]
theorem kw:OpR X (binaryOp .Mult) pN:=by
 intro pins s σ H x y v u Q I rx ry h
 obtain⟨l,k,xs,rfl,rfl,hH,h1,h2,hz,q⟩:=h
 cases rx
 obtain⟨t,rfl⟩:=ry
 obtain⟨z,its,n,r,hl,e⟩:=I.lstM hH
 have hlen:its.toArray.size*k.toNat≤sizeLine:=by rw[List.size_toArray,←hl];exact hz
 have hcap:¬its.toArray.size*k.toNat>(2 ^ 63-1) / 8:=by
  have:(sizeLine:Nat)≤(2 ^ 63-1) / 8:=by decide
  lia
 have hfit:¬(!Builtin.List.listFitsIndex k)=true:=by
  rw[fitsIndex_both h1 h2]
  exact Bool.false_ne_true
 have hlong:¬Builtin.List.listTooLong (its.toArray.size*k.toNat)=true:=by
  rw[oo hlen]
  exact Bool.false_ne_true
 have hnew:List.foldl (fun x1 x2=>x1++x2) #[] (List.replicate (if its.toArray.isEmpty=true then 0 else k.toNat) its.toArray)=(List.replicate k.toNat its).flatten.toArray:=by
  have f0:∀m:Nat,List.foldl (fun x1 x2=>x1++x2) #[] (List.replicate m its.toArray)=(List.replicate m its).flatten.toArray:=fun m=>by
   have:=lQ its m []
   rw[List.nil_append] at this
   exact this
  rw[f0]
  cases its with
  | nil=>simp
  | cons a r'=>rw[if_neg (by simp)]
 refine wpAny_binaryOp_repeat_ref (T:="list") (U:="int") (by decide) ⟨_,e,rfl⟩ (fun s'=>typeIs_int s' k t) noFill_list_mul F.fills_int_mul F.slot_int_rmul repeat_list F.slot_int_index.lookup
  (call_meets F.slot_int_rmul (typeIs_int s k t) F.entry_int_rmul (F.args_int_rmul_2 _ _) (int___rmul___int_list k t l its.toArray n)
   ⟨e,rfl,⟨_,e,rfl⟩,call_meets F.slot_list_mul ⟨_,e,rfl⟩ F.entry_list_mul (F.args_list_mul_2 _ _) (AutoListH.list___mul___list_int_3 l its.toArray n k t hfit hcap hlong) ⟨e,?_⟩⟩)
 rw[hnew]
 exact⟨.ref _,_,I.lnew (t':=s.toks) (r.rep k.toNat) (by rw[qV,Nat.mul_comm];exact hz),rfl,q _ I.fresh⟩
end
section
variable{prog:Program}{w:World}{A:Around}{E:Value→Shared→Prop}{s:Shared}
set_option maxRecDepth 100000 in
end
section
variable{X:Cx}
end
end L2
namespace Att
open PySem PySem.W PySem.Calls PyProof.Rows
theorem nR{P:Params}{h:Heap}:∀(ns:List Int) (vs:List Value),WellAll P h vs (ns.map WData.int)→IntsAre vs ns:=by
 intro ns
 induction ns with
 | nil=>
   intro vs w
   rw[List.map_nil] at w
   cases w
   exact .nil
 | cons n ns ih=>
   intro vs w
   rw[List.map_cons] at w
   cases w with
   | cons a b=>
     cases a
     exact .cons _ _ (ih _ b)
theorem pY{l:OpenLaw}{n:Nat}(hn:l.most=some n){P:Params}{h:Heap}{args:List WData}{vals:List Value}(hpre:l.row.toRowW.claim.pre args=true)(hwl:WellAll P h vals args):∃a vs ns,vals=[Value.ref a]∧args=[WData.list (ns.map WData.int)]∧h.get? a=some {cls:=.type "list",data:=.seq vs.toArray}∧IntsAre vs ns∧ns.length≤n:=by
 have hsh:WShape.hasAll [] args [.list .int]=true:=(pre_splitW hpre).1
 have hc:l.pre.holds [] {args:=args}=true:=(pre_splitW hpre).2
 obtain⟨d,r,rfl,h1,h2⟩:=hasAllW_cons hsh
 obtain rfl:=hasAllW_nil h2
 obtain⟨xs,rfl,h3⟩:=hasW_list h1
 obtain⟨ns,rfl⟩:=items_int h3
 have hlen:ns.length≤n:=by
  unfold OpenLaw.pre at hc
  have h4:(WTm.not (.lt (.lit (.int (n:Int))) (.len (.arg 0)))).holds [] {args:=[.list (ns.map .int)]}=true:=by
   have h4:=(holds_andW hc).1
   rw[hn] at h4
   exact h4
  have h5:=condW_of h4 (w_not (w_lt w_lit (w_len_list (w_arg rfl))))
  rw[List.length_map] at h5
  refine Nat.le_of_not_lt fun q=>?_
  have q':(n:Int)<((ns.length:Nat):Int):=by lia
  first
   | (rw[decide_eq_true q'] at h5;exact absurd h5 (by decide))
   | (simp at h5;lia)
 cases hwl with
 | cons w1 w2=>
   cases w2
   cases w1 with
   | list ho hall=>exact⟨_,_,ns,rfl,rfl,ho,nR ns _ hall,hlen⟩
theorem oC(l:OpenLaw)(args:List WData):l.row.toRowW.claim.post args (.bool true) args=true:=
 postW_of (r:=l.row.toRowW) (X:=(true == true))
  (show WShape.has [] (.bool true) .bool=true by first | rfl | decide | simp[WShape.has,WShape.arms,WShape.armsAll])
  (show(WTm.eq .res (.lit (.bool true))).value [] {args:=args,res:=some (.bool true),after:=args}=some (.bool (true == true)) from w_eq_bool (w_res rfl) w_lit) rfl
theorem attach_call{l:OpenLaw}{n:Nat}{q:Program}{loose:List Str}{XP:(Str→Option Value)→Heap→Prop}{YP:World→Heap→Prop}{d:DefRec}(hn:l.most=some n)(hdf:d.params.defaults=[])(call:∀(w:World) (s₀ s₁:Shared) (mg mb:Str→Option Value) (fa:Addr) (o:Obj) (pm cd doc:Value) (a:Addr) (vs:List Value) (ns:List Int),Ground q loose [] XP w s₀ mg mb s₁.heap→YP w s₁.heap→s₁.heap.get? fa=some o→o.data=.func (docDef d.name d.params d.body d.scope pm cd doc)→s₁.heap.CodeRec cd d.name→mg d.name=some (.ref fa)→s₁.heap.get? a=some {cls:=.type "list",data:=.seq vs.toArray}→IntsAre vs ns→ns.length≤n→s₁.gens=#[]→codeAny (model l.prog w) callerA (.call (.ref fa) ⟨[.ref a],[]⟩) (fun r s'=>r=.ok (.ret (.bool true))∧OldK s₁.heap s'.heap∧s'.os=s₁.os∧AllBare s'.gens) s₁):
 WalkO q loose XP YP l.row.toRowW d [] (fun f vs=>PySem.call f vs):=by
 intro w s₀ s₁ mg mb G Y fa o pm cd doc dV kV ho hd hcd hD hmg hg args vals as hpre hlay hrd hwl hlo
 obtain rfl:dV=.none:=Dflts.none hD hdf
 obtain rfl:kV=.none:=Dflts.noKw hD
 obtain⟨a,vs,ns,rfl,rfl,hobj,hints,hlen⟩:=pY hn hpre hwl
 refine enter_call (codeAny_mono (call w s₀ s₁ mg mb fa o pm cd doc a vs ns G Y ho (fd_plain hd) hcd hmg hobj hints hlen hg) fun r s' hq=>?_)
 obtain⟨rfl,h2,h3,h4⟩:=hq
 exact⟨.inl ⟨.bool true,.bool true,[],rfl,fun _=>rfl,.bool true,oC l _,fun _=>⟨List.Pairwise.nil,fun _ hm=>(nomatch hm)⟩⟩,h2,h3,h4⟩
section
variable{prog:Program}{w:World}{A:Around}{E:Value→Shared→Prop}{s:Shared}{K:Frag}
def sJ(h:Heap)(L d:Addr):List (Addr×Obj):=(List.range h.objs.size).filterMap fun a=>if a=L∨a=d then none else(h.get? a).map fun o=>(a,o)
end
end Att
namespace L2
open PySem PySem.Spec PyProof.Rows
theorem jz:∀{vs:List Value} {ns:List Int},IntsAre vs ns→Vals (ns.map V.int) vs
 | _,_,.nil=>.nil
 | _,_,.cons n t h=>.cons ⟨t,rfl⟩ (jz h)
def gA(H:Hp):Prop:=∀b,H b=none∨∃o xs,H b=some (.frz o (.lst xs))
theorem qE{P:Program}{w:World}{K:PySem.W.Frag}{mg mb:Str→Option Value}{CX:bi}{k:Nat}{fa a:Addr}{fd:FuncData}{x:Str}{sp:Sp}{s₁:Shared}{vs:List Value}{ns:List Int}(KX:K.In s₁.heap)(hns:s₁.heap.Ns mainGlobals mg)(hb:s₁.heap.Ns builtinsNs mb)(hbb:∀x:Str,x≠"__name__"→mb x=bootBuiltins x)(hlim:s₁.heap.NoLimit)(hg:s₁.gens=#[])(ha:s₁.heap.get? a=some {cls:=.type "list",data:=.seq vs.toArray})(hi:IntsAre vs ns)(hl:ns.length≤sizeLine)(hr:Room k callerA)(F:∀base:Heap,K.In base→base.Ns mainGlobals mg→FnOk P w K mg base CX k fa fd [x] sp)(hbind:∀(s:Shared) (u:Value),BindsTo s fd ⟨[u],[]⟩ [(x,u)])(hsp:∀H:Hp,gA H→SqL K H a (ns.map V.int)→sp [.ref a] H (fun v _=>v=.bl true) fun _ _ _=>False)
 (hCX:∀H e s',CX [] H s₁ (fun _ _ _=>False) e s'→False):
 codeAny (model P w) callerA (.call (.ref fa) ⟨[.ref a],[]⟩) (fun r s'=>r=.ok (.ret (.bool true))∧OldK s₁.heap s'.heap∧s'.os=s₁.os∧AllBare s'.gens) s₁:=by
 have rv:=jz hi
 have lenV:=hi.length
 have core:∀H:Hp,gA H→SqL K H a (ns.map V.int)→HOk P w H s₁.heap→(∀b,H b≠none→b=a)→(H a≠none→K.lookup a=none)→
  codeAny (model P w) callerA (.call (.ref fa) ⟨[.ref a],[]⟩) (fun r s'=>r=.ok (.ret (.bool true))∧OldK s₁.heap s'.heap∧s'.os=s₁.os∧AllBare s'.gens) s₁:=by
  intro H hO hS hok hA hK
  have base_of:∀{b:Addr} {o:Obj},s₁.heap.get? b=some o→H b=none→(cD s₁.heap H).get? b=some o:=fun e n=>o5 e n
  have noA:∀{b:Addr} {o:Obj} {es:Array DictEntry} {ep:Nat},s₁.heap.get? b=some o→o.data=.dict es ep→H b=none:=fun{b o es ep} e d=>by
   cases q:H b with
   | none=>rfl
   | some u=>
     have e':b=a:=hA b (by rw[q];simp)
     subst e'
     rw[ha] at e;cases e
     have d':Data.seq vs.toArray _=Data.dict es ep:=d
     cases d'
  have nsK:∀{b:Addr} {m:Str→Option Value},s₁.heap.Ns b m→(cD s₁.heap H).Ns b m:=fun{b m} ⟨o,es,ep,e,d,r⟩=>⟨o,es,ep,base_of e (noA e d),d,r⟩
  have hKb:K.In (cD s₁.heap H):=fun b o e=>base_of (KX b o e) (by
   cases q:H b with
   | none=>rfl
   | some u=>
     have e':b=a:=hA b (by rw[q];simp)
     subst e'
     rw[hK (by rw[q];simp)] at e;cases e)
  have hM:Mod K mg (cD s₁.heap H):=⟨hKb,nsK hns,⟨mb,nsK hb,hbb⟩,let ⟨mc,h1,h2⟩:=hlim;⟨mc,nsK h1,h2⟩⟩
  have e0:Env0 P w K mg (cD s₁.heap H) callerA [] s₁ H:=⟨rfl,hM,fun b o e=>rQ e,Nat.le_of_eq (qc _ _),trivial,fun b hb=>absurd (show b∈([]:List Addr) from hb) (by simp),hok,.of_eq hg⟩
  refine codeAny_mono ((F _ hKb (nsK hns)).run callerA [] s₁ H ⟨[.ref a],[]⟩ [.ref a] [.ref a] _ _ hr e0 (hbind s₁ (.ref a)) (.cons rfl .nil) (hsp H hO hS)) fun r s' h=>?_
  cases r with
  | error e=>exact(hCX H e s' h).elim
  | ok fl=>
    cases fl with
    | next=>exact False.elim h
    | brk=>exact False.elim h
    | cont=>exact False.elim h
    | ret u=>
      obtain⟨v,H',os,bare,un,hok',r',q⟩:=h
      have q':v=.bl true:=q
      subst q'
      obtain rfl:u=Value.bool true:=r'
      refine⟨rfl,OldK.of_keep fun b o e=>?_,os,bare⟩
      cases q:H b with
      | none=>exact un.keep b o e q (by intro z;exact absurd (show b∈([]:List Addr) from z) (by simp)) (by simp)
      | some u=>
        rcases hO b with z | ⟨ob,xs,z⟩
        ·rw[q] at z;cases z
        ·have z2:=un.frzs b ob _ z
         obtain⟨e1,_⟩:=hok b _ z
         obtain⟨e2,_⟩:=hok' b _ z2
         rw[e] at e1;cases e1
         exact e2
 cases hk:K.lookup a with
 | some o=>
   have e:=KX a o hk
   rw[ha] at e
   cases e
   refine core (fun _=>none) (fun _=>.inl rfl) (.inr ⟨_,vs.toArray,_,hk,rfl,rfl,rfl,by rw[List.size_toArray,lenV];exact hl,by simpa using rv⟩) (fun b u z=>by have z':(none:Option HO)=some u:=z;cases z') (fun b z=>absurd rfl z) fun z=>absurd rfl z
 | none=>
   refine core (fun b=>if b=a then some (.frz {cls:=.type "list",data:=.seq vs.toArray} (.lst (ns.map V.int))) else none) (fun b=>?_) (.inl (.inr ⟨{cls:=.type "list",data:=.seq vs.toArray},if_pos rfl⟩)) (fun b u z=>?_) (fun b z=>?_) fun _=>hk
   ·by_cases hb:b=a
    ·exact .inr ⟨_,_,if_pos hb⟩
    ·exact .inl (if_neg hb)
   ·by_cases hb:b=a
    ·have z':=(if_pos hb).symm.trans z
     cases z'
     subst hb
     exact⟨ha,by rw[List.length_map];exact hl,vs,_,rv,ha⟩
    ·have z':=(if_neg hb).symm.trans z
     cases z'
   ·by_cases hb:b=a
    ·exact hb
    ·exact absurd (if_neg hb) z
abbrev sL{K:PySem.W.Frag}{h:Heap}(_:K.In h):PySem.W.Frag:=K
theorem walk_of{l:PySem.W.OpenLaw}{n k:Nat}{q:Program}{loose:List Str}{XP:(Str→Option Value)→Heap→Prop}{YP:World→Heap→Prop}{d:DefRec}{K:Params→PySem.W.Frag}{CX:World→bi}{sp:World→Sp}{x:Str}(hn:l.most=some n)(hn2:n≤sizeLine)(hdf:d.params.defaults=[])(hr:Room k callerA)(hY:∀(w:World) (h:Heap),YP w h→(K w.params).In h)(F:∀(w:World) (mg:Str→Option Value) (fa:Addr) (h:Heap),(K w.params).In h→h.Ns mainGlobals mg→mg d.name=some (.ref fa)→∃fd:FuncData,(∀(s:Shared) (u:Value),BindsTo s fd ⟨[u],[]⟩ [(x,u)])∧∀base:Heap,(K w.params).In base→base.Ns mainGlobals mg→FnOk l.prog w (K w.params) mg base (CX w) k fa fd [x] (sp w))(hsp:∀(w:World) (H:Hp) (a:Addr) (ns:List Int),ns.length≤n→gA H→SqL (K w.params) H a (ns.map V.int)→sp w [.ref a] H (fun v _=>v=.bl true) fun _ _ _=>False)
 (hCX:∀(w:World) (H:Hp) (s:Shared) (e:Value) (s':Shared),CX w [] H s (fun _ _ _=>False) e s'→False):
 PySem.W.WalkO q loose XP YP l.row.toRowW d [] (fun f vs=>PySem.call f vs):=by
 refine Att.attach_call hn hdf fun w s₀ s₁ mg mb fa o pm cd doc a vs ns G Y ho hd hcd hmg hobj hints hlen hg=>?_
 have KX:=hY w _ Y
 obtain⟨fd,hb,hF⟩:=F w mg fa _ KX G.T.g hmg
 exact qE KX G.T.g G.T.b G.T.builtins G.T.nolimit hg hobj hints (Nat.le_trans hlen hn2) hr hF hb (fun H hO hS=>hsp w H a ns hlen hO hS) fun H e s'=>hCX w H s₁ e s'
def cy(s:Stmt):Arguments:=match s with
 | .FunctionDef _ a _ _ _ _ _ _ _ _=>a
 | _=>{posonlyargs:=[],args:=[],vararg:=none,kwonlyargs:=[],kw_defaults:=[],kwarg:=none,defaults:=[]}
def bC(s:Stmt):List Stmt:=match s with
 | .FunctionDef _ _ b _ _ _ _ _ _ _=>b
 | _=>[]
def aw(s:Stmt):Scope:=match s with
 | .FunctionDef _ _ _ _ _ _ sc _ _ _=>sc
 | _=>{kind:=.function,names:=[],isGenerator:=false,isCoroutine:=false}
abbrev ai:bi:=fun _ _ _ _ _ _=>False
abbrev E0:XK:=fun _ _ _=>False
theorem aj{X:Cx}:eK ai X E0:=fun _ _ _ _ _ _ _ h=>h.elim
structure Fun(K:PySem.W.Frag)(x qual:Str)(st:Stmt)(f:Addr)(fd:FuncData):Prop where
 ex:∃(oc:Value) (od:Option Addr) (kV doc pm:Value) (an:Option Addr) (cdv ct:Value) (osl:Array (Option Value)),
  fd=PySem.W.fnOf x qual (cy st) (bC st) (aw st) .none kV doc pm an cdv ct∧K.lookup f=some ⟨oc,od,.func fd,osl⟩∧PySem.W.codeIn K cdv qual=true
 kp:PySem.W.keepIn K (.ref f)=true
section
variable{P:Program}{w:World}{K:PySem.W.Frag}{mg:Str→Option Value}{base:Heap}
theorem Fun.ok{x qual:Str}{st:Stmt}{f:Addr}{fd:FuncData}{N ps:List Str}{k:Nat}{sp:Sp}(F:Fun K x qual st f fd)(S:FnScope N ps (aw st))(len:∀vs H Q E,sp vs H Q E→vs.length=ps.length)(hbody:∀(cdv:Value) (A:Around) (outer:List Env) (s:Shared) (H:Hp) (vs:List V) (Q:VK) (E:XK),Room k (A.deeper (envOfC qual (aw st) s.heap.objs.size f cdv))→sp vs H Q E→∃t,PSs (bZ ai P w K mg base N qual (aw st) f cdv A outer s H E).nox (bC st) t∧t {nx:=fun _ H'=>Q .non H',rt:=Q} (cw N vs) H):FnOk P w K mg base ai (k+1) f fd ps sp:=by
 obtain⟨oc,od,kV,doc,pm,an,cdv,ct,osl,rfl,lk,hcd⟩:=F.ex
 refine i7 lk hcd S len fun A outer s H vs Q E hr hsp=>?_
 obtain⟨t,h,q⟩:=hbody cdv A outer s H vs Q E hr hsp
 exact⟨t,h.nox,q⟩
theorem Fun.binds{x qual:Str}{st:Stmt}{f:Addr}{fd:FuncData}{ps:List Str}(F:Fun K x qual st f fd)(h:∀(kV doc pm:Value) (an:Option Addr) (cdv ct:Value) (us:List Value),us.length=ps.length→bindArgs (PySem.W.fnOf x qual (cy st) (bC st) (aw st) .none kV doc pm an cdv ct) ⟨us,[]⟩=pure (ps.zip us)):Binds K fd ps []:=by
 obtain⟨oc,od,kV,doc,pm,an,cdv,ct,osl,rfl,lk,hcd⟩:=F.ex
 exact .all (h kV doc pm an cdv ct)
theorem kz{x qual:Str}{st:Stmt}{f:Addr}{oc:Value}{od an:Option Addr}{osl:Array (Option Value)}{kV doc pm cdv ct:Value}(l:K.lookup f=some ⟨oc,od,.func (PySem.W.fnOf x qual (cy st) (bC st) (aw st) .none kV doc pm an cdv ct),osl⟩)(c:PySem.W.codeIn K cdv qual=true)(k:PySem.W.keepIn K (.ref f)=true):Fun K x qual st f (PySem.W.fnOf x qual (cy st) (bC st) (aw st) .none kV doc pm an cdv ct):=⟨⟨oc,od,kV,doc,pm,an,cdv,ct,osl,rfl,l,c⟩,k⟩
end
theorem nX{A:Around}{k:Nat}(hr:Room k A):A.units+1<cLine:=Nat.lt_of_le_of_lt (Nat.add_le_add_left (by decide:1≤64) _) hr.units
theorem ce{n:Nat}(h:n≤1000):n<sizeLine:=Nat.lt_of_le_of_lt h (by decide)
section
variable{X:Cx}
theorem pv(i:Nat){x:Str}{pos:Pos}(hN:X.N[i]?=some x:=by rfl)(hv:il X.env.scope x:=by first | exact Or.inl rfl | exact Or.inr (Or.inl rfl) | exact Or.inr (Or.inr rfl))(hd:(x == ("__debug__":Str))=false:=by decide)
 (hcd:(x == ("__classdict__":Str))=false:=by decide):PE X (.Name x pos) (bK i):=o8 hN hv hd hcd
end
theorem aA{A B:Prop}(h:B):if false=true then A else B:=by
 rw[if_neg Bool.false_ne_true]
 exact h
theorem aQ{A B:Prop}(h:A):if true=true then A else B:=by
 rw[if_pos rfl]
 exact h
theorem br{c A B:Prop}[Decidable c](h1:c→A)(h2:¬c→B):if c then A else B:=by
 by_cases h:c
 ·rw[if_pos h]
  exact h1 h
 ·rw[if_neg h]
  exact h2 h
def Same(H H':Hp):Prop:=∀b o,H b=some o→H' b=some o
theorem Same.refl(H:Hp):Same H H:=fun _ _ h=>h
theorem Same.trans{H H1 H2:Hp}(a:Same H H1)(b:Same H1 H2):Same H H2:=fun c o h=>b c o (a c o h)
theorem Same.free{H H':Hp}(e:Same H H'){l:Addr}(h:H' l=Option.none):H l=Option.none:=by
 cases q:H l with
 | none=>rfl
 | some o=>
   rw[e l o q] at h
   cases h
theorem Same.seq{K:PySem.W.Frag}{H H':Hp}{a:Addr}{xs:List V}(e:Same H H')(h:SqL K H a xs):SqL K H' a xs:=by
 rcases h with(h | ⟨o,h⟩) | h
 ·exact .inl (.inl (e _ _ h))
 ·exact .inl (.inr ⟨o,e _ _ h⟩)
 ·exact .inr h
end L2
set_option maxHeartbeats 4000000
namespace L2
open PySem PySem.Spec PyProof.Rows
def eX(outer sc:Scope)(x:Str)(M N:List Str):Bool:=
 decide (sc.kind=.function) && sc.names.all (fun y=>decide (y.2≠ .cell)) && sc.names.all (fun y=>decide (y.2=.local→sc.names.lookup y.1=some .local)) && decide (sc.names.lookup x=some .local) &&
 sc.names.all (fun y=>decide (y.2=.free→(outer.names.lookup y.1=some .cell∨outer.names.lookup y.1=some .free))) &&
 decide ((M++[x]).Nodup) && decide (M.length=N.length) && (M.zip N).all (fun p=>decide (p.1=p.2∨sc.names.lookup p.1=none)) && M.all (fun y=>decide (sc.names.lookup y≠some .local))
theorem iX{env:Env}:∀{names:List (Str×NameKind)} {x:Str} {k':NameKind},(names.map fun(n,k)=>if(k == NameKind.free && env.scope.kind == .function && env.kindOf n == some .cell) then(n,NameKind.cell) else(n,k)).lookup x=some k'→
 ∃k,names.lookup x=some k∧(k'=k∨(k=.free∧k'=.cell))
 | [],_,_,h=>by simp at h
 | (n,k)::r,x,k',h=>by
   have ih:= @iX env r x k'
   have h':List.lookup x ((if(k == NameKind.free && env.scope.kind == .function && env.kindOf n == some .cell)=true then(n,NameKind.cell) else(n,k))::_)=some k':=h
   cases hx:x == n with
   | true=>
     by_cases hc:((k == NameKind.free && env.scope.kind == .function && env.kindOf n == some .cell))=true
     ·rw[if_pos hc] at h'
      simp only[List.lookup_cons,hx] at h'
      refine⟨k,by simp[List.lookup_cons,hx],.inr ⟨?_,(Option.some.inj h').symm⟩⟩
      simp only[Bool.and_eq_true,beq_iff_eq] at hc
      exact hc.1.1
     ·rw[if_neg hc] at h'
      simp only[List.lookup_cons,hx] at h'
      exact⟨k,by simp[List.lookup_cons,hx],.inl (Option.some.inj h').symm⟩
   | false=>
     have h'':List.lookup x (r.map fun(n,k)=>if(k == NameKind.free && env.scope.kind == .function && env.kindOf n == some .cell) then(n,NameKind.cell) else(n,k))=some k':=by
      by_cases hc:((k == NameKind.free && env.scope.kind == .function && env.kindOf n == some .cell))=true
      ·rw[if_pos hc] at h';simp only[List.lookup_cons,hx] at h';exact h'
      ·rw[if_neg hc] at h';simp only[List.lookup_cons,hx] at h';exact h'
     obtain⟨k0,a,b⟩:=ih h''
     exact⟨k0,by simp only[List.lookup_cons,hx];exact a,b⟩
theorem gD{env:Env}:∀(names:List (Str×NameKind)) (cs:List (Str×Addr)),(∀y∈names,y.2=.free→∃c,env.cells.lookup y.1=some c)→(∀y c,cs.lookup y=some c→env.cells.lookup y=some c)→∃cl,(forIn names cs fun(x:Str×NameKind) (r:List (Str×Addr))=>(if(x.2 == NameKind.free)=true then(do let a←cellOf env x.1;pure (ForInStep.yield ((x.1,a)::r))) else pure (ForInStep.yield r):Sem _))=pure cl∧
 (∀y c,cl.lookup y=some c→env.cells.lookup y=some c)∧(∀y,((∃c,cs.lookup y=some c)∨(y,NameKind.free)∈names)→∃c,cl.lookup y=some c)
 | [],cs,_,hc=>⟨cs,rfl,hc,fun y h=>by
  rcases h with h | h
  ·exact h
  ·cases h⟩
 | (n,k)::r,cs,hf,hc=>by
   by_cases hk:k=.free
   ·subst hk
    obtain⟨a,ha⟩:=hf (n,.free) List.mem_cons_self rfl
    have hc':∀y c,List.lookup y ((n,a)::cs)=some c→env.cells.lookup y=some c:=fun y c e=>by
     simp only[List.lookup_cons] at e
     split at e
     ·rename_i q
      have q':y=n:=by simpa using q
      subst q'
      exact ha.trans e
     ·exact hc y c e
    obtain⟨cl,h1,h2,h3⟩:=gD r ((n,a)::cs) (fun y hy=>hf y (List.mem_cons_of_mem _ hy)) hc'
    refine⟨cl,?_,h2,fun y h=>?_⟩
    ·rw[List.forIn_cons]
     show((if(NameKind.free == NameKind.free)=true then(do let a←cellOf env n;pure (ForInStep.yield ((n,a)::cs))) else pure (ForInStep.yield cs):Sem _) >>= _)=_
     rw[if_pos (by decide)]
     have e:cellOf env n=pure a:=by unfold cellOf;rw[ha]
     rw[e]
     exact h1
    ·refine h3 y ?_
     rcases h with⟨c,h⟩ | h
     ·left
      simp only[List.lookup_cons]
      split
      ·exact⟨_,rfl⟩
      ·exact⟨c,h⟩
     ·rcases List.mem_cons.mp h with q | q
      ·left
       cases q
       exact⟨a,by simp[List.lookup_cons]⟩
      ·exact .inr q
   ·obtain⟨cl,h1,h2,h3⟩:=gD r cs (fun y hy=>hf y (List.mem_cons_of_mem _ hy)) hc
    refine⟨cl,?_,h2,fun y h=>?_⟩
    ·rw[List.forIn_cons]
     show((if(k == NameKind.free)=true then(do let a←cellOf env n;pure (ForInStep.yield ((n,a)::cs))) else pure (ForInStep.yield cs):Sem _) >>= _)=_
     rw[if_neg (by simpa using hk)]
     exact h1
    ·refine h3 y ?_
     rcases h with h | h
     ·exact .inl h
     ·rcases List.mem_cons.mp h with q | q
      ·cases q;exact absurd rfl hk
      ·exact .inr q
theorem nB{env:Env}{scope:Scope}(hf:∀y∈scope.names,y.2=.free→∃c,env.cells.lookup y.1=some c):∃cl,closureFor scope env=pure cl∧(∀y c,cl.lookup y=some c→env.cells.lookup y=some c)∧(∀y,(y,NameKind.free)∈scope.names→∃c,cl.lookup y=some c):=by
 obtain⟨cl,h1,h2,h3⟩:=gD scope.names [] hf (fun y c e=>by simp at e)
 refine⟨cl,?_,h2,fun y h=>h3 y (.inr h)⟩
 unfold closureFor
 rw[←bind_pure (x:=(pure cl:Sem _)),←h1]
structure CB where
 cl:List (Str×Addr)
 C:Addr
 s2:Shared
 H2:Hp
 fp:List Addr
def Cx.comp(X:Cx)(N':List Str)(scope:Scope)(b:CB):Cx where
 prog:=X.prog
 w:=X.w
 K:=X.K
 mg:=X.mg
 base:=X.base
 A:=X.A
 N:=N'
 s₀:=b.s2
 H₀:=b.H2
 env:=compEnvC scope b.cl b.C X.env
 outer:=X.stack
 stack:=X.stack
 ex:=b.fp
 fn:=fun _=>false
 calm:=X.calm
 pn:=[]
 xe:=fun _ _=>False
structure CompOK(outer sc:Scope)(x:Str)(M N:List Str):Prop where
 kind:sc.kind=.function
 nocell:∀y∈sc.names,y.2≠ .cell
 loc:∀y∈sc.names,y.2=.local→sc.names.lookup y.1=some .local
 own:sc.names.lookup x=some .local
 free:∀y∈sc.names,y.2=.free→(outer.names.lookup y.1=some .cell∨outer.names.lookup y.1=some .free)
 nd:(M++[x]).Nodup
 len:M.length=N.length
 same:∀p∈M.zip N,p.1=p.2∨sc.names.lookup p.1=none
 noloc:∀y∈M,sc.names.lookup y≠some .local
theorem qC{outer sc:Scope}{x:Str}{M N:List Str}(h:eX outer sc x M N=true):CompOK outer sc x M N:=by
 unfold eX at h
 simp only[Bool.and_eq_true,decide_eq_true_eq,List.all_eq_true] at h
 obtain⟨⟨⟨⟨⟨⟨⟨⟨h1,h2⟩,h3⟩,h4⟩,h5⟩,h6⟩,h7⟩,h8⟩,h9⟩:=h
 exact⟨h1,h2,h3,h4,h5,h6,h7,h8,h9⟩
section
variable{X:Cx}{pins:List (Addr×Obj)}{σ:St}{H2:Hp}{s2:Shared}{scope:Scope}{x:Str}{M:List Str}{cl:List (Str×Addr)}{fp:List Addr}{h1:Heap}{t':Nat}
theorem Inv.comp(I:Inv X pins σ H2 s2)(K:CompOK X.env.scope scope x M X.N)(hcl:∀y c,cl.lookup y=some c→X.env.cells.lookup y=some c)(hcf:∀y,(y,NameKind.free)∈scope.names→∃c,cl.lookup y=some c)(hfp:∀b∈fp,ci X pins H2 b)(hlt:∀b∈fp,b<s2.heap.objs.size)(kp:∀b o,s2.heap.get? b=some o→h1.get? b=some o)(hD:h1.get? s2.heap.objs.size=some {cls:=.type "list",dict:=none,data:=.seq ([]:List Value).toArray})(hC:h1.Ns (s2.heap.objs.size+1) (fun _=>none)):
 Inv (X.comp (M++[x]) scope ⟨cl,s2.heap.objs.size+1,s2,H2,fp⟩) [] (σ++[none]) (upd H2 s2.heap.objs.size (.lst [])) {s2 with heap:=h1,toks:=t'}:=by
 have cellLt:∀y c,cl.lookup y=some c→c<s2.heap.objs.size:=fun y c e=>by
  obtain⟨v,z⟩:=I.cell y c (hcl y c e)
  exact z.lt
 have kindEq:∀y k',(compEnvC scope cl (s2.heap.objs.size+1) X.env).kindOf y=some k'→∃k,scope.names.lookup y=some k∧(k'=k∨(k=.free∧k'=.cell)):=fun y k' e=>iX e
 have freeOf:∀y k',(compEnvC scope cl (s2.heap.objs.size+1) X.env).kindOf y=some k'→(k'=.cell∨k'=.free)→(y,NameKind.free)∈scope.names:=fun y k' e hk=>by
  obtain⟨k,e1,e2⟩:=kindEq y k' e
  have mem:=PySem.mem_of_lookup e1
  have:k=.free:=by
   rcases e2 with rfl | ⟨rfl,_⟩
   ·rcases hk with rfl | rfl
    ·exact absurd rfl (K.nocell _ mem)
    ·rfl
   ·rfl
  subst this
  exact mem
 have hDn:H2 s2.heap.objs.size=none:=I.hok.fresh (Nat.le_refl _)
 refine⟨⟨I.ok.mod,K.kind,I.ok.glob,I.ok.blt,Nat.le_succ _,fun y z c e1 e2=>I.ok.inj y z c (hcl y c e1) (hcl z c e2),fun y hy=>?_,fun y c hf _=>?_,I.ok.hd,I.ok.frames,.inl rfl,fun b hb=>⟨Nat.ne_of_lt (Nat.lt_succ_of_lt (hlt b hb)),fun y c e=>(hfp b hb).2.2.2.2.1 y c (hcl y c e)⟩,
  fun b o e=>I.bs b o e,Nat.le_trans I.ok.bsz I.sz,fun b o e hb=>?_,fun b hb hf=>?_,I.stack,I.stkFree⟩,rfl,I.bare,Un.laid kp (Nat.le_refl _) hDn,⟨_,hC,fun i y v e1 e2 e3=>?_⟩,fun y c e=>?_,?_,fun y c e=>?_,fun p hp=>absurd (show p∈([]:List (Addr×Obj)) from hp) (by simp),I.hok.laid kp (Nat.le_refl _) ?_,?_⟩
 ·rcases hy with hy | hy
  ·exact hcf y (freeOf y _ hy (.inl rfl))
  ·exact hcf y (freeOf y _ hy (.inr rfl))
 ·exact absurd (show false=true from hf) Bool.false_ne_true
 ·obtain⟨f0,f1,f2,f3,f4,f5⟩:=hfp b hb
  rcases f3 with z | z
  ·exact I.ok.noex b o e z
  ·exact absurd (Nat.lt_of_lt_of_le (Heap.lt_size (I.ok.bs b o e).1) z) (Nat.lt_irrefl _)
 ·obtain⟨f0,f1,f2,f3,f4,f5⟩:=hfp b hb
  rcases List.mem_cons.mp (I.stkSub b hf) with z | z
  ·exact f1 z
  ·exact f2 z
 ·
  have hi:i<σ.length:=by
   by_cases hi:i<σ.length
   ·exact hi
   ·have hz:(σ++[none])[i]?=some (some v):=e2
    rw[List.getElem?_append_right (by lia)] at hz
    by_cases hq:i-σ.length=0
    ·rw[hq] at hz;cases hz
    ·rw[List.getElem?_eq_none (by simp;lia)] at hz;cases hz
  have e2':σ[i]?=some (some v):=by
   have hz:(σ++[none])[i]?=some (some v):=e2
   rw[List.getElem?_append_left hi] at hz
   exact hz
  have hiM:i<M.length:=by rw[K.len,←I.len];exact hi
  have e1':M[i]?=some y:=by
   have hz:(M++[x])[i]?=some y:=e1
   rw[List.getElem?_append_left hiM] at hz
   exact hz
  have hyM:y∈M:=List.mem_of_getElem? e1'
  have e3':∃k',(compEnvC scope cl (s2.heap.objs.size+1) X.env).kindOf y=some k'∧(k'=.cell∨k'=.free):=by
   rcases e3 with z | z | z
   ·obtain⟨k,a,b⟩:=kindEq y _ z
    rcases b with b | ⟨_,b⟩
    ·subst b;exact absurd a (K.noloc y hyM)
    ·cases b
   ·exact⟨_,z,.inl rfl⟩
   ·exact⟨_,z,.inr rfl⟩
  obtain⟨k',ek,hk⟩:=e3'
  have mem:=freeOf y k' ek hk
  obtain⟨k0,a0,_⟩:=kindEq y k' ek
  have hiN:i<X.N.length:=by rw[←K.len];exact hiM
  have eN:X.N[i]?=some y:=by
   have hz:(M[i],X.N[i])∈M.zip X.N:=by
    rw[List.mem_iff_getElem?]
    exact⟨i,List.getElem?_zip_eq_some.mpr ⟨List.getElem?_eq_getElem hiM,List.getElem?_eq_getElem hiN⟩⟩
   have eM:M[i]=y:=by
    rw[List.getElem?_eq_getElem hiM] at e1'
    exact Option.some.inj e1'
   rcases K.same _ hz with q | q
   ·rw[List.getElem?_eq_getElem hiN]
    have q':M[i]=X.N[i]:=q
    rw[←q',eM]
   ·have q':scope.names.lookup M[i]=none:=q
    rw[eM,a0] at q'
    cases q'
  have hv:=K.free _ mem rfl
  obtain⟨m,hn,hl⟩:=I.loc
  obtain⟨u,r,l⟩:=hl i y v eN e2' (hv.elim (fun z=>.inr (.inl z)) (fun z=>.inr (.inr z)))
  refine⟨u,r,.inr ⟨?_,?_⟩⟩
  ·rcases hk with rfl | rfl
   ·exact .inl ek
   ·exact .inr ek
  ·obtain⟨c,ec⟩:=hcf y mem
   refine⟨c,ec,?_⟩
   rcases l with⟨z,_⟩ | ⟨_,c',ec',cc⟩
   ·have z':X.env.scope.names.lookup y=some .local:=z
    rcases hv with q | q <;> (rw[z'] at q;cases q)
   ·have:=(hcl y c ec).symm.trans ec'
    cases this
    obtain⟨o,ho,hd⟩:=cc
    exact⟨o,kp _ o ho,hd⟩
 ·obtain⟨v,o,ho,hd⟩:=I.cell y c (hcl y c e)
  exact⟨v,o,kp _ o ho,hd⟩
 ·show upd H2 s2.heap.objs.size (.lst []) (s2.heap.objs.size+1)=none
  rw[ap (Nat.succ_ne_self _)]
  exact I.hok.fresh (Nat.le_succ _)
 ·rw[ap (Nat.ne_of_lt (cellLt y c e))]
  exact I.freeC y c (hcl y c e)
 ·exact⟨Nat.zero_le _,[],_,.nil,hD⟩
 ·show(σ++[none]).length=(M++[x]).length
  simp[I.len,K.len]
end
theorem mB{prog:Program}{w:World}{A:Around}{R:Result→Shared→Prop}{s:Shared}{elt target iter:Expr}{ifs:List Expr}{scope:Scope}{pos:Pos}{it acc:Value}{env:Env}(I:Nat→Shared→Prop)(onward:∀n s,I n s→wpAny (model prog w) A (pyNext it) (fun r za=>match r with
 | none=>R (.ok .next) za
 | some v=>wpAny (model prog w) A (letOwnedTupleGo target it v) (fun _ zb=>wpAny (model prog w) A (assign target env v) (fun _ zc=>
  wpAny (model prog w) A (forIn ifs true fun c r=>if r=true then do let ok←isTrue c env (eval c env);pure (ForInStep.yield ok) else pure (ForInStep.yield r)) (fun ok zd=>
   if ok=true then wpAny (model prog w) A (eval elt env) (fun x ze=>
    wpAny (model prog w) A (call (.builtin "list.append") [acc,x]) (fun _ zf=>∃m,m<n∧I m zf) (fun _ _=>False) ze) (fun _ _=>False) zd
   else∃m,m<n∧I m zd) (fun _ _=>False) zc) (fun _ _=>False) zb) (fun _ _=>False) za) (fun _ _=>False) s)
 (n:Nat)(h:I n s):
 codeAny (model prog w) A (.compLoop (.ListComp elt [⟨target,iter,ifs,0⟩] scope pos) 0 it acc env) R s:=
 by
 refine codeAny_loop rfl I (fun n s hJ=>?_) n h
 show wpAny _ A ((compTurn (.ListComp elt [⟨target,iter,ifs,0⟩] scope pos) 0 it acc env).onRaise (fun ex=>do noteFrame ex env;theTreesLotGoes ex)) _ _ s
 refine wpAny_noted (wpAny_mono (E:=fun _ _=>False) ?_ (fun _ _ q=>q) fun _ _ z=>z.elim)
 rw[compTurn_list]
 refine wpAny_bind (wpAny_standAt (wpAny_bind (wpAny_mono (onward n s hJ) (fun r za ya=>?_) fun _ _ u=>u)))
 cases r with
 | none=>exact wpAny_pure ya
 | some v=>
   refine wpAny_bind (wpAny_mono ya (fun _ zb yb=>?_) fun _ _ u=>u)
   refine wpAny_bind (wpAny_mono yb (fun _ zc yc=>wpAny_bind (wpAny_mono yc (fun ok zd yd=>?_) fun _ _ u=>u)) fun _ _ u=>u)
   cases ok with
   | false=>exact wpAny_pure ⟨rfl,yd⟩
   | true=>
     exact wpAny_bind (wpAny_bind (wpAny_mono yd (fun x ze ye=>wpAny_bind (wpAny_mono ye (fun _ zf yf=>wpAny_pure (wpAny_pure ⟨rfl,yf⟩)) fun _ _ u=>u)) fun _ _ u=>u))
def eu(X:Cx)(ifs:List Expr)(t:TT):Prop:=
 ∀ (pins:List (Addr×Obj)) (s:Shared) (σ:St) (H:Hp) (Q:Bool→Hp→Prop),Inv X pins σ H s→t σ H Q→
   wpAny (model X.prog X.w) X.A (forIn ifs true fun c r=>if r=true then do let ok←isTrue c X.env (eval c X.env);pure (ForInStep.yield ok) else pure (ForInStep.yield r)) (TP X pins σ Q) X.xe s
def kZ:TT:=fun _ H Q=>Q true H
theorem lY{X:Cx}:eu X [] kZ:=fun pins s σ H Q I h=>wpAny_tests_nil ⟨H,I,h⟩
theorem bW{X:Cx}{c:Expr}{t:TT}(h:PT X c t):eu X [c] t:=fun pins s σ H Q I q=>wpAny_tests_one (h pins s σ H Q I q)
def gQ(wi:TI)(tc:CB→TT)(te:CB→TE):TE:=fun σ H Q=>wi σ H fun J H1=>∀D,H1 D=none→∀b:CB,∃W:Nat→Nat→List V→Hp→Prop,(∃m,W 0 m [] (upd H1 D (.lst [])))∧
 ∀ i m ys H,W i m ys H→(J.stop i H∧Q (.ref D) H)∨(J.go i H∧ys.length<sizeLine∧∃N:List V→Hp→Prop,(∀ys' H',N ys' H'→∃m',m'<m∧W (i+1) m' ys' H')∧∀x H',J.yld i H x H'→tc b (σ++[some x]) H' fun ok H2=>
   if ok=true then te b (σ++[some x]) H2 fun v H3=>H3 D=some (.lst ys)∧N (ys++[v]) (upd H3 D (.lst (ys++[v]))) else N ys H2)
theorem oQ{X:Cx}{pins:List (Addr×Obj)}{σ:St}{H:Hp}{s:Shared}{D:Addr}{ys:List V}{v:V}{u:Value}{E:Value→Shared→Prop}(I:Inv X pins σ H s)(hD:H D=some (.lst ys))(hz:ys.length<sizeLine)(r:RelV v u):wpAny (model X.prog X.w) X.A (call (.builtin "list.append") [.ref D,u]) (fun _ s'=>Inv X pins σ (upd H D (.lst (ys++[v]))) s') E s:=by
 obtain⟨z,its,n,rv,hl,e⟩:=I.lstM hD
 refine call_meets F.slot_list_append ⟨_,e,rfl⟩ F.entry_list_append (F.args_list_append_2 _ _) (PySem.list_append D its.toArray n u (by rw[List.size_toArray];lia)) ⟨e,?_⟩
 refine I.lset (its':=its++[u]) hD e (by simp) (rv.append (.cons r .nil)) ?_
 rw[List.length_append,List.length_singleton]
 lia
theorem SameBut.unC{H H':Hp}{fs ex:List Addr}{h h1 h2:Heap}{C:Addr}(u:Un fs ex H H' h h1)(sb:Heap.SameBut C h1 h2)(hC:h.objs.size≤C):Un fs ex H H' h h2:=by
 have ne:∀b o,h.get? b=some o→b≠C:=fun b o e z=>by subst z;exact absurd (Nat.lt_of_lt_of_le (Heap.lt_size e) hC) (Nat.lt_irrefl _)
 refine⟨fun b o e n hb hx=>(sb.2 b (ne b o e)).trans (u.keep b o e n hb hx),fun b o e n hb hx=>?_,u.free,fun b o e hx=>?_,u.tups,u.frzs,u.tbls⟩
 ·obtain⟨sl,q⟩:=u.slot b o e n hb hx
  exact⟨sl,(sb.2 b (ne b o e)).trans q⟩
 ·obtain⟨o',q⟩:=u.there b o e hx
  exact⟨o',(sb.2 b (ne b o e)).trans q⟩
theorem SameBut.hokC{P:Program}{w:World}{H:Hp}{h1 h2:Heap}{C:Addr}(ok:HOk P w H h1)(sb:Heap.SameBut C h1 h2)(hn:H C=none):HOk P w H h2:=fun b ob e=>by
 refine(ok b ob e).stay (fun c w' hc q=>(sb.2 c ?_).trans q) (fun _ q=>q) fun _ _ q=>q
 rintro rfl
 rcases hc with rfl | hc
 ·rw[hn] at e;cases e
 ·rw[hn] at hc;cases hc
theorem lJ{X:Cx}{iter elt:Expr}{ifs:List Expr}{x:Str}{px pos pos0:Pos}{scope:Scope}(M:List Str){wi:TI}{tc:CB→TT}{te:CB→TE}{use:Option (Value→Sem Unit)}{R:Value→Shared→Prop}{pins:List (Addr×Obj)}{s:Shared}{σ:St}{H:Hp}{Q:VK}(I:Inv X pins σ H s)(h:gQ wi tc te σ H Q)(hfin:∀(D C:Addr) (m:Str→Option Value) (s':Shared) (H':Hp),s'.heap.Ns C m→ci X pins H' C→(∀h',Heap.SameBut C s'.heap h'→Inv X pins σ H' {s' with heap:=h'})→Q (.ref D) H'→compPost (model X.prog X.w) X.A X.xe use R (.ref D) C (.ok .next) s')(hc:X.calm=true)(hi:PI X (.Name x px) iter wi)(hif:∀b:CB,eu (X.comp (M++[x]) scope b) ifs (tc b))(he:∀b:CB,PE (X.comp (M++[x]) scope b) elt (te b))(ok:eX X.env.scope scope x M X.N=true:=by kernel_rfl)
 (hs:∀x,foldedSetIterable iter X.env x=pure x:=by intro _;rfl):
 wpAny (model X.prog X.w) X.A (comprehension (.ListComp elt [⟨.Name x px,iter,ifs,0⟩] scope pos) scope X.env pos0 (newList []) false (eval iter X.env) use) R X.xe s:=by
 have K:=qC ok
 obtain⟨cl,hclos,hcl,hcf⟩:=nB (env:=X.env) (scope:=scope) fun y hy hk=>I.ok.has y.1 (K.free y hy hk)
 refine wpAny_comprehension_free (use:=use) rfl hs hclos K.kind K.loc ?_
 refine ao (hi pins s σ H _ I h) fun v s1 h1=>ao h1 fun itv s2 h2=>?_
 obtain⟨it,fp,tn,J,H2,rfl,I2,T,st2,f2,hq⟩:=h2
 refine wpAny_newObj_type (wpAny_newFunctionEnv K.nocell (by intro y hy;simp at hy) (fun h₁ hns₁ hsb₁=>?_) K.kind)
 dsimp only at hns₁ hsb₁ ⊢
 have hsize:(s2.heap.push {cls:=.type "list",dict:=none,data:=.seq ([]:List Value).toArray}).objs.size=s2.heap.objs.size+1:=Heap.size_push ..
 rw[hsize] at hns₁ hsb₁
 have ltD:s2.heap.objs.size≠s2.heap.objs.size+1:=Nat.ne_of_lt (Nat.lt_succ_self _)
 have kp:∀b o,s2.heap.get? b=some o→h₁.get? b=some o:=fun b o e=>hsb₁.extBut b o (Nat.ne_of_lt (Nat.lt_succ_of_lt (Heap.lt_size e))) (Heap.get?_push_of_some _ (Heap.get?_push_of_some _ e))
 have hD:h₁.get? s2.heap.objs.size=some {cls:=.type "list",dict:=none,data:=.seq ([]:List Value).toArray}:=hsb₁.extBut _ _ ltD (Heap.get?_push_of_some _ (Heap.get?_push_size _ rfl))
 have hlt:∀b∈fp,b<s2.heap.objs.size:=fun b hb=>let ⟨o,e,_⟩:=T.obj _ _ st2 b hb;Heap.lt_size e
 have I3:=I2.comp (t':=s2.toks+([]:List (Str×Value)).length) K hcl hcf f2 hlt kp hD hns₁
 obtain⟨W,⟨m0,w0⟩,step⟩:=hq s2.heap.objs.size (I2.hok.fresh (Nat.le_refl _)) ⟨cl,s2.heap.objs.size+1,s2,H2,fp⟩
 have st3:tn 0 h₁:=T.keep _ _ _ st2 fun b _ o e=>kp b o e
 have fr3:∀b∈fp,(upd H2 s2.heap.objs.size (.lst [])) b=none:=fun b hb=>by rw[ap (Nat.ne_of_lt (hlt b hb))];exact(f2 b hb).1
 have fin:∀(s':Shared) (σ':St) (H':Hp),Inv (X.comp (M++[x]) scope ⟨cl,s2.heap.objs.size+1,s2,H2,fp⟩) [] σ' H' s'→Q (.ref s2.heap.objs.size) H'→
  compPost (model X.prog X.w) X.A X.xe use R (.ref s2.heap.objs.size) (s2.heap.objs.size+1) (.ok .next) s':=fun s' σ' H' J' q=>by
  obtain⟨m,hn,_⟩:=id J'.loc
  have hC:H' (s2.heap.objs.size+1)=none:=J'.free
  refine hfin _ _ m s' H' hn (I2.fpOk (Nat.le_succ _) hC) (fun h' sb=>?_) q
  exact I2.call' (ch:=fp) (show s'.os=s2.os from J'.os) (SameBut.unC J'.base sb (Nat.le_succ _)) (SameBut.hokC J'.hok sb hC) J'.bare fun b hb=>by
   obtain⟨f0,f1,f2',f3,f4,f5⟩:=f2 b hb
   exact⟨f3,f1,f4,f5⟩
 have stat:∀{H':Hp},(∀b∈fp,H' b=none)→∀b∈fp,ci (X.comp (M++[x]) scope ⟨cl,s2.heap.objs.size+1,s2,H2,fp⟩) [] H' b:=fun hn b hb=>by
  obtain⟨f0,f1,f2',f3,f4,f5⟩:=f2 b hb
  refine⟨hn b hb,Nat.ne_of_lt (Nat.lt_succ_of_lt (hlt b hb)),fun z=>?_,.inl hb,fun y c e=>f4 y c (hcl y c e),fun p hp=>absurd (show p∈([]:List (Addr×Obj)) from hp) (by simp)⟩
  rcases List.mem_cons.mp (I2.stkSub b z) with z | z
  ·exact f1 z
  ·exact f2' z
 have len3:σ.length=M.length:=by rw[I.len,K.len]
 have loop:codeAny (model X.prog X.w) X.A (.compLoop (.ListComp elt [⟨.Name x px,iter,ifs,0⟩] scope pos) 0 (.ref it) (.ref s2.heap.objs.size) (compEnvC scope cl (s2.heap.objs.size+1) X.env))
  (compPost (model X.prog X.w) X.A X.xe use R (.ref s2.heap.objs.size) (s2.heap.objs.size+1)) {s2 with heap:=h₁,toks:=s2.toks+([]:List (Str×Value)).length}:=by
  refine mB (fun n s'=>∃i ys H',Inv (X.comp (M++[x]) scope ⟨cl,s2.heap.objs.size+1,s2,H2,fp⟩) [] (σ++[none]) H' s'∧tn i s'.heap∧(∀b∈fp,H' b=none)∧W i n ys H') ?_ m0 ⟨0,[],_,I3,st3,fr3,w0⟩
  rintro n s4 ⟨i,ys,H4,I4,st4,fr4,w4⟩
  rcases step i n ys H4 w4 with⟨stop,q⟩ | ⟨go,hz,N,hN,st⟩
  ·refine wpAny_mono (T.done (X.comp (M++[x]) scope ⟨cl,s2.heap.objs.size+1,s2,H2,fp⟩) rfl rfl rfl hc i [] s4 _ H4 (fun _ _=>False) I4 (stat fr4) st4 stop) (fun r s5 ⟨hr,I5⟩=>?_) fun _ _ z=>z
   subst hr
   exact fin s5 _ H4 I5 q
  ·refine wpAny_mono (T.item (X.comp (M++[x]) scope ⟨cl,s2.heap.objs.size+1,s2,H2,fp⟩) rfl rfl rfl hc i [] s4 _ H4 (fun _ _=>False) I4 (stat fr4) st4 go) (fun r s5 ⟨u,hr,h5⟩=>?_) fun _ _ z=>z
   subst hr
   refine wpAny_mono h5 (fun _ s6 ⟨xv,H6,I6,r6,y6,st6,fr6⟩=>?_) fun _ _ z=>z
   have I6':=I6.pinned (stat fr6) (T.obj _ _ st6)
   have hset:(σ++[none]).set σ.length (some xv)=σ++[some xv]:=by simp
   have hNx:(X.comp (M++[x]) scope ⟨cl,s2.heap.objs.size+1,s2,H2,fp⟩).N[σ.length]?=some x:=by
    show(M++[x])[σ.length]?=some x
    rw[len3];simp
   have hlx:(X.comp (M++[x]) scope ⟨cl,s2.heap.objs.size+1,s2,H2,fp⟩).env.scope.names.lookup x=some .local:=lookup_relabel_local K.own
   have PGx:PG (X.comp (M++[x]) scope ⟨cl,s2.heap.objs.size+1,s2,H2,fp⟩) (.Name x px) (cE σ.length):=bz K.nd hNx (.inl hlx) (.inr hlx)
   refine wpAny_mono (PGx _ s6 _ H6 xv u (fun σ' H'=>σ'=σ++[some xv]∧H'=H6) I6' r6 ⟨hset,rfl⟩) (fun _ s7 ⟨σ7,H7,I7,e7,e7'⟩=>?_) fun _ _ z=>z
   subst e7 e7'
   have again:∀{ys':List V} {H8:Hp} {s8:Shared} {m:Nat},Inv (X.comp (M++[x]) scope ⟨cl,s2.heap.objs.size+1,s2,H2,fp⟩) ([]++eW fp s6.heap) (σ++[some xv]) H8 s8→m<n→W (i+1) m ys' H8→
    ∃m,m<n∧∃i ys H',Inv (X.comp (M++[x]) scope ⟨cl,s2.heap.objs.size+1,s2,H2,fp⟩) [] (σ++[none]) H' s8∧tn i s8.heap∧(∀b∈fp,H' b=none)∧W i m ys H':=fun{ys' H8 s8 m} I8 hm w8=>by
    refine⟨m,hm,i+1,ys',H8,(I8.unpinned).weak (by simp) (fun j v e=>?_),T.keep _ _ _ st6 fun b hb o e=>(I8.pin (b,o) (List.mem_append_right _ (List.mem_append_right _ (fz hb e)))).1,fun b hb=>?_,w8⟩
    ·by_cases hj:j<σ.length
     ·rw[List.getElem?_append_left hj] at e ⊢;exact e
     ·rw[List.getElem?_append_right (by lia)] at e
      by_cases hq:j-σ.length=0
      ·rw[hq] at e;cases e
      ·rw[List.getElem?_eq_none (by simp;lia)] at e;cases e
    ·obtain⟨o,e,d⟩:=T.obj _ _ st6 b hb
     exact(I8.pin (b,o) (List.mem_append_right _ (List.mem_append_right _ (fz hb e)))).2.1
   refine wpAny_mono (hif ⟨cl,s2.heap.objs.size+1,s2,H2,fp⟩ _ s7 _ _ _ I7 (st xv _ y6)) (fun ok s8 ⟨H8,I8,q8⟩=>?_) fun _ _ z=>z
   cases ok with
   | false=>
     rw[if_neg Bool.false_ne_true] at q8
     obtain⟨m,hm,w8⟩:=hN _ _ q8
     exact again I8 hm w8
   | true=>
     rw[if_pos rfl] at q8
     refine wpAny_mono (he ⟨cl,s2.heap.objs.size+1,s2,H2,fp⟩ _ s8 _ H8 _ I8 q8) (fun xu s9 ⟨v9,H9,I9,r9,hD9,n9⟩=>?_) fun _ _ z=>z
     obtain⟨m,hm,w9⟩:=hN _ _ n9
     exact wpAny_mono (oQ (X:=X.comp (M++[x]) scope ⟨cl,s2.heap.objs.size+1,s2,H2,fp⟩) I9 hD9 hz r9) (fun _ s10 I10=>again I10 hm w9) fun _ _ z=>z
 rw[hsize]
 exact codeAny_compStart_list loop (T.self X.A 0 _ _ _ st3 loop)
theorem bR{X:Cx}{iter elt:Expr}{ifs:List Expr}{x:Str}{px pos:Pos}{scope:Scope}(M:List Str){wi:TI}{tc:CB→TT}{te:CB→TE}(hc:X.calm=true)(hi:PI X (.Name x px) iter wi)(hif:∀b:CB,eu (X.comp (M++[x]) scope b) ifs (tc b))(he:∀b:CB,PE (X.comp (M++[x]) scope b) elt (te b))(ok:eX X.env.scope scope x M X.N=true:=by kernel_rfl)
 (hs:∀x,foldedSetIterable iter X.env x=pure x:=by intro _;rfl):
 PE X (.ListComp elt [⟨.Name x px,iter,ifs,0⟩] scope pos) (gQ wi tc te):=by
 intro pins s σ H Q I h
 rw[eval_ListComp]
 exact lJ M (use:=none) (R:=EP X pins σ Q) I h (fun D C m s' H' hn _ hI q=>⟨m,hn,fun h' sb=>⟨.ref D,H',hI h' sb,rfl,q⟩⟩) hc hi hif he ok hs
theorem Inv.butC{X:Cx}{pins:List (Addr×Obj)}{σ:St}{H:Hp}{s:Shared}{C:Addr}{h':Heap}(I:Inv X pins σ H s)(f:ci X pins H C)(sb:Heap.SameBut C s.heap h'):Inv X pins σ H {s with heap:=h'}:=by
 obtain⟨f0,f1,f2,f3,f4,f5⟩:=f
 refine I.call' (ch:=[C]) rfl ⟨fun b o e n _ hx=>?_,fun b o e n _ hx=>?_,fun b o e n _=>n,fun b o e hx=>?_,fun _ _ z=>z,fun _ _ _ z=>z,fun _ ps z=>⟨#[],by simpa using z⟩⟩ (SameBut.hokC I.hok sb f0) I.bare fun b hb=>?_
 ·exact(sb.2 b (by simpa using hx)).trans e
 ·exact⟨o.slots,(sb.2 b (by simpa using hx)).trans e⟩
 ·exact⟨o,(sb.2 b (by simpa using hx)).trans e⟩
 ·have:b=C:=by simpa using hb
  subst this
  exact⟨f3,f1,f4,f5⟩
theorem pG{X:Cx}{iter elt:Expr}{ifs:List Expr}{x y:Str}{px py pos spos:Pos}{scope:Scope}(M:List Str){i:Nat}{wi:TI}{tc:CB→TT}{te:CB→TE}(hc:X.calm=true)(hN:X.N.Nodup)(hiy:X.N[i]?=some y)(hy:dr X.env.scope y)(hi:PI X (.Name x px) iter wi)(hif:∀b:CB,eu (X.comp (M++[x]) scope b) ifs (tc b))(he:∀b:CB,PE (X.comp (M++[x]) scope b) elt (te b))(hsw:swapsWith (.ListComp elt [⟨.Name x px,iter,ifs,0⟩] scope pos) (some (.Name y py)) spos.line X.env=pure true:=by rfl)
 (ok:eX X.env.scope scope x M X.N=true:=by kernel_rfl)
 (hs:∀x,foldedSetIterable iter X.env x=pure x:=by intro _;rfl)
 (hf:X.fn y=true∨X.env.scope.names.lookup y=some .local:=by first | exact .inl rfl | exact .inr rfl | assumption):
 PS X (.Assign [.Name y py] (.ListComp elt [⟨.Name x px,iter,ifs,0⟩] scope pos) spos) (eh (gQ wi tc te) (cE i)):=by
 intro pins s σ H D I h
 rw[exec_Assign_Name_used _ _ _ _ hsw];refine wpAny_bind (wpAny_standAt (wpAny_bind ?_))
 show wpAny _ X.A (do let _←comprehension (.ListComp elt [⟨.Name x px,iter,ifs,0⟩] scope pos) scope X.env _ (newList []) false (eval iter X.env) (some (assign (.Name y py) X.env))) _ _ s
 refine wpAny_bind (wpAny_mono (lJ M (use:=some (assign (.Name y py) X.env)) (R:=fun _ s'=>_) I h (fun D' C m s' H' hn f hI q=>?_) hc hi hif he ok hs) (fun _ s' hq=>wpAny_pure (wpAny_pure hq)) fun _ _ e=>e)
 have I':Inv X pins σ H' s':=hI s'.heap ⟨rfl,fun _ _=>rfl⟩
 show wpAny _ X.A (assign (.Name y py) X.env (.ref D')) _ _ _
 refine wpAny_assign_Name (j7 (v:=.ref D') I' hN hiy hy rfl (fun s2 I2 ⟨a,sb,ha⟩=>?_) hf)
 have hCa:C≠a:=by
  obtain⟨f0,f1,f2,f3,f4,f5⟩:=f
  rintro rfl
  rcases ha with z | z
  ·exact f1 z
  ·exact f4 _ _ z rfl
 exact⟨m,hn.sameBut sb hCa,fun h' sb'=>⟨_,H',I2.butC f sb',q⟩⟩
theorem di{lo:Int}{n:Nat}{tc:TT}{te:TE}{σ:St}{H1:Hp}{Q:Hp→Prop}{D:Addr}(Pv:Nat→List V→Hp→Prop)(hn:n<sizeLine)(h0:Pv 0 [] (upd H1 D (.lst [])))(hl:∀i ys H,Pv i ys H→ys.length≤i)(hs:∀i ys H,i<n→Pv i ys H→tc (σ++[some (.int (lo+i))]) H fun b H2=>if b=true then te (σ++[some (.int (lo+i))]) H2 fun v H3=>H3 D=some (.lst ys)∧Pv (i+1) (ys++[v]) (upd H3 D (.lst (ys++[v]))) else Pv (i+1) ys H2)
 (hd:∀ys H,Pv n ys H→Q H):
 ∃ W:Nat→Nat→List V→Hp→Prop,(∃m,W 0 m [] (upd H1 D (.lst [])))∧
   ∀ i m ys H,W i m ys H→((cu lo n).stop i H∧Q H)∨((cu lo n).go i H∧ys.length<sizeLine∧∃N:List V→Hp→Prop,(∀ys' H',N ys' H'→∃m',m'<m∧W (i+1) m' ys' H')∧∀x H',(cu lo n).yld i H x H'→tc (σ++[some x]) H' fun b H2=>
     if b=true then te (σ++[some x]) H2 fun v H3=>H3 D=some (.lst ys)∧N (ys++[v]) (upd H3 D (.lst (ys++[v]))) else N ys H2):=by
 refine⟨fun i m ys H=>m=n-i∧i≤n∧Pv i ys H,⟨n,by simp,Nat.zero_le _,h0⟩,?_⟩
 rintro i m ys H ⟨rfl,hi,p⟩
 by_cases hlt:i<n
 ·refine .inr ⟨hlt,Nat.lt_of_le_of_lt (hl i ys H p) (Nat.lt_trans hlt hn),Pv (i+1),fun ys' H' p'=>⟨n-(i+1),by lia,rfl,hlt,p'⟩,fun x H' y=>?_⟩
  obtain⟨e,y⟩:=y
  subst e y
  exact hs i ys _ hlt p
 ·have e:i=n:=by lia
  subst e
  exact .inl ⟨Nat.le_refl _,hd ys H p⟩
theorem iF{K:PySem.W.Frag}{a:Addr}{xs:List V}{tc:TT}{te:TE}{σ:St}{H1:Hp}{Q:Hp→Prop}{D:Addr}(Pv:Nat→List V→Hp→Prop)(hn:xs.length<sizeLine)(h0:Pv 0 [] (upd H1 D (.lst [])))(hl:∀i ys H,Pv i ys H→ys.length≤i)(hq:∀i ys H,i≤xs.length→Pv i ys H→SqL K H a xs)(hs:∀i x ys H,xs[i]?=some x→Pv i ys H→tc (σ++[some x]) H fun b H2=>if b=true then te (σ++[some x]) H2 fun v H3=>H3 D=some (.lst ys)∧Pv (i+1) (ys++[v]) (upd H3 D (.lst (ys++[v]))) else Pv (i+1) ys H2)
 (hd:∀ys H,Pv xs.length ys H→Q H):
 ∃ W:Nat→Nat→List V→Hp→Prop,(∃m,W 0 m [] (upd H1 D (.lst [])))∧
   ∀ i m ys H,W i m ys H→((cn K a).stop i H∧Q H)∨((cn K a).go i H∧ys.length<sizeLine∧∃N:List V→Hp→Prop,(∀ys' H',N ys' H'→∃m',m'<m∧W (i+1) m' ys' H')∧∀x H',(cn K a).yld i H x H'→tc (σ++[some x]) H' fun b H2=>
     if b=true then te (σ++[some x]) H2 fun v H3=>H3 D=some (.lst ys)∧N (ys++[v]) (upd H3 D (.lst (ys++[v]))) else N ys H2):=by
 refine⟨fun i m ys H=>m=xs.length-i∧i≤xs.length∧Pv i ys H,⟨xs.length,by simp,Nat.zero_le _,h0⟩,?_⟩
 rintro i m ys H ⟨rfl,hi,p⟩
 have q:=hq i ys H hi p
 by_cases hlt:i<xs.length
 ·refine .inr ⟨⟨xs,xs[i],q,by simp[hlt]⟩,Nat.lt_of_le_of_lt (hl i ys H p) (Nat.lt_trans hlt hn),Pv (i+1),fun ys' H' p'=>⟨xs.length-(i+1),by lia,rfl,hlt,p'⟩,fun x H' y=>?_⟩
  obtain⟨e,y⟩:=y
  subst e
  exact hs i x ys _ (y xs q) p
 ·have e:i=xs.length:=by lia
  subst e
  exact .inl ⟨⟨xs,q,Nat.le_refl _⟩,hd ys H p⟩
mutual
def DatV(K:PySem.W.Frag)(H:Hp):PyData→V→Prop
 | .none,v=>v=.non
 | .bool b,v=>v=.bl b
 | .int i,v=>v=.int i
 | .str x,v=>v=.str x∧PyData.strOk x=true
 | .list ds,v=>∃a xs,v=.ref a∧SqL K H a xs∧DatVs K H ds xs
 | .tuple ds,v=>∃a xs,v=.ref a∧SqT K H a xs∧DatVs K H ds xs
 | .dict _,_=>False
def DatVs(K:PySem.W.Frag)(H:Hp):List PyData→List V→Prop
 | [],xs=>xs=[]
 | d::ds,xs=>∃x r,xs=x::r∧DatV K H d x∧DatVs K H ds r
end
section
variable{X:Cx}{pins:List (Addr×Obj)}{σ:St}{H:Hp}{s:Shared}
mutual
theorem DatV.reads(I:Inv X pins σ H s):∀(d:PyData) (v:V) (u:Value),DatV X.K H d v→RelV v u→(∃as,Reads s.heap u d as)∧d.canLay0=true
 | .none,v,u,h,r=>by
   rw[DatV] at h;subst h;cases r;exact⟨⟨_,.none⟩,by simp[PyData.canLay0]⟩
 | .bool b,v,u,h,r=>by
   rw[DatV] at h;subst h;cases r;exact⟨⟨_,.bool b⟩,by simp[PyData.canLay0]⟩
 | .int i,v,u,h,r=>by
   rw[DatV] at h;subst h;obtain⟨t,rfl⟩:=r;exact⟨⟨_,.int i t⟩,by simp[PyData.canLay0]⟩
 | .str x,v,u,h,r=>by
   rw[DatV] at h;obtain⟨h,hx⟩:=h;subst h;obtain⟨t,rfl⟩:=r;exact⟨⟨_,.str x t⟩,by simp[PyData.canLay0,hx]⟩
 | .list ds,v,u,h,r=>by
   rw[DatV] at h;obtain⟨a,xs,rfl,hq,hd⟩:=h
   cases r
   obtain⟨its,rv,p,hz⟩:=I.list hq
   obtain⟨⟨as,ra⟩,cl⟩:=DatVs.reads I ds xs its hd rv
   obtain⟨o,ho,hc,n,hdt⟩:=p.isList
   exact⟨⟨_,.list ho hc hdt (by simpa using ra)⟩,by rw[PyData.canLay0];exact cl⟩
 | .tuple ds,v,u,h,r=>by
   rw[DatV] at h;obtain⟨a,xs,rfl,hq,hd⟩:=h
   cases r
   obtain⟨its,rv,p,hz⟩:=I.tuple hq
   obtain⟨⟨as,ra⟩,cl⟩:=DatVs.reads I ds xs its hd rv
   obtain⟨o,ho,hc,n,hdt⟩:=p
   exact⟨⟨_,.tuple ho hc hdt (by simpa using ra)⟩,by rw[PyData.canLay0];exact cl⟩
 | .dict _,v,u,h,r=>by rw[DatV] at h;exact h.elim
theorem DatVs.reads(I:Inv X pins σ H s):∀(ds:List PyData) (vs:List V) (us:List Value),DatVs X.K H ds vs→Vals vs us→(∃as,ReadsAll s.heap us ds as)∧PyData.canLayAll0 ds=true
 | [],vs,us,h,r=>by
   rw[DatVs] at h;subst h;cases r;exact⟨⟨_,.nil⟩,by simp[PyData.canLayAll0]⟩
 | d::ds,vs,us,h,r=>by
   rw[DatVs] at h;obtain⟨x,rr,rfl,h1,h2⟩:=h
   cases r with
   | cons r1 r2=>
     obtain⟨⟨as,ra⟩,ca⟩:=DatV.reads I d x _ h1 r1
     obtain⟨⟨bs,rb⟩,cb⟩:=DatVs.reads I ds rr _ h2 r2
     exact⟨⟨_,.cons ra rb⟩,by rw[PyData.canLayAll0,ca,cb];rfl⟩
end
def dH(K:PySem.W.Frag)(neg:Bool):R2:=fun x y H Q=>∃da db,DatV K H da x∧DatV K H db y∧min da.depth db.depth≤64∧Q (.bl (if neg then !PyData.eqv da db else PyData.eqv da db)) H
theorem hG{k:Nat}(hr:Room k X.A):OpR X (compareOp .Eq) (dH X.K false):=by
 intro pins s σ H x y v u Q I rx ry h
 obtain⟨da,db,h1,h2,hd,q⟩:=h
 obtain⟨⟨as,ra⟩,ca⟩:=DatV.reads I da x v h1 rx
 obtain⟨⟨bs,rb⟩,cb⟩:=DatV.reads I db y u h2 ry
 exact SeqAt.compareEq_reads ra rb ca cb (by have:=hr.units;lia) ⟨.bl _,H,I,rfl,q⟩
theorem kj{k:Nat}(hr:Room k X.A):OpR X (compareOp .NotEq) (dH X.K true):=by
 intro pins s σ H x y v u Q I rx ry h
 obtain⟨da,db,h1,h2,hd,q⟩:=h
 obtain⟨⟨as,ra⟩,ca⟩:=DatV.reads I da x v h1 rx
 obtain⟨⟨bs,rb⟩,cb⟩:=DatV.reads I db y u h2 ry
 exact SeqAt.compareNe_reads ra rb ca cb (by have:=hr.units;lia) ⟨.bl _,H,I,rfl,q⟩
end
abbrev aG(c:Nat):Str:=⟨#[c]⟩
abbrev sg(c:Nat):V:=.str (aG c)
theorem kR{K:PySem.W.Frag}{H:Hp}:∀cs:List Nat,(∀c∈cs,c<0x110000)→DatVs K H (cs.map fun c=>PyData.str (aG c)) (cs.map sg)
 | [],_=>by simp[DatVs]
 | c::cs,h=>by
   rw[List.map_cons,List.map_cons,DatVs]
   refine⟨_,_,rfl,?_,kR cs fun c hc=>h c (List.mem_cons_of_mem _ hc)⟩
   rw[DatV]
   exact⟨rfl,by simp[PyData.strOk,h c List.mem_cons_self]⟩
theorem iW{K:PySem.W.Frag}{H:Hp}{a:Addr}{cs:List Nat}(h:SqL K H a (cs.map sg))(hc:∀c∈cs,c<0x110000):DatV K H (.list (cs.map fun c=>PyData.str (aG c))) (.ref a):=by
 rw[DatV];exact⟨a,_,rfl,h,kR cs hc⟩
theorem jR:∀cs:List Nat,PyData.depthAll (cs.map fun c=>PyData.str (aG c))≤1
 | []=>by simp[PyData.depthAll]
 | c::cs=>by
   have:=jR cs
   rw[List.map_cons,PyData.depthAll]
   simp only[PyData.depth]
   lia
theorem pQ(cs:List Nat):(PyData.list (cs.map fun c=>PyData.str (aG c))).depth≤2:=by
 have:=jR cs
 rw[PyData.depth];lia
theorem rK{a b:Nat}:(aG a == aG b)=decide (a=b):=by
 by_cases h:a=b
 ·subst h;simp
 ·have:aG a≠aG b:=fun e=>h (by simpa [aG] using e)
  simp[h,this]
theorem iV:∀cs ds:List Nat,PyData.eqvAll (cs.map fun c=>PyData.str (aG c)) (ds.map fun c=>PyData.str (aG c))=decide (cs=ds)
 | [],[]=>by simp[PyData.eqvAll]
 | [],_::_=>by simp[PyData.eqvAll]
 | _::_,[]=>by simp[PyData.eqvAll]
 | c::cs,d::ds=>by
   rw[List.map_cons,List.map_cons,PyData.eqvAll,iV cs ds,PyData.eqv,rK]
   simp
theorem mH(cs ds:List Nat):PyData.eqv (.list (cs.map fun c=>PyData.str (aG c))) (.list (ds.map fun c=>PyData.str (aG c)))=decide (cs=ds):=by rw[PyData.eqv,iV]
def rEqS(K:PySem.W.Frag)(neg:Bool):R2:=fun x y H Q=>∃(a b:Addr) (cs ds:List Nat),x=.ref a∧y=.ref b∧SqL K H a (cs.map sg)∧SqL K H b (ds.map sg)∧(∀c∈cs,c<0x110000)∧(∀c∈ds,c<0x110000)∧Q (.bl (if neg then !decide (cs=ds) else decide (cs=ds))) H
section
variable{X:Cx}{k:Nat}
theorem OpR.imp{f:Value→Value→Sem Value}{r r':R2}(h:OpR X f r)(i:∀x y H Q,r' x y H Q→r x y H Q):OpR X f r':=fun pins s σ H x y v u Q I rx ry q=>h pins s σ H x y v u Q I rx ry (i _ _ _ _ q)
theorem rEqS.toD{K:PySem.W.Frag}{neg:Bool}:∀x y H Q,rEqS K neg x y H Q→dH K neg x y H Q:=by
 rintro x y H Q ⟨a,b,ns,ms,rfl,rfl,h1,h2,c1,c2,q⟩
 refine⟨_,_,iW h1 c1,iW h2 c2,Nat.le_trans (Nat.min_le_left _ _) (Nat.le_trans (pQ ns) (by decide)),?_⟩
 rw[mH]
 exact q
theorem iy(hr:Room k X.A):OpR X (compareOp .Eq) (rEqS X.K false):=(hG hr).imp rEqS.toD
theorem ft:OpR X (compareOp .LtE) (fun x y H Q=>∃i j,x=.str i∧y=.str j∧Q (.bl (!decide (j.cps.toList<i.cps.toList))) H):=by
 intro pins s σ H x y v u Q I rx ry h
 obtain⟨i,j,rfl,rfl,q⟩:=h
 obtain⟨t,rfl⟩:=rx
 obtain⟨t',rfl⟩:=ry
 exact PySem.P.le_str ⟨.bl _,H,I,rfl,q⟩
theorem nw:bU X (.builtin "isinstance") (fun xs H Q=>∃x t c b,xs=[x,.ty c]∧TyOf X.K H x t∧PySem.W.kitOne X.K t (.type c)=some b∧Q (.bl b) H):=by
 intro pins s σ H xs us Q I r h
 obtain⟨x,t,c,b,rfl,ty,e,q⟩:=h
 obtain⟨u,u',rfl,rx,rc⟩:=iK r
 cases rc
 exact nl I rx ty e fun tk=>⟨.bl b,H,I.tok tk,rfl,q⟩
end
structure Fn(P:Program)(w:World)(K:PySem.W.Frag)(mg:Str→Option Value)(base:Heap)(CX:bi)(x:Str)(k:Nat)(ps:List Str)(sp:Sp):Prop where
 ex:∃f fd,FnOk P w K mg base CX k f fd ps sp∧mg x=some (.ref f)∧PySem.W.keepIn K (.ref f)=true∧Binds K fd ps []∧∃oc od osl,K.lookup f=some ⟨oc,od,.func fd,osl⟩
theorem ag{X:Cx}{CX:bi}{k j:Nat}{ps:List Str}{sp:Sp}{E:XK}{x:Str}{p pos:Pos}{e:Expr}{es:List Expr}{t:TA}(F:Fn X.prog X.w X.K X.mg X.base CX x k ps sp)(hr:Room j X.A)(hx:eK CX X E)(ha:PA X (e::es) t)(hg:Gl X x:=by rfl)(hj:k≤j:=by decide)
 (hdb:(x == ("__debug__":Str))=false:=by decide)(he:starEach (e::es) X.env=(false,eval e X.env)::starEach es X.env:=by rfl)(hpl:(backTo pos (starEach es X.env)).any (·.1)=false:=by rfl):
 PE X (.Call (.Name x p) (e::es) [] pos) (d9 sp [] E t):=by
 obtain⟨f,fd,F,hm,hk,hb,_⟩:=F.ex
 exact qQ F (hr.mono hj) hg hm hk hb .nil hx ha hdb he hpl
structure FF(K:PySem.W.Frag)(x:Str)(st:Stmt):Prop where
 ex:∃(f:Addr) (oc:Value) (od an:Option Addr) (osl:Array (Option Value)) (kV doc pm cdv ct:Value),PySem.W.nsIn K mainGlobals x=some (some (.ref f))∧
  K.lookup f=some ⟨oc,od,.func (PySem.W.fnOf x x (cy st) (bC st) (aw st) .none kV doc pm an cdv ct),osl⟩∧PySem.W.codeIn K cdv x=true∧PySem.W.keepIn K (.ref f)=true
theorem ff_mk{K:PySem.W.Frag}{x:Str}{st:Stmt}{f:Addr}{oc:Value}{od an:Option Addr}{osl:Array (Option Value)}{kV doc pm cdv ct:Value}(a:PySem.W.nsIn K mainGlobals x=some (some (.ref f)))(l:K.lookup f=some ⟨oc,od,.func (PySem.W.fnOf x x (cy st) (bC st) (aw st) .none kV doc pm an cdv ct),osl⟩)(c:PySem.W.codeIn K cdv x=true)(k:PySem.W.keepIn K (.ref f)=true):FF K x st:=⟨f,oc,od,an,osl,kV,doc,pm,cdv,ct,a,l,c,k⟩
structure Md(K:PySem.W.Frag)(mg:Str→Option Value):Prop where
 ns:∀x v,PySem.W.nsIn K mainGlobals x=some v→mg x=v
theorem qu{K:PySem.W.Frag}{h:Heap}{mg:Str→Option Value}(X:K.In h)(G:h.Ns mainGlobals mg):Md K mg:=⟨fun x v e=>by
 cases v with
 | none=>exact PySem.W.mg_none_of X G e
 | some u=>exact PySem.W.mg_of X G e⟩
theorem aL{P:Program}{w:World}{K:PySem.W.Frag}{mg:Str→Option Value}{base:Heap}{x:Str}{st:Stmt}{N ps:List Str}{k:Nat}{sp:Sp}(M:Md K mg)(F:FF K x st)(S:FnScope N ps (aw st))(hbind:∀(kV doc pm:Value) (an:Option Addr) (cdv ct:Value) (us:List Value),us.length=ps.length→bindArgs (PySem.W.fnOf x x (cy st) (bC st) (aw st) .none kV doc pm an cdv ct) ⟨us,[]⟩=pure (ps.zip us))(len:∀vs H Q E,sp vs H Q E→vs.length=ps.length)(hbody:∀(f:Addr) (cdv:Value) (A:Around) (outer:List Env) (s:Shared) (H:Hp) (vs:List V) (Q:VK) (E:XK),Room k (A.deeper (envOfC x (aw st) s.heap.objs.size f cdv))→sp vs H Q E→∃t,PSs (bZ ai P w K mg base N x (aw st) f cdv A outer s H E).nox (bC st) t∧t {nx:=fun _ H'=>Q .non H',rt:=Q} (cw N vs) H):Fn P w K mg base ai x (k+1) ps sp:=by
 obtain⟨f,oc,od,an,osl,kV,doc,pm,cdv,ct,a,l,c,kk⟩:=F.ex
 have F1:=kz (st:=st) l c kk
 exact⟨f,_,F1.ok S len (fun cdv A outer s H vs Q E hr h=>hbody f cdv A outer s H vs Q E hr h),M.ns _ _ a,kk,F1.binds hbind,oc,od,osl,l⟩
theorem bO{CX:bi}{P:Program}{w:World}{K:PySem.W.Frag}{mg:Str→Option Value}{base:Heap}{x:Str}{st:Stmt}{N ps:List Str}{k:Nat}{sp:Sp}(M:Md K mg)(F:FF K x st)(S:FnScope N ps (aw st))(hbind:∀(kV doc pm:Value) (an:Option Addr) (cdv ct:Value) (us:List Value),us.length=ps.length→bindArgs (PySem.W.fnOf x x (cy st) (bC st) (aw st) .none kV doc pm an cdv ct) ⟨us,[]⟩=pure (ps.zip us))(len:∀vs H Q E,sp vs H Q E→vs.length=ps.length)(hbody:∀(f:Addr) (cdv:Value) (A:Around) (outer:List Env) (s:Shared) (H:Hp) (vs:List V) (Q:VK) (E:XK),Room k (A.deeper (envOfC x (aw st) s.heap.objs.size f cdv))→sp vs H Q E→∃t,PSs (bZ CX P w K mg base N x (aw st) f cdv A outer s H E) (bC st) t∧t {nx:=fun _ H'=>Q .non H',rt:=Q} (cw N vs) H):Fn P w K mg base CX x (k+1) ps sp:=by
 obtain⟨f,oc,od,an,osl,kV,doc,pm,cdv,ct,a,l,c,kk⟩:=F.ex
 have F1:=kz (st:=st) l c kk
 exact⟨f,_,i7 l c S len (fun A outer s H vs Q E hr h=>hbody f cdv A outer s H vs Q E hr h),M.ns _ _ a,kk,F1.binds hbind,oc,od,osl,l⟩
theorem rR{P:Program}{w:World}{K:PySem.W.Frag}{mg:Str→Option Value}{st:Stmt}{fa:Addr}{k:Nat}{sp:Sp}{CX:bi}(M:Md K mg)(F:FF K "law" st)(hfa:mg "law"=some (.ref fa))(hb:∀(kV doc pm:Value) (an:Option Addr) (cdv ct:Value) (s:Shared) (v:Value),BindsTo s (PySem.W.fnOf "law" "law" (cy st) (bC st) (aw st) .none kV doc pm an cdv ct) ⟨[v],[]⟩ [("script",v)])(h:∀base:Heap,Fn P w K mg base CX "law" k ["script"] sp):∃fd:FuncData,(∀(s:Shared) (v:Value),BindsTo s fd ⟨[v],[]⟩ [("script",v)])∧∀base:Heap,K.In base→base.Ns mainGlobals mg→FnOk P w K mg base CX k fa fd ["script"] sp:=by
 obtain⟨f,oc,od,an,osl,kV,doc,pm,cdv,ct,a,l,c,kk⟩:=F.ex
 have e:=hfa.symm.trans (M.ns _ _ a)
 cases e
 refine⟨_,hb kV doc pm an cdv ct,fun base _ _=>?_⟩
 obtain⟨f',fd',F',hm',_,_,oc',od',osl',l'⟩:=(h base).ex
 have e:=hm'.symm.trans (M.ns _ _ a)
 cases e
 rw[l] at l'
 cases l'
 exact F'
structure Bl(mg:Str→Option Value):Prop where
 max:mg "max"=none
 int:mg "int"=none
 len:mg "len"=none
 range:mg "range"=none
 list:mg "list"=none
 isinst:mg "isinstance"=none
 bool:mg "bool"=none
 str:mg "str"=none
 tuple:mg "tuple"=none
 rev:mg "reversed"=none
 zip:mg "zip"=none
 min:mg "min"=none
 sum:mg "sum"=none
 enumerate:mg "enumerate"=none
 dict:mg "dict"=none
theorem bl_of{K:PySem.W.Frag}{mg:Str→Option Value}(M:Md K mg)(b1:PySem.W.nsIn K mainGlobals "max"=some none)(b2:PySem.W.nsIn K mainGlobals "int"=some none)(b3:PySem.W.nsIn K mainGlobals "len"=some none)(b4:PySem.W.nsIn K mainGlobals "range"=some none)(b5:PySem.W.nsIn K mainGlobals "list"=some none)(b6:PySem.W.nsIn K mainGlobals "isinstance"=some none)(b7:PySem.W.nsIn K mainGlobals "bool"=some none)(b8:PySem.W.nsIn K mainGlobals "str"=some none)(b9:PySem.W.nsIn K mainGlobals "tuple"=some none)(b10:PySem.W.nsIn K mainGlobals "reversed"=some none)(b11:PySem.W.nsIn K mainGlobals "zip"=some none)(b12:PySem.W.nsIn K mainGlobals "min"=some none)(b13:PySem.W.nsIn K mainGlobals "sum"=some none)(b14:PySem.W.nsIn K mainGlobals "enumerate"=some none)(b15:PySem.W.nsIn K mainGlobals "dict"=some none):Bl mg:=
 ⟨M.ns _ _ b1,M.ns _ _ b2,M.ns _ _ b3,M.ns _ _ b4,M.ns _ _ b5,M.ns _ _ b6,M.ns _ _ b7,M.ns _ _ b8,M.ns _ _ b9,M.ns _ _ b10,M.ns _ _ b11,M.ns _ _ b12,M.ns _ _ b13,M.ns _ _ b14,M.ns _ _ b15⟩
def Keep(p:Addr)(H H':Hp):Prop:=∀b o,H b=some o→b≠p→H' b=some o
theorem Keep.trans{p:Addr}{H H1 H2:Hp}(a:Keep p H H1)(b:Keep p H1 H2):Keep p H H2:=fun c o h n=>b c o (a c o h n) n
theorem Same.keep{p:Addr}{H H':Hp}(a:Same H H'):Keep p H H':=fun c o h _=>a c o h
theorem Keep.upd{p:Addr}{H:Hp}{o:HO}:Keep p H (upd H p o):=fun c u h n=>by rw[ap n];exact h
theorem Same.upd{H:Hp}{p:Addr}{o:HO}(h:H p=none):Same H (upd H p o):=fun c u e=>by rw[ap (aW e h)];exact e
theorem Keep.free{p:Addr}{H H':Hp}(a:Keep p H H'){o:HO}(hp:H' p=some o){l:Addr}(h:H' l=none):H l=none:=by
 cases q:H l with
 | none=>rfl
 | some u=>
   have:l≠p:=fun z=>by subst z;rw[hp] at h;cases h
   rw[a l u q this] at h;cases h
theorem jo:bootBuiltins "max"=some (.builtin "max"):=by decide+kernel
theorem ki:bootBuiltins "min"=some (.builtin "min"):=by decide+kernel
theorem jh:bootBuiltins "len"=some (.builtin "len"):=by decide+kernel
theorem fe:bootBuiltins "isinstance"=some (.builtin "isinstance"):=by decide+kernel
theorem pf:bootBuiltins "int"=some (.type "int"):=by decide+kernel
theorem lP:bootBuiltins "str"=some (.type "str"):=by decide+kernel
theorem lX:bootBuiltins "list"=some (.type "list"):=by decide+kernel
theorem pd:bootBuiltins "tuple"=some (.type "tuple"):=by decide+kernel
section
variable{X:Cx}{e e2:Expr}{te te2:TE}{p p2 pos:Pos}
theorem PE.imp{t t':TE}(h:PE X e t)(i:∀σ H Q,t' σ H Q→t σ H Q):PE X e t':=fun pins s σ H Q I q=>h pins s σ H Q I (i σ H Q q)
def ku(K:PySem.W.Frag)(te:TE):TE:=fun σ H Q=>te σ H fun x H1=>∃a ys,x=.ref a∧SqL K H1 a ys∧Q (.int ys.length) H1
def qw(te:TE):TE:=fun σ H Q=>te σ H fun x H1=>∃z,x=.str z∧z.length≤sizeLine∧Q (.int z.length) H1
def pV(te te2:TE):TE:=fun σ H Q=>te σ H fun x H1=>te2 σ H1 fun y H2=>∃i j,x=.int i∧y=.int j∧Q (.int (if j>i then j else i)) H2
def m5(te:TE):TE:=fun σ H Q=>te σ H fun x H1=>∃k,x=.bl k∧Q (.int (if k then 1 else 0)) H1
def se(K:PySem.W.Frag)(te:TE):TE:=fun σ H Q=>te σ H fun x H1=>∃a ys,x=.ref a∧SqL K H1 a ys∧∀l,H1 l=none→Q (.ref l) (upd H1 l (.lst ys))
def rA(K:PySem.W.Frag)(c:String)(te:TE):TE:=fun σ H Q=>te σ H fun x H1=>∃t b,TyOf K H1 x t∧PySem.W.kitOne K t (.type c)=some b∧Q (.bl b) H1
def r1(r:V→Hp→VK→Prop):List V→Hp→VK→Prop:=fun xs H Q=>match xs with | [x]=>r x H Q | _=>False
def dE(r:V→V→Hp→VK→Prop):List V→Hp→VK→Prop:=fun xs H Q=>match xs with | [x,y]=>r x y H Q | _=>False
theorem dc{f:Value}{r:V→Hp→VK→Prop}(h:∀pins s σ H x us Q,Inv X pins σ H s→Vals [x] us→r x H Q→wpAny (model X.prog X.w) X.A (call f us) (EP X pins σ Q) X.xe s):bU X f (r1 r):=by
 intro pins s σ H xs us Q I rv q
 match xs,q with
 | [x],q=>exact h pins s σ H x us Q I rv q
theorem d6{f:Value}{r:V→V→Hp→VK→Prop}(h:∀pins s σ H x y us Q,Inv X pins σ H s→Vals [x,y] us→r x y H Q→wpAny (model X.prog X.w) X.A (call f us) (EP X pins σ Q) X.xe s):bU X f (dE r):=by
 intro pins s σ H xs us Q I rv q
 match xs,q with
 | [x,y],q=>exact h pins s σ H x y us Q I rv q
theorem aB(hm:X.mg "len"=none)(ha:PE X e te)(hg:Gl X "len":=by rfl)(he:starEach [e] X.env=[(false,eval e X.env)]:=by rfl):PE X (.Call (.Name "len" p) [e] [] pos) (ku X.K te):=
 cz (r:=r1 fun x H Q=>∃a ys,x=.ref a∧SqL X.K H a ys∧Q (.int ys.length) H) (dc fun pins s σ H x us Q I rv ⟨a,ys,ex,h,q⟩=>pA pins s σ H _ us Q I rv ⟨a,ys,by rw[ex],.inl h,q⟩) hg hm jh (aa ha ac (by exact he)) (he:=by exact he)
theorem fD(hm:X.mg "len"=none)(ha:PE X e te)(hg:Gl X "len":=by rfl)(he:starEach [e] X.env=[(false,eval e X.env)]:=by rfl):PE X (.Call (.Name "len" p) [e] [] pos) (qw te):=
 cz (r:=r1 fun x H Q=>∃z,x=.str z∧z.length≤sizeLine∧Q (.int z.length) H) (dc fun pins s σ H x us Q I rv ⟨z,ex,h,q⟩=>mP pins s σ H _ us Q I rv ⟨z,by rw[ex],h,q⟩) hg hm jh (aa ha ac (by exact he)) (he:=by exact he)
theorem kr(hc:X.calm=true)(hm:X.mg "max"=none)(ha:PE X e te)(hb:PE X e2 te2)(hg:Gl X "max":=by rfl)(he:starEach [e,e2] X.env=[(false,eval e X.env),(false,eval e2 X.env)]:=by rfl)(he2:starEach [e2] X.env=[(false,eval e2 X.env)]:=by rfl):PE X (.Call (.Name "max" p) [e,e2] [] pos) (pV te te2):=
 cz (r:=dE fun x y H Q=>∃i j,x=.int i∧y=.int j∧Q (.int (if j>i then j else i)) H) (d6 fun pins s σ H x y us Q I rv ⟨i,j,ex,ey,q⟩=>qv hc pins s σ H _ us Q I rv ⟨i,j,by rw[ex,ey],q⟩) hg hm jo (aa ha (aa hb ac (by exact he2)) (by rw[he,he2])) (he:=by rw[he,he2]) (hpl:=by rw[he2];rfl)
theorem pj(hm:X.mg "int"=none)(ha:PE X e te)(hg:Gl X "int":=by rfl)(he:starEach [e] X.env=[(false,eval e X.env)]:=by rfl):PE X (.Call (.Name "int" p) [e] [] pos) (m5 te):=
 fC (r:=r1 fun x H Q=>∃k,x=.bl k∧Q (.int (if k then 1 else 0)) H) (dc fun pins s σ H x us Q I rv ⟨z,ex,q⟩=>rk pins s σ H _ us Q I rv (.inr ⟨z,by rw[ex],q⟩)) hg hm pf (aa ha ac (by exact he)) (he:=by exact he)
theorem eH(hm:X.mg "list"=none)(ha:PE X e te)(hg:Gl X "list":=by rfl)(he:starEach [e] X.env=[(false,eval e X.env)]:=by rfl):PE X (.Call (.Name "list" p) [e] [] pos) (se X.K te):=
 fC (r:=r1 fun x H Q=>∃a ys,x=.ref a∧SqL X.K H a ys∧∀l,H l=none→Q (.ref l) (upd H l (.lst ys))) (dc fun pins s σ H x us Q I rv ⟨a,ys,ex,h,q⟩=>j8 pins s σ H _ us Q I rv ⟨a,ys,by rw[ex],.inl h,q⟩) hg hm lX (aa ha ac (by exact he)) (he:=by exact he)
theorem mi{T:Str}{c:String}(hm:X.mg "isinstance"=none)(hT:X.mg T=none)(hb:bootBuiltins T=some (.type c))(ha:PE X e te)(hg:Gl X "isinstance":=by rfl)(hgT:Gl X T:=by rfl)(he:starEach [e,.Name T p2] X.env=[(false,eval e X.env),(false,eval (.Name T p2) X.env)]:=by rfl)
 (hn:T≠"__name__":=by decide)(hd:(T == ("__debug__":Str))=false:=by decide):PE X (.Call (.Name "isinstance" p) [e,.Name T p2] [] pos) (rA X.K c te):=
 cz (r:=dE fun x y H Q=>∃t b,y=.ty c∧TyOf X.K H x t∧PySem.W.kitOne X.K t (.type c)=some b∧Q (.bl b) H)
  (d6 fun pins s σ H x y us Q I rv ⟨t,b,ey,ty,ek,q⟩=>nw pins s σ H _ us Q I rv ⟨x,t,c,b,by rw[ey],ty,ek,q⟩) hg hm fe
  (aa ha (aa (jK (v:=.ty c) hgT hT hb rfl hn hd) ac) (by exact he)) (he:=by exact he) |>.imp fun σ H Q h=>by
   show te σ H fun x H1=>∃t b,V.ty c=.ty c∧_
   simp only[true_and]
   exact h
end
theorem fR(n d:Nat)(i:Int)(h:0≤i):HT.sIx n d (some i)=min i.toNat n:=by
 show(if i<0 then(i+(n:Int)).toNat else min i.toNat n)=min i.toNat n
 rw[if_neg (by lia)]
theorem nM{α:Type}(xs:List α)(k:Nat):xs.take (min k xs.length)=xs.take k:=by
 rcases Nat.le_total k xs.length with h | h
 ·rw[Nat.min_eq_left h]
 ·rw[Nat.min_eq_right h,List.take_length,List.take_of_length_le h]
theorem ji{α:Type}(xs:List α)(k:Nat):xs.drop (min k xs.length)=xs.drop k:=by
 rcases Nat.le_total k xs.length with h | h
 ·rw[Nat.min_eq_left h]
 ·rw[Nat.min_eq_right h,List.drop_length,List.drop_of_length_le h]
def cq{α:Type}(xs:List α)(lo hi:Option Int):List α:=(xs.drop (HT.sIx xs.length 0 lo)).take (HT.sIx xs.length xs.length hi-HT.sIx xs.length 0 lo)
theorem lH{α:Type}(xs:List α)(k:Int)(h:0≤k):cq xs none (some k)=xs.take k.toNat:=by
 unfold cq
 rw[fR _ _ _ h,HT.sIx_none,List.drop_zero,Nat.sub_zero,nM]
theorem nK{α:Type}(xs:List α)(k:Int)(h:0≤k):cq xs (some k) none=xs.drop k.toNat:=by
 unfold cq
 rw[fR _ _ _ h,HT.sIx_none,ji]
 exact List.take_of_length_le (by rw[List.length_drop];lia)
theorem gg{α:Type}(xs:List α)(i j:Int)(hi:0≤i)(hj:i≤j):cq xs (some i) (some j)=(xs.drop i.toNat).take (j.toNat-i.toNat):=by
 unfold cq
 rw[fR _ _ _ hi,fR _ _ _ (Int.le_trans hi hj),ji]
 rcases Nat.le_total j.toNat xs.length with h | h
 ·rw[Nat.min_eq_left h,Nat.min_eq_left (by lia)]
 ·rw[Nat.min_eq_right h]
  rcases Nat.le_total i.toNat xs.length with h' | h'
  ·rw[Nat.min_eq_left h',List.take_of_length_le (by rw[List.length_drop];lia),List.take_of_length_le (by rw[List.length_drop];lia)]
  ·rw[List.drop_of_length_le h'];simp
theorem dD{α β:Type}(f:α→β)(xs:List α)(lo hi:Option Int):cq (xs.map f) lo hi=(cq xs lo hi).map f:=by
 unfold cq
 rw[List.length_map,List.map_take,List.map_drop]
theorem dk(xs:List V)(lo hi:Option Int):cg xs lo hi=cq xs lo hi:=rfl
theorem cU{α:Type}(xs:List α)(r:Int)(h0:0≤r)(h1:r<xs.length):∃v,xs[r.toNat]?=some v∧v∈xs∧bF xs r=some v:=by
 have hl:r.toNat<xs.length:=by lia
 refine⟨xs[r.toNat],by simp[hl],List.getElem_mem hl,?_⟩
 have e:((r.toNat:Nat):Int)=r:=by lia
 have q:bF xs ((r.toNat:Nat):Int)=some xs[r.toNat]:=bD (by simp[hl])
 rw[e] at q
 exact q
theorem pB(cs:List Nat):(Str.length ⟨cs.toArray⟩)=cs.length:=by simp[Str.length]
theorem ju{σ:St}{H:Hp}{A B:Hp→Prop}(h:A H):kZ σ H fun b H2=>if b=true then A H2 else B H2:=by
 show if true=true then A H else B H
 rw[if_pos rfl]
 exact h
theorem la{K:PySem.W.Frag}{H:Hp}:DatVs K H [] []:=by rw[DatVs]
theorem iC{K:PySem.W.Frag}{H:Hp}{d:PyData}{ds:List PyData}{v:V}{vs:List V}(h:DatV K H d v)(g:DatVs K H ds vs):DatVs K H (d::ds) (v::vs):=by
 rw[DatVs];exact⟨v,vs,rfl,h,g⟩
theorem eV{K:PySem.W.Frag}{H:Hp}{p:Addr}{ds:List PyData}{vs:List V}(h:SqL K H p vs)(g:DatVs K H ds vs):DatV K H (.list ds) (.ref p):=by
 rw[DatV];exact⟨p,vs,rfl,h,g⟩
theorem rE{K:PySem.W.Frag}{H:Hp}(x:Str)(h:PyData.strOk x=true):DatV K H (.str x) (.str x):=by rw[DatV];exact⟨rfl,h⟩
section
variable{X:Cx}{a b e:Expr}{aJ:List Expr}{ta tb te:TE}{p pos:Pos}
def iS(K:PySem.W.Frag)(ta tb:TE):TE:=fun σ H Q=>ta σ H fun x H1=>∃k,mm K x H1 k∧if k=true then Q x H1 else tb σ H1 Q
theorem kL(ha:PE X a ta)(hb:PE X (.BoolOp .Or (b::aJ) pos) tb):PE X (.BoolOp .Or (a::b::aJ) pos) (iS X.K ta tb):=by
 intro pins s σ H Q I h
 refine BoolOp_or (ao (ha pins s σ H _ I h) fun v s1 ⟨x,H1,I1,r1,q1⟩=>?_)
 obtain⟨k,tk,q1⟩:=q1
 refine ao (ou pins s1 σ H1 x v (fun k' H'=>k'=k∧H'=H1) I1 r1 ⟨k,tk,rfl,rfl⟩) fun k' s2 ⟨H2,I2,e1,e2⟩=>?_
 subst e1 e2
 cases k' with
 | false=>exact hb pins s2 σ H2 Q I2 (by rw[if_neg Bool.false_ne_true] at q1;exact q1)
 | true=>exact⟨x,H2,I2,r1,by rw[if_pos rfl] at q1;exact q1⟩
end
def FW(J:It)(g:TG)(tb:TS)(D:Ends)(σ:St)(H1:Hp):Prop:=∃W:Nat→Nat→St→Hp→Prop,(∃m,W 0 m σ H1)∧∀i m σ H,W i m σ H→
 (J.stop i H∧D.nx σ H)∨(J.go i H∧∃N:St→Hp→Prop,(∀σ' H',N σ' H'→∃m',m'<m∧W (i+1) m' σ' H')∧∀x H',J.yld i H x H'→g x σ H' fun σ2 H2=>tb {D with nx:=N,ct:=N,bk:=D.nx} σ2 H2)
theorem fN{wi:TI}{g:TG}{tb aJ:TS}{D:Ends}{σ:St}{H:Hp}(h:wi σ H fun J H1=>FW J g tb {D with nx:=aJ D} σ H1):cJ (jH wi g tb) aJ D σ H:=h
def p0(i j:Int):Prop:=0<j∧j<1000000000000000000000000000000000000000000000000000000000000
theorem kU{X:Cx}:OpR X (binaryOp .FloorDiv) (rI p0 fun i j=>.int (i / j)):=gh fun i j _ _ _ _ _ hc q=>by
 have hn:j.natAbs.log2<9000:=by
  have h0:j.natAbs≠0:=by have:=hc.1;lia
  rw[Nat.log2_lt h0]
  have h1:j.natAbs<1000000000000000000000000000000000000000000000000000000000000:=by have:=hc.1;have:=hc.2;lia
  exact Nat.lt_of_lt_of_le h1 (Nat.le_trans (show 1000000000000000000000000000000000000000000000000000000000000≤2 ^ 200 by decide) (Nat.pow_le_pow_right (by decide) (by decide)))
 refine floordiv_int (by have:=hc.1;lia) ?_ (.inl (PyProof.noPylong_of_log2 hn))
 rw[Int.fdiv_eq_ediv_of_nonneg _ (by have:=hc.1;lia)]
 exact q
theorem Inv.turnLaid{X:Cx}{pins:List (Addr×Obj)}{σ:St}{H:Hp}{s:Shared}{h':Heap}{t':Nat}{ch:List Addr}{a:Addr}{o:HO}(I:Inv X pins σ H s)(hch:∀b∈ch,ci X pins H b)(k:∀b u,b∉ch→s.heap.get? b=some u→h'.get? b=some u)(hp:s.heap.objs.size≤a)(new:ObjOk X.prog X.w (upd H a o) h' a o):Inv X pins σ (upd H a o) {s with heap:=h',toks:=t'}:=by
 have hn:=I.hok.fresh hp
 have nch:∀b u,H b=some u→b∉ch:=fun b u e hb=>by rw[(hch b hb).1] at e;cases e
 refine I.step (g':=s.gens) (d':=s.drawn) (ch:=ch) (fun b hb=>?_) (fun b o _ _ hc e _=>k b o hc e) (fun b o _ _ hc e _=>⟨o.slots,k b o hc e⟩) (fun b o hc e n=>?_) (fun b o hc e=>⟨o,k b o hc e⟩) (fun b xs e=>?_) (fun b o u e=>?_) (fun b ps e=>⟨#[],?_⟩) (fun m hm=>?_) (fun b u e=>?_) I.bare
 ·obtain⟨f0,f1,f2,f3,f4,f5⟩:=hch b hb
  exact⟨f3,f1,f4,f5⟩
 ·rw[ap (Nat.ne_of_lt (Nat.lt_of_lt_of_le (Heap.lt_size e) hp))];exact n
 ·rw[ap (aW e hn)];exact e
 ·rw[ap (aW e hn)];exact e
 ·rw[ap (aW e hn),e];simp
 ·obtain⟨o,es,ep,ho,r⟩:=hm
  exact⟨o,es,ep,k _ o (fun hb=>(hch _ hb).2.1 rfl) ho,r⟩
 ·by_cases hb:b=a
  ·subst hb;rw[af] at e;cases e;exact new
  ·rw[ap hb] at e
   refine(I.hok b u e).stay (fun c v hc q=>k c v ?_ q) (fun c q=>by rw[ap (aW q hn)];exact q) fun c xs q=>by rw[ap (aW q hn)];exact q
   rcases hc with z | z
   ·rw[z];exact nch b u e
   ·exact nch c _ z
theorem eU{n:Nat}(h:n≤5000):n<sizeLine:=Nat.lt_of_le_of_lt h (by decide)
section
variable{X:Cx}{e e2:Expr}{te te2:TE}{p p2 pos:Pos}
def nc(te te2:TE):TE:=fun σ H Q=>te σ H fun x H1=>te2 σ H1 fun y H2=>∃i j,x=.int i∧y=.int j∧Q (.int (if j<i then j else i)) H2
theorem jk(hc:X.calm=true)(hm:X.mg "min"=none)(ha:PE X e te)(hb:PE X e2 te2)(hg:Gl X "min":=by rfl)(he:starEach [e,e2] X.env=[(false,eval e X.env),(false,eval e2 X.env)]:=by rfl)(he2:starEach [e2] X.env=[(false,eval e2 X.env)]:=by rfl):PE X (.Call (.Name "min" p) [e,e2] [] pos) (nc te te2):=
 cz (r:=dE fun x y H Q=>∃i j,x=.int i∧y=.int j∧Q (.int (if j<i then j else i)) H) (d6 fun pins s σ H x y us Q I rv ⟨i,j,ex,ey,q⟩=>nQ hc pins s σ H _ us Q I rv ⟨i,j,by rw[ex,ey],q⟩) hg hm ki (aa ha (aa hb ac (by exact he2)) (by rw[he,he2])) (he:=by rw[he,he2]) (hpl:=by rw[he2];rfl)
end
def dg:List Expr→Option (List Int)
 | []=>some []
 | .Constant (.int k) _ _::r=>(dg r).map (k:: ·)
 | _=>none
def nJ(ks:List Int):TA:=fun _ H Q=>Q (ks.map V.int) H
theorem iI{X:Cx}:∀{es:List Expr} {ks:List Int},dg es=some ks→PA X es (nJ ks)
 | [],ks,h=>by
   have:ks=[]:=(Option.some.inj h).symm
   subst this
   exact ac
 | .Constant (.int k) j p::r,ks,h=>by
   cases e:dg r with
   | none=>rw[show dg (.Constant (.int k) j p::r)=(dg r).map (k:: ·) from rfl,e] at h;cases h
   | some ls=>
     rw[show dg (.Constant (.int k) j p::r)=(dg r).map (k:: ·) from rfl,e] at h
     have:ks=k::ls:=(Option.some.inj h).symm
     subst this
     exact aa ad (iI e)
section
variable{X:Cx}
variable{e:Expr}{te:TE}{p pos:Pos}
def mR(K:PySem.W.Frag)(te:TE):TE:=fun σ H Q=>te σ H fun x H1=>∃a ys,x=.ref a∧SqT K H1 a ys∧∀l,H1 l=none→Q (.ref l) (upd H1 l (.lst ys))
theorem lL(hm:X.mg "list"=none)(ha:PE X e te)(hg:Gl X "list":=by rfl)(he:starEach [e] X.env=[(false,eval e X.env)]:=by rfl):PE X (.Call (.Name "list" p) [e] [] pos) (mR X.K te):=
 fC (r:=r1 fun x H Q=>∃a ys,x=.ref a∧SqT X.K H a ys∧∀l,H l=none→Q (.ref l) (upd H l (.lst ys))) (dc fun pins s σ H x us Q I rv ⟨a,ys,ex,h,q⟩=>j8 pins s σ H _ us Q I rv ⟨a,ys,by rw[ex],.inr h,q⟩) hg hm lX (aa ha ac (by exact he)) (he:=by exact he)
end
section
variable{X:Cx}{e:Expr}{te:TE}{p pos:Pos}
end
structure CompOK2(outer sc:Scope)(xs:List Str)(M N:List Str):Prop where
 kind:sc.kind=.function
 nocell:∀y∈sc.names,y.2≠ .cell
 loc:∀y∈sc.names,y.2=.local→sc.names.lookup y.1=some .local
 own:∀x∈xs,sc.names.lookup x=some .local
 free:∀y∈sc.names,y.2=.free→(outer.names.lookup y.1=some .cell∨outer.names.lookup y.1=some .free)
 nd:(M++xs).Nodup
 len:M.length=N.length
 same:∀p∈M.zip N,p.1=p.2∨sc.names.lookup p.1=none
 noloc:∀y∈M,sc.names.lookup y≠some .local
section
variable{X:Cx}{pins:List (Addr×Obj)}{σ:St}{H2:Hp}{s2:Shared}{scope:Scope}{xs M:List Str}{cl:List (Str×Addr)}{fp:List Addr}{h1:Heap}{t':Nat}
end
inductive TyB (H:Hp):V→Value→Prop where
 | non:TyB H .non (.type "NoneType")
 | bl (x:Bool):TyB H (.bl x) (.type "bool")
 | int (i:Int):TyB H (.int i) (.type "int")
 | str (x:Str):TyB H (.str x) (.type "str")
 | lst {a:Addr} {xs:List V} (e:H a=some (.lst xs)):TyB H (.ref a) (.type "list")
 | tup {a:Addr} {xs:List V} (e:H a=some (.tup xs)):TyB H (.ref a) (.type "tuple")
section
variable{X:Cx}{e:Expr}{te:TE}{p pos:Pos}
end
def aq(P:Program)(w:World):bi:=fun outer H s E e s'=>
 ∃ (a:Addr) (cls a0:Value) (B:Heap) (H':Hp),e=.ref a∧s'.os=s.os∧AllBare s'.gens∧Un (aH outer) [] H H' s.heap s'.heap∧HOk P w H' s'.heap∧H' a=none∧s.heap.get? a=none∧
   Heap.FlyingW B outer a cls a0 s'.heap∧(∀b o,s'.heap.get? b=some o→b∉aH outer→(s.heap.get? b≠none∨H' b≠none)→B.get? b=some o)∧E cls none H'
theorem jq{h h' base base':Heap}:∀{l:List Env},(∀L∈aH l,base'.get? L=none∧∀o,h.get? L=some o→(∀vs,o.data≠ .fields vs)→∃o',h'.get? L=some o'∧o'.data=o.data)→h.FunFrames base l→h'.FunFrames base' l
 | [],_,_=>trivial
 | env::r,k,⟨h1,⟨L,o,h2,h3,h4,h5⟩,h6⟩=>by
   have hL:L∈aH (env::r):=List.mem_filterMap.mpr ⟨env,List.mem_cons_self,h2⟩
   obtain⟨k1,k2⟩:=k L hL
   obtain⟨o',e1,e2⟩:=k2 o h4 h5
   refine⟨h1,⟨L,o',h2,k1,e1,fun vs=>by rw[e2];exact h5 vs⟩,jq (fun L' hL'=>k L' ?_) h6⟩
   obtain⟨en,e3,e4⟩:=List.mem_filterMap.mp hL'
   exact List.mem_filterMap.mpr ⟨en,List.mem_cons_of_mem _ e3,e4⟩
theorem fM{h base:Heap}:∀{l:List Env},h.FunFrames base l→∀L∈aH l,∃o,h.get? L=some o∧∀vs,o.data≠ .fields vs
 | [],_,L,hL=>by cases hL
 | env::r,⟨h1,⟨L',o,h2,h3,h4,h5⟩,h6⟩,L,hL=>by
   obtain⟨en,e3,e4⟩:=List.mem_filterMap.mp hL
   rcases List.mem_cons.mp e3 with z | z
   ·subst z
    have:L=L':=Option.some.inj (e4.symm.trans h2)
    subst this
    exact⟨o,h4,h5⟩
   ·exact fM h6 L (List.mem_filterMap.mpr ⟨en,z,e4⟩)
theorem ObjOk.isAt{P:Program}{w:World}{H:Hp}{h:Heap}{a:Addr}{o:HO}(x:ObjOk P w H h a o):∃ob,h.get? a=some ob:=by
 cases o with
 | lst xs=>obtain⟨_,_,_,_,q⟩:=x;exact⟨_,q⟩
 | tup xs=>obtain⟨_,_,_,ob,q,_⟩:=x;exact⟨_,q⟩
 | dK kvs=>obtain⟨_,_,_,_,ob,_,_,q,_⟩:=x;exact⟨_,q⟩
 | dT kvs=>obtain⟨_,_,_,_,ob,_,_,q,_⟩:=x;exact⟨_,q⟩
 | set S n=>obtain⟨ob,_,_,_,q,_⟩:=x;exact⟨_,q⟩
 | ins C dx fs=>obtain⟨_,_,_,q,_⟩:=x;exact⟨_,q⟩
 | own y=>obtain⟨_,q⟩:=x;exact⟨_,q⟩
 | xd fs=>obtain⟨_,⟨_,_,_,q,_⟩,_⟩:=x;exact⟨_,q⟩
 | rng lo hi=>obtain⟨_,_,_,q⟩:=x;exact⟨_,q⟩
 | frz ob u=>obtain⟨q,_⟩:=x;exact⟨_,q⟩
 | tbl ps=>exact⟨_,(show h.get? a=some _ from x)⟩
 | met f y=>exact⟨_,(show h.get? a=some _ from x)⟩
 | ext φ=>obtain⟨_,⟨_,q⟩,_⟩:=x;exact⟨_,q⟩
theorem jw{P:Program}{w:World}{H:Hp}{h:Heap}(x:HOk P w H h){a:Addr}(e:h.get? a=none):H a=none:=by
 cases q:H a with
 | none=>rfl
 | some o=>
   obtain⟨ob,q'⟩:=(x a o q).isAt
   rw[e] at q';cases q'
section
variable{X:Cx}{pins:List (Addr×Obj)}{σ:St}{H1:Hp}{s1:Shared}
theorem Inv.fsAt(I:Inv X pins σ H1 s1):∀L∈X.fs,∃o,s1.heap.get? L=some o∧(∀vs,o.data≠ .fields vs)∧H1 L=none∧X.base.get? L=none:=fun L hL=>by
 obtain⟨o,h1,h2⟩:=fM I.ok.funs L hL
 have hx:L∉X.ex:=fun z=>I.ok.exfs L z hL
 obtain⟨sl,e⟩:=I.base.slot L o h1 (I.ok.frf L hL) hL hx
 exact⟨_,e,h2,I.base.free L o h1 (I.ok.frf L hL) hx,(I.ok.funs.mem hL).1⟩
theorem sk{A:Around}{outer:List Env}{s:Shared}{H:Hp}{E:XK}{env:Env}{P:Program}{w:World}{e:Addr}{cls:Value}{args:List Value}{h2:Heap}{tk:Nat}(hX:X.A=A.deeper env∧X.env=env∧X.stack=env::outer∧X.outer=outer∧X.s₀=s∧X.H₀=H∧X.ex=[]∧X.prog=P∧X.w=w)(hfr:env.frame=some env.locals)(I:Inv X pins σ H1 s1)(hx:Heap.MadeExcOf s1.heap h2 e cls args)(hE:E cls none H1):wpAny (model P w) (A.deeper env) (leaving env (.ref e)) (fun _ s''=>aq P w outer H s E (.ref e) s'') (fun e' s''=>aq P w outer H s E e' s'') {s1 with heap:=h2,toks:=tk}:=by
 obtain⟨xA,xe,xs,xo,x0,xH,xx,xP,xw⟩:=hX
 subst xe xP xw x0 xH xo
 have hlt:=I.lt
 have hL:∀L∈aH (X.env::X.outer),∃o,s1.heap.get? L=some o∧(∀vs,o.data≠ .fields vs)∧H1 L=none:=fun L hm=>by
  obtain⟨en,e3,e4⟩:=List.mem_filterMap.mp hm
  rcases List.mem_cons.mp e3 with z | z
  ·subst z
   have:L=X.env.locals:=Option.some.inj (e4.symm.trans hfr)
   subst this
   obtain⟨m,hn,_⟩:=I.loc
   obtain⟨o,es,ep,ho,hd,_⟩:=id hn
   exact⟨o,ho,(fun vs q=>by rw[hd] at q;cases q),I.free⟩
  ·obtain⟨o,h1,h2,h3,_⟩:=I.fsAt L (List.mem_filterMap.mpr ⟨en,z,e4⟩)
   exact⟨o,h1,h2,h3⟩
 have cQ:∀b u,H1 b=some u→b∉aH (X.env::X.outer):=fun b u e hm=>by
  obtain⟨_,_,_,h3⟩:=hL b hm
  rw[h3] at e;cases e
 have old:∀b o,X.s₀.heap.get? b=some o→b≠X.env.locals:=fun b o q z=>by
  have:=Nat.lt_of_lt_of_le (Heap.lt_size q) I.ok.above
  rw[z] at this;exact absurd this (Nat.lt_irrefl _)
 have nin:∀b,b≠X.env.locals→b∉aH X.outer→b∉aH (X.env::X.outer):=fun b h1 h2 hm=>by
  obtain⟨en,e3,e4⟩:=List.mem_filterMap.mp hm
  rcases List.mem_cons.mp e3 with z | z
  ·subst z
   exact h1 (Option.some.inj (e4.symm.trans hfr))
  ·exact h2 (List.mem_filterMap.mpr ⟨en,z,e4⟩)
 refine wpAny_leaves_madeW (base:=PySem.W.hideAll s1.heap (aH (X.env::X.outer))) (h:=s1.heap) (by rw[←xA,I.ok.frames,xs]) hfr (fun b o q=>PySem.W.of_hideAll _ q) ?_ hx fun h' t f1 f2 f3 f4=>?_
 ·have F:s1.heap.FunFrames X.base X.outer:=I.funs
  have F':s1.heap.FunFrames (PySem.W.hideAll s1.heap (aH (X.env::X.outer))) X.outer:=jq (fun L hm=>⟨PySem.W.hideAll_none _ (by
   obtain⟨en,e3,e4⟩:=List.mem_filterMap.mp hm
   exact List.mem_filterMap.mpr ⟨en,List.mem_cons_of_mem _ e3,e4⟩),fun o q _=>⟨o,q,rfl⟩⟩) F
  obtain⟨o,ho,hd,_⟩:=hL X.env.locals (List.mem_filterMap.mpr ⟨X.env,List.mem_cons_self,hfr⟩)
  exact⟨by rw[I.ok.kind];decide,⟨X.env.locals,o,hfr,PySem.W.hideAll_none _ (List.mem_filterMap.mpr ⟨X.env,List.mem_cons_self,hfr⟩),ho,hd⟩,F'⟩
 ·have st:∀b o,s1.heap.get? b=some o→b∉aH (X.env::X.outer)→h'.get? b=some o:=fun b o q n=>f1.1 b o (PySem.W.hideAll_get _ q n)
  have sl:∀b o,s1.heap.get? b=some o→(∀vs,o.data≠ .fields vs)→∃z,h'.get? b=some {o with slots:=z}:=fun b o q n=>f4 b o (hx.keeps b o q) n
  have isAt:∀b u,H1 b=some u→∃o,s1.heap.get? b=some o:=fun b u q=>by
   cases q':s1.heap.get? b with
   | some o=>exact⟨o,rfl⟩
   | none=>exact absurd q (by rw[jw I.hok q'];simp)
  have eNew:H1 e=none:=jw I.hok hx.new
  refine⟨e,cls,.ref t,PySem.W.hideAll s1.heap (aH (X.env::X.outer)),H1,rfl,I.os,I.bare,⟨fun b o q n hb _=>?_,fun b o q n hb _=>?_,fun b o q n _=>I.base.free b o q n (by rw[xx];simp),fun b o q _=>?_,I.base.tups,I.base.frzs,I.base.tbls⟩,fun b u q=>?_,eNew,?_,f1,?_,hE⟩
  ·exact st b o (I.base.keep b o q n hb (by rw[xx];simp)) (nin b (old b o q) hb)
  ·obtain⟨z,q'⟩:=I.base.slot b o q n hb (by rw[xx];simp)
   obtain⟨o',q2,q3⟩:=fM I.ok.funs b hb
   rw[q] at q2;cases q2
   obtain⟨z',q4⟩:=sl b _ q' q3
   exact⟨z',q4⟩
  ·obtain⟨o',q'⟩:=I.base.there b o q (by rw[xx];simp)
   by_cases hb:b∈aH X.outer
   ·obtain⟨o2,h1,h2,_⟩:=I.fsAt b hb
    obtain⟨z,q4⟩:=sl b o2 h1 h2
    exact⟨_,q4⟩
   ·exact⟨o',st b o' q' (nin b (old b o q) hb)⟩
  ·refine(I.hok b u q).stay (fun c v hc q'=>st c v q' ?_) (fun _ q'=>q') fun _ _ q'=>q'
   rcases hc with z | z
   ·rw[z];exact cQ b u q
   ·exact cQ c _ z
  ·cases q:X.s₀.heap.get? e with
   | none=>rfl
   | some o=>
     obtain⟨o',q'⟩:=I.base.there e o q (by rw[xx];simp)
     rw[hx.new] at q';cases q'
  ·intro b o q hb hor
   have ex:∃o1,s1.heap.get? b=some o1∧b∉aH (X.env::X.outer):=by
    rcases hor with z | z
    ·cases q0:X.s₀.heap.get? b with
     | none=>exact absurd q0 z
     | some o0=>
       obtain⟨o1,q1⟩:=I.base.there b o0 q0 (by rw[xx];simp)
       exact⟨o1,q1,nin b (old b o0 q0) hb⟩
    ·cases q0:H1 b with
     | none=>exact absurd q0 z
     | some u=>
       obtain⟨o1,q1⟩:=isAt b u q0
       exact⟨o1,q1,cQ b u q0⟩
   obtain⟨o1,q1,nb⟩:=ex
   have:=st b o1 q1 nb
   rw[q] at this;cases this
   exact PySem.W.hideAll_get _ q1 nb
theorem mr{A:Around}{outer:List Env}{s:Shared}{H:Hp}{E E':XK}{env:Env}{P:Program}{w:World}{e:Value}{s':Shared}(hX:X.A=A.deeper env∧X.env=env∧X.stack=env::outer∧X.outer=outer∧X.s₀=s∧X.H₀=H∧X.ex=[]∧X.prog=P∧X.w=w)(hfr:env.frame=some env.locals)(I:Inv X pins σ H1 s1)(hx:aq P w X.stack H1 s1 E' e s')(hE:∀cls H',E' cls none H'→E cls none H'):wpAny (model P w) (A.deeper env) (leaving env e) (fun _ s''=>aq P w outer H s E e s'') (fun e' s''=>aq P w outer H s E e' s'') s':=by
 obtain⟨xA,xe,xs,xo,x0,xH,xx,xP,xw⟩:=hX
 subst xe xP xw x0 xH xo
 rw[xs] at hx
 obtain⟨a,cls,a0,B,H',rfl,os,gb,un,hok,ha,hn,fl,hB,he⟩:=hx
 have hL0:X.env.locals∈aH (X.env::X.outer):=List.mem_filterMap.mpr ⟨X.env,List.mem_cons_self,hfr⟩
 have sub:∀b,b∈aH X.outer→b∈aH (X.env::X.outer):=fun b hm=>by
  obtain⟨en,e3,e4⟩:=List.mem_filterMap.mp hm
  exact List.mem_filterMap.mpr ⟨en,List.mem_cons_of_mem _ e3,e4⟩
 have nin:∀b,b≠X.env.locals→b∉aH X.outer→b∉aH (X.env::X.outer):=fun b h1 h2 hm=>by
  obtain⟨en,e3,e4⟩:=List.mem_filterMap.mp hm
  rcases List.mem_cons.mp e3 with z | z
  ·subst z
   exact h1 (Option.some.inj (e4.symm.trans hfr))
  ·exact h2 (List.mem_filterMap.mpr ⟨en,z,e4⟩)
 have old:∀b o,X.s₀.heap.get? b=some o→b≠X.env.locals:=fun b o q z=>by
  have:=Nat.lt_of_lt_of_le (Heap.lt_size q) I.ok.above
  rw[z] at this;exact absurd this (Nat.lt_irrefl _)
 have frn:∀b,b∈aH (X.env::X.outer)→H1 b=none∧H' b=none∧∃o,s1.heap.get? b=some o∧∀vs,o.data≠ .fields vs:=fun b hm=>by
  have h1:∃o,s1.heap.get? b=some o∧(∀vs,o.data≠ .fields vs)∧H1 b=none:=by
   obtain⟨en,e3,e4⟩:=List.mem_filterMap.mp hm
   rcases List.mem_cons.mp e3 with z | z
   ·subst z
    have:b=X.env.locals:=Option.some.inj (e4.symm.trans hfr)
    subst this
    obtain⟨m,hn',_⟩:=I.loc
    obtain⟨o,es,ep,ho,hd,_⟩:=id hn'
    exact⟨o,ho,(fun vs q=>by rw[hd] at q;cases q),I.free⟩
   ·obtain⟨o,h1,h2,h3,_⟩:=I.fsAt b (List.mem_filterMap.mpr ⟨en,z,e4⟩)
    exact⟨o,h1,h2,h3⟩
  obtain⟨o,h2,h3,h4⟩:=h1
  exact⟨h4,un.free b o h2 h4 (by simp),o,h2,h3⟩
 refine wpAny_leaves_onW (base:=B) (by rw[←xA,I.ok.frames,xs]) hfr fl fun h' f1 f4=>?_
 have st:∀b o,s'.heap.get? b=some o→b∉aH (X.env::X.outer)→(s1.heap.get? b≠none∨H' b≠none)→h'.get? b=some o:=fun b o q n z=>f1.1 b o (hB b o q n z)
 refine⟨a,cls,a0,B,H',rfl,os.trans I.os,gb,⟨fun b o q n hb _=>?_,fun b o q n hb _=>?_,fun b o q n _=>?_,fun b o q _=>?_,fun b xs' q=>un.tups b xs' (I.base.tups b xs' q),fun b o u q=>un.frzs b o u (I.base.frzs b o u q),fun b ps q=>?_⟩,fun b u q=>?_,ha,?_,f1,?_,hE _ _ he⟩
 ·have q1:=I.base.keep b o q n hb (by rw[xx];simp)
  have n1:=I.base.free b o q n (by rw[xx];simp)
  have nb:=nin b (old b o q) hb
  have q2:=un.keep b o q1 n1 nb (by simp)
  exact st b o q2 nb (.inl (by rw[q1];simp))
 ·obtain⟨z1,q1⟩:=I.base.slot b o q n hb (by rw[xx];simp)
  have n1:=I.base.free b o q n (by rw[xx];simp)
  obtain⟨z2,q2⟩:=un.slot b _ q1 n1 (sub b hb) (by simp)
  obtain⟨o',q3,q4⟩:=fM I.ok.funs b hb
  rw[q] at q3;cases q3
  obtain⟨z3,q5⟩:=f4 b _ q2 q4
  exact⟨z3,q5⟩
 ·exact un.free b _ (I.base.there b o q (by rw[xx];simp)).choose_spec (I.base.free b o q n (by rw[xx];simp)) (by simp)
 ·obtain⟨o1,q1⟩:=I.base.there b o q (by rw[xx];simp)
  obtain⟨o2,q2⟩:=un.there b o1 q1 (by simp)
  by_cases hb:b∈aH X.outer
  ·obtain⟨n1,n2,o3,q3,q4⟩:=frn b (sub b hb)
   obtain⟨z2,q5⟩:=un.slot b o3 q3 n1 (sub b hb) (by simp)
   obtain⟨z3,q6⟩:=f4 b _ q5 q4
   exact⟨_,q6⟩
  ·exact⟨o2,st b o2 q2 (nin b (old b o q) hb) (.inl (by rw[q1];simp))⟩
 ·obtain⟨m1,q1⟩:=I.base.tbls b ps q
  obtain⟨m2,q2⟩:=un.tbls b _ q1
  exact⟨m1++m2,by rw[q2,Array.append_assoc]⟩
 ·refine(hok b u q).stay (fun c v hc q'=>st c v q' ?_ (.inr ?_)) (fun _ q'=>q') fun _ _ q'=>q'
  ·intro hm
   rcases hc with z | z
   ·rw[z] at hm;rw[(frn b hm).2.1] at q;cases q
   ·rw[(frn c hm).2.1] at z;cases z
  ·rcases hc with z | z
   ·rw[z,q];simp
   ·rw[z];simp
 ·cases q:X.s₀.heap.get? a with
  | none=>rfl
  | some o=>
    obtain⟨o',q'⟩:=I.base.there a o q (by rw[xx];simp)
    rw[hn] at q';cases q'
 ·intro b o q hb hor
  have ex:∃o2,s'.heap.get? b=some o2∧b∉aH (X.env::X.outer)∧(s1.heap.get? b≠none∨H' b≠none):=by
   rcases hor with z | z
   ·cases q0:X.s₀.heap.get? b with
    | none=>exact absurd q0 z
    | some o0=>
      obtain⟨o1,q1⟩:=I.base.there b o0 q0 (by rw[xx];simp)
      obtain⟨o2,q2⟩:=un.there b o1 q1 (by simp)
      exact⟨o2,q2,nin b (old b o0 q0) hb,.inl (by rw[q1];simp)⟩
   ·cases q0:H' b with
    | none=>exact absurd q0 z
    | some u=>
      obtain⟨o2,q2⟩:=(hok b u q0).isAt
      exact⟨o2,q2,(fun hm=>by rw[(frn b hm).2.1] at q0;cases q0),.inr (by simp)⟩
  obtain⟨o2,q2,nb,hor'⟩:=ex
  have:=st b o2 q2 nb hor'
  rw[q] at this;cases this
  exact hB b _ q2 nb hor'
end
abbrev eA:List Value:=[.type "ValueError",.type "Exception",.type "BaseException",.type "object"]
structure Exc(K:PySem.W.Frag)(mg:Str→Option Value)(x:Str)(C:Addr):Prop where
 bound:mg x=some (.ref C)
 isIn:PySem.W.excIn K C eA "ValueError.__new__"=true
theorem qD{K:PySem.W.Frag}{C:Addr}(q:PySem.W.excIn K C eA "ValueError.__new__"=true)(h:Heap)(X:K.In h):∃bm N nm qn bs hdct sn sub ab col dd k0 k1 k2 k3 k5 mN,h.get? C=some (excClassObj nm qn C N bs bm hdct sn sub ab col dd k0 k1 k2 k3 k5 "ValueError.__new__")∧h.Ns N mN∧mN "__init__"=none∧OwnTail h eA bm:=by
 unfold PySem.W.excIn at q
 split at q
 case h_2=>cases q
 case h_1 dd cd sl ho=>
  split at q
  case h_2=>cases q
  case h_1 C' bm k0 k1 k2 k3 n k5 hm hs=>
   simp only[Bool.and_eq_true,beq_iff_eq,Bool.not_eq_true'] at q
   obtain⟨⟨⟨⟨⟨e1,e2⟩,hdel⟩,ht⟩,hok⟩,hni⟩:=q
   subst e1 e2
   obtain⟨nm,bs,mro,nsA,qn,hd,sn,sub,ab,col,del⟩:=cd
   have hm':mro=.ref C'::bm:=hm
   have hdel':del=false:=hdel
   subst hm' hdel'
   have esl:sl=#[k0,k1,k2,k3,some (.builtin "ValueError.__new__"),k5]:=by
    cases sl with
    | mk l=>exact congrArg Array.mk hs
   subst esl
   exact⟨bm,nsA,nm,qn,bs,hd,sn,sub,ab,col,dd,k0,k1,k2,k3,k5,_,X _ _ ho,.of_isNs (PySem.W.isNs_of_in X hok),PySem.W.nsMap_none_of_in X hok hni,PySem.W.tail_of_in X ht⟩
theorem dL{P:Program}{w:World}{K:PySem.W.Frag}{mg:Str→Option Value}{base:Heap}{N:List Str}{qual:Str}{scope:Scope}{f:Addr}{cd:Value}{A:Around}{outer:List Env}{s:Shared}{H:Hp}{E:XK}{x:Str}{C:Addr}{np cpos pos:Pos}{e0:Expr}{te:TE}(O:Exc K mg x C)(he:PE (bZ (aq P w) P w K mg base N qual scope f cd A outer s H E) e0 te)(hg:Gl (bZ (aq P w) P w K mg base N qual scope f cd A outer s H E) x:=by rfl)
 (hst:starEach [e0] (envOfC qual scope s.heap.objs.size f cd)=[(false,eval e0 (envOfC qual scope s.heap.objs.size f cd))]:=by rfl)(hd:(x == ("__debug__":Str))=false:=by decide):
 PS (bZ (aq P w) P w K mg base N qual scope f cd A outer s H E) (.Raise (some (.Call (.Name x np) [e0] [] cpos)) none pos) (fun D σ H1=>te σ H1 fun v H2=>[v].length=1∧E (.ref C) none H2):=by
 intro pins s1 σ H1 D I h
 obtain⟨tl,Nn,nm,q,bs,hdct,sn,sub,ab,col,dd,k0,k1,k2,k3,k5,mN,hC,hN,hni,T⟩:=qD O.isIn base I.ok.mod.kin
 refine wpAny_Raise_call_subT (C:=C) (nm:=nm) (q:=q) (N:=Nn) (bs:=bs) (bm:=tl) (hdct:=hdct) (sn:=sn) (sub:=sub) (ab:=ab) (col:=col) (dd:=dd) (k0:=k0) (k1:=k1) (k2:=k2) (k3:=k3) (k5:=k5) (env:=envOfC qual scope s.heap.objs.size f cd)
  F.excBase_ValueError (mN:=mN) (T.hasType F.excBase_ValueError.hasBase) (I.ok.hd rfl) (by rw[hst];rfl) hni (eZ I hg O.bound ⟨rfl,?_⟩ hd)
 rw[hst]
 refine Calls.evalArgs_plain ?_
 have hp:=(aa he ac (by exact hst)) cpos pins s1 σ H1 (fun vs H2=>vs.length=1∧E (.ref C) none H2) I h
 have hp':wpAny (model P w) (A.deeper (envOfC qual scope s.heap.objs.size f cd)) (spliced (backTo cpos (starEach [e0] (envOfC qual scope s.heap.objs.size f cd)))) _ _ s1:=hp
 rw[hst] at hp'
 refine ao hp' fun us s2 ⟨vs,H2,I2,r2,l2,q2⟩=>?_
 refine⟨rfl,?_,I2.bk _ _ hC,hN.keeps I2.bk,T.keeps I2.bk,fun h' e made=>?_⟩
 ·show us.length≤sizeLine
  rw[←r2.length,l2];decide
 ·exact sk (tk:=s2.toks) (A:=A) (outer:=outer) (s:=s) (H:=H) (E:=E) (env:=envOfC qual scope s.heap.objs.size f cd) ⟨rfl,rfl,rfl,rfl,rfl,rfl,rfl,rfl,rfl⟩ rfl I2 made q2
theorem bv{P:Program}{w:World}{K:PySem.W.Frag}{mg:Str→Option Value}{base:Heap}{N:List Str}{qual:Str}{scope:Scope}{f:Addr}{cd:Value}{A:Around}{outer:List Env}{s:Shared}{H:Hp}{E:XK}:eK (aq P w) (bZ (aq P w) P w K mg base N qual scope f cd A outer s H E) E:=fun pins σ H1 s1 e s' I hx=>
 mr (A:=A) (outer:=outer) (s:=s) (H:=H) (E:=E) (E':=E) (env:=envOfC qual scope s.heap.objs.size f cd) ⟨rfl,rfl,rfl,rfl,rfl,rfl,rfl,rfl,rfl⟩ rfl I hx fun _ _ z=>z
def qa(X:Cx)(pins:List (Addr×Obj))(σ0:St)(E0:XK):Value→Shared→Prop:=fun e s'=>∃H1 s1,Inv X pins σ0 H1 s1∧aq X.prog X.w X.stack H1 s1 E0 e s'
abbrev eO(X:Cx)(pins:List (Addr×Obj))(σ0:St)(E0:XK):Cx:={X with pn:=X.pn++pins,xe:=qa X pins σ0 E0}
abbrev fO(X:Cx)(e:Addr)(xe:Value→Shared→Prop):Cx:={X with A:=X.A.mark (some (.ref e)),calm:=false,xe:=xe}
section
variable{X:Cx}{pins:List (Addr×Obj)}{σ σ0:St}{H H1:Hp}{s s1:Shared}{E0:XK}
theorem Inv.toTry(I:Inv X pins σ H s):Inv (eO X pins σ0 E0) [] σ H s:=
 ⟨⟨I.ok.mod,I.ok.kind,I.ok.glob,I.ok.blt,I.ok.above,I.ok.inj,I.ok.has,I.ok.cab,I.ok.hd,I.ok.frames,I.ok.stk,I.ok.exf,I.ok.bs,I.ok.bsz,I.ok.noex,I.ok.exfs,I.ok.funs,I.ok.frf⟩,I.os,I.bare,I.base,I.loc,I.cell,I.free,I.freeC,fun p hp=>I.pin p (by simpa using hp),I.hok,I.len⟩
theorem Inv.ofTry{pins':List (Addr×Obj)}(I:Inv (eO X pins σ0 E0) pins' σ H s):Inv X pins σ H s:=
 ⟨⟨I.ok.mod,I.ok.kind,I.ok.glob,I.ok.blt,I.ok.above,I.ok.inj,I.ok.has,I.ok.cab,I.ok.hd,I.ok.frames,I.ok.stk,I.ok.exf,I.ok.bs,I.ok.bsz,I.ok.noex,I.ok.exfs,I.ok.funs,I.ok.frf⟩,I.os,I.bare,I.base,I.loc,I.cell,I.free,I.freeC,fun p hp=>I.pin p (List.mem_append_left _ hp),I.hok,I.len⟩
theorem Inv.toSuf{e:Addr}{xe:Value→Shared→Prop}(I:Inv X pins σ H s):Inv (fO X e xe) pins σ H s:=
 ⟨⟨I.ok.mod,I.ok.kind,I.ok.glob,I.ok.blt,I.ok.above,I.ok.inj,I.ok.has,I.ok.cab,(fun q=>by cases q),I.ok.frames,I.ok.stk,I.ok.exf,I.ok.bs,I.ok.bsz,I.ok.noex,I.ok.exfs,I.ok.funs,I.ok.frf⟩,I.os,I.bare,I.base,I.loc,I.cell,I.free,I.freeC,I.pin,I.hok,I.len⟩
theorem Inv.ofSuf{e:Addr}{xe:Value→Shared→Prop}(hd:X.calm=true→X.A.handled=none)(I:Inv (fO X e xe) pins σ H s):Inv X pins σ H s:=
 ⟨⟨I.ok.mod,I.ok.kind,I.ok.glob,I.ok.blt,I.ok.above,I.ok.inj,I.ok.has,I.ok.cab,hd,I.ok.frames,I.ok.stk,I.ok.exf,I.ok.bs,I.ok.bsz,I.ok.noex,I.ok.exfs,I.ok.funs,I.ok.frf⟩,I.os,I.bare,I.base,I.loc,I.cell,I.free,I.freeC,I.pin,I.hok,I.len⟩
def qk(σ0:St)(t:TE):TE:=fun σ H Q=>σ=σ0∧t σ H Q
theorem dj{k j:Nat}{ps:List Str}{sp:Sp}{x:Str}{p pos:Pos}{e:Expr}{es:List Expr}{t:TA}(F:Fn X.prog X.w X.K X.mg X.base (aq X.prog X.w) x k ps sp)(hr:Room j X.A)(ha:PA (eO X pins σ0 E0) (e::es) t)(hg:Gl X x:=by rfl)(hj:k≤j:=by decide)
 (hdb:(x == ("__debug__":Str))=false:=by decide)(he:starEach (e::es) X.env=(false,eval e X.env)::starEach es X.env:=by rfl)(hpl:(backTo pos (starEach es X.env)).any (·.1)=false:=by rfl):
 PE (eO X pins σ0 E0) (.Call (.Name x p) (e::es) [] pos) (qk σ0 (d9 sp [] E0 t)):=by
 obtain⟨f,fd,F,hm,hk,hb,_⟩:=F.ex
 have hr:=hr.mono hj
 intro pins' s σ H Q I h
 obtain⟨rfl,h⟩:=h
 refine wpAny_Call_Name_kw (eZ I hg hm ?_ hdb)
 refine PySem.W.callWith_K (h₀:=X.base) I.ok.mod.kin hk (ao (ha pos pins' s σ H _ I h) fun us s1 ⟨vs,H1,I1,r,q⟩=>⟨I1.kIn,?_⟩) he hpl
 have r2:Vals (vs++[]) (us++[]):=r.append .nil
 have hl:(us++[]).length=ps.length:=by rw[←r2.length];exact F.len _ _ _ _ q
 refine wpAny_call (codeAny_mono (F.run X.A X.stack s1 H1 ⟨us,[]⟩ (us++[]) (vs++[]) Q E0 hr I1.env0 (hb s1 us I1.kIn hl) r2 q) fun r s' hq=>?_)
 cases r with
 | error e=>exact⟨H1,s1,I1.ofTry,hq⟩
 | ok fl=>
   cases fl with
   | ret u=>exact I1.after hq
   | next=>exact False.elim hq
   | brk=>exact False.elim hq
   | cont=>exact False.elim hq
theorem Inv.caught{s':Shared}{H':Hp}{B h5:Heap}(hst:X.stack=X.env::X.outer)(hfr:X.env.frame=some X.env.locals)(I:Inv X pins σ H1 s1)(os:s'.os=s1.os)(gb:AllBare s'.gens)(un:Un (aH X.stack) [] H1 H' s1.heap s'.heap)(hok:HOk X.prog X.w H' s'.heap)(hB:∀b o,s'.heap.get? b=some o→b∉aH X.stack→(s1.heap.get? b≠none∨H' b≠none)→B.get? b=some o)(st5:∀b o,B.get? b=some o→h5.get? b=some o)(up:s'.heap.UpToSlots h5):Inv X pins σ H' {s' with heap:=h5}:=by
 have frn:∀b,b∈aH X.stack→H1 b=none∧H' b=none∧∃o,s1.heap.get? b=some o∧∀vs,o.data≠ .fields vs:=fun b hm=>by
  have h1:∃o,s1.heap.get? b=some o∧(∀vs,o.data≠ .fields vs)∧H1 b=none:=by
   rw[hst] at hm
   obtain⟨en,e3,e4⟩:=List.mem_filterMap.mp hm
   rcases List.mem_cons.mp e3 with z | z
   ·subst z
    have:b=X.env.locals:=Option.some.inj (e4.symm.trans hfr)
    subst this
    obtain⟨m,hn',_⟩:=I.loc
    obtain⟨o,es,ep,ho,hd,_⟩:=id hn'
    exact⟨o,ho,(fun vs q=>by rw[hd] at q;cases q),I.free⟩
   ·obtain⟨o,h1,h2,h3,_⟩:=I.fsAt b (List.mem_filterMap.mpr ⟨en,z,e4⟩)
    exact⟨o,h1,h2,h3⟩
  obtain⟨o,h2,h3,h4⟩:=h1
  exact⟨h4,un.free b o h2 h4 (by simp),o,h2,h3⟩
 have st:∀b o,s'.heap.get? b=some o→b∉aH X.stack→(s1.heap.get? b≠none∨H' b≠none)→h5.get? b=some o:=fun b o q n z=>st5 b o (hB b o q n z)
 refine I.call' (ch:=[]) os ⟨fun b o q n hb hx=>?_,fun b o q n hb hx=>?_,un.free,fun b o q hx=>?_,un.tups,un.frzs,un.tbls⟩ (fun b u q=>?_) gb (by simp)
 ·exact st b o (un.keep b o q n hb hx) hb (.inl (by rw[q];simp))
 ·obtain⟨z,q'⟩:=un.slot b o q n hb hx
  obtain⟨_,_,o2,q2,q3⟩:=frn b hb
  rw[q] at q2;cases q2
  obtain⟨z',q4⟩:=up b _ q' q3
  exact⟨z',q4⟩
 ·by_cases hb:b∈aH X.stack
  ·obtain⟨n1,_,o2,q2,q3⟩:=frn b hb
   rw[q] at q2;cases q2
   obtain⟨z,q'⟩:=un.slot b o q n1 hb hx
   obtain⟨z',q4⟩:=up b _ q' q3
   exact⟨_,q4⟩
  ·obtain⟨o2,q2⟩:=un.there b o q hx
   exact⟨o2,st b o2 q2 hb (.inl (by rw[q];simp))⟩
 ·refine(hok b u q).stay (fun c v hc q'=>st c v q' ?_ (.inr ?_)) (fun _ q'=>q') fun _ _ q'=>q'
  ·intro hm
   rcases hc with z | z
   ·rw[z] at hm;rw[(frn b hm).2.1] at q;cases q
   ·rw[(frn c hm).2.1] at z;cases z
  ·rcases hc with z | z
   ·rw[z,q];simp
   ·rw[z];simp
def bA(e:Addr)(cls:Value):Heap→Prop:=fun h=>∃o,h.get? e=some o∧o.cls=cls
theorem Inv.track{e:Addr}{cls:Value}(I:Inv X pins σ H s)(hn:H e=none)(h0:X.s₀.heap.get? e=none)(hl:e≠X.env.locals)(hc:∀x c,X.env.cells.lookup x=some c→c≠e)(hp:∀p∈X.pn++pins,p.1≠e)(hx:bA e cls s.heap):Inv X pins σ (upd H e (.ext (bA e cls))) s:=by
 have ne:∀{b:Addr} {o:HO},H b=some o→(upd H e (.ext (bA e cls))) b=some o:=fun{b o} q=>by
  rw[ap (fun z=>by rw[z,hn] at q;cases q)];exact q
 have nn:∀{b:Addr},b≠e→H b=none→(upd H e (.ext (bA e cls))) b=none:=fun{b} z q=>by rw[ap z];exact q
 refine⟨I.ok,I.os,I.bare,⟨I.base.keep,I.base.slot,fun b o q n hx=>nn (fun z=>by rw[z,h0] at q;cases q) (I.base.free b o q n hx),I.base.there,fun b xs q=>ne (I.base.tups b xs q),fun b o u q=>ne (I.base.frzs b o u q),fun b ps q=>?_⟩,I.loc,I.cell,nn (Ne.symm hl) I.free,fun x c q=>nn (hc x c q) (I.freeC x c q),fun p q=>?_,fun b u q=>?_,I.len⟩
 ·obtain⟨m,q'⟩:=I.base.tbls b ps q
  exact⟨m,ne q'⟩
 ·obtain⟨a1,a2,a3,a4,a5⟩:=I.pin p q
  exact⟨a1,nn (hp p q) a2,a3,a4,a5⟩
 ·by_cases z:b=e
  ·subst z
   rw[af] at q
   cases q
   refine⟨hx,?_,fun h1 h2 ⟨o,q1,q2⟩ k=>⟨o,k o q1,q2⟩⟩
   obtain⟨o,q,_⟩:=hx
   exact⟨o,q⟩
  ·rw[ap z] at q
   exact(I.hok b u q).stay (fun c v _ q'=>q') (fun c q'=>ne q') fun c xs q'=>ne q'
theorem gi{M:Model}{A:Around}{E:Value→Shared→Prop}{i:Nat}{x:Str}{pos:Pos}{Q:Unit→Shared→Prop}(I:Inv X pins σ H s)(hN:X.N.Nodup)(hi:X.N[i]?=some x)(hk:X.env.kindOf x=some .local)(hlo:dr X.env.scope x)(h:∀s',Inv X pins (σ.set i none) H s'→Q () s'):wpAny M A (do bindName X.env x .none;unbindBehindTheSuite X.env x pos) Q E s:=by
 have hcls:(X.env.scope.kind == .class || (X.env.scope.kind == .module && X.env.locals != X.env.globals))=false:=by rw[I.ok.kind];rfl
 refine wpAny_bind (wpAny_bindName (fH I hN hi hlo (v:=.non) rfl (fun s1 I1=>?_) (.inr hk)))
 unfold unbindBehindTheSuite
 refine wpAny_onRaise ?_
 have hiσ:i<σ.length:=by rw[I.len];exact(List.getElem?_eq_some_iff.mp hi).1
 obtain⟨m,hn,hl⟩:=id I1.loc
 obtain⟨u0,r0,lk⟩:=hl i x .non hi (by rw[List.getElem?_set_self hiσ]) (.inl hk)
 have hv:m x=some u0:=by
  rcases lk with⟨_,e⟩ | ⟨k,_⟩
  ·exact e
  ·rcases k with k | k
   ·have:=hk.symm.trans k;cases this
   ·have:=hk.symm.trans k;cases this
 refine wpAny_unbindName_local hk hn hv hcls fun h' u hn' hs=>?_
 obtain⟨oL,_,_,hoL,_⟩:=id hn
 have cne:=I1.cne
 refine h _ ⟨I1.ok,I1.os,I1.bare,⟨fun b o e n hb hx=>?_,fun b o e n hb hx=>?_,I1.base.free,fun b o e hx=>?_,I1.base.tups,I1.base.frzs,I1.base.tbls⟩,⟨_,hn',fun j y v' e1 e2 e3=>?_⟩,fun y c e=>?_,I1.free,I1.freeC,fun p hp=>?_,fun b ob e=>?_,by simpa using I1.len⟩
 ·exact(hs.2 b (Nat.ne_of_lt (Nat.lt_of_lt_of_le (Heap.lt_size e) I.ok.above))).trans (I1.base.keep b o e n hb hx)
 ·obtain⟨sl,e1⟩:=I1.base.slot b o e n hb hx
  exact⟨sl,(hs.2 b (Nat.ne_of_lt (Nat.lt_of_lt_of_le (Heap.lt_size e) I.ok.above))).trans e1⟩
 ·obtain⟨o',e1⟩:=I1.base.there b o e hx
  exact⟨o',(hs.2 b (Nat.ne_of_lt (Nat.lt_of_lt_of_le (Heap.lt_size e) I.ok.above))).trans e1⟩
 ·by_cases hj:j=i
  ·subst hj
   rw[List.getElem?_set_self hiσ] at e2
   cases e2
  ·rw[List.getElem?_set_ne (Ne.symm hj)] at e2
   obtain⟨u',r',q⟩:=hl j y v' e1 (by rw[List.getElem?_set_ne (Ne.symm hj)];exact e2) e3
   refine⟨u',r',?_⟩
   rcases q with⟨k,e⟩ | ⟨k,c,e,z⟩
   ·refine .inl ⟨k,?_⟩
    have:y≠x:=fun e=>hj (iu hN e1 (e▸hi))
    simp[this,e]
   ·exact .inr ⟨k,c,e,z.sameBut hs (cne y c e)⟩
 ·obtain⟨w',z⟩:=I1.cell y c e
  exact⟨w',z.sameBut hs (cne y c e)⟩
 ·obtain⟨e,n,ne,nf,d⟩:=I1.pin p hp
  exact⟨(hs.2 p.1 ne).trans e,n,ne,nf,d⟩
 ·refine(I1.hok b ob e).stay (fun c w' hc q=>(hs.2 c ?_).trans q) (fun _ q=>q) fun _ _ q=>q
  rintro rfl
  rcases hc with rfl | hc
  ·rw[I1.free] at e;cases e
  ·rw[I1.free] at hc;cases hc
end
def Ends.drop(D:Ends)(i:Nat):Ends:=⟨fun σ H=>D.nx (σ.set i none) H,D.rt,fun σ H=>D.bk (σ.set i none) H,fun σ H=>D.ct (σ.set i none) H⟩
def fS(K:PySem.W.Frag)(C:Addr)(i:Nat)(tb:St→XK→TS)(th:TS):TS:=fun D σ H=>
 tb σ (fun cls _ H'=>PySem.W.exmOne K cls (.ref C)=some true∧∀e,H' e=none→th (D.drop i) (σ.set i (some (.ref e))) (upd H' e (.ext (bA e cls)))) D σ H
theorem qW{X:Cx}{body suite:List Stmt}{b₀:Stmt}{x n:Str}{np hpos pos:Pos}{C:Addr}{i:Nat}{tb:St→XK→TS}{th:TS}(hC:X.mg x=some (.ref C))(hN:X.N.Nodup)(hi:X.N[i]?=some n)(hk:X.env.kindOf n=some .local)(hb:∀pins σ0 E0,PSs (eO X pins σ0 E0) body (tb σ0 E0))(hs:∀e xe,PSs (fO X e xe) (b₀::suite) th)(hlo:dr X.env.scope n:=by first | exact .inl rfl | exact .inr rfl)
 (hst:X.stack=X.env::X.outer:=by rfl)(hex:X.ex=[]:=by rfl)(hfr:X.env.frame=some X.env.locals:=by rfl)(hg:Gl X x:=by rfl)(hd:(x == ("__debug__":Str))=false:=by decide):
 PS X (.Try body [.ExceptHandler (some (.Name x np)) (some n) (b₀::suite) hpos] [] [] pos) (fS X.K C i tb th):=by
 intro pins s σ H D I h
 refine wpAny_Try_except (wpAny_mono (hb pins σ _ [] s σ H D I.toTry h) (fun f s1 q=>?_) fun e s' q=>?_)
 ·cases f with
  | next=>
    obtain⟨σ',H',I',q⟩:=q
    exact wpAny_execs_nil ⟨σ',H',I'.ofTry,q⟩
  | brk=>obtain⟨σ',H',I',q⟩:=q;exact⟨σ',H',I'.ofTry,q⟩
  | cont=>obtain⟨σ',H',I',q⟩:=q;exact⟨σ',H',I'.ofTry,q⟩
  | ret u=>obtain⟨v,σ',H',I',r,q⟩:=q;exact⟨v,σ',H',I'.ofTry,r,q⟩
 ·obtain⟨H1,s1,I1,a,cls,a0,B,H',rfl,os,gb,un,hok,ha,hn,fl,hB,hm,hE⟩:=q
  have fl':Heap.FlyingW B (X.env::X.outer) a cls a0 s'.heap:=by rw[←hst];exact fl
  refine wpAny_looks_onW (base:=B) (by rw[I1.ok.frames,hst]) hfr fl' fun h4 held4 up4=>?_
  refine wpAny_landsW held4 fun h5 fl5 up5=>?_
  have up:=up4.trans up5
  have I5:Inv X pins σ H' {s' with heap:=h5}:=I1.caught hst hfr os gb un hok hB fl5.1 up
  refine wpAny_handleBy_cons (codeAny_handlers_test (eZ (X:=fO X a fun _ _=>False) (I5.toSuf) hg hC ?_ hd)) (by intro q;cases q)
  obtain⟨oe,hoe,hoc⟩:=fl5.there
  have LT:PySem.W.Looks (model X.prog X.w) h5 (typeOf (.ref a)) cls:=by
   rw[←hoc]
   exact(PySem.W.Looks.ld hoe).andThen .now
  refine(PySem.W.exm_one (M:=model X.prog X.w) I5.kIn LT hm).here ?_
  refine codeAny_handlers_suite_as ?_
  refine lands_againW fl5 fun h6 fl6 up6=>?_
  have I6:Inv X pins σ H' {s' with heap:=h6}:=I1.caught hst hfr os gb un hok hB fl6.1 (up.trans up6)
  obtain⟨oe6,hoe6,hoc6⟩:=fl6.there
  have I7:Inv X pins σ (upd H' a (.ext (bA a cls))) {s' with heap:=h6}:=by
   refine I6.track ha ?_ ?_ (fun y c q=>?_) (fun p q=>?_) ⟨oe6,hoe6,hoc6⟩
   ·cases q:X.s₀.heap.get? a with
    | none=>rfl
    | some o=>
      obtain⟨o',q'⟩:=I1.base.there a o q (by rw[hex];simp)
      rw[hn] at q';cases q'
   ·intro z
    obtain⟨m,hnn,_⟩:=I1.loc
    obtain⟨o,_,_,ho,_⟩:=id hnn
    rw[←z,hn] at ho;cases ho
   ·intro z
    obtain⟨w',o,ho,_⟩:=I1.cell y c q
    rw[z,hn] at ho;cases ho
   ·intro z
    have:=(I1.pin p q).1
    rw[z,hn] at this;cases this
  refine fH I7 hN hi hlo (v:=.ref a) rfl (fun s8 I8=>?_) (.inr hk)
  refine wpAny_mono (hs a _ pins s8 _ _ (D.drop i) I8.toSuf (hE a ha)) (fun f s9 q=>?_) (fun _ _ z=>z)
  cases f with
  | next=>
    obtain⟨σ',H9,I9,q⟩:=q
    exact gi (I9.ofSuf I.ok.hd) hN hi hk hlo fun s10 I10=>⟨_,_,I10,q⟩
  | brk=>
    obtain⟨σ',H9,I9,q⟩:=q
    exact gi (I9.ofSuf I.ok.hd) hN hi hk hlo fun s10 I10=>⟨_,_,I10,q⟩
  | cont=>
    obtain⟨σ',H9,I9,q⟩:=q
    exact gi (I9.ofSuf I.ok.hd) hN hi hk hlo fun s10 I10=>⟨_,_,I10,q⟩
  | ret u=>
    obtain⟨v,σ',H9,I9,r,q⟩:=q
    exact gi (I9.ofSuf I.ok.hd) hN hi hk hlo fun s10 I10=>⟨v,_,_,I10,r,q⟩
end L2
namespace PySem.W
open PySem PySem.Spec PySem.Calls PyProof.Rows Builtin Builtin.ObjectAttr Builtin.Getset_descriptor
section
variable{prog:Program}{w:World}{A:Around}{E:Value→Shared→Prop}{K:Frag}{h:Heap}{g:Array GenState}{d:Drawn}{t:Nat}{os:OsState}{a D:Addr}{o:Obj}{R:Result→Shared→Prop}
theorem mK{tp:Value}(X:K.In h)(hx:h.get? a=some o)(hc:o.cls=.ref D)(hm:mroIn K D (.type "object")=some true)(hq:R (.ok (.ret (.ref D))) ⟨h,g,d,t,os⟩):codeAny (model prog w) A (.call (.builtin "getset_descriptor.__get__") ⟨[.builtin "object.__class__",.ref a,tp],[]⟩) R ⟨h,g,d,t,os⟩:=by
 have L0:Looks (model prog w) h (typeOf (.ref a)) (.ref D):=by
  rw[←hc];exact(Looks.ld hx).andThen .now
 have Lm:=looks_mroIn (M:=model prog w) X hm
 refine codeAny_call_builtin KF.slot_gs.plain KF.entry_gs (KF.slot_gs.check _ _ _ _ _ _ _ _ KF.type_class (KF.args_gs _ _ _) ?go)
 case go=>(unfold Builtin.«getset_descriptor.__get__» descrGet;rw[dga_obj];refine wpAny_bind (wpAny_pure ?_);unfold descrGetter descrCheckInstance descrNameAndClass isInstance;simp only[KF.owner_class];(repeat lk);refine⟨Code.quiet_builtin _ (by decide+kernel),codeAny_builtin KF.entry_class ?_⟩;unfold Builtin.«object.__class__» shownTypeOf;(repeat lk);exact hq)
theorem pX{M:Model}{nameV:Value}{Q:Unit→Shared→Prop}(X:K.In h)(hx:h.get? a=some o)(hc:o.cls=.ref D)(hb:mroIn K D (.type "BaseException")=some true)(hq:Q () ⟨h,g,d,t,os⟩):wpAny M A (checkBuiltinCall "BaseException.__getattribute__" ⟨[.ref a,nameV],[]⟩) Q E ⟨h,g,d,t,os⟩:=by
 have bk:builtinKind "BaseException.__getattribute__"=some .slot:=by decide+kernel
 have sp:splitId "BaseException.__getattribute__"=some ("BaseException","__getattribute__"):=by decide+kernel
 have ok:=F.args_bexc_ga (.ref a) nameV
 have L0:Looks M h (typeOf (.ref a)) (.ref D):=by
  rw[←hc];exact(Looks.ld hx).andThen .now
 have L1:=looks_mroIn (M:=M) X hb
 simp only[checkBuiltinCall,bk,sp]
 refine wpAny_bind ?_
 ·unfold isInstance
  repeat (first | with_reducible refine Looks.at (by assumption) ?_ | wp_step)
  exact hq
theorem n4{tk:Tok}{Q:Fin→Shared→Prop}(X:K.In h)(hx:h.get? a=some o)(hc:o.cls=.ref D)(hm:mroIn K D (.type "object")=some true)(hcl:findIn K (.ref D) "__class__"=some (some (.builtin "object.__class__")))(hq:Q (.done (.ret (.ref D))) ⟨h,g,d,t,os⟩):wpAny (model prog w) A (Builtin.«object.__getattribute__» ⟨[.ref a,.str "__class__" tk],[]⟩) Q E ⟨h,g,d,t,os⟩:=
 by
 have L0:Looks (model prog w) h (typeOf (.ref a)) (.ref D):=by
  rw[←hc];exact(Looks.ld hx).andThen .now
 have L1:=looks_findIn (M:=model prog w) X hcl
 have fa:=F.typeOf_object_class;have fb:=F.slot_gs_get.lookup;have fc:=F.slot_gs_set.lookup
 repeat (any_goals (first | assumption | with_reducible refine Looks.at L0 ?_ | with_reducible refine Looks.at L1 ?_ | wp_step))
 refine mK X hx hc hm ?_;repeat (any_goals (first | assumption | wp_step))
theorem oa{Q:Option Value→Shared→Prop}(X:K.In h)(hx:h.get? a=some o)(hc:o.cls=.ref D)(hm:mroIn K D (.type "object")=some true)(hb:mroIn K D (.type "BaseException")=some true)(hga:findIn K (.ref D) "__getattribute__"=some (some (.builtin "BaseException.__getattribute__")))(hgt:findIn K (.ref D) "__getattr__"=some none)(hcl:findIn K (.ref D) "__class__"=some (some (.builtin "object.__class__")))(hq:Q (some (.ref D)) ⟨h,g,d,t+1,os⟩):wpAny (model prog w) A (getAttr? (.ref a) "__class__") Q E ⟨h,g,d,t,os⟩:=by
 have L0:Looks (model prog w) h (typeOf (.ref a)) (.ref D):=by
  rw[←hc];exact(Looks.ld hx).andThen .now
 have La:=looks_findIn (M:=model prog w) X hga
 have Lb:=looks_findIn (M:=model prog w) X hgt
 have f3:=F.excAttr_ValueError.ga.bind (.ref a)
 have nb:(Value.builtin "BaseException.__getattribute__" == Value.builtin "object.__getattribute__")=false:=by decide+kernel
 have nh:(onTheHeap (Value.ref D) && Value.builtin "BaseException.__getattribute__" == Value.builtin "object.__getattribute__")=false:=by rw[nb];rfl
 unfold getAttr? getAttrBy? getAttrBy;refine wpAny_bind (wpAny_mkText (wpAny_bind (wpAny_attempt (wpAny_holding (wpAny_bind (L0.at (wpAny_bind (La.at ?_))))))))
 repeat (any_goals (first | assumption | with_reducible refine Looks.at L0 ?_ | with_reducible refine Looks.at La ?_ | with_reducible refine Looks.at Lb ?_ | wp_step))
 refine codeAny_call_builtin F.excAttr_ValueError.ga.plain F.entry_bexc_ga (pX X hx hc hb (n4 X hx hc hm hcl ?_));repeat (any_goals (first | assumption | wp_step))
def excKit(K:Frag)(D:Addr):Bool:=(clsIn K D).isSome && mroIn K D (.type "object") == some true && mroIn K D (.type "BaseException") == some true && findIn K (.ref D) "__getattribute__" == some (some (.builtin "BaseException.__getattribute__"))
 && findIn K (.ref D) "__getattr__" == some none && findIn K (.ref D) "__class__" == some (some (.builtin "object.__class__"))
theorem kitx_exc{x D:Addr}(e:excKit K D=true):KitX K (.ref x) (.ref D) (fun h=>∃o,h.get? x=some o∧o.cls=.ref D):=by
 simp only[excKit,Bool.and_eq_true,beq_iff_eq] at e
 obtain⟨⟨⟨⟨⟨e0,e1⟩,e2⟩,e3⟩,e4⟩,e5⟩:=e
 obtain⟨cdD,hcD⟩:=Option.isSome_iff_exists.mp e0
 refine⟨fun M h _ ⟨o,h1,h2⟩=>?_,fun _ _ X _=>?_,fun h tp dd its n sl X htp=>?_,fun{prog w A E Q s} X ⟨o,h1,h2⟩ k=>?_⟩
 ·rw[←h2];exact(Looks.ld h1).andThen .now
 ·unfold clsIn at hcD
  split at hcD
  ·rename_i c' d' cd' sl' ho
   exact fun A' Q' E' s' k q=>by unfold isType loadHead;exact wpAny_bind (wpAny_loadPart (k _ _ (X _ _ ho)) (wpAny_pure q))
  ·cases hcD
 ·refine Bool.eq_false_iff.mpr fun q=>?_
  obtain rfl:D=tp:=Value.ref.inj (beq_iff_eq.mp q)
  unfold clsIn at hcD
  split at hcD
  ·rename_i c' d' cd' sl' ho
   cases(X _ _ ho).symm.trans htp
  ·cases hcD
 ·obtain⟨h,g,d,t,os⟩:=s
  exact oa X h1 h2 e1 e2 e3 e4 e5 k
end
end PySem.W
namespace L2
open PySem PySem.Spec PyProof.Rows
theorem kh:∀{cs:List Addr} {us:List Value},Vals (cs.map V.ref) us→us=cs.map Value.ref
 | [],_,h=>by cases h;rfl
 | c::cs,_,h=>by
   cases h with
   | cons r t=>
     cases r
     rw[kh t];rfl
section
variable{X:Cx}{e e2:Expr}{te te2:TE}{p p2 pos:Pos}
def js(K:PySem.W.Frag)(c:Value)(te:TE):TE:=fun σ H Q=>te σ H fun x H1=>∃(a D:Addr) (b:Bool),x=.ref a∧H1 a=some (.ext (bA a (.ref D)))∧PySem.W.excKit K D=true∧PySem.W.kitOne K (.ref D) c=some b∧Q (.bl b) H1
theorem lh{c:Value}{cv:V}(hcv:∀u,RelV cv u→u=c)(pins:List (Addr×Obj))(s:Shared)(σ:St)(H:Hp)(x:V)(us:List Value)(Q:VK)(I:Inv X pins σ H s)(rv:Vals [x,cv] us)(h:∃(a D:Addr) (b:Bool),x=.ref a∧H a=some (.ext (bA a (.ref D)))∧PySem.W.excKit X.K D=true∧PySem.W.kitOne X.K (.ref D) c=some b∧Q (.bl b) H):wpAny (model X.prog X.w) X.A (call (.builtin "isinstance") us) (EP X pins σ Q) X.xe s:=by
 obtain⟨a,D,b,rfl,hH,hk,ek,q⟩:=h
 obtain⟨u,v,rfl,rx,ry⟩:=rv.two
 cases rx
 obtain rfl:=hcv v ry
 obtain⟨hx,_⟩:=(show ObjOk X.prog X.w H s.heap a (.ext (bA a (.ref D))) from I.hok a _ hH)
 have fin:∀tk,EP X pins σ Q (.bool b) {s with toks:=tk}:=fun tk=>⟨.bl b,H,I.kept (h':=s.heap) (t':=tk) fun _ _ q=>q,rfl,q⟩
 exact PySem.W.kia_one (PySem.W.kitx_exc hk) I.kIn hx ek (fun z=>nomatch z) fin
theorem dO{T:Str}{C:Addr}(hm:X.mg "isinstance"=none)(hT:X.mg T=some (.ref C))(ha:PE X e te)(hg:Gl X "isinstance":=by rfl)(hgT:Gl X T:=by rfl)(he:starEach [e,.Name T p2] X.env=[(false,eval e X.env),(false,eval (.Name T p2) X.env)]:=by rfl)
 (hd:(T == ("__debug__":Str))=false:=by decide):PE X (.Call (.Name "isinstance" p) [e,.Name T p2] [] pos) (js X.K (.ref C) te):=
 cz (r:=dE fun x y H Q=>y=.ref C∧∃(a D:Addr) (b:Bool),x=.ref a∧H a=some (.ext (bA a (.ref D)))∧PySem.W.excKit X.K D=true∧PySem.W.kitOne X.K (.ref D) (.ref C)=some b∧Q (.bl b) H)
  (d6 fun pins s σ H x y us Q I rv ⟨ey,h⟩=>by subst ey;exact lh (c:=.ref C) (cv:=.ref C) (fun u r=>r) pins s σ H x us Q I rv h) hg hm fe
  (aa ha (aa (du (v:=.ref C) hgT hT rfl hd) ac) (by exact he)) (he:=by exact he) |>.imp fun σ H Q h=>by
   show te σ H fun x H1=>V.ref C=.ref C∧_
   simp only[true_and]
   exact h
theorem ss{T:Str}{c:String}(hm:X.mg "isinstance"=none)(hT:X.mg T=none)(hb:bootBuiltins T=some (.type c))(ha:PE X e te)(hg:Gl X "isinstance":=by rfl)(hgT:Gl X T:=by rfl)(he:starEach [e,.Name T p2] X.env=[(false,eval e X.env),(false,eval (.Name T p2) X.env)]:=by rfl)
 (hn:T≠"__name__":=by decide)(hd:(T == ("__debug__":Str))=false:=by decide):PE X (.Call (.Name "isinstance" p) [e,.Name T p2] [] pos) (js X.K (.type c) te):=
 cz (r:=dE fun x y H Q=>y=.ty c∧∃(a D:Addr) (b:Bool),x=.ref a∧H a=some (.ext (bA a (.ref D)))∧PySem.W.excKit X.K D=true∧PySem.W.kitOne X.K (.ref D) (.type c)=some b∧Q (.bl b) H)
  (d6 fun pins s σ H x y us Q I rv ⟨ey,h⟩=>by subst ey;exact lh (c:=.type c) (cv:=.ty c) (fun u r=>r) pins s σ H x us Q I rv h) hg hm fe
  (aa ha (aa (jK (v:=.ty c) hgT hT hb rfl hn hd) ac) (by exact he)) (he:=by exact he) |>.imp fun σ H Q h=>by
   show te σ H fun x H1=>V.ty c=.ty c∧_
   simp only[true_and]
   exact h
def oz(K:PySem.W.Frag)(te te2:TE):TE:=fun σ H Q=>te σ H fun x H1=>te2 σ H1 fun y H2=>∃(a D tp:Addr) (cs:List Addr) (b:Bool),x=.ref a∧y=.ref tp∧H2 tp=some (.tup (cs.map V.ref))∧H2 a=some (.ext (bA a (.ref D)))∧PySem.W.excKit K D=true∧PySem.W.kitAny K (.ref D) (cs.map Value.ref)=some b∧Q (.bl b) H2
theorem si(hm:X.mg "isinstance"=none)(ha:PE X e te)(hb:PE X e2 te2)(hg:Gl X "isinstance":=by rfl)(he:starEach [e,e2] X.env=[(false,eval e X.env),(false,eval e2 X.env)]:=by rfl)(he2:starEach [e2] X.env=[(false,eval e2 X.env)]:=by rfl):
 PE X (.Call (.Name "isinstance" p) [e,e2] [] pos) (oz X.K te te2):=
 cz (r:=dE fun x y H Q=>∃(a D tp:Addr) (cs:List Addr) (b:Bool),x=.ref a∧y=.ref tp∧H tp=some (.tup (cs.map V.ref))∧H a=some (.ext (bA a (.ref D)))∧PySem.W.excKit X.K D=true∧PySem.W.kitAny X.K (.ref D) (cs.map Value.ref)=some b∧Q (.bl b) H)
  (d6 fun pins s σ H x y us Q I rv ⟨a,D,tp,cs,b,ex,ey,htp,hH,hk,ek,q⟩=>by
   subst ex ey
   obtain⟨u,v,rfl,rx,ry⟩:=rv.two
   cases rx
   cases ry
   obtain⟨_,its,vr,⟨o,ho,hc,n,hd⟩⟩:=(show ObjOk X.prog X.w H s.heap tp (.tup (cs.map V.ref)) from I.hok tp _ htp)
   have hits:=kh vr
   subst hits
   obtain⟨cl,dd,dt,sl⟩:=o
   have hc':cl=.type "tuple":=hc
   have hd':dt=.seq (cs.map Value.ref).toArray n:=hd
   subst hc' hd'
   obtain⟨hx,_⟩:=(show ObjOk X.prog X.w H s.heap a (.ext (bA a (.ref D))) from I.hok a _ hH)
   exact PySem.W.kia_tup (PySem.W.kitx_exc hk) I.kIn hx ho ek (fun z=>nomatch z) fun tk=>⟨.bl b,H,I.kept (h':=s.heap) (t':=tk) fun _ _ q=>q,rfl,q⟩)
  hg hm fe (aa ha (aa hb ac (by exact he2)) (by rw[he,he2])) (he:=by rw[he,he2]) (hpl:=by rw[he2];rfl)
end
def excFacts(K:PySem.W.Frag)(CE:Addr)(Cs:List Addr):Bool:=
 Cs.all fun D=>PySem.W.exmOne K (.ref D) (.ref CE) == some true && PySem.W.excKit K D && PySem.W.excIn K D eA "ValueError.__new__" && PySem.W.kitOne K (.ref D) (.type "ValueError") == some true && Cs.all fun C=>PySem.W.kitOne K (.ref D) (.ref C) == some (D == C)
structure ExF(K:PySem.W.Frag)(CE D:Addr)(Cs:List Addr):Prop where
 exm:PySem.W.exmOne K (.ref D) (.ref CE)=some true
 kit:PySem.W.excKit K D=true
 isIn:PySem.W.excIn K D eA "ValueError.__new__"=true
 val:PySem.W.kitOne K (.ref D) (.type "ValueError")=some true
 one:∀C∈Cs,PySem.W.kitOne K (.ref D) (.ref C)=some (D == C)
theorem excFacts.of{K:PySem.W.Frag}{CE:Addr}{Cs:List Addr}(h:excFacts K CE Cs=true):∀D∈Cs,ExF K CE D Cs:=fun D hD=>by
 have h1:=List.all_eq_true.mp h D hD
 simp only[Bool.and_eq_true,beq_iff_eq] at h1
 obtain⟨⟨⟨⟨a,b⟩,c⟩,d⟩,e⟩:=h1
 exact⟨a,b,c,d,fun C hC=>beq_iff_eq.mp (List.all_eq_true.mp e C hC)⟩
theorem ExF.any{K:PySem.W.Frag}{CE D:Addr}{Cs:List Addr}(h:ExF K CE D Cs):∀cs:List Addr,(∀c∈cs,c∈Cs)→PySem.W.kitAny K (.ref D) (cs.map Value.ref)=some (cs.any fun c=>D == c)
 | [],_=>rfl
 | c::r,hc=>by
   have h1:=h.one c (hc c List.mem_cons_self)
   have h2:=h.any r fun d hd=>hc d (List.mem_cons_of_mem _ hd)
   rw[List.map_cons,PySem.W.kitAny,h1]
   cases q:D == c with
   | true=>simp[q]
   | false=>simp[q,h2]
section
variable{X:Cx}
theorem iT{xs:List Bool}{its:List Value}(r:Vals (xs.map V.bl) its):its=xs.map Value.bool:=by
 induction xs generalizing its with
 | nil=>cases r;rfl
 | cons b xs ih=>
   cases r with
   | cons r t=>cases r;rw[ih t];rfl
def og:V→List V→Hp→VK→Prop:=fun x vs H Q=>∃(l:Addr) (xs:List Bool) (b:Bool),x=.ref l∧vs=[.bl b]∧H l=some (.lst (xs.map V.bl))∧Q (.int (xs.count b:Nat)) H
theorem rg:fQ X "list.count" og:=by
 intro pins s σ H x vs v us Q I rx rv h
 obtain⟨l,xs,b,rfl,rfl,hH,q⟩:=h
 cases rx
 obtain⟨u,rfl,ru⟩:=rv.one
 cases ru
 obtain⟨z,its,n,r,hl,e⟩:=I.lstM hH
 obtain rfl:=iT r
 refine call_meets F.slot_list_count ⟨_,e,rfl⟩ F.entry_list_count (F.args_list_count_2 _ _) (SeqAt.list_countAt l (xs.map Value.bool).toArray n none #[] (.bool b) (fun y=>match y with | .bool c=>c == b | _=>false)) ⟨e,fun y hy=>?_,?_⟩
 ·have hy':y∈xs.map Value.bool:=by simpa using hy
  obtain⟨c,_,rfl⟩:=List.mem_map.mp hy'
  have:=SeqAt.EqAt.bool_bool (A:=X.A.in1) (s:=s) c b
  cases b <;> cases c <;> exact this
 ·have ec:(xs.map Value.bool).toArray.toList.countP (fun y=>match y with | .bool c=>c == b | _=>false)=xs.count b:=by
   show(xs.map Value.bool).countP _=_
   rw[List.countP_map];rfl
  rw[ec]
  exact⟨.int (xs.count b:Nat),H,I.tok _,⟨_,rfl⟩,q⟩
def sq:V→List V→Hp→VK→Prop:=fun x vs H Q=>∃(l:Addr) (xs:List Bool) (b:Bool) (j:Nat),x=.ref l∧vs=[.bl b]∧H l=some (.lst (xs.map V.bl))∧xs[j]?=some b∧(∀i,i<j→xs[i]?=some (!b))∧Q (.int (j:Int)) H
theorem pZ:fQ X "list.index" sq:=by
 intro pins s σ H x vs v us Q I rx rv h
 obtain⟨l,xs,b,j,rfl,rfl,hH,hj,hb,q⟩:=h
 cases rx
 obtain⟨u,rfl,ru⟩:=rv.one
 cases ru
 obtain⟨z,its,n,r,hl,e⟩:=I.lstM hH
 obtain rfl:=iT r
 have hlen:xs.length≤sizeLine:=by simpa using z
 have hs:=sizeLine_eq
 have hjx:j<xs.length:=(List.getElem?_eq_some_iff.mp hj).1
 have hjl:j<(xs.map Value.bool).toArray.size:=by simpa using hjx
 refine call_meets F.slot_list_index ⟨_,e,rfl⟩ F.entry_list_index (F.args_list_index_2 _ _) (SeqAt.list_indexAt l (xs.map Value.bool).toArray n none #[] (.bool b) (fun y=>match y with | .bool c=>c == b | _=>false) j hjl ?_ ?_ ?_) ⟨e,fun y hy=>?_,?_⟩
 ·lia
 ·have h3:xs[j]=b:=(List.getElem?_eq_some_iff.mp hj).2
  simp[h3]
 ·intro m hm hmj
  have h3:=(List.getElem?_eq_some_iff.mp (hb m hmj)).2
  simp[h3]
 ·have hy':y∈xs.map Value.bool:=by simpa using hy
  obtain⟨c,_,rfl⟩:=List.mem_map.mp hy'
  have:=SeqAt.EqAt.bool_bool (A:=X.A.in1) (s:=s) c b
  cases b <;> cases c <;> exact this
 ·exact⟨.int (j:Int),H,I.tok _,⟨_,rfl⟩,q⟩
end
theorem qm:bootBuiltins "ValueError"=some (.type "ValueError"):=by decide+kernel
section
variable{X:Cx}
end
end L2
namespace PySem.W
open PySem PySem.Spec PySem.Calls PyProof.Rows
section
variable{prog:Program}{w:World}{A:Around}{E:Value→Shared→Prop}{s:Shared}
end
end PySem.W
namespace L2
open PySem PySem.Spec PyProof.Rows
section
variable{X:Cx}{e:Expr}{te:TE}{p pos:Pos}
theorem iz:∀{ns:List Int} {its:List Value},Vals (ns.map V.int) its→IntsAre its ns
 | [],_,h=>by cases h;exact .nil
 | n::ns,_,h=>by
   cases h with
   | cons r t=>obtain⟨u,rfl⟩:=r;exact .cons n u (iz t)
def qX(te:TE):TE:=fun σ H Q=>te σ H fun x H1=>∃(l:Addr) (ns:List Int),x=.ref l∧H1 l=some (.lst (ns.map V.int))∧ns≠ []∧∀m,m∈ns→(∀a,a∈ns→a≤m)→Q (.int m) H1
theorem jn(hc:X.calm=true)(hm:X.mg "max"=none)(ha:PE X e te)(hg:Gl X "max":=by rfl)(he:starEach [e] X.env=[(false,eval e X.env)]:=by rfl):PE X (.Call (.Name "max" p) [e] [] pos) (qX te):=
 cz (r:=r1 fun x H Q=>∃(l:Addr) (ns:List Int),x=.ref l∧H l=some (.lst (ns.map V.int))∧ns≠ []∧∀m,m∈ns→(∀a,a∈ns→a≤m)→Q (.int m) H)
  (dc fun pins s σ H x us Q I rv ⟨l,ns,ex,hH,hne,q⟩=>by
   subst ex
   obtain⟨u,rfl,ru⟩:=rv.one
   cases ru
   obtain⟨z,its,n,r,hl,e1⟩:=I.lstM hH
   have hi:=iz r
   have hL:s.heap.IsList l its.toArray:=⟨_,e1,rfl,n,rfl⟩
   obtain⟨xs,ex⟩:=hi.allInts.items
   have hns:ns=xs.toList.map (·.1):=by rw[←hi.numsOf,←nums_intItems,←ex]
   have hsz:0<xs.size:=by
    cases ns with
    | nil=>exact absurd rfl hne
    | cons _ _=>
      have:=congrArg List.length hns
      simp at this;lia
   rw[ex] at hL
   refine max_intList (I.ok.hd hc) hL hsz fun v h' tk hv hk=>?_
   obtain⟨t,rfl⟩:=intItems_at hv
   obtain⟨h1,h2⟩:=argBest_gt (numAt xs) (xs.size-1)
   refine⟨.int _,H,I.kept (t':=tk) hk,⟨_,rfl⟩,q _ ?_ fun a ha=>?_⟩
   ·rw[hns,numAt_eq];exact getD_mem (by rw[List.length_map,Array.length_toList];lia)
   ·rw[hns] at ha
    obtain⟨j,hj,rfl⟩:=mem_getD ha
    rw[List.length_map,Array.length_toList] at hj
    rw[←numAt_eq];exact h2 j (by lia)) hg hm jo (aa ha ac (by exact he)) (he:=by exact he)
end
section
variable{X:Cx}{e:Expr}{te:TE}{p pos:Pos}
end
section
variable{κ:Type}[DecidableEq κ]
def bI(kvs:List (κ×V))(k:κ):Option V:=(kvs.find? fun kv=>decide (kv.1=k)).map (·.2)
theorem lr{p:κ×V}{r:List (κ×V)}{k:κ}(e:p.1=k):bI (p::r) k=some p.2:=by simp[bI,List.find?_cons,e]
theorem kE{p:κ×V}{r:List (κ×V)}{k:κ}(e:¬p.1=k):bI (p::r) k=bI r k:=by simp[bI,List.find?_cons,e]
end
theorem rM{P:Program}{w:World}{k:ay}{u:Value}(r:RelV (kV k) u):(bG P w).is k u=true:=by
 cases k with
 | inl i=>obtain⟨t,e⟩:=(show∃t,u=Value.int i t from r);subst e;exact pH P w i t
 | inr x=>obtain⟨t,e⟩:=(show∃t,u=Value.str x t from r);subst e;exact rG P w x t
theorem j5{P:Program}{w:World}:∀{ks:List ay} {us:List Value},Vals (ks.map kV) us→ItemsAre (bG P w) ks us
 | [],_,r=>by rw[List.map_nil] at r;cases r;exact .nil
 | k::ks,_,r=>by
   rw[List.map_cons] at r
   cases r with
   | cons h t=>exact .cons (rM h) (j5 t)
abbrev KT(H:Hp):List (List ay×V)→List (List ay×Addr×Value)→Prop:=Paired fun p q=>p.1=q.1∧H q.2.1=some (.tup (p.1.map kV))∧RelV p.2 q.2.2
theorem KT.val{H:Hp}{kvs:List (List ay×V)}{xs:List (List ay×Addr×Value)}(r:KT H kvs xs)(k:List ay):fZ (bI kvs k) ((atKey xs k).map (·.2)):=by
 induction r with
 | nil=>exact True.intro
 | @cons p q ps qs h t ih=>
   obtain⟨h1,_,h2⟩:=h
   by_cases e:p.1=k
   ·have e':q.1=k:=h1.symm.trans e
    have b:atKey (q::qs) k=some q.2:=by simp[atKey,List.find?_cons,e']
    rw[lr e,b];exact h2
   ·have e':¬q.1=k:=fun z=>e (h1.trans z)
    have b:atKey (q::qs) k=atKey qs k:=by simp[atKey,List.find?_cons,e']
    rw[kE e,b];exact ih
theorem KT.keeps{H H':Hp}{kvs:List (List ay×V)}{xs:List (List ay×Addr×Value)}(r:KT H kvs xs)(ht:∀b ys,H b=some (.tup ys)→H' b=some (.tup ys)):KT H' kvs xs:=
 Paired.mapP r fun _ _ z=>⟨z.1,ht _ _ z.2.1,z.2.2⟩
section
variable{P:Program}{w:World}{H:Hp}{h:Heap}{a:Addr}
theorem i0{u:HO}(ok:HOk P w H h)(e:Rd H a u):ObjOk P w H h a u:=e.ok ok
theorem rZ{kvs:List (ay×V)}(ok:HOk P w H h)(e:Rd H a (.dK kvs)):kvs.length≤sizeLine∧(a == sysModules)=false∧∃vs,KV kvs vs∧h.DictOf (bG P w) a vs:=
 show ObjOk P w H h a (.dK kvs) from i0 ok e
theorem kM{ks:List ay}(ok:HOk P w H h)(e:H a=some (.tup (ks.map kV))):(tupleKind (bG P w)).is h ks a:=by
 obtain⟨_,its,r,o,h1,h2,n,h3⟩:=(show ObjOk P w H h a (.tup (ks.map kV)) from ok a _ e)
 exact⟨o,its.toArray,n,h1,h2,h3,by simpa using j5 r⟩
theorem iY{kvs:List (List ay×V)}(ok:HOk P w H h)(e:Rd H a (.dT kvs)):kvs.length≤sizeLine∧(a == sysModules)=false∧∃xs,KT H kvs xs∧h.DictOfH (tupleKind (bG P w)) a xs:=by
 obtain⟨z,y,xs,r,o,es,ep,h1,h2,h3,h4,h5⟩:=(show ObjOk P w H h a (.dT kvs) from i0 ok e)
 refine⟨z,y,xs,r,o,es,ep,h1,h2,h3,h4,fun x hx=>?_,h5⟩
 have all:∀{l:List (List ay×V)} {m:List (List ay×Addr×Value)},KT H l m→∀x∈m,(tupleKind (bG P w)).is h x.1 x.2.1:=by
  intro l m q
  induction q with
  | nil=>intro x hx;exact nomatch hx
  | @cons p q ps qs hq t ih=>
    intro x hx
    rcases List.mem_cons.mp hx with e | hx
    ·subst e
     exact kM ok (by rw[←hq.1];exact hq.2.1)
    ·exact ih x hx
 exact all r x hx
theorem pI{kvs:List (List ay×V)}(ok:HOk P w H h)(e:H a=some (.dT kvs)):kvs.length≤sizeLine∧(a == sysModules)=false∧∃xs,KT H kvs xs∧h.DictOfH (tupleKind (bG P w)) a xs:=iY ok (.inl e)
end
section
variable{X:Cx}{pins:List (Addr×Obj)}{σ:St}{H:Hp}{s:Shared}{a:Addr}{y v:V}{u r:Value}{o:Option V}{A:Around}{E:Value→Shared→Prop}
theorem Inv.big(I:Inv X pins σ H s):sysModules<s.heap.objs.size:=by
 have h:mainGlobals<s.heap.objs.size:=(I.mod.glob.keeps I.bk).lt
 exact Nat.lt_trans (by decide) h
theorem jQ{h':Heap}{t':Nat}{ob:HO}(I:Inv X pins σ H s)(mu:eT (H a))(hs:Heap.SameBut a s.heap h')(he:∃q,h'.get? a=some q)(new:ObjOk X.prog X.w (upd H a ob) h' a ob):Inv X pins σ (upd H a ob) {s with heap:=h',toks:=t'}:=
 I.write (x:=a) (e:=a) mu (.inl rfl) (fun b q hb z=>(hs.2 b hb).trans z) he new
end
section
variable{X:Cx}{pins:List (Addr×Obj)}{σ:St}{H:Hp}{s:Shared}{a:Addr}{kvs:List (ay×V)}{k:ay}{u:Value}{A:Around}{E:Value→Shared→Prop}
end
section
variable{X:Cx}{o i e value:Expr}{pos pos' tpos:Pos}{td ty tv:TE}
end
theorem p3{P:Program}{w:World}{H:Hp}(h:Heap)(hb:sysModules<h.objs.size):ObjOk P w H (h.push {cls:=.type "dict",data:=.dict #[]}) h.objs.size (.dT []):=
 ⟨Nat.zero_le _,beq_eq_false_iff_ne.mpr (Ne.symm (Nat.ne_of_lt hb)),[],.nil,_,#[],0,Heap.get?_push_size _ rfl,⟨rfl,rfl,rfl⟩,rfl,rfl,List.nodup_nil⟩
def pi:TE:=fun _ H Q=>∀p,H p=none→Q (.ref p) (upd H p (.dT []))
section
variable{X:Cx}{pos:Pos}
theorem p6:PE X (.Dict [] [] pos) pi:=fun pins s σ H Q I h=>
 wpAny_Dict_empty ⟨.ref s.heap.objs.size,_,I.laid (a:=s.heap.objs.size) (o:=.dT []) (t':=s.toks) (fun _ _ q=>Heap.get?_push_of_some _ q) (Nat.le_refl _) (p3 s.heap I.big),rfl,h _ (I.hok.fresh (Nat.le_refl _))⟩
end
structure M1(X:Cx)(o:Expr)(m:Str)(apos:Pos)(e:Expr)(cpos:Pos):Prop where
 base:attributeBase o m X.env (eval o X.env)=eval o X.env
 few:((backTo cpos (starEach [e] X.env)).all (fun x=>!x.1) && (backToKw cpos (keywordEach [] X.env)).all (fun x=>x.1.isSome)
  && decide (([e]:List Expr).length+([]:List Keyword).length+(if([]:List Keyword).isEmpty then 0 else 1)<30))=true
 line:(apos.endLine == cpos.line)=true
 trees:backTo cpos (starEach [e] X.env)=[(false,eval e X.env)]
structure M2(X:Cx)(o:Expr)(m:Str)(apos:Pos)(e f:Expr)(cpos:Pos):Prop where
 base:attributeBase o m X.env (eval o X.env)=eval o X.env
 few:((backTo cpos (starEach [e,f] X.env)).all (fun x=>!x.1) && (backToKw cpos (keywordEach [] X.env)).all (fun x=>x.1.isSome)
  && decide (([e,f]:List Expr).length+([]:List Keyword).length+(if([]:List Keyword).isEmpty then 0 else 1)<30))=true
 line:(apos.endLine == cpos.line)=true
 trees:backTo cpos (starEach [e,f] X.env)=[(false,eval e X.env),(false,eval f X.env)]
def jy(H:Hp)(a:Addr):Prop:=(∃kvs,Rd H a (.dK kvs))∨∃kvs,Rd H a (.dT kvs)
theorem mY{X:Cx}{pins:List (Addr×Obj)}{σ:St}{H:Hp}{s:Shared}{a:Addr}(I:Inv X pins σ H s)(d:jy H a):s.TypeIs (.ref a) "dict"∧(∀b,Value.ref a=.ref b→∃ob,s.heap.get? b=some ob∧ob.dict=none)∧(a == sysModules)=false:=by
 rcases d with⟨kvs,e⟩ | ⟨kvs,e⟩
 ·obtain⟨_,hd,vs,_,dd⟩:=rZ I.hok e
  refine⟨dd.typeIs,fun b q=>?_,hd⟩
  cases q
  obtain⟨ob,_,_,h1,h2,_⟩:=dd
  exact⟨ob,h1,h2.2.1⟩
 ·obtain⟨_,hd,xs,_,dd⟩:=iY I.hok e
  refine⟨dd.typeIs,fun b q=>?_,hd⟩
  cases q
  obtain⟨ob,_,_,h1,h2,_⟩:=dd
  exact⟨ob,h1,h2.2.1⟩
section
variable{X:Cx}{pins:List (Addr×Obj)}{σ:St}{H:Hp}{s:Shared}{a:Addr}{y d:V}{u r:Value}{o:Option V}{A:Around}{E:Value→Shared→Prop}
end
section
variable{X:Cx}{o e f:Expr}{apos cpos:Pos}{td ty tx:TE}
end
section
variable{X:Cx}{pins:List (Addr×Obj)}{σ:St}{H:Hp}{s:Shared}{a:Addr}{kvs:List (ay×V)}{A:Around}{E:Value→Shared→Prop}
end
section
variable{X:Cx}{pins:List (Addr×Obj)}{σ:St}{H:Hp}{s:Shared}{a:Addr}{y:V}{u:Value}{A:Around}{E:Value→Shared→Prop}
end
section
variable{X:Cx}
variable{e:Expr}{te:TE}{p pos:Pos}
end
section
variable{prog:Program}{w:World}{κ:Type}[DecidableEq κ]{knd:HeapKind prog w κ}{A:Around}{E:Value→Shared→Prop}{s:Shared}
theorem qL{d c:Addr}{xs:List (κ×Addr×Value)}{k:κ}{v:Value}{R:Value→Shared→Prop}(room:knd.room A)(isk:knd.is s.heap k c)(hm:s.heap.DictOfH knd d xs)(old:∀p,atKey xs k=some p→R p.2 {s with toks:=s.toks+knd.draws k})(new:atKey xs k=none→∀h',h'.DictOfH knd d (xs++[(k,c,v)])→Heap.SameBut d s.heap h'→R v {s with heap:=h',toks:=s.toks+knd.draws k})(few:xs.length≤sizeLine):wpAny (model prog w) A (dictSetDefault d (.ref c) v) R E s:=by
 obtain⟨o,es,ep,ho,hc,hd,he,his,hn⟩:=id hm
 unfold dictSetDefault;try with_reducible refine wpAny_holding ?_
 refine wpAny_bind (knd.pyHash room isk (wpAny_bind (wpAny_dictFind_heap (s:={s with toks:=s.toks+knd.draws k}) room isk ho hd he his hn (fun hno=>?_) fun j p hj=>?_)))
 ·have fresh:=not_mem_keys_of_get hno
  have none:=atKey_none_of_get hno
  refine wpAny_bind (wpAny_rule (wpAny_bind (wpAny_updateDictKeys (hz:=by have e:=size_of_entries he;lia) (s:={s with toks:=s.toks+knd.draws k}) ho hd (wpAny_pure (new none _ ⟨_,_,ep+1,Heap.get?_update_self _ ho (Obj.isFreed_of_dict (Obj.data_mapDictKeys hd _)),hc.mapDictKeys _,Obj.data_mapDictKeys hd _,?_,?_,?_⟩ (Heap.SameBut.update ..))))))
  ·simp[he,entryOfKey]
  ·intro x hx
   rcases List.mem_append.mp hx with hl | hx
   ·exact knd.keeps (his x hl) ho hd (Heap.SameBut.update ..)
   ·rw[List.mem_singleton.mp hx]
    exact knd.keeps isk ho hd (Heap.SameBut.update ..)
  ·rw[List.map_append,List.nodup_append];refine⟨hn,by simp,fun x hx y hy e=>?_⟩
   have hy':y=k:=by simpa using hy
   exact fresh (hy'▸e▸hx)
 ·refine wpAny_bind (wpAny_dictEntries (s:={s with toks:=s.toks+knd.draws k}) ho hd ?_)
  rw[entry_at he j,hj]
  exact wpAny_bind (wpAny_rule (wpAny_pure (old p (atKey_of_get hn hj))))
theorem mF(knd:HeapKind prog w κ)(d c:Addr)(hd:(d == sysModules)=false)(v:Value):MeetsIn prog w (Builtin.«dict.setdefault» ⟨[.ref d,.ref c,v],[]⟩) (fun A R s=>knd.room A.in1∧∃k xs,knd.is s.heap k c∧s.heap.DictOfH knd d xs∧xs.length≤sizeLine∧
 (∀p,atKey xs k=some p→R (.ok (.ret p.2)) {s with toks:=s.toks+knd.draws k})∧
 (atKey xs k=none→∀h',h'.DictOfH knd d (xs++[(k,c,v)])→Heap.SameBut d s.heap h'→R (.ok (.ret v)) {s with heap:=h',toks:=s.toks+knd.draws k})):=
 .of_wp fun A R s ⟨room,k,xs,isk,hm,few,old,new⟩=>by
  unfold Builtin.«dict.setdefault»;refine wpAny_bind ?_
  unfold Builtin.Dict.keyAndDefault;refine wpAny_bind (wpAny_notOrdered_dict hm.typeIs ?_);show wpAny _ _ (pure (d,Value.ref c,some v)) _ _ s
  refine wpAny_pure ?_
  show wpAny _ _ (if(d == sysModules)=true then _ else(dictSetDefault d (.ref c) v >>= _)) _ _ s
  rw[if_neg (by rw[hd];decide)]
  exact wpAny_bind (qL room isk hm (fun p hp=>wpAny_pure ⟨p.2,rfl,old p hp⟩) (fun hn h' hm' sb=>wpAny_pure ⟨v,rfl,new hn h' hm' sb⟩) few)
end
theorem KT.snoc{H:Hp}{kvs:List (List ay×V)}{xs:List (List ay×Addr×Value)}(r:KT H kvs xs){k:List ay}{c:Addr}{y:V}{u:Value}(hc:H c=some (.tup (k.map kV)))(ry:RelV y u):KT H (kvs++[(k,y)]) (xs++[(k,c,u)]):=
 Paired.snoc r ⟨rfl,hc,ry⟩
section
variable{X:Cx}{pins:List (Addr×Obj)}{σ:St}{H:Hp}{s:Shared}{a c:Addr}{kvs:List (List ay×V)}{k:List ay}{v:V}{r:Value}{A:Around}{E:Value→Shared→Prop}
theorem rf{R:Value→Shared→Prop}(room:A.units+1<cLine)(I:Inv X pins σ H s)(e:H a=some (.dT kvs))(ec:H c=some (.tup (k.map kV)))(rv:RelV v r)(few:kvs.length<sizeLine)(old:∀y,bI kvs k=some y→∀u s',Inv X pins σ H s'→RelV y u→R u s')(new:bI kvs k=none→∀s',Inv X pins σ (upd H a (.dT (kvs++[(k,v)]))) s'→R r s'):wpAny (model X.prog X.w) A (call (.builtin "dict.setdefault") [.ref a,.ref c,r]) R E s:=by
 obtain⟨z,hd,xs,rel,dd⟩:=pI I.hok e
 have hl:xs.length=kvs.length:=(Paired.length rel).symm
 have val:=rel.val k
 refine call_meetsIn PySem.F.slot_dict_setdefault dd.typeIs PySem.F.entry_dict_setdefault (PySem.F.args_dict_setdefault_3 _ _ _) (mF (tupleKind (bG X.prog X.w)) a c hd r) ⟨tupleKind_room_in1 room,k,xs,kM I.hok ec,dd,by lia,fun p hp=>?_,fun hn h' dd' sb=>?_⟩
 ·rw[hp] at val
  cases q:bI kvs k with
  | none=>rw[q] at val;exact(show False from val).elim
  | some y=>
    rw[q] at val
    exact old y q _ _ (I.tok _) val
 ·have q:bI kvs k=none:=by
   cases q:bI kvs k with
   | none=>rfl
   | some y=>rw[q,hn] at val;exact(show False from val).elim
  refine new q _ ?_
  obtain⟨ob,es,ep,h1,h2,h3,h4,_,h5⟩:=dd'
  refine jQ I (by rw[e];exact True.intro) sb ⟨ob,h1⟩ ⟨by rw[List.length_append,List.length_singleton];lia,hd,_,(rel.snoc ec rv).keeps fun b ys eb=>?_,ob,es,ep,h1,h2,h3,h4,h5⟩
  rw[ap (cK eb e (fun z=>nomatch z))]
  exact eb
end
def rF(td ty tx:TE):TE:=fun σ H Q=>td σ H fun x H1=>∃a,x=.ref a∧jy H1 a∧ty σ H1 fun y H2=>tx σ H2 fun z H3=>∃c kvs k,y=.ref c∧H3 a=some (.dT kvs)∧H3 c=some (.tup (k.map kV))∧kvs.length<sizeLine∧
 (∀v,bI kvs k=some v→Q v H3)∧(bI kvs k=none→Q z (upd H3 a (.dT (kvs++[(k,z)]))))
theorem nq{X:Cx}{o e f:Expr}{apos cpos:Pos}{td ty tx:TE}(room:X.A.units+1<cLine)(ho:PE X o td)(he:PE X e ty)(hf:PE X f tx)(m:M2 X o "setdefault" apos e f cpos):PE X (.Call (.Attribute o "setdefault" apos) [e,f] [] cpos) (rF td ty tx):=by
 intro pins s σ H Q I h
 refine wpAny_Call_method m.base m.few m.line PySem.F.plainAttrs_dict PySem.F.slot_dict_setdefault PySem.F.type_dict_setdefault (ao (ho pins s σ H _ I h) fun u s1 ⟨x,H1,I1,rx,a,ex,d,q1⟩=>?_)
 subst ex
 obtain rfl:u=Value.ref a:=rx
 obtain⟨t1,t2,_⟩:=mY I1 d
 refine⟨t1,t2,?_⟩
 rw[m.trees]
 refine Calls.callWith_builtin rfl (Calls.evalArgs_plain (Calls.spliced_cons (ao (he pins s1 σ H1 _ I1 q1) fun iv s2 ⟨y,H2,I2,ry,q2⟩=>
  Calls.spliced_cons (ao (hf pins s2 σ H2 _ I2 q2) fun fv s3 ⟨z,H3,I3,rz,c,kvs,k,ey,ea,ec,few,old,new⟩=>Calls.spliced_nil ?_))))
 subst ey
 obtain rfl:iv=Value.ref c:=ry
 exact rf room I3 ea ec rz few (fun v hv u s4 I4 ru=>⟨v,H3,I4,ru,old v hv⟩) fun hn s4 I4=>⟨z,_,I4,rz,new hn⟩
section
variable{X:Cx}{e:Expr}{te:TE}{p pos:Pos}
def nt(K:PySem.W.Frag)(te:TE):TE:=fun σ H Q=>te σ H fun x H1=>∃a ys,x=.ref a∧SqL K H1 a ys∧∀l,H1 l=none→Q (.ref l) (upd H1 l (.tup ys))
theorem mM(hm:X.mg "tuple"=none)(ha:PE X e te)(hg:Gl X "tuple":=by rfl)(he:starEach [e] X.env=[(false,eval e X.env)]:=by rfl):PE X (.Call (.Name "tuple" p) [e] [] pos) (nt X.K te):=
 fC (r:=r1 fun x H Q=>∃a ys,x=.ref a∧SqL X.K H a ys∧∀l,H l=none→Q (.ref l) (upd H l (.tup ys))) (dc fun pins s σ H x us Q I rv ⟨a,ys,ex,h,q⟩=>rS pins s σ H _ us Q I rv ⟨a,ys,by rw[ex],.inl ⟨h,q⟩⟩) hg hm pd (aa ha ac (by exact he)) (he:=by exact he)
end
theorem Inv.still{X:Cx}{pins:List (Addr×Obj)}{σ:St}{H:Hp}{s:Shared}{a:Addr}{kvs:List (List ay×V)}(I:Inv X pins σ H s)(e:H a=some (.dT kvs)):∃o,s.heap.get? a=some o∧Inv X pins σ (upd H a (.frz o (.dT kvs))) s:=by
 obtain⟨z,hd,xs,rel,o,es,ep,h1,h2,h3,h4,h5⟩:=(show ObjOk X.prog X.w H s.heap a (.dT kvs) from I.hok a _ e)
 refine⟨o,h1,jQ (h':=s.heap) (t':=s.toks) I (by rw[e];exact True.intro) ⟨rfl,fun _ _=>rfl⟩ ⟨o,h1⟩ ⟨h1,z,hd,xs,KT.keeps rel fun b ys eb=>?_,o,es,ep,h1,h2,h3,h4,h5⟩⟩
 rw[ap (cK eb e (fun z=>nomatch z))]
 exact eb
section
variable{prog:Program}{w:World}{A:Around}{E:Value→Shared→Prop}{s:Shared}{it d:Addr}{i n ep:Nat}{od:Obj}{es:Array DictEntry}
end
theorem hW{α β:Type}{F:α→β→Prop}:∀{l₁:List α} {l₂:List β} {i:Nat} {x:α},Paired F l₁ l₂→l₁[i]?=some x→∃y,l₂[i]?=some y∧F x y
 | _,_,0,_,.cons r _,h=>⟨_,rfl,by cases h;exact r⟩
 | _,_,i+1,_,.cons _ t,h=>by
   obtain⟨y,e,r⟩:=hW (i:=i) t (by simpa using h)
   exact⟨y,by simpa using e,r⟩
theorem lA{X:Cx}{pins:List (Addr×Obj)}{σ:St}{H:Hp}{s:Shared}{d:Addr}{o:Obj}{kvs:List (List ay×V)}(I:Inv X pins σ H s)(e:H d=some (.frz o (.dT kvs))){es:Array DictEntry}{ep:Nat}(eo:o.data=.dict es ep):s.heap.get? d=some o∧es.size=kvs.length∧∀(i:Nat) (k:List ay) (x:V),kvs[i]?=some (k,x)→∃en:DictEntry,es[i]?=some en∧RelV x en.val:=by
 obtain⟨e1,z,hd,xs,rel,o',es',ep',h1,h2,h3,h4,h5⟩:=(show ObjOk X.prog X.w H s.heap d (.frz o (.dT kvs)) from I.hok d _ e)
 rw[e1] at h1
 cases h1
 rw[eo] at h3
 cases h3
 refine⟨e1,by rw[size_of_entries h4,Paired.length rel],fun i k x hx=>?_⟩
 obtain⟨y,hy,ry⟩:=hW rel hx
 exact⟨_,by rw[entry_at h4 i,hy];rfl,ry.2.2⟩
abbrev TF:=St→Hp→(Hp→Prop)→Prop
def iw(X:Cx)(e:Expr)(t:TF):Prop:=∀(pins:List (Addr×Obj)) (s:Shared) (σ:St) (H:Hp) (Q:Hp→Prop),Inv X pins σ H s→t σ H Q→
 wpAny (model X.prog X.w) X.A (eval e X.env) (fun v s1=>∃y k,v=.str y k∧y.length≤2000∧∃H',Inv X pins σ H' s1∧Q H') X.xe s
def fB(X:Cx)(es:List Expr)(t:TF):Prop:=∀(pins:List (Addr×Obj)) (s:Shared) (σ:St) (H:Hp) (Q:Hp→Prop) (out:Str),out.length+2000*es.length≤16777216→Inv X pins σ H s→t σ H Q→
 wpAny (model X.prog X.w) X.A (joinParts out (evalEach es X.env)) (fun v s1=>∃y k,v=.str y k∧∃H',Inv X pins σ H' s1∧Q H') X.xe s
section
variable{X:Cx}
theorem j6{x:Str}{j:Nat}{pos:Pos}(hl:x.length≤2000):iw X (.Constant (.str x) j pos) (fun _ H Q=>Q H):=fun pins s σ H Q I h=>Calls.Constant_str ⟨x,_,rfl,hl,H,I.tok _,h⟩
theorem oR{e:Expr}{te:TE}{pos:Pos}(he:PE X e te):iw X (.FormattedValue e (-1) none pos) (fun σ H Q=>te σ H fun x H'=>∃i:Int,x=.int i∧i.natAbs.log2<1900∧Q H'):=fun pins s σ H Q I h=>by
 refine FormattedValue_plain (ao (he pins s σ H _ I h) fun v s1 ⟨x,H1,I1,rx,i,ex,hi,q⟩=>?_)
 subst ex
 obtain⟨k,rfl⟩:=rx
 refine formatField_int_small (by lia) ⟨_,_,rfl,?_,H1,?_,q⟩
 ·have:=int_text_length_le (a:=i) (k:=1900) (by decide) hi
  rw[PySem.ofString_length]
  lia
 ·exact I1.kept (h':=s1.heap) (t':=s1.toks+1+1) fun _ _ q=>q
theorem mv:fB X [] (fun _ H Q=>Q H):=fun pins s σ H Q out hl I h=>joinParts_nil ⟨out,_,rfl,H,I.tok _,h⟩ (by show out.length≤2 ^ 24;simp at hl;lia)
theorem iH{e:Expr}{es:List Expr}{t u:TF}(he:iw X e t)(hr:fB X es u)(hs:evalEach (e::es) X.env=eval e X.env::evalEach es X.env:=by rfl):fB X (e::es) (fun σ H Q=>t σ H fun H'=>u σ H' Q):=fun pins s σ H Q out hl I h=>by
 rw[hs]
 refine joinParts_cons (wpAny_mono (he pins s σ H _ I h) (fun v s1 ⟨y,k,ev,hy,H1,I1,q⟩=>?_) fun _ _ z=>z)
 subst ev
 have len:(out++y).length=out.length+y.length:=strLen_append _ _
 have hl':out.length+2000*(es.length+1)≤16777216:=hl
 refine⟨by rw[len];show _≤2 ^ 24;lia,hr pins s1 σ H1 Q (out++y) (by rw[len];lia) I1 q⟩
def pe(t:TF):TE:=fun σ H Q=>t σ H fun H'=>∀z:Str,Q (.str z) H'
theorem nN{e e2:Expr}{es:List Expr}{t:TF}{pos:Pos}(h:fB X (e::e2::es) t)(few:es.length≤100)(hs:evalEach (e::e2::es) X.env=eval e X.env::eval e2 X.env::evalEach es X.env:=by rfl):PE X (.JoinedStr (e::e2::es) pos) (pe t):=fun pins s σ H Q I q=>by
 have:=h pins s σ H _ Str.empty (by show 0+2000*(es.length+2)≤16777216;lia) I q
 rw[hs] at this
 refine JoinedStr_many (wpAny_mono this (fun v s1 ⟨y,k,ev,H1,I1,q1⟩=>?_) fun _ _ z=>z)
 subst ev
 exact⟨.str y,H1,I1,⟨k,rfl⟩,q1 y⟩
end
section
variable{prog:Program}{w:World}{A:Around}{E:Value→Shared→Prop}{s:Shared}{it d:Addr}{i n ep:Nat}{od:Obj}{es:Array DictEntry}
theorem mG(d:Addr)(hd:(d == sysModules)=false):MeetsIn prog w (Builtin.«dict.items» ⟨[.ref d],[]⟩) (fun _ R s=>s.TypeIs (.ref d) "dict"∧R (.ok (.ret (.ref s.heap.objs.size))) ({s with heap:=s.heap.push {cls:=.type "dict_items",data:=.fields #[.ref d]}}:Shared)):=
 .of_wp fun A R s ⟨ty,q⟩=>by
  refine wpAny_bind ?_;unfold Builtin.Dict.noArgs
  refine wpAny_bind (wpAny_notOrdered_dict ty ?_)
  show wpAny _ _ (pure d) _ _ s
  refine wpAny_pure ?_;show wpAny _ _ (Builtin.Dict.showsAll d >>= _) _ _ s
  unfold Builtin.Dict.showsAll;rw[if_neg (by rw[hd];decide)]
  exact wpAny_bind (wpAny_pure (wpAny_bind (wpAny_newObj_type (wpAny_pure ⟨_,rfl,q⟩))))
theorem mZ{v:Addr}{Q:Value→Shared→Prop}(hv:s.heap.IsItemsView v d)(e1:s.heap.get? d=some od)(e2:od.data=.dict es ep)(e3:es.size=n)(q:Q (.ref s.heap.objs.size) {s with heap:=s.heap.push {cls:=.type "dict_itemiterator",data:=.fields #[.none,.bool false,.ref d,.int 0 0,.int n 0,.int ep 0,.none,.none]}}):wpAny (model prog w) A (pyIter (.ref v)) Q E s:=by
 obtain⟨vo,v1,v2,v3⟩:=id hv
 refine wpAny_pyIter_slot hv.typeIs F.slot_dict_items_iter (wpAny_call_entry F.slot_dict_items_iter hv.typeIs F.entry_dict_items_iter ?_ (F.args_dict_items_iter_1 _));unfold Builtin.«dict_items.__iter__»;refine wpAny_bind (wpAny_pure (wpAny_bind ?_))
 unfold Builtin.Dict_items.dictOf;refine wpAny_bind (wpAny_field v1 v3 (x:=.ref d) rfl (wpAny_pure (wpAny_bind ?_)))
 unfold Builtin.Dict_items.newIterator;refine wpAny_bind (wpAny_dictEntries e1 e2 (wpAny_bind (wpAny_dictEpoch e1 e2 ?_)))
 simp only[show Builtin.Dict_items.ownsTuple "dict_itemiterator"=true by decide,if_true]
 refine wpAny_newObj_type (wpAny_pure ⟨_,rfl,"dict_itemiterator",_,⟨_,Heap.get?_push_size _ rfl,rfl⟩,F.slot_dict_itemiterator_next.lookup,?_⟩) (by simp only[sizeOk,Builtin.Dict_items.ownedTupleFields,List.size_toArray,List.length_append,List.length_cons,List.length_nil,sizeLine_eq];lia);simpa [rawInt,e3,Builtin.Dict_items.ownedTupleFields] using q
theorem m3{en:DictEntry}{ok ov:Value}{Q:Option Value→Shared→Prop}(hit:IsItemIter s.heap it d i n ep ok ov)(e1:s.heap.get? d=some od)(e2:od.data=.dict es ep)(e3:es.size=n)(e4:es[i]?=some en)(q:∀h',IsItemIterOut h' it d (i+1) n ep en.key en.val s.heap.objs.size→h'.get? s.heap.objs.size=some {cls:=.type "tuple",data:=.seq #[en.key,en.val]}→(∀b o,b≠it→s.heap.get? b=some o→h'.get? b=some o)→Q (some (.ref s.heap.objs.size)) {s with heap:=h'}):wpAny (model prog w) A (pyNext (.ref it)) Q E s:=by
 obtain⟨hq0,gn,dw,tkk,ost⟩:=s
 obtain⟨lt,eg⟩:=Array.getElem?_eq_some_iff.mp e4
 have tyi:Shared.TypeIs ⟨hq0,gn,dw,tkk,ost⟩ (.ref it) "dict_itemiterator":=⟨_,hit,rfl⟩
 unfold pyNext;refine wpAny_bind (wpAny_attempt (wpAny_callSpecial?_slot (name:=Str.ofString "__next__") tyi F.slot_dict_itemiterator_next (wpAny_call_entry F.slot_dict_itemiterator_next tyi F.entry_dict_itemiterator_next ?_ (F.args_dict_itemiterator_next_1 _))))
 refine wpAny_bind (wpAny_pure (wpAny_bind (wpAny_bind ?_)))
 first | refine wpAny_bind (wpAny_typeNameOfWhole_itemiter tyi (wpAny_pure (wpAny_bind (wpAny_fieldsOf hit rfl ?_)))) | refine wpAny_bind (wpAny_typeNameOf_itemiter tyi (wpAny_pure (wpAny_bind (wpAny_fieldsOf hit rfl ?_))))
 simp only[show Builtin.Dict_items.ownsTuple "dict_itemiterator"=true by decide,if_true]
 show wpAny _ _ (if(Value.ref d == Value.none)=true then _ else _) _ _ _;rw[if_neg (show¬((Value.ref d == Value.none)=true) by exact Bool.false_ne_true)]
 refine wpAny_bind (wpAny_pure (wpAny_bind (wpAny_dictEntries e1 e2 ?_)))
 rw[if_neg (by rw[e3];simp)];refine wpAny_bind (wpAny_pure (wpAny_bind (wpAny_dictEpoch e1 e2 ?_)))
 rw[if_neg (by simp)];refine wpAny_pure ?_
 simp only[show¬((i:Int)<0) by lia,if_false,Int.toNat_natCast,e4]
 refine wpAny_bind ?_
 first | refine wpAny_bind (wpAny_typeNameOfWhole_itemiter tyi (wpAny_pure (wpAny_bind (wpAny_isOneOf_itemiter tyi ?_)))) | refine wpAny_bind (wpAny_typeNameOf_itemiter tyi (wpAny_pure (wpAny_bind (wpAny_isOneOf_itemiter tyi ?_))))
 show wpAny _ _ (setField (.ref it) 3 (rawInt ((i:Int)+1)) >>= _) _ _ ⟨hq0,gn,dw,tkk,ost⟩;refine wpAny_bind (wpAny_setField_rec hit (by simp) fun ga0 gea0 gsa0=>?_)
 replace gsa0:Heap.SameBut it hq0 ga0:=gsa0
 replace gea0:IsItemIter ga0 it d (i+1) n ep ok ov:=by
  have ei:((i+1:Nat):Int)=(i:Int)+1:=by lia
  unfold IsItemIter;rw[ei];simpa [rawInt] using gea0
 have gTa0:Shared.TypeIs ⟨ga0,gn,dw,tkk,ost⟩ (.ref it) "dict_itemiterator":=⟨_,gea0,rfl⟩
 refine wpAny_bind (wpAny_holding (wpAny_bind (wpAny_isOneOf_itemiter gTa0 (wpAny_bind (wpAny_isOneOf_itemiter gTa0 ?_)))))
 show wpAny _ _ (Builtin.Dict_items.pairFromOwner (.ref it) 6 en.key en.val) _ _ ⟨ga0,gn,dw,tkk,ost⟩;unfold Builtin.Dict_items.pairFromOwner
 refine wpAny_bind (wpAny_newTuple (?_))
 have geb0:IsItemIter (ga0.push {cls:=.type "tuple",data:=.seq #[en.key,en.val]}) it d (i+1) n ep ok ov:=Heap.get?_push_of_some _ gea0
 generalize ggb0:ga0.push {cls:=.type "tuple",data:=.seq #[en.key,en.val]}=gb0 at geb0
 have gza0:ga0.objs.size=hq0.objs.size:=gsa0.1
 have nil':hq0.objs.size≠it:=Nat.ne_of_gt (Heap.lt_size hit)
 have gtb0:gb0.get? hq0.objs.size=some {cls:=.type "tuple",data:=.seq #[en.key,en.val]}:=by rw[←ggb0,←gza0];exact Heap.get?_push_size _ rfl
 have gkb0:∀b o,b≠it→hq0.get? b=some o→gb0.get? b=some o:=fun b o hb e=>by rw[←ggb0];exact Heap.get?_push_of_some _ (gsa0.extBut b o hb e)
 show wpAny _ _ (Builtin.Dict_items.ownedTupleIsFree (.ref it) >>= _) _ _ ⟨gb0,gn,dw,tkk,ost⟩;rw[gza0]
 refine wpAny_bind ?_;unfold Builtin.Dict_items.ownedTupleIsFree
 refine wpAny_bind (wpAny_field geb0 rfl (x:=.none) rfl (wpAny_pure ?_));simp only[if_true]
 refine wpAny_bind (wpAny_field geb0 rfl (x:=ok) rfl (wpAny_bind (wpAny_field geb0 rfl (x:=ov) rfl (wpAny_bind (wpAny_setField_rec geb0 (by simp) fun gc0 gec0 gsc0=>?_)))))
 replace gsc0:Heap.SameBut it gb0 gc0:=gsc0
 replace gec0:IsItemIter gc0 it d (i+1) n ep en.key ov:=gec0
 refine wpAny_bind (wpAny_setField_rec gec0 (by simp) fun gd0 ged0 gsd0=>wpAny_bind (wpAny_setField_rec ged0 (by simp) fun ge0 gee0 gse0=>?_))
 replace gsd0:Heap.SameBut it gc0 gd0:=gsd0
 replace gse0:Heap.SameBut it gd0 ge0:=gse0
 replace gee0:IsItemIterOut ge0 it d (i+1) n ep en.key en.val hq0.objs.size:=gee0
 refine wpAny_bind (wpAny_setField_rec gee0 (by simp) fun gf0 gef0 gsf0=>?_)
 replace gsf0:Heap.SameBut it ge0 gf0:=gsf0
 replace gef0:IsItemIterOut gf0 it d (i+1) n ep en.key en.val hq0.objs.size:=gef0
 have kk:∀b o,b≠it→gb0.get? b=some o→gf0.get? b=some o:=fun b o hb e=>gsf0.extBut b o hb (gse0.extBut b o hb (gsd0.extBut b o hb (gsc0.extBut b o hb e)))
 exact wpAny_bind (wpAny_letGo (wpAny_pure (wpAny_pure ⟨_,rfl,wpAny_pure (q gf0 gef0 (kk _ _ nil' gtb0) fun b o hb e=>kk b o hb (gkb0 b o hb e))⟩)))
theorem sF{ok ov:Value}{Q:Option Value→Shared→Prop}(calm:A.handled=none)(hit:IsItemIter s.heap it d i n ep ok ov)(e1:s.heap.get? d=some od)(e2:od.data=.dict es ep)(e3:es.size=n)(e4:n≤i)(q:∀h',Heap.ExtBut it s.heap h'→Q none {s with heap:=h'}):wpAny (model prog w) A (pyNext (.ref it)) Q E s:=by
 have tyi:s.TypeIs (.ref it) "dict_itemiterator":=⟨_,hit,rfl⟩
 unfold pyNext;refine wpAny_bind (wpAny_attempt (wpAny_callSpecial?_slot (name:=Str.ofString "__next__") tyi F.slot_dict_itemiterator_next (wpAny_call_entry F.slot_dict_itemiterator_next tyi F.entry_dict_itemiterator_next ?_ (F.args_dict_itemiterator_next_1 _))))
 refine wpAny_bind (wpAny_pure (wpAny_bind (wpAny_bind ?_)))
 first | refine wpAny_bind (wpAny_typeNameOfWhole_itemiter tyi (wpAny_pure (wpAny_bind (wpAny_fieldsOf hit rfl ?_)))) | refine wpAny_bind (wpAny_typeNameOf_itemiter tyi (wpAny_pure (wpAny_bind (wpAny_fieldsOf hit rfl ?_))))
 simp only[show Builtin.Dict_items.ownsTuple "dict_itemiterator"=true by decide,if_true]
 show wpAny _ _ (if(Value.ref d == Value.none)=true then _ else _) _ _ s;rw[if_neg (show¬((Value.ref d == Value.none)=true) by exact Bool.false_ne_true)]
 refine wpAny_bind (wpAny_pure (wpAny_bind (wpAny_dictEntries e1 e2 ?_)))
 rw[if_neg (by rw[e3];simp)];refine wpAny_bind (wpAny_pure (wpAny_bind (wpAny_dictEpoch e1 e2 ?_)))
 rw[if_neg (by simp)];refine wpAny_pure ?_
 simp only[show¬((i:Int)<0) by lia,if_false,Int.toNat_natCast,Array.getElem?_eq_none (show es.size≤i by lia)]
 refine wpAny_bind ?_
 first | refine wpAny_bind (wpAny_typeNameOfWhole_itemiter tyi (wpAny_pure ?_)) | refine wpAny_bind (wpAny_typeNameOf_itemiter tyi (wpAny_pure ?_))
 show wpAny _ _ (setField (.ref it) 2 .none >>= _) _ _ s;refine wpAny_bind (wpAny_setField hit rfl (by simp) ?_)
 show wpAny _ _ (newExc (.type "StopIteration") [] >>= _) _ _ _;refine wpAny_bind ?_
 simp only[newExc,newTuple];refine wpAny_bind (wpAny_newObj_type ?_ (by size_fits))
 refine wpAny_bind (m:=firstArgMember _ _) (wpAny_of_eq (a:=Value.none) (by first | (simp only[firstArgMember];rfl) | rfl) ?_)
 refine wpAny_newObj_type ?_ (by size_fits);simp only[raiseNew]
 refine wpAny_bind (wpAny_handled ?_);rw[show A.in1.handled=none from calm]
 refine wpAny_bind (wpAny_pure (wpAny_throw ?_));refine wpAny_bind (wpAny_isInstance (T:="StopIteration") (b:=true) ⟨_,Heap.get?_push_size _ rfl,rfl⟩ isSubtype_stop (wpAny_pure ?_))
 exact q _ (((Heap.SameBut.update ..).extBut.push _).push _)
end
def d3(d:Addr)(o:Obj)(kvs:List (List ay×V)):It:=
 ⟨fun i H=>H d=some (.frz o (.dT kvs))∧i<kvs.length,fun i H x H'=>∃k v ka p,kvs[i]?=some (k,v)∧H ka=some (.tup (k.map kV))∧H p=none∧H'=upd H p (.tup [.ref ka,v])∧x=.ref p,fun i H=>H d=some (.frz o (.dT kvs))∧kvs.length≤i⟩
theorem pO{X:Cx}{pins:List (Addr×Obj)}{σ:St}{H:Hp}{s:Shared}{d:Addr}{o:Obj}{kvs:List (List ay×V)}(I:Inv X pins σ H s)(e:H d=some (.frz o (.dT kvs))){es:Array DictEntry}{ep:Nat}(eo:o.data=.dict es ep):∀(i:Nat) (k:List ay) (x:V),kvs[i]?=some (k,x)→∃(en:DictEntry) (ka:Addr),es[i]?=some en∧RelV x en.val∧en.key=.ref ka∧H ka=some (.tup (k.map kV)):=by
 obtain⟨e1,z,hd,xs,rel,o',es',ep',h1,h2,h3,h4,h5⟩:=(show ObjOk X.prog X.w H s.heap d (.frz o (.dT kvs)) from I.hok d _ e)
 rw[e1] at h1
 cases h1
 rw[eo] at h3
 cases h3
 intro i k x hx
 obtain⟨y,hy,ry⟩:=hW rel hx
 exact⟨_,y.2.1,by rw[entry_at h4 i,hy];rfl,ry.2.2,rfl,ry.2.1⟩
theorem p4{P:Program}{w:World}{K:PySem.W.Frag}{els:List Expr}{kk:Nat}{tp:Pos}(d it:Addr)(o:Obj)(kvs:List (List ay×V)){es:Array DictEntry}{ep:Nat}(eo:o.data=.dict es ep):Turn P w K (.Tuple els kk tp) (d3 d o kvs) [it] it (fun i h=>∃ok ov,IsItemIter h it d i kvs.length ep ok ov) where
 mem:=by simp
 obj:=fun i h st b hb=>by
  obtain rfl:b=it:=by simpa using hb
  obtain⟨ok,ov,st⟩:=st
  exact⟨_,st,fun v q=>by have q':Data.fields _=Data.cell v:=q;cases q'⟩
 keep:=fun i h h' st k=>by
  obtain⟨ok,ov,st⟩:=st
  exact⟨ok,ov,k it (by simp) _ st⟩
 item:=by
  intro X hP hw hK hc i pins s σ H E I hf st hg
  subst hP hw hK
  obtain⟨he,hi⟩:=hg
  obtain⟨ok,ov,st⟩:=st
  obtain⟨e1,e3,_⟩:=lA I he eo
  obtain⟨en,ka,e4,ry,ek,hka⟩:=pO I he eo i kvs[i].1 kvs[i].2 (List.getElem?_eq_getElem hi)
  refine m3 st e1 eo e3 e4 fun h' out hnew keep=>⟨_,rfl,?_⟩
  refine wpAny_letOwnedTupleGo_items (s:={s with heap:=h'}) out fun h'' y1 sb=>?_
  have nz:s.heap.objs.size≠it:=Nat.ne_of_gt (Heap.lt_size st)
  have hnew2:=sb.extBut _ _ nz hnew
  have kk:∀c u,c∉ [it]→s.heap.get? c=some u→h''.get? c=some u:=fun c u hc e=>by
   have hc':c≠it:=by simpa using hc
   exact sb.extBut _ _ hc' (keep c u hc' e)
  have I1:Inv X pins σ (upd H s.heap.objs.size (.tup [.ref ka,kvs[i].2])) {s with heap:=h'',toks:=s.toks}:=I.turnLaid hf kk (Nat.le_refl _) ⟨by show 2≤sizeLine;decide,[en.key,en.val],.cons ek (.cons ry .nil),⟨_,hnew2,rfl,_,rfl⟩⟩
  refine⟨.ref s.heap.objs.size,_,I1,rfl,⟨kvs[i].1,kvs[i].2,ka,s.heap.objs.size,List.getElem?_eq_getElem hi,hka,I.hok.fresh (Nat.le_refl _),rfl,rfl⟩,⟨_,_,y1⟩,fun c hc=>?_⟩
  obtain rfl:c=it:=by simpa using hc
  rw[ap (Ne.symm nz)]
  exact(hf _ hc).1
 done:=by
  intro X hP hw hK hc i pins s σ H E I hf st hg
  subst hP hw hK
  obtain⟨he,hi⟩:=hg
  obtain⟨ok,ov,st⟩:=st
  obtain⟨e1,e3,_⟩:=lA I he eo
  obtain⟨f0,f1,f2,f3,f4,f5⟩:=hf it (by simp)
  exact sF (I.ok.hd hc) st e1 eo e3 hi fun h' eb=>⟨rfl,I.turned (t':=s.toks) (fun b ob hb e=>eb b ob hb e) f0 f1 f3 f4 f5⟩
 self:=fun _ _ _ _ _ st h=>by
  obtain⟨ok,ov,st⟩:=st
  exact PySem.W.kcp_self st h
def nj(te:TE):TI:=fun σ H R=>te σ H fun x H1=>∃a kvs,x=.ref a∧H1 a=some (.dT kvs)∧∀o,R (d3 a o kvs) (upd H1 a (.frz o (.dT kvs)))
theorem kA{X:Cx}{els:List Expr}{kk:Nat}{tp:Pos}{e:Expr}{te:TE}{apos cpos:Pos}(he:PE X e te)(hbase:attributeBase e "items" X.env (eval e X.env)=eval e X.env:=by rfl)(hline:(apos.endLine == cpos.line)=true:=by rfl):
 PI X (.Tuple els kk tp) (.Call (.Attribute e "items" apos) [] [] cpos) (nj te):=by
 intro pins s σ H R I h
 refine wpAny_Call_method0_late hbase hline (ao (he pins s σ H _ I h) fun v s1 ⟨x,H1,I1,rx,a,kvs,ex,ha,q⟩=>?_)
 subst ex
 obtain rfl:v=Value.ref a:=rx
 obtain⟨t1,t2⟩:=lI (x:=.ref a) (v:=.ref a) (T:="dict") I1 rfl (.inr (.inr (.inl ⟨rfl,.inr ⟨kvs,ha⟩⟩)))
 obtain⟨z,hd,xs,rel,ob,es,ep,h1,h2,h3,h4,h5⟩:=(show ObjOk X.prog X.w H1 s1.heap a (.dT kvs) from I1.hok a _ ha)
 refine⟨"dict","dict.items",PySem.F.plainAttrs_dict,PySem.F.slot_dict_items,PySem.F.type_dict_items,t1,t2,Calls.callWith_builtin rfl (PySem.evalArgs_none ?_)⟩
 refine call_meetsIn PySem.F.slot_dict_items t1 PySem.F.entry_dict_items (PySem.F.args_dict_items_1 _) (mG a hd) ⟨t1,?_⟩
 obtain⟨ob',h1',I2⟩:=I1.still ha
 rw[h1] at h1'
 cases h1'
 have I3:=I2.kept (h':=s1.heap.push {cls:=.type "dict_items",data:=.fields #[.ref a]}) (t':=s1.toks) fun b o e=>Heap.get?_push_of_some _ e
 refine mZ (d:=a) (n:=kvs.length) ⟨_,Heap.get?_push_size _ rfl,rfl,rfl⟩ (Heap.get?_push_of_some _ h1) h3 (by rw[size_of_entries h4,Paired.length rel]) ?_
 refine⟨_,[_],_,d3 a ob kvs,_,rfl,I3.kept (t':=s1.toks) fun b o e=>Heap.get?_push_of_some _ e,p4 a _ ob kvs h3,⟨_,_,Heap.get?_push_size _ rfl⟩,fun b hb=>?_,q ob⟩
 have eb:=List.mem_singleton.mp hb
 subst eb
 exact I3.fpOk (Nat.le_refl _) (I3.hok.fresh (Nat.le_refl _))
theorem rL{a:Addr}{o:Obj}{kvs:List (List ay×V)}{g:TG}{tb:TS}{D:Ends}{σ:St}{H:Hp}(Pv:Nat→St→Hp→Prop)(h0:Pv 0 σ H)(hl:∀i σ H,i≤kvs.length→Pv i σ H→H a=some (.frz o (.dT kvs)))(hs:∀i k x ka p σ H,kvs[i]?=some (k,x)→H ka=some (.tup (k.map kV))→H p=none→Pv i σ H→g (.ref p) σ (upd H p (.tup [.ref ka,x])) fun σ2 H2=>tb {D with nx:=Pv (i+1),ct:=Pv (i+1),bk:=D.nx} σ2 H2)(hd:∀σ H,Pv kvs.length σ H→D.nx σ H):
 ∃ W:Nat→Nat→St→Hp→Prop,(∃m,W 0 m σ H)∧∀i m σ H,W i m σ H→
   ((d3 a o kvs).stop i H∧D.nx σ H)∨((d3 a o kvs).go i H∧∃N:St→Hp→Prop,(∀σ' H',N σ' H'→∃m',m'<m∧W (i+1) m' σ' H')∧∀x H',(d3 a o kvs).yld i H x H'→g x σ H' fun σ2 H2=>tb {D with nx:=N,ct:=N,bk:=D.nx} σ2 H2):=by
 refine⟨fun i m σ H=>m=kvs.length-i∧i≤kvs.length∧Pv i σ H,⟨kvs.length,by simp,Nat.zero_le _,h0⟩,?_⟩
 rintro i m σ H ⟨rfl,hi,p⟩
 have q:=hl i σ H hi p
 by_cases hlt:i<kvs.length
 ·refine .inr ⟨⟨q,hlt⟩,Pv (i+1),fun σ' H' p'=>⟨kvs.length-(i+1),by lia,rfl,hlt,p'⟩,fun x H' y=>?_⟩
  obtain⟨k,v,ka,pp,ek,hka,hpp,e1,e2⟩:=y
  subst e1 e2
  exact hs i k v ka pp σ H ek hka hpp p
 ·have e:i=kvs.length:=by lia
  subst e
  exact .inl ⟨⟨q,Nat.le_refl _⟩,hd σ H p⟩
section
variable{s:Shared}{prog:Program}{w:World}{A:Around}{E:Value→Shared→Prop}
end
section
open SeqAt MeetsSeq MeetsSeq2 MeetsSeq3 SeqRoads2
open AutoSeq1 (wpAny_loadPart')
end
theorem bj{C:List Value→Prop}(h:∀a,C [a]):∀us:List Value,us.length=1→C us
 | [a],_=>h a
theorem bx{C:List Value→Prop}(h:∀a b,C [a,b]):∀us:List Value,us.length=2→C us
 | [a,b],_=>h a b
theorem cR{C:List Value→Prop}(h:∀a b c,C [a,b,c]):∀us:List Value,us.length=3→C us
 | [a,b,c],_=>h a b c
theorem ja{C:List Value→Prop}(h:∀a b c d,C [a,b,c,d]):∀us:List Value,us.length=4→C us
 | [a,b,c,d],_=>h a b c d
theorem gX{K:PySem.W.Frag}{a:Addr}{xs:List V}{g:TG}{tb:TS}{D:Ends}{σ:St}{H:Hp}(Pv:Nat→St→Hp→Prop)(h0:Pv 0 σ H)(hl:∀i σ H,i≤xs.length→Pv i σ H→SqL K H a xs)(hs:∀(D2:Ends) i x σ H,(∀σ' H',Pv (i+1) σ' H'→D2.nx σ' H')→xs[i]?=some x→Pv i σ H→g x σ H fun σ2 H2=>tb D2 σ2 H2)(hd:∀σ H,Pv xs.length σ H→D.nx σ H):FW (cn K a) g tb D σ H:=
 gc Pv h0 hl (fun i x σ H hx p=>hs _ i x σ H (fun _ _ h=>h) hx p) hd
section
variable{X:Cx}{tg:Expr}
end
section
variable{X:Cx}{a b c:Expr}{ta:TA}{p p2 pos pos2:Pos}
end
abbrev K3:=Int×Int×List Int
section
variable{s:Shared}{prog:Program}{w:World}{A:Around}{E:Value→Shared→Prop}
end
section
open SeqAt MeetsSeq MeetsSeq2 MeetsSeq3 SeqRoads2
open AutoSeq1 (wpAny_loadPart')
end
def qK(isL:Bool)(H:Hp)(c:Addr)(k:K3):Prop:=match isL with
 | false=>∃d:Int,k.2.2=[d]∧H c=some (.tup [.int k.1,.int k.2.1,.int d])
 | true=>∃g:Addr,H c=some (.tup [.int k.1,.int k.2.1,.ref g])∧H g=some (.lst (k.2.2.map V.int))
structure Trips(isL:Bool)(H:Hp)(cs:List Addr)(ks:List K3):Prop where
 len:cs.length=ks.length
 at_:∀(i:Nat) (c:Addr) (k:K3),cs[i]?=some c→ks[i]?=some k→qK isL H c k
section
variable{X:Cx}{e d:Expr}{te td:TE}{p pos kp:Pos}{k:Nat}
end
section
variable{prog:Program}{w:World}{A:Around}{E:Value→Shared→Prop}{s:Shared}
end
section
variable{X:Cx}{tg a:Expr}{ta:TA}{p p2 pos pos2:Pos}
end
section
variable{prog:Program}{w:World}{A:Around}{E:Value→Shared→Prop}{s:Shared}
end
section
variable{prog:Program}{w:World}{A:Around}{E:Value→Shared→Prop}{s:Shared}
end
structure RoomH(k:Nat)(A:Around):Prop where
 dp:A.depth+3*k+5<recursionLimit
 un:A.units+16*k+200<cLine
structure FnHOk(P:Program)(w:World)(K:PySem.W.Frag)(mg:Str→Option Value)(base:Heap)(k:Nat)(f:Addr)(fd:FuncData)(ps:List Str)(sp:Sp):Prop where
 len:∀vs H Q E,sp vs H Q E→vs.length=ps.length
 run:∀(A:Around) (outer:List Env) (s:Shared) (H:Hp) (args:Args) (us:List Value) (vs:List V) (Q:VK),RoomH k A→Env0 P w K mg base A outer s H→BindsTo s fd args (ps.zip us)→Vals vs us→sp vs H Q E0→
  codeAny (model P w) A (.call (.ref f) args) (CR ai outer P w H s Q E0) s
structure FnH(P:Program)(w:World)(K:PySem.W.Frag)(mg:Str→Option Value)(base:Heap)(x:Str)(k:Nat)(ps:List Str)(sp:Sp):Prop where
 ex:∃f fd,FnHOk P w K mg base k f fd ps sp∧mg x=some (.ref f)∧PySem.W.keepIn K (.ref f)=true∧Binds K fd ps []
section
variable{X:Cx}{e:Expr}{te:TE}{p pos:Pos}
end
section
variable{X:Cx}
end
section
variable{X:Cx}{a b c:Expr}{ta:TA}{p p2 pos pos2:Pos}
end
section
variable{prog:Program}{w:World}{A:Around}{E:Value→Shared→Prop}{s:Shared}
end
section
variable{prog:Program}{w:World}{κ:Type}[DecidableEq κ]{knd:KeyKind prog w κ}{A:Around}{E:Value→Shared→Prop}{s:Shared}
end
section
variable{X:Cx}{pins:List (Addr×Obj)}{σ:St}{H:Hp}{s:Shared}
end
section
variable{X:Cx}{e:Expr}{te:TE}{p pos:Pos}
end
section
variable{X:Cx}{e:Expr}{te:TE}{p pos:Pos}
def rj(te:TE):TE:=fun σ H Q=>te σ H fun x H1=>∃(l:Addr) (ns:List Int),x=.ref l∧H1 l=some (.lst (ns.map V.int))∧ns≠ []∧∀m,m∈ns→(∀a,a∈ns→m≤a)→Q (.int m) H1
theorem kX(hc:X.calm=true)(hm:X.mg "min"=none)(ha:PE X e te)(hg:Gl X "min":=by rfl)(he:starEach [e] X.env=[(false,eval e X.env)]:=by rfl):PE X (.Call (.Name "min" p) [e] [] pos) (rj te):=
 cz (r:=r1 fun x H Q=>∃(l:Addr) (ns:List Int),x=.ref l∧H l=some (.lst (ns.map V.int))∧ns≠ []∧∀m,m∈ns→(∀a,a∈ns→m≤a)→Q (.int m) H)
  (dc fun pins s σ H x us Q I rv ⟨l,ns,ex,hH,hne,q⟩=>by
   subst ex
   obtain⟨u,rfl,ru⟩:=rv.one
   cases ru
   obtain⟨z,its,n,r,hl,e1⟩:=I.lstM hH
   have hi:=iz r
   have hL:s.heap.IsList l its.toArray:=⟨_,e1,rfl,n,rfl⟩
   obtain⟨xs,ex⟩:=hi.allInts.items
   have hns:ns=xs.toList.map (·.1):=by rw[←hi.numsOf,←nums_intItems,←ex]
   have hsz:0<xs.size:=by
    cases ns with
    | nil=>exact absurd rfl hne
    | cons _ _=>
      have:=congrArg List.length hns
      simp at this;lia
   rw[ex] at hL
   refine min_intList (I.ok.hd hc) hL hsz fun v h' tk hv hk=>?_
   obtain⟨t,rfl⟩:=intItems_at hv
   obtain⟨h1,h2⟩:=argBest_lt (numAt xs) (xs.size-1)
   refine⟨.int _,H,I.kept (t':=tk) hk,⟨_,rfl⟩,q _ ?_ fun a ha=>?_⟩
   ·rw[hns,numAt_eq];exact getD_mem (by rw[List.length_map,Array.length_toList];lia)
   ·rw[hns] at ha
    obtain⟨j,hj,rfl⟩:=mem_getD ha
    rw[List.length_map,Array.length_toList] at hj
    rw[←numAt_eq];exact h2 j (by lia)) hg hm ki (aa ha ac (by exact he)) (he:=by exact he)
end
section
variable{prog:Program}{w:World}{A:Around}{E:Value→Shared→Prop}{s:Shared}{a₀:Array Keyed}
end
section
variable{prog:Program}{w:World}{κ:Type}[DecidableEq κ]{knd:KeyKind prog w κ}{A:Around}{E:Value→Shared→Prop}{s:Shared}
end
section
variable{X:Cx}{e:Expr}{te:TE}{p pos:Pos}
end
section
variable{prog:Program}{w:World}{A:Around}{E:Value→Shared→Prop}{s:Shared}
end
section
open SeqAt MeetsSeq MeetsSeq2 MeetsSeq3 SeqRoads2
open AutoSeq1 (wpAny_loadPart')
def sI(t:List Nat):List Int:=t.map fun(c:Nat)=>(c:Int)
end
abbrev K2:=Int×List Nat
def pK(H:Hp)(c:Addr)(k:K2):Prop:=(∀x∈k.2,x<0x110000)∧∃g:Addr,H c=some (.tup [.int k.1,.ref g])∧H g=some (.lst (k.2.map sg))
structure Pairs2(H:Hp)(cs:List Addr)(ks:List K2):Prop where
 len:cs.length=ks.length
 at_:∀(i:Nat) (c:Addr) (k:K2),cs[i]?=some c→ks[i]?=some k→pK H c k
section
variable{X:Cx}{e d:Expr}{te td:TE}{p pos kp:Pos}{k:Nat}
end
section
variable{X:Cx}{tg a b c:Expr}{ta:TA}{p pos:Pos}
end
section
variable{X:Cx}{a:Expr}{ta:TA}{p p2 pos pos2:Pos}
end
end L2
namespace L2
open PySem PySem.Spec PyProof.Rows PySem.W
section
variable{prog:Program}{w:World}{A:Around}{E:Value→Shared→Prop}{s:Shared}
end
section
variable{X:Cx}{e:Expr}{te:TE}{p pos:Pos}
end
theorem p7:∀k:Fin 26,Builtin.Str.occurrences "abcdefghijklmnopqrstuvwxyz" ⟨#[97+k.val]⟩ 0 26 1=[k.val]:=by decide+kernel
def o9:V→List V→Hp→VK→Prop:=fun x vs H Q=>∃c:Nat,x=.str "abcdefghijklmnopqrstuvwxyz"∧vs=[sg c]∧97≤c∧c≤122∧Q (.int ((c-97:Nat):Int)) H
theorem sK{X:Cx}:fQ X "str.index" o9:=by
 intro pins s σ H x vs v us Q I rx rv h
 obtain⟨c,rfl,rfl,h1,h2,q⟩:=h
 obtain⟨t,rfl⟩:=rx
 obtain⟨u,rfl,ru⟩:=rv.one
 obtain⟨t',rfl⟩:=ru
 have e:=p7 ⟨c-97,by lia⟩
 rw[show 97+(⟨c-97,by lia⟩:Fin 26).val=c by show 97+(c-97)=c;lia] at e
 exact call_gives F.slot_str_index (typeIs_str s _ t) F.entry_str_index (F.args_str_index_2 _ _) (gives_str_index _ _ t t' (c-97) [] e) ⟨.int ((c-97:Nat):Int),H,I.kept (h':=s.heap) (t':=s.toks+1) (fun b o e=>e),⟨_,rfl⟩,q⟩
structure Ordr(κ:Type) where
 lt:κ→κ→Bool
 irr:∀a,lt a a=false
 tr:∀a b c,lt a b=true→lt b c=true→lt a c=true
 neg:∀a b c,lt a c=true→lt a b=true∨lt b c=true
namespace Ordr
variable{κ:Type}(O:Ordr κ)
def le(a b:κ):Prop:=O.lt b a=false
variable{O}
end Ordr
section
variable{κ:Type}(O:Ordr κ)(key:Keyed→κ)
def kk(a:Array Keyed)(i:Nat):κ:=key ((a[i]?).getD (.none,.none))
def sf(a:Array Keyed)(lo hi:Nat):Prop:=∀i j,lo≤i→i≤j→j<hi→O.le (kk key a i) (kk key a j)
def sv(a b:Array Keyed)(lo hi:Nat):Prop:=∀i,i<lo∨hi≤i→b[i]?=a[i]?
structure Bas(a₀:Array Keyed)(kd:SortKind)(st:SortSt):Prop where
 perm:(arrOf st).Perm a₀
 kind:kindOf st=kd
 failed:failedOf st=none
variable{prog:Program}{w:World}{A:Around}{E:Value→Shared→Prop}{s:Shared}{a₀:Array Keyed}{kd:SortKind}
variable{O key}
end
section
variable{κ:Type}{O:Ordr κ}{key:Keyed→κ}{prog:Program}{w:World}{A:Around}{E:Value→Shared→Prop}{s:Shared}{a₀:Array Keyed}{kd:SortKind}
def p9(O:Ordr κ)(key:Keyed→κ)(a:Array Keyed)(lo hi:Nat):Prop:=∀i j,lo≤i→i≤j→j<hi→O.le (kk key a j) (kk key a i)
def pP(O:Ordr κ)(key:Keyed→κ)(a:Array Keyed)(lo hi:Nat):Prop:=∀i j,lo≤i→i<hi→lo≤j→j<hi→O.le (kk key a i) (kk key a j)
structure Down(O:Ordr κ)(key:Keyed→κ)(a₀:Array Keyed)(kd:SortKind)(st z:SortSt)(lo nrem n q:Nat):Prop where
 bas:Bas a₀ kd z
 pend:pendingOf z=pendingOf st
 only:sv (arrOf st) (arrOf z) lo (lo+nrem)
 q1:q<n
 fall:p9 O key (arrOf z) lo (lo+n)
 even:pP O key (arrOf z) (lo+n-(q+1)) (lo+n)
end
section
variable{κ:Type}{O:Ordr κ}{key:Keyed→κ}{prog:Program}{w:World}{A:Around}{E:Value→Shared→Prop}{s:Shared}{a₀:Array Keyed}{kd:SortKind}
structure Edge(P:Nat→Bool)(n k:Nat):Prop where
 le:k≤n
 yes:∀i,i<k→P i=true
 no:∀i,k≤i→i<n→P i=false
end
section
variable{κ:Type}{O:Ordr κ}{key:Keyed→κ}
def lj(O:Ordr κ)(key:Keyed→κ)(xs ys:List Keyed):Prop:=∀x∈xs,∀y∈ys,O.le (key x) (key y)
def Up(O:Ordr κ)(key:Keyed→κ)(xs:List Keyed):Prop:=xs.Pairwise fun x y=>O.le (key x) (key y)
structure Mg(O:Ordr κ)(key:Keyed→κ)(T out xs ys:List Keyed):Prop where
 perm:(out++(xs++ys)).Perm T
 up:Up O key out
 lx:lj O key out xs
 ly:lj O key out ys
 ux:Up O key xs
 uy:Up O key ys
end
section
variable{κ:Type}{O:Ordr κ}{key:Keyed→κ}{prog:Program}{w:World}{A:Around}{E:Value→Shared→Prop}{s:Shared}{a₀:Array Keyed}{kd:SortKind}
structure SamS(st z:SortSt):Prop where
 arr:arrOf z=arrOf st
 kind:kindOf z=kindOf st
 pend:pendingOf z=pendingOf st
 failed:failedOf z=failedOf st
structure JLo(O:Ordr κ)(key:Keyed→κ)(xa xb:Array Keyed)(T:List Keyed)(o:Array Keyed)(i j:Nat):Prop where
 mg:Mg O key T o.toList (xa.toList.drop i) (xb.toList.drop j)
 i1:i+1<xa.size
 j1:j<xb.size
 sz:o.size=i+j
structure Two(O:Ordr κ)(key:Keyed→κ)(a₀ xa xb:Array Keyed):Prop where
 ma:∀(i:Nat) (x:Keyed),xa[i]?=some x→x∈a₀
 mb:∀(i:Nat) (x:Keyed),xb[i]?=some x→x∈a₀
 ua:Up O key xa.toList
 ub:Up O key xb.toList
 na:1≤xa.size
 nb:1≤xb.size
 first:∀x y:Keyed,xa[0]?=some x→xb[0]?=some y→O.lt (key y) (key x)=true
 last:∀(x y:Keyed) (j:Nat),xa[xa.size-1]?=some x→xb[j]?=some y→O.lt (key y) (key x)=true
variable{xa xb:Array Keyed}{T:List Keyed}{o:Array Keyed}{i j:Nat}
end
def Ordr.flip{κ:Type}(O:Ordr κ):Ordr κ:=⟨fun a b=>O.lt b a,O.irr,fun _ _ _ h1 h2=>O.tr _ _ _ h2 h1,fun _ b _ h=>(O.neg _ b _ h).symm⟩
section
variable{κ:Type}{O:Ordr κ}{key:Keyed→κ}{prog:Program}{w:World}{A:Around}{E:Value→Shared→Prop}{s:Shared}{a₀:Array Keyed}{kd:SortKind}
variable{xa xb:Array Keyed}{T:List Keyed}{o:Array Keyed}{i j:Nat}
structure JHi(O:Ordr κ)(key:Keyed→κ)(xa xb:Array Keyed)(T:List Keyed)(o:Array Keyed)(i j:Nat):Prop where
 mg:Mg O.flip key T o.toList (xb.reverse.toList.drop (xb.size-j)) (xa.reverse.toList.drop (xa.size-i))
 i1:1≤i
 i2:i≤xa.size
 j1:2≤j
 j2:j≤xb.size
 sz:o.size=(xa.size-i)+(xb.size-j)
end
section
variable{κ:Type}{O:Ordr κ}{key:Keyed→κ}{prog:Program}{w:World}{A:Around}{E:Value→Shared→Prop}{s:Shared}{a₀:Array Keyed}{kd:SortKind}
end
section
variable{κ:Type}{O:Ordr κ}{key:Keyed→κ}{prog:Program}{w:World}{A:Around}{E:Value→Shared→Prop}{s:Shared}{a₀:Array Keyed}{kd:SortKind}
end
section
variable{κ:Type}{O:Ordr κ}{key:Keyed→κ}{prog:Program}{w:World}{A:Around}{E:Value→Shared→Prop}{s:Shared}{a₀:Array Keyed}{kd:SortKind}
inductive Stk (O:Ordr κ) (key:Keyed→κ) (x:Array Keyed):List (Nat×Nat×Nat)→Nat→Nat→Prop
 | nil (a:Nat):Stk O key x [] a a
 | cons {a n p b:Nat} {r:List (Nat×Nat×Nat)}:1≤n→sf O key x a (a+n)→Stk O key x r (a+n) b→Stk O key x ((a,n,p)::r) a b
end
section
variable{prog:Program}{w:World}{A:Around}{E:Value→Shared→Prop}{s:Shared}
end
section
variable{X:Cx}{e:Expr}{te:TE}{p pos:Pos}
end
section
variable{prog:Program}{w:World}{A:Around}{R:Result→Shared→Prop}{I S ax:Addr}{items:Array Value}{L:Nat→List Value}
end
section
variable{X:Cx}{e e2:Expr}{te te2:TE}{p pos:Pos}
end
def nA(P:Addr)(ps:Array Value):Heap→Prop:=fun h=>h.get? P=some (PySem.W.tabObj ps)
def j3(P:Addr)(ps:Array Value):HO:=.ext (nA P ps)
section
variable{Pr:Program}{w:World}{K:PySem.W.Frag}{mg mb:Str→Option Value}{CX:bi}{k:Nat}{fa a P:Addr}{fd:FuncData}{x:Str}{sp:Sp}{s₁:Shared}{vs:List Value}{ns:List Int}
structure Beg(K:PySem.W.Frag)(a P:Addr)(H:Hp):Prop where
 tab:H P=some (j3 P #[])
 only:∀b u,H b=some u→(b=P∧u=j3 P #[])∨(b=a∧K.lookup a=none∧∃o xs,u=.frz o (.lst xs))
end
structure LamSc(fv y:Str)(scope:Scope):Prop where
 kind:scope.kind=.function
 co:scope.isCoroutine=false
 gen:scope.isGenerator=false
 nocell:∀x∈scope.names,x.2≠ .cell
 yl:scope.names.lookup y=some .local
 ff:scope.names.lookup fv=some .free
 one:∀x∈scope.names,x.2=.free→x.1=fv
section
variable{prog:Program}{w:World}{A:Around}{E:Value→Shared→Prop}{s:Shared}
end
structure NewAd(X:Cx)(pins:List (Addr×Obj))(b:Addr):Prop where
 s0:X.s₀.heap.objs.size≤b
 loc:b≠X.env.locals
 cell:∀x c,X.env.cells.lookup x=some c→c≠b
 pin:∀p∈X.pn++pins,p.1≠b
 stk:b∉aH X.stack
section
variable{X:Cx}{pins:List (Addr×Obj)}{σ:St}{H:Hp}{s:Shared}{f l:Addr}{ns:List Int}{kf:Int→List Nat}{fo:Obj}
structure KeyW(X:Cx)(pins:List (Addr×Obj))(σ:St)(H:Hp)(f:Addr)(fo:Obj)(D kS:Addr)(e1:Nat)(ns:List Int)(kf:Int→List Nat)(i:Nat)(s':Shared):Prop where
 ex:∃(H':Hp) (ks:List Addr) (e:Nat),Inv X pins σ H' s'∧Same H H'∧s'.heap.get? f=some fo∧H' f=none∧s'.heap.get? D=some (seqObj "list" #[] e1)∧H' D=none∧s'.heap.get? kS=some (seqObj "list" (ks.map Value.ref).toArray e)∧H' kS=none∧ks.length=i∧∀(j:Nat) (k:Addr) (n:Int),ks[j]?=some k→ns[j]?=some n→H' k=some (.lst ((kf n).map sg))
end
section
variable{X:Cx}{pins:List (Addr×Obj)}{σ:St}{H:Hp}{s:Shared}{f l:Addr}{ns:List Int}{kf:Int→List Nat}{fo:Obj}
end
section
variable{X:Cx}{pins:List (Addr×Obj)}{σ0:St}{E0:XK}
end
structure MF(K:PySem.W.Frag)(C:Addr)(x qual:Str)(st:Stmt):Prop where
 ex:∃(f:Addr) (oc:Value) (od an:Option Addr) (osl:Array (Option Value)) (kV doc pm cdv ct:Value),PySem.W.findIn K (.ref C) x=some (some (.ref f))∧PySem.W.isFn K (.ref f)=true∧
  K.lookup f=some ⟨oc,od,.func (PySem.W.fnOf x qual (cy st) (bC st) (aw st) .none kV doc pm an cdv ct),osl⟩∧PySem.W.codeIn K cdv qual=true∧PySem.W.keepIn K (.ref f)=true
structure Mt(P:Program)(w:World)(K:PySem.W.Frag)(mg:Str→Option Value)(base:Heap)(CX:bi)(C:Addr)(x:Str)(k:Nat)(ps:List Str)(sp:Sp):Prop where
 ex:∃f fd,FnOk P w K mg base CX k f fd ps sp∧Meth K C x f∧Binds K fd ps []
section
variable{X:Cx}{CX:bi}{k j:Nat}{C:Addr}{ps:List Str}{sp:Sp}{E:XK}{x m:Str}{p pos apos:Pos}{e o:Expr}{es:List Expr}{ta:TE}{t:TA}
end
structure DK(K:PySem.W.Frag)(P:Program)(w:World)(d:Addr)(kvs:List (ay×V)):Prop where
 sys:(d == sysModules)=false
 ex:∃o vs,K.lookup d=some o∧KV kvs vs∧o.IsDictOf (bG P w) vs
section
variable{X:Cx}{d:Addr}{kvs:List (ay×V)}
end
section
variable{X:Cx}{pins:List (Addr×Obj)}{σ0:St}{E0:XK}
end
def cd(x:Str):List Nat:=x.cps.toList
structure MkF(P:Program)(w:World)(K:PySem.W.Frag)(mg:Str→Option Value)(base:Heap)(CX:bi)(C:Addr)(k:Nat)(ps:List Str)(sp:Sp):Prop where
 ex:∃f fd,Mk K C f∧FnOk P w K mg base CX k f fd ps sp∧Binds K fd ps []
structure PEw(X:Cx)(e:Expr)(t:TE):Prop where
 h:PE X e t
structure PAw(X:Cx)(es:List Expr)(t:TA):Prop where
 h:PA X es t
section
variable{X:Cx}{e a b:Expr}{es:List Expr}{te ta tb:TE}{t:TA}{pos:Pos}
end
section
variable{P:Program}{w:World}{K:PySem.W.Frag}{mg:Str→Option Value}{base:Heap}{x:Str}{k k1 k2:Nat}{ps:List Str}{sp sp1 sp2 sp':Sp}
theorem Fn.toX{CX:bi}(F:Fn P w K mg base ai x k ps sp):Fn P w K mg base CX x k ps sp:=by
 obtain⟨f,fd,F,h⟩:=F.ex
 refine⟨f,fd,⟨F.len,fun A outer s H args us vs Q E hr he hb hv hs=>codeAny_mono (F.run A outer s H args us vs Q E hr he hb hv hs) fun r s' hq=>?_⟩,h⟩
 match r,hq with
 | .ok (.ret _),hq=>exact hq
theorem Fn.or{CX:bi}(F1:Fn P w K mg base CX x k1 ps sp1)(F2:Fn P w K mg base CX x k2 ps sp2)(h1:k1≤k:=by decide)(h2:k2≤k:=by decide):Fn P w K mg base CX x k ps (fun vs H Q E=>sp1 vs H Q E∨sp2 vs H Q E):=by
 obtain⟨f,fd,F1,a1,a2,a3,oc,od,osl,l1⟩:=F1.ex
 obtain⟨f',fd',F2,b1,_,_,_,_,_,l2⟩:=F2.ex
 have e:=a1.symm.trans b1
 cases e
 have e:=l1.symm.trans l2
 cases e
 refine⟨f,fd,⟨fun vs H Q E h=>h.elim (F1.len vs H Q E) (F2.len vs H Q E),fun A outer s H args us vs Q E hr he hb hv hs=>?_⟩,a1,a2,a3,oc,od,osl,l1⟩
 rcases hs with hs | hs
 ·exact F1.run A outer s H args us vs Q E (hr.mono h1) he hb hv hs
 ·exact F2.run A outer s H args us vs Q E (hr.mono h2) he hb hv hs
end
section
variable{X:Cx}{e e1 e2:Expr}{te te1 te2:TE}{p pos:Pos}
end
end L2
namespace Ov
open PySem L2
theorem fsc_{N p:List Str}{sc:Scope}(a:sc.kind=.function:=by rfl)(b:sc.isCoroutine=false:=by rfl)(c:sc.isGenerator=false:=by rfl)(d:N.Nodup:=by decide+kernel)(e:N.take p.length=p:=by rfl)(f:∀x∈p,sc.names.lookup x=some .local∨sc.names.lookup x=some .cell:=by decide+kernel)(g:∀y∈sc.names,y.2≠.free:=by decide+kernel):FnScope N p sc:=⟨a,b,c,d,e,f,g⟩
def aN(i:Nat):Stmt:=PySem.Challenge.pw_overlaid_k21_rests_refused.main.body.getD i (.Pass ⟨0,0,0,0⟩)
abbrev iJ:Stmt:=aN 37
abbrev gq:Stmt:=aN 38
abbrev gT:Stmt:=aN 39
def Hand(H:Hp)(p:Addr):Prop:=∃a b n:Int,H p=some (.lst [.int a,.int b,.int n])
def lV:Sp:=fun vs H Q _=>∃c:Int,vs=[.int c]∧∀p H',H p=none→Hand H' p→Same H H'→Q (.ref p) H'
def cA:Sp:=fun vs H Q _=>∃(p:Addr) (many:Int),vs=[.ref p,.int many]∧Hand H p∧1≤many∧
 ∀(r:Int) (H':Hp),0≤r→r<many→Hand H' p→Keep p H H'→Q (.int r) H'
def io(K:PySem.W.Frag):Sp:=fun vs H Q _=>∃(a:Addr) (ns:List Int),vs=[.ref a,.int 0]∧SqL K H a (ns.map V.int)∧∀c:Int,Q (.int c) H
section
variable{P:Program}{w:World}{K:PySem.W.Frag}{mg:Str→Option Value}{base:Heap}
theorem rN:FnScope ["script","k"] ["script","k"] (aw iJ):=fsc_
theorem mX(M:Md K mg)(B:Bl mg)(F:FF K "_law_cell_at" iJ):Fn P w K mg base ai "_law_cell_at" 1 ["script","k"] (io K):=by
 refine aL M F rN (fun _ _ _ _ _ _=>bx fun _ _=>rfl) (fun vs H Q E h=>?_) (fun f cdv A outer s H vs Q E hr h=>?_)
 ·obtain⟨a,ns,rfl,_⟩:=h;rfl
 ·obtain⟨a,ns,rfl,hS,k⟩:=h
  refine⟨_,(ae (aF (aE e6 (pv 1) (aB B.len (pv 0)) (aC _)) (ah (ar (aZ bh (pv 0) (pv 1) (fun _ _=>rfl)))) aM)
   (ah (ar ad))),?_⟩
  refine⟨_,rfl,_,rfl,a,_,rfl,hS,_,_,rfl,rfl,_,rfl,?_⟩
  refine br (fun hc=>?_) (fun hc=>?_)
  ·cases ns with
   | nil=>simp at hc
   | cons n ns=>exact⟨_,rfl,_,rfl,a,_,_,_,rfl,rfl,hS,bD (j:=0) rfl,k n⟩
  ·exact k 0
theorem n5:FnScope ["cell"] ["cell"] (aw gq):=fsc_
theorem pL(M:Md K mg)(B:Bl mg)(F:FF K "_law_deck" gq):Fn P w K mg base ai "_law_deck" 1 ["cell"] lV:=by
 refine aL M F n5 (fun _ _ _ _ _ _=>bj fun _=>rfl) (fun vs H Q E h=>?_) (fun f cdv A outer s H vs Q E hr h=>?_)
 ·obtain⟨c,rfl,_⟩:=h;rfl
 ·obtain⟨c,rfl,k⟩:=h
  refine⟨_,(ah (ar (aY (aa (kr rfl B.max ad (ak bp (pv 0) (ak oW ad ad))) (aa (ak cO (pv 0) ad) (aa ad ac)))))),?_⟩
  refine⟨_,rfl,_,_,rfl,rfl,⟨by decide,by decide,by decide⟩,_,_,rfl,rfl,_,_,rfl,rfl,?_⟩
  refine⟨_,rfl,_,_,rfl,rfl,(by show(0:Int)<2147483629;decide),by show 3≤sizeLine;decide,fun l hl=>k l _ hl ⟨_,_,_,af⟩ (Same.upd hl)⟩
theorem scTake:FnScope ["deck","many","digit","stir"] ["deck","many"] (aw gT):=fsc_
theorem pD(M:Md K mg)(F:FF K "_law_take" gT):Fn P w K mg base ai "_law_take" 1 ["deck","many"] cA:=by
 refine aL M F scTake (fun _ _ _ _ _ _=>bx fun _ _=>rfl) (fun vs H Q E h=>?_) (fun f cdv A outer s H vs Q E hr h=>?_)
 ·obtain⟨p,many,rfl,_⟩:=h;rfl
 ·obtain⟨p,many,rfl,⟨a,b,n,hp⟩,h1,k⟩:=h
  refine⟨_,(ae (iL (ak aV (aZ bh (pv 0) ad (fun _ _=>rfl)) ad) (kQ (pv 0) ad kB))
   (ae (aF (aE dy (aZ bh (pv 0) ad (fun _ _=>rfl)) ad (aC _)) (ae (am (i:=2) scTake.nd rfl (.inl rfl) (ak cO (aZ bh (pv 0) ad (fun _ _=>rfl)) ad))
   (ae (iL (ak kU (aZ bh (pv 0) ad (fun _ _=>rfl)) ad) (kQ (pv 0) ad kB))
   (ah (ar (ak cO (pv 2) (pv 1)))))) aM)
   (ae (am (i:=3) scTake.nd rfl (.inl rfl) (ak cO (ak dZ (ak aV (aZ bh (pv 0) ad (fun _ _=>rfl)) (ak dZ ad (aZ bh (pv 0) ad (fun _ _=>rfl)))) ad) ad))
   (ae (am (i:=3) scTake.nd rfl (.inl rfl) (ak cO (ak dZ (pv 3) (pv 3)) ad))
   (ah (ar (ak cO (ak kU (ak cO (ak dZ (ak aV (pv 3) (ak dZ ad (aZ bh (pv 0) ad (fun _ _=>rfl)))) ad) ad) ad) (pv 1)))))))),?_⟩
  refine⟨_,rfl,p,_,_,_,rfl,rfl,SqL.of hp,bD (j:=2) rfl,_,_,rfl,rfl,_,rfl,p,_,2,2,rfl,rfl,hp,rfl,?_⟩
  have k1:Keep p H (L2.upd H p (.lst ([V.int a,V.int b,V.int n].set 2 (.int (n+1))))):=Keep.upd
  have hp1:(L2.upd H p (.lst ([V.int a,V.int b,V.int n].set 2 (.int (n+1))))) p=some (.lst [.int a,.int b,.int (n+1)]):=af
  generalize L2.upd H p (.lst ([V.int a,V.int b,V.int n].set 2 (.int (n+1))))=H1 at k1 hp1
  refine⟨_,rfl,p,_,_,_,rfl,rfl,SqL.of hp1,bD (j:=0) rfl,_,_,rfl,rfl,_,rfl,?_⟩
  refine br (fun hc=>?_) (fun hc=>?_)
  ·refine⟨_,rfl,p,_,_,_,rfl,rfl,SqL.of hp1,bD (j:=0) rfl,_,_,rfl,rfl,(by show(0:Int)<65536;decide),?_⟩
   refine⟨_,rfl,p,_,_,_,rfl,rfl,SqL.of hp1,bD (j:=0) rfl,_,_,rfl,rfl,⟨by decide,by decide⟩,?_⟩
   refine⟨_,rfl,p,_,0,0,rfl,rfl,hp1,rfl,_,rfl,_,rfl,_,_,rfl,rfl,(by show 0<many;lia),?_⟩
   exact k _ _ (Int.emod_nonneg _ (by lia)) (Int.emod_lt_of_pos _ (by lia)) ⟨_,_,_,af⟩ (k1.trans Keep.upd)
  ·refine⟨_,rfl,p,_,_,_,rfl,rfl,SqL.of hp1,bD (j:=1) rfl,_,rfl,p,_,_,_,rfl,rfl,SqL.of hp1,bD (j:=2) rfl,_,_,rfl,rfl,.inl ⟨by decide,by decide⟩,_,_,rfl,rfl,_,_,rfl,rfl,.inr ⟨by decide,by decide⟩,_,_,rfl,rfl,(by show(0:Int)<2147483647;decide),?_⟩
   have m1:=Int.emod_nonneg ((b+7919*(n+1))*48271) (show(2147483647:Int)≠0 by decide)
   have m2:=Int.emod_lt_of_pos ((b+7919*(n+1))*48271) (show(0:Int)<2147483647 by decide)
   refine⟨_,rfl,_,rfl,_,_,rfl,rfl,.inl ⟨by lia,by lia⟩,_,_,rfl,rfl,(by show(0:Int)<2147483629;decide),?_⟩
   refine⟨_,rfl,_,rfl,p,_,_,_,rfl,rfl,SqL.of hp1,bD (j:=2) rfl,_,_,rfl,rfl,.inl ⟨by decide,by decide⟩,_,_,rfl,rfl,_,_,rfl,rfl,.inr ⟨by decide,by decide⟩,_,_,rfl,rfl,(by show(0:Int)<2147483563;decide),_,_,rfl,rfl,⟨by decide,by decide⟩,_,rfl,_,_,rfl,rfl,(by show 0<many;lia),?_⟩
   exact k _ _ (Int.emod_nonneg _ (by lia)) (Int.emod_lt_of_pos _ (by lia)) ⟨_,_,_,hp1⟩ k1
end
abbrev gm:Stmt:=aN 41
abbrev eQ:Stmt:=aN 40
def az:List Nat:=(List.range 26).map (97+ ·)
theorem nI{c:Nat}(h:c∈az):97≤c∧c≤122:=by
 simp[az] at h
 lia
def Low(t:List Nat):Prop:=∀c∈t,97≤c∧c≤122
theorem Low.cp{t:List Nat}(h:Low t):∀c∈t,c<0x110000:=fun c hc=>by have:=h c hc;lia
theorem Low.take{t:List Nat}(h:Low t)(n:Nat):Low (t.take n):=fun c hc=>h c (List.mem_of_mem_take hc)
theorem Low.drop{t:List Nat}(h:Low t)(n:Nat):Low (t.drop n):=fun c hc=>h c (List.mem_of_mem_drop hc)
theorem Low.app{t u:List Nat}(h:Low t)(g:Low u):Low (t++u):=fun c hc=>(List.mem_append.mp hc).elim (h c) (g c)
theorem Low.nil:Low []:=fun c hc=>by cases hc
theorem Hand.ne{H:Hp}{p l:Addr}(h:Hand H p)(hl:H l=none):p≠l:=by
 obtain⟨a,b,n,e⟩:=h
 exact aW e hl
theorem Hand.upd{H:Hp}{p l:Addr}{o:HO}(h:Hand H p)(hl:p≠l):Hand (L2.upd H l o) p:=by
 obtain⟨a,b,n,e⟩:=h
 exact⟨a,b,n,by rw[ap hl];exact e⟩
theorem Hand.same{H H':Hp}{p:Addr}(h:Hand H p)(k:Same H H'):Hand H' p:=by
 obtain⟨a,b,n,e⟩:=h
 exact⟨a,b,n,k _ _ e⟩
theorem Hand.free{H H':Hp}{p l:Addr}(h:Hand H' p)(k:Keep p H H')(hl:H' l=none):H l=none:=by
 obtain⟨a,b,n,e⟩:=h
 exact k.free e hl
theorem au{H:Hp}{p a:Addr}{t:List Nat}(h:Hand H p)(ha:H a=some (.lst (t.map sg))):a≠p:=by
 obtain⟨x,y,n,e⟩:=h
 refine cK ha e fun z=>?_
 have z':t.map sg=[.int x,.int y,.int n]:=HO.lst.inj z
 cases t with
 | nil=>cases z'
 | cons c t=>cases z'
theorem iO{p:Prop}[Decidable p](h:¬decide p=true):¬p:=fun z=>h (decide_eq_true z)
theorem sz{n:Nat}(h:n≤1000):n≤sizeLine:=Nat.le_of_lt (ce h)
theorem o6{n:Nat}(h:n≤5000):n≤sizeLine:=Nat.le_of_lt (eU h)
def aT(ks:List Nat):List V:=(ks.map fun(k:Nat)=>(k:Int)).map V.int
theorem lR(ks:List Nat)(i:Nat):aT (ks++[i])=aT ks++[V.int (0+(i:Int))]:=by
 simp[aT]
theorem cL(ks:List Nat):(aT ks).length=ks.length:=by simp[aT]
theorem lK{i:Nat}(p:Nat→Bool):((List.range i).filter p).length≤i:=by
 have:=List.length_filter_le p (List.range i)
 simpa using this
theorem om{t:List Nat}{r:Int}(lt:Low t)(r0:0≤r)(r1:r<t.length):∃c,t[r.toNat]?=some c∧97≤c∧c≤122∧bF (t.map sg) r=some (sg c):=by
 obtain⟨v,hv,hm,e⟩:=cU (t.map sg) r r0 (by rw[List.length_map];exact r1)
 rw[List.getElem?_map] at hv
 cases q:t[r.toNat]? with
 | none=>rw[q] at hv;cases hv
 | some c=>
   rw[q] at hv
   have:sg c=v:=Option.some.inj hv
   subst this
   exact⟨c,rfl,(lt c (List.mem_of_getElem? q)).1,(lt c (List.mem_of_getElem? q)).2,e⟩
theorem cf{H:Hp}{l0 l1:Addr}{t u:List Nat}{Q:VK}(h0:H l0=some (.lst (t.map sg)))(h1:H l1=some (.lst (u.map sg)))(hz:t.length+u.length≤5000)(k:∀b,H b=none→Q (.ref b) (L2.upd H b (.lst ((t++u).map sg)))):im (.ref l0) (.ref l1) H Q:=
 ⟨l0,l1,_,_,rfl,rfl,h0,h1,by rw[List.length_map,List.length_map];exact o6 hz,fun b hb=>by have:=k b hb;rw[List.map_append] at this;exact this⟩
theorem bN{t:List Nat}{n:Int}(h:0≤n):cg (t.map sg) none (some n)=(t.take n.toNat).map sg:=by rw[dk,dD,lH _ _ h]
theorem cI{t:List Nat}{n:Int}(h:0≤n):cg (t.map sg) (some n) none=(t.drop n.toNat).map sg:=by rw[dk,dD,nK _ _ h]
def jL:Sp:=fun vs H Q _=>∃p:Addr,vs=[.ref p]∧Hand H p∧∀(z:List Nat) (r:Addr) (H':Hp),H r=none→H' r=some (.lst (z.map sg))→Low z→1≤z.length→z.length≤26→Hand H' p→Keep p H H'→Q (.ref r) H'
def gf:Sp:=fun vs H Q _=>∃(p b:Addr) (z:List Nat) (n:Int),vs=[.ref p,.ref b,.int n]∧Hand H p∧H b=some (.lst (z.map sg))∧Low z∧1≤z.length∧z.length≤900∧0≤n∧n≤1000∧
 ∀(t:List Nat) (r:Addr) (H':Hp),H r=none→H' r=some (.lst (t.map sg))→Low t→t.length=n.toNat→Hand H' p→Keep p H H'→Q (.ref r) H'
section
variable{P:Program}{w:World}{K:PySem.W.Frag}{mg:Str→Option Value}{base:Heap}
theorem scLetters:FnScope ["deck","every","first","step","many"] ["deck"] (aw eQ):=fsc_
theorem gB{ns:List Int}{r:Int}(r0:0≤r)(r1:r<ns.length):∃n∈ns,bF (ns.map V.int) r=some (.int n):=by
 obtain⟨v,hv,hm,e⟩:=cU (ns.map V.int) r r0 (by rw[List.length_map];exact r1)
 obtain⟨n,hn,rfl⟩:=List.mem_map.mp hm
 exact⟨n,hn,e⟩
def mo(es:List Expr):List Stmt→List Stmt
 | [a,b,.Assign t (.Subscript (.List _ p) ix q) r,c,d]=>[a,b,.Assign t (.Subscript (.List es p) ix q) r,c,d]
 | x=>x
theorem nC:∃es,bC eQ=mo es (bC eQ)∧dg es=some [1,3,5,7,9,11,15,17,19,21,23,25]:=⟨_,rfl,rfl⟩
theorem qj(M:Md K mg)(B:Bl mg)(F:FF K "_law_letters" eQ)(F_law_take:Fn P w K mg base ai "_law_take" 1 ["deck","many"] cA):Fn P w K mg base ai "_law_letters" 2 ["deck"] jL:=by
 refine aL M F scLetters (fun _ _ _ _ _ _=>bj fun _=>rfl) (fun vs H Q E h=>?_) (fun f cdv A outer s H vs Q E hr h=>?_)
 ·obtain⟨p,rfl,_⟩:=h;rfl
 ·obtain⟨p,rfl,hp,k⟩:=h
  obtain⟨es,hes,ei⟩:=nC
  rw[hes]
  refine⟨_,(ae (am (i:=1) scLetters.nd rfl (.inr rfl) aO)
   (ae (am (i:=2) scLetters.nd rfl (.inr rfl) (ag F_law_take hr aj (aa (pv 0) (aa ad ac))))
   (ae (am (i:=3) scLetters.nd rfl (.inr rfl) (aZ bh (aY (iI ei)) (ag F_law_take hr aj (aa (pv 0) (aa ad ac))) (fun _ _=>rfl)))
   (ae (am (i:=4) scLetters.nd rfl (.inl rfl) (aZ bh (aY (iI (by rfl))) (ag F_law_take hr aj (aa (pv 0) (aa ad ac))) (fun _ _=>rfl)))
   (ah (ar (bR ["deck","every","first","step","many"] rfl (d5 (by rfl) B.range (aa (pv 4) ac)) (fun _=>by exact lY) (fun _=>by exact(aZ e9 (pv 1) (ak cO (ak aV (pv 2) (ak dZ (pv 3) (pv 5))) ad) (fun _ _=>rfl)))))))))),?_⟩
  refine⟨_,rfl,p,26,rfl,hp,by decide,fun first H1 f0 f1 hp1 k1=>?_⟩
  refine⟨by show 12≤sizeLine;decide,fun l hl=>?_⟩
  refine⟨_,rfl,p,12,rfl,hp1.upd (hp1.ne hl),by decide,fun r H2 r0 r1 hp2 k2=>?_⟩
  have hl2:H2 l=some (.lst ([1,3,5,7,9,11,15,17,19,21,23,25].map V.int)):=k2 _ _ af (hp1.ne hl).symm
  obtain⟨st,hst,est⟩:=gB (ns:=[1,3,5,7,9,11,15,17,19,21,23,25]) r0 r1
  have hst':0≤st∧st≤25:=by simp at hst;omega
  refine⟨l,_,r,_,rfl,rfl,SqL.of hl2,est,?_⟩
  have k02:Keep p H H2:=(k1.trans (Same.upd hl).keep).trans k2
  refine⟨by show 6≤sizeLine;decide,fun l2 hl2'=>?_⟩
  refine⟨_,rfl,p,6,rfl,hp2.upd (hp2.ne hl2'),by decide,fun r2 H3 r20 r21 hp3 k3=>?_⟩
  have hl3:H3 l2=some (.lst ([2,2,3,26,26,1].map V.int)):=k3 _ _ af (hp2.ne hl2').symm
  obtain⟨n,hn,en⟩:=gB (ns:=[2,2,3,26,26,1]) r20 r21
  have hn':1≤n∧n≤26:=by simp at hn;lia
  refine⟨l2,_,r2,_,rfl,rfl,SqL.of hl3,en,?_⟩
  have k03:Keep p H H3:=(k02.trans (Same.upd hl2').keep).trans k3
  refine⟨_,rfl,n,rfl,by lia,by lia,fun D hD b=>?_⟩
  refine di (lo:=0) (n:=n.toNat) (fun i ys H4=>∃t:List Nat,ys=t.map sg∧Low t∧t.length=i∧Same H3 H4∧H4 D=some (.lst ys)) (ce (by lia)) ?_ ?_ ?_ ?_
  ·exact⟨[],rfl,Low.nil,rfl,Same.upd hD,af⟩
  ·rintro i ys H4 ⟨t,rfl,_,rfl,_⟩
   simp
  ·rintro i ys H4 hi ⟨t,rfl,lt,rfl,s4,hD4⟩
   refine ju ?_
   have m1:=Int.emod_nonneg (first+st*(0+(t.length:Int))) (show(26:Int)≠0 by decide)
   have m2:=Int.emod_lt_of_pos (first+st*(0+(t.length:Int))) (show(0:Int)<26 by decide)
   obtain⟨c,_,hm,ec⟩:=cU az ((first+st*(0+(t.length:Int))) % 26) m1 (by simpa [az] using m2)
   have hc:=nI hm
   refine⟨_,rfl,_,rfl,_,rfl,_,rfl,_,_,rfl,rfl,.inl ⟨by lia,by lia⟩,_,_,rfl,rfl,_,_,rfl,rfl,(by show(0:Int)<26;decide),⟨az.toArray⟩,_,c,rfl,rfl,by rw[pB];exact sz (by simp[az]),by simpa using ec,hD4,t++[c],by simp,?_,by simp,?_,af⟩
   ·exact lt.app fun d hd=>by rw[List.mem_singleton.mp hd];exact hc
   ·intro b o e
    rw[ap (aW e hD)]
    exact s4 b o e
  ·rintro ys H4 ⟨t,rfl,lt,hl4,s4,hD4⟩
   exact k t D H4 (hp3.free k03 hD) hD4 lt (by lia) (by lia) (hp3.same s4) (k03.trans s4.keep)
theorem mO:FnScope ["deck","letters","many"] ["deck","letters","many"] (aw gm):=fsc_
theorem pE(M:Md K mg)(B:Bl mg)(F:FF K "_law_signs" gm)(F_law_take:Fn P w K mg base ai "_law_take" 1 ["deck","many"] cA):Fn P w K mg base ai "_law_signs" 2 ["deck","letters","many"] gf:=by
 refine aL M F mO (fun _ _ _ _ _ _=>cR fun _ _ _=>rfl) (fun vs H Q E h=>?_) (fun f cdv A outer s H vs Q E hr h=>?_)
 ·obtain⟨p,b,z,n,rfl,_⟩:=h;rfl
 ·obtain⟨p,b,z,n,rfl,hp,hb,lz,z1,z2,n0,n1,k⟩:=h
  refine⟨_,(ah (ar (bR ["deck","letters","many"] rfl (d5 (by rfl) B.range (aa (pv 2) ac)) (fun _=>by exact lY) (fun _=>by exact(aZ bh (pv 1) (ag F_law_take hr aj (aa (pv 0) (aa (aB B.len (pv 1)) ac))) (fun _ _=>rfl)))))),?_⟩
  have nbp:=au hp hb
  refine⟨_,rfl,n,rfl,by lia,by lia,fun D hD cb=>?_⟩
  have nD:D≠p:=(hp.ne hD).symm
  refine di (lo:=0) (n:=n.toNat) (fun i ys H2=>∃t:List Nat,ys=t.map sg∧Low t∧t.length=i∧Hand H2 p∧Keep p H H2∧H2 D=some (.lst ys)) (ce (by lia)) ?_ ?_ ?_ ?_
  ·exact⟨[],rfl,Low.nil,rfl,hp.upd (hp.ne hD),(Same.upd hD).keep,af⟩
  ·rintro i ys H2 ⟨t,rfl,_,rfl,_⟩
   simp
  ·rintro i ys H2 hi ⟨t,rfl,lt,rfl,hp2,k2,hD2⟩
   refine ju ?_
   have hb2:=k2 _ _ hb nbp
   refine⟨_,rfl,_,rfl,_,rfl,b,_,rfl,SqL.of hb2,p,_,rfl,hp2,by rw[List.length_map];lia,fun r H3 r0 r1 hp3 k3=>?_⟩
   rw[List.length_map] at r1
   obtain⟨c,_,c1,c2,ec⟩:=om lz r0 r1
   refine⟨b,_,r,_,rfl,rfl,SqL.of (k3 _ _ hb2 nbp),ec,k3 _ _ hD2 nD,t++[c],by simp,?_,by simp,hp3.upd nD.symm,?_,af⟩
   ·exact lt.app fun d hd=>by rw[List.mem_singleton.mp hd];exact⟨c1,c2⟩
   ·intro b o e nb
    rw[ap (aW e hD)]
    exact k3 _ _ (k2 b o e nb) nb
  ·rintro ys H2 ⟨t,rfl,lt,hl,hp2,k2,hD2⟩
   exact k t D H2 hD hD2 lt hl hp2 k2
end
abbrev gu:Stmt:=aN 42
abbrev gH:Stmt:=aN 44
def ll:Sp:=fun vs H Q _=>∃(p b:Addr) (z:List Nat) (m:Int),vs=[.ref p,.ref b,.int m]∧Hand H p∧H b=some (.lst (z.map sg))∧Low z∧1≤z.length∧z.length≤900∧1≤m∧m≤12∧
 ∀(t:List Nat) (r:Addr) (H':Hp),H r=none→H' r=some (.lst (t.map sg))→Low t→1≤t.length→t.length≤48→Hand H' p→Keep p H H'→Q (.ref r) H'
def jD:Sp:=fun vs H Q _=>∃(p b a:Addr) (z t:List Nat),vs=[.ref p,.ref b,.ref a]∧Hand H p∧H b=some (.lst (z.map sg))∧Low z∧1≤z.length∧z.length≤900∧H a=some (.lst (t.map sg))∧Low t∧t.length≤900∧
 ∀(u:List Nat) (r:Addr) (H':Hp),H r=none→H' r=some (.lst (u.map sg))→Low u→u.length≤t.length+1→Hand H' p→Keep p H H'→Q (.ref r) H'
section
variable{P:Program}{w:World}{K:PySem.W.Frag}{mg:Str→Option Value}{base:Heap}
theorem jT(n:Nat)(t:List Nat):(List.replicate n (t.map sg)).flatten=((List.replicate n t).flatten).map sg:=by
 induction n with
 | zero=>rfl
 | succ n ih=>rw[List.replicate_succ,List.flatten_cons,ih,List.replicate_succ,List.flatten_cons,List.map_append]
theorem Low.rep{t:List Nat}(h:Low t)(n:Nat):Low (List.replicate n t).flatten:=fun c hc=>by
 obtain⟨l,hl,hc⟩:=List.mem_flatten.mp hc
 rw[(List.mem_replicate.mp hl).2] at hc
 exact h c hc
theorem lM(n:Nat)(t:List Nat):(List.replicate n t).flatten.length=n*t.length:=by
 induction n with
 | zero=>simp
 | succ n ih=>rw[List.replicate_succ,List.flatten_cons,List.length_append,ih,Nat.succ_mul,Nat.add_comm]
theorem scWord:FnScope ["deck","letters","most","way","one"] ["deck","letters","most"] (aw gu):=fsc_
theorem oH(M:Md K mg)(B:Bl mg)(F:FF K "_law_word" gu)(F_law_take:Fn P w K mg base ai "_law_take" 1 ["deck","many"] cA)(F_law_signs:Fn P w K mg base ai "_law_signs" 2 ["deck","letters","many"] gf):Fn P w K mg base ai "_law_word" 3 ["deck","letters","most"] ll:=by
 refine aL M F scWord (fun _ _ _ _ _ _=>cR fun _ _ _=>rfl) (fun vs H Q E h=>?_) (fun f cdv A outer s H vs Q E hr h=>?_)
 ·obtain⟨p,b,z,m,rfl,_⟩:=h;rfl
 ·obtain⟨p,b,z,m,rfl,hp,hb,lz,z1,z2,m1,m2,k⟩:=h
  refine⟨_,(ae (am (i:=3) scWord.nd rfl (.inl rfl) (ag F_law_take hr aj (aa (pv 0) (aa ad ac))))
   (ae (am (i:=4) scWord.nd rfl (.inl rfl) (ag F_law_signs hr aj (aa (pv 0) (aa (pv 1) (aa (ak aV ad (ag F_law_take hr aj (aa (pv 0) (aa (pv 2) ac)))) ac)))))
   (ae (aF (aE bd (pv 3) ad (aC _)) (ah (am (i:=4) scWord.nd rfl (.inl rfl) (ak bw (ak bw (pv 4) (ag F_law_signs hr aj (aa (pv 0) (aa (pv 1) (aa (ag F_law_take hr aj (aa (pv 0) (aa ad ac))) ac))))) (pv 4)))) aM)
   (ae (aF (aE bd (pv 3) ad (aC _)) (ah (am (i:=4) scWord.nd rfl (.inl rfl) (ak bw (ak kw (pv 4) (ak aV ad (ag F_law_take hr aj (aa (pv 0) (aa ad ac))))) (aS aU (pv 4) bb (aP (ag F_law_take hr aj (aa (pv 0) (aa (ak aV (aB B.len (pv 4)) ad) ac)))))))) aM)
   (ah (ar (pv 4))))))),?_⟩
  refine⟨_,rfl,p,4,rfl,hp,by decide,fun way H1 w0 w1 hp1 k1=>?_⟩
  have hb1:=k1 _ _ hb (au hp hb)
  refine⟨_,rfl,_,rfl,_,rfl,_,rfl,p,_,rfl,hp1,m1,fun n H2 n0 n1 hp2 k2=>?_⟩
  have hb2:=k2 _ _ hb1 (au hp1 hb1)
  refine⟨_,_,rfl,rfl,p,b,z,1+n,rfl,hp2,hb2,lz,z1,z2,by lia,by lia,fun t r H3 hr0 hr3 lt tl hp3 k3=>?_⟩
  have hb3:=k3 _ _ hb2 (au hp2 hb2)
  have k03:=(k1.trans k2).trans k3
  have hrn:H r=none:=hp2.free (k1.trans k2) hr0
  have tl':1≤t.length∧t.length≤12:=by lia
  refine⟨_,rfl,rfl,_,rfl,?_⟩
  refine br (fun hc=>?_) (fun hc=>?_)
  ·have hw:way=1:=V.int.inj (of_decide_eq_true hc)
   refine⟨_,rfl,_,rfl,_,rfl,_,rfl,p,3,rfl,hp3,by decide,fun c H4 c0 c1 hp4 k4=>?_⟩
   have hb4:=k4 _ _ hb3 (au hp3 hb3)
   have hr4:=k4 _ _ hr3 (au hp3 hr3)
   refine⟨p,b,z,c,rfl,hp4,hb4,lz,z1,z2,c0,by lia,fun v q H5 hq0 hq5 lv vl hp5 k5=>?_⟩
   have hr5:=k5 _ _ hr4 (au hp4 hr4)
   refine cf hr5 hq5 (by lia) fun l hl=>?_
   have s6:=Same.upd (o:=.lst ((t++v).map sg)) hl
   refine⟨_,rfl,cf af (s6 _ _ hr5) (by rw[List.length_append];lia) fun l2 hl2=>?_⟩
   have s7:=Same.upd (o:=.lst ((t++v++t).map sg)) hl2
   have k06:=((k03.trans k4).trans k5).trans s6.keep
   have hp6:=hp5.same s6
   refine⟨_,rfl,rfl,_,rfl,br (fun hc2=>absurd (V.int.inj (of_decide_eq_true hc2)) (by lia)) fun _=>?_⟩
   exact⟨_,rfl,k (t++v++t) l2 _ (hp6.free k06 hl2) af ((lt.app lv).app lt) (by rw[List.length_append];lia) (by rw[List.length_append,List.length_append];lia) (hp6.same s7) (k06.trans s7.keep)⟩
  ·refine⟨_,rfl,rfl,_,rfl,?_⟩
   refine br (fun hc2=>?_) (fun hc2=>?_)
   ·refine⟨_,rfl,_,rfl,p,3,rfl,hp3,by decide,fun c H5 c0 c1 hp5 k5=>?_⟩
    have hq5:=k5 _ _ hr3 (au hp3 hr3)
    have hle:t.length*(1+c).toNat≤36:=by
     have:(1+c).toNat≤3:=by lia
     exact Nat.le_trans (Nat.mul_le_mul tl'.2 this) (by decide)
    refine⟨_,_,rfl,rfl,r,_,_,rfl,rfl,hq5,by lia,by lia,by rw[List.length_map];exact sz (by lia),fun l hl=>?_⟩
    rw[jT]
    have s6:=Same.upd (o:=.lst ((List.replicate (1+c).toNat t).flatten.map sg)) hl
    have hp6:=hp5.same s6
    refine⟨_,rfl,_,rfl,_,rfl,r,_,rfl,SqL.of (s6 _ _ hq5),_,_,rfl,rfl,p,_,rfl,hp6,by rw[List.length_map];lia,fun d H7 d0 d1 hp7 k7=>?_⟩
    rw[List.length_map] at d1
    have hq7:=k7 _ _ (s6 _ _ hq5) (au hp6 (s6 _ _ hq5))
    have hl7:=k7 _ _ af (au hp6 af)
    refine⟨d,rfl,r,_,rfl,SqL.of hq7,fun l2 hl2=>?_⟩
    rw[bN d0]
    have s8:=Same.upd (o:=.lst ((t.take d.toNat).map sg)) hl2
    have rl:=lM (1+c).toNat t
    rw[Nat.mul_comm] at rl
    refine cf (s8 _ _ hl7) af (by rw[List.length_take];lia) fun l3 hl3=>?_
    have s9:=Same.upd (o:=.lst (((List.replicate (1+c).toNat t).flatten++t.take d.toNat).map sg)) hl3
    have k08:=(((k03.trans k5).trans s6.keep).trans k7).trans s8.keep
    refine⟨_,rfl,k _ l3 _ ((hp7.same s8).free k08 hl3) af ((lt.rep _).app (lt.take _)) ?_ ?_ ((hp7.same s8).same s9) (k08.trans s9.keep)⟩
    ·rw[List.length_append,rl]
     have:1*1≤t.length*(1+c).toNat:=Nat.mul_le_mul tl'.1 (by lia)
     lia
    ·rw[List.length_append,rl,List.length_take];lia
   ·exact⟨_,rfl,k t r H3 hrn hr3 lt tl'.1 (by lia) hp3 k03⟩
theorem scBent:FnScope ["deck","letters","text","at","way"] ["deck","letters","text"] (aw gH):=fsc_
theorem qp(M:Md K mg)(B:Bl mg)(F:FF K "_law_bent" gH)(F_law_take:Fn P w K mg base ai "_law_take" 1 ["deck","many"] cA)(F_law_signs:Fn P w K mg base ai "_law_signs" 2 ["deck","letters","many"] gf):Fn P w K mg base ai "_law_bent" 3 ["deck","letters","text"] jD:=by
 refine aL M F scBent (fun _ _ _ _ _ _=>cR fun _ _ _=>rfl) (fun vs H Q E h=>?_) (fun f cdv A outer s H vs Q E hr h=>?_)
 ·obtain⟨p,b,a,z,t,rfl,_⟩:=h;rfl
 ·obtain⟨p,b,a,z,t,rfl,hp,hb,lz,z1,z2,ha,lt,tl,k⟩:=h
  refine⟨_,(ae (am (i:=3) scBent.nd rfl (.inl rfl) (ag F_law_take hr aj (aa (pv 0) (aa (ak aV (aB B.len (pv 2)) ad) ac))))
   (ae (am (i:=4) scBent.nd rfl (.inl rfl) (ag F_law_take hr aj (aa (pv 0) (aa ad ac))))
   (ae (aF (aE bd (pv 4) ad (aC _)) (ah (ar (ak bw (aS aU (pv 2) bb (aP (pv 3))) (aS aU (pv 2) (aP (ak aV (pv 3) ad)) bb)))) aM)
   (ah (ar (ak bw (ak bw (aS aU (pv 2) bb (aP (pv 3))) (ag F_law_signs hr aj (aa (pv 0) (aa (pv 1) (aa ad ac))))) (aS aU (pv 2) (aP (ak bp (ak aV (pv 3) ad) (pv 4))) bb))))))),?_⟩
  refine⟨_,rfl,_,rfl,a,_,rfl,SqL.of ha,_,_,rfl,rfl,p,_,rfl,hp,by rw[List.length_map];lia,fun at_ H1 a0 a1 hp1 k1=>?_⟩
  rw[List.length_map] at a1
  have hb1:=k1 _ _ hb (au hp hb)
  have ha1:=k1 _ _ ha (au hp ha)
  refine⟨_,rfl,p,3,rfl,hp1,by decide,fun way H2 w0 w1 hp2 k2=>?_⟩
  have hb2:=k2 _ _ hb1 (au hp1 hb1)
  have ha2:=k2 _ _ ha1 (au hp1 ha1)
  have k02:=k1.trans k2
  refine⟨_,rfl,rfl,_,rfl,?_⟩
  refine br (fun hc=>?_) (fun hc=>?_)
  ·refine⟨_,rfl,_,rfl,at_,rfl,a,_,rfl,SqL.of ha2,fun l hl=>?_⟩
   rw[bN a0]
   have s3:=Same.upd (o:=.lst ((t.take at_.toNat).map sg)) hl
   refine⟨_,rfl,_,rfl,_,_,rfl,rfl,at_+1,rfl,a,_,rfl,SqL.of (s3 _ _ ha2),fun l2 hl2=>?_⟩
   rw[cI (by lia)]
   have s4:=Same.upd (o:=.lst ((t.drop (at_+1).toNat).map sg)) hl2
   refine cf (s4 _ _ af) af (by rw[List.length_take,List.length_drop];lia) fun l3 hl3=>?_
   have s5:=Same.upd (o:=.lst ((t.take at_.toNat++t.drop (at_+1).toNat).map sg)) hl3
   have s24:=s3.trans s4
   have k04:=k02.trans s24.keep
   have hp4:=hp2.same s24
   exact k _ l3 _ (hp4.free k04 hl3) af ((lt.take _).app (lt.drop _)) (by rw[List.length_append,List.length_take,List.length_drop];lia) (hp4.same s5) (k04.trans s5.keep)
  ·have hw:way≠0:=fun q=>iO hc (by rw[q])
   refine⟨_,rfl,_,rfl,at_,rfl,a,_,rfl,SqL.of ha2,fun l hl=>?_⟩
   rw[bN a0]
   have s3:=Same.upd (o:=.lst ((t.take at_.toNat).map sg)) hl
   have hp3:=hp2.same s3
   refine⟨_,rfl,_,rfl,p,b,z,1,rfl,hp3,s3 _ _ hb2,lz,z1,z2,by decide,by decide,fun v q H4 hq0 hq4 lv vl hp4 k4=>?_⟩
   have hl4:=k4 _ _ af (au hp3 af)
   have ha4:=k4 _ _ (s3 _ _ ha2) (au hp3 (s3 _ _ ha2))
   refine cf hl4 hq4 (by rw[List.length_take,vl];show _+1≤5000;lia) fun l3 hl3=>?_
   have s5:=Same.upd (o:=.lst ((t.take at_.toNat++v).map sg)) hl3
   refine⟨_,rfl,_,rfl,_,_,rfl,rfl,_,rfl,_,_,rfl,rfl,at_+2-way,rfl,a,_,rfl,SqL.of (s5 _ _ ha4),fun l4 hl4'=>?_⟩
   rw[cI (by lia)]
   have s6:=Same.upd (o:=.lst ((t.drop (at_+2-way).toNat).map sg)) hl4'
   have vl':v.length=1:=vl
   refine cf (s6 _ _ af) af (by rw[List.length_append,List.length_take,List.length_drop];lia) fun l5 hl5=>?_
   have s7:=Same.upd (o:=.lst ((t.take at_.toNat++v++t.drop (at_+2-way).toNat).map sg)) hl5
   have s46:=s5.trans s6
   have k06:=((k02.trans s3.keep).trans k4).trans s46.keep
   have hp6:=hp4.same s46
   exact k _ l5 _ (hp6.free k06 hl5) af (((lt.take _).app lv).app (lt.drop _)) (by rw[List.length_append,List.length_append,List.length_take,List.length_drop];lia) (hp6.same s7) (k06.trans s7.keep)
end
abbrev iD:Stmt:=aN 43
def lp:Sp:=fun vs H Q _=>∃(p b a:Addr) (z u:List Nat) (n:Int),vs=[.ref p,.ref b,.ref a,.int n]∧Hand H p∧H b=some (.lst (z.map sg))∧Low z∧1≤z.length∧z.length≤900∧H a=some (.lst (u.map sg))∧Low u∧1≤u.length∧u.length≤48∧0≤n∧n≤20∧
 ∀(t:List Nat) (r:Addr) (H':Hp),H r=none→H' r=some (.lst (t.map sg))→Low t→1≤t.length→t.length≤1030→Hand H' p→Keep p H H'→Q (.ref r) H'
section
variable{P:Program}{w:World}{K:PySem.W.Frag}{mg:Str→Option Value}{base:Heap}
theorem oj{ks:List Nat}{r:Int}(r0:0≤r)(r1:r<ks.length):∃k:Nat,k∈ks∧ks[r.toNat]?=some k∧bF (aT ks) r=some (V.int (k:Int)):=by
 obtain⟨v,hv,hm,e⟩:=cU (aT ks) r r0 (by rw[cL];exact r1)
 unfold aT at hv
 rw[List.map_map,List.getElem?_map] at hv
 cases q:ks[r.toNat]? with
 | none=>rw[q] at hv;cases hv
 | some k=>
   rw[q] at hv
   have:V.int (k:Int)=v:=Option.some.inj hv
   subst this
   exact⟨k,List.mem_of_getElem? q,rfl,e⟩
theorem scOverlaid:FnScope ["deck","letters","word","many","found","k","some","over"] ["deck","letters","word","many"] (aw iD):=fsc_
theorem mV(M:Md K mg)(B:Bl mg)(F:FF K "_law_overlaid" iD)(F_law_take:Fn P w K mg base ai "_law_take" 1 ["deck","many"] cA)(F_law_signs:Fn P w K mg base ai "_law_signs" 2 ["deck","letters","many"] gf):Fn P w K mg base ai "_law_overlaid" 3 ["deck","letters","word","many"] lp:=by
 refine aL M F scOverlaid (fun _ _ _ _ _ _=>ja fun _ _ _ _=>rfl) (fun vs H Q E h=>?_) (fun f cdv A outer s H vs Q E hr h=>?_)
 ·obtain⟨p,b,a,z,u,n,rfl,_⟩:=h;rfl
 ·obtain⟨p,b,a,z,u,n,rfl,hp,hb,lz,z1,z2,ha,lu,u1,u2,n0,n1,k⟩:=h
  refine⟨_,(ae (am (i:=4) scOverlaid.nd rfl (.inr rfl) (eH B.list (pv 2)))
   (ae (bM PassesOwn.never rfl (d5 (by rfl) B.range (aa (pv 3) ac)) (bz (i:=5) scOverlaid.nd rfl (.inl rfl))
   (ae (pG (i:=6) ["deck","letters","word","many","found","k","some","over"] rfl scOverlaid.nd rfl (.inl rfl) (d5 (by rfl) B.range (aa (aB B.len (pv 2)) ac)) (fun _=>by exact(bW (PW.pt (dF (aE bd (pv 8) ad (aC _)) (fy (aE (iy (by exact hr)) (aS aU (pv 4) (aP (ak bp (aB B.len (pv 4)) (pv 8))) bb) (aS aU (pv 2) bb (aP (pv 8))) (aC _))))))) (fun _=>by exact(pv 8)))
   (ae (am (i:=7) scOverlaid.nd rfl (.inl rfl) (aZ bh (pv 6) (ag F_law_take hr aj (aa (pv 0) (aa (aB B.len (pv 6)) ac))) (fun _ _=>rfl)))
   (ae (aF (aE bd (ag F_law_take hr aj (aa (pv 0) (aa ad ac))) ad (aC _)) (ae (am (i:=4) scOverlaid.nd rfl (.inr rfl) (ak bw (pv 4) (ag F_law_signs hr aj (aa (pv 0) (aa (pv 1) (aa ad ac))))))
   (ah (am (i:=7) scOverlaid.nd rfl (.inl rfl) ad))) aM)
   (ah (am (i:=4) scOverlaid.nd rfl (.inr rfl) (ak bw (pv 4) (aS aU (pv 2) (aP (pv 7)) bb))))))))
   (ah (ar (pv 4))))),?_⟩
  refine⟨_,rfl,a,_,rfl,SqL.of ha,fun r0 hr0=>?_⟩
  have s0:=Same.upd (o:=.lst (u.map sg)) hr0
  refine⟨_,rfl,n,rfl,by lia,by lia,?_⟩
  refine iE (lo:=0) (n:=n.toNat) (fun i σ H2=>∃(t:List Nat) (r:Addr) (v5 v6 v7:Option V),σ=[some (.ref p),some (.ref b),some (.ref a),some (.int n),some (.ref r),v5,v6,v7]∧H r=none∧H2 r=some (.lst (t.map sg))∧Low t∧u.length≤t.length∧t.length≤48+i*49∧Hand H2 p∧Keep p H H2) ?_ ?_ ?_
  ·exact⟨u,r0,none,none,none,rfl,hr0,af,lu,Nat.le_refl _,by lia,hp.same s0,s0.keep⟩
  ·rintro i σ H2 hi ⟨t,r,v5,v6,v7,rfl,hrn,hr2,lt,tu,tl,hp2,k2⟩
   have hi':i<20:=by lia
   have hb2:=k2 _ _ hb (au hp hb)
   have ha2:=k2 _ _ ha (au hp ha)
   refine⟨_,rfl,a,_,rfl,SqL.of ha2,_,rfl,by lia,by rw[List.length_map];lia,fun D hD cb=>?_⟩
   rw[List.length_map,Int.toNat_natCast]
   refine di (lo:=0) (n:=u.length) (fun j ys H3=>∃ks:List Nat,ys=aT ks∧(∀q∈ks,q<u.length)∧ks.length≤j∧(1≤j→1≤ks.length)∧Same H2 H3∧H3 D=some (.lst ys)) (ce (by lia)) ?_ ?_ ?_ ?_
   ·exact⟨[],rfl,fun q hq=>by(cases hq),Nat.le_refl _,fun h=>by lia,Same.upd hD,af⟩
   ·rintro j ys H3 ⟨ks,rfl,_,h,_⟩
    rw[cL];exact h
   ·rintro j ys H3 hj ⟨ks,rfl,hk,kl,kn,s3,hD3⟩
    have add:∀H4:Hp,Same H3 H4→H4 D=some (.lst (aT ks))∧∃ks':List Nat,aT ks++[V.int (0+(j:Int))]=aT ks'∧(∀q∈ks',q<u.length)∧ks'.length≤j+1∧(1≤j+1→1≤ks'.length)∧Same H2 (L2.upd H4 D (.lst (aT ks++[V.int (0+(j:Int))])))∧(L2.upd H4 D (.lst (aT ks++[V.int (0+(j:Int))]))) D=some (.lst (aT ks++[V.int (0+(j:Int))])):=fun H4 s4=>
     ⟨s4 _ _ hD3,ks++[j],(lR ks j).symm,fun q hq=>by
      rcases List.mem_append.mp hq with z | z
      ·exact hk q z
      ·rw[List.mem_singleton.mp z];exact hj,by simp;lia,fun _=>by simp,fun b o e=>by
       rw[ap (aW e hD)]
       exact s4 _ _ (s3 b o e),af⟩
    refine⟨_,rfl,rfl,_,rfl,?_⟩
    refine br (fun hc=>?_) (fun hc=>?_)
    ·exact aQ ⟨_,rfl,add H3 (Same.refl _)⟩
    ·have hj0:j≠0:=fun q=>iO hc (by rw[q];rfl)
     refine⟨_,rfl,_,rfl,r,_,rfl,SqL.of (s3 _ _ hr2),_,rfl,_,_,rfl,rfl,_,rfl,r,_,rfl,SqL.of (s3 _ _ hr2),fun p1 hp1=>?_⟩
     rw[List.length_map,cI (by lia)]
     have s4:=Same.upd (o:=.lst ((t.drop ((t.length:Int)-(0+(j:Int))).toNat).map sg)) hp1
     refine⟨_,rfl,_,rfl,_,rfl,a,_,rfl,SqL.of (s4 _ _ (s3 _ _ ha2)),fun p2 hp2=>?_⟩
     rw[bN (by lia)]
     have s5:=Same.upd (o:=.lst ((u.take (0+(j:Int)).toNat).map sg)) hp2
     refine⟨p1,p2,_,_,rfl,rfl,SqL.of (s5 _ _ af),SqL.of af,(lt.drop _).cp,(lu.take _).cp,_,rfl,?_⟩
     refine br (fun hd=>?_) (fun hd=>?_)
     ·exact⟨_,rfl,add _ (s4.trans s5)⟩
     ·exact⟨ks,rfl,hk,by lia,fun _=>kn (by lia),s3.trans (s4.trans s5),(s4.trans s5) _ _ hD3⟩
   ·rintro ys H3 ⟨ks,rfl,hk,kl,kn,s3,hD3⟩
    have hp3:=hp2.same s3
    have k03:=k2.trans s3.keep
    have nDp:D≠p:=fun q=>by
     obtain⟨x,y,w',e⟩:=hp2
     rw[←q,hD] at e;cases e
    have kn':=kn u1
    refine⟨_,rfl,_,rfl,_,rfl,D,_,rfl,SqL.of hD3,p,_,rfl,hp3,by rw[cL];lia,fun c H4 c0 c1 hp4 k4=>?_⟩
    rw[cL] at c1
    obtain⟨o,ho,_,eo⟩:=oj c0 c1
    have hou:=hk o ho
    have hD4:=k4 _ _ hD3 nDp
    have k04:=k03.trans k4
    have hr3:=s3 _ _ hr2
    have hr4:=k4 _ _ hr3 (au hp3 hr3)
    refine⟨D,_,c,_,rfl,rfl,SqL.of hD4,eo,?_⟩
    refine⟨_,rfl,p,8,rfl,hp4,by decide,fun e H5 e0 e1 hp5 k5=>⟨rfl,_,rfl,?_⟩⟩
    have k05:=k04.trans k5
    have hr5:=k5 _ _ hr4 (au hp4 hr4)
    have hb5:=k05 _ _ hb (au hp hb)
    have ha5:=k05 _ _ ha (au hp ha)
    refine br (fun hc=>?_) (fun hc=>?_)
    ·refine⟨_,rfl,_,rfl,_,rfl,p,b,z,1,rfl,hp5,hb5,lz,z1,z2,by decide,by decide,fun v q H6 hq0 hq6 lv vl hp6 k6=>?_⟩
     have hr6:=k6 _ _ hr5 (au hp5 hr5)
     have vl':v.length=1:=vl
     refine cf hr6 hq6 (by lia) fun l hl=>?_
     have s7:=Same.upd (o:=.lst ((t++v).map sg)) hl
     have k07:=(k05.trans k6).trans s7.keep
     have ha7:=k07 _ _ ha (au hp ha)
     refine⟨_,rfl,_,rfl,_,rfl,0,rfl,a,_,rfl,SqL.of ha7,fun l2 hl2=>?_⟩
     rw[cI (by decide)]
     have s8:=Same.upd (o:=.lst ((u.drop (0:Int).toNat).map sg)) hl2
     refine cf (s8 _ _ af) af (by rw[List.length_append,List.length_drop];lia) fun l3 hl3=>?_
     have s9:=Same.upd (o:=.lst ((t++v++u.drop (0:Int).toNat).map sg)) hl3
     have k08:=k07.trans s8.keep
     have hp8:=(hp6.same s7).same s8
     exact⟨_,l3,_,_,_,rfl,hp8.free k08 hl3,af,(lt.app lv).app (lu.drop _),by rw[List.length_append,List.length_append];lia,by rw[List.length_append,List.length_append,List.length_drop];lia,hp8.same s9,k08.trans s9.keep⟩
    ·refine⟨_,rfl,_,rfl,_,rfl,o,rfl,a,_,rfl,SqL.of ha5,fun l2 hl2=>?_⟩
     rw[cI (by lia)]
     have s8:=Same.upd (o:=.lst ((u.drop (o:Int).toNat).map sg)) hl2
     refine cf (s8 _ _ hr5) af (by rw[List.length_drop];lia) fun l3 hl3=>?_
     have s9:=Same.upd (o:=.lst ((t++u.drop (o:Int).toNat).map sg)) hl3
     have k08:=k05.trans s8.keep
     have hp8:=hp5.same s8
     exact⟨_,l3,_,_,_,rfl,hp8.free k08 hl3,af,lt.app (lu.drop _),by rw[List.length_append];lia,by rw[List.length_append,List.length_drop];lia,hp8.same s9,k08.trans s9.keep⟩
  ·rintro σ H2 ⟨t,r,v5,v6,v7,rfl,hrn,hr2,lt,tu,tl,hp2,k2⟩
   have hn20:n.toNat≤20:=by lia
   exact⟨_,rfl,k t r H2 hrn hr2 lt (by lia) (by lia) hp2 k2⟩
end
abbrev gJ:Stmt:=aN 45
def iQ:Sp:=fun vs H Q _=>∃(p:Addr),vs=[.ref p,.bl false]∧Hand H p∧
 ∀(t u:List Nat) (a b g:Addr) (H':Hp),H a=none→H b=none→H g=none→H' a=some (.lst (t.map sg))→H' b=some (.lst (u.map sg))→H' g=some (.tup [.ref a,.ref b])→Low t→1≤t.length→t.length≤200→Low u→1≤u.length→u.length≤49→Hand H' p→Keep p H H'→Q (.ref g) H'
section
variable{P:Program}{w:World}{K:PySem.W.Frag}{mg:Str→Option Value}{base:Heap}
theorem scPair:FnScope ["deck","long","letters","word","text","begin","end"] ["deck","long"] (aw gJ):=fsc_
theorem jX{H:Hp}{p l:Addr}{r m:Int}(r0:0≤r)(r1:r<2)(hm:1≤m):∃v:Int,bF [V.int 1,V.int m] r=some (.int v)∧1≤v∧v≤m:=by
 obtain⟨v,hv,hmem,e⟩:=cU [V.int 1,V.int m] r r0 (by simpa using r1)
 simp at hmem
 rcases hmem with rfl | rfl
 ·exact⟨1,e,by decide,hm⟩
 ·exact⟨m,e,hm,by lia⟩
theorem jm{K:PySem.W.Frag}{H:Hp}{a:Addr}{t z:List Nat}{b:Addr}{σ:St}{i j:Nat}{Q:VK}(hi:σ[i]?=some (some (.ref a)))(hj:σ[j]?=some (some (.ref b)))(ha:H a=some (.lst (t.map sg)))(hb:H b=some (.lst (z.map sg)))(lt:Low t)(lz:Low z)(z1:1≤z.length)(k:∀(t':List Nat) (r:Addr) (H':Hp),(r=a∨H r=none)→H' r=some (.lst (t'.map sg))→Low t'→1≤t'.length→(t'.length≤t.length∨t'.length=1)→Same H H'→Q (.ref r) H'):iS K (bK i) (eY (eL K) (bK j) eC (et (tC (.int 1)))) σ H Q:=by
 refine⟨_,hi,?_⟩
 by_cases ht:t=[]
 ·subst ht
  refine⟨false,.inl ⟨_,SqL.of ha,rfl⟩,aA ?_⟩
  refine⟨_,hj,1,rfl,b,_,rfl,SqL.of hb,fun l hl=>?_⟩
  rw[bN (by decide)]
  refine k (z.take 1) l _ (.inr hl) af (lz.take _) ?_ (.inr ?_) (Same.upd hl)
  ·rw[List.length_take];lia
  ·rw[List.length_take];lia
 ·refine⟨true,.inl ⟨_,SqL.of ha,?_⟩,aQ ?_⟩
  ·cases t with
   | nil=>exact absurd rfl ht
   | cons _ _=>rfl
  ·refine k t a H (.inl rfl) ha lt ?_ (.inl (Nat.le_refl _)) (Same.refl _)
   cases t with
   | nil=>exact absurd rfl ht
   | cons _ _=>simp
theorem gr{c:TT}{t u aJ:TS}{D:Ends}{σ:St}{H:Hp}(T:St→Hp→Prop)(hr:∀σ' H',T σ' H'→aJ D σ' H')(h:∀R:St→Hp→Prop,(∀σ' H',T σ' H'→R σ' H')→c σ H fun b H1=>if b=true then t {D with nx:=R} σ H1 else u {D with nx:=R} σ H1):cJ (eG c t u) aJ D σ H:=h (aJ D) hr
theorem sy(M:Md K mg)(B:Bl mg)(F:FF K "_law_pair" gJ)(F_law_take:Fn P w K mg base ai "_law_take" 1 ["deck","many"] cA)(F_law_letters:Fn P w K mg base ai "_law_letters" 2 ["deck"] jL)(F_law_word:Fn P w K mg base ai "_law_word" 3 ["deck","letters","most"] ll)(F_law_overlaid:Fn P w K mg base ai "_law_overlaid" 3 ["deck","letters","word","many"] lp)(F_law_bent:Fn P w K mg base ai "_law_bent" 3 ["deck","letters","text"] jD):Fn P w K mg base ai "_law_pair" 4 ["deck","long"] iQ:=by
 refine aL M F scPair (fun _ _ _ _ _ _=>bx fun _ _=>rfl) (fun vs H Q E h=>?_) (fun f cdv A outer s H vs Q E hr h=>?_)
 ·obtain⟨p,rfl,_⟩:=h;rfl
 ·obtain⟨p,rfl,hp,k⟩:=h
  refine⟨_,(ae (am (i:=2) scPair.nd rfl (.inl rfl) (ag F_law_letters hr aj (aa (pv 0) ac)))
   (ae (am (i:=3) scPair.nd rfl (.inl rfl) (ag F_law_word hr aj (aa (pv 0) (aa (pv 2) (aa (aZ bh (aY (aa ad (aa ad (aa ad ac)))) (ag F_law_take hr aj (aa (pv 0) (aa ad ac))) (fun _ _=>rfl)) ac)))))
   (ae (am (i:=4) scPair.nd rfl (.inl rfl) (ag F_law_overlaid hr aj (aa (pv 0) (aa (pv 2) (aa (pv 3) (aa (ag F_law_take hr aj (aa (pv 0) (aa ad ac))) ac))))))
   (ae (aF (PW.pt (ie (bt (pv 1)) (iM (aE bd (ag F_law_take hr aj (aa (pv 0) (aa ad ac))) ad (aC _))))) (ae (am (i:=4) scPair.nd rfl (.inl rfl) (ag F_law_overlaid hr aj (aa (pv 0) (aa (pv 2) (aa (pv 3) (aa ad ac))))))
   (ah (mD PassesOwn.never (aE e6 (aB B.len (pv 4)) ad (aC _)) (ah (am (i:=4) scPair.nd rfl (.inl rfl) (ak bw (pv 4) (pv 4))))))) aM)
   (ae (am (i:=5) scPair.nd rfl (.inl rfl) (ag F_law_take hr aj (aa (pv 0) (aa (aZ bh (aY (aa ad (aa (ak aV (aB B.len (pv 3)) ad) ac))) (ag F_law_take hr aj (aa (pv 0) (aa ad ac))) (fun _ _=>rfl)) ac))))
   (ae (am (i:=6) scPair.nd rfl (.inl rfl) (ag F_law_take hr aj (aa (pv 0) (aa (aZ bh (aY (aa ad (aa (ak aV (aB B.len (pv 3)) ad) ac))) (ag F_law_take hr aj (aa (pv 0) (aa ad ac))) (fun _ _=>rfl)) ac))))
   (ae (am (i:=4) scPair.nd rfl (.inl rfl) (aS aU (aS aU (pv 4) (aP (pv 5)) bb) bb (aP ad)))
   (ae (am (i:=4) scPair.nd rfl (.inl rfl) (aS aU (pv 4) bb (aP (ak bp (aB B.len (pv 4)) (jk rfl B.min (pv 6) (aB B.len (pv 4)))))))
   (ae (aF (aE bd (ag F_law_take hr aj (aa (pv 0) (aa ad ac))) ad (aC _)) (ah (am (i:=4) scPair.nd rfl (.inl rfl) (aS aU (ag F_law_bent hr aj (aa (pv 0) (aa (pv 2) (aa (pv 4) ac)))) bb (aP ad)))) aM)
   (ae (aF (aE bd (ag F_law_take hr aj (aa (pv 0) (aa ad ac))) ad (aC _)) (ah (am (i:=3) scPair.nd rfl (.inl rfl) (ag F_law_bent hr aj (aa (pv 0) (aa (pv 2) (aa (pv 3) ac)))))) aM)
   (ah (ar (cV (aa (kL (pv 4) (dX (aS aU (pv 2) bb (aP ad)))) (aa (kL (pv 3) (dX (aS aU (pv 2) bb (aP ad)))) ac))))))))))))))),?_⟩
  refine⟨_,rfl,p,rfl,hp,fun z b H1 hb0 hb1 lz z1 z2 hp1 k1=>?_⟩
  refine⟨_,rfl,_,rfl,by show 3≤sizeLine;decide,fun l hl=>?_⟩
  have s2:=Same.upd (o:=.lst [.int 3,.int 6,.int 12]) hl
  have hp1':=hp1.same s2
  refine⟨_,rfl,p,3,rfl,hp1',by decide,fun r H2 r0 r1 hp2 k2=>?_⟩
  have hl2:H2 l=some (.lst ([3,6,12].map V.int)):=k2 _ _ af (fun q=>by obtain⟨x,y,w',e⟩:=hp1;rw[←q,hl] at e;cases e)
  obtain⟨m,hm,em⟩:=gB (ns:=[3,6,12]) r0 r1
  have hm':1≤m∧m≤12:=by simp at hm;lia
  refine⟨l,_,r,_,rfl,rfl,SqL.of hl2,em,?_⟩
  have k02:=(k1.trans s2.keep).trans k2
  have hb2:=k2 _ _ (s2 _ _ hb1) (au hp1' (s2 _ _ hb1))
  refine⟨p,b,z,m,rfl,hp2,hb2,lz,z1,by lia,hm'.1,hm'.2,fun u a H3 ha0 ha3 lu u1 u2 hp3 k3=>?_⟩
  have hb3:=k3 _ _ hb2 (au hp2 hb2)
  have k03:=k02.trans k3
  have han:H a=none:=hp2.free k02 ha0
  have hbn:H b=none:=hb0
  refine⟨_,rfl,_,rfl,_,rfl,_,rfl,p,5,rfl,hp3,by decide,fun c H4 c0 c1 hp4 k4=>?_⟩
  have hb4:=k4 _ _ hb3 (au hp3 hb3)
  have ha4:=k4 _ _ ha3 (au hp3 ha3)
  have k04:=k03.trans k4
  refine⟨p,b,a,z,u,c,rfl,hp4,hb4,lz,z1,by lia,ha4,lu,u1,u2,c0,by lia,fun t q H5 hq0 hq5 lt t1 t2 hp5 k5=>?_⟩
  have hb5:=k5 _ _ hb4 (au hp4 hb4)
  have ha5:=k5 _ _ ha4 (au hp4 ha4)
  have k05:=k04.trans k5
  have hqn:H q=none:=hp4.free k04 hq0
  (try dsimp only[cE])
  refine gr (fun σ H'=>∃(t:List Nat) (q:Addr),σ=[some (.ref p),some (.bl false),some (.ref b),some (.ref a),some (.ref q),none,none]∧H q=none∧H' q=some (.lst (t.map sg))∧Low t∧1≤t.length∧t.length≤1030∧H' b=some (.lst (z.map sg))∧H' a=some (.lst (u.map sg))∧Hand H' p∧Keep p H H') ?_ fun R hR=>?_
  ·rintro σ H7 ⟨t,q,rfl,hqn,hq7,lt,t1,t2,hb7,ha7,hp7,k07⟩
   refine⟨_,rfl,_,rfl,a,_,rfl,SqL.of ha7,_,_,rfl,rfl,by show 2≤sizeLine;decide,fun l hl=>?_⟩
   have s8:=Same.upd (o:=.lst [.int 1,.int (((u.map sg).length:Int)+1)]) hl
   have hp7':=hp7.same s8
   refine⟨_,rfl,p,2,rfl,hp7',by decide,fun r H8 r0 r1 hp8 k8=>?_⟩
   have hl8:=k8 _ _ af (fun q=>by obtain⟨x,y,w',e⟩:=hp7;rw[←q,hl] at e;cases e)
   obtain⟨v,ev,v1,v2⟩:=jX (H:=H8) (p:=p) (l:=l) r0 r1 (m:=((u.map sg).length:Int)+1) (by lia)
   refine⟨l,_,r,_,rfl,rfl,SqL.of hl8,ev,p,v,rfl,hp8,v1,fun begin H9 b0 b1 hp9 k9=>?_⟩
   have k09:=((k07.trans s8.keep).trans k8).trans k9
   have up:∀{e:Addr} {x:List Nat},H7 e=some (.lst (x.map sg))→H9 e=some (.lst (x.map sg)):=fun{e x} h=>by
    have h1:=k8 _ _ (s8 _ _ h) (au hp7' (s8 _ _ h))
    exact k9 _ _ h1 (au hp8 h1)
   have hq9:=up hq7
   have ha9:=up ha7
   have hb9:=up hb7
   refine⟨_,rfl,_,rfl,a,_,rfl,SqL.of ha9,_,_,rfl,rfl,by show 2≤sizeLine;decide,fun l' hl'=>?_⟩
   have s10:=Same.upd (o:=.lst [.int 1,.int (((u.map sg).length:Int)+1)]) hl'
   have hp9':=hp9.same s10
   refine⟨_,rfl,p,2,rfl,hp9',by decide,fun r' H10 r0' r1' hp10 k10=>?_⟩
   have hl10:=k10 _ _ af (fun q=>by obtain⟨x,y,w',e⟩:=hp9;rw[←q,hl'] at e;cases e)
   obtain⟨v',ev',v1',v2'⟩:=jX (H:=H10) (p:=p) (l:=l') r0' r1' (m:=((u.map sg).length:Int)+1) (by lia)
   refine⟨l',_,r',_,rfl,rfl,SqL.of hl10,ev',p,v',rfl,hp10,v1',fun en H11 en0 en1 hp11 k11=>?_⟩
   have k011:=((k09.trans s10.keep).trans k10).trans k11
   have up2:∀{e:Addr} {x:List Nat},H9 e=some (.lst (x.map sg))→H11 e=some (.lst (x.map sg)):=fun{e x} h=>by
    have h1:=k10 _ _ (s10 _ _ h) (au hp9' (s10 _ _ h))
    exact k11 _ _ h1 (au hp10 h1)
   have hq11:=up2 hq9
   have ha11:=up2 ha9
   have hb11:=up2 hb9
   refine⟨_,rfl,_,rfl,begin,rfl,q,_,rfl,SqL.of hq11,fun l1 hl1=>?_⟩
   rw[cI b0]
   have s12:=Same.upd (o:=.lst ((t.drop begin.toNat).map sg)) hl1
   refine⟨200,rfl,l1,_,rfl,SqL.of af,fun l2 hl2=>?_⟩
   rw[bN (by decide)]
   have s13:=s12.trans (Same.upd (o:=.lst (((t.drop begin.toNat).take (200:Int).toNat).map sg)) hl2)
   have lx:Low ((t.drop begin.toNat).take (200:Int).toNat):=(lt.drop _).take _
   have xl:((t.drop begin.toNat).take (200:Int).toNat).length≤200:=by rw[List.length_take];exact Nat.min_le_left _ _
   have hx13:=af (H:=L2.upd H11 l1 (.lst ((t.drop begin.toNat).map sg))) (a:=l2) (o:=.lst (((t.drop begin.toNat).take (200:Int).toNat).map sg))
   generalize (t.drop begin.toNat).take (200:Int).toNat=x at*
   generalize L2.upd (L2.upd H11 l1 (.lst ((t.drop begin.toNat).map sg))) l2 (.lst (x.map sg))=H13 at*
   have hp13:=hp11.same s13
   have k013:=k011.trans s13.keep
   refine⟨_,rfl,_,rfl,l2,_,rfl,SqL.of hx13,_,rfl,_,rfl,l2,_,rfl,SqL.of hx13,_,_,rfl,rfl,_,_,rfl,rfl,_,rfl,l2,_,rfl,SqL.of hx13,fun l3 hl3=>?_⟩
   rw[bN (by rw[List.length_map];split <;> lia)]
   have s14:=Same.upd (o:=.lst ((x.take (((x.map sg).length:Int)-(if((x.map sg).length:Int)<en then((x.map sg).length:Int) else en)).toNat).map sg)) hl3
   have ly:Low (x.take (((x.map sg).length:Int)-(if((x.map sg).length:Int)<en then((x.map sg).length:Int) else en)).toNat):=lx.take _
   have yl:(x.take (((x.map sg).length:Int)-(if((x.map sg).length:Int)<en then((x.map sg).length:Int) else en)).toNat).length≤200:=Nat.le_trans (by rw[List.length_take];exact Nat.min_le_right _ _) xl
   have hy14:=af (H:=H13) (a:=l3) (o:=.lst ((x.take (((x.map sg).length:Int)-(if((x.map sg).length:Int)<en then((x.map sg).length:Int) else en)).toNat).map sg))
   generalize x.take (((x.map sg).length:Int)-(if((x.map sg).length:Int)<en then((x.map sg).length:Int) else en)).toNat=y at*
   have hp14:=hp13.same s14
   have k014:=k013.trans s14.keep
   have hl3n:H l3=none:=hp13.free k013 hl3
   have ha14:=s14 _ _ (s13 _ _ ha11)
   have hb14:=s14 _ _ (s13 _ _ hb11)
   generalize L2.upd H13 l3 (.lst (y.map sg))=H14 at*
   (try dsimp only[cE])
   refine gr (fun σ H'=>∃(t:List Nat) (q:Addr),σ=[some (.ref p),some (.bl false),some (.ref b),some (.ref a),some (.ref q),some (.int begin),some (.int en)]∧H q=none∧H' q=some (.lst (t.map sg))∧Low t∧t.length≤200∧H' b=some (.lst (z.map sg))∧H' a=some (.lst (u.map sg))∧Hand H' p∧Keep p H H') ?_ fun R hR=>?_
   ·rintro σ H16 ⟨y',q',rfl,hqn',hq16,ly',yl',hb16,ha16,hp16,k016⟩
    (try dsimp only[cE])
    refine gr (fun σ H'=>∃(u':List Nat) (a':Addr),σ=[some (.ref p),some (.bl false),some (.ref b),some (.ref a'),some (.ref q'),some (.int begin),some (.int en)]∧H a'=none∧H' a'=some (.lst (u'.map sg))∧Low u'∧u'.length≤49∧H' b=some (.lst (z.map sg))∧H' q'=some (.lst (y'.map sg))∧Hand H' p∧Keep p H H') ?_ fun R hR=>?_
    ·rintro σ H18 ⟨u',a',rfl,han',ha18,lu',ul',hb18,hq18,hp18,k018⟩
     refine jm (K:=K) (i:=4) (j:=2) rfl rfl hq18 hb18 ly' lz z1 fun t' r2 H19 hr2 hr19 lt' t1' tl' s19=>?_
     have ha19:=s19 _ _ ha18
     have hb19:=s19 _ _ hb18
     refine jm (K:=K) (i:=3) (j:=2) rfl rfl ha19 hb19 lu' lz z1 fun u2' r3 H20 hr3 hr20 lu2 u1' ul2 s20=>?_
     refine⟨by show 2≤sizeLine;decide,fun g2 hg2=>?_⟩
     have s21:=Same.upd (o:=.tup [.ref r2,.ref r3]) hg2
     have k019:=k018.trans s19.keep
     have k020:=k019.trans s20.keep
     have hp19:=hp18.same s19
     have hp20:=hp19.same s20
     refine k t' u2' r2 r3 g2 _ ?_ ?_ (hp20.free k020 hg2) (s21 _ _ (s20 _ _ hr19)) (s21 _ _ hr20) af lt' t1' ?_ lu2 u1' ?_ (hp20.same s21) (k020.trans s21.keep)
     ·rcases hr2 with rfl | h
      ·exact hqn'
      ·exact hp18.free k018 h
     ·rcases hr3 with rfl | h
      ·exact han'
      ·exact hp19.free k019 h
     ·rcases tl' with h | h <;> lia
     ·rcases ul2 with h | h <;> lia
    ·refine⟨_,rfl,p,6,rfl,hp16,by decide,fun g H17 g0 g1 hp17 k17=>⟨rfl,_,rfl,?_⟩⟩
     have hq17:=k17 _ _ hq16 (au hp16 hq16)
     have ha17:=k17 _ _ ha16 (au hp16 ha16)
     have hb17:=k17 _ _ hb16 (au hp16 hb16)
     have k017:=k016.trans k17
     refine br (fun hc=>?_) (fun hc=>?_)
     ·refine⟨_,rfl,_,rfl,_,rfl,p,b,a,z,u,rfl,hp17,hb17,lz,z1,by lia,ha17,lu,by lia,fun u' a' H18 ha0' ha18 lu' ul' hp18 k18=>?_⟩
      exact hR _ _ ⟨u',a',rfl,hp17.free k017 ha0',ha18,lu',by lia,k18 _ _ hb17 (au hp17 hb17),k18 _ _ hq17 (au hp17 hq17),hp18,k017.trans k18⟩
     ·exact hR _ _ ⟨u,a,rfl,han,ha17,lu,by lia,hb17,hq17,hp17,k017⟩
   ·refine⟨_,rfl,p,4,rfl,hp14,by decide,fun d H15 d0 d1 hp15 k15=>⟨rfl,_,rfl,?_⟩⟩
    have hy15:=k15 _ _ hy14 (au hp14 hy14)
    have ha15:=k15 _ _ ha14 (au hp14 ha14)
    have hb15:=k15 _ _ hb14 (au hp14 hb14)
    have k015:=k014.trans k15
    refine br (fun hc=>?_) (fun hc=>?_)
    ·refine⟨_,rfl,_,rfl,_,rfl,p,b,l3,z,y,rfl,hp15,hb15,lz,z1,by lia,hy15,ly,by lia,fun x' q' H16 hq0 hq16 lx' xl' hp16 k16=>?_⟩
     refine⟨200,rfl,q',_,rfl,SqL.of hq16,fun l4 hl4=>?_⟩
     rw[bN (by decide)]
     have s17:=Same.upd (o:=.lst ((x'.take (200:Int).toNat).map sg)) hl4
     have k016:=k015.trans k16
     exact hR _ _ ⟨_,l4,rfl,hp16.free k016 hl4,af,lx'.take _,by rw[List.length_take];exact Nat.min_le_left _ _,s17 _ _ (k16 _ _ hb15 (au hp15 hb15)),s17 _ _ (k16 _ _ ha15 (au hp15 ha15)),hp16.same s17,k016.trans s17.keep⟩
    ·exact hR _ _ ⟨y,l3,rfl,hl3n,hy15,ly,yl,hb15,ha15,hp15,k015⟩
  ·exact⟨_,rfl,false,rfl,aA (hR _ _ ⟨t,q,rfl,hqn,hq5,lt,t1,t2,hb5,ha5,hp5,k05⟩)⟩
end
abbrev fL:Stmt:=aN 13
abbrev fw:Stmt:=aN 14
def jF:Sp:=fun vs H Q _=>∃c:Nat,vs=[sg c]∧97≤c∧c≤122∧Q (.bl true) H
def dB:Sp:=fun vs H Q _=>∃(a:Addr) (t:List Nat),vs=[.ref a]∧H a=some (.lst (t.map sg))∧Low t∧Q .non H
theorem kY{c:Nat}(h:97≤c):(!decide ((aG c).cps.toList<(Str.ofString "a").cps.toList))=true:=by
 have e:(Str.ofString "a").cps.toList=[97]:=by decide+kernel
 rw[e]
 have:¬([c] < [97]):=fun q=>by
  cases q with
  | rel r=>lia
  | cons r=>cases r
 simp[this]
theorem lc{c:Nat}(h:c≤122):(!decide ((Str.ofString "z").cps.toList<(aG c).cps.toList))=true:=by
 have e:(Str.ofString "z").cps.toList=[122]:=by decide+kernel
 rw[e]
 have:¬([122] < [c]):=fun q=>by
  cases q with
  | rel r=>lia
  | cons r=>cases r
 simp[this]
section
variable{P:Program}{w:World}{K:PySem.W.Frag}{mg:Str→Option Value}{base:Heap}
theorem iU:FnScope ["sign"] ["sign"] (aw fL):=fsc_
theorem qq(M:Md K mg)(B:Bl mg)(F:FF K "is_sign" fL):Fn P w K mg base ai "is_sign" 1 ["sign"] jF:=by
 refine aL M F iU (fun _ _ _ _ _ _=>bj fun _=>rfl) (fun vs H Q E h=>?_) (fun f cdv A outer s H vs Q E hr h=>?_)
 ·obtain⟨c,rfl,_⟩:=h;rfl
 ·obtain⟨c,rfl,c1,c2,k⟩:=h
  refine⟨_,(ah (ar (dU (mi B.isinst B.str lP (pv 0)) (dU (cZ bd (fD B.len (pv 0)) ad (aC _)) (dX (lO ft ft aO (pv 0) aO)))))),?_⟩
  refine⟨_,rfl,_,true,TyOf.str _,rfl,_,rfl,aQ ?_⟩
  refine⟨_,rfl,_,rfl,sz (by show 1≤1000;decide),rfl,true,rfl,aQ ?_⟩
  refine⟨_,rfl,_,_,rfl,rfl,_,rfl,?_⟩
  rw[kY c1]
  refine aQ ⟨_,_,rfl,rfl,?_⟩
  rw[lc c2]
  exact k
theorem scCheck:FnScope ["text","sign"] ["text"] (aw fw):=fsc_
theorem nF(M:Md K mg)(B:Bl mg)(F:FF K "check_signs" fw)(Fis_sign:Fn P w K mg base ai "is_sign" 1 ["sign"] jF):Fn P w K mg base ai "check_signs" 2 ["text"] dB:=by
 refine aL M F scCheck (fun _ _ _ _ _ _=>bj fun _=>rfl) (fun vs H Q E h=>?_) (fun f cdv A outer s H vs Q E hr h=>?_)
 ·obtain⟨a,t,rfl,_⟩:=h;rfl
 ·obtain⟨a,t,rfl,ha,lt,k⟩:=h
  refine⟨_,(ah (bM PassesOwn.never rfl (cj (pv 0)) (bz (i:=1) scCheck.nd rfl (.inl rfl))
   (ah (aF (cx (bt (ag Fis_sign hr aj (aa (pv 1) ac)))) (ah fV) aM)))),?_⟩
  refine⟨_,rfl,a,rfl,⟨_,SqL.of ha⟩,gc (K:=K) (a:=a) (xs:=t.map sg) (fun i σ H2=>H2=H∧∃v,σ=[some (.ref a),v]) ⟨rfl,none,rfl⟩ (fun i σ H2 _ h2=>by rw[h2.1];exact SqL.of ha) ?_ ?_⟩
  ·rintro i x σ H2 hx ⟨rfl,v,rfl⟩
   rw[List.getElem?_map] at hx
   cases e:t[i]? with
   | none=>rw[e] at hx;cases hx
   | some c=>
     rw[e] at hx
     have:sg c=x:=Option.some.inj hx
     subst this
     have hc:=lt c (List.mem_of_getElem? e)
     exact⟨_,rfl,c,rfl,hc.1,hc.2,true,rfl,aA ⟨rfl,_,rfl⟩⟩
  ·rintro σ H2 ⟨rfl,_⟩
   exact k
end
def sM(t:List Nat):List Nat:=(List.range t.length).filter fun k=>decide (t.take k=t.drop (t.length-k))
def bc(t u:List Nat):List Nat:=(List.range (t.length+1-u.length)).filter fun p=>decide ((t.drop p).take u.length=u)
theorem sg_inj{a b:Nat}:(sg a=sg b)↔a=b:=by
 constructor
 ·intro h
  have:aG a=aG b:=V.str.inj h
  simpa [aG] using this
 ·intro h;rw[h]
theorem gv(ks:List Nat)(i:Nat):aT (ks++[i])=aT ks++[V.int (i:Int)]:=by simp[aT]
def sN(t u:List Nat)(p j:Nat):List Nat:=(List.range j).filter fun q=>!decide (t[p+q]?=u[q]?)
theorem jp(t u:List Nat)(i:Nat):((List.range (i+1)).filter fun p=>decide ((t.drop p).take u.length=u))=((List.range i).filter fun p=>decide ((t.drop p).take u.length=u))++(if(t.drop i).take u.length=u then [i] else []):=by
 rw[List.range_succ,List.filter_append]
 congr 1
 by_cases h:(t.drop i).take u.length=u <;> simp[h]
def ik:Sp:=fun vs H Q _=>∃(a b:Addr) (t u:List Nat),vs=[.ref a,.ref b]∧H a=some (.lst (t.map sg))∧H b=some (.lst (u.map sg))∧Low t∧Low u∧t.length≤900∧u.length≤900∧1≤u.length∧
 ∀(r:Addr) (H':Hp),H r=none→H' r=some (.lst (aT (bc t u)))→Same H H'→Q (.ref r) H'
theorem jb{α:Type}{f:α→Bool}:∀{l:List α},(∀x∈l,f x=true)→l.takeWhile f=l
 | [],_=>rfl
 | x::l,h=>by
   rw[List.takeWhile_cons,h x List.mem_cons_self,if_pos rfl,jb fun y hy=>h y (List.mem_cons_of_mem _ hy)]
theorem jI{α:Type}{f:α→Bool}{y:α}:∀{l:List α},y∈l.takeWhile f→f y=true
 | [],h=>by cases h
 | x::l,h=>by
   rw[List.takeWhile_cons] at h
   cases q:f x with
   | false=>rw[q] at h;cases h
   | true=>
     rw[q,if_pos rfl] at h
     rcases List.mem_cons.mp h with rfl | h
     ·exact q
     ·exact jI h
def dY(ks:List Nat)(m i:Nat):Bool:=ks.any fun p=>decide (p≤i∧i<p+m)
def gO(n m:Nat)(ks:List Nat):Nat:=((List.range n).takeWhile (dY ks m)).length
theorem nV{n x:Nat}{f:Nat→Bool}(hx:x≤n)(h1:∀i,i<x→f i=true)(h2:x<n→f x=false):((List.range n).takeWhile f).length=x:=by
 have e:List.range n=List.range x++(List.range (n-x)).map (x+ ·):=by
  rw[←List.range_add];congr 1;lia
 have a:(List.range x).takeWhile f=List.range x:=by
  apply jb
  intro i hi
  exact h1 i (by simpa using hi)
 rw[e,List.takeWhile_append,a]
 simp only[List.length_range,if_true]
 by_cases hlt:x<n
 ·obtain⟨d,hd⟩:∃d,n-x=d+1:=⟨n-x-1,by lia⟩
  rw[hd,List.range_succ_eq_map,List.map_cons,List.takeWhile_cons]
  simp[h2 hlt]
 ·have:n-x=0:=by lia
  rw[this];simp
theorem qe{n:Nat}{f:Nat→Bool}{i:Nat}(h:i<((List.range n).takeWhile f).length):f i=true:=by
 have hp:=List.takeWhile_prefix f (l:=List.range n)
 have e:((List.range n).takeWhile f)[i]?=(List.range n)[i]?:=by
  obtain⟨r,hr⟩:=hp
  conv=>rhs;rw[←hr]
  rw[List.getElem?_append_left h]
 have hi:i<n:=by
  have:=hp.length_le
  simp at this;lia
 have m:i∈(List.range n).takeWhile f:=by
  rw[List.mem_iff_getElem?]
  exact⟨i,by rw[e];simp[hi]⟩
 exact jI m
theorem nL{n m:Nat}{ks:List Nat}{i:Nat}(h:i<gO n m ks):dY ks m i=true:=qe h
theorem o7{n m x:Nat}{ks:List Nat}(hx:x≤n)(h1:∀i,i<x→dY ks m i=true)(h2:x<n→dY ks m x=false):gO n m ks=x:=nV hx h1 h2
def fb(m:Nat):Nat→List Nat→Nat
 | reach,[]=>reach
 | reach,p::r=>if p>reach then reach else fb m (p+m) r
theorem cov_true{ks:List Nat}{m i:Nat}:dY ks m i=true↔∃p∈ks,p≤i∧i<p+m:=by
 unfold dY
 rw[List.any_eq_true]
 constructor
 ·rintro⟨p,hp,h⟩;exact⟨p,hp,of_decide_eq_true h⟩
 ·rintro⟨p,hp,h⟩;exact⟨p,hp,decide_eq_true h⟩
theorem fX{t u:List Nat}{p:Nat}(h:p∈bc t u)(u1:1≤u.length):p+u.length≤t.length:=by
 unfold bc at h
 have:=(List.mem_filter.mp h).1
 simp at this
 lia
theorem oO{ks:List Nat}{i:Nat}{x:V}(h:(aT ks)[i]?=some x):∃k,ks[i]?=some k∧x=V.int (k:Int):=by
 unfold aT at h
 rw[List.map_map,List.getElem?_map] at h
 cases q:ks[i]? with
 | none=>rw[q] at h;cases h
 | some k=>rw[q] at h;exact⟨k,rfl,(Option.some.inj h).symm⟩
def dC(t u:List Nat):Bool:=decide (gO t.length u.length (bc t u)=t.length)
theorem mem_lies{t u:List Nat}{p:Nat}:p∈bc t u↔p<t.length+1-u.length∧(t.drop p).take u.length=u:=by
 unfold bc
 rw[List.mem_filter]
 simp
theorem covers_iff{t u:List Nat}:dC t u=true↔∀i,i<t.length→∃p∈bc t u,p≤i∧i<p+u.length:=by
 unfold dC
 rw[decide_eq_true_eq]
 constructor
 ·intro h i hi
  exact cov_true.mp (nL (n:=t.length) (by lia))
 ·intro h
  exact o7 (Nat.le_refl _) (fun i hi=>cov_true.mpr (h i hi)) (fun z=>absurd z (Nat.lt_irrefl _))
theorem oS{t:List Nat}:dC t t=true:=by
 rw[covers_iff]
 intro i hi
 exact⟨0,mem_lies.mpr ⟨by lia,by simp⟩,Nat.zero_le _,by lia⟩
def bQ(m:Int):Int→List Int→Int
 | R,[]=>R
 | R,p::r=>if p>R then R else bQ m (p+m) r
theorem mj{m n:Int}:∀{A:List Int} {R:Int},A.Pairwise (·< ·)→(∀p∈A,p<n∧R≤p+m)→(n≤bQ m R A↔∀i,R≤i→i<n→∃p∈A,p≤i∧i<p+m)
 | [],R,_,_=>by
   simp only[bQ]
   constructor
   ·intro h i h1 h2;lia
   ·intro h
    by_cases hn:n≤R
    ·exact hn
    ·obtain⟨p,hp,_⟩:=h R (Int.le_refl _) (by lia);cases hp
 | p::r,R,hs,hA=>by
   have hs':=List.pairwise_cons.mp hs
   have hp:=hA p List.mem_cons_self
   simp only[bQ]
   by_cases hg:p>R
   ·rw[if_pos hg]
    constructor
    ·intro h;lia
    ·intro h
     obtain⟨q,hq,h1,h2⟩:=h R (Int.le_refl _) (by lia)
     rcases List.mem_cons.mp hq with z | z
     ·lia
     ·have:=hs'.1 q z;lia
   ·rw[if_neg hg,mj hs'.2 fun q hq=>⟨(hA q (List.mem_cons_of_mem _ hq)).1,by have:=hs'.1 q hq;lia⟩]
    constructor
    ·intro h i h1 h2
     by_cases hi:i<p+m
     ·exact⟨p,List.mem_cons_self,by lia,hi⟩
     ·obtain⟨q,hq,h3⟩:=h i (by lia) h2
      exact⟨q,List.mem_cons_of_mem _ hq,h3⟩
    ·intro h i h1 h2
     obtain⟨q,hq,h3,h4⟩:=h i (by lia) h2
     rcases List.mem_cons.mp hq with z | z
     ·lia
     ·exact⟨q,z,h3,h4⟩
def bS(t u:List Nat)(p:Int):Prop:=∀i:Nat,i<t.length→p≤i→(i:Int)<p+u.length→t[i]?=u[(i-p).toNat]?
def aK(p:Int):Int:=if 0>p then 0 else p
def bf(t u:List Nat)(p:Int):Int:=if(t.length:Int)<p+u.length then t.length else p+u.length
def dh(t u:List Nat)(p:Int):Bool:=decide ((t.drop (aK p).toNat).take ((bf t u p).toNat-(aK p).toNat)=(u.drop (aK p-p).toNat).take ((bf t u p-p).toNat-(aK p-p).toNat))
theorem fg{t u:List Nat}{p:Int}(h1:1-(u.length:Int)≤p)(h2:p<t.length):dh t u p=true↔bS t u p:=by
 unfold dh
 rw[decide_eq_true_eq]
 have b0:0≤aK p∧p≤aK p∧(aK p=0∨aK p=p):=by unfold aK;split <;> lia
 have e0:bf t u p≤t.length∧bf t u p≤p+u.length∧(bf t u p=t.length∨bf t u p=p+u.length):=by unfold bf;split <;> lia
 have be:aK p≤bf t u p:=by lia
 constructor
 ·intro h i hi h3 h4
  have h5:aK p≤i∧(i:Int)<bf t u p:=by
   rcases b0.2.2 with z | z <;> rcases e0.2.2 with y | y <;> lia
  have:=congrArg (·[i-(aK p).toNat]?) h
  have this:((t.drop (aK p).toNat).take ((bf t u p).toNat-(aK p).toNat))[i-(aK p).toNat]?=((u.drop (aK p-p).toNat).take ((bf t u p-p).toNat-(aK p-p).toNat))[i-(aK p).toNat]?:=this
  rw[List.getElem?_take_of_lt (by lia),List.getElem?_take_of_lt (by lia),List.getElem?_drop,List.getElem?_drop] at this
  rw[show(aK p).toNat+(i-(aK p).toNat)=i by lia,show(aK p-p).toNat+(i-(aK p).toNat)=((i:Int)-p).toNat by lia] at this
  exact this
 ·intro h
  apply List.ext_getElem?
  intro j
  by_cases hj:j<(bf t u p).toNat-(aK p).toNat
  ·rw[List.getElem?_take_of_lt hj,List.getElem?_take_of_lt (by lia),List.getElem?_drop,List.getElem?_drop]
   have:=h ((aK p).toNat+j) (by lia) (by lia) (by lia)
   rw[this,show((((aK p).toNat+j:Nat):Int)-p).toNat=(aK p-p).toNat+j by lia]
  ·rw[List.getElem?_eq_none (by rw[List.length_take];lia),List.getElem?_eq_none (by rw[List.length_take];lia)]
def bE(t u:List Nat)(lo:Int)(k:Nat):List Int:=((List.range k).map fun(i:Nat)=>lo+(i:Int)).filter (dh t u)
theorem m8(t u:List Nat)(lo:Int)(k:Nat):(bE t u lo k).Pairwise (·< ·):=List.Pairwise.filter _ (List.pairwise_map.mpr (List.pairwise_lt_range.imp fun q=>by lia))
theorem mem_agPl{t u:List Nat}{lo:Int}{k:Nat}{p:Int}:p∈bE t u lo k↔(lo≤p∧p<lo+k)∧dh t u p=true:=by
 unfold bE
 rw[List.mem_filter,List.mem_map]
 constructor
 ·rintro⟨⟨i,hi,rfl⟩,h⟩
  have:i<k:=by simpa using hi
  exact⟨⟨by lia,by lia⟩,h⟩
 ·rintro⟨⟨h1,h2⟩,h⟩
  exact⟨⟨(p-lo).toNat,by simp;lia,by lia⟩,h⟩
def fA(t u:List Nat)(lo hi:Int):Prop:=∀i:Nat,i<t.length→∃p:Int,lo≤p∧p≤hi∧p≤i∧(i:Int)<p+u.length∧bS t u p
def df(t u:List Nat)(lo hi:Int):Bool:=decide ((t.length:Int)≤bQ u.length 0 (bE t u lo (hi+1-lo).toNat))
theorem je{t u:List Nat}{lo hi:Int}(h1:1-(u.length:Int)≤lo)(h2:hi<t.length):df t u lo hi=true↔fA t u lo hi:=by
 unfold df
 rw[decide_eq_true_eq,mj (m8 _ _ _ _) fun p hp=>?_]
 ·constructor
  ·intro h i hi'
   obtain⟨p,hp,h3,h4⟩:=h i (by lia) (by lia)
   obtain⟨⟨h5,h6⟩,h7⟩:=mem_agPl.mp hp
   exact⟨p,h5,by lia,h3,h4,(fg (by lia) (by lia)).mp h7⟩
  ·intro h i h3 h4
   obtain⟨p,h5,h6,h7,h8,h9⟩:=h i.toNat (by lia)
   exact⟨p,mem_agPl.mpr ⟨⟨h5,by lia⟩,(fg (by lia) (by lia)).mpr h9⟩,by lia,by lia⟩
 ·obtain⟨⟨h5,h6⟩,_⟩:=mem_agPl.mp hp
  constructor <;> lia
def bg(u:List Nat)(ahead:Bool):Int:=if ahead then 1-(u.length:Int) else 0
def bu(t u:List Nat)(behind:Bool):Int:=if behind then(t.length:Int)-1 else(t.length:Int)-u.length
theorem mf{u:List Nat}{ahead:Bool}(u1:1≤u.length):1-(u.length:Int)≤bg u ahead:=by unfold bg;split <;> lia
theorem j4{t u:List Nat}{behind:Bool}(u1:1≤u.length):bu t u behind<t.length:=by unfold bu;split <;> lia
def bq(t u:List Nat)(one other:Nat):List Nat:=u.take one++t++u.drop (u.length-other)
theorem fK{U u:List Nat}{p:Nat}(hp:p+u.length≤U.length)(h:∀j,j<u.length→U[p+j]?=u[j]?):p∈bc U u:=by
 refine mem_lies.mpr ⟨by lia,?_⟩
 apply List.ext_getElem?
 intro j
 by_cases hj:j<u.length
 ·rw[List.getElem?_take_of_lt hj,List.getElem?_drop];exact h j hj
 ·rw[List.getElem?_eq_none (by rw[List.length_take];lia),List.getElem?_eq_none (by lia)]
theorem ip{U u:List Nat}{p:Nat}(h:p∈bc U u):∀j,j<u.length→U[p+j]?=u[j]?:=fun j hj=>by
 have h':=(mem_lies.mp h).2
 have:=congrArg (·[j]?) h'
 have this:((U.drop p).take u.length)[j]?=u[j]?:=this
 rw[List.getElem?_take_of_lt hj,List.getElem?_drop] at this
 exact this
theorem eD{t u:List Nat}{one other:Nat}(h1:one≤u.length)(h2:other≤u.length):(bq t u one other).length=one+t.length+other:=by
 unfold bq
 rw[List.length_append,List.length_append,List.length_take,List.length_drop]
 lia
theorem dJ{t u:List Nat}{one other i:Nat}(h1:one≤u.length)(hi:i<t.length):(bq t u one other)[one+i]?=t[i]?:=by
 unfold bq
 have hl:(u.take one).length=one:=by rw[List.length_take];lia
 rw[List.getElem?_append_left (by rw[List.length_append,hl];lia),List.getElem?_append_right (by lia),hl]
 congr 1;lia
theorem li{t u:List Nat}{one other i:Nat}(h1:one≤u.length)(hi:i<one):(bq t u one other)[i]?=u[i]?:=by
 unfold bq
 have hl:(u.take one).length=one:=by rw[List.length_take];lia
 rw[List.append_assoc,List.getElem?_append_left (by lia),List.getElem?_take_of_lt hi]
theorem jd{t u:List Nat}{one other i:Nat}(h1:one≤u.length)(h2:other≤u.length):(bq t u one other)[one+t.length+i]?=u[u.length-other+i]?:=by
 unfold bq
 have hl:(u.take one).length=one:=by rw[List.length_take];lia
 rw[List.getElem?_append_right (by rw[List.length_append,hl];lia),List.getElem?_drop,List.length_append,hl]
 congr 1;lia
theorem lE{P:Nat→Prop}(h:∃n,P n):∃n,P n∧∀k,k<n→¬P k:=by
 obtain⟨n,hn⟩:=h
 induction n using Nat.strongRecOn with
 | ind n ih=>
   by_cases hk:∃k,k<n∧P k
   ·obtain⟨k,h1,h2⟩:=hk
    exact ih k h1 h2
   ·exact⟨n,hn,fun k h1 h2=>hk ⟨k,h1,h2⟩⟩
theorem rh{t u:List Nat}{one other:Nat}{ahead behind:Bool}(u1:1≤u.length)(t1:1≤t.length)(h1:one<u.length)(h2:other<u.length)(ha:ahead=false→one=0)(hb:behind=false→other=0)(h:dC (bq t u one other) u=true):fA t u (bg u ahead) (bu t u behind):=by
 intro i hi
 obtain⟨p,hp,h3,h4⟩:=covers_iff.mp h (one+i) (by rw[eD (by lia) (by lia)];lia)
 have hin:=fX hp u1
 rw[eD (by lia) (by lia)] at hin
 refine⟨(p:Int)-one,?_,?_,by lia,by lia,fun j hj h5 h6=>?_⟩
 ·unfold bg
  cases ahead with
  | true=>rw[if_pos rfl];lia
  | false=>rw[if_neg Bool.false_ne_true,ha rfl];lia
 ·unfold bu
  cases behind with
  | true=>rw[if_pos rfl];lia
  | false=>rw[if_neg Bool.false_ne_true];have:=hb rfl;lia
 ·rw[←dJ (u:=u) (one:=one) (other:=other) (by lia) hj]
  have:=ip hp (one+j-p) (by lia)
  rw[show p+(one+j-p)=one+j by lia] at this
  rw[this]
  congr 1;lia
abbrev gk:Stmt:=aN 15
abbrev fJ:Stmt:=aN 16
abbrev fh:Stmt:=aN 24
abbrev gw:Stmt:=aN 25
abbrev hV:Stmt:=aN 26
abbrev iq:Stmt:=aN 22
abbrev gL:Stmt:=aN 28
abbrev gj:Stmt:=aN 29
abbrev fu:Stmt:=aN 30
def iB:Sp:=fun vs H Q _=>∃(a:Addr) (t:List Nat),vs=[.ref a]∧H a=some (.lst (t.map sg))∧Low t∧1≤t.length∧Q .non H
def ej:Sp:=fun vs H Q _=>∃(a:Addr) (t:List Nat),vs=[.ref a]∧H a=some (.lst (t.map sg))∧1≤t.length∧Q .non H
def fU:Sp:=fun vs H Q _=>∃(a b:Addr) (t u:List Nat),vs=[.ref a,.ref b]∧H a=some (.lst (t.map sg))∧H b=some (.lst (u.map sg))∧Low t∧Low u∧1≤t.length∧1≤u.length∧Q .non H
def lN:Sp:=fun vs H Q _=>∃(a b:Addr) (t u:List Nat) (p:Int),vs=[.ref a,.ref b,.int p]∧H a=some (.lst (t.map sg))∧H b=some (.lst (u.map sg))∧Low t∧Low u∧1-(u.length:Int)≤p∧p<t.length∧
 ∀H',Same H H'→Q (.bl (dh t u p)) H'
def d4:Sp:=fun vs H Q _=>∃(a b:Addr) (t u:List Nat) (lo hi:Int),vs=[.ref a,.ref b,.int lo,.int hi]∧H a=some (.lst (t.map sg))∧H b=some (.lst (u.map sg))∧Low t∧Low u∧t.length≤900∧u.length≤900∧1-(u.length:Int)≤lo∧hi<t.length∧lo≤t.length∧ -900≤hi∧(hi+1-lo).toNat≤2000∧
 ∀(r:Addr) (H':Hp),H r=none→H' r=some (.lst ((bE t u lo (hi+1-lo).toNat).map V.int))→Same H H'→Q (.ref r) H'
def jY:Sp:=fun vs H Q _=>∃(a:Addr) (ks:List Int) (m:Nat),vs=[.ref a,.int (m:Int)]∧H a=some (.lst (ks.map V.int))∧Q (.int (bQ m 0 ks)) H
def dn:Sp:=fun vs H Q _=>∃(a b c:Addr) (t u:List Nat) (ks:List Int),vs=[.ref a,.ref b,.ref c]∧H a=some (.lst (t.map sg))∧H b=some (.lst (u.map sg))∧H c=some (.lst (ks.map V.int))∧Q (.bl (decide ((t.length:Int)≤bQ u.length 0 ks))) H
def bL(ahead behind:Bool):Sp:=fun vs H Q _=>∃(a b:Addr) (t u:List Nat),vs=[.ref a,.ref b]∧H a=some (.lst (t.map sg))∧H b=some (.lst (u.map sg))∧Low t∧Low u∧1≤t.length∧1≤u.length∧t.length≤900∧u.length≤900∧
 ∀H',Same H H'→Q (.bl (df t u (bg u ahead) (bu t u behind))) H'
section
variable{P:Program}{w:World}{K:PySem.W.Frag}{mg:Str→Option Value}{base:Heap}
theorem jj:FnScope ["word"] ["word"] (aw gk):=fsc_
theorem pw(M:Md K mg)(B:Bl mg)(F:FF K "check_word" gk)(Fcheck_signs:Fn P w K mg base ai "check_signs" 2 ["text"] dB):Fn P w K mg base ai "check_word" 3 ["word"] iB:=by
 refine aL M F jj (fun _ _ _ _ _ _=>bj fun _=>rfl) (fun vs H Q E h=>?_) (fun f cdv A outer s H vs Q E hr h=>?_)
 ·obtain⟨a,t,rfl,_⟩:=h;rfl
 ·obtain⟨a,t,rfl,ha,lt,t1,k⟩:=h
  refine⟨_,(ae (aF (aE bd (aB B.len (pv 0)) ad (aC _)) (ah fV) aM)
   (ah (aI (ag Fcheck_signs hr aj (aa (pv 0) ac))))),?_⟩
  refine⟨_,rfl,a,_,rfl,SqL.of ha,rfl,_,rfl,?_⟩
  rw[decide_eq_false (fun q=>by have:=V.int.inj q;rw[List.length_map] at this;lia)]
  exact aA ⟨_,rfl,a,t,rfl,ha,lt,k⟩
theorem mn:FnScope ["text"] ["text"] (aw fJ):=fsc_
theorem m9(M:Md K mg)(B:Bl mg)(F:FF K "check_some" fJ):Fn P w K mg base ai "check_some" 1 ["text"] ej:=by
 refine aL M F mn (fun _ _ _ _ _ _=>bj fun _=>rfl) (fun vs H Q E h=>?_) (fun f cdv A outer s H vs Q E hr h=>?_)
 ·obtain⟨a,t,rfl,_⟩:=h;rfl
 ·obtain⟨a,t,rfl,ha,t1,k⟩:=h
  refine⟨_,(ah (aF (aE bd (aB B.len (pv 0)) ad (aC _)) (ah fV) aM)),?_⟩
  refine⟨_,rfl,a,_,rfl,SqL.of ha,rfl,_,rfl,?_⟩
  rw[decide_eq_false (fun q=>by have:=V.int.inj q;rw[List.length_map] at this;lia)]
  exact aA k
theorem lw:FnScope ["text","word"] ["text","word"] (aw fh):=fsc_
theorem nU(M:Md K mg)(B:Bl mg)(F:FF K "check_both" fh)(Fcheck_signs:Fn P w K mg base ai "check_signs" 2 ["text"] dB)(Fcheck_word:Fn P w K mg base ai "check_word" 3 ["word"] iB)(Fcheck_some:Fn P w K mg base ai "check_some" 1 ["text"] ej):Fn P w K mg base ai "check_both" 4 ["text","word"] fU:=by
 refine aL M F lw (fun _ _ _ _ _ _=>bx fun _ _=>rfl) (fun vs H Q E h=>?_) (fun f cdv A outer s H vs Q E hr h=>?_)
 ·obtain⟨a,b,t,u,rfl,_⟩:=h;rfl
 ·obtain⟨a,b,t,u,rfl,ha,hb,lt,lu,t1,u1,k⟩:=h
  refine⟨_,(ae (aI (ag Fcheck_word hr aj (aa (pv 1) ac)))
   (ae (aI (ag Fcheck_signs hr aj (aa (pv 0) ac)))
   (ah (aI (ag Fcheck_some hr aj (aa (pv 0) ac)))))),?_⟩
  exact⟨_,rfl,b,u,rfl,hb,lu,u1,_,rfl,a,t,rfl,ha,lt,_,rfl,a,t,rfl,ha,t1,k⟩
theorem scAgrees:FnScope ["text","word","place","begin","end"] ["text","word","place"] (aw gw):=fsc_
theorem oY(M:Md K mg)(B:Bl mg)(F:FF K "agrees_at" gw):Fn P w K mg base ai "agrees_at" 1 ["text","word","place"] lN:=by
 refine aL M F scAgrees (fun _ _ _ _ _ _=>cR fun _ _ _=>rfl) (fun vs H Q E h=>?_) (fun f cdv A outer s H vs Q E hr h=>?_)
 ·obtain⟨a,b,t,u,p,rfl,_⟩:=h;rfl
 ·obtain⟨a,b,t,u,p,rfl,ha,hb,lt,lu,p1,p2,k⟩:=h
  refine⟨_,(ae (am (i:=3) scAgrees.nd rfl (.inl rfl) (kr rfl B.max (pv 2) ad))
   (ae (am (i:=4) scAgrees.nd rfl (.inl rfl) (jk rfl B.min (ak aV (pv 2) (aB B.len (pv 1))) (aB B.len (pv 0))))
   (ah (ar (cZ (iy (by exact hr)) (aS aU (pv 0) (aP (pv 3)) (aP (pv 4))) (aS aU (pv 1) (aP (ak bp (pv 3) (pv 2))) (aP (ak bp (pv 4) (pv 2)))) (aC _)))))),?_⟩
  refine⟨_,rfl,_,_,rfl,rfl,?_⟩
  refine⟨_,rfl,_,rfl,b,_,rfl,SqL.of hb,_,_,rfl,rfl,_,rfl,a,_,rfl,SqL.of ha,_,_,rfl,rfl,?_⟩
  have b0:0≤aK p∧p≤aK p∧(aK p=0∨aK p=p):=by unfold aK;split <;> lia
  have e0:bf t u p≤t.length∧bf t u p≤p+u.length∧(bf t u p=t.length∨bf t u p=p+u.length):=by unfold bf;split <;> lia
  have be:aK p≤bf t u p:=by lia
  have ee:(if((t.map sg).length:Int)<p+((u.map sg).length:Int) then((t.map sg).length:Int) else p+((u.map sg).length:Int))=bf t u p:=by
   rw[List.length_map,List.length_map];rfl
  rw[ee]
  refine⟨_,rfl,_,rfl,aK p,rfl,_,rfl,bf t u p,rfl,a,_,rfl,SqL.of ha,fun l1 hl1=>?_⟩
  rw[dk,dD,gg _ _ _ b0.1 be]
  have s1:=Same.upd (o:=.lst (((t.drop (aK p).toNat).take ((bf t u p).toNat-(aK p).toNat)).map sg)) hl1
  refine⟨_,rfl,_,rfl,_,rfl,_,_,rfl,rfl,aK p-p,rfl,_,rfl,_,rfl,_,_,rfl,rfl,bf t u p-p,rfl,b,_,rfl,SqL.of (s1 _ _ hb),fun l2 hl2=>?_⟩
  rw[dk,dD,gg _ _ _ (by lia) (by lia)]
  have s2:=Same.upd (o:=.lst (((u.drop (aK p-p).toNat).take ((bf t u p-p).toNat-(aK p-p).toNat)).map sg)) hl2
  exact⟨l1,l2,_,_,rfl,rfl,SqL.of (s2 _ _ af),SqL.of af,((lt.drop _).take _).cp,((lu.drop _).take _).cp,k _ (s1.trans s2)⟩
theorem rd(t u:List Nat)(lo:Int)(i:Nat):bE t u lo (i+1)=bE t u lo i++(if dh t u (lo+i)=true then [lo+(i:Int)] else []):=by
 unfold bE
 rw[List.range_succ,List.map_append,List.filter_append]
 congr 1
 by_cases h:dh t u (lo+i)=true <;> simp[h]
theorem jr(t u:List Nat)(lo:Int)(i:Nat):(bE t u lo i).length≤i:=by
 unfold bE
 have:=List.length_filter_le (dh t u) ((List.range i).map fun(i:Nat)=>lo+(i:Int))
 simpa using this
theorem qf:FnScope ["text","word","first","last"] ["text","word","first","last"] (aw hV):=fsc_
theorem qH(M:Md K mg)(B:Bl mg)(F:FF K "agreeing_places" hV)(Fagrees_at:Fn P w K mg base ai "agrees_at" 1 ["text","word","place"] lN):Fn P w K mg base ai "agreeing_places" 2 ["text","word","first","last"] d4:=by
 refine aL M F qf (fun _ _ _ _ _ _=>ja fun _ _ _ _=>rfl) (fun vs H Q E h=>?_) (fun f cdv A outer s H vs Q E hr h=>?_)
 ·obtain⟨a,b,t,u,lo,hi,rfl,_⟩:=h;rfl
 ·obtain⟨a,b,t,u,lo,hi,rfl,ha,hb,lt,lu,tl,ul,l1,h1,l2,h2,hz,k⟩:=h
  refine⟨_,(ah (ar (bR ["text","word","first","last"] rfl (dq (by rfl) B.range (aa (pv 2) (aa (ak aV (pv 3) ad) ac))) (fun _=>by exact(bW (bt (ag Fagrees_at hr aj (aa (pv 0) (aa (pv 1) (aa (pv 4) ac))))))) (fun _=>by exact(pv 4))))),?_⟩
  refine⟨_,rfl,_,rfl,_,_,rfl,rfl,lo,hi+1,rfl,⟨by lia,by lia,by lia,by lia⟩,fun D hD cb=>?_⟩
  refine di (lo:=lo) (n:=(hi+1-lo).toNat) (fun i ys H2=>ys=(bE t u lo i).map V.int∧Same H H2∧H2 D=some (.lst ys)) (eU (by lia)) ?_ ?_ ?_ ?_
  ·exact⟨rfl,Same.upd hD,af⟩
  ·rintro i ys H2 ⟨rfl,_⟩
   rw[List.length_map];exact jr _ _ _ _
  ·rintro i ys H2 hi' ⟨rfl,s2,hD2⟩
   refine⟨_,rfl,_,rfl,_,rfl,a,b,t,u,lo+i,rfl,s2 _ _ ha,s2 _ _ hb,lt,lu,by lia,by lia,fun H3 s3=>⟨_,rfl,?_⟩⟩
   have hD3:=s3 _ _ hD2
   rw[rd]
   refine br (fun hc=>?_) (fun hc=>?_)
   ·refine⟨_,rfl,hD3,?_,?_,af⟩
    ·rw[if_pos hc,List.map_append];rfl
    ·intro b o e
     rw[ap (aW e hD)]
     exact s3 _ _ (s2 b o e)
   ·refine⟨?_,s2.trans s3,hD3⟩
    rw[if_neg hc,List.append_nil]
  ·rintro ys H2 ⟨rfl,s2,hD2⟩
   exact k D H2 hD hD2 s2
theorem scFirstBare:FnScope ["places","many","reach","place"] ["places","many"] (aw iq):=fsc_
theorem pq{ks:List Int}{i:Nat}{x:V}(h:(ks.map V.int)[i]?=some x):∃k,ks[i]?=some k∧x=V.int k:=by
 rw[List.getElem?_map] at h
 cases q:ks[i]? with
 | none=>rw[q] at h;cases h
 | some k=>rw[q] at h;exact⟨k,rfl,(Option.some.inj h).symm⟩
theorem qR(M:Md K mg)(B:Bl mg)(F:FF K "first_bare" iq):Fn P w K mg base ai "first_bare" 1 ["places","many"] jY:=by
 refine aL M F scFirstBare (fun _ _ _ _ _ _=>bx fun _ _=>rfl) (fun vs H Q E h=>?_) (fun f cdv A outer s H vs Q E hr h=>?_)
 ·obtain⟨a,ks,m,rfl,_⟩:=h;rfl
 ·obtain⟨a,ks,m,rfl,ha,k⟩:=h
  refine⟨_,(ae (am (i:=2) scFirstBare.nd rfl (.inl rfl) ad)
   (ae (bM PassesOwn.never rfl (cj (pv 0)) (bz (i:=3) scFirstBare.nd rfl (.inl rfl))
   (ae (aF (aE dy (pv 3) (pv 2) (aC _)) (ah (ar (pv 2))) aM)
   (ah (am (i:=2) scFirstBare.nd rfl (.inl rfl) (ak aV (pv 3) (pv 1))))))
   (ah (ar (pv 2))))),?_⟩
  refine⟨_,rfl,a,rfl,⟨_,SqL.of ha⟩,gc (K:=K) (a:=a) (xs:=ks.map V.int) (fun i σ H2=>H2=H∧∃(R:Int) (v3:Option V),σ=[some (.ref a),some (.int (m:Int)),some (.int R),v3]∧bQ m 0 ks=bQ m R (ks.drop i)) ⟨rfl,0,none,rfl,rfl⟩ (fun i σ H2 _ h2=>by rw[h2.1];exact SqL.of ha) ?_ ?_⟩
  ·rintro i x σ H2 hx ⟨rfl,R,v3,rfl,e⟩
   obtain⟨p,hp,rfl⟩:=pq hx
   have ed:ks.drop i=p::ks.drop (i+1):=by
    obtain⟨h1,h2⟩:=List.getElem?_eq_some_iff.mp hp
    rw[List.drop_eq_getElem_cons h1,h2]
   rw[ed] at e
   refine⟨_,rfl,_,rfl,_,_,rfl,rfl,_,rfl,?_⟩
   refine br (fun hc=>?_) (fun hc=>?_)
   ·have hc':p>R:=of_decide_eq_true hc
    refine⟨_,rfl,?_⟩
    have:bQ m 0 ks=R:=by rw[e];simp only[bQ];rw[if_pos hc']
    rw[this] at k
    exact k
   ·have hc':¬p>R:=iO hc
    refine⟨_,rfl,_,rfl,_,_,rfl,rfl,rfl,p+m,some (.int p),rfl,?_⟩
    rw[e];simp only[bQ];rw[if_neg hc']
  ·rintro σ H2 ⟨rfl,R,v3,rfl,e⟩
   rw[List.length_map,List.drop_length] at e
   simp only[bQ] at e
   rw[e] at k
   exact⟨_,rfl,k⟩
theorem ny:FnScope ["text","word","places"] ["text","word","places"] (aw gL):=fsc_
theorem sC(M:Md K mg)(B:Bl mg)(F:FF K "leaves_none_bare" gL)(Ffirst_bare:Fn P w K mg base ai "first_bare" 1 ["places","many"] jY):Fn P w K mg base ai "leaves_none_bare" 2 ["text","word","places"] dn:=by
 refine aL M F ny (fun _ _ _ _ _ _=>cR fun _ _ _=>rfl) (fun vs H Q E h=>?_) (fun f cdv A outer s H vs Q E hr h=>?_)
 ·obtain⟨a,b,c,t,u,ks,rfl,_⟩:=h;rfl
 ·obtain⟨a,b,c,t,u,ks,rfl,ha,hb,hc,k⟩:=h
  refine⟨_,(ah (ar (cZ gG (ag Ffirst_bare hr aj (aa (pv 2) (aa (aB B.len (pv 1)) ac))) (aB B.len (pv 0)) (aC _)))),?_⟩
  refine⟨_,rfl,_,rfl,b,_,rfl,SqL.of hb,c,ks,u.length,(by rw[List.length_map];rfl),hc,_,rfl,a,_,rfl,SqL.of ha,_,_,rfl,rfl,?_⟩
  rw[List.length_map]
  exact k
theorem me:FnScope ["text","word"] ["text","word"] (aw gj):=fsc_
theorem ng(M:Md K mg)(B:Bl mg)(F:FF K "rest_behind" gj)(Fcheck_both:Fn P w K mg base ai "check_both" 4 ["text","word"] fU)(Fleaves_none_bare:Fn P w K mg base ai "leaves_none_bare" 2 ["text","word","places"] dn)(Fagreeing_places:Fn P w K mg base ai "agreeing_places" 2 ["text","word","first","last"] d4):Fn P w K mg base ai "rest_behind" 5 ["text","word"] (bL false true):=by
 refine aL M F me (fun _ _ _ _ _ _=>bx fun _ _=>rfl) (fun vs H Q E h=>?_) (fun f cdv A outer s H vs Q E hr h=>?_)
 ·obtain⟨a,b,t,u,rfl,_⟩:=h;rfl
 ·obtain⟨a,b,t,u,rfl,ha,hb,lt,lu,t1,u1,tl,ul,k⟩:=h
  refine⟨_,(ae (aI (ag Fcheck_both hr aj (aa (pv 0) (aa (pv 1) ac))))
   (ah (ar (ag Fleaves_none_bare hr aj (aa (pv 0) (aa (pv 1) (aa (ag Fagreeing_places hr aj (aa (pv 0) (aa (pv 1) (aa ad (aa (ak bp (aB B.len (pv 0)) ad) ac))))) ac))))))),?_⟩
  refine⟨_,rfl,_,rfl,a,b,t,u,rfl,ha,hb,lt,lu,t1,u1,?_⟩
  refine⟨_,rfl,_,rfl,_,rfl,_,rfl,_,rfl,a,_,rfl,SqL.of ha,_,_,rfl,rfl,a,b,t,u,0,(t.length:Int)-1,(by rw[List.length_map];rfl),ha,hb,lt,lu,tl,ul,by lia,by lia,by lia,by lia,by lia,fun r H' hr0 hr1 s1=>?_⟩
  exact⟨a,b,r,t,u,_,rfl,s1 _ _ ha,s1 _ _ hb,hr1,k H' s1⟩
theorem i4:FnScope ["text","word"] ["text","word"] (aw fu):=fsc_
theorem sB(M:Md K mg)(B:Bl mg)(F:FF K "rest_ahead" fu)(Fcheck_both:Fn P w K mg base ai "check_both" 4 ["text","word"] fU)(Fleaves_none_bare:Fn P w K mg base ai "leaves_none_bare" 2 ["text","word","places"] dn)(Fagreeing_places:Fn P w K mg base ai "agreeing_places" 2 ["text","word","first","last"] d4):Fn P w K mg base ai "rest_ahead" 5 ["text","word"] (bL true false):=by
 refine aL M F i4 (fun _ _ _ _ _ _=>bx fun _ _=>rfl) (fun vs H Q E h=>?_) (fun f cdv A outer s H vs Q E hr h=>?_)
 ·obtain⟨a,b,t,u,rfl,_⟩:=h;rfl
 ·obtain⟨a,b,t,u,rfl,ha,hb,lt,lu,t1,u1,tl,ul,k⟩:=h
  refine⟨_,(ae (aI (ag Fcheck_both hr aj (aa (pv 0) (aa (pv 1) ac))))
   (ah (ar (ag Fleaves_none_bare hr aj (aa (pv 0) (aa (pv 1) (aa (ag Fagreeing_places hr aj (aa (pv 0) (aa (pv 1) (aa (ak bp ad (aB B.len (pv 1))) (aa (ak bp (aB B.len (pv 0)) (aB B.len (pv 1))) ac))))) ac))))))),?_⟩
  refine⟨_,rfl,_,rfl,a,b,t,u,rfl,ha,hb,lt,lu,t1,u1,?_⟩
  refine⟨_,rfl,_,rfl,_,rfl,_,rfl,_,rfl,b,_,rfl,SqL.of hb,_,_,rfl,rfl,_,rfl,a,_,rfl,SqL.of ha,_,rfl,b,_,rfl,SqL.of hb,_,_,rfl,rfl,a,b,t,u,1-(u.length:Int),(t.length:Int)-u.length,(by rw[List.length_map,List.length_map];rfl),ha,hb,lt,lu,tl,ul,by lia,by lia,by lia,by lia,by lia,fun r H' hr0 hr1 s1=>?_⟩
  exact⟨a,b,r,t,u,_,rfl,s1 _ _ ha,s1 _ _ hb,hr1,k H' s1⟩
end
abbrev gW:Stmt:=aN 19
section
variable{P:Program}{w:World}{K:PySem.W.Frag}{mg:Str→Option Value}{base:Heap}
theorem scLiesAt:FnScope ["text","word","many"] ["text","word"] (aw gW):=fsc_
theorem oi(M:Md K mg)(B:Bl mg)(F:FF K "lies_at" gW)(Fcheck_signs:Fn P w K mg base ai "check_signs" 2 ["text"] dB)(Fcheck_word:Fn P w K mg base ai "check_word" 3 ["word"] iB):Fn P w K mg base ai "lies_at" 4 ["text","word"] ik:=by
 refine aL M F scLiesAt (fun _ _ _ _ _ _=>bx fun _ _=>rfl) (fun vs H Q E h=>?_) (fun f cdv A outer s H vs Q E hr h=>?_)
 ·obtain⟨a,b,t,u,rfl,_⟩:=h;rfl
 ·obtain⟨a,b,t,u,rfl,ha,hb,lt,lu,tl,ul,u1,k⟩:=h
  refine⟨_,(ae (aI (ag Fcheck_word hr aj (aa (pv 1) ac)))
   (ae (aI (ag Fcheck_signs hr aj (aa (pv 0) ac)))
   (ae (am (i:=2) scLiesAt.nd rfl (.inr rfl) (aB B.len (pv 1)))
   (ah (ar (bR ["text","word","many"] rfl (d5 (by rfl) B.range (aa (ak aV (ak bp (aB B.len (pv 0)) (pv 2)) ad) ac)) (fun _=>by exact(bW (aE (iy (by exact hr)) (aS aU (pv 0) (aP (pv 3)) (aP (ak aV (pv 3) (pv 2)))) (pv 1) (aC _)))) (fun _=>by exact(pv 3)))))))),?_⟩
  refine⟨_,rfl,b,u,rfl,hb,lu,u1,?_⟩
  refine⟨_,rfl,a,t,rfl,ha,lt,?_⟩
  refine⟨_,rfl,b,_,rfl,SqL.of hb,?_⟩
  refine⟨_,rfl,a,_,rfl,SqL.of ha,_,rfl,_,_,rfl,rfl,_,_,rfl,rfl,_,rfl,by rw[List.length_map,List.length_map];lia,by rw[List.length_map,List.length_map];lia,fun D hD cb=>?_⟩
  rw[List.length_map,List.length_map,show((t.length:Int)-(u.length:Int)+1).toNat=t.length+1-u.length by lia]
  refine di (lo:=0) (n:=t.length+1-u.length) (fun i ys H2=>ys=aT ((List.range i).filter fun p=>decide ((t.drop p).take u.length=u))∧Same H H2∧H2 D=some (.lst ys)) (ce (by lia)) ?_ ?_ ?_ ?_
  ·exact⟨rfl,Same.upd hD,af⟩
  ·rintro i ys H2 ⟨rfl,_⟩
   rw[cL];exact lK _
  ·rintro i ys H2 hi ⟨rfl,s2,hD2⟩
   refine⟨_,rfl,_,rfl,_,rfl,_,rfl,_,rfl,_,_,rfl,rfl,_,rfl,a,_,rfl,SqL.of (s2 _ _ ha),fun p1 hp1=>?_⟩
   have s3:=s2.trans (Same.upd (o:=.lst (cg (t.map sg) (some (0+(i:Int))) (some (0+(i:Int)+(u.length:Int))))) hp1)
   refine⟨_,rfl,p1,b,(t.drop i).take u.length,u,rfl,rfl,SqL.of ?_,SqL.of (s3 _ _ hb),((lt.drop _).take _).cp,lu.cp,_,rfl,?_⟩
   ·rw[af,dk,dD,gg _ _ _ (by lia) (by lia),show(0+(i:Int)).toNat=i by lia,show(0+(i:Int)+(u.length:Int)).toNat-i=u.length by lia]
   ·have hD3:=(Same.upd (o:=.lst (cg (t.map sg) (some (0+(i:Int))) (some (0+(i:Int)+(u.length:Int))))) hp1) _ _ hD2
    refine br (fun hc=>?_) (fun hc=>?_)
    ·have hc':(t.drop i).take u.length=u:=by simpa using hc
     refine⟨_,rfl,hD3,?_,?_,af⟩
     ·rw[jp,if_pos hc',lR]
     ·intro b o e
      rw[ap (aW e hD)]
      exact s3 b o e
    ·have hc':¬(t.drop i).take u.length=u:=by simpa using hc
     refine⟨?_,s3,hD3⟩
     rw[jp,if_neg hc',List.append_nil]
  ·rintro ys H2 ⟨rfl,s2,hD2⟩
   exact k D H2 hD hD2 s2
end
abbrev ij:Stmt:=aN 27
abbrev fY:Stmt:=aN 31
def eF:Sp:=fun vs H Q _=>∃(a b:Addr) (t u:List Nat),vs=[.ref a,.ref b]∧H a=some (.lst (t.map sg))∧H b=some (.lst (u.map sg))∧Low t∧Low u∧1≤t.length∧1≤u.length∧t.length≤900∧u.length≤900∧
 ∀(r:Addr) (H':Hp),H r=none→H' r=some (.lst ((bE t u (bg u true) (bu t u true+1-bg u true).toNat).map V.int))→Same H H'→Q (.ref r) H'
section
variable{P:Program}{w:World}{K:PySem.W.Frag}{mg:Str→Option Value}{base:Heap}
theorem qU:FnScope ["text","word"] ["text","word"] (aw ij):=fsc_
theorem qA(M:Md K mg)(B:Bl mg)(F:FF K "places_with_rests" ij)(Fagreeing_places:Fn P w K mg base ai "agreeing_places" 2 ["text","word","first","last"] d4):Fn P w K mg base ai "places_with_rests" 3 ["text","word"] eF:=by
 refine aL M F qU (fun _ _ _ _ _ _=>bx fun _ _=>rfl) (fun vs H Q E h=>?_) (fun f cdv A outer s H vs Q E hr h=>?_)
 ·obtain⟨a,b,t,u,rfl,_⟩:=h;rfl
 ·obtain⟨a,b,t,u,rfl,ha,hb,lt,lu,t1,u1,tl,ul,k⟩:=h
  refine⟨_,(ah (ar (ag Fagreeing_places hr aj (aa (pv 0) (aa (pv 1) (aa (ak bp ad (aB B.len (pv 1))) (aa (ak bp (aB B.len (pv 0)) ad) ac))))))),?_⟩
  refine⟨_,rfl,_,rfl,_,rfl,b,_,rfl,SqL.of hb,_,_,rfl,rfl,_,rfl,a,_,rfl,SqL.of ha,_,_,rfl,rfl,a,b,t,u,1-(u.length:Int),(t.length:Int)-1,(by rw[List.length_map,List.length_map];rfl),ha,hb,lt,lu,tl,ul,by lia,by lia,by lia,by lia,by lia,fun r H' hr0 hr1 s1=>?_⟩
  exact k r H' hr0 hr1 s1
theorem kI:FnScope ["text","word"] ["text","word"] (aw fY):=fsc_
theorem rV(M:Md K mg)(B:Bl mg)(F:FF K "rest_both" fY)(Fcheck_both:Fn P w K mg base ai "check_both" 4 ["text","word"] fU)(Fleaves_none_bare:Fn P w K mg base ai "leaves_none_bare" 2 ["text","word","places"] dn)(Fplaces_with_rests:Fn P w K mg base ai "places_with_rests" 3 ["text","word"] eF):Fn P w K mg base ai "rest_both" 5 ["text","word"] (bL true true):=by
 refine aL M F kI (fun _ _ _ _ _ _=>bx fun _ _=>rfl) (fun vs H Q E h=>?_) (fun f cdv A outer s H vs Q E hr h=>?_)
 ·obtain⟨a,b,t,u,rfl,_⟩:=h;rfl
 ·obtain⟨a,b,t,u,rfl,ha,hb,lt,lu,t1,u1,tl,ul,k⟩:=h
  refine⟨_,(ae (aI (ag Fcheck_both hr aj (aa (pv 0) (aa (pv 1) ac))))
   (ah (ar (ag Fleaves_none_bare hr aj (aa (pv 0) (aa (pv 1) (aa (ag Fplaces_with_rests hr aj (aa (pv 0) (aa (pv 1) ac))) ac))))))),?_⟩
  refine⟨_,rfl,_,rfl,a,b,t,u,rfl,ha,hb,lt,lu,t1,u1,?_⟩
  refine⟨_,rfl,_,rfl,_,rfl,_,rfl,a,b,t,u,rfl,ha,hb,lt,lu,t1,u1,tl,ul,fun r H' hr0 hr1 s1=>?_⟩
  exact⟨a,b,r,t,u,_,rfl,s1 _ _ ha,s1 _ _ hb,hr1,k H' s1⟩
end
def eJ(t u L:List Nat):Prop:=(∃one other,one<u.length∧other<u.length∧L=bq t u one other∧dC L u=true)∧
 ∀one other,one<u.length→other<u.length→dC (bq t u one other) u=true→L.length<(bq t u one other).length∨bq t u one other=L
theorem i5{U u:List Nat}(u1:1≤u.length)(n1:1≤U.length)(h:dC U u=true):0∈bc U u∧u.length≤U.length∧(U.length-u.length)∈bc U u:=by
 obtain⟨p,hp,h1,h2⟩:=covers_iff.mp h 0 (by lia)
 have e:p=0:=by lia
 subst e
 have hin:=fX hp u1
 obtain⟨q,hq,h3,h4⟩:=covers_iff.mp h (U.length-1) (by lia)
 have hin2:=fX hq u1
 have e2:q=U.length-u.length:=by lia
 exact⟨hp,by lia,by rw[←e2];exact hq⟩
theorem jS{t u:List Nat}{one other p:Nat}(h1:one<u.length)(h2:other<u.length)(hp:p∈bc (bq t u one other) u):bS t u ((p:Int)-one):=fun j hj h5 h6=>by
 rw[←dJ (u:=u) (one:=one) (other:=other) (by lia) hj]
 have:=ip hp (one+j-p) (by lia)
 rw[show p+(one+j-p)=one+j by lia] at this
 rw[this]
 congr 1;lia
theorem kW{t u:List Nat}{p:Nat}(u1:1≤u.length)(t1:1≤t.length)(hp:p∈bc u t):eJ t u u:=by
 have hin:=fX hp t1
 have e:bq t u p (u.length-p-t.length)=u:=by
  apply List.ext_getElem?
  intro x
  by_cases hx:x<p
  ·exact li (by lia) hx
  ·by_cases hx2:x<p+t.length
   ·have:=dJ (t:=t) (u:=u) (one:=p) (other:=u.length-p-t.length) (i:=x-p) (by lia) (by lia)
    rw[show p+(x-p)=x by lia] at this
    have g:=ip hp (x-p) (by lia)
    rw[show p+(x-p)=x by lia] at g
    rw[this,g]
   ·have:=jd (t:=t) (u:=u) (one:=p) (other:=u.length-p-t.length) (i:=x-p-t.length) (by lia) (by lia)
    rw[show p+t.length+(x-p-t.length)=x by lia] at this
    rw[this]
    congr 1;lia
 refine⟨⟨p,u.length-p-t.length,by lia,by lia,e.symm,oS⟩,fun o d o1 d1 hc=>?_⟩
 have hl:=eD (t:=t) (u:=u) (one:=o) (other:=d) (by lia) (by lia)
 obtain⟨g1,g2,_⟩:=i5 u1 (by lia) hc
 by_cases hlt:u.length<(bq t u o d).length
 ·exact .inl hlt
 ·right
  have:=(mem_lies.mp g1).2
  rw[List.drop_zero,List.take_of_length_le (by lia)] at this
  exact this
structure Ends2(t u:List Nat)(one d:Nat):Prop where
 o1:one<u.length
 oA:bS t u (-(one:Int))
 oM:∀k,k<one→¬bS t u (-(k:Int))
 d1:d<u.length
 dA:bS t u ((t.length:Int)-u.length+d)
 dM:∀k,k<d→¬bS t u ((t.length:Int)-u.length+k)
theorem mI{t u:List Nat}{k:Nat}(t1:1≤t.length)(h:bS t u (-(k:Int)))(hk:k+t.length≤u.length):k∈bc u t:=
 fK hk fun j hj=>by
  have:=h j hj (by lia) (by lia)
  rw[this];congr 1;lia
theorem kF{t u:List Nat}(u1:1≤u.length)(t1:1≤t.length)(h:fA t u (bg u true) (bu t u true)):∃one d,Ends2 t u one d:=by
 obtain⟨one,⟨ho1,ho4⟩,homin⟩:=lE (P:=fun k=>k<u.length∧bS t u (-(k:Int))) (by
  obtain⟨p,h3,h4,h5,h6,h7⟩:=h 0 (by lia)
  refine⟨(-p).toNat,by lia,?_⟩
  rw[show -((-p).toNat:Int)=p by lia];exact h7)
 obtain⟨d,⟨hd1,hd4⟩,hdmin⟩:=lE (P:=fun k=>k<u.length∧bS t u ((t.length:Int)-u.length+k)) (by
  obtain⟨p,h3,h4,h5,h6,h7⟩:=h (t.length-1) (by lia)
  unfold bu at h4;rw[if_pos rfl] at h4
  refine⟨(p+u.length-t.length).toNat,by lia,?_⟩
  rw[show(t.length:Int)-u.length+((p+u.length-t.length).toNat:Int)=p by lia];exact h7)
 exact⟨one,d,ho1,ho4,fun k hk q=>homin k hk ⟨by lia,q⟩,hd1,hd4,fun k hk q=>hdmin k hk ⟨by lia,q⟩⟩
theorem kO{t u:List Nat}{one d:Nat}(u1:1≤u.length)(t1:1≤t.length)(h:fA t u (bg u true) (bu t u true))(E:Ends2 t u one d)(no:bc u t=[]):eJ t u (bq t u one d):=by
 obtain⟨ho1,ho4,homin,hd1,hd4,hdmin⟩:=E
 have nol:∀p,p∉bc u t:=fun p hp=>by rw[no] at hp;cases hp
 have hA:u.length<one+t.length:=by
  by_cases hz:u.length<one+t.length
  ·exact hz
  ·exact absurd (mI t1 ho4 (by lia)) (nol _)
 have hmax:∀p:Int,bS t u p→p≤0→0<p+u.length→p≤ -(one:Int):=fun p h5 h6 h7=>by
  by_cases hlt:(-p).toNat<one
  ·exact absurd (by rw[show -((-p).toNat:Int)=p by lia];exact h5) (homin _ hlt)
  ·lia
 have hpos:(0:Int)<(t.length:Int)-u.length+d:=by
  by_cases hz:(0:Int)<(t.length:Int)-u.length+d
  ·exact hz
  ·have:=hmax _ hd4 (by lia) (by lia);lia
 have hlen:=eD (t:=t) (u:=u) (one:=one) (other:=d) (by lia) (by lia)
 have l0:0∈bc (bq t u one d) u:=fK (by lia) fun j hj=>by
  rw[Nat.zero_add]
  by_cases hx:j<one
  ·exact li (by lia) hx
  ·have:=dJ (t:=t) (u:=u) (one:=one) (other:=d) (i:=j-one) (by lia) (by lia)
   rw[show one+(j-one)=j by lia] at this
   rw[this,ho4 (j-one) (by lia) (by lia) (by lia)]
   congr 1;lia
 have l1:one+(t.length+d-u.length)∈bc (bq t u one d) u:=fK (by lia) fun j hj=>by
  by_cases hx:j<u.length-d
  ·have:=dJ (t:=t) (u:=u) (one:=one) (other:=d) (i:=t.length+d-u.length+j) (by lia) (by lia)
   rw[show one+(t.length+d-u.length)+j=one+(t.length+d-u.length+j) by lia,this,hd4 (t.length+d-u.length+j) (by lia) (by lia) (by lia)]
   congr 1;lia
  ·have:=jd (t:=t) (u:=u) (one:=one) (other:=d) (i:=j-(u.length-d)) (by lia) (by lia)
   rw[show one+(t.length+d-u.length)+j=one+t.length+(j-(u.length-d)) by lia,this]
   congr 1;lia
 refine⟨⟨one,d,ho1,hd1,rfl,covers_iff.mpr fun x hx=>?_⟩,fun o' d' o1' d1' hc=>?_⟩
 ·rw[hlen] at hx
  by_cases hx1:x<u.length
  ·exact⟨0,l0,by lia,by lia⟩
  ·by_cases hx2:one+(t.length+d-u.length)≤x
   ·exact⟨_,l1,hx2,by lia⟩
   ·obtain⟨p,h3,h4,h5,h6,h7⟩:=h (x-one) (by lia)
    have hp0:0<p:=by
     by_cases hz:0<p
     ·exact hz
     ·have:=hmax p h7 (by lia) (by lia);lia
    have hpe:p+u.length<t.length:=by
     by_cases hz:p+u.length<t.length
     ·exact hz
     ·have hge:d≤(p+u.length-t.length).toNat:=by
       by_cases hlt:(p+u.length-t.length).toNat<d
       ·exact absurd (by rw[show(t.length:Int)-u.length+((p+u.length-t.length).toNat:Int)=p by lia];exact h7) (hdmin _ hlt)
       ·lia
      lia
    refine⟨one+p.toNat,fK (by lia) fun j hj=>?_,by lia,by lia⟩
    have:=dJ (t:=t) (u:=u) (one:=one) (other:=d) (i:=p.toNat+j) (by lia) (by lia)
    rw[show one+p.toNat+j=one+(p.toNat+j) by lia,this,h7 (p.toNat+j) (by lia) (by lia) (by lia)]
    congr 1;lia
 ·have hl':=eD (t:=t) (u:=u) (one:=o') (other:=d') (by lia) (by lia)
  obtain⟨g1,g2,g3⟩:=i5 u1 (by lia) hc
  have a1:=jS o1' d1' g1
  have a2:=jS o1' d1' g3
  have e1:one≤o':=by
   by_cases hz:one≤o'
   ·exact hz
   ·exact absurd (by rw[show -((o':Nat):Int)=((0:Nat):Int)-o' by lia];exact a1) (homin o' (by lia))
  have e2:d≤d':=by
   by_cases hz:d≤d'
   ·exact hz
   ·refine absurd ?_ (hdmin d' (by lia))
    rw[show(t.length:Int)-u.length+(d':Nat)=(((bq t u o' d').length-u.length:Nat):Int)-o' by lia]
    exact a2
  rw[hlen,hl']
  by_cases hz:one=o'∧d=d'
  ·right;rw[hz.1,hz.2]
  ·left;lia
theorem qJ{t u:List Nat}(u1:1≤u.length)(t1:1≤t.length):df t u (bg u true) (bu t u true)=true↔∃L,eJ t u L:=by
 rw[je (mf u1) (j4 u1)]
 constructor
 ·intro h
  by_cases no:bc u t=[]
  ·obtain⟨one,d,E⟩:=kF u1 t1 h
   exact⟨_,kO u1 t1 h E no⟩
  ·obtain⟨p,r,e⟩:=List.exists_cons_of_ne_nil no
   exact⟨u,kW u1 t1 (p:=p) (by rw[e];exact List.mem_cons_self)⟩
 ·rintro⟨L,⟨o,d,o1,d1,rfl,hc⟩,_⟩
  exact rh u1 t1 o1 d1 (fun e=>by cases e) (fun e=>by cases e) hc
abbrev iA:Stmt:=aN 46
structure Exs(K:PySem.W.Frag)(mg:Str→Option Value)(cCoverError cNoWord cNoSign cNoText cNoCover cNoChain cNoForm cNoNumber cNoneYet cTooMany:Addr):Prop where
 bCoverError:mg "CoverError"=some (.ref cCoverError)
 bNoWord:mg "NoWord"=some (.ref cNoWord)
 bNoSign:mg "NoSign"=some (.ref cNoSign)
 bNoText:mg "NoText"=some (.ref cNoText)
 bNoCover:mg "NoCover"=some (.ref cNoCover)
 bNoChain:mg "NoChain"=some (.ref cNoChain)
 bNoForm:mg "NoForm"=some (.ref cNoForm)
 bNoNumber:mg "NoNumber"=some (.ref cNoNumber)
 bNoneYet:mg "NoneYet"=some (.ref cNoneYet)
 bTooMany:mg "TooMany"=some (.ref cTooMany)
 nValueError:mg "ValueError"=none
 facts:excFacts K cCoverError [cNoWord,cNoSign,cNoText,cNoCover,cNoChain,cNoForm,cNoNumber,cNoneYet,cTooMany]=true
 nd:[cNoWord,cNoSign,cNoText,cNoCover,cNoChain,cNoForm,cNoNumber,cNoneYet,cTooMany].Nodup
theorem exs_mk{K:PySem.W.Frag}{mg:Str→Option Value}{c0 c1 c2 c3 c4 c5 c6 c7 c8 c9:Addr}(M:Md K mg)(a0:PySem.W.nsIn K mainGlobals "CoverError"=some (some (.ref c0)))(a1:PySem.W.nsIn K mainGlobals "NoWord"=some (some (.ref c1)))(a2:PySem.W.nsIn K mainGlobals "NoSign"=some (some (.ref c2)))(a3:PySem.W.nsIn K mainGlobals "NoText"=some (some (.ref c3)))(a4:PySem.W.nsIn K mainGlobals "NoCover"=some (some (.ref c4)))(a5:PySem.W.nsIn K mainGlobals "NoChain"=some (some (.ref c5)))(a6:PySem.W.nsIn K mainGlobals "NoForm"=some (some (.ref c6)))(a7:PySem.W.nsIn K mainGlobals "NoNumber"=some (some (.ref c7)))(a8:PySem.W.nsIn K mainGlobals "NoneYet"=some (some (.ref c8)))(a9:PySem.W.nsIn K mainGlobals "TooMany"=some (some (.ref c9)))(av:PySem.W.nsIn K mainGlobals "ValueError"=some none)(f:excFacts K c0 [c1,c2,c3,c4,c5,c6,c7,c8,c9]=true)(nd:[c1,c2,c3,c4,c5,c6,c7,c8,c9].Nodup):Exs K mg c0 c1 c2 c3 c4 c5 c6 c7 c8 c9:=
 ⟨M.ns _ _ a0,M.ns _ _ a1,M.ns _ _ a2,M.ns _ _ a3,M.ns _ _ a4,M.ns _ _ a5,M.ns _ _ a6,M.ns _ _ a7,M.ns _ _ a8,M.ns _ _ a9,M.ns _ _ av,f,nd⟩
def Cls(c0 c1 c2 c3 c5:Addr)(D:Addr)(n:Str):Prop:=(D=c0∧n="word")∨(D=c1∧n="sign")∨(D=c2∧n="text")∨(D=c3∧n="cover")∨(D=c5∧n="many")
def l6(c0 c1 c2 c3 c5:Addr):Sp:=fun vs H Q _=>∃(e D:Addr) (n:Str),vs=[.ref e]∧H e=some (.ext (bA e (.ref D)))∧Cls c0 c1 c2 c3 c5 D n∧∀H',Same H H'→Q (.str n) H'
section
variable{P:Program}{w:World}{K:PySem.W.Frag}{mg:Str→Option Value}{base:Heap}{cCoverError cNoWord cNoSign cNoText cNoCover cNoChain cNoForm cNoNumber cNoneYet cTooMany:Addr}
theorem scKind:FnScope ["caught","kinds","odd"] ["caught"] (aw iA):=fsc_
theorem qd(M:Md K mg)(B:Bl mg)(F:FF K "_law_kind" iA)(S:Exs K mg cCoverError cNoWord cNoSign cNoText cNoCover cNoChain cNoForm cNoNumber cNoneYet cTooMany):Fn P w K mg base ai "_law_kind" 1 ["caught"] (l6 cNoWord cNoSign cNoText cNoCover cTooMany):=by
 obtain⟨bCoverError,bNoWord,bNoSign,bNoText,bNoCover,bNoChain,bNoForm,bNoNumber,bNoneYet,bTooMany,nValueError,facts,nd⟩:=S
 refine aL M F scKind (fun _ _ _ _ _ _=>bj fun _=>rfl) (fun vs H Q E h=>?_) (fun f cdv A outer s H vs Q E hr h=>?_)
 ·obtain⟨e,D,n,rfl,_⟩:=h;rfl
 ·obtain⟨e,D,n,rfl,hH,hD,k⟩:=h
  refine⟨_,(ae (am (i:=1) scKind.nd rfl (.inl rfl) (aY (aa (dO B.isinst bNoWord (pv 0)) (aa (dO B.isinst bNoSign (pv 0)) (aa (dO B.isinst bNoText (pv 0)) ac)))))
   (ae (am (i:=1) scKind.nd rfl (.inl rfl) (ak bw (pv 1) (aY (aa (dO B.isinst bNoCover (pv 0)) (aa (dO B.isinst bNoNumber (pv 0)) (aa (dO B.isinst bTooMany (pv 0)) ac))))))
   (ae (am (i:=2) scKind.nd rfl (.inl rfl) (si B.isinst (pv 0) (cV (aa (du (v:=.ref cNoChain) (by rfl) bNoChain rfl) (aa (du (v:=.ref cNoForm) (by rfl) bNoForm rfl) (aa (du (v:=.ref cNoneYet) (by rfl) bNoneYet rfl) ac))))))
   (ae (aF (PW.pt (dF (bt (pv 2)) (dF (cx (bt (ss B.isinst nValueError qm (pv 0)))) (fy (aE eR (eB PySem.F.plainAttrs_list PySem.F.slot_list_count PySem.F.type_list_count rg (pv 1) (aa ck ac)) ad (aC _)))))) (ah (ar aO)) aM)
   (ah (ar (aZ bh (aY (aa aO (aa aO (aa aO (aa aO (aa aO (aa aO ac))))))) (eB PySem.F.plainAttrs_list PySem.F.slot_list_index PySem.F.type_list_index pZ (pv 1) (aa ck ac)) (fun _ _=>rfl)))))))),?_⟩
  have hm:D∈[cNoWord,cNoSign,cNoText,cNoCover,cNoChain,cNoForm,cNoNumber,cNoneYet,cTooMany]:=by
   rcases hD with⟨q,_⟩ | ⟨q,_⟩ | ⟨q,_⟩ | ⟨q,_⟩ | ⟨q,_⟩ <;> simp[q]
  have hF:=excFacts.of facts D hm
  have ea:=hF.any [cNoChain,cNoForm,cNoneYet] (fun c hc=>by
   simp only[List.mem_cons,List.not_mem_nil,or_false] at hc ⊢
   rcases hc with h | h | h <;> simp[h])
  have e0:=hF.one cNoWord (by simp)
  have e1:=hF.one cNoSign (by simp)
  have e2:=hF.one cNoText (by simp)
  have e3:=hF.one cNoCover (by simp)
  have e4:=hF.one cNoNumber (by simp)
  have e5:=hF.one cTooMany (by simp)
  obtain⟨j,b0,b1,b2,b3,b4,b5,h0,h1,h2,h3,h4,h5,hc,hj,hi,hn,ha⟩:∃(j:Nat) (b0 b1 b2 b3 b4 b5:Bool),(D == cNoWord)=b0∧(D == cNoSign)=b1∧(D == cNoText)=b2∧(D == cNoCover)=b3∧(D == cNoNumber)=b4∧(D == cTooMany)=b5∧ [b0,b1,b2,b3,b4,b5].count true=1∧ [b0,b1,b2,b3,b4,b5][j]?=some true∧(∀i,i<j→[b0,b1,b2,b3,b4,b5][i]?=some (!true))∧
   bF [V.str "word",.str "sign",.str "text",.str "cover",.str "number",.str "many"] (j:Int)=some (.str n)∧([cNoChain,cNoForm,cNoneYet].any fun c=>D == c)=false:=by
   rcases hD with⟨rfl,rfl⟩ | ⟨rfl,rfl⟩ | ⟨rfl,rfl⟩ | ⟨rfl,rfl⟩ | ⟨rfl,rfl⟩
   ·exact⟨0,true,false,false,false,false,false,(by first | exact beq_self_eq_true _ | exact beq_eq_false_iff_ne.mpr (fun q=>by simp[q] at nd)),(by first | exact beq_self_eq_true _ | exact beq_eq_false_iff_ne.mpr (fun q=>by simp[q] at nd)),(by first | exact beq_self_eq_true _ | exact beq_eq_false_iff_ne.mpr (fun q=>by simp[q] at nd)),(by first | exact beq_self_eq_true _ | exact beq_eq_false_iff_ne.mpr (fun q=>by simp[q] at nd)),(by first | exact beq_self_eq_true _ | exact beq_eq_false_iff_ne.mpr (fun q=>by simp[q] at nd)),(by first | exact beq_self_eq_true _ | exact beq_eq_false_iff_ne.mpr (fun q=>by simp[q] at nd)),rfl,rfl,(fun i hi=>by match i,hi with | i,hi=>exact absurd hi (Nat.not_lt_zero _)),rfl,(by simp only[List.any_cons,List.any_nil,Bool.or_false,Bool.or_eq_false_iff];exact⟨(by first | exact beq_self_eq_true _ | exact beq_eq_false_iff_ne.mpr (fun q=>by simp[q] at nd)),(by first | exact beq_self_eq_true _ | exact beq_eq_false_iff_ne.mpr (fun q=>by simp[q] at nd)),(by first | exact beq_self_eq_true _ | exact beq_eq_false_iff_ne.mpr (fun q=>by simp[q] at nd))⟩)⟩
   ·exact⟨1,false,true,false,false,false,false,(by first | exact beq_self_eq_true _ | exact beq_eq_false_iff_ne.mpr (fun q=>by simp[q] at nd)),(by first | exact beq_self_eq_true _ | exact beq_eq_false_iff_ne.mpr (fun q=>by simp[q] at nd)),(by first | exact beq_self_eq_true _ | exact beq_eq_false_iff_ne.mpr (fun q=>by simp[q] at nd)),(by first | exact beq_self_eq_true _ | exact beq_eq_false_iff_ne.mpr (fun q=>by simp[q] at nd)),(by first | exact beq_self_eq_true _ | exact beq_eq_false_iff_ne.mpr (fun q=>by simp[q] at nd)),(by first | exact beq_self_eq_true _ | exact beq_eq_false_iff_ne.mpr (fun q=>by simp[q] at nd)),rfl,rfl,(fun i hi=>by match i,hi with | 0,_=>rfl),rfl,(by simp only[List.any_cons,List.any_nil,Bool.or_false,Bool.or_eq_false_iff];exact⟨(by first | exact beq_self_eq_true _ | exact beq_eq_false_iff_ne.mpr (fun q=>by simp[q] at nd)),(by first | exact beq_self_eq_true _ | exact beq_eq_false_iff_ne.mpr (fun q=>by simp[q] at nd)),(by first | exact beq_self_eq_true _ | exact beq_eq_false_iff_ne.mpr (fun q=>by simp[q] at nd))⟩)⟩
   ·exact⟨2,false,false,true,false,false,false,(by first | exact beq_self_eq_true _ | exact beq_eq_false_iff_ne.mpr (fun q=>by simp[q] at nd)),(by first | exact beq_self_eq_true _ | exact beq_eq_false_iff_ne.mpr (fun q=>by simp[q] at nd)),(by first | exact beq_self_eq_true _ | exact beq_eq_false_iff_ne.mpr (fun q=>by simp[q] at nd)),(by first | exact beq_self_eq_true _ | exact beq_eq_false_iff_ne.mpr (fun q=>by simp[q] at nd)),(by first | exact beq_self_eq_true _ | exact beq_eq_false_iff_ne.mpr (fun q=>by simp[q] at nd)),(by first | exact beq_self_eq_true _ | exact beq_eq_false_iff_ne.mpr (fun q=>by simp[q] at nd)),rfl,rfl,(fun i hi=>by match i,hi with | 0,_=>rfl | 1,_=>rfl),rfl,(by simp only[List.any_cons,List.any_nil,Bool.or_false,Bool.or_eq_false_iff];exact⟨(by first | exact beq_self_eq_true _ | exact beq_eq_false_iff_ne.mpr (fun q=>by simp[q] at nd)),(by first | exact beq_self_eq_true _ | exact beq_eq_false_iff_ne.mpr (fun q=>by simp[q] at nd)),(by first | exact beq_self_eq_true _ | exact beq_eq_false_iff_ne.mpr (fun q=>by simp[q] at nd))⟩)⟩
   ·exact⟨3,false,false,false,true,false,false,(by first | exact beq_self_eq_true _ | exact beq_eq_false_iff_ne.mpr (fun q=>by simp[q] at nd)),(by first | exact beq_self_eq_true _ | exact beq_eq_false_iff_ne.mpr (fun q=>by simp[q] at nd)),(by first | exact beq_self_eq_true _ | exact beq_eq_false_iff_ne.mpr (fun q=>by simp[q] at nd)),(by first | exact beq_self_eq_true _ | exact beq_eq_false_iff_ne.mpr (fun q=>by simp[q] at nd)),(by first | exact beq_self_eq_true _ | exact beq_eq_false_iff_ne.mpr (fun q=>by simp[q] at nd)),(by first | exact beq_self_eq_true _ | exact beq_eq_false_iff_ne.mpr (fun q=>by simp[q] at nd)),rfl,rfl,(fun i hi=>by match i,hi with | 0,_=>rfl | 1,_=>rfl | 2,_=>rfl),rfl,(by simp only[List.any_cons,List.any_nil,Bool.or_false,Bool.or_eq_false_iff];exact⟨(by first | exact beq_self_eq_true _ | exact beq_eq_false_iff_ne.mpr (fun q=>by simp[q] at nd)),(by first | exact beq_self_eq_true _ | exact beq_eq_false_iff_ne.mpr (fun q=>by simp[q] at nd)),(by first | exact beq_self_eq_true _ | exact beq_eq_false_iff_ne.mpr (fun q=>by simp[q] at nd))⟩)⟩
   ·exact⟨5,false,false,false,false,false,true,(by first | exact beq_self_eq_true _ | exact beq_eq_false_iff_ne.mpr (fun q=>by simp[q] at nd)),(by first | exact beq_self_eq_true _ | exact beq_eq_false_iff_ne.mpr (fun q=>by simp[q] at nd)),(by first | exact beq_self_eq_true _ | exact beq_eq_false_iff_ne.mpr (fun q=>by simp[q] at nd)),(by first | exact beq_self_eq_true _ | exact beq_eq_false_iff_ne.mpr (fun q=>by simp[q] at nd)),(by first | exact beq_self_eq_true _ | exact beq_eq_false_iff_ne.mpr (fun q=>by simp[q] at nd)),(by first | exact beq_self_eq_true _ | exact beq_eq_false_iff_ne.mpr (fun q=>by simp[q] at nd)),rfl,rfl,(fun i hi=>by match i,hi with | 0,_=>rfl | 1,_=>rfl | 2,_=>rfl | 3,_=>rfl | 4,_=>rfl),rfl,(by simp only[List.any_cons,List.any_nil,Bool.or_false,Bool.or_eq_false_iff];exact⟨(by first | exact beq_self_eq_true _ | exact beq_eq_false_iff_ne.mpr (fun q=>by simp[q] at nd)),(by first | exact beq_self_eq_true _ | exact beq_eq_false_iff_ne.mpr (fun q=>by simp[q] at nd)),(by first | exact beq_self_eq_true _ | exact beq_eq_false_iff_ne.mpr (fun q=>by simp[q] at nd))⟩)⟩
  rw[ha] at ea
  rw[h0] at e0
  rw[h1] at e1
  rw[h2] at e2
  rw[h3] at e3
  rw[h4] at e4
  rw[h5] at e5
  refine⟨_,rfl,e,D,_,rfl,hH,hF.kit,e0,_,rfl,e,D,_,rfl,hH,hF.kit,e1,_,rfl,e,D,_,rfl,hH,hF.kit,e2,by show 3≤sizeLine;decide,fun l hl=>?_⟩
  have s1:=Same.upd (o:=.lst [V.bl b0,.bl b1,.bl b2]) hl
  have hl1:=af (H:=H) (a:=l) (o:=.lst [V.bl b0,.bl b1,.bl b2])
  generalize L2.upd H l (.lst [V.bl b0,.bl b1,.bl b2])=H1 at s1 hl1 ⊢
  have hH1:=s1 _ _ hH
  refine⟨_,rfl,_,rfl,e,D,_,rfl,hH1,hF.kit,e3,_,rfl,e,D,_,rfl,hH1,hF.kit,e4,_,rfl,e,D,_,rfl,hH1,hF.kit,e5,by show 3≤sizeLine;decide,fun l2 hl2=>?_⟩
  have s2:=Same.upd (o:=.lst [V.bl b3,.bl b4,.bl b5]) hl2
  refine⟨l,l2,_,_,rfl,rfl,s2 _ _ hl1,af,by show 6≤sizeLine;decide,fun l3 hl3=>?_⟩
  have s3:=(s1.trans s2).trans (Same.upd (o:=.lst ([V.bl b0,.bl b1,.bl b2]++[V.bl b3,.bl b4,.bl b5])) hl3)
  have hk3:(L2.upd (L2.upd H1 l2 (.lst [V.bl b3,.bl b4,.bl b5])) l3 (.lst ([V.bl b0,.bl b1,.bl b2]++[V.bl b3,.bl b4,.bl b5]))) l3=some (.lst ([b0,b1,b2,b3,b4,b5].map V.bl)):=af
  generalize L2.upd (L2.upd H1 l2 (.lst [V.bl b3,.bl b4,.bl b5])) l3 (.lst ([V.bl b0,.bl b1,.bl b2]++[V.bl b3,.bl b4,.bl b5]))=H3 at s3 hk3 ⊢
  refine⟨_,rfl,by show 3≤sizeLine;decide,fun tp htp=>?_⟩
  have s4':=Same.upd (o:=.tup [V.ref cNoChain,.ref cNoForm,.ref cNoneYet]) htp
  have s4:=s3.trans s4'
  have hk4:=s4' _ _ hk3
  have hH4:=s4 _ _ hH
  refine⟨e,D,tp,[cNoChain,cNoForm,cNoneYet],_,rfl,rfl,af,hH4,hF.kit,ea,?_⟩
  generalize L2.upd H3 tp (.tup [V.ref cNoChain,.ref cNoForm,.ref cNoneYet])=H4 at s4 hk4 hH4 ⊢
  refine⟨_,rfl,false,rfl,aA ?_⟩
  refine⟨_,rfl,e,D,_,rfl,hH4,hF.kit,hF.val,true,rfl,aA ?_⟩
  refine⟨_,rfl,.inl ⟨rfl,_,SqL.of hk4⟩,l3,_,true,rfl,rfl,hk4,rfl,_,rfl,?_⟩
  rw[hc]
  refine aA ?_
  refine⟨by show 6≤sizeLine;decide,fun m hm=>?_⟩
  have s5:=Same.upd (o:=.lst [V.str "word",.str "sign",.str "text",.str "cover",.str "number",.str "many"]) hm
  refine⟨_,rfl,.inl ⟨rfl,_,SqL.of (s5 _ _ hk4)⟩,l3,_,true,j,rfl,rfl,s5 _ _ hk4,hj,hi,?_⟩
  exact⟨m,_,_,_,rfl,rfl,SqL.of af,hn,k _ (s4.trans s5)⟩
end
abbrev fk:Stmt:=aN 35
def jW(cC:Addr):Sp:=fun vs H Q E=>∃(a b:Addr) (t u:List Nat),vs=[.ref a,.ref b]∧H a=some (.lst (t.map sg))∧H b=some (.lst (u.map sg))∧Low t∧Low u∧1≤t.length∧1≤u.length∧t.length≤900∧u.length≤900∧
 ((∀L,¬eJ t u L)→∀H',Same H H'→E (.ref cC) none H')∧
 (∀L,eJ t u L→∀(r:Addr) (H':Hp),H r=none→H' r=some (.lst (L.map sg))→Same H H'→Q (.ref r) H')
theorem r8{α:Type}{xs:List α}{i:Nat}{x:α}(h:xs[i]?=some x):xs.take (i+1)=xs.take i++[x]:=by
 rw[List.take_add_one,h];rfl
theorem fm{A:List Int}{f:Int→Bool}{i:Nat}{z:Int}(hz:A[i]?=some z):(((A.take (i+1)).filter f).map V.int)=(((A.take i).filter f).map V.int)++(if f z=true then [V.int z] else []):=by
 rw[r8 hz,List.filter_append,List.map_append]
 congr 1
 by_cases h:f z=true <;> simp[h]
theorem jv{A:List Int}{i:Nat}{x:V}(h:(A.map V.int)[i]?=some x):∃z,A[i]?=some z∧x=.int z:=by
 rw[List.getElem?_map] at h
 cases e:A[i]? with
 | none=>rw[e] at h;cases h
 | some z=>rw[e] at h;exact⟨z,rfl,(Option.some.inj h).symm⟩
section
variable{P:Program}{w:World}{K:PySem.W.Frag}{mg:Str→Option Value}{base:Heap}{cNoCover:Addr}
theorem scShown:FnScope ["text","word","places","ahead","behind"] ["text","word"] (aw fk):=fsc_
theorem re(M:Md K mg)(B:Bl mg)(F:FF K "shown_with_rests" fk)(ONoCover:Exc K mg "NoCover" cNoCover)(Frest_both:Fn P w K mg base (aq P w) "rest_both" 5 ["text","word"] (bL true true))(Flies_at:Fn P w K mg base (aq P w) "lies_at" 4 ["text","word"] ik)(Fplaces_with_rests:Fn P w K mg base ai "places_with_rests" 3 ["text","word"] eF):Fn P w K mg base (aq P w) "shown_with_rests" 6 ["text","word"] (jW cNoCover):=by
 refine bO M F scShown (fun _ _ _ _ _ _=>bx fun _ _=>rfl) (fun vs H Q E h=>?_) (fun f cdv A outer s H vs Q E hr h=>?_)
 ·obtain⟨a,b,t,u,rfl,_⟩:=h;rfl
 ·obtain⟨a,b,t,u,rfl,ha,hb,lt,lu,t1,u1,tl,ul,kx,k⟩:=h
  refine⟨_,(ae (aF (cx (bt (ag Frest_both hr bv (aa (pv 0) (aa (pv 1) ac))))) (ah (dL ONoCover aO)) aM)
   (ae (aF (aE dy (aB B.len (ag Flies_at hr bv (aa (pv 1) (aa (pv 0) ac)))) ad (aC _)) (ah (ar (eH B.list (pv 1)))) aM)
   (ae (am (i:=2) scShown.nd rfl (.inl rfl) (ag Fplaces_with_rests hr aj (aa (pv 0) (aa (pv 1) ac))))
   (ae (am (i:=3) scShown.nd rfl (.inl rfl) (jn rfl B.max (bR ["text","word","places","ahead","behind"] rfl (cj (pv 2)) (fun _=>by exact(bW (aE j9 (pv 5) ad (aC _)))) (fun _=>by exact(pv 5)))))
   (ae (am (i:=4) scShown.nd rfl (.inl rfl) (kX rfl B.min (bR ["text","word","places","ahead","behind"] rfl (cj (pv 2)) (fun _=>by exact(bW (aE gG (ak aV (pv 5) (aB B.len (pv 1))) (aB B.len (pv 0)) (aC _)))) (fun _=>by exact(pv 5)))))
   (ah (ar (ak bw (ak bw (aS aU (pv 1) bb (aP (kN md (pv 3)))) (pv 0)) (aS aU (pv 1) (aP (ak bp (aB B.len (pv 0)) (pv 4))) bb))))))))),?_⟩
  refine⟨_,rfl,_,rfl,a,b,t,u,rfl,ha,hb,lt,lu,t1,u1,tl,ul,fun H1 s1=>?_⟩
  have hiff:=qJ (t:=t) (u:=u) u1 t1
  cases hB:df t u (bg u true) (bu t u true) with
  | false=>
    rw[hB] at hiff
    exact⟨false,rfl,aQ ⟨rfl,kx (fun L hL=>by have:=hiff.mpr ⟨L,hL⟩;cases this) H1 s1⟩⟩
  | true=>
    refine⟨true,rfl,aA ?_⟩
    have hC:=(je (mf u1) (j4 u1)).mp hB
    have ha1:=s1 _ _ ha
    have hb1:=s1 _ _ hb
    refine⟨_,rfl,_,rfl,b,a,u,t,rfl,hb1,ha1,lu,lt,ul,tl,t1,fun r2 H2 hr20 hr22 s2=>?_⟩
    have s02:=s1.trans s2
    refine⟨r2,_,rfl,SqL.of hr22,_,_,rfl,rfl,_,rfl,?_⟩
    rw[cL]
    by_cases no:bc u t=[]
    ·rw[no,decide_eq_false (by simp)]
     refine aA ?_
     obtain⟨one,d,Em⟩:=kF u1 t1 hC
     have hs:=kO u1 t1 hC Em no
     refine⟨_,rfl,_,rfl,a,b,t,u,rfl,s02 _ _ ha,s02 _ _ hb,lt,lu,t1,u1,tl,ul,fun r3 H3 hr30 hr33 s3=>?_⟩
     have s03:=s02.trans s3
     have hlo:bg u true=1-(u.length:Int):=rfl
     have hhi:bu t u true=(t.length:Int)-1:=rfl
     have hmem:∀p:Int,p∈bE t u (bg u true) (bu t u true+1-bg u true).toNat↔(1-(u.length:Int)≤p∧p<t.length)∧bS t u p:=fun p=>by
      rw[mem_agPl,hlo,hhi]
      constructor
      ·rintro⟨h1,h2⟩
       exact⟨by lia,(fg (by lia) (by lia)).mp h2⟩
      ·rintro⟨h1,h2⟩
       exact⟨by lia,(fg (by lia) (by lia)).mpr h2⟩
     have hAl:=jr t u (bg u true) (bu t u true+1-bg u true).toNat
     have hAl2:(bE t u (bg u true) (bu t u true+1-bg u true).toNat).length≤1800:=by rw[hlo,hhi] at*;lia
     generalize bE t u (bg u true) (bu t u true+1-bg u true).toNat=Ap at hmem hAl2 hr33
     refine⟨_,rfl,r3,rfl,⟨_,SqL.of hr33⟩,fun D hD cb=>?_⟩
     refine iF (K:=K) (a:=r3) (xs:=Ap.map V.int) (fun i ys H4=>ys=(((Ap.take i).filter fun p=>decide (p≤0)).map V.int)∧Same H3 H4∧H4 D=some (.lst ys)) (by rw[List.length_map];exact eU (by lia)) ?_ ?_ ?_ ?_ ?_
     ·exact⟨by rw[List.take_zero];rfl,Same.upd hD,af⟩
     ·rintro i ys H4 ⟨rfl,_⟩
      rw[List.length_map]
      refine Nat.le_trans (List.length_filter_le _ _) ?_
      rw[List.length_take];lia
     ·rintro i ys H4 _ ⟨_,s4,_⟩
      exact SqL.of (s4 _ _ hr33)
     ·rintro i x ys H4 hx ⟨rfl,s4,hD4⟩
      obtain⟨z,hz,rfl⟩:=jv hx
      refine⟨_,rfl,_,_,rfl,rfl,_,rfl,?_⟩
      refine br (fun hc=>?_) (fun hc=>?_)
      ·refine⟨_,rfl,hD4,?_,?_,af⟩
       ·rw[fm hz,if_pos hc]
       ·intro e o q
        rw[ap (aW q hD)]
        exact s4 e o q
      ·refine⟨?_,s4,hD4⟩
       rw[fm hz,if_neg hc,List.append_nil]
     ·rintro ys H4 ⟨rfl,s4,hD4⟩
      rw[List.length_map,List.take_length] at hD4
      have o1:=Em.o1
      have d1:=Em.d1
      have inA: -(one:Int)∈Ap.filter fun p=>decide (p≤0):=List.mem_filter.mpr ⟨(hmem _).mpr ⟨by lia,Em.oA⟩,decide_eq_true (by lia)⟩
      refine⟨D,_,rfl,hD4,List.ne_nil_of_mem inA,fun m hm hmx=>?_⟩
      have em:m= -(one:Int):=by
       have h1:=hmx _ inA
       obtain⟨h2,h3⟩:=List.mem_filter.mp hm
       obtain⟨h4,h5⟩:=(hmem _).mp h2
       have h6:=of_decide_eq_true h3
       by_cases hlt:(-m).toNat<one
       ·exact absurd (by rw[show -((-m).toNat:Int)=m by lia];exact h5) (Em.oM _ hlt)
       ·lia
      subst em
      have s04:=s03.trans s4
      refine⟨_,rfl,r3,rfl,⟨_,SqL.of (s4 _ _ hr33)⟩,fun D2 hD2 cb2=>?_⟩
      refine iF (K:=K) (a:=r3) (xs:=Ap.map V.int) (fun i ys H5=>ys=(((Ap.take i).filter fun p=>decide (p+(u.length:Int)≥(t.length:Int))).map V.int)∧Same H4 H5∧H5 D2=some (.lst ys)) (by rw[List.length_map];exact eU (by lia)) ?_ ?_ ?_ ?_ ?_
      ·exact⟨by rw[List.take_zero];rfl,Same.upd hD2,af⟩
      ·rintro i ys H5 ⟨rfl,_⟩
       rw[List.length_map]
       refine Nat.le_trans (List.length_filter_le _ _) ?_
       rw[List.length_take];lia
      ·rintro i ys H5 _ ⟨_,s5,_⟩
       exact SqL.of (s5 _ _ (s4 _ _ hr33))
      ·rintro i x ys H5 hx ⟨rfl,s5,hD5⟩
       obtain⟨z,hz,rfl⟩:=jv hx
       have s05:=s04.trans s5
       refine⟨_,rfl,_,rfl,b,_,rfl,SqL.of (s05 _ _ hb),_,_,rfl,rfl,_,rfl,a,_,rfl,SqL.of (s05 _ _ ha),_,_,rfl,rfl,_,rfl,?_⟩
       rw[List.length_map,List.length_map]
       refine br (fun hc=>?_) (fun hc=>?_)
       ·refine⟨_,rfl,hD5,?_,?_,af⟩
        ·rw[fm hz,if_pos hc]
        ·intro e o q
         rw[ap (aW q hD2)]
         exact s5 e o q
       ·refine⟨?_,s5,hD5⟩
        rw[fm hz,if_neg hc,List.append_nil]
      ·rintro ys H5 ⟨rfl,s5,hD5⟩
       rw[List.length_map,List.take_length] at hD5
       have inB:(t.length:Int)-u.length+d∈Ap.filter fun p=>decide (p+(u.length:Int)≥(t.length:Int)):=List.mem_filter.mpr ⟨(hmem _).mpr ⟨by lia,Em.dA⟩,decide_eq_true (by lia)⟩
       refine⟨D2,_,rfl,hD5,List.ne_nil_of_mem inB,fun m hm hmn=>?_⟩
       have em:m=(t.length:Int)-u.length+d:=by
        have h1:=hmn _ inB
        obtain⟨h2,h3⟩:=List.mem_filter.mp hm
        obtain⟨h4,h5⟩:=(hmem _).mp h2
        have h6:=of_decide_eq_true h3
        by_cases hlt:(m+u.length-t.length).toNat<d
        ·exact absurd (by rw[show(t.length:Int)-u.length+((m+u.length-t.length).toNat:Int)=m by lia];exact h5) (Em.dM _ hlt)
        ·lia
       subst em
       have s05:=s04.trans s5
       refine⟨_,rfl,_,rfl,_,rfl,_,rfl,b,_,rfl,SqL.of (s05 _ _ hb),fun l1 hl1=>?_⟩
       rw[bN (by lia),show(- -(one:Int)).toNat=one by lia]
       have s6:=Same.upd (o:=.lst ((u.take one).map sg)) hl1
       have hl16:=af (H:=H5) (a:=l1) (o:=.lst ((u.take one).map sg))
       generalize L2.upd H5 l1 (.lst ((u.take one).map sg))=H6 at s6 hl16 ⊢
       have s06:=s05.trans s6
       refine⟨_,rfl,cf hl16 (s06 _ _ ha) (by rw[List.length_take];lia) fun l2 hl2=>?_⟩
       have s7:=Same.upd (o:=.lst ((u.take one++t).map sg)) hl2
       have hl27:=af (H:=H6) (a:=l2) (o:=.lst ((u.take one++t).map sg))
       generalize L2.upd H6 l2 (.lst ((u.take one++t).map sg))=H7 at s7 hl27 ⊢
       have s07:=s06.trans s7
       refine⟨_,rfl,_,rfl,a,_,rfl,SqL.of (s07 _ _ ha),_,rfl,_,_,rfl,rfl,_,rfl,b,_,rfl,SqL.of (s07 _ _ hb),fun l3 hl3=>?_⟩
       rw[List.length_map,cI (by lia),show((t.length:Int)-((t.length:Int)-u.length+d)).toNat=u.length-d by lia]
       have s8:=Same.upd (o:=.lst ((u.drop (u.length-d)).map sg)) hl3
       have hl38:=af (H:=H7) (a:=l3) (o:=.lst ((u.drop (u.length-d)).map sg))
       generalize L2.upd H7 l3 (.lst ((u.drop (u.length-d)).map sg))=H8 at s8 hl38 ⊢
       have s08:=s07.trans s8
       refine cf (s8 _ _ hl27) hl38 (by rw[List.length_append,List.length_take,List.length_drop];lia) fun l4 hl4=>?_
       exact k _ hs l4 _ (s08.free hl4) af (s08.trans (Same.upd hl4))
    ·obtain⟨p,r,e⟩:=List.exists_cons_of_ne_nil no
     have hs:=kW u1 t1 (p:=p) (u:=u) (t:=t) (by rw[e];exact List.mem_cons_self)
     rw[decide_eq_true (by rw[e];simp)]
     refine aQ ⟨_,rfl,b,_,rfl,SqL.of (s02 _ _ hb),fun l hl=>?_⟩
     exact k u hs l _ (s02.free hl) af (s02.trans (Same.upd hl))
end
def RunsAt(H:Hp)(r:Addr)(L:List (Nat×Nat)):Prop:=
 ∃cs:List Addr,H r=some (.lst (cs.map V.ref))∧cs.length=L.length∧∀(i:Nat) (c:Addr) (q:Nat×Nat),cs[i]?=some c→L[i]?=some q→H c=some (.tup [.int (q.1:Int),.int (q.2:Int)])
theorem RunsAt.same{H H':Hp}{r:Addr}{L:List (Nat×Nat)}(h:RunsAt H r L)(s:Same H H'):RunsAt H' r L:=by
 obtain⟨cs,h1,h2,h3⟩:=h
 exact⟨cs,s _ _ h1,h2,fun i c q a b=>s _ _ (h3 i c q a b)⟩
theorem RunsAt.nil{H:Hp}{r:Addr}(h:H r=some (.lst [])):RunsAt H r []:=⟨[],h,rfl,fun i c q a=>by simp at a⟩
theorem RunsAt.app{H:Hp}{r g:Addr}{L:List (Nat×Nat)}{cs:List Addr}{b e:Nat}(h1:H r=some (.lst (cs.map V.ref)))(h2:cs.length=L.length)(h3:∀(i:Nat) (c:Addr) (q:Nat×Nat),cs[i]?=some c→L[i]?=some q→H c=some (.tup [.int (q.1:Int),.int (q.2:Int)]))(hg:H g=some (.tup [.int (b:Int),.int (e:Int)])):RunsAt (L2.upd H r (.lst (cs.map V.ref++[V.ref g]))) r (L++[(b,e)]):=by
 have nr:∀c x,H c=some (.tup x)→c≠r:=fun c x q z=>by rw[z,h1] at q;cases q
 refine⟨cs++[g],by rw[af];simp,by simp[h2],fun i c q a b'=>?_⟩
 by_cases hi:i<cs.length
 ·rw[List.getElem?_append_left hi] at a
  rw[List.getElem?_append_left (by lia)] at b'
  have:=h3 i c q a b'
  rw[ap (nr _ _ this)];exact this
 ·rw[List.getElem?_append_right (by lia)] at a b'
  have hz:i-cs.length=0:=by
   by_cases hz:i-cs.length=0
   ·exact hz
   ·rw[List.getElem?_eq_none (by simp;lia)] at a;cases a
  have e1:g=c:=by rw[hz] at a;exact Option.some.inj a
  have e2:(b,e)=q:=by rw[show i-L.length=0 by lia] at b';exact Option.some.inj b'
  subst e1 e2
  rw[ap (nr _ _ hg)];exact hg
theorem RunsAt.imp{H H':Hp}{r:Addr}{L:List (Nat×Nat)}(h:RunsAt H r L)(k1:∀xs,H r=some (.lst xs)→H' r=some (.lst xs))(k2:∀b xs,H b=some (.tup xs)→H' b=some (.tup xs)):RunsAt H' r L:=by
 obtain⟨cs,h1,h2,h3⟩:=h
 exact⟨cs,k1 _ h1,h2,fun i c q a b=>k2 _ _ (h3 i c q a b)⟩
abbrev ba(t:List Nat)(m p:Nat):List Nat:=(t.drop p).take m
def bo(t:List Nat)(m:Nat):Nat→List (List Nat)
 | 0=>[]
 | j+1=>if ba t m j∈bo t m j then bo t m j else bo t m j++[ba t m j]
def bV(t:List Nat)(m j:Nat)(u:List Nat):List Nat:=(List.range j).filter fun p=>decide (ba t m p=u)
theorem mem_us{t:List Nat}{m:Nat}{u:List Nat}:∀{j:Nat},u∈bo t m j↔∃p,p<j∧ba t m p=u
 | 0=>by simp[bo]
 | j+1=>by
   simp only[bo]
   split
   ·rename_i h
    rw[mem_us (j:=j)]
    constructor
    ·rintro⟨p,h1,h2⟩;exact⟨p,by lia,h2⟩
    ·rintro⟨p,h1,h2⟩
     by_cases e:p=j
     ·subst e;rw[h2] at h;exact mem_us.mp h
     ·exact⟨p,by lia,h2⟩
   ·rw[List.mem_append,mem_us (j:=j),List.mem_singleton]
    constructor
    ·rintro(⟨p,h1,h2⟩ | h)
     ·exact⟨p,by lia,h2⟩
     ·exact⟨j,by lia,h.symm⟩
    ·rintro⟨p,h1,h2⟩
     by_cases e:p=j
     ·subst e;exact .inr h2.symm
     ·exact .inl ⟨p,by lia,h2⟩
theorem gZ{t:List Nat}{m:Nat}:∀{j:Nat},(bo t m j).Nodup
 | 0=>by simp[bo]
 | j+1=>by
   simp only[bo]
   split
   ·exact gZ
   ·rename_i h
    rw[List.nodup_append]
    refine⟨gZ,by simp,fun x hx y hy e=>?_⟩
    rw[List.mem_singleton.mp hy] at e
    exact h (e▸hx)
theorem fE{t:List Nat}{m:Nat}:∀j:Nat,(bo t m j).length≤j
 | 0=>Nat.le_refl _
 | j+1=>by
   have:=fE (t:=t) (m:=m) j
   simp only[bo]
   split
   ·lia
   ·rw[List.length_append,List.length_singleton];lia
theorem fP(t:List Nat)(m j:Nat)(u:List Nat):bV t m (j+1) u=bV t m j u++(if ba t m j=u then [j] else []):=by
 unfold bV
 rw[List.range_succ,List.filter_append]
 congr 1
 by_cases h:ba t m j=u <;> simp[h]
theorem rC{t:List Nat}{m j:Nat}{u:List Nat}(h:u∉bo t m j):bV t m j u=[]:=by
 unfold bV
 rw[List.filter_eq_nil_iff]
 intro p hp
 have hp':p<j:=by simpa using hp
 simp only[decide_eq_true_eq]
 intro e
 exact h (mem_us.mpr ⟨p,hp',e⟩)
theorem p5{t u:List Nat}{m:Nat}(hu:u.length=m):bV t m (t.length+1-m) u=bc t u:=by
 unfold bV bc
 rw[hu]
theorem nk{t u:List Nat}{m j:Nat}(hj:j≤t.length+1-m)(h:u∈bo t m j)(m1:1≤m):u.length=m:=by
 obtain⟨p,hp,rfl⟩:=mem_us.mp h
 rw[List.length_take,List.length_drop];lia
def cG(u:List Nat):List ay:=u.map fun c=>Sum.inr (aG c)
theorem fF(u:List Nat):(cG u).map kV=u.map sg:=by
 unfold cG
 rw[List.map_map]
 rfl
theorem ot{u v:List Nat}(h:cG u=cG v):u=v:=by
 have:=congrArg (List.map kV) h
 rw[fF,fF] at this
 clear h
 induction u generalizing v with
 | nil=>cases v with
   | nil=>rfl
   | cons _ _=>cases this
 | cons a r ih=>cases v with
   | nil=>cases this
   | cons b q=>
     rw[List.map_cons,List.map_cons] at this
     obtain⟨h1,h2⟩:=List.cons.inj this
     rw[sg_inj.mp h1,ih h2]
def bB(es:List (List Nat×Addr)):List (List ay×V):=es.map fun e=>(cG e.1,V.ref e.2)
theorem gx(q:List Nat):∀es:List (List Nat×Addr),bI (bB es) (cG q)=(es.find? fun e=>decide (e.1=q)).map fun e=>V.ref e.2
 | []=>rfl
 | e::r=>by
   unfold bB
   rw[List.map_cons]
   by_cases h:e.1=q
   ·rw[lr (by rw[h]),List.find?_cons_of_pos (by simpa using h)];rfl
   ·rw[kE (fun z=>h (ot z)),List.find?_cons_of_neg (by simpa using h)]
    exact gx q r
theorem gy{α β:Type}{f:α→β}:∀{l:List α} {x y:α},(l.map f).Nodup→x∈l→y∈l→f x=f y→x=y
 | [],_,_,_,h,_,_=>by cases h
 | z::l,x,y,hn,hx,hy,e=>by
   rw[List.map_cons,List.nodup_cons] at hn
   rcases List.mem_cons.mp hx with rfl | hx'
   ·rcases List.mem_cons.mp hy with rfl | hy'
    ·rfl
    ·exact absurd (List.mem_map.mpr ⟨y,hy',e.symm⟩) hn.1
   ·rcases List.mem_cons.mp hy with rfl | hy'
    ·exact absurd (List.mem_map.mpr ⟨x,hx',e⟩) hn.1
    ·exact gy hn.2 hx' hy' e
structure Pieces(t:List Nat)(m j:Nat)(H0 H:Hp)(es:List (List Nat×Addr)):Prop where
 us:es.map (·.1)=bo t m j
 nd:(es.map (·.2)).Nodup
 at_:∀e∈es,H0 e.2=none∧H e.2=some (.lst (aT (bV t m j e.1)))
theorem Pieces.old{t:List Nat}{m j:Nat}{H0 H:Hp}{es:List (List Nat×Addr)}(h:Pieces t m j H0 H es){e:List Nat×Addr}(he:e∈es)(hq:e.1=ba t m j){z:Int}(hz:z=(j:Int)):Pieces t m (j+1) H0 (L2.upd H e.2 (.lst (aT (bV t m j e.1)++[V.int z]))) es:=by
 subst hz
 have hin:ba t m j∈bo t m j:=by rw[←h.us];exact List.mem_map.mpr ⟨e,he,hq⟩
 have nu:(es.map (·.1)).Nodup:=by rw[h.us];exact gZ
 refine⟨by rw[h.us];simp only[bo];rw[if_pos hin],h.nd,fun f hf=>⟨(h.at_ f hf).1,?_⟩⟩
 by_cases e2:f.2=e.2
 ·have:f=e:=gy h.nd hf he e2
  subst this
  rw[af,fP,if_pos hq.symm,gv]
 ·rw[ap e2,(h.at_ f hf).2,fP,if_neg,List.append_nil]
  intro z
  exact e2 (congrArg Prod.snd (gy nu hf he (z.symm.trans hq.symm)))
theorem Pieces.new{t:List Nat}{m j:Nat}{H0 H H':Hp}{es:List (List Nat×Addr)}{l:Addr}(h:Pieces t m j H0 H es)(hn:ba t m j∉bo t m j)(h0:H0 l=none){z:Int}(hz:z=(j:Int))(hl:H' l=some (.lst [V.int z]))(hk:∀e∈es,e.2≠l∧H' e.2=H e.2):Pieces t m (j+1) H0 H' (es++[(ba t m j,l)]):=by
 subst hz
 refine⟨?_,?_,fun f hf=>?_⟩
 ·rw[List.map_append,h.us];simp only[bo];rw[if_neg hn];rfl
 ·rw[List.map_append,List.nodup_append]
  refine⟨h.nd,by simp,fun x hx y hy e=>?_⟩
  obtain⟨f,hf,rfl⟩:=List.mem_map.mp hx
  have hy':y=l:=by simpa using hy
  exact(hk f hf).1 (e.trans hy')
 ·rcases List.mem_append.mp hf with hf1 | hf1
  ·have hne:f.1≠ba t m j:=fun z=>hn (by rw[←h.us,←z];exact List.mem_map.mpr ⟨f,hf1,rfl⟩)
   refine⟨(h.at_ f hf1).1,?_⟩
   rw[(hk f hf1).2,(h.at_ f hf1).2,fP,if_neg (fun z=>hne z.symm),List.append_nil]
  ·rw[List.mem_singleton.mp hf1]
   refine⟨h0,?_⟩
   rw[hl,fP,rC hn,if_pos rfl];rfl
theorem Pieces.mono{t:List Nat}{m j:Nat}{H0 H H':Hp}{es:List (List Nat×Addr)}(h:Pieces t m j H0 H es)(s:Same H H'):Pieces t m j H0 H' es:=⟨h.us,h.nd,fun e he=>⟨(h.at_ e he).1,s _ _ (h.at_ e he).2⟩⟩
theorem Pieces.len{t:List Nat}{m j:Nat}{H0 H:Hp}{es:List (List Nat×Addr)}(h:Pieces t m j H0 H es):es.length≤j:=by
 have:=fE (t:=t) (m:=m) j
 rw[←h.us,List.length_map] at this
 exact this
theorem qh{q:List Nat}{es:List (List Nat×Addr)}(h:(es.find? fun e=>decide (e.1=q))=none):q∉es.map (·.1):=by
 intro hm
 obtain⟨e,he,z⟩:=List.mem_map.mp hm
 have:=List.find?_eq_none.mp h e he
 simp[z] at this
theorem mW{q:List Nat}{es:List (List Nat×Addr)}{e:List Nat×Addr}(h:(es.find? fun e=>decide (e.1=q))=some e):e∈es∧e.1=q:=
 ⟨List.mem_of_find?_eq_some h,by simpa using List.find?_some h⟩
abbrev iN:Stmt:=aN 20
def ic:Sp:=fun vs H Q _=>∃(a:Addr) (t:List Nat) (m:Nat),vs=[.ref a,.int (m:Int)]∧H a=some (.lst (t.map sg))∧1≤m∧m≤t.length∧t.length≤900∧
 ∀(w:Addr) (es:List (List Nat×Addr)) (H':Hp),H w=none→H' w=some (.dT (bB es))→Pieces t m (t.length+1-m) H H' es→Same H H'→Q (.ref w) H'
section
variable{P:Program}{w:World}{K:PySem.W.Frag}{mg:Str→Option Value}{base:Heap}
theorem scPieces:FnScope ["text","many","places","place","piece"] ["text","many"] (aw iN):=fsc_
theorem oZ(M:Md K mg)(B:Bl mg)(F:FF K "piece_places" iN):Fn P w K mg base ai "piece_places" 1 ["text","many"] ic:=by
 refine aL M F scPieces (fun _ _ _ _ _ _=>bx fun _ _=>rfl) (fun vs H Q E h=>?_) (fun f cdv A outer s H vs Q E hr h=>?_)
 ·obtain⟨a,t,m,rfl,_⟩:=h;rfl
 ·obtain⟨a,t,m,rfl,ha,m1,mt,tl,k⟩:=h
  refine⟨_,(ae (am (i:=2) scPieces.nd rfl (.inl rfl) p6)
   (ae (bM PassesOwn.never rfl (d5 (by rfl) B.range (aa (ak aV (ak bp (aB B.len (pv 0)) (pv 1)) ad) ac)) (bz (i:=3) scPieces.nd rfl (.inl rfl))
   (ae (am (i:=4) scPieces.nd rfl (.inl rfl) (mM B.tuple (aS aU (pv 0) (aP (pv 3)) (aP (ak aV (pv 3) (pv 1))))))
   (ah (aI (eB PySem.F.plainAttrs_list PySem.F.slot_list_append PySem.F.type_list_append gF (nq (by exact nX hr) (pv 2) (pv 4) (aY ac) ⟨rfl,rfl,rfl,rfl⟩) (aa (pv 3) ac))))))
   (ah (ar (pv 2))))),?_⟩
  intro w hw
  have s1:=Same.upd (o:=.dT []) hw
  refine⟨_,rfl,a,_,rfl,SqL.of (s1 _ _ ha),_,rfl,_,_,rfl,rfl,_,_,rfl,rfl,_,rfl,by rw[List.length_map];lia,by rw[List.length_map];lia,?_⟩
  rw[List.length_map,show((t.length:Int)-(m:Int)+1).toNat=t.length+1-m by lia]
  refine iE (lo:=0) (n:=t.length+1-m) (fun j σ H2=>Same H H2∧∃es v3 v4,H2 w=some (.dT (bB es))∧Pieces t m j H H2 es∧σ=[some (.ref a),some (.int (m:Int)),some (.ref w),v3,v4]) ?_ ?_ ?_
  ·exact⟨s1,[],none,none,af,⟨rfl,by simp,fun e he=>by cases he⟩,rfl⟩
  ·rintro j σ H2 hj ⟨sH,es,v3,v4,hw2,pc,rfl⟩
   have ha2:=sH _ _ ha
   refine⟨_,rfl,_,rfl,_,rfl,_,rfl,_,rfl,_,_,rfl,rfl,_,rfl,a,_,rfl,SqL.of ha2,fun p1 hp1=>?_⟩
   have e1:cg (t.map sg) (some (0+(j:Int))) (some (0+(j:Int)+(m:Int)))=(ba t m j).map sg:=by
    rw[dk,dD,gg _ _ _ (by lia) (by lia),show(0+(j:Int)).toNat=j by lia,show(0+(j:Int)+(m:Int)).toNat-j=m by lia]
   rw[e1]
   have s3:=Same.upd (o:=.lst ((ba t m j).map sg)) hp1
   refine⟨p1,_,rfl,SqL.of af,fun c hc=>?_⟩
   have s4:=Same.upd (o:=.tup ((ba t m j).map sg)) hc
   refine⟨_,rfl,w,rfl,.inr ⟨_,.inl (s4 _ _ (s3 _ _ hw2))⟩,_,rfl,Nat.zero_le _,fun l hl=>?_⟩
   have s5:=Same.upd (o:=.lst []) hl
   have s25:=(s3.trans s4).trans s5
   have hw5:=s25 _ _ hw2
   have hc5:=s5 _ _ (af (H:=L2.upd H2 p1 (.lst ((ba t m j).map sg))) (a:=c) (o:=.tup ((ba t m j).map sg)))
   have hl5:=af (H:=L2.upd (L2.upd H2 p1 (.lst ((ba t m j).map sg))) c (.tup ((ba t m j).map sg))) (a:=l) (o:=.lst [])
   have ln:H2 l=none:=(s3.trans s4).free hl
   have pc5:=pc.mono s25
   generalize L2.upd (L2.upd (L2.upd H2 p1 (.lst ((ba t m j).map sg))) c (.tup ((ba t m j).map sg))) l (.lst [])=H5 at s25 hw5 hc5 hl5 pc5 ⊢
   have len:=pc.len
   have sH5:=sH.trans s25
   refine⟨c,bB es,cG (ba t m j),rfl,hw5,by rw[fF];exact hc5,by unfold bB;rw[List.length_map];exact ce (by lia),fun v hv=>?_,fun hv=>?_⟩
   ·rw[gx] at hv
    cases q:es.find? fun e=>decide (e.1=ba t m j) with
    | none=>rw[q] at hv;cases hv
    | some e=>
      rw[q] at hv
      obtain⟨he,eq⟩:=mW q
      have:V.ref e.2=v:=Option.some.inj hv
      subst this
      have h5:=(pc5.at_ e he).2
      have pl:(bV t m j e.1).length≤j:=lK _
      refine⟨.inl ⟨rfl,_,SqL.of h5⟩,_,rfl,e.2,_,_,rfl,rfl,h5,by rw[cL];exact ce (by lia),?_⟩
      refine⟨fun b o z=>by rw[ap (aW z (pc.at_ e he).1)];exact sH5 _ _ z,es,_,_,?_,pc5.old he eq (by lia),rfl⟩
      rw[ap (cK hw5 h5 (fun z=>nomatch z))]
      exact hw5
   ·rw[gx] at hv
    have q:(es.find? fun e=>decide (e.1=ba t m j))=none:=by
     cases q:es.find? fun e=>decide (e.1=ba t m j) with
     | none=>rfl
     | some e=>rw[q] at hv;cases hv
    have hn:ba t m j∉bo t m j:=by rw[←pc.us];exact qh q
    have nlw:l≠w:=(cK hw5 hl5 (fun z=>nomatch z)).symm
    have hl6:(L2.upd H5 w (.dT (bB es++[(cG (ba t m j),V.ref l)]))) l=some (.lst []):=by rw[ap nlw];exact hl5
    have l0:H l=none:=sH.free ln
    refine⟨.inl ⟨rfl,_,SqL.of hl6⟩,_,rfl,l,_,_,rfl,rfl,hl6,by decide,?_⟩
    refine⟨fun b o z=>?_,es++[(ba t m j,l)],_,_,?_,pc5.new hn l0 (show(0+(j:Int))=(j:Int) by lia) af fun e he=>?_,rfl⟩
    ·rw[ap (aW z l0),ap (aW z hw)]
     exact sH5 _ _ z
    ·rw[ap (Ne.symm nlw),af]
     unfold bB
     rw[List.map_append];rfl
    ·have h2:=(pc.at_ e he).2
     have nel:e.2≠l:=aW h2 ln
     refine⟨nel,?_⟩
     rw[ap nel,ap (cK h2 hw2 (fun z=>nomatch z))]
  ·rintro σ H2 ⟨sH,es,v3,v4,hw2,pc,rfl⟩
   exact⟨_,rfl,k w es H2 hw hw2 pc sH⟩
end
abbrev fr:Stmt:=aN 17
def jB:Sp:=fun vs H Q _=>∃(a:Addr) (t:List Nat),vs=[.ref a]∧H a=some (.lst (t.map sg))∧Low t∧1≤t.length∧t.length≤40∧Q .non H
theorem dP{c:TT}{t u aJ:TS}{D:Ends}{σ:St}{H:Hp}(T:St→Hp→Prop)(hr:∀σ' H',T σ' H'→aJ D σ' H')(h:∀R:St→Hp→Prop,(∀σ' H',T σ' H'→R σ' H')→c σ H fun b H1=>if b=true then t {D with nx:=R} σ H1 else u {D with nx:=R} σ H1):cJ (eG c t u) aJ D σ H:=h (aJ D) hr
theorem bY{te:TE}{i:Nat}{aJ:TS}{D:Ends}{σ:St}{H:Hp}(h:te σ H fun x H1=>aJ D (σ.set i (some x)) H1):cJ (eh te (cE i)) aJ D σ H:=h
section
variable{P:Program}{w:World}{K:PySem.W.Frag}{mg:Str→Option Value}{base:Heap}
theorem iP:FnScope ["text"] ["text"] (aw fr):=fsc_
theorem mx(M:Md K mg)(B:Bl mg){uM:Value}(gMOST_SIGNS:mg "MOST_SIGNS"=some uM)(rMOST_SIGNS:RelV (.int 40) uM)(F:FF K "check_few" fr)(Fcheck_signs:Fn P w K mg base ai "check_signs" 2 ["text"] dB)(Fcheck_some:Fn P w K mg base ai "check_some" 1 ["text"] ej):Fn P w K mg base ai "check_few" 3 ["text"] jB:=by
 refine aL M F iP (fun _ _ _ _ _ _=>bj fun _=>rfl) (fun vs H Q E h=>?_) (fun f cdv A outer s H vs Q E hr h=>?_)
 ·obtain⟨a,t,rfl,_⟩:=h;rfl
 ·obtain⟨a,t,rfl,ha,lt,t1,tl,k⟩:=h
  refine⟨_,(ae (aI (ag Fcheck_signs hr aj (aa (pv 0) ac)))
   (ae (aI (ag Fcheck_some hr aj (aa (pv 0) ac)))
   (ah (aF (aE dy (aB B.len (pv 0)) (du (v:=.int 40) (by rfl) gMOST_SIGNS rMOST_SIGNS) (aC _)) (ah fV) aM)))),?_⟩
  refine⟨_,rfl,a,t,rfl,ha,lt,_,rfl,a,t,rfl,ha,t1,?_⟩
  refine⟨_,rfl,a,_,rfl,SqL.of ha,_,_,rfl,rfl,_,rfl,?_⟩
  rw[decide_eq_false (fun q=>by rw[List.length_map] at q;lia)]
  exact aA k
end
def RB(t u:List Nat):Bool:=df t u (bg u true) (bu t u true)
def cB(t:List Nat)(m:Nat)(u:List Nat):Option (Nat×Nat):=if RB t u=true then some (m,((bc t u).head?).getD 0) else none
def bX(t:List Nat)(m:Nat):List (List Nat):=bo t m (t.length+1-m)
def cN(t:List Nat)(k:Nat):List (Nat×Nat):=(List.range k).flatMap fun i=>(bX t (i+1)).filterMap (cB t (i+1))
theorem lZ(t:List Nat)(k:Nat):cN t (k+1)=cN t k++(bX t (k+1)).filterMap (cB t (k+1)):=by
 unfold cN
 rw[List.range_succ,List.flatMap_append]
 simp
theorem jA{t:List Nat}{m k:Nat}(us:List (List Nat))(h:us.length≤k):(us.filterMap (cB t m)).length≤k:=Nat.le_trans (List.length_filterMap_le _ _) h
theorem i3(t:List Nat):∀k,(cN t k).length≤k*t.length
 | 0=>by simp[cN]
 | k+1=>by
   rw[lZ,List.length_append,Nat.succ_mul]
   have:=i3 t k
   have:=jA (t:=t) (m:=k+1) (k:=t.length) (bX t (k+1)) (by have:=fE (t:=t) (m:=k+1) (t.length+1-(k+1));unfold bX;lia)
   lia
theorem mQ{t:List Nat}{k:Nat}(hk:k≤40)(tl:t.length≤40):(cN t k).length≤1600:=by
 have h1:=i3 t k
 have h2:k*t.length≤40*40:=Nat.mul_le_mul hk tl
 lia
abbrev fx:Stmt:=aN 34
def lf:Sp:=fun vs H Q _=>∃(a:Addr) (t:List Nat),vs=[.ref a]∧H a=some (.lst (t.map sg))∧Low t∧1≤t.length∧t.length≤40∧∀(r:Addr) (H':Hp),H r=none→RunsAt H' r (cN t t.length)→Same H H'→Q (.ref r) H'
theorem ni{es:List (List Nat×Addr)}{i:Nat}{k:List ay}{x:V}(h:(bB es)[i]?=some (k,x)):∃e,es[i]?=some e∧x=V.ref e.2∧k=cG e.1:=by
 unfold bB at h
 rw[List.getElem?_map] at h
 cases q:es[i]? with
 | none=>rw[q] at h;cases h
 | some e=>
   rw[q] at h
   exact⟨e,rfl,(congrArg Prod.snd (Option.some.inj h)).symm,(congrArg Prod.fst (Option.some.inj h)).symm⟩
section
variable{P:Program}{w:World}{K:PySem.W.Frag}{mg:Str→Option Value}{base:Heap}
theorem scPWR:FnScope ["text","found","many","piece","places"] ["text"] (aw fx):=fsc_
theorem mT(M:Md K mg)(B:Bl mg)(F:FF K "pieces_with_rests" fx)(Fcheck_few:Fn P w K mg base ai "check_few" 3 ["text"] jB)(Fpiece_places:Fn P w K mg base ai "piece_places" 1 ["text","many"] ic)(Frest_both:Fn P w K mg base ai "rest_both" 5 ["text","word"] (bL true true)):Fn P w K mg base ai "pieces_with_rests" 6 ["text"] lf:=by
 refine aL M F scPWR (fun _ _ _ _ _ _=>bj fun _=>rfl) (fun vs H Q E h=>?_) (fun f cdv A outer s H vs Q E hr h=>?_)
 ·obtain⟨a,t,rfl,_⟩:=h;rfl
 ·obtain⟨a,t,rfl,ha,lt,t1,tl,k⟩:=h
  refine⟨_,(ae (aI (ag Fcheck_few hr aj (aa (pv 0) ac)))
   (ae (am (i:=1) scPWR.nd rfl (.inl rfl) (aY ac))
   (ae (bM PassesOwn.never rfl (dq (by rfl) B.range (aa ad (aa (ak aV (aB B.len (pv 0)) ad) ac))) (bz (i:=2) scPWR.nd rfl (.inl rfl))
   (ah (bM PassesOwn.never rfl (kA (ag Fpiece_places hr aj (aa (pv 0) (aa (pv 2) ac)))) (ir rfl (dQ (bz (i:=3) scPWR.nd rfl (.inl rfl)) (dQ (bz (i:=4) scPWR.nd rfl (.inl rfl)) ib)))
   (ah (aF (bt (ag Frest_both hr aj (aa (pv 0) (aa (lL B.list (pv 3)) ac)))) (ah (aI (eB PySem.F.plainAttrs_list PySem.F.slot_list_append PySem.F.type_list_append gF (pv 1) (aa (cV (aa (pv 2) (aa (aZ bh (pv 4) ad (fun _ _=>rfl)) ac))) ac)))) aM)))))
   (ah (ar (pv 1)))))),?_⟩
  refine⟨_,rfl,a,t,rfl,ha,lt,t1,tl,?_⟩
  refine⟨Nat.zero_le _,fun r hr0=>?_⟩
  have s0:=Same.upd (o:=.lst []) hr0
  refine⟨_,rfl,a,_,rfl,SqL.of (s0 _ _ ha),_,_,rfl,rfl,1,_,rfl,⟨by decide,by decide,by rw[List.length_map];lia,by rw[List.length_map];lia⟩,?_⟩
  rw[List.length_map,show((t.length:Int)+1-1).toNat=t.length by lia]
  refine iE (lo:=1) (n:=t.length) (fun j σ H2=>Same H H2∧RunsAt H2 r (cN t j)∧∃v2 v3 v4,σ=[some (.ref a),some (.ref r),v2,v3,v4]) ⟨s0,RunsAt.nil af,_,_,_,rfl⟩ ?_ ?_
  ·rintro j σ H2 hj ⟨sH,rn,v2,v3,v4,rfl⟩
   rw[show(1+(j:Int))=((j+1:Nat):Int) by lia]
   have ha2:=sH _ _ ha
   refine⟨_,rfl,_,rfl,a,t,j+1,rfl,ha2,by lia,by lia,by lia,fun w es H4 hw0 hw4 pc s4=>⟨w,bB es,rfl,hw4,fun o=>?_⟩⟩
   have rn4:=rn.same s4
   have wr:w≠r:=by
    obtain⟨cs,h1,_⟩:=rn
    intro z
    rw[z,h1] at hw0
    cases hw0
   have er:∀e∈es,e.2≠r:=fun e he z=>by
    obtain⟨cs,h1,_⟩:=rn
    have:=(pc.at_ e he).1
    rw[z,h1] at this
    cases this
   have eus:es.map (·.1)=bX t (j+1):=pc.us
   have bnd:=mQ (t:=t) (k:=j) (by lia) tl
   refine rL (a:=w) (o:=o) (kvs:=bB es) (fun i σ H5=>Same H H5∧H5 w=some (.frz o (.dT (bB es)))∧(∀e∈es,H5 e.2=some (.lst (aT (bV t (j+1) (t.length+1-(j+1)) e.1))))∧RunsAt H5 r (cN t j++((bX t (j+1)).take i).filterMap (cB t (j+1)))∧∃v3 v4,σ=[some (.ref a),some (.ref r),some (.int ((j+1:Nat):Int)),v3,v4]) ?_ (fun i σ H5 _ h5=>h5.2.1) ?_ ?_
   ·refine⟨fun b ob z=>by rw[ap (aW (sH _ _ z) hw0)];exact s4 _ _ (sH _ _ z),af,fun e he=>?_,?_,_,_,rfl⟩
    ·rw[ap (cK (pc.at_ e he).2 hw4 (fun z=>nomatch z))]
     exact(pc.at_ e he).2
    ·rw[List.take_zero,List.filterMap_nil,List.append_nil]
     exact rn4.imp (fun xs z=>by rw[ap (Ne.symm wr)];exact z) fun b xs z=>by rw[ap (cK z hw4 (fun z=>nomatch z))];exact z
   ·rintro i kk x ka p σ H5 hx hka hp ⟨sH5,hw5,hes,rn5,v3,v4,rfl⟩
    obtain⟨e,he,rfl,rfl⟩:=ni hx
    have hem:=List.mem_of_getElem? he
    have hu:(bX t (j+1))[i]?=some e.1:=by rw[←eus,List.getElem?_map,he];rfl
    have hum:=List.mem_of_getElem? hu
    have ul:e.1.length=j+1:=nk (Nat.le_refl _) hum (by lia)
    have epl:=p5 (t:=t) ul
    have he5:=hes e hem
    rw[epl] at he5
    rw[fF] at hka
    obtain⟨q,hq,hqe⟩:=mem_us.mp hum
    have hql:q∈bc t e.1:=by rw[←epl];unfold bV;rw[List.mem_filter];exact⟨by simpa using hq,by simpa using hqe⟩
    have lu:Low e.1:=by rw[←hqe];exact(lt.drop _).take _
    have sp:=Same.upd (o:=.tup [V.ref ka,.ref e.2]) hp
    have hp5:=af (H:=H5) (a:=p) (o:=.tup [V.ref ka,.ref e.2])
    generalize L2.upd H5 p (.tup [V.ref ka,.ref e.2])=H6 at sp hp5 ⊢
    refine⟨p,_,rfl,SqT.of hp5,rfl,_,_,rfl,_,_,rfl,rfl,?_⟩
    have ka6:=sp _ _ hka
    refine⟨_,rfl,_,rfl,ka,_,rfl,SqT.of ka6,fun l hl=>?_⟩
    have s7:=Same.upd (o:=.lst (e.1.map sg)) hl
    have s57:=sp.trans s7
    refine⟨a,l,t,e.1,rfl,s57 _ _ (sH5 _ _ ha),af,lt,lu,t1,by lia,by lia,by lia,fun H8 s8=>?_⟩
    have s58:=s57.trans s8
    have sH8:=sH5.trans s58
    have etk:(bX t (j+1)).take (i+1)=(bX t (j+1)).take i++[e.1]:=by rw[List.take_add_one,hu];rfl
    have rn8:=rn5.same s58
    refine⟨_,rfl,?_⟩
    refine br (fun hc=>?_) (fun hc=>?_)
    ·have hc':RB t e.1=true:=hc
     obtain⟨y,ys,ey⟩:=List.exists_cons_of_ne_nil (List.ne_nil_of_mem hql)
     have eg:cB t (j+1) e.1=some (j+1,y):=by unfold cB;rw[if_pos hc',ey];rfl
     obtain⟨cs,h1,h2,h3⟩:=rn8
     refine⟨_,rfl,.inl ⟨rfl,_,SqL.of h1⟩,_,rfl,_,rfl,e.2,_,_,_,rfl,rfl,SqL.of (s58 _ _ he5),bD (j:=0) (v:=V.int (y:Int)) (by rw[ey];rfl),by show 2≤sizeLine;decide,fun g hg=>?_⟩
     have s9:=Same.upd (o:=.tup [.int ((j+1:Nat):Int),.int (y:Int)]) hg
     have lb:cs.length≤1700:=by
      rw[h2,List.length_append]
      have:=jA (t:=t) (m:=j+1) (k:=t.length) ((bX t (j+1)).take i) (by have:=fE (t:=t) (m:=j+1) (t.length+1-(j+1));unfold bX;rw[List.length_take];lia)
      lia
     refine⟨r,_,_,rfl,rfl,s9 _ _ h1,by rw[List.length_map];exact eU (by lia),?_⟩
     have rn9:=RunsAt.app (s9 _ _ h1) h2 (fun i c q a b=>s9 _ _ (h3 i c q a b)) (af (H:=H8) (a:=g) (o:=.tup [.int ((j+1:Nat):Int),.int (y:Int)]))
     refine⟨fun b ob z=>?_,?_,fun e' h'=>?_,?_,_,_,rfl⟩
     ·rw[ap (aW z hr0)];exact s9 _ _ (sH8 _ _ z)
     ·rw[ap wr];exact s9 _ _ (s58 _ _ hw5)
     ·rw[ap (er e' h')];exact s9 _ _ (s58 _ _ (hes e' h'))
     ·rw[etk,List.filterMap_append,←List.append_assoc]
      have:[e.1].filterMap (cB t (j+1))=[(j+1,y)]:=by simp[eg]
      rw[this]
      exact rn9
    ·have hc':¬RB t e.1=true:=hc
     have eg:cB t (j+1) e.1=none:=by unfold cB;rw[if_neg hc']
     refine⟨sH8,s58 _ _ hw5,fun e' h'=>s58 _ _ (hes e' h'),?_,_,_,rfl⟩
     rw[etk,List.filterMap_append]
     have:[e.1].filterMap (cB t (j+1))=[]:=by simp[eg]
     rw[this,List.append_nil]
     exact rn8
   ·rintro σ H5 ⟨sH5,hw5,hes,rn5,v3,v4,rfl⟩
    have el:(bB es).length=(bX t (j+1)).length:=by unfold bB;rw[←eus,List.length_map,List.length_map]
    rw[el,List.take_length,←lZ] at rn5
    exact⟨sH5,rn5,_,_,_,rfl⟩
  ·rintro σ H2 ⟨sH,rn,v2,v3,v4,rfl⟩
   exact⟨_,rfl,k r H2 hr0 rn sH⟩
end
def eP(t:List Nat)(k:Nat):Bool:=df t (t.take k) (bg (t.take k) false) (bu t (t.take k) true)
def eI(t:List Nat)(k:Nat):Bool:=df t (t.drop (t.length-k)) (bg (t.drop (t.length-k)) true) (bu t (t.drop (t.length-k)) false)
def bP(n:Nat):List Nat:=(List.range n).map (·+1)
theorem pJ(n:Nat):(bP n).length=n:=by simp[bP]
theorem qz{c:TT}{t aJ:TS}{D:Ends}{σ:St}{H:Hp}(h:∀R:Bool→Hp→Prop,(∀H',Same H H'→R false H')→c σ H R)(q:∀H',Same H H'→aJ D σ H'):cJ (eG c t gs) aJ D σ H:=h (fun b H1=>if b=true then _ else _) fun H' s'=>aA (q H' s')
theorem gd{c:TT}{t:TS}{D:Ends}{σ:St}{H:Hp}(h:∀R:Bool→Hp→Prop,(∀H',Same H H'→R false H')→c σ H R)(q:∀H',Same H H'→D.nx σ H'):eG c t gs D σ H:=h (fun b H1=>if b=true then _ else _) fun H' s'=>aA (q H' s')
theorem oB{c d:TT}{σ:St}{H:Hp}{R:Bool→Hp→Prop}(h:∀Q:Bool→Hp→Prop,(∀H',Same H H'→Q false H')→c σ H Q)(g:∀H',Same H H'→d σ H' R):jP c d σ H R:=h (fun b H1=>if b=true then _ else _) fun H' s'=>aA (g H' s')
theorem qg{c d:TT}{σ:St}{H:Hp}{R:Bool→Hp→Prop}(h:∀Q:Bool→Hp→Prop,(∀H',Same H H'→Q false H')→c σ H Q)(g:∀H',Same H H'→R false H'):ko c d σ H R:=h (fun b H1=>if b=true then _ else _) fun H' s'=>aA (g H' s')
abbrev fi:Stmt:=aN 32
abbrev fq:Stmt:=aN 33
theorem mJ(i:Nat):bP (i+1)=bP i++[i+1]:=by simp[bP,List.range_succ]
theorem fG(f:Nat→Bool)(i:Nat):(bP (i+1)).filter f=(bP i).filter f++(if f (i+1)=true then [i+1] else []):=by
 rw[mJ,List.filter_append]
 congr 1
 by_cases h:f (i+1)=true <;> simp[h]
theorem iR(f:Nat→Bool)(i:Nat):((bP i).filter f).length≤i:=by
 have:=List.length_filter_le f (bP i)
 rw[pJ] at this
 exact this
def jV:Sp:=fun vs H Q _=>∃(a:Addr) (t:List Nat),vs=[.ref a]∧H a=some (.lst (t.map sg))∧Low t∧1≤t.length∧t.length≤300∧
 ∀(r:Addr) (H':Hp),H r=none→H' r=some (.lst (aT ((bP t.length).filter (eP t))))→Same H H'→Q (.ref r) H'
def jx:Sp:=fun vs H Q _=>∃(a:Addr) (t:List Nat),vs=[.ref a]∧H a=some (.lst (t.map sg))∧Low t∧1≤t.length∧t.length≤300∧
 ∀(r:Addr) (H':Hp),H r=none→H' r=some (.lst (aT ((bP t.length).filter (eI t))))→Same H H'→Q (.ref r) H'
section
variable{K:PySem.W.Frag}{P:Program}{w:World}{mg:Str→Option Value}{base:Heap}
theorem oq{σ:St}{H:Hp}{Q:Bool→Hp→Prop}{a:Addr}{t:List Nat}{j:Nat}{n:Int}(h0:σ[0]?=some (some (.ref a)))(hj:σ[j]?=some (some (.int n)))(ha:H a=some (.lst (t.map sg)))(lt:Low t)(n1:1≤n)(n2:n≤t.length)(tl:t.length≤300)(k:∀H',Same H H'→Q (eP t n.toNat) H'):tB (d9 (bL false true) [] E0 (cX (bK 0) (cX (eY (eL K) (bK 0) eC (et (bK j))) dI))) σ H Q:=by
 refine⟨_,h0,_,h0,_,hj,_,rfl,a,_,rfl,SqL.of ha,fun l hl=>?_⟩
 rw[bN (by lia)]
 have s1:=Same.upd (o:=.lst ((t.take n.toNat).map sg)) hl
 refine⟨a,l,t,t.take n.toNat,rfl,s1 _ _ ha,af,lt,lt.take _,by lia,by rw[List.length_take];lia,by lia,by rw[List.length_take];lia,fun H' s2=>⟨_,rfl,k H' (s1.trans s2)⟩⟩
theorem qr{σ:St}{H:Hp}{Q:Bool→Hp→Prop}{a:Addr}{t:List Nat}{j:Nat}{n:Int}(h0:σ[0]?=some (some (.ref a)))(hj:σ[j]?=some (some (.int n)))(ha:H a=some (.lst (t.map sg)))(lt:Low t)(n1:1≤n)(n2:n≤t.length)(tl:t.length≤300)(k:∀H',Same H H'→Q (eI t n.toNat) H'):tB (d9 (bL true false) [] E0 (cX (bK 0) (cX (eY (eL K) (bK 0) (et (dz (cH fun i j=>V.int (i-j)) (ku K (bK 0)) (bK j))) eC) dI))) σ H Q:=by
 refine⟨_,h0,_,h0,_,h0,a,_,rfl,SqL.of ha,_,hj,_,_,rfl,rfl,_,rfl,a,_,rfl,SqL.of ha,fun l hl=>?_⟩
 rw[List.length_map,cI (by lia),show((t.length:Int)-n).toNat=t.length-n.toNat by lia]
 have s1:=Same.upd (o:=.lst ((t.drop (t.length-n.toNat)).map sg)) hl
 refine⟨a,l,t,t.drop (t.length-n.toNat),rfl,s1 _ _ ha,af,lt,lt.drop _,by lia,by rw[List.length_drop];lia,by lia,by rw[List.length_drop];lia,fun H' s2=>⟨_,rfl,k H' (s1.trans s2)⟩⟩
theorem kK:FnScope ["text"] ["text"] (aw fi):=fsc_
theorem lS:FnScope ["text"] ["text"] (aw fq):=fsc_
theorem sd(M:Md K mg)(B:Bl mg)(F:FF K "beginnings_with_rest" fi)(Fcheck_signs:Fn P w K mg base ai "check_signs" 2 ["text"] dB)(Fcheck_some:Fn P w K mg base ai "check_some" 1 ["text"] ej)(Frest_behind:Fn P w K mg base ai "rest_behind" 5 ["text","word"] (bL false true)):Fn P w K mg base ai "beginnings_with_rest" 6 ["text"] jV:=by
 refine aL M F kK (fun _ _ _ _ _ _=>bj fun _=>rfl) (fun vs H Q E h=>?_) (fun f cdv A outer s H vs Q E hr h=>?_)
 ·obtain⟨a,t,rfl,_⟩:=h;rfl
 ·obtain⟨a,t,rfl,ha,lt,t1,tl,k⟩:=h
  refine⟨_,(ae (aI (ag Fcheck_signs hr aj (aa (pv 0) ac)))
   (ae (aI (ag Fcheck_some hr aj (aa (pv 0) ac)))
   (ah (ar (bR ["text"] rfl (dq (by rfl) B.range (aa ad (aa (ak aV (aB B.len (pv 0)) ad) ac))) (fun _=>by exact(bW (bt (ag Frest_behind hr aj (aa (pv 0) (aa (aS aU (pv 0) bb (aP (pv 1))) ac)))))) (fun _=>by exact(pv 1))))))),?_⟩
  refine⟨_,rfl,a,t,rfl,ha,lt,_,rfl,a,t,rfl,ha,t1,?_⟩
  refine⟨_,rfl,a,_,rfl,SqL.of ha,_,_,rfl,rfl,1,_,rfl,⟨by decide,by decide,by rw[List.length_map];lia,by rw[List.length_map];lia⟩,fun D hD cb=>?_⟩
  rw[List.length_map,show((t.length:Int)+1-1).toNat=t.length by lia]
  refine di (lo:=1) (n:=t.length) (fun i ys H2=>ys=aT ((bP i).filter (eP t))∧Same H H2∧H2 D=some (.lst ys)) (ce (by lia)) ?_ ?_ ?_ ?_
  ·exact⟨rfl,Same.upd hD,af⟩
  ·rintro i ys H2 ⟨rfl,_⟩
   rw[cL];exact iR _ _
  ·rintro i ys H2 hi ⟨rfl,s2,hD2⟩
   refine oq (K:=K) (j:=1) (n:=1+(i:Int)) rfl rfl (s2 _ _ ha) lt (by lia) (by lia) tl fun H3 s3=>?_
   rw[show(1+(i:Int)).toNat=i+1 by lia]
   have hD3:=s3 _ _ hD2
   have s23:=s2.trans s3
   by_cases hb:eP t (i+1)=true
   ·rw[hb]
    refine aQ ⟨_,rfl,hD3,?_,fun b o e=>?_,af⟩
    ·rw[fG,if_pos hb,gv,show 1+(i:Int)=((i+1:Nat):Int) by lia]
    ·rw[ap (aW e hD)];exact s23 _ _ e
   ·rw[show eP t (i+1)=false by simpa using hb]
    refine aA ⟨?_,s23,hD3⟩
    rw[fG,if_neg hb,List.append_nil]
  ·rintro ys H2 ⟨rfl,s2,hD2⟩
   exact k D H2 hD hD2 s2
theorem qM(M:Md K mg)(B:Bl mg)(F:FF K "ends_with_rest" fq)(Fcheck_signs:Fn P w K mg base ai "check_signs" 2 ["text"] dB)(Fcheck_some:Fn P w K mg base ai "check_some" 1 ["text"] ej)(Frest_ahead:Fn P w K mg base ai "rest_ahead" 5 ["text","word"] (bL true false)):Fn P w K mg base ai "ends_with_rest" 6 ["text"] jx:=by
 refine aL M F lS (fun _ _ _ _ _ _=>bj fun _=>rfl) (fun vs H Q E h=>?_) (fun f cdv A outer s H vs Q E hr h=>?_)
 ·obtain⟨a,t,rfl,_⟩:=h;rfl
 ·obtain⟨a,t,rfl,ha,lt,t1,tl,k⟩:=h
  refine⟨_,(ae (aI (ag Fcheck_signs hr aj (aa (pv 0) ac)))
   (ae (aI (ag Fcheck_some hr aj (aa (pv 0) ac)))
   (ah (ar (bR ["text"] rfl (dq (by rfl) B.range (aa ad (aa (ak aV (aB B.len (pv 0)) ad) ac))) (fun _=>by exact(bW (bt (ag Frest_ahead hr aj (aa (pv 0) (aa (aS aU (pv 0) (aP (ak bp (aB B.len (pv 0)) (pv 1))) bb) ac)))))) (fun _=>by exact(pv 1))))))),?_⟩
  refine⟨_,rfl,a,t,rfl,ha,lt,_,rfl,a,t,rfl,ha,t1,?_⟩
  refine⟨_,rfl,a,_,rfl,SqL.of ha,_,_,rfl,rfl,1,_,rfl,⟨by decide,by decide,by rw[List.length_map];lia,by rw[List.length_map];lia⟩,fun D hD cb=>?_⟩
  rw[List.length_map,show((t.length:Int)+1-1).toNat=t.length by lia]
  refine di (lo:=1) (n:=t.length) (fun i ys H2=>ys=aT ((bP i).filter (eI t))∧Same H H2∧H2 D=some (.lst ys)) (ce (by lia)) ?_ ?_ ?_ ?_
  ·exact⟨rfl,Same.upd hD,af⟩
  ·rintro i ys H2 ⟨rfl,_⟩
   rw[cL];exact iR _ _
  ·rintro i ys H2 hi ⟨rfl,s2,hD2⟩
   refine qr (K:=K) (j:=1) (n:=1+(i:Int)) rfl rfl (s2 _ _ ha) lt (by lia) (by lia) tl fun H3 s3=>?_
   rw[show(1+(i:Int)).toNat=i+1 by lia]
   have hD3:=s3 _ _ hD2
   have s23:=s2.trans s3
   by_cases hb:eI t (i+1)=true
   ·rw[hb]
    refine aQ ⟨_,rfl,hD3,?_,fun b o e=>?_,af⟩
    ·rw[fG,if_pos hb,gv,show 1+(i:Int)=((i+1:Nat):Int) by lia]
    ·rw[ap (aW e hD)];exact s23 _ _ e
   ·rw[show eI t (i+1)=false by simpa using hb]
    refine aA ⟨?_,s23,hD3⟩
    rw[fG,if_neg hb,List.append_nil]
  ·rintro ys H2 ⟨rfl,s2,hD2⟩
   exact k D H2 hD hD2 s2
end
def aD(z:Str):Bool:=decide (z.length=1) && ((!decide (z.cps.toList<(Str.ofString "a").cps.toList)) && (!decide ((Str.ofString "z").cps.toList<z.cps.toList)))
theorem nO{c:Nat}(h1:97≤c)(h2:c≤122):aD (aG c)=true:=by
 unfold aD
 rw[kY h1,lc h2];rfl
theorem lm{z:Str}(h:aD z=true):∃c,97≤c∧c≤122∧z=aG c:=by
 unfold aD at h
 simp only[Bool.and_eq_true,decide_eq_true_eq] at h
 obtain⟨h1,h2,h3⟩:=h
 obtain⟨⟨l⟩⟩:=z
 have h1':l.length=1:=h1
 match l,h1' with
 | [c],_=>
   have ea:(Str.ofString "a").cps.toList=[97]:=by decide+kernel
   have ez:(Str.ofString "z").cps.toList=[122]:=by decide+kernel
   rw[ea] at h2
   rw[ez] at h3
   have h2':¬([c] < [97]):=by simpa using h2
   have h3':¬([122] < [c]):=by simpa using h3
   refine⟨c,?_,?_,rfl⟩
   ·rcases Nat.lt_or_ge c 97 with q | q
    ·exact absurd (List.Lex.rel q) h2'
    ·exact q
   ·rcases Nat.lt_or_ge 122 c with q | q
    ·exact absurd (List.Lex.rel q) h3'
    ·exact q
def Txt(zs:List Str):Prop:=∀z∈zs,z.length≤1000∧PyData.strOk z=true
theorem dS:∀{zs:List Str},zs.all aD=true→∃t:List Nat,Low t∧zs=t.map aG
 | [],_=>⟨[],Low.nil,rfl⟩
 | z::zs,h=>by
   rw[List.all_cons,Bool.and_eq_true] at h
   obtain⟨c,c1,c2,rfl⟩:=lm h.1
   obtain⟨t,lt,rfl⟩:=dS h.2
   refine⟨c::t,fun d hd=>?_,rfl⟩
   rcases List.mem_cons.mp hd with q | q
   ·rw[q];exact⟨c1,c2⟩
   ·exact lt d q
theorem cr(t:List Nat):(t.map aG).map V.str=t.map sg:=by rw[List.map_map];rfl
theorem cP{t:List Nat}(h:Low t):Txt (t.map aG):=fun z hz=>by
 obtain⟨c,hc,rfl⟩:=List.mem_map.mp hz
 have:=h c hc
 refine⟨by show 1≤1000;decide,?_⟩
 simp[PyData.strOk];lia
def l7:Sp:=fun vs H Q _=>∃z:Str,vs=[.str z]∧z.length≤1000∧Q (.bl (aD z)) H
def dW(cS:Addr):Sp:=fun vs H Q E=>∃(a:Addr) (zs:List Str),vs=[.ref a]∧H a=some (.lst (zs.map V.str))∧Txt zs∧(zs.all aD=true→Q .non H)∧(zs.all aD=false→E (.ref cS) none H)
def lG(cW cS:Addr):Sp:=fun vs H Q E=>∃(a:Addr) (zs:List Str),vs=[.ref a]∧H a=some (.lst (zs.map V.str))∧Txt zs∧(zs=[]→E (.ref cW) none H)∧(zs≠ []→zs.all aD=true→Q .non H)∧(zs≠ []→zs.all aD=false→E (.ref cS) none H)
section
variable{P:Program}{w:World}{K:PySem.W.Frag}{mg:Str→Option Value}{base:Heap}{cNoWord cNoSign:Addr}
theorem mw(M:Md K mg)(B:Bl mg)(F:FF K "is_sign" fL):Fn P w K mg base ai "is_sign" 1 ["sign"] l7:=by
 refine aL M F iU (fun _ _ _ _ _ _=>bj fun _=>rfl) (fun vs H Q E h=>?_) (fun f cdv A outer s H vs Q E hr h=>?_)
 ·obtain⟨c,rfl,_⟩:=h;rfl
 ·obtain⟨z,rfl,zl,k⟩:=h
  refine⟨_,(ah (ar (dU (mi B.isinst B.str lP (pv 0)) (dU (cZ bd (fD B.len (pv 0)) ad (aC _)) (dX (lO ft ft aO (pv 0) aO)))))),?_⟩
  refine⟨_,rfl,_,true,TyOf.str _,rfl,_,rfl,aQ ?_⟩
  refine⟨_,rfl,_,rfl,sz zl,rfl,_,rfl,?_⟩
  by_cases h1:z.length=1
  ·rw[decide_eq_true (show V.int (z.length:Int)=V.int 1 by rw[h1];rfl)]
   refine aQ ?_
   refine⟨_,rfl,_,_,rfl,rfl,_,rfl,?_⟩
   have e:aD z=((!decide (z.cps.toList<(Str.ofString "a").cps.toList)) && (!decide ((Str.ofString "z").cps.toList<z.cps.toList))):=by
    unfold aD;rw[decide_eq_true h1,Bool.true_and]
   rw[e] at k
   by_cases h2:(!decide (z.cps.toList<(Str.ofString "a").cps.toList))=true
   ·rw[h2] at k ⊢
    exact aQ ⟨_,_,rfl,rfl,by rw[Bool.true_and] at k;exact k⟩
   ·have h2':(!decide (z.cps.toList<(Str.ofString "a").cps.toList))=false:=by simpa using h2
    rw[h2'] at k ⊢
    exact aA (by rw[Bool.false_and] at k;exact k)
  ·rw[decide_eq_false (fun q=>h1 (by have:=V.int.inj q;lia))]
   refine aA ?_
   have e:aD z=false:=by unfold aD;rw[decide_eq_false h1,Bool.false_and]
   rw[e] at k
   exact k
theorem m6(M:Md K mg)(B:Bl mg)(F:FF K "check_signs" fw)(ONoSign:Exc K mg "NoSign" cNoSign)(Fis_sign:Fn P w K mg base ai "is_sign" 1 ["sign"] l7):Fn P w K mg base (aq P w) "check_signs" 2 ["text"] (dW cNoSign):=by
 refine bO M F scCheck (fun _ _ _ _ _ _=>bj fun _=>rfl) (fun vs H Q E h=>?_) (fun f cdv A outer s H vs Q E hr h=>?_)
 ·obtain⟨a,t,rfl,_⟩:=h;rfl
 ·obtain⟨a,zs,rfl,ha,tz,kq,ke⟩:=h
  refine⟨_,(ah (bM PassesOwn.leaving rfl (cj (pv 0)) (bz (i:=1) scCheck.nd rfl (.inl rfl))
   (ah (aF (cx (bt (ag Fis_sign hr aj (aa (pv 1) ac)))) (ah (dL ONoSign aO)) aM)))),?_⟩
  refine⟨_,rfl,a,rfl,⟨_,SqL.of ha⟩,gc (K:=K) (a:=a) (xs:=zs.map V.str) (fun i σ H2=>H2=H∧(zs.take i).all aD=true∧∃v,σ=[some (.ref a),v]) ⟨rfl,by simp,none,rfl⟩ (fun i σ H2 _ h2=>by rw[h2.1];exact SqL.of ha) ?_ ?_⟩
  ·rintro i x σ H2 hx ⟨rfl,hz,v,rfl⟩
   rw[List.getElem?_map] at hx
   cases e:zs[i]? with
   | none=>rw[e] at hx;cases hx
   | some z=>
     rw[e] at hx
     have:V.str z=x:=Option.some.inj hx
     subst this
     have hm:=List.mem_of_getElem? e
     refine⟨_,rfl,z,rfl,(tz z hm).1,aD z,rfl,?_⟩
     cases hl:aD z with
     | true=>
       refine aA ⟨rfl,?_,_,rfl⟩
       rw[List.take_add_one,e,List.all_append,hz]
       simp[hl]
     | false=>
       refine aQ ?_
       refine⟨rfl,ke ?_⟩
       rw[List.all_eq_false]
       exact⟨z,hm,by simp[hl]⟩
  ·rintro σ H2 ⟨rfl,hz,_⟩
   rw[List.length_map,List.take_length] at hz
   exact kq hz
theorem n6(M:Md K mg)(B:Bl mg)(F:FF K "check_word" gk)(ONoWord:Exc K mg "NoWord" cNoWord)(Fcheck_signs:Fn P w K mg base (aq P w) "check_signs" 2 ["text"] (dW cNoSign)):Fn P w K mg base (aq P w) "check_word" 3 ["word"] (lG cNoWord cNoSign):=by
 refine bO M F jj (fun _ _ _ _ _ _=>bj fun _=>rfl) (fun vs H Q E h=>?_) (fun f cdv A outer s H vs Q E hr h=>?_)
 ·obtain⟨a,t,rfl,_⟩:=h;rfl
 ·obtain⟨a,zs,rfl,ha,tz,k0,kq,ke⟩:=h
  refine⟨_,(ae (aF (aE bd (aB B.len (pv 0)) ad (aC _)) (ah (dL ONoWord aO)) aM)
   (ah (aI (ag Fcheck_signs hr bv (aa (pv 0) ac))))),?_⟩
  refine⟨_,rfl,a,_,rfl,SqL.of ha,rfl,_,rfl,?_⟩
  by_cases hz:zs=[]
  ·subst hz
   exact aQ ⟨rfl,k0 rfl⟩
  ·have:¬V.int (((zs.map V.str).length:Nat):Int)=V.int 0:=fun q=>by
    have:=V.int.inj q
    rw[List.length_map] at this
    exact hz (List.length_eq_zero_iff.mp (by lia))
   rw[decide_eq_false this]
   exact aA ⟨_,rfl,a,zs,rfl,ha,tz,kq hz,ke hz⟩
end
def bT(cS cT:Addr)(ts:List Str):Option Addr:=if ts.all aD=false then some cS else if ts=[] then some cT else none
def bn(cW cS cT:Addr)(zs ts:List Str):Option Addr:=if zs=[] then some cW else if zs.all aD=false then some cS else if ts.all aD=false then some cS else if ts=[] then some cT else none
def cm(cS cT cM:Addr)(ts:List Str):Option Addr:=if ts.all aD=false then some cS else if ts=[] then some cT else if 40<ts.length then some cM else none
def eE(cT:Addr):Sp:=fun vs H _ E=>∃a:Addr,vs=[.ref a]∧H a=some (.lst [])∧∀H',Same H H'→E (.ref cT) none H'
def de(f:List Str→Option Addr):Sp:=fun vs H _ E=>∃(a:Addr) (ts:List Str) (c:Addr),vs=[.ref a]∧H a=some (.lst (ts.map V.str))∧Txt ts∧f ts=some c∧∀H',Same H H'→E (.ref c) none H'
def bJ(f:List Str→List Str→Option Addr):Sp:=fun vs H _ E=>∃(a b:Addr) (ts zs:List Str) (c:Addr),vs=[.ref a,.ref b]∧H a=some (.lst (ts.map V.str))∧H b=some (.lst (zs.map V.str))∧Txt ts∧Txt zs∧f zs ts=some c∧∀H',Same H H'→E (.ref c) none H'
section
variable{P:Program}{w:World}{K:PySem.W.Frag}{mg:Str→Option Value}{base:Heap}{cNoWord cNoSign cNoText cNoCover cTooMany:Addr}
theorem oU(M:Md K mg)(B:Bl mg)(F:FF K "check_some" fJ)(ONoText:Exc K mg "NoText" cNoText):Fn P w K mg base (aq P w) "check_some" 1 ["text"] (eE cNoText):=by
 refine bO M F mn (fun _ _ _ _ _ _=>bj fun _=>rfl) (fun vs H Q E h=>?_) (fun f cdv A outer s H vs Q E hr h=>?_)
 ·obtain⟨a,rfl,_⟩:=h;rfl
 ·obtain⟨a,rfl,ha,k⟩:=h
  refine⟨_,(ah (aF (aE bd (aB B.len (pv 0)) ad (aC _)) (ah (dL ONoText aO)) aM)),?_⟩
  exact⟨_,rfl,a,_,rfl,SqL.of ha,rfl,_,rfl,aQ ⟨rfl,k _ (Same.refl _)⟩⟩
theorem rH(M:Md K mg)(B:Bl mg)(F:FF K "check_both" fh)(Fcheck_signs:Fn P w K mg base (aq P w) "check_signs" 2 ["text"] (dW cNoSign))(Fcheck_word:Fn P w K mg base (aq P w) "check_word" 3 ["word"] (lG cNoWord cNoSign))(Fcheck_some:Fn P w K mg base (aq P w) "check_some" 1 ["text"] (eE cNoText)):Fn P w K mg base (aq P w) "check_both" 4 ["text","word"] (bJ (bn cNoWord cNoSign cNoText)):=by
 refine bO M F lw (fun _ _ _ _ _ _=>bx fun _ _=>rfl) (fun vs H Q E h=>?_) (fun f cdv A outer s H vs Q E hr h=>?_)
 ·obtain⟨a,b,ts,zs,c,rfl,_⟩:=h;rfl
 ·obtain⟨a,b,ts,zs,c,rfl,ha,hb,tt,tz,hc,k⟩:=h
  refine⟨_,(ae (aI (ag Fcheck_word hr bv (aa (pv 1) ac)))
   (ae (aI (ag Fcheck_signs hr bv (aa (pv 0) ac)))
   (ah (aI (ag Fcheck_some hr bv (aa (pv 0) ac)))))),?_⟩
  unfold bn at hc
  refine⟨_,rfl,b,zs,rfl,hb,tz,fun e=>?_,fun ne al=>?_,fun ne al=>?_⟩
  ·rw[if_pos e] at hc;rw[Option.some.inj hc];exact k _ (Same.refl _)
  ·rw[if_neg ne,if_neg (by rw[al];decide)] at hc
   refine⟨_,rfl,a,ts,rfl,ha,tt,fun al2=>?_,fun al2=>?_⟩
   ·rw[if_neg (by rw[al2];decide)] at hc
    split at hc
    ·rename_i te
     subst te
     exact⟨_,rfl,a,rfl,ha,fun H' s'=>by rw[Option.some.inj hc];exact k _ s'⟩
    ·cases hc
   ·rw[if_pos al2] at hc;rw[Option.some.inj hc];exact k _ (Same.refl _)
  ·rw[if_neg ne,if_pos al] at hc;rw[Option.some.inj hc];exact k _ (Same.refl _)
theorem qS(M:Md K mg)(B:Bl mg)(F:FF K "rest_behind" gj)(Fcheck_both:Fn P w K mg base (aq P w) "check_both" 4 ["text","word"] (bJ (bn cNoWord cNoSign cNoText)))(Fleaves_none_bare:Fn P w K mg base ai "leaves_none_bare" 2 ["text","word","places"] dn)(Fagreeing_places:Fn P w K mg base ai "agreeing_places" 2 ["text","word","first","last"] d4):Fn P w K mg base (aq P w) "rest_behind" 5 ["text","word"] (bJ (bn cNoWord cNoSign cNoText)):=by
 refine bO M F me (fun _ _ _ _ _ _=>bx fun _ _=>rfl) (fun vs H Q E h=>?_) (fun f cdv A outer s H vs Q E hr h=>?_)
 ·obtain⟨a,b,ts,zs,c,rfl,_⟩:=h;rfl
 ·refine⟨_,(ae (aI (ag Fcheck_both hr bv (aa (pv 0) (aa (pv 1) ac))))
   (ah (ar (ag Fleaves_none_bare hr aj (aa (pv 0) (aa (pv 1) (aa (ag Fagreeing_places hr aj (aa (pv 0) (aa (pv 1) (aa ad (aa (ak bp (aB B.len (pv 0)) ad) ac))))) ac))))))),?_⟩
  obtain⟨a,b,ts,zs,c,rfl,h⟩:=h
  exact⟨_,rfl,_,rfl,a,b,ts,zs,c,rfl,h⟩
theorem mL(M:Md K mg)(B:Bl mg)(F:FF K "rest_ahead" fu)(Fcheck_both:Fn P w K mg base (aq P w) "check_both" 4 ["text","word"] (bJ (bn cNoWord cNoSign cNoText)))(Fleaves_none_bare:Fn P w K mg base ai "leaves_none_bare" 2 ["text","word","places"] dn)(Fagreeing_places:Fn P w K mg base ai "agreeing_places" 2 ["text","word","first","last"] d4):Fn P w K mg base (aq P w) "rest_ahead" 5 ["text","word"] (bJ (bn cNoWord cNoSign cNoText)):=by
 refine bO M F i4 (fun _ _ _ _ _ _=>bx fun _ _=>rfl) (fun vs H Q E h=>?_) (fun f cdv A outer s H vs Q E hr h=>?_)
 ·obtain⟨a,b,ts,zs,c,rfl,_⟩:=h;rfl
 ·refine⟨_,(ae (aI (ag Fcheck_both hr bv (aa (pv 0) (aa (pv 1) ac))))
   (ah (ar (ag Fleaves_none_bare hr aj (aa (pv 0) (aa (pv 1) (aa (ag Fagreeing_places hr aj (aa (pv 0) (aa (pv 1) (aa (ak bp ad (aB B.len (pv 1))) (aa (ak bp (aB B.len (pv 0)) (aB B.len (pv 1))) ac))))) ac))))))),?_⟩
  obtain⟨a,b,ts,zs,c,rfl,h⟩:=h
  exact⟨_,rfl,_,rfl,a,b,ts,zs,c,rfl,h⟩
theorem oT(M:Md K mg)(B:Bl mg)(F:FF K "rest_both" fY)(Fcheck_both:Fn P w K mg base (aq P w) "check_both" 4 ["text","word"] (bJ (bn cNoWord cNoSign cNoText)))(Fleaves_none_bare:Fn P w K mg base ai "leaves_none_bare" 2 ["text","word","places"] dn)(Fplaces_with_rests:Fn P w K mg base ai "places_with_rests" 3 ["text","word"] eF):Fn P w K mg base (aq P w) "rest_both" 5 ["text","word"] (bJ (bn cNoWord cNoSign cNoText)):=by
 refine bO M F kI (fun _ _ _ _ _ _=>bx fun _ _=>rfl) (fun vs H Q E h=>?_) (fun f cdv A outer s H vs Q E hr h=>?_)
 ·obtain⟨a,b,ts,zs,c,rfl,_⟩:=h;rfl
 ·refine⟨_,(ae (aI (ag Fcheck_both hr bv (aa (pv 0) (aa (pv 1) ac))))
   (ah (ar (ag Fleaves_none_bare hr aj (aa (pv 0) (aa (pv 1) (aa (ag Fplaces_with_rests hr aj (aa (pv 0) (aa (pv 1) ac))) ac))))))),?_⟩
  obtain⟨a,b,ts,zs,c,rfl,h⟩:=h
  exact⟨_,rfl,_,rfl,a,b,ts,zs,c,rfl,h⟩
theorem oV(M:Md K mg)(B:Bl mg)(F:FF K "shown_with_rests" fk)(ONoCover:Exc K mg "NoCover" cNoCover)(Frest_both:Fn P w K mg base (aq P w) "rest_both" 5 ["text","word"] (bJ (bn cNoWord cNoSign cNoText)))(Flies_at:Fn P w K mg base (aq P w) "lies_at" 4 ["text","word"] ik)(Fplaces_with_rests:Fn P w K mg base ai "places_with_rests" 3 ["text","word"] eF):Fn P w K mg base (aq P w) "shown_with_rests" 6 ["text","word"] (bJ (bn cNoWord cNoSign cNoText)):=by
 refine bO M F scShown (fun _ _ _ _ _ _=>bx fun _ _=>rfl) (fun vs H Q E h=>?_) (fun f cdv A outer s H vs Q E hr h=>?_)
 ·obtain⟨a,b,ts,zs,c,rfl,_⟩:=h;rfl
 ·refine⟨_,(ae (aF (cx (bt (ag Frest_both hr bv (aa (pv 0) (aa (pv 1) ac))))) (ah (dL ONoCover aO)) aM)
   (ae (aF (aE dy (aB B.len (ag Flies_at hr bv (aa (pv 1) (aa (pv 0) ac)))) ad (aC _)) (ah (ar (eH B.list (pv 1)))) aM)
   (ae (am (i:=2) scShown.nd rfl (.inl rfl) (ag Fplaces_with_rests hr aj (aa (pv 0) (aa (pv 1) ac))))
   (ae (am (i:=3) scShown.nd rfl (.inl rfl) (jn rfl B.max (bR ["text","word","places","ahead","behind"] rfl (cj (pv 2)) (fun _=>by exact(bW (aE j9 (pv 5) ad (aC _)))) (fun _=>by exact(pv 5)))))
   (ae (am (i:=4) scShown.nd rfl (.inl rfl) (kX rfl B.min (bR ["text","word","places","ahead","behind"] rfl (cj (pv 2)) (fun _=>by exact(bW (aE gG (ak aV (pv 5) (aB B.len (pv 1))) (aB B.len (pv 0)) (aC _)))) (fun _=>by exact(pv 5)))))
   (ah (ar (ak bw (ak bw (aS aU (pv 1) bb (aP (kN md (pv 3)))) (pv 0)) (aS aU (pv 1) (aP (ak bp (aB B.len (pv 0)) (pv 4))) bb))))))))),?_⟩
  obtain⟨a,b,ts,zs,c,rfl,h⟩:=h
  exact⟨_,rfl,_,rfl,a,b,ts,zs,c,rfl,h⟩
theorem oX(M:Md K mg)(B:Bl mg)(F:FF K "beginnings_with_rest" fi)(Fcheck_signs:Fn P w K mg base (aq P w) "check_signs" 2 ["text"] (dW cNoSign))(Fcheck_some:Fn P w K mg base (aq P w) "check_some" 1 ["text"] (eE cNoText))(Frest_behind:Fn P w K mg base ai "rest_behind" 5 ["text","word"] (bL false true)):Fn P w K mg base (aq P w) "beginnings_with_rest" 6 ["text"] (de (bT cNoSign cNoText)):=by
 refine bO M F kK (fun _ _ _ _ _ _=>bj fun _=>rfl) (fun vs H Q E h=>?_) (fun f cdv A outer s H vs Q E hr h=>?_)
 ·obtain⟨a,ts,c,rfl,_⟩:=h;rfl
 ·obtain⟨a,ts,c,rfl,ha,tt,hc,k⟩:=h
  refine⟨_,(ae (aI (ag Fcheck_signs hr bv (aa (pv 0) ac)))
   (ae (aI (ag Fcheck_some hr bv (aa (pv 0) ac)))
   (ah (ar (bR ["text"] rfl (dq (by rfl) B.range (aa ad (aa (ak aV (aB B.len (pv 0)) ad) ac))) (fun _=>by exact(bW (bt (ag Frest_behind hr aj (aa (pv 0) (aa (aS aU (pv 0) bb (aP (pv 1))) ac)))))) (fun _=>by exact(pv 1))))))),?_⟩
  unfold bT at hc
  refine⟨_,rfl,a,ts,rfl,ha,tt,fun al=>?_,fun al=>?_⟩
  ·rw[if_neg (by rw[al];decide)] at hc
   split at hc
   ·rename_i te
    subst te
    exact⟨_,rfl,a,rfl,ha,fun H' s'=>by rw[Option.some.inj hc];exact k _ s'⟩
   ·cases hc
  ·rw[if_pos al] at hc;rw[Option.some.inj hc];exact k _ (Same.refl _)
theorem oh(M:Md K mg)(B:Bl mg)(F:FF K "ends_with_rest" fq)(Fcheck_signs:Fn P w K mg base (aq P w) "check_signs" 2 ["text"] (dW cNoSign))(Fcheck_some:Fn P w K mg base (aq P w) "check_some" 1 ["text"] (eE cNoText))(Frest_ahead:Fn P w K mg base ai "rest_ahead" 5 ["text","word"] (bL true false)):Fn P w K mg base (aq P w) "ends_with_rest" 6 ["text"] (de (bT cNoSign cNoText)):=by
 refine bO M F lS (fun _ _ _ _ _ _=>bj fun _=>rfl) (fun vs H Q E h=>?_) (fun f cdv A outer s H vs Q E hr h=>?_)
 ·obtain⟨a,ts,c,rfl,_⟩:=h;rfl
 ·obtain⟨a,ts,c,rfl,ha,tt,hc,k⟩:=h
  refine⟨_,(ae (aI (ag Fcheck_signs hr bv (aa (pv 0) ac)))
   (ae (aI (ag Fcheck_some hr bv (aa (pv 0) ac)))
   (ah (ar (bR ["text"] rfl (dq (by rfl) B.range (aa ad (aa (ak aV (aB B.len (pv 0)) ad) ac))) (fun _=>by exact(bW (bt (ag Frest_ahead hr aj (aa (pv 0) (aa (aS aU (pv 0) (aP (ak bp (aB B.len (pv 0)) (pv 1))) bb) ac)))))) (fun _=>by exact(pv 1))))))),?_⟩
  unfold bT at hc
  refine⟨_,rfl,a,ts,rfl,ha,tt,fun al=>?_,fun al=>?_⟩
  ·rw[if_neg (by rw[al];decide)] at hc
   split at hc
   ·rename_i te
    subst te
    exact⟨_,rfl,a,rfl,ha,fun H' s'=>by rw[Option.some.inj hc];exact k _ s'⟩
   ·cases hc
  ·rw[if_pos al] at hc;rw[Option.some.inj hc];exact k _ (Same.refl _)
theorem ow(M:Md K mg)(B:Bl mg){uM:Value}(gMOST_SIGNS:mg "MOST_SIGNS"=some uM)(rMOST_SIGNS:RelV (.int 40) uM)(F:FF K "check_few" fr)(OTooMany:Exc K mg "TooMany" cTooMany)(Fcheck_signs:Fn P w K mg base (aq P w) "check_signs" 2 ["text"] (dW cNoSign))(Fcheck_some:Fn P w K mg base (aq P w) "check_some" 1 ["text"] (fun vs H Q E=>ej vs H Q E∨eE cNoText vs H Q E)):Fn P w K mg base (aq P w) "check_few" 3 ["text"] (de (cm cNoSign cNoText cTooMany)):=by
 refine bO M F iP (fun _ _ _ _ _ _=>bj fun _=>rfl) (fun vs H Q E h=>?_) (fun f cdv A outer s H vs Q E hr h=>?_)
 ·obtain⟨a,ts,c,rfl,_⟩:=h;rfl
 ·obtain⟨a,ts,c,rfl,ha,tt,hc,k⟩:=h
  refine⟨_,(ae (aI (ag Fcheck_signs hr bv (aa (pv 0) ac)))
   (ae (aI (ag Fcheck_some hr bv (aa (pv 0) ac)))
   (ah (aF (aE dy (aB B.len (pv 0)) (du (v:=.int 40) (by rfl) gMOST_SIGNS rMOST_SIGNS) (aC _)) (ah (dL OTooMany (nN (iH (j6 (by decide+kernel)) (iH (oR (du (v:=.int 40) (by rfl) gMOST_SIGNS rMOST_SIGNS)) (iH (j6 (by decide+kernel)) mv))) (by decide)))) aM)))),?_⟩
  unfold cm at hc
  refine⟨_,rfl,a,ts,rfl,ha,tt,fun al=>?_,fun al=>?_⟩
  ·rw[if_neg (by rw[al];decide)] at hc
   split at hc
   ·rename_i te
    subst te
    exact⟨_,rfl,.inr ⟨a,rfl,ha,fun H' s'=>by rw[Option.some.inj hc];exact k _ s'⟩⟩
   ·rename_i te
    split at hc
    ·rename_i tl
     obtain⟨t,lt,rfl⟩:=dS al
     rw[List.length_map] at tl
     rw[cr] at ha
     refine⟨_,rfl,.inl ⟨a,t,rfl,ha,by lia,?_⟩⟩
     refine⟨_,rfl,a,_,rfl,SqL.of ha,_,_,rfl,rfl,_,rfl,?_⟩
     rw[List.length_map,decide_eq_true (show(t.length:Int)>40 by lia)]
     exact aQ ⟨40,rfl,by decide,fun z=>⟨rfl,by rw[Option.some.inj hc];exact k _ (Same.refl _)⟩⟩
    ·cases hc
  ·rw[if_pos al] at hc;rw[Option.some.inj hc];exact k _ (Same.refl _)
theorem qG(M:Md K mg)(B:Bl mg)(F:FF K "pieces_with_rests" fx)(Fcheck_few:Fn P w K mg base (aq P w) "check_few" 3 ["text"] (de (cm cNoSign cNoText cTooMany)))(Fpiece_places:Fn P w K mg base ai "piece_places" 1 ["text","many"] ic)(Frest_both:Fn P w K mg base (aq P w) "rest_both" 5 ["text","word"] (bJ (bn cNoWord cNoSign cNoText))):Fn P w K mg base (aq P w) "pieces_with_rests" 6 ["text"] (de (cm cNoSign cNoText cTooMany)):=by
 refine bO M F scPWR (fun _ _ _ _ _ _=>bj fun _=>rfl) (fun vs H Q E h=>?_) (fun f cdv A outer s H vs Q E hr h=>?_)
 ·obtain⟨a,ts,c,rfl,_⟩:=h;rfl
 ·refine⟨_,(ae (aI (ag Fcheck_few hr bv (aa (pv 0) ac)))
   (ae (am (i:=1) scPWR.nd rfl (.inl rfl) (aY ac))
   (ae (bM PassesOwn.leaving rfl (dq (by rfl) B.range (aa ad (aa (ak aV (aB B.len (pv 0)) ad) ac))) (bz (i:=2) scPWR.nd rfl (.inl rfl))
   (ah (bM PassesOwn.leaving rfl (kA (ag Fpiece_places hr aj (aa (pv 0) (aa (pv 2) ac)))) (ir rfl (dQ (bz (i:=3) scPWR.nd rfl (.inl rfl)) (dQ (bz (i:=4) scPWR.nd rfl (.inl rfl)) ib)))
   (ah (aF (bt (ag Frest_both hr bv (aa (pv 0) (aa (lL B.list (pv 3)) ac)))) (ah (aI (eB PySem.F.plainAttrs_list PySem.F.slot_list_append PySem.F.type_list_append gF (pv 1) (aa (cV (aa (pv 2) (aa (aZ bh (pv 4) ad (fun _ _=>rfl)) ac))) ac)))) aM)))))
   (ah (ar (pv 1)))))),?_⟩
  obtain⟨a,ts,c,rfl,h⟩:=h
  exact⟨_,rfl,a,ts,c,rfl,h⟩
end
abbrev ig:Stmt:=aN 48
def kC:Sp:=fun vs H Q _=>∃z:Str,vs=[.str z]∧z.length≤1000∧Q (.bl (aD z)) H
abbrev azS:Str:="abcdefghijklmnopqrstuvwxyz"
theorem fT:azS.cps.toList=(List.range 26).map (97+ ·):=by decide+kernel
theorem qB(c:Nat):(!(Builtin.Str.occurrences azS ⟨#[c]⟩ 0 azS.length 1).isEmpty)=aD (aG c):=by
 rw[Bool.eq_iff_iff,StrLaws.found_iff]
 constructor
 ·rintro⟨i,h⟩
  have:=(StrLaws.subAt_one azS c i).mp h
  rw[fT,List.getElem?_map] at this
  have hi:i<26:=by
   rcases Nat.lt_or_ge i 26 with z | z
   ·exact z
   ·rw[List.getElem?_eq_none (by simpa using z)] at this;cases this
  rw[List.getElem?_range hi] at this
  have ec:97+i=c:=Option.some.inj this
  subst ec
  exact nO (by lia) (by lia)
 ·intro h
  obtain⟨d,d1,d2,e⟩:=lm h
  have:c=d:=by simpa [aG] using e
  subst this
  refine⟨c-97,(StrLaws.subAt_one azS c (c-97)).mpr ?_⟩
  rw[fT,List.getElem?_map,List.getElem?_range (by lia)]
  show some (97+(c-97))=some c
  congr 1;lia
theorem oK{z:Str}(h:z.length≠1):aD z=false:=by
 unfold aD
 rw[decide_eq_false h];rfl
section
variable{P:Program}{w:World}{K:PySem.W.Frag}{mg:Str→Option Value}{base:Heap}
theorem rs:FnScope ["sign"] ["sign"] (aw ig):=fsc_
theorem rT(M:Md K mg)(B:Bl mg)(F:FF K "_law_is_sign" ig):Fn P w K mg base ai "_law_is_sign" 1 ["sign"] kC:=by
 refine aL M F rs (fun _ _ _ _ _ _=>bj fun _=>rfl) (fun vs H Q E h=>?_) (fun f cdv A outer s H vs Q E hr h=>?_)
 ·obtain⟨z,rfl,_⟩:=h;rfl
 ·obtain⟨z,rfl,zl,k⟩:=h
  refine⟨_,(ah (ar (dU (cZ bd (fD B.len (pv 0)) ad (aC _)) (dX (cZ mz (pv 0) aO (by with_unfolding_all rfl)))))),?_⟩
  refine⟨_,rfl,z,rfl,ce zl |> Nat.le_of_lt,rfl,_,rfl,?_⟩
  by_cases h1:z.length=1
  ·rw[decide_eq_true (by rw[h1];rfl)]
   refine aQ ⟨_,rfl,z,azS,rfl,rfl,?_⟩
   obtain⟨⟨l⟩⟩:=z
   have h1':l.length=1:=h1
   match l,h1' with
   | [c],_=>
     have:=qB c
     show Q (.bl (!(Builtin.Str.occurrences azS ⟨#[c]⟩ 0 azS.length 1).isEmpty)) H
     rw[this]
     exact k
  ·rw[decide_eq_false (fun q=>h1 (by have:=V.int.inj q;lia))]
   rw[oK h1] at k
   exact aA k
end
theorem gS{v:V}{i:Nat}{aJ:TS}{D:Ends}{σ:St}{H:Hp}(h:aJ D (σ.set i (some v)) H):cJ (eh (tC v) (cE i)) aJ D σ H:=h
abbrev hU:Stmt:=aN 51
abbrev ia:Stmt:=aN 52
abbrev ev1:Str:=" !\"#$&'()*+,-./0123456789:;<=>?@"
abbrev ev2:Str:="ABCDEFGHIJKLMNOPQRSTUVWXYZ[\\]^_`{|}~"
theorem gC(x y:Str):(x++y).length=x.length+y.length:=by
 show(x.cps++y.cps).size=_
 rw[Array.size_append];rfl
theorem oN{x y:Str}(hx:PyData.strOk x=true)(hy:PyData.strOk y=true):PyData.strOk (x++y)=true:=by
 show(x.cps++y.cps).all _=true
 rw[Array.all_append,Bool.and_eq_true]
 exact⟨hx,hy⟩
theorem gY{c:Nat}(h:c<200):PyData.strOk (aG c)=true:=by simp[PyData.strOk];lia
theorem pF:(ev1++ev2).length≤100∧1≤(ev1++ev2).length:=by
 rw[gC]
 have h1:ev1.length≤50∧1≤ev1.length:=by decide+kernel
 have h2:ev2.length≤50:=by decide+kernel
 lia
theorem pU:∀c∈(ev1++ev2).cps.toList,c<200:=by
 intro c hc
 have e:(ev1++ev2).cps.toList=ev1.cps.toList++ev2.cps.toList:=by
  show(ev1.cps++ev2.cps).toList=_
  rw[Array.toList_append]
 rw[e] at hc
 rcases List.mem_append.mp hc with h | h
 ·revert c;decide+kernel
 ·revert c;decide+kernel
theorem kG{r:Int}(r0:0≤r)(r1:r<26):∃c,bF azS.cps.toList r=some c∧97≤c∧c≤122:=by
 obtain⟨c,_,hm,e⟩:=cU azS.cps.toList r r0 (by rw[fT];simpa using r1)
 refine⟨c,e,?_⟩
 rw[fT] at hm
 simp at hm
 obtain⟨x,hx,rfl⟩:=hm
 lia
def jU:Sp:=fun vs H Q _=>∃p:Addr,vs=[.ref p]∧Hand H p∧∀(z:Str) (H':Hp),z.length≤1000→PyData.strOk z=true→Hand H' p→Keep p H H'→Q (.str z) H'
def lB:Sp:=fun vs H Q _=>∃(p a:Addr) (t:List Nat),vs=[.ref p,.ref a]∧Hand H p∧H a=some (.lst (t.map sg))∧Low t∧t.length≤300∧
 ∀(zs:List Str) (r:Addr) (H':Hp),H r=none→H' r=some (.lst (zs.map V.str))→Txt zs→zs.length≤t.length+1→Hand H' p→Keep p H H'→Q (.ref r) H'
section
variable{P:Program}{w:World}{K:PySem.W.Frag}{mg:Str→Option Value}{base:Heap}
theorem scOdd:FnScope ["deck","every","letters","way","one"] ["deck"] (aw hU):=fsc_
theorem mS(M:Md K mg)(B:Bl mg)(F:FF K "_law_odd_sign" hU)(F_law_take:Fn P w K mg base ai "_law_take" 1 ["deck","many"] cA):Fn P w K mg base ai "_law_odd_sign" 2 ["deck"] jU:=by
 refine aL M F scOdd (fun _ _ _ _ _ _=>bj fun _=>rfl) (fun vs H Q E h=>?_) (fun f cdv A outer s H vs Q E hr h=>?_)
 ·obtain⟨p,rfl,_⟩:=h;rfl
 ·obtain⟨p,rfl,hp,k⟩:=h
  refine⟨_,(ae (am (i:=1) scOdd.nd rfl (.inl rfl) aO)
   (ae (am (i:=1) scOdd.nd rfl (.inl rfl) (ak lW (pv 1) aO))
   (ae (am (i:=2) scOdd.nd rfl (.inl rfl) aO)
   (ae (am (i:=3) scOdd.nd rfl (.inl rfl) (ag F_law_take hr aj (aa (pv 0) (aa ad ac))))
   (ae (aF (aE e6 (pv 3) ad (aC _)) (ah (ar (aZ e9 (pv 1) (ag F_law_take hr aj (aa (pv 0) (aa (fD B.len (pv 1)) ac))) (fun _ _=>rfl)))) aM)
   (ae (aF (aE bd (pv 3) ad (aC _)) (ae (am (i:=4) scOdd.nd rfl (.inl rfl) (aZ e9 (pv 2) (ag F_law_take hr aj (aa (pv 0) (aa ad ac))) (fun _ _=>rfl)))
   (ah (ar (ak lW (pv 4) (aZ e9 (pv 2) (ag F_law_take hr aj (aa (pv 0) (aa ad ac))) (fun _ _=>rfl)))))) aM)
   (ah (ar (aZ bh (aY (aa aO (aa aO (aa aO (aa aO (aa aO (aa aO (aa aO ac)))))))) (ag F_law_take hr aj (aa (pv 0) (aa ad ac))) (fun _ _=>rfl)))))))))),?_⟩
  have el:=pF
  refine gS (bY ⟨_,rfl,_,_,rfl,rfl,by rw[←gC];exact sz (show(ev1++ev2).length≤1000 by lia),?_⟩)
  refine gS (bY ⟨_,rfl,p,4,rfl,hp,by decide,fun way H1 w0 w1 hp1 k1=>?_⟩)
  refine dP (fun σ' H'=>σ'=[some (.ref p),some (.str (ev1++ev2)),some (.str azS),some (.int way),none]∧H1=H') ?_ fun R hR=>?_
  case refine_2=>
   refine⟨_,rfl,_,_,rfl,rfl,_,rfl,?_⟩
   refine br (fun hc=>?_) (fun hc=>hR _ _ ⟨rfl,rfl⟩)
   refine⟨_,rfl,_,rfl,_,rfl,ev1++ev2,rfl,sz (by lia),p,_,rfl,hp1,by lia,fun r H2 r0 r1 hp2 k2=>?_⟩
   obtain⟨c,_,hcm,ec⟩:=cU (ev1++ev2).cps.toList r r0 (by simpa [Str.length] using r1)
   exact⟨ev1++ev2,r,c,rfl,rfl,sz (by lia),ec,k _ _ (by show 1≤1000;decide) (gY (pU c hcm)) hp2 (k1.trans k2)⟩
  rintro σ' H' ⟨rfl,rfl⟩
  refine dP (fun σ' H'=>σ'=[some (.ref p),some (.str (ev1++ev2)),some (.str azS),some (.int way),none]∧H1=H') ?_ fun R hR=>?_
  case refine_2=>
   refine⟨_,rfl,rfl,_,rfl,?_⟩
   refine br (fun hc=>?_) (fun hc=>hR _ _ ⟨rfl,rfl⟩)
   refine bY ⟨_,rfl,_,rfl,p,26,rfl,hp1,by decide,fun r H2 r0 r1 hp2 k2=>?_⟩
   obtain⟨c,ec,c1,c2⟩:=kG r0 r1
   refine⟨azS,r,c,rfl,rfl,sz (by decide+kernel),ec,?_⟩
   refine⟨_,rfl,_,rfl,_,rfl,p,26,rfl,hp2,by decide,fun x H3 x0 x1 hp3 k3=>?_⟩
   obtain⟨d,ed,d1,d2⟩:=kG x0 x1
   refine⟨azS,x,d,rfl,rfl,sz (by decide+kernel),ed,_,_,rfl,rfl,sz (by show 1+1≤1000;decide),k _ _ (by rw[gC];show 1+1≤1000;decide) (oN (gY (by lia)) (gY (by lia))) hp3 ((k1.trans k2).trans k3)⟩
  rintro σ' H' ⟨rfl,rfl⟩
  refine⟨by show 7≤sizeLine;decide,fun l hl=>?_⟩
  have s2:=Same.upd (o:=.lst [V.str "",.str "abc",.str "xyz",.str "a ",.str " a",.str "\n",.str "a\n"]) hl
  have hl2:=af (H:=H1) (a:=l) (o:=.lst [V.str "",.str "abc",.str "xyz",.str "a ",.str " a",.str "\n",.str "a\n"])
  have hp2:=hp1.same s2
  have nlp:l≠p:=(hp1.ne hl).symm
  generalize L2.upd H1 l (.lst [V.str "",.str "abc",.str "xyz",.str "a ",.str " a",.str "\n",.str "a\n"])=H2 at s2 hl2 hp2 ⊢
  refine⟨_,rfl,p,7,rfl,hp2,by decide,fun r H3 r0 r1 hp3 k3=>?_⟩
  obtain⟨v,_,hv,ev⟩:=cU [V.str "",.str "abc",.str "xyz",.str "a ",.str " a",.str "\n",.str "a\n"] r r0 (by simpa using r1)
  obtain⟨z,rfl,oz1,oz2⟩:∃z,v=.str z∧z.length≤1000∧PyData.strOk z=true:=by
   simp only[List.mem_cons,List.not_mem_nil,or_false] at hv
   rcases hv with rfl | rfl | rfl | rfl | rfl | rfl | rfl <;> exact⟨_,rfl,by decide+kernel,by decide+kernel⟩
  exact⟨l,_,r,_,rfl,rfl,SqL.of (k3 _ _ hl2 nlp),ev,k _ _ oz1 oz2 hp3 ((k1.trans s2.keep).trans k3)⟩
theorem scSpoilt:FnScope ["deck","signs","at","odd","to"] ["deck","signs"] (aw ia):=fsc_
theorem pk(M:Md K mg)(B:Bl mg)(F:FF K "_law_spoilt" ia)(F_law_take:Fn P w K mg base ai "_law_take" 1 ["deck","many"] cA)(F_law_odd_sign:Fn P w K mg base ai "_law_odd_sign" 2 ["deck"] jU):Fn P w K mg base ai "_law_spoilt" 3 ["deck","signs"] lB:=by
 refine aL M F scSpoilt (fun _ _ _ _ _ _=>bx fun _ _=>rfl) (fun vs H Q E h=>?_) (fun f cdv A outer s H vs Q E hr h=>?_)
 ·obtain⟨p,a,t,rfl,_⟩:=h;rfl
 ·obtain⟨p,a,t,rfl,hp,ha,lt,tl,k⟩:=h
  refine⟨_,(ae (am (i:=2) scSpoilt.nd rfl (.inl rfl) (ag F_law_take hr aj (aa (pv 0) (aa (ak aV (aB B.len (pv 1)) ad) ac))))
   (ae (am (i:=3) scSpoilt.nd rfl (.inl rfl) (ag F_law_odd_sign hr aj (aa (pv 0) ac)))
   (ae (am (i:=4) scSpoilt.nd rfl (.inl rfl) (ak aV (pv 2) (ag F_law_take hr aj (aa (pv 0) (aa ad ac)))))
   (ah (ar (ak bw (ak bw (aS aU (pv 1) bb (aP (pv 2))) (aY (aa (pv 3) ac))) (aS aU (pv 1) (aP (pv 4)) bb))))))),?_⟩
  have nap:=au hp ha
  refine⟨_,rfl,_,rfl,a,_,rfl,SqL.of ha,_,_,rfl,rfl,p,_,rfl,hp,by rw[List.length_map];lia,fun at_ H1 a0 a1 hp1 k1=>?_⟩
  refine⟨_,rfl,p,rfl,hp1,fun z H2 zl zo hp2 k2=>?_⟩
  refine⟨_,rfl,_,rfl,p,2,rfl,hp2,by decide,fun x H3 x0 x1 hp3 k3=>⟨_,_,rfl,rfl,?_⟩⟩
  have k03:=(k1.trans k2).trans k3
  have ha3:=k03 _ _ ha nap
  rw[List.length_map] at a1
  refine⟨_,rfl,_,rfl,_,rfl,a,_,rfl,SqL.of ha3,fun q1 hq1=>?_⟩
  rw[bN a0]
  have s4:=Same.upd (o:=.lst ((t.take at_.toNat).map sg)) hq1
  have hq4:=af (H:=H3) (a:=q1) (o:=.lst ((t.take at_.toNat).map sg))
  generalize L2.upd H3 q1 (.lst ((t.take at_.toNat).map sg))=H4 at s4 hq4 ⊢
  refine⟨_,rfl,by show 1≤sizeLine;decide,fun q2 hq2=>?_⟩
  have s5:=Same.upd (o:=.lst [V.str z]) hq2
  refine⟨q1,q2,_,_,rfl,rfl,s5 _ _ hq4,af,by rw[List.length_map,List.length_take];show _+1≤sizeLine;exact sz (by lia),fun q3 hq3=>?_⟩
  have s6:=s5.trans (Same.upd (o:=.lst ((t.take at_.toNat).map sg++[V.str z])) hq3)
  have hq6:=af (H:=L2.upd H4 q2 (.lst [V.str z])) (a:=q3) (o:=.lst ((t.take at_.toNat).map sg++[V.str z]))
  generalize L2.upd (L2.upd H4 q2 (.lst [V.str z])) q3 (.lst ((t.take at_.toNat).map sg++[V.str z]))=H6 at s6 hq6 ⊢
  have s46:=s4.trans s6
  refine⟨_,rfl,_,rfl,_,rfl,a,_,rfl,SqL.of (s46 _ _ ha3),fun q4 hq4'=>?_⟩
  rw[cI (by lia)]
  have s7:=Same.upd (o:=.lst ((t.drop (at_+x).toNat).map sg)) hq4'
  refine⟨q3,q4,_,_,rfl,rfl,s7 _ _ hq6,af,by rw[List.length_append,List.length_map,List.length_map,List.length_take,List.length_drop,List.length_singleton];exact sz (by lia),fun q5 hq5=>?_⟩
  have el:(t.take at_.toNat).map sg++[V.str z]++(t.drop (at_+x).toNat).map sg=((t.take at_.toNat).map aG++[z]++(t.drop (at_+x).toNat).map aG).map V.str:=by
   rw[List.map_append,List.map_append,cr,cr];rfl
  have s8:=Same.upd (o:=.lst ((t.take at_.toNat).map sg++[V.str z]++(t.drop (at_+x).toNat).map sg)) hq5
  have sA:=(s46.trans s7).trans s8
  refine k ((t.take at_.toNat).map aG++[z]++(t.drop (at_+x).toNat).map aG) q5 _ (hp3.free k03 ((s46.trans s7).free hq5)) (by rw[af,el]) ?_ ?_ (hp3.same sA) (k03.trans sA.keep)
  ·intro y hy
   rcases List.mem_append.mp hy with h | h
   ·rcases List.mem_append.mp h with h | h
    ·exact cP (lt.take _) y h
    ·rw[List.mem_singleton.mp h];exact⟨zl,zo⟩
   ·exact cP (lt.drop _) y h
  ·rw[List.length_append,List.length_append,List.length_map,List.length_map,List.length_take,List.length_drop,List.length_singleton];lia
end
abbrev hZ:Stmt:=aN 47
abbrev gP:Stmt:=aN 49
abbrev gz:Stmt:=aN 50
theorem oG{K:PySem.W.Frag}{C:Addr}{i:Nat}{tb:St→XK→TS}{th aJ:TS}{D:Ends}{σ:St}{H:Hp}(T:St→Hp→Prop)(hr:∀σ' H',T σ' H'→aJ D σ' H')(h:∀R:St→Hp→Prop,(∀σ' H',T σ' H'→R σ' H')→fS K C i tb th {D with nx:=R} σ H):cJ (fS K C i tb th) aJ D σ H:=h (aJ D) hr
theorem n8{K:PySem.W.Frag}{C:Addr}{i:Nat}{tb:St→XK→TS}{th:TS}{D:Ends}{σ:St}{H:Hp}(Ex:XK)(hEx:∀cls o H',Ex cls o H'→PySem.W.exmOne K cls (.ref C)=some true∧∀e,H' e=none→th (D.drop i) (σ.set i (some (.ref e))) (L2.upd H' e (.ext (bA e cls))))(hb:∀Ex':XK,(∀cls o H',Ex cls o H'→Ex' cls o H')→tb σ Ex' D σ H):fS K C i tb th D σ H:=hb _ hEx
theorem eS{K:PySem.W.Frag}{H:Hp}:∀{zs:List Str},Txt zs→DatVs K H (zs.map PyData.str) (zs.map V.str)
 | [],_=>la
 | z::zs,h=>iC (rE z (h z List.mem_cons_self).2) (eS fun y hy=>h y (List.mem_cons_of_mem _ hy))
theorem i9(v:List PyData):PyData.eqv (.list v) (.list [])=decide (v=[]):=by
 cases v with
 | nil=>rfl
 | cons x r=>rw[decide_eq_false (List.cons_ne_nil _ _)];rfl
theorem kT{K:PySem.W.Frag}{σ:St}{H:Hp}{i:Nat}{a:Addr}{zs:List Str}{Q:Bool→Hp→Prop}(hi:σ[i]?=some (some (.ref a)))(ha:H a=some (.lst (zs.map V.str)))(tz:Txt zs)(k:∀H',Same H H'→Q (decide (zs=[])) H'):lF (dz (dH K false) (bK i) (gU dI)) σ H Q:=by
 refine⟨_,hi,Nat.zero_le _,fun q hq=>?_⟩
 have s1:=Same.upd (o:=.lst []) hq
 refine⟨.list (zs.map PyData.str),.list [],eV (SqL.of (s1 _ _ ha)) (eS tz),?_,Nat.le_trans (Nat.min_le_right _ _) (by decide),_,rfl,?_⟩
 ·rw[DatV];exact⟨q,[],rfl,SqL.of af,by rw[DatVs]⟩
 ·rw[if_neg (by decide),i9,show decide (zs.map PyData.str=[])=decide (zs=[]) from decide_eq_decide.mpr List.map_eq_nil_iff]
  exact k _ s1
theorem gK:∀zs:List Str,PyData.depthAll (zs.map PyData.str)≤1
 | []=>by rw[List.map_nil,PyData.depthAll];exact Nat.zero_le _
 | z::zs=>by
   have:=gK zs
   simp only[List.map_cons,PyData.depthAll,PyData.depth]
   lia
theorem lT:∀zs:List Str,PyData.eqvAll (zs.map PyData.str) (zs.map PyData.str)=true
 | []=>by rw[List.map_nil,PyData.eqvAll]
 | z::zs=>by
   rw[List.map_cons,PyData.eqvAll,lT zs]
   simp[PyData.eqv]
def cY(zs ts:List Str):PyData:=.list [.list (zs.map PyData.str),.list (ts.map PyData.str)]
theorem rm(zs ts:List Str):(cY zs ts).depth≤64:=by
 have h1:=gK zs
 have h2:=gK ts
 unfold cY
 simp only[PyData.depth,PyData.depthAll]
 lia
theorem ph(zs ts:List Str):PyData.eqv (cY zs ts) (cY zs ts)=true:=by
 unfold cY
 simp[PyData.eqv,PyData.eqvAll,lT]
theorem jC{K:PySem.W.Frag}{H:Hp}{h x y:Addr}{zs ts:List Str}(lz:Txt zs)(lt:Txt ts)(hh:H h=some (.lst [.ref x,.ref y]))(hx:H x=some (.lst (zs.map V.str)))(hy:H y=some (.lst (ts.map V.str))):DatV K H (cY zs ts) (.ref h):=
 eV (SqL.of hh) (iC (eV (SqL.of hx) (eS lz)) (iC (eV (SqL.of hy) (eS lt)) la))
theorem pC{K:PySem.W.Frag}{H:Hp}{h x y k a b:Addr}{zs ts:List Str}{Q:VK}(lz:Txt zs)(lt:Txt ts)(hh:H h=some (.lst [.ref x,.ref y]))(hx:H x=some (.lst (zs.map V.str)))(hy:H y=some (.lst (ts.map V.str)))(hk:H k=some (.lst [.ref a,.ref b]))(ha:H a=some (.lst (zs.map V.str)))(hb:H b=some (.lst (ts.map V.str)))(q:Q (.bl false) H):dH K true (.ref h) (.ref k) H Q:=by
 refine⟨cY zs ts,cY zs ts,jC lz lt hh hx hy,jC lz lt hk ha hb,Nat.le_trans (Nat.min_le_left _ _) (rm zs ts),?_⟩
 rw[ph]
 exact q
def aX(asked:Nat)(zs ys:List Str):Str:=
 if asked<4 then(if ys=[] then "word" else if(zs++ys).all aD=false then "sign" else if zs=[] then "text" else "")
 else(if zs.all aD=false then "sign" else if zs=[] then "text" else if asked=6∧40<zs.length then "many" else "")
def gM(asked:Nat)(zs ys:List Str)(n:Str):Prop:=n=aX asked zs ys∨(asked=3∧n="cover"∧aX asked zs ys="")
theorem qo{cW cS cT cC cM c:Addr}{asked:Nat}{zs ys:List Str}(ha:asked<4)(h:bn cW cS cT ys zs=some c):Cls cW cS cT cC cM c (aX asked zs ys):=by
 unfold bn at h
 unfold aX
 rw[if_pos ha]
 split at h
 ·rename_i e
  rw[if_pos e];exact .inl ⟨(Option.some.inj h).symm,rfl⟩
 ·rename_i e
  rw[if_neg e]
  split at h
  ·rename_i g
   rw[if_pos (by rw[List.all_append,g,Bool.and_false])]
   exact .inr (.inl ⟨(Option.some.inj h).symm,rfl⟩)
  ·rename_i g
   have g':ys.all aD=true:=by simpa using g
   split at h
   ·rename_i f
    rw[if_pos (by rw[List.all_append,f,Bool.false_and])]
    exact .inr (.inl ⟨(Option.some.inj h).symm,rfl⟩)
   ·rename_i f
    have f':zs.all aD=true:=by simpa using f
    rw[if_neg (by rw[List.all_append,f',g'];decide)]
    split at h
    ·rename_i z
     rw[if_pos z];exact .inr (.inr (.inl ⟨(Option.some.inj h).symm,rfl⟩))
    ·cases h
theorem qx{cW cS cT:Addr}{asked:Nat}{zs ys:List Str}(ha:asked<4)(h:bn cW cS cT ys zs=none):aX asked zs ys=""∧∃t u,Low t∧Low u∧1≤t.length∧1≤u.length∧zs=t.map aG∧ys=u.map aG:=by
 unfold bn at h
 split at h
 ·cases h
 ·rename_i e
  split at h
  ·cases h
  ·rename_i g
   have g':ys.all aD=true:=by simpa using g
   split at h
   ·cases h
   ·rename_i f
    have f':zs.all aD=true:=by simpa using f
    split at h
    ·cases h
    ·rename_i z
     obtain⟨t,lt,rfl⟩:=dS f'
     obtain⟨u,lu,rfl⟩:=dS g'
     refine⟨?_,t,u,lt,lu,?_,?_,rfl,rfl⟩
     ·unfold aX
      rw[if_pos ha,if_neg e,if_neg (by rw[List.all_append,f',g'];decide),if_neg z]
     ·cases t with
      | nil=>exact absurd rfl z
      | cons _ _=>simp
     ·cases u with
      | nil=>exact absurd rfl e
      | cons _ _=>simp
theorem jl{cW cS cT cC cM c:Addr}{asked:Nat}{zs ys:List Str}(h4:4≤asked)(h6:asked<6)(h:bT cS cT zs=some c):Cls cW cS cT cC cM c (aX asked zs ys):=by
 unfold bT at h
 unfold aX
 rw[if_neg (by lia)]
 split at h
 ·rename_i f
  rw[if_pos f];exact .inr (.inl ⟨(Option.some.inj h).symm,rfl⟩)
 ·rename_i f
  rw[if_neg f]
  split at h
  ·rename_i z
   rw[if_pos z];exact .inr (.inr (.inl ⟨(Option.some.inj h).symm,rfl⟩))
  ·cases h
theorem jc{cS cT:Addr}{asked:Nat}{zs ys:List Str}(h4:4≤asked)(h6:asked<6)(h:bT cS cT zs=none):aX asked zs ys=""∧∃t,Low t∧1≤t.length∧zs=t.map aG:=by
 unfold bT at h
 split at h
 ·cases h
 ·rename_i f
  have f':zs.all aD=true:=by simpa using f
  split at h
  ·cases h
  ·rename_i z
   obtain⟨t,lt,rfl⟩:=dS f'
   refine⟨?_,t,lt,?_,rfl⟩
   ·unfold aX
    rw[if_neg (by lia),if_neg f,if_neg z,if_neg (by lia)]
   ·cases t with
    | nil=>exact absurd rfl z
    | cons _ _=>simp
theorem rX{cW cS cT cC cM c:Addr}{zs ys:List Str}(h:cm cS cT cM zs=some c):Cls cW cS cT cC cM c (aX 6 zs ys):=by
 unfold cm at h
 unfold aX
 rw[if_neg (by decide)]
 split at h
 ·rename_i f
  rw[if_pos f];exact .inr (.inl ⟨(Option.some.inj h).symm,rfl⟩)
 ·rename_i f
  rw[if_neg f]
  split at h
  ·rename_i z
   rw[if_pos z];exact .inr (.inr (.inl ⟨(Option.some.inj h).symm,rfl⟩))
  ·rename_i z
   rw[if_neg z]
   split at h
   ·rename_i g
    rw[if_pos ⟨rfl,g⟩];exact .inr (.inr (.inr (.inr ⟨(Option.some.inj h).symm,rfl⟩)))
   ·cases h
theorem rD{cS cT cM:Addr}{zs ys:List Str}(h:cm cS cT cM zs=none):aX 6 zs ys=""∧∃t,Low t∧1≤t.length∧t.length≤40∧zs=t.map aG:=by
 unfold cm at h
 split at h
 ·cases h
 ·rename_i f
  have f':zs.all aD=true:=by simpa using f
  split at h
  ·cases h
  ·rename_i z
   split at h
   ·cases h
   ·rename_i g
    obtain⟨t,lt,rfl⟩:=dS f'
    rw[List.length_map] at g
    refine⟨?_,t,lt,?_,by lia,rfl⟩
    ·unfold aX
     rw[if_neg (by decide),if_neg f,if_neg z,if_neg fun q=>g (by have:=q.2;rw[List.length_map] at this;exact this)]
    ·cases t with
     | nil=>exact absurd rfl z
     | cons _ _=>simp
def kP:Sp:=fun vs H Q _=>∃(asked:Nat) (a b:Addr) (zs ys:List Str),vs=[.int (asked:Int),.ref a,.ref b]∧H a=some (.lst (zs.map V.str))∧H b=some (.lst (ys.map V.str))∧Txt zs∧Txt ys∧zs.length≤250∧ys.length≤250∧asked<7∧
 ∀(n:Str) (H':Hp),gM asked zs ys n→Same H H'→Q (.str n) H'
section
variable{P:Program}{w:World}{K:PySem.W.Frag}{mg:Str→Option Value}{base:Heap}{cCoverError cNoWord cNoSign cNoText cNoCover cNoChain cNoForm cNoNumber cNoneYet cTooMany:Addr}
theorem scRefusal:FnScope ["asked","text","word","caught","e"] ["asked","text","word"] (aw hZ):=fsc_
theorem qN(M:Md K mg)(B:Bl mg)(F:FF K "_law_refusal" hZ)(S:Exs K mg cCoverError cNoWord cNoSign cNoText cNoCover cNoChain cNoForm cNoNumber cNoneYet cTooMany)(F_law_kind:Fn P w K mg base ai "_law_kind" 1 ["caught"] (l6 cNoWord cNoSign cNoText cNoCover cTooMany))(Frest_behind:Fn P w K mg base (aq P w) "rest_behind" 5 ["text","word"] (fun vs H Q E=>bL false true vs H Q E∨bJ (bn cNoWord cNoSign cNoText) vs H Q E))(Frest_ahead:Fn P w K mg base (aq P w) "rest_ahead" 5 ["text","word"] (fun vs H Q E=>bL true false vs H Q E∨bJ (bn cNoWord cNoSign cNoText) vs H Q E))(Frest_both:Fn P w K mg base (aq P w) "rest_both" 5 ["text","word"] (fun vs H Q E=>bL true true vs H Q E∨bJ (bn cNoWord cNoSign cNoText) vs H Q E))
 (Fshown_with_rests:Fn P w K mg base (aq P w) "shown_with_rests" 6 ["text","word"] (fun vs H Q E=>jW cNoCover vs H Q E∨bJ (bn cNoWord cNoSign cNoText) vs H Q E))(Fbeginnings_with_rest:Fn P w K mg base (aq P w) "beginnings_with_rest" 6 ["text"] (fun vs H Q E=>jV vs H Q E∨de (bT cNoSign cNoText) vs H Q E))(Fends_with_rest:Fn P w K mg base (aq P w) "ends_with_rest" 6 ["text"] (fun vs H Q E=>jx vs H Q E∨de (bT cNoSign cNoText) vs H Q E))
 (Fpieces_with_rests:Fn P w K mg base (aq P w) "pieces_with_rests" 6 ["text"] (fun vs H Q E=>lf vs H Q E∨de (cm cNoSign cNoText cTooMany) vs H Q E)):Fn P w K mg base ai "_law_refusal" 7 ["asked","text","word"] kP:=by
 have bCoverError:=S.bCoverError
 refine aL M F scRefusal (fun _ _ _ _ _ _=>cR fun _ _ _=>rfl) (fun vs H Q E h=>?_) (fun f cdv A outer s H vs Q E hr h=>?_)
 ·obtain⟨d,a,b,zs,ys,rfl,_⟩:=h;rfl
 ·obtain⟨d,a,b,zs,ys,rfl,ha,hb,tz,ty,zl,yl,hd,k⟩:=h
  refine⟨_,(ae (am (i:=3) scRefusal.nd rfl (.inl rfl) jG)
   (ae (qW (i:=4) bCoverError scRefusal.nd rfl rfl (fun _ _ _=>by exact(ah (aF (aE bd (pv 0) ad (aC _)) (ah (aI (dj Frest_behind hr (aa (pv 1) (aa (pv 2) ac))))) (ah (aF (aE bd (pv 0) ad (aC _)) (ah (aI (dj Frest_ahead hr (aa (pv 1) (aa (pv 2) ac))))) (ah (aF (aE bd (pv 0) ad (aC _)) (ah (aI (dj Frest_both hr (aa (pv 1) (aa (pv 2) ac))))) (ah (aF (aE bd (pv 0) ad (aC _)) (ah (aI (dj Fshown_with_rests hr (aa (pv 1) (aa (pv 2) ac))))) (ah (aF (aE bd (pv 0) ad (aC _)) (ah (aI (dj Fbeginnings_with_rest hr (aa (pv 1) ac)))) (ah (aF (aE bd (pv 0) ad (aC _)) (ah (aI (dj Fends_with_rest hr (aa (pv 1) ac)))) (ah (aI (dj Fpieces_with_rests hr (aa (pv 1) ac)))))))))))))))))
   (fun _ _=>by exact(ah (am (i:=3) scRefusal.nd rfl (.inl rfl) (pv 4)))))
   (ae (aF (aE oF (pv 3) jG (aC _)) (ah (ar aO)) aM)
   (ah (ar (ag F_law_kind hr aj (aa (pv 3) ac))))))),?_⟩
  refine gS ?_
  refine oG (fun σ H'=>∃(x:V) (n:Str),σ=[some (.int (d:Int)),some (.ref a),some (.ref b),some x,none]∧Same H H'∧gM d zs ys n∧((x=.non∧n="")∨∃(e D:Addr),x=.ref e∧H' e=some (.ext (bA e (.ref D)))∧Cls cNoWord cNoSign cNoText cNoCover cTooMany D n)) ?_ fun R hR=>?_
  ·rintro σ H4 ⟨x,n,rfl,s4,hn,⟨rfl,rfl⟩ | ⟨e,D,rfl,he,hD⟩⟩
   ·exact⟨_,rfl,rfl,_,rfl,aQ (k _ H4 hn s4)⟩
   ·exact⟨_,rfl,rfl,_,rfl,aA ⟨_,rfl,e,D,n,rfl,he,hD,fun H' s'=>k _ H' hn (s4.trans s')⟩⟩
  refine n8 (fun cls _ H'=>∃(c:Addr) (n:Str),cls=.ref c∧Cls cNoWord cNoSign cNoText cNoCover cTooMany c n∧gM d zs ys n∧Same H H') ?_ fun Ex hEx=>?_
  ·rintro _ _ H' ⟨c,n,rfl,hc,hn,s'⟩
   have hmem:c∈[cNoWord,cNoSign,cNoText,cNoCover,cNoChain,cNoForm,cNoNumber,cNoneYet,cTooMany]:=by
    rcases hc with⟨q,_⟩ | ⟨q,_⟩ | ⟨q,_⟩ | ⟨q,_⟩ | ⟨q,_⟩ <;> simp[q]
   have hF:=excFacts.of S.facts c hmem
   exact⟨hF.exm,fun e he=>⟨_,rfl,hR _ _ ⟨.ref e,n,rfl,s'.trans (Same.upd he),hn,.inr ⟨e,c,rfl,af,hc⟩⟩⟩⟩
  ·have kt:aX d zs ys=""→∀H',Same H H'→R [some (.int (d:Int)),some (.ref a),some (.ref b),some .non,none] H':=fun e H' s'=>hR _ _ ⟨.non,"",rfl,s',.inl e.symm,.inl ⟨rfl,rfl⟩⟩
   have kb:∀c,Cls cNoWord cNoSign cNoText cNoCover cTooMany c (aX d zs ys)→∀H',Same H H'→Ex (.ref c) none H':=fun c hc H' s'=>hEx _ _ _ ⟨c,_,rfl,hc,.inl rfl,s'⟩
   have kc:d=3→aX d zs ys=""→∀H',Same H H'→Ex (.ref cNoCover) none H':=fun e1 e2 H' s'=>hEx _ _ _ ⟨cNoCover,"cover",rfl,.inr (.inr (.inr (.inl ⟨rfl,rfl⟩))),.inr ⟨e1,rfl,e2⟩,s'⟩
   clear hEx hR
   have two:d<4→(∃c,bn cNoWord cNoSign cNoText ys zs=some c∧∀H',Same H H'→Ex (.ref c) none H')∨(aX d zs ys=""∧∃t u,Low t∧Low u∧1≤t.length∧1≤u.length∧t.length≤250∧u.length≤250∧H a=some (.lst (t.map sg))∧H b=some (.lst (u.map sg))):=fun h4=>by
    cases hr3:bn cNoWord cNoSign cNoText ys zs with
    | some c=>exact .inl ⟨c,rfl,kb c (qo h4 hr3)⟩
    | none=>
      obtain⟨e,t,u,lt,lu,t1,u1,rfl,rfl⟩:=qx h4 hr3
      rw[cr] at ha hb
      rw[List.length_map] at zl yl
      exact .inr ⟨e,t,u,lt,lu,t1,u1,zl,yl,ha,hb⟩
   have:d=0∨d=1∨d=2∨d=3∨d=4∨d=5∨d=6:=by lia
   rcases this with rfl | rfl | rfl | rfl | rfl | rfl | rfl
   ·refine⟨_,rfl,rfl,_,rfl,aQ ⟨rfl,_,rfl,_,rfl,?_⟩⟩
    rcases two (by decide) with⟨c,h1,h2⟩ | ⟨e,t,u,lt,lu,t1,u1,tl,ul,ha',hb'⟩
    ·exact .inr ⟨a,b,zs,ys,c,rfl,ha,hb,tz,ty,h1,h2⟩
    ·exact .inl ⟨a,b,t,u,rfl,ha',hb',lt,lu,t1,u1,by lia,by lia,kt e⟩
   ·refine⟨_,rfl,rfl,_,rfl,aA ⟨_,rfl,rfl,_,rfl,aQ ⟨rfl,_,rfl,_,rfl,?_⟩⟩⟩
    rcases two (by decide) with⟨c,h1,h2⟩ | ⟨e,t,u,lt,lu,t1,u1,tl,ul,ha',hb'⟩
    ·exact .inr ⟨a,b,zs,ys,c,rfl,ha,hb,tz,ty,h1,h2⟩
    ·exact .inl ⟨a,b,t,u,rfl,ha',hb',lt,lu,t1,u1,by lia,by lia,kt e⟩
   ·refine⟨_,rfl,rfl,_,rfl,aA ⟨_,rfl,rfl,_,rfl,aA ⟨_,rfl,rfl,_,rfl,aQ ⟨rfl,_,rfl,_,rfl,?_⟩⟩⟩⟩
    rcases two (by decide) with⟨c,h1,h2⟩ | ⟨e,t,u,lt,lu,t1,u1,tl,ul,ha',hb'⟩
    ·exact .inr ⟨a,b,zs,ys,c,rfl,ha,hb,tz,ty,h1,h2⟩
    ·exact .inl ⟨a,b,t,u,rfl,ha',hb',lt,lu,t1,u1,by lia,by lia,kt e⟩
   ·refine⟨_,rfl,rfl,_,rfl,aA ⟨_,rfl,rfl,_,rfl,aA ⟨_,rfl,rfl,_,rfl,aA ⟨_,rfl,rfl,_,rfl,aQ ⟨rfl,_,rfl,_,rfl,?_⟩⟩⟩⟩⟩
    rcases two (by decide) with⟨c,h1,h2⟩ | ⟨e,t,u,lt,lu,t1,u1,tl,ul,ha',hb'⟩
    ·exact .inr ⟨a,b,zs,ys,c,rfl,ha,hb,tz,ty,h1,h2⟩
    ·exact .inl ⟨a,b,t,u,rfl,ha',hb',lt,lu,t1,u1,by lia,by lia,fun _ H' s'=>kc rfl e H' s',fun L _ r H' _ _ s'=>kt e H' s'⟩
   ·refine⟨_,rfl,rfl,_,rfl,aA ⟨_,rfl,rfl,_,rfl,aA ⟨_,rfl,rfl,_,rfl,aA ⟨_,rfl,rfl,_,rfl,aA ⟨_,rfl,rfl,_,rfl,aQ ⟨rfl,_,rfl,?_⟩⟩⟩⟩⟩⟩
    cases hr1:bT cNoSign cNoText zs with
    | some c=>exact .inr ⟨a,zs,c,rfl,ha,tz,hr1,kb c (jl (by decide) (by decide) hr1)⟩
    | none=>
      obtain⟨e,t,lt,t1,rfl⟩:=jc (ys:=ys) (asked:=4) (by decide) (by decide) hr1
      rw[cr] at ha
      rw[List.length_map] at zl
      exact .inl ⟨a,t,rfl,ha,lt,t1,by lia,fun r H' _ _ s'=>kt e H' s'⟩
   ·refine⟨_,rfl,rfl,_,rfl,aA ⟨_,rfl,rfl,_,rfl,aA ⟨_,rfl,rfl,_,rfl,aA ⟨_,rfl,rfl,_,rfl,aA ⟨_,rfl,rfl,_,rfl,aA ⟨_,rfl,rfl,_,rfl,aQ ⟨rfl,_,rfl,?_⟩⟩⟩⟩⟩⟩⟩
    cases hr1:bT cNoSign cNoText zs with
    | some c=>exact .inr ⟨a,zs,c,rfl,ha,tz,hr1,kb c (jl (by decide) (by decide) hr1)⟩
    | none=>
      obtain⟨e,t,lt,t1,rfl⟩:=jc (ys:=ys) (asked:=5) (by decide) (by decide) hr1
      rw[cr] at ha
      rw[List.length_map] at zl
      exact .inl ⟨a,t,rfl,ha,lt,t1,by lia,fun r H' _ _ s'=>kt e H' s'⟩
   ·refine⟨_,rfl,rfl,_,rfl,aA ⟨_,rfl,rfl,_,rfl,aA ⟨_,rfl,rfl,_,rfl,aA ⟨_,rfl,rfl,_,rfl,aA ⟨_,rfl,rfl,_,rfl,aA ⟨_,rfl,rfl,_,rfl,aA ⟨rfl,_,rfl,?_⟩⟩⟩⟩⟩⟩⟩
    cases hr1:cm cNoSign cNoText cTooMany zs with
    | some c=>exact .inr ⟨a,zs,c,rfl,ha,tz,hr1,kb c (rX hr1)⟩
    | none=>
      obtain⟨e,t,lt,t1,tl,rfl⟩:=rD (ys:=ys) hr1
      rw[cr] at ha
      exact .inl ⟨a,t,rfl,ha,lt,t1,tl,fun r H' _ _ s'=>kt e H' s'⟩
end
def lD:Sp:=fun vs H Q _=>∃(asked:Nat) (a b:Addr) (zs ys:List Str),vs=[.int (asked:Int),.ref a,.ref b]∧H a=some (.lst (zs.map V.str))∧H b=some (.lst (ys.map V.str))∧Txt zs∧Txt ys∧zs.length≤250∧ys.length≤250∧asked<7∧
 ∀(H':Hp),Same H H'→Q (.str (aX asked zs ys)) H'
def lU:Sp:=fun vs H Q _=>∃(a b wy:Addr) (zs ys:List Str) (ws:List Nat),vs=[.ref a,.ref b,.ref wy]∧H a=some (.lst (zs.map V.str))∧H b=some (.lst (ys.map V.str))∧H wy=some (.tup (aT ws))∧Txt zs∧Txt ys∧zs.length≤250∧ys.length≤250∧(∀k∈ws,k<7)∧
 ∀(H':Hp),Same H H'→Q (.bl true) H'
theorem my{K:PySem.W.Frag}{H:Hp}{D l:Addr}{ws:List Str}{Q:VK}(tw:Txt ws)(hD:H D=some (.lst (ws.map V.str)))(hl:H l=some (.lst []))(k:Q (.bl (!decide (ws=[]))) H):dH K true (.ref D) (.ref l) H Q:=by
 refine⟨.list (ws.map PyData.str),.list [],eV (SqL.of hD) (eS tw),?_,Nat.le_trans (Nat.min_le_right _ _) (by decide),?_⟩
 ·rw[DatV];exact⟨l,[],rfl,SqL.of hl,by rw[DatVs]⟩
 ·rw[if_pos rfl,i9,show decide (ws.map PyData.str=[])=decide (ws=[]) from decide_eq_decide.mpr List.map_eq_nil_iff]
  exact k
theorem mh(zs:List Str):(zs.filter fun z=>!aD z)=[]↔zs.all aD=true:=by
 rw[List.filter_eq_nil_iff,List.all_eq_true]
 constructor
 ·intro h z hz;have:=h z hz;simpa using this
 ·intro h z hz;have:=h z hz;simp[this]
def bH(asked:Nat)(zs ys:List Str):List Str:=if asked<4 then zs++ys else zs
theorem ox{asked:Nat}{zs ys:List Str}(h:asked<4)(e:ys=[]):aX asked zs ys="word":=by
 unfold aX;rw[if_pos h,if_pos e]
theorem sh{asked:Nat}{zs ys:List Str}(h:¬(asked<4∧ys=[]))(b:(bH asked zs ys).all aD=false):aX asked zs ys="sign":=by
 unfold bH at b
 unfold aX
 by_cases h4:asked<4
 ·rw[if_pos h4] at b ⊢
  rw[if_neg fun e=>h ⟨h4,e⟩,if_pos b]
 ·rw[if_neg h4] at b ⊢
  rw[if_pos b]
theorem nP{asked:Nat}{zs ys:List Str}(h:¬(asked<4∧ys=[]))(b:(bH asked zs ys).all aD=true)(e:zs=[]):aX asked zs ys="text":=by
 unfold bH at b
 unfold aX
 by_cases h4:asked<4
 ·rw[if_pos h4] at b ⊢
  rw[if_neg fun e=>h ⟨h4,e⟩,if_neg (by rw[b];decide),if_pos e]
 ·rw[if_neg h4] at b ⊢
  rw[if_neg (by rw[b];decide),if_pos e]
theorem rq{asked:Nat}{zs ys:List Str}(h:¬(asked<4∧ys=[]))(b:(bH asked zs ys).all aD=true)(e:zs≠ []):aX asked zs ys=(if asked=6∧40<zs.length then Str.ofString "many" else Str.ofString ""):=by
 unfold bH at b
 unfold aX
 by_cases h4:asked<4
 ·rw[if_pos h4] at b ⊢
  rw[if_neg fun e=>h ⟨h4,e⟩,if_neg (by rw[b];decide),if_neg e,if_neg (by lia)]
 ·rw[if_neg h4] at b ⊢
  rw[if_neg (by rw[b];decide),if_neg e]
theorem Txt.app{x y:List Str}(hx:Txt x)(hy:Txt y):Txt (x++y):=fun z h=>(List.mem_append.mp h).elim (hx z) (hy z)
section
variable{P:Program}{w:World}{K:PySem.W.Frag}{mg:Str→Option Value}{base:Heap}
theorem scDue:FnScope ["asked","text","word","some"] ["asked","text","word"] (aw gP):=fsc_
theorem scRight:FnScope ["text","word","ways","handed","asked","told","due"] ["text","word","ways"] (aw gz):=fsc_
theorem rY(M:Md K mg)(B:Bl mg)(F:FF K "_law_due" gP)(F_law_is_sign:Fn P w K mg base ai "_law_is_sign" 1 ["sign"] kC):Fn P w K mg base ai "_law_due" 2 ["asked","text","word"] lD:=by
 refine aL M F scDue (fun _ _ _ _ _ _=>cR fun _ _ _=>rfl) (fun vs H Q E h=>?_) (fun f cdv A outer s H vs Q E hr h=>?_)
 ·obtain⟨d,a,b,zs,ys,rfl,_⟩:=h;rfl
 ·obtain⟨d,a,b,zs,ys,rfl,ha,hb,tz,ty,zl,yl,hd,k⟩:=h
  refine⟨_,(ae (aF (PW.pt (ie (aE e6 (pv 0) ad (aC _)) (iM (aE (hG (by exact hr)) (pv 2) (aY ac) (aC _))))) (ah (ar aO)) aM)
   (ae (am (i:=3) scDue.nd rfl (.inl rfl) (pv 1))
   (ae (aF (aE e6 (pv 0) ad (aC _)) (ah (am (i:=3) scDue.nd rfl (.inl rfl) (ak bw (pv 1) (pv 2)))) aM)
   (ae (aF (aE (kj (by exact hr)) (bR ["asked","text","word","some"] rfl (cj (pv 3)) (fun _=>by exact(bW (cx (bt (ag F_law_is_sign hr aj (aa (pv 4) ac)))))) (fun _=>by exact(pv 4))) (aY ac) (aC _)) (ah (ar aO)) aM)
   (ae (aF (aE (hG (by exact hr)) (pv 1) (aY ac) (aC _)) (ah (ar aO)) aM)
   (ah (ar (aZ bh (aY (aa aO (aa aO ac))) (pj B.int (dU (cZ bd (pv 0) ad (aC _)) (dX (cZ dy (aB B.len (pv 1)) ad (aC _))))) (fun _ _=>rfl))))))))),?_⟩
  have fin:∀(n:Str) (H':Hp),aX d zs ys=n→Same H H'→Q (.str n) H':=fun n H' e s'=>by rw[←e];exact k H' s'
  refine dP (fun σ' H'=>σ'=[some (.int (d:Int)),some (.ref a),some (.ref b),none]∧Same H H'∧¬(d<4∧ys=[])) ?_ fun R hR=>?_
  ·rintro σ' H1 ⟨rfl,s1,hne⟩
   refine bY ⟨_,rfl,?_⟩
   refine dP (fun σ' H'=>∃so,σ'=[some (.int (d:Int)),some (.ref a),some (.ref b),some (.ref so)]∧Same H H'∧H' so=some (.lst ((bH d zs ys).map V.str))) ?_ fun R hR=>?_
   ·rintro σ' H2 ⟨so,rfl,s2,hso⟩
    have tq:Txt (bH d zs ys):=by unfold bH;split;exact tz.app ty;exact tz
    have lq:(bH d zs ys).length≤500:=by unfold bH;split;rw[List.length_append];lia;lia
    have db:=sh (zs:=zs) hne
    have dt:=nP (zs:=zs) hne
    have dl:=rq (zs:=zs) hne
    generalize bH d zs ys=qs at hso tq lq db dt dl
    refine dP (fun σ' H'=>σ'=[some (.int (d:Int)),some (.ref a),some (.ref b),some (.ref so)]∧Same H H'∧qs.all aD=true) ?_ fun R hR=>?_
    ·rintro σ' H3 ⟨rfl,s3,hall⟩
     refine dP (fun σ' H'=>σ'=[some (.int (d:Int)),some (.ref a),some (.ref b),some (.ref so)]∧Same H H'∧zs≠ []) ?_ fun R hR=>?_
     ·rintro σ' H4 ⟨rfl,s4,hz⟩
      refine⟨by show 2≤sizeLine;decide,fun l hl=>?_⟩
      have s5:=s4.trans (Same.upd (o:=.lst [V.str "",.str "many"]) hl)
      have hl5:=af (H:=H4) (a:=l) (o:=.lst [V.str "",.str "many"])
      have e:=dl hall hz
      generalize L2.upd H4 l (.lst [V.str "",.str "many"])=H5 at s5 hl5 ⊢
      refine⟨_,rfl,rfl,_,rfl,?_⟩
      by_cases h6:d=6
      ·subst h6
       refine aQ ⟨_,rfl,a,_,rfl,SqL.of (s5 _ _ ha),_,_,rfl,rfl,?_⟩
       rw[List.length_map]
       by_cases h40:40<zs.length
       ·rw[if_pos ⟨rfl,h40⟩] at e
        refine⟨_,rfl,?_⟩
        rw[decide_eq_true (show(zs.length:Int)>40 by lia)]
        exact⟨l,_,_,_,rfl,rfl,SqL.of hl5,bD (j:=1) rfl,fin _ _ e s5⟩
       ·rw[if_neg fun q=>h40 q.2] at e
        refine⟨_,rfl,?_⟩
        rw[decide_eq_false (show¬(zs.length:Int)>40 by lia)]
        exact⟨l,_,_,_,rfl,rfl,SqL.of hl5,bD (j:=0) rfl,fin _ _ e s5⟩
      ·rw[if_neg fun q=>h6 q.1] at e
       rw[decide_eq_false (fun q=>h6 (by have:=V.int.inj q;lia))]
       exact aA ⟨_,rfl,l,_,_,_,rfl,rfl,SqL.of hl5,bD (j:=0) rfl,fin _ _ e s5⟩
     ·refine kT (i:=1) rfl (s3 _ _ ha) tz fun H4 s4=>?_
      by_cases hz:zs=[]
      ·rw[decide_eq_true hz]
       exact aQ (fin _ _ (dt hall hz) (s3.trans s4))
      ·rw[decide_eq_false hz]
       exact aA (hR _ _ ⟨rfl,s3.trans s4,hz⟩)
    ·refine⟨_,rfl,so,rfl,⟨_,SqL.of hso⟩,fun D hD cb=>?_⟩
     refine iF (K:=K) (a:=so) (xs:=qs.map V.str) (fun i ys' H3=>ys'=((qs.take i).filter fun z=>!aD z).map V.str∧Same H2 H3∧H3 D=some (.lst ys')) (by rw[List.length_map];exact ce (by lia)) ?_ ?_ ?_ ?_ ?_
     ·exact⟨rfl,Same.upd hD,af⟩
     ·rintro i ys' H3 ⟨rfl,_⟩
      rw[List.length_map]
      exact Nat.le_trans (List.length_filter_le _ _) (by rw[List.length_take];lia)
     ·rintro i ys' H3 _ ⟨_,s3,_⟩;exact SqL.of (s3 _ _ hso)
     ·rintro i x ys' H3 hx ⟨rfl,s3,hD3⟩
      rw[List.getElem?_map] at hx
      cases q:qs[i]? with
      | none=>rw[q] at hx;cases hx
      | some z=>
        rw[q] at hx
        obtain rfl:V.str z=x:=Option.some.inj hx
        have stp:(qs.take (i+1)).filter (fun z=>!aD z)=(qs.take i).filter (fun z=>!aD z)++(if(!aD z)=true then [z] else []):=by
         rw[List.take_add_one,q,List.filter_append]
         congr 1
         by_cases hf:(!aD z)=true <;> simp[hf]
        refine⟨_,rfl,z,rfl,(tq z (List.mem_of_getElem? q)).1,aD z,rfl,?_⟩
        cases hc:aD z with
        | true=>
          refine aA ⟨?_,s3,hD3⟩
          rw[stp,if_neg (by rw[hc];decide),List.append_nil]
        | false=>
          refine aQ ⟨_,rfl,hD3,?_,fun x o e=>by rw[ap (aW e hD)];exact s3 _ _ e,af⟩
          rw[stp,if_pos (by rw[hc];rfl),List.map_append];rfl
     ·rintro ys' H3 ⟨rfl,s3,hD3⟩
      rw[List.length_map,List.take_length] at hD3
      refine⟨Nat.zero_le _,fun l hl=>?_⟩
      have s4:=Same.upd (o:=.lst []) hl
      refine my (ws:=qs.filter fun z=>!aD z) (fun z hz=>tq z (List.mem_filter.mp hz).1) (s4 _ _ hD3) af ⟨_,rfl,?_⟩
      have sA:=(s2.trans s3).trans s4
      by_cases hb2:(qs.filter fun z=>!aD z)=[]
      ·rw[decide_eq_true hb2]
       exact aA (hR _ _ ⟨rfl,sA,(mh qs).mp hb2⟩)
      ·rw[decide_eq_false hb2]
       refine aQ (fin _ _ (db ?_) sA)
       cases q:qs.all aD with
       | false=>rfl
       | true=>exact absurd ((mh qs).mpr q) hb2
   ·refine⟨_,rfl,_,_,rfl,rfl,_,rfl,?_⟩
    by_cases h4:d<4
    ·rw[decide_eq_true (show(d:Int)<4 by lia)]
     refine aQ ⟨_,rfl,_,rfl,a,b,_,_,rfl,rfl,s1 _ _ ha,s1 _ _ hb,by rw[List.length_map,List.length_map];exact sz (by lia),fun l hl=>hR _ _ ⟨l,rfl,s1.trans (Same.upd hl),?_⟩⟩
     unfold bH
     rw[af,if_pos h4,List.map_append]
    ·rw[decide_eq_false (show¬(d:Int)<4 by lia)]
     refine aA (hR _ _ ⟨a,rfl,s1,?_⟩)
     unfold bH
     rw[if_neg h4];exact s1 _ _ ha
  ·refine⟨_,rfl,_,_,rfl,rfl,_,rfl,?_⟩
   by_cases h4:d<4
   ·rw[decide_eq_true (show(d:Int)<4 by lia)]
    refine aQ (kT (i:=2) rfl hb ty fun H1 s1=>?_)
    by_cases hy:ys=[]
    ·rw[decide_eq_true hy]
     exact aQ (fin _ _ (ox h4 hy) s1)
    ·rw[decide_eq_false hy]
     exact aA (hR _ _ ⟨rfl,s1,fun q=>hy q.2⟩)
   ·rw[decide_eq_false (show¬(d:Int)<4 by lia)]
    exact aA (aA (hR _ _ ⟨rfl,Same.refl _,fun q=>h4 q.1⟩))
theorem qb{a:Addr}{xs:List V}{g:TG}{tb:TS}{D:Ends}{σ:St}{H:Hp}(Pv:Nat→St→Hp→Prop)(h0:Pv 0 σ H)(hl:∀i σ H,i≤xs.length→Pv i σ H→SqT K H a xs)(hs:∀(D2:Ends) i x σ H,(∀σ' H',Pv (i+1) σ' H'→D2.nx σ' H')→xs[i]?=some x→Pv i σ H→g x σ H fun σ2 H2=>tb D2 σ2 H2)(hd:∀σ H,Pv xs.length σ H→D.nx σ H):FW (dN K a) g tb D σ H:=
 oD Pv h0 hl (fun i x σ H hx p=>hs _ i x σ H (fun _ _ h=>h) hx p) hd
theorem qy(M:Md K mg)(B:Bl mg)(F:FF K "_law_right" gz)(F_law_refusal:Fn P w K mg base ai "_law_refusal" 7 ["asked","text","word"] kP)(F_law_due:Fn P w K mg base ai "_law_due" 2 ["asked","text","word"] lD):Fn P w K mg base ai "_law_right" 8 ["text","word","ways"] lU:=by
 refine aL M F scRight (fun _ _ _ _ _ _=>cR fun _ _ _=>rfl) (fun vs H Q E h=>?_) (fun f cdv A outer s H vs Q E hr h=>?_)
 ·obtain⟨a,b,wy,zs,ys,ws,rfl,_⟩:=h;rfl
 ·obtain⟨a,b,wy,zs,ys,ws,rfl,ha,hb,hw,tz,ty,zl,yl,hk,k⟩:=h
  refine⟨_,(ae (am (i:=3) scRight.nd rfl (.inl rfl) (aY (aa (eH B.list (pv 0)) (aa (eH B.list (pv 1)) ac))))
   (ae (bM PassesOwn.never rfl (q9 (pv 2)) (bz (i:=4) scRight.nd rfl (.inl rfl))
   (ae (am (i:=5) scRight.nd rfl (.inl rfl) (ag F_law_refusal hr aj (aa (pv 4) (aa (aZ bh (pv 3) ad (fun _ _=>rfl)) (aa (aZ bh (pv 3) ad (fun _ _=>rfl)) ac)))))
   (ae (am (i:=6) scRight.nd rfl (.inl rfl) (ag F_law_due hr aj (aa (pv 4) (aa (pv 0) (aa (pv 1) ac)))))
   (ae (aF (PW.pt (ie (aE eR (pv 5) (pv 6) (aC _)) (iM (PW.pt (dF (aE eR (pv 4) ad (aC _)) (dF (aE eR (pv 5) aO (aC _)) (fy (aE eR (pv 6) aO (aC _))))))))) (ah (ar ck)) aM)
   (ah (aF (aE (kj (by exact hr)) (pv 3) (aY (aa (pv 0) (aa (pv 1) ac))) (aC _)) (ah (ar ck)) aM))))))
   (ah (ar ck)))),?_⟩
  refine bY ⟨_,rfl,a,_,rfl,SqL.of ha,fun h1 hh1=>?_⟩
  have s1:=Same.upd (o:=.lst (zs.map V.str)) hh1
  have hh11:=af (H:=H) (a:=h1) (o:=.lst (zs.map V.str))
  generalize L2.upd H h1 (.lst (zs.map V.str))=H1 at s1 hh11 ⊢
  refine⟨_,rfl,b,_,rfl,SqL.of (s1 _ _ hb),fun h2 hh2=>?_⟩
  have s2:=Same.upd (o:=.lst (ys.map V.str)) hh2
  have hh22:=af (H:=H1) (a:=h2) (o:=.lst (ys.map V.str))
  generalize L2.upd H1 h2 (.lst (ys.map V.str))=H2 at s2 hh22 ⊢
  refine⟨by show 2≤sizeLine;decide,fun hd hhd=>?_⟩
  have s3:=Same.upd (o:=.lst [V.ref h1,.ref h2]) hhd
  have hd3:=af (H:=H2) (a:=hd) (o:=.lst [V.ref h1,.ref h2])
  generalize L2.upd H2 hd (.lst [V.ref h1,.ref h2])=H3 at s3 hd3 ⊢
  have s03:=(s1.trans s2).trans s3
  have hh13:=s3 _ _ (s2 _ _ hh11)
  have hh23:=s3 _ _ hh22
  have hw3:=s03 _ _ hw
  refine fN ⟨_,rfl,wy,rfl,⟨_,SqT.of hw3⟩,?_⟩
  refine qb (K:=K) (a:=wy) (xs:=aT ws) (fun i σ H4=>Same H3 H4∧∃v4 v5 v6,σ=[some (.ref a),some (.ref b),some (.ref wy),some (.ref hd),v4,v5,v6]) ⟨Same.refl _,_,_,_,rfl⟩ (fun i σ H4 _ h=>SqT.of (h.1 _ _ hw3)) ?_ ?_
  ·rintro D1 i x σ H4 nx1 hx ⟨s4,w4,w5,w6,rfl⟩
   obtain⟨d,hd',rfl⟩:=oO hx
   have d7:=hk d (List.mem_of_getElem? hd')
   have hd4:=s4 _ _ hd3
   have s04:=s03.trans s4
   refine bY ⟨_,rfl,_,rfl,hd,_,_,_,rfl,rfl,SqL.of hd4,bD (j:=0) rfl,_,rfl,hd,_,_,_,rfl,rfl,SqL.of hd4,bD (j:=1) rfl,d,h1,h2,zs,ys,rfl,s4 _ _ hh13,s4 _ _ hh23,tz,ty,zl,yl,d7,fun n H5 hn s5=>?_⟩
   have s05:=s04.trans s5
   refine bY ⟨_,rfl,_,rfl,_,rfl,d,a,b,zs,ys,rfl,s05 _ _ ha,s05 _ _ hb,tz,ty,zl,yl,d7,fun H6 s6=>?_⟩
   have s06:=s05.trans s6
   have s36:=(s4.trans s5).trans s6
   refine qz (fun R hR=>?_) fun H7 s7=>?_
   ·rcases hn with e | ⟨rfl,rfl,e⟩
    ·rw[←e]
     refine qg (fun R' hR'=>⟨_,rfl,_,rfl,rfl,_,rfl,?_⟩) fun H7 s7=>hR _ s7
     rw[decide_eq_true rfl]
     exact hR' _ (Same.refl _)
    ·rw[e]
     refine⟨_,rfl,_,rfl,rfl,_,rfl,aQ ?_⟩
     exact⟨_,rfl,rfl,_,rfl,aA ⟨_,rfl,rfl,_,rfl,aA ⟨_,rfl,rfl,_,rfl,hR _ (Same.refl _)⟩⟩⟩
   refine gd (fun R hR=>?_) fun H8 s8=>nx1 _ _ ⟨(s36.trans s7).trans s8,_,_,_,rfl⟩
   refine⟨_,rfl,_,rfl,_,rfl,by show 2≤sizeLine;decide,fun l hl=>?_⟩
   have s8:=Same.upd (o:=.lst [V.ref a,.ref b]) hl
   have s38:=(s36.trans s7).trans s8
   have s08:=(s06.trans s7).trans s8
   exact pC tz ty (s38 _ _ hd3) (s38 _ _ hh13) (s38 _ _ hh23) af (s08 _ _ ha) (s08 _ _ hb) ⟨_,rfl,hR _ s8⟩
  ·rintro σ H4 ⟨s4,w4,w5,w6,rfl⟩
   exact k H4 (s03.trans s4)
end
abbrev gE:Stmt:=aN 53
def gl(K:PySem.W.Frag):Sp:=fun vs H Q _=>∃(a:Addr) (ns:List Int),vs=[.ref a]∧SqL K H a (ns.map V.int)∧ns.length≤63∧∀H',Q (.bl true) H'
theorem pS{K:PySem.W.Frag}{σ:St}{H:Hp}{a:Addr}{ns:List Int}{n:Int}{R:It→Hp→Prop}(hi:σ[0]?=some (some (.ref a)))(hS:SqL K H a (ns.map V.int))(hn:0≤n)(hn2:n≤100)(k:∀(b:Addr) (xs:List Int) (H':Hp),H' b=some (.lst (xs.map V.int))→Same H H'→R (cn K b) H'):jE K (dz im (eY (eL K) (bK 0) eC (et (tC (.int n)))) (gU (cX (d9 (io K) [] E0 (cX (bK 0) (cX (tC (.int 0)) dI))) dI))) σ H R:=by
 refine⟨_,hi,n,rfl,a,_,rfl,hS,fun l0 hl0=>?_⟩
 have e1:cg (ns.map V.int) none (some n)=(ns.take n.toNat).map V.int:=by rw[dk,dD,lH _ _ hn]
 rw[e1] at*
 have s1:=Same.upd (o:=.lst ((ns.take n.toNat).map V.int)) hl0
 refine⟨_,hi,a,ns,rfl,s1.seq hS,fun c=>⟨by show 1≤sizeLine;decide,fun l1 hl1=>?_⟩⟩
 have s2:=Same.upd (o:=.lst [V.int c]) hl1
 refine⟨l0,l1,_,_,rfl,rfl,s2 _ _ af,af,by rw[List.length_map,List.length_take,List.length_singleton];exact sz (by lia),fun b hb=>?_⟩
 refine⟨b,rfl,⟨_,SqL.of af⟩,k b (ns.take n.toNat++[c]) _ ?_ ((s1.trans s2).trans (Same.upd hb))⟩
 rw[af,List.map_append];rfl
theorem nE{xs:List Int}{i:Nat}{x:V}(h:(xs.map V.int)[i]?=some x):∃z:Int,x=.int z:=by
 rw[List.getElem?_map] at h
 cases e:xs[i]? with
 | none=>rw[e] at h;cases h
 | some z=>rw[e] at h;exact⟨z,(Option.some.inj h).symm⟩
theorem pr{te:TE}{g:TG}{aJ:TS}{D:Ends}{σ:St}{H:Hp}(h:te σ H fun x H1=>g x σ H1 fun σ2 H2=>aJ D σ2 H2):cJ (eh te g) aJ D σ H:=h
def TY(H:Hp)(ys:List V):Prop:=∀y∈ys,∃(x:Addr) (zs:List Str),y=.ref x∧H x=some (.lst (zs.map V.str))∧Txt zs∧zs.length≤250
theorem TY.nil{H:Hp}:TY H []:=fun y hy=>(nomatch hy)
theorem TY.cons{H:Hp}{ys:List V}{x:Addr}{zs:List Str}(hx:H x=some (.lst (zs.map V.str)))(lz:Txt zs)(l:zs.length≤250)(h:TY H ys):TY H (.ref x::ys):=fun y hy=>(List.mem_cons.mp hy).elim (fun e=>⟨x,zs,e,hx,lz,l⟩) (h y)
theorem TY.same{H H':Hp}{ys:List V}(h:TY H ys)(s:Same H H'):TY H' ys:=fun y hy=>let ⟨x,t,e,hx,r⟩:=h y hy;⟨x,t,e,s _ _ hx,r⟩
theorem fI{H:Hp}{p a:Addr}{zs:List Str}(h:Hand H p)(ha:H a=some (.lst (zs.map V.str))):a≠p:=by
 obtain⟨x,y,n,e⟩:=h
 refine cK ha e fun z=>?_
 have z':zs.map V.str=[.int x,.int y,.int n]:=HO.lst.inj z
 cases zs with
 | nil=>cases z'
 | cons c t=>cases z'
section
variable{P:Program}{w:World}{K:PySem.W.Frag}{mg:Str→Option Value}{base:Heap}
theorem scLaw:FnScope ["script","cell","deck","text","word","long","bad","worse","one","other"] ["script"] (aw gE):=fsc_
theorem nG(M:Md K mg)(B:Bl mg)(F:FF K "law" gE)(F_law_cell_at:Fn P w K mg base ai "_law_cell_at" 1 ["script","k"] (io K))(F_law_deck:Fn P w K mg base ai "_law_deck" 1 ["cell"] lV)(F_law_take:Fn P w K mg base ai "_law_take" 1 ["deck","many"] cA)(F_law_pair:Fn P w K mg base ai "_law_pair" 4 ["deck","long"] iQ)(F_law_spoilt:Fn P w K mg base ai "_law_spoilt" 3 ["deck","signs"] lB)(F_law_right:Fn P w K mg base ai "_law_right" 8 ["text","word","ways"] lU):Fn P w K mg base ai "law" 9 ["script"] (gl K):=by
 refine aL M F scLaw (fun _ _ _ _ _ _=>bj fun _=>rfl) (fun vs H Q E h=>?_) (fun f cdv A outer s H vs Q E hr h=>?_)
 ·obtain⟨a,ns,rfl,_⟩:=h;rfl
 ·obtain⟨a,ns,rfl,hS,hlen,k⟩:=h
  refine⟨_,(ae (bM PassesOwn.never rfl (cj (ak bw (aS aU (pv 0) bb (aP ad)) (aY (aa (ag F_law_cell_at hr aj (aa (pv 0) (aa ad ac))) ac)))) (bz (i:=1) scLaw.nd rfl (.inl rfl))
   (ae (am (i:=2) scLaw.nd rfl (.inl rfl) (ag F_law_deck hr aj (aa (pv 1) ac)))
   (ae (iL (ag F_law_pair hr aj (aa (pv 2) (aa ck ac))) (ir rfl (dQ (bz (i:=3) scLaw.nd rfl (.inl rfl)) (dQ (bz (i:=4) scLaw.nd rfl (.inl rfl)) ib))))
   (ae (am (i:=3) scLaw.nd rfl (.inl rfl) (aS aU (pv 3) bb (aP ad)))
   (ae (am (i:=5) scLaw.nd rfl (.inl rfl) (aS aU (ak kw (pv 3) ad) bb (aP (aZ bh (aY (aa ad (aa ad (aa (ak aV ad (ag F_law_take hr aj (aa (pv 2) (aa ad ac)))) ac)))) (ag F_law_take hr aj (aa (pv 2) (aa ad ac))) (fun _ _=>rfl)))))
   (ae (am (i:=6) scLaw.nd rfl (.inl rfl) (ag F_law_spoilt hr aj (aa (pv 2) (aa (pv 3) ac))))
   (ae (am (i:=7) scLaw.nd rfl (.inl rfl) (ag F_law_spoilt hr aj (aa (pv 2) (aa (pv 4) ac))))
   (ae (bM PassesOwn.never rfl (cj (aY (aa (pv 3) (aa (pv 6) (aa (aY ac) (aa (ag F_law_spoilt hr aj (aa (pv 2) (aa (pv 5) ac))) ac)))))) (bz (i:=8) scLaw.nd rfl (.inl rfl))
   (ae (bM PassesOwn.never rfl (cj (aY (aa (pv 4) (aa (pv 7) (aa (aY ac) ac))))) (bz (i:=9) scLaw.nd rfl (.inl rfl))
   (ah (aF (cx (bt (ag F_law_right hr aj (aa (pv 8) (aa (pv 9) (aa (cV (aa ad (aa ad (aa ad (aa ad ac))))) ac)))))) (ah (ar ck)) aM)))
   (ah (aF (cx (bt (ag F_law_right hr aj (aa (pv 8) (aa (aY ac) (aa (cV (aa ad (aa ad (aa ad ac)))) ac)))))) (ah (ar ck)) aM))))
   (ah (aF (PW.pt (dF (cx (bt (ag F_law_right hr aj (aa (pv 5) (aa (pv 4) (aa (cV (aa ad (aa ad ac))) ac)))))) (fy (cx (bt (ag F_law_right hr aj (aa (pv 3) (aa (pv 4) (aa (cV (aa ad (aa ad ac))) ac))))))))) (ah (ar ck)) aM))))))))))
   (ah (ar ck))),?_⟩
  refine fN (pS (K:=K) (n:=8) rfl hS (by decide) (by decide) fun b cs H1 hb1 _=>?_)
  refine gX (K:=K) (a:=b) (xs:=cs.map V.int) (fun i σ H2=>H2 b=some (.lst (cs.map V.int))∧∃v1 v2 v3 v4 v5 v6 v7 v8 v9,σ=[some (.ref a),v1,v2,v3,v4,v5,v6,v7,v8,v9]) ⟨hb1,_,_,_,_,_,_,_,_,_,rfl⟩ (fun i σ H2 _ h2=>SqL.of h2.1) ?_ ?_
  ·rintro D1 i x σ H2 nx1 hx ⟨hb2,v1,v2,v3,v4,v5,v6,v7,v8,v9,rfl⟩
   obtain⟨c,rfl⟩:=nE hx
   refine bY ⟨_,rfl,c,rfl,fun p H3 hp0 hp3 s3=>?_⟩
   have hb3:=s3 _ _ hb2
   have nb:b≠p:=aW hb2 hp0
   refine pr ⟨_,rfl,p,rfl,hp3,fun t0 u ta ua g H4 hta0 hua0 hg0 hta hua hg lt0 t10 tl0 lu u1 ul hp4 k4=>?_⟩
   have hb4:=k4 _ _ hb3 nb
   refine⟨g,_,rfl,SqT.of hg,rfl,_,_,rfl,_,_,rfl,rfl,?_⟩
   refine bY ⟨_,rfl,30,rfl,ta,_,rfl,SqL.of hta,fun tx htx=>?_⟩
   rw[bN (by decide)]
   have s5:=Same.upd (o:=.lst ((t0.take (30:Int).toNat).map sg)) htx
   have htx5:=af (H:=H4) (a:=tx) (o:=.lst ((t0.take (30:Int).toNat).map sg))
   have tl:(t0.take (30:Int).toNat).length≤30:=by rw[List.length_take,show(30:Int).toNat=30 from rfl];lia
   have lt:Low (t0.take (30:Int).toNat):=lt0.take _
   generalize t0.take (30:Int).toNat=t at s5 htx5 tl lt ⊢
   generalize L2.upd H4 tx (.lst (t.map sg))=H5 at s5 htx5 ⊢
   have hp5:=hp4.same s5
   have hb5:=s5 _ _ hb4
   have hua5:=s5 _ _ hua
   have rlen:=lM 41 t
   refine bY ⟨_,rfl,tx,41,_,rfl,rfl,htx5,by decide,by decide,by rw[List.length_map];exact Nat.le_trans (show t.length*(41:Int).toNat≤5000 by show t.length*41≤5000;lia) (by decide),fun l1 hl1=>?_⟩
   rw[jT,show(41:Int).toNat=41 from rfl]
   have s6:=Same.upd (o:=.lst ((List.replicate 41 t).flatten.map sg)) hl1
   have hl16:=af (H:=H5) (a:=l1) (o:=.lst ((List.replicate 41 t).flatten.map sg))
   have lrep:Low (List.replicate 41 t).flatten:=lt.rep _
   generalize (List.replicate 41 t).flatten=rp at rlen s6 hl16 lrep ⊢
   generalize L2.upd H5 l1 (.lst (rp.map sg))=H6 at s6 hl16 ⊢
   have hp6:=hp5.same s6
   refine⟨_,rfl,p,100,rfl,hp6,by decide,fun r H7 r0 r1 hp7 k7=>⟨_,_,rfl,rfl,by show 3≤sizeLine;decide,fun l2 hl2=>?_⟩⟩
   have k57:Keep p H5 H7:=fun x o h n=>k7 _ _ (s6 _ _ h) n
   have hl17:=k7 _ _ hl16 (au hp6 hl16)
   have s8:=Same.upd (o:=.lst [V.int 40,.int 41,.int (41+r)]) hl2
   have hl28:=af (H:=H7) (a:=l2) (o:=.lst [V.int 40,.int 41,.int (41+r)])
   have nl2:l2≠p:=(hp7.ne hl2).symm
   generalize L2.upd H7 l2 (.lst [V.int 40,.int 41,.int (41+r)])=H8 at s8 hl28 ⊢
   have hp8:=hp7.same s8
   refine⟨_,rfl,p,3,rfl,hp8,by decide,fun r2 H9 q0 q1 hp9 k9=>?_⟩
   obtain⟨m,m1,m2,hat⟩:∃m:Int,0≤m∧m≤140∧bF [V.int 40,.int 41,.int (41+r)] r2=some (.int m):=by
    have:r2=0∨r2=1∨r2=2:=by lia
    rcases this with h | h | h
    ·subst h;exact⟨40,by decide,by decide,rfl⟩
    ·subst h;exact⟨41,by decide,by decide,rfl⟩
    ·subst h;exact⟨41+r,by lia,by lia,rfl⟩
   have hl18:=s8 _ _ hl17
   have hl19:=k9 _ _ hl18 (au hp8 hl18)
   refine⟨l2,_,_,_,rfl,rfl,SqL.of (k9 _ _ hl28 nl2),hat,_,rfl,l1,_,rfl,SqL.of hl19,fun lo hlo=>?_⟩
   rw[bN m1]
   have s10:=Same.upd (o:=.lst ((rp.take m.toNat).map sg)) hlo
   have hlo10:=af (H:=H9) (a:=lo) (o:=.lst ((rp.take m.toNat).map sg))
   have lgl:(rp.take m.toNat).length≤140:=by rw[List.length_take];lia
   have llg:Low (rp.take m.toNat):=lrep.take _
   generalize rp.take m.toNat=lg at s10 hlo10 lgl llg ⊢
   generalize L2.upd H9 lo (.lst (lg.map sg))=H10 at s10 hlo10 ⊢
   have hp10:=hp9.same s10
   have k510:Keep p H5 H10:=fun x o h n=>s10 _ _ (k9 _ _ (s8 _ _ (k57 _ _ h n)) n)
   have hb10:=k510 _ _ hb5 nb
   have htx10:=k510 _ _ htx5 (au hp5 htx5)
   have hua10:=k510 _ _ hua5 (au hp5 hua5)
   refine bY ⟨_,rfl,_,rfl,p,tx,t,rfl,hp10,htx10,lt,by lia,fun y1 a1 H11 _ ha1 ty1 yl1 hp11 k11=>?_⟩
   have hua11:=k11 _ _ hua10 (au hp10 hua10)
   refine bY ⟨_,rfl,_,rfl,p,ua,u,rfl,hp11,hua11,lu,by lia,fun y2 a2 H12 _ ha2 ty2 yl2 hp12 k12=>?_⟩
   have k1012:Keep p H10 H12:=fun x o h n=>k12 _ _ (k11 _ _ h n) n
   have ha112:=k12 _ _ ha1 (fI hp11 ha1)
   have htx12:=k1012 _ _ htx10 (au hp10 htx10)
   have hua12:=k1012 _ _ hua10 (au hp10 hua10)
   have hlo12:=k1012 _ _ hlo10 (au hp10 hlo10)
   have hb12:=k1012 _ _ hb10 nb
   refine fN ⟨_,rfl,_,rfl,Nat.zero_le _,fun e0 he0=>?_⟩
   have s13:=Same.upd (o:=.lst []) he0
   have he013:=af (H:=H12) (a:=e0) (o:=.lst [])
   have hp13:=hp12.same s13
   generalize L2.upd H12 e0 (.lst [])=H13 at s13 he013 hp13 ⊢
   have hlo13:=s13 _ _ hlo12
   refine⟨_,rfl,_,rfl,p,lo,lg,rfl,hp13,hlo13,llg,by lia,fun y3 a3 H14 _ ha3 ty3 yl3 hp14 k14=>?_⟩
   have k1214:Keep p H12 H14:=fun x o h n=>k14 _ _ (s13 _ _ h) n
   have htx14:=k1214 _ _ htx12 (au hp12 htx12)
   have hua14:=k1214 _ _ hua12 (au hp12 hua12)
   have hlo14:=k1214 _ _ hlo12 (au hp12 hlo12)
   have hb14:=k1214 _ _ hb12 nb
   have ha114:=k1214 _ _ ha112 (fI hp12 ha112)
   have ha214:=k1214 _ _ ha2 (fI hp12 ha2)
   have he014:=k14 _ _ he013 (fI (zs:=[]) hp13 he013)
   have htxz:H14 tx=some (.lst ((t.map aG).map V.str)):=by rw[cr];exact htx14
   have huaz:H14 ua=some (.lst ((u.map aG).map V.str)):=by rw[cr];exact hua14
   have hloz:H14 lo=some (.lst ((lg.map aG).map V.str)):=by rw[cr];exact hlo14
   have tl':(t.map aG).length≤250:=by rw[List.length_map];lia
   have ul':(u.map aG).length≤250:=by rw[List.length_map];lia
   have lgl':(lg.map aG).length≤250:=by rw[List.length_map];lia
   have X14:TY H14 [.ref tx,.ref a1,.ref e0,.ref a3]:=.cons htxz (cP lt) tl' (.cons ha114 ty1 (by lia) (.cons (zs:=[]) he014 (fun z h=>(nomatch h)) (by decide) (.cons ha3 ty3 (by lia) .nil)))
   refine⟨by show 4≤sizeLine;decide,fun l8 hl8=>?_⟩
   have s15:=Same.upd (o:=.lst [V.ref tx,.ref a1,.ref e0,.ref a3]) hl8
   have hl815:=af (H:=H14) (a:=l8) (o:=.lst [V.ref tx,.ref a1,.ref e0,.ref a3])
   have X15:=X14.same s15
   generalize L2.upd H14 l8 (.lst [V.ref tx,.ref a1,.ref e0,.ref a3])=H15 at s15 hl815 X15 ⊢
   generalize [V.ref tx,.ref a1,.ref e0,.ref a3]=xs at hl815 X15 ⊢
   refine⟨l8,rfl,⟨_,SqL.of hl815⟩,gX (K:=K) (a:=l8) (xs:=xs) (fun j σ H16=>Same H15 H16∧∃v8 v9,σ=[some (.ref a),some (.int c),some (.ref p),some (.ref tx),some (.ref ua),some (.ref lo),some (.ref a1),some (.ref a2),v8,v9]) ⟨Same.refl _,_,_,rfl⟩ (fun j σ H16 _ h=>SqL.of (h.1 _ _ hl815)) ?_ ?_⟩
   ·rintro D2 j y σ H16 nx2 hy ⟨s16,w8,w9,rfl⟩
    obtain⟨x1,zs,rfl,hx1,tz,zl⟩:=X15 y (List.mem_of_getElem? hy)
    have hx116:=s16 _ _ hx1
    have s1416:=s15.trans s16
    refine fN ⟨_,rfl,_,rfl,Nat.zero_le _,fun e1 he1=>?_⟩
    have s17:=Same.upd (o:=.lst []) he1
    have he117:=af (H:=H16) (a:=e1) (o:=.lst [])
    generalize L2.upd H16 e1 (.lst [])=H17 at s17 he117 ⊢
    have s1417:=s1416.trans s17
    have Y17:TY H17 [.ref ua,.ref a2,.ref e1]:=.cons (s1417 _ _ huaz) (cP lu) ul' (.cons (s1417 _ _ ha214) ty2 (by lia) (.cons (zs:=[]) he117 (fun z h=>(nomatch h)) (by decide) .nil))
    refine⟨by show 3≤sizeLine;decide,fun l9 hl9=>?_⟩
    have s18:=Same.upd (o:=.lst [V.ref ua,.ref a2,.ref e1]) hl9
    have hl918:=af (H:=H17) (a:=l9) (o:=.lst [V.ref ua,.ref a2,.ref e1])
    have Y18:=Y17.same s18
    have s1618:=s17.trans s18
    generalize L2.upd H17 l9 (.lst [V.ref ua,.ref a2,.ref e1])=H18 at s18 hl918 Y18 s1618 ⊢
    generalize [V.ref ua,.ref a2,.ref e1]=os at hl918 Y18 ⊢
    have hx118:=s1618 _ _ hx116
    refine⟨l9,rfl,⟨_,SqL.of hl918⟩,gX (K:=K) (a:=l9) (xs:=os) (fun j σ H19=>Same H18 H19∧∃v9,σ=[some (.ref a),some (.int c),some (.ref p),some (.ref tx),some (.ref ua),some (.ref lo),some (.ref a1),some (.ref a2),some (.ref x1),v9]) ⟨Same.refl _,_,rfl⟩ (fun j σ H19 _ h=>SqL.of (h.1 _ _ hl918)) ?_ ?_⟩
    ·rintro D3 j2 y2' σ H19 nx3 hy2 ⟨s19,w9',rfl⟩
     obtain⟨x2,ys,rfl,hx2,ty,yl⟩:=Y18 y2' (List.mem_of_getElem? hy2)
     refine gd (fun R hR=>?_) fun H20 s20=>nx3 _ _ ⟨s19.trans s20,_,rfl⟩
     exact⟨_,rfl,_,rfl,by show 4≤sizeLine;decide,fun tp htp=>⟨x1,x2,tp,zs,ys,[0,1,2,3],rfl,(Same.upd htp) _ _ (s19 _ _ hx118),(Same.upd htp) _ _ (s19 _ _ hx2),af,tz,ty,zl,yl,by decide,fun H20 s20=>⟨_,rfl,hR _ ((Same.upd htp).trans s20)⟩⟩⟩
    ·rintro σ H19 ⟨s19,w9',rfl⟩
     dsimp only
     refine gd (fun R hR=>?_) fun H20 s20=>nx2 _ _ ⟨((s16.trans s1618).trans s19).trans s20,_,_,rfl⟩
     refine⟨_,rfl,Nat.zero_le _,fun e2 he2=>?_⟩
     have s20:=Same.upd (o:=.lst []) he2
     exact⟨by show 3≤sizeLine;decide,fun tp htp=>⟨x1,e2,tp,zs,[],[4,5,6],rfl,(Same.upd htp) _ _ (s20 _ _ (s19 _ _ hx118)),(Same.upd htp) _ _ af,af,tz,fun z h=>(nomatch h),zl,by decide,by decide,fun H21 s21=>⟨_,rfl,hR _ ((s20.trans (Same.upd htp)).trans s21)⟩⟩⟩
   ·rintro σ H16 ⟨s16,w8,w9,rfl⟩
    have s1416:=s15.trans s16
    dsimp only
    refine gd (fun R hR=>?_) fun H17 s17=>nx1 _ _ ⟨s17 _ _ (s1416 _ _ hb14),_,_,_,_,_,_,_,_,_,rfl⟩
    refine oB (fun R' hR'=>?_) fun H17 s17=>?_
    ·exact⟨_,rfl,_,rfl,by show 2≤sizeLine;decide,fun tp htp=>⟨lo,ua,tp,_,_,[6,4],rfl,(Same.upd htp) _ _ (s1416 _ _ hloz),(Same.upd htp) _ _ (s1416 _ _ huaz),af,cP llg,cP lu,lgl',ul',by decide,fun H20 s20=>⟨_,rfl,hR' _ ((Same.upd htp).trans s20)⟩⟩⟩
    ·have s1417:=s1416.trans s17
     exact⟨_,rfl,_,rfl,by show 2≤sizeLine;decide,fun tp htp=>⟨tx,ua,tp,_,_,[0,3],rfl,(Same.upd htp) _ _ (s1417 _ _ htxz),(Same.upd htp) _ _ (s1417 _ _ huaz),af,cP lt,cP lu,tl',ul',by decide,fun H20 s20=>⟨_,rfl,hR _ ((s17.trans (Same.upd htp)).trans s20)⟩⟩⟩
  ·rintro σ H2 ⟨hb2,v1,v2,v3,v4,v5,v6,v7,v8,v9,rfl⟩
   exact k H2
end
def gR(n:Int):Option (Option Value)→Bool
 | some (some (.int i _))=>decide (i=n)
 | _=>false
theorem qP{n:Int}{o:Option (Option Value)}(h:gR n o=true):∃u,o=some (some u)∧RelV (.int n) u:=by
 unfold gR at h
 split at h
 ·rename_i i t
  have e:i=n:=of_decide_eq_true h
  subst e
  exact⟨_,rfl,t,rfl⟩
 ·cases h
theorem all_mk{P:Program}{w:World}{K:PySem.W.Frag}{h:Heap}{mg:Str→Option Value}{fa:Addr}(X:K.In h)(G:h.Ns mainGlobals mg)(hfa:mg "law"=some (.ref fa))(f1:FF K "_law_cell_at" iJ)(f2:FF K "_law_deck" gq)(f3:FF K "_law_take" gT)(f4:FF K "_law_letters" eQ)(f5:FF K "_law_signs" gm)(f6:FF K "_law_word" gu)(f7:FF K "_law_overlaid" iD)(f8:FF K "_law_bent" gH)(f9:FF K "_law_pair" gJ)(f10:FF K "is_sign" fL)(f11:FF K "check_signs" fw)(f12:FF K "check_word" gk)(f13:FF K "check_some" fJ)(f14:FF K "check_few" fr)(f15:FF K "check_both" fh)(f16:FF K "agrees_at" gw)(f17:FF K "agreeing_places" hV)(f18:FF K "first_bare" iq)(f19:FF K "leaves_none_bare" gL)(f20:FF K "places_with_rests" ij)(f21:FF K "lies_at" gW)(f22:FF K "piece_places" iN)(f23:FF K "rest_behind" gj)(f24:FF K "rest_ahead" fu)(f25:FF K "rest_both" fY)(f26:FF K "beginnings_with_rest" fi)(f27:FF K "ends_with_rest" fq)(f28:FF K "pieces_with_rests" fx)(f29:FF K "shown_with_rests" fk)(f30:FF K "_law_kind" iA)(f31:FF K "_law_refusal" hZ)(f32:FF K "_law_is_sign" ig)(f33:FF K "_law_due" gP)(f34:FF K "_law_right" gz)(f35:FF K "_law_odd_sign" hU)(f36:FF K "_law_spoilt" ia)(f37:FF K "law" gE)(exs:Md K mg→∃c0 c1 c2 c3 c4 c5 c6 c7 c8 c9,Exs K mg c0 c1 c2 c3 c4 c5 c6 c7 c8 c9)(nm:gR 40 (PySem.W.nsIn K mainGlobals "MOST_SIGNS")=true)(b:Md K mg→Bl mg):∃fd:FuncData,(∀(s:Shared) (v:Value),BindsTo s fd ⟨[v],[]⟩ [("script",v)])∧∀base:Heap,K.In base→base.Ns mainGlobals mg→FnOk P w K mg base ai 9 fa fd ["script"] (gl K):=by
 have M:=qu X G
 have Bl:=b M
 obtain⟨_,c1,c2,c3,c4,_,_,_,_,c9,S⟩:=exs M
 obtain⟨uM,nm1,nm2⟩:=qP nm
 have O1:Exc K mg "NoWord" c1:=⟨S.bNoWord,(excFacts.of S.facts c1 (by simp)).isIn⟩
 have O2:Exc K mg "NoSign" c2:=⟨S.bNoSign,(excFacts.of S.facts c2 (by simp)).isIn⟩
 have O3:Exc K mg "NoText" c3:=⟨S.bNoText,(excFacts.of S.facts c3 (by simp)).isIn⟩
 have O4:Exc K mg "NoCover" c4:=⟨S.bNoCover,(excFacts.of S.facts c4 (by simp)).isIn⟩
 have O9:Exc K mg "TooMany" c9:=⟨S.bTooMany,(excFacts.of S.facts c9 (by simp)).isIn⟩
 refine rR M f37 hfa (fun _ _ _ _ _ _ s v=>.of_eq rfl) fun base=>?_
 have g1:=mX (P:=P) (w:=w) (base:=base) M Bl f1
 have g2:=pL (P:=P) (w:=w) (base:=base) M Bl f2
 have g3:=pD (P:=P) (w:=w) (base:=base) M f3
 have g4:=qj M Bl f4 g3
 have g5:=pE M Bl f5 g3
 have g6:=oH M Bl f6 g3 g5
 have g7:=mV M Bl f7 g3 g5
 have g8:=qp M Bl f8 g3 g5
 have g9:=sy M Bl f9 g3 g4 g6 g7 g8
 have g10:=qq (P:=P) (w:=w) (base:=base) M Bl f10
 have g11:=nF M Bl f11 g10
 have g12:=pw M Bl f12 g11
 have g13:=m9 (P:=P) (w:=w) (base:=base) M Bl f13
 have xS:=m6 M Bl f11 O2 (mw (P:=P) (w:=w) (base:=base) M Bl f10)
 have xW:=n6 M Bl f12 O1 xS
 have xT:=oU (P:=P) (w:=w) (base:=base) M Bl f13 O3
 have g14:=mx M Bl (M.ns _ _ nm1) nm2 f14 g11 g13
 have xF:=ow M Bl (M.ns _ _ nm1) nm2 f14 O9 xS ((Fn.toX (CX:=aq P w) g13).or xT (k:=1))
 have g15:=nU M Bl f15 g11 g12 g13
 have xB:=rH M Bl f15 xS xW xT
 have g16:=oY (P:=P) (w:=w) (base:=base) M Bl f16
 have g17:=qH M Bl f17 g16
 have g18:=qR (P:=P) (w:=w) (base:=base) M Bl f18
 have g19:=sC M Bl f19 g18
 have g20:=qA M Bl f20 g17
 have g21:=oi M Bl f21 g11 g12
 have g22:=oZ (P:=P) (w:=w) (base:=base) M Bl f22
 have g23:=ng M Bl f23 g15 g19 g17
 have g24:=sB M Bl f24 g15 g19 g17
 have g25:=rV M Bl f25 g15 g19 g20
 have xb:=qS M Bl f23 xB g19 g17
 have xa:=mL M Bl f24 xB g19 g17
 have xo:=oT M Bl f25 xB g19 g20
 have g26:=sd M Bl f26 g11 g13 g23
 have g27:=qM M Bl f27 g11 g13 g24
 have xbe:=oX M Bl f26 xS xT g23
 have xen:=oh M Bl f27 xS xT g24
 have g28:=mT M Bl f28 g14 g22 g25
 have xp:=qG M Bl f28 xF g22 xo
 have g29:=re M Bl f29 O4 (Fn.toX (CX:=aq P w) g25) (Fn.toX (CX:=aq P w) g21) g20
 have xs:=oV M Bl f29 O4 xo (Fn.toX (CX:=aq P w) g21) g20
 have g30:=qd (P:=P) (w:=w) (base:=base) M Bl f30 S
 have g31:=qN M Bl f31 S g30 ((Fn.toX (CX:=aq P w) g23).or xb (k:=5)) ((Fn.toX (CX:=aq P w) g24).or xa (k:=5)) ((Fn.toX (CX:=aq P w) g25).or xo (k:=5)) (g29.or xs (k:=6)) ((Fn.toX (CX:=aq P w) g26).or xbe (k:=6)) ((Fn.toX (CX:=aq P w) g27).or xen (k:=6)) ((Fn.toX (CX:=aq P w) g28).or xp (k:=6))
 have g32:=rT (P:=P) (w:=w) (base:=base) M Bl f32
 have g33:=rY M Bl f33 g32
 have g34:=qy M Bl f34 g31 g33
 have g35:=mS M Bl f35 g3
 have g36:=pk M Bl f36 g3 g35
 exact nG M Bl f37 g1 g2 g3 g9 g36 g34
theorem walk{l:PySem.W.OpenLaw}{q:Program}{loose:List Str}{XP:(Str→Option Value)→Heap→Prop}{YP:World→Heap→Prop}{d:DefRec}{K:Params→PySem.W.Frag}(hn:l.most=some 63)(hdf:d.params.defaults=[])(hY:∀(w:World) (h:Heap),YP w h→(K w.params).In h)(F:∀(w:World) (mg:Str→Option Value) (fa:Addr) (h:Heap),(K w.params).In h→h.Ns mainGlobals mg→mg d.name=some (.ref fa)→∃fd:FuncData,(∀(s:Shared) (u:Value),BindsTo s fd ⟨[u],[]⟩ [("script",u)])∧∀base:Heap,(K w.params).In base→base.Ns mainGlobals mg→FnOk l.prog w (K w.params) mg base ai 9 fa fd ["script"] (gl (K w.params))):PySem.W.WalkO q loose XP YP l.row.toRowW d [] (fun f vs=>PySem.call f vs):=
 L2.walk_of (n:=63) (k:=9) (x:="script") (CX:=fun _=>ai) (sp:=fun w=>gl (K w.params)) hn (by decide) hdf ⟨rfl,by decide,by decide⟩ hY F (fun _ _ a ns hl _ hS=>⟨a,ns,rfl,hS,hl,fun _=>rfl⟩) fun _ _ _ _ _ z=>z
end Ov
noncomputable section
namespace PySem.W.Fast
def tw10385785535047936567:=Nat
def tw7475197470189385276:=Nat
def tw12148781762704972686:=Nat
def tw14770861521456723669:=Nat
def tw1853686828563768001:=Nat
def tw7401188513146276442:=Nat
def tw12710415723712616914:=Nat
def tw3867616171144945785:=Nat
def tw3143735011946281621:=Nat
def tw3369408779317977483:=Nat
def tw14697454689996407327:=Nat
def tw8560394581310449090:=Nat
def tw14373404271977379558:=Nat
def tw13370701344054898423:=Nat
def tw3419359788590627442:=Nat
def tw10305649591483804465:=Nat
def tw12909487563769094338:=Nat
def tw12547963073262951114:=Nat
def tw9711848820958436528:=Nat
def tw11887573580667610776:=Nat
def tw15051632553119315602:=Nat
def tw12408902824379850309:=Nat
def tw5816464725209867726:=Nat
def tw8670518387306321951:=Nat
def tw7652751171939510216:=Nat
def tw10557013715860644691:=Nat
def tw9345932736374877274:=Nat
def tw760974519793551030:=Nat
def tw12112009820255379276:=Nat
def tw2987950946040279908:=Nat
def tw17471633889377569161:=Nat
def tw705684082303172711:=Nat
def tw7624806982585750564:=Nat
def tw5291112379343386179:=Nat
def tw680834338646318867:=Nat
def tw12253998489262166525:=Nat
def tw10788282972504373857:=Nat
def tw17213472157759363577:=Nat
def tw7055242148868221870:=Nat
def tw6732565995114518257:=Nat
def tw14275949656792127255:=Nat
def tw2159841901773168815:=Nat
def tw15851795444888128121:=Nat
def tw12083900570142756635:=Nat
def tw14669886729237824111:=Nat
def tw17831071415083640001:=Nat
def tw15535844692460524974:=Nat
def tw9947881066910111730:=Nat
def tw5500097660908596259:=Nat
def tw6896935457878908943:=Nat
def tw5789230231508428270:=Nat
def tw7168799434189385297:=Nat
def tw7289290950860217982:=Nat
def tw17103224795900658696:=Nat
def tw8484699676596161054:=Nat
def tw16333418154063419461:=Nat
def tw1770185834752727632:=Nat
def tw2360168769165279695:=Nat
def tw15473639209277045536:=Nat
def tw9119816211271090998:=Nat
def tw7362735919134405269:=Nat
def tw17633160664597754034:=Nat
def tw11686123774396775289:=Nat
def tw12032341301491465416:=Nat
def tw11446137363495096683:=Nat
def tw6808692087419205131:=Nat
def tw11824779282072435548:=Nat
def tw6989108478571951779:=Nat
def tw3169986954677791371:=Nat
def tw7730398843992256042:=Nat
def tw10971562716490894909:=Nat
def tw3647371216650740177:=Nat
def tw6201959810195349837:=Nat
def tw3319378721030588073:=Nat
def tw7740018981584407979:=Nat
def tw17566237838717969778:=Nat
def tw14183124957512570673:=Nat
def tw16318480530224578231:=Nat
def tw8747882959331601719:=Nat
def tw6484196246544930871:=Nat
def tw14974852437183650904:=Nat
def tw12657672334658393039:=Nat
def tw2801494940949382328:=Nat
def tw6823038191623518066:=Nat
def tw10997275183048339689:=Nat
def tw3086612511334374013:=Nat
def tw10935634525519979685:=Nat
def tw13899545792337480231:=Nat
def tw7468266893950460468:=Nat
def tw15480504036660143296:=Nat
def tw67255195036230897:=Nat
def tw15827608232748513627:=Nat
def tw16739156304442031460:=Nat
def tw13119121973366135127:=Nat
def tw12760910265320371005:=Nat
def tw13467320771472315529:=Nat
def tw2231776980361539071:=Nat
def tw17432892410595323115:=Nat
def tw8133454982573894844:=Nat
def tw5410795877766907834:=Nat
end PySem.W.Fast
end
open PySem PySem.W PyProof.Rows
set_option maxRecDepth 100000 in
set_option maxHeartbeats 0 in
theorem PySem.Challenge.cw_overlaid_k21_rests_refused_holds : PySem.Challenge.rw_overlaid_k21_rests_refused.Holds := by
 w_on;o_law;k_head;(case hw=>w_witness2)
 k_fill
 refine Ov.walk (l:=PySem.Challenge.rw_overlaid_k21_rests_refused) rfl rfl (fun w h Y=>PySem.W.kIn_of Y) ?F
 case F=>
  intro w mg fa h KX G hmg
  refine' Ov.all_mk KX G hmg ?f1 ?f2 ?f3 ?f4 ?f5 ?f6 ?f7 ?f8 ?f9 ?f10 ?f11 ?f12 ?f13 ?f14 ?f15 ?f16 ?f17 ?f18 ?f19 ?f20 ?f21 ?f22 ?f23 ?f24 ?f25 ?f26 ?f27 ?f28 ?f29 ?f30 ?f31 ?f32 ?f33 ?f34 ?f35 ?f36 ?f37 ?X ?NMOST ?B
  (case f1|f2|f3|f4|f5|f6|f7|f8|f9|f10|f11|f12|f13|f14|f15|f16|f17|f18|f19|f20|f21|f22|f23|f24|f25|f26|f27|f28|f29|f30|f31|f32|f33|f34|f35|f36|f37=>(refine' L2.ff_mk ?a ?l ?c ?k;(case a|l|c|k=>k_is)))
  (case X=>(intro M;refine' ⟨_,_,_,_,_,_,_,_,_,_,Ov.exs_mk M ?a0 ?a1 ?a2 ?a3 ?a4 ?a5 ?a6 ?a7 ?a8 ?a9 ?av ?ef ?nd⟩;(case a0|a1|a2|a3|a4|a5|a6|a7|a8|a9|av=>k_is);(case ef=>kernel_rfl);(case nd=>decide)))
  (case NMOST=>kernel_rfl)
  (case B=>(intro M;refine' L2.bl_of M ?b1 ?b2 ?b3 ?b4 ?b5 ?b6 ?b7 ?b8 ?b9 ?b10 ?b11 ?b12 ?b13 ?b14 ?b15;(case b1|b2|b3|b4|b5|b6|b7|b8|b9|b10|b11|b12|b13|b14|b15=>k_is)))
