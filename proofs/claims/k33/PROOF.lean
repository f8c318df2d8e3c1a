import PyProof.Rows.All
import Wide.All
import OpenK.AllK
import Wide.FinOn
import Lean
import PyProof.EqAt
import PyProof.EqKinds
import PyProof.TupleCall
import PySem.Challenge.RW_overlaid_k33_wrong_signs_refused
set_option Elab.async false
set_option linter.all false
set_option maxRecDepth 100000
namespace L2
open PySem PySem.Spec PyProof.Rows
abbrev ap:=Sum Int Str
def eZ:ap→Value→Bool
 | .inl k,v=>Value.isInt k v
 | .inr x,v=>Value.isStrOf x v
def pb(w:World):ap→Int
 | .inl k=>hashInt k
 | .inr x=>hashStr w x
theorem de:∀{k:ap} {v:Value},eZ k v=true→(∃i t,k=Sum.inl i∧v=Value.int i t)∨(∃x t,k=Sum.inr x∧v=Value.str x t)
 | .inl i,v,h=>by
   obtain⟨t,e⟩:=Value.isInt_shape (k:=i) (v:=v) h
   exact .inl ⟨i,t,rfl,e⟩
 | .inr x,v,h=>by
   obtain⟨t,e⟩:=Value.isStrOf_shape (x:=x) (v:=v) h
   exact .inr ⟨x,t,rfl,e⟩
theorem v0(i:Int)(t:Tok):eZ (.inl i) (.int i t)=true:=by simp[eZ,Value.isInt]
theorem qK(x:Str)(t:Tok):eZ (.inr x) (.str x t)=true:=by simp[eZ,Value.isStrOf]
theorem qi(a b:Int):decide ((Sum.inl a:ap)=Sum.inl b)=(a == b):=by
 by_cases e:a=b
 ·subst e;simp
 ·have h:¬(Sum.inl a:ap)=Sum.inl b:=fun q=>e (Sum.inl.inj q)
  rw[decide_eq_false h]
  exact(beq_eq_false_iff_ne.mpr e).symm
theorem r8(a b:Str):decide ((Sum.inr a:ap)=Sum.inr b)=decide (a=b):=by
 by_cases e:a=b
 ·subst e;simp
 ·have h:¬(Sum.inr a:ap)=Sum.inr b:=fun q=>e (Sum.inr.inj q)
  rw[decide_eq_false h,decide_eq_false e]
theorem sx(a:Int)(b:Str):decide ((Sum.inl a:ap)=Sum.inr b)=false:=decide_eq_false (fun q=>nomatch q)
theorem uW(a:Str)(b:Int):decide ((Sum.inr a:ap)=Sum.inl b)=false:=decide_eq_false (fun q=>nomatch q)
def bz(prog:Program)(w:World):PySem.KeyKind prog w ap where
 is:=eZ
 hash:=pb w
 inj:=fun v a b ha hb=>by
  rcases de ha with⟨i,t,rfl,rfl⟩ | ⟨x,t,rfl,rfl⟩
  ·rcases de hb with⟨j,u,rfl,e⟩ | ⟨y,u,rfl,e⟩
   ·injection e with e1 _;rw[e1]
   ·exact nomatch e
  ·rcases de hb with⟨j,u,rfl,e⟩ | ⟨y,u,rfl,e⟩
   ·exact nomatch e
   ·injection e with e1 _;rw[e1]
 byValue:=fun k v h=>by
  rcases de h with⟨i,t,rfl,rfl⟩ | ⟨x,t,rfl,rfl⟩ <;> rfl
 pyHash:=fun hv h=>by
  rcases de hv with⟨i,t,rfl,rfl⟩ | ⟨x,t,rfl,rfl⟩
  ·exact wpAny_pyHash_int h
  ·exact wpAny_pyHash_str h
 eqBool:=fun hu hv h=>by
  rcases de hu with⟨i,t,rfl,rfl⟩ | ⟨x,t,rfl,rfl⟩
  ·rcases de hv with⟨j,u,rfl,rfl⟩ | ⟨y,u,rfl,rfl⟩
   ·rw[qi] at h;exact wpAny_eqBool_int h
   ·rw[sx] at h;exact SeqAt.EqAt.int_str i t y u _ _ _ _ h
  ·rcases de hv with⟨j,u,rfl,rfl⟩ | ⟨y,u,rfl,rfl⟩
   ·rw[uW] at h;exact SeqAt.EqAt.str_int x t j u _ _ _ _ h
   ·rw[r8] at h;exact wpAny_eqBool_str h
 «strs»:=fun k x t v h=>by
  rcases de h with⟨i,u,rfl,e⟩ | ⟨y,u,rfl,e⟩
  ·exact nomatch e
  ·injection e with e1 _
   subst e1
   cases v <;> rfl
theorem u7(prog:Program)(w:World)(i:Int)(t:Tok):(bz prog w).is (.inl i) (.int i t)=true:=v0 i t
theorem pG(prog:Program)(w:World)(x:Str)(t:Tok):(bz prog w).is (.inr x) (.str x t)=true:=qK x t
inductive V where
 | non | bl (b:Bool) | int (i:Int) | str (x:Str) | byt (b:Array UInt8) | flt (b:UInt64) | ref (a:Addr) | ty (n:String)
 deriving DecidableEq
def RelV:V→Value→Prop
 | .non,u=>u=Value.none
 | .bl b,u=>u=Value.bool b
 | .int i,u=>∃t,u=Value.int i t
 | .str x,u=>∃t,u=Value.str x t
 | .byt b,u=>∃t,u=Value.bytes b t
 | .flt b,u=>∃t,u=Value.float b t
 | .ref a,u=>u=Value.ref a
 | .ty n,u=>u=Value.type n
abbrev Vals:List V→List Value→Prop:=Paired RelV
theorem Vals.length{xs:List V}{us:List Value}(r:Vals xs us):xs.length=us.length:=Paired.length r
theorem Vals.get:∀{xs:List V} {us:List Value} {i:Nat} {x:V},Vals xs us→xs[i]?=some x→∃u,us[i]?=some u∧RelV x u
 | _,_,_,_,.nil,e=>by simp at e
 | _,_,0,_,.cons r _,e=>by simp at e;subst e;exact⟨_,rfl,r⟩
 | _,_,i+1,x,.cons _ t,e=>by
   obtain⟨u,h1,h2⟩:=Vals.get (i:=i) (x:=x) t (by simpa using e)
   exact⟨u,by simpa using h1,h2⟩
theorem Vals.set{x:V}{u:Value}(r:RelV x u):∀{xs:List V} {us:List Value} (i:Nat),Vals xs us→Vals (xs.set i x) (us.set i u)
 | _,_,_,.nil=>.nil
 | _,_,0,.cons _ t=>.cons r t
 | _,_,i+1,.cons q t=>.cons q (Vals.set r i t)
theorem Vals.append:∀{xs ys:List V} {us ws:List Value},Vals xs us→Vals ys ws→Vals (xs++ys) (us++ws)
 | _,_,_,_,.nil,s=>s
 | _,_,_,_,.cons r t,s=>.cons r (Vals.append t s)
theorem Vals.take:∀{xs:List V} {us:List Value} (n:Nat),Vals xs us→Vals (xs.take n) (us.take n)
 | _,_,0,_=>.nil
 | _,_,_+1,.nil=>.nil
 | _,_,n+1,.cons r t=>.cons r (Vals.take n t)
theorem Vals.drop:∀{xs:List V} {us:List Value} (n:Nat),Vals xs us→Vals (xs.drop n) (us.drop n)
 | _,_,0,r=>r
 | _,_,_+1,.nil=>.nil
 | _,_,n+1,.cons _ t=>Vals.drop n t
def RelO:Option V→Option Value→Prop
 | some v,some u=>RelV v u
 | none,none=>True
 | _,_=>False
def KV{κ:Type}:List (κ×V)→List (κ×Value)→Prop:=Paired fun(p:κ×V) (q:κ×Value)=>p.1=q.1∧RelV p.2 q.2
def kV:ap→V
 | .inl i=>.int i
 | .inr x=>.str x
inductive HO where
 | lst (xs:List V)
 | tup (xs:List V)
 | dK (kvs:List (ap×V)) | dT (kvs:List (List ap×V))
 | set (S:Int→Bool) (n:Nat)
 | ins (C dx:Addr) (fs:List (Str×V))
 | own (x:Addr)
 | xd (fs:List (Str×V))
 | met (f x:Addr)
 | rng (lo hi:Int)
 | frz (o:Obj) (u:HO)
 | tbl (ps:Array Value)
 | ext (φ:Heap→Prop)
abbrev Hp:=Addr→Option HO
def upd(H:Hp)(a:Addr)(o:HO):Hp:=fun b=>if b=a then some o else H b
theorem ae{H:Hp}{a:Addr}{o:HO}:upd H a o a=some o:=by unfold upd;rw[if_pos rfl]
theorem ao{H:Hp}{a b:Addr}{o:HO}(h:b≠a):upd H a o b=H b:=by unfold upd;rw[if_neg h]
theorem bK{H:Hp}{a b:Addr}{o u:HO}(h:H a=some o)(h':H b=some u)(d:o≠u):a≠b:=by
 intro e;subst e;rw[h] at h';exact d (Option.some.inj h')
theorem aR{H:Hp}{a b:Addr}{o:HO}(h:H a=some o)(h':H b=none):a≠b:=by
 intro e;subst e;rw[h] at h';cases h'
section
variable(P:Program)(w:World)
def ObjOk(H:Hp)(h:Heap)(a:Addr):HO→Prop
 | .lst xs=>xs.length≤sizeLine∧∃(its:List Value) (n:Nat),Vals xs its∧h.get? a=some {cls:=.type "list",data:=.seq its.toArray n}
 | .tup xs=>xs.length≤sizeLine∧∃its:List Value,Vals xs its∧IsTup h a its.toArray
 | .dK kvs=>kvs.length≤sizeLine∧(a == sysModules)=false∧∃vs,KV kvs vs∧h.DictOf (bz P w) a vs
 | .dT kvs=>kvs.length≤sizeLine∧(a == sysModules)=false∧∃xs:List (List ap×Addr×Value),
  Paired (fun(p:List ap×V) (q:List ap×Addr×Value)=>p.1=q.1∧H q.2.1=some (.tup (p.1.map kV))∧RelV p.2 q.2.2) kvs xs∧
  ∃o es ep,h.get? a=some o∧o.ExactDict∧o.data=.dict es ep∧es.toList=xs.map (entryOfKey (tupleKind (bz P w)))∧(xs.map (·.1)).Nodup
 | .set S n=>h.SetOf (intKind P w) a S n
 | .ins C dx fs=>H dx=some (.own a)∧fs.length≤1000∧dx≠a∧h.get? a=some (PySem.W.instObj C dx)∧
  ∃mA,h.Ns1 dx mA∧(∀f,RelO (fs.lookup f) (mA f))∧PySem.Within mA (fs.map (·.1))
 | .own _=>∃o,h.get? a=some o
 | .xd fs=>∃mA,h.Ns1 a mA∧∀f,RelO (fs.lookup f) (mA f)
 | .rng lo hi=>∃t u v,h.get? a=some {cls:=.type "range",data:=.fields #[.int lo t,.int hi u,.int 1 v]}
 | .frz o u=>h.get? a=some o∧ObjOk H h a u
 | .tbl ps=>h.get? a=some {cls:=.none,data:=.fields ps}
 | .met f x=>h.get? a=some (PySem.W.methodObj (.ref f) (.ref x))
 | .ext φ=>φ h∧(∃o,h.get? a=some o)∧∀h1 h2:Heap,φ h1→(∀o,h1.get? a=some o→h2.get? a=some o)→φ h2
def HOk(H:Hp)(h:Heap):Prop:=∀a o,H a=some o→ObjOk P w H h a o
end
section
variable{P:Program}{w:World}{H H':Hp}{h h':Heap}{a:Addr}{o:HO}
theorem ObjOk.lt(x:ObjOk P w H h a o):a<h.objs.size:=by
 cases o with
 | lst xs=>obtain⟨_,_,_,_,e⟩:=x;exact Heap.lt_size e
 | tup xs=>obtain⟨_,_,_,p⟩:=x;exact p.lt
 | dK kvs=>obtain⟨_,_,_,_,o,_,_,e,_⟩:=x;exact Heap.lt_size e
 | dT kvs=>obtain⟨_,_,_,_,o,_,_,e,_⟩:=x;exact Heap.lt_size e
 | set S n=>obtain⟨o,_,_,_,e,_⟩:=x;exact Heap.lt_size e
 | ins C dx fs=>obtain⟨_,_,_,e,_⟩:=x;exact Heap.lt_size e
 | own y=>obtain⟨_,e⟩:=x;exact Heap.lt_size e
 | xd fs=>obtain⟨_,⟨_,_,_,e,_⟩,_⟩:=x;exact Heap.lt_size e
 | rng lo hi=>obtain⟨_,_,_,e⟩:=x;exact Heap.lt_size e
 | frz ob u=>obtain⟨e,_⟩:=x;exact Heap.lt_size e
 | tbl ps=>exact Heap.lt_size (show h.get? a=some _ from x)
 | met f y=>exact Heap.lt_size (show h.get? a=some _ from x)
 | ext φ=>obtain⟨_,⟨_,e⟩,_⟩:=x;exact Heap.lt_size e
theorem Paired.mapP{α β:Type}{F G:α→β→Prop}:∀{l₁:List α} {l₂:List β},Paired F l₁ l₂→(∀a b,F a b→G a b)→Paired G l₁ l₂
 | _,_,.nil,_=>.nil
 | _,_,.cons r t,f=>.cons (f _ _ r) (Paired.mapP t f)
theorem ObjOk.stay(x:ObjOk P w H h a o)(k:∀b u,(b=a∨H b=some (.own a))→h.get? b=some u→h'.get? b=some u)(ho:∀b,H b=some (.own a)→H' b=some (.own a))(ht:∀b xs,H b=some (.tup xs)→H' b=some (.tup xs)):ObjOk P w H' h' a o:=by
 induction o with
 | lst xs=>obtain⟨z,its,n,r,e⟩:=x;exact⟨z,its,n,r,k _ _ (.inl rfl) e⟩
 | tup xs=>obtain⟨z,its,r,ob,e,c⟩:=x;exact⟨z,its,r,ob,k _ _ (.inl rfl) e,c⟩
 | dK kvs=>obtain⟨z,y,vs,r,ob,es,ep,e,c⟩:=x;exact⟨z,y,vs,r,ob,es,ep,k _ _ (.inl rfl) e,c⟩
 | dT kvs=>
   obtain⟨z,y,xs,r,ob,es,ep,e,c⟩:=x
   exact⟨z,y,xs,Paired.mapP r fun p q z=>⟨z.1,ht _ _ z.2.1,z.2.2⟩,ob,es,ep,k _ _ (.inl rfl) e,c⟩
 | set S n=>obtain⟨ob,es,ep,t,e,c⟩:=x;exact⟨ob,es,ep,t,k _ _ (.inl rfl) e,c⟩
 | ins C dx fs=>
   obtain⟨d,z,ne,e,mA,⟨od,es,ep,e2,c⟩,r⟩:=x
   exact⟨ho _ d,z,ne,k _ _ (.inl rfl) e,mA,⟨od,es,ep,k _ _ (.inr d) e2,c⟩,r⟩
 | own y=>obtain⟨ob,e⟩:=x;exact⟨ob,k _ _ (.inl rfl) e⟩
 | xd fs=>obtain⟨mA,⟨od,es,ep,e,c⟩,r⟩:=x;exact⟨mA,⟨od,es,ep,k _ _ (.inl rfl) e,c⟩,r⟩
 | rng lo hi=>obtain⟨t,u,v,e⟩:=x;exact⟨t,u,v,k _ _ (.inl rfl) e⟩
 | frz ob u ih=>obtain⟨e,q⟩:=x;exact⟨k _ _ (.inl rfl) e,ih q⟩
 | tbl ps=>
   have e:h.get? a=some {cls:=.none,data:=.fields ps}:=x
   show h'.get? a=some {cls:=.none,data:=.fields ps}
   exact k a _ (.inl rfl) e
 | met f y=>
   have e:h.get? a=some (PySem.W.methodObj (.ref f) (.ref y)):=x
   show h'.get? a=some (PySem.W.methodObj (.ref f) (.ref y))
   exact k a _ (.inl rfl) e
 | ext φ=>obtain⟨p,⟨o,e⟩,st⟩:=x;exact⟨st _ _ p fun o q=>k _ _ (.inl rfl) q,⟨o,k _ _ (.inl rfl) e⟩,st⟩
theorem HOk.lt(x:HOk P w H h)(e:H a=some o):a<h.objs.size:=(x a o e).lt
theorem HOk.fresh(x:HOk P w H h)(e:h.objs.size≤a):H a=none:=by
 cases q:H a with
 | none=>rfl
 | some u=>exact absurd (Nat.lt_of_lt_of_le (x.lt q) e) (Nat.lt_irrefl _)
theorem HOk.kept(x:HOk P w H h)(k:∀b u,h.get? b=some u→h'.get? b=some u):HOk P w H h':=fun a o e=>
 (x a o e).stay (fun b u _ q=>k b u q) (fun _ q=>q) fun _ _ q=>q
theorem HOk.laid(x:HOk P w H h)(k:∀b u,h.get? b=some u→h'.get? b=some u)(hp:h.objs.size≤a)(new:ObjOk P w (upd H a o) h' a o):HOk P w (upd H a o) h':=fun b u e=>by
 have hn:=x.fresh hp
 by_cases hb:b=a
 ·subst hb;rw[ae] at e;cases e;exact new
 ·rw[ao hb] at e
  exact(x b u e).stay (fun c v _ q=>k c v q) (fun c q=>by rw[ao (aR q hn)];exact q) fun c xs q=>by rw[ao (aR q hn)];exact q
end
def Rd(H:Hp)(a:Addr)(u:HO):Prop:=H a=some u∨∃o,H a=some (.frz o u)
theorem Rd.ok{P:Program}{w:World}{H:Hp}{h:Heap}{a:Addr}{u:HO}(r:Rd H a u)(x:HOk P w H h):ObjOk P w H h a u:=by
 rcases r with r | ⟨o,r⟩
 ·exact x a u r
 ·obtain⟨_,q⟩:=x a _ r
  exact q
def fN:Option HO→Prop
 | some (.lst _)=>True
 | some (.dK _)=>True
 | some (.dT _)=>True
 | some (.set _ _)=>True
 | some (.ins _ _ _)=>True
 | some (.ext _)=>True
 | _=>False
section
variable{P:Program}{w:World}{H:Hp}{h h':Heap}{x e:Addr}{o':HO}
theorem HOk.write(ok:HOk P w H h)(mu:fN (H x))(he:e=x∨H e=some (.own x))(k:∀b u,b≠e→h.get? b=some u→h'.get? b=some u)(heo:∃u,h'.get? e=some u)(new:ObjOk P w (upd H x o') h' x o'):HOk P w (upd H x o') h':=fun b u q=>by
 have nown:∀c y,H c=some (.own y)→c≠x:=fun c y r z=>by subst z;rw[r] at mu;exact mu
 have ntup:∀c xs,H c=some (.tup xs)→c≠x:=fun c xs r z=>by subst z;rw[r] at mu;exact mu
 by_cases hb:b=x
 ·subst hb;rw[ae] at q;cases q;exact new
 ·rw[ao hb] at q
  by_cases hbe:b=e
  ·have q':H b=some (.own x):=by
    rcases he with z | z
    ·exact absurd (hbe.trans z) hb
    ·rw[hbe];exact z
   rw[q] at q';cases q'
   obtain⟨v,hv⟩:=heo
   exact⟨v,by rw[hbe];exact hv⟩
  ·refine(ok b u q).stay (fun c v hc r=>k c v ?_ r) (fun c r=>by rw[ao (nown c b r)];exact r) fun c xs r=>by rw[ao (ntup c xs r)];exact r
   rcases hc with rfl | hc
   ·exact hbe
   ·rintro rfl
    rcases he with z | z
    ·exact nown c b hc z
    ·rw[hc] at z;cases z;exact hb rfl
end
structure Un(fs ex:List Addr)(H H':Hp)(h h':Heap):Prop where
 keep:∀b o,h.get? b=some o→H b=none→b∉fs→b∉ex→h'.get? b=some o
 slot:∀b o,h.get? b=some o→H b=none→b∈fs→b∉ex→∃sl,h'.get? b=some {o with slots:=sl}
 free:∀b o,h.get? b=some o→H b=none→b∉ex→H' b=none
 there:∀b o,h.get? b=some o→b∉ex→∃o',h'.get? b=some o'
 tups:∀b xs,H b=some (.tup xs)→H' b=some (.tup xs)
 frzs:∀b o u,H b=some (.frz o u)→H' b=some (.frz o u)
 tbls:∀b ps,H b=some (.tbl ps)→∃more,H' b=some (.tbl (ps++more))
section
variable{fs fs' ex ex':List Addr}{H H1 H2:Hp}{h h1 h2 h':Heap}{a x e:Addr}{o:HO}
theorem Un.any(u:Un fs ex H H1 h h1){b:Addr}{ob:Obj}(q:h.get? b=some ob)(n:H b=none)(hx:b∉ex):∃sl,h1.get? b=some {ob with slots:=sl}:=by
 by_cases hb:b∈fs
 ·exact u.slot b ob q n hb hx
 ·exact⟨ob.slots,u.keep b ob q n hb hx⟩
theorem Un.kept(k:∀b u,h.get? b=some u→h'.get? b=some u):Un fs ex H H h h':=
 ⟨fun b ob q _ _ _=>k b ob q,fun b ob q _ _ _=>⟨ob.slots,k b ob q⟩,fun _ _ _ n _=>n,fun b ob q _=>⟨ob,k b ob q⟩,fun _ _ q=>q,fun _ _ _ q=>q,fun _ ps q=>⟨#[],by rw[q];simp⟩⟩
theorem Un.refl:Un fs ex H H h h:=Un.kept fun _ _ q=>q
theorem Un.laid(k:∀b u,h.get? b=some u→h'.get? b=some u)(hp:h.objs.size≤a)(hn:H a=none):Un fs ex H (upd H a o) h h' where
 keep:=fun b u q _ _ _=>k b u q
 slot:=fun b u q _ _ _=>⟨u.slots,k b u q⟩
 free:=fun b u q n _=>by rw[ao (Nat.ne_of_lt (Nat.lt_of_lt_of_le (Heap.lt_size q) hp))];exact n
 there:=fun b u q _=>⟨u,k b u q⟩
 tups:=fun b xs q=>by rw[ao (aR q hn)];exact q
 frzs:=fun b u xs q=>by rw[ao (aR q hn)];exact q
 tbls:=fun b ps q=>⟨#[],by rw[ao (aR q hn),q];simp⟩
theorem Un.write(mu:fN (H x))(he:e=x∨H e=some (.own x))(k:∀b u,b≠e→h.get? b=some u→h'.get? b=some u)(heo:∃u,h'.get? e=some u):Un fs ex H (upd H x o) h h':=by
 have hx:∀b,H b=none→b≠x:=fun b n z=>by subst z;rw[n] at mu;exact mu
 have hb:∀b,H b=none→b≠e:=fun b n z=>by
  subst z
  rcases he with r | r
  ·exact hx b n r
  ·rw[n] at r;cases r
 have hm:∀b u,H b=some u→¬fN (some u)→b≠x:=fun b u q nm z=>by subst z;rw[q] at mu;exact nm mu
 refine⟨fun b u q n _ _=>k b u (hb b n) q,fun b u q n _ _=>⟨u.slots,k b u (hb b n) q⟩,fun b u q n _=>by rw[ao (hx b n)];exact n,fun b u q _=>?_,
  fun b xs q=>by rw[ao (hm b _ q fun z=>z)];exact q,fun b u xs q=>by rw[ao (hm b _ q fun z=>z)];exact q,fun b ps q=>⟨#[],by rw[ao (hm b _ q fun z=>z),q];simp⟩⟩
 by_cases hbe:b=e
 ·subst hbe;exact heo
 ·exact⟨u,k b u hbe q⟩
end
def du(h:Heap)(H:Hp):List Addr:=(List.range h.objs.size).filter fun a=>(H a).isSome
def cM(h:Heap)(H:Hp):Heap:=PySem.W.hideAll h (du h H)
theorem vY(h:Heap)(H:Hp):(cM h H).objs.size=h.objs.size:=PySem.W.hideAll_size _ _
theorem p8{h:Heap}{H:Hp}{b:Addr}{o:Obj}(e:h.get? b=some o)(n:H b=none):(cM h H).get? b=some o:=
 PySem.W.hideAll_get _ e fun hm=>by
  have q:(H b).isSome=true:=(List.mem_filter.mp hm).2
  rw[n] at q;simp at q
theorem qY{h:Heap}{H:Hp}{b:Addr}{o:Obj}(e:(cM h H).get? b=some o):h.get? b=some o∧H b=none:=by
 have e':h.get? b=some o:=PySem.W.of_hideAll (du h H) e
 refine⟨e',?_⟩
 cases q:H b with
 | none=>rfl
 | some x=>
   have hm:b∈du h H:=List.mem_filter.mpr ⟨List.mem_range.mpr (Heap.lt_size e'),by simp[q]⟩
   have z:(cM h H).get? b=none:=PySem.W.hideAll_none (du h H) hm
   rw[z] at e;cases e
def vt(g h:Heap)(L:Addr):List (Addr×Obj):=(List.range h.objs.size).filterMap fun a=>if a=L∨(g.get? a).isSome=true then none else(h.get? a).map fun o=>(a,o)
def rest(g h:Heap)(L d:Addr):List (Addr×Obj):=(vt g h L).filter fun p=>decide (p.1≠d)
structure Mod(K:PySem.W.Frag)(mg:Str→Option Value)(base:Heap):Prop where
 kin:K.In base
 glob:base.Ns mainGlobals mg
 blt:∃mb,base.Ns builtinsNs mb∧∀x:Str,x≠"__name__"→mb x=bootBuiltins x
 nolimit:base.NoLimit
structure Cx where
 prog:Program
 w:World
 K:PySem.W.Frag
 mg:Str→Option Value
 base:Heap
 A:Around
 N:List Str
 s₀:Shared
 H₀:Hp
 env:Env
 outer:List Env
 stack:List Env
 ex:List Addr
 fn:Str→Bool
 calm:Bool
 pn:List (Addr×Obj)
 xe:Value→Shared→Prop
def aQ(l:List Env):List Addr:=l.filterMap (·.frame)
abbrev Cx.fs(X:Cx):List Addr:=aQ X.outer
def jK(sc:Scope)(x:Str):Prop:=sc.names.lookup x=some .local∨sc.names.lookup x=some .cell∨sc.names.lookup x=some .free
def dW(sc:Scope)(x:Str):Prop:=sc.names.lookup x=some .local∨sc.names.lookup x=some .cell
def sB(env:Env)(h:Heap)(m:Str→Option Value)(x:Str)(u:Value):Prop:=
 (env.kindOf x=some .local∧m x=some u)∨((env.kindOf x=some .cell∨env.kindOf x=some .free)∧∃c,env.cells.lookup x=some c∧h.IsCell c (some u))
structure Cx.Ok(X:Cx):Prop where
 mod:Mod X.K X.mg X.base
 kind:X.env.scope.kind=.function
 glob:X.env.globals=mainGlobals
 blt:X.env.builtins=builtinsNs
 above:X.s₀.heap.objs.size≤X.env.locals
 inj:∀x y c,X.env.cells.lookup x=some c→X.env.cells.lookup y=some c→x=y
 has:∀x,(X.env.kindOf x=some .cell∨X.env.kindOf x=some .free)→∃c,X.env.cells.lookup x=some c
 cab:∀x c,X.fn x=true→X.env.cells.lookup x=some c→X.s₀.heap.objs.size≤c
 hd:X.calm=true→X.A.handled=none
 frames:X.A.frames=some X.stack
 stk:X.stack=X.outer∨(X.stack=X.env::X.outer∧X.env.frame=some X.env.locals)
 exf:∀b∈X.ex,b≠X.env.locals∧∀x c,X.env.cells.lookup x=some c→c≠b
 bs:∀b o,X.base.get? b=some o→X.s₀.heap.get? b=some o∧X.H₀ b=none
 bsz:X.base.objs.size≤X.s₀.heap.objs.size
 noex:∀b o,X.base.get? b=some o→b∉X.ex
 exfs:∀b∈X.ex,b∉X.fs
 funs:X.s₀.heap.FunFrames X.base X.outer
 frf:∀b∈X.fs,X.H₀ b=none
structure Inv(X:Cx)(pins:List (Addr×Obj))(σ:List (Option V))(H:Hp)(s:Shared):Prop where
 ok:X.Ok
 os:s.os=X.s₀.os
 bare:AllBare s.gens
 base:Un X.fs X.ex X.H₀ H X.s₀.heap s.heap
 loc:∃m,s.heap.Ns X.env.locals m∧∀(i:Nat) (x:Str) (v:V),X.N[i]?=some x→σ[i]?=some (some v)→jK X.env.scope x→∃u,RelV v u∧sB X.env s.heap m x u
 cell:∀x c,X.env.cells.lookup x=some c→∃v,s.heap.IsCell c v
 free:H X.env.locals=none
 freeC:∀x c,X.env.cells.lookup x=some c→H c=none
 pin:∀p∈X.pn++pins,s.heap.get? p.1=some p.2∧H p.1=none∧p.1≠X.env.locals∧p.1∉X.fs∧∀v,p.2.data≠ .cell v
 hok:HOk X.prog X.w H s.heap
 len:σ.length=X.N.length
section
variable{X:Cx}{pins:List (Addr×Obj)}{σ:List (Option V)}{H H':Hp}{s:Shared}{h':Heap}
theorem Cx.Ok.nofr(ok:X.Ok){b:Addr}{o:Obj}(e:X.base.get? b=some o):b∉X.fs:=fun hb=>by
 have:=(ok.funs.mem hb).1
 rw[e] at this;cases this
theorem Inv.bs(I:Inv X pins σ H s):∀b o,X.base.get? b=some o→s.heap.get? b=some o∧H b=none:=fun b o e=>
 ⟨I.base.keep b o (I.ok.bs b o e).1 (I.ok.bs b o e).2 (I.ok.nofr e) (I.ok.noex b o e),I.base.free b o (I.ok.bs b o e).1 (I.ok.bs b o e).2 (I.ok.noex b o e)⟩
theorem Inv.bk(I:Inv X pins σ H s):∀b o,X.base.get? b=some o→s.heap.get? b=some o:=fun b o e=>(I.bs b o e).1
theorem Inv.mod(I:Inv X pins σ H s):Mod X.K X.mg X.base:=I.ok.mod
theorem Inv.kIn(I:Inv X pins σ H s):X.K.In s.heap:=I.ok.mod.kin.keeps I.bk
theorem Inv.lt(I:Inv X pins σ H s):X.env.locals<s.heap.objs.size:=let ⟨_,hn,_⟩:=I.loc;hn.lt
theorem Inv.sz(I:Inv X pins σ H s):X.s₀.heap.objs.size≤s.heap.objs.size:=Nat.le_trans I.ok.above (Nat.le_of_lt I.lt)
theorem Inv.nofs(I:Inv X pins σ H s){a:Addr}(h:s.heap.objs.size≤a):a∉X.fs:=fun hb=>by
 obtain⟨_,o,ho,_⟩:=I.ok.funs.mem hb
 exact absurd (Nat.lt_of_lt_of_le (Heap.lt_size ho) (Nat.le_trans I.sz h)) (Nat.lt_irrefl _)
theorem Inv.cne(I:Inv X pins σ H s):∀x c,X.env.cells.lookup x=some c→c≠X.env.locals:=fun x c e z=>by
 obtain⟨v,o,ho,hd⟩:=I.cell x c e
 obtain⟨m,⟨o',es,ep,ho',hd',_⟩,_⟩:=I.loc
 rw[z,ho'] at ho;cases ho;rw[hd'] at hd;cases hd
theorem Inv.funs(I:Inv X pins σ H s):s.heap.FunFrames X.base X.outer:=by
 have all:∀(l:List Env),(∀b∈aQ l,b∈X.fs)→X.s₀.heap.FunFrames X.base l→s.heap.FunFrames X.base l:=by
  intro l
  induction l with
  | nil=>intro _ _;trivial
  | cons env r ih=>
    intro hs hl
    obtain⟨hk,⟨L,o,hf,hn,ho,hd⟩,hr⟩:=hl
    have hL:L∈X.fs:=hs L (by unfold aQ;rw[List.filterMap_cons,hf];exact List.mem_cons_self)
    obtain⟨sl,e⟩:=I.base.slot L o ho (I.ok.frf L hL) hL fun z=>I.ok.exfs L z hL
    exact⟨hk,⟨L,_,hf,hn,e,hd⟩,ih (fun b hb=>hs b (by unfold aQ;rw[List.filterMap_cons,hf];exact List.mem_cons_of_mem _ hb)) hr⟩
 exact all X.outer (fun _ hb=>hb) I.ok.funs
theorem Inv.stack(I:Inv X pins σ H s):s.heap.FunFrames X.base X.stack:=by
 rcases I.ok.stk with e | ⟨e,hf⟩
 ·rw[e];exact I.funs
 ·rw[e]
  obtain⟨m,hn,_⟩:=I.loc
  refine .cons (by rw[I.ok.kind];decide) hf hn ?_ I.funs
  exact Heap.get?_none_of_le (Nat.le_trans I.ok.bsz I.ok.above)
theorem Inv.stkSub(I:Inv X pins σ H s):∀b∈aQ X.stack,b∈X.env.locals::X.fs:=fun b hb=>by
 rcases I.ok.stk with e | ⟨e,hf⟩
 ·rw[e] at hb;exact List.mem_cons_of_mem _ hb
 ·rw[e] at hb
  unfold aQ at hb
  rw[List.filterMap_cons,hf] at hb
  exact hb
theorem Inv.stkFree(I:Inv X pins σ H s):∀b∈aQ X.stack,H b=none:=fun b hb=>by
 rcases List.mem_cons.mp (I.stkSub b hb) with e | hb
 ·rw[e];exact I.free
 ·obtain⟨_,o,ho,_⟩:=I.ok.funs.mem hb
  exact I.base.free b o ho (I.ok.frf b hb) fun z=>I.ok.exfs b z hb
theorem Inv.step{g':Array GenState}{t':Nat}{d':Drawn}{ch:List Addr}(I:Inv X pins σ H s)(hch:∀b∈ch,(b∈X.ex∨X.s₀.heap.objs.size≤b)∧b≠X.env.locals∧(∀x c,X.env.cells.lookup x=some c→c≠b)∧∀p∈X.pn++pins,p.1≠b)(keep:∀b o,b≠X.env.locals→b∉X.fs→b∉ch→s.heap.get? b=some o→H b=none→h'.get? b=some o)(slot:∀b o,b≠X.env.locals→b∈X.fs→b∉ch→s.heap.get? b=some o→H b=none→∃sl,h'.get? b=some {o with slots:=sl})(free:∀b o,b∉ch→s.heap.get? b=some o→H b=none→H' b=none)(there:∀b o,b∉ch→s.heap.get? b=some o→∃o',h'.get? b=some o')(tups:∀b xs,H b=some (.tup xs)→H' b=some (.tup xs))(frzs:∀b o u,H b=some (.frz o u)→H' b=some (.frz o u))(tbls:∀b ps,H b=some (.tbl ps)→∃more,H' b=some (.tbl (ps++more)))(ns:∀m,s.heap.Ns X.env.locals m→h'.Ns X.env.locals m)(hok:HOk X.prog X.w H' h')(hg:AllBare g'):Inv X pins σ H' {s with heap:=h',gens:=g',drawn:=d',toks:=t'}:=by
 have neL:∀b o,X.s₀.heap.get? b=some o→b≠X.env.locals:=fun b o e=>Nat.ne_of_lt (Nat.lt_of_lt_of_le (Heap.lt_size e) I.ok.above)
 have neC:∀b o,X.s₀.heap.get? b=some o→b∉X.ex→b∉ch:=fun b o e hx hb=>by
  rcases(hch b hb).1 with z | z
  ·exact hx z
  ·exact absurd (Nat.lt_of_lt_of_le (Heap.lt_size e) z) (Nat.lt_irrefl _)
 have cellK:∀x c,X.env.cells.lookup x=some c→∀v,s.heap.IsCell c v→h'.IsCell c v:=fun x c e v ⟨o,ho,hd⟩=>by
  have nch:c∉ch:=fun z=>(hch c z).2.2.1 x c e rfl
  by_cases hc:c∈X.fs
  ·obtain⟨sl,q⟩:=slot c o (I.cne x c e) hc nch ho (I.freeC x c e)
   exact⟨_,q,hd⟩
  ·exact⟨o,keep c o (I.cne x c e) hc nch ho (I.freeC x c e),hd⟩
 refine⟨I.ok,I.os,hg,⟨fun b o e n hb hx=>?_,fun b o e n hb hx=>?_,fun b o e n hx=>?_,fun b o e hx=>?_,fun b xs e=>tups b xs (I.base.tups b xs e),fun b o xs e=>frzs b o xs (I.base.frzs b o xs e),fun b ps e=>?_⟩,?_,fun x c e=>?_,?_,fun x c e=>?_,fun p hp=>?_,hok,I.len⟩
 ·exact keep b o (neL b o e) hb (neC b o e hx) (I.base.keep b o e n hb hx) (I.base.free b o e n hx)
 ·obtain⟨sl,e1⟩:=I.base.slot b o e n hb hx
  obtain⟨sl',e2⟩:=slot b _ (neL b o e) hb (neC b o e hx) e1 (I.base.free b o e n hx)
  exact⟨sl',e2⟩
 ·obtain⟨o',e1⟩:=I.base.there b o e hx
  exact free b o' (neC b o e hx) e1 (I.base.free b o e n hx)
 ·obtain⟨o',e1⟩:=I.base.there b o e hx
  exact there b o' (neC b o e hx) e1
 ·obtain⟨m1,e1⟩:=I.base.tbls b ps e
  obtain⟨m2,e2⟩:=tbls b _ e1
  exact⟨m1++m2,by rw[e2,Array.append_assoc]⟩
 ·obtain⟨m,hn,hl⟩:=I.loc
  refine⟨m,ns m hn,fun i x v e1 e2 e3=>?_⟩
  obtain⟨u,r,l⟩:=hl i x v e1 e2 e3
  refine⟨u,r,?_⟩
  rcases l with l | ⟨k,c,e,z⟩
  ·exact .inl l
  ·exact .inr ⟨k,c,e,cellK x c e _ z⟩
 ·obtain⟨v,z⟩:=I.cell x c e
  exact⟨v,cellK x c e v z⟩
 ·obtain⟨m,⟨o,_,_,ho,_⟩,_⟩:=I.loc
  exact free _ o (fun z=>(hch _ z).2.1 rfl) ho I.free
 ·obtain⟨v,o,ho,hd⟩:=I.cell x c e
  exact free c o (fun z=>(hch c z).2.2.1 x c e rfl) ho (I.freeC x c e)
 ·obtain⟨e,n,ne,nf,d⟩:=I.pin p hp
  have nch:p.1∉ch:=fun z=>(hch p.1 z).2.2.2 p hp rfl
  exact⟨keep p.1 p.2 ne nf nch e n,free p.1 p.2 nch e n,ne,nf,d⟩
theorem Inv.un{t':Nat}(I:Inv X pins σ H s)(u:Un X.fs [] H H' s.heap h')(hok:HOk X.prog X.w H' h'):Inv X pins σ H' {s with heap:=h',toks:=t'}:=by
 obtain⟨m,⟨o,es,ep,ho,r⟩,_⟩:=id I.loc
 obtain⟨sl,hL⟩:=u.any ho I.free (by simp)
 exact I.step (g':=s.gens) (d':=s.drawn) (ch:=[]) (fun _ z=>nomatch z) (fun b o _ hb _ e n=>u.keep b o e n hb (by simp)) (fun b o _ hb _ e n=>u.slot b o e n hb (by simp)) (fun b o _ e n=>u.free b o e n (by simp)) (fun b o _ e=>u.there b o e (by simp)) u.tups u.frzs u.tbls (fun m' hm=>by
  obtain⟨o',es',ep',ho',r'⟩:=hm
  rw[ho] at ho';cases ho'
  exact⟨_,es',ep',hL,r'⟩) hok I.bare
theorem Inv.call{g':Array GenState}{t':Nat}{d':Drawn}{ch:List Addr}(I:Inv X pins σ H s)(u:Un (aQ X.stack) ch H H' s.heap h')(hok:HOk X.prog X.w H' h')(hg:AllBare g')(hch:∀b∈ch,(b∈X.ex∨X.s₀.heap.objs.size≤b)∧b≠X.env.locals∧(∀x c,X.env.cells.lookup x=some c→c≠b)∧∀p∈X.pn++pins,p.1≠b):Inv X pins σ H' {s with heap:=h',gens:=g',drawn:=d',toks:=t'}:=by
 obtain⟨m,⟨o,es,ep,ho,r⟩,_⟩:=id I.loc
 obtain⟨sl,hL⟩:=u.any ho I.free fun z=>(hch _ z).2.1 rfl
 exact I.step (ch:=ch) hch (fun b o hL hb hc e n=>u.keep b o e n (fun z=>(List.mem_cons.mp (I.stkSub b z)).elim hL hb) hc) (fun b o _ _ hc e n=>u.any e n hc) (fun b o hc e n=>u.free b o e n hc) (fun b o hc e=>u.there b o e hc) u.tups u.frzs u.tbls (fun m' hm=>by
  obtain⟨o',es',ep',ho',r'⟩:=hm
  rw[ho] at ho';cases ho'
  exact⟨_,es',ep',hL,r'⟩) hok hg
theorem Inv.turned{t':Nat}{it:Addr}(I:Inv X pins σ H s)(k:∀b o,b≠it→s.heap.get? b=some o→h'.get? b=some o)(hn:H it=none)(hL:it≠X.env.locals)(h1:it∈X.ex∨X.s₀.heap.objs.size≤it)(h2:∀x c,X.env.cells.lookup x=some c→c≠it)(h3:∀p∈X.pn++pins,p.1≠it):Inv X pins σ H {s with heap:=h',toks:=t'}:=by
 have nit:∀b u,H b=some u→b≠it:=fun b u e z=>by rw[z,hn] at e;cases e
 refine I.step (g':=s.gens) (d':=s.drawn) (ch:=[it]) (fun b hb=>?_) (fun b o _ _ hc e _=>k b o (fun z=>hc (by simp[z])) e) (fun b o _ _ hc e _=>⟨o.slots,k b o (fun z=>hc (by simp[z])) e⟩) (fun _ _ _ _ n=>n)
  (fun b o hc e=>⟨o,k b o (fun z=>hc (by simp[z])) e⟩) (fun _ _ e=>e) (fun _ _ _ e=>e) (fun b ps e=>⟨#[],by rw[e];simp⟩) (fun m hm=>?_) (fun b u e=>?_) I.bare
 ·have e:b=it:=by simpa using hb
  subst e
  exact⟨h1,hL,h2,h3⟩
 ·obtain⟨o,es,ep,ho,r⟩:=hm
  exact⟨o,es,ep,k _ o (Ne.symm hL) ho,r⟩
 ·refine(I.hok b u e).stay (fun c v hc q=>k c v ?_ q) (fun _ q=>q) fun _ _ q=>q
  rcases hc with z | z
  ·rw[z];exact nit b u e
  ·exact nit c _ z
theorem Inv.tok(I:Inv X pins σ H s)(t:Nat):Inv X pins σ H {s with toks:=t}:=I.un (h':=s.heap) (t':=t) Un.refl I.hok
theorem Inv.kept{t':Nat}(I:Inv X pins σ H s)(k:∀b u,s.heap.get? b=some u→h'.get? b=some u):Inv X pins σ H {s with heap:=h',toks:=t'}:=I.un (Un.kept k) (I.hok.kept k)
theorem Inv.laid{a:Addr}{o:HO}{t':Nat}(I:Inv X pins σ H s)(k:∀b u,s.heap.get? b=some u→h'.get? b=some u)(hp:s.heap.objs.size≤a)(new:ObjOk X.prog X.w (upd H a o) h' a o):Inv X pins σ (upd H a o) {s with heap:=h',toks:=t'}:=I.un (Un.laid k hp (I.hok.fresh hp)) (I.hok.laid k hp new)
theorem Inv.write{x e:Addr}{o:HO}{t':Nat}(I:Inv X pins σ H s)(mu:fN (H x))(he:e=x∨H e=some (.own x))(k:∀b u,b≠e→s.heap.get? b=some u→h'.get? b=some u)(heo:∃u,h'.get? e=some u)(new:ObjOk X.prog X.w (upd H x o) h' x o):Inv X pins σ (upd H x o) {s with heap:=h',toks:=t'}:=I.un (Un.write mu he k heo) (I.hok.write mu he k heo new)
theorem Inv.weak{σ':List (Option V)}(I:Inv X pins σ H s)(hl:σ'.length=σ.length)(w:∀(i:Nat) v,σ'[i]?=some (some v)→σ[i]?=some (some v)):Inv X pins σ' H s:=
 ⟨I.ok,I.os,I.bare,I.base,let ⟨m,hn,hl'⟩:=I.loc;⟨m,hn,fun i x v e1 e2 e3=>hl' i x v e1 (w i v e2) e3⟩,I.cell,I.free,I.freeC,I.pin,I.hok,hl.trans I.len⟩
theorem Inv.pins_of{pins':List (Addr×Obj)}(I:Inv X pins σ H s)(h:∀p∈pins',s.heap.get? p.1=some p.2∧H p.1=none∧p.1≠X.env.locals∧p.1∉X.fs∧∀v,p.2.data≠ .cell v):Inv X pins' σ H s:=
 ⟨I.ok,I.os,I.bare,I.base,I.loc,I.cell,I.free,I.freeC,fun p hp=>(List.mem_append.mp hp).elim (fun z=>I.pin p (List.mem_append_left _ z)) (h p),I.hok,I.len⟩
theorem j0{N:List Str}(hN:N.Nodup){i j:Nat}{x:Str}(a:N[i]?=some x)(b:N[j]?=some x):i=j:=by
 obtain⟨h1,e1⟩:=List.getElem?_eq_some_iff.mp a
 obtain⟨h2,e2⟩:=List.getElem?_eq_some_iff.mp b
 exact(List.getElem_inj hN).mp (e1.trans e2.symm)
theorem mh{M:Model}{A:Around}{E:Value→Shared→Prop}{i:Nat}{x:Str}{v:V}{u:Value}{Q:Unit→Shared→Prop}(I:Inv X pins σ H s)(hN:X.N.Nodup)(hi:X.N[i]?=some x)(hx:dW X.env.scope x)(r:RelV v u)(h:∀s',Inv X pins (σ.set i (some v)) H s'→(∃a,Heap.SameBut a s.heap s'.heap∧(a=X.env.locals∨X.env.cells.lookup x=some a))→Q () s')(hf:X.fn x=true∨X.env.scope.names.lookup x=some .local:=by first | exact .inl rfl | exact .inr rfl | assumption):wpAny M A (storeName X.env x u) Q E s:=by
 obtain⟨m,hn,hl⟩:=id I.loc
 have hcls:(X.env.scope.kind == .class || (X.env.scope.kind == .module && X.env.locals != X.env.globals))=false:=by rw[I.ok.kind];rfl
 have hiσ:i<σ.length:=by rw[I.len];exact(List.getElem?_eq_some_iff.mp hi).1
 have cne:=I.cne
 have tracked:∀{a:Addr} {h':Heap},(∃o,s.heap.get? a=some o∧H a=none)→Heap.SameBut a s.heap h'→HOk X.prog X.w H h':=fun{a h'} ha hs b ob e=>by
  obtain⟨_,_,hfree⟩:=ha
  refine(I.hok b ob e).stay (fun c w' hc q=>(hs.2 c ?_).trans q) (fun _ q=>q) fun _ _ q=>q
  rintro rfl
  rcases hc with rfl | hc
  ·rw[hfree] at e;cases e
  ·rw[hfree] at hc;cases hc
 rcases hx with hk | hk
 ·refine wpAny_storeName_local hk hn (fun h' hn' hs=>?_) hcls
  obtain⟨oL,_,_,hoL,_⟩:=id hn
  refine h _ ⟨I.ok,I.os,I.bare,⟨fun b o e n hb hx=>?_,fun b o e n hb hx=>?_,I.base.free,fun b o e hx=>?_,I.base.tups,I.base.frzs,I.base.tbls⟩,⟨_,hn',fun j y v' e1 e2 e3=>?_⟩,fun y c e=>?_,I.free,I.freeC,fun p hp=>?_,tracked ⟨oL,hoL,I.free⟩ hs,by simpa using I.len⟩ ⟨_,hs,.inl rfl⟩
  ·exact(hs.2 b (Nat.ne_of_lt (Nat.lt_of_lt_of_le (Heap.lt_size e) I.ok.above))).trans (I.base.keep b o e n hb hx)
  ·obtain⟨sl,e1⟩:=I.base.slot b o e n hb hx
   exact⟨sl,(hs.2 b (Nat.ne_of_lt (Nat.lt_of_lt_of_le (Heap.lt_size e) I.ok.above))).trans e1⟩
  ·obtain⟨o',e1⟩:=I.base.there b o e hx
   exact⟨o',(hs.2 b (Nat.ne_of_lt (Nat.lt_of_lt_of_le (Heap.lt_size e) I.ok.above))).trans e1⟩
  ·by_cases hj:j=i
   ·subst hj
    rw[hi] at e1;cases e1
    rw[List.getElem?_set_self hiσ] at e2
    cases e2
    exact⟨u,r,.inl ⟨hk,by simp⟩⟩
   ·rw[List.getElem?_set_ne (Ne.symm hj)] at e2
    obtain⟨u',r',q⟩:=hl j y v' e1 e2 e3
    refine⟨u',r',?_⟩
    rcases q with⟨k,e⟩ | ⟨k,c,e,z⟩
    ·refine .inl ⟨k,?_⟩
     have:y≠x:=fun e=>hj (j0 hN e1 (e▸hi))
     simp[this,e]
    ·exact .inr ⟨k,c,e,z.sameBut hs (cne y c e)⟩
  ·obtain⟨w',z⟩:=I.cell y c e
   exact⟨w',z.sameBut hs (cne y c e)⟩
  ·obtain⟨e,n,ne,nf,d⟩:=I.pin p hp
   exact⟨(hs.2 p.1 ne).trans e,n,ne,nf,d⟩
 ·have hfn:X.fn x=true:=by
   rcases hf with z | z
   ·exact z
   ·rw[z] at hk;cases hk
  obtain⟨c,hc⟩:=I.ok.has x (.inl hk)
  obtain⟨w',z⟩:=I.cell x c hc
  refine wpAny_storeName_cell I.ok.kind hk hc z (fun h' hc' hs=>?_)
  obtain⟨oc,hoc,hocd⟩:=id z
  refine h {s with heap:=h'} ⟨I.ok,I.os,I.bare,⟨fun b o e n hb hx=>?_,fun b o e n hb hx=>?_,I.base.free,fun b o e hx=>?_,I.base.tups,I.base.frzs,I.base.tbls⟩,⟨m,hn.sameBut hs (Ne.symm (cne x c hc)),fun j y v' e1 e2 e3=>?_⟩,fun y c' e=>?_,I.free,I.freeC,fun p hp=>?_,tracked ⟨oc,hoc,I.freeC x c hc⟩ hs,by simpa using I.len⟩ ⟨c,hs,.inr hc⟩
  ·exact(hs.2 b (Nat.ne_of_lt (Nat.lt_of_lt_of_le (Heap.lt_size e) (I.ok.cab x c hfn hc)))).trans (I.base.keep b o e n hb hx)
  ·obtain⟨sl,e1⟩:=I.base.slot b o e n hb hx
   exact⟨sl,(hs.2 b (Nat.ne_of_lt (Nat.lt_of_lt_of_le (Heap.lt_size e) (I.ok.cab x c hfn hc)))).trans e1⟩
  ·obtain⟨o',e1⟩:=I.base.there b o e hx
   exact⟨o',(hs.2 b (Nat.ne_of_lt (Nat.lt_of_lt_of_le (Heap.lt_size e) (I.ok.cab x c hfn hc)))).trans e1⟩
  ·by_cases hj:j=i
   ·subst hj
    rw[hi] at e1;cases e1
    rw[List.getElem?_set_self hiσ] at e2
    cases e2
    exact⟨u,r,.inr ⟨.inl hk,c,hc,hc'⟩⟩
   ·rw[List.getElem?_set_ne (Ne.symm hj)] at e2
    obtain⟨u',r',q⟩:=hl j y v' e1 e2 e3
    refine⟨u',r',?_⟩
    rcases q with q | ⟨k,c',e,z'⟩
    ·exact .inl q
    ·refine .inr ⟨k,c',e,z'.sameBut hs ?_⟩
     rintro rfl
     exact hj (j0 hN e1 (I.ok.inj _ _ _ e hc▸hi))
  ·by_cases hcc:c'=c
   ·subst hcc;exact⟨_,hc'⟩
   ·obtain⟨w2,z2⟩:=I.cell y c' e
    exact⟨w2,z2.sameBut hs hcc⟩
  ·obtain⟨e,n,ne,nf,d⟩:=I.pin p hp
   refine⟨(hs.2 p.1 ?_).trans e,n,ne,nf,d⟩
   intro q
   rw[q,hoc] at e
   have q':oc=p.2:=Option.some.inj e
   exact d w' (by rw[←q'];exact hocd)
theorem iu{M:Model}{A:Around}{E:Value→Shared→Prop}{i:Nat}{x:Str}{v:V}{u:Value}{Q:Unit→Shared→Prop}(I:Inv X pins σ H s)(hN:X.N.Nodup)(hi:X.N[i]?=some x)(hx:dW X.env.scope x)(r:RelV v u)(h:∀s',Inv X pins (σ.set i (some v)) H s'→Q () s')(hf:X.fn x=true∨X.env.scope.names.lookup x=some .local:=by first | exact .inl rfl | exact .inr rfl | assumption):wpAny M A (storeName X.env x u) Q E s:=
 mh I hN hi hx r (fun s' I' _=>h s' I') hf
theorem Inv.call'{s':Shared}{ch:List Addr}(I:Inv X pins σ H s)(ho:s'.os=s.os)(u:Un (aQ X.stack) ch H H' s.heap s'.heap)(hok:HOk X.prog X.w H' s'.heap)(hg:AllBare s'.gens)(hch:∀b∈ch,(b∈X.ex∨X.s₀.heap.objs.size≤b)∧b≠X.env.locals∧(∀x c,X.env.cells.lookup x=some c→c≠b)∧∀p∈X.pn++pins,p.1≠b):Inv X pins σ H' s':=by
 obtain⟨h',g',d',t',o'⟩:=s'
 have e:o'=s.os:=ho
 subst e
 exact I.call (g':=g') (t':=t') (d':=d') u hok hg hch
end
abbrev XK:=Value→Option Addr→Hp→Prop
abbrev St:=List (Option V)
abbrev VK:=V→Hp→Prop
abbrev TE:=St→Hp→VK→Prop
abbrev TT:=St→Hp→(Bool→Hp→Prop)→Prop
abbrev TA:=St→Hp→(List V→Hp→Prop)→Prop
structure Ends where
 nx:St→Hp→Prop
 rt:VK
 bk:St→Hp→Prop:=fun _ _=>False
 ct:St→Hp→Prop:=fun _ _=>False
abbrev TS:=Ends→St→Hp→Prop
def EP(X:Cx)(pins:List (Addr×Obj))(σ:St)(Q:VK)(u:Value)(s':Shared):Prop:=∃v H',Inv X pins σ H' s'∧RelV v u∧Q v H'
def TP(X:Cx)(pins:List (Addr×Obj))(σ:St)(Q:Bool→Hp→Prop)(b:Bool)(s':Shared):Prop:=∃H',Inv X pins σ H' s'∧Q b H'
def AP(X:Cx)(pins:List (Addr×Obj))(σ:St)(Q:List V→Hp→Prop)(us:List Value)(s':Shared):Prop:=∃vs H',Inv X pins σ H' s'∧Vals vs us∧Q vs H'
def SP(X:Cx)(pins:List (Addr×Obj))(D:Ends)(f:Flow)(s':Shared):Prop:=
 match f with
 | .next=>∃σ' H',Inv X pins σ' H' s'∧D.nx σ' H'
 | .brk=>∃σ' H',Inv X pins σ' H' s'∧D.bk σ' H'
 | .cont=>∃σ' H',Inv X pins σ' H' s'∧D.ct σ' H'
 | .ret u=>∃v σ' H',Inv X pins σ' H' s'∧RelV v u∧D.rt v H'
def PE(X:Cx)(e:Expr)(t:TE):Prop:=
 ∀(pins:List (Addr×Obj)) (s:Shared) (σ:St) (H:Hp) (Q:VK),Inv X pins σ H s→t σ H Q→wpAny (model X.prog X.w) X.A (eval e X.env) (EP X pins σ Q) X.xe s
def PT(X:Cx)(e:Expr)(t:TT):Prop:=
 ∀(pins:List (Addr×Obj)) (s:Shared) (σ:St) (H:Hp) (Q:Bool→Hp→Prop),Inv X pins σ H s→t σ H Q→wpAny (model X.prog X.w) X.A (isTrue e X.env (eval e X.env)) (TP X pins σ Q) X.xe s
def PW(X:Cx)(e:Expr)(t:TT):Prop:=
 ∀(whole:Sem Value) (pins:List (Addr×Obj)) (s:Shared) (σ:St) (H:Hp) (Q:Bool→Hp→Prop),Inv X pins σ H s→t σ H Q→wpAny (model X.prog X.w) X.A (isTrue e X.env whole) (TP X pins σ Q) X.xe s
theorem PW.pt{X:Cx}{e:Expr}{t:TT}(h:PW X e t):PT X e t:=h _
def PA(X:Cx)(es:List Expr)(t:TA):Prop:=
 ∀(pos:Pos) (pins:List (Addr×Obj)) (s:Shared) (σ:St) (H:Hp) (Q:List V→Hp→Prop),Inv X pins σ H s→t σ H Q→wpAny (model X.prog X.w) X.A (spliced (backTo pos (starEach es X.env))) (AP X pins σ Q) X.xe s
def PS(X:Cx)(st:Stmt)(t:TS):Prop:=
 ∀(pins:List (Addr×Obj)) (s:Shared) (σ:St) (H:Hp) (D:Ends),Inv X pins σ H s→t D σ H→wpAny (model X.prog X.w) X.A (exec st X.env) (SP X pins D) X.xe s
def PSs(X:Cx)(st:List Stmt)(t:TS):Prop:=
 ∀(pins:List (Addr×Obj)) (s:Shared) (σ:St) (H:Hp) (D:Ends),Inv X pins σ H s→t D σ H→wpAny (model X.prog X.w) X.A (execs st X.env) (SP X pins D) X.xe s
theorem am{α:Type}{t:Sem α}{Q Q':α→Shared→Prop}{M:Model}{A:Around}{E:Value→Shared→Prop}{s:Shared}(h:wpAny M A t Q E s)(hQ:∀a s,Q a s→Q' a s):wpAny M A t Q' E s:=wpAny_mono h hQ fun _ _ x=>x
section
variable{X:Cx}
def bR(i:Nat):TE:=fun σ H Q=>∃v,σ[i]?=some (some v)∧Q v H
def tC(v:V):TE:=fun _ H Q=>Q v H
theorem rO{i:Nat}{x:Str}{pos:Pos}(hN:X.N[i]?=some x)(hv:jK X.env.scope x)(hd:(x == ("__debug__":Str))=false:=by decide)(hcd:(x == ("__classdict__":Str))=false:=by decide):PE X (.Name x pos) (bR i):=by
 intro pins s σ H Q I h
 obtain⟨v,e,h⟩:=h
 obtain⟨m,hn,hl⟩:=I.loc
 obtain⟨u,r,l⟩:=hl i x v hN e hv
 have fin:EP X pins σ Q u s:=⟨v,H,I,r,h⟩
 rcases l with⟨hk,hm⟩ | ⟨hk,c,hc,hcell⟩
 ·exact wpAny_Name (wpAny_loadName_local I.ok.kind hk hn hm fin) hd
 ·rcases hk with hk | hk
  ·exact wpAny_Name (wpAny_loadName_cell I.ok.kind hk hc hcell fin) hd
  ·exact wpAny_Name (wpAny_loadName_free I.ok.kind hk hc hcell fin hcd) hd
theorem ad{i j pos}:PE X (.Constant (.int i) j pos) (tC (.int i)):=fun _ _ _ H _ I h=>wpAny_Constant_int ⟨.int i,H,I.tok _,⟨_,rfl⟩,h⟩
theorem fi{b j pos}:PE X (.Constant (.bool b) j pos) (tC (.bl b)):=fun _ _ _ H _ I h=>Constant_bool ⟨.bl b,H,I,rfl,h⟩
theorem fX{j pos}:PE X (.Constant .none j pos) (tC .non):=fun _ _ _ H _ I h=>Constant_none ⟨.non,H,I,rfl,h⟩
theorem bB{x j pos}:PE X (.Constant (.str x) j pos) (tC (.str x)):=fun _ _ _ H _ I h=>Calls.Constant_str ⟨.str x,H,I.tok _,⟨_,rfl⟩,h⟩
def Gl(X:Cx)(x:Str):Prop:=X.env.kindOf x=some .globalImplicit
theorem eO{E:Value→Shared→Prop}{pins:List (Addr×Obj)}{s:Shared}{σ:St}{H:Hp}{x:Str}{u:Value}{pos:Pos}{Q:Value→Shared→Prop}(I:Inv X pins σ H s)(hg:Gl X x)(hm:X.mg x=some u)(h:Q u s)(hd:(x == ("__debug__":Str))=false:=by decide):wpAny (model X.prog X.w) X.A (eval (.Name x pos) X.env) Q E s:=
 Calls.Name_function_global I.ok.kind hg (Calls.loadGlobal_global (by rw[I.ok.glob];exact I.mod.glob.keeps I.bk) hm h) hd
theorem dh{E:Value→Shared→Prop}{pins:List (Addr×Obj)}{s:Shared}{σ:St}{H:Hp}{x:Str}{u:Value}{pos:Pos}{Q:Value→Shared→Prop}(I:Inv X pins σ H s)(hg:Gl X x)(hm:X.mg x=none)(hv:bootBuiltins x=some u)(h:Q u s)(hn:x≠"__name__":=by decide)(hd:(x == ("__debug__":Str))=false:=by decide):wpAny (model X.prog X.w) X.A (eval (.Name x pos) X.env) Q E s:=by
 obtain⟨mb,h1,h2⟩:=I.mod.blt
 exact Calls.Name_function_global I.ok.kind hg (Calls.loadGlobal_builtin (by rw[I.ok.glob];exact I.mod.glob.keeps I.bk) hm (by rw[I.ok.blt];exact h1.keeps I.bk) ((h2 x hn).trans hv) h) hd
theorem ss{x:Str}{v:V}{u:Value}{pos:Pos}(hg:Gl X x)(hm:X.mg x=some u)(r:RelV v u)(hd:(x == ("__debug__":Str))=false:=by decide):PE X (.Name x pos) (tC v):=
 fun _ _ _ H _ I h=>eO I hg hm ⟨v,H,I,r,h⟩ hd
theorem lh{x:Str}{v:V}{u:Value}{pos:Pos}(hg:Gl X x)(hm:X.mg x=none)(hv:bootBuiltins x=some u)(r:RelV v u)(hn:x≠"__name__":=by decide)(hd:(x == ("__debug__":Str))=false:=by decide):PE X (.Name x pos) (tC v):=
 fun _ _ _ H _ I h=>dh I hg hm hv ⟨v,H,I,r,h⟩ hn hd
variable{a b:Expr}{ta tb:TE}{pos:Pos}
def tB(t:TE):TT:=fun σ H Q=>t σ H fun x H1=>∃c,x=.bl c∧Q c H1
theorem bZ{e:Expr}{t:TE}(h:PE X e t)(he:∀whole,isTrue e X.env whole=(do let v←whole;standAt e.pos;holding [v] (truthy v)):=by intro _;rfl):PT X e (tB t):=by
 intro pins s σ H Q I hw
 refine isTrue_plain (am (h pins s σ H _ I hw) fun v s1 ⟨x,H1,I1,r1,q1⟩=>?_) (he _)
 obtain⟨d,rfl,q⟩:=q1
 cases r1
 exact wpAny_truthy_bool ⟨H1,I1,q⟩
variable{tA tB':TT}{rest:List Expr}
def rF(t u:TT):TT:=fun σ H Q=>t σ H fun c H1=>if c=true then u σ H1 Q else Q false H1
def tu(t u:TT):TT:=fun σ H Q=>t σ H fun c H1=>if c=true then Q true H1 else u σ H1 Q
def pR(t:TT):TT:=fun σ H Q=>t σ H fun c H1=>Q (!c) H1
theorem cf(ha:PT X a tA):PW X (.BoolOp .And [a] pos) tA:=by
 intro wh pins s σ H Q I h
 refine isTrue_and (am (ha pins s σ H Q I h) fun c s1 e=>?_)
 cases c with
 | true=>exact isTrue_and_nil e
 | false=>exact e
theorem fI(ha:PT X a tA):PW X (.BoolOp .Or [a] pos) tA:=by
 intro wh pins s σ H Q I h
 refine isTrue_or (am (ha pins s σ H Q I h) fun c s1 e=>?_)
 cases c with
 | false=>exact isTrue_or_nil e
 | true=>exact e
theorem bV(ha:PT X a tA)(hb:PW X (.BoolOp .And (b::rest) pos) tB'):PW X (.BoolOp .And (a::b::rest) pos) (rF tA tB'):=by
 intro wh pins s σ H Q I h
 refine isTrue_and (am (ha pins s σ H _ I h) fun c s1 ⟨H1,I1,q1⟩=>?_)
 cases c with
 | true=>exact hb wh pins s1 σ H1 Q I1 q1
 | false=>exact⟨H1,I1,q1⟩
theorem eJ(ha:PT X a tA)(hb:PW X (.BoolOp .Or (b::rest) pos) tB'):PW X (.BoolOp .Or (a::b::rest) pos) (tu tA tB'):=by
 intro wh pins s σ H Q I h
 refine isTrue_or (am (ha pins s σ H _ I h) fun c s1 ⟨H1,I1,q1⟩=>?_)
 cases c with
 | true=>exact⟨H1,I1,q1⟩
 | false=>exact hb wh pins s1 σ H1 Q I1 q1
theorem dv(ha:PT X a tA):PT X (.UnaryOp .Not a pos) (pR tA):=by
 intro pins s σ H Q I h
 exact isTrue_not (ha pins s σ H (fun c H1=>Q (!c) H1) I h)
def vN(ta tb:TE):TE:=fun σ H Q=>ta σ H fun x H1=>∃c,x=.bl c∧if c=true then tb σ H1 Q else Q (.bl false) H1
def vQ(ta:TE):TE:=fun σ H Q=>ta σ H fun x H1=>∃c,x=.bl c∧Q (.bl (!c)) H1
theorem kI{op}{t:TE}(h:PE X a t):PE X (.BoolOp op [a] pos) t:=fun pins s σ H Q I hw=>BoolOp_one (h pins s σ H Q I hw)
theorem gM(ha:PE X a ta)(hb:PE X (.BoolOp .And (b::rest) pos) tb):PE X (.BoolOp .And (a::b::rest) pos) (vN ta tb):=by
 intro pins s σ H Q I h
 refine BoolOp_and (am (ha pins s σ H _ I h) fun v s1 ⟨x,H1,I1,r1,q1⟩=>?_)
 obtain⟨c,rfl,q1⟩:=q1
 cases r1
 refine wpAny_truthy_bool ?_
 cases c with
 | true=>exact hb pins s1 σ H1 Q I1 q1
 | false=>exact⟨.bl false,H1,I1,rfl,q1⟩
theorem lY(ha:PE X a ta):PE X (.UnaryOp .Not a pos) (vQ ta):=by
 intro pins s σ H Q I h
 refine UnaryOp_ (am (ha pins s σ H _ I h) fun v s1 ⟨x,H1,I1,r1,q1⟩=>?_)
 obtain⟨c,rfl,q1⟩:=q1
 cases r1
 exact not_of (wpAny_truthy_bool ⟨.bl (!c),H1,I1,rfl,q1⟩)
def p0(t:TT)(ta tb:TE):TE:=fun σ H Q=>t σ H fun c H1=>if c=true then ta σ H1 Q else tb σ H1 Q
theorem oY{c:Expr}(hc:PT X c tA)(ha:PE X a ta)(hb:PE X b tb):PE X (.IfExp c a b pos) (p0 tA ta tb):=by
 intro pins s σ H Q I h
 refine wpAny_IfExp (am (hc pins s σ H _ I h) fun d s1 ⟨H1,I1,q1⟩=>?_)
 cases d with
 | true=>exact ha pins s1 σ H1 Q I1 q1
 | false=>exact hb pins s1 σ H1 Q I1 q1
end
def SqL(K:PySem.W.Frag)(H:Hp)(a:Addr)(xs:List V):Prop:=
 Rd H a (.lst xs)∨
  ∃(o:Obj) (its:Array Value) (n:Nat),K.lookup a=some o∧o.cls=.type "list"∧o.dict=none∧o.data=.seq its n∧its.size≤sizeLine∧Vals xs its.toList
def SqT(K:PySem.W.Frag)(H:Hp)(a:Addr)(xs:List V):Prop:=
 Rd H a (.tup xs)∨
  ∃(o:Obj) (its:Array Value) (n:Nat),K.lookup a=some o∧o.cls=.type "tuple"∧o.data=.seq its n∧its.size≤sizeLine∧Vals xs its.toList
def pJ:Value→Option V
 | .none=>some .non
 | .bool b=>some (.bl b)
 | .int i _=>some (.int i)
 | .str x _=>some (.str x)
 | .bytes b _=>some (.byt b)
 | .float b _=>some (.flt b)
 | .ref a=>some (.ref a)
 | .type n=>some (.ty n)
 | _=>none
theorem RelV.abs{x:V}{u:Value}(r:RelV x u):pJ u=some x:=by
 cases x with
 | non=>cases r;rfl
 | bl _=>cases r;rfl
 | int _=>obtain⟨t,rfl⟩:=r;rfl
 | str _=>obtain⟨t,rfl⟩:=r;rfl
 | byt _=>obtain⟨t,rfl⟩:=r;rfl
 | flt _=>obtain⟨t,rfl⟩:=r;rfl
 | ref _=>cases r;rfl
 | ty _=>cases r;rfl
theorem RelV.inj{x y:V}{u:Value}(r:RelV x u)(q:RelV y u):x=y:=Option.some.inj (r.abs.symm.trans q.abs)
theorem Vals.inj:∀{xs ys:List V} {us:List Value},Vals xs us→Vals ys us→xs=ys
 | _,_,_,.nil,.nil=>rfl
 | _,_,_,.cons r t,.cons r' t'=>by rw[r.inj r',Vals.inj t t']
section
variable{X:Cx}{pins:List (Addr×Obj)}{σ:St}{H:Hp}{s:Shared}{a:Addr}{xs ys:List V}
theorem SqL.of{K:PySem.W.Frag}(h:H a=some (.lst xs)):SqL K H a xs:=.inl (.inl h)
theorem SqT.of{K:PySem.W.Frag}(h:H a=some (.tup xs)):SqT K H a xs:=.inl (.inl h)
theorem Inv.list(I:Inv X pins σ H s)(h:SqL X.K H a xs):∃its:List Value,Vals xs its∧PlainL s.heap a its.toArray∧xs.length≤sizeLine:=by
 rcases h with h | ⟨o,its,n,hk,hc,hd,hs,hz,r⟩
 ·obtain⟨z,its,n,r,e⟩:=h.ok I.hok
  exact⟨its,r,⟨_,n,e,rfl,rfl,rfl⟩,z⟩
 ·refine⟨its.toList,r,⟨o,n,I.kIn a o hk,hc,hd,by simpa using hs⟩,?_⟩
  have e:=r.length
  simp only[Array.length_toList] at e
  lia
theorem Inv.tuple(I:Inv X pins σ H s)(h:SqT X.K H a xs):∃its:List Value,Vals xs its∧IsTup s.heap a its.toArray∧xs.length≤sizeLine:=by
 rcases h with h | ⟨o,its,n,hk,hc,hs,hz,r⟩
 ·obtain⟨z,its,r,p⟩:=h.ok I.hok
  exact⟨its,r,p,z⟩
 ·refine⟨its.toList,r,⟨o,I.kIn a o hk,hc,n,by simpa using hs⟩,?_⟩
  have e:=r.length
  simp only[Array.length_toList] at e
  lia
theorem Inv.list_inj(I:Inv X pins σ H s)(h:SqL X.K H a xs)(h':SqL X.K H a ys):xs=ys:=by
 obtain⟨its,r,⟨o,n,e,_,_,d⟩,_⟩:=I.list h
 obtain⟨its',r',⟨o',n',e',_,_,d'⟩,_⟩:=I.list h'
 rw[e] at e';cases e'
 rw[d] at d'
 injection d' with d1 _
 have:its=its':=by simpa using congrArg Array.toList d1
 subst this
 exact r.inj r'
end
abbrev Cx.wish(X:Cx)(E:Value→Shared→Prop):Cx:={X with xe:=E}
abbrev Cx.nox(X:Cx):Cx:=X.wish fun _ _=>False
theorem Cx.Ok.wish{X:Cx}(ok:X.Ok)(E:Value→Shared→Prop):(X.wish E).Ok:=
 ⟨ok.mod,ok.kind,ok.glob,ok.blt,ok.above,ok.inj,ok.has,ok.cab,ok.hd,ok.frames,ok.stk,ok.exf,ok.bs,ok.bsz,ok.noex,ok.exfs,ok.funs,ok.frf⟩
theorem Cx.Ok.unwish{X:Cx}{E:Value→Shared→Prop}(ok:(X.wish E).Ok):X.Ok:=
 ⟨ok.mod,ok.kind,ok.glob,ok.blt,ok.above,ok.inj,ok.has,ok.cab,ok.hd,ok.frames,ok.stk,ok.exf,ok.bs,ok.bsz,ok.noex,ok.exfs,ok.funs,ok.frf⟩
section
variable{X:Cx}{pins:List (Addr×Obj)}{σ:St}{H:Hp}{s:Shared}{E:Value→Shared→Prop}
theorem Inv.wish(I:Inv X pins σ H s)(E:Value→Shared→Prop):Inv (X.wish E) pins σ H s:=⟨I.ok.wish E,I.os,I.bare,I.base,I.loc,I.cell,I.free,I.freeC,I.pin,I.hok,I.len⟩
theorem Inv.unwish(I:Inv (X.wish E) pins σ H s):Inv X pins σ H s:=⟨I.ok.unwish,I.os,I.bare,I.base,I.loc,I.cell,I.free,I.freeC,I.pin,I.hok,I.len⟩
theorem SP.unwish{D:Ends}{f:Flow}{s':Shared}(h:SP (X.wish E) pins D f s'):SP X pins D f s':=by
 cases f with
 | next=>obtain⟨σ',H',I,q⟩:=h;exact⟨σ',H',I.unwish,q⟩
 | brk=>obtain⟨σ',H',I,q⟩:=h;exact⟨σ',H',I.unwish,q⟩
 | cont=>obtain⟨σ',H',I,q⟩:=h;exact⟨σ',H',I.unwish,q⟩
 | ret u=>obtain⟨v,σ',H',I,r,q⟩:=h;exact⟨v,σ',H',I.unwish,r,q⟩
theorem PSs.nox{st:List Stmt}{t:TS}(h:PSs X.nox st t):PSs X st t:=fun pins s σ H D I hw=>
 wpAny_mono (h pins s σ H D (I.wish _) hw) (fun _ _ q=>q.unwish) fun _ _ z=>False.elim z
end
section
variable{X:Cx}{st:Stmt}{rest:List Stmt}{t u:TS}{e:Expr}{te:TE}{pos:Pos}
def uD:TS:=fun D σ H=>D.nx σ H
def fe(t u:TS):TS:=fun D σ H=>t {D with nx:=u D} σ H
theorem aP:PSs X [] uD:=fun _ _ σ H _ I h=>wpAny_execs_nil ⟨σ,H,I,h⟩
theorem af(h1:PS X st t)(h2:PSs X rest u):PSs X (st::rest) (fe t u):=by
 intro pins s σ H D I h
 refine wpAny_execs_cons (am (h1 pins s σ H {D with nx:=u D} I h) fun f s1 q=>?_)
 cases f with
 | next=>
   obtain⟨σ',H',I',q⟩:=q
   exact h2 pins s1 σ' H' D I' q
 | ret v=>exact q
 | brk=>exact q
 | cont=>exact q
theorem ah(h1:PS X st t):PSs X [st] t:=by
 intro pins s σ H D I h
 refine wpAny_execs_cons (am (h1 pins s σ H D I h) fun f s1 q=>?_)
 cases f with
 | next=>exact wpAny_execs_nil q
 | ret v=>exact q
 | brk=>exact q
 | cont=>exact q
theorem Inv.quiet{pins:List (Addr×Obj)}{σ:St}{H:Hp}{s:Shared}(I:Inv X pins σ H s):interactive X.env=false:=by simp[interactive,I.ok.kind]
def p4(te:TE):TS:=fun D σ H=>te σ H fun _ H1=>D.nx σ H1
theorem bb(he:PE X e te)(hs:swapsWith e none pos.line X.env=pure false:=by rfl):PS X (.Expr e pos) (p4 te):=by
 intro pins s σ H D I h
 exact wpAny_Expr_any (am (he pins s σ H _ I h) fun v s1 ⟨x,H1,I1,r1,q1⟩=>⟨σ,H1,I1,q1⟩) I.quiet hs
def vp(te:TE):TS:=fun D σ H=>te σ H D.rt
theorem aH(he:PE X e te):PS X (.Return (some e) pos) (vp te):=by
 intro pins s σ H D I h
 exact wpAny_Return_some (am (he pins s σ H _ I h) fun v s1 ⟨x,H1,I1,r1,q1⟩=>⟨x,σ,H1,I1,r1,q1⟩)
def tQ(c:TT)(t u:TS):TS:=fun D σ H=>c σ H fun b H1=>if b=true then t D σ H1 else u D σ H1
theorem aM{c:Expr}{a b:List Stmt}{tc:TT}(hc:PT X c tc)(ha:PSs X a t)(hb:PSs X b u):PS X (.If c a b pos) (tQ tc t u):=by
 intro pins s σ H D I h
 refine wpAny_If (am (hc pins s σ H _ I h) fun d s1 ⟨H1,I1,q1⟩=>?_)
 cases d with
 | true=>exact ha pins s1 σ H1 D I1 q1
 | false=>exact hb pins s1 σ H1 D I1 q1
def vB:TS:=fun _ _ _=>False
theorem gy:PS X st vB:=fun _ _ _ _ _ _ h=>h.elim
end
abbrev TG:=V→St→Hp→(St→Hp→Prop)→Prop
abbrev ej:=List V→St→Hp→(St→Hp→Prop)→Prop
def PG(X:Cx)(target:Expr)(t:TG):Prop:=
 ∀ (pins:List (Addr×Obj)) (s:Shared) (σ:St) (H:Hp) (v:V) (u:Value) (Q:St→Hp→Prop),Inv X pins σ H s→RelV v u→t v σ H Q→
   wpAny (model X.prog X.w) X.A (assign target X.env u) (fun _ s'=>∃σ' H',Inv X pins σ' H' s'∧Q σ' H') X.xe s
def fZ(X:Cx)(ts:List Expr)(t:ej):Prop:=
 ∀ (pins:List (Addr×Obj)) (s:Shared) (σ:St) (H:Hp) (vs:List V) (us:List Value) (Q:St→Hp→Prop),Inv X pins σ H s→Vals vs us→t vs σ H Q→
   wpAny (model X.prog X.w) X.A (assignInOrder ((assignEach ts X.env).map (·.2)) us) (fun _ s'=>∃σ' H',Inv X pins σ' H' s'∧Q σ' H') X.xe s
abbrev jo:=V→V→V→Hp→(Hp→Prop)→Prop
def mq(X:Cx)(t:jo):Prop:=
 ∀ (pins:List (Addr×Obj)) (s:Shared) (σ:St) (H:Hp) (o i v:V) (ov iv u:Value) (Q:Hp→Prop),Inv X pins σ H s→RelV o ov→RelV i iv→RelV v u→t o i v H Q→
   wpAny (model X.prog X.w) X.A (setItem ov iv u) (fun _ s'=>∃H',Inv X pins σ H' s'∧Q H') X.xe s
section
variable{X:Cx}{pos:Pos}
def cD(i:Nat):TG:=fun v σ H Q=>Q (σ.set i (some v)) H
theorem aV{i:Nat}{x:Str}(hN:X.N.Nodup)(hi:X.N[i]?=some x)(hx:dW X.env.scope x)(hf:X.fn x=true∨X.env.scope.names.lookup x=some .local:=by first | exact .inl rfl | exact .inr rfl | assumption):PG X (.Name x pos) (cD i):=by
 intro pins s σ H v u Q I r h
 exact wpAny_assign_Name (iu I hN hi hx r (fun s' I'=>⟨_,H,I',h⟩) hf)
def uR:ej:=fun vs σ H Q=>vs=[]∧Q σ H
def pH(t:TG)(u:ej):ej:=fun vs σ H Q=>∃v r,vs=v::r∧t v σ H fun σ' H'=>u r σ' H' Q
theorem cA:fZ X [] uR:=by
 intro pins s σ H vs us Q I r h
 obtain⟨e,h⟩:=h
 subst e
 cases r
 exact assignInOrder_nil ⟨σ,H,I,h⟩
theorem bn{e:Expr}{es:List Expr}{t:TG}{u:ej}(h1:PG X e t)(h2:fZ X es u)(hs:(assignEach (e::es) X.env).map (·.2)=assign e X.env::(assignEach es X.env).map (·.2):=by rfl):fZ X (e::es) (pH t u):=by
 intro pins s σ H vs us Q I r h
 obtain⟨v,vr,e1,h⟩:=h
 subst e1
 cases r with
 | cons r rr=>
   rw[hs]
   refine assignInOrder_cons (am (h1 pins s σ H _ _ _ I r h) fun _ s1 ⟨σ1,H1,I1,q1⟩=>?_)
   exact h2 pins s1 σ1 H1 _ _ Q I1 rr q1
def oS(K:PySem.W.Frag)(n:Nat)(t:ej):TG:=fun v σ H Q=>∃a xs,v=.ref a∧SqT K H a xs∧xs.length=n∧t xs σ H Q
theorem cH{es:List Expr}{k:Nat}{t:ej}{n:Nat}(hc:X.calm=true)(h:fZ X es t)(hn:(assignEach es X.env).length=n:=by rfl)(hst:(assignEach es X.env).findIdx? (·.1)=none:=by rfl):PG X (.Tuple es k pos) (oS X.K n t):=by
 intro pins s σ H v u Q I r hw
 obtain⟨a,xs,e1,hq,hl,hw⟩:=hw
 subst e1
 cases r
 obtain⟨its,rv,ht,hz⟩:=I.tuple hq
 refine assign_Tuple_tuple (I.ok.hd hc) ht (by simp[hn,←hl,rv.length]) hst fun h' hx=>?_
 have I1:Inv X pins σ H {s with heap:=h'}:=I.kept (t':=s.toks) fun b o e=>hx b o (Nat.ne_of_lt (Heap.lt_size e)) e
 exact h pins _ σ H xs _ Q I1 (by simpa using rv) hw
def rX(to ti:TE)(t:jo):TG:=fun v σ H Q=>to σ H fun o H1=>ti σ H1 fun i H2=>t o i v H2 fun H3=>Q σ H3
theorem ml{o i:Expr}{to ti:TE}{t:jo}(ho:PE X o to)(hi:PE X i ti)(hs:mq X t)(ha:∀v,assign (.Subscript o i pos) X.env v=(do
 let ov←holding [v] (eval o X.env)
 let iv←holding [v,ov] (eval i X.env)
 standAt pos
 holding [v,ov,iv] (setItem ov iv v)
 release [v,ov,iv] []):=by intro _;rfl):PG X (.Subscript o i pos) (rX to ti t):=by
 intro pins s σ H v u Q I r h
 rw[ha]
 refine wpAny_bind (wpAny_holding (am (ho pins s σ H _ I h) fun ov s1 ⟨x,H1,I1,r1,q1⟩=>?_))
 refine wpAny_bind (wpAny_holding (am (hi pins s1 σ H1 _ I1 q1) fun iv s2 ⟨y,H2,I2,r2,q2⟩=>?_))
 refine wpAny_bind (wpAny_standAt (wpAny_bind (wpAny_holding (am (hs pins s2 σ H2 x y v ov iv u _ I2 r1 r2 r q2) fun _ s3 ⟨H3,I3,q3⟩=>?_))))
 exact wpAny_release ⟨σ,H3,I3,q3⟩
def dL(te:TE)(g:TG):TS:=fun D σ H=>te σ H fun x H1=>g x σ H1 D.nx
theorem fP{tg e:Expr}{te:TE}{g:TG}(he:PE X e te)(hg:PG X tg g)(hs:swapsWithSole [tg] e pos.line X.env=pure false:=by rfl)(hw:swappedStores [tg] e X.env=pure none:=by rfl)
 (h1:(assignEach [tg] X.env).map (·.2)=[assign tg X.env]:=by rfl):PS X (.Assign [tg] e pos) (dL te g):=by
 intro pins s σ H D I h
 refine wpAny_Assign_stores (am (he pins s σ H _ I h) fun v s1 ⟨x,H1,I1,r1,q1⟩=>?_) hs hw
 rw[h1]
 exact am (hg pins s1 σ H1 x v _ I1 r1 q1) fun _ s2 q=>q
theorem aw{i:Nat}{x:Str}{e:Expr}{te:TE}{pos':Pos}(hN:X.N.Nodup)(hi:X.N[i]?=some x)(hx:dW X.env.scope x)(he:PE X e te)(hs:swapsWith e (some (.Name x pos')) pos.line X.env=pure false:=by rfl)(hf:X.fn x=true∨X.env.scope.names.lookup x=some .local:=by first | exact .inl rfl | exact .inr rfl | assumption):
 PS X (.Assign [.Name x pos'] e pos) (dL te (cD i)):=by
 intro pins s σ H D I h
 refine wpAny_Assign_Name (am (he pins s σ H _ I h) fun v s1 ⟨y,H1,I1,r1,q1⟩=>?_) hs
 exact iu I1 hN hi hx r1 (fun s2 I2=>⟨_,H1,I2,q1⟩) hf
end
section
variable{X:Cx}{pos:Pos}
def pF(c:TT)(tb:TS):TS:=fun D σ H=>∃W:Nat→St→Hp→Prop,(∃m,W m σ H)∧∀m σ H,W m σ H→
 c σ H fun b H1=>if b=true then∃N:St→Hp→Prop,(∀σ' H',N σ' H'→∃m',m'<m∧W m' σ' H')∧tb {D with nx:=N,ct:=N,bk:=D.nx} σ H1 else D.nx σ H1
theorem iB{c:Expr}{body:List Stmt}{tc:TT}{tb:TS}(hp:PassesOwn (model X.prog X.w) X.A X.env X.xe)(hc:PT X c tc)(hb:PSs X body tb):PS X (.While c body [] pos) (pF tc tb):=by
 intro pins s σ H D I h
 obtain⟨W,⟨m0,w0⟩,turn⟩:=h
 refine wpAny_While (codeAny_whileLoop (fun n s'=>∃σ' H',Inv X pins σ' H' s'∧W n σ' H') ?_ m0 ⟨σ,H,I,w0⟩)
 rintro n s1 ⟨σ1,H1,I1,w1⟩
 refine wpAny_passesOwn hp (am (hc pins s1 σ1 H1 _ I1 (turn n σ1 H1 w1)) fun b s2 ⟨H2,I2,q2⟩=>?_)
 cases b with
 | true=>
   obtain⟨N,hN,q2⟩:=q2
   rw[if_pos rfl]
   refine wpAny_passesOwn hp (am (hb pins s2 σ1 H2 _ I2 q2) fun f s3 q3=>?_)
   cases f with
   | next=>
     obtain⟨σ3,H3,I3,n3⟩:=q3
     obtain⟨m',hm,w3⟩:=hN σ3 H3 n3
     exact⟨m',hm,σ3,H3,I3,w3⟩
   | cont=>
     obtain⟨σ3,H3,I3,n3⟩:=q3
     obtain⟨m',hm,w3⟩:=hN σ3 H3 n3
     exact⟨m',hm,σ3,H3,I3,w3⟩
   | brk=>exact q3
   | ret v=>exact q3
 | false=>
   rw[if_neg Bool.false_ne_true]
   exact wpAny_execs_nil ⟨σ1,H2,I2,q2⟩
end
structure It where
 go:Nat→Hp→Prop
 yld:Nat→Hp→V→Hp→Prop
 stop:Nat→Hp→Prop
def bL(X:Cx)(pins:List (Addr×Obj))(H:Hp)(b:Addr):Prop:=
 H b=none∧b≠X.env.locals∧b∉X.fs∧(b∈X.ex∨X.s₀.heap.objs.size≤b)∧(∀x c,X.env.cells.lookup x=some c→c≠b)∧∀p∈X.pn++pins,p.1≠b
theorem Inv.fpOk{X:Cx}{pins:List (Addr×Obj)}{σ:St}{H H':Hp}{s:Shared}{b:Addr}(I:Inv X pins σ H s)(hb:s.heap.objs.size≤b)(hn:H' b=none):bL X pins H' b:=by
 refine⟨hn,Nat.ne_of_gt (Nat.lt_of_lt_of_le I.lt hb),I.nofs hb,.inr (Nat.le_trans I.sz hb),fun x c e z=>?_,fun p hp z=>?_⟩
 ·obtain⟨v,q⟩:=I.cell x c e
  exact absurd (Nat.lt_of_lt_of_le q.lt (by rw[z];exact hb)) (Nat.lt_irrefl _)
 ·exact absurd (Nat.lt_of_lt_of_le (Heap.lt_size (I.pin p hp).1) (by rw[z];exact hb)) (Nat.lt_irrefl _)
structure Turn(P:Program)(w:World)(K:PySem.W.Frag)(tg:Expr)(J:It)(fp:List Addr)(it:Addr)(tn:Nat→Heap→Prop):Prop where
 mem:it∈fp
 obj:∀i h,tn i h→∀b∈fp,∃o,h.get? b=some o∧∀v,o.data≠ .cell v
 keep:∀i h h',tn i h→(∀b∈fp,∀o,h.get? b=some o→h'.get? b=some o)→tn i h'
 item:∀(X:Cx),X.prog=P→X.w=w→X.K=K→X.calm=true→∀(i:Nat) (pins:List (Addr×Obj)) (s:Shared) (σ:St) (H:Hp) (E:Value→Shared→Prop),Inv X pins σ H s→(∀b∈fp,bL X pins H b)→tn i s.heap→J.go i H→
  wpAny (model P w) X.A (pyNext (.ref it)) (fun r s1=>∃u,r=some u∧
   wpAny (model P w) X.A (letOwnedTupleGo tg (.ref it) u) (fun _ s2=>∃x H',Inv X pins σ H' s2∧RelV x u∧J.yld i H x H'∧tn (i+1) s2.heap∧∀b∈fp,H' b=none) E s1) E s
 done:∀(X:Cx),X.prog=P→X.w=w→X.K=K→X.calm=true→∀(i:Nat) (pins:List (Addr×Obj)) (s:Shared) (σ:St) (H:Hp) (E:Value→Shared→Prop),Inv X pins σ H s→(∀b∈fp,bL X pins H b)→tn i s.heap→J.stop i H→
  wpAny (model P w) X.A (pyNext (.ref it)) (fun r s1=>r=none∧Inv X pins σ H s1) E s
 self:∀(A:Around) (i:Nat) (s:Shared) (Q:Value→Shared→Prop) (E:Value→Shared→Prop),tn i s.heap→Q (.ref it) s→wpAny (model P w) A (pyIter (.ref it)) Q E s
abbrev TI:=St→Hp→(It→Hp→Prop)→Prop
def ou(X:Cx)(pins:List (Addr×Obj))(σ:St)(tg:Expr)(R:It→Hp→Prop)(itv:Value)(s2:Shared):Prop:=
 ∃(it:Addr) (fp:List Addr) (tn:Nat→Heap→Prop) (J:It) (H':Hp),itv=.ref it∧Inv X pins σ H' s2∧Turn X.prog X.w X.K tg J fp it tn∧tn 0 s2.heap∧(∀b∈fp,bL X pins H' b)∧R J H'
def PI(X:Cx)(tg iter:Expr)(wi:TI):Prop:=
 ∀ (pins:List (Addr×Obj)) (s:Shared) (σ:St) (H:Hp) (R:It→Hp→Prop),Inv X pins σ H s→wi σ H R→
   wpAny (model X.prog X.w) X.A (eval iter X.env) (fun v s1=>wpAny (model X.prog X.w) X.A (pyIter v) (ou X pins σ tg R) X.xe s1) X.xe s
theorem gm{M:Model}{A:Around}{E:Value→Shared→Prop}{s:Shared}{tg:Expr}{it:Addr}{u:Value}{o:Obj}{n:String}{vs:Array Value}{Q:Unit→Shared→Prop}(ho:s.heap.get? it=some o)(hc:o.cls=.type n)(hd:o.data=.fields vs)(hn:["enumerate","zip","dict_itemiterator","dict_reverseitemiterator","odict_iterator","itertools.zip_longest","itertools.pairwise"].contains n=false)(hQ:Q () s):wpAny M A (letOwnedTupleGo tg (.ref it) u) Q E s:=by
 unfold letOwnedTupleGo
 cases tg <;> first
  | exact wpAny_pure hQ
  | (cases u <;> first
   | exact wpAny_pure hQ
   | (refine wpAny_bind (wpAny_load ho ?_)
      rw[hc,hd]
      show wpAny M A (if(["enumerate","zip","dict_itemiterator","dict_reverseitemiterator","odict_iterator","itertools.zip_longest","itertools.pairwise"].contains n && vs[0]? == some (rawInt _))=true then _ else _) Q E s
      rw[if_neg (by intro h;rw[hn,Bool.false_and] at h;cases h)]
      exact wpAny_pure hQ))
def cQ(K:PySem.W.Frag)(a:Addr):It:=
 ⟨fun i H=>∃xs x,SqL K H a xs∧xs[i]?=some x,fun i H x H'=>H'=H∧∀xs,SqL K H a xs→xs[i]?=some x,fun i H=>∃xs,SqL K H a xs∧xs.length≤i⟩
def cx(lo:Int)(n:Nat):It:=⟨fun i _=>i<n,fun i H x H'=>H'=H∧x=.int (lo+i),fun i _=>n≤i⟩
theorem vO{P:Program}{w:World}{K:PySem.W.Frag}{tg:Expr}(a it:Addr):Turn P w K tg (cQ K a) [it] it (fun i h=>h.IsListIter it a i) where
 mem:=by simp
 obj:=fun i h st b hb=>by
  have e:b=it:=by simpa using hb
  subst e
  obtain⟨o,e,c,d⟩:=st
  exact⟨o,e,fun v z=>by rw[d] at z;cases z⟩
 keep:=fun i h h' st k=>st.at fun o e=>k it (by simp) o e
 item:=by
  intro X hP hw hK hc i pins s σ H E I hf st hg
  subst hP hw hK
  obtain⟨xs,x,hq,hx⟩:=hg
  obtain⟨its,rv,p,hz⟩:=I.list hq
  obtain⟨u,hu,ru⟩:=rv.get hx
  obtain⟨f0,f1,f2,f3,f4,f5⟩:=hf it (by simp)
  refine wpAny_pyNext_list_item st p.isList (x:=u) (by simpa using hu) fun h' st' sb=>?_
  have I1:Inv X pins σ H {s with heap:=h'}:=I.turned (t':=s.toks) (fun b o hb e=>(sb.2 b hb).trans e) f0 f1 f3 f4 f5
  obtain⟨o,e,c,d⟩:=id st'
  exact⟨u,rfl,gm (s:={s with heap:=h'}) e c d (by decide) ⟨x,H,I1,ru,⟨rfl,fun ys hy=>by rw[I.list_inj hy hq];exact hx⟩,st',fun b hb=>(hf b hb).1⟩⟩
 done:=by
  intro X hP hw hK hc i pins s σ H E I hf st hg
  subst hP hw hK
  obtain⟨xs,hq,hx⟩:=hg
  obtain⟨its,rv,p,hz⟩:=I.list hq
  obtain⟨f0,f1,f2,f3,f4,f5⟩:=hf it (by simp)
  have hl:=rv.length
  exact wpAny_pyNext_list_end (I.ok.hd hc) st p.isList (by simp;lia) fun h' eb=>⟨rfl,I.turned (t':=s.toks) (fun b o hb e=>eb b o hb e) f0 f1 f3 f4 f5⟩
 self:=fun _ _ _ _ _ st h=>wpAny_pyIter_listiter st h
theorem vS{P:Program}{w:World}{K:PySem.W.Frag}{tg:Expr}(it:Addr)(lo:Int)(n:Nat):Turn P w K tg (cx lo n) [it] it (fun i h=>IsRangeIter h it (lo+(i:Nat)*1) ((n:Int)-(i:Nat)) 1) where
 mem:=by simp
 obj:=fun i h st b hb=>by
  have e:b=it:=by simpa using hb
  subst e
  exact⟨_,st,fun v z=>by
   have z':Data.fields _=Data.cell v:=z
   cases z'⟩
 keep:=fun i h h' st k=>k it (by simp) _ st
 item:=by
  intro X hP hw hK hc i pins s σ H E I hf st hg
  subst hP hw hK
  obtain⟨f0,f1,f2,f3,f4,f5⟩:=hf it (by simp)
  have W:=Walks.range (prog:=X.prog) (w:=X.w) (I.ok.hd hc) it lo 1 n
  refine W.item i s _ _ hg st fun v h' tk hv st' kk=>?_
  obtain⟨t,rfl⟩:=hv
  have I1:Inv X pins σ H {s with heap:=h',toks:=tk}:=I.turned (fun b o hb e=>kk b o (by simpa using hb) e) f0 f1 f3 f4 f5
  refine⟨_,rfl,gm (s:={s with heap:=h',toks:=tk}) (n:="range_iterator") st' rfl rfl (by decide) ⟨.int (lo+i),H,I1,⟨t,?_⟩,⟨rfl,rfl⟩,st',fun b hb=>(hf b hb).1⟩⟩
  rw[Int.mul_one]
 done:=by
  intro X hP hw hK hc i pins s σ H E I hf st hg
  subst hP hw hK
  obtain⟨f0,f1,f2,f3,f4,f5⟩:=hf it (by simp)
  exact wpAny_pyNext_range_end (I.ok.hd hc) st (by have:n≤i:=hg;lia) fun h' eb=>⟨rfl,I.turned (t':=s.toks) (fun b o hb e=>eb b o hb e) f0 f1 f3 f4 f5⟩
 self:=fun _ _ _ _ _ st h=>wpAny_pyIter_rangeiter st h
section
variable{X:Cx}{tg:Expr}
def kb(K:PySem.W.Frag)(tl:TE):TI:=fun σ H R=>tl σ H fun x H1=>∃a,x=.ref a∧(∃xs,SqL K H1 a xs)∧R (cQ K a) H1
theorem dA{l:Expr}{tl:TE}(hl:PE X l tl):PI X tg l (kb X.K tl):=by
 intro pins s σ H R I h
 refine am (hl pins s σ H _ I h) fun v s1 ⟨x,H1,I1,r1,q1⟩=>?_
 obtain⟨a,e,⟨xs,hq⟩,q⟩:=q1
 subst e
 cases r1
 obtain⟨its,rv,p,hz⟩:=I1.list hq
 refine wpAny_pyIter_list p.isList ?_
 refine⟨s1.heap.objs.size,[s1.heap.objs.size],_,_,H1,rfl,I1.kept (t':=s1.toks) fun b o e=>Heap.get?_push_of_some _ e,vO a _,⟨_,Heap.get?_push_size _ rfl,rfl,rfl⟩,fun b hb=>?_,q⟩
 have e:b=s1.heap.objs.size:=by simpa using hb
 subst e
 exact I1.fpOk (Nat.le_refl _) (I1.hok.fresh (Nat.le_refl _))
theorem j9{pins:List (Addr×Obj)}{σ:St}{H:Hp}{s:Shared}{R:It→Hp→Prop}{E:Value→Shared→Prop}{lo hi:Int}{t u v:Tok}{tk:Nat}(I:Inv X pins σ H s)(h1: -(2 ^ 62)≤lo)(h2:lo<2 ^ 62)(h3: -(2 ^ 62)≤hi)(h4:hi<2 ^ 62)(q:R (cx lo (hi-lo).toNat) H):wpAny (model X.prog X.w) X.A (pyIter (.ref s.heap.objs.size)) (ou X pins σ tg R) E {s with heap:=s.heap.push {cls:=.type "range",data:=.fields #[.int lo t,.int hi u,.int 1 v]},toks:=tk}:=by
 refine wpAny_pyIter_range (IsRange.new ..) (small_one h1 h2 h3 h4) ?_
 have I1:Inv X pins σ H {s with heap:=s.heap.push {cls:=.type "range",data:=.fields #[.int lo t,.int hi u,.int 1 v]},toks:=tk}:=I.kept fun b o e=>Heap.get?_push_of_some _ e
 refine⟨(s.heap.push {cls:=.type "range",data:=.fields #[.int lo t,.int hi u,.int 1 v]}).objs.size,[(s.heap.push {cls:=.type "range",data:=.fields #[.int lo t,.int hi u,.int 1 v]}).objs.size],_,_,H,rfl,
  I1.kept (t':=tk) fun b o e=>Heap.get?_push_of_some _ e,vS _ lo (hi-lo).toNat,?_,fun b hb=>?_,q⟩
 ·have e1:lo+((0:Nat):Int)*1=lo:=by simp
  have e2:(((hi-lo).toNat:Nat):Int)-((0:Nat):Int)=Builtin.Range.rangeSize lo hi 1:=by rw[rangeSize_one];split <;> lia
  show IsRangeIter _ _ (lo+((0:Nat):Int)*1) ((((hi-lo).toNat:Nat):Int)-((0:Nat):Int)) 1
  rw[e1,e2]
  exact Heap.get?_push_size _ rfl
 ·have e:b=(s.heap.push {cls:=.type "range",data:=.fields #[.int lo t,.int hi u,.int 1 v]}).objs.size:=by simpa using hb
  subst e
  exact I1.fpOk (Nat.le_refl _) (I1.hok.fresh (Nat.le_refl _))
def t0(ta:TA):TI:=fun σ H R=>ta σ H fun vs H1=>∃j:Int,vs=[.int j]∧ -(2 ^ 62)≤j∧j<2 ^ 62∧R (cx 0 j.toNat) H1
def vd(ta:TA):TI:=fun σ H R=>ta σ H fun vs H1=>∃i j:Int,vs=[.int i,.int j]∧(-(2 ^ 62)≤i∧i<2 ^ 62∧ -(2 ^ 62)≤j∧j<2 ^ 62)∧R (cx i (j-i).toNat) H1
theorem dX{a:Expr}{ta:TA}{p pos:Pos}(hg:Gl X "range")(hm:X.mg "range"=none)(ha:PA X [a] ta)(hs:starEach [a] X.env=[(false,eval a X.env)]:=by rfl):PI X tg (.Call (.Name "range" p) [a] [] pos) (t0 ta):=by
 intro pins s σ H R I h
 refine Call_ (dh I hg hm boot_range (PyProof.Rows.callWith_type1 (am (ha pos pins s σ H _ I h) fun us s1 ⟨vs,H1,I1,r1,q1⟩=>?_) hs rfl))
 obtain⟨j,e,q1,q2,q⟩:=q1
 subst e
 cases r1 with
 | cons r rr=>
   cases rr
   obtain⟨t,rfl⟩:=r
   exact call_range_1 (j9 I1 (by lia) (by lia) q1 q2 (by simpa using q))
theorem iU{a b:Expr}{ta:TA}{p pos:Pos}(hg:Gl X "range")(hm:X.mg "range"=none)(ha:PA X [a,b] ta)(hs:starEach [a,b] X.env=[(false,eval a X.env),(false,eval b X.env)]:=by rfl)(hs2:starEach [b] X.env=[(false,eval b X.env)]:=by rfl):
 PI X tg (.Call (.Name "range" p) [a,b] [] pos) (vd ta):=by
 intro pins s σ H R I h
 refine Call_ (dh I hg hm boot_range (PyProof.Rows.callWith_type1 (am (ha pos pins s σ H _ I h) fun us s1 ⟨vs,H1,I1,r1,q1⟩=>?_) (by rw[hs,hs2]) (by rw[hs2];rfl)))
 obtain⟨i,j,e,⟨q1,q2,q3,q4⟩,q⟩:=q1
 subst e
 cases r1 with
 | cons r rr=>
   cases rr with
   | cons r' rr=>
     cases rr
     obtain⟨t,rfl⟩:=r
     obtain⟨t',rfl⟩:=r'
     exact call_range_2 (j9 I1 q1 q2 q3 q4 q)
def mO(wi:TI)(g:TG)(tb:TS):TS:=fun D σ H=>wi σ H fun J H1=>∃W:Nat→Nat→St→Hp→Prop,(∃m,W 0 m σ H1)∧∀i m σ H,W i m σ H→
 (J.stop i H∧D.nx σ H)∨(J.go i H∧∃N:St→Hp→Prop,(∀σ' H',N σ' H'→∃m',m'<m∧W (i+1) m' σ' H')∧∀x H',J.yld i H x H'→g x σ H' fun σ2 H2=>tb {D with nx:=N,ct:=N,bk:=D.nx} σ2 H2)
def eG(fp:List Addr)(h:Heap):List (Addr×Obj):=fp.filterMap fun b=>(h.get? b).map fun o=>(b,o)
theorem eR{fp:List Addr}{h:Heap}{b:Addr}{o:Obj}(hb:b∈fp)(e:h.get? b=some o):(b,o)∈eG fp h:=List.mem_filterMap.mpr ⟨b,hb,by rw[e];rfl⟩
theorem rP{fp:List Addr}{h:Heap}{p:Addr×Obj}(hp:p∈eG fp h):p.1∈fp∧h.get? p.1=some p.2:=by
 obtain⟨b,hb,e⟩:=List.mem_filterMap.mp hp
 cases q:h.get? b with
 | none=>rw[q] at e;cases e
 | some o=>
   rw[q] at e
   have e':(b,o)=p:=Option.some.inj e
   subst e'
   exact⟨hb,q⟩
theorem Inv.pinned{pins:List (Addr×Obj)}{σ:St}{H:Hp}{s:Shared}{fp:List Addr}(I:Inv X pins σ H s)(hf:∀b∈fp,bL X pins H b)(ho:∀b∈fp,∃o,s.heap.get? b=some o∧∀v,o.data≠ .cell v):Inv X (pins++eG fp s.heap) σ H s:=
 I.pins_of fun p hp=>(List.mem_append.mp hp).elim (fun z=>I.pin p (List.mem_append_right _ z)) fun z=>by
  obtain⟨hb,e⟩:=rP z
  obtain⟨f0,f1,f2,_⟩:=hf p.1 hb
  obtain⟨o,e',d⟩:=ho p.1 hb
  rw[e] at e';cases e'
  exact⟨e,f0,f1,f2,d⟩
theorem Inv.unpinned{pins pl:List (Addr×Obj)}{σ:St}{H:Hp}{s:Shared}(I:Inv X (pins++pl) σ H s):Inv X pins σ H s:=I.pins_of fun p hp=>I.pin p (List.mem_append_right _ (List.mem_append_left _ hp))
theorem bO{iter:Expr}{body:List Stmt}{wi:TI}{g:TG}{tb:TS}{pos:Pos}(hp:PassesOwn (model X.prog X.w) X.A X.env X.xe)(hc:X.calm=true)(hi:PI X tg iter wi)(hg:PG X tg g)(hb:PSs X body tb)(hs:∀x,foldedSetIterable iter X.env x=pure x:=by intro _;rfl):PS X (.For tg iter body [] pos) (mO wi g tb):=by
 intro pins s σ H D I h
 refine wpAny_For (am (hi pins s σ H _ I h) fun v s1 h1=>am h1 fun itv s2 h2=>?_) hs
 obtain⟨it,fp,tn,J,H2,e,I2,T,st2,f2,W,⟨m0,w0⟩,turn⟩:=h2
 subst e
 have stat:∀{H':Hp},(∀b∈fp,H' b=none)→∀b∈fp,bL X pins H' b:=fun hn b hb=>⟨hn b hb,(f2 b hb).2⟩
 refine codeAny_forLoop_any (fun n s'=>∃i σ' H',Inv X pins σ' H' s'∧tn i s'.heap∧(∀b∈fp,H' b=none)∧W i n σ' H') ?_ m0 ⟨0,σ,H2,I2,st2,fun b hb=>(f2 b hb).1,w0⟩
 rintro n s3 ⟨i,σ3,H3,I3,st3,fr3,w3⟩
 rcases turn i n σ3 H3 w3 with⟨stop,qn⟩ | ⟨go,N,hN,step⟩
 ·refine wpAny_passesOwn hp (am (T.done X rfl rfl rfl hc i pins s3 σ3 H3 X.xe I3 (stat fr3) st3 stop) fun r s4 ⟨hr,I4⟩=>?_)
  subst hr
  exact wpAny_execs_nil ⟨σ3,H3,I4,qn⟩
 ·refine wpAny_passesOwn hp (am (T.item X rfl rfl rfl hc i pins s3 σ3 H3 X.xe I3 (stat fr3) st3 go) fun r s4 ⟨u,hr,h4⟩=>?_)
  subst hr
  refine wpAny_passesOwn hp (am h4 fun _ s5 ⟨x,H5,I5,r5,y5,st5,fr5⟩=>?_)
  have I5':=I5.pinned (stat fr5) (T.obj _ _ st5)
  refine wpAny_passesOwn hp (am (hg _ s5 σ3 H5 x u _ I5' r5 (step x H5 y5)) fun _ s6 ⟨σ6,H6,I6,q6⟩=>?_)
  refine wpAny_passesOwn hp (am (hb _ s6 σ6 H6 _ I6 q6) fun f s7 q7=>?_)
  have again:∀{σ7:St} {H7:Hp},Inv X (pins++eG fp s5.heap) σ7 H7 s7→N σ7 H7→∃m,m<n∧∃i σ' H',Inv X pins σ' H' s7∧tn i s7.heap∧(∀b∈fp,H' b=none)∧W i m σ' H':=fun{σ7 H7} I7 n7=>by
   obtain⟨m',hm,w7⟩:=hN σ7 H7 n7
   refine⟨m',hm,i+1,σ7,H7,I7.unpinned,T.keep _ _ _ st5 fun b hb o e=>(I7.pin (b,o) (List.mem_append_right _ (List.mem_append_right _ (eR hb e)))).1,fun b hb=>?_,w7⟩
   obtain⟨o,e,d⟩:=T.obj _ _ st5 b hb
   exact(I7.pin (b,o) (List.mem_append_right _ (List.mem_append_right _ (eR hb e)))).2.1
  cases f with
  | next=>obtain⟨σ7,H7,I7,n7⟩:=q7;exact again I7 n7
  | cont=>obtain⟨σ7,H7,I7,n7⟩:=q7;exact again I7 n7
  | brk=>obtain⟨σ7,H7,I7,q7⟩:=q7;exact⟨σ7,H7,I7.unpinned,q7⟩
  | ret v=>obtain⟨x7,σ7,H7,I7,r7,q7⟩:=q7;exact⟨x7,σ7,H7,I7.unpinned,r7,q7⟩
end
theorem iI{K:PySem.W.Frag}{a:Addr}{xs:List V}{g:TG}{tb:TS}{D:Ends}{σ:St}{H:Hp}(Pv:Nat→St→Hp→Prop)(h0:Pv 0 σ H)(hl:∀i σ H,i≤xs.length→Pv i σ H→SqL K H a xs)(hs:∀i x σ H,xs[i]?=some x→Pv i σ H→g x σ H fun σ2 H2=>tb {D with nx:=Pv (i+1),ct:=Pv (i+1),bk:=D.nx} σ2 H2)(hd:∀σ H,Pv xs.length σ H→D.nx σ H):
 ∃ W:Nat→Nat→St→Hp→Prop,(∃m,W 0 m σ H)∧∀i m σ H,W i m σ H→
   ((cQ K a).stop i H∧D.nx σ H)∨((cQ K a).go i H∧∃N:St→Hp→Prop,(∀σ' H',N σ' H'→∃m',m'<m∧W (i+1) m' σ' H')∧∀x H',(cQ K a).yld i H x H'→g x σ H' fun σ2 H2=>tb {D with nx:=N,ct:=N,bk:=D.nx} σ2 H2):=by
 refine⟨fun i m σ H=>m=xs.length-i∧i≤xs.length∧Pv i σ H,⟨xs.length,by simp,Nat.zero_le _,h0⟩,?_⟩
 rintro i m σ H ⟨rfl,hi,p⟩
 have q:=hl i σ H hi p
 by_cases hlt:i<xs.length
 ·refine .inr ⟨⟨xs,xs[i],q,by simp[hlt]⟩,Pv (i+1),fun σ' H' p'=>⟨xs.length-(i+1),by lia,rfl,hlt,p'⟩,fun x H' y=>?_⟩
  obtain⟨e,y⟩:=y
  subst e
  exact hs i x σ _ (y xs q) p
 ·have e:i=xs.length:=by lia
  subst e
  exact .inl ⟨⟨xs,q,Nat.le_refl _⟩,hd σ H p⟩
theorem gu{lo:Int}{n:Nat}{g:TG}{tb:TS}{D:Ends}{σ:St}{H:Hp}(Pv:Nat→St→Hp→Prop)(h0:Pv 0 σ H)(hs:∀i σ H,i<n→Pv i σ H→g (.int (lo+i)) σ H fun σ2 H2=>tb {D with nx:=Pv (i+1),ct:=Pv (i+1),bk:=D.nx} σ2 H2)(hd:∀σ H,Pv n σ H→D.nx σ H):
 ∃ W:Nat→Nat→St→Hp→Prop,(∃m,W 0 m σ H)∧∀i m σ H,W i m σ H→
   ((cx lo n).stop i H∧D.nx σ H)∨((cx lo n).go i H∧∃N:St→Hp→Prop,(∀σ' H',N σ' H'→∃m',m'<m∧W (i+1) m' σ' H')∧∀x H',(cx lo n).yld i H x H'→g x σ H' fun σ2 H2=>tb {D with nx:=N,ct:=N,bk:=D.nx} σ2 H2):=by
 refine⟨fun i m σ H=>m=n-i∧i≤n∧Pv i σ H,⟨n,by simp,Nat.zero_le _,h0⟩,?_⟩
 rintro i m σ H ⟨rfl,hi,p⟩
 by_cases hlt:i<n
 ·refine .inr ⟨hlt,Pv (i+1),fun σ' H' p'=>⟨n-(i+1),by lia,rfl,hlt,p'⟩,fun x H' y=>?_⟩
  obtain⟨e,y⟩:=y
  subst e y
  exact hs i σ _ hlt p
 ·have e:i=n:=by lia
  subst e
  exact .inl ⟨Nat.le_refl _,hd σ H p⟩
abbrev R2:=V→V→Hp→VK→Prop
def OpR(X:Cx)(f:Value→Value→Sem Value)(r:R2):Prop:=
 ∀ (pins:List (Addr×Obj)) (s:Shared) (σ:St) (H:Hp) (x y:V) (v u:Value) (Q:VK),Inv X pins σ H s→RelV x v→RelV y u→r x y H Q→
   wpAny (model X.prog X.w) X.A (f v u) (EP X pins σ Q) X.xe s
def js(X:Cx)(f:Value→Sem Value)(r:V→Hp→VK→Prop):Prop:=
 ∀ (pins:List (Addr×Obj)) (s:Shared) (σ:St) (H:Hp) (x:V) (v:Value) (Q:VK),Inv X pins σ H s→RelV x v→r x H Q→
   wpAny (model X.prog X.w) X.A (f v) (EP X pins σ Q) X.xe s
def bQ(X:Cx)(f:Value)(r:List V→Hp→VK→Prop):Prop:=
 ∀ (pins:List (Addr×Obj)) (s:Shared) (σ:St) (H:Hp) (xs:List V) (us:List Value) (Q:VK),Inv X pins σ H s→Vals xs us→r xs H Q→
   wpAny (model X.prog X.w) X.A (call f us) (EP X pins σ Q) X.xe s
def rm(X:Cx)(r:V→Hp→(Bool→Hp→Prop)→Prop):Prop:=
 ∀ (pins:List (Addr×Obj)) (s:Shared) (σ:St) (H:Hp) (x:V) (v:Value) (Q:Bool→Hp→Prop),Inv X pins σ H s→RelV x v→r x H Q→
   wpAny (model X.prog X.w) X.A (truthy v) (TP X pins σ Q) X.xe s
def dG(r:R2)(ta tb:TE):TE:=fun σ H Q=>ta σ H fun x H1=>tb σ H1 fun y H2=>r x y H2 Q
def qh(r:V→Hp→VK→Prop)(ta:TE):TE:=fun σ H Q=>ta σ H fun x H1=>r x H1 Q
def rI(C:Int→Int→Prop)(g:Int→Int→V):R2:=fun x y H Q=>∃i j,x=.int i∧y=.int j∧C i j∧Q (g i j) H
def cO(g:Int→Int→V):R2:=fun x y H Q=>∃i j,x=.int i∧y=.int j∧Q (g i j) H
def rU(g:Int→V):V→Hp→VK→Prop:=fun x H Q=>∃i,x=.int i∧Q (g i) H
section
variable{X:Cx}{a b c:Expr}{ta tb tc:TE}{pos:Pos}
theorem jE(ha:PE X a ta)(hb:PE X b tb){pins:List (Addr×Obj)}{s:Shared}{σ:St}{H:Hp}{R:V→V→Hp→Prop}(I:Inv X pins σ H s)(h:ta σ H fun x H1=>tb σ H1 fun y H2=>R x y H2){Q:Value→Shared→Prop}{f:Value→Value→Sem Value}
 (hf:∀v u s2 x y H2,Inv X pins σ H2 s2→RelV x v→RelV y u→R x y H2→wpAny (model X.prog X.w) X.A (f v u) Q X.xe s2):
 wpAny (model X.prog X.w) X.A (eval a X.env) (fun v s₁=>wpAny (model X.prog X.w) X.A (eval b X.env) (fun u s₂=>wpAny (model X.prog X.w) X.A (f v u) Q X.xe s₂) X.xe s₁) X.xe s:=by
 refine am (ha pins s σ H _ I h) fun v s1 ⟨x,H1,I1,r1,q1⟩=>?_
 refine am (hb pins s1 σ H1 _ I1 q1) fun u s2 ⟨y,H2,I2,r2,q2⟩=>?_
 exact hf v u s2 x y H2 I2 r1 r2 q2
theorem aq{op:Operator}{r:R2}(ho:OpR X (binaryOp op) r)(ha:PE X a ta)(hb:PE X b tb):PE X (.BinOp a op b pos) (dG r ta tb):=by
 intro pins s σ H Q I h
 exact wpAny_BinOp (jE ha hb I h fun v u s2 x y H2 I2 rx ry q=>ho pins s2 σ H2 x y v u Q I2 rx ry q)
theorem dz{op:UnaryOp}{r:V→Hp→VK→Prop}(ho:js X (unaryOp op) r)(ha:PE X a ta):PE X (.UnaryOp op a pos) (qh r ta):=by
 intro pins s σ H Q I h
 exact UnaryOp_ (am (ha pins s σ H _ I h) fun v s1 ⟨x,H1,I1,r1,q1⟩=>ho pins s1 σ H1 x v Q I1 r1 q1)
theorem gl{f:Value→Value→Sem Value}{C:Int→Int→Prop}{g:Int→Int→Int}(rule:∀(i j:Int) (t u:Tok) (s:Shared) (Q:Value→Shared→Prop) (E:Value→Shared→Prop),C i j→Q (.int (g i j) s.toks) {s with toks:=s.toks+1}→wpAny (model X.prog X.w) X.A (f (.int i t) (.int j u)) Q E s):OpR X f (rI C fun i j=>.int (g i j)):=by
 intro pins s σ H x y v u Q I rx ry h
 obtain⟨i,j,rfl,rfl,hc,q⟩:=h
 obtain⟨t,rfl⟩:=rx
 obtain⟨t',rfl⟩:=ry
 exact rule i j t t' s _ _ hc ⟨.int (g i j),H,I.tok _,⟨_,rfl⟩,q⟩
theorem kY{f:Value→Value→Sem Value}{g:Int→Int→Int}(rule:∀(i j:Int) (t u:Tok) (s:Shared) (Q:Value→Shared→Prop) (E:Value→Shared→Prop),Q (.int (g i j) s.toks) {s with toks:=s.toks+1}→wpAny (model X.prog X.w) X.A (f (.int i t) (.int j u)) Q E s):OpR X f (cO fun i j=>.int (g i j)):=by
 intro pins s σ H x y v u Q I rx ry h
 obtain⟨i,j,rfl,rfl,q⟩:=h
 obtain⟨t,rfl⟩:=rx
 obtain⟨t',rfl⟩:=ry
 exact rule i j t t' s _ _ ⟨.int (g i j),H,I.tok _,⟨_,rfl⟩,q⟩
theorem jy{f:Value→Value→Sem Value}{g:Int→Int→Bool}(rule:∀(i j:Int) (t u:Tok) (s:Shared) (Q:Value→Shared→Prop) (E:Value→Shared→Prop),Q (.bool (g i j)) s→wpAny (model X.prog X.w) X.A (f (.int i t) (.int j u)) Q E s):OpR X f (cO fun i j=>.bl (g i j)):=by
 intro pins s σ H x y v u Q I rx ry h
 obtain⟨i,j,rfl,rfl,q⟩:=h
 obtain⟨t,rfl⟩:=rx
 obtain⟨t',rfl⟩:=ry
 exact rule i j t t' s _ _ ⟨.bl (g i j),H,I,rfl,q⟩
def oM(i j:Int):Prop:=0≤j∧j≤1000000∧i.natAbs<2 ^ 64
def CMul(i j:Int):Prop:=(-(2 ^ 64)<i∧i<2 ^ 64)∨(-(2 ^ 64)<j∧j<2 ^ 64)
theorem CMul.ok{i j:Int}(h:CMul i j):IntMulOk i j:=by
 rcases h with⟨h1,h2⟩ | ⟨h1,h2⟩
 ·exact .of_left (intBits_le_64 h1 h2)
 ·exact .of_right (intBits_le_64 h1 h2)
theorem bj:OpR X (binaryOp .Add) (cO fun i j=>.int (i+j)):=kY fun _ _ _ _ _ _ _ q=>add_int q
theorem bp:OpR X (binaryOp .Sub) (cO fun i j=>.int (i-j)):=kY fun _ _ _ _ _ _ _ q=>sub_int q
theorem jQ:OpR X (binaryOp .Mult) (rI CMul fun i j=>.int (i*j)):=gl fun _ _ _ _ _ _ _ hc q=>mul_int q hc.ok
theorem eC:OpR X (binaryOp .Mod) (rI (fun _ j=>0<j) fun i j=>.int (i % j)):=gl fun i j _ _ _ _ _ hc q=>by
 have h1:(0:Int)<j:=hc
 exact mod_int' (by lia) (by rw[Int.fmod_eq_emod_of_nonneg i (by lia)];exact q)
theorem kB:OpR X (binaryOp .Pow) (rI oM fun i j=>.int (i ^ j.toNat)):=gl fun _ _ _ _ _ _ _ hc q=>pow_int_small hc.1 hc.2.1 hc.2.2 q
theorem oR{f:Value→Sem Value}{g:Int→Int}(rule:∀(i:Int) (t:Tok) (s:Shared) (Q:Value→Shared→Prop) (E:Value→Shared→Prop),Q (.int (g i) s.toks) {s with toks:=s.toks+1}→wpAny (model X.prog X.w) X.A (f (.int i t)) Q E s):js X f (rU fun i=>.int (g i)):=by
 intro pins s σ H x v Q I rx h
 obtain⟨i,rfl,q⟩:=h
 obtain⟨t,rfl⟩:=rx
 exact rule i t s _ _ ⟨.int (g i),H,I.tok _,⟨_,rfl⟩,q⟩
theorem dn:js X (unaryOp .USub) (rU fun i=>.int (-i)):=oR fun _ _ _ _ _ q=>neg_int q
end
def kR:V→V→Bool
 | .non,.non=>true | .non,.int _=>true | .int _,.non=>true | .non,.bl _=>true | .bl _,.non=>true | .non,.str _=>true | .str _,.non=>true
 | .int _,.int _=>true | .bl _,.bl _=>true | .str _,.str _=>true | .byt _,.byt _=>true
 | .int _,.str _=>true | .str _,.int _=>true | .bl _,.str _=>true | .str _,.bl _=>true
 | _,_=>false
def qR:R2:=fun x y H Q=>kR x y=true∧Q (.bl (decide (x=y))) H
def tX:R2:=fun x y H Q=>kR x y=true∧Q (.bl (!decide (x=y))) H
theorem ox{i j:Int}:decide (V.int i=V.int j)=(i == j):=by
 rw[Bool.eq_iff_iff]
 simp
theorem oF{i j:Bool}:decide (V.bl i=V.bl j)=(i == j):=by
 rw[Bool.eq_iff_iff]
 simp
theorem mn{i j:Str}:decide (V.str i=V.str j)=(i == j):=by
 rw[Bool.eq_iff_iff]
 simp
theorem lN{i j:Array UInt8}:decide (V.byt i=V.byt j)=(i.toList == j.toList):=by
 rw[Bool.eq_iff_iff]
 cases i
 cases j
 simp
section
variable{X:Cx}{a b c:Expr}{ta tb tc:TE}{pos:Pos}
theorem aZ{pins:List (Addr×Obj)}{σ:St}{H:Hp}{s:Shared}{Q:VK}{k k':Bool}(I:Inv X pins σ H s)(q:Q (.bl k) H)(e:k=k'):EP X pins σ Q (.bool k') s:=by
 subst e
 exact⟨.bl k,H,I,rfl,q⟩
theorem bo:OpR X (compareOp .Eq) qR:=by
 intro pins s σ H x y v u Q I rx ry h
 obtain⟨hs,q⟩:=h
 cases x with
 | non=>
   cases rx
   cases y with
   | non=>cases ry;exact PySem.EqNone.eq_none_none (aZ I q (by simp))
   | bl j=>cases ry;exact PySem.EqNone.eq_none_bool (aZ I q (by simp))
   | int j=>obtain⟨t',rfl⟩:=ry;exact PySem.EqNone.eq_none_int (aZ I q (by simp))
   | str j=>obtain⟨t',rfl⟩:=ry;exact PySem.EqNone.eq_none_str (aZ I q (by simp))
   | _=>exact absurd (show false=true from hs) Bool.false_ne_true
 | bl i=>
   cases rx
   cases y with
   | non=>cases ry;exact PySem.EqNone.eq_bool_none (aZ I q (by simp))
   | bl j=>cases ry;exact eq_bool (aZ I q oF)
   | str j=>obtain⟨t',rfl⟩:=ry;exact PySem.EqMixed.eq_bool_str (aZ I q (by simp))
   | _=>exact absurd (show false=true from hs) Bool.false_ne_true
 | int i=>
   obtain⟨t,rfl⟩:=rx
   cases y with
   | non=>cases ry;exact PySem.EqNone.eq_int_none (aZ I q (by simp))
   | int j=>obtain⟨t',rfl⟩:=ry;exact eq_int (aZ I q ox)
   | str j=>obtain⟨t',rfl⟩:=ry;exact PySem.EqMixed.eq_int_str (aZ I q (by simp))
   | _=>exact absurd (show false=true from hs) Bool.false_ne_true
 | str i=>
   obtain⟨t,rfl⟩:=rx
   cases y with
   | non=>cases ry;exact PySem.EqNone.eq_str_none (aZ I q (by simp))
   | bl j=>cases ry;exact PySem.EqMixed.eq_str_bool (aZ I q (by simp))
   | int j=>obtain⟨t',rfl⟩:=ry;exact PySem.EqMixed.eq_str_int (aZ I q (by simp))
   | str j=>obtain⟨t',rfl⟩:=ry;exact eq_str (aZ I q mn)
   | _=>exact absurd (show false=true from hs) Bool.false_ne_true
 | byt i=>
   obtain⟨t,rfl⟩:=rx
   cases y with
   | byt j=>obtain⟨t',rfl⟩:=ry;exact PySem.W.eq_bytes (aZ I q lN)
   | _=>exact absurd (show false=true from hs) Bool.false_ne_true
 | _=>cases y <;> exact absurd (show false=true from hs) Bool.false_ne_true
theorem eE:OpR X (compareOp .NotEq) tX:=by
 intro pins s σ H x y v u Q I rx ry h
 obtain⟨hs,q⟩:=h
 cases x with
 | non=>
   cases rx
   cases y with
   | non=>cases ry;exact PySem.EqNone.ne_none_none (aZ I q (by simp))
   | bl j=>cases ry;exact PySem.EqNone.ne_none_bool (aZ I q (by simp))
   | int j=>obtain⟨t',rfl⟩:=ry;exact PySem.EqNone.ne_none_int (aZ I q (by simp))
   | str j=>obtain⟨t',rfl⟩:=ry;exact PySem.EqNone.ne_none_str (aZ I q (by simp))
   | _=>exact absurd (show false=true from hs) Bool.false_ne_true
 | bl i=>
   cases rx
   cases y with
   | non=>cases ry;exact PySem.EqNone.ne_bool_none (aZ I q (by simp))
   | bl j=>cases ry;exact ne_bool (aZ I q (congrArg not oF))
   | str j=>obtain⟨t',rfl⟩:=ry;exact PySem.EqMixed.ne_bool_str (aZ I q (by simp))
   | _=>exact absurd (show false=true from hs) Bool.false_ne_true
 | int i=>
   obtain⟨t,rfl⟩:=rx
   cases y with
   | non=>cases ry;exact PySem.EqNone.ne_int_none (aZ I q (by simp))
   | int j=>obtain⟨t',rfl⟩:=ry;exact ne_int (aZ I q (congrArg not ox))
   | str j=>obtain⟨t',rfl⟩:=ry;exact PySem.EqMixed.ne_int_str (aZ I q (by simp))
   | _=>exact absurd (show false=true from hs) Bool.false_ne_true
 | str i=>
   obtain⟨t,rfl⟩:=rx
   cases y with
   | non=>cases ry;exact PySem.EqNone.ne_str_none (aZ I q (by simp))
   | bl j=>cases ry;exact PySem.EqMixed.ne_str_bool (aZ I q (by simp))
   | int j=>obtain⟨t',rfl⟩:=ry;exact PySem.EqMixed.ne_str_int (aZ I q (by simp))
   | str j=>obtain⟨t',rfl⟩:=ry;exact ne_str (aZ I q (congrArg not mn))
   | _=>exact absurd (show false=true from hs) Bool.false_ne_true
 | byt i=>
   obtain⟨t,rfl⟩:=rx
   cases y with
   | byt j=>obtain⟨t',rfl⟩:=ry;exact PySem.W.ne_bytes (aZ I q (congrArg not lN))
   | _=>exact absurd (show false=true from hs) Bool.false_ne_true
 | _=>cases y <;> exact absurd (show false=true from hs) Bool.false_ne_true
theorem dF:OpR X (compareOp .Lt) (cO fun i j=>.bl (decide (i<j))):=jy fun _ _ _ _ _ _ _ q=>lt_int q
theorem cu:OpR X (compareOp .LtE) (cO fun i j=>.bl (decide (i≤j))):=jy fun _ _ _ _ _ _ _ q=>le_int q
theorem eB:OpR X (compareOp .Gt) (cO fun i j=>.bl (decide (j<i))):=jy fun _ _ _ _ _ _ _ q=>gt_int q
theorem lP:OpR X (compareOp .Is) (fun x y H Q=>y=.non∧Q (.bl (decide (x=.non))) H):=by
 intro pins s σ H x y v u Q I rx ry h
 obtain⟨rfl,q⟩:=h
 cases ry
 refine is_none_gen (aZ I q ?_)
 cases x <;> first
  | (cases rx;rfl)
  | (obtain⟨t,rfl⟩:=rx;rfl)
theorem aF(b:Expr){op:CmpOp}(h:op≠ .In:=by decide)(h2:op≠ .NotIn:=by decide):behindInMarks op b=false:=by
 have e1:(op == CmpOp.In)=false:=by cases op <;> first | rfl | exact absurd rfl h
 have e2:(op == CmpOp.NotIn)=false:=by cases op <;> first | rfl | exact absurd rfl h2
 cases b <;> simp[behindInMarks,e1,e2]
theorem eI{op:CmpOp}{r:R2}(ho:OpR X (compareOp op) r)(ha:PE X a ta)(hb:PE X b tb)(hm:behindInMarks op b=false):PE X (.Compare a [op] [b] pos) (dG r ta tb):=by
 intro pins s σ H Q I h
 exact wpAny_Compare1 (jE ha hb I h fun v u s2 x y H2 I2 rx ry q=>ho pins s2 σ H2 x y v u Q I2 rx ry q) hm
def gC(t:TE):TT:=fun σ H Q=>t σ H fun x H'=>∃k,x=.bl k∧Q k H'
theorem aD{op:CmpOp}{r:R2}(ho:OpR X (compareOp op) r)(ha:PE X a ta)(hb:PE X b tb)(hm:behindInMarks op b=false):PT X (.Compare a [op] [b] pos) (gC (dG r ta tb)):=by
 intro pins s σ H Q I h
 refine wpAny_isTrue_Compare1 (am (ha pins s σ H _ I h) fun v s1 ⟨x,H1,I1,r1,q1⟩=>am (hb pins s1 σ H1 _ I1 q1) fun u s2 ⟨y,H2,I2,r2,q2⟩=>
  am (ho pins s2 σ H2 x y v u _ I2 r1 r2 q2) fun c s3 ⟨z,H3,I3,r3,k,e,q3⟩=>?_) hm
 subst e
 cases r3
 exact wpAny_truthy_bool ⟨H3,I3,q3⟩
def lL(r r':R2)(ta tb tc:TE):TE:=fun σ H Q=>ta σ H fun x H1=>tb σ H1 fun y H2=>r x y H2 fun z H3=>∃k,z=.bl k∧
 (if k=true then tc σ H3 fun w' H4=>r' y w' H4 Q else Q (.bl false) H3)
theorem ik{op op':CmpOp}{r r':R2}(ho:OpR X (compareOp op) r)(ho':OpR X (compareOp op') r')(ha:PE X a ta)(hb:PE X b tb)(hc:PE X c tc)(hm:lastMarks [op,op'] [b,c]=false:=by with_unfolding_all rfl):PE X (.Compare a [op,op'] [b,c] pos) (lL r r' ta tb tc):=by
 intro pins s σ H Q I h
 refine Compare_chain (am (ha pins s σ H _ I h) fun v s1 ⟨x,H1,I1,r1,q1⟩=>chain_link (am (hb pins s1 σ H1 _ I1 q1) fun u s2 ⟨y,H2,I2,r2,q2⟩=>
  am (ho pins s2 σ H2 x y v u _ I2 r1 r2 q2) fun d s3 ⟨z,H3,I3,r3,k,e,q3⟩=>?_)) hm
 subst e
 cases r3
 refine wpAny_truthy_bool ?_
 cases k with
 | false=>exact ite_ff ⟨.bl false,H3,I3,rfl,q3⟩
 | true=>exact ite_tt (chain_last (am (hc pins s3 σ H3 _ I3 q3) fun w' s4 ⟨z',H4,I4,r4,q4⟩=>ho' pins s4 σ H4 y z' u w' Q I4 r2 r4 q4))
theorem lc{op op':CmpOp}{r r':R2}(ho:OpR X (compareOp op) r)(ho':OpR X (compareOp op') r')(ha:PE X a ta)(hb:PE X b tb)(hc:PE X c tc)(hm:lastMarks [op,op'] [b,c]=false:=by with_unfolding_all rfl):PT X (.Compare a [op,op'] [b,c] pos) (gC (lL r r' ta tb tc)):=by
 intro pins s σ H Q I h
 refine isTrue_chain (am (ha pins s σ H _ I h) fun v s1 ⟨x,H1,I1,r1,q1⟩=>test_link (am (hb pins s1 σ H1 _ I1 q1) fun u s2 ⟨y,H2,I2,r2,q2⟩=>
  am (ho pins s2 σ H2 x y v u _ I2 r1 r2 q2) fun d s3 ⟨z,H3,I3,r3,k,e,q3⟩=>?_)) hm
 subst e
 cases r3
 refine wpAny_truthy_bool ?_
 cases k with
 | false=>
   obtain⟨k',e',q'⟩:=q3
   cases e'
   exact ite_ff ⟨H3,I3,q'⟩
 | true=>
   refine ite_tt (test_last (am (hc pins s3 σ H3 _ I3 q3) fun w' s4 ⟨z',H4,I4,r4,q4⟩=>am (ho' pins s4 σ H4 y z' u w' _ I4 r2 r4 q4) fun d' s5 ⟨z2,H5,I5,r5,k2,e2,q5⟩=>?_))
   subst e2
   cases r5
   exact wpAny_truthy_bool ⟨H5,I5,q5⟩
def oy(K:PySem.W.Frag)(x:V)(H:Hp)(k:Bool):Prop:=
 match x with
 | .non=>k=false
 | .bl b=>k=b
 | .int i=>k=(i != 0)
 | .str y=>y.length≤sizeLine∧k=((y.length:Int) != 0)
 | .byt y=>y.size≤sizeLine∧k=((y.size:Int) != 0)
 | .ref p=>(∃xs,SqL K H p xs∧k= !xs.isEmpty)∨(∃xs,SqT K H p xs∧k= !xs.isEmpty)∨∃kvs,H p=some (.dK kvs)∧k= !kvs.isEmpty
 | _=>False
theorem oJ{κ:Type}{kvs:List (κ×V)}{vs:List (κ×Value)}(r:KV kvs vs):(!vs.isEmpty)= !kvs.isEmpty:=by
 cases r <;> rfl
theorem mR{xs:List V}{its:List Value}(r:Vals xs its):(!its.toArray.isEmpty)= !xs.isEmpty:=by
 cases r <;> simp
theorem dR:(sizeLine:Nat)<2 ^ 63:=by rw[sizeLine_eq];decide
theorem vL:rm X (fun x H Q=>∃k,oy X.K x H k∧Q k H):=by
 intro pins s σ H x v Q I rx h
 obtain⟨k,e,q⟩:=h
 have hl:=dR
 have hs:sizeLine=16777216:=sizeLine_eq
 cases x with
 | non=>
   cases rx
   have e':k=false:=e
   subst e'
   exact truthy_none ⟨H,I,q⟩
 | bl b=>
   cases rx
   have e':k=b:=e
   subst e'
   exact wpAny_truthy_bool ⟨H,I,q⟩
 | int i=>
   obtain⟨t,rfl⟩:=rx
   have e':k=(i != 0):=e
   subst e'
   exact PySem.P.truthy_int ⟨H,I,q⟩
 | str y=>
   obtain⟨t,rfl⟩:=rx
   obtain⟨hy,e'⟩:y.length≤sizeLine∧k=((y.length:Int) != 0):=e
   subst e'
   exact PySem.P.truthy_str (by lia) ⟨H,I.tok _,q⟩
 | byt y=>
   obtain⟨t,rfl⟩:=rx
   obtain⟨hy,e'⟩:y.size≤sizeLine∧k=((y.size:Int) != 0):=e
   subst e'
   exact PySem.W.truthy_bytes (by lia) ⟨H,I.tok _,q⟩
 | ref p=>
   cases rx
   have e':(∃xs,SqL X.K H p xs∧k= !xs.isEmpty)∨(∃xs,SqT X.K H p xs∧k= !xs.isEmpty)∨∃kvs,H p=some (.dK kvs)∧k= !kvs.isEmpty:=e
   rcases e' with⟨xs,hx,e'⟩ | ⟨xs,hx,e'⟩ | ⟨kvs,hx,e'⟩
   ·subst e'
    obtain⟨its,r,pl,hz⟩:=I.list hx
    have hlen:=r.length
    exact wpAny_truthy_list pl.isList (by simp only[List.size_toArray];lia) ⟨H,I.tok _,by rw[mR r];exact q⟩
   ·subst e'
    obtain⟨its,r,pl,hz⟩:=I.tuple hx
    have hlen:=r.length
    exact truthy_tuple pl (by simp only[List.size_toArray];lia) ⟨H,I.tok _,by rw[mR r];exact q⟩
   ·subst e'
    obtain⟨hz,hS,vs,r,m⟩:kvs.length≤sizeLine∧(p == sysModules)=false∧∃vs,KV kvs vs∧s.heap.DictOf (bz X.prog X.w) p vs:=I.hok p _ hx
    have hlen:kvs.length=vs.length:=Paired.length r
    exact wpAny_truthy_dict hS m (by lia) ⟨H,I.tok _,by rw[oJ r];exact q⟩
 | _=>exact(show False from e).elim
theorem u8(ha:PE X a ta)(he:∀whole,isTrue a X.env whole=(do let v←whole;standAt a.pos;holding [v] (truthy v))):
 PT X a (fun σ H Q=>ta σ H fun x H'=>∃k,oy X.K x H' k∧Q k H'):=by
 intro pins s σ H Q I h
 exact isTrue_plain (am (ha pins s σ H _ I h) fun v s1 ⟨x,H1,I1,r1,q1⟩=>vL pins s1 σ H1 x v Q I1 r1 q1) (he _)
theorem tD:OpR X (binaryOp .Add) (fun x y H Q=>∃i j,x=.str i∧y=.str j∧i.length+j.length≤sizeLine∧Q (.str (i++j)) H):=by
 intro pins s σ H x y v u Q I rx ry h
 obtain⟨i,j,rfl,rfl,hz,q⟩:=h
 obtain⟨t,rfl⟩:=rx
 obtain⟨t',rfl⟩:=ry
 exact add_str (fun t' tk=>⟨.str (i++j),H,I.tok _,⟨_,rfl⟩,q⟩) hz
theorem cV{x:V}{us:List Value}(r:Vals [x] us):∃u,us=[u]∧RelV x u:=by
 cases r with
 | cons r1 r2=>cases r2;exact⟨_,rfl,r1⟩
theorem iP{x y:V}{us:List Value}(r:Vals [x,y] us):∃u w',us=[u,w']∧RelV x u∧RelV y w':=by
 cases r with
 | cons r1 r2=>
   cases r2 with
   | cons r3 r4=>cases r4;exact⟨_,_,rfl,r1,r3⟩
theorem ph(hc:X.calm=true):bQ X (.builtin "max") (fun xs H Q=>∃i j,xs=[.int i,.int j]∧Q (.int (if j>i then j else i)) H):=by
 intro pins s σ H xs us Q I r h
 obtain⟨i,j,rfl,q⟩:=h
 obtain⟨u,w',rfl,⟨t,rfl⟩,⟨t',rfl⟩⟩:=iP r
 refine max_two_ints (I.ok.hd hc) fun h' tk k=>⟨_,H,I.kept k,?_,q⟩
 by_cases hj:j>i
 ·rw[if_pos hj,if_pos hj];exact⟨_,rfl⟩
 ·rw[if_neg hj,if_neg hj];exact⟨_,rfl⟩
theorem sE(hc:X.calm=true):bQ X (.builtin "min") (fun xs H Q=>∃i j,xs=[.int i,.int j]∧Q (.int (if j<i then j else i)) H):=by
 intro pins s σ H xs us Q I r h
 obtain⟨i,j,rfl,q⟩:=h
 obtain⟨u,w',rfl,⟨t,rfl⟩,⟨t',rfl⟩⟩:=iP r
 refine min_two_ints (I.ok.hd hc) fun h' tk k=>⟨_,H,I.kept k,?_,q⟩
 by_cases hj:j<i
 ·rw[if_pos hj,if_pos hj];exact⟨_,rfl⟩
 ·rw[if_neg hj,if_neg hj];exact⟨_,rfl⟩
theorem qA:bQ X (.type "int") (fun xs H Q=>(∃i,xs=[.int i]∧Q (.int i) H)∨∃k,xs=[.bl k]∧Q (.int (if k then 1 else 0)) H):=by
 intro pins s σ H xs us Q I r h
 rcases h with⟨i,rfl,q⟩ | ⟨k,rfl,q⟩
 ·obtain⟨u,rfl,t,rfl⟩:=cV r
  exact call_int_int ⟨.int i,H,I,⟨_,rfl⟩,q⟩
 ·obtain⟨u,rfl,r1⟩:=cV r
  cases r1
  exact call_int_bool ⟨.int (if k then 1 else 0),H,I.tok _,⟨_,rfl⟩,q⟩
end
structure ObjM(h:Heap)(x dx C:Addr)(mA:Str→Option Value):Prop where
 obj:h.get? x=some (PySem.W.instObj C dx)
 ns:h.Ns1 dx mA
 ne:dx≠x
theorem sL{h:Heap}{dx:Addr}{mA:Str→Option Value}(n:h.Ns1 dx mA):∃od,h.get? dx=some od∧∀name,PySem.W.lookIn name od=some (mA name):=by
 obtain⟨o,es,ep,ho,hd,hk,_,hm⟩:=n
 refine⟨o,ho,fun name=>?_⟩
 have e:=hm name
 unfold nsFind findBy at e
 rw[←Array.find?_toList] at e
 unfold PySem.W.lookIn
 rw[hd]
 dsimp only
 split
 ·rename_i y q
  rw[q] at e
  exact congrArg some e
 ·rename_i q
  rw[q] at e
  have a:es.toList.any (·.refKey)=false:=by
   rw[List.any_eq_false]
   intro y hy
   obtain⟨z,t,hkey⟩:=hk y (Array.mem_toList_iff.mp hy)
   simp[DictEntry.refKey,hkey]
  have a':¬es.toList.any (·.refKey)=true:=by rw[a];exact Bool.false_ne_true
  rw[if_neg a']
  exact congrArg some e
theorem ObjM.look{h:Heap}{x dx C:Addr}{mA:Str→Option Value}(I:ObjM h x dx C mA):∃od,PySem.W.InstAt h x (PySem.W.instObj C dx) C (some od)∧∀name,PySem.W.lookIn name od=some (mA name):=
 let ⟨od,ho,hl⟩:=sL I.ns
 ⟨od,⟨I.obj,rfl,rfl,ho⟩,hl⟩
section
variable{prog:Program}{w:World}{A:Around}{E:Value→Shared→Prop}{s:Shared}{K:PySem.W.Frag}{x dx C f:Addr}{mA:Str→Option Value}{name:Str}{v:Value}
end
theorem RelO.some_of{v:V}{o:Option Value}(r:RelO (some v) o):∃u,o=some u∧RelV v u:=by
 cases o with
 | none=>exact(show False from r).elim
 | some u=>exact⟨u,rfl,r⟩
section
variable{P:Program}{w:World}{H H':Hp}{h h':Heap}{a C dx:Addr}{fs fs':List (Str×V)}
theorem p9(hok:HOk P w H h)(e:H a=some (.ins C dx fs)):∃mA,ObjM h a dx C mA∧(∀f,RelO (fs.lookup f) (mA f))∧PySem.Within mA (fs.map (·.1))∧fs.length≤1000∧H dx=some (.own a):=by
 obtain⟨d,z,ne,ob,mA,n,r,q⟩:=(show ObjOk P w H h a (.ins C dx fs) from hok a _ e)
 exact⟨mA,⟨ob,n,ne⟩,r,q,z,d⟩
end
structure Cls(K:PySem.W.Frag)(C:Addr):Prop where
 pg:PySem.W.plainGet K C Str.empty=true
 hd:PySem.W.hasDictIn K C=true
 po:PySem.W.plainOver K C=true
 sa:PySem.W.findIn K (.ref C) "__setattr__"=some (some (.builtin "object.__setattr__"))
theorem Cls.get{K:PySem.W.Frag}{C:Addr}(c:Cls K C)(f:Str):PySem.W.plainGet K C f=true:=c.pg
structure Con(K:PySem.W.Frag)(C:Addr)(f:Str)(v:V)(u:Value):Prop where
 at_:PySem.W.findIn K (.ref C) f=some (some u)
 rel:RelV v u
 get:PySem.W.specialIn K u "__get__"=some none
 cp:PySem.W.copiedNames.contains f=false
structure Meth(K:PySem.W.Frag)(C:Addr)(m:Str)(f:Addr):Prop where
 at_:PySem.W.findIn K (.ref C) m=some (some (.ref f))
 fn:PySem.W.isFn K (.ref f)=true
 kp:PySem.W.keepIn K (.ref f)=true
section
variable{X:Cx}{pins:List (Addr×Obj)}{σ:St}{H:Hp}{s:Shared}{a C dx:Addr}{fs:List (Str×V)}{f:Str}{v:V}{A:Around}{E:Value→Shared→Prop}
end
section
variable{X:Cx}{o e value:Expr}{f:Str}{pos pos' tpos:Pos}{ta tv:TE}
end
section
variable{X:Cx}{pins:List (Addr×Obj)}{σ:St}{H:Hp}{s:Shared}{A:Around}{E:Value→Shared→Prop}{Q:Value→Shared→Prop}{c:Value}{b:Bool}
inductive TyOf (K:PySem.W.Frag) (H:Hp):V→Value→Prop where
 | non:TyOf K H .non (.type "NoneType")
 | bl (x:Bool):TyOf K H (.bl x) (.type "bool")
 | int (i:Int):TyOf K H (.int i) (.type "int")
 | str (x:Str):TyOf K H (.str x) (.type "str")
 | flt (x:UInt64):TyOf K H (.flt x) (.type "float")
 | lst {a:Addr} {xs:List V} (e:H a=some (.lst xs)):TyOf K H (.ref a) (.type "list")
 | frz {a:Addr} {o:Obj} {xs:List V} (e:H a=some (.frz o (.lst xs))):TyOf K H (.ref a) (.type "list")
 | tup {a:Addr} {xs:List V} (e:H a=some (.tup xs)):TyOf K H (.ref a) (.type "tuple")
 | dK {a:Addr} {kvs:List (ap×V)} (e:H a=some (.dK kvs)):TyOf K H (.ref a) (.type "dict")
 | dT {a:Addr} {kvs:List (List ap×V)} (e:H a=some (.dT kvs)):TyOf K H (.ref a) (.type "dict")
 | ins {a C dx:Addr} {fs:List (Str×V)} (e:H a=some (.ins C dx fs)) (cl:Cls K C) (ha:PySem.W.findIn K (.ref C) "__class__"=some (some (.builtin "object.__class__")))
  (hn:PySem.W.specialIn K (.builtin "object.__class__") "__get__"=some (some (.builtin "getset_descriptor.__get__"))) (htk:PySem.W.takesIn K (.builtin "object.__class__")=some true)
  (hm:PySem.W.mroIn K C (.type "object")=some true):TyOf K H (.ref a) (.ref C)
theorem vK{x:V}{u t:Value}(I:Inv X pins σ H s)(rx:RelV x u)(ty:TyOf X.K H x t)(e:PySem.W.kitOne X.K t c=some b)(h:∀tk,Q (.bool b) {s with toks:=tk}):wpAny (model X.prog X.w) A (call (.builtin "isinstance") [u,c]) Q E s:=by
 cases ty with
 | non=>cases(show u=Value.none from rx);exact PySem.W.kia_one PySem.W.kitx_none I.kIn True.intro e (fun z=>nomatch z) h
 | bl y=>cases(show u=Value.bool y from rx);exact PySem.W.kia_one PySem.W.kitx_bool I.kIn True.intro e (fun z=>nomatch z) h
 | int i=>obtain⟨t,q⟩:=(show∃t,u=Value.int i t from rx);cases q;exact PySem.W.kia_one PySem.W.kitx_int I.kIn True.intro e (fun z=>nomatch z) h
 | str y=>obtain⟨t,q⟩:=(show∃t,u=Value.str y t from rx);cases q;exact PySem.W.kia_one PySem.W.kitx_str I.kIn True.intro e (fun z=>nomatch z) h
 | flt y=>obtain⟨t,q⟩:=(show∃t,u=Value.float y t from rx);cases q;exact PySem.W.kia_one PySem.W.kitx_float I.kIn True.intro e (fun z=>nomatch z) h
 | @lst a xs ea=>
   cases(show u=Value.ref a from rx)
   obtain⟨_,_,n,_,h1⟩:=(show ObjOk X.prog X.w H s.heap a (.lst xs) from I.hok a _ ea)
   exact PySem.W.kia_one PySem.W.kitx_list I.kIn ⟨_,h1,rfl⟩ e (fun z=>nomatch z) h
 | @frz a ob xs ea=>
   cases(show u=Value.ref a from rx)
   obtain⟨_,_,_,n,_,h1⟩:=(show ObjOk X.prog X.w H s.heap a (.frz ob (.lst xs)) from I.hok a _ ea)
   exact PySem.W.kia_one PySem.W.kitx_list I.kIn ⟨_,h1,rfl⟩ e (fun z=>nomatch z) h
 | @tup a xs ea=>
   cases(show u=Value.ref a from rx)
   obtain⟨_,_,_,p⟩:=(show ObjOk X.prog X.w H s.heap a (.tup xs) from I.hok a _ ea)
   obtain⟨o,h1,h2,_⟩:=p
   exact PySem.W.kia_one PySem.W.kitx_tuple I.kIn ⟨o,h1,h2⟩ e (fun z=>nomatch z) h
 | @dK a kvs ea=>
   cases(show u=Value.ref a from rx)
   obtain⟨_,_,vs,_,p⟩:=(show ObjOk X.prog X.w H s.heap a (.dK kvs) from I.hok a _ ea)
   obtain⟨o,es,ep,h1,h2,_⟩:=p
   exact PySem.W.kia_one PySem.W.kitx_dict I.kIn ⟨o,h1,h2.1⟩ e (fun z=>nomatch z) h
 | @dT a kvs ea=>
   cases(show u=Value.ref a from rx)
   obtain⟨_,_,xs,_,o,es,ep,h1,h2,_⟩:=(show ObjOk X.prog X.w H s.heap a (.dT kvs) from I.hok a _ ea)
   exact PySem.W.kia_one PySem.W.kitx_dict I.kIn ⟨o,h1,h2.1⟩ e (fun z=>nomatch z) h
 | @ins a C dx fs ea cl ha hn htk hm=>
   cases(show u=Value.ref a from rx)
   obtain⟨mA,O,_⟩:=p9 I.hok ea
   obtain⟨od,J,_⟩:=O.look
   exact PySem.W.kia_one (PySem.W.kitx_own (cl.get _) cl.hd ha hn htk hm) I.kIn J e (fun z=>nomatch z) h
end
structure Room(k:Nat)(A:Around):Prop where
 hd:A.handled=none
 dp:A.depth+3*k+5<recursionLimit
 un:A.units+16*k+200<cLine
theorem Room.mono{j k:Nat}{A:Around}(r:Room k A)(h:j≤k):Room j A:=⟨r.hd,by have:=r.dp;lia,by have:=r.un;lia⟩
theorem Room.deeper{k:Nat}{A:Around}(r:Room (k+1) A)(env:Env):Room k (A.deeper env):=
 ⟨r.hd,by have:=r.dp;show A.depth+1+3*k+5<_;lia,by have:=r.un;show A.units+3+16*k+200<_;lia⟩
theorem Room.depth{k:Nat}{A:Around}(r:Room k A):A.depth<recursionLimit:=by have:=r.dp;lia
theorem Room.units{k:Nat}{A:Around}(r:Room k A):A.units+64<cLine:=by have:=r.un;lia
def jG:TA:=fun _ H Q=>Q [] H
def gk(ta:TE)(tr:TA):TA:=fun σ H Q=>ta σ H fun x H1=>tr σ H1 fun xs H2=>Q (x::xs) H2
section
variable{X:Cx}{e:Expr}{es:List Expr}{te:TE}{t:TA}{pos:Pos}
theorem ac:PA X [] jG:=fun _ _ _ _ H Q I h=>Calls.spliced_nil ⟨[],H,I,.nil,h⟩
theorem aa(ha:PE X e te)(hr:PA X es t)(hs:starEach (e::es) X.env=(false,eval e X.env)::starEach es X.env:=by rfl):PA X (e::es) (gk te t):=by
 intro pos pins s σ H Q I h
 rw[hs]
 show wpAny _ _ (spliced ((false,eval e X.env)::backTo pos (starEach es X.env))) _ _ s
 refine Calls.spliced_cons (am (ha pins s σ H _ I h) fun u s1 ⟨x,H1,I1,r1,q1⟩=>?_)
 exact am (hr pos pins s1 σ H1 _ I1 q1) fun us s2 ⟨xs,H2,I2,r2,q2⟩=>⟨x::xs,H2,I2,.cons r1 r2,q2⟩
def pX(t:TA):TE:=fun σ H Q=>t σ H fun xs H1=>xs.length≤sizeLine∧∀p,H1 p=none→Q (.ref p) (upd H1 p (.tup xs))
def gj(t:TA):TE:=fun σ H Q=>t σ H fun xs H1=>xs.length≤sizeLine∧∀p,H1 p=none→Q (.ref p) (upd H1 p (.lst xs))
theorem eA{x1}(h:PA X es t):PE X (.Tuple es x1 pos) (pX t):=by
 intro pins s σ H Q I hq
 refine wpAny_Tuple_spliced (am (h pos pins s σ H _ I hq) fun us s1 ⟨xs,H1,I1,r,z,q⟩=>⟨by rw[←r.length];exact z,?_⟩)
 have hf:H1 s1.heap.objs.size=none:=I1.hok.fresh (Nat.le_refl _)
 refine⟨.ref s1.heap.objs.size,upd H1 s1.heap.objs.size (.tup xs),I1.laid (t':=s1.toks) (fun b u e=>Heap.get?_push_of_some _ e) (Nat.le_refl _) ?_,rfl,q _ hf⟩
 exact⟨z,us,r,⟨_,Heap.get?_push_size _ rfl,rfl,_,rfl⟩⟩
theorem aN(h:PA X es t):PE X (.List es pos) (gj t):=by
 intro pins s σ H Q I hq
 refine wpAny_List_spliced (am (h pos pins s σ H _ I hq) fun us s1 ⟨xs,H1,I1,r,z,q⟩=>⟨by rw[←r.length];exact z,?_⟩)
 have hf:H1 s1.heap.objs.size=none:=I1.hok.fresh (Nat.le_refl _)
 refine⟨.ref s1.heap.objs.size,upd H1 s1.heap.objs.size (.lst xs),I1.laid (t':=s1.toks) (fun b u e=>Heap.get?_push_of_some _ e) (Nat.le_refl _) ?_,rfl,q _ hf⟩
 exact⟨z,us,0,r,Heap.get?_push_size _ rfl⟩
end
abbrev Sp:=List V→Hp→VK→XK→Prop
abbrev bg:=List Env→Hp→Shared→XK→Value→Shared→Prop
structure Env0(P:Program)(w:World)(K:PySem.W.Frag)(mg:Str→Option Value)(base:Heap)(A:Around)(outer:List Env)(s:Shared)(H:Hp):Prop where
 frames:A.frames=some outer
 mod:Mod K mg base
 bs:∀b o,base.get? b=some o→s.heap.get? b=some o∧H b=none
 bsz:base.objs.size≤s.heap.objs.size
 funs:s.heap.FunFrames base outer
 frf:∀b∈aQ outer,H b=none
 hok:HOk P w H s.heap
 bare:AllBare s.gens
def CE(outer:List Env)(P:Program)(w:World)(H:Hp)(s:Shared)(Q:VK)(u:Value)(s':Shared):Prop:=
 ∃v H',s'.os=s.os∧AllBare s'.gens∧Un (aQ outer) [] H H' s.heap s'.heap∧HOk P w H' s'.heap∧RelV v u∧Q v H'
def CR(CX:bg)(outer:List Env)(P:Program)(w:World)(H:Hp)(s:Shared)(Q:VK)(E:XK)(r:Result)(s':Shared):Prop:=
 match r with
 | .ok (.ret u)=>CE outer P w H s Q u s'
 | .ok _=>False
 | .error e=>CX outer H s E e s'
structure FnOk(P:Program)(w:World)(K:PySem.W.Frag)(mg:Str→Option Value)(base:Heap)(CX:bg)(k:Nat)(f:Addr)(fd:FuncData)(ps:List Str)(sp:Sp):Prop where
 len:∀vs H Q E,sp vs H Q E→vs.length=ps.length
 run:∀(A:Around) (outer:List Env) (s:Shared) (H:Hp) (args:Args) (us:List Value) (vs:List V) (Q:VK) (E:XK),Room k A→Env0 P w K mg base A outer s H→BindsTo s fd args (ps.zip us)→Vals vs us→sp vs H Q E→
  codeAny (model P w) A (.call (.ref f) args) (CR CX outer P w H s Q E) s
theorem FnOk.imp{P:Program}{w:World}{K:PySem.W.Frag}{mg:Str→Option Value}{base:Heap}{CX:bg}{k:Nat}{f:Addr}{fd:FuncData}{ps:List Str}{sp sp':Sp}(F:FnOk P w K mg base CX k f fd ps sp)(h:∀vs H Q E,sp' vs H Q E→sp vs H Q E):FnOk P w K mg base CX k f fd ps sp':=
 ⟨fun vs H Q E q=>F.len vs H Q E (h _ _ _ _ q),fun A outer s H args us vs Q E hr he hb hv hs=>F.run A outer s H args us vs Q E hr he hb hv (h _ _ _ _ hs)⟩
section
variable{X:Cx}{pins:List (Addr×Obj)}{σ:St}{H:Hp}{s s':Shared}
theorem Inv.env0(I:Inv X pins σ H s):Env0 X.prog X.w X.K X.mg X.base X.A X.stack s H:=
 ⟨I.ok.frames,I.ok.mod,I.bs,Nat.le_trans I.ok.bsz I.sz,I.stack,I.stkFree,I.hok,I.bare⟩
theorem Inv.after{Q:VK}{u:Value}(I:Inv X pins σ H s)(h:CE X.stack X.prog X.w H s Q u s'):EP X pins σ Q u s':=by
 obtain⟨v,H',os,bare,un,hok,r,q⟩:=h
 obtain⟨hh,g,d,t,os'⟩:=s'
 obtain rfl:os'=s.os:=os
 exact⟨v,H',I.call (h':=hh) (g':=g) (d':=d) (t':=t) (ch:=[]) un hok bare (fun b z=>absurd z (by simp)),r,q⟩
end
def gN(sp:Sp)(dvs:List V)(E:XK)(t:TA):TE:=fun σ H Q=>t σ H fun vs H1=>sp (vs++dvs) H1 Q E
def Binds(K:PySem.W.Frag)(fd:FuncData)(ps:List Str)(ds:List Value):Prop:=
 ∀(s:Shared) (us:List Value),K.In s.heap→(us++ds).length=ps.length→BindsTo s fd ⟨us,[]⟩ (ps.zip (us++ds))
theorem Binds.all{K:PySem.W.Frag}{fd:FuncData}{ps:List Str}(h:∀us:List Value,us.length=ps.length→bindArgs fd ⟨us,[]⟩=pure (ps.zip us)):Binds K fd ps []:=fun s us _ hl=>by
 rw[List.append_nil] at hl ⊢
 exact .of_eq (h us hl)
def fk(CX:bg)(X:Cx)(E:XK):Prop:=∀(pins:List (Addr×Obj)) (σ:St) (H:Hp) (s:Shared) (e:Value) (s':Shared),Inv X pins σ H s→CX X.stack H s E e s'→X.xe e s'
section
variable{X:Cx}{CX:bg}{k:Nat}{f C:Addr}{fd:FuncData}{ps:List Str}{sp:Sp}{dvs:List V}{ds:List Value}{E:XK}{x m:Str}{p pos apos:Pos}{e o:Expr}{es:List Expr}{ta:TE}{t:TA}
theorem tI{pins:List (Addr×Obj)}{σ:St}{H:Hp}{s:Shared}{Q:VK}{us:List Value}{vs:List V}(F:FnOk X.prog X.w X.K X.mg X.base CX k f fd ps sp)(hr:Room k X.A)(hb:Binds X.K fd ps ds)(hd:Vals dvs ds)(hx:fk CX X E)(I:Inv X pins σ H s)(r:Vals vs us)(h:sp (vs++dvs) H Q E):wpAny (model X.prog X.w) X.A (call (.ref f) us) (EP X pins σ Q) X.xe s:=by
 have r2:Vals (vs++dvs) (us++ds):=r.append hd
 have hl:(us++ds).length=ps.length:=by rw[←r2.length];exact F.len _ _ _ _ h
 refine wpAny_call (codeAny_mono (F.run X.A X.stack s H ⟨us,[]⟩ (us++ds) (vs++dvs) Q E hr I.env0 (hb s us I.kIn hl) r2 h) fun r s' hq=>?_)
 cases r with
 | error e=>exact hx pins σ H s e s' I hq
 | ok fl=>
   cases fl with
   | ret u=>exact I.after hq
   | next=>exact False.elim hq
   | brk=>exact False.elim hq
   | cont=>exact False.elim hq
theorem rK(F:FnOk X.prog X.w X.K X.mg X.base CX k f fd ps sp)(hr:Room k X.A)(hg:Gl X x)(hm:X.mg x=some (.ref f))(hk:PySem.W.keepIn X.K (.ref f)=true)(hb:Binds X.K fd ps ds)(hd:Vals dvs ds)(hx:fk CX X E)(ha:PA X (e::es) t)(hdb:(x == ("__debug__":Str))=false:=by decide)(he:starEach (e::es) X.env=(false,eval e X.env)::starEach es X.env:=by rfl)(hpl:(backTo pos (starEach es X.env)).any (·.1)=false:=by rfl):
 PE X (.Call (.Name x p) (e::es) [] pos) (gN sp dvs E t):=by
 intro pins s σ H Q I h
 refine wpAny_Call_Name_kw (eO I hg hm ?_ hdb)
 refine PySem.W.callWith_K (h₀:=X.base) I.ok.mod.kin hk (am (ha pos pins s σ H _ I h) fun us s1 ⟨vs,H1,I1,r,q⟩=>⟨I1.kIn,?_⟩) he hpl
 exact tI F hr hb hd hx I1 r q
structure Mk(K:PySem.W.Frag)(C f:Addr):Prop where
 makes:PySem.W.makesIn K C=true
 init:PySem.W.findIn K (.ref C) "__init__"=some (some (.ref f))
 fn:PySem.W.isFn K (.ref f)=true
 kp:PySem.W.keepIn K (.ref C)=true
end
section
variable{X:Cx}{CX:bg}{k:Nat}{f C:Addr}{fd:FuncData}{ps ks:List Str}{sp:Sp}{E:XK}{x m:Str}{p pos apos kpos:Pos}{e o:Expr}{es:List Expr}{kws:List Keyword}{te ta:TE}{t tk:TA}{nm:Option Str}
structure KBinds(K:PySem.W.Frag)(fd:FuncData)(ps ks:List Str)(g:List Value→List Value→List Value)(gV:List V→List V→List V):Prop where
 to:∀(s:Shared) (us ws:List Value),K.In s.heap→(g us ws).length=ps.length→BindsTo s fd ⟨us,ks.zip ws⟩ (ps.zip (g us ws))
 rel:∀{vs:List V} {us:List Value} {zs:List V} {ws:List Value},Vals vs us→Vals zs ws→Vals (gV vs zs) (g us ws)
variable{g:List Value→List Value→List Value}{gV:List V→List V→List V}
end
structure FnScope(N P:List Str)(sc:Scope):Prop where
 kind:sc.kind=.function
 co:sc.isCoroutine=false
 gen:sc.isGenerator=false
 nd:N.Nodup
 pre:N.take P.length=P
 par:∀x∈P,sc.names.lookup x=some .local∨sc.names.lookup x=some .cell
 nofree:∀y∈sc.names,y.2≠ .free
theorem ki{kindOf:Str→Option NameKind}{x:Str}:∀{binds:List (Str×Value)} {m:Str→Option Value},(∀v,(x,v)∉binds)→bindL kindOf binds m x=m x
 | [],_,_=>rfl
 | (n,v)::r,m,h=>by
   unfold bindL
   rw[ki fun w hw=>h w (List.mem_cons_of_mem _ hw)]
   split
   ·have:x≠n:=by rintro rfl;exact h v List.mem_cons_self
    simp[this]
   ·rfl
theorem lH{kindOf:Str→Option NameKind}{x:Str}:∀{binds:List (Str×Value)} {m:Str→Option Value},(∀v,(x,v)∉binds)→bindC kindOf binds m x=m x
 | [],_,_=>rfl
 | (n,v)::r,m,h=>by
   unfold bindC
   rw[lH fun w hw=>h w (List.mem_cons_of_mem _ hw)]
   split
   ·rfl
   ·have:x≠n:=by rintro rfl;exact h v List.mem_cons_self
    simp[this]
theorem nt{kindOf:Str→Option NameKind}{x:Str}{v:Value}:∀{P:List Str} {vs:List Value} {i:Nat} {m:Str→Option Value},P.Nodup→P[i]?=some x→vs[i]?=some v→kindOf x=some .local→bindL kindOf (P.zip vs) m x=some v
 | [],_,_,_,_,h,_,_=>by simp at h
 | _::_,[],_,_,_,_,h,_=>by simp at h
 | p::P,w::vs,0,m,nd,h1,h2,hk=>by
   simp at h1 h2;subst h1;subst h2
   show bindL kindOf ((p,w)::P.zip vs) m p=_
   unfold bindL
   rw[ki fun v hv=>(List.nodup_cons.mp nd).1 (List.of_mem_zip hv).1,if_pos hk]
   simp
 | p::P,w::vs,i+1,m,nd,h1,h2,hk=>by
   show bindL kindOf ((p,w)::P.zip vs) m x=_
   unfold bindL
   exact nt (i:=i) (List.nodup_cons.mp nd).2 (by simpa using h1) (by simpa using h2) hk
theorem nQ{kindOf:Str→Option NameKind}{x:Str}{v:Value}:∀{P:List Str} {vs:List Value} {i:Nat} {m:Str→Option Value},P.Nodup→P[i]?=some x→vs[i]?=some v→kindOf x≠some .local→bindC kindOf (P.zip vs) m x=some v
 | [],_,_,_,_,h,_,_=>by simp at h
 | _::_,[],_,_,_,_,h,_=>by simp at h
 | p::P,w::vs,0,m,nd,h1,h2,hk=>by
   simp at h1 h2;subst h1;subst h2
   show bindC kindOf ((p,w)::P.zip vs) m p=_
   unfold bindC
   rw[lH fun v hv=>(List.nodup_cons.mp nd).1 (List.of_mem_zip hv).1,if_neg hk]
   simp
 | p::P,w::vs,i+1,m,nd,h1,h2,hk=>by
   show bindC kindOf ((p,w)::P.zip vs) m x=_
   unfold bindC
   exact nQ (i:=i) (List.nodup_cons.mp nd).2 (by simpa using h1) (by simpa using h2) hk
def bN(N:List Str)(vs:List V):St:=vs.map some++List.replicate (N.length-vs.length) none
def bU(CX:bg)(P:Program)(w:World)(K:PySem.W.Frag)(mg:Str→Option Value)(base:Heap)(N:List Str)(qual:Str)(scope:Scope)(f:Addr)(cd:Value)(A:Around)(outer:List Env)(s:Shared)(H:Hp)(E:XK):Cx where
 prog:=P
 w:=w
 K:=K
 mg:=mg
 base:=base
 A:=A.deeper (envOfC qual scope s.heap.objs.size f cd)
 N:=N
 s₀:=s
 H₀:=H
 env:=envOfC qual scope s.heap.objs.size f cd
 outer:=outer
 stack:=envOfC qual scope s.heap.objs.size f cd::outer
 ex:=[]
 calm:=true
 fn:=fun _=>true
 pn:=[]
 xe:=fun e s'=>wpAny (model P w) (A.deeper (envOfC qual scope s.heap.objs.size f cd)) (leaving (envOfC qual scope s.heap.objs.size f cd) e) (fun _ s''=>CX outer H s E e s'') (fun e' s''=>CX outer H s E e' s'') s'
theorem mX{sc:Scope}{n:Nat}{x:Str}(h:sc.names.lookup x=some .cell):∃c,(cellsFrom n sc.names []).lookup x=some c:=by
 have q:=PySem.W.cellsFrom_some sc.names n [] (.inl h)
 exact Option.isSome_iff_exists.mp q
theorem km{CX:bg}{P:Program}{w:World}{K:PySem.W.Frag}{mg:Str→Option Value}{base:Heap}{N ps:List Str}{qual:Str}{scope:Scope}{f:Addr}{cd:Value}{A:Around}{outer:List Env}{s s1:Shared}{H:Hp}{E:XK}{us:List Value}{vs:List V}(S:FnScope N ps scope)(hd:A.handled=none)(e0:Env0 P w K mg base A outer s H)(hl:vs.length=ps.length)(r:Vals vs us)(x:InCallC s s.heap.objs.size (bindL (envOfC qual scope s.heap.objs.size f cd).kindOf (ps.zip us) fun _=>none) (cellsFrom (s.heap.objs.size+1) scope.names []) (bindC (envOfC qual scope s.heap.objs.size f cd).kindOf (ps.zip us) fun _=>none) s1):
 Inv (bU CX P w K mg base N qual scope f cd A outer s H E) [] (bN N vs) H s1:=by
 have hpl:ps.length≤N.length:=by have:=congrArg List.length S.pre;rw[List.length_take] at this;lia
 obtain⟨h1,tk,rfl,hk⟩:=x.done
 have noA:∀b:Addr,b∉(bU CX P w K mg base N qual scope f cd A outer s H E).ex:=fun b z=>absurd (show b∈([]:List Addr) from z) (by simp)
 refine⟨⟨e0.mod,S.kind,rfl,rfl,Nat.le_refl _,fun y z c h1 h2=>?_,fun y hy=>?_,fun y c _ h=>?_,fun _=>hd,Around.frames_deeper e0.frames,.inr ⟨rfl,rfl⟩,fun b z=>absurd z (noA b),e0.bs,e0.bsz,fun b _ _=>noA b,fun b z=>absurd z (noA b),e0.funs,e0.frf⟩,
  rfl,e0.bare,Un.kept hk,⟨_,x.toInCall.ns,fun i y v h1 h2 h3=>?_⟩,fun y c h=>⟨_,x.cell y c h⟩,e0.hok.fresh (Nat.le_refl _),fun y c h=>?_,fun p hp=>absurd (show p∈([]:List (Addr×Obj)) from hp) (by simp),e0.hok.kept hk,?_⟩
 ·exact name_of_addr x.apart (PySem.mem_of_lookup h1) (PySem.mem_of_lookup h2)
 ·have hy:scope.names.lookup y=some .cell∨scope.names.lookup y=some .free:=hy
  rcases hy with hy | hy
  ·exact mX hy
  ·exact absurd rfl (S.nofree _ (PySem.mem_of_lookup hy))
 ·exact Nat.le_of_lt (x.above y c (PySem.mem_of_lookup h))
 ·have hi:i<vs.length:=by
   unfold bN at h2
   by_cases hi:i<vs.length
   ·exact hi
   ·rw[List.getElem?_append_right (by simpa using hi)] at h2
    rw[List.getElem?_replicate] at h2
    split at h2 <;> cases h2
  have ha:vs[i]?=some v:=by
   unfold bN at h2
   rw[List.getElem?_append_left (by simpa using hi),List.getElem?_map] at h2
   cases e:vs[i]? with
   | none=>rw[e] at h2;cases h2
   | some a=>rw[e] at h2;cases h2;rfl
  obtain⟨u,hu,rv⟩:=r.get ha
  have hp:ps[i]?=some y:=by
   rw[←S.pre,List.getElem?_take_of_lt (by lia)];exact h1
  have ndP:ps.Nodup:=by rw[←S.pre];exact S.nd.sublist (List.take_sublist _ _)
  refine⟨u,rv,?_⟩
  rcases S.par y (List.mem_of_getElem? hp) with k | k
  ·exact .inl ⟨k,nt ndP hp hu k⟩
  ·obtain⟨c,e⟩:=mX (n:=s.heap.objs.size+1) k
   refine .inr ⟨.inl k,c,e,?_⟩
   have q:=x.cell y c e
   rw[nQ ndP hp hu (by show scope.names.lookup y≠_;rw[k];decide)] at q
   exact q
 ·exact e0.hok.fresh (Nat.le_of_lt (x.above y c (PySem.mem_of_lookup h)))
 ·unfold bN
  show _=N.length
  rw[List.length_append,List.length_map,List.length_replicate]
  lia
theorem mj{CX:bg}{P:Program}{w:World}{K:PySem.W.Frag}{mg:Str→Option Value}{base:Heap}{k:Nat}{f:Addr}{name qual:Str}{params:Arguments}{body:List Stmt}{scope:Scope}{dV kV doc pm cdv ct oc:Value}{an od:Option Addr}{osl:Array (Option Value)}{N ps:List Str}{sp:Sp}(lk:K.lookup f=some ⟨oc,od,.func (PySem.W.fnOf name qual params body scope dV kV doc pm an cdv ct),osl⟩)(hcd:PySem.W.codeIn K cdv qual=true)(S:FnScope N ps scope)(len:∀vs H Q E,sp vs H Q E→vs.length=ps.length)(hbody:∀(A:Around) (outer:List Env) (s:Shared) (H:Hp) (vs:List V) (Q:VK) (E:XK),Room k (A.deeper (envOfC qual scope s.heap.objs.size f cdv))→sp vs H Q E→∃t,PSs (bU CX P w K mg base N qual scope f cdv A outer s H E) body t∧t {nx:=fun _ H'=>Q .non H',rt:=Q} (bN N vs) H):
 FnOk P w K mg base CX (k+1) f (PySem.W.fnOf name qual params body scope dV kV doc pm an cdv ct) ps sp:=by
 refine⟨len,fun A outer s H args us vs Q E hr e0 hb r hsp=>?_⟩
 have hl:=len _ _ _ _ hsp
 have KX:K.In s.heap:=e0.mod.kin.keeps fun b o e=>(e0.bs b o e).1
 have lim:s.heap.NoLimit:=e0.mod.nolimit.keeps fun b o e=>(e0.bs b o e).1
 have hkind:∀y∈ps.zip us,scope.names.lookup y.1=some .local∨(scope.names.lookup y.1=some .cell∧((cellsFrom (s.heap.objs.size+1) scope.names []).lookup y.1).isSome=true):=fun⟨n,v⟩ hy=>by
  rcases S.par n (List.of_mem_zip hy).1 with q | q
  ·exact .inl q
  ·exact .inr ⟨q,PySem.W.cellsFrom_some _ _ _ (.inl q)⟩
 refine codeAny_call_function hr.depth (KX _ _ lk) rfl S.co S.gen rfl (PySem.W.codeRec_of KX hcd) (hb _ _ _ _ ?_)
 refine wpAny_newFunctionEnv_cells S.kind hkind fun env he s1 x=>?_
 subst he
 refine⟨lim.keeps x.toInCall.keep,codeAny_func ?_⟩
 obtain⟨t,ht,hq⟩:=hbody A outer s H vs Q E (hr.deeper _) hsp
 have I:Inv (bU CX P w K mg base N qual scope f cdv A outer s H E) [] (bN N vs) H s1:=km S hr.hd e0 hl r x
 refine wpAny_mono (ht [] s1 (bN N vs) H _ I hq) (fun fl s' hs=>?_) fun e s' hs=>hs
 have fin:∀{σ':St} {H':Hp} {v:V} {u:Value},Inv (bU CX P w K mg base N qual scope f cdv A outer s H E) [] σ' H' s'→RelV v u→Q v H'→CE outer P w H s Q u s':=
  fun{σ' H' v u} J rv q=>⟨v,H',J.os,J.bare,J.base,J.hok,rv,q⟩
 cases fl with
 | ret u=>
   obtain⟨v,σ',H',J,rv,q⟩:=hs
   exact fin J rv q
 | next=>
   obtain⟨σ',H',J,q⟩:=hs
   exact fin (v:=V.non) (u:=Value.none) J rfl q
 | brk=>
   obtain⟨_,_,_,q⟩:=hs
   exact False.elim q
 | cont=>
   obtain⟨_,_,_,q⟩:=hs
   exact False.elim q
section
variable{X:Cx}{x:Str}{p pos:Pos}{e:Expr}{es:List Expr}{t:TA}{id T:String}{r:List V→Hp→VK→Prop}
def mE(r:List V→Hp→VK→Prop)(t:TA):TE:=fun σ H Q=>t σ H fun vs H1=>r vs H1 Q
theorem cI(hc:bQ X (.builtin id) r)(hg:Gl X x)(hm:X.mg x=none)(hv:bootBuiltins x=some (.builtin id))(ha:PA X (e::es) t)(hn:x≠"__name__":=by decide)(hdb:(x == ("__debug__":Str))=false:=by decide)
 (he:starEach (e::es) X.env=(false,eval e X.env)::starEach es X.env:=by rfl)(hpl:(backTo pos (starEach es X.env)).any (·.1)=false:=by rfl):PE X (.Call (.Name x p) (e::es) [] pos) (mE r t):=by
 intro pins s σ H Q I h
 refine wpAny_Call_Name_kw (dh I hg hm hv ?_ hn hdb)
 exact PyProof.Rows.callWith_builtin1 (am (ha pos pins s σ H _ I h) fun us s1 ⟨vs,H1,I1,r1,q1⟩=>hc pins s1 σ H1 vs us Q I1 r1 q1) he hpl
theorem fF(hc:bQ X (.type T) r)(hg:Gl X x)(hm:X.mg x=none)(hv:bootBuiltins x=some (.type T))(ha:PA X (e::es) t)(hn:x≠"__name__":=by decide)(hdb:(x == ("__debug__":Str))=false:=by decide)
 (he:starEach (e::es) X.env=(false,eval e X.env)::starEach es X.env:=by rfl)(hpl:(backTo pos (starEach es X.env)).any (·.1)=false:=by rfl):PE X (.Call (.Name x p) (e::es) [] pos) (mE r t):=by
 intro pins s σ H Q I h
 refine wpAny_Call_Name_kw (dh I hg hm hv ?_ hn hdb)
 exact PyProof.Rows.callWith_type1 (am (ha pos pins s σ H _ I h) fun us s1 ⟨vs,H1,I1,r1,q1⟩=>hc pins s1 σ H1 vs us Q I1 r1 q1) he hpl
end
end L2
namespace HT
open PySem PyProof.Rows
section
open PySem.SeqAt
open PySem.AutoSeq1 (wpAny_loadPart')
open PySem.MeetsSeq PySem.MeetsSeq2 PySem.MeetsSeq3
end
section
variable{prog:Program}{w:World}{A:Around}{E:Value→Shared→Prop}{s:Shared}
def sIx(n d:Nat):Option Int→Nat
 | none=>d
 | some v=>if v<0 then(v+(n:Int)).toNat else min v.toNat n
theorem sIx_none(n d:Nat):sIx n d none=d:=rfl
end
end HT
namespace L2
open PySem PySem.Spec PyProof.Rows
abbrev TO:=St→Hp→(Option Int→Hp→Prop)→Prop
def PO(X:Cx)(e:Option Expr)(t:TO):Prop:=
 ∀ (pins:List (Addr×Obj)) (s:Shared) (σ:St) (H:Hp) (Q:Option Int→Hp→Prop),Inv X pins σ H s→t σ H Q→
   wpAny (model X.prog X.w) X.A (evalPart e X.env) (fun u s'=>∃o H',Inv X pins σ H' s'∧IsPart u o∧Q o H') X.xe s
def fg:TO:=fun _ H Q=>Q none H
def fA(t:TE):TO:=fun σ H Q=>t σ H fun x H1=>∃i,x=.int i∧Q (some i) H1
section
variable{X:Cx}{e:Expr}{te:TE}{lo hi:Option Expr}{tl th:TO}{pos p2:Pos}
theorem bA:PO X none fg:=by
 intro pins s σ H Q I h
 rw[evalPart_none]
 exact wpAny_pure ⟨none,H,I,.none,h⟩
theorem bt(h:PE X e te):PO X (some e) (fA te):=by
 intro pins s σ H Q I hw
 rw[evalPart_some]
 refine am (h pins s σ H _ I hw) fun u s1 ⟨x,H1,I1,r1,q1⟩=>?_
 obtain⟨i,rfl,q⟩:=q1
 obtain⟨t,rfl⟩:=r1
 exact⟨some i,H1,I1,.int i t,q⟩
def kF(X:Cx)(r:V→Option Int→Option Int→Hp→VK→Prop):Prop:=
 ∀ (pins:List (Addr×Obj)) (s:Shared) (σ:St) (H:Hp) (x:V) (v vl vu:Value) (lo hi:Option Int) (sl:Addr) (Q:VK),Inv X pins σ H s→RelV x v→s.heap.IsSliceOf sl vl vu .none→IsPart vl lo→IsPart vu hi→r x lo hi H Q→
   ∃T id,typeLookup (.type T) "__getitem__"=pure (some (.builtin id))∧s.TypeIs v T∧wpAny (model X.prog X.w) X.A (getItem v (.ref sl)) (EP X pins σ Q) X.xe s
def fJ(r:V→Option Int→Option Int→Hp→VK→Prop)(te:TE)(tl th:TO):TE:=fun σ H Q=>te σ H fun x H1=>tl σ H1 fun l H2=>th σ H2 fun u H3=>r x l u H3 Q
theorem bu{r:V→Option Int→Option Int→Hp→VK→Prop}(hr:kF X r)(he:PE X e te)(hl:PO X lo tl)(hu:PO X hi th):PE X (.Subscript e (.Slice lo hi none p2) pos) (fJ r te tl th):=by
 intro pins s σ H Q I h
 refine Subscript_ (am (he pins s σ H _ I h) fun v s1 ⟨x,H1,I1,r1,q1⟩=>?_)
 refine wpAny_Slice (am (hl pins s1 σ H1 _ I1 q1) fun vl s2 ⟨l,H2,I2,pl,q2⟩=>am (hu pins s2 σ H2 _ I2 q2) fun vu s3 ⟨u,H3,I3,pu,q3⟩=>?_)
 rw[evalPart_none]
 refine wpAny_pure ?_
 have I4:Inv X pins σ H3 {s3 with heap:=s3.heap.push {cls:=.type "slice",data:=.fields #[vl,vu,.none]}}:=I3.kept (t':=s3.toks) fun b ob q=>Heap.get?_push_of_some _ q
 obtain⟨T,id,hT,ht,hg⟩:=hr pins {s3 with heap:=s3.heap.push {cls:=.type "slice",data:=.fields #[vl,vu,.none]}} σ H3 x v vl vu l u s3.heap.objs.size Q I4 r1 (Heap.IsSliceOf.new ..) pl pu q3
 show wpAny (model X.prog X.w) X.A (subscriptTail e (.Slice lo hi none p2) v (.ref s3.heap.objs.size)) (EP X pins σ Q) X.xe {s3 with heap:=s3.heap.push {cls:=.type "slice",data:=.fields #[vl,vu,.none]}}
 exact tail_any (ops:=[.ref s3.heap.objs.size,v]) ht hT hg (by with_unfolding_all rfl)
def bi(xs:List V)(lo hi:Option Int):List V:=(xs.drop (HT.sIx xs.length 0 lo)).take (HT.sIx xs.length xs.length hi-HT.sIx xs.length 0 lo)
theorem vM(xs:List V)(lo hi:Option Int):(bi xs lo hi).length≤xs.length:=by
 unfold bi
 rw[List.length_take,List.length_drop]
 lia
end
def bT(n:Nat)(i:Int):Option Nat:=if 0≤i then(if i<n then some i.toNat else none) else if -(n:Int)≤i then some (i+n).toNat else none
def aX{α:Type}(xs:List α)(i:Int):Option α:=(bT xs.length i).bind fun j=>xs[j]?
theorem jd{n:Nat}{i:Int}{j:Nat}(h:bT n i=some j):seqIndex? i n=some j∧j<n∧ -(n:Int)≤i∧i<n:=by
 unfold bT at h
 by_cases h0:0≤i
 ·rw[if_pos h0] at h
  by_cases h1:i<n
  ·rw[if_pos h1] at h
   have e:i.toNat=j:=Option.some.inj h
   exact⟨by rw[seqIndex_of h0 h1,e],by lia,by lia,h1⟩
  ·rw[if_neg h1] at h;cases h
 ·rw[if_neg h0] at h
  by_cases h1: -(n:Int)≤i
  ·rw[if_pos h1] at h
   have e:(i+n).toNat=j:=Option.some.inj h
   exact⟨by rw[seqIndex_neg (by lia) h1,e],by lia,h1,by lia⟩
  ·rw[if_neg h1] at h;cases h
theorem jp{α:Type}{xs:List α}{i:Int}{v:α}(h:aX xs i=some v):∃j,seqIndex? i xs.length=some j∧xs[j]?=some v∧j<xs.length∧ -(xs.length:Int)≤i∧i<xs.length:=by
 unfold aX at h
 cases e:bT xs.length i with
 | none=>rw[e] at h;cases h
 | some j=>
   rw[e] at h
   obtain⟨h1,h2,h3,h4⟩:=jd e
   exact⟨j,h1,h,h2,h3,h4⟩
theorem bc{α:Type}{xs:List α}{j:Nat}{v:α}(h:xs[j]?=some v):aX xs (j:Int)=some v:=by
 have hj:j<xs.length:=(List.getElem?_eq_some_iff.mp h).1
 have e:bT xs.length (j:Int)=some j:=by
  unfold bT
  rw[if_pos (by lia),if_pos (by lia)];simp
 unfold aX;rw[e];exact h
theorem ju{α:Type}(xs:List α)(v:α):aX (xs++[v]) (-1)=some v:=by
 have hl:(xs++[v]).length=xs.length+1:=by simp
 have e:bT (xs++[v]).length (-1)=some xs.length:=by
  unfold bT
  rw[hl,if_neg (by decide),if_pos (by lia)]
  congr 1
  lia
 unfold aX
 rw[e]
 show(xs++[v])[xs.length]?=some v
 simp
def uC(b:Expr):Prop:=∀o i,subscripted b false o i=operate [o,i] (getItem o i)
def gx(X:Cx)(r:R2):Prop:=
 ∀ (value slice:Expr) (pins:List (Addr×Obj)) (s:Shared) (σ:St) (H:Hp) (x y:V) (v u:Value) (Q:VK),Inv X pins σ H s→RelV x v→RelV y u→r x y H Q→
   subscripted slice false v u=operate [v,u] (getItem v u)→wpAny (model X.prog X.w) X.A (subscriptTail value slice v u) (EP X pins σ Q) X.xe s
def j7(X:Cx)(id:String)(r:V→List V→Hp→VK→Prop):Prop:=
 ∀ (pins:List (Addr×Obj)) (s:Shared) (σ:St) (H:Hp) (x:V) (xs:List V) (v:Value) (us:List Value) (Q:VK),Inv X pins σ H s→RelV x v→Vals xs us→r x xs H Q→
   wpAny (model X.prog X.w) X.A (call (.builtin id) (v::us)) (EP X pins σ Q) X.xe s
section
variable{X:Cx}{a b:Expr}{ta tb:TE}{pos:Pos}
theorem aJ{r:R2}(hr:gx X r)(ha:PE X a ta)(hb:PE X b tb)(hs:uC b):PE X (.Subscript a b pos) (dG r ta tb):=by
 intro pins s σ H Q I h
 exact Subscript_ (jE ha hb I h fun v u s2 x y H2 I2 rx ry q=>hr a b pins s2 σ H2 x y v u Q I2 rx ry q (hs _ _))
def vz(K:PySem.W.Frag):R2:=fun x y H Q=>∃p xs i v,x=.ref p∧y=.int i∧SqL K H p xs∧aX xs i=some v∧Q v H
def pT(K:PySem.W.Frag):R2:=fun x y H Q=>∃p xs i v,x=.ref p∧y=.int i∧SqT K H p xs∧aX xs i=some v∧Q v H
def sf:R2:=fun x y H Q=>∃z i c,x=.str z∧y=.int i∧z.length≤sizeLine∧aX z.cps.toList i=some c∧Q (.str ⟨#[c]⟩) H
theorem aO:gx X (vz X.K):=by
 intro value slice pins s σ H x y v u Q I rx ry h hs
 obtain⟨p,xs,i,z,rfl,rfl,hq,he,q⟩:=h
 cases rx
 obtain⟨t,rfl⟩:=ry
 obtain⟨its,r,pl,hz⟩:=I.list hq
 obtain⟨j,h1,h2,h3,h4,h5⟩:=jp he
 obtain⟨w,ew,rw'⟩:=r.get h2
 have hl:=r.length
 have hn:=dR
 have fin:EP X pins σ Q w s:=⟨z,H,I,rw',q⟩
 by_cases h0:0≤i
 ·have hj:i.toNat=j:=by
   rw[seqIndex_of h0 h5] at h1
   exact Option.some.inj h1
  exact item_listR pl.isList h0 (by lia) (by rw[hj];simpa using ew) fin hs
 ·have hj:(i+(its.toArray.size:Int)).toNat=j:=by
   rw[seqIndex_neg (by lia) h4] at h1
   rw[List.size_toArray,←hl]
   exact Option.some.inj h1
  exact subscriptTail_builtinR (x:=w) pl.isList.typeIs slot_list_getitem.lookup
   (wpAny_getItem_list_neg (Q:=fun r s'=>r=w∧EP X pins σ Q r s') pl.isList (by lia) (by rw[List.size_toArray] <;> lia) (by lia) (by rw[hj];simpa using ew) ⟨rfl,fin⟩) hs
theorem dk:gx X (pT X.K):=by
 intro value slice pins s σ H x y v u Q I rx ry h hs
 obtain⟨p,xs,i,z,rfl,rfl,hq,he,q⟩:=h
 cases rx
 obtain⟨t,rfl⟩:=ry
 obtain⟨its,r,pl,hz⟩:=I.tuple hq
 obtain⟨j,h1,h2,h3,h4,h5⟩:=jp he
 obtain⟨w,ew,rw'⟩:=r.get h2
 have hl:=r.length
 have hn:=dR
 have fin:EP X pins σ Q w s:=⟨z,H,I,rw',q⟩
 exact subscriptTail_builtinR (x:=w) pl.typeIs slot_tuple_getitem.lookup
  (getItem_tuple (j:=j) (Q:=fun r s'=>r=w∧EP X pins σ Q r s') pl (by lia) (by lia) (by rw[List.size_toArray,←hl];exact h1) (by simpa using ew) ⟨rfl,fin⟩) hs
theorem jv:gx X sf:=by
 intro value slice pins s σ H x y v u Q I rx ry h hs
 obtain⟨z,i,c,rfl,rfl,hz,he,q⟩:=h
 obtain⟨t,rfl⟩:=rx
 obtain⟨t',rfl⟩:=ry
 obtain⟨j,h1,h2,h3,h4,h5⟩:=jp he
 have hl:z.cps.toList.length=z.length:=by simp[Str.length]
 rw[hl] at h1 h4 h5
 have hn:=dR
 exact tail_any (typeIs_str s z t) slot_str_getitem.lookup (getItem_str (c:=c) (by
  have e1:decide (i < -(2 ^ 63:Int))=false:=decide_eq_false (by lia)
  have e2:decide (i≥2 ^ 63)=false:=decide_eq_false (by lia)
  rw[e1,e2,Bool.or_false]) (by rw[h1];simpa using h2) ⟨.str ⟨#[c]⟩,H,I.tok _,⟨_,rfl⟩,q⟩) hs
theorem tK(its:List Value)(n j:Nat)(u:Value):Obj.mapSeq (·.setIfInBounds j u) {cls:=.type "list",data:=.seq its.toArray n}={cls:=.type "list",data:=.seq (its.set j u).toArray n}:=by
 simp[Obj.mapSeq]
theorem Inv.lst{pins:List (Addr×Obj)}{σ:St}{H:Hp}{s:Shared}{p:Addr}{xs:List V}(I:Inv X pins σ H s)(h:H p=some (.lst xs)):∃(its:List Value) (n:Nat),Vals xs its∧s.heap.get? p=some {cls:=.type "list",data:=.seq its.toArray n}∧xs.length≤sizeLine:=by
 obtain⟨z,its,n,r,e⟩:=I.hok p _ h
 exact⟨its,n,r,e,z⟩
theorem Inv.lstUpd{pins:List (Addr×Obj)}{σ:St}{H:Hp}{s:Shared}{p:Addr}{xs ys:List V}{its its':List Value}{n n':Nat}{f:Obj→Obj}(I:Inv X pins σ H s)(h:H p=some (.lst xs))(ho:s.heap.get? p=some {cls:=.type "list",data:=.seq its.toArray n})(hf:f {cls:=.type "list",data:=.seq its.toArray n}={cls:=.type "list",data:=.seq its'.toArray n'})(r:Vals ys its')(hz:ys.length≤sizeLine)(t:Nat):Inv X pins σ (upd H p (.lst ys)) {s with heap:=s.heap.update p f,toks:=t}:=by
 have e:(s.heap.update p f).get? p=some {cls:=.type "list",data:=.seq its'.toArray n'}:=by
  rw[Heap.get?_update_self f ho (by rw[hf] <;> rfl),hf]
 refine I.write (x:=p) (e:=p) (by rw[h];trivial) (.inl rfl) (fun b u hb q=>(Heap.get?_update_other _ _ (Ne.symm hb)).trans q) ⟨_,e⟩ ?_
 exact⟨hz,its',n',r,e⟩
def rf:V→V→V→Hp→(Hp→Prop)→Prop:=fun o i v H Q=>∃p xs k j,o=.ref p∧i=.int k∧H p=some (.lst xs)∧bT xs.length k=some j∧Q (upd H p (.lst (xs.set j v)))
theorem ot:mq X rf:=by
 intro pins s σ H o i v ov iv u Q I ro ri rv h
 obtain⟨p,xs,k,j,rfl,rfl,hp,hj,q⟩:=h
 cases ro
 obtain⟨t,rfl⟩:=ri
 obtain⟨its,n,r,ho,hz⟩:=I.lst hp
 obtain⟨h1,h2,h3,h4⟩:=jd hj
 have hl:=r.length
 have hn:=dR
 have I':Inv X pins σ (upd H p (.lst (xs.set j v))) {s with heap:=s.heap.update p (Obj.mapSeq (·.setIfInBounds j u))}:=
  I.lstUpd hp ho (tK its n j u) (r.set rv j) (by rw[List.length_set];exact hz) s.toks
 by_cases h0:0≤k
 ·have hk:k.toNat=j:=by
   rw[seqIndex_of h0 h4] at h1
   exact Option.some.inj h1
  exact PySem.W.ki_setAt ho h0 (by lia) (by rw[List.size_toArray,←hl];exact h4) (by rw[hk];exact⟨_,I',q⟩)
 ·have hk:(k+(its.toArray.size:Int)).toNat=j:=by
   rw[seqIndex_neg (by lia) h3] at h1
   rw[List.size_toArray,←hl]
   exact Option.some.inj h1
  exact PySem.W.ki_setBack ho (by lia) (by rw[List.size_toArray,←hl];exact h3) (by lia) (by rw[hk];exact⟨_,I',q⟩)
theorem vg(lo hi:Option Int)(n:Nat):(sliceBounds lo hi none n).1=((HT.sIx n 0 lo:Nat):Int)∧(sliceBounds lo hi none n).2.1=((HT.sIx n n hi:Nat):Int)∧(sliceBounds lo hi none n).2.2=1:=by
 refine⟨?_,?_,rfl⟩
 ·cases lo with
  | none=>simp[sliceBounds,HT.sIx]
  | some i=>
    simp only[sliceBounds,HT.sIx,Option.getD_none,show(1:Int)>0 by decide,if_true]
    by_cases h:i<0
    ·simp only[h,if_true] <;> lia
    ·simp only[h,if_false] <;> lia
 ·cases hi with
  | none=>simp[sliceBounds,HT.sIx]
  | some i=>
    simp only[sliceBounds,HT.sIx,Option.getD_none,show(1:Int)>0 by decide,if_true]
    by_cases h:i<0
    ·simp only[h,if_true] <;> lia
    ·simp only[h,if_false] <;> lia
theorem pz(its:List Value)(lo hi:Option Int):slicePick its.toArray lo hi none=((its.drop (HT.sIx its.length 0 lo)).take (HT.sIx its.length its.length hi-HT.sIx its.length 0 lo)).toArray:=by
 obtain⟨h1,h2,h3⟩:=vg lo hi its.toArray.size
 unfold slicePick
 rw[h1,h2,h3]
 simp only[sliceRange_one,pick_run,List.size_toArray] <;> rfl
def fR(K:PySem.W.Frag):V→Option Int→Option Int→Hp→VK→Prop:=fun x lo hi H Q=>∃a xs,x=.ref a∧SqL K H a xs∧∀p,H p=none→Q (.ref p) (upd H p (.lst (bi xs lo hi)))
theorem bv:kF X (fR X.K):=by
 intro pins s σ H x v vl vu lo hi sl Q I rx hs pl pu h
 obtain⟨a,xs,rfl,hx,q⟩:=h
 cases rx
 obtain⟨its,r,ht,hz⟩:=I.list hx
 have hlen:=r.length
 refine⟨"list",_,slot_list_getitem.lookup,ht.isList.typeIs,?_⟩
 refine wpAny_getItem_list_slice ht.isList hs pl pu .none (by simp) ?_ (by rw[List.size_toArray] <;> lia)
 rw[pz,←hlen]
 refine⟨.ref s.heap.objs.size,_,I.laid (t':=s.toks) (o:=.lst (bi xs lo hi)) (fun b ob q=>Heap.get?_push_of_some _ q) (Nat.le_refl _) ?_,rfl,q _ (I.hok.fresh (Nat.le_refl _))⟩
 exact⟨Nat.le_trans (vM xs lo hi) hz,_,0,(r.drop (HT.sIx xs.length 0 lo)).take (HT.sIx xs.length xs.length hi-HT.sIx xs.length 0 lo),Heap.get?_push_size _ rfl⟩
def cE:V→Bool
 | .non=>true
 | .bl _=>true
 | .int _=>true
 | .str _=>true
 | _=>false
def cr:V→V→Bool
 | .non,.non=>true
 | .bl a,.bl b=>a == b
 | .bl a,.int b=>(if a then 1 else 0) == b
 | .int a,.bl b=>a == (if b then 1 else 0)
 | .int a,.int b=>a == b
 | .str a,.str b=>a == b
 | _,_=>false
theorem oh{A:Around}{s:Shared}{y x:V}{u v:Value}(ry:RelV y u)(rx:RelV x v)(fy:cE y=true)(fx:cE x=true):SeqAt.EqAt A s u v (cr y x):=by
 cases y with
 | non=>
   cases ry
   cases x with
   | non=>cases rx;exact SeqAt.EqAt.same _
   | bl b=>cases rx;exact SeqAt.EqAt.none_bool b
   | int b=>obtain⟨t,rfl⟩:=rx;exact SeqAt.EqAt.none_int b t
   | str b=>obtain⟨t,rfl⟩:=rx;exact SeqAt.EqAt.none_str b t
   | _=>exact absurd (show false=true from fx) Bool.false_ne_true
 | bl a=>
   cases ry
   cases x with
   | non=>cases rx;exact SeqAt.EqAt.bool_none a
   | bl b=>cases rx;exact SeqAt.EqAt.bool_bool a b
   | int b=>obtain⟨t,rfl⟩:=rx;exact SeqAt.EqAt.bool_int a b t
   | str b=>obtain⟨t,rfl⟩:=rx;exact SeqAt.EqAt.bool_str a b t
   | _=>exact absurd (show false=true from fx) Bool.false_ne_true
 | int a=>
   obtain⟨t',rfl⟩:=ry
   cases x with
   | non=>cases rx;exact SeqAt.EqAt.int_none a t'
   | bl b=>cases rx;exact SeqAt.EqAt.int_bool a t' b
   | int b=>obtain⟨t,rfl⟩:=rx;exact SeqAt.EqAt.int_int a t' b t
   | str b=>obtain⟨t,rfl⟩:=rx;exact SeqAt.EqAt.int_str a t' b t
   | _=>exact absurd (show false=true from fx) Bool.false_ne_true
 | str a=>
   obtain⟨t',rfl⟩:=ry
   cases x with
   | non=>cases rx;exact SeqAt.EqAt.str_none a t'
   | bl b=>cases rx;exact SeqAt.EqAt.str_bool a t' b
   | int b=>obtain⟨t,rfl⟩:=rx;exact SeqAt.EqAt.str_int a t' b t
   | str b=>obtain⟨t,rfl⟩:=rx;exact SeqAt.EqAt.str_str a t' b t
   | _=>exact absurd (show false=true from fx) Bool.false_ne_true
 | _=>exact absurd (show false=true from fy) Bool.false_ne_true
def bJ(x:V)(u:Value):Bool:=match u with
 | .none=>cr .non x
 | .bool b=>cr (.bl b) x
 | .int i _=>cr (.int i) x
 | .str z _=>cr (.str z) x
 | _=>false
theorem kz{x y:V}{u:Value}(r:RelV y u)(f:cE y=true):bJ x u=cr y x:=by
 cases y with
 | non=>cases r;rfl
 | bl b=>cases r;rfl
 | int i=>obtain⟨t,rfl⟩:=r;rfl
 | str z=>obtain⟨t,rfl⟩:=r;rfl
 | _=>exact absurd (show false=true from f) Bool.false_ne_true
theorem fD{x:V}:∀{xs:List V} {us:List Value},Vals xs us→xs.all cE=true→us.any (bJ x)=xs.any fun y=>cr y x
 | _,_,.nil,_=>rfl
 | y::xs,u::us,.cons r t,f=>by
   rw[List.all_cons,Bool.and_eq_true] at f
   rw[List.any_cons,List.any_cons,kz r f.1,fD t f.2]
theorem ft{A:Around}{s:Shared}{x:V}{v:Value}(rx:RelV x v)(fx:cE x=true):∀{xs:List V} {us:List Value},Vals xs us→xs.all cE=true→∀u∈us,SeqAt.EqAt A s u v (bJ x u)
 | _,_,.nil,_=>fun u hu=>by cases hu
 | y::xs,u::us,.cons r t,f=>fun u' hu=>by
   rw[List.all_cons,Bool.and_eq_true] at f
   rcases List.mem_cons.mp hu with rfl | hu
   ·rw[kz r f.1];exact oh r rx f.1 fx
   ·exact ft rx fx t f.2 u' hu
def cz(x:V)(xs:List V):Bool:=xs.any fun y=>cr y x
def oA(K:PySem.W.Frag)(neg:Bool):R2:=fun x y H Q=>∃p xs,y=.ref p∧(SqL K H p xs∨SqT K H p xs)∧cE x=true∧xs.all cE=true∧Q (.bl (if neg then !cz x xs else cz x xs)) H
theorem mw:OpR X (compareOp .In) (oA X.K false):=by
 intro pins s σ H x y v u Q I rx ry h
 obtain⟨p,xs,rfl,hq,fx,fs,q⟩:=h
 cases ry
 rcases hq with hq | hq
 ·obtain⟨its,r,pl,hz⟩:=I.list hq
  refine SeqAt.in_listAt (bJ x) pl.isList (fun w hw=>ft rx fx r fs w (by simpa using hw)) ⟨.bl _,H,I,rfl,?_⟩
  rw[show its.toArray.any (bJ x)=its.any (bJ x) by simp,fD r fs]
  exact q
 ·obtain⟨its,r,pl,hz⟩:=I.tuple hq
  refine SeqAt.in_tupleAt (bJ x) pl (fun w hw=>ft rx fx r fs w (by simpa using hw)) ⟨.bl _,H,I,rfl,?_⟩
  rw[show its.toArray.any (bJ x)=its.any (bJ x) by simp,fD r fs]
  exact q
theorem pq:OpR X (compareOp .NotIn) (oA X.K true):=by
 intro pins s σ H x y v u Q I rx ry h
 obtain⟨p,xs,rfl,hq,fx,fs,q⟩:=h
 cases ry
 rcases hq with hq | hq
 ·obtain⟨its,r,pl,hz⟩:=I.list hq
  refine SeqAt.notIn_listAt (bJ x) pl.isList (fun w hw=>ft rx fx r fs w (by simpa using hw)) ⟨.bl _,H,I,rfl,?_⟩
  rw[show its.toArray.any (bJ x)=its.any (bJ x) by simp,fD r fs]
  exact q
 ·obtain⟨its,r,pl,hz⟩:=I.tuple hq
  refine SeqAt.notIn_tupleAt (bJ x) pl (fun w hw=>ft rx fx r fs w (by simpa using hw)) ⟨.bl _,H,I,rfl,?_⟩
  rw[show its.toArray.any (bJ x)=its.any (bJ x) by simp,fD r fs]
  exact q
theorem pB:bQ X (.builtin "len") (fun xs H Q=>∃p ys,xs=[.ref p]∧(SqL X.K H p ys∨SqT X.K H p ys)∧Q (.int ys.length) H):=by
 intro pins s σ H xs us Q I r h
 obtain⟨p,ys,rfl,hq,q⟩:=h
 obtain⟨u,rfl,rx⟩:=cV r
 cases rx
 have hn:=dR
 rcases hq with hq | hq
 ·obtain⟨its,r',pl,hz⟩:=I.list hq
  have hlen:=r'.length
  exact Calls.call_len_list pl.isList (by simp only[List.size_toArray] <;> lia) ⟨.int ys.length,H,I.tok _,⟨s.toks+1,by rw[List.size_toArray,hlen]⟩,q⟩
 ·obtain⟨its,r',pl,hz⟩:=I.tuple hq
  have hlen:=r'.length
  exact len_tuple pl (by simp only[List.size_toArray] <;> lia) ⟨.int ys.length,H,I.tok _,⟨s.toks+1,by rw[List.size_toArray,hlen]⟩,q⟩
theorem pS:bQ X (.builtin "len") (fun xs H Q=>∃z,xs=[.str z]∧z.length≤sizeLine∧Q (.int z.length) H):=by
 intro pins s σ H xs us Q I r h
 obtain⟨z,rfl,hz,q⟩:=h
 obtain⟨u,rfl,t,rfl⟩:=cV r
 have hn:=dR
 exact len_str (by lia) ⟨.int z.length,H,I.tok _,⟨_,rfl⟩,q⟩
theorem mW:bQ X (.type "list") (fun xs H Q=>∃p ys,xs=[.ref p]∧(SqL X.K H p ys∨SqT X.K H p ys)∧∀l,H l=none→Q (.ref l) (upd H l (.lst ys))):=by
 intro pins s σ H xs us Q I r h
 obtain⟨p,ys,rfl,hq,q⟩:=h
 obtain⟨u,rfl,rx⟩:=cV r
 cases rx
 have fin:∀(its:List Value),Vals ys its→ys.length≤sizeLine→∀(h':Heap) (c':Nat),(∀b o',s.heap.get? b=some o'→h'.get? b=some o')→
  h'.get? s.heap.objs.size=some {cls:=.type "list",dict:=none,data:=.seq its.toArray c',slots:=#[]}→EP X pins σ Q (.ref s.heap.objs.size) {s with heap:=h'}:=fun its r' hz h' c' kp e=>
  ⟨.ref s.heap.objs.size,_,I.laid (t':=s.toks) kp (Nat.le_refl _) (show ObjOk X.prog X.w _ h' _ (.lst ys) from⟨hz,its,c',r',e⟩),rfl,q _ (I.hok.fresh (Nat.le_refl _))⟩
 rcases hq with hq | hq
 ·obtain⟨its,r',pl,hz⟩:=I.list hq
  have hlen:=r'.length
  obtain⟨o,ho,hc,n,hd⟩:=pl.isList
  exact call_list_seq p (.inl rfl) ho hc hd (fun h' c' kp e=>fin its r' hz h' c' kp e) (by simp only[List.size_toArray] <;> lia)
 ·obtain⟨its,r',pl,hz⟩:=I.tuple hq
  have hlen:=r'.length
  obtain⟨o,ho,hc,n,hd⟩:=pl
  exact call_list_seq p (.inr rfl) ho hc hd (fun h' c' kp e=>fin its r' hz h' c' kp e) (by simp only[List.size_toArray] <;> lia)
theorem uA:bQ X (.type "tuple") (fun xs H Q=>∃p ys,xs=[.ref p]∧((SqL X.K H p ys∧∀l,H l=none→Q (.ref l) (upd H l (.tup ys)))∨(SqT X.K H p ys∧Q (.ref p) H))):=by
 intro pins s σ H xs us Q I r h
 obtain⟨p,ys,rfl,h⟩:=h
 obtain⟨u,rfl,rx⟩:=cV r
 cases rx
 rcases h with⟨hq,q⟩ | ⟨hq,q⟩
 ·obtain⟨its,r',pl,hz⟩:=I.list hq
  have hlen:=r'.length
  refine call_tuple_list pl.isList (fun h' kp=>?_) (by simp only[List.size_toArray] <;> lia)
  have I1:Inv X pins σ H {s with heap:=h'}:=I.kept (t':=s.toks) kp
  have I2:Inv X pins σ (upd H h'.objs.size (.tup ys)) {s with heap:=h'.push {cls:=.type "tuple",data:=.seq its.toArray}}:=
   I1.laid (t':=s.toks) (fun b o e=>Heap.get?_push_of_some _ e) (Nat.le_refl _) (show ObjOk X.prog X.w _ _ _ (.tup ys) from⟨hz,its,r',IsTup.new _ _⟩)
  exact⟨.ref h'.objs.size,_,I2,rfl,q _ (I1.hok.fresh (Nat.le_refl _))⟩
 ·obtain⟨its,r',pl,hz⟩:=I.tuple hq
  exact call_tuple_same pl ⟨.ref p,H,I,rfl,q⟩
def mf(K:PySem.W.Frag)(T:String)(x:V)(H:Hp):Prop:=match x with
 | .str _=>T="str"
 | .int _=>T="int"
 | .ref p=>(T="list"∧∃xs,SqL K H p xs)∨(T="tuple"∧∃o,K.lookup p=some o∧o.cls=.type "tuple"∧o.dict=none)∨
  (T="dict"∧((∃kvs,H p=some (.dK kvs))∨∃kvs,H p=some (.dT kvs)))∨(T="set"∧∃S n,H p=some (.set S n))
 | _=>False
theorem oo{pins:List (Addr×Obj)}{σ:St}{H:Hp}{s:Shared}{T:String}{x:V}{v:Value}(I:Inv X pins σ H s)(r:RelV x v)(ty:mf X.K T x H):s.TypeIs v T∧∀a,v=.ref a→∃ob,s.heap.get? a=some ob∧ob.dict=none:=by
 cases x with
 | str z=>
   obtain⟨t,rfl⟩:=r
   cases(show T="str" from ty)
   exact⟨typeIs_str s z t,fun _ e=>nomatch e⟩
 | int i=>
   obtain⟨t,rfl⟩:=r
   cases(show T="int" from ty)
   exact⟨typeIs_int s i t,fun _ e=>nomatch e⟩
 | ref p=>
   cases r
   rcases ty with⟨rfl,xs,hq⟩ | ⟨rfl,o,hk,hc,hd⟩ | ⟨rfl,hk⟩ | ⟨rfl,S,n,hk⟩
   ·obtain⟨its,_,pl,_⟩:=I.list hq
    refine⟨pl.isList.typeIs,fun a e=>?_⟩
    cases e
    obtain⟨o,n,e,c,hd,_⟩:=pl
    exact⟨o,e,hd⟩
   ·refine⟨⟨o,I.kIn p o hk,hc⟩,fun a e=>?_⟩
    cases e
    exact⟨o,I.kIn _ o hk,hd⟩
   ·have z:∃o,s.heap.get? p=some o∧o.ExactDict:=by
     rcases hk with⟨kvs,hk⟩ | ⟨kvs,hk⟩
     ·obtain⟨_,_,_,_,o,_,_,e,ex,_⟩:=I.hok p _ hk
      exact⟨o,e,ex⟩
     ·obtain⟨_,_,_,_,o,_,_,e,ex,_⟩:=I.hok p _ hk
      exact⟨o,e,ex⟩
    obtain⟨o,e,ex⟩:=z
    refine⟨⟨o,e,ex.1⟩,fun a e2=>?_⟩
    cases e2
    exact⟨o,e,ex.2.1⟩
   ·obtain⟨o,_,_,_,e,ex,_⟩:=I.hok p _ hk
    refine⟨⟨o,e,ex.1⟩,fun a e2=>?_⟩
    cases e2
    exact⟨o,e,ex.2.1⟩
 | _=>exact False.elim ty
def pM(K:PySem.W.Frag)(T:String)(r:V→List V→Hp→VK→Prop)(to:TE)(t:TA):TE:=fun σ H Q=>to σ H fun x H1=>mf K T x H1∧t σ H1 fun xs H2=>r x xs H2 Q
variable{o e:Expr}{es:List Expr}{to:TE}{t:TA}{name:Str}{apos cpos:Pos}{T id:String}{r:V→List V→Hp→VK→Prop}
theorem dc(pa:PlainAttrs T)(slot:Slot T name id)(hty:typeOf (.builtin id)=pure (.type "method_descriptor"))(hm:j7 X id r)(ho:PE X o to)(ha:PA X (e::es) t)(hbase:attributeBase o name X.env (eval o X.env)=eval o X.env:=by rfl)
 (hfew:((backTo cpos (starEach (e::es) X.env)).all (fun x=>!x.1) && (backToKw cpos (keywordEach [] X.env)).all (fun x=>x.1.isSome)
  && decide ((e::es).length+([]:List Keyword).length+(if([]:List Keyword).isEmpty then 0 else 1)<30))=true:=by rfl)
 (hline:(apos.endLine == cpos.line)=true:=by rfl)(hs:starEach (e::es) X.env=(false,eval e X.env)::starEach es X.env:=by rfl)(hplain:(backTo cpos (starEach es X.env)).any (·.1)=false:=by rfl):
 PE X (.Call (.Attribute o name apos) (e::es) [] cpos) (pM X.K T r to t):=by
 intro pins s σ H Q I h
 refine wpAny_Call_method_late hbase hfew hline rfl (am (ho pins s σ H _ I h) fun v s1 ⟨x,H1,I1,r1,ty,q1⟩=>?_)
 obtain⟨h1,h2⟩:=oo I1 r1 ty
 refine⟨T,id,pa,slot,hty,h1,h2,?_⟩
 have hA:=ha cpos pins s1 σ H1 _ I1 q1
 rw[hs] at hA ⊢
 refine Calls.callWith_builtin (by show(false || (backTo cpos (starEach es X.env)).any (·.1))=false;rw[hplain] <;> rfl) (Calls.evalArgs_plain ?_)
 exact am hA fun us s2 ⟨vs,H2,I2,r2,q2⟩=>hm pins s2 σ H2 x vs v us Q I2 r1 r2 q2
end
def jx(X:Cx)(id:String)(r:V→List V→Hp→VK→Prop):Prop:=
 ∀ (pins:List (Addr×Obj)) (s:Shared) (σ:St) (H:Hp) (x:V) (xs:List V) (v:Value) (us:List Value) (Q:VK),Inv X pins σ H s→RelV x v→Vals xs us→r x xs H Q→
   wpAny (model X.prog X.w) X.A (call (.builtin id) (v::us)) (EP X pins σ Q) X.xe s
theorem Vals.one:∀{x:V} {us:List Value},Vals [x] us→∃u,us=[u]∧RelV x u
 | _,_,.cons r .nil=>⟨_,rfl,r⟩
theorem Vals.two:∀{x y:V} {us:List Value},Vals [x,y] us→∃u v,us=[u,v]∧RelV x u∧RelV y v
 | _,_,_,.cons r (.cons q .nil)=>⟨_,_,rfl,r,q⟩
theorem Vals.eraseIdx:∀{xs:List V} {us:List Value} (i:Nat),Vals xs us→Vals (xs.eraseIdx i) (us.eraseIdx i)
 | _,_,_,.nil=>.nil
 | _,_,0,.cons _ t=>t
 | _,_,i+1,.cons r t=>.cons r (Vals.eraseIdx i t)
theorem Vals.rep{xs:List V}{us:List Value}(h:Vals xs us):∀k:Nat,Vals (List.replicate k xs).flatten (List.replicate k us).flatten
 | 0=>.nil
 | k+1=>by
   rw[List.replicate_succ,List.replicate_succ,List.flatten_cons,List.flatten_cons]
   exact Vals.append h (Vals.rep h k)
theorem nK{α:Type}:∀(l:List α) (i:Nat),(l.eraseIdx i).length≤l.length
 | [],_=>Nat.le_refl _
 | _::_,0=>Nat.le_succ _
 | _::r,i+1=>Nat.succ_le_succ (nK r i)
theorem lB(its:List Value):∀(k:Nat) (acc:List Value),List.foldl (fun x1 x2=>x1++x2) acc.toArray (List.replicate k its.toArray)=(acc++(List.replicate k its).flatten).toArray
 | 0,acc=>by simp
 | k+1,acc=>by
   have e:acc.toArray++its.toArray=(acc++its).toArray:=by simp
   have e2:(acc++its)++(List.replicate k its).flatten=acc++(List.replicate (k+1) its).flatten:=by
    rw[List.replicate_succ,List.flatten_cons,List.append_assoc]
   rw[←e2,←lB its k (acc++its),←e,List.replicate_succ,List.foldl_cons]
section
variable{X:Cx}{pins:List (Addr×Obj)}{σ:St}{H:Hp}{s:Shared}{l b:Addr}{xs ys zs:List V}
theorem Inv.lset{its its':List Value}{n:Nat}{f:Array Value→Array Value}{t':Nat}(I:Inv X pins σ H s)(hH:H l=some (.lst xs))(e:s.heap.get? l=some {cls:=.type "list",data:=.seq its.toArray n})(hf:f its.toArray=its'.toArray)(hv:Vals ys its')(hz:ys.length≤sizeLine):Inv X pins σ (upd H l (.lst ys)) {s with heap:=s.heap.update l (Obj.mapSeq f),toks:=t'}:=by
 have q:=PySem.IsL.update e f
 rw[hf] at q
 refine I.write (x:=l) (e:=l) (by rw[hH];exact trivial) (.inl rfl) (fun b' u hb hu=>(Heap.get?_update_other s.heap (Obj.mapSeq f) (Ne.symm hb)).trans hu) ⟨_,q⟩ ?_
 exact⟨hz,its',_,hv,q⟩
theorem Inv.lnew{its:List Value}{t':Nat}(I:Inv X pins σ H s)(hv:Vals ys its)(hz:ys.length≤sizeLine):Inv X pins σ (upd H s.heap.objs.size (.lst ys)) {s with heap:=s.heap.push {cls:=.type "list",data:=.seq its.toArray},toks:=t'}:=
 I.laid (fun _ _ q=>Heap.get?_push_of_some _ q) (Nat.le_refl _) ⟨hz,its,0,hv,Heap.get?_push_size _ rfl⟩
theorem Inv.fresh(I:Inv X pins σ H s):H s.heap.objs.size=none:=I.hok.fresh (Nat.le_refl _)
theorem Inv.lstM(I:Inv X pins σ H s)(hH:H l=some (.lst xs)):xs.length≤sizeLine∧∃(its:List Value) (n:Nat),Vals xs its∧xs.length=its.length∧s.heap.get? l=some {cls:=.type "list",data:=.seq its.toArray n}:=by
 obtain⟨z,its,n,r,e⟩:=I.hok l _ hH
 exact⟨z,its,n,r,r.length,e⟩
theorem my{n:Nat}(h:n≤sizeLine):Builtin.List.listTooLong n=false:=by
 unfold Builtin.List.listTooLong
 exact decide_eq_false (by lia)
end
section
variable{X:Cx}
def tY:V→List V→Hp→VK→Prop:=fun x vs H Q=>∃l xs y,x=.ref l∧vs=[y]∧H l=some (.lst xs)∧xs.length<sizeLine∧Q .non (upd H l (.lst (xs++[y])))
theorem d3:jx X "list.append" tY:=by
 intro pins s σ H x vs v us Q I rx rv h
 obtain⟨l,xs,y,rfl,rfl,hH,hz,q⟩:=h
 cases rx
 obtain⟨u,rfl,ru⟩:=rv.one
 obtain⟨z,its,n,r,hl,e⟩:=I.lstM hH
 refine call_meets F.slot_list_append ⟨_,e,rfl⟩ F.entry_list_append (F.args_list_append_2 _ _) (PySem.list_append l its.toArray n u (by rw[List.size_toArray];lia)) ⟨e,?_⟩
 refine⟨.non,_,I.lset (its':=its++[u]) hH e (by simp) (r.append (.cons ru .nil)) ?_,rfl,q⟩
 rw[List.length_append,List.length_singleton]
 lia
def um:V→List V→Hp→VK→Prop:=fun x vs H Q=>∃l b xs zs,x=.ref l∧vs=[.ref b]∧H l=some (.lst xs)∧H b=some (.lst zs)∧xs.length+zs.length≤sizeLine∧Q .non (upd H l (.lst (xs++zs)))
theorem vh:jx X "list.extend" um:=by
 intro pins s σ H x vs v us Q I rx rv h
 obtain⟨l,b,xs,zs,rfl,rfl,hH,hB,hz,q⟩:=h
 cases rx
 obtain⟨u,rfl,ru⟩:=rv.one
 cases ru
 obtain⟨z,its,n,r,hl,e⟩:=I.lstM hH
 obtain⟨z2,its2,n2,r2,hl2,e2⟩:=I.lstM hB
 have hsz:its.toArray.size+its2.toArray.size≤sizeLine:=by rw[List.size_toArray,List.size_toArray];lia
 have hlong:¬(!its.toArray.isEmpty && Builtin.List.listTooLong (its.toArray.size+its2.toArray.size))=true:=by
  rw[my hsz,Bool.and_false]
  exact Bool.false_ne_true
 refine call_meets F.slot_list_extend ⟨_,e,rfl⟩ F.entry_list_extend (F.args_list_extend_2 _ _)
  (AutoSeq1.list_extend_list_list_0 l its.toArray n b its2.toArray n2 hlong (by rw[List.size_toArray];lia) (by lia)) ⟨e,e2,?_⟩
 refine⟨.non,_,I.lset (its':=its++its2) hH e (by simp) (r.append r2) ?_,rfl,q⟩
 rw[List.length_append]
 lia
def pK:V→List V→Hp→VK→Prop:=fun x vs H Q=>∃l xs i k y,x=.ref l∧vs=[.int i]∧H l=some (.lst xs)∧ -(2 ^ 63)≤i∧i<2 ^ 63∧seqIndex? i xs.length=some k∧xs[k]?=some y∧Q y (upd H l (.lst (xs.eraseIdx k)))
theorem vw:jx X "list.pop" pK:=by
 intro pins s σ H x vs v us Q I rx rv h
 obtain⟨l,xs,i,k,y,rfl,rfl,hH,h1,h2,hk,hy,q⟩:=h
 cases rx
 obtain⟨u,rfl,ru⟩:=rv.one
 obtain⟨t,rfl⟩:=ru
 obtain⟨z,its,n,r,hl,e⟩:=I.lstM hH
 obtain⟨w,hw,rw'⟩:=r.get hy
 refine call_meets F.slot_list_pop ⟨_,e,rfl⟩ F.entry_list_pop (F.args_list_pop_2 _ _)
  (MeetsSeq.list_pop_at l its.toArray n i t k w (fitsIndex_both h1 h2) (by rw[List.size_toArray,←hl];exact hk) (by rw[←Array.getElem?_toList];exact hw) (by rw[List.size_toArray];lia)) ⟨e,?_⟩
 refine⟨y,_,I.lset (its':=its.eraseIdx k) hH e ?_ (r.eraseIdx k) ?_,rw',q⟩
 ·show its.toArray.eraseIdxIfInBounds k=(its.eraseIdx k).toArray
  rw[List.eraseIdxIfInBounds_toArray]
 ·have:=nK xs k
  lia
def io:R2:=fun x y H Q=>∃l b xs zs,x=.ref l∧y=.ref b∧H l=some (.lst xs)∧H b=some (.lst zs)∧xs.length+zs.length≤sizeLine∧∀p,H p=none→Q (.ref p) (upd H p (.lst (xs++zs)))
theorem cj:OpR X (binaryOp .Add) io:=by
 intro pins s σ H x y v u Q I rx ry h
 obtain⟨l,b,xs,zs,rfl,rfl,hH,hB,hz,q⟩:=h
 cases rx
 cases ry
 obtain⟨z,its,n,r,hl,e⟩:=I.lstM hH
 obtain⟨z2,its2,n2,r2,hl2,e2⟩:=I.lstM hB
 refine PySem.P.add_list e e2 ?_ (by rw[List.size_toArray,List.size_toArray];lia)
 have ea:its.toArray++its2.toArray=(its++its2).toArray:=by simp
 rw[ea]
 exact⟨.ref _,_,I.lnew (t':=s.toks) (r.append r2) (by rw[List.length_append];lia),rfl,q _ I.fresh⟩
def lA:R2:=fun x y H Q=>∃l k xs,x=.ref l∧y=.int k∧H l=some (.lst xs)∧ -(2 ^ 63)≤k∧k<2 ^ 63∧xs.length*k.toNat≤sizeLine∧
 ∀p,H p=none→Q (.ref p) (upd H p (.lst (List.replicate k.toNat xs).flatten))
theorem sS{α:Type}(xs:List α)(k:Nat):(List.replicate k xs).flatten.length=k*xs.length:=by
 induction k with
 | zero=>simp
 | succ k ih=>rw[List.replicate_succ,List.flatten_cons,List.length_append,ih,Nat.succ_mul,Nat.add_comm]
theorem g0:OpR X (binaryOp .Mult) lA:=by
 intro pins s σ H x y v u Q I rx ry h
 obtain⟨l,k,xs,rfl,rfl,hH,h1,h2,hz,q⟩:=h
 cases rx
 obtain⟨t,rfl⟩:=ry
 obtain⟨z,its,n,r,hl,e⟩:=I.lstM hH
 have hlen:its.toArray.size*k.toNat≤sizeLine:=by rw[List.size_toArray,←hl];exact hz
 have hcap:¬its.toArray.size*k.toNat>(2 ^ 63-1) / 8:=by
  have:(sizeLine:Nat)≤(2 ^ 63-1) / 8:=by decide
  lia
 have hfit:¬(!Builtin.List.listFitsIndex k)=true:=by
  rw[fitsIndex_both h1 h2]
  exact Bool.false_ne_true
 have hlong:¬Builtin.List.listTooLong (its.toArray.size*k.toNat)=true:=by
  rw[my hlen]
  exact Bool.false_ne_true
 have hnew:List.foldl (fun x1 x2=>x1++x2) #[] (List.replicate (if its.toArray.isEmpty=true then 0 else k.toNat) its.toArray)=(List.replicate k.toNat its).flatten.toArray:=by
  have f0:∀m:Nat,List.foldl (fun x1 x2=>x1++x2) #[] (List.replicate m its.toArray)=(List.replicate m its).flatten.toArray:=fun m=>by
   have:=lB its m []
   rw[List.nil_append] at this
   exact this
  rw[f0]
  cases its with
  | nil=>simp
  | cons a r'=>rw[if_neg (by simp)]
 refine wpAny_binaryOp_repeat_ref (T:="list") (U:="int") (by decide) ⟨_,e,rfl⟩ (fun s'=>typeIs_int s' k t) noFill_list_mul F.fills_int_mul F.slot_int_rmul repeat_list F.slot_int_index.lookup
  (call_meets F.slot_int_rmul (typeIs_int s k t) F.entry_int_rmul (F.args_int_rmul_2 _ _) (int___rmul___int_list k t l its.toArray n)
   ⟨e,rfl,⟨_,e,rfl⟩,call_meets F.slot_list_mul ⟨_,e,rfl⟩ F.entry_list_mul (F.args_list_mul_2 _ _) (AutoListH.list___mul___list_int_3 l its.toArray n k t hfit hcap hlong) ⟨e,?_⟩⟩)
 rw[hnew]
 exact⟨.ref _,_,I.lnew (t':=s.toks) (r.rep k.toNat) (by rw[sS,Nat.mul_comm];exact hz),rfl,q _ I.fresh⟩
end
section
variable{prog:Program}{w:World}{A:Around}{E:Value→Shared→Prop}{s:Shared}
set_option maxRecDepth 100000 in
end
section
variable{X:Cx}
end
end L2
namespace Att
open PySem PySem.W PySem.Calls PyProof.Rows
theorem p5{P:Params}{h:Heap}:∀(ns:List Int) (vs:List Value),WellAll P h vs (ns.map WData.int)→IntsAre vs ns:=by
 intro ns
 induction ns with
 | nil=>
   intro vs w
   rw[List.map_nil] at w
   cases w
   exact .nil
 | cons n ns ih=>
   intro vs w
   rw[List.map_cons] at w
   cases w with
   | cons a b=>
     cases a
     exact .cons _ _ (ih _ b)
theorem uE{l:OpenLaw}{n:Nat}(hn:l.most=some n){P:Params}{h:Heap}{args:List WData}{vals:List Value}(hpre:l.row.toRowW.claim.pre args=true)(hwl:WellAll P h vals args):∃a vs ns,vals=[Value.ref a]∧args=[WData.list (ns.map WData.int)]∧h.get? a=some {cls:=.type "list",data:=.seq vs.toArray}∧IntsAre vs ns∧ns.length≤n:=by
 have hsh:WShape.hasAll [] args [.list .int]=true:=(pre_splitW hpre).1
 have hc:l.pre.holds [] {args:=args}=true:=(pre_splitW hpre).2
 obtain⟨d,r,rfl,h1,h2⟩:=hasAllW_cons hsh
 obtain rfl:=hasAllW_nil h2
 obtain⟨xs,rfl,h3⟩:=hasW_list h1
 obtain⟨ns,rfl⟩:=items_int h3
 have hlen:ns.length≤n:=by
  unfold OpenLaw.pre at hc
  have h4:(WTm.not (.lt (.lit (.int (n:Int))) (.len (.arg 0)))).holds [] {args:=[.list (ns.map .int)]}=true:=by
   have h4:=(holds_andW hc).1
   rw[hn] at h4
   exact h4
  have h5:=condW_of h4 (w_not (w_lt w_lit (w_len_list (w_arg rfl))))
  rw[List.length_map] at h5
  refine Nat.le_of_not_lt fun q=>?_
  have q':(n:Int)<((ns.length:Nat):Int):=by lia
  first
   | (rw[decide_eq_true q'] at h5;exact absurd h5 (by decide))
   | (simp at h5;lia)
 cases hwl with
 | cons w1 w2=>
   cases w2
   cases w1 with
   | list ho hall=>exact⟨_,_,ns,rfl,rfl,ho,p5 ns _ hall,hlen⟩
theorem uz(l:OpenLaw)(args:List WData):l.row.toRowW.claim.post args (.bool true) args=true:=
 postW_of (r:=l.row.toRowW) (X:=(true == true))
  (show WShape.has [] (.bool true) .bool=true by first | rfl | decide | simp[WShape.has,WShape.arms,WShape.armsAll])
  (show(WTm.eq .res (.lit (.bool true))).value [] {args:=args,res:=some (.bool true),after:=args}=some (.bool (true == true)) from w_eq_bool (w_res rfl) w_lit) rfl
theorem attach_call{l:OpenLaw}{n:Nat}{q:Program}{loose:List Str}{XP:(Str→Option Value)→Heap→Prop}{YP:World→Heap→Prop}{d:DefRec}(hn:l.most=some n)(hdf:d.params.defaults=[])(call:∀(w:World) (s₀ s₁:Shared) (mg mb:Str→Option Value) (fa:Addr) (o:Obj) (pm cd doc:Value) (a:Addr) (vs:List Value) (ns:List Int),Ground q loose [] XP w s₀ mg mb s₁.heap→YP w s₁.heap→s₁.heap.get? fa=some o→o.data=.func (docDef d.name d.params d.body d.scope pm cd doc)→s₁.heap.CodeRec cd d.name→mg d.name=some (.ref fa)→s₁.heap.get? a=some {cls:=.type "list",data:=.seq vs.toArray}→IntsAre vs ns→ns.length≤n→s₁.gens=#[]→codeAny (model l.prog w) callerA (.call (.ref fa) ⟨[.ref a],[]⟩) (fun r s'=>r=.ok (.ret (.bool true))∧OldK s₁.heap s'.heap∧s'.os=s₁.os∧AllBare s'.gens) s₁):
 WalkO q loose XP YP l.row.toRowW d [] (fun f vs=>PySem.call f vs):=by
 intro w s₀ s₁ mg mb G Y fa o pm cd doc dV kV ho hd hcd hD hmg hg args vals as hpre hlay hrd hwl hlo
 obtain rfl:dV=.none:=Dflts.none hD hdf
 obtain rfl:kV=.none:=Dflts.noKw hD
 obtain⟨a,vs,ns,rfl,rfl,hobj,hints,hlen⟩:=uE hn hpre hwl
 refine enter_call (codeAny_mono (call w s₀ s₁ mg mb fa o pm cd doc a vs ns G Y ho (fd_plain hd) hcd hmg hobj hints hlen hg) fun r s' hq=>?_)
 obtain⟨rfl,h2,h3,h4⟩:=hq
 exact⟨.inl ⟨.bool true,.bool true,[],rfl,fun _=>rfl,.bool true,uz l _,fun _=>⟨List.Pairwise.nil,fun _ hm=>(nomatch hm)⟩⟩,h2,h3,h4⟩
section
variable{prog:Program}{w:World}{A:Around}{E:Value→Shared→Prop}{s:Shared}{K:Frag}
def wu(h:Heap)(L d:Addr):List (Addr×Obj):=(List.range h.objs.size).filterMap fun a=>if a=L∨a=d then none else(h.get? a).map fun o=>(a,o)
end
end Att
namespace L2
open PySem PySem.Spec PyProof.Rows
theorem mi:∀{vs:List Value} {ns:List Int},IntsAre vs ns→Vals (ns.map V.int) vs
 | _,_,.nil=>.nil
 | _,_,.cons n t h=>.cons ⟨t,rfl⟩ (mi h)
def iR(H:Hp):Prop:=∀b,H b=none∨∃o xs,H b=some (.frz o (.lst xs))
theorem uS{P:Program}{w:World}{K:PySem.W.Frag}{mg mb:Str→Option Value}{CX:bg}{k:Nat}{fa a:Addr}{fd:FuncData}{x:Str}{sp:Sp}{s₁:Shared}{vs:List Value}{ns:List Int}(KX:K.In s₁.heap)(hns:s₁.heap.Ns mainGlobals mg)(hb:s₁.heap.Ns builtinsNs mb)(hbb:∀x:Str,x≠"__name__"→mb x=bootBuiltins x)(hlim:s₁.heap.NoLimit)(hg:s₁.gens=#[])(ha:s₁.heap.get? a=some {cls:=.type "list",data:=.seq vs.toArray})(hi:IntsAre vs ns)(hl:ns.length≤sizeLine)(hr:Room k callerA)(F:∀base:Heap,K.In base→base.Ns mainGlobals mg→FnOk P w K mg base CX k fa fd [x] sp)(hbind:∀(s:Shared) (u:Value),BindsTo s fd ⟨[u],[]⟩ [(x,u)])(hsp:∀H:Hp,iR H→SqL K H a (ns.map V.int)→sp [.ref a] H (fun v _=>v=.bl true) fun _ _ _=>False)
 (hCX:∀H e s',CX [] H s₁ (fun _ _ _=>False) e s'→False):
 codeAny (model P w) callerA (.call (.ref fa) ⟨[.ref a],[]⟩) (fun r s'=>r=.ok (.ret (.bool true))∧OldK s₁.heap s'.heap∧s'.os=s₁.os∧AllBare s'.gens) s₁:=by
 have rv:=mi hi
 have lenV:=hi.length
 have core:∀H:Hp,iR H→SqL K H a (ns.map V.int)→HOk P w H s₁.heap→(∀b,H b≠none→b=a)→(H a≠none→K.lookup a=none)→
  codeAny (model P w) callerA (.call (.ref fa) ⟨[.ref a],[]⟩) (fun r s'=>r=.ok (.ret (.bool true))∧OldK s₁.heap s'.heap∧s'.os=s₁.os∧AllBare s'.gens) s₁:=by
  intro H hO hS hok hA hK
  have base_of:∀{b:Addr} {o:Obj},s₁.heap.get? b=some o→H b=none→(cM s₁.heap H).get? b=some o:=fun e n=>p8 e n
  have noA:∀{b:Addr} {o:Obj} {es:Array DictEntry} {ep:Nat},s₁.heap.get? b=some o→o.data=.dict es ep→H b=none:=fun{b o es ep} e d=>by
   cases q:H b with
   | none=>rfl
   | some u=>
     have e':b=a:=hA b (by rw[q];simp)
     subst e'
     rw[ha] at e;cases e
     have d':Data.seq vs.toArray _=Data.dict es ep:=d
     cases d'
  have nsK:∀{b:Addr} {m:Str→Option Value},s₁.heap.Ns b m→(cM s₁.heap H).Ns b m:=fun{b m} ⟨o,es,ep,e,d,r⟩=>⟨o,es,ep,base_of e (noA e d),d,r⟩
  have hKb:K.In (cM s₁.heap H):=fun b o e=>base_of (KX b o e) (by
   cases q:H b with
   | none=>rfl
   | some u=>
     have e':b=a:=hA b (by rw[q];simp)
     subst e'
     rw[hK (by rw[q];simp)] at e;cases e)
  have hM:Mod K mg (cM s₁.heap H):=⟨hKb,nsK hns,⟨mb,nsK hb,hbb⟩,let ⟨mc,h1,h2⟩:=hlim;⟨mc,nsK h1,h2⟩⟩
  have e0:Env0 P w K mg (cM s₁.heap H) callerA [] s₁ H:=⟨rfl,hM,fun b o e=>qY e,Nat.le_of_eq (vY _ _),trivial,fun b hb=>absurd (show b∈([]:List Addr) from hb) (by simp),hok,.of_eq hg⟩
  refine codeAny_mono ((F _ hKb (nsK hns)).run callerA [] s₁ H ⟨[.ref a],[]⟩ [.ref a] [.ref a] _ _ hr e0 (hbind s₁ (.ref a)) (.cons rfl .nil) (hsp H hO hS)) fun r s' h=>?_
  cases r with
  | error e=>exact(hCX H e s' h).elim
  | ok fl=>
    cases fl with
    | next=>exact False.elim h
    | brk=>exact False.elim h
    | cont=>exact False.elim h
    | ret u=>
      obtain⟨v,H',os,bare,un,hok',r',q⟩:=h
      have q':v=.bl true:=q
      subst q'
      obtain rfl:u=Value.bool true:=r'
      refine⟨rfl,OldK.of_keep fun b o e=>?_,os,bare⟩
      cases q:H b with
      | none=>exact un.keep b o e q (by intro z;exact absurd (show b∈([]:List Addr) from z) (by simp)) (by simp)
      | some u=>
        rcases hO b with z | ⟨ob,xs,z⟩
        ·rw[q] at z;cases z
        ·have z2:=un.frzs b ob _ z
         obtain⟨e1,_⟩:=hok b _ z
         obtain⟨e2,_⟩:=hok' b _ z2
         rw[e] at e1;cases e1
         exact e2
 cases hk:K.lookup a with
 | some o=>
   have e:=KX a o hk
   rw[ha] at e
   cases e
   refine core (fun _=>none) (fun _=>.inl rfl) (.inr ⟨_,vs.toArray,_,hk,rfl,rfl,rfl,by rw[List.size_toArray,lenV];exact hl,by simpa using rv⟩) (fun b u z=>by have z':(none:Option HO)=some u:=z;cases z') (fun b z=>absurd rfl z) fun z=>absurd rfl z
 | none=>
   refine core (fun b=>if b=a then some (.frz {cls:=.type "list",data:=.seq vs.toArray} (.lst (ns.map V.int))) else none) (fun b=>?_) (.inl (.inr ⟨{cls:=.type "list",data:=.seq vs.toArray},if_pos rfl⟩)) (fun b u z=>?_) (fun b z=>?_) fun _=>hk
   ·by_cases hb:b=a
    ·exact .inr ⟨_,_,if_pos hb⟩
    ·exact .inl (if_neg hb)
   ·by_cases hb:b=a
    ·have z':=(if_pos hb).symm.trans z
     cases z'
     subst hb
     exact⟨ha,by rw[List.length_map];exact hl,vs,_,rv,ha⟩
    ·have z':=(if_neg hb).symm.trans z
     cases z'
   ·by_cases hb:b=a
    ·exact hb
    ·exact absurd (if_neg hb) z
abbrev wt{K:PySem.W.Frag}{h:Heap}(_:K.In h):PySem.W.Frag:=K
theorem walk_of{l:PySem.W.OpenLaw}{n k:Nat}{q:Program}{loose:List Str}{XP:(Str→Option Value)→Heap→Prop}{YP:World→Heap→Prop}{d:DefRec}{K:Params→PySem.W.Frag}{CX:World→bg}{sp:World→Sp}{x:Str}(hn:l.most=some n)(hn2:n≤sizeLine)(hdf:d.params.defaults=[])(hr:Room k callerA)(hY:∀(w:World) (h:Heap),YP w h→(K w.params).In h)(F:∀(w:World) (mg:Str→Option Value) (fa:Addr) (h:Heap),(K w.params).In h→h.Ns mainGlobals mg→mg d.name=some (.ref fa)→∃fd:FuncData,(∀(s:Shared) (u:Value),BindsTo s fd ⟨[u],[]⟩ [(x,u)])∧∀base:Heap,(K w.params).In base→base.Ns mainGlobals mg→FnOk l.prog w (K w.params) mg base (CX w) k fa fd [x] (sp w))(hsp:∀(w:World) (H:Hp) (a:Addr) (ns:List Int),ns.length≤n→iR H→SqL (K w.params) H a (ns.map V.int)→sp w [.ref a] H (fun v _=>v=.bl true) fun _ _ _=>False)
 (hCX:∀(w:World) (H:Hp) (s:Shared) (e:Value) (s':Shared),CX w [] H s (fun _ _ _=>False) e s'→False):
 PySem.W.WalkO q loose XP YP l.row.toRowW d [] (fun f vs=>PySem.call f vs):=by
 refine Att.attach_call hn hdf fun w s₀ s₁ mg mb fa o pm cd doc a vs ns G Y ho hd hcd hmg hobj hints hlen hg=>?_
 have KX:=hY w _ Y
 obtain⟨fd,hb,hF⟩:=F w mg fa _ KX G.T.g hmg
 exact uS KX G.T.g G.T.b G.T.builtins G.T.nolimit hg hobj hints (Nat.le_trans hlen hn2) hr hF hb (fun H hO hS=>hsp w H a ns hlen hO hS) fun H e s'=>hCX w H s₁ e s'
def ck(s:Stmt):Arguments:=match s with
 | .FunctionDef _ a _ _ _ _ _ _ _ _=>a
 | _=>{posonlyargs:=[],args:=[],vararg:=none,kwonlyargs:=[],kw_defaults:=[],kwarg:=none,defaults:=[]}
def bI(s:Stmt):List Stmt:=match s with
 | .FunctionDef _ _ b _ _ _ _ _ _ _=>b
 | _=>[]
def aC(s:Stmt):Scope:=match s with
 | .FunctionDef _ _ _ _ _ _ sc _ _ _=>sc
 | _=>{kind:=.function,names:=[],isGenerator:=false,isCoroutine:=false}
abbrev ak:bg:=fun _ _ _ _ _ _=>False
abbrev E0:XK:=fun _ _ _=>False
theorem aj{X:Cx}:fk ak X E0:=fun _ _ _ _ _ _ _ h=>h.elim
structure Fun(K:PySem.W.Frag)(x qual:Str)(st:Stmt)(f:Addr)(fd:FuncData):Prop where
 ex:∃(oc:Value) (od:Option Addr) (kV doc pm:Value) (an:Option Addr) (cdv ct:Value) (osl:Array (Option Value)),
  fd=PySem.W.fnOf x qual (ck st) (bI st) (aC st) .none kV doc pm an cdv ct∧K.lookup f=some ⟨oc,od,.func fd,osl⟩∧PySem.W.codeIn K cdv qual=true
 kp:PySem.W.keepIn K (.ref f)=true
section
variable{P:Program}{w:World}{K:PySem.W.Frag}{mg:Str→Option Value}{base:Heap}
theorem Fun.ok{x qual:Str}{st:Stmt}{f:Addr}{fd:FuncData}{N ps:List Str}{k:Nat}{sp:Sp}(F:Fun K x qual st f fd)(S:FnScope N ps (aC st))(len:∀vs H Q E,sp vs H Q E→vs.length=ps.length)(hbody:∀(cdv:Value) (A:Around) (outer:List Env) (s:Shared) (H:Hp) (vs:List V) (Q:VK) (E:XK),Room k (A.deeper (envOfC qual (aC st) s.heap.objs.size f cdv))→sp vs H Q E→∃t,PSs (bU ak P w K mg base N qual (aC st) f cdv A outer s H E).nox (bI st) t∧t {nx:=fun _ H'=>Q .non H',rt:=Q} (bN N vs) H):FnOk P w K mg base ak (k+1) f fd ps sp:=by
 obtain⟨oc,od,kV,doc,pm,an,cdv,ct,osl,rfl,lk,hcd⟩:=F.ex
 refine mj lk hcd S len fun A outer s H vs Q E hr hsp=>?_
 obtain⟨t,h,q⟩:=hbody cdv A outer s H vs Q E hr hsp
 exact⟨t,h.nox,q⟩
theorem Fun.binds{x qual:Str}{st:Stmt}{f:Addr}{fd:FuncData}{ps:List Str}(F:Fun K x qual st f fd)(h:∀(kV doc pm:Value) (an:Option Addr) (cdv ct:Value) (us:List Value),us.length=ps.length→bindArgs (PySem.W.fnOf x qual (ck st) (bI st) (aC st) .none kV doc pm an cdv ct) ⟨us,[]⟩=pure (ps.zip us)):Binds K fd ps []:=by
 obtain⟨oc,od,kV,doc,pm,an,cdv,ct,osl,rfl,lk,hcd⟩:=F.ex
 exact .all (h kV doc pm an cdv ct)
theorem jr{x qual:Str}{st:Stmt}{f:Addr}{oc:Value}{od an:Option Addr}{osl:Array (Option Value)}{kV doc pm cdv ct:Value}(l:K.lookup f=some ⟨oc,od,.func (PySem.W.fnOf x qual (ck st) (bI st) (aC st) .none kV doc pm an cdv ct),osl⟩)(c:PySem.W.codeIn K cdv qual=true)(k:PySem.W.keepIn K (.ref f)=true):Fun K x qual st f (PySem.W.fnOf x qual (ck st) (bI st) (aC st) .none kV doc pm an cdv ct):=⟨⟨oc,od,kV,doc,pm,an,cdv,ct,osl,rfl,l,c⟩,k⟩
end
theorem bX{A:Around}{k:Nat}(hr:Room k A):A.units+1<cLine:=Nat.lt_of_le_of_lt (Nat.add_le_add_left (by decide:1≤64) _) hr.units
theorem bx{n:Nat}(h:n≤1000):n<sizeLine:=Nat.lt_of_le_of_lt h (by decide)
section
variable{X:Cx}
theorem pv(i:Nat){x:Str}{pos:Pos}(hN:X.N[i]?=some x:=by rfl)(hv:jK X.env.scope x:=by first | exact Or.inl rfl | exact Or.inr (Or.inl rfl) | exact Or.inr (Or.inr rfl))(hd:(x == ("__debug__":Str))=false:=by decide)
 (hcd:(x == ("__classdict__":Str))=false:=by decide):PE X (.Name x pos) (bR i):=rO hN hv hd hcd
end
theorem ar{A B:Prop}(h:B):if false=true then A else B:=by
 rw[if_neg Bool.false_ne_true]
 exact h
theorem aE{A B:Prop}(h:A):if true=true then A else B:=by
 rw[if_pos rfl]
 exact h
theorem dq{c A B:Prop}[Decidable c](h1:c→A)(h2:¬c→B):if c then A else B:=by
 by_cases h:c
 ·rw[if_pos h]
  exact h1 h
 ·rw[if_neg h]
  exact h2 h
def Same(H H':Hp):Prop:=∀b o,H b=some o→H' b=some o
theorem Same.refl(H:Hp):Same H H:=fun _ _ h=>h
theorem Same.trans{H H1 H2:Hp}(a:Same H H1)(b:Same H1 H2):Same H H2:=fun c o h=>b c o (a c o h)
theorem Same.free{H H':Hp}(e:Same H H'){l:Addr}(h:H' l=Option.none):H l=Option.none:=by
 cases q:H l with
 | none=>rfl
 | some o=>
   rw[e l o q] at h
   cases h
theorem Same.seq{K:PySem.W.Frag}{H H':Hp}{a:Addr}{xs:List V}(e:Same H H')(h:SqL K H a xs):SqL K H' a xs:=by
 rcases h with(h | ⟨o,h⟩) | h
 ·exact .inl (.inl (e _ _ h))
 ·exact .inl (.inr ⟨o,e _ _ h⟩)
 ·exact .inr h
end L2
set_option maxHeartbeats 4000000
namespace L2
open PySem PySem.Spec PyProof.Rows
def fh(outer sc:Scope)(x:Str)(M N:List Str):Bool:=
 decide (sc.kind=.function) && sc.names.all (fun y=>decide (y.2≠ .cell)) && sc.names.all (fun y=>decide (y.2=.local→sc.names.lookup y.1=some .local)) && decide (sc.names.lookup x=some .local) &&
 sc.names.all (fun y=>decide (y.2=.free→(outer.names.lookup y.1=some .cell∨outer.names.lookup y.1=some .free))) &&
 decide ((M++[x]).Nodup) && decide (M.length=N.length) && (M.zip N).all (fun p=>decide (p.1=p.2∨sc.names.lookup p.1=none)) && M.all (fun y=>decide (sc.names.lookup y≠some .local))
theorem jV{env:Env}:∀{names:List (Str×NameKind)} {x:Str} {k':NameKind},(names.map fun(n,k)=>if(k == NameKind.free && env.scope.kind == .function && env.kindOf n == some .cell) then(n,NameKind.cell) else(n,k)).lookup x=some k'→
 ∃k,names.lookup x=some k∧(k'=k∨(k=.free∧k'=.cell))
 | [],_,_,h=>by simp at h
 | (n,k)::r,x,k',h=>by
   have ih:= @jV env r x k'
   have h':List.lookup x ((if(k == NameKind.free && env.scope.kind == .function && env.kindOf n == some .cell)=true then(n,NameKind.cell) else(n,k))::_)=some k':=h
   cases hx:x == n with
   | true=>
     by_cases hc:((k == NameKind.free && env.scope.kind == .function && env.kindOf n == some .cell))=true
     ·rw[if_pos hc] at h'
      simp only[List.lookup_cons,hx] at h'
      refine⟨k,by simp[List.lookup_cons,hx],.inr ⟨?_,(Option.some.inj h').symm⟩⟩
      simp only[Bool.and_eq_true,beq_iff_eq] at hc
      exact hc.1.1
     ·rw[if_neg hc] at h'
      simp only[List.lookup_cons,hx] at h'
      exact⟨k,by simp[List.lookup_cons,hx],.inl (Option.some.inj h').symm⟩
   | false=>
     have h'':List.lookup x (r.map fun(n,k)=>if(k == NameKind.free && env.scope.kind == .function && env.kindOf n == some .cell) then(n,NameKind.cell) else(n,k))=some k':=by
      by_cases hc:((k == NameKind.free && env.scope.kind == .function && env.kindOf n == some .cell))=true
      ·rw[if_pos hc] at h';simp only[List.lookup_cons,hx] at h';exact h'
      ·rw[if_neg hc] at h';simp only[List.lookup_cons,hx] at h';exact h'
     obtain⟨k0,a,b⟩:=ih h''
     exact⟨k0,by simp only[List.lookup_cons,hx];exact a,b⟩
theorem iW{env:Env}:∀(names:List (Str×NameKind)) (cs:List (Str×Addr)),(∀y∈names,y.2=.free→∃c,env.cells.lookup y.1=some c)→(∀y c,cs.lookup y=some c→env.cells.lookup y=some c)→∃cl,(forIn names cs fun(x:Str×NameKind) (r:List (Str×Addr))=>(if(x.2 == NameKind.free)=true then(do let a←cellOf env x.1;pure (ForInStep.yield ((x.1,a)::r))) else pure (ForInStep.yield r):Sem _))=pure cl∧
 (∀y c,cl.lookup y=some c→env.cells.lookup y=some c)∧(∀y,((∃c,cs.lookup y=some c)∨(y,NameKind.free)∈names)→∃c,cl.lookup y=some c)
 | [],cs,_,hc=>⟨cs,rfl,hc,fun y h=>by
  rcases h with h | h
  ·exact h
  ·cases h⟩
 | (n,k)::r,cs,hf,hc=>by
   by_cases hk:k=.free
   ·subst hk
    obtain⟨a,ha⟩:=hf (n,.free) List.mem_cons_self rfl
    have hc':∀y c,List.lookup y ((n,a)::cs)=some c→env.cells.lookup y=some c:=fun y c e=>by
     simp only[List.lookup_cons] at e
     split at e
     ·rename_i q
      have q':y=n:=by simpa using q
      subst q'
      exact ha.trans e
     ·exact hc y c e
    obtain⟨cl,h1,h2,h3⟩:=iW r ((n,a)::cs) (fun y hy=>hf y (List.mem_cons_of_mem _ hy)) hc'
    refine⟨cl,?_,h2,fun y h=>?_⟩
    ·rw[List.forIn_cons]
     show((if(NameKind.free == NameKind.free)=true then(do let a←cellOf env n;pure (ForInStep.yield ((n,a)::cs))) else pure (ForInStep.yield cs):Sem _) >>= _)=_
     rw[if_pos (by decide)]
     have e:cellOf env n=pure a:=by unfold cellOf;rw[ha]
     rw[e]
     exact h1
    ·refine h3 y ?_
     rcases h with⟨c,h⟩ | h
     ·left
      simp only[List.lookup_cons]
      split
      ·exact⟨_,rfl⟩
      ·exact⟨c,h⟩
     ·rcases List.mem_cons.mp h with q | q
      ·left
       cases q
       exact⟨a,by simp[List.lookup_cons]⟩
      ·exact .inr q
   ·obtain⟨cl,h1,h2,h3⟩:=iW r cs (fun y hy=>hf y (List.mem_cons_of_mem _ hy)) hc
    refine⟨cl,?_,h2,fun y h=>?_⟩
    ·rw[List.forIn_cons]
     show((if(k == NameKind.free)=true then(do let a←cellOf env n;pure (ForInStep.yield ((n,a)::cs))) else pure (ForInStep.yield cs):Sem _) >>= _)=_
     rw[if_neg (by simpa using hk)]
     exact h1
    ·refine h3 y ?_
     rcases h with h | h
     ·exact .inl h
     ·rcases List.mem_cons.mp h with q | q
      ·cases q;exact absurd rfl hk
      ·exact .inr q
theorem nF{env:Env}{scope:Scope}(hf:∀y∈scope.names,y.2=.free→∃c,env.cells.lookup y.1=some c):∃cl,closureFor scope env=pure cl∧(∀y c,cl.lookup y=some c→env.cells.lookup y=some c)∧(∀y,(y,NameKind.free)∈scope.names→∃c,cl.lookup y=some c):=by
 obtain⟨cl,h1,h2,h3⟩:=iW scope.names [] hf (fun y c e=>by simp at e)
 refine⟨cl,?_,h2,fun y h=>h3 y (.inr h)⟩
 unfold closureFor
 rw[←bind_pure (x:=(pure cl:Sem _)),←h1]
structure CB where
 cl:List (Str×Addr)
 C:Addr
 s2:Shared
 H2:Hp
 fp:List Addr
def Cx.comp(X:Cx)(N':List Str)(scope:Scope)(b:CB):Cx where
 prog:=X.prog
 w:=X.w
 K:=X.K
 mg:=X.mg
 base:=X.base
 A:=X.A
 N:=N'
 s₀:=b.s2
 H₀:=b.H2
 env:=compEnvC scope b.cl b.C X.env
 outer:=X.stack
 stack:=X.stack
 ex:=b.fp
 fn:=fun _=>false
 calm:=X.calm
 pn:=[]
 xe:=fun _ _=>False
structure CompOK(outer sc:Scope)(x:Str)(M N:List Str):Prop where
 kind:sc.kind=.function
 nocell:∀y∈sc.names,y.2≠ .cell
 loc:∀y∈sc.names,y.2=.local→sc.names.lookup y.1=some .local
 own:sc.names.lookup x=some .local
 free:∀y∈sc.names,y.2=.free→(outer.names.lookup y.1=some .cell∨outer.names.lookup y.1=some .free)
 nd:(M++[x]).Nodup
 len:M.length=N.length
 same:∀p∈M.zip N,p.1=p.2∨sc.names.lookup p.1=none
 noloc:∀y∈M,sc.names.lookup y≠some .local
theorem sI{outer sc:Scope}{x:Str}{M N:List Str}(h:fh outer sc x M N=true):CompOK outer sc x M N:=by
 unfold fh at h
 simp only[Bool.and_eq_true,decide_eq_true_eq,List.all_eq_true] at h
 obtain⟨⟨⟨⟨⟨⟨⟨⟨h1,h2⟩,h3⟩,h4⟩,h5⟩,h6⟩,h7⟩,h8⟩,h9⟩:=h
 exact⟨h1,h2,h3,h4,h5,h6,h7,h8,h9⟩
section
variable{X:Cx}{pins:List (Addr×Obj)}{σ:St}{H2:Hp}{s2:Shared}{scope:Scope}{x:Str}{M:List Str}{cl:List (Str×Addr)}{fp:List Addr}{h1:Heap}{t':Nat}
theorem Inv.comp(I:Inv X pins σ H2 s2)(K:CompOK X.env.scope scope x M X.N)(hcl:∀y c,cl.lookup y=some c→X.env.cells.lookup y=some c)(hcf:∀y,(y,NameKind.free)∈scope.names→∃c,cl.lookup y=some c)(hfp:∀b∈fp,bL X pins H2 b)(hlt:∀b∈fp,b<s2.heap.objs.size)(kp:∀b o,s2.heap.get? b=some o→h1.get? b=some o)(hD:h1.get? s2.heap.objs.size=some {cls:=.type "list",dict:=none,data:=.seq ([]:List Value).toArray})(hC:h1.Ns (s2.heap.objs.size+1) (fun _=>none)):
 Inv (X.comp (M++[x]) scope ⟨cl,s2.heap.objs.size+1,s2,H2,fp⟩) [] (σ++[none]) (upd H2 s2.heap.objs.size (.lst [])) {s2 with heap:=h1,toks:=t'}:=by
 have cellLt:∀y c,cl.lookup y=some c→c<s2.heap.objs.size:=fun y c e=>by
  obtain⟨v,z⟩:=I.cell y c (hcl y c e)
  exact z.lt
 have kindEq:∀y k',(compEnvC scope cl (s2.heap.objs.size+1) X.env).kindOf y=some k'→∃k,scope.names.lookup y=some k∧(k'=k∨(k=.free∧k'=.cell)):=fun y k' e=>jV e
 have freeOf:∀y k',(compEnvC scope cl (s2.heap.objs.size+1) X.env).kindOf y=some k'→(k'=.cell∨k'=.free)→(y,NameKind.free)∈scope.names:=fun y k' e hk=>by
  obtain⟨k,e1,e2⟩:=kindEq y k' e
  have mem:=PySem.mem_of_lookup e1
  have:k=.free:=by
   rcases e2 with rfl | ⟨rfl,_⟩
   ·rcases hk with rfl | rfl
    ·exact absurd rfl (K.nocell _ mem)
    ·rfl
   ·rfl
  subst this
  exact mem
 have hDn:H2 s2.heap.objs.size=none:=I.hok.fresh (Nat.le_refl _)
 refine⟨⟨I.ok.mod,K.kind,I.ok.glob,I.ok.blt,Nat.le_succ _,fun y z c e1 e2=>I.ok.inj y z c (hcl y c e1) (hcl z c e2),fun y hy=>?_,fun y c hf _=>?_,I.ok.hd,I.ok.frames,.inl rfl,fun b hb=>⟨Nat.ne_of_lt (Nat.lt_succ_of_lt (hlt b hb)),fun y c e=>(hfp b hb).2.2.2.2.1 y c (hcl y c e)⟩,
  fun b o e=>I.bs b o e,Nat.le_trans I.ok.bsz I.sz,fun b o e hb=>?_,fun b hb hf=>?_,I.stack,I.stkFree⟩,rfl,I.bare,Un.laid kp (Nat.le_refl _) hDn,⟨_,hC,fun i y v e1 e2 e3=>?_⟩,fun y c e=>?_,?_,fun y c e=>?_,fun p hp=>absurd (show p∈([]:List (Addr×Obj)) from hp) (by simp),I.hok.laid kp (Nat.le_refl _) ?_,?_⟩
 ·rcases hy with hy | hy
  ·exact hcf y (freeOf y _ hy (.inl rfl))
  ·exact hcf y (freeOf y _ hy (.inr rfl))
 ·exact absurd (show false=true from hf) Bool.false_ne_true
 ·obtain⟨f0,f1,f2,f3,f4,f5⟩:=hfp b hb
  rcases f3 with z | z
  ·exact I.ok.noex b o e z
  ·exact absurd (Nat.lt_of_lt_of_le (Heap.lt_size (I.ok.bs b o e).1) z) (Nat.lt_irrefl _)
 ·obtain⟨f0,f1,f2,f3,f4,f5⟩:=hfp b hb
  rcases List.mem_cons.mp (I.stkSub b hf) with z | z
  ·exact f1 z
  ·exact f2 z
 ·
  have hi:i<σ.length:=by
   by_cases hi:i<σ.length
   ·exact hi
   ·have hz:(σ++[none])[i]?=some (some v):=e2
    rw[List.getElem?_append_right (by lia)] at hz
    by_cases hq:i-σ.length=0
    ·rw[hq] at hz;cases hz
    ·rw[List.getElem?_eq_none (by simp;lia)] at hz;cases hz
  have e2':σ[i]?=some (some v):=by
   have hz:(σ++[none])[i]?=some (some v):=e2
   rw[List.getElem?_append_left hi] at hz
   exact hz
  have hiM:i<M.length:=by rw[K.len,←I.len];exact hi
  have e1':M[i]?=some y:=by
   have hz:(M++[x])[i]?=some y:=e1
   rw[List.getElem?_append_left hiM] at hz
   exact hz
  have hyM:y∈M:=List.mem_of_getElem? e1'
  have e3':∃k',(compEnvC scope cl (s2.heap.objs.size+1) X.env).kindOf y=some k'∧(k'=.cell∨k'=.free):=by
   rcases e3 with z | z | z
   ·obtain⟨k,a,b⟩:=kindEq y _ z
    rcases b with b | ⟨_,b⟩
    ·subst b;exact absurd a (K.noloc y hyM)
    ·cases b
   ·exact⟨_,z,.inl rfl⟩
   ·exact⟨_,z,.inr rfl⟩
  obtain⟨k',ek,hk⟩:=e3'
  have mem:=freeOf y k' ek hk
  obtain⟨k0,a0,_⟩:=kindEq y k' ek
  have hiN:i<X.N.length:=by rw[←K.len];exact hiM
  have eN:X.N[i]?=some y:=by
   have hz:(M[i],X.N[i])∈M.zip X.N:=by
    rw[List.mem_iff_getElem?]
    exact⟨i,List.getElem?_zip_eq_some.mpr ⟨List.getElem?_eq_getElem hiM,List.getElem?_eq_getElem hiN⟩⟩
   have eM:M[i]=y:=by
    rw[List.getElem?_eq_getElem hiM] at e1'
    exact Option.some.inj e1'
   rcases K.same _ hz with q | q
   ·rw[List.getElem?_eq_getElem hiN]
    have q':M[i]=X.N[i]:=q
    rw[←q',eM]
   ·have q':scope.names.lookup M[i]=none:=q
    rw[eM,a0] at q'
    cases q'
  have hv:=K.free _ mem rfl
  obtain⟨m,hn,hl⟩:=I.loc
  obtain⟨u,r,l⟩:=hl i y v eN e2' (hv.elim (fun z=>.inr (.inl z)) (fun z=>.inr (.inr z)))
  refine⟨u,r,.inr ⟨?_,?_⟩⟩
  ·rcases hk with rfl | rfl
   ·exact .inl ek
   ·exact .inr ek
  ·obtain⟨c,ec⟩:=hcf y mem
   refine⟨c,ec,?_⟩
   rcases l with⟨z,_⟩ | ⟨_,c',ec',cc⟩
   ·have z':X.env.scope.names.lookup y=some .local:=z
    rcases hv with q | q <;> (rw[z'] at q;cases q)
   ·have:=(hcl y c ec).symm.trans ec'
    cases this
    obtain⟨o,ho,hd⟩:=cc
    exact⟨o,kp _ o ho,hd⟩
 ·obtain⟨v,o,ho,hd⟩:=I.cell y c (hcl y c e)
  exact⟨v,o,kp _ o ho,hd⟩
 ·show upd H2 s2.heap.objs.size (.lst []) (s2.heap.objs.size+1)=none
  rw[ao (Nat.succ_ne_self _)]
  exact I.hok.fresh (Nat.le_succ _)
 ·rw[ao (Nat.ne_of_lt (cellLt y c e))]
  exact I.freeC y c (hcl y c e)
 ·exact⟨Nat.zero_le _,[],_,.nil,hD⟩
 ·show(σ++[none]).length=(M++[x]).length
  simp[I.len,K.len]
end
theorem lg{prog:Program}{w:World}{A:Around}{R:Result→Shared→Prop}{s:Shared}{elt target iter:Expr}{ifs:List Expr}{scope:Scope}{pos:Pos}{it acc:Value}{env:Env}(I:Nat→Shared→Prop)(onward:∀n s,I n s→wpAny (model prog w) A (pyNext it) (fun r za=>match r with
 | none=>R (.ok .next) za
 | some v=>wpAny (model prog w) A (letOwnedTupleGo target it v) (fun _ zb=>wpAny (model prog w) A (assign target env v) (fun _ zc=>
  wpAny (model prog w) A (forIn ifs true fun c r=>if r=true then do let ok←isTrue c env (eval c env);pure (ForInStep.yield ok) else pure (ForInStep.yield r)) (fun ok zd=>
   if ok=true then wpAny (model prog w) A (eval elt env) (fun x ze=>
    wpAny (model prog w) A (call (.builtin "list.append") [acc,x]) (fun _ zf=>∃m,m<n∧I m zf) (fun _ _=>False) ze) (fun _ _=>False) zd
   else∃m,m<n∧I m zd) (fun _ _=>False) zc) (fun _ _=>False) zb) (fun _ _=>False) za) (fun _ _=>False) s)
 (n:Nat)(h:I n s):
 codeAny (model prog w) A (.compLoop (.ListComp elt [⟨target,iter,ifs,0⟩] scope pos) 0 it acc env) R s:=
 by
 refine codeAny_loop rfl I (fun n s hJ=>?_) n h
 show wpAny _ A ((compTurn (.ListComp elt [⟨target,iter,ifs,0⟩] scope pos) 0 it acc env).onRaise (fun ex=>do noteFrame ex env;theTreesLotGoes ex)) _ _ s
 refine wpAny_noted (wpAny_mono (E:=fun _ _=>False) ?_ (fun _ _ q=>q) fun _ _ z=>z.elim)
 rw[compTurn_list]
 refine wpAny_bind (wpAny_standAt (wpAny_bind (wpAny_mono (onward n s hJ) (fun r za ya=>?_) fun _ _ u=>u)))
 cases r with
 | none=>exact wpAny_pure ya
 | some v=>
   refine wpAny_bind (wpAny_mono ya (fun _ zb yb=>?_) fun _ _ u=>u)
   refine wpAny_bind (wpAny_mono yb (fun _ zc yc=>wpAny_bind (wpAny_mono yc (fun ok zd yd=>?_) fun _ _ u=>u)) fun _ _ u=>u)
   cases ok with
   | false=>exact wpAny_pure ⟨rfl,yd⟩
   | true=>
     exact wpAny_bind (wpAny_bind (wpAny_mono yd (fun x ze ye=>wpAny_bind (wpAny_mono ye (fun _ zf yf=>wpAny_pure (wpAny_pure ⟨rfl,yf⟩)) fun _ _ u=>u)) fun _ _ u=>u))
def eh(X:Cx)(ifs:List Expr)(t:TT):Prop:=
 ∀ (pins:List (Addr×Obj)) (s:Shared) (σ:St) (H:Hp) (Q:Bool→Hp→Prop),Inv X pins σ H s→t σ H Q→
   wpAny (model X.prog X.w) X.A (forIn ifs true fun c r=>if r=true then do let ok←isTrue c X.env (eval c X.env);pure (ForInStep.yield ok) else pure (ForInStep.yield r)) (TP X pins σ Q) X.xe s
def kP:TT:=fun _ H Q=>Q true H
theorem fw{X:Cx}:eh X [] kP:=fun pins s σ H Q I h=>wpAny_tests_nil ⟨H,I,h⟩
theorem dE{X:Cx}{c:Expr}{t:TT}(h:PT X c t):eh X [c] t:=fun pins s σ H Q I q=>wpAny_tests_one (h pins s σ H Q I q)
def gF(wi:TI)(tc:CB→TT)(te:CB→TE):TE:=fun σ H Q=>wi σ H fun J H1=>∀D,H1 D=none→∀b:CB,∃W:Nat→Nat→List V→Hp→Prop,(∃m,W 0 m [] (upd H1 D (.lst [])))∧
 ∀ i m ys H,W i m ys H→(J.stop i H∧Q (.ref D) H)∨(J.go i H∧ys.length<sizeLine∧∃N:List V→Hp→Prop,(∀ys' H',N ys' H'→∃m',m'<m∧W (i+1) m' ys' H')∧∀x H',J.yld i H x H'→tc b (σ++[some x]) H' fun ok H2=>
   if ok=true then te b (σ++[some x]) H2 fun v H3=>H3 D=some (.lst ys)∧N (ys++[v]) (upd H3 D (.lst (ys++[v]))) else N ys H2)
theorem oj{X:Cx}{pins:List (Addr×Obj)}{σ:St}{H:Hp}{s:Shared}{D:Addr}{ys:List V}{v:V}{u:Value}{E:Value→Shared→Prop}(I:Inv X pins σ H s)(hD:H D=some (.lst ys))(hz:ys.length<sizeLine)(r:RelV v u):wpAny (model X.prog X.w) X.A (call (.builtin "list.append") [.ref D,u]) (fun _ s'=>Inv X pins σ (upd H D (.lst (ys++[v]))) s') E s:=by
 obtain⟨z,its,n,rv,hl,e⟩:=I.lstM hD
 refine call_meets F.slot_list_append ⟨_,e,rfl⟩ F.entry_list_append (F.args_list_append_2 _ _) (PySem.list_append D its.toArray n u (by rw[List.size_toArray];lia)) ⟨e,?_⟩
 refine I.lset (its':=its++[u]) hD e (by simp) (rv.append (.cons r .nil)) ?_
 rw[List.length_append,List.length_singleton]
 lia
theorem SameBut.unC{H H':Hp}{fs ex:List Addr}{h h1 h2:Heap}{C:Addr}(u:Un fs ex H H' h h1)(sb:Heap.SameBut C h1 h2)(hC:h.objs.size≤C):Un fs ex H H' h h2:=by
 have ne:∀b o,h.get? b=some o→b≠C:=fun b o e z=>by subst z;exact absurd (Nat.lt_of_lt_of_le (Heap.lt_size e) hC) (Nat.lt_irrefl _)
 refine⟨fun b o e n hb hx=>(sb.2 b (ne b o e)).trans (u.keep b o e n hb hx),fun b o e n hb hx=>?_,u.free,fun b o e hx=>?_,u.tups,u.frzs,u.tbls⟩
 ·obtain⟨sl,q⟩:=u.slot b o e n hb hx
  exact⟨sl,(sb.2 b (ne b o e)).trans q⟩
 ·obtain⟨o',q⟩:=u.there b o e hx
  exact⟨o',(sb.2 b (ne b o e)).trans q⟩
theorem SameBut.hokC{P:Program}{w:World}{H:Hp}{h1 h2:Heap}{C:Addr}(ok:HOk P w H h1)(sb:Heap.SameBut C h1 h2)(hn:H C=none):HOk P w H h2:=fun b ob e=>by
 refine(ok b ob e).stay (fun c w' hc q=>(sb.2 c ?_).trans q) (fun _ q=>q) fun _ _ q=>q
 rintro rfl
 rcases hc with rfl | hc
 ·rw[hn] at e;cases e
 ·rw[hn] at hc;cases hc
theorem lb{X:Cx}{iter elt:Expr}{ifs:List Expr}{x:Str}{px pos pos0:Pos}{scope:Scope}(M:List Str){wi:TI}{tc:CB→TT}{te:CB→TE}{use:Option (Value→Sem Unit)}{R:Value→Shared→Prop}{pins:List (Addr×Obj)}{s:Shared}{σ:St}{H:Hp}{Q:VK}(I:Inv X pins σ H s)(h:gF wi tc te σ H Q)(hfin:∀(D C:Addr) (m:Str→Option Value) (s':Shared) (H':Hp),s'.heap.Ns C m→bL X pins H' C→(∀h',Heap.SameBut C s'.heap h'→Inv X pins σ H' {s' with heap:=h'})→Q (.ref D) H'→compPost (model X.prog X.w) X.A X.xe use R (.ref D) C (.ok .next) s')(hc:X.calm=true)(hi:PI X (.Name x px) iter wi)(hif:∀b:CB,eh (X.comp (M++[x]) scope b) ifs (tc b))(he:∀b:CB,PE (X.comp (M++[x]) scope b) elt (te b))(ok:fh X.env.scope scope x M X.N=true:=by kernel_rfl)
 (hs:∀x,foldedSetIterable iter X.env x=pure x:=by intro _;rfl):
 wpAny (model X.prog X.w) X.A (comprehension (.ListComp elt [⟨.Name x px,iter,ifs,0⟩] scope pos) scope X.env pos0 (newList []) false (eval iter X.env) use) R X.xe s:=by
 have K:=sI ok
 obtain⟨cl,hclos,hcl,hcf⟩:=nF (env:=X.env) (scope:=scope) fun y hy hk=>I.ok.has y.1 (K.free y hy hk)
 refine wpAny_comprehension_free (use:=use) rfl hs hclos K.kind K.loc ?_
 refine am (hi pins s σ H _ I h) fun v s1 h1=>am h1 fun itv s2 h2=>?_
 obtain⟨it,fp,tn,J,H2,rfl,I2,T,st2,f2,hq⟩:=h2
 refine wpAny_newObj_type (wpAny_newFunctionEnv K.nocell (by intro y hy;simp at hy) (fun h₁ hns₁ hsb₁=>?_) K.kind)
 dsimp only at hns₁ hsb₁ ⊢
 have hsize:(s2.heap.push {cls:=.type "list",dict:=none,data:=.seq ([]:List Value).toArray}).objs.size=s2.heap.objs.size+1:=Heap.size_push ..
 rw[hsize] at hns₁ hsb₁
 have ltD:s2.heap.objs.size≠s2.heap.objs.size+1:=Nat.ne_of_lt (Nat.lt_succ_self _)
 have kp:∀b o,s2.heap.get? b=some o→h₁.get? b=some o:=fun b o e=>hsb₁.extBut b o (Nat.ne_of_lt (Nat.lt_succ_of_lt (Heap.lt_size e))) (Heap.get?_push_of_some _ (Heap.get?_push_of_some _ e))
 have hD:h₁.get? s2.heap.objs.size=some {cls:=.type "list",dict:=none,data:=.seq ([]:List Value).toArray}:=hsb₁.extBut _ _ ltD (Heap.get?_push_of_some _ (Heap.get?_push_size _ rfl))
 have hlt:∀b∈fp,b<s2.heap.objs.size:=fun b hb=>let ⟨o,e,_⟩:=T.obj _ _ st2 b hb;Heap.lt_size e
 have I3:=I2.comp (t':=s2.toks+([]:List (Str×Value)).length) K hcl hcf f2 hlt kp hD hns₁
 obtain⟨W,⟨m0,w0⟩,step⟩:=hq s2.heap.objs.size (I2.hok.fresh (Nat.le_refl _)) ⟨cl,s2.heap.objs.size+1,s2,H2,fp⟩
 have st3:tn 0 h₁:=T.keep _ _ _ st2 fun b _ o e=>kp b o e
 have fr3:∀b∈fp,(upd H2 s2.heap.objs.size (.lst [])) b=none:=fun b hb=>by rw[ao (Nat.ne_of_lt (hlt b hb))];exact(f2 b hb).1
 have fin:∀(s':Shared) (σ':St) (H':Hp),Inv (X.comp (M++[x]) scope ⟨cl,s2.heap.objs.size+1,s2,H2,fp⟩) [] σ' H' s'→Q (.ref s2.heap.objs.size) H'→
  compPost (model X.prog X.w) X.A X.xe use R (.ref s2.heap.objs.size) (s2.heap.objs.size+1) (.ok .next) s':=fun s' σ' H' J' q=>by
  obtain⟨m,hn,_⟩:=id J'.loc
  have hC:H' (s2.heap.objs.size+1)=none:=J'.free
  refine hfin _ _ m s' H' hn (I2.fpOk (Nat.le_succ _) hC) (fun h' sb=>?_) q
  exact I2.call' (ch:=fp) (show s'.os=s2.os from J'.os) (SameBut.unC J'.base sb (Nat.le_succ _)) (SameBut.hokC J'.hok sb hC) J'.bare fun b hb=>by
   obtain⟨f0,f1,f2',f3,f4,f5⟩:=f2 b hb
   exact⟨f3,f1,f4,f5⟩
 have stat:∀{H':Hp},(∀b∈fp,H' b=none)→∀b∈fp,bL (X.comp (M++[x]) scope ⟨cl,s2.heap.objs.size+1,s2,H2,fp⟩) [] H' b:=fun hn b hb=>by
  obtain⟨f0,f1,f2',f3,f4,f5⟩:=f2 b hb
  refine⟨hn b hb,Nat.ne_of_lt (Nat.lt_succ_of_lt (hlt b hb)),fun z=>?_,.inl hb,fun y c e=>f4 y c (hcl y c e),fun p hp=>absurd (show p∈([]:List (Addr×Obj)) from hp) (by simp)⟩
  rcases List.mem_cons.mp (I2.stkSub b z) with z | z
  ·exact f1 z
  ·exact f2' z
 have len3:σ.length=M.length:=by rw[I.len,K.len]
 have loop:codeAny (model X.prog X.w) X.A (.compLoop (.ListComp elt [⟨.Name x px,iter,ifs,0⟩] scope pos) 0 (.ref it) (.ref s2.heap.objs.size) (compEnvC scope cl (s2.heap.objs.size+1) X.env))
  (compPost (model X.prog X.w) X.A X.xe use R (.ref s2.heap.objs.size) (s2.heap.objs.size+1)) {s2 with heap:=h₁,toks:=s2.toks+([]:List (Str×Value)).length}:=by
  refine lg (fun n s'=>∃i ys H',Inv (X.comp (M++[x]) scope ⟨cl,s2.heap.objs.size+1,s2,H2,fp⟩) [] (σ++[none]) H' s'∧tn i s'.heap∧(∀b∈fp,H' b=none)∧W i n ys H') ?_ m0 ⟨0,[],_,I3,st3,fr3,w0⟩
  rintro n s4 ⟨i,ys,H4,I4,st4,fr4,w4⟩
  rcases step i n ys H4 w4 with⟨stop,q⟩ | ⟨go,hz,N,hN,st⟩
  ·refine wpAny_mono (T.done (X.comp (M++[x]) scope ⟨cl,s2.heap.objs.size+1,s2,H2,fp⟩) rfl rfl rfl hc i [] s4 _ H4 (fun _ _=>False) I4 (stat fr4) st4 stop) (fun r s5 ⟨hr,I5⟩=>?_) fun _ _ z=>z
   subst hr
   exact fin s5 _ H4 I5 q
  ·refine wpAny_mono (T.item (X.comp (M++[x]) scope ⟨cl,s2.heap.objs.size+1,s2,H2,fp⟩) rfl rfl rfl hc i [] s4 _ H4 (fun _ _=>False) I4 (stat fr4) st4 go) (fun r s5 ⟨u,hr,h5⟩=>?_) fun _ _ z=>z
   subst hr
   refine wpAny_mono h5 (fun _ s6 ⟨xv,H6,I6,r6,y6,st6,fr6⟩=>?_) fun _ _ z=>z
   have I6':=I6.pinned (stat fr6) (T.obj _ _ st6)
   have hset:(σ++[none]).set σ.length (some xv)=σ++[some xv]:=by simp
   have hNx:(X.comp (M++[x]) scope ⟨cl,s2.heap.objs.size+1,s2,H2,fp⟩).N[σ.length]?=some x:=by
    show(M++[x])[σ.length]?=some x
    rw[len3];simp
   have hlx:(X.comp (M++[x]) scope ⟨cl,s2.heap.objs.size+1,s2,H2,fp⟩).env.scope.names.lookup x=some .local:=lookup_relabel_local K.own
   have PGx:PG (X.comp (M++[x]) scope ⟨cl,s2.heap.objs.size+1,s2,H2,fp⟩) (.Name x px) (cD σ.length):=aV K.nd hNx (.inl hlx) (.inr hlx)
   refine wpAny_mono (PGx _ s6 _ H6 xv u (fun σ' H'=>σ'=σ++[some xv]∧H'=H6) I6' r6 ⟨hset,rfl⟩) (fun _ s7 ⟨σ7,H7,I7,e7,e7'⟩=>?_) fun _ _ z=>z
   subst e7 e7'
   have again:∀{ys':List V} {H8:Hp} {s8:Shared} {m:Nat},Inv (X.comp (M++[x]) scope ⟨cl,s2.heap.objs.size+1,s2,H2,fp⟩) ([]++eG fp s6.heap) (σ++[some xv]) H8 s8→m<n→W (i+1) m ys' H8→
    ∃m,m<n∧∃i ys H',Inv (X.comp (M++[x]) scope ⟨cl,s2.heap.objs.size+1,s2,H2,fp⟩) [] (σ++[none]) H' s8∧tn i s8.heap∧(∀b∈fp,H' b=none)∧W i m ys H':=fun{ys' H8 s8 m} I8 hm w8=>by
    refine⟨m,hm,i+1,ys',H8,(I8.unpinned).weak (by simp) (fun j v e=>?_),T.keep _ _ _ st6 fun b hb o e=>(I8.pin (b,o) (List.mem_append_right _ (List.mem_append_right _ (eR hb e)))).1,fun b hb=>?_,w8⟩
    ·by_cases hj:j<σ.length
     ·rw[List.getElem?_append_left hj] at e ⊢;exact e
     ·rw[List.getElem?_append_right (by lia)] at e
      by_cases hq:j-σ.length=0
      ·rw[hq] at e;cases e
      ·rw[List.getElem?_eq_none (by simp;lia)] at e;cases e
    ·obtain⟨o,e,d⟩:=T.obj _ _ st6 b hb
     exact(I8.pin (b,o) (List.mem_append_right _ (List.mem_append_right _ (eR hb e)))).2.1
   refine wpAny_mono (hif ⟨cl,s2.heap.objs.size+1,s2,H2,fp⟩ _ s7 _ _ _ I7 (st xv _ y6)) (fun ok s8 ⟨H8,I8,q8⟩=>?_) fun _ _ z=>z
   cases ok with
   | false=>
     rw[if_neg Bool.false_ne_true] at q8
     obtain⟨m,hm,w8⟩:=hN _ _ q8
     exact again I8 hm w8
   | true=>
     rw[if_pos rfl] at q8
     refine wpAny_mono (he ⟨cl,s2.heap.objs.size+1,s2,H2,fp⟩ _ s8 _ H8 _ I8 q8) (fun xu s9 ⟨v9,H9,I9,r9,hD9,n9⟩=>?_) fun _ _ z=>z
     obtain⟨m,hm,w9⟩:=hN _ _ n9
     exact wpAny_mono (oj (X:=X.comp (M++[x]) scope ⟨cl,s2.heap.objs.size+1,s2,H2,fp⟩) I9 hD9 hz r9) (fun _ s10 I10=>again I10 hm w9) fun _ _ z=>z
 rw[hsize]
 exact codeAny_compStart_list loop (T.self X.A 0 _ _ _ st3 loop)
theorem dD{X:Cx}{iter elt:Expr}{ifs:List Expr}{x:Str}{px pos:Pos}{scope:Scope}(M:List Str){wi:TI}{tc:CB→TT}{te:CB→TE}(hc:X.calm=true)(hi:PI X (.Name x px) iter wi)(hif:∀b:CB,eh (X.comp (M++[x]) scope b) ifs (tc b))(he:∀b:CB,PE (X.comp (M++[x]) scope b) elt (te b))(ok:fh X.env.scope scope x M X.N=true:=by kernel_rfl)
 (hs:∀x,foldedSetIterable iter X.env x=pure x:=by intro _;rfl):
 PE X (.ListComp elt [⟨.Name x px,iter,ifs,0⟩] scope pos) (gF wi tc te):=by
 intro pins s σ H Q I h
 rw[eval_ListComp]
 exact lb M (use:=none) (R:=EP X pins σ Q) I h (fun D C m s' H' hn _ hI q=>⟨m,hn,fun h' sb=>⟨.ref D,H',hI h' sb,rfl,q⟩⟩) hc hi hif he ok hs
theorem Inv.butC{X:Cx}{pins:List (Addr×Obj)}{σ:St}{H:Hp}{s:Shared}{C:Addr}{h':Heap}(I:Inv X pins σ H s)(f:bL X pins H C)(sb:Heap.SameBut C s.heap h'):Inv X pins σ H {s with heap:=h'}:=by
 obtain⟨f0,f1,f2,f3,f4,f5⟩:=f
 refine I.call' (ch:=[C]) rfl ⟨fun b o e n _ hx=>?_,fun b o e n _ hx=>?_,fun b o e n _=>n,fun b o e hx=>?_,fun _ _ z=>z,fun _ _ _ z=>z,fun _ ps z=>⟨#[],by simpa using z⟩⟩ (SameBut.hokC I.hok sb f0) I.bare fun b hb=>?_
 ·exact(sb.2 b (by simpa using hx)).trans e
 ·exact⟨o.slots,(sb.2 b (by simpa using hx)).trans e⟩
 ·exact⟨o,(sb.2 b (by simpa using hx)).trans e⟩
 ·have:b=C:=by simpa using hb
  subst this
  exact⟨f3,f1,f4,f5⟩
theorem oz{X:Cx}{iter elt:Expr}{ifs:List Expr}{x y:Str}{px py pos spos:Pos}{scope:Scope}(M:List Str){i:Nat}{wi:TI}{tc:CB→TT}{te:CB→TE}(hc:X.calm=true)(hN:X.N.Nodup)(hiy:X.N[i]?=some y)(hy:dW X.env.scope y)(hi:PI X (.Name x px) iter wi)(hif:∀b:CB,eh (X.comp (M++[x]) scope b) ifs (tc b))(he:∀b:CB,PE (X.comp (M++[x]) scope b) elt (te b))(hsw:swapsWith (.ListComp elt [⟨.Name x px,iter,ifs,0⟩] scope pos) (some (.Name y py)) spos.line X.env=pure true:=by rfl)
 (ok:fh X.env.scope scope x M X.N=true:=by kernel_rfl)
 (hs:∀x,foldedSetIterable iter X.env x=pure x:=by intro _;rfl)
 (hf:X.fn y=true∨X.env.scope.names.lookup y=some .local:=by first | exact .inl rfl | exact .inr rfl | assumption):
 PS X (.Assign [.Name y py] (.ListComp elt [⟨.Name x px,iter,ifs,0⟩] scope pos) spos) (dL (gF wi tc te) (cD i)):=by
 intro pins s σ H D I h
 rw[exec_Assign_Name_used _ _ _ _ hsw];refine wpAny_bind (wpAny_standAt (wpAny_bind ?_))
 show wpAny _ X.A (do let _←comprehension (.ListComp elt [⟨.Name x px,iter,ifs,0⟩] scope pos) scope X.env _ (newList []) false (eval iter X.env) (some (assign (.Name y py) X.env))) _ _ s
 refine wpAny_bind (wpAny_mono (lb M (use:=some (assign (.Name y py) X.env)) (R:=fun _ s'=>_) I h (fun D' C m s' H' hn f hI q=>?_) hc hi hif he ok hs) (fun _ s' hq=>wpAny_pure (wpAny_pure hq)) fun _ _ e=>e)
 have I':Inv X pins σ H' s':=hI s'.heap ⟨rfl,fun _ _=>rfl⟩
 show wpAny _ X.A (assign (.Name y py) X.env (.ref D')) _ _ _
 refine wpAny_assign_Name (mh (v:=.ref D') I' hN hiy hy rfl (fun s2 I2 ⟨a,sb,ha⟩=>?_) hf)
 have hCa:C≠a:=by
  obtain⟨f0,f1,f2,f3,f4,f5⟩:=f
  rintro rfl
  rcases ha with z | z
  ·exact f1 z
  ·exact f4 _ _ z rfl
 exact⟨m,hn.sameBut sb hCa,fun h' sb'=>⟨_,H',I2.butC f sb',q⟩⟩
theorem fE{lo:Int}{n:Nat}{tc:TT}{te:TE}{σ:St}{H1:Hp}{Q:Hp→Prop}{D:Addr}(Pv:Nat→List V→Hp→Prop)(hn:n<sizeLine)(h0:Pv 0 [] (upd H1 D (.lst [])))(hl:∀i ys H,Pv i ys H→ys.length≤i)(hs:∀i ys H,i<n→Pv i ys H→tc (σ++[some (.int (lo+i))]) H fun b H2=>if b=true then te (σ++[some (.int (lo+i))]) H2 fun v H3=>H3 D=some (.lst ys)∧Pv (i+1) (ys++[v]) (upd H3 D (.lst (ys++[v]))) else Pv (i+1) ys H2)
 (hd:∀ys H,Pv n ys H→Q H):
 ∃ W:Nat→Nat→List V→Hp→Prop,(∃m,W 0 m [] (upd H1 D (.lst [])))∧
   ∀ i m ys H,W i m ys H→((cx lo n).stop i H∧Q H)∨((cx lo n).go i H∧ys.length<sizeLine∧∃N:List V→Hp→Prop,(∀ys' H',N ys' H'→∃m',m'<m∧W (i+1) m' ys' H')∧∀x H',(cx lo n).yld i H x H'→tc (σ++[some x]) H' fun b H2=>
     if b=true then te (σ++[some x]) H2 fun v H3=>H3 D=some (.lst ys)∧N (ys++[v]) (upd H3 D (.lst (ys++[v]))) else N ys H2):=by
 refine⟨fun i m ys H=>m=n-i∧i≤n∧Pv i ys H,⟨n,by simp,Nat.zero_le _,h0⟩,?_⟩
 rintro i m ys H ⟨rfl,hi,p⟩
 by_cases hlt:i<n
 ·refine .inr ⟨hlt,Nat.lt_of_le_of_lt (hl i ys H p) (Nat.lt_trans hlt hn),Pv (i+1),fun ys' H' p'=>⟨n-(i+1),by lia,rfl,hlt,p'⟩,fun x H' y=>?_⟩
  obtain⟨e,y⟩:=y
  subst e y
  exact hs i ys _ hlt p
 ·have e:i=n:=by lia
  subst e
  exact .inl ⟨Nat.le_refl _,hd ys H p⟩
theorem iy{K:PySem.W.Frag}{a:Addr}{xs:List V}{tc:TT}{te:TE}{σ:St}{H1:Hp}{Q:Hp→Prop}{D:Addr}(Pv:Nat→List V→Hp→Prop)(hn:xs.length<sizeLine)(h0:Pv 0 [] (upd H1 D (.lst [])))(hl:∀i ys H,Pv i ys H→ys.length≤i)(hq:∀i ys H,i≤xs.length→Pv i ys H→SqL K H a xs)(hs:∀i x ys H,xs[i]?=some x→Pv i ys H→tc (σ++[some x]) H fun b H2=>if b=true then te (σ++[some x]) H2 fun v H3=>H3 D=some (.lst ys)∧Pv (i+1) (ys++[v]) (upd H3 D (.lst (ys++[v]))) else Pv (i+1) ys H2)
 (hd:∀ys H,Pv xs.length ys H→Q H):
 ∃ W:Nat→Nat→List V→Hp→Prop,(∃m,W 0 m [] (upd H1 D (.lst [])))∧
   ∀ i m ys H,W i m ys H→((cQ K a).stop i H∧Q H)∨((cQ K a).go i H∧ys.length<sizeLine∧∃N:List V→Hp→Prop,(∀ys' H',N ys' H'→∃m',m'<m∧W (i+1) m' ys' H')∧∀x H',(cQ K a).yld i H x H'→tc (σ++[some x]) H' fun b H2=>
     if b=true then te (σ++[some x]) H2 fun v H3=>H3 D=some (.lst ys)∧N (ys++[v]) (upd H3 D (.lst (ys++[v]))) else N ys H2):=by
 refine⟨fun i m ys H=>m=xs.length-i∧i≤xs.length∧Pv i ys H,⟨xs.length,by simp,Nat.zero_le _,h0⟩,?_⟩
 rintro i m ys H ⟨rfl,hi,p⟩
 have q:=hq i ys H hi p
 by_cases hlt:i<xs.length
 ·refine .inr ⟨⟨xs,xs[i],q,by simp[hlt]⟩,Nat.lt_of_le_of_lt (hl i ys H p) (Nat.lt_trans hlt hn),Pv (i+1),fun ys' H' p'=>⟨xs.length-(i+1),by lia,rfl,hlt,p'⟩,fun x H' y=>?_⟩
  obtain⟨e,y⟩:=y
  subst e
  exact hs i x ys _ (y xs q) p
 ·have e:i=xs.length:=by lia
  subst e
  exact .inl ⟨⟨xs,q,Nat.le_refl _⟩,hd ys H p⟩
mutual
def DatV(K:PySem.W.Frag)(H:Hp):PyData→V→Prop
 | .none,v=>v=.non
 | .bool b,v=>v=.bl b
 | .int i,v=>v=.int i
 | .str x,v=>v=.str x∧PyData.strOk x=true
 | .list ds,v=>∃a xs,v=.ref a∧SqL K H a xs∧DatVs K H ds xs
 | .tuple ds,v=>∃a xs,v=.ref a∧SqT K H a xs∧DatVs K H ds xs
 | .dict _,_=>False
def DatVs(K:PySem.W.Frag)(H:Hp):List PyData→List V→Prop
 | [],xs=>xs=[]
 | d::ds,xs=>∃x r,xs=x::r∧DatV K H d x∧DatVs K H ds r
end
section
variable{X:Cx}{pins:List (Addr×Obj)}{σ:St}{H:Hp}{s:Shared}
mutual
theorem DatV.reads(I:Inv X pins σ H s):∀(d:PyData) (v:V) (u:Value),DatV X.K H d v→RelV v u→(∃as,Reads s.heap u d as)∧d.canLay0=true
 | .none,v,u,h,r=>by
   rw[DatV] at h;subst h;cases r;exact⟨⟨_,.none⟩,by simp[PyData.canLay0]⟩
 | .bool b,v,u,h,r=>by
   rw[DatV] at h;subst h;cases r;exact⟨⟨_,.bool b⟩,by simp[PyData.canLay0]⟩
 | .int i,v,u,h,r=>by
   rw[DatV] at h;subst h;obtain⟨t,rfl⟩:=r;exact⟨⟨_,.int i t⟩,by simp[PyData.canLay0]⟩
 | .str x,v,u,h,r=>by
   rw[DatV] at h;obtain⟨h,hx⟩:=h;subst h;obtain⟨t,rfl⟩:=r;exact⟨⟨_,.str x t⟩,by simp[PyData.canLay0,hx]⟩
 | .list ds,v,u,h,r=>by
   rw[DatV] at h;obtain⟨a,xs,rfl,hq,hd⟩:=h
   cases r
   obtain⟨its,rv,p,hz⟩:=I.list hq
   obtain⟨⟨as,ra⟩,cl⟩:=DatVs.reads I ds xs its hd rv
   obtain⟨o,ho,hc,n,hdt⟩:=p.isList
   exact⟨⟨_,.list ho hc hdt (by simpa using ra)⟩,by rw[PyData.canLay0];exact cl⟩
 | .tuple ds,v,u,h,r=>by
   rw[DatV] at h;obtain⟨a,xs,rfl,hq,hd⟩:=h
   cases r
   obtain⟨its,rv,p,hz⟩:=I.tuple hq
   obtain⟨⟨as,ra⟩,cl⟩:=DatVs.reads I ds xs its hd rv
   obtain⟨o,ho,hc,n,hdt⟩:=p
   exact⟨⟨_,.tuple ho hc hdt (by simpa using ra)⟩,by rw[PyData.canLay0];exact cl⟩
 | .dict _,v,u,h,r=>by rw[DatV] at h;exact h.elim
theorem DatVs.reads(I:Inv X pins σ H s):∀(ds:List PyData) (vs:List V) (us:List Value),DatVs X.K H ds vs→Vals vs us→(∃as,ReadsAll s.heap us ds as)∧PyData.canLayAll0 ds=true
 | [],vs,us,h,r=>by
   rw[DatVs] at h;subst h;cases r;exact⟨⟨_,.nil⟩,by simp[PyData.canLayAll0]⟩
 | d::ds,vs,us,h,r=>by
   rw[DatVs] at h;obtain⟨x,rr,rfl,h1,h2⟩:=h
   cases r with
   | cons r1 r2=>
     obtain⟨⟨as,ra⟩,ca⟩:=DatV.reads I d x _ h1 r1
     obtain⟨⟨bs,rb⟩,cb⟩:=DatVs.reads I ds rr _ h2 r2
     exact⟨⟨_,.cons ra rb⟩,by rw[PyData.canLayAll0,ca,cb];rfl⟩
end
def dQ(K:PySem.W.Frag)(neg:Bool):R2:=fun x y H Q=>∃da db,DatV K H da x∧DatV K H db y∧min da.depth db.depth≤64∧Q (.bl (if neg then !PyData.eqv da db else PyData.eqv da db)) H
theorem gQ{k:Nat}(hr:Room k X.A):OpR X (compareOp .Eq) (dQ X.K false):=by
 intro pins s σ H x y v u Q I rx ry h
 obtain⟨da,db,h1,h2,hd,q⟩:=h
 obtain⟨⟨as,ra⟩,ca⟩:=DatV.reads I da x v h1 rx
 obtain⟨⟨bs,rb⟩,cb⟩:=DatV.reads I db y u h2 ry
 exact SeqAt.compareEq_reads ra rb ca cb (by have:=hr.units;lia) ⟨.bl _,H,I,rfl,q⟩
theorem jS{k:Nat}(hr:Room k X.A):OpR X (compareOp .NotEq) (dQ X.K true):=by
 intro pins s σ H x y v u Q I rx ry h
 obtain⟨da,db,h1,h2,hd,q⟩:=h
 obtain⟨⟨as,ra⟩,ca⟩:=DatV.reads I da x v h1 rx
 obtain⟨⟨bs,rb⟩,cb⟩:=DatV.reads I db y u h2 ry
 exact SeqAt.compareNe_reads ra rb ca cb (by have:=hr.units;lia) ⟨.bl _,H,I,rfl,q⟩
end
theorem lR{K:PySem.W.Frag}{H:Hp}:∀ns:List Int,DatVs K H (ns.map PyData.int) (ns.map V.int)
 | []=>by simp[DatVs]
 | n::ns=>by
   rw[List.map_cons,List.map_cons,DatVs]
   exact⟨_,_,rfl,by rw[DatV],lR ns⟩
theorem ib{K:PySem.W.Frag}{H:Hp}{a:Addr}{ns:List Int}(h:SqL K H a (ns.map V.int)):DatV K H (.list (ns.map PyData.int)) (.ref a):=by
 rw[DatV];exact⟨a,_,rfl,h,lR ns⟩
abbrev aA(c:Nat):Str:=⟨#[c]⟩
abbrev sg(c:Nat):V:=.str (aA c)
theorem m9{K:PySem.W.Frag}{H:Hp}:∀cs:List Nat,(∀c∈cs,c<0x110000)→DatVs K H (cs.map fun c=>PyData.str (aA c)) (cs.map sg)
 | [],_=>by simp[DatVs]
 | c::cs,h=>by
   rw[List.map_cons,List.map_cons,DatVs]
   refine⟨_,_,rfl,?_,m9 cs fun c hc=>h c (List.mem_cons_of_mem _ hc)⟩
   rw[DatV]
   exact⟨rfl,by simp[PyData.strOk,h c List.mem_cons_self]⟩
theorem oC{K:PySem.W.Frag}{H:Hp}{a:Addr}{cs:List Nat}(h:SqL K H a (cs.map sg))(hc:∀c∈cs,c<0x110000):DatV K H (.list (cs.map fun c=>PyData.str (aA c))) (.ref a):=by
 rw[DatV];exact⟨a,_,rfl,h,m9 cs hc⟩
theorem mC:∀ns:List Int,PyData.depthAll (ns.map PyData.int)≤1
 | []=>by simp[PyData.depthAll]
 | n::ns=>by
   have:=mC ns
   rw[List.map_cons,PyData.depthAll]
   simp only[PyData.depth]
   lia
theorem nj:∀cs:List Nat,PyData.depthAll (cs.map fun c=>PyData.str (aA c))≤1
 | []=>by simp[PyData.depthAll]
 | c::cs=>by
   have:=nj cs
   rw[List.map_cons,PyData.depthAll]
   simp only[PyData.depth]
   lia
theorem l9(ns:List Int):(PyData.list (ns.map PyData.int)).depth≤2:=by
 have:=mC ns
 rw[PyData.depth];lia
theorem vP(cs:List Nat):(PyData.list (cs.map fun c=>PyData.str (aA c))).depth≤2:=by
 have:=nj cs
 rw[PyData.depth];lia
theorem l6:∀ns ms:List Int,PyData.eqvAll (ns.map PyData.int) (ms.map PyData.int)=decide (ns=ms)
 | [],[]=>by simp[PyData.eqvAll]
 | [],_::_=>by simp[PyData.eqvAll]
 | _::_,[]=>by simp[PyData.eqvAll]
 | n::ns,m::ms=>by
   rw[List.map_cons,List.map_cons,PyData.eqvAll,l6 ns ms]
   rw[PyData.eqv,Bool.beq_eq_decide_eq]
   simp
theorem wa{a b:Nat}:(aA a == aA b)=decide (a=b):=by
 by_cases h:a=b
 ·subst h;simp
 ·have:aA a≠aA b:=fun e=>h (by simpa [aA] using e)
  simp[h,this]
theorem lW:∀cs ds:List Nat,PyData.eqvAll (cs.map fun c=>PyData.str (aA c)) (ds.map fun c=>PyData.str (aA c))=decide (cs=ds)
 | [],[]=>by simp[PyData.eqvAll]
 | [],_::_=>by simp[PyData.eqvAll]
 | _::_,[]=>by simp[PyData.eqvAll]
 | c::cs,d::ds=>by
   rw[List.map_cons,List.map_cons,PyData.eqvAll,lW cs ds,PyData.eqv,wa]
   simp
theorem nc(ns ms:List Int):PyData.eqv (.list (ns.map PyData.int)) (.list (ms.map PyData.int))=decide (ns=ms):=by rw[PyData.eqv,l6]
theorem qp(cs ds:List Nat):PyData.eqv (.list (cs.map fun c=>PyData.str (aA c))) (.list (ds.map fun c=>PyData.str (aA c)))=decide (cs=ds):=by rw[PyData.eqv,lW]
def rEqI(K:PySem.W.Frag)(neg:Bool):R2:=fun x y H Q=>∃(a b:Addr) (ns ms:List Int),x=.ref a∧y=.ref b∧SqL K H a (ns.map V.int)∧SqL K H b (ms.map V.int)∧Q (.bl (if neg then !decide (ns=ms) else decide (ns=ms))) H
def rEqS(K:PySem.W.Frag)(neg:Bool):R2:=fun x y H Q=>∃(a b:Addr) (cs ds:List Nat),x=.ref a∧y=.ref b∧SqL K H a (cs.map sg)∧SqL K H b (ds.map sg)∧(∀c∈cs,c<0x110000)∧(∀c∈ds,c<0x110000)∧Q (.bl (if neg then !decide (cs=ds) else decide (cs=ds))) H
section
variable{X:Cx}{k:Nat}
theorem OpR.imp{f:Value→Value→Sem Value}{r r':R2}(h:OpR X f r)(i:∀x y H Q,r' x y H Q→r x y H Q):OpR X f r':=fun pins s σ H x y v u Q I rx ry q=>h pins s σ H x y v u Q I rx ry (i _ _ _ _ q)
theorem rEqI.toD{K:PySem.W.Frag}{neg:Bool}:∀x y H Q,rEqI K neg x y H Q→dQ K neg x y H Q:=by
 rintro x y H Q ⟨a,b,ns,ms,rfl,rfl,h1,h2,q⟩
 refine⟨_,_,ib h1,ib h2,Nat.le_trans (Nat.min_le_left _ _) (Nat.le_trans (l9 ns) (by decide)),?_⟩
 rw[nc]
 exact q
theorem rEqS.toD{K:PySem.W.Frag}{neg:Bool}:∀x y H Q,rEqS K neg x y H Q→dQ K neg x y H Q:=by
 rintro x y H Q ⟨a,b,ns,ms,rfl,rfl,h1,h2,c1,c2,q⟩
 refine⟨_,_,oC h1 c1,oC h2 c2,Nat.le_trans (Nat.min_le_left _ _) (Nat.le_trans (vP ns) (by decide)),?_⟩
 rw[qp]
 exact q
theorem pP(hr:Room k X.A):OpR X (compareOp .Eq) (rEqI X.K false):=(gQ hr).imp rEqI.toD
theorem hV(hr:Room k X.A):OpR X (compareOp .NotEq) (rEqI X.K true):=(jS hr).imp rEqI.toD
theorem we(hr:Room k X.A):OpR X (compareOp .Eq) (rEqS X.K false):=(gQ hr).imp rEqS.toD
theorem gY:OpR X (compareOp .LtE) (fun x y H Q=>∃i j,x=.str i∧y=.str j∧Q (.bl (!decide (j.cps.toList<i.cps.toList))) H):=by
 intro pins s σ H x y v u Q I rx ry h
 obtain⟨i,j,rfl,rfl,q⟩:=h
 obtain⟨t,rfl⟩:=rx
 obtain⟨t',rfl⟩:=ry
 exact PySem.P.le_str ⟨.bl _,H,I,rfl,q⟩
theorem tM:bQ X (.builtin "isinstance") (fun xs H Q=>∃x t c b,xs=[x,.ty c]∧TyOf X.K H x t∧PySem.W.kitOne X.K t (.type c)=some b∧Q (.bl b) H):=by
 intro pins s σ H xs us Q I r h
 obtain⟨x,t,c,b,rfl,ty,e,q⟩:=h
 obtain⟨u,u',rfl,rx,rc⟩:=iP r
 cases rc
 exact vK I rx ty e fun tk=>⟨.bl b,H,I.tok tk,rfl,q⟩
end
structure Fn(P:Program)(w:World)(K:PySem.W.Frag)(mg:Str→Option Value)(base:Heap)(CX:bg)(x:Str)(k:Nat)(ps:List Str)(sp:Sp):Prop where
 ex:∃f fd,FnOk P w K mg base CX k f fd ps sp∧mg x=some (.ref f)∧PySem.W.keepIn K (.ref f)=true∧Binds K fd ps []∧∃oc od osl,K.lookup f=some ⟨oc,od,.func fd,osl⟩
theorem ai{X:Cx}{CX:bg}{k j:Nat}{ps:List Str}{sp:Sp}{E:XK}{x:Str}{p pos:Pos}{e:Expr}{es:List Expr}{t:TA}(F:Fn X.prog X.w X.K X.mg X.base CX x k ps sp)(hr:Room j X.A)(hx:fk CX X E)(ha:PA X (e::es) t)(hg:Gl X x:=by rfl)(hj:k≤j:=by decide)
 (hdb:(x == ("__debug__":Str))=false:=by decide)(he:starEach (e::es) X.env=(false,eval e X.env)::starEach es X.env:=by rfl)(hpl:(backTo pos (starEach es X.env)).any (·.1)=false:=by rfl):
 PE X (.Call (.Name x p) (e::es) [] pos) (gN sp [] E t):=by
 obtain⟨f,fd,F,hm,hk,hb,_⟩:=F.ex
 exact rK F (hr.mono hj) hg hm hk hb .nil hx ha hdb he hpl
structure FF(K:PySem.W.Frag)(x:Str)(st:Stmt):Prop where
 ex:∃(f:Addr) (oc:Value) (od an:Option Addr) (osl:Array (Option Value)) (kV doc pm cdv ct:Value),PySem.W.nsIn K mainGlobals x=some (some (.ref f))∧
  K.lookup f=some ⟨oc,od,.func (PySem.W.fnOf x x (ck st) (bI st) (aC st) .none kV doc pm an cdv ct),osl⟩∧PySem.W.codeIn K cdv x=true∧PySem.W.keepIn K (.ref f)=true
theorem ff_mk{K:PySem.W.Frag}{x:Str}{st:Stmt}{f:Addr}{oc:Value}{od an:Option Addr}{osl:Array (Option Value)}{kV doc pm cdv ct:Value}(a:PySem.W.nsIn K mainGlobals x=some (some (.ref f)))(l:K.lookup f=some ⟨oc,od,.func (PySem.W.fnOf x x (ck st) (bI st) (aC st) .none kV doc pm an cdv ct),osl⟩)(c:PySem.W.codeIn K cdv x=true)(k:PySem.W.keepIn K (.ref f)=true):FF K x st:=⟨f,oc,od,an,osl,kV,doc,pm,cdv,ct,a,l,c,k⟩
structure Md(K:PySem.W.Frag)(mg:Str→Option Value):Prop where
 ns:∀x v,PySem.W.nsIn K mainGlobals x=some v→mg x=v
theorem u2{K:PySem.W.Frag}{h:Heap}{mg:Str→Option Value}(X:K.In h)(G:h.Ns mainGlobals mg):Md K mg:=⟨fun x v e=>by
 cases v with
 | none=>exact PySem.W.mg_none_of X G e
 | some u=>exact PySem.W.mg_of X G e⟩
theorem ba{P:Program}{w:World}{K:PySem.W.Frag}{mg:Str→Option Value}{base:Heap}{x:Str}{st:Stmt}{N ps:List Str}{k:Nat}{sp:Sp}(M:Md K mg)(F:FF K x st)(S:FnScope N ps (aC st))(hbind:∀(kV doc pm:Value) (an:Option Addr) (cdv ct:Value) (us:List Value),us.length=ps.length→bindArgs (PySem.W.fnOf x x (ck st) (bI st) (aC st) .none kV doc pm an cdv ct) ⟨us,[]⟩=pure (ps.zip us))(len:∀vs H Q E,sp vs H Q E→vs.length=ps.length)(hbody:∀(f:Addr) (cdv:Value) (A:Around) (outer:List Env) (s:Shared) (H:Hp) (vs:List V) (Q:VK) (E:XK),Room k (A.deeper (envOfC x (aC st) s.heap.objs.size f cdv))→sp vs H Q E→∃t,PSs (bU ak P w K mg base N x (aC st) f cdv A outer s H E).nox (bI st) t∧t {nx:=fun _ H'=>Q .non H',rt:=Q} (bN N vs) H):Fn P w K mg base ak x (k+1) ps sp:=by
 obtain⟨f,oc,od,an,osl,kV,doc,pm,cdv,ct,a,l,c,kk⟩:=F.ex
 have F1:=jr (st:=st) l c kk
 exact⟨f,_,F1.ok S len (fun cdv A outer s H vs Q E hr h=>hbody f cdv A outer s H vs Q E hr h),M.ns _ _ a,kk,F1.binds hbind,oc,od,osl,l⟩
theorem cG{CX:bg}{P:Program}{w:World}{K:PySem.W.Frag}{mg:Str→Option Value}{base:Heap}{x:Str}{st:Stmt}{N ps:List Str}{k:Nat}{sp:Sp}(M:Md K mg)(F:FF K x st)(S:FnScope N ps (aC st))(hbind:∀(kV doc pm:Value) (an:Option Addr) (cdv ct:Value) (us:List Value),us.length=ps.length→bindArgs (PySem.W.fnOf x x (ck st) (bI st) (aC st) .none kV doc pm an cdv ct) ⟨us,[]⟩=pure (ps.zip us))(len:∀vs H Q E,sp vs H Q E→vs.length=ps.length)(hbody:∀(f:Addr) (cdv:Value) (A:Around) (outer:List Env) (s:Shared) (H:Hp) (vs:List V) (Q:VK) (E:XK),Room k (A.deeper (envOfC x (aC st) s.heap.objs.size f cdv))→sp vs H Q E→∃t,PSs (bU CX P w K mg base N x (aC st) f cdv A outer s H E) (bI st) t∧t {nx:=fun _ H'=>Q .non H',rt:=Q} (bN N vs) H):Fn P w K mg base CX x (k+1) ps sp:=by
 obtain⟨f,oc,od,an,osl,kV,doc,pm,cdv,ct,a,l,c,kk⟩:=F.ex
 have F1:=jr (st:=st) l c kk
 exact⟨f,_,mj l c S len (fun A outer s H vs Q E hr h=>hbody f cdv A outer s H vs Q E hr h),M.ns _ _ a,kk,F1.binds hbind,oc,od,osl,l⟩
theorem tR{P:Program}{w:World}{K:PySem.W.Frag}{mg:Str→Option Value}{st:Stmt}{fa:Addr}{k:Nat}{sp:Sp}{CX:bg}(M:Md K mg)(F:FF K "law" st)(hfa:mg "law"=some (.ref fa))(hb:∀(kV doc pm:Value) (an:Option Addr) (cdv ct:Value) (s:Shared) (v:Value),BindsTo s (PySem.W.fnOf "law" "law" (ck st) (bI st) (aC st) .none kV doc pm an cdv ct) ⟨[v],[]⟩ [("script",v)])(h:∀base:Heap,Fn P w K mg base CX "law" k ["script"] sp):∃fd:FuncData,(∀(s:Shared) (v:Value),BindsTo s fd ⟨[v],[]⟩ [("script",v)])∧∀base:Heap,K.In base→base.Ns mainGlobals mg→FnOk P w K mg base CX k fa fd ["script"] sp:=by
 obtain⟨f,oc,od,an,osl,kV,doc,pm,cdv,ct,a,l,c,kk⟩:=F.ex
 have e:=hfa.symm.trans (M.ns _ _ a)
 cases e
 refine⟨_,hb kV doc pm an cdv ct,fun base _ _=>?_⟩
 obtain⟨f',fd',F',hm',_,_,oc',od',osl',l'⟩:=(h base).ex
 have e:=hm'.symm.trans (M.ns _ _ a)
 cases e
 rw[l] at l'
 cases l'
 exact F'
structure Bl(mg:Str→Option Value):Prop where
 max:mg "max"=none
 int:mg "int"=none
 len:mg "len"=none
 range:mg "range"=none
 list:mg "list"=none
 isinst:mg "isinstance"=none
 bool:mg "bool"=none
 str:mg "str"=none
 tuple:mg "tuple"=none
 rev:mg "reversed"=none
 zip:mg "zip"=none
 min:mg "min"=none
 sum:mg "sum"=none
 enumerate:mg "enumerate"=none
 dict:mg "dict"=none
theorem bl_of{K:PySem.W.Frag}{mg:Str→Option Value}(M:Md K mg)(b1:PySem.W.nsIn K mainGlobals "max"=some none)(b2:PySem.W.nsIn K mainGlobals "int"=some none)(b3:PySem.W.nsIn K mainGlobals "len"=some none)(b4:PySem.W.nsIn K mainGlobals "range"=some none)(b5:PySem.W.nsIn K mainGlobals "list"=some none)(b6:PySem.W.nsIn K mainGlobals "isinstance"=some none)(b7:PySem.W.nsIn K mainGlobals "bool"=some none)(b8:PySem.W.nsIn K mainGlobals "str"=some none)(b9:PySem.W.nsIn K mainGlobals "tuple"=some none)(b10:PySem.W.nsIn K mainGlobals "reversed"=some none)(b11:PySem.W.nsIn K mainGlobals "zip"=some none)(b12:PySem.W.nsIn K mainGlobals "min"=some none)(b13:PySem.W.nsIn K mainGlobals "sum"=some none)(b14:PySem.W.nsIn K mainGlobals "enumerate"=some none)(b15:PySem.W.nsIn K mainGlobals "dict"=some none):Bl mg:=
 ⟨M.ns _ _ b1,M.ns _ _ b2,M.ns _ _ b3,M.ns _ _ b4,M.ns _ _ b5,M.ns _ _ b6,M.ns _ _ b7,M.ns _ _ b8,M.ns _ _ b9,M.ns _ _ b10,M.ns _ _ b11,M.ns _ _ b12,M.ns _ _ b13,M.ns _ _ b14,M.ns _ _ b15⟩
def Keep(p:Addr)(H H':Hp):Prop:=∀b o,H b=some o→b≠p→H' b=some o
theorem Keep.trans{p:Addr}{H H1 H2:Hp}(a:Keep p H H1)(b:Keep p H1 H2):Keep p H H2:=fun c o h n=>b c o (a c o h n) n
theorem Same.keep{p:Addr}{H H':Hp}(a:Same H H'):Keep p H H':=fun c o h _=>a c o h
theorem Keep.upd{p:Addr}{H:Hp}{o:HO}:Keep p H (upd H p o):=fun c u h n=>by rw[ao n];exact h
theorem Same.upd{H:Hp}{p:Addr}{o:HO}(h:H p=none):Same H (upd H p o):=fun c u e=>by rw[ao (aR e h)];exact e
theorem Keep.free{p:Addr}{H H':Hp}(a:Keep p H H'){o:HO}(hp:H' p=some o){l:Addr}(h:H' l=none):H l=none:=by
 cases q:H l with
 | none=>rfl
 | some u=>
   have:l≠p:=fun z=>by subst z;rw[hp] at h;cases h
   rw[a l u q this] at h;cases h
theorem qd:bootBuiltins "max"=some (.builtin "max"):=by decide+kernel
theorem nO:bootBuiltins "min"=some (.builtin "min"):=by decide+kernel
theorem uw:bootBuiltins "sum"=some (.builtin "sum"):=by decide+kernel
theorem mG:bootBuiltins "len"=some (.builtin "len"):=by decide+kernel
theorem ji:bootBuiltins "isinstance"=some (.builtin "isinstance"):=by decide+kernel
theorem sw:bootBuiltins "int"=some (.type "int"):=by decide+kernel
theorem lJ:bootBuiltins "str"=some (.type "str"):=by decide+kernel
theorem jR:bootBuiltins "list"=some (.type "list"):=by decide+kernel
theorem oV:bootBuiltins "tuple"=some (.type "tuple"):=by decide+kernel
theorem nA:bootBuiltins "reversed"=some (.type "reversed"):=by decide+kernel
section
variable{X:Cx}{e e2:Expr}{te te2:TE}{p p2 pos:Pos}
theorem PE.imp{t t':TE}(h:PE X e t)(i:∀σ H Q,t' σ H Q→t σ H Q):PE X e t':=fun pins s σ H Q I q=>h pins s σ H Q I (i σ H Q q)
def rY(K:PySem.W.Frag)(te:TE):TE:=fun σ H Q=>te σ H fun x H1=>∃a ys,x=.ref a∧SqL K H1 a ys∧Q (.int ys.length) H1
def qP(te:TE):TE:=fun σ H Q=>te σ H fun x H1=>∃z,x=.str z∧z.length≤sizeLine∧Q (.int z.length) H1
def qc(te te2:TE):TE:=fun σ H Q=>te σ H fun x H1=>te2 σ H1 fun y H2=>∃i j,x=.int i∧y=.int j∧Q (.int (if j>i then j else i)) H2
def vq(te:TE):TE:=fun σ H Q=>te σ H fun x H1=>∃k,x=.bl k∧Q (.int (if k then 1 else 0)) H1
def oH(K:PySem.W.Frag)(te:TE):TE:=fun σ H Q=>te σ H fun x H1=>∃a ys,x=.ref a∧SqL K H1 a ys∧∀l,H1 l=none→Q (.ref l) (upd H1 l (.lst ys))
def vm(K:PySem.W.Frag)(c:String)(te:TE):TE:=fun σ H Q=>te σ H fun x H1=>∃t b,TyOf K H1 x t∧PySem.W.kitOne K t (.type c)=some b∧Q (.bl b) H1
def r1(r:V→Hp→VK→Prop):List V→Hp→VK→Prop:=fun xs H Q=>match xs with | [x]=>r x H Q | _=>False
def eK(r:V→V→Hp→VK→Prop):List V→Hp→VK→Prop:=fun xs H Q=>match xs with | [x,y]=>r x y H Q | _=>False
theorem cF{f:Value}{r:V→Hp→VK→Prop}(h:∀pins s σ H x us Q,Inv X pins σ H s→Vals [x] us→r x H Q→wpAny (model X.prog X.w) X.A (call f us) (EP X pins σ Q) X.xe s):bQ X f (r1 r):=by
 intro pins s σ H xs us Q I rv q
 match xs,q with
 | [x],q=>exact h pins s σ H x us Q I rv q
theorem fO{f:Value}{r:V→V→Hp→VK→Prop}(h:∀pins s σ H x y us Q,Inv X pins σ H s→Vals [x,y] us→r x y H Q→wpAny (model X.prog X.w) X.A (call f us) (EP X pins σ Q) X.xe s):bQ X f (eK r):=by
 intro pins s σ H xs us Q I rv q
 match xs,q with
 | [x,y],q=>exact h pins s σ H x y us Q I rv q
theorem aL(hm:X.mg "len"=none)(ha:PE X e te)(hg:Gl X "len":=by rfl)(he:starEach [e] X.env=[(false,eval e X.env)]:=by rfl):PE X (.Call (.Name "len" p) [e] [] pos) (rY X.K te):=
 cI (r:=r1 fun x H Q=>∃a ys,x=.ref a∧SqL X.K H a ys∧Q (.int ys.length) H) (cF fun pins s σ H x us Q I rv ⟨a,ys,ex,h,q⟩=>pB pins s σ H _ us Q I rv ⟨a,ys,by rw[ex],.inl h,q⟩) hg hm mG (aa ha ac (by exact he)) (he:=by exact he)
theorem jC(hm:X.mg "len"=none)(ha:PE X e te)(hg:Gl X "len":=by rfl)(he:starEach [e] X.env=[(false,eval e X.env)]:=by rfl):PE X (.Call (.Name "len" p) [e] [] pos) (qP te):=
 cI (r:=r1 fun x H Q=>∃z,x=.str z∧z.length≤sizeLine∧Q (.int z.length) H) (cF fun pins s σ H x us Q I rv ⟨z,ex,h,q⟩=>pS pins s σ H _ us Q I rv ⟨z,by rw[ex],h,q⟩) hg hm mG (aa ha ac (by exact he)) (he:=by exact he)
theorem jf(hc:X.calm=true)(hm:X.mg "max"=none)(ha:PE X e te)(hb:PE X e2 te2)(hg:Gl X "max":=by rfl)(he:starEach [e,e2] X.env=[(false,eval e X.env),(false,eval e2 X.env)]:=by rfl)(he2:starEach [e2] X.env=[(false,eval e2 X.env)]:=by rfl):PE X (.Call (.Name "max" p) [e,e2] [] pos) (qc te te2):=
 cI (r:=eK fun x y H Q=>∃i j,x=.int i∧y=.int j∧Q (.int (if j>i then j else i)) H) (fO fun pins s σ H x y us Q I rv ⟨i,j,ex,ey,q⟩=>ph hc pins s σ H _ us Q I rv ⟨i,j,by rw[ex,ey],q⟩) hg hm qd (aa ha (aa hb ac (by exact he2)) (by rw[he,he2])) (he:=by rw[he,he2]) (hpl:=by rw[he2];rfl)
theorem mY(hm:X.mg "int"=none)(ha:PE X e te)(hg:Gl X "int":=by rfl)(he:starEach [e] X.env=[(false,eval e X.env)]:=by rfl):PE X (.Call (.Name "int" p) [e] [] pos) (vq te):=
 fF (r:=r1 fun x H Q=>∃k,x=.bl k∧Q (.int (if k then 1 else 0)) H) (cF fun pins s σ H x us Q I rv ⟨z,ex,q⟩=>qA pins s σ H _ us Q I rv (.inr ⟨z,by rw[ex],q⟩)) hg hm sw (aa ha ac (by exact he)) (he:=by exact he)
theorem gL(hm:X.mg "list"=none)(ha:PE X e te)(hg:Gl X "list":=by rfl)(he:starEach [e] X.env=[(false,eval e X.env)]:=by rfl):PE X (.Call (.Name "list" p) [e] [] pos) (oH X.K te):=
 fF (r:=r1 fun x H Q=>∃a ys,x=.ref a∧SqL X.K H a ys∧∀l,H l=none→Q (.ref l) (upd H l (.lst ys))) (cF fun pins s σ H x us Q I rv ⟨a,ys,ex,h,q⟩=>mW pins s σ H _ us Q I rv ⟨a,ys,by rw[ex],.inl h,q⟩) hg hm jR (aa ha ac (by exact he)) (he:=by exact he)
theorem me{T:Str}{c:String}(hm:X.mg "isinstance"=none)(hT:X.mg T=none)(hb:bootBuiltins T=some (.type c))(ha:PE X e te)(hg:Gl X "isinstance":=by rfl)(hgT:Gl X T:=by rfl)(he:starEach [e,.Name T p2] X.env=[(false,eval e X.env),(false,eval (.Name T p2) X.env)]:=by rfl)
 (hn:T≠"__name__":=by decide)(hd:(T == ("__debug__":Str))=false:=by decide):PE X (.Call (.Name "isinstance" p) [e,.Name T p2] [] pos) (vm X.K c te):=
 cI (r:=eK fun x y H Q=>∃t b,y=.ty c∧TyOf X.K H x t∧PySem.W.kitOne X.K t (.type c)=some b∧Q (.bl b) H)
  (fO fun pins s σ H x y us Q I rv ⟨t,b,ey,ty,ek,q⟩=>tM pins s σ H _ us Q I rv ⟨x,t,c,b,by rw[ey],ty,ek,q⟩) hg hm ji
  (aa ha (aa (lh (v:=.ty c) hgT hT hb rfl hn hd) ac) (by exact he)) (he:=by exact he) |>.imp fun σ H Q h=>by
   show te σ H fun x H1=>∃t b,V.ty c=.ty c∧_
   simp only[true_and]
   exact h
end
theorem ia(n d:Nat)(i:Int)(h:0≤i):HT.sIx n d (some i)=min i.toNat n:=by
 show(if i<0 then(i+(n:Int)).toNat else min i.toNat n)=min i.toNat n
 rw[if_neg (by lia)]
theorem pV{α:Type}(xs:List α)(k:Nat):xs.take (min k xs.length)=xs.take k:=by
 rcases Nat.le_total k xs.length with h | h
 ·rw[Nat.min_eq_left h]
 ·rw[Nat.min_eq_right h,List.take_length,List.take_of_length_le h]
theorem kA{α:Type}(xs:List α)(k:Nat):xs.drop (min k xs.length)=xs.drop k:=by
 rcases Nat.le_total k xs.length with h | h
 ·rw[Nat.min_eq_left h]
 ·rw[Nat.min_eq_right h,List.drop_length,List.drop_of_length_le h]
def cL{α:Type}(xs:List α)(lo hi:Option Int):List α:=(xs.drop (HT.sIx xs.length 0 lo)).take (HT.sIx xs.length xs.length hi-HT.sIx xs.length 0 lo)
theorem gi{α:Type}(xs:List α)(k:Int)(h:0≤k):cL xs none (some k)=xs.take k.toNat:=by
 unfold cL
 rw[ia _ _ _ h,HT.sIx_none,List.drop_zero,Nat.sub_zero,pV]
theorem fC{α:Type}(xs:List α)(k:Int)(h:0≤k):cL xs (some k) none=xs.drop k.toNat:=by
 unfold cL
 rw[ia _ _ _ h,HT.sIx_none,kA]
 exact List.take_of_length_le (by rw[List.length_drop];lia)
theorem qF{α:Type}(xs:List α)(i j:Int)(hi:0≤i)(hj:i≤j):cL xs (some i) (some j)=(xs.drop i.toNat).take (j.toNat-i.toNat):=by
 unfold cL
 rw[ia _ _ _ hi,ia _ _ _ (Int.le_trans hi hj),kA]
 rcases Nat.le_total j.toNat xs.length with h | h
 ·rw[Nat.min_eq_left h,Nat.min_eq_left (by lia)]
 ·rw[Nat.min_eq_right h]
  rcases Nat.le_total i.toNat xs.length with h' | h'
  ·rw[Nat.min_eq_left h',List.take_of_length_le (by rw[List.length_drop];lia),List.take_of_length_le (by rw[List.length_drop];lia)]
  ·rw[List.drop_of_length_le h'];simp
theorem cy{α β:Type}(f:α→β)(xs:List α)(lo hi:Option Int):cL (xs.map f) lo hi=(cL xs lo hi).map f:=by
 unfold cL
 rw[List.length_map,List.map_take,List.map_drop]
theorem cq(xs:List V)(lo hi:Option Int):bi xs lo hi=cL xs lo hi:=rfl
theorem cB{α:Type}(xs:List α)(r:Int)(h0:0≤r)(h1:r<xs.length):∃v,xs[r.toNat]?=some v∧v∈xs∧aX xs r=some v:=by
 have hl:r.toNat<xs.length:=by lia
 refine⟨xs[r.toNat],by simp[hl],List.getElem_mem hl,?_⟩
 have e:((r.toNat:Nat):Int)=r:=by lia
 have q:aX xs ((r.toNat:Nat):Int)=some xs[r.toNat]:=bc (by simp[hl])
 rw[e] at q
 exact q
theorem sG(n:Nat)(i:Int)(h0:0≤i)(h1:i<n):bT n i=some i.toNat:=by
 unfold bT
 rw[if_pos h0,if_pos h1]
theorem vc(cs:List Nat):(Str.length ⟨cs.toArray⟩)=cs.length:=by simp[Str.length]
def cR(K:PySem.W.Frag)(a:Addr)(xs:List V):It:=
 ⟨fun i H=>SqL K H a xs∧i<xs.length,fun i H x H'=>H'=H∧xs[xs.length-1-i]?=some x,fun i _=>xs.length≤i⟩
theorem su{P:Program}{w:World}{K:PySem.W.Frag}{tg:Expr}(a it:Addr)(xs:List V):Turn P w K tg (cR K a xs) [it] it (fun i h=>i≤xs.length∧h.IsRevIter it a ((xs.length:Int)-1-(i:Int))) where
 mem:=by simp
 obj:=fun i h st b hb=>by
  have e:b=it:=by simpa using hb
  subst e
  obtain⟨o,e,c,d⟩:=st.2
  exact⟨o,e,fun v z=>by rw[d] at z;cases z⟩
 keep:=fun i h h' st k=>⟨st.1,st.2.at fun o e=>k it (by simp) o e⟩
 item:=by
  intro X hP hw hK hc i pins s σ H E I hf st hg
  subst hP hw hK
  obtain⟨hq,hx⟩:=hg
  obtain⟨its,rv,p,hz⟩:=I.list hq
  have hlt:xs.length-1-i<xs.length:=by lia
  obtain⟨u,hu,ru⟩:=rv.get (show xs[xs.length-1-i]?=some xs[xs.length-1-i] by simp[hlt])
  obtain⟨f0,f1,f2,f3,f4,f5⟩:=hf it (by simp)
  have e1:(xs.length:Int)-1-(i:Int)=((xs.length-1-i:Nat):Int):=by lia
  have hit:=st.2
  rw[e1] at hit
  refine wpAny_pyNext_rev_item hit p.isList (x:=u) (by simpa using hu) fun h' st' sb=>?_
  have e2:((xs.length-1-i:Nat):Int)-1=(xs.length:Int)-1-((i+1:Nat):Int):=by lia
  rw[e2] at st'
  have I1:Inv X pins σ H {s with heap:=h'}:=I.turned (t':=s.toks) (fun b o hb e=>(sb.2 b hb).trans e) f0 f1 f3 f4 f5
  obtain⟨o,e,c,d⟩:=id st'
  exact⟨u,rfl,gm (s:={s with heap:=h'}) e c d (by decide) ⟨_,H,I1,ru,⟨rfl,by simp[hlt]⟩,⟨hx,st'⟩,fun b hb=>(hf b hb).1⟩⟩
 done:=by
  intro X hP hw hK hc i pins s σ H E I hf st hg
  subst hP hw hK
  obtain⟨f0,f1,f2,f3,f4,f5⟩:=hf it (by simp)
  have hg':xs.length≤i:=hg
  have e1:(xs.length:Int)-1-(i:Int)= -1:=by have:=st.1;lia
  have hit:=st.2
  rw[e1] at hit
  exact wpAny_pyNext_rev_end (I.ok.hd hc) hit fun h' eb=>⟨rfl,I.turned (t':=s.toks) (fun b o hb e=>eb b o hb e) f0 f1 f3 f4 f5⟩
 self:=fun _ _ _ _ _ st h=>wpAny_pyIter_revIter st.2 h
def p7(K:PySem.W.Frag)(tl:TE):TI:=fun σ H R=>tl σ H fun x H1=>∃a xs,x=.ref a∧SqL K H1 a xs∧R (cR K a xs) H1
theorem pk{X:Cx}{tg e:Expr}{te:TE}{p pos:Pos}(hm:X.mg "reversed"=none)(he:PE X e te)(hg:Gl X "reversed":=by rfl)(hs:starEach [e] X.env=[(false,eval e X.env)]:=by rfl):PI X tg (.Call (.Name "reversed" p) [e] [] pos) (p7 X.K te):=by
 intro pins s σ H R I h
 refine Call_ (dh I hg hm nA (PyProof.Rows.callWith_type1 (am ((aa he ac (by exact hs)) pos pins s σ H (fun vs H1=>∃x,vs=[x]∧∃a xs,x=.ref a∧SqL X.K H1 a xs∧R (cR X.K a xs) H1) I ?_) fun us s1 ⟨vs,H1,I1,r1,q1⟩=>?_) hs rfl))
 ·show te σ H fun x H1=>∃x',[x]=[x']∧∃a xs,x'=.ref a∧SqL X.K H1 a xs∧R (cR X.K a xs) H1
  have e:(fun(x:V) (H1:Hp)=>∃x',[x]=[x']∧∃a xs,x'=V.ref a∧SqL X.K H1 a xs∧R (cR X.K a xs) H1)=fun x H1=>∃a xs,x=.ref a∧SqL X.K H1 a xs∧R (cR X.K a xs) H1:=by
   funext x H1
   apply propext
   constructor
   ·rintro⟨x',e,r⟩
    cases e
    exact r
   ·intro r
    exact⟨x,rfl,r⟩
  rw[e]
  exact h
 ·obtain⟨x,rfl,a,xs,rfl,hq,q⟩:=q1
  obtain⟨u,rfl,ru⟩:=cV r1
  cases ru
  obtain⟨its,rv,pl,hz⟩:=I1.list hq
  refine call_reversed_list pl.isList ?_
  have I2:Inv X pins σ H1 {s1 with heap:=s1.heap.push (revObj a ((its.toArray.size:Int)-1))}:=I1.kept (t':=s1.toks) fun b o e=>Heap.get?_push_of_some _ e
  have hl:=rv.length
  have st:({s1 with heap:=s1.heap.push (revObj a ((its.toArray.size:Int)-1))}:Shared).heap.IsRevIter s1.heap.objs.size a ((xs.length:Int)-1-((0:Nat):Int)):=by
   refine⟨_,Heap.get?_push_size _ rfl,rfl,?_⟩
   have:(its.toArray.size:Int)-1=(xs.length:Int)-1-((0:Nat):Int):=by simp;lia
   rw[←this];rfl
  refine wpAny_pyIter_revIter st ?_
  refine⟨s1.heap.objs.size,[s1.heap.objs.size],_,_,H1,rfl,I2,su a _ xs,⟨Nat.zero_le _,st⟩,fun b hb=>?_,q⟩
  have e:b=s1.heap.objs.size:=by simpa using hb
  subst e
  exact I1.fpOk (Nat.le_refl _) (I1.hok.fresh (Nat.le_refl _))
theorem sK{K:PySem.W.Frag}{a:Addr}{xs:List V}{tc:TT}{te:TE}{σ:St}{H1:Hp}{Q:Hp→Prop}{D:Addr}(Pv:Nat→List V→Hp→Prop)(hn:xs.length<sizeLine)(h0:Pv 0 [] (upd H1 D (.lst [])))(hl:∀i ys H,Pv i ys H→ys.length≤i)(hq:∀i ys H,i≤xs.length→Pv i ys H→SqL K H a xs)(hs:∀i x ys H,xs[xs.length-1-i]?=some x→i<xs.length→Pv i ys H→tc (σ++[some x]) H fun b H2=>if b=true then te (σ++[some x]) H2 fun v H3=>H3 D=some (.lst ys)∧Pv (i+1) (ys++[v]) (upd H3 D (.lst (ys++[v]))) else Pv (i+1) ys H2)
 (hd:∀ys H,Pv xs.length ys H→Q H):
 ∃ W:Nat→Nat→List V→Hp→Prop,(∃m,W 0 m [] (upd H1 D (.lst [])))∧
   ∀ i m ys H,W i m ys H→((cR K a xs).stop i H∧Q H)∨((cR K a xs).go i H∧ys.length<sizeLine∧∃N:List V→Hp→Prop,(∀ys' H',N ys' H'→∃m',m'<m∧W (i+1) m' ys' H')∧∀x H',(cR K a xs).yld i H x H'→tc (σ++[some x]) H' fun b H2=>
     if b=true then te (σ++[some x]) H2 fun v H3=>H3 D=some (.lst ys)∧N (ys++[v]) (upd H3 D (.lst (ys++[v]))) else N ys H2):=by
 refine⟨fun i m ys H=>m=xs.length-i∧i≤xs.length∧Pv i ys H,⟨xs.length,by simp,Nat.zero_le _,h0⟩,?_⟩
 rintro i m ys H ⟨rfl,hi,p⟩
 have q:=hq i ys H hi p
 by_cases hlt:i<xs.length
 ·refine .inr ⟨⟨q,hlt⟩,Nat.lt_of_le_of_lt (hl i ys H p) (Nat.lt_trans hlt hn),Pv (i+1),fun ys' H' p'=>⟨xs.length-(i+1),by lia,rfl,hlt,p'⟩,fun x H' y=>?_⟩
  obtain⟨e,y⟩:=y
  subst e
  exact hs i x ys _ y hlt p
 ·have e:i=xs.length:=by lia
  subst e
  exact .inl ⟨Nat.le_refl _,hd ys H p⟩
theorem fz{σ:St}{H:Hp}{A B:Hp→Prop}(h:A H):kP σ H fun b H2=>if b=true then A H2 else B H2:=by
 show if true=true then A H else B H
 rw[if_pos rfl]
 exact h
theorem jk{K:PySem.W.Frag}{H:Hp}:DatVs K H [] []:=by rw[DatVs]
theorem ii{K:PySem.W.Frag}{H:Hp}{d:PyData}{ds:List PyData}{v:V}{vs:List V}(h:DatV K H d v)(g:DatVs K H ds vs):DatVs K H (d::ds) (v::vs):=by
 rw[DatVs];exact⟨v,vs,rfl,h,g⟩
theorem eP{K:PySem.W.Frag}{H:Hp}{p:Addr}{ds:List PyData}{vs:List V}(h:SqL K H p vs)(g:DatVs K H ds vs):DatV K H (.list ds) (.ref p):=by
 rw[DatV];exact⟨p,vs,rfl,h,g⟩
theorem pA{K:PySem.W.Frag}{H:Hp}(b:Bool):DatV K H (.bool b) (.bl b):=by rw[DatV]
theorem uQ{K:PySem.W.Frag}{H:Hp}(x:Str)(h:PyData.strOk x=true):DatV K H (.str x) (.str x):=by rw[DatV];exact⟨rfl,h⟩
def dJ(ns:List Int):PyData:=.list (ns.map PyData.int)
theorem qI(cs ds:List Int):PyData.eqv (dJ cs) (dJ ds)=decide (cs=ds):=nc cs ds
theorem mV(cs:List Int):(dJ cs).depth≤2:=l9 cs
section
variable{X:Cx}{a b e:Expr}{rest:List Expr}{ta tb te:TE}{p pos:Pos}
end
def FW(J:It)(g:TG)(tb:TS)(D:Ends)(σ:St)(H1:Hp):Prop:=∃W:Nat→Nat→St→Hp→Prop,(∃m,W 0 m σ H1)∧∀i m σ H,W i m σ H→
 (J.stop i H∧D.nx σ H)∨(J.go i H∧∃N:St→Hp→Prop,(∀σ' H',N σ' H'→∃m',m'<m∧W (i+1) m' σ' H')∧∀x H',J.yld i H x H'→g x σ H' fun σ2 H2=>tb {D with nx:=N,ct:=N,bk:=D.nx} σ2 H2)
theorem rT{wi:TI}{g:TG}{tb rest:TS}{D:Ends}{σ:St}{H:Hp}(h:wi σ H fun J H1=>FW J g tb {D with nx:=rest D} σ H1):fe (mO wi g tb) rest D σ H:=h
def qm(i j:Int):Prop:=0<j∧j<1000000000000000000000000000000000000000000000000000000000000
theorem kC{X:Cx}:OpR X (binaryOp .FloorDiv) (rI qm fun i j=>.int (i / j)):=gl fun i j _ _ _ _ _ hc q=>by
 have hn:j.natAbs.log2<9000:=by
  have h0:j.natAbs≠0:=by have:=hc.1;lia
  rw[Nat.log2_lt h0]
  have h1:j.natAbs<1000000000000000000000000000000000000000000000000000000000000:=by have:=hc.1;have:=hc.2;lia
  exact Nat.lt_of_lt_of_le h1 (Nat.le_trans (show 1000000000000000000000000000000000000000000000000000000000000≤2 ^ 200 by decide) (Nat.pow_le_pow_right (by decide) (by decide)))
 refine floordiv_int (by have:=hc.1;lia) ?_ (.inl (PyProof.noPylong_of_log2 hn))
 rw[Int.fdiv_eq_ediv_of_nonneg _ (by have:=hc.1;lia)]
 exact q
theorem Inv.turnLaid{X:Cx}{pins:List (Addr×Obj)}{σ:St}{H:Hp}{s:Shared}{h':Heap}{t':Nat}{ch:List Addr}{a:Addr}{o:HO}(I:Inv X pins σ H s)(hch:∀b∈ch,bL X pins H b)(k:∀b u,b∉ch→s.heap.get? b=some u→h'.get? b=some u)(hp:s.heap.objs.size≤a)(new:ObjOk X.prog X.w (upd H a o) h' a o):Inv X pins σ (upd H a o) {s with heap:=h',toks:=t'}:=by
 have hn:=I.hok.fresh hp
 have nch:∀b u,H b=some u→b∉ch:=fun b u e hb=>by rw[(hch b hb).1] at e;cases e
 refine I.step (g':=s.gens) (d':=s.drawn) (ch:=ch) (fun b hb=>?_) (fun b o _ _ hc e _=>k b o hc e) (fun b o _ _ hc e _=>⟨o.slots,k b o hc e⟩) (fun b o hc e n=>?_) (fun b o hc e=>⟨o,k b o hc e⟩) (fun b xs e=>?_) (fun b o u e=>?_) (fun b ps e=>⟨#[],?_⟩) (fun m hm=>?_) (fun b u e=>?_) I.bare
 ·obtain⟨f0,f1,f2,f3,f4,f5⟩:=hch b hb
  exact⟨f3,f1,f4,f5⟩
 ·rw[ao (Nat.ne_of_lt (Nat.lt_of_lt_of_le (Heap.lt_size e) hp))];exact n
 ·rw[ao (aR e hn)];exact e
 ·rw[ao (aR e hn)];exact e
 ·rw[ao (aR e hn),e];simp
 ·obtain⟨o,es,ep,ho,r⟩:=hm
  exact⟨o,es,ep,k _ o (fun hb=>(hch _ hb).2.1 rfl) ho,r⟩
 ·by_cases hb:b=a
  ·subst hb;rw[ae] at e;cases e;exact new
  ·rw[ao hb] at e
   refine(I.hok b u e).stay (fun c v hc q=>k c v ?_ q) (fun c q=>by rw[ao (aR q hn)];exact q) fun c xs q=>by rw[ao (aR q hn)];exact q
   rcases hc with z | z
   ·rw[z];exact nch b u e
   ·exact nch c _ z
theorem Inv.turnMany{X:Cx}{pins:List (Addr×Obj)}{σ:St}{H:Hp}{s:Shared}{h':Heap}{t':Nat}{ch:List Addr}(I:Inv X pins σ H s)(hch:∀b∈ch,bL X pins H b)(k:∀b u,b∉ch→s.heap.get? b=some u→h'.get? b=some u):Inv X pins σ H {s with heap:=h',toks:=t'}:=by
 have nch:∀b u,H b=some u→b∉ch:=fun b u e hb=>by rw[(hch b hb).1] at e;cases e
 refine I.step (g':=s.gens) (d':=s.drawn) (ch:=ch) (fun b hb=>?_) (fun b o _ _ hc e _=>k b o hc e) (fun b o _ _ hc e _=>⟨o.slots,k b o hc e⟩) (fun b o hc e n=>n) (fun b o hc e=>⟨o,k b o hc e⟩) (fun b xs e=>e) (fun b o u e=>e) (fun b ps e=>⟨#[],by rw[e];simp⟩) (fun m hm=>?_) (fun b u e=>?_) I.bare
 ·obtain⟨f0,f1,f2,f3,f4,f5⟩:=hch b hb
  exact⟨f3,f1,f4,f5⟩
 ·obtain⟨o,es,ep,ho,r⟩:=hm
  exact⟨o,es,ep,k _ o (fun hb=>(hch _ hb).2.1 rfl) ho,r⟩
 ·refine(I.hok b u e).stay (fun c v hc q=>k c v ?_ q) (fun _ q=>q) fun _ _ q=>q
  rcases hc with z | z
  ·rw[z];exact nch b u e
  ·exact nch c _ z
def cK(a b:Addr):It:=
 ⟨fun i H=>∃xs ys,H a=some (.lst xs)∧H b=some (.lst ys)∧i<xs.length∧i<ys.length,
  fun i H x H'=>∃xs ys u v p,H a=some (.lst xs)∧H b=some (.lst ys)∧xs[i]?=some u∧ys[i]?=some v∧H p=none∧H'=upd H p (.tup [u,v])∧x=.ref p,
  fun i H=>∃xs ys,H a=some (.lst xs)∧H b=some (.lst ys)∧(xs.length≤i∨ys.length≤i)⟩
theorem sT{P:Program}{w:World}{K:PySem.W.Frag}{es:List Expr}{kk:Nat}{tp:Pos}(a b z TI TO i1 i2:Addr)(D:ZipApart z TI TO i1 i2 a b):Turn P w K (.Tuple es kk tp) (cK a b) [z,TI,TO,i1,i2] z (fun i h=>IsZip h z TI TO .none∧IsPair h TI (.ref i1) (.ref i2)∧(∃x y,IsPair h TO x y)∧h.IsListIter i1 a i∧h.IsListIter i2 b i) where
 mem:=by simp
 obj:=fun i h st c hc=>by
  obtain⟨h1,h2,⟨x,y,h3⟩,h4,h5⟩:=st
  simp only[List.mem_cons,List.not_mem_nil,or_false] at hc
  rcases hc with rfl | rfl | rfl | rfl | rfl
  ·exact⟨_,h1,fun v q=>by have q':Data.fields _=Data.cell v:=q;cases q'⟩
  ·exact⟨_,h2,fun v q=>by have q':Data.seq _ _=Data.cell v:=q;cases q'⟩
  ·exact⟨_,h3,fun v q=>by have q':Data.seq _ _=Data.cell v:=q;cases q'⟩
  ·obtain⟨o,e,c,d⟩:=h4
   exact⟨o,e,fun v q=>by rw[d] at q;cases q⟩
  ·obtain⟨o,e,c,d⟩:=h5
   exact⟨o,e,fun v q=>by rw[d] at q;cases q⟩
 keep:=fun i h h' st k=>by
  obtain⟨h1,h2,⟨x,y,h3⟩,h4,h5⟩:=st
  exact⟨k z (by simp) _ h1,k TI (by simp) _ h2,⟨x,y,k TO (by simp) _ h3⟩,h4.at fun o e=>k i1 (by simp) o e,h5.at fun o e=>k i2 (by simp) o e⟩
 item:=by
  intro X hP hw hK hc i pins s σ H E I hf st hg
  subst hP hw hK
  obtain⟨h1,h2,⟨x,y,h3⟩,h4,h5⟩:=st
  obtain⟨xs,ys,ha,hb,hi1,hi2⟩:=hg
  obtain⟨_,its1,n1,rv1,hl1,e1⟩:=I.lstM ha
  obtain⟨_,its2,n2,rv2,hl2,e2⟩:=I.lstM hb
  obtain⟨u,hu,ru⟩:=rv1.get (show xs[i]?=some xs[i] by simp[hi1])
  obtain⟨v,hv,rv⟩:=rv2.get (show ys[i]?=some ys[i] by simp[hi2])
  refine wpAny_pyNext_zip_item D h1 h2 h3 h4 h5 ⟨_,e1,rfl,n1,rfl⟩ ⟨_,e2,rfl,n2,rfl⟩ (x:=u) (y:=v) (by simpa using hu) (by simpa using hv) fun h' z1 z2 z3 z4 z5 z6 z7=>⟨_,rfl,?_⟩
  refine wpAny_letOwnedTupleGo_zip (s:={s with heap:=h'}) z1 fun h'' y1 sb=>?_
  have zlt:z<s.heap.objs.size:=Heap.lt_size h1
  have nz:s.heap.objs.size≠z:=Nat.ne_of_gt zlt
  have hnew:IsPair h'' s.heap.objs.size u v:=sb.extBut _ _ nz z5
  have kk:∀c o,c∉ [z,TI,TO,i1,i2]→s.heap.get? c=some o→h''.get? c=some o:=fun c o hc e=>by
   simp only[List.mem_cons,List.not_mem_nil,or_false,not_or] at hc
   exact sb.extBut _ _ hc.1 (z7 c o hc.1 hc.2.2.1 hc.2.2.2.1 hc.2.2.2.2 e)
  have I1:Inv X pins σ (upd H s.heap.objs.size (.tup [xs[i],ys[i]])) {s with heap:=h'',toks:=s.toks}:=I.turnLaid hf kk (Nat.le_refl _) ⟨by show 2≤sizeLine;decide,[u,v],.cons ru (.cons rv .nil),⟨_,hnew,rfl,_,rfl⟩⟩
  refine⟨.ref s.heap.objs.size,_,I1,rfl,⟨xs,ys,xs[i],ys[i],s.heap.objs.size,ha,hb,by simp[hi1],by simp[hi2],I.hok.fresh (Nat.le_refl _),rfl,rfl⟩,⟨y1,?_,⟨u,v,?_⟩,?_,?_⟩,fun c hc=>?_⟩
  ·exact sb.extBut _ _ D.TIz (z7 TI _ D.TIz D.TITO D.TIi1 D.TIi2 h2)
  ·exact sb.extBut _ _ D.TOz z2
  ·exact z3.at fun o e=>sb.extBut _ _ D.i1z e
  ·exact z4.at fun o e=>sb.extBut _ _ D.i2z e
  ·rw[ao]
   ·exact(hf c hc).1
   ·intro q
    subst q
    obtain⟨o,e,_⟩:∃o,s.heap.get? s.heap.objs.size=some o∧True:=by
     simp only[List.mem_cons,List.not_mem_nil,or_false] at hc
     rcases hc with q | q | q | q | q
     ·rw[q] at*;exact⟨_,h1,trivial⟩
     ·exact⟨_,q▸h2,trivial⟩
     ·exact⟨_,q▸h3,trivial⟩
     ·obtain⟨o,e,_⟩:=h4;exact⟨o,q▸e,trivial⟩
     ·obtain⟨o,e,_⟩:=h5;exact⟨o,q▸e,trivial⟩
    exact absurd (Heap.lt_size e) (Nat.lt_irrefl _)
 done:=by
  intro X hP hw hK hc i pins s σ H E I hf st hg
  subst hP hw hK
  obtain⟨h1,h2,⟨x,y,h3⟩,h4,h5⟩:=st
  obtain⟨xs,ys,ha,hb,hend⟩:=hg
  obtain⟨_,its1,n1,rv1,hl1,e1⟩:=I.lstM ha
  obtain⟨_,its2,n2,rv2,hl2,e2⟩:=I.lstM hb
  refine wpAny_pyNext_zip_end (I.ok.hd hc) D h1 h2 h3 h4 h5 ⟨_,e1,rfl,n1,rfl⟩ ⟨_,e2,rfl,n2,rfl⟩ ?_ fun h' k=>⟨rfl,I.turnMany (t':=s.toks) hf fun c o hc e=>?_⟩
  ·rcases hend with q | q
   ·left;simp;lia
   ·right;simp;lia
  ·simp only[List.mem_cons,List.not_mem_nil,or_false,not_or] at hc
   exact k c o hc.1 hc.2.2.1 hc.2.2.2.1 hc.2.2.2.2 e
 self:=fun _ _ _ _ _ st h=>wpAny_pyIter_zip st.1 h
theorem qQ:bootBuiltins "zip"=some (.type "zip"):=by decide+kernel
def qG(te te2:TE):TI:=fun σ H R=>te σ H fun x H1=>te2 σ H1 fun y H2=>∃a b xs ys,x=.ref a∧y=.ref b∧H2 a=some (.lst xs)∧H2 b=some (.lst ys)∧R (cK a b) H2
theorem fG{X:Cx}{es:List Expr}{kk:Nat}{tp:Pos}{e e2:Expr}{te te2:TE}{p pos:Pos}(hm:X.mg "zip"=none)(he:PE X e te)(he2:PE X e2 te2)(hg:Gl X "zip":=by rfl)
 (hs:starEach [e,e2] X.env=[(false,eval e X.env),(false,eval e2 X.env)]:=by rfl)(hs2:starEach [e2] X.env=[(false,eval e2 X.env)]:=by rfl):PI X (.Tuple es kk tp) (.Call (.Name "zip" p) [e,e2] [] pos) (qG te te2):=by
 intro pins s σ H R I h
 refine Call_ (dh I hg hm qQ (PyProof.Rows.callWith_type1 (am ((aa he (aa he2 ac (by exact hs2)) (by rw[hs,hs2])) pos pins s σ H (fun vs H2=>match vs with | [x,y]=>∃a b xs ys,x=.ref a∧y=.ref b∧H2 a=some (.lst xs)∧H2 b=some (.lst ys)∧R (cK a b) H2 | _=>False) I h) fun us s1 ⟨vs,H1,I1,r1,q1⟩=>?_) (by rw[hs,hs2]) (by rw[hs2];rfl)))
 match vs,q1 with
 | [x,y],q1=>
   obtain⟨a,b,xs,ys,rfl,rfl,ha,hb,q⟩:=q1
   obtain⟨u,v,rfl,ru,rv⟩:=r1.two
   cases ru
   cases rv
   obtain⟨_,its1,n1,rv1,hl1,e1⟩:=I1.lstM ha
   obtain⟨_,its2,n2,rv2,hl2,e2⟩:=I1.lstM hb
   have ih1:s1.heap.IsList a its1.toArray:=⟨_,e1,rfl,n1,rfl⟩
   have ih2:s1.heap.IsList b its2.toArray:=⟨_,e2,rfl,n2,rfl⟩
   refine call_zip_2 ih1 ih2 fun h' z1 z2 z3 z4 z5 z6 z7=>?_
   have I2:Inv X pins σ H1 {s1 with heap:=h'}:=I1.kept (t':=s1.toks) z7
   refine wpAny_pyIter_zip (s:={s1 with heap:=h'}) z1 ?_
   refine⟨_,_,_,cK a b,H1,rfl,I2,sT a b _ _ _ _ _ (zipApart_new (Heap.lt_size e1) (Heap.lt_size e2)),⟨z1,z2,⟨_,_,z3⟩,z4,z5⟩,fun c hc=>?_,q⟩
   have hge:s1.heap.objs.size≤c:=by
    simp only[List.mem_cons,List.not_mem_nil,or_false] at hc
    rcases hc with q | q | q | q | q <;> (subst q;first | exact Nat.le_add_right _ _ | exact Nat.le_refl _)
   exact I1.fpOk hge (I1.hok.fresh hge)
theorem oD{a b:Addr}{xs ys:List V}{g:TG}{tb:TS}{D:Ends}{σ:St}{H:Hp}(Pv:Nat→St→Hp→Prop)(h0:Pv 0 σ H)(hl:∀i σ H,i≤min xs.length ys.length→Pv i σ H→H a=some (.lst xs)∧H b=some (.lst ys))(hs:∀i u v p σ H,xs[i]?=some u→ys[i]?=some v→H p=none→Pv i σ H→g (.ref p) σ (upd H p (.tup [u,v])) fun σ2 H2=>tb {D with nx:=Pv (i+1),ct:=Pv (i+1),bk:=D.nx} σ2 H2)(hd:∀σ H,Pv (min xs.length ys.length) σ H→D.nx σ H):
 ∃ W:Nat→Nat→St→Hp→Prop,(∃m,W 0 m σ H)∧∀i m σ H,W i m σ H→
   ((cK a b).stop i H∧D.nx σ H)∨((cK a b).go i H∧∃N:St→Hp→Prop,(∀σ' H',N σ' H'→∃m',m'<m∧W (i+1) m' σ' H')∧∀x H',(cK a b).yld i H x H'→g x σ H' fun σ2 H2=>tb {D with nx:=N,ct:=N,bk:=D.nx} σ2 H2):=by
 refine⟨fun i m σ H=>m=min xs.length ys.length-i∧i≤min xs.length ys.length∧Pv i σ H,⟨min xs.length ys.length,by simp,Nat.zero_le _,h0⟩,?_⟩
 rintro i m σ H ⟨rfl,hi,p⟩
 obtain⟨qa,qb⟩:=hl i σ H hi p
 by_cases hlt:i<min xs.length ys.length
 ·refine .inr ⟨⟨xs,ys,qa,qb,by lia,by lia⟩,Pv (i+1),fun σ' H' p'=>⟨min xs.length ys.length-(i+1),by lia,rfl,hlt,p'⟩,fun x H' y=>?_⟩
  obtain⟨xs',ys',u,v,q,ea,eb,eu,ev,hq,e1,e2⟩:=y
  rw[qa] at ea
  rw[qb] at eb
  have e3:xs=xs':=HO.lst.inj (Option.some.inj ea)
  have e4:ys=ys':=HO.lst.inj (Option.some.inj eb)
  subst e3 e4 e1 e2
  exact hs i u v q σ H eu ev hq p
 ·have e:i=min xs.length ys.length:=by lia
  subst e
  exact .inl ⟨⟨xs,ys,qa,qb,by lia⟩,hd σ H p⟩
theorem mQ{n:Nat}(h:n≤5000):n<sizeLine:=Nat.lt_of_le_of_lt h (by decide)
section
variable{X:Cx}{e e2:Expr}{te te2:TE}{p p2 pos:Pos}
def qz(te te2:TE):TE:=fun σ H Q=>te σ H fun x H1=>te2 σ H1 fun y H2=>∃i j,x=.int i∧y=.int j∧Q (.int (if j<i then j else i)) H2
theorem iJ(hc:X.calm=true)(hm:X.mg "min"=none)(ha:PE X e te)(hb:PE X e2 te2)(hg:Gl X "min":=by rfl)(he:starEach [e,e2] X.env=[(false,eval e X.env),(false,eval e2 X.env)]:=by rfl)(he2:starEach [e2] X.env=[(false,eval e2 X.env)]:=by rfl):PE X (.Call (.Name "min" p) [e,e2] [] pos) (qz te te2):=
 cI (r:=eK fun x y H Q=>∃i j,x=.int i∧y=.int j∧Q (.int (if j<i then j else i)) H) (fO fun pins s σ H x y us Q I rv ⟨i,j,ex,ey,q⟩=>sE hc pins s σ H _ us Q I rv ⟨i,j,by rw[ex,ey],q⟩) hg hm nO (aa ha (aa hb ac (by exact he2)) (by rw[he,he2])) (he:=by rw[he,he2]) (hpl:=by rw[he2];rfl)
end
theorem mD{ns:List Int}:∀j,j≤ns.length→preSum (fun i=>ns.getD i 0) j=(ns.take j).sum
 | 0,_=>by simp[preSum]
 | j+1,h=>by
   rw[show preSum (fun i=>ns.getD i 0) (j+1)=preSum (fun i=>ns.getD i 0) j+ns.getD j 0 from rfl,mD j (by lia),List.take_succ]
   have:ns[j]?=some (ns.getD j 0):=by
    rw[List.getD_eq_getElem?_getD]
    cases q:ns[j]? with
    | none=>rw[List.getElem?_eq_none_iff] at q;lia
    | some v=>rfl
   rw[this,List.sum_append];simp
section
variable{X:Cx}
variable{e:Expr}{te:TE}{p pos:Pos}
def qU(K:PySem.W.Frag)(te:TE):TE:=fun σ H Q=>te σ H fun x H1=>∃a ys,x=.ref a∧SqT K H1 a ys∧∀l,H1 l=none→Q (.ref l) (upd H1 l (.lst ys))
theorem nY(hm:X.mg "list"=none)(ha:PE X e te)(hg:Gl X "list":=by rfl)(he:starEach [e] X.env=[(false,eval e X.env)]:=by rfl):PE X (.Call (.Name "list" p) [e] [] pos) (qU X.K te):=
 fF (r:=r1 fun x H Q=>∃a ys,x=.ref a∧SqT X.K H a ys∧∀l,H l=none→Q (.ref l) (upd H l (.lst ys))) (cF fun pins s σ H x us Q I rv ⟨a,ys,ex,h,q⟩=>mW pins s σ H _ us Q I rv ⟨a,ys,by rw[ex],.inr h,q⟩) hg hm jR (aa ha ac (by exact he)) (he:=by exact he)
end
theorem nq:∀{xs:List V} {us:List Value},xs.length=us.length→(∀(i:Nat) (x:V) (u:Value),xs[i]?=some x→us[i]?=some u→RelV x u)→Vals xs us
 | [],[],_,_=>.nil
 | [],_::_,h,_=>by simp at h
 | _::_,[],h,_=>by simp at h
 | x::xs,u::us,h,g=>.cons (g 0 x u rfl rfl) (nq (by simpa using h) fun i x' u' a b=>g (i+1) x' u' (by simpa using a) (by simpa using b))
section
variable{X:Cx}{e:Expr}{te:TE}{p pos:Pos}
theorem rj(hc:X.calm=true):bQ X (.type "list") (fun xs H Q=>∃z:Str,xs=[.str z]∧z.length≤sizeLine∧∀l,H l=none→Q (.ref l) (upd H l (.lst (z.cps.toList.map sg)))):=by
 intro pins s σ H xs us Q I r h
 obtain⟨z,rfl,hz,q⟩:=h
 obtain⟨u,rfl,rx⟩:=cV r
 obtain⟨t,rfl⟩:=rx
 refine call_list_str (hn:=hz) (I.ok.hd hc) z t fun h' tk acc c k hl hit=>?_
 refine⟨.ref _,_,I.laid (t':=tk) (o:=.lst (z.cps.toList.map sg)) k (Nat.le_refl _) ?_,rfl,q _ (I.hok.fresh (Nat.le_refl _))⟩
 obtain⟨hsz,hat⟩:=hit
 refine⟨by rw[List.length_map];simpa [Str.length] using hz,acc.toList,c,?_,by simpa using hl⟩
 refine nq (by rw[List.length_map];simp[hsz]) fun i x u hx hu=>?_
 have hu':acc[i]?=some u:=by simpa using hu
 obtain⟨c',t',h1,rfl⟩:=hat i u hu'
 rw[List.getElem?_map] at hx
 have:z.cps.toList[i]?=some c':=by simpa using h1
 rw[this] at hx
 have e:sg c'=x:=Option.some.inj hx
 subst e
 exact⟨t',rfl⟩
def tZ(te:TE):TE:=fun σ H Q=>te σ H fun x H1=>∃z:Str,x=.str z∧z.length≤sizeLine∧∀l,H1 l=none→Q (.ref l) (upd H1 l (.lst (z.cps.toList.map sg)))
theorem ny(hc:X.calm=true)(hm:X.mg "list"=none)(ha:PE X e te)(hg:Gl X "list":=by rfl)(he:starEach [e] X.env=[(false,eval e X.env)]:=by rfl):PE X (.Call (.Name "list" p) [e] [] pos) (tZ te):=
 fF (r:=r1 fun x H Q=>∃z:Str,x=.str z∧z.length≤sizeLine∧∀l,H l=none→Q (.ref l) (upd H l (.lst (z.cps.toList.map sg)))) (cF fun pins s σ H x us Q I rv ⟨z,ex,h,q⟩=>rj hc pins s σ H _ us Q I rv ⟨z,by rw[ex],h,q⟩) hg hm jR (aa ha ac (by exact he)) (he:=by exact he)
end
def hU(outer sc:Scope)(xs:List Str)(M N:List Str):Bool:=
 decide (sc.kind=.function) && sc.names.all (fun y=>decide (y.2≠ .cell)) && sc.names.all (fun y=>decide (y.2=.local→sc.names.lookup y.1=some .local)) && xs.all (fun x=>decide (sc.names.lookup x=some .local)) &&
 sc.names.all (fun y=>decide (y.2=.free→(outer.names.lookup y.1=some .cell∨outer.names.lookup y.1=some .free))) &&
 decide ((M++xs).Nodup) && decide (M.length=N.length) && (M.zip N).all (fun p=>decide (p.1=p.2∨sc.names.lookup p.1=none)) && M.all (fun y=>decide (sc.names.lookup y≠some .local))
structure CompOK2(outer sc:Scope)(xs:List Str)(M N:List Str):Prop where
 kind:sc.kind=.function
 nocell:∀y∈sc.names,y.2≠ .cell
 loc:∀y∈sc.names,y.2=.local→sc.names.lookup y.1=some .local
 own:∀x∈xs,sc.names.lookup x=some .local
 free:∀y∈sc.names,y.2=.free→(outer.names.lookup y.1=some .cell∨outer.names.lookup y.1=some .free)
 nd:(M++xs).Nodup
 len:M.length=N.length
 same:∀p∈M.zip N,p.1=p.2∨sc.names.lookup p.1=none
 noloc:∀y∈M,sc.names.lookup y≠some .local
theorem uH{outer sc:Scope}{xs M N:List Str}(h:hU outer sc xs M N=true):CompOK2 outer sc xs M N:=by
 unfold hU at h
 simp only[Bool.and_eq_true,decide_eq_true_eq,List.all_eq_true] at h
 obtain⟨⟨⟨⟨⟨⟨⟨⟨h1,h2⟩,h3⟩,h4⟩,h5⟩,h6⟩,h7⟩,h8⟩,h9⟩:=h
 exact⟨h1,h2,h3,h4,h5,h6,h7,h8,h9⟩
section
variable{X:Cx}{pins:List (Addr×Obj)}{σ:St}{H2:Hp}{s2:Shared}{scope:Scope}{xs M:List Str}{cl:List (Str×Addr)}{fp:List Addr}{h1:Heap}{t':Nat}
theorem Inv.comp2(I:Inv X pins σ H2 s2)(K:CompOK2 X.env.scope scope xs M X.N)(hcl:∀y c,cl.lookup y=some c→X.env.cells.lookup y=some c)(hcf:∀y,(y,NameKind.free)∈scope.names→∃c,cl.lookup y=some c)(hfp:∀b∈fp,bL X pins H2 b)(hlt:∀b∈fp,b<s2.heap.objs.size)(kp:∀b o,s2.heap.get? b=some o→h1.get? b=some o)(hD:h1.get? s2.heap.objs.size=some {cls:=.type "list",dict:=none,data:=.seq ([]:List Value).toArray})(hC:h1.Ns (s2.heap.objs.size+1) (fun _=>none)):
 Inv (X.comp (M++xs) scope ⟨cl,s2.heap.objs.size+1,s2,H2,fp⟩) [] (σ++List.replicate xs.length none) (upd H2 s2.heap.objs.size (.lst [])) {s2 with heap:=h1,toks:=t'}:=by
 have cellLt:∀y c,cl.lookup y=some c→c<s2.heap.objs.size:=fun y c e=>by
  obtain⟨v,z⟩:=I.cell y c (hcl y c e)
  exact z.lt
 have kindEq:∀y k',(compEnvC scope cl (s2.heap.objs.size+1) X.env).kindOf y=some k'→∃k,scope.names.lookup y=some k∧(k'=k∨(k=.free∧k'=.cell)):=fun y k' e=>jV e
 have freeOf:∀y k',(compEnvC scope cl (s2.heap.objs.size+1) X.env).kindOf y=some k'→(k'=.cell∨k'=.free)→(y,NameKind.free)∈scope.names:=fun y k' e hk=>by
  obtain⟨k,e1,e2⟩:=kindEq y k' e
  have mem:=PySem.mem_of_lookup e1
  have:k=.free:=by
   rcases e2 with rfl | ⟨rfl,_⟩
   ·rcases hk with rfl | rfl
    ·exact absurd rfl (K.nocell _ mem)
    ·rfl
   ·rfl
  subst this
  exact mem
 have hDn:H2 s2.heap.objs.size=none:=I.hok.fresh (Nat.le_refl _)
 refine⟨⟨I.ok.mod,K.kind,I.ok.glob,I.ok.blt,Nat.le_succ _,fun y z c e1 e2=>I.ok.inj y z c (hcl y c e1) (hcl z c e2),fun y hy=>?_,fun y c hf _=>?_,I.ok.hd,I.ok.frames,.inl rfl,fun b hb=>⟨Nat.ne_of_lt (Nat.lt_succ_of_lt (hlt b hb)),fun y c e=>(hfp b hb).2.2.2.2.1 y c (hcl y c e)⟩,
  fun b o e=>I.bs b o e,Nat.le_trans I.ok.bsz I.sz,fun b o e hb=>?_,fun b hb hf=>?_,I.stack,I.stkFree⟩,rfl,I.bare,Un.laid kp (Nat.le_refl _) hDn,⟨_,hC,fun i y v e1 e2 e3=>?_⟩,fun y c e=>?_,?_,fun y c e=>?_,fun p hp=>absurd (show p∈([]:List (Addr×Obj)) from hp) (by simp),I.hok.laid kp (Nat.le_refl _) ?_,?_⟩
 ·rcases hy with hy | hy
  ·exact hcf y (freeOf y _ hy (.inl rfl))
  ·exact hcf y (freeOf y _ hy (.inr rfl))
 ·exact absurd (show false=true from hf) Bool.false_ne_true
 ·obtain⟨f0,f1,f2,f3,f4,f5⟩:=hfp b hb
  rcases f3 with z | z
  ·exact I.ok.noex b o e z
  ·exact absurd (Nat.lt_of_lt_of_le (Heap.lt_size (I.ok.bs b o e).1) z) (Nat.lt_irrefl _)
 ·obtain⟨f0,f1,f2,f3,f4,f5⟩:=hfp b hb
  rcases List.mem_cons.mp (I.stkSub b hf) with z | z
  ·exact f1 z
  ·exact f2 z
 ·
  have hi:i<σ.length:=by
   by_cases hi:i<σ.length
   ·exact hi
   ·have hz:(σ++List.replicate xs.length none)[i]?=some (some v):=e2
    rw[List.getElem?_append_right (by lia)] at hz
    rw[List.getElem?_replicate] at hz
    split at hz <;> cases hz
  have e2':σ[i]?=some (some v):=by
   have hz:(σ++List.replicate xs.length none)[i]?=some (some v):=e2
   rw[List.getElem?_append_left hi] at hz
   exact hz
  have hiM:i<M.length:=by rw[K.len,←I.len];exact hi
  have e1':M[i]?=some y:=by
   have hz:(M++xs)[i]?=some y:=e1
   rw[List.getElem?_append_left hiM] at hz
   exact hz
  have hyM:y∈M:=List.mem_of_getElem? e1'
  have e3':∃k',(compEnvC scope cl (s2.heap.objs.size+1) X.env).kindOf y=some k'∧(k'=.cell∨k'=.free):=by
   rcases e3 with z | z | z
   ·obtain⟨k,a,b⟩:=kindEq y _ z
    rcases b with b | ⟨_,b⟩
    ·subst b;exact absurd a (K.noloc y hyM)
    ·cases b
   ·exact⟨_,z,.inl rfl⟩
   ·exact⟨_,z,.inr rfl⟩
  obtain⟨k',ek,hk⟩:=e3'
  have mem:=freeOf y k' ek hk
  obtain⟨k0,a0,_⟩:=kindEq y k' ek
  have hiN:i<X.N.length:=by rw[←K.len];exact hiM
  have eN:X.N[i]?=some y:=by
   have hz:(M[i],X.N[i])∈M.zip X.N:=by
    rw[List.mem_iff_getElem?]
    exact⟨i,List.getElem?_zip_eq_some.mpr ⟨List.getElem?_eq_getElem hiM,List.getElem?_eq_getElem hiN⟩⟩
   have eM:M[i]=y:=by
    rw[List.getElem?_eq_getElem hiM] at e1'
    exact Option.some.inj e1'
   rcases K.same _ hz with q | q
   ·rw[List.getElem?_eq_getElem hiN]
    have q':M[i]=X.N[i]:=q
    rw[←q',eM]
   ·have q':scope.names.lookup M[i]=none:=q
    rw[eM,a0] at q'
    cases q'
  have hv:=K.free _ mem rfl
  obtain⟨m,hn,hl⟩:=I.loc
  obtain⟨u,r,l⟩:=hl i y v eN e2' (hv.elim (fun z=>.inr (.inl z)) (fun z=>.inr (.inr z)))
  refine⟨u,r,.inr ⟨?_,?_⟩⟩
  ·rcases hk with rfl | rfl
   ·exact .inl ek
   ·exact .inr ek
  ·obtain⟨c,ec⟩:=hcf y mem
   refine⟨c,ec,?_⟩
   rcases l with⟨z,_⟩ | ⟨_,c',ec',cc⟩
   ·have z':X.env.scope.names.lookup y=some .local:=z
    rcases hv with q | q <;> (rw[z'] at q;cases q)
   ·have:=(hcl y c ec).symm.trans ec'
    cases this
    obtain⟨o,ho,hd⟩:=cc
    exact⟨o,kp _ o ho,hd⟩
 ·obtain⟨v,o,ho,hd⟩:=I.cell y c (hcl y c e)
  exact⟨v,o,kp _ o ho,hd⟩
 ·show upd H2 s2.heap.objs.size (.lst []) (s2.heap.objs.size+1)=none
  rw[ao (Nat.succ_ne_self _)]
  exact I.hok.fresh (Nat.le_succ _)
 ·rw[ao (Nat.ne_of_lt (cellLt y c e))]
  exact I.freeC y c (hcl y c e)
 ·exact⟨Nat.zero_le _,[],_,.nil,hD⟩
 ·show(σ++List.replicate xs.length none).length=(M++xs).length
  simp[I.len,K.len]
end
def n8(k:Nat)(wi:TI)(g:CB→TG)(tc:CB→TT)(te:CB→TE):TE:=fun σ H Q=>wi σ H fun J H1=>∀D,H1 D=none→∀b:CB,∃W:Nat→Nat→List V→Hp→Prop,(∃m,W 0 m [] (upd H1 D (.lst [])))∧
 ∀ i m ys H,W i m ys H→(J.stop i H∧Q (.ref D) H)∨(J.go i H∧ys.length<sizeLine∧∃N:List V→Hp→Prop,(∀ys' H',N ys' H'→∃m',m'<m∧W (i+1) m' ys' H')∧∀x H',J.yld i H x H'→g b x (σ++List.replicate k none) H' fun σ2 H2=>(∀j,j<σ.length→σ2[j]?=σ[j]?)∧tc b σ2 H2 fun ok H3=>
   if ok=true then te b σ2 H3 fun v H4=>H4 D=some (.lst ys)∧N (ys++[v]) (upd H4 D (.lst (ys++[v]))) else N ys H3)
theorem sW{X:Cx}{iter elt tg:Expr}{ifs:List Expr}(xs:List Str){pos pos0:Pos}{scope:Scope}(M:List Str){wi:TI}{tc:CB→TT}{te:CB→TE}{g:CB→TG}{use:Option (Value→Sem Unit)}{R:Value→Shared→Prop}{pins:List (Addr×Obj)}{s:Shared}{σ:St}{H:Hp}{Q:VK}(I:Inv X pins σ H s)(h:n8 xs.length wi g tc te σ H Q)(hfin:∀(D C:Addr) (m:Str→Option Value) (s':Shared) (H':Hp),s'.heap.Ns C m→bL X pins H' C→(∀h',Heap.SameBut C s'.heap h'→Inv X pins σ H' {s' with heap:=h'})→Q (.ref D) H'→compPost (model X.prog X.w) X.A X.xe use R (.ref D) C (.ok .next) s')(hc:X.calm=true)(hi:PI X tg iter wi)(hg:∀b:CB,PG (X.comp (M++xs) scope b) tg (g b))(hif:∀b:CB,eh (X.comp (M++xs) scope b) ifs (tc b))(he:∀b:CB,PE (X.comp (M++xs) scope b) elt (te b))(ok:hU X.env.scope scope xs M X.N=true:=by kernel_rfl)
 (hs:∀x,foldedSetIterable iter X.env x=pure x:=by intro _;rfl):
 wpAny (model X.prog X.w) X.A (comprehension (.ListComp elt [⟨tg,iter,ifs,0⟩] scope pos) scope X.env pos0 (newList []) false (eval iter X.env) use) R X.xe s:=by
 have K:=uH ok
 obtain⟨cl,hclos,hcl,hcf⟩:=nF (env:=X.env) (scope:=scope) fun y hy hk=>I.ok.has y.1 (K.free y hy hk)
 refine wpAny_comprehension_free (use:=use) rfl hs hclos K.kind K.loc ?_
 refine am (hi pins s σ H _ I h) fun v s1 h1=>am h1 fun itv s2 h2=>?_
 obtain⟨it,fp,tn,J,H2,rfl,I2,T,st2,f2,hq⟩:=h2
 refine wpAny_newObj_type (wpAny_newFunctionEnv K.nocell (by intro y hy;simp at hy) (fun h₁ hns₁ hsb₁=>?_) K.kind)
 dsimp only at hns₁ hsb₁ ⊢
 have hsize:(s2.heap.push {cls:=.type "list",dict:=none,data:=.seq ([]:List Value).toArray}).objs.size=s2.heap.objs.size+1:=Heap.size_push ..
 rw[hsize] at hns₁ hsb₁
 have ltD:s2.heap.objs.size≠s2.heap.objs.size+1:=Nat.ne_of_lt (Nat.lt_succ_self _)
 have kp:∀b o,s2.heap.get? b=some o→h₁.get? b=some o:=fun b o e=>hsb₁.extBut b o (Nat.ne_of_lt (Nat.lt_succ_of_lt (Heap.lt_size e))) (Heap.get?_push_of_some _ (Heap.get?_push_of_some _ e))
 have hD:h₁.get? s2.heap.objs.size=some {cls:=.type "list",dict:=none,data:=.seq ([]:List Value).toArray}:=hsb₁.extBut _ _ ltD (Heap.get?_push_of_some _ (Heap.get?_push_size _ rfl))
 have hlt:∀b∈fp,b<s2.heap.objs.size:=fun b hb=>let ⟨o,e,_⟩:=T.obj _ _ st2 b hb;Heap.lt_size e
 have I3:=I2.comp2 (t':=s2.toks+([]:List (Str×Value)).length) K hcl hcf f2 hlt kp hD hns₁
 obtain⟨W,⟨m0,w0⟩,step⟩:=hq s2.heap.objs.size (I2.hok.fresh (Nat.le_refl _)) ⟨cl,s2.heap.objs.size+1,s2,H2,fp⟩
 have st3:tn 0 h₁:=T.keep _ _ _ st2 fun b _ o e=>kp b o e
 have fr3:∀b∈fp,(upd H2 s2.heap.objs.size (.lst [])) b=none:=fun b hb=>by rw[ao (Nat.ne_of_lt (hlt b hb))];exact(f2 b hb).1
 have fin:∀(s':Shared) (σ':St) (H':Hp),Inv (X.comp (M++xs) scope ⟨cl,s2.heap.objs.size+1,s2,H2,fp⟩) [] σ' H' s'→Q (.ref s2.heap.objs.size) H'→
  compPost (model X.prog X.w) X.A X.xe use R (.ref s2.heap.objs.size) (s2.heap.objs.size+1) (.ok .next) s':=fun s' σ' H' J' q=>by
  obtain⟨m,hn,_⟩:=id J'.loc
  have hC:H' (s2.heap.objs.size+1)=none:=J'.free
  refine hfin _ _ m s' H' hn (I2.fpOk (Nat.le_succ _) hC) (fun h' sb=>?_) q
  exact I2.call' (ch:=fp) (show s'.os=s2.os from J'.os) (SameBut.unC J'.base sb (Nat.le_succ _)) (SameBut.hokC J'.hok sb hC) J'.bare fun b hb=>by
   obtain⟨f0,f1,f2',f3,f4,f5⟩:=f2 b hb
   exact⟨f3,f1,f4,f5⟩
 have stat:∀{H':Hp},(∀b∈fp,H' b=none)→∀b∈fp,bL (X.comp (M++xs) scope ⟨cl,s2.heap.objs.size+1,s2,H2,fp⟩) [] H' b:=fun hn b hb=>by
  obtain⟨f0,f1,f2',f3,f4,f5⟩:=f2 b hb
  refine⟨hn b hb,Nat.ne_of_lt (Nat.lt_succ_of_lt (hlt b hb)),fun z=>?_,.inl hb,fun y c e=>f4 y c (hcl y c e),fun p hp=>absurd (show p∈([]:List (Addr×Obj)) from hp) (by simp)⟩
  rcases List.mem_cons.mp (I2.stkSub b z) with z | z
  ·exact f1 z
  ·exact f2' z
 have len3:σ.length=M.length:=by rw[I.len,K.len]
 have loop:codeAny (model X.prog X.w) X.A (.compLoop (.ListComp elt [⟨tg,iter,ifs,0⟩] scope pos) 0 (.ref it) (.ref s2.heap.objs.size) (compEnvC scope cl (s2.heap.objs.size+1) X.env))
  (compPost (model X.prog X.w) X.A X.xe use R (.ref s2.heap.objs.size) (s2.heap.objs.size+1)) {s2 with heap:=h₁,toks:=s2.toks+([]:List (Str×Value)).length}:=by
  refine lg (fun n s'=>∃i ys H',Inv (X.comp (M++xs) scope ⟨cl,s2.heap.objs.size+1,s2,H2,fp⟩) [] (σ++List.replicate xs.length none) H' s'∧tn i s'.heap∧(∀b∈fp,H' b=none)∧W i n ys H') ?_ m0 ⟨0,[],_,I3,st3,fr3,w0⟩
  rintro n s4 ⟨i,ys,H4,I4,st4,fr4,w4⟩
  rcases step i n ys H4 w4 with⟨stop,q⟩ | ⟨go,hz,N,hN,st⟩
  ·refine wpAny_mono (T.done (X.comp (M++xs) scope ⟨cl,s2.heap.objs.size+1,s2,H2,fp⟩) rfl rfl rfl hc i [] s4 _ H4 (fun _ _=>False) I4 (stat fr4) st4 stop) (fun r s5 ⟨hr,I5⟩=>?_) fun _ _ z=>z
   subst hr
   exact fin s5 _ H4 I5 q
  ·refine wpAny_mono (T.item (X.comp (M++xs) scope ⟨cl,s2.heap.objs.size+1,s2,H2,fp⟩) rfl rfl rfl hc i [] s4 _ H4 (fun _ _=>False) I4 (stat fr4) st4 go) (fun r s5 ⟨u,hr,h5⟩=>?_) fun _ _ z=>z
   subst hr
   refine wpAny_mono h5 (fun _ s6 ⟨xv,H6,I6,r6,y6,st6,fr6⟩=>?_) fun _ _ z=>z
   have I6':=I6.pinned (stat fr6) (T.obj _ _ st6)
   refine wpAny_mono (hg ⟨cl,s2.heap.objs.size+1,s2,H2,fp⟩ _ s6 _ H6 xv u _ I6' r6 (st xv _ y6)) (fun _ s7 ⟨σ7,H7,I7,ag,q7⟩=>?_) fun _ _ z=>z
   have again:∀{ys':List V} {H8:Hp} {s8:Shared} {m:Nat},Inv (X.comp (M++xs) scope ⟨cl,s2.heap.objs.size+1,s2,H2,fp⟩) ([]++eG fp s6.heap) σ7 H8 s8→m<n→W (i+1) m ys' H8→
    ∃m,m<n∧∃i ys H',Inv (X.comp (M++xs) scope ⟨cl,s2.heap.objs.size+1,s2,H2,fp⟩) [] (σ++List.replicate xs.length none) H' s8∧tn i s8.heap∧(∀b∈fp,H' b=none)∧W i m ys H':=fun{ys' H8 s8 m} I8 hm w8=>by
    refine⟨m,hm,i+1,ys',H8,(I8.unpinned).weak (by rw[List.length_append,List.length_replicate,I8.len];show _=(M++xs).length;rw[List.length_append,len3]) (fun j v e=>?_),T.keep _ _ _ st6 fun b hb o e=>(I8.pin (b,o) (List.mem_append_right _ (List.mem_append_right _ (eR hb e)))).1,fun b hb=>?_,w8⟩
    ·by_cases hj:j<σ.length
     ·rw[List.getElem?_append_left hj] at e
      rw[ag j hj];exact e
     ·rw[List.getElem?_append_right (by lia),List.getElem?_replicate] at e
      split at e <;> cases e
    ·obtain⟨o,e,d⟩:=T.obj _ _ st6 b hb
     exact(I8.pin (b,o) (List.mem_append_right _ (List.mem_append_right _ (eR hb e)))).2.1
   refine wpAny_mono (hif ⟨cl,s2.heap.objs.size+1,s2,H2,fp⟩ _ s7 _ _ _ I7 q7) (fun ok s8 ⟨H8,I8,q8⟩=>?_) fun _ _ z=>z
   cases ok with
   | false=>
     rw[if_neg Bool.false_ne_true] at q8
     obtain⟨m,hm,w8⟩:=hN _ _ q8
     exact again I8 hm w8
   | true=>
     rw[if_pos rfl] at q8
     refine wpAny_mono (he ⟨cl,s2.heap.objs.size+1,s2,H2,fp⟩ _ s8 _ H8 _ I8 q8) (fun xu s9 ⟨v9,H9,I9,r9,hD9,n9⟩=>?_) fun _ _ z=>z
     obtain⟨m,hm,w9⟩:=hN _ _ n9
     exact wpAny_mono (oj (X:=X.comp (M++xs) scope ⟨cl,s2.heap.objs.size+1,s2,H2,fp⟩) I9 hD9 hz r9) (fun _ s10 I10=>again I10 hm w9) fun _ _ z=>z
 rw[hsize]
 exact codeAny_compStart_list loop (T.self X.A 0 _ _ _ st3 loop)
theorem iV{X:Cx}{iter elt tg:Expr}{ifs:List Expr}(xs:List Str){pos:Pos}{scope:Scope}(M:List Str){wi:TI}{tc:CB→TT}{te:CB→TE}{g:CB→TG}(hc:X.calm=true)(hi:PI X tg iter wi)(hg:∀b:CB,PG (X.comp (M++xs) scope b) tg (g b))(hif:∀b:CB,eh (X.comp (M++xs) scope b) ifs (tc b))(he:∀b:CB,PE (X.comp (M++xs) scope b) elt (te b))(ok:hU X.env.scope scope xs M X.N=true:=by kernel_rfl)
 (hs:∀x,foldedSetIterable iter X.env x=pure x:=by intro _;rfl):
 PE X (.ListComp elt [⟨tg,iter,ifs,0⟩] scope pos) (n8 xs.length wi g tc te):=by
 intro pins s σ H Q I h
 rw[eval_ListComp]
 exact sW xs M (use:=none) (R:=EP X pins σ Q) I h (fun D C m s' H' hn _ hI q=>⟨m,hn,fun h' sb=>⟨.ref D,H',hI h' sb,rfl,q⟩⟩) hc hi hg hif he ok hs
inductive TyB (H:Hp):V→Value→Prop where
 | non:TyB H .non (.type "NoneType")
 | bl (x:Bool):TyB H (.bl x) (.type "bool")
 | int (i:Int):TyB H (.int i) (.type "int")
 | str (x:Str):TyB H (.str x) (.type "str")
 | lst {a:Addr} {xs:List V} (e:H a=some (.lst xs)):TyB H (.ref a) (.type "list")
 | tup {a:Addr} {xs:List V} (e:H a=some (.tup xs)):TyB H (.ref a) (.type "tuple")
section
variable{X:Cx}{e:Expr}{te:TE}{p pos:Pos}
end
theorem mx{a b:Addr}{xs ys:List V}{k:Nat}{g:TG}{tc:TT}{te:TE}{σ:St}{H1:Hp}{Q:Hp→Prop}{D:Addr}(Pv:Nat→List V→Hp→Prop)(hn:xs.length<sizeLine)(h0:Pv 0 [] (upd H1 D (.lst [])))(hl:∀i ys' H,Pv i ys' H→ys'.length≤i)(hq:∀i ys' H,i≤min xs.length ys.length→Pv i ys' H→H a=some (.lst xs)∧H b=some (.lst ys))(hs:∀i u v p ys' H,xs[i]?=some u→ys[i]?=some v→H p=none→Pv i ys' H→g (.ref p) (σ++List.replicate k none) (upd H p (.tup [u,v])) fun σ2 H2=>(∀j,j<σ.length→σ2[j]?=σ[j]?)∧tc σ2 H2 fun ok H3=>if ok=true then te σ2 H3 fun v H4=>H4 D=some (.lst ys')∧Pv (i+1) (ys'++[v]) (upd H4 D (.lst (ys'++[v]))) else Pv (i+1) ys' H3)
 (hd:∀ys' H,Pv (min xs.length ys.length) ys' H→Q H):
 ∃ W:Nat→Nat→List V→Hp→Prop,(∃m,W 0 m [] (upd H1 D (.lst [])))∧
   ∀ i m ys' H,W i m ys' H→((cK a b).stop i H∧Q H)∨((cK a b).go i H∧ys'.length<sizeLine∧∃N:List V→Hp→Prop,(∀ys'' H',N ys'' H'→∃m',m'<m∧W (i+1) m' ys'' H')∧∀x H',(cK a b).yld i H x H'→g x (σ++List.replicate k none) H' fun σ2 H2=>(∀j,j<σ.length→σ2[j]?=σ[j]?)∧tc σ2 H2 fun ok H3=>
     if ok=true then te σ2 H3 fun v H4=>H4 D=some (.lst ys')∧N (ys'++[v]) (upd H4 D (.lst (ys'++[v]))) else N ys' H3):=by
 refine⟨fun i m ys' H=>m=min xs.length ys.length-i∧i≤min xs.length ys.length∧Pv i ys' H,⟨min xs.length ys.length,by simp,Nat.zero_le _,h0⟩,?_⟩
 rintro i m ys' H ⟨rfl,hi,p⟩
 obtain⟨qa,qb⟩:=hq i ys' H hi p
 by_cases hlt:i<min xs.length ys.length
 ·refine .inr ⟨⟨xs,ys,qa,qb,by lia,by lia⟩,by have:=hl i ys' H p;lia,Pv (i+1),fun ys'' H' p'=>⟨min xs.length ys.length-(i+1),by lia,rfl,hlt,p'⟩,fun x H' y=>?_⟩
  obtain⟨xs',ys2,u,v,q,ea,eb,eu,ev,hq',e1,e2⟩:=y
  rw[qa] at ea
  rw[qb] at eb
  have e3:xs=xs':=HO.lst.inj (Option.some.inj ea)
  have e4:ys=ys2:=HO.lst.inj (Option.some.inj eb)
  subst e3 e4 e1 e2
  exact hs i u v q ys' H eu ev hq' p
 ·have e:i=min xs.length ys.length:=by lia
  subst e
  exact .inl ⟨⟨xs,ys,qa,qb,by lia⟩,hd ys' H p⟩
def aS(P:Program)(w:World):bg:=fun outer H s E e s'=>
 ∃ (a:Addr) (cls a0:Value) (B:Heap) (H':Hp),e=.ref a∧s'.os=s.os∧AllBare s'.gens∧Un (aQ outer) [] H H' s.heap s'.heap∧HOk P w H' s'.heap∧H' a=none∧s.heap.get? a=none∧
   Heap.FlyingW B outer a cls a0 s'.heap∧(∀b o,s'.heap.get? b=some o→b∉aQ outer→(s.heap.get? b≠none∨H' b≠none)→B.get? b=some o)∧E cls none H'
theorem oa{h h' base base':Heap}:∀{l:List Env},(∀L∈aQ l,base'.get? L=none∧∀o,h.get? L=some o→(∀vs,o.data≠ .fields vs)→∃o',h'.get? L=some o'∧o'.data=o.data)→h.FunFrames base l→h'.FunFrames base' l
 | [],_,_=>trivial
 | env::r,k,⟨h1,⟨L,o,h2,h3,h4,h5⟩,h6⟩=>by
   have hL:L∈aQ (env::r):=List.mem_filterMap.mpr ⟨env,List.mem_cons_self,h2⟩
   obtain⟨k1,k2⟩:=k L hL
   obtain⟨o',e1,e2⟩:=k2 o h4 h5
   refine⟨h1,⟨L,o',h2,k1,e1,fun vs=>by rw[e2];exact h5 vs⟩,oa (fun L' hL'=>k L' ?_) h6⟩
   obtain⟨en,e3,e4⟩:=List.mem_filterMap.mp hL'
   exact List.mem_filterMap.mpr ⟨en,List.mem_cons_of_mem _ e3,e4⟩
theorem gD{h base:Heap}:∀{l:List Env},h.FunFrames base l→∀L∈aQ l,∃o,h.get? L=some o∧∀vs,o.data≠ .fields vs
 | [],_,L,hL=>by cases hL
 | env::r,⟨h1,⟨L',o,h2,h3,h4,h5⟩,h6⟩,L,hL=>by
   obtain⟨en,e3,e4⟩:=List.mem_filterMap.mp hL
   rcases List.mem_cons.mp e3 with z | z
   ·subst z
    have:L=L':=Option.some.inj (e4.symm.trans h2)
    subst this
    exact⟨o,h4,h5⟩
   ·exact gD h6 L (List.mem_filterMap.mpr ⟨en,z,e4⟩)
theorem ObjOk.isAt{P:Program}{w:World}{H:Hp}{h:Heap}{a:Addr}{o:HO}(x:ObjOk P w H h a o):∃ob,h.get? a=some ob:=by
 cases o with
 | lst xs=>obtain⟨_,_,_,_,q⟩:=x;exact⟨_,q⟩
 | tup xs=>obtain⟨_,_,_,ob,q,_⟩:=x;exact⟨_,q⟩
 | dK kvs=>obtain⟨_,_,_,_,ob,_,_,q,_⟩:=x;exact⟨_,q⟩
 | dT kvs=>obtain⟨_,_,_,_,ob,_,_,q,_⟩:=x;exact⟨_,q⟩
 | set S n=>obtain⟨ob,_,_,_,q,_⟩:=x;exact⟨_,q⟩
 | ins C dx fs=>obtain⟨_,_,_,q,_⟩:=x;exact⟨_,q⟩
 | own y=>obtain⟨_,q⟩:=x;exact⟨_,q⟩
 | xd fs=>obtain⟨_,⟨_,_,_,q,_⟩,_⟩:=x;exact⟨_,q⟩
 | rng lo hi=>obtain⟨_,_,_,q⟩:=x;exact⟨_,q⟩
 | frz ob u=>obtain⟨q,_⟩:=x;exact⟨_,q⟩
 | tbl ps=>exact⟨_,(show h.get? a=some _ from x)⟩
 | met f y=>exact⟨_,(show h.get? a=some _ from x)⟩
 | ext φ=>obtain⟨_,⟨_,q⟩,_⟩:=x;exact⟨_,q⟩
theorem lM{P:Program}{w:World}{H:Hp}{h:Heap}(x:HOk P w H h){a:Addr}(e:h.get? a=none):H a=none:=by
 cases q:H a with
 | none=>rfl
 | some o=>
   obtain⟨ob,q'⟩:=(x a o q).isAt
   rw[e] at q';cases q'
section
variable{X:Cx}{pins:List (Addr×Obj)}{σ:St}{H1:Hp}{s1:Shared}
theorem Inv.fsAt(I:Inv X pins σ H1 s1):∀L∈X.fs,∃o,s1.heap.get? L=some o∧(∀vs,o.data≠ .fields vs)∧H1 L=none∧X.base.get? L=none:=fun L hL=>by
 obtain⟨o,h1,h2⟩:=gD I.ok.funs L hL
 have hx:L∉X.ex:=fun z=>I.ok.exfs L z hL
 obtain⟨sl,e⟩:=I.base.slot L o h1 (I.ok.frf L hL) hL hx
 exact⟨_,e,h2,I.base.free L o h1 (I.ok.frf L hL) hx,(I.ok.funs.mem hL).1⟩
theorem tS{A:Around}{outer:List Env}{s:Shared}{H:Hp}{E:XK}{env:Env}{P:Program}{w:World}{e:Addr}{cls:Value}{args:List Value}{h2:Heap}{tk:Nat}(hX:X.A=A.deeper env∧X.env=env∧X.stack=env::outer∧X.outer=outer∧X.s₀=s∧X.H₀=H∧X.ex=[]∧X.prog=P∧X.w=w)(hfr:env.frame=some env.locals)(I:Inv X pins σ H1 s1)(hx:Heap.MadeExcOf s1.heap h2 e cls args)(hE:E cls none H1):wpAny (model P w) (A.deeper env) (leaving env (.ref e)) (fun _ s''=>aS P w outer H s E (.ref e) s'') (fun e' s''=>aS P w outer H s E e' s'') {s1 with heap:=h2,toks:=tk}:=by
 obtain⟨xA,xe,xs,xo,x0,xH,xx,xP,xw⟩:=hX
 subst xe xP xw x0 xH xo
 have hlt:=I.lt
 have hL:∀L∈aQ (X.env::X.outer),∃o,s1.heap.get? L=some o∧(∀vs,o.data≠ .fields vs)∧H1 L=none:=fun L hm=>by
  obtain⟨en,e3,e4⟩:=List.mem_filterMap.mp hm
  rcases List.mem_cons.mp e3 with z | z
  ·subst z
   have:L=X.env.locals:=Option.some.inj (e4.symm.trans hfr)
   subst this
   obtain⟨m,hn,_⟩:=I.loc
   obtain⟨o,es,ep,ho,hd,_⟩:=id hn
   exact⟨o,ho,(fun vs q=>by rw[hd] at q;cases q),I.free⟩
  ·obtain⟨o,h1,h2,h3,_⟩:=I.fsAt L (List.mem_filterMap.mpr ⟨en,z,e4⟩)
   exact⟨o,h1,h2,h3⟩
 have du:∀b u,H1 b=some u→b∉aQ (X.env::X.outer):=fun b u e hm=>by
  obtain⟨_,_,_,h3⟩:=hL b hm
  rw[h3] at e;cases e
 have old:∀b o,X.s₀.heap.get? b=some o→b≠X.env.locals:=fun b o q z=>by
  have:=Nat.lt_of_lt_of_le (Heap.lt_size q) I.ok.above
  rw[z] at this;exact absurd this (Nat.lt_irrefl _)
 have nin:∀b,b≠X.env.locals→b∉aQ X.outer→b∉aQ (X.env::X.outer):=fun b h1 h2 hm=>by
  obtain⟨en,e3,e4⟩:=List.mem_filterMap.mp hm
  rcases List.mem_cons.mp e3 with z | z
  ·subst z
   exact h1 (Option.some.inj (e4.symm.trans hfr))
  ·exact h2 (List.mem_filterMap.mpr ⟨en,z,e4⟩)
 refine wpAny_leaves_madeW (base:=PySem.W.hideAll s1.heap (aQ (X.env::X.outer))) (h:=s1.heap) (by rw[←xA,I.ok.frames,xs]) hfr (fun b o q=>PySem.W.of_hideAll _ q) ?_ hx fun h' t f1 f2 f3 f4=>?_
 ·have F:s1.heap.FunFrames X.base X.outer:=I.funs
  have F':s1.heap.FunFrames (PySem.W.hideAll s1.heap (aQ (X.env::X.outer))) X.outer:=oa (fun L hm=>⟨PySem.W.hideAll_none _ (by
   obtain⟨en,e3,e4⟩:=List.mem_filterMap.mp hm
   exact List.mem_filterMap.mpr ⟨en,List.mem_cons_of_mem _ e3,e4⟩),fun o q _=>⟨o,q,rfl⟩⟩) F
  obtain⟨o,ho,hd,_⟩:=hL X.env.locals (List.mem_filterMap.mpr ⟨X.env,List.mem_cons_self,hfr⟩)
  exact⟨by rw[I.ok.kind];decide,⟨X.env.locals,o,hfr,PySem.W.hideAll_none _ (List.mem_filterMap.mpr ⟨X.env,List.mem_cons_self,hfr⟩),ho,hd⟩,F'⟩
 ·have st:∀b o,s1.heap.get? b=some o→b∉aQ (X.env::X.outer)→h'.get? b=some o:=fun b o q n=>f1.1 b o (PySem.W.hideAll_get _ q n)
  have sl:∀b o,s1.heap.get? b=some o→(∀vs,o.data≠ .fields vs)→∃z,h'.get? b=some {o with slots:=z}:=fun b o q n=>f4 b o (hx.keeps b o q) n
  have isAt:∀b u,H1 b=some u→∃o,s1.heap.get? b=some o:=fun b u q=>by
   cases q':s1.heap.get? b with
   | some o=>exact⟨o,rfl⟩
   | none=>exact absurd q (by rw[lM I.hok q'];simp)
  have eNew:H1 e=none:=lM I.hok hx.new
  refine⟨e,cls,.ref t,PySem.W.hideAll s1.heap (aQ (X.env::X.outer)),H1,rfl,I.os,I.bare,⟨fun b o q n hb _=>?_,fun b o q n hb _=>?_,fun b o q n _=>I.base.free b o q n (by rw[xx];simp),fun b o q _=>?_,I.base.tups,I.base.frzs,I.base.tbls⟩,fun b u q=>?_,eNew,?_,f1,?_,hE⟩
  ·exact st b o (I.base.keep b o q n hb (by rw[xx];simp)) (nin b (old b o q) hb)
  ·obtain⟨z,q'⟩:=I.base.slot b o q n hb (by rw[xx];simp)
   obtain⟨o',q2,q3⟩:=gD I.ok.funs b hb
   rw[q] at q2;cases q2
   obtain⟨z',q4⟩:=sl b _ q' q3
   exact⟨z',q4⟩
  ·obtain⟨o',q'⟩:=I.base.there b o q (by rw[xx];simp)
   by_cases hb:b∈aQ X.outer
   ·obtain⟨o2,h1,h2,_⟩:=I.fsAt b hb
    obtain⟨z,q4⟩:=sl b o2 h1 h2
    exact⟨_,q4⟩
   ·exact⟨o',st b o' q' (nin b (old b o q) hb)⟩
  ·refine(I.hok b u q).stay (fun c v hc q'=>st c v q' ?_) (fun _ q'=>q') fun _ _ q'=>q'
   rcases hc with z | z
   ·rw[z];exact du b u q
   ·exact du c _ z
  ·cases q:X.s₀.heap.get? e with
   | none=>rfl
   | some o=>
     obtain⟨o',q'⟩:=I.base.there e o q (by rw[xx];simp)
     rw[hx.new] at q';cases q'
  ·intro b o q hb hor
   have ex:∃o1,s1.heap.get? b=some o1∧b∉aQ (X.env::X.outer):=by
    rcases hor with z | z
    ·cases q0:X.s₀.heap.get? b with
     | none=>exact absurd q0 z
     | some o0=>
       obtain⟨o1,q1⟩:=I.base.there b o0 q0 (by rw[xx];simp)
       exact⟨o1,q1,nin b (old b o0 q0) hb⟩
    ·cases q0:H1 b with
     | none=>exact absurd q0 z
     | some u=>
       obtain⟨o1,q1⟩:=isAt b u q0
       exact⟨o1,q1,du b u q0⟩
   obtain⟨o1,q1,nb⟩:=ex
   have:=st b o1 q1 nb
   rw[q] at this;cases this
   exact PySem.W.hideAll_get _ q1 nb
theorem uJ{A:Around}{outer:List Env}{s:Shared}{H:Hp}{E E':XK}{env:Env}{P:Program}{w:World}{e:Value}{s':Shared}(hX:X.A=A.deeper env∧X.env=env∧X.stack=env::outer∧X.outer=outer∧X.s₀=s∧X.H₀=H∧X.ex=[]∧X.prog=P∧X.w=w)(hfr:env.frame=some env.locals)(I:Inv X pins σ H1 s1)(hx:aS P w X.stack H1 s1 E' e s')(hE:∀cls H',E' cls none H'→E cls none H'):wpAny (model P w) (A.deeper env) (leaving env e) (fun _ s''=>aS P w outer H s E e s'') (fun e' s''=>aS P w outer H s E e' s'') s':=by
 obtain⟨xA,xe,xs,xo,x0,xH,xx,xP,xw⟩:=hX
 subst xe xP xw x0 xH xo
 rw[xs] at hx
 obtain⟨a,cls,a0,B,H',rfl,os,gb,un,hok,ha,hn,fl,hB,he⟩:=hx
 have hL0:X.env.locals∈aQ (X.env::X.outer):=List.mem_filterMap.mpr ⟨X.env,List.mem_cons_self,hfr⟩
 have sub:∀b,b∈aQ X.outer→b∈aQ (X.env::X.outer):=fun b hm=>by
  obtain⟨en,e3,e4⟩:=List.mem_filterMap.mp hm
  exact List.mem_filterMap.mpr ⟨en,List.mem_cons_of_mem _ e3,e4⟩
 have nin:∀b,b≠X.env.locals→b∉aQ X.outer→b∉aQ (X.env::X.outer):=fun b h1 h2 hm=>by
  obtain⟨en,e3,e4⟩:=List.mem_filterMap.mp hm
  rcases List.mem_cons.mp e3 with z | z
  ·subst z
   exact h1 (Option.some.inj (e4.symm.trans hfr))
  ·exact h2 (List.mem_filterMap.mpr ⟨en,z,e4⟩)
 have old:∀b o,X.s₀.heap.get? b=some o→b≠X.env.locals:=fun b o q z=>by
  have:=Nat.lt_of_lt_of_le (Heap.lt_size q) I.ok.above
  rw[z] at this;exact absurd this (Nat.lt_irrefl _)
 have frn:∀b,b∈aQ (X.env::X.outer)→H1 b=none∧H' b=none∧∃o,s1.heap.get? b=some o∧∀vs,o.data≠ .fields vs:=fun b hm=>by
  have h1:∃o,s1.heap.get? b=some o∧(∀vs,o.data≠ .fields vs)∧H1 b=none:=by
   obtain⟨en,e3,e4⟩:=List.mem_filterMap.mp hm
   rcases List.mem_cons.mp e3 with z | z
   ·subst z
    have:b=X.env.locals:=Option.some.inj (e4.symm.trans hfr)
    subst this
    obtain⟨m,hn',_⟩:=I.loc
    obtain⟨o,es,ep,ho,hd,_⟩:=id hn'
    exact⟨o,ho,(fun vs q=>by rw[hd] at q;cases q),I.free⟩
   ·obtain⟨o,h1,h2,h3,_⟩:=I.fsAt b (List.mem_filterMap.mpr ⟨en,z,e4⟩)
    exact⟨o,h1,h2,h3⟩
  obtain⟨o,h2,h3,h4⟩:=h1
  exact⟨h4,un.free b o h2 h4 (by simp),o,h2,h3⟩
 refine wpAny_leaves_onW (base:=B) (by rw[←xA,I.ok.frames,xs]) hfr fl fun h' f1 f4=>?_
 have st:∀b o,s'.heap.get? b=some o→b∉aQ (X.env::X.outer)→(s1.heap.get? b≠none∨H' b≠none)→h'.get? b=some o:=fun b o q n z=>f1.1 b o (hB b o q n z)
 refine⟨a,cls,a0,B,H',rfl,os.trans I.os,gb,⟨fun b o q n hb _=>?_,fun b o q n hb _=>?_,fun b o q n _=>?_,fun b o q _=>?_,fun b xs' q=>un.tups b xs' (I.base.tups b xs' q),fun b o u q=>un.frzs b o u (I.base.frzs b o u q),fun b ps q=>?_⟩,fun b u q=>?_,ha,?_,f1,?_,hE _ _ he⟩
 ·have q1:=I.base.keep b o q n hb (by rw[xx];simp)
  have n1:=I.base.free b o q n (by rw[xx];simp)
  have nb:=nin b (old b o q) hb
  have q2:=un.keep b o q1 n1 nb (by simp)
  exact st b o q2 nb (.inl (by rw[q1];simp))
 ·obtain⟨z1,q1⟩:=I.base.slot b o q n hb (by rw[xx];simp)
  have n1:=I.base.free b o q n (by rw[xx];simp)
  obtain⟨z2,q2⟩:=un.slot b _ q1 n1 (sub b hb) (by simp)
  obtain⟨o',q3,q4⟩:=gD I.ok.funs b hb
  rw[q] at q3;cases q3
  obtain⟨z3,q5⟩:=f4 b _ q2 q4
  exact⟨z3,q5⟩
 ·exact un.free b _ (I.base.there b o q (by rw[xx];simp)).choose_spec (I.base.free b o q n (by rw[xx];simp)) (by simp)
 ·obtain⟨o1,q1⟩:=I.base.there b o q (by rw[xx];simp)
  obtain⟨o2,q2⟩:=un.there b o1 q1 (by simp)
  by_cases hb:b∈aQ X.outer
  ·obtain⟨n1,n2,o3,q3,q4⟩:=frn b (sub b hb)
   obtain⟨z2,q5⟩:=un.slot b o3 q3 n1 (sub b hb) (by simp)
   obtain⟨z3,q6⟩:=f4 b _ q5 q4
   exact⟨_,q6⟩
  ·exact⟨o2,st b o2 q2 (nin b (old b o q) hb) (.inl (by rw[q1];simp))⟩
 ·obtain⟨m1,q1⟩:=I.base.tbls b ps q
  obtain⟨m2,q2⟩:=un.tbls b _ q1
  exact⟨m1++m2,by rw[q2,Array.append_assoc]⟩
 ·refine(hok b u q).stay (fun c v hc q'=>st c v q' ?_ (.inr ?_)) (fun _ q'=>q') fun _ _ q'=>q'
  ·intro hm
   rcases hc with z | z
   ·rw[z] at hm;rw[(frn b hm).2.1] at q;cases q
   ·rw[(frn c hm).2.1] at z;cases z
  ·rcases hc with z | z
   ·rw[z,q];simp
   ·rw[z];simp
 ·cases q:X.s₀.heap.get? a with
  | none=>rfl
  | some o=>
    obtain⟨o',q'⟩:=I.base.there a o q (by rw[xx];simp)
    rw[hn] at q';cases q'
 ·intro b o q hb hor
  have ex:∃o2,s'.heap.get? b=some o2∧b∉aQ (X.env::X.outer)∧(s1.heap.get? b≠none∨H' b≠none):=by
   rcases hor with z | z
   ·cases q0:X.s₀.heap.get? b with
    | none=>exact absurd q0 z
    | some o0=>
      obtain⟨o1,q1⟩:=I.base.there b o0 q0 (by rw[xx];simp)
      obtain⟨o2,q2⟩:=un.there b o1 q1 (by simp)
      exact⟨o2,q2,nin b (old b o0 q0) hb,.inl (by rw[q1];simp)⟩
   ·cases q0:H' b with
    | none=>exact absurd q0 z
    | some u=>
      obtain⟨o2,q2⟩:=(hok b u q0).isAt
      exact⟨o2,q2,(fun hm=>by rw[(frn b hm).2.1] at q0;cases q0),.inr (by simp)⟩
  obtain⟨o2,q2,nb,hor'⟩:=ex
  have:=st b o2 q2 nb hor'
  rw[q] at this;cases this
  exact hB b _ q2 nb hor'
end
abbrev fu:List Value:=[.type "ValueError",.type "Exception",.type "BaseException",.type "object"]
structure Exc(K:PySem.W.Frag)(mg:Str→Option Value)(x:Str)(C:Addr):Prop where
 bound:mg x=some (.ref C)
 isIn:PySem.W.excIn K C fu "ValueError.__new__"=true
theorem sv{K:PySem.W.Frag}{C:Addr}(q:PySem.W.excIn K C fu "ValueError.__new__"=true)(h:Heap)(X:K.In h):∃bm N nm qn bs hdct sn sub ab col dd k0 k1 k2 k3 k5 mN,h.get? C=some (excClassObj nm qn C N bs bm hdct sn sub ab col dd k0 k1 k2 k3 k5 "ValueError.__new__")∧h.Ns N mN∧mN "__init__"=none∧OwnTail h fu bm:=by
 unfold PySem.W.excIn at q
 split at q
 case h_2=>cases q
 case h_1 dd cd sl ho=>
  split at q
  case h_2=>cases q
  case h_1 C' bm k0 k1 k2 k3 n k5 hm hs=>
   simp only[Bool.and_eq_true,beq_iff_eq,Bool.not_eq_true'] at q
   obtain⟨⟨⟨⟨⟨e1,e2⟩,hdel⟩,ht⟩,hok⟩,hni⟩:=q
   subst e1 e2
   obtain⟨nm,bs,mro,nsA,qn,hd,sn,sub,ab,col,del⟩:=cd
   have hm':mro=.ref C'::bm:=hm
   have hdel':del=false:=hdel
   subst hm' hdel'
   have esl:sl=#[k0,k1,k2,k3,some (.builtin "ValueError.__new__"),k5]:=by
    cases sl with
    | mk l=>exact congrArg Array.mk hs
   subst esl
   exact⟨bm,nsA,nm,qn,bs,hd,sn,sub,ab,col,dd,k0,k1,k2,k3,k5,_,X _ _ ho,.of_isNs (PySem.W.isNs_of_in X hok),PySem.W.nsMap_none_of_in X hok hni,PySem.W.tail_of_in X ht⟩
theorem di{P:Program}{w:World}{K:PySem.W.Frag}{mg:Str→Option Value}{base:Heap}{N:List Str}{qual:Str}{scope:Scope}{f:Addr}{cd:Value}{A:Around}{outer:List Env}{s:Shared}{H:Hp}{E:XK}{x:Str}{C:Addr}{np cpos pos:Pos}{e0:Expr}{te:TE}(O:Exc K mg x C)(he:PE (bU (aS P w) P w K mg base N qual scope f cd A outer s H E) e0 te)(hg:Gl (bU (aS P w) P w K mg base N qual scope f cd A outer s H E) x:=by rfl)
 (hst:starEach [e0] (envOfC qual scope s.heap.objs.size f cd)=[(false,eval e0 (envOfC qual scope s.heap.objs.size f cd))]:=by rfl)(hd:(x == ("__debug__":Str))=false:=by decide):
 PS (bU (aS P w) P w K mg base N qual scope f cd A outer s H E) (.Raise (some (.Call (.Name x np) [e0] [] cpos)) none pos) (fun D σ H1=>te σ H1 fun v H2=>[v].length=1∧E (.ref C) none H2):=by
 intro pins s1 σ H1 D I h
 obtain⟨tl,Nn,nm,q,bs,hdct,sn,sub,ab,col,dd,k0,k1,k2,k3,k5,mN,hC,hN,hni,T⟩:=sv O.isIn base I.ok.mod.kin
 refine wpAny_Raise_call_subT (C:=C) (nm:=nm) (q:=q) (N:=Nn) (bs:=bs) (bm:=tl) (hdct:=hdct) (sn:=sn) (sub:=sub) (ab:=ab) (col:=col) (dd:=dd) (k0:=k0) (k1:=k1) (k2:=k2) (k3:=k3) (k5:=k5) (env:=envOfC qual scope s.heap.objs.size f cd)
  F.excBase_ValueError (mN:=mN) (T.hasType F.excBase_ValueError.hasBase) (I.ok.hd rfl) (by rw[hst];rfl) hni (eO I hg O.bound ⟨rfl,?_⟩ hd)
 rw[hst]
 refine Calls.evalArgs_plain ?_
 have hp:=(aa he ac (by exact hst)) cpos pins s1 σ H1 (fun vs H2=>vs.length=1∧E (.ref C) none H2) I h
 have hp':wpAny (model P w) (A.deeper (envOfC qual scope s.heap.objs.size f cd)) (spliced (backTo cpos (starEach [e0] (envOfC qual scope s.heap.objs.size f cd)))) _ _ s1:=hp
 rw[hst] at hp'
 refine am hp' fun us s2 ⟨vs,H2,I2,r2,l2,q2⟩=>?_
 refine⟨rfl,?_,I2.bk _ _ hC,hN.keeps I2.bk,T.keeps I2.bk,fun h' e made=>?_⟩
 ·show us.length≤sizeLine
  rw[←r2.length,l2];decide
 ·exact tS (tk:=s2.toks) (A:=A) (outer:=outer) (s:=s) (H:=H) (E:=E) (env:=envOfC qual scope s.heap.objs.size f cd) ⟨rfl,rfl,rfl,rfl,rfl,rfl,rfl,rfl,rfl⟩ rfl I2 made q2
theorem cJ{P:Program}{w:World}{K:PySem.W.Frag}{mg:Str→Option Value}{base:Heap}{N:List Str}{qual:Str}{scope:Scope}{f:Addr}{cd:Value}{A:Around}{outer:List Env}{s:Shared}{H:Hp}{E:XK}:fk (aS P w) (bU (aS P w) P w K mg base N qual scope f cd A outer s H E) E:=fun pins σ H1 s1 e s' I hx=>
 uJ (A:=A) (outer:=outer) (s:=s) (H:=H) (E:=E) (E':=E) (env:=envOfC qual scope s.heap.objs.size f cd) ⟨rfl,rfl,rfl,rfl,rfl,rfl,rfl,rfl,rfl⟩ rfl I hx fun _ _ z=>z
def qZ(X:Cx)(pins:List (Addr×Obj))(σ0:St)(E0:XK):Value→Shared→Prop:=fun e s'=>∃H1 s1,Inv X pins σ0 H1 s1∧aS X.prog X.w X.stack H1 s1 E0 e s'
abbrev fQ(X:Cx)(pins:List (Addr×Obj))(σ0:St)(E0:XK):Cx:={X with pn:=X.pn++pins,xe:=qZ X pins σ0 E0}
abbrev gw(X:Cx)(e:Addr)(xe:Value→Shared→Prop):Cx:={X with A:=X.A.mark (some (.ref e)),calm:=false,xe:=xe}
section
variable{X:Cx}{pins:List (Addr×Obj)}{σ σ0:St}{H H1:Hp}{s s1:Shared}{E0:XK}
theorem Inv.toTry(I:Inv X pins σ H s):Inv (fQ X pins σ0 E0) [] σ H s:=
 ⟨⟨I.ok.mod,I.ok.kind,I.ok.glob,I.ok.blt,I.ok.above,I.ok.inj,I.ok.has,I.ok.cab,I.ok.hd,I.ok.frames,I.ok.stk,I.ok.exf,I.ok.bs,I.ok.bsz,I.ok.noex,I.ok.exfs,I.ok.funs,I.ok.frf⟩,I.os,I.bare,I.base,I.loc,I.cell,I.free,I.freeC,fun p hp=>I.pin p (by simpa using hp),I.hok,I.len⟩
theorem Inv.ofTry{pins':List (Addr×Obj)}(I:Inv (fQ X pins σ0 E0) pins' σ H s):Inv X pins σ H s:=
 ⟨⟨I.ok.mod,I.ok.kind,I.ok.glob,I.ok.blt,I.ok.above,I.ok.inj,I.ok.has,I.ok.cab,I.ok.hd,I.ok.frames,I.ok.stk,I.ok.exf,I.ok.bs,I.ok.bsz,I.ok.noex,I.ok.exfs,I.ok.funs,I.ok.frf⟩,I.os,I.bare,I.base,I.loc,I.cell,I.free,I.freeC,fun p hp=>I.pin p (List.mem_append_left _ hp),I.hok,I.len⟩
theorem Inv.toSuf{e:Addr}{xe:Value→Shared→Prop}(I:Inv X pins σ H s):Inv (gw X e xe) pins σ H s:=
 ⟨⟨I.ok.mod,I.ok.kind,I.ok.glob,I.ok.blt,I.ok.above,I.ok.inj,I.ok.has,I.ok.cab,(fun q=>by cases q),I.ok.frames,I.ok.stk,I.ok.exf,I.ok.bs,I.ok.bsz,I.ok.noex,I.ok.exfs,I.ok.funs,I.ok.frf⟩,I.os,I.bare,I.base,I.loc,I.cell,I.free,I.freeC,I.pin,I.hok,I.len⟩
theorem Inv.ofSuf{e:Addr}{xe:Value→Shared→Prop}(hd:X.calm=true→X.A.handled=none)(I:Inv (gw X e xe) pins σ H s):Inv X pins σ H s:=
 ⟨⟨I.ok.mod,I.ok.kind,I.ok.glob,I.ok.blt,I.ok.above,I.ok.inj,I.ok.has,I.ok.cab,hd,I.ok.frames,I.ok.stk,I.ok.exf,I.ok.bs,I.ok.bsz,I.ok.noex,I.ok.exfs,I.ok.funs,I.ok.frf⟩,I.os,I.bare,I.base,I.loc,I.cell,I.free,I.freeC,I.pin,I.hok,I.len⟩
def rh(σ0:St)(t:TE):TE:=fun σ H Q=>σ=σ0∧t σ H Q
theorem gT{k j:Nat}{ps:List Str}{sp:Sp}{x:Str}{p pos:Pos}{e:Expr}{es:List Expr}{t:TA}(F:Fn X.prog X.w X.K X.mg X.base (aS X.prog X.w) x k ps sp)(hr:Room j X.A)(ha:PA (fQ X pins σ0 E0) (e::es) t)(hg:Gl X x:=by rfl)(hj:k≤j:=by decide)
 (hdb:(x == ("__debug__":Str))=false:=by decide)(he:starEach (e::es) X.env=(false,eval e X.env)::starEach es X.env:=by rfl)(hpl:(backTo pos (starEach es X.env)).any (·.1)=false:=by rfl):
 PE (fQ X pins σ0 E0) (.Call (.Name x p) (e::es) [] pos) (rh σ0 (gN sp [] E0 t)):=by
 obtain⟨f,fd,F,hm,hk,hb,_⟩:=F.ex
 have hr:=hr.mono hj
 intro pins' s σ H Q I h
 obtain⟨rfl,h⟩:=h
 refine wpAny_Call_Name_kw (eO I hg hm ?_ hdb)
 refine PySem.W.callWith_K (h₀:=X.base) I.ok.mod.kin hk (am (ha pos pins' s σ H _ I h) fun us s1 ⟨vs,H1,I1,r,q⟩=>⟨I1.kIn,?_⟩) he hpl
 have r2:Vals (vs++[]) (us++[]):=r.append .nil
 have hl:(us++[]).length=ps.length:=by rw[←r2.length];exact F.len _ _ _ _ q
 refine wpAny_call (codeAny_mono (F.run X.A X.stack s1 H1 ⟨us,[]⟩ (us++[]) (vs++[]) Q E0 hr I1.env0 (hb s1 us I1.kIn hl) r2 q) fun r s' hq=>?_)
 cases r with
 | error e=>exact⟨H1,s1,I1.ofTry,hq⟩
 | ok fl=>
   cases fl with
   | ret u=>exact I1.after hq
   | next=>exact False.elim hq
   | brk=>exact False.elim hq
   | cont=>exact False.elim hq
theorem Inv.caught{s':Shared}{H':Hp}{B h5:Heap}(hst:X.stack=X.env::X.outer)(hfr:X.env.frame=some X.env.locals)(I:Inv X pins σ H1 s1)(os:s'.os=s1.os)(gb:AllBare s'.gens)(un:Un (aQ X.stack) [] H1 H' s1.heap s'.heap)(hok:HOk X.prog X.w H' s'.heap)(hB:∀b o,s'.heap.get? b=some o→b∉aQ X.stack→(s1.heap.get? b≠none∨H' b≠none)→B.get? b=some o)(st5:∀b o,B.get? b=some o→h5.get? b=some o)(up:s'.heap.UpToSlots h5):Inv X pins σ H' {s' with heap:=h5}:=by
 have frn:∀b,b∈aQ X.stack→H1 b=none∧H' b=none∧∃o,s1.heap.get? b=some o∧∀vs,o.data≠ .fields vs:=fun b hm=>by
  have h1:∃o,s1.heap.get? b=some o∧(∀vs,o.data≠ .fields vs)∧H1 b=none:=by
   rw[hst] at hm
   obtain⟨en,e3,e4⟩:=List.mem_filterMap.mp hm
   rcases List.mem_cons.mp e3 with z | z
   ·subst z
    have:b=X.env.locals:=Option.some.inj (e4.symm.trans hfr)
    subst this
    obtain⟨m,hn',_⟩:=I.loc
    obtain⟨o,es,ep,ho,hd,_⟩:=id hn'
    exact⟨o,ho,(fun vs q=>by rw[hd] at q;cases q),I.free⟩
   ·obtain⟨o,h1,h2,h3,_⟩:=I.fsAt b (List.mem_filterMap.mpr ⟨en,z,e4⟩)
    exact⟨o,h1,h2,h3⟩
  obtain⟨o,h2,h3,h4⟩:=h1
  exact⟨h4,un.free b o h2 h4 (by simp),o,h2,h3⟩
 have st:∀b o,s'.heap.get? b=some o→b∉aQ X.stack→(s1.heap.get? b≠none∨H' b≠none)→h5.get? b=some o:=fun b o q n z=>st5 b o (hB b o q n z)
 refine I.call' (ch:=[]) os ⟨fun b o q n hb hx=>?_,fun b o q n hb hx=>?_,un.free,fun b o q hx=>?_,un.tups,un.frzs,un.tbls⟩ (fun b u q=>?_) gb (by simp)
 ·exact st b o (un.keep b o q n hb hx) hb (.inl (by rw[q];simp))
 ·obtain⟨z,q'⟩:=un.slot b o q n hb hx
  obtain⟨_,_,o2,q2,q3⟩:=frn b hb
  rw[q] at q2;cases q2
  obtain⟨z',q4⟩:=up b _ q' q3
  exact⟨z',q4⟩
 ·by_cases hb:b∈aQ X.stack
  ·obtain⟨n1,_,o2,q2,q3⟩:=frn b hb
   rw[q] at q2;cases q2
   obtain⟨z,q'⟩:=un.slot b o q n1 hb hx
   obtain⟨z',q4⟩:=up b _ q' q3
   exact⟨_,q4⟩
  ·obtain⟨o2,q2⟩:=un.there b o q hx
   exact⟨o2,st b o2 q2 hb (.inl (by rw[q];simp))⟩
 ·refine(hok b u q).stay (fun c v hc q'=>st c v q' ?_ (.inr ?_)) (fun _ q'=>q') fun _ _ q'=>q'
  ·intro hm
   rcases hc with z | z
   ·rw[z] at hm;rw[(frn b hm).2.1] at q;cases q
   ·rw[(frn c hm).2.1] at z;cases z
  ·rcases hc with z | z
   ·rw[z,q];simp
   ·rw[z];simp
def bS(e:Addr)(cls:Value):Heap→Prop:=fun h=>∃o,h.get? e=some o∧o.cls=cls
theorem Inv.track{e:Addr}{cls:Value}(I:Inv X pins σ H s)(hn:H e=none)(h0:X.s₀.heap.get? e=none)(hl:e≠X.env.locals)(hc:∀x c,X.env.cells.lookup x=some c→c≠e)(hp:∀p∈X.pn++pins,p.1≠e)(hx:bS e cls s.heap):Inv X pins σ (upd H e (.ext (bS e cls))) s:=by
 have ne:∀{b:Addr} {o:HO},H b=some o→(upd H e (.ext (bS e cls))) b=some o:=fun{b o} q=>by
  rw[ao (fun z=>by rw[z,hn] at q;cases q)];exact q
 have nn:∀{b:Addr},b≠e→H b=none→(upd H e (.ext (bS e cls))) b=none:=fun{b} z q=>by rw[ao z];exact q
 refine⟨I.ok,I.os,I.bare,⟨I.base.keep,I.base.slot,fun b o q n hx=>nn (fun z=>by rw[z,h0] at q;cases q) (I.base.free b o q n hx),I.base.there,fun b xs q=>ne (I.base.tups b xs q),fun b o u q=>ne (I.base.frzs b o u q),fun b ps q=>?_⟩,I.loc,I.cell,nn (Ne.symm hl) I.free,fun x c q=>nn (hc x c q) (I.freeC x c q),fun p q=>?_,fun b u q=>?_,I.len⟩
 ·obtain⟨m,q'⟩:=I.base.tbls b ps q
  exact⟨m,ne q'⟩
 ·obtain⟨a1,a2,a3,a4,a5⟩:=I.pin p q
  exact⟨a1,nn (hp p q) a2,a3,a4,a5⟩
 ·by_cases z:b=e
  ·subst z
   rw[ae] at q
   cases q
   refine⟨hx,?_,fun h1 h2 ⟨o,q1,q2⟩ k=>⟨o,k o q1,q2⟩⟩
   obtain⟨o,q,_⟩:=hx
   exact⟨o,q⟩
  ·rw[ao z] at q
   exact(I.hok b u q).stay (fun c v _ q'=>q') (fun c q'=>ne q') fun c xs q'=>ne q'
theorem gK{M:Model}{A:Around}{E:Value→Shared→Prop}{i:Nat}{x:Str}{pos:Pos}{Q:Unit→Shared→Prop}(I:Inv X pins σ H s)(hN:X.N.Nodup)(hi:X.N[i]?=some x)(hk:X.env.kindOf x=some .local)(hlo:dW X.env.scope x)(h:∀s',Inv X pins (σ.set i none) H s'→Q () s'):wpAny M A (do bindName X.env x .none;unbindBehindTheSuite X.env x pos) Q E s:=by
 have hcls:(X.env.scope.kind == .class || (X.env.scope.kind == .module && X.env.locals != X.env.globals))=false:=by rw[I.ok.kind];rfl
 refine wpAny_bind (wpAny_bindName (iu I hN hi hlo (v:=.non) rfl (fun s1 I1=>?_) (.inr hk)))
 unfold unbindBehindTheSuite
 refine wpAny_onRaise ?_
 have hiσ:i<σ.length:=by rw[I.len];exact(List.getElem?_eq_some_iff.mp hi).1
 obtain⟨m,hn,hl⟩:=id I1.loc
 obtain⟨u0,r0,lk⟩:=hl i x .non hi (by rw[List.getElem?_set_self hiσ]) (.inl hk)
 have hv:m x=some u0:=by
  rcases lk with⟨_,e⟩ | ⟨k,_⟩
  ·exact e
  ·rcases k with k | k
   ·have:=hk.symm.trans k;cases this
   ·have:=hk.symm.trans k;cases this
 refine wpAny_unbindName_local hk hn hv hcls fun h' u hn' hs=>?_
 obtain⟨oL,_,_,hoL,_⟩:=id hn
 have cne:=I1.cne
 refine h _ ⟨I1.ok,I1.os,I1.bare,⟨fun b o e n hb hx=>?_,fun b o e n hb hx=>?_,I1.base.free,fun b o e hx=>?_,I1.base.tups,I1.base.frzs,I1.base.tbls⟩,⟨_,hn',fun j y v' e1 e2 e3=>?_⟩,fun y c e=>?_,I1.free,I1.freeC,fun p hp=>?_,fun b ob e=>?_,by simpa using I1.len⟩
 ·exact(hs.2 b (Nat.ne_of_lt (Nat.lt_of_lt_of_le (Heap.lt_size e) I.ok.above))).trans (I1.base.keep b o e n hb hx)
 ·obtain⟨sl,e1⟩:=I1.base.slot b o e n hb hx
  exact⟨sl,(hs.2 b (Nat.ne_of_lt (Nat.lt_of_lt_of_le (Heap.lt_size e) I.ok.above))).trans e1⟩
 ·obtain⟨o',e1⟩:=I1.base.there b o e hx
  exact⟨o',(hs.2 b (Nat.ne_of_lt (Nat.lt_of_lt_of_le (Heap.lt_size e) I.ok.above))).trans e1⟩
 ·by_cases hj:j=i
  ·subst hj
   rw[List.getElem?_set_self hiσ] at e2
   cases e2
  ·rw[List.getElem?_set_ne (Ne.symm hj)] at e2
   obtain⟨u',r',q⟩:=hl j y v' e1 (by rw[List.getElem?_set_ne (Ne.symm hj)];exact e2) e3
   refine⟨u',r',?_⟩
   rcases q with⟨k,e⟩ | ⟨k,c,e,z⟩
   ·refine .inl ⟨k,?_⟩
    have:y≠x:=fun e=>hj (j0 hN e1 (e▸hi))
    simp[this,e]
   ·exact .inr ⟨k,c,e,z.sameBut hs (cne y c e)⟩
 ·obtain⟨w',z⟩:=I1.cell y c e
  exact⟨w',z.sameBut hs (cne y c e)⟩
 ·obtain⟨e,n,ne,nf,d⟩:=I1.pin p hp
  exact⟨(hs.2 p.1 ne).trans e,n,ne,nf,d⟩
 ·refine(I1.hok b ob e).stay (fun c w' hc q=>(hs.2 c ?_).trans q) (fun _ q=>q) fun _ _ q=>q
  rintro rfl
  rcases hc with rfl | hc
  ·rw[I1.free] at e;cases e
  ·rw[I1.free] at hc;cases hc
end
def Ends.drop(D:Ends)(i:Nat):Ends:=⟨fun σ H=>D.nx (σ.set i none) H,D.rt,fun σ H=>D.bk (σ.set i none) H,fun σ H=>D.ct (σ.set i none) H⟩
def gA(K:PySem.W.Frag)(C:Addr)(i:Nat)(tb:St→XK→TS)(th:TS):TS:=fun D σ H=>
 tb σ (fun cls _ H'=>PySem.W.exmOne K cls (.ref C)=some true∧∀e,H' e=none→th (D.drop i) (σ.set i (some (.ref e))) (upd H' e (.ext (bS e cls)))) D σ H
theorem qD{X:Cx}{body suite:List Stmt}{b₀:Stmt}{x n:Str}{np hpos pos:Pos}{C:Addr}{i:Nat}{tb:St→XK→TS}{th:TS}(hC:X.mg x=some (.ref C))(hN:X.N.Nodup)(hi:X.N[i]?=some n)(hk:X.env.kindOf n=some .local)(hb:∀pins σ0 E0,PSs (fQ X pins σ0 E0) body (tb σ0 E0))(hs:∀e xe,PSs (gw X e xe) (b₀::suite) th)(hlo:dW X.env.scope n:=by first | exact .inl rfl | exact .inr rfl)
 (hst:X.stack=X.env::X.outer:=by rfl)(hex:X.ex=[]:=by rfl)(hfr:X.env.frame=some X.env.locals:=by rfl)(hg:Gl X x:=by rfl)(hd:(x == ("__debug__":Str))=false:=by decide):
 PS X (.Try body [.ExceptHandler (some (.Name x np)) (some n) (b₀::suite) hpos] [] [] pos) (gA X.K C i tb th):=by
 intro pins s σ H D I h
 refine wpAny_Try_except (wpAny_mono (hb pins σ _ [] s σ H D I.toTry h) (fun f s1 q=>?_) fun e s' q=>?_)
 ·cases f with
  | next=>
    obtain⟨σ',H',I',q⟩:=q
    exact wpAny_execs_nil ⟨σ',H',I'.ofTry,q⟩
  | brk=>obtain⟨σ',H',I',q⟩:=q;exact⟨σ',H',I'.ofTry,q⟩
  | cont=>obtain⟨σ',H',I',q⟩:=q;exact⟨σ',H',I'.ofTry,q⟩
  | ret u=>obtain⟨v,σ',H',I',r,q⟩:=q;exact⟨v,σ',H',I'.ofTry,r,q⟩
 ·obtain⟨H1,s1,I1,a,cls,a0,B,H',rfl,os,gb,un,hok,ha,hn,fl,hB,hm,hE⟩:=q
  have fl':Heap.FlyingW B (X.env::X.outer) a cls a0 s'.heap:=by rw[←hst];exact fl
  refine wpAny_looks_onW (base:=B) (by rw[I1.ok.frames,hst]) hfr fl' fun h4 held4 up4=>?_
  refine wpAny_landsW held4 fun h5 fl5 up5=>?_
  have up:=up4.trans up5
  have I5:Inv X pins σ H' {s' with heap:=h5}:=I1.caught hst hfr os gb un hok hB fl5.1 up
  refine wpAny_handleBy_cons (codeAny_handlers_test (eO (X:=gw X a fun _ _=>False) (I5.toSuf) hg hC ?_ hd)) (by intro q;cases q)
  obtain⟨oe,hoe,hoc⟩:=fl5.there
  have LT:PySem.W.Looks (model X.prog X.w) h5 (typeOf (.ref a)) cls:=by
   rw[←hoc]
   exact(PySem.W.Looks.ld hoe).andThen .now
  refine(PySem.W.exm_one (M:=model X.prog X.w) I5.kIn LT hm).here ?_
  refine codeAny_handlers_suite_as ?_
  refine lands_againW fl5 fun h6 fl6 up6=>?_
  have I6:Inv X pins σ H' {s' with heap:=h6}:=I1.caught hst hfr os gb un hok hB fl6.1 (up.trans up6)
  obtain⟨oe6,hoe6,hoc6⟩:=fl6.there
  have I7:Inv X pins σ (upd H' a (.ext (bS a cls))) {s' with heap:=h6}:=by
   refine I6.track ha ?_ ?_ (fun y c q=>?_) (fun p q=>?_) ⟨oe6,hoe6,hoc6⟩
   ·cases q:X.s₀.heap.get? a with
    | none=>rfl
    | some o=>
      obtain⟨o',q'⟩:=I1.base.there a o q (by rw[hex];simp)
      rw[hn] at q';cases q'
   ·intro z
    obtain⟨m,hnn,_⟩:=I1.loc
    obtain⟨o,_,_,ho,_⟩:=id hnn
    rw[←z,hn] at ho;cases ho
   ·intro z
    obtain⟨w',o,ho,_⟩:=I1.cell y c q
    rw[z,hn] at ho;cases ho
   ·intro z
    have:=(I1.pin p q).1
    rw[z,hn] at this;cases this
  refine iu I7 hN hi hlo (v:=.ref a) rfl (fun s8 I8=>?_) (.inr hk)
  refine wpAny_mono (hs a _ pins s8 _ _ (D.drop i) I8.toSuf (hE a ha)) (fun f s9 q=>?_) (fun _ _ z=>z)
  cases f with
  | next=>
    obtain⟨σ',H9,I9,q⟩:=q
    exact gK (I9.ofSuf I.ok.hd) hN hi hk hlo fun s10 I10=>⟨_,_,I10,q⟩
  | brk=>
    obtain⟨σ',H9,I9,q⟩:=q
    exact gK (I9.ofSuf I.ok.hd) hN hi hk hlo fun s10 I10=>⟨_,_,I10,q⟩
  | cont=>
    obtain⟨σ',H9,I9,q⟩:=q
    exact gK (I9.ofSuf I.ok.hd) hN hi hk hlo fun s10 I10=>⟨_,_,I10,q⟩
  | ret u=>
    obtain⟨v,σ',H9,I9,r,q⟩:=q
    exact gK (I9.ofSuf I.ok.hd) hN hi hk hlo fun s10 I10=>⟨v,_,_,I10,r,q⟩
end L2
namespace PySem.W
open PySem PySem.Spec PySem.Calls PyProof.Rows Builtin Builtin.ObjectAttr Builtin.Getset_descriptor
section
variable{prog:Program}{w:World}{A:Around}{E:Value→Shared→Prop}{K:Frag}{h:Heap}{g:Array GenState}{d:Drawn}{t:Nat}{os:OsState}{a D:Addr}{o:Obj}{R:Result→Shared→Prop}
theorem wb{tp:Value}(X:K.In h)(hx:h.get? a=some o)(hc:o.cls=.ref D)(hm:mroIn K D (.type "object")=some true)(hq:R (.ok (.ret (.ref D))) ⟨h,g,d,t,os⟩):codeAny (model prog w) A (.call (.builtin "getset_descriptor.__get__") ⟨[.builtin "object.__class__",.ref a,tp],[]⟩) R ⟨h,g,d,t,os⟩:=by
 have L0:Looks (model prog w) h (typeOf (.ref a)) (.ref D):=by
  rw[←hc];exact(Looks.ld hx).andThen .now
 have Lm:=looks_mroIn (M:=model prog w) X hm
 refine codeAny_call_builtin KF.slot_gs.plain KF.entry_gs (KF.slot_gs.check _ _ _ _ _ _ _ _ KF.type_class (KF.args_gs _ _ _) ?go)
 case go=>(unfold Builtin.«getset_descriptor.__get__» descrGet;rw[dga_obj];refine wpAny_bind (wpAny_pure ?_);unfold descrGetter descrCheckInstance descrNameAndClass isInstance;simp only[KF.owner_class];(repeat lk);refine⟨Code.quiet_builtin _ (by decide+kernel),codeAny_builtin KF.entry_class ?_⟩;unfold Builtin.«object.__class__» shownTypeOf;(repeat lk);exact hq)
theorem qo{M:Model}{nameV:Value}{Q:Unit→Shared→Prop}(X:K.In h)(hx:h.get? a=some o)(hc:o.cls=.ref D)(hb:mroIn K D (.type "BaseException")=some true)(hq:Q () ⟨h,g,d,t,os⟩):wpAny M A (checkBuiltinCall "BaseException.__getattribute__" ⟨[.ref a,nameV],[]⟩) Q E ⟨h,g,d,t,os⟩:=by
 have bk:builtinKind "BaseException.__getattribute__"=some .slot:=by decide+kernel
 have sp:splitId "BaseException.__getattribute__"=some ("BaseException","__getattribute__"):=by decide+kernel
 have ok:=F.args_bexc_ga (.ref a) nameV
 have L0:Looks M h (typeOf (.ref a)) (.ref D):=by
  rw[←hc];exact(Looks.ld hx).andThen .now
 have L1:=looks_mroIn (M:=M) X hb
 simp only[checkBuiltinCall,bk,sp]
 refine wpAny_bind ?_
 ·unfold isInstance
  repeat (first | with_reducible refine Looks.at (by assumption) ?_ | wp_step)
  exact hq
theorem rq{tk:Tok}{Q:Fin→Shared→Prop}(X:K.In h)(hx:h.get? a=some o)(hc:o.cls=.ref D)(hm:mroIn K D (.type "object")=some true)(hcl:findIn K (.ref D) "__class__"=some (some (.builtin "object.__class__")))(hq:Q (.done (.ret (.ref D))) ⟨h,g,d,t,os⟩):wpAny (model prog w) A (Builtin.«object.__getattribute__» ⟨[.ref a,.str "__class__" tk],[]⟩) Q E ⟨h,g,d,t,os⟩:=
 by
 have L0:Looks (model prog w) h (typeOf (.ref a)) (.ref D):=by
  rw[←hc];exact(Looks.ld hx).andThen .now
 have L1:=looks_findIn (M:=model prog w) X hcl
 have fa:=F.typeOf_object_class;have fb:=F.slot_gs_get.lookup;have fc:=F.slot_gs_set.lookup
 repeat (any_goals (first | assumption | with_reducible refine Looks.at L0 ?_ | with_reducible refine Looks.at L1 ?_ | wp_step))
 refine wb X hx hc hm ?_;repeat (any_goals (first | assumption | wp_step))
theorem rB{Q:Option Value→Shared→Prop}(X:K.In h)(hx:h.get? a=some o)(hc:o.cls=.ref D)(hm:mroIn K D (.type "object")=some true)(hb:mroIn K D (.type "BaseException")=some true)(hga:findIn K (.ref D) "__getattribute__"=some (some (.builtin "BaseException.__getattribute__")))(hgt:findIn K (.ref D) "__getattr__"=some none)(hcl:findIn K (.ref D) "__class__"=some (some (.builtin "object.__class__")))(hq:Q (some (.ref D)) ⟨h,g,d,t+1,os⟩):wpAny (model prog w) A (getAttr? (.ref a) "__class__") Q E ⟨h,g,d,t,os⟩:=by
 have L0:Looks (model prog w) h (typeOf (.ref a)) (.ref D):=by
  rw[←hc];exact(Looks.ld hx).andThen .now
 have La:=looks_findIn (M:=model prog w) X hga
 have Lb:=looks_findIn (M:=model prog w) X hgt
 have f3:=F.excAttr_ValueError.ga.bind (.ref a)
 have nb:(Value.builtin "BaseException.__getattribute__" == Value.builtin "object.__getattribute__")=false:=by decide+kernel
 have nh:(onTheHeap (Value.ref D) && Value.builtin "BaseException.__getattribute__" == Value.builtin "object.__getattribute__")=false:=by rw[nb];rfl
 unfold getAttr? getAttrBy? getAttrBy;refine wpAny_bind (wpAny_mkText (wpAny_bind (wpAny_attempt (wpAny_holding (wpAny_bind (L0.at (wpAny_bind (La.at ?_))))))))
 repeat (any_goals (first | assumption | with_reducible refine Looks.at L0 ?_ | with_reducible refine Looks.at La ?_ | with_reducible refine Looks.at Lb ?_ | wp_step))
 refine codeAny_call_builtin F.excAttr_ValueError.ga.plain F.entry_bexc_ga (qo X hx hc hb (rq X hx hc hm hcl ?_));repeat (any_goals (first | assumption | wp_step))
def excKit(K:Frag)(D:Addr):Bool:=(clsIn K D).isSome && mroIn K D (.type "object") == some true && mroIn K D (.type "BaseException") == some true && findIn K (.ref D) "__getattribute__" == some (some (.builtin "BaseException.__getattribute__"))
 && findIn K (.ref D) "__getattr__" == some none && findIn K (.ref D) "__class__" == some (some (.builtin "object.__class__"))
theorem kitx_exc{x D:Addr}(e:excKit K D=true):KitX K (.ref x) (.ref D) (fun h=>∃o,h.get? x=some o∧o.cls=.ref D):=by
 simp only[excKit,Bool.and_eq_true,beq_iff_eq] at e
 obtain⟨⟨⟨⟨⟨e0,e1⟩,e2⟩,e3⟩,e4⟩,e5⟩:=e
 obtain⟨cdD,hcD⟩:=Option.isSome_iff_exists.mp e0
 refine⟨fun M h _ ⟨o,h1,h2⟩=>?_,fun _ _ X _=>?_,fun h tp dd its n sl X htp=>?_,fun{prog w A E Q s} X ⟨o,h1,h2⟩ k=>?_⟩
 ·rw[←h2];exact(Looks.ld h1).andThen .now
 ·unfold clsIn at hcD
  split at hcD
  ·rename_i c' d' cd' sl' ho
   exact fun A' Q' E' s' k q=>by unfold isType loadHead;exact wpAny_bind (wpAny_loadPart (k _ _ (X _ _ ho)) (wpAny_pure q))
  ·cases hcD
 ·refine Bool.eq_false_iff.mpr fun q=>?_
  obtain rfl:D=tp:=Value.ref.inj (beq_iff_eq.mp q)
  unfold clsIn at hcD
  split at hcD
  ·rename_i c' d' cd' sl' ho
   cases(X _ _ ho).symm.trans htp
  ·cases hcD
 ·obtain⟨h,g,d,t,os⟩:=s
  exact rB X h1 h2 e1 e2 e3 e4 e5 k
end
end PySem.W
namespace L2
open PySem PySem.Spec PyProof.Rows
section
variable{X:Cx}{e e2:Expr}{te te2:TE}{p p2 pos:Pos}
def lU(K:PySem.W.Frag)(c:Value)(te:TE):TE:=fun σ H Q=>te σ H fun x H1=>∃(a D:Addr) (b:Bool),x=.ref a∧H1 a=some (.ext (bS a (.ref D)))∧PySem.W.excKit K D=true∧PySem.W.kitOne K (.ref D) c=some b∧Q (.bl b) H1
theorem lV{c:Value}{cv:V}(hcv:∀u,RelV cv u→u=c)(pins:List (Addr×Obj))(s:Shared)(σ:St)(H:Hp)(x:V)(us:List Value)(Q:VK)(I:Inv X pins σ H s)(rv:Vals [x,cv] us)(h:∃(a D:Addr) (b:Bool),x=.ref a∧H a=some (.ext (bS a (.ref D)))∧PySem.W.excKit X.K D=true∧PySem.W.kitOne X.K (.ref D) c=some b∧Q (.bl b) H):wpAny (model X.prog X.w) X.A (call (.builtin "isinstance") us) (EP X pins σ Q) X.xe s:=by
 obtain⟨a,D,b,rfl,hH,hk,ek,q⟩:=h
 obtain⟨u,v,rfl,rx,ry⟩:=rv.two
 cases rx
 obtain rfl:=hcv v ry
 obtain⟨hx,_⟩:=(show ObjOk X.prog X.w H s.heap a (.ext (bS a (.ref D))) from I.hok a _ hH)
 have fin:∀tk,EP X pins σ Q (.bool b) {s with toks:=tk}:=fun tk=>⟨.bl b,H,I.kept (h':=s.heap) (t':=tk) fun _ _ q=>q,rfl,q⟩
 exact PySem.W.kia_one (PySem.W.kitx_exc hk) I.kIn hx ek (fun z=>nomatch z) fin
theorem cX{T:Str}{C:Addr}(hm:X.mg "isinstance"=none)(hT:X.mg T=some (.ref C))(ha:PE X e te)(hg:Gl X "isinstance":=by rfl)(hgT:Gl X T:=by rfl)(he:starEach [e,.Name T p2] X.env=[(false,eval e X.env),(false,eval (.Name T p2) X.env)]:=by rfl)
 (hd:(T == ("__debug__":Str))=false:=by decide):PE X (.Call (.Name "isinstance" p) [e,.Name T p2] [] pos) (lU X.K (.ref C) te):=
 cI (r:=eK fun x y H Q=>y=.ref C∧∃(a D:Addr) (b:Bool),x=.ref a∧H a=some (.ext (bS a (.ref D)))∧PySem.W.excKit X.K D=true∧PySem.W.kitOne X.K (.ref D) (.ref C)=some b∧Q (.bl b) H)
  (fO fun pins s σ H x y us Q I rv ⟨ey,h⟩=>by subst ey;exact lV (c:=.ref C) (cv:=.ref C) (fun u r=>r) pins s σ H x us Q I rv h) hg hm ji
  (aa ha (aa (ss (v:=.ref C) hgT hT rfl hd) ac) (by exact he)) (he:=by exact he) |>.imp fun σ H Q h=>by
   show te σ H fun x H1=>V.ref C=.ref C∧_
   simp only[true_and]
   exact h
theorem sj{T:Str}{c:String}(hm:X.mg "isinstance"=none)(hT:X.mg T=none)(hb:bootBuiltins T=some (.type c))(ha:PE X e te)(hg:Gl X "isinstance":=by rfl)(hgT:Gl X T:=by rfl)(he:starEach [e,.Name T p2] X.env=[(false,eval e X.env),(false,eval (.Name T p2) X.env)]:=by rfl)
 (hn:T≠"__name__":=by decide)(hd:(T == ("__debug__":Str))=false:=by decide):PE X (.Call (.Name "isinstance" p) [e,.Name T p2] [] pos) (lU X.K (.type c) te):=
 cI (r:=eK fun x y H Q=>y=.ty c∧∃(a D:Addr) (b:Bool),x=.ref a∧H a=some (.ext (bS a (.ref D)))∧PySem.W.excKit X.K D=true∧PySem.W.kitOne X.K (.ref D) (.type c)=some b∧Q (.bl b) H)
  (fO fun pins s σ H x y us Q I rv ⟨ey,h⟩=>by subst ey;exact lV (c:=.type c) (cv:=.ty c) (fun u r=>r) pins s σ H x us Q I rv h) hg hm ji
  (aa ha (aa (lh (v:=.ty c) hgT hT hb rfl hn hd) ac) (by exact he)) (he:=by exact he) |>.imp fun σ H Q h=>by
   show te σ H fun x H1=>V.ty c=.ty c∧_
   simp only[true_and]
   exact h
end
def excFacts(K:PySem.W.Frag)(CE:Addr)(Cs:List Addr):Bool:=
 Cs.all fun D=>PySem.W.exmOne K (.ref D) (.ref CE) == some true && PySem.W.excKit K D && PySem.W.excIn K D fu "ValueError.__new__" && PySem.W.kitOne K (.ref D) (.type "ValueError") == some true && Cs.all fun C=>PySem.W.kitOne K (.ref D) (.ref C) == some (D == C)
structure ExF(K:PySem.W.Frag)(CE D:Addr)(Cs:List Addr):Prop where
 exm:PySem.W.exmOne K (.ref D) (.ref CE)=some true
 kit:PySem.W.excKit K D=true
 isIn:PySem.W.excIn K D fu "ValueError.__new__"=true
 val:PySem.W.kitOne K (.ref D) (.type "ValueError")=some true
 one:∀C∈Cs,PySem.W.kitOne K (.ref D) (.ref C)=some (D == C)
theorem excFacts.of{K:PySem.W.Frag}{CE:Addr}{Cs:List Addr}(h:excFacts K CE Cs=true):∀D∈Cs,ExF K CE D Cs:=fun D hD=>by
 have h1:=List.all_eq_true.mp h D hD
 simp only[Bool.and_eq_true,beq_iff_eq] at h1
 obtain⟨⟨⟨⟨a,b⟩,c⟩,d⟩,e⟩:=h1
 exact⟨a,b,c,d,fun C hC=>beq_iff_eq.mp (List.all_eq_true.mp e C hC)⟩
section
variable{X:Cx}
theorem uF{xs:List Bool}{its:List Value}(r:Vals (xs.map V.bl) its):its=xs.map Value.bool:=by
 induction xs generalizing its with
 | nil=>cases r;rfl
 | cons b xs ih=>
   cases r with
   | cons r t=>cases r;rw[ih t];rfl
end
theorem vv:bootBuiltins "ValueError"=some (.type "ValueError"):=by decide+kernel
section
variable{X:Cx}
theorem uc:OpR X (binaryOp .Mult) (fun x y H Q=>∃c:Nat,x=sg c∧y=.int 2∧Q (.str ⟨#[c,c]⟩) H):=by
 intro pins s σ H x y v u Q I rx ry h
 obtain⟨c,rfl,rfl,q⟩:=h
 obtain⟨t,rfl⟩:=rx
 obtain⟨t',rfl⟩:=ry
 refine SB.mul (x:=aA c) (n:=2) ⟨by decide,fun _ _=>?_,fun _ _=>?_⟩ fun t' k=>?_
 ·show¬(((aA c).length:Nat):Int)>(2 ^ 63-1) / 2
  have:(aA c).length=1:=rfl
  rw[this];decide
 ·have:(aA c).length=1:=rfl
  rw[this];decide
 ·have e:Txt.mul (aA c) 2=⟨#[c,c]⟩:=rfl
  rw[e]
  exact⟨.str ⟨#[c,c]⟩,H,I.tok _,⟨_,rfl⟩,q⟩
end
end L2
namespace PySem.W
open PySem PySem.Spec PySem.Calls PyProof.Rows
section
variable{prog:Program}{w:World}{A:Around}{E:Value→Shared→Prop}{s:Shared}
end
end PySem.W
namespace L2
open PySem PySem.Spec PyProof.Rows
section
variable{X:Cx}{e:Expr}{te:TE}{p pos:Pos}
end
section
variable{X:Cx}{e:Expr}{te:TE}{p pos:Pos}
end
section
variable{κ:Type}[DecidableEq κ]
def aY(kvs:List (κ×V))(k:κ):Option V:=(kvs.find? fun kv=>decide (kv.1=k)).map (·.2)
def bD(kvs:List (κ×V))(k:κ)(v:V):List (κ×V):=
 if(kvs.any fun kv=>decide (kv.1=k))=true then kvs.map (fun kv=>if kv.1=k then(kv.1,v) else kv) else kvs++[(k,v)]
theorem bY{p:κ×V}{r:List (κ×V)}{k:κ}(e:p.1=k):aY (p::r) k=some p.2:=by simp[aY,List.find?_cons,e]
theorem b0{p:κ×V}{r:List (κ×V)}{k:κ}(e:¬p.1=k):aY (p::r) k=aY r k:=by simp[aY,List.find?_cons,e]
theorem gB(k:κ):∀kvs:List (κ×V),(kvs.any fun kv=>decide (kv.1=k))=(aY kvs k).isSome
 | []=>rfl
 | p::r=>by
   rw[List.any_cons]
   by_cases e:p.1=k
   ·simp only[bY e,decide_eq_true e,Bool.true_or,Option.isSome_some]
   ·rw[b0 e,decide_eq_false e,Bool.false_or];exact gB k r
theorem lQ(k j:κ)(y:V):∀kvs:List (κ×V),aY (kvs.map fun kv=>if kv.1=k then(kv.1,y) else kv) j=(aY kvs j).map fun x=>if j=k then y else x
 | []=>rfl
 | p::r=>by
   have ih:=lQ k j y r
   rw[List.map_cons]
   by_cases h:p.1=k
   ·rw[if_pos h]
    by_cases e:p.1=j
    ·rw[bY (p:=(p.1,y)) e,bY e,Option.map_some,if_pos (e.symm.trans h)]
    ·rw[b0 (p:=(p.1,y)) e,b0 e,ih]
   ·rw[if_neg h]
    by_cases e:p.1=j
    ·rw[bY (p:=p) e,bY e,Option.map_some,if_neg (fun z=>h (e.trans z))]
    ·rw[b0 (p:=p) e,b0 e,ih]
theorem kl(k j:κ)(y:V):∀kvs:List (κ×V),aY kvs k=none→aY (kvs++[(k,y)]) j=if j=k then some y else aY kvs j
 | [],_=>by
   by_cases e:k=j
   ·rw[if_pos e.symm];exact bY (p:=(k,y)) e
   ·rw[if_neg (fun z=>e z.symm)];exact b0 (p:=(k,y)) e
 | p::r,hn=>by
   rw[List.cons_append]
   have hk:¬p.1=k:=fun z=>by rw[bY z] at hn;cases hn
   rw[b0 hk] at hn
   have ih:=kl k j y r hn
   by_cases e:p.1=j
   ·rw[bY e,bY e,if_neg (fun z=>hk (e.trans z))]
   ·rw[b0 e,b0 e,ih]
theorem lD(kvs:List (κ×V))(k j:κ)(y:V):aY (bD kvs k y) j=if j=k then some y else aY kvs j:=by
 unfold bD
 by_cases a:(kvs.any fun kv=>decide (kv.1=k))=true
 ·rw[if_pos a,lQ]
  rw[gB] at a
  by_cases e:j=k
  ·obtain⟨x,hx⟩:=Option.isSome_iff_exists.mp a
   rw[if_pos e,e,hx,Option.map_some,if_pos rfl]
  ·rw[if_neg e]
   cases aY kvs j with
   | none=>rfl
   | some x=>rw[Option.map_some,if_neg e]
 ·rw[if_neg a]
  refine kl k j y kvs ?_
  rw[gB] at a
  cases q:aY kvs k with
  | none=>rfl
  | some x=>rw[q] at a;exact(a rfl).elim
theorem ij(kvs:List (κ×V))(k:κ)(v:V):(bD kvs k v).length≤kvs.length+1:=by
 unfold bD
 split
 ·rw[List.length_map];lia
 ·rw[List.length_append,List.length_cons,List.length_nil];lia
theorem RelO.isSome_eq{o:Option V}{u:Option Value}(r:RelO o u):o.isSome=u.isSome:=by
 cases o with
 | none=>cases u with
   | none=>rfl
   | some _=>exact(show False from r).elim
 | some _=>cases u with
   | none=>exact(show False from r).elim
   | some _=>rfl
theorem KV.val{kvs:List (κ×V)}{vs:List (κ×Value)}(r:KV kvs vs)(k:κ):RelO (aY kvs k) (valueAt vs k):=by
 unfold KV at r
 induction r with
 | nil=>exact True.intro
 | @cons p q ps qs h t ih=>
   obtain⟨h1,h2⟩:=h
   by_cases e:p.1=k
   ·have e':q.1=k:=h1.symm.trans e
    have b:valueAt (q::qs) k=some q.2:=by simp[valueAt,List.find?_cons,e']
    rw[bY e,b];exact h2
   ·have e':¬q.1=k:=fun z=>e (h1.trans z)
    have b:valueAt (q::qs) k=valueAt qs k:=by simp[valueAt,List.find?_cons,e']
    rw[b0 e,b];exact ih
theorem KV.any{kvs:List (κ×V)}{vs:List (κ×Value)}(r:KV kvs vs)(k:κ):(kvs.any fun kv=>decide (kv.1=k))=vs.any fun kv=>decide (kv.1=k):=by
 unfold KV at r
 induction r with
 | nil=>rfl
 | cons h t ih=>rw[List.any_cons,List.any_cons,ih,h.1]
theorem KV.repl{kvs:List (κ×V)}{vs:List (κ×Value)}(r:KV kvs vs)(k:κ){y:V}{u:Value}(ry:RelV y u):KV (kvs.map fun kv=>if kv.1=k then(kv.1,y) else kv) (vs.map fun kv=>if kv.1=k then(kv.1,u) else kv):=by
 unfold KV at r ⊢
 induction r with
 | nil=>exact .nil
 | @cons p q ps qs h t ih=>
   rw[List.map_cons,List.map_cons]
   refine .cons ?_ ih
   obtain⟨h1,h2⟩:=h
   by_cases e:p.1=k
   ·rw[if_pos e,if_pos (h1.symm.trans e)];exact⟨h1,ry⟩
   ·rw[if_neg e,if_neg (fun z=>e (h1.trans z))];exact⟨h1,h2⟩
theorem KV.put{kvs:List (κ×V)}{vs:List (κ×Value)}(r:KV kvs vs)(k:κ){y:V}{u:Value}(ry:RelV y u):KV (bD kvs k y) (stored vs k u):=by
 unfold bD stored
 rw[r.any k]
 by_cases e:(vs.any fun kv=>decide (kv.1=k))=true
 ·rw[if_pos e,if_pos e];exact r.repl k ry
 ·rw[if_neg e,if_neg e];exact Paired.snoc r ⟨rfl,ry⟩
theorem KV.length{kvs:List (κ×V)}{vs:List (κ×Value)}(r:KV kvs vs):kvs.length=vs.length:=Paired.length r
end
theorem eX{P:Program}{w:World}{k:ap}{u:Value}(r:RelV (kV k) u):(bz P w).is k u=true:=by
 cases k with
 | inl i=>obtain⟨t,e⟩:=(show∃t,u=Value.int i t from r);subst e;exact u7 P w i t
 | inr x=>obtain⟨t,e⟩:=(show∃t,u=Value.str x t from r);subst e;exact pG P w x t
theorem kh{P:Program}{w:World}:∀{ks:List ap} {us:List Value},Vals (ks.map kV) us→ItemsAre (bz P w) ks us
 | [],_,r=>by rw[List.map_nil] at r;cases r;exact .nil
 | k::ks,_,r=>by
   rw[List.map_cons] at r
   cases r with
   | cons h t=>exact .cons (eX h) (kh t)
abbrev KT(H:Hp):List (List ap×V)→List (List ap×Addr×Value)→Prop:=Paired fun p q=>p.1=q.1∧H q.2.1=some (.tup (p.1.map kV))∧RelV p.2 q.2.2
theorem KT.val{H:Hp}{kvs:List (List ap×V)}{xs:List (List ap×Addr×Value)}(r:KT H kvs xs)(k:List ap):RelO (aY kvs k) ((atKey xs k).map (·.2)):=by
 induction r with
 | nil=>exact True.intro
 | @cons p q ps qs h t ih=>
   obtain⟨h1,_,h2⟩:=h
   by_cases e:p.1=k
   ·have e':q.1=k:=h1.symm.trans e
    have b:atKey (q::qs) k=some q.2:=by simp[atKey,List.find?_cons,e']
    rw[bY e,b];exact h2
   ·have e':¬q.1=k:=fun z=>e (h1.trans z)
    have b:atKey (q::qs) k=atKey qs k:=by simp[atKey,List.find?_cons,e']
    rw[b0 e,b];exact ih
theorem KT.repl{H:Hp}{kvs:List (List ap×V)}{xs:List (List ap×Addr×Value)}(r:KT H kvs xs)(k:List ap){y:V}{u:Value}(ry:RelV y u):KT H (kvs.map fun kv=>if kv.1=k then(kv.1,y) else kv) (xs.map (putAt k u)):=by
 induction r with
 | nil=>exact .nil
 | @cons p q ps qs h t ih=>
   rw[List.map_cons,List.map_cons]
   refine .cons ?_ ih
   obtain⟨h1,h2,h3⟩:=h
   unfold putAt
   by_cases e:p.1=k
   ·rw[if_pos e,if_pos (h1.symm.trans e)];exact⟨h1,h2,ry⟩
   ·rw[if_neg e,if_neg (fun z=>e (h1.trans z))];exact⟨h1,h2,h3⟩
theorem KT.put{H:Hp}{kvs:List (List ap×V)}{xs:List (List ap×Addr×Value)}(r:KT H kvs xs)(k:List ap){b:Addr}{y:V}{u:Value}(hb:H b=some (.tup (k.map kV)))(ry:RelV y u):KT H (bD kvs k y) (storedH xs k b u):=by
 have e:(kvs.any fun kv=>decide (kv.1=k))=(atKey xs k).isSome:=by
  rw[gB,(r.val k).isSome_eq,Option.isSome_map]
 unfold bD storedH
 rw[e]
 by_cases q:(atKey xs k).isSome=true
 ·rw[if_pos q,if_pos q];exact r.repl k ry
 ·rw[if_neg q,if_neg q];exact Paired.snoc r ⟨rfl,hb,ry⟩
theorem KT.keeps{H H':Hp}{kvs:List (List ap×V)}{xs:List (List ap×Addr×Value)}(r:KT H kvs xs)(ht:∀b ys,H b=some (.tup ys)→H' b=some (.tup ys)):KT H' kvs xs:=
 Paired.mapP r fun _ _ z=>⟨z.1,ht _ _ z.2.1,z.2.2⟩
section
variable{P:Program}{w:World}{H:Hp}{h:Heap}{a:Addr}
theorem lE{u:HO}(ok:HOk P w H h)(e:Rd H a u):ObjOk P w H h a u:=e.ok ok
theorem eS{kvs:List (ap×V)}(ok:HOk P w H h)(e:Rd H a (.dK kvs)):kvs.length≤sizeLine∧(a == sysModules)=false∧∃vs,KV kvs vs∧h.DictOf (bz P w) a vs:=
 show ObjOk P w H h a (.dK kvs) from lE ok e
theorem nG{kvs:List (ap×V)}(ok:HOk P w H h)(e:H a=some (.dK kvs)):kvs.length≤sizeLine∧(a == sysModules)=false∧∃vs,KV kvs vs∧h.DictOf (bz P w) a vs:=eS ok (.inl e)
theorem eV{ks:List ap}(ok:HOk P w H h)(e:H a=some (.tup (ks.map kV))):(tupleKind (bz P w)).is h ks a:=by
 obtain⟨_,its,r,o,h1,h2,n,h3⟩:=(show ObjOk P w H h a (.tup (ks.map kV)) from ok a _ e)
 exact⟨o,its.toArray,n,h1,h2,h3,by simpa using kh r⟩
theorem eQ{kvs:List (List ap×V)}(ok:HOk P w H h)(e:Rd H a (.dT kvs)):kvs.length≤sizeLine∧(a == sysModules)=false∧∃xs,KT H kvs xs∧h.DictOfH (tupleKind (bz P w)) a xs:=by
 obtain⟨z,y,xs,r,o,es,ep,h1,h2,h3,h4,h5⟩:=(show ObjOk P w H h a (.dT kvs) from lE ok e)
 refine⟨z,y,xs,r,o,es,ep,h1,h2,h3,h4,fun x hx=>?_,h5⟩
 have all:∀{l:List (List ap×V)} {m:List (List ap×Addr×Value)},KT H l m→∀x∈m,(tupleKind (bz P w)).is h x.1 x.2.1:=by
  intro l m q
  induction q with
  | nil=>intro x hx;exact nomatch hx
  | @cons p q ps qs hq t ih=>
    intro x hx
    rcases List.mem_cons.mp hx with e | hx
    ·subst e
     exact eV ok (by rw[←hq.1];exact hq.2.1)
    ·exact ih x hx
 exact all r x hx
theorem lm{kvs:List (List ap×V)}(ok:HOk P w H h)(e:H a=some (.dT kvs)):kvs.length≤sizeLine∧(a == sysModules)=false∧∃xs,KT H kvs xs∧h.DictOfH (tupleKind (bz P w)) a xs:=eQ ok (.inl e)
end
def DGet(H:Hp)(a:Addr)(y:V)(r:Option V):Prop:=
 (∃kvs k,Rd H a (.dK kvs)∧y=kV k∧r=aY kvs k)∨∃kvs k b,Rd H a (.dT kvs)∧y=.ref b∧H b=some (.tup (k.map kV))∧r=aY kvs k
def DPut(H:Hp)(a:Addr)(y v:V)(H':Hp):Prop:=
 (∃kvs k,H a=some (.dK kvs)∧y=kV k∧kvs.length<sizeLine∧H'=upd H a (.dK (bD kvs k v)))∨
 ∃kvs k b,H a=some (.dT kvs)∧y=.ref b∧H b=some (.tup (k.map kV))∧kvs.length<sizeLine∧H'=upd H a (.dT (bD kvs k v))
theorem DGet.k{H:Hp}{a:Addr}{kvs:List (ap×V)}{k:ap}(e:H a=some (.dK kvs)):DGet H a (kV k) (aY kvs k):=.inl ⟨kvs,k,.inl e,rfl,rfl⟩
theorem DPut.k{H:Hp}{a:Addr}{kvs:List (ap×V)}{k:ap}{v:V}(e:H a=some (.dK kvs))(hl:kvs.length<sizeLine):DPut H a (kV k) v (upd H a (.dK (bD kvs k v))):=.inl ⟨kvs,k,e,rfl,hl,rfl⟩
section
variable{X:Cx}{pins:List (Addr×Obj)}{σ:St}{H:Hp}{s:Shared}{a:Addr}{y v:V}{u r:Value}{o:Option V}{A:Around}{E:Value→Shared→Prop}
theorem Inv.big(I:Inv X pins σ H s):sysModules<s.heap.objs.size:=by
 have h:mainGlobals<s.heap.objs.size:=(I.mod.glob.keeps I.bk).lt
 exact Nat.lt_trans (by decide) h
theorem qO{Q:Value→Shared→Prop}(hu:A.units+1<cLine)(I:Inv X pins σ H s)(g:DGet H a y (some v))(ry:RelV y u)(h:∀w' s',Inv X pins σ H s'→RelV v w'→Q w' s'):wpAny (model X.prog X.w) A (getItem (.ref a) u) Q E s:=by
 rcases g with⟨kvs,k,e,ey,l⟩ | ⟨kvs,k,b,e,ey,eb,l⟩
 ·subst ey
  obtain⟨z,hd,vs,rel,dd⟩:=eS I.hok e
  obtain⟨w',hw,rw'⟩:=RelO.some_of (v:=v) (o:=valueAt vs k) (by rw[l];exact rel.val k)
  exact wpAny_getItem_of (eX ry) dd.mapOf hw (h w' _ (I.tok _) rw')
 ·subst ey
  cases(show u=Value.ref b from ry)
  obtain⟨z,hd,xs,rel,dd⟩:=eQ I.hok e
  obtain⟨w',hw,rw'⟩:=RelO.some_of (v:=v) (o:=(atKey xs k).map (·.2)) (by rw[l];exact rel.val k)
  obtain⟨p,hp,hp2⟩:=Option.map_eq_some_iff.mp hw
  refine wpAny_getItem_heap (tupleKind_room_in1 hu) (eV I.hok eb) dd hp ?_
  rw[hp2]
  exact h w' _ (I.tok _) rw'
theorem rS{Q:Value→Shared→Prop}(hu:A.units+1<cLine)(I:Inv X pins σ H s)(g:DGet H a y o)(ry:RelV y u)(h:∀s',Inv X pins σ H s'→Q (.bool o.isSome) s'):wpAny (model X.prog X.w) A (compareOp .In u (.ref a)) Q E s:=by
 rcases g with⟨kvs,k,e,ey,l⟩ | ⟨kvs,k,b,e,ey,eb,l⟩
 ·subst ey
  obtain⟨z,hd,vs,rel,dd⟩:=eS I.hok e
  refine wpAny_in_of (eX ry) hd dd.mapOf ?_
  rw[←(rel.val k).isSome_eq,←l]
  exact h _ (I.tok _)
 ·subst ey
  cases(show u=Value.ref b from ry)
  obtain⟨z,hd,xs,rel,dd⟩:=eQ I.hok e
  refine wpAny_in_heap (tupleKind_room_in1 hu) (eV I.hok eb) hd dd ?_
  have q:=(rel.val k).isSome_eq
  rw[Option.isSome_map] at q
  rw[←q,←l]
  exact h _ (I.tok _)
theorem tT{Q:Value→Shared→Prop}(hu:A.units+1<cLine)(I:Inv X pins σ H s)(g:DGet H a y o)(ry:RelV y u)(h:∀s',Inv X pins σ H s'→Q (.bool (!o.isSome)) s'):wpAny (model X.prog X.w) A (compareOp .NotIn u (.ref a)) Q E s:=by
 rcases g with⟨kvs,k,e,ey,l⟩ | ⟨kvs,k,b,e,ey,eb,l⟩
 ·subst ey
  obtain⟨z,hd,vs,rel,dd⟩:=eS I.hok e
  refine wpAny_notIn_of (eX ry) hd dd.mapOf ?_
  rw[←(rel.val k).isSome_eq,←l]
  exact h _ (I.tok _)
 ·subst ey
  cases(show u=Value.ref b from ry)
  obtain⟨z,hd,xs,rel,dd⟩:=eQ I.hok e
  refine wpAny_notIn_heap (tupleKind_room_in1 hu) (eV I.hok eb) hd dd ?_
  have q:=(rel.val k).isSome_eq
  rw[Option.isSome_map] at q
  rw[←q,←l]
  exact h _ (I.tok _)
theorem fB{h':Heap}{t':Nat}{ob:HO}(I:Inv X pins σ H s)(mu:fN (H a))(hs:Heap.SameBut a s.heap h')(he:∃q,h'.get? a=some q)(new:ObjOk X.prog X.w (upd H a ob) h' a ob):Inv X pins σ (upd H a ob) {s with heap:=h',toks:=t'}:=
 I.write (x:=a) (e:=a) mu (.inl rfl) (fun b q hb z=>(hs.2 b hb).trans z) he new
theorem lp{P:Program}{w:World}{H':Hp}{h':Heap}{kvs:List (ap×V)}{vs:List (ap×Value)}(z:kvs.length≤sizeLine)(hd:(a == sysModules)=false)(rel:KV kvs vs)(dd:h'.DictOf (bz P w) a vs):ObjOk P w H' h' a (.dK kvs):=⟨z,hd,vs,rel,dd⟩
theorem qw{H':Hp}{Q:Unit→Shared→Prop}(hu:A.units+1<cLine)(I:Inv X pins σ H s)(g:DPut H a y v H')(ry:RelV y u)(rv:RelV v r)(h:∀s',Inv X pins σ H' s'→Q () s'):wpAny (model X.prog X.w) A (setItem (.ref a) u r) Q E s:=by
 rcases g with⟨kvs,k,e,ey,l,eH⟩ | ⟨kvs,k,b,e,ey,eb,l,eH⟩
 ·subst ey eH
  obtain⟨z,hd,vs,rel,dd⟩:=nG I.hok e
  have hz:vs.length≤sizeLine:=by rw[←rel.length];exact z
  have hl:(bD kvs k v).length≤sizeLine:=by have:=ij kvs k v;lia
  refine wpAny_setItem_pairs (hsz:=hz) (eX ry) dd fun h' dd' hs=>h _ ?_
  have he:∃q,h'.get? a=some q:=let ⟨q,_,_,hq,_⟩:=dd';⟨q,hq⟩
  exact fB I (by rw[e];exact True.intro) hs he (lp hl hd (rel.put k rv) dd')
 ·subst ey eH
  cases(show u=Value.ref b from ry)
  obtain⟨z,hd,xs,rel,dd⟩:=lm I.hok e
  have hz:xs.length≤sizeLine:=by rw[←Paired.length rel];exact z
  have hl:(bD kvs k v).length≤sizeLine:=by have:=ij kvs k v;lia
  refine wpAny_setItem_heap (hsz:=hz) (tupleKind_room_in1 hu) (eV I.hok eb) dd fun h' dd' hs=>h _ ?_
  obtain⟨q,es,ep,hq,h2,h3,h4,_,h5⟩:=dd'
  refine fB I (by rw[e];exact True.intro) hs ⟨q,hq⟩ ⟨hl,hd,_,(rel.put k eb rv).keeps fun c ys ec=>?_,q,es,ep,hq,h2,h3,h4,h5⟩
  rw[ao (bK ec e (fun z=>nomatch z))]
  exact ec
end
section
variable{X:Cx}{pins:List (Addr×Obj)}{σ:St}{H:Hp}{s:Shared}{a:Addr}{kvs:List (ap×V)}{k:ap}{u:Value}{A:Around}{E:Value→Shared→Prop}
end
def kD(i:Expr):Prop:=∀ov iv,subscripted i false ov iv=operate [ov,iv] (getItem ov iv)
theorem qT{prog:Program}{w:World}{A:Around}{E:Value→Shared→Prop}{s:Shared}{env:Env}{value slice:Expr}{pos:Pos}{T id:String}{Q:Value→Shared→Prop}(hl:typeLookup (.type T) "__getitem__"=pure (some (.builtin id)))(hs:kD slice)(h:wpAny (model prog w) A (eval value env) (fun o s₁=>wpAny (model prog w) A (eval slice env) (fun i s₂=>s₂.TypeIs o T∧wpAny (model prog w) A (getItem o i) Q E s₂) E s₁) E s):
 wpAny (model prog w) A (eval (.Subscript value slice pos) env) Q E s:=by
 refine Subscript_ (wpAny_mono h (fun o s₁ h₁=>wpAny_mono h₁ (fun i s₂ h₂=>?_) fun _ _ x=>x) fun _ _ x=>x)
 obtain⟨hT,h₂⟩:=h₂
 unfold subscriptTail
 refine wpAny_bind ?_
 rw[getitemInPython_of_ne hT.not_modules]
 refine wpAny_bind (wpAny_specialOf hT hl ?_)
 have fin:wpAny (model prog w) A (subscripted slice false o i) (fun r s₃=>wpAny (model prog w) A (letTemporaryGo value o r >>= fun _=>pure r) Q E s₃) E s₂:=by
  rw[hs o i]
  exact wpAny_operating (wpAny_mono h₂ (fun r s₃ h₃=>wpAny_bind (wpAny_letTemporaryGo (wpAny_pure h₃))) fun _ _ x=>x)
 first
  | exact wpAny_pure (wpAny_bind fin)
  | exact wpAny_bind (wpAny_pure (wpAny_bind fin))
  | exact wpAny_bind fin
theorem tV{X:Cx}{pins:List (Addr×Obj)}{σ:St}{H:Hp}{s:Shared}{a:Addr}{y:V}{o:Option V}(I:Inv X pins σ H s)(g:DGet H a y o):s.TypeIs (.ref a) "dict":=by
 rcases g with⟨kvs,k,e,_,_⟩ | ⟨kvs,k,b,e,_,_,_⟩
 ·obtain⟨_,_,vs,_,dd⟩:=eS I.hok e
  exact dd.typeIs
 ·obtain⟨_,_,xs,_,dd⟩:=eQ I.hok e
  exact dd.typeIs
def rD(td ty:TE):TE:=fun σ H Q=>td σ H fun x H1=>ty σ H1 fun y H2=>∃a v,x=.ref a∧DGet H2 a y (some v)∧Q v H2
def sV(td ty tv:TE):TS:=fun D σ H=>tv σ H fun v H1=>td σ H1 fun x H2=>ty σ H2 fun y H3=>∃a H4,x=.ref a∧DPut H3 a y v H4∧D.nx σ H4
section
variable{X:Cx}{o i e value:Expr}{pos pos' tpos:Pos}{td ty tv:TE}
theorem cU(hu:X.A.units+1<cLine)(ho:PE X o td)(hi:PE X i ty)(hs:kD i):PE X (.Subscript o i pos) (rD td ty):=by
 intro pins s σ H Q I h
 refine qT PySem.F.slot_dict_getitem.lookup hs (am (ho pins s σ H _ I h) fun u s1 ⟨x,H1,I1,rx,q1⟩=>am (hi pins s1 σ H1 _ I1 q1) fun iv s2 ⟨y,H2,I2,ry,a,v,ex,g,q2⟩=>?_)
 subst ex
 obtain rfl:u=Value.ref a:=rx
 exact⟨tV I2 g,qO hu I2 g ry fun w' s3 I3 rw'=>⟨v,H2,I3,rw',q2⟩⟩
theorem tP(hu:X.A.units+1<cLine)(ho:PE X o td)(hi:PE X i ty)(hv:PE X value tv)(hs:swapsWith value (some (.Subscript o i pos')) pos.line X.env=pure false):PS X (.Assign [.Subscript o i pos'] value pos) (sV td ty tv):=by
 intro pins s σ H D I h
 refine wpAny_Assign_Subscript (am (hv pins s σ H _ I h) fun r s1 ⟨v,H1,I1,rv,q1⟩=>am (ho pins s1 σ H1 _ I1 q1) fun u s2 ⟨x,H2,I2,rx,q2⟩=>am (hi pins s2 σ H2 _ I2 q2) fun iv s3 ⟨y,H3,I3,ry,a,H4,ex,g,q3⟩=>?_) hs
 subst ex
 obtain rfl:u=Value.ref a:=rx
 exact qw hu I3 g ry rv fun s4 I4=>⟨σ,H4,I4,q3⟩
end
theorem wk{P:Program}{w:World}{H:Hp}(h:Heap)(hb:sysModules<h.objs.size):ObjOk P w H (h.push {cls:=.type "dict",data:=.dict #[]}) h.objs.size (.dK []):=
 ⟨Nat.zero_le _,beq_eq_false_iff_ne.mpr (Ne.symm (Nat.ne_of_lt hb)),[],.nil,Heap.DictOf.new h⟩
theorem wf{P:Program}{w:World}{H:Hp}(h:Heap)(hb:sysModules<h.objs.size):ObjOk P w H (h.push {cls:=.type "dict",data:=.dict #[]}) h.objs.size (.dT []):=
 ⟨Nat.zero_le _,beq_eq_false_iff_ne.mpr (Ne.symm (Nat.ne_of_lt hb)),[],.nil,_,#[],0,Heap.get?_push_size _ rfl,⟨rfl,rfl,rfl⟩,rfl,rfl,List.nodup_nil⟩
def qt:TE:=fun _ H Q=>∀p,H p=none→Q (.ref p) (upd H p (.dT []))
section
variable{X:Cx}{pos:Pos}
theorem o5:PE X (.Dict [] [] pos) qt:=fun pins s σ H Q I h=>
 wpAny_Dict_empty ⟨.ref s.heap.objs.size,_,I.laid (a:=s.heap.objs.size) (o:=.dT []) (t':=s.toks) (fun _ _ q=>Heap.get?_push_of_some _ q) (Nat.le_refl _) (wf s.heap I.big),rfl,h _ (I.hok.fresh (Nat.le_refl _))⟩
end
def iz:List (TE×TE)→St→Hp→(List (V×V)→Hp→Prop)→Prop
 | [],_,H,Q=>Q [] H
 | (tk,tv)::r,σ,H,Q=>tk σ H fun x H1=>tv σ H1 fun y H2=>iz r σ H2 fun ps H3=>Q ((x,y)::ps) H3
abbrev VV:List (V×V)→List (Value×Value)→Prop:=Paired fun p q=>RelV p.1 q.1∧RelV p.2 q.2
def gS(X:Cx)(pos:Pos)(keys:List (Option Expr))(values:List Expr)(trs:List (TE×TE)):Prop:=
 ∀ (pins:List (Addr×Obj)) (s:Shared) (σ:St) (H:Hp) (Q:List (V×V)→Hp→Prop),Inv X pins σ H s→iz trs σ H Q→
   wpAny (model X.prog X.w) X.A (evalPairs (pairTrees keys values X.env pos)) (fun vs s'=>∃ps H',Inv X pins σ H' s'∧VV ps vs∧Q ps H') X.xe s
theorem o9{X:Cx}{pos:Pos}:gS X pos [] [] []:=fun pins s σ H Q I h=>pairTrees_nil_walk ⟨[],H,I,.nil,h⟩
theorem uO{X:Cx}{pos:Pos}{k v:Expr}{ks:List (Option Expr)}{vs:List Expr}{tk tv:TE}{trs:List (TE×TE)}(hk:PE X k tk)(hv:PE X v tv)(hr:gS X pos ks vs trs):gS X pos (some k::ks) (v::vs) ((tk,tv)::trs):=fun pins s σ H Q I h=>
 pairTrees_cons_walk (am (hk pins s σ H _ I h) fun u s1 ⟨x,H1,I1,rx,q1⟩=>am (hv pins s1 σ H1 _ I1 q1) fun w2 s2 ⟨y,H2,I2,ry,q2⟩=>
  am (hr pins s2 σ H2 _ I2 q2) fun ws s3 ⟨ps,H3,I3,rel,q3⟩=>⟨(x,y)::ps,H3,I3,.cons ⟨rx,ry⟩ rel,q3⟩)
def e9(kvs more:List (ap×V)):List (ap×V):=more.foldl (fun acc kv=>bD acc kv.1 kv.2) kvs
theorem KV.merge:∀{more:List (ap×V)} {rs:List (ap×Value)} {kvs:List (ap×V)} {vs:List (ap×Value)},KV more rs→KV kvs vs→KV (e9 kvs more) (merged vs rs):=by
 intro more rs kvs vs r
 unfold KV at r
 induction r generalizing kvs vs with
 | nil=>intro q;exact q
 | @cons p q ps qs h t ih=>
   intro r0
   have e:KV (bD kvs p.1 p.2) (stored vs q.1 q.2):=by
    have:=r0.put p.1 h.2
    rw[←h.1];exact this
   exact ih e
theorem kg:∀(more kvs:List (ap×V)),(e9 kvs more).length≤kvs.length+more.length
 | [],kvs=>by show kvs.length≤kvs.length+0;lia
 | p::r,kvs=>by
   have h1:=kg r (bD kvs p.1 p.2)
   have h2:=ij kvs p.1 p.2
   show(e9 (bD kvs p.1 p.2) r).length≤_
   rw[List.length_cons];lia
theorem oG{P:Program}{w:World}:∀{kvs:List (ap×V)} {ws:List (Value×Value)},VV (kvs.map fun kv=>(kV kv.1,kv.2)) ws→∃rs,Carries (bz P w) ws rs∧KV kvs rs
 | [],_,r=>by rw[List.map_nil] at r;cases r;exact⟨[],True.intro,.nil⟩
 | p::kvs,_,r=>by
   rw[List.map_cons] at r
   cases r with
   | @cons a b as bs h t=>
     obtain⟨rs,c,q⟩:=oG (P:=P) (w:=w) t
     obtain⟨b1,b2⟩:=b
     exact⟨(p.1,b2)::rs,⟨eX h.1,rfl,c⟩,.cons ⟨rfl,h.2⟩ q⟩
def wg(trs:List (TE×TE)):TE:=fun σ H Q=>∀p,H p=none→iz trs σ (upd H p (.dK [])) fun ps H2=>H2 p=some (.dK [])∧∃kvs:List (ap×V),ps=kvs.map (fun kv=>(kV kv.1,kv.2))∧kvs.length≤15∧Q (.ref p) (upd H2 p (.dK (e9 [] kvs)))
theorem vy{X:Cx}{pos:Pos}{keys:List (Option Expr)}{values:List Expr}{trs:List (TE×TE)}(h:gS X pos keys values trs)(hall:keys.all (·.isSome)=true)(hl:keys.length=values.length)(h0:keys≠ [])(h15:keys.length≤15):PE X (.Dict keys values pos) (wg trs):=by
 intro pins s σ H Q I q
 have hn:=I.hok.fresh (Nat.le_refl s.heap.objs.size)
 have I1:=I.laid (a:=s.heap.objs.size) (o:=.dK []) (h':=s.heap.push {cls:=.type "dict",data:=.dict #[]}) (t':=s.toks) (fun _ _ q=>Heap.get?_push_of_some _ q) (Nat.le_refl _) (wk s.heap I.big)
 refine wpAny_Dict_walk (knd:=bz X.prog X.w) hall hl h0 h15 (am (h pins _ σ _ _ I1 (q _ hn)) fun ws s2 ⟨ps,H2,I2,rel,e,kvs,ep,lk,q2⟩=>?_)
 subst ep
 obtain⟨rs,c,rk⟩:=oG (P:=X.prog) (w:=X.w) rel
 obtain⟨z,hd,vs0,r0,dd⟩:=nG I2.hok e
 cases r0
 refine⟨rs,c,dd,fun h' dd' hs=>⟨.ref s.heap.objs.size,_,?_,rfl,q2⟩⟩
 have hz:(e9 [] kvs).length≤sizeLine:=by
  have h1:=kg kvs []
  rw[List.length_nil] at h1
  rw[sizeLine_eq];lia
 have he:∃q,h'.get? s.heap.objs.size=some q:=let ⟨q,_,_,hq,_⟩:=dd';⟨q,hq⟩
 exact fB I2 (by rw[e];exact True.intro) hs he (lp hz hd (rk.merge .nil) dd')
structure M1(X:Cx)(o:Expr)(m:Str)(apos:Pos)(e:Expr)(cpos:Pos):Prop where
 base:attributeBase o m X.env (eval o X.env)=eval o X.env
 few:((backTo cpos (starEach [e] X.env)).all (fun x=>!x.1) && (backToKw cpos (keywordEach [] X.env)).all (fun x=>x.1.isSome)
  && decide (([e]:List Expr).length+([]:List Keyword).length+(if([]:List Keyword).isEmpty then 0 else 1)<30))=true
 line:(apos.endLine == cpos.line)=true
 trees:backTo cpos (starEach [e] X.env)=[(false,eval e X.env)]
structure M2(X:Cx)(o:Expr)(m:Str)(apos:Pos)(e f:Expr)(cpos:Pos):Prop where
 base:attributeBase o m X.env (eval o X.env)=eval o X.env
 few:((backTo cpos (starEach [e,f] X.env)).all (fun x=>!x.1) && (backToKw cpos (keywordEach [] X.env)).all (fun x=>x.1.isSome)
  && decide (([e,f]:List Expr).length+([]:List Keyword).length+(if([]:List Keyword).isEmpty then 0 else 1)<30))=true
 line:(apos.endLine == cpos.line)=true
 trees:backTo cpos (starEach [e,f] X.env)=[(false,eval e X.env),(false,eval f X.env)]
def m7(H:Hp)(a:Addr):Prop:=(∃kvs,Rd H a (.dK kvs))∨∃kvs,Rd H a (.dT kvs)
theorem rn{X:Cx}{pins:List (Addr×Obj)}{σ:St}{H:Hp}{s:Shared}{a:Addr}(I:Inv X pins σ H s)(d:m7 H a):s.TypeIs (.ref a) "dict"∧(∀b,Value.ref a=.ref b→∃ob,s.heap.get? b=some ob∧ob.dict=none)∧(a == sysModules)=false:=by
 rcases d with⟨kvs,e⟩ | ⟨kvs,e⟩
 ·obtain⟨_,hd,vs,_,dd⟩:=eS I.hok e
  refine⟨dd.typeIs,fun b q=>?_,hd⟩
  cases q
  obtain⟨ob,_,_,h1,h2,_⟩:=dd
  exact⟨ob,h1,h2.2.1⟩
 ·obtain⟨_,hd,xs,_,dd⟩:=eQ I.hok e
  refine⟨dd.typeIs,fun b q=>?_,hd⟩
  cases q
  obtain⟨ob,_,_,h1,h2,_⟩:=dd
  exact⟨ob,h1,h2.2.1⟩
section
variable{X:Cx}{pins:List (Addr×Obj)}{σ:St}{H:Hp}{s:Shared}{a:Addr}{y d:V}{u r:Value}{o:Option V}{A:Around}{E:Value→Shared→Prop}
end
section
variable{X:Cx}{o e f:Expr}{apos cpos:Pos}{td ty tx:TE}
end
section
variable{X:Cx}{pins:List (Addr×Obj)}{σ:St}{H:Hp}{s:Shared}{a:Addr}{kvs:List (ap×V)}{A:Around}{E:Value→Shared→Prop}
end
section
variable{X:Cx}{pins:List (Addr×Obj)}{σ:St}{H:Hp}{s:Shared}{a:Addr}{y:V}{u:Value}{A:Around}{E:Value→Shared→Prop}
end
section
variable{X:Cx}
theorem uU(hc:X.calm=true):bQ X (.builtin "sum") (fun xs H Q=>∃(p:Addr) (ns:List Int),xs=[.ref p]∧H p=some (.lst (ns.map V.int))∧Q (.int ns.sum) H):=by
 intro pins s σ H xs us Q I r h
 obtain⟨p,ns,rfl,hp,q⟩:=h
 obtain⟨u,rfl,rx⟩:=cV r
 cases rx
 obtain⟨_,its,n,rv,hlen,e1⟩:=I.lstM hp
 have isl:s.heap.IsList p its.toArray:=⟨_,e1,rfl,n,rfl⟩
 have below:p<s.heap.objs.size:=Heap.lt_size e1
 have hil:its.length=ns.length:=by rw[←hlen,List.length_map]
 refine call_sum_walkG (wpAny_pyIter_list isl ?_)
 refine⟨s.heap.objs.size,[s.heap.objs.size,p],[s.heap.objs.size],_,_,_,fun i=>ns.getD i 0,rfl,Walks.list (by first | exact I.ok.hd hc | (show X.A.in1.handled=none;exact I.ok.hd hc)) s.heap.objs.size p (Nat.ne_of_lt below) its.toArray,⟨⟨_,Heap.get?_push_size _ rfl,rfl,rfl⟩,isl.at fun o q=>Heap.get?_push_of_some _ q⟩,?_,?_,?_⟩
 ·intro b hb
  rw[Heap.size_push]
  simp only[List.mem_cons,List.not_mem_nil,or_false] at hb
  rcases hb with rfl | rfl
  ·exact Nat.lt_succ_self _
  ·exact Nat.lt_succ_of_lt below
 ·intro i v hv
  have hi:i<ns.length:=by
   have:=(Array.getElem?_eq_some_iff.mp hv).1
   simp at this;lia
  obtain⟨u,hu,ru⟩:=rv.get (show(ns.map V.int)[i]?=some (.int ns[i]) by simp[hi])
  have:its[i]?=some v:=by simpa using hv
  rw[hu] at this
  cases this
  obtain⟨t,rfl⟩:=ru
  exact⟨t,by simp[hi]⟩
 ·intro h' tk t' hk
  refine⟨.int ns.sum,H,?_,⟨t',?_⟩,q⟩
  ·exact I.kept (h':=h') (t':=tk) fun b o e=>hk b o (by simp;exact Nat.ne_of_lt (Heap.lt_size e)) (Heap.get?_push_of_some _ e)
  ·rw[show its.toArray.size=ns.length by simp[hil],mD _ (Nat.le_refl _),List.take_length]
variable{e:Expr}{te:TE}{p pos:Pos}
def tW(te:TE):TE:=fun σ H Q=>te σ H fun x H1=>∃(a:Addr) (ns:List Int),x=.ref a∧H1 a=some (.lst (ns.map V.int))∧Q (.int ns.sum) H1
theorem oB(hc:X.calm=true)(hm:X.mg "sum"=none)(ha:PE X e te)(hg:Gl X "sum":=by rfl)(he:starEach [e] X.env=[(false,eval e X.env)]:=by rfl):PE X (.Call (.Name "sum" p) [e] [] pos) (tW te):=
 cI (r:=r1 fun x H Q=>∃(a:Addr) (ns:List Int),x=.ref a∧H a=some (.lst (ns.map V.int))∧Q (.int ns.sum) H) (cF fun pins s σ H x us Q I rv ⟨a,ns,ex,h1,q⟩=>uU hc pins s σ H _ us Q I rv ⟨a,ns,by rw[ex],h1,q⟩) hg hm uw (aa ha ac (by exact he)) (he:=by exact he)
end
section
variable{prog:Program}{w:World}{κ:Type}[DecidableEq κ]{knd:HeapKind prog w κ}{A:Around}{E:Value→Shared→Prop}{s:Shared}
theorem tG{d c:Addr}{xs:List (κ×Addr×Value)}{k:κ}{v:Value}{R:Value→Shared→Prop}(room:knd.room A)(isk:knd.is s.heap k c)(hm:s.heap.DictOfH knd d xs)(old:∀p,atKey xs k=some p→R p.2 {s with toks:=s.toks+knd.draws k})(new:atKey xs k=none→∀h',h'.DictOfH knd d (xs++[(k,c,v)])→Heap.SameBut d s.heap h'→R v {s with heap:=h',toks:=s.toks+knd.draws k})(few:xs.length≤sizeLine):wpAny (model prog w) A (dictSetDefault d (.ref c) v) R E s:=by
 obtain⟨o,es,ep,ho,hc,hd,he,his,hn⟩:=id hm
 unfold dictSetDefault;try with_reducible refine wpAny_holding ?_
 refine wpAny_bind (knd.pyHash room isk (wpAny_bind (wpAny_dictFind_heap (s:={s with toks:=s.toks+knd.draws k}) room isk ho hd he his hn (fun hno=>?_) fun j p hj=>?_)))
 ·have fresh:=not_mem_keys_of_get hno
  have none:=atKey_none_of_get hno
  refine wpAny_bind (wpAny_rule (wpAny_bind (wpAny_updateDictKeys (hz:=by have e:=size_of_entries he;lia) (s:={s with toks:=s.toks+knd.draws k}) ho hd (wpAny_pure (new none _ ⟨_,_,ep+1,Heap.get?_update_self _ ho (Obj.isFreed_of_dict (Obj.data_mapDictKeys hd _)),hc.mapDictKeys _,Obj.data_mapDictKeys hd _,?_,?_,?_⟩ (Heap.SameBut.update ..))))))
  ·simp[he,entryOfKey]
  ·intro x hx
   rcases List.mem_append.mp hx with hl | hx
   ·exact knd.keeps (his x hl) ho hd (Heap.SameBut.update ..)
   ·rw[List.mem_singleton.mp hx]
    exact knd.keeps isk ho hd (Heap.SameBut.update ..)
  ·rw[List.map_append,List.nodup_append];refine⟨hn,by simp,fun x hx y hy e=>?_⟩
   have hy':y=k:=by simpa using hy
   exact fresh (hy'▸e▸hx)
 ·refine wpAny_bind (wpAny_dictEntries (s:={s with toks:=s.toks+knd.draws k}) ho hd ?_)
  rw[entry_at he j,hj]
  exact wpAny_bind (wpAny_rule (wpAny_pure (old p (atKey_of_get hn hj))))
theorem sD(knd:HeapKind prog w κ)(d c:Addr)(hd:(d == sysModules)=false)(v:Value):MeetsIn prog w (Builtin.«dict.setdefault» ⟨[.ref d,.ref c,v],[]⟩) (fun A R s=>knd.room A.in1∧∃k xs,knd.is s.heap k c∧s.heap.DictOfH knd d xs∧xs.length≤sizeLine∧
 (∀p,atKey xs k=some p→R (.ok (.ret p.2)) {s with toks:=s.toks+knd.draws k})∧
 (atKey xs k=none→∀h',h'.DictOfH knd d (xs++[(k,c,v)])→Heap.SameBut d s.heap h'→R (.ok (.ret v)) {s with heap:=h',toks:=s.toks+knd.draws k})):=
 .of_wp fun A R s ⟨room,k,xs,isk,hm,few,old,new⟩=>by
  unfold Builtin.«dict.setdefault»;refine wpAny_bind ?_
  unfold Builtin.Dict.keyAndDefault;refine wpAny_bind (wpAny_notOrdered_dict hm.typeIs ?_);show wpAny _ _ (pure (d,Value.ref c,some v)) _ _ s
  refine wpAny_pure ?_
  show wpAny _ _ (if(d == sysModules)=true then _ else(dictSetDefault d (.ref c) v >>= _)) _ _ s
  rw[if_neg (by rw[hd];decide)]
  exact wpAny_bind (tG room isk hm (fun p hp=>wpAny_pure ⟨p.2,rfl,old p hp⟩) (fun hn h' hm' sb=>wpAny_pure ⟨v,rfl,new hn h' hm' sb⟩) few)
end
theorem KT.snoc{H:Hp}{kvs:List (List ap×V)}{xs:List (List ap×Addr×Value)}(r:KT H kvs xs){k:List ap}{c:Addr}{y:V}{u:Value}(hc:H c=some (.tup (k.map kV)))(ry:RelV y u):KT H (kvs++[(k,y)]) (xs++[(k,c,u)]):=
 Paired.snoc r ⟨rfl,hc,ry⟩
section
variable{X:Cx}{pins:List (Addr×Obj)}{σ:St}{H:Hp}{s:Shared}{a c:Addr}{kvs:List (List ap×V)}{k:List ap}{v:V}{r:Value}{A:Around}{E:Value→Shared→Prop}
theorem sN{R:Value→Shared→Prop}(room:A.units+1<cLine)(I:Inv X pins σ H s)(e:H a=some (.dT kvs))(ec:H c=some (.tup (k.map kV)))(rv:RelV v r)(few:kvs.length<sizeLine)(old:∀y,aY kvs k=some y→∀u s',Inv X pins σ H s'→RelV y u→R u s')(new:aY kvs k=none→∀s',Inv X pins σ (upd H a (.dT (kvs++[(k,v)]))) s'→R r s'):wpAny (model X.prog X.w) A (call (.builtin "dict.setdefault") [.ref a,.ref c,r]) R E s:=by
 obtain⟨z,hd,xs,rel,dd⟩:=lm I.hok e
 have hl:xs.length=kvs.length:=(Paired.length rel).symm
 have val:=rel.val k
 refine call_meetsIn PySem.F.slot_dict_setdefault dd.typeIs PySem.F.entry_dict_setdefault (PySem.F.args_dict_setdefault_3 _ _ _) (sD (tupleKind (bz X.prog X.w)) a c hd r) ⟨tupleKind_room_in1 room,k,xs,eV I.hok ec,dd,by lia,fun p hp=>?_,fun hn h' dd' sb=>?_⟩
 ·rw[hp] at val
  cases q:aY kvs k with
  | none=>rw[q] at val;exact(show False from val).elim
  | some y=>
    rw[q] at val
    exact old y q _ _ (I.tok _) val
 ·have q:aY kvs k=none:=by
   cases q:aY kvs k with
   | none=>rfl
   | some y=>rw[q,hn] at val;exact(show False from val).elim
  refine new q _ ?_
  obtain⟨ob,es,ep,h1,h2,h3,h4,_,h5⟩:=dd'
  refine fB I (by rw[e];exact True.intro) sb ⟨ob,h1⟩ ⟨by rw[List.length_append,List.length_singleton];lia,hd,_,(rel.snoc ec rv).keeps fun b ys eb=>?_,ob,es,ep,h1,h2,h3,h4,h5⟩
  rw[ao (bK eb e (fun z=>nomatch z))]
  exact eb
end
def qV(td ty tx:TE):TE:=fun σ H Q=>td σ H fun x H1=>∃a,x=.ref a∧m7 H1 a∧ty σ H1 fun y H2=>tx σ H2 fun z H3=>∃c kvs k,y=.ref c∧H3 a=some (.dT kvs)∧H3 c=some (.tup (k.map kV))∧kvs.length<sizeLine∧
 (∀v,aY kvs k=some v→Q v H3)∧(aY kvs k=none→Q z (upd H3 a (.dT (kvs++[(k,z)]))))
theorem rp{X:Cx}{o e f:Expr}{apos cpos:Pos}{td ty tx:TE}(room:X.A.units+1<cLine)(ho:PE X o td)(he:PE X e ty)(hf:PE X f tx)(m:M2 X o "setdefault" apos e f cpos):PE X (.Call (.Attribute o "setdefault" apos) [e,f] [] cpos) (qV td ty tx):=by
 intro pins s σ H Q I h
 refine wpAny_Call_method m.base m.few m.line PySem.F.plainAttrs_dict PySem.F.slot_dict_setdefault PySem.F.type_dict_setdefault (am (ho pins s σ H _ I h) fun u s1 ⟨x,H1,I1,rx,a,ex,d,q1⟩=>?_)
 subst ex
 obtain rfl:u=Value.ref a:=rx
 obtain⟨t1,t2,_⟩:=rn I1 d
 refine⟨t1,t2,?_⟩
 rw[m.trees]
 refine Calls.callWith_builtin rfl (Calls.evalArgs_plain (Calls.spliced_cons (am (he pins s1 σ H1 _ I1 q1) fun iv s2 ⟨y,H2,I2,ry,q2⟩=>
  Calls.spliced_cons (am (hf pins s2 σ H2 _ I2 q2) fun fv s3 ⟨z,H3,I3,rz,c,kvs,k,ey,ea,ec,few,old,new⟩=>Calls.spliced_nil ?_))))
 subst ey
 obtain rfl:iv=Value.ref c:=ry
 exact sN room I3 ea ec rz few (fun v hv u s4 I4 ru=>⟨v,H3,I4,ru,old v hv⟩) fun hn s4 I4=>⟨z,_,I4,rz,new hn⟩
section
variable{X:Cx}{e:Expr}{te:TE}{p pos:Pos}
def tF(K:PySem.W.Frag)(te:TE):TE:=fun σ H Q=>te σ H fun x H1=>∃a ys,x=.ref a∧SqL K H1 a ys∧∀l,H1 l=none→Q (.ref l) (upd H1 l (.tup ys))
theorem pD(hm:X.mg "tuple"=none)(ha:PE X e te)(hg:Gl X "tuple":=by rfl)(he:starEach [e] X.env=[(false,eval e X.env)]:=by rfl):PE X (.Call (.Name "tuple" p) [e] [] pos) (tF X.K te):=
 fF (r:=r1 fun x H Q=>∃a ys,x=.ref a∧SqL X.K H a ys∧∀l,H l=none→Q (.ref l) (upd H l (.tup ys))) (cF fun pins s σ H x us Q I rv ⟨a,ys,ex,h,q⟩=>uA pins s σ H _ us Q I rv ⟨a,ys,by rw[ex],.inl ⟨h,q⟩⟩) hg hm oV (aa ha ac (by exact he)) (he:=by exact he)
end
theorem Inv.still{X:Cx}{pins:List (Addr×Obj)}{σ:St}{H:Hp}{s:Shared}{a:Addr}{kvs:List (List ap×V)}(I:Inv X pins σ H s)(e:H a=some (.dT kvs)):∃o,s.heap.get? a=some o∧Inv X pins σ (upd H a (.frz o (.dT kvs))) s:=by
 obtain⟨z,hd,xs,rel,o,es,ep,h1,h2,h3,h4,h5⟩:=(show ObjOk X.prog X.w H s.heap a (.dT kvs) from I.hok a _ e)
 refine⟨o,h1,fB (h':=s.heap) (t':=s.toks) I (by rw[e];exact True.intro) ⟨rfl,fun _ _=>rfl⟩ ⟨o,h1⟩ ⟨h1,z,hd,xs,KT.keeps rel fun b ys eb=>?_,o,es,ep,h1,h2,h3,h4,h5⟩⟩
 rw[ao (bK eb e (fun z=>nomatch z))]
 exact eb
section
variable{prog:Program}{w:World}{A:Around}{E:Value→Shared→Prop}{s:Shared}{it d:Addr}{i n ep:Nat}{od:Obj}{es:Array DictEntry}
end
theorem jz{α β:Type}{F:α→β→Prop}:∀{l₁:List α} {l₂:List β} {i:Nat} {x:α},Paired F l₁ l₂→l₁[i]?=some x→∃y,l₂[i]?=some y∧F x y
 | _,_,0,_,.cons r _,h=>⟨_,rfl,by cases h;exact r⟩
 | _,_,i+1,_,.cons _ t,h=>by
   obtain⟨y,e,r⟩:=jz (i:=i) t (by simpa using h)
   exact⟨y,by simpa using e,r⟩
theorem kH{X:Cx}{pins:List (Addr×Obj)}{σ:St}{H:Hp}{s:Shared}{d:Addr}{o:Obj}{kvs:List (List ap×V)}(I:Inv X pins σ H s)(e:H d=some (.frz o (.dT kvs))){es:Array DictEntry}{ep:Nat}(eo:o.data=.dict es ep):s.heap.get? d=some o∧es.size=kvs.length∧∀(i:Nat) (k:List ap) (x:V),kvs[i]?=some (k,x)→∃en:DictEntry,es[i]?=some en∧RelV x en.val:=by
 obtain⟨e1,z,hd,xs,rel,o',es',ep',h1,h2,h3,h4,h5⟩:=(show ObjOk X.prog X.w H s.heap d (.frz o (.dT kvs)) from I.hok d _ e)
 rw[e1] at h1
 cases h1
 rw[eo] at h3
 cases h3
 refine⟨e1,by rw[size_of_entries h4,Paired.length rel],fun i k x hx=>?_⟩
 obtain⟨y,hy,ry⟩:=jz rel hx
 exact⟨_,by rw[entry_at h4 i,hy];rfl,ry.2.2⟩
abbrev TF:=St→Hp→(Hp→Prop)→Prop
def iM(X:Cx)(e:Expr)(t:TF):Prop:=∀(pins:List (Addr×Obj)) (s:Shared) (σ:St) (H:Hp) (Q:Hp→Prop),Inv X pins σ H s→t σ H Q→
 wpAny (model X.prog X.w) X.A (eval e X.env) (fun v s1=>∃y k,v=.str y k∧y.length≤2000∧∃H',Inv X pins σ H' s1∧Q H') X.xe s
def gO(X:Cx)(es:List Expr)(t:TF):Prop:=∀(pins:List (Addr×Obj)) (s:Shared) (σ:St) (H:Hp) (Q:Hp→Prop) (out:Str),out.length+2000*es.length≤16777216→Inv X pins σ H s→t σ H Q→
 wpAny (model X.prog X.w) X.A (joinParts out (evalEach es X.env)) (fun v s1=>∃y k,v=.str y k∧∃H',Inv X pins σ H' s1∧Q H') X.xe s
section
variable{X:Cx}
theorem mI{x:Str}{j:Nat}{pos:Pos}(hl:x.length≤2000):iM X (.Constant (.str x) j pos) (fun _ H Q=>Q H):=fun pins s σ H Q I h=>Calls.Constant_str ⟨x,_,rfl,hl,H,I.tok _,h⟩
theorem mK{e:Expr}{te:TE}{pos:Pos}(he:PE X e te):iM X (.FormattedValue e (-1) none pos) (fun σ H Q=>te σ H fun x H'=>∃i:Int,x=.int i∧i.natAbs.log2<1900∧Q H'):=fun pins s σ H Q I h=>by
 refine FormattedValue_plain (am (he pins s σ H _ I h) fun v s1 ⟨x,H1,I1,rx,i,ex,hi,q⟩=>?_)
 subst ex
 obtain⟨k,rfl⟩:=rx
 refine formatField_int_small (by lia) ⟨_,_,rfl,?_,H1,?_,q⟩
 ·have:=int_text_length_le (a:=i) (k:=1900) (by decide) hi
  rw[PySem.ofString_length]
  lia
 ·exact I1.kept (h':=s1.heap) (t':=s1.toks+1+1) fun _ _ q=>q
theorem qC:gO X [] (fun _ H Q=>Q H):=fun pins s σ H Q out hl I h=>joinParts_nil ⟨out,_,rfl,H,I.tok _,h⟩ (by show out.length≤2 ^ 24;simp at hl;lia)
theorem ip{e:Expr}{es:List Expr}{t u:TF}(he:iM X e t)(hr:gO X es u)(hs:evalEach (e::es) X.env=eval e X.env::evalEach es X.env:=by rfl):gO X (e::es) (fun σ H Q=>t σ H fun H'=>u σ H' Q):=fun pins s σ H Q out hl I h=>by
 rw[hs]
 refine joinParts_cons (wpAny_mono (he pins s σ H _ I h) (fun v s1 ⟨y,k,ev,hy,H1,I1,q⟩=>?_) fun _ _ z=>z)
 subst ev
 have len:(out++y).length=out.length+y.length:=strLen_append _ _
 have hl':out.length+2000*(es.length+1)≤16777216:=hl
 refine⟨by rw[len];show _≤2 ^ 24;lia,hr pins s1 σ H1 Q (out++y) (by rw[len];lia) I1 q⟩
def sk(t:TF):TE:=fun σ H Q=>t σ H fun H'=>∀z:Str,Q (.str z) H'
theorem si{e e2:Expr}{es:List Expr}{t:TF}{pos:Pos}(h:gO X (e::e2::es) t)(few:es.length≤100)(hs:evalEach (e::e2::es) X.env=eval e X.env::eval e2 X.env::evalEach es X.env:=by rfl):PE X (.JoinedStr (e::e2::es) pos) (sk t):=fun pins s σ H Q I q=>by
 have:=h pins s σ H _ Str.empty (by show 0+2000*(es.length+2)≤16777216;lia) I q
 rw[hs] at this
 refine JoinedStr_many (wpAny_mono this (fun v s1 ⟨y,k,ev,H1,I1,q1⟩=>?_) fun _ _ z=>z)
 subst ev
 exact⟨.str y,H1,I1,⟨k,rfl⟩,q1 y⟩
end
section
variable{prog:Program}{w:World}{A:Around}{E:Value→Shared→Prop}{s:Shared}{it d:Addr}{i n ep:Nat}{od:Obj}{es:Array DictEntry}
theorem oT(d:Addr)(hd:(d == sysModules)=false):MeetsIn prog w (Builtin.«dict.items» ⟨[.ref d],[]⟩) (fun _ R s=>s.TypeIs (.ref d) "dict"∧R (.ok (.ret (.ref s.heap.objs.size))) ({s with heap:=s.heap.push {cls:=.type "dict_items",data:=.fields #[.ref d]}}:Shared)):=
 .of_wp fun A R s ⟨ty,q⟩=>by
  refine wpAny_bind ?_;unfold Builtin.Dict.noArgs
  refine wpAny_bind (wpAny_notOrdered_dict ty ?_)
  show wpAny _ _ (pure d) _ _ s
  refine wpAny_pure ?_;show wpAny _ _ (Builtin.Dict.showsAll d >>= _) _ _ s
  unfold Builtin.Dict.showsAll;rw[if_neg (by rw[hd];decide)]
  exact wpAny_bind (wpAny_pure (wpAny_bind (wpAny_newObj_type (wpAny_pure ⟨_,rfl,q⟩))))
theorem uI{v:Addr}{Q:Value→Shared→Prop}(hv:s.heap.IsItemsView v d)(e1:s.heap.get? d=some od)(e2:od.data=.dict es ep)(e3:es.size=n)(q:Q (.ref s.heap.objs.size) {s with heap:=s.heap.push {cls:=.type "dict_itemiterator",data:=.fields #[.none,.bool false,.ref d,.int 0 0,.int n 0,.int ep 0,.none,.none]}}):wpAny (model prog w) A (pyIter (.ref v)) Q E s:=by
 obtain⟨vo,v1,v2,v3⟩:=id hv
 refine wpAny_pyIter_slot hv.typeIs F.slot_dict_items_iter (wpAny_call_entry F.slot_dict_items_iter hv.typeIs F.entry_dict_items_iter ?_ (F.args_dict_items_iter_1 _));unfold Builtin.«dict_items.__iter__»;refine wpAny_bind (wpAny_pure (wpAny_bind ?_))
 unfold Builtin.Dict_items.dictOf;refine wpAny_bind (wpAny_field v1 v3 (x:=.ref d) rfl (wpAny_pure (wpAny_bind ?_)))
 unfold Builtin.Dict_items.newIterator;refine wpAny_bind (wpAny_dictEntries e1 e2 (wpAny_bind (wpAny_dictEpoch e1 e2 ?_)))
 simp only[show Builtin.Dict_items.ownsTuple "dict_itemiterator"=true by decide,if_true]
 refine wpAny_newObj_type (wpAny_pure ⟨_,rfl,"dict_itemiterator",_,⟨_,Heap.get?_push_size _ rfl,rfl⟩,F.slot_dict_itemiterator_next.lookup,?_⟩) (by simp only[sizeOk,Builtin.Dict_items.ownedTupleFields,List.size_toArray,List.length_append,List.length_cons,List.length_nil,sizeLine_eq];lia);simpa [rawInt,e3,Builtin.Dict_items.ownedTupleFields] using q
theorem uY{en:DictEntry}{ok ov:Value}{Q:Option Value→Shared→Prop}(hit:IsItemIter s.heap it d i n ep ok ov)(e1:s.heap.get? d=some od)(e2:od.data=.dict es ep)(e3:es.size=n)(e4:es[i]?=some en)(q:∀h',IsItemIterOut h' it d (i+1) n ep en.key en.val s.heap.objs.size→h'.get? s.heap.objs.size=some {cls:=.type "tuple",data:=.seq #[en.key,en.val]}→(∀b o,b≠it→s.heap.get? b=some o→h'.get? b=some o)→Q (some (.ref s.heap.objs.size)) {s with heap:=h'}):wpAny (model prog w) A (pyNext (.ref it)) Q E s:=by
 obtain⟨hq0,gn,dw,tkk,ost⟩:=s
 obtain⟨lt,eg⟩:=Array.getElem?_eq_some_iff.mp e4
 have tyi:Shared.TypeIs ⟨hq0,gn,dw,tkk,ost⟩ (.ref it) "dict_itemiterator":=⟨_,hit,rfl⟩
 unfold pyNext;refine wpAny_bind (wpAny_attempt (wpAny_callSpecial?_slot (name:=Str.ofString "__next__") tyi F.slot_dict_itemiterator_next (wpAny_call_entry F.slot_dict_itemiterator_next tyi F.entry_dict_itemiterator_next ?_ (F.args_dict_itemiterator_next_1 _))))
 refine wpAny_bind (wpAny_pure (wpAny_bind (wpAny_bind ?_)))
 first | refine wpAny_bind (wpAny_typeNameOfWhole_itemiter tyi (wpAny_pure (wpAny_bind (wpAny_fieldsOf hit rfl ?_)))) | refine wpAny_bind (wpAny_typeNameOf_itemiter tyi (wpAny_pure (wpAny_bind (wpAny_fieldsOf hit rfl ?_))))
 simp only[show Builtin.Dict_items.ownsTuple "dict_itemiterator"=true by decide,if_true]
 show wpAny _ _ (if(Value.ref d == Value.none)=true then _ else _) _ _ _;rw[if_neg (show¬((Value.ref d == Value.none)=true) by exact Bool.false_ne_true)]
 refine wpAny_bind (wpAny_pure (wpAny_bind (wpAny_dictEntries e1 e2 ?_)))
 rw[if_neg (by rw[e3];simp)];refine wpAny_bind (wpAny_pure (wpAny_bind (wpAny_dictEpoch e1 e2 ?_)))
 rw[if_neg (by simp)];refine wpAny_pure ?_
 simp only[show¬((i:Int)<0) by lia,if_false,Int.toNat_natCast,e4]
 refine wpAny_bind ?_
 first | refine wpAny_bind (wpAny_typeNameOfWhole_itemiter tyi (wpAny_pure (wpAny_bind (wpAny_isOneOf_itemiter tyi ?_)))) | refine wpAny_bind (wpAny_typeNameOf_itemiter tyi (wpAny_pure (wpAny_bind (wpAny_isOneOf_itemiter tyi ?_))))
 show wpAny _ _ (setField (.ref it) 3 (rawInt ((i:Int)+1)) >>= _) _ _ ⟨hq0,gn,dw,tkk,ost⟩;refine wpAny_bind (wpAny_setField_rec hit (by simp) fun ga0 gea0 gsa0=>?_)
 replace gsa0:Heap.SameBut it hq0 ga0:=gsa0
 replace gea0:IsItemIter ga0 it d (i+1) n ep ok ov:=by
  have ei:((i+1:Nat):Int)=(i:Int)+1:=by lia
  unfold IsItemIter;rw[ei];simpa [rawInt] using gea0
 have gTa0:Shared.TypeIs ⟨ga0,gn,dw,tkk,ost⟩ (.ref it) "dict_itemiterator":=⟨_,gea0,rfl⟩
 refine wpAny_bind (wpAny_holding (wpAny_bind (wpAny_isOneOf_itemiter gTa0 (wpAny_bind (wpAny_isOneOf_itemiter gTa0 ?_)))))
 show wpAny _ _ (Builtin.Dict_items.pairFromOwner (.ref it) 6 en.key en.val) _ _ ⟨ga0,gn,dw,tkk,ost⟩;unfold Builtin.Dict_items.pairFromOwner
 refine wpAny_bind (wpAny_newTuple (?_))
 have geb0:IsItemIter (ga0.push {cls:=.type "tuple",data:=.seq #[en.key,en.val]}) it d (i+1) n ep ok ov:=Heap.get?_push_of_some _ gea0
 generalize ggb0:ga0.push {cls:=.type "tuple",data:=.seq #[en.key,en.val]}=gb0 at geb0
 have gza0:ga0.objs.size=hq0.objs.size:=gsa0.1
 have nil':hq0.objs.size≠it:=Nat.ne_of_gt (Heap.lt_size hit)
 have gtb0:gb0.get? hq0.objs.size=some {cls:=.type "tuple",data:=.seq #[en.key,en.val]}:=by rw[←ggb0,←gza0];exact Heap.get?_push_size _ rfl
 have gkb0:∀b o,b≠it→hq0.get? b=some o→gb0.get? b=some o:=fun b o hb e=>by rw[←ggb0];exact Heap.get?_push_of_some _ (gsa0.extBut b o hb e)
 show wpAny _ _ (Builtin.Dict_items.ownedTupleIsFree (.ref it) >>= _) _ _ ⟨gb0,gn,dw,tkk,ost⟩;rw[gza0]
 refine wpAny_bind ?_;unfold Builtin.Dict_items.ownedTupleIsFree
 refine wpAny_bind (wpAny_field geb0 rfl (x:=.none) rfl (wpAny_pure ?_));simp only[if_true]
 refine wpAny_bind (wpAny_field geb0 rfl (x:=ok) rfl (wpAny_bind (wpAny_field geb0 rfl (x:=ov) rfl (wpAny_bind (wpAny_setField_rec geb0 (by simp) fun gc0 gec0 gsc0=>?_)))))
 replace gsc0:Heap.SameBut it gb0 gc0:=gsc0
 replace gec0:IsItemIter gc0 it d (i+1) n ep en.key ov:=gec0
 refine wpAny_bind (wpAny_setField_rec gec0 (by simp) fun gd0 ged0 gsd0=>wpAny_bind (wpAny_setField_rec ged0 (by simp) fun ge0 gee0 gse0=>?_))
 replace gsd0:Heap.SameBut it gc0 gd0:=gsd0
 replace gse0:Heap.SameBut it gd0 ge0:=gse0
 replace gee0:IsItemIterOut ge0 it d (i+1) n ep en.key en.val hq0.objs.size:=gee0
 refine wpAny_bind (wpAny_setField_rec gee0 (by simp) fun gf0 gef0 gsf0=>?_)
 replace gsf0:Heap.SameBut it ge0 gf0:=gsf0
 replace gef0:IsItemIterOut gf0 it d (i+1) n ep en.key en.val hq0.objs.size:=gef0
 have kk:∀b o,b≠it→gb0.get? b=some o→gf0.get? b=some o:=fun b o hb e=>gsf0.extBut b o hb (gse0.extBut b o hb (gsd0.extBut b o hb (gsc0.extBut b o hb e)))
 exact wpAny_bind (wpAny_letGo (wpAny_pure (wpAny_pure ⟨_,rfl,wpAny_pure (q gf0 gef0 (kk _ _ nil' gtb0) fun b o hb e=>kk b o hb (gkb0 b o hb e))⟩)))
theorem pe{ok ov:Value}{Q:Option Value→Shared→Prop}(calm:A.handled=none)(hit:IsItemIter s.heap it d i n ep ok ov)(e1:s.heap.get? d=some od)(e2:od.data=.dict es ep)(e3:es.size=n)(e4:n≤i)(q:∀h',Heap.ExtBut it s.heap h'→Q none {s with heap:=h'}):wpAny (model prog w) A (pyNext (.ref it)) Q E s:=by
 have tyi:s.TypeIs (.ref it) "dict_itemiterator":=⟨_,hit,rfl⟩
 unfold pyNext;refine wpAny_bind (wpAny_attempt (wpAny_callSpecial?_slot (name:=Str.ofString "__next__") tyi F.slot_dict_itemiterator_next (wpAny_call_entry F.slot_dict_itemiterator_next tyi F.entry_dict_itemiterator_next ?_ (F.args_dict_itemiterator_next_1 _))))
 refine wpAny_bind (wpAny_pure (wpAny_bind (wpAny_bind ?_)))
 first | refine wpAny_bind (wpAny_typeNameOfWhole_itemiter tyi (wpAny_pure (wpAny_bind (wpAny_fieldsOf hit rfl ?_)))) | refine wpAny_bind (wpAny_typeNameOf_itemiter tyi (wpAny_pure (wpAny_bind (wpAny_fieldsOf hit rfl ?_))))
 simp only[show Builtin.Dict_items.ownsTuple "dict_itemiterator"=true by decide,if_true]
 show wpAny _ _ (if(Value.ref d == Value.none)=true then _ else _) _ _ s;rw[if_neg (show¬((Value.ref d == Value.none)=true) by exact Bool.false_ne_true)]
 refine wpAny_bind (wpAny_pure (wpAny_bind (wpAny_dictEntries e1 e2 ?_)))
 rw[if_neg (by rw[e3];simp)];refine wpAny_bind (wpAny_pure (wpAny_bind (wpAny_dictEpoch e1 e2 ?_)))
 rw[if_neg (by simp)];refine wpAny_pure ?_
 simp only[show¬((i:Int)<0) by lia,if_false,Int.toNat_natCast,Array.getElem?_eq_none (show es.size≤i by lia)]
 refine wpAny_bind ?_
 first | refine wpAny_bind (wpAny_typeNameOfWhole_itemiter tyi (wpAny_pure ?_)) | refine wpAny_bind (wpAny_typeNameOf_itemiter tyi (wpAny_pure ?_))
 show wpAny _ _ (setField (.ref it) 2 .none >>= _) _ _ s;refine wpAny_bind (wpAny_setField hit rfl (by simp) ?_)
 show wpAny _ _ (newExc (.type "StopIteration") [] >>= _) _ _ _;refine wpAny_bind ?_
 simp only[newExc,newTuple];refine wpAny_bind (wpAny_newObj_type ?_ (by size_fits))
 refine wpAny_bind (m:=firstArgMember _ _) (wpAny_of_eq (a:=Value.none) (by first | (simp only[firstArgMember];rfl) | rfl) ?_)
 refine wpAny_newObj_type ?_ (by size_fits);simp only[raiseNew]
 refine wpAny_bind (wpAny_handled ?_);rw[show A.in1.handled=none from calm]
 refine wpAny_bind (wpAny_pure (wpAny_throw ?_));refine wpAny_bind (wpAny_isInstance (T:="StopIteration") (b:=true) ⟨_,Heap.get?_push_size _ rfl,rfl⟩ isSubtype_stop (wpAny_pure ?_))
 exact q _ (((Heap.SameBut.update ..).extBut.push _).push _)
end
def eW(d:Addr)(o:Obj)(kvs:List (List ap×V)):It:=
 ⟨fun i H=>H d=some (.frz o (.dT kvs))∧i<kvs.length,fun i H x H'=>∃k v ka p,kvs[i]?=some (k,v)∧H ka=some (.tup (k.map kV))∧H p=none∧H'=upd H p (.tup [.ref ka,v])∧x=.ref p,fun i H=>H d=some (.frz o (.dT kvs))∧kvs.length≤i⟩
theorem uK{X:Cx}{pins:List (Addr×Obj)}{σ:St}{H:Hp}{s:Shared}{d:Addr}{o:Obj}{kvs:List (List ap×V)}(I:Inv X pins σ H s)(e:H d=some (.frz o (.dT kvs))){es:Array DictEntry}{ep:Nat}(eo:o.data=.dict es ep):∀(i:Nat) (k:List ap) (x:V),kvs[i]?=some (k,x)→∃(en:DictEntry) (ka:Addr),es[i]?=some en∧RelV x en.val∧en.key=.ref ka∧H ka=some (.tup (k.map kV)):=by
 obtain⟨e1,z,hd,xs,rel,o',es',ep',h1,h2,h3,h4,h5⟩:=(show ObjOk X.prog X.w H s.heap d (.frz o (.dT kvs)) from I.hok d _ e)
 rw[e1] at h1
 cases h1
 rw[eo] at h3
 cases h3
 intro i k x hx
 obtain⟨y,hy,ry⟩:=jz rel hx
 exact⟨_,y.2.1,by rw[entry_at h4 i,hy];rfl,ry.2.2,rfl,ry.2.1⟩
theorem tH{P:Program}{w:World}{K:PySem.W.Frag}{els:List Expr}{kk:Nat}{tp:Pos}(d it:Addr)(o:Obj)(kvs:List (List ap×V)){es:Array DictEntry}{ep:Nat}(eo:o.data=.dict es ep):Turn P w K (.Tuple els kk tp) (eW d o kvs) [it] it (fun i h=>∃ok ov,IsItemIter h it d i kvs.length ep ok ov) where
 mem:=by simp
 obj:=fun i h st b hb=>by
  obtain rfl:b=it:=by simpa using hb
  obtain⟨ok,ov,st⟩:=st
  exact⟨_,st,fun v q=>by have q':Data.fields _=Data.cell v:=q;cases q'⟩
 keep:=fun i h h' st k=>by
  obtain⟨ok,ov,st⟩:=st
  exact⟨ok,ov,k it (by simp) _ st⟩
 item:=by
  intro X hP hw hK hc i pins s σ H E I hf st hg
  subst hP hw hK
  obtain⟨he,hi⟩:=hg
  obtain⟨ok,ov,st⟩:=st
  obtain⟨e1,e3,_⟩:=kH I he eo
  obtain⟨en,ka,e4,ry,ek,hka⟩:=uK I he eo i kvs[i].1 kvs[i].2 (List.getElem?_eq_getElem hi)
  refine uY st e1 eo e3 e4 fun h' out hnew keep=>⟨_,rfl,?_⟩
  refine wpAny_letOwnedTupleGo_items (s:={s with heap:=h'}) out fun h'' y1 sb=>?_
  have nz:s.heap.objs.size≠it:=Nat.ne_of_gt (Heap.lt_size st)
  have hnew2:=sb.extBut _ _ nz hnew
  have kk:∀c u,c∉ [it]→s.heap.get? c=some u→h''.get? c=some u:=fun c u hc e=>by
   have hc':c≠it:=by simpa using hc
   exact sb.extBut _ _ hc' (keep c u hc' e)
  have I1:Inv X pins σ (upd H s.heap.objs.size (.tup [.ref ka,kvs[i].2])) {s with heap:=h'',toks:=s.toks}:=I.turnLaid hf kk (Nat.le_refl _) ⟨by show 2≤sizeLine;decide,[en.key,en.val],.cons ek (.cons ry .nil),⟨_,hnew2,rfl,_,rfl⟩⟩
  refine⟨.ref s.heap.objs.size,_,I1,rfl,⟨kvs[i].1,kvs[i].2,ka,s.heap.objs.size,List.getElem?_eq_getElem hi,hka,I.hok.fresh (Nat.le_refl _),rfl,rfl⟩,⟨_,_,y1⟩,fun c hc=>?_⟩
  obtain rfl:c=it:=by simpa using hc
  rw[ao (Ne.symm nz)]
  exact(hf _ hc).1
 done:=by
  intro X hP hw hK hc i pins s σ H E I hf st hg
  subst hP hw hK
  obtain⟨he,hi⟩:=hg
  obtain⟨ok,ov,st⟩:=st
  obtain⟨e1,e3,_⟩:=kH I he eo
  obtain⟨f0,f1,f2,f3,f4,f5⟩:=hf it (by simp)
  exact pe (I.ok.hd hc) st e1 eo e3 hi fun h' eb=>⟨rfl,I.turned (t':=s.toks) (fun b ob hb e=>eb b ob hb e) f0 f1 f3 f4 f5⟩
 self:=fun _ _ _ _ _ st h=>by
  obtain⟨ok,ov,st⟩:=st
  exact PySem.W.kcp_self st h
def qr(te:TE):TI:=fun σ H R=>te σ H fun x H1=>∃a kvs,x=.ref a∧H1 a=some (.dT kvs)∧∀o,R (eW a o kvs) (upd H1 a (.frz o (.dT kvs)))
theorem nV{X:Cx}{els:List Expr}{kk:Nat}{tp:Pos}{e:Expr}{te:TE}{apos cpos:Pos}(he:PE X e te)(hbase:attributeBase e "items" X.env (eval e X.env)=eval e X.env:=by rfl)(hline:(apos.endLine == cpos.line)=true:=by rfl):
 PI X (.Tuple els kk tp) (.Call (.Attribute e "items" apos) [] [] cpos) (qr te):=by
 intro pins s σ H R I h
 refine wpAny_Call_method0_late hbase hline (am (he pins s σ H _ I h) fun v s1 ⟨x,H1,I1,rx,a,kvs,ex,ha,q⟩=>?_)
 subst ex
 obtain rfl:v=Value.ref a:=rx
 obtain⟨t1,t2⟩:=oo (x:=.ref a) (v:=.ref a) (T:="dict") I1 rfl (.inr (.inr (.inl ⟨rfl,.inr ⟨kvs,ha⟩⟩)))
 obtain⟨z,hd,xs,rel,ob,es,ep,h1,h2,h3,h4,h5⟩:=(show ObjOk X.prog X.w H1 s1.heap a (.dT kvs) from I1.hok a _ ha)
 refine⟨"dict","dict.items",PySem.F.plainAttrs_dict,PySem.F.slot_dict_items,PySem.F.type_dict_items,t1,t2,Calls.callWith_builtin rfl (PySem.evalArgs_none ?_)⟩
 refine call_meetsIn PySem.F.slot_dict_items t1 PySem.F.entry_dict_items (PySem.F.args_dict_items_1 _) (oT a hd) ⟨t1,?_⟩
 obtain⟨ob',h1',I2⟩:=I1.still ha
 rw[h1] at h1'
 cases h1'
 have I3:=I2.kept (h':=s1.heap.push {cls:=.type "dict_items",data:=.fields #[.ref a]}) (t':=s1.toks) fun b o e=>Heap.get?_push_of_some _ e
 refine uI (d:=a) (n:=kvs.length) ⟨_,Heap.get?_push_size _ rfl,rfl,rfl⟩ (Heap.get?_push_of_some _ h1) h3 (by rw[size_of_entries h4,Paired.length rel]) ?_
 refine⟨_,[_],_,eW a ob kvs,_,rfl,I3.kept (t':=s1.toks) fun b o e=>Heap.get?_push_of_some _ e,tH a _ ob kvs h3,⟨_,_,Heap.get?_push_size _ rfl⟩,fun b hb=>?_,q ob⟩
 have eb:=List.mem_singleton.mp hb
 subst eb
 exact I3.fpOk (Nat.le_refl _) (I3.hok.fresh (Nat.le_refl _))
theorem uN{a:Addr}{o:Obj}{kvs:List (List ap×V)}{g:TG}{tb:TS}{D:Ends}{σ:St}{H:Hp}(Pv:Nat→St→Hp→Prop)(h0:Pv 0 σ H)(hl:∀i σ H,i≤kvs.length→Pv i σ H→H a=some (.frz o (.dT kvs)))(hs:∀i k x ka p σ H,kvs[i]?=some (k,x)→H ka=some (.tup (k.map kV))→H p=none→Pv i σ H→g (.ref p) σ (upd H p (.tup [.ref ka,x])) fun σ2 H2=>tb {D with nx:=Pv (i+1),ct:=Pv (i+1),bk:=D.nx} σ2 H2)(hd:∀σ H,Pv kvs.length σ H→D.nx σ H):
 ∃ W:Nat→Nat→St→Hp→Prop,(∃m,W 0 m σ H)∧∀i m σ H,W i m σ H→
   ((eW a o kvs).stop i H∧D.nx σ H)∨((eW a o kvs).go i H∧∃N:St→Hp→Prop,(∀σ' H',N σ' H'→∃m',m'<m∧W (i+1) m' σ' H')∧∀x H',(eW a o kvs).yld i H x H'→g x σ H' fun σ2 H2=>tb {D with nx:=N,ct:=N,bk:=D.nx} σ2 H2):=by
 refine⟨fun i m σ H=>m=kvs.length-i∧i≤kvs.length∧Pv i σ H,⟨kvs.length,by simp,Nat.zero_le _,h0⟩,?_⟩
 rintro i m σ H ⟨rfl,hi,p⟩
 have q:=hl i σ H hi p
 by_cases hlt:i<kvs.length
 ·refine .inr ⟨⟨q,hlt⟩,Pv (i+1),fun σ' H' p'=>⟨kvs.length-(i+1),by lia,rfl,hlt,p'⟩,fun x H' y=>?_⟩
  obtain⟨k,v,ka,pp,ek,hka,hpp,e1,e2⟩:=y
  subst e1 e2
  exact hs i k v ka pp σ H ek hka hpp p
 ·have e:i=kvs.length:=by lia
  subst e
  exact .inl ⟨⟨q,Nat.le_refl _⟩,hd σ H p⟩
section
variable{s:Shared}{prog:Program}{w:World}{A:Around}{E:Value→Shared→Prop}
def Grown(h0 h:Heap):Prop:=∀b o,h0.get? b=some o→h.get? b=some o
theorem Grown.but{h0 h h':Heap}{a:Addr}(g:Grown h0 h)(n:h0.get? a=none)(k:∀b o,b≠a→h.get? b=some o→h'.get? b=some o):Grown h0 h':=fun b o e=>k b o (fun z=>by rw[z,n] at e;cases e) (g b o e)
end
theorem lF:∀{cs:List Addr} {us:List Value},Vals (cs.map V.ref) us→us=cs.map Value.ref
 | [],_,h=>by cases h;rfl
 | c::cs,_,h=>by
   cases h with
   | cons r t=>cases r;rw[lF t];rfl
def aK:List Int→List Int→Bool
 | [],[]=>false
 | [],_::_=>true
 | _::_,[]=>false
 | x::xs,y::ys=>if x=y then aK xs ys else decide (x<y)
theorem vZ:∀ys:List Int,aK [] ys=decide (0<ys.length)
 | []=>rfl
 | _::_=>by simp[aK]
theorem pw:∀xs:List Int,aK xs []=false
 | []=>rfl
 | _::_=>rfl
section
open SeqAt MeetsSeq MeetsSeq2 MeetsSeq3 SeqRoads2
open AutoSeq1 (wpAny_loadPart')
def LtAt(A:Around)(s:Shared)(y x:Value)(b:Bool):Prop:=∀(prog:Program) (w:World) (E:Value→Shared→Prop) (Q:Value→Shared→Prop),Q (.bool b) s→wpAny (model prog w) A (richCompare .Lt y x) Q E s
theorem LtAt.ints{A:Around}{s:Shared}{i j:Int}{t u:Tok}:LtAt A s (.int i t) (.int j u) (decide (i<j)):=fun prog w E Q h=>
 richCompare_gives (op:=.Lt) (typeIs_int s _ t) (typeIs_int s _ u) F.slot_int_lt F.entry_int_lt (F.args_int_lt_2 _ _) (gives_int_lt _ _ t u) (fun x=>nomatch x) h
def dM(xs:List Int)(items:Array Value):Prop:=items.size=xs.length∧∀(j:Nat) (h:j<items.size),∃(x:Int) (t:Tok),xs[j]?=some x∧items[j]=.int x t
theorem gX{A:Around}{s:Shared}{i j:Int}{t u:Tok}:EqAt A s (.int i t) (.int j u) (decide (i=j)):=by
 have:=oh (A:=A) (s:=s) (y:=.int i) (x:=.int j) (u:=.int i t) (v:=.int j u) ⟨t,rfl⟩ ⟨u,rfl⟩ rfl rfl
 have e:cr (.int i) (.int j)=decide (i=j):=by show(i == j)=_;by_cases h:i=j <;> simp[h]
 rw[e] at this
 exact this
theorem rA{l b:Addr}{items items2:Array Value}{n n2:Nat}{dd dd2:Option Addr}{sl sl2:Array (Option Value)}{xs ys:List Int}(N1:dM xs items)(N2:dM ys items2)(k:Nat):∀i:Nat,items.size-i=k→i≤items.size→i≤items2.size→Meets (Builtin.«list.__eq__.loop» ⟨[.ref l,.ref b,rawInt i,rawInt 0],[]⟩) (fun A R s=>s.heap.get? l=some {cls:=.type "list",dict:=dd,data:=.seq items n,slots:=sl}∧s.heap.get? b=some {cls:=.type "list",dict:=dd2,data:=.seq items2 n2,slots:=sl2}∧R (.ok (.ret (.bool (aK (xs.drop i) (ys.drop i))))) s):=by
 induction k with
 | zero=>
   intro i hk hle hle2 prog w A R s h
   obtain⟨hp,g,d,tk,os⟩:=s;obtain⟨hl,hb,h⟩:=h
   wp_walk using wpAny_loadPart' hl,wpAny_loadPart' hb
   have none1:items[((i:Nat):Int).toNat]?=none:=by simp;lia
   have e1:xs.drop i=[]:=List.drop_eq_nil_of_le (by rw[←N1.1];lia)
   rw[e1,vZ,List.length_drop,←N2.1] at h
   rw[none1]
   wp_walk using wpAny_loadPart' hl,wpAny_loadPart' hb
   have e2:decide (items.size<items2.size)=decide (0<items2.size-i):=decide_eq_decide.mpr (by lia)
   show R (.ok (.ret (.bool (decide (items.size<items2.size))))) _
   rw[e2]
   exact h
 | succ k ih=>
   intro i hk hle hle2 prog w A R s h
   obtain⟨hp,g,d,tk,os⟩:=s;obtain⟨hl,hb,h⟩:=h
   have lt1:i<items.size:=by lia
   by_cases iE:i<items2.size
   ·obtain⟨x,t,hx,ex⟩:=N1.2 i lt1
    obtain⟨y,u,hy,ey⟩:=N2.2 i iE
    have dx:xs.drop i=x::xs.drop (i+1):=by
     obtain⟨q1,q2⟩:=List.getElem?_eq_some_iff.mp hx
     rw[List.drop_eq_getElem_cons q1,q2]
    have dy:ys.drop i=y::ys.drop (i+1):=by
     obtain⟨q1,q2⟩:=List.getElem?_eq_some_iff.mp hy
     rw[List.drop_eq_getElem_cons q1,q2]
    wp_walk using wpAny_loadPart' hl,wpAny_loadPart' hb
    have at1:items[((i:Nat):Int).toNat]?=some (.int x t):=by simp[lt1,ex]
    have at2:items2[((i:Nat):Int).toNat]?=some (.int y u):=by simp[iE,ey]
    have hc:((i:Int)+1)=((i+1:Nat):Int):=by push_cast;rfl
    rw[dx,dy] at h
    simp only[aK] at h
    rw[at1,at2]
    refine wpAny_bind (gX prog w _ _ ?_)
    by_cases exy:x=y
    ·rw[if_pos exy] at h
     rw[decide_eq_true exy]
     wp_walk
     rw[hc]
     exact⟨plainId_quiet plain_eq_loop _,codeAny_builtin entry_eq_loop (by
      rw[Around.under_plainId plain_eq_loop _]
      exact ih (i+1) (by lia) (by lia) (by lia) prog w A R _ ⟨hl,hb,h⟩)⟩
    ·rw[if_neg exy] at h
     rw[decide_eq_false exy]
     wp_walk using wpAny_loadPart' hl,wpAny_loadPart' hb
     rw[at1,at2]
     refine wpAny_bind (LtAt.ints prog w _ _ ?_)
     wp_walk
     exact h
   ·wp_walk using wpAny_loadPart' hl,wpAny_loadPart' hb
    obtain⟨x,t,hx,ex⟩:=N1.2 i lt1
    have at1:items[((i:Nat):Int).toNat]?=some (.int x t):=by simp[lt1,ex]
    have none2:items2[((i:Nat):Int).toNat]?=none:=by simp;lia
    have e1:ys.drop i=[]:=List.drop_eq_nil_of_le (by rw[←N2.1];lia)
    rw[e1,pw] at h
    rw[at1,none2]
    wp_walk using wpAny_loadPart' hl,wpAny_loadPart' hb
    have e2:decide (items.size<items2.size)=false:=decide_eq_false (by lia)
    show R (.ok (.ret (.bool (decide (items.size<items2.size))))) _
    rw[e2]
    exact h
theorem rV{l b:Addr}{items items2:Array Value}{n n2:Nat}{dd dd2:Option Addr}{sl sl2:Array (Option Value)}{xs ys:List Int}(N1:dM xs items)(N2:dM ys items2):Meets (Builtin.«list.__lt__» ⟨[.ref l,.ref b],[]⟩) (fun A R s=>s.heap.get? l=some {cls:=.type "list",dict:=dd,data:=.seq items n,slots:=sl}∧s.heap.get? b=some {cls:=.type "list",dict:=dd2,data:=.seq items2 n2,slots:=sl2}∧R (.ok (.ret (.bool (aK xs ys)))) s):=by
 intro prog w A R s h
 obtain⟨hp,g,d,tk,os⟩:=s;obtain⟨hl,hb,h⟩:=h
 have sub:=AutoSeq1.sub_list_list
 wp_walk using wpAny_loadPart' hl,wpAny_loadPart' hb
 exact⟨plainId_quiet plain_eq_loop _,codeAny_builtin entry_eq_loop (by
  rw[Around.under_plainId plain_eq_loop _]
  exact rA N1 N2 _ 0 rfl (Nat.zero_le _) (Nat.zero_le _) prog w A R _ ⟨hl,hb,by simpa using h⟩)⟩
theorem LtAt.lists{A:Around}{s:Shared}{l b:Addr}{items items2:Array Value}{xs ys:List Int}(hl:s.heap.IsList l items)(hb:s.heap.IsList b items2)(N1:dM xs items)(N2:dM ys items2)(hu:A.units<cLine):LtAt A s (.ref l) (.ref b) (aK xs ys):=fun prog w E Q h=>by
 obtain⟨⟨cls,dd,data,sl⟩,ho,hc,n,hd⟩:=id hl
 obtain⟨⟨cls2,dd2,data2,sl2⟩,ho2,hc2,n2,hd2⟩:=id hb
 simp only at hc hd hc2 hd2;subst hc hd hc2 hd2
 exact richCompare_meets_room (op:=.Lt) ⟨_,ho,rfl⟩ ⟨_,ho2,rfl⟩ F.slot_list_lt F.entry_list_lt (F.args_list_lt_2 _ _) (rV N1 N2) ⟨ho,ho2,show Value.bool (aK xs ys)≠Value.notImplemented∧Q (.bool (aK xs ys)) s from⟨(fun x=>nomatch x),h⟩⟩ hu
def wd(a b:Int)(xs ys:List Int):Bool:=if a=b then aK xs ys else decide (a<b)
theorem iT:∀xs:List Int,aK xs xs=false
 | []=>rfl
 | x::xs=>by simp only[aK,if_true];exact iT xs
theorem mS{xs:List Int}{its:List Value}(r:Vals (xs.map V.int) its):dM xs its.toArray:=by
 have hl:=r.length
 rw[List.length_map] at hl
 refine⟨by rw[List.size_toArray];lia,fun j h=>?_⟩
 have hj:j<xs.length:=by rw[List.size_toArray] at h;lia
 obtain⟨u,hu,ru⟩:=r.get (show(xs.map V.int)[j]?=some (V.int xs[j]) by simp[hj])
 obtain⟨t,rfl⟩:=ru
 refine⟨xs[j],t,List.getElem?_eq_getElem hj,?_⟩
 have h2:=(List.getElem?_eq_some_iff.mp hu).2
 simpa using h2
end
theorem bE{C:List Value→Prop}(h:∀a,C [a]):∀us:List Value,us.length=1→C us
 | [a],_=>h a
theorem ci{C:List Value→Prop}(h:∀a b,C [a,b]):∀us:List Value,us.length=2→C us
 | [a,b],_=>h a b
theorem df{C:List Value→Prop}(h:∀a b c,C [a,b,c]):∀us:List Value,us.length=3→C us
 | [a,b,c],_=>h a b c
theorem iO{C:List Value→Prop}(h:∀a b c d,C [a,b,c,d]):∀us:List Value,us.length=4→C us
 | [a,b,c,d],_=>h a b c d
theorem nX{K:PySem.W.Frag}{a:Addr}{xs:List V}{g:TG}{tb:TS}{D:Ends}{σ:St}{H:Hp}(Pv:Nat→St→Hp→Prop)(h0:Pv 0 σ H)(hl:∀i σ H,i≤xs.length→Pv i σ H→SqL K H a xs)(hs:∀(D2:Ends) i x σ H,(∀σ' H',Pv (i+1) σ' H'→D2.nx σ' H')→xs[i]?=some x→Pv i σ H→g x σ H fun σ2 H2=>tb D2 σ2 H2)(hd:∀σ H,Pv xs.length σ H→D.nx σ H):FW (cQ K a) g tb D σ H:=
 iI Pv h0 hl (fun i x σ H hx p=>hs _ i x σ H (fun _ _ h=>h) hx p) hd
theorem kJ{lo:Int}{n:Nat}{g:TG}{tb:TS}{D:Ends}{σ:St}{H:Hp}(Pv:Nat→St→Hp→Prop)(h0:Pv 0 σ H)(hs:∀(D2:Ends) i σ H,(∀σ' H',Pv (i+1) σ' H'→D2.nx σ' H')→i<n→Pv i σ H→g (.int (lo+i)) σ H fun σ2 H2=>tb D2 σ2 H2)(hd:∀σ H,Pv n σ H→D.nx σ H):FW (cx lo n) g tb D σ H:=
 gu Pv h0 (fun i σ H hx p=>hs _ i σ H (fun _ _ h=>h) hx p) hd
section
variable{X:Cx}{tg:Expr}
end
section
variable{X:Cx}{a b c:Expr}{ta:TA}{p p2 pos pos2:Pos}
end
theorem lT:∀{xs ys zs:List Int},aK xs ys=true→aK ys zs=true→aK xs zs=true
 | [],[],_,h,_=>by simp[aK] at h
 | [],_::_,[],_,h=>by simp[aK] at h
 | [],_::_,_::_,_,_=>(rfl:true=true)
 | _::_,[],_,h,_=>by simp[aK] at h
 | _::_,_::_,[],_,h=>by simp[aK] at h
 | x::xs,y::ys,z::zs,h1,h2=>by
   simp only[aK] at h1 h2 ⊢
   by_cases e1:x=y
   ·rw[if_pos e1] at h1
    by_cases e2:y=z
    ·rw[if_pos e2] at h2
     rw[if_pos (e1.trans e2)]
     exact lT h1 h2
    ·rw[if_neg e2] at h2
     rw[if_neg (by rw[e1];exact e2),e1]
     exact h2
   ·rw[if_neg e1] at h1
    have l1:=of_decide_eq_true h1
    by_cases e2:y=z
    ·rw[if_neg (by rw[←e2];exact e1),←e2]
     exact h1
    ·rw[if_neg e2] at h2
     have l2:=of_decide_eq_true h2
     rw[if_neg (by lia)]
     exact decide_eq_true (Int.lt_trans l1 l2)
abbrev K3:=Int×Int×List Int
def be(x y:K3):Bool:=aK (x.1::x.2.1::x.2.2) (y.1::y.2.1::y.2.2)
theorem nB(x:K3):be x x=false:=iT _
theorem vF{x y z:K3}(h1:be x y=true)(h2:be y z=true):be x z=true:=lT h1 h2
section
variable{s:Shared}{prog:Program}{w:World}{A:Around}{E:Value→Shared→Prop}
theorem t9{h0:Heap}{l I S:Addr}{vs:List Value}{kw:List (Str×Value)}{lt:Nat→Nat→Bool}{R:Result→Shared→Prop}(hh:A.handled=none)(hl:h0.IsList l vs.toArray)(nI:h0.get? I=none)(nS:h0.get? S=none)(hSI:S≠I)(tr:∀a b c,lt a b=true→lt b c=true→lt a c=true)(irr:∀a,lt a a=false)(cmp:∀i j vi vj h tk,vs[i]?=some vi→vs[j]?=some vj→Grown h0 h→LtAt A.in1 {s with heap:=h,toks:=tk} vi vj (lt i j))(hR:∀i v h' tk',vs[i]?=some v→(∀j,j<vs.length→lt j i=false)→Grown h0 h'→R (.ok (.ret v)) {s with heap:=h',toks:=tk'}):∀(r j i:Nat) (h:Heap) (tk:Nat) (vb:Value) (c:Nat),vs.length-(j+1)=r→j+1≤vs.length→Grown h0 h→h.get? S=some (seqObj "list" #[vb,vb] c)→h.IsListIter I l (j+1)→vs[i]?=some vb→i≤j→(∀j',j'≤j→lt j' i=false)→codeAny (model prog w) A (.builtin "min.loop" ⟨[.ref I,.none,.ref S],kw⟩) R {s with heap:=h,toks:=tk}:=by
 have hnm:(toString "min"++toString ".loop":String)="min.loop":=by decide
 have lI:l≠I:=fun z=>by obtain⟨o,e,_⟩:=id hl;rw[z,nI] at e;cases e
 have W:=Walks.list (prog:=prog) (w:=w) (A:=A.in1) hh I l lI vs.toArray
 have size:vs.toArray.size=vs.length:=List.size_toArray ..
 intro r
 induction r with
 | zero=>
   intro j i h tk vb c er hj G hS hit hvb hij best
   refine codeAny_builtin PySem.F.entry_min_loop ?_;rw[Around.under_plainId PySem.F.plain_min_loop _];show wpAny _ A.in1 (seqItems? (.ref S) >>= _) _ _ _
   refine wpAny_bind (wpAny_seqItems hS rfl ?_);show wpAny _ A.in1 (tryCatch (pyNext (.ref I)) _ >>= _) _ _ _
   refine wpAny_bind (wpAny_tryCatch (W.done _ _ _ ⟨by rw[size,show vs.length=j+1 by lia];exact hit,hl.at fun o e=>G l o e⟩ fun h' tk' kp=>?_))
   have kp':∀b o,b≠I→h.get? b=some o→h'.get? b=some o:=fun b o hb e=>kp b o (by simpa using hb) e
   have G1:=G.but nI kp'
   have sb:=Heap.SameBut.update h' S (Obj.mapSeq fun _=>(#[]:Array Value))
   show wpAny _ A.in1 (updateSeq S (fun _=>#[]) >>= _) _ _ _;refine wpAny_bind ?_
   refine wpAny_updateSeq (kp' S _ hSI hS) rfl (wpAny_bind (wpAny_letGo (wpAny_pure ?_)))
   exact hR i vb _ _ hvb (fun j' hj'=>best j' (by lia)) (G1.but nS fun b o hb e=>(sb.2 b hb).trans e)
 | succ r ih=>
   intro j i h tk vb c er hj G hS hit hvb hij best
   have jlt:j+1<vs.length:=by lia
   refine codeAny_builtin PySem.F.entry_min_loop ?_;rw[Around.under_plainId PySem.F.plain_min_loop _];show wpAny _ A.in1 (seqItems? (.ref S) >>= _) _ _ _
   refine wpAny_bind (wpAny_seqItems hS rfl ?_);show wpAny _ A.in1 (tryCatch (pyNext (.ref I)) _ >>= _) _ _ _
   refine wpAny_bind (wpAny_tryCatch (W.item (j+1) _ _ _ (by rw[size];exact jlt) ⟨hit,hl.at fun o e=>G l o e⟩ fun v h' tk' hP st' kp=>?_))
   have kp':∀b o,b≠I→h.get? b=some o→h'.get? b=some o:=fun b o hb e=>kp b o (by simpa using hb) e
   have G1:=G.but nI kp'
   have hS1:=kp' S _ hSI hS
   have vat:vs[j+1]?=some v:=by simpa using hP
   show wpAny _ A.in1 (tryCatch (holding [v,v] (richCompare .Lt v vb >>= _)) _ >>= _) _ _ _;refine wpAny_bind (wpAny_tryCatch (wpAny_holding (wpAny_bind (cmp (j+1) i v vb h' tk' vat hvb G1 prog w _ _ ?_))))
   refine wpAny_bind (wpAny_holding (wpAny_truthy_bool (wpAny_bind (wpAny_letGo (wpAny_pure ?_)))))
   cases less:lt (j+1) i with
   | true=>
     simp only[if_true]
     refine wpAny_bind (wpAny_updateSeq hS1 rfl (wpAny_bind (wpAny_letGo ?_)));rw[hnm]
     have sb:=Heap.SameBut.update h' S (Obj.mapSeq fun _=>#[v,v])
     refine wpAny_pure ⟨plainId_quiet PySem.F.plain_min_loop _,ih (j+1) (j+1) _ _ v _ (by lia) jlt (G1.but nS fun b o hb e=>(sb.2 b hb).trans e) (get?_update_seq hS1 fun _=>#[v,v]) (st'.1.at fun o e=>(sb.2 I hSI.symm).trans e) vat (Nat.le_refl _) fun j' hj'=>?_⟩
     by_cases e:j'=j+1
     ·subst e;exact irr _
     ·refine Bool.eq_false_iff.mpr fun z=>?_
      have:=tr _ _ _ z less
      rw[best j' (by lia)] at this
      cases this
   | false=>
     simp only[Bool.false_eq_true,if_false];refine wpAny_bind (wpAny_letGo ?_);rw[hnm]
     refine wpAny_pure ⟨plainId_quiet PySem.F.plain_min_loop _,ih (j+1) i _ _ vb c (by lia) jlt G1 hS1 st'.1 hvb (by lia) fun j' hj'=>?_⟩
     by_cases e:j'=j+1
     ·subst e;exact less
     ·exact best j' (by lia)
theorem pE{l:Addr}{vs:List Value}{kw:List (Str×Value)}{lt:Nat→Nat→Bool}{R:Result→Shared→Prop}(hh:A.handled=none)(hl:s.heap.IsList l vs.toArray)(tr:∀a b c,lt a b=true→lt b c=true→lt a c=true)(irr:∀a,lt a a=false)(cmp:∀i j vi vj h tk,vs[i]?=some vi→vs[j]?=some vj→Grown s.heap h→LtAt A.in1 {s with heap:=h,toks:=tk} vi vj (lt i j))(q0:vs=[]→∃d,kw=[(Str.ofString "default",d)]∧∀h' tk',Grown s.heap h'→R (.ok (.ret d)) {s with heap:=h',toks:=tk'})(q1:∀i v h' tk',vs[i]?=some v→(∀j,j<vs.length→lt j i=false)→Grown s.heap h'→R (.ok (.ret v)) {s with heap:=h',toks:=tk'})(tk:Nat):codeAny (model prog w) A (.builtin "min.loop" ⟨[.ref s.heap.objs.size,.none,.ref (s.heap.push {cls:=.type "list_iterator",data:=.fields #[.ref l,.int 0 0]}).objs.size],kw⟩) R {s with heap:=(s.heap.push {cls:=.type "list_iterator",data:=.fields #[.ref l,.int 0 0]}).push (seqObj "list" #[] 0),toks:=tk}:=by
 have hnm:(toString "min"++toString ".loop":String)="min.loop":=by decide
 have size1:(s.heap.push {cls:=.type "list_iterator",data:=.fields #[.ref l,.int 0 0]}).objs.size=s.heap.objs.size+1:=Heap.size_push ..
 have nI:s.heap.get? s.heap.objs.size=none:=Heap.get?_none_of_le (Nat.le_refl _)
 have nS:s.heap.get? (s.heap.push {cls:=.type "list_iterator",data:=.fields #[.ref l,.int 0 0]}).objs.size=none:=Heap.get?_none_of_le (by rw[size1];exact Nat.le_succ _)
 have SI:(s.heap.push {cls:=.type "list_iterator",data:=.fields #[.ref l,.int 0 0]}).objs.size≠s.heap.objs.size:=by rw[size1];exact Nat.succ_ne_self _
 have lI:l≠s.heap.objs.size:=fun z=>by obtain⟨o,e,_⟩:=id hl;rw[z,nI] at e;cases e
 have G:Grown s.heap ((s.heap.push {cls:=.type "list_iterator",data:=.fields #[.ref l,.int 0 0]}).push (seqObj "list" #[] 0)):=fun b o e=>Heap.get?_push_of_some _ (Heap.get?_push_of_some _ e)
 have gI:((s.heap.push {cls:=.type "list_iterator",data:=.fields #[.ref l,.int 0 0]}).push (seqObj "list" #[] 0)).IsListIter s.heap.objs.size l 0:=⟨_,Heap.get?_push_of_some _ (Heap.get?_push_size s.heap (o:={cls:=.type "list_iterator",data:=.fields #[.ref l,.int 0 0]}) rfl),rfl,rfl⟩
 have gSS:((s.heap.push {cls:=.type "list_iterator",data:=.fields #[.ref l,.int 0 0]}).push (seqObj "list" #[] 0)).get? (s.heap.push {cls:=.type "list_iterator",data:=.fields #[.ref l,.int 0 0]}).objs.size=some (seqObj "list" #[] 0):=Heap.get?_push_size _ rfl
 generalize (s.heap.push {cls:=.type "list_iterator",data:=.fields #[.ref l,.int 0 0]}).objs.size=S at nS SI gSS ⊢
 generalize (s.heap.push {cls:=.type "list_iterator",data:=.fields #[.ref l,.int 0 0]}).push (seqObj "list" #[] 0)=hp at G gI gSS ⊢
 have W:=Walks.list (prog:=prog) (w:=w) (A:=A.in1) hh s.heap.objs.size l lI vs.toArray
 have size:vs.toArray.size=vs.length:=List.size_toArray ..
 refine codeAny_builtin PySem.F.entry_min_loop ?_;rw[Around.under_plainId PySem.F.plain_min_loop _];show wpAny _ A.in1 (seqItems? (.ref S) >>= _) _ _ _
 refine wpAny_bind (wpAny_seqItems gSS rfl ?_);show wpAny _ A.in1 (tryCatch (pyNext (.ref s.heap.objs.size)) _ >>= _) _ _ _
 by_cases hne:vs=[]
 ·refine wpAny_bind (wpAny_tryCatch (W.done _ _ _ ⟨by rw[size,hne];exact gI,hl.at fun o e=>G l o e⟩ fun h' tk' kp=>?_))
  have G1:=G.but nI (fun b o hb e=>kp b o (by simpa using hb) e)
  obtain⟨d,rfl,q⟩:=q0 hne
  refine wpAny_bind (wpAny_rule (wpAny_pure (?_)))
  exact q _ _ G1
 ·have pos:0<vs.length:=List.length_pos_iff.mpr hne
  refine wpAny_bind (wpAny_tryCatch (W.item 0 _ _ _ (by rw[size];exact pos) ⟨gI,hl.at fun o e=>G l o e⟩ fun v h' tk' hP st' kp=>?_))
  have kp':∀b o,b≠s.heap.objs.size→hp.get? b=some o→h'.get? b=some o:=fun b o hb e=>kp b o (by simpa using hb) e
  have G1:=G.but nI kp'
  have hS1:=kp' S _ SI gSS
  have vat:vs[0]?=some v:=by simpa using hP
  show wpAny _ A.in1 (updateSeq S (fun _=>#[v,v]) >>= _) _ _ _;refine wpAny_bind (wpAny_updateSeq hS1 rfl ?_);rw[hnm]
  have sb:=Heap.SameBut.update h' S (Obj.mapSeq fun _=>#[v,v])
  exact wpAny_pure ⟨plainId_quiet PySem.F.plain_min_loop _,t9 hh hl nI nS SI tr irr cmp q1 _ 0 0 _ _ v _ rfl pos (G1.but nS fun b o hb e=>(sb.2 b hb).trans e) (get?_update_seq hS1 fun _=>#[v,v]) (st'.1.at fun o e=>(sb.2 _ SI.symm).trans e) vat (Nat.le_refl _) fun j' hj'=>by rw[show j'=0 by lia];exact irr 0⟩
theorem rM{l:Addr}{vs:List Value}{lt:Nat→Nat→Bool}{Q:Value→Shared→Prop}(hh:A.handled=none)(hl:s.heap.IsList l vs.toArray)(hne:vs≠ [])(tr:∀a b c,lt a b=true→lt b c=true→lt a c=true)(irr:∀a,lt a a=false)(cmp:∀i j vi vj h tk,vs[i]?=some vi→vs[j]?=some vj→Grown s.heap h→LtAt A.in1 {s with heap:=h,toks:=tk} vi vj (lt i j))(q1:∀i v h' tk',vs[i]?=some v→(∀j,j<vs.length→lt j i=false)→Grown s.heap h'→Q v {s with heap:=h',toks:=tk'}):wpAny (model prog w) A (call (.builtin "min") [Value.ref l]) Q E s:=by
 have hnm:(toString "min"++toString ".loop":String)="min.loop":=by decide
 refine call_function_tree F.kind_min F.plain_min F.entry_min (F.args_min1 _) ?_;show wpAny _ A.in1 (Builtin.Builtins.bindParams "min" ["key","default"] 0 ⟨[],[]⟩ >>= _) _ _ s
 refine wpAny_bind (wpAny_of_eq (show Builtin.Builtins.bindParams "min" ["key","default"] 0 ⟨[],[]⟩=pure [none,none] from rfl) ?_)
 refine wpAny_bind (wpAny_pure (wpAny_bind (wpAny_pyIter_list hl (wpAny_bind (wpAny_newList ?_ (Nat.zero_le _))))));rw[hnm]
 exact wpAny_pure ⟨plainId_quiet PySem.F.plain_min_loop _,pE hh hl tr irr cmp (fun z=>absurd z hne) q1 _⟩
end
section
open SeqAt MeetsSeq MeetsSeq2 MeetsSeq3 SeqRoads2
open AutoSeq1 (wpAny_loadPart')
def dZ(a b a' b':Int)(e l:Bool):Bool:=if a=a' then(if b=b' then(if e=true then false else l) else decide (b<b')) else decide (a<a')
theorem ni{p q:Addr}{n n2:Nat}{dd dd2:Option Addr}{sl sl2:Array (Option Value)}{a b a' b':Int}{t t' u u':Tok}{v x:Value}{e l:Bool}:Meets (Builtin.«tuple.__lt__» ⟨[.ref p,.ref q],[]⟩) (fun A R s=>s.heap.get? p=some {cls:=.type "tuple",dict:=dd,data:=.seq #[.int a t,.int b t',v] n,slots:=sl}∧s.heap.get? q=some {cls:=.type "tuple",dict:=dd2,data:=.seq #[.int a' u,.int b' u',x] n2,slots:=sl2}∧EqAt A.in1 s v x e∧LtAt A.in1 s v x l∧R (.ok (.ret (.bool (dZ a b a' b' e l)))) s):=
 .of_wp fun prog w A R s h=>by
  obtain⟨hp,g,d,tk,os⟩:=s;obtain⟨hl,hb,eqL,ltA,h⟩:=h
  have sub:=AutoSeq1.sub_tuple_tuple
  wp_walk using wpAny_loadPart' hl,wpAny_loadPart' hb,wpAny_forIn_list _ (fun rest c s'=>c.1=none∧s'=(⟨hp,g,d,tk,os⟩:Shared)∧((rest=[(Value.int a t,Value.int a' u),(Value.int b t',Value.int b' u'),(v,x)]∧R (.ok (.ret (.bool (dZ a b a' b' e l)))) ⟨hp,g,d,tk,os⟩)∨(rest=[(Value.int b t',Value.int b' u'),(v,x)]∧R (.ok (.ret (.bool (if b=b' then(if e=true then false else l) else decide (b<b'))))) ⟨hp,g,d,tk,os⟩)∨(rest=[(v,x)]∧R (.ok (.ret (.bool (if e=true then false else l)))) ⟨hp,g,d,tk,os⟩)∨(rest=[]∧R (.ok (.ret (.bool false))) ⟨hp,g,d,tk,os⟩))) _
  case turn=>
   rintro⟨y,z⟩ rest c s' ⟨hc,rfl,hz⟩
   rcases hz with⟨hz,hR⟩ | ⟨hz,hR⟩ | ⟨hz,hR⟩ | ⟨hz,hR⟩
   ·injection hz with hyx hrest
    obtain rfl:y=.int a t:=congrArg Prod.fst hyx
    obtain rfl:z=.int a' u:=congrArg Prod.snd hyx
    refine wpAny_bind (gX prog w _ _ ?_)
    unfold dZ at hR
    by_cases e':a=a'
    ·rw[if_pos e'] at hR
     rw[decide_eq_true e']
     wp_walk
     exact⟨rfl,rfl,.inr (.inl ⟨hrest,hR⟩)⟩
    ·rw[if_neg e'] at hR
     rw[decide_eq_false e']
     refine wpAny_bind (wpAny_rule (wpAny_bind (LtAt.ints prog w _ _ ?_)))
     wp_walk
     exact⟨_,rfl,hR⟩
   ·injection hz with hyx hrest
    obtain rfl:y=.int b t':=congrArg Prod.fst hyx
    obtain rfl:z=.int b' u':=congrArg Prod.snd hyx
    refine wpAny_bind (gX prog w _ _ ?_)
    by_cases e':b=b'
    ·rw[if_pos e'] at hR
     rw[decide_eq_true e']
     wp_walk
     exact⟨rfl,rfl,.inr (.inr (.inl ⟨hrest,hR⟩))⟩
    ·rw[if_neg e'] at hR
     rw[decide_eq_false e']
     refine wpAny_bind (wpAny_rule (wpAny_bind (LtAt.ints prog w _ _ ?_)))
     wp_walk
     exact⟨_,rfl,hR⟩
   ·injection hz with hyx hrest
    obtain rfl:y=v:=congrArg Prod.fst hyx
    obtain rfl:z=x:=congrArg Prod.snd hyx
    refine wpAny_bind (eqL prog w _ _ ?_)
    cases e with
    | true=>
      wp_walk
      exact⟨rfl,rfl,.inr (.inr (.inr ⟨hrest,hR⟩))⟩
    | false=>
      refine wpAny_bind (wpAny_rule (wpAny_bind (ltA prog w _ _ ?_)))
      wp_walk
      exact⟨_,rfl,hR⟩
   ·cases hz
  case fin=>
   rintro⟨c1,c2⟩ s' ⟨hc,rfl,hz⟩
   simp only at hc
   subst hc
   rcases hz with⟨hz,_⟩ | ⟨hz,_⟩ | ⟨hz,_⟩ | ⟨_,hR⟩
   ·cases hz
   ·cases hz
   ·cases hz
   ·wp_walk
    exact⟨_,rfl,by simpa [Builtin.Tuple.tupleCompareSizes] using hR⟩
  case h=>
   exact⟨rfl,rfl,.inl ⟨rfl,h⟩⟩
end
def hG(isL:Bool)(H:Hp)(c:Addr)(k:K3):Prop:=match isL with
 | false=>∃d:Int,k.2.2=[d]∧H c=some (.tup [.int k.1,.int k.2.1,.int d])
 | true=>∃g:Addr,H c=some (.tup [.int k.1,.int k.2.1,.ref g])∧H g=some (.lst (k.2.2.map V.int))
theorem rJ(a b a' b' d d':Int):dZ a b a' b' (decide (d=d')) (decide (d<d'))=be (a,b,[d]) (a',b',[d']):=by
 unfold dZ be
 simp only[aK]
 by_cases h1:a=a'
 ·rw[if_pos h1,if_pos h1]
  by_cases h2:b=b'
  ·rw[if_pos h2,if_pos h2]
   by_cases h3:d=d'
   ·rw[decide_eq_true h3,if_pos rfl,if_pos h3]
   ·rw[decide_eq_false h3,if_neg (by decide),if_neg h3]
  ·rw[if_neg h2,if_neg h2]
 ·rw[if_neg h1,if_neg h1]
theorem uL(a b a' b':Int)(L L':List Int):dZ a b a' b' (decide (L=L')) (aK L L')=be (a,b,L) (a',b',L'):=by
 unfold dZ be
 simp only[aK]
 by_cases h1:a=a'
 ·rw[if_pos h1,if_pos h1]
  by_cases h2:b=b'
  ·rw[if_pos h2,if_pos h2]
   by_cases h3:L=L'
   ·rw[decide_eq_true h3,if_pos rfl,h3,iT]
   ·rw[decide_eq_false h3,if_neg (by decide)]
  ·rw[if_neg h2,if_neg h2]
 ·rw[if_neg h1,if_neg h1]
theorem ie{X:Cx}{pins:List (Addr×Obj)}{σ:St}{H:Hp}{s:Shared}{p:Addr}{i j:Int}{z:V}(I:Inv X pins σ H s)(h:H p=some (.tup [.int i,.int j,z])):∃(t t':Tok) (v:Value) (n:Nat) (dd:Option Addr) (sl:Array (Option Value)),RelV z v∧s.heap.get? p=some {cls:=.type "tuple",dict:=dd,data:=.seq #[.int i t,.int j t',v] n,slots:=sl}:=by
 obtain⟨_,its,vr,⟨o,ho,hc,n,hd⟩⟩:=(show ObjOk X.prog X.w H s.heap p (.tup [.int i,.int j,z]) from I.hok p _ h)
 cases vr with
 | cons r1 vr=>
   cases vr with
   | cons r2 vr=>
     cases vr with
     | cons r3 vr=>
       cases vr
       obtain⟨t,rfl⟩:=r1
       obtain⟨t',rfl⟩:=r2
       obtain⟨cl,dd,dt,sl⟩:=o
       have hc':cl=.type "tuple":=hc
       have hd':dt=.seq #[.int i t,.int j t',_] n:=hd
       subst hc' hd'
       exact⟨t,t',_,n,dd,sl,r3,ho⟩
theorem uu{X:Cx}{k:Nat}(hr:Room k X.A){pins:List (Addr×Obj)}{σ:St}{H:Hp}{s:Shared}{isL:Bool}{p q:Addr}{x y:K3}(I:Inv X pins σ H s)(hp:hG isL H p x)(hq:hG isL H q y):LtAt X.A.in1 s (.ref p) (.ref q) (be x y):=by
 intro prog w E Q h
 have hu:=hr.units
 obtain⟨a,b,L⟩:=x
 obtain⟨a',b',L'⟩:=y
 cases isL with
 | false=>
   obtain⟨d,ed,hp⟩:=hp
   obtain⟨d',ed',hq⟩:=hq
   have ed:L=[d]:=ed
   have ed':L'=[d']:=ed'
   subst ed ed'
   obtain⟨t,t',v,n,dd,sl,rv,e1⟩:=ie I hp
   obtain⟨u,u',x,n2,dd2,sl2,rx,e2⟩:=ie I hq
   obtain⟨tv,rfl⟩:=rv
   obtain⟨tx,rfl⟩:=rx
   rw[←rJ] at h
   exact richCompare_meets_room (op:=.Lt) ⟨_,e1,rfl⟩ ⟨_,e2,rfl⟩ F.slot_tuple_lt F.entry_tuple_lt (F.args_tuple_lt_2 _ _) (ni (e:=decide (d=d')) (l:=decide (d<d'))) ⟨e1,e2,gX,LtAt.ints,show Value.bool _≠Value.notImplemented∧_ from⟨(fun x=>nomatch x),h⟩⟩ (by show X.A.units+1<cLine;lia)
 | true=>
   obtain⟨g,hp,hg⟩:=hp
   obtain⟨g',hq,hg'⟩:=hq
   obtain⟨t,t',v,n,dd,sl,rv,e1⟩:=ie I hp
   obtain⟨u,u',x,n2,dd2,sl2,rx,e2⟩:=ie I hq
   cases rv
   cases rx
   have hg:H g=some (.lst (L.map V.int)):=hg
   have hg':H g'=some (.lst (L'.map V.int)):=hg'
   obtain⟨_,its,m,r,_,f1⟩:=I.lstM hg
   obtain⟨_,its2,m2,r2,_,f2⟩:=I.lstM hg'
   obtain⟨⟨as,ra⟩,ca⟩:=DatV.reads I (dJ L) (.ref g) (.ref g) (ib (K:=X.K) (SqL.of hg)) rfl
   obtain⟨⟨bs,rb⟩,cb⟩:=DatV.reads I (dJ L') (.ref g') (.ref g') (ib (K:=X.K) (SqL.of hg')) rfl
   have d1:=mV L
   have d2:=mV L'
   have eqA:SeqAt.EqAt X.A.in1.in1 s (.ref g) (.ref g') (decide (L=L')):=by
    have:=SeqAt.eqAt_reads (dJ L) (dJ L') X.A.in1.in1 s (.ref g) (.ref g') as bs ra rb ca cb (by show X.A.units+1+1+_<cLine;lia)
    rw[qI] at this
    exact this
   have ltA:LtAt X.A.in1.in1 s (.ref g) (.ref g') (aK L L'):=LtAt.lists ⟨_,f1,rfl,m,rfl⟩ ⟨_,f2,rfl,m2,rfl⟩ (mS r) (mS r2) (by show X.A.units+1+1<cLine;lia)
   rw[←uL] at h
   exact richCompare_meets_room (op:=.Lt) ⟨_,e1,rfl⟩ ⟨_,e2,rfl⟩ F.slot_tuple_lt F.entry_tuple_lt (F.args_tuple_lt_2 _ _) (ni (e:=decide (L=L')) (l:=aK L L')) ⟨e1,e2,eqA,ltA,show Value.bool _≠Value.notImplemented∧_ from⟨(fun x=>nomatch x),h⟩⟩ (by show X.A.units+1<cLine;lia)
def cw(ks:List K3)(i j:Nat):Bool:=match ks[i]?,ks[j]? with
 | some a,some b=>be a b
 | _,_=>false
theorem vE(ks:List K3)(i:Nat):cw ks i i=false:=by
 unfold cw
 cases ks[i]? with
 | none=>rfl
 | some a=>exact nB a
theorem ud(ks:List K3)(a b c:Nat)(h1:cw ks a b=true)(h2:cw ks b c=true):cw ks a c=true:=by
 unfold cw at*
 cases ea:ks[a]? with
 | none=>rw[ea] at h1;cases h1
 | some x=>
   cases eb:ks[b]? with
   | none=>rw[ea,eb] at h1;cases h1
   | some y=>
     cases ec:ks[c]? with
     | none=>rw[eb,ec] at h2;cases h2
     | some z=>
       rw[ea,eb] at h1
       rw[eb,ec] at h2
       exact vF h1 h2
structure Trips(isL:Bool)(H:Hp)(cs:List Addr)(ks:List K3):Prop where
 len:cs.length=ks.length
 at_:∀(i:Nat) (c:Addr) (k:K3),cs[i]?=some c→ks[i]?=some k→hG isL H c k
section
variable{X:Cx}{e d:Expr}{te td:TE}{p pos kp:Pos}{k:Nat}
def pY(te:TE):TE:=fun σ H Q=>te σ H fun x H1=>∃(isL:Bool) (l:Addr) (cs:List Addr) (ks:List K3),x=.ref l∧H1 l=some (.lst (cs.map V.ref))∧Trips isL H1 cs ks∧cs≠ []∧∀(i:Nat) (c:Addr) (k:K3),cs[i]?=some c→ks[i]?=some k→(∀k'∈ks,be k' k=false)→Q (.ref c) H1
theorem rg(hr:Room k X.A){pins:List (Addr×Obj)}{σ:St}{H:Hp}{s:Shared}{isL:Bool}{cs:List Addr}{ks:List K3}(I:Inv X pins σ H s)(T:Trips isL H cs ks)(i j:Nat)(vi vj:Value)(h:Heap)(tk:Nat)(e1:(cs.map Value.ref)[i]?=some vi)(e2:(cs.map Value.ref)[j]?=some vj)(G:Grown s.heap h):LtAt X.A.in1 {s with heap:=h,toks:=tk} vi vj (cw ks i j):=by
 rw[List.getElem?_map] at e1 e2
 cases c1:cs[i]? with
 | none=>rw[c1] at e1;cases e1
 | some a=>
   cases c2:cs[j]? with
   | none=>rw[c2] at e2;cases e2
   | some b=>
     rw[c1] at e1
     rw[c2] at e2
     obtain rfl:Value.ref a=vi:=Option.some.inj e1
     obtain rfl:Value.ref b=vj:=Option.some.inj e2
     have l1:i<ks.length:=by rw[←T.len];exact(List.getElem?_eq_some_iff.mp c1).1
     have l2:j<ks.length:=by rw[←T.len];exact(List.getElem?_eq_some_iff.mp c2).1
     have k1:=List.getElem?_eq_getElem l1
     have k2:=List.getElem?_eq_getElem l2
     unfold cw
     rw[k1,k2]
     exact uu hr (I.kept (h':=h) (t':=tk) G) (T.at_ i a _ c1 k1) (T.at_ j b _ c2 k2)
theorem vW{isL:Bool}{H:Hp}{cs:List Addr}{ks:List K3}(T:Trips isL H cs ks){i:Nat}{x:K3}(hx:ks[i]?=some x)(best:∀j,j<(cs.map Value.ref).length→cw ks j i=false):∀k'∈ks,be k' x=false:=fun k' hk=>by
 obtain⟨j,hj⟩:=List.mem_iff_getElem?.mp hk
 have:=best j (by rw[List.length_map,T.len];exact(List.getElem?_eq_some_iff.mp hj).1)
 unfold cw at this
 rw[hj,hx] at this
 exact this
theorem sy(hc:X.calm=true)(hm:X.mg "min"=none)(hr:Room k X.A)(ha:PE X e te)(hg:Gl X "min":=by rfl)(he:starEach [e] X.env=[(false,eval e X.env)]:=by rfl):PE X (.Call (.Name "min" p) [e] [] pos) (pY te):=
 cI (r:=r1 fun x H Q=>∃(isL:Bool) (l:Addr) (cs:List Addr) (ks:List K3),x=.ref l∧H l=some (.lst (cs.map V.ref))∧Trips isL H cs ks∧cs≠ []∧∀(i:Nat) (c:Addr) (k:K3),cs[i]?=some c→ks[i]?=some k→(∀k'∈ks,be k' k=false)→Q (.ref c) H)
  (cF fun pins s σ H x us Q I rv ⟨isL,l,cs,ks,ex,hH,T,hne,q⟩=>by
   subst ex
   obtain⟨u,rfl,ru⟩:=rv.one
   cases ru
   obtain⟨z,its,n,r,hz,e1⟩:=I.lstM hH
   obtain rfl:=lF r
   have hL:s.heap.IsList l (cs.map Value.ref).toArray:=⟨_,e1,rfl,n,rfl⟩
   refine rM (vs:=cs.map Value.ref) (lt:=cw ks) (I.ok.hd hc) hL (by simpa using hne) (ud ks) (vE ks) (rg hr I T) fun i v h' tk' vat best G=>?_
   rw[List.getElem?_map] at vat
   cases ec:cs[i]? with
   | none=>rw[ec] at vat;cases vat
   | some c=>
     rw[ec] at vat
     obtain rfl:Value.ref c=v:=Option.some.inj vat
     have l1:i<ks.length:=by rw[←T.len];exact(List.getElem?_eq_some_iff.mp ec).1
     have k1:=List.getElem?_eq_getElem l1
     exact⟨.ref c,H,I.kept (h':=h') (t':=tk') G,rfl,q i c _ ec k1 (vW T k1 best)⟩) hg hm nO (aa ha ac (by exact he)) (he:=by exact he)
end
def jm(a b c:Int):Bool:=Builtin.Range.rangeFitsLong a && Builtin.Range.rangeFitsLong b && Builtin.Range.rangeFitsLong c && Builtin.Range.rangeFitsLong (-c) && Builtin.Range.rangeFitsLong (a-c) && Builtin.Range.rangeFitsLong (Builtin.Range.rangeSize a b c)
theorem wm(r:Addr)(a b c:Int)(t u v:Tok)(hc0:¬(!(Builtin.Range.rangeFitsLong a && Builtin.Range.rangeFitsLong b && Builtin.Range.rangeFitsLong c && Builtin.Range.rangeFitsLong (-c) && Builtin.Range.rangeFitsLong (a-c) && Builtin.Range.rangeFitsLong (Builtin.Range.rangeSize a b c)))=true):Meets (Builtin.«range.__reversed__» ⟨[.ref r],[]⟩) (fun _ R s=>s.heap.get? r=some {cls:=.type "range",dict:=none,data:=.fields #[.int a t,.int b u,.int c v],slots:=#[]}∧
 R (.ok (.ret (Value.ref s.heap.objs.size))) {s with heap:=s.heap.push {cls:=Value.type (if(Builtin.Range.rangeFitsLong a && Builtin.Range.rangeFitsLong b && Builtin.Range.rangeFitsLong c && Builtin.Range.rangeFitsLong (-c) && Builtin.Range.rangeFitsLong (a-c) && Builtin.Range.rangeFitsLong (Builtin.Range.rangeSize a b c))=true then "range_iterator" else "longrange_iterator"),data:=Data.fields #[rawInt (a+(Builtin.Range.rangeSize a b c-1)*c),rawInt (Builtin.Range.rangeSize a b c),rawInt (-c)]}}):=
 .of_wp fun prog w A R s hz=>by
  obtain⟨hp,gg,dd,tk,os⟩:=s;obtain⟨hl,h⟩:=hz
  wp_walk
  exact⟨_,rfl,h⟩
section
variable{prog:Program}{w:World}{A:Around}{E:Value→Shared→Prop}{s:Shared}
def fL(n:Nat):Obj:={cls:=.type "range_iterator",data:=.fields #[rawInt (0+((n:Int)-1)*1),rawInt (n:Int),rawInt (-1)]}
theorem kn(n:Nat):Builtin.Range.rangeSize 0 (n:Int) 1=(n:Int):=by rw[rangeSize_one];split <;> lia
theorem ue{n:Nat}(hn:n<2 ^ 62):jm 0 (n:Int) 1=true:=by
 unfold jm
 rw[kn]
 simp only[Builtin.Range.rangeFitsLong,Bool.and_eq_true,decide_eq_true_eq]
 lia
theorem sd{r:Addr}{n:Nat}{t u v:Tok}{Q:Value→Shared→Prop}(hr:IsRange s.heap r 0 (n:Int) 1 t u v)(hn:n<2 ^ 62)(h:Q (.ref s.heap.objs.size) {s with heap:=s.heap.push (fL n)}):wpAny (model prog w) A (call (.builtin "range.__reversed__") [.ref r]) Q E s:=by
 have hT:s.TypeIs (.ref r) "range":=⟨_,hr,(rfl:_=_)⟩
 have hf:=ue hn
 unfold jm at hf
 refine call_meets F.slot_range_reversed hT F.entry_range_reversed (F.args_range_reversed_1 _) (wm r 0 (n:Int) 1 t u v (by rw[hf];exact Bool.false_ne_true)) ⟨hr,?_⟩
 rw[hf,if_pos rfl,kn]
 exact h
theorem oQ{r:Addr}{n:Nat}{t u v:Tok}{Q₁:Value→Shared→Prop}(hr:IsRange s.heap r 0 (n:Int) 1 t u v)(hn:n<2 ^ 62)(h:Q₁ (.ref s.heap.objs.size) {s with heap:=s.heap.push (fL n)}):codeAny (model prog w) A (.call (.builtin "reversed.__new__") ⟨[.type "reversed",.ref r],[]⟩) (wants Q₁ E) s:=by
 have hT:s.TypeIs (.ref r) "range":=⟨_,hr,(rfl:_=_)⟩
 refine codeAny_of_tree ?_
 show wpAny _ A.in1 (checkBuiltinCall "reversed.__new__" ⟨[.type "reversed",.ref r],[]⟩ >>= fun _=>again (.builtin "reversed.__new__" ⟨[.type "reversed",.ref r],[]⟩)) _ _ s
 refine wpAny_bind (wpAny_of_eq (F.newCall_reversed_1 _) (wpAny_pure ⟨plainId_quiet F.plain_reversed_new _,codeAny_builtin F.entry_reversed_new ?_⟩));rw[Around.under_plainId F.plain_reversed_new _];unfold Builtin.«reversed.__new__»
 refine wpAny_bind (wpAny_of_eq (newClass_reversed _) ?_);try dsimp only
 refine wpAny_bind (wpAny_of_eq (a:=()) (by first | rfl | kernel_rfl) (wpAny_bind (wpAny_of_eq (a:=()) (by first | rfl | kernel_rfl) ?_)));try dsimp only
 refine wpAny_bind (wpAny_specialOf hT F.slot_range_reversed.lookup ?_);try dsimp only
 refine wpAny_bind (wpAny_of_eq (F.slot_range_reversed.bind _) ?_);try dsimp only
 first
 | rw[if_neg (show¬((Value.builtin "range.__reversed__" == Value.none)=true) from Bool.false_ne_true)]
 | (show wpAny _ _ (if(Value.builtin "range.__reversed__" == Value.none)=true then _ else _) _ _ _;rw[if_neg (show¬((Value.builtin "range.__reversed__" == Value.none)=true) from Bool.false_ne_true)])
 refine wpAny_bind (wpAny_rule (wpAny_bind (m:=runValue (.call (.builtin "range.__reversed__") ⟨[.ref r],[]⟩)) (show wpAny _ _ (call (.builtin "range.__reversed__") [.ref r]) _ _ _ from sd hr hn ?_)))
 first | exact wpAny_pure h | exact wpAny_bind (wpAny_pure (wpAny_pure h))
theorem p3:isSubtype (.type "range_iterator") (.type "reversed")=pure false:=by rw[isSubtype_type];kernel_rfl
theorem pO{r:Addr}{n:Nat}{t u v:Tok}{Q:Value→Shared→Prop}(hr:IsRange s.heap r 0 (n:Int) 1 t u v)(hn:n<2 ^ 62)(h:Q (.ref s.heap.objs.size) {s with heap:=s.heap.push (fL n)}):wpAny (model prog w) A (call (.type "reversed") [.ref r]) Q E s:=by
 refine callType_other (U:="range_iterator") (Q₁:=fun obj s₁=>obj=.ref s.heap.objs.size∧s₁={s with heap:=s.heap.push (fL n)}) (by decide+kernel) F.create_reversed ⟨_,_,F.mro_reversed⟩ F.made_reversed p3 (F.typeCall_reversed_1 _) (oQ hr hn ⟨rfl,rfl⟩) ?_
 rintro obj s₁ ⟨e1,e2⟩
 subst e1 e2
 exact⟨⟨_,Heap.get?_push_size _ rfl,(rfl:_=_)⟩,h⟩
end
def je(n:Nat):It:=⟨fun i _=>i<n,fun i H x H'=>H'=H∧x=.int ((n:Int)-1-i),fun i _=>n≤i⟩
theorem vI{P:Program}{w:World}{K:PySem.W.Frag}{tg:Expr}(it:Addr)(n:Nat):Turn P w K tg (je n) [it] it (fun i h=>IsRangeIter h it ((n:Int)-1+(i:Nat)*(-1)) ((n:Int)-(i:Nat)) (-1)) where
 mem:=by simp
 obj:=fun i h st b hb=>by
  have e:b=it:=by simpa using hb
  subst e
  exact⟨_,st,fun v z=>by
   have z':Data.fields _=Data.cell v:=z
   cases z'⟩
 keep:=fun i h h' st k=>k it (by simp) _ st
 item:=by
  intro X hP hw hK hc i pins s σ H E I hf st hg
  subst hP hw hK
  obtain⟨f0,f1,f2,f3,f4,f5⟩:=hf it (by simp)
  have W:=Walks.range (prog:=X.prog) (w:=X.w) (I.ok.hd hc) it ((n:Int)-1) (-1) n
  refine W.item i s _ _ hg st fun v h' tk hv st' kk=>?_
  obtain⟨t,rfl⟩:=hv
  have I1:Inv X pins σ H {s with heap:=h',toks:=tk}:=I.turned (fun b o hb e=>kk b o (by simpa using hb) e) f0 f1 f3 f4 f5
  refine⟨_,rfl,gm (s:={s with heap:=h',toks:=tk}) (n:="range_iterator") st' rfl rfl (by decide) ⟨.int ((n:Int)-1-i),H,I1,⟨t,?_⟩,⟨rfl,rfl⟩,st',fun b hb=>(hf b hb).1⟩⟩
  congr 1
  lia
 done:=by
  intro X hP hw hK hc i pins s σ H E I hf st hg
  subst hP hw hK
  obtain⟨f0,f1,f2,f3,f4,f5⟩:=hf it (by simp)
  exact wpAny_pyNext_range_end (I.ok.hd hc) st (by have:n≤i:=hg;lia) fun h' eb=>⟨rfl,I.turned (t':=s.toks) (fun b o hb e=>eb b o hb e) f0 f1 f3 f4 f5⟩
 self:=fun _ _ _ _ _ st h=>wpAny_pyIter_rangeiter st h
section
variable{X:Cx}{tg a:Expr}{ta:TA}{p p2 pos pos2:Pos}
def vV(ta:TA):TI:=fun σ H R=>ta σ H fun vs H1=>∃n:Nat,vs=[.int (n:Int)]∧n<2 ^ 62∧R (je n) H1
theorem rH(hm:X.mg "reversed"=none)(hmr:X.mg "range"=none)(ha:PA X [a] ta)(hg:Gl X "reversed":=by rfl)(hgr:Gl X "range":=by rfl)
 (he:starEach [Expr.Call (.Name "range" p2) [a] [] pos2] X.env=[(false,eval (Expr.Call (.Name "range" p2) [a] [] pos2) X.env)]:=by rfl)(hs:starEach [a] X.env=[(false,eval a X.env)]:=by rfl):
 PI X tg (.Call (.Name "reversed" p) [.Call (.Name "range" p2) [a] [] pos2] [] pos) (vV ta):=by
 intro pins s σ H R I h
 refine Call_ (dh I hg hm nA (PyProof.Rows.callWith_type1 ?_ he rfl))
 rw[he]
 show wpAny _ _ (spliced ((false,eval (Expr.Call (.Name "range" p2) [a] [] pos2) X.env)::backTo pos [])) _ _ s
 refine Calls.spliced_cons ?_
 refine Call_ (dh I hgr hmr boot_range (PyProof.Rows.callWith_type1 (am (ha pos2 pins s σ H _ I h) fun us s1 ⟨vs,H1,I1,r1,q1⟩=>?_) hs rfl))
 obtain⟨n,e,hn,q⟩:=q1
 subst e
 cases r1 with
 | cons r rr=>
   cases rr
   obtain⟨t,rfl⟩:=r
   refine call_range_1 ?_
   refine Calls.spliced_nil ?_
   refine pO (IsRange.new ..) hn ?_
   have st:IsRangeIter ((s1.heap.push {cls:=.type "range",data:=.fields #[.int 0 s1.toks,.int (n:Int) t,.int 1 (s1.toks+1)]}).push (fL n)) (s1.heap.push {cls:=.type "range",data:=.fields #[.int 0 s1.toks,.int (n:Int) t,.int 1 (s1.toks+1)]}).objs.size ((n:Int)-1+((0:Nat):Int)*(-1)) ((n:Int)-((0:Nat):Int)) (-1):=by
    have e1:(n:Int)-1+((0:Nat):Int)*(-1)=0+((n:Int)-1)*1:=by lia
    have e2:(n:Int)-((0:Nat):Int)=(n:Int):=by lia
    rw[e1,e2]
    exact Heap.get?_push_size _ (rfl:_=_)
   refine wpAny_pyIter_rangeiter st ?_
   have I2:Inv X pins σ H1 {s1 with heap:=s1.heap.push {cls:=.type "range",data:=.fields #[.int 0 s1.toks,.int (n:Int) t,.int 1 (s1.toks+1)]},toks:=s1.toks+1+1}:=I1.kept fun b o e=>Heap.get?_push_of_some _ e
   refine⟨_,[(s1.heap.push {cls:=.type "range",data:=.fields #[.int 0 s1.toks,.int (n:Int) t,.int 1 (s1.toks+1)]}).objs.size],_,_,H1,rfl,I2.kept (t':=s1.toks+1+1) fun b o e=>Heap.get?_push_of_some _ e,vI _ n,st,fun b hb=>?_,q⟩
   have e:b=(s1.heap.push {cls:=.type "range",data:=.fields #[.int 0 s1.toks,.int (n:Int) t,.int 1 (s1.toks+1)]}).objs.size:=by simpa using hb
   subst e
   exact I2.fpOk (Nat.le_refl _) (I2.hok.fresh (Nat.le_refl _))
end
theorem qB{n:Nat}{g:TG}{tb:TS}{D:Ends}{σ:St}{H:Hp}(Pv:Nat→St→Hp→Prop)(h0:Pv 0 σ H)(hs:∀(D2:Ends) i σ H,(∀σ' H',Pv (i+1) σ' H'→D2.nx σ' H')→i<n→Pv i σ H→g (.int ((n:Int)-1-i)) σ H fun σ2 H2=>tb D2 σ2 H2)(hd:∀σ H,Pv n σ H→D.nx σ H):FW (je n) g tb D σ H:=by
 refine⟨fun i m σ H=>m=n-i∧i≤n∧Pv i σ H,⟨n,by simp,Nat.zero_le _,h0⟩,?_⟩
 rintro i m σ H ⟨rfl,hi,p⟩
 by_cases hlt:i<n
 ·refine .inr ⟨hlt,fun σ' H'=>∃m',m'<n-i∧m'=n-(i+1)∧i+1≤n∧Pv (i+1) σ' H',fun σ' H' h=>h,fun x H' y=>?_⟩
  obtain⟨e,ex⟩:=y
  subst e ex
  exact hs _ i σ _ (fun σ' H' h=>⟨n-(i+1),by lia,rfl,hlt,h⟩) hlt p
 ·have e:i=n:=by lia
  subst e
  exact .inl ⟨Nat.le_refl _,hd σ H p⟩
theorem jh{X:Cx}{k:Nat}(hr:Room k X.A):OpR X (compareOp .In) (fun y x H Q=>∃a o,x=.ref a∧DGet H a y o∧Q (.bl o.isSome) H):=by
 intro pins s σ H y x v u Q I ry rx h
 obtain⟨a,o,e,g,q⟩:=h
 subst e
 obtain rfl:u=Value.ref a:=rx
 exact rS (bX hr) I g ry fun s3 I3=>⟨.bl o.isSome,H,I3,rfl,q⟩
theorem nW{X:Cx}{k:Nat}(hr:Room k X.A):OpR X (compareOp .NotIn) (fun y x H Q=>∃a o,x=.ref a∧DGet H a y o∧Q (.bl (!o.isSome)) H):=by
 intro pins s σ H y x v u Q I ry rx h
 obtain⟨a,o,e,g,q⟩:=h
 subst e
 obtain rfl:u=Value.ref a:=rx
 exact tT (bX hr) I g ry fun s3 I3=>⟨.bl (!o.isSome),H,I3,rfl,q⟩
section
variable{prog:Program}{w:World}{A:Around}{E:Value→Shared→Prop}{s:Shared}
end
section
variable{prog:Program}{w:World}{A:Around}{E:Value→Shared→Prop}{s:Shared}
end
structure RoomH(k:Nat)(A:Around):Prop where
 dp:A.depth+3*k+5<recursionLimit
 un:A.units+16*k+200<cLine
theorem qE{k:Nat}{A:Around}{v:Option Value}(r:Room k A):RoomH k (A.mark v):=⟨r.dp,r.un⟩
structure FnHOk(P:Program)(w:World)(K:PySem.W.Frag)(mg:Str→Option Value)(base:Heap)(k:Nat)(f:Addr)(fd:FuncData)(ps:List Str)(sp:Sp):Prop where
 len:∀vs H Q E,sp vs H Q E→vs.length=ps.length
 run:∀(A:Around) (outer:List Env) (s:Shared) (H:Hp) (args:Args) (us:List Value) (vs:List V) (Q:VK),RoomH k A→Env0 P w K mg base A outer s H→BindsTo s fd args (ps.zip us)→Vals vs us→sp vs H Q E0→
  codeAny (model P w) A (.call (.ref f) args) (CR ak outer P w H s Q E0) s
structure FnH(P:Program)(w:World)(K:PySem.W.Frag)(mg:Str→Option Value)(base:Heap)(x:Str)(k:Nat)(ps:List Str)(sp:Sp):Prop where
 ex:∃f fd,FnHOk P w K mg base k f fd ps sp∧mg x=some (.ref f)∧PySem.W.keepIn K (.ref f)=true∧Binds K fd ps []
theorem rE{X:Cx}{k j:Nat}{ps:List Str}{sp:Sp}{x:Str}{p pos:Pos}{e:Expr}{es:List Expr}{t:TA}(F:FnH X.prog X.w X.K X.mg X.base x k ps sp)(hr:RoomH j X.A)(ha:PA X (e::es) t)(hg:Gl X x:=by rfl)(hj:k≤j:=by decide)
 (hdb:(x == ("__debug__":Str))=false:=by decide)(he:starEach (e::es) X.env=(false,eval e X.env)::starEach es X.env:=by rfl)(hpl:(backTo pos (starEach es X.env)).any (·.1)=false:=by rfl):
 PE X (.Call (.Name x p) (e::es) [] pos) (gN sp [] E0 t):=by
 obtain⟨f,fd,F,hm,hk,hb⟩:=F.ex
 have hr:RoomH k X.A:=⟨by have:=hr.dp;lia,by have:=hr.un;lia⟩
 intro pins s σ H Q I h
 refine wpAny_Call_Name_kw (eO I hg hm ?_ hdb)
 refine PySem.W.callWith_K (h₀:=X.base) I.ok.mod.kin hk (am (ha pos pins s σ H _ I h) fun us s1 ⟨vs,H1,I1,r,q⟩=>⟨I1.kIn,?_⟩) he hpl
 have r2:Vals (vs++[]) (us++[]):=r.append .nil
 have hl:(us++[]).length=ps.length:=by rw[←r2.length];exact F.len _ _ _ _ q
 refine wpAny_call (codeAny_mono (F.run X.A X.stack s1 H1 ⟨us,[]⟩ (us++[]) (vs++[]) Q hr I1.env0 (hb s1 us I1.kIn hl) r2 q) fun r s' hq=>?_)
 cases r with
 | error e=>exact False.elim hq
 | ok fl=>
   cases fl with
   | ret u=>exact I1.after hq
   | next=>exact False.elim hq
   | brk=>exact False.elim hq
   | cont=>exact False.elim hq
abbrev iw(P:Program)(w:World)(K:PySem.W.Frag)(mg:Str→Option Value)(base:Heap)(N:List Str)(qual:Str)(scope:Scope)(f:Addr)(cd:Value)(A:Around)(outer:List Env)(s:Shared)(H:Hp):Cx:=
 {bU ak P w K mg base N qual scope f cd A outer s H E0 with calm:=false,xe:=fun _ _=>False}
theorem sA{P:Program}{w:World}{K:PySem.W.Frag}{mg:Str→Option Value}{base:Heap}{x:Str}{st:Stmt}{N ps:List Str}{k:Nat}{sp:Sp}(M:Md K mg)(F:FF K x st)(S:FnScope N ps (aC st))(hbind:∀(kV doc pm:Value) (an:Option Addr) (cdv ct:Value) (us:List Value),us.length=ps.length→bindArgs (PySem.W.fnOf x x (ck st) (bI st) (aC st) .none kV doc pm an cdv ct) ⟨us,[]⟩=pure (ps.zip us))(len:∀vs H Q E,sp vs H Q E→vs.length=ps.length)(hbody:∀(f:Addr) (cdv:Value) (A:Around) (outer:List Env) (s:Shared) (H:Hp) (vs:List V) (Q:VK),RoomH k (A.deeper (envOfC x (aC st) s.heap.objs.size f cdv))→sp vs H Q E0→∃t,PSs (iw P w K mg base N x (aC st) f cdv A outer s H) (bI st) t∧t {nx:=fun _ H'=>Q .non H',rt:=Q} (bN N vs) H):FnH P w K mg base x (k+1) ps sp:=by
 obtain⟨f,oc,od,an,osl,kV,doc,pm,cdv,ct,a,l,c,kk⟩:=F.ex
 have F1:=jr (st:=st) l c kk
 refine⟨f,_,⟨len,fun A outer s H args us vs Q hr e0 hb r hsp=>?_⟩,M.ns _ _ a,kk,F1.binds hbind⟩
 have hl:=len _ _ _ _ hsp
 have KX:K.In s.heap:=e0.mod.kin.keeps fun b o e=>(e0.bs b o e).1
 have lim:s.heap.NoLimit:=e0.mod.nolimit.keeps fun b o e=>(e0.bs b o e).1
 have hkind:∀y∈ps.zip us,(aC st).names.lookup y.1=some .local∨((aC st).names.lookup y.1=some .cell∧((cellsFrom (s.heap.objs.size+1) (aC st).names []).lookup y.1).isSome=true):=fun⟨n,v⟩ hy=>by
  rcases S.par n (List.of_mem_zip hy).1 with q | q
  ·exact .inl q
  ·exact .inr ⟨q,PySem.W.cellsFrom_some _ _ _ (.inl q)⟩
 refine codeAny_call_function (show A.depth<recursionLimit by have:=hr.dp;lia) (KX _ _ l) rfl S.co S.gen rfl (PySem.W.codeRec_of KX c) (hb _ _ _ _ ?_)
 refine wpAny_newFunctionEnv_cells S.kind hkind fun env he s1 x'=>?_
 subst he
 refine⟨lim.keeps x'.toInCall.keep,codeAny_func ?_⟩
 have hr':RoomH k (A.deeper (envOfC x (aC st) s.heap.objs.size f cdv)):=⟨by have:=hr.dp;show A.depth+1+3*k+5<_;lia,by have:=hr.un;show A.units+3+16*k+200<_;lia⟩
 obtain⟨t,ht,hq⟩:=hbody f cdv A outer s H vs Q hr' hsp
 have e1:Env0 P w K mg base ({A with handled:=none}:Around) outer s H:=⟨e0.frames,e0.mod,e0.bs,e0.bsz,e0.funs,e0.frf,e0.hok,e0.bare⟩
 have I0:Inv (bU ak P w K mg base N x (aC st) f cdv ({A with handled:=none}:Around) outer s H E0) [] (bN N vs) H s1:=km S rfl e1 hl r x'
 have I:Inv (iw P w K mg base N x (aC st) f cdv A outer s H) [] (bN N vs) H s1:=
  ⟨⟨I0.ok.mod,I0.ok.kind,I0.ok.glob,I0.ok.blt,I0.ok.above,I0.ok.inj,I0.ok.has,I0.ok.cab,(fun q=>by cases q),Around.frames_deeper e0.frames,I0.ok.stk,I0.ok.exf,I0.ok.bs,I0.ok.bsz,I0.ok.noex,I0.ok.exfs,I0.ok.funs,I0.ok.frf⟩,I0.os,I0.bare,I0.base,I0.loc,I0.cell,I0.free,I0.freeC,I0.pin,I0.hok,I0.len⟩
 refine wpAny_mono (ht [] s1 (bN N vs) H _ I hq) (fun fl s' hs=>?_) fun e s' hs=>False.elim hs
 have fin:∀{σ':St} {H':Hp} {v:V} {u:Value},Inv (iw P w K mg base N x (aC st) f cdv A outer s H) [] σ' H' s'→RelV v u→Q v H'→CE outer P w H s Q u s':=fun{σ' H' v u} J rv q=>⟨v,H',J.os,J.bare,J.base,J.hok,rv,q⟩
 cases fl with
 | ret u=>obtain⟨v,σ',H',J,rv,q⟩:=hs;exact fin J rv q
 | next=>obtain⟨σ',H',J,q⟩:=hs;exact fin (v:=V.non) (u:=Value.none) J rfl q
 | brk=>obtain⟨_,_,_,q⟩:=hs;exact False.elim q
 | cont=>obtain⟨_,_,_,q⟩:=hs;exact False.elim q
theorem vT:bootBuiltins "all"=some (.builtin "all"):=by decide+kernel
theorem tO(bs:List Bool):((List.range bs.length).all fun i=>(bs[i]?).getD false)=bs.all id:=by
 rw[Bool.eq_iff_iff,List.all_eq_true,List.all_eq_true]
 constructor
 ·intro h b hb
  obtain⟨i,hi,e⟩:=List.getElem_of_mem hb
  have:=h i (by simpa using hi)
  rw[List.getElem?_eq_getElem hi,e] at this
  exact this
 ·intro h i hi
  have hi':i<bs.length:=by simpa using hi
  rw[List.getElem?_eq_getElem hi']
  exact h _ (List.getElem_mem hi')
section
variable{X:Cx}{e:Expr}{te:TE}{p pos:Pos}
def qH(te:TE):TE:=fun σ H Q=>te σ H fun x H1=>∃(l:Addr) (bs:List Bool),x=.ref l∧H1 l=some (.lst (bs.map V.bl))∧Q (.bl (bs.all id)) H1
theorem qM(hc:X.calm=true)(hm:X.mg "all"=none)(ha:PE X e te)(hg:Gl X "all":=by rfl)(he:starEach [e] X.env=[(false,eval e X.env)]:=by rfl):PE X (.Call (.Name "all" p) [e] [] pos) (qH te):=
 cI (r:=r1 fun x H Q=>∃(l:Addr) (bs:List Bool),x=.ref l∧H l=some (.lst (bs.map V.bl))∧Q (.bl (bs.all id)) H)
  (cF fun pins s σ H x us Q I rv ⟨l,bs,ex,hH,q⟩=>by
   subst ex
   obtain⟨u,rfl,ru⟩:=rv.one
   cases ru
   obtain⟨z,its,n,r,hl,e1⟩:=I.lstM hH
   obtain rfl:=uF r
   have hL:s.heap.IsList l (bs.map Value.bool).toArray:=⟨_,e1,rfl,n,rfl⟩
   have llt:l<s.heap.objs.size:=Heap.lt_size e1
   refine call_all_walk (wpAny_pyIter_list hL ?_)
   refine⟨s.heap.objs.size,[s.heap.objs.size,l],[s.heap.objs.size],(bs.map Value.bool).toArray.size,_,_,fun i=>(bs[i]?).getD false,rfl,Walks.list (by first | exact I.ok.hd hc | (show X.A.in1.handled=none;exact I.ok.hd hc)) s.heap.objs.size l (Nat.ne_of_lt llt) (bs.map Value.bool).toArray,⟨⟨_,Heap.get?_push_size _ rfl,rfl,rfl⟩,hL.push _⟩,fun i v s' Q' E' hP hQ=>?_,fun h' tk hk=>?_⟩
   ·have hP':(bs.map Value.bool)[i]?=some v:=by simpa using hP
    rw[List.getElem?_map] at hP'
    cases e:bs[i]? with
    | none=>rw[e] at hP';cases hP'
    | some b=>
      rw[e] at hP'
      obtain rfl:Value.bool b=v:=Option.some.inj hP'
      simp only[e,Option.getD_some] at hQ
      exact wpAny_truthy_bool hQ
   ·have e:((List.range (bs.map Value.bool).toArray.size).all fun i=>(bs[i]?).getD false)=bs.all id:=by
     rw[List.size_toArray,List.length_map];exact tO bs
    rw[e]
    exact⟨.bl (bs.all id),H,I.kept (h':=h') (t':=tk) fun b o e=>hk b o (by simp;exact Nat.ne_of_lt (Heap.lt_size e)) (Heap.get?_push_of_some _ e),rfl,q⟩) hg hm vT (aa ha ac (by exact he)) (he:=by exact he)
end
section
variable{X:Cx}
end
section
variable{X:Cx}{a b c:Expr}{ta:TA}{p p2 pos pos2:Pos}
end
section
variable{prog:Program}{w:World}{A:Around}{E:Value→Shared→Prop}{s:Shared}
end
section
variable{prog:Program}{w:World}{κ:Type}[DecidableEq κ]{knd:KeyKind prog w κ}{A:Around}{E:Value→Shared→Prop}{s:Shared}
end
section
variable{X:Cx}{pins:List (Addr×Obj)}{σ:St}{H:Hp}{s:Shared}
end
section
variable{X:Cx}{e:Expr}{te:TE}{p pos:Pos}
end
section
variable{X:Cx}{e:Expr}{te:TE}{p pos:Pos}
end
section
variable{prog:Program}{w:World}{A:Around}{E:Value→Shared→Prop}{s:Shared}{a₀:Array Keyed}
end
section
variable{prog:Program}{w:World}{κ:Type}[DecidableEq κ]{knd:KeyKind prog w κ}{A:Around}{E:Value→Shared→Prop}{s:Shared}
end
section
variable{X:Cx}{e:Expr}{te:TE}{p pos:Pos}
end
section
variable{prog:Program}{w:World}{A:Around}{E:Value→Shared→Prop}{s:Shared}
end
section
open SeqAt MeetsSeq MeetsSeq2 MeetsSeq3 SeqRoads2
open AutoSeq1 (wpAny_loadPart')
def kX(t:List Nat):List Int:=t.map fun(c:Nat)=>(c:Int)
end
abbrev K2:=Int×List Nat
def iE(x y:K2):Bool:=wd x.1 y.1 (kX x.2) (kX y.2)
def uf(H:Hp)(c:Addr)(k:K2):Prop:=(∀x∈k.2,x<0x110000)∧∃g:Addr,H c=some (.tup [.int k.1,.ref g])∧H g=some (.lst (k.2.map sg))
structure Pairs2(H:Hp)(cs:List Addr)(ks:List K2):Prop where
 len:cs.length=ks.length
 at_:∀(i:Nat) (c:Addr) (k:K2),cs[i]?=some c→ks[i]?=some k→uf H c k
section
variable{X:Cx}{e d:Expr}{te td:TE}{p pos kp:Pos}{k:Nat}
end
section
variable{X:Cx}{tg a b c:Expr}{ta:TA}{p pos:Pos}
end
section
variable{X:Cx}{a:Expr}{ta:TA}{p p2 pos pos2:Pos}
end
end L2
namespace L2
open PySem PySem.Spec PyProof.Rows PySem.W
section
variable{prog:Program}{w:World}{A:Around}{E:Value→Shared→Prop}{s:Shared}
end
section
variable{X:Cx}{e:Expr}{te:TE}{p pos:Pos}
end
theorem pC:∀k:Fin 26,Builtin.Str.occurrences "abcdefghijklmnopqrstuvwxyz" ⟨#[97+k.val]⟩ 0 26 1=[k.val]:=by decide+kernel
def ve:V→List V→Hp→VK→Prop:=fun x vs H Q=>∃c:Nat,x=.str "abcdefghijklmnopqrstuvwxyz"∧vs=[sg c]∧97≤c∧c≤122∧Q (.int ((c-97:Nat):Int)) H
theorem wo{X:Cx}:j7 X "str.index" ve:=by
 intro pins s σ H x vs v us Q I rx rv h
 obtain⟨c,rfl,rfl,h1,h2,q⟩:=h
 obtain⟨t,rfl⟩:=rx
 obtain⟨u,rfl,ru⟩:=rv.one
 obtain⟨t',rfl⟩:=ru
 have e:=pC ⟨c-97,by lia⟩
 rw[show 97+(⟨c-97,by lia⟩:Fin 26).val=c by show 97+(c-97)=c;lia] at e
 exact call_gives F.slot_str_index (typeIs_str s _ t) F.entry_str_index (F.args_str_index_2 _ _) (gives_str_index _ _ t t' (c-97) [] e) ⟨.int ((c-97:Nat):Int),H,I.kept (h':=s.heap) (t':=s.toks+1) (fun b o e=>e),⟨_,rfl⟩,q⟩
structure Ordr(κ:Type) where
 lt:κ→κ→Bool
 irr:∀a,lt a a=false
 tr:∀a b c,lt a b=true→lt b c=true→lt a c=true
 neg:∀a b c,lt a c=true→lt a b=true∨lt b c=true
namespace Ordr
variable{κ:Type}(O:Ordr κ)
def le(a b:κ):Prop:=O.lt b a=false
variable{O}
end Ordr
section
variable{κ:Type}(O:Ordr κ)(key:Keyed→κ)
def kk(a:Array Keyed)(i:Nat):κ:=key ((a[i]?).getD (.none,.none))
def uv(a:Array Keyed)(lo hi:Nat):Prop:=∀i j,lo≤i→i≤j→j<hi→O.le (kk key a i) (kk key a j)
def vU(a b:Array Keyed)(lo hi:Nat):Prop:=∀i,i<lo∨hi≤i→b[i]?=a[i]?
structure Bas(a₀:Array Keyed)(kd:SortKind)(st:SortSt):Prop where
 perm:(arrOf st).Perm a₀
 kind:kindOf st=kd
 failed:failedOf st=none
variable{prog:Program}{w:World}{A:Around}{E:Value→Shared→Prop}{s:Shared}{a₀:Array Keyed}{kd:SortKind}
variable{O key}
end
section
variable{κ:Type}{O:Ordr κ}{key:Keyed→κ}{prog:Program}{w:World}{A:Around}{E:Value→Shared→Prop}{s:Shared}{a₀:Array Keyed}{kd:SortKind}
def sr(O:Ordr κ)(key:Keyed→κ)(a:Array Keyed)(lo hi:Nat):Prop:=∀i j,lo≤i→i≤j→j<hi→O.le (kk key a j) (kk key a i)
def qx(O:Ordr κ)(key:Keyed→κ)(a:Array Keyed)(lo hi:Nat):Prop:=∀i j,lo≤i→i<hi→lo≤j→j<hi→O.le (kk key a i) (kk key a j)
structure Down(O:Ordr κ)(key:Keyed→κ)(a₀:Array Keyed)(kd:SortKind)(st z:SortSt)(lo nrem n q:Nat):Prop where
 bas:Bas a₀ kd z
 pend:pendingOf z=pendingOf st
 only:vU (arrOf st) (arrOf z) lo (lo+nrem)
 q1:q<n
 fall:sr O key (arrOf z) lo (lo+n)
 even:qx O key (arrOf z) (lo+n-(q+1)) (lo+n)
end
section
variable{κ:Type}{O:Ordr κ}{key:Keyed→κ}{prog:Program}{w:World}{A:Around}{E:Value→Shared→Prop}{s:Shared}{a₀:Array Keyed}{kd:SortKind}
structure Edge(P:Nat→Bool)(n k:Nat):Prop where
 le:k≤n
 yes:∀i,i<k→P i=true
 no:∀i,k≤i→i<n→P i=false
end
section
variable{κ:Type}{O:Ordr κ}{key:Keyed→κ}
def j6(O:Ordr κ)(key:Keyed→κ)(xs ys:List Keyed):Prop:=∀x∈xs,∀y∈ys,O.le (key x) (key y)
def Up(O:Ordr κ)(key:Keyed→κ)(xs:List Keyed):Prop:=xs.Pairwise fun x y=>O.le (key x) (key y)
structure Mg(O:Ordr κ)(key:Keyed→κ)(T out xs ys:List Keyed):Prop where
 perm:(out++(xs++ys)).Perm T
 up:Up O key out
 lx:j6 O key out xs
 ly:j6 O key out ys
 ux:Up O key xs
 uy:Up O key ys
end
section
variable{κ:Type}{O:Ordr κ}{key:Keyed→κ}{prog:Program}{w:World}{A:Around}{E:Value→Shared→Prop}{s:Shared}{a₀:Array Keyed}{kd:SortKind}
structure SamS(st z:SortSt):Prop where
 arr:arrOf z=arrOf st
 kind:kindOf z=kindOf st
 pend:pendingOf z=pendingOf st
 failed:failedOf z=failedOf st
structure JLo(O:Ordr κ)(key:Keyed→κ)(xa xb:Array Keyed)(T:List Keyed)(o:Array Keyed)(i j:Nat):Prop where
 mg:Mg O key T o.toList (xa.toList.drop i) (xb.toList.drop j)
 i1:i+1<xa.size
 j1:j<xb.size
 sz:o.size=i+j
structure Two(O:Ordr κ)(key:Keyed→κ)(a₀ xa xb:Array Keyed):Prop where
 ma:∀(i:Nat) (x:Keyed),xa[i]?=some x→x∈a₀
 mb:∀(i:Nat) (x:Keyed),xb[i]?=some x→x∈a₀
 ua:Up O key xa.toList
 ub:Up O key xb.toList
 na:1≤xa.size
 nb:1≤xb.size
 first:∀x y:Keyed,xa[0]?=some x→xb[0]?=some y→O.lt (key y) (key x)=true
 last:∀(x y:Keyed) (j:Nat),xa[xa.size-1]?=some x→xb[j]?=some y→O.lt (key y) (key x)=true
variable{xa xb:Array Keyed}{T:List Keyed}{o:Array Keyed}{i j:Nat}
end
def Ordr.flip{κ:Type}(O:Ordr κ):Ordr κ:=⟨fun a b=>O.lt b a,O.irr,fun _ _ _ h1 h2=>O.tr _ _ _ h2 h1,fun _ b _ h=>(O.neg _ b _ h).symm⟩
section
variable{κ:Type}{O:Ordr κ}{key:Keyed→κ}{prog:Program}{w:World}{A:Around}{E:Value→Shared→Prop}{s:Shared}{a₀:Array Keyed}{kd:SortKind}
variable{xa xb:Array Keyed}{T:List Keyed}{o:Array Keyed}{i j:Nat}
structure JHi(O:Ordr κ)(key:Keyed→κ)(xa xb:Array Keyed)(T:List Keyed)(o:Array Keyed)(i j:Nat):Prop where
 mg:Mg O.flip key T o.toList (xb.reverse.toList.drop (xb.size-j)) (xa.reverse.toList.drop (xa.size-i))
 i1:1≤i
 i2:i≤xa.size
 j1:2≤j
 j2:j≤xb.size
 sz:o.size=(xa.size-i)+(xb.size-j)
end
section
variable{κ:Type}{O:Ordr κ}{key:Keyed→κ}{prog:Program}{w:World}{A:Around}{E:Value→Shared→Prop}{s:Shared}{a₀:Array Keyed}{kd:SortKind}
end
section
variable{κ:Type}{O:Ordr κ}{key:Keyed→κ}{prog:Program}{w:World}{A:Around}{E:Value→Shared→Prop}{s:Shared}{a₀:Array Keyed}{kd:SortKind}
end
section
variable{κ:Type}{O:Ordr κ}{key:Keyed→κ}{prog:Program}{w:World}{A:Around}{E:Value→Shared→Prop}{s:Shared}{a₀:Array Keyed}{kd:SortKind}
inductive Stk (O:Ordr κ) (key:Keyed→κ) (x:Array Keyed):List (Nat×Nat×Nat)→Nat→Nat→Prop
 | nil (a:Nat):Stk O key x [] a a
 | cons {a n p b:Nat} {r:List (Nat×Nat×Nat)}:1≤n→uv O key x a (a+n)→Stk O key x r (a+n) b→Stk O key x ((a,n,p)::r) a b
end
section
variable{prog:Program}{w:World}{A:Around}{E:Value→Shared→Prop}{s:Shared}
end
section
variable{X:Cx}{e:Expr}{te:TE}{p pos:Pos}
end
section
variable{prog:Program}{w:World}{A:Around}{R:Result→Shared→Prop}{I S ax:Addr}{items:Array Value}{L:Nat→List Value}
end
section
variable{X:Cx}{e e2:Expr}{te te2:TE}{p pos:Pos}
end
def oW(P:Addr)(ps:Array Value):Heap→Prop:=fun h=>h.get? P=some (PySem.W.tabObj ps)
def kZ(P:Addr)(ps:Array Value):HO:=.ext (oW P ps)
section
variable{Pr:Program}{w:World}{K:PySem.W.Frag}{mg mb:Str→Option Value}{CX:bg}{k:Nat}{fa a P:Addr}{fd:FuncData}{x:Str}{sp:Sp}{s₁:Shared}{vs:List Value}{ns:List Int}
structure Beg(K:PySem.W.Frag)(a P:Addr)(H:Hp):Prop where
 tab:H P=some (kZ P #[])
 only:∀b u,H b=some u→(b=P∧u=kZ P #[])∨(b=a∧K.lookup a=none∧∃o xs,u=.frz o (.lst xs))
end
structure LamSc(fv y:Str)(scope:Scope):Prop where
 kind:scope.kind=.function
 co:scope.isCoroutine=false
 gen:scope.isGenerator=false
 nocell:∀x∈scope.names,x.2≠ .cell
 yl:scope.names.lookup y=some .local
 ff:scope.names.lookup fv=some .free
 one:∀x∈scope.names,x.2=.free→x.1=fv
section
variable{prog:Program}{w:World}{A:Around}{E:Value→Shared→Prop}{s:Shared}
end
structure NewAd(X:Cx)(pins:List (Addr×Obj))(b:Addr):Prop where
 s0:X.s₀.heap.objs.size≤b
 loc:b≠X.env.locals
 cell:∀x c,X.env.cells.lookup x=some c→c≠b
 pin:∀p∈X.pn++pins,p.1≠b
 stk:b∉aQ X.stack
section
variable{X:Cx}{pins:List (Addr×Obj)}{σ:St}{H:Hp}{s:Shared}{f l:Addr}{ns:List Int}{kf:Int→List Nat}{fo:Obj}
structure KeyW(X:Cx)(pins:List (Addr×Obj))(σ:St)(H:Hp)(f:Addr)(fo:Obj)(D kS:Addr)(e1:Nat)(ns:List Int)(kf:Int→List Nat)(i:Nat)(s':Shared):Prop where
 ex:∃(H':Hp) (ks:List Addr) (e:Nat),Inv X pins σ H' s'∧Same H H'∧s'.heap.get? f=some fo∧H' f=none∧s'.heap.get? D=some (seqObj "list" #[] e1)∧H' D=none∧s'.heap.get? kS=some (seqObj "list" (ks.map Value.ref).toArray e)∧H' kS=none∧ks.length=i∧∀(j:Nat) (k:Addr) (n:Int),ks[j]?=some k→ns[j]?=some n→H' k=some (.lst ((kf n).map sg))
end
section
variable{X:Cx}{pins:List (Addr×Obj)}{σ:St}{H:Hp}{s:Shared}{f l:Addr}{ns:List Int}{kf:Int→List Nat}{fo:Obj}
end
section
variable{X:Cx}{pins:List (Addr×Obj)}{σ0:St}{E0:XK}
end
structure MF(K:PySem.W.Frag)(C:Addr)(x qual:Str)(st:Stmt):Prop where
 ex:∃(f:Addr) (oc:Value) (od an:Option Addr) (osl:Array (Option Value)) (kV doc pm cdv ct:Value),PySem.W.findIn K (.ref C) x=some (some (.ref f))∧PySem.W.isFn K (.ref f)=true∧
  K.lookup f=some ⟨oc,od,.func (PySem.W.fnOf x qual (ck st) (bI st) (aC st) .none kV doc pm an cdv ct),osl⟩∧PySem.W.codeIn K cdv qual=true∧PySem.W.keepIn K (.ref f)=true
structure Mt(P:Program)(w:World)(K:PySem.W.Frag)(mg:Str→Option Value)(base:Heap)(CX:bg)(C:Addr)(x:Str)(k:Nat)(ps:List Str)(sp:Sp):Prop where
 ex:∃f fd,FnOk P w K mg base CX k f fd ps sp∧Meth K C x f∧Binds K fd ps []
section
variable{X:Cx}{CX:bg}{k j:Nat}{C:Addr}{ps:List Str}{sp:Sp}{E:XK}{x m:Str}{p pos apos:Pos}{e o:Expr}{es:List Expr}{ta:TE}{t:TA}
end
structure DK(K:PySem.W.Frag)(P:Program)(w:World)(d:Addr)(kvs:List (ap×V)):Prop where
 sys:(d == sysModules)=false
 ex:∃o vs,K.lookup d=some o∧KV kvs vs∧o.IsDictOf (bz P w) vs
section
variable{X:Cx}{d:Addr}{kvs:List (ap×V)}
end
section
variable{X:Cx}{pins:List (Addr×Obj)}{σ0:St}{E0:XK}
end
def cd(x:Str):List Nat:=x.cps.toList
structure MkF(P:Program)(w:World)(K:PySem.W.Frag)(mg:Str→Option Value)(base:Heap)(CX:bg)(C:Addr)(k:Nat)(ps:List Str)(sp:Sp):Prop where
 ex:∃f fd,Mk K C f∧FnOk P w K mg base CX k f fd ps sp∧Binds K fd ps []
structure PEw(X:Cx)(e:Expr)(t:TE):Prop where
 h:PE X e t
structure PAw(X:Cx)(es:List Expr)(t:TA):Prop where
 h:PA X es t
section
variable{X:Cx}{e a b:Expr}{es:List Expr}{te ta tb:TE}{t:TA}{pos:Pos}
end
section
variable{P:Program}{w:World}{K:PySem.W.Frag}{mg:Str→Option Value}{base:Heap}{x:Str}{k k1 k2:Nat}{ps:List Str}{sp sp1 sp2 sp':Sp}
theorem Fn.toX{CX:bg}(F:Fn P w K mg base ak x k ps sp):Fn P w K mg base CX x k ps sp:=by
 obtain⟨f,fd,F,h⟩:=F.ex
 refine⟨f,fd,⟨F.len,fun A outer s H args us vs Q E hr he hb hv hs=>codeAny_mono (F.run A outer s H args us vs Q E hr he hb hv hs) fun r s' hq=>?_⟩,h⟩
 match r,hq with
 | .ok (.ret _),hq=>exact hq
theorem Fn.imp{CX:bg}(F:Fn P w K mg base CX x k ps sp)(h:∀vs H Q E,sp' vs H Q E→sp vs H Q E):Fn P w K mg base CX x k ps sp':=by
 obtain⟨f,fd,F,q⟩:=F.ex
 exact⟨f,fd,F.imp h,q⟩
theorem Fn.or{CX:bg}(F1:Fn P w K mg base CX x k1 ps sp1)(F2:Fn P w K mg base CX x k2 ps sp2)(h1:k1≤k:=by decide)(h2:k2≤k:=by decide):Fn P w K mg base CX x k ps (fun vs H Q E=>sp1 vs H Q E∨sp2 vs H Q E):=by
 obtain⟨f,fd,F1,a1,a2,a3,oc,od,osl,l1⟩:=F1.ex
 obtain⟨f',fd',F2,b1,_,_,_,_,_,l2⟩:=F2.ex
 have e:=a1.symm.trans b1
 cases e
 have e:=l1.symm.trans l2
 cases e
 refine⟨f,fd,⟨fun vs H Q E h=>h.elim (F1.len vs H Q E) (F2.len vs H Q E),fun A outer s H args us vs Q E hr he hb hv hs=>?_⟩,a1,a2,a3,oc,od,osl,l1⟩
 rcases hs with hs | hs
 ·exact F1.run A outer s H args us vs Q E (hr.mono h1) he hb hv hs
 ·exact F2.run A outer s H args us vs Q E (hr.mono h2) he hb hv hs
end
section
variable{X:Cx}{e e1 e2:Expr}{te te1 te2:TE}{p pos:Pos}
end
end L2
namespace Ov
open PySem L2
theorem fsc_{N p:List Str}{sc:Scope}(a:sc.kind=.function:=by rfl)(b:sc.isCoroutine=false:=by rfl)(c:sc.isGenerator=false:=by rfl)(d:N.Nodup:=by decide+kernel)(e:N.take p.length=p:=by rfl)(f:∀x∈p,sc.names.lookup x=some .local∨sc.names.lookup x=some .cell:=by decide+kernel)(g:∀y∈sc.names,y.2≠.free:=by decide+kernel):FnScope N p sc:=⟨a,b,c,d,e,f,g⟩
def aW(i:Nat):Stmt:=PySem.Challenge.pw_overlaid_k33_wrong_signs_refused.main.body.getD i (.Pass ⟨0,0,0,0⟩)
abbrev jl:Stmt:=aW 31
abbrev jb:Stmt:=aW 32
def Hand(H:Hp)(p:Addr):Prop:=∃a b n:Int,H p=some (.lst [.int a,.int b,.int n])
def mH:Sp:=fun vs H Q _=>∃c:Int,vs=[.int c]∧∀p H',H p=none→Hand H' p→Same H H'→Q (.ref p) H'
def d9:Sp:=fun vs H Q _=>∃(p:Addr) (many:Int),vs=[.ref p,.int many]∧Hand H p∧1≤many∧many<1000000000000000000000000000000000000000000000000000000000000∧
 ∀(r:Int) (H':Hp),0≤r→r<many→Hand H' p→Keep p H H'→Q (.int r) H'
section
variable{P:Program}{w:World}{K:PySem.W.Frag}{mg:Str→Option Value}{base:Heap}
theorem oK:FnScope ["cell"] ["cell"] (aC jl):=fsc_
theorem rL(M:Md K mg)(B:Bl mg)(F:FF K "_law_pot" jl):Fn P w K mg base ak "_law_pot" 1 ["cell"] mH:=by
 refine ba M F oK (fun _ _ _ _ _ _=>bE fun _=>rfl) (fun vs H Q E h=>?_) (fun f cdv A outer s H vs Q E hr h=>?_)
 ·obtain⟨c,rfl,_⟩:=h;rfl
 ·obtain⟨c,rfl,k⟩:=h
  refine⟨_,(ah (aH (aN (aa (jf rfl B.max ad (aq bp (pv 0) (aq kB ad ad))) (aa (aq eC (pv 0) ad) (aa ad ac)))))),?_⟩
  refine⟨_,rfl,_,_,rfl,rfl,⟨by decide,by decide,by decide⟩,_,_,rfl,rfl,_,_,rfl,rfl,?_⟩
  refine⟨_,rfl,_,_,rfl,rfl,(by show(0:Int)<99999999977;decide),by show 3≤sizeLine;decide,fun l hl=>k l _ hl ⟨_,_,_,ae⟩ (Same.upd hl)⟩
theorem scTake:FnScope ["pot","many","found","number"] ["pot","many"] (aC jb):=fsc_
theorem sP(M:Md K mg)(F:FF K "_law_take" jb):Fn P w K mg base ak "_law_take" 1 ["pot","many"] d9:=by
 refine ba M F scTake (fun _ _ _ _ _ _=>ci fun _ _=>rfl) (fun vs H Q E h=>?_) (fun f cdv A outer s H vs Q E hr h=>?_)
 ·obtain⟨p,many,rfl,_⟩:=h;rfl
 ·obtain⟨p,many,rfl,⟨a,b,n,hp⟩,h1,h2,k⟩:=h
  refine⟨_,(af (aM (aD eB (aJ aO (pv 0) ad (fun _ _=>rfl)) ad (aF _)) (af (aw (i:=2) scTake.nd rfl (.inl rfl) (aq eC (aJ aO (pv 0) ad (fun _ _=>rfl)) (pv 1)))
   (af (fP (aq kC (aJ aO (pv 0) ad (fun _ _=>rfl)) (pv 1)) (ml (pv 0) ad ot))
   (ah (aH (pv 2))))) aP)
   (af (fP (aq bj (aJ aO (pv 0) ad (fun _ _=>rfl)) ad) (ml (pv 0) ad ot))
   (af (aw (i:=3) scTake.nd rfl (.inl rfl) (aq eC (aq bj (aJ aO (pv 0) ad (fun _ _=>rfl)) (aq jQ ad (aJ aO (pv 0) ad (fun _ _=>rfl)))) ad))
   (af (aw (i:=3) scTake.nd rfl (.inl rfl) (aq eC (aq jQ (pv 3) (pv 3)) ad))
   (af (aw (i:=3) scTake.nd rfl (.inl rfl) (aq eC (aq jQ (pv 3) (aq bj (pv 3) ad)) ad))
   (ah (aH (aq eC (aq kC (pv 3) ad) (pv 1))))))))),?_⟩
  refine⟨_,rfl,p,_,_,_,rfl,rfl,SqL.of hp,bc (j:=0) rfl,_,_,rfl,rfl,_,rfl,?_⟩
  refine dq (fun hc=>?_) (fun hc=>?_)
  ·refine⟨_,rfl,p,_,_,_,rfl,rfl,SqL.of hp,bc (j:=0) rfl,_,rfl,_,_,rfl,rfl,(by show 0<many;lia),?_⟩
   refine⟨_,rfl,p,_,_,_,rfl,rfl,SqL.of hp,bc (j:=0) rfl,_,rfl,_,_,rfl,rfl,⟨by lia,by lia⟩,?_⟩
   refine⟨_,rfl,p,_,0,0,rfl,rfl,hp,rfl,_,rfl,?_⟩
   exact k _ _ (Int.emod_nonneg _ (by lia)) (Int.emod_lt_of_pos _ (by lia)) ⟨_,_,_,ae⟩ Keep.upd
  ·refine⟨_,rfl,p,_,_,_,rfl,rfl,SqL.of hp,bc (j:=2) rfl,_,_,rfl,rfl,_,rfl,p,_,2,2,rfl,rfl,hp,rfl,?_⟩
   have k1:Keep p H (L2.upd H p (.lst ([V.int a,V.int b,V.int n].set 2 (.int (n+1))))):=Keep.upd
   have hp1:(L2.upd H p (.lst ([V.int a,V.int b,V.int n].set 2 (.int (n+1))))) p=some (.lst [.int a,.int b,.int (n+1)]):=ae
   generalize L2.upd H p (.lst ([V.int a,V.int b,V.int n].set 2 (.int (n+1))))=H1 at k1 hp1
   refine⟨_,rfl,p,_,_,_,rfl,rfl,SqL.of hp1,bc (j:=1) rfl,_,rfl,p,_,_,_,rfl,rfl,SqL.of hp1,bc (j:=2) rfl,_,_,rfl,rfl,.inl ⟨by decide,by decide⟩,_,_,rfl,rfl,_,_,rfl,rfl,(by show(0:Int)<99999999947;decide),?_⟩
   have m1:=Int.emod_nonneg (b+700001*(n+1)) (show(99999999947:Int)≠0 by decide)
   have m2:=Int.emod_lt_of_pos (b+700001*(n+1)) (show(0:Int)<99999999947 by decide)
   generalize (b+700001*(n+1)) % 99999999947=x at m1 m2
   refine⟨_,rfl,_,rfl,_,_,rfl,rfl,.inl ⟨by lia,by lia⟩,_,_,rfl,rfl,(by show(0:Int)<99999999821;decide),?_⟩
   have m3:=Int.emod_nonneg (x*x) (show(99999999821:Int)≠0 by decide)
   have m4:=Int.emod_lt_of_pos (x*x) (show(0:Int)<99999999821 by decide)
   generalize x*x % 99999999821=y at m3 m4
   refine⟨_,rfl,_,rfl,_,_,rfl,rfl,_,_,rfl,rfl,.inl ⟨by lia,by lia⟩,_,_,rfl,rfl,(by show(0:Int)<9999999967;decide),?_⟩
   refine⟨_,rfl,_,_,rfl,rfl,⟨by decide,by decide⟩,_,rfl,_,_,rfl,rfl,(by show 0<many;lia),?_⟩
   exact k _ _ (Int.emod_nonneg _ (by lia)) (Int.emod_lt_of_pos _ (by lia)) ⟨_,_,_,hp1⟩ k1
end
abbrev iQ:Stmt:=aW 34
abbrev iC:Stmt:=aW 33
def az:List Nat:=(List.range 26).map (97+ ·)
theorem gR{c:Nat}(h:c∈az):97≤c∧c≤122:=by
 simp[az] at h
 lia
def Low(t:List Nat):Prop:=∀c∈t,97≤c∧c≤122
theorem Low.cp{t:List Nat}(h:Low t):∀c∈t,c<0x110000:=fun c hc=>by have:=h c hc;lia
theorem Low.take{t:List Nat}(h:Low t)(n:Nat):Low (t.take n):=fun c hc=>h c (List.mem_of_mem_take hc)
theorem Low.drop{t:List Nat}(h:Low t)(n:Nat):Low (t.drop n):=fun c hc=>h c (List.mem_of_mem_drop hc)
theorem Low.app{t u:List Nat}(h:Low t)(g:Low u):Low (t++u):=fun c hc=>(List.mem_append.mp hc).elim (h c) (g c)
theorem Low.nil:Low []:=fun c hc=>by cases hc
theorem Hand.ne{H:Hp}{p l:Addr}(h:Hand H p)(hl:H l=none):p≠l:=by
 obtain⟨a,b,n,e⟩:=h
 exact aR e hl
theorem Hand.upd{H:Hp}{p l:Addr}{o:HO}(h:Hand H p)(hl:p≠l):Hand (L2.upd H l o) p:=by
 obtain⟨a,b,n,e⟩:=h
 exact⟨a,b,n,by rw[ao hl];exact e⟩
theorem Hand.same{H H':Hp}{p:Addr}(h:Hand H p)(k:Same H H'):Hand H' p:=by
 obtain⟨a,b,n,e⟩:=h
 exact⟨a,b,n,k _ _ e⟩
theorem Hand.free{H H':Hp}{p l:Addr}(h:Hand H' p)(k:Keep p H H')(hl:H' l=none):H l=none:=by
 obtain⟨a,b,n,e⟩:=h
 exact k.free e hl
theorem bM{H:Hp}{p a:Addr}{t:List Nat}(h:Hand H p)(ha:H a=some (.lst (t.map sg))):a≠p:=by
 obtain⟨x,y,n,e⟩:=h
 refine bK ha e fun z=>?_
 have z':t.map sg=[.int x,.int y,.int n]:=HO.lst.inj z
 cases t with
 | nil=>cases z'
 | cons c t=>cases z'
theorem lG{p:Prop}[Decidable p](h:¬decide p=true):¬p:=fun z=>h (decide_eq_true z)
theorem sz{n:Nat}(h:n≤1000):n≤sizeLine:=Nat.le_of_lt (bx h)
theorem u3{n:Nat}(h:n≤5000):n≤sizeLine:=Nat.le_of_lt (mQ h)
def au(ks:List Nat):List V:=(ks.map fun(k:Nat)=>(k:Int)).map V.int
theorem mr(ks:List Nat)(i:Nat):au (ks++[i])=au ks++[V.int (0+(i:Int))]:=by
 simp[au]
theorem bq(ks:List Nat):(au ks).length=ks.length:=by simp[au]
theorem jU{i:Nat}(p:Nat→Bool):((List.range i).filter p).length≤i:=by
 have:=List.length_filter_le p (List.range i)
 simpa using this
theorem jJ{t:List Nat}{r:Int}(lt:Low t)(r0:0≤r)(r1:r<t.length):∃c,t[r.toNat]?=some c∧97≤c∧c≤122∧aX (t.map sg) r=some (sg c):=by
 obtain⟨v,hv,hm,e⟩:=cB (t.map sg) r r0 (by rw[List.length_map];exact r1)
 rw[List.getElem?_map] at hv
 cases q:t[r.toNat]? with
 | none=>rw[q] at hv;cases hv
 | some c=>
   rw[q] at hv
   have:sg c=v:=Option.some.inj hv
   subst this
   exact⟨c,rfl,(lt c (List.mem_of_getElem? q)).1,(lt c (List.mem_of_getElem? q)).2,e⟩
theorem gr{H:Hp}{l0 l1:Addr}{t u:List Nat}{Q:VK}(h0:H l0=some (.lst (t.map sg)))(h1:H l1=some (.lst (u.map sg)))(hz:t.length+u.length≤5000)(k:∀b,H b=none→Q (.ref b) (L2.upd H b (.lst ((t++u).map sg)))):io (.ref l0) (.ref l1) H Q:=
 ⟨l0,l1,_,_,rfl,rfl,h0,h1,by rw[List.length_map,List.length_map];exact u3 hz,fun b hb=>by have:=k b hb;rw[List.map_append] at this;exact this⟩
theorem fH{t:List Nat}{n:Int}(h:0≤n):bi (t.map sg) none (some n)=(t.take n.toNat).map sg:=by rw[cq,cy,gi _ _ h]
theorem ix{t:List Nat}{n:Int}(h:0≤n):bi (t.map sg) (some n) none=(t.drop n.toNat).map sg:=by rw[cq,cy,fC _ _ h]
def ow:Sp:=fun vs H Q _=>∃p:Addr,vs=[.ref p]∧Hand H p∧∀(z:List Nat) (r:Addr) (H':Hp),H r=none→H' r=some (.lst (z.map sg))→Low z→z.Nodup→1≤z.length→z.length≤26→Hand H' p→Keep p H H'→Q (.ref r) H'
def j3:Sp:=fun vs H Q _=>∃(p b:Addr) (z:List Nat) (n:Int),vs=[.ref p,.ref b,.int n]∧Hand H p∧H b=some (.lst (z.map sg))∧Low z∧1≤z.length∧z.length≤900∧0≤n∧n≤1000∧
 ∀(t:List Nat) (r:Addr) (H':Hp),H r=none→H' r=some (.lst (t.map sg))→Low t→t.length=n.toNat→Hand H' p→Keep p H H'→Q (.ref r) H'
section
variable{P:Program}{w:World}{K:PySem.W.Frag}{mg:Str→Option Value}{base:Heap}
theorem scLetters:FnScope ["pot","left","many"] ["pot"] (aC iC):=fsc_
theorem o6(M:Md K mg)(B:Bl mg)(F:FF K "_law_letters" iC)(F_law_take:Fn P w K mg base ak "_law_take" 1 ["pot","many"] d9):Fn P w K mg base ak "_law_letters" 2 ["pot"] ow:=by
 refine ba M F scLetters (fun _ _ _ _ _ _=>bE fun _=>rfl) (fun vs H Q E h=>?_) (fun f cdv A outer s H vs Q E hr h=>?_)
 ·obtain⟨p,rfl,_⟩:=h;rfl
 ·obtain⟨p,rfl,hp,k⟩:=h
  refine⟨_,(af (aw (i:=1) scLetters.nd rfl (.inr rfl) (ny rfl B.list bB))
   (af (aw (i:=2) scLetters.nd rfl (.inl rfl) (ai F_law_take hr aj (aa (pv 0) (aa ad ac))))
   (af (aM (aD bo (pv 2) ad (aF _)) (ah (aH (pv 1))) aP)
   (ah (aH (dD ["pot","left","many"] rfl (dX (by rfl) B.range (aa (pv 2) ac)) (fun _=>by exact fw) (fun _=>by exact(dc PySem.F.plainAttrs_list PySem.F.slot_list_pop PySem.F.type_list_pop vw (pv 1) (aa (ai F_law_take hr aj (aa (pv 0) (aa (aL B.len (pv 1)) ac))) ac))))))))),?_⟩
  have laz:Low az:=fun c hc=>gR hc
  have naz:az.Nodup:=by decide+kernel
  refine⟨⟨az.toArray⟩,rfl,by rw[vc];exact sz (by simp[az]),fun l hl=>?_⟩
  have s1:=Same.upd (o:=.lst (az.map sg)) hl
  have hl1:(L2.upd H l (.lst (az.map sg))) l=some (.lst (az.map sg)):=ae
  have hp1:=hp.same s1
  refine⟨_,rfl,p,5,rfl,hp1,by decide,by decide,fun m H2 m0 m1 hp2 k2=>?_⟩
  have nlp:l≠p:=(hp.ne hl).symm
  have hl2:=k2 _ _ hl1 nlp
  have k02:=s1.keep.trans k2
  refine⟨_,rfl,rfl,_,rfl,?_⟩
  refine dq (fun hc=>?_) (fun hc=>?_)
  ·exact⟨_,rfl,k az l H2 hl hl2 laz naz (by simp[az]) (by simp[az]) hp2 k02⟩
  ·have hm:m≠0:=fun q=>lG hc (by rw[q])
   refine⟨_,rfl,m,rfl,by lia,by lia,fun D hD cb=>?_⟩
   have nD:D≠p:=(hp2.ne hD).symm
   have nlD:l≠D:=aR hl2 hD
   have hDn:H D=none:=by obtain⟨x,y,z,e'⟩:=hp2;exact k02.free e' hD
   refine fE (lo:=0) (n:=m.toNat) (fun i ys H3=>∃t left:List Nat,ys=t.map sg∧(t++left).Perm az∧t.length=i∧H3 l=some (.lst (left.map sg))∧Hand H3 p∧(∀b o,H b=some o→b≠p→H3 b=some o)∧H3 D=some (.lst ys)) (bx (by lia)) ?_ ?_ ?_ ?_
   ·refine⟨[],az,rfl,List.Perm.refl _,rfl,by rw[ao nlD];exact hl2,hp2.upd (hp2.ne hD),fun b o e n=>?_,ae⟩
    have h1:=k02 b o e n
    rw[ao (aR h1 hD)];exact h1
   ·rintro i ys H3 ⟨t,left,rfl,_,rfl,_⟩
    simp
   ·rintro i ys H3 hi ⟨t,left,rfl,hper,rfl,hl3,hp3,k3,hD3⟩
    have hlen:t.length+left.length=26:=by have:=hper.length_eq;simpa [az] using this
    have hl1':1≤left.length:=by lia
    refine fz ?_
    refine⟨_,rfl,.inl ⟨rfl,_,SqL.of hl3⟩,_,rfl,_,rfl,l,_,rfl,SqL.of hl3,p,_,rfl,hp3,by rw[List.length_map];lia,by rw[List.length_map];lia,fun r H4 r0 r1 hp4 k4=>?_⟩
    rw[List.length_map] at r1
    have hl4:=k4 _ _ hl3 nlp
    have hD4:=k4 _ _ hD3 nD
    have hr:r.toNat<left.length:=by lia
    have hc':left[r.toNat]?=some left[r.toNat]:=by simp[hr]
    refine⟨l,_,r,r.toNat,sg left[r.toNat],rfl,rfl,hl4,by lia,by lia,?_,by rw[List.getElem?_map,hc'];rfl,?_⟩
    ·rw[List.length_map]
     exact(jd (sG _ _ r0 r1)).1
    ·have ee:(left.map sg).eraseIdx r.toNat=(left.eraseIdx r.toNat).map sg:=by
      apply List.ext_getElem?
      intro q
      rw[List.getElem?_map,List.getElem?_eraseIdx,List.getElem?_eraseIdx]
      split <;> rw[List.getElem?_map]
     rw[ee]
     refine⟨by rw[ao nlD.symm];exact hD4,t++[left[r.toNat]],left.eraseIdx r.toNat,by simp,?_,by simp,by rw[ao nlD,ae],?_,fun b o e n=>?_,ae⟩
     ·have h1:(left[r.toNat]::left.eraseIdx r.toNat).Perm left:=by
       rw[List.eraseIdx_eq_take_drop_succ]
       have q:=List.perm_middle (a:=left[r.toNat]) (l₁:=left.take r.toNat) (l₂:=left.drop (r.toNat+1))
       rw[←List.drop_eq_getElem_cons hr,List.take_append_drop] at q
       exact q.symm
      have h2:((t++[left[r.toNat]])++left.eraseIdx r.toNat).Perm (t++left):=by
       rw[List.append_assoc]
       exact List.Perm.append_left t h1
      exact h2.trans hper
     ·exact(hp4.upd nlp.symm).upd nD.symm
     ·rw[ao (aR e hDn),ao (aR e hl)]
      exact k4 _ _ (k3 b o e n) n
   ·rintro ys H3 ⟨t,left,rfl,hper,hl3,hl4,hp3,k3,hD3⟩
    refine k t D H3 hDn hD3 (fun c hc=>gR (hper.mem_iff.mp (List.mem_append_left _ hc))) ?_ (by lia) (by lia) hp3 (fun b o e n=>k3 b o e n)
    exact(List.nodup_append.mp (hper.nodup_iff.mpr naz)).1
theorem pI:FnScope ["pot","letters","many"] ["pot","letters","many"] (aC iQ):=fsc_
theorem qX(M:Md K mg)(B:Bl mg)(F:FF K "_law_signs" iQ)(F_law_take:Fn P w K mg base ak "_law_take" 1 ["pot","many"] d9):Fn P w K mg base ak "_law_signs" 2 ["pot","letters","many"] j3:=by
 refine ba M F pI (fun _ _ _ _ _ _=>df fun _ _ _=>rfl) (fun vs H Q E h=>?_) (fun f cdv A outer s H vs Q E hr h=>?_)
 ·obtain⟨p,b,z,n,rfl,_⟩:=h;rfl
 ·obtain⟨p,b,z,n,rfl,hp,hb,lz,z1,z2,n0,n1,k⟩:=h
  refine⟨_,(ah (aH (dD ["pot","letters","many"] rfl (dX (by rfl) B.range (aa (pv 2) ac)) (fun _=>by exact fw) (fun _=>by exact(aJ aO (pv 1) (ai F_law_take hr aj (aa (pv 0) (aa (aL B.len (pv 1)) ac))) (fun _ _=>rfl)))))),?_⟩
  have nbp:=bM hp hb
  refine⟨_,rfl,n,rfl,by lia,by lia,fun D hD cb=>?_⟩
  have nD:D≠p:=(hp.ne hD).symm
  refine fE (lo:=0) (n:=n.toNat) (fun i ys H2=>∃t:List Nat,ys=t.map sg∧Low t∧t.length=i∧Hand H2 p∧Keep p H H2∧H2 D=some (.lst ys)) (bx (by lia)) ?_ ?_ ?_ ?_
  ·exact⟨[],rfl,Low.nil,rfl,hp.upd (hp.ne hD),(Same.upd hD).keep,ae⟩
  ·rintro i ys H2 ⟨t,rfl,_,rfl,_⟩
   simp
  ·rintro i ys H2 hi ⟨t,rfl,lt,rfl,hp2,k2,hD2⟩
   refine fz ?_
   have hb2:=k2 _ _ hb nbp
   refine⟨_,rfl,_,rfl,_,rfl,b,_,rfl,SqL.of hb2,p,_,rfl,hp2,by rw[List.length_map];lia,by rw[List.length_map];lia,fun r H3 r0 r1 hp3 k3=>?_⟩
   rw[List.length_map] at r1
   obtain⟨c,_,c1,c2,ec⟩:=jJ lz r0 r1
   refine⟨b,_,r,_,rfl,rfl,SqL.of (k3 _ _ hb2 nbp),ec,k3 _ _ hD2 nD,t++[c],by simp,?_,by simp,hp3.upd nD.symm,?_,ae⟩
   ·exact lt.app fun d hd=>by rw[List.mem_singleton.mp hd];exact⟨c1,c2⟩
   ·intro b o e nb
    rw[ao (aR e hD)]
    exact k3 _ _ (k2 b o e nb) nb
  ·rintro ys H2 ⟨t,rfl,lt,hl,hp2,k2,hD2⟩
   exact k t D H2 hD hD2 lt hl hp2 k2
end
abbrev iX:Stmt:=aW 35
def mJ:Sp:=fun vs H Q _=>∃(p b:Addr) (z:List Nat) (m:Int),vs=[.ref p,.ref b,.int m]∧Hand H p∧H b=some (.lst (z.map sg))∧Low z∧1≤z.length∧z.length≤900∧1≤m∧m≤300∧
 ∀(t:List Nat) (r:Addr) (H':Hp),H r=none→H' r=some (.lst (t.map sg))→Low t→1≤t.length→(t.length:Int)≤m→Hand H' p→Keep p H H'→Q (.ref r) H'
theorem qy(n:Nat)(t:List Nat):(List.replicate n (t.map sg)).flatten=((List.replicate n t).flatten).map sg:=by
 induction n with
 | zero=>rfl
 | succ n ih=>rw[List.replicate_succ,List.flatten_cons,ih,List.replicate_succ,List.flatten_cons,List.map_append]
theorem Low.rep{t:List Nat}(h:Low t)(n:Nat):Low (List.replicate n t).flatten:=fun c hc=>by
 obtain⟨l,hl,hc⟩:=List.mem_flatten.mp hc
 rw[(List.mem_replicate.mp hl).2] at hc
 exact h c hc
theorem j5(n:Nat)(t:List Nat):(List.replicate n t).flatten.length=n*t.length:=by
 induction n with
 | zero=>simp
 | succ n ih=>rw[List.replicate_succ,List.flatten_cons,List.length_append,ih,Nat.succ_mul,Nat.add_comm]
theorem gf{H:Hp}{l:Addr}{t:List Nat}{n:Int}{Q:VK}(h:H l=some (.lst (t.map sg)))(n0:0≤n)(n1:n≤1000)(hz:t.length*n.toNat≤20000)(k:∀b,H b=none→Q (.ref b) (L2.upd H b (.lst ((List.replicate n.toNat t).flatten.map sg)))):lA (.ref l) (.int n) H Q:=
 ⟨l,n,_,rfl,rfl,h,by lia,by lia,by rw[List.length_map];exact Nat.le_trans hz (by decide),fun b hb=>by rw[qy];exact k b hb⟩
section
variable{P:Program}{w:World}{K:PySem.W.Frag}{mg:Str→Option Value}{base:Heap}
theorem scWord:FnScope ["pot","letters","most","size","kind","piece","amid","once"] ["pot","letters","most"] (aC iX):=fsc_
theorem o8{a b c r:Int}(r0:0≤r)(r1:r<3):∃v:Int,(v=a∨v=b∨v=c)∧aX [V.int a,V.int b,V.int c] r=some (.int v):=by
 obtain⟨v,hv,hmem,e⟩:=cB [V.int a,V.int b,V.int c] r r0 (by simpa using r1)
 simp at hmem
 rcases hmem with rfl | rfl | rfl
 ·exact⟨a,.inl rfl,e⟩
 ·exact⟨b,.inr (.inl rfl),e⟩
 ·exact⟨c,.inr (.inr rfl),e⟩
theorem qS(M:Md K mg)(B:Bl mg)(F:FF K "_law_word" iX)(F_law_take:Fn P w K mg base ak "_law_take" 1 ["pot","many"] d9)(F_law_signs:Fn P w K mg base ak "_law_signs" 2 ["pot","letters","many"] j3):Fn P w K mg base ak "_law_word" 3 ["pot","letters","most"] mJ:=by
 refine ba M F scWord (fun _ _ _ _ _ _=>df fun _ _ _=>rfl) (fun vs H Q E h=>?_) (fun f cdv A outer s H vs Q E hr h=>?_)
 ·obtain⟨p,b,z,m,rfl,_⟩:=h;rfl
 ·obtain⟨p,b,z,m,rfl,hp,hb,lz,z1,z2,m1,m2,k⟩:=h
  refine⟨_,(af (aw (i:=3) scWord.nd rfl (.inl rfl) (aq bj ad (ai F_law_take hr aj (aa (pv 0) (aa (aJ aO (aN (aa (iJ rfl B.min ad (pv 2)) (aa (iJ rfl B.min ad (pv 2)) (aa (pv 2) ac)))) (ai F_law_take hr aj (aa (pv 0) (aa ad ac))) (fun _ _=>rfl)) ac)))))
   (af (aw (i:=4) scWord.nd rfl (.inl rfl) (ai F_law_take hr aj (aa (pv 0) (aa ad ac))))
   (af (aw (i:=5) scWord.nd rfl (.inl rfl) (ai F_law_signs hr aj (aa (pv 0) (aa (pv 1) (aa (aq bj ad (ai F_law_take hr aj (aa (pv 0) (aa (iJ rfl B.min (pv 3) ad) ac)))) ac)))))
   (af (aM (aD bo (pv 4) ad (aF _)) (ah (aH (bu bv (aq g0 (pv 5) (pv 3)) bA (bt (pv 3))))) aP)
   (af (aM (aD bo (pv 4) ad (aF _)) (af (aw (i:=6) scWord.nd rfl (.inl rfl) (ai F_law_signs hr aj (aa (pv 0) (aa (pv 1) (aa (ai F_law_take hr aj (aa (pv 0) (aa ad ac))) ac)))))
   (ah (aH (bu bv (aq cj (aq cj (pv 5) (pv 6)) (pv 5)) bA (bt (jf rfl B.max ad (pv 2))))))) aP)
   (af (aM (aD bo (pv 4) ad (aF _)) (af (aw (i:=7) scWord.nd rfl (.inl rfl) (aq g0 (aq cj (pv 5) (bu bv (pv 5) bA (bt (ai F_law_take hr aj (aa (pv 0) (aa (aq bj (aL B.len (pv 5)) ad) ac)))))) ad))
   (ah (aH (bu bv (aq g0 (pv 7) (pv 3)) bA (bt (pv 3)))))) aP)
   (af (aM (aD bo (pv 4) ad (aF _)) (ah (aH (aq g0 (bu bv (pv 1) bA (bt ad)) (pv 3)))) aP)
   (ah (aH (ai F_law_signs hr aj (aa (pv 0) (aa (pv 1) (aa (pv 3) ac))))))))))))),?_⟩
  have nbp:=bM hp hb
  refine⟨_,rfl,_,rfl,_,_,rfl,rfl,_,rfl,_,_,rfl,rfl,_,rfl,by show 3≤sizeLine;decide,fun l0 hl0=>?_⟩
  have s1:=Same.upd (o:=.lst [V.int (if m<5 then m else 5),V.int (if m<20 then m else 20),V.int m]) hl0
  have hp1:=hp.same s1
  refine⟨_,rfl,p,3,rfl,hp1,by decide,by decide,fun r H2 r0 r1 hp2 k2=>?_⟩
  have hl2:=k2 _ _ ae (fun q=>hp.ne hl0 q.symm)
  obtain⟨v,hv,ev⟩:=o8 (a:=if m<5 then m else 5) (b:=if m<20 then m else 20) (c:=m) r0 r1
  have hv':1≤v∧v≤m:=by
   rcases hv with rfl | rfl | rfl
   ·split <;> lia
   ·split <;> lia
   ·lia
  refine⟨l0,_,r,_,rfl,rfl,SqL.of hl2,ev,p,v,rfl,hp2,hv'.1,by lia,fun n H3 n0 n1 hp3 k3=>?_⟩
  have k03:=(s1.keep.trans k2).trans k3
  refine⟨_,_,rfl,rfl,?_⟩
  have sz1:1≤1+n∧1+n≤m:=by lia
  refine⟨_,rfl,p,5,rfl,hp3,by decide,by decide,fun kind H4 i0 i1 hp4 k4=>?_⟩
  have k04:=k03.trans k4
  have hb4:=k04 _ _ hb nbp
  refine⟨_,rfl,_,rfl,_,rfl,_,rfl,_,_,rfl,rfl,p,_,rfl,hp4,by split <;> lia,by split <;> lia,fun c H5 c0 c1 hp5 k5=>?_⟩
  have c8:c<8:=by split at c1 <;> lia
  have k05:=k04.trans k5
  have hb5:=k05 _ _ hb nbp
  refine⟨_,_,rfl,rfl,p,b,z,1+c,rfl,hp5,hb5,lz,z1,z2,by lia,by lia,fun t q H6 hq0 hq6 lt tl hp6 k6=>?_⟩
  have k06:=k05.trans k6
  have hb6:=k06 _ _ hb nbp
  have tl':1≤t.length∧t.length≤8:=by lia
  have mul:∀a b:Nat,a≤40→b≤300→a*b≤20000:=fun a b h1 h2=>Nat.le_trans (Nat.mul_le_mul h1 h2) (by decide)
  have long:∀x:List Nat,1≤x.length→(1+n).toNat≤(List.replicate (1+n).toNat x).flatten.length:=fun x hx=>by
   rw[j5]
   exact Nat.le_mul_of_pos_right _ hx
  refine⟨_,rfl,rfl,_,rfl,?_⟩
  refine dq (fun hc=>?_) (fun hc=>?_)
  ·refine⟨_,rfl,_,rfl,gf hq6 (by lia) (by lia) (mul _ _ (by lia) (by lia)) fun l hl=>?_⟩
   have s7:=Same.upd (o:=.lst ((List.replicate (1+n).toNat t).flatten.map sg)) hl
   refine⟨_,rfl,(1+n),rfl,l,_,rfl,SqL.of ae,fun l2 hl2'=>?_⟩
   rw[fH (by lia)]
   have s8:=s7.trans (Same.upd (o:=.lst (((List.replicate (1+n).toNat t).flatten.take (1+n).toNat).map sg)) hl2')
   have hll:=long t tl'.1
   exact k _ l2 _ (by obtain⟨x,y,w',e'⟩:=hp6;exact k06.free e' (s7.free hl2')) ae ((lt.rep _).take _) (by rw[List.length_take];lia) (by rw[List.length_take];lia) (hp6.same s8) (k06.trans s8.keep)
  ·refine⟨_,rfl,rfl,_,rfl,?_⟩
   refine dq (fun hc2=>?_) (fun hc2=>?_)
   ·refine⟨_,rfl,_,rfl,_,rfl,p,4,rfl,hp6,by decide,by decide,fun d H7 d0 d1 hp7 k7=>?_⟩
    have hb7:=k7 _ _ hb6 (bM hp6 hb6)
    have hq7:=k7 _ _ hq6 (bM hp6 hq6)
    refine⟨p,b,z,d,rfl,hp7,hb7,lz,z1,z2,d0,by lia,fun v' y H8 hy0 hy8 lv vl hp8 k8=>?_⟩
    have hq8:=k8 _ _ hq7 (bM hp7 hq7)
    refine⟨_,rfl,_,rfl,gr hq8 hy8 (by lia) fun l hl=>?_⟩
    have s9:=Same.upd (o:=.lst ((t++v').map sg)) hl
    refine⟨_,rfl,gr ae (s9 _ _ hq8) (by rw[List.length_append];lia) fun l2 hl2'=>?_⟩
    have s10:=s9.trans (Same.upd (o:=.lst ((t++v'++t).map sg)) hl2')
    have hx10:=ae (H:=L2.upd H8 l (.lst ((t++v').map sg))) (a:=l2) (o:=.lst ((t++v'++t).map sg))
    generalize L2.upd (L2.upd H8 l (.lst ((t++v').map sg))) l2 (.lst ((t++v'++t).map sg))=H10 at*
    refine⟨_,rfl,_,_,rfl,rfl,_,rfl,l2,_,rfl,SqL.of hx10,fun l3 hl3=>?_⟩
    have em:(if m>1 then m else 1)=m:=by split <;> lia
    rw[em,fH (by lia)]
    have s11:=s10.trans (Same.upd (o:=.lst (((t++v'++t).take m.toNat).map sg)) hl3)
    have k08:=(k06.trans k7).trans k8
    exact k _ l3 _ (by obtain⟨x,y,w',e'⟩:=hp8;exact k08.free e' (s10.free hl3)) ae (((lt.app lv).app lt).take _) (by rw[List.length_take,List.length_append];lia) (by rw[List.length_take];lia) (hp8.same s11) (k08.trans s11.keep)
   ·refine⟨_,rfl,rfl,_,rfl,?_⟩
    refine dq (fun hc3=>?_) (fun hc3=>?_)
    ·refine⟨_,rfl,_,rfl,_,rfl,_,rfl,q,_,rfl,SqL.of hq6,_,_,rfl,rfl,p,_,rfl,hp6,by rw[List.length_map];lia,by rw[List.length_map];lia,fun d H7 d0 d1 hp7 k7=>?_⟩
     have hq7:=k7 _ _ hq6 (bM hp6 hq6)
     refine⟨d,rfl,q,_,rfl,SqL.of hq7,fun l hl=>?_⟩
     rw[fH d0]
     have s8:=Same.upd (o:=.lst ((t.take d.toNat).map sg)) hl
     refine gr (s8 _ _ hq7) ae (by rw[List.length_take];lia) fun l2 hl2'=>?_
     have s9:=s8.trans (Same.upd (o:=.lst ((t++t.take d.toNat).map sg)) hl2')
     have hx9:=ae (H:=L2.upd H7 l (.lst ((t.take d.toNat).map sg))) (a:=l2) (o:=.lst ((t++t.take d.toNat).map sg))
     generalize L2.upd (L2.upd H7 l (.lst ((t.take d.toNat).map sg))) l2 (.lst ((t++t.take d.toNat).map sg))=H9 at*
     have ol:(t++t.take d.toNat).length≤16∧1≤(t++t.take d.toNat).length:=by rw[List.length_append,List.length_take];lia
     dsimp only[tC]
     refine gf (n:=2) hx9 (by decide) (by decide) (mul _ _ (by lia) (by decide)) fun l3 hl3=>?_
     have s10:=s9.trans (Same.upd (o:=.lst ((List.replicate (2:Int).toNat (t++t.take d.toNat)).flatten.map sg)) hl3)
     have hx10:=ae (H:=H9) (a:=l3) (o:=.lst ((List.replicate (2:Int).toNat (t++t.take d.toNat)).flatten.map sg))
     have o2:(List.replicate (2:Int).toNat (t++t.take d.toNat)).flatten.length=2*(t++t.take d.toNat).length:=j5 2 _
     have lo2:Low (List.replicate (2:Int).toNat (t++t.take d.toNat)).flatten:=(lt.app (lt.take _)).rep _
     generalize (List.replicate (2:Int).toNat (t++t.take d.toNat)).flatten=once at*
     generalize L2.upd H9 l3 (.lst (once.map sg))=H10 at*
     refine⟨_,rfl,_,rfl,gf hx10 (by lia) (by lia) (mul _ _ (by lia) (by lia)) fun l4 hl4=>?_⟩
     have s11:=s10.trans (Same.upd (o:=.lst ((List.replicate (1+n).toNat once).flatten.map sg)) hl4)
     have hx11:=ae (H:=H10) (a:=l4) (o:=.lst ((List.replicate (1+n).toNat once).flatten.map sg))
     generalize L2.upd H10 l4 (.lst ((List.replicate (1+n).toNat once).flatten.map sg))=H11 at*
     refine⟨_,rfl,(1+n),rfl,l4,_,rfl,SqL.of hx11,fun l5 hl5=>?_⟩
     rw[fH (by lia)]
     have s12:=s11.trans (Same.upd (o:=.lst (((List.replicate (1+n).toNat once).flatten.take (1+n).toNat).map sg)) hl5)
     have hll:=long once (by lia)
     have k07:=k06.trans k7
     exact k _ l5 _ (by obtain⟨x,y,w',e'⟩:=hp7;exact k07.free e' (s11.free hl5)) ae ((lo2.rep _).take _) (by rw[List.length_take];lia) (by rw[List.length_take];lia) (hp7.same s12) (k07.trans s12.keep)
    ·refine⟨_,rfl,rfl,_,rfl,?_⟩
     refine dq (fun hc4=>?_) (fun hc4=>?_)
     ·refine⟨_,rfl,1,rfl,b,_,rfl,SqL.of hb6,fun l hl=>?_⟩
      rw[fH (by decide)]
      have s7:=Same.upd (o:=.lst ((z.take (1:Int).toNat).map sg)) hl
      have zl:(z.take (1:Int).toNat).length=1:=by rw[List.length_take,show(1:Int).toNat=1 from rfl];lia
      refine⟨_,rfl,gf ae (by lia) (by lia) (mul _ _ (by lia) (by lia)) fun l2 hl2'=>?_⟩
      have s8:=s7.trans (Same.upd (o:=.lst ((List.replicate (1+n).toNat (z.take (1:Int).toNat)).flatten.map sg)) hl2')
      have hrl:=j5 (1+n).toNat (z.take (1:Int).toNat)
      rw[zl,Nat.mul_one] at hrl
      exact k _ l2 _ (by obtain⟨x,y,w',e'⟩:=hp6;exact k06.free e' (s7.free hl2')) ae ((lz.take _).rep _) (by rw[hrl];lia) (by rw[hrl];lia) (hp6.same s8) (k06.trans s8.keep)
     ·refine⟨_,rfl,_,rfl,_,rfl,p,b,z,(1+n),rfl,hp6,hb6,lz,z1,z2,by lia,by lia,fun t' y H7 hy0 hy7 lt' tl7 hp7 k7=>?_⟩
      exact k t' y H7 (by obtain⟨x,w1,w',e'⟩:=hp6;exact k06.free e' hy0) hy7 lt' (by lia) (by lia) hp7 (k06.trans k7)
end
abbrev jq:Stmt:=aW 36
def aB(u:List Nat):List Nat:=((List.range u.length).map (·+1)).filter fun d=>decide (u.drop d=u.take (u.length-d))
theorem i8{u:List Nat}{d:Nat}(hd:d≤u.length):u.drop d=u.take (u.length-d)↔∀q,q<u.length-d→u[d+q]?=u[q]?:=by
 constructor
 ·intro h q hq
  have:=congrArg (·[q]?) h
  have this:(u.drop d)[q]?=(u.take (u.length-d))[q]?:=this
  rw[List.getElem?_drop,List.getElem?_take_of_lt hq] at this
  exact this
 ·intro h
  apply List.ext_getElem?
  intro q
  by_cases hq:q<u.length-d
  ·rw[List.getElem?_drop,List.getElem?_take_of_lt hq];exact h q hq
  ·rw[List.getElem?_eq_none (by rw[List.length_drop];lia),List.getElem?_eq_none (by rw[List.length_take];lia)]
theorem mB(u:List Nat)(i:Nat):((List.range (i+1)).map (·+1)).filter (fun d=>decide (u.drop d=u.take (u.length-d)))=((List.range i).map (·+1)).filter (fun d=>decide (u.drop d=u.take (u.length-d)))++(if u.drop (i+1)=u.take (u.length-(i+1)) then [i+1] else []):=by
 rw[List.range_succ,List.map_append,List.filter_append]
 congr 1
 by_cases h:u.drop (i+1)=u.take (u.length-(i+1)) <;> simp[h]
theorem ic(u:List Nat):(aB u).length≤u.length:=by
 unfold aB
 have:=List.length_filter_le (fun d=>decide (u.drop d=u.take (u.length-d))) ((List.range u.length).map (·+1))
 simpa using this
def dN:Sp:=fun vs H Q _=>∃(a:Addr) (u:List Nat),vs=[.ref a]∧H a=some (.lst (u.map sg))∧Low u∧1≤u.length∧u.length≤900∧
 ∀(r:Addr) (H':Hp),H r=none→H' r=some (.lst (au (aB u)))→Same H H'→Q (.ref r) H'
theorem cZ(ks:List Nat)(i:Nat):au (ks++[i])=au ks++[V.int (i:Int)]:=by simp[au]
theorem sg_inj{a b:Nat}:(sg a=sg b)↔a=b:=by
 constructor
 ·intro h
  have:aA a=aA b:=V.str.inj h
  simpa [aA] using this
 ·intro h;rw[h]
section
variable{P:Program}{w:World}{K:PySem.W.Frag}{mg:Str→Option Value}{base:Heap}
theorem scShiftsL:FnScope ["word","found","far"] ["word"] (aC jq):=fsc_
theorem uP(M:Md K mg)(B:Bl mg)(F:FF K "_law_shifts" jq):Fn P w K mg base ak "_law_shifts" 1 ["word"] dN:=by
 refine ba M F scShiftsL (fun _ _ _ _ _ _=>bE fun _=>rfl) (fun vs H Q E h=>?_) (fun f cdv A outer s H vs Q E hr h=>?_)
 ·obtain⟨a,u,rfl,_⟩:=h;rfl
 ·obtain⟨a,u,rfl,ha,lu,u1,ul,k⟩:=h
  refine⟨_,(af (aw (i:=1) scShiftsL.nd rfl (.inl rfl) (aN ac))
   (af (bO PassesOwn.never rfl (iU (by rfl) B.range (aa ad (aa (aq bj (aL B.len (pv 0)) ad) ac))) (aV (i:=2) scShiftsL.nd rfl (.inr rfl))
   (ah (aM (aD (pP (by exact hr)) (dD ["word","found","far"] rfl (iU (by rfl) B.range (aa (pv 2) (aa (aL B.len (pv 0)) ac))) (fun _=>by exact(dE (aD eE (aJ aO (pv 0) (pv 3) (fun _ _=>rfl)) (aJ aO (pv 0) (aq bp (pv 3) (pv 2)) (fun _ _=>rfl)) (aF _)))) (fun _=>by exact(pv 3))) (aN ac) (aF _)) (ah (bb (dc PySem.F.plainAttrs_list PySem.F.slot_list_append PySem.F.type_list_append d3 (pv 1) (aa (pv 2) ac)))) aP)))
   (ah (aH (pv 1))))),?_⟩
  refine⟨Nat.zero_le _,fun r hrn=>?_⟩
  have s0:=Same.upd (o:=.lst []) hrn
  refine⟨_,rfl,a,_,rfl,SqL.of (s0 _ _ ha),_,_,rfl,rfl,1,_,rfl,⟨by decide,by decide,by rw[List.length_map];lia,by rw[List.length_map];lia⟩,?_⟩
  rw[List.length_map,show((u.length:Int)+1-1).toNat=u.length by lia]
  refine gu (lo:=1) (n:=u.length) (fun i σ H2=>∃v2,σ=[some (.ref a),some (.ref r),v2]∧Same H H2∧H2 r=some (.lst (au (((List.range i).map (·+1)).filter fun d=>decide (u.drop d=u.take (u.length-d)))))) ?_ ?_ ?_
  ·exact⟨none,rfl,s0,ae⟩
  ·rintro i σ H2 hi ⟨v2,rfl,s2,hr2⟩
   have ha2:=s2 _ _ ha
   refine⟨_,rfl,_,rfl,a,_,rfl,SqL.of ha2,1+(i:Int),_,rfl,⟨by lia,by lia,by rw[List.length_map];lia,by rw[List.length_map];lia⟩,fun D hD cb=>?_⟩
   rw[List.length_map,show((u.length:Int)-(1+(i:Int))).toNat=u.length-(i+1) by lia]
   refine fE (lo:=1+(i:Int)) (n:=u.length-(i+1)) (fun j ys H3=>∃zs:List Int,ys=zs.map V.int∧zs.length≤j∧(zs=[]↔∀q,q<j→u[i+1+q]?=u[q]?)∧Same H2 H3∧H3 D=some (.lst ys)) (bx (by lia)) ?_ ?_ ?_ ?_
   ·exact⟨[],rfl,Nat.le_refl _,by simp,Same.upd hD,ae⟩
   ·rintro j ys H3 ⟨zs,rfl,h,_⟩
    rw[List.length_map];exact h
   ·rintro j ys H3 hj ⟨zs,rfl,zl,zn,s3,hD3⟩
    have ha3:=s3 _ _ ha2
    obtain⟨c,hc,_,_,ec⟩:=jJ (t:=u) (r:=1+(i:Int)+(j:Int)) lu (by lia) (by lia)
    obtain⟨d,hd,_,_,ed⟩:=jJ (t:=u) (r:=1+(i:Int)+(j:Int)-(1+(i:Int))) lu (by lia) (by lia)
    rw[show(1+(i:Int)+(j:Int)).toNat=i+1+j by lia] at hc
    rw[show(1+(i:Int)+(j:Int)-(1+(i:Int))).toNat=j by lia] at hd
    refine⟨_,rfl,_,rfl,a,_,_,_,rfl,rfl,SqL.of ha3,ec,_,rfl,_,rfl,_,rfl,_,_,rfl,rfl,a,_,_,_,rfl,rfl,SqL.of ha3,ed,rfl,_,rfl,?_⟩
    by_cases hcd:c=d
    ·rw[decide_eq_true (sg_inj.mpr hcd)]
     refine ar ⟨zs,rfl,by lia,?_,s3,hD3⟩
     rw[zn]
     constructor
     ·intro h q hq
      by_cases hqj:q=j
      ·subst hqj;rw[hc,hd,hcd]
      ·exact h q (by lia)
     ·intro h q hq;exact h q (by lia)
    ·rw[decide_eq_false (fun q=>hcd (sg_inj.mp q))]
     refine aE ⟨_,rfl,hD3,zs++[1+(i:Int)+(j:Int)],by simp,by simp;lia,?_,?_,ae⟩
     ·constructor
      ·intro h;simp at h
      ·intro h
       have:=h j (by lia)
       rw[hc,hd] at this
       exact absurd (Option.some.inj this) hcd
     ·intro b o e
      rw[ao (aR e hD)]
      exact s3 b o e
   ·rintro ys H3 ⟨zs,rfl,zl,zn,s3,hD3⟩
    refine⟨Nat.zero_le _,fun l hl=>?_⟩
    have s4:=s3.trans (Same.upd (o:=.lst []) hl)
    have hr4:=s4 _ _ hr2
    refine⟨D,l,zs,[],rfl,rfl,SqL.of ((Same.upd hl) _ _ hD3),SqL.of ae,_,rfl,?_⟩
    have hiff:zs=[]↔u.drop (i+1)=u.take (u.length-(i+1)):=by rw[zn,i8 (by lia)]
    by_cases hz:zs=[]
    ·rw[decide_eq_true hz]
     refine aE ⟨_,rfl,.inl ⟨rfl,_,SqL.of hr4⟩,_,rfl,r,_,_,rfl,rfl,hr4,?_,?_⟩
     ·rw[bq]
      have:=List.length_filter_le (fun d=>decide (u.drop d=u.take (u.length-d))) ((List.range i).map (·+1))
      simp at this
      exact bx (by lia)
     ·refine⟨_,rfl,?_,?_⟩
      ·intro b o e
       rw[ao (aR e hrn)]
       exact s4 _ _ (s2 b o e)
      ·rw[ae,mB,if_pos (hiff.mp hz),cZ]
       have e:V.int (1+(i:Int))=V.int (((i+1:Nat):Int)):=by congr 1;lia
       rw[e]
    ·rw[decide_eq_false hz]
     refine ar ⟨_,rfl,s2.trans s4,?_⟩
     rw[hr4,mB,if_neg (fun q=>hz (hiff.mpr q)),List.append_nil]
  ·rintro σ H2 ⟨v2,rfl,s2,hr2⟩
   exact⟨_,rfl,k r H2 hrn hr2 s2⟩
end
abbrev gz:Stmt:=aW 12
abbrev gG:Stmt:=aW 13
def kQ:Sp:=fun vs H Q _=>∃c:Nat,vs=[sg c]∧97≤c∧c≤122∧Q (.bl true) H
def fK:Sp:=fun vs H Q _=>∃(a:Addr) (t:List Nat),vs=[.ref a]∧H a=some (.lst (t.map sg))∧Low t∧Q .non H
theorem kj{c:Nat}(h:97≤c):(!decide ((aA c).cps.toList<(Str.ofString "a").cps.toList))=true:=by
 have e:(Str.ofString "a").cps.toList=[97]:=by decide+kernel
 rw[e]
 have:¬([c] < [97]):=fun q=>by
  cases q with
  | rel r=>lia
  | cons r=>cases r
 simp[this]
theorem li{c:Nat}(h:c≤122):(!decide ((Str.ofString "z").cps.toList<(aA c).cps.toList))=true:=by
 have e:(Str.ofString "z").cps.toList=[122]:=by decide+kernel
 rw[e]
 have:¬([122] < [c]):=fun q=>by
  cases q with
  | rel r=>lia
  | cons r=>cases r
 simp[this]
section
variable{P:Program}{w:World}{K:PySem.W.Frag}{mg:Str→Option Value}{base:Heap}
theorem mU:FnScope ["sign"] ["sign"] (aC gz):=fsc_
theorem rd(M:Md K mg)(B:Bl mg)(F:FF K "is_sign" gz):Fn P w K mg base ak "is_sign" 1 ["sign"] kQ:=by
 refine ba M F mU (fun _ _ _ _ _ _=>bE fun _=>rfl) (fun vs H Q E h=>?_) (fun f cdv A outer s H vs Q E hr h=>?_)
 ·obtain⟨c,rfl,_⟩:=h;rfl
 ·obtain⟨c,rfl,c1,c2,k⟩:=h
  refine⟨_,(ah (aH (gM (me B.isinst B.str lJ (pv 0)) (gM (eI bo (jC B.len (pv 0)) ad (aF _)) (kI (ik gY gY bB (pv 0) bB)))))),?_⟩
  refine⟨_,rfl,_,true,TyOf.str _,rfl,_,rfl,aE ?_⟩
  refine⟨_,rfl,_,rfl,sz (by show 1≤1000;decide),rfl,true,rfl,aE ?_⟩
  refine⟨_,rfl,_,_,rfl,rfl,_,rfl,?_⟩
  rw[kj c1]
  refine aE ⟨_,_,rfl,rfl,?_⟩
  rw[li c2]
  exact k
theorem scCheck:FnScope ["text","sign"] ["text"] (aC gG):=fsc_
theorem rZ(M:Md K mg)(B:Bl mg)(F:FF K "check_signs" gG)(Fis_sign:Fn P w K mg base ak "is_sign" 1 ["sign"] kQ):Fn P w K mg base ak "check_signs" 2 ["text"] fK:=by
 refine ba M F scCheck (fun _ _ _ _ _ _=>bE fun _=>rfl) (fun vs H Q E h=>?_) (fun f cdv A outer s H vs Q E hr h=>?_)
 ·obtain⟨a,t,rfl,_⟩:=h;rfl
 ·obtain⟨a,t,rfl,ha,lt,k⟩:=h
  refine⟨_,(ah (bO PassesOwn.never rfl (dA (pv 0)) (aV (i:=1) scCheck.nd rfl (.inl rfl))
   (ah (aM (dv (bZ (ai Fis_sign hr aj (aa (pv 1) ac)))) (ah gy) aP)))),?_⟩
  refine⟨_,rfl,a,rfl,⟨_,SqL.of ha⟩,iI (K:=K) (a:=a) (xs:=t.map sg) (fun i σ H2=>H2=H∧∃v,σ=[some (.ref a),v]) ⟨rfl,none,rfl⟩ (fun i σ H2 _ h2=>by rw[h2.1];exact SqL.of ha) ?_ ?_⟩
  ·rintro i x σ H2 hx ⟨rfl,v,rfl⟩
   rw[List.getElem?_map] at hx
   cases e:t[i]? with
   | none=>rw[e] at hx;cases hx
   | some c=>
     rw[e] at hx
     have:sg c=x:=Option.some.inj hx
     subst this
     have hc:=lt c (List.mem_of_getElem? e)
     exact⟨_,rfl,c,rfl,hc.1,hc.2,true,rfl,ar ⟨rfl,_,rfl⟩⟩
  ·rintro σ H2 ⟨rfl,_⟩
   exact k
end
def cg(t:List Nat):List Nat:=(List.range t.length).filter fun k=>decide (t.take k=t.drop (t.length-k))
def mL:Sp:=fun vs H Q _=>∃(a:Addr) (t:List Nat),vs=[.ref a]∧H a=some (.lst (t.map sg))∧Low t∧t.length≤1000∧
 ∀(r:Addr) (H':Hp),H r=none→H' r=some (.lst (au (cg t)))→Same H H'→Q (.ref r) H'
theorem pU{t:List Nat}{k:Nat}(h:k∈cg t):k<t.length:=by
 simp[cg] at h;exact h.1
theorem sQ(t:List Nat):(cg t).length≤t.length:=jU _
theorem la{t:List Nat}{i:Nat}:((List.range (i+1)).filter fun k=>decide (t.take k=t.drop (t.length-k)))=((List.range i).filter fun k=>decide (t.take k=t.drop (t.length-k)))++(if t.take i=t.drop (t.length-i) then [i] else []):=by
 rw[List.range_succ,List.filter_append]
 congr 1
 by_cases h:t.take i=t.drop (t.length-i) <;> simp[h]
abbrev iG:Stmt:=aW 18
section
variable{P:Program}{w:World}{K:PySem.W.Frag}{mg:Str→Option Value}{base:Heap}
theorem scBorders:FnScope ["text","length"] ["text"] (aC iG):=fsc_
theorem t8(M:Md K mg)(B:Bl mg)(F:FF K "borders" iG)(Fcheck_signs:Fn P w K mg base ak "check_signs" 2 ["text"] fK):Fn P w K mg base ak "borders" 3 ["text"] mL:=by
 refine ba M F scBorders (fun _ _ _ _ _ _=>bE fun _=>rfl) (fun vs H Q E h=>?_) (fun f cdv A outer s H vs Q E hr h=>?_)
 ·obtain⟨a,t,rfl,_⟩:=h;rfl
 ·obtain⟨a,t,rfl,ha,lt,hl,k⟩:=h
  refine⟨_,(af (bb (ai Fcheck_signs hr aj (aa (pv 0) ac)))
   (af (aw (i:=1) scBorders.nd rfl (.inr rfl) (aL B.len (pv 0)))
   (ah (aH (dD ["text","length"] rfl (dX (by rfl) B.range (aa (pv 1) ac)) (fun _=>by exact(dE (aD (we (by exact hr)) (bu bv (pv 0) bA (bt (pv 2))) (bu bv (pv 0) (bt (aq bp (pv 1) (pv 2))) bA) (aF _)))) (fun _=>by exact(pv 2))))))),?_⟩
  refine⟨_,rfl,a,t,rfl,ha,lt,?_⟩
  refine⟨_,rfl,a,_,rfl,SqL.of ha,?_⟩
  refine⟨_,rfl,_,rfl,by rw[List.length_map];lia,by rw[List.length_map];lia,fun D hD b=>?_⟩
  rw[List.length_map,Int.toNat_natCast]
  refine fE (lo:=0) (n:=t.length) (fun i ys H2=>ys=au ((List.range i).filter fun k=>decide (t.take k=t.drop (t.length-k)))∧Same H H2∧H2 D=some (.lst ys)) (bx hl) ?_ ?_ ?_ ?_
  ·exact⟨rfl,Same.upd hD,ae⟩
  ·rintro i ys H2 ⟨rfl,_⟩
   rw[bq];exact jU _
  ·rintro i ys H2 hi ⟨rfl,s2,hD2⟩
   refine⟨_,rfl,_,rfl,_,rfl,a,_,rfl,SqL.of (s2 _ _ ha),fun p1 hp1=>?_⟩
   have s3:=s2.trans (Same.upd (o:=.lst (bi (t.map sg) none (some (0+(i:Int))))) hp1)
   refine⟨_,rfl,_,rfl,_,rfl,_,_,rfl,rfl,_,rfl,a,_,rfl,SqL.of (s3 _ _ ha),fun p2 hp2=>?_⟩
   have n12:p1≠p2:=aR ae hp2
   refine⟨p1,p2,t.take i,t.drop (t.length-i),rfl,rfl,SqL.of ?_,SqL.of ?_,(lt.take _).cp,(lt.drop _).cp,_,rfl,?_⟩
   ·rw[ao n12,ae,cq,cy,gi _ _ (by lia),show(0+(i:Int)).toNat=i by lia]
   ·rw[ae,cq,cy,fC _ _ (by lia),show((t.length:Int)-(0+(i:Int))).toNat=t.length-i by lia]
   ·have s4:=s3.trans (Same.upd (o:=.lst (bi (t.map sg) (some ((t.length:Int)-(0+(i:Int)))) none)) hp2)
    have hD4:=(Same.upd (H:=L2.upd H2 p1 _) (o:=.lst (bi (t.map sg) (some ((t.length:Int)-(0+(i:Int)))) none)) hp2) _ _ ((Same.upd (o:=.lst (bi (t.map sg) none (some (0+(i:Int))))) hp1) _ _ hD2)
    refine dq (fun hc=>?_) (fun hc=>?_)
    ·have hc':t.take i=t.drop (t.length-i):=by simpa using hc
     refine⟨_,rfl,hD4,?_,?_,ae⟩
     ·rw[la,if_pos hc',mr]
     ·intro b o e
      rw[ao (aR e hD)]
      exact s4 b o e
    ·have hc':¬t.take i=t.drop (t.length-i):=by simpa using hc
     refine⟨?_,s4,hD4⟩
     rw[la,if_neg hc',List.append_nil]
  ·rintro ys H2 ⟨rfl,s2,hD2⟩
   exact k D H2 hD hD2 s2
end
abbrev jP:Stmt:=aW 19
def i4(t:List Nat):List Nat:=(cg t).reverse.map (t.length - ·)
def iL:Sp:=fun vs H Q _=>∃(a:Addr) (t:List Nat),vs=[.ref a]∧H a=some (.lst (t.map sg))∧Low t∧t.length≤1000∧
 ∀(r:Addr) (H':Hp),H r=none→H' r=some (.lst (au (i4 t)))→Same H H'→Q (.ref r) H'
theorem oZ{α:Type}(xs:List α)(i:Nat)(x:α)(h:xs[xs.length-1-i]?=some x)(hi:i<xs.length):xs.reverse.take (i+1)=xs.reverse.take i++[x]:=by
 rw[List.take_add_one,List.getElem?_reverse hi,h]
 rfl
section
variable{P:Program}{w:World}{K:PySem.W.Frag}{mg:Str→Option Value}{base:Heap}
theorem re:FnScope ["text"] ["text"] (aC jP):=fsc_
theorem oN(M:Md K mg)(B:Bl mg)(F:FF K "periods" jP)(Fborders:Fn P w K mg base ak "borders" 3 ["text"] mL):Fn P w K mg base ak "periods" 4 ["text"] iL:=by
 refine ba M F re (fun _ _ _ _ _ _=>bE fun _=>rfl) (fun vs H Q E h=>?_) (fun f cdv A outer s H vs Q E hr h=>?_)
 ·obtain⟨a,t,rfl,_⟩:=h;rfl
 ·obtain⟨a,t,rfl,ha,lt,hl,k⟩:=h
  refine⟨_,(ah (aH (dD ["text"] rfl (pk B.rev (ai Fborders hr aj (aa (pv 0) ac))) (fun _=>by exact fw) (fun _=>by exact(aq bp (aL B.len (pv 0)) (pv 1)))))),?_⟩
  refine⟨_,rfl,a,t,rfl,ha,lt,hl,fun r H1 hr0 hr1 s1=>?_⟩
  refine⟨r,_,rfl,SqL.of hr1,fun D hD b=>?_⟩
  have el:=sQ t
  refine sK (K:=K) (a:=r) (xs:=au (cg t)) (fun i ys H2=>ys=au (((cg t).reverse.take i).map (t.length - ·))∧Same H1 H2∧H2 D=some (.lst ys)) (by rw[bq];exact bx (by lia)) ?_ ?_ ?_ ?_ ?_
  ·exact⟨by simp[au],Same.upd hD,ae⟩
  ·rintro i ys H2 ⟨rfl,_⟩
   rw[bq,List.length_map,List.length_take];lia
  ·rintro i ys H2 _ ⟨rfl,s2,_⟩;exact SqL.of (s2 _ _ hr1)
  ·rintro i x ys H2 hx hi ⟨rfl,s2,hD2⟩
   refine fz ?_
   rw[bq] at hx hi
   obtain⟨k,hk,rfl⟩:∃k,(cg t)[(cg t).length-1-i]?=some k∧x=V.int (k:Int):=by
    unfold au at hx
    rw[List.map_map,List.getElem?_map] at hx
    cases q:(cg t)[(cg t).length-1-i]? with
    | none=>rw[q] at hx;cases hx
    | some k=>
      rw[q] at hx
      exact⟨k,rfl,(Option.some.inj hx).symm⟩
   have hk':=pU (List.mem_of_getElem? hk)
   refine⟨_,rfl,a,_,rfl,SqL.of (s2 _ _ (s1 _ _ ha)),_,rfl,_,_,rfl,rfl,hD2,?_,?_,ae⟩
   ·rw[oZ _ _ _ hk hi,List.map_append,List.length_map]
    show au _++[V.int ((t.length:Int)-(k:Int))]=au (_++[t.length-k])
    rw[mr,Int.zero_add,Int.ofNat_sub (Nat.le_of_lt hk')]
   ·intro b o e
    rw[ao (aR e hD)]
    exact s2 b o e
  ·rintro ys H2 ⟨rfl,s2,hD2⟩
   refine k D H2 (s1.free hD) ?_ (s1.trans s2)
   rw[hD2,bq,List.take_of_length_le (by simp)]
   rfl
end
abbrev gH:Stmt:=aW 14
abbrev gZ:Stmt:=aW 22
def jX:Sp:=fun vs H Q _=>∃(a:Addr) (t:List Nat),vs=[.ref a]∧H a=some (.lst (t.map sg))∧Low t∧1≤t.length∧Q .non H
theorem rQ(n:Nat):(List.range n).reverse.map (n - ·)=(List.range n).map (·+1):=by
 apply List.ext_getElem
 ·simp
 ·intro i h1 h2
  simp at h1 h2 ⊢
  lia
theorem vk(t:List Nat):i4 t=aB t:=by
 unfold i4 cg aB
 rw[←List.filter_reverse,←rQ,List.filter_map]
 congr 1
 apply List.filter_congr
 intro k hk
 have hk':k<t.length:=by simpa using hk
 show decide _=decide _
 have e:t.length-(t.length-k)=k:=by lia
 rw[e]
 exact decide_eq_decide.mpr ⟨fun h=>h.symm,fun h=>h.symm⟩
section
variable{P:Program}{w:World}{K:PySem.W.Frag}{mg:Str→Option Value}{base:Heap}
theorem kx:FnScope ["word"] ["word"] (aC gH):=fsc_
theorem rC(M:Md K mg)(B:Bl mg)(F:FF K "check_word" gH)(Fcheck_signs:Fn P w K mg base ak "check_signs" 2 ["text"] fK):Fn P w K mg base ak "check_word" 3 ["word"] jX:=by
 refine ba M F kx (fun _ _ _ _ _ _=>bE fun _=>rfl) (fun vs H Q E h=>?_) (fun f cdv A outer s H vs Q E hr h=>?_)
 ·obtain⟨a,t,rfl,_⟩:=h;rfl
 ·obtain⟨a,t,rfl,ha,lt,t1,k⟩:=h
  refine⟨_,(af (aM (aD bo (aL B.len (pv 0)) ad (aF _)) (ah gy) aP)
   (ah (bb (ai Fcheck_signs hr aj (aa (pv 0) ac))))),?_⟩
  refine⟨_,rfl,a,_,rfl,SqL.of ha,rfl,_,rfl,?_⟩
  rw[decide_eq_false (fun q=>by have:=V.int.inj q;rw[List.length_map] at this;lia)]
  exact ar ⟨_,rfl,a,t,rfl,ha,lt,k⟩
theorem mP:FnScope ["word"] ["word"] (aC gZ):=fsc_
theorem sM(M:Md K mg)(B:Bl mg)(F:FF K "shifts" gZ)(Fcheck_word:Fn P w K mg base ak "check_word" 3 ["word"] jX)(Fperiods:Fn P w K mg base ak "periods" 4 ["text"] iL):Fn P w K mg base ak "shifts" 5 ["word"] dN:=by
 refine ba M F mP (fun _ _ _ _ _ _=>bE fun _=>rfl) (fun vs H Q E h=>?_) (fun f cdv A outer s H vs Q E hr h=>?_)
 ·obtain⟨a,t,rfl,_⟩:=h;rfl
 ·obtain⟨a,t,rfl,ha,lt,t1,tl,k⟩:=h
  refine⟨_,(af (bb (ai Fcheck_word hr aj (aa (pv 0) ac)))
   (ah (aH (ai Fperiods hr aj (aa (pv 0) ac))))),?_⟩
  refine⟨_,rfl,a,t,rfl,ha,lt,t1,?_⟩
  refine⟨_,rfl,a,t,rfl,ha,lt,by lia,fun r H1 hr0 hr1 s1=>k r H1 hr0 ?_ s1⟩
  rw[hr1,vk]
end
def aI(t u:List Nat)(p:Nat):Nat→Nat
 | 0=>0
 | k+1=>aI t u p k+(if t[p+k]?=u[k]? then 0 else 1)
theorem m8(t u:List Nat)(p:Nat):∀k,aI t u p k≤k
 | 0=>Nat.le_refl _
 | k+1=>by
   have:=m8 t u p k
   simp only[aI]
   split <;> lia
theorem nT{t u:List Nat}{p s:Nat}(h:∀q,q<u.length-s→u[s+q]?=u[q]?):∀j,j≤u.length-s→aI t u p (s+j)=aI t u p s+aI t u (p+s) j
 | 0,_=>by simp[aI]
 | j+1,hj=>by
   have ih:=nT (t:=t) (p:=p) h j (by lia)
   rw[show s+(j+1)=(s+j)+1 by lia]
   simp only[aI]
   rw[ih,h j (by lia),show p+(s+j)=p+s+j by lia]
   lia
inductive Ch (S:List Nat):Nat→Nat→List Nat→Prop
 | one (p:Nat):Ch S p p [p]
 | cons {p s q:Nat} {l:List Nat}:s∈S→Ch S (p+s) q l→Ch S p q (p::l)
theorem Ch.head{S:List Nat}{p q:Nat}{l:List Nat}(h:Ch S p q l):∃r,l=p::r:=by
 cases h with
 | one=>exact⟨[],rfl⟩
 | cons _ _=>exact⟨_,rfl⟩
theorem Ch.le{S:List Nat}{p q:Nat}{l:List Nat}(h:Ch S p q l):p≤q:=by
 induction h with
 | one=>exact Nat.le_refl _
 | cons _ _ ih=>lia
theorem Ch.snoc{S:List Nat}{p q s:Nat}{l:List Nat}(h:Ch S p q l)(hs:s∈S):Ch S p (q+s) (l++[q+s]):=by
 induction h with
 | one p=>exact Ch.cons hs (Ch.one _)
 | cons h1 h2 ih=>exact Ch.cons h1 ih
theorem Ch.unsnoc{S:List Nat}{p q:Nat}{l:List Nat}(h:Ch S p q l):(p=q∧l=[p])∨∃s q' l',s∈S∧Ch S p q' l'∧q=q'+s∧l=l'++[q]:=by
 induction h with
 | one p=>exact .inl ⟨rfl,rfl⟩
 | @cons p s q l h1 h2 ih=>
   refine .inr ?_
   rcases ih with⟨e1,e2⟩ | ⟨s',q',l',hs,hc,e1,e2⟩
   ·subst e1 e2
    exact⟨s,p,[p],h1,Ch.one _,rfl,rfl⟩
   ·subst e1 e2
    exact⟨s',q',p::l',hs,Ch.cons h1 hc,rfl,rfl⟩
theorem Ch.last{S:List Nat}{p q:Nat}{l:List Nat}(h:Ch S p q l):∃r,l=r++[q]:=by
 rcases h.unsnoc with⟨e1,e2⟩ | ⟨s,q',l',_,_,_,e⟩
 ·subst e1 e2;exact⟨[],rfl⟩
 ·exact⟨l',e⟩
def ay(t u:List Nat):List Nat→Nat
 | []=>0
 | [p]=>aI t u p u.length
 | p::q::l=>aI t u p (q-p)+ay t u (q::l)
theorem dS{S t u:List Nat}{p s q:Nat}{l:List Nat}(h:Ch S (p+s) q l):ay t u (p::l)=aI t u p s+ay t u l:=by
 obtain⟨r,e⟩:=h.head
 subst e
 simp only[ay]
 rw[show p+s-p=s by lia]
def dP(u S:List Nat):Prop:=∀s∈S,1≤s∧s≤u.length∧∀q,q<u.length-s→u[s+q]?=u[q]?
theorem uo{S t u:List Nat}(hS:dP u S){p q s:Nat}{l:List Nat}(h:Ch S p q l)(hs:s∈S):ay t u (l++[q+s])+aI t u (q+s) (u.length-s)=ay t u l+aI t u (q+s) u.length:=by
 induction h with
 | one p=>
   obtain⟨_,h2,h3⟩:=hS s hs
   have:=nT (t:=t) (p:=p) h3 (u.length-s) (Nat.le_refl _)
   rw[show s+(u.length-s)=u.length by lia] at this
   show ay t u [p,p+s]+_=_
   simp only[ay]
   rw[show p+s-p=s by lia,this]
   lia
 | @cons p s' q l h1 h2 ih=>
   rw[List.cons_append,dS (h2.snoc hs),dS h2]
   lia
abbrev il(l:List Nat):List Int:=l.map fun(x:Nat)=>(x:Int)
def ce(c k:Nat)(l:List Nat):K3:=((c:Int),(k:Int),il l)
theorem pr(a b c d:Int)(x y:List Int):be (a,b,x) (c,d,y)=true↔a<c∨(a=c∧(b<d∨(b=d∧aK x y=true))):=by
 unfold be
 simp only[aK]
 by_cases h1:a=c
 ·rw[if_pos h1]
  by_cases h2:b=d
  ·rw[if_pos h2]
   constructor
   ·intro h;exact .inr ⟨h1,.inr ⟨h2,h⟩⟩
   ·rintro(h | ⟨_,h | ⟨_,h⟩⟩)
    ·lia
    ·lia
    ·exact h
  ·rw[if_neg h2]
   constructor
   ·intro h;exact .inr ⟨h1,.inl (of_decide_eq_true h)⟩
   ·rintro(h | ⟨_,h | ⟨h,_⟩⟩)
    ·lia
    ·exact decide_eq_true h
    ·exact absurd h h2
 ·rw[if_neg h1]
  constructor
  ·intro h;exact .inl (of_decide_eq_true h)
  ·rintro(h | ⟨h,_⟩)
   ·exact decide_eq_true h
   ·exact absurd h h1
theorem kyN_lt{c k c' k':Nat}{l l':List Nat}:be (ce c k l) (ce c' k' l')=true↔c<c'∨(c=c'∧(k<k'∨(k=k'∧aK (il l) (il l')=true))):=by
 unfold ce
 rw[pr]
 constructor
 ·rintro(h | ⟨h,h' | ⟨h',h''⟩⟩)
  ·exact .inl (by lia)
  ·exact .inr ⟨by lia,.inl (by lia)⟩
  ·exact .inr ⟨by lia,.inr ⟨by lia,h''⟩⟩
 ·rintro(h | ⟨h,h' | ⟨h',h''⟩⟩)
  ·exact .inl (by lia)
  ·exact .inr ⟨by lia,.inl (by lia)⟩
  ·exact .inr ⟨by lia,.inr ⟨by lia,h''⟩⟩
theorem kU:∀(xs ys:List Int),aK xs ys=true∨xs=ys∨aK ys xs=true
 | [],[]=>.inr (.inl rfl)
 | [],_::_=>.inl rfl
 | _::_,[]=>.inr (.inr rfl)
 | x::xs,y::ys=>by
   simp only[aK]
   by_cases e:x=y
   ·subst e
    rw[if_pos rfl,if_pos rfl]
    rcases kU xs ys with h | h | h
    ·exact .inl h
    ·exact .inr (.inl (by rw[h]))
    ·exact .inr (.inr h)
   ·rw[if_neg e,if_neg (Ne.symm e)]
    rcases Int.lt_or_gt_of_ne e with h | h
    ·exact .inl (decide_eq_true h)
    ·exact .inr (.inr (decide_eq_true h))
theorem oP(x y:K3):be x y=true∨x=y∨be y x=true:=by
 unfold be
 rcases kU (x.1::x.2.1::x.2.2) (y.1::y.2.1::y.2.2) with h | h | h
 ·exact .inl h
 ·refine .inr (.inl ?_)
  injection h with h1 h
  injection h with h2 h3
  obtain⟨a,b,c⟩:=x
  obtain⟨a',b',c'⟩:=y
  simp only at h1 h2 h3
  subst h1 h2 h3
  rfl
 ·exact .inr (.inr h)
theorem wj{x y:K3}(h1:be x y=false)(h2:be y x=false):x=y:=by
 rcases oP x y with q | q | q
 ·rw[q] at h1;cases h1
 ·exact q
 ·rw[q] at h2;cases h2
theorem tJ{a b:List Nat}(h:il a=il b):a=b:=by
 induction a generalizing b with
 | nil=>cases b with
   | nil=>rfl
   | cons y b=>cases h
 | cons x a ih=>cases b with
   | nil=>cases h
   | cons y b=>
     injection h with h1 h2
     have h1:(x:Int)=(y:Int):=h1
     rw[ih h2,show x=y by lia]
def ky(t u:List Nat)(w:Bool)(l:List Nat):K3:=ce (ay t u l) l.length (if w=true then l else [0])
def Least(S t u:List Nat)(w:Bool)(p q:Nat)(l:List Nat):Prop:=Ch S p q l∧∀l',Ch S p q l'→be (ky t u w l') (ky t u w l)=false
theorem Least.uniq{S t u:List Nat}{p q:Nat}{l l':List Nat}(h:Least S t u true p q l)(h':Least S t u true p q l'):l=l':=by
 have e:=wj (h.2 l' h'.1) (h'.2 l h.1)
 unfold ky ce at e
 have e2:il (if(true:Bool)=true then l' else [0])=il (if(true:Bool)=true then l else [0]):=congrArg (fun z=>z.2.2) e
 rw[if_pos rfl,if_pos rfl] at e2
 exact(tJ e2).symm
theorem mT{t u:List Nat}{w:Bool}{l l':List Nat}(h:be (ky t u w l') (ky t u w l)=false):ay t u l≤ay t u l':=by
 refine Nat.le_of_not_lt fun z=>?_
 have:=kyN_lt.mpr (.inl z:ay t u l'<ay t u l∨(ay t u l'=ay t u l∧(l'.length<l.length∨(l'.length=l.length∧aK (il (if w=true then l' else [0])) (il (if w=true then l else [0]))=true))))
 unfold ky at h
 rw[this] at h
 cases h
theorem oI{S t u:List Nat}{w:Bool}(p:Nat)(hS:dP u S):Least S t u w p p [p]:=by
 refine⟨Ch.one _,fun l' h=>?_⟩
 cases h with
 | one=>exact nB _
 | cons h1 h2=>have:=h2.le;have:=(hS _ h1).1;lia
theorem p6{S t u:List Nat}{p q s0:Nat}{l0:List Nat}(hpq:p<q)(h0:s0∈S)(L0:Least S t u true (p+s0) q l0)(all:∀s∈S,(∃l,Ch S (p+s) q l)→∃l,Least S t u true (p+s) q l∧be (ce (aI t u p s+ay t u l) (l.length+1) [p+s]) (ce (aI t u p s0+ay t u l0) (l0.length+1) [p+s0])=false):Least S t u true p q (p::l0):=by
 refine⟨Ch.cons h0 L0.1,fun l' h=>?_⟩
 refine Bool.eq_false_iff.mpr fun z=>?_
 cases h with
 | one=>lia
 | @cons _ s _ l'' h1 h2=>
   unfold ky at z
   rw[dS h2,dS L0.1,if_pos rfl,if_pos rfl] at z
   have z':=kyN_lt.mp z
   simp only[List.length_cons] at z'
   have hcons:∀a b:List Nat,aK (il (p::a)) (il (p::b))=aK (il a) (il b):=fun a b=>by
    show aK ((p:Int)::il a) ((p:Int)::il b)=_
    simp only[aK];rw[if_pos trivial]
   rw[hcons] at z'
   by_cases es:s=s0
   ·subst es
    have:=L0.2 l'' h2
    have yes:be (ky t u true l'') (ky t u true l0)=true:=by
     unfold ky
     rw[kyN_lt,if_pos rfl,if_pos rfl]
     rcases z' with z' | ⟨z',y | ⟨y,y'⟩⟩
     ·exact .inl (by lia)
     ·exact .inr ⟨by lia,.inl (by lia)⟩
     ·exact .inr ⟨by lia,.inr ⟨by lia,y'⟩⟩
    rw[yes] at this
    cases this
   ·obtain⟨l1,L1,c1⟩:=all s h1 ⟨l'',h2⟩
    have d1:=L1.2 l'' h2
    have n1:¬_:=fun y=>by rw[kyN_lt.mpr y] at c1;cases c1
    have n2:¬(ay t u l''<ay t u l1∨(ay t u l''=ay t u l1∧(l''.length<l1.length∨(l''.length=l1.length∧aK (il l'') (il l1)=true)))):=fun y=>by
     have:=kyN_lt.mpr y
     unfold ky at d1
     rw[if_pos rfl,if_pos rfl,this] at d1
     cases d1
    have hd:aK (il l'') (il l0)=true→p+s<p+s0:=fun y=>by
     obtain⟨r,e⟩:=h2.head
     obtain⟨r0,e0⟩:=L0.1.head
     subst e e0
     have y:aK (((p+s:Nat):Int)::il r) (((p+s0:Nat):Int)::il r0)=true:=y
     simp only[aK] at y
     rw[if_neg (by lia)] at y
     have:=of_decide_eq_true y
     lia
    have hd2:p+s<p+s0→aK (il [p+s]) (il [p+s0])=true:=fun y=>by
     show aK [((p+s:Nat):Int)] [((p+s0:Nat):Int)]=true
     simp only[aK]
     rw[if_neg (by lia)]
     exact decide_eq_true (by lia)
    rcases z' with z' | ⟨z',y | ⟨y,y'⟩⟩
    ·exact n1 (by
     by_cases q:aI t u p s+ay t u l1<aI t u p s0+ay t u l0
     ·exact .inl q
     ·exact absurd (show ay t u l''<ay t u l1 by lia) fun w=>n2 (.inl w))
    ·by_cases q:ay t u l''<ay t u l1
     ·exact n2 (.inl q)
     ·by_cases q2:aI t u p s+ay t u l1<aI t u p s0+ay t u l0
      ·exact n1 (.inl q2)
      ·have e1:ay t u l''=ay t u l1:=by lia
       by_cases q3:l''.length<l1.length
       ·exact n2 (.inr ⟨e1,.inl q3⟩)
       ·exact n1 (.inr ⟨by lia,.inl (by lia)⟩)
    ·by_cases q:ay t u l''<ay t u l1
     ·exact n2 (.inl q)
     ·by_cases q2:aI t u p s+ay t u l1<aI t u p s0+ay t u l0
      ·exact n1 (.inl q2)
      ·have e1:ay t u l''=ay t u l1:=by lia
       by_cases q3:l''.length<l1.length
       ·exact n2 (.inr ⟨e1,.inl q3⟩)
       ·by_cases q4:l1.length<l0.length
        ·exact n1 (.inr ⟨by lia,.inl (by lia)⟩)
        ·exact n1 (.inr ⟨by lia,.inr ⟨by lia,hd2 (hd y')⟩⟩)
abbrev jN:Stmt:=aW 26
def bH(t u:List Nat)(p n:Nat):List Nat:=(List.range n).map (aI t u p)
theorem iD(t u:List Nat)(p n:Nat):bH t u p (n+1)=bH t u p n++[aI t u p n]:=by unfold bH;rw[List.range_succ,List.map_append];rfl
theorem vJ(t u:List Nat)(p n:Nat):(bH t u p n).length=n:=by unfold bH;simp
theorem uj{t u:List Nat}{p n k:Nat}(h:k<n):(au (bH t u p n))[k]?=some (.int (aI t u p k:Nat)):=by unfold bH au;simp[h]
def nJ:Sp:=fun vs H Q _=>∃(a b:Addr) (t u:List Nat) (p:Nat),vs=[.ref a,.ref b,.int (p:Int)]∧H a=some (.lst (t.map sg))∧H b=some (.lst (u.map sg))∧t.length≤900∧p+u.length≤t.length∧
 ∀(r:Addr) (H':Hp),H r=none→H' r=some (.lst (au (bH t u p (u.length+1))))→Same H H'→Q (.ref r) H'
theorem hZ{t:List Nat}{i:Nat}{x:V}(h:(t.map sg)[i]?=some x):∃c,t[i]?=some c∧x=sg c:=by
 rw[List.getElem?_map] at h
 cases e:t[i]? with
 | none=>rw[e] at h;cases h
 | some c=>rw[e] at h;exact⟨c,rfl,(Option.some.inj h).symm⟩
theorem nP(c d:Nat):decide (sg c=sg d)=decide (c=d):=decide_eq_decide.mpr sg_inj
section
variable{P:Program}{w:World}{K:PySem.W.Frag}{mg:Str→Option Value}{base:Heap}
theorem scWaf:FnScope ["text","word","place","numbers","sign","due"] ["text","word","place"] (aC jN):=fsc_
theorem qW(M:Md K mg)(B:Bl mg)(F:FF K "wrong_among_first" jN):Fn P w K mg base ak "wrong_among_first" 1 ["text","word","place"] nJ:=by
 refine ba M F scWaf (fun _ _ _ _ _ _=>df fun _ _ _=>rfl) (fun vs H Q E h=>?_) (fun f cdv A outer s H vs Q E hr h=>?_)
 ·obtain⟨a,b,t,u,p,rfl,_⟩:=h;rfl
 ·obtain⟨a,b,t,u,p,rfl,ha,hb,tl,pu,k⟩:=h
  refine⟨_,(af (aw (i:=3) scWaf.nd rfl (.inl rfl) (aN (aa ad ac)))
   (af (bO PassesOwn.never rfl (fG B.zip (bu bv (pv 0) (bt (pv 2)) bA) (pv 1)) (cH rfl (bn (aV (i:=4) scWaf.nd rfl (.inl rfl)) (bn (aV (i:=5) scWaf.nd rfl (.inl rfl)) cA)))
   (ah (bb (dc PySem.F.plainAttrs_list PySem.F.slot_list_append PySem.F.type_list_append d3 (pv 3) (aa (aq bj (aJ aO (pv 3) (dz dn ad) (fun _ _=>rfl)) (oY (aD bo (pv 4) (pv 5) (aF _)) ad ad)) ac)))))
   (ah (aH (pv 3))))),?_⟩
  refine⟨by show 1≤sizeLine;decide,fun r hr0=>?_⟩
  have s0:=Same.upd (o:=.lst [V.int 0]) hr0
  have hr1:=ae (H:=H) (a:=r) (o:=.lst [V.int 0])
  generalize L2.upd H r (.lst [V.int 0])=H0 at s0 hr1 ⊢
  refine⟨_,rfl,_,rfl,_,rfl,a,_,rfl,SqL.of (s0 _ _ ha),fun q hq=>?_⟩
  have e1:bi (t.map sg) (some (p:Int)) none=(t.drop p).map sg:=by rw[ix (by lia)];rfl
  rw[e1]
  have s1:=Same.upd (o:=.lst ((t.drop p).map sg)) hq
  have hq1:=ae (H:=H0) (a:=q) (o:=.lst ((t.drop p).map sg))
  have hr2:=s1 _ _ hr1
  have sH:=s0.trans s1
  generalize L2.upd H0 q (.lst ((t.drop p).map sg))=H1 at s1 hq1 hr2 sH ⊢
  refine⟨_,rfl,q,b,_,_,rfl,rfl,hq1,sH _ _ hb,oD (a:=q) (b:=b) (xs:=(t.drop p).map sg) (ys:=u.map sg) (fun i σ H2=>Same H H2∧H2 q=some (.lst ((t.drop p).map sg))∧H2 r=some (.lst (au (bH t u p (i+1))))∧∃v4 v5,σ=[some (.ref a),some (.ref b),some (.int (p:Int)),some (.ref r),v4,v5]) ?_ ?_ ?_ ?_⟩
  ·exact⟨sH,hq1,hr2,_,_,rfl⟩
  ·rintro i σ H2 _ ⟨s2,h2,_⟩
   exact⟨h2,s2 _ _ hb⟩
  ·rintro i x y pp σ H2 hx hy hpp ⟨s2,hq2,hr2,v4,v5,rfl⟩
   obtain⟨c,hc,rfl⟩:=hZ hx
   obtain⟨d,hd,rfl⟩:=hZ hy
   rw[List.getElem?_drop] at hc
   have s3:=Same.upd (o:=.tup [sg c,sg d]) hpp
   have hpp3:=ae (H:=H2) (a:=pp) (o:=.tup [sg c,sg d])
   have hq3:=s3 _ _ hq2
   have hr3:=s3 _ _ hr2
   have s23:=s2.trans s3
   generalize L2.upd H2 pp (.tup [sg c,sg d])=H3 at s3 hpp3 hq3 hr3 s23 ⊢
   have hil:i<u.length:=(List.getElem?_eq_some_iff.mp hd).1
   refine⟨pp,_,rfl,SqT.of hpp3,rfl,_,_,rfl,_,_,rfl,rfl,?_⟩
   have hla:aX (au (bH t u p (i+1))) (-1)=some (.int (aI t u p i:Nat)):=by rw[iD,cZ,ju]
   have fin:∀e:Int,e=((if t[p+i]?=u[i]? then 0 else 1:Nat):Int)→Same H (L2.upd H3 r (.lst (au (bH t u p (i+1))++[V.int ((aI t u p i:Nat)+e)])))∧(L2.upd H3 r (.lst (au (bH t u p (i+1))++[V.int ((aI t u p i:Nat)+e)]))) q=some (.lst ((t.drop p).map sg))∧(L2.upd H3 r (.lst (au (bH t u p (i+1))++[V.int ((aI t u p i:Nat)+e)]))) r=some (.lst (au (bH t u p (i+1+1)))):=fun e he=>by
    refine⟨fun z o h=>by rw[ao (aR h hr0)];exact s23 _ _ h,?_,?_⟩
    ·rw[ao (fun z=>by subst z;rw[hr1] at hq;cases hq)];exact hq3
    ·rw[ae,iD t u p (i+1),cZ,he]
     simp only[aI,Int.natCast_add]
   refine⟨_,rfl,.inl ⟨rfl,_,SqL.of hr3⟩,_,rfl,_,rfl,r,_,_,_,rfl,rfl,SqL.of hr3,hla,?_⟩
   refine⟨_,rfl,_,rfl,rfl,_,rfl,?_⟩
   have hz:(au (bH t u p (i+1))).length<sizeLine:=by rw[bq,vJ];exact bx (by lia)
   rw[nP]
   refine dq (fun hcd=>?_) (fun hcd=>?_)
   ·have hcd':c=d:=of_decide_eq_true hcd
    obtain⟨f1,f2,f3⟩:=fin 0 (by rw[hc,hd,hcd',if_pos rfl];rfl)
    exact⟨_,_,rfl,rfl,r,_,_,rfl,rfl,hr3,hz,f1,f2,f3,_,_,rfl⟩
   ·have hcd':¬c=d:=lG hcd
    obtain⟨f1,f2,f3⟩:=fin 1 (by rw[hc,hd,if_neg (fun z=>hcd' (Option.some.inj z))];rfl)
    exact⟨_,_,rfl,rfl,r,_,_,rfl,rfl,hr3,hz,f1,f2,f3,_,_,rfl⟩
  ·rintro σ H2 ⟨s2,hq2,hr2,v4,v5,rfl⟩
   have em:min ((t.drop p).map sg).length (u.map sg).length=u.length:=by
    rw[List.length_map,List.length_map,List.length_drop];lia
   rw[em] at hr2
   exact⟨_,rfl,k r H2 hr0 hr2 s2⟩
end
theorem cY(u:List Nat):dP u (aB u):=by
 intro s hs
 unfold aB at hs
 rw[List.mem_filter,List.mem_map] at hs
 obtain⟨⟨q,hq,rfl⟩,h2⟩:=hs
 rw[List.mem_range] at hq
 exact⟨by lia,by lia,(i8 (by lia)).mp (of_decide_eq_true h2)⟩
def gP:List Nat→Nat
 | []=>0
 | [p]=>p
 | _::q::_=>q
def BW(H0 H:Hp)(w:Addr)(t u:List Nat)(L lo:Nat):Prop:=∃kvs:List (ap×V),H w=some (.dK kvs)∧kvs.length+lo≤L+1∧
 (∀p,lo≤p→p≤L→(∃l c,Least (aB u) t u true p L l∧aY kvs (.inl (p:Int))=some (.ref c)∧H0 c=none∧H c=some (.tup [.int (ay t u l:Nat),.int (l.length:Nat),.int (gP l:Nat)]))∨((∀l,¬Ch (aB u) p L l)∧aY kvs (.inl (p:Int))=none))∧
 ∀k:Int,(k<lo∨(L:Int)<k)→aY kvs (.inl k)=none
theorem BW.look{H0 H:Hp}{w:Addr}{t u:List Nat}{L lo:Nat}(h:BW H0 H w t u L lo){p:Nat}(hp:lo≤p):(∃l c,Least (aB u) t u true p L l∧DGet H w (.int (p:Int)) (some (.ref c))∧H0 c=none∧H c=some (.tup [.int (ay t u l:Nat),.int (l.length:Nat),.int (gP l:Nat)]))∨((∀l,¬Ch (aB u) p L l)∧DGet H w (.int (p:Int)) none):=by
 obtain⟨kvs,h1,_,h2,h3⟩:=h
 have D:=DGet.k (k:=.inl (p:Int)) h1
 by_cases hL:p≤L
 ·rcases h2 p hp hL with⟨l,c,e1,e2,e3,e4⟩ | ⟨e1,e2⟩
  ·rw[e2] at D;exact .inl ⟨l,c,e1,D,e3,e4⟩
  ·rw[e2] at D;exact .inr ⟨e1,D⟩
 ·rw[h3 p (.inr (by lia))] at D
  exact .inr ⟨fun l hl=>hL hl.le,D⟩
theorem BW.same{H0 H H':Hp}{w:Addr}{t u:List Nat}{L lo:Nat}(h:BW H0 H w t u L lo)(s:Same H H'):BW H0 H' w t u L lo:=by
 obtain⟨kvs,h1,h0,h2,h3⟩:=h
 refine⟨kvs,s _ _ h1,h0,fun p a b=>?_,h3⟩
 rcases h2 p a b with⟨l,c,e1,e2,e3,e4⟩ | e
 ·exact .inl ⟨l,c,e1,e2,e3,s _ _ e4⟩
 ·exact .inr e
theorem BW.skip{H0 H:Hp}{w:Addr}{t u:List Nat}{L p:Nat}(h:BW H0 H w t u L (p+1))(hn:∀l,¬Ch (aB u) p L l):BW H0 H w t u L p:=by
 obtain⟨kvs,h1,h0,h2,h3⟩:=h
 refine⟨kvs,h1,by lia,fun q a b=>?_,fun k hk=>h3 k (by lia)⟩
 by_cases e:q=p
 ·subst e;exact .inr ⟨hn,h3 q (.inl (by lia))⟩
 ·exact h2 q (by lia) b
theorem BW.put{H0 H:Hp}{w c:Addr}{t u:List Nat}{L p:Nat}{l:List Nat}(h:BW H0 H w t u L (p+1))(hpL:p≤L)(hL:L≤1000)(hl:Least (aB u) t u true p L l)(c0:H0 c=none)(hc:H c=some (.tup [.int (ay t u l:Nat),.int (l.length:Nat),.int (gP l:Nat)])):∃H',DPut H w (.int (p:Int)) (.ref c) H'∧BW H0 H' w t u L p∧∀b o,H b=some o→b≠w→H' b=some o:=by
 obtain⟨kvs,h1,h0,h2,h3⟩:=h
 refine⟨_,DPut.k (k:=.inl (p:Int)) h1 (mQ (by lia)),⟨_,ae,?_,fun q a b=>?_,fun k hk=>?_⟩,fun b o e ne=>by rw[ao ne];exact e⟩
 ·have:=ij kvs (.inl (p:Int)) (.ref c)
  lia
 ·rw[lD]
  by_cases e:q=p
  ·subst e
   rw[if_pos rfl]
   refine .inl ⟨l,c,hl,rfl,c0,?_⟩
   rw[ao (bK hc h1 (fun z=>nomatch z))]
   exact hc
  ·rw[if_neg (fun z=>e (by have:=Sum.inl.inj z;lia))]
   rcases h2 q (by lia) b with⟨l',c',e1,e2,e3,e4⟩ | e'
   ·refine .inl ⟨l',c',e1,e2,e3,?_⟩
    rw[ao (bK e4 h1 (fun z=>nomatch z))]
    exact e4
   ·exact .inr e'
 ·rw[lD,if_neg (fun z=>by have:=Sum.inl.inj z;lia)]
  exact h3 k (by lia)
theorem lX{k:Nat}{v:V}{j:Int}{σ:St}{H:Hp}{R:St→Hp→Prop}(e:v=.int j)(h:cD k (.int j) σ H R):cD k v σ H R:=by rw[e];exact h
abbrev jF:Stmt:=aW 27
def fm:Sp:=fun vs H Q _=>∃(a b:Addr) (t u:List Nat),vs=[.ref a,.ref b]∧H a=some (.lst (t.map sg))∧H b=some (.lst (u.map sg))∧Low u∧1≤u.length∧u.length≤t.length∧t.length≤900∧
 ∀(r:Addr) (H':Hp),H r=none→BW H H' r t u (t.length-u.length) 0→Same H H'→Q (.ref r) H'
theorem fT{ks:List Nat}{i:Nat}{x:V}(h:(au ks)[i]?=some x):∃q,ks[i]?=some q∧x=.int (q:Int):=by
 unfold au at h
 rw[List.map_map,List.getElem?_map] at h
 cases e:ks[i]? with
 | none=>rw[e] at h;cases h
 | some q=>rw[e] at h;exact⟨q,rfl,(Option.some.inj h).symm⟩
theorem Trips.same{isL:Bool}{H H':Hp}{cs:List Addr}{ks:List K3}(T:Trips isL H cs ks)(s:∀b xs,H b=some (.tup xs)→H' b=some (.tup xs))(s2:isL=true→∀b xs,H b=some (.lst xs)→(∃c k,c∈cs∧H c=some (.tup [.int k.1,.int k.2.1,.ref b])∧(k:K3)=k)→H' b=some (.lst xs)):Trips isL H' cs ks:=by
 refine⟨T.len,fun i c k hc hk=>?_⟩
 have h:=T.at_ i c k hc hk
 cases isL with
 | false=>
   obtain⟨d,e1,e2⟩:=h
   exact⟨d,e1,s _ _ e2⟩
 | true=>
   obtain⟨g,e1,e2⟩:=h
   exact⟨g,s _ _ e1,s2 rfl _ _ e2 ⟨c,k,List.mem_of_getElem? hc,e1,rfl⟩⟩
theorem Trips.nil{isL:Bool}{H:Hp}:Trips isL H [] []:=⟨rfl,fun i c k hc=>by simp at hc⟩
theorem Trips.snoc{isL:Bool}{H:Hp}{cs:List Addr}{ks:List K3}{c:Addr}{k:K3}(T:Trips isL H cs ks)(h:hG isL H c k):Trips isL H (cs++[c]) (ks++[k]):=by
 refine⟨by simp[T.len],fun i c' k' hc hk=>?_⟩
 by_cases hi:i<cs.length
 ·rw[List.getElem?_append_left hi] at hc
  rw[List.getElem?_append_left (by rw[←T.len];exact hi)] at hk
  exact T.at_ i c' k' hc hk
 ·have e:i=cs.length:=by
   have:=(List.getElem?_eq_some_iff.mp hc).1
   rw[List.length_append,List.length_singleton] at this
   lia
  subst e
  rw[List.getElem?_append_right (Nat.le_refl _)] at hc
  rw[List.getElem?_append_right (by rw[T.len];exact Nat.le_refl _)] at hk
  simp at hc
  rw[T.len] at hk
  simp at hk
  subst hc hk
  exact h
theorem jw{α:Type}{l:List α}{j:Nat}{x:α}(h:l[j]?=some x):l.take (j+1)=l.take j++[x]:=by
 rw[List.take_add_one,h];rfl
section
variable{P:Program}{w:World}{K:PySem.W.Frag}{mg:Str→Option Value}{base:Heap}
theorem scBest:FnScope ["text","word","steps","last","best","place","wrong","ways","step","cost","many","behind"] ["text","word"] (aC jF):=fsc_
theorem sO(M:Md K mg)(B:Bl mg)(F:FF K "best_ways" jF)(Fshifts:Fn P w K mg base ak "shifts" 5 ["word"] dN)(Fwrong_among_first:Fn P w K mg base ak "wrong_among_first" 1 ["text","word","place"] nJ):Fn P w K mg base ak "best_ways" 6 ["text","word"] fm:=by
 refine ba M F scBest (fun _ _ _ _ _ _=>ci fun _ _=>rfl) (fun vs H Q E h=>?_) (fun f cdv A outer s H vs Q E hr h=>?_)
 ·obtain⟨a,b,t,u,rfl,_⟩:=h;rfl
 ·obtain⟨a,b,t,u,rfl,ha,hb,lu,u1,ut,tl,k⟩:=h
  refine⟨_,(af (aw (i:=2) scBest.nd rfl (.inl rfl) (ai Fshifts hr aj (aa (pv 1) ac)))
   (af (aw (i:=3) scBest.nd rfl (.inl rfl) (aq bp (aL B.len (pv 0)) (aL B.len (pv 1))))
   (af (aw (i:=4) scBest.nd rfl (.inl rfl) (vy (uO (pv 3) (eA (aa (aJ aO (ai Fwrong_among_first hr aj (aa (pv 0) (aa (pv 1) (aa (pv 3) ac)))) (dz dn ad) (fun _ _=>rfl)) (aa ad (aa (pv 3) ac)))) o9) rfl rfl (by simp) (by decide)))
   (af (bO PassesOwn.never rfl (rH B.rev B.range (aa (pv 3) ac)) (aV (i:=5) scBest.nd rfl (.inl rfl))
   (af (aw (i:=6) scBest.nd rfl (.inl rfl) (ai Fwrong_among_first hr aj (aa (pv 0) (aa (pv 1) (aa (pv 5) ac)))))
   (af (aw (i:=7) scBest.nd rfl (.inl rfl) (aN ac))
   (af (bO PassesOwn.never rfl (dA (pv 2)) (aV (i:=8) scBest.nd rfl (.inl rfl))
   (ah (aM (aD (jh (by exact hr)) (aq bj (pv 5) (pv 8)) (pv 4) (by with_unfolding_all rfl)) (af (fP (cU (by exact bX hr) (pv 4) (aq bj (pv 5) (pv 8)) (fun _ _=>rfl)) (cH rfl (bn (aV (i:=9) scBest.nd rfl (.inl rfl)) (bn (aV (i:=10) scBest.nd rfl (.inl rfl)) (bn (aV (i:=11) scBest.nd rfl (.inl rfl)) cA)))))
   (ah (bb (dc PySem.F.plainAttrs_list PySem.F.slot_list_append PySem.F.type_list_append d3 (pv 7) (aa (eA (aa (aq bj (aJ aO (pv 6) (pv 8) (fun _ _=>rfl)) (pv 9)) (aa (aq bj (pv 10) ad) (aa (aq bj (pv 5) (pv 8)) ac)))) ac))))) aP)))
   (ah (aM (u8 (pv 7) (fun _=>rfl)) (ah (tP (by exact bX hr) (pv 4) (pv 5) (sy rfl B.min hr (pv 7)) rfl)) aP))))))
   (ah (aH (pv 4))))))),?_⟩
  refine⟨_,rfl,b,u,rfl,hb,lu,u1,by lia,fun st H1 hst0 hst1 s1=>?_⟩
  refine⟨_,rfl,a,_,rfl,SqL.of (s1 _ _ ha),_,rfl,b,_,rfl,SqL.of (s1 _ _ hb),_,_,rfl,rfl,?_⟩
  obtain⟨L,hL⟩:∃L,L=t.length-u.length:=⟨_,rfl⟩
  have eL:(((t.map sg).length:Nat):Int)-(((u.map sg).length:Nat):Int)=(L:Int):=by rw[List.length_map,List.length_map];lia
  refine lX (congrArg V.int eL) ?_
  rw[←hL] at k
  have hS:=cY u
  have sl:=ic u
  intro bw hbw
  have s2:=Same.upd (o:=.dK []) hbw
  refine⟨_,rfl,_,rfl,_,rfl,_,rfl,a,b,t,u,L,rfl,s2 _ _ (s1 _ _ ha),s2 _ _ (s1 _ _ hb),tl,by lia,fun wr H3 hwr0 hwr3 s3=>?_⟩
  have hla:aX (au (bH t u L (u.length+1))) (-1)=some (.int (aI t u L u.length:Nat)):=by rw[iD,cZ,ju]
  refine⟨_,rfl,wr,_,_,_,rfl,rfl,SqL.of hwr3,hla,_,rfl,by show 3≤sizeLine;decide,fun g hg=>?_⟩
  have bwn:H bw=none:=s1.free hbw
  have hbw2:(L2.upd H1 bw (.dK [])) bw=some (.dK []):=ae
  have s4:=Same.upd (o:=.tup [V.int (aI t u L u.length:Nat),.int 1,.int (L:Int)]) hg
  have hg4:=ae (H:=H3) (a:=g) (o:=.tup [V.int (aI t u L u.length:Nat),.int 1,.int (L:Int)])
  have hbw4:=s4 _ _ (s3 _ _ hbw2)
  have gn:H g=none:=(s1.trans (s2.trans s3)).free hg
  have sH4:=(s1.trans (s2.trans s3)).trans s4
  have hst4:=s4 _ _ (s3 _ _ (s2 _ _ hst1))
  generalize L2.upd H3 g (.tup [V.int (aI t u L u.length:Nat),.int 1,.int (L:Int)])=H4 at s4 hg4 hbw4 sH4 hst4 ⊢
  refine⟨hbw4,[(.inl (L:Int),.ref g)],rfl,by show 1≤15;decide,?_⟩
  have emk:e9 [] [((.inl (L:Int):ap),V.ref g)]=[(.inl (L:Int),V.ref g)]:=rfl
  rw[emk]
  have B0:BW H (L2.upd H4 bw (.dK [(.inl (L:Int),V.ref g)])) bw t u L L:=by
   refine⟨_,ae,by simp;lia,fun p h1 h2=>?_,fun kk hk=>?_⟩
   ·have e:p=L:=by lia
    subst e
    refine .inl ⟨[p],g,oI p hS,by rw[bY rfl],gn,?_⟩
    rw[ao (bK hg4 hbw4 (fun z=>nomatch z))]
    exact hg4
   ·rw[b0 (fun z=>by have:=Sum.inl.inj z;lia)];rfl
  have sH5:Same H (L2.upd H4 bw (.dK [(.inl (L:Int),V.ref g)])):=fun z o h=>by rw[ao (aR h bwn)];exact sH4 _ _ h
  have hst5:(L2.upd H4 bw (.dK [(.inl (L:Int),V.ref g)])) st=some (.lst (au (aB u))):=by
   rw[ao (bK hst4 hbw4 (fun z=>nomatch z))];exact hst4
  generalize L2.upd H4 bw (.dK [(.inl (L:Int),V.ref g)])=H5 at B0 sH5 hst5 ⊢
  refine⟨_,rfl,L,rfl,Nat.lt_of_le_of_lt (show L≤900 by lia) (by decide),qB (n:=L) (fun i σ H6=>Same H H6∧H6 st=some (.lst (au (aB u)))∧BW H H6 bw t u L (L-i)∧∃v5 v6 v7 v8 v9 v10 v11,σ=[some (.ref a),some (.ref b),some (.ref st),some (.int (L:Int)),some (.ref bw),v5,v6,v7,v8,v9,v10,v11]) ?_ ?_ ?_⟩
  ·exact⟨sH5,hst5,B0,_,_,_,_,_,_,_,rfl⟩
  ·rintro D2 i σ H6 nx hi ⟨s6,hst6,B6,v5,v6,v7,v8,v9,v10,v11,rfl⟩
   obtain⟨p,hp⟩:∃p,p=L-1-i:=⟨_,rfl⟩
   rw[show((L:Int)-1-(i:Int))=(p:Int) by lia]
   rw[show L-i=p+1 by lia] at B6
   refine⟨_,rfl,_,rfl,_,rfl,a,b,t,u,p,rfl,s6 _ _ ha,s6 _ _ hb,tl,by lia,fun wp H7 hwp0 hwp7 s7=>?_⟩
   have s67:=s6.trans s7
   have hst7:=s7 _ _ hst6
   have B7:=B6.same s7
   refine⟨Nat.zero_le _,fun wy hwy=>?_⟩
   have s8:=Same.upd (o:=.lst []) hwy
   have hwy8:=ae (H:=H7) (a:=wy) (o:=.lst [])
   have wyn:H wy=none:=s67.free hwy
   generalize L2.upd H7 wy (.lst [])=H8 at s8 hwy8 ⊢
   refine⟨_,rfl,st,rfl,⟨_,SqL.of (s8 _ _ hst7)⟩,nX (K:=K) (a:=st) (xs:=au (aB u)) (fun j σ H9=>Same H7 H9∧∃(cs:List Addr) (ks:List K3),H9 wy=some (.lst (cs.map V.ref))∧Trips false H9 cs ks∧cs.length≤j∧(∀c∈cs,H c=none)∧
    (∀k∈ks,∃s∈aB u,∃l,Least (aB u) t u true (p+s) L l∧k=ce (aI t u p s+ay t u l) (l.length+1) [p+s])∧
    (∀s∈(aB u).take j,(∃l,Ch (aB u) (p+s) L l)→∃l,Least (aB u) t u true (p+s) L l∧ce (aI t u p s+ay t u l) (l.length+1) [p+s]∈ks)∧
    ∃v8 v9 v10 v11,σ=[some (.ref a),some (.ref b),some (.ref st),some (.int (L:Int)),some (.ref bw),some (.int (p:Int)),some (.ref wp),some (.ref wy),v8,v9,v10,v11]) ?_ ?_ ?_ ?_⟩
   ·exact⟨s8,[],[],hwy8,Trips.nil,Nat.le_refl _,(fun c hc=>by cases hc),(fun c hc=>by cases hc),(fun s hs=>by rw[List.take_zero] at hs;cases hs),_,_,_,_,rfl⟩
   ·rintro j σ H9 _ ⟨s9,_⟩
    exact SqL.of (s9 _ _ hst7)
   ·rintro D3 j x σ H9 nx3 hx ⟨s9,cs,ks,hwy9,T,cl,cn,A1,A2,v8,v9,v10,v11,rfl⟩
    obtain⟨s,hs,rfl⟩:=fT hx
    have hsm:=List.mem_of_getElem? hs
    have hjl:j<(aB u).length:=(List.getElem?_eq_some_iff.mp hs).1
    have B9:=B7.same s9
    have etk:=jw hs
    have sb:=hS s hsm
    have eps:(p:Int)+(s:Int)=((p+s:Nat):Int):=(Int.natCast_add p s).symm
    rcases B9.look (p:=p+s) (by lia) with⟨l,c,Ll,Dg,c0,hc9⟩ | ⟨no,Dg⟩
    ·rw[←eps] at Dg
     refine⟨_,rfl,_,rfl,_,_,rfl,rfl,_,rfl,bw,_,rfl,Dg,_,rfl,aE ?_⟩
     refine⟨_,rfl,_,rfl,_,rfl,_,_,rfl,rfl,bw,_,rfl,Dg,c,_,rfl,SqT.of hc9,rfl,_,_,rfl,_,_,rfl,_,_,rfl,rfl,?_⟩
     refine⟨_,rfl,.inl ⟨rfl,_,SqL.of hwy9⟩,_,rfl,_,rfl,wp,_,_,_,rfl,rfl,SqL.of (s9 _ _ hwp7),bc (uj (show s<u.length+1 by lia)),_,rfl,_,_,rfl,rfl,_,rfl,_,_,rfl,rfl,_,rfl,_,rfl,_,_,rfl,rfl,by show 3≤sizeLine;decide,fun g hg=>?_⟩
     have s10:=Same.upd (o:=.tup [V.int ((aI t u p s:Nat)+(ay t u l:Nat)),.int ((l.length:Nat)+1),.int ((p:Int)+(s:Int))]) hg
     have hg10:=ae (H:=H9) (a:=g) (o:=.tup [V.int ((aI t u p s:Nat)+(ay t u l:Nat)),.int ((l.length:Nat)+1),.int ((p:Int)+(s:Int))])
     have hwy10:=s10 _ _ hwy9
     have gn:H g=none:=(s67.trans s9).free hg
     generalize L2.upd H9 g (.tup [V.int ((aI t u p s:Nat)+(ay t u l:Nat)),.int ((l.length:Nat)+1),.int ((p:Int)+(s:Int))])=H10 at s10 hg10 hwy10 ⊢
     refine⟨wy,_,_,rfl,rfl,hwy10,by rw[List.length_map];exact bx (by lia),nx3 _ _ ?_⟩
     have kp:∀z xs,H10 z=some (.tup xs)→(L2.upd H10 wy (.lst (cs.map V.ref++[V.ref g]))) z=some (.tup xs):=fun z xs h=>by rw[ao (bK h hwy10 (fun z=>nomatch z))];exact h
     refine⟨fun z o h=>?_,cs++[g],ks++[ce (aI t u p s+ay t u l) (l.length+1) [p+s]],?_,?_,by rw[List.length_append,List.length_singleton];lia,?_,?_,?_,_,_,_,_,rfl⟩
     ·rw[ao (aR h hwy)];exact s10 _ _ (s9 _ _ h)
     ·rw[ae,List.map_append];rfl
     ·refine Trips.snoc (Trips.same T (fun z xs h=>kp z xs (s10 _ _ h)) (fun z=>nomatch z)) ⟨((p+s:Nat):Int),rfl,kp _ _ ?_⟩
      rw[hg10]
      simp only[ce,Int.natCast_add]
      rfl
     ·intro c' hc'
      rcases List.mem_append.mp hc' with z | z
      ·exact cn c' z
      ·rw[List.mem_singleton.mp z];exact gn
     ·intro k hk
      rcases List.mem_append.mp hk with z | z
      ·exact A1 k z
      ·exact⟨s,hsm,l,Ll,List.mem_singleton.mp z⟩
     ·intro s' hs' ex
      rw[etk] at hs'
      rcases List.mem_append.mp hs' with z | z
      ·obtain⟨l',h1,h2⟩:=A2 s' z ex
       exact⟨l',h1,List.mem_append_left _ h2⟩
      ·rw[List.mem_singleton.mp z]
       exact⟨l,Ll,List.mem_append_right _ (List.mem_singleton.mpr rfl)⟩
    ·rw[←eps] at Dg
     refine⟨_,rfl,_,rfl,_,_,rfl,rfl,_,rfl,bw,_,rfl,Dg,_,rfl,ar (nx3 _ _ ?_)⟩
     refine⟨s9,cs,ks,hwy9,T,by lia,cn,A1,?_,_,_,_,_,rfl⟩
     intro s' hs' ex
     rw[etk] at hs'
     rcases List.mem_append.mp hs' with z | z
     ·exact A2 s' z ex
     ·rw[List.mem_singleton.mp z] at ex
      obtain⟨l,hl⟩:=ex
      exact absurd hl (no l)
   ·rintro σ H9 ⟨s9,cs,ks,hwy9,T,cl,cn,A1,A2,v8,v9,v10,v11,rfl⟩
    rw[bq,List.take_length] at A2
    have sH9:=s67.trans s9
    have hst9:=s9 _ _ hst7
    have B9:=B7.same s9
    cases cs with
    | nil=>
      refine⟨_,rfl,_,.inl ⟨_,SqL.of hwy9,rfl⟩,ar (nx _ _ ⟨sH9,hst9,?_,_,_,_,_,_,_,_,rfl⟩)⟩
      rw[show L-(i+1)=p by lia]
      refine B9.skip fun l hl=>?_
      have k0:ks=[]:=List.eq_nil_of_length_eq_zero (by rw[←T.len];rfl)
      cases hl with
      | one=>lia
      | @cons _ s _ l' h1 h2=>
        obtain⟨l'',_,hm⟩:=A2 s h1 ⟨l',h2⟩
        rw[k0] at hm
        cases hm
    | cons c0 cs'=>
      refine⟨_,rfl,_,.inl ⟨_,SqL.of hwy9,rfl⟩,aE ?_⟩
      refine⟨_,rfl,false,wy,c0::cs',ks,rfl,hwy9,T,by simp,fun q c kk hc hk hmin=>?_⟩
      obtain⟨s0,hs0,l0,L0,ek⟩:=A1 kk (List.mem_of_getElem? hk)
      obtain⟨d,ed,hc9⟩:=T.at_ q c kk hc hk
      subst ek
      have LL:Least (aB u) t u true p L (p::l0):=by
       refine p6 (by lia) hs0 L0 fun s hs ex=>?_
       obtain⟨l,h1,h2⟩:=A2 s hs ex
       exact⟨l,h1,hmin _ h2⟩
      have ed':d=((p+s0:Nat):Int):=by
       have:[((p+s0:Nat):Int)]=[d]:=ed
       injection this with this _
       exact this.symm
      have hc9':H9 c=some (.tup [.int (ay t u (p::l0):Nat),.int ((p::l0).length:Nat),.int (gP (p::l0):Nat)]):=by
       rw[hc9,ed',dS L0.1,List.length_cons]
       obtain⟨r,er⟩:=L0.1.head
       subst er
       rfl
      obtain⟨H10,Dp,B10,k10⟩:=B9.put (by lia) (by lia) LL (cn c (List.mem_of_getElem? hc)) hc9'
      refine⟨_,rfl,_,rfl,bw,H10,rfl,Dp,nx _ _ ⟨fun z o h=>k10 _ _ (sH9 _ _ h) (aR h bwn),k10 _ _ hst9 ?_,?_,_,_,_,_,_,_,_,rfl⟩⟩
      ·obtain⟨kvs,h1,_⟩:=B9
       exact bK hst9 h1 (fun z=>nomatch z)
      ·rw[show L-(i+1)=p by lia];exact B10
  ·rintro σ H6 ⟨s6,hst6,B6,v5,v6,v7,v8,v9,v10,v11,rfl⟩
   rw[Nat.sub_self] at B6
   exact⟨_,rfl,k bw H6 bwn B6 s6⟩
end
structure Exs(K:PySem.W.Frag)(mg:Str→Option Value)(cCoverError cNoWord cNoSign cNoText cNoCover cNoChain cNoForm cNoNumber cNoneYet cTooMany:Addr):Prop where
 bCoverError:mg "CoverError"=some (.ref cCoverError)
 bNoWord:mg "NoWord"=some (.ref cNoWord)
 bNoSign:mg "NoSign"=some (.ref cNoSign)
 bNoText:mg "NoText"=some (.ref cNoText)
 bNoCover:mg "NoCover"=some (.ref cNoCover)
 bNoChain:mg "NoChain"=some (.ref cNoChain)
 bNoForm:mg "NoForm"=some (.ref cNoForm)
 bNoNumber:mg "NoNumber"=some (.ref cNoNumber)
 bNoneYet:mg "NoneYet"=some (.ref cNoneYet)
 bTooMany:mg "TooMany"=some (.ref cTooMany)
 nValueError:mg "ValueError"=none
 facts:excFacts K cCoverError [cNoWord,cNoSign,cNoText,cNoCover,cNoChain,cNoForm,cNoNumber,cNoneYet,cTooMany]=true
 nd:[cNoWord,cNoSign,cNoText,cNoCover,cNoChain,cNoForm,cNoNumber,cNoneYet,cTooMany].Nodup
theorem exs_mk{K:PySem.W.Frag}{mg:Str→Option Value}{c0 c1 c2 c3 c4 c5 c6 c7 c8 c9:Addr}(M:Md K mg)(a0:PySem.W.nsIn K mainGlobals "CoverError"=some (some (.ref c0)))(a1:PySem.W.nsIn K mainGlobals "NoWord"=some (some (.ref c1)))(a2:PySem.W.nsIn K mainGlobals "NoSign"=some (some (.ref c2)))(a3:PySem.W.nsIn K mainGlobals "NoText"=some (some (.ref c3)))(a4:PySem.W.nsIn K mainGlobals "NoCover"=some (some (.ref c4)))(a5:PySem.W.nsIn K mainGlobals "NoChain"=some (some (.ref c5)))(a6:PySem.W.nsIn K mainGlobals "NoForm"=some (some (.ref c6)))(a7:PySem.W.nsIn K mainGlobals "NoNumber"=some (some (.ref c7)))(a8:PySem.W.nsIn K mainGlobals "NoneYet"=some (some (.ref c8)))(a9:PySem.W.nsIn K mainGlobals "TooMany"=some (some (.ref c9)))(av:PySem.W.nsIn K mainGlobals "ValueError"=some none)(f:excFacts K c0 [c1,c2,c3,c4,c5,c6,c7,c8,c9]=true)(nd:[c1,c2,c3,c4,c5,c6,c7,c8,c9].Nodup):Exs K mg c0 c1 c2 c3 c4 c5 c6 c7 c8 c9:=
 ⟨M.ns _ _ a0,M.ns _ _ a1,M.ns _ _ a2,M.ns _ _ a3,M.ns _ _ a4,M.ns _ _ a5,M.ns _ _ a6,M.ns _ _ a7,M.ns _ _ a8,M.ns _ _ a9,M.ns _ _ av,f,nd⟩
theorem Ch.len_le{u S:List Nat}(hS:dP u S){p q:Nat}{l:List Nat}(h:Ch S p q l):l.length+p≤q+1:=by
 induction h with
 | one=>simp;lia
 | cons h1 h2 ih=>have:=(hS _ h1).1;rw[List.length_cons];lia
theorem uk{α:Type}{xs:List α}{v:α}(h1:1≤xs.length)(h:xs[xs.length-1]?=some v):aX xs (-1)=some v:=by
 unfold aX bT
 rw[if_neg (by decide),if_pos (by lia)]
 show xs[(-1+(xs.length:Int)).toNat]?=_
 rw[show(-1+(xs.length:Int)).toNat=xs.length-1 by lia]
 exact h
theorem Ch.le_all{S:List Nat}{p q:Nat}{l:List Nat}(h:Ch S p q l):∀x∈l,p≤x∧x≤q:=by
 induction h with
 | one p=>intro x hx;rw[List.mem_singleton.mp hx];exact⟨Nat.le_refl _,Nat.le_refl _⟩
 | @cons p s q l h1 h2 ih=>
   intro x hx
   rcases List.mem_cons.mp hx with e | e
   ·subst e;have:=h2.le;exact⟨Nat.le_refl _,by lia⟩
   ·have:=ih x e;exact⟨by lia,this.2⟩
abbrev gs:Stmt:=aW 15
abbrev fV:Stmt:=aW 28
theorem Least.tail{S t u:List Nat}{p q:Nat}{l:List Nat}(h:Least S t u true p q (p::l))(hl:l≠ []):∃s∈S,Least S t u true (p+s) q l:=by
 obtain⟨h1,h2⟩:=h
 cases h1 with
 | one=>exact absurd rfl hl
 | @cons _ s _ _ hs hc=>
   refine⟨s,hs,hc,fun l' h'=>?_⟩
   have:=h2 (p::l') (Ch.cons hs h')
   refine Bool.eq_false_iff.mpr fun z=>?_
   unfold ky at this z
   rw[if_pos rfl,if_pos rfl] at this z
   have z':=kyN_lt.mp z
   have hcons:aK (il (p::l')) (il (p::l))=aK (il l') (il l):=by
    show aK ((p:Int)::il l') ((p:Int)::il l)=_
    simp only[aK];rw[if_pos trivial]
   have yes:be (ce (ay t u (p::l')) (p::l').length (p::l')) (ce (ay t u (p::l)) (p::l).length (p::l))=true:=by
    rw[kyN_lt,dS h',dS hc,hcons]
    simp only[List.length_cons]
    rcases z' with z' | ⟨z',y | ⟨y,y'⟩⟩
    ·exact .inl (by lia)
    ·exact .inr ⟨by lia,.inl (by lia)⟩
    ·exact .inr ⟨by lia,.inr ⟨by lia,y'⟩⟩
   rw[yes] at this
   cases this
def i7:Sp:=fun vs H Q _=>∃(a b:Addr) (t u:List Nat),vs=[.ref a,.ref b]∧H a=some (.lst (t.map sg))∧H b=some (.lst (u.map sg))∧Low t∧Low u∧1≤u.length∧u.length≤t.length∧Q .non H
def lq(cC:Addr):Sp:=fun vs H Q E=>∃(a b:Addr) (t u:List Nat),vs=[.ref a,.ref b]∧H a=some (.lst (t.map sg))∧H b=some (.lst (u.map sg))∧Low t∧Low u∧1≤u.length∧u.length≤t.length∧t.length≤900∧
 ((∀l,¬Ch (aB u) 0 (t.length-u.length) l)→∀H',Same H H'→E (.ref cC) none H')∧
 (∀l,Least (aB u) t u true 0 (t.length-u.length) l→∀(g c:Addr) (H':Hp),H g=none→H c=none→H' g=some (.tup [.int (ay t u l:Nat),.ref c])→H' c=some (.lst (au l))→Same H H'→Q (.ref g) H')
section
variable{P:Program}{w:World}{K:PySem.W.Frag}{mg:Str→Option Value}{base:Heap}{cNoCover:Addr}
theorem ko:FnScope ["text","word"] ["text","word"] (aC gs):=fsc_
theorem vH(M:Md K mg)(B:Bl mg)(F:FF K "check_fits" gs)(Fcheck_signs:Fn P w K mg base ak "check_signs" 2 ["text"] fK)(Fcheck_word:Fn P w K mg base ak "check_word" 3 ["word"] jX):Fn P w K mg base ak "check_fits" 4 ["text","word"] i7:=by
 refine ba M F ko (fun _ _ _ _ _ _=>ci fun _ _=>rfl) (fun vs H Q E h=>?_) (fun f cdv A outer s H vs Q E hr h=>?_)
 ·obtain⟨a,b,t,u,rfl,_⟩:=h;rfl
 ·obtain⟨a,b,t,u,rfl,ha,hb,lt,lu,u1,ut,k⟩:=h
  refine⟨_,(af (bb (ai Fcheck_word hr aj (aa (pv 1) ac)))
   (af (bb (ai Fcheck_signs hr aj (aa (pv 0) ac)))
   (ah (aM (aD dF (aL B.len (pv 0)) (aL B.len (pv 1)) (aF _)) (ah gy) aP)))),?_⟩
  refine⟨_,rfl,b,u,rfl,hb,lu,u1,?_⟩
  refine⟨_,rfl,a,t,rfl,ha,lt,?_⟩
  refine⟨_,rfl,a,_,rfl,SqL.of ha,_,rfl,b,_,rfl,SqL.of hb,_,_,rfl,rfl,_,rfl,?_⟩
  rw[decide_eq_false (by rw[List.length_map,List.length_map];lia)]
  exact ar k
theorem scFewW:FnScope ["text","word","best","chain","cost","many","behind"] ["text","word"] (aC fV):=fsc_
theorem sR(M:Md K mg)(B:Bl mg)(F:FF K "fewest_wrong" fV)(ONoCover:Exc K mg "NoCover" cNoCover)(Fcheck_fits:Fn P w K mg base (aS P w) "check_fits" 4 ["text","word"] i7)(Fbest_ways:Fn P w K mg base ak "best_ways" 6 ["text","word"] fm):Fn P w K mg base (aS P w) "fewest_wrong" 7 ["text","word"] (lq cNoCover):=by
 refine cG M F scFewW (fun _ _ _ _ _ _=>ci fun _ _=>rfl) (fun vs H Q E h=>?_) (fun f cdv A outer s H vs Q E hr h=>?_)
 ·obtain⟨a,b,t,u,rfl,_⟩:=h;rfl
 ·obtain⟨a,b,t,u,rfl,ha,hb,lt,lu,u1,ut,tl,k1,k2⟩:=h
  refine⟨_,(af (bb (ai Fcheck_fits hr cJ (aa (pv 0) (aa (pv 1) ac))))
   (af (aw (i:=2) scFewW.nd rfl (.inl rfl) (ai Fbest_ways hr aj (aa (pv 0) (aa (pv 1) ac))))
   (af (aM (aD (nW (by exact hr)) ad (pv 2) (by with_unfolding_all rfl)) (ah (di ONoCover bB)) aP)
   (af (aw (i:=3) scFewW.nd rfl (.inl rfl) (aN (aa ad ac)))
   (af (iB PassesOwn.leaving (aD dF (aJ aO (pv 3) (dz dn ad) (fun _ _=>rfl)) (aq bp (aL B.len (pv 0)) (aL B.len (pv 1))) (aF _)) (af (fP (cU (by exact bX hr) (pv 2) (aJ aO (pv 3) (dz dn ad) (fun _ _=>rfl)) (fun _ _=>rfl)) (cH rfl (bn (aV (i:=4) scFewW.nd rfl (.inl rfl)) (bn (aV (i:=5) scFewW.nd rfl (.inl rfl)) (bn (aV (i:=6) scFewW.nd rfl (.inl rfl)) cA)))))
   (ah (bb (dc PySem.F.plainAttrs_list PySem.F.slot_list_append PySem.F.type_list_append d3 (pv 3) (aa (pv 6) ac))))))
   (ah (aH (eA (aa (aJ dk (cU (by exact bX hr) (pv 2) ad (fun _ _=>rfl)) ad (fun _ _=>rfl)) (aa (pv 3) ac)))))))))),?_⟩
  refine⟨_,rfl,_,rfl,a,b,t,u,rfl,ha,hb,lt,lu,u1,ut,?_⟩
  refine⟨_,rfl,_,rfl,a,b,t,u,rfl,ha,hb,lu,u1,ut,tl,fun r H1 hr0 B1 s1=>?_⟩
  obtain⟨L,hL⟩:∃L,L=t.length-u.length:=⟨_,rfl⟩
  rw[←hL] at k1 k2 B1
  have hS:=cY u
  rcases B1.look (p:=0) (Nat.le_refl _) with⟨l,c,Ll,Dg,c0,hc1⟩ | ⟨no,Dg⟩
  ·have Dg':DGet H1 r (.int 0) (some (.ref c)):=Dg
   refine⟨_,rfl,r,_,rfl,Dg',_,rfl,ar ?_⟩
   refine⟨by show 1≤sizeLine;decide,fun ch hch=>?_⟩
   have s2:=Same.upd (o:=.lst [V.int 0]) hch
   have hch2:=ae (H:=H1) (a:=ch) (o:=.lst [V.int 0])
   have chn:H ch=none:=s1.free hch
   generalize L2.upd H1 ch (.lst [V.int 0])=H2 at s2 hch2 ⊢
   have s12:=s1.trans s2
   refine⟨fun m σ H3=>∃(pre rest:List Nat) (p:Nat) (v4 v5 v6:Option V),m=rest.length∧l=pre++(p::rest)∧Least (aB u) t u true p L (p::rest)∧Same H1 H3∧H3 ch=some (.lst (au (pre++[p])))∧σ=[some (.ref a),some (.ref b),some (.ref r),some (.ref ch),v4,v5,v6],⟨l.length-1,[],l.drop 1,0,none,none,none,by rw[List.length_drop],?_,?_,s2,hch2,rfl⟩,?_⟩
   ·obtain⟨r',e⟩:=Ll.1.head
    rw[e];rfl
   ·obtain⟨r',e⟩:=Ll.1.head
    have:0::l.drop 1=l:=by rw[e];rfl
    rw[this];exact Ll
   ·rintro m σ H3 ⟨pre,rest,p,v4,v5,v6,rfl,el,Lp,s3,hch3,rfl⟩
    have sH3:=s1.trans s3
    have hat:aX (au (pre++[p])) (-1)=some (.int (p:Int)):=by rw[cZ,ju]
    refine⟨_,rfl,_,rfl,ch,_,_,_,rfl,rfl,SqL.of hch3,hat,_,rfl,a,_,rfl,SqL.of (sH3 _ _ ha),_,rfl,b,_,rfl,SqL.of (sH3 _ _ hb),_,_,rfl,rfl,_,_,rfl,rfl,_,rfl,?_⟩
    have pL:=Lp.1.le
    cases rest with
    | nil=>
      have e:p=L:=by
       obtain⟨r',e'⟩:=Lp.1.last
       cases r' with
       | nil=>injection e'
       | cons x xs=>injection e' with _ e';simp at e'
      rw[decide_eq_false (by rw[List.length_map,List.length_map];lia)]
      rcases(B1.same s3).look (p:=0) (Nat.le_refl _) with⟨l',c',Ll',Dg2,c0',hc3⟩ | ⟨no,_⟩
      ·have el':=Ll.uniq Ll'
       subst el'
       have Dg2':DGet H3 r (.int 0) (some (.ref c')):=Dg2
       refine ar ⟨_,rfl,r,_,rfl,Dg2',c',_,_,_,rfl,rfl,SqT.of hc3,bc (j:=0) rfl,_,rfl,by show 2≤sizeLine;decide,fun g hg=>?_⟩
       refine k2 l Ll g ch _ (sH3.free hg) chn ae ?_ (sH3.trans (Same.upd hg))
       rw[(Same.upd hg) _ _ hch3,el]
      ·exact absurd Ll.1 (no l)
    | cons q rest'=>
      obtain⟨s,hs,Lq⟩:=Lp.tail (by simp)
      have eq:p+s=q:=by
       obtain⟨r',e'⟩:=Lq.1.head
       injection e' with e' _
       exact e'.symm
      have qL:=Lq.1.le
      have s1':=(hS s hs).1
      rw[decide_eq_true (by rw[List.length_map,List.length_map];lia)]
      refine aE ⟨fun σ' H'=>∃m',m'<(q::rest').length∧∃(pre rest:List Nat) (p:Nat) (v4 v5 v6:Option V),m'=rest.length∧l=pre++(p::rest)∧Least (aB u) t u true p L (p::rest)∧Same H1 H'∧H' ch=some (.lst (au (pre++[p])))∧σ'=[some (.ref a),some (.ref b),some (.ref r),some (.ref ch),v4,v5,v6],fun _ _ h=>h,?_⟩
      rcases(B1.same s3).look (p:=p) (Nat.zero_le _) with⟨l',c',Ll',Dg2,c0',hc3⟩ | ⟨no,_⟩
      ·have el':=Lp.uniq Ll'
       subst el'
       refine⟨_,rfl,_,rfl,_,rfl,ch,_,_,_,rfl,rfl,SqL.of hch3,hat,r,_,rfl,Dg2,c',_,rfl,SqT.of hc3,rfl,_,_,rfl,_,_,rfl,_,_,rfl,rfl,?_⟩
       have ll:=Ch.len_le hS Ll.1
       have hz:(au (pre++[p])).length<sizeLine:=by
        rw[bq,List.length_append,List.length_singleton]
        have:pre.length≤l.length:=by rw[el,List.length_append];lia
        exact bx (by lia)
       refine⟨_,rfl,.inl ⟨rfl,_,SqL.of hch3⟩,_,rfl,ch,_,_,rfl,rfl,hch3,hz,rest'.length,by simp,pre++[p],rest',q,_,_,_,rfl,by rw[el,List.append_assoc];rfl,by rw[←eq] at Lq ⊢;exact Lq,fun z o h=>by rw[ao (aR h hch)];exact s3 _ _ h,?_,rfl⟩
       rw[ae,cZ (pre++[p]) q]
       rfl
      ·exact absurd Lp.1 (no _)
  ·have Dg':DGet H1 r (.int 0) none:=Dg
   exact⟨_,rfl,r,_,rfl,Dg',_,rfl,aE ⟨rfl,k1 no H1 s1⟩⟩
end
def dj(t u:List Nat)(p a:Nat):Nat→Nat
 | 0=>0
 | k+1=>dj t u p a k+(if t[p+k]?=u[a+k]? then 0 else 1)
theorem jA(t u:List Nat)(p a:Nat):∀b,aI t u p (a+b)=aI t u p a+dj t u (p+a) a b
 | 0=>rfl
 | b+1=>by
   rw[←Nat.add_assoc]
   simp only[aI,dj]
   rw[jA t u p a b,show p+(a+b)=p+a+b by lia]
   lia
theorem og{t t' u u':List Nat}{p p' a a':Nat}:∀{k:Nat},(∀j,j<k→(t[p+j]?=u[a+j]?↔t'[p'+j]?=u'[a'+j]?))→dj t u p a k=dj t' u' p' a' k
 | 0,_=>rfl
 | k+1,h=>by
   simp only[dj]
   rw[og (k:=k) fun j hj=>h j (by lia)]
   congr 1
   by_cases e:t[p+k]?=u[a+k]?
   ·rw[if_pos e,if_pos ((h k (by lia)).mp e)]
   ·rw[if_neg e,if_neg (fun z=>e ((h k (by lia)).mpr z))]
theorem mZ{t t' u u':List Nat}{p p':Nat}:∀{k:Nat},(∀j,j<k→(t[p+j]?=u[j]?↔t'[p'+j]?=u'[j]?))→aI t u p k=aI t' u' p' k
 | 0,_=>rfl
 | k+1,h=>by
   simp only[aI]
   rw[mZ (k:=k) fun j hj=>h j (by lia)]
   congr 1
   by_cases e:t[p+k]?=u[k]?
   ·rw[if_pos e,if_pos ((h k (by lia)).mp e)]
   ·rw[if_neg e,if_neg (fun z=>e ((h k (by lia)).mpr z))]
def gd(l:List Nat)(i:Nat):Nat:=(l[i]?).getD 0
def bP(u l:List Nat):Nat→List Nat
 | 0=>u
 | i+1=>bP u l i++u.drop (u.length-(gd l (i+1)-gd l i))
theorem Ch.at_{S:List Nat}{p q:Nat}{l:List Nat}(h:Ch S p q l):∀i,i<l.length→Ch S p (gd l i) (l.take (i+1))∧(i+1<l.length→∃s∈S,gd l (i+1)=gd l i+s):=by
 induction h with
 | one p=>
   intro i hi
   have:i=0:=by simp at hi;lia
   subst this
   exact⟨Ch.one _,fun h=>by simp at h⟩
 | @cons p s q l h1 h2 ih=>
   intro i hi
   cases i with
   | zero=>
     refine⟨Ch.one _,fun h=>⟨s,h1,?_⟩⟩
     obtain⟨r,e⟩:=h2.head
     subst e
     rfl
   | succ i=>
     have hi':i<l.length:=by simpa using hi
     obtain⟨a,b⟩:=ih i hi'
     have e1:gd (p::l) (i+1)=gd l i:=rfl
     refine⟨by rw[e1,List.take_succ_cons];exact Ch.cons h1 a,fun h=>?_⟩
     obtain⟨s',h3,h4⟩:=b (by simpa using h)
     exact⟨s',h3,h4⟩
theorem ir{S t u:List Nat}(hS:dP u S){q:Nat}{l:List Nat}(h:Ch S 0 q l):∀i,i<l.length→(bP u l i).length=gd l i+u.length∧aI t (bP u l i) 0 (gd l i+u.length)=ay t u (l.take (i+1))
 | 0,hi=>by
   obtain⟨r,e⟩:=h.head
   subst e
   refine⟨by show u.length=0+u.length;lia,?_⟩
   show aI t u 0 (0+u.length)=aI t u 0 u.length
   rw[Nat.zero_add]
 | i+1,hi=>by
   obtain⟨ih1,ih2⟩:=ir hS (t:=t) h i (by lia)
   obtain⟨c1,c2⟩:=Ch.at_ h i (by lia)
   obtain⟨s,hs,es⟩:=c2 hi
   obtain⟨s1,s2,s3⟩:=hS s hs
   have ed:gd l (i+1)-gd l i=s:=by lia
   have el:bP u l (i+1)=bP u l i++u.drop (u.length-s):=by simp only[bP];rw[ed]
   have dl:(u.drop (u.length-s)).length=s:=by rw[List.length_drop];lia
   have hlen:(bP u l (i+1)).length=gd l (i+1)+u.length:=by rw[el,List.length_append,ih1,dl,es];lia
   refine⟨hlen,?_⟩
   have etk:l.take (i+1+1)=l.take (i+1)++[gd l i+s]:=by
    have:l[i+1]?=some (gd l i+s):=by
     rw[←es];unfold gd
     rw[List.getElem?_eq_getElem hi];rfl
    rw[List.take_add_one,this];rfl
   have cs:=uo (t:=t) hS c1 hs
   rw[←etk] at cs
   have e1:gd l (i+1)+u.length=(gd l i+u.length)+s:=by lia
   rw[e1,jA]
   have e2:aI t (bP u l (i+1)) 0 (gd l i+u.length)=aI t (bP u l i) 0 (gd l i+u.length):=mZ fun j hj=>by
    rw[el,List.getElem?_append_left (by rw[ih1];lia)]
   have e3:dj t (bP u l (i+1)) (0+(gd l i+u.length)) (gd l i+u.length) s=dj t u (gd l i+s+(u.length-s)) (u.length-s) s:=og fun j hj=>by
    rw[el,List.getElem?_append_right (by rw[ih1];lia),ih1,List.getElem?_drop,show gd l i+u.length+j-(gd l i+u.length)=j by lia,show 0+(gd l i+u.length)+j=gd l i+s+(u.length-s)+j by lia]
   have e4:=jA t u (gd l i+s) (u.length-s) s
   rw[show u.length-s+s=u.length by lia] at e4
   rw[e2,e3,ih2]
   lia
abbrev jT:Stmt:=aW 23
abbrev i9:Stmt:=aW 24
abbrev gJ:Stmt:=aW 25
def dO(ns:List Int):List Int:=(List.range (ns.length-1)).map fun i=>(ns[i+1]?).getD 0-(ns[i]?).getD 0
def bG(S:List Nat)(ns:List Int)(last:Int):Bool:=decide (ns≠ []) && (decide ((ns[0]?).getD 1=0) && (decide ((ns[ns.length-1]?).getD 0=last) && (dO ns).all fun d=>decide (d∈S.map fun(s:Nat)=>(s:Int))))
def iK:Sp:=fun vs H Q _=>∃(b c:Addr) (u:List Nat) (ns:List Int) (n:Int),vs=[.ref b,.ref c,.int n]∧H b=some (.lst (u.map sg))∧H c=some (.lst (ns.map V.int))∧Low u∧1≤u.length∧u.length≤900∧ns.length≤1000∧∀H',Same H H'→Q (.bl (bG (aB u) ns (n-u.length))) H'
def iS:Sp:=fun vs H Q _=>∃(b c:Addr) (u l:List Nat) (q:Nat),vs=[.ref b,.ref c]∧H b=some (.lst (u.map sg))∧H c=some (.lst (au l))∧1≤u.length∧q+u.length≤900∧Ch (aB u) 0 q l∧∀(r:Addr) (H':Hp),H r=none→H' r=some (.lst ((bP u l (l.length-1)).map sg))→Same H H'→Q (.ref r) H'
theorem nv(l:List Nat):au l=(il l).map V.int:=rfl
theorem fM(l:List Nat)(i:Nat):(il l)[i]?=(l[i]?).map fun(x:Nat)=>(x:Int):=by simp[il]
theorem kr{S:List Nat}{q:Nat}{l:List Nat}(h:Ch S 0 q l):bG S (il l) (q:Int)=true:=by
 have hne:l≠ []:=by obtain⟨r,e⟩:=h.head;rw[e];simp
 have hlen:(il l).length=l.length:=by simp[il]
 unfold bG
 rw[Bool.and_eq_true,Bool.and_eq_true,Bool.and_eq_true]
 refine⟨decide_eq_true (by simp[il,hne]),decide_eq_true ?_,decide_eq_true ?_,?_⟩
 ·obtain⟨r,e⟩:=h.head
  rw[e];rfl
 ·obtain⟨r,e⟩:=h.last
  rw[hlen,fM,e,List.length_append,List.length_singleton,show r.length+1-1=r.length by lia,List.getElem?_append_right (Nat.le_refl _),Nat.sub_self]
  rfl
 ·rw[List.all_eq_true]
  intro d hd
  unfold dO at hd
  rw[List.mem_map] at hd
  obtain⟨i,hi,rfl⟩:=hd
  rw[List.mem_range,hlen] at hi
  obtain⟨s,hs,es⟩:=(Ch.at_ h i (by lia)).2 (by lia)
  refine decide_eq_true (List.mem_map.mpr ⟨s,hs,?_⟩)
  rw[fM,fM]
  unfold gd at es
  have a1:i<l.length:=by lia
  have a2:i+1<l.length:=by lia
  rw[List.getElem?_eq_getElem a1,List.getElem?_eq_getElem a2] at es ⊢
  simp only[Option.getD_some,Option.map_some] at es ⊢
  lia
theorem vf(S:List Nat):(au S).all cE=true:=by
 rw[List.all_eq_true]
 intro v hv
 unfold au at hv
 rw[List.map_map,List.mem_map] at hv
 obtain⟨x,_,rfl⟩:=hv
 rfl
theorem qj(S:List Nat)(d:Int):cz (.int d) (au S)=decide (d∈S.map fun(s:Nat)=>(s:Int)):=by
 unfold cz au
 rw[List.map_map,Bool.eq_iff_iff,List.any_eq_true,decide_eq_true_eq,List.mem_map]
 constructor
 ·rintro⟨v,hv,h⟩
  obtain⟨x,hx,rfl⟩:=List.mem_map.mp hv
  have h:decide ((x:Int)=d)=true:=h
  exact⟨x,hx,of_decide_eq_true h⟩
 ·rintro⟨x,hx,rfl⟩
  exact⟨.int (x:Int),List.mem_map.mpr ⟨x,hx,rfl⟩,show decide ((x:Int)=(x:Int))=true from decide_eq_true rfl⟩
theorem fS{ns:List Int}{i:Nat}{x:V}(h:(ns.map V.int)[i]?=some x):∃z,ns[i]?=some z∧x=.int z:=by
 rw[List.getElem?_map] at h
 cases e:ns[i]? with
 | none=>rw[e] at h;cases h
 | some z=>rw[e] at h;exact⟨z,rfl,(Option.some.inj h).symm⟩
theorem kG(ns:List Int):bi (ns.map V.int) (some 1) none=(ns.drop 1).map V.int:=by rw[cq,cy,fC _ _ (by decide)];rfl
theorem rG(t x:List Nat):∀n,(List.replicate (aI t x 0 n) (1:Int)).sum=(aI t x 0 n:Nat):=fun n=>by
 generalize aI t x 0 n=k
 induction k with
 | zero=>rfl
 | succ k ih=>rw[List.replicate_succ,List.sum_cons,ih];lia
section
variable{P:Program}{w:World}{K:PySem.W.Frag}{mg:Str→Option Value}{base:Heap}
theorem scIsChain:FnScope ["word","chain","length","steps"] ["word","chain","length"] (aC jT):=fsc_
theorem qv(M:Md K mg)(B:Bl mg)(nall:mg "all"=none)(F:FF K "is_chain" jT)(Fshifts:Fn P w K mg base ak "shifts" 5 ["word"] dN):Fn P w K mg base ak "is_chain" 6 ["word","chain","length"] iK:=by
 refine ba M F scIsChain (fun _ _ _ _ _ _=>df fun _ _ _=>rfl) (fun vs H Q E h=>?_) (fun f cdv A outer s H vs Q E hr h=>?_)
 ·obtain⟨b,c,u,ns,n,rfl,_⟩:=h;rfl
 ·obtain⟨b,c,u,ns,n,rfl,hb,hc,lu,u1,ul,nl,k⟩:=h
  refine⟨_,(af (aM (PW.pt (eJ (aD bo (aL B.len (pv 1)) ad (aF _)) (eJ (aD eE (aJ aO (pv 1) ad (fun _ _=>rfl)) ad (aF _)) (fI (aD eE (aJ aO (pv 1) (dz dn ad) (fun _ _=>rfl)) (aq bp (pv 2) (aL B.len (pv 0))) (aF _)))))) (ah (aH fi)) aP)
   (af (aw (i:=3) scIsChain.nd rfl (.inr rfl) (ai Fshifts hr aj (aa (pv 0) ac)))
   (ah (aH (qM rfl nall (iV ["before","behind"] ["word","chain","length","steps"] rfl (fG B.zip (pv 1) (bu bv (pv 1) (bt ad) bA)) (fun _=>by exact(cH rfl (bn (aV (i:=4) (show((["word","chain","length","steps"]:List Str)++(["before","behind"]:List Str)).Nodup by decide+kernel) rfl (.inl rfl)) (bn (aV (i:=5) (show((["word","chain","length","steps"]:List Str)++(["before","behind"]:List Str)).Nodup by decide+kernel) rfl (.inl rfl)) cA)))) (fun _=>by exact fw) (fun _=>by exact(eI mw (aq bp (pv 5) (pv 4)) (pv 3) (by with_unfolding_all rfl))))))))),?_⟩
  refine⟨_,rfl,c,_,rfl,SqL.of hc,rfl,_,rfl,?_⟩
  cases ns with
  | nil=>
    refine aE (aE ?_)
    have:=k H (Same.refl _)
    exact this
  | cons x r=>
    rw[decide_eq_false (fun q=>by have:=V.int.inj q;rw[List.length_map,List.length_cons] at this;lia)]
    refine ar ⟨_,rfl,c,_,_,_,rfl,rfl,SqL.of hc,bc (j:=0) rfl,rfl,_,rfl,?_⟩
    by_cases hx:x=0
    ·subst hx
     rw[decide_eq_true rfl]
     have hla:aX ((0::r).map V.int) (-1)=some (.int (((0::r)[(0::r).length-1]?).getD 0)):=uk (by rw[List.length_map,List.length_cons];lia) (by
      rw[List.length_map,List.getElem?_map,List.getElem?_eq_getElem (show(0::r).length-1<(0::r).length by rw[List.length_cons];lia)];rfl)
     refine ar ⟨_,rfl,_,rfl,c,_,_,_,rfl,rfl,SqL.of hc,hla,_,rfl,_,rfl,b,_,rfl,SqL.of hb,_,_,rfl,rfl,rfl,_,rfl,?_⟩
     rw[List.length_map]
     by_cases hz:((0::r)[(0::r).length-1]?).getD 0=n-(u.length:Int)
     ·rw[decide_eq_true (congrArg V.int hz)]
      refine ar ⟨_,rfl,b,u,rfl,hb,lu,u1,ul,fun st H1 hst0 hst1 s1=>?_⟩
      have hc1:=s1 _ _ hc
      refine⟨_,rfl,_,rfl,1,rfl,c,_,rfl,SqL.of hc1,fun q hq=>?_⟩
      rw[kG]
      have s2:=Same.upd (o:=.lst (((0::r).drop 1).map V.int)) hq
      have hq2:=ae (H:=H1) (a:=q) (o:=.lst (((0::r).drop 1).map V.int))
      generalize L2.upd H1 q (.lst (((0::r).drop 1).map V.int))=H2 at s2 hq2 ⊢
      have sH2:=s1.trans s2
      refine⟨c,q,_,_,rfl,rfl,s2 _ _ hc1,hq2,fun D hD cb=>?_⟩
      have sl:=ic u
      refine mx (k:=2) (a:=c) (b:=q) (xs:=(0::r).map V.int) (ys:=((0::r).drop 1).map V.int) (fun i ys H3=>ys=((List.range i).map fun j=>decide ((((0::r)[j+1]?).getD 0-((0::r)[j]?).getD 0)∈(aB u).map fun(s:Nat)=>(s:Int))).map V.bl∧Same H2 H3∧H3 D=some (.lst ys)) (by rw[List.length_map];exact bx nl) ?_ ?_ ?_ ?_ ?_
      ·exact⟨rfl,Same.upd hD,ae⟩
      ·rintro i ys H3 ⟨rfl,_⟩;simp
      ·rintro i ys H3 _ ⟨_,s3,_⟩
       exact⟨s3 _ _ (s2 _ _ hc1),s3 _ _ hq2⟩
      ·rintro i x' y' p ys H3 hx' hy' hp ⟨rfl,s3,hD3⟩
       obtain⟨z1,hz1,rfl⟩:=fS hx'
       obtain⟨z2,hz2,rfl⟩:=fS hy'
       rw[List.getElem?_drop] at hz2
       have s4:=Same.upd (o:=.tup [V.int z1,.int z2]) hp
       refine⟨p,_,rfl,SqT.of ae,rfl,_,_,rfl,_,_,rfl,rfl,?_,?_⟩
       ·intro j hj
        match j,hj with
        | 0,_=>rfl
        | 1,_=>rfl
        | 2,_=>rfl
        | 3,_=>rfl
       ·refine fz ?_
        refine⟨_,rfl,_,rfl,_,_,rfl,rfl,_,rfl,st,_,rfl,.inl (SqL.of (s4 _ _ (s3 _ _ (s2 _ _ hst1)))),rfl,vf _,s4 _ _ hD3,?_,fun z o e=>?_,ae⟩
        ·rw[List.range_succ,List.map_append,List.map_append]
         congr 2
         show V.bl (cz (.int (z2-z1)) (au (aB u)))=_
         rw[show 1+i=i+1 by lia] at hz2
         rw[qj]
         show _=V.bl (decide (((0::r)[i+1]?).getD 0-((0::r)[i]?).getD 0∈_))
         rw[hz1,hz2]
         rfl
        ·rw[ao (aR e hD)]
         exact s4 _ _ (s3 _ _ e)
      ·rintro ys H3 ⟨rfl,s3,hD3⟩
       have em:min ((0::r).map V.int).length (((0::r).drop 1).map V.int).length=(0::r).length-1:=by
        rw[List.length_map,List.length_map,List.length_drop];lia
       rw[em] at hD3
       refine⟨D,_,rfl,hD3,?_⟩
       have:=k H3 (sH2.trans s3)
       have e:bG (aB u) (0::r) (n-(u.length:Int))=(((List.range ((0::r).length-1)).map fun j=>decide ((((0::r)[j+1]?).getD 0-((0::r)[j]?).getD 0)∈(aB u).map fun(s:Nat)=>(s:Int))).all id):=by
        unfold bG dO
        rw[decide_eq_true (show¬(0::r:List Int)=[] by simp),decide_eq_true (show(((0::r:List Int)[0]?).getD 1=0) from rfl),decide_eq_true hz,Bool.true_and,Bool.true_and,Bool.true_and,List.all_map,List.all_map]
        rfl
       rw[e] at this
       exact this
     ·rw[decide_eq_false (fun q=>hz (V.int.inj q))]
      refine aE ?_
      have:=k H (Same.refl _)
      have e:bG (aB u) (0::r) (n-(u.length:Int))=false:=by
       unfold bG
       rw[decide_eq_false hz]
       simp
      rw[e] at this
      exact this
    ·rw[decide_eq_false (fun q=>hx (V.int.inj q))]
     refine aE (aE ?_)
     have:=k H (Same.refl _)
     have e:bG (aB u) (x::r) (n-(u.length:Int))=false:=by
      unfold bG
      rw[decide_eq_false (show¬((x::r)[0]?).getD 1=0 from hx)]
      simp
     rw[e] at this
     exact this
theorem scLaidOut:FnScope ["word","chain","text","before","behind"] ["word","chain"] (aC i9):=fsc_
theorem uh(M:Md K mg)(B:Bl mg)(F:FF K "laid_out" i9):Fn P w K mg base ak "laid_out" 1 ["word","chain"] iS:=by
 refine ba M F scLaidOut (fun _ _ _ _ _ _=>ci fun _ _=>rfl) (fun vs H Q E h=>?_) (fun f cdv A outer s H vs Q E hr h=>?_)
 ·obtain⟨b,c,u,l,q,rfl,_⟩:=h;rfl
 ·obtain⟨b,c,u,l,q,rfl,hb,hc,u1,qu,C,k⟩:=h
  refine⟨_,(af (aw (i:=2) scLaidOut.nd rfl (.inl rfl) (gL B.list (pv 0)))
   (af (bO PassesOwn.never rfl (fG B.zip (pv 1) (bu bv (pv 1) (bt ad) bA)) (cH rfl (bn (aV (i:=3) scLaidOut.nd rfl (.inl rfl)) (bn (aV (i:=4) scLaidOut.nd rfl (.inl rfl)) cA)))
   (ah (bb (dc PySem.F.plainAttrs_list PySem.F.slot_list_extend PySem.F.type_list_extend vh (pv 2) (aa (bu bv (pv 0) (bt (aq bp (aL B.len (pv 0)) (aq bp (pv 4) (pv 3)))) bA) ac)))))
   (ah (aH (pv 2))))),?_⟩
  have hS:=cY u
  refine⟨_,rfl,b,_,rfl,SqL.of hb,fun x hx=>?_⟩
  have s1:=Same.upd (o:=.lst (u.map sg)) hx
  have hx1:=ae (H:=H) (a:=x) (o:=.lst (u.map sg))
  generalize L2.upd H x (.lst (u.map sg))=H1 at s1 hx1 ⊢
  have hc1:=s1 _ _ hc
  rw[nv] at hc1
  refine⟨_,rfl,_,rfl,1,rfl,c,_,rfl,SqL.of hc1,fun q1 hq1=>?_⟩
  rw[kG]
  have s2:=Same.upd (o:=.lst (((il l).drop 1).map V.int)) hq1
  have hq2:=ae (H:=H1) (a:=q1) (o:=.lst (((il l).drop 1).map V.int))
  have hx2:=s2 _ _ hx1
  have hc2:=s2 _ _ hc1
  have sH2:=s1.trans s2
  have nqx:q1≠x:=fun z=>by subst z;rw[hx1] at hq1;cases hq1
  generalize L2.upd H1 q1 (.lst (((il l).drop 1).map V.int))=H2 at s2 hq2 hx2 hc2 sH2 ⊢
  have ll:(il l).length=l.length:=by simp[il]
  refine⟨c,q1,_,_,rfl,rfl,hc2,hq2,oD (a:=c) (b:=q1) (xs:=(il l).map V.int) (ys:=((il l).drop 1).map V.int) (fun i σ H3=>Same H H3∧H3 q1=some (.lst (((il l).drop 1).map V.int))∧H3 x=some (.lst ((bP u l i).map sg))∧∃v3 v4,σ=[some (.ref b),some (.ref c),some (.ref x),v3,v4]) ?_ ?_ ?_ ?_⟩
  ·exact⟨sH2,hq2,hx2,_,_,rfl⟩
  ·rintro i σ H3 _ ⟨s3,h3,_⟩
   have:=s3 _ _ hc
   rw[nv] at this
   exact⟨this,h3⟩
  ·rintro i x' y' p σ H3 hx' hy' hp ⟨s3,hq3,hx3,v3,v4,rfl⟩
   obtain⟨z1,hz1,rfl⟩:=fS hx'
   obtain⟨z2,hz2,rfl⟩:=fS hy'
   rw[List.getElem?_drop,show 1+i=i+1 by lia] at hz2
   have hi2:i+1<l.length:=by have:=(List.getElem?_eq_some_iff.mp hz2).1;lia
   have e1:z1=(gd l i:Nat):=by
    rw[fM,List.getElem?_eq_getElem (show i<l.length by lia)] at hz1
    unfold gd;rw[List.getElem?_eq_getElem (show i<l.length by lia)]
    exact(Option.some.inj hz1).symm
   have e2:z2=(gd l (i+1):Nat):=by
    rw[fM,List.getElem?_eq_getElem hi2] at hz2
    unfold gd;rw[List.getElem?_eq_getElem hi2]
    exact(Option.some.inj hz2).symm
   obtain⟨s,hs,es⟩:=(Ch.at_ C i (by lia)).2 hi2
   obtain⟨sb1,sb2,_⟩:=hS s hs
   have s4:=Same.upd (o:=.tup [V.int z1,.int z2]) hp
   have hp4:=ae (H:=H3) (a:=p) (o:=.tup [V.int z1,.int z2])
   have hq4:=s4 _ _ hq3
   have hx4:=s4 _ _ hx3
   have s34:=s3.trans s4
   generalize L2.upd H3 p (.tup [V.int z1,.int z2])=H4 at s4 hp4 hq4 hx4 s34 ⊢
   refine⟨p,_,rfl,SqT.of hp4,rfl,_,_,rfl,_,_,rfl,rfl,?_⟩
   have hb4:=s34 _ _ hb
   refine⟨_,rfl,.inl ⟨rfl,_,SqL.of hx4⟩,_,rfl,_,rfl,b,_,rfl,SqL.of hb4,_,rfl,_,rfl,_,_,rfl,rfl,_,_,rfl,rfl,_,rfl,b,_,rfl,SqL.of hb4,fun q3 hq3'=>?_⟩
   have ec:bi (u.map sg) (some (((u.map sg).length:Nat)-(z2-z1))) none=(u.drop (u.length-(gd l (i+1)-gd l i))).map sg:=by
    rw[List.length_map,e1,e2,show((u.length:Int)-(((gd l (i+1):Nat):Int)-((gd l i:Nat):Int)))=((u.length-(gd l (i+1)-gd l i):Nat):Int) by lia,ix (by lia)];rfl
   have s5:=Same.upd (o:=.lst (bi (u.map sg) (some (((u.map sg).length:Nat)-(z2-z1))) none)) hq3'
   have hq5:(L2.upd H4 q3 (.lst (bi (u.map sg) (some (((u.map sg).length:Nat)-(z2-z1))) none))) q3=some (.lst ((u.drop (u.length-(gd l (i+1)-gd l i))).map sg)):=by rw[ae,ec]
   have hq5':=s5 _ _ hq4
   have hx5:=s5 _ _ hx4
   have s35:=s34.trans s5
   generalize L2.upd H4 q3 (.lst (bi (u.map sg) (some (((u.map sg).length:Nat)-(z2-z1))) none))=H5 at s5 hq5 hq5' hx5 s35 ⊢
   have l1:=(ir (t:=[]) hS C i (by lia)).1
   have l2:=(ir (t:=[]) hS C (i+1) hi2).1
   have gq:=(Ch.le_all C (gd l (i+1)) (by unfold gd;rw[List.getElem?_eq_getElem hi2];exact List.getElem_mem hi2)).2
   refine⟨x,q3,_,_,rfl,rfl,hx5,hq5,by rw[List.length_map,List.length_map,←List.length_append];show(bP u l (i+1)).length≤_;rw[l2];exact sz (by lia),?_⟩
   refine⟨fun z o e=>by rw[ao (aR e hx)];exact s35 _ _ e,by rw[ao nqx];exact hq5',?_,_,_,rfl⟩
   rw[ae,←List.map_append]
   rfl
  ·rintro σ H3 ⟨s3,hq3,hx3,v3,v4,rfl⟩
   have em:min ((il l).map V.int).length (((il l).drop 1).map V.int).length=l.length-1:=by
    simp[il]
   rw[em] at hx3
   exact⟨_,rfl,k x H3 hx hx3 s3⟩
end
theorem nk{u S:List Nat}(hS:dP u S):∀(ns:List Int) (p:Nat),(∀d∈dO ((p:Int)::ns),d∈S.map fun(s:Nat)=>(s:Int))→∃(l:List Nat) (q:Nat),(p:Int)::ns=il l∧Ch S p q l∧((((p:Int)::ns)[ns.length]?).getD 0)=(q:Int)
 | [],p,_=>⟨[p],p,rfl,Ch.one p,rfl⟩
 | z::ns,p,h=>by
   have h0:z-(p:Int)∈S.map fun(s:Nat)=>(s:Int):=h _ (by
    unfold dO
    rw[List.mem_map]
    exact⟨0,by simp,rfl⟩)
   obtain⟨s,hs,es⟩:=List.mem_map.mp h0
   have es':z=((p+s:Nat):Int):=by
    have:(s:Int)=z-(p:Int):=es
    lia
   subst es'
   obtain⟨l,q,e1,e2,e3⟩:=nk hS ns (p+s) (fun d hd=>h d (by
    unfold dO at hd ⊢
    rw[List.mem_map] at hd ⊢
    obtain⟨i,hi,rfl⟩:=hd
    rw[List.mem_range] at hi
    exact⟨i+1,by rw[List.mem_range];simp at hi ⊢;lia,rfl⟩))
   refine⟨p::l,q,by show(p:Int)::_=(p:Int)::il l;rw[e1],Ch.cons hs e2,?_⟩
   rw[←e3]
   rfl
theorem oU{u S:List Nat}(hS:dP u S){ns:List Int}{q:Nat}(h:bG S ns (q:Int)=true):∃l,ns=il l∧Ch S 0 q l:=by
 unfold bG at h
 simp only[Bool.and_eq_true,decide_eq_true_eq,List.all_eq_true] at h
 obtain⟨h1,h2,h3,h4⟩:=h
 cases ns with
 | nil=>exact absurd rfl h1
 | cons z ns=>
   have ez:z=((0:Nat):Int):=h2
   subst ez
   obtain⟨l,q',e1,e2,e3⟩:=nk hS ns 0 h4
   refine⟨l,e1,?_⟩
   have:(q':Int)=(q:Int):=by
    rw[←e3,←h3]
    rfl
   have:q'=q:=by lia
   subst this
   exact e2
def j8(cC:Addr):Sp:=fun vs H Q E=>∃(a b c:Addr) (t u:List Nat) (ns:List Int),vs=[.ref a,.ref b,.ref c]∧H a=some (.lst (t.map sg))∧H b=some (.lst (u.map sg))∧H c=some (.lst (ns.map V.int))∧Low t∧Low u∧1≤u.length∧u.length≤t.length∧t.length≤900∧ns.length≤1000∧
 (bG (aB u) ns ((t.length-u.length:Nat):Int)=false→∀H',Same H H'→E (.ref cC) none H')∧(∀l,ns=il l→Ch (aB u) 0 (t.length-u.length) l→∀H',Same H H'→Q (.int (ay t u l:Nat)) H')
section
variable{P:Program}{w:World}{K:PySem.W.Frag}{mg:Str→Option Value}{base:Heap}{cNoChain:Addr}
theorem l8:FnScope ["text","word","chain"] ["text","word","chain"] (aC gJ):=fsc_
theorem oX(M:Md K mg)(B:Bl mg)(F:FF K "chain_cost" gJ)(ONoChain:Exc K mg "NoChain" cNoChain)(Fcheck_fits:Fn P w K mg base (aS P w) "check_fits" 4 ["text","word"] i7)(Fis_chain:Fn P w K mg base ak "is_chain" 6 ["word","chain","length"] iK)(Flaid_out:Fn P w K mg base ak "laid_out" 1 ["word","chain"] iS):Fn P w K mg base (aS P w) "chain_cost" 7 ["text","word","chain"] (j8 cNoChain):=by
 refine cG M F l8 (fun _ _ _ _ _ _=>df fun _ _ _=>rfl) (fun vs H Q E h=>?_) (fun f cdv A outer s H vs Q E hr h=>?_)
 ·obtain⟨a,b,c,t,u,ns,rfl,_⟩:=h;rfl
 ·obtain⟨a,b,c,t,u,ns,rfl,ha,hb,hc,lt,lu,u1,ut,tl,nl,k1,k2⟩:=h
  refine⟨_,(af (bb (ai Fcheck_fits hr cJ (aa (pv 0) (aa (pv 1) ac))))
   (af (aM (dv (bZ (ai Fis_chain hr aj (aa (pv 1) (aa (pv 2) (aa (aL B.len (pv 0)) ac)))))) (ah (di ONoChain bB)) aP)
   (ah (aH (oB rfl B.sum (iV ["sign","due"] ["text","word","chain"] rfl (fG B.zip (pv 0) (ai Flaid_out hr aj (aa (pv 1) (aa (pv 2) ac)))) (fun _=>by exact(cH rfl (bn (aV (i:=3) (show((["text","word","chain"]:List Str)++(["sign","due"]:List Str)).Nodup by decide+kernel) rfl (.inl rfl)) (bn (aV (i:=4) (show((["text","word","chain"]:List Str)++(["sign","due"]:List Str)).Nodup by decide+kernel) rfl (.inl rfl)) cA)))) (fun _=>by exact(dE (aD eE (pv 3) (pv 4) (aF _)))) (fun _=>by exact ad))))))),?_⟩
  have hS:=cY u
  refine⟨_,rfl,_,rfl,a,b,t,u,rfl,ha,hb,lt,lu,u1,ut,?_⟩
  refine⟨_,rfl,_,rfl,_,rfl,a,_,rfl,SqL.of ha,b,c,u,ns,_,rfl,hb,hc,lu,u1,by lia,nl,fun H1 s1=>?_⟩
  rw[List.length_map,show((t.length:Int)-(u.length:Int))=((t.length-u.length:Nat):Int) by lia]
  cases hcb:bG (aB u) ns ((t.length-u.length:Nat):Int) with
  | false=>exact⟨false,rfl,aE ⟨rfl,k1 hcb H1 s1⟩⟩
  | true=>
  refine⟨true,rfl,ar ?_⟩
  obtain⟨l,rfl,C⟩:=oU hS hcb
  have k:=k2 l rfl C
  have ll:=Ch.len_le hS C
  refine⟨_,rfl,_,rfl,_,rfl,b,c,u,l,t.length-u.length,rfl,s1 _ _ hb,s1 _ _ hc,u1,by lia,C,fun r H2 hr0 hr2 s2=>?_⟩
  have s12:=s1.trans s2
  obtain⟨X,hX⟩:∃X,X=bP u l (l.length-1):=⟨_,rfl⟩
  rw[←hX] at hr2
  have hne:1≤l.length:=by obtain⟨r',e⟩:=C.head;rw[e,List.length_cons];lia
  obtain⟨xl,xc⟩:=ir (t:=t) hS C (l.length-1) (by lia)
  rw[←hX] at xl xc
  have eg:gd l (l.length-1)=t.length-u.length:=by
   obtain⟨r',e⟩:=C.last
   unfold gd
   rw[e,List.length_append,List.length_singleton,show r'.length+1-1=r'.length by lia,List.getElem?_append_right (Nat.le_refl _),Nat.sub_self];rfl
  rw[eg,show t.length-u.length+u.length=t.length by lia] at xl xc
  rw[show l.length-1+1=l.length by lia,List.take_length] at xc
  refine⟨a,r,_,_,rfl,rfl,s12 _ _ ha,hr2,fun D hD cb=>?_⟩
  refine mx (k:=2) (a:=a) (b:=r) (xs:=t.map sg) (ys:=X.map sg) (fun i ys H3=>ys=(List.replicate (aI t X 0 i) (1:Int)).map V.int∧Same H2 H3∧H3 D=some (.lst ys)) (by rw[List.length_map];exact bx (by lia)) ?_ ?_ ?_ ?_ ?_
  ·exact⟨rfl,Same.upd hD,ae⟩
  ·rintro i ys H3 ⟨rfl,_⟩
   rw[List.length_map,List.length_replicate];exact m8 _ _ _ _
  ·rintro i ys H3 _ ⟨_,s3,_⟩
   exact⟨s3 _ _ (s12 _ _ ha),s3 _ _ hr2⟩
  ·rintro i x' y' p ys H3 hx' hy' hp ⟨rfl,s3,hD3⟩
   obtain⟨d1,hd1,rfl⟩:=hZ hx'
   obtain⟨d2,hd2,rfl⟩:=hZ hy'
   have s4:=Same.upd (o:=.tup [sg d1,sg d2]) hp
   refine⟨p,_,rfl,SqT.of ae,rfl,_,_,rfl,_,_,rfl,rfl,?_,?_⟩
   ·intro j hj
    match j,hj with
    | 0,_=>rfl
    | 1,_=>rfl
    | 2,_=>rfl
   ·refine⟨_,rfl,_,rfl,rfl,_,rfl,?_⟩
    rw[nP]
    have em:aI t X 0 (i+1)=aI t X 0 i+(if d1=d2 then 0 else 1):=by
     simp only[aI]
     rw[Nat.zero_add,hd1,hd2]
     congr 1
     by_cases h:d1=d2
     ·rw[if_pos h,if_pos (by rw[h])]
     ·rw[if_neg h,if_neg (fun z=>h (Option.some.inj z))]
    by_cases h:d1=d2
    ·rw[decide_eq_true h]
     refine ar ⟨?_,s3.trans s4,s4 _ _ hD3⟩
     rw[em,if_pos h,Nat.add_zero]
    ·rw[decide_eq_false h]
     refine aE ⟨s4 _ _ hD3,?_,fun z o e=>by rw[ao (aR e hD)];exact s4 _ _ (s3 _ _ e),ae⟩
     rw[em,if_neg h,List.replicate_succ',List.map_append];rfl
  ·rintro ys H3 ⟨rfl,s3,hD3⟩
   have em:min (t.map sg).length (X.map sg).length=t.length:=by rw[List.length_map,List.length_map,xl];lia
   rw[em] at hD3
   refine⟨D,_,rfl,hD3,?_⟩
   rw[rG,xc]
   exact k H3 (s12.trans s3)
end
def wq(t u:List Nat)(p j:Nat):List Nat:=(List.range j).filter fun q=>!decide (t[p+q]?=u[q]?)
abbrev aU(t:List Nat)(m p:Nat):List Nat:=(t.drop p).take m
def aT(t:List Nat)(m:Nat):Nat→List (List Nat)
 | 0=>[]
 | j+1=>if aU t m j∈aT t m j then aT t m j else aT t m j++[aU t m j]
def bC(t:List Nat)(m j:Nat)(u:List Nat):List Nat:=(List.range j).filter fun p=>decide (aU t m p=u)
theorem mem_us{t:List Nat}{m:Nat}{u:List Nat}:∀{j:Nat},u∈aT t m j↔∃p,p<j∧aU t m p=u
 | 0=>by simp[aT]
 | j+1=>by
   simp only[aT]
   split
   ·rename_i h
    rw[mem_us (j:=j)]
    constructor
    ·rintro⟨p,h1,h2⟩;exact⟨p,by lia,h2⟩
    ·rintro⟨p,h1,h2⟩
     by_cases e:p=j
     ·subst e;rw[h2] at h;exact mem_us.mp h
     ·exact⟨p,by lia,h2⟩
   ·rw[List.mem_append,mem_us (j:=j),List.mem_singleton]
    constructor
    ·rintro(⟨p,h1,h2⟩ | h)
     ·exact⟨p,by lia,h2⟩
     ·exact⟨j,by lia,h.symm⟩
    ·rintro⟨p,h1,h2⟩
     by_cases e:p=j
     ·subst e;exact .inr h2.symm
     ·exact .inl ⟨p,by lia,h2⟩
theorem jc{t:List Nat}{m:Nat}:∀{j:Nat},(aT t m j).Nodup
 | 0=>by simp[aT]
 | j+1=>by
   simp only[aT]
   split
   ·exact jc
   ·rename_i h
    rw[List.nodup_append]
    refine⟨jc,by simp,fun x hx y hy e=>?_⟩
    rw[List.mem_singleton.mp hy] at e
    exact h (e▸hx)
theorem mz{t:List Nat}{m:Nat}:∀j:Nat,(aT t m j).length≤j
 | 0=>Nat.le_refl _
 | j+1=>by
   have:=mz (t:=t) (m:=m) j
   simp only[aT]
   split
   ·lia
   ·rw[List.length_append,List.length_singleton];lia
theorem fq(t:List Nat)(m j:Nat)(u:List Nat):bC t m (j+1) u=bC t m j u++(if aU t m j=u then [j] else []):=by
 unfold bC
 rw[List.range_succ,List.filter_append]
 congr 1
 by_cases h:aU t m j=u <;> simp[h]
theorem kK{t:List Nat}{m j:Nat}{u:List Nat}(h:u∉aT t m j):bC t m j u=[]:=by
 unfold bC
 rw[List.filter_eq_nil_iff]
 intro p hp
 have hp':p<j:=by simpa using hp
 simp only[decide_eq_true_eq]
 intro e
 exact h (mem_us.mpr ⟨p,hp',e⟩)
theorem tL{t u:List Nat}{m j:Nat}(hj:j≤t.length+1-m)(h:u∈aT t m j)(m1:1≤m):u.length=m:=by
 obtain⟨p,hp,rfl⟩:=mem_us.mp h
 rw[List.length_take,List.length_drop];lia
theorem ls{t:List Nat}{m j n:Nat}(h:aU t m j∉aT t m j):∀k,j<k→(bC t m k (aU t m j)).head?=some j
 | 0,z=>by lia
 | k+1,z=>by
   rw[fq]
   by_cases e:k=j
   ·subst e;rw[kK h,if_pos rfl];rfl
   ·have:=ls (n:=n) h k (by lia)
    cases q:bC t m k (aU t m j) with
    | nil=>rw[q] at this;cases this
    | cons x r=>rw[q] at this;simpa using this
def cP(u:List Nat):List ap:=u.map fun c=>Sum.inr (aA c)
theorem im(u:List Nat):(cP u).map kV=u.map sg:=by
 unfold cP
 rw[List.map_map]
 rfl
theorem sF{u v:List Nat}(h:cP u=cP v):u=v:=by
 have:=congrArg (List.map kV) h
 rw[im,im] at this
 clear h
 induction u generalizing v with
 | nil=>cases v with
   | nil=>rfl
   | cons _ _=>cases this
 | cons a r ih=>cases v with
   | nil=>cases this
   | cons b q=>
     rw[List.map_cons,List.map_cons] at this
     obtain⟨h1,h2⟩:=List.cons.inj this
     rw[sg_inj.mp h1,ih h2]
def bF(es:List (List Nat×Addr)):List (List ap×V):=es.map fun e=>(cP e.1,V.ref e.2)
theorem jB(q:List Nat):∀es:List (List Nat×Addr),aY (bF es) (cP q)=(es.find? fun e=>decide (e.1=q)).map fun e=>V.ref e.2
 | []=>rfl
 | e::r=>by
   unfold bF
   rw[List.map_cons]
   by_cases h:e.1=q
   ·rw[bY (by rw[h]),List.find?_cons_of_pos (by simpa using h)];rfl
   ·rw[b0 (fun z=>h (sF z)),List.find?_cons_of_neg (by simpa using h)]
    exact jB q r
theorem jg{α β:Type}{f:α→β}:∀{l:List α} {x y:α},(l.map f).Nodup→x∈l→y∈l→f x=f y→x=y
 | [],_,_,_,h,_,_=>by cases h
 | z::l,x,y,hn,hx,hy,e=>by
   rw[List.map_cons,List.nodup_cons] at hn
   rcases List.mem_cons.mp hx with rfl | hx'
   ·rcases List.mem_cons.mp hy with rfl | hy'
    ·rfl
    ·exact absurd (List.mem_map.mpr ⟨y,hy',e.symm⟩) hn.1
   ·rcases List.mem_cons.mp hy with rfl | hy'
    ·exact absurd (List.mem_map.mpr ⟨x,hx',e⟩) hn.1
    ·exact jg hn.2 hx' hy' e
structure Pieces(t:List Nat)(m j:Nat)(H0 H:Hp)(es:List (List Nat×Addr)):Prop where
 us:es.map (·.1)=aT t m j
 nd:(es.map (·.2)).Nodup
 at_:∀e∈es,H0 e.2=none∧H e.2=some (.lst (au (bC t m j e.1)))
theorem Pieces.old{t:List Nat}{m j:Nat}{H0 H:Hp}{es:List (List Nat×Addr)}(h:Pieces t m j H0 H es){e:List Nat×Addr}(he:e∈es)(hq:e.1=aU t m j){z:Int}(hz:z=(j:Int)):Pieces t m (j+1) H0 (L2.upd H e.2 (.lst (au (bC t m j e.1)++[V.int z]))) es:=by
 subst hz
 have hin:aU t m j∈aT t m j:=by rw[←h.us];exact List.mem_map.mpr ⟨e,he,hq⟩
 have nu:(es.map (·.1)).Nodup:=by rw[h.us];exact jc
 refine⟨by rw[h.us];simp only[aT];rw[if_pos hin],h.nd,fun f hf=>⟨(h.at_ f hf).1,?_⟩⟩
 by_cases e2:f.2=e.2
 ·have:f=e:=jg h.nd hf he e2
  subst this
  rw[ae,fq,if_pos hq.symm,cZ]
 ·rw[ao e2,(h.at_ f hf).2,fq,if_neg,List.append_nil]
  intro z
  exact e2 (congrArg Prod.snd (jg nu hf he (z.symm.trans hq.symm)))
theorem Pieces.new{t:List Nat}{m j:Nat}{H0 H H':Hp}{es:List (List Nat×Addr)}{l:Addr}(h:Pieces t m j H0 H es)(hn:aU t m j∉aT t m j)(h0:H0 l=none){z:Int}(hz:z=(j:Int))(hl:H' l=some (.lst [V.int z]))(hk:∀e∈es,e.2≠l∧H' e.2=H e.2):Pieces t m (j+1) H0 H' (es++[(aU t m j,l)]):=by
 subst hz
 refine⟨?_,?_,fun f hf=>?_⟩
 ·rw[List.map_append,h.us];simp only[aT];rw[if_neg hn];rfl
 ·rw[List.map_append,List.nodup_append]
  refine⟨h.nd,by simp,fun x hx y hy e=>?_⟩
  obtain⟨f,hf,rfl⟩:=List.mem_map.mp hx
  have hy':y=l:=by simpa using hy
  exact(hk f hf).1 (e.trans hy')
 ·rcases List.mem_append.mp hf with hf1 | hf1
  ·have hne:f.1≠aU t m j:=fun z=>hn (by rw[←h.us,←z];exact List.mem_map.mpr ⟨f,hf1,rfl⟩)
   refine⟨(h.at_ f hf1).1,?_⟩
   rw[(hk f hf1).2,(h.at_ f hf1).2,fq,if_neg (fun z=>hne z.symm),List.append_nil]
  ·rw[List.mem_singleton.mp hf1]
   refine⟨h0,?_⟩
   rw[hl,fq,kK hn,if_pos rfl];rfl
theorem Pieces.mono{t:List Nat}{m j:Nat}{H0 H H':Hp}{es:List (List Nat×Addr)}(h:Pieces t m j H0 H es)(s:Same H H'):Pieces t m j H0 H' es:=⟨h.us,h.nd,fun e he=>⟨(h.at_ e he).1,s _ _ (h.at_ e he).2⟩⟩
theorem Pieces.len{t:List Nat}{m j:Nat}{H0 H:Hp}{es:List (List Nat×Addr)}(h:Pieces t m j H0 H es):es.length≤j:=by
 have:=mz (t:=t) (m:=m) j
 rw[←h.us,List.length_map] at this
 exact this
theorem sZ{q:List Nat}{es:List (List Nat×Addr)}(h:(es.find? fun e=>decide (e.1=q))=none):q∉es.map (·.1):=by
 intro hm
 obtain⟨e,he,z⟩:=List.mem_map.mp hm
 have:=List.find?_eq_none.mp h e he
 simp[z] at this
theorem sJ{q:List Nat}{es:List (List Nat×Addr)}{e:List Nat×Addr}(h:(es.find? fun e=>decide (e.1=q))=some e):e∈es∧e.1=q:=
 ⟨List.mem_of_find?_eq_some h,by simpa using List.find?_some h⟩
abbrev i6:Stmt:=aW 20
def iZ:Sp:=fun vs H Q _=>∃(a:Addr) (t:List Nat) (m:Nat),vs=[.ref a,.int (m:Int)]∧H a=some (.lst (t.map sg))∧1≤m∧m≤t.length∧t.length≤900∧
 ∀(w:Addr) (es:List (List Nat×Addr)) (H':Hp),H w=none→H' w=some (.dT (bF es))→Pieces t m (t.length+1-m) H H' es→Same H H'→Q (.ref w) H'
section
variable{P:Program}{w:World}{K:PySem.W.Frag}{mg:Str→Option Value}{base:Heap}
theorem scPieces:FnScope ["text","many","places","place","piece"] ["text","many"] (aC i6):=fsc_
theorem ug(M:Md K mg)(B:Bl mg)(F:FF K "piece_places" i6):Fn P w K mg base ak "piece_places" 1 ["text","many"] iZ:=by
 refine ba M F scPieces (fun _ _ _ _ _ _=>ci fun _ _=>rfl) (fun vs H Q E h=>?_) (fun f cdv A outer s H vs Q E hr h=>?_)
 ·obtain⟨a,t,m,rfl,_⟩:=h;rfl
 ·obtain⟨a,t,m,rfl,ha,m1,mt,tl,k⟩:=h
  refine⟨_,(af (aw (i:=2) scPieces.nd rfl (.inl rfl) o5)
   (af (bO PassesOwn.never rfl (dX (by rfl) B.range (aa (aq bj (aq bp (aL B.len (pv 0)) (pv 1)) ad) ac)) (aV (i:=3) scPieces.nd rfl (.inl rfl))
   (af (aw (i:=4) scPieces.nd rfl (.inl rfl) (pD B.tuple (bu bv (pv 0) (bt (pv 3)) (bt (aq bj (pv 3) (pv 1))))))
   (ah (bb (dc PySem.F.plainAttrs_list PySem.F.slot_list_append PySem.F.type_list_append d3 (rp (by exact bX hr) (pv 2) (pv 4) (aN ac) ⟨rfl,rfl,rfl,rfl⟩) (aa (pv 3) ac))))))
   (ah (aH (pv 2))))),?_⟩
  intro w hw
  have s1:=Same.upd (o:=.dT []) hw
  refine⟨_,rfl,a,_,rfl,SqL.of (s1 _ _ ha),_,rfl,_,_,rfl,rfl,_,_,rfl,rfl,_,rfl,by rw[List.length_map];lia,by rw[List.length_map];lia,?_⟩
  rw[List.length_map,show((t.length:Int)-(m:Int)+1).toNat=t.length+1-m by lia]
  refine gu (lo:=0) (n:=t.length+1-m) (fun j σ H2=>Same H H2∧∃es v3 v4,H2 w=some (.dT (bF es))∧Pieces t m j H H2 es∧σ=[some (.ref a),some (.int (m:Int)),some (.ref w),v3,v4]) ?_ ?_ ?_
  ·exact⟨s1,[],none,none,ae,⟨rfl,by simp,fun e he=>by cases he⟩,rfl⟩
  ·rintro j σ H2 hj ⟨sH,es,v3,v4,hw2,pc,rfl⟩
   have ha2:=sH _ _ ha
   refine⟨_,rfl,_,rfl,_,rfl,_,rfl,_,rfl,_,_,rfl,rfl,_,rfl,a,_,rfl,SqL.of ha2,fun p1 hp1=>?_⟩
   have e1:bi (t.map sg) (some (0+(j:Int))) (some (0+(j:Int)+(m:Int)))=(aU t m j).map sg:=by
    rw[cq,cy,qF _ _ _ (by lia) (by lia),show(0+(j:Int)).toNat=j by lia,show(0+(j:Int)+(m:Int)).toNat-j=m by lia]
   rw[e1]
   have s3:=Same.upd (o:=.lst ((aU t m j).map sg)) hp1
   refine⟨p1,_,rfl,SqL.of ae,fun c hc=>?_⟩
   have s4:=Same.upd (o:=.tup ((aU t m j).map sg)) hc
   refine⟨_,rfl,w,rfl,.inr ⟨_,.inl (s4 _ _ (s3 _ _ hw2))⟩,_,rfl,Nat.zero_le _,fun l hl=>?_⟩
   have s5:=Same.upd (o:=.lst []) hl
   have s25:=(s3.trans s4).trans s5
   have hw5:=s25 _ _ hw2
   have hc5:=s5 _ _ (ae (H:=L2.upd H2 p1 (.lst ((aU t m j).map sg))) (a:=c) (o:=.tup ((aU t m j).map sg)))
   have hl5:=ae (H:=L2.upd (L2.upd H2 p1 (.lst ((aU t m j).map sg))) c (.tup ((aU t m j).map sg))) (a:=l) (o:=.lst [])
   have ln:H2 l=none:=(s3.trans s4).free hl
   have pc5:=pc.mono s25
   generalize L2.upd (L2.upd (L2.upd H2 p1 (.lst ((aU t m j).map sg))) c (.tup ((aU t m j).map sg))) l (.lst [])=H5 at s25 hw5 hc5 hl5 pc5 ⊢
   have len:=pc.len
   have sH5:=sH.trans s25
   refine⟨c,bF es,cP (aU t m j),rfl,hw5,by rw[im];exact hc5,by unfold bF;rw[List.length_map];exact bx (by lia),fun v hv=>?_,fun hv=>?_⟩
   ·rw[jB] at hv
    cases q:es.find? fun e=>decide (e.1=aU t m j) with
    | none=>rw[q] at hv;cases hv
    | some e=>
      rw[q] at hv
      obtain⟨he,eq⟩:=sJ q
      have:V.ref e.2=v:=Option.some.inj hv
      subst this
      have h5:=(pc5.at_ e he).2
      have pl:(bC t m j e.1).length≤j:=jU _
      refine⟨.inl ⟨rfl,_,SqL.of h5⟩,_,rfl,e.2,_,_,rfl,rfl,h5,by rw[bq];exact bx (by lia),?_⟩
      refine⟨fun b o z=>by rw[ao (aR z (pc.at_ e he).1)];exact sH5 _ _ z,es,_,_,?_,pc5.old he eq (by lia),rfl⟩
      rw[ao (bK hw5 h5 (fun z=>nomatch z))]
      exact hw5
   ·rw[jB] at hv
    have q:(es.find? fun e=>decide (e.1=aU t m j))=none:=by
     cases q:es.find? fun e=>decide (e.1=aU t m j) with
     | none=>rfl
     | some e=>rw[q] at hv;cases hv
    have hn:aU t m j∉aT t m j:=by rw[←pc.us];exact sZ q
    have nlw:l≠w:=(bK hw5 hl5 (fun z=>nomatch z)).symm
    have hl6:(L2.upd H5 w (.dT (bF es++[(cP (aU t m j),V.ref l)]))) l=some (.lst []):=by rw[ao nlw];exact hl5
    have l0:H l=none:=sH.free ln
    refine⟨.inl ⟨rfl,_,SqL.of hl6⟩,_,rfl,l,_,_,rfl,rfl,hl6,by decide,?_⟩
    refine⟨fun b o z=>?_,es++[(aU t m j,l)],_,_,?_,pc5.new hn l0 (show(0+(j:Int))=(j:Int) by lia) ae fun e he=>?_,rfl⟩
    ·rw[ao (aR z l0),ao (aR z hw)]
     exact sH5 _ _ z
    ·rw[ao (Ne.symm nlw),ae]
     unfold bF
     rw[List.map_append];rfl
    ·have h2:=(pc.at_ e he).2
     have nel:e.2≠l:=aR h2 ln
     refine⟨nel,?_⟩
     rw[ao nel,ao (bK h2 hw2 (fun z=>nomatch z))]
  ·rintro σ H2 ⟨sH,es,v3,v4,hw2,pc,rfl⟩
   exact⟨_,rfl,k w es H2 hw hw2 pc sH⟩
end
def lZ(t u:List Nat)(c:Nat):Prop:=∃l,Ch (aB u) 0 (t.length-u.length) l∧c=ay t u l∧∀l',Ch (aB u) 0 (t.length-u.length) l'→c≤ay t u l'
open Classical in
noncomputable def wc (t u:List Nat):Option Nat:=if h:∃c,lZ t u c then some (Classical.choose h) else none
theorem wn{t u l:List Nat}{w:Bool}(h:Least (aB u) t u w 0 (t.length-u.length) l):wc t u=some (ay t u l):=by
 have ex:∃c,lZ t u c:=⟨_,l,h.1,rfl,fun l' h'=>mT (h.2 l' h')⟩
 unfold wc
 rw[dif_pos ex]
 obtain⟨l2,c1,c2,c3⟩:=Classical.choose_spec ex
 congr 1
 exact Nat.le_antisymm (c3 l h.1) (by rw[c2];exact mT (h.2 l2 c1))
theorem u4{t u:List Nat}(h:∀l,¬Ch (aB u) 0 (t.length-u.length) l):wc t u=none:=by
 unfold wc
 rw[dif_neg]
 rintro⟨c,l,hl,_⟩
 exact h l hl
def br(acc:Option (Nat×Nat))(o:Option Nat)(p:Nat):Option (Nat×Nat):=match o with
 | none=>acc
 | some c=>match acc with
   | none=>some (c,p)
   | some a=>if c<a.1 then some (c,p) else some a
noncomputable def nr (t:List Nat) (m:Nat):Nat→Option (Nat×Nat)
 | 0=>none
 | j+1=>br (nr t m j) (wc t (aU t m j)) j
def eY(t:List Nat)(m:Nat)(u:List Nat):Nat:=((bC t m (t.length+1-m) u).head?).getD 0
noncomputable def nu (t:List Nat) (m:Nat) (us:List (List Nat)):Option (Nat×Nat):=us.foldl (fun acc u=>br acc (wc t u) (eY t m u)) none
theorem ku(t:List Nat)(m:Nat)(us:List (List Nat))(u:List Nat):nu t m (us++[u])=br (nu t m us) (wc t u) (eY t m u):=by unfold nu;rw[List.foldl_append];rfl
theorem mF(acc:Option (Nat×Nat))(c p:Nat):∃b,br acc (some c) p=some b∧b.1≤c∧∀a,acc=some a→b.1≤a.1:=by
 cases acc with
 | none=>exact⟨(c,p),rfl,Nat.le_refl _,fun a h=>by cases h⟩
 | some a=>
   by_cases h:c<a.1
   ·refine⟨(c,p),by simp only[br];rw[if_pos h],Nat.le_refl _,fun b e=>by cases e;exact Nat.le_of_lt h⟩
   ·refine⟨a,by simp only[br];rw[if_neg h],by lia,fun b e=>by cases e;exact Nat.le_refl _⟩
theorem tU{acc:Option (Nat×Nat)}{a:Nat×Nat}(h:acc=some a)(o:Option Nat)(p:Nat):∃b,br acc o p=some b∧b.1≤a.1:=by
 cases o with
 | none=>exact⟨a,h,Nat.le_refl _⟩
 | some c=>
   obtain⟨b,h1,_,h3⟩:=mF acc c p
   exact⟨b,h1,h3 a h⟩
theorem mo{t:List Nat}{m:Nat}{u:List Nat}{c:Nat}(hc:wc t u=some c):∀{j:Nat},u∈aT t m j→∃a,nr t m j=some a∧a.1≤c
 | 0,h=>by simp[aT] at h
 | j+1,h=>by
   simp only[nr]
   have old:u∈aT t m j→∃a,br (nr t m j) (wc t (aU t m j)) j=some a∧a.1≤c:=fun h'=>by
    obtain⟨a,h1,h2⟩:=mo hc h'
    obtain⟨b,h3,h4⟩:=tU h1 (wc t (aU t m j)) j
    exact⟨b,h3,by lia⟩
   simp only[aT] at h
   split at h
   ·exact old h
   ·rcases List.mem_append.mp h with h | h
    ·exact old h
    ·rw[←List.mem_singleton.mp h,hc]
     obtain⟨b,h1,h2,_⟩:=mF (nr t m j) c j
     exact⟨b,h1,h2⟩
theorem m5{t:List Nat}{m:Nat}:∀{j:Nat},j≤t.length+1-m→nu t m (aT t m j)=nr t m j
 | 0,_=>rfl
 | j+1,h=>by
   have ih:=m5 (t:=t) (m:=m) (j:=j) (by lia)
   simp only[aT,nr]
   by_cases hin:aU t m j∈aT t m j
   ·rw[if_pos hin,ih]
    cases hw:wc t (aU t m j) with
    | none=>rfl
    | some c=>
      obtain⟨a,h1,h2⟩:=mo hw hin
      rw[h1]
      simp only[br]
      rw[if_neg (by lia)]
   ·rw[if_neg hin,ku,ih]
    have:eY t m (aU t m j)=j:=by
     unfold eY
     rw[ls (n:=0) hin _ (by lia)];rfl
    rw[this]
def OptP(H:Hp)(v:V)(o:Option (Nat×Nat)):Prop:=match o with
 | none=>v=.non
 | some a=>∃g,v=.ref g∧H g=some (.tup [.int (a.1:Nat),.int (a.2:Nat)])
theorem OptP.same{H H':Hp}{v:V}{o:Option (Nat×Nat)}(h:OptP H v o)(s:Same H H'):OptP H' v o:=by
 cases o with
 | none=>exact h
 | some a=>
   obtain⟨g,h1,h2⟩:=h
   exact⟨g,h1,s _ _ h2⟩
abbrev fU:Stmt:=aW 16
def lK:Sp:=fun vs H Q _=>∃a lo hi:Int,vs=[.int a,.int lo,.int hi]∧lo≤a∧a≤hi∧Q .non H
section
variable{P:Program}{w:World}{K:PySem.W.Frag}{mg:Str→Option Value}{base:Heap}
theorem oq:FnScope ["number","least","most"] ["number","least","most"] (aC fU):=fsc_
theorem rW(M:Md K mg)(B:Bl mg)(F:FF K "check_within" fU):Fn P w K mg base ak "check_within" 1 ["number","least","most"] lK:=by
 refine ba M F oq (fun _ _ _ _ _ _=>df fun _ _ _=>rfl) (fun vs H Q E h=>?_) (fun f cdv A outer s H vs Q E hr h=>?_)
 ·obtain⟨a,lo,hi,rfl,_⟩:=h;rfl
 ·obtain⟨a,lo,hi,rfl,h1,h2,k⟩:=h
  refine⟨_,(ah (aM (dv (lc cu cu (pv 1) (pv 0) (pv 2))) (ah gy) aP)),?_⟩
  refine⟨_,rfl,_,rfl,_,_,rfl,rfl,_,rfl,?_⟩
  rw[decide_eq_true h1]
  refine aE ⟨_,rfl,_,_,rfl,rfl,_,rfl,?_⟩
  rw[decide_eq_true h2]
  exact ar k
end
abbrev gE:Stmt:=aW 29
def m6:Sp:=fun vs H Q _=>∃(a:Addr) (t:List Nat) (m:Nat),vs=[.ref a,.int (m:Int)]∧H a=some (.lst (t.map sg))∧Low t∧1≤m∧m≤t.length∧t.length≤900∧
 ∀(v:V) (H':Hp),OptP H' v (nr t m (t.length+1-m))→Same H H'→Q v H'
theorem qN{es:List (List Nat×Addr)}{i:Nat}{k:List ap}{x:V}(h:(bF es)[i]?=some (k,x)):∃e,es[i]?=some e∧x=V.ref e.2∧k=cP e.1:=by
 unfold bF at h
 rw[List.getElem?_map] at h
 cases q:es[i]? with
 | none=>rw[q] at h;cases h
 | some e=>
   rw[q] at h
   exact⟨e,rfl,(congrArg Prod.snd (Option.some.inj h)).symm,(congrArg Prod.fst (Option.some.inj h)).symm⟩
section
variable{P:Program}{w:World}{K:PySem.W.Frag}{mg:Str→Option Value}{base:Heap}
theorem scNear:FnScope ["text","many","nearest","piece","places","best"] ["text","many"] (aC gE):=fsc_
theorem pN(M:Md K mg)(B:Bl mg)(F:FF K "nearest_piece" gE)(Fcheck_signs:Fn P w K mg base ak "check_signs" 2 ["text"] fK)(Fcheck_within:Fn P w K mg base ak "check_within" 1 ["number","least","most"] lK)(Fpiece_places:Fn P w K mg base ak "piece_places" 1 ["text","many"] iZ)(Fbest_ways:Fn P w K mg base ak "best_ways" 6 ["text","word"] fm):Fn P w K mg base ak "nearest_piece" 7 ["text","many"] m6:=by
 refine ba M F scNear (fun _ _ _ _ _ _=>ci fun _ _=>rfl) (fun vs H Q E h=>?_) (fun f cdv A outer s H vs Q E hr h=>?_)
 ·obtain⟨a,t,m,rfl,_⟩:=h;rfl
 ·obtain⟨a,t,m,rfl,ha,lt,m1,mt,tl,k⟩:=h
  refine⟨_,(af (bb (ai Fcheck_signs hr aj (aa (pv 0) ac)))
   (af (bb (ai Fcheck_within hr aj (aa (pv 1) (aa ad (aa (aL B.len (pv 0)) ac)))))
   (af (aw (i:=2) scNear.nd rfl (.inl rfl) fX)
   (af (bO PassesOwn.never rfl (nV (ai Fpiece_places hr aj (aa (pv 0) (aa (pv 1) ac)))) (cH rfl (bn (aV (i:=3) scNear.nd rfl (.inl rfl)) (bn (aV (i:=4) scNear.nd rfl (.inl rfl)) cA)))
   (af (aw (i:=5) scNear.nd rfl (.inl rfl) (ai Fbest_ways hr aj (aa (pv 0) (aa (nY B.list (pv 3)) ac))))
   (ah (aM (PW.pt (bV (aD (jh (by exact hr)) ad (pv 5) (by with_unfolding_all rfl)) (cf (PW.pt (eJ (aD lP (pv 2) fX (aF _)) (fI (aD dF (aJ dk (cU (by exact bX hr) (pv 5) ad (fun _ _=>rfl)) ad (fun _ _=>rfl)) (aJ dk (pv 2) ad (fun _ _=>rfl)) (aF _)))))))) (ah (aw (i:=2) scNear.nd rfl (.inl rfl) (eA (aa (aJ dk (cU (by exact bX hr) (pv 5) ad (fun _ _=>rfl)) ad (fun _ _=>rfl)) (aa (aJ aO (pv 4) ad (fun _ _=>rfl)) ac))))) aP))))
   (ah (aH (pv 2))))))),?_⟩
  refine⟨_,rfl,a,t,rfl,ha,lt,?_⟩
  refine⟨_,rfl,_,rfl,a,_,rfl,SqL.of ha,_,_,_,rfl,by lia,by rw[List.length_map];lia,?_⟩
  refine⟨_,rfl,_,rfl,a,t,m,rfl,ha,m1,mt,tl,fun w es H1 hw0 hw1 pc s1=>⟨w,bF es,rfl,hw1,fun o=>?_⟩⟩
  have eus:es.map (·.1)=aT t m (t.length+1-m):=pc.us
  refine uN (a:=w) (o:=o) (kvs:=bF es) (fun i σ H5=>Same H H5∧H5 w=some (.frz o (.dT (bF es)))∧(∀e∈es,H5 e.2=some (.lst (au (bC t m (t.length+1-m) e.1))))∧∃v2 v3 v4 v5,OptP H5 v2 (nu t m ((aT t m (t.length+1-m)).take i))∧σ=[some (.ref a),some (.int (m:Int)),some v2,v3,v4,v5]) ?_ (fun i σ H5 _ h5=>h5.2.1) ?_ ?_
  ·refine⟨fun b ob z=>by rw[ao (aR z hw0)];exact s1 _ _ z,ae,fun e he=>?_,.non,_,_,_,rfl,rfl⟩
   rw[ao (bK (pc.at_ e he).2 hw1 (fun z=>nomatch z))]
   exact(pc.at_ e he).2
  ·rintro i kk x ka p σ H5 hx hka hp ⟨sH5,hw5,hes,v2,v3,v4,v5,op,rfl⟩
   obtain⟨e,he,rfl,rfl⟩:=qN hx
   have hem:=List.mem_of_getElem? he
   have hu:(aT t m (t.length+1-m))[i]?=some e.1:=by rw[←eus,List.getElem?_map,he];rfl
   have hum:=List.mem_of_getElem? hu
   have ul:e.1.length=m:=tL (Nat.le_refl _) hum (by lia)
   rw[im] at hka
   obtain⟨q,hq,hqe⟩:=mem_us.mp hum
   have hql:q∈bC t m (t.length+1-m) e.1:=by unfold bC;rw[List.mem_filter];exact⟨by simpa using hq,by simpa using hqe⟩
   have lu:Low e.1:=by rw[←hqe];exact(lt.drop _).take _
   obtain⟨y,ys,ey⟩:=List.exists_cons_of_ne_nil (List.ne_nil_of_mem hql)
   have efst:eY t m e.1=y:=by unfold eY;rw[ey];rfl
   have etk:(aT t m (t.length+1-m)).take (i+1)=(aT t m (t.length+1-m)).take i++[e.1]:=jw hu
   have sp:=Same.upd (o:=.tup [V.ref ka,.ref e.2]) hp
   have hp5:=ae (H:=H5) (a:=p) (o:=.tup [V.ref ka,.ref e.2])
   generalize L2.upd H5 p (.tup [V.ref ka,.ref e.2])=H6 at sp hp5 ⊢
   refine⟨p,_,rfl,SqT.of hp5,rfl,_,_,rfl,_,_,rfl,rfl,?_⟩
   have ka6:=sp _ _ hka
   refine⟨_,rfl,_,rfl,ka,_,rfl,SqT.of ka6,fun l hl=>?_⟩
   have s7:=Same.upd (o:=.lst (e.1.map sg)) hl
   have s57:=sp.trans s7
   refine⟨a,l,t,e.1,rfl,s57 _ _ (sH5 _ _ ha),ae,lu,by lia,by lia,tl,fun r H8 hr0 B8 s8=>?_⟩
   have s58:=s57.trans s8
   have sH8:=sH5.trans s58
   have op8:=op.same s58
   have he8:=s58 _ _ (hes e hem)
   have kp:∀H9,Same H8 H9→∀v2',OptP H9 v2' (br (nu t m ((aT t m (t.length+1-m)).take i)) (wc t e.1) y)→Same H H9∧H9 w=some (.frz o (.dT (bF es)))∧(∀e∈es,H9 e.2=some (.lst (au (bC t m (t.length+1-m) e.1))))∧OptP H9 v2' (nu t m ((aT t m (t.length+1-m)).take (i+1))):=fun H9 s9 v2' hv=>by
    refine⟨sH8.trans s9,s9 _ _ (s58 _ _ hw5),fun e' h'=>s9 _ _ (s58 _ _ (hes e' h')),?_⟩
    rw[etk,ku,efst]
    exact hv
   rcases B8.look (p:=0) (Nat.le_refl _) with⟨l',c,Ll,Dg,c0,hc8⟩ | ⟨no,Dg⟩
   ·have Dg':DGet H8 r (.int 0) (some (.ref c)):=Dg
    have ew:=wn Ll
    have setit:∀(go:br (nu t m ((aT t m (t.length+1-m)).take i)) (wc t e.1) y=some (ay t e.1 l',y)) g2 (hg2:H8 g2=none),Same H (L2.upd H8 g2 (.tup [.int (ay t e.1 l':Nat),.int (y:Int)]))∧(L2.upd H8 g2 (.tup [.int (ay t e.1 l':Nat),.int (y:Int)])) w=some (.frz o (.dT (bF es)))∧(∀e_1∈es,(L2.upd H8 g2 (.tup [.int (ay t e.1 l':Nat),.int (y:Int)])) e_1.2=some (.lst (au (bC t m (t.length+1-m) e_1.1))))∧OptP (L2.upd H8 g2 (.tup [.int (ay t e.1 l':Nat),.int (y:Int)])) (.ref g2) (nu t m ((aT t m (t.length+1-m)).take (i+1))):=fun go g2 hg2=>
     kp _ (Same.upd hg2) _ (by rw[go];exact⟨g2,rfl,ae⟩)
    have hidx:aX (au (bC t m (t.length+1-m) e.1)) 0=some (.int (y:Int)):=bc (j:=0) (by rw[ey];rfl)
    cases hn:nu t m ((aT t m (t.length+1-m)).take i) with
    | none=>
      rw[hn] at op8
      have e2:v2=.non:=op8
      subst e2
      refine⟨_,rfl,r,_,rfl,Dg',_,rfl,aE ⟨_,rfl,rfl,true,rfl,aE (aE ?_)⟩⟩
      refine⟨_,rfl,r,_,rfl,Dg',c,_,_,_,rfl,rfl,SqT.of hc8,bc (j:=0) rfl,_,rfl,e.2,_,_,_,rfl,rfl,SqL.of he8,hidx,by show 2≤sizeLine;decide,fun g2 hg2=>?_⟩
      obtain⟨f1,f2,f3,f4⟩:=setit (by rw[hn,ew];rfl) g2 hg2
      exact⟨f1,f2,f3,_,_,_,_,f4,rfl⟩
    | some b=>
      rw[hn] at op8
      obtain⟨gb,e2,hgb⟩:=op8
      subst e2
      refine⟨_,rfl,r,_,rfl,Dg',_,rfl,aE ⟨_,rfl,rfl,false,rfl,ar ?_⟩⟩
      refine⟨_,rfl,r,_,rfl,Dg',c,_,_,_,rfl,rfl,SqT.of hc8,bc (j:=0) rfl,_,rfl,gb,_,_,_,rfl,rfl,SqT.of hgb,bc (j:=0) rfl,_,_,rfl,rfl,_,rfl,?_⟩
      by_cases hlt:ay t e.1 l'<b.1
      ·rw[decide_eq_true (show((ay t e.1 l':Nat):Int)<((b.1:Nat):Int) by lia)]
       refine aE ⟨_,rfl,r,_,rfl,Dg',c,_,_,_,rfl,rfl,SqT.of hc8,bc (j:=0) rfl,_,rfl,e.2,_,_,_,rfl,rfl,SqL.of he8,hidx,by show 2≤sizeLine;decide,fun g2 hg2=>?_⟩
       obtain⟨f1,f2,f3,f4⟩:=setit (by rw[hn,ew];simp only[br];rw[if_pos hlt]) g2 hg2
       exact⟨f1,f2,f3,_,_,_,_,f4,rfl⟩
      ·rw[decide_eq_false (show¬((ay t e.1 l':Nat):Int)<((b.1:Nat):Int) by lia)]
       obtain⟨f1,f2,f3,f4⟩:=kp H8 (Same.refl _) (.ref gb) (by rw[hn,ew];simp only[br];rw[if_neg hlt];exact⟨gb,rfl,hgb⟩)
       exact ar ⟨f1,f2,f3,_,_,_,_,f4,rfl⟩
   ·have Dg':DGet H8 r (.int 0) none:=Dg
    have ew:=u4 no
    obtain⟨f1,f2,f3,f4⟩:=kp H8 (Same.refl _) v2 (by rw[ew];exact op8)
    exact⟨_,rfl,r,_,rfl,Dg',_,rfl,ar (ar ⟨f1,f2,f3,_,_,_,_,f4,rfl⟩)⟩
  ·rintro σ H5 ⟨sH5,hw5,hes,v2,v3,v4,v5,op,rfl⟩
   have el:(bF es).length=(aT t m (t.length+1-m)).length:=by unfold bF;rw[←eus,List.length_map,List.length_map]
   rw[el,List.take_length,m5 (Nat.le_refl _)] at op
   exact⟨_,rfl,k v2 H5 op sH5⟩
end
abbrev jn:Stmt:=aW 37
def Laid(t u:List Nat):Prop:=u.length≤t.length∧∃l,Ch (aB u) 0 (t.length-u.length) l∧∀p∈l,(t.drop p).take u.length=u
theorem Laid.self(u:List Nat):Laid u u:=⟨Nat.le_refl _,[0],by rw[Nat.sub_self];exact Ch.one _,fun p hp=>by rw[List.mem_singleton.mp hp,List.drop_zero,List.take_length]⟩
theorem Laid.more{t u:List Nat}(h:Laid t u){s:Nat}(hs:s∈aB u):Laid (t++u.drop (u.length-s)) u:=by
 obtain⟨h1,l,h2,h3⟩:=h
 obtain⟨s1,s2,s3⟩:=cY u s hs
 have sh:u.drop s=u.take (u.length-s):=(i8 s2).mpr s3
 have ln:(t++u.drop (u.length-s)).length=t.length+s:=by rw[List.length_append,List.length_drop];lia
 refine⟨by rw[ln];lia,l++[t.length-u.length+s],?_,fun p hp=>?_⟩
 ·rw[ln,show t.length+s-u.length=t.length-u.length+s by lia]
  exact h2.snoc hs
 ·rcases List.mem_append.mp hp with hp | hp
  ·have b:=(Ch.le_all h2 p hp).2
   rw[List.drop_append_of_le_length (by lia),List.take_append_of_le_length (by rw[List.length_drop];lia)]
   exact h3 p hp
  ·rw[List.mem_singleton.mp hp]
   obtain⟨r,er⟩:=h2.last
   have hl:=h3 (t.length-u.length) (by rw[er];simp)
   have hl':t.drop (t.length-u.length)=u:=by
    rw[List.take_of_length_le (by rw[List.length_drop];lia)] at hl
    exact hl
   rw[List.drop_append_of_le_length (by lia),←List.drop_drop,hl',sh,List.take_append_drop,List.take_length]
def oi:Sp:=fun vs H Q _=>∃(p b:Addr) (u:List Nat) (most:Int),vs=[.ref p,.ref b,.int most]∧Hand H p∧H b=some (.lst (u.map sg))∧Low u∧1≤u.length∧u.length≤900∧0≤most∧most≤900∧
 ∀(t:List Nat) (r:Addr) (H':Hp),H r=none→H' r=some (.lst (t.map sg))→Low t→Laid t u→(t.length:Int)≤max most u.length→Hand H' p→Keep p H H'→Q (.ref r) H'
theorem sX{te:TE}{i:Nat}{rest:TS}{D:Ends}{σ:St}{H:Hp}(h:te σ H fun x H1=>rest D (σ.set i (some x)) H1):fe (dL te (cD i)) rest D σ H:=h
theorem tm{te:TE}{i:Nat}{D:Ends}{σ:St}{H:Hp}(h:te σ H fun x H1=>D.nx (σ.set i (some x)) H1):dL te (cD i) D σ H:=h
theorem nM{l:List Nat}{f:Nat→Bool}{i o:Nat}(h:l[i]?=some o):(l.take (i+1)).filter f=(l.take i).filter f++(if f o=true then [o] else []):=by
 rw[jw h,List.filter_append]
 congr 1
 by_cases hf:f o=true <;> simp[hf]
theorem kL{K:PySem.W.Frag}{st:Addr}{S:List Nat}{left:Nat}{σ:St}{H2:Hp}{Q:VK}{n i3 i5:Nat}(hn:σ.length=n)(h3:σ[i3]?=some (some (.ref st)))(h5:σ[i5]?=some (some (.int (left:Int))))(hst:H2 st=some (.lst (au S)))(hS:S.length≤900)(k:∀D H3,H2 D=none→H3 D=some (.lst (au (S.filter fun s=>decide (s≤left))))→Same H2 H3→Q (.ref D) H3):
 gF (kb K (bR i3)) (fun _=>gC (dG (cO fun i j=>.bl (decide (i≤j))) (bR n) (bR i5))) (fun _=>bR n) σ H2 Q:=by
 refine⟨_,h3,st,rfl,⟨_,SqL.of hst⟩,fun D hD cb=>?_⟩
 have i5l:i5<σ.length:=(List.getElem?_eq_some_iff.mp h5).1
 refine iy (K:=K) (a:=st) (xs:=au S) (fun i ys H3=>ys=au ((S.take i).filter fun s=>decide (s≤left))∧Same H2 H3∧H3 D=some (.lst ys)) (by rw[bq];exact bx (by lia)) ?_ ?_ ?_ ?_ ?_
 ·exact⟨rfl,Same.upd hD,ae⟩
 ·rintro i ys H3 ⟨rfl,_⟩
  rw[bq]
  exact Nat.le_trans (List.length_filter_le _ _) (by rw[List.length_take];lia)
 ·rintro i ys H3 _ ⟨_,s5,_⟩;exact SqL.of (s5 _ _ hst)
 ·rintro i x ys H3 hx ⟨rfl,s5,hD3⟩
  obtain⟨o,ho,rfl⟩:=fT hx
  have e8:(σ++[some (V.int (o:Int))])[n]?=some (some (.int (o:Int))):=by rw[←hn,List.getElem?_append_right (Nat.le_refl _)];simp
  have e5:(σ++[some (V.int (o:Int))])[i5]?=some (some (.int (left:Int))):=by rw[List.getElem?_append_left i5l];exact h5
  refine⟨_,e8,_,e5,_,_,rfl,rfl,_,rfl,?_⟩
  have br:=nM (f:=fun s=>decide (s≤left)) ho
  by_cases h1:o≤left
  ·rw[decide_eq_true (show((o:Int)≤(left:Int)) by lia)]
   refine aE ⟨_,e8,hD3,?_,fun e o' z=>by rw[ao (aR z hD)];exact s5 _ _ z,ae⟩
   rw[br,if_pos (by simp[h1]),cZ]
  ·rw[decide_eq_false (show¬((o:Int)≤(left:Int)) by lia)]
   refine ar ⟨?_,s5,hD3⟩
   rw[br,if_neg (by simp[h1]),List.append_nil]
 ·rintro ys H3 ⟨rfl,s5,hD3⟩
  rw[bq,List.take_length] at hD3
  exact k D H3 hD hD3 s5
section
variable{P:Program}{w:World}{K:PySem.W.Frag}{mg:Str→Option Value}{base:Heap}
theorem scLaid:FnScope ["pot","word","most","near","text","left","some","far"] ["pot","word","most"] (aC jn):=fsc_
theorem ql(M:Md K mg)(B:Bl mg)(F:FF K "_law_laid" jn)(F_law_take:Fn P w K mg base ak "_law_take" 1 ["pot","many"] d9)(F_law_shifts:Fn P w K mg base ak "_law_shifts" 1 ["word"] dN):Fn P w K mg base ak "_law_laid" 2 ["pot","word","most"] oi:=by
 refine ba M F scLaid (fun _ _ _ _ _ _=>df fun _ _ _=>rfl) (fun vs H Q E h=>?_) (fun f cdv A outer s H vs Q E hr h=>?_)
 ·obtain⟨p,b,u,most,rfl,_⟩:=h;rfl
 ·obtain⟨p,b,u,most,rfl,hp,hb,lu,u1,ul,m0,m1,k⟩:=h
  refine⟨_,(af (aw (i:=3) scLaid.nd rfl (.inl rfl) (ai F_law_shifts hr aj (aa (pv 1) ac)))
   (af (aw (i:=4) scLaid.nd rfl (.inl rfl) (gL B.list (pv 1)))
   (af (aw (i:=5) scLaid.nd rfl (.inr rfl) (ai F_law_take hr aj (aa (pv 0) (aa (jf rfl B.max ad (aq bj (aq bp (pv 2) (aL B.len (pv 1))) ad)) ac))))
   (af (oz (i:=6) ["pot","word","most","near","text","left","some",""] rfl scLaid.nd rfl (.inl rfl) (dA (pv 3)) (fun _=>by exact(dE (aD cu (pv 8) (pv 5) (aF _)))) (fun _=>by exact(pv 8)))
   (af (iB PassesOwn.never (aD (hV (by exact hr)) (pv 6) (aN ac) (aF _)) (af (aw (i:=7) scLaid.nd rfl (.inl rfl) (aJ aO (pv 6) (ai F_law_take hr aj (aa (pv 0) (aa (aL B.len (pv 6)) ac))) (fun _ _=>rfl)))
   (af (aw (i:=4) scLaid.nd rfl (.inl rfl) (aq cj (pv 4) (bu bv (pv 1) (bt (aq bp (aL B.len (pv 1)) (pv 7))) bA)))
   (af (aw (i:=5) scLaid.nd rfl (.inr rfl) (aq bp (pv 5) (pv 7)))
   (ah (oz (i:=6) ["pot","word","most","near","text","left","some",""] rfl scLaid.nd rfl (.inl rfl) (dA (pv 3)) (fun _=>by exact(dE (aD cu (pv 8) (pv 5) (aF _)))) (fun _=>by exact(pv 8))))))))
   (ah (aH (pv 4)))))))),?_⟩
  have nbp:=bM hp hb
  refine⟨_,rfl,b,u,rfl,hb,lu,u1,ul,fun st H1 hst0 hst1 s1=>?_⟩
  have nst:st≠p:=(hp.ne hst0).symm
  refine⟨_,rfl,b,_,rfl,SqL.of (s1 _ _ hb),fun tq htq=>?_⟩
  have s2:=Same.upd (o:=.lst (u.map sg)) htq
  have htq2:=ae (H:=H1) (a:=tq) (o:=.lst (u.map sg))
  have hp1:=hp.same s1
  have ntq:tq≠p:=(hp1.ne htq).symm
  have tqn:H tq=none:=s1.free htq
  generalize L2.upd H1 tq (.lst (u.map sg))=H2 at s2 htq2 ⊢
  have s12:=s1.trans s2
  have hp2:=hp.same s12
  refine⟨_,rfl,_,rfl,_,rfl,b,_,rfl,SqL.of (s12 _ _ hb),_,_,rfl,rfl,_,_,rfl,rfl,_,_,rfl,rfl,?_⟩
  rw[List.length_map]
  refine⟨p,_,rfl,hp2,by lia,by lia,fun lf H3 l0 l1 hp3 k3=>?_⟩
  have k03:Keep p H H3:=fun c o h n=>k3 _ _ (s12 _ _ h) n
  obtain⟨left,rfl⟩:∃n:Nat,lf=(n:Int):=⟨lf.toNat,by lia⟩
  have hst3:=k3 _ _ (s2 _ _ hst1) nst
  have htq3:=k3 _ _ htq2 ntq
  have sl:=ic u
  refine sX (kL (K:=K) rfl rfl rfl hst3 (by lia) fun sm H4 hsm0 hsm4 s4=>?_)
  have hp4:=hp3.same s4
  refine⟨fun m σ H5=>∃(t:List Nat) (left:Nat) (tq sm:Addr) (v7:Option V),m=left∧σ=[some (.ref p),some (.ref b),some (.int most),some (.ref st),some (.ref tq),some (.int (left:Int)),some (.ref sm),v7]∧H tq=none∧H5 tq=some (.lst (t.map sg))∧tq≠p∧sm≠p∧H5 sm=some (.lst (au ((aB u).filter fun s=>decide (s≤left))))∧H5 st=some (.lst (au (aB u)))∧Low t∧Laid t u∧((t.length+left:Nat):Int)≤max most u.length∧Hand H5 p∧Keep p H H5,⟨left,u,left,tq,sm,none,rfl,rfl,tqn,s4 _ _ htq3,ntq,(hp3.ne hsm0).symm,hsm4,s4 _ _ hst3,lu,Laid.self u,by lia,hp4,fun c o h n=>s4 _ _ (k03 _ _ h n)⟩,?_⟩
  rintro m σ H5 ⟨t,left,tq,sm,v7,rfl,rfl,tqn,htq5,ntq,nsm,hsm5,hst5,lt,La,tl,hp5,k05⟩
  refine⟨_,rfl,Nat.zero_le _,fun e0 he0=>?_⟩
  have s6:=Same.upd (o:=.lst []) he0
  have he6:=ae (H:=H5) (a:=e0) (o:=.lst [])
  generalize L2.upd H5 e0 (.lst [])=H6 at s6 he6 ⊢
  refine⟨sm,e0,_,[],rfl,rfl,SqL.of (s6 _ _ hsm5),SqL.of he6,_,rfl,?_⟩
  cases hf:(aB u).filter fun s=>decide (s≤m) with
  | nil=>
    refine ar ⟨_,rfl,k t tq H6 tqn (s6 _ _ htq5) lt La (by lia) (hp5.same s6) fun c o h n=>s6 _ _ (k05 _ _ h n)⟩
  | cons f0 fr=>
    rw[hf] at hsm5
    refine aE ⟨fun σ' H'=>∃m',m'<m∧∃(t:List Nat) (left:Nat) (tq sm:Addr) (v7:Option V),m'=left∧σ'=[some (.ref p),some (.ref b),some (.int most),some (.ref st),some (.ref tq),some (.int (left:Int)),some (.ref sm),v7]∧H tq=none∧H' tq=some (.lst (t.map sg))∧tq≠p∧sm≠p∧H' sm=some (.lst (au ((aB u).filter fun s=>decide (s≤left))))∧H' st=some (.lst (au (aB u)))∧Low t∧Laid t u∧((t.length+left:Nat):Int)≤max most u.length∧Hand H' p∧Keep p H H',fun _ _ h=>h,?_⟩
    have hsm6:=s6 _ _ hsm5
    have flen:(f0::fr).length≤900:=by rw[←hf];exact Nat.le_trans (List.length_filter_le _ _) (by lia)
    refine⟨_,rfl,_,rfl,_,rfl,sm,_,rfl,SqL.of hsm6,p,_,rfl,hp5.same s6,by rw[bq,List.length_cons];lia,by rw[bq];lia,fun r H7 r0 r1 hp7 k7=>?_⟩
    rw[bq] at r1
    have k57:Keep p H5 H7:=fun c o h n=>k7 _ _ (s6 _ _ h) n
    have hrl:r.toNat<(f0::fr).length:=by lia
    have hge:(f0::fr)[r.toNat]?=some (f0::fr)[r.toNat]:=by simp[hrl]
    generalize (f0::fr)[r.toNat]=s at hge
    have hsf:s∈(aB u).filter fun s=>decide (s≤m):=by rw[hf];exact List.mem_of_getElem? hge
    have hss:=(List.mem_filter.mp hsf).1
    have hsm':s≤m:=of_decide_eq_true (List.mem_filter.mp hsf).2
    obtain⟨sb1,sb2,_⟩:=cY u s hss
    have hat:aX (au (f0::fr)) r=some (.int (s:Int)):=by
     obtain⟨v,hv,_,e⟩:=cB (au (f0::fr)) r r0 (by rw[bq];exact r1)
     obtain⟨q,hq,rfl⟩:=fT hv
     rw[hge] at hq
     rw[e,Option.some.inj hq]
    refine⟨sm,_,_,_,rfl,rfl,SqL.of (k57 _ _ hsm5 nsm),hat,?_⟩
    have hb7:=k57 _ _ (k05 _ _ hb nbp) nbp
    have htq7:=k57 _ _ htq5 ntq
    have hst7:=k57 _ _ hst5 nst
    refine⟨_,rfl,_,rfl,_,rfl,b,_,rfl,SqL.of hb7,_,rfl,_,_,rfl,rfl,_,rfl,b,_,rfl,SqL.of hb7,fun q1 hq1=>?_⟩
    have e1:bi (u.map sg) (some (((u.map sg).length:Nat)-(s:Int))) none=(u.drop (u.length-s)).map sg:=by
     rw[List.length_map,show((u.length:Int)-(s:Int))=((u.length-s:Nat):Int) by lia,ix (by lia)];rfl
    rw[e1]
    have s8:=Same.upd (o:=.lst ((u.drop (u.length-s)).map sg)) hq1
    have hq8:=ae (H:=H7) (a:=q1) (o:=.lst ((u.drop (u.length-s)).map sg))
    generalize L2.upd H7 q1 (.lst ((u.drop (u.length-s)).map sg))=H8 at s8 hq8 ⊢
    have dl:(u.drop (u.length-s)).length=s:=by rw[List.length_drop];lia
    refine gr (s8 _ _ htq7) hq8 (by rw[dl];lia) fun q2 hq2=>?_
    have s9:=Same.upd (o:=.lst ((t++u.drop (u.length-s)).map sg)) hq2
    have hq9:=ae (H:=H8) (a:=q2) (o:=.lst ((t++u.drop (u.length-s)).map sg))
    have hp8:=hp7.same s8
    have nq2:q2≠p:=(hp8.ne hq2).symm
    have q2n:H q2=none:=hp8.free (fun c o h n=>s8 _ _ (k57 _ _ (k05 _ _ h n) n)) hq2
    generalize L2.upd H8 q2 (.lst ((t++u.drop (u.length-s)).map sg))=H9 at s9 hq9 ⊢
    have s79:=s8.trans s9
    have k59:Keep p H5 H9:=fun c o h n=>s79 _ _ (k57 _ _ h n)
    refine⟨_,rfl,_,rfl,_,_,rfl,rfl,?_⟩
    refine lX (j:=((m-s:Nat):Int)) (congrArg V.int (by lia)) ?_
    refine tm (kL (K:=K) rfl rfl rfl (s79 _ _ hst7) (by lia) fun sm2 H10 hsm20 hsm210 s10=>?_)
    have hp9:=hp7.same s79
    exact⟨m-s,by lia,t++u.drop (u.length-s),m-s,q2,sm2,_,rfl,rfl,q2n,s10 _ _ hq9,nq2,(hp9.ne hsm20).symm,hsm210,s10 _ _ (s79 _ _ hst7),lt.app (lu.drop _),La.more hss,by rw[List.length_append,dl];lia,hp9.same s10,fun c o h n=>s10 _ _ (k59 _ _ (k05 _ _ h n) n)⟩
end
def aG(z:Str):Bool:=decide (z.length=1) && ((!decide (z.cps.toList<(Str.ofString "a").cps.toList)) && (!decide ((Str.ofString "z").cps.toList<z.cps.toList)))
theorem nL{c:Nat}(h1:97≤c)(h2:c≤122):aG (aA c)=true:=by
 unfold aG
 rw[kj h1,li h2];rfl
theorem nN{z:Str}(h:aG z=true):∃c,97≤c∧c≤122∧z=aA c:=by
 unfold aG at h
 simp only[Bool.and_eq_true,decide_eq_true_eq] at h
 obtain⟨h1,h2,h3⟩:=h
 obtain⟨⟨l⟩⟩:=z
 have h1':l.length=1:=h1
 match l,h1' with
 | [c],_=>
   have ea:(Str.ofString "a").cps.toList=[97]:=by decide+kernel
   have ez:(Str.ofString "z").cps.toList=[122]:=by decide+kernel
   rw[ea] at h2
   rw[ez] at h3
   have h2':¬([c] < [97]):=by simpa using h2
   have h3':¬([122] < [c]):=by simpa using h3
   refine⟨c,?_,?_,rfl⟩
   ·rcases Nat.lt_or_ge c 97 with q | q
    ·exact absurd (List.Lex.rel q) h2'
    ·exact q
   ·rcases Nat.lt_or_ge 122 c with q | q
    ·exact absurd (List.Lex.rel q) h3'
    ·exact q
def Txt(zs:List Str):Prop:=∀z∈zs,z.length≤1000∧PyData.strOk z=true
theorem ig:∀{zs:List Str},zs.all aG=true→∃t:List Nat,Low t∧zs=t.map aA
 | [],_=>⟨[],Low.nil,rfl⟩
 | z::zs,h=>by
   rw[List.all_cons,Bool.and_eq_true] at h
   obtain⟨c,c1,c2,rfl⟩:=nN h.1
   obtain⟨t,lt,rfl⟩:=ig h.2
   refine⟨c::t,fun d hd=>?_,rfl⟩
   rcases List.mem_cons.mp hd with q | q
   ·rw[q];exact⟨c1,c2⟩
   ·exact lt d q
theorem eD:∀{t:List Nat},Low t→(t.map aA).all aG=true
 | [],_=>rfl
 | c::t,h=>by
   have hc:=h c List.mem_cons_self
   rw[List.map_cons,List.all_cons,nL hc.1 hc.2,eD fun d hd=>h d (List.mem_cons_of_mem _ hd)];rfl
theorem bW(t:List Nat):(t.map aA).map V.str=t.map sg:=by rw[List.map_map];rfl
theorem dC{t:List Nat}(h:Low t):Txt (t.map aA):=fun z hz=>by
 obtain⟨c,hc,rfl⟩:=List.mem_map.mp hz
 have:=h c hc
 refine⟨by show 1≤1000;decide,?_⟩
 simp[PyData.strOk];lia
def kE:Sp:=fun vs H Q _=>∃z:Str,vs=[.str z]∧z.length≤1000∧Q (.bl (aG z)) H
def gp(cS:Addr):Sp:=fun vs H Q E=>∃(a:Addr) (zs:List Str),vs=[.ref a]∧H a=some (.lst (zs.map V.str))∧Txt zs∧(zs.all aG=true→Q .non H)∧(zs.all aG=false→E (.ref cS) none H)
def iH(cW cS:Addr):Sp:=fun vs H Q E=>∃(a:Addr) (zs:List Str),vs=[.ref a]∧H a=some (.lst (zs.map V.str))∧Txt zs∧(zs=[]→E (.ref cW) none H)∧(zs≠ []→zs.all aG=true→Q .non H)∧(zs≠ []→zs.all aG=false→E (.ref cS) none H)
section
variable{P:Program}{w:World}{K:PySem.W.Frag}{mg:Str→Option Value}{base:Heap}{cNoWord cNoSign:Addr}
theorem qq(M:Md K mg)(B:Bl mg)(F:FF K "is_sign" gz):Fn P w K mg base ak "is_sign" 1 ["sign"] kE:=by
 refine ba M F mU (fun _ _ _ _ _ _=>bE fun _=>rfl) (fun vs H Q E h=>?_) (fun f cdv A outer s H vs Q E hr h=>?_)
 ·obtain⟨c,rfl,_⟩:=h;rfl
 ·obtain⟨z,rfl,zl,k⟩:=h
  refine⟨_,(ah (aH (gM (me B.isinst B.str lJ (pv 0)) (gM (eI bo (jC B.len (pv 0)) ad (aF _)) (kI (ik gY gY bB (pv 0) bB)))))),?_⟩
  refine⟨_,rfl,_,true,TyOf.str _,rfl,_,rfl,aE ?_⟩
  refine⟨_,rfl,_,rfl,sz zl,rfl,_,rfl,?_⟩
  by_cases h1:z.length=1
  ·rw[decide_eq_true (show V.int (z.length:Int)=V.int 1 by rw[h1];rfl)]
   refine aE ?_
   refine⟨_,rfl,_,_,rfl,rfl,_,rfl,?_⟩
   have e:aG z=((!decide (z.cps.toList<(Str.ofString "a").cps.toList)) && (!decide ((Str.ofString "z").cps.toList<z.cps.toList))):=by
    unfold aG;rw[decide_eq_true h1,Bool.true_and]
   rw[e] at k
   by_cases h2:(!decide (z.cps.toList<(Str.ofString "a").cps.toList))=true
   ·rw[h2] at k ⊢
    exact aE ⟨_,_,rfl,rfl,by rw[Bool.true_and] at k;exact k⟩
   ·have h2':(!decide (z.cps.toList<(Str.ofString "a").cps.toList))=false:=by simpa using h2
    rw[h2'] at k ⊢
    exact ar (by rw[Bool.false_and] at k;exact k)
  ·rw[decide_eq_false (fun q=>h1 (by have:=V.int.inj q;lia))]
   refine ar ?_
   have e:aG z=false:=by unfold aG;rw[decide_eq_false h1,Bool.false_and]
   rw[e] at k
   exact k
theorem qk(M:Md K mg)(B:Bl mg)(F:FF K "check_signs" gG)(ONoSign:Exc K mg "NoSign" cNoSign)(Fis_sign:Fn P w K mg base ak "is_sign" 1 ["sign"] kE):Fn P w K mg base (aS P w) "check_signs" 2 ["text"] (gp cNoSign):=by
 refine cG M F scCheck (fun _ _ _ _ _ _=>bE fun _=>rfl) (fun vs H Q E h=>?_) (fun f cdv A outer s H vs Q E hr h=>?_)
 ·obtain⟨a,t,rfl,_⟩:=h;rfl
 ·obtain⟨a,zs,rfl,ha,tz,kq,ke⟩:=h
  refine⟨_,(ah (bO PassesOwn.leaving rfl (dA (pv 0)) (aV (i:=1) scCheck.nd rfl (.inl rfl))
   (ah (aM (dv (bZ (ai Fis_sign hr aj (aa (pv 1) ac)))) (ah (di ONoSign bB)) aP)))),?_⟩
  refine⟨_,rfl,a,rfl,⟨_,SqL.of ha⟩,iI (K:=K) (a:=a) (xs:=zs.map V.str) (fun i σ H2=>H2=H∧(zs.take i).all aG=true∧∃v,σ=[some (.ref a),v]) ⟨rfl,by simp,none,rfl⟩ (fun i σ H2 _ h2=>by rw[h2.1];exact SqL.of ha) ?_ ?_⟩
  ·rintro i x σ H2 hx ⟨rfl,hz,v,rfl⟩
   rw[List.getElem?_map] at hx
   cases e:zs[i]? with
   | none=>rw[e] at hx;cases hx
   | some z=>
     rw[e] at hx
     have:V.str z=x:=Option.some.inj hx
     subst this
     have hm:=List.mem_of_getElem? e
     refine⟨_,rfl,z,rfl,(tz z hm).1,aG z,rfl,?_⟩
     cases hl:aG z with
     | true=>
       refine ar ⟨rfl,?_,_,rfl⟩
       rw[List.take_add_one,e,List.all_append,hz]
       simp[hl]
     | false=>
       refine aE ?_
       refine⟨rfl,ke ?_⟩
       rw[List.all_eq_false]
       exact⟨z,hm,by simp[hl]⟩
  ·rintro σ H2 ⟨rfl,hz,_⟩
   rw[List.length_map,List.take_length] at hz
   exact kq hz
theorem uV(M:Md K mg)(B:Bl mg)(F:FF K "check_word" gH)(ONoWord:Exc K mg "NoWord" cNoWord)(Fcheck_signs:Fn P w K mg base (aS P w) "check_signs" 2 ["text"] (gp cNoSign)):Fn P w K mg base (aS P w) "check_word" 3 ["word"] (iH cNoWord cNoSign):=by
 refine cG M F kx (fun _ _ _ _ _ _=>bE fun _=>rfl) (fun vs H Q E h=>?_) (fun f cdv A outer s H vs Q E hr h=>?_)
 ·obtain⟨a,t,rfl,_⟩:=h;rfl
 ·obtain⟨a,zs,rfl,ha,tz,k0,kq,ke⟩:=h
  refine⟨_,(af (aM (aD bo (aL B.len (pv 0)) ad (aF _)) (ah (di ONoWord bB)) aP)
   (ah (bb (ai Fcheck_signs hr cJ (aa (pv 0) ac))))),?_⟩
  refine⟨_,rfl,a,_,rfl,SqL.of ha,rfl,_,rfl,?_⟩
  by_cases hz:zs=[]
  ·subst hz
   exact aE ⟨rfl,k0 rfl⟩
  ·have:¬V.int (((zs.map V.str).length:Nat):Int)=V.int 0:=fun q=>by
    have:=V.int.inj q
    rw[List.length_map] at this
    exact hz (List.length_eq_zero_iff.mp (by lia))
   rw[decide_eq_false this]
   exact ar ⟨_,rfl,a,zs,rfl,ha,tz,kq hz,ke hz⟩
end
def BadW(cW cS:Addr)(zs:List Str)(H:Hp)(E:XK):Prop:=(zs=[]∧∀H',Same H H'→E (.ref cW) none H')∨(zs≠ []∧zs.all aG=false∧∀H',Same H H'→E (.ref cS) none H')
def nZ(cN:Addr):Sp:=fun vs H _ E=>∃a lo hi:Int,vs=[.int a,.int lo,.int hi]∧¬(lo≤a∧a≤hi)∧lo.natAbs.log2<1900∧hi.natAbs.log2<1900∧E (.ref cN) none H
theorem BadW.go{cW cS:Addr}{zs:List Str}{H:Hp}{E:XK}(h:BadW cW cS zs H E)(Q:Prop):(zs=[]→E (.ref cW) none H)∧(zs≠ []→zs.all aG=true→Q)∧(zs≠ []→zs.all aG=false→E (.ref cS) none H):=by
 rcases h with⟨e,k⟩ | ⟨ne,f,k⟩
 ·exact⟨fun _=>k _ (Same.refl _),fun z=>absurd e z,fun z=>absurd e z⟩
 ·exact⟨fun z=>absurd z ne,(fun _ z=>by rw[f] at z;cases z),fun _ _=>k _ (Same.refl _)⟩
def eF(cW cS cT:Addr)(zs ts:List Str):Option Addr:=if zs=[] then some cW else if zs.all aG=false then some cS else if ts.all aG=false then some cS else if ts.length<zs.length then some cT else none
def jO(cW cS cT:Addr):Sp:=fun vs H _ E=>∃(a b:Addr) (ts zs:List Str) (c:Addr),vs=[.ref a,.ref b]∧H a=some (.lst (ts.map V.str))∧H b=some (.lst (zs.map V.str))∧Txt ts∧Txt zs∧eF cW cS cT zs ts=some c∧E (.ref c) none H
def nC(cW cS cT:Addr):Sp:=fun vs H _ E=>∃(a b:Addr) (ts zs:List Str) (c:Addr),vs=[.ref a,.ref b]∧H a=some (.lst (ts.map V.str))∧H b=some (.lst (zs.map V.str))∧Txt ts∧Txt zs∧eF cW cS cT zs ts=some c∧E (.ref c) none H
def nU(cW cS cT:Addr):Sp:=fun vs H _ E=>∃(a b:Addr) (m:Addr) (ts zs:List Str) (c:Addr),vs=[.ref a,.ref b,.ref m]∧H a=some (.lst (ts.map V.str))∧H b=some (.lst (zs.map V.str))∧Txt ts∧Txt zs∧eF cW cS cT zs ts=some c∧E (.ref c) none H
def nR(cW cS:Addr):Sp:=fun vs H _ E=>∃(b:Addr) (zs:List Str),vs=[.ref b]∧H b=some (.lst (zs.map V.str))∧Txt zs∧BadW cW cS zs H E
def mv(cS cN:Addr):Sp:=fun vs H _ E=>∃(a:Addr) (ts:List Str) (n:Int),vs=[.ref a,.int n]∧H a=some (.lst (ts.map V.str))∧Txt ts∧ts.length≤900∧((ts.all aG=false∧E (.ref cS) none H)∨(ts.all aG=true∧¬(1≤n∧n≤ts.length)∧E (.ref cN) none H))
section
variable{P:Program}{w:World}{K:PySem.W.Frag}{mg:Str→Option Value}{base:Heap}{cNoWord cNoSign cNoText cNoNumber cNoCover cNoChain:Addr}
theorem u5(M:Md K mg)(B:Bl mg)(F:FF K "check_within" fU)(ONoNumber:Exc K mg "NoNumber" cNoNumber):Fn P w K mg base (aS P w) "check_within" 1 ["number","least","most"] (nZ cNoNumber):=by
 refine cG M F oq (fun _ _ _ _ _ _=>df fun _ _ _=>rfl) (fun vs H Q E h=>?_) (fun f cdv A outer s H vs Q E hr h=>?_)
 ·obtain⟨a,lo,hi,rfl,_⟩:=h;rfl
 ·obtain⟨a,lo,hi,rfl,hn,l1,l2,k⟩:=h
  refine⟨_,(ah (aM (dv (lc cu cu (pv 1) (pv 0) (pv 2))) (ah (di ONoNumber (si (ip (mI (by decide+kernel)) (ip (mK (pv 1)) (ip (mI (by decide+kernel)) (ip (mK (pv 2)) qC)))) (by decide)))) aP)),?_⟩
  refine⟨_,rfl,_,rfl,_,_,rfl,rfl,_,rfl,?_⟩
  by_cases c1:lo≤a
  ·rw[decide_eq_true c1]
   refine aE ⟨_,rfl,_,_,rfl,rfl,_,rfl,?_⟩
   rw[decide_eq_false fun q=>hn ⟨c1,q⟩]
   exact aE ⟨_,rfl,lo,rfl,l1,_,rfl,hi,rfl,l2,fun z=>⟨rfl,k⟩⟩
  ·rw[decide_eq_false c1]
   exact ar ⟨_,rfl,aE ⟨_,rfl,lo,rfl,l1,_,rfl,hi,rfl,l2,fun z=>⟨rfl,k⟩⟩⟩
theorem ui(M:Md K mg)(B:Bl mg)(F:FF K "check_fits" gs)(ONoText:Exc K mg "NoText" cNoText)(Fcheck_signs:Fn P w K mg base (aS P w) "check_signs" 2 ["text"] (gp cNoSign))(Fcheck_word:Fn P w K mg base (aS P w) "check_word" 3 ["word"] (iH cNoWord cNoSign)):Fn P w K mg base (aS P w) "check_fits" 4 ["text","word"] (jO cNoWord cNoSign cNoText):=by
 refine cG M F ko (fun _ _ _ _ _ _=>ci fun _ _=>rfl) (fun vs H Q E h=>?_) (fun f cdv A outer s H vs Q E hr h=>?_)
 ·obtain⟨a,b,ts,zs,c,rfl,_⟩:=h;rfl
 ·obtain⟨a,b,ts,zs,c,rfl,ha,hb,tt,tz,hc,k⟩:=h
  refine⟨_,(af (bb (ai Fcheck_word hr cJ (aa (pv 1) ac)))
   (af (bb (ai Fcheck_signs hr cJ (aa (pv 0) ac)))
   (ah (aM (aD dF (aL B.len (pv 0)) (aL B.len (pv 1)) (aF _)) (ah (di ONoText bB)) aP)))),?_⟩
  unfold eF at hc
  refine⟨_,rfl,b,zs,rfl,hb,tz,fun e=>?_,fun ne al=>?_,fun ne al=>?_⟩
  ·rw[if_pos e] at hc;rw[Option.some.inj hc];exact k
  ·rw[if_neg ne,if_neg (by rw[al];decide)] at hc
   refine⟨_,rfl,a,ts,rfl,ha,tt,fun al2=>?_,fun al2=>?_⟩
   ·rw[if_neg (by rw[al2];decide)] at hc
    split at hc
    ·refine⟨_,rfl,a,_,rfl,SqL.of ha,_,rfl,b,_,rfl,SqL.of hb,_,_,rfl,rfl,_,rfl,?_⟩
     rw[decide_eq_true (by rw[List.length_map,List.length_map];lia)]
     rw[Option.some.inj hc]
     exact aE ⟨rfl,k⟩
    ·cases hc
   ·rw[if_pos al2] at hc;rw[Option.some.inj hc];exact k
  ·rw[if_neg ne,if_pos al] at hc;rw[Option.some.inj hc];exact k
theorem vx(M:Md K mg)(B:Bl mg)(F:FF K "fewest_wrong" fV)(ONoCover:Exc K mg "NoCover" cNoCover)(Fcheck_fits:Fn P w K mg base (aS P w) "check_fits" 4 ["text","word"] (jO cNoWord cNoSign cNoText))(Fbest_ways:Fn P w K mg base ak "best_ways" 6 ["text","word"] fm):Fn P w K mg base (aS P w) "fewest_wrong" 7 ["text","word"] (nC cNoWord cNoSign cNoText):=by
 refine cG M F scFewW (fun _ _ _ _ _ _=>ci fun _ _=>rfl) (fun vs H Q E h=>?_) (fun f cdv A outer s H vs Q E hr h=>?_)
 ·obtain⟨a,b,ts,zs,c,rfl,_⟩:=h;rfl
 ·obtain⟨a,b,ts,zs,c,rfl,ha,hb,tt,tz,hc,k⟩:=h
  refine⟨_,(af (bb (ai Fcheck_fits hr cJ (aa (pv 0) (aa (pv 1) ac))))
   (af (aw (i:=2) scFewW.nd rfl (.inl rfl) (ai Fbest_ways hr aj (aa (pv 0) (aa (pv 1) ac))))
   (af (aM (aD (nW (by exact hr)) ad (pv 2) (by with_unfolding_all rfl)) (ah (di ONoCover bB)) aP)
   (af (aw (i:=3) scFewW.nd rfl (.inl rfl) (aN (aa ad ac)))
   (af (iB PassesOwn.leaving (aD dF (aJ aO (pv 3) (dz dn ad) (fun _ _=>rfl)) (aq bp (aL B.len (pv 0)) (aL B.len (pv 1))) (aF _)) (af (fP (cU (by exact bX hr) (pv 2) (aJ aO (pv 3) (dz dn ad) (fun _ _=>rfl)) (fun _ _=>rfl)) (cH rfl (bn (aV (i:=4) scFewW.nd rfl (.inl rfl)) (bn (aV (i:=5) scFewW.nd rfl (.inl rfl)) (bn (aV (i:=6) scFewW.nd rfl (.inl rfl)) cA)))))
   (ah (bb (dc PySem.F.plainAttrs_list PySem.F.slot_list_append PySem.F.type_list_append d3 (pv 3) (aa (pv 6) ac))))))
   (ah (aH (eA (aa (aJ dk (cU (by exact bX hr) (pv 2) ad (fun _ _=>rfl)) ad (fun _ _=>rfl)) (aa (pv 3) ac)))))))))),?_⟩
  exact⟨_,rfl,_,rfl,a,b,ts,zs,c,rfl,ha,hb,tt,tz,hc,k⟩
theorem rR(M:Md K mg)(B:Bl mg)(F:FF K "chain_cost" gJ)(ONoChain:Exc K mg "NoChain" cNoChain)(Fcheck_fits:Fn P w K mg base (aS P w) "check_fits" 4 ["text","word"] (jO cNoWord cNoSign cNoText))(Fis_chain:Fn P w K mg base ak "is_chain" 6 ["word","chain","length"] iK)(Flaid_out:Fn P w K mg base ak "laid_out" 1 ["word","chain"] iS):Fn P w K mg base (aS P w) "chain_cost" 7 ["text","word","chain"] (nU cNoWord cNoSign cNoText):=by
 refine cG M F l8 (fun _ _ _ _ _ _=>df fun _ _ _=>rfl) (fun vs H Q E h=>?_) (fun f cdv A outer s H vs Q E hr h=>?_)
 ·obtain⟨a,b,m,ts,zs,c,rfl,_⟩:=h;rfl
 ·obtain⟨a,b,m,ts,zs,c,rfl,ha,hb,tt,tz,hc,k⟩:=h
  refine⟨_,(af (bb (ai Fcheck_fits hr cJ (aa (pv 0) (aa (pv 1) ac))))
   (af (aM (dv (bZ (ai Fis_chain hr aj (aa (pv 1) (aa (pv 2) (aa (aL B.len (pv 0)) ac)))))) (ah (di ONoChain bB)) aP)
   (ah (aH (oB rfl B.sum (iV ["sign","due"] ["text","word","chain"] rfl (fG B.zip (pv 0) (ai Flaid_out hr aj (aa (pv 1) (aa (pv 2) ac)))) (fun _=>by exact(cH rfl (bn (aV (i:=3) (show((["text","word","chain"]:List Str)++(["sign","due"]:List Str)).Nodup by decide+kernel) rfl (.inl rfl)) (bn (aV (i:=4) (show((["text","word","chain"]:List Str)++(["sign","due"]:List Str)).Nodup by decide+kernel) rfl (.inl rfl)) cA)))) (fun _=>by exact(dE (aD eE (pv 3) (pv 4) (aF _)))) (fun _=>by exact ad))))))),?_⟩
  exact⟨_,rfl,_,rfl,a,b,ts,zs,c,rfl,ha,hb,tt,tz,hc,k⟩
theorem uG(M:Md K mg)(B:Bl mg)(F:FF K "shifts" gZ)(Fcheck_word:Fn P w K mg base (aS P w) "check_word" 3 ["word"] (iH cNoWord cNoSign))(Fperiods:Fn P w K mg base ak "periods" 4 ["text"] iL):Fn P w K mg base (aS P w) "shifts" 5 ["word"] (nR cNoWord cNoSign):=by
 refine cG M F mP (fun _ _ _ _ _ _=>bE fun _=>rfl) (fun vs H Q E h=>?_) (fun f cdv A outer s H vs Q E hr h=>?_)
 ·obtain⟨b,zs,rfl,_⟩:=h;rfl
 ·obtain⟨b,zs,rfl,hb,tz,hB⟩:=h
  refine⟨_,(af (bb (ai Fcheck_word hr cJ (aa (pv 0) ac)))
   (ah (aH (ai Fperiods hr aj (aa (pv 0) ac))))),?_⟩
  exact⟨_,rfl,b,zs,rfl,hb,tz,hB.go _⟩
theorem o7(M:Md K mg)(B:Bl mg)(F:FF K "nearest_piece" gE)(Fcheck_signs:Fn P w K mg base (aS P w) "check_signs" 2 ["text"] (gp cNoSign))(Fcheck_within:Fn P w K mg base (aS P w) "check_within" 1 ["number","least","most"] (nZ cNoNumber))(Fpiece_places:Fn P w K mg base ak "piece_places" 1 ["text","many"] iZ)(Fbest_ways:Fn P w K mg base ak "best_ways" 6 ["text","word"] fm):Fn P w K mg base (aS P w) "nearest_piece" 7 ["text","many"] (mv cNoSign cNoNumber):=by
 refine cG M F scNear (fun _ _ _ _ _ _=>ci fun _ _=>rfl) (fun vs H Q E h=>?_) (fun f cdv A outer s H vs Q E hr h=>?_)
 ·obtain⟨a,ts,n,rfl,_⟩:=h;rfl
 ·obtain⟨a,ts,n,rfl,ha,tt,tl,D⟩:=h
  refine⟨_,(af (bb (ai Fcheck_signs hr cJ (aa (pv 0) ac)))
   (af (bb (ai Fcheck_within hr cJ (aa (pv 1) (aa ad (aa (aL B.len (pv 0)) ac)))))
   (af (aw (i:=2) scNear.nd rfl (.inl rfl) fX)
   (af (bO PassesOwn.leaving rfl (nV (ai Fpiece_places hr aj (aa (pv 0) (aa (pv 1) ac)))) (cH rfl (bn (aV (i:=3) scNear.nd rfl (.inl rfl)) (bn (aV (i:=4) scNear.nd rfl (.inl rfl)) cA)))
   (af (aw (i:=5) scNear.nd rfl (.inl rfl) (ai Fbest_ways hr aj (aa (pv 0) (aa (nY B.list (pv 3)) ac))))
   (ah (aM (PW.pt (bV (aD (jh (by exact hr)) ad (pv 5) (by with_unfolding_all rfl)) (cf (PW.pt (eJ (aD lP (pv 2) fX (aF _)) (fI (aD dF (aJ dk (cU (by exact bX hr) (pv 5) ad (fun _ _=>rfl)) ad (fun _ _=>rfl)) (aJ dk (pv 2) ad (fun _ _=>rfl)) (aF _)))))))) (ah (aw (i:=2) scNear.nd rfl (.inl rfl) (eA (aa (aJ dk (cU (by exact bX hr) (pv 5) ad (fun _ _=>rfl)) ad (fun _ _=>rfl)) (aa (aJ aO (pv 4) ad (fun _ _=>rfl)) ac))))) aP))))
   (ah (aH (pv 2))))))),?_⟩
  refine⟨_,rfl,a,ts,rfl,ha,tt,fun al=>?_,fun al=>?_⟩
  ·rcases D with⟨z,_⟩ | ⟨_,hn,k⟩
   ·rw[al] at z;cases z
   ·refine⟨_,rfl,_,rfl,a,_,rfl,SqL.of ha,_,_,_,rfl,by rw[List.length_map];exact hn,by decide,?_,k⟩
    rw[List.length_map]
    by_cases h0:ts.length=0
    ·rw[h0];decide
    ·have h9:ts.length<2 ^ 10:=by lia
     have:=(Nat.log2_lt h0).mpr h9
     rw[Int.natAbs_natCast]
     lia
  ·rcases D with⟨_,k⟩ | ⟨z,_⟩
   ·exact k
   ·rw[al] at z;cases z
end
abbrev ja:Stmt:=aW 44
def cm(N:List Nat):Nat→List Bool
 | 0=>[true]
 | k+1=>cm N k++[decide (N.filter (fun f=>decide (f≤k+1) && (cm N k).getD (k+1-f) false)≠ [])]
theorem eT(N:List Nat):∀k,(cm N k).length=k+1
 | 0=>rfl
 | k+1=>by rw[cm,List.length_append,eT N k];rfl
theorem hW{N:List Nat}(hN:∀f∈N,1≤f):∀k n,n≤k→((cm N k).getD n false=true↔∃l,Ch N 0 n l)
 | 0,n,h=>by
   obtain rfl:n=0:=by lia
   exact⟨fun _=>⟨_,Ch.one 0⟩,fun _=>rfl⟩
 | k+1,n,h=>by
   by_cases hn:n≤k
   ·rw[←hW hN k n hn,cm,List.getD_eq_getElem?_getD,List.getElem?_append_left (by rw[eT];lia),←List.getD_eq_getElem?_getD]
   ·obtain rfl:n=k+1:=by lia
    have e:(cm N (k+1)).getD (k+1) false=decide (N.filter (fun f=>decide (f≤k+1) && (cm N k).getD (k+1-f) false)≠ []):=by
     rw[cm,List.getD_eq_getElem?_getD,List.getElem?_append_right (by rw[eT];lia),eT,Nat.sub_self];rfl
    rw[e,decide_eq_true_eq]
    constructor
    ·intro hne
     obtain⟨f,hf⟩:=List.exists_mem_of_ne_nil _ hne
     rw[List.mem_filter,Bool.and_eq_true,decide_eq_true_eq] at hf
     have f1:=hN f hf.1
     obtain⟨l,hl⟩:=(hW hN k (k+1-f) (by lia)).mp hf.2.2
     refine⟨_,(?_:Ch N 0 (k+1) (l++[k+1]))⟩
     have:=hl.snoc hf.1
     rwa[show k+1-f+f=k+1 by lia] at this
    ·rintro⟨l,hl⟩ hne
     rcases hl.unsnoc with⟨z,_⟩ | ⟨s,q,l',hs,hq,e,_⟩
     ·lia
     ·have s1:=hN s hs
      have:=(hW hN k q (by lia)).mpr ⟨_,hq⟩
      have hm:s∈N.filter (fun f=>decide (f≤k+1) && (cm N k).getD (k+1-f) false):=by
       rw[List.mem_filter,Bool.and_eq_true,decide_eq_true_eq,show k+1-s=q by lia]
       exact⟨hs,by lia,this⟩
      rw[hne] at hm;cases hm
def jt:Sp:=fun vs H Q _=>∃(a:Addr) (u:List Nat) (n:Nat),vs=[.ref a,.int (n:Int)]∧H a=some (.lst (u.map sg))∧Low u∧1≤u.length∧u.length≤300∧n≤300∧
 ∀H',Same H H'→Q (.bl ((cm (aB u) n).getD n false)) H'
theorem kN{l:List Bool}{j:Nat}(h:j<l.length):aX (l.map V.bl) (j:Int)=some (.bl (l.getD j false)):=by
 refine bc ?_
 rw[List.getElem?_map,List.getD_eq_getElem?_getD]
 simp[h]
section
variable{P:Program}{w:World}{K:PySem.W.Frag}{mg:Str→Option Value}{base:Heap}
theorem scComes:FnScope ["word","left","near","met","more"] ["word","left"] (aC ja):=fsc_
theorem uT(M:Md K mg)(B:Bl mg)(F:FF K "_law_comes" ja)(F_law_shifts:Fn P w K mg base ak "_law_shifts" 1 ["word"] dN):Fn P w K mg base ak "_law_comes" 2 ["word","left"] jt:=by
 refine ba M F scComes (fun _ _ _ _ _ _=>ci fun _ _=>rfl) (fun vs H Q E h=>?_) (fun f cdv A outer s H vs Q E hr h=>?_)
 ·obtain⟨a,u,n,rfl,_⟩:=h;rfl
 ·obtain⟨b,u,n,rfl,hb,lu,u1,ul,n2,k⟩:=h
  refine⟨_,(af (aw (i:=2) scComes.nd rfl (.inl rfl) (ai F_law_shifts hr aj (aa (pv 0) ac)))
   (af (aw (i:=3) scComes.nd rfl (.inr rfl) (aN (aa fi ac)))
   (af (bO PassesOwn.never rfl (iU (by rfl) B.range (aa ad (aa (aq bj (pv 1) ad) ac))) (aV (i:=4) scComes.nd rfl (.inr rfl))
   (ah (bb (dc PySem.F.plainAttrs_list PySem.F.slot_list_append PySem.F.type_list_append d3 (pv 3) (aa (eI (hV (by exact hr)) (dD ["word","left","near","met","more"] rfl (dA (pv 2)) (fun _=>by exact(dE (PW.pt (bV (aD cu (pv 5) (pv 4) (aF _)) (cf (bZ (aJ aO (pv 3) (aq bp (pv 4) (pv 5)) (fun _ _=>rfl)))))))) (fun _=>by exact(pv 5))) (aN ac) (aF _)) ac)))))
   (ah (aH (aJ aO (pv 3) (pv 1) (fun _ _=>rfl))))))),?_⟩
  refine⟨_,rfl,b,u,rfl,hb,lu,u1,by lia,fun a H0 ha0 ha00 s00=>?_⟩
  have nl:=ic u
  have hN:∀f∈aB u,1≤f:=fun f hf=>(cY u f hf).1
  generalize hNe:aB u=N at ha00 nl hN k ⊢
  refine⟨(by show 1≤sizeLine;decide),fun r hr0=>?_⟩
  have s1:=Same.upd (o:=.lst [V.bl true]) hr0
  have hr1:=ae (H:=H0) (a:=r) (o:=.lst [V.bl true])
  generalize L2.upd H0 r (.lst [V.bl true])=H1 at s1 hr1 ⊢
  refine⟨_,rfl,_,_,rfl,rfl,1,_,rfl,⟨by decide,by decide,by lia,by lia⟩,?_⟩
  rw[show((n:Int)+1-1).toNat=n by lia]
  refine gu (lo:=1) (n:=n) (fun i σ H2=>∃v3,σ=[some (.ref b),some (.int (n:Int)),some (.ref a),some (.ref r),v3]∧Same H0 H2∧H2 r=some (.lst ((cm N i).map V.bl))) ?_ ?_ ?_
  ·exact⟨none,rfl,s1,hr1⟩
  ·rintro i σ H2 hi ⟨v3,rfl,s2,hr2⟩
   have ha2:=s2 _ _ ha00
   have cml:=eT N i
   refine⟨_,rfl,.inl ⟨rfl,_,SqL.of hr2⟩,_,rfl,a,rfl,⟨_,SqL.of ha2⟩,fun D hD cb=>?_⟩
   refine iy (K:=K) (a:=a) (xs:=au N) (fun j ys H3=>ys=au ((N.take j).filter fun f=>decide (f≤i+1) && (cm N i).getD (i+1-f) false)∧Same H2 H3∧H3 D=some (.lst ys)) (by rw[bq];exact bx (by lia)) ?_ ?_ ?_ ?_ ?_
   ·exact⟨rfl,Same.upd hD,ae⟩
   ·rintro j ys H3 ⟨rfl,_⟩
    rw[bq]
    exact Nat.le_trans (List.length_filter_le _ _) (by rw[List.length_take];lia)
   ·rintro j ys H3 _ ⟨_,s3,_⟩;exact SqL.of (s3 _ _ ha2)
   ·rintro j x ys H3 hx ⟨rfl,s3,hD3⟩
    obtain⟨o,ho,rfl⟩:=fT hx
    have o1:=hN o (List.mem_of_getElem? ho)
    have hr3:=s3 _ _ hr2
    have br:=nM (f:=fun f=>decide (f≤i+1) && (cm N i).getD (i+1-f) false) ho
    refine⟨_,rfl,_,rfl,_,_,rfl,rfl,_,rfl,?_⟩
    by_cases h1:o≤i+1
    ·rw[decide_eq_true (show((o:Int)≤1+(i:Int)) by lia)]
     have hat:aX ((cm N i).map V.bl) (1+(i:Int)-(o:Int))=some (.bl ((cm N i).getD (i+1-o) false)):=by
      rw[show(1+(i:Int)-(o:Int))=((i+1-o:Nat):Int) by lia]
      exact kN (by lia)
     refine aE ⟨_,rfl,_,rfl,_,rfl,_,_,rfl,rfl,r,_,_,_,rfl,rfl,SqL.of hr3,hat,_,rfl,?_⟩
     cases h2:(cm N i).getD (i+1-o) false with
     | true=>
       refine aE ⟨_,rfl,hD3,?_,fun e o' z=>by rw[ao (aR z hD)];exact s3 _ _ z,ae⟩
       rw[br,if_pos (by rw[h2];simpa using h1),cZ]
     | false=>
       refine ar ⟨?_,s3,hD3⟩
       rw[br,if_neg (by rw[h2];simp),List.append_nil]
    ·rw[decide_eq_false (show¬((o:Int)≤1+(i:Int)) by lia)]
     refine ar (ar ⟨?_,s3,hD3⟩)
     rw[br,if_neg (by simp;lia),List.append_nil]
   ·rintro ys H3 ⟨rfl,s3,hD3⟩
    rw[bq,List.take_length] at hD3
    refine⟨Nat.zero_le _,fun e0 he0=>?_⟩
    have s4:=Same.upd (o:=.lst []) he0
    have he4:=ae (H:=H3) (a:=e0) (o:=.lst [])
    generalize L2.upd H3 e0 (.lst [])=H4 at s4 he4 ⊢
    refine⟨D,e0,(N.filter fun f=>decide (f≤i+1) && (cm N i).getD (i+1-f) false).map (fun(k:Nat)=>(k:Int)),[],rfl,rfl,SqL.of (s4 _ _ hD3),SqL.of he4,r,_,_,rfl,rfl,s4 _ _ (s3 _ _ hr2),by rw[List.length_map,cml];exact bx (by lia),_,rfl,?_,?_⟩
    ·intro e o z
     rw[ao (aR z hr0)]
     exact s4 _ _ (s3 _ _ (s2 _ _ z))
    ·rw[ae,cm,List.map_append]
     generalize N.filter (fun f=>decide (f≤i+1) && (cm N i).getD (i+1-f) false)=Z
     congr 1
     cases Z <;> simp
  ·rintro σ H2 ⟨v3,rfl,s2,hr2⟩
   have cml:=eT N n
   exact⟨_,rfl,_,rfl,r,_,_,_,rfl,rfl,SqL.of hr2,kN (by lia),k H2 (s00.trans s2)⟩
end
abbrev jH:Stmt:=aW 43
abbrev azT:Str:="abcdefghijklmnopqrstuvwxyz"
def jI:Sp:=fun vs H Q _=>∃(a:Addr) (zs:List Str),vs=[.ref a]∧H a=some (.lst (zs.map V.str))∧zs.length≤900∧∀H',Same H H'→Q (.bl (!zs.all aG)) H'
theorem qe(z:Str):cz (.str z) (azT.cps.toList.map sg)=aG z:=by
 have ea:azT.cps.toList=az:=by decide+kernel
 rw[ea]
 cases h:aG z with
 | true=>
   obtain⟨c,c1,c2,rfl⟩:=nN h
   unfold cz
   rw[List.any_eq_true]
   refine⟨sg c,List.mem_map.mpr ⟨c,?_,rfl⟩,?_⟩
   ·simp only[az,List.mem_map,List.mem_range]
    exact⟨c-97,by lia,by lia⟩
   ·show(aA c == aA c)=true
    exact beq_self_eq_true _
 | false=>
   unfold cz
   rw[List.any_eq_false]
   rintro y hy e
   obtain⟨c,hc,rfl⟩:=List.mem_map.mp hy
   have e':(aA c == z)=true:=e
   have:=gR hc
   rw[←eq_of_beq e',nL this.1 this.2] at h
   cases h
theorem pd:(azT.cps.toList.map sg).all cE=true:=by decide+kernel
section
variable{P:Program}{w:World}{K:PySem.W.Frag}{mg:Str→Option Value}{base:Heap}
theorem vn:FnScope ["signs"] ["signs"] (aC jH):=fsc_
theorem so(M:Md K mg)(B:Bl mg)(F:FF K "_law_none" jH):Fn P w K mg base ak "_law_none" 1 ["signs"] jI:=by
 refine ba M F vn (fun _ _ _ _ _ _=>bE fun _=>rfl) (fun vs H Q E h=>?_) (fun f cdv A outer s H vs Q E hr h=>?_)
 ·obtain⟨a,zs,rfl,_⟩:=h;rfl
 ·obtain⟨a,zs,rfl,ha,zl,k⟩:=h
  refine⟨_,(ah (aH (eI (hV (by exact hr)) (dD ["signs"] rfl (dA (pv 0)) (fun _=>by exact(dE (aD pq (pv 1) (ny rfl B.list bB) (by with_unfolding_all rfl)))) (fun _=>by exact ad)) (aN ac) (aF _)))),?_⟩
  refine⟨_,rfl,a,rfl,⟨_,SqL.of ha⟩,fun D hD cb=>?_⟩
  refine iy (K:=K) (a:=a) (xs:=zs.map V.str) (fun i ys H2=>∃ns:List Int,ys=ns.map V.int∧ns.length≤i∧(ns=[]↔(zs.take i).all aG=true)∧Same H H2∧H2 D=some (.lst ys)) (by rw[List.length_map];exact bx (by lia)) ?_ ?_ ?_ ?_ ?_
  ·exact⟨[],rfl,Nat.le_refl _,by simp,Same.upd hD,ae⟩
  ·rintro i ys H2 ⟨ns,rfl,h,_⟩
   rw[List.length_map];exact h
  ·rintro i ys H2 _ ⟨_,_,_,_,s2,_⟩;exact SqL.of (s2 _ _ ha)
  ·rintro i x ys H2 hx ⟨ns,rfl,nl,nz,s2,hD2⟩
   rw[List.getElem?_map] at hx
   cases e:zs[i]? with
   | none=>rw[e] at hx;cases hx
   | some z=>
     rw[e] at hx
     obtain rfl:V.str z=x:=Option.some.inj hx
     have ta:(zs.take (i+1)).all aG=((zs.take i).all aG && aG z):=by
      rw[List.take_add_one,e,List.all_append];simp
     refine⟨_,rfl,azT,rfl,sz (by decide+kernel),fun l hl=>?_⟩
     have s3:=Same.upd (o:=.lst (azT.cps.toList.map sg)) hl
     refine⟨l,_,rfl,.inl (SqL.of ae),rfl,pd,?_⟩
     have hD3:=s3 _ _ hD2
     have s23:=s2.trans s3
     rw[qe]
     generalize L2.upd H2 l (.lst (azT.cps.toList.map sg))=H3 at s3 hD3 s23 ⊢
     cases hl:aG z with
     | true=>
       refine⟨_,rfl,ar ⟨ns,rfl,by lia,?_,s23,hD3⟩⟩
       rw[nz,ta,hl,Bool.and_true]
     | false=>
       refine⟨_,rfl,aE ⟨hD3,ns++[1],by simp,by simp;lia,?_,fun b o q=>?_,ae⟩⟩
       ·rw[ta,hl,Bool.and_false];simp
       ·rw[ao (aR q hD)];exact s23 _ _ q
  ·rintro ys H2 ⟨ns,rfl,nl,nz,s2,hD2⟩
   rw[List.length_map,List.take_length] at nz
   refine⟨Nat.zero_le _,fun l hl=>?_⟩
   have s3:=Same.upd (o:=.lst []) hl
   refine⟨D,l,ns,[],rfl,rfl,SqL.of (s3 _ _ hD2),SqL.of ae,?_⟩
   have e:(if true=true then !decide (ns=[]) else decide (ns=[]))= !zs.all aG:=by
    rw[if_pos rfl]
    by_cases h:ns=[]
    ·rw[decide_eq_true h,nz.mp h]
    ·rw[decide_eq_false h]
     cases h2:zs.all aG with
     | true=>exact absurd (nz.mpr h2) h
     | false=>rfl
   rw[e]
   exact k _ (s2.trans s3)
end
abbrev jY:Stmt:=aW 39
abbrev oth:Str:=" !\"#$&'()*+,-./0123456789:;<=>?@ABCDEFGHIJKLMNOPQRSTUVWXYZ[\\]^_`{|}~"
theorem o4{v:V}{i:Nat}{rest:TS}{D:Ends}{σ:St}{H:Hp}(h:rest D (σ.set i (some v)) H):fe (dL (tC v) (cD i)) rest D σ H:=h
theorem tE(x y:Str):(x++y).length=x.length+y.length:=by
 show(x.cps++y.cps).size=_
 rw[Array.size_append];rfl
theorem sY{x y:Str}(hx:PyData.strOk x=true)(hy:PyData.strOk y=true):PyData.strOk (x++y)=true:=by
 show(x.cps++y.cps).all _=true
 rw[Array.all_append,Bool.and_eq_true]
 exact⟨hx,hy⟩
theorem jj{c:Nat}(h:c<200):PyData.strOk (aA c)=true:=by simp[PyData.strOk];lia
theorem kW{c:Nat}(h:c<200):PyData.strOk ⟨#[c,c]⟩=true:=by simp[PyData.strOk];lia
theorem vD:oth.cps.toList.length≤100∧40≤oth.cps.toList.length:=by decide+kernel
theorem om:∀c∈oth.cps.toList,c<200:=by decide+kernel
theorem uZ{α:Type}(xs:List α)(r:Int)(h0: -(xs.length:Int)≤r)(h1:r<0):∃v,v∈xs∧aX xs r=some v:=by
 have hl:(r+xs.length).toNat<xs.length:=by lia
 refine⟨xs[(r+xs.length).toNat],List.getElem_mem hl,?_⟩
 unfold aX
 have e:bT xs.length r=some (r+xs.length).toNat:=by
  unfold bT
  rw[if_neg (by lia)]
  split
  ·congr 1 <;> lia
  ·lia
 rw[e]
 simp[hl]
theorem qJ{r:Int}(r0:0≤r)(r1:r<26):∃c,aX azT.cps.toList r=some c∧97≤c∧c≤122:=by
 have ea:azT.cps.toList=az:=by decide+kernel
 rw[ea]
 obtain⟨c,_,hm,e⟩:=cB az r r0 (by simpa [az] using r1)
 exact⟨c,e,gR hm⟩
def sC(z:Str):Prop:=z.length≤1000∧PyData.strOk z=true
theorem Txt.app{x y:List Str}(hx:Txt x)(hy:Txt y):Txt (x++y):=fun z h=>(List.mem_append.mp h).elim (hx z) (hy z)
theorem Txt.take{x:List Str}(hx:Txt x)(n:Nat):Txt (x.take n):=fun z h=>hx z (List.mem_of_mem_take h)
theorem Txt.drop{x:List Str}(hx:Txt x)(n:Nat):Txt (x.drop n):=fun z h=>hx z (List.mem_of_mem_drop h)
def kT:Sp:=fun vs H Q _=>∃(p a:Addr) (zs:List Str),vs=[.ref p,.ref a]∧Hand H p∧H a=some (.lst (zs.map V.str))∧Txt zs∧zs.length≤300∧
 ∀(ys:List Str) (r:Addr) (H':Hp),H' r=some (.lst (ys.map V.str))→Txt ys→ys.length≤zs.length+1→Hand H' p→Keep p H H'→Q (.ref r) H'
theorem dg{H:Hp}{p a:Addr}{zs:List Str}(h:Hand H p)(ha:H a=some (.lst (zs.map V.str))):a≠p:=by
 obtain⟨x,y,n,e⟩:=h
 refine bK ha e fun z=>?_
 have z':zs.map V.str=[.int x,.int y,.int n]:=HO.lst.inj z
 cases zs with
 | nil=>cases z'
 | cons c t=>cases z'
section
variable{K:PySem.W.Frag}{σ:St}{H:Hp}{Q:VK}{i j:Nat}{a:Addr}{t:List Str}{n:Nat}
theorem md(hi:σ[i]?=some (some (.ref a)))(hj:σ[j]?=some (some (.int (n:Int))))(ha:H a=some (.lst (t.map V.str)))(k:∀l H',H l=none→H' l=some (.lst ((t.take n).map V.str))→Same H H'→Q (.ref l) H'):fJ (fR K) (bR i) fg (fA (bR j)) σ H Q:=by
 refine⟨_,hi,_,hj,_,rfl,a,_,rfl,SqL.of ha,fun l hl=>?_⟩
 rw[show bi (t.map V.str) none (some (n:Int))=(t.take n).map V.str by rw[cq,cy,gi _ _ (by lia),Int.toNat_natCast]]
 exact k l _ hl ae (Same.upd hl)
theorem vR(hi:σ[i]?=some (some (.ref a)))(hj:σ[j]?=some (some (.int (n:Int))))(ha:H a=some (.lst (t.map V.str)))(k:∀l H',H l=none→H' l=some (.lst ((t.drop (n+1)).map V.str))→Same H H'→Q (.ref l) H'):fJ (fR K) (bR i) (fA (dG (cO fun i j=>V.int (i+j)) (bR j) (tC (V.int 1)))) fg σ H Q:=by
 refine⟨_,hi,_,hj,_,_,rfl,rfl,_,rfl,a,_,rfl,SqL.of ha,fun l hl=>?_⟩
 rw[show bi (t.map V.str) (some ((n:Int)+1)) none=(t.drop (n+1)).map V.str by rw[cq,cy,fC _ _ (by lia),show((n:Int)+1).toNat=n+1 by lia]]
 exact k l _ hl ae (Same.upd hl)
theorem oO(hi:σ[i]?=some (some (.ref a)))(hj:σ[j]?=some (some (.int (n:Int))))(ha:H a=some (.lst (t.map V.str)))(k:∀l H',H l=none→H' l=some (.lst ((t.drop n).map V.str))→Same H H'→Q (.ref l) H'):fJ (fR K) (bR i) (fA (bR j)) fg σ H Q:=by
 refine⟨_,hi,_,hj,_,rfl,a,_,rfl,SqL.of ha,fun l hl=>?_⟩
 rw[show bi (t.map V.str) (some (n:Int)) none=(t.drop n).map V.str by rw[cq,cy,fC _ _ (by lia),Int.toNat_natCast]]
 exact k l _ hl ae (Same.upd hl)
theorem gc{x y:Addr}{s v:List Str}(hx:H x=some (.lst (s.map V.str)))(hy:H y=some (.lst (v.map V.str)))(hl:s.length+v.length≤1000)(k:∀l H',H l=none→H' l=some (.lst ((s++v).map V.str))→Same H H'→Q (.ref l) H'):io (.ref x) (.ref y) H Q:=by
 refine⟨x,y,_,_,rfl,rfl,hx,hy,by rw[List.length_map,List.length_map];exact sz hl,fun l hl=>?_⟩
 exact k l _ hl (by rw[ae,List.map_append]) (Same.upd hl)
end
section
variable{P:Program}{w:World}{K:PySem.W.Frag}{mg:Str→Option Value}{base:Heap}
theorem scOdd:FnScope ["pot","signs","other","two","one","odd","at"] ["pot","signs"] (aC jY):=fsc_
theorem rN(M:Md K mg)(B:Bl mg)(F:FF K "_law_odd" jY)(F_law_take:Fn P w K mg base ak "_law_take" 1 ["pot","many"] d9):Fn P w K mg base ak "_law_odd" 2 ["pot","signs"] kT:=by
 refine ba M F scOdd (fun _ _ _ _ _ _=>ci fun _ _=>rfl) (fun vs H Q E h=>?_) (fun f cdv A outer s H vs Q E hr h=>?_)
 ·obtain⟨p,a,zs,rfl,_⟩:=h;rfl
 ·obtain⟨p,a,zs,rfl,hp,ha,tz,zl,k⟩:=h
  refine⟨_,(af (aw (i:=2) scOdd.nd rfl (.inl rfl) bB)
   (af (aw (i:=3) scOdd.nd rfl (.inl rfl) (aq uc (aJ jv bB (ai F_law_take hr aj (aa (pv 0) (aa ad ac))) (fun _ _=>rfl)) ad))
   (af (aw (i:=4) scOdd.nd rfl (.inl rfl) (aJ jv (pv 2) (ai F_law_take hr aj (aa (pv 0) (aa (jC B.len (pv 2)) ac))) (fun _ _=>rfl)))
   (af (aw (i:=5) scOdd.nd rfl (.inl rfl) (aJ aO (aN (aa (pv 4) (aa (aJ jv (pv 2) (aq bp (aq bp ad ad) (ai F_law_take hr aj (aa (pv 0) (aa ad ac)))) (fun _ _=>rfl)) (aa (pv 3) (aa bB (aa (aq tD bB (pv 3)) (aa bB (aa (pv 4) ac)))))))) (ai F_law_take hr aj (aa (pv 0) (aa ad ac))) (fun _ _=>rfl)))
   (af (aw (i:=6) scOdd.nd rfl (.inl rfl) (ai F_law_take hr aj (aa (pv 0) (aa (aq bj (aL B.len (pv 1)) ad) ac))))
   (ah (aH (aJ aO (aN (aa (aq cj (aq cj (bu bv (pv 1) bA (bt (pv 6))) (aN (aa (pv 5) ac))) (bu bv (pv 1) (bt (pv 6)) bA)) (aa (aq cj (aq cj (bu bv (pv 1) bA (bt (pv 6))) (aN (aa (pv 5) ac))) (bu bv (pv 1) (bt (aq bj (pv 6) ad)) bA)) ac))) (ai F_law_take hr aj (aa (pv 0) (aa ad ac))) (fun _ _=>rfl))))))))),?_⟩
  have nap:=dg hp ha
  have ol:=vD
  refine o4 ?_
  refine⟨_,rfl,p,26,rfl,hp,by decide,by decide,fun r H1 r0 r1 hp1 k1=>?_⟩
  obtain⟨c,ec,c1,c2⟩:=qJ r0 r1
  refine⟨azT,r,c,rfl,rfl,sz (by decide+kernel),ec,c,rfl,rfl,?_⟩
  refine⟨_,rfl,_,rfl,_,rfl,oth,rfl,sz (by show oth.cps.toList.length≤1000;lia),p,_,rfl,hp1,by show 1≤((oth.cps.toList.length:Nat):Int);lia,by show((oth.cps.toList.length:Nat):Int)<_;lia,fun r2 H2 r20 r21 hp2 k2=>?_⟩
  have r21':r2<((oth.cps.toList.length:Nat):Int):=r21
  obtain⟨d,_,dm,ed⟩:=cB oth.cps.toList r2 r20 r21'
  refine⟨oth,r2,d,rfl,rfl,sz (by show oth.cps.toList.length≤1000;lia),ed,?_⟩
  refine⟨_,rfl,_,rfl,_,_,rfl,rfl,_,rfl,p,40,rfl,hp2,by decide,by decide,fun r3 H3 r30 r31 hp3 k3=>?_⟩
  obtain⟨e,em,ee⟩:=uZ oth.cps.toList (0-1-r3) (by lia) (by lia)
  refine⟨_,_,rfl,rfl,oth,_,e,rfl,rfl,sz (by show oth.cps.toList.length≤1000;lia),ee,?_⟩
  refine⟨_,rfl,_,rfl,_,_,rfl,rfl,sz (by show 1+2≤1000;decide),_,rfl,(by show 7≤sizeLine;decide),fun l hl=>?_⟩
  have zz:∀x∈[V.str (aA d),V.str (aA e),V.str ⟨#[c,c]⟩,V.str "",V.str ((Str.ofString "z")++⟨#[c,c]⟩),V.str "\n",V.str (aA d)],∃z:Str,x=.str z∧sC z:=by
   have hd:=om d dm
   have he:=om e em
   intro x hx
   simp only[List.mem_cons,List.not_mem_nil,or_false] at hx
   rcases hx with rfl | rfl | rfl | rfl | rfl | rfl | rfl
   ·exact⟨_,rfl,by show 1≤1000;decide,jj hd⟩
   ·exact⟨_,rfl,by show 1≤1000;decide,jj he⟩
   ·exact⟨_,rfl,by show 2≤1000;decide,kW (by lia)⟩
   ·exact⟨_,rfl,by decide+kernel,by decide+kernel⟩
   ·exact⟨_,rfl,by rw[tE];show 1+2≤1000;decide,sY (by decide+kernel) (kW (by lia))⟩
   ·exact⟨_,rfl,by decide+kernel,by decide+kernel⟩
   ·exact⟨_,rfl,by show 1≤1000;decide,jj hd⟩
  have ll:[V.str (aA d),V.str (aA e),V.str ⟨#[c,c]⟩,V.str "",V.str ((Str.ofString "z")++⟨#[c,c]⟩),V.str "\n",V.str (aA d)].length=7:=rfl
  have s4:=Same.upd (o:=.lst [V.str (aA d),V.str (aA e),V.str ⟨#[c,c]⟩,V.str "",V.str ((Str.ofString "z")++⟨#[c,c]⟩),V.str "\n",V.str (aA d)]) hl
  have hl4:=ae (H:=H3) (a:=l) (o:=.lst [V.str (aA d),V.str (aA e),V.str ⟨#[c,c]⟩,V.str "",V.str ((Str.ofString "z")++⟨#[c,c]⟩),V.str "\n",V.str (aA d)])
  generalize [V.str (aA d),V.str (aA e),V.str ⟨#[c,c]⟩,V.str "",V.str ((Str.ofString "z")++⟨#[c,c]⟩),V.str "\n",V.str (aA d)]=xs at zz ll s4 hl4 ⊢
  generalize L2.upd H3 l (.lst xs)=H4 at s4 hl4 ⊢
  have nlp:l≠p:=(hp3.ne hl).symm
  have hp4:=hp3.same s4
  refine⟨_,rfl,p,7,rfl,hp4,by decide,by decide,fun r5 H5 r50 r51 hp5 k5=>?_⟩
  obtain⟨x,_,xm,ex⟩:=cB xs r5 r50 (by rw[ll];exact r51)
  obtain⟨z,rfl,zo⟩:=zz x xm
  refine⟨l,_,_,_,rfl,rfl,SqL.of (k5 _ _ hl4 nlp),ex,?_⟩
  have k05:Keep p H H5:=fun b o h n=>k5 _ _ (s4 _ _ (k3 _ _ (k2 _ _ (k1 _ _ h n) n) n)) n
  have ha5:=k05 _ _ ha nap
  refine⟨_,rfl,_,rfl,a,_,rfl,SqL.of ha5,_,_,rfl,rfl,p,_,rfl,hp5,by rw[List.length_map];lia,by rw[List.length_map];lia,fun at_ H6 a0 a1 hp6 k6=>?_⟩
  rw[List.length_map] at a1
  obtain⟨n,rfl⟩:∃n:Nat,at_=(n:Int):=⟨at_.toNat,by lia⟩
  have ha6:=k6 _ _ ha5 nap
  have tz1:Txt [z]:=fun y hy=>by rw[List.mem_singleton.mp hy];exact zo
  refine md (i:=1) (j:=6) (n:=n) rfl rfl ha6 fun x1 H7 _ hx1 s7=>?_
  refine⟨_,rfl,(by show 1≤sizeLine;decide),fun x2 hx2=>?_⟩
  refine gc (s:=zs.take n) (v:=[z]) ((Same.upd hx2) _ _ hx1) ae (by rw[List.length_take];simp;lia) fun x3 H8 _ hx3 s8=>?_
  have s68:=(s7.trans (Same.upd (o:=.lst [V.str z]) hx2)).trans s8
  refine oO (i:=1) (j:=6) (n:=n) rfl rfl (s68 _ _ ha6) fun x4 H9 _ hx4 s9=>?_
  refine gc (s:=zs.take n++[z]) (v:=zs.drop n) (s9 _ _ hx3) hx4 (by simp;lia) fun x5 H10 _ hx5 s10=>?_
  have s610:=(s68.trans s9).trans s10
  refine md (i:=1) (j:=6) (n:=n) rfl rfl (s610 _ _ ha6) fun x6 H11 _ hx6 s11=>?_
  refine⟨_,rfl,(by show 1≤sizeLine;decide),fun x7 hx7=>?_⟩
  refine gc (s:=zs.take n) (v:=[z]) ((Same.upd hx7) _ _ hx6) ae (by rw[List.length_take];simp;lia) fun x8 H12 _ hx8 s12=>?_
  have s1012:=(s11.trans (Same.upd (o:=.lst [V.str z]) hx7)).trans s12
  refine vR (i:=1) (j:=6) (n:=n) rfl rfl (s1012 _ _ (s610 _ _ ha6)) fun x9 H13 _ hx9 s13=>?_
  refine gc (s:=zs.take n++[z]) (v:=zs.drop (n+1)) (s13 _ _ hx8) hx9 (by simp;lia) fun x10 H14 _ hx10 s14=>?_
  have s1014:=(s1012.trans s13).trans s14
  have s614:=s610.trans s1014
  refine⟨(by show 2≤sizeLine;decide),fun m hm=>?_⟩
  have s15:=Same.upd (o:=.lst [V.ref x5,V.ref x10]) hm
  have hm15:=ae (H:=H14) (a:=m) (o:=.lst [V.ref x5,V.ref x10])
  have hx515:=s15 _ _ (s1014 _ _ hx5)
  have hx1015:=s15 _ _ hx10
  generalize L2.upd H14 m (.lst [V.ref x5,V.ref x10])=H15 at s15 hm15 hx515 hx1015 ⊢
  have hp15:=(hp6.same s614).same s15
  have nmp:m≠p:=((hp6.same s614).ne hm).symm
  refine⟨_,rfl,p,2,rfl,hp15,by decide,by decide,fun r6 H16 r60 r61 hp16 k16=>?_⟩
  have k016:Keep p H H16:=fun b o h n'=>k16 _ _ (s15 _ _ (s614 _ _ (k6 _ _ (k05 _ _ h n') n'))) n'
  have:r6=0∨r6=1:=by lia
  rcases this with rfl | rfl
  ·exact⟨m,_,_,_,rfl,rfl,SqL.of (k16 _ _ hm15 nmp),bc (j:=0) rfl,k _ x5 H16 (k16 _ _ hx515 (dg hp15 hx515)) (((tz.take _).app tz1).app (tz.drop _)) (by simp;lia) hp16 k016⟩
  ·exact⟨m,_,_,_,rfl,rfl,SqL.of (k16 _ _ hm15 nmp),bc (j:=1) rfl,k _ x10 H16 (k16 _ _ hx1015 (dg hp15 hx1015)) (((tz.take _).app tz1).app (tz.drop _)) (by simp;lia) hp16 k016⟩
end
abbrev jD:Stmt:=aW 40
abbrev jL:Stmt:=aW 41
def bd(at_:Nat):List Bool:=(List.range 10).map fun k=>(k == at_) || (k == 9)
def dH(cNoWord cNoSign cNoText cNoChain cNoCover cNoNumber cTooMany cNoForm cNoneYet:Addr):List Addr:=[cNoWord,cNoSign,cNoText,cNoChain,cNoCover,cNoNumber,cTooMany,cNoForm,cNoneYet]
def mM(cs:List Addr):Sp:=fun vs H Q _=>∃(e D:Addr) (j:Nat),vs=[.ref e]∧H e=some (.ext (bS e (.ref D)))∧cs[j]?=some D∧∀(r:Addr) (H':Hp),H r=none→H' r=some (.lst ((bd j).map V.bl))→Same H H'→Q (.ref r) H'
def iY:Sp:=fun vs H Q _=>∃j:Nat,j<9∧vs=[.int (j:Int)]∧∀(r:Addr) (H':Hp),H r=none→H' r=some (.lst ((bd j).map V.bl))→Same H H'→Q (.ref r) H'
theorem iN{te:TE}{i:Nat}{rest:TS}{D:Ends}{σ:St}{H:Hp}(h:te σ H fun x H1=>rest D (σ.set i (some x)) H1):fe (dL te (cD i)) rest D σ H:=h
section
variable{P:Program}{w:World}{K:PySem.W.Frag}{mg:Str→Option Value}{base:Heap}{cCoverError cNoWord cNoSign cNoText cNoCover cNoChain cNoForm cNoNumber cNoneYet cTooMany:Addr}
theorem scFlags:FnScope ["e","found"] ["e"] (aC jD):=fsc_
theorem pW(M:Md K mg)(B:Bl mg)(F:FF K "_law_flags" jD)(S:Exs K mg cCoverError cNoWord cNoSign cNoText cNoCover cNoChain cNoForm cNoNumber cNoneYet cTooMany):FnH P w K mg base "_law_flags" 1 ["e"] (mM (dH cNoWord cNoSign cNoText cNoChain cNoCover cNoNumber cTooMany cNoForm cNoneYet)):=by
 obtain⟨bCoverError,bNoWord,bNoSign,bNoText,bNoCover,bNoChain,bNoForm,bNoNumber,bNoneYet,bTooMany,nValueError,facts,nd⟩:=S
 refine sA M F scFlags (fun _ _ _ _ _ _=>bE fun _=>rfl) (fun vs H Q E h=>?_) (fun f cdv A outer s H vs Q hr h=>?_)
 ·obtain⟨e,D,j,rfl,_⟩:=h;rfl
 ·obtain⟨e,D,j,rfl,hH,hj,k⟩:=h
  have hmem:D∈[cNoWord,cNoSign,cNoText,cNoCover,cNoChain,cNoForm,cNoNumber,cNoneYet,cTooMany]:=by
   have:=List.mem_of_getElem? hj
   simp only[dH,List.mem_cons,List.not_mem_nil,or_false] at this
   simp only[List.mem_cons,List.not_mem_nil,or_false]
   rcases this with h | h | h | h | h | h | h | h | h <;> simp[h]
  have hF:=excFacts.of facts D hmem
  have efl:[D == cNoWord,D == cNoSign,D == cNoText,D == cNoChain,D == cNoCover,D == cNoNumber,D == cTooMany,D == cNoForm,D == cNoneYet,true]=bd j:=by
   have ne:∀x y:Addr,x≠y→(x == y)=false:=fun x y q=>beq_eq_false_iff_ne.mpr q
   simp only[List.nodup_cons,List.mem_cons,List.not_mem_nil,or_false,not_or] at nd
   obtain⟨⟨a1,a2,a3,a4,a5,a6,a7,a8⟩,⟨b2,b3,b4,b5,b6,b7,b8⟩,⟨c3',c4',c5,c6,c7,c8⟩,⟨d4,d5,d6,d7,d8⟩,⟨e5,e6,e7,e8⟩,⟨f6,f7,f8⟩,⟨g7,g8⟩,h8,_⟩:=nd
   match j,hj with
   | 0,hj=>cases Option.some.inj hj;rw[beq_self_eq_true,ne _ _ a1,ne _ _ a2,ne _ _ a3,ne _ _ a4,ne _ _ a5,ne _ _ a6,ne _ _ a7,ne _ _ a8];rfl
   | 1,hj=>cases Option.some.inj hj;rw[beq_self_eq_true,ne _ _ (Ne.symm a1),ne _ _ b2,ne _ _ b3,ne _ _ b4,ne _ _ b5,ne _ _ b6,ne _ _ b7,ne _ _ b8];rfl
   | 2,hj=>cases Option.some.inj hj;rw[beq_self_eq_true,ne _ _ (Ne.symm a2),ne _ _ (Ne.symm b2),ne _ _ c3',ne _ _ c4',ne _ _ c5,ne _ _ c6,ne _ _ c7,ne _ _ c8];rfl
   | 3,hj=>cases Option.some.inj hj;rw[beq_self_eq_true,ne _ _ (Ne.symm a4),ne _ _ (Ne.symm b4),ne _ _ (Ne.symm c4'),ne _ _ (Ne.symm d4),ne _ _ e5,ne _ _ e6,ne _ _ e7,ne _ _ e8];rfl
   | 4,hj=>cases Option.some.inj hj;rw[beq_self_eq_true,ne _ _ (Ne.symm a3),ne _ _ (Ne.symm b3),ne _ _ (Ne.symm c3'),ne _ _ d4,ne _ _ d5,ne _ _ d6,ne _ _ d7,ne _ _ d8];rfl
   | 5,hj=>cases Option.some.inj hj;rw[beq_self_eq_true,ne _ _ (Ne.symm a6),ne _ _ (Ne.symm b6),ne _ _ (Ne.symm c6),ne _ _ (Ne.symm d6),ne _ _ (Ne.symm e6),ne _ _ (Ne.symm f6),ne _ _ g7,ne _ _ g8];rfl
   | 6,hj=>cases Option.some.inj hj;rw[beq_self_eq_true,ne _ _ (Ne.symm a8),ne _ _ (Ne.symm b8),ne _ _ (Ne.symm c8),ne _ _ (Ne.symm d8),ne _ _ (Ne.symm e8),ne _ _ (Ne.symm f8),ne _ _ (Ne.symm g8),ne _ _ (Ne.symm h8)];rfl
   | 7,hj=>cases Option.some.inj hj;rw[beq_self_eq_true,ne _ _ (Ne.symm a5),ne _ _ (Ne.symm b5),ne _ _ (Ne.symm c5),ne _ _ (Ne.symm d5),ne _ _ (Ne.symm e5),ne _ _ f6,ne _ _ f7,ne _ _ f8];rfl
   | 8,hj=>cases Option.some.inj hj;rw[beq_self_eq_true,ne _ _ (Ne.symm a7),ne _ _ (Ne.symm b7),ne _ _ (Ne.symm c7),ne _ _ (Ne.symm d7),ne _ _ (Ne.symm e7),ne _ _ (Ne.symm f7),ne _ _ (Ne.symm g7),ne _ _ h8];rfl
   | j+9,hj=>simp[dH] at hj
  refine⟨_,(af (aw (i:=1) scFlags.nd rfl (.inl rfl) (aN (aa (cX B.isinst bNoWord (pv 0)) (aa (cX B.isinst bNoSign (pv 0)) (aa (cX B.isinst bNoText (pv 0)) (aa (cX B.isinst bNoChain (pv 0)) ac))))))
   (af (aw (i:=1) scFlags.nd rfl (.inl rfl) (aq cj (pv 1) (aN (aa (cX B.isinst bNoCover (pv 0)) (aa (cX B.isinst bNoNumber (pv 0)) (aa (cX B.isinst bTooMany (pv 0)) ac))))))
   (ah (aH (aq cj (pv 1) (aN (aa (cX B.isinst bNoForm (pv 0)) (aa (cX B.isinst bNoneYet (pv 0)) (aa (sj B.isinst nValueError vv (pv 0)) ac))))))))),?_⟩
  refine iN ?_
  refine⟨_,rfl,e,D,_,rfl,hH,hF.kit,hF.one cNoWord (by simp),_,rfl,e,D,_,rfl,hH,hF.kit,hF.one cNoSign (by simp),_,rfl,e,D,_,rfl,hH,hF.kit,hF.one cNoText (by simp),_,rfl,e,D,_,rfl,hH,hF.kit,hF.one cNoChain (by simp),by show 4≤sizeLine;decide,fun l hl=>?_⟩
  have s1:=Same.upd (o:=.lst [V.bl (D == cNoWord),.bl (D == cNoSign),.bl (D == cNoText),.bl (D == cNoChain)]) hl
  have hl1:=ae (H:=H) (a:=l) (o:=.lst [V.bl (D == cNoWord),.bl (D == cNoSign),.bl (D == cNoText),.bl (D == cNoChain)])
  generalize L2.upd H l (.lst [V.bl (D == cNoWord),.bl (D == cNoSign),.bl (D == cNoText),.bl (D == cNoChain)])=H2 at s1 hl1 ⊢
  have hH2:=s1 _ _ hH
  refine iN ?_
  refine⟨_,rfl,_,rfl,e,D,_,rfl,hH2,hF.kit,hF.one cNoCover (by simp),_,rfl,e,D,_,rfl,hH2,hF.kit,hF.one cNoNumber (by simp),_,rfl,e,D,_,rfl,hH2,hF.kit,hF.one cTooMany (by simp),by show 3≤sizeLine;decide,fun l2 hl2=>?_⟩
  have s2:=Same.upd (o:=.lst [V.bl (D == cNoCover),.bl (D == cNoNumber),.bl (D == cTooMany)]) hl2
  have hl22:=ae (H:=H2) (a:=l2) (o:=.lst [V.bl (D == cNoCover),.bl (D == cNoNumber),.bl (D == cTooMany)])
  generalize L2.upd H2 l2 (.lst [V.bl (D == cNoCover),.bl (D == cNoNumber),.bl (D == cTooMany)])=H3 at s2 hl22 ⊢
  refine⟨l,l2,_,_,rfl,rfl,s2 _ _ hl1,hl22,by show 7≤sizeLine;decide,fun l3 hl3=>?_⟩
  have s3:=Same.upd (o:=.lst ([V.bl (D == cNoWord),.bl (D == cNoSign),.bl (D == cNoText),.bl (D == cNoChain)]++[V.bl (D == cNoCover),.bl (D == cNoNumber),.bl (D == cTooMany)])) hl3
  have hl33:=ae (H:=H3) (a:=l3) (o:=.lst ([V.bl (D == cNoWord),.bl (D == cNoSign),.bl (D == cNoText),.bl (D == cNoChain)]++[V.bl (D == cNoCover),.bl (D == cNoNumber),.bl (D == cTooMany)]))
  generalize L2.upd H3 l3 (.lst ([V.bl (D == cNoWord),.bl (D == cNoSign),.bl (D == cNoText),.bl (D == cNoChain)]++[V.bl (D == cNoCover),.bl (D == cNoNumber),.bl (D == cTooMany)]))=H4 at s3 hl33 ⊢
  have hH4:=s3 _ _ (s2 _ _ hH2)
  refine⟨_,rfl,_,rfl,e,D,_,rfl,hH4,hF.kit,hF.one cNoForm (by simp),_,rfl,e,D,_,rfl,hH4,hF.kit,hF.one cNoneYet (by simp),_,rfl,e,D,_,rfl,hH4,hF.kit,hF.val,by show 3≤sizeLine;decide,fun l4 hl4=>?_⟩
  have s4:=Same.upd (o:=.lst [V.bl (D == cNoForm),.bl (D == cNoneYet),.bl true]) hl4
  have hl44:=ae (H:=H4) (a:=l4) (o:=.lst [V.bl (D == cNoForm),.bl (D == cNoneYet),.bl true])
  generalize L2.upd H4 l4 (.lst [V.bl (D == cNoForm),.bl (D == cNoneYet),.bl true])=H5 at s4 hl44 ⊢
  refine⟨l3,l4,_,_,rfl,rfl,s4 _ _ hl33,hl44,by show 10≤sizeLine;decide,fun l5 hl5=>?_⟩
  have s14:=((s1.trans s2).trans s3).trans s4
  refine k l5 _ (s14.free hl5) ?_ (s14.trans (Same.upd hl5))
  rw[ae,←efl]
  rfl
theorem qg:FnScope ["at"] ["at"] (aC jL):=fsc_
theorem vG(M:Md K mg)(B:Bl mg)(F:FF K "_law_due_flags" jL):Fn P w K mg base ak "_law_due_flags" 1 ["at"] iY:=by
 refine ba M F qg (fun _ _ _ _ _ _=>bE fun _=>rfl) (fun vs H Q E h=>?_) (fun f cdv A outer s H vs Q E hr h=>?_)
 ·obtain⟨j,_,rfl,_⟩:=h;rfl
 ·obtain⟨j,hj,rfl,k⟩:=h
  refine⟨_,(ah (aH (dD ["at"] rfl (dX (by rfl) B.range (aa ad ac)) (fun _=>by exact fw) (fun _=>by exact(eI mw (pv 1) (eA (aa (pv 0) (aa ad ac))) (by with_unfolding_all rfl)))))),?_⟩
  refine⟨10,rfl,by decide,by decide,fun D hD cb=>?_⟩
  refine fE (lo:=0) (n:=10) (fun i ys H2=>ys=((List.range i).map fun k=>(k == j) || (k == 9)).map V.bl∧Same H H2∧H2 D=some (.lst ys)) (by decide) ?_ ?_ ?_ ?_
  ·exact⟨rfl,Same.upd hD,ae⟩
  ·rintro i ys H2 ⟨rfl,_⟩;simp
  ·rintro i ys H2 hi ⟨rfl,s2,hD2⟩
   refine fz ?_
   refine⟨_,rfl,_,rfl,by show 2≤sizeLine;decide,fun tp htp=>?_⟩
   have s3:=Same.upd (o:=.tup [V.int (j:Int),.int 9]) htp
   refine⟨tp,_,rfl,.inr (SqT.of ae),rfl,rfl,s3 _ _ hD2,?_,fun z o e=>?_,ae⟩
   ·rw[List.range_succ,List.map_append,List.map_append]
    congr 2
    show V.bl (cz (.int (0+(i:Int))) [.int (j:Int),.int 9])=V.bl ((i == j) || (i == 9))
    congr 1
    simp only[cz,List.any_cons,List.any_nil,Bool.or_false]
    have e1:cr (.int (j:Int)) (.int (0+(i:Int)))=(i == j):=by
     show decide ((j:Int)=0+(i:Int))=_
     by_cases h:i=j
     ·subst h;simp
     ·rw[decide_eq_false (by lia)];exact(beq_eq_false_iff_ne.mpr h).symm
    have e2:cr (.int 9) (.int (0+(i:Int)))=(i == 9):=by
     show decide ((9:Int)=0+(i:Int))=_
     by_cases h:i=9
     ·subst h;rfl
     ·rw[decide_eq_false (by lia)];exact(beq_eq_false_iff_ne.mpr h).symm
    rw[e1,e2]
   ·rw[ao (aR e hD)]
    exact s3 _ _ (s2 _ _ e)
  ·rintro ys H2 ⟨rfl,s2,hD2⟩
   exact k D H2 hD hD2 s2
end
abbrev iA:Stmt:=aW 42
theorem tN{K:PySem.W.Frag}{C:Addr}{i:Nat}{tb:St→XK→TS}{th rest:TS}{D:Ends}{σ:St}{H:Hp}(T:St→Hp→Prop)(hr:∀σ' H',T σ' H'→rest D σ' H')(h:∀R:St→Hp→Prop,(∀σ' H',T σ' H'→R σ' H')→gA K C i tb th {D with nx:=R} σ H):fe (gA K C i tb th) rest D σ H:=h (rest D) hr
theorem ur{K:PySem.W.Frag}{C:Addr}{i:Nat}{tb:St→XK→TS}{th:TS}{D:Ends}{σ:St}{H:Hp}(Ex:XK)(hEx:∀cls o H',Ex cls o H'→PySem.W.exmOne K cls (.ref C)=some true∧∀e,H' e=none→th (D.drop i) (σ.set i (some (.ref e))) (L2.upd H' e (.ext (bS e cls))))(hb:∀Ex':XK,(∀cls o H',Ex cls o H'→Ex' cls o H')→tb σ Ex' D σ H):gA K C i tb th D σ H:=hb _ hEx
theorem lw(zs:List Str):zs=[]∨(zs≠ []∧zs.all aG=false)∨∃u,Low u∧1≤u.length∧zs=u.map aA:=by
 by_cases h:zs=[]
 ·exact .inl h
 ·cases h2:zs.all aG with
  | false=>exact .inr (.inl ⟨h,rfl⟩)
  | true=>
    obtain⟨u,lu,rfl⟩:=ig h2
    refine .inr (.inr ⟨u,lu,?_,rfl⟩)
    cases u with
    | nil=>exact absurd rfl h
    | cons x r=>simp
def dY(zs ts:List Str)(bs:List Bool):Prop:=(zs=[]∧bs=bd 0)∨(zs≠ []∧zs.all aG=false∧bs=bd 1)∨(zs≠ []∧zs.all aG=true∧ts.all aG=false∧bs=bd 1)∨(zs≠ []∧zs.all aG=true∧ts.all aG=true∧ts.length<zs.length∧bs=bd 2)
def W0(zs:List Str)(bs:List Bool):Prop:=(zs=[]∧bs=bd 0)∨(zs≠ []∧zs.all aG=false∧bs=bd 1)∨∃u,Low u∧1≤u.length∧zs=u.map aA∧bs=[]
def fj(zs ts:List Str)(t u:List Nat):Prop:=Low u∧1≤u.length∧Low t∧zs=u.map aA∧ts=t.map aA∧u.length≤t.length
def W1(zs ts:List Str)(ns:List Int)(bs:List Bool):Prop:=dY zs ts bs∨∃t u,fj zs ts t u∧((¬(ns=[0]∧t.length=u.length)∧bs=bd 3)∨(ns=[0]∧t.length=u.length∧bs=[]))
def W2(zs ts:List Str)(bs:List Bool):Prop:=dY zs ts bs∨∃t u,fj zs ts t u∧(((∀l,¬Ch (aB u) 0 (t.length-u.length) l)∧bs=bd 4)∨((∃l,Ch (aB u) 0 (t.length-u.length) l)∧bs=[]))
def W3(ts:List Str)(n:Int)(bs:List Bool):Prop:=(ts.all aG=false∧bs=bd 1)∨(ts.all aG=true∧¬(1≤n∧n≤ts.length)∧bs=bd 5)∨(∃t,Low t∧ts=t.map aA∧1≤n∧n≤t.length∧bs=[])
theorem nE(zs ts:List Str):(∃bs,dY zs ts bs)∨∃t u,fj zs ts t u:=by
 rcases lw zs with h | ⟨h,h2⟩ | ⟨u,lu,u1,h⟩
 ·exact .inl ⟨_,.inl ⟨h,rfl⟩⟩
 ·exact .inl ⟨_,.inr (.inl ⟨h,h2,rfl⟩)⟩
 ·have hz:zs≠ []:=fun e=>by
   rw[h,List.map_eq_nil_iff] at e
   rw[e] at u1;exact absurd u1 (by decide)
  have ha:zs.all aG=true:=by rw[h];exact eD lu
  cases h2:ts.all aG with
  | false=>exact .inl ⟨_,.inr (.inr (.inl ⟨hz,ha,h2,rfl⟩))⟩
  | true=>
    by_cases h3:ts.length<zs.length
    ·exact .inl ⟨_,.inr (.inr (.inr ⟨hz,ha,h2,h3,rfl⟩))⟩
    ·obtain⟨t,lt,rfl⟩:=ig h2
     refine .inr ⟨t,u,lu,u1,lt,h,rfl,?_⟩
     rw[h,List.length_map,List.length_map] at h3
     lia
theorem vX(zs:List Str):∃bs,W0 zs bs:=by
 rcases lw zs with h | ⟨h,h2⟩ | ⟨u,lu,u1,h⟩
 ·exact⟨_,.inl ⟨h,rfl⟩⟩
 ·exact⟨_,.inr (.inl ⟨h,h2,rfl⟩)⟩
 ·exact⟨_,.inr (.inr ⟨u,lu,u1,h,rfl⟩)⟩
theorem sq(zs ts:List Str)(ns:List Int):∃bs,W1 zs ts ns bs:=by
 rcases nE zs ts with⟨bs,h⟩ | ⟨t,u,h⟩
 ·exact⟨bs,.inl h⟩
 ·by_cases c:ns=[0]∧t.length=u.length
  ·exact⟨_,.inr ⟨t,u,h,.inr ⟨c.1,c.2,rfl⟩⟩⟩
  ·exact⟨_,.inr ⟨t,u,h,.inl ⟨c,rfl⟩⟩⟩
theorem u6(zs ts:List Str):∃bs,W2 zs ts bs:=by
 rcases nE zs ts with⟨bs,h⟩ | ⟨t,u,h⟩
 ·exact⟨bs,.inl h⟩
 ·by_cases c:∃l,Ch (aB u) 0 (t.length-u.length) l
  ·exact⟨_,.inr ⟨t,u,h,.inr ⟨c,rfl⟩⟩⟩
  ·exact⟨_,.inr ⟨t,u,h,.inl ⟨fun l hl=>c ⟨l,hl⟩,rfl⟩⟩⟩
theorem tf(ts:List Str)(n:Int):∃bs,W3 ts n bs:=by
 cases h2:ts.all aG with
 | false=>exact⟨_,.inl ⟨h2,rfl⟩⟩
 | true=>
   by_cases c:1≤n∧n≤ts.length
   ·obtain⟨t,lt,rfl⟩:=ig h2
    rw[List.length_map] at c
    exact⟨_,.inr (.inr ⟨t,lt,rfl,c.1,c.2,rfl⟩)⟩
   ·exact⟨_,.inr (.inl ⟨h2,c,rfl⟩)⟩
def gU(ns:List Int):Prop:=ns.length≤1∨ns=[0,0]
theorem uX{u:List Nat}{ns:List Int}{q:Nat}(h:gU ns)(hn:¬(ns=[0]∧q=0)):bG (aB u) ns (q:Int)=false:=by
 rcases h with h | rfl
 ·match ns,h with
  | [],_=>rfl
  | [x],_=>
    unfold bG
    by_cases hx:x=0
    ·subst hx
     have:¬((0:Int)=(q:Int)):=fun e=>hn ⟨rfl,by lia⟩
     simp[this]
    ·simp[hx]
 ·unfold bG
  have:¬((0:Int)∈(aB u).map fun(s:Nat)=>(s:Int)):=fun e=>by
   obtain⟨s,hs,e⟩:=List.mem_map.mp e
   have:=(cY u s hs).1
   lia
  have hd:(dO [0,0]).all (fun d=>decide (d∈(aB u).map fun(s:Nat)=>(s:Int)))=false:=by
   show(([0]:List Int).all _)=false
   rw[List.all_cons,decide_eq_false this];rfl
  rw[hd];simp
def jW(H:Hp)(way:Nat)(ts zs:List Str)(more:V)(bs:List Bool):Prop:=(way=0∧W0 zs bs)∨(way=1∧∃c ns,more=.ref c∧H c=some (.lst (ns.map V.int))∧gU ns∧W1 zs ts ns bs)∨(way=2∧W2 zs ts bs)∨(way=3∧∃n:Int,more=.int n∧W3 ts n bs)
def lS:Sp:=fun vs H Q _=>∃(way:Nat) (a b:Addr) (ts zs:List Str) (more:V) (bs:List Bool),vs=[.int (way:Int),.ref a,.ref b,more]∧H a=some (.lst (ts.map V.str))∧H b=some (.lst (zs.map V.str))∧Txt ts∧Txt zs∧ts.length≤300∧zs.length≤300∧jW H way ts zs more bs∧
 ∀(r:Addr) (H':Hp),H' r=some (.lst (bs.map V.bl))→Same H H'→Q (.ref r) H'
section
variable{P:Program}{w:World}{K:PySem.W.Frag}{mg:Str→Option Value}{base:Heap}{cCoverError cNoWord cNoSign cNoText cNoCover cNoChain cNoForm cNoNumber cNoneYet cTooMany:Addr}
theorem nH{zs ts:List Str}{bs:List Bool}(h:dY zs ts bs):∃c j,eF cNoWord cNoSign cNoText zs ts=some c∧(dH cNoWord cNoSign cNoText cNoChain cNoCover cNoNumber cTooMany cNoForm cNoneYet)[j]?=some c∧bs=bd j:=by
 unfold eF
 rcases h with⟨h,e⟩ | ⟨h,h1,e⟩ | ⟨h,h1,h2,e⟩ | ⟨h,h1,h2,h3,e⟩
 ·exact⟨_,0,by rw[if_pos h],rfl,e⟩
 ·exact⟨_,1,by rw[if_neg h,if_pos h1],rfl,e⟩
 ·exact⟨_,1,by rw[if_neg h,if_neg (by rw[h1];decide),if_pos h2],rfl,e⟩
 ·exact⟨_,2,by rw[if_neg h,if_neg (by rw[h1];decide),if_neg (by rw[h2];decide),if_pos h3],rfl,e⟩
theorem scSaid:FnScope ["way","text","word","more","found","e"] ["way","text","word","more"] (aC iA):=fsc_
theorem pj(M:Md K mg)(B:Bl mg)(F:FF K "_law_said" iA)(S:Exs K mg cCoverError cNoWord cNoSign cNoText cNoCover cNoChain cNoForm cNoNumber cNoneYet cTooMany)(Fshifts:Fn P w K mg base (aS P w) "shifts" 5 ["word"] (fun vs H Q E=>dN vs H Q E∨nR cNoWord cNoSign vs H Q E))
 (Fchain_cost:Fn P w K mg base (aS P w) "chain_cost" 7 ["text","word","chain"] (fun vs H Q E=>j8 cNoChain vs H Q E∨nU cNoWord cNoSign cNoText vs H Q E))
 (Ffewest_wrong:Fn P w K mg base (aS P w) "fewest_wrong" 7 ["text","word"] (fun vs H Q E=>lq cNoCover vs H Q E∨nC cNoWord cNoSign cNoText vs H Q E))
 (Fnearest_piece:Fn P w K mg base (aS P w) "nearest_piece" 7 ["text","many"] (fun vs H Q E=>m6 vs H Q E∨mv cNoSign cNoNumber vs H Q E))
 (F_law_flags:FnH P w K mg base "_law_flags" 1 ["e"] (mM (dH cNoWord cNoSign cNoText cNoChain cNoCover cNoNumber cTooMany cNoForm cNoneYet))):Fn P w K mg base ak "_law_said" 8 ["way","text","word","more"] lS:=by
 have bCoverError:=S.bCoverError
 refine ba M F scSaid (fun _ _ _ _ _ _=>iO fun _ _ _ _=>rfl) (fun vs H Q E h=>?_) (fun f cdv A outer s H vs Q E hr h=>?_)
 ·obtain⟨way,a,b,ts,zs,more,bs,rfl,_⟩:=h;rfl
 ·obtain⟨way,a,b,ts,zs,more,bs,rfl,ha,hb,tt,tz,tl,zl,hA,k⟩:=h
  refine⟨_,(af (aw (i:=4) scSaid.nd rfl (.inl rfl) (aN ac))
   (af (qD (i:=5) bCoverError scSaid.nd rfl rfl (fun _ _ _=>by exact(ah (aM (aD bo (pv 0) ad (aF _)) (ah (bb (gT Fshifts hr (aa (pv 2) ac)))) (ah (aM (aD bo (pv 0) ad (aF _)) (ah (bb (gT Fchain_cost hr (aa (pv 1) (aa (pv 2) (aa (pv 3) ac)))))) (ah (aM (aD bo (pv 0) ad (aF _)) (ah (bb (gT Ffewest_wrong hr (aa (pv 1) (aa (pv 2) ac))))) (ah (bb (gT Fnearest_piece hr (aa (pv 1) (aa (pv 3) ac))))))))))))
   (fun _ _=>by exact(ah (aw (i:=4) scSaid.nd rfl (.inl rfl) (rE F_law_flags (qE hr) (aa (pv 5) ac))))))
   (ah (aH (pv 4))))),?_⟩
  refine iN ⟨Nat.zero_le _,fun fl hfl=>?_⟩
  have s0:=Same.upd (o:=.lst []) hfl
  have hf1:=ae (H:=H) (a:=fl) (o:=.lst [])
  generalize L2.upd H fl (.lst [])=H1 at s0 hf1 ⊢
  have hb1:=s0 _ _ hb
  have ha1:=s0 _ _ ha
  refine tN (fun σ H'=>∃r,σ[4]?=some (some (.ref r))∧H' r=some (.lst (bs.map V.bl))∧Same H H') (fun σ H' h=>?_) fun R hR=>?_
  ·obtain⟨r,h1,h2,h3⟩:=h
   exact⟨_,h1,k r H' h2 h3⟩
  refine ur (fun cls _ H'=>∃(c:Addr) (j:Nat),cls=.ref c∧(dH cNoWord cNoSign cNoText cNoChain cNoCover cNoNumber cTooMany cNoForm cNoneYet)[j]?=some c∧bs=bd j∧Same H H') ?_ fun Ex hEx=>?_
  ·rintro _ _ H' ⟨c,j,rfl,hj,eb,k'⟩
   have hmem:c∈[cNoWord,cNoSign,cNoText,cNoCover,cNoChain,cNoForm,cNoNumber,cNoneYet,cTooMany]:=by
    have:=List.mem_of_getElem? hj
    simp only[dH,List.mem_cons,List.not_mem_nil,or_false] at this
    simp only[List.mem_cons,List.not_mem_nil,or_false]
    rcases this with h | h | h | h | h | h | h | h | h <;> simp[h]
   have hF:=excFacts.of S.facts c hmem
   refine⟨hF.exm,fun e he=>?_⟩
   have se:=Same.upd (o:=.ext (bS e (.ref c))) he
   exact⟨_,rfl,e,c,j,rfl,ae,hj,fun r H2 hr0 hr2 s2=>hR _ _ ⟨r,rfl,by rw[eb];exact hr2,(k'.trans se).trans s2⟩⟩
  ·have ks:∀(c:Addr) (j:Nat),(dH cNoWord cNoSign cNoText cNoChain cNoCover cNoNumber cTooMany cNoForm cNoneYet)[j]?=some c→bs=bd j→∀H',Same H1 H'→Ex (.ref c) none H':=fun c j hj eb H' s'=>hEx _ _ _ ⟨c,j,rfl,hj,eb,s0.trans s'⟩
   have kt:bs=[]→∀H',Same H1 H'→R [some (.int (way:Int)),some (.ref a),some (.ref b),some more,some (.ref fl),none] H':=fun eb H' k'=>hR _ _ ⟨fl,rfl,by rw[eb];exact k' _ _ hf1,s0.trans k'⟩
   clear hEx hR
   rcases hA with⟨rfl,D⟩ | ⟨rfl,c,ns,rfl,hc,hL,D⟩ | ⟨rfl,D⟩ | ⟨rfl,n,rfl,D⟩
   ·refine⟨_,rfl,rfl,_,rfl,aE ⟨rfl,_,rfl,?_⟩⟩
    rcases D with⟨rfl,eb⟩ | ⟨ne,al,eb⟩ | ⟨u,lu,u1,rfl,eb⟩
    ·exact .inr ⟨b,[],rfl,hb1,tz,.inl ⟨rfl,ks _ 0 rfl eb⟩⟩
    ·exact .inr ⟨b,zs,rfl,hb1,tz,.inr ⟨ne,al,ks _ 1 rfl eb⟩⟩
    ·rw[bW] at hb1
     rw[List.length_map] at zl
     exact .inl ⟨b,u,rfl,hb1,lu,u1,by lia,fun r H' _ _ s'=>kt eb H' s'⟩
   ·refine⟨_,rfl,rfl,_,rfl,ar ⟨_,rfl,rfl,_,rfl,aE ⟨rfl,_,rfl,_,rfl,_,rfl,?_⟩⟩⟩
    rcases D with D | ⟨t,u,⟨lu,u1,lt,rfl,rfl,ut⟩,D⟩
    ·obtain⟨d,j,h1,h2,h3⟩:=nH (cNoWord:=cNoWord) (cNoSign:=cNoSign) (cNoText:=cNoText) (cNoCover:=cNoCover) (cNoChain:=cNoChain) (cNoForm:=cNoForm) (cNoNumber:=cNoNumber) (cNoneYet:=cNoneYet) (cTooMany:=cTooMany) D
     exact .inr ⟨a,b,c,ts,zs,d,rfl,ha1,hb1,tt,tz,h1,ks d j h2 h3 _ (Same.refl _)⟩
    ·rw[bW] at ha1 hb1
     rw[List.length_map] at tl
     have nl:ns.length≤1000:=by
      rcases hL with h | rfl
      ·lia
      ·decide
     refine .inl ⟨a,b,c,t,u,ns,rfl,ha1,hb1,s0 _ _ hc,lt,lu,u1,ut,by lia,nl,fun hf H' s'=>?_,fun l el hl H' s'=>?_⟩
     ·rcases D with⟨_,eb⟩ | ⟨rfl,e,_⟩
      ·exact ks _ 3 rfl eb H' s'
      ·have:=kr (S:=aB u) (Ch.one 0)
       rw[e,Nat.sub_self] at hf
       exact absurd (this.symm.trans hf) (by decide)
     ·rcases D with⟨hn,_⟩ | ⟨_,_,eb⟩
      ·have:=kr hl
       rw[←el,uX hL fun z=>hn ⟨z.1,by lia⟩] at this
       cases this
      ·exact kt eb H' s'
   ·refine⟨_,rfl,rfl,_,rfl,ar ⟨_,rfl,rfl,_,rfl,ar ⟨_,rfl,rfl,_,rfl,aE ⟨rfl,_,rfl,_,rfl,?_⟩⟩⟩⟩
    rcases D with D | ⟨t,u,⟨lu,u1,lt,rfl,rfl,ut⟩,D⟩
    ·obtain⟨d,j,h1,h2,h3⟩:=nH (cNoWord:=cNoWord) (cNoSign:=cNoSign) (cNoText:=cNoText) (cNoCover:=cNoCover) (cNoChain:=cNoChain) (cNoForm:=cNoForm) (cNoNumber:=cNoNumber) (cNoneYet:=cNoneYet) (cTooMany:=cTooMany) D
     exact .inr ⟨a,b,ts,zs,d,rfl,ha1,hb1,tt,tz,h1,ks d j h2 h3 _ (Same.refl _)⟩
    ·rw[bW] at ha1 hb1
     rw[List.length_map] at tl
     refine .inl ⟨a,b,t,u,rfl,ha1,hb1,lt,lu,u1,ut,by lia,fun hf H' s'=>?_,fun l hl g c H' _ _ _ _ s'=>?_⟩
     ·rcases D with⟨_,eb⟩ | ⟨⟨l,hl⟩,_⟩
      ·exact ks _ 4 rfl eb H' s'
      ·exact absurd hl (hf l)
     ·rcases D with⟨hn,_⟩ | ⟨_,eb⟩
      ·exact absurd hl.1 (hn l)
      ·exact kt eb H' s'
   ·refine⟨_,rfl,rfl,_,rfl,ar ⟨_,rfl,rfl,_,rfl,ar ⟨_,rfl,rfl,_,rfl,ar ⟨rfl,_,rfl,_,rfl,?_⟩⟩⟩⟩
    rcases D with⟨al,eb⟩ | ⟨al,hn,eb⟩ | ⟨t,lt,rfl,n1,n2,eb⟩
    ·exact .inr ⟨a,ts,n,rfl,ha1,tt,by lia,.inl ⟨al,ks _ 1 rfl eb _ (Same.refl _)⟩⟩
    ·exact .inr ⟨a,ts,n,rfl,ha1,tt,by lia,.inr ⟨al,hn,ks _ 5 rfl eb _ (Same.refl _)⟩⟩
    ·rw[bW] at ha1
     rw[List.length_map] at tl
     obtain⟨m,rfl⟩:∃m:Nat,n=(m:Int):=⟨n.toNat,by lia⟩
     exact .inl ⟨a,t,m,rfl,ha1,lt,by lia,by lia,by lia,fun v H' _ s'=>kt eb H' s'⟩
end
abbrev iq:Stmt:=aW 45
def fW:Sp:=fun vs H Q _=>∃(way:Nat) (a b:Addr) (ts zs:List Str) (more:V) (bs:List Bool),vs=[.int (way:Int),.ref a,.ref b,more]∧H a=some (.lst (ts.map V.str))∧H b=some (.lst (zs.map V.str))∧Txt ts∧Txt zs∧ts.length≤300∧zs.length≤300∧jW H way ts zs more bs∧
 ∀(r:Addr) (H':Hp),H' r=some (.lst (bs.map V.bl))→Same H H'→Q (.ref r) H'
def on:Sp:=fun vs H Q E=>∃(way:Nat) (more:V) (a b:Addr),vs=[.int (way:Int),.ref a,.ref b,more]∧way<3∧fW vs H Q E
def lC:Sp:=fun vs H Q E=>∃(more:V) (a b:Addr),vs=[.int 3,.ref a,.ref b,more]∧fW vs H Q E
theorem gW{K:PySem.W.Frag}{H:Hp}:∀{zs:List Str},Txt zs→DatVs K H (zs.map PyData.str) (zs.map V.str)
 | [],_=>jk
 | z::zs,h=>ii (uQ z (h z List.mem_cons_self).2) (gW fun y hy=>h y (List.mem_cons_of_mem _ hy))
theorem pQ(v:List PyData):PyData.eqv (.list v) (.list [])=decide (v=[]):=by
 cases v with
 | nil=>rfl
 | cons x r=>rw[decide_eq_false (List.cons_ne_nil _ _)];rfl
theorem va{K:PySem.W.Frag}{σ:St}{H:Hp}{i:Nat}{a:Addr}{zs:List Str}{Q:Bool→Hp→Prop}(hi:σ[i]?=some (some (.ref a)))(ha:H a=some (.lst (zs.map V.str)))(tz:Txt zs)(k:∀H',Same H H'→Q (decide (zs=[])) H'):gC (dG (dQ K false) (bR i) (gj jG)) σ H Q:=by
 refine⟨_,hi,Nat.zero_le _,fun q hq=>?_⟩
 have s1:=Same.upd (o:=.lst []) hq
 refine⟨.list (zs.map PyData.str),.list [],eP (SqL.of (s1 _ _ ha)) (gW tz),?_,Nat.le_trans (Nat.min_le_right _ _) (by decide),_,rfl,?_⟩
 ·rw[DatV];exact⟨q,[],rfl,SqL.of ae,by rw[DatVs]⟩
 ·rw[if_neg (by decide),pQ,show decide (zs.map PyData.str=[])=decide (zs=[]) from decide_eq_decide.mpr List.map_eq_nil_iff]
  exact k _ s1
theorem fY{zs ts:List Str}{bs:List Bool}(h:dY zs ts bs)(ne:zs≠ [])(h1:zs.all aG=false∨ts.all aG=false):bs=bd 1:=by
 rcases h with⟨h,_⟩ | ⟨_,_,e⟩ | ⟨_,_,_,e⟩ | ⟨_,h2,h3,_⟩
 ·exact absurd h ne
 ·exact e
 ·exact e
 ·rw[h2,h3] at h1
  rcases h1 with h | h <;> cases h
theorem kM{zs ts:List Str}{bs:List Bool}(h:dY zs ts bs)(ne:zs≠ [])(h1:zs.all aG=true)(h2:ts.all aG=true):ts.length<zs.length∧bs=bd 2:=by
 rcases h with⟨h,_⟩ | ⟨_,h,_⟩ | ⟨_,_,h,_⟩ | ⟨_,_,_,h,e⟩
 ·exact absurd h ne
 ·rw[h1] at h;cases h
 ·rw[h2] at h;cases h
 ·exact⟨h,e⟩
theorem eU{zs ts:List Str}{t u:List Nat}(h:fj zs ts t u):zs.all aG=true∧ts.all aG=true∧zs.length≤ts.length:=by
 obtain⟨lu,_,lt,rfl,rfl,ut⟩:=h
 exact⟨eD lu,eD lt,by rw[List.length_map,List.length_map];exact ut⟩
theorem pZ{vs:List V}{H:Hp}{Q:VK}{E:XK}(h:fW vs H Q E):lC vs H Q E∨on vs H Q E:=by
 have h':=h
 obtain⟨way,a,b,ts,zs,more,bs,rfl,_,_,_,_,_,_,hA,_⟩:=h'
 by_cases w3:way<3
 ·exact .inr ⟨way,more,a,b,rfl,w3,h⟩
 ·obtain rfl:way=3:=by
   rcases hA with⟨z,_⟩ | ⟨z,_⟩ | ⟨z,_⟩ | ⟨z,_⟩ <;> lia
  exact .inl ⟨more,a,b,rfl,h⟩
section
variable{P:Program}{w:World}{K:PySem.W.Frag}{mg:Str→Option Value}{base:Heap}
theorem oE:FnScope ["way","text","word","more"] ["way","text","word","more"] (aC iq):=fsc_
theorem pf(M:Md K mg)(B:Bl mg)(F:FF K "_law_due" iq)(F_law_due_flags:Fn P w K mg base ak "_law_due_flags" 1 ["at"] iY)(F_law_none:Fn P w K mg base ak "_law_none" 1 ["signs"] jI)(F_law_comes:Fn P w K mg base ak "_law_comes" 2 ["word","left"] jt):Fn P w K mg base ak "_law_due" 4 ["way","text","word","more"] lC:=by
 refine ba M F oE (fun _ _ _ _ _ _=>iO fun _ _ _ _=>rfl) (fun vs H Q E h=>?_) (fun f cdv A outer s H vs Q E hr h=>?_)
 ·obtain⟨_,_,_,rfl,_⟩:=h;rfl
 ·obtain⟨_,_,_,rfl,way,a,b,ts,zs,more,bs,e,ha,hb,tt,tz,tl,zl,hA,k⟩:=h
  refine⟨_,(af (aM (aD bo (pv 0) ad (aF _)) (af (aM (bZ (ai F_law_none hr aj (aa (pv 1) ac))) (ah (aH (ai F_law_due_flags hr aj (aa ad ac)))) aP)
   (ah (aH (aJ aO (aN (aa (aN ac) (aa (ai F_law_due_flags hr aj (aa ad ac)) ac))) (mY B.int (lY (ik cu cu ad (pv 3) (aL B.len (pv 1))))) (fun _ _=>rfl))))) aP)
   (af (aM (aD (gQ (by exact hr)) (pv 2) (aN ac) (aF _)) (ah (aH (ai F_law_due_flags hr aj (aa ad ac)))) aP)
   (af (aM (PW.pt (eJ (bZ (ai F_law_none hr aj (aa (pv 2) ac))) (fI (PW.pt (bV (aD eB (pv 0) ad (aF _)) (cf (bZ (ai F_law_none hr aj (aa (pv 1) ac))))))))) (ah (aH (ai F_law_due_flags hr aj (aa ad ac)))) aP)
   (af (aM (PW.pt (bV (aD eB (pv 0) ad (aF _)) (cf (aD dF (aL B.len (pv 1)) (aL B.len (pv 2)) (aF _))))) (ah (aH (ai F_law_due_flags hr aj (aa ad ac)))) aP)
   (af (aM (PW.pt (bV (aD bo (pv 0) ad (aF _)) (cf (dv (bZ (ai F_law_comes hr aj (aa (pv 2) (aa (aq bp (aL B.len (pv 1)) (aL B.len (pv 2))) ac)))))))) (ah (aH (ai F_law_due_flags hr aj (aa ad ac)))) aP)
   (af (aM (PW.pt (bV (aD bo (pv 0) ad (aF _)) (cf (aD eE (pv 3) (aN (aa ad ac)) (aF _))))) (ah (aH (ai F_law_due_flags hr aj (aa ad ac)))) aP)
   (af (aM (PW.pt (bV (aD bo (pv 0) ad (aF _)) (cf (aD eB (aL B.len (pv 1)) (aL B.len (pv 2)) (aF _))))) (ah (aH (ai F_law_due_flags hr aj (aa ad ac)))) aP)
   (ah (aH (aN ac)))))))))),?_⟩
  injection e with e1 e2
  have e1':=V.int.inj e1
  obtain rfl:way=3:=by lia
  injection e2 with e2 e3
  injection e3 with e3 e4
  injection e4 with e4 e5
  obtain rfl:=V.ref.inj e2
  obtain rfl:=V.ref.inj e3
  subst e4
  have kd:∀(j:Nat) (H1:Hp),bs=bd j→Same H H1→∀(r:Addr) (H':Hp),H1 r=none→H' r=some (.lst ((bd j).map V.bl))→Same H1 H'→Q (.ref r) H':=fun j H1 eb s1 r H' _ hr s'=>k r H' (by rw[eb];exact hr) (s1.trans s')
  rcases hA with⟨z,_⟩ | ⟨z,_⟩ | ⟨z,_⟩ | ⟨_,n,rfl,D⟩
  ·exact absurd z (by decide)
  ·exact absurd z (by decide)
  ·exact absurd z (by decide)
  refine⟨_,rfl,rfl,_,rfl,aE ?_⟩
  refine⟨_,rfl,_,ts,rfl,ha,by lia,fun H2 s2=>?_⟩
  rcases D with⟨al,eb⟩ | D
  ·rw[al]
   exact⟨_,rfl,aE ⟨1,by decide,rfl,kd 1 H2 eb s2⟩⟩
  ·have al:ts.all aG=true:=by
    rcases D with⟨h,_⟩ | ⟨t,lt,rfl,_⟩
    ·exact h
    ·exact eD lt
   have D':(¬(1≤n∧n≤ts.length)∧bs=bd 5)∨((1≤n∧n≤ts.length)∧bs=[]):=by
    rcases D with⟨_,h,e⟩ | ⟨t,lt,rfl,n1,n2,e⟩
    ·exact .inl ⟨h,e⟩
    ·exact .inr ⟨⟨n1,by rw[List.length_map];exact n2⟩,e⟩
   rw[al]
   refine⟨_,rfl,ar ?_⟩
   refine⟨Nat.zero_le _,fun e0 he0=>?_⟩
   have s7:=Same.upd (o:=.lst []) he0
   have he7:=ae (H:=H2) (a:=e0) (o:=.lst [])
   generalize L2.upd H2 e0 (.lst [])=H7 at s7 he7 ⊢
   refine⟨5,by decide,rfl,fun e4 H8 _ he4 s8=>?_⟩
   refine⟨(by show 2≤sizeLine;decide),fun l hl=>?_⟩
   have s9:=Same.upd (o:=.lst [V.ref e0,.ref e4]) hl
   have hl9:=ae (H:=H8) (a:=l) (o:=.lst [V.ref e0,.ref e4])
   have he09:=s9 _ _ (s8 _ _ he7)
   have he49:=s9 _ _ he4
   generalize L2.upd H8 l (.lst [V.ref e0,.ref e4])=H9 at s9 hl9 he09 he49 ⊢
   have s09:=((s2.trans s7).trans s8).trans s9
   have ha9:=s09 _ _ ha
   refine⟨_,rfl,_,_,rfl,rfl,_,rfl,?_⟩
   by_cases h1:1≤n
   ·rw[decide_eq_true h1]
    refine aE ⟨_,rfl,_,_,rfl,SqL.of ha9,_,_,rfl,rfl,_,rfl,_,rfl,?_⟩
    rw[List.length_map]
    by_cases h2:n≤(ts.length:Int)
    ·rw[decide_eq_true h2]
     have eb:=(D'.resolve_left fun z=>z.1 ⟨h1,h2⟩).2
     exact⟨l,_,_,_,rfl,rfl,SqL.of hl9,bc (j:=0) rfl,k e0 _ (by rw[eb];exact he09) s09⟩
    ·rw[decide_eq_false h2]
     have eb:=(D'.resolve_right fun z=>h2 z.1.2).2
     exact⟨l,_,_,_,rfl,rfl,SqL.of hl9,bc (j:=1) rfl,k e4 _ (by rw[eb];exact he49) s09⟩
   ·rw[decide_eq_false h1]
    have eb:=(D'.resolve_right fun z=>h1 z.1.1).2
    exact ar ⟨_,rfl,_,rfl,l,_,_,_,rfl,rfl,SqL.of hl9,bc (j:=1) rfl,k e4 _ (by rw[eb];exact he49) s09⟩
theorem qf(M:Md K mg)(B:Bl mg)(F:FF K "_law_due" iq)(F_law_due_flags:Fn P w K mg base ak "_law_due_flags" 1 ["at"] iY)(F_law_none:Fn P w K mg base ak "_law_none" 1 ["signs"] jI)(F_law_comes:Fn P w K mg base ak "_law_comes" 2 ["word","left"] jt):Fn P w K mg base ak "_law_due" 4 ["way","text","word","more"] on:=by
 refine ba M F oE (fun _ _ _ _ _ _=>iO fun _ _ _ _=>rfl) (fun vs H Q E h=>?_) (fun f cdv A outer s H vs Q E hr h=>?_)
 ·obtain⟨_,_,_,_,rfl,_⟩:=h;rfl
 ·obtain⟨wy,_,_,_,rfl,w3,way,a,b,ts,zs,more,bs,e,ha,hb,tt,tz,tl,zl,hA,k⟩:=h
  refine⟨_,(af (aM (aD bo (pv 0) ad (aF _)) (af (aM (bZ (ai F_law_none hr aj (aa (pv 1) ac))) (ah (aH (ai F_law_due_flags hr aj (aa ad ac)))) aP)
   (ah (aH (aJ aO (aN (aa (aN ac) (aa (ai F_law_due_flags hr aj (aa ad ac)) ac))) (mY B.int (lY (ik cu cu ad (pv 3) (aL B.len (pv 1))))) (fun _ _=>rfl))))) aP)
   (af (aM (aD (gQ (by exact hr)) (pv 2) (aN ac) (aF _)) (ah (aH (ai F_law_due_flags hr aj (aa ad ac)))) aP)
   (af (aM (PW.pt (eJ (bZ (ai F_law_none hr aj (aa (pv 2) ac))) (fI (PW.pt (bV (aD eB (pv 0) ad (aF _)) (cf (bZ (ai F_law_none hr aj (aa (pv 1) ac))))))))) (ah (aH (ai F_law_due_flags hr aj (aa ad ac)))) aP)
   (af (aM (PW.pt (bV (aD eB (pv 0) ad (aF _)) (cf (aD dF (aL B.len (pv 1)) (aL B.len (pv 2)) (aF _))))) (ah (aH (ai F_law_due_flags hr aj (aa ad ac)))) aP)
   (af (aM (PW.pt (bV (aD bo (pv 0) ad (aF _)) (cf (dv (bZ (ai F_law_comes hr aj (aa (pv 2) (aa (aq bp (aL B.len (pv 1)) (aL B.len (pv 2))) ac)))))))) (ah (aH (ai F_law_due_flags hr aj (aa ad ac)))) aP)
   (af (aM (PW.pt (bV (aD bo (pv 0) ad (aF _)) (cf (aD (hV (by exact hr)) (pv 3) (aN (aa ad ac)) (aF _))))) (ah (aH (ai F_law_due_flags hr aj (aa ad ac)))) aP)
   (af (aM (PW.pt (bV (aD bo (pv 0) ad (aF _)) (cf (aD eB (aL B.len (pv 1)) (aL B.len (pv 2)) (aF _))))) (ah (aH (ai F_law_due_flags hr aj (aa ad ac)))) aP)
   (ah (aH (aN ac)))))))))),?_⟩
  injection e with e1 e2
  have e1':=V.int.inj e1
  have ew:way=wy:=by lia
  subst ew
  injection e2 with e2 e3
  injection e3 with e3 e4
  injection e4 with e4 e5
  obtain rfl:=V.ref.inj e2
  obtain rfl:=V.ref.inj e3
  subst e4
  have kd:∀(j:Nat) (H1:Hp),bs=bd j→Same H H1→∀(r:Addr) (H':Hp),H1 r=none→H' r=some (.lst ((bd j).map V.bl))→Same H1 H'→Q (.ref r) H':=fun j H1 eb s1 r H' _ hr s'=>k r H' (by rw[eb];exact hr) (s1.trans s')
  have fin:∀H3:Hp,Same H H3→bs=[]→∀r,H3 r=none→Q (.ref r) (L2.upd H3 r (.lst [])):=fun H3 s3 eb r hr=>k r _ (by rw[eb,ae];rfl) (s3.trans (Same.upd hr))
  have e3:decide (V.int (way:Int)=V.int 3)=false:=decide_eq_false fun e=>by have:=V.int.inj e;lia
  refine⟨_,rfl,rfl,_,rfl,?_⟩
  rw[e3]
  refine ar ?_
  refine va rfl hb tz fun H1 s1=>?_
  by_cases ze:zs=[]
  ·have eb:bs=bd 0:=by
    have nf:∀t u,¬fj zs ts t u:=fun t u h=>by
     have:=h.2.1;have h4:=h.2.2.2.1
     rw[ze] at h4;rw[List.map_eq_nil_iff.mp h4.symm] at this
     exact absurd this (by decide)
    have bf:dY zs ts bs→bs=bd 0:=fun h=>by
     rcases h with⟨_,e⟩ | ⟨h,_⟩ | ⟨h,_⟩ | ⟨h,_⟩
     ·exact e
     all_goals exact absurd ze h
    rcases hA with⟨_,⟨_,e⟩ | ⟨h,_⟩ | ⟨u,lu,u1,h,_⟩⟩ | ⟨_,c,ns,_,_,_,D | ⟨t,u,h,_⟩⟩ | ⟨_,D | ⟨t,u,h,_⟩⟩ | ⟨z,_⟩
    ·exact e
    ·exact absurd ze h
    ·rw[ze] at h;rw[List.map_eq_nil_iff.mp h.symm] at u1;exact absurd u1 (by decide)
    ·exact bf D
    ·exact absurd h (nf t u)
    ·exact bf D
    ·exact absurd h (nf t u)
    ·lia
   rw[decide_eq_true ze]
   exact aE ⟨0,by decide,rfl,kd 0 H1 eb s1⟩
  rw[decide_eq_false ze]
  refine ar ⟨_,rfl,_,zs,rfl,s1 _ _ hb,by lia,fun H2 s2=>?_⟩
  have s02:=s1.trans s2
  cases zg:zs.all aG with
  | false=>
    have eb:bs=bd 1:=by
     rcases hA with⟨_,⟨h,_⟩ | ⟨_,_,e⟩ | ⟨u,lu,u1,h,_⟩⟩ | ⟨_,c,ns,_,_,_,D | ⟨t,u,h,_⟩⟩ | ⟨_,D | ⟨t,u,h,_⟩⟩ | ⟨z,_⟩
     ·exact absurd h ze
     ·exact e
     ·rw[h,eD lu] at zg;cases zg
     ·exact fY D ze (.inl zg)
     ·rw[(eU h).1] at zg;cases zg
     ·exact fY D ze (.inl zg)
     ·rw[(eU h).1] at zg;cases zg
     ·lia
    exact⟨_,rfl,aE (aE ⟨1,by decide,rfl,kd 1 H2 eb s02⟩)⟩
  | true=>
    refine⟨_,rfl,ar ?_⟩
    rcases hA with⟨rfl,D⟩ | ⟨rfl,c,ns,rfl,hc,hL,D⟩ | ⟨rfl,D⟩ | ⟨z,_⟩
    ·have eb:bs=[]:=by
      rcases D with⟨h,_⟩ | ⟨_,h,_⟩ | ⟨u,lu,u1,h,e⟩
      ·exact absurd h ze
      ·rw[zg] at h;cases h
      ·exact e
     refine⟨_,rfl,_,_,rfl,rfl,_,rfl,ar (ar ?_)⟩
     refine⟨_,rfl,_,_,rfl,rfl,_,rfl,ar (ar ?_)⟩
     refine⟨_,rfl,rfl,_,rfl,ar (ar ?_)⟩
     refine⟨_,rfl,rfl,_,rfl,ar (ar ?_)⟩
     refine⟨_,rfl,rfl,_,rfl,ar (ar ?_)⟩
     exact⟨Nat.zero_le _,fin H2 s02 eb⟩
    ·refine⟨_,rfl,_,_,rfl,rfl,_,rfl,aE ⟨_,rfl,_,ts,rfl,s02 _ _ ha,by lia,fun H3 s3=>?_⟩⟩
     have s03:=s02.trans s3
     cases tg:ts.all aG with
     | false=>
       have eb:bs=bd 1:=by
        rcases D with D | ⟨t,u,h,_⟩
        ·exact fY D ze (.inr tg)
        ·rw[(eU h).2.1] at tg;cases tg
       exact⟨_,rfl,aE ⟨1,by decide,rfl,kd 1 H3 eb s03⟩⟩
     | true=>
       refine⟨_,rfl,ar ?_⟩
       refine⟨_,rfl,_,_,rfl,rfl,_,rfl,aE ⟨_,rfl,_,_,rfl,SqL.of (s03 _ _ ha),_,rfl,_,_,rfl,SqL.of (s03 _ _ hb),_,_,rfl,rfl,_,rfl,?_⟩⟩
       rw[List.length_map,List.length_map]
       rcases D with D | ⟨t,u,h,D⟩
       ·obtain⟨hl,eb⟩:=kM D ze zg tg
        rw[decide_eq_true (by lia)]
        exact aE ⟨2,by decide,rfl,kd 2 H3 eb s03⟩
       have fa:=eU h
       rw[decide_eq_false (by have:=fa.2.2;lia)]
       refine ar ⟨_,rfl,rfl,_,rfl,ar (ar ?_)⟩
       refine⟨_,rfl,rfl,_,rfl,aE ⟨_,rfl,(by show 1≤sizeLine;decide),fun q hq=>⟨c,q,ns,[0],rfl,rfl,SqL.of ((s03.trans (Same.upd hq)) _ _ hc),SqL.of ae,_,rfl,?_⟩⟩⟩
       have s04:=s03.trans (Same.upd (o:=.lst [V.int 0]) hq)
       rw[if_pos rfl]
       obtain⟨lu,u1,lt,ez,et,ut⟩:=h
       have lz:zs.length=u.length:=by rw[ez,List.length_map]
       have ltt:ts.length=t.length:=by rw[et,List.length_map]
       by_cases hn:ns=[0]
       ·rw[decide_eq_true hn]
        refine ar ⟨_,rfl,rfl,_,rfl,aE ⟨_,rfl,_,_,rfl,SqL.of (s04 _ _ ha),_,rfl,_,_,rfl,SqL.of (s04 _ _ hb),_,_,rfl,rfl,_,rfl,?_⟩⟩
        rw[List.length_map,List.length_map]
        rcases D with⟨hno,eb⟩ | ⟨_,e,eb⟩
        ·have h9:t.length≠u.length:=fun z=>hno ⟨hn,z⟩
         rw[decide_eq_true (by lia)]
         exact aE ⟨3,by decide,rfl,kd 3 _ eb s04⟩
        ·rw[decide_eq_false (by lia)]
         exact ar ⟨Nat.zero_le _,fin _ s04 eb⟩
       ·rw[decide_eq_false hn]
        rcases D with⟨_,eb⟩ | ⟨z,_⟩
        ·exact aE ⟨3,by decide,rfl,kd 3 _ eb s04⟩
        ·exact absurd z hn
    ·refine⟨_,rfl,_,_,rfl,rfl,_,rfl,aE ⟨_,rfl,_,ts,rfl,s02 _ _ ha,by lia,fun H3 s3=>?_⟩⟩
     have s03:=s02.trans s3
     cases tg:ts.all aG with
     | false=>
       have eb:bs=bd 1:=by
        rcases D with D | ⟨t,u,h,_⟩
        ·exact fY D ze (.inr tg)
        ·rw[(eU h).2.1] at tg;cases tg
       exact⟨_,rfl,aE ⟨1,by decide,rfl,kd 1 H3 eb s03⟩⟩
     | true=>
       refine⟨_,rfl,ar ?_⟩
       refine⟨_,rfl,_,_,rfl,rfl,_,rfl,aE ⟨_,rfl,_,_,rfl,SqL.of (s03 _ _ ha),_,rfl,_,_,rfl,SqL.of (s03 _ _ hb),_,_,rfl,rfl,_,rfl,?_⟩⟩
       rw[List.length_map,List.length_map]
       rcases D with D | ⟨t,u,h,D⟩
       ·obtain⟨hl,eb⟩:=kM D ze zg tg
        rw[decide_eq_true (by lia)]
        exact aE ⟨2,by decide,rfl,kd 2 H3 eb s03⟩
       have fa:=eU h
       rw[decide_eq_false (by have:=fa.2.2;lia)]
       obtain⟨lu,u1,lt,ez,et,ut⟩:=h
       have lz:zs.length=u.length:=by rw[ez,List.length_map]
       have ltt:ts.length=t.length:=by rw[et,List.length_map]
       have hb3:=s03 _ _ hb
       have hbu:=hb3
       rw[ez,bW] at hbu
       have en:(((ts.map V.str).length:Nat):Int)-(((zs.map V.str).length:Nat):Int)=((t.length-u.length:Nat):Int):=by rw[List.length_map,List.length_map];lia
       have hS:∀f∈aB u,1≤f:=fun f hf=>(cY u f hf).1
       refine ar ⟨_,rfl,rfl,_,rfl,aE ⟨_,rfl,_,rfl,_,_,rfl,SqL.of (s03 _ _ ha),_,rfl,_,_,rfl,SqL.of hb3,_,_,rfl,rfl,_,u,t.length-u.length,congrArg (fun z=>[V.ref _,V.int z]) en,hbu,lu,u1,by lia,by lia,fun H4 s4=>⟨_,rfl,?_⟩⟩⟩
       have s04:=s03.trans s4
       have ch:=hW hS (t.length-u.length) (t.length-u.length) (Nat.le_refl _)
       rcases D with⟨no,eb⟩ | ⟨ex,eb⟩
       ·have e:(cm (aB u) (t.length-u.length)).getD (t.length-u.length) false=false:=by
         cases q:(cm (aB u) (t.length-u.length)).getD (t.length-u.length) false with
         | false=>rfl
         | true=>exact absurd (ch.mp q) fun⟨l,hl⟩=>no l hl
        rw[e]
        exact aE ⟨4,by decide,rfl,kd 4 H4 eb s04⟩
       ·rw[ch.mpr ex]
        refine ar ⟨_,rfl,rfl,_,rfl,ar (ar ?_)⟩
        refine⟨_,rfl,rfl,_,rfl,ar (ar ?_)⟩
        exact⟨Nat.zero_le _,fin H4 s04 eb⟩
    ·lia
end
abbrev jZ:Stmt:=aW 46
def gh(K:PySem.W.Frag):Sp:=fun vs H Q _=>∃(a:Addr) (ns:List Int),vs=[.ref a]∧SqL K H a (ns.map V.int)∧ns.length≤63∧∀H',Q (.bl true) H'
theorem q9{xs:List Int}{i:Nat}{x:V}(h:(xs.map V.int)[i]?=some x):∃z:Int,x=.int z:=by
 rw[List.getElem?_map] at h
 cases e:xs[i]? with
 | none=>rw[e] at h;cases h
 | some z=>rw[e] at h;exact⟨z,(Option.some.inj h).symm⟩
theorem uq{K:PySem.W.Frag}{σ:St}{H:Hp}{a:Addr}{ns:List Int}{n:Int}{Q:VK}(hi:σ[0]?=some (some (.ref a)))(hS:SqL K H a (ns.map V.int))(hn:0≤n)(hn2:n≤100)(k:∀(b:Addr) (xs:List Int) (H':Hp),H' b=some (.lst (xs.map V.int))→Same H H'→Q (.ref b) H'):dG io (gj (gk (tC (.int 0)) jG)) (fJ (fR K) (bR 0) fg (fA (tC (.int n)))) σ H Q:=by
 refine⟨by show 1≤sizeLine;decide,fun l0 hl0=>?_⟩
 refine⟨_,hi,n,rfl,a,_,rfl,(Same.upd hl0).seq hS,fun l1 hl1=>?_⟩
 have e1:bi (ns.map V.int) none (some n)=(ns.take n.toNat).map V.int:=by rw[cq,cy,gi _ _ hn]
 rw[e1] at*
 refine⟨l0,l1,_,_,rfl,rfl,(Same.upd hl1) _ _ ae,ae,by simp only[List.length_cons,List.length_nil,List.length_map,List.length_take];exact sz (by lia),fun b hb=>?_⟩
 refine k b (0::ns.take n.toNat) _ ?_ ((Same.upd hl0).trans ((Same.upd hl1).trans (Same.upd hb)))
 rw[ae]
 rfl
def dU(bs:List Bool):PyData:=.list (bs.map PyData.bool)
theorem iF{K:PySem.W.Frag}{H:Hp}:∀bs:List Bool,DatVs K H (bs.map PyData.bool) (bs.map V.bl)
 | []=>jk
 | b::bs=>ii (pA b) (iF bs)
theorem kc:∀bs:List Bool,PyData.depthAll (bs.map PyData.bool)≤1
 | []=>by rw[List.map_nil,PyData.depthAll];exact Nat.zero_le _
 | b::bs=>by
   have:=kc bs
   simp only[List.map_cons,PyData.depthAll,PyData.depth]
   lia
theorem pi(bs:List Bool):(dU bs).depth≤64:=by
 have:=kc bs
 unfold dU
 simp only[PyData.depth]
 lia
theorem lO:∀bs:List Bool,PyData.eqvAll (bs.map PyData.bool) (bs.map PyData.bool)=true
 | []=>by rw[List.map_nil,PyData.eqvAll]
 | b::bs=>by
   rw[List.map_cons,PyData.eqvAll,lO bs]
   cases b <;> simp[PyData.eqv]
theorem sU(bs:List Bool):PyData.eqv (dU bs) (dU bs)=true:=by
 unfold dU
 simp only[PyData.eqv]
 exact lO bs
theorem jM:∀zs:List Str,PyData.depthAll (zs.map PyData.str)≤1
 | []=>by rw[List.map_nil,PyData.depthAll];exact Nat.zero_le _
 | z::zs=>by
   have:=jM zs
   simp only[List.map_cons,PyData.depthAll,PyData.depth]
   lia
theorem lj:∀zs:List Str,PyData.eqvAll (zs.map PyData.str) (zs.map PyData.str)=true
 | []=>by rw[List.map_nil,PyData.eqvAll]
 | z::zs=>by
   rw[List.map_cons,PyData.eqvAll,lj zs]
   simp[PyData.eqv]
def dI(zs ts:List Str):PyData:=.list [.list (zs.map PyData.str),.list (ts.map PyData.str)]
theorem vA(zs ts:List Str):(dI zs ts).depth≤64:=by
 have h1:=jM zs
 have h2:=jM ts
 unfold dI
 simp only[PyData.depth,PyData.depthAll]
 lia
theorem tj(zs ts:List Str):PyData.eqv (dI zs ts) (dI zs ts)=true:=by
 unfold dI
 simp[PyData.eqv,PyData.eqvAll,lj]
theorem kO{K:PySem.W.Frag}{H:Hp}{h x y:Addr}{zs ts:List Str}(lz:Txt zs)(lt:Txt ts)(hh:H h=some (.lst [.ref x,.ref y]))(hx:H x=some (.lst (zs.map V.str)))(hy:H y=some (.lst (ts.map V.str))):DatV K H (dI zs ts) (.ref h):=
 eP (SqL.of hh) (ii (eP (SqL.of hx) (gW lz)) (ii (eP (SqL.of hy) (gW lt)) jk))
theorem uM{K:PySem.W.Frag}{H:Hp}{h x y k a b:Addr}{zs ts:List Str}{Q:VK}(lz:Txt zs)(lt:Txt ts)(hh:H h=some (.lst [.ref x,.ref y]))(hx:H x=some (.lst (zs.map V.str)))(hy:H y=some (.lst (ts.map V.str)))(hk:H k=some (.lst [.ref a,.ref b]))(ha:H a=some (.lst (zs.map V.str)))(hb:H b=some (.lst (ts.map V.str)))(q:Q (.bl false) H):dQ K true (.ref h) (.ref k) H Q:=by
 refine⟨dI zs ts,dI zs ts,kO lz lt hh hx hy,kO lz lt hk ha hb,Nat.le_trans (Nat.min_le_left _ _) (vA zs ts),?_⟩
 rw[tj]
 exact q
theorem rl{K:PySem.W.Frag}{H:Hp}{h k:Addr}{bs:List Bool}{Q:VK}(hh:H h=some (.lst (bs.map V.bl)))(hk:H k=some (.lst (bs.map V.bl)))(q:Q (.bl false) H):dQ K true (.ref h) (.ref k) H Q:=by
 refine⟨dU bs,dU bs,eP (SqL.of hh) (iF bs),eP (SqL.of hk) (iF bs),Nat.le_trans (Nat.min_le_left _ _) (pi bs),?_⟩
 rw[sU]
 exact q
theorem vC(u:List Nat)(k:Int):∃n,bi (u.map sg) none (some k)=(u.take n).map sg:=by
 rw[cq,cy]
 exact⟨HT.sIx u.length u.length (some k)-HT.sIx u.length 0 none,rfl⟩
theorem u9{l:List V}(h:∀x∈l,∃n:Int,x=.int n){r:Int}(r0:0≤r)(r1:r<l.length):∃n:Int,aX l r=some (.int n):=by
 obtain⟨x,_,hm,e⟩:=cB l r r0 r1
 obtain⟨n,rfl⟩:=h x hm
 exact⟨n,e⟩
def TZ(m:Nat)(H:Hp)(ys:List V):Prop:=∀y∈ys,∃(x:Addr) (zs:List Str),y=.ref x∧H x=some (.lst (zs.map V.str))∧Txt zs∧zs.length≤m
theorem TZ.same{m:Nat}{H H':Hp}{ys:List V}(h:TZ m H ys)(n:Same H H'):TZ m H' ys:=fun y hy=>let ⟨x,t,e,hx,r⟩:=h y hy;⟨x,t,e,n _ _ hx,r⟩
theorem TZ.kp{m:Nat}{H H':Hp}{ys:List V}{p:Addr}(h:TZ m H ys)(hp:Hand H p)(k:Keep p H H'):TZ m H' ys:=fun y hy=>let ⟨x,t,e,hx,r⟩:=h y hy;⟨x,t,e,k _ _ hx (dg hp hx),r⟩
theorem TZ.nil{m:Nat}{H:Hp}:TZ m H []:=fun y hy=>(nomatch hy)
theorem TZ.cons{m:Nat}{H:Hp}{ys:List V}{x:Addr}{zs:List Str}(hx:H x=some (.lst (zs.map V.str)))(lz:Txt zs)(l:zs.length≤m)(h:TZ m H ys):TZ m H (.ref x::ys):=fun y hy=>(List.mem_cons.mp hy).elim (fun e=>⟨x,zs,e,hx,lz,l⟩) (h y)
def CI(H:Hp)(p:Addr)(ys:List V):Prop:=∀y∈ys,∃(c:Addr) (ns:List Int),y=.ref c∧H c=some (.lst (ns.map V.int))∧gU ns∧c≠p
theorem CI.same{H H':Hp}{p:Addr}{ys:List V}(h:CI H p ys)(n:Same H H'):CI H' p ys:=fun y hy=>let ⟨x,t,e,hx,r⟩:=h y hy;⟨x,t,e,n _ _ hx,r⟩
theorem CI.nil{H:Hp}{p:Addr}:CI H p []:=fun y hy=>(nomatch hy)
theorem CI.cons{H:Hp}{p:Addr}{ys:List V}{c:Addr}{ns:List Int}(hc:H c=some (.lst (ns.map V.int)))(l:gU ns)(n:c≠p)(h:CI H p ys):CI H p (.ref c::ys):=fun y hy=>(List.mem_cons.mp hy).elim (fun e=>⟨c,ns,e,hc,l,n⟩) (h y)
structure LawZ(b wl xl p:Addr)(cs:List Int)(ws xs:List V)(H:Hp):Prop where
 hb:H b=some (.lst (cs.map V.int))
 hw:H wl=some (.lst ws)
 hx:H xl=some (.lst xs)
 tw:TZ 250 H ws
 tx:TZ 250 H xs
 hp:Hand H p
 nb:b≠p
 nw:wl≠p
 nx:xl≠p
section
variable{b wl xl p:Addr}{cs:List Int}{ws xs:List V}{H H':Hp}
theorem LawZ.same(L:LawZ b wl xl p cs ws xs H)(s:Same H H'):LawZ b wl xl p cs ws xs H':=⟨s _ _ L.hb,s _ _ L.hw,s _ _ L.hx,L.tw.same s,L.tx.same s,L.hp.same s,L.nb,L.nw,L.nx⟩
theorem LawZ.kp(L:LawZ b wl xl p cs ws xs H)(k:Keep p H H')(h:Hand H' p):LawZ b wl xl p cs ws xs H':=⟨k _ _ L.hb L.nb,k _ _ L.hw L.nw,k _ _ L.hx L.nx,L.tw.kp L.hp k,L.tx.kp L.hp k,h,L.nb,L.nw,L.nx⟩
end
structure LawY(b wl xl p gv x1 x2:Addr)(cs:List Int)(ws xs:List V)(ts zs:List Str)(H:Hp):Prop where
 l:LawZ b wl xl p cs ws xs H
 g:H gv=some (.lst [.ref x1,.ref x2])
 h1:H x1=some (.lst (ts.map V.str))
 h2:H x2=some (.lst (zs.map V.str))
 ng:gv≠p
section
variable{b wl xl p gv x1 x2:Addr}{cs:List Int}{ws xs:List V}{zs ts:List Str}{H H':Hp}
theorem LawY.same(L:LawY b wl xl p gv x1 x2 cs ws xs ts zs H)(s:Same H H'):LawY b wl xl p gv x1 x2 cs ws xs ts zs H':=⟨L.l.same s,s _ _ L.g,s _ _ L.h1,s _ _ L.h2,L.ng⟩
theorem LawY.kp(L:LawY b wl xl p gv x1 x2 cs ws xs ts zs H)(k:Keep p H H')(h:Hand H' p):LawY b wl xl p gv x1 x2 cs ws xs ts zs H':=⟨L.l.kp k h,k _ _ L.g L.ng,k _ _ L.h1 (dg L.l.hp L.h1),k _ _ L.h2 (dg L.l.hp L.h2),L.ng⟩
end
section
variable{P:Program}{w:World}{K:PySem.W.Frag}{mg:Str→Option Value}{base:Heap}
theorem scLaw:FnScope ["script","cell","pot","letters","most","word","text","words","texts","again","given","far","size","some","chain","way","more","handed"] ["script"] (aC jZ):=fsc_
theorem dB{X:Cx}{es es':List Expr}{t t':TA}{pos:Pos}(ha:PA X es t)(hr:PA X es' t'):PA X (.List es pos::es') (gk (gj t) t'):=aa (aN ha) hr rfl
theorem bh{X:Cx}{es:List Expr}{t:TA}{i:Int}{j:Nat}{pos:Pos}(hr:PA X es t):PA X (.Constant (.int i) j pos::es) (gk (tC (.int i)) t):=aa ad hr rfl
set_option maxHeartbeats 12000000 in
theorem uB(M:Md K mg)(B:Bl mg)(F:FF K "law" jZ)(F_law_pot:Fn P w K mg base ak "_law_pot" 1 ["cell"] mH)(F_law_take:Fn P w K mg base ak "_law_take" 1 ["pot","many"] d9)(F_law_letters:Fn P w K mg base ak "_law_letters" 2 ["pot"] ow)(F_law_signs:Fn P w K mg base ak "_law_signs" 2 ["pot","letters","many"] j3)(F_law_word:Fn P w K mg base ak "_law_word" 3 ["pot","letters","most"] mJ)(F_law_laid:Fn P w K mg base ak "_law_laid" 2 ["pot","word","most"] oi)(F_law_odd:Fn P w K mg base ak "_law_odd" 2 ["pot","signs"] kT)(F_law_due:Fn P w K mg base ak "_law_due" 4 ["way","text","word","more"] fW)(F_law_said:Fn P w K mg base ak "_law_said" 8 ["way","text","word","more"] lS):Fn P w K mg base ak "law" 9 ["script"] (gh K):=by
 refine ba M F scLaw (fun _ _ _ _ _ _=>bE fun _=>rfl) (fun vs H Q E h=>?_) (fun f cdv A outer s H vs Q E hr h=>?_)
 ·obtain⟨a,ns,rfl,_⟩:=h;rfl
 ·obtain⟨a,ns,rfl,hS,hlen,k⟩:=h
  refine⟨_,(af (bO PassesOwn.never rfl (dA (aq cj (aN (bh ac)) (bu bv (pv 0) bA (bt ad)))) (aV (i:=1) scLaw.nd rfl (.inl rfl))
   (af (aw (i:=2) scLaw.nd rfl (.inl rfl) (ai F_law_pot hr aj (aa (pv 1) ac)))
   (af (aw (i:=3) scLaw.nd rfl (.inl rfl) (ai F_law_letters hr aj (aa (pv 2) ac)))
   (af (aw (i:=4) scLaw.nd rfl (.inl rfl) (aJ aO (aN (bh (bh (bh (bh ac))))) (ai F_law_take hr aj (aa (pv 2) (bh ac))) (fun _ _=>rfl)))
   (af (aw (i:=5) scLaw.nd rfl (.inl rfl) (ai F_law_word hr aj (aa (pv 2) (aa (pv 3) (aa (pv 4) ac)))))
   (af (aw (i:=6) scLaw.nd rfl (.inl rfl) (aJ aO (aN (aa (ai F_law_laid hr aj (aa (pv 2) (aa (pv 5) (aa (pv 4) ac)))) (aa (ai F_law_signs hr aj (aa (pv 2) (aa (pv 3) (aa (ai F_law_take hr aj (aa (pv 2) (aa (aq bj (pv 4) ad) ac))) ac)))) ac))) (ai F_law_take hr aj (aa (pv 2) (bh ac))) (fun _ _=>rfl)))
   (af (aw (i:=7) scLaw.nd rfl (.inl rfl) (aN (aa (pv 5) (aa (ai F_law_odd hr aj (aa (pv 2) (aa (pv 5) ac))) (aa (ai F_law_odd hr aj (aa (pv 2) (aa (pv 5) ac))) (dB ac ac))))))
   (af (aw (i:=8) scLaw.nd rfl (.inl rfl) (aN (aa (pv 6) (aa (ai F_law_odd hr aj (aa (pv 2) (aa (pv 6) ac))) (aa (ai F_law_odd hr aj (aa (pv 2) (aa (pv 6) ac))) (aa (bu bv (pv 5) bA (bt (dz dn ad))) (aa (pv 5) (dB ac ac))))))))
   (ah (bO PassesOwn.never rfl (dX (by rfl) B.range (bh ac)) (aV (i:=9) scLaw.nd rfl (.inl rfl))
   (af (aw (i:=10) scLaw.nd rfl (.inl rfl) (aN (aa (aJ aO (pv 8) (ai F_law_take hr aj (aa (pv 2) (bh ac))) (fun _ _=>rfl)) (aa (aJ aO (pv 7) (ai F_law_take hr aj (aa (pv 2) (bh ac))) (fun _ _=>rfl)) ac))))
   (af (aw (i:=11) scLaw.nd rfl (.inl rfl) (ai F_law_take hr aj (aa (pv 2) (aa (aJ aO (aN (bh (aa (aq kB ad ad) ac))) (ai F_law_take hr aj (aa (pv 2) (bh ac))) (fun _ _=>rfl)) ac))))
   (af (aw (i:=12) scLaw.nd rfl (.inl rfl) (aL B.len (aJ aO (pv 10) ad (fun _ _=>rfl))))
   (af (aw (i:=13) scLaw.nd rfl (.inl rfl) (aJ aO (aN (bh (aa (aq bp ad (pv 11)) (aa (aq bj (aq bj (pv 12) ad) (pv 11)) (aa (pv 12) (aa (aq bj ad (ai F_law_take hr aj (aa (pv 2) (bh ac)))) ac)))))) (ai F_law_take hr aj (aa (pv 2) (bh ac))) (fun _ _=>rfl)))
   (af (aw (i:=14) scLaw.nd rfl (.inl rfl) (aJ aO (aN (dB (bh ac) (dB (bh ac) (dB ac (dB (bh ac) (dB (aa (pv 11) ac) (dB (bh (bh ac)) ac))))))) (ai F_law_take hr aj (aa (pv 2) (bh ac))) (fun _ _=>rfl)))
   (ah (bO PassesOwn.never rfl (dX (by rfl) B.range (bh ac)) (aV (i:=15) scLaw.nd rfl (.inl rfl))
   (af (aw (i:=16) scLaw.nd rfl (.inl rfl) (aJ aO (aN (bh (aa (pv 14) (bh (aa (pv 13) ac))))) (pv 15) (fun _ _=>rfl)))
   (af (aw (i:=17) scLaw.nd rfl (.inl rfl) (aN (aa (gL B.list (aJ aO (pv 10) ad (fun _ _=>rfl))) (aa (gL B.list (aJ aO (pv 10) ad (fun _ _=>rfl))) ac))))
   (af (aM (aD (jS (by exact hr)) (ai F_law_said hr aj (aa (pv 15) (aa (aJ aO (pv 17) ad (fun _ _=>rfl)) (aa (aJ aO (pv 17) ad (fun _ _=>rfl)) (aa (pv 16) ac))))) (ai F_law_due hr aj (aa (pv 15) (aa (aJ aO (pv 10) ad (fun _ _=>rfl)) (aa (aJ aO (pv 10) ad (fun _ _=>rfl)) (aa (pv 16) ac))))) (aF _)) (ah (aH fi)) aP)
   (ah (aM (aD (jS (by exact hr)) (pv 17) (pv 10) (aF _)) (ah (aH fi)) aP))))))))))))))))))))))
   (ah (aH fi))),?_⟩
  refine rT (uq (K:=K) (n:=8) rfl hS (by decide) (by decide) fun b cs H1 hb1 sm1=>⟨b,rfl,⟨_,SqL.of hb1⟩,?_⟩)
  refine nX (K:=K) (a:=b) (xs:=cs.map V.int) (fun i σ H2=>H2 b=some (.lst (cs.map V.int))∧∃v1 v2 v3 v4 v5 v6 v7 v8 v9 v10 v11 v12 v13 v14 v15 v16 v17,σ=[some (.ref a),v1,v2,v3,v4,v5,v6,v7,v8,v9,v10,v11,v12,v13,v14,v15,v16,v17]) ⟨hb1,_,_,_,_,_,_,_,_,_,_,_,_,_,_,_,_,_,rfl⟩ (fun i σ H2 _ h2=>SqL.of h2.1) ?_ ?_
  ·rintro D1 i x σ H2 nx1 hx ⟨hb2,v1,v2,v3,v4,v5,v6,v7,v8,v9,v10,v11,v12,v13,v14,v15,v16,v17,rfl⟩
   obtain⟨c,rfl⟩:=q9 hx
   refine⟨_,rfl,c,rfl,fun p H3 hp0 hp3 s3=>?_⟩
   have hb3:=s3 _ _ hb2
   have nb:b≠p:=aR hb2 hp0
   refine⟨_,rfl,p,rfl,hp3,fun z lr H4 hlr0 hlr4 lz nz z1 z2 hp4 k4=>?_⟩
   have hb4:=k4 _ _ hb3 nb
   have nlr:=bM hp4 hlr4
   refine⟨by show 4≤sizeLine;decide,fun l2 hl2=>?_⟩
   have s6:=Same.upd (o:=.lst [V.int 40,.int 40,.int 40,.int 190]) hl2
   have hl6:=ae (H:=H4) (a:=l2) (o:=.lst [V.int 40,.int 40,.int 40,.int 190])
   have nl2:l2≠p:=(hp4.ne hl2).symm
   generalize L2.upd H4 l2 (.lst [V.int 40,.int 40,.int 40,.int 190])=H6 at s6 hl6 ⊢
   refine⟨_,rfl,p,4,rfl,hp4.same s6,by decide,by decide,fun r H7 r0 r1 hp7 k7=>?_⟩
   obtain⟨mm,hmm1,hmm2,hat2⟩:∃mm:Int,1≤mm∧mm≤190∧aX [V.int 40,.int 40,.int 40,.int 190] r=some (.int mm):=by
    have:r=0∨r=1∨r=2∨r=3:=by lia
    rcases this with h | h | h | h
    ·subst h;exact⟨40,by decide,by decide,rfl⟩
    ·subst h;exact⟨40,by decide,by decide,rfl⟩
    ·subst h;exact⟨40,by decide,by decide,rfl⟩
    ·subst h;exact⟨190,by decide,by decide,rfl⟩
   have k47:Keep p H4 H7:=fun c o h n=>k7 _ _ (s6 _ _ h) n
   refine⟨l2,_,_,_,rfl,rfl,SqL.of (k7 _ _ hl6 nl2),hat2,?_⟩
   refine⟨_,rfl,_,rfl,_,rfl,p,lr,z,mm,rfl,hp7,k47 _ _ hlr4 nlr,lz,z1,by lia,by lia,by lia,fun u q H8 hq0 hq8 lu u1 ul hp8 k8=>?_⟩
   have k48:=k47.trans k8
   have nqp:=bM hp8 hq8
   have ul190:u.length≤190:=by lia
   refine⟨_,rfl,_,rfl,_,rfl,p,q,u,mm,rfl,hp8,hq8,lu,u1,by lia,by lia,by lia,fun ta tqa H9 _ hta9 lta _ tla hp9 k9=>?_⟩
   have k49:=k48.trans k9
   refine⟨_,rfl,_,rfl,_,rfl,_,rfl,_,_,rfl,rfl,p,mm+1,rfl,hp9,by lia,by lia,fun r2 H10 r20 r21 hp10 k10=>?_⟩
   have k410:=k49.trans k10
   refine⟨p,lr,z,r2,rfl,hp10,k410 _ _ hlr4 nlr,lz,z1,by lia,r20,by lia,fun tb tqb H11 _ htb11 ltb tlb hp11 k11=>?_⟩
   have k411:=k410.trans k11
   have hq9:=k9 _ _ hq8 nqp
   have hq11:=k11 _ _ (k10 _ _ hq9 nqp) nqp
   have ntqa:=bM hp9 hta9
   have hta11:=k11 _ _ (k10 _ _ hta9 ntqa) ntqa
   have ntqb:=bM hp11 htb11
   refine⟨by show 2≤sizeLine;decide,fun l3 hl3=>?_⟩
   have s12:=Same.upd (o:=.lst [V.ref tqa,.ref tqb]) hl3
   have hl312:=ae (H:=H11) (a:=l3) (o:=.lst [V.ref tqa,.ref tqb])
   have nl3:l3≠p:=(hp11.ne hl3).symm
   have hp12:=hp11.same s12
   generalize L2.upd H11 l3 (.lst [V.ref tqa,.ref tqb])=H12 at s12 hl312 hp12 ⊢
   refine⟨_,rfl,p,2,rfl,hp12,by decide,by decide,fun r3 H13 r30 r31 hp13 k13=>?_⟩
   have k1113:Keep p H11 H13:=fun c o h n=>k13 _ _ (s12 _ _ h) n
   obtain⟨tq,t,hat3,ht13,lt,tl⟩:∃(tq:Addr) (t:List Nat),aX [V.ref tqa,.ref tqb] r3=some (.ref tq)∧H13 tq=some (.lst (t.map sg))∧Low t∧t.length≤190:=by
    have:r3=0∨r3=1:=by lia
    rcases this with h | h
    ·subst h;exact⟨tqa,ta,rfl,k1113 _ _ hta11 ntqa,lta,by lia⟩
    ·subst h;exact⟨tqb,tb,rfl,k1113 _ _ htb11 ntqb,ltb,by lia⟩
   refine⟨l3,_,_,_,rfl,rfl,SqL.of (k13 _ _ hl312 nl3),hat3,?_⟩
   have k413:=k411.trans k1113
   have hq13:=k1113 _ _ hq11 nqp
   refine⟨_,rfl,_,rfl,_,rfl,p,q,u.map aA,rfl,hp13,by rw[bW];exact hq13,dC lu,by rw[List.length_map];lia,fun y1 a1 H14 ha1 ty1 yl1 hp14 k14=>?_⟩
   have hq14:=k14 _ _ hq13 nqp
   refine⟨_,rfl,_,rfl,p,q,u.map aA,rfl,hp14,by rw[bW];exact hq14,dC lu,by rw[List.length_map];lia,fun y2 a2 H15 ha2 ty2 yl2 hp15 k15=>?_⟩
   rw[List.length_map] at yl1 yl2
   have hq15:=k15 _ _ hq14 nqp
   have ha115:=k15 _ _ ha1 (dg hp14 ha1)
   have ht15:=k15 _ _ (k14 _ _ ht13 (bM hp13 ht13)) (bM hp14 (k14 _ _ ht13 (bM hp13 ht13)))
   have k415:=(k413.trans k14).trans k15
   refine⟨Nat.zero_le _,fun a3 ha3=>?_⟩
   have s16:=Same.upd (o:=.lst []) ha3
   have ha316:=ae (H:=H15) (a:=a3) (o:=.lst [])
   generalize L2.upd H15 a3 (.lst [])=H16 at s16 ha316 ⊢
   refine⟨by show 4≤sizeLine;decide,fun wl hwl=>?_⟩
   have W16:TZ 250 H16 [.ref q,.ref a1,.ref a2,.ref a3]:=by
    have hq':H16 q=some (.lst ((u.map aA).map V.str)):=by rw[bW];exact s16 _ _ hq15
    exact .cons hq' (dC lu) (by rw[List.length_map];lia) (.cons (s16 _ _ ha115) ty1 (by lia) (.cons (s16 _ _ ha2) ty2 (by lia) (.cons (zs:=[]) ha316 (fun z h=>(nomatch h)) (by decide) .nil)))
   have s17:=Same.upd (o:=.lst [V.ref q,.ref a1,.ref a2,.ref a3]) hwl
   have hwl17:=ae (H:=H16) (a:=wl) (o:=.lst [V.ref q,.ref a1,.ref a2,.ref a3])
   have W17:=W16.same s17
   have wsl:[V.ref q,.ref a1,.ref a2,.ref a3].length=4:=rfl
   have hp16:=hp15.same s16
   have nwl:wl≠p:=(hp16.ne hwl).symm
   generalize L2.upd H16 wl (.lst [V.ref q,.ref a1,.ref a2,.ref a3])=H17 at s17 hwl17 W17 ⊢
   generalize [V.ref q,.ref a1,.ref a2,.ref a3]=ws at hwl17 W17 wsl ⊢
   have s1517:=s16.trans s17
   have hp17:=hp15.same s1517
   have k417:Keep p H4 H17:=fun c o h n=>s1517 _ _ (k415 _ _ h n)
   have ht17:=s1517 _ _ ht15
   have hq17:=s1517 _ _ hq15
   have ntp:=bM hp17 ht17
   refine⟨_,rfl,_,rfl,_,rfl,p,tq,t.map aA,rfl,hp17,by rw[bW];exact ht17,dC lt,by rw[List.length_map];lia,fun y3 a4 H18 ha4 ty3 yl3 hp18 k18=>?_⟩
   have ht18:=k18 _ _ ht17 ntp
   refine⟨_,rfl,_,rfl,p,tq,t.map aA,rfl,hp18,by rw[bW];exact ht18,dC lt,by rw[List.length_map];lia,fun y4 a5 H19 ha5 ty4 yl4 hp19 k19=>?_⟩
   rw[List.length_map] at yl3 yl4
   have ht19:=k19 _ _ ht18 ntp
   have hq19:=k19 _ _ (k18 _ _ hq17 nqp) nqp
   have ha419:=k19 _ _ ha4 (dg hp18 ha4)
   refine⟨_,rfl,_,rfl,_,rfl,q,_,rfl,SqL.of hq19,fun a7 ha7=>?_⟩
   obtain⟨n7,e7⟩:=vC u (-1)
   rw[e7]
   have s20:=Same.upd (o:=.lst ((u.take n7).map sg)) ha7
   have ha720:=ae (H:=H19) (a:=a7) (o:=.lst ((u.take n7).map sg))
   generalize L2.upd H19 a7 (.lst ((u.take n7).map sg))=H20 at s20 ha720 ⊢
   refine⟨_,rfl,Nat.zero_le _,fun a8 ha8=>?_⟩
   have s21:=Same.upd (o:=.lst []) ha8
   have ha821:=ae (H:=H20) (a:=a8) (o:=.lst [])
   generalize L2.upd H20 a8 (.lst [])=H21 at s21 ha821 ⊢
   have s1921:=s20.trans s21
   refine⟨by show 6≤sizeLine;decide,fun xl hxl=>?_⟩
   have X21:TZ 250 H21 [.ref tq,.ref a4,.ref a5,.ref a7,.ref q,.ref a8]:=by
    refine .cons (zs:=t.map aA) (by rw[bW];exact s1921 _ _ ht19) (dC lt) (by rw[List.length_map];lia) (.cons (s1921 _ _ ha419) ty3 (by lia) (.cons (s1921 _ _ ha5) ty4 (by lia) (.cons (zs:=(u.take n7).map aA) (by rw[bW];exact s21 _ _ ha720) (dC (lu.take _)) (by rw[List.length_map,List.length_take];lia) (.cons (zs:=u.map aA) (by rw[bW];exact s1921 _ _ hq19) (dC lu) (by rw[List.length_map];lia) (.cons (zs:=[]) ha821 (fun z h=>(nomatch h)) (by decide) .nil)))))
   have s22:=Same.upd (o:=.lst [V.ref tq,.ref a4,.ref a5,.ref a7,.ref q,.ref a8]) hxl
   have hxl22:=ae (H:=H21) (a:=xl) (o:=.lst [V.ref tq,.ref a4,.ref a5,.ref a7,.ref q,.ref a8])
   have X22:=X21.same s22
   have xsl:[V.ref tq,.ref a4,.ref a5,.ref a7,.ref q,.ref a8].length=6:=rfl
   have hp21:=hp19.same s1921
   have nxl:xl≠p:=(hp21.ne hxl).symm
   generalize L2.upd H21 xl (.lst [V.ref tq,.ref a4,.ref a5,.ref a7,.ref q,.ref a8])=H22 at s22 hxl22 X22 ⊢
   generalize [V.ref tq,.ref a4,.ref a5,.ref a7,.ref q,.ref a8]=xs at hxl22 X22 xsl ⊢
   have k1722:Keep p H17 H22:=fun c o h n=>s22 _ _ (s1921 _ _ (k19 _ _ (k18 _ _ h n) n))
   have L22:LawZ b wl xl p cs ws xs H22:=⟨k1722 _ _ (k417 _ _ hb4 nb) nb,k1722 _ _ hwl17 nwl,hxl22,W17.kp hp17 k1722,X22,hp21.same s22,nb,nwl,nxl⟩
   clear k1722 hxl22 X22 s22 X21 s1921 s21 ha821 s20 ha720 hq19 ht19 ha419 k19 k18 ha4 ha5 ht18 hq17 ht17 k417 s1517 W17 hwl17 s17 W16 ha316 s16 ha115 hq15 k15 ha2 hq14 k14 ha1 ht15 k415
   refine⟨10,rfl,by decide,by decide,kJ (lo:=0) (n:=10) (fun i2 σ H23=>LawZ b wl xl p cs ws xs H23∧∃v9 v10 v11 v12 v13 v14 v15 v16 v17,σ=[some (.ref a),some (.int c),some (.ref p),some (.ref lr),some (.int mm),some (.ref q),some (.ref tq),some (.ref wl),some (.ref xl),v9,v10,v11,v12,v13,v14,v15,v16,v17]) ⟨L22,_,_,_,_,_,_,_,_,_,rfl⟩ ?_ ?_⟩
   ·rintro D2 i2 σ H23 nx2 _ ⟨L23,w9,w10,w11,w12,w13,w14,w15,w16,w17,rfl⟩
    refine⟨_,rfl,_,rfl,p,6,rfl,L23.hp,by decide,by decide,fun g1 H24 g10 g11 hp24 k24=>?_⟩
    have L24:=L23.kp k24 hp24
    obtain⟨x1',_,xm1,ex1⟩:=cB xs g1 g10 (by rw[xsl];exact g11)
    obtain⟨x1,ts,rfl,hx1,tt,tsl⟩:=L24.tx x1' xm1
    refine⟨xl,_,_,_,rfl,rfl,SqL.of L24.hx,ex1,?_⟩
    refine⟨_,rfl,_,rfl,p,4,rfl,L24.hp,by decide,by decide,fun g2 H25 g20 g21 hp25 k25=>?_⟩
    have L25:=L24.kp k25 hp25
    obtain⟨x2',_,xm2,ex2⟩:=cB ws g2 g20 (by rw[wsl];exact g21)
    obtain⟨x2,zs,rfl,hx2,tz,zl⟩:=L25.tw x2' xm2
    have hx125:=k25 _ _ hx1 (dg L24.hp hx1)
    refine⟨wl,_,_,_,rfl,rfl,SqL.of L25.hw,ex2,(by show 2≤sizeLine;decide),fun gv hgv=>?_⟩
    have s26:=Same.upd (o:=.lst [V.ref x1,.ref x2]) hgv
    have Y26:LawY b wl xl p gv x1 x2 cs ws xs ts zs (L2.upd H25 gv (.lst [V.ref x1,.ref x2])):=⟨L25.same s26,ae,s26 _ _ hx125,s26 _ _ hx2,(L25.hp.ne hgv).symm⟩
    generalize L2.upd H25 gv (.lst [V.ref x1,.ref x2])=H26 at s26 Y26 ⊢
    clear hx125 hx2 s26 hx1 L23 L24 L25
    refine⟨_,rfl,_,_,rfl,rfl,⟨by decide,by decide,by decide⟩,by show 2≤sizeLine;decide,fun l4 hl4=>?_⟩
    have s27:=Same.upd (o:=.lst [V.int 3,.int (10 ^ (59:Int).toNat)]) hl4
    have hl427:=ae (H:=H26) (a:=l4) (o:=.lst [V.int 3,.int (10 ^ (59:Int).toNat)])
    have Y27:=Y26.same s27
    have nl4:l4≠p:=(Y26.l.hp.ne hl4).symm
    generalize L2.upd H26 l4 (.lst [V.int 3,.int (10 ^ (59:Int).toNat)])=H27 at s27 hl427 Y27 ⊢
    refine⟨_,rfl,p,2,rfl,Y27.l.hp,by decide,by decide,fun g3 H28 g30 g31 hp28 k28=>?_⟩
    have Y28:=Y27.kp k28 hp28
    obtain⟨m3,m31,m32,hat4⟩:∃m3:Int,1≤m3∧m3<1000000000000000000000000000000000000000000000000000000000000∧aX [V.int 3,.int (10 ^ (59:Int).toNat)] g3=some (.int m3):=by
     have:g3=0∨g3=1:=by lia
     rcases this with h | h
     ·subst h;exact⟨3,by decide,by decide,rfl⟩
     ·subst h;exact⟨10 ^ (59:Int).toNat,by decide,by decide,rfl⟩
    refine⟨l4,_,_,_,rfl,rfl,SqL.of (k28 _ _ hl427 nl4),hat4,p,m3,rfl,hp28,m31,m32,fun far H29 f0 f1 hp29 k29=>?_⟩
    have Y29:=Y28.kp k29 hp29
    clear Y26 s27 hl427 Y27 Y28 k28 k29
    refine⟨_,rfl,gv,_,_,_,rfl,rfl,SqL.of Y29.g,bc (j:=0) rfl,x1,_,rfl,SqL.of Y29.h1,?_⟩
    refine⟨_,rfl,_,_,rfl,rfl,_,rfl,_,_,rfl,rfl,_,rfl,_,_,rfl,rfl,_,rfl,_,rfl,p,40,rfl,Y29.l.hp,by decide,by decide,fun g4 H30 g40 g41 hp30 k30=>?_⟩
    have Y30:=Y29.kp k30 hp30
    refine⟨_,_,rfl,rfl,by show 5≤sizeLine;decide,fun l5 hl5=>?_⟩
    generalize List.length (ts.map V.str)=size at hl5 ⊢
    have I5:∀x∈[V.int 0,.int (0-far),.int ((size:Int)+1+far),.int (size:Int),.int (1+g4)],∃n:Int,x=.int n:=by
     intro x hx
     simp only[List.mem_cons,List.not_mem_nil,or_false] at hx
     rcases hx with rfl | rfl | rfl | rfl | rfl <;> exact⟨_,rfl⟩
    have I5l:[V.int 0,.int (0-far),.int ((size:Int)+1+far),.int (size:Int),.int (1+g4)].length=5:=rfl
    generalize [V.int 0,.int (0-far),.int ((size:Int)+1+far),.int (size:Int),.int (1+g4)]=l5s at I5 I5l ⊢
    have s31:=Same.upd (o:=.lst l5s) hl5
    have hl531:=ae (H:=H30) (a:=l5) (o:=.lst l5s)
    have Y31:=Y30.same s31
    have nl5:l5≠p:=(Y30.l.hp.ne hl5).symm
    generalize L2.upd H30 l5 (.lst l5s)=H31 at s31 hl531 Y31 ⊢
    refine⟨_,rfl,p,5,rfl,Y31.l.hp,by decide,by decide,fun g5 H32 g50 g51 hp32 k32=>?_⟩
    have Y32:=Y31.kp k32 hp32
    obtain⟨n,hat5⟩:=u9 I5 g50 (by rw[I5l];exact g51)
    refine⟨l5,_,_,_,rfl,rfl,SqL.of (k32 _ _ hl531 nl5),hat5,?_⟩
    clear Y30 Y31 s31 hl531 k30 k32 hat5 I5
    have N:∀{G:Hp} {x:Addr},Hand G p→G x=none→x≠p:=fun h e=>(h.ne e).symm
    refine⟨by show 1≤sizeLine;decide,fun c1 hc1=>?_⟩
    have t1:=Same.upd (o:=.lst [V.int 0]) hc1
    have e1:=ae (H:=H32) (a:=c1) (o:=.lst [V.int 0])
    have n1:=N hp32 hc1
    generalize L2.upd H32 c1 (.lst [V.int 0])=G1 at t1 e1 ⊢
    refine⟨by show 1≤sizeLine;decide,fun c2 hc2=>?_⟩
    have t2:=Same.upd (o:=.lst [V.int 0]) hc2
    have e2:=ae (H:=G1) (a:=c2) (o:=.lst [V.int 0])
    have n2:=N (hp32.same t1) hc2
    generalize L2.upd G1 c2 (.lst [V.int 0])=G2 at t2 e2 ⊢
    refine⟨Nat.zero_le _,fun c3 hc3=>?_⟩
    have t3:=Same.upd (o:=.lst []) hc3
    have e3:=ae (H:=G2) (a:=c3) (o:=.lst [])
    have n3:=N ((hp32.same t1).same t2) hc3
    generalize L2.upd G2 c3 (.lst [])=G3 at t3 e3 ⊢
    have t03:=(t1.trans t2).trans t3
    refine⟨by show 1≤sizeLine;decide,fun c4 hc4=>?_⟩
    have t4:=Same.upd (o:=.lst [V.int 1]) hc4
    have e4:=ae (H:=G3) (a:=c4) (o:=.lst [V.int 1])
    have n4:=N (hp32.same t03) hc4
    generalize L2.upd G3 c4 (.lst [V.int 1])=G4 at t4 e4 ⊢
    have t04:=t03.trans t4
    refine⟨_,rfl,by show 1≤sizeLine;decide,fun c5 hc5=>?_⟩
    have t5:=Same.upd (o:=.lst [V.int far]) hc5
    have e5:=ae (H:=G4) (a:=c5) (o:=.lst [V.int far])
    have n5:=N (hp32.same t04) hc5
    generalize L2.upd G4 c5 (.lst [V.int far])=G5 at t5 e5 ⊢
    have t05:=t04.trans t5
    refine⟨by show 2≤sizeLine;decide,fun c6 hc6=>?_⟩
    have t6:=Same.upd (o:=.lst [V.int 0,.int 0]) hc6
    have e6:=ae (H:=G5) (a:=c6) (o:=.lst [V.int 0,.int 0])
    have n6:=N (hp32.same t05) hc6
    generalize L2.upd G5 c6 (.lst [V.int 0,.int 0])=G6 at t6 e6 ⊢
    have t06:=t05.trans t6
    have C6:CI G6 p [.ref c1,.ref c2,.ref c3,.ref c4,.ref c5,.ref c6]:=by
     have t56:=t5.trans t6
     have t46:=t4.trans t56
     have t36:=t3.trans t46
     exact .cons (ns:=[0]) ((t2.trans t36) _ _ e1) (.inl (by decide)) n1 (.cons (ns:=[0]) (t36 _ _ e2) (.inl (by decide)) n2 (.cons (ns:=[]) (t46 _ _ e3) (.inl (by decide)) n3 (.cons (ns:=[1]) (t56 _ _ e4) (.inl (by decide)) n4 (.cons (ns:=[far]) (t6 _ _ e5) (.inl (Nat.le_refl 1)) n5 (.cons (ns:=[0,0]) e6 (.inr rfl) n6 .nil)))))
    refine⟨by show 6≤sizeLine;decide,fun cl hcl=>?_⟩
    have t7:=Same.upd (o:=.lst [V.ref c1,.ref c2,.ref c3,.ref c4,.ref c5,.ref c6]) hcl
    have e7':=ae (H:=G6) (a:=cl) (o:=.lst [V.ref c1,.ref c2,.ref c3,.ref c4,.ref c5,.ref c6])
    have n7':=N (hp32.same t06) hcl
    have C7:=C6.same t7
    have csl:[V.ref c1,.ref c2,.ref c3,.ref c4,.ref c5,.ref c6].length=6:=rfl
    generalize L2.upd G6 cl (.lst [V.ref c1,.ref c2,.ref c3,.ref c4,.ref c5,.ref c6])=G7 at t7 e7' C7 ⊢
    generalize [V.ref c1,.ref c2,.ref c3,.ref c4,.ref c5,.ref c6]=cls at e7' C7 csl ⊢
    have Y33:=Y32.same (t06.trans t7)
    refine⟨_,rfl,p,6,rfl,Y33.l.hp,by decide,by decide,fun g6 H34 g60 g61 hp34 k34=>?_⟩
    have Y34:=Y33.kp k34 hp34
    obtain⟨ch',_,cm1,ex6⟩:=cB cls g6 g60 (by rw[csl];exact g61)
    obtain⟨ch,cns,rfl,hch',hL,nch⟩:=C7 ch' cm1
    have hch:=k34 _ _ hch' nch
    refine⟨cl,_,_,_,rfl,rfl,SqL.of (k34 _ _ e7' n7'),ex6,?_⟩
    clear C7 C6 hch' k34 Y33 Y32 e7' t7 t06 t05 t04 t03 t1 t2 t3 t4 t5 t6 e1 e2 e3 e4 e5 e6 Y29
    refine⟨4,rfl,by decide,by decide,kJ (lo:=0) (n:=4) (fun j σ H35=>Same H34 H35∧∃v15 v16 v17,σ=[some (.ref a),some (.int c),some (.ref p),some (.ref lr),some (.int mm),some (.ref q),some (.ref tq),some (.ref wl),some (.ref xl),some (.int (0+(i2:Int))),some (.ref gv),some (.int far),some (.int (size:Int)),some (.int n),some (.ref ch),v15,v16,v17]) ⟨Same.refl _,_,_,_,rfl⟩ ?_ ?_⟩
    ·rintro D3 j σ H35 nx3 j4 ⟨s35,u15,u16,u17,rfl⟩
     have Y35:=Y34.same s35
     rw[Int.zero_add (j:Int)]
     refine⟨_,rfl,_,rfl,by show 4≤sizeLine;decide,fun l7 hl7=>?_⟩
     have s36:=Same.upd (o:=.lst [V.int 0,.ref ch,.int 0,.int n]) hl7
     have hl736:=ae (H:=H35) (a:=l7) (o:=.lst [V.int 0,.ref ch,.int 0,.int n])
     generalize L2.upd H35 l7 (.lst [V.int 0,.ref ch,.int 0,.int n])=H36 at s36 hl736 ⊢
     obtain⟨more,bs,hat7,ask⟩:∃(more:V) (bs:List Bool),aX [V.int 0,.ref ch,.int 0,.int n] (j:Int)=some more∧∀H':Hp,H' ch=some (.lst (cns.map V.int))→jW H' j ts zs more bs:=by
      have:j=0∨j=1∨j=2∨j=3:=by lia
      rcases this with rfl | rfl | rfl | rfl
      ·obtain⟨bs,D⟩:=vX zs
       exact⟨_,bs,rfl,fun H' _=>.inl ⟨rfl,D⟩⟩
      ·obtain⟨bs,D⟩:=sq zs ts cns
       exact⟨_,bs,rfl,fun H' h=>.inr (.inl ⟨rfl,ch,cns,rfl,h,hL,D⟩)⟩
      ·obtain⟨bs,D⟩:=u6 zs ts
       exact⟨_,bs,rfl,fun H' _=>.inr (.inr (.inl ⟨rfl,D⟩))⟩
      ·obtain⟨bs,D⟩:=tf ts n
       exact⟨_,bs,rfl,fun H' _=>.inr (.inr (.inr ⟨rfl,n,rfl,D⟩))⟩
     refine⟨_,rfl,l7,_,_,_,rfl,rfl,SqL.of hl736,hat7,?_⟩
     have Y36:=Y35.same s36
     refine⟨_,rfl,gv,_,_,_,rfl,rfl,SqL.of Y36.g,bc (j:=0) rfl,x1,_,rfl,SqL.of Y36.h1,fun h1 hh1=>?_⟩
     have s37:=Same.upd (o:=.lst (ts.map V.str)) hh1
     have hh137:=ae (H:=H36) (a:=h1) (o:=.lst (ts.map V.str))
     have Y37:=Y36.same s37
     generalize L2.upd H36 h1 (.lst (ts.map V.str))=H37 at s37 hh137 Y37 ⊢
     refine⟨_,rfl,gv,_,_,_,rfl,rfl,SqL.of Y37.g,bc (j:=1) rfl,x2,_,rfl,SqL.of Y37.h2,fun h2 hh2=>?_⟩
     have s38:=Same.upd (o:=.lst (zs.map V.str)) hh2
     have hh238:=ae (H:=H37) (a:=h2) (o:=.lst (zs.map V.str))
     generalize L2.upd H37 h2 (.lst (zs.map V.str))=H38 at s38 hh238 ⊢
     refine⟨by show 2≤sizeLine;decide,fun hd hhd=>?_⟩
     have s39:=Same.upd (o:=.lst [V.ref h1,.ref h2]) hhd
     have hhd39:=ae (H:=H38) (a:=hd) (o:=.lst [V.ref h1,.ref h2])
     generalize L2.upd H38 hd (.lst [V.ref h1,.ref h2])=H39 at s39 hhd39 ⊢
     have s3439:=((((s35.trans s36).trans s37).trans s38).trans s39)
     have hh139:=s39 _ _ (s38 _ _ hh137)
     have hh239:=s39 _ _ hh238
     refine⟨_,rfl,_,rfl,hd,_,_,_,rfl,rfl,SqL.of hhd39,bc (j:=0) rfl,_,rfl,hd,_,_,_,rfl,rfl,SqL.of hhd39,bc (j:=1) rfl,_,rfl,j,h1,h2,ts,zs,more,bs,rfl,hh139,hh239,tt,tz,by lia,by lia,ask _ (s3439 _ _ hch),fun rr H40 hrr s40=>?_⟩
     have s3440:=s3439.trans s40
     have Y40:=Y34.same s3440
     refine⟨_,rfl,_,rfl,gv,_,_,_,rfl,rfl,SqL.of Y40.g,bc (j:=0) rfl,_,rfl,gv,_,_,_,rfl,rfl,SqL.of Y40.g,bc (j:=1) rfl,_,rfl,j,x1,x2,ts,zs,more,bs,rfl,Y40.h1,Y40.h2,tt,tz,by lia,by lia,ask _ (s3440 _ _ hch),fun dr H41 hdr s41=>?_⟩
     have s3441:=s3440.trans s41
     have Y41:=Y34.same s3441
     have s3941:=s40.trans s41
     refine rl (s41 _ _ hrr) hdr ⟨_,rfl,ar ?_⟩
     refine⟨_,rfl,_,rfl,uM tt tz (s3941 _ _ hhd39) (s3941 _ _ hh139) (s3941 _ _ hh239) Y41.g Y41.h1 Y41.h2 ⟨_,rfl,ar ?_⟩⟩
     exact nx3 _ _ ⟨s3441,_,_,_,rfl⟩
    ·rintro σ H35 ⟨s35,u15,u16,u17,rfl⟩
     exact nx2 _ _ ⟨(Y34.same s35).l,_,_,_,_,_,_,_,_,_,rfl⟩
   ·rintro σ H23 ⟨L23,w9,w10,w11,w12,w13,w14,w15,w16,w17,rfl⟩
    exact nx1 _ _ ⟨L23.hb,_,_,_,_,_,_,_,_,_,_,_,_,_,_,_,_,_,rfl⟩
  ·rintro σ H2 ⟨hb2,v1,v2,v3,v4,v5,v6,v7,v8,v9,v10,v11,v12,v13,v14,v15,v16,v17,rfl⟩
   exact k H2
end
theorem all_mk{P:Program}{w:World}{K:PySem.W.Frag}{h:Heap}{mg:Str→Option Value}{fa:Addr}(X:K.In h)(G:h.Ns mainGlobals mg)(hfa:mg "law"=some (.ref fa))(f1:FF K "_law_pot" jl)(f2:FF K "_law_take" jb)(f3:FF K "_law_letters" iC)(f4:FF K "_law_signs" iQ)(f5:FF K "_law_word" iX)(f6:FF K "_law_shifts" jq)(f7:FF K "is_sign" gz)(f8:FF K "check_signs" gG)(f9:FF K "check_word" gH)(f10:FF K "borders" iG)(f11:FF K "periods" jP)(f12:FF K "shifts" gZ)(f13:FF K "check_fits" gs)(f14:FF K "is_chain" jT)(f15:FF K "laid_out" i9)(f16:FF K "chain_cost" gJ)(f17:FF K "wrong_among_first" jN)(f18:FF K "best_ways" jF)(f19:FF K "fewest_wrong" fV)(f20:FF K "check_within" fU)(f21:FF K "piece_places" i6)(f22:FF K "nearest_piece" gE)(f23:FF K "_law_laid" jn)(f24:FF K "_law_odd" jY)(f25:FF K "_law_flags" jD)(f26:FF K "_law_due_flags" jL)(f27:FF K "_law_said" iA)(f28:FF K "_law_none" jH)(f29:FF K "_law_comes" ja)(f30:FF K "_law_due" iq)(f31:FF K "law" jZ)(x:Md K mg→∃c0 c1 c2 c3 c4 c5 c6 c7 c8 c9:Addr,Exs K mg c0 c1 c2 c3 c4 c5 c6 c7 c8 c9)(na:PySem.W.nsIn K mainGlobals "all"=some none)(b:Md K mg→Bl mg):∃fd:FuncData,(∀(s:Shared) (v:Value),BindsTo s fd ⟨[v],[]⟩ [("script",v)])∧∀base:Heap,K.In base→base.Ns mainGlobals mg→FnOk P w K mg base ak 9 fa fd ["script"] (gh K):=by
 have M:=u2 X G
 have Bl:=b M
 obtain⟨c0,c1,c2,c3,c4,c5,c6,c7,c8,c9,S⟩:=x M
 have nall:mg "all"=none:=M.ns _ _ na
 have O1:Exc K mg "NoWord" c1:=⟨S.bNoWord,(excFacts.of S.facts c1 (by simp)).isIn⟩
 have O2:Exc K mg "NoSign" c2:=⟨S.bNoSign,(excFacts.of S.facts c2 (by simp)).isIn⟩
 have O3:Exc K mg "NoText" c3:=⟨S.bNoText,(excFacts.of S.facts c3 (by simp)).isIn⟩
 have O4:Exc K mg "NoCover" c4:=⟨S.bNoCover,(excFacts.of S.facts c4 (by simp)).isIn⟩
 have O5:Exc K mg "NoChain" c5:=⟨S.bNoChain,(excFacts.of S.facts c5 (by simp)).isIn⟩
 have O7:Exc K mg "NoNumber" c7:=⟨S.bNoNumber,(excFacts.of S.facts c7 (by simp)).isIn⟩
 refine tR M f31 hfa (fun _ _ _ _ _ _ s v=>.of_eq rfl) fun base=>?_
 have g1:=rL (P:=P) (w:=w) (base:=base) M Bl f1
 have g2:=sP (P:=P) (w:=w) (base:=base) M f2
 have g3:=o6 M Bl f3 g2
 have g4:=qX M Bl f4 g2
 have g5:=qS M Bl f5 g2 g4
 have g6:=uP (P:=P) (w:=w) (base:=base) M Bl f6
 have g7:=rd (P:=P) (w:=w) (base:=base) M Bl f7
 have g8:=rZ M Bl f8 g7
 have g9:=rC M Bl f9 g8
 have x7:=qq (P:=P) (w:=w) (base:=base) M Bl f7
 have x8:=qk M Bl f8 O2 x7
 have x9:=uV M Bl f9 O1 x8
 have g10:=t8 M Bl f10 g8
 have g11:=oN M Bl f11 g10
 have g12:=sM M Bl f12 g9 g11
 have x12:=(Fn.toX (CX:=aS P w) g12).or (uG M Bl f12 x9 g11) (k:=5)
 have g13:=vH M Bl f13 g8 g9
 have x13:=ui M Bl f13 O3 x8 x9
 have g14:=qv M Bl nall f14 g12
 have g15:=uh (P:=P) (w:=w) (base:=base) M Bl f15
 have x16:=(oX M Bl f16 O5 (Fn.toX (CX:=aS P w) g13) g14 g15).or (rR M Bl f16 O5 x13 g14 g15) (k:=7)
 have g17:=qW (P:=P) (w:=w) (base:=base) M Bl f17
 have g18:=sO M Bl f18 g12 g17
 have x19:=(sR M Bl f19 O4 (Fn.toX (CX:=aS P w) g13) g18).or (vx M Bl f19 O4 x13 g18) (k:=7)
 have g20:=rW (P:=P) (w:=w) (base:=base) M Bl f20
 have x20:=u5 (P:=P) (w:=w) (base:=base) M Bl f20 O7
 have g21:=ug (P:=P) (w:=w) (base:=base) M Bl f21
 have x22:=(Fn.toX (CX:=aS P w) (pN M Bl f22 g8 g20 g21 g18)).or (o7 M Bl f22 x8 x20 g21 g18) (k:=7)
 have g23:=ql M Bl f23 g2 g6
 have g24:=rN M Bl f24 g2
 have g25:=pW (P:=P) (w:=w) (base:=base) M Bl f25 S
 have g26:=vG (P:=P) (w:=w) (base:=base) M Bl f26
 have g27:=pj M Bl f27 S x12 x16 x19 x22 g25
 have g28:=so (P:=P) (w:=w) (base:=base) M Bl f28
 have g29:=uT M Bl f29 g6
 have g30:=((pf M Bl f30 g26 g28 g29).or (qf M Bl f30 g26 g28 g29) (k:=4)).imp fun _ _ _ _ h=>pZ h
 exact uB M Bl f31 g1 g2 g3 g4 g5 g23 g24 g30 g27
theorem walk{l:PySem.W.OpenLaw}{q:Program}{loose:List Str}{XP:(Str→Option Value)→Heap→Prop}{YP:World→Heap→Prop}{d:DefRec}{K:Params→PySem.W.Frag}(hn:l.most=some 63)(hdf:d.params.defaults=[])(hY:∀(w:World) (h:Heap),YP w h→(K w.params).In h)(F:∀(w:World) (mg:Str→Option Value) (fa:Addr) (h:Heap),(K w.params).In h→h.Ns mainGlobals mg→mg d.name=some (.ref fa)→∃fd:FuncData,(∀(s:Shared) (u:Value),BindsTo s fd ⟨[u],[]⟩ [("script",u)])∧∀base:Heap,(K w.params).In base→base.Ns mainGlobals mg→FnOk l.prog w (K w.params) mg base ak 9 fa fd ["script"] (gh (K w.params))):PySem.W.WalkO q loose XP YP l.row.toRowW d [] (fun f vs=>PySem.call f vs):=
 L2.walk_of (n:=63) (k:=9) (x:="script") (CX:=fun _=>ak) (sp:=fun w=>gh (K w.params)) hn (by decide) hdf ⟨rfl,by decide,by decide⟩ hY F (fun _ _ a ns hl _ hS=>⟨a,ns,rfl,hS,hl,fun _=>rfl⟩) fun _ _ _ _ _ z=>z
end Ov
noncomputable section
namespace PySem.W.Fast
def tw17040971012950370362:=Nat
def tw12823588433923342974:=Nat
def tw15821628969975775077:=Nat
def tw10152245974786776157:=Nat
def tw2206912363862808835:=Nat
def tw10987489795168008888:=Nat
def tw4312086628720251101:=Nat
def tw15622437179806851017:=Nat
def tw18344495159673115815:=Nat
def tw13691425634716800560:=Nat
def tw9511352725433735005:=Nat
def tw13107355265835091668:=Nat
def tw15499911736290816925:=Nat
def tw6358210479114682080:=Nat
def tw3090228282675018143:=Nat
def tw15833384196486191254:=Nat
def tw17535892979126455435:=Nat
def tw2864583387735046093:=Nat
def tw2135660277135145776:=Nat
def tw14596821562150448194:=Nat
def tw8228356094902353242:=Nat
def tw4129224052117278344:=Nat
def tw18174895398451652720:=Nat
def tw957593685801211946:=Nat
def tw16931050778797971799:=Nat
def tw2931169934629563638:=Nat
def tw16744456793157961215:=Nat
def tw8939077040975834511:=Nat
def tw9192679960156568191:=Nat
def tw4991072499940305370:=Nat
def tw790707073530748370:=Nat
def tw7190232255031310648:=Nat
def tw87189095930637029:=Nat
def tw15997611238811456625:=Nat
def tw7227928442238464575:=Nat
def tw5008597324035939936:=Nat
def tw1069320087665182625:=Nat
def tw14650037992663533256:=Nat
def tw5223780927811217836:=Nat
def tw8706539901495989207:=Nat
def tw5965721765740340196:=Nat
def tw7160304178809106069:=Nat
def tw15368069598482425449:=Nat
def tw2313736450959254830:=Nat
def tw14212071684524096773:=Nat
def tw10901477184026736324:=Nat
def tw11566466262389915608:=Nat
def tw2899859995488683941:=Nat
def tw11113742941285310217:=Nat
def tw4247231708895134865:=Nat
def tw3332515846706444353:=Nat
def tw14775176790502823317:=Nat
def tw2219013351226532506:=Nat
def tw16665680542301339489:=Nat
def tw8592770795839964920:=Nat
def tw13020085091695403720:=Nat
def tw12067983768059810364:=Nat
def tw5244399050246641251:=Nat
def tw2700922226683941852:=Nat
def tw18372613072005695390:=Nat
def tw11056807002474288280:=Nat
def tw14969414591507991307:=Nat
def tw14640059042724057317:=Nat
def tw9905798558091217934:=Nat
def tw11599175697436289772:=Nat
def tw3504053453651664865:=Nat
def tw17842730351648988386:=Nat
def tw18317437984517421642:=Nat
def tw9765720377194246734:=Nat
def tw8696331198539151615:=Nat
def tw8989351783828994707:=Nat
def tw10895795549393644203:=Nat
def tw5769180504781079099:=Nat
def tw656924259393404700:=Nat
def tw9083218755453055999:=Nat
def tw12300433855388123941:=Nat
def tw3558973424683495673:=Nat
def tw4030559949986690146:=Nat
def tw13629947073734927875:=Nat
def tw5267625448847367845:=Nat
def tw8906817552926408864:=Nat
def tw10453289230819074186:=Nat
def tw8741053190254816224:=Nat
def tw18231952718179198714:=Nat
def tw6060283003600894737:=Nat
def tw1979071618374210016:=Nat
def tw2382768551201617382:=Nat
def tw8345350645373243291:=Nat
def tw15596570633068595767:=Nat
def tw14466424658371811861:=Nat
def tw17276168882196545481:=Nat
def tw16943484460537598338:=Nat
def tw1632136119400317245:=Nat
def tw7384923014116656283:=Nat
def tw9293479788457481361:=Nat
def tw2323000264509771897:=Nat
def tw8149786575755053225:=Nat
def tw6332752289399154012:=Nat
def tw7997867401487298939:=Nat
def tw3314071119549923242:=Nat
end PySem.W.Fast
end
open PySem PySem.W PyProof.Rows
set_option maxRecDepth 100000 in
set_option maxHeartbeats 0 in
theorem PySem.Challenge.cw_overlaid_k33_wrong_signs_refused_holds : PySem.Challenge.rw_overlaid_k33_wrong_signs_refused.Holds := by
 w_on;o_law;k_head;(case hw=>w_witness2)
 k_fill
 refine Ov.walk (l:=PySem.Challenge.rw_overlaid_k33_wrong_signs_refused) rfl rfl (fun w h Y=>PySem.W.kIn_of Y) ?F
 case F=>
  intro w mg fa h KX G hmg
  refine' Ov.all_mk KX G hmg ?f1 ?f2 ?f3 ?f4 ?f5 ?f6 ?f7 ?f8 ?f9 ?f10 ?f11 ?f12 ?f13 ?f14 ?f15 ?f16 ?f17 ?f18 ?f19 ?f20 ?f21 ?f22 ?f23 ?f24 ?f25 ?f26 ?f27 ?f28 ?f29 ?f30 ?f31 ?X ?Nall ?B
  (case f1|f2|f3|f4|f5|f6|f7|f8|f9|f10|f11|f12|f13|f14|f15|f16|f17|f18|f19|f20|f21|f22|f23|f24|f25|f26|f27|f28|f29|f30|f31=>(refine' L2.ff_mk ?a ?l ?c ?k;(case a|l|c|k=>k_is)))
  (case X=>(intro M;refine' ⟨_,_,_,_,_,_,_,_,_,_,Ov.exs_mk M ?a0 ?a1 ?a2 ?a3 ?a4 ?a5 ?a6 ?a7 ?a8 ?a9 ?av ?ef ?nd⟩;(case a0|a1|a2|a3|a4|a5|a6|a7|a8|a9|av=>k_is);(case ef=>kernel_rfl);(case nd=>decide)))
  (case Nall=>k_is)
  (case B=>(intro M;refine' L2.bl_of M ?b1 ?b2 ?b3 ?b4 ?b5 ?b6 ?b7 ?b8 ?b9 ?b10 ?b11 ?b12 ?b13 ?b14 ?b15;(case b1|b2|b3|b4|b5|b6|b7|b8|b9|b10|b11|b12|b13|b14|b15=>k_is)))
