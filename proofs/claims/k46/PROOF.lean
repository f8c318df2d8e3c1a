import PyProof.Rows.All
import Wide.All
import OpenK.AllK
import Wide.FinOn
import Lean
import PyProof.EqAt
import PyProof.EqKinds
import PyProof.TupleCall
import PySem.Challenge.RW_overlaid_k46_a_desk_by_the_stages
set_option Elab.async false
set_option linter.all false
set_option maxRecDepth 100000
namespace L2
open PySem PySem.Spec PyProof.Rows
abbrev az:=Sum Int Str
def gL:az→Value→Bool
 | .inl k,v=>Value.isInt k v
 | .inr x,v=>Value.isStrOf x v
def wO(w:World):az→Int
 | .inl k=>hashInt k
 | .inr x=>hashStr w x
theorem eV:∀{k:az} {v:Value},gL k v=true→(∃i t,k=Sum.inl i∧v=Value.int i t)∨(∃x t,k=Sum.inr x∧v=Value.str x t)
 | .inl i,v,h=>by
   obtain⟨t,e⟩:=Value.isInt_shape (k:=i) (v:=v) h
   exact .inl ⟨i,t,rfl,e⟩
 | .inr x,v,h=>by
   obtain⟨t,e⟩:=Value.isStrOf_shape (x:=x) (v:=v) h
   exact .inr ⟨x,t,rfl,e⟩
theorem xI(i:Int)(t:Tok):gL (.inl i) (.int i t)=true:=by simp[gL,Value.isInt]
theorem Aa(x:Str)(t:Tok):gL (.inr x) (.str x t)=true:=by simp[gL,Value.isStrOf]
theorem yT(a b:Int):decide ((Sum.inl a:az)=Sum.inl b)=(a == b):=by
 by_cases e:a=b
 ·subst e;simp
 ·have h:¬(Sum.inl a:az)=Sum.inl b:=fun q=>e (Sum.inl.inj q)
  rw[decide_eq_false h]
  exact(beq_eq_false_iff_ne.mpr e).symm
theorem wM(a b:Str):decide ((Sum.inr a:az)=Sum.inr b)=decide (a=b):=by
 by_cases e:a=b
 ·subst e;simp
 ·have h:¬(Sum.inr a:az)=Sum.inr b:=fun q=>e (Sum.inr.inj q)
  rw[decide_eq_false h,decide_eq_false e]
theorem vM(a:Int)(b:Str):decide ((Sum.inl a:az)=Sum.inr b)=false:=decide_eq_false (fun q=>nomatch q)
theorem zl(a:Str)(b:Int):decide ((Sum.inr a:az)=Sum.inl b)=false:=decide_eq_false (fun q=>nomatch q)
def bQ(prog:Program)(w:World):PySem.KeyKind prog w az where
 is:=gL
 hash:=wO w
 inj:=fun v a b ha hb=>by
  rcases eV ha with⟨i,t,rfl,rfl⟩ | ⟨x,t,rfl,rfl⟩
  ·rcases eV hb with⟨j,u,rfl,e⟩ | ⟨y,u,rfl,e⟩
   ·injection e with e1 _;rw[e1]
   ·exact nomatch e
  ·rcases eV hb with⟨j,u,rfl,e⟩ | ⟨y,u,rfl,e⟩
   ·exact nomatch e
   ·injection e with e1 _;rw[e1]
 byValue:=fun k v h=>by
  rcases eV h with⟨i,t,rfl,rfl⟩ | ⟨x,t,rfl,rfl⟩ <;> rfl
 pyHash:=fun hv h=>by
  rcases eV hv with⟨i,t,rfl,rfl⟩ | ⟨x,t,rfl,rfl⟩
  ·exact wpAny_pyHash_int h
  ·exact wpAny_pyHash_str h
 eqBool:=fun hu hv h=>by
  rcases eV hu with⟨i,t,rfl,rfl⟩ | ⟨x,t,rfl,rfl⟩
  ·rcases eV hv with⟨j,u,rfl,rfl⟩ | ⟨y,u,rfl,rfl⟩
   ·rw[yT] at h;exact wpAny_eqBool_int h
   ·rw[vM] at h;exact SeqAt.EqAt.int_str i t y u _ _ _ _ h
  ·rcases eV hv with⟨j,u,rfl,rfl⟩ | ⟨y,u,rfl,rfl⟩
   ·rw[zl] at h;exact SeqAt.EqAt.str_int x t j u _ _ _ _ h
   ·rw[wM] at h;exact wpAny_eqBool_str h
 «strs»:=fun k x t v h=>by
  rcases eV h with⟨i,u,rfl,e⟩ | ⟨y,u,rfl,e⟩
  ·exact nomatch e
  ·injection e with e1 _
   subst e1
   cases v <;> rfl
theorem AF(prog:Program)(w:World)(i:Int)(t:Tok):(bQ prog w).is (.inl i) (.int i t)=true:=xI i t
theorem on(prog:Program)(w:World)(x:Str)(t:Tok):(bQ prog w).is (.inr x) (.str x t)=true:=Aa x t
inductive V where
 | non | bl (b:Bool) | int (i:Int) | str (x:Str) | byt (b:Array UInt8) | flt (b:UInt64) | ref (a:Addr) | ty (n:String)
 deriving DecidableEq
def RelV:V→Value→Prop
 | .non,u=>u=Value.none
 | .bl b,u=>u=Value.bool b
 | .int i,u=>∃t,u=Value.int i t
 | .str x,u=>∃t,u=Value.str x t
 | .byt b,u=>∃t,u=Value.bytes b t
 | .flt b,u=>∃t,u=Value.float b t
 | .ref a,u=>u=Value.ref a
 | .ty n,u=>u=Value.type n
abbrev Vals:List V→List Value→Prop:=Paired RelV
theorem Vals.length{xs:List V}{us:List Value}(r:Vals xs us):xs.length=us.length:=Paired.length r
theorem Vals.get:∀{xs:List V} {us:List Value} {i:Nat} {x:V},Vals xs us→xs[i]?=some x→∃u,us[i]?=some u∧RelV x u
 | _,_,_,_,.nil,e=>by simp at e
 | _,_,0,_,.cons r _,e=>by simp at e;subst e;exact⟨_,rfl,r⟩
 | _,_,i+1,x,.cons _ t,e=>by
   obtain⟨u,h1,h2⟩:=Vals.get (i:=i) (x:=x) t (by simpa using e)
   exact⟨u,by simpa using h1,h2⟩
theorem Vals.set{x:V}{u:Value}(r:RelV x u):∀{xs:List V} {us:List Value} (i:Nat),Vals xs us→Vals (xs.set i x) (us.set i u)
 | _,_,_,.nil=>.nil
 | _,_,0,.cons _ t=>.cons r t
 | _,_,i+1,.cons q t=>.cons q (Vals.set r i t)
theorem Vals.append:∀{xs ys:List V} {us ws:List Value},Vals xs us→Vals ys ws→Vals (xs++ys) (us++ws)
 | _,_,_,_,.nil,s=>s
 | _,_,_,_,.cons r t,s=>.cons r (Vals.append t s)
theorem Vals.take:∀{xs:List V} {us:List Value} (n:Nat),Vals xs us→Vals (xs.take n) (us.take n)
 | _,_,0,_=>.nil
 | _,_,_+1,.nil=>.nil
 | _,_,n+1,.cons r t=>.cons r (Vals.take n t)
theorem Vals.drop:∀{xs:List V} {us:List Value} (n:Nat),Vals xs us→Vals (xs.drop n) (us.drop n)
 | _,_,0,r=>r
 | _,_,_+1,.nil=>.nil
 | _,_,n+1,.cons _ t=>Vals.drop n t
def RelO:Option V→Option Value→Prop
 | some v,some u=>RelV v u
 | none,none=>True
 | _,_=>False
def KV{κ:Type}:List (κ×V)→List (κ×Value)→Prop:=Paired fun(p:κ×V) (q:κ×Value)=>p.1=q.1∧RelV p.2 q.2
def kV:az→V
 | .inl i=>.int i
 | .inr x=>.str x
inductive HO where
 | lst (xs:List V)
 | tup (xs:List V)
 | dK (kvs:List (az×V)) | dT (kvs:List (List az×V))
 | set (S:Int→Bool) (n:Nat)
 | ins (C dx:Addr) (fs:List (Str×V))
 | own (x:Addr)
 | xd (fs:List (Str×V))
 | met (f x:Addr)
 | rng (lo hi:Int)
 | frz (o:Obj) (u:HO)
 | tbl (ps:Array Value)
 | ext (φ:Heap→Prop)
abbrev Hp:=Addr→Option HO
def upd(H:Hp)(a:Addr)(o:HO):Hp:=fun b=>if b=a then some o else H b
theorem ag{H:Hp}{a:Addr}{o:HO}:upd H a o a=some o:=by unfold upd;rw[if_pos rfl]
theorem ap{H:Hp}{a b:Addr}{o:HO}(h:b≠a):upd H a o b=H b:=by unfold upd;rw[if_neg h]
theorem cR{H:Hp}{a b:Addr}{o u:HO}(h:H a=some o)(h':H b=some u)(d:o≠u):a≠b:=by
 intro e;subst e;rw[h] at h';exact d (Option.some.inj h')
theorem aK{H:Hp}{a b:Addr}{o:HO}(h:H a=some o)(h':H b=none):a≠b:=by
 intro e;subst e;rw[h] at h';cases h'
section
variable(P:Program)(w:World)
def ObjOk(H:Hp)(h:Heap)(a:Addr):HO→Prop
 | .lst xs=>xs.length≤sizeLine∧∃(its:List Value) (n:Nat),Vals xs its∧h.get? a=some {cls:=.type "list",data:=.seq its.toArray n}
 | .tup xs=>xs.length≤sizeLine∧∃its:List Value,Vals xs its∧IsTup h a its.toArray
 | .dK kvs=>kvs.length≤sizeLine∧(a == sysModules)=false∧∃vs,KV kvs vs∧h.DictOf (bQ P w) a vs
 | .dT kvs=>kvs.length≤sizeLine∧(a == sysModules)=false∧∃xs:List (List az×Addr×Value),
  Paired (fun(p:List az×V) (q:List az×Addr×Value)=>p.1=q.1∧H q.2.1=some (.tup (p.1.map kV))∧RelV p.2 q.2.2) kvs xs∧
  ∃o es ep,h.get? a=some o∧o.ExactDict∧o.data=.dict es ep∧es.toList=xs.map (entryOfKey (tupleKind (bQ P w)))∧(xs.map (·.1)).Nodup
 | .set S n=>h.SetOf (intKind P w) a S n
 | .ins C dx fs=>H dx=some (.own a)∧fs.length≤1000∧dx≠a∧h.get? a=some (PySem.W.instObj C dx)∧
  ∃mA,h.Ns1 dx mA∧(∀f,RelO (fs.lookup f) (mA f))∧PySem.Within mA (fs.map (·.1))
 | .own _=>∃o,h.get? a=some o
 | .xd fs=>∃mA,h.Ns1 a mA∧∀f,RelO (fs.lookup f) (mA f)
 | .rng lo hi=>∃t u v,h.get? a=some {cls:=.type "range",data:=.fields #[.int lo t,.int hi u,.int 1 v]}
 | .frz o u=>h.get? a=some o∧ObjOk H h a u
 | .tbl ps=>h.get? a=some {cls:=.none,data:=.fields ps}
 | .met f x=>h.get? a=some (PySem.W.methodObj (.ref f) (.ref x))
 | .ext φ=>φ h∧(∃o,h.get? a=some o)∧∀h1 h2:Heap,φ h1→(∀o,h1.get? a=some o→h2.get? a=some o)→φ h2
def HOk(H:Hp)(h:Heap):Prop:=∀a o,H a=some o→ObjOk P w H h a o
end
section
variable{P:Program}{w:World}{H H':Hp}{h h':Heap}{a:Addr}{o:HO}
theorem ObjOk.lt(x:ObjOk P w H h a o):a<h.objs.size:=by
 cases o with
 | lst xs=>obtain⟨_,_,_,_,e⟩:=x;exact Heap.lt_size e
 | tup xs=>obtain⟨_,_,_,p⟩:=x;exact p.lt
 | dK kvs=>obtain⟨_,_,_,_,o,_,_,e,_⟩:=x;exact Heap.lt_size e
 | dT kvs=>obtain⟨_,_,_,_,o,_,_,e,_⟩:=x;exact Heap.lt_size e
 | set S n=>obtain⟨o,_,_,_,e,_⟩:=x;exact Heap.lt_size e
 | ins C dx fs=>obtain⟨_,_,_,e,_⟩:=x;exact Heap.lt_size e
 | own y=>obtain⟨_,e⟩:=x;exact Heap.lt_size e
 | xd fs=>obtain⟨_,⟨_,_,_,e,_⟩,_⟩:=x;exact Heap.lt_size e
 | rng lo hi=>obtain⟨_,_,_,e⟩:=x;exact Heap.lt_size e
 | frz ob u=>obtain⟨e,_⟩:=x;exact Heap.lt_size e
 | tbl ps=>exact Heap.lt_size (show h.get? a=some _ from x)
 | met f y=>exact Heap.lt_size (show h.get? a=some _ from x)
 | ext φ=>obtain⟨_,⟨_,e⟩,_⟩:=x;exact Heap.lt_size e
theorem Paired.mapP{α β:Type}{F G:α→β→Prop}:∀{l₁:List α} {l₂:List β},Paired F l₁ l₂→(∀a b,F a b→G a b)→Paired G l₁ l₂
 | _,_,.nil,_=>.nil
 | _,_,.cons r t,f=>.cons (f _ _ r) (Paired.mapP t f)
theorem ObjOk.stay(x:ObjOk P w H h a o)(k:∀b u,(b=a∨H b=some (.own a))→h.get? b=some u→h'.get? b=some u)(ho:∀b,H b=some (.own a)→H' b=some (.own a))(ht:∀b xs,H b=some (.tup xs)→H' b=some (.tup xs)):ObjOk P w H' h' a o:=by
 induction o with
 | lst xs=>obtain⟨z,its,n,r,e⟩:=x;exact⟨z,its,n,r,k _ _ (.inl rfl) e⟩
 | tup xs=>obtain⟨z,its,r,ob,e,c⟩:=x;exact⟨z,its,r,ob,k _ _ (.inl rfl) e,c⟩
 | dK kvs=>obtain⟨z,y,vs,r,ob,es,ep,e,c⟩:=x;exact⟨z,y,vs,r,ob,es,ep,k _ _ (.inl rfl) e,c⟩
 | dT kvs=>
   obtain⟨z,y,xs,r,ob,es,ep,e,c⟩:=x
   exact⟨z,y,xs,Paired.mapP r fun p q z=>⟨z.1,ht _ _ z.2.1,z.2.2⟩,ob,es,ep,k _ _ (.inl rfl) e,c⟩
 | set S n=>obtain⟨ob,es,ep,t,e,c⟩:=x;exact⟨ob,es,ep,t,k _ _ (.inl rfl) e,c⟩
 | ins C dx fs=>
   obtain⟨d,z,ne,e,mA,⟨od,es,ep,e2,c⟩,r⟩:=x
   exact⟨ho _ d,z,ne,k _ _ (.inl rfl) e,mA,⟨od,es,ep,k _ _ (.inr d) e2,c⟩,r⟩
 | own y=>obtain⟨ob,e⟩:=x;exact⟨ob,k _ _ (.inl rfl) e⟩
 | xd fs=>obtain⟨mA,⟨od,es,ep,e,c⟩,r⟩:=x;exact⟨mA,⟨od,es,ep,k _ _ (.inl rfl) e,c⟩,r⟩
 | rng lo hi=>obtain⟨t,u,v,e⟩:=x;exact⟨t,u,v,k _ _ (.inl rfl) e⟩
 | frz ob u ih=>obtain⟨e,q⟩:=x;exact⟨k _ _ (.inl rfl) e,ih q⟩
 | tbl ps=>
   have e:h.get? a=some {cls:=.none,data:=.fields ps}:=x
   show h'.get? a=some {cls:=.none,data:=.fields ps}
   exact k a _ (.inl rfl) e
 | met f y=>
   have e:h.get? a=some (PySem.W.methodObj (.ref f) (.ref y)):=x
   show h'.get? a=some (PySem.W.methodObj (.ref f) (.ref y))
   exact k a _ (.inl rfl) e
 | ext φ=>obtain⟨p,⟨o,e⟩,st⟩:=x;exact⟨st _ _ p fun o q=>k _ _ (.inl rfl) q,⟨o,k _ _ (.inl rfl) e⟩,st⟩
theorem HOk.lt(x:HOk P w H h)(e:H a=some o):a<h.objs.size:=(x a o e).lt
theorem HOk.fresh(x:HOk P w H h)(e:h.objs.size≤a):H a=none:=by
 cases q:H a with
 | none=>rfl
 | some u=>exact absurd (Nat.lt_of_lt_of_le (x.lt q) e) (Nat.lt_irrefl _)
theorem HOk.kept(x:HOk P w H h)(k:∀b u,h.get? b=some u→h'.get? b=some u):HOk P w H h':=fun a o e=>
 (x a o e).stay (fun b u _ q=>k b u q) (fun _ q=>q) fun _ _ q=>q
theorem HOk.laid(x:HOk P w H h)(k:∀b u,h.get? b=some u→h'.get? b=some u)(hp:h.objs.size≤a)(new:ObjOk P w (upd H a o) h' a o):HOk P w (upd H a o) h':=fun b u e=>by
 have hn:=x.fresh hp
 by_cases hb:b=a
 ·subst hb;rw[ag] at e;cases e;exact new
 ·rw[ap hb] at e
  exact(x b u e).stay (fun c v _ q=>k c v q) (fun c q=>by rw[ap (aK q hn)];exact q) fun c xs q=>by rw[ap (aK q hn)];exact q
end
def Rd(H:Hp)(a:Addr)(u:HO):Prop:=H a=some u∨∃o,H a=some (.frz o u)
theorem Rd.ok{P:Program}{w:World}{H:Hp}{h:Heap}{a:Addr}{u:HO}(r:Rd H a u)(x:HOk P w H h):ObjOk P w H h a u:=by
 rcases r with r | ⟨o,r⟩
 ·exact x a u r
 ·obtain⟨_,q⟩:=x a _ r
  exact q
def iK:Option HO→Prop
 | some (.lst _)=>True
 | some (.dK _)=>True
 | some (.dT _)=>True
 | some (.set _ _)=>True
 | some (.ins _ _ _)=>True
 | some (.ext _)=>True
 | _=>False
section
variable{P:Program}{w:World}{H:Hp}{h h':Heap}{x e:Addr}{o':HO}
theorem HOk.write(ok:HOk P w H h)(mu:iK (H x))(he:e=x∨H e=some (.own x))(k:∀b u,b≠e→h.get? b=some u→h'.get? b=some u)(heo:∃u,h'.get? e=some u)(new:ObjOk P w (upd H x o') h' x o'):HOk P w (upd H x o') h':=fun b u q=>by
 have nown:∀c y,H c=some (.own y)→c≠x:=fun c y r z=>by subst z;rw[r] at mu;exact mu
 have ntup:∀c xs,H c=some (.tup xs)→c≠x:=fun c xs r z=>by subst z;rw[r] at mu;exact mu
 by_cases hb:b=x
 ·subst hb;rw[ag] at q;cases q;exact new
 ·rw[ap hb] at q
  by_cases hbe:b=e
  ·have q':H b=some (.own x):=by
    rcases he with z | z
    ·exact absurd (hbe.trans z) hb
    ·rw[hbe];exact z
   rw[q] at q';cases q'
   obtain⟨v,hv⟩:=heo
   exact⟨v,by rw[hbe];exact hv⟩
  ·refine(ok b u q).stay (fun c v hc r=>k c v ?_ r) (fun c r=>by rw[ap (nown c b r)];exact r) fun c xs r=>by rw[ap (ntup c xs r)];exact r
   rcases hc with rfl | hc
   ·exact hbe
   ·rintro rfl
    rcases he with z | z
    ·exact nown c b hc z
    ·rw[hc] at z;cases z;exact hb rfl
end
structure Un(fs ex:List Addr)(H H':Hp)(h h':Heap):Prop where
 keep:∀b o,h.get? b=some o→H b=none→b∉fs→b∉ex→h'.get? b=some o
 slot:∀b o,h.get? b=some o→H b=none→b∈fs→b∉ex→∃sl,h'.get? b=some {o with slots:=sl}
 free:∀b o,h.get? b=some o→H b=none→b∉ex→H' b=none
 there:∀b o,h.get? b=some o→b∉ex→∃o',h'.get? b=some o'
 tups:∀b xs,H b=some (.tup xs)→H' b=some (.tup xs)
 frzs:∀b o u,H b=some (.frz o u)→H' b=some (.frz o u)
 tbls:∀b ps,H b=some (.tbl ps)→∃more,H' b=some (.tbl (ps++more))
section
variable{fs fs' ex ex':List Addr}{H H1 H2:Hp}{h h1 h2 h':Heap}{a x e:Addr}{o:HO}
theorem Un.any(u:Un fs ex H H1 h h1){b:Addr}{ob:Obj}(q:h.get? b=some ob)(n:H b=none)(hx:b∉ex):∃sl,h1.get? b=some {ob with slots:=sl}:=by
 by_cases hb:b∈fs
 ·exact u.slot b ob q n hb hx
 ·exact⟨ob.slots,u.keep b ob q n hb hx⟩
theorem Un.kept(k:∀b u,h.get? b=some u→h'.get? b=some u):Un fs ex H H h h':=
 ⟨fun b ob q _ _ _=>k b ob q,fun b ob q _ _ _=>⟨ob.slots,k b ob q⟩,fun _ _ _ n _=>n,fun b ob q _=>⟨ob,k b ob q⟩,fun _ _ q=>q,fun _ _ _ q=>q,fun _ ps q=>⟨#[],by rw[q];simp⟩⟩
theorem Un.refl:Un fs ex H H h h:=Un.kept fun _ _ q=>q
theorem Un.laid(k:∀b u,h.get? b=some u→h'.get? b=some u)(hp:h.objs.size≤a)(hn:H a=none):Un fs ex H (upd H a o) h h' where
 keep:=fun b u q _ _ _=>k b u q
 slot:=fun b u q _ _ _=>⟨u.slots,k b u q⟩
 free:=fun b u q n _=>by rw[ap (Nat.ne_of_lt (Nat.lt_of_lt_of_le (Heap.lt_size q) hp))];exact n
 there:=fun b u q _=>⟨u,k b u q⟩
 tups:=fun b xs q=>by rw[ap (aK q hn)];exact q
 frzs:=fun b u xs q=>by rw[ap (aK q hn)];exact q
 tbls:=fun b ps q=>⟨#[],by rw[ap (aK q hn),q];simp⟩
theorem Un.write(mu:iK (H x))(he:e=x∨H e=some (.own x))(k:∀b u,b≠e→h.get? b=some u→h'.get? b=some u)(heo:∃u,h'.get? e=some u):Un fs ex H (upd H x o) h h':=by
 have hx:∀b,H b=none→b≠x:=fun b n z=>by subst z;rw[n] at mu;exact mu
 have hb:∀b,H b=none→b≠e:=fun b n z=>by
  subst z
  rcases he with r | r
  ·exact hx b n r
  ·rw[n] at r;cases r
 have hm:∀b u,H b=some u→¬iK (some u)→b≠x:=fun b u q nm z=>by subst z;rw[q] at mu;exact nm mu
 refine⟨fun b u q n _ _=>k b u (hb b n) q,fun b u q n _ _=>⟨u.slots,k b u (hb b n) q⟩,fun b u q n _=>by rw[ap (hx b n)];exact n,fun b u q _=>?_,
  fun b xs q=>by rw[ap (hm b _ q fun z=>z)];exact q,fun b u xs q=>by rw[ap (hm b _ q fun z=>z)];exact q,fun b ps q=>⟨#[],by rw[ap (hm b _ q fun z=>z),q];simp⟩⟩
 by_cases hbe:b=e
 ·subst hbe;exact heo
 ·exact⟨u,k b u hbe q⟩
end
def fD(h:Heap)(H:Hp):List Addr:=(List.range h.objs.size).filter fun a=>(H a).isSome
def ft(h:Heap)(H:Hp):Heap:=PySem.W.hideAll h (fD h H)
theorem Dz(h:Heap)(H:Hp):(ft h H).objs.size=h.objs.size:=PySem.W.hideAll_size _ _
theorem oz{h:Heap}{H:Hp}{b:Addr}{o:Obj}(e:h.get? b=some o)(n:H b=none):(ft h H).get? b=some o:=
 PySem.W.hideAll_get _ e fun hm=>by
  have q:(H b).isSome=true:=(List.mem_filter.mp hm).2
  rw[n] at q;simp at q
theorem BN{h:Heap}{H:Hp}{b:Addr}{o:Obj}(e:(ft h H).get? b=some o):h.get? b=some o∧H b=none:=by
 have e':h.get? b=some o:=PySem.W.of_hideAll (fD h H) e
 refine⟨e',?_⟩
 cases q:H b with
 | none=>rfl
 | some x=>
   have hm:b∈fD h H:=List.mem_filter.mpr ⟨List.mem_range.mpr (Heap.lt_size e'),by simp[q]⟩
   have z:(ft h H).get? b=none:=PySem.W.hideAll_none (fD h H) hm
   rw[z] at e;cases e
def Ao(g h:Heap)(L:Addr):List (Addr×Obj):=(List.range h.objs.size).filterMap fun a=>if a=L∨(g.get? a).isSome=true then none else(h.get? a).map fun o=>(a,o)
def rest(g h:Heap)(L d:Addr):List (Addr×Obj):=(Ao g h L).filter fun p=>decide (p.1≠d)
structure Mod(K:PySem.W.Frag)(mg:Str→Option Value)(base:Heap):Prop where
 kin:K.In base
 glob:base.Ns mainGlobals mg
 blt:∃mb,base.Ns builtinsNs mb∧∀x:Str,x≠"__name__"→mb x=bootBuiltins x
 nolimit:base.NoLimit
structure Cx where
 prog:Program
 w:World
 K:PySem.W.Frag
 mg:Str→Option Value
 base:Heap
 A:Around
 N:List Str
 s₀:Shared
 H₀:Hp
 env:Env
 outer:List Env
 stack:List Env
 ex:List Addr
 fn:Str→Bool
 calm:Bool
 pn:List (Addr×Obj)
 xe:Value→Shared→Prop
def aO(l:List Env):List Addr:=l.filterMap (·.frame)
abbrev Cx.fs(X:Cx):List Addr:=aO X.outer
def m9(sc:Scope)(x:Str):Prop:=sc.names.lookup x=some .local∨sc.names.lookup x=some .cell∨sc.names.lookup x=some .free
def gy(sc:Scope)(x:Str):Prop:=sc.names.lookup x=some .local∨sc.names.lookup x=some .cell
def DX(env:Env)(h:Heap)(m:Str→Option Value)(x:Str)(u:Value):Prop:=
 (env.kindOf x=some .local∧m x=some u)∨((env.kindOf x=some .cell∨env.kindOf x=some .free)∧∃c,env.cells.lookup x=some c∧h.IsCell c (some u))
structure Cx.Ok(X:Cx):Prop where
 mod:Mod X.K X.mg X.base
 kind:X.env.scope.kind=.function
 glob:X.env.globals=mainGlobals
 blt:X.env.builtins=builtinsNs
 above:X.s₀.heap.objs.size≤X.env.locals
 inj:∀x y c,X.env.cells.lookup x=some c→X.env.cells.lookup y=some c→x=y
 has:∀x,(X.env.kindOf x=some .cell∨X.env.kindOf x=some .free)→∃c,X.env.cells.lookup x=some c
 cab:∀x c,X.fn x=true→X.env.cells.lookup x=some c→X.s₀.heap.objs.size≤c
 hd:X.calm=true→X.A.handled=none
 frames:X.A.frames=some X.stack
 stk:X.stack=X.outer∨(X.stack=X.env::X.outer∧X.env.frame=some X.env.locals)
 exf:∀b∈X.ex,b≠X.env.locals∧∀x c,X.env.cells.lookup x=some c→c≠b
 bs:∀b o,X.base.get? b=some o→X.s₀.heap.get? b=some o∧X.H₀ b=none
 bsz:X.base.objs.size≤X.s₀.heap.objs.size
 noex:∀b o,X.base.get? b=some o→b∉X.ex
 exfs:∀b∈X.ex,b∉X.fs
 funs:X.s₀.heap.FunFrames X.base X.outer
 frf:∀b∈X.fs,X.H₀ b=none
structure Inv(X:Cx)(pins:List (Addr×Obj))(σ:List (Option V))(H:Hp)(s:Shared):Prop where
 ok:X.Ok
 os:s.os=X.s₀.os
 bare:AllBare s.gens
 base:Un X.fs X.ex X.H₀ H X.s₀.heap s.heap
 loc:∃m,s.heap.Ns X.env.locals m∧∀(i:Nat) (x:Str) (v:V),X.N[i]?=some x→σ[i]?=some (some v)→m9 X.env.scope x→∃u,RelV v u∧DX X.env s.heap m x u
 cell:∀x c,X.env.cells.lookup x=some c→∃v,s.heap.IsCell c v
 free:H X.env.locals=none
 freeC:∀x c,X.env.cells.lookup x=some c→H c=none
 pin:∀p∈X.pn++pins,s.heap.get? p.1=some p.2∧H p.1=none∧p.1≠X.env.locals∧p.1∉X.fs∧∀v,p.2.data≠ .cell v
 hok:HOk X.prog X.w H s.heap
 len:σ.length=X.N.length
section
variable{X:Cx}{pins:List (Addr×Obj)}{σ:List (Option V)}{H H':Hp}{s:Shared}{h':Heap}
theorem Cx.Ok.nofr(ok:X.Ok){b:Addr}{o:Obj}(e:X.base.get? b=some o):b∉X.fs:=fun hb=>by
 have:=(ok.funs.mem hb).1
 rw[e] at this;cases this
theorem Inv.bs(I:Inv X pins σ H s):∀b o,X.base.get? b=some o→s.heap.get? b=some o∧H b=none:=fun b o e=>
 ⟨I.base.keep b o (I.ok.bs b o e).1 (I.ok.bs b o e).2 (I.ok.nofr e) (I.ok.noex b o e),I.base.free b o (I.ok.bs b o e).1 (I.ok.bs b o e).2 (I.ok.noex b o e)⟩
theorem Inv.bk(I:Inv X pins σ H s):∀b o,X.base.get? b=some o→s.heap.get? b=some o:=fun b o e=>(I.bs b o e).1
theorem Inv.mod(I:Inv X pins σ H s):Mod X.K X.mg X.base:=I.ok.mod
theorem Inv.kIn(I:Inv X pins σ H s):X.K.In s.heap:=I.ok.mod.kin.keeps I.bk
theorem Inv.nolimit(I:Inv X pins σ H s):s.heap.NoLimit:=I.ok.mod.nolimit.keeps I.bk
theorem Inv.lt(I:Inv X pins σ H s):X.env.locals<s.heap.objs.size:=let ⟨_,hn,_⟩:=I.loc;hn.lt
theorem Inv.sz(I:Inv X pins σ H s):X.s₀.heap.objs.size≤s.heap.objs.size:=Nat.le_trans I.ok.above (Nat.le_of_lt I.lt)
theorem Inv.nofs(I:Inv X pins σ H s){a:Addr}(h:s.heap.objs.size≤a):a∉X.fs:=fun hb=>by
 obtain⟨_,o,ho,_⟩:=I.ok.funs.mem hb
 exact absurd (Nat.lt_of_lt_of_le (Heap.lt_size ho) (Nat.le_trans I.sz h)) (Nat.lt_irrefl _)
theorem Inv.cne(I:Inv X pins σ H s):∀x c,X.env.cells.lookup x=some c→c≠X.env.locals:=fun x c e z=>by
 obtain⟨v,o,ho,hd⟩:=I.cell x c e
 obtain⟨m,⟨o',es,ep,ho',hd',_⟩,_⟩:=I.loc
 rw[z,ho'] at ho;cases ho;rw[hd'] at hd;cases hd
theorem Inv.funs(I:Inv X pins σ H s):s.heap.FunFrames X.base X.outer:=by
 have all:∀(l:List Env),(∀b∈aO l,b∈X.fs)→X.s₀.heap.FunFrames X.base l→s.heap.FunFrames X.base l:=by
  intro l
  induction l with
  | nil=>intro _ _;trivial
  | cons env r ih=>
    intro hs hl
    obtain⟨hk,⟨L,o,hf,hn,ho,hd⟩,hr⟩:=hl
    have hL:L∈X.fs:=hs L (by unfold aO;rw[List.filterMap_cons,hf];exact List.mem_cons_self)
    obtain⟨sl,e⟩:=I.base.slot L o ho (I.ok.frf L hL) hL fun z=>I.ok.exfs L z hL
    exact⟨hk,⟨L,_,hf,hn,e,hd⟩,ih (fun b hb=>hs b (by unfold aO;rw[List.filterMap_cons,hf];exact List.mem_cons_of_mem _ hb)) hr⟩
 exact all X.outer (fun _ hb=>hb) I.ok.funs
theorem Inv.stack(I:Inv X pins σ H s):s.heap.FunFrames X.base X.stack:=by
 rcases I.ok.stk with e | ⟨e,hf⟩
 ·rw[e];exact I.funs
 ·rw[e]
  obtain⟨m,hn,_⟩:=I.loc
  refine .cons (by rw[I.ok.kind];decide) hf hn ?_ I.funs
  exact Heap.get?_none_of_le (Nat.le_trans I.ok.bsz I.ok.above)
theorem Inv.stkSub(I:Inv X pins σ H s):∀b∈aO X.stack,b∈X.env.locals::X.fs:=fun b hb=>by
 rcases I.ok.stk with e | ⟨e,hf⟩
 ·rw[e] at hb;exact List.mem_cons_of_mem _ hb
 ·rw[e] at hb
  unfold aO at hb
  rw[List.filterMap_cons,hf] at hb
  exact hb
theorem Inv.stkFree(I:Inv X pins σ H s):∀b∈aO X.stack,H b=none:=fun b hb=>by
 rcases List.mem_cons.mp (I.stkSub b hb) with e | hb
 ·rw[e];exact I.free
 ·obtain⟨_,o,ho,_⟩:=I.ok.funs.mem hb
  exact I.base.free b o ho (I.ok.frf b hb) fun z=>I.ok.exfs b z hb
theorem Inv.step{g':Array GenState}{t':Nat}{d':Drawn}{ch:List Addr}(I:Inv X pins σ H s)(hch:∀b∈ch,(b∈X.ex∨X.s₀.heap.objs.size≤b)∧b≠X.env.locals∧(∀x c,X.env.cells.lookup x=some c→c≠b)∧∀p∈X.pn++pins,p.1≠b)(keep:∀b o,b≠X.env.locals→b∉X.fs→b∉ch→s.heap.get? b=some o→H b=none→h'.get? b=some o)(slot:∀b o,b≠X.env.locals→b∈X.fs→b∉ch→s.heap.get? b=some o→H b=none→∃sl,h'.get? b=some {o with slots:=sl})(free:∀b o,b∉ch→s.heap.get? b=some o→H b=none→H' b=none)(there:∀b o,b∉ch→s.heap.get? b=some o→∃o',h'.get? b=some o')(tups:∀b xs,H b=some (.tup xs)→H' b=some (.tup xs))(frzs:∀b o u,H b=some (.frz o u)→H' b=some (.frz o u))(tbls:∀b ps,H b=some (.tbl ps)→∃more,H' b=some (.tbl (ps++more)))(ns:∀m,s.heap.Ns X.env.locals m→h'.Ns X.env.locals m)(hok:HOk X.prog X.w H' h')(hg:AllBare g'):Inv X pins σ H' {s with heap:=h',gens:=g',drawn:=d',toks:=t'}:=by
 have neL:∀b o,X.s₀.heap.get? b=some o→b≠X.env.locals:=fun b o e=>Nat.ne_of_lt (Nat.lt_of_lt_of_le (Heap.lt_size e) I.ok.above)
 have neC:∀b o,X.s₀.heap.get? b=some o→b∉X.ex→b∉ch:=fun b o e hx hb=>by
  rcases(hch b hb).1 with z | z
  ·exact hx z
  ·exact absurd (Nat.lt_of_lt_of_le (Heap.lt_size e) z) (Nat.lt_irrefl _)
 have cellK:∀x c,X.env.cells.lookup x=some c→∀v,s.heap.IsCell c v→h'.IsCell c v:=fun x c e v ⟨o,ho,hd⟩=>by
  have nch:c∉ch:=fun z=>(hch c z).2.2.1 x c e rfl
  by_cases hc:c∈X.fs
  ·obtain⟨sl,q⟩:=slot c o (I.cne x c e) hc nch ho (I.freeC x c e)
   exact⟨_,q,hd⟩
  ·exact⟨o,keep c o (I.cne x c e) hc nch ho (I.freeC x c e),hd⟩
 refine⟨I.ok,I.os,hg,⟨fun b o e n hb hx=>?_,fun b o e n hb hx=>?_,fun b o e n hx=>?_,fun b o e hx=>?_,fun b xs e=>tups b xs (I.base.tups b xs e),fun b o xs e=>frzs b o xs (I.base.frzs b o xs e),fun b ps e=>?_⟩,?_,fun x c e=>?_,?_,fun x c e=>?_,fun p hp=>?_,hok,I.len⟩
 ·exact keep b o (neL b o e) hb (neC b o e hx) (I.base.keep b o e n hb hx) (I.base.free b o e n hx)
 ·obtain⟨sl,e1⟩:=I.base.slot b o e n hb hx
  obtain⟨sl',e2⟩:=slot b _ (neL b o e) hb (neC b o e hx) e1 (I.base.free b o e n hx)
  exact⟨sl',e2⟩
 ·obtain⟨o',e1⟩:=I.base.there b o e hx
  exact free b o' (neC b o e hx) e1 (I.base.free b o e n hx)
 ·obtain⟨o',e1⟩:=I.base.there b o e hx
  exact there b o' (neC b o e hx) e1
 ·obtain⟨m1,e1⟩:=I.base.tbls b ps e
  obtain⟨m2,e2⟩:=tbls b _ e1
  exact⟨m1++m2,by rw[e2,Array.append_assoc]⟩
 ·obtain⟨m,hn,hl⟩:=I.loc
  refine⟨m,ns m hn,fun i x v e1 e2 e3=>?_⟩
  obtain⟨u,r,l⟩:=hl i x v e1 e2 e3
  refine⟨u,r,?_⟩
  rcases l with l | ⟨k,c,e,z⟩
  ·exact .inl l
  ·exact .inr ⟨k,c,e,cellK x c e _ z⟩
 ·obtain⟨v,z⟩:=I.cell x c e
  exact⟨v,cellK x c e v z⟩
 ·obtain⟨m,⟨o,_,_,ho,_⟩,_⟩:=I.loc
  exact free _ o (fun z=>(hch _ z).2.1 rfl) ho I.free
 ·obtain⟨v,o,ho,hd⟩:=I.cell x c e
  exact free c o (fun z=>(hch c z).2.2.1 x c e rfl) ho (I.freeC x c e)
 ·obtain⟨e,n,ne,nf,d⟩:=I.pin p hp
  have nch:p.1∉ch:=fun z=>(hch p.1 z).2.2.2 p hp rfl
  exact⟨keep p.1 p.2 ne nf nch e n,free p.1 p.2 nch e n,ne,nf,d⟩
theorem Inv.un{t':Nat}(I:Inv X pins σ H s)(u:Un X.fs [] H H' s.heap h')(hok:HOk X.prog X.w H' h'):Inv X pins σ H' {s with heap:=h',toks:=t'}:=by
 obtain⟨m,⟨o,es,ep,ho,r⟩,_⟩:=id I.loc
 obtain⟨sl,hL⟩:=u.any ho I.free (by simp)
 exact I.step (g':=s.gens) (d':=s.drawn) (ch:=[]) (fun _ z=>nomatch z) (fun b o _ hb _ e n=>u.keep b o e n hb (by simp)) (fun b o _ hb _ e n=>u.slot b o e n hb (by simp)) (fun b o _ e n=>u.free b o e n (by simp)) (fun b o _ e=>u.there b o e (by simp)) u.tups u.frzs u.tbls (fun m' hm=>by
  obtain⟨o',es',ep',ho',r'⟩:=hm
  rw[ho] at ho';cases ho'
  exact⟨_,es',ep',hL,r'⟩) hok I.bare
theorem Inv.call{g':Array GenState}{t':Nat}{d':Drawn}{ch:List Addr}(I:Inv X pins σ H s)(u:Un (aO X.stack) ch H H' s.heap h')(hok:HOk X.prog X.w H' h')(hg:AllBare g')(hch:∀b∈ch,(b∈X.ex∨X.s₀.heap.objs.size≤b)∧b≠X.env.locals∧(∀x c,X.env.cells.lookup x=some c→c≠b)∧∀p∈X.pn++pins,p.1≠b):Inv X pins σ H' {s with heap:=h',gens:=g',drawn:=d',toks:=t'}:=by
 obtain⟨m,⟨o,es,ep,ho,r⟩,_⟩:=id I.loc
 obtain⟨sl,hL⟩:=u.any ho I.free fun z=>(hch _ z).2.1 rfl
 exact I.step (ch:=ch) hch (fun b o hL hb hc e n=>u.keep b o e n (fun z=>(List.mem_cons.mp (I.stkSub b z)).elim hL hb) hc) (fun b o _ _ hc e n=>u.any e n hc) (fun b o hc e n=>u.free b o e n hc) (fun b o hc e=>u.there b o e hc) u.tups u.frzs u.tbls (fun m' hm=>by
  obtain⟨o',es',ep',ho',r'⟩:=hm
  rw[ho] at ho';cases ho'
  exact⟨_,es',ep',hL,r'⟩) hok hg
theorem Inv.turned{t':Nat}{it:Addr}(I:Inv X pins σ H s)(k:∀b o,b≠it→s.heap.get? b=some o→h'.get? b=some o)(hn:H it=none)(hL:it≠X.env.locals)(h1:it∈X.ex∨X.s₀.heap.objs.size≤it)(h2:∀x c,X.env.cells.lookup x=some c→c≠it)(h3:∀p∈X.pn++pins,p.1≠it):Inv X pins σ H {s with heap:=h',toks:=t'}:=by
 have nit:∀b u,H b=some u→b≠it:=fun b u e z=>by rw[z,hn] at e;cases e
 refine I.step (g':=s.gens) (d':=s.drawn) (ch:=[it]) (fun b hb=>?_) (fun b o _ _ hc e _=>k b o (fun z=>hc (by simp[z])) e) (fun b o _ _ hc e _=>⟨o.slots,k b o (fun z=>hc (by simp[z])) e⟩) (fun _ _ _ _ n=>n)
  (fun b o hc e=>⟨o,k b o (fun z=>hc (by simp[z])) e⟩) (fun _ _ e=>e) (fun _ _ _ e=>e) (fun b ps e=>⟨#[],by rw[e];simp⟩) (fun m hm=>?_) (fun b u e=>?_) I.bare
 ·have e:b=it:=by simpa using hb
  subst e
  exact⟨h1,hL,h2,h3⟩
 ·obtain⟨o,es,ep,ho,r⟩:=hm
  exact⟨o,es,ep,k _ o (Ne.symm hL) ho,r⟩
 ·refine(I.hok b u e).stay (fun c v hc q=>k c v ?_ q) (fun _ q=>q) fun _ _ q=>q
  rcases hc with z | z
  ·rw[z];exact nit b u e
  ·exact nit c _ z
theorem Inv.tok(I:Inv X pins σ H s)(t:Nat):Inv X pins σ H {s with toks:=t}:=I.un (h':=s.heap) (t':=t) Un.refl I.hok
theorem Inv.kept{t':Nat}(I:Inv X pins σ H s)(k:∀b u,s.heap.get? b=some u→h'.get? b=some u):Inv X pins σ H {s with heap:=h',toks:=t'}:=I.un (Un.kept k) (I.hok.kept k)
theorem Inv.laid{a:Addr}{o:HO}{t':Nat}(I:Inv X pins σ H s)(k:∀b u,s.heap.get? b=some u→h'.get? b=some u)(hp:s.heap.objs.size≤a)(new:ObjOk X.prog X.w (upd H a o) h' a o):Inv X pins σ (upd H a o) {s with heap:=h',toks:=t'}:=I.un (Un.laid k hp (I.hok.fresh hp)) (I.hok.laid k hp new)
theorem Inv.write{x e:Addr}{o:HO}{t':Nat}(I:Inv X pins σ H s)(mu:iK (H x))(he:e=x∨H e=some (.own x))(k:∀b u,b≠e→s.heap.get? b=some u→h'.get? b=some u)(heo:∃u,h'.get? e=some u)(new:ObjOk X.prog X.w (upd H x o) h' x o):Inv X pins σ (upd H x o) {s with heap:=h',toks:=t'}:=I.un (Un.write mu he k heo) (I.hok.write mu he k heo new)
theorem Inv.weak{σ':List (Option V)}(I:Inv X pins σ H s)(hl:σ'.length=σ.length)(w:∀(i:Nat) v,σ'[i]?=some (some v)→σ[i]?=some (some v)):Inv X pins σ' H s:=
 ⟨I.ok,I.os,I.bare,I.base,let ⟨m,hn,hl'⟩:=I.loc;⟨m,hn,fun i x v e1 e2 e3=>hl' i x v e1 (w i v e2) e3⟩,I.cell,I.free,I.freeC,I.pin,I.hok,hl.trans I.len⟩
theorem Inv.pins_of{pins':List (Addr×Obj)}(I:Inv X pins σ H s)(h:∀p∈pins',s.heap.get? p.1=some p.2∧H p.1=none∧p.1≠X.env.locals∧p.1∉X.fs∧∀v,p.2.data≠ .cell v):Inv X pins' σ H s:=
 ⟨I.ok,I.os,I.bare,I.base,I.loc,I.cell,I.free,I.freeC,fun p hp=>(List.mem_append.mp hp).elim (fun z=>I.pin p (List.mem_append_left _ z)) (h p),I.hok,I.len⟩
theorem mC{N:List Str}(hN:N.Nodup){i j:Nat}{x:Str}(a:N[i]?=some x)(b:N[j]?=some x):i=j:=by
 obtain⟨h1,e1⟩:=List.getElem?_eq_some_iff.mp a
 obtain⟨h2,e2⟩:=List.getElem?_eq_some_iff.mp b
 exact(List.getElem_inj hN).mp (e1.trans e2.symm)
theorem qk{M:Model}{A:Around}{E:Value→Shared→Prop}{i:Nat}{x:Str}{v:V}{u:Value}{Q:Unit→Shared→Prop}(I:Inv X pins σ H s)(hN:X.N.Nodup)(hi:X.N[i]?=some x)(hx:gy X.env.scope x)(r:RelV v u)(h:∀s',Inv X pins (σ.set i (some v)) H s'→(∃a,Heap.SameBut a s.heap s'.heap∧(a=X.env.locals∨X.env.cells.lookup x=some a))→Q () s')(hf:X.fn x=true∨X.env.scope.names.lookup x=some .local:=by first | exact .inl rfl | exact .inr rfl | assumption):wpAny M A (storeName X.env x u) Q E s:=by
 obtain⟨m,hn,hl⟩:=id I.loc
 have hcls:(X.env.scope.kind == .class || (X.env.scope.kind == .module && X.env.locals != X.env.globals))=false:=by rw[I.ok.kind];rfl
 have hiσ:i<σ.length:=by rw[I.len];exact(List.getElem?_eq_some_iff.mp hi).1
 have cne:=I.cne
 have tracked:∀{a:Addr} {h':Heap},(∃o,s.heap.get? a=some o∧H a=none)→Heap.SameBut a s.heap h'→HOk X.prog X.w H h':=fun{a h'} ha hs b ob e=>by
  obtain⟨_,_,hfree⟩:=ha
  refine(I.hok b ob e).stay (fun c w' hc q=>(hs.2 c ?_).trans q) (fun _ q=>q) fun _ _ q=>q
  rintro rfl
  rcases hc with rfl | hc
  ·rw[hfree] at e;cases e
  ·rw[hfree] at hc;cases hc
 rcases hx with hk | hk
 ·refine wpAny_storeName_local hk hn (fun h' hn' hs=>?_) hcls
  obtain⟨oL,_,_,hoL,_⟩:=id hn
  refine h _ ⟨I.ok,I.os,I.bare,⟨fun b o e n hb hx=>?_,fun b o e n hb hx=>?_,I.base.free,fun b o e hx=>?_,I.base.tups,I.base.frzs,I.base.tbls⟩,⟨_,hn',fun j y v' e1 e2 e3=>?_⟩,fun y c e=>?_,I.free,I.freeC,fun p hp=>?_,tracked ⟨oL,hoL,I.free⟩ hs,by simpa using I.len⟩ ⟨_,hs,.inl rfl⟩
  ·exact(hs.2 b (Nat.ne_of_lt (Nat.lt_of_lt_of_le (Heap.lt_size e) I.ok.above))).trans (I.base.keep b o e n hb hx)
  ·obtain⟨sl,e1⟩:=I.base.slot b o e n hb hx
   exact⟨sl,(hs.2 b (Nat.ne_of_lt (Nat.lt_of_lt_of_le (Heap.lt_size e) I.ok.above))).trans e1⟩
  ·obtain⟨o',e1⟩:=I.base.there b o e hx
   exact⟨o',(hs.2 b (Nat.ne_of_lt (Nat.lt_of_lt_of_le (Heap.lt_size e) I.ok.above))).trans e1⟩
  ·by_cases hj:j=i
   ·subst hj
    rw[hi] at e1;cases e1
    rw[List.getElem?_set_self hiσ] at e2
    cases e2
    exact⟨u,r,.inl ⟨hk,by simp⟩⟩
   ·rw[List.getElem?_set_ne (Ne.symm hj)] at e2
    obtain⟨u',r',q⟩:=hl j y v' e1 e2 e3
    refine⟨u',r',?_⟩
    rcases q with⟨k,e⟩ | ⟨k,c,e,z⟩
    ·refine .inl ⟨k,?_⟩
     have:y≠x:=fun e=>hj (mC hN e1 (e▸hi))
     simp[this,e]
    ·exact .inr ⟨k,c,e,z.sameBut hs (cne y c e)⟩
  ·obtain⟨w',z⟩:=I.cell y c e
   exact⟨w',z.sameBut hs (cne y c e)⟩
  ·obtain⟨e,n,ne,nf,d⟩:=I.pin p hp
   exact⟨(hs.2 p.1 ne).trans e,n,ne,nf,d⟩
 ·have hfn:X.fn x=true:=by
   rcases hf with z | z
   ·exact z
   ·rw[z] at hk;cases hk
  obtain⟨c,hc⟩:=I.ok.has x (.inl hk)
  obtain⟨w',z⟩:=I.cell x c hc
  refine wpAny_storeName_cell I.ok.kind hk hc z (fun h' hc' hs=>?_)
  obtain⟨oc,hoc,hocd⟩:=id z
  refine h {s with heap:=h'} ⟨I.ok,I.os,I.bare,⟨fun b o e n hb hx=>?_,fun b o e n hb hx=>?_,I.base.free,fun b o e hx=>?_,I.base.tups,I.base.frzs,I.base.tbls⟩,⟨m,hn.sameBut hs (Ne.symm (cne x c hc)),fun j y v' e1 e2 e3=>?_⟩,fun y c' e=>?_,I.free,I.freeC,fun p hp=>?_,tracked ⟨oc,hoc,I.freeC x c hc⟩ hs,by simpa using I.len⟩ ⟨c,hs,.inr hc⟩
  ·exact(hs.2 b (Nat.ne_of_lt (Nat.lt_of_lt_of_le (Heap.lt_size e) (I.ok.cab x c hfn hc)))).trans (I.base.keep b o e n hb hx)
  ·obtain⟨sl,e1⟩:=I.base.slot b o e n hb hx
   exact⟨sl,(hs.2 b (Nat.ne_of_lt (Nat.lt_of_lt_of_le (Heap.lt_size e) (I.ok.cab x c hfn hc)))).trans e1⟩
  ·obtain⟨o',e1⟩:=I.base.there b o e hx
   exact⟨o',(hs.2 b (Nat.ne_of_lt (Nat.lt_of_lt_of_le (Heap.lt_size e) (I.ok.cab x c hfn hc)))).trans e1⟩
  ·by_cases hj:j=i
   ·subst hj
    rw[hi] at e1;cases e1
    rw[List.getElem?_set_self hiσ] at e2
    cases e2
    exact⟨u,r,.inr ⟨.inl hk,c,hc,hc'⟩⟩
   ·rw[List.getElem?_set_ne (Ne.symm hj)] at e2
    obtain⟨u',r',q⟩:=hl j y v' e1 e2 e3
    refine⟨u',r',?_⟩
    rcases q with q | ⟨k,c',e,z'⟩
    ·exact .inl q
    ·refine .inr ⟨k,c',e,z'.sameBut hs ?_⟩
     rintro rfl
     exact hj (mC hN e1 (I.ok.inj _ _ _ e hc▸hi))
  ·by_cases hcc:c'=c
   ·subst hcc;exact⟨_,hc'⟩
   ·obtain⟨w2,z2⟩:=I.cell y c' e
    exact⟨w2,z2.sameBut hs hcc⟩
  ·obtain⟨e,n,ne,nf,d⟩:=I.pin p hp
   refine⟨(hs.2 p.1 ?_).trans e,n,ne,nf,d⟩
   intro q
   rw[q,hoc] at e
   have q':oc=p.2:=Option.some.inj e
   exact d w' (by rw[←q'];exact hocd)
theorem kX{M:Model}{A:Around}{E:Value→Shared→Prop}{i:Nat}{x:Str}{v:V}{u:Value}{Q:Unit→Shared→Prop}(I:Inv X pins σ H s)(hN:X.N.Nodup)(hi:X.N[i]?=some x)(hx:gy X.env.scope x)(r:RelV v u)(h:∀s',Inv X pins (σ.set i (some v)) H s'→Q () s')(hf:X.fn x=true∨X.env.scope.names.lookup x=some .local:=by first | exact .inl rfl | exact .inr rfl | assumption):wpAny M A (storeName X.env x u) Q E s:=
 qk I hN hi hx r (fun s' I' _=>h s' I') hf
theorem Inv.call'{s':Shared}{ch:List Addr}(I:Inv X pins σ H s)(ho:s'.os=s.os)(u:Un (aO X.stack) ch H H' s.heap s'.heap)(hok:HOk X.prog X.w H' s'.heap)(hg:AllBare s'.gens)(hch:∀b∈ch,(b∈X.ex∨X.s₀.heap.objs.size≤b)∧b≠X.env.locals∧(∀x c,X.env.cells.lookup x=some c→c≠b)∧∀p∈X.pn++pins,p.1≠b):Inv X pins σ H' s':=by
 obtain⟨h',g',d',t',o'⟩:=s'
 have e:o'=s.os:=ho
 subst e
 exact I.call (g':=g') (t':=t') (d':=d') u hok hg hch
end
abbrev XK:=Value→Option Addr→Hp→Prop
abbrev St:=List (Option V)
abbrev VK:=V→Hp→Prop
abbrev TE:=St→Hp→VK→Prop
abbrev TT:=St→Hp→(Bool→Hp→Prop)→Prop
abbrev TA:=St→Hp→(List V→Hp→Prop)→Prop
structure Ends where
 nx:St→Hp→Prop
 rt:VK
 bk:St→Hp→Prop:=fun _ _=>False
 ct:St→Hp→Prop:=fun _ _=>False
abbrev TS:=Ends→St→Hp→Prop
def EP(X:Cx)(pins:List (Addr×Obj))(σ:St)(Q:VK)(u:Value)(s':Shared):Prop:=∃v H',Inv X pins σ H' s'∧RelV v u∧Q v H'
def TP(X:Cx)(pins:List (Addr×Obj))(σ:St)(Q:Bool→Hp→Prop)(b:Bool)(s':Shared):Prop:=∃H',Inv X pins σ H' s'∧Q b H'
def AP(X:Cx)(pins:List (Addr×Obj))(σ:St)(Q:List V→Hp→Prop)(us:List Value)(s':Shared):Prop:=∃vs H',Inv X pins σ H' s'∧Vals vs us∧Q vs H'
def SP(X:Cx)(pins:List (Addr×Obj))(D:Ends)(f:Flow)(s':Shared):Prop:=
 match f with
 | .next=>∃σ' H',Inv X pins σ' H' s'∧D.nx σ' H'
 | .brk=>∃σ' H',Inv X pins σ' H' s'∧D.bk σ' H'
 | .cont=>∃σ' H',Inv X pins σ' H' s'∧D.ct σ' H'
 | .ret u=>∃v σ' H',Inv X pins σ' H' s'∧RelV v u∧D.rt v H'
def PE(X:Cx)(e:Expr)(t:TE):Prop:=
 ∀(pins:List (Addr×Obj)) (s:Shared) (σ:St) (H:Hp) (Q:VK),Inv X pins σ H s→t σ H Q→wpAny (model X.prog X.w) X.A (eval e X.env) (EP X pins σ Q) X.xe s
def PT(X:Cx)(e:Expr)(t:TT):Prop:=
 ∀(pins:List (Addr×Obj)) (s:Shared) (σ:St) (H:Hp) (Q:Bool→Hp→Prop),Inv X pins σ H s→t σ H Q→wpAny (model X.prog X.w) X.A (isTrue e X.env (eval e X.env)) (TP X pins σ Q) X.xe s
def PW(X:Cx)(e:Expr)(t:TT):Prop:=
 ∀(whole:Sem Value) (pins:List (Addr×Obj)) (s:Shared) (σ:St) (H:Hp) (Q:Bool→Hp→Prop),Inv X pins σ H s→t σ H Q→wpAny (model X.prog X.w) X.A (isTrue e X.env whole) (TP X pins σ Q) X.xe s
theorem PW.pt{X:Cx}{e:Expr}{t:TT}(h:PW X e t):PT X e t:=h _
def PA(X:Cx)(es:List Expr)(t:TA):Prop:=
 ∀(pos:Pos) (pins:List (Addr×Obj)) (s:Shared) (σ:St) (H:Hp) (Q:List V→Hp→Prop),Inv X pins σ H s→t σ H Q→wpAny (model X.prog X.w) X.A (spliced (backTo pos (starEach es X.env))) (AP X pins σ Q) X.xe s
def PS(X:Cx)(st:Stmt)(t:TS):Prop:=
 ∀(pins:List (Addr×Obj)) (s:Shared) (σ:St) (H:Hp) (D:Ends),Inv X pins σ H s→t D σ H→wpAny (model X.prog X.w) X.A (exec st X.env) (SP X pins D) X.xe s
def PSs(X:Cx)(st:List Stmt)(t:TS):Prop:=
 ∀(pins:List (Addr×Obj)) (s:Shared) (σ:St) (H:Hp) (D:Ends),Inv X pins σ H s→t D σ H→wpAny (model X.prog X.w) X.A (execs st X.env) (SP X pins D) X.xe s
theorem am{α:Type}{t:Sem α}{Q Q':α→Shared→Prop}{M:Model}{A:Around}{E:Value→Shared→Prop}{s:Shared}(h:wpAny M A t Q E s)(hQ:∀a s,Q a s→Q' a s):wpAny M A t Q' E s:=wpAny_mono h hQ fun _ _ x=>x
section
variable{X:Cx}
def gf(i:Nat):TE:=fun σ H Q=>∃v,σ[i]?=some (some v)∧Q v H
def tC(v:V):TE:=fun _ H Q=>Q v H
theorem yE{i:Nat}{x:Str}{pos:Pos}(hN:X.N[i]?=some x)(hv:m9 X.env.scope x)(hd:(x == ("__debug__":Str))=false:=by decide)(hcd:(x == ("__classdict__":Str))=false:=by decide):PE X (.Name x pos) (gf i):=by
 intro pins s σ H Q I h
 obtain⟨v,e,h⟩:=h
 obtain⟨m,hn,hl⟩:=I.loc
 obtain⟨u,r,l⟩:=hl i x v hN e hv
 have fin:EP X pins σ Q u s:=⟨v,H,I,r,h⟩
 rcases l with⟨hk,hm⟩ | ⟨hk,c,hc,hcell⟩
 ·exact wpAny_Name (wpAny_loadName_local I.ok.kind hk hn hm fin) hd
 ·rcases hk with hk | hk
  ·exact wpAny_Name (wpAny_loadName_cell I.ok.kind hk hc hcell fin) hd
  ·exact wpAny_Name (wpAny_loadName_free I.ok.kind hk hc hcell fin hcd) hd
theorem af{i j pos}:PE X (.Constant (.int i) j pos) (tC (.int i)):=fun _ _ _ H _ I h=>wpAny_Constant_int ⟨.int i,H,I.tok _,⟨_,rfl⟩,h⟩
theorem eZ{b j pos}:PE X (.Constant (.bool b) j pos) (tC (.bl b)):=fun _ _ _ H _ I h=>Constant_bool ⟨.bl b,H,I,rfl,h⟩
theorem dj{j pos}:PE X (.Constant .none j pos) (tC .non):=fun _ _ _ H _ I h=>Constant_none ⟨.non,H,I,rfl,h⟩
theorem ar{x j pos}:PE X (.Constant (.str x) j pos) (tC (.str x)):=fun _ _ _ H _ I h=>Calls.Constant_str ⟨.str x,H,I.tok _,⟨_,rfl⟩,h⟩
def Gl(X:Cx)(x:Str):Prop:=X.env.kindOf x=some .globalImplicit
theorem gp{E:Value→Shared→Prop}{pins:List (Addr×Obj)}{s:Shared}{σ:St}{H:Hp}{x:Str}{u:Value}{pos:Pos}{Q:Value→Shared→Prop}(I:Inv X pins σ H s)(hg:Gl X x)(hm:X.mg x=some u)(h:Q u s)(hd:(x == ("__debug__":Str))=false:=by decide):wpAny (model X.prog X.w) X.A (eval (.Name x pos) X.env) Q E s:=
 Calls.Name_function_global I.ok.kind hg (Calls.loadGlobal_global (by rw[I.ok.glob];exact I.mod.glob.keeps I.bk) hm h) hd
theorem dE{E:Value→Shared→Prop}{pins:List (Addr×Obj)}{s:Shared}{σ:St}{H:Hp}{x:Str}{u:Value}{pos:Pos}{Q:Value→Shared→Prop}(I:Inv X pins σ H s)(hg:Gl X x)(hm:X.mg x=none)(hv:bootBuiltins x=some u)(h:Q u s)(hn:x≠"__name__":=by decide)(hd:(x == ("__debug__":Str))=false:=by decide):wpAny (model X.prog X.w) X.A (eval (.Name x pos) X.env) Q E s:=by
 obtain⟨mb,h1,h2⟩:=I.mod.blt
 exact Calls.Name_function_global I.ok.kind hg (Calls.loadGlobal_builtin (by rw[I.ok.glob];exact I.mod.glob.keeps I.bk) hm (by rw[I.ok.blt];exact h1.keeps I.bk) ((h2 x hn).trans hv) h) hd
theorem gv{x:Str}{v:V}{u:Value}{pos:Pos}(hg:Gl X x)(hm:X.mg x=some u)(r:RelV v u)(hd:(x == ("__debug__":Str))=false:=by decide):PE X (.Name x pos) (tC v):=
 fun _ _ _ H _ I h=>gp I hg hm ⟨v,H,I,r,h⟩ hd
theorem pY{x:Str}{v:V}{u:Value}{pos:Pos}(hg:Gl X x)(hm:X.mg x=none)(hv:bootBuiltins x=some u)(r:RelV v u)(hn:x≠"__name__":=by decide)(hd:(x == ("__debug__":Str))=false:=by decide):PE X (.Name x pos) (tC v):=
 fun _ _ _ H _ I h=>dE I hg hm hv ⟨v,H,I,r,h⟩ hn hd
variable{a b:Expr}{ta tb:TE}{pos:Pos}
def tB(t:TE):TT:=fun σ H Q=>t σ H fun x H1=>∃c,x=.bl c∧Q c H1
theorem fY{e:Expr}{t:TE}(h:PE X e t)(he:∀whole,isTrue e X.env whole=(do let v←whole;standAt e.pos;holding [v] (truthy v)):=by intro _;rfl):PT X e (tB t):=by
 intro pins s σ H Q I hw
 refine isTrue_plain (am (h pins s σ H _ I hw) fun v s1 ⟨x,H1,I1,r1,q1⟩=>?_) (he _)
 obtain⟨d,rfl,q⟩:=q1
 cases r1
 exact wpAny_truthy_bool ⟨H1,I1,q⟩
variable{tA tB':TT}{rest:List Expr}
def xy(t u:TT):TT:=fun σ H Q=>t σ H fun c H1=>if c=true then u σ H1 Q else Q false H1
def CJ(t u:TT):TT:=fun σ H Q=>t σ H fun c H1=>if c=true then Q true H1 else u σ H1 Q
def Am(t:TT):TT:=fun σ H Q=>t σ H fun c H1=>Q (!c) H1
theorem dX(ha:PT X a tA):PW X (.BoolOp .And [a] pos) tA:=by
 intro wh pins s σ H Q I h
 refine isTrue_and (am (ha pins s σ H Q I h) fun c s1 e=>?_)
 cases c with
 | true=>exact isTrue_and_nil e
 | false=>exact e
theorem gX(ha:PT X a tA):PW X (.BoolOp .Or [a] pos) tA:=by
 intro wh pins s σ H Q I h
 refine isTrue_or (am (ha pins s σ H Q I h) fun c s1 e=>?_)
 cases c with
 | false=>exact isTrue_or_nil e
 | true=>exact e
theorem dM(ha:PT X a tA)(hb:PW X (.BoolOp .And (b::rest) pos) tB'):PW X (.BoolOp .And (a::b::rest) pos) (xy tA tB'):=by
 intro wh pins s σ H Q I h
 refine isTrue_and (am (ha pins s σ H _ I h) fun c s1 ⟨H1,I1,q1⟩=>?_)
 cases c with
 | true=>exact hb wh pins s1 σ H1 Q I1 q1
 | false=>exact⟨H1,I1,q1⟩
theorem gR(ha:PT X a tA)(hb:PW X (.BoolOp .Or (b::rest) pos) tB'):PW X (.BoolOp .Or (a::b::rest) pos) (CJ tA tB'):=by
 intro wh pins s σ H Q I h
 refine isTrue_or (am (ha pins s σ H _ I h) fun c s1 ⟨H1,I1,q1⟩=>?_)
 cases c with
 | true=>exact⟨H1,I1,q1⟩
 | false=>exact hb wh pins s1 σ H1 Q I1 q1
theorem hZ(ha:PT X a tA):PT X (.UnaryOp .Not a pos) (Am tA):=by
 intro pins s σ H Q I h
 exact isTrue_not (ha pins s σ H (fun c H1=>Q (!c) H1) I h)
def wH(ta tb:TE):TE:=fun σ H Q=>ta σ H fun x H1=>∃c,x=.bl c∧if c=true then tb σ H1 Q else Q (.bl false) H1
def CA(ta tb:TE):TE:=fun σ H Q=>ta σ H fun x H1=>∃c,x=.bl c∧if c=true then Q (.bl true) H1 else tb σ H1 Q
def AV(ta:TE):TE:=fun σ H Q=>ta σ H fun x H1=>∃c,x=.bl c∧Q (.bl (!c)) H1
theorem km{op}{t:TE}(h:PE X a t):PE X (.BoolOp op [a] pos) t:=fun pins s σ H Q I hw=>BoolOp_one (h pins s σ H Q I hw)
theorem i9(ha:PE X a ta)(hb:PE X (.BoolOp .And (b::rest) pos) tb):PE X (.BoolOp .And (a::b::rest) pos) (wH ta tb):=by
 intro pins s σ H Q I h
 refine BoolOp_and (am (ha pins s σ H _ I h) fun v s1 ⟨x,H1,I1,r1,q1⟩=>?_)
 obtain⟨c,rfl,q1⟩:=q1
 cases r1
 refine wpAny_truthy_bool ?_
 cases c with
 | true=>exact hb pins s1 σ H1 Q I1 q1
 | false=>exact⟨.bl false,H1,I1,rfl,q1⟩
theorem xq(ha:PE X a ta)(hb:PE X (.BoolOp .Or (b::rest) pos) tb):PE X (.BoolOp .Or (a::b::rest) pos) (CA ta tb):=by
 intro pins s σ H Q I h
 refine BoolOp_or (am (ha pins s σ H _ I h) fun v s1 ⟨x,H1,I1,r1,q1⟩=>?_)
 obtain⟨c,rfl,q1⟩:=q1
 cases r1
 refine wpAny_truthy_bool ?_
 cases c with
 | false=>exact hb pins s1 σ H1 Q I1 q1
 | true=>exact⟨.bl true,H1,I1,rfl,q1⟩
theorem Eh(ha:PE X a ta):PE X (.UnaryOp .Not a pos) (AV ta):=by
 intro pins s σ H Q I h
 refine UnaryOp_ (am (ha pins s σ H _ I h) fun v s1 ⟨x,H1,I1,r1,q1⟩=>?_)
 obtain⟨c,rfl,q1⟩:=q1
 cases r1
 exact not_of (wpAny_truthy_bool ⟨.bl (!c),H1,I1,rfl,q1⟩)
def DD(t:TT)(ta tb:TE):TE:=fun σ H Q=>t σ H fun c H1=>if c=true then ta σ H1 Q else tb σ H1 Q
theorem iD{c:Expr}(hc:PT X c tA)(ha:PE X a ta)(hb:PE X b tb):PE X (.IfExp c a b pos) (DD tA ta tb):=by
 intro pins s σ H Q I h
 refine wpAny_IfExp (am (hc pins s σ H _ I h) fun d s1 ⟨H1,I1,q1⟩=>?_)
 cases d with
 | true=>exact ha pins s1 σ H1 Q I1 q1
 | false=>exact hb pins s1 σ H1 Q I1 q1
end
def SqL(K:PySem.W.Frag)(H:Hp)(a:Addr)(xs:List V):Prop:=
 Rd H a (.lst xs)∨
  ∃(o:Obj) (its:Array Value) (n:Nat),K.lookup a=some o∧o.cls=.type "list"∧o.dict=none∧o.data=.seq its n∧its.size≤sizeLine∧Vals xs its.toList
def SqT(K:PySem.W.Frag)(H:Hp)(a:Addr)(xs:List V):Prop:=
 Rd H a (.tup xs)∨
  ∃(o:Obj) (its:Array Value) (n:Nat),K.lookup a=some o∧o.cls=.type "tuple"∧o.data=.seq its n∧its.size≤sizeLine∧Vals xs its.toList
def zy:Value→Option V
 | .none=>some .non
 | .bool b=>some (.bl b)
 | .int i _=>some (.int i)
 | .str x _=>some (.str x)
 | .bytes b _=>some (.byt b)
 | .float b _=>some (.flt b)
 | .ref a=>some (.ref a)
 | .type n=>some (.ty n)
 | _=>none
theorem RelV.abs{x:V}{u:Value}(r:RelV x u):zy u=some x:=by
 cases x with
 | non=>cases r;rfl
 | bl _=>cases r;rfl
 | int _=>obtain⟨t,rfl⟩:=r;rfl
 | str _=>obtain⟨t,rfl⟩:=r;rfl
 | byt _=>obtain⟨t,rfl⟩:=r;rfl
 | flt _=>obtain⟨t,rfl⟩:=r;rfl
 | ref _=>cases r;rfl
 | ty _=>cases r;rfl
theorem RelV.inj{x y:V}{u:Value}(r:RelV x u)(q:RelV y u):x=y:=Option.some.inj (r.abs.symm.trans q.abs)
theorem Vals.inj:∀{xs ys:List V} {us:List Value},Vals xs us→Vals ys us→xs=ys
 | _,_,_,.nil,.nil=>rfl
 | _,_,_,.cons r t,.cons r' t'=>by rw[r.inj r',Vals.inj t t']
section
variable{X:Cx}{pins:List (Addr×Obj)}{σ:St}{H:Hp}{s:Shared}{a:Addr}{xs ys:List V}
theorem SqL.of{K:PySem.W.Frag}(h:H a=some (.lst xs)):SqL K H a xs:=.inl (.inl h)
theorem SqT.of{K:PySem.W.Frag}(h:H a=some (.tup xs)):SqT K H a xs:=.inl (.inl h)
theorem Inv.list(I:Inv X pins σ H s)(h:SqL X.K H a xs):∃its:List Value,Vals xs its∧PlainL s.heap a its.toArray∧xs.length≤sizeLine:=by
 rcases h with h | ⟨o,its,n,hk,hc,hd,hs,hz,r⟩
 ·obtain⟨z,its,n,r,e⟩:=h.ok I.hok
  exact⟨its,r,⟨_,n,e,rfl,rfl,rfl⟩,z⟩
 ·refine⟨its.toList,r,⟨o,n,I.kIn a o hk,hc,hd,by simpa using hs⟩,?_⟩
  have e:=r.length
  simp only[Array.length_toList] at e
  lia
theorem Inv.tuple(I:Inv X pins σ H s)(h:SqT X.K H a xs):∃its:List Value,Vals xs its∧IsTup s.heap a its.toArray∧xs.length≤sizeLine:=by
 rcases h with h | ⟨o,its,n,hk,hc,hs,hz,r⟩
 ·obtain⟨z,its,r,p⟩:=h.ok I.hok
  exact⟨its,r,p,z⟩
 ·refine⟨its.toList,r,⟨o,I.kIn a o hk,hc,n,by simpa using hs⟩,?_⟩
  have e:=r.length
  simp only[Array.length_toList] at e
  lia
theorem Inv.list_inj(I:Inv X pins σ H s)(h:SqL X.K H a xs)(h':SqL X.K H a ys):xs=ys:=by
 obtain⟨its,r,⟨o,n,e,_,_,d⟩,_⟩:=I.list h
 obtain⟨its',r',⟨o',n',e',_,_,d'⟩,_⟩:=I.list h'
 rw[e] at e';cases e'
 rw[d] at d'
 injection d' with d1 _
 have:its=its':=by simpa using congrArg Array.toList d1
 subst this
 exact r.inj r'
end
abbrev Cx.wish(X:Cx)(E:Value→Shared→Prop):Cx:={X with xe:=E}
abbrev Cx.nox(X:Cx):Cx:=X.wish fun _ _=>False
theorem Cx.Ok.wish{X:Cx}(ok:X.Ok)(E:Value→Shared→Prop):(X.wish E).Ok:=
 ⟨ok.mod,ok.kind,ok.glob,ok.blt,ok.above,ok.inj,ok.has,ok.cab,ok.hd,ok.frames,ok.stk,ok.exf,ok.bs,ok.bsz,ok.noex,ok.exfs,ok.funs,ok.frf⟩
theorem Cx.Ok.unwish{X:Cx}{E:Value→Shared→Prop}(ok:(X.wish E).Ok):X.Ok:=
 ⟨ok.mod,ok.kind,ok.glob,ok.blt,ok.above,ok.inj,ok.has,ok.cab,ok.hd,ok.frames,ok.stk,ok.exf,ok.bs,ok.bsz,ok.noex,ok.exfs,ok.funs,ok.frf⟩
section
variable{X:Cx}{pins:List (Addr×Obj)}{σ:St}{H:Hp}{s:Shared}{E:Value→Shared→Prop}
theorem Inv.wish(I:Inv X pins σ H s)(E:Value→Shared→Prop):Inv (X.wish E) pins σ H s:=⟨I.ok.wish E,I.os,I.bare,I.base,I.loc,I.cell,I.free,I.freeC,I.pin,I.hok,I.len⟩
theorem Inv.unwish(I:Inv (X.wish E) pins σ H s):Inv X pins σ H s:=⟨I.ok.unwish,I.os,I.bare,I.base,I.loc,I.cell,I.free,I.freeC,I.pin,I.hok,I.len⟩
theorem SP.unwish{D:Ends}{f:Flow}{s':Shared}(h:SP (X.wish E) pins D f s'):SP X pins D f s':=by
 cases f with
 | next=>obtain⟨σ',H',I,q⟩:=h;exact⟨σ',H',I.unwish,q⟩
 | brk=>obtain⟨σ',H',I,q⟩:=h;exact⟨σ',H',I.unwish,q⟩
 | cont=>obtain⟨σ',H',I,q⟩:=h;exact⟨σ',H',I.unwish,q⟩
 | ret u=>obtain⟨v,σ',H',I,r,q⟩:=h;exact⟨v,σ',H',I.unwish,r,q⟩
theorem PSs.nox{st:List Stmt}{t:TS}(h:PSs X.nox st t):PSs X st t:=fun pins s σ H D I hw=>
 wpAny_mono (h pins s σ H D (I.wish _) hw) (fun _ _ q=>q.unwish) fun _ _ z=>False.elim z
end
section
variable{X:Cx}{st:Stmt}{rest:List Stmt}{t u:TS}{e:Expr}{te:TE}{pos:Pos}
def Dq:TS:=fun D σ H=>D.nx σ H
def ic(t u:TS):TS:=fun D σ H=>t {D with nx:=u D} σ H
theorem aN:PSs X [] Dq:=fun _ _ σ H _ I h=>wpAny_execs_nil ⟨σ,H,I,h⟩
theorem ad(h1:PS X st t)(h2:PSs X rest u):PSs X (st::rest) (ic t u):=by
 intro pins s σ H D I h
 refine wpAny_execs_cons (am (h1 pins s σ H {D with nx:=u D} I h) fun f s1 q=>?_)
 cases f with
 | next=>
   obtain⟨σ',H',I',q⟩:=q
   exact h2 pins s1 σ' H' D I' q
 | ret v=>exact q
 | brk=>exact q
 | cont=>exact q
theorem ah(h1:PS X st t):PSs X [st] t:=by
 intro pins s σ H D I h
 refine wpAny_execs_cons (am (h1 pins s σ H D I h) fun f s1 q=>?_)
 cases f with
 | next=>exact wpAny_execs_nil q
 | ret v=>exact q
 | brk=>exact q
 | cont=>exact q
theorem Inv.quiet{pins:List (Addr×Obj)}{σ:St}{H:Hp}{s:Shared}(I:Inv X pins σ H s):interactive X.env=false:=by simp[interactive,I.ok.kind]
def y4(te:TE):TS:=fun D σ H=>te σ H fun _ H1=>D.nx σ H1
theorem aU(he:PE X e te)(hs:swapsWith e none pos.line X.env=pure false:=by rfl):PS X (.Expr e pos) (y4 te):=by
 intro pins s σ H D I h
 exact wpAny_Expr_any (am (he pins s σ H _ I h) fun v s1 ⟨x,H1,I1,r1,q1⟩=>⟨σ,H1,I1,q1⟩) I.quiet hs
def yw(te:TE):TS:=fun D σ H=>te σ H D.rt
theorem aw(he:PE X e te):PS X (.Return (some e) pos) (yw te):=by
 intro pins s σ H D I h
 exact wpAny_Return_some (am (he pins s σ H _ I h) fun v s1 ⟨x,H1,I1,r1,q1⟩=>⟨x,σ,H1,I1,r1,q1⟩)
def pf(c:TT)(t u:TS):TS:=fun D σ H=>c σ H fun b H1=>if b=true then t D σ H1 else u D σ H1
theorem aJ{c:Expr}{a b:List Stmt}{tc:TT}(hc:PT X c tc)(ha:PSs X a t)(hb:PSs X b u):PS X (.If c a b pos) (pf tc t u):=by
 intro pins s σ H D I h
 refine wpAny_If (am (hc pins s σ H _ I h) fun d s1 ⟨H1,I1,q1⟩=>?_)
 cases d with
 | true=>exact ha pins s1 σ H1 D I1 q1
 | false=>exact hb pins s1 σ H1 D I1 q1
def xL:TS:=fun _ _ _=>False
theorem ia:PS X st xL:=fun _ _ _ _ _ _ h=>h.elim
end
abbrev TG:=V→St→Hp→(St→Hp→Prop)→Prop
abbrev gj:=List V→St→Hp→(St→Hp→Prop)→Prop
def PG(X:Cx)(target:Expr)(t:TG):Prop:=
 ∀ (pins:List (Addr×Obj)) (s:Shared) (σ:St) (H:Hp) (v:V) (u:Value) (Q:St→Hp→Prop),Inv X pins σ H s→RelV v u→t v σ H Q→
   wpAny (model X.prog X.w) X.A (assign target X.env u) (fun _ s'=>∃σ' H',Inv X pins σ' H' s'∧Q σ' H') X.xe s
def lM(X:Cx)(ts:List Expr)(t:gj):Prop:=
 ∀ (pins:List (Addr×Obj)) (s:Shared) (σ:St) (H:Hp) (vs:List V) (us:List Value) (Q:St→Hp→Prop),Inv X pins σ H s→Vals vs us→t vs σ H Q→
   wpAny (model X.prog X.w) X.A (assignInOrder ((assignEach ts X.env).map (·.2)) us) (fun _ s'=>∃σ' H',Inv X pins σ' H' s'∧Q σ' H') X.xe s
abbrev oG:=V→V→V→Hp→(Hp→Prop)→Prop
def rq(X:Cx)(t:oG):Prop:=
 ∀ (pins:List (Addr×Obj)) (s:Shared) (σ:St) (H:Hp) (o i v:V) (ov iv u:Value) (Q:Hp→Prop),Inv X pins σ H s→RelV o ov→RelV i iv→RelV v u→t o i v H Q→
   wpAny (model X.prog X.w) X.A (setItem ov iv u) (fun _ s'=>∃H',Inv X pins σ H' s'∧Q H') X.xe s
section
variable{X:Cx}{pos:Pos}
def fM(i:Nat):TG:=fun v σ H Q=>Q (σ.set i (some v)) H
theorem aT{i:Nat}{x:Str}(hN:X.N.Nodup)(hi:X.N[i]?=some x)(hx:gy X.env.scope x)(hf:X.fn x=true∨X.env.scope.names.lookup x=some .local:=by first | exact .inl rfl | exact .inr rfl | assumption):PG X (.Name x pos) (fM i):=by
 intro pins s σ H v u Q I r h
 exact wpAny_assign_Name (kX I hN hi hx r (fun s' I'=>⟨_,H,I',h⟩) hf)
def zR:gj:=fun vs σ H Q=>vs=[]∧Q σ H
def AK(t:TG)(u:gj):gj:=fun vs σ H Q=>∃v r,vs=v::r∧t v σ H fun σ' H'=>u r σ' H' Q
theorem dP:lM X [] zR:=by
 intro pins s σ H vs us Q I r h
 obtain⟨e,h⟩:=h
 subst e
 cases r
 exact assignInOrder_nil ⟨σ,H,I,h⟩
theorem bo{e:Expr}{es:List Expr}{t:TG}{u:gj}(h1:PG X e t)(h2:lM X es u)(hs:(assignEach (e::es) X.env).map (·.2)=assign e X.env::(assignEach es X.env).map (·.2):=by rfl):lM X (e::es) (AK t u):=by
 intro pins s σ H vs us Q I r h
 obtain⟨v,vr,e1,h⟩:=h
 subst e1
 cases r with
 | cons r rr=>
   rw[hs]
   refine assignInOrder_cons (am (h1 pins s σ H _ _ _ I r h) fun _ s1 ⟨σ1,H1,I1,q1⟩=>?_)
   exact h2 pins s1 σ1 H1 _ _ Q I1 rr q1
def Bh(K:PySem.W.Frag)(n:Nat)(t:gj):TG:=fun v σ H Q=>∃a xs,v=.ref a∧SqT K H a xs∧xs.length=n∧t xs σ H Q
theorem dG{es:List Expr}{k:Nat}{t:gj}{n:Nat}(hc:X.calm=true)(h:lM X es t)(hn:(assignEach es X.env).length=n:=by rfl)(hst:(assignEach es X.env).findIdx? (·.1)=none:=by rfl):PG X (.Tuple es k pos) (Bh X.K n t):=by
 intro pins s σ H v u Q I r hw
 obtain⟨a,xs,e1,hq,hl,hw⟩:=hw
 subst e1
 cases r
 obtain⟨its,rv,ht,hz⟩:=I.tuple hq
 refine assign_Tuple_tuple (I.ok.hd hc) ht (by simp[hn,←hl,rv.length]) hst fun h' hx=>?_
 have I1:Inv X pins σ H {s with heap:=h'}:=I.kept (t':=s.toks) fun b o e=>hx b o (Nat.ne_of_lt (Heap.lt_size e)) e
 exact h pins _ σ H xs _ Q I1 (by simpa using rv) hw
def xB(to ti:TE)(t:oG):TG:=fun v σ H Q=>to σ H fun o H1=>ti σ H1 fun i H2=>t o i v H2 fun H3=>Q σ H3
theorem DR{o i:Expr}{to ti:TE}{t:oG}(ho:PE X o to)(hi:PE X i ti)(hs:rq X t)(ha:∀v,assign (.Subscript o i pos) X.env v=(do
 let ov←holding [v] (eval o X.env)
 let iv←holding [v,ov] (eval i X.env)
 standAt pos
 holding [v,ov,iv] (setItem ov iv v)
 release [v,ov,iv] []):=by intro _;rfl):PG X (.Subscript o i pos) (xB to ti t):=by
 intro pins s σ H v u Q I r h
 rw[ha]
 refine wpAny_bind (wpAny_holding (am (ho pins s σ H _ I h) fun ov s1 ⟨x,H1,I1,r1,q1⟩=>?_))
 refine wpAny_bind (wpAny_holding (am (hi pins s1 σ H1 _ I1 q1) fun iv s2 ⟨y,H2,I2,r2,q2⟩=>?_))
 refine wpAny_bind (wpAny_standAt (wpAny_bind (wpAny_holding (am (hs pins s2 σ H2 x y v ov iv u _ I2 r1 r2 r q2) fun _ s3 ⟨H3,I3,q3⟩=>?_))))
 exact wpAny_release ⟨σ,H3,I3,q3⟩
def iH(te:TE)(g:TG):TS:=fun D σ H=>te σ H fun x H1=>g x σ H1 D.nx
theorem dO{tg e:Expr}{te:TE}{g:TG}(he:PE X e te)(hg:PG X tg g)(hs:swapsWithSole [tg] e pos.line X.env=pure false:=by rfl)(hw:swappedStores [tg] e X.env=pure none:=by rfl)
 (h1:(assignEach [tg] X.env).map (·.2)=[assign tg X.env]:=by rfl):PS X (.Assign [tg] e pos) (iH te g):=by
 intro pins s σ H D I h
 refine wpAny_Assign_stores (am (he pins s σ H _ I h) fun v s1 ⟨x,H1,I1,r1,q1⟩=>?_) hs hw
 rw[h1]
 exact am (hg pins s1 σ H1 x v _ I1 r1 q1) fun _ s2 q=>q
theorem aA{i:Nat}{x:Str}{e:Expr}{te:TE}{pos':Pos}(hN:X.N.Nodup)(hi:X.N[i]?=some x)(hx:gy X.env.scope x)(he:PE X e te)(hs:swapsWith e (some (.Name x pos')) pos.line X.env=pure false:=by rfl)(hf:X.fn x=true∨X.env.scope.names.lookup x=some .local:=by first | exact .inl rfl | exact .inr rfl | assumption):
 PS X (.Assign [.Name x pos'] e pos) (iH te (fM i)):=by
 intro pins s σ H D I h
 refine wpAny_Assign_Name (am (he pins s σ H _ I h) fun v s1 ⟨y,H1,I1,r1,q1⟩=>?_) hs
 exact kX I1 hN hi hx r1 (fun s2 I2=>⟨_,H1,I2,q1⟩) hf
end
section
variable{X:Cx}{pos:Pos}
def zv(c:TT)(tb:TS):TS:=fun D σ H=>∃W:Nat→St→Hp→Prop,(∃m,W m σ H)∧∀m σ H,W m σ H→
 c σ H fun b H1=>if b=true then∃N:St→Hp→Prop,(∀σ' H',N σ' H'→∃m',m'<m∧W m' σ' H')∧tb {D with nx:=N,ct:=N,bk:=D.nx} σ H1 else D.nx σ H1
theorem nV{c:Expr}{body:List Stmt}{tc:TT}{tb:TS}(hp:PassesOwn (model X.prog X.w) X.A X.env X.xe)(hc:PT X c tc)(hb:PSs X body tb):PS X (.While c body [] pos) (zv tc tb):=by
 intro pins s σ H D I h
 obtain⟨W,⟨m0,w0⟩,turn⟩:=h
 refine wpAny_While (codeAny_whileLoop (fun n s'=>∃σ' H',Inv X pins σ' H' s'∧W n σ' H') ?_ m0 ⟨σ,H,I,w0⟩)
 rintro n s1 ⟨σ1,H1,I1,w1⟩
 refine wpAny_passesOwn hp (am (hc pins s1 σ1 H1 _ I1 (turn n σ1 H1 w1)) fun b s2 ⟨H2,I2,q2⟩=>?_)
 cases b with
 | true=>
   obtain⟨N,hN,q2⟩:=q2
   rw[if_pos rfl]
   refine wpAny_passesOwn hp (am (hb pins s2 σ1 H2 _ I2 q2) fun f s3 q3=>?_)
   cases f with
   | next=>
     obtain⟨σ3,H3,I3,n3⟩:=q3
     obtain⟨m',hm,w3⟩:=hN σ3 H3 n3
     exact⟨m',hm,σ3,H3,I3,w3⟩
   | cont=>
     obtain⟨σ3,H3,I3,n3⟩:=q3
     obtain⟨m',hm,w3⟩:=hN σ3 H3 n3
     exact⟨m',hm,σ3,H3,I3,w3⟩
   | brk=>exact q3
   | ret v=>exact q3
 | false=>
   rw[if_neg Bool.false_ne_true]
   exact wpAny_execs_nil ⟨σ1,H2,I2,q2⟩
end
structure It where
 go:Nat→Hp→Prop
 yld:Nat→Hp→V→Hp→Prop
 stop:Nat→Hp→Prop
def du(X:Cx)(pins:List (Addr×Obj))(H:Hp)(b:Addr):Prop:=
 H b=none∧b≠X.env.locals∧b∉X.fs∧(b∈X.ex∨X.s₀.heap.objs.size≤b)∧(∀x c,X.env.cells.lookup x=some c→c≠b)∧∀p∈X.pn++pins,p.1≠b
theorem Inv.fpOk{X:Cx}{pins:List (Addr×Obj)}{σ:St}{H H':Hp}{s:Shared}{b:Addr}(I:Inv X pins σ H s)(hb:s.heap.objs.size≤b)(hn:H' b=none):du X pins H' b:=by
 refine⟨hn,Nat.ne_of_gt (Nat.lt_of_lt_of_le I.lt hb),I.nofs hb,.inr (Nat.le_trans I.sz hb),fun x c e z=>?_,fun p hp z=>?_⟩
 ·obtain⟨v,q⟩:=I.cell x c e
  exact absurd (Nat.lt_of_lt_of_le q.lt (by rw[z];exact hb)) (Nat.lt_irrefl _)
 ·exact absurd (Nat.lt_of_lt_of_le (Heap.lt_size (I.pin p hp).1) (by rw[z];exact hb)) (Nat.lt_irrefl _)
structure Turn(P:Program)(w:World)(K:PySem.W.Frag)(tg:Expr)(J:It)(fp:List Addr)(it:Addr)(tn:Nat→Heap→Prop):Prop where
 mem:it∈fp
 obj:∀i h,tn i h→∀b∈fp,∃o,h.get? b=some o∧∀v,o.data≠ .cell v
 keep:∀i h h',tn i h→(∀b∈fp,∀o,h.get? b=some o→h'.get? b=some o)→tn i h'
 item:∀(X:Cx),X.prog=P→X.w=w→X.K=K→X.calm=true→∀(i:Nat) (pins:List (Addr×Obj)) (s:Shared) (σ:St) (H:Hp) (E:Value→Shared→Prop),Inv X pins σ H s→(∀b∈fp,du X pins H b)→tn i s.heap→J.go i H→
  wpAny (model P w) X.A (pyNext (.ref it)) (fun r s1=>∃u,r=some u∧
   wpAny (model P w) X.A (letOwnedTupleGo tg (.ref it) u) (fun _ s2=>∃x H',Inv X pins σ H' s2∧RelV x u∧J.yld i H x H'∧tn (i+1) s2.heap∧∀b∈fp,H' b=none) E s1) E s
 done:∀(X:Cx),X.prog=P→X.w=w→X.K=K→X.calm=true→∀(i:Nat) (pins:List (Addr×Obj)) (s:Shared) (σ:St) (H:Hp) (E:Value→Shared→Prop),Inv X pins σ H s→(∀b∈fp,du X pins H b)→tn i s.heap→J.stop i H→
  wpAny (model P w) X.A (pyNext (.ref it)) (fun r s1=>r=none∧Inv X pins σ H s1) E s
 self:∀(A:Around) (i:Nat) (s:Shared) (Q:Value→Shared→Prop) (E:Value→Shared→Prop),tn i s.heap→Q (.ref it) s→wpAny (model P w) A (pyIter (.ref it)) Q E s
abbrev TI:=St→Hp→(It→Hp→Prop)→Prop
def qp(X:Cx)(pins:List (Addr×Obj))(σ:St)(tg:Expr)(R:It→Hp→Prop)(itv:Value)(s2:Shared):Prop:=
 ∃(it:Addr) (fp:List Addr) (tn:Nat→Heap→Prop) (J:It) (H':Hp),itv=.ref it∧Inv X pins σ H' s2∧Turn X.prog X.w X.K tg J fp it tn∧tn 0 s2.heap∧(∀b∈fp,du X pins H' b)∧R J H'
def PI(X:Cx)(tg iter:Expr)(wi:TI):Prop:=
 ∀ (pins:List (Addr×Obj)) (s:Shared) (σ:St) (H:Hp) (R:It→Hp→Prop),Inv X pins σ H s→wi σ H R→
   wpAny (model X.prog X.w) X.A (eval iter X.env) (fun v s1=>wpAny (model X.prog X.w) X.A (pyIter v) (qp X pins σ tg R) X.xe s1) X.xe s
theorem jr{M:Model}{A:Around}{E:Value→Shared→Prop}{s:Shared}{tg:Expr}{it:Addr}{u:Value}{o:Obj}{n:String}{vs:Array Value}{Q:Unit→Shared→Prop}(ho:s.heap.get? it=some o)(hc:o.cls=.type n)(hd:o.data=.fields vs)(hn:["enumerate","zip","dict_itemiterator","dict_reverseitemiterator","odict_iterator","itertools.zip_longest","itertools.pairwise"].contains n=false)(hQ:Q () s):wpAny M A (letOwnedTupleGo tg (.ref it) u) Q E s:=by
 unfold letOwnedTupleGo
 cases tg <;> first
  | exact wpAny_pure hQ
  | (cases u <;> first
   | exact wpAny_pure hQ
   | (refine wpAny_bind (wpAny_load ho ?_)
      rw[hc,hd]
      show wpAny M A (if(["enumerate","zip","dict_itemiterator","dict_reverseitemiterator","odict_iterator","itertools.zip_longest","itertools.pairwise"].contains n && vs[0]? == some (rawInt _))=true then _ else _) Q E s
      rw[if_neg (by intro h;rw[hn,Bool.false_and] at h;cases h)]
      exact wpAny_pure hQ))
def eY(K:PySem.W.Frag)(a:Addr):It:=
 ⟨fun i H=>∃xs x,SqL K H a xs∧xs[i]?=some x,fun i H x H'=>H'=H∧∀xs,SqL K H a xs→xs[i]?=some x,fun i H=>∃xs,SqL K H a xs∧xs.length≤i⟩
def eR(lo:Int)(n:Nat):It:=⟨fun i _=>i<n,fun i H x H'=>H'=H∧x=.int (lo+i),fun i _=>n≤i⟩
theorem Ef{P:Program}{w:World}{K:PySem.W.Frag}{tg:Expr}(a it:Addr):Turn P w K tg (eY K a) [it] it (fun i h=>h.IsListIter it a i) where
 mem:=by simp
 obj:=fun i h st b hb=>by
  have e:b=it:=by simpa using hb
  subst e
  obtain⟨o,e,c,d⟩:=st
  exact⟨o,e,fun v z=>by rw[d] at z;cases z⟩
 keep:=fun i h h' st k=>st.at fun o e=>k it (by simp) o e
 item:=by
  intro X hP hw hK hc i pins s σ H E I hf st hg
  subst hP hw hK
  obtain⟨xs,x,hq,hx⟩:=hg
  obtain⟨its,rv,p,hz⟩:=I.list hq
  obtain⟨u,hu,ru⟩:=rv.get hx
  obtain⟨f0,f1,f2,f3,f4,f5⟩:=hf it (by simp)
  refine wpAny_pyNext_list_item st p.isList (x:=u) (by simpa using hu) fun h' st' sb=>?_
  have I1:Inv X pins σ H {s with heap:=h'}:=I.turned (t':=s.toks) (fun b o hb e=>(sb.2 b hb).trans e) f0 f1 f3 f4 f5
  obtain⟨o,e,c,d⟩:=id st'
  exact⟨u,rfl,jr (s:={s with heap:=h'}) e c d (by decide) ⟨x,H,I1,ru,⟨rfl,fun ys hy=>by rw[I.list_inj hy hq];exact hx⟩,st',fun b hb=>(hf b hb).1⟩⟩
 done:=by
  intro X hP hw hK hc i pins s σ H E I hf st hg
  subst hP hw hK
  obtain⟨xs,hq,hx⟩:=hg
  obtain⟨its,rv,p,hz⟩:=I.list hq
  obtain⟨f0,f1,f2,f3,f4,f5⟩:=hf it (by simp)
  have hl:=rv.length
  exact wpAny_pyNext_list_end (I.ok.hd hc) st p.isList (by simp;lia) fun h' eb=>⟨rfl,I.turned (t':=s.toks) (fun b o hb e=>eb b o hb e) f0 f1 f3 f4 f5⟩
 self:=fun _ _ _ _ _ st h=>wpAny_pyIter_listiter st h
theorem wl{P:Program}{w:World}{K:PySem.W.Frag}{tg:Expr}(it:Addr)(lo:Int)(n:Nat):Turn P w K tg (eR lo n) [it] it (fun i h=>IsRangeIter h it (lo+(i:Nat)*1) ((n:Int)-(i:Nat)) 1) where
 mem:=by simp
 obj:=fun i h st b hb=>by
  have e:b=it:=by simpa using hb
  subst e
  exact⟨_,st,fun v z=>by
   have z':Data.fields _=Data.cell v:=z
   cases z'⟩
 keep:=fun i h h' st k=>k it (by simp) _ st
 item:=by
  intro X hP hw hK hc i pins s σ H E I hf st hg
  subst hP hw hK
  obtain⟨f0,f1,f2,f3,f4,f5⟩:=hf it (by simp)
  have W:=Walks.range (prog:=X.prog) (w:=X.w) (I.ok.hd hc) it lo 1 n
  refine W.item i s _ _ hg st fun v h' tk hv st' kk=>?_
  obtain⟨t,rfl⟩:=hv
  have I1:Inv X pins σ H {s with heap:=h',toks:=tk}:=I.turned (fun b o hb e=>kk b o (by simpa using hb) e) f0 f1 f3 f4 f5
  refine⟨_,rfl,jr (s:={s with heap:=h',toks:=tk}) (n:="range_iterator") st' rfl rfl (by decide) ⟨.int (lo+i),H,I1,⟨t,?_⟩,⟨rfl,rfl⟩,st',fun b hb=>(hf b hb).1⟩⟩
  rw[Int.mul_one]
 done:=by
  intro X hP hw hK hc i pins s σ H E I hf st hg
  subst hP hw hK
  obtain⟨f0,f1,f2,f3,f4,f5⟩:=hf it (by simp)
  exact wpAny_pyNext_range_end (I.ok.hd hc) st (by have:n≤i:=hg;lia) fun h' eb=>⟨rfl,I.turned (t':=s.toks) (fun b o hb e=>eb b o hb e) f0 f1 f3 f4 f5⟩
 self:=fun _ _ _ _ _ st h=>wpAny_pyIter_rangeiter st h
section
variable{X:Cx}{tg:Expr}
def BI(K:PySem.W.Frag)(tl:TE):TI:=fun σ H R=>tl σ H fun x H1=>∃a,x=.ref a∧(∃xs,SqL K H1 a xs)∧R (eY K a) H1
theorem cq{l:Expr}{tl:TE}(hl:PE X l tl):PI X tg l (BI X.K tl):=by
 intro pins s σ H R I h
 refine am (hl pins s σ H _ I h) fun v s1 ⟨x,H1,I1,r1,q1⟩=>?_
 obtain⟨a,e,⟨xs,hq⟩,q⟩:=q1
 subst e
 cases r1
 obtain⟨its,rv,p,hz⟩:=I1.list hq
 refine wpAny_pyIter_list p.isList ?_
 refine⟨s1.heap.objs.size,[s1.heap.objs.size],_,_,H1,rfl,I1.kept (t':=s1.toks) fun b o e=>Heap.get?_push_of_some _ e,Ef a _,⟨_,Heap.get?_push_size _ rfl,rfl,rfl⟩,fun b hb=>?_,q⟩
 have e:b=s1.heap.objs.size:=by simpa using hb
 subst e
 exact I1.fpOk (Nat.le_refl _) (I1.hok.fresh (Nat.le_refl _))
theorem vy{pins:List (Addr×Obj)}{σ:St}{H:Hp}{s:Shared}{R:It→Hp→Prop}{E:Value→Shared→Prop}{lo hi:Int}{t u v:Tok}{tk:Nat}(I:Inv X pins σ H s)(h1: -(2 ^ 62)≤lo)(h2:lo<2 ^ 62)(h3: -(2 ^ 62)≤hi)(h4:hi<2 ^ 62)(q:R (eR lo (hi-lo).toNat) H):wpAny (model X.prog X.w) X.A (pyIter (.ref s.heap.objs.size)) (qp X pins σ tg R) E {s with heap:=s.heap.push {cls:=.type "range",data:=.fields #[.int lo t,.int hi u,.int 1 v]},toks:=tk}:=by
 refine wpAny_pyIter_range (IsRange.new ..) (small_one h1 h2 h3 h4) ?_
 have I1:Inv X pins σ H {s with heap:=s.heap.push {cls:=.type "range",data:=.fields #[.int lo t,.int hi u,.int 1 v]},toks:=tk}:=I.kept fun b o e=>Heap.get?_push_of_some _ e
 refine⟨(s.heap.push {cls:=.type "range",data:=.fields #[.int lo t,.int hi u,.int 1 v]}).objs.size,[(s.heap.push {cls:=.type "range",data:=.fields #[.int lo t,.int hi u,.int 1 v]}).objs.size],_,_,H,rfl,
  I1.kept (t':=tk) fun b o e=>Heap.get?_push_of_some _ e,wl _ lo (hi-lo).toNat,?_,fun b hb=>?_,q⟩
 ·have e1:lo+((0:Nat):Int)*1=lo:=by simp
  have e2:(((hi-lo).toNat:Nat):Int)-((0:Nat):Int)=Builtin.Range.rangeSize lo hi 1:=by rw[rangeSize_one];split <;> lia
  show IsRangeIter _ _ (lo+((0:Nat):Int)*1) ((((hi-lo).toNat:Nat):Int)-((0:Nat):Int)) 1
  rw[e1,e2]
  exact Heap.get?_push_size _ rfl
 ·have e:b=(s.heap.push {cls:=.type "range",data:=.fields #[.int lo t,.int hi u,.int 1 v]}).objs.size:=by simpa using hb
  subst e
  exact I1.fpOk (Nat.le_refl _) (I1.hok.fresh (Nat.le_refl _))
def xG(ta:TA):TI:=fun σ H R=>ta σ H fun vs H1=>∃j:Int,vs=[.int j]∧ -(2 ^ 62)≤j∧j<2 ^ 62∧R (eR 0 j.toNat) H1
def DU(ta:TA):TI:=fun σ H R=>ta σ H fun vs H1=>∃i j:Int,vs=[.int i,.int j]∧(-(2 ^ 62)≤i∧i<2 ^ 62∧ -(2 ^ 62)≤j∧j<2 ^ 62)∧R (eR i (j-i).toNat) H1
theorem iz{a:Expr}{ta:TA}{p pos:Pos}(hg:Gl X "range")(hm:X.mg "range"=none)(ha:PA X [a] ta)(hs:starEach [a] X.env=[(false,eval a X.env)]:=by rfl):PI X tg (.Call (.Name "range" p) [a] [] pos) (xG ta):=by
 intro pins s σ H R I h
 refine Call_ (dE I hg hm boot_range (PyProof.Rows.callWith_type1 (am (ha pos pins s σ H _ I h) fun us s1 ⟨vs,H1,I1,r1,q1⟩=>?_) hs rfl))
 obtain⟨j,e,q1,q2,q⟩:=q1
 subst e
 cases r1 with
 | cons r rr=>
   cases rr
   obtain⟨t,rfl⟩:=r
   exact call_range_1 (vy I1 (by lia) (by lia) q1 q2 (by simpa using q))
theorem q9{a b:Expr}{ta:TA}{p pos:Pos}(hg:Gl X "range")(hm:X.mg "range"=none)(ha:PA X [a,b] ta)(hs:starEach [a,b] X.env=[(false,eval a X.env),(false,eval b X.env)]:=by rfl)(hs2:starEach [b] X.env=[(false,eval b X.env)]:=by rfl):
 PI X tg (.Call (.Name "range" p) [a,b] [] pos) (DU ta):=by
 intro pins s σ H R I h
 refine Call_ (dE I hg hm boot_range (PyProof.Rows.callWith_type1 (am (ha pos pins s σ H _ I h) fun us s1 ⟨vs,H1,I1,r1,q1⟩=>?_) (by rw[hs,hs2]) (by rw[hs2];rfl)))
 obtain⟨i,j,e,⟨q1,q2,q3,q4⟩,q⟩:=q1
 subst e
 cases r1 with
 | cons r rr=>
   cases rr with
   | cons r' rr=>
     cases rr
     obtain⟨t,rfl⟩:=r
     obtain⟨t',rfl⟩:=r'
     exact call_range_2 (vy I1 q1 q2 q3 q4 q)
def rR(wi:TI)(g:TG)(tb:TS):TS:=fun D σ H=>wi σ H fun J H1=>∃W:Nat→Nat→St→Hp→Prop,(∃m,W 0 m σ H1)∧∀i m σ H,W i m σ H→
 (J.stop i H∧D.nx σ H)∨(J.go i H∧∃N:St→Hp→Prop,(∀σ' H',N σ' H'→∃m',m'<m∧W (i+1) m' σ' H')∧∀x H',J.yld i H x H'→g x σ H' fun σ2 H2=>tb {D with nx:=N,ct:=N,bk:=D.nx} σ2 H2)
def iI(fp:List Addr)(h:Heap):List (Addr×Obj):=fp.filterMap fun b=>(h.get? b).map fun o=>(b,o)
theorem kK{fp:List Addr}{h:Heap}{b:Addr}{o:Obj}(hb:b∈fp)(e:h.get? b=some o):(b,o)∈iI fp h:=List.mem_filterMap.mpr ⟨b,hb,by rw[e];rfl⟩
theorem CV{fp:List Addr}{h:Heap}{p:Addr×Obj}(hp:p∈iI fp h):p.1∈fp∧h.get? p.1=some p.2:=by
 obtain⟨b,hb,e⟩:=List.mem_filterMap.mp hp
 cases q:h.get? b with
 | none=>rw[q] at e;cases e
 | some o=>
   rw[q] at e
   have e':(b,o)=p:=Option.some.inj e
   subst e'
   exact⟨hb,q⟩
theorem Inv.pinned{pins:List (Addr×Obj)}{σ:St}{H:Hp}{s:Shared}{fp:List Addr}(I:Inv X pins σ H s)(hf:∀b∈fp,du X pins H b)(ho:∀b∈fp,∃o,s.heap.get? b=some o∧∀v,o.data≠ .cell v):Inv X (pins++iI fp s.heap) σ H s:=
 I.pins_of fun p hp=>(List.mem_append.mp hp).elim (fun z=>I.pin p (List.mem_append_right _ z)) fun z=>by
  obtain⟨hb,e⟩:=CV z
  obtain⟨f0,f1,f2,_⟩:=hf p.1 hb
  obtain⟨o,e',d⟩:=ho p.1 hb
  rw[e] at e';cases e'
  exact⟨e,f0,f1,f2,d⟩
theorem Inv.unpinned{pins pl:List (Addr×Obj)}{σ:St}{H:Hp}{s:Shared}(I:Inv X (pins++pl) σ H s):Inv X pins σ H s:=I.pins_of fun p hp=>I.pin p (List.mem_append_right _ (List.mem_append_left _ hp))
theorem eB{iter:Expr}{body:List Stmt}{wi:TI}{g:TG}{tb:TS}{pos:Pos}(hp:PassesOwn (model X.prog X.w) X.A X.env X.xe)(hc:X.calm=true)(hi:PI X tg iter wi)(hg:PG X tg g)(hb:PSs X body tb)(hs:∀x,foldedSetIterable iter X.env x=pure x:=by intro _;rfl):PS X (.For tg iter body [] pos) (rR wi g tb):=by
 intro pins s σ H D I h
 refine wpAny_For (am (hi pins s σ H _ I h) fun v s1 h1=>am h1 fun itv s2 h2=>?_) hs
 obtain⟨it,fp,tn,J,H2,e,I2,T,st2,f2,W,⟨m0,w0⟩,turn⟩:=h2
 subst e
 have stat:∀{H':Hp},(∀b∈fp,H' b=none)→∀b∈fp,du X pins H' b:=fun hn b hb=>⟨hn b hb,(f2 b hb).2⟩
 refine codeAny_forLoop_any (fun n s'=>∃i σ' H',Inv X pins σ' H' s'∧tn i s'.heap∧(∀b∈fp,H' b=none)∧W i n σ' H') ?_ m0 ⟨0,σ,H2,I2,st2,fun b hb=>(f2 b hb).1,w0⟩
 rintro n s3 ⟨i,σ3,H3,I3,st3,fr3,w3⟩
 rcases turn i n σ3 H3 w3 with⟨stop,qn⟩ | ⟨go,N,hN,step⟩
 ·refine wpAny_passesOwn hp (am (T.done X rfl rfl rfl hc i pins s3 σ3 H3 X.xe I3 (stat fr3) st3 stop) fun r s4 ⟨hr,I4⟩=>?_)
  subst hr
  exact wpAny_execs_nil ⟨σ3,H3,I4,qn⟩
 ·refine wpAny_passesOwn hp (am (T.item X rfl rfl rfl hc i pins s3 σ3 H3 X.xe I3 (stat fr3) st3 go) fun r s4 ⟨u,hr,h4⟩=>?_)
  subst hr
  refine wpAny_passesOwn hp (am h4 fun _ s5 ⟨x,H5,I5,r5,y5,st5,fr5⟩=>?_)
  have I5':=I5.pinned (stat fr5) (T.obj _ _ st5)
  refine wpAny_passesOwn hp (am (hg _ s5 σ3 H5 x u _ I5' r5 (step x H5 y5)) fun _ s6 ⟨σ6,H6,I6,q6⟩=>?_)
  refine wpAny_passesOwn hp (am (hb _ s6 σ6 H6 _ I6 q6) fun f s7 q7=>?_)
  have again:∀{σ7:St} {H7:Hp},Inv X (pins++iI fp s5.heap) σ7 H7 s7→N σ7 H7→∃m,m<n∧∃i σ' H',Inv X pins σ' H' s7∧tn i s7.heap∧(∀b∈fp,H' b=none)∧W i m σ' H':=fun{σ7 H7} I7 n7=>by
   obtain⟨m',hm,w7⟩:=hN σ7 H7 n7
   refine⟨m',hm,i+1,σ7,H7,I7.unpinned,T.keep _ _ _ st5 fun b hb o e=>(I7.pin (b,o) (List.mem_append_right _ (List.mem_append_right _ (kK hb e)))).1,fun b hb=>?_,w7⟩
   obtain⟨o,e,d⟩:=T.obj _ _ st5 b hb
   exact(I7.pin (b,o) (List.mem_append_right _ (List.mem_append_right _ (kK hb e)))).2.1
  cases f with
  | next=>obtain⟨σ7,H7,I7,n7⟩:=q7;exact again I7 n7
  | cont=>obtain⟨σ7,H7,I7,n7⟩:=q7;exact again I7 n7
  | brk=>obtain⟨σ7,H7,I7,q7⟩:=q7;exact⟨σ7,H7,I7.unpinned,q7⟩
  | ret v=>obtain⟨x7,σ7,H7,I7,r7,q7⟩:=q7;exact⟨x7,σ7,H7,I7.unpinned,r7,q7⟩
end
theorem j7{K:PySem.W.Frag}{a:Addr}{xs:List V}{g:TG}{tb:TS}{D:Ends}{σ:St}{H:Hp}(Pv:Nat→St→Hp→Prop)(h0:Pv 0 σ H)(hl:∀i σ H,i≤xs.length→Pv i σ H→SqL K H a xs)(hs:∀i x σ H,xs[i]?=some x→Pv i σ H→g x σ H fun σ2 H2=>tb {D with nx:=Pv (i+1),ct:=Pv (i+1),bk:=D.nx} σ2 H2)(hd:∀σ H,Pv xs.length σ H→D.nx σ H):
 ∃ W:Nat→Nat→St→Hp→Prop,(∃m,W 0 m σ H)∧∀i m σ H,W i m σ H→
   ((eY K a).stop i H∧D.nx σ H)∨((eY K a).go i H∧∃N:St→Hp→Prop,(∀σ' H',N σ' H'→∃m',m'<m∧W (i+1) m' σ' H')∧∀x H',(eY K a).yld i H x H'→g x σ H' fun σ2 H2=>tb {D with nx:=N,ct:=N,bk:=D.nx} σ2 H2):=by
 refine⟨fun i m σ H=>m=xs.length-i∧i≤xs.length∧Pv i σ H,⟨xs.length,by simp,Nat.zero_le _,h0⟩,?_⟩
 rintro i m σ H ⟨rfl,hi,p⟩
 have q:=hl i σ H hi p
 by_cases hlt:i<xs.length
 ·refine .inr ⟨⟨xs,xs[i],q,by simp[hlt]⟩,Pv (i+1),fun σ' H' p'=>⟨xs.length-(i+1),by lia,rfl,hlt,p'⟩,fun x H' y=>?_⟩
  obtain⟨e,y⟩:=y
  subst e
  exact hs i x σ _ (y xs q) p
 ·have e:i=xs.length:=by lia
  subst e
  exact .inl ⟨⟨xs,q,Nat.le_refl _⟩,hd σ H p⟩
theorem uA{lo:Int}{n:Nat}{g:TG}{tb:TS}{D:Ends}{σ:St}{H:Hp}(Pv:Nat→St→Hp→Prop)(h0:Pv 0 σ H)(hs:∀i σ H,i<n→Pv i σ H→g (.int (lo+i)) σ H fun σ2 H2=>tb {D with nx:=Pv (i+1),ct:=Pv (i+1),bk:=D.nx} σ2 H2)(hd:∀σ H,Pv n σ H→D.nx σ H):
 ∃ W:Nat→Nat→St→Hp→Prop,(∃m,W 0 m σ H)∧∀i m σ H,W i m σ H→
   ((eR lo n).stop i H∧D.nx σ H)∨((eR lo n).go i H∧∃N:St→Hp→Prop,(∀σ' H',N σ' H'→∃m',m'<m∧W (i+1) m' σ' H')∧∀x H',(eR lo n).yld i H x H'→g x σ H' fun σ2 H2=>tb {D with nx:=N,ct:=N,bk:=D.nx} σ2 H2):=by
 refine⟨fun i m σ H=>m=n-i∧i≤n∧Pv i σ H,⟨n,by simp,Nat.zero_le _,h0⟩,?_⟩
 rintro i m σ H ⟨rfl,hi,p⟩
 by_cases hlt:i<n
 ·refine .inr ⟨hlt,Pv (i+1),fun σ' H' p'=>⟨n-(i+1),by lia,rfl,hlt,p'⟩,fun x H' y=>?_⟩
  obtain⟨e,y⟩:=y
  subst e y
  exact hs i σ _ hlt p
 ·have e:i=n:=by lia
  subst e
  exact .inl ⟨Nat.le_refl _,hd σ H p⟩
abbrev R2:=V→V→Hp→VK→Prop
def OpR(X:Cx)(f:Value→Value→Sem Value)(r:R2):Prop:=
 ∀ (pins:List (Addr×Obj)) (s:Shared) (σ:St) (H:Hp) (x y:V) (v u:Value) (Q:VK),Inv X pins σ H s→RelV x v→RelV y u→r x y H Q→
   wpAny (model X.prog X.w) X.A (f v u) (EP X pins σ Q) X.xe s
def m7(X:Cx)(f:Value→Sem Value)(r:V→Hp→VK→Prop):Prop:=
 ∀ (pins:List (Addr×Obj)) (s:Shared) (σ:St) (H:Hp) (x:V) (v:Value) (Q:VK),Inv X pins σ H s→RelV x v→r x H Q→
   wpAny (model X.prog X.w) X.A (f v) (EP X pins σ Q) X.xe s
def cU(X:Cx)(f:Value)(r:List V→Hp→VK→Prop):Prop:=
 ∀ (pins:List (Addr×Obj)) (s:Shared) (σ:St) (H:Hp) (xs:List V) (us:List Value) (Q:VK),Inv X pins σ H s→Vals xs us→r xs H Q→
   wpAny (model X.prog X.w) X.A (call f us) (EP X pins σ Q) X.xe s
def CI(X:Cx)(r:V→Hp→(Bool→Hp→Prop)→Prop):Prop:=
 ∀ (pins:List (Addr×Obj)) (s:Shared) (σ:St) (H:Hp) (x:V) (v:Value) (Q:Bool→Hp→Prop),Inv X pins σ H s→RelV x v→r x H Q→
   wpAny (model X.prog X.w) X.A (truthy v) (TP X pins σ Q) X.xe s
def gi(r:R2)(ta tb:TE):TE:=fun σ H Q=>ta σ H fun x H1=>tb σ H1 fun y H2=>r x y H2 Q
def Ec(r:V→Hp→VK→Prop)(ta:TE):TE:=fun σ H Q=>ta σ H fun x H1=>r x H1 Q
def rI(C:Int→Int→Prop)(g:Int→Int→V):R2:=fun x y H Q=>∃i j,x=.int i∧y=.int j∧C i j∧Q (g i j) H
def fk(g:Int→Int→V):R2:=fun x y H Q=>∃i j,x=.int i∧y=.int j∧Q (g i j) H
def rU(g:Int→V):V→Hp→VK→Prop:=fun x H Q=>∃i,x=.int i∧Q (g i) H
section
variable{X:Cx}{a b c:Expr}{ta tb tc:TE}{pos:Pos}
theorem pO(ha:PE X a ta)(hb:PE X b tb){pins:List (Addr×Obj)}{s:Shared}{σ:St}{H:Hp}{R:V→V→Hp→Prop}(I:Inv X pins σ H s)(h:ta σ H fun x H1=>tb σ H1 fun y H2=>R x y H2){Q:Value→Shared→Prop}{f:Value→Value→Sem Value}
 (hf:∀v u s2 x y H2,Inv X pins σ H2 s2→RelV x v→RelV y u→R x y H2→wpAny (model X.prog X.w) X.A (f v u) Q X.xe s2):
 wpAny (model X.prog X.w) X.A (eval a X.env) (fun v s₁=>wpAny (model X.prog X.w) X.A (eval b X.env) (fun u s₂=>wpAny (model X.prog X.w) X.A (f v u) Q X.xe s₂) X.xe s₁) X.xe s:=by
 refine am (ha pins s σ H _ I h) fun v s1 ⟨x,H1,I1,r1,q1⟩=>?_
 refine am (hb pins s1 σ H1 _ I1 q1) fun u s2 ⟨y,H2,I2,r2,q2⟩=>?_
 exact hf v u s2 x y H2 I2 r1 r2 q2
theorem aq{op:Operator}{r:R2}(ho:OpR X (binaryOp op) r)(ha:PE X a ta)(hb:PE X b tb):PE X (.BinOp a op b pos) (gi r ta tb):=by
 intro pins s σ H Q I h
 exact wpAny_BinOp (pO ha hb I h fun v u s2 x y H2 I2 rx ry q=>ho pins s2 σ H2 x y v u Q I2 rx ry q)
theorem gH{op:UnaryOp}{r:V→Hp→VK→Prop}(ho:m7 X (unaryOp op) r)(ha:PE X a ta):PE X (.UnaryOp op a pos) (Ec r ta):=by
 intro pins s σ H Q I h
 exact UnaryOp_ (am (ha pins s σ H _ I h) fun v s1 ⟨x,H1,I1,r1,q1⟩=>ho pins s1 σ H1 x v Q I1 r1 q1)
theorem hV{f:Value→Value→Sem Value}{C:Int→Int→Prop}{g:Int→Int→Int}(rule:∀(i j:Int) (t u:Tok) (s:Shared) (Q:Value→Shared→Prop) (E:Value→Shared→Prop),C i j→Q (.int (g i j) s.toks) {s with toks:=s.toks+1}→wpAny (model X.prog X.w) X.A (f (.int i t) (.int j u)) Q E s):OpR X f (rI C fun i j=>.int (g i j)):=by
 intro pins s σ H x y v u Q I rx ry h
 obtain⟨i,j,rfl,rfl,hc,q⟩:=h
 obtain⟨t,rfl⟩:=rx
 obtain⟨t',rfl⟩:=ry
 exact rule i j t t' s _ _ hc ⟨.int (g i j),H,I.tok _,⟨_,rfl⟩,q⟩
theorem vB{f:Value→Value→Sem Value}{g:Int→Int→Int}(rule:∀(i j:Int) (t u:Tok) (s:Shared) (Q:Value→Shared→Prop) (E:Value→Shared→Prop),Q (.int (g i j) s.toks) {s with toks:=s.toks+1}→wpAny (model X.prog X.w) X.A (f (.int i t) (.int j u)) Q E s):OpR X f (fk fun i j=>.int (g i j)):=by
 intro pins s σ H x y v u Q I rx ry h
 obtain⟨i,j,rfl,rfl,q⟩:=h
 obtain⟨t,rfl⟩:=rx
 obtain⟨t',rfl⟩:=ry
 exact rule i j t t' s _ _ ⟨.int (g i j),H,I.tok _,⟨_,rfl⟩,q⟩
theorem kE{f:Value→Value→Sem Value}{g:Int→Int→Bool}(rule:∀(i j:Int) (t u:Tok) (s:Shared) (Q:Value→Shared→Prop) (E:Value→Shared→Prop),Q (.bool (g i j)) s→wpAny (model X.prog X.w) X.A (f (.int i t) (.int j u)) Q E s):OpR X f (fk fun i j=>.bl (g i j)):=by
 intro pins s σ H x y v u Q I rx ry h
 obtain⟨i,j,rfl,rfl,q⟩:=h
 obtain⟨t,rfl⟩:=rx
 obtain⟨t',rfl⟩:=ry
 exact rule i j t t' s _ _ ⟨.bl (g i j),H,I,rfl,q⟩
def Et(i j:Int):Prop:=0≤j∧j≤1000000∧i.natAbs<2 ^ 64
def CMul(i j:Int):Prop:=(-(2 ^ 64)<i∧i<2 ^ 64)∨(-(2 ^ 64)<j∧j<2 ^ 64)
theorem CMul.ok{i j:Int}(h:CMul i j):IntMulOk i j:=by
 rcases h with⟨h1,h2⟩ | ⟨h1,h2⟩
 ·exact .of_left (intBits_le_64 h1 h2)
 ·exact .of_right (intBits_le_64 h1 h2)
theorem AO(k:Nat):(0:Int)≤2 ^ k:=by
 rw[two_pow_cast]
 exact Int.natCast_nonneg _
theorem bv:OpR X (binaryOp .Add) (fk fun i j=>.int (i+j)):=vB fun _ _ _ _ _ _ _ q=>add_int q
theorem bE:OpR X (binaryOp .Sub) (fk fun i j=>.int (i-j)):=vB fun _ _ _ _ _ _ _ q=>sub_int q
theorem oW:OpR X (binaryOp .Mult) (rI CMul fun i j=>.int (i*j)):=hV fun _ _ _ _ _ _ _ hc q=>mul_int q hc.ok
theorem ib:OpR X (binaryOp .Mod) (rI (fun _ j=>0<j) fun i j=>.int (i % j)):=hV fun i j _ _ _ _ _ hc q=>by
 have h1:(0:Int)<j:=hc
 exact mod_int' (by lia) (by rw[Int.fmod_eq_emod_of_nonneg i (by lia)];exact q)
theorem mG:OpR X (binaryOp .Pow) (rI Et fun i j=>.int (i ^ j.toNat)):=hV fun _ _ _ _ _ _ _ hc q=>pow_int_small hc.1 hc.2.1 hc.2.2 q
theorem wu:OpR X (binaryOp .RShift) (rI (fun _ j=>0≤j) fun i j=>.int (i / 2 ^ j.toNat)):=hV fun i j _ _ _ _ _ hc q=>
 rshift_int hc (by rw[Int.fdiv_eq_ediv_of_nonneg i (AO _)];exact q)
theorem zh{f:Value→Sem Value}{g:Int→Int}(rule:∀(i:Int) (t:Tok) (s:Shared) (Q:Value→Shared→Prop) (E:Value→Shared→Prop),Q (.int (g i) s.toks) {s with toks:=s.toks+1}→wpAny (model X.prog X.w) X.A (f (.int i t)) Q E s):m7 X f (rU fun i=>.int (g i)):=by
 intro pins s σ H x v Q I rx h
 obtain⟨i,rfl,q⟩:=h
 obtain⟨t,rfl⟩:=rx
 exact rule i t s _ _ ⟨.int (g i),H,I.tok _,⟨_,rfl⟩,q⟩
theorem ie:m7 X (unaryOp .USub) (rU fun i=>.int (-i)):=zh fun _ _ _ _ _ q=>neg_int q
end
def ug:V→V→Bool
 | .non,.non=>true | .non,.int _=>true | .int _,.non=>true | .non,.bl _=>true | .bl _,.non=>true | .non,.str _=>true | .str _,.non=>true
 | .int _,.int _=>true | .bl _,.bl _=>true | .str _,.str _=>true | .byt _,.byt _=>true
 | .int _,.str _=>true | .str _,.int _=>true | .bl _,.str _=>true | .str _,.bl _=>true
 | _,_=>false
def Dl:R2:=fun x y H Q=>ug x y=true∧Q (.bl (decide (x=y))) H
def lY:R2:=fun x y H Q=>ug x y=true∧Q (.bl (!decide (x=y))) H
theorem sy{i j:Int}:decide (V.int i=V.int j)=(i == j):=by
 rw[Bool.eq_iff_iff]
 simp
theorem sS{i j:Bool}:decide (V.bl i=V.bl j)=(i == j):=by
 rw[Bool.eq_iff_iff]
 simp
theorem qF{i j:Str}:decide (V.str i=V.str j)=(i == j):=by
 rw[Bool.eq_iff_iff]
 simp
theorem rh{i j:Array UInt8}:decide (V.byt i=V.byt j)=(i.toList == j.toList):=by
 rw[Bool.eq_iff_iff]
 cases i
 cases j
 simp
section
variable{X:Cx}{a b c:Expr}{ta tb tc:TE}{pos:Pos}
theorem bc{pins:List (Addr×Obj)}{σ:St}{H:Hp}{s:Shared}{Q:VK}{k k':Bool}(I:Inv X pins σ H s)(q:Q (.bl k) H)(e:k=k'):EP X pins σ Q (.bool k') s:=by
 subst e
 exact⟨.bl k,H,I,rfl,q⟩
theorem aW:OpR X (compareOp .Eq) Dl:=by
 intro pins s σ H x y v u Q I rx ry h
 obtain⟨hs,q⟩:=h
 cases x with
 | non=>
   cases rx
   cases y with
   | non=>cases ry;exact PySem.EqNone.eq_none_none (bc I q (by simp))
   | bl j=>cases ry;exact PySem.EqNone.eq_none_bool (bc I q (by simp))
   | int j=>obtain⟨t',rfl⟩:=ry;exact PySem.EqNone.eq_none_int (bc I q (by simp))
   | str j=>obtain⟨t',rfl⟩:=ry;exact PySem.EqNone.eq_none_str (bc I q (by simp))
   | _=>exact absurd (show false=true from hs) Bool.false_ne_true
 | bl i=>
   cases rx
   cases y with
   | non=>cases ry;exact PySem.EqNone.eq_bool_none (bc I q (by simp))
   | bl j=>cases ry;exact eq_bool (bc I q sS)
   | str j=>obtain⟨t',rfl⟩:=ry;exact PySem.EqMixed.eq_bool_str (bc I q (by simp))
   | _=>exact absurd (show false=true from hs) Bool.false_ne_true
 | int i=>
   obtain⟨t,rfl⟩:=rx
   cases y with
   | non=>cases ry;exact PySem.EqNone.eq_int_none (bc I q (by simp))
   | int j=>obtain⟨t',rfl⟩:=ry;exact eq_int (bc I q sy)
   | str j=>obtain⟨t',rfl⟩:=ry;exact PySem.EqMixed.eq_int_str (bc I q (by simp))
   | _=>exact absurd (show false=true from hs) Bool.false_ne_true
 | str i=>
   obtain⟨t,rfl⟩:=rx
   cases y with
   | non=>cases ry;exact PySem.EqNone.eq_str_none (bc I q (by simp))
   | bl j=>cases ry;exact PySem.EqMixed.eq_str_bool (bc I q (by simp))
   | int j=>obtain⟨t',rfl⟩:=ry;exact PySem.EqMixed.eq_str_int (bc I q (by simp))
   | str j=>obtain⟨t',rfl⟩:=ry;exact eq_str (bc I q qF)
   | _=>exact absurd (show false=true from hs) Bool.false_ne_true
 | byt i=>
   obtain⟨t,rfl⟩:=rx
   cases y with
   | byt j=>obtain⟨t',rfl⟩:=ry;exact PySem.W.eq_bytes (bc I q rh)
   | _=>exact absurd (show false=true from hs) Bool.false_ne_true
 | _=>cases y <;> exact absurd (show false=true from hs) Bool.false_ne_true
theorem pW:OpR X (compareOp .NotEq) lY:=by
 intro pins s σ H x y v u Q I rx ry h
 obtain⟨hs,q⟩:=h
 cases x with
 | non=>
   cases rx
   cases y with
   | non=>cases ry;exact PySem.EqNone.ne_none_none (bc I q (by simp))
   | bl j=>cases ry;exact PySem.EqNone.ne_none_bool (bc I q (by simp))
   | int j=>obtain⟨t',rfl⟩:=ry;exact PySem.EqNone.ne_none_int (bc I q (by simp))
   | str j=>obtain⟨t',rfl⟩:=ry;exact PySem.EqNone.ne_none_str (bc I q (by simp))
   | _=>exact absurd (show false=true from hs) Bool.false_ne_true
 | bl i=>
   cases rx
   cases y with
   | non=>cases ry;exact PySem.EqNone.ne_bool_none (bc I q (by simp))
   | bl j=>cases ry;exact ne_bool (bc I q (congrArg not sS))
   | str j=>obtain⟨t',rfl⟩:=ry;exact PySem.EqMixed.ne_bool_str (bc I q (by simp))
   | _=>exact absurd (show false=true from hs) Bool.false_ne_true
 | int i=>
   obtain⟨t,rfl⟩:=rx
   cases y with
   | non=>cases ry;exact PySem.EqNone.ne_int_none (bc I q (by simp))
   | int j=>obtain⟨t',rfl⟩:=ry;exact ne_int (bc I q (congrArg not sy))
   | str j=>obtain⟨t',rfl⟩:=ry;exact PySem.EqMixed.ne_int_str (bc I q (by simp))
   | _=>exact absurd (show false=true from hs) Bool.false_ne_true
 | str i=>
   obtain⟨t,rfl⟩:=rx
   cases y with
   | non=>cases ry;exact PySem.EqNone.ne_str_none (bc I q (by simp))
   | bl j=>cases ry;exact PySem.EqMixed.ne_str_bool (bc I q (by simp))
   | int j=>obtain⟨t',rfl⟩:=ry;exact PySem.EqMixed.ne_str_int (bc I q (by simp))
   | str j=>obtain⟨t',rfl⟩:=ry;exact ne_str (bc I q (congrArg not qF))
   | _=>exact absurd (show false=true from hs) Bool.false_ne_true
 | byt i=>
   obtain⟨t,rfl⟩:=rx
   cases y with
   | byt j=>obtain⟨t',rfl⟩:=ry;exact PySem.W.ne_bytes (bc I q (congrArg not rh))
   | _=>exact absurd (show false=true from hs) Bool.false_ne_true
 | _=>cases y <;> exact absurd (show false=true from hs) Bool.false_ne_true
theorem dZ:OpR X (compareOp .Lt) (fk fun i j=>.bl (decide (i<j))):=kE fun _ _ _ _ _ _ _ q=>lt_int q
theorem fU:OpR X (compareOp .LtE) (fk fun i j=>.bl (decide (i≤j))):=kE fun _ _ _ _ _ _ _ q=>le_int q
theorem gM:OpR X (compareOp .Gt) (fk fun i j=>.bl (decide (j<i))):=kE fun _ _ _ _ _ _ _ q=>gt_int q
theorem rp:OpR X (compareOp .GtE) (fk fun i j=>.bl (decide (j≤i))):=kE fun _ _ _ _ _ _ _ q=>ge_int q
theorem g0:OpR X (compareOp .Is) (fun x y H Q=>y=.non∧Q (.bl (decide (x=.non))) H):=by
 intro pins s σ H x y v u Q I rx ry h
 obtain⟨rfl,q⟩:=h
 cases ry
 refine is_none_gen (bc I q ?_)
 cases x <;> first
  | (cases rx;rfl)
  | (obtain⟨t,rfl⟩:=rx;rfl)
theorem aB(b:Expr){op:CmpOp}(h:op≠ .In:=by decide)(h2:op≠ .NotIn:=by decide):behindInMarks op b=false:=by
 have e1:(op == CmpOp.In)=false:=by cases op <;> first | rfl | exact absurd rfl h
 have e2:(op == CmpOp.NotIn)=false:=by cases op <;> first | rfl | exact absurd rfl h2
 cases b <;> simp[behindInMarks,e1,e2]
theorem eh{op:CmpOp}{r:R2}(ho:OpR X (compareOp op) r)(ha:PE X a ta)(hb:PE X b tb)(hm:behindInMarks op b=false):PE X (.Compare a [op] [b] pos) (gi r ta tb):=by
 intro pins s σ H Q I h
 exact wpAny_Compare1 (pO ha hb I h fun v u s2 x y H2 I2 rx ry q=>ho pins s2 σ H2 x y v u Q I2 rx ry q) hm
def tK(t:TE):TT:=fun σ H Q=>t σ H fun x H'=>∃k,x=.bl k∧Q k H'
theorem aC{op:CmpOp}{r:R2}(ho:OpR X (compareOp op) r)(ha:PE X a ta)(hb:PE X b tb)(hm:behindInMarks op b=false):PT X (.Compare a [op] [b] pos) (tK (gi r ta tb)):=by
 intro pins s σ H Q I h
 refine wpAny_isTrue_Compare1 (am (ha pins s σ H _ I h) fun v s1 ⟨x,H1,I1,r1,q1⟩=>am (hb pins s1 σ H1 _ I1 q1) fun u s2 ⟨y,H2,I2,r2,q2⟩=>
  am (ho pins s2 σ H2 x y v u _ I2 r1 r2 q2) fun c s3 ⟨z,H3,I3,r3,k,e,q3⟩=>?_) hm
 subst e
 cases r3
 exact wpAny_truthy_bool ⟨H3,I3,q3⟩
def rE(r r':R2)(ta tb tc:TE):TE:=fun σ H Q=>ta σ H fun x H1=>tb σ H1 fun y H2=>r x y H2 fun z H3=>∃k,z=.bl k∧
 (if k=true then tc σ H3 fun w' H4=>r' y w' H4 Q else Q (.bl false) H3)
theorem me{op op':CmpOp}{r r':R2}(ho:OpR X (compareOp op) r)(ho':OpR X (compareOp op') r')(ha:PE X a ta)(hb:PE X b tb)(hc:PE X c tc)(hm:lastMarks [op,op'] [b,c]=false:=by with_unfolding_all rfl):PE X (.Compare a [op,op'] [b,c] pos) (rE r r' ta tb tc):=by
 intro pins s σ H Q I h
 refine Compare_chain (am (ha pins s σ H _ I h) fun v s1 ⟨x,H1,I1,r1,q1⟩=>chain_link (am (hb pins s1 σ H1 _ I1 q1) fun u s2 ⟨y,H2,I2,r2,q2⟩=>
  am (ho pins s2 σ H2 x y v u _ I2 r1 r2 q2) fun d s3 ⟨z,H3,I3,r3,k,e,q3⟩=>?_)) hm
 subst e
 cases r3
 refine wpAny_truthy_bool ?_
 cases k with
 | false=>exact ite_ff ⟨.bl false,H3,I3,rfl,q3⟩
 | true=>exact ite_tt (chain_last (am (hc pins s3 σ H3 _ I3 q3) fun w' s4 ⟨z',H4,I4,r4,q4⟩=>ho' pins s4 σ H4 y z' u w' Q I4 r2 r4 q4))
theorem jV{op op':CmpOp}{r r':R2}(ho:OpR X (compareOp op) r)(ho':OpR X (compareOp op') r')(ha:PE X a ta)(hb:PE X b tb)(hc:PE X c tc)(hm:lastMarks [op,op'] [b,c]=false:=by with_unfolding_all rfl):PT X (.Compare a [op,op'] [b,c] pos) (tK (rE r r' ta tb tc)):=by
 intro pins s σ H Q I h
 refine isTrue_chain (am (ha pins s σ H _ I h) fun v s1 ⟨x,H1,I1,r1,q1⟩=>test_link (am (hb pins s1 σ H1 _ I1 q1) fun u s2 ⟨y,H2,I2,r2,q2⟩=>
  am (ho pins s2 σ H2 x y v u _ I2 r1 r2 q2) fun d s3 ⟨z,H3,I3,r3,k,e,q3⟩=>?_)) hm
 subst e
 cases r3
 refine wpAny_truthy_bool ?_
 cases k with
 | false=>
   obtain⟨k',e',q'⟩:=q3
   cases e'
   exact ite_ff ⟨H3,I3,q'⟩
 | true=>
   refine ite_tt (test_last (am (hc pins s3 σ H3 _ I3 q3) fun w' s4 ⟨z',H4,I4,r4,q4⟩=>am (ho' pins s4 σ H4 y z' u w' _ I4 r2 r4 q4) fun d' s5 ⟨z2,H5,I5,r5,k2,e2,q5⟩=>?_))
   subst e2
   cases r5
   exact wpAny_truthy_bool ⟨H5,I5,q5⟩
def qV(K:PySem.W.Frag)(x:V)(H:Hp)(k:Bool):Prop:=
 match x with
 | .non=>k=false
 | .bl b=>k=b
 | .int i=>k=(i != 0)
 | .str y=>y.length≤sizeLine∧k=((y.length:Int) != 0)
 | .byt y=>y.size≤sizeLine∧k=((y.size:Int) != 0)
 | .ref p=>(∃xs,SqL K H p xs∧k= !xs.isEmpty)∨(∃xs,SqT K H p xs∧k= !xs.isEmpty)∨∃kvs,H p=some (.dK kvs)∧k= !kvs.isEmpty
 | _=>False
theorem AG{κ:Type}{kvs:List (κ×V)}{vs:List (κ×Value)}(r:KV kvs vs):(!vs.isEmpty)= !kvs.isEmpty:=by
 cases r <;> rfl
theorem tH{xs:List V}{its:List Value}(r:Vals xs its):(!its.toArray.isEmpty)= !xs.isEmpty:=by
 cases r <;> simp
theorem gu:(sizeLine:Nat)<2 ^ 63:=by rw[sizeLine_eq];decide
theorem zt:CI X (fun x H Q=>∃k,qV X.K x H k∧Q k H):=by
 intro pins s σ H x v Q I rx h
 obtain⟨k,e,q⟩:=h
 have hl:=gu
 have hs:sizeLine=16777216:=sizeLine_eq
 cases x with
 | non=>
   cases rx
   have e':k=false:=e
   subst e'
   exact truthy_none ⟨H,I,q⟩
 | bl b=>
   cases rx
   have e':k=b:=e
   subst e'
   exact wpAny_truthy_bool ⟨H,I,q⟩
 | int i=>
   obtain⟨t,rfl⟩:=rx
   have e':k=(i != 0):=e
   subst e'
   exact PySem.P.truthy_int ⟨H,I,q⟩
 | str y=>
   obtain⟨t,rfl⟩:=rx
   obtain⟨hy,e'⟩:y.length≤sizeLine∧k=((y.length:Int) != 0):=e
   subst e'
   exact PySem.P.truthy_str (by lia) ⟨H,I.tok _,q⟩
 | byt y=>
   obtain⟨t,rfl⟩:=rx
   obtain⟨hy,e'⟩:y.size≤sizeLine∧k=((y.size:Int) != 0):=e
   subst e'
   exact PySem.W.truthy_bytes (by lia) ⟨H,I.tok _,q⟩
 | ref p=>
   cases rx
   have e':(∃xs,SqL X.K H p xs∧k= !xs.isEmpty)∨(∃xs,SqT X.K H p xs∧k= !xs.isEmpty)∨∃kvs,H p=some (.dK kvs)∧k= !kvs.isEmpty:=e
   rcases e' with⟨xs,hx,e'⟩ | ⟨xs,hx,e'⟩ | ⟨kvs,hx,e'⟩
   ·subst e'
    obtain⟨its,r,pl,hz⟩:=I.list hx
    have hlen:=r.length
    exact wpAny_truthy_list pl.isList (by simp only[List.size_toArray];lia) ⟨H,I.tok _,by rw[tH r];exact q⟩
   ·subst e'
    obtain⟨its,r,pl,hz⟩:=I.tuple hx
    have hlen:=r.length
    exact truthy_tuple pl (by simp only[List.size_toArray];lia) ⟨H,I.tok _,by rw[tH r];exact q⟩
   ·subst e'
    obtain⟨hz,hS,vs,r,m⟩:kvs.length≤sizeLine∧(p == sysModules)=false∧∃vs,KV kvs vs∧s.heap.DictOf (bQ X.prog X.w) p vs:=I.hok p _ hx
    have hlen:kvs.length=vs.length:=Paired.length r
    exact wpAny_truthy_dict hS m (by lia) ⟨H,I.tok _,by rw[AG r];exact q⟩
 | _=>exact(show False from e).elim
theorem pH(ha:PE X a ta)(he:∀whole,isTrue a X.env whole=(do let v←whole;standAt a.pos;holding [v] (truthy v))):
 PT X a (fun σ H Q=>ta σ H fun x H'=>∃k,qV X.K x H' k∧Q k H'):=by
 intro pins s σ H Q I h
 exact isTrue_plain (am (ha pins s σ H _ I h) fun v s1 ⟨x,H1,I1,r1,q1⟩=>zt pins s1 σ H1 x v Q I1 r1 q1) (he _)
theorem df:OpR X (binaryOp .Add) (fun x y H Q=>∃i j,x=.str i∧y=.str j∧i.length+j.length≤sizeLine∧Q (.str (i++j)) H):=by
 intro pins s σ H x y v u Q I rx ry h
 obtain⟨i,j,rfl,rfl,hz,q⟩:=h
 obtain⟨t,rfl⟩:=rx
 obtain⟨t',rfl⟩:=ry
 exact add_str (fun t' tk=>⟨.str (i++j),H,I.tok _,⟨_,rfl⟩,q⟩) hz
theorem eS{x:V}{us:List Value}(r:Vals [x] us):∃u,us=[u]∧RelV x u:=by
 cases r with
 | cons r1 r2=>cases r2;exact⟨_,rfl,r1⟩
theorem nL{x y:V}{us:List Value}(r:Vals [x,y] us):∃u w',us=[u,w']∧RelV x u∧RelV y w':=by
 cases r with
 | cons r1 r2=>
   cases r2 with
   | cons r3 r4=>cases r4;exact⟨_,_,rfl,r1,r3⟩
theorem AT(hc:X.calm=true):cU X (.builtin "max") (fun xs H Q=>∃i j,xs=[.int i,.int j]∧Q (.int (if j>i then j else i)) H):=by
 intro pins s σ H xs us Q I r h
 obtain⟨i,j,rfl,q⟩:=h
 obtain⟨u,w',rfl,⟨t,rfl⟩,⟨t',rfl⟩⟩:=nL r
 refine max_two_ints (I.ok.hd hc) fun h' tk k=>⟨_,H,I.kept k,?_,q⟩
 by_cases hj:j>i
 ·rw[if_pos hj,if_pos hj];exact⟨_,rfl⟩
 ·rw[if_neg hj,if_neg hj];exact⟨_,rfl⟩
theorem xr(hc:X.calm=true):cU X (.builtin "min") (fun xs H Q=>∃i j,xs=[.int i,.int j]∧Q (.int (if j<i then j else i)) H):=by
 intro pins s σ H xs us Q I r h
 obtain⟨i,j,rfl,q⟩:=h
 obtain⟨u,w',rfl,⟨t,rfl⟩,⟨t',rfl⟩⟩:=nL r
 refine min_two_ints (I.ok.hd hc) fun h' tk k=>⟨_,H,I.kept k,?_,q⟩
 by_cases hj:j<i
 ·rw[if_pos hj,if_pos hj];exact⟨_,rfl⟩
 ·rw[if_neg hj,if_neg hj];exact⟨_,rfl⟩
theorem zB:cU X (.type "int") (fun xs H Q=>(∃i,xs=[.int i]∧Q (.int i) H)∨∃k,xs=[.bl k]∧Q (.int (if k then 1 else 0)) H):=by
 intro pins s σ H xs us Q I r h
 rcases h with⟨i,rfl,q⟩ | ⟨k,rfl,q⟩
 ·obtain⟨u,rfl,t,rfl⟩:=eS r
  exact call_int_int ⟨.int i,H,I,⟨_,rfl⟩,q⟩
 ·obtain⟨u,rfl,r1⟩:=eS r
  cases r1
  exact call_int_bool ⟨.int (if k then 1 else 0),H,I.tok _,⟨_,rfl⟩,q⟩
end
structure ObjM(h:Heap)(x dx C:Addr)(mA:Str→Option Value):Prop where
 obj:h.get? x=some (PySem.W.instObj C dx)
 ns:h.Ns1 dx mA
 ne:dx≠x
theorem DY{h:Heap}{dx:Addr}{mA:Str→Option Value}(n:h.Ns1 dx mA):∃od,h.get? dx=some od∧∀name,PySem.W.lookIn name od=some (mA name):=by
 obtain⟨o,es,ep,ho,hd,hk,_,hm⟩:=n
 refine⟨o,ho,fun name=>?_⟩
 have e:=hm name
 unfold nsFind findBy at e
 rw[←Array.find?_toList] at e
 unfold PySem.W.lookIn
 rw[hd]
 dsimp only
 split
 ·rename_i y q
  rw[q] at e
  exact congrArg some e
 ·rename_i q
  rw[q] at e
  have a:es.toList.any (·.refKey)=false:=by
   rw[List.any_eq_false]
   intro y hy
   obtain⟨z,t,hkey⟩:=hk y (Array.mem_toList_iff.mp hy)
   simp[DictEntry.refKey,hkey]
  have a':¬es.toList.any (·.refKey)=true:=by rw[a];exact Bool.false_ne_true
  rw[if_neg a']
  exact congrArg some e
theorem ObjM.look{h:Heap}{x dx C:Addr}{mA:Str→Option Value}(I:ObjM h x dx C mA):∃od,PySem.W.InstAt h x (PySem.W.instObj C dx) C (some od)∧∀name,PySem.W.lookIn name od=some (mA name):=
 let ⟨od,ho,hl⟩:=DY I.ns
 ⟨od,⟨I.obj,rfl,rfl,ho⟩,hl⟩
section
variable{prog:Program}{w:World}{A:Around}{E:Value→Shared→Prop}{s:Shared}{K:PySem.W.Frag}{x dx C f:Addr}{mA:Str→Option Value}{name:Str}{v:Value}
theorem AY{expr:Bool}{Q:Value→Shared→Prop}(X:K.In s.heap)(I:ObjM s.heap x dx C mA)(hg:PySem.W.plainGet K C name=true)(hh:PySem.W.hasDictIn K C=true)(ha:PySem.W.findIn K (.ref C) name=some none)(hv:mA name=some v)(hv':PySem.W.handedIn v=true)(h:Q v {s with toks:=s.toks+1}):wpAny (model prog w) A (getAttr (.ref x) name expr) Q E s:=by
 obtain⟨od,J,hl⟩:=I.look
 exact PySem.W.get_value X J (PySem.W.plainGet_of hg).1 (PySem.W.findObj_own hh ha rfl (by rw[hl,hv])) hv' h
theorem yW{pl:Sem Bool}{Q:Value×List Value→Shared→Prop}(X:K.In s.heap)(I:ObjM s.heap x dx C mA)(hg:PySem.W.plainGet K C name=true)(hf:PySem.W.findIn K (.ref C) name=some (some (.ref f)))(ht:PySem.W.isFn K (.ref f)=true)(hv:mA name=none)(h:Q (.ref f,[.ref x]) s):wpAny (model prog w) A (getMethod (.ref x) name pl) Q E s:=by
 obtain⟨od,J,hl⟩:=I.look
 exact PySem.W.method_fn X J (PySem.W.plainGet_of hg).1 (PySem.W.plainGet_of hg).2 hf (beq_iff_eq.mp ht) (by show(PySem.W.lookIn name od).map (·.isSome)=some false;rw[hl,hv];rfl) h
theorem DN{ns:List Str}{Q:Unit→Shared→Prop}(X:K.In s.heap)(I:ObjM s.heap x dx C mA)(hs:PySem.W.findIn K (.ref C) "__setattr__"=some (some (.builtin "object.__setattr__")))(hp:PySem.W.plainOver K C=true)(ht:PySem.W.takerIn K C name=some none)(hh:PySem.W.hasDictIn K C=true)(hw:PySem.Within mA ns)(hsz:ns.length≤sizeLine)(h:∀h',ObjM h' x dx C (fun y=>if y=name then some v else mA y)→Heap.SameBut dx s.heap h'→Q () {s with heap:=h',toks:=s.toks+2}):
 wpAny (model prog w) A (setAttr (.ref x) name v) Q E s:=by
 obtain⟨od,J,hl⟩:=I.look
 refine PySem.W.set_plain X J hs (PySem.W.osa_open (s:={s with toks:=s.toks+1}) (r:=none) X J hp ht fun b=>?_)
 obtain⟨cd,hc,hd'⟩:=PySem.W.any_some hh
 have hx:s.heap.get? x=some ⟨.ref C,some dx,.plain,#[]⟩:=I.obj
 refine wpAny_bind (wpAny_pure (wpAny_bind (wpAny_bind (wpAny_loadPart hx (wpAny_bind (PySem.W.Looks.here (s:={s with toks:=s.toks+1}) (PySem.W.looks_clsIn X hc) ?_))))))
 rw[hd']
 refine wpAny_pure (a:=some dx) (wpAny_bind (wpAny_pure (wpAny_bind ?_)))
 refine wpAny_nsSet1 (s:={s with toks:=s.toks+1}) I.ns fun h' hn2 hs2=>?_
 obtain⟨oD,esD,epD,hoD,hdD,hcD⟩:=hn2.count (PySem.Within.cons name v hw)
 refine wpAny_bind (wpAny_lookBehind hoD (by rw[hdD];exact pastItsLine_dict (Nat.le_trans hcD (by rw[List.length_cons];lia))) ?_)
 exact wpAny_pure (h _ ⟨(hs2.2 _ (Ne.symm I.ne)).trans I.obj,hn2,I.ne⟩ hs2)
theorem x6{R:Result→Shared→Prop}{vs:List Value}{kw:List (Str×Value)}(X:K.In s.heap)(hm:PySem.W.makesIn K C=true)(hi:PySem.W.findIn K (.ref C) "__init__"=some (some (.ref f)))(hf:PySem.W.typeIn K (.ref f)=some (.type "function"))(h:codeAny (model prog w) (A.under (.builtin "type.__call__" ⟨.ref C::vs,kw⟩)) (.call (.ref f) ⟨.ref (s.heap.objs.size+1)::vs,kw⟩) (PySem.W.InitBack (s.heap.objs.size+1) R) {s with heap:=(s.heap.push PySem.W.emptyDict).push (PySem.W.instObj C s.heap.objs.size)}):codeAny (model prog w) A (.call (.ref C) ⟨vs,kw⟩) R s:=by
 obtain⟨hh,g,d,t,os⟩:=s
 exact PySem.W.make_core (PySem.W.makes_of X hm) (PySem.W.looks_findIn X hi) (fun self=>PySem.W.bind_fn X self hf) (.inl rfl) h
end
def bJ(f:Str)(v:V):List (Str×V)→List (Str×V)
 | []=>[(f,v)]
 | (g,x)::r=>if g=f then(g,v)::r else(g,x)::bJ f v r
theorem fZ(f g:Str)(v:V):∀fs:List (Str×V),(bJ f v fs).lookup g=if g=f then some v else fs.lookup g
 | []=>by
   show List.lookup g [(f,v)]=_
   by_cases h:g=f
   ·have hb:(g == f)=true:=beq_iff_eq.mpr h
    simp only[List.lookup,hb,if_pos h]
   ·have hb:(g == f)=false:=beq_eq_false_iff_ne.mpr h
    simp only[List.lookup,hb,if_neg h]
 | (k,x)::r=>by
   have ih:=fZ f g v r
   rw[show bJ f v ((k,x)::r)=(if k=f then(k,v)::r else(k,x)::bJ f v r) from rfl]
   by_cases hk:k=f
   ·rw[if_pos hk]
    by_cases h:g=k
    ·have hb:(g == k)=true:=beq_iff_eq.mpr h
     simp only[List.lookup,hb,if_pos (h.trans hk)]
    ·have hb:(g == k)=false:=beq_eq_false_iff_ne.mpr h
     simp only[List.lookup,hb,if_neg (fun e:g=f=>h (e.trans hk.symm))]
   ·rw[if_neg hk]
    by_cases h:g=k
    ·have hb:(g == k)=true:=beq_iff_eq.mpr h
     simp only[List.lookup,hb,if_neg (fun e:g=f=>hk (h.symm.trans e))]
    ·have hb:(g == k)=false:=beq_eq_false_iff_ne.mpr h
     simp only[List.lookup,hb]
     exact ih
theorem mJ(f:Str)(v:V):∀fs:List (Str×V),f∈(bJ f v fs).map (·.1)∧∀g,g∈fs.map (·.1)→g∈(bJ f v fs).map (·.1)
 | []=>⟨by simp[bJ],fun g h=>by simp at h⟩
 | (k,x)::r=>by
   obtain⟨i1,i2⟩:=mJ f v r
   rw[show bJ f v ((k,x)::r)=(if k=f then(k,v)::r else(k,x)::bJ f v r) from rfl]
   by_cases hk:k=f
   ·rw[if_pos hk]
    subst hk
    exact⟨by simp,fun g h=>by simpa using h⟩
   ·rw[if_neg hk]
    refine⟨?_,fun g h=>?_⟩
    ·rw[List.map_cons]
     exact List.mem_cons_of_mem _ i1
    ·rw[List.map_cons] at h ⊢
     rcases List.mem_cons.mp h with e | e
     ·exact List.mem_cons.mpr (.inl e)
     ·exact List.mem_cons_of_mem _ (i2 g e)
theorem uI(f:Str)(v:V):∀fs:List (Str×V),(bJ f v fs).length≤fs.length+1
 | []=>by simp[bJ]
 | (k,x)::r=>by
   have ih:=uI f v r
   rw[show bJ f v ((k,x)::r)=(if k=f then(k,v)::r else(k,x)::bJ f v r) from rfl]
   by_cases hk:k=f
   ·rw[if_pos hk,List.length_cons,List.length_cons];lia
   ·rw[if_neg hk,List.length_cons,List.length_cons];lia
theorem RelO.some_of{v:V}{o:Option Value}(r:RelO (some v) o):∃u,o=some u∧RelV v u:=by
 cases o with
 | none=>exact(show False from r).elim
 | some u=>exact⟨u,rfl,r⟩
theorem RelO.none_of{o:Option Value}(r:RelO none o):o=none:=by
 cases o with
 | none=>rfl
 | some u=>exact(show False from r).elim
theorem C8{v:V}{u:Value}(r:RelV v u):PySem.W.handedIn u=true:=by
 cases v with
 | non=>cases(show u=Value.none from r);rfl
 | bl b=>cases(show u=Value.bool b from r);rfl
 | int i=>obtain⟨t,e⟩:=(show∃t,u=Value.int i t from r);cases e;rfl
 | str x=>obtain⟨t,e⟩:=(show∃t,u=Value.str x t from r);cases e;rfl
 | byt b=>obtain⟨t,e⟩:=(show∃t,u=Value.bytes b t from r);cases e;rfl
 | flt b=>obtain⟨t,e⟩:=(show∃t,u=Value.float b t from r);cases e;rfl
 | ref a=>cases(show u=Value.ref a from r);rfl
 | ty n=>cases(show u=Value.type n from r);rfl
section
variable{P:Program}{w:World}{H H':Hp}{h h':Heap}{a C dx:Addr}{fs fs':List (Str×V)}
theorem lv(hok:HOk P w H h)(e:H a=some (.ins C dx fs)):∃mA,ObjM h a dx C mA∧(∀f,RelO (fs.lookup f) (mA f))∧PySem.Within mA (fs.map (·.1))∧fs.length≤1000∧H dx=some (.own a):=by
 obtain⟨d,z,ne,ob,mA,n,r,q⟩:=(show ObjOk P w H h a (.ins C dx fs) from hok a _ e)
 exact⟨mA,⟨ob,n,ne⟩,r,q,z,d⟩
end
structure Cls(K:PySem.W.Frag)(C:Addr):Prop where
 pg:PySem.W.plainGet K C Str.empty=true
 hd:PySem.W.hasDictIn K C=true
 po:PySem.W.plainOver K C=true
 sa:PySem.W.findIn K (.ref C) "__setattr__"=some (some (.builtin "object.__setattr__"))
theorem Cls.get{K:PySem.W.Frag}{C:Addr}(c:Cls K C)(f:Str):PySem.W.plainGet K C f=true:=c.pg
def NoAttr(K:PySem.W.Frag)(C:Addr)(f:Str):Prop:=PySem.W.findIn K (.ref C) f=some none
theorem NoAttr.taker{K:PySem.W.Frag}{C:Addr}{f:Str}(n:NoAttr K C f):PySem.W.takerIn K C f=some none:=by
 unfold PySem.W.takerIn
 rw[show PySem.W.findIn K (.ref C) f=some none from n]
 rfl
structure Con(K:PySem.W.Frag)(C:Addr)(f:Str)(v:V)(u:Value):Prop where
 at_:PySem.W.findIn K (.ref C) f=some (some u)
 rel:RelV v u
 get:PySem.W.specialIn K u "__get__"=some none
 cp:PySem.W.copiedNames.contains f=false
structure Meth(K:PySem.W.Frag)(C:Addr)(m:Str)(f:Addr):Prop where
 at_:PySem.W.findIn K (.ref C) m=some (some (.ref f))
 fn:PySem.W.isFn K (.ref f)=true
 kp:PySem.W.keepIn K (.ref f)=true
section
variable{X:Cx}{pins:List (Addr×Obj)}{σ:St}{H:Hp}{s:Shared}{a C dx:Addr}{fs:List (Str×V)}{f:Str}{v:V}{A:Around}{E:Value→Shared→Prop}
theorem Ey{b:Bool}{Q:Value→Shared→Prop}(I:Inv X pins σ H s)(e:H a=some (.ins C dx fs))(c:Cls X.K C)(n:NoAttr X.K C f)(l:fs.lookup f=some v)(h:∀u s',Inv X pins σ H s'→RelV v u→Q u s'):wpAny (model X.prog X.w) A (getAttr (.ref a) f b) Q E s:=by
 obtain⟨mA,O,r,_,_,_⟩:=lv I.hok e
 obtain⟨u,hu,ru⟩:=RelO.some_of (v:=v) (o:=mA f) (by rw[←l];exact r f)
 exact AY I.kIn O (c.get f) c.hd n hu (C8 ru) (h u _ (I.tok _) ru)
theorem lR{m:Str}{g:Addr}{pl:Sem Bool}{Q:Value×List Value→Shared→Prop}(I:Inv X pins σ H s)(e:H a=some (.ins C dx fs))(c:Cls X.K C)(k:Meth X.K C m g)(l:fs.lookup m=none)(h:Q (.ref g,[.ref a]) s):wpAny (model X.prog X.w) A (getMethod (.ref a) m pl) Q E s:=by
 obtain⟨mA,O,r,_,_,_⟩:=lv I.hok e
 have hn:mA m=none:=RelO.none_of (by rw[←l];exact r m)
 exact yW I.kIn O (c.get m) k.at_ k.fn hn h
theorem B4{y:V}{u:Value}{Q:Unit→Shared→Prop}(I:Inv X pins σ H s)(e:H a=some (.ins C dx fs))(c:Cls X.K C)(n:NoAttr X.K C f)(hl:fs.length<1000)(ry:RelV y u)(h:∀s',Inv X pins σ (upd H a (.ins C dx (bJ f y fs))) s'→Q () s'):wpAny (model X.prog X.w) A (setAttr (.ref a) f u) Q E s:=by
 obtain⟨mA,O,r,wi,_,ho⟩:=lv I.hok e
 have hz:(fs.map (·.1)).length≤sizeLine:=by rw[List.length_map,sizeLine_eq];lia
 refine DN I.kIn O c.sa c.po n.taker c.hd wi hz fun h' O' sb=>h _ ?_
 have hd:∃o,h'.get? dx=some o:=let ⟨o,_,_,e',_⟩:=O'.ns;⟨o,e'⟩
 refine I.write (x:=a) (e:=dx) (by rw[e];exact True.intro) (.inr ho) (fun b q hb z=>(sb.2 b hb).trans z) hd ?_
 refine⟨by rw[ap O.ne];exact ho,?_,O.ne,O'.obj,_,O'.ns,fun g=>?_,fun g hg=>?_⟩
 ·have:=uI f y fs;lia
 ·show RelO ((bJ f y fs).lookup g) (if g=f then some u else mA g)
  rw[fZ]
  by_cases q:g=f
  ·rw[if_pos q,if_pos q];exact ry
  ·rw[if_neg q,if_neg q];exact r g
 ·by_cases q:g=f
  ·rw[q];exact(mJ f y fs).1
  ·refine(mJ f y fs).2 g (wi g fun z=>hg ?_)
   show(if g=f then some u else mA g)=none
   rw[if_neg q];exact z
theorem Inv.made(I:Inv X pins σ H s):Inv X pins σ (upd (upd H s.heap.objs.size (.own (s.heap.objs.size+1))) (s.heap.objs.size+1) (.ins C s.heap.objs.size [])) {s with heap:=(s.heap.push PySem.W.emptyDict).push (PySem.W.instObj C s.heap.objs.size)}:=by
 have e1:(s.heap.push PySem.W.emptyDict).get? s.heap.objs.size=some PySem.W.emptyDict:=Heap.get?_push_size s.heap rfl
 have e2:((s.heap.push PySem.W.emptyDict).push (PySem.W.instObj C s.heap.objs.size)).get? (s.heap.objs.size+1)=some (PySem.W.instObj C s.heap.objs.size):=by
  have:=Heap.get?_push_size (s.heap.push PySem.W.emptyDict) (o:=PySem.W.instObj C s.heap.objs.size) rfl
  rwa[Heap.size_push] at this
 have e3:(s.heap.push PySem.W.emptyDict).Ns s.heap.objs.size (fun _=>none):=⟨PySem.W.emptyDict,#[],_,e1,rfl,(fun e he=>absurd he (by simp)),fun _=>rfl⟩
 have I1:=I.laid (a:=s.heap.objs.size) (o:=.own (s.heap.objs.size+1)) (h':=s.heap.push PySem.W.emptyDict) (t':=s.toks) (fun b u q=>Heap.get?_push_of_some _ q) (Nat.le_refl _) ⟨_,e1⟩
 refine I1.laid (a:=s.heap.objs.size+1) (o:=.ins C s.heap.objs.size []) (t':=s.toks) (fun b u q=>Heap.get?_push_of_some _ q) (Nat.le_of_eq (Heap.size_push _ _)) ?_
 have ne:s.heap.objs.size≠s.heap.objs.size+1:=Nat.ne_of_lt (Nat.lt_succ_self _)
 refine⟨by rw[ap ne,ag],Nat.zero_le _,ne,e2,fun _=>none,(Heap.Ns1.of_empty e3).at fun o q=>Heap.get?_push_of_some _ q,fun _=>True.intro,fun y hy=>absurd rfl hy⟩
theorem Di{prog:Program}{w:World}{env:Env}{e:Expr}{f:Str}{pos:Pos}{s:Shared}{Q:Value→Shared→Prop}(hb:attributeBase e f env (eval e env)=eval e env)(h:wpAny (model prog w) A (eval e env) (fun o s₁=>wpAny (model prog w) A (getAttr o f true) Q E s₁) E s):wpAny (model prog w) A (eval (.Attribute e f pos) env) Q E s:=
 Attribute_any_ h (by rw[arm_eval_Attribute,hb])
end
def Cc(K:PySem.W.Frag)(ta:TE)(f:Str):TE:=fun σ H Q=>ta σ H fun x H1=>∃a C dx fs v,x=.ref a∧H1 a=some (.ins C dx fs)∧Cls K C∧NoAttr K C f∧fs.lookup f=some v∧Q v H1
def EE(K:PySem.W.Frag)(ta tv:TE)(f:Str):TS:=fun D σ H=>tv σ H fun y H1=>ta σ H1 fun x H2=>∃a C dx fs,x=.ref a∧H2 a=some (.ins C dx fs)∧Cls K C∧NoAttr K C f∧fs.length<1000∧
 D.nx σ (upd H2 a (.ins C dx (bJ f y fs)))
section
variable{X:Cx}{o e value:Expr}{f:Str}{pos pos' tpos:Pos}{ta tv:TE}
theorem ij(he:PE X e ta)(hb:attributeBase e f X.env (eval e X.env)=eval e X.env):PE X (.Attribute e f pos) (Cc X.K ta f):=by
 intro pins s σ H Q I h
 refine Di hb (am (he pins s σ H _ I h) fun u s1 ⟨x,H1,I1,rx,a,C,dx,fs,v,ex,ea,c,n,l,q⟩=>?_)
 subst ex
 obtain rfl:u=Value.ref a:=rx
 exact Ey I1 ea c n l fun u' s2 I2 ru=>⟨v,H1,I2,ru,q⟩
theorem lL(ha:PE X o ta)(hv:PE X value tv)(hs:swapsWith value (some (.Attribute o f pos')) pos.line X.env=pure false):PS X (.Assign [.Attribute o f pos'] value pos) (EE X.K ta tv f):=by
 intro pins s σ H D I h
 refine plainObj_wpAny_Assign_Attribute (am (hv pins s σ H _ I h) fun u s1 ⟨y,H1,I1,ry,q⟩=>am (ha pins s1 σ H1 _ I1 q) fun ov s2 ⟨x,H2,I2,rx,a,C,dx,fs,ex,ea,c,n,l,q2⟩=>?_) hs
 subst ex
 obtain rfl:ov=Value.ref a:=rx
 exact B4 I2 ea c n l ry fun s3 I3=>⟨σ,_,I3,q2⟩
end
section
variable{X:Cx}{pins:List (Addr×Obj)}{σ:St}{H:Hp}{s:Shared}{A:Around}{E:Value→Shared→Prop}{Q:Value→Shared→Prop}{c:Value}{b:Bool}
inductive TyOf (K:PySem.W.Frag) (H:Hp):V→Value→Prop where
 | non:TyOf K H .non (.type "NoneType")
 | bl (x:Bool):TyOf K H (.bl x) (.type "bool")
 | int (i:Int):TyOf K H (.int i) (.type "int")
 | str (x:Str):TyOf K H (.str x) (.type "str")
 | flt (x:UInt64):TyOf K H (.flt x) (.type "float")
 | lst {a:Addr} {xs:List V} (e:H a=some (.lst xs)):TyOf K H (.ref a) (.type "list")
 | frz {a:Addr} {o:Obj} {xs:List V} (e:H a=some (.frz o (.lst xs))):TyOf K H (.ref a) (.type "list")
 | tup {a:Addr} {xs:List V} (e:H a=some (.tup xs)):TyOf K H (.ref a) (.type "tuple")
 | dK {a:Addr} {kvs:List (az×V)} (e:H a=some (.dK kvs)):TyOf K H (.ref a) (.type "dict")
 | dT {a:Addr} {kvs:List (List az×V)} (e:H a=some (.dT kvs)):TyOf K H (.ref a) (.type "dict")
 | ins {a C dx:Addr} {fs:List (Str×V)} (e:H a=some (.ins C dx fs)) (cl:Cls K C) (ha:PySem.W.findIn K (.ref C) "__class__"=some (some (.builtin "object.__class__")))
  (hn:PySem.W.specialIn K (.builtin "object.__class__") "__get__"=some (some (.builtin "getset_descriptor.__get__"))) (htk:PySem.W.takesIn K (.builtin "object.__class__")=some true)
  (hm:PySem.W.mroIn K C (.type "object")=some true):TyOf K H (.ref a) (.ref C)
theorem Bq{x:V}{u t:Value}(I:Inv X pins σ H s)(rx:RelV x u)(ty:TyOf X.K H x t)(e:PySem.W.kitOne X.K t c=some b)(h:∀tk,Q (.bool b) {s with toks:=tk}):wpAny (model X.prog X.w) A (call (.builtin "isinstance") [u,c]) Q E s:=by
 cases ty with
 | non=>cases(show u=Value.none from rx);exact PySem.W.kia_one PySem.W.kitx_none I.kIn True.intro e (fun z=>nomatch z) h
 | bl y=>cases(show u=Value.bool y from rx);exact PySem.W.kia_one PySem.W.kitx_bool I.kIn True.intro e (fun z=>nomatch z) h
 | int i=>obtain⟨t,q⟩:=(show∃t,u=Value.int i t from rx);cases q;exact PySem.W.kia_one PySem.W.kitx_int I.kIn True.intro e (fun z=>nomatch z) h
 | str y=>obtain⟨t,q⟩:=(show∃t,u=Value.str y t from rx);cases q;exact PySem.W.kia_one PySem.W.kitx_str I.kIn True.intro e (fun z=>nomatch z) h
 | flt y=>obtain⟨t,q⟩:=(show∃t,u=Value.float y t from rx);cases q;exact PySem.W.kia_one PySem.W.kitx_float I.kIn True.intro e (fun z=>nomatch z) h
 | @lst a xs ea=>
   cases(show u=Value.ref a from rx)
   obtain⟨_,_,n,_,h1⟩:=(show ObjOk X.prog X.w H s.heap a (.lst xs) from I.hok a _ ea)
   exact PySem.W.kia_one PySem.W.kitx_list I.kIn ⟨_,h1,rfl⟩ e (fun z=>nomatch z) h
 | @frz a ob xs ea=>
   cases(show u=Value.ref a from rx)
   obtain⟨_,_,_,n,_,h1⟩:=(show ObjOk X.prog X.w H s.heap a (.frz ob (.lst xs)) from I.hok a _ ea)
   exact PySem.W.kia_one PySem.W.kitx_list I.kIn ⟨_,h1,rfl⟩ e (fun z=>nomatch z) h
 | @tup a xs ea=>
   cases(show u=Value.ref a from rx)
   obtain⟨_,_,_,p⟩:=(show ObjOk X.prog X.w H s.heap a (.tup xs) from I.hok a _ ea)
   obtain⟨o,h1,h2,_⟩:=p
   exact PySem.W.kia_one PySem.W.kitx_tuple I.kIn ⟨o,h1,h2⟩ e (fun z=>nomatch z) h
 | @dK a kvs ea=>
   cases(show u=Value.ref a from rx)
   obtain⟨_,_,vs,_,p⟩:=(show ObjOk X.prog X.w H s.heap a (.dK kvs) from I.hok a _ ea)
   obtain⟨o,es,ep,h1,h2,_⟩:=p
   exact PySem.W.kia_one PySem.W.kitx_dict I.kIn ⟨o,h1,h2.1⟩ e (fun z=>nomatch z) h
 | @dT a kvs ea=>
   cases(show u=Value.ref a from rx)
   obtain⟨_,_,xs,_,o,es,ep,h1,h2,_⟩:=(show ObjOk X.prog X.w H s.heap a (.dT kvs) from I.hok a _ ea)
   exact PySem.W.kia_one PySem.W.kitx_dict I.kIn ⟨o,h1,h2.1⟩ e (fun z=>nomatch z) h
 | @ins a C dx fs ea cl ha hn htk hm=>
   cases(show u=Value.ref a from rx)
   obtain⟨mA,O,_⟩:=lv I.hok ea
   obtain⟨od,J,_⟩:=O.look
   exact PySem.W.kia_one (PySem.W.kitx_own (cl.get _) cl.hd ha hn htk hm) I.kIn J e (fun z=>nomatch z) h
end
structure Room(k:Nat)(A:Around):Prop where
 hd:A.handled=none
 dp:A.depth+3*k+5<recursionLimit
 un:A.units+16*k+200<cLine
theorem Room.mono{j k:Nat}{A:Around}(r:Room k A)(h:j≤k):Room j A:=⟨r.hd,by have:=r.dp;lia,by have:=r.un;lia⟩
theorem Room.deeper{k:Nat}{A:Around}(r:Room (k+1) A)(env:Env):Room k (A.deeper env):=
 ⟨r.hd,by have:=r.dp;show A.depth+1+3*k+5<_;lia,by have:=r.un;show A.units+3+16*k+200<_;lia⟩
theorem Room.in1{k:Nat}{A:Around}(r:Room (k+1) A):Room k A.in1:=
 ⟨r.hd,by have:=r.dp;show A.depth+3*k+5<_;lia,by have:=r.un;show A.units+1+16*k+200<_;lia⟩
theorem DF{A:Around}{C:Addr}{us:List Value}{kw:List (Str×Value)}:(A.under (.builtin "type.__call__" ⟨.ref C::us,kw⟩)).depth=A.depth+1:=by
 first | rfl | simp[Around.under,Code.weight,Code.isCreation,Code.isGuard,Code.isCaller,Code.frames,Code.isFrame,guardIds]
theorem yH{A:Around}{C:Addr}{us:List Value}{kw:List (Str×Value)}:(A.under (.builtin "type.__call__" ⟨.ref C::us,kw⟩)).units=A.units+1:=by
 first | rfl | simp[Around.under,Code.cUnits,Code.frames,Code.isFrame]
theorem Room.make{k:Nat}{A:Around}(r:Room (k+1) A)(C:Addr)(us:List Value)(kw:List (Str×Value)):Room k (A.under (.builtin "type.__call__" ⟨.ref C::us,kw⟩)):=
 ⟨r.hd,by have:=r.dp;rw[DF];lia,by have:=r.un;rw[yH];lia⟩
theorem Room.depth{k:Nat}{A:Around}(r:Room k A):A.depth<recursionLimit:=by have:=r.dp;lia
theorem Room.units{k:Nat}{A:Around}(r:Room k A):A.units+64<cLine:=by have:=r.un;lia
theorem Room.units0{k:Nat}{A:Around}(r:Room k A):A.units<cLine:=by have:=r.un;lia
def fJ:TA:=fun _ H Q=>Q [] H
def iA(ta:TE)(tr:TA):TA:=fun σ H Q=>ta σ H fun x H1=>tr σ H1 fun xs H2=>Q (x::xs) H2
section
variable{X:Cx}{e:Expr}{es:List Expr}{te:TE}{t:TA}{pos:Pos}
theorem ac:PA X [] fJ:=fun _ _ _ _ H Q I h=>Calls.spliced_nil ⟨[],H,I,.nil,h⟩
theorem aa(ha:PE X e te)(hr:PA X es t)(hs:starEach (e::es) X.env=(false,eval e X.env)::starEach es X.env:=by rfl):PA X (e::es) (iA te t):=by
 intro pos pins s σ H Q I h
 rw[hs]
 show wpAny _ _ (spliced ((false,eval e X.env)::backTo pos (starEach es X.env))) _ _ s
 refine Calls.spliced_cons (am (ha pins s σ H _ I h) fun u s1 ⟨x,H1,I1,r1,q1⟩=>?_)
 exact am (hr pos pins s1 σ H1 _ I1 q1) fun us s2 ⟨xs,H2,I2,r2,q2⟩=>⟨x::xs,H2,I2,.cons r1 r2,q2⟩
def wW(t:TA):TE:=fun σ H Q=>t σ H fun xs H1=>xs.length≤sizeLine∧∀p,H1 p=none→Q (.ref p) (upd H1 p (.tup xs))
def kN(t:TA):TE:=fun σ H Q=>t σ H fun xs H1=>xs.length≤sizeLine∧∀p,H1 p=none→Q (.ref p) (upd H1 p (.lst xs))
theorem fV{x1}(h:PA X es t):PE X (.Tuple es x1 pos) (wW t):=by
 intro pins s σ H Q I hq
 refine wpAny_Tuple_spliced (am (h pos pins s σ H _ I hq) fun us s1 ⟨xs,H1,I1,r,z,q⟩=>⟨by rw[←r.length];exact z,?_⟩)
 have hf:H1 s1.heap.objs.size=none:=I1.hok.fresh (Nat.le_refl _)
 refine⟨.ref s1.heap.objs.size,upd H1 s1.heap.objs.size (.tup xs),I1.laid (t':=s1.toks) (fun b u e=>Heap.get?_push_of_some _ e) (Nat.le_refl _) ?_,rfl,q _ hf⟩
 exact⟨z,us,r,⟨_,Heap.get?_push_size _ rfl,rfl,_,rfl⟩⟩
theorem aS(h:PA X es t):PE X (.List es pos) (kN t):=by
 intro pins s σ H Q I hq
 refine wpAny_List_spliced (am (h pos pins s σ H _ I hq) fun us s1 ⟨xs,H1,I1,r,z,q⟩=>⟨by rw[←r.length];exact z,?_⟩)
 have hf:H1 s1.heap.objs.size=none:=I1.hok.fresh (Nat.le_refl _)
 refine⟨.ref s1.heap.objs.size,upd H1 s1.heap.objs.size (.lst xs),I1.laid (t':=s1.toks) (fun b u e=>Heap.get?_push_of_some _ e) (Nat.le_refl _) ?_,rfl,q _ hf⟩
 exact⟨z,us,0,r,Heap.get?_push_size _ rfl⟩
end
abbrev Sp:=List V→Hp→VK→XK→Prop
abbrev bd:=List Env→Hp→Shared→XK→Value→Shared→Prop
structure Env0(P:Program)(w:World)(K:PySem.W.Frag)(mg:Str→Option Value)(base:Heap)(A:Around)(outer:List Env)(s:Shared)(H:Hp):Prop where
 frames:A.frames=some outer
 mod:Mod K mg base
 bs:∀b o,base.get? b=some o→s.heap.get? b=some o∧H b=none
 bsz:base.objs.size≤s.heap.objs.size
 funs:s.heap.FunFrames base outer
 frf:∀b∈aO outer,H b=none
 hok:HOk P w H s.heap
 bare:AllBare s.gens
def CE(outer:List Env)(P:Program)(w:World)(H:Hp)(s:Shared)(Q:VK)(u:Value)(s':Shared):Prop:=
 ∃v H',s'.os=s.os∧AllBare s'.gens∧Un (aO outer) [] H H' s.heap s'.heap∧HOk P w H' s'.heap∧RelV v u∧Q v H'
def CR(CX:bd)(outer:List Env)(P:Program)(w:World)(H:Hp)(s:Shared)(Q:VK)(E:XK)(r:Result)(s':Shared):Prop:=
 match r with
 | .ok (.ret u)=>CE outer P w H s Q u s'
 | .ok _=>False
 | .error e=>CX outer H s E e s'
structure FnOk(P:Program)(w:World)(K:PySem.W.Frag)(mg:Str→Option Value)(base:Heap)(CX:bd)(k:Nat)(f:Addr)(fd:FuncData)(ps:List Str)(sp:Sp):Prop where
 len:∀vs H Q E,sp vs H Q E→vs.length=ps.length
 run:∀(A:Around) (outer:List Env) (s:Shared) (H:Hp) (args:Args) (us:List Value) (vs:List V) (Q:VK) (E:XK),Room k A→Env0 P w K mg base A outer s H→BindsTo s fd args (ps.zip us)→Vals vs us→sp vs H Q E→
  codeAny (model P w) A (.call (.ref f) args) (CR CX outer P w H s Q E) s
theorem FnOk.mono{P:Program}{w:World}{K:PySem.W.Frag}{mg:Str→Option Value}{base:Heap}{CX:bd}{j k:Nat}{f:Addr}{fd:FuncData}{ps:List Str}{sp:Sp}(F:FnOk P w K mg base CX j f fd ps sp)(h:j≤k):FnOk P w K mg base CX k f fd ps sp:=⟨F.len,fun A outer s H args us vs Q E hr=>F.run A outer s H args us vs Q E (hr.mono h)⟩
theorem Env0.make{P:Program}{w:World}{K:PySem.W.Frag}{mg:Str→Option Value}{base:Heap}{A:Around}{outer:List Env}{s:Shared}{H:Hp}(e:Env0 P w K mg base A outer s H)(C:Addr)(us:List Value)(kw:List (Str×Value)):Env0 P w K mg base (A.under (.builtin "type.__call__" ⟨.ref C::us,kw⟩)) outer s H:=⟨by first | exact e.frames | (simpa [Around.under,Code.envs,Code.isFrame,pushEnvs] using e.frames),e.mod,e.bs,e.bsz,e.funs,e.frf,e.hok,e.bare⟩
theorem Env0.in1{P:Program}{w:World}{K:PySem.W.Frag}{mg:Str→Option Value}{base:Heap}{A:Around}{outer:List Env}{s:Shared}{H:Hp}(e:Env0 P w K mg base A outer s H):Env0 P w K mg base A.in1 outer s H:=⟨e.frames,e.mod,e.bs,e.bsz,e.funs,e.frf,e.hok,e.bare⟩
section
variable{X:Cx}{pins:List (Addr×Obj)}{σ:St}{H:Hp}{s s':Shared}
theorem Inv.env0(I:Inv X pins σ H s):Env0 X.prog X.w X.K X.mg X.base X.A X.stack s H:=
 ⟨I.ok.frames,I.ok.mod,I.bs,Nat.le_trans I.ok.bsz I.sz,I.stack,I.stkFree,I.hok,I.bare⟩
theorem Inv.after{Q:VK}{u:Value}(I:Inv X pins σ H s)(h:CE X.stack X.prog X.w H s Q u s'):EP X pins σ Q u s':=by
 obtain⟨v,H',os,bare,un,hok,r,q⟩:=h
 obtain⟨hh,g,d,t,os'⟩:=s'
 obtain rfl:os'=s.os:=os
 exact⟨v,H',I.call (h':=hh) (g':=g) (d':=d) (t':=t) (ch:=[]) un hok bare (fun b z=>absurd z (by simp)),r,q⟩
end
def gU(sp:Sp)(dvs:List V)(E:XK)(t:TA):TE:=fun σ H Q=>t σ H fun vs H1=>sp (vs++dvs) H1 Q E
def gK(C:Addr)(m:Str)(sp:Sp)(dvs:List V)(E:XK)(ta:TE)(t:TA):TE:=fun σ H Q=>ta σ H fun x H1=>∃a dx fs,x=.ref a∧H1 a=some (.ins C dx fs)∧fs.lookup m=none∧
 t σ H1 fun vs H2=>sp (x::(vs++dvs)) H2 Q E
def uE(C:Addr)(sp:Sp)(dvs:List V)(E:XK)(t:TA):TE:=fun σ H Q=>t σ H fun vs H1=>∀x dx,H1 x=none→H1 dx=none→dx≠x→
 sp (.ref x::(vs++dvs)) (upd (upd H1 dx (.own x)) x (.ins C dx [])) (fun v H2=>v=.non∧Q (.ref x) H2) E
def Binds(K:PySem.W.Frag)(fd:FuncData)(ps:List Str)(ds:List Value):Prop:=
 ∀(s:Shared) (us:List Value),K.In s.heap→(us++ds).length=ps.length→BindsTo s fd ⟨us,[]⟩ (ps.zip (us++ds))
theorem Binds.all{K:PySem.W.Frag}{fd:FuncData}{ps:List Str}(h:∀us:List Value,us.length=ps.length→bindArgs fd ⟨us,[]⟩=pure (ps.zip us)):Binds K fd ps []:=fun s us _ hl=>by
 rw[List.append_nil] at hl ⊢
 exact .of_eq (h us hl)
def cA(CX:bd)(X:Cx)(E:XK):Prop:=∀(pins:List (Addr×Obj)) (σ:St) (H:Hp) (s:Shared) (e:Value) (s':Shared),Inv X pins σ H s→CX X.stack H s E e s'→X.xe e s'
section
variable{X:Cx}{CX:bd}{k:Nat}{f C:Addr}{fd:FuncData}{ps:List Str}{sp:Sp}{dvs:List V}{ds:List Value}{E:XK}{x m:Str}{p pos apos:Pos}{e o:Expr}{es:List Expr}{ta:TE}{t:TA}
theorem jU{pins:List (Addr×Obj)}{σ:St}{H:Hp}{s:Shared}{Q:VK}{us:List Value}{vs:List V}(F:FnOk X.prog X.w X.K X.mg X.base CX k f fd ps sp)(hr:Room k X.A)(hb:Binds X.K fd ps ds)(hd:Vals dvs ds)(hx:cA CX X E)(I:Inv X pins σ H s)(r:Vals vs us)(h:sp (vs++dvs) H Q E):wpAny (model X.prog X.w) X.A (call (.ref f) us) (EP X pins σ Q) X.xe s:=by
 have r2:Vals (vs++dvs) (us++ds):=r.append hd
 have hl:(us++ds).length=ps.length:=by rw[←r2.length];exact F.len _ _ _ _ h
 refine wpAny_call (codeAny_mono (F.run X.A X.stack s H ⟨us,[]⟩ (us++ds) (vs++dvs) Q E hr I.env0 (hb s us I.kIn hl) r2 h) fun r s' hq=>?_)
 cases r with
 | error e=>exact hx pins σ H s e s' I hq
 | ok fl=>
   cases fl with
   | ret u=>exact I.after hq
   | next=>exact False.elim hq
   | brk=>exact False.elim hq
   | cont=>exact False.elim hq
theorem zg(F:FnOk X.prog X.w X.K X.mg X.base CX k f fd ps sp)(hr:Room k X.A)(hg:Gl X x)(hm:X.mg x=some (.ref f))(hk:PySem.W.keepIn X.K (.ref f)=true)(hb:Binds X.K fd ps ds)(hd:Vals dvs ds)(hx:cA CX X E)(ha:PA X (e::es) t)(hdb:(x == ("__debug__":Str))=false:=by decide)(he:starEach (e::es) X.env=(false,eval e X.env)::starEach es X.env:=by rfl)(hpl:(backTo pos (starEach es X.env)).any (·.1)=false:=by rfl):
 PE X (.Call (.Name x p) (e::es) [] pos) (gU sp dvs E t):=by
 intro pins s σ H Q I h
 refine wpAny_Call_Name_kw (gp I hg hm ?_ hdb)
 refine PySem.W.callWith_K (h₀:=X.base) I.ok.mod.kin hk (am (ha pos pins s σ H _ I h) fun us s1 ⟨vs,H1,I1,r,q⟩=>⟨I1.kIn,?_⟩) he hpl
 exact jU F hr hb hd hx I1 r q
theorem AI{pl:Sem Bool}(he:PE X o ta)(c:Cls X.K C)(hm:Meth X.K C m f)(F:FnOk X.prog X.w X.K X.mg X.base CX k f fd ps sp)(hr:Room k X.A)(hb:Binds X.K fd ps ds)(hd:Vals dvs ds)(hx:cA CX X E)(ha:PA X (e::es) t)(hst:starEach (e::es) X.env=(false,eval e X.env)::starEach es X.env:=by rfl)(hpl:(backTo pos (starEach es X.env)).any (·.1)=false:=by rfl)
 (ht:eval (.Call (.Attribute o m apos) (e::es) [] pos) X.env=(do
  let ov←eval o X.env
  standAt apos.atName
  let (f,first)←holding [ov] (getMethod ov m pl)
  callWith pos f first (backTo pos (starEach (e::es) X.env)) (backToKw pos (keywordEach [] X.env))):=by rfl):
 PE X (.Call (.Attribute o m apos) (e::es) [] pos) (gK C m sp dvs E ta t):=by
 intro pins s σ H Q I h
 refine PySem.W.methodCall_KW (pl:=pl) (am (he pins s σ H _ I h) fun u s1 ⟨x,H1,I1,rx,a,dx,fs,ex,ea,l,q⟩=>?_) ht
 subst ex
 obtain rfl:u=Value.ref a:=rx
 refine lR I1 ea c hm l ?_
 refine PySem.W.callWith_K (first:=[.ref a]) (h₀:=X.base) I.ok.mod.kin hm.kp (am (ha pos pins s1 σ H1 _ I1 q) fun us s2 ⟨vs,H2,I2,r,q2⟩=>⟨I2.kIn,?_⟩) hst hpl
 exact jU (us:=.ref a::us) (vs:=.ref a::vs) F hr hb hd hx I2 (.cons rfl r) q2
theorem As{pl:Sem Bool}(he:PE X o ta)(c:Cls X.K C)(hm:Meth X.K C m f)(F:FnOk X.prog X.w X.K X.mg X.base CX k f fd ps sp)(hr:Room k X.A)(hb:Binds X.K fd ps ds)(hd:Vals dvs ds)(hx:cA CX X E)(ht:eval (.Call (.Attribute o m apos) [] [] pos) X.env=(do
 let ov←eval o X.env
 standAt apos.atName
 let (f,first)←holding [ov] (getMethod ov m pl)
 callWith pos f first (backTo pos (starEach [] X.env)) (backToKw pos (keywordEach [] X.env))):=by rfl):
 PE X (.Call (.Attribute o m apos) [] [] pos) (gK C m sp dvs E ta fJ):=by
 intro pins s σ H Q I h
 refine PySem.W.methodCall_KW (pl:=pl) (am (he pins s σ H _ I h) fun u s1 ⟨x,H1,I1,rx,a,dx,fs,ex,ea,l,q⟩=>?_) ht
 subst ex
 obtain rfl:u=Value.ref a:=rx
 refine lR I1 ea c hm l ?_
 exact PySem.W.callWith_K0 (first:=[.ref a]) I1.kIn hm.kp (jU (us:=[.ref a]) (vs:=[.ref a]) F hr hb hd hx I1 (.cons rfl .nil) q)
structure Mk(K:PySem.W.Frag)(C f:Addr):Prop where
 makes:PySem.W.makesIn K C=true
 init:PySem.W.findIn K (.ref C) "__init__"=some (some (.ref f))
 fn:PySem.W.isFn K (.ref f)=true
 kp:PySem.W.keepIn K (.ref C)=true
theorem yB{pins:List (Addr×Obj)}{σ:St}{H:Hp}{s:Shared}{Q:VK}{us:List Value}{vs:List V}(M:Mk X.K C f)(F:FnOk X.prog X.w X.K X.mg X.base CX k f fd ps sp)(hr:Room (k+1) X.A)(hb:Binds X.K fd ps ds)(hd:Vals dvs ds)(hx:cA CX X E)(I:Inv X pins σ H s)(r:Vals vs us)(h:∀x dx,H x=none→H dx=none→dx≠x→sp (.ref x::(vs++dvs)) (upd (upd H dx (.own x)) x (.ins C dx [])) (fun v H2=>v=.non∧Q (.ref x) H2) E):
 wpAny (model X.prog X.w) X.A (call (.ref C) us) (EP X pins σ Q) X.xe s:=by
 have hq:=h (s.heap.objs.size+1) s.heap.objs.size (I.hok.fresh (Nat.le_succ _)) (I.hok.fresh (Nat.le_refl _)) (Nat.ne_of_lt (Nat.lt_succ_self _))
 have I2:=Inv.made (C:=C) I
 have r2:Vals (V.ref (s.heap.objs.size+1)::(vs++dvs)) (Value.ref (s.heap.objs.size+1)::(us++ds)):=.cons rfl (r.append hd)
 have hl:(Value.ref (s.heap.objs.size+1)::us++ds).length=ps.length:=by
  have e:=r2.length
  rw[F.len _ _ _ _ hq] at e
  exact e.symm
 refine wpAny_call (x6 (f:=f) I.kIn M.makes M.init (beq_iff_eq.mp M.fn) (codeAny_mono (F.run _ X.stack _ _ ⟨Value.ref (s.heap.objs.size+1)::us,[]⟩ (Value.ref (s.heap.objs.size+1)::(us++ds)) _ _ E (hr.make C us [])
  (I2.env0.make C us []) (hb _ (Value.ref (s.heap.objs.size+1)::us) I2.kIn hl) r2 hq) fun r s' hq'=>?_))
 cases r with
 | error e=>exact hx pins σ _ _ e s' I2 hq'
 | ok fl=>
   cases fl with
   | ret u=>
     obtain⟨v,H',I3,rv,ev,q3⟩:=I2.after hq'
     subst ev
     exact⟨rv,⟨V.ref (s.heap.objs.size+1),H',I3,rfl,q3⟩⟩
   | next=>exact False.elim hq'
   | brk=>exact False.elim hq'
   | cont=>exact False.elim hq'
theorem vY(M:Mk X.K C f)(F:FnOk X.prog X.w X.K X.mg X.base CX k f fd ps sp)(hr:Room (k+1) X.A)(hg:Gl X x)(hm:X.mg x=some (.ref C))(hb:Binds X.K fd ps ds)(hd:Vals dvs ds)(hx:cA CX X E)(hdb:(x == ("__debug__":Str))=false:=by decide):PE X (.Call (.Name x p) [] [] pos) (uE C sp dvs E fJ):=by
 intro pins s σ H Q I h
 refine wpAny_Call_Name_kw (gp I hg hm ?_ hdb)
 exact PySem.W.callWith_K0 I.kIn M.kp (yB (us:=[]) M F hr hb hd hx I .nil h)
end
section
variable{X:Cx}{CX:bd}{k:Nat}{f C:Addr}{fd:FuncData}{ps ks:List Str}{sp:Sp}{E:XK}{x m:Str}{p pos apos kpos:Pos}{e o:Expr}{es:List Expr}{kws:List Keyword}{te ta:TE}{t tk:TA}{nm:Option Str}
structure KBinds(K:PySem.W.Frag)(fd:FuncData)(ps ks:List Str)(g:List Value→List Value→List Value)(gV:List V→List V→List V):Prop where
 to:∀(s:Shared) (us ws:List Value),K.In s.heap→(g us ws).length=ps.length→BindsTo s fd ⟨us,ks.zip ws⟩ (ps.zip (g us ws))
 rel:∀{vs:List V} {us:List Value} {zs:List V} {ws:List Value},Vals vs us→Vals zs ws→Vals (gV vs zs) (g us ws)
variable{g:List Value→List Value→List Value}{gV:List V→List V→List V}
end
structure FnScope(N P:List Str)(sc:Scope):Prop where
 kind:sc.kind=.function
 co:sc.isCoroutine=false
 gen:sc.isGenerator=false
 nd:N.Nodup
 pre:N.take P.length=P
 par:∀x∈P,sc.names.lookup x=some .local∨sc.names.lookup x=some .cell
 nofree:∀y∈sc.names,y.2≠ .free
theorem uS{kindOf:Str→Option NameKind}{x:Str}:∀{binds:List (Str×Value)} {m:Str→Option Value},(∀v,(x,v)∉binds)→bindL kindOf binds m x=m x
 | [],_,_=>rfl
 | (n,v)::r,m,h=>by
   unfold bindL
   rw[uS fun w hw=>h w (List.mem_cons_of_mem _ hw)]
   split
   ·have:x≠n:=by rintro rfl;exact h v List.mem_cons_self
    simp[this]
   ·rfl
theorem sA{kindOf:Str→Option NameKind}{x:Str}:∀{binds:List (Str×Value)} {m:Str→Option Value},(∀v,(x,v)∉binds)→bindC kindOf binds m x=m x
 | [],_,_=>rfl
 | (n,v)::r,m,h=>by
   unfold bindC
   rw[sA fun w hw=>h w (List.mem_cons_of_mem _ hw)]
   split
   ·rfl
   ·have:x≠n:=by rintro rfl;exact h v List.mem_cons_self
    simp[this]
theorem uT{kindOf:Str→Option NameKind}{x:Str}{v:Value}:∀{P:List Str} {vs:List Value} {i:Nat} {m:Str→Option Value},P.Nodup→P[i]?=some x→vs[i]?=some v→kindOf x=some .local→bindL kindOf (P.zip vs) m x=some v
 | [],_,_,_,_,h,_,_=>by simp at h
 | _::_,[],_,_,_,_,h,_=>by simp at h
 | p::P,w::vs,0,m,nd,h1,h2,hk=>by
   simp at h1 h2;subst h1;subst h2
   show bindL kindOf ((p,w)::P.zip vs) m p=_
   unfold bindL
   rw[uS fun v hv=>(List.nodup_cons.mp nd).1 (List.of_mem_zip hv).1,if_pos hk]
   simp
 | p::P,w::vs,i+1,m,nd,h1,h2,hk=>by
   show bindL kindOf ((p,w)::P.zip vs) m x=_
   unfold bindL
   exact uT (i:=i) (List.nodup_cons.mp nd).2 (by simpa using h1) (by simpa using h2) hk
theorem vz{kindOf:Str→Option NameKind}{x:Str}{v:Value}:∀{P:List Str} {vs:List Value} {i:Nat} {m:Str→Option Value},P.Nodup→P[i]?=some x→vs[i]?=some v→kindOf x≠some .local→bindC kindOf (P.zip vs) m x=some v
 | [],_,_,_,_,h,_,_=>by simp at h
 | _::_,[],_,_,_,_,h,_=>by simp at h
 | p::P,w::vs,0,m,nd,h1,h2,hk=>by
   simp at h1 h2;subst h1;subst h2
   show bindC kindOf ((p,w)::P.zip vs) m p=_
   unfold bindC
   rw[sA fun v hv=>(List.nodup_cons.mp nd).1 (List.of_mem_zip hv).1,if_neg hk]
   simp
 | p::P,w::vs,i+1,m,nd,h1,h2,hk=>by
   show bindC kindOf ((p,w)::P.zip vs) m x=_
   unfold bindC
   exact vz (i:=i) (List.nodup_cons.mp nd).2 (by simpa using h1) (by simpa using h2) hk
def ck(N:List Str)(vs:List V):St:=vs.map some++List.replicate (N.length-vs.length) none
def bW(CX:bd)(P:Program)(w:World)(K:PySem.W.Frag)(mg:Str→Option Value)(base:Heap)(N:List Str)(qual:Str)(scope:Scope)(f:Addr)(cd:Value)(A:Around)(outer:List Env)(s:Shared)(H:Hp)(E:XK):Cx where
 prog:=P
 w:=w
 K:=K
 mg:=mg
 base:=base
 A:=A.deeper (envOfC qual scope s.heap.objs.size f cd)
 N:=N
 s₀:=s
 H₀:=H
 env:=envOfC qual scope s.heap.objs.size f cd
 outer:=outer
 stack:=envOfC qual scope s.heap.objs.size f cd::outer
 ex:=[]
 calm:=true
 fn:=fun _=>true
 pn:=[]
 xe:=fun e s'=>wpAny (model P w) (A.deeper (envOfC qual scope s.heap.objs.size f cd)) (leaving (envOfC qual scope s.heap.objs.size f cd) e) (fun _ s''=>CX outer H s E e s'') (fun e' s''=>CX outer H s E e' s'') s'
theorem qf{sc:Scope}{n:Nat}{x:Str}(h:sc.names.lookup x=some .cell):∃c,(cellsFrom n sc.names []).lookup x=some c:=by
 have q:=PySem.W.cellsFrom_some sc.names n [] (.inl h)
 exact Option.isSome_iff_exists.mp q
theorem qO{CX:bd}{P:Program}{w:World}{K:PySem.W.Frag}{mg:Str→Option Value}{base:Heap}{N ps:List Str}{qual:Str}{scope:Scope}{f:Addr}{cd:Value}{A:Around}{outer:List Env}{s s1:Shared}{H:Hp}{E:XK}{us:List Value}{vs:List V}(S:FnScope N ps scope)(hd:A.handled=none)(e0:Env0 P w K mg base A outer s H)(hl:vs.length=ps.length)(r:Vals vs us)(x:InCallC s s.heap.objs.size (bindL (envOfC qual scope s.heap.objs.size f cd).kindOf (ps.zip us) fun _=>none) (cellsFrom (s.heap.objs.size+1) scope.names []) (bindC (envOfC qual scope s.heap.objs.size f cd).kindOf (ps.zip us) fun _=>none) s1):
 Inv (bW CX P w K mg base N qual scope f cd A outer s H E) [] (ck N vs) H s1:=by
 have hpl:ps.length≤N.length:=by have:=congrArg List.length S.pre;rw[List.length_take] at this;lia
 obtain⟨h1,tk,rfl,hk⟩:=x.done
 have noA:∀b:Addr,b∉(bW CX P w K mg base N qual scope f cd A outer s H E).ex:=fun b z=>absurd (show b∈([]:List Addr) from z) (by simp)
 refine⟨⟨e0.mod,S.kind,rfl,rfl,Nat.le_refl _,fun y z c h1 h2=>?_,fun y hy=>?_,fun y c _ h=>?_,fun _=>hd,Around.frames_deeper e0.frames,.inr ⟨rfl,rfl⟩,fun b z=>absurd z (noA b),e0.bs,e0.bsz,fun b _ _=>noA b,fun b z=>absurd z (noA b),e0.funs,e0.frf⟩,
  rfl,e0.bare,Un.kept hk,⟨_,x.toInCall.ns,fun i y v h1 h2 h3=>?_⟩,fun y c h=>⟨_,x.cell y c h⟩,e0.hok.fresh (Nat.le_refl _),fun y c h=>?_,fun p hp=>absurd (show p∈([]:List (Addr×Obj)) from hp) (by simp),e0.hok.kept hk,?_⟩
 ·exact name_of_addr x.apart (PySem.mem_of_lookup h1) (PySem.mem_of_lookup h2)
 ·have hy:scope.names.lookup y=some .cell∨scope.names.lookup y=some .free:=hy
  rcases hy with hy | hy
  ·exact qf hy
  ·exact absurd rfl (S.nofree _ (PySem.mem_of_lookup hy))
 ·exact Nat.le_of_lt (x.above y c (PySem.mem_of_lookup h))
 ·have hi:i<vs.length:=by
   unfold ck at h2
   by_cases hi:i<vs.length
   ·exact hi
   ·rw[List.getElem?_append_right (by simpa using hi)] at h2
    rw[List.getElem?_replicate] at h2
    split at h2 <;> cases h2
  have ha:vs[i]?=some v:=by
   unfold ck at h2
   rw[List.getElem?_append_left (by simpa using hi),List.getElem?_map] at h2
   cases e:vs[i]? with
   | none=>rw[e] at h2;cases h2
   | some a=>rw[e] at h2;cases h2;rfl
  obtain⟨u,hu,rv⟩:=r.get ha
  have hp:ps[i]?=some y:=by
   rw[←S.pre,List.getElem?_take_of_lt (by lia)];exact h1
  have ndP:ps.Nodup:=by rw[←S.pre];exact S.nd.sublist (List.take_sublist _ _)
  refine⟨u,rv,?_⟩
  rcases S.par y (List.mem_of_getElem? hp) with k | k
  ·exact .inl ⟨k,uT ndP hp hu k⟩
  ·obtain⟨c,e⟩:=qf (n:=s.heap.objs.size+1) k
   refine .inr ⟨.inl k,c,e,?_⟩
   have q:=x.cell y c e
   rw[vz ndP hp hu (by show scope.names.lookup y≠_;rw[k];decide)] at q
   exact q
 ·exact e0.hok.fresh (Nat.le_of_lt (x.above y c (PySem.mem_of_lookup h)))
 ·unfold ck
  show _=N.length
  rw[List.length_append,List.length_map,List.length_replicate]
  lia
theorem jw{CX:bd}{P:Program}{w:World}{K:PySem.W.Frag}{mg:Str→Option Value}{base:Heap}{k:Nat}{f:Addr}{name qual:Str}{params:Arguments}{body:List Stmt}{scope:Scope}{dV kV doc pm cdv ct oc:Value}{an od:Option Addr}{osl:Array (Option Value)}{N ps:List Str}{sp:Sp}(lk:K.lookup f=some ⟨oc,od,.func (PySem.W.fnOf name qual params body scope dV kV doc pm an cdv ct),osl⟩)(hcd:PySem.W.codeIn K cdv qual=true)(S:FnScope N ps scope)(len:∀vs H Q E,sp vs H Q E→vs.length=ps.length)(hbody:∀(A:Around) (outer:List Env) (s:Shared) (H:Hp) (vs:List V) (Q:VK) (E:XK),Room k (A.deeper (envOfC qual scope s.heap.objs.size f cdv))→sp vs H Q E→∃t,PSs (bW CX P w K mg base N qual scope f cdv A outer s H E) body t∧t {nx:=fun _ H'=>Q .non H',rt:=Q} (ck N vs) H):
 FnOk P w K mg base CX (k+1) f (PySem.W.fnOf name qual params body scope dV kV doc pm an cdv ct) ps sp:=by
 refine⟨len,fun A outer s H args us vs Q E hr e0 hb r hsp=>?_⟩
 have hl:=len _ _ _ _ hsp
 have KX:K.In s.heap:=e0.mod.kin.keeps fun b o e=>(e0.bs b o e).1
 have lim:s.heap.NoLimit:=e0.mod.nolimit.keeps fun b o e=>(e0.bs b o e).1
 have hkind:∀y∈ps.zip us,scope.names.lookup y.1=some .local∨(scope.names.lookup y.1=some .cell∧((cellsFrom (s.heap.objs.size+1) scope.names []).lookup y.1).isSome=true):=fun⟨n,v⟩ hy=>by
  rcases S.par n (List.of_mem_zip hy).1 with q | q
  ·exact .inl q
  ·exact .inr ⟨q,PySem.W.cellsFrom_some _ _ _ (.inl q)⟩
 refine codeAny_call_function hr.depth (KX _ _ lk) rfl S.co S.gen rfl (PySem.W.codeRec_of KX hcd) (hb _ _ _ _ ?_)
 refine wpAny_newFunctionEnv_cells S.kind hkind fun env he s1 x=>?_
 subst he
 refine⟨lim.keeps x.toInCall.keep,codeAny_func ?_⟩
 obtain⟨t,ht,hq⟩:=hbody A outer s H vs Q E (hr.deeper _) hsp
 have I:Inv (bW CX P w K mg base N qual scope f cdv A outer s H E) [] (ck N vs) H s1:=qO S hr.hd e0 hl r x
 refine wpAny_mono (ht [] s1 (ck N vs) H _ I hq) (fun fl s' hs=>?_) fun e s' hs=>hs
 have fin:∀{σ':St} {H':Hp} {v:V} {u:Value},Inv (bW CX P w K mg base N qual scope f cdv A outer s H E) [] σ' H' s'→RelV v u→Q v H'→CE outer P w H s Q u s':=
  fun{σ' H' v u} J rv q=>⟨v,H',J.os,J.bare,J.base,J.hok,rv,q⟩
 cases fl with
 | ret u=>
   obtain⟨v,σ',H',J,rv,q⟩:=hs
   exact fin J rv q
 | next=>
   obtain⟨σ',H',J,q⟩:=hs
   exact fin (v:=V.non) (u:=Value.none) J rfl q
 | brk=>
   obtain⟨_,_,_,q⟩:=hs
   exact False.elim q
 | cont=>
   obtain⟨_,_,_,q⟩:=hs
   exact False.elim q
section
variable{X:Cx}{x:Str}{p pos:Pos}{e:Expr}{es:List Expr}{t:TA}{id T:String}{r:List V→Hp→VK→Prop}
def tj(r:List V→Hp→VK→Prop)(t:TA):TE:=fun σ H Q=>t σ H fun vs H1=>r vs H1 Q
theorem ez(hc:cU X (.builtin id) r)(hg:Gl X x)(hm:X.mg x=none)(hv:bootBuiltins x=some (.builtin id))(ha:PA X (e::es) t)(hn:x≠"__name__":=by decide)(hdb:(x == ("__debug__":Str))=false:=by decide)
 (he:starEach (e::es) X.env=(false,eval e X.env)::starEach es X.env:=by rfl)(hpl:(backTo pos (starEach es X.env)).any (·.1)=false:=by rfl):PE X (.Call (.Name x p) (e::es) [] pos) (tj r t):=by
 intro pins s σ H Q I h
 refine wpAny_Call_Name_kw (dE I hg hm hv ?_ hn hdb)
 exact PyProof.Rows.callWith_builtin1 (am (ha pos pins s σ H _ I h) fun us s1 ⟨vs,H1,I1,r1,q1⟩=>hc pins s1 σ H1 vs us Q I1 r1 q1) he hpl
theorem iL(hc:cU X (.type T) r)(hg:Gl X x)(hm:X.mg x=none)(hv:bootBuiltins x=some (.type T))(ha:PA X (e::es) t)(hn:x≠"__name__":=by decide)(hdb:(x == ("__debug__":Str))=false:=by decide)
 (he:starEach (e::es) X.env=(false,eval e X.env)::starEach es X.env:=by rfl)(hpl:(backTo pos (starEach es X.env)).any (·.1)=false:=by rfl):PE X (.Call (.Name x p) (e::es) [] pos) (tj r t):=by
 intro pins s σ H Q I h
 refine wpAny_Call_Name_kw (dE I hg hm hv ?_ hn hdb)
 exact PyProof.Rows.callWith_type1 (am (ha pos pins s σ H _ I h) fun us s1 ⟨vs,H1,I1,r1,q1⟩=>hc pins s1 σ H1 vs us Q I1 r1 q1) he hpl
end
end L2
namespace HT
open PySem PyProof.Rows
section
open PySem.SeqAt
open PySem.AutoSeq1 (wpAny_loadPart')
open PySem.MeetsSeq PySem.MeetsSeq2 PySem.MeetsSeq3
end
section
variable{prog:Program}{w:World}{A:Around}{E:Value→Shared→Prop}{s:Shared}
def sIx(n d:Nat):Option Int→Nat
 | none=>d
 | some v=>if v<0 then(v+(n:Int)).toNat else min v.toNat n
theorem sIx_none(n d:Nat):sIx n d none=d:=rfl
end
end HT
namespace L2
open PySem PySem.Spec PyProof.Rows
abbrev TO:=St→Hp→(Option Int→Hp→Prop)→Prop
def PO(X:Cx)(e:Option Expr)(t:TO):Prop:=
 ∀ (pins:List (Addr×Obj)) (s:Shared) (σ:St) (H:Hp) (Q:Option Int→Hp→Prop),Inv X pins σ H s→t σ H Q→
   wpAny (model X.prog X.w) X.A (evalPart e X.env) (fun u s'=>∃o H',Inv X pins σ H' s'∧IsPart u o∧Q o H') X.xe s
def tU:TO:=fun _ H Q=>Q none H
def uW(t:TE):TO:=fun σ H Q=>t σ H fun x H1=>∃i,x=.int i∧Q (some i) H1
section
variable{X:Cx}{e:Expr}{te:TE}{lo hi:Option Expr}{tl th:TO}{pos p2:Pos}
theorem cm:PO X none tU:=by
 intro pins s σ H Q I h
 rw[evalPart_none]
 exact wpAny_pure ⟨none,H,I,.none,h⟩
theorem bH(h:PE X e te):PO X (some e) (uW te):=by
 intro pins s σ H Q I hw
 rw[evalPart_some]
 refine am (h pins s σ H _ I hw) fun u s1 ⟨x,H1,I1,r1,q1⟩=>?_
 obtain⟨i,rfl,q⟩:=q1
 obtain⟨t,rfl⟩:=r1
 exact⟨some i,H1,I1,.int i t,q⟩
def sG(X:Cx)(r:V→Option Int→Option Int→Hp→VK→Prop):Prop:=
 ∀ (pins:List (Addr×Obj)) (s:Shared) (σ:St) (H:Hp) (x:V) (v vl vu:Value) (lo hi:Option Int) (sl:Addr) (Q:VK),Inv X pins σ H s→RelV x v→s.heap.IsSliceOf sl vl vu .none→IsPart vl lo→IsPart vu hi→r x lo hi H Q→
   ∃T id,typeLookup (.type T) "__getitem__"=pure (some (.builtin id))∧s.TypeIs v T∧wpAny (model X.prog X.w) X.A (getItem v (.ref sl)) (EP X pins σ Q) X.xe s
def ue(r:V→Option Int→Option Int→Hp→VK→Prop)(te:TE)(tl th:TO):TE:=fun σ H Q=>te σ H fun x H1=>tl σ H1 fun l H2=>th σ H2 fun u H3=>r x l u H3 Q
theorem bT{r:V→Option Int→Option Int→Hp→VK→Prop}(hr:sG X r)(he:PE X e te)(hl:PO X lo tl)(hu:PO X hi th):PE X (.Subscript e (.Slice lo hi none p2) pos) (ue r te tl th):=by
 intro pins s σ H Q I h
 refine Subscript_ (am (he pins s σ H _ I h) fun v s1 ⟨x,H1,I1,r1,q1⟩=>?_)
 refine wpAny_Slice (am (hl pins s1 σ H1 _ I1 q1) fun vl s2 ⟨l,H2,I2,pl,q2⟩=>am (hu pins s2 σ H2 _ I2 q2) fun vu s3 ⟨u,H3,I3,pu,q3⟩=>?_)
 rw[evalPart_none]
 refine wpAny_pure ?_
 have I4:Inv X pins σ H3 {s3 with heap:=s3.heap.push {cls:=.type "slice",data:=.fields #[vl,vu,.none]}}:=I3.kept (t':=s3.toks) fun b ob q=>Heap.get?_push_of_some _ q
 obtain⟨T,id,hT,ht,hg⟩:=hr pins {s3 with heap:=s3.heap.push {cls:=.type "slice",data:=.fields #[vl,vu,.none]}} σ H3 x v vl vu l u s3.heap.objs.size Q I4 r1 (Heap.IsSliceOf.new ..) pl pu q3
 show wpAny (model X.prog X.w) X.A (subscriptTail e (.Slice lo hi none p2) v (.ref s3.heap.objs.size)) (EP X pins σ Q) X.xe {s3 with heap:=s3.heap.push {cls:=.type "slice",data:=.fields #[vl,vu,.none]}}
 exact tail_any (ops:=[.ref s3.heap.objs.size,v]) ht hT hg (by with_unfolding_all rfl)
def bA(xs:List V)(lo hi:Option Int):List V:=(xs.drop (HT.sIx xs.length 0 lo)).take (HT.sIx xs.length xs.length hi-HT.sIx xs.length 0 lo)
theorem xD(xs:List V)(lo hi:Option Int):(bA xs lo hi).length≤xs.length:=by
 unfold bA
 rw[List.length_take,List.length_drop]
 lia
end
def dY(n:Nat)(i:Int):Option Nat:=if 0≤i then(if i<n then some i.toNat else none) else if -(n:Int)≤i then some (i+n).toNat else none
def bF{α:Type}(xs:List α)(i:Int):Option α:=(dY xs.length i).bind fun j=>xs[j]?
theorem sD{n:Nat}{i:Int}{j:Nat}(h:dY n i=some j):seqIndex? i n=some j∧j<n∧ -(n:Int)≤i∧i<n:=by
 unfold dY at h
 by_cases h0:0≤i
 ·rw[if_pos h0] at h
  by_cases h1:i<n
  ·rw[if_pos h1] at h
   have e:i.toNat=j:=Option.some.inj h
   exact⟨by rw[seqIndex_of h0 h1,e],by lia,by lia,h1⟩
  ·rw[if_neg h1] at h;cases h
 ·rw[if_neg h0] at h
  by_cases h1: -(n:Int)≤i
  ·rw[if_pos h1] at h
   have e:(i+n).toNat=j:=Option.some.inj h
   exact⟨by rw[seqIndex_neg (by lia) h1,e],by lia,h1,by lia⟩
  ·rw[if_neg h1] at h;cases h
theorem nQ{α:Type}{xs:List α}{i:Int}{v:α}(h:bF xs i=some v):∃j,seqIndex? i xs.length=some j∧xs[j]?=some v∧j<xs.length∧ -(xs.length:Int)≤i∧i<xs.length:=by
 unfold bF at h
 cases e:dY xs.length i with
 | none=>rw[e] at h;cases h
 | some j=>
   rw[e] at h
   obtain⟨h1,h2,h3,h4⟩:=sD e
   exact⟨j,h1,h,h2,h3,h4⟩
theorem fh{α:Type}{xs:List α}{j:Nat}{v:α}(h:xs[j]?=some v):bF xs (j:Int)=some v:=by
 have hj:j<xs.length:=(List.getElem?_eq_some_iff.mp h).1
 have e:dY xs.length (j:Int)=some j:=by
  unfold dY
  rw[if_pos (by lia),if_pos (by lia)];simp
 unfold bF;rw[e];exact h
theorem oZ{α:Type}(xs:List α)(v:α):bF (xs++[v]) (-1)=some v:=by
 have hl:(xs++[v]).length=xs.length+1:=by simp
 have e:dY (xs++[v]).length (-1)=some xs.length:=by
  unfold dY
  rw[hl,if_neg (by decide),if_pos (by lia)]
  congr 1
  lia
 unfold bF
 rw[e]
 show(xs++[v])[xs.length]?=some v
 simp
def vO(b:Expr):Prop:=∀o i,subscripted b false o i=operate [o,i] (getItem o i)
def jJ(X:Cx)(r:R2):Prop:=
 ∀ (value slice:Expr) (pins:List (Addr×Obj)) (s:Shared) (σ:St) (H:Hp) (x y:V) (v u:Value) (Q:VK),Inv X pins σ H s→RelV x v→RelV y u→r x y H Q→
   subscripted slice false v u=operate [v,u] (getItem v u)→wpAny (model X.prog X.w) X.A (subscriptTail value slice v u) (EP X pins σ Q) X.xe s
def vW(X:Cx)(id:String)(r:V→List V→Hp→VK→Prop):Prop:=
 ∀ (pins:List (Addr×Obj)) (s:Shared) (σ:St) (H:Hp) (x:V) (xs:List V) (v:Value) (us:List Value) (Q:VK),Inv X pins σ H s→RelV x v→Vals xs us→r x xs H Q→
   wpAny (model X.prog X.w) X.A (call (.builtin id) (v::us)) (EP X pins σ Q) X.xe s
section
variable{X:Cx}{a b:Expr}{ta tb:TE}{pos:Pos}
theorem bh{r:R2}(hr:jJ X r)(ha:PE X a ta)(hb:PE X b tb)(hs:vO b):PE X (.Subscript a b pos) (gi r ta tb):=by
 intro pins s σ H Q I h
 exact Subscript_ (pO ha hb I h fun v u s2 x y H2 I2 rx ry q=>hr a b pins s2 σ H2 x y v u Q I2 rx ry q (hs _ _))
def Cj(K:PySem.W.Frag):R2:=fun x y H Q=>∃p xs i v,x=.ref p∧y=.int i∧SqL K H p xs∧bF xs i=some v∧Q v H
def vZ(K:PySem.W.Frag):R2:=fun x y H Q=>∃p xs i v,x=.ref p∧y=.int i∧SqT K H p xs∧bF xs i=some v∧Q v H
def B5:R2:=fun x y H Q=>∃z i c,x=.str z∧y=.int i∧z.length≤sizeLine∧bF z.cps.toList i=some c∧Q (.str ⟨#[c]⟩) H
theorem bO:jJ X (Cj X.K):=by
 intro value slice pins s σ H x y v u Q I rx ry h hs
 obtain⟨p,xs,i,z,rfl,rfl,hq,he,q⟩:=h
 cases rx
 obtain⟨t,rfl⟩:=ry
 obtain⟨its,r,pl,hz⟩:=I.list hq
 obtain⟨j,h1,h2,h3,h4,h5⟩:=nQ he
 obtain⟨w,ew,rw'⟩:=r.get h2
 have hl:=r.length
 have hn:=gu
 have fin:EP X pins σ Q w s:=⟨z,H,I,rw',q⟩
 by_cases h0:0≤i
 ·have hj:i.toNat=j:=by
   rw[seqIndex_of h0 h5] at h1
   exact Option.some.inj h1
  exact item_listR pl.isList h0 (by lia) (by rw[hj];simpa using ew) fin hs
 ·have hj:(i+(its.toArray.size:Int)).toNat=j:=by
   rw[seqIndex_neg (by lia) h4] at h1
   rw[List.size_toArray,←hl]
   exact Option.some.inj h1
  exact subscriptTail_builtinR (x:=w) pl.isList.typeIs slot_list_getitem.lookup
   (wpAny_getItem_list_neg (Q:=fun r s'=>r=w∧EP X pins σ Q r s') pl.isList (by lia) (by rw[List.size_toArray] <;> lia) (by lia) (by rw[hj];simpa using ew) ⟨rfl,fin⟩) hs
theorem jF:jJ X (vZ X.K):=by
 intro value slice pins s σ H x y v u Q I rx ry h hs
 obtain⟨p,xs,i,z,rfl,rfl,hq,he,q⟩:=h
 cases rx
 obtain⟨t,rfl⟩:=ry
 obtain⟨its,r,pl,hz⟩:=I.tuple hq
 obtain⟨j,h1,h2,h3,h4,h5⟩:=nQ he
 obtain⟨w,ew,rw'⟩:=r.get h2
 have hl:=r.length
 have hn:=gu
 have fin:EP X pins σ Q w s:=⟨z,H,I,rw',q⟩
 exact subscriptTail_builtinR (x:=w) pl.typeIs slot_tuple_getitem.lookup
  (getItem_tuple (j:=j) (Q:=fun r s'=>r=w∧EP X pins σ Q r s') pl (by lia) (by lia) (by rw[List.size_toArray,←hl];exact h1) (by simpa using ew) ⟨rfl,fin⟩) hs
theorem ox:jJ X B5:=by
 intro value slice pins s σ H x y v u Q I rx ry h hs
 obtain⟨z,i,c,rfl,rfl,hz,he,q⟩:=h
 obtain⟨t,rfl⟩:=rx
 obtain⟨t',rfl⟩:=ry
 obtain⟨j,h1,h2,h3,h4,h5⟩:=nQ he
 have hl:z.cps.toList.length=z.length:=by simp[Str.length]
 rw[hl] at h1 h4 h5
 have hn:=gu
 exact tail_any (typeIs_str s z t) slot_str_getitem.lookup (getItem_str (c:=c) (by
  have e1:decide (i < -(2 ^ 63:Int))=false:=decide_eq_false (by lia)
  have e2:decide (i≥2 ^ 63)=false:=decide_eq_false (by lia)
  rw[e1,e2,Bool.or_false]) (by rw[h1];simpa using h2) ⟨.str ⟨#[c]⟩,H,I.tok _,⟨_,rfl⟩,q⟩) hs
theorem De(its:List Value)(n j:Nat)(u:Value):Obj.mapSeq (·.setIfInBounds j u) {cls:=.type "list",data:=.seq its.toArray n}={cls:=.type "list",data:=.seq (its.set j u).toArray n}:=by
 simp[Obj.mapSeq]
theorem Inv.lst{pins:List (Addr×Obj)}{σ:St}{H:Hp}{s:Shared}{p:Addr}{xs:List V}(I:Inv X pins σ H s)(h:H p=some (.lst xs)):∃(its:List Value) (n:Nat),Vals xs its∧s.heap.get? p=some {cls:=.type "list",data:=.seq its.toArray n}∧xs.length≤sizeLine:=by
 obtain⟨z,its,n,r,e⟩:=I.hok p _ h
 exact⟨its,n,r,e,z⟩
theorem Inv.lstUpd{pins:List (Addr×Obj)}{σ:St}{H:Hp}{s:Shared}{p:Addr}{xs ys:List V}{its its':List Value}{n n':Nat}{f:Obj→Obj}(I:Inv X pins σ H s)(h:H p=some (.lst xs))(ho:s.heap.get? p=some {cls:=.type "list",data:=.seq its.toArray n})(hf:f {cls:=.type "list",data:=.seq its.toArray n}={cls:=.type "list",data:=.seq its'.toArray n'})(r:Vals ys its')(hz:ys.length≤sizeLine)(t:Nat):Inv X pins σ (upd H p (.lst ys)) {s with heap:=s.heap.update p f,toks:=t}:=by
 have e:(s.heap.update p f).get? p=some {cls:=.type "list",data:=.seq its'.toArray n'}:=by
  rw[Heap.get?_update_self f ho (by rw[hf] <;> rfl),hf]
 refine I.write (x:=p) (e:=p) (by rw[h];trivial) (.inl rfl) (fun b u hb q=>(Heap.get?_update_other _ _ (Ne.symm hb)).trans q) ⟨_,e⟩ ?_
 exact⟨hz,its',n',r,e⟩
def C9:V→V→V→Hp→(Hp→Prop)→Prop:=fun o i v H Q=>∃p xs k j,o=.ref p∧i=.int k∧H p=some (.lst xs)∧dY xs.length k=some j∧Q (upd H p (.lst (xs.set j v)))
theorem AJ:rq X C9:=by
 intro pins s σ H o i v ov iv u Q I ro ri rv h
 obtain⟨p,xs,k,j,rfl,rfl,hp,hj,q⟩:=h
 cases ro
 obtain⟨t,rfl⟩:=ri
 obtain⟨its,n,r,ho,hz⟩:=I.lst hp
 obtain⟨h1,h2,h3,h4⟩:=sD hj
 have hl:=r.length
 have hn:=gu
 have I':Inv X pins σ (upd H p (.lst (xs.set j v))) {s with heap:=s.heap.update p (Obj.mapSeq (·.setIfInBounds j u))}:=
  I.lstUpd hp ho (De its n j u) (r.set rv j) (by rw[List.length_set];exact hz) s.toks
 by_cases h0:0≤k
 ·have hk:k.toNat=j:=by
   rw[seqIndex_of h0 h4] at h1
   exact Option.some.inj h1
  exact PySem.W.ki_setAt ho h0 (by lia) (by rw[List.size_toArray,←hl];exact h4) (by rw[hk];exact⟨_,I',q⟩)
 ·have hk:(k+(its.toArray.size:Int)).toNat=j:=by
   rw[seqIndex_neg (by lia) h3] at h1
   rw[List.size_toArray,←hl]
   exact Option.some.inj h1
  exact PySem.W.ki_setBack ho (by lia) (by rw[List.size_toArray,←hl];exact h3) (by lia) (by rw[hk];exact⟨_,I',q⟩)
theorem vX(lo hi:Option Int)(n:Nat):(sliceBounds lo hi none n).1=((HT.sIx n 0 lo:Nat):Int)∧(sliceBounds lo hi none n).2.1=((HT.sIx n n hi:Nat):Int)∧(sliceBounds lo hi none n).2.2=1:=by
 refine⟨?_,?_,rfl⟩
 ·cases lo with
  | none=>simp[sliceBounds,HT.sIx]
  | some i=>
    simp only[sliceBounds,HT.sIx,Option.getD_none,show(1:Int)>0 by decide,if_true]
    by_cases h:i<0
    ·simp only[h,if_true] <;> lia
    ·simp only[h,if_false] <;> lia
 ·cases hi with
  | none=>simp[sliceBounds,HT.sIx]
  | some i=>
    simp only[sliceBounds,HT.sIx,Option.getD_none,show(1:Int)>0 by decide,if_true]
    by_cases h:i<0
    ·simp only[h,if_true] <;> lia
    ·simp only[h,if_false] <;> lia
theorem Cv(its:List Value)(lo hi:Option Int):slicePick its.toArray lo hi none=((its.drop (HT.sIx its.length 0 lo)).take (HT.sIx its.length its.length hi-HT.sIx its.length 0 lo)).toArray:=by
 obtain⟨h1,h2,h3⟩:=vX lo hi its.toArray.size
 unfold slicePick
 rw[h1,h2,h3]
 simp only[sliceRange_one,pick_run,List.size_toArray] <;> rfl
def uO(K:PySem.W.Frag):V→Option Int→Option Int→Hp→VK→Prop:=fun x lo hi H Q=>∃a xs,x=.ref a∧SqL K H a xs∧∀p,H p=none→Q (.ref p) (upd H p (.lst (bA xs lo hi)))
theorem bR:sG X (uO X.K):=by
 intro pins s σ H x v vl vu lo hi sl Q I rx hs pl pu h
 obtain⟨a,xs,rfl,hx,q⟩:=h
 cases rx
 obtain⟨its,r,ht,hz⟩:=I.list hx
 have hlen:=r.length
 refine⟨"list",_,slot_list_getitem.lookup,ht.isList.typeIs,?_⟩
 refine wpAny_getItem_list_slice ht.isList hs pl pu .none (by simp) ?_ (by rw[List.size_toArray] <;> lia)
 rw[Cv,←hlen]
 refine⟨.ref s.heap.objs.size,_,I.laid (t':=s.toks) (o:=.lst (bA xs lo hi)) (fun b ob q=>Heap.get?_push_of_some _ q) (Nat.le_refl _) ?_,rfl,q _ (I.hok.fresh (Nat.le_refl _))⟩
 exact⟨Nat.le_trans (xD xs lo hi) hz,_,0,(r.drop (HT.sIx xs.length 0 lo)).take (HT.sIx xs.length xs.length hi-HT.sIx xs.length 0 lo),Heap.get?_push_size _ rfl⟩
def fP:V→Bool
 | .non=>true
 | .bl _=>true
 | .int _=>true
 | .str _=>true
 | _=>false
def eP:V→V→Bool
 | .non,.non=>true
 | .bl a,.bl b=>a == b
 | .bl a,.int b=>(if a then 1 else 0) == b
 | .int a,.bl b=>a == (if b then 1 else 0)
 | .int a,.int b=>a == b
 | .str a,.str b=>a == b
 | _,_=>false
theorem lW{A:Around}{s:Shared}{y x:V}{u v:Value}(ry:RelV y u)(rx:RelV x v)(fy:fP y=true)(fx:fP x=true):SeqAt.EqAt A s u v (eP y x):=by
 cases y with
 | non=>
   cases ry
   cases x with
   | non=>cases rx;exact SeqAt.EqAt.same _
   | bl b=>cases rx;exact SeqAt.EqAt.none_bool b
   | int b=>obtain⟨t,rfl⟩:=rx;exact SeqAt.EqAt.none_int b t
   | str b=>obtain⟨t,rfl⟩:=rx;exact SeqAt.EqAt.none_str b t
   | _=>exact absurd (show false=true from fx) Bool.false_ne_true
 | bl a=>
   cases ry
   cases x with
   | non=>cases rx;exact SeqAt.EqAt.bool_none a
   | bl b=>cases rx;exact SeqAt.EqAt.bool_bool a b
   | int b=>obtain⟨t,rfl⟩:=rx;exact SeqAt.EqAt.bool_int a b t
   | str b=>obtain⟨t,rfl⟩:=rx;exact SeqAt.EqAt.bool_str a b t
   | _=>exact absurd (show false=true from fx) Bool.false_ne_true
 | int a=>
   obtain⟨t',rfl⟩:=ry
   cases x with
   | non=>cases rx;exact SeqAt.EqAt.int_none a t'
   | bl b=>cases rx;exact SeqAt.EqAt.int_bool a t' b
   | int b=>obtain⟨t,rfl⟩:=rx;exact SeqAt.EqAt.int_int a t' b t
   | str b=>obtain⟨t,rfl⟩:=rx;exact SeqAt.EqAt.int_str a t' b t
   | _=>exact absurd (show false=true from fx) Bool.false_ne_true
 | str a=>
   obtain⟨t',rfl⟩:=ry
   cases x with
   | non=>cases rx;exact SeqAt.EqAt.str_none a t'
   | bl b=>cases rx;exact SeqAt.EqAt.str_bool a t' b
   | int b=>obtain⟨t,rfl⟩:=rx;exact SeqAt.EqAt.str_int a t' b t
   | str b=>obtain⟨t,rfl⟩:=rx;exact SeqAt.EqAt.str_str a t' b t
   | _=>exact absurd (show false=true from fx) Bool.false_ne_true
 | _=>exact absurd (show false=true from fy) Bool.false_ne_true
def cy(x:V)(u:Value):Bool:=match u with
 | .none=>eP .non x
 | .bool b=>eP (.bl b) x
 | .int i _=>eP (.int i) x
 | .str z _=>eP (.str z) x
 | _=>false
theorem qU{x y:V}{u:Value}(r:RelV y u)(f:fP y=true):cy x u=eP y x:=by
 cases y with
 | non=>cases r;rfl
 | bl b=>cases r;rfl
 | int i=>obtain⟨t,rfl⟩:=r;rfl
 | str z=>obtain⟨t,rfl⟩:=r;rfl
 | _=>exact absurd (show false=true from f) Bool.false_ne_true
theorem iE{x:V}:∀{xs:List V} {us:List Value},Vals xs us→xs.all fP=true→us.any (cy x)=xs.any fun y=>eP y x
 | _,_,.nil,_=>rfl
 | y::xs,u::us,.cons r t,f=>by
   rw[List.all_cons,Bool.and_eq_true] at f
   rw[List.any_cons,List.any_cons,qU r f.1,iE t f.2]
theorem iJ{A:Around}{s:Shared}{x:V}{v:Value}(rx:RelV x v)(fx:fP x=true):∀{xs:List V} {us:List Value},Vals xs us→xs.all fP=true→∀u∈us,SeqAt.EqAt A s u v (cy x u)
 | _,_,.nil,_=>fun u hu=>by cases hu
 | y::xs,u::us,.cons r t,f=>fun u' hu=>by
   rw[List.all_cons,Bool.and_eq_true] at f
   rcases List.mem_cons.mp hu with rfl | hu
   ·rw[qU r f.1];exact lW r rx f.1 fx
   ·exact iJ rx fx t f.2 u' hu
def hW(x:V)(xs:List V):Bool:=xs.any fun y=>eP y x
def uD(K:PySem.W.Frag)(neg:Bool):R2:=fun x y H Q=>∃p xs,y=.ref p∧(SqL K H p xs∨SqT K H p xs)∧fP x=true∧xs.all fP=true∧Q (.bl (if neg then !hW x xs else hW x xs)) H
theorem xU:OpR X (compareOp .In) (uD X.K false):=by
 intro pins s σ H x y v u Q I rx ry h
 obtain⟨p,xs,rfl,hq,fx,fs,q⟩:=h
 cases ry
 rcases hq with hq | hq
 ·obtain⟨its,r,pl,hz⟩:=I.list hq
  refine SeqAt.in_listAt (cy x) pl.isList (fun w hw=>iJ rx fx r fs w (by simpa using hw)) ⟨.bl _,H,I,rfl,?_⟩
  rw[show its.toArray.any (cy x)=its.any (cy x) by simp,iE r fs]
  exact q
 ·obtain⟨its,r,pl,hz⟩:=I.tuple hq
  refine SeqAt.in_tupleAt (cy x) pl (fun w hw=>iJ rx fx r fs w (by simpa using hw)) ⟨.bl _,H,I,rfl,?_⟩
  rw[show its.toArray.any (cy x)=its.any (cy x) by simp,iE r fs]
  exact q
theorem DL:OpR X (compareOp .NotIn) (uD X.K true):=by
 intro pins s σ H x y v u Q I rx ry h
 obtain⟨p,xs,rfl,hq,fx,fs,q⟩:=h
 cases ry
 rcases hq with hq | hq
 ·obtain⟨its,r,pl,hz⟩:=I.list hq
  refine SeqAt.notIn_listAt (cy x) pl.isList (fun w hw=>iJ rx fx r fs w (by simpa using hw)) ⟨.bl _,H,I,rfl,?_⟩
  rw[show its.toArray.any (cy x)=its.any (cy x) by simp,iE r fs]
  exact q
 ·obtain⟨its,r,pl,hz⟩:=I.tuple hq
  refine SeqAt.notIn_tupleAt (cy x) pl (fun w hw=>iJ rx fx r fs w (by simpa using hw)) ⟨.bl _,H,I,rfl,?_⟩
  rw[show its.toArray.any (cy x)=its.any (cy x) by simp,iE r fs]
  exact q
theorem BC:cU X (.builtin "len") (fun xs H Q=>∃p ys,xs=[.ref p]∧(SqL X.K H p ys∨SqT X.K H p ys)∧Q (.int ys.length) H):=by
 intro pins s σ H xs us Q I r h
 obtain⟨p,ys,rfl,hq,q⟩:=h
 obtain⟨u,rfl,rx⟩:=eS r
 cases rx
 have hn:=gu
 rcases hq with hq | hq
 ·obtain⟨its,r',pl,hz⟩:=I.list hq
  have hlen:=r'.length
  exact Calls.call_len_list pl.isList (by simp only[List.size_toArray] <;> lia) ⟨.int ys.length,H,I.tok _,⟨s.toks+1,by rw[List.size_toArray,hlen]⟩,q⟩
 ·obtain⟨its,r',pl,hz⟩:=I.tuple hq
  have hlen:=r'.length
  exact len_tuple pl (by simp only[List.size_toArray] <;> lia) ⟨.int ys.length,H,I.tok _,⟨s.toks+1,by rw[List.size_toArray,hlen]⟩,q⟩
theorem Bv:cU X (.builtin "len") (fun xs H Q=>∃z,xs=[.str z]∧z.length≤sizeLine∧Q (.int z.length) H):=by
 intro pins s σ H xs us Q I r h
 obtain⟨z,rfl,hz,q⟩:=h
 obtain⟨u,rfl,t,rfl⟩:=eS r
 have hn:=gu
 exact len_str (by lia) ⟨.int z.length,H,I.tok _,⟨_,rfl⟩,q⟩
theorem zD:cU X (.type "list") (fun xs H Q=>∃p ys,xs=[.ref p]∧(SqL X.K H p ys∨SqT X.K H p ys)∧∀l,H l=none→Q (.ref l) (upd H l (.lst ys))):=by
 intro pins s σ H xs us Q I r h
 obtain⟨p,ys,rfl,hq,q⟩:=h
 obtain⟨u,rfl,rx⟩:=eS r
 cases rx
 have fin:∀(its:List Value),Vals ys its→ys.length≤sizeLine→∀(h':Heap) (c':Nat),(∀b o',s.heap.get? b=some o'→h'.get? b=some o')→
  h'.get? s.heap.objs.size=some {cls:=.type "list",dict:=none,data:=.seq its.toArray c',slots:=#[]}→EP X pins σ Q (.ref s.heap.objs.size) {s with heap:=h'}:=fun its r' hz h' c' kp e=>
  ⟨.ref s.heap.objs.size,_,I.laid (t':=s.toks) kp (Nat.le_refl _) (show ObjOk X.prog X.w _ h' _ (.lst ys) from⟨hz,its,c',r',e⟩),rfl,q _ (I.hok.fresh (Nat.le_refl _))⟩
 rcases hq with hq | hq
 ·obtain⟨its,r',pl,hz⟩:=I.list hq
  have hlen:=r'.length
  obtain⟨o,ho,hc,n,hd⟩:=pl.isList
  exact call_list_seq p (.inl rfl) ho hc hd (fun h' c' kp e=>fin its r' hz h' c' kp e) (by simp only[List.size_toArray] <;> lia)
 ·obtain⟨its,r',pl,hz⟩:=I.tuple hq
  have hlen:=r'.length
  obtain⟨o,ho,hc,n,hd⟩:=pl
  exact call_list_seq p (.inr rfl) ho hc hd (fun h' c' kp e=>fin its r' hz h' c' kp e) (by simp only[List.size_toArray] <;> lia)
def si(K:PySem.W.Frag)(T:String)(x:V)(H:Hp):Prop:=match x with
 | .str _=>T="str"
 | .int _=>T="int"
 | .ref p=>(T="list"∧∃xs,SqL K H p xs)∨(T="tuple"∧∃o,K.lookup p=some o∧o.cls=.type "tuple"∧o.dict=none)∨
  (T="dict"∧((∃kvs,H p=some (.dK kvs))∨∃kvs,H p=some (.dT kvs)))∨(T="set"∧∃S n,H p=some (.set S n))
 | _=>False
theorem vD{pins:List (Addr×Obj)}{σ:St}{H:Hp}{s:Shared}{T:String}{x:V}{v:Value}(I:Inv X pins σ H s)(r:RelV x v)(ty:si X.K T x H):s.TypeIs v T∧∀a,v=.ref a→∃ob,s.heap.get? a=some ob∧ob.dict=none:=by
 cases x with
 | str z=>
   obtain⟨t,rfl⟩:=r
   cases(show T="str" from ty)
   exact⟨typeIs_str s z t,fun _ e=>nomatch e⟩
 | int i=>
   obtain⟨t,rfl⟩:=r
   cases(show T="int" from ty)
   exact⟨typeIs_int s i t,fun _ e=>nomatch e⟩
 | ref p=>
   cases r
   rcases ty with⟨rfl,xs,hq⟩ | ⟨rfl,o,hk,hc,hd⟩ | ⟨rfl,hk⟩ | ⟨rfl,S,n,hk⟩
   ·obtain⟨its,_,pl,_⟩:=I.list hq
    refine⟨pl.isList.typeIs,fun a e=>?_⟩
    cases e
    obtain⟨o,n,e,c,hd,_⟩:=pl
    exact⟨o,e,hd⟩
   ·refine⟨⟨o,I.kIn p o hk,hc⟩,fun a e=>?_⟩
    cases e
    exact⟨o,I.kIn _ o hk,hd⟩
   ·have z:∃o,s.heap.get? p=some o∧o.ExactDict:=by
     rcases hk with⟨kvs,hk⟩ | ⟨kvs,hk⟩
     ·obtain⟨_,_,_,_,o,_,_,e,ex,_⟩:=I.hok p _ hk
      exact⟨o,e,ex⟩
     ·obtain⟨_,_,_,_,o,_,_,e,ex,_⟩:=I.hok p _ hk
      exact⟨o,e,ex⟩
    obtain⟨o,e,ex⟩:=z
    refine⟨⟨o,e,ex.1⟩,fun a e2=>?_⟩
    cases e2
    exact⟨o,e,ex.2.1⟩
   ·obtain⟨o,_,_,_,e,ex,_⟩:=I.hok p _ hk
    refine⟨⟨o,e,ex.1⟩,fun a e2=>?_⟩
    cases e2
    exact⟨o,e,ex.2.1⟩
 | _=>exact False.elim ty
def Bg(K:PySem.W.Frag)(T:String)(r:V→List V→Hp→VK→Prop)(to:TE)(t:TA):TE:=fun σ H Q=>to σ H fun x H1=>si K T x H1∧t σ H1 fun xs H2=>r x xs H2 Q
variable{o e:Expr}{es:List Expr}{to:TE}{t:TA}{name:Str}{apos cpos:Pos}{T id:String}{r:V→List V→Hp→VK→Prop}
theorem cJ(pa:PlainAttrs T)(slot:Slot T name id)(hty:typeOf (.builtin id)=pure (.type "method_descriptor"))(hm:vW X id r)(ho:PE X o to)(ha:PA X (e::es) t)(hbase:attributeBase o name X.env (eval o X.env)=eval o X.env:=by rfl)
 (hfew:((backTo cpos (starEach (e::es) X.env)).all (fun x=>!x.1) && (backToKw cpos (keywordEach [] X.env)).all (fun x=>x.1.isSome)
  && decide ((e::es).length+([]:List Keyword).length+(if([]:List Keyword).isEmpty then 0 else 1)<30))=true:=by rfl)
 (hline:(apos.endLine == cpos.line)=true:=by rfl)(hs:starEach (e::es) X.env=(false,eval e X.env)::starEach es X.env:=by rfl)(hplain:(backTo cpos (starEach es X.env)).any (·.1)=false:=by rfl):
 PE X (.Call (.Attribute o name apos) (e::es) [] cpos) (Bg X.K T r to t):=by
 intro pins s σ H Q I h
 refine wpAny_Call_method_late hbase hfew hline rfl (am (ho pins s σ H _ I h) fun v s1 ⟨x,H1,I1,r1,ty,q1⟩=>?_)
 obtain⟨h1,h2⟩:=vD I1 r1 ty
 refine⟨T,id,pa,slot,hty,h1,h2,?_⟩
 have hA:=ha cpos pins s1 σ H1 _ I1 q1
 rw[hs] at hA ⊢
 refine Calls.callWith_builtin (by show(false || (backTo cpos (starEach es X.env)).any (·.1))=false;rw[hplain] <;> rfl) (Calls.evalArgs_plain ?_)
 exact am hA fun us s2 ⟨vs,H2,I2,r2,q2⟩=>hm pins s2 σ H2 x vs v us Q I2 r1 r2 q2
end
def nt(X:Cx)(id:String)(r:V→List V→Hp→VK→Prop):Prop:=
 ∀ (pins:List (Addr×Obj)) (s:Shared) (σ:St) (H:Hp) (x:V) (xs:List V) (v:Value) (us:List Value) (Q:VK),Inv X pins σ H s→RelV x v→Vals xs us→r x xs H Q→
   wpAny (model X.prog X.w) X.A (call (.builtin id) (v::us)) (EP X pins σ Q) X.xe s
theorem Vals.one:∀{x:V} {us:List Value},Vals [x] us→∃u,us=[u]∧RelV x u
 | _,_,.cons r .nil=>⟨_,rfl,r⟩
theorem Vals.two:∀{x y:V} {us:List Value},Vals [x,y] us→∃u v,us=[u,v]∧RelV x u∧RelV y v
 | _,_,_,.cons r (.cons q .nil)=>⟨_,_,rfl,r,q⟩
theorem Vals.rep{xs:List V}{us:List Value}(h:Vals xs us):∀k:Nat,Vals (List.replicate k xs).flatten (List.replicate k us).flatten
 | 0=>.nil
 | k+1=>by
   rw[List.replicate_succ,List.replicate_succ,List.flatten_cons,List.flatten_cons]
   exact Vals.append h (Vals.rep h k)
theorem uB(its:List Value):∀(k:Nat) (acc:List Value),List.foldl (fun x1 x2=>x1++x2) acc.toArray (List.replicate k its.toArray)=(acc++(List.replicate k its).flatten).toArray
 | 0,acc=>by simp
 | k+1,acc=>by
   have e:acc.toArray++its.toArray=(acc++its).toArray:=by simp
   have e2:(acc++its)++(List.replicate k its).flatten=acc++(List.replicate (k+1) its).flatten:=by
    rw[List.replicate_succ,List.flatten_cons,List.append_assoc]
   rw[←e2,←uB its k (acc++its),←e,List.replicate_succ,List.foldl_cons]
section
variable{X:Cx}{pins:List (Addr×Obj)}{σ:St}{H:Hp}{s:Shared}{l b:Addr}{xs ys zs:List V}
theorem Inv.lset{its its':List Value}{n:Nat}{f:Array Value→Array Value}{t':Nat}(I:Inv X pins σ H s)(hH:H l=some (.lst xs))(e:s.heap.get? l=some {cls:=.type "list",data:=.seq its.toArray n})(hf:f its.toArray=its'.toArray)(hv:Vals ys its')(hz:ys.length≤sizeLine):Inv X pins σ (upd H l (.lst ys)) {s with heap:=s.heap.update l (Obj.mapSeq f),toks:=t'}:=by
 have q:=PySem.IsL.update e f
 rw[hf] at q
 refine I.write (x:=l) (e:=l) (by rw[hH];exact trivial) (.inl rfl) (fun b' u hb hu=>(Heap.get?_update_other s.heap (Obj.mapSeq f) (Ne.symm hb)).trans hu) ⟨_,q⟩ ?_
 exact⟨hz,its',_,hv,q⟩
theorem Inv.lnew{its:List Value}{t':Nat}(I:Inv X pins σ H s)(hv:Vals ys its)(hz:ys.length≤sizeLine):Inv X pins σ (upd H s.heap.objs.size (.lst ys)) {s with heap:=s.heap.push {cls:=.type "list",data:=.seq its.toArray},toks:=t'}:=
 I.laid (fun _ _ q=>Heap.get?_push_of_some _ q) (Nat.le_refl _) ⟨hz,its,0,hv,Heap.get?_push_size _ rfl⟩
theorem Inv.fresh(I:Inv X pins σ H s):H s.heap.objs.size=none:=I.hok.fresh (Nat.le_refl _)
theorem Inv.lstM(I:Inv X pins σ H s)(hH:H l=some (.lst xs)):xs.length≤sizeLine∧∃(its:List Value) (n:Nat),Vals xs its∧xs.length=its.length∧s.heap.get? l=some {cls:=.type "list",data:=.seq its.toArray n}:=by
 obtain⟨z,its,n,r,e⟩:=I.hok l _ hH
 exact⟨z,its,n,r,r.length,e⟩
theorem yQ{n:Nat}(h:n≤sizeLine):Builtin.List.listTooLong n=false:=by
 unfold Builtin.List.listTooLong
 exact decide_eq_false (by lia)
end
section
variable{X:Cx}
def AQ:V→List V→Hp→VK→Prop:=fun x vs H Q=>∃l xs y,x=.ref l∧vs=[y]∧H l=some (.lst xs)∧xs.length<sizeLine∧Q .non (upd H l (.lst (xs++[y])))
theorem iN:nt X "list.append" AQ:=by
 intro pins s σ H x vs v us Q I rx rv h
 obtain⟨l,xs,y,rfl,rfl,hH,hz,q⟩:=h
 cases rx
 obtain⟨u,rfl,ru⟩:=rv.one
 obtain⟨z,its,n,r,hl,e⟩:=I.lstM hH
 refine call_meets F.slot_list_append ⟨_,e,rfl⟩ F.entry_list_append (F.args_list_append_2 _ _) (PySem.list_append l its.toArray n u (by rw[List.size_toArray];lia)) ⟨e,?_⟩
 refine⟨.non,_,I.lset (its':=its++[u]) hH e (by simp) (r.append (.cons ru .nil)) ?_,rfl,q⟩
 rw[List.length_append,List.length_singleton]
 lia
def lj:R2:=fun x y H Q=>∃l b xs zs,x=.ref l∧y=.ref b∧H l=some (.lst xs)∧H b=some (.lst zs)∧xs.length+zs.length≤sizeLine∧∀p,H p=none→Q (.ref p) (upd H p (.lst (xs++zs)))
theorem dU:OpR X (binaryOp .Add) lj:=by
 intro pins s σ H x y v u Q I rx ry h
 obtain⟨l,b,xs,zs,rfl,rfl,hH,hB,hz,q⟩:=h
 cases rx
 cases ry
 obtain⟨z,its,n,r,hl,e⟩:=I.lstM hH
 obtain⟨z2,its2,n2,r2,hl2,e2⟩:=I.lstM hB
 refine PySem.P.add_list e e2 ?_ (by rw[List.size_toArray,List.size_toArray];lia)
 have ea:its.toArray++its2.toArray=(its++its2).toArray:=by simp
 rw[ea]
 exact⟨.ref _,_,I.lnew (t':=s.toks) (r.append r2) (by rw[List.length_append];lia),rfl,q _ I.fresh⟩
def qr:R2:=fun x y H Q=>∃l k xs,x=.ref l∧y=.int k∧H l=some (.lst xs)∧ -(2 ^ 63)≤k∧k<2 ^ 63∧xs.length*k.toNat≤sizeLine∧
 ∀p,H p=none→Q (.ref p) (upd H p (.lst (List.replicate k.toNat xs).flatten))
theorem BS{α:Type}(xs:List α)(k:Nat):(List.replicate k xs).flatten.length=k*xs.length:=by
 induction k with
 | zero=>simp
 | succ k ih=>rw[List.replicate_succ,List.flatten_cons,List.length_append,ih,Nat.succ_mul,Nat.add_comm]
theorem uf:OpR X (binaryOp .Mult) qr:=by
 intro pins s σ H x y v u Q I rx ry h
 obtain⟨l,k,xs,rfl,rfl,hH,h1,h2,hz,q⟩:=h
 cases rx
 obtain⟨t,rfl⟩:=ry
 obtain⟨z,its,n,r,hl,e⟩:=I.lstM hH
 have hlen:its.toArray.size*k.toNat≤sizeLine:=by rw[List.size_toArray,←hl];exact hz
 have hcap:¬its.toArray.size*k.toNat>(2 ^ 63-1) / 8:=by
  have:(sizeLine:Nat)≤(2 ^ 63-1) / 8:=by decide
  lia
 have hfit:¬(!Builtin.List.listFitsIndex k)=true:=by
  rw[fitsIndex_both h1 h2]
  exact Bool.false_ne_true
 have hlong:¬Builtin.List.listTooLong (its.toArray.size*k.toNat)=true:=by
  rw[yQ hlen]
  exact Bool.false_ne_true
 have hnew:List.foldl (fun x1 x2=>x1++x2) #[] (List.replicate (if its.toArray.isEmpty=true then 0 else k.toNat) its.toArray)=(List.replicate k.toNat its).flatten.toArray:=by
  have f0:∀m:Nat,List.foldl (fun x1 x2=>x1++x2) #[] (List.replicate m its.toArray)=(List.replicate m its).flatten.toArray:=fun m=>by
   have:=uB its m []
   rw[List.nil_append] at this
   exact this
  rw[f0]
  cases its with
  | nil=>simp
  | cons a r'=>rw[if_neg (by simp)]
 refine wpAny_binaryOp_repeat_ref (T:="list") (U:="int") (by decide) ⟨_,e,rfl⟩ (fun s'=>typeIs_int s' k t) noFill_list_mul F.fills_int_mul F.slot_int_rmul repeat_list F.slot_int_index.lookup
  (call_meets F.slot_int_rmul (typeIs_int s k t) F.entry_int_rmul (F.args_int_rmul_2 _ _) (int___rmul___int_list k t l its.toArray n)
   ⟨e,rfl,⟨_,e,rfl⟩,call_meets F.slot_list_mul ⟨_,e,rfl⟩ F.entry_list_mul (F.args_list_mul_2 _ _) (AutoListH.list___mul___list_int_3 l its.toArray n k t hfit hcap hlong) ⟨e,?_⟩⟩)
 rw[hnew]
 exact⟨.ref _,_,I.lnew (t':=s.toks) (r.rep k.toNat) (by rw[BS,Nat.mul_comm];exact hz),rfl,q _ I.fresh⟩
end
section
variable{prog:Program}{w:World}{A:Around}{E:Value→Shared→Prop}{s:Shared}
set_option maxRecDepth 100000 in
end
section
variable{X:Cx}
end
end L2
namespace Att
open PySem PySem.W PySem.Calls PyProof.Rows
theorem zJ{P:Params}{h:Heap}:∀(ns:List Int) (vs:List Value),WellAll P h vs (ns.map WData.int)→IntsAre vs ns:=by
 intro ns
 induction ns with
 | nil=>
   intro vs w
   rw[List.map_nil] at w
   cases w
   exact .nil
 | cons n ns ih=>
   intro vs w
   rw[List.map_cons] at w
   cases w with
   | cons a b=>
     cases a
     exact .cons _ _ (ih _ b)
theorem Bk{l:OpenLaw}{n:Nat}(hn:l.most=some n){P:Params}{h:Heap}{args:List WData}{vals:List Value}(hpre:l.row.toRowW.claim.pre args=true)(hwl:WellAll P h vals args):∃a vs ns,vals=[Value.ref a]∧args=[WData.list (ns.map WData.int)]∧h.get? a=some {cls:=.type "list",data:=.seq vs.toArray}∧IntsAre vs ns∧ns.length≤n:=by
 have hsh:WShape.hasAll [] args [.list .int]=true:=(pre_splitW hpre).1
 have hc:l.pre.holds [] {args:=args}=true:=(pre_splitW hpre).2
 obtain⟨d,r,rfl,h1,h2⟩:=hasAllW_cons hsh
 obtain rfl:=hasAllW_nil h2
 obtain⟨xs,rfl,h3⟩:=hasW_list h1
 obtain⟨ns,rfl⟩:=items_int h3
 have hlen:ns.length≤n:=by
  unfold OpenLaw.pre at hc
  have h4:(WTm.not (.lt (.lit (.int (n:Int))) (.len (.arg 0)))).holds [] {args:=[.list (ns.map .int)]}=true:=by
   have h4:=(holds_andW hc).1
   rw[hn] at h4
   exact h4
  have h5:=condW_of h4 (w_not (w_lt w_lit (w_len_list (w_arg rfl))))
  rw[List.length_map] at h5
  refine Nat.le_of_not_lt fun q=>?_
  have q':(n:Int)<((ns.length:Nat):Int):=by lia
  first
   | (rw[decide_eq_true q'] at h5;exact absurd h5 (by decide))
   | (simp at h5;lia)
 cases hwl with
 | cons w1 w2=>
   cases w2
   cases w1 with
   | list ho hall=>exact⟨_,_,ns,rfl,rfl,ho,zJ ns _ hall,hlen⟩
theorem Ba(l:OpenLaw)(args:List WData):l.row.toRowW.claim.post args (.bool true) args=true:=
 postW_of (r:=l.row.toRowW) (X:=(true == true))
  (show WShape.has [] (.bool true) .bool=true by first | rfl | decide | simp[WShape.has,WShape.arms,WShape.armsAll])
  (show(WTm.eq .res (.lit (.bool true))).value [] {args:=args,res:=some (.bool true),after:=args}=some (.bool (true == true)) from w_eq_bool (w_res rfl) w_lit) rfl
theorem attach_call{l:OpenLaw}{n:Nat}{q:Program}{loose:List Str}{XP:(Str→Option Value)→Heap→Prop}{YP:World→Heap→Prop}{d:DefRec}(hn:l.most=some n)(hdf:d.params.defaults=[])(call:∀(w:World) (s₀ s₁:Shared) (mg mb:Str→Option Value) (fa:Addr) (o:Obj) (pm cd doc:Value) (a:Addr) (vs:List Value) (ns:List Int),Ground q loose [] XP w s₀ mg mb s₁.heap→YP w s₁.heap→s₁.heap.get? fa=some o→o.data=.func (docDef d.name d.params d.body d.scope pm cd doc)→s₁.heap.CodeRec cd d.name→mg d.name=some (.ref fa)→s₁.heap.get? a=some {cls:=.type "list",data:=.seq vs.toArray}→IntsAre vs ns→ns.length≤n→s₁.gens=#[]→codeAny (model l.prog w) callerA (.call (.ref fa) ⟨[.ref a],[]⟩) (fun r s'=>r=.ok (.ret (.bool true))∧OldK s₁.heap s'.heap∧s'.os=s₁.os∧AllBare s'.gens) s₁):
 WalkO q loose XP YP l.row.toRowW d [] (fun f vs=>PySem.call f vs):=by
 intro w s₀ s₁ mg mb G Y fa o pm cd doc dV kV ho hd hcd hD hmg hg args vals as hpre hlay hrd hwl hlo
 obtain rfl:dV=.none:=Dflts.none hD hdf
 obtain rfl:kV=.none:=Dflts.noKw hD
 obtain⟨a,vs,ns,rfl,rfl,hobj,hints,hlen⟩:=Bk hn hpre hwl
 refine enter_call (codeAny_mono (call w s₀ s₁ mg mb fa o pm cd doc a vs ns G Y ho (fd_plain hd) hcd hmg hobj hints hlen hg) fun r s' hq=>?_)
 obtain⟨rfl,h2,h3,h4⟩:=hq
 exact⟨.inl ⟨.bool true,.bool true,[],rfl,fun _=>rfl,.bool true,Ba l _,fun _=>⟨List.Pairwise.nil,fun _ hm=>(nomatch hm)⟩⟩,h2,h3,h4⟩
section
variable{prog:Program}{w:World}{A:Around}{E:Value→Shared→Prop}{s:Shared}{K:Frag}
def EH(h:Heap)(L d:Addr):List (Addr×Obj):=(List.range h.objs.size).filterMap fun a=>if a=L∨a=d then none else(h.get? a).map fun o=>(a,o)
end
end Att
namespace L2
open PySem PySem.Spec PyProof.Rows
theorem sw:∀{vs:List Value} {ns:List Int},IntsAre vs ns→Vals (ns.map V.int) vs
 | _,_,.nil=>.nil
 | _,_,.cons n t h=>.cons ⟨t,rfl⟩ (sw h)
abbrev EG{K:PySem.W.Frag}{h:Heap}(_:K.In h):PySem.W.Frag:=K
def jZ(s:Stmt)(j:Nat):Stmt:=match s with
 | .ClassDef _ _ _ body _ _ _ _ _ _ _=>body.getD j (.Pass ⟨0,0,0,0⟩)
 | _=>.Pass ⟨0,0,0,0⟩
def cf(s:Stmt):Arguments:=match s with
 | .FunctionDef _ a _ _ _ _ _ _ _ _=>a
 | _=>{posonlyargs:=[],args:=[],vararg:=none,kwonlyargs:=[],kw_defaults:=[],kwarg:=none,defaults:=[]}
def bG(s:Stmt):List Stmt:=match s with
 | .FunctionDef _ _ b _ _ _ _ _ _ _=>b
 | _=>[]
def al(s:Stmt):Scope:=match s with
 | .FunctionDef _ _ _ _ _ _ sc _ _ _=>sc
 | _=>{kind:=.function,names:=[],isGenerator:=false,isCoroutine:=false}
abbrev ae:bd:=fun _ _ _ _ _ _=>False
abbrev E0:XK:=fun _ _ _=>False
theorem ak{X:Cx}:cA ae X E0:=fun _ _ _ _ _ _ _ h=>h.elim
structure Fun(K:PySem.W.Frag)(x qual:Str)(st:Stmt)(f:Addr)(fd:FuncData):Prop where
 ex:∃(oc:Value) (od:Option Addr) (kV doc pm:Value) (an:Option Addr) (cdv ct:Value) (osl:Array (Option Value)),
  fd=PySem.W.fnOf x qual (cf st) (bG st) (al st) .none kV doc pm an cdv ct∧K.lookup f=some ⟨oc,od,.func fd,osl⟩∧PySem.W.codeIn K cdv qual=true
 kp:PySem.W.keepIn K (.ref f)=true
section
variable{P:Program}{w:World}{K:PySem.W.Frag}{mg:Str→Option Value}{base:Heap}
theorem Fun.ok{x qual:Str}{st:Stmt}{f:Addr}{fd:FuncData}{N ps:List Str}{k:Nat}{sp:Sp}(F:Fun K x qual st f fd)(S:FnScope N ps (al st))(len:∀vs H Q E,sp vs H Q E→vs.length=ps.length)(hbody:∀(cdv:Value) (A:Around) (outer:List Env) (s:Shared) (H:Hp) (vs:List V) (Q:VK) (E:XK),Room k (A.deeper (envOfC qual (al st) s.heap.objs.size f cdv))→sp vs H Q E→∃t,PSs (bW ae P w K mg base N qual (al st) f cdv A outer s H E).nox (bG st) t∧t {nx:=fun _ H'=>Q .non H',rt:=Q} (ck N vs) H):FnOk P w K mg base ae (k+1) f fd ps sp:=by
 obtain⟨oc,od,kV,doc,pm,an,cdv,ct,osl,rfl,lk,hcd⟩:=F.ex
 refine jw lk hcd S len fun A outer s H vs Q E hr hsp=>?_
 obtain⟨t,h,q⟩:=hbody cdv A outer s H vs Q E hr hsp
 exact⟨t,h.nox,q⟩
theorem Fun.binds{x qual:Str}{st:Stmt}{f:Addr}{fd:FuncData}{ps:List Str}(F:Fun K x qual st f fd)(h:∀(kV doc pm:Value) (an:Option Addr) (cdv ct:Value) (us:List Value),us.length=ps.length→bindArgs (PySem.W.fnOf x qual (cf st) (bG st) (al st) .none kV doc pm an cdv ct) ⟨us,[]⟩=pure (ps.zip us)):Binds K fd ps []:=by
 obtain⟨oc,od,kV,doc,pm,an,cdv,ct,osl,rfl,lk,hcd⟩:=F.ex
 exact .all (h kV doc pm an cdv ct)
theorem ir{x qual:Str}{st:Stmt}{f:Addr}{oc:Value}{od an:Option Addr}{osl:Array (Option Value)}{kV doc pm cdv ct:Value}(l:K.lookup f=some ⟨oc,od,.func (PySem.W.fnOf x qual (cf st) (bG st) (al st) .none kV doc pm an cdv ct),osl⟩)(c:PySem.W.codeIn K cdv qual=true)(k:PySem.W.keepIn K (.ref f)=true):Fun K x qual st f (PySem.W.fnOf x qual (cf st) (bG st) (al st) .none kV doc pm an cdv ct):=⟨⟨oc,od,kV,doc,pm,an,cdv,ct,osl,rfl,l,c⟩,k⟩
end
theorem cI{A:Around}{k:Nat}(hr:Room k A):A.units+1<cLine:=Nat.lt_of_le_of_lt (Nat.add_le_add_left (by decide:1≤64) _) hr.units
theorem bD{n:Nat}(h:n≤1000):n<sizeLine:=Nat.lt_of_le_of_lt h (by decide)
section
variable{X:Cx}
theorem pv(i:Nat){x:Str}{pos:Pos}(hN:X.N[i]?=some x:=by rfl)(hv:m9 X.env.scope x:=by first | exact Or.inl rfl | exact Or.inr (Or.inl rfl) | exact Or.inr (Or.inr rfl))(hd:(x == ("__debug__":Str))=false:=by decide)
 (hcd:(x == ("__classdict__":Str))=false:=by decide):PE X (.Name x pos) (gf i):=yE hN hv hd hcd
end
theorem ao{A B:Prop}(h:B):if false=true then A else B:=by
 rw[if_neg Bool.false_ne_true]
 exact h
theorem aE{A B:Prop}(h:A):if true=true then A else B:=by
 rw[if_pos rfl]
 exact h
theorem bN{c A B:Prop}[Decidable c](h1:c→A)(h2:¬c→B):if c then A else B:=by
 by_cases h:c
 ·rw[if_pos h]
  exact h1 h
 ·rw[if_neg h]
  exact h2 h
def Same(H H':Hp):Prop:=∀b o,H b=some o→H' b=some o
theorem Same.refl(H:Hp):Same H H:=fun _ _ h=>h
theorem Same.trans{H H1 H2:Hp}(a:Same H H1)(b:Same H1 H2):Same H H2:=fun c o h=>b c o (a c o h)
theorem Same.free{H H':Hp}(e:Same H H'){l:Addr}(h:H' l=Option.none):H l=Option.none:=by
 cases q:H l with
 | none=>rfl
 | some o=>
   rw[e l o q] at h
   cases h
theorem Same.seq{K:PySem.W.Frag}{H H':Hp}{a:Addr}{xs:List V}(e:Same H H')(h:SqL K H a xs):SqL K H' a xs:=by
 rcases h with(h | ⟨o,h⟩) | h
 ·exact .inl (.inl (e _ _ h))
 ·exact .inl (.inr ⟨o,e _ _ h⟩)
 ·exact .inr h
end L2
set_option maxHeartbeats 4000000
namespace L2
open PySem PySem.Spec PyProof.Rows
def iC(outer sc:Scope)(x:Str)(M N:List Str):Bool:=
 decide (sc.kind=.function) && sc.names.all (fun y=>decide (y.2≠ .cell)) && sc.names.all (fun y=>decide (y.2=.local→sc.names.lookup y.1=some .local)) && decide (sc.names.lookup x=some .local) &&
 sc.names.all (fun y=>decide (y.2=.free→(outer.names.lookup y.1=some .cell∨outer.names.lookup y.1=some .free))) &&
 decide ((M++[x]).Nodup) && decide (M.length=N.length) && (M.zip N).all (fun p=>decide (p.1=p.2∨sc.names.lookup p.1=none)) && M.all (fun y=>decide (sc.names.lookup y≠some .local))
theorem uV{env:Env}:∀{names:List (Str×NameKind)} {x:Str} {k':NameKind},(names.map fun(n,k)=>if(k == NameKind.free && env.scope.kind == .function && env.kindOf n == some .cell) then(n,NameKind.cell) else(n,k)).lookup x=some k'→
 ∃k,names.lookup x=some k∧(k'=k∨(k=.free∧k'=.cell))
 | [],_,_,h=>by simp at h
 | (n,k)::r,x,k',h=>by
   have ih:= @uV env r x k'
   have h':List.lookup x ((if(k == NameKind.free && env.scope.kind == .function && env.kindOf n == some .cell)=true then(n,NameKind.cell) else(n,k))::_)=some k':=h
   cases hx:x == n with
   | true=>
     by_cases hc:((k == NameKind.free && env.scope.kind == .function && env.kindOf n == some .cell))=true
     ·rw[if_pos hc] at h'
      simp only[List.lookup_cons,hx] at h'
      refine⟨k,by simp[List.lookup_cons,hx],.inr ⟨?_,(Option.some.inj h').symm⟩⟩
      simp only[Bool.and_eq_true,beq_iff_eq] at hc
      exact hc.1.1
     ·rw[if_neg hc] at h'
      simp only[List.lookup_cons,hx] at h'
      exact⟨k,by simp[List.lookup_cons,hx],.inl (Option.some.inj h').symm⟩
   | false=>
     have h'':List.lookup x (r.map fun(n,k)=>if(k == NameKind.free && env.scope.kind == .function && env.kindOf n == some .cell) then(n,NameKind.cell) else(n,k))=some k':=by
      by_cases hc:((k == NameKind.free && env.scope.kind == .function && env.kindOf n == some .cell))=true
      ·rw[if_pos hc] at h';simp only[List.lookup_cons,hx] at h';exact h'
      ·rw[if_neg hc] at h';simp only[List.lookup_cons,hx] at h';exact h'
     obtain⟨k0,a,b⟩:=ih h''
     exact⟨k0,by simp only[List.lookup_cons,hx];exact a,b⟩
theorem oh{env:Env}:∀(names:List (Str×NameKind)) (cs:List (Str×Addr)),(∀y∈names,y.2=.free→∃c,env.cells.lookup y.1=some c)→(∀y c,cs.lookup y=some c→env.cells.lookup y=some c)→∃cl,(forIn names cs fun(x:Str×NameKind) (r:List (Str×Addr))=>(if(x.2 == NameKind.free)=true then(do let a←cellOf env x.1;pure (ForInStep.yield ((x.1,a)::r))) else pure (ForInStep.yield r):Sem _))=pure cl∧
 (∀y c,cl.lookup y=some c→env.cells.lookup y=some c)∧(∀y,((∃c,cs.lookup y=some c)∨(y,NameKind.free)∈names)→∃c,cl.lookup y=some c)
 | [],cs,_,hc=>⟨cs,rfl,hc,fun y h=>by
  rcases h with h | h
  ·exact h
  ·cases h⟩
 | (n,k)::r,cs,hf,hc=>by
   by_cases hk:k=.free
   ·subst hk
    obtain⟨a,ha⟩:=hf (n,.free) List.mem_cons_self rfl
    have hc':∀y c,List.lookup y ((n,a)::cs)=some c→env.cells.lookup y=some c:=fun y c e=>by
     simp only[List.lookup_cons] at e
     split at e
     ·rename_i q
      have q':y=n:=by simpa using q
      subst q'
      exact ha.trans e
     ·exact hc y c e
    obtain⟨cl,h1,h2,h3⟩:=oh r ((n,a)::cs) (fun y hy=>hf y (List.mem_cons_of_mem _ hy)) hc'
    refine⟨cl,?_,h2,fun y h=>?_⟩
    ·rw[List.forIn_cons]
     show((if(NameKind.free == NameKind.free)=true then(do let a←cellOf env n;pure (ForInStep.yield ((n,a)::cs))) else pure (ForInStep.yield cs):Sem _) >>= _)=_
     rw[if_pos (by decide)]
     have e:cellOf env n=pure a:=by unfold cellOf;rw[ha]
     rw[e]
     exact h1
    ·refine h3 y ?_
     rcases h with⟨c,h⟩ | h
     ·left
      simp only[List.lookup_cons]
      split
      ·exact⟨_,rfl⟩
      ·exact⟨c,h⟩
     ·rcases List.mem_cons.mp h with q | q
      ·left
       cases q
       exact⟨a,by simp[List.lookup_cons]⟩
      ·exact .inr q
   ·obtain⟨cl,h1,h2,h3⟩:=oh r cs (fun y hy=>hf y (List.mem_cons_of_mem _ hy)) hc
    refine⟨cl,?_,h2,fun y h=>?_⟩
    ·rw[List.forIn_cons]
     show((if(k == NameKind.free)=true then(do let a←cellOf env n;pure (ForInStep.yield ((n,a)::cs))) else pure (ForInStep.yield cs):Sem _) >>= _)=_
     rw[if_neg (by simpa using hk)]
     exact h1
    ·refine h3 y ?_
     rcases h with h | h
     ·exact .inl h
     ·rcases List.mem_cons.mp h with q | q
      ·cases q;exact absurd rfl hk
      ·exact .inr q
theorem wX{env:Env}{scope:Scope}(hf:∀y∈scope.names,y.2=.free→∃c,env.cells.lookup y.1=some c):∃cl,closureFor scope env=pure cl∧(∀y c,cl.lookup y=some c→env.cells.lookup y=some c)∧(∀y,(y,NameKind.free)∈scope.names→∃c,cl.lookup y=some c):=by
 obtain⟨cl,h1,h2,h3⟩:=oh scope.names [] hf (fun y c e=>by simp at e)
 refine⟨cl,?_,h2,fun y h=>h3 y (.inr h)⟩
 unfold closureFor
 rw[←bind_pure (x:=(pure cl:Sem _)),←h1]
structure CB where
 cl:List (Str×Addr)
 C:Addr
 s2:Shared
 H2:Hp
 fp:List Addr
def Cx.comp(X:Cx)(N':List Str)(scope:Scope)(b:CB):Cx where
 prog:=X.prog
 w:=X.w
 K:=X.K
 mg:=X.mg
 base:=X.base
 A:=X.A
 N:=N'
 s₀:=b.s2
 H₀:=b.H2
 env:=compEnvC scope b.cl b.C X.env
 outer:=X.stack
 stack:=X.stack
 ex:=b.fp
 fn:=fun _=>false
 calm:=X.calm
 pn:=[]
 xe:=fun _ _=>False
structure CompOK(outer sc:Scope)(x:Str)(M N:List Str):Prop where
 kind:sc.kind=.function
 nocell:∀y∈sc.names,y.2≠ .cell
 loc:∀y∈sc.names,y.2=.local→sc.names.lookup y.1=some .local
 own:sc.names.lookup x=some .local
 free:∀y∈sc.names,y.2=.free→(outer.names.lookup y.1=some .cell∨outer.names.lookup y.1=some .free)
 nd:(M++[x]).Nodup
 len:M.length=N.length
 same:∀p∈M.zip N,p.1=p.2∨sc.names.lookup p.1=none
 noloc:∀y∈M,sc.names.lookup y≠some .local
theorem Cd{outer sc:Scope}{x:Str}{M N:List Str}(h:iC outer sc x M N=true):CompOK outer sc x M N:=by
 unfold iC at h
 simp only[Bool.and_eq_true,decide_eq_true_eq,List.all_eq_true] at h
 obtain⟨⟨⟨⟨⟨⟨⟨⟨h1,h2⟩,h3⟩,h4⟩,h5⟩,h6⟩,h7⟩,h8⟩,h9⟩:=h
 exact⟨h1,h2,h3,h4,h5,h6,h7,h8,h9⟩
section
variable{X:Cx}{pins:List (Addr×Obj)}{σ:St}{H2:Hp}{s2:Shared}{scope:Scope}{x:Str}{M:List Str}{cl:List (Str×Addr)}{fp:List Addr}{h1:Heap}{t':Nat}
theorem Inv.comp(I:Inv X pins σ H2 s2)(K:CompOK X.env.scope scope x M X.N)(hcl:∀y c,cl.lookup y=some c→X.env.cells.lookup y=some c)(hcf:∀y,(y,NameKind.free)∈scope.names→∃c,cl.lookup y=some c)(hfp:∀b∈fp,du X pins H2 b)(hlt:∀b∈fp,b<s2.heap.objs.size)(kp:∀b o,s2.heap.get? b=some o→h1.get? b=some o)(hD:h1.get? s2.heap.objs.size=some {cls:=.type "list",dict:=none,data:=.seq ([]:List Value).toArray})(hC:h1.Ns (s2.heap.objs.size+1) (fun _=>none)):
 Inv (X.comp (M++[x]) scope ⟨cl,s2.heap.objs.size+1,s2,H2,fp⟩) [] (σ++[none]) (upd H2 s2.heap.objs.size (.lst [])) {s2 with heap:=h1,toks:=t'}:=by
 have cellLt:∀y c,cl.lookup y=some c→c<s2.heap.objs.size:=fun y c e=>by
  obtain⟨v,z⟩:=I.cell y c (hcl y c e)
  exact z.lt
 have kindEq:∀y k',(compEnvC scope cl (s2.heap.objs.size+1) X.env).kindOf y=some k'→∃k,scope.names.lookup y=some k∧(k'=k∨(k=.free∧k'=.cell)):=fun y k' e=>uV e
 have freeOf:∀y k',(compEnvC scope cl (s2.heap.objs.size+1) X.env).kindOf y=some k'→(k'=.cell∨k'=.free)→(y,NameKind.free)∈scope.names:=fun y k' e hk=>by
  obtain⟨k,e1,e2⟩:=kindEq y k' e
  have mem:=PySem.mem_of_lookup e1
  have:k=.free:=by
   rcases e2 with rfl | ⟨rfl,_⟩
   ·rcases hk with rfl | rfl
    ·exact absurd rfl (K.nocell _ mem)
    ·rfl
   ·rfl
  subst this
  exact mem
 have hDn:H2 s2.heap.objs.size=none:=I.hok.fresh (Nat.le_refl _)
 refine⟨⟨I.ok.mod,K.kind,I.ok.glob,I.ok.blt,Nat.le_succ _,fun y z c e1 e2=>I.ok.inj y z c (hcl y c e1) (hcl z c e2),fun y hy=>?_,fun y c hf _=>?_,I.ok.hd,I.ok.frames,.inl rfl,fun b hb=>⟨Nat.ne_of_lt (Nat.lt_succ_of_lt (hlt b hb)),fun y c e=>(hfp b hb).2.2.2.2.1 y c (hcl y c e)⟩,
  fun b o e=>I.bs b o e,Nat.le_trans I.ok.bsz I.sz,fun b o e hb=>?_,fun b hb hf=>?_,I.stack,I.stkFree⟩,rfl,I.bare,Un.laid kp (Nat.le_refl _) hDn,⟨_,hC,fun i y v e1 e2 e3=>?_⟩,fun y c e=>?_,?_,fun y c e=>?_,fun p hp=>absurd (show p∈([]:List (Addr×Obj)) from hp) (by simp),I.hok.laid kp (Nat.le_refl _) ?_,?_⟩
 ·rcases hy with hy | hy
  ·exact hcf y (freeOf y _ hy (.inl rfl))
  ·exact hcf y (freeOf y _ hy (.inr rfl))
 ·exact absurd (show false=true from hf) Bool.false_ne_true
 ·obtain⟨f0,f1,f2,f3,f4,f5⟩:=hfp b hb
  rcases f3 with z | z
  ·exact I.ok.noex b o e z
  ·exact absurd (Nat.lt_of_lt_of_le (Heap.lt_size (I.ok.bs b o e).1) z) (Nat.lt_irrefl _)
 ·obtain⟨f0,f1,f2,f3,f4,f5⟩:=hfp b hb
  rcases List.mem_cons.mp (I.stkSub b hf) with z | z
  ·exact f1 z
  ·exact f2 z
 ·
  have hi:i<σ.length:=by
   by_cases hi:i<σ.length
   ·exact hi
   ·have hz:(σ++[none])[i]?=some (some v):=e2
    rw[List.getElem?_append_right (by lia)] at hz
    by_cases hq:i-σ.length=0
    ·rw[hq] at hz;cases hz
    ·rw[List.getElem?_eq_none (by simp;lia)] at hz;cases hz
  have e2':σ[i]?=some (some v):=by
   have hz:(σ++[none])[i]?=some (some v):=e2
   rw[List.getElem?_append_left hi] at hz
   exact hz
  have hiM:i<M.length:=by rw[K.len,←I.len];exact hi
  have e1':M[i]?=some y:=by
   have hz:(M++[x])[i]?=some y:=e1
   rw[List.getElem?_append_left hiM] at hz
   exact hz
  have hyM:y∈M:=List.mem_of_getElem? e1'
  have e3':∃k',(compEnvC scope cl (s2.heap.objs.size+1) X.env).kindOf y=some k'∧(k'=.cell∨k'=.free):=by
   rcases e3 with z | z | z
   ·obtain⟨k,a,b⟩:=kindEq y _ z
    rcases b with b | ⟨_,b⟩
    ·subst b;exact absurd a (K.noloc y hyM)
    ·cases b
   ·exact⟨_,z,.inl rfl⟩
   ·exact⟨_,z,.inr rfl⟩
  obtain⟨k',ek,hk⟩:=e3'
  have mem:=freeOf y k' ek hk
  obtain⟨k0,a0,_⟩:=kindEq y k' ek
  have hiN:i<X.N.length:=by rw[←K.len];exact hiM
  have eN:X.N[i]?=some y:=by
   have hz:(M[i],X.N[i])∈M.zip X.N:=by
    rw[List.mem_iff_getElem?]
    exact⟨i,List.getElem?_zip_eq_some.mpr ⟨List.getElem?_eq_getElem hiM,List.getElem?_eq_getElem hiN⟩⟩
   have eM:M[i]=y:=by
    rw[List.getElem?_eq_getElem hiM] at e1'
    exact Option.some.inj e1'
   rcases K.same _ hz with q | q
   ·rw[List.getElem?_eq_getElem hiN]
    have q':M[i]=X.N[i]:=q
    rw[←q',eM]
   ·have q':scope.names.lookup M[i]=none:=q
    rw[eM,a0] at q'
    cases q'
  have hv:=K.free _ mem rfl
  obtain⟨m,hn,hl⟩:=I.loc
  obtain⟨u,r,l⟩:=hl i y v eN e2' (hv.elim (fun z=>.inr (.inl z)) (fun z=>.inr (.inr z)))
  refine⟨u,r,.inr ⟨?_,?_⟩⟩
  ·rcases hk with rfl | rfl
   ·exact .inl ek
   ·exact .inr ek
  ·obtain⟨c,ec⟩:=hcf y mem
   refine⟨c,ec,?_⟩
   rcases l with⟨z,_⟩ | ⟨_,c',ec',cc⟩
   ·have z':X.env.scope.names.lookup y=some .local:=z
    rcases hv with q | q <;> (rw[z'] at q;cases q)
   ·have:=(hcl y c ec).symm.trans ec'
    cases this
    obtain⟨o,ho,hd⟩:=cc
    exact⟨o,kp _ o ho,hd⟩
 ·obtain⟨v,o,ho,hd⟩:=I.cell y c (hcl y c e)
  exact⟨v,o,kp _ o ho,hd⟩
 ·show upd H2 s2.heap.objs.size (.lst []) (s2.heap.objs.size+1)=none
  rw[ap (Nat.succ_ne_self _)]
  exact I.hok.fresh (Nat.le_succ _)
 ·rw[ap (Nat.ne_of_lt (cellLt y c e))]
  exact I.freeC y c (hcl y c e)
 ·exact⟨Nat.zero_le _,[],_,.nil,hD⟩
 ·show(σ++[none]).length=(M++[x]).length
  simp[I.len,K.len]
end
theorem BQ{prog:Program}{w:World}{A:Around}{R:Result→Shared→Prop}{s:Shared}{elt target iter:Expr}{ifs:List Expr}{scope:Scope}{pos:Pos}{it acc:Value}{env:Env}(I:Nat→Shared→Prop)(onward:∀n s,I n s→wpAny (model prog w) A (pyNext it) (fun r za=>match r with
 | none=>R (.ok .next) za
 | some v=>wpAny (model prog w) A (letOwnedTupleGo target it v) (fun _ zb=>wpAny (model prog w) A (assign target env v) (fun _ zc=>
  wpAny (model prog w) A (forIn ifs true fun c r=>if r=true then do let ok←isTrue c env (eval c env);pure (ForInStep.yield ok) else pure (ForInStep.yield r)) (fun ok zd=>
   if ok=true then wpAny (model prog w) A (eval elt env) (fun x ze=>
    wpAny (model prog w) A (call (.builtin "list.append") [acc,x]) (fun _ zf=>∃m,m<n∧I m zf) (fun _ _=>False) ze) (fun _ _=>False) zd
   else∃m,m<n∧I m zd) (fun _ _=>False) zc) (fun _ _=>False) zb) (fun _ _=>False) za) (fun _ _=>False) s)
 (n:Nat)(h:I n s):
 codeAny (model prog w) A (.compLoop (.ListComp elt [⟨target,iter,ifs,0⟩] scope pos) 0 it acc env) R s:=
 by
 refine codeAny_loop rfl I (fun n s hJ=>?_) n h
 show wpAny _ A ((compTurn (.ListComp elt [⟨target,iter,ifs,0⟩] scope pos) 0 it acc env).onRaise (fun ex=>do noteFrame ex env;theTreesLotGoes ex)) _ _ s
 refine wpAny_noted (wpAny_mono (E:=fun _ _=>False) ?_ (fun _ _ q=>q) fun _ _ z=>z.elim)
 rw[compTurn_list]
 refine wpAny_bind (wpAny_standAt (wpAny_bind (wpAny_mono (onward n s hJ) (fun r za ya=>?_) fun _ _ u=>u)))
 cases r with
 | none=>exact wpAny_pure ya
 | some v=>
   refine wpAny_bind (wpAny_mono ya (fun _ zb yb=>?_) fun _ _ u=>u)
   refine wpAny_bind (wpAny_mono yb (fun _ zc yc=>wpAny_bind (wpAny_mono yc (fun ok zd yd=>?_) fun _ _ u=>u)) fun _ _ u=>u)
   cases ok with
   | false=>exact wpAny_pure ⟨rfl,yd⟩
   | true=>
     exact wpAny_bind (wpAny_bind (wpAny_mono yd (fun x ze ye=>wpAny_bind (wpAny_mono ye (fun _ zf yf=>wpAny_pure (wpAny_pure ⟨rfl,yf⟩)) fun _ _ u=>u)) fun _ _ u=>u))
def i0(X:Cx)(ifs:List Expr)(t:TT):Prop:=
 ∀ (pins:List (Addr×Obj)) (s:Shared) (σ:St) (H:Hp) (Q:Bool→Hp→Prop),Inv X pins σ H s→t σ H Q→
   wpAny (model X.prog X.w) X.A (forIn ifs true fun c r=>if r=true then do let ok←isTrue c X.env (eval c X.env);pure (ForInStep.yield ok) else pure (ForInStep.yield r)) (TP X pins σ Q) X.xe s
def qi:TT:=fun _ H Q=>Q true H
theorem di{X:Cx}:i0 X [] qi:=fun pins s σ H Q I h=>wpAny_tests_nil ⟨H,I,h⟩
theorem fw{X:Cx}{c:Expr}{t:TT}(h:PT X c t):i0 X [c] t:=fun pins s σ H Q I q=>wpAny_tests_one (h pins s σ H Q I q)
def oa(wi:TI)(tc:CB→TT)(te:CB→TE):TE:=fun σ H Q=>wi σ H fun J H1=>∀D,H1 D=none→∀b:CB,∃W:Nat→Nat→List V→Hp→Prop,(∃m,W 0 m [] (upd H1 D (.lst [])))∧
 ∀ i m ys H,W i m ys H→(J.stop i H∧Q (.ref D) H)∨(J.go i H∧ys.length<sizeLine∧∃N:List V→Hp→Prop,(∀ys' H',N ys' H'→∃m',m'<m∧W (i+1) m' ys' H')∧∀x H',J.yld i H x H'→tc b (σ++[some x]) H' fun ok H2=>
   if ok=true then te b (σ++[some x]) H2 fun v H3=>H3 D=some (.lst ys)∧N (ys++[v]) (upd H3 D (.lst (ys++[v]))) else N ys H2)
theorem DJ{X:Cx}{pins:List (Addr×Obj)}{σ:St}{H:Hp}{s:Shared}{D:Addr}{ys:List V}{v:V}{u:Value}{E:Value→Shared→Prop}(I:Inv X pins σ H s)(hD:H D=some (.lst ys))(hz:ys.length<sizeLine)(r:RelV v u):wpAny (model X.prog X.w) X.A (call (.builtin "list.append") [.ref D,u]) (fun _ s'=>Inv X pins σ (upd H D (.lst (ys++[v]))) s') E s:=by
 obtain⟨z,its,n,rv,hl,e⟩:=I.lstM hD
 refine call_meets F.slot_list_append ⟨_,e,rfl⟩ F.entry_list_append (F.args_list_append_2 _ _) (PySem.list_append D its.toArray n u (by rw[List.size_toArray];lia)) ⟨e,?_⟩
 refine I.lset (its':=its++[u]) hD e (by simp) (rv.append (.cons r .nil)) ?_
 rw[List.length_append,List.length_singleton]
 lia
theorem SameBut.unC{H H':Hp}{fs ex:List Addr}{h h1 h2:Heap}{C:Addr}(u:Un fs ex H H' h h1)(sb:Heap.SameBut C h1 h2)(hC:h.objs.size≤C):Un fs ex H H' h h2:=by
 have ne:∀b o,h.get? b=some o→b≠C:=fun b o e z=>by subst z;exact absurd (Nat.lt_of_lt_of_le (Heap.lt_size e) hC) (Nat.lt_irrefl _)
 refine⟨fun b o e n hb hx=>(sb.2 b (ne b o e)).trans (u.keep b o e n hb hx),fun b o e n hb hx=>?_,u.free,fun b o e hx=>?_,u.tups,u.frzs,u.tbls⟩
 ·obtain⟨sl,q⟩:=u.slot b o e n hb hx
  exact⟨sl,(sb.2 b (ne b o e)).trans q⟩
 ·obtain⟨o',q⟩:=u.there b o e hx
  exact⟨o',(sb.2 b (ne b o e)).trans q⟩
theorem SameBut.hokC{P:Program}{w:World}{H:Hp}{h1 h2:Heap}{C:Addr}(ok:HOk P w H h1)(sb:Heap.SameBut C h1 h2)(hn:H C=none):HOk P w H h2:=fun b ob e=>by
 refine(ok b ob e).stay (fun c w' hc q=>(sb.2 c ?_).trans q) (fun _ q=>q) fun _ _ q=>q
 rintro rfl
 rcases hc with rfl | hc
 ·rw[hn] at e;cases e
 ·rw[hn] at hc;cases hc
theorem sd{X:Cx}{iter elt:Expr}{ifs:List Expr}{x:Str}{px pos pos0:Pos}{scope:Scope}(M:List Str){wi:TI}{tc:CB→TT}{te:CB→TE}{use:Option (Value→Sem Unit)}{R:Value→Shared→Prop}{pins:List (Addr×Obj)}{s:Shared}{σ:St}{H:Hp}{Q:VK}(I:Inv X pins σ H s)(h:oa wi tc te σ H Q)(hfin:∀(D C:Addr) (m:Str→Option Value) (s':Shared) (H':Hp),s'.heap.Ns C m→du X pins H' C→(∀h',Heap.SameBut C s'.heap h'→Inv X pins σ H' {s' with heap:=h'})→Q (.ref D) H'→compPost (model X.prog X.w) X.A X.xe use R (.ref D) C (.ok .next) s')(hc:X.calm=true)(hi:PI X (.Name x px) iter wi)(hif:∀b:CB,i0 (X.comp (M++[x]) scope b) ifs (tc b))(he:∀b:CB,PE (X.comp (M++[x]) scope b) elt (te b))(ok:iC X.env.scope scope x M X.N=true:=by kernel_rfl)
 (hs:∀x,foldedSetIterable iter X.env x=pure x:=by intro _;rfl):
 wpAny (model X.prog X.w) X.A (comprehension (.ListComp elt [⟨.Name x px,iter,ifs,0⟩] scope pos) scope X.env pos0 (newList []) false (eval iter X.env) use) R X.xe s:=by
 have K:=Cd ok
 obtain⟨cl,hclos,hcl,hcf⟩:=wX (env:=X.env) (scope:=scope) fun y hy hk=>I.ok.has y.1 (K.free y hy hk)
 refine wpAny_comprehension_free (use:=use) rfl hs hclos K.kind K.loc ?_
 refine am (hi pins s σ H _ I h) fun v s1 h1=>am h1 fun itv s2 h2=>?_
 obtain⟨it,fp,tn,J,H2,rfl,I2,T,st2,f2,hq⟩:=h2
 refine wpAny_newObj_type (wpAny_newFunctionEnv K.nocell (by intro y hy;simp at hy) (fun h₁ hns₁ hsb₁=>?_) K.kind)
 dsimp only at hns₁ hsb₁ ⊢
 have hsize:(s2.heap.push {cls:=.type "list",dict:=none,data:=.seq ([]:List Value).toArray}).objs.size=s2.heap.objs.size+1:=Heap.size_push ..
 rw[hsize] at hns₁ hsb₁
 have ltD:s2.heap.objs.size≠s2.heap.objs.size+1:=Nat.ne_of_lt (Nat.lt_succ_self _)
 have kp:∀b o,s2.heap.get? b=some o→h₁.get? b=some o:=fun b o e=>hsb₁.extBut b o (Nat.ne_of_lt (Nat.lt_succ_of_lt (Heap.lt_size e))) (Heap.get?_push_of_some _ (Heap.get?_push_of_some _ e))
 have hD:h₁.get? s2.heap.objs.size=some {cls:=.type "list",dict:=none,data:=.seq ([]:List Value).toArray}:=hsb₁.extBut _ _ ltD (Heap.get?_push_of_some _ (Heap.get?_push_size _ rfl))
 have hlt:∀b∈fp,b<s2.heap.objs.size:=fun b hb=>let ⟨o,e,_⟩:=T.obj _ _ st2 b hb;Heap.lt_size e
 have I3:=I2.comp (t':=s2.toks+([]:List (Str×Value)).length) K hcl hcf f2 hlt kp hD hns₁
 obtain⟨W,⟨m0,w0⟩,step⟩:=hq s2.heap.objs.size (I2.hok.fresh (Nat.le_refl _)) ⟨cl,s2.heap.objs.size+1,s2,H2,fp⟩
 have st3:tn 0 h₁:=T.keep _ _ _ st2 fun b _ o e=>kp b o e
 have fr3:∀b∈fp,(upd H2 s2.heap.objs.size (.lst [])) b=none:=fun b hb=>by rw[ap (Nat.ne_of_lt (hlt b hb))];exact(f2 b hb).1
 have fin:∀(s':Shared) (σ':St) (H':Hp),Inv (X.comp (M++[x]) scope ⟨cl,s2.heap.objs.size+1,s2,H2,fp⟩) [] σ' H' s'→Q (.ref s2.heap.objs.size) H'→
  compPost (model X.prog X.w) X.A X.xe use R (.ref s2.heap.objs.size) (s2.heap.objs.size+1) (.ok .next) s':=fun s' σ' H' J' q=>by
  obtain⟨m,hn,_⟩:=id J'.loc
  have hC:H' (s2.heap.objs.size+1)=none:=J'.free
  refine hfin _ _ m s' H' hn (I2.fpOk (Nat.le_succ _) hC) (fun h' sb=>?_) q
  exact I2.call' (ch:=fp) (show s'.os=s2.os from J'.os) (SameBut.unC J'.base sb (Nat.le_succ _)) (SameBut.hokC J'.hok sb hC) J'.bare fun b hb=>by
   obtain⟨f0,f1,f2',f3,f4,f5⟩:=f2 b hb
   exact⟨f3,f1,f4,f5⟩
 have stat:∀{H':Hp},(∀b∈fp,H' b=none)→∀b∈fp,du (X.comp (M++[x]) scope ⟨cl,s2.heap.objs.size+1,s2,H2,fp⟩) [] H' b:=fun hn b hb=>by
  obtain⟨f0,f1,f2',f3,f4,f5⟩:=f2 b hb
  refine⟨hn b hb,Nat.ne_of_lt (Nat.lt_succ_of_lt (hlt b hb)),fun z=>?_,.inl hb,fun y c e=>f4 y c (hcl y c e),fun p hp=>absurd (show p∈([]:List (Addr×Obj)) from hp) (by simp)⟩
  rcases List.mem_cons.mp (I2.stkSub b z) with z | z
  ·exact f1 z
  ·exact f2' z
 have len3:σ.length=M.length:=by rw[I.len,K.len]
 have loop:codeAny (model X.prog X.w) X.A (.compLoop (.ListComp elt [⟨.Name x px,iter,ifs,0⟩] scope pos) 0 (.ref it) (.ref s2.heap.objs.size) (compEnvC scope cl (s2.heap.objs.size+1) X.env))
  (compPost (model X.prog X.w) X.A X.xe use R (.ref s2.heap.objs.size) (s2.heap.objs.size+1)) {s2 with heap:=h₁,toks:=s2.toks+([]:List (Str×Value)).length}:=by
  refine BQ (fun n s'=>∃i ys H',Inv (X.comp (M++[x]) scope ⟨cl,s2.heap.objs.size+1,s2,H2,fp⟩) [] (σ++[none]) H' s'∧tn i s'.heap∧(∀b∈fp,H' b=none)∧W i n ys H') ?_ m0 ⟨0,[],_,I3,st3,fr3,w0⟩
  rintro n s4 ⟨i,ys,H4,I4,st4,fr4,w4⟩
  rcases step i n ys H4 w4 with⟨stop,q⟩ | ⟨go,hz,N,hN,st⟩
  ·refine wpAny_mono (T.done (X.comp (M++[x]) scope ⟨cl,s2.heap.objs.size+1,s2,H2,fp⟩) rfl rfl rfl hc i [] s4 _ H4 (fun _ _=>False) I4 (stat fr4) st4 stop) (fun r s5 ⟨hr,I5⟩=>?_) fun _ _ z=>z
   subst hr
   exact fin s5 _ H4 I5 q
  ·refine wpAny_mono (T.item (X.comp (M++[x]) scope ⟨cl,s2.heap.objs.size+1,s2,H2,fp⟩) rfl rfl rfl hc i [] s4 _ H4 (fun _ _=>False) I4 (stat fr4) st4 go) (fun r s5 ⟨u,hr,h5⟩=>?_) fun _ _ z=>z
   subst hr
   refine wpAny_mono h5 (fun _ s6 ⟨xv,H6,I6,r6,y6,st6,fr6⟩=>?_) fun _ _ z=>z
   have I6':=I6.pinned (stat fr6) (T.obj _ _ st6)
   have hset:(σ++[none]).set σ.length (some xv)=σ++[some xv]:=by simp
   have hNx:(X.comp (M++[x]) scope ⟨cl,s2.heap.objs.size+1,s2,H2,fp⟩).N[σ.length]?=some x:=by
    show(M++[x])[σ.length]?=some x
    rw[len3];simp
   have hlx:(X.comp (M++[x]) scope ⟨cl,s2.heap.objs.size+1,s2,H2,fp⟩).env.scope.names.lookup x=some .local:=lookup_relabel_local K.own
   have PGx:PG (X.comp (M++[x]) scope ⟨cl,s2.heap.objs.size+1,s2,H2,fp⟩) (.Name x px) (fM σ.length):=aT K.nd hNx (.inl hlx) (.inr hlx)
   refine wpAny_mono (PGx _ s6 _ H6 xv u (fun σ' H'=>σ'=σ++[some xv]∧H'=H6) I6' r6 ⟨hset,rfl⟩) (fun _ s7 ⟨σ7,H7,I7,e7,e7'⟩=>?_) fun _ _ z=>z
   subst e7 e7'
   have again:∀{ys':List V} {H8:Hp} {s8:Shared} {m:Nat},Inv (X.comp (M++[x]) scope ⟨cl,s2.heap.objs.size+1,s2,H2,fp⟩) ([]++iI fp s6.heap) (σ++[some xv]) H8 s8→m<n→W (i+1) m ys' H8→
    ∃m,m<n∧∃i ys H',Inv (X.comp (M++[x]) scope ⟨cl,s2.heap.objs.size+1,s2,H2,fp⟩) [] (σ++[none]) H' s8∧tn i s8.heap∧(∀b∈fp,H' b=none)∧W i m ys H':=fun{ys' H8 s8 m} I8 hm w8=>by
    refine⟨m,hm,i+1,ys',H8,(I8.unpinned).weak (by simp) (fun j v e=>?_),T.keep _ _ _ st6 fun b hb o e=>(I8.pin (b,o) (List.mem_append_right _ (List.mem_append_right _ (kK hb e)))).1,fun b hb=>?_,w8⟩
    ·by_cases hj:j<σ.length
     ·rw[List.getElem?_append_left hj] at e ⊢;exact e
     ·rw[List.getElem?_append_right (by lia)] at e
      by_cases hq:j-σ.length=0
      ·rw[hq] at e;cases e
      ·rw[List.getElem?_eq_none (by simp;lia)] at e;cases e
    ·obtain⟨o,e,d⟩:=T.obj _ _ st6 b hb
     exact(I8.pin (b,o) (List.mem_append_right _ (List.mem_append_right _ (kK hb e)))).2.1
   refine wpAny_mono (hif ⟨cl,s2.heap.objs.size+1,s2,H2,fp⟩ _ s7 _ _ _ I7 (st xv _ y6)) (fun ok s8 ⟨H8,I8,q8⟩=>?_) fun _ _ z=>z
   cases ok with
   | false=>
     rw[if_neg Bool.false_ne_true] at q8
     obtain⟨m,hm,w8⟩:=hN _ _ q8
     exact again I8 hm w8
   | true=>
     rw[if_pos rfl] at q8
     refine wpAny_mono (he ⟨cl,s2.heap.objs.size+1,s2,H2,fp⟩ _ s8 _ H8 _ I8 q8) (fun xu s9 ⟨v9,H9,I9,r9,hD9,n9⟩=>?_) fun _ _ z=>z
     obtain⟨m,hm,w9⟩:=hN _ _ n9
     exact wpAny_mono (DJ (X:=X.comp (M++[x]) scope ⟨cl,s2.heap.objs.size+1,s2,H2,fp⟩) I9 hD9 hz r9) (fun _ s10 I10=>again I10 hm w9) fun _ _ z=>z
 rw[hsize]
 exact codeAny_compStart_list loop (T.self X.A 0 _ _ _ st3 loop)
theorem ce{X:Cx}{iter elt:Expr}{ifs:List Expr}{x:Str}{px pos:Pos}{scope:Scope}(M:List Str){wi:TI}{tc:CB→TT}{te:CB→TE}(hc:X.calm=true)(hi:PI X (.Name x px) iter wi)(hif:∀b:CB,i0 (X.comp (M++[x]) scope b) ifs (tc b))(he:∀b:CB,PE (X.comp (M++[x]) scope b) elt (te b))(ok:iC X.env.scope scope x M X.N=true:=by kernel_rfl)
 (hs:∀x,foldedSetIterable iter X.env x=pure x:=by intro _;rfl):
 PE X (.ListComp elt [⟨.Name x px,iter,ifs,0⟩] scope pos) (oa wi tc te):=by
 intro pins s σ H Q I h
 rw[eval_ListComp]
 exact sd M (use:=none) (R:=EP X pins σ Q) I h (fun D C m s' H' hn _ hI q=>⟨m,hn,fun h' sb=>⟨.ref D,H',hI h' sb,rfl,q⟩⟩) hc hi hif he ok hs
theorem Inv.butC{X:Cx}{pins:List (Addr×Obj)}{σ:St}{H:Hp}{s:Shared}{C:Addr}{h':Heap}(I:Inv X pins σ H s)(f:du X pins H C)(sb:Heap.SameBut C s.heap h'):Inv X pins σ H {s with heap:=h'}:=by
 obtain⟨f0,f1,f2,f3,f4,f5⟩:=f
 refine I.call' (ch:=[C]) rfl ⟨fun b o e n _ hx=>?_,fun b o e n _ hx=>?_,fun b o e n _=>n,fun b o e hx=>?_,fun _ _ z=>z,fun _ _ _ z=>z,fun _ ps z=>⟨#[],by simpa using z⟩⟩ (SameBut.hokC I.hok sb f0) I.bare fun b hb=>?_
 ·exact(sb.2 b (by simpa using hx)).trans e
 ·exact⟨o.slots,(sb.2 b (by simpa using hx)).trans e⟩
 ·exact⟨o,(sb.2 b (by simpa using hx)).trans e⟩
 ·have:b=C:=by simpa using hb
  subst this
  exact⟨f3,f1,f4,f5⟩
theorem kG{X:Cx}{iter elt:Expr}{ifs:List Expr}{x y:Str}{px py pos spos:Pos}{scope:Scope}(M:List Str){i:Nat}{wi:TI}{tc:CB→TT}{te:CB→TE}(hc:X.calm=true)(hN:X.N.Nodup)(hiy:X.N[i]?=some y)(hy:gy X.env.scope y)(hi:PI X (.Name x px) iter wi)(hif:∀b:CB,i0 (X.comp (M++[x]) scope b) ifs (tc b))(he:∀b:CB,PE (X.comp (M++[x]) scope b) elt (te b))(hsw:swapsWith (.ListComp elt [⟨.Name x px,iter,ifs,0⟩] scope pos) (some (.Name y py)) spos.line X.env=pure true:=by rfl)
 (ok:iC X.env.scope scope x M X.N=true:=by kernel_rfl)
 (hs:∀x,foldedSetIterable iter X.env x=pure x:=by intro _;rfl)
 (hf:X.fn y=true∨X.env.scope.names.lookup y=some .local:=by first | exact .inl rfl | exact .inr rfl | assumption):
 PS X (.Assign [.Name y py] (.ListComp elt [⟨.Name x px,iter,ifs,0⟩] scope pos) spos) (iH (oa wi tc te) (fM i)):=by
 intro pins s σ H D I h
 rw[exec_Assign_Name_used _ _ _ _ hsw];refine wpAny_bind (wpAny_standAt (wpAny_bind ?_))
 show wpAny _ X.A (do let _←comprehension (.ListComp elt [⟨.Name x px,iter,ifs,0⟩] scope pos) scope X.env _ (newList []) false (eval iter X.env) (some (assign (.Name y py) X.env))) _ _ s
 refine wpAny_bind (wpAny_mono (sd M (use:=some (assign (.Name y py) X.env)) (R:=fun _ s'=>_) I h (fun D' C m s' H' hn f hI q=>?_) hc hi hif he ok hs) (fun _ s' hq=>wpAny_pure (wpAny_pure hq)) fun _ _ e=>e)
 have I':Inv X pins σ H' s':=hI s'.heap ⟨rfl,fun _ _=>rfl⟩
 show wpAny _ X.A (assign (.Name y py) X.env (.ref D')) _ _ _
 refine wpAny_assign_Name (qk (v:=.ref D') I' hN hiy hy rfl (fun s2 I2 ⟨a,sb,ha⟩=>?_) hf)
 have hCa:C≠a:=by
  obtain⟨f0,f1,f2,f3,f4,f5⟩:=f
  rintro rfl
  rcases ha with z | z
  ·exact f1 z
  ·exact f4 _ _ z rfl
 exact⟨m,hn.sameBut sb hCa,fun h' sb'=>⟨_,H',I2.butC f sb',q⟩⟩
theorem jp{lo:Int}{n:Nat}{tc:TT}{te:TE}{σ:St}{H1:Hp}{Q:Hp→Prop}{D:Addr}(Pv:Nat→List V→Hp→Prop)(hn:n<sizeLine)(h0:Pv 0 [] (upd H1 D (.lst [])))(hl:∀i ys H,Pv i ys H→ys.length≤i)(hs:∀i ys H,i<n→Pv i ys H→tc (σ++[some (.int (lo+i))]) H fun b H2=>if b=true then te (σ++[some (.int (lo+i))]) H2 fun v H3=>H3 D=some (.lst ys)∧Pv (i+1) (ys++[v]) (upd H3 D (.lst (ys++[v]))) else Pv (i+1) ys H2)
 (hd:∀ys H,Pv n ys H→Q H):
 ∃ W:Nat→Nat→List V→Hp→Prop,(∃m,W 0 m [] (upd H1 D (.lst [])))∧
   ∀ i m ys H,W i m ys H→((eR lo n).stop i H∧Q H)∨((eR lo n).go i H∧ys.length<sizeLine∧∃N:List V→Hp→Prop,(∀ys' H',N ys' H'→∃m',m'<m∧W (i+1) m' ys' H')∧∀x H',(eR lo n).yld i H x H'→tc (σ++[some x]) H' fun b H2=>
     if b=true then te (σ++[some x]) H2 fun v H3=>H3 D=some (.lst ys)∧N (ys++[v]) (upd H3 D (.lst (ys++[v]))) else N ys H2):=by
 refine⟨fun i m ys H=>m=n-i∧i≤n∧Pv i ys H,⟨n,by simp,Nat.zero_le _,h0⟩,?_⟩
 rintro i m ys H ⟨rfl,hi,p⟩
 by_cases hlt:i<n
 ·refine .inr ⟨hlt,Nat.lt_of_le_of_lt (hl i ys H p) (Nat.lt_trans hlt hn),Pv (i+1),fun ys' H' p'=>⟨n-(i+1),by lia,rfl,hlt,p'⟩,fun x H' y=>?_⟩
  obtain⟨e,y⟩:=y
  subst e y
  exact hs i ys _ hlt p
 ·have e:i=n:=by lia
  subst e
  exact .inl ⟨Nat.le_refl _,hd ys H p⟩
theorem eI{K:PySem.W.Frag}{a:Addr}{xs:List V}{tc:TT}{te:TE}{σ:St}{H1:Hp}{Q:Hp→Prop}{D:Addr}(Pv:Nat→List V→Hp→Prop)(hn:xs.length<sizeLine)(h0:Pv 0 [] (upd H1 D (.lst [])))(hl:∀i ys H,Pv i ys H→ys.length≤i)(hq:∀i ys H,i≤xs.length→Pv i ys H→SqL K H a xs)(hs:∀i x ys H,xs[i]?=some x→Pv i ys H→tc (σ++[some x]) H fun b H2=>if b=true then te (σ++[some x]) H2 fun v H3=>H3 D=some (.lst ys)∧Pv (i+1) (ys++[v]) (upd H3 D (.lst (ys++[v]))) else Pv (i+1) ys H2)
 (hd:∀ys H,Pv xs.length ys H→Q H):
 ∃ W:Nat→Nat→List V→Hp→Prop,(∃m,W 0 m [] (upd H1 D (.lst [])))∧
   ∀ i m ys H,W i m ys H→((eY K a).stop i H∧Q H)∨((eY K a).go i H∧ys.length<sizeLine∧∃N:List V→Hp→Prop,(∀ys' H',N ys' H'→∃m',m'<m∧W (i+1) m' ys' H')∧∀x H',(eY K a).yld i H x H'→tc (σ++[some x]) H' fun b H2=>
     if b=true then te (σ++[some x]) H2 fun v H3=>H3 D=some (.lst ys)∧N (ys++[v]) (upd H3 D (.lst (ys++[v]))) else N ys H2):=by
 refine⟨fun i m ys H=>m=xs.length-i∧i≤xs.length∧Pv i ys H,⟨xs.length,by simp,Nat.zero_le _,h0⟩,?_⟩
 rintro i m ys H ⟨rfl,hi,p⟩
 have q:=hq i ys H hi p
 by_cases hlt:i<xs.length
 ·refine .inr ⟨⟨xs,xs[i],q,by simp[hlt]⟩,Nat.lt_of_le_of_lt (hl i ys H p) (Nat.lt_trans hlt hn),Pv (i+1),fun ys' H' p'=>⟨xs.length-(i+1),by lia,rfl,hlt,p'⟩,fun x H' y=>?_⟩
  obtain⟨e,y⟩:=y
  subst e
  exact hs i x ys _ (y xs q) p
 ·have e:i=xs.length:=by lia
  subst e
  exact .inl ⟨⟨xs,q,Nat.le_refl _⟩,hd ys H p⟩
mutual
def DatV(K:PySem.W.Frag)(H:Hp):PyData→V→Prop
 | .none,v=>v=.non
 | .bool b,v=>v=.bl b
 | .int i,v=>v=.int i
 | .str x,v=>v=.str x∧PyData.strOk x=true
 | .list ds,v=>∃a xs,v=.ref a∧SqL K H a xs∧DatVs K H ds xs
 | .tuple ds,v=>∃a xs,v=.ref a∧SqT K H a xs∧DatVs K H ds xs
 | .dict _,_=>False
def DatVs(K:PySem.W.Frag)(H:Hp):List PyData→List V→Prop
 | [],xs=>xs=[]
 | d::ds,xs=>∃x r,xs=x::r∧DatV K H d x∧DatVs K H ds r
end
section
variable{X:Cx}{pins:List (Addr×Obj)}{σ:St}{H:Hp}{s:Shared}
mutual
theorem DatV.reads(I:Inv X pins σ H s):∀(d:PyData) (v:V) (u:Value),DatV X.K H d v→RelV v u→(∃as,Reads s.heap u d as)∧d.canLay0=true
 | .none,v,u,h,r=>by
   rw[DatV] at h;subst h;cases r;exact⟨⟨_,.none⟩,by simp[PyData.canLay0]⟩
 | .bool b,v,u,h,r=>by
   rw[DatV] at h;subst h;cases r;exact⟨⟨_,.bool b⟩,by simp[PyData.canLay0]⟩
 | .int i,v,u,h,r=>by
   rw[DatV] at h;subst h;obtain⟨t,rfl⟩:=r;exact⟨⟨_,.int i t⟩,by simp[PyData.canLay0]⟩
 | .str x,v,u,h,r=>by
   rw[DatV] at h;obtain⟨h,hx⟩:=h;subst h;obtain⟨t,rfl⟩:=r;exact⟨⟨_,.str x t⟩,by simp[PyData.canLay0,hx]⟩
 | .list ds,v,u,h,r=>by
   rw[DatV] at h;obtain⟨a,xs,rfl,hq,hd⟩:=h
   cases r
   obtain⟨its,rv,p,hz⟩:=I.list hq
   obtain⟨⟨as,ra⟩,cl⟩:=DatVs.reads I ds xs its hd rv
   obtain⟨o,ho,hc,n,hdt⟩:=p.isList
   exact⟨⟨_,.list ho hc hdt (by simpa using ra)⟩,by rw[PyData.canLay0];exact cl⟩
 | .tuple ds,v,u,h,r=>by
   rw[DatV] at h;obtain⟨a,xs,rfl,hq,hd⟩:=h
   cases r
   obtain⟨its,rv,p,hz⟩:=I.tuple hq
   obtain⟨⟨as,ra⟩,cl⟩:=DatVs.reads I ds xs its hd rv
   obtain⟨o,ho,hc,n,hdt⟩:=p
   exact⟨⟨_,.tuple ho hc hdt (by simpa using ra)⟩,by rw[PyData.canLay0];exact cl⟩
 | .dict _,v,u,h,r=>by rw[DatV] at h;exact h.elim
theorem DatVs.reads(I:Inv X pins σ H s):∀(ds:List PyData) (vs:List V) (us:List Value),DatVs X.K H ds vs→Vals vs us→(∃as,ReadsAll s.heap us ds as)∧PyData.canLayAll0 ds=true
 | [],vs,us,h,r=>by
   rw[DatVs] at h;subst h;cases r;exact⟨⟨_,.nil⟩,by simp[PyData.canLayAll0]⟩
 | d::ds,vs,us,h,r=>by
   rw[DatVs] at h;obtain⟨x,rr,rfl,h1,h2⟩:=h
   cases r with
   | cons r1 r2=>
     obtain⟨⟨as,ra⟩,ca⟩:=DatV.reads I d x _ h1 r1
     obtain⟨⟨bs,rb⟩,cb⟩:=DatVs.reads I ds rr _ h2 r2
     exact⟨⟨_,.cons ra rb⟩,by rw[PyData.canLayAll0,ca,cb];rfl⟩
end
def fT(K:PySem.W.Frag)(neg:Bool):R2:=fun x y H Q=>∃da db,DatV K H da x∧DatV K H db y∧min da.depth db.depth≤64∧Q (.bl (if neg then !PyData.eqv da db else PyData.eqv da db)) H
theorem nC{k:Nat}(hr:Room k X.A):OpR X (compareOp .Eq) (fT X.K false):=by
 intro pins s σ H x y v u Q I rx ry h
 obtain⟨da,db,h1,h2,hd,q⟩:=h
 obtain⟨⟨as,ra⟩,ca⟩:=DatV.reads I da x v h1 rx
 obtain⟨⟨bs,rb⟩,cb⟩:=DatV.reads I db y u h2 ry
 exact SeqAt.compareEq_reads ra rb ca cb (by have:=hr.units;lia) ⟨.bl _,H,I,rfl,q⟩
theorem vm{k:Nat}(hr:Room k X.A):OpR X (compareOp .NotEq) (fT X.K true):=by
 intro pins s σ H x y v u Q I rx ry h
 obtain⟨da,db,h1,h2,hd,q⟩:=h
 obtain⟨⟨as,ra⟩,ca⟩:=DatV.reads I da x v h1 rx
 obtain⟨⟨bs,rb⟩,cb⟩:=DatV.reads I db y u h2 ry
 exact SeqAt.compareNe_reads ra rb ca cb (by have:=hr.units;lia) ⟨.bl _,H,I,rfl,q⟩
end
theorem uz{K:PySem.W.Frag}{H:Hp}:∀ns:List Int,DatVs K H (ns.map PyData.int) (ns.map V.int)
 | []=>by simp[DatVs]
 | n::ns=>by
   rw[List.map_cons,List.map_cons,DatVs]
   exact⟨_,_,rfl,by rw[DatV],uz ns⟩
theorem jW{K:PySem.W.Frag}{H:Hp}{a:Addr}{ns:List Int}(h:SqL K H a (ns.map V.int)):DatV K H (.list (ns.map PyData.int)) (.ref a):=by
 rw[DatV];exact⟨a,_,rfl,h,uz ns⟩
abbrev aI(c:Nat):Str:=⟨#[c]⟩
abbrev sg(c:Nat):V:=.str (aI c)
theorem vk{K:PySem.W.Frag}{H:Hp}:∀cs:List Nat,(∀c∈cs,c<0x110000)→DatVs K H (cs.map fun c=>PyData.str (aI c)) (cs.map sg)
 | [],_=>by simp[DatVs]
 | c::cs,h=>by
   rw[List.map_cons,List.map_cons,DatVs]
   refine⟨_,_,rfl,?_,vk cs fun c hc=>h c (List.mem_cons_of_mem _ hc)⟩
   rw[DatV]
   exact⟨rfl,by simp[PyData.strOk,h c List.mem_cons_self]⟩
theorem rV{K:PySem.W.Frag}{H:Hp}{a:Addr}{cs:List Nat}(h:SqL K H a (cs.map sg))(hc:∀c∈cs,c<0x110000):DatV K H (.list (cs.map fun c=>PyData.str (aI c))) (.ref a):=by
 rw[DatV];exact⟨a,_,rfl,h,vk cs hc⟩
theorem rH:∀ns:List Int,PyData.depthAll (ns.map PyData.int)≤1
 | []=>by simp[PyData.depthAll]
 | n::ns=>by
   have:=rH ns
   rw[List.map_cons,PyData.depthAll]
   simp only[PyData.depth]
   lia
theorem rC:∀cs:List Nat,PyData.depthAll (cs.map fun c=>PyData.str (aI c))≤1
 | []=>by simp[PyData.depthAll]
 | c::cs=>by
   have:=rC cs
   rw[List.map_cons,PyData.depthAll]
   simp only[PyData.depth]
   lia
theorem rm(ns:List Int):(PyData.list (ns.map PyData.int)).depth≤2:=by
 have:=rH ns
 rw[PyData.depth];lia
theorem zZ(cs:List Nat):(PyData.list (cs.map fun c=>PyData.str (aI c))).depth≤2:=by
 have:=rC cs
 rw[PyData.depth];lia
theorem vd:∀ns ms:List Int,PyData.eqvAll (ns.map PyData.int) (ms.map PyData.int)=decide (ns=ms)
 | [],[]=>by simp[PyData.eqvAll]
 | [],_::_=>by simp[PyData.eqvAll]
 | _::_,[]=>by simp[PyData.eqvAll]
 | n::ns,m::ms=>by
   rw[List.map_cons,List.map_cons,PyData.eqvAll,vd ns ms]
   rw[PyData.eqv,Bool.beq_eq_decide_eq]
   simp
theorem yz{a b:Nat}:(aI a == aI b)=decide (a=b):=by
 by_cases h:a=b
 ·subst h;simp
 ·have:aI a≠aI b:=fun e=>h (by simpa [aI] using e)
  simp[h,this]
theorem rK:∀cs ds:List Nat,PyData.eqvAll (cs.map fun c=>PyData.str (aI c)) (ds.map fun c=>PyData.str (aI c))=decide (cs=ds)
 | [],[]=>by simp[PyData.eqvAll]
 | [],_::_=>by simp[PyData.eqvAll]
 | _::_,[]=>by simp[PyData.eqvAll]
 | c::cs,d::ds=>by
   rw[List.map_cons,List.map_cons,PyData.eqvAll,rK cs ds,PyData.eqv,yz]
   simp
theorem tJ(ns ms:List Int):PyData.eqv (.list (ns.map PyData.int)) (.list (ms.map PyData.int))=decide (ns=ms):=by rw[PyData.eqv,vd]
theorem C2(cs ds:List Nat):PyData.eqv (.list (cs.map fun c=>PyData.str (aI c))) (.list (ds.map fun c=>PyData.str (aI c)))=decide (cs=ds):=by rw[PyData.eqv,rK]
def rEqI(K:PySem.W.Frag)(neg:Bool):R2:=fun x y H Q=>∃(a b:Addr) (ns ms:List Int),x=.ref a∧y=.ref b∧SqL K H a (ns.map V.int)∧SqL K H b (ms.map V.int)∧Q (.bl (if neg then !decide (ns=ms) else decide (ns=ms))) H
def rEqS(K:PySem.W.Frag)(neg:Bool):R2:=fun x y H Q=>∃(a b:Addr) (cs ds:List Nat),x=.ref a∧y=.ref b∧SqL K H a (cs.map sg)∧SqL K H b (ds.map sg)∧(∀c∈cs,c<0x110000)∧(∀c∈ds,c<0x110000)∧Q (.bl (if neg then !decide (cs=ds) else decide (cs=ds))) H
section
variable{X:Cx}{k:Nat}
theorem OpR.imp{f:Value→Value→Sem Value}{r r':R2}(h:OpR X f r)(i:∀x y H Q,r' x y H Q→r x y H Q):OpR X f r':=fun pins s σ H x y v u Q I rx ry q=>h pins s σ H x y v u Q I rx ry (i _ _ _ _ q)
theorem rEqI.toD{K:PySem.W.Frag}{neg:Bool}:∀x y H Q,rEqI K neg x y H Q→fT K neg x y H Q:=by
 rintro x y H Q ⟨a,b,ns,ms,rfl,rfl,h1,h2,q⟩
 refine⟨_,_,jW h1,jW h2,Nat.le_trans (Nat.min_le_left _ _) (Nat.le_trans (rm ns) (by decide)),?_⟩
 rw[tJ]
 exact q
theorem rEqS.toD{K:PySem.W.Frag}{neg:Bool}:∀x y H Q,rEqS K neg x y H Q→fT K neg x y H Q:=by
 rintro x y H Q ⟨a,b,ns,ms,rfl,rfl,h1,h2,c1,c2,q⟩
 refine⟨_,_,rV h1 c1,rV h2 c2,Nat.le_trans (Nat.min_le_left _ _) (Nat.le_trans (zZ ns) (by decide)),?_⟩
 rw[C2]
 exact q
theorem tV(hr:Room k X.A):OpR X (compareOp .Eq) (rEqI X.K false):=(nC hr).imp rEqI.toD
theorem jh(hr:Room k X.A):OpR X (compareOp .Eq) (rEqS X.K false):=(nC hr).imp rEqS.toD
theorem gQ:OpR X (compareOp .LtE) (fun x y H Q=>∃i j,x=.str i∧y=.str j∧Q (.bl (!decide (j.cps.toList<i.cps.toList))) H):=by
 intro pins s σ H x y v u Q I rx ry h
 obtain⟨i,j,rfl,rfl,q⟩:=h
 obtain⟨t,rfl⟩:=rx
 obtain⟨t',rfl⟩:=ry
 exact PySem.P.le_str ⟨.bl _,H,I,rfl,q⟩
theorem xE:cU X (.builtin "isinstance") (fun xs H Q=>∃x t c b,xs=[x,.ty c]∧TyOf X.K H x t∧PySem.W.kitOne X.K t (.type c)=some b∧Q (.bl b) H):=by
 intro pins s σ H xs us Q I r h
 obtain⟨x,t,c,b,rfl,ty,e,q⟩:=h
 obtain⟨u,u',rfl,rx,rc⟩:=nL r
 cases rc
 exact Bq I rx ty e fun tk=>⟨.bl b,H,I.tok tk,rfl,q⟩
end
structure Fn(P:Program)(w:World)(K:PySem.W.Frag)(mg:Str→Option Value)(base:Heap)(CX:bd)(x:Str)(k:Nat)(ps:List Str)(sp:Sp):Prop where
 ex:∃f fd,FnOk P w K mg base CX k f fd ps sp∧mg x=some (.ref f)∧PySem.W.keepIn K (.ref f)=true∧Binds K fd ps []∧∃oc od osl,K.lookup f=some ⟨oc,od,.func fd,osl⟩
theorem ai{X:Cx}{CX:bd}{k j:Nat}{ps:List Str}{sp:Sp}{E:XK}{x:Str}{p pos:Pos}{e:Expr}{es:List Expr}{t:TA}(F:Fn X.prog X.w X.K X.mg X.base CX x k ps sp)(hr:Room j X.A)(hx:cA CX X E)(ha:PA X (e::es) t)(hg:Gl X x:=by rfl)(hj:k≤j:=by decide)
 (hdb:(x == ("__debug__":Str))=false:=by decide)(he:starEach (e::es) X.env=(false,eval e X.env)::starEach es X.env:=by rfl)(hpl:(backTo pos (starEach es X.env)).any (·.1)=false:=by rfl):
 PE X (.Call (.Name x p) (e::es) [] pos) (gU sp [] E t):=by
 obtain⟨f,fd,F,hm,hk,hb,_⟩:=F.ex
 exact zg F (hr.mono hj) hg hm hk hb .nil hx ha hdb he hpl
structure FF(K:PySem.W.Frag)(x:Str)(st:Stmt):Prop where
 ex:∃(f:Addr) (oc:Value) (od an:Option Addr) (osl:Array (Option Value)) (kV doc pm cdv ct:Value),PySem.W.nsIn K mainGlobals x=some (some (.ref f))∧
  K.lookup f=some ⟨oc,od,.func (PySem.W.fnOf x x (cf st) (bG st) (al st) .none kV doc pm an cdv ct),osl⟩∧PySem.W.codeIn K cdv x=true∧PySem.W.keepIn K (.ref f)=true
theorem ff_mk{K:PySem.W.Frag}{x:Str}{st:Stmt}{f:Addr}{oc:Value}{od an:Option Addr}{osl:Array (Option Value)}{kV doc pm cdv ct:Value}(a:PySem.W.nsIn K mainGlobals x=some (some (.ref f)))(l:K.lookup f=some ⟨oc,od,.func (PySem.W.fnOf x x (cf st) (bG st) (al st) .none kV doc pm an cdv ct),osl⟩)(c:PySem.W.codeIn K cdv x=true)(k:PySem.W.keepIn K (.ref f)=true):FF K x st:=⟨f,oc,od,an,osl,kV,doc,pm,cdv,ct,a,l,c,k⟩
structure Md(K:PySem.W.Frag)(mg:Str→Option Value):Prop where
 ns:∀x v,PySem.W.nsIn K mainGlobals x=some v→mg x=v
theorem DB{K:PySem.W.Frag}{h:Heap}{mg:Str→Option Value}(X:K.In h)(G:h.Ns mainGlobals mg):Md K mg:=⟨fun x v e=>by
 cases v with
 | none=>exact PySem.W.mg_none_of X G e
 | some u=>exact PySem.W.mg_of X G e⟩
theorem aP{P:Program}{w:World}{K:PySem.W.Frag}{mg:Str→Option Value}{base:Heap}{x:Str}{st:Stmt}{N ps:List Str}{k:Nat}{sp:Sp}(M:Md K mg)(F:FF K x st)(S:FnScope N ps (al st))(hbind:∀(kV doc pm:Value) (an:Option Addr) (cdv ct:Value) (us:List Value),us.length=ps.length→bindArgs (PySem.W.fnOf x x (cf st) (bG st) (al st) .none kV doc pm an cdv ct) ⟨us,[]⟩=pure (ps.zip us))(len:∀vs H Q E,sp vs H Q E→vs.length=ps.length)(hbody:∀(f:Addr) (cdv:Value) (A:Around) (outer:List Env) (s:Shared) (H:Hp) (vs:List V) (Q:VK) (E:XK),Room k (A.deeper (envOfC x (al st) s.heap.objs.size f cdv))→sp vs H Q E→∃t,PSs (bW ae P w K mg base N x (al st) f cdv A outer s H E).nox (bG st) t∧t {nx:=fun _ H'=>Q .non H',rt:=Q} (ck N vs) H):Fn P w K mg base ae x (k+1) ps sp:=by
 obtain⟨f,oc,od,an,osl,kV,doc,pm,cdv,ct,a,l,c,kk⟩:=F.ex
 have F1:=ir (st:=st) l c kk
 exact⟨f,_,F1.ok S len (fun cdv A outer s H vs Q E hr h=>hbody f cdv A outer s H vs Q E hr h),M.ns _ _ a,kk,F1.binds hbind,oc,od,osl,l⟩
theorem bK{CX:bd}{P:Program}{w:World}{K:PySem.W.Frag}{mg:Str→Option Value}{base:Heap}{x:Str}{st:Stmt}{N ps:List Str}{k:Nat}{sp:Sp}(M:Md K mg)(F:FF K x st)(S:FnScope N ps (al st))(hbind:∀(kV doc pm:Value) (an:Option Addr) (cdv ct:Value) (us:List Value),us.length=ps.length→bindArgs (PySem.W.fnOf x x (cf st) (bG st) (al st) .none kV doc pm an cdv ct) ⟨us,[]⟩=pure (ps.zip us))(len:∀vs H Q E,sp vs H Q E→vs.length=ps.length)(hbody:∀(f:Addr) (cdv:Value) (A:Around) (outer:List Env) (s:Shared) (H:Hp) (vs:List V) (Q:VK) (E:XK),Room k (A.deeper (envOfC x (al st) s.heap.objs.size f cdv))→sp vs H Q E→∃t,PSs (bW CX P w K mg base N x (al st) f cdv A outer s H E) (bG st) t∧t {nx:=fun _ H'=>Q .non H',rt:=Q} (ck N vs) H):Fn P w K mg base CX x (k+1) ps sp:=by
 obtain⟨f,oc,od,an,osl,kV,doc,pm,cdv,ct,a,l,c,kk⟩:=F.ex
 have F1:=ir (st:=st) l c kk
 exact⟨f,_,jw l c S len (fun A outer s H vs Q E hr h=>hbody f cdv A outer s H vs Q E hr h),M.ns _ _ a,kk,F1.binds hbind,oc,od,osl,l⟩
structure Bl(mg:Str→Option Value):Prop where
 max:mg "max"=none
 int:mg "int"=none
 len:mg "len"=none
 range:mg "range"=none
 list:mg "list"=none
 isinst:mg "isinstance"=none
 bool:mg "bool"=none
 str:mg "str"=none
 tuple:mg "tuple"=none
 rev:mg "reversed"=none
 zip:mg "zip"=none
 min:mg "min"=none
 sum:mg "sum"=none
 enumerate:mg "enumerate"=none
 dict:mg "dict"=none
theorem bl_of{K:PySem.W.Frag}{mg:Str→Option Value}(M:Md K mg)(b1:PySem.W.nsIn K mainGlobals "max"=some none)(b2:PySem.W.nsIn K mainGlobals "int"=some none)(b3:PySem.W.nsIn K mainGlobals "len"=some none)(b4:PySem.W.nsIn K mainGlobals "range"=some none)(b5:PySem.W.nsIn K mainGlobals "list"=some none)(b6:PySem.W.nsIn K mainGlobals "isinstance"=some none)(b7:PySem.W.nsIn K mainGlobals "bool"=some none)(b8:PySem.W.nsIn K mainGlobals "str"=some none)(b9:PySem.W.nsIn K mainGlobals "tuple"=some none)(b10:PySem.W.nsIn K mainGlobals "reversed"=some none)(b11:PySem.W.nsIn K mainGlobals "zip"=some none)(b12:PySem.W.nsIn K mainGlobals "min"=some none)(b13:PySem.W.nsIn K mainGlobals "sum"=some none)(b14:PySem.W.nsIn K mainGlobals "enumerate"=some none)(b15:PySem.W.nsIn K mainGlobals "dict"=some none):Bl mg:=
 ⟨M.ns _ _ b1,M.ns _ _ b2,M.ns _ _ b3,M.ns _ _ b4,M.ns _ _ b5,M.ns _ _ b6,M.ns _ _ b7,M.ns _ _ b8,M.ns _ _ b9,M.ns _ _ b10,M.ns _ _ b11,M.ns _ _ b12,M.ns _ _ b13,M.ns _ _ b14,M.ns _ _ b15⟩
def bz(p:Addr)(H H':Hp):Prop:=∀b o,H b=some o→b≠p→H' b=some o
theorem Same.upd{H:Hp}{p:Addr}{o:HO}(h:H p=none):Same H (upd H p o):=fun c u e=>by rw[ap (aK e h)];exact e
theorem xY:bootBuiltins "max"=some (.builtin "max"):=by decide+kernel
theorem nN:bootBuiltins "min"=some (.builtin "min"):=by decide+kernel
theorem wo:bootBuiltins "sum"=some (.builtin "sum"):=by decide+kernel
theorem pz:bootBuiltins "len"=some (.builtin "len"):=by decide+kernel
theorem oI:bootBuiltins "isinstance"=some (.builtin "isinstance"):=by decide+kernel
theorem u7:bootBuiltins "int"=some (.type "int"):=by decide+kernel
theorem j8:bootBuiltins "str"=some (.type "str"):=by decide+kernel
theorem uh:bootBuiltins "list"=some (.type "list"):=by decide+kernel
theorem sO:bootBuiltins "reversed"=some (.type "reversed"):=by decide+kernel
section
variable{X:Cx}{e e2:Expr}{te te2:TE}{p p2 pos:Pos}
theorem PE.imp{t t':TE}(h:PE X e t)(i:∀σ H Q,t' σ H Q→t σ H Q):PE X e t':=fun pins s σ H Q I q=>h pins s σ H Q I (i σ H Q q)
def sR(K:PySem.W.Frag)(te:TE):TE:=fun σ H Q=>te σ H fun x H1=>∃a ys,x=.ref a∧SqL K H1 a ys∧Q (.int ys.length) H1
def zS(te:TE):TE:=fun σ H Q=>te σ H fun x H1=>∃z,x=.str z∧z.length≤sizeLine∧Q (.int z.length) H1
def wI(te te2:TE):TE:=fun σ H Q=>te σ H fun x H1=>te2 σ H1 fun y H2=>∃i j,x=.int i∧y=.int j∧Q (.int (if j>i then j else i)) H2
def A3(te:TE):TE:=fun σ H Q=>te σ H fun x H1=>∃k,x=.bl k∧Q (.int (if k then 1 else 0)) H1
def Ak(K:PySem.W.Frag)(te:TE):TE:=fun σ H Q=>te σ H fun x H1=>∃a ys,x=.ref a∧SqL K H1 a ys∧∀l,H1 l=none→Q (.ref l) (upd H1 l (.lst ys))
def A6(K:PySem.W.Frag)(c:String)(te:TE):TE:=fun σ H Q=>te σ H fun x H1=>∃t b,TyOf K H1 x t∧PySem.W.kitOne K t (.type c)=some b∧Q (.bl b) H1
def r1(r:V→Hp→VK→Prop):List V→Hp→VK→Prop:=fun xs H Q=>match xs with | [x]=>r x H Q | _=>False
def gZ(r:V→V→Hp→VK→Prop):List V→Hp→VK→Prop:=fun xs H Q=>match xs with | [x,y]=>r x y H Q | _=>False
theorem eD{f:Value}{r:V→Hp→VK→Prop}(h:∀pins s σ H x us Q,Inv X pins σ H s→Vals [x] us→r x H Q→wpAny (model X.prog X.w) X.A (call f us) (EP X pins σ Q) X.xe s):cU X f (r1 r):=by
 intro pins s σ H xs us Q I rv q
 match xs,q with
 | [x],q=>exact h pins s σ H x us Q I rv q
theorem jd{f:Value}{r:V→V→Hp→VK→Prop}(h:∀pins s σ H x y us Q,Inv X pins σ H s→Vals [x,y] us→r x y H Q→wpAny (model X.prog X.w) X.A (call f us) (EP X pins σ Q) X.xe s):cU X f (gZ r):=by
 intro pins s σ H xs us Q I rv q
 match xs,q with
 | [x,y],q=>exact h pins s σ H x y us Q I rv q
theorem aG(hm:X.mg "len"=none)(ha:PE X e te)(hg:Gl X "len":=by rfl)(he:starEach [e] X.env=[(false,eval e X.env)]:=by rfl):PE X (.Call (.Name "len" p) [e] [] pos) (sR X.K te):=
 ez (r:=r1 fun x H Q=>∃a ys,x=.ref a∧SqL X.K H a ys∧Q (.int ys.length) H) (eD fun pins s σ H x us Q I rv ⟨a,ys,ex,h,q⟩=>BC pins s σ H _ us Q I rv ⟨a,ys,by rw[ex],.inl h,q⟩) hg hm pz (aa ha ac (by exact he)) (he:=by exact he)
theorem lz(hm:X.mg "len"=none)(ha:PE X e te)(hg:Gl X "len":=by rfl)(he:starEach [e] X.env=[(false,eval e X.env)]:=by rfl):PE X (.Call (.Name "len" p) [e] [] pos) (zS te):=
 ez (r:=r1 fun x H Q=>∃z,x=.str z∧z.length≤sizeLine∧Q (.int z.length) H) (eD fun pins s σ H x us Q I rv ⟨z,ex,h,q⟩=>Bv pins s σ H _ us Q I rv ⟨z,by rw[ex],h,q⟩) hg hm pz (aa ha ac (by exact he)) (he:=by exact he)
theorem yo(hc:X.calm=true)(hm:X.mg "max"=none)(ha:PE X e te)(hb:PE X e2 te2)(hg:Gl X "max":=by rfl)(he:starEach [e,e2] X.env=[(false,eval e X.env),(false,eval e2 X.env)]:=by rfl)(he2:starEach [e2] X.env=[(false,eval e2 X.env)]:=by rfl):PE X (.Call (.Name "max" p) [e,e2] [] pos) (wI te te2):=
 ez (r:=gZ fun x y H Q=>∃i j,x=.int i∧y=.int j∧Q (.int (if j>i then j else i)) H) (jd fun pins s σ H x y us Q I rv ⟨i,j,ex,ey,q⟩=>AT hc pins s σ H _ us Q I rv ⟨i,j,by rw[ex,ey],q⟩) hg hm xY (aa ha (aa hb ac (by exact he2)) (by rw[he,he2])) (he:=by rw[he,he2]) (hpl:=by rw[he2];rfl)
theorem jL(hm:X.mg "int"=none)(ha:PE X e te)(hg:Gl X "int":=by rfl)(he:starEach [e] X.env=[(false,eval e X.env)]:=by rfl):PE X (.Call (.Name "int" p) [e] [] pos) (A3 te):=
 iL (r:=r1 fun x H Q=>∃k,x=.bl k∧Q (.int (if k then 1 else 0)) H) (eD fun pins s σ H x us Q I rv ⟨z,ex,q⟩=>zB pins s σ H _ us Q I rv (.inr ⟨z,by rw[ex],q⟩)) hg hm u7 (aa ha ac (by exact he)) (he:=by exact he)
theorem DC(hm:X.mg "list"=none)(ha:PE X e te)(hg:Gl X "list":=by rfl)(he:starEach [e] X.env=[(false,eval e X.env)]:=by rfl):PE X (.Call (.Name "list" p) [e] [] pos) (Ak X.K te):=
 iL (r:=r1 fun x H Q=>∃a ys,x=.ref a∧SqL X.K H a ys∧∀l,H l=none→Q (.ref l) (upd H l (.lst ys))) (eD fun pins s σ H x us Q I rv ⟨a,ys,ex,h,q⟩=>zD pins s σ H _ us Q I rv ⟨a,ys,by rw[ex],.inl h,q⟩) hg hm uh (aa ha ac (by exact he)) (he:=by exact he)
theorem o9{T:Str}{c:String}(hm:X.mg "isinstance"=none)(hT:X.mg T=none)(hb:bootBuiltins T=some (.type c))(ha:PE X e te)(hg:Gl X "isinstance":=by rfl)(hgT:Gl X T:=by rfl)(he:starEach [e,.Name T p2] X.env=[(false,eval e X.env),(false,eval (.Name T p2) X.env)]:=by rfl)
 (hn:T≠"__name__":=by decide)(hd:(T == ("__debug__":Str))=false:=by decide):PE X (.Call (.Name "isinstance" p) [e,.Name T p2] [] pos) (A6 X.K c te):=
 ez (r:=gZ fun x y H Q=>∃t b,y=.ty c∧TyOf X.K H x t∧PySem.W.kitOne X.K t (.type c)=some b∧Q (.bl b) H)
  (jd fun pins s σ H x y us Q I rv ⟨t,b,ey,ty,ek,q⟩=>xE pins s σ H _ us Q I rv ⟨x,t,c,b,by rw[ey],ty,ek,q⟩) hg hm oI
  (aa ha (aa (pY (v:=.ty c) hgT hT hb rfl hn hd) ac) (by exact he)) (he:=by exact he) |>.imp fun σ H Q h=>by
   show te σ H fun x H1=>∃t b,V.ty c=.ty c∧_
   simp only[true_and]
   exact h
end
theorem lG(n d:Nat)(i:Int)(h:0≤i):HT.sIx n d (some i)=min i.toNat n:=by
 show(if i<0 then(i+(n:Int)).toNat else min i.toNat n)=min i.toNat n
 rw[if_neg (by lia)]
theorem wA{α:Type}(xs:List α)(k:Nat):xs.take (min k xs.length)=xs.take k:=by
 rcases Nat.le_total k xs.length with h | h
 ·rw[Nat.min_eq_left h]
 ·rw[Nat.min_eq_right h,List.take_length,List.take_of_length_le h]
theorem uo{α:Type}(xs:List α)(k:Nat):xs.drop (min k xs.length)=xs.drop k:=by
 rcases Nat.le_total k xs.length with h | h
 ·rw[Nat.min_eq_left h]
 ·rw[Nat.min_eq_right h,List.drop_length,List.drop_of_length_le h]
def eQ{α:Type}(xs:List α)(lo hi:Option Int):List α:=(xs.drop (HT.sIx xs.length 0 lo)).take (HT.sIx xs.length xs.length hi-HT.sIx xs.length 0 lo)
theorem je{α:Type}(xs:List α)(k:Int)(h:0≤k):eQ xs none (some k)=xs.take k.toNat:=by
 unfold eQ
 rw[lG _ _ _ h,HT.sIx_none,List.drop_zero,Nat.sub_zero,wA]
theorem kB{α:Type}(xs:List α)(k:Int)(h:0≤k):eQ xs (some k) none=xs.drop k.toNat:=by
 unfold eQ
 rw[lG _ _ _ h,HT.sIx_none,uo]
 exact List.take_of_length_le (by rw[List.length_drop];lia)
theorem m6{α:Type}(xs:List α)(i j:Int)(hi:0≤i)(hj:i≤j):eQ xs (some i) (some j)=(xs.drop i.toNat).take (j.toNat-i.toNat):=by
 unfold eQ
 rw[lG _ _ _ hi,lG _ _ _ (Int.le_trans hi hj),uo]
 rcases Nat.le_total j.toNat xs.length with h | h
 ·rw[Nat.min_eq_left h,Nat.min_eq_left (by lia)]
 ·rw[Nat.min_eq_right h]
  rcases Nat.le_total i.toNat xs.length with h' | h'
  ·rw[Nat.min_eq_left h',List.take_of_length_le (by rw[List.length_drop];lia),List.take_of_length_le (by rw[List.length_drop];lia)]
  ·rw[List.drop_of_length_le h'];simp
theorem dC{α β:Type}(f:α→β)(xs:List α)(lo hi:Option Int):eQ (xs.map f) lo hi=(eQ xs lo hi).map f:=by
 unfold eQ
 rw[List.length_map,List.map_take,List.map_drop]
theorem dh(xs:List V)(lo hi:Option Int):bA xs lo hi=eQ xs lo hi:=rfl
theorem pj{α:Type}(xs:List α)(r:Int)(h0:0≤r)(h1:r<xs.length):∃v,xs[r.toNat]?=some v∧v∈xs∧bF xs r=some v:=by
 have hl:r.toNat<xs.length:=by lia
 refine⟨xs[r.toNat],by simp[hl],List.getElem_mem hl,?_⟩
 have e:((r.toNat:Nat):Int)=r:=by lia
 have q:bF xs ((r.toNat:Nat):Int)=some xs[r.toNat]:=fh (by simp[hl])
 rw[e] at q
 exact q
theorem DG(n:Nat)(i:Int)(h0:0≤i)(h1:i<n):dY n i=some i.toNat:=by
 unfold dY
 rw[if_pos h0,if_pos h1]
theorem pq(cs:List Nat):(Str.length ⟨cs.toArray⟩)=cs.length:=by simp[Str.length]
theorem wE(a b:List Nat):((⟨a.toArray⟩:Str)++(⟨b.toArray⟩:Str))=⟨(a++b).toArray⟩:=by
 show Str.mk _=_
 simp
def dz(K:PySem.W.Frag)(a:Addr)(xs:List V):It:=
 ⟨fun i H=>SqL K H a xs∧i<xs.length,fun i H x H'=>H'=H∧xs[xs.length-1-i]?=some x,fun i _=>xs.length≤i⟩
theorem BL{P:Program}{w:World}{K:PySem.W.Frag}{tg:Expr}(a it:Addr)(xs:List V):Turn P w K tg (dz K a xs) [it] it (fun i h=>i≤xs.length∧h.IsRevIter it a ((xs.length:Int)-1-(i:Int))) where
 mem:=by simp
 obj:=fun i h st b hb=>by
  have e:b=it:=by simpa using hb
  subst e
  obtain⟨o,e,c,d⟩:=st.2
  exact⟨o,e,fun v z=>by rw[d] at z;cases z⟩
 keep:=fun i h h' st k=>⟨st.1,st.2.at fun o e=>k it (by simp) o e⟩
 item:=by
  intro X hP hw hK hc i pins s σ H E I hf st hg
  subst hP hw hK
  obtain⟨hq,hx⟩:=hg
  obtain⟨its,rv,p,hz⟩:=I.list hq
  have hlt:xs.length-1-i<xs.length:=by lia
  obtain⟨u,hu,ru⟩:=rv.get (show xs[xs.length-1-i]?=some xs[xs.length-1-i] by simp[hlt])
  obtain⟨f0,f1,f2,f3,f4,f5⟩:=hf it (by simp)
  have e1:(xs.length:Int)-1-(i:Int)=((xs.length-1-i:Nat):Int):=by lia
  have hit:=st.2
  rw[e1] at hit
  refine wpAny_pyNext_rev_item hit p.isList (x:=u) (by simpa using hu) fun h' st' sb=>?_
  have e2:((xs.length-1-i:Nat):Int)-1=(xs.length:Int)-1-((i+1:Nat):Int):=by lia
  rw[e2] at st'
  have I1:Inv X pins σ H {s with heap:=h'}:=I.turned (t':=s.toks) (fun b o hb e=>(sb.2 b hb).trans e) f0 f1 f3 f4 f5
  obtain⟨o,e,c,d⟩:=id st'
  exact⟨u,rfl,jr (s:={s with heap:=h'}) e c d (by decide) ⟨_,H,I1,ru,⟨rfl,by simp[hlt]⟩,⟨hx,st'⟩,fun b hb=>(hf b hb).1⟩⟩
 done:=by
  intro X hP hw hK hc i pins s σ H E I hf st hg
  subst hP hw hK
  obtain⟨f0,f1,f2,f3,f4,f5⟩:=hf it (by simp)
  have hg':xs.length≤i:=hg
  have e1:(xs.length:Int)-1-(i:Int)= -1:=by have:=st.1;lia
  have hit:=st.2
  rw[e1] at hit
  exact wpAny_pyNext_rev_end (I.ok.hd hc) hit fun h' eb=>⟨rfl,I.turned (t':=s.toks) (fun b o hb e=>eb b o hb e) f0 f1 f3 f4 f5⟩
 self:=fun _ _ _ _ _ st h=>wpAny_pyIter_revIter st.2 h
def wc(K:PySem.W.Frag)(tl:TE):TI:=fun σ H R=>tl σ H fun x H1=>∃a xs,x=.ref a∧SqL K H1 a xs∧R (dz K a xs) H1
theorem mY{X:Cx}{tg e:Expr}{te:TE}{p pos:Pos}(hm:X.mg "reversed"=none)(he:PE X e te)(hg:Gl X "reversed":=by rfl)(hs:starEach [e] X.env=[(false,eval e X.env)]:=by rfl):PI X tg (.Call (.Name "reversed" p) [e] [] pos) (wc X.K te):=by
 intro pins s σ H R I h
 refine Call_ (dE I hg hm sO (PyProof.Rows.callWith_type1 (am ((aa he ac (by exact hs)) pos pins s σ H (fun vs H1=>∃x,vs=[x]∧∃a xs,x=.ref a∧SqL X.K H1 a xs∧R (dz X.K a xs) H1) I ?_) fun us s1 ⟨vs,H1,I1,r1,q1⟩=>?_) hs rfl))
 ·show te σ H fun x H1=>∃x',[x]=[x']∧∃a xs,x'=.ref a∧SqL X.K H1 a xs∧R (dz X.K a xs) H1
  have e:(fun(x:V) (H1:Hp)=>∃x',[x]=[x']∧∃a xs,x'=V.ref a∧SqL X.K H1 a xs∧R (dz X.K a xs) H1)=fun x H1=>∃a xs,x=.ref a∧SqL X.K H1 a xs∧R (dz X.K a xs) H1:=by
   funext x H1
   apply propext
   constructor
   ·rintro⟨x',e,r⟩
    cases e
    exact r
   ·intro r
    exact⟨x,rfl,r⟩
  rw[e]
  exact h
 ·obtain⟨x,rfl,a,xs,rfl,hq,q⟩:=q1
  obtain⟨u,rfl,ru⟩:=eS r1
  cases ru
  obtain⟨its,rv,pl,hz⟩:=I1.list hq
  refine call_reversed_list pl.isList ?_
  have I2:Inv X pins σ H1 {s1 with heap:=s1.heap.push (revObj a ((its.toArray.size:Int)-1))}:=I1.kept (t':=s1.toks) fun b o e=>Heap.get?_push_of_some _ e
  have hl:=rv.length
  have st:({s1 with heap:=s1.heap.push (revObj a ((its.toArray.size:Int)-1))}:Shared).heap.IsRevIter s1.heap.objs.size a ((xs.length:Int)-1-((0:Nat):Int)):=by
   refine⟨_,Heap.get?_push_size _ rfl,rfl,?_⟩
   have:(its.toArray.size:Int)-1=(xs.length:Int)-1-((0:Nat):Int):=by simp;lia
   rw[←this];rfl
  refine wpAny_pyIter_revIter st ?_
  refine⟨s1.heap.objs.size,[s1.heap.objs.size],_,_,H1,rfl,I2,BL a _ xs,⟨Nat.zero_le _,st⟩,fun b hb=>?_,q⟩
  have e:b=s1.heap.objs.size:=by simpa using hb
  subst e
  exact I1.fpOk (Nat.le_refl _) (I1.hok.fresh (Nat.le_refl _))
theorem Dv{K:PySem.W.Frag}{a:Addr}{xs:List V}{tc:TT}{te:TE}{σ:St}{H1:Hp}{Q:Hp→Prop}{D:Addr}(Pv:Nat→List V→Hp→Prop)(hn:xs.length<sizeLine)(h0:Pv 0 [] (upd H1 D (.lst [])))(hl:∀i ys H,Pv i ys H→ys.length≤i)(hq:∀i ys H,i≤xs.length→Pv i ys H→SqL K H a xs)(hs:∀i x ys H,xs[xs.length-1-i]?=some x→i<xs.length→Pv i ys H→tc (σ++[some x]) H fun b H2=>if b=true then te (σ++[some x]) H2 fun v H3=>H3 D=some (.lst ys)∧Pv (i+1) (ys++[v]) (upd H3 D (.lst (ys++[v]))) else Pv (i+1) ys H2)
 (hd:∀ys H,Pv xs.length ys H→Q H):
 ∃ W:Nat→Nat→List V→Hp→Prop,(∃m,W 0 m [] (upd H1 D (.lst [])))∧
   ∀ i m ys H,W i m ys H→((dz K a xs).stop i H∧Q H)∨((dz K a xs).go i H∧ys.length<sizeLine∧∃N:List V→Hp→Prop,(∀ys' H',N ys' H'→∃m',m'<m∧W (i+1) m' ys' H')∧∀x H',(dz K a xs).yld i H x H'→tc (σ++[some x]) H' fun b H2=>
     if b=true then te (σ++[some x]) H2 fun v H3=>H3 D=some (.lst ys)∧N (ys++[v]) (upd H3 D (.lst (ys++[v]))) else N ys H2):=by
 refine⟨fun i m ys H=>m=xs.length-i∧i≤xs.length∧Pv i ys H,⟨xs.length,by simp,Nat.zero_le _,h0⟩,?_⟩
 rintro i m ys H ⟨rfl,hi,p⟩
 have q:=hq i ys H hi p
 by_cases hlt:i<xs.length
 ·refine .inr ⟨⟨q,hlt⟩,Nat.lt_of_le_of_lt (hl i ys H p) (Nat.lt_trans hlt hn),Pv (i+1),fun ys' H' p'=>⟨xs.length-(i+1),by lia,rfl,hlt,p'⟩,fun x H' y=>?_⟩
  obtain⟨e,y⟩:=y
  subst e
  exact hs i x ys _ y hlt p
 ·have e:i=xs.length:=by lia
  subst e
  exact .inl ⟨Nat.le_refl _,hd ys H p⟩
theorem dI{σ:St}{H:Hp}{A B:Hp→Prop}(h:A H):qi σ H fun b H2=>if b=true then A H2 else B H2:=by
 show if true=true then A H else B H
 rw[if_pos rfl]
 exact h
theorem lU{K:PySem.W.Frag}{H:Hp}:DatVs K H [] []:=by rw[DatVs]
theorem hO{K:PySem.W.Frag}{H:Hp}{d:PyData}{ds:List PyData}{v:V}{vs:List V}(h:DatV K H d v)(g:DatVs K H ds vs):DatVs K H (d::ds) (v::vs):=by
 rw[DatVs];exact⟨v,vs,rfl,h,g⟩
theorem jD{K:PySem.W.Frag}{H:Hp}{p:Addr}{ds:List PyData}{vs:List V}(h:SqL K H p vs)(g:DatVs K H ds vs):DatV K H (.list ds) (.ref p):=by
 rw[DatV];exact⟨p,vs,rfl,h,g⟩
theorem zx{K:PySem.W.Frag}{H:Hp}(b:Bool):DatV K H (.bool b) (.bl b):=by rw[DatV]
theorem iP{K:PySem.W.Frag}{H:Hp}(x:Str)(h:PyData.strOk x=true):DatV K H (.str x) (.str x):=by rw[DatV];exact⟨rfl,h⟩
def gh(ns:List Int):PyData:=.list (ns.map PyData.int)
theorem AU(cs ds:List Int):PyData.eqv (gh cs) (gh ds)=decide (cs=ds):=tJ cs ds
theorem qz(cs:List Int):(gh cs).depth≤2:=rm cs
section
variable{X:Cx}{a b e:Expr}{rest:List Expr}{ta tb te:TE}{p pos:Pos}
end
def FW(J:It)(g:TG)(tb:TS)(D:Ends)(σ:St)(H1:Hp):Prop:=∃W:Nat→Nat→St→Hp→Prop,(∃m,W 0 m σ H1)∧∀i m σ H,W i m σ H→
 (J.stop i H∧D.nx σ H)∨(J.go i H∧∃N:St→Hp→Prop,(∀σ' H',N σ' H'→∃m',m'<m∧W (i+1) m' σ' H')∧∀x H',J.yld i H x H'→g x σ H' fun σ2 H2=>tb {D with nx:=N,ct:=N,bk:=D.nx} σ2 H2)
theorem Ag{wi:TI}{g:TG}{tb rest:TS}{D:Ends}{σ:St}{H:Hp}(h:wi σ H fun J H1=>FW J g tb {D with nx:=rest D} σ H1):ic (rR wi g tb) rest D σ H:=h
def wa(i j:Int):Prop:=0<j∧j<1000000000000000000000000000000000000000000000000000000000000
theorem Br{X:Cx}:OpR X (binaryOp .FloorDiv) (rI wa fun i j=>.int (i / j)):=hV fun i j _ _ _ _ _ hc q=>by
 have hn:j.natAbs.log2<9000:=by
  have h0:j.natAbs≠0:=by have:=hc.1;lia
  rw[Nat.log2_lt h0]
  have h1:j.natAbs<1000000000000000000000000000000000000000000000000000000000000:=by have:=hc.1;have:=hc.2;lia
  exact Nat.lt_of_lt_of_le h1 (Nat.le_trans (show 1000000000000000000000000000000000000000000000000000000000000≤2 ^ 200 by decide) (Nat.pow_le_pow_right (by decide) (by decide)))
 refine floordiv_int (by have:=hc.1;lia) ?_ (.inl (PyProof.noPylong_of_log2 hn))
 rw[Int.fdiv_eq_ediv_of_nonneg _ (by have:=hc.1;lia)]
 exact q
theorem Inv.turnLaid{X:Cx}{pins:List (Addr×Obj)}{σ:St}{H:Hp}{s:Shared}{h':Heap}{t':Nat}{ch:List Addr}{a:Addr}{o:HO}(I:Inv X pins σ H s)(hch:∀b∈ch,du X pins H b)(k:∀b u,b∉ch→s.heap.get? b=some u→h'.get? b=some u)(hp:s.heap.objs.size≤a)(new:ObjOk X.prog X.w (upd H a o) h' a o):Inv X pins σ (upd H a o) {s with heap:=h',toks:=t'}:=by
 have hn:=I.hok.fresh hp
 have nch:∀b u,H b=some u→b∉ch:=fun b u e hb=>by rw[(hch b hb).1] at e;cases e
 refine I.step (g':=s.gens) (d':=s.drawn) (ch:=ch) (fun b hb=>?_) (fun b o _ _ hc e _=>k b o hc e) (fun b o _ _ hc e _=>⟨o.slots,k b o hc e⟩) (fun b o hc e n=>?_) (fun b o hc e=>⟨o,k b o hc e⟩) (fun b xs e=>?_) (fun b o u e=>?_) (fun b ps e=>⟨#[],?_⟩) (fun m hm=>?_) (fun b u e=>?_) I.bare
 ·obtain⟨f0,f1,f2,f3,f4,f5⟩:=hch b hb
  exact⟨f3,f1,f4,f5⟩
 ·rw[ap (Nat.ne_of_lt (Nat.lt_of_lt_of_le (Heap.lt_size e) hp))];exact n
 ·rw[ap (aK e hn)];exact e
 ·rw[ap (aK e hn)];exact e
 ·rw[ap (aK e hn),e];simp
 ·obtain⟨o,es,ep,ho,r⟩:=hm
  exact⟨o,es,ep,k _ o (fun hb=>(hch _ hb).2.1 rfl) ho,r⟩
 ·by_cases hb:b=a
  ·subst hb;rw[ag] at e;cases e;exact new
  ·rw[ap hb] at e
   refine(I.hok b u e).stay (fun c v hc q=>k c v ?_ q) (fun c q=>by rw[ap (aK q hn)];exact q) fun c xs q=>by rw[ap (aK q hn)];exact q
   rcases hc with z | z
   ·rw[z];exact nch b u e
   ·exact nch c _ z
theorem Inv.turnMany{X:Cx}{pins:List (Addr×Obj)}{σ:St}{H:Hp}{s:Shared}{h':Heap}{t':Nat}{ch:List Addr}(I:Inv X pins σ H s)(hch:∀b∈ch,du X pins H b)(k:∀b u,b∉ch→s.heap.get? b=some u→h'.get? b=some u):Inv X pins σ H {s with heap:=h',toks:=t'}:=by
 have nch:∀b u,H b=some u→b∉ch:=fun b u e hb=>by rw[(hch b hb).1] at e;cases e
 refine I.step (g':=s.gens) (d':=s.drawn) (ch:=ch) (fun b hb=>?_) (fun b o _ _ hc e _=>k b o hc e) (fun b o _ _ hc e _=>⟨o.slots,k b o hc e⟩) (fun b o hc e n=>n) (fun b o hc e=>⟨o,k b o hc e⟩) (fun b xs e=>e) (fun b o u e=>e) (fun b ps e=>⟨#[],by rw[e];simp⟩) (fun m hm=>?_) (fun b u e=>?_) I.bare
 ·obtain⟨f0,f1,f2,f3,f4,f5⟩:=hch b hb
  exact⟨f3,f1,f4,f5⟩
 ·obtain⟨o,es,ep,ho,r⟩:=hm
  exact⟨o,es,ep,k _ o (fun hb=>(hch _ hb).2.1 rfl) ho,r⟩
 ·refine(I.hok b u e).stay (fun c v hc q=>k c v ?_ q) (fun _ q=>q) fun _ _ q=>q
  rcases hc with z | z
  ·rw[z];exact nch b u e
  ·exact nch c _ z
def gx(a b:Addr):It:=
 ⟨fun i H=>∃xs ys,H a=some (.lst xs)∧H b=some (.lst ys)∧i<xs.length∧i<ys.length,
  fun i H x H'=>∃xs ys u v p,H a=some (.lst xs)∧H b=some (.lst ys)∧xs[i]?=some u∧ys[i]?=some v∧H p=none∧H'=upd H p (.tup [u,v])∧x=.ref p,
  fun i H=>∃xs ys,H a=some (.lst xs)∧H b=some (.lst ys)∧(xs.length≤i∨ys.length≤i)⟩
theorem zk{P:Program}{w:World}{K:PySem.W.Frag}{es:List Expr}{kk:Nat}{tp:Pos}(a b z TI TO i1 i2:Addr)(D:ZipApart z TI TO i1 i2 a b):Turn P w K (.Tuple es kk tp) (gx a b) [z,TI,TO,i1,i2] z (fun i h=>IsZip h z TI TO .none∧IsPair h TI (.ref i1) (.ref i2)∧(∃x y,IsPair h TO x y)∧h.IsListIter i1 a i∧h.IsListIter i2 b i) where
 mem:=by simp
 obj:=fun i h st c hc=>by
  obtain⟨h1,h2,⟨x,y,h3⟩,h4,h5⟩:=st
  simp only[List.mem_cons,List.not_mem_nil,or_false] at hc
  rcases hc with rfl | rfl | rfl | rfl | rfl
  ·exact⟨_,h1,fun v q=>by have q':Data.fields _=Data.cell v:=q;cases q'⟩
  ·exact⟨_,h2,fun v q=>by have q':Data.seq _ _=Data.cell v:=q;cases q'⟩
  ·exact⟨_,h3,fun v q=>by have q':Data.seq _ _=Data.cell v:=q;cases q'⟩
  ·obtain⟨o,e,c,d⟩:=h4
   exact⟨o,e,fun v q=>by rw[d] at q;cases q⟩
  ·obtain⟨o,e,c,d⟩:=h5
   exact⟨o,e,fun v q=>by rw[d] at q;cases q⟩
 keep:=fun i h h' st k=>by
  obtain⟨h1,h2,⟨x,y,h3⟩,h4,h5⟩:=st
  exact⟨k z (by simp) _ h1,k TI (by simp) _ h2,⟨x,y,k TO (by simp) _ h3⟩,h4.at fun o e=>k i1 (by simp) o e,h5.at fun o e=>k i2 (by simp) o e⟩
 item:=by
  intro X hP hw hK hc i pins s σ H E I hf st hg
  subst hP hw hK
  obtain⟨h1,h2,⟨x,y,h3⟩,h4,h5⟩:=st
  obtain⟨xs,ys,ha,hb,hi1,hi2⟩:=hg
  obtain⟨_,its1,n1,rv1,hl1,e1⟩:=I.lstM ha
  obtain⟨_,its2,n2,rv2,hl2,e2⟩:=I.lstM hb
  obtain⟨u,hu,ru⟩:=rv1.get (show xs[i]?=some xs[i] by simp[hi1])
  obtain⟨v,hv,rv⟩:=rv2.get (show ys[i]?=some ys[i] by simp[hi2])
  refine wpAny_pyNext_zip_item D h1 h2 h3 h4 h5 ⟨_,e1,rfl,n1,rfl⟩ ⟨_,e2,rfl,n2,rfl⟩ (x:=u) (y:=v) (by simpa using hu) (by simpa using hv) fun h' z1 z2 z3 z4 z5 z6 z7=>⟨_,rfl,?_⟩
  refine wpAny_letOwnedTupleGo_zip (s:={s with heap:=h'}) z1 fun h'' y1 sb=>?_
  have zlt:z<s.heap.objs.size:=Heap.lt_size h1
  have nz:s.heap.objs.size≠z:=Nat.ne_of_gt zlt
  have hnew:IsPair h'' s.heap.objs.size u v:=sb.extBut _ _ nz z5
  have kk:∀c o,c∉ [z,TI,TO,i1,i2]→s.heap.get? c=some o→h''.get? c=some o:=fun c o hc e=>by
   simp only[List.mem_cons,List.not_mem_nil,or_false,not_or] at hc
   exact sb.extBut _ _ hc.1 (z7 c o hc.1 hc.2.2.1 hc.2.2.2.1 hc.2.2.2.2 e)
  have I1:Inv X pins σ (upd H s.heap.objs.size (.tup [xs[i],ys[i]])) {s with heap:=h'',toks:=s.toks}:=I.turnLaid hf kk (Nat.le_refl _) ⟨by show 2≤sizeLine;decide,[u,v],.cons ru (.cons rv .nil),⟨_,hnew,rfl,_,rfl⟩⟩
  refine⟨.ref s.heap.objs.size,_,I1,rfl,⟨xs,ys,xs[i],ys[i],s.heap.objs.size,ha,hb,by simp[hi1],by simp[hi2],I.hok.fresh (Nat.le_refl _),rfl,rfl⟩,⟨y1,?_,⟨u,v,?_⟩,?_,?_⟩,fun c hc=>?_⟩
  ·exact sb.extBut _ _ D.TIz (z7 TI _ D.TIz D.TITO D.TIi1 D.TIi2 h2)
  ·exact sb.extBut _ _ D.TOz z2
  ·exact z3.at fun o e=>sb.extBut _ _ D.i1z e
  ·exact z4.at fun o e=>sb.extBut _ _ D.i2z e
  ·rw[ap]
   ·exact(hf c hc).1
   ·intro q
    subst q
    obtain⟨o,e,_⟩:∃o,s.heap.get? s.heap.objs.size=some o∧True:=by
     simp only[List.mem_cons,List.not_mem_nil,or_false] at hc
     rcases hc with q | q | q | q | q
     ·rw[q] at*;exact⟨_,h1,trivial⟩
     ·exact⟨_,q▸h2,trivial⟩
     ·exact⟨_,q▸h3,trivial⟩
     ·obtain⟨o,e,_⟩:=h4;exact⟨o,q▸e,trivial⟩
     ·obtain⟨o,e,_⟩:=h5;exact⟨o,q▸e,trivial⟩
    exact absurd (Heap.lt_size e) (Nat.lt_irrefl _)
 done:=by
  intro X hP hw hK hc i pins s σ H E I hf st hg
  subst hP hw hK
  obtain⟨h1,h2,⟨x,y,h3⟩,h4,h5⟩:=st
  obtain⟨xs,ys,ha,hb,hend⟩:=hg
  obtain⟨_,its1,n1,rv1,hl1,e1⟩:=I.lstM ha
  obtain⟨_,its2,n2,rv2,hl2,e2⟩:=I.lstM hb
  refine wpAny_pyNext_zip_end (I.ok.hd hc) D h1 h2 h3 h4 h5 ⟨_,e1,rfl,n1,rfl⟩ ⟨_,e2,rfl,n2,rfl⟩ ?_ fun h' k=>⟨rfl,I.turnMany (t':=s.toks) hf fun c o hc e=>?_⟩
  ·rcases hend with q | q
   ·left;simp;lia
   ·right;simp;lia
  ·simp only[List.mem_cons,List.not_mem_nil,or_false,not_or] at hc
   exact k c o hc.1 hc.2.2.1 hc.2.2.2.1 hc.2.2.2.2 e
 self:=fun _ _ _ _ _ st h=>wpAny_pyIter_zip st.1 h
theorem Bw:bootBuiltins "zip"=some (.type "zip"):=by decide+kernel
def Bc(te te2:TE):TI:=fun σ H R=>te σ H fun x H1=>te2 σ H1 fun y H2=>∃a b xs ys,x=.ref a∧y=.ref b∧H2 a=some (.lst xs)∧H2 b=some (.lst ys)∧R (gx a b) H2
theorem xk{X:Cx}{es:List Expr}{kk:Nat}{tp:Pos}{e e2:Expr}{te te2:TE}{p pos:Pos}(hm:X.mg "zip"=none)(he:PE X e te)(he2:PE X e2 te2)(hg:Gl X "zip":=by rfl)
 (hs:starEach [e,e2] X.env=[(false,eval e X.env),(false,eval e2 X.env)]:=by rfl)(hs2:starEach [e2] X.env=[(false,eval e2 X.env)]:=by rfl):PI X (.Tuple es kk tp) (.Call (.Name "zip" p) [e,e2] [] pos) (Bc te te2):=by
 intro pins s σ H R I h
 refine Call_ (dE I hg hm Bw (PyProof.Rows.callWith_type1 (am ((aa he (aa he2 ac (by exact hs2)) (by rw[hs,hs2])) pos pins s σ H (fun vs H2=>match vs with | [x,y]=>∃a b xs ys,x=.ref a∧y=.ref b∧H2 a=some (.lst xs)∧H2 b=some (.lst ys)∧R (gx a b) H2 | _=>False) I h) fun us s1 ⟨vs,H1,I1,r1,q1⟩=>?_) (by rw[hs,hs2]) (by rw[hs2];rfl)))
 match vs,q1 with
 | [x,y],q1=>
   obtain⟨a,b,xs,ys,rfl,rfl,ha,hb,q⟩:=q1
   obtain⟨u,v,rfl,ru,rv⟩:=r1.two
   cases ru
   cases rv
   obtain⟨_,its1,n1,rv1,hl1,e1⟩:=I1.lstM ha
   obtain⟨_,its2,n2,rv2,hl2,e2⟩:=I1.lstM hb
   have ih1:s1.heap.IsList a its1.toArray:=⟨_,e1,rfl,n1,rfl⟩
   have ih2:s1.heap.IsList b its2.toArray:=⟨_,e2,rfl,n2,rfl⟩
   refine call_zip_2 ih1 ih2 fun h' z1 z2 z3 z4 z5 z6 z7=>?_
   have I2:Inv X pins σ H1 {s1 with heap:=h'}:=I1.kept (t':=s1.toks) z7
   refine wpAny_pyIter_zip (s:={s1 with heap:=h'}) z1 ?_
   refine⟨_,_,_,gx a b,H1,rfl,I2,zk a b _ _ _ _ _ (zipApart_new (Heap.lt_size e1) (Heap.lt_size e2)),⟨z1,z2,⟨_,_,z3⟩,z4,z5⟩,fun c hc=>?_,q⟩
   have hge:s1.heap.objs.size≤c:=by
    simp only[List.mem_cons,List.not_mem_nil,or_false] at hc
    rcases hc with q | q | q | q | q <;> (subst q;first | exact Nat.le_add_right _ _ | exact Nat.le_refl _)
   exact I1.fpOk hge (I1.hok.fresh hge)
theorem xz{a b:Addr}{xs ys:List V}{g:TG}{tb:TS}{D:Ends}{σ:St}{H:Hp}(Pv:Nat→St→Hp→Prop)(h0:Pv 0 σ H)(hl:∀i σ H,i≤min xs.length ys.length→Pv i σ H→H a=some (.lst xs)∧H b=some (.lst ys))(hs:∀i u v p σ H,xs[i]?=some u→ys[i]?=some v→H p=none→Pv i σ H→g (.ref p) σ (upd H p (.tup [u,v])) fun σ2 H2=>tb {D with nx:=Pv (i+1),ct:=Pv (i+1),bk:=D.nx} σ2 H2)(hd:∀σ H,Pv (min xs.length ys.length) σ H→D.nx σ H):
 ∃ W:Nat→Nat→St→Hp→Prop,(∃m,W 0 m σ H)∧∀i m σ H,W i m σ H→
   ((gx a b).stop i H∧D.nx σ H)∨((gx a b).go i H∧∃N:St→Hp→Prop,(∀σ' H',N σ' H'→∃m',m'<m∧W (i+1) m' σ' H')∧∀x H',(gx a b).yld i H x H'→g x σ H' fun σ2 H2=>tb {D with nx:=N,ct:=N,bk:=D.nx} σ2 H2):=by
 refine⟨fun i m σ H=>m=min xs.length ys.length-i∧i≤min xs.length ys.length∧Pv i σ H,⟨min xs.length ys.length,by simp,Nat.zero_le _,h0⟩,?_⟩
 rintro i m σ H ⟨rfl,hi,p⟩
 obtain⟨qa,qb⟩:=hl i σ H hi p
 by_cases hlt:i<min xs.length ys.length
 ·refine .inr ⟨⟨xs,ys,qa,qb,by lia,by lia⟩,Pv (i+1),fun σ' H' p'=>⟨min xs.length ys.length-(i+1),by lia,rfl,hlt,p'⟩,fun x H' y=>?_⟩
  obtain⟨xs',ys',u,v,q,ea,eb,eu,ev,hq,e1,e2⟩:=y
  rw[qa] at ea
  rw[qb] at eb
  have e3:xs=xs':=HO.lst.inj (Option.some.inj ea)
  have e4:ys=ys':=HO.lst.inj (Option.some.inj eb)
  subst e3 e4 e1 e2
  exact hs i u v q σ H eu ev hq p
 ·have e:i=min xs.length ys.length:=by lia
  subst e
  exact .inl ⟨⟨xs,ys,qa,qb,by lia⟩,hd σ H p⟩
theorem ng{n:Nat}(h:n≤5000):n<sizeLine:=Nat.lt_of_le_of_lt h (by decide)
section
variable{X:Cx}{e e2:Expr}{te te2:TE}{p p2 pos:Pos}
def Bm(te te2:TE):TE:=fun σ H Q=>te σ H fun x H1=>te2 σ H1 fun y H2=>∃i j,x=.int i∧y=.int j∧Q (.int (if j<i then j else i)) H2
theorem m8(hc:X.calm=true)(hm:X.mg "min"=none)(ha:PE X e te)(hb:PE X e2 te2)(hg:Gl X "min":=by rfl)(he:starEach [e,e2] X.env=[(false,eval e X.env),(false,eval e2 X.env)]:=by rfl)(he2:starEach [e2] X.env=[(false,eval e2 X.env)]:=by rfl):PE X (.Call (.Name "min" p) [e,e2] [] pos) (Bm te te2):=
 ez (r:=gZ fun x y H Q=>∃i j,x=.int i∧y=.int j∧Q (.int (if j<i then j else i)) H) (jd fun pins s σ H x y us Q I rv ⟨i,j,ex,ey,q⟩=>xr hc pins s σ H _ us Q I rv ⟨i,j,by rw[ex,ey],q⟩) hg hm nN (aa ha (aa hb ac (by exact he2)) (by rw[he,he2])) (he:=by rw[he,he2]) (hpl:=by rw[he2];rfl)
end
theorem qP{ns:List Int}:∀j,j≤ns.length→preSum (fun i=>ns.getD i 0) j=(ns.take j).sum
 | 0,_=>by simp[preSum]
 | j+1,h=>by
   rw[show preSum (fun i=>ns.getD i 0) (j+1)=preSum (fun i=>ns.getD i 0) j+ns.getD j 0 from rfl,qP j (by lia),List.take_succ]
   have:ns[j]?=some (ns.getD j 0):=by
    rw[List.getD_eq_getElem?_getD]
    cases q:ns[j]? with
    | none=>rw[List.getElem?_eq_none_iff] at q;lia
    | some v=>rfl
   rw[this,List.sum_append];simp
section
variable{X:Cx}
variable{e:Expr}{te:TE}{p pos:Pos}
end
theorem pG:∀{xs:List V} {us:List Value},xs.length=us.length→(∀(i:Nat) (x:V) (u:Value),xs[i]?=some x→us[i]?=some u→RelV x u)→Vals xs us
 | [],[],_,_=>.nil
 | [],_::_,h,_=>by simp at h
 | _::_,[],h,_=>by simp at h
 | x::xs,u::us,h,g=>.cons (g 0 x u rfl rfl) (pG (by simpa using h) fun i x' u' a b=>g (i+1) x' u' (by simpa using a) (by simpa using b))
section
variable{X:Cx}{e:Expr}{te:TE}{p pos:Pos}
theorem yn(hc:X.calm=true):cU X (.type "list") (fun xs H Q=>∃z:Str,xs=[.str z]∧z.length≤sizeLine∧∀l,H l=none→Q (.ref l) (upd H l (.lst (z.cps.toList.map sg)))):=by
 intro pins s σ H xs us Q I r h
 obtain⟨z,rfl,hz,q⟩:=h
 obtain⟨u,rfl,rx⟩:=eS r
 obtain⟨t,rfl⟩:=rx
 refine call_list_str (hn:=hz) (I.ok.hd hc) z t fun h' tk acc c k hl hit=>?_
 refine⟨.ref _,_,I.laid (t':=tk) (o:=.lst (z.cps.toList.map sg)) k (Nat.le_refl _) ?_,rfl,q _ (I.hok.fresh (Nat.le_refl _))⟩
 obtain⟨hsz,hat⟩:=hit
 refine⟨by rw[List.length_map];simpa [Str.length] using hz,acc.toList,c,?_,by simpa using hl⟩
 refine pG (by rw[List.length_map];simp[hsz]) fun i x u hx hu=>?_
 have hu':acc[i]?=some u:=by simpa using hu
 obtain⟨c',t',h1,rfl⟩:=hat i u hu'
 rw[List.getElem?_map] at hx
 have:z.cps.toList[i]?=some c':=by simpa using h1
 rw[this] at hx
 have e:sg c'=x:=Option.some.inj hx
 subst e
 exact⟨t',rfl⟩
def DT(te:TE):TE:=fun σ H Q=>te σ H fun x H1=>∃z:Str,x=.str z∧z.length≤sizeLine∧∀l,H1 l=none→Q (.ref l) (upd H1 l (.lst (z.cps.toList.map sg)))
theorem rF(hc:X.calm=true)(hm:X.mg "list"=none)(ha:PE X e te)(hg:Gl X "list":=by rfl)(he:starEach [e] X.env=[(false,eval e X.env)]:=by rfl):PE X (.Call (.Name "list" p) [e] [] pos) (DT te):=
 iL (r:=r1 fun x H Q=>∃z:Str,x=.str z∧z.length≤sizeLine∧∀l,H l=none→Q (.ref l) (upd H l (.lst (z.cps.toList.map sg)))) (eD fun pins s σ H x us Q I rv ⟨z,ex,h,q⟩=>yn hc pins s σ H _ us Q I rv ⟨z,by rw[ex],h,q⟩) hg hm uh (aa ha ac (by exact he)) (he:=by exact he)
end
structure CompOK2(outer sc:Scope)(xs:List Str)(M N:List Str):Prop where
 kind:sc.kind=.function
 nocell:∀y∈sc.names,y.2≠ .cell
 loc:∀y∈sc.names,y.2=.local→sc.names.lookup y.1=some .local
 own:∀x∈xs,sc.names.lookup x=some .local
 free:∀y∈sc.names,y.2=.free→(outer.names.lookup y.1=some .cell∨outer.names.lookup y.1=some .free)
 nd:(M++xs).Nodup
 len:M.length=N.length
 same:∀p∈M.zip N,p.1=p.2∨sc.names.lookup p.1=none
 noloc:∀y∈M,sc.names.lookup y≠some .local
section
variable{X:Cx}{pins:List (Addr×Obj)}{σ:St}{H2:Hp}{s2:Shared}{scope:Scope}{xs M:List Str}{cl:List (Str×Addr)}{fp:List Addr}{h1:Heap}{t':Nat}
end
inductive TyB (H:Hp):V→Value→Prop where
 | non:TyB H .non (.type "NoneType")
 | bl (x:Bool):TyB H (.bl x) (.type "bool")
 | int (i:Int):TyB H (.int i) (.type "int")
 | str (x:Str):TyB H (.str x) (.type "str")
 | lst {a:Addr} {xs:List V} (e:H a=some (.lst xs)):TyB H (.ref a) (.type "list")
 | tup {a:Addr} {xs:List V} (e:H a=some (.tup xs)):TyB H (.ref a) (.type "tuple")
section
variable{X:Cx}{e:Expr}{te:TE}{p pos:Pos}
end
def au(P:Program)(w:World):bd:=fun outer H s E e s'=>
 ∃ (a:Addr) (cls a0:Value) (B:Heap) (H':Hp),e=.ref a∧s'.os=s.os∧AllBare s'.gens∧Un (aO outer) [] H H' s.heap s'.heap∧HOk P w H' s'.heap∧H' a=none∧s.heap.get? a=none∧
   Heap.FlyingW B outer a cls a0 s'.heap∧(∀b o,s'.heap.get? b=some o→b∉aO outer→(s.heap.get? b≠none∨H' b≠none)→B.get? b=some o)∧E cls none H'
theorem sQ{h h' base base':Heap}:∀{l:List Env},(∀L∈aO l,base'.get? L=none∧∀o,h.get? L=some o→(∀vs,o.data≠ .fields vs)→∃o',h'.get? L=some o'∧o'.data=o.data)→h.FunFrames base l→h'.FunFrames base' l
 | [],_,_=>trivial
 | env::r,k,⟨h1,⟨L,o,h2,h3,h4,h5⟩,h6⟩=>by
   have hL:L∈aO (env::r):=List.mem_filterMap.mpr ⟨env,List.mem_cons_self,h2⟩
   obtain⟨k1,k2⟩:=k L hL
   obtain⟨o',e1,e2⟩:=k2 o h4 h5
   refine⟨h1,⟨L,o',h2,k1,e1,fun vs=>by rw[e2];exact h5 vs⟩,sQ (fun L' hL'=>k L' ?_) h6⟩
   obtain⟨en,e3,e4⟩:=List.mem_filterMap.mp hL'
   exact List.mem_filterMap.mpr ⟨en,List.mem_cons_of_mem _ e3,e4⟩
theorem jA{h base:Heap}:∀{l:List Env},h.FunFrames base l→∀L∈aO l,∃o,h.get? L=some o∧∀vs,o.data≠ .fields vs
 | [],_,L,hL=>by cases hL
 | env::r,⟨h1,⟨L',o,h2,h3,h4,h5⟩,h6⟩,L,hL=>by
   obtain⟨en,e3,e4⟩:=List.mem_filterMap.mp hL
   rcases List.mem_cons.mp e3 with z | z
   ·subst z
    have:L=L':=Option.some.inj (e4.symm.trans h2)
    subst this
    exact⟨o,h4,h5⟩
   ·exact jA h6 L (List.mem_filterMap.mpr ⟨en,z,e4⟩)
theorem ObjOk.isAt{P:Program}{w:World}{H:Hp}{h:Heap}{a:Addr}{o:HO}(x:ObjOk P w H h a o):∃ob,h.get? a=some ob:=by
 cases o with
 | lst xs=>obtain⟨_,_,_,_,q⟩:=x;exact⟨_,q⟩
 | tup xs=>obtain⟨_,_,_,ob,q,_⟩:=x;exact⟨_,q⟩
 | dK kvs=>obtain⟨_,_,_,_,ob,_,_,q,_⟩:=x;exact⟨_,q⟩
 | dT kvs=>obtain⟨_,_,_,_,ob,_,_,q,_⟩:=x;exact⟨_,q⟩
 | set S n=>obtain⟨ob,_,_,_,q,_⟩:=x;exact⟨_,q⟩
 | ins C dx fs=>obtain⟨_,_,_,q,_⟩:=x;exact⟨_,q⟩
 | own y=>obtain⟨_,q⟩:=x;exact⟨_,q⟩
 | xd fs=>obtain⟨_,⟨_,_,_,q,_⟩,_⟩:=x;exact⟨_,q⟩
 | rng lo hi=>obtain⟨_,_,_,q⟩:=x;exact⟨_,q⟩
 | frz ob u=>obtain⟨q,_⟩:=x;exact⟨_,q⟩
 | tbl ps=>exact⟨_,(show h.get? a=some _ from x)⟩
 | met f y=>exact⟨_,(show h.get? a=some _ from x)⟩
 | ext φ=>obtain⟨_,⟨_,q⟩,_⟩:=x;exact⟨_,q⟩
theorem sJ{P:Program}{w:World}{H:Hp}{h:Heap}(x:HOk P w H h){a:Addr}(e:h.get? a=none):H a=none:=by
 cases q:H a with
 | none=>rfl
 | some o=>
   obtain⟨ob,q'⟩:=(x a o q).isAt
   rw[e] at q';cases q'
section
variable{X:Cx}{pins:List (Addr×Obj)}{σ:St}{H1:Hp}{s1:Shared}
theorem Inv.fsAt(I:Inv X pins σ H1 s1):∀L∈X.fs,∃o,s1.heap.get? L=some o∧(∀vs,o.data≠ .fields vs)∧H1 L=none∧X.base.get? L=none:=fun L hL=>by
 obtain⟨o,h1,h2⟩:=jA I.ok.funs L hL
 have hx:L∉X.ex:=fun z=>I.ok.exfs L z hL
 obtain⟨sl,e⟩:=I.base.slot L o h1 (I.ok.frf L hL) hL hx
 exact⟨_,e,h2,I.base.free L o h1 (I.ok.frf L hL) hx,(I.ok.funs.mem hL).1⟩
theorem vP{A:Around}{outer:List Env}{s:Shared}{H:Hp}{E:XK}{env:Env}{P:Program}{w:World}{e:Addr}{cls:Value}{args:List Value}{h2:Heap}{tk:Nat}(hX:X.A=A.deeper env∧X.env=env∧X.stack=env::outer∧X.outer=outer∧X.s₀=s∧X.H₀=H∧X.ex=[]∧X.prog=P∧X.w=w)(hfr:env.frame=some env.locals)(I:Inv X pins σ H1 s1)(hx:Heap.MadeExcOf s1.heap h2 e cls args)(hE:E cls none H1):wpAny (model P w) (A.deeper env) (leaving env (.ref e)) (fun _ s''=>au P w outer H s E (.ref e) s'') (fun e' s''=>au P w outer H s E e' s'') {s1 with heap:=h2,toks:=tk}:=by
 obtain⟨xA,xe,xs,xo,x0,xH,xx,xP,xw⟩:=hX
 subst xe xP xw x0 xH xo
 have hlt:=I.lt
 have hL:∀L∈aO (X.env::X.outer),∃o,s1.heap.get? L=some o∧(∀vs,o.data≠ .fields vs)∧H1 L=none:=fun L hm=>by
  obtain⟨en,e3,e4⟩:=List.mem_filterMap.mp hm
  rcases List.mem_cons.mp e3 with z | z
  ·subst z
   have:L=X.env.locals:=Option.some.inj (e4.symm.trans hfr)
   subst this
   obtain⟨m,hn,_⟩:=I.loc
   obtain⟨o,es,ep,ho,hd,_⟩:=id hn
   exact⟨o,ho,(fun vs q=>by rw[hd] at q;cases q),I.free⟩
  ·obtain⟨o,h1,h2,h3,_⟩:=I.fsAt L (List.mem_filterMap.mpr ⟨en,z,e4⟩)
   exact⟨o,h1,h2,h3⟩
 have fD:∀b u,H1 b=some u→b∉aO (X.env::X.outer):=fun b u e hm=>by
  obtain⟨_,_,_,h3⟩:=hL b hm
  rw[h3] at e;cases e
 have old:∀b o,X.s₀.heap.get? b=some o→b≠X.env.locals:=fun b o q z=>by
  have:=Nat.lt_of_lt_of_le (Heap.lt_size q) I.ok.above
  rw[z] at this;exact absurd this (Nat.lt_irrefl _)
 have nin:∀b,b≠X.env.locals→b∉aO X.outer→b∉aO (X.env::X.outer):=fun b h1 h2 hm=>by
  obtain⟨en,e3,e4⟩:=List.mem_filterMap.mp hm
  rcases List.mem_cons.mp e3 with z | z
  ·subst z
   exact h1 (Option.some.inj (e4.symm.trans hfr))
  ·exact h2 (List.mem_filterMap.mpr ⟨en,z,e4⟩)
 refine wpAny_leaves_madeW (base:=PySem.W.hideAll s1.heap (aO (X.env::X.outer))) (h:=s1.heap) (by rw[←xA,I.ok.frames,xs]) hfr (fun b o q=>PySem.W.of_hideAll _ q) ?_ hx fun h' t f1 f2 f3 f4=>?_
 ·have F:s1.heap.FunFrames X.base X.outer:=I.funs
  have F':s1.heap.FunFrames (PySem.W.hideAll s1.heap (aO (X.env::X.outer))) X.outer:=sQ (fun L hm=>⟨PySem.W.hideAll_none _ (by
   obtain⟨en,e3,e4⟩:=List.mem_filterMap.mp hm
   exact List.mem_filterMap.mpr ⟨en,List.mem_cons_of_mem _ e3,e4⟩),fun o q _=>⟨o,q,rfl⟩⟩) F
  obtain⟨o,ho,hd,_⟩:=hL X.env.locals (List.mem_filterMap.mpr ⟨X.env,List.mem_cons_self,hfr⟩)
  exact⟨by rw[I.ok.kind];decide,⟨X.env.locals,o,hfr,PySem.W.hideAll_none _ (List.mem_filterMap.mpr ⟨X.env,List.mem_cons_self,hfr⟩),ho,hd⟩,F'⟩
 ·have st:∀b o,s1.heap.get? b=some o→b∉aO (X.env::X.outer)→h'.get? b=some o:=fun b o q n=>f1.1 b o (PySem.W.hideAll_get _ q n)
  have sl:∀b o,s1.heap.get? b=some o→(∀vs,o.data≠ .fields vs)→∃z,h'.get? b=some {o with slots:=z}:=fun b o q n=>f4 b o (hx.keeps b o q) n
  have isAt:∀b u,H1 b=some u→∃o,s1.heap.get? b=some o:=fun b u q=>by
   cases q':s1.heap.get? b with
   | some o=>exact⟨o,rfl⟩
   | none=>exact absurd q (by rw[sJ I.hok q'];simp)
  have eNew:H1 e=none:=sJ I.hok hx.new
  refine⟨e,cls,.ref t,PySem.W.hideAll s1.heap (aO (X.env::X.outer)),H1,rfl,I.os,I.bare,⟨fun b o q n hb _=>?_,fun b o q n hb _=>?_,fun b o q n _=>I.base.free b o q n (by rw[xx];simp),fun b o q _=>?_,I.base.tups,I.base.frzs,I.base.tbls⟩,fun b u q=>?_,eNew,?_,f1,?_,hE⟩
  ·exact st b o (I.base.keep b o q n hb (by rw[xx];simp)) (nin b (old b o q) hb)
  ·obtain⟨z,q'⟩:=I.base.slot b o q n hb (by rw[xx];simp)
   obtain⟨o',q2,q3⟩:=jA I.ok.funs b hb
   rw[q] at q2;cases q2
   obtain⟨z',q4⟩:=sl b _ q' q3
   exact⟨z',q4⟩
  ·obtain⟨o',q'⟩:=I.base.there b o q (by rw[xx];simp)
   by_cases hb:b∈aO X.outer
   ·obtain⟨o2,h1,h2,_⟩:=I.fsAt b hb
    obtain⟨z,q4⟩:=sl b o2 h1 h2
    exact⟨_,q4⟩
   ·exact⟨o',st b o' q' (nin b (old b o q) hb)⟩
  ·refine(I.hok b u q).stay (fun c v hc q'=>st c v q' ?_) (fun _ q'=>q') fun _ _ q'=>q'
   rcases hc with z | z
   ·rw[z];exact fD b u q
   ·exact fD c _ z
  ·cases q:X.s₀.heap.get? e with
   | none=>rfl
   | some o=>
     obtain⟨o',q'⟩:=I.base.there e o q (by rw[xx];simp)
     rw[hx.new] at q';cases q'
  ·intro b o q hb hor
   have ex:∃o1,s1.heap.get? b=some o1∧b∉aO (X.env::X.outer):=by
    rcases hor with z | z
    ·cases q0:X.s₀.heap.get? b with
     | none=>exact absurd q0 z
     | some o0=>
       obtain⟨o1,q1⟩:=I.base.there b o0 q0 (by rw[xx];simp)
       exact⟨o1,q1,nin b (old b o0 q0) hb⟩
    ·cases q0:H1 b with
     | none=>exact absurd q0 z
     | some u=>
       obtain⟨o1,q1⟩:=isAt b u q0
       exact⟨o1,q1,fD b u q0⟩
   obtain⟨o1,q1,nb⟩:=ex
   have:=st b o1 q1 nb
   rw[q] at this;cases this
   exact PySem.W.hideAll_get _ q1 nb
theorem yG{A:Around}{outer:List Env}{s:Shared}{H:Hp}{E E':XK}{env:Env}{P:Program}{w:World}{e:Value}{s':Shared}(hX:X.A=A.deeper env∧X.env=env∧X.stack=env::outer∧X.outer=outer∧X.s₀=s∧X.H₀=H∧X.ex=[]∧X.prog=P∧X.w=w)(hfr:env.frame=some env.locals)(I:Inv X pins σ H1 s1)(hx:au P w X.stack H1 s1 E' e s')(hE:∀cls H',E' cls none H'→E cls none H'):wpAny (model P w) (A.deeper env) (leaving env e) (fun _ s''=>au P w outer H s E e s'') (fun e' s''=>au P w outer H s E e' s'') s':=by
 obtain⟨xA,xe,xs,xo,x0,xH,xx,xP,xw⟩:=hX
 subst xe xP xw x0 xH xo
 rw[xs] at hx
 obtain⟨a,cls,a0,B,H',rfl,os,gb,un,hok,ha,hn,fl,hB,he⟩:=hx
 have hL0:X.env.locals∈aO (X.env::X.outer):=List.mem_filterMap.mpr ⟨X.env,List.mem_cons_self,hfr⟩
 have sub:∀b,b∈aO X.outer→b∈aO (X.env::X.outer):=fun b hm=>by
  obtain⟨en,e3,e4⟩:=List.mem_filterMap.mp hm
  exact List.mem_filterMap.mpr ⟨en,List.mem_cons_of_mem _ e3,e4⟩
 have nin:∀b,b≠X.env.locals→b∉aO X.outer→b∉aO (X.env::X.outer):=fun b h1 h2 hm=>by
  obtain⟨en,e3,e4⟩:=List.mem_filterMap.mp hm
  rcases List.mem_cons.mp e3 with z | z
  ·subst z
   exact h1 (Option.some.inj (e4.symm.trans hfr))
  ·exact h2 (List.mem_filterMap.mpr ⟨en,z,e4⟩)
 have old:∀b o,X.s₀.heap.get? b=some o→b≠X.env.locals:=fun b o q z=>by
  have:=Nat.lt_of_lt_of_le (Heap.lt_size q) I.ok.above
  rw[z] at this;exact absurd this (Nat.lt_irrefl _)
 have frn:∀b,b∈aO (X.env::X.outer)→H1 b=none∧H' b=none∧∃o,s1.heap.get? b=some o∧∀vs,o.data≠ .fields vs:=fun b hm=>by
  have h1:∃o,s1.heap.get? b=some o∧(∀vs,o.data≠ .fields vs)∧H1 b=none:=by
   obtain⟨en,e3,e4⟩:=List.mem_filterMap.mp hm
   rcases List.mem_cons.mp e3 with z | z
   ·subst z
    have:b=X.env.locals:=Option.some.inj (e4.symm.trans hfr)
    subst this
    obtain⟨m,hn',_⟩:=I.loc
    obtain⟨o,es,ep,ho,hd,_⟩:=id hn'
    exact⟨o,ho,(fun vs q=>by rw[hd] at q;cases q),I.free⟩
   ·obtain⟨o,h1,h2,h3,_⟩:=I.fsAt b (List.mem_filterMap.mpr ⟨en,z,e4⟩)
    exact⟨o,h1,h2,h3⟩
  obtain⟨o,h2,h3,h4⟩:=h1
  exact⟨h4,un.free b o h2 h4 (by simp),o,h2,h3⟩
 refine wpAny_leaves_onW (base:=B) (by rw[←xA,I.ok.frames,xs]) hfr fl fun h' f1 f4=>?_
 have st:∀b o,s'.heap.get? b=some o→b∉aO (X.env::X.outer)→(s1.heap.get? b≠none∨H' b≠none)→h'.get? b=some o:=fun b o q n z=>f1.1 b o (hB b o q n z)
 refine⟨a,cls,a0,B,H',rfl,os.trans I.os,gb,⟨fun b o q n hb _=>?_,fun b o q n hb _=>?_,fun b o q n _=>?_,fun b o q _=>?_,fun b xs' q=>un.tups b xs' (I.base.tups b xs' q),fun b o u q=>un.frzs b o u (I.base.frzs b o u q),fun b ps q=>?_⟩,fun b u q=>?_,ha,?_,f1,?_,hE _ _ he⟩
 ·have q1:=I.base.keep b o q n hb (by rw[xx];simp)
  have n1:=I.base.free b o q n (by rw[xx];simp)
  have nb:=nin b (old b o q) hb
  have q2:=un.keep b o q1 n1 nb (by simp)
  exact st b o q2 nb (.inl (by rw[q1];simp))
 ·obtain⟨z1,q1⟩:=I.base.slot b o q n hb (by rw[xx];simp)
  have n1:=I.base.free b o q n (by rw[xx];simp)
  obtain⟨z2,q2⟩:=un.slot b _ q1 n1 (sub b hb) (by simp)
  obtain⟨o',q3,q4⟩:=jA I.ok.funs b hb
  rw[q] at q3;cases q3
  obtain⟨z3,q5⟩:=f4 b _ q2 q4
  exact⟨z3,q5⟩
 ·exact un.free b _ (I.base.there b o q (by rw[xx];simp)).choose_spec (I.base.free b o q n (by rw[xx];simp)) (by simp)
 ·obtain⟨o1,q1⟩:=I.base.there b o q (by rw[xx];simp)
  obtain⟨o2,q2⟩:=un.there b o1 q1 (by simp)
  by_cases hb:b∈aO X.outer
  ·obtain⟨n1,n2,o3,q3,q4⟩:=frn b (sub b hb)
   obtain⟨z2,q5⟩:=un.slot b o3 q3 n1 (sub b hb) (by simp)
   obtain⟨z3,q6⟩:=f4 b _ q5 q4
   exact⟨_,q6⟩
  ·exact⟨o2,st b o2 q2 (nin b (old b o q) hb) (.inl (by rw[q1];simp))⟩
 ·obtain⟨m1,q1⟩:=I.base.tbls b ps q
  obtain⟨m2,q2⟩:=un.tbls b _ q1
  exact⟨m1++m2,by rw[q2,Array.append_assoc]⟩
 ·refine(hok b u q).stay (fun c v hc q'=>st c v q' ?_ (.inr ?_)) (fun _ q'=>q') fun _ _ q'=>q'
  ·intro hm
   rcases hc with z | z
   ·rw[z] at hm;rw[(frn b hm).2.1] at q;cases q
   ·rw[(frn c hm).2.1] at z;cases z
  ·rcases hc with z | z
   ·rw[z,q];simp
   ·rw[z];simp
 ·cases q:X.s₀.heap.get? a with
  | none=>rfl
  | some o=>
    obtain⟨o',q'⟩:=I.base.there a o q (by rw[xx];simp)
    rw[hn] at q';cases q'
 ·intro b o q hb hor
  have ex:∃o2,s'.heap.get? b=some o2∧b∉aO (X.env::X.outer)∧(s1.heap.get? b≠none∨H' b≠none):=by
   rcases hor with z | z
   ·cases q0:X.s₀.heap.get? b with
    | none=>exact absurd q0 z
    | some o0=>
      obtain⟨o1,q1⟩:=I.base.there b o0 q0 (by rw[xx];simp)
      obtain⟨o2,q2⟩:=un.there b o1 q1 (by simp)
      exact⟨o2,q2,nin b (old b o0 q0) hb,.inl (by rw[q1];simp)⟩
   ·cases q0:H' b with
    | none=>exact absurd q0 z
    | some u=>
      obtain⟨o2,q2⟩:=(hok b u q0).isAt
      exact⟨o2,q2,(fun hm=>by rw[(frn b hm).2.1] at q0;cases q0),.inr (by simp)⟩
  obtain⟨o2,q2,nb,hor'⟩:=ex
  have:=st b o2 q2 nb hor'
  rw[q] at this;cases this
  exact hB b _ q2 nb hor'
end
abbrev iq:List Value:=[.type "ValueError",.type "Exception",.type "BaseException",.type "object"]
structure Exc(K:PySem.W.Frag)(mg:Str→Option Value)(x:Str)(C:Addr):Prop where
 bound:mg x=some (.ref C)
 isIn:PySem.W.excIn K C iq "ValueError.__new__"=true
theorem AX{K:PySem.W.Frag}{C:Addr}(q:PySem.W.excIn K C iq "ValueError.__new__"=true)(h:Heap)(X:K.In h):∃bm N nm qn bs hdct sn sub ab col dd k0 k1 k2 k3 k5 mN,h.get? C=some (excClassObj nm qn C N bs bm hdct sn sub ab col dd k0 k1 k2 k3 k5 "ValueError.__new__")∧h.Ns N mN∧mN "__init__"=none∧OwnTail h iq bm:=by
 unfold PySem.W.excIn at q
 split at q
 case h_2=>cases q
 case h_1 dd cd sl ho=>
  split at q
  case h_2=>cases q
  case h_1 C' bm k0 k1 k2 k3 n k5 hm hs=>
   simp only[Bool.and_eq_true,beq_iff_eq,Bool.not_eq_true'] at q
   obtain⟨⟨⟨⟨⟨e1,e2⟩,hdel⟩,ht⟩,hok⟩,hni⟩:=q
   subst e1 e2
   obtain⟨nm,bs,mro,nsA,qn,hd,sn,sub,ab,col,del⟩:=cd
   have hm':mro=.ref C'::bm:=hm
   have hdel':del=false:=hdel
   subst hm' hdel'
   have esl:sl=#[k0,k1,k2,k3,some (.builtin "ValueError.__new__"),k5]:=by
    cases sl with
    | mk l=>exact congrArg Array.mk hs
   subst esl
   exact⟨bm,nsA,nm,qn,bs,hd,sn,sub,ab,col,dd,k0,k1,k2,k3,k5,_,X _ _ ho,.of_isNs (PySem.W.isNs_of_in X hok),PySem.W.nsMap_none_of_in X hok hni,PySem.W.tail_of_in X ht⟩
theorem eE{P:Program}{w:World}{K:PySem.W.Frag}{mg:Str→Option Value}{base:Heap}{N:List Str}{qual:Str}{scope:Scope}{f:Addr}{cd:Value}{A:Around}{outer:List Env}{s:Shared}{H:Hp}{E:XK}{x:Str}{C:Addr}{np cpos pos:Pos}{e0:Expr}{te:TE}(O:Exc K mg x C)(he:PE (bW (au P w) P w K mg base N qual scope f cd A outer s H E) e0 te)(hg:Gl (bW (au P w) P w K mg base N qual scope f cd A outer s H E) x:=by rfl)
 (hst:starEach [e0] (envOfC qual scope s.heap.objs.size f cd)=[(false,eval e0 (envOfC qual scope s.heap.objs.size f cd))]:=by rfl)(hd:(x == ("__debug__":Str))=false:=by decide):
 PS (bW (au P w) P w K mg base N qual scope f cd A outer s H E) (.Raise (some (.Call (.Name x np) [e0] [] cpos)) none pos) (fun D σ H1=>te σ H1 fun v H2=>[v].length=1∧E (.ref C) none H2):=by
 intro pins s1 σ H1 D I h
 obtain⟨tl,Nn,nm,q,bs,hdct,sn,sub,ab,col,dd,k0,k1,k2,k3,k5,mN,hC,hN,hni,T⟩:=AX O.isIn base I.ok.mod.kin
 refine wpAny_Raise_call_subT (C:=C) (nm:=nm) (q:=q) (N:=Nn) (bs:=bs) (bm:=tl) (hdct:=hdct) (sn:=sn) (sub:=sub) (ab:=ab) (col:=col) (dd:=dd) (k0:=k0) (k1:=k1) (k2:=k2) (k3:=k3) (k5:=k5) (env:=envOfC qual scope s.heap.objs.size f cd)
  F.excBase_ValueError (mN:=mN) (T.hasType F.excBase_ValueError.hasBase) (I.ok.hd rfl) (by rw[hst];rfl) hni (gp I hg O.bound ⟨rfl,?_⟩ hd)
 rw[hst]
 refine Calls.evalArgs_plain ?_
 have hp:=(aa he ac (by exact hst)) cpos pins s1 σ H1 (fun vs H2=>vs.length=1∧E (.ref C) none H2) I h
 have hp':wpAny (model P w) (A.deeper (envOfC qual scope s.heap.objs.size f cd)) (spliced (backTo cpos (starEach [e0] (envOfC qual scope s.heap.objs.size f cd)))) _ _ s1:=hp
 rw[hst] at hp'
 refine am hp' fun us s2 ⟨vs,H2,I2,r2,l2,q2⟩=>?_
 refine⟨rfl,?_,I2.bk _ _ hC,hN.keeps I2.bk,T.keeps I2.bk,fun h' e made=>?_⟩
 ·show us.length≤sizeLine
  rw[←r2.length,l2];decide
 ·exact vP (tk:=s2.toks) (A:=A) (outer:=outer) (s:=s) (H:=H) (E:=E) (env:=envOfC qual scope s.heap.objs.size f cd) ⟨rfl,rfl,rfl,rfl,rfl,rfl,rfl,rfl,rfl⟩ rfl I2 made q2
theorem aV{P:Program}{w:World}{K:PySem.W.Frag}{mg:Str→Option Value}{base:Heap}{N:List Str}{qual:Str}{scope:Scope}{f:Addr}{cd:Value}{A:Around}{outer:List Env}{s:Shared}{H:Hp}{E:XK}:cA (au P w) (bW (au P w) P w K mg base N qual scope f cd A outer s H E) E:=fun pins σ H1 s1 e s' I hx=>
 yG (A:=A) (outer:=outer) (s:=s) (H:=H) (E:=E) (E':=E) (env:=envOfC qual scope s.heap.objs.size f cd) ⟨rfl,rfl,rfl,rfl,rfl,rfl,rfl,rfl,rfl⟩ rfl I hx fun _ _ z=>z
def D5(X:Cx)(pins:List (Addr×Obj))(σ0:St)(E0:XK):Value→Shared→Prop:=fun e s'=>∃H1 s1,Inv X pins σ0 H1 s1∧au X.prog X.w X.stack H1 s1 E0 e s'
abbrev dL(X:Cx)(pins:List (Addr×Obj))(σ0:St)(E0:XK):Cx:={X with pn:=X.pn++pins,xe:=D5 X pins σ0 E0}
abbrev jx(X:Cx)(e:Addr)(xe:Value→Shared→Prop):Cx:={X with A:=X.A.mark (some (.ref e)),calm:=false,xe:=xe}
section
variable{X:Cx}{pins:List (Addr×Obj)}{σ σ0:St}{H H1:Hp}{s s1:Shared}{E0:XK}
theorem Inv.toTry(I:Inv X pins σ H s):Inv (dL X pins σ0 E0) [] σ H s:=
 ⟨⟨I.ok.mod,I.ok.kind,I.ok.glob,I.ok.blt,I.ok.above,I.ok.inj,I.ok.has,I.ok.cab,I.ok.hd,I.ok.frames,I.ok.stk,I.ok.exf,I.ok.bs,I.ok.bsz,I.ok.noex,I.ok.exfs,I.ok.funs,I.ok.frf⟩,I.os,I.bare,I.base,I.loc,I.cell,I.free,I.freeC,fun p hp=>I.pin p (by simpa using hp),I.hok,I.len⟩
theorem Inv.ofTry{pins':List (Addr×Obj)}(I:Inv (dL X pins σ0 E0) pins' σ H s):Inv X pins σ H s:=
 ⟨⟨I.ok.mod,I.ok.kind,I.ok.glob,I.ok.blt,I.ok.above,I.ok.inj,I.ok.has,I.ok.cab,I.ok.hd,I.ok.frames,I.ok.stk,I.ok.exf,I.ok.bs,I.ok.bsz,I.ok.noex,I.ok.exfs,I.ok.funs,I.ok.frf⟩,I.os,I.bare,I.base,I.loc,I.cell,I.free,I.freeC,fun p hp=>I.pin p (List.mem_append_left _ hp),I.hok,I.len⟩
theorem Inv.toSuf{e:Addr}{xe:Value→Shared→Prop}(I:Inv X pins σ H s):Inv (jx X e xe) pins σ H s:=
 ⟨⟨I.ok.mod,I.ok.kind,I.ok.glob,I.ok.blt,I.ok.above,I.ok.inj,I.ok.has,I.ok.cab,(fun q=>by cases q),I.ok.frames,I.ok.stk,I.ok.exf,I.ok.bs,I.ok.bsz,I.ok.noex,I.ok.exfs,I.ok.funs,I.ok.frf⟩,I.os,I.bare,I.base,I.loc,I.cell,I.free,I.freeC,I.pin,I.hok,I.len⟩
theorem Inv.ofSuf{e:Addr}{xe:Value→Shared→Prop}(hd:X.calm=true→X.A.handled=none)(I:Inv (jx X e xe) pins σ H s):Inv X pins σ H s:=
 ⟨⟨I.ok.mod,I.ok.kind,I.ok.glob,I.ok.blt,I.ok.above,I.ok.inj,I.ok.has,I.ok.cab,hd,I.ok.frames,I.ok.stk,I.ok.exf,I.ok.bs,I.ok.bsz,I.ok.noex,I.ok.exfs,I.ok.funs,I.ok.frf⟩,I.os,I.bare,I.base,I.loc,I.cell,I.free,I.freeC,I.pin,I.hok,I.len⟩
def nw(σ0:St)(t:TE):TE:=fun σ H Q=>σ=σ0∧t σ H Q
theorem yx{k j:Nat}{ps:List Str}{sp:Sp}{x:Str}{p pos:Pos}{e:Expr}{es:List Expr}{t:TA}(F:Fn X.prog X.w X.K X.mg X.base (au X.prog X.w) x k ps sp)(hr:Room j X.A)(ha:PA (dL X pins σ0 E0) (e::es) t)(hg:Gl X x:=by rfl)(hj:k≤j:=by decide)
 (hdb:(x == ("__debug__":Str))=false:=by decide)(he:starEach (e::es) X.env=(false,eval e X.env)::starEach es X.env:=by rfl)(hpl:(backTo pos (starEach es X.env)).any (·.1)=false:=by rfl):
 PE (dL X pins σ0 E0) (.Call (.Name x p) (e::es) [] pos) (nw σ0 (gU sp [] E0 t)):=by
 obtain⟨f,fd,F,hm,hk,hb,_⟩:=F.ex
 have hr:=hr.mono hj
 intro pins' s σ H Q I h
 obtain⟨rfl,h⟩:=h
 refine wpAny_Call_Name_kw (gp I hg hm ?_ hdb)
 refine PySem.W.callWith_K (h₀:=X.base) I.ok.mod.kin hk (am (ha pos pins' s σ H _ I h) fun us s1 ⟨vs,H1,I1,r,q⟩=>⟨I1.kIn,?_⟩) he hpl
 have r2:Vals (vs++[]) (us++[]):=r.append .nil
 have hl:(us++[]).length=ps.length:=by rw[←r2.length];exact F.len _ _ _ _ q
 refine wpAny_call (codeAny_mono (F.run X.A X.stack s1 H1 ⟨us,[]⟩ (us++[]) (vs++[]) Q E0 hr I1.env0 (hb s1 us I1.kIn hl) r2 q) fun r s' hq=>?_)
 cases r with
 | error e=>exact⟨H1,s1,I1.ofTry,hq⟩
 | ok fl=>
   cases fl with
   | ret u=>exact I1.after hq
   | next=>exact False.elim hq
   | brk=>exact False.elim hq
   | cont=>exact False.elim hq
theorem Inv.caught{s':Shared}{H':Hp}{B h5:Heap}(hst:X.stack=X.env::X.outer)(hfr:X.env.frame=some X.env.locals)(I:Inv X pins σ H1 s1)(os:s'.os=s1.os)(gb:AllBare s'.gens)(un:Un (aO X.stack) [] H1 H' s1.heap s'.heap)(hok:HOk X.prog X.w H' s'.heap)(hB:∀b o,s'.heap.get? b=some o→b∉aO X.stack→(s1.heap.get? b≠none∨H' b≠none)→B.get? b=some o)(st5:∀b o,B.get? b=some o→h5.get? b=some o)(up:s'.heap.UpToSlots h5):Inv X pins σ H' {s' with heap:=h5}:=by
 have frn:∀b,b∈aO X.stack→H1 b=none∧H' b=none∧∃o,s1.heap.get? b=some o∧∀vs,o.data≠ .fields vs:=fun b hm=>by
  have h1:∃o,s1.heap.get? b=some o∧(∀vs,o.data≠ .fields vs)∧H1 b=none:=by
   rw[hst] at hm
   obtain⟨en,e3,e4⟩:=List.mem_filterMap.mp hm
   rcases List.mem_cons.mp e3 with z | z
   ·subst z
    have:b=X.env.locals:=Option.some.inj (e4.symm.trans hfr)
    subst this
    obtain⟨m,hn',_⟩:=I.loc
    obtain⟨o,es,ep,ho,hd,_⟩:=id hn'
    exact⟨o,ho,(fun vs q=>by rw[hd] at q;cases q),I.free⟩
   ·obtain⟨o,h1,h2,h3,_⟩:=I.fsAt b (List.mem_filterMap.mpr ⟨en,z,e4⟩)
    exact⟨o,h1,h2,h3⟩
  obtain⟨o,h2,h3,h4⟩:=h1
  exact⟨h4,un.free b o h2 h4 (by simp),o,h2,h3⟩
 have st:∀b o,s'.heap.get? b=some o→b∉aO X.stack→(s1.heap.get? b≠none∨H' b≠none)→h5.get? b=some o:=fun b o q n z=>st5 b o (hB b o q n z)
 refine I.call' (ch:=[]) os ⟨fun b o q n hb hx=>?_,fun b o q n hb hx=>?_,un.free,fun b o q hx=>?_,un.tups,un.frzs,un.tbls⟩ (fun b u q=>?_) gb (by simp)
 ·exact st b o (un.keep b o q n hb hx) hb (.inl (by rw[q];simp))
 ·obtain⟨z,q'⟩:=un.slot b o q n hb hx
  obtain⟨_,_,o2,q2,q3⟩:=frn b hb
  rw[q] at q2;cases q2
  obtain⟨z',q4⟩:=up b _ q' q3
  exact⟨z',q4⟩
 ·by_cases hb:b∈aO X.stack
  ·obtain⟨n1,_,o2,q2,q3⟩:=frn b hb
   rw[q] at q2;cases q2
   obtain⟨z,q'⟩:=un.slot b o q n1 hb hx
   obtain⟨z',q4⟩:=up b _ q' q3
   exact⟨_,q4⟩
  ·obtain⟨o2,q2⟩:=un.there b o q hx
   exact⟨o2,st b o2 q2 hb (.inl (by rw[q];simp))⟩
 ·refine(hok b u q).stay (fun c v hc q'=>st c v q' ?_ (.inr ?_)) (fun _ q'=>q') fun _ _ q'=>q'
  ·intro hm
   rcases hc with z | z
   ·rw[z] at hm;rw[(frn b hm).2.1] at q;cases q
   ·rw[(frn c hm).2.1] at z;cases z
  ·rcases hc with z | z
   ·rw[z,q];simp
   ·rw[z];simp
def cx(e:Addr)(cls:Value):Heap→Prop:=fun h=>∃o,h.get? e=some o∧o.cls=cls
theorem Inv.track{e:Addr}{cls:Value}(I:Inv X pins σ H s)(hn:H e=none)(h0:X.s₀.heap.get? e=none)(hl:e≠X.env.locals)(hc:∀x c,X.env.cells.lookup x=some c→c≠e)(hp:∀p∈X.pn++pins,p.1≠e)(hx:cx e cls s.heap):Inv X pins σ (upd H e (.ext (cx e cls))) s:=by
 have ne:∀{b:Addr} {o:HO},H b=some o→(upd H e (.ext (cx e cls))) b=some o:=fun{b o} q=>by
  rw[ap (fun z=>by rw[z,hn] at q;cases q)];exact q
 have nn:∀{b:Addr},b≠e→H b=none→(upd H e (.ext (cx e cls))) b=none:=fun{b} z q=>by rw[ap z];exact q
 refine⟨I.ok,I.os,I.bare,⟨I.base.keep,I.base.slot,fun b o q n hx=>nn (fun z=>by rw[z,h0] at q;cases q) (I.base.free b o q n hx),I.base.there,fun b xs q=>ne (I.base.tups b xs q),fun b o u q=>ne (I.base.frzs b o u q),fun b ps q=>?_⟩,I.loc,I.cell,nn (Ne.symm hl) I.free,fun x c q=>nn (hc x c q) (I.freeC x c q),fun p q=>?_,fun b u q=>?_,I.len⟩
 ·obtain⟨m,q'⟩:=I.base.tbls b ps q
  exact⟨m,ne q'⟩
 ·obtain⟨a1,a2,a3,a4,a5⟩:=I.pin p q
  exact⟨a1,nn (hp p q) a2,a3,a4,a5⟩
 ·by_cases z:b=e
  ·subst z
   rw[ag] at q
   cases q
   refine⟨hx,?_,fun h1 h2 ⟨o,q1,q2⟩ k=>⟨o,k o q1,q2⟩⟩
   obtain⟨o,q,_⟩:=hx
   exact⟨o,q⟩
  ·rw[ap z] at q
   exact(I.hok b u q).stay (fun c v _ q'=>q') (fun c q'=>ne q') fun c xs q'=>ne q'
theorem jE{M:Model}{A:Around}{E:Value→Shared→Prop}{i:Nat}{x:Str}{pos:Pos}{Q:Unit→Shared→Prop}(I:Inv X pins σ H s)(hN:X.N.Nodup)(hi:X.N[i]?=some x)(hk:X.env.kindOf x=some .local)(hlo:gy X.env.scope x)(h:∀s',Inv X pins (σ.set i none) H s'→Q () s'):wpAny M A (do bindName X.env x .none;unbindBehindTheSuite X.env x pos) Q E s:=by
 have hcls:(X.env.scope.kind == .class || (X.env.scope.kind == .module && X.env.locals != X.env.globals))=false:=by rw[I.ok.kind];rfl
 refine wpAny_bind (wpAny_bindName (kX I hN hi hlo (v:=.non) rfl (fun s1 I1=>?_) (.inr hk)))
 unfold unbindBehindTheSuite
 refine wpAny_onRaise ?_
 have hiσ:i<σ.length:=by rw[I.len];exact(List.getElem?_eq_some_iff.mp hi).1
 obtain⟨m,hn,hl⟩:=id I1.loc
 obtain⟨u0,r0,lk⟩:=hl i x .non hi (by rw[List.getElem?_set_self hiσ]) (.inl hk)
 have hv:m x=some u0:=by
  rcases lk with⟨_,e⟩ | ⟨k,_⟩
  ·exact e
  ·rcases k with k | k
   ·have:=hk.symm.trans k;cases this
   ·have:=hk.symm.trans k;cases this
 refine wpAny_unbindName_local hk hn hv hcls fun h' u hn' hs=>?_
 obtain⟨oL,_,_,hoL,_⟩:=id hn
 have cne:=I1.cne
 refine h _ ⟨I1.ok,I1.os,I1.bare,⟨fun b o e n hb hx=>?_,fun b o e n hb hx=>?_,I1.base.free,fun b o e hx=>?_,I1.base.tups,I1.base.frzs,I1.base.tbls⟩,⟨_,hn',fun j y v' e1 e2 e3=>?_⟩,fun y c e=>?_,I1.free,I1.freeC,fun p hp=>?_,fun b ob e=>?_,by simpa using I1.len⟩
 ·exact(hs.2 b (Nat.ne_of_lt (Nat.lt_of_lt_of_le (Heap.lt_size e) I.ok.above))).trans (I1.base.keep b o e n hb hx)
 ·obtain⟨sl,e1⟩:=I1.base.slot b o e n hb hx
  exact⟨sl,(hs.2 b (Nat.ne_of_lt (Nat.lt_of_lt_of_le (Heap.lt_size e) I.ok.above))).trans e1⟩
 ·obtain⟨o',e1⟩:=I1.base.there b o e hx
  exact⟨o',(hs.2 b (Nat.ne_of_lt (Nat.lt_of_lt_of_le (Heap.lt_size e) I.ok.above))).trans e1⟩
 ·by_cases hj:j=i
  ·subst hj
   rw[List.getElem?_set_self hiσ] at e2
   cases e2
  ·rw[List.getElem?_set_ne (Ne.symm hj)] at e2
   obtain⟨u',r',q⟩:=hl j y v' e1 (by rw[List.getElem?_set_ne (Ne.symm hj)];exact e2) e3
   refine⟨u',r',?_⟩
   rcases q with⟨k,e⟩ | ⟨k,c,e,z⟩
   ·refine .inl ⟨k,?_⟩
    have:y≠x:=fun e=>hj (mC hN e1 (e▸hi))
    simp[this,e]
   ·exact .inr ⟨k,c,e,z.sameBut hs (cne y c e)⟩
 ·obtain⟨w',z⟩:=I1.cell y c e
  exact⟨w',z.sameBut hs (cne y c e)⟩
 ·obtain⟨e,n,ne,nf,d⟩:=I1.pin p hp
  exact⟨(hs.2 p.1 ne).trans e,n,ne,nf,d⟩
 ·refine(I1.hok b ob e).stay (fun c w' hc q=>(hs.2 c ?_).trans q) (fun _ q=>q) fun _ _ q=>q
  rintro rfl
  rcases hc with rfl | hc
  ·rw[I1.free] at e;cases e
  ·rw[I1.free] at hc;cases hc
end
def Ends.drop(D:Ends)(i:Nat):Ends:=⟨fun σ H=>D.nx (σ.set i none) H,D.rt,fun σ H=>D.bk (σ.set i none) H,fun σ H=>D.ct (σ.set i none) H⟩
def kU(K:PySem.W.Frag)(C:Addr)(i:Nat)(tb:St→XK→TS)(th:TS):TS:=fun D σ H=>
 tb σ (fun cls _ H'=>PySem.W.exmOne K cls (.ref C)=some true∧∀e,H' e=none→th (D.drop i) (σ.set i (some (.ref e))) (upd H' e (.ext (cx e cls)))) D σ H
theorem tQ{X:Cx}{body suite:List Stmt}{b₀:Stmt}{x n:Str}{np hpos pos:Pos}{C:Addr}{i:Nat}{tb:St→XK→TS}{th:TS}(hC:X.mg x=some (.ref C))(hN:X.N.Nodup)(hi:X.N[i]?=some n)(hk:X.env.kindOf n=some .local)(hb:∀pins σ0 E0,PSs (dL X pins σ0 E0) body (tb σ0 E0))(hs:∀e xe,PSs (jx X e xe) (b₀::suite) th)(hlo:gy X.env.scope n:=by first | exact .inl rfl | exact .inr rfl)
 (hst:X.stack=X.env::X.outer:=by rfl)(hex:X.ex=[]:=by rfl)(hfr:X.env.frame=some X.env.locals:=by rfl)(hg:Gl X x:=by rfl)(hd:(x == ("__debug__":Str))=false:=by decide):
 PS X (.Try body [.ExceptHandler (some (.Name x np)) (some n) (b₀::suite) hpos] [] [] pos) (kU X.K C i tb th):=by
 intro pins s σ H D I h
 refine wpAny_Try_except (wpAny_mono (hb pins σ _ [] s σ H D I.toTry h) (fun f s1 q=>?_) fun e s' q=>?_)
 ·cases f with
  | next=>
    obtain⟨σ',H',I',q⟩:=q
    exact wpAny_execs_nil ⟨σ',H',I'.ofTry,q⟩
  | brk=>obtain⟨σ',H',I',q⟩:=q;exact⟨σ',H',I'.ofTry,q⟩
  | cont=>obtain⟨σ',H',I',q⟩:=q;exact⟨σ',H',I'.ofTry,q⟩
  | ret u=>obtain⟨v,σ',H',I',r,q⟩:=q;exact⟨v,σ',H',I'.ofTry,r,q⟩
 ·obtain⟨H1,s1,I1,a,cls,a0,B,H',rfl,os,gb,un,hok,ha,hn,fl,hB,hm,hE⟩:=q
  have fl':Heap.FlyingW B (X.env::X.outer) a cls a0 s'.heap:=by rw[←hst];exact fl
  refine wpAny_looks_onW (base:=B) (by rw[I1.ok.frames,hst]) hfr fl' fun h4 held4 up4=>?_
  refine wpAny_landsW held4 fun h5 fl5 up5=>?_
  have up:=up4.trans up5
  have I5:Inv X pins σ H' {s' with heap:=h5}:=I1.caught hst hfr os gb un hok hB fl5.1 up
  refine wpAny_handleBy_cons (codeAny_handlers_test (gp (X:=jx X a fun _ _=>False) (I5.toSuf) hg hC ?_ hd)) (by intro q;cases q)
  obtain⟨oe,hoe,hoc⟩:=fl5.there
  have LT:PySem.W.Looks (model X.prog X.w) h5 (typeOf (.ref a)) cls:=by
   rw[←hoc]
   exact(PySem.W.Looks.ld hoe).andThen .now
  refine(PySem.W.exm_one (M:=model X.prog X.w) I5.kIn LT hm).here ?_
  refine codeAny_handlers_suite_as ?_
  refine lands_againW fl5 fun h6 fl6 up6=>?_
  have I6:Inv X pins σ H' {s' with heap:=h6}:=I1.caught hst hfr os gb un hok hB fl6.1 (up.trans up6)
  obtain⟨oe6,hoe6,hoc6⟩:=fl6.there
  have I7:Inv X pins σ (upd H' a (.ext (cx a cls))) {s' with heap:=h6}:=by
   refine I6.track ha ?_ ?_ (fun y c q=>?_) (fun p q=>?_) ⟨oe6,hoe6,hoc6⟩
   ·cases q:X.s₀.heap.get? a with
    | none=>rfl
    | some o=>
      obtain⟨o',q'⟩:=I1.base.there a o q (by rw[hex];simp)
      rw[hn] at q';cases q'
   ·intro z
    obtain⟨m,hnn,_⟩:=I1.loc
    obtain⟨o,_,_,ho,_⟩:=id hnn
    rw[←z,hn] at ho;cases ho
   ·intro z
    obtain⟨w',o,ho,_⟩:=I1.cell y c q
    rw[z,hn] at ho;cases ho
   ·intro z
    have:=(I1.pin p q).1
    rw[z,hn] at this;cases this
  refine kX I7 hN hi hlo (v:=.ref a) rfl (fun s8 I8=>?_) (.inr hk)
  refine wpAny_mono (hs a _ pins s8 _ _ (D.drop i) I8.toSuf (hE a ha)) (fun f s9 q=>?_) (fun _ _ z=>z)
  cases f with
  | next=>
    obtain⟨σ',H9,I9,q⟩:=q
    exact jE (I9.ofSuf I.ok.hd) hN hi hk hlo fun s10 I10=>⟨_,_,I10,q⟩
  | brk=>
    obtain⟨σ',H9,I9,q⟩:=q
    exact jE (I9.ofSuf I.ok.hd) hN hi hk hlo fun s10 I10=>⟨_,_,I10,q⟩
  | cont=>
    obtain⟨σ',H9,I9,q⟩:=q
    exact jE (I9.ofSuf I.ok.hd) hN hi hk hlo fun s10 I10=>⟨_,_,I10,q⟩
  | ret u=>
    obtain⟨v,σ',H9,I9,r,q⟩:=q
    exact jE (I9.ofSuf I.ok.hd) hN hi hk hlo fun s10 I10=>⟨v,_,_,I10,r,q⟩
end L2
namespace PySem.W
open PySem PySem.Spec PySem.Calls PyProof.Rows Builtin Builtin.ObjectAttr Builtin.Getset_descriptor
section
variable{prog:Program}{w:World}{A:Around}{E:Value→Shared→Prop}{K:Frag}{h:Heap}{g:Array GenState}{d:Drawn}{t:Nat}{os:OsState}{a D:Addr}{o:Obj}{R:Result→Shared→Prop}
theorem By{tp:Value}(X:K.In h)(hx:h.get? a=some o)(hc:o.cls=.ref D)(hm:mroIn K D (.type "object")=some true)(hq:R (.ok (.ret (.ref D))) ⟨h,g,d,t,os⟩):codeAny (model prog w) A (.call (.builtin "getset_descriptor.__get__") ⟨[.builtin "object.__class__",.ref a,tp],[]⟩) R ⟨h,g,d,t,os⟩:=by
 have L0:Looks (model prog w) h (typeOf (.ref a)) (.ref D):=by
  rw[←hc];exact(Looks.ld hx).andThen .now
 have Lm:=looks_mroIn (M:=model prog w) X hm
 refine codeAny_call_builtin KF.slot_gs.plain KF.entry_gs (KF.slot_gs.check _ _ _ _ _ _ _ _ KF.type_class (KF.args_gs _ _ _) ?go)
 case go=>(unfold Builtin.«getset_descriptor.__get__» descrGet;rw[dga_obj];refine wpAny_bind (wpAny_pure ?_);unfold descrGetter descrCheckInstance descrNameAndClass isInstance;simp only[KF.owner_class];(repeat lk);refine⟨Code.quiet_builtin _ (by decide+kernel),codeAny_builtin KF.entry_class ?_⟩;unfold Builtin.«object.__class__» shownTypeOf;(repeat lk);exact hq)
theorem yY{M:Model}{nameV:Value}{Q:Unit→Shared→Prop}(X:K.In h)(hx:h.get? a=some o)(hc:o.cls=.ref D)(hb:mroIn K D (.type "BaseException")=some true)(hq:Q () ⟨h,g,d,t,os⟩):wpAny M A (checkBuiltinCall "BaseException.__getattribute__" ⟨[.ref a,nameV],[]⟩) Q E ⟨h,g,d,t,os⟩:=by
 have bk:builtinKind "BaseException.__getattribute__"=some .slot:=by decide+kernel
 have sp:splitId "BaseException.__getattribute__"=some ("BaseException","__getattribute__"):=by decide+kernel
 have ok:=F.args_bexc_ga (.ref a) nameV
 have L0:Looks M h (typeOf (.ref a)) (.ref D):=by
  rw[←hc];exact(Looks.ld hx).andThen .now
 have L1:=looks_mroIn (M:=M) X hb
 simp only[checkBuiltinCall,bk,sp]
 refine wpAny_bind ?_
 ·unfold isInstance
  repeat (first | with_reducible refine Looks.at (by assumption) ?_ | wp_step)
  exact hq
theorem Ah{tk:Tok}{Q:Fin→Shared→Prop}(X:K.In h)(hx:h.get? a=some o)(hc:o.cls=.ref D)(hm:mroIn K D (.type "object")=some true)(hcl:findIn K (.ref D) "__class__"=some (some (.builtin "object.__class__")))(hq:Q (.done (.ret (.ref D))) ⟨h,g,d,t,os⟩):wpAny (model prog w) A (Builtin.«object.__getattribute__» ⟨[.ref a,.str "__class__" tk],[]⟩) Q E ⟨h,g,d,t,os⟩:=
 by
 have L0:Looks (model prog w) h (typeOf (.ref a)) (.ref D):=by
  rw[←hc];exact(Looks.ld hx).andThen .now
 have L1:=looks_findIn (M:=model prog w) X hcl
 have fa:=F.typeOf_object_class;have fb:=F.slot_gs_get.lookup;have fc:=F.slot_gs_set.lookup
 repeat (any_goals (first | assumption | with_reducible refine Looks.at L0 ?_ | with_reducible refine Looks.at L1 ?_ | wp_step))
 refine By X hx hc hm ?_;repeat (any_goals (first | assumption | wp_step))
theorem A4{Q:Option Value→Shared→Prop}(X:K.In h)(hx:h.get? a=some o)(hc:o.cls=.ref D)(hm:mroIn K D (.type "object")=some true)(hb:mroIn K D (.type "BaseException")=some true)(hga:findIn K (.ref D) "__getattribute__"=some (some (.builtin "BaseException.__getattribute__")))(hgt:findIn K (.ref D) "__getattr__"=some none)(hcl:findIn K (.ref D) "__class__"=some (some (.builtin "object.__class__")))(hq:Q (some (.ref D)) ⟨h,g,d,t+1,os⟩):wpAny (model prog w) A (getAttr? (.ref a) "__class__") Q E ⟨h,g,d,t,os⟩:=by
 have L0:Looks (model prog w) h (typeOf (.ref a)) (.ref D):=by
  rw[←hc];exact(Looks.ld hx).andThen .now
 have La:=looks_findIn (M:=model prog w) X hga
 have Lb:=looks_findIn (M:=model prog w) X hgt
 have f3:=F.excAttr_ValueError.ga.bind (.ref a)
 have nb:(Value.builtin "BaseException.__getattribute__" == Value.builtin "object.__getattribute__")=false:=by decide+kernel
 have nh:(onTheHeap (Value.ref D) && Value.builtin "BaseException.__getattribute__" == Value.builtin "object.__getattribute__")=false:=by rw[nb];rfl
 unfold getAttr? getAttrBy? getAttrBy;refine wpAny_bind (wpAny_mkText (wpAny_bind (wpAny_attempt (wpAny_holding (wpAny_bind (L0.at (wpAny_bind (La.at ?_))))))))
 repeat (any_goals (first | assumption | with_reducible refine Looks.at L0 ?_ | with_reducible refine Looks.at La ?_ | with_reducible refine Looks.at Lb ?_ | wp_step))
 refine codeAny_call_builtin F.excAttr_ValueError.ga.plain F.entry_bexc_ga (yY X hx hc hb (Ah X hx hc hm hcl ?_));repeat (any_goals (first | assumption | wp_step))
def excKit(K:Frag)(D:Addr):Bool:=(clsIn K D).isSome && mroIn K D (.type "object") == some true && mroIn K D (.type "BaseException") == some true && findIn K (.ref D) "__getattribute__" == some (some (.builtin "BaseException.__getattribute__"))
 && findIn K (.ref D) "__getattr__" == some none && findIn K (.ref D) "__class__" == some (some (.builtin "object.__class__"))
theorem kitx_exc{x D:Addr}(e:excKit K D=true):KitX K (.ref x) (.ref D) (fun h=>∃o,h.get? x=some o∧o.cls=.ref D):=by
 simp only[excKit,Bool.and_eq_true,beq_iff_eq] at e
 obtain⟨⟨⟨⟨⟨e0,e1⟩,e2⟩,e3⟩,e4⟩,e5⟩:=e
 obtain⟨cdD,hcD⟩:=Option.isSome_iff_exists.mp e0
 refine⟨fun M h _ ⟨o,h1,h2⟩=>?_,fun _ _ X _=>?_,fun h tp dd its n sl X htp=>?_,fun{prog w A E Q s} X ⟨o,h1,h2⟩ k=>?_⟩
 ·rw[←h2];exact(Looks.ld h1).andThen .now
 ·unfold clsIn at hcD
  split at hcD
  ·rename_i c' d' cd' sl' ho
   exact fun A' Q' E' s' k q=>by unfold isType loadHead;exact wpAny_bind (wpAny_loadPart (k _ _ (X _ _ ho)) (wpAny_pure q))
  ·cases hcD
 ·refine Bool.eq_false_iff.mpr fun q=>?_
  obtain rfl:D=tp:=Value.ref.inj (beq_iff_eq.mp q)
  unfold clsIn at hcD
  split at hcD
  ·rename_i c' d' cd' sl' ho
   cases(X _ _ ho).symm.trans htp
  ·cases hcD
 ·obtain⟨h,g,d,t,os⟩:=s
  exact A4 X h1 h2 e1 e2 e3 e4 e5 k
end
end PySem.W
namespace L2
open PySem PySem.Spec PyProof.Rows
section
variable{X:Cx}{e e2:Expr}{te te2:TE}{p p2 pos:Pos}
def ve(K:PySem.W.Frag)(c:Value)(te:TE):TE:=fun σ H Q=>te σ H fun x H1=>∃(a D:Addr) (b:Bool),x=.ref a∧H1 a=some (.ext (cx a (.ref D)))∧PySem.W.excKit K D=true∧PySem.W.kitOne K (.ref D) c=some b∧Q (.bl b) H1
theorem t6{c:Value}{cv:V}(hcv:∀u,RelV cv u→u=c)(pins:List (Addr×Obj))(s:Shared)(σ:St)(H:Hp)(x:V)(us:List Value)(Q:VK)(I:Inv X pins σ H s)(rv:Vals [x,cv] us)(h:∃(a D:Addr) (b:Bool),x=.ref a∧H a=some (.ext (cx a (.ref D)))∧PySem.W.excKit X.K D=true∧PySem.W.kitOne X.K (.ref D) c=some b∧Q (.bl b) H):wpAny (model X.prog X.w) X.A (call (.builtin "isinstance") us) (EP X pins σ Q) X.xe s:=by
 obtain⟨a,D,b,rfl,hH,hk,ek,q⟩:=h
 obtain⟨u,v,rfl,rx,ry⟩:=rv.two
 cases rx
 obtain rfl:=hcv v ry
 obtain⟨hx,_⟩:=(show ObjOk X.prog X.w H s.heap a (.ext (cx a (.ref D))) from I.hok a _ hH)
 have fin:∀tk,EP X pins σ Q (.bool b) {s with toks:=tk}:=fun tk=>⟨.bl b,H,I.kept (h':=s.heap) (t':=tk) fun _ _ q=>q,rfl,q⟩
 exact PySem.W.kia_one (PySem.W.kitx_exc hk) I.kIn hx ek (fun z=>nomatch z) fin
theorem fm{T:Str}{C:Addr}(hm:X.mg "isinstance"=none)(hT:X.mg T=some (.ref C))(ha:PE X e te)(hg:Gl X "isinstance":=by rfl)(hgT:Gl X T:=by rfl)(he:starEach [e,.Name T p2] X.env=[(false,eval e X.env),(false,eval (.Name T p2) X.env)]:=by rfl)
 (hd:(T == ("__debug__":Str))=false:=by decide):PE X (.Call (.Name "isinstance" p) [e,.Name T p2] [] pos) (ve X.K (.ref C) te):=
 ez (r:=gZ fun x y H Q=>y=.ref C∧∃(a D:Addr) (b:Bool),x=.ref a∧H a=some (.ext (cx a (.ref D)))∧PySem.W.excKit X.K D=true∧PySem.W.kitOne X.K (.ref D) (.ref C)=some b∧Q (.bl b) H)
  (jd fun pins s σ H x y us Q I rv ⟨ey,h⟩=>by subst ey;exact t6 (c:=.ref C) (cv:=.ref C) (fun u r=>r) pins s σ H x us Q I rv h) hg hm oI
  (aa ha (aa (gv (v:=.ref C) hgT hT rfl hd) ac) (by exact he)) (he:=by exact he) |>.imp fun σ H Q h=>by
   show te σ H fun x H1=>V.ref C=.ref C∧_
   simp only[true_and]
   exact h
theorem xM{T:Str}{c:String}(hm:X.mg "isinstance"=none)(hT:X.mg T=none)(hb:bootBuiltins T=some (.type c))(ha:PE X e te)(hg:Gl X "isinstance":=by rfl)(hgT:Gl X T:=by rfl)(he:starEach [e,.Name T p2] X.env=[(false,eval e X.env),(false,eval (.Name T p2) X.env)]:=by rfl)
 (hn:T≠"__name__":=by decide)(hd:(T == ("__debug__":Str))=false:=by decide):PE X (.Call (.Name "isinstance" p) [e,.Name T p2] [] pos) (ve X.K (.type c) te):=
 ez (r:=gZ fun x y H Q=>y=.ty c∧∃(a D:Addr) (b:Bool),x=.ref a∧H a=some (.ext (cx a (.ref D)))∧PySem.W.excKit X.K D=true∧PySem.W.kitOne X.K (.ref D) (.type c)=some b∧Q (.bl b) H)
  (jd fun pins s σ H x y us Q I rv ⟨ey,h⟩=>by subst ey;exact t6 (c:=.type c) (cv:=.ty c) (fun u r=>r) pins s σ H x us Q I rv h) hg hm oI
  (aa ha (aa (pY (v:=.ty c) hgT hT hb rfl hn hd) ac) (by exact he)) (he:=by exact he) |>.imp fun σ H Q h=>by
   show te σ H fun x H1=>V.ty c=.ty c∧_
   simp only[true_and]
   exact h
end
def excFacts(K:PySem.W.Frag)(CE:Addr)(Cs:List Addr):Bool:=
 Cs.all fun D=>PySem.W.exmOne K (.ref D) (.ref CE) == some true && PySem.W.excKit K D && PySem.W.excIn K D iq "ValueError.__new__" && PySem.W.kitOne K (.ref D) (.type "ValueError") == some true && Cs.all fun C=>PySem.W.kitOne K (.ref D) (.ref C) == some (D == C)
structure ExF(K:PySem.W.Frag)(CE D:Addr)(Cs:List Addr):Prop where
 exm:PySem.W.exmOne K (.ref D) (.ref CE)=some true
 kit:PySem.W.excKit K D=true
 isIn:PySem.W.excIn K D iq "ValueError.__new__"=true
 val:PySem.W.kitOne K (.ref D) (.type "ValueError")=some true
 one:∀C∈Cs,PySem.W.kitOne K (.ref D) (.ref C)=some (D == C)
theorem excFacts.of{K:PySem.W.Frag}{CE:Addr}{Cs:List Addr}(h:excFacts K CE Cs=true):∀D∈Cs,ExF K CE D Cs:=fun D hD=>by
 have h1:=List.all_eq_true.mp h D hD
 simp only[Bool.and_eq_true,beq_iff_eq] at h1
 obtain⟨⟨⟨⟨a,b⟩,c⟩,d⟩,e⟩:=h1
 exact⟨a,b,c,d,fun C hC=>beq_iff_eq.mp (List.all_eq_true.mp e C hC)⟩
section
variable{X:Cx}
theorem xh{xs:List Bool}{its:List Value}(r:Vals (xs.map V.bl) its):its=xs.map Value.bool:=by
 induction xs generalizing its with
 | nil=>cases r;rfl
 | cons b xs ih=>
   cases r with
   | cons r t=>cases r;rw[ih t];rfl
end
theorem Da:bootBuiltins "ValueError"=some (.type "ValueError"):=by decide+kernel
section
variable{X:Cx}
end
end L2
namespace PySem.W
open PySem PySem.Spec PySem.Calls PyProof.Rows
section
variable{prog:Program}{w:World}{A:Around}{E:Value→Shared→Prop}{s:Shared}
end
end PySem.W
namespace L2
open PySem PySem.Spec PyProof.Rows
section
variable{X:Cx}{e:Expr}{te:TE}{p pos:Pos}
end
def Dd(i j:Int):Prop:=i.natAbs<2 ^ 1000∧j.natAbs<2 ^ 1000
theorem qR{X:Cx}:OpR X (binaryOp .Mult) (rI Dd fun i j=>.int (i*j)):=hV fun _ _ _ _ _ _ _ hc q=>mul_int q (IntMulOk.of_bits (Nat.le_trans (intBits_le hc.1) (by decide)) (Nat.le_trans (intBits_le hc.2) (by decide)))
section
variable{X:Cx}{e:Expr}{te:TE}{p pos:Pos}
end
section
variable{κ:Type}[DecidableEq κ]
def aY(kvs:List (κ×V))(k:κ):Option V:=(kvs.find? fun kv=>decide (kv.1=k)).map (·.2)
def bZ(kvs:List (κ×V))(k:κ)(v:V):List (κ×V):=
 if(kvs.any fun kv=>decide (kv.1=k))=true then kvs.map (fun kv=>if kv.1=k then(kv.1,v) else kv) else kvs++[(k,v)]
theorem dD{p:κ×V}{r:List (κ×V)}{k:κ}(e:p.1=k):aY (p::r) k=some p.2:=by simp[aY,List.find?_cons,e]
theorem de{p:κ×V}{r:List (κ×V)}{k:κ}(e:¬p.1=k):aY (p::r) k=aY r k:=by simp[aY,List.find?_cons,e]
theorem kQ(k:κ):∀kvs:List (κ×V),(kvs.any fun kv=>decide (kv.1=k))=(aY kvs k).isSome
 | []=>rfl
 | p::r=>by
   rw[List.any_cons]
   by_cases e:p.1=k
   ·simp only[dD e,decide_eq_true e,Bool.true_or,Option.isSome_some]
   ·rw[de e,decide_eq_false e,Bool.false_or];exact kQ k r
theorem tu(k j:κ)(y:V):∀kvs:List (κ×V),aY (kvs.map fun kv=>if kv.1=k then(kv.1,y) else kv) j=(aY kvs j).map fun x=>if j=k then y else x
 | []=>rfl
 | p::r=>by
   have ih:=tu k j y r
   rw[List.map_cons]
   by_cases h:p.1=k
   ·rw[if_pos h]
    by_cases e:p.1=j
    ·rw[dD (p:=(p.1,y)) e,dD e,Option.map_some,if_pos (e.symm.trans h)]
    ·rw[de (p:=(p.1,y)) e,de e,ih]
   ·rw[if_neg h]
    by_cases e:p.1=j
    ·rw[dD (p:=p) e,dD e,Option.map_some,if_neg (fun z=>h (e.trans z))]
    ·rw[de (p:=p) e,de e,ih]
theorem sX(k j:κ)(y:V):∀kvs:List (κ×V),aY kvs k=none→aY (kvs++[(k,y)]) j=if j=k then some y else aY kvs j
 | [],_=>by
   by_cases e:k=j
   ·rw[if_pos e.symm];exact dD (p:=(k,y)) e
   ·rw[if_neg (fun z=>e z.symm)];exact de (p:=(k,y)) e
 | p::r,hn=>by
   rw[List.cons_append]
   have hk:¬p.1=k:=fun z=>by rw[dD z] at hn;cases hn
   rw[de hk] at hn
   have ih:=sX k j y r hn
   by_cases e:p.1=j
   ·rw[dD e,dD e,if_neg (fun z=>hk (e.trans z))]
   ·rw[de e,de e,ih]
theorem nq(kvs:List (κ×V))(k j:κ)(y:V):aY (bZ kvs k y) j=if j=k then some y else aY kvs j:=by
 unfold bZ
 by_cases a:(kvs.any fun kv=>decide (kv.1=k))=true
 ·rw[if_pos a,tu]
  rw[kQ] at a
  by_cases e:j=k
  ·obtain⟨x,hx⟩:=Option.isSome_iff_exists.mp a
   rw[if_pos e,e,hx,Option.map_some,if_pos rfl]
  ·rw[if_neg e]
   cases aY kvs j with
   | none=>rfl
   | some x=>rw[Option.map_some,if_neg e]
 ·rw[if_neg a]
  refine sX k j y kvs ?_
  rw[kQ] at a
  cases q:aY kvs k with
  | none=>rfl
  | some x=>rw[q] at a;exact(a rfl).elim
theorem iu(kvs:List (κ×V))(k:κ)(v:V):(bZ kvs k v).length≤kvs.length+1:=by
 unfold bZ
 split
 ·rw[List.length_map];lia
 ·rw[List.length_append,List.length_cons,List.length_nil];lia
theorem RelO.isSome_eq{o:Option V}{u:Option Value}(r:RelO o u):o.isSome=u.isSome:=by
 cases o with
 | none=>cases u with
   | none=>rfl
   | some _=>exact(show False from r).elim
 | some _=>cases u with
   | none=>exact(show False from r).elim
   | some _=>rfl
theorem KV.val{kvs:List (κ×V)}{vs:List (κ×Value)}(r:KV kvs vs)(k:κ):RelO (aY kvs k) (valueAt vs k):=by
 unfold KV at r
 induction r with
 | nil=>exact True.intro
 | @cons p q ps qs h t ih=>
   obtain⟨h1,h2⟩:=h
   by_cases e:p.1=k
   ·have e':q.1=k:=h1.symm.trans e
    have b:valueAt (q::qs) k=some q.2:=by simp[valueAt,List.find?_cons,e']
    rw[dD e,b];exact h2
   ·have e':¬q.1=k:=fun z=>e (h1.trans z)
    have b:valueAt (q::qs) k=valueAt qs k:=by simp[valueAt,List.find?_cons,e']
    rw[de e,b];exact ih
theorem KV.any{kvs:List (κ×V)}{vs:List (κ×Value)}(r:KV kvs vs)(k:κ):(kvs.any fun kv=>decide (kv.1=k))=vs.any fun kv=>decide (kv.1=k):=by
 unfold KV at r
 induction r with
 | nil=>rfl
 | cons h t ih=>rw[List.any_cons,List.any_cons,ih,h.1]
theorem KV.repl{kvs:List (κ×V)}{vs:List (κ×Value)}(r:KV kvs vs)(k:κ){y:V}{u:Value}(ry:RelV y u):KV (kvs.map fun kv=>if kv.1=k then(kv.1,y) else kv) (vs.map fun kv=>if kv.1=k then(kv.1,u) else kv):=by
 unfold KV at r ⊢
 induction r with
 | nil=>exact .nil
 | @cons p q ps qs h t ih=>
   rw[List.map_cons,List.map_cons]
   refine .cons ?_ ih
   obtain⟨h1,h2⟩:=h
   by_cases e:p.1=k
   ·rw[if_pos e,if_pos (h1.symm.trans e)];exact⟨h1,ry⟩
   ·rw[if_neg e,if_neg (fun z=>e (h1.trans z))];exact⟨h1,h2⟩
theorem KV.put{kvs:List (κ×V)}{vs:List (κ×Value)}(r:KV kvs vs)(k:κ){y:V}{u:Value}(ry:RelV y u):KV (bZ kvs k y) (stored vs k u):=by
 unfold bZ stored
 rw[r.any k]
 by_cases e:(vs.any fun kv=>decide (kv.1=k))=true
 ·rw[if_pos e,if_pos e];exact r.repl k ry
 ·rw[if_neg e,if_neg e];exact Paired.snoc r ⟨rfl,ry⟩
theorem KV.length{kvs:List (κ×V)}{vs:List (κ×Value)}(r:KV kvs vs):kvs.length=vs.length:=Paired.length r
end
theorem fI{P:Program}{w:World}{k:az}{u:Value}(r:RelV (kV k) u):(bQ P w).is k u=true:=by
 cases k with
 | inl i=>obtain⟨t,e⟩:=(show∃t,u=Value.int i t from r);subst e;exact AF P w i t
 | inr x=>obtain⟨t,e⟩:=(show∃t,u=Value.str x t from r);subst e;exact on P w x t
theorem tt{P:Program}{w:World}:∀{ks:List az} {us:List Value},Vals (ks.map kV) us→ItemsAre (bQ P w) ks us
 | [],_,r=>by rw[List.map_nil] at r;cases r;exact .nil
 | k::ks,_,r=>by
   rw[List.map_cons] at r
   cases r with
   | cons h t=>exact .cons (fI h) (tt t)
abbrev KT(H:Hp):List (List az×V)→List (List az×Addr×Value)→Prop:=Paired fun p q=>p.1=q.1∧H q.2.1=some (.tup (p.1.map kV))∧RelV p.2 q.2.2
theorem KT.val{H:Hp}{kvs:List (List az×V)}{xs:List (List az×Addr×Value)}(r:KT H kvs xs)(k:List az):RelO (aY kvs k) ((atKey xs k).map (·.2)):=by
 induction r with
 | nil=>exact True.intro
 | @cons p q ps qs h t ih=>
   obtain⟨h1,_,h2⟩:=h
   by_cases e:p.1=k
   ·have e':q.1=k:=h1.symm.trans e
    have b:atKey (q::qs) k=some q.2:=by simp[atKey,List.find?_cons,e']
    rw[dD e,b];exact h2
   ·have e':¬q.1=k:=fun z=>e (h1.trans z)
    have b:atKey (q::qs) k=atKey qs k:=by simp[atKey,List.find?_cons,e']
    rw[de e,b];exact ih
theorem KT.repl{H:Hp}{kvs:List (List az×V)}{xs:List (List az×Addr×Value)}(r:KT H kvs xs)(k:List az){y:V}{u:Value}(ry:RelV y u):KT H (kvs.map fun kv=>if kv.1=k then(kv.1,y) else kv) (xs.map (putAt k u)):=by
 induction r with
 | nil=>exact .nil
 | @cons p q ps qs h t ih=>
   rw[List.map_cons,List.map_cons]
   refine .cons ?_ ih
   obtain⟨h1,h2,h3⟩:=h
   unfold putAt
   by_cases e:p.1=k
   ·rw[if_pos e,if_pos (h1.symm.trans e)];exact⟨h1,h2,ry⟩
   ·rw[if_neg e,if_neg (fun z=>e (h1.trans z))];exact⟨h1,h2,h3⟩
theorem KT.put{H:Hp}{kvs:List (List az×V)}{xs:List (List az×Addr×Value)}(r:KT H kvs xs)(k:List az){b:Addr}{y:V}{u:Value}(hb:H b=some (.tup (k.map kV)))(ry:RelV y u):KT H (bZ kvs k y) (storedH xs k b u):=by
 have e:(kvs.any fun kv=>decide (kv.1=k))=(atKey xs k).isSome:=by
  rw[kQ,(r.val k).isSome_eq,Option.isSome_map]
 unfold bZ storedH
 rw[e]
 by_cases q:(atKey xs k).isSome=true
 ·rw[if_pos q,if_pos q];exact r.repl k ry
 ·rw[if_neg q,if_neg q];exact Paired.snoc r ⟨rfl,hb,ry⟩
theorem KT.keeps{H H':Hp}{kvs:List (List az×V)}{xs:List (List az×Addr×Value)}(r:KT H kvs xs)(ht:∀b ys,H b=some (.tup ys)→H' b=some (.tup ys)):KT H' kvs xs:=
 Paired.mapP r fun _ _ z=>⟨z.1,ht _ _ z.2.1,z.2.2⟩
section
variable{P:Program}{w:World}{H:Hp}{h:Heap}{a:Addr}
theorem tX{u:HO}(ok:HOk P w H h)(e:Rd H a u):ObjOk P w H h a u:=e.ok ok
theorem iy{kvs:List (az×V)}(ok:HOk P w H h)(e:Rd H a (.dK kvs)):kvs.length≤sizeLine∧(a == sysModules)=false∧∃vs,KV kvs vs∧h.DictOf (bQ P w) a vs:=
 show ObjOk P w H h a (.dK kvs) from tX ok e
theorem qH{kvs:List (az×V)}(ok:HOk P w H h)(e:H a=some (.dK kvs)):kvs.length≤sizeLine∧(a == sysModules)=false∧∃vs,KV kvs vs∧h.DictOf (bQ P w) a vs:=iy ok (.inl e)
theorem iY{ks:List az}(ok:HOk P w H h)(e:H a=some (.tup (ks.map kV))):(tupleKind (bQ P w)).is h ks a:=by
 obtain⟨_,its,r,o,h1,h2,n,h3⟩:=(show ObjOk P w H h a (.tup (ks.map kV)) from ok a _ e)
 exact⟨o,its.toArray,n,h1,h2,h3,by simpa using tt r⟩
theorem jn{kvs:List (List az×V)}(ok:HOk P w H h)(e:Rd H a (.dT kvs)):kvs.length≤sizeLine∧(a == sysModules)=false∧∃xs,KT H kvs xs∧h.DictOfH (tupleKind (bQ P w)) a xs:=by
 obtain⟨z,y,xs,r,o,es,ep,h1,h2,h3,h4,h5⟩:=(show ObjOk P w H h a (.dT kvs) from tX ok e)
 refine⟨z,y,xs,r,o,es,ep,h1,h2,h3,h4,fun x hx=>?_,h5⟩
 have all:∀{l:List (List az×V)} {m:List (List az×Addr×Value)},KT H l m→∀x∈m,(tupleKind (bQ P w)).is h x.1 x.2.1:=by
  intro l m q
  induction q with
  | nil=>intro x hx;exact nomatch hx
  | @cons p q ps qs hq t ih=>
    intro x hx
    rcases List.mem_cons.mp hx with e | hx
    ·subst e
     exact iY ok (by rw[←hq.1];exact hq.2.1)
    ·exact ih x hx
 exact all r x hx
theorem Ev{kvs:List (List az×V)}(ok:HOk P w H h)(e:H a=some (.dT kvs)):kvs.length≤sizeLine∧(a == sysModules)=false∧∃xs,KT H kvs xs∧h.DictOfH (tupleKind (bQ P w)) a xs:=jn ok (.inl e)
end
def DGet(H:Hp)(a:Addr)(y:V)(r:Option V):Prop:=
 (∃kvs k,Rd H a (.dK kvs)∧y=kV k∧r=aY kvs k)∨∃kvs k b,Rd H a (.dT kvs)∧y=.ref b∧H b=some (.tup (k.map kV))∧r=aY kvs k
def DPut(H:Hp)(a:Addr)(y v:V)(H':Hp):Prop:=
 (∃kvs k,H a=some (.dK kvs)∧y=kV k∧kvs.length<sizeLine∧H'=upd H a (.dK (bZ kvs k v)))∨
 ∃kvs k b,H a=some (.dT kvs)∧y=.ref b∧H b=some (.tup (k.map kV))∧kvs.length<sizeLine∧H'=upd H a (.dT (bZ kvs k v))
theorem DGet.k{H:Hp}{a:Addr}{kvs:List (az×V)}{k:az}(e:H a=some (.dK kvs)):DGet H a (kV k) (aY kvs k):=.inl ⟨kvs,k,.inl e,rfl,rfl⟩
theorem DPut.k{H:Hp}{a:Addr}{kvs:List (az×V)}{k:az}{v:V}(e:H a=some (.dK kvs))(hl:kvs.length<sizeLine):DPut H a (kV k) v (upd H a (.dK (bZ kvs k v))):=.inl ⟨kvs,k,e,rfl,hl,rfl⟩
section
variable{X:Cx}{pins:List (Addr×Obj)}{σ:St}{H:Hp}{s:Shared}{a:Addr}{y v:V}{u r:Value}{o:Option V}{A:Around}{E:Value→Shared→Prop}
theorem Inv.big(I:Inv X pins σ H s):sysModules<s.heap.objs.size:=by
 have h:mainGlobals<s.heap.objs.size:=(I.mod.glob.keeps I.bk).lt
 exact Nat.lt_trans (by decide) h
theorem Dr{Q:Value→Shared→Prop}(hu:A.units+1<cLine)(I:Inv X pins σ H s)(g:DGet H a y (some v))(ry:RelV y u)(h:∀w' s',Inv X pins σ H s'→RelV v w'→Q w' s'):wpAny (model X.prog X.w) A (getItem (.ref a) u) Q E s:=by
 rcases g with⟨kvs,k,e,ey,l⟩ | ⟨kvs,k,b,e,ey,eb,l⟩
 ·subst ey
  obtain⟨z,hd,vs,rel,dd⟩:=iy I.hok e
  obtain⟨w',hw,rw'⟩:=RelO.some_of (v:=v) (o:=valueAt vs k) (by rw[l];exact rel.val k)
  exact wpAny_getItem_of (fI ry) dd.mapOf hw (h w' _ (I.tok _) rw')
 ·subst ey
  cases(show u=Value.ref b from ry)
  obtain⟨z,hd,xs,rel,dd⟩:=jn I.hok e
  obtain⟨w',hw,rw'⟩:=RelO.some_of (v:=v) (o:=(atKey xs k).map (·.2)) (by rw[l];exact rel.val k)
  obtain⟨p,hp,hp2⟩:=Option.map_eq_some_iff.mp hw
  refine wpAny_getItem_heap (tupleKind_room_in1 hu) (iY I.hok eb) dd hp ?_
  rw[hp2]
  exact h w' _ (I.tok _) rw'
theorem Do{Q:Value→Shared→Prop}(hu:A.units+1<cLine)(I:Inv X pins σ H s)(g:DGet H a y o)(ry:RelV y u)(h:∀s',Inv X pins σ H s'→Q (.bool o.isSome) s'):wpAny (model X.prog X.w) A (compareOp .In u (.ref a)) Q E s:=by
 rcases g with⟨kvs,k,e,ey,l⟩ | ⟨kvs,k,b,e,ey,eb,l⟩
 ·subst ey
  obtain⟨z,hd,vs,rel,dd⟩:=iy I.hok e
  refine wpAny_in_of (fI ry) hd dd.mapOf ?_
  rw[←(rel.val k).isSome_eq,←l]
  exact h _ (I.tok _)
 ·subst ey
  cases(show u=Value.ref b from ry)
  obtain⟨z,hd,xs,rel,dd⟩:=jn I.hok e
  refine wpAny_in_heap (tupleKind_room_in1 hu) (iY I.hok eb) hd dd ?_
  have q:=(rel.val k).isSome_eq
  rw[Option.isSome_map] at q
  rw[←q,←l]
  exact h _ (I.tok _)
theorem x4{Q:Value→Shared→Prop}(hu:A.units+1<cLine)(I:Inv X pins σ H s)(g:DGet H a y o)(ry:RelV y u)(h:∀s',Inv X pins σ H s'→Q (.bool (!o.isSome)) s'):wpAny (model X.prog X.w) A (compareOp .NotIn u (.ref a)) Q E s:=by
 rcases g with⟨kvs,k,e,ey,l⟩ | ⟨kvs,k,b,e,ey,eb,l⟩
 ·subst ey
  obtain⟨z,hd,vs,rel,dd⟩:=iy I.hok e
  refine wpAny_notIn_of (fI ry) hd dd.mapOf ?_
  rw[←(rel.val k).isSome_eq,←l]
  exact h _ (I.tok _)
 ·subst ey
  cases(show u=Value.ref b from ry)
  obtain⟨z,hd,xs,rel,dd⟩:=jn I.hok e
  refine wpAny_notIn_heap (tupleKind_room_in1 hu) (iY I.hok eb) hd dd ?_
  have q:=(rel.val k).isSome_eq
  rw[Option.isSome_map] at q
  rw[←q,←l]
  exact h _ (I.tok _)
theorem oV{h':Heap}{t':Nat}{ob:HO}(I:Inv X pins σ H s)(mu:iK (H a))(hs:Heap.SameBut a s.heap h')(he:∃q,h'.get? a=some q)(new:ObjOk X.prog X.w (upd H a ob) h' a ob):Inv X pins σ (upd H a ob) {s with heap:=h',toks:=t'}:=
 I.write (x:=a) (e:=a) mu (.inl rfl) (fun b q hb z=>(hs.2 b hb).trans z) he new
theorem sF{P:Program}{w:World}{H':Hp}{h':Heap}{kvs:List (az×V)}{vs:List (az×Value)}(z:kvs.length≤sizeLine)(hd:(a == sysModules)=false)(rel:KV kvs vs)(dd:h'.DictOf (bQ P w) a vs):ObjOk P w H' h' a (.dK kvs):=⟨z,hd,vs,rel,dd⟩
theorem zP{H':Hp}{Q:Unit→Shared→Prop}(hu:A.units+1<cLine)(I:Inv X pins σ H s)(g:DPut H a y v H')(ry:RelV y u)(rv:RelV v r)(h:∀s',Inv X pins σ H' s'→Q () s'):wpAny (model X.prog X.w) A (setItem (.ref a) u r) Q E s:=by
 rcases g with⟨kvs,k,e,ey,l,eH⟩ | ⟨kvs,k,b,e,ey,eb,l,eH⟩
 ·subst ey eH
  obtain⟨z,hd,vs,rel,dd⟩:=qH I.hok e
  have hz:vs.length≤sizeLine:=by rw[←rel.length];exact z
  have hl:(bZ kvs k v).length≤sizeLine:=by have:=iu kvs k v;lia
  refine wpAny_setItem_pairs (hsz:=hz) (fI ry) dd fun h' dd' hs=>h _ ?_
  have he:∃q,h'.get? a=some q:=let ⟨q,_,_,hq,_⟩:=dd';⟨q,hq⟩
  exact oV I (by rw[e];exact True.intro) hs he (sF hl hd (rel.put k rv) dd')
 ·subst ey eH
  cases(show u=Value.ref b from ry)
  obtain⟨z,hd,xs,rel,dd⟩:=Ev I.hok e
  have hz:xs.length≤sizeLine:=by rw[←Paired.length rel];exact z
  have hl:(bZ kvs k v).length≤sizeLine:=by have:=iu kvs k v;lia
  refine wpAny_setItem_heap (hsz:=hz) (tupleKind_room_in1 hu) (iY I.hok eb) dd fun h' dd' hs=>h _ ?_
  obtain⟨q,es,ep,hq,h2,h3,h4,_,h5⟩:=dd'
  refine oV I (by rw[e];exact True.intro) hs ⟨q,hq⟩ ⟨hl,hd,_,(rel.put k eb rv).keeps fun c ys ec=>?_,q,es,ep,hq,h2,h3,h4,h5⟩
  rw[ap (cR ec e (fun z=>nomatch z))]
  exact ec
end
section
variable{X:Cx}{pins:List (Addr×Obj)}{σ:St}{H:Hp}{s:Shared}{a:Addr}{kvs:List (az×V)}{k:az}{u:Value}{A:Around}{E:Value→Shared→Prop}
end
def oK(i:Expr):Prop:=∀ov iv,subscripted i false ov iv=operate [ov,iv] (getItem ov iv)
theorem rz{prog:Program}{w:World}{A:Around}{E:Value→Shared→Prop}{s:Shared}{env:Env}{value slice:Expr}{pos:Pos}{T id:String}{Q:Value→Shared→Prop}(hl:typeLookup (.type T) "__getitem__"=pure (some (.builtin id)))(hs:oK slice)(h:wpAny (model prog w) A (eval value env) (fun o s₁=>wpAny (model prog w) A (eval slice env) (fun i s₂=>s₂.TypeIs o T∧wpAny (model prog w) A (getItem o i) Q E s₂) E s₁) E s):
 wpAny (model prog w) A (eval (.Subscript value slice pos) env) Q E s:=by
 refine Subscript_ (wpAny_mono h (fun o s₁ h₁=>wpAny_mono h₁ (fun i s₂ h₂=>?_) fun _ _ x=>x) fun _ _ x=>x)
 obtain⟨hT,h₂⟩:=h₂
 unfold subscriptTail
 refine wpAny_bind ?_
 rw[getitemInPython_of_ne hT.not_modules]
 refine wpAny_bind (wpAny_specialOf hT hl ?_)
 have fin:wpAny (model prog w) A (subscripted slice false o i) (fun r s₃=>wpAny (model prog w) A (letTemporaryGo value o r >>= fun _=>pure r) Q E s₃) E s₂:=by
  rw[hs o i]
  exact wpAny_operating (wpAny_mono h₂ (fun r s₃ h₃=>wpAny_bind (wpAny_letTemporaryGo (wpAny_pure h₃))) fun _ _ x=>x)
 first
  | exact wpAny_pure (wpAny_bind fin)
  | exact wpAny_bind (wpAny_pure (wpAny_bind fin))
  | exact wpAny_bind fin
theorem C5{X:Cx}{pins:List (Addr×Obj)}{σ:St}{H:Hp}{s:Shared}{a:Addr}{y:V}{o:Option V}(I:Inv X pins σ H s)(g:DGet H a y o):s.TypeIs (.ref a) "dict":=by
 rcases g with⟨kvs,k,e,_,_⟩ | ⟨kvs,k,b,e,_,_,_⟩
 ·obtain⟨_,_,vs,_,dd⟩:=iy I.hok e
  exact dd.typeIs
 ·obtain⟨_,_,xs,_,dd⟩:=jn I.hok e
  exact dd.typeIs
def we(td ty:TE):TE:=fun σ H Q=>td σ H fun x H1=>ty σ H1 fun y H2=>∃a v,x=.ref a∧DGet H2 a y (some v)∧Q v H2
def Eg(td ty tv:TE):TS:=fun D σ H=>tv σ H fun v H1=>td σ H1 fun x H2=>ty σ H2 fun y H3=>∃a H4,x=.ref a∧DPut H3 a y v H4∧D.nx σ H4
section
variable{X:Cx}{o i e value:Expr}{pos pos' tpos:Pos}{td ty tv:TE}
theorem fe(hu:X.A.units+1<cLine)(ho:PE X o td)(hi:PE X i ty)(hs:oK i):PE X (.Subscript o i pos) (we td ty):=by
 intro pins s σ H Q I h
 refine rz PySem.F.slot_dict_getitem.lookup hs (am (ho pins s σ H _ I h) fun u s1 ⟨x,H1,I1,rx,q1⟩=>am (hi pins s1 σ H1 _ I1 q1) fun iv s2 ⟨y,H2,I2,ry,a,v,ex,g,q2⟩=>?_)
 subst ex
 obtain rfl:u=Value.ref a:=rx
 exact⟨C5 I2 g,Dr hu I2 g ry fun w' s3 I3 rw'=>⟨v,H2,I3,rw',q2⟩⟩
theorem pd(hu:X.A.units+1<cLine)(ho:PE X o td)(hi:PE X i ty)(hv:PE X value tv)(hs:swapsWith value (some (.Subscript o i pos')) pos.line X.env=pure false):PS X (.Assign [.Subscript o i pos'] value pos) (Eg td ty tv):=by
 intro pins s σ H D I h
 refine wpAny_Assign_Subscript (am (hv pins s σ H _ I h) fun r s1 ⟨v,H1,I1,rv,q1⟩=>am (ho pins s1 σ H1 _ I1 q1) fun u s2 ⟨x,H2,I2,rx,q2⟩=>am (hi pins s2 σ H2 _ I2 q2) fun iv s3 ⟨y,H3,I3,ry,a,H4,ex,g,q3⟩=>?_) hs
 subst ex
 obtain rfl:u=Value.ref a:=rx
 exact zP hu I3 g ry rv fun s4 I4=>⟨σ,H4,I4,q3⟩
end
theorem vx{P:Program}{w:World}{H:Hp}(h:Heap)(hb:sysModules<h.objs.size):ObjOk P w H (h.push {cls:=.type "dict",data:=.dict #[]}) h.objs.size (.dK []):=
 ⟨Nat.zero_le _,beq_eq_false_iff_ne.mpr (Ne.symm (Nat.ne_of_lt hb)),[],.nil,Heap.DictOf.new h⟩
def Ea:TE:=fun _ H Q=>∀p,H p=none→Q (.ref p) (upd H p (.dK []))
section
variable{X:Cx}{pos:Pos}
theorem uC:PE X (.Dict [] [] pos) Ea:=fun pins s σ H Q I h=>
 wpAny_Dict_empty ⟨.ref s.heap.objs.size,_,I.laid (a:=s.heap.objs.size) (o:=.dK []) (t':=s.toks) (fun _ _ q=>Heap.get?_push_of_some _ q) (Nat.le_refl _) (vx s.heap I.big),rfl,h _ (I.hok.fresh (Nat.le_refl _))⟩
end
def mM:List (TE×TE)→St→Hp→(List (V×V)→Hp→Prop)→Prop
 | [],_,H,Q=>Q [] H
 | (tk,tv)::r,σ,H,Q=>tk σ H fun x H1=>tv σ H1 fun y H2=>mM r σ H2 fun ps H3=>Q ((x,y)::ps) H3
abbrev VV:List (V×V)→List (Value×Value)→Prop:=Paired fun p q=>RelV p.1 q.1∧RelV p.2 q.2
def jv(X:Cx)(pos:Pos)(keys:List (Option Expr))(values:List Expr)(trs:List (TE×TE)):Prop:=
 ∀ (pins:List (Addr×Obj)) (s:Shared) (σ:St) (H:Hp) (Q:List (V×V)→Hp→Prop),Inv X pins σ H s→mM trs σ H Q→
   wpAny (model X.prog X.w) X.A (evalPairs (pairTrees keys values X.env pos)) (fun vs s'=>∃ps H',Inv X pins σ H' s'∧VV ps vs∧Q ps H') X.xe s
theorem wY{X:Cx}{pos:Pos}:jv X pos [] [] []:=fun pins s σ H Q I h=>pairTrees_nil_walk ⟨[],H,I,.nil,h⟩
theorem vR{X:Cx}{pos:Pos}{k v:Expr}{ks:List (Option Expr)}{vs:List Expr}{tk tv:TE}{trs:List (TE×TE)}(hk:PE X k tk)(hv:PE X v tv)(hr:jv X pos ks vs trs):jv X pos (some k::ks) (v::vs) ((tk,tv)::trs):=fun pins s σ H Q I h=>
 pairTrees_cons_walk (am (hk pins s σ H _ I h) fun u s1 ⟨x,H1,I1,rx,q1⟩=>am (hv pins s1 σ H1 _ I1 q1) fun w2 s2 ⟨y,H2,I2,ry,q2⟩=>
  am (hr pins s2 σ H2 _ I2 q2) fun ws s3 ⟨ps,H3,I3,rel,q3⟩=>⟨(x,y)::ps,H3,I3,.cons ⟨rx,ry⟩ rel,q3⟩)
def gJ(kvs more:List (az×V)):List (az×V):=more.foldl (fun acc kv=>bZ acc kv.1 kv.2) kvs
theorem KV.merge:∀{more:List (az×V)} {rs:List (az×Value)} {kvs:List (az×V)} {vs:List (az×Value)},KV more rs→KV kvs vs→KV (gJ kvs more) (merged vs rs):=by
 intro more rs kvs vs r
 unfold KV at r
 induction r generalizing kvs vs with
 | nil=>intro q;exact q
 | @cons p q ps qs h t ih=>
   intro r0
   have e:KV (bZ kvs p.1 p.2) (stored vs q.1 q.2):=by
    have:=r0.put p.1 h.2
    rw[←h.1];exact this
   exact ih e
theorem qT:∀(more kvs:List (az×V)),(gJ kvs more).length≤kvs.length+more.length
 | [],kvs=>by show kvs.length≤kvs.length+0;lia
 | p::r,kvs=>by
   have h1:=qT r (bZ kvs p.1 p.2)
   have h2:=iu kvs p.1 p.2
   show(gJ (bZ kvs p.1 p.2) r).length≤_
   rw[List.length_cons];lia
theorem qu{P:Program}{w:World}:∀{kvs:List (az×V)} {ws:List (Value×Value)},VV (kvs.map fun kv=>(kV kv.1,kv.2)) ws→∃rs,Carries (bQ P w) ws rs∧KV kvs rs
 | [],_,r=>by rw[List.map_nil] at r;cases r;exact⟨[],True.intro,.nil⟩
 | p::kvs,_,r=>by
   rw[List.map_cons] at r
   cases r with
   | @cons a b as bs h t=>
     obtain⟨rs,c,q⟩:=qu (P:=P) (w:=w) t
     obtain⟨b1,b2⟩:=b
     exact⟨(p.1,b2)::rs,⟨fI h.1,rfl,c⟩,.cons ⟨rfl,h.2⟩ q⟩
def Af(trs:List (TE×TE)):TE:=fun σ H Q=>∀p,H p=none→mM trs σ (upd H p (.dK [])) fun ps H2=>H2 p=some (.dK [])∧∃kvs:List (az×V),ps=kvs.map (fun kv=>(kV kv.1,kv.2))∧kvs.length≤15∧Q (.ref p) (upd H2 p (.dK (gJ [] kvs)))
theorem ED{X:Cx}{pos:Pos}{keys:List (Option Expr)}{values:List Expr}{trs:List (TE×TE)}(h:jv X pos keys values trs)(hall:keys.all (·.isSome)=true)(hl:keys.length=values.length)(h0:keys≠ [])(h15:keys.length≤15):PE X (.Dict keys values pos) (Af trs):=by
 intro pins s σ H Q I q
 have hn:=I.hok.fresh (Nat.le_refl s.heap.objs.size)
 have I1:=I.laid (a:=s.heap.objs.size) (o:=.dK []) (h':=s.heap.push {cls:=.type "dict",data:=.dict #[]}) (t':=s.toks) (fun _ _ q=>Heap.get?_push_of_some _ q) (Nat.le_refl _) (vx s.heap I.big)
 refine wpAny_Dict_walk (knd:=bQ X.prog X.w) hall hl h0 h15 (am (h pins _ σ _ _ I1 (q _ hn)) fun ws s2 ⟨ps,H2,I2,rel,e,kvs,ep,lk,q2⟩=>?_)
 subst ep
 obtain⟨rs,c,rk⟩:=qu (P:=X.prog) (w:=X.w) rel
 obtain⟨z,hd,vs0,r0,dd⟩:=qH I2.hok e
 cases r0
 refine⟨rs,c,dd,fun h' dd' hs=>⟨.ref s.heap.objs.size,_,?_,rfl,q2⟩⟩
 have hz:(gJ [] kvs).length≤sizeLine:=by
  have h1:=qT kvs []
  rw[List.length_nil] at h1
  rw[sizeLine_eq];lia
 have he:∃q,h'.get? s.heap.objs.size=some q:=let ⟨q,_,_,hq,_⟩:=dd';⟨q,hq⟩
 exact oV I2 (by rw[e];exact True.intro) hs he (sF hz hd (rk.merge .nil) dd')
structure M1(X:Cx)(o:Expr)(m:Str)(apos:Pos)(e:Expr)(cpos:Pos):Prop where
 base:attributeBase o m X.env (eval o X.env)=eval o X.env
 few:((backTo cpos (starEach [e] X.env)).all (fun x=>!x.1) && (backToKw cpos (keywordEach [] X.env)).all (fun x=>x.1.isSome)
  && decide (([e]:List Expr).length+([]:List Keyword).length+(if([]:List Keyword).isEmpty then 0 else 1)<30))=true
 line:(apos.endLine == cpos.line)=true
 trees:backTo cpos (starEach [e] X.env)=[(false,eval e X.env)]
structure M2(X:Cx)(o:Expr)(m:Str)(apos:Pos)(e f:Expr)(cpos:Pos):Prop where
 base:attributeBase o m X.env (eval o X.env)=eval o X.env
 few:((backTo cpos (starEach [e,f] X.env)).all (fun x=>!x.1) && (backToKw cpos (keywordEach [] X.env)).all (fun x=>x.1.isSome)
  && decide (([e,f]:List Expr).length+([]:List Keyword).length+(if([]:List Keyword).isEmpty then 0 else 1)<30))=true
 line:(apos.endLine == cpos.line)=true
 trees:backTo cpos (starEach [e,f] X.env)=[(false,eval e X.env),(false,eval f X.env)]
section
variable{X:Cx}{pins:List (Addr×Obj)}{σ:St}{H:Hp}{s:Shared}{a:Addr}{y d:V}{u r:Value}{o:Option V}{A:Around}{E:Value→Shared→Prop}
end
section
variable{X:Cx}{o e f:Expr}{apos cpos:Pos}{td ty tx:TE}
end
section
variable{X:Cx}{pins:List (Addr×Obj)}{σ:St}{H:Hp}{s:Shared}{a:Addr}{kvs:List (az×V)}{A:Around}{E:Value→Shared→Prop}
end
section
variable{X:Cx}{pins:List (Addr×Obj)}{σ:St}{H:Hp}{s:Shared}{a:Addr}{y:V}{u:Value}{A:Around}{E:Value→Shared→Prop}
end
section
variable{X:Cx}
theorem C6(hc:X.calm=true):cU X (.builtin "sum") (fun xs H Q=>∃(p:Addr) (ns:List Int),xs=[.ref p]∧H p=some (.lst (ns.map V.int))∧Q (.int ns.sum) H):=by
 intro pins s σ H xs us Q I r h
 obtain⟨p,ns,rfl,hp,q⟩:=h
 obtain⟨u,rfl,rx⟩:=eS r
 cases rx
 obtain⟨_,its,n,rv,hlen,e1⟩:=I.lstM hp
 have isl:s.heap.IsList p its.toArray:=⟨_,e1,rfl,n,rfl⟩
 have below:p<s.heap.objs.size:=Heap.lt_size e1
 have hil:its.length=ns.length:=by rw[←hlen,List.length_map]
 refine call_sum_walkG (wpAny_pyIter_list isl ?_)
 refine⟨s.heap.objs.size,[s.heap.objs.size,p],[s.heap.objs.size],_,_,_,fun i=>ns.getD i 0,rfl,Walks.list (by first | exact I.ok.hd hc | (show X.A.in1.handled=none;exact I.ok.hd hc)) s.heap.objs.size p (Nat.ne_of_lt below) its.toArray,⟨⟨_,Heap.get?_push_size _ rfl,rfl,rfl⟩,isl.at fun o q=>Heap.get?_push_of_some _ q⟩,?_,?_,?_⟩
 ·intro b hb
  rw[Heap.size_push]
  simp only[List.mem_cons,List.not_mem_nil,or_false] at hb
  rcases hb with rfl | rfl
  ·exact Nat.lt_succ_self _
  ·exact Nat.lt_succ_of_lt below
 ·intro i v hv
  have hi:i<ns.length:=by
   have:=(Array.getElem?_eq_some_iff.mp hv).1
   simp at this;lia
  obtain⟨u,hu,ru⟩:=rv.get (show(ns.map V.int)[i]?=some (.int ns[i]) by simp[hi])
  have:its[i]?=some v:=by simpa using hv
  rw[hu] at this
  cases this
  obtain⟨t,rfl⟩:=ru
  exact⟨t,by simp[hi]⟩
 ·intro h' tk t' hk
  refine⟨.int ns.sum,H,?_,⟨t',?_⟩,q⟩
  ·exact I.kept (h':=h') (t':=tk) fun b o e=>hk b o (by simp;exact Nat.ne_of_lt (Heap.lt_size e)) (Heap.get?_push_of_some _ e)
  ·rw[show its.toArray.size=ns.length by simp[hil],qP _ (Nat.le_refl _),List.take_length]
variable{e:Expr}{te:TE}{p pos:Pos}
def BJ(te:TE):TE:=fun σ H Q=>te σ H fun x H1=>∃(a:Addr) (ns:List Int),x=.ref a∧H1 a=some (.lst (ns.map V.int))∧Q (.int ns.sum) H1
theorem EA(hc:X.calm=true)(hm:X.mg "sum"=none)(ha:PE X e te)(hg:Gl X "sum":=by rfl)(he:starEach [e] X.env=[(false,eval e X.env)]:=by rfl):PE X (.Call (.Name "sum" p) [e] [] pos) (BJ te):=
 ez (r:=r1 fun x H Q=>∃(a:Addr) (ns:List Int),x=.ref a∧H a=some (.lst (ns.map V.int))∧Q (.int ns.sum) H) (eD fun pins s σ H x us Q I rv ⟨a,ns,ex,h1,q⟩=>C6 hc pins s σ H _ us Q I rv ⟨a,ns,by rw[ex],h1,q⟩) hg hm wo (aa ha ac (by exact he)) (he:=by exact he)
end
theorem A0{K:PySem.W.Frag}{a:Addr}{xs:List V}{g:TG}{tb:TS}{D:Ends}{σ:St}{H:Hp}(Pv:Nat→St→Hp→Prop)(h0:Pv 0 σ H)(hl:∀i σ H,i≤xs.length→Pv i σ H→SqL K H a xs)(hs:∀i x σ H,xs.reverse[i]?=some x→Pv i σ H→g x σ H fun σ2 H2=>tb {D with nx:=Pv (i+1),ct:=Pv (i+1),bk:=D.nx} σ2 H2)(hd:∀σ H,Pv xs.length σ H→D.nx σ H):
 ∃ W:Nat→Nat→St→Hp→Prop,(∃m,W 0 m σ H)∧∀i m σ H,W i m σ H→
   ((dz K a xs).stop i H∧D.nx σ H)∨((dz K a xs).go i H∧∃N:St→Hp→Prop,(∀σ' H',N σ' H'→∃m',m'<m∧W (i+1) m' σ' H')∧∀x H',(dz K a xs).yld i H x H'→g x σ H' fun σ2 H2=>tb {D with nx:=N,ct:=N,bk:=D.nx} σ2 H2):=by
 refine⟨fun i m σ H=>m=xs.length-i∧i≤xs.length∧Pv i σ H,⟨xs.length,by simp,Nat.zero_le _,h0⟩,?_⟩
 rintro i m σ H ⟨rfl,hi,p⟩
 have q:=hl i σ H hi p
 by_cases hlt:i<xs.length
 ·refine .inr ⟨⟨q,hlt⟩,Pv (i+1),fun σ' H' p'=>⟨xs.length-(i+1),by lia,rfl,hlt,p'⟩,fun x H' y=>?_⟩
  obtain⟨e,y⟩:=y
  subst e
  refine hs i x σ _ ?_ p
  rw[List.getElem?_reverse hlt]
  exact y
 ·have e:i=xs.length:=by lia
  subst e
  exact .inl ⟨Nat.le_refl _,hd σ H p⟩
section
variable{prog:Program}{w:World}{κ:Type}[DecidableEq κ]{knd:HeapKind prog w κ}{A:Around}{E:Value→Shared→Prop}{s:Shared}
end
section
variable{X:Cx}{pins:List (Addr×Obj)}{σ:St}{H:Hp}{s:Shared}{a c:Addr}{kvs:List (List az×V)}{k:List az}{v:V}{r:Value}{A:Around}{E:Value→Shared→Prop}
end
section
variable{X:Cx}{e:Expr}{te:TE}{p pos:Pos}
end
section
variable{prog:Program}{w:World}{A:Around}{E:Value→Shared→Prop}{s:Shared}{it d:Addr}{i n ep:Nat}{od:Obj}{es:Array DictEntry}
end
abbrev TF:=St→Hp→(Hp→Prop)→Prop
def mq(X:Cx)(e:Expr)(t:TF):Prop:=∀(pins:List (Addr×Obj)) (s:Shared) (σ:St) (H:Hp) (Q:Hp→Prop),Inv X pins σ H s→t σ H Q→
 wpAny (model X.prog X.w) X.A (eval e X.env) (fun v s1=>∃y k,v=.str y k∧y.length≤2000∧∃H',Inv X pins σ H' s1∧Q H') X.xe s
def ke(X:Cx)(es:List Expr)(t:TF):Prop:=∀(pins:List (Addr×Obj)) (s:Shared) (σ:St) (H:Hp) (Q:Hp→Prop) (out:Str),out.length+2000*es.length≤16777216→Inv X pins σ H s→t σ H Q→
 wpAny (model X.prog X.w) X.A (joinParts out (evalEach es X.env)) (fun v s1=>∃y k,v=.str y k∧∃H',Inv X pins σ H' s1∧Q H') X.xe s
section
variable{X:Cx}
theorem rn{x:Str}{j:Nat}{pos:Pos}(hl:x.length≤2000):mq X (.Constant (.str x) j pos) (fun _ H Q=>Q H):=fun pins s σ H Q I h=>Calls.Constant_str ⟨x,_,rfl,hl,H,I.tok _,h⟩
theorem qy{e:Expr}{te:TE}{pos:Pos}(he:PE X e te):mq X (.FormattedValue e (-1) none pos) (fun σ H Q=>te σ H fun x H'=>∃i:Int,x=.int i∧i.natAbs.log2<1900∧Q H'):=fun pins s σ H Q I h=>by
 refine FormattedValue_plain (am (he pins s σ H _ I h) fun v s1 ⟨x,H1,I1,rx,i,ex,hi,q⟩=>?_)
 subst ex
 obtain⟨k,rfl⟩:=rx
 refine formatField_int_small (by lia) ⟨_,_,rfl,?_,H1,?_,q⟩
 ·have:=int_text_length_le (a:=i) (k:=1900) (by decide) hi
  rw[PySem.ofString_length]
  lia
 ·exact I1.kept (h':=s1.heap) (t':=s1.toks+1+1) fun _ _ q=>q
theorem xm:ke X [] (fun _ H Q=>Q H):=fun pins s σ H Q out hl I h=>joinParts_nil ⟨out,_,rfl,H,I.tok _,h⟩ (by show out.length≤2 ^ 24;simp at hl;lia)
theorem lC{e:Expr}{es:List Expr}{t u:TF}(he:mq X e t)(hr:ke X es u)(hs:evalEach (e::es) X.env=eval e X.env::evalEach es X.env:=by rfl):ke X (e::es) (fun σ H Q=>t σ H fun H'=>u σ H' Q):=fun pins s σ H Q out hl I h=>by
 rw[hs]
 refine joinParts_cons (wpAny_mono (he pins s σ H _ I h) (fun v s1 ⟨y,k,ev,hy,H1,I1,q⟩=>?_) fun _ _ z=>z)
 subst ev
 have len:(out++y).length=out.length+y.length:=strLen_append _ _
 have hl':out.length+2000*(es.length+1)≤16777216:=hl
 refine⟨by rw[len];show _≤2 ^ 24;lia,hr pins s1 σ H1 Q (out++y) (by rw[len];lia) I1 q⟩
def B8(t:TF):TE:=fun σ H Q=>t σ H fun H'=>∀z:Str,Q (.str z) H'
theorem BH{e e2:Expr}{es:List Expr}{t:TF}{pos:Pos}(h:ke X (e::e2::es) t)(few:es.length≤100)(hs:evalEach (e::e2::es) X.env=eval e X.env::eval e2 X.env::evalEach es X.env:=by rfl):PE X (.JoinedStr (e::e2::es) pos) (B8 t):=fun pins s σ H Q I q=>by
 have:=h pins s σ H _ Str.empty (by show 0+2000*(es.length+2)≤16777216;lia) I q
 rw[hs] at this
 refine JoinedStr_many (wpAny_mono this (fun v s1 ⟨y,k,ev,H1,I1,q1⟩=>?_) fun _ _ z=>z)
 subst ev
 exact⟨.str y,H1,I1,⟨k,rfl⟩,q1 y⟩
end
section
variable{prog:Program}{w:World}{A:Around}{E:Value→Shared→Prop}{s:Shared}{it d:Addr}{i n ep:Nat}{od:Obj}{es:Array DictEntry}
end
section
variable{s:Shared}{prog:Program}{w:World}{A:Around}{E:Value→Shared→Prop}
def Grown(h0 h:Heap):Prop:=∀b o,h0.get? b=some o→h.get? b=some o
theorem Grown.but{h0 h h':Heap}{a:Addr}(g:Grown h0 h)(n:h0.get? a=none)(k:∀b o,b≠a→h.get? b=some o→h'.get? b=some o):Grown h0 h':=fun b o e=>k b o (fun z=>by rw[z,n] at e;cases e) (g b o e)
theorem z9{h0:Heap}{l I S:Addr}{vs:List Value}{dv:Value}{kf:Nat→Int}{R:Result→Shared→Prop}(hh:A.handled=none)(hl:h0.IsList l vs.toArray)(nI:h0.get? I=none)(nS:h0.get? S=none)(hSI:S≠I)(each:∀i v,vs[i]?=some v→∃(b:Addr) (items:Array Value),v=.ref b∧h0.IsList b items∧(items.size:Int)=kf i∧(items.size:Int)<2 ^ 63)(hR:∀i v h' tk',vs[i]?=some v→(∀j,j<vs.length→kf i≤kf j∧(j<i→kf i<kf j))→Grown h0 h'→R (.ok (.ret v)) {s with heap:=h',toks:=tk'}):∀(r j i:Nat) (h:Heap) (tk:Nat) (vb:Value) (tb:Tok) (c:Nat),vs.length-(j+1)=r→j+1≤vs.length→Grown h0 h→h.get? S=some (seqObj "list" #[vb,.int (kf i) tb] c)→h.IsListIter I l (j+1)→vs[i]?=some vb→i≤j→(∀j',j'≤j→kf i≤kf j'∧(j'<i→kf i<kf j'))→codeAny (model prog w) A (.builtin "min.loop" ⟨[.ref I,.builtin "len",.ref S],[("default",dv)]⟩) R {s with heap:=h,toks:=tk}:=by
 have hnm:(toString "min"++toString ".loop":String)="min.loop":=by decide
 have lI:l≠I:=fun z=>by obtain⟨o,e,_⟩:=id hl;rw[z,nI] at e;cases e
 have W:=Walks.list (prog:=prog) (w:=w) (A:=A.in1) hh I l lI vs.toArray
 have size:vs.toArray.size=vs.length:=List.size_toArray ..
 intro r
 induction r with
 | zero=>
   intro j i h tk vb tb c er hj G hS hit hvb hij best
   refine codeAny_builtin PySem.F.entry_min_loop ?_;rw[Around.under_plainId PySem.F.plain_min_loop _];show wpAny _ A.in1 (seqItems? (.ref S) >>= _) _ _ _
   refine wpAny_bind (wpAny_seqItems hS rfl ?_);show wpAny _ A.in1 (tryCatch (pyNext (.ref I)) _ >>= _) _ _ _
   refine wpAny_bind (wpAny_tryCatch (W.done _ _ _ ⟨by rw[size,show vs.length=j+1 by lia];exact hit,hl.at fun o e=>G l o e⟩ fun h' tk' kp=>?_))
   have kp':∀b o,b≠I→h.get? b=some o→h'.get? b=some o:=fun b o hb e=>kp b o (by simpa using hb) e
   have G1:=G.but nI kp'
   have sb:=Heap.SameBut.update h' S (Obj.mapSeq fun _=>(#[]:Array Value))
   show wpAny _ A.in1 (updateSeq S (fun _=>#[]) >>= _) _ _ _;refine wpAny_bind ?_
   refine wpAny_updateSeq (kp' S _ hSI hS) rfl (wpAny_bind (wpAny_letGo (wpAny_pure ?_)))
   exact hR i vb _ _ hvb (fun j' hj'=>best j' (by lia)) (G1.but nS fun b o hb e=>(sb.2 b hb).trans e)
 | succ r ih=>
   intro j i h tk vb tb c er hj G hS hit hvb hij best
   have jlt:j+1<vs.length:=by lia
   refine codeAny_builtin PySem.F.entry_min_loop ?_;rw[Around.under_plainId PySem.F.plain_min_loop _];show wpAny _ A.in1 (seqItems? (.ref S) >>= _) _ _ _
   refine wpAny_bind (wpAny_seqItems hS rfl ?_);show wpAny _ A.in1 (tryCatch (pyNext (.ref I)) _ >>= _) _ _ _
   refine wpAny_bind (wpAny_tryCatch (W.item (j+1) _ _ _ (by rw[size];exact jlt) ⟨hit,hl.at fun o e=>G l o e⟩ fun v h' tk' hP st' kp=>?_))
   have kp':∀b o,b≠I→h.get? b=some o→h'.get? b=some o:=fun b o hb e=>kp b o (by simpa using hb) e
   have G1:=G.but nI kp'
   have hS1:=kp' S _ hSI hS
   have vat:vs[j+1]?=some v:=by simpa using hP
   obtain⟨b,items,rfl,hb,ek,fit⟩:=each (j+1) v vat
   show wpAny _ A.in1 (tryCatch (holding [.ref b] (call (.builtin "len") [.ref b])) _ >>= _) _ _ _
   refine wpAny_bind (wpAny_tryCatch (wpAny_holding (PySem.Calls.call_len_list (hb.at fun o e=>G1 b o e) fit ?_)))
   rw[ek]
   show wpAny _ A.in1 (tryCatch (holding [.ref b,.int (kf (j+1)) _] (richCompare .Lt (.int (kf (j+1)) _) (.int (kf i) tb) >>= _)) _ >>= _) _ _ _
   refine wpAny_bind (wpAny_tryCatch (wpAny_holding (wpAny_bind (CmpOf.ints_lt (prog:=prog) (w:=w) (A:=A.in1) (P:=fun i v=>∃t,v=.int (kf i) t) kf (fun i v h=>h) (j+1) i _ _ _ _ _ ⟨_,rfl⟩ ⟨tb,rfl⟩ ?_))))
   refine wpAny_bind (wpAny_holding (wpAny_truthy_bool (wpAny_bind (wpAny_letGo (wpAny_pure ?_)))))
   by_cases less:kf (j+1)<kf i
   ·simp only[less,decide_true,if_true]
    refine wpAny_bind (wpAny_updateSeq hS1 rfl (wpAny_bind (wpAny_letGo ?_)));rw[hnm]
    have sb:=Heap.SameBut.update h' S (Obj.mapSeq fun _=>#[Value.ref b,.int (kf (j+1)) (tk'+1)])
    refine wpAny_pure ⟨plainId_quiet PySem.F.plain_min_loop _,ih (j+1) (j+1) _ _ (.ref b) _ _ (by lia) jlt (G1.but nS fun b o hb e=>(sb.2 b hb).trans e) (get?_update_seq hS1 fun _=>#[Value.ref b,.int (kf (j+1)) (tk'+1)]) (st'.1.at fun o e=>(sb.2 I hSI.symm).trans e) vat (Nat.le_refl _) fun j' hj'=>?_⟩
    by_cases e:j'=j+1
    ·subst e;exact⟨Int.le_refl _,fun z=>by lia⟩
    ·have:=best j' (by lia);exact⟨by lia,fun _=>by lia⟩
   ·simp only[less,decide_false,Bool.false_eq_true,if_false]
    refine wpAny_bind (wpAny_letGo ?_);rw[hnm]
    refine wpAny_pure ⟨plainId_quiet PySem.F.plain_min_loop _,ih (j+1) i _ _ vb tb c (by lia) jlt G1 hS1 st'.1 hvb (by lia) fun j' hj'=>?_⟩
    by_cases e:j'=j+1
    ·subst e;exact⟨by lia,fun z=>by lia⟩
    ·exact best j' (by lia)
theorem y9(a v d:Value):argsOk "min" ⟨[a],[("key",v),("default",d)]⟩:=by unfold argsOk;kernel_rfl
theorem vI{l:Addr}{vs:List Value}{dv:Value}{kf:Nat→Int}{Q:Value→Shared→Prop}(hh:A.handled=none)(hl:s.heap.IsList l vs.toArray)(each:∀i v,vs[i]?=some v→∃(b:Addr) (items:Array Value),v=.ref b∧s.heap.IsList b items∧(items.size:Int)=kf i∧(items.size:Int)<2 ^ 63)(q0:vs=[]→∀h' tk',Grown s.heap h'→Q dv {s with heap:=h',toks:=tk'})(q1:∀i v h' tk',vs[i]?=some v→(∀j,j<vs.length→kf i≤kf j∧(j<i→kf i<kf j))→Grown s.heap h'→Q v {s with heap:=h',toks:=tk'}):wpAny (model prog w) A (call (.builtin "min") [.ref l] [("key",.builtin "len"),("default",dv)]) Q E s:=by
 have hnm:(toString "min"++toString ".loop":String)="min.loop":=by decide
 refine PyProof.Rows.kmb_tree PySem.F.kind_min PySem.F.plain_min PySem.F.entry_min (y9 _ _ _) ?_
 show wpAny _ A.in1 (Builtin.Builtins.bindParams "min" ["key","default"] 0 ⟨[],[("key",.builtin "len"),("default",dv)]⟩ >>= _) _ _ s
 refine wpAny_bind (wpAny_of_eq (show Builtin.Builtins.bindParams "min" ["key","default"] 0 ⟨[],[("key",.builtin "len"),("default",dv)]⟩=pure [some (.builtin "len"),some dv] from rfl) ?_)
 refine wpAny_bind (wpAny_pure (wpAny_bind (wpAny_pyIter_list hl (wpAny_bind (wpAny_newList ?_ (Nat.zero_le _))))));rw[hnm]
 have size1:(s.heap.push {cls:=.type "list_iterator",data:=.fields #[.ref l,.int 0 0]}).objs.size=s.heap.objs.size+1:=Heap.size_push ..
 have nI:s.heap.get? s.heap.objs.size=none:=Heap.get?_none_of_le (Nat.le_refl _)
 have nS:s.heap.get? (s.heap.push {cls:=.type "list_iterator",data:=.fields #[.ref l,.int 0 0]}).objs.size=none:=Heap.get?_none_of_le (by rw[size1];exact Nat.le_succ _)
 have SI:(s.heap.push {cls:=.type "list_iterator",data:=.fields #[.ref l,.int 0 0]}).objs.size≠s.heap.objs.size:=by rw[size1];exact Nat.succ_ne_self _
 have lI:l≠s.heap.objs.size:=fun z=>by obtain⟨o,e,_⟩:=id hl;rw[z,nI] at e;cases e
 refine wpAny_pure ⟨plainId_quiet PySem.F.plain_min_loop _,(?_)⟩
 have G:Grown s.heap ((s.heap.push {cls:=.type "list_iterator",data:=.fields #[.ref l,.int 0 0]}).push (seqObj "list" #[] 0)):=fun b o e=>Heap.get?_push_of_some _ (Heap.get?_push_of_some _ e)
 have gI:((s.heap.push {cls:=.type "list_iterator",data:=.fields #[.ref l,.int 0 0]}).push (seqObj "list" #[] 0)).IsListIter s.heap.objs.size l 0:=⟨_,Heap.get?_push_of_some _ (Heap.get?_push_size s.heap (o:={cls:=.type "list_iterator",data:=.fields #[.ref l,.int 0 0]}) rfl),rfl,rfl⟩
 have gSS:((s.heap.push {cls:=.type "list_iterator",data:=.fields #[.ref l,.int 0 0]}).push (seqObj "list" #[] 0)).get? (s.heap.push {cls:=.type "list_iterator",data:=.fields #[.ref l,.int 0 0]}).objs.size=some (seqObj "list" #[] 0):=Heap.get?_push_size _ rfl
 generalize (s.heap.push {cls:=.type "list_iterator",data:=.fields #[.ref l,.int 0 0]}).objs.size=S at nS SI gSS ⊢
 have W:=Walks.list (prog:=prog) (w:=w) (A:=A.in1) hh s.heap.objs.size l lI vs.toArray
 have size:vs.toArray.size=vs.length:=List.size_toArray ..
 refine codeAny_builtin PySem.F.entry_min_loop ?_;rw[Around.under_plainId PySem.F.plain_min_loop _];show wpAny _ A.in1 (seqItems? (.ref S) >>= _) _ _ _
 refine wpAny_bind (wpAny_seqItems gSS rfl ?_);show wpAny _ A.in1 (tryCatch (pyNext (.ref s.heap.objs.size)) _ >>= _) _ _ _
 by_cases hne:vs=[]
 ·refine wpAny_bind (wpAny_tryCatch (W.done _ _ _ ⟨by rw[size,hne];exact gI,hl.at fun o e=>G l o e⟩ fun h' tk' kp=>?_))
  have G1:=G.but nI (fun b o hb e=>kp b o (by simpa using hb) e)
  refine wpAny_bind (wpAny_rule (wpAny_pure (?_)))
  exact q0 hne _ _ G1
 ·have pos:0<vs.length:=List.length_pos_iff.mpr hne
  refine wpAny_bind (wpAny_tryCatch (W.item 0 _ _ _ (by rw[size];exact pos) ⟨gI,hl.at fun o e=>G l o e⟩ fun v h' tk' hP st' kp=>?_))
  have kp':∀b o,b≠s.heap.objs.size→_→h'.get? b=some o:=fun b o hb e=>kp b o (by simpa using hb) e
  have G1:=G.but nI kp'
  have hS1:=kp' S _ SI gSS
  have vat:vs[0]?=some v:=by simpa using hP
  obtain⟨b,items,rfl,hb,ek,fit⟩:=each 0 v vat
  show wpAny _ A.in1 (tryCatch (holding [.ref b] (call (.builtin "len") [.ref b])) _ >>= _) _ _ _
  refine wpAny_bind (wpAny_tryCatch (wpAny_holding (PySem.Calls.call_len_list (hb.at fun o e=>G1 b o e) fit ?_)))
  rw[ek]
  show wpAny _ A.in1 (updateSeq S (fun _=>#[.ref b,.int (kf 0) _]) >>= _) _ _ _
  refine wpAny_bind (wpAny_updateSeq hS1 rfl ?_);rw[hnm]
  have sb:=Heap.SameBut.update h' S (Obj.mapSeq fun _=>#[Value.ref b,.int (kf 0) (tk'+1)])
  exact wpAny_pure ⟨plainId_quiet PySem.F.plain_min_loop _,z9 hh hl nI nS SI each q1 _ 0 0 _ _ (.ref b) _ _ rfl pos (G1.but nS fun b o hb e=>(sb.2 b hb).trans e) (get?_update_seq hS1 fun _=>#[Value.ref b,.int (kf 0) (tk'+1)]) (st'.1.at fun o e=>(sb.2 _ SI.symm).trans e) vat (Nat.le_refl _) fun j' hj'=>by rw[show j'=0 by lia];exact⟨Int.le_refl _,fun z=>by lia⟩⟩
end
def qJ(Q:VK)(x y:V)(H2:Hp):Prop:=∃(l:Addr) (cs:List Addr) (xss:List (List V)),x=.ref l∧H2 l=some (.lst (cs.map V.ref))∧cs.length=xss.length∧(∀(i:Nat) (c:Addr) (xs:List V),cs[i]?=some c→xss[i]?=some xs→H2 c=some (.lst xs))∧
 (cs=[]→Q y H2)∧∀(i:Nat) (c:Addr) (xi:List V),cs[i]?=some c→xss[i]?=some xi→(∀(j:Nat) (xj:List V),xss[j]?=some xj→xi.length≤xj.length∧(j<i→xi.length<xj.length))→Q (.ref c) H2
def yV(te td:TE):TE:=fun σ H Q=>te σ H fun x H1=>td σ H1 fun y H2=>qJ Q x y H2
theorem o7:∀{cs:List Addr} {us:List Value},Vals (cs.map V.ref) us→us=cs.map Value.ref
 | [],_,h=>by cases h;rfl
 | c::cs,_,h=>by
   cases h with
   | cons r t=>cases r;rw[o7 t];rfl
theorem rZ{X:Cx}{e d:Expr}{te td:TE}{p pos kp1 kp2 np:Pos}(hc:X.calm=true)(hm:X.mg "min"=none)(hml:X.mg "len"=none)(ha:PE X e te)(hd:PE X d td)(hg:Gl X "min":=by rfl)(hgl:Gl X "len":=by rfl)(he:starEach [e] X.env=[(false,eval e X.env)]:=by rfl):
 PE X (.Call (.Name "min" p) [e] [⟨some "key",.Name "len" np,kp1⟩,⟨some "default",d,kp2⟩] pos) (yV te td):=by
 intro pins s σ H Q I h
 refine wpAny_Call_Name_kw (dE I hg hm nN ?_)
 have hb:backTo pos (starEach [e] X.env)=(false,eval e X.env)::backTo pos (starEach [] X.env):=by rw[he];rfl
 refine PyProof.Rows.callWith_kw ?_ hb (by rw[he];rfl) (by rfl) (by rfl)
 refine am ((aa ha ac (by exact he)) pos pins s σ H (fun vs H1=>match vs with | [x]=>td σ H1 (fun y H2=>qJ Q x y H2) | _=>False) I h) fun us s1 ⟨vs,H1,I1,r1,q1⟩=>?_
 match vs,q1 with
 | [x],q1=>
   obtain⟨u,rfl,ru⟩:=r1.one
   refine PyProof.Rows.kws_cons (dE I1 hgl hml pz ?_)
   refine PyProof.Rows.kws_cons (am (hd pins s1 σ H1 _ I1 q1) fun yv s2 ⟨y,H2,I2,ry,l,cs,xss,ex,hl,hlen,hat,k0,k1⟩=>PyProof.Rows.kws_nil ?_)
   subst ex
   cases ru
   obtain⟨z,its,n,r,hz,e1⟩:=I2.lstM hl
   obtain rfl:=o7 r
   have hL:s2.heap.IsList l (cs.map Value.ref).toArray:=⟨_,e1,rfl,n,rfl⟩
   have lenAt:∀i c,cs[i]?=some c→∃xs,xss[i]?=some xs∧H2 c=some (.lst xs):=fun i c hi=>by
    have jlt:i<xss.length:=by rw[←hlen];exact(List.getElem?_eq_some_iff.mp hi).1
    exact⟨xss[i],List.getElem?_eq_getElem jlt,hat i c _ hi (List.getElem?_eq_getElem jlt)⟩
   refine vI (vs:=cs.map Value.ref) (kf:=fun i=>(((xss[i]?).map List.length).getD 0:Nat)) (I2.ok.hd hc) hL (fun i v vat=>?_) (fun hne h' tk' G=>?_) (fun i v h' tk' vat best G=>?_)
   ·rw[List.getElem?_map] at vat
    cases ec:cs[i]? with
    | none=>rw[ec] at vat;cases vat
    | some c=>
      rw[ec] at vat
      obtain rfl:Value.ref c=v:=Option.some.inj vat
      obtain⟨xs,hx,hH⟩:=lenAt i c ec
      obtain⟨z2,its2,n2,rr2,hz2,e2⟩:=I2.lstM hH
      have hle:=rr2.length
      refine⟨c,its2.toArray,rfl,⟨_,e2,rfl,n2,rfl⟩,?_,?_⟩
      ·rw[hx,List.size_toArray,←hle];rfl
      ·rw[List.size_toArray]
       have:its2.length≤sizeLine:=by lia
       have h63:(sizeLine:Int)<2 ^ 63:=by decide
       lia
   ·exact⟨y,H2,I2.kept (h':=h') (t':=tk') G,ry,k0 (by simpa using hne)⟩
   ·rw[List.getElem?_map] at vat
    cases ec:cs[i]? with
    | none=>rw[ec] at vat;cases vat
    | some c=>
      rw[ec] at vat
      obtain rfl:Value.ref c=v:=Option.some.inj vat
      obtain⟨xs,hx,hH⟩:=lenAt i c ec
      refine⟨.ref c,H2,I2.kept (h':=h') (t':=tk') G,rfl,k1 i c xs ec hx fun j xj hj=>?_⟩
      have hjl:j<(cs.map Value.ref).length:=by rw[List.length_map,hlen];exact(List.getElem?_eq_some_iff.mp hj).1
      have b:=best j hjl
      simp only[hx,hj,Option.map_some,Option.getD_some] at b
      exact⟨by lia,fun z=>by have:=b.2 z;lia⟩
def aF:List Int→List Int→Bool
 | [],[]=>false
 | [],_::_=>true
 | _::_,[]=>false
 | x::xs,y::ys=>if x=y then aF xs ys else decide (x<y)
theorem rf:∀ys:List Int,aF [] ys=decide (0<ys.length)
 | []=>rfl
 | _::_=>by simp[aF]
theorem qE:∀xs:List Int,aF xs []=false
 | []=>rfl
 | _::_=>rfl
section
open SeqAt MeetsSeq MeetsSeq2 MeetsSeq3 SeqRoads2
open AutoSeq1 (wpAny_loadPart')
def LtAt(A:Around)(s:Shared)(y x:Value)(b:Bool):Prop:=∀(prog:Program) (w:World) (E:Value→Shared→Prop) (Q:Value→Shared→Prop),Q (.bool b) s→wpAny (model prog w) A (richCompare .Lt y x) Q E s
theorem LtAt.ints{A:Around}{s:Shared}{i j:Int}{t u:Tok}:LtAt A s (.int i t) (.int j u) (decide (i<j)):=fun prog w E Q h=>
 richCompare_gives (op:=.Lt) (typeIs_int s _ t) (typeIs_int s _ u) F.slot_int_lt F.entry_int_lt (F.args_int_lt_2 _ _) (gives_int_lt _ _ t u) (fun x=>nomatch x) h
def gz(xs:List Int)(items:Array Value):Prop:=items.size=xs.length∧∀(j:Nat) (h:j<items.size),∃(x:Int) (t:Tok),xs[j]?=some x∧items[j]=.int x t
theorem j9{A:Around}{s:Shared}{i j:Int}{t u:Tok}:EqAt A s (.int i t) (.int j u) (decide (i=j)):=by
 have:=lW (A:=A) (s:=s) (y:=.int i) (x:=.int j) (u:=.int i t) (v:=.int j u) ⟨t,rfl⟩ ⟨u,rfl⟩ rfl rfl
 have e:eP (.int i) (.int j)=decide (i=j):=by show(i == j)=_;by_cases h:i=j <;> simp[h]
 rw[e] at this
 exact this
theorem A5{l b:Addr}{items items2:Array Value}{n n2:Nat}{dd dd2:Option Addr}{sl sl2:Array (Option Value)}{xs ys:List Int}(N1:gz xs items)(N2:gz ys items2)(k:Nat):∀i:Nat,items.size-i=k→i≤items.size→i≤items2.size→Meets (Builtin.«list.__eq__.loop» ⟨[.ref l,.ref b,rawInt i,rawInt 0],[]⟩) (fun A R s=>s.heap.get? l=some {cls:=.type "list",dict:=dd,data:=.seq items n,slots:=sl}∧s.heap.get? b=some {cls:=.type "list",dict:=dd2,data:=.seq items2 n2,slots:=sl2}∧R (.ok (.ret (.bool (aF (xs.drop i) (ys.drop i))))) s):=by
 induction k with
 | zero=>
   intro i hk hle hle2 prog w A R s h
   obtain⟨hp,g,d,tk,os⟩:=s;obtain⟨hl,hb,h⟩:=h
   wp_walk using wpAny_loadPart' hl,wpAny_loadPart' hb
   have none1:items[((i:Nat):Int).toNat]?=none:=by simp;lia
   have e1:xs.drop i=[]:=List.drop_eq_nil_of_le (by rw[←N1.1];lia)
   rw[e1,rf,List.length_drop,←N2.1] at h
   rw[none1]
   wp_walk using wpAny_loadPart' hl,wpAny_loadPart' hb
   have e2:decide (items.size<items2.size)=decide (0<items2.size-i):=decide_eq_decide.mpr (by lia)
   show R (.ok (.ret (.bool (decide (items.size<items2.size))))) _
   rw[e2]
   exact h
 | succ k ih=>
   intro i hk hle hle2 prog w A R s h
   obtain⟨hp,g,d,tk,os⟩:=s;obtain⟨hl,hb,h⟩:=h
   have lt1:i<items.size:=by lia
   by_cases g9:i<items2.size
   ·obtain⟨x,t,hx,ex⟩:=N1.2 i lt1
    obtain⟨y,u,hy,ey⟩:=N2.2 i g9
    have dx:xs.drop i=x::xs.drop (i+1):=by
     obtain⟨q1,q2⟩:=List.getElem?_eq_some_iff.mp hx
     rw[List.drop_eq_getElem_cons q1,q2]
    have dy:ys.drop i=y::ys.drop (i+1):=by
     obtain⟨q1,q2⟩:=List.getElem?_eq_some_iff.mp hy
     rw[List.drop_eq_getElem_cons q1,q2]
    wp_walk using wpAny_loadPart' hl,wpAny_loadPart' hb
    have at1:items[((i:Nat):Int).toNat]?=some (.int x t):=by simp[lt1,ex]
    have at2:items2[((i:Nat):Int).toNat]?=some (.int y u):=by simp[g9,ey]
    have hc:((i:Int)+1)=((i+1:Nat):Int):=by push_cast;rfl
    rw[dx,dy] at h
    simp only[aF] at h
    rw[at1,at2]
    refine wpAny_bind (j9 prog w _ _ ?_)
    by_cases exy:x=y
    ·rw[if_pos exy] at h
     rw[decide_eq_true exy]
     wp_walk
     rw[hc]
     exact⟨plainId_quiet plain_eq_loop _,codeAny_builtin entry_eq_loop (by
      rw[Around.under_plainId plain_eq_loop _]
      exact ih (i+1) (by lia) (by lia) (by lia) prog w A R _ ⟨hl,hb,h⟩)⟩
    ·rw[if_neg exy] at h
     rw[decide_eq_false exy]
     wp_walk using wpAny_loadPart' hl,wpAny_loadPart' hb
     rw[at1,at2]
     refine wpAny_bind (LtAt.ints prog w _ _ ?_)
     wp_walk
     exact h
   ·wp_walk using wpAny_loadPart' hl,wpAny_loadPart' hb
    obtain⟨x,t,hx,ex⟩:=N1.2 i lt1
    have at1:items[((i:Nat):Int).toNat]?=some (.int x t):=by simp[lt1,ex]
    have none2:items2[((i:Nat):Int).toNat]?=none:=by simp;lia
    have e1:ys.drop i=[]:=List.drop_eq_nil_of_le (by rw[←N2.1];lia)
    rw[e1,qE] at h
    rw[at1,none2]
    wp_walk using wpAny_loadPart' hl,wpAny_loadPart' hb
    have e2:decide (items.size<items2.size)=false:=decide_eq_false (by lia)
    show R (.ok (.ret (.bool (decide (items.size<items2.size))))) _
    rw[e2]
    exact h
theorem Bn{l b:Addr}{items items2:Array Value}{n n2:Nat}{dd dd2:Option Addr}{sl sl2:Array (Option Value)}{xs ys:List Int}(N1:gz xs items)(N2:gz ys items2):Meets (Builtin.«list.__lt__» ⟨[.ref l,.ref b],[]⟩) (fun A R s=>s.heap.get? l=some {cls:=.type "list",dict:=dd,data:=.seq items n,slots:=sl}∧s.heap.get? b=some {cls:=.type "list",dict:=dd2,data:=.seq items2 n2,slots:=sl2}∧R (.ok (.ret (.bool (aF xs ys)))) s):=by
 intro prog w A R s h
 obtain⟨hp,g,d,tk,os⟩:=s;obtain⟨hl,hb,h⟩:=h
 have sub:=AutoSeq1.sub_list_list
 wp_walk using wpAny_loadPart' hl,wpAny_loadPart' hb
 exact⟨plainId_quiet plain_eq_loop _,codeAny_builtin entry_eq_loop (by
  rw[Around.under_plainId plain_eq_loop _]
  exact A5 N1 N2 _ 0 rfl (Nat.zero_le _) (Nat.zero_le _) prog w A R _ ⟨hl,hb,by simpa using h⟩)⟩
theorem LtAt.lists{A:Around}{s:Shared}{l b:Addr}{items items2:Array Value}{xs ys:List Int}(hl:s.heap.IsList l items)(hb:s.heap.IsList b items2)(N1:gz xs items)(N2:gz ys items2)(hu:A.units<cLine):LtAt A s (.ref l) (.ref b) (aF xs ys):=fun prog w E Q h=>by
 obtain⟨⟨cls,dd,data,sl⟩,ho,hc,n,hd⟩:=id hl
 obtain⟨⟨cls2,dd2,data2,sl2⟩,ho2,hc2,n2,hd2⟩:=id hb
 simp only at hc hd hc2 hd2;subst hc hd hc2 hd2
 exact richCompare_meets_room (op:=.Lt) ⟨_,ho,rfl⟩ ⟨_,ho2,rfl⟩ F.slot_list_lt F.entry_list_lt (F.args_list_lt_2 _ _) (Bn N1 N2) ⟨ho,ho2,show Value.bool (aF xs ys)≠Value.notImplemented∧Q (.bool (aF xs ys)) s from⟨(fun x=>nomatch x),h⟩⟩ hu
def zN(a b:Int)(xs ys:List Int):Bool:=if a=b then aF xs ys else decide (a<b)
theorem lq:∀xs:List Int,aF xs xs=false
 | []=>rfl
 | x::xs=>by simp only[aF,if_true];exact lq xs
theorem uP{xs:List Int}{its:List Value}(r:Vals (xs.map V.int) its):gz xs its.toArray:=by
 have hl:=r.length
 rw[List.length_map] at hl
 refine⟨by rw[List.size_toArray];lia,fun j h=>?_⟩
 have hj:j<xs.length:=by rw[List.size_toArray] at h;lia
 obtain⟨u,hu,ru⟩:=r.get (show(xs.map V.int)[j]?=some (V.int xs[j]) by simp[hj])
 obtain⟨t,rfl⟩:=ru
 refine⟨xs[j],t,List.getElem?_eq_getElem hj,?_⟩
 have h2:=(List.getElem?_eq_some_iff.mp hu).2
 simpa using h2
end
theorem br{C:List Value→Prop}(h:∀a,C [a]):∀us:List Value,us.length=1→C us
 | [a],_=>h a
theorem aZ{C:List Value→Prop}(h:∀a b,C [a,b]):∀us:List Value,us.length=2→C us
 | [a,b],_=>h a b
theorem fW{C:List Value→Prop}(h:∀a b c,C [a,b,c]):∀us:List Value,us.length=3→C us
 | [a,b,c],_=>h a b c
theorem iB{C:List Value→Prop}(h:∀a b c d,C [a,b,c,d]):∀us:List Value,us.length=4→C us
 | [a,b,c,d],_=>h a b c d
theorem yj{K:PySem.W.Frag}{a:Addr}{xs:List V}{g:TG}{tb:TS}{D:Ends}{σ:St}{H:Hp}(Pv:Nat→St→Hp→Prop)(h0:Pv 0 σ H)(hl:∀i σ H,i≤xs.length→Pv i σ H→SqL K H a xs)(hs:∀(D2:Ends) i x σ H,(∀σ' H',Pv (i+1) σ' H'→D2.nx σ' H')→xs[i]?=some x→Pv i σ H→g x σ H fun σ2 H2=>tb D2 σ2 H2)(hd:∀σ H,Pv xs.length σ H→D.nx σ H):FW (eY K a) g tb D σ H:=
 j7 Pv h0 hl (fun i x σ H hx p=>hs _ i x σ H (fun _ _ h=>h) hx p) hd
def jk(z:Str):It:=⟨fun i _=>i<z.cps.size,fun i H x H'=>H'=H∧∃c,z.cps[i]?=some c∧x=sg c,fun i _=>z.cps.size≤i⟩
theorem Ei{P:Program}{w:World}{K:PySem.W.Frag}{tg:Expr}(it:Addr)(z:Str)(t:Tok):Turn P w K tg (jk z) [it] it (fun i h=>i≤z.cps.size∧h.IsStrIter it "str_ascii_iterator" z t i) where
 mem:=by simp
 obj:=fun i h st b hb=>by
  have e:b=it:=by simpa using hb
  subst e
  obtain⟨_,o,e,c,d⟩:=st
  exact⟨o,e,fun v z=>by rw[d] at z;cases z⟩
 keep:=fun i h h' st k=>by
  obtain⟨hi,o,e,r⟩:=st
  exact⟨hi,o,k it (by simp) o e,r⟩
 item:=by
  intro X hP hw hK hc i pins s σ H E I hf st hg
  subst hP hw hK
  obtain⟨f0,f1,f2,f3,f4,f5⟩:=hf it (by simp)
  have W:=Walks.strAscii (prog:=X.prog) (w:=X.w) (I.ok.hd hc) it z t
  refine W.item i s _ _ hg st.2 fun v h' tk hv st' kk=>?_
  obtain⟨c,u,hc',rfl⟩:=hv
  have I1:Inv X pins σ H {s with heap:=h',toks:=tk}:=I.turned (fun b o hb e=>kk b o (by simpa using hb) e) f0 f1 f3 f4 f5
  obtain⟨o,e,oc,od⟩:=id st'
  exact⟨_,rfl,jr (s:={s with heap:=h',toks:=tk}) (n:="str_ascii_iterator") e oc od (by decide) ⟨sg c,H,I1,⟨u,rfl⟩,⟨rfl,c,hc',rfl⟩,⟨hg,st'⟩,fun b hb=>(hf b hb).1⟩⟩
 done:=by
  intro X hP hw hK hc i pins s σ H E I hf st hg
  subst hP hw hK
  obtain⟨f0,f1,f2,f3,f4,f5⟩:=hf it (by simp)
  have W:=Walks.strAscii (prog:=X.prog) (w:=X.w) (I.ok.hd hc) it z t
  have e:i=z.cps.size:=Nat.le_antisymm st.1 hg
  subst e
  exact W.done s _ _ st.2 fun h' tk kk=>⟨rfl,I.turned (fun b o hb e=>kk b o (by simpa using hb) e) f0 f1 f3 f4 f5⟩
 self:=fun A i s Q E st h=>wpAny_pyIter_striter_ascii st.2 h
section
variable{X:Cx}{tg:Expr}
def DQ(tl:TE):TI:=fun σ H R=>tl σ H fun x H1=>∃z:Str,x=.str z∧z.cps.all (·< 128)=true∧R (jk z) H1
theorem uY{l:Expr}{tl:TE}(hl:PE X l tl):PI X tg l (DQ tl):=by
 intro pins s σ H R I h
 refine am (hl pins s σ H _ I h) fun v s1 ⟨x,H1,I1,r1,q1⟩=>?_
 obtain⟨z,e,ha,q⟩:=q1
 subst e
 obtain⟨t,rfl⟩:=r1
 refine wpAny_pyIter_ascii ha ?_
 refine⟨s1.heap.objs.size,[s1.heap.objs.size],_,_,H1,rfl,I1.kept (t':=s1.toks) fun b o e=>Heap.get?_push_of_some _ e,Ei _ z t,⟨Nat.zero_le _,_,Heap.get?_push_size _ rfl,rfl,rfl⟩,fun b hb=>?_,q⟩
 have e:b=s1.heap.objs.size:=by simpa using hb
 subst e
 exact I1.fpOk (Nat.le_refl _) (I1.hok.fresh (Nat.le_refl _))
end
theorem tG{z:Str}{tc:TT}{te:TE}{σ:St}{H1:Hp}{Q:Hp→Prop}{D:Addr}(Pv:Nat→List V→Hp→Prop)(hn:z.cps.size<sizeLine)(h0:Pv 0 [] (upd H1 D (.lst [])))(hl:∀i ys H,Pv i ys H→ys.length≤i)(hs:∀i c ys H,z.cps[i]?=some c→Pv i ys H→tc (σ++[some (sg c)]) H fun b H2=>if b=true then te (σ++[some (sg c)]) H2 fun v H3=>H3 D=some (.lst ys)∧Pv (i+1) (ys++[v]) (upd H3 D (.lst (ys++[v]))) else Pv (i+1) ys H2)
 (hd:∀ys H,Pv z.cps.size ys H→Q H):
 ∃ W:Nat→Nat→List V→Hp→Prop,(∃m,W 0 m [] (upd H1 D (.lst [])))∧
   ∀ i m ys H,W i m ys H→((jk z).stop i H∧Q H)∨((jk z).go i H∧ys.length<sizeLine∧∃N:List V→Hp→Prop,(∀ys' H',N ys' H'→∃m',m'<m∧W (i+1) m' ys' H')∧∀x H',(jk z).yld i H x H'→tc (σ++[some x]) H' fun b H2=>
     if b=true then te (σ++[some x]) H2 fun v H3=>H3 D=some (.lst ys)∧N (ys++[v]) (upd H3 D (.lst (ys++[v]))) else N ys H2):=by
 refine⟨fun i m ys H=>m=z.cps.size-i∧i≤z.cps.size∧Pv i ys H,⟨z.cps.size,by simp,Nat.zero_le _,h0⟩,?_⟩
 rintro i m ys H ⟨rfl,hi,p⟩
 by_cases hlt:i<z.cps.size
 ·refine .inr ⟨hlt,Nat.lt_of_le_of_lt (hl i ys H p) (Nat.lt_trans hlt hn),Pv (i+1),fun ys' H' p'=>⟨z.cps.size-(i+1),by lia,rfl,hlt,p'⟩,fun x H' y=>?_⟩
  obtain⟨e,c,hc,rfl⟩:=y
  subst e
  exact hs i c ys _ hc p
 ·have e:i=z.cps.size:=by lia
  subst e
  exact .inl ⟨Nat.le_refl _,hd ys H p⟩
section
variable{X:Cx}{a b c:Expr}{ta:TA}{p p2 pos pos2:Pos}
end
theorem kh:∀{xs ys zs:List Int},aF xs ys=true→aF ys zs=true→aF xs zs=true
 | [],[],_,h,_=>by simp[aF] at h
 | [],_::_,[],_,h=>by simp[aF] at h
 | [],_::_,_::_,_,_=>(rfl:true=true)
 | _::_,[],_,h,_=>by simp[aF] at h
 | _::_,_::_,[],_,h=>by simp[aF] at h
 | x::xs,y::ys,z::zs,h1,h2=>by
   simp only[aF] at h1 h2 ⊢
   by_cases e1:x=y
   ·rw[if_pos e1] at h1
    by_cases e2:y=z
    ·rw[if_pos e2] at h2
     rw[if_pos (e1.trans e2)]
     exact kh h1 h2
    ·rw[if_neg e2] at h2
     rw[if_neg (by rw[e1];exact e2),e1]
     exact h2
   ·rw[if_neg e1] at h1
    have l1:=of_decide_eq_true h1
    by_cases e2:y=z
    ·rw[if_neg (by rw[←e2];exact e1),←e2]
     exact h1
    ·rw[if_neg e2] at h2
     have l2:=of_decide_eq_true h2
     rw[if_neg (by lia)]
     exact decide_eq_true (Int.lt_trans l1 l2)
abbrev K3:=Int×Int×List Int
def bp(x y:K3):Bool:=aF (x.1::x.2.1::x.2.2) (y.1::y.2.1::y.2.2)
theorem qW(x:K3):bp x x=false:=lq _
theorem zC{x y z:K3}(h1:bp x y=true)(h2:bp y z=true):bp x z=true:=kh h1 h2
section
variable{s:Shared}{prog:Program}{w:World}{A:Around}{E:Value→Shared→Prop}
theorem Ce{h0:Heap}{l I S:Addr}{vs:List Value}{kw:List (Str×Value)}{lt:Nat→Nat→Bool}{R:Result→Shared→Prop}(hh:A.handled=none)(hl:h0.IsList l vs.toArray)(nI:h0.get? I=none)(nS:h0.get? S=none)(hSI:S≠I)(tr:∀a b c,lt a b=true→lt b c=true→lt a c=true)(irr:∀a,lt a a=false)(cmp:∀i j vi vj h tk,vs[i]?=some vi→vs[j]?=some vj→Grown h0 h→LtAt A.in1 {s with heap:=h,toks:=tk} vi vj (lt i j))(hR:∀i v h' tk',vs[i]?=some v→(∀j,j<vs.length→lt j i=false)→Grown h0 h'→R (.ok (.ret v)) {s with heap:=h',toks:=tk'}):∀(r j i:Nat) (h:Heap) (tk:Nat) (vb:Value) (c:Nat),vs.length-(j+1)=r→j+1≤vs.length→Grown h0 h→h.get? S=some (seqObj "list" #[vb,vb] c)→h.IsListIter I l (j+1)→vs[i]?=some vb→i≤j→(∀j',j'≤j→lt j' i=false)→codeAny (model prog w) A (.builtin "min.loop" ⟨[.ref I,.none,.ref S],kw⟩) R {s with heap:=h,toks:=tk}:=by
 have hnm:(toString "min"++toString ".loop":String)="min.loop":=by decide
 have lI:l≠I:=fun z=>by obtain⟨o,e,_⟩:=id hl;rw[z,nI] at e;cases e
 have W:=Walks.list (prog:=prog) (w:=w) (A:=A.in1) hh I l lI vs.toArray
 have size:vs.toArray.size=vs.length:=List.size_toArray ..
 intro r
 induction r with
 | zero=>
   intro j i h tk vb c er hj G hS hit hvb hij best
   refine codeAny_builtin PySem.F.entry_min_loop ?_;rw[Around.under_plainId PySem.F.plain_min_loop _];show wpAny _ A.in1 (seqItems? (.ref S) >>= _) _ _ _
   refine wpAny_bind (wpAny_seqItems hS rfl ?_);show wpAny _ A.in1 (tryCatch (pyNext (.ref I)) _ >>= _) _ _ _
   refine wpAny_bind (wpAny_tryCatch (W.done _ _ _ ⟨by rw[size,show vs.length=j+1 by lia];exact hit,hl.at fun o e=>G l o e⟩ fun h' tk' kp=>?_))
   have kp':∀b o,b≠I→h.get? b=some o→h'.get? b=some o:=fun b o hb e=>kp b o (by simpa using hb) e
   have G1:=G.but nI kp'
   have sb:=Heap.SameBut.update h' S (Obj.mapSeq fun _=>(#[]:Array Value))
   show wpAny _ A.in1 (updateSeq S (fun _=>#[]) >>= _) _ _ _;refine wpAny_bind ?_
   refine wpAny_updateSeq (kp' S _ hSI hS) rfl (wpAny_bind (wpAny_letGo (wpAny_pure ?_)))
   exact hR i vb _ _ hvb (fun j' hj'=>best j' (by lia)) (G1.but nS fun b o hb e=>(sb.2 b hb).trans e)
 | succ r ih=>
   intro j i h tk vb c er hj G hS hit hvb hij best
   have jlt:j+1<vs.length:=by lia
   refine codeAny_builtin PySem.F.entry_min_loop ?_;rw[Around.under_plainId PySem.F.plain_min_loop _];show wpAny _ A.in1 (seqItems? (.ref S) >>= _) _ _ _
   refine wpAny_bind (wpAny_seqItems hS rfl ?_);show wpAny _ A.in1 (tryCatch (pyNext (.ref I)) _ >>= _) _ _ _
   refine wpAny_bind (wpAny_tryCatch (W.item (j+1) _ _ _ (by rw[size];exact jlt) ⟨hit,hl.at fun o e=>G l o e⟩ fun v h' tk' hP st' kp=>?_))
   have kp':∀b o,b≠I→h.get? b=some o→h'.get? b=some o:=fun b o hb e=>kp b o (by simpa using hb) e
   have G1:=G.but nI kp'
   have hS1:=kp' S _ hSI hS
   have vat:vs[j+1]?=some v:=by simpa using hP
   show wpAny _ A.in1 (tryCatch (holding [v,v] (richCompare .Lt v vb >>= _)) _ >>= _) _ _ _;refine wpAny_bind (wpAny_tryCatch (wpAny_holding (wpAny_bind (cmp (j+1) i v vb h' tk' vat hvb G1 prog w _ _ ?_))))
   refine wpAny_bind (wpAny_holding (wpAny_truthy_bool (wpAny_bind (wpAny_letGo (wpAny_pure ?_)))))
   cases less:lt (j+1) i with
   | true=>
     simp only[if_true]
     refine wpAny_bind (wpAny_updateSeq hS1 rfl (wpAny_bind (wpAny_letGo ?_)));rw[hnm]
     have sb:=Heap.SameBut.update h' S (Obj.mapSeq fun _=>#[v,v])
     refine wpAny_pure ⟨plainId_quiet PySem.F.plain_min_loop _,ih (j+1) (j+1) _ _ v _ (by lia) jlt (G1.but nS fun b o hb e=>(sb.2 b hb).trans e) (get?_update_seq hS1 fun _=>#[v,v]) (st'.1.at fun o e=>(sb.2 I hSI.symm).trans e) vat (Nat.le_refl _) fun j' hj'=>?_⟩
     by_cases e:j'=j+1
     ·subst e;exact irr _
     ·refine Bool.eq_false_iff.mpr fun z=>?_
      have:=tr _ _ _ z less
      rw[best j' (by lia)] at this
      cases this
   | false=>
     simp only[Bool.false_eq_true,if_false];refine wpAny_bind (wpAny_letGo ?_);rw[hnm]
     refine wpAny_pure ⟨plainId_quiet PySem.F.plain_min_loop _,ih (j+1) i _ _ vb c (by lia) jlt G1 hS1 st'.1 hvb (by lia) fun j' hj'=>?_⟩
     by_cases e:j'=j+1
     ·subst e;exact less
     ·exact best j' (by lia)
theorem C4{l:Addr}{vs:List Value}{kw:List (Str×Value)}{lt:Nat→Nat→Bool}{R:Result→Shared→Prop}(hh:A.handled=none)(hl:s.heap.IsList l vs.toArray)(tr:∀a b c,lt a b=true→lt b c=true→lt a c=true)(irr:∀a,lt a a=false)(cmp:∀i j vi vj h tk,vs[i]?=some vi→vs[j]?=some vj→Grown s.heap h→LtAt A.in1 {s with heap:=h,toks:=tk} vi vj (lt i j))(q0:vs=[]→∃d,kw=[(Str.ofString "default",d)]∧∀h' tk',Grown s.heap h'→R (.ok (.ret d)) {s with heap:=h',toks:=tk'})(q1:∀i v h' tk',vs[i]?=some v→(∀j,j<vs.length→lt j i=false)→Grown s.heap h'→R (.ok (.ret v)) {s with heap:=h',toks:=tk'})(tk:Nat):codeAny (model prog w) A (.builtin "min.loop" ⟨[.ref s.heap.objs.size,.none,.ref (s.heap.push {cls:=.type "list_iterator",data:=.fields #[.ref l,.int 0 0]}).objs.size],kw⟩) R {s with heap:=(s.heap.push {cls:=.type "list_iterator",data:=.fields #[.ref l,.int 0 0]}).push (seqObj "list" #[] 0),toks:=tk}:=by
 have hnm:(toString "min"++toString ".loop":String)="min.loop":=by decide
 have size1:(s.heap.push {cls:=.type "list_iterator",data:=.fields #[.ref l,.int 0 0]}).objs.size=s.heap.objs.size+1:=Heap.size_push ..
 have nI:s.heap.get? s.heap.objs.size=none:=Heap.get?_none_of_le (Nat.le_refl _)
 have nS:s.heap.get? (s.heap.push {cls:=.type "list_iterator",data:=.fields #[.ref l,.int 0 0]}).objs.size=none:=Heap.get?_none_of_le (by rw[size1];exact Nat.le_succ _)
 have SI:(s.heap.push {cls:=.type "list_iterator",data:=.fields #[.ref l,.int 0 0]}).objs.size≠s.heap.objs.size:=by rw[size1];exact Nat.succ_ne_self _
 have lI:l≠s.heap.objs.size:=fun z=>by obtain⟨o,e,_⟩:=id hl;rw[z,nI] at e;cases e
 have G:Grown s.heap ((s.heap.push {cls:=.type "list_iterator",data:=.fields #[.ref l,.int 0 0]}).push (seqObj "list" #[] 0)):=fun b o e=>Heap.get?_push_of_some _ (Heap.get?_push_of_some _ e)
 have gI:((s.heap.push {cls:=.type "list_iterator",data:=.fields #[.ref l,.int 0 0]}).push (seqObj "list" #[] 0)).IsListIter s.heap.objs.size l 0:=⟨_,Heap.get?_push_of_some _ (Heap.get?_push_size s.heap (o:={cls:=.type "list_iterator",data:=.fields #[.ref l,.int 0 0]}) rfl),rfl,rfl⟩
 have gSS:((s.heap.push {cls:=.type "list_iterator",data:=.fields #[.ref l,.int 0 0]}).push (seqObj "list" #[] 0)).get? (s.heap.push {cls:=.type "list_iterator",data:=.fields #[.ref l,.int 0 0]}).objs.size=some (seqObj "list" #[] 0):=Heap.get?_push_size _ rfl
 generalize (s.heap.push {cls:=.type "list_iterator",data:=.fields #[.ref l,.int 0 0]}).objs.size=S at nS SI gSS ⊢
 generalize (s.heap.push {cls:=.type "list_iterator",data:=.fields #[.ref l,.int 0 0]}).push (seqObj "list" #[] 0)=hp at G gI gSS ⊢
 have W:=Walks.list (prog:=prog) (w:=w) (A:=A.in1) hh s.heap.objs.size l lI vs.toArray
 have size:vs.toArray.size=vs.length:=List.size_toArray ..
 refine codeAny_builtin PySem.F.entry_min_loop ?_;rw[Around.under_plainId PySem.F.plain_min_loop _];show wpAny _ A.in1 (seqItems? (.ref S) >>= _) _ _ _
 refine wpAny_bind (wpAny_seqItems gSS rfl ?_);show wpAny _ A.in1 (tryCatch (pyNext (.ref s.heap.objs.size)) _ >>= _) _ _ _
 by_cases hne:vs=[]
 ·refine wpAny_bind (wpAny_tryCatch (W.done _ _ _ ⟨by rw[size,hne];exact gI,hl.at fun o e=>G l o e⟩ fun h' tk' kp=>?_))
  have G1:=G.but nI (fun b o hb e=>kp b o (by simpa using hb) e)
  obtain⟨d,rfl,q⟩:=q0 hne
  refine wpAny_bind (wpAny_rule (wpAny_pure (?_)))
  exact q _ _ G1
 ·have pos:0<vs.length:=List.length_pos_iff.mpr hne
  refine wpAny_bind (wpAny_tryCatch (W.item 0 _ _ _ (by rw[size];exact pos) ⟨gI,hl.at fun o e=>G l o e⟩ fun v h' tk' hP st' kp=>?_))
  have kp':∀b o,b≠s.heap.objs.size→hp.get? b=some o→h'.get? b=some o:=fun b o hb e=>kp b o (by simpa using hb) e
  have G1:=G.but nI kp'
  have hS1:=kp' S _ SI gSS
  have vat:vs[0]?=some v:=by simpa using hP
  show wpAny _ A.in1 (updateSeq S (fun _=>#[v,v]) >>= _) _ _ _;refine wpAny_bind (wpAny_updateSeq hS1 rfl ?_);rw[hnm]
  have sb:=Heap.SameBut.update h' S (Obj.mapSeq fun _=>#[v,v])
  exact wpAny_pure ⟨plainId_quiet PySem.F.plain_min_loop _,Ce hh hl nI nS SI tr irr cmp q1 _ 0 0 _ _ v _ rfl pos (G1.but nS fun b o hb e=>(sb.2 b hb).trans e) (get?_update_seq hS1 fun _=>#[v,v]) (st'.1.at fun o e=>(sb.2 _ SI.symm).trans e) vat (Nat.le_refl _) fun j' hj'=>by rw[show j'=0 by lia];exact irr 0⟩
theorem yC{l:Addr}{vs:List Value}{lt:Nat→Nat→Bool}{Q:Value→Shared→Prop}(hh:A.handled=none)(hl:s.heap.IsList l vs.toArray)(hne:vs≠ [])(tr:∀a b c,lt a b=true→lt b c=true→lt a c=true)(irr:∀a,lt a a=false)(cmp:∀i j vi vj h tk,vs[i]?=some vi→vs[j]?=some vj→Grown s.heap h→LtAt A.in1 {s with heap:=h,toks:=tk} vi vj (lt i j))(q1:∀i v h' tk',vs[i]?=some v→(∀j,j<vs.length→lt j i=false)→Grown s.heap h'→Q v {s with heap:=h',toks:=tk'}):wpAny (model prog w) A (call (.builtin "min") [Value.ref l]) Q E s:=by
 have hnm:(toString "min"++toString ".loop":String)="min.loop":=by decide
 refine call_function_tree F.kind_min F.plain_min F.entry_min (F.args_min1 _) ?_;show wpAny _ A.in1 (Builtin.Builtins.bindParams "min" ["key","default"] 0 ⟨[],[]⟩ >>= _) _ _ s
 refine wpAny_bind (wpAny_of_eq (show Builtin.Builtins.bindParams "min" ["key","default"] 0 ⟨[],[]⟩=pure [none,none] from rfl) ?_)
 refine wpAny_bind (wpAny_pure (wpAny_bind (wpAny_pyIter_list hl (wpAny_bind (wpAny_newList ?_ (Nat.zero_le _))))));rw[hnm]
 exact wpAny_pure ⟨plainId_quiet PySem.F.plain_min_loop _,C4 hh hl tr irr cmp (fun z=>absurd z hne) q1 _⟩
end
section
open SeqAt MeetsSeq MeetsSeq2 MeetsSeq3 SeqRoads2
open AutoSeq1 (wpAny_loadPart')
def gA(a b a' b':Int)(e l:Bool):Bool:=if a=a' then(if b=b' then(if e=true then false else l) else decide (b<b')) else decide (a<a')
theorem sN{p q:Addr}{n n2:Nat}{dd dd2:Option Addr}{sl sl2:Array (Option Value)}{a b a' b':Int}{t t' u u':Tok}{v x:Value}{e l:Bool}:Meets (Builtin.«tuple.__lt__» ⟨[.ref p,.ref q],[]⟩) (fun A R s=>s.heap.get? p=some {cls:=.type "tuple",dict:=dd,data:=.seq #[.int a t,.int b t',v] n,slots:=sl}∧s.heap.get? q=some {cls:=.type "tuple",dict:=dd2,data:=.seq #[.int a' u,.int b' u',x] n2,slots:=sl2}∧EqAt A.in1 s v x e∧LtAt A.in1 s v x l∧R (.ok (.ret (.bool (gA a b a' b' e l)))) s):=
 .of_wp fun prog w A R s h=>by
  obtain⟨hp,g,d,tk,os⟩:=s;obtain⟨hl,hb,eqL,ltA,h⟩:=h
  have sub:=AutoSeq1.sub_tuple_tuple
  wp_walk using wpAny_loadPart' hl,wpAny_loadPart' hb,wpAny_forIn_list _ (fun rest c s'=>c.1=none∧s'=(⟨hp,g,d,tk,os⟩:Shared)∧((rest=[(Value.int a t,Value.int a' u),(Value.int b t',Value.int b' u'),(v,x)]∧R (.ok (.ret (.bool (gA a b a' b' e l)))) ⟨hp,g,d,tk,os⟩)∨(rest=[(Value.int b t',Value.int b' u'),(v,x)]∧R (.ok (.ret (.bool (if b=b' then(if e=true then false else l) else decide (b<b'))))) ⟨hp,g,d,tk,os⟩)∨(rest=[(v,x)]∧R (.ok (.ret (.bool (if e=true then false else l)))) ⟨hp,g,d,tk,os⟩)∨(rest=[]∧R (.ok (.ret (.bool false))) ⟨hp,g,d,tk,os⟩))) _
  case turn=>
   rintro⟨y,z⟩ rest c s' ⟨hc,rfl,hz⟩
   rcases hz with⟨hz,hR⟩ | ⟨hz,hR⟩ | ⟨hz,hR⟩ | ⟨hz,hR⟩
   ·injection hz with hyx hrest
    obtain rfl:y=.int a t:=congrArg Prod.fst hyx
    obtain rfl:z=.int a' u:=congrArg Prod.snd hyx
    refine wpAny_bind (j9 prog w _ _ ?_)
    unfold gA at hR
    by_cases e':a=a'
    ·rw[if_pos e'] at hR
     rw[decide_eq_true e']
     wp_walk
     exact⟨rfl,rfl,.inr (.inl ⟨hrest,hR⟩)⟩
    ·rw[if_neg e'] at hR
     rw[decide_eq_false e']
     refine wpAny_bind (wpAny_rule (wpAny_bind (LtAt.ints prog w _ _ ?_)))
     wp_walk
     exact⟨_,rfl,hR⟩
   ·injection hz with hyx hrest
    obtain rfl:y=.int b t':=congrArg Prod.fst hyx
    obtain rfl:z=.int b' u':=congrArg Prod.snd hyx
    refine wpAny_bind (j9 prog w _ _ ?_)
    by_cases e':b=b'
    ·rw[if_pos e'] at hR
     rw[decide_eq_true e']
     wp_walk
     exact⟨rfl,rfl,.inr (.inr (.inl ⟨hrest,hR⟩))⟩
    ·rw[if_neg e'] at hR
     rw[decide_eq_false e']
     refine wpAny_bind (wpAny_rule (wpAny_bind (LtAt.ints prog w _ _ ?_)))
     wp_walk
     exact⟨_,rfl,hR⟩
   ·injection hz with hyx hrest
    obtain rfl:y=v:=congrArg Prod.fst hyx
    obtain rfl:z=x:=congrArg Prod.snd hyx
    refine wpAny_bind (eqL prog w _ _ ?_)
    cases e with
    | true=>
      wp_walk
      exact⟨rfl,rfl,.inr (.inr (.inr ⟨hrest,hR⟩))⟩
    | false=>
      refine wpAny_bind (wpAny_rule (wpAny_bind (ltA prog w _ _ ?_)))
      wp_walk
      exact⟨_,rfl,hR⟩
   ·cases hz
  case fin=>
   rintro⟨c1,c2⟩ s' ⟨hc,rfl,hz⟩
   simp only at hc
   subst hc
   rcases hz with⟨hz,_⟩ | ⟨hz,_⟩ | ⟨hz,_⟩ | ⟨_,hR⟩
   ·cases hz
   ·cases hz
   ·cases hz
   ·wp_walk
    exact⟨_,rfl,by simpa [Builtin.Tuple.tupleCompareSizes] using hR⟩
  case h=>
   exact⟨rfl,rfl,.inl ⟨rfl,h⟩⟩
end
def k6(isL:Bool)(H:Hp)(c:Addr)(k:K3):Prop:=match isL with
 | false=>∃d:Int,k.2.2=[d]∧H c=some (.tup [.int k.1,.int k.2.1,.int d])
 | true=>∃g:Addr,H c=some (.tup [.int k.1,.int k.2.1,.ref g])∧H g=some (.lst (k.2.2.map V.int))
theorem wB(a b a' b' d d':Int):gA a b a' b' (decide (d=d')) (decide (d<d'))=bp (a,b,[d]) (a',b',[d']):=by
 unfold gA bp
 simp only[aF]
 by_cases h1:a=a'
 ·rw[if_pos h1,if_pos h1]
  by_cases h2:b=b'
  ·rw[if_pos h2,if_pos h2]
   by_cases h3:d=d'
   ·rw[decide_eq_true h3,if_pos rfl,if_pos h3]
   ·rw[decide_eq_false h3,if_neg (by decide),if_neg h3]
  ·rw[if_neg h2,if_neg h2]
 ·rw[if_neg h1,if_neg h1]
theorem zG(a b a' b':Int)(L L':List Int):gA a b a' b' (decide (L=L')) (aF L L')=bp (a,b,L) (a',b',L'):=by
 unfold gA bp
 simp only[aF]
 by_cases h1:a=a'
 ·rw[if_pos h1,if_pos h1]
  by_cases h2:b=b'
  ·rw[if_pos h2,if_pos h2]
   by_cases h3:L=L'
   ·rw[decide_eq_true h3,if_pos rfl,h3,lq]
   ·rw[decide_eq_false h3,if_neg (by decide)]
  ·rw[if_neg h2,if_neg h2]
 ·rw[if_neg h1,if_neg h1]
theorem kL{X:Cx}{pins:List (Addr×Obj)}{σ:St}{H:Hp}{s:Shared}{p:Addr}{i j:Int}{z:V}(I:Inv X pins σ H s)(h:H p=some (.tup [.int i,.int j,z])):∃(t t':Tok) (v:Value) (n:Nat) (dd:Option Addr) (sl:Array (Option Value)),RelV z v∧s.heap.get? p=some {cls:=.type "tuple",dict:=dd,data:=.seq #[.int i t,.int j t',v] n,slots:=sl}:=by
 obtain⟨_,its,vr,⟨o,ho,hc,n,hd⟩⟩:=(show ObjOk X.prog X.w H s.heap p (.tup [.int i,.int j,z]) from I.hok p _ h)
 cases vr with
 | cons r1 vr=>
   cases vr with
   | cons r2 vr=>
     cases vr with
     | cons r3 vr=>
       cases vr
       obtain⟨t,rfl⟩:=r1
       obtain⟨t',rfl⟩:=r2
       obtain⟨cl,dd,dt,sl⟩:=o
       have hc':cl=.type "tuple":=hc
       have hd':dt=.seq #[.int i t,.int j t',_] n:=hd
       subst hc' hd'
       exact⟨t,t',_,n,dd,sl,r3,ho⟩
theorem Aq{X:Cx}{k:Nat}(hr:Room k X.A){pins:List (Addr×Obj)}{σ:St}{H:Hp}{s:Shared}{isL:Bool}{p q:Addr}{x y:K3}(I:Inv X pins σ H s)(hp:k6 isL H p x)(hq:k6 isL H q y):LtAt X.A.in1 s (.ref p) (.ref q) (bp x y):=by
 intro prog w E Q h
 have hu:=hr.units
 obtain⟨a,b,L⟩:=x
 obtain⟨a',b',L'⟩:=y
 cases isL with
 | false=>
   obtain⟨d,ed,hp⟩:=hp
   obtain⟨d',ed',hq⟩:=hq
   have ed:L=[d]:=ed
   have ed':L'=[d']:=ed'
   subst ed ed'
   obtain⟨t,t',v,n,dd,sl,rv,e1⟩:=kL I hp
   obtain⟨u,u',x,n2,dd2,sl2,rx,e2⟩:=kL I hq
   obtain⟨tv,rfl⟩:=rv
   obtain⟨tx,rfl⟩:=rx
   rw[←wB] at h
   exact richCompare_meets_room (op:=.Lt) ⟨_,e1,rfl⟩ ⟨_,e2,rfl⟩ F.slot_tuple_lt F.entry_tuple_lt (F.args_tuple_lt_2 _ _) (sN (e:=decide (d=d')) (l:=decide (d<d'))) ⟨e1,e2,j9,LtAt.ints,show Value.bool _≠Value.notImplemented∧_ from⟨(fun x=>nomatch x),h⟩⟩ (by show X.A.units+1<cLine;lia)
 | true=>
   obtain⟨g,hp,hg⟩:=hp
   obtain⟨g',hq,hg'⟩:=hq
   obtain⟨t,t',v,n,dd,sl,rv,e1⟩:=kL I hp
   obtain⟨u,u',x,n2,dd2,sl2,rx,e2⟩:=kL I hq
   cases rv
   cases rx
   have hg:H g=some (.lst (L.map V.int)):=hg
   have hg':H g'=some (.lst (L'.map V.int)):=hg'
   obtain⟨_,its,m,r,_,f1⟩:=I.lstM hg
   obtain⟨_,its2,m2,r2,_,f2⟩:=I.lstM hg'
   obtain⟨⟨as,ra⟩,ca⟩:=DatV.reads I (gh L) (.ref g) (.ref g) (jW (K:=X.K) (SqL.of hg)) rfl
   obtain⟨⟨bs,rb⟩,cb⟩:=DatV.reads I (gh L') (.ref g') (.ref g') (jW (K:=X.K) (SqL.of hg')) rfl
   have d1:=qz L
   have d2:=qz L'
   have eqA:SeqAt.EqAt X.A.in1.in1 s (.ref g) (.ref g') (decide (L=L')):=by
    have:=SeqAt.eqAt_reads (gh L) (gh L') X.A.in1.in1 s (.ref g) (.ref g') as bs ra rb ca cb (by show X.A.units+1+1+_<cLine;lia)
    rw[AU] at this
    exact this
   have ltA:LtAt X.A.in1.in1 s (.ref g) (.ref g') (aF L L'):=LtAt.lists ⟨_,f1,rfl,m,rfl⟩ ⟨_,f2,rfl,m2,rfl⟩ (uP r) (uP r2) (by show X.A.units+1+1<cLine;lia)
   rw[←zG] at h
   exact richCompare_meets_room (op:=.Lt) ⟨_,e1,rfl⟩ ⟨_,e2,rfl⟩ F.slot_tuple_lt F.entry_tuple_lt (F.args_tuple_lt_2 _ _) (sN (e:=decide (L=L')) (l:=aF L L')) ⟨e1,e2,eqA,ltA,show Value.bool _≠Value.notImplemented∧_ from⟨(fun x=>nomatch x),h⟩⟩ (by show X.A.units+1<cLine;lia)
def dS(ks:List K3)(i j:Nat):Bool:=match ks[i]?,ks[j]? with
 | some a,some b=>bp a b
 | _,_=>false
theorem DZ(ks:List K3)(i:Nat):dS ks i i=false:=by
 unfold dS
 cases ks[i]? with
 | none=>rfl
 | some a=>exact qW a
theorem EC(ks:List K3)(a b c:Nat)(h1:dS ks a b=true)(h2:dS ks b c=true):dS ks a c=true:=by
 unfold dS at*
 cases ea:ks[a]? with
 | none=>rw[ea] at h1;cases h1
 | some x=>
   cases eb:ks[b]? with
   | none=>rw[ea,eb] at h1;cases h1
   | some y=>
     cases ec:ks[c]? with
     | none=>rw[eb,ec] at h2;cases h2
     | some z=>
       rw[ea,eb] at h1
       rw[eb,ec] at h2
       exact zC h1 h2
structure Trips(isL:Bool)(H:Hp)(cs:List Addr)(ks:List K3):Prop where
 len:cs.length=ks.length
 at_:∀(i:Nat) (c:Addr) (k:K3),cs[i]?=some c→ks[i]?=some k→k6 isL H c k
section
variable{X:Cx}{e d:Expr}{te td:TE}{p pos kp:Pos}{k:Nat}
def Cg(te:TE):TE:=fun σ H Q=>te σ H fun x H1=>∃(isL:Bool) (l:Addr) (cs:List Addr) (ks:List K3),x=.ref l∧H1 l=some (.lst (cs.map V.ref))∧Trips isL H1 cs ks∧cs≠ []∧∀(i:Nat) (c:Addr) (k:K3),cs[i]?=some c→ks[i]?=some k→(∀k'∈ks,bp k' k=false)→Q (.ref c) H1
theorem vF(hr:Room k X.A){pins:List (Addr×Obj)}{σ:St}{H:Hp}{s:Shared}{isL:Bool}{cs:List Addr}{ks:List K3}(I:Inv X pins σ H s)(T:Trips isL H cs ks)(i j:Nat)(vi vj:Value)(h:Heap)(tk:Nat)(e1:(cs.map Value.ref)[i]?=some vi)(e2:(cs.map Value.ref)[j]?=some vj)(G:Grown s.heap h):LtAt X.A.in1 {s with heap:=h,toks:=tk} vi vj (dS ks i j):=by
 rw[List.getElem?_map] at e1 e2
 cases c1:cs[i]? with
 | none=>rw[c1] at e1;cases e1
 | some a=>
   cases c2:cs[j]? with
   | none=>rw[c2] at e2;cases e2
   | some b=>
     rw[c1] at e1
     rw[c2] at e2
     obtain rfl:Value.ref a=vi:=Option.some.inj e1
     obtain rfl:Value.ref b=vj:=Option.some.inj e2
     have l1:i<ks.length:=by rw[←T.len];exact(List.getElem?_eq_some_iff.mp c1).1
     have l2:j<ks.length:=by rw[←T.len];exact(List.getElem?_eq_some_iff.mp c2).1
     have k1:=List.getElem?_eq_getElem l1
     have k2:=List.getElem?_eq_getElem l2
     unfold dS
     rw[k1,k2]
     exact Aq hr (I.kept (h':=h) (t':=tk) G) (T.at_ i a _ c1 k1) (T.at_ j b _ c2 k2)
theorem Ed{isL:Bool}{H:Hp}{cs:List Addr}{ks:List K3}(T:Trips isL H cs ks){i:Nat}{x:K3}(hx:ks[i]?=some x)(best:∀j,j<(cs.map Value.ref).length→dS ks j i=false):∀k'∈ks,bp k' x=false:=fun k' hk=>by
 obtain⟨j,hj⟩:=List.mem_iff_getElem?.mp hk
 have:=best j (by rw[List.length_map,T.len];exact(List.getElem?_eq_some_iff.mp hj).1)
 unfold dS at this
 rw[hj,hx] at this
 exact this
theorem C1(hc:X.calm=true)(hm:X.mg "min"=none)(hr:Room k X.A)(ha:PE X e te)(hg:Gl X "min":=by rfl)(he:starEach [e] X.env=[(false,eval e X.env)]:=by rfl):PE X (.Call (.Name "min" p) [e] [] pos) (Cg te):=
 ez (r:=r1 fun x H Q=>∃(isL:Bool) (l:Addr) (cs:List Addr) (ks:List K3),x=.ref l∧H l=some (.lst (cs.map V.ref))∧Trips isL H cs ks∧cs≠ []∧∀(i:Nat) (c:Addr) (k:K3),cs[i]?=some c→ks[i]?=some k→(∀k'∈ks,bp k' k=false)→Q (.ref c) H)
  (eD fun pins s σ H x us Q I rv ⟨isL,l,cs,ks,ex,hH,T,hne,q⟩=>by
   subst ex
   obtain⟨u,rfl,ru⟩:=rv.one
   cases ru
   obtain⟨z,its,n,r,hz,e1⟩:=I.lstM hH
   obtain rfl:=o7 r
   have hL:s.heap.IsList l (cs.map Value.ref).toArray:=⟨_,e1,rfl,n,rfl⟩
   refine yC (vs:=cs.map Value.ref) (lt:=dS ks) (I.ok.hd hc) hL (by simpa using hne) (EC ks) (DZ ks) (vF hr I T) fun i v h' tk' vat best G=>?_
   rw[List.getElem?_map] at vat
   cases ec:cs[i]? with
   | none=>rw[ec] at vat;cases vat
   | some c=>
     rw[ec] at vat
     obtain rfl:Value.ref c=v:=Option.some.inj vat
     have l1:i<ks.length:=by rw[←T.len];exact(List.getElem?_eq_some_iff.mp ec).1
     have k1:=List.getElem?_eq_getElem l1
     exact⟨.ref c,H,I.kept (h':=h') (t':=tk') G,rfl,q i c _ ec k1 (Ed T k1 best)⟩) hg hm nN (aa ha ac (by exact he)) (he:=by exact he)
end
def mH(a b c:Int):Bool:=Builtin.Range.rangeFitsLong a && Builtin.Range.rangeFitsLong b && Builtin.Range.rangeFitsLong c && Builtin.Range.rangeFitsLong (-c) && Builtin.Range.rangeFitsLong (a-c) && Builtin.Range.rangeFitsLong (Builtin.Range.rangeSize a b c)
theorem yk(r:Addr)(a b c:Int)(t u v:Tok)(hc0:¬(!(Builtin.Range.rangeFitsLong a && Builtin.Range.rangeFitsLong b && Builtin.Range.rangeFitsLong c && Builtin.Range.rangeFitsLong (-c) && Builtin.Range.rangeFitsLong (a-c) && Builtin.Range.rangeFitsLong (Builtin.Range.rangeSize a b c)))=true):Meets (Builtin.«range.__reversed__» ⟨[.ref r],[]⟩) (fun _ R s=>s.heap.get? r=some {cls:=.type "range",dict:=none,data:=.fields #[.int a t,.int b u,.int c v],slots:=#[]}∧
 R (.ok (.ret (Value.ref s.heap.objs.size))) {s with heap:=s.heap.push {cls:=Value.type (if(Builtin.Range.rangeFitsLong a && Builtin.Range.rangeFitsLong b && Builtin.Range.rangeFitsLong c && Builtin.Range.rangeFitsLong (-c) && Builtin.Range.rangeFitsLong (a-c) && Builtin.Range.rangeFitsLong (Builtin.Range.rangeSize a b c))=true then "range_iterator" else "longrange_iterator"),data:=Data.fields #[rawInt (a+(Builtin.Range.rangeSize a b c-1)*c),rawInt (Builtin.Range.rangeSize a b c),rawInt (-c)]}}):=
 .of_wp fun prog w A R s hz=>by
  obtain⟨hp,gg,dd,tk,os⟩:=s;obtain⟨hl,h⟩:=hz
  wp_walk
  exact⟨_,rfl,h⟩
section
variable{prog:Program}{w:World}{A:Around}{E:Value→Shared→Prop}{s:Shared}
def js(n:Nat):Obj:={cls:=.type "range_iterator",data:=.fields #[rawInt (0+((n:Int)-1)*1),rawInt (n:Int),rawInt (-1)]}
theorem vf(n:Nat):Builtin.Range.rangeSize 0 (n:Int) 1=(n:Int):=by rw[rangeSize_one];split <;> lia
theorem wJ{n:Nat}(hn:n<2 ^ 62):mH 0 (n:Int) 1=true:=by
 unfold mH
 rw[vf]
 simp only[Builtin.Range.rangeFitsLong,Bool.and_eq_true,decide_eq_true_eq]
 lia
theorem At{r:Addr}{n:Nat}{t u v:Tok}{Q:Value→Shared→Prop}(hr:IsRange s.heap r 0 (n:Int) 1 t u v)(hn:n<2 ^ 62)(h:Q (.ref s.heap.objs.size) {s with heap:=s.heap.push (js n)}):wpAny (model prog w) A (call (.builtin "range.__reversed__") [.ref r]) Q E s:=by
 have hT:s.TypeIs (.ref r) "range":=⟨_,hr,(rfl:_=_)⟩
 have hf:=wJ hn
 unfold mH at hf
 refine call_meets F.slot_range_reversed hT F.entry_range_reversed (F.args_range_reversed_1 _) (yk r 0 (n:Int) 1 t u v (by rw[hf];exact Bool.false_ne_true)) ⟨hr,?_⟩
 rw[hf,if_pos rfl,vf]
 exact h
theorem wK{r:Addr}{n:Nat}{t u v:Tok}{Q₁:Value→Shared→Prop}(hr:IsRange s.heap r 0 (n:Int) 1 t u v)(hn:n<2 ^ 62)(h:Q₁ (.ref s.heap.objs.size) {s with heap:=s.heap.push (js n)}):codeAny (model prog w) A (.call (.builtin "reversed.__new__") ⟨[.type "reversed",.ref r],[]⟩) (wants Q₁ E) s:=by
 have hT:s.TypeIs (.ref r) "range":=⟨_,hr,(rfl:_=_)⟩
 refine codeAny_of_tree ?_
 show wpAny _ A.in1 (checkBuiltinCall "reversed.__new__" ⟨[.type "reversed",.ref r],[]⟩ >>= fun _=>again (.builtin "reversed.__new__" ⟨[.type "reversed",.ref r],[]⟩)) _ _ s
 refine wpAny_bind (wpAny_of_eq (F.newCall_reversed_1 _) (wpAny_pure ⟨plainId_quiet F.plain_reversed_new _,codeAny_builtin F.entry_reversed_new ?_⟩));rw[Around.under_plainId F.plain_reversed_new _];unfold Builtin.«reversed.__new__»
 refine wpAny_bind (wpAny_of_eq (newClass_reversed _) ?_);try dsimp only
 refine wpAny_bind (wpAny_of_eq (a:=()) (by first | rfl | kernel_rfl) (wpAny_bind (wpAny_of_eq (a:=()) (by first | rfl | kernel_rfl) ?_)));try dsimp only
 refine wpAny_bind (wpAny_specialOf hT F.slot_range_reversed.lookup ?_);try dsimp only
 refine wpAny_bind (wpAny_of_eq (F.slot_range_reversed.bind _) ?_);try dsimp only
 first
 | rw[if_neg (show¬((Value.builtin "range.__reversed__" == Value.none)=true) from Bool.false_ne_true)]
 | (show wpAny _ _ (if(Value.builtin "range.__reversed__" == Value.none)=true then _ else _) _ _ _;rw[if_neg (show¬((Value.builtin "range.__reversed__" == Value.none)=true) from Bool.false_ne_true)])
 refine wpAny_bind (wpAny_rule (wpAny_bind (m:=runValue (.call (.builtin "range.__reversed__") ⟨[.ref r],[]⟩)) (show wpAny _ _ (call (.builtin "range.__reversed__") [.ref r]) _ _ _ from At hr hn ?_)))
 first | exact wpAny_pure h | exact wpAny_bind (wpAny_pure (wpAny_pure h))
theorem CZ:isSubtype (.type "range_iterator") (.type "reversed")=pure false:=by rw[isSubtype_type];kernel_rfl
theorem zL{r:Addr}{n:Nat}{t u v:Tok}{Q:Value→Shared→Prop}(hr:IsRange s.heap r 0 (n:Int) 1 t u v)(hn:n<2 ^ 62)(h:Q (.ref s.heap.objs.size) {s with heap:=s.heap.push (js n)}):wpAny (model prog w) A (call (.type "reversed") [.ref r]) Q E s:=by
 refine callType_other (U:="range_iterator") (Q₁:=fun obj s₁=>obj=.ref s.heap.objs.size∧s₁={s with heap:=s.heap.push (js n)}) (by decide+kernel) F.create_reversed ⟨_,_,F.mro_reversed⟩ F.made_reversed CZ (F.typeCall_reversed_1 _) (wK hr hn ⟨rfl,rfl⟩) ?_
 rintro obj s₁ ⟨e1,e2⟩
 subst e1 e2
 exact⟨⟨_,Heap.get?_push_size _ rfl,(rfl:_=_)⟩,h⟩
end
def oR(n:Nat):It:=⟨fun i _=>i<n,fun i H x H'=>H'=H∧x=.int ((n:Int)-1-i),fun i _=>n≤i⟩
theorem zE{P:Program}{w:World}{K:PySem.W.Frag}{tg:Expr}(it:Addr)(n:Nat):Turn P w K tg (oR n) [it] it (fun i h=>IsRangeIter h it ((n:Int)-1+(i:Nat)*(-1)) ((n:Int)-(i:Nat)) (-1)) where
 mem:=by simp
 obj:=fun i h st b hb=>by
  have e:b=it:=by simpa using hb
  subst e
  exact⟨_,st,fun v z=>by
   have z':Data.fields _=Data.cell v:=z
   cases z'⟩
 keep:=fun i h h' st k=>k it (by simp) _ st
 item:=by
  intro X hP hw hK hc i pins s σ H E I hf st hg
  subst hP hw hK
  obtain⟨f0,f1,f2,f3,f4,f5⟩:=hf it (by simp)
  have W:=Walks.range (prog:=X.prog) (w:=X.w) (I.ok.hd hc) it ((n:Int)-1) (-1) n
  refine W.item i s _ _ hg st fun v h' tk hv st' kk=>?_
  obtain⟨t,rfl⟩:=hv
  have I1:Inv X pins σ H {s with heap:=h',toks:=tk}:=I.turned (fun b o hb e=>kk b o (by simpa using hb) e) f0 f1 f3 f4 f5
  refine⟨_,rfl,jr (s:={s with heap:=h',toks:=tk}) (n:="range_iterator") st' rfl rfl (by decide) ⟨.int ((n:Int)-1-i),H,I1,⟨t,?_⟩,⟨rfl,rfl⟩,st',fun b hb=>(hf b hb).1⟩⟩
  congr 1
  lia
 done:=by
  intro X hP hw hK hc i pins s σ H E I hf st hg
  subst hP hw hK
  obtain⟨f0,f1,f2,f3,f4,f5⟩:=hf it (by simp)
  exact wpAny_pyNext_range_end (I.ok.hd hc) st (by have:n≤i:=hg;lia) fun h' eb=>⟨rfl,I.turned (t':=s.toks) (fun b o hb e=>eb b o hb e) f0 f1 f3 f4 f5⟩
 self:=fun _ _ _ _ _ st h=>wpAny_pyIter_rangeiter st h
section
variable{X:Cx}{tg a:Expr}{ta:TA}{p p2 pos pos2:Pos}
def CD(ta:TA):TI:=fun σ H R=>ta σ H fun vs H1=>∃n:Nat,vs=[.int (n:Int)]∧n<2 ^ 62∧R (oR n) H1
theorem CT(hm:X.mg "reversed"=none)(hmr:X.mg "range"=none)(ha:PA X [a] ta)(hg:Gl X "reversed":=by rfl)(hgr:Gl X "range":=by rfl)
 (he:starEach [Expr.Call (.Name "range" p2) [a] [] pos2] X.env=[(false,eval (Expr.Call (.Name "range" p2) [a] [] pos2) X.env)]:=by rfl)(hs:starEach [a] X.env=[(false,eval a X.env)]:=by rfl):
 PI X tg (.Call (.Name "reversed" p) [.Call (.Name "range" p2) [a] [] pos2] [] pos) (CD ta):=by
 intro pins s σ H R I h
 refine Call_ (dE I hg hm sO (PyProof.Rows.callWith_type1 ?_ he rfl))
 rw[he]
 show wpAny _ _ (spliced ((false,eval (Expr.Call (.Name "range" p2) [a] [] pos2) X.env)::backTo pos [])) _ _ s
 refine Calls.spliced_cons ?_
 refine Call_ (dE I hgr hmr boot_range (PyProof.Rows.callWith_type1 (am (ha pos2 pins s σ H _ I h) fun us s1 ⟨vs,H1,I1,r1,q1⟩=>?_) hs rfl))
 obtain⟨n,e,hn,q⟩:=q1
 subst e
 cases r1 with
 | cons r rr=>
   cases rr
   obtain⟨t,rfl⟩:=r
   refine call_range_1 ?_
   refine Calls.spliced_nil ?_
   refine zL (IsRange.new ..) hn ?_
   have st:IsRangeIter ((s1.heap.push {cls:=.type "range",data:=.fields #[.int 0 s1.toks,.int (n:Int) t,.int 1 (s1.toks+1)]}).push (js n)) (s1.heap.push {cls:=.type "range",data:=.fields #[.int 0 s1.toks,.int (n:Int) t,.int 1 (s1.toks+1)]}).objs.size ((n:Int)-1+((0:Nat):Int)*(-1)) ((n:Int)-((0:Nat):Int)) (-1):=by
    have e1:(n:Int)-1+((0:Nat):Int)*(-1)=0+((n:Int)-1)*1:=by lia
    have e2:(n:Int)-((0:Nat):Int)=(n:Int):=by lia
    rw[e1,e2]
    exact Heap.get?_push_size _ (rfl:_=_)
   refine wpAny_pyIter_rangeiter st ?_
   have I2:Inv X pins σ H1 {s1 with heap:=s1.heap.push {cls:=.type "range",data:=.fields #[.int 0 s1.toks,.int (n:Int) t,.int 1 (s1.toks+1)]},toks:=s1.toks+1+1}:=I1.kept fun b o e=>Heap.get?_push_of_some _ e
   refine⟨_,[(s1.heap.push {cls:=.type "range",data:=.fields #[.int 0 s1.toks,.int (n:Int) t,.int 1 (s1.toks+1)]}).objs.size],_,_,H1,rfl,I2.kept (t':=s1.toks+1+1) fun b o e=>Heap.get?_push_of_some _ e,zE _ n,st,fun b hb=>?_,q⟩
   have e:b=(s1.heap.push {cls:=.type "range",data:=.fields #[.int 0 s1.toks,.int (n:Int) t,.int 1 (s1.toks+1)]}).objs.size:=by simpa using hb
   subst e
   exact I2.fpOk (Nat.le_refl _) (I2.hok.fresh (Nat.le_refl _))
end
theorem zO{n:Nat}{g:TG}{tb:TS}{D:Ends}{σ:St}{H:Hp}(Pv:Nat→St→Hp→Prop)(h0:Pv 0 σ H)(hs:∀(D2:Ends) i σ H,(∀σ' H',Pv (i+1) σ' H'→D2.nx σ' H')→i<n→Pv i σ H→g (.int ((n:Int)-1-i)) σ H fun σ2 H2=>tb D2 σ2 H2)(hd:∀σ H,Pv n σ H→D.nx σ H):FW (oR n) g tb D σ H:=by
 refine⟨fun i m σ H=>m=n-i∧i≤n∧Pv i σ H,⟨n,by simp,Nat.zero_le _,h0⟩,?_⟩
 rintro i m σ H ⟨rfl,hi,p⟩
 by_cases hlt:i<n
 ·refine .inr ⟨hlt,fun σ' H'=>∃m',m'<n-i∧m'=n-(i+1)∧i+1≤n∧Pv (i+1) σ' H',fun σ' H' h=>h,fun x H' y=>?_⟩
  obtain⟨e,ex⟩:=y
  subst e ex
  exact hs _ i σ _ (fun σ' H' h=>⟨n-(i+1),by lia,rfl,hlt,h⟩) hlt p
 ·have e:i=n:=by lia
  subst e
  exact .inl ⟨Nat.le_refl _,hd σ H p⟩
theorem Ax{X:Cx}{k:Nat}(hr:Room k X.A):OpR X (compareOp .In) (fun y x H Q=>∃a o,x=.ref a∧DGet H a y o∧Q (.bl o.isSome) H):=by
 intro pins s σ H y x v u Q I ry rx h
 obtain⟨a,o,e,g,q⟩:=h
 subst e
 obtain rfl:u=Value.ref a:=rx
 exact Do (cI hr) I g ry fun s3 I3=>⟨.bl o.isSome,H,I3,rfl,q⟩
theorem tF{X:Cx}{k:Nat}(hr:Room k X.A):OpR X (compareOp .NotIn) (fun y x H Q=>∃a o,x=.ref a∧DGet H a y o∧Q (.bl (!o.isSome)) H):=by
 intro pins s σ H y x v u Q I ry rx h
 obtain⟨a,o,e,g,q⟩:=h
 subst e
 obtain rfl:u=Value.ref a:=rx
 exact x4 (cI hr) I g ry fun s3 I3=>⟨.bl (!o.isSome),H,I3,rfl,q⟩
section
variable{prog:Program}{w:World}{A:Around}{E:Value→Shared→Prop}{s:Shared}
end
section
variable{prog:Program}{w:World}{A:Around}{E:Value→Shared→Prop}{s:Shared}
end
structure RoomH(k:Nat)(A:Around):Prop where
 dp:A.depth+3*k+5<recursionLimit
 un:A.units+16*k+200<cLine
theorem vt{k:Nat}{A:Around}{v:Option Value}(r:Room k A):RoomH k (A.mark v):=⟨r.dp,r.un⟩
structure FnHOk(P:Program)(w:World)(K:PySem.W.Frag)(mg:Str→Option Value)(base:Heap)(k:Nat)(f:Addr)(fd:FuncData)(ps:List Str)(sp:Sp):Prop where
 len:∀vs H Q E,sp vs H Q E→vs.length=ps.length
 run:∀(A:Around) (outer:List Env) (s:Shared) (H:Hp) (args:Args) (us:List Value) (vs:List V) (Q:VK),RoomH k A→Env0 P w K mg base A outer s H→BindsTo s fd args (ps.zip us)→Vals vs us→sp vs H Q E0→
  codeAny (model P w) A (.call (.ref f) args) (CR ae outer P w H s Q E0) s
structure FnH(P:Program)(w:World)(K:PySem.W.Frag)(mg:Str→Option Value)(base:Heap)(x:Str)(k:Nat)(ps:List Str)(sp:Sp):Prop where
 ex:∃f fd,FnHOk P w K mg base k f fd ps sp∧mg x=some (.ref f)∧PySem.W.keepIn K (.ref f)=true∧Binds K fd ps []
theorem qc{X:Cx}{k j:Nat}{ps:List Str}{sp:Sp}{x:Str}{p pos:Pos}{e:Expr}{es:List Expr}{t:TA}(F:FnH X.prog X.w X.K X.mg X.base x k ps sp)(hr:RoomH j X.A)(ha:PA X (e::es) t)(hg:Gl X x:=by rfl)(hj:k≤j:=by decide)
 (hdb:(x == ("__debug__":Str))=false:=by decide)(he:starEach (e::es) X.env=(false,eval e X.env)::starEach es X.env:=by rfl)(hpl:(backTo pos (starEach es X.env)).any (·.1)=false:=by rfl):
 PE X (.Call (.Name x p) (e::es) [] pos) (gU sp [] E0 t):=by
 obtain⟨f,fd,F,hm,hk,hb⟩:=F.ex
 have hr:RoomH k X.A:=⟨by have:=hr.dp;lia,by have:=hr.un;lia⟩
 intro pins s σ H Q I h
 refine wpAny_Call_Name_kw (gp I hg hm ?_ hdb)
 refine PySem.W.callWith_K (h₀:=X.base) I.ok.mod.kin hk (am (ha pos pins s σ H _ I h) fun us s1 ⟨vs,H1,I1,r,q⟩=>⟨I1.kIn,?_⟩) he hpl
 have r2:Vals (vs++[]) (us++[]):=r.append .nil
 have hl:(us++[]).length=ps.length:=by rw[←r2.length];exact F.len _ _ _ _ q
 refine wpAny_call (codeAny_mono (F.run X.A X.stack s1 H1 ⟨us,[]⟩ (us++[]) (vs++[]) Q hr I1.env0 (hb s1 us I1.kIn hl) r2 q) fun r s' hq=>?_)
 cases r with
 | error e=>exact False.elim hq
 | ok fl=>
   cases fl with
   | ret u=>exact I1.after hq
   | next=>exact False.elim hq
   | brk=>exact False.elim hq
   | cont=>exact False.elim hq
abbrev nU(P:Program)(w:World)(K:PySem.W.Frag)(mg:Str→Option Value)(base:Heap)(N:List Str)(qual:Str)(scope:Scope)(f:Addr)(cd:Value)(A:Around)(outer:List Env)(s:Shared)(H:Hp):Cx:=
 {bW ae P w K mg base N qual scope f cd A outer s H E0 with calm:=false,xe:=fun _ _=>False}
theorem xQ{P:Program}{w:World}{K:PySem.W.Frag}{mg:Str→Option Value}{base:Heap}{x:Str}{st:Stmt}{N ps:List Str}{k:Nat}{sp:Sp}(M:Md K mg)(F:FF K x st)(S:FnScope N ps (al st))(hbind:∀(kV doc pm:Value) (an:Option Addr) (cdv ct:Value) (us:List Value),us.length=ps.length→bindArgs (PySem.W.fnOf x x (cf st) (bG st) (al st) .none kV doc pm an cdv ct) ⟨us,[]⟩=pure (ps.zip us))(len:∀vs H Q E,sp vs H Q E→vs.length=ps.length)(hbody:∀(f:Addr) (cdv:Value) (A:Around) (outer:List Env) (s:Shared) (H:Hp) (vs:List V) (Q:VK),RoomH k (A.deeper (envOfC x (al st) s.heap.objs.size f cdv))→sp vs H Q E0→∃t,PSs (nU P w K mg base N x (al st) f cdv A outer s H) (bG st) t∧t {nx:=fun _ H'=>Q .non H',rt:=Q} (ck N vs) H):FnH P w K mg base x (k+1) ps sp:=by
 obtain⟨f,oc,od,an,osl,kV,doc,pm,cdv,ct,a,l,c,kk⟩:=F.ex
 have F1:=ir (st:=st) l c kk
 refine⟨f,_,⟨len,fun A outer s H args us vs Q hr e0 hb r hsp=>?_⟩,M.ns _ _ a,kk,F1.binds hbind⟩
 have hl:=len _ _ _ _ hsp
 have KX:K.In s.heap:=e0.mod.kin.keeps fun b o e=>(e0.bs b o e).1
 have lim:s.heap.NoLimit:=e0.mod.nolimit.keeps fun b o e=>(e0.bs b o e).1
 have hkind:∀y∈ps.zip us,(al st).names.lookup y.1=some .local∨((al st).names.lookup y.1=some .cell∧((cellsFrom (s.heap.objs.size+1) (al st).names []).lookup y.1).isSome=true):=fun⟨n,v⟩ hy=>by
  rcases S.par n (List.of_mem_zip hy).1 with q | q
  ·exact .inl q
  ·exact .inr ⟨q,PySem.W.cellsFrom_some _ _ _ (.inl q)⟩
 refine codeAny_call_function (show A.depth<recursionLimit by have:=hr.dp;lia) (KX _ _ l) rfl S.co S.gen rfl (PySem.W.codeRec_of KX c) (hb _ _ _ _ ?_)
 refine wpAny_newFunctionEnv_cells S.kind hkind fun env he s1 x'=>?_
 subst he
 refine⟨lim.keeps x'.toInCall.keep,codeAny_func ?_⟩
 have hr':RoomH k (A.deeper (envOfC x (al st) s.heap.objs.size f cdv)):=⟨by have:=hr.dp;show A.depth+1+3*k+5<_;lia,by have:=hr.un;show A.units+3+16*k+200<_;lia⟩
 obtain⟨t,ht,hq⟩:=hbody f cdv A outer s H vs Q hr' hsp
 have e1:Env0 P w K mg base ({A with handled:=none}:Around) outer s H:=⟨e0.frames,e0.mod,e0.bs,e0.bsz,e0.funs,e0.frf,e0.hok,e0.bare⟩
 have I0:Inv (bW ae P w K mg base N x (al st) f cdv ({A with handled:=none}:Around) outer s H E0) [] (ck N vs) H s1:=qO S rfl e1 hl r x'
 have I:Inv (nU P w K mg base N x (al st) f cdv A outer s H) [] (ck N vs) H s1:=
  ⟨⟨I0.ok.mod,I0.ok.kind,I0.ok.glob,I0.ok.blt,I0.ok.above,I0.ok.inj,I0.ok.has,I0.ok.cab,(fun q=>by cases q),Around.frames_deeper e0.frames,I0.ok.stk,I0.ok.exf,I0.ok.bs,I0.ok.bsz,I0.ok.noex,I0.ok.exfs,I0.ok.funs,I0.ok.frf⟩,I0.os,I0.bare,I0.base,I0.loc,I0.cell,I0.free,I0.freeC,I0.pin,I0.hok,I0.len⟩
 refine wpAny_mono (ht [] s1 (ck N vs) H _ I hq) (fun fl s' hs=>?_) fun e s' hs=>False.elim hs
 have fin:∀{σ':St} {H':Hp} {v:V} {u:Value},Inv (nU P w K mg base N x (al st) f cdv A outer s H) [] σ' H' s'→RelV v u→Q v H'→CE outer P w H s Q u s':=fun{σ' H' v u} J rv q=>⟨v,H',J.os,J.bare,J.base,J.hok,rv,q⟩
 cases fl with
 | ret u=>obtain⟨v,σ',H',J,rv,q⟩:=hs;exact fin J rv q
 | next=>obtain⟨σ',H',J,q⟩:=hs;exact fin (v:=V.non) (u:=Value.none) J rfl q
 | brk=>obtain⟨_,_,_,q⟩:=hs;exact False.elim q
 | cont=>obtain⟨_,_,_,q⟩:=hs;exact False.elim q
theorem zj:bootBuiltins "all"=some (.builtin "all"):=by decide+kernel
theorem vU(bs:List Bool):((List.range bs.length).all fun i=>(bs[i]?).getD false)=bs.all id:=by
 rw[Bool.eq_iff_iff,List.all_eq_true,List.all_eq_true]
 constructor
 ·intro h b hb
  obtain⟨i,hi,e⟩:=List.getElem_of_mem hb
  have:=h i (by simpa using hi)
  rw[List.getElem?_eq_getElem hi,e] at this
  exact this
 ·intro h i hi
  have hi':i<bs.length:=by simpa using hi
  rw[List.getElem?_eq_getElem hi']
  exact h _ (List.getElem_mem hi')
section
variable{X:Cx}{e:Expr}{te:TE}{p pos:Pos}
def AD(te:TE):TE:=fun σ H Q=>te σ H fun x H1=>∃(l:Addr) (bs:List Bool),x=.ref l∧H1 l=some (.lst (bs.map V.bl))∧Q (.bl (bs.all id)) H1
theorem va(hc:X.calm=true)(hm:X.mg "all"=none)(ha:PE X e te)(hg:Gl X "all":=by rfl)(he:starEach [e] X.env=[(false,eval e X.env)]:=by rfl):PE X (.Call (.Name "all" p) [e] [] pos) (AD te):=
 ez (r:=r1 fun x H Q=>∃(l:Addr) (bs:List Bool),x=.ref l∧H l=some (.lst (bs.map V.bl))∧Q (.bl (bs.all id)) H)
  (eD fun pins s σ H x us Q I rv ⟨l,bs,ex,hH,q⟩=>by
   subst ex
   obtain⟨u,rfl,ru⟩:=rv.one
   cases ru
   obtain⟨z,its,n,r,hl,e1⟩:=I.lstM hH
   obtain rfl:=xh r
   have hL:s.heap.IsList l (bs.map Value.bool).toArray:=⟨_,e1,rfl,n,rfl⟩
   have llt:l<s.heap.objs.size:=Heap.lt_size e1
   refine call_all_walk (wpAny_pyIter_list hL ?_)
   refine⟨s.heap.objs.size,[s.heap.objs.size,l],[s.heap.objs.size],(bs.map Value.bool).toArray.size,_,_,fun i=>(bs[i]?).getD false,rfl,Walks.list (by first | exact I.ok.hd hc | (show X.A.in1.handled=none;exact I.ok.hd hc)) s.heap.objs.size l (Nat.ne_of_lt llt) (bs.map Value.bool).toArray,⟨⟨_,Heap.get?_push_size _ rfl,rfl,rfl⟩,hL.push _⟩,fun i v s' Q' E' hP hQ=>?_,fun h' tk hk=>?_⟩
   ·have hP':(bs.map Value.bool)[i]?=some v:=by simpa using hP
    rw[List.getElem?_map] at hP'
    cases e:bs[i]? with
    | none=>rw[e] at hP';cases hP'
    | some b=>
      rw[e] at hP'
      obtain rfl:Value.bool b=v:=Option.some.inj hP'
      simp only[e,Option.getD_some] at hQ
      exact wpAny_truthy_bool hQ
   ·have e:((List.range (bs.map Value.bool).toArray.size).all fun i=>(bs[i]?).getD false)=bs.all id:=by
     rw[List.size_toArray,List.length_map];exact vU bs
    rw[e]
    exact⟨.bl (bs.all id),H,I.kept (h':=h') (t':=tk) fun b o e=>hk b o (by simp;exact Nat.ne_of_lt (Heap.lt_size e)) (Heap.get?_push_of_some _ e),rfl,q⟩) hg hm zj (aa ha ac (by exact he)) (he:=by exact he)
end
section
variable{X:Cx}
end
section
variable{X:Cx}{a b c:Expr}{ta:TA}{p p2 pos pos2:Pos}
end
section
variable{prog:Program}{w:World}{A:Around}{E:Value→Shared→Prop}{s:Shared}
end
section
variable{prog:Program}{w:World}{κ:Type}[DecidableEq κ]{knd:KeyKind prog w κ}{A:Around}{E:Value→Shared→Prop}{s:Shared}
end
section
variable{X:Cx}{pins:List (Addr×Obj)}{σ:St}{H:Hp}{s:Shared}
end
section
variable{X:Cx}{e:Expr}{te:TE}{p pos:Pos}
end
section
variable{X:Cx}{e:Expr}{te:TE}{p pos:Pos}
end
section
variable{prog:Program}{w:World}{A:Around}{E:Value→Shared→Prop}{s:Shared}{a₀:Array Keyed}
end
section
variable{prog:Program}{w:World}{κ:Type}[DecidableEq κ]{knd:KeyKind prog w κ}{A:Around}{E:Value→Shared→Prop}{s:Shared}
end
theorem AR:bootBuiltins "sorted"=some (.builtin "sorted"):=by decide+kernel
section
variable{X:Cx}{e:Expr}{te:TE}{p pos:Pos}
end
section
variable{prog:Program}{w:World}{A:Around}{E:Value→Shared→Prop}{s:Shared}
end
section
open SeqAt MeetsSeq MeetsSeq2 MeetsSeq3 SeqRoads2
open AutoSeq1 (wpAny_loadPart')
def ba(t:List Nat):List Int:=t.map fun(c:Nat)=>(c:Int)
def fK(xs:List Nat)(items:Array Value):Prop:=items.size=xs.length∧∀(j:Nat) (h:j<items.size),∃(x:Nat) (t:Tok),xs[j]?=some x∧items[j]=.str (aI x) t
theorem LtAt.signs{A:Around}{s:Shared}{c d:Nat}{t u:Tok}:LtAt A s (.str (aI c) t) (.str (aI d) u) (decide ((c:Int)<(d:Int))):=fun prog w E Q h=>by
 have e:decide ((aI c).cps.toList<(aI d).cps.toList)=decide ((c:Int)<(d:Int)):=by
  apply decide_eq_decide.mpr
  show [c] < [d]↔_
  rw[List.cons_lt_cons_iff]
  simp
 rw[←e] at h
 exact richCompare_gives (op:=.Lt) (typeIs_str s _ t) (typeIs_str s _ u) F.slot_str_lt F.entry_str_lt (F.args_str_lt_2 _ _) (gives_str_lt _ _ t u) (fun x=>nomatch x) h
theorem C7{A:Around}{s:Shared}{c d:Nat}{t u:Tok}:EqAt A s (.str (aI c) t) (.str (aI d) u) (decide ((c:Int)=(d:Int))):=by
 have:=lW (A:=A) (s:=s) (y:=sg c) (x:=sg d) (u:=.str (aI c) t) (v:=.str (aI d) u) ⟨t,rfl⟩ ⟨u,rfl⟩ rfl rfl
 have e:eP (sg c) (sg d)=decide ((c:Int)=(d:Int)):=by
  show(aI c == aI d)=_
  by_cases h:c=d
  ·subst h;simp
  ·rw[decide_eq_false (by lia)]
   refine beq_eq_false_iff_ne.mpr fun q=>h ?_
   have:=congrArg (fun z:Str=>z.cps) q
   simpa using this
 rw[e] at this
 exact this
theorem BA{l b:Addr}{items items2:Array Value}{n n2:Nat}{dd dd2:Option Addr}{sl sl2:Array (Option Value)}{xs ys:List Nat}(N1:fK xs items)(N2:fK ys items2)(k:Nat):∀i:Nat,items.size-i=k→i≤items.size→i≤items2.size→Meets (Builtin.«list.__eq__.loop» ⟨[.ref l,.ref b,rawInt i,rawInt 0],[]⟩) (fun A R s=>s.heap.get? l=some {cls:=.type "list",dict:=dd,data:=.seq items n,slots:=sl}∧s.heap.get? b=some {cls:=.type "list",dict:=dd2,data:=.seq items2 n2,slots:=sl2}∧R (.ok (.ret (.bool (aF ((ba xs).drop i) ((ba ys).drop i))))) s):=by
 have L1:(ba xs).length=xs.length:=List.length_map ..
 have L2:(ba ys).length=ys.length:=List.length_map ..
 have gt:∀(zs:List Nat) (i x:Nat),zs[i]?=some x→(ba zs)[i]?=some (x:Int):=fun zs i x h=>by unfold ba;rw[List.getElem?_map,h];rfl
 induction k with
 | zero=>
   intro i hk hle hle2 prog w A R s h
   obtain⟨hp,g,d,tk,os⟩:=s;obtain⟨hl,hb,h⟩:=h
   wp_walk using wpAny_loadPart' hl,wpAny_loadPart' hb
   have none1:items[((i:Nat):Int).toNat]?=none:=by simp;lia
   have e1:(ba xs).drop i=[]:=List.drop_eq_nil_of_le (by rw[L1,←N1.1];lia)
   rw[e1,rf,List.length_drop,L2,←N2.1] at h
   rw[none1]
   wp_walk using wpAny_loadPart' hl,wpAny_loadPart' hb
   have e2:decide (items.size<items2.size)=decide (0<items2.size-i):=decide_eq_decide.mpr (by lia)
   show R (.ok (.ret (.bool (decide (items.size<items2.size))))) _
   rw[e2]
   exact h
 | succ k ih=>
   intro i hk hle hle2 prog w A R s h
   obtain⟨hp,g,d,tk,os⟩:=s;obtain⟨hl,hb,h⟩:=h
   have lt1:i<items.size:=by lia
   by_cases g9:i<items2.size
   ·obtain⟨x,t,hx',ex⟩:=N1.2 i lt1
    obtain⟨y,u,hy',ey⟩:=N2.2 i g9
    have hx:=gt _ _ _ hx'
    have hy:=gt _ _ _ hy'
    have dx:(ba xs).drop i=(x:Int)::(ba xs).drop (i+1):=by
     obtain⟨q1,q2⟩:=List.getElem?_eq_some_iff.mp hx
     rw[List.drop_eq_getElem_cons q1,q2]
    have dy:(ba ys).drop i=(y:Int)::(ba ys).drop (i+1):=by
     obtain⟨q1,q2⟩:=List.getElem?_eq_some_iff.mp hy
     rw[List.drop_eq_getElem_cons q1,q2]
    wp_walk using wpAny_loadPart' hl,wpAny_loadPart' hb
    have at1:items[((i:Nat):Int).toNat]?=some (.str (aI x) t):=by simp[lt1,ex]
    have at2:items2[((i:Nat):Int).toNat]?=some (.str (aI y) u):=by simp[g9,ey]
    have hc:((i:Int)+1)=((i+1:Nat):Int):=by push_cast;rfl
    rw[dx,dy] at h
    simp only[aF] at h
    rw[at1,at2]
    refine wpAny_bind (C7 prog w _ _ ?_)
    by_cases exy:(x:Int)=y
    ·rw[if_pos exy] at h
     rw[decide_eq_true exy]
     wp_walk
     rw[hc]
     exact⟨plainId_quiet plain_eq_loop _,codeAny_builtin entry_eq_loop (by
      rw[Around.under_plainId plain_eq_loop _]
      exact ih (i+1) (by lia) (by lia) (by lia) prog w A R _ ⟨hl,hb,h⟩)⟩
    ·rw[if_neg exy] at h
     rw[decide_eq_false exy]
     wp_walk using wpAny_loadPart' hl,wpAny_loadPart' hb
     rw[at1,at2]
     refine wpAny_bind (LtAt.signs prog w _ _ ?_)
     wp_walk
     exact h
   ·wp_walk using wpAny_loadPart' hl,wpAny_loadPart' hb
    obtain⟨x,t,hx,ex⟩:=N1.2 i lt1
    have at1:items[((i:Nat):Int).toNat]?=some (.str (aI x) t):=by simp[lt1,ex]
    have none2:items2[((i:Nat):Int).toNat]?=none:=by simp;lia
    have e1:(ba ys).drop i=[]:=List.drop_eq_nil_of_le (by rw[L2,←N2.1];lia)
    rw[e1,qE] at h
    rw[at1,none2]
    wp_walk using wpAny_loadPart' hl,wpAny_loadPart' hb
    have e2:decide (items.size<items2.size)=false:=decide_eq_false (by lia)
    show R (.ok (.ret (.bool (decide (items.size<items2.size))))) _
    rw[e2]
    exact h
theorem EB{l b:Addr}{items items2:Array Value}{n n2:Nat}{dd dd2:Option Addr}{sl sl2:Array (Option Value)}{xs ys:List Nat}(N1:fK xs items)(N2:fK ys items2):Meets (Builtin.«list.__lt__» ⟨[.ref l,.ref b],[]⟩) (fun A R s=>s.heap.get? l=some {cls:=.type "list",dict:=dd,data:=.seq items n,slots:=sl}∧s.heap.get? b=some {cls:=.type "list",dict:=dd2,data:=.seq items2 n2,slots:=sl2}∧R (.ok (.ret (.bool (aF (ba xs) (ba ys))))) s):=by
 intro prog w A R s h
 obtain⟨hp,g,d,tk,os⟩:=s;obtain⟨hl,hb,h⟩:=h
 have sub:=AutoSeq1.sub_list_list
 wp_walk using wpAny_loadPart' hl,wpAny_loadPart' hb
 exact⟨plainId_quiet plain_eq_loop _,codeAny_builtin entry_eq_loop (by
  rw[Around.under_plainId plain_eq_loop _]
  exact BA N1 N2 _ 0 rfl (Nat.zero_le _) (Nat.zero_le _) prog w A R _ ⟨hl,hb,by simpa using h⟩)⟩
theorem B3{xs:List Nat}{its:List Value}(r:Vals (xs.map sg) its):fK xs its.toArray:=by
 have hl:=r.length
 rw[List.length_map] at hl
 refine⟨by rw[List.size_toArray];lia,fun j h=>?_⟩
 have hj:j<xs.length:=by rw[List.size_toArray] at h;lia
 obtain⟨u,hu,ru⟩:=r.get (show(xs.map sg)[j]?=some (sg xs[j]) by simp[hj])
 obtain⟨t,rfl⟩:=ru
 refine⟨xs[j],t,List.getElem?_eq_getElem hj,?_⟩
 have h2:=(List.getElem?_eq_some_iff.mp hu).2
 simpa using h2
end
abbrev K2:=Int×List Nat
def g9(x y:K2):Bool:=zN x.1 y.1 (ba x.2) (ba y.2)
def Dm(H:Hp)(c:Addr)(k:K2):Prop:=(∀x∈k.2,x<0x110000)∧∃g:Addr,H c=some (.tup [.int k.1,.ref g])∧H g=some (.lst (k.2.map sg))
structure Pairs2(H:Hp)(cs:List Addr)(ks:List K2):Prop where
 len:cs.length=ks.length
 at_:∀(i:Nat) (c:Addr) (k:K2),cs[i]?=some c→ks[i]?=some k→Dm H c k
section
variable{X:Cx}{e d:Expr}{te td:TE}{p pos kp:Pos}{k:Nat}
end
section
variable{X:Cx}{tg a b c:Expr}{ta:TA}{p pos:Pos}
end
section
variable{X:Cx}{a:Expr}{ta:TA}{p p2 pos pos2:Pos}
end
end L2
namespace L2
open PySem PySem.Spec PyProof.Rows PySem.W
section
variable{prog:Program}{w:World}{A:Around}{E:Value→Shared→Prop}{s:Shared}
end
section
variable{X:Cx}{e:Expr}{te:TE}{p pos:Pos}
end
structure Ordr(κ:Type) where
 lt:κ→κ→Bool
 irr:∀a,lt a a=false
 tr:∀a b c,lt a b=true→lt b c=true→lt a c=true
 neg:∀a b c,lt a c=true→lt a b=true∨lt b c=true
namespace Ordr
variable{κ:Type}(O:Ordr κ)
def le(a b:κ):Prop:=O.lt b a=false
variable{O}
theorem le_refl(a:κ):O.le a a:=O.irr a
theorem le_of_lt{a b:κ}(h:O.lt a b=true):O.le a b:=by
 cases z:O.lt b a with
 | false=>exact z
 | true=>have:=O.tr _ _ _ h z;rw[O.irr] at this;cases this
theorem le_trans{a b c:κ}(h1:O.le a b)(h2:O.le b c):O.le a c:=by
 cases z:O.lt c a with
 | false=>exact z
 | true=>
   rcases O.neg _ b _ z with y | y
   ·rw[show O.lt c b=false from h2] at y;cases y
   ·rw[show O.lt b a=false from h1] at y;cases y
theorem lt_le{a b c:κ}(h1:O.lt a b=true)(h2:O.le b c):O.lt a c=true:=by
 rcases O.neg _ c _ h1 with y | y
 ·exact y
 ·rw[show O.lt c b=false from h2] at y;cases y
theorem le_lt{a b c:κ}(h1:O.le a b)(h2:O.lt b c=true):O.lt a c=true:=by
 rcases O.neg _ a _ h2 with y | y
 ·rw[show O.lt b a=false from h1] at y;cases y
 ·exact y
theorem le_not{a b:κ}(h:¬O.lt a b=true):O.le b a:=by
 cases z:O.lt a b with
 | false=>exact z
 | true=>exact absurd z h
end Ordr
section
variable{κ:Type}(O:Ordr κ)(key:Keyed→κ)
def kk(a:Array Keyed)(i:Nat):κ:=key ((a[i]?).getD (.none,.none))
theorem cE{a b:Array Keyed}{i j:Nat}(h:a[i]?=b[j]?):kk key a i=kk key b j:=by unfold kk;rw[h]
def Rise(a:Array Keyed)(lo hi:Nat):Prop:=∀i j,lo≤i→i≤j→j<hi→O.le (kk key a i) (kk key a j)
def OnlyA(a b:Array Keyed)(lo hi:Nat):Prop:=∀i,i<lo∨hi≤i→b[i]?=a[i]?
structure Bas(a₀:Array Keyed)(kd:SortKind)(st:SortSt):Prop where
 perm:(arrOf st).Perm a₀
 kind:kindOf st=kd
 failed:failedOf st=none
theorem OnlyA.refl(a:Array Keyed)(lo hi:Nat):OnlyA a a lo hi:=fun _ _=>rfl
theorem OnlyA.trans{a b c:Array Keyed}{lo hi:Nat}(h:OnlyA a b lo hi)(g:OnlyA b c lo hi):OnlyA a c lo hi:=fun i hi=>(g i hi).trans (h i hi)
theorem OnlyA.wide{a b:Array Keyed}{lo hi lo' hi':Nat}(h:OnlyA a b lo hi)(h1:lo'≤lo)(h2:hi≤hi'):OnlyA a b lo' hi':=fun i z=>h i (by lia)
theorem Rise.keep{O:Ordr κ}{key:Keyed→κ}{a b:Array Keyed}{lo hi l r:Nat}(h:Rise O key a l r)(g:OnlyA a b lo hi)(d:r≤lo∨hi≤l):Rise O key b l r:=fun i j h1 h2 h3=>by
 rw[cE key (g i (by lia)),cE key (g j (by lia))]
 exact h i j h1 h2 h3
theorem sj{O:Ordr κ}{key:Keyed→κ}{a:Array Keyed}{lo hi:Nat}(h:∀i,lo≤i→i+1<hi→O.le (kk key a i) (kk key a (i+1))):Rise O key a lo hi:=by
 intro i j h1 h2 h3
 induction j with
 | zero => have:i=0:=by lia
           subst this;exact Ordr.le_refl _
 | succ j ih=>
   by_cases e:i=j+1
   ·subst e;exact Ordr.le_refl _
   ·exact Ordr.le_trans (ih (by lia) (by lia)) (h j (by lia) (by lia))
variable{prog:Program}{w:World}{A:Around}{E:Value→Shared→Prop}{s:Shared}{a₀:Array Keyed}{kd:SortKind}
def eA(prog:Program)(w:World)(A:Around)(E:Value→Shared→Prop)(s:Shared)(a₀:Array Keyed)(kd:SortKind):Prop:=∀x y,x∈a₀→y∈a₀→∀(st:SortSt) (Q:Option Bool→SortSt→Prop),kindOf st=kd→Q (some (O.lt (key x) (key y))) st→wpS (model prog w) A E s (lt' x y) Q st
variable{O key}
theorem Bas.size{st:SortSt}(h:Bas a₀ kd st):(arrOf st).size=a₀.size:=h.perm.size_eq
theorem Bas.at{st:SortSt}(h:Bas a₀ kd st){i:Nat}(hi:i<a₀.size):∃x,(arrOf st)[i]?=some x∧x∈a₀:=by
 have hl:i<(arrOf st).size:=by rw[h.size];exact hi
 refine⟨(arrOf st)[i],by simp[hl],?_⟩
 exact h.perm.mem_iff.mp (Array.getElem_mem hl)
theorem Bas.set{st:SortSt}(h:Bas a₀ kd st){xs:Array Keyed}(hp:xs.Perm (arrOf st)):Bas a₀ kd (setArr st xs):=⟨hp.trans h.perm,h.kind,h.failed⟩
theorem io(C:eA O key prog w A E s a₀ kd){st:SortSt}{i j:Nat}{Q:Option Bool→SortSt→Prop}(hB:Bas a₀ kd st)(hi:i<a₀.size)(hj:j<a₀.size)(h:Q (some (O.lt (kk key (arrOf st) i) (kk key (arrOf st) j))) st):wpS (model prog w) A E s (ltAt' i j) Q st:=by
 obtain⟨x,e1,m1⟩:=hB.at hi
 obtain⟨y,e2,m2⟩:=hB.at hj
 rw[ltAt'_eq]
 refine wpS_bind (wpS_get ?_)
 show wpS _ _ _ _ (do let x←elem' (arrOf st) i;let y←elem' (arrOf st) j;lt' x y) Q st
 rw[elem'_eq,elem'_eq,e1,e2]
 refine wpS_bind (wpS_pure (wpS_bind (wpS_pure (C x y m1 m2 st Q hB.kind ?_))))
 unfold kk at h
 rw[e1,e2] at h
 exact h
theorem Cw(C:eA O key prog w A E s a₀ kd){st:SortSt}{lo n ok:Nat}{Q:Bool→SortSt→Prop}(hB:Bas a₀ kd st)(hn:lo+n≤a₀.size)(hok:ok≤n)(hs:Rise O key (arrOf st) lo (lo+ok))(h:∀st',Bas a₀ kd st'→pendingOf st'=pendingOf st→OnlyA (arrOf st) (arrOf st') lo (lo+n)→Rise O key (arrOf st') lo (lo+n)→Q true st'):wpS (model prog w) A E s (binarySort' lo n ok) Q st:=by
 rw[binarySort'_eq]
 refine wpS_bind (wpS_mono (wpS_forRange (I:=fun k c st'=>c=(none,())∧Bas a₀ kd st'∧pendingOf st'=pendingOf st∧OnlyA (arrOf st) (arrOf st') lo (lo+n)∧Rise O key (arrOf st') lo (lo+k)) (Q:=fun c st'=>c=(none,())∧Bas a₀ kd st'∧pendingOf st'=pendingOf st∧OnlyA (arrOf st) (arrOf st') lo (lo+n)∧Rise O key (arrOf st') lo (lo+max (max ok 1) n)) ?one ?last ?init) ?behind)
 case init=>
  refine⟨rfl,hB,rfl,OnlyA.refl _ _ _,fun i j h1 h2 h3=>?_⟩
  by_cases e:ok=0
  ·have:i=j:=by lia
   subst this;exact Ordr.le_refl _
  ·exact hs i j h1 h2 (by lia)
 case last=>exact fun c st' z=>z
 case behind=>
  rintro c st' ⟨rfl,hB',hp,ho,hr⟩
  refine wpS_pure (h st' hB' hp ho fun i j h1 h2 h3=>hr i j h1 h2 (by lia))
 case one=>
  rintro k c st' hk1 hk2 ⟨rfl,hB',hp,ho,hr⟩
  dsimp only
  refine wpS_bind (wpS_mono (wpS_forRange (I:=fun x c z=>z=st'∧∃l r,c=(none,l,r)∧l≤r∧r≤k∧(r-l)+x≤k∧(∀i,i<l→O.le (kk key (arrOf st') (lo+i)) (kk key (arrOf st') (lo+k)))∧(∀i,r≤i→i<k→O.lt (kk key (arrOf st') (lo+k)) (kk key (arrOf st') (lo+i))=true)) (Q:=fun c z=>z=st'∧∃l,c=(none,l,l)∧l≤k∧(∀i,i<l→O.le (kk key (arrOf st') (lo+i)) (kk key (arrOf st') (lo+k)))∧(∀i,l≤i→i<k→O.lt (kk key (arrOf st') (lo+k)) (kk key (arrOf st') (lo+i))=true)) ?in1 ?in2 ?in3) ?in4)
  case in3=>exact⟨rfl,0,k,rfl,by lia,by lia,by lia,fun i hi=>by lia,fun i h1 h2=>by lia⟩
  case in2=>
   rintro c z ⟨rfl,l,r,rfl,h1,h2,h3,h4,h5⟩
   have:l=r:=by lia
   subst this
   exact⟨rfl,l,rfl,h2,h4,h5⟩
  case in1=>
   rintro x c z _ hx ⟨rfl,l,r,rfl,h1,h2,h3,h4,h5⟩
   dsimp only
   by_cases hlr:l≥r
   ·rw[if_pos hlr]
    have:l=r:=by lia
    subst this
    exact wpS_pure ⟨rfl,l,rfl,h2,h4,h5⟩
   ·rw[if_neg hlr]
    refine wpS_bind (io C hB' (by lia) (by lia) ?_)
    dsimp only
    have hm1:l≤(l+r) / 2:=by lia
    have hm2:(l+r) / 2<r:=by lia
    by_cases hc:O.lt (kk key (arrOf z) (lo+k)) (kk key (arrOf z) (lo+(l+r) / 2))=true
    ·rw[if_pos hc]
     refine wpS_pure ⟨rfl,l,(l+r) / 2,rfl,by lia,by lia,by lia,h4,fun i h6 h7=>?_⟩
     exact Ordr.lt_le hc (hr _ _ (by lia) (by lia) (by lia))
    ·rw[if_neg hc]
     refine wpS_pure ⟨rfl,(l+r) / 2+1,r,rfl,by lia,by lia,by lia,fun i h6=>?_,h5⟩
     exact Ordr.le_trans (hr _ _ (by lia) (by lia) (by lia)) (Ordr.le_not hc)
  case in4=>
   rintro c z ⟨rfl,l,rfl,h2,h4,h5⟩
   dsimp only
   rw[moveDown'_eq]
   refine wpS_bind (wpS_modify (wpS_pure ⟨rfl,hB'.set (bubble_perm _ _ _),hp,?_,?_⟩))
   ·intro i hi
    show(bubble (arrOf z) (lo+k) (lo+k-(lo+l)))[i]?=_
    rw[getElem?_bubble (by rw[hB'.size];lia) _ (by lia),if_neg (by lia),if_neg (by lia)]
    exact ho i hi
   ·have g:∀i,kk key (bubble (arrOf z) (lo+k) (lo+k-(lo+l))) i=if i=lo+l then kk key (arrOf z) (lo+k) else if lo+l<i∧i≤lo+k then kk key (arrOf z) (i-1) else kk key (arrOf z) i:=fun i=>by
     have:=getElem?_bubble (xs:=arrOf z) (src:=lo+k) (by rw[hB'.size];lia) (lo+k-(lo+l)) (by lia) i
     rw[show lo+k-(lo+k-(lo+l))=lo+l by lia] at this
     by_cases c1:i=lo+l
     ·rw[if_pos c1] at this ⊢;exact cE key this
     ·rw[if_neg c1] at this ⊢
      by_cases c2:lo+l<i∧i≤lo+k
      ·rw[if_pos c2] at this ⊢;exact cE key this
      ·rw[if_neg c2] at this ⊢;exact cE key this
    refine sj fun i h6 h7=>?_
    show O.le (kk key (bubble (arrOf z) (lo+k) (lo+k-(lo+l))) i) (kk key (bubble (arrOf z) (lo+k) (lo+k-(lo+l))) (i+1))
    rw[g,g]
    by_cases c1:i=lo+l
    ·rw[if_pos c1,if_neg (by lia),if_pos (by lia)]
     refine Ordr.le_of_lt ?_
     have:=h5 (i-lo) (by lia) (by lia)
     rw[show lo+(i-lo)=i+1-1 by lia] at this
     exact this
    ·rw[if_neg c1]
     by_cases c2:i+1=lo+l
     ·rw[if_neg (by lia),if_pos c2]
      have:=h4 (i-lo) (by lia)
      rw[show lo+(i-lo)=i by lia] at this
      exact this
     ·rw[if_neg c2]
      by_cases c3:lo+l<i∧i≤lo+k
      ·rw[if_pos c3,if_pos (by lia)]
       exact hr _ _ (by lia) (by lia) (by lia)
      ·rw[if_neg c3,if_neg (by lia)]
       exact hr _ _ (by lia) (by lia) (by lia)
end
section
variable{κ:Type}{O:Ordr κ}{key:Keyed→κ}{prog:Program}{w:World}{A:Around}{E:Value→Shared→Prop}{s:Shared}{a₀:Array Keyed}{kd:SortKind}
def kA(O:Ordr κ)(key:Keyed→κ)(a:Array Keyed)(lo hi:Nat):Prop:=∀i j,lo≤i→i≤j→j<hi→O.le (kk key a j) (kk key a i)
def lE(O:Ordr κ)(key:Keyed→κ)(a:Array Keyed)(lo hi:Nat):Prop:=∀i j,lo≤i→i<hi→lo≤j→j<hi→O.le (kk key a i) (kk key a j)
theorem eJ{a:Array Keyed}{p q:Nat}(hq:q≤a.size)(i:Nat):kk key (mirror a p q ((q-p) / 2)) i=if p≤i∧i<q then kk key a (p+q-1-i) else kk key a i:=by
 have e:=getElem?_mirror_all (xs:=a) (i:=p) hq i
 by_cases c:p≤i∧i<q
 ·rw[if_pos c] at e ⊢;exact cE key e
 ·rw[if_neg c] at e ⊢;exact cE key e
theorem gW{a:Array Keyed}{p q lo hi:Nat}(hq:q≤a.size)(h1:lo≤p)(h2:q≤hi):OnlyA a (mirror a p q ((q-p) / 2)) lo hi:=fun i z=>by
 rw[getElem?_mirror_all hq,if_neg (by lia)]
theorem Bp{a:Array Keyed}{lo hi p q:Nat}(h:kA O key a lo hi)(hq:q≤a.size)(h1:lo≤p)(h2:q≤hi)(ev:lE O key a p q):kA O key (mirror a p q ((q-p) / 2)) lo hi:=fun i j z1 z2 z3=>by
 rw[eJ hq,eJ hq]
 by_cases ci:p≤i∧i<q <;> by_cases cj:p≤j∧j<q
 ·rw[if_pos ci,if_pos cj];exact ev _ _ (by lia) (by lia) (by lia) (by lia)
 ·rw[if_pos ci,if_neg cj];exact h _ _ (by lia) (by lia) (by lia)
 ·rw[if_neg ci,if_pos cj];exact h _ _ (by lia) (by lia) (by lia)
 ·rw[if_neg ci,if_neg cj];exact h _ _ z1 z2 z3
theorem lA{a:Array Keyed}{lo hi:Nat}(h:kA O key a lo hi)(hq:hi≤a.size):Rise O key (mirror a lo hi ((hi-lo) / 2)) lo hi:=fun i j z1 z2 z3=>by
 rw[eJ hq,eJ hq,if_pos (by lia),if_pos (by lia)]
 exact h _ _ (by lia) (by lia) (by lia)
structure Down(O:Ordr κ)(key:Keyed→κ)(a₀:Array Keyed)(kd:SortKind)(st z:SortSt)(lo nrem n q:Nat):Prop where
 bas:Bas a₀ kd z
 pend:pendingOf z=pendingOf st
 only:OnlyA (arrOf st) (arrOf z) lo (lo+nrem)
 q1:q<n
 fall:kA O key (arrOf z) lo (lo+n)
 even:lE O key (arrOf z) (lo+n-(q+1)) (lo+n)
theorem Down.turn{st z:SortSt}{lo nrem n q:Nat}(h:Down O key a₀ kd st z lo nrem n q)(hn:n≤nrem)(hs:lo+nrem≤a₀.size):Down O key a₀ kd st (setArr z (mirror (arrOf z) (lo+n-(q+1)) (lo+n) ((lo+n-(lo+n-(q+1))) / 2))) lo nrem n 0:=by
 have q1:=h.q1
 have hz:lo+n≤(arrOf z).size:=by rw[h.bas.size];lia
 refine⟨h.bas.set (mirror_perm _ _ _ _),h.pend,h.only.trans (gW hz (by lia) (by lia)),by lia,Bp h.fall hz (by lia) (Nat.le_refl _) h.even,fun i j h1 h2 h3 h4=>?_⟩
 have:i=j:=by lia
 subst this;exact Ordr.le_refl _
theorem xR(C:eA O key prog w A E s a₀ kd){st:SortSt}{lo nrem:Nat}{Q:Option Nat→SortSt→Prop}(hB:Bas a₀ kd st)(hn:lo+nrem≤a₀.size)(h1:1≤nrem)(h:∀st' n,Bas a₀ kd st'→pendingOf st'=pendingOf st→OnlyA (arrOf st) (arrOf st') lo (lo+nrem)→1≤n→n≤nrem→Rise O key (arrOf st') lo (lo+n)→Q (some n) st'):wpS (model prog w) A E s (countRun' lo nrem) Q st:=by
 rw[countRun'_eq]
 have up:∀(z:SortSt) (m:Nat),Bas a₀ kd z→1≤m→m≤nrem→Rise O key (arrOf z) lo (lo+m)→∀(Q':Option (Option Nat)×Nat→SortSt→Prop),(∀n,m≤n→n≤nrem→Rise O key (arrOf z) lo (lo+n)→(n<nrem→O.lt (kk key (arrOf z) (lo+n)) (kk key (arrOf z) (lo+n-1))=true)→Q' (none,n) z)→
  wpS (model prog w) A E s (forIn [m:nrem] ((none,m):Option (Option Nat)×Nat) fun _ r=>do
   let x←ltAt' (lo+r.2) (lo+r.2-1)
   match x with
   | some smaller=>if smaller=true then pure (ForInStep.done (none,r.2)) else pure (ForInStep.yield (none,r.2+1))
   | _=>pure (ForInStep.done (some none,r.2))) Q' z:=by
  intro z m hBz m1 m2 hr Q' hQ
  refine wpS_forRange (I:=fun x c z'=>z'=z∧c=(none,x)∧m≤x∧x≤nrem∧Rise O key (arrOf z) lo (lo+x)) ?_ ?_ ⟨rfl,rfl,Nat.le_refl _,m2,hr⟩
  ·rintro x c z' hx1 hx2 ⟨rfl,rfl,g1,g2,g3⟩
   dsimp only
   refine wpS_bind (io C hBz (by lia) (by lia) ?_)
   dsimp only
   by_cases hc:O.lt (kk key (arrOf z') (lo+x)) (kk key (arrOf z') (lo+x-1))=true
   ·rw[if_pos hc]
    exact wpS_pure (hQ x g1 g2 g3 fun _=>hc)
   ·rw[if_neg hc]
    refine wpS_pure ⟨rfl,rfl,by lia,by lia,sj fun i z1 z2=>?_⟩
    by_cases e:i+1=lo+x
    ·rw[e,show i=lo+x-1 by lia]
     exact Ordr.le_not hc
    ·exact g3 _ _ z1 (by lia) (by lia)
  ·rintro c z' ⟨rfl,rfl,g1,g2,g3⟩
   rw[Nat.max_eq_right m2] at g1 g2 g3 ⊢
   exact hQ nrem g1 g2 g3 fun z=>absurd z (Nat.lt_irrefl _)
 have hsz:lo+nrem≤(arrOf st).size:=by rw[hB.size];exact hn
 have r1:Rise O key (arrOf st) lo (lo+1):=fun i j z1 z2 z3=>by
  have:i=j:=by lia
  subst this;exact Ordr.le_refl _
 have down:∀(z:SortSt) (m:Nat),Down O key a₀ kd st z lo nrem m 0→m≤nrem→∀(Q':Option (Option Nat)×Nat×Nat→SortSt→Prop),(∀z' n q,Down O key a₀ kd st z' lo nrem n q→n≤nrem→Q' (none,n,q) z')→
  wpS (model prog w) A E s (forIn [m:nrem] ((none,m,0):Option (Option Nat)×Nat×Nat) fun _ r=>do
   let x←ltAt' (lo+r.2.1) (lo+r.2.1-1)
   match x with
   | some smaller=>
     if smaller=true then
      if r.2.2>0 then do
       reverseSlice' (lo+r.2.1-(r.2.2+1)) (lo+r.2.1)
       pure (ForInStep.yield (none,r.2.1+1,0))
      else pure (ForInStep.yield (none,r.2.1+1,0))
     else do
      let x←ltAt' (lo+r.2.1-1) (lo+r.2.1)
      match x with
      | some larger=>if larger=true then pure (ForInStep.done (none,r.2.1,r.2.2)) else pure (ForInStep.yield (none,r.2.1+1,r.2.2+1))
      | _=>pure (ForInStep.done (some none,r.2.1,r.2.2))
   | _=>pure (ForInStep.done (some none,r.2.1,r.2.2))) Q' z:=by
  intro z m hD m2 Q' hQ
  refine wpS_forRange (I:=fun x c z'=>∃q,c=(none,x,q)∧x≤nrem∧Down O key a₀ kd st z' lo nrem x q) ?_ ?_ ⟨0,rfl,m2,hD⟩
  ·rintro x c z' hx1 hx2 ⟨q,rfl,g2,g3⟩
   dsimp only
   have q1:=g3.q1
   refine wpS_bind (io C g3.bas (by lia) (by lia) ?_)
   dsimp only
   by_cases hc:O.lt (kk key (arrOf z') (lo+x)) (kk key (arrOf z') (lo+x-1))=true
   ·rw[if_pos hc]
    have more:∀z'':SortSt,Down O key a₀ kd st z'' lo nrem x 0→O.lt (kk key (arrOf z'') (lo+x)) (kk key (arrOf z'') (lo+x-1))=true→Down O key a₀ kd st z'' lo nrem (x+1) 0:=fun z'' D hlt=>by
     refine⟨D.bas,D.pend,D.only,by lia,fun i j z1 z2 z3=>?_,fun i j z1 z2 z3 z4=>?_⟩
     ·by_cases ej:j=lo+x
      ·subst ej
       by_cases ei:i=lo+x
       ·subst ei;exact Ordr.le_refl _
       ·exact Ordr.le_trans (Ordr.le_of_lt hlt) (D.fall _ _ z1 (by lia) (by lia))
      ·exact D.fall _ _ z1 z2 (by lia)
     ·have:i=j:=by lia
      subst this;exact Ordr.le_refl _
    by_cases hq:q>0
    ·rw[if_pos hq,reverseSlice'_eq]
     refine wpS_bind (wpS_modify (wpS_pure ⟨0,rfl,by lia,more _ (g3.turn g2 hn) ?_⟩))
     have hz:lo+x≤(arrOf z').size:=by rw[g3.bas.size];lia
     show O.lt (kk key (mirror (arrOf z') _ _ _) _) (kk key (mirror (arrOf z') _ _ _) _)=true
     rw[eJ hz,eJ hz,if_neg (by lia),if_pos (by lia)]
     exact Ordr.lt_le hc (g3.even _ _ (by lia) (by lia) (by lia) (by lia))
    ·rw[if_neg hq]
     have:q=0:=by lia
     subst this
     exact wpS_pure ⟨0,rfl,by lia,more _ g3 hc⟩
   ·rw[if_neg hc]
    refine wpS_bind (io C g3.bas (by lia) (by lia) ?_)
    dsimp only
    by_cases hl:O.lt (kk key (arrOf z') (lo+x-1)) (kk key (arrOf z') (lo+x))=true
    ·rw[if_pos hl]
     exact wpS_pure (hQ _ _ _ g3 g2)
    ·rw[if_neg hl]
     have le1:=Ordr.le_not hc
     have le2:=Ordr.le_not hl
     refine wpS_pure ⟨q+1,rfl,by lia,g3.bas,g3.pend,g3.only,by lia,fun i j z1 z2 z3=>?_,fun i j z1 z2 z3 z4=>?_⟩
     ·by_cases ej:j=lo+x
      ·subst ej
       by_cases ei:i=lo+x
       ·subst ei;exact Ordr.le_refl _
       ·exact Ordr.le_trans le2 (g3.fall _ _ z1 (by lia) (by lia))
      ·exact g3.fall _ _ z1 z2 (by lia)
     ·by_cases ei:i=lo+x <;> by_cases ej:j=lo+x
      ·subst ei ej;exact Ordr.le_refl _
      ·subst ei;exact Ordr.le_trans le2 (g3.even _ _ (by lia) (by lia) (by lia) (by lia))
      ·subst ej;exact Ordr.le_trans (g3.even _ _ (by lia) (by lia) (by lia) (by lia)) le1
      ·exact g3.even _ _ (by lia) (by lia) (by lia) (by lia)
  ·rintro c z' ⟨q,rfl,g2,g3⟩
   rw[Nat.max_eq_right m2] at g2 g3 ⊢
   exact hQ _ _ _ g3 g2
 refine wpS_bind (up st 1 hB (Nat.le_refl _) h1 r1 _ fun n n1 n2 hr hlt=>?_)
 dsimp only
 by_cases en:n=nrem
 ·rw[if_pos (by rw[en];exact beq_self_eq_true _)]
  exact wpS_pure (h st n hB rfl (OnlyA.refl _ _ _) n1 n2 hr)
 ·rw[if_neg (by simpa using en)]
  have hl:=hlt (by lia)
  have dn:∀z:SortSt,Bas a₀ kd z→pendingOf z=pendingOf st→OnlyA (arrOf st) (arrOf z) lo (lo+nrem)→lE O key (arrOf z) lo (lo+n)→O.lt (kk key (arrOf z) (lo+n)) (kk key (arrOf z) (lo+n-1))=true→Down O key a₀ kd st z lo nrem (n+1) 0:=fun z b1 b2 b3 ev hz=>by
   refine⟨b1,b2,b3,by lia,fun i j z1 z2 z3=>?_,fun i j z1 z2 z3 z4=>?_⟩
   ·by_cases ej:j=lo+n
    ·subst ej
     by_cases ei:i=lo+n
     ·subst ei;exact Ordr.le_refl _
     ·exact Ordr.le_trans (Ordr.le_of_lt hz) (ev _ _ (by lia) (by lia) (by lia) (by lia))
    ·exact ev _ _ (by lia) (by lia) (by lia) (by lia)
   ·have:i=j:=by lia
    subst this;exact Ordr.le_refl _
  by_cases hn1:n>1
  ·rw[if_pos hn1]
   refine wpS_bind (io C hB (by lia) (by lia) ?_)
   dsimp only
   by_cases hc:O.lt (kk key (arrOf st) lo) (kk key (arrOf st) (lo+n-1))=true
   ·rw[if_pos hc]
    exact wpS_pure (h st n hB rfl (OnlyA.refl _ _ _) n1 n2 hr)
   ·rw[if_neg hc,reverseSlice'_eq]
    have hz:lo+n≤(arrOf st).size:=by lia
    have le1:=Ordr.le_not hc
    have ev:lE O key (arrOf st) lo (lo+n):=fun i j z1 z2 z3 z4=>Ordr.le_trans (hr i (lo+n-1) z1 (by lia) (by lia)) (Ordr.le_trans le1 (hr lo j (by lia) z3 (by lia)))
    refine wpS_bind (wpS_modify ?_)
    have D0:=dn (setArr st (mirror (arrOf st) lo (lo+n) ((lo+n-lo) / 2))) (hB.set (mirror_perm _ _ _ _)) rfl (gW hz (Nat.le_refl _) (by lia)) (fun i j z1 z2 z3 z4=>by
     show O.le (kk key (mirror (arrOf st) _ _ _) _) (kk key (mirror (arrOf st) _ _ _) _)
     rw[eJ hz,eJ hz,if_pos (by lia),if_pos (by lia)]
     exact ev _ _ (by lia) (by lia) (by lia) (by lia)) (by
     show O.lt (kk key (mirror (arrOf st) _ _ _) _) (kk key (mirror (arrOf st) _ _ _) _)=true
     rw[eJ hz,eJ hz,if_neg (by lia),if_pos (by lia)]
     exact Ordr.lt_le hl (ev _ _ (by lia) (by lia) (by lia) (by lia)))
    refine wpS_bind (wpS_lift (wpAny_rule ⟨rfl,?_⟩))
    refine wpS_bind (down _ (n+1) D0 (by lia) _ fun z' m q D1 hm=>?_)
    dsimp only
    by_cases hq:q>0
    ·rw[if_pos hq]
     refine wpS_bind ?_
     rw[reverseSlice'_eq]
     refine wpS_modify ?_
     have D2:=D1.turn hm hn
     rw[reverseSlice'_eq]
     refine wpS_bind (wpS_modify ?_)
     exact wpS_bind (up _ m (D2.bas.set (mirror_perm _ _ _ _)) (by have:=D2.q1;lia) hm (lA D2.fall (by rw[D2.bas.size];lia)) _ fun n' g1 g2 g3 _=>wpS_pure (h _ n' (D2.bas.set (mirror_perm _ _ _ _)) D2.pend (D2.only.trans (gW (by rw[D2.bas.size];lia) (Nat.le_refl _) (by lia))) (by have:=D2.q1;lia) g2 g3))
    ·rw[if_neg hq]
     have e0:q=0:=by lia
     subst e0
     rw[reverseSlice'_eq]
     refine wpS_bind (wpS_modify ?_)
     exact wpS_bind (up _ m (D1.bas.set (mirror_perm _ _ _ _)) (by have:=D1.q1;lia) hm (lA D1.fall (by rw[D1.bas.size];lia)) _ fun n' g1 g2 g3 _=>wpS_pure (h _ n' (D1.bas.set (mirror_perm _ _ _ _)) D1.pend (D1.only.trans (gW (by rw[D1.bas.size];lia) (Nat.le_refl _) (by lia))) (by have:=D1.q1;lia) g2 g3))
  ·rw[if_neg hn1]
   have:n=1:=by lia
   subst this
   have D0:=dn st hB rfl (OnlyA.refl _ _ _) (fun i j z1 z2 z3 z4=>by
    have e0:i=j:=by lia
    subst e0;exact Ordr.le_refl _) hl
   refine wpS_bind (wpS_lift (wpAny_rule ⟨rfl,?_⟩))
   refine wpS_bind (down _ (1+1) D0 (by lia) _ fun z' m q D1 hm=>?_)
   dsimp only
   by_cases hq:q>0
   ·rw[if_pos hq]
    refine wpS_bind ?_
    rw[reverseSlice'_eq]
    refine wpS_modify ?_
    have D2:=D1.turn hm hn
    rw[reverseSlice'_eq]
    refine wpS_bind (wpS_modify ?_)
    exact wpS_bind (up _ m (D2.bas.set (mirror_perm _ _ _ _)) (by have:=D2.q1;lia) hm (lA D2.fall (by rw[D2.bas.size];lia)) _ fun n' g1 g2 g3 _=>wpS_pure (h _ n' (D2.bas.set (mirror_perm _ _ _ _)) D2.pend (D2.only.trans (gW (by rw[D2.bas.size];lia) (Nat.le_refl _) (by lia))) (by have:=D2.q1;lia) g2 g3))
   ·rw[if_neg hq]
    have e0:q=0:=by lia
    subst e0
    rw[reverseSlice'_eq]
    refine wpS_bind (wpS_modify ?_)
    exact wpS_bind (up _ m (D1.bas.set (mirror_perm _ _ _ _)) (by have:=D1.q1;lia) hm (lA D1.fall (by rw[D1.bas.size];lia)) _ fun n' g1 g2 g3 _=>wpS_pure (h _ n' (D1.bas.set (mirror_perm _ _ _ _)) D1.pend (D1.only.trans (gW (by rw[D1.bas.size];lia) (Nat.le_refl _) (by lia))) (by have:=D1.q1;lia) g2 g3))
end
def fL:Bool→Keyed→Array Keyed→Nat→Nat→Nat→StateT SortSt Sem (Option Nat):=sortPriv% PySem.Builtin.gallop
theorem xF(lf:Bool)(ky:Keyed)(xs:Array Keyed)(b0 n hint:Nat):fL lf ky xs b0 n hint=(do
 let past (i:Nat):StateT SortSt Sem (Option Bool):=do
  let x←elem' xs (b0+i)
  if lf then lt' x ky else return (←lt' ky x).map (!·)
 let mut p1:=0
 let mut p2:=1
 let mut lo:=0
 let mut hi:=0
 let some rt←past hint | return none
 if rt then
  let mo:=n-hint
  for _ in [0:n] do
   if p2≥mo then break
   let some yet←past (hint+p2) | return none
   if !yet then break
   p1:=p2
   p2:=2*p2+1
  lo:=hint+p1+1
  hi:=hint+min p2 mo
 else
  let mo:=hint+1
  for _ in [0:n] do
   if p2≥mo then break
   let some yet←past (hint-p2) | return none
   if yet then break
   p1:=p2
   p2:=2*p2+1
  lo:=hint+1-min p2 mo
  hi:=hint-p1
 for _ in [0:n] do
  if lo≥hi then break
  let m:=lo+(hi-lo) / 2
  let some yet←past m | return none
  if yet then lo:=m+1 else hi:=m
 return some hi):=rfl
section
variable{κ:Type}{O:Ordr κ}{key:Keyed→κ}{prog:Program}{w:World}{A:Around}{E:Value→Shared→Prop}{s:Shared}{a₀:Array Keyed}{kd:SortKind}
structure Edge(P:Nat→Bool)(n k:Nat):Prop where
 le:k≤n
 yes:∀i,i<k→P i=true
 no:∀i,k≤i→i<n→P i=false
def bi(O:Ordr κ)(key:Keyed→κ)(lf:Bool)(ky:Keyed)(xs:Array Keyed)(b0 i:Nat):Bool:=if lf=true then O.lt (kk key xs (b0+i)) (key ky) else !O.lt (key ky) (kk key xs (b0+i))
theorem ik(C:eA O key prog w A E s a₀ kd){st:SortSt}{lf:Bool}{ky:Keyed}{xs:Array Keyed}{b0 n hint:Nat}{Q:Option Nat→SortSt→Prop}(hk:kindOf st=kd)(mk:ky∈a₀)(mx:∀i,i<n→∃x,xs[b0+i]?=some x∧x∈a₀)(hr:Rise O key xs b0 (b0+n))(hh:hint<n)(h:∀k,Edge (bi O key lf ky xs b0) n k→Q (some k) st):wpS (model prog w) A E s (fL lf ky xs b0 n hint) Q st:=by
 rw[xF]
 generalize hP:bi O key lf ky xs b0=P at h
 have mono:∀i j,i≤j→j<n→P j=true→P i=true:=by
  intro i j h1 h2 h3
  rw[←hP] at h3 ⊢
  unfold bi at h3 ⊢
  have hle:=hr (b0+i) (b0+j) (by lia) (by lia) (by lia)
  cases lf with
  | true=>
    rw[if_pos rfl] at h3 ⊢
    exact Ordr.le_lt hle h3
  | false=>
    rw[if_neg Bool.false_ne_true] at h3 ⊢
    cases z:O.lt (key ky) (kk key xs (b0+i)) with
    | false=>rfl
    | true=>rw[Ordr.lt_le z hle] at h3;cases h3
 have monoF:∀i j,i≤j→j<n→P i=false→P j=false:=fun i j h1 h2 h3=>by
  cases z:P j with
  | false=>rfl
  | true=>rw[mono i j h1 h2 z] at h3;cases h3
 have past:∀i,i<n→∀Q':Option Bool→SortSt→Prop,Q' (some (P i)) st→wpS (model prog w) A E s (do
  let x←elem' xs (b0+i)
  if lf=true then lt' x ky else do
   let y←lt' ky x
   pure (y.map (!·))) Q' st:=by
  intro i hi Q' q
  obtain⟨x,ex,mx⟩:=mx i hi
  rw[elem'_eq,ex]
  refine wpS_bind (wpS_pure ?_)
  have ek:kk key xs (b0+i)=key x:=by unfold kk;rw[ex];rfl
  rw[←hP] at q
  unfold bi at q
  rw[ek] at q
  cases lf with
  | true=>
    rw[if_pos rfl] at q ⊢
    exact C x ky mx mk st _ hk q
  | false=>
    rw[if_neg Bool.false_ne_true] at q ⊢
    exact wpS_bind (C ky x mk mx st _ hk (wpS_pure q))
 have halves:∀lo hi,lo≤hi→hi≤n→(∀i,i<lo→P i=true)→(∀i,hi≤i→i<n→P i=false)→∀Q':Option (Option Nat)×Nat×Nat→SortSt→Prop,(∀k,Edge P n k→Q' (none,k,k) st)→
  wpS (model prog w) A E s (forIn [0:n] ((none,lo,hi):Option (Option Nat)×Nat×Nat) fun _ r=>
   if r.2.1≥r.2.2 then pure (ForInStep.done (none,r.2.1,r.2.2)) else do
    let y←(do
     let x←elem' xs (b0+(r.2.1+(r.2.2-r.2.1) / 2))
     if lf=true then lt' x ky else do
      let y←lt' ky x
      pure (y.map (!·)))
    match y with
    | some yet=>if yet=true then pure (ForInStep.yield (none,r.2.1+(r.2.2-r.2.1) / 2+1,r.2.2)) else pure (ForInStep.yield (none,r.2.1,r.2.1+(r.2.2-r.2.1) / 2))
    | _=>pure (ForInStep.done (some none,r.2.1,r.2.2))) Q' st:=by
  intro lo hi h1 h2 h3 h4 Q' hQ
  refine wpS_forRange (I:=fun x c z=>z=st∧∃l r,c=(none,l,r)∧l≤r∧r≤n∧(r-l)+x≤n∧(∀i,i<l→P i=true)∧(∀i,r≤i→i<n→P i=false)) ?_ ?_ ⟨rfl,lo,hi,rfl,h1,h2,by lia,h3,h4⟩
  ·rintro x c z _ hx ⟨rfl,l,r,rfl,g1,g2,g3,g4,g5⟩
   dsimp only
   by_cases hlr:l≥r
   ·rw[if_pos hlr]
    have e:l=r:=by lia
    subst e
    exact wpS_pure (hQ l ⟨g2,g4,g5⟩)
   ·rw[if_neg hlr]
    refine wpS_bind (past _ (by lia) _ ?_)
    dsimp only
    by_cases hc:P (l+(r-l) / 2)=true
    ·rw[if_pos hc]
     exact wpS_pure ⟨rfl,_,r,rfl,by lia,g2,by lia,fun i hi=>mono _ _ (by lia) (by lia) hc,g5⟩
    ·rw[if_neg hc]
     have hf:P (l+(r-l) / 2)=false:=by simpa using hc
     exact wpS_pure ⟨rfl,l,_,rfl,by lia,by lia,by lia,g4,fun i hi hn=>monoF _ _ hi hn hf⟩
  ·rintro c z ⟨rfl,l,r,rfl,g1,g2,g3,g4,g5⟩
   have e:l=r:=by lia
   subst e
   exact hQ l ⟨g2,g4,g5⟩
 dsimp only
 refine wpS_bind (past hint hh _ ?_)
 dsimp only
 by_cases hc:P hint=true
 ·rw[if_pos hc]
  refine wpS_bind (wpS_mono (wpS_forRange (I:=fun x c z=>z=st∧∃q1 q2,c=(none,q1,q2)∧q1<q2∧x+1≤q2∧hint+q1<n∧P (hint+q1)=true) (Q:=fun c z=>z=st∧∃q1 q2,c=(none,q1,q2)∧q1<q2∧hint+q1<n∧P (hint+q1)=true∧(q2<n-hint→P (hint+q2)=false)) ?_ ?_ ⟨rfl,0,1,rfl,by lia,by lia,by lia,hc⟩) ?_)
  ·rintro x c z _ hx ⟨rfl,q1,q2,rfl,g1,g2,g3,g4⟩
   dsimp only
   by_cases hm:q2≥n-hint
   ·rw[if_pos hm]
    exact wpS_pure ⟨rfl,q1,q2,rfl,g1,g3,g4,fun z=>by lia⟩
   ·rw[if_neg hm]
    refine wpS_bind (past _ (by lia) _ ?_)
    dsimp only
    cases hy:P (hint+q2) with
    | false=>
      rw[if_pos (by decide)]
      exact wpS_pure ⟨rfl,q1,q2,rfl,g1,g3,g4,fun _=>hy⟩
    | true=>
      rw[if_neg (by decide)]
      exact wpS_pure ⟨rfl,q2,2*q2+1,rfl,by lia,by lia,by lia,hy⟩
  ·rintro c z ⟨rfl,q1,q2,rfl,g1,g2,g3,g4⟩
   exact⟨rfl,q1,q2,rfl,g1,g3,g4,fun z=>by lia⟩
  ·rintro c z ⟨rfl,q1,q2,rfl,g1,g3,g4,g5⟩
   dsimp only
   refine wpS_bind (halves _ _ (by lia) (by lia) (fun i hi=>mono _ _ (by lia) g3 g4) (fun i h1 h2=>?_) _ fun k e=>?_)
   ·exact monoF _ _ (show hint+q2≤i by lia) h2 (g5 (by lia))
   ·exact wpS_pure (h k e)
 ·rw[if_neg hc]
  have hf:P hint=false:=by simpa using hc
  refine wpS_bind (wpS_mono (wpS_forRange (I:=fun x c z=>z=st∧∃q1 q2,c=(none,q1,q2)∧q1<q2∧x+1≤q2∧q1≤hint∧P (hint-q1)=false) (Q:=fun c z=>z=st∧∃q1 q2,c=(none,q1,q2)∧q1<q2∧q1≤hint∧P (hint-q1)=false∧(q2<hint+1→P (hint-q2)=true)) ?_ ?_ ⟨rfl,0,1,rfl,by lia,by lia,by lia,hf⟩) ?_)
  ·rintro x c z _ hx ⟨rfl,q1,q2,rfl,g1,g2,g3,g4⟩
   dsimp only
   by_cases hm:q2≥hint+1
   ·rw[if_pos hm]
    exact wpS_pure ⟨rfl,q1,q2,rfl,g1,g3,g4,fun z=>by lia⟩
   ·rw[if_neg hm]
    refine wpS_bind (past _ (by lia) _ ?_)
    dsimp only
    cases hy:P (hint-q2) with
    | true=>
      rw[if_pos rfl]
      exact wpS_pure ⟨rfl,q1,q2,rfl,g1,g3,g4,fun _=>hy⟩
    | false=>
      rw[if_neg Bool.false_ne_true]
      exact wpS_pure ⟨rfl,q2,2*q2+1,rfl,by lia,by lia,by lia,hy⟩
  ·rintro c z ⟨rfl,q1,q2,rfl,g1,g2,g3,g4⟩
   exact⟨rfl,q1,q2,rfl,g1,g3,g4,fun z=>by lia⟩
  ·rintro c z ⟨rfl,q1,q2,rfl,g1,g3,g4,g5⟩
   dsimp only
   refine wpS_bind (halves _ _ (by lia) (by lia) (fun i hi=>?_) (fun i h1 h2=>monoF _ _ h1 h2 g4) _ fun k e=>?_)
   ·exact mono _ _ (show i≤hint-q2 by lia) (by lia) (g5 (by lia))
   ·exact wpS_pure (h k e)
end
section
variable{κ:Type}{O:Ordr κ}{key:Keyed→κ}
def gC(O:Ordr κ)(key:Keyed→κ)(xs ys:List Keyed):Prop:=∀x∈xs,∀y∈ys,O.le (key x) (key y)
def Up(O:Ordr κ)(key:Keyed→κ)(xs:List Keyed):Prop:=xs.Pairwise fun x y=>O.le (key x) (key y)
structure Mg(O:Ordr κ)(key:Keyed→κ)(T out xs ys:List Keyed):Prop where
 perm:(out++(xs++ys)).Perm T
 up:Up O key out
 lx:gC O key out xs
 ly:gC O key out ys
 ux:Up O key xs
 uy:Up O key ys
theorem Up.app{xs ys:List Keyed}(h1:Up O key xs)(h2:Up O key ys)(h3:gC O key xs ys):Up O key (xs++ys):=List.pairwise_append.mpr ⟨h1,h2,h3⟩
theorem Mg.mvX{T out x1 x2 ys:List Keyed}(h:Mg O key T out (x1++x2) ys)(g:gC O key x1 ys):Mg O key T (out++x1) x2 ys:=by
 have ux:=List.pairwise_append.mp h.ux
 refine⟨by have:=h.perm;simpa using this,Up.app h.up ux.1 fun x hx y hy=>h.lx x hx y (List.mem_append_left _ hy),fun x hx y hy=>?_,fun x hx y hy=>?_,ux.2.1,h.uy⟩
 ·rcases List.mem_append.mp hx with z | z
  ·exact h.lx x z y (List.mem_append_right _ hy)
  ·exact ux.2.2 x z y hy
 ·rcases List.mem_append.mp hx with z | z
  ·exact h.ly x z y hy
  ·exact g x z y hy
theorem Mg.mvY{T out xs y1 y2:List Keyed}(h:Mg O key T out xs (y1++y2))(g:gC O key y1 xs):Mg O key T (out++y1) xs y2:=by
 have uy:=List.pairwise_append.mp h.uy
 refine⟨?_,Up.app h.up uy.1 fun x hx y hy=>h.ly x hx y (List.mem_append_left _ hy),fun x hx y hy=>?_,fun x hx y hy=>?_,h.ux,uy.2.1⟩
 ·refine List.Perm.trans ?_ h.perm
  rw[List.append_assoc]
  refine List.Perm.append_left _ ?_
  rw[←List.append_assoc,←List.append_assoc]
  exact List.Perm.append_right _ List.perm_append_comm
 ·rcases List.mem_append.mp hx with z | z
  ·exact h.lx x z y hy
  ·exact g x z y hy
 ·rcases List.mem_append.mp hx with z | z
  ·exact h.ly x z y (List.mem_append_right _ hy)
  ·exact uy.2.2 x z y hy
def Made(O:Ordr κ)(key:Keyed→κ)(T:List Keyed)(r:List Keyed):Prop:=r.Perm T∧Up O key r
theorem Mg.endY{T out xs:List Keyed}(h:Mg O key T out xs []):Made O key T (out++xs):=⟨by have:=h.perm;simpa using this,Up.app h.up h.ux h.lx⟩
theorem Mg.endX{T out xs ys:List Keyed}(h:Mg O key T out xs ys)(g:gC O key ys xs):Made O key T (out++ys++xs):=by
 refine⟨?_,Up.app (Up.app h.up h.uy h.ly) h.ux fun x hx y hy=>?_⟩
 ·refine List.Perm.trans ?_ h.perm
  rw[List.append_assoc]
  exact List.Perm.append_left _ List.perm_append_comm
 ·rcases List.mem_append.mp hx with z | z
  ·exact h.lx x z y hy
  ·exact g x z y hy
theorem Bf{xs:List Keyed}{n:Nat}(h:Up O key xs):Up O key (xs.drop n):=h.sublist (List.drop_sublist _ _)
theorem An{x y:Keyed}{xs:List Keyed}(h:Up O key (x::xs))(hy:y∈x::xs):O.le (key x) (key y):=by
 rcases List.mem_cons.mp hy with rfl | z
 ·exact Ordr.le_refl _
 ·exact(List.pairwise_cons.mp h).1 y z
end
def mt:Array Keyed→Array Keyed→StateT SortSt Sem (Array Keyed):=sortPriv% PySem.Builtin.mergeLo
def setG(g:Nat):StateT SortSt Sem Unit:=modify fun s=>SortSt.mk' (kindOf s) (arrOf s) (pendingOf s) g (failedOf s)
theorem Bi(xa xb:Array Keyed):mt xa xb=(do
 rule "list.sort.merge-lo"
 let tot:=xa.size+xb.size
 let fin (o:Array Keyed) (i j:Nat):=o++xa.extract i xa.size++xb.extract j xb.size
 let oneA (o:Array Keyed) (i j:Nat):=o++xb.extract j xb.size++xa.extract i xa.size
 let mut o:Array Keyed:=#[←elem' xb 0]
 let mut i:=0
 let mut j:=1
 if j == xb.size then return fin o i j
 if i+1 == xa.size then return oneA o i j
 let mut mg:=gallopOf (←get)
 for _ in [0:tot] do
  let mut ca:=0
  let mut cb:=0
  for _ in [0:tot] do
   let some won←lt' (←elem' xb j) (←elem' xa i) | return fin o i j
   if won then
    o:=o.push (←elem' xb j);j:=j+1;cb:=cb+1;ca:=0
    if j == xb.size then return fin o i j
    if cb≥mg then break
   else
    o:=o.push (←elem' xa i);i:=i+1;ca:=ca+1;cb:=0
    if i+1 == xa.size then return oneA o i j
    if ca≥mg then break
  rule "list.sort.gallop"
  mg:=mg+1
  for _ in [0:tot] do
   if mg>1 then mg:=mg-1
   setG mg
   let some k←fL false (←elem' xb j) xa i (xa.size-i) 0 | return fin o i j
   ca:=k
   if k>0 then
    o:=o++xa.extract i (i+k);i:=i+k
    if i+1 == xa.size then return oneA o i j
    if i == xa.size then return fin o i j
   o:=o.push (←elem' xb j);j:=j+1
   if j == xb.size then return fin o i j
   let some k←fL true (←elem' xa i) xb j (xb.size-j) 0 | return fin o i j
   cb:=k
   if k>0 then
    o:=o++xb.extract j (j+k);j:=j+k
    if j == xb.size then return fin o i j
   o:=o.push (←elem' xa i);i:=i+1
   if i+1 == xa.size then return oneA o i j
   if ca<7 && cb<7 then break
  mg:=mg+1
  setG mg
 unsupported "internal:list.sort.merge-bound"):=rfl
section
variable{κ:Type}{O:Ordr κ}{key:Keyed→κ}{prog:Program}{w:World}{A:Around}{E:Value→Shared→Prop}{s:Shared}{a₀:Array Keyed}{kd:SortKind}
structure SamS(st z:SortSt):Prop where
 arr:arrOf z=arrOf st
 kind:kindOf z=kindOf st
 pend:pendingOf z=pendingOf st
 failed:failedOf z=failedOf st
theorem SamS.refl(st:SortSt):SamS st st:=⟨rfl,rfl,rfl,rfl⟩
theorem lr{M:Model}{z:SortSt}{g:Nat}{Q:PUnit→SortSt→Prop}(h:Q ⟨⟩ (SortSt.mk' (kindOf z) (arrOf z) (pendingOf z) g (failedOf z))):wpS M A E s (setG g) Q z:=wpS_modify h
theorem SamS.setG{st z:SortSt}(h:SamS st z)(g:Nat):SamS st (SortSt.mk' (kindOf z) (arrOf z) (pendingOf z) g (failedOf z)):=⟨h.arr,h.kind,h.pend,h.failed⟩
theorem bM{M:Model}{z:SortSt}{xs:Array Keyed}{i:Nat}{x:Keyed}{Q:Keyed→SortSt→Prop}(e:xs[i]?=some x)(h:Q x z):wpS M A E s (elem' xs i) Q z:=by
 rw[elem'_eq,e]
 exact wpS_pure h
theorem bV{xs:Array Keyed}{i:Nat}{x:Keyed}(e:xs[i]?=some x):kk key xs i=key x:=by unfold kk;rw[e];rfl
theorem iW{xs:Array Keyed}{i:Nat}{x:Keyed}(e:xs[i]?=some x):xs.toList.drop i=x::xs.toList.drop (i+1):=by
 rw[←Array.getElem?_toList] at e
 obtain⟨h1,h2⟩:=List.getElem?_eq_some_iff.mp e
 rw[List.drop_eq_getElem_cons h1,h2]
theorem iU{xs:Array Keyed}(h:Up O key xs.toList)(lo hi:Nat)(hh:hi≤xs.size):Rise O key xs lo hi:=fun i j h1 h2 h3=>by
 have l1:i<xs.size:=by lia
 have l2:j<xs.size:=by lia
 rw[bV (x:=xs[i]) (by simp[l1]),bV (x:=xs[j]) (by simp[l2])]
 rcases Nat.lt_or_eq_of_le h2 with z | z
 ·have:=List.pairwise_iff_getElem.mp h i j (by simpa using l1) (by simpa using l2) z
  simpa using this
 ·subst z;exact Ordr.le_refl _
theorem fN(xs:Array Keyed)(i:Nat):(xs.extract i xs.size).toList=xs.toList.drop i:=by
 rw[Array.toList_extract,List.extract_eq_drop_take]
 exact List.take_of_length_le (by rw[List.length_drop];simp)
theorem ud(xs:Array Keyed)(i k:Nat):(xs.extract i (i+k)).toList=(xs.toList.drop i).take k:=by
 rw[Array.toList_extract,List.extract_eq_drop_take,Nat.add_sub_cancel_left]
structure JLo(O:Ordr κ)(key:Keyed→κ)(xa xb:Array Keyed)(T:List Keyed)(o:Array Keyed)(i j:Nat):Prop where
 mg:Mg O key T o.toList (xa.toList.drop i) (xb.toList.drop j)
 i1:i+1<xa.size
 j1:j<xb.size
 sz:o.size=i+j
structure Two(O:Ordr κ)(key:Keyed→κ)(a₀ xa xb:Array Keyed):Prop where
 ma:∀(i:Nat) (x:Keyed),xa[i]?=some x→x∈a₀
 mb:∀(i:Nat) (x:Keyed),xb[i]?=some x→x∈a₀
 ua:Up O key xa.toList
 ub:Up O key xb.toList
 na:1≤xa.size
 nb:1≤xb.size
 first:∀x y:Keyed,xa[0]?=some x→xb[0]?=some y→O.lt (key y) (key x)=true
 last:∀(x y:Keyed) (j:Nat),xa[xa.size-1]?=some x→xb[j]?=some y→O.lt (key y) (key x)=true
variable{xa xb:Array Keyed}{T:List Keyed}{o:Array Keyed}{i j:Nat}
theorem jg(h:Mg O key T o.toList (xa.toList.drop i) (xb.toList.drop j))(e:j=xb.size):Made O key T (o++xa.extract i xa.size++xb.extract j xb.size).toList:=by
 rw[Array.toList_append,Array.toList_append,fN,fN]
 have e0:xb.toList.drop j=[]:=List.drop_eq_nil_of_le (by rw[e];simp)
 rw[e0] at h ⊢
 rw[List.append_nil]
 exact h.endY
theorem ji(W:Two O key a₀ xa xb)(h:Mg O key T o.toList (xa.toList.drop i) (xb.toList.drop j))(e:i+1=xa.size):Made O key T (o++xb.extract j xb.size++xa.extract i xa.size).toList:=by
 rw[Array.toList_append,Array.toList_append,fN,fN]
 refine h.endX fun y hy x hx=>?_
 have l1:i<xa.size:=by lia
 have ex:xa[i]?=some xa[i]:=by simp[l1]
 rw[iW ex,List.drop_eq_nil_of_le (by simp;lia)] at hx
 rw[List.mem_singleton.mp hx]
 obtain⟨q,hq⟩:=List.mem_iff_getElem?.mp hy
 rw[List.getElem?_drop,Array.getElem?_toList] at hq
 exact Ordr.le_of_lt (W.last _ y _ (by rw[show xa.size-1=i by lia];exact ex) hq)
theorem jO{xs:Array Keyed}{k:Nat}{y z:Keyed}(hu:Up O key xs.toList)(e:xs[k]?=some y)(h:O.le (key z) (key y)):gC O key [z] (xs.toList.drop k):=fun u hu' v hv=>by
 rw[List.mem_singleton.mp hu']
 rw[iW e] at hv
 have:=Bf (n:=k) hu
 rw[iW e] at this
 exact Ordr.le_trans h (An this hv)
theorem jG(W:Two O key a₀ xa xb)(h:Mg O key T o.toList (xa.toList.drop i) (xb.toList.drop j)){x y:Keyed}(ex:xa[i]?=some x)(ey:xb[j]?=some y)(hc:O.le (key y) (key x)):Mg O key T (o.push y).toList (xa.toList.drop i) (xb.toList.drop (j+1)):=by
 rw[iW ey] at h
 have:=h.mvY (y1:=[y]) (jO W.ua ex hc)
 rw[Array.toList_push]
 exact this
theorem ku(W:Two O key a₀ xa xb)(h:Mg O key T o.toList (xa.toList.drop i) (xb.toList.drop j)){x y:Keyed}(ex:xa[i]?=some x)(ey:xb[j]?=some y)(hc:O.le (key x) (key y)):Mg O key T (o.push x).toList (xa.toList.drop (i+1)) (xb.toList.drop j):=by
 rw[iW ex] at h
 have:=h.mvX (x1:=[x]) (jO W.ub ey hc)
 rw[Array.toList_push]
 exact this
theorem tP(W:Two O key a₀ xa xb){k:Nat}{y:Keyed}(ey:xb[j]?=some y)(hi:i<xa.size)(g:Edge (bi O key false y xa i) (xa.size-i) k):i+k<xa.size∧∀x,xa[i+k]?=some x→O.lt (key y) (key x)=true:=by
 have lt:i+k<xa.size:=by
  by_cases z:i+k<xa.size
  ·exact z
  ·have hk:k=xa.size-i:=by have:=g.le;lia
   have l1:xa.size-1<xa.size:=by lia
   have ex:xa[xa.size-1]?=some xa[xa.size-1]:=by simp[l1]
   have h1:=g.yes (xa.size-1-i) (by lia)
   unfold bi at h1
   rw[if_neg Bool.false_ne_true,show i+(xa.size-1-i)=xa.size-1 by lia,bV ex,W.last _ y _ ex ey] at h1
   cases h1
 refine⟨lt,fun x ex=>?_⟩
 have h1:=g.no k (Nat.le_refl _) (by lia)
 unfold bi at h1
 rw[if_neg Bool.false_ne_true,bV ex] at h1
 cases z:O.lt (key y) (key x) with
 | true=>rfl
 | false=>rw[z] at h1;cases h1
theorem vq(W:Two O key a₀ xa xb)(h:Mg O key T o.toList (xa.toList.drop i) (xb.toList.drop j)){k:Nat}{y:Keyed}(ey:xb[j]?=some y)(g:Edge (bi O key false y xa i) (xa.size-i) k):Mg O key T (o++xa.extract i (i+k)).toList (xa.toList.drop (i+k)) (xb.toList.drop j):=by
 rw[Array.toList_append,ud,←List.drop_drop]
 rw[←List.take_append_drop k (xa.toList.drop i)] at h
 refine h.mvX fun x hx v hv=>?_
 obtain⟨q,hq⟩:=List.mem_iff_getElem?.mp hx
 have hqk:q<k:=by
  have:=(List.getElem?_eq_some_iff.mp hq).1
  rw[List.length_take] at this;lia
 rw[List.getElem?_take_of_lt hqk,List.getElem?_drop,Array.getElem?_toList] at hq
 have h1:=g.yes q hqk
 unfold bi at h1
 rw[if_neg Bool.false_ne_true,bV hq] at h1
 have h2:O.le (key x) (key y):=by
  show O.lt (key y) (key x)=false
  cases z:O.lt (key y) (key x) with
  | false=>rfl
  | true=>rw[z] at h1;cases h1
 exact jO W.ub ey h2 x (List.mem_singleton.mpr rfl) v hv
theorem qC(W:Two O key a₀ xa xb)(h:Mg O key T o.toList (xa.toList.drop i) (xb.toList.drop j)){k:Nat}{x:Keyed}(ex:xa[i]?=some x)(g:Edge (bi O key true x xb j) (xb.size-j) k):Mg O key T (o++xb.extract j (j+k)).toList (xa.toList.drop i) (xb.toList.drop (j+k))∧∀y,j+k<xb.size→xb[j+k]?=some y→O.le (key x) (key y):=by
 constructor
 ·rw[Array.toList_append,ud,←List.drop_drop]
  rw[←List.take_append_drop k (xb.toList.drop j)] at h
  refine h.mvY fun y hy v hv=>?_
  obtain⟨q,hq⟩:=List.mem_iff_getElem?.mp hy
  have hqk:q<k:=by
   have:=(List.getElem?_eq_some_iff.mp hq).1
   rw[List.length_take] at this;lia
  rw[List.getElem?_take_of_lt hqk,List.getElem?_drop,Array.getElem?_toList] at hq
  have h1:=g.yes q hqk
  unfold bi at h1
  rw[if_pos rfl,bV hq] at h1
  exact jO W.ua ex (Ordr.le_of_lt h1) y (List.mem_singleton.mpr rfl) v hv
 ·intro y hl ey
  have h1:=g.no k (Nat.le_refl _) (by lia)
  unfold bi at h1
  rw[if_pos rfl,bV ey] at h1
  exact h1
theorem bf{xs:Array Keyed}{i:Nat}(h:i<xs.size):xs[i]?=some xs[i]:=by simp[h]
theorem sV(xs o:Array Keyed)(i k:Nat)(h:i+k≤xs.size):(o++xs.extract i (i+k)).size=o.size+k:=by
 rw[Array.size_append,Array.size_extract];lia
theorem u9{M:Model}{α:Type}{Q:α→SortSt→Prop}{z:SortSt}{c:Nat→Prop}{dc:∀g,Decidable (c g)}{x F:Nat→StateT SortSt Sem α}(hx:∀g,x g=F (g-1))(h:∀g,wpS M A E s (F g) Q z):∀g,wpS M A E s (@ite _ (c g) (dc g) (x g) (F g)) Q z:=fun g=>by
 rw[hx]
 split
 ·exact h _
 ·exact h _
theorem jI{M:Model}{α:Type}{Q:α→SortSt→Prop}{z:SortSt}{c:Nat→Prop}{dc:∀i,Decidable (c i)}{x F:Array Keyed→Nat→StateT SortSt Sem α}{o:Array Keyed}{i:Nat}(P:Array Keyed→Nat→Prop)(h:∀o i,P o i→wpS M A E s (F o i) Q z)(h1:c i→(∀o i,P o i→wpS M A E s (F o i) Q z)→wpS M A E s (x o i) Q z)(h2:¬c i→P o i):∀o',o=o'→∀i',i=i'→wpS M A E s (@ite _ (c i') (dc i') (x o' i') (F o' i')) Q z:=by
 rintro _ rfl _ rfl
 split
 ·exact h1 ‹_› h
 ·exact h _ _ (h2 ‹_›)
theorem Em(C:eA O key prog w A E s a₀ kd){st:SortSt}{Q:Array Keyed→SortSt→Prop}(hk:kindOf st=kd)(W:Two O key a₀ xa xb)(h:∀r z,SamS st z→Made O key (xa.toList++xb.toList) r.toList→Q r z):wpS (model prog w) A E s (mt xa xb) Q st:=by
 obtain⟨T,hT⟩:∃T,T=xa.toList++xb.toList:=⟨_,rfl⟩
 rw[←hT] at h
 have na:=W.na
 have nb:=W.nb
 rw[Bi]
 refine wpS_bind (wpS_lift (wpAny_rule ⟨rfl,?_⟩))
 dsimp only
 have ey0:=bf (xs:=xb) (i:=0) (by lia)
 have ex0:=bf (xs:=xa) (i:=0) (by lia)
 have M0:Mg O key T #[xb[0]].toList (xa.toList.drop 0) (xb.toList.drop 1):=by
  have h0:Mg O key T [] (xa.toList.drop 0) (xb.toList.drop 0):=⟨by rw[hT];simp,List.Pairwise.nil,(fun x hx=>by cases hx),(fun x hx=>by cases hx),by simpa using W.ua,by simpa using W.ub⟩
  exact jG (o:=#[]) W h0 ex0 ey0 (Ordr.le_of_lt (W.first _ _ ex0 ey0))
 refine wpS_bind (bM ey0 ?_)
 by_cases e1:1=xb.size
 ·rw[if_pos (by rw[←e1];rfl)]
  exact wpS_pure (h _ st (SamS.refl _) (jg M0 e1))
 rw[if_neg (by simpa using e1)]
 by_cases e2:0+1=xa.size
 ·rw[if_pos (by rw[←e2];rfl)]
  exact wpS_pure (h _ st (SamS.refl _) (ji W M0 e2))
 rw[if_neg (by simpa using e2)]
 refine wpS_bind (wpS_get ?_)
 have J0:JLo O key xa xb T #[xb[0]] 0 1:=⟨M0,by lia,by lia,rfl⟩
 refine wpS_bind (wpS_mono (wpS_forRange (I:=fun x c z=>SamS st z∧∃o i j g,c=(none,o,i,j,g)∧JLo O key xa xb T o i j∧x+1≤o.size) (Q:=fun c z=>SamS st z∧∃r,c.1=some r∧Made O key T r.toList) ?out1 ?out2 ⟨SamS.refl _,_,_,_,_,rfl,J0,by simp⟩) ?out3)
 case out3=>
  rintro⟨c1,c2⟩ z ⟨SS,r,e,M⟩
  dsimp only at e
  subst e
  exact wpS_pure (h r z SS M)
 case out2=>
  rintro c z ⟨SS,o,i,j,g,rfl,J,hx⟩
  have:=J.sz;have:=J.i1;have:=J.j1
  lia
 case out1=>
  rintro x0 c z _ hx0 ⟨SS,o,i,j,g,rfl,J,hx⟩
  dsimp only
  have hkz:kindOf z=kd:=SS.kind.trans hk
  refine wpS_bind (wpS_mono (wpS_forRange (I:=fun x c z'=>z'=z∧∃o' i j ca cb,c=(none,o',i,j,ca,cb)∧JLo O key xa xb T o' i j∧o.size+min x 1≤o'.size) (Q:=fun c z'=>z'=z∧((∃o' i j ca cb,c=(none,o',i,j,ca,cb)∧JLo O key xa xb T o' i j∧o.size+1≤o'.size)∨∃r,c.1=some r∧Made O key T r.toList)) ?in1 ?in2 ⟨rfl,o,i,j,0,0,rfl,J,by lia⟩) ?in3)
  case in2=>
   rintro c z' ⟨rfl,o',i,j,ca,cb,rfl,J,hp⟩
   refine⟨rfl,.inl ⟨o',i,j,ca,cb,rfl,J,?_⟩⟩
   have:min (max 0 (xa.size+xb.size)) 1=1:=by lia
   lia
  case in1=>
   rintro x c z' _ hx ⟨rfl,o',i,j,ca,cb,rfl,J,hp⟩
   dsimp only
   have ex:=bf (xs:=xa) (i:=i) (by have:=J.i1;lia)
   have ey:=bf (xs:=xb) (i:=j) J.j1
   have i1:=J.i1
   have j1:=J.j1
   refine wpS_bind (bM ey (wpS_bind (bM ex (wpS_bind (C _ _ (W.mb _ _ ey) (W.ma _ _ ex) z' _ hkz ?_)))))
   dsimp only
   by_cases hc:O.lt (key xb[j]) (key xa[i])=true
   ·rw[if_pos hc]
    refine wpS_bind (bM ey ?_)
    have M1:=jG W J.mg ex ey (Ordr.le_of_lt hc)
    by_cases e:j+1=xb.size
    ·rw[if_pos (by simpa using e)]
     exact wpS_pure ⟨rfl,.inr ⟨_,rfl,jg M1 e⟩⟩
    ·rw[if_neg (by simpa using e)]
     have J1:JLo O key xa xb T (o'.push xb[j]) i (j+1):=⟨M1,i1,by lia,by rw[Array.size_push,J.sz];lia⟩
     have sz1:o.size+1≤(o'.push xb[j]).size:=by rw[Array.size_push];lia
     split
     ·exact wpS_pure ⟨rfl,.inl ⟨_,_,_,_,_,rfl,J1,sz1⟩⟩
     ·exact wpS_pure ⟨rfl,_,_,_,_,_,rfl,J1,by lia⟩
   ·rw[if_neg hc]
    refine wpS_bind (bM ex ?_)
    have M1:=ku W J.mg ex ey (Ordr.le_not hc)
    by_cases e:i+1+1=xa.size
    ·rw[if_pos (by simpa using e)]
     exact wpS_pure ⟨rfl,.inr ⟨_,rfl,ji W M1 e⟩⟩
    ·rw[if_neg (by simpa using e)]
     have J1:JLo O key xa xb T (o'.push xa[i]) (i+1) j:=⟨M1,by lia,j1,by rw[Array.size_push,J.sz];lia⟩
     have sz1:o.size+1≤(o'.push xa[i]).size:=by rw[Array.size_push];lia
     split
     ·exact wpS_pure ⟨rfl,.inl ⟨_,_,_,_,_,rfl,J1,sz1⟩⟩
     ·exact wpS_pure ⟨rfl,_,_,_,_,_,rfl,J1,by lia⟩
  case in3=>
   rintro c z' ⟨rfl,⟨o1,i,j,ca,cb,rfl,J1,hp⟩ | ⟨r,e,M⟩⟩
   ·dsimp only
    refine wpS_bind (wpS_lift (wpAny_rule ⟨rfl,?_⟩))
    refine wpS_bind (wpS_mono (wpS_forRange (I:=fun x c z=>SamS st z∧∃o' i j g ca cb,c=(none,o',i,j,g,ca,cb)∧JLo O key xa xb T o' i j∧o.size+1≤o'.size) (Q:=fun c z=>SamS st z∧((∃o' i j g ca cb,c=(none,o',i,j,g,ca,cb)∧JLo O key xa xb T o' i j∧o.size+1≤o'.size)∨∃r,c.1=some r∧Made O key T r.toList)) ?gl1 ?gl2 ⟨SS,o1,i,j,_,_,_,rfl,J1,hp⟩) ?gl3)
    case gl2=>
     rintro c z ⟨SS,h⟩
     exact⟨SS,.inl h⟩
    case gl3=>
     rintro c z ⟨SS,⟨o',i,j,g,ca,cb,rfl,J,hp⟩ | ⟨r,e,M⟩⟩
     ·dsimp only
      exact wpS_bind (lr (wpS_pure ⟨SS.setG _,_,_,_,_,rfl,J,by lia⟩))
     ·obtain⟨c1,c2⟩:=c
      dsimp only at e
      subst e
      exact wpS_pure ⟨SS,r,rfl,M⟩
    case gl1=>
     rintro x c z _ hx ⟨SS,o2,i,j,g,ca,cb,rfl,J,hp⟩
     dsimp only
     revert g
     refine u9 (fun g=>rfl) fun g=>?_
     refine wpS_bind (lr ?_)
     have SS1:=SS.setG g
     have i1:=J.i1
     have j1:=J.j1
     have jsz:=J.sz
     have ey:=bf (xs:=xb) (i:=j) j1
     refine wpS_bind (bM ey (wpS_bind (ik C (SS1.kind.trans hk) (W.mb _ _ ey) (fun q hq=>⟨_,bf (by lia),W.ma _ _ (bf (by lia))⟩) (iU W.ua _ _ (by lia)) (by lia) fun k eg=>?_)))
     dsimp only
     have M1:=vq W J.mg ey eg
     obtain⟨lk,ltk⟩:=tP W ey (by lia) eg
     obtain⟨ax,ex⟩:∃ax,xa[i+k]?=some ax:=⟨_,bf lk⟩
     have hlt:=ltk _ ex
     have sz1:=sV xa o2 i k (by lia)
     generalize hgi:i=i'
     revert i'
     generalize hgo:o2=o'
     revert o'
     refine jI (o:=o2) (i:=i) (fun o3 i3=>i3+1<xa.size∧Mg O key T o3.toList (xa.toList.drop i3) (xb.toList.drop j)∧o3.size=i3+j∧o.size+1≤o3.size∧xa[i3]?=some ax) ?b1 (fun hk0 hF=>?w1) (fun hk0=>?w2)
     case w1=>
      by_cases ea:i+k+1=xa.size
      ·rw[if_pos (by simpa using ea)]
       exact wpS_pure ⟨SS1,.inr ⟨_,rfl,ji W M1 ea⟩⟩
      ·rw[if_neg (by simpa using ea),if_neg (by simp;lia)]
       exact hF _ _ ⟨by lia,M1,by lia,by lia,ex⟩
     case w2=>
      have e5:k=0:=by lia
      subst e5
      exact⟨i1,J.mg,jsz,hp,ex⟩
     case b1=>
      rintro o3 i3 ⟨hi3,M3,z3,p3,x3⟩
      refine wpS_bind (bM ey ?_)
      have M4:=jG W M3 x3 ey (Ordr.le_of_lt hlt)
      by_cases eb:j+1=xb.size
      ·rw[if_pos (by simpa using eb)]
       exact wpS_pure ⟨SS1,.inr ⟨_,rfl,jg M4 eb⟩⟩
      ·rw[if_neg (by simpa using eb)]
       refine wpS_bind (bM x3 (wpS_bind (ik C (SS1.kind.trans hk) (W.ma _ _ x3) (fun q hq=>⟨_,bf (by lia),W.mb _ _ (bf (by lia))⟩) (iU W.ub _ _ (by lia)) (by lia) fun k2 eg2=>?_)))
       dsimp only
       obtain⟨M5,le5⟩:=qC W M4 x3 eg2
       have hk2:=eg2.le
       obtain⟨o4,e4⟩:∃o4,o4=o3.push xb[j]:=⟨_,rfl⟩
       obtain⟨j4,e8⟩:∃j4,j4=j+1:=⟨_,rfl⟩
       have sz4:o4.size=o3.size+1:=by rw[e4,Array.size_push]
       rw[←e4] at M4 M5 ⊢
       rw[←e8] at M4 M5 le5 hk2 eb ⊢
       have gd:=sV xb o4 j4 k2 (by lia)
       generalize hgi:j4=j'
       revert j'
       generalize hgo:o4=o'
       revert o'
       refine jI (o:=o4) (i:=j4) (fun o5 j5=>j5<xb.size∧Mg O key T (o5.push ax).toList (xa.toList.drop (i3+1)) (xb.toList.drop j5)∧o5.size=i3+j5∧o.size+1≤o5.size) ?b2 (fun hk0 hF=>?w3) (fun hk0=>?w4)
       case w3=>
        by_cases ec:j4+k2=xb.size
        ·rw[if_pos (by simpa using ec)]
         exact wpS_pure ⟨SS1,.inr ⟨_,rfl,jg M5 ec⟩⟩
        ·rw[if_neg (by simpa using ec)]
         have ey5:=bf (xs:=xb) (i:=j4+k2) (by lia)
         exact hF _ _ ⟨by lia,ku W M5 x3 ey5 (le5 _ (by lia) ey5),by lia,by lia⟩
       case w4=>
        have e5:k2=0:=by lia
        subst e5
        have ey5:=bf (xs:=xb) (i:=j4) (by lia)
        exact⟨by lia,ku W M4 x3 ey5 (le5 _ (by lia) ey5),by lia,by lia⟩
       case b2=>
        rintro o5 j5 ⟨hj5,M6,z5,p5⟩
        refine wpS_bind (bM x3 ?_)
        by_cases ed:i3+1+1=xa.size
        ·rw[if_pos (by simpa using ed)]
         exact wpS_pure ⟨SS1,.inr ⟨_,rfl,ji W M6 ed⟩⟩
        ·rw[if_neg (by simpa using ed)]
         have J6:JLo O key xa xb T (o5.push ax) (i3+1) j5:=⟨M6,by lia,by lia,by rw[Array.size_push];lia⟩
         have p6:=J6.sz
         split
         ·exact wpS_pure ⟨SS1,.inl ⟨_,_,_,_,_,_,rfl,J6,by rw[p6];lia⟩⟩
         ·exact wpS_pure ⟨SS1,_,_,_,_,_,_,rfl,J6,by rw[p6];lia⟩
   ·obtain⟨c1,c2⟩:=c
    dsimp only at e
    subst e
    exact wpS_pure ⟨SS,r,rfl,M⟩
end
def Ordr.flip{κ:Type}(O:Ordr κ):Ordr κ:=⟨fun a b=>O.lt b a,O.irr,fun _ _ _ h1 h2=>O.tr _ _ _ h2 h1,fun _ b _ h=>(O.neg _ b _ h).symm⟩
def ol:Array Keyed→Array Keyed→StateT SortSt Sem (Array Keyed):=sortPriv% PySem.Builtin.mergeHi
theorem zo(xa xb:Array Keyed):ol xa xb=(do
 rule "list.sort.merge-hi"
 let tot:=xa.size+xb.size
 let fin (o:Array Keyed) (i j:Nat):=xa.extract 0 i++xb.extract 0 j++o.reverse
 let oneB (o:Array Keyed) (i j:Nat):=xb.extract 0 j++xa.extract 0 i++o.reverse
 let mut i:=xa.size-1
 let mut j:=xb.size
 let mut o:Array Keyed:=#[←elem' xa i]
 if i == 0 then return fin o i j
 if j == 1 then return oneB o i j
 let mut mg:=gallopOf (←get)
 for _ in [0:tot] do
  let mut ca:=0
  let mut cb:=0
  for _ in [0:tot] do
   let some won←lt' (←elem' xb (j-1)) (←elem' xa (i-1)) | return fin o i j
   if won then
    i:=i-1;o:=o.push (←elem' xa i);ca:=ca+1;cb:=0
    if i == 0 then return fin o i j
    if ca≥mg then break
   else
    j:=j-1;o:=o.push (←elem' xb j);cb:=cb+1;ca:=0
    if j == 1 then return oneB o i j
    if cb≥mg then break
  rule "list.sort.gallop"
  mg:=mg+1
  for _ in [0:tot] do
   if mg>1 then mg:=mg-1
   setG mg
   let some p←fL false (←elem' xb (j-1)) xa 0 i (i-1) | return fin o i j
   let k:=i-p
   ca:=k
   if k>0 then
    o:=o++(xa.extract p i).reverse;i:=p
    if i == 0 then return fin o i j
   j:=j-1;o:=o.push (←elem' xb j)
   if j == 1 then return oneB o i j
   let some p←fL true (←elem' xa (i-1)) xb 0 j (j-1) | return fin o i j
   let k:=j-p
   cb:=k
   if k>0 then
    o:=o++(xb.extract p j).reverse;j:=p
    if j == 1 then return oneB o i j
    if j == 0 then return fin o i j
   i:=i-1;o:=o.push (←elem' xa i)
   if i == 0 then return fin o i j
   if ca<7 && cb<7 then break
  mg:=mg+1
  setG mg
 unsupported "internal:list.sort.merge-bound"):=rfl
section
variable{κ:Type}{O:Ordr κ}{key:Keyed→κ}{prog:Program}{w:World}{A:Around}{E:Value→Shared→Prop}{s:Shared}{a₀:Array Keyed}{kd:SortKind}
theorem m5{xs:Array Keyed}{n q:Nat}(hn:n≤xs.size)(hq:q<n):xs.reverse[xs.size-n+q]?=xs[n-1-q]?:=by
 rw[Array.getElem?_reverse (by lia)]
 congr 1
 lia
theorem jB{xs:Array Keyed}{n q:Nat}(hn:n≤xs.size)(hq:q<n):kk key xs.reverse (xs.size-n+q)=kk key xs (n-1-q):=cE key (m5 hn hq)
theorem uF(xs:Array Keyed){p n:Nat}(hp:p≤n)(hn:n≤xs.size):(xs.extract p n).reverse=xs.reverse.extract (xs.size-n) (xs.size-n+(n-p)):=by
 apply Array.ext
 ·simp;lia
 ·intro i h1 h2
  simp only[Array.getElem_reverse,Array.getElem_extract]
  simp at h1
  congr 1
  simp
  lia
theorem Up.flip{xs:List Keyed}(h:Up O key xs):Up O.flip key xs.reverse:=List.pairwise_reverse.mpr h
theorem Made.flip{T T' r:List Keyed}(h:Made O.flip key T r)(p:T.Perm T'):Made O key T' r.reverse:=⟨(List.reverse_perm _).trans (h.1.trans p),List.pairwise_reverse.mpr h.2⟩
theorem Two.flip{xa xb:Array Keyed}(W:Two O key a₀ xa xb):Two O.flip key a₀ xb.reverse xa.reverse:=by
 have na:=W.na
 have nb:=W.nb
 have gb:∀(i:Nat) (x:Keyed),xb.reverse[i]?=some x→∃j:Nat,xb[j]?=some x∧i<xb.size∧j=xb.size-1-i:=fun i x e=>by
  have hi:i<xb.size:=by
   have:=(Array.getElem?_eq_some_iff.mp e).1
   simpa using this
  rw[Array.getElem?_reverse hi] at e
  exact⟨_,e,hi,rfl⟩
 have ga:∀(i:Nat) (x:Keyed),xa.reverse[i]?=some x→∃j:Nat,xa[j]?=some x∧i<xa.size∧j=xa.size-1-i:=fun i x e=>by
  have hi:i<xa.size:=by
   have:=(Array.getElem?_eq_some_iff.mp e).1
   simpa using this
  rw[Array.getElem?_reverse hi] at e
  exact⟨_,e,hi,rfl⟩
 refine⟨fun i x e=>?_,fun i x e=>?_,by rw[Array.toList_reverse];exact W.ub.flip,by rw[Array.toList_reverse];exact W.ua.flip,by simpa using nb,by simpa using na,fun x y ex ey=>?_,fun x y j ex ey=>?_⟩
 ·obtain⟨j,e',_⟩:=gb i x e
  exact W.mb j x e'
 ·obtain⟨j,e',_⟩:=ga i x e
  exact W.ma j x e'
 ·obtain⟨j,e1,_,h1⟩:=gb 0 x ex
  obtain⟨k,e2,_,h2⟩:=ga 0 y ey
  subst h2
  exact W.last y x j e2 e1
 ·obtain⟨k,e1,_,h1⟩:=gb _ x ex
  obtain⟨m,e2,_,h2⟩:=ga _ y ey
  rw[Array.size_reverse] at h1
  have hk:k=0:=by lia
  subst hk
  have ea0:=bf (xs:=xa) (i:=0) (by lia)
  have lt0:=W.first _ x ea0 e1
  have hr:=iU W.ua 0 xa.size (Nat.le_refl _) 0 m (Nat.le_refl _) (Nat.zero_le _) (by lia)
  rw[bV ea0,bV e2] at hr
  have:=Ordr.lt_le (O:=O) lt0 hr
  exact this
theorem wG{xs:Array Keyed}{n p:Nat}{y:Keyed}(hn:n≤xs.size)(g:Edge (bi O key false y xs 0) n p):Edge (bi O.flip key true y xs.reverse (xs.size-n)) (xs.reverse.size-(xs.size-n)) (n-p):=by
 have hp:=g.le
 refine⟨by rw[Array.size_reverse];lia,fun q hq=>?_,fun q h1 h2=>?_⟩
 ·have:=g.no (n-1-q) (by lia) (by lia)
  unfold bi at this ⊢
  rw[if_neg Bool.false_ne_true,Nat.zero_add] at this
  rw[if_pos rfl,jB hn (by lia)]
  show O.lt (key y) _=true
  cases z:O.lt (key y) (kk key xs (n-1-q)) with
  | true=>rfl
  | false=>rw[z] at this;cases this
 ·rw[Array.size_reverse] at h2
  have:=g.yes (n-1-q) (by lia)
  unfold bi at this ⊢
  rw[if_neg Bool.false_ne_true,Nat.zero_add] at this
  rw[if_pos rfl,jB hn (by lia)]
  show O.lt (key y) _=false
  cases z:O.lt (key y) (kk key xs (n-1-q)) with
  | false=>rfl
  | true=>rw[z] at this;cases this
theorem qx{xs:Array Keyed}{n p:Nat}{y:Keyed}(hn:n≤xs.size)(g:Edge (bi O key true y xs 0) n p):Edge (bi O.flip key false y xs.reverse (xs.size-n)) (xs.reverse.size-(xs.size-n)) (n-p):=by
 have hp:=g.le
 refine⟨by rw[Array.size_reverse];lia,fun q hq=>?_,fun q h1 h2=>?_⟩
 ·have:=g.no (n-1-q) (by lia) (by lia)
  unfold bi at this ⊢
  rw[if_pos rfl,Nat.zero_add] at this
  rw[if_neg Bool.false_ne_true,jB hn (by lia)]
  show(!O.lt _ (key y))=true
  rw[this];rfl
 ·rw[Array.size_reverse] at h2
  have:=g.yes (n-1-q) (by lia)
  unfold bi at this ⊢
  rw[if_pos rfl,Nat.zero_add] at this
  rw[if_neg Bool.false_ne_true,jB hn (by lia)]
  show(!O.lt _ (key y))=false
  rw[this];rfl
variable{xa xb:Array Keyed}{T:List Keyed}{o:Array Keyed}{i j:Nat}
theorem ko(xs:Array Keyed){n:Nat}(hn:n≤xs.size):(xs.reverse.toList.drop (xs.size-n)).reverse=(xs.extract 0 n).toList:=by
 rw[Array.toList_reverse,List.drop_reverse,List.reverse_reverse,Array.toList_extract,List.extract_eq_drop_take,Array.length_toList,List.drop_zero]
 congr 1
 lia
theorem Ej{na nb:Nat}(ha:na≤xa.size)(hb:nb≤xb.size)(h:Mg O.flip key (xb.reverse.toList++xa.reverse.toList) o.toList (xb.reverse.toList.drop (xb.size-nb)) (xa.reverse.toList.drop (xa.size-na)))(e:na=0):Made O key (xa.toList++xb.toList) (xa.extract 0 na++xb.extract 0 nb++o.reverse).toList:=by
 have:=jg h (by rw[Array.size_reverse];lia)
 have m:=this.flip (T':=xa.toList++xb.toList) (by
  rw[Array.toList_reverse,Array.toList_reverse]
  exact((List.reverse_perm _).append (List.reverse_perm _)).trans List.perm_append_comm)
 rw[Array.toList_append,Array.toList_append,fN,fN,List.reverse_append,List.reverse_append,ko xa ha,ko xb hb] at m
 rw[Array.toList_append,Array.toList_append,Array.toList_reverse,List.append_assoc]
 exact m
theorem vQ{na nb:Nat}(ha:na≤xa.size)(hb:nb≤xb.size)(W:Two O.flip key a₀ xb.reverse xa.reverse)(h:Mg O.flip key (xb.reverse.toList++xa.reverse.toList) o.toList (xb.reverse.toList.drop (xb.size-nb)) (xa.reverse.toList.drop (xa.size-na)))(e:nb=1):Made O key (xa.toList++xb.toList) (xb.extract 0 nb++xa.extract 0 na++o.reverse).toList:=by
 have:=ji W h (by rw[Array.size_reverse];lia)
 have m:=this.flip (T':=xa.toList++xb.toList) (by
  rw[Array.toList_reverse,Array.toList_reverse]
  exact((List.reverse_perm _).append (List.reverse_perm _)).trans List.perm_append_comm)
 rw[Array.toList_append,Array.toList_append,fN,fN,List.reverse_append,List.reverse_append,ko xa ha,ko xb hb] at m
 rw[Array.toList_append,Array.toList_append,Array.toList_reverse,List.append_assoc]
 exact m
structure JHi(O:Ordr κ)(key:Keyed→κ)(xa xb:Array Keyed)(T:List Keyed)(o:Array Keyed)(i j:Nat):Prop where
 mg:Mg O.flip key T o.toList (xb.reverse.toList.drop (xb.size-j)) (xa.reverse.toList.drop (xa.size-i))
 i1:1≤i
 i2:i≤xa.size
 j1:2≤j
 j2:j≤xb.size
 sz:o.size=(xa.size-i)+(xb.size-j)
theorem rj(o xs:Array Keyed){p n:Nat}(hn:n≤xs.size):(o++(xs.extract p n).reverse).size=o.size+(n-p):=by
 rw[Array.size_append,Array.size_reverse,Array.size_extract];lia
theorem Db(C:eA O key prog w A E s a₀ kd){st:SortSt}{Q:Array Keyed→SortSt→Prop}(hk:kindOf st=kd)(V:Two O key a₀ xa xb)(h:∀r z,SamS st z→Made O key (xa.toList++xb.toList) r.toList→Q r z):wpS (model prog w) A E s (ol xa xb) Q st:=by
 have W:=V.flip
 have na:=V.na
 have nb:=V.nb
 obtain⟨T,hT⟩:∃T,T=xb.reverse.toList++xa.reverse.toList:=⟨_,rfl⟩
 have fin:∀{o:Array Keyed} {i j:Nat},i≤xa.size→j≤xb.size→Mg O.flip key T o.toList (xb.reverse.toList.drop (xb.size-j)) (xa.reverse.toList.drop (xa.size-i))→i=0→Made O key (xa.toList++xb.toList) (xa.extract 0 i++xb.extract 0 j++o.reverse).toList:=fun h1 h2 m e=>by
  rw[hT] at m
  exact Ej h1 h2 m e
 have oneB:∀{o:Array Keyed} {i j:Nat},i≤xa.size→j≤xb.size→Mg O.flip key T o.toList (xb.reverse.toList.drop (xb.size-j)) (xa.reverse.toList.drop (xa.size-i))→j=1→Made O key (xa.toList++xb.toList) (xb.extract 0 j++xa.extract 0 i++o.reverse).toList:=fun h1 h2 m e=>by
  rw[hT] at m
  exact vQ h1 h2 W m e
 generalize xa.toList++xb.toList=TT at h fin oneB
 have sa:xa.reverse.size=xa.size:=Array.size_reverse
 have sb:xb.reverse.size=xb.size:=Array.size_reverse
 have atA:∀{i:Nat} {x:Keyed},1≤i→i≤xa.size→xa[i-1]?=some x→xa.reverse[xa.size-i]?=some x:=fun{i x} h1 h2 e=>by
  have:=m5 (xs:=xa) (n:=i) (q:=0) h2 (by lia)
  rw[Nat.add_zero,Nat.sub_zero] at this
  rw[this];exact e
 have atB:∀{i:Nat} {x:Keyed},1≤i→i≤xb.size→xb[i-1]?=some x→xb.reverse[xb.size-i]?=some x:=fun{i x} h1 h2 e=>by
  have:=m5 (xs:=xb) (n:=i) (q:=0) h2 (by lia)
  rw[Nat.add_zero,Nat.sub_zero] at this
  rw[this];exact e
 have pushA:∀{o:Array Keyed} {i j:Nat} {x y:Keyed},1≤i→i≤xa.size→1≤j→j≤xb.size→xb[j-1]?=some x→xa[i-1]?=some y→O.lt (key x) (key y)=true→Mg O.flip key T o.toList (xb.reverse.toList.drop (xb.size-j)) (xa.reverse.toList.drop (xa.size-i))→Mg O.flip key T (o.push y).toList (xb.reverse.toList.drop (xb.size-j)) (xa.reverse.toList.drop (xa.size-(i-1))):=fun{o i j x y} h1 h2 h3 h4 ex ey hc m=>by
  have:=jG W m (atB h3 h4 ex) (atA h1 h2 ey) (Ordr.le_of_lt (O:=O.flip) hc)
  rw[show xa.size-(i-1)=xa.size-i+1 by lia]
  exact this
 have pushB:∀{o:Array Keyed} {i j:Nat} {x y:Keyed},1≤i→i≤xa.size→1≤j→j≤xb.size→xb[j-1]?=some x→xa[i-1]?=some y→O.le (key y) (key x)→Mg O.flip key T o.toList (xb.reverse.toList.drop (xb.size-j)) (xa.reverse.toList.drop (xa.size-i))→Mg O.flip key T (o.push x).toList (xb.reverse.toList.drop (xb.size-(j-1))) (xa.reverse.toList.drop (xa.size-i)):=fun{o i j x y} h1 h2 h3 h4 ex ey hc m=>by
  have:=ku W m (atB h3 h4 ex) (atA h1 h2 ey) (show O.flip.le (key x) (key y) from hc)
  rw[show xb.size-(j-1)=xb.size-j+1 by lia]
  exact this
 have galA:∀{o:Array Keyed} {i j p:Nat} {x:Keyed},1≤i→i≤xa.size→1≤j→j≤xb.size→xb[j-1]?=some x→Edge (bi O key false x xa 0) i p→Mg O.flip key T o.toList (xb.reverse.toList.drop (xb.size-j)) (xa.reverse.toList.drop (xa.size-i))→Mg O.flip key T (o++(xa.extract p i).reverse).toList (xb.reverse.toList.drop (xb.size-j)) (xa.reverse.toList.drop (xa.size-p))∧∀y,1≤p→xa[p-1]?=some y→O.le (key y) (key x):=fun{o i j p x} h1 h2 h3 h4 ex g m=>by
  have gl:=g.le
  obtain⟨m1,m2⟩:=qC W m (atB h3 h4 ex) (wG h2 g)
  rw[←uF xa gl h2,show xa.size-i+(i-p)=xa.size-p by lia] at m1
  refine⟨m1,fun y hp ey=>?_⟩
  have:=m2 y (by rw[sa];lia) (by rw[show xa.size-i+(i-p)=xa.size-p by lia];exact atA hp (by lia) ey)
  exact this
 have galB:∀{o:Array Keyed} {i j p:Nat} {y:Keyed},1≤i→i≤xa.size→1≤j→j≤xb.size→xa[i-1]?=some y→Edge (bi O key true y xb 0) j p→Mg O.flip key T o.toList (xb.reverse.toList.drop (xb.size-j)) (xa.reverse.toList.drop (xa.size-i))→Mg O.flip key T (o++(xb.extract p j).reverse).toList (xb.reverse.toList.drop (xb.size-p)) (xa.reverse.toList.drop (xa.size-i))∧1≤p∧∀x,xb[p-1]?=some x→O.lt (key x) (key y)=true:=fun{o i j p y} h1 h2 h3 h4 ey g m=>by
  have gl:=g.le
  have m1:=vq W m (atA h1 h2 ey) (qx h4 g)
  obtain⟨l1,l2⟩:=tP W (atA h1 h2 ey) (i:=xb.size-j) (by rw[sb];lia) (qx h4 g)
  rw[sb] at l1
  rw[←uF xb gl h4,show xb.size-j+(j-p)=xb.size-p by lia] at m1
  refine⟨m1,by lia,fun x ex=>?_⟩
  have:=l2 x (by rw[show xb.size-j+(j-p)=xb.size-p by lia];exact atB (by lia) (by lia) ex)
  exact this
 rw[zo]
 refine wpS_bind (wpS_lift (wpAny_rule ⟨rfl,?_⟩))
 dsimp only
 have ea0:=bf (xs:=xa) (i:=xa.size-1) (by lia)
 have eb0:=bf (xs:=xb) (i:=xb.size-1) (by lia)
 have M0:Mg O.flip key T #[xa[xa.size-1]].toList (xb.reverse.toList.drop (xb.size-xb.size)) (xa.reverse.toList.drop (xa.size-(xa.size-1))):=by
  have h0:Mg O.flip key T (#[]:Array Keyed).toList (xb.reverse.toList.drop (xb.size-xb.size)) (xa.reverse.toList.drop (xa.size-xa.size)):=⟨by rw[hT];simp,List.Pairwise.nil,(fun x hx=>by cases hx),(fun x hx=>by cases hx),by simpa using W.ua,by simpa using W.ub⟩
  exact pushA (i:=xa.size) (j:=xb.size) na (Nat.le_refl _) nb (Nat.le_refl _) eb0 ea0 (V.last _ _ _ ea0 eb0) h0
 refine wpS_bind (bM ea0 ?_)
 by_cases e1:xa.size-1=0
 ·rw[if_pos (by simpa using e1)]
  exact wpS_pure (h _ st (SamS.refl _) (fin (by lia) (Nat.le_refl _) M0 e1))
 rw[if_neg (by simpa using e1)]
 by_cases e2:xb.size=1
 ·rw[if_pos (by simpa using e2)]
  exact wpS_pure (h _ st (SamS.refl _) (oneB (by lia) (Nat.le_refl _) M0 e2))
 rw[if_neg (by simpa using e2)]
 refine wpS_bind (wpS_get ?_)
 have J0:JHi O key xa xb T #[xa[xa.size-1]] (xa.size-1) xb.size:=⟨M0,by lia,by lia,by lia,Nat.le_refl _,by simp;lia⟩
 refine wpS_bind (wpS_mono (wpS_forRange (I:=fun x c z=>SamS st z∧∃o i j g,c=(none,i,j,o,g)∧JHi O key xa xb T o i j∧x+1≤o.size) (Q:=fun c z=>SamS st z∧∃r,c.1=some r∧Made O key TT r.toList) ?out1 ?out2 ⟨SamS.refl _,_,_,_,_,rfl,J0,by simp⟩) ?out3)
 case out3=>
  rintro⟨c1,c2⟩ z ⟨SS,r,e,M⟩
  dsimp only at e
  subst e
  exact wpS_pure (h r z SS M)
 case out2=>
  rintro c z ⟨SS,o,i,j,g,rfl,J,hx⟩
  have:=J.sz;have:=J.i1;have:=J.j1
  lia
 case out1=>
  rintro x0 c z _ hx0 ⟨SS,o,i,j,g,rfl,J,hx⟩
  dsimp only
  have hkz:kindOf z=kd:=SS.kind.trans hk
  refine wpS_bind (wpS_mono (wpS_forRange (I:=fun x c z'=>z'=z∧∃o' i j ca cb,c=(none,i,j,o',ca,cb)∧JHi O key xa xb T o' i j∧o.size+min x 1≤o'.size) (Q:=fun c z'=>z'=z∧((∃o' i j ca cb,c=(none,i,j,o',ca,cb)∧JHi O key xa xb T o' i j∧o.size+1≤o'.size)∨∃r,c.1=some r∧Made O key TT r.toList)) ?in1 ?in2 ⟨rfl,o,i,j,0,0,rfl,J,by lia⟩) ?in3)
  case in2=>
   rintro c z' ⟨rfl,o',i,j,ca,cb,rfl,J,hp⟩
   refine⟨rfl,.inl ⟨o',i,j,ca,cb,rfl,J,?_⟩⟩
   have:min (max 0 (xa.size+xb.size)) 1=1:=by lia
   lia
  case in1=>
   rintro x c z' _ hx ⟨rfl,o',i,j,ca,cb,rfl,J,hp⟩
   dsimp only
   have i1:=J.i1
   have i2:=J.i2
   have j1:=J.j1
   have j2:=J.j2
   have sz:=J.sz
   have ey:=bf (xs:=xa) (i:=i-1) (by lia)
   have ex:=bf (xs:=xb) (i:=j-1) (by lia)
   refine wpS_bind (bM ex (wpS_bind (bM ey (wpS_bind (C _ _ (V.mb _ _ ex) (V.ma _ _ ey) z' _ hkz ?_)))))
   dsimp only
   by_cases hc:O.lt (key xb[j-1]) (key xa[i-1])=true
   ·rw[if_pos hc]
    refine wpS_bind (bM ey ?_)
    have M1:=pushA i1 i2 (by lia) j2 ex ey hc J.mg
    by_cases e:i-1=0
    ·rw[if_pos (by simpa using e)]
     exact wpS_pure ⟨rfl,.inr ⟨_,rfl,fin (by lia) j2 M1 e⟩⟩
    ·rw[if_neg (by simpa using e)]
     have J1:JHi O key xa xb T (o'.push xa[i-1]) (i-1) j:=⟨M1,by lia,by lia,j1,j2,by rw[Array.size_push];lia⟩
     have sz1:o.size+1≤(o'.push xa[i-1]).size:=by rw[Array.size_push];lia
     split
     ·exact wpS_pure ⟨rfl,.inl ⟨_,_,_,_,_,rfl,J1,sz1⟩⟩
     ·exact wpS_pure ⟨rfl,_,_,_,_,_,rfl,J1,by lia⟩
   ·rw[if_neg hc]
    refine wpS_bind (bM ex ?_)
    have M1:=pushB i1 i2 (by lia) j2 ex ey (Ordr.le_not hc) J.mg
    by_cases e:j-1=1
    ·rw[if_pos (by simpa using e)]
     exact wpS_pure ⟨rfl,.inr ⟨_,rfl,oneB i2 (by lia) M1 e⟩⟩
    ·rw[if_neg (by simpa using e)]
     have J1:JHi O key xa xb T (o'.push xb[j-1]) i (j-1):=⟨M1,i1,i2,by lia,by lia,by rw[Array.size_push];lia⟩
     have sz1:o.size+1≤(o'.push xb[j-1]).size:=by rw[Array.size_push];lia
     split
     ·exact wpS_pure ⟨rfl,.inl ⟨_,_,_,_,_,rfl,J1,sz1⟩⟩
     ·exact wpS_pure ⟨rfl,_,_,_,_,_,rfl,J1,by lia⟩
  case in3=>
   rintro c z' ⟨rfl,⟨o1,i,j,ca,cb,rfl,J1,hp⟩ | ⟨r,e,M⟩⟩
   ·dsimp only
    refine wpS_bind (wpS_lift (wpAny_rule ⟨rfl,?_⟩))
    refine wpS_bind (wpS_mono (wpS_forRange (I:=fun x c z=>SamS st z∧∃o' i j g ca cb,c=(none,i,j,o',g,ca,cb)∧JHi O key xa xb T o' i j∧o.size+1≤o'.size) (Q:=fun c z=>SamS st z∧((∃o' i j g ca cb,c=(none,i,j,o',g,ca,cb)∧JHi O key xa xb T o' i j∧o.size+1≤o'.size)∨∃r,c.1=some r∧Made O key TT r.toList)) ?gl1 ?gl2 ⟨SS,o1,i,j,_,_,_,rfl,J1,hp⟩) ?gl3)
    case gl2=>
     rintro c z ⟨SS,h⟩
     exact⟨SS,.inl h⟩
    case gl3=>
     rintro c z ⟨SS,⟨o',i,j,g,ca,cb,rfl,J,hp⟩ | ⟨r,e,M⟩⟩
     ·dsimp only
      exact wpS_bind (lr (wpS_pure ⟨SS.setG _,_,_,_,_,rfl,J,by lia⟩))
     ·obtain⟨c1,c2⟩:=c
      dsimp only at e
      subst e
      exact wpS_pure ⟨SS,r,rfl,M⟩
    case gl1=>
     rintro x c z _ hx ⟨SS,o2,i,j,g,ca,cb,rfl,J,hp⟩
     dsimp only
     revert g
     refine u9 (fun g=>rfl) fun g=>?_
     refine wpS_bind (lr ?_)
     have SS1:=SS.setG g
     have i1:=J.i1
     have i2:=J.i2
     have j1:=J.j1
     have j2:=J.j2
     have sz:=J.sz
     obtain⟨bx,ex⟩:∃bx,xb[j-1]?=some bx:=⟨_,bf (by lia)⟩
     refine wpS_bind (bM ex (wpS_bind (ik C (SS1.kind.trans hk) (V.mb _ _ ex) (fun q hq=>⟨_,bf (by lia),V.ma _ _ (bf (by lia))⟩) (iU V.ua _ _ (by lia)) (by lia) fun p eg=>?_)))
     dsimp only
     obtain⟨M1,le1⟩:=galA i1 i2 (by lia) j2 ex eg J.mg
     have pl:=eg.le
     have sz1:=rj o2 xa (p:=p) i2
     generalize hkk:i-p=k1
     generalize hgi:i=i'
     revert i'
     generalize hgo:o2=o'
     revert o'
     refine jI (o:=o2) (i:=i) (fun o3 i3=>(1≤i3∧i3≤xa.size)∧Mg O.flip key T o3.toList (xb.reverse.toList.drop (xb.size-j)) (xa.reverse.toList.drop (xa.size-i3))∧o3.size=(xa.size-i3)+(xb.size-j)∧o.size+1≤o3.size∧∃ay,xa[i3-1]?=some ay∧O.le (key ay) (key bx)) ?b1 (fun hk0 hF=>?w1) (fun hk0=>?w2)
     case w1=>
      by_cases ea:p=0
      ·rw[if_pos (by simpa using ea)]
       exact wpS_pure ⟨SS1,.inr ⟨_,rfl,fin (by lia) j2 M1 ea⟩⟩
      ·rw[if_neg (by simpa using ea)]
       obtain⟨ay,ey⟩:∃ay,xa[p-1]?=some ay:=⟨_,bf (by lia)⟩
       exact hF (o2++(xa.extract p i).reverse) p ⟨by lia,M1,by lia,by lia,ay,ey,le1 _ (by lia) ey⟩
     case w2=>
      have e5:p=i:=by lia
      subst e5
      obtain⟨ay,ey⟩:∃ay,xa[p-1]?=some ay:=⟨_,bf (by lia)⟩
      exact⟨⟨i1,i2⟩,J.mg,sz,hp,ay,ey,le1 _ (by lia) ey⟩
     case b1=>
      rintro o3 i3 ⟨hi3,M3,z3,p3,ay,y3,le3⟩
      refine wpS_bind (bM ex ?_)
      have M4:=pushB hi3.1 hi3.2 (by lia) j2 ex y3 le3 M3
      by_cases eb:j-1=1
      ·rw[if_pos (by simpa using eb)]
       exact wpS_pure ⟨SS1,.inr ⟨_,rfl,oneB hi3.2 (by lia) M4 eb⟩⟩
      ·rw[if_neg (by simpa using eb)]
       clear M1 le1 pl sz1 eg
       obtain⟨o4,e4⟩:∃o4,o4=o3.push bx:=⟨_,rfl⟩
       obtain⟨j4,e8⟩:∃j4,j4=j-1:=⟨_,rfl⟩
       have sz4:o4.size=o3.size+1:=by rw[e4,Array.size_push]
       rw[←e4] at M4 ⊢
       rw[←e8] at M4 eb ⊢
       have j41:2≤j4:=by lia
       have j42:j4≤xb.size:=by lia
       have z4:o4.size=(xa.size-i3)+(xb.size-j4):=by lia
       have p4:o.size+1≤o4.size:=by lia
       clear z3 p3 M3 e4 e8 ex sz4 eb j1 j2 sz
       refine wpS_bind (bM y3 (wpS_bind (ik C (SS1.kind.trans hk) (V.ma _ _ y3) (fun q hq=>⟨_,bf (by lia),V.mb _ _ (bf (by lia))⟩) (iU V.ub _ _ (by lia)) (by lia) fun p2 eg2=>?_)))
       dsimp only
       obtain⟨M5,p21,lt5⟩:=galB hi3.1 hi3.2 (by lia) (by lia) y3 eg2 M4
       have hk2:=eg2.le
       have gd:=rj o4 xb (p:=p2) (n:=j4) (by lia)
       generalize hkk2:j4-p2=k2
       generalize hgi:j4=j'
       revert j'
       generalize hgo:o4=o'
       revert o'
       refine jI (o:=o4) (i:=j4) (fun o5 j5=>(2≤j5∧j5≤xb.size)∧Mg O.flip key T (o5.push ay).toList (xb.reverse.toList.drop (xb.size-j5)) (xa.reverse.toList.drop (xa.size-(i3-1)))∧o5.size=(xa.size-i3)+(xb.size-j5)∧o.size+1≤o5.size) ?b2 (fun hk0 hF=>?w3) (fun hk0=>?w4)
       case w3=>
        by_cases ec:p2=1
        ·rw[if_pos (by simpa using ec)]
         exact wpS_pure ⟨SS1,.inr ⟨_,rfl,oneB hi3.2 (by lia) M5 ec⟩⟩
        ·rw[if_neg (by simpa using ec),if_neg (by simp;lia)]
         obtain⟨bx5,ex5⟩:∃bx5,xb[p2-1]?=some bx5:=⟨_,bf (by lia)⟩
         exact hF (o4++(xb.extract p2 j4).reverse) p2 ⟨by lia,pushA hi3.1 hi3.2 p21 (by lia) ex5 y3 (lt5 _ ex5) M5,by lia,by lia⟩
       case w4=>
        have e9:p2=j4:=by lia
        subst e9
        obtain⟨bx5,ex5⟩:∃bx5,xb[p2-1]?=some bx5:=⟨_,bf (by lia)⟩
        exact⟨by lia,pushA hi3.1 hi3.2 p21 j42 ex5 y3 (lt5 _ ex5) M4,z4,p4⟩
       case b2=>
        rintro o5 j5 ⟨hj5,M6,z5,p5⟩
        clear M5 lt5 hk2 gd eg2 M4 z4 p4
        refine wpS_bind (bM y3 ?_)
        by_cases ed:i3-1=0
        ·rw[if_pos (by simpa using ed)]
         exact wpS_pure ⟨SS1,.inr ⟨_,rfl,fin (by lia) (by lia) M6 ed⟩⟩
        ·rw[if_neg (by simpa using ed)]
         have J6:JHi O key xa xb T (o5.push ay) (i3-1) j5:=⟨M6,by lia,by lia,by lia,by lia,by rw[Array.size_push];lia⟩
         have p6:=J6.sz
         split
         ·exact wpS_pure ⟨SS1,.inl ⟨_,_,_,_,_,_,rfl,J6,by rw[p6];lia⟩⟩
         ·exact wpS_pure ⟨SS1,_,_,_,_,_,_,rfl,J6,by rw[p6];lia⟩
   ·obtain⟨c1,c2⟩:=c
    dsimp only at e
    subst e
    exact wpS_pure ⟨SS,r,rfl,M⟩
end
section
variable{κ:Type}{O:Ordr κ}{key:Keyed→κ}{prog:Program}{w:World}{A:Around}{E:Value→Shared→Prop}{s:Shared}{a₀:Array Keyed}{kd:SortKind}
def ii(a:Array Keyed)(lo:Nat)(r:List (Keyed×Nat)):Array Keyed:=r.foldl (fun b q=>b.setIfInBounds (lo+q.2) q.1) a
theorem u6(lo:Nat):∀(r:List Keyed) (n:Nat) (a:Array Keyed),lo+n+r.length≤a.size→(ii a lo (r.zipIdx n)).toList=a.toList.take (lo+n)++r++a.toList.drop (lo+n+r.length)
 | [],n,a,h=>by simp[ii]
 | x::r,n,a,h=>by
   have hl:lo+n<a.toList.length:=by rw[Array.length_toList];simp at h;lia
   have ih:=u6 lo r (n+1) (a.setIfInBounds (lo+n) x) (by rw[Array.size_setIfInBounds];simp at h;lia)
   have e0:ii a lo ((x::r).zipIdx n)=ii (a.setIfInBounds (lo+n) x) lo (r.zipIdx (n+1)):=rfl
   rw[e0,ih,Array.toList_setIfInBounds,List.set_eq_take_append_cons_drop,if_pos hl]
   have tl:(a.toList.take (lo+n)).length=lo+n:=by rw[List.length_take];lia
   have e1:(a.toList.take (lo+n)++x::a.toList.drop (lo+n+1)).take (lo+(n+1))=a.toList.take (lo+n)++[x]:=by
    rw[List.take_append,tl,List.take_of_length_le (by rw[tl];lia),show lo+(n+1)-(lo+n)=1 by lia];rfl
   have e2:(a.toList.take (lo+n)++x::a.toList.drop (lo+n+1)).drop (lo+(n+1)+r.length)=a.toList.drop (lo+n+(x::r).length):=by
    rw[List.drop_append,tl,List.drop_eq_nil_of_le (by rw[tl];lia),List.nil_append,show lo+(n+1)+r.length-(lo+n)=r.length+1 by lia,List.drop_succ_cons,List.drop_drop,List.length_cons]
    congr 1
    lia
   rw[e1,e2]
   simp
theorem sI(a:Array Keyed){lo sb hi:Nat}(h1:lo≤sb)(h2:sb≤hi):(a.extract lo sb).toList++(a.extract sb hi).toList=(a.toList.drop lo).take (hi-lo):=by
 rw[Array.toList_extract,Array.toList_extract,List.extract_eq_drop_take,List.extract_eq_drop_take]
 have e1:(a.toList.drop lo).take (hi-lo)=(a.toList.drop lo).take (sb-lo)++((a.toList.drop lo).drop (sb-lo)).take (hi-sb):=by
  rw[show hi-lo=(sb-lo)+(hi-sb) by lia,List.take_add]
 rw[e1,List.drop_drop,show lo+(sb-lo)=sb by lia]
theorem Cm{a a':Array Keyed}{sa lo sb hi en:Nat}{r:List Keyed}(h1:sa≤lo)(h2:lo<sb)(h3:sb≤hi)(h4:hi≤en)(h5:en≤a.size)(h6:sb<en)(Ra:Rise O key a sa sb)(Rb:Rise O key a sb en)(pre:∀p,sa≤p→p<lo→O.le (kk key a p) (kk key a sb))(suf:∀q,hi≤q→q<en→O.le (kk key a (sb-1)) (kk key a q))(M:Made O key ((a.extract lo sb).toList++(a.extract sb hi).toList) r)(e:a'.toList=a.toList.take lo++r++a.toList.drop hi):Rise O key a' sa en∧a'.toList.Perm a.toList∧OnlyA a a' lo hi:=by
 obtain⟨pm,up⟩:=M
 rw[sI a (by lia) h3] at pm
 have rl:r.length=hi-lo:=by rw[pm.length_eq,List.length_take,List.length_drop,Array.length_toList];lia
 have tl:(a.toList.take lo).length=lo:=by rw[List.length_take,Array.length_toList];lia
 have g1:∀p,p<lo→a'[p]?=a[p]?:=fun p hp=>by
  rw[←Array.getElem?_toList,e,List.append_assoc,List.getElem?_append_left (by lia),List.getElem?_take_of_lt hp,Array.getElem?_toList]
 have g3:∀p,hi≤p→a'[p]?=a[p]?:=fun p hp=>by
  rw[←Array.getElem?_toList,e,List.getElem?_append_right (by rw[List.length_append,tl,rl];lia),List.length_append,tl,rl,List.getElem?_drop,Array.getElem?_toList]
  congr 1
  lia
 have g2:∀p,lo≤p→p<hi→a'[p]?=r[p-lo]?:=fun p hp hq=>by
  rw[←Array.getElem?_toList,e,List.getElem?_append_left (by rw[List.length_append,tl,rl];lia),List.getElem?_append_right (by lia),tl]
 have mem:∀m∈r,∃p,lo≤p∧p<hi∧a[p]?=some m:=fun m hm=>by
  obtain⟨q,hq⟩:=List.mem_iff_getElem?.mp (pm.mem_iff.mp hm)
  have ql:q<hi-lo:=by
   have:=(List.getElem?_eq_some_iff.mp hq).1
   rw[List.length_take] at this;lia
  rw[List.getElem?_take_of_lt ql,List.getElem?_drop,Array.getElem?_toList] at hq
  exact⟨lo+q,by lia,by lia,hq⟩
 have k2:∀p,lo≤p→p<hi→∃p',lo≤p'∧p'<hi∧kk key a' p=kk key a p':=fun p hp hq=>by
  have hr:r[p-lo]?=some (r[p-lo]'(by lia)):=List.getElem?_eq_getElem (by lia)
  obtain⟨p',q1,q2,q3⟩:=mem _ (List.mem_of_getElem? hr)
  exact⟨p',q1,q2,cE key ((g2 p hp hq).trans (hr.trans q3.symm))⟩
 have lowM:∀p p',sa≤p→p<lo→lo≤p'→p'<hi→O.le (kk key a p) (kk key a p'):=fun p p' q1 q2 q3 q4=>by
  rcases Nat.lt_or_ge p' sb with z | z
  ·exact Ra p p' q1 (by lia) z
  ·exact Ordr.le_trans (pre p q1 q2) (Rb sb p' (Nat.le_refl _) z (by lia))
 have midH:∀p' q,lo≤p'→p'<hi→hi≤q→q<en→O.le (kk key a p') (kk key a q):=fun p' q q1 q2 q3 q4=>by
  rcases Nat.lt_or_ge p' sb with z | z
  ·exact Ordr.le_trans (Ra p' (sb-1) (by lia) (by lia) (by lia)) (suf q q3 q4)
  ·exact Rb p' q z (by lia) q4
 refine⟨fun p q q1 q2 q3=>?_,?_,fun p hp=>?_⟩
 ·rcases Nat.lt_or_ge p lo with z1 | z1
  ·rw[cE key (g1 p z1)]
   rcases Nat.lt_or_ge q lo with z2 | z2
   ·rw[cE key (g1 q z2)];exact Ra p q q1 q2 (by lia)
   ·rcases Nat.lt_or_ge q hi with z3 | z3
    ·obtain⟨q',r1,r2,r3⟩:=k2 q z2 z3
     rw[r3];exact lowM p q' q1 z1 r1 r2
    ·rw[cE key (g3 q z3)]
     exact Ordr.le_trans (Ra p (sb-1) q1 (by lia) (by lia)) (suf q z3 q3)
  ·rcases Nat.lt_or_ge p hi with z4 | z4
   ·rcases Nat.lt_or_ge q hi with z3 | z3
    ·rcases Nat.lt_or_eq_of_le q2 with z5 | z5
     ·have hr1:r[p-lo]?=some (r[p-lo]'(by lia)):=List.getElem?_eq_getElem (by lia)
      have hr2:r[q-lo]?=some (r[q-lo]'(by lia)):=List.getElem?_eq_getElem (by lia)
      rw[bV ((g2 p z1 z4).trans hr1),bV ((g2 q (by lia) z3).trans hr2)]
      exact List.pairwise_iff_getElem.mp up (p-lo) (q-lo) (by lia) (by lia) (by lia)
     ·rw[z5];exact Ordr.le_refl _
    ·obtain⟨p',r1,r2,r3⟩:=k2 p z1 z4
     rw[r3,cE key (g3 q z3)]
     exact midH p' q r1 r2 z3 q3
   ·rw[cE key (g3 p z4),cE key (g3 q (by lia))]
    exact Rb p q (by lia) q2 q3
 ·rw[e]
  have e1:a.toList=a.toList.take lo++((a.toList.drop lo).take (hi-lo)++a.toList.drop hi):=by
   have:(a.toList.drop lo).take (hi-lo)++a.toList.drop hi=a.toList.drop lo:=by
    conv=>rhs;rw[←List.take_append_drop (hi-lo) (a.toList.drop lo)]
    rw[List.drop_drop,show lo+(hi-lo)=hi by lia]
   rw[this,List.take_append_drop]
  conv=>rhs;rw[e1]
  rw[List.append_assoc]
  exact(pm.append_right _).append_left _
 ·rcases hp with hp | hp
  ·exact g1 p hp
  ·exact g3 p hp
end
def rL:Nat→StateT SortSt Sem Bool:=sortPriv% PySem.Builtin.mergeAt
theorem yM(i:Nat):rL i=(do
 let z←get
 let (some (la,ca,pw),some (lb,cb,_)):=((pendingOf z)[i]?,(pendingOf z)[i+1]?) | unsupported "internal:list.sort.pending"
 set (SortSt.mk' (kindOf z) (arrOf z) (((pendingOf z).setIfInBounds i (la,ca+cb,pw)).eraseIdxIfInBounds (i+1)) (gallopOf z) (failedOf z))
 let some k←fL false (←elem' (arrOf z) lb) (arrOf z) la ca 0 | return false
 let (la,ca):=(la+k,ca-k)
 if ca == 0 then return true
 let some cb←fL true (←elem' (arrOf z) (la+ca-1)) (arrOf z) lb cb (cb-1) | return false
 if cb == 0 then return true
 let xx:=(arrOf z).extract la lb
 let yy:=(arrOf z).extract lb (lb+cb)
 let m←if ca≤cb then mt xx yy else ol xx yy
 modify fun q=>SortSt.mk' (kindOf q) (m.toList.zipIdx.foldl (fun a (p,j)=>a.setIfInBounds (la+j) p) (arrOf q)) (pendingOf q) (gallopOf q) (failedOf q)
 return (failedOf (←get)).isNone):=rfl
section
variable{κ:Type}{O:Ordr κ}{key:Keyed→κ}{prog:Program}{w:World}{A:Around}{E:Value→Shared→Prop}{s:Shared}{a₀:Array Keyed}{kd:SortKind}
theorem xC{M:Model}{st z:SortSt}{Q:PUnit→SortSt→Prop}(h:Q ⟨⟩ z):wpS M A E s (set z:StateT SortSt Sem PUnit) Q st:=by
 unfold wpS
 rw[StateT.run_set]
 exact wpAny_pure ⟨rfl,h⟩
theorem rg{a:Array Keyed}{sa sb en:Nat}(h:sb<en)(Ra:Rise O key a sa sb)(Rb:Rise O key a sb en)(m:∀p,sa≤p→p<sb→O.le (kk key a p) (kk key a sb)):Rise O key a sa en:=fun p q q1 q2 q3=>by
 rcases Nat.lt_or_ge p sb with z | z
 ·rcases Nat.lt_or_ge q sb with y | y
  ·exact Ra p q q1 q2 y
  ·exact Ordr.le_trans (m p q1 z) (Rb sb q (Nat.le_refl _) y q3)
 ·exact Rb p q z q2 q3
theorem fX{a:Array Keyed}{lo hi i:Nat}{x:Keyed}(h:hi≤a.size)(e:(a.extract lo hi)[i]?=some x):lo+i<hi∧a[lo+i]?=some x:=by
 rw[Array.getElem?_extract] at e
 split at e
 ·exact⟨by lia,e⟩
 ·cases e
theorem sC{a:Array Keyed}{lo hi:Nat}(h:hi≤a.size)(R:Rise O key a lo hi):Up O key (a.extract lo hi).toList:=by
 refine List.pairwise_iff_getElem.mpr fun i j h1 h2 h3=>?_
 rw[Array.length_toList] at h1 h2
 have e1:(a.extract lo hi)[i]?=some ((a.extract lo hi).toList[i]):=by rw[←Array.getElem?_toList];exact List.getElem?_eq_getElem _
 have e2:(a.extract lo hi)[j]?=some ((a.extract lo hi).toList[j]):=by rw[←Array.getElem?_toList];exact List.getElem?_eq_getElem _
 obtain⟨l1,g1⟩:=fX h e1
 obtain⟨l2,g2⟩:=fX h e2
 have:=R (lo+i) (lo+j) (by lia) (by lia) l2
 rw[bV g1,bV g2] at this
 exact this
theorem Aw(C:eA O key prog w A E s a₀ kd){st:SortSt}{i la ca pa lb cb pb:Nat}{Q:Bool→SortSt→Prop}(hB:Bas a₀ kd st)(e1:(pendingOf st)[i]?=some (la,ca,pa))(e2:(pendingOf st)[i+1]?=some (lb,cb,pb))(el:lb=la+ca)(c1:1≤ca)(c2:1≤cb)(hz:lb+cb≤a₀.size)(Ra:Rise O key (arrOf st) la lb)(Rb:Rise O key (arrOf st) lb (lb+cb))(h:∀z,Bas a₀ kd z→pendingOf z=((pendingOf st).setIfInBounds i (la,ca+cb,pa)).eraseIdxIfInBounds (i+1)→OnlyA (arrOf st) (arrOf z) la (lb+cb)→Rise O key (arrOf z) la (lb+cb)→Q true z):wpS (model prog w) A E s (rL i) Q st:=by
 rw[yM]
 refine wpS_bind (wpS_get ?_)
 dsimp only
 rw[e1,e2]
 dsimp only
 refine wpS_bind (xC ?_)
 obtain⟨P,hP⟩:∃P,P=((pendingOf st).setIfInBounds i (la,ca+cb,pa)).eraseIdxIfInBounds (i+1):=⟨_,rfl⟩
 rw[←hP] at h ⊢
 have hsz:=hB.size
 have BZ:Bas a₀ kd (SortSt.mk' (kindOf st) (arrOf st) P (gallopOf st) (failedOf st)):=⟨hB.perm,hB.kind,hB.failed⟩
 obtain⟨y0,ey0,my0⟩:=hB.at (i:=lb) (by lia)
 have mem:∀{q:Nat} {x:Keyed},(arrOf st)[q]?=some x→x∈a₀:=fun{q x} e=>by
  have hq:q<a₀.size:=by
   have:=(Array.getElem?_eq_some_iff.mp e).1
   lia
  obtain⟨x',e',m'⟩:=hB.at hq
  rw[e] at e'
  rw[Option.some.inj e'];exact m'
 refine wpS_bind (bM ey0 (wpS_bind (ik C BZ.kind my0 (fun q hq=>?m1) (by rw[←el];exact Ra) (by lia) fun k eg=>?_)))
 case m1=>
  obtain⟨x,ex,mx⟩:=hB.at (i:=la+q) (by lia)
  exact⟨x,ex,mx⟩
 dsimp only
 have kl:=eg.le
 have fj:∀p,la≤p→p<la+k→O.le (kk key (arrOf st) p) (kk key (arrOf st) lb):=fun p h1 h2=>by
  have:=eg.yes (p-la) (by lia)
  unfold bi at this
  rw[if_neg Bool.false_ne_true,show la+(p-la)=p by lia] at this
  rw[bV ey0]
  show O.lt (key y0) (kk key (arrOf st) p)=false
  cases z:O.lt (key y0) (kk key (arrOf st) p) with
  | false=>rfl
  | true=>rw[z] at this;cases this
 by_cases z0:ca-k=0
 ·rw[if_pos (by simpa using z0)]
  exact wpS_pure (h _ BZ rfl (OnlyA.refl _ _ _) (rg (by lia) Ra Rb fun p h1 h2=>fj p h1 (by lia)))
 rw[if_neg (by simpa using z0),show la+k+(ca-k)-1=lb-1 by lia]
 obtain⟨xl,exl,mxl⟩:=hB.at (i:=lb-1) (by lia)
 refine wpS_bind (bM exl (wpS_bind (ik C BZ.kind mxl (fun q hq=>?m2) Rb (by lia) fun k2 eg2=>?_)))
 case m2=>
  obtain⟨x,ex,mx⟩:=hB.at (i:=lb+q) (by lia)
  exact⟨x,ex,mx⟩
 dsimp only
 have kl2:=eg2.le
 have hiL:∀q,lb+k2≤q→q<lb+cb→O.le (kk key (arrOf st) (lb-1)) (kk key (arrOf st) q):=fun q h1 h2=>by
  have:=eg2.no (q-lb) (by lia) (by lia)
  unfold bi at this
  rw[if_pos rfl,show lb+(q-lb)=q by lia] at this
  rw[bV exl]
  exact this
 by_cases z1:k2=0
 ·rw[if_pos (by simpa using z1)]
  exact wpS_pure (h _ BZ rfl (OnlyA.refl _ _ _) (rg (by lia) Ra Rb fun p h1 h2=>Ordr.le_trans (Ra p (lb-1) h1 (by lia) (by lia)) (hiL lb (by lia) (by lia))))
 rw[if_neg (by simpa using z1)]
 have W:Two O key a₀ ((arrOf st).extract (la+k) lb) ((arrOf st).extract lb (lb+k2)):=by
  refine⟨fun q x e=>mem (fX (by lia) e).2,fun q x e=>mem (fX (by lia) e).2,sC (by lia) fun p q h1 h2 h3=>Ra p q (by lia) h2 h3,sC (by lia) fun p q h1 h2 h3=>Rb p q h1 h2 (by lia),by rw[Array.size_extract];lia,by rw[Array.size_extract];lia,fun x y ex ey=>?_,fun x y j ex ey=>?_⟩
  ·obtain⟨_,g1⟩:=fX (by lia) ex
   obtain⟨_,g2⟩:=fX (by lia) ey
   rw[Nat.add_zero] at g1
   have:=eg.no k (Nat.le_refl _) (by lia)
   unfold bi at this
   rw[if_neg Bool.false_ne_true,bV g1] at this
   rw[show lb+0=lb by lia,ey0] at g2
   rw[←Option.some.inj g2]
   cases z:O.lt (key y0) (key x) with
   | true=>rfl
   | false=>rw[z] at this;cases this
  ·rw[Array.size_extract] at ex
   obtain⟨_,g1⟩:=fX (by lia) ex
   obtain⟨l2,g2⟩:=fX (by lia) ey
   rw[show la+k+(min lb (arrOf st).size-(la+k)-1)=lb-1 by lia,exl] at g1
   have:=eg2.yes j (by lia)
   unfold bi at this
   rw[if_pos rfl,bV g2,Option.some.inj g1] at this
   exact this
 have cont:∀(r:Array Keyed) (z:SortSt),SamS (SortSt.mk' (kindOf st) (arrOf st) P (gallopOf st) (failedOf st)) z→Made O key (((arrOf st).extract (la+k) lb).toList++((arrOf st).extract lb (lb+k2)).toList) r.toList→Q true (SortSt.mk' (kindOf z) (ii (arrOf z) (la+k) r.toList.zipIdx) (pendingOf z) (gallopOf z) (failedOf z)):=fun r z SS M=>by
  have ea:arrOf z=arrOf st:=SS.arr
  have rl:r.toList.length=lb+k2-(la+k):=by
   rw[M.1.length_eq,sI _ (by lia) (by lia),List.length_take,List.length_drop,Array.length_toList];lia
  have pe:=u6 (la+k) r.toList 0 (arrOf z) (by rw[ea,rl];lia)
  rw[Nat.add_zero,rl,ea,show la+k+(lb+k2-(la+k))=lb+k2 by lia] at pe
  obtain⟨R1,R2,R3⟩:=Cm (a':=ii (arrOf st) (la+k) r.toList.zipIdx) (sa:=la) (en:=lb+cb) (by lia) (by lia) (by lia) (by lia) (by lia) (by lia) Ra Rb (fun p h1 h2=>fj p h1 h2) hiL M pe
  rw[ea]
  exact h _ ⟨(Array.perm_iff_toList_perm.mpr R2).trans hB.perm,SS.kind.trans hB.kind,SS.failed.trans hB.failed⟩ SS.pend (R3.wide (by lia) (by lia)) R1
 have fz:∀(z:SortSt),SamS (SortSt.mk' (kindOf st) (arrOf st) P (gallopOf st) (failedOf st)) z→(failedOf z).isNone=true:=fun z SS=>by rw[SS.failed,show failedOf (SortSt.mk' (kindOf st) (arrOf st) P (gallopOf st) (failedOf st))=none from hB.failed];rfl
 split
 ·refine wpS_bind (Em C BZ.kind W fun r z SS M=>wpS_bind (wpS_modify (wpS_bind (wpS_get (wpS_pure ?_)))))
  rw[show(failedOf (SortSt.mk' (kindOf z) _ (pendingOf z) (gallopOf z) (failedOf z))).isNone=true from fz z SS]
  exact cont r z SS M
 ·refine wpS_bind (Db C BZ.kind W fun r z SS M=>wpS_bind (wpS_modify (wpS_bind (wpS_get (wpS_pure ?_)))))
  rw[show(failedOf (SortSt.mk' (kindOf z) _ (pendingOf z) (gallopOf z) (failedOf z))).isNone=true from fz z SS]
  exact cont r z SS M
end
section
variable{κ:Type}{O:Ordr κ}{key:Keyed→κ}{prog:Program}{w:World}{A:Around}{E:Value→Shared→Prop}{s:Shared}{a₀:Array Keyed}{kd:SortKind}
inductive Stk (O:Ordr κ) (key:Keyed→κ) (x:Array Keyed):List (Nat×Nat×Nat)→Nat→Nat→Prop
 | nil (a:Nat):Stk O key x [] a a
 | cons {a n p b:Nat} {r:List (Nat×Nat×Nat)}:1≤n→Rise O key x a (a+n)→Stk O key x r (a+n) b→Stk O key x ((a,n,p)::r) a b
theorem Stk.len{x:Array Keyed}{l:List (Nat×Nat×Nat)}{a b:Nat}(h:Stk O key x l a b):a+l.length≤b:=by
 induction h with
 | nil=>simp
 | cons h1 _ _ ih=>rw[List.length_cons];lia
theorem Stk.snoc{x:Array Keyed}{l:List (Nat×Nat×Nat)}{a b n p:Nat}(h:Stk O key x l a b)(h1:1≤n)(R:Rise O key x b (b+n)):Stk O key x (l++[(b,n,p)]) a (b+n):=by
 induction h with
 | nil=>exact .cons h1 R (.nil _)
 | cons g1 g2 _ ih=>exact .cons g1 g2 (ih R)
theorem Stk.keep{x y:Array Keyed}{l:List (Nat×Nat×Nat)}{a b lo hi:Nat}(h:Stk O key x l a b)(g:OnlyA x y lo hi)(d:b≤lo∨hi≤a):Stk O key y l a b:=by
 induction h with
 | nil=>exact .nil _
 | cons g1 g2 g3 ih=>
   have:=g3.len
   exact .cons g1 (g2.keep g (by lia)) (ih (by lia))
theorem Stk.at{x:Array Keyed}{l:List (Nat×Nat×Nat)}{a b:Nat}(h:Stk O key x l a b):∀{i u n p:Nat},l[i]?=some (u,n,p)→1≤n∧a≤u∧u+n≤b∧Rise O key x u (u+n):=by
 induction h with
 | nil=>intro i u n p e;simp at e
 | cons g1 g2 g3 ih=>
   intro i u n p e
   cases i with
   | zero=>
     have e:=Option.some.inj e
     injection e with e1 e2
     injection e2 with e2 e3
     subst e1 e2
     exact⟨g1,Nat.le_refl _,(by have:=g3.len;lia),g2⟩
   | succ i=>
     obtain⟨k1,k2,k3,k4⟩:=ih e
     exact⟨k1,by lia,k3,k4⟩
theorem Stk.merge{x y:Array Keyed}{l:List (Nat×Nat×Nat)}{a b:Nat}(h:Stk O key x l a b):∀{i u n p v m q:Nat},l[i]?=some (u,n,p)→l[i+1]?=some (v,m,q)→v=u+n∧(OnlyA x y u (v+m)→Rise O key y u (v+m)→Stk O key y ((l.set i (u,n+m,p)).eraseIdx (i+1)) a b):=by
 induction h with
 | nil=>intro i u n p v m q e;simp at e
 | @cons a n0 p0 b r g1 g2 g3 ih=>
   intro i u n p v m q e1 e2
   cases i with
   | zero=>
     have e:=Option.some.inj e1
     injection e with e1 e3
     injection e3 with e3 e4
     subst e1 e3 e4
     cases g3 with
     | nil=>simp at e2
     | @cons _ n1 p1 _ r1 k1 k2 k3=>
       have e:=Option.some.inj e2
       injection e with f1 f3
       injection f3 with f3 f4
       subst f3
       refine⟨f1.symm,fun On R=>?_⟩
       subst f1
       have:=k3.len
       show Stk O key y ((a,n0+n1,p0)::r1) a b
       refine .cons (by lia) (by rw[←Nat.add_assoc];exact R) ?_
       rw[←Nat.add_assoc]
       exact k3.keep On (by lia)
   | succ i=>
     obtain⟨j1,j2⟩:=ih e1 e2
     obtain⟨_,k2,_,_⟩:=g3.at e1
     exact⟨j1,fun On R=>.cons g1 (g2.keep On (by lia)) (j2 On R)⟩
theorem Stk.pow{x:Array Keyed}{l:List (Nat×Nat×Nat)}{a b pw:Nat}(h:Stk O key x l a b):∀i,Stk O key x (l.modify i fun q=>(q.1,q.2.1,pw)) a b:=by
 induction h with
 | nil=>intro i;cases i <;> exact .nil _
 | cons g1 g2 g3 ih=>
   intro i
   cases i with
   | zero=>exact .cons g1 g2 g3
   | succ i=>exact .cons g1 g2 (ih i)
theorem mj(C:eA O key prog w A E s a₀ kd){z:SortSt}{i lo:Nat}{Q:Bool→SortSt→Prop}(hB:Bas a₀ kd z)(S:Stk O key (arrOf z) (pendingOf z).toList 0 lo)(hl:lo≤a₀.size)(hi:i+1<(pendingOf z).size)(h:∀z',Bas a₀ kd z'→Stk O key (arrOf z') (pendingOf z').toList 0 lo→(pendingOf z').size+1=(pendingOf z).size→OnlyA (arrOf z) (arrOf z') 0 lo→Q true z'):wpS (model prog w) A E s (mergeAt' i) Q z:=by
 have e1:(pendingOf z)[i]?=some ((pendingOf z)[i]):=Array.getElem?_eq_getElem _
 have e2:(pendingOf z)[i+1]?=some ((pendingOf z)[i+1]):=Array.getElem?_eq_getElem _
 obtain⟨⟨u,n,p⟩,hu⟩:∃q,q=(pendingOf z)[i]:=⟨_,rfl⟩
 obtain⟨⟨v,m,q⟩,hv⟩:∃q,q=(pendingOf z)[i+1]:=⟨_,rfl⟩
 rw[←hu] at e1
 rw[←hv] at e2
 have f1:(pendingOf z).toList[i]?=some (u,n,p):=by rw[Array.getElem?_toList];exact e1
 have f2:(pendingOf z).toList[i+1]?=some (v,m,q):=by rw[Array.getElem?_toList];exact e2
 obtain⟨a1,a2,a3,a4⟩:=S.at f1
 obtain⟨b1,b2,b3,b4⟩:=S.at f2
 have ev:=(S.merge (y:=arrOf z) f1 f2).1
 refine Aw C hB e1 e2 ev a1 b1 (by lia) (by rw[ev];exact a4) b4 fun z' B' P' On R=>?_
 have st:=(S.merge (y:=arrOf z') f1 f2).2 On R
 have sz:(pendingOf z').size+1=(pendingOf z).size:=by
  rw[P']
  unfold Array.eraseIdxIfInBounds
  rw[dif_pos (by rw[Array.size_setIfInBounds];exact hi),Array.size_eraseIdx,Array.size_setIfInBounds];lia
 refine h z' B' ?_ sz (On.wide (by lia) (by lia))
 rw[P']
 unfold Array.eraseIdxIfInBounds
 rw[dif_pos (by rw[Array.size_setIfInBounds];exact hi),Array.toList_eraseIdx,Array.toList_setIfInBounds]
 exact st
theorem BX(C:eA O key prog w A E s a₀ kd){st:SortSt}{Q:Unit→SortSt→Prop}(hB:Bas a₀ kd st)(hp:pendingOf st=#[])(h1:1≤a₀.size)(h:∀z,Bas a₀ kd z→Rise O key (arrOf z) 0 a₀.size→Q () z):wpS (model prog w) A E s sortRuns' Q st:=by
 rw[sortRuns'_eq]
 refine wpS_bind (wpS_get ?_)
 dsimp only
 simp only[hB.size]
 generalize minRun' a₀.size a₀.size 0=mr
 have S0:Stk O key (arrOf st) (pendingOf st).toList 0 0:=by rw[hp];exact .nil _
 refine wpS_bind (wpS_mono (wpS_forRange (I:=fun x c z=>∃lo,c=(none,lo)∧Bas a₀ kd z∧Stk O key (arrOf z) (pendingOf z).toList 0 lo∧lo≤a₀.size∧x≤lo) (Q:=fun c z=>c=(none,a₀.size)∧Bas a₀ kd z∧Stk O key (arrOf z) (pendingOf z).toList 0 a₀.size) ?one ?last ⟨0,rfl,hB,S0,Nat.zero_le _,Nat.le_refl _⟩) ?behind)
 case last=>
  rintro c z ⟨lo,rfl,B,S,l1,l2⟩
  have e:lo=a₀.size:=by lia
  subst e
  exact⟨rfl,B,S⟩
 case one=>
  rintro x c z _ hx ⟨lo,rfl,B,S,l1,l2⟩
  dsimp only
  by_cases hlo:lo≥a₀.size
  ·rw[if_pos hlo]
   have e:lo=a₀.size:=by lia
   subst e
   exact wpS_pure ⟨rfl,B,S⟩
  ·rw[if_neg hlo]
   refine wpS_bind (xR C B (by lia) (by lia) fun z1 n B1 P1 On1 n1 n2 R1=>?_)
   dsimp only
   have S1:Stk O key (arrOf z1) (pendingOf z1).toList 0 lo:=by rw[P1];exact S.keep On1 (.inl (Nat.le_refl _))
   by_cases hmr:n<mr
   ·rw[if_pos hmr]
    refine wpS_bind (wpS_lift (wpAny_rule ⟨rfl,?_⟩))
    refine wpS_bind (Cw C B1 (by lia) (by lia) R1 fun z2 B2 P2 On2 R2=>?_)
    rw[if_neg (by simp)]
    have S2:Stk O key (arrOf z2) (pendingOf z2).toList 0 lo:=by rw[P2];exact S1.keep On2 (.inl (Nat.le_refl _))
    have m1:1≤min (a₀.size-lo) mr:=by lia
    have m2:lo+min (a₀.size-lo) mr≤a₀.size:=by lia
    generalize min (a₀.size-lo) mr=N at R2 m1 m2 ⊢
    refine wpS_bind (wpS_get ?_)
    cases hb:(pendingOf z2).back? with
    | none=>
      dsimp only
      refine wpS_bind (wpS_modify (wpS_pure ⟨lo+N,rfl,⟨B2.perm,B2.kind,B2.failed⟩,?_,m2,by lia⟩))
      show Stk O key (arrOf z2) ((pendingOf z2).push (lo,N,0)).toList 0 (lo+N)
      rw[Array.toList_push]
      exact S2.snoc m1 R2
    | some t=>
      obtain⟨s1,k1,q1⟩:=t
      dsimp only
      refine wpS_bind (wpS_mono (wpS_forRange (I:=fun _ c z=>c=(none,())∧Bas a₀ kd z∧Stk O key (arrOf z) (pendingOf z).toList 0 lo∧Rise O key (arrOf z) lo (lo+N)) (Q:=fun c z=>c=(none,())∧Bas a₀ kd z∧Stk O key (arrOf z) (pendingOf z).toList 0 lo∧Rise O key (arrOf z) lo (lo+N)) ?st (fun c z q=>q) ⟨rfl,B2,S2,R2⟩) ?en)
      case st=>
       rintro y c z _ _ ⟨rfl,Bz,Sz,Rz⟩
       refine wpS_bind (wpS_get ?_)
       by_cases h2:(pendingOf z).size>1
       ·rw[if_pos h2]
        cases he:(pendingOf z)[(pendingOf z).size-2]? with
        | none=>exact wpS_pure ⟨rfl,Bz,Sz,Rz⟩
        | some t=>
          obtain⟨t1,t2,t3⟩:=t
          dsimp only
          split
          ·exact wpS_pure ⟨rfl,Bz,Sz,Rz⟩
          ·refine wpS_bind (mj C Bz Sz l1 (by lia) fun z' B' S' _ On'=>?_)
           rw[if_neg (by simp)]
           exact wpS_pure ⟨rfl,B',S',Rz.keep On' (.inr (Nat.le_refl _))⟩
       ·rw[if_neg h2]
        exact wpS_pure ⟨rfl,Bz,Sz,Rz⟩
      case en=>
       rintro c z ⟨rfl,Bz,Sz,Rz⟩
       dsimp only
       refine wpS_bind (wpS_modify (wpS_bind (wpS_modify (wpS_pure ⟨lo+N,rfl,⟨Bz.perm,Bz.kind,Bz.failed⟩,?_,m2,by lia⟩))))
       show Stk O key (arrOf z) (((pendingOf z).modify _ _).push (lo,N,0)).toList 0 (lo+N)
       rw[Array.toList_push,Array.toList_modify]
       exact(Sz.pow _).snoc m1 Rz
   ·rw[if_neg hmr]
    have m2:lo+n≤a₀.size:=by lia
    refine wpS_bind (wpS_get ?_)
    cases hb:(pendingOf z1).back? with
    | none=>
      dsimp only
      refine wpS_bind (wpS_modify (wpS_pure ⟨lo+n,rfl,⟨B1.perm,B1.kind,B1.failed⟩,?_,m2,by lia⟩))
      show Stk O key (arrOf z1) ((pendingOf z1).push (lo,n,0)).toList 0 (lo+n)
      rw[Array.toList_push]
      exact S1.snoc n1 R1
    | some t=>
      obtain⟨s1,k1,q1⟩:=t
      dsimp only
      refine wpS_bind (wpS_mono (wpS_forRange (I:=fun _ c z=>c=(none,())∧Bas a₀ kd z∧Stk O key (arrOf z) (pendingOf z).toList 0 lo∧Rise O key (arrOf z) lo (lo+n)) (Q:=fun c z=>c=(none,())∧Bas a₀ kd z∧Stk O key (arrOf z) (pendingOf z).toList 0 lo∧Rise O key (arrOf z) lo (lo+n)) ?st (fun c z q=>q) ⟨rfl,B1,S1,R1⟩) ?en)
      case st=>
       rintro y c z _ _ ⟨rfl,Bz,Sz,Rz⟩
       refine wpS_bind (wpS_get ?_)
       by_cases h2:(pendingOf z).size>1
       ·rw[if_pos h2]
        cases he:(pendingOf z)[(pendingOf z).size-2]? with
        | none=>exact wpS_pure ⟨rfl,Bz,Sz,Rz⟩
        | some t=>
          obtain⟨t1,t2,t3⟩:=t
          dsimp only
          split
          ·exact wpS_pure ⟨rfl,Bz,Sz,Rz⟩
          ·refine wpS_bind (mj C Bz Sz l1 (by lia) fun z' B' S' _ On'=>?_)
           rw[if_neg (by simp)]
           exact wpS_pure ⟨rfl,B',S',Rz.keep On' (.inr (Nat.le_refl _))⟩
       ·rw[if_neg h2]
        exact wpS_pure ⟨rfl,Bz,Sz,Rz⟩
      case en=>
       rintro c z ⟨rfl,Bz,Sz,Rz⟩
       dsimp only
       refine wpS_bind (wpS_modify (wpS_bind (wpS_modify (wpS_pure ⟨lo+n,rfl,⟨Bz.perm,Bz.kind,Bz.failed⟩,?_,m2,by lia⟩))))
       show Stk O key (arrOf z) (((pendingOf z).modify _ _).push (lo,n,0)).toList 0 (lo+n)
       rw[Array.toList_push,Array.toList_modify]
       exact(Sz.pow _).snoc n1 Rz
 case behind=>
  rintro c z ⟨rfl,B,S⟩
  dsimp only
  refine wpS_bind (wpS_mono (wpS_forRange (I:=fun x c z=>c=(none,())∧Bas a₀ kd z∧Stk O key (arrOf z) (pendingOf z).toList 0 a₀.size∧((pendingOf z).size≤1∨(pendingOf z).size+x≤a₀.size)) (Q:=fun c z=>c=(none,())∧Bas a₀ kd z∧Stk O key (arrOf z) (pendingOf z).toList 0 a₀.size∧(pendingOf z).size≤1) ?go ?stop ⟨rfl,B,S,.inr (by have:=S.len;rw[Array.length_toList] at this;lia)⟩) ?fin)
  case stop=>
   rintro c z ⟨rfl,B,S,o⟩
   exact⟨rfl,B,S,by lia⟩
  case go=>
   rintro x c z _ hx ⟨rfl,B,S,o⟩
   refine wpS_bind (wpS_get ?_)
   by_cases h2:(pendingOf z).size≤1
   ·rw[if_pos h2]
    exact wpS_pure ⟨rfl,B,S,h2⟩
   ·rw[if_neg h2]
    have hi:∀b:Bool,(if b=true then(pendingOf z).size-2-1 else(pendingOf z).size-2)+1<(pendingOf z).size:=fun b=>by
     cases b
     ·rw[if_neg Bool.false_ne_true];lia
     ·rw[if_pos rfl];lia
    refine wpS_bind (mj C B S (Nat.le_refl _) (hi _) fun z' B' S' sz' _=>?_)
    rw[if_neg (by simp)]
    exact wpS_pure ⟨rfl,B',S',by lia⟩
  case fin=>
   rintro c z ⟨rfl,B,S,o⟩
   refine wpS_pure (h z B ?_)
   rw[←Array.length_toList] at o
   cases hl:(pendingOf z).toList with
   | nil=>
     rw[hl] at S
     generalize e:a₀.size=m at S h1
     cases S
     lia
   | cons q r=>
     rw[hl] at S o
     have hr:r=[]:=by
      cases r with
      | nil=>rfl
      | cons _ _=>simp at o
     subst hr
     obtain⟨u,n,p⟩:=q
     generalize e:a₀.size=m at S ⊢
     cases S with
     | cons g1 g2 g3=>
       cases g3
       exact g2
end
section
variable{prog:Program}{w:World}{A:Around}{E:Value→Shared→Prop}{s:Shared}
end
section
variable{X:Cx}{e:Expr}{te:TE}{p pos:Pos}
end
section
variable{prog:Program}{w:World}{A:Around}{R:Result→Shared→Prop}{I S ax:Addr}{items:Array Value}{L:Nat→List Value}
end
section
variable{X:Cx}{e e2:Expr}{te te2:TE}{p pos:Pos}
end
def xZ(P:Addr)(ps:Array Value):Heap→Prop:=fun h=>h.get? P=some (PySem.W.tabObj ps)
def mQ(c:Addr)(qual:Str):Heap→Prop:=fun h=>h.CodeRec (.ref c) qual
def dH(mg:Str→Option Value)(h:Heap):Prop:=∃bm ob,mg "__builtins__"=some (.ref bm)∧bm≠builtinsNs∧h.get? bm=some ob∧ob.cls=.type "module"∧ob.dict=some builtinsNs∧ob.data=.plain
def dQ(P:Addr)(ps:Array Value):HO:=.ext (xZ P ps)
theorem nv{prog:Program}{w:World}{H:Hp}{h:Heap}{P:Addr}{ps:Array Value}(e:h.get? P=some (PySem.W.tabObj ps)):ObjOk prog w H h P (dQ P ps):=⟨e,⟨_,e⟩,fun _ _ z k=>k _ z⟩
section
variable{Pr:Program}{w:World}{K:PySem.W.Frag}{mg mb:Str→Option Value}{CX:bd}{k:Nat}{fa a P:Addr}{fd:FuncData}{x:Str}{sp:Sp}{s₁:Shared}{vs:List Value}{ns:List Int}
structure Beg(K:PySem.W.Frag)(a P:Addr)(H:Hp):Prop where
 tab:H P=some (dQ P #[])
 only:∀b u,H b=some u→(b=P∧u=dQ P #[])∨(b=a∧K.lookup a=none∧∃o xs,u=.frz o (.lst xs))
theorem CY(KX:K.In s₁.heap)(hns:s₁.heap.Ns mainGlobals mg)(hb:s₁.heap.Ns builtinsNs mb)(hbb:∀x:Str,x≠"__name__"→mb x=bootBuiltins x)(hbm:dH mg s₁.heap)(hlim:s₁.heap.NoLimit)(hg:s₁.gens=#[])(ha:s₁.heap.get? a=some {cls:=.type "list",data:=.seq vs.toArray})(hi:IntsAre vs ns)(hl:ns.length≤sizeLine)(hr:Room k callerA)(hP:s₁.heap.get? P=some (PySem.W.tabObj #[]))(hKP:K.lookup P=none)(hcT:isCodeTable s₁.heap P)(F:∀base:Heap,K.In base→base.Ns mainGlobals mg→dH mg base→FnOk Pr w K mg base CX k fa fd [x] sp)(hbind:∀(s:Shared) (u:Value),BindsTo s fd ⟨[u],[]⟩ [(x,u)])(hsp:∀H:Hp,Beg K a P H→SqL K H a (ns.map V.int)→sp [.ref a] H (fun v H'=>v=.bl true∧∃ps,H' P=some (dQ P ps)) fun _ _ _=>False)
 (hCX:∀H e s',CX [] H s₁ (fun _ _ _=>False) e s'→False):
 codeAny (model Pr w) callerA (.call (.ref fa) ⟨[.ref a],[]⟩) (fun r s'=>r=.ok (.ret (.bool true))∧OldK s₁.heap s'.heap∧s'.os=s₁.os∧AllBare s'.gens) s₁:=by
 have rv:=sw hi
 have nPa:P≠a:=fun z=>by rw[z,ha] at hP;cases hP
 have go:∀H:Hp,Beg K a P H→SqL K H a (ns.map V.int)→HOk Pr w H s₁.heap→codeAny (model Pr w) callerA (.call (.ref fa) ⟨[.ref a],[]⟩) (fun r s'=>r=.ok (.ret (.bool true))∧OldK s₁.heap s'.heap∧s'.os=s₁.os∧AllBare s'.gens) s₁:=by
  intro H B hS hok
  have fr:∀{b:Addr} {o:Obj},s₁.heap.get? b=some o→(∀xs n,o.data≠ .seq xs n)→(∀f,o.data≠ .fields f)→H b=none:=fun{b o} e n1 n2=>by
   cases q:H b with
   | none=>rfl
   | some u=>
     rcases B.only b u q with⟨z,_⟩ | ⟨z,_⟩
     ·rw[z,hP] at e;cases e;exact absurd rfl (n2 _)
     ·rw[z,ha] at e;cases e;exact absurd rfl (n1 _ _)
  have up:∀{b:Addr} {m:Str→Option Value},s₁.heap.Ns b m→(ft s₁.heap H).Ns b m:=fun{b m} ⟨o,es,ep,e,d,r⟩=>⟨o,es,ep,oz e (fr e (fun _ _ z=>by rw[d] at z;cases z) fun _ z=>by rw[d] at z;cases z),d,r⟩
  have hKb:K.In (ft s₁.heap H):=fun b o e=>oz (KX b o e) (by
   cases q:H b with
   | none=>rfl
   | some u=>
     rcases B.only b u q with⟨z,_⟩ | ⟨z,z2,_⟩
     ·rw[z,hKP] at e;cases e
     ·rw[z,z2] at e;cases e)
  have hMb:dH mg (ft s₁.heap H):=by
   obtain⟨bm,ob,h1,h2,h3,h4,h5,h6⟩:=hbm
   exact⟨bm,ob,h1,h2,oz h3 (fr h3 (fun _ _ z=>by rw[h6] at z;cases z) fun _ z=>by rw[h6] at z;cases z),h4,h5,h6⟩
  have hM:Mod K mg (ft s₁.heap H):=⟨hKb,up hns,⟨mb,up hb,hbb⟩,let ⟨mc,h1,h2⟩:=hlim;⟨mc,up h1,h2⟩⟩
  have e0:Env0 Pr w K mg (ft s₁.heap H) callerA [] s₁ H:=⟨rfl,hM,fun b o e=>BN e,Nat.le_of_eq (Dz _ _),trivial,(fun b hb=>nomatch hb),hok,.of_eq hg⟩
  refine codeAny_mono ((F _ hKb (up hns) hMb).run callerA [] s₁ H ⟨[.ref a],[]⟩ [.ref a] [.ref a] _ _ hr e0 (hbind s₁ (.ref a)) (.cons rfl .nil) (hsp H B hS)) fun r s' h=>?_
  match r,h with
  | .error e,h=>exact(hCX H e s' h).elim
  | .ok (.ret u),h=>
    obtain⟨v,H',os,bare,un,hok',r',rfl,ps,hps⟩:=h
    obtain rfl:u=Value.bool true:=r'
    obtain⟨gP,_⟩:=hok' P _ hps
    have cases3:∀b o,s₁.heap.get? b=some o→s'.heap.get? b=some o∨b=P:=fun b o e=>by
     cases q:H b with
     | none=>exact .inl (un.keep b o e q (fun z=>nomatch z) (fun z=>nomatch z))
     | some u=>
       rcases B.only b u q with⟨z,_⟩ | ⟨z,_,ob,xs,z2⟩
       ·exact .inr z
       ·subst z2
        obtain⟨e1,_⟩:=hok b _ q
        obtain⟨e2,_⟩:=hok' b _ (un.frzs b ob _ q)
        rw[e] at e1;cases e1
        exact .inl e2
    refine⟨rfl,⟨fun b o e=>?_,fun b o e=>?_⟩,os,bare⟩
    ·rcases cases3 b o e with z | z
     ·exact .inl z
     ·subst z
      rw[hP] at e;cases e
      exact .inr (.inl ⟨hcT,rfl,#[],ps,rfl,by rw[Array.empty_append];exact gP⟩)
    ·rcases cases3 b o e with z | z
     ·exact⟨o,z⟩
     ·subst z;exact⟨_,gP⟩
 cases hk:K.lookup a with
 | some o=>
   have e:=KX a o hk
   rw[ha] at e
   cases e
   refine go (fun b=>if b=P then some (dQ P #[]) else none) ⟨if_pos rfl,fun b u q=>?_⟩ (.inr ⟨_,vs.toArray,_,hk,rfl,rfl,rfl,by rw[List.size_toArray,hi.length];exact hl,by simpa using rv⟩) fun b u q=>?_
   ·try dsimp only at q
    by_cases z:b=P
    ·rw[if_pos z] at q;cases q;exact .inl ⟨z,rfl⟩
    ·rw[if_neg z] at q;cases q
   ·try dsimp only at q
    by_cases z:b=P
    ·rw[if_pos z] at q;cases q;subst z;exact nv hP
    ·rw[if_neg z] at q;cases q
 | none=>
   refine go (fun b=>if b=P then some (dQ P #[]) else if b=a then some (.frz {cls:=.type "list",data:=.seq vs.toArray} (.lst (ns.map V.int))) else none) ⟨if_pos rfl,fun b u q=>?_⟩ (.inl (.inr ⟨{cls:=.type "list",data:=.seq vs.toArray},by show(if a=P then _ else if a=a then _ else _)=_;rw[if_neg (Ne.symm nPa),if_pos rfl]⟩)) fun b u q=>?_
   ·try dsimp only at q
    by_cases z:b=P
    ·rw[if_pos z] at q;cases q;exact .inl ⟨z,rfl⟩
    ·rw[if_neg z] at q
     by_cases z2:b=a
     ·rw[if_pos z2] at q;cases q;exact .inr ⟨z2,hk,_,_,rfl⟩
     ·rw[if_neg z2] at q;cases q
   ·try dsimp only at q
    by_cases z:b=P
    ·rw[if_pos z] at q;cases q;subst z;exact nv hP
    ·rw[if_neg z] at q
     by_cases z2:b=a
     ·rw[if_pos z2] at q;cases q;subst z2
      exact⟨ha,by rw[List.length_map];exact hl,vs,_,rv,ha⟩
     ·rw[if_neg z2] at q;cases q
end
theorem walk_tab{l:PySem.W.OpenLaw}{n k:Nat}{q:Program}{loose:List Str}{XP:(Str→Option Value)→Heap→Prop}{YP:World→Heap→Prop}{d:DefRec}{K:Params→PySem.W.Frag}{CX:World→bd}{sp:World→Sp}{x:Str}{c P:Addr}(hn:l.most=some n)(hn2:n≤sizeLine)(hdf:d.params.defaults=[])(hr:Room k callerA)(hY:∀(w:World) (h:Heap),YP w h→(K w.params).In h)(hT:∀(w:World) (h:Heap),YP w h→h.get? P=some (PySem.W.tabObj #[]))(hC:∀w:World,PySem.W.codeHdIn (K w.params) c P=true)(hKP:∀w:World,(K w.params).lookup P=none)(F:∀(w:World) (mg:Str→Option Value) (fa:Addr) (h:Heap),(K w.params).In h→h.Ns mainGlobals mg→mg d.name=some (.ref fa)→∃fd:FuncData,(∀(s:Shared) (u:Value),BindsTo s fd ⟨[u],[]⟩ [(x,u)])∧∀base:Heap,(K w.params).In base→base.Ns mainGlobals mg→dH mg base→FnOk l.prog w (K w.params) mg base (CX w) k fa fd [x] (sp w))(hsp:∀(w:World) (H:Hp) (a:Addr) (ns:List Int),ns.length≤n→Beg (K w.params) a P H→SqL (K w.params) H a (ns.map V.int)→sp w [.ref a] H (fun v H'=>v=.bl true∧∃ps,H' P=some (dQ P ps)) fun _ _ _=>False)
 (hCX:∀(w:World) (H:Hp) (s:Shared) (e:Value) (s':Shared),CX w [] H s (fun _ _ _=>False) e s'→False):
 PySem.W.WalkO q loose XP YP l.row.toRowW d [] (fun f vs=>PySem.call f vs):=by
 refine Att.attach_call hn hdf fun w s₀ s₁ mg mb fa o pm cd doc a vs ns G Y ho hd hcd hmg hobj hints hlen hg=>?_
 have KX:=hY w _ Y
 obtain⟨fd,hb,hF⟩:=F w mg fa _ KX G.T.g hmg
 have hc:=PySem.W.codeHd_of_K KX (hC w)
 have hP:=hT w _ Y
 exact CY KX G.T.g G.T.b G.T.builtins G.T.bmain G.T.nolimit hg hobj hints (Nat.le_trans hlen hn2) hr hP (hKP w) (hc.tab hP).isCodeTable hF hb (fun H B hS=>hsp w H a ns hlen B hS) fun H e s'=>hCX w H s₁ e s'
abbrev iZ(qual:Str)(scope:Scope)(L f c:Addr)(fv:Str)(cw:Addr):Env:=PySem.W.envX qual scope L f (.ref c) [(fv,cw)]
abbrev pI(X:Cx)(A:Around)(N:List Str)(env:Env)(s:Shared)(H:Hp):Cx:=
 {X with A:=A.deeper env,N:=N,s₀:=s,H₀:=H,env:=env,outer:=X.stack,stack:=env::X.stack,ex:=[],fn:=fun _=>false,calm:=true,pn:=[],xe:=fun _ _=>False}
structure LamSc(fv y:Str)(scope:Scope):Prop where
 kind:scope.kind=.function
 co:scope.isCoroutine=false
 gen:scope.isGenerator=false
 nocell:∀x∈scope.names,x.2≠ .cell
 yl:scope.names.lookup y=some .local
 ff:scope.names.lookup fv=some .free
 one:∀x∈scope.names,x.2=.free→x.1=fv
theorem jR{fv x:Str}{cw c:Addr}(e:([(fv,cw)]:List (Str×Addr)).lookup x=some c):x=fv∧c=cw:=by
 rw[List.lookup_cons] at e
 cases h:x == fv with
 | true=>rw[h] at e;exact⟨eq_of_beq h,(Option.some.inj e).symm⟩
 | false=>rw[h] at e;cases e
theorem tE{fv:Str}{cw:Addr}:([(fv,cw)]:List (Str×Addr)).lookup fv=some cw:=by rw[List.lookup_cons,beq_self_eq_true]
theorem xS{X:Cx}{pins:List (Addr×Obj)}{σ:St}{H:Hp}{s:Shared}{A:Around}{f c cw:Addr}{name qual fv y:Str}{params:Arguments}{body:Expr}{scope:Scope}{pm ctv u uw:Value}{v vw:V}{tb:TE}{Q:VK}{R:Result→Shared→Prop}(I:Inv X pins σ H s)(hA:A.frames=some X.stack)(hh:A.handled=none)(hd:A.depth<recursionLimit)(S:LamSc fv y scope)(hny:fv≠y)(ho:s.heap.get? f=some (PySem.W.kla_obj name qual params body scope [(fv,cw)] pm c ctv))(hcd:s.heap.CodeRec (.ref c) qual)(hcw:s.heap.IsCell cw (some uw))(hHc:H cw=none)(rw':RelV vw uw)(ru:RelV v u)(hbind:bindArgs (PySem.W.kla_fn name qual params body scope [(fv,cw)] pm (.ref c) ctv) ⟨[u],[]⟩=pure [(y,u)])(hb:PE (pI X A [fv,y] (iZ qual scope s.heap.objs.size f c fv cw) s H) body tb)(q:tb [some vw,some v] H Q)(k:∀v' u' H' s',Inv X pins σ H' s'→Un (aO X.stack) [] H H' s.heap s'.heap→RelV v' u'→Q v' H'→R (.ok (.ret u')) s'):codeAny (model X.prog X.w) A (.call (.ref f) ⟨[u],[]⟩) R s:=by
 refine PySem.W.kla_callFunE hd ho rfl S.co S.gen rfl hcd ?_
 rw[hbind]
 refine wpAny_pure (wpAny_newFunctionEnv S.nocell (fun x hx=>by rw[List.mem_singleton.mp hx];exact S.yl) (fun h1 hns hsb=>?_) S.kind)
 have kp:∀b o,s.heap.get? b=some o→h1.get? b=some o:=fun b o e=>hsb.extBut b o (Nat.ne_of_lt (Heap.lt_size e)) (Heap.get?_push_of_some _ e)
 refine⟨I.nolimit.keeps kp,?_⟩
 show codeAny _ _ (.expr body (iZ qual scope s.heap.objs.size f c fv cw)) _ _
 have e0:=I.env0
 have kf:(iZ qual scope s.heap.objs.size f c fv cw).kindOf fv=some .free:=S.ff
 have J:Inv (pI X A [fv,y] (iZ qual scope s.heap.objs.size f c fv cw) s H) [] [some vw,some v] H {s with heap:=h1,toks:=s.toks+ [(y,u)].length}:=by
  refine⟨⟨I.ok.mod,S.kind,rfl,rfl,Nat.le_refl _,fun x z c' h1 h2=>?_,fun x hx=>?_,fun x c' h=>(by cases h),fun _=>hh,Around.frames_deeper hA,.inr ⟨rfl,rfl⟩,fun b z=>(nomatch z),e0.bs,e0.bsz,fun b _ _ z=>(nomatch z),fun b z=>(nomatch z),e0.funs,e0.frf⟩,
   rfl,I.bare,Un.kept kp,⟨_,hns,fun i x z h1' h2' h3'=>?_⟩,fun x c' e=>?_,I.fresh,fun x c' e=>?_,fun p hp=>(nomatch hp),I.hok.kept kp,rfl⟩
  ·exact(jR h1).1.trans (jR h2).1.symm
  ·rcases hx with hx | hx
   ·exact absurd rfl (S.nocell _ (PySem.mem_of_lookup hx))
   ·have:=S.one _ (PySem.mem_of_lookup hx) rfl
    exact⟨cw,by rw[show x=fv from this];exact tE⟩
  ·match i,h1',h2' with
   | 0,h1',h2'=>
     obtain rfl:fv=x:=Option.some.inj h1'
     cases h2'
     obtain⟨o,e1,e2⟩:=hcw
     exact⟨uw,rw',.inr ⟨.inr kf,cw,tE,o,kp _ _ e1,e2⟩⟩
   | 1,h1',h2'=>
     obtain rfl:y=x:=Option.some.inj h1'
     cases h2'
     refine⟨u,ru,.inl ⟨S.yl,?_⟩⟩
     show([(y,u)]:List (Str×Value)).reverse.lookup y=some u
     rw[List.reverse_singleton,List.lookup_cons,beq_self_eq_true]
   | i+2,h1',_=>cases h1'
  ·obtain⟨_,rfl⟩:=jR e
   obtain⟨o,e1,e2⟩:=hcw
   exact⟨_,o,kp _ _ e1,e2⟩
  ·obtain⟨_,rfl⟩:=jR e
   exact hHc
 refine PySem.W.kla_codeExpr (wpAny_mono (hb [] _ _ H Q J q) (fun u' s' ⟨v',H',J',r',q'⟩=>?_) fun _ _ z=>z.elim)
 exact k v' u' H' s' (I.call' J'.os J'.base J'.hok J'.bare (fun b z=>(nomatch z))) J'.base r' q'
def ph(H:Hp)(P:Addr)(pos:Pos)(qual:Str)(c:Addr):Prop:=H P=some (dQ P #[rawInt pos.line,rawInt pos.col,.ref c])∧H c=some (.ext (mQ c qual))
def Tab(H:Hp)(P:Addr)(pos:Pos)(qual:Str):Prop:=H P=some (dQ P #[])∨∃c,ph H P pos qual c
theorem Tab.same{H H':Hp}{P:Addr}{pos:Pos}{qual:Str}(h:Tab H P pos qual)(s:Same H H'):Tab H' P pos qual:=by
 rcases h with h | ⟨c,h1,h2⟩
 ·exact .inl (s _ _ h)
 ·exact .inr ⟨c,s _ _ h1,s _ _ h2⟩
theorem Ds{prog:Program}{w:World}{H:Hp}{h:Heap}{c:Addr}{qual:Str}(e:h.CodeRec (.ref c) qual):ObjOk prog w H h c (.ext (mQ c qual)):=by
 obtain⟨c',oc,vs,t,e1,e2,e3,e4⟩:=id e
 cases e1
 refine⟨e,⟨_,e2⟩,fun h1 h2 z k=>?_⟩
 obtain⟨c',oc',vs',t',f1,f2,f3,f4⟩:=z
 cases f1
 exact⟨c,oc',vs',t',rfl,k _ f2,f3,f4⟩
theorem Inv.trackE{X:Cx}{pins:List (Addr×Obj)}{σ:St}{H:Hp}{s:Shared}{e:Addr}{u:HO}(I:Inv X pins σ H s)(hn:H e=none)(h0:X.s₀.heap.get? e=none)(hl:e≠X.env.locals)(hc:∀x c,X.env.cells.lookup x=some c→c≠e)(hp:∀p∈X.pn++pins,p.1≠e)(hx:ObjOk X.prog X.w (upd H e u) s.heap e u):Inv X pins σ (upd H e u) s:=by
 have ne:∀{b:Addr} {o:HO},H b=some o→(upd H e u) b=some o:=fun{b o} q=>by rw[ap (fun z=>by rw[z,hn] at q;cases q)];exact q
 have nn:∀{b:Addr},b≠e→H b=none→(upd H e u) b=none:=fun{b} z q=>by rw[ap z];exact q
 refine⟨I.ok,I.os,I.bare,⟨I.base.keep,I.base.slot,fun b o q n hx=>nn (fun z=>by rw[z,h0] at q;cases q) (I.base.free b o q n hx),I.base.there,fun b xs q=>ne (I.base.tups b xs q),fun b o u q=>ne (I.base.frzs b o u q),fun b ps q=>?_⟩,I.loc,I.cell,nn (Ne.symm hl) I.free,fun x c q=>nn (hc x c q) (I.freeC x c q),fun p q=>?_,fun b o q=>?_,I.len⟩
 ·obtain⟨m,q'⟩:=I.base.tbls b ps q
  exact⟨m,ne q'⟩
 ·obtain⟨a1,a2,a3,a4,a5⟩:=I.pin p q
  exact⟨a1,nn (hp p q) a2,a3,a4,a5⟩
 ·by_cases z:b=e
  ·subst z
   rw[ag] at q
   cases q
   exact hx
  ·rw[ap z] at q
   exact(I.hok b o q).stay (fun c v _ q'=>q') (fun c q'=>ne q') fun c xs q'=>ne q'
theorem Ae{X:Cx}{pins:List (Addr×Obj)}{σ:St}{H:Hp}{s:Shared}{M:Model}{A:Around}{E:Value→Shared→Prop}{Q:Value→Shared→Prop}{cc P cw:Addr}{fv:Str}{params:Arguments}{body:Expr}{scope:Scope}{lp:Pos}(I:Inv X pins σ H s)(hcode:X.env.code=.ref cc)(C:PySem.W.CodeHd X.base cc P)(hBm:dH X.mg X.base)(T:Tab H P lp (X.env.qual++"<lambda>"))(hcl:closureFor scope X.env=pure [(fv,cw)])(hdef:defaultsOf params X.env=([],[]))(h:∀f c pm ctv H' s',Inv X pins σ H' s'→ph H' P lp (X.env.qual++"<lambda>") c→bz P H H'→s'.heap.get? f=some (PySem.W.kla_obj "<lambda>" (X.env.qual++"<lambda>") params body scope [(fv,cw)] pm c ctv)→H' f=none→s.heap.objs.size≤f→(∀b,s'.heap.objs.size≤b→s.heap.objs.size≤b)→Q (.ref f) s'):wpAny M A (eval (.Lambda params body scope lp) X.env) Q E s:=by
 refine PySem.W.kla_eval hdef ?_
 have hg:=I.mod.glob.keeps I.bk
 have Cs:=C.keeps I.bk
 have tab:∀ps,H P=some (dQ P ps)→s.heap.get? P=some (PySem.W.tabObj ps):=fun ps e=>(I.hok P _ e).1
 have hgP:mainGlobals≠P:=fun z=>by
  obtain⟨o,es,ep,e,d,_⟩:=I.mod.glob
  have:=(I.bs _ _ e).2
  rw[z] at this
  rcases T with t | ⟨c,t,_⟩ <;> (rw[this] at t;cases t)
 have hB:s.heap.BuiltinsAt X.mg P:=by
  obtain⟨bm,ob,b1,b2,b3,b4,b5,b6⟩:=hBm
  refine⟨bm,ob,b1,b2,fun z=>?_,fun z=>?_,I.bk _ _ b3,b4,b5,b6⟩
  ·obtain⟨o,es,ep,e,d,_⟩:=I.mod.glob
   rw[z,e] at b3;cases b3;rw[d] at b6;cases b6
  ·have:=(I.bs _ _ b3).2
   rw[z] at this
   rcases T with t | ⟨c,t,_⟩ <;> (rw[this] at t;cases t)
 rcases T with t | ⟨c,t,tc⟩
 ·refine PySem.W.kla_makeFunction (mg:=X.mg) hcl I.ok.glob hg hcode Cs (tab _ t) (by first | trivial | exact rfl | decide) rfl hgP hB fun c ctv h' tk hx hge hlt hrec htb=>?_
  rw[Array.empty_append] at htb
  have I1:=I.write (x:=P) (e:=P) (o:=dQ P #[rawInt lp.line,rawInt lp.col,.ref c]) (t':=tk) (by rw[t];exact trivial) (.inl rfl) (fun b u hb e=>hx b u hb e) ⟨_,htb⟩ (nv htb)
  have nP:c≠P:=fun z=>by have:=Heap.lt_size (tab _ t);rw[←z] at this;exact absurd (Nat.lt_of_lt_of_le this hge) (Nat.lt_irrefl _)
  have ltc:∀{b:Addr} {o:Obj},s.heap.get? b=some o→b≠c:=fun e=>Nat.ne_of_lt (Nat.lt_of_lt_of_le (Heap.lt_size e) hge)
  have hc0:H c=none:=I.hok.fresh hge
  have I2:=I1.trackE (e:=c) (u:=.ext (mQ c (X.env.qual++"<lambda>"))) (by rw[ap nP];exact hc0) (Heap.get?_none_of_le (Nat.le_trans I.sz hge)) (Nat.ne_of_gt (Nat.lt_of_lt_of_le I.lt hge)) (fun x c' e=>by obtain⟨v,o,e1,_⟩:=I.cell x c' e;exact ltc e1) (fun p hp=>ltc (I.pin p hp).1) (Ds hrec)
  have I3:=I2.kept (h':=h'.push (PySem.W.kla_obj "<lambda>" (X.env.qual++"<lambda>") params body scope [(fv,cw)] ((X.mg "__name__").getD .none) c ctv)) (t':=tk) fun b o e=>Heap.get?_push_of_some _ e
  have hf:s.heap.objs.size≤h'.objs.size:=Nat.le_trans hge (Nat.le_of_lt hlt)
  refine h h'.objs.size c _ ctv _ _ I3 ⟨by rw[ap nP.symm,ag],ag⟩ (fun b o e n=>?_) (Heap.get?_push_size _ rfl) ?_ hf (fun b hb=>?_)
  ·rw[ap (fun z=>by rw[z,hc0] at e;cases e),ap n];exact e
  ·rw[ap (Nat.ne_of_gt hlt),ap (fun z=>by have:=Heap.lt_size htb;rw[←z] at this;exact absurd this (Nat.lt_irrefl _))]
   exact I.hok.fresh hf
  ·rw[Heap.size_push] at hb;exact Nat.le_trans hf (Nat.le_of_lt hb)
 ·have hrec:s.heap.CodeRec (.ref c) (X.env.qual++"<lambda>"):=(I.hok c _ tc).1
  refine PySem.W.kla_makeFunctionHit (mg:=X.mg) (cv:=.ref c) hcl I.ok.glob hg hcode Cs (tab _ t) (by first | trivial | exact⟨_,_,rfl⟩ | decide) ?_ hB fun ctv h' tk hk hsz=>?_
  ·exact codeAmong_snoc [] trivial rfl
  ·have I3:=I.kept (h':=h'.push (PySem.W.kla_obj "<lambda>" (X.env.qual++"<lambda>") params body scope [(fv,cw)] ((X.mg "__name__").getD .none) c ctv)) (t':=tk) fun b o e=>Heap.get?_push_of_some _ (hk b o e)
   refine h h'.objs.size c _ ctv _ _ I3 ⟨t,tc⟩ (fun b o e _=>e) (Heap.get?_push_size _ rfl) (I.hok.fresh hsz) hsz (fun b hb=>?_)
   rw[Heap.size_push] at hb;exact Nat.le_trans hsz (Nat.le_of_lt hb)
theorem u8:∀(xs ys:List Int),aF xs ys=true∨xs=ys∨aF ys xs=true
 | [],[]=>.inr (.inl rfl)
 | [],_::_=>.inl rfl
 | _::_,[]=>.inr (.inr rfl)
 | x::xs,y::ys=>by
   simp only[aF]
   by_cases e:x=y
   ·subst e
    rw[if_pos rfl]
    rcases u8 xs ys with h | h | h
    ·exact .inl h
    ·exact .inr (.inl (by rw[h]))
    ·exact .inr (.inr (by rw[if_pos rfl];exact h))
   ·rw[if_neg e,if_neg (fun z=>e z.symm)]
    by_cases h:x<y
    ·exact .inl (decide_eq_true h)
    ·exact .inr (.inr (decide_eq_true (by lia)))
def o6:Ordr (List Int):=⟨aF,fun a=>lq a,fun a b c h1 h2=>kh h1 h2,fun a b c h=>by
 rcases u8 a b with z | z | z
 ·exact .inl z
 ·subst z;exact .inr h
 ·exact .inr (kh z h)⟩
section
variable{prog:Program}{w:World}{A:Around}{E:Value→Shared→Prop}{s:Shared}
theorem BV{l b:Addr}{items items2:Array Value}{xs ys:List Nat}{Q:Bool→Shared→Prop}(hu:A.units<cLine)(hl:s.heap.IsList l items)(hb:s.heap.IsList b items2)(N1:fK xs items)(N2:fK ys items2)(h:Q (aF (ba xs) (ba ys)) s):wpAny (model prog w) A (oneLt' true (.ref l) (.ref b)) Q E s:=by
 obtain⟨⟨cls,dd,data,sl⟩,ho,hc,n,hd⟩:=id hl
 obtain⟨⟨cls2,dd2,data2,sl2⟩,ho2,hc2,n2,hd2⟩:=id hb
 simp only at hc hd hc2 hd2;subst hc hd hc2 hd2
 rw[oneLt'_eq,if_pos rfl]
 refine wpAny_bind (wpAny_cRoomFor hu (wpAny_bind (wpAny_callSpecialIfBound?_slot (T:="list") ⟨_,ho,rfl⟩ F.slot_list_lt (call_meets F.slot_list_lt ⟨_,ho,rfl⟩ F.entry_list_lt (F.args_list_lt_2 _ _) (EB N1 N2) ⟨ho,ho2,?_⟩))))
 exact wpAny_truthy_bool h
def re(s:Shared)(k:Addr)(xs:List Nat):Prop:=∃items:Array Value,s.heap.IsList k items∧fK xs items
def mi(cz:Addr→List Nat)(p:Keyed):List Int:=match p.1 with | .ref k=>ba (cz k) | _=>[]
theorem CK{a₀:Array Keyed}{cz:Addr→List Nat}(hu:A.units<cLine)(h0:∀x∈a₀,∃k,x.1=.ref k∧re s k (cz k)):eA o6 (mi cz) prog w A E s a₀ oneType':=by
 intro x y hx hy st Q hk q
 obtain⟨a,ex,i1,l1,n1⟩:=h0 x hx
 obtain⟨b,ey,i2,l2,n2⟩:=h0 y hy
 obtain⟨x1,x2⟩:=x
 obtain⟨y1,y2⟩:=y
 dsimp only at ex ey
 subst ex ey
 rw[lt'_eq]
 refine wpS_bind (wpS_get ?_)
 rw[hk,keyLt'_oneType]
 exact wpS_bind (wpS_lift (wpAny_attempt (BV hu l1 l2 n1 n2 ⟨rfl,wpS_pure q⟩)))
end
structure NewAd(X:Cx)(pins:List (Addr×Obj))(b:Addr):Prop where
 s0:X.s₀.heap.objs.size≤b
 loc:b≠X.env.locals
 cell:∀x c,X.env.cells.lookup x=some c→c≠b
 pin:∀p∈X.pn++pins,p.1≠b
 stk:b∉aO X.stack
theorem Inv.newAd{X:Cx}{pins:List (Addr×Obj)}{σ:St}{H:Hp}{s:Shared}{b:Addr}(I:Inv X pins σ H s)(hb:s.heap.objs.size≤b):NewAd X pins b:=by
 have lt:∀{a:Addr} {o:Obj},s.heap.get? a=some o→a≠b:=fun e=>Nat.ne_of_lt (Nat.lt_of_lt_of_le (Heap.lt_size e) hb)
 refine⟨Nat.le_trans I.sz hb,Nat.ne_of_gt (Nat.lt_of_lt_of_le I.lt hb),fun x c e=>?_,fun p hp=>lt (I.pin p hp).1,fun z=>?_⟩
 ·obtain⟨v,o,e1,_⟩:=I.cell x c e
  exact lt e1
 ·rcases List.mem_cons.mp (I.stkSub b z) with z' | z'
  ·exact absurd z' (Nat.ne_of_gt (Nat.lt_of_lt_of_le I.lt hb))
  ·exact I.nofs hb z'
theorem Inv.own{X:Cx}{pins:List (Addr×Obj)}{σ:St}{H:Hp}{s:Shared}{b:Addr}{h':Heap}{t':Nat}(I:Inv X pins σ H s)(n:NewAd X pins b)(hb:H b=none)(hs:Heap.SameBut b s.heap h'):Inv X pins σ H {s with heap:=h',toks:=t'}:=
 I.turned (fun c o hc e=>(hs.2 c hc).trans e) hb n.loc (.inr n.s0) n.cell n.pin
section
variable{X:Cx}{pins:List (Addr×Obj)}{σ:St}{H:Hp}{s:Shared}{f l:Addr}{ns:List Int}{kf:Int→List Nat}{fo:Obj}
structure KeyW(X:Cx)(pins:List (Addr×Obj))(σ:St)(H:Hp)(f:Addr)(fo:Obj)(D kS:Addr)(e1:Nat)(ns:List Int)(kf:Int→List Nat)(i:Nat)(s':Shared):Prop where
 ex:∃(H':Hp) (ks:List Addr) (e:Nat),Inv X pins σ H' s'∧Same H H'∧s'.heap.get? f=some fo∧H' f=none∧s'.heap.get? D=some (seqObj "list" #[] e1)∧H' D=none∧s'.heap.get? kS=some (seqObj "list" (ks.map Value.ref).toArray e)∧H' kS=none∧ks.length=i∧∀(j:Nat) (k:Addr) (n:Int),ks[j]?=some k→ns[j]?=some n→H' k=some (.lst ((kf n).map sg))
def pV(X:Cx)(pins:List (Addr×Obj))(σ:St)(H:Hp)(f:Addr)(fo:Obj)(ns:List Int)(kf:Int→List Nat):Prop:=
 ∀ n∈ns,∀(H':Hp) (s':Shared) (u:Value),Inv X pins σ H' s'→Same H H'→s'.heap.get? f=some fo→H' f=none→RelV (.int n) u→
   wpAny (model X.prog X.w) X.A.in1.in1 (call (.ref f) [u]) (fun u' s''=>∃(k:Addr) (H'':Hp),u'=.ref k∧Inv X pins σ H'' s''∧H'' k=some (.lst ((kf n).map sg))∧Same H' H''∧Un (aO X.stack) [] H' H'' s'.heap s''.heap) (fun _ _=>False) s'
theorem qY{D kS:Addr}{e1:Nat}{vs:List Value}{E:Value→Shared→Prop}{P:PUnit→Shared→Prop}{body:Value→PUnit→Sem (ForInStep PUnit)}(nD:NewAd X pins D)(nk:NewAd X pins kS)(nf:NewAd X pins f)(hDk:D≠kS)(hfk:f≠kS)(hv:Vals (ns.map V.int) vs)(hle:ns.length≤1000)(T:pV X pins σ H f fo ns kf)(hbody:∀x,body x ⟨⟩=(do
 match←(call (.ref f) [x]).attempt with
 | .ok k=>Builtin.List.listUpdate (.ref kS) (·.push k);pure (ForInStep.yield PUnit.unit)
 | .error e=>rule "list.sort.key-raised";let made←Builtin.List.listItems (.ref kS);Builtin.List.listUpdate (.ref kS) fun _=>#[];letGo made.toList.reverse [e];Builtin.List.listUpdate (.ref D) fun _=>vs.toArray;throw e)):
 ∀(r:List Value) (i:Nat) (s':Shared),vs.drop i=r→i≤vs.length→KeyW X pins σ H f fo D kS e1 ns kf i s'→(∀s'',KeyW X pins σ H f fo D kS e1 ns kf vs.length s''→P ⟨⟩ s'')→wpAny (model X.prog X.w) X.A.in1.in1 (forIn r PUnit.unit body) P E s'
 | [],i,s',hr,hi2,W,done=>by
   rw[List.forIn_nil]
   have hi:vs.length≤i:=List.drop_eq_nil_iff.mp hr
   exact wpAny_pure (done s' (by rw[show vs.length=i by lia];exact W))
 | x::r,i,s',hr,hi2,W,done=>by
   rw[List.forIn_cons,hbody]
   obtain⟨H',ks,e,I',sm,hf',Hf',hD',HD',hk',Hk',hl,hks⟩:=W.ex
   have hi:i<vs.length:=by
    refine Nat.lt_of_not_le fun z=>?_
    rw[List.drop_eq_nil_of_le z] at hr;cases hr
   have hx:vs[i]?=some x:=by
    have:=List.getElem?_drop (xs:=vs) (i:=i) (j:=0)
    rw[hr] at this
    simpa using this.symm
   have hil:i<ns.length:=by have:=hv.length;rw[List.length_map] at this;lia
   obtain⟨u,hu,ru⟩:=hv.get (show(ns.map V.int)[i]?=some (.int ns[i]) by simp[hil])
   obtain rfl:x=u:=by rw[hx] at hu;exact Option.some.inj hu
   refine wpAny_bind (wpAny_bind (wpAny_attempt (wpAny_mono (T ns[i] (List.getElem_mem hil) H' s' x I' sm hf' Hf' ru) (fun u' s'' h=>?_) fun _ _ z=>z.elim)))
   obtain⟨k,H'',rfl,I2,hk2,sm2,un⟩:=h
   have kp:∀{b:Addr} {o:Obj},NewAd X pins b→H' b=none→s'.heap.get? b=some o→s''.heap.get? b=some o∧H'' b=none:=fun{b o} n q e=>⟨un.keep b o e q n.stk (fun z=>nomatch z),un.free b o e q (fun z=>nomatch z)⟩
   obtain⟨hf2,Hf2⟩:=kp nf Hf' hf'
   obtain⟨hD2,HD2⟩:=kp nD HD' hD'
   obtain⟨hS2,HS2⟩:=kp nk Hk' hk'
   dsimp only
   have sb:=Heap.SameBut.update s''.heap kS (Obj.mapSeq (·.push (.ref k)))
   obtain⟨c2,hc2⟩:∃c2,(s''.heap.update kS (Obj.mapSeq (·.push (.ref k)))).get? kS=some (seqObj "list" ((ks.map Value.ref).toArray.push (.ref k)) c2):=⟨_,get?_update_seq hS2 (·.push (.ref k))⟩
   have szk:(ks.map Value.ref).toArray.size≤1000:=by simp;lia
   refine wpAny_bind (listUpdate_at hS2 rfl (wpAny_pure ?_) (Nat.le_trans szk (by decide)) (by rw[Array.size_push];exact Nat.le_trans (Nat.succ_le_succ szk) (by decide)))
   show wpAny _ _ (forIn r PUnit.unit body) P E _
   refine qY nD nk nf hDk hfk hv hle T hbody r (i+1) _ (by rw[←List.drop_drop,hr];rfl) hi ⟨H'',ks++[k],c2,I2.own nk HS2 sb,sm.trans sm2,(sb.2 f hfk).trans hf2,Hf2,(sb.2 D hDk).trans hD2,HD2,?_,HS2,by simp[hl],fun j k' n hj hn=>?_⟩ done
   ·rw[hc2];congr 1;simp[seqObj]
   ·by_cases z:j<ks.length
    ·rw[List.getElem?_append_left z] at hj
     exact sm2 _ _ (hks j k' n hj hn)
    ·rw[List.getElem?_append_right (by lia)] at hj
     have z0:j-ks.length=0:=by have:=(List.getElem?_eq_some_iff.mp hj).1;simp at this;lia
     rw[z0] at hj
     obtain rfl:k=k':=by simpa using hj
     have:j=i:=by lia
     subst this
     rw[List.getElem?_eq_getElem hil] at hn
     cases hn
     exact hk2
theorem vv{D kS:Addr}{e1 e:Nat}{vs:List Value}{ks:List Addr}{cz:Addr→List Nat}{st:SortSt}{E:Value→Shared→Prop}{P:PySem.Fin→Shared→Prop}{H':Hp}(I:Inv X pins σ H' s)(nD:NewAd X pins D)(nk:NewAd X pins kS)(hDk:D≠kS)(hD:s.heap.get? D=some (seqObj "list" #[] e1))(HD:H' D=none)(hS:s.heap.get? kS=some (seqObj "list" (ks.map Value.ref).toArray e))(HS:H' kS=none)(hv:Vals (ns.map V.int) vs)(hle:ns.length≤1000)(hkl:ks.length=ns.length)(hcz:∀(j:Nat) (k:Addr) (n:Int),ks[j]?=some k→ns[j]?=some n→cz k=kf n)(hp:(arrOf st).Perm ((ks.map Value.ref).toArray.zip vs.toArray))(hfl:failedOf st=none)(R:Rise o6 (mi cz) (arrOf st) 0 ((ks.map Value.ref).toArray.zip vs.toArray).size)(done:∀(s':Shared) (ms:List Int) (ws:List Value) (c:Nat),Inv X pins σ H' s'→s'.heap.get? D=some (seqObj "list" ws.toArray c)→Vals (ms.map V.int) ws→ms.Perm ns→ms.Pairwise (fun a b=>aF (ba (kf b)) (ba (kf a))=false)→P (.done (.ret .none)) s'):
 wpAny (model X.prog X.w) X.A.in1.in1 (ksk_tail D false e1 (.ref kS) st) P E s:=by
 have hvl:ns.length=vs.length:=by have:=hv.length;rw[List.length_map] at this;exact this
 have hz:((ks.map Value.ref).toArray.zip vs.toArray).toList=(ks.map Value.ref).zip vs:=by simp
 have hzl:((ks.map Value.ref).toArray.zip vs.toArray).size=vs.length:=by simp;lia
 have hsz:(arrOf st).size=vs.length:=by rw[hp.size_eq,hzl]
 have hpl:(arrOf st).toList.Perm ((ks.map Value.ref).zip vs):=by rw[←hz];exact Array.perm_iff_toList_perm.mp hp
 have pr:∀p∈(arrOf st).toList,∃(j:Nat) (k:Addr) (n:Int) (t:Tok),ks[j]?=some k∧ns[j]?=some n∧p=(.ref k,.int n t):=fun p hp'=>by
  obtain⟨j,hj⟩:=List.mem_iff_getElem?.mp (hpl.mem_iff.mp hp')
  obtain⟨p1,p2⟩:=p
  rw[List.getElem?_zip_eq_some] at hj
  obtain⟨h1,h2⟩:=hj
  dsimp only at h1 h2
  have jl:j<ns.length:=by have:=(List.getElem?_eq_some_iff.mp h2).1;lia
  obtain⟨u,hu,ru⟩:=hv.get (show(ns.map V.int)[j]?=some (.int ns[j]) by simp[jl])
  rw[h2] at hu
  cases hu
  obtain⟨t,rfl⟩:=ru
  have kl:j<ks.length:=by lia
  rw[List.getElem?_map,List.getElem?_eq_getElem kl] at h1
  cases h1
  exact⟨j,ks[j],ns[j],t,List.getElem?_eq_getElem kl,List.getElem?_eq_getElem jl,rfl⟩
 have hvn:vs.map numOf=ns:=by
  apply List.ext_getElem?
  intro j
  by_cases jl:j<ns.length
  ·obtain⟨u,hu,ru⟩:=hv.get (show(ns.map V.int)[j]?=some (.int ns[j]) by simp[jl])
   obtain⟨t,rfl⟩:=ru
   rw[List.getElem?_map,hu,List.getElem?_eq_getElem jl];rfl
  ·rw[List.getElem?_eq_none (by rw[List.length_map];lia),List.getElem?_eq_none (by lia)]
 have sb1:=Heap.SameBut.update s.heap kS (Obj.mapSeq fun _=>(#[]:Array Value))
 have hD1:=(sb1.2 D hDk).trans hD
 obtain⟨c2,hc2⟩:∃c2,((s.heap.update kS (Obj.mapSeq fun _=>(#[]:Array Value))).update D (Obj.mapSeq fun _=>(arrOf st).map (·.2))).get? D=some (seqObj "list" ((arrOf st).map (·.2)) c2):=⟨_,get?_update_seq hD1 fun _=>(arrOf st).map (·.2)⟩
 have sb2:=Heap.SameBut.update (s.heap.update kS (Obj.mapSeq fun _=>(#[]:Array Value))) D (Obj.mapSeq fun _=>(arrOf st).map (·.2))
 unfold ksk_tail
 refine wpAny_bind (listUpdate_at hS rfl (wpAny_bind (wpAny_letGo (wpAny_bind (seqEpoch_at hD1 rfl (wpAny_bind (listUpdate_at hD1 rfl ?_ (Nat.zero_le _) ?_)))))) ?_ (Nat.zero_le _))
 ·rw[hfl]
  simp only[bne_self_eq_false,Bool.false_eq_true,if_false]
  refine wpAny_pure (done _ ((arrOf st).toList.map fun p=>numOf p.2) ((arrOf st).toList.map (·.2)) c2 ((I.own (t':=s.toks) nk HS sb1).own (t':=s.toks) nD HD sb2) ?_ ?_ ?_ ?_)
  ·show Heap.get? _ D=_
   rw[hc2,←Array.toList_map,Array.toArray_toList]
  ·rw[List.map_map]
   refine pG (by simp) fun j x u hx hu=>?_
   rw[List.getElem?_map] at hx hu
   cases q:(arrOf st).toList[j]? with
   | none=>rw[q] at hx;cases hx
   | some p=>
     rw[q] at hx hu
     obtain⟨_,k,n,t,_,_,rfl⟩:=pr p (List.mem_of_getElem? q)
     cases hx
     cases hu
     exact⟨t,rfl⟩
  ·have h1:=hpl.map fun p=>numOf p.2
   have h2:((ks.map Value.ref).zip vs).map (fun p=>numOf p.2)=ns:=by
    rw[show(fun p:Value×Value=>numOf p.2)=numOf ∘ Prod.snd from rfl,←List.map_map,List.map_snd_zip (by rw[List.length_map];lia),hvn]
   rw[h2] at h1
   exact h1
  ·refine List.pairwise_map.mpr (List.pairwise_iff_getElem.mpr fun i j h1 h3 h4=>?_)
   rw[Array.length_toList] at h1 h3
   have r:=R i j (Nat.zero_le _) (by lia) (by rw[hzl];lia)
   rw[bV (bf h1),bV (bf h3)] at r
   obtain⟨j1,k1,n1,t1,a1,b1,c1⟩:=pr (arrOf st)[i] (by simp)
   obtain⟨j2,k2,n2,t2,a2,b2,c2⟩:=pr (arrOf st)[j] (by simp)
   rw[c1,c2] at r
   have r':aF (ba (cz k2)) (ba (cz k1))=false:=r
   rw[hcz _ _ _ a1 b1,hcz _ _ _ a2 b2] at r'
   simp only[Array.getElem_toList]
   rw[c1,c2]
   exact r'
 ·rw[if_neg Bool.false_ne_true,Array.size_map,hsz];exact Nat.le_trans (show vs.length≤1000 by lia) (by decide)
 ·simp;exact Nat.le_trans (show ks.length≤1000 by lia) (by decide)
end
section
variable{X:Cx}{pins:List (Addr×Obj)}{σ:St}{H:Hp}{s:Shared}{f l:Addr}{ns:List Int}{kf:Int→List Nat}{fo:Obj}
theorem jq{n:Nat}(h:n≤1000):n≤sizeLine:=Nat.le_of_lt (bD h)
theorem yJ{D kS:Addr}{e1 e:Nat}{vs:List Value}{ks:List Addr}{E:Value→Shared→Prop}{P:PySem.Fin→Shared→Prop}{H':Hp}(hu:(X.A.in1.in1).units<cLine)(I:Inv X pins σ H' s)(nD:NewAd X pins D)(nk:NewAd X pins kS)(hDk:D≠kS)(hD:s.heap.get? D=some (seqObj "list" #[] e1))(HD:H' D=none)(hS:s.heap.get? kS=some (seqObj "list" (ks.map Value.ref).toArray e))(HS:H' kS=none)(hv:Vals (ns.map V.int) vs)(hle:ns.length≤1000)(hkl:ks.length=ns.length)(hks:∀(j:Nat) (k:Addr) (n:Int),ks[j]?=some k→ns[j]?=some n→H' k=some (.lst ((kf n).map sg)))(done:∀(s':Shared) (ms:List Int) (ws:List Value) (c:Nat),Inv X pins σ H' s'→s'.heap.get? D=some (seqObj "list" ws.toArray c)→Vals (ms.map V.int) ws→ms.Perm ns→ms.Pairwise (fun a b=>aF (ba (kf b)) (ba (kf a))=false)→P (.done (.ret .none)) s'):
 wpAny (model X.prog X.w) X.A.in1.in1 (ksk_end D false vs.toArray e1 (.ref kS) (ks.map Value.ref).toArray) P E s:=by
 have hvl:ns.length=vs.length:=by have:=hv.length;rw[List.length_map] at this;exact this
 have hzl:((ks.map Value.ref).toArray.zip vs.toArray).size=vs.length:=by simp;lia
 have hex:∀k:Addr,∃xs:List Nat,∀(j:Nat) (n:Int),ks[j]?=some k→ns[j]?=some n→xs=kf n:=fun k=>by
  by_cases hk:k∈ks
  ·obtain⟨j0,hj0⟩:=List.mem_iff_getElem?.mp hk
   have jl:j0<ns.length:=by have:=(List.getElem?_eq_some_iff.mp hj0).1;lia
   refine⟨kf ns[j0],fun j n h1 h2=>?_⟩
   have a1:=hks j0 k ns[j0] hj0 (List.getElem?_eq_getElem jl)
   have a2:=hks j k n h1 h2
   rw[a1] at a2
   have a3:(kf ns[j0]).map sg=(kf n).map sg:=by injection a2 with a2;injection a2
   refine List.map_inj_right (f:=sg) (fun x y h=>?_) |>.mp a3
   have:aI x=aI y:=V.str.inj h
   simpa [aI] using this
  ·exact⟨[],fun j n h1 _=>absurd (List.mem_of_getElem? h1) hk⟩
 obtain⟨cz,hcz⟩:=Classical.axiomOfChoice hex
 have lat:∀k∈ks,re s k (cz k):=fun k hk=>by
  obtain⟨j0,hj0⟩:=List.mem_iff_getElem?.mp hk
  have jl:j0<ns.length:=by have:=(List.getElem?_eq_some_iff.mp hj0).1;lia
  have e0:=List.getElem?_eq_getElem jl
  rw[hcz k j0 _ hj0 e0]
  obtain⟨_,its,m,r,_,g⟩:=I.lstM (hks j0 k _ hj0 e0)
  exact⟨its.toArray,⟨_,g,rfl,m,rfl⟩,B3 r⟩
 have at0:∀p∈(ks.map Value.ref).toArray.zip vs.toArray,∃k,p.1=.ref k∧k∈ks:=fun p hp=>by
  have:p∈(ks.map Value.ref).zip vs:=by simpa using Array.mem_toList_iff.mpr hp
  obtain⟨p1,p2⟩:=p
  obtain⟨k,hk,e⟩:=List.mem_map.mp (List.of_mem_zip this).1
  exact⟨k,e.symm,hk⟩
 unfold ksk_end
 dsimp only
 rw[if_neg Bool.false_ne_true,if_neg Bool.false_ne_true]
 by_cases h2:vs.toArray.size<2
 ·rw[if_pos h2,if_pos h2]
  refine wpAny_bind (wpAny_pure ?_)
  rw[StateT.run_pure]
  refine wpAny_bind (wpAny_pure ?_)
  refine vv (cz:=cz) (st:=SortSt.mk' general' ((ks.map Value.ref).toArray.zip vs.toArray) #[] 7 none) I nD nk hDk hD HD hS HS hv hle hkl (fun j k n h1 h2=>hcz k j n h1 h2) (Array.Perm.refl _) rfl ?_ done
  intro i j h1 h3 h4
  rw[hzl] at h4
  rw[List.size_toArray] at h2
  have:i=j:=by lia
  subst this
  exact Ordr.le_refl _
 ·rw[if_neg h2,if_neg h2]
  rw[List.size_toArray] at h2
  refine wpAny_bind (PySem.W.kas_kind (T:=.type "list") (by rw[List.length_map];lia) (fun v hv=>?_) rfl rfl ?_)
  ·obtain⟨k,hk,rfl⟩:=List.mem_map.mp hv
   obtain⟨items,⟨o,ho,hoc,_⟩,_⟩:=lat k hk
   rw[←hoc]
   exact(PySem.W.Looks.ld ho).andThen .now
  ·refine wpAny_bind (wpAny_mono (BX (CK (cz:=cz) (a₀:=(ks.map Value.ref).toArray.zip vs.toArray) hu fun p hp=>by obtain⟨k,e,hk⟩:=at0 p hp;exact⟨k,e,lat k hk⟩) (a₀:=(ks.map Value.ref).toArray.zip vs.toArray) (kd:=oneType') (st:=SortSt.mk' oneType' ((ks.map Value.ref).toArray.zip vs.toArray) #[] 7 none) (Q:=fun _ z=>(arrOf z).Perm ((ks.map Value.ref).toArray.zip vs.toArray)∧failedOf z=none∧Rise o6 (mi cz) (arrOf z) 0 ((ks.map Value.ref).toArray.zip vs.toArray).size) ⟨Array.Perm.refl _,rfl,rfl⟩ rfl (by rw[hzl];lia) fun z B R=>⟨B.perm,B.failed,R⟩) ?_ fun _ _ e=>e)
   rintro⟨⟨⟩,z⟩ s' ⟨rfl,pm,hf,R⟩
   exact vv (cz:=cz) I nD nk hDk hD HD hS HS hv hle hkl (fun j k n h1 h2=>hcz k j n h1 h2) pm hf R done
theorem wZ{D:Addr}{n0:Nat}{vs:List Value}{E:Value→Shared→Prop}{P:PySem.Fin→Shared→Prop}(hu:(X.A.in1.in1).units<cLine)(I:Inv X pins σ H s)(nD:NewAd X pins D)(hD:s.heap.get? D=some (seqObj "list" vs.toArray n0))(HD:H D=none)(nf:NewAd X pins f)(hf:s.heap.get? f=some fo)(Hf:H f=none)(hDf:D≠f)(hv:Vals (ns.map V.int) vs)(hle:ns.length≤1000)(T:pV X pins σ H f fo ns kf)(done:∀(H':Hp) (s':Shared) (ms:List Int) (ws:List Value) (c:Nat),Inv X pins σ H' s'→Same H H'→s'.heap.get? D=some (seqObj "list" ws.toArray c)→H' D=none→Vals (ms.map V.int) ws→ms.Perm ns→ms.Pairwise (fun a b=>aF (ba (kf b)) (ba (kf a))=false)→P (.done (.ret .none)) s'):
 wpAny (model X.prog X.w) X.A.in1.in1 (ksk_tree D (.ref f) false) P E s:=by
 have hvl:ns.length=vs.length:=by have:=hv.length;rw[List.length_map] at this;exact this
 have sb:=Heap.SameBut.update s.heap D (Obj.mapSeq fun _=>(#[]:Array Value))
 obtain⟨e1,hD1⟩:∃e1,(s.heap.update D (Obj.mapSeq fun _=>(#[]:Array Value))).get? D=some (seqObj "list" #[] e1):=⟨_,get?_update_seq hD fun _=>#[]⟩
 have I1:=I.own (t':=s.toks) nD HD sb
 have hf1:=(sb.2 f hDf.symm).trans hf
 have ltD:D<s.heap.objs.size:=Heap.lt_size hD
 have ltf:f<s.heap.objs.size:=Heap.lt_size hf
 generalize eg:s.heap.update D (Obj.mapSeq fun _=>(#[]:Array Value))=g at hD1 I1 hf1
 have hg:g.objs.size=s.heap.objs.size:=by rw[←eg,Heap.size_update]
 unfold ksk_tree
 refine wpAny_bind (listItems_at hD rfl (wpAny_bind (listUpdate_at hD rfl ?_ (by rw[List.size_toArray];exact jq (by lia)) (Nat.zero_le _))))
 show wpAny _ _ _ _ _ {s with heap:=s.heap.update D (Obj.mapSeq fun _=>(#[]:Array Value))}
 rw[eg]
 refine wpAny_bind (seqEpoch_at hD1 rfl (wpAny_bind (wpAny_newTuple (wpAny_bind (wpAny_newList (wpAny_holding ?_) (Nat.zero_le _))) (jq (by simp;lia)))))
 dsimp only
 have hk1:(g.push (seqObj "tuple" vs.toArray 0)).objs.size=s.heap.objs.size+1:=by rw[Heap.size_push,hg]
 have keep:∀b o,g.get? b=some o→((g.push (seqObj "tuple" vs.toArray 0)).push (seqObj "list" #[] 0)).get? b=some o:=fun b o e=>Heap.get?_push_of_some _ (Heap.get?_push_of_some _ e)
 have I2:=I1.kept (h':=(g.push (seqObj "tuple" vs.toArray 0)).push (seqObj "list" #[] 0)) (t':=s.toks) keep
 have nk:NewAd X pins (g.push (seqObj "tuple" vs.toArray 0)).objs.size:=I.newAd (by rw[hk1];exact Nat.le_succ _)
 have hDk:D≠(g.push (seqObj "tuple" vs.toArray 0)).objs.size:=by rw[hk1];exact Nat.ne_of_lt (Nat.lt_succ_of_lt ltD)
 have hfk:f≠(g.push (seqObj "tuple" vs.toArray 0)).objs.size:=by rw[hk1];exact Nat.ne_of_lt (Nat.lt_succ_of_lt ltf)
 have HS:H (g.push (seqObj "tuple" vs.toArray 0)).objs.size=none:=I.hok.fresh (by rw[hk1];exact Nat.le_succ _)
 have hS:((g.push (seqObj "tuple" vs.toArray 0)).push (seqObj "list" #[] 0)).get? (g.push (seqObj "tuple" vs.toArray 0)).objs.size=some (seqObj "list" #[] 0):=Heap.get?_push_size _ rfl
 show wpAny _ _ (ksk_rest D (.ref f) false vs.toArray e1 (.ref (g.push (seqObj "tuple" vs.toArray 0)).objs.size)) _ _ {s with heap:=(g.push (seqObj "tuple" vs.toArray 0)).push (seqObj "list" #[] 0)}
 generalize (g.push (seqObj "tuple" vs.toArray 0)).objs.size=kS at*
 unfold ksk_rest
 refine wpAny_bind (wpAny_rule (wpAny_bind ?_))
 rw[List.forIn_toArray]
 refine qY (e1:=e1) (vs:=vs) nD nk nf hDk hfk hv hle T (fun x=>rfl) vs 0 _ rfl (Nat.zero_le _) ⟨H,[],0,I2,Same.refl _,keep _ _ hf1,Hf,keep _ _ hD1,HD,hS,HS,rfl,fun j k n h=>by simp at h⟩ fun s3 W=>?_
 obtain⟨H3,ks,e,I3,sm,_,_,hD3,HD3,hS3,HS3,hl3,hks⟩:=W.ex
 refine wpAny_bind (listItems_at hS3 rfl ?_)
 exact yJ hu I3 nD nk hDk hD3 HD3 hS3 HS3 hv hle (by lia) hks fun s' ms ws c I' g' v' p' o'=>done H3 s' ms ws c I' sm g' HD3 v' p' o'
end
def uj(P:Addr)(lp:Pos)(q:Str)(iw:Nat)(te tb:TE):TE:=fun σ H Q=>te σ H fun x H1=>∃(l:Addr) (ns:List Int) (vw:V) (kf:Int→List Nat),x=.ref l∧H1 l=some (.lst (ns.map V.int))∧ns.length≤1000∧σ[iw]?=some (some vw)∧Tab H1 P lp q∧
 (∀n∈ns,∀H',bz P H1 H'→tb [some vw,some (.int n)] H' fun v H''=>∃k,v=.ref k∧H'' k=some (.lst ((kf n).map sg))∧Same H' H'')∧
 ∀(r:Addr) (ms:List Int) (H':Hp),ms.Perm ns→ms.Pairwise (fun a b=>aF (ba (kf b)) (ba (kf a))=false)→bz P H1 H'→(∃c,ph H' P lp q c)→H1 r=none→H' r=some (.lst (ms.map V.int))→Q (.ref r) H'
theorem wU{X:Cx}{e body:Expr}{te tb:TE}{p pos kp lp:Pos}{params:Arguments}{scope:Scope}{fv y:Str}{cc P:Addr}{iw k:Nat}(hc:X.calm=true)(hm:X.mg "sorted"=none)(hr:Room (k+2) X.A)(hcode:X.env.code=.ref cc)(C:PySem.W.CodeHd X.base cc P)(hB:dH X.mg X.base)(S:LamSc fv y scope)(hny:fv≠y)(hN:X.N[iw]?=some fv)(hkc:X.env.kindOf fv=some .cell)(hcl:∀cw,X.env.cells.lookup fv=some cw→closureFor scope X.env=pure [(fv,cw)])(hdef:defaultsOf params X.env=([],[]))(hbind:∀(q:Str) (cw c:Addr) (pm ctv u:Value),bindArgs (PySem.W.kla_fn "<lambda>" q params body scope [(fv,cw)] pm (.ref c) ctv) ⟨[u],[]⟩=pure [(y,u)])(ha:PE X e te)(hb:∀(A:Around) (s:Shared) (H:Hp) (L f c cw:Addr),PE (pI X A [fv,y] (iZ (X.env.qual++"<lambda>") scope L f c fv cw) s H) body tb)(hg:Gl X "sorted":=by rfl)(he:starEach [e] X.env=[(false,eval e X.env)]:=by rfl):
 PE X (.Call (.Name "sorted" p) [e] [⟨some "key",.Lambda params body scope lp,kp⟩] pos) (uj P lp (X.env.qual++"<lambda>") iw te tb):=by
 intro pins s σ H Q I h
 refine wpAny_Call_Name_kw (dE I hg hm AR ?_)
 have hbk:backTo pos (starEach [e] X.env)=(false,eval e X.env)::backTo pos (starEach [] X.env):=by rw[he];rfl
 refine PyProof.Rows.callWith_kw ?_ hbk (by rw[he];rfl) (by rfl) (by rfl)
 refine am ((aa ha ac (by exact he)) pos pins s σ H (fun vs H1=>match vs with | [x]=>uj P lp (X.env.qual++"<lambda>") iw (fun _ H Q=>Q x H) tb σ H1 Q | _=>False) I h) fun us s1 ⟨vs,H1,I1,r1,q1⟩=>?_
 match vs,q1 with
 | [x],q1=>
   obtain⟨u,rfl,ru⟩:=r1.one
   obtain⟨l,ns,vw,kf,rfl,hl,hle,hvw,T,turn,k1⟩:=q1
   cases ru
   have cellAt:∀{H':Hp} {s':Shared},Inv X pins σ H' s'→∃cw uw,X.env.cells.lookup fv=some cw∧s'.heap.IsCell cw (some uw)∧RelV vw uw∧H' cw=none:=fun{H' s'} I'=>by
    obtain⟨m,_,hloc⟩:=I'.loc
    obtain⟨uw,rw',lk⟩:=hloc iw fv vw hN hvw (.inr (.inl hkc))
    rcases lk with⟨z,_⟩ | ⟨_,cw,e1,e2⟩
    ·rw[hkc] at z;cases z
    ·exact⟨cw,uw,e1,e2,rw',I'.freeC fv cw e1⟩
   obtain⟨cw,_,hcw,_⟩:=cellAt I1
   refine PyProof.Rows.kws_cons (Ae I1 hcode C hB T (hcl cw hcw) hdef fun f c pm ctv H2 s2 I2 T2 k2 hf2 Hf2 hfs _=>PyProof.Rows.kws_nil ?_)
   have hl2:H2 l=some (.lst (ns.map V.int)):=k2 _ _ hl (fun z=>by
    rw[z] at hl
    rcases T with t | ⟨c',t,_⟩ <;> (rw[hl] at t;cases t))
   obtain⟨_,its,n,rv,hz,e1⟩:=I2.lstM hl2
   have hnl:ns.length=its.length:=by rw[←hz,List.length_map]
   have hL:s2.heap.IsList l its.toArray:=⟨_,e1,rfl,n,rfl⟩
   have hr2:Room k X.A.in1.in1:=hr.in1.in1
   have nf:NewAd X pins f:=I1.newAd hfs
   have TT:pV X pins σ H2 f (PySem.W.kla_obj "<lambda>" (X.env.qual++"<lambda>") params body scope [(fv,cw)] pm c ctv) ns kf:=by
    intro n0 hn0 H' s' u I' sm hf' _ ru
    obtain⟨cw',uw,e2,e3,e4,e5⟩:=cellAt I'
    rw[hcw] at e2
    cases e2
    have e0:=I'.env0.in1.in1
    have hcd:s'.heap.CodeRec (.ref c) (X.env.qual++"<lambda>"):=(I'.hok c _ (sm _ _ T2.2)).1
    refine wpAny_call (xS I' e0.frames hr2.hd hr2.depth S hny hf' hcd e3 e5 e4 ru (hbind _ _ _ _ _ _) (hb _ _ _ _ _ _ _) (turn n0 hn0 H' fun b o e n=>sm _ _ (k2 _ _ e n)) fun v' u' H'' s'' J un rv' q'=>?_)
    obtain⟨k0,rfl,hk0,sm2⟩:=q'
    cases rv'
    exact⟨k0,H'',rfl,J,hk0,sm2,un⟩
   refine PyProof.Rows.call_function_entry_kw kind_sorted plain_sorted entry_sorted (ksk_s1 _ _) ?_
   unfold Builtin.«sorted»
   refine wpAny_bind (m:=checkCount "sorted" 1 1 _) (wpAny_pure (wpAny_bind (collect_list hL (wpAny_bind (wpAny_newList ?_ (jq (by lia)))) (jq (by lia)))))
   have sz1:((s2.heap.push (seqObj "list" #[] 0)).update s2.heap.objs.size (Obj.mapSeq (·++its.toArray))).objs.size=s2.heap.objs.size+1:=by rw[Heap.size_update,size_push']
   have keep:∀b o,s2.heap.get? b=some o→(((s2.heap.push (seqObj "list" #[] 0)).update s2.heap.objs.size (Obj.mapSeq (·++its.toArray))).push (seqObj "list" its.toArray 0)).get? b=some o:=fun b o q=>by
    have hlt:b<s2.heap.objs.size:=Heap.lt_size q
    refine Heap.get?_push_of_some _ ((Heap.get?_update_other _ _ (Nat.ne_of_gt hlt)).trans (Heap.get?_push_of_some _ q))
   have at1:(((s2.heap.push (seqObj "list" #[] 0)).update s2.heap.objs.size (Obj.mapSeq (·++its.toArray))).push (seqObj "list" its.toArray 0)).get? (s2.heap.objs.size+1)=some (seqObj "list" its.toArray 0):=by
    rw[←sz1];exact Heap.get?_push_size _ rfl
   have I3:=I2.kept (h':=((s2.heap.push (seqObj "list" #[] 0)).update s2.heap.objs.size (Obj.mapSeq (·++its.toArray))).push (seqObj "list" its.toArray 0)) (t':=s2.toks) keep
   have hf3:=keep _ _ hf2
   show wpAny _ _ _ _ _ {s2 with heap:=((s2.heap.push (seqObj "list" #[] 0)).update s2.heap.objs.size (Obj.mapSeq (·++its.toArray))).push (seqObj "list" its.toArray 0)}
   rw[sz1]
   generalize ((s2.heap.push (seqObj "list" #[] 0)).update s2.heap.objs.size (Obj.mapSeq (·++its.toArray))).push (seqObj "list" its.toArray 0)=g at*
   have nD:NewAd X pins (s2.heap.objs.size+1):=I2.newAd (Nat.le_succ _)
   have HD2:H2 (s2.heap.objs.size+1)=none:=I2.hok.fresh (Nat.le_succ _)
   have hDf:s2.heap.objs.size+1≠f:=Nat.ne_of_gt (Nat.lt_succ_of_lt (Heap.lt_size hf2))
   refine wpAny_bind (wpAny_holding (wpAny_call_entry_kw slot_list_sort ⟨_,at1,rfl⟩ entry_list_sort ?_ (ksk_l1 _ _)))
   show wpAny (model X.prog X.w) X.A.in1.in1 (Builtin.«list.sort» ⟨[.ref (s2.heap.objs.size+1)],[(Str.ofString "key",.ref f)]⟩) _ _ _
   rw[ksk_t1]
   refine wZ hr2.units0 I3 nD at1 HD2 nf hf3 Hf2 hDf rv hle TT fun H4 s4 ms ws c4 I4 sm4 g4 HD4 v4 p4 o4=>⟨_,rfl,wpAny_pure ⟨_,rfl,?_⟩⟩
   have hwl:(ms.map V.int).length≤sizeLine:=by rw[List.length_map,p4.length_eq];exact jq hle
   have I5:=I4.trackE (e:=s2.heap.objs.size+1) (u:=.lst (ms.map V.int)) HD4 (Heap.get?_none_of_le nD.s0) nD.loc nD.cell nD.pin ⟨hwl,ws,c4,v4,g4⟩
   have sm5:Same H2 (upd H4 (s2.heap.objs.size+1) (.lst (ms.map V.int))):=sm4.trans (Same.upd HD4)
   have kk:bz P H1 (upd H4 (s2.heap.objs.size+1) (.lst (ms.map V.int))):=fun b o e n=>sm5 _ _ (k2 _ _ e n)
   have HD1:H1 (s2.heap.objs.size+1)=none:=by
    cases q:H1 (s2.heap.objs.size+1) with
    | none=>rfl
    | some o=>
      by_cases z:s2.heap.objs.size+1=P
      ·have:=T2.1;rw[←z,HD2] at this;cases this
      ·have:=k2 _ _ q z;rw[HD2] at this;cases this
   exact⟨.ref (s2.heap.objs.size+1),_,I5,rfl,k1 _ ms _ p4 o4 kk ⟨c,sm5 _ _ T2.1,sm5 _ _ T2.2⟩ HD1 ag⟩
def gc(x y:Str):List Str:=match Builtin.Str.occurrences x y 0 x.length 1 with
 | i::_=>[Builtin.Str.strSub x 0 i,y,Builtin.Str.strSub x (i+y.length) x.length]
 | []=>[x,Str.empty,Str.empty]
def yP:V→List V→Hp→VK→Prop:=fun x vs H Q=>∃s sep:Str,x=.str s∧vs=[.str sep]∧(sep.length == 0)=false∧s.length≤sizeLine∧∀a,H a=none→Q (.ref a) (upd H a (.tup ((gc s sep).map V.str)))
theorem zi{X:Cx}:nt X "str.partition" yP:=by
 intro pins s σ H x vs v us Q I rx rv h
 obtain⟨z,sep,rfl,rfl,h1,h2,q⟩:=h
 obtain⟨t,rfl⟩:=rx
 obtain⟨u,rfl,ru⟩:=rv.one
 obtain⟨t',rfl⟩:=ru
 have fr:H s.heap.objs.size=none:=I.fresh
 refine call_meets F.slot_str_partition (typeIs_str s _ t) F.entry_str_partition (F.args_str_partition_2 _ _) (meets_str_partition z sep t t' h1 h2) ?_
 have q':=q _ fr
 unfold gc at q'
 revert q'
 cases Builtin.Str.occurrences z sep 0 z.length 1 with
 | nil=>
   intro q'
   exact⟨.ref s.heap.objs.size,_,I.laid (a:=s.heap.objs.size) (o:=.tup [.str z,.str Str.empty,.str Str.empty]) (t':=s.toks+1) (fun b o e=>Heap.get?_push_of_some _ e) (Nat.le_refl _) ⟨(by show 3≤sizeLine;decide),_,.cons ⟨t,rfl⟩ (.cons ⟨s.toks,rfl⟩ (.cons ⟨s.toks,rfl⟩ .nil)),⟨_,Heap.get?_push_size _ rfl,rfl,_,rfl⟩⟩,rfl,q'⟩
 | cons i r=>
   intro q'
   exact⟨.ref s.heap.objs.size,_,I.laid (a:=s.heap.objs.size) (o:=.tup [.str (Builtin.Str.strSub z 0 i),.str sep,.str (Builtin.Str.strSub z (i+sep.length) z.length)]) (t':=s.toks+1+1) (fun b o e=>Heap.get?_push_of_some _ e) (Nat.le_refl _) ⟨(by show 3≤sizeLine;decide),_,.cons ⟨s.toks,rfl⟩ (.cons ⟨t',rfl⟩ (.cons ⟨s.toks+1,rfl⟩ .nil)),⟨_,Heap.get?_push_size _ rfl,rfl,_,rfl⟩⟩,rfl,q'⟩
theorem tf{s sub:Str}{hi:Nat}:∀(l:List Nat) (st:Array Nat×Nat),1≤st.1.size→(forIn l st (StrLaws.occBody s sub hi 1)).run=st
 | [],st,_=>rfl
 | a::l,st,h=>by
   rw[List.forIn_cons]
   unfold StrLaws.occBody
   rw[if_neg fun z=>by have:=z.1.1.1;lia]
   exact tf l st h
theorem uX{s sub:Str}{hi:Nat}:∀(l:List Nat) (free:Nat),(∀i∈l,free≤i)→(forIn l ((#[]:Array Nat),free) (StrLaws.occBody s sub hi 1)).run.fst=match l.find? (fun i=>decide (i+sub.length≤hi) && Builtin.Str.subAt s sub i) with | some i=>#[i] | none=>#[]
 | [],_,_=>rfl
 | a::l,free,hf=>by
   rw[List.forIn_cons,List.find?_cons]
   have ha:free≤a:=hf a List.mem_cons_self
   by_cases hc:a+sub.length≤hi∧Builtin.Str.subAt s sub a=true
   ·have e:(decide (a+sub.length≤hi) && Builtin.Str.subAt s sub a)=true:=by rw[decide_eq_true hc.1,hc.2];rfl
    rw[e]
    have:StrLaws.occBody s sub hi 1 a (#[],free)=pure (ForInStep.yield (#[a],a+sub.length)):=if_pos ⟨⟨⟨Nat.zero_lt_one,ha⟩,hc.1⟩,hc.2⟩
    rw[this]
    have:=tf (s:=s) (sub:=sub) (hi:=hi) l (#[a],a+sub.length) (Nat.le_refl 1)
    exact congrArg Prod.fst this
   ·have e:(decide (a+sub.length≤hi) && Builtin.Str.subAt s sub a)=false:=by
     by_cases h1:a+sub.length≤hi
     ·have:Builtin.Str.subAt s sub a=false:=Bool.eq_false_iff.mpr fun z=>hc ⟨h1,z⟩
      rw[this,Bool.and_false]
     ·rw[decide_eq_false h1,Bool.false_and]
    rw[e]
    have:StrLaws.occBody s sub hi 1 a (#[],free)=pure (ForInStep.yield (#[],free)):=if_neg fun z=>hc ⟨z.1.2,z.2⟩
    rw[this]
    exact uX l free fun i m=>hf i (List.mem_cons_of_mem _ m)
theorem Eo{cs:List Nat}{c i:Nat}:Builtin.Str.subAt ⟨cs.toArray⟩ ⟨#[c]⟩ i=decide (cs[i]?=some c):=by
 show((cs.toArray.extract i (i+1)) == #[c])=_
 have e:cs.toArray.extract i (i+1)=((cs.drop i).take 1).toArray:=by
  apply Array.toList_inj.mp
  simp[List.extract_eq_drop_take]
 rw[e]
 by_cases h:i<cs.length
 ·have e1:(cs.drop i).take 1=[cs[i]]:=by rw[List.drop_eq_getElem_cons h];rfl
  rw[e1,List.getElem?_eq_getElem h]
  by_cases q:cs[i]=c <;> simp[q]
 ·rw[List.drop_eq_nil_of_le (by lia),List.getElem?_eq_none (by lia)]
  simp
theorem su{cs:List Nat}{c:Nat}:Builtin.Str.occurrences ⟨cs.toArray⟩ ⟨#[c]⟩ 0 cs.length 1=((List.range' 0 (cs.length+1)).find? fun i=>decide (cs[i]?=some c)).toList:=by
 rw[StrLaws.occ_eq,uX _ _ fun i _=>Nat.zero_le i]
 have e:(fun i=>decide (i+(⟨#[c]⟩:Str).length≤cs.length) && Builtin.Str.subAt ⟨cs.toArray⟩ ⟨#[c]⟩ i)=fun i=>decide (cs[i]?=some c):=by
  funext i
  rw[Eo]
  by_cases h:cs[i]?=some c
  ·have:=(List.getElem?_eq_some_iff.mp h).1
   rw[decide_eq_true h,Bool.and_true]
   exact decide_eq_true (show i+1≤cs.length by lia)
  ·rw[decide_eq_false h,Bool.and_false]
 rw[e]
 show(match (List.range' 0 (cs.length+1)).find? fun i=>decide (cs[i]?=some c) with | some i=>#[i] | none=>#[]).toList=_
 cases(List.range' 0 (cs.length+1)).find? fun i=>decide (cs[i]?=some c) <;> rfl
theorem zK{cs:List Nat}{c:Nat}(h:c∉cs):gc ⟨cs.toArray⟩ ⟨#[c]⟩=[⟨cs.toArray⟩,Str.empty,Str.empty]:=by
 have e:Builtin.Str.occurrences ⟨cs.toArray⟩ ⟨#[c]⟩ 0 (⟨cs.toArray⟩:Str).length 1=[]:=by
  have l:(⟨cs.toArray⟩:Str).length=cs.length:=by show cs.toArray.size=_;simp
  rw[l,su]
  have:((List.range' 0 (cs.length+1)).find? fun i=>decide (cs[i]?=some c))=none:=List.find?_eq_none.mpr fun i _ z=>h (List.mem_of_getElem? (of_decide_eq_true z))
  rw[this];rfl
 unfold gc
 rw[e]
theorem xf{a b:List Nat}{c:Nat}(h:c∉a):gc ⟨(a++c::b).toArray⟩ ⟨#[c]⟩=[⟨a.toArray⟩,⟨#[c]⟩,⟨b.toArray⟩]:=by
 have l:(⟨(a++c::b).toArray⟩:Str).length=(a++c::b).length:=by show(a++c::b).toArray.size=_;simp
 have hit:(a++c::b)[a.length]?=some c:=by simp
 have e:Builtin.Str.occurrences ⟨(a++c::b).toArray⟩ ⟨#[c]⟩ 0 (⟨(a++c::b).toArray⟩:Str).length 1=[a.length]:=by
  rw[l,su]
  have:((List.range' 0 ((a++c::b).length+1)).find? fun i=>decide ((a++c::b)[i]?=some c))=some a.length:=by
   have sp:List.range' 0 ((a++c::b).length+1)=List.range' 0 a.length++(a.length::List.range' (a.length+1) (b.length+1)):=by
    have:(a++c::b).length+1=a.length+(1+(b.length+1)):=by simp;lia
    rw[this,←List.range'_append_1,Nat.zero_add,←List.range'_append_1]
    rfl
   rw[sp,List.find?_append]
   have n:((List.range' 0 a.length).find? fun i=>decide ((a++c::b)[i]?=some c))=none:=List.find?_eq_none.mpr fun i m z=>by
    have hi:i<a.length:=by have:=(List.mem_range'_1.mp m).2;lia
    rw[decide_eq_true_eq,List.getElem?_append_left hi] at z
    exact h (List.mem_of_getElem? z)
   rw[n,List.find?_cons_of_pos (by rw[hit];simp)]
   rfl
  rw[this];rfl
 unfold gc
 rw[e,l]
 show [Builtin.Str.strSub _ 0 a.length,_,Builtin.Str.strSub _ (a.length+1) _]=_
 have e1:(a++c::b).toArray.extract 0 a.length=a.toArray:=by apply Array.toList_inj.mp;simp[List.extract_eq_drop_take]
 have e2:(a++c::b).toArray.extract (a.length+1) (a++c::b).length=b.toArray:=by
  apply Array.toList_inj.mp
  simp[List.extract_eq_drop_take]
  exact List.take_of_length_le (by lia)
 unfold Builtin.Str.strSub
 rw[e1,e2]
def Bs:V→List V→Hp→VK→Prop:=fun x vs H Q=>∃(sep:Str) (l:Addr) (ts:List Str),x=.str sep∧vs=[.ref l]∧H l=some (.lst (ts.map V.str))∧JoinOk sep ts=true∧Q (.str (Txt.join sep ts)) H
theorem rS:∀{ts:List Str} {us:List Value},Vals (ts.map V.str) us→∃l:List (Str×Tok),l.map (·.1)=ts∧us=strValues l
 | [],_,.nil=>⟨[],rfl,rfl⟩
 | t::ts,_,.cons ⟨tk,e⟩ r=>by
   obtain⟨l,e1,e2⟩:=rS r
   exact⟨(t,tk)::l,by rw[List.map_cons,e1],by rw[e,e2];rfl⟩
theorem fF{X:Cx}:nt X "str.join" Bs:=by
 intro pins s σ H x vs v us Q I rx rv h
 obtain⟨sep,l,ts,rfl,rfl,hl,ok,q⟩:=h
 obtain⟨t,rfl⟩:=rx
 obtain⟨u,rfl,ru⟩:=rv.one
 cases ru
 obtain⟨z,its,n,r,hz,e⟩:=I.lstM hl
 obtain⟨ls,e1,rfl⟩:=rS r
 exact SC.join (l:=ls) (texts:=ts) ⟨_,e,rfl,n,rfl⟩ e1 ok fun t' k=>⟨.str _,H,I.kept (h':=s.heap) (t':=k) (fun b o e=>e),⟨t',rfl⟩,q⟩
section
variable{X:Cx}{pins:List (Addr×Obj)}{σ0:St}{E0:XK}
theorem BE{pl:Sem Bool}{k j:Nat}{C f:Addr}{fd:FuncData}{m:Str}{ps:List Str}{sp:Sp}{o e:Expr}{es:List Expr}{apos pos:Pos}{ta:TE}{t:TA}(he:PE (dL X pins σ0 E0) o ta)(c:Cls X.K C)(hm:Meth X.K C m f)(F:FnOk X.prog X.w X.K X.mg X.base (au X.prog X.w) k f fd ps sp)(hr:Room j X.A)(hb:Binds X.K fd ps [])(ha:PA (dL X pins σ0 E0) (e::es) t)(hj:k≤j:=by decide)
 (hst:starEach (e::es) X.env=(false,eval e X.env)::starEach es X.env:=by rfl)(hpl:(backTo pos (starEach es X.env)).any (·.1)=false:=by rfl)
 (ht:eval (.Call (.Attribute o m apos) (e::es) [] pos) X.env=(do
  let ov←eval o X.env
  standAt apos.atName
  let (f,first)←holding [ov] (getMethod ov m pl)
  callWith pos f first (backTo pos (starEach (e::es) X.env)) (backToKw pos (keywordEach [] X.env))):=by rfl):
 PE (dL X pins σ0 E0) (.Call (.Attribute o m apos) (e::es) [] pos) (nw σ0 (gK C m sp [] E0 ta t)):=by
 have hr:=hr.mono hj
 intro pins' s σ H Q I h
 obtain⟨rfl,h⟩:=h
 refine PySem.W.methodCall_KW (pl:=pl) (am (he pins' s σ H _ I h) fun u s1 ⟨x,H1,I1,rx,a,dx,fs,ex,ea,l,q⟩=>?_) ht
 subst ex
 obtain rfl:u=Value.ref a:=rx
 refine lR I1 ea c hm l ?_
 refine PySem.W.callWith_K (first:=[.ref a]) (h₀:=X.base) I.ok.mod.kin hm.kp (am (ha pos pins' s1 σ H1 _ I1 q) fun us s2 ⟨vs,H2,I2,r,q2⟩=>⟨I2.kIn,?_⟩) hst hpl
 have r2:Vals ((.ref a::vs)++[]) ((.ref a::us)++[]):=(show Vals (.ref a::vs) (.ref a::us) from .cons rfl r).append .nil
 have hl:((.ref a::us)++[]:List Value).length=ps.length:=by rw[←r2.length];exact F.len _ _ _ _ q2
 refine wpAny_call (codeAny_mono (F.run X.A X.stack s2 H2 ⟨.ref a::us,[]⟩ ((.ref a::us)++[]) ((.ref a::vs)++[]) Q E0 hr I2.env0 (hb s2 _ I2.kIn hl) r2 q2) fun rr s' hq=>?_)
 cases rr with
 | error ee=>exact⟨H2,s2,I2.ofTry,hq⟩
 | ok fl=>
   cases fl with
   | ret u=>exact I2.after hq
   | next=>exact False.elim hq
   | brk=>exact False.elim hq
   | cont=>exact False.elim hq
end
structure MF(K:PySem.W.Frag)(C:Addr)(x qual:Str)(st:Stmt):Prop where
 ex:∃(f:Addr) (oc:Value) (od an:Option Addr) (osl:Array (Option Value)) (kV doc pm cdv ct:Value),PySem.W.findIn K (.ref C) x=some (some (.ref f))∧PySem.W.isFn K (.ref f)=true∧
  K.lookup f=some ⟨oc,od,.func (PySem.W.fnOf x qual (cf st) (bG st) (al st) .none kV doc pm an cdv ct),osl⟩∧PySem.W.codeIn K cdv qual=true∧PySem.W.keepIn K (.ref f)=true
theorem mf_mk{K:PySem.W.Frag}{C:Addr}{x qual:Str}{st:Stmt}{f:Addr}{oc:Value}{od an:Option Addr}{osl:Array (Option Value)}{kV doc pm cdv ct:Value}(a:PySem.W.findIn K (.ref C) x=some (some (.ref f)))(i:PySem.W.isFn K (.ref f)=true)(l:K.lookup f=some ⟨oc,od,.func (PySem.W.fnOf x qual (cf st) (bG st) (al st) .none kV doc pm an cdv ct),osl⟩)(c:PySem.W.codeIn K cdv qual=true)(k:PySem.W.keepIn K (.ref f)=true):MF K C x qual st:=⟨f,oc,od,an,osl,kV,doc,pm,cdv,ct,a,i,l,c,k⟩
structure Mt(P:Program)(w:World)(K:PySem.W.Frag)(mg:Str→Option Value)(base:Heap)(CX:bd)(C:Addr)(x:Str)(k:Nat)(ps:List Str)(sp:Sp):Prop where
 ex:∃f fd,FnOk P w K mg base CX k f fd ps sp∧Meth K C x f∧Binds K fd ps []
theorem lJ{CX:bd}{P:Program}{w:World}{K:PySem.W.Frag}{mg:Str→Option Value}{base:Heap}{C:Addr}{x qual:Str}{st:Stmt}{N ps:List Str}{k:Nat}{sp:Sp}(F:MF K C x qual st)(S:FnScope N ps (al st))(hbind:∀(kV doc pm:Value) (an:Option Addr) (cdv ct:Value) (us:List Value),us.length=ps.length→bindArgs (PySem.W.fnOf x qual (cf st) (bG st) (al st) .none kV doc pm an cdv ct) ⟨us,[]⟩=pure (ps.zip us))(len:∀vs H Q E,sp vs H Q E→vs.length=ps.length)(hbody:∀(f:Addr) (cdv:Value) (A:Around) (outer:List Env) (s:Shared) (H:Hp) (vs:List V) (Q:VK) (E:XK),Room k (A.deeper (envOfC qual (al st) s.heap.objs.size f cdv))→sp vs H Q E→∃t,PSs (bW CX P w K mg base N qual (al st) f cdv A outer s H E) (bG st) t∧t {nx:=fun _ H'=>Q .non H',rt:=Q} (ck N vs) H):Mt P w K mg base CX C x (k+1) ps sp:=by
 obtain⟨f,oc,od,an,osl,kV,doc,pm,cdv,ct,a,i,l,c,kk⟩:=F.ex
 have F1:=ir (st:=st) l c kk
 exact⟨f,_,jw l c S len (fun A outer s H vs Q E hr h=>hbody f cdv A outer s H vs Q E hr h),⟨a,i,kk⟩,F1.binds hbind⟩
section
variable{X:Cx}{CX:bd}{k j:Nat}{C:Addr}{ps:List Str}{sp:Sp}{E:XK}{x m:Str}{p pos apos:Pos}{e o:Expr}{es:List Expr}{ta:TE}{t:TA}
theorem iS{pl:Sem Bool}(he:PE X o ta)(c:Cls X.K C)(F:Mt X.prog X.w X.K X.mg X.base CX C m k ps sp)(hr:Room j X.A)(hx:cA CX X E)(ha:PA X (e::es) t)(hj:k≤j:=by decide)
 (hst:starEach (e::es) X.env=(false,eval e X.env)::starEach es X.env:=by rfl)(hpl:(backTo pos (starEach es X.env)).any (·.1)=false:=by rfl)
 (ht:eval (.Call (.Attribute o m apos) (e::es) [] pos) X.env=(do
  let ov←eval o X.env
  standAt apos.atName
  let (f,first)←holding [ov] (getMethod ov m pl)
  callWith pos f first (backTo pos (starEach (e::es) X.env)) (backToKw pos (keywordEach [] X.env))):=by rfl):
 PE X (.Call (.Attribute o m apos) (e::es) [] pos) (gK C m sp [] E ta t):=by
 obtain⟨f,fd,F,hm,hb⟩:=F.ex
 exact AI he c hm F (hr.mono hj) hb .nil hx ha hst hpl ht
theorem jQ{pl:Sem Bool}(he:PE X o ta)(c:Cls X.K C)(F:Mt X.prog X.w X.K X.mg X.base CX C m k ps sp)(hr:Room j X.A)(hx:cA CX X E)(hj:k≤j:=by decide)
 (ht:eval (.Call (.Attribute o m apos) [] [] pos) X.env=(do
  let ov←eval o X.env
  standAt apos.atName
  let (f,first)←holding [ov] (getMethod ov m pl)
  callWith pos f first (backTo pos (starEach [] X.env)) (backToKw pos (keywordEach [] X.env))):=by rfl):
 PE X (.Call (.Attribute o m apos) [] [] pos) (gK C m sp [] E ta fJ):=by
 obtain⟨f,fd,F,hm,hb⟩:=F.ex
 exact As he c hm F (hr.mono hj) hb .nil hx ht
def yZ(i:Nat)(f:Addr)(sp:Sp)(E:XK)(t:TA):TE:=fun σ H Q=>σ[i]?=some (some (.ref f))∧gU sp [] E t σ H Q
theorem BM{i:Nat}{y:Str}{f:Addr}{fd:FuncData}(hv:PE X (.Name x p) (gf i))(F:FnOk X.prog X.w X.K X.mg X.base CX k f fd ps sp)(hk:PySem.W.keepIn X.K (.ref f)=true)(hb:Binds X.K fd ps [])(hr:Room j X.A)(hx:cA CX X E)(ha:PA X (e::es) t)(hj:k≤j:=by decide)
 (he:starEach (e::es) X.env=(false,eval e X.env)::starEach es X.env:=by rfl)(hpl:(backTo pos (starEach es X.env)).any (·.1)=false:=by rfl):
 PE X (.Call (.Name x p) (e::es) [] pos) (yZ i f sp E t):=by
 intro pins s σ H Q I h
 obtain⟨h1,h2⟩:=h
 refine wpAny_Call_Name_kw (am (hv pins s σ H (fun v H'=>v=.ref f∧H'=H) I ⟨_,h1,rfl,rfl⟩) fun u s1 ⟨v,H1,I1,r1,e1,e2⟩=>?_)
 subst e1;subst e2
 obtain rfl:u=Value.ref f:=r1
 refine PySem.W.callWith_K (h₀:=X.base) I.ok.mod.kin hk (am (ha pos pins s1 σ _ _ I1 h2) fun us s2 ⟨vs,H2,I2,r,q⟩=>⟨I2.kIn,?_⟩) he hpl
 exact jU F (hr.mono hj) hb .nil hx I2 r q
end
structure DK(K:PySem.W.Frag)(P:Program)(w:World)(d:Addr)(kvs:List (az×V)):Prop where
 sys:(d == sysModules)=false
 ex:∃o vs,K.lookup d=some o∧KV kvs vs∧o.IsDictOf (bQ P w) vs
section
variable{X:Cx}{d:Addr}{kvs:List (az×V)}
theorem DK.at{pins:List (Addr×Obj)}{σ:St}{H:Hp}{s:Shared}(g:DK X.K X.prog X.w d kvs)(I:Inv X pins σ H s):∃vs,KV kvs vs∧s.heap.DictOf (bQ X.prog X.w) d vs:=by
 obtain⟨_,o,vs,l,r,h⟩:=g
 exact⟨vs,r,Heap.dictOf_iff.mpr ⟨o,I.kIn _ _ l,h⟩⟩
def BB(d:Addr)(kvs:List (az×V)):R2:=fun y x H Q=>x=.ref d∧∃k,y=kV k∧Q (.bl (aY kvs k).isSome) H
theorem sx(g:DK X.K X.prog X.w d kvs):OpR X (compareOp .In) (BB d kvs):=by
 intro pins s σ H y x v u Q I ry rx h
 obtain⟨e,k,ey,q⟩:=h
 subst e;subst ey
 obtain rfl:u=Value.ref d:=rx
 obtain⟨vs,rel,dd⟩:=g.at I
 refine wpAny_in_of (fI ry) g.sys dd.mapOf ?_
 rw[←(rel.val k).isSome_eq]
 exact⟨.bl (aY kvs k).isSome,H,I.tok _,rfl,q⟩
def xO(d:Addr)(kvs:List (az×V))(td ty:TE):TE:=fun σ H Q=>td σ H fun x H1=>ty σ H1 fun y H2=>x=.ref d∧∃k v,y=kV k∧aY kvs k=some v∧Q v H2
theorem p9{o i:Expr}{pos:Pos}{td ty:TE}(g:DK X.K X.prog X.w d kvs)(ho:PE X o td)(hi:PE X i ty)(hs:oK i):PE X (.Subscript o i pos) (xO d kvs td ty):=by
 intro pins s σ H Q I h
 refine rz PySem.F.slot_dict_getitem.lookup hs (am (ho pins s σ H _ I h) fun u s1 ⟨x,H1,I1,rx,q1⟩=>am (hi pins s1 σ H1 _ I1 q1) fun iv s2 ⟨y,H2,I2,ry,ex,k,v,ey,l,q2⟩=>?_)
 subst ex;subst ey
 obtain rfl:u=Value.ref d:=rx
 obtain⟨vs,rel,dd⟩:=g.at I2
 obtain⟨w',hw,rw'⟩:=RelO.some_of (v:=v) (o:=valueAt vs k) (by rw[←l];exact rel.val k)
 exact⟨dd.typeIs,wpAny_getItem_of (fI ry) dd.mapOf hw ⟨v,H2,I2.tok _,rw',q2⟩⟩
end
section
variable{X:Cx}{pins:List (Addr×Obj)}{σ0:St}{E0:XK}
theorem y7{pl:Sem Bool}{k j:Nat}{C:Addr}{m:Str}{ps:List Str}{sp:Sp}{o e:Expr}{es:List Expr}{apos pos:Pos}{ta:TE}{t:TA}(he:PE (dL X pins σ0 E0) o ta)(c:Cls X.K C)(F:Mt X.prog X.w X.K X.mg X.base (au X.prog X.w) C m k ps sp)(hr:Room j X.A)(ha:PA (dL X pins σ0 E0) (e::es) t)(hj:k≤j:=by decide)
 (hst:starEach (e::es) X.env=(false,eval e X.env)::starEach es X.env:=by rfl)(hpl:(backTo pos (starEach es X.env)).any (·.1)=false:=by rfl)
 (ht:eval (.Call (.Attribute o m apos) (e::es) [] pos) X.env=(do
  let ov←eval o X.env
  standAt apos.atName
  let (f,first)←holding [ov] (getMethod ov m pl)
  callWith pos f first (backTo pos (starEach (e::es) X.env)) (backToKw pos (keywordEach [] X.env))):=by rfl):
 PE (dL X pins σ0 E0) (.Call (.Attribute o m apos) (e::es) [] pos) (nw σ0 (gK C m sp [] E0 ta t)):=by
 obtain⟨f,fd,F,hm,hb⟩:=F.ex
 exact BE he c hm F hr hb ha hj hst hpl ht
end
def cd(x:Str):List Nat:=x.cps.toList
theorem fE(x:Str):(⟨(cd x).toArray⟩:Str)=x:=by cases x;simp[cd]
theorem eT(l:List Nat):cd ⟨l.toArray⟩=l:=by simp[cd]
theorem iM(x:Str):x.length=(cd x).length:=by simp[cd,Str.length]
theorem cd_inj{x y:Str}:x=y↔cd x=cd y:=⟨fun e=>by rw[e],fun e=>by rw[←fE x,←fE y,e]⟩
theorem cL(x y:Str):cd (x++y)=cd x++cd y:=by
 have:=wE (cd x) (cd y)
 rw[fE,fE] at this
 rw[this,eT]
theorem gr(x y:Str):decide (V.str x=V.str y)=decide (cd x=cd y):=by
 by_cases h:x=y
 ·subst h;simp
 ·rw[decide_eq_false (fun e=>h (V.str.inj e)),decide_eq_false fun e=>h (cd_inj.mpr e)]
def bn(cs:List Nat):List Nat:=cs.takeWhile fun c=>decide (c≠32)
def bB(cs:List Nat):List Nat:=(cs.dropWhile fun c=>decide (c≠32)).drop 1
theorem lN{a b:List Nat}(h:32∉a):bn (a++32::b)=a∧bB (a++32::b)=b:=by
 have t:∀x∈a,decide (x≠32)=true:=fun x hx=>decide_eq_true fun e=>h (e▸hx)
 unfold bn bB
 constructor
 ·rw[List.takeWhile_append_of_pos t,List.takeWhile_cons_of_neg (by decide),List.append_nil]
 ·rw[List.dropWhile_append_of_pos t,List.dropWhile_cons_of_neg (by decide)];rfl
theorem qw:∀l:List Nat,32∉l∨∃a b,l=a++32::b∧32∉a
 | []=>.inl (by simp)
 | c::l=>by
   by_cases h:c=32
   ·subst h;exact .inr ⟨[],l,rfl,by simp⟩
   ·rcases qw l with q | ⟨a,b,e,ha⟩
    ·exact .inl fun m=>(List.mem_cons.mp m).elim (fun z=>h z.symm) q
    ·exact .inr ⟨c::a,b,by rw[e];rfl,fun m=>(List.mem_cons.mp m).elim (fun z=>h z.symm) ha⟩
theorem oq:∀{l:List Nat},32∉l→bn l=l∧bB l=[]
 | [],_=>⟨rfl,rfl⟩
 | c::l,h=>by
   have hc:decide (c≠32)=true:=decide_eq_true fun e=>h (by rw[e];exact List.mem_cons_self)
   have ih:=oq (l:=l) fun m=>h (List.mem_cons_of_mem _ m)
   unfold bn bB at*
   constructor
   ·rw[List.takeWhile_cons_of_pos (p:=fun c=>decide (c≠32)) hc,ih.1]
   ·rw[List.dropWhile_cons_of_pos (p:=fun c=>decide (c≠32)) hc,ih.2]
theorem Du(x:Str):∃m:Str,gc x " "=[⟨(bn (cd x)).toArray⟩,m,⟨(bB (cd x)).toArray⟩]:=by
 have eb:(Str.ofString " ")=⟨#[32]⟩:=by decide+kernel
 rw[eb]
 rcases qw (cd x) with h | ⟨a,b,e,ha⟩
 ·have:=zK (cs:=cd x) (c:=32) h
  rw[fE] at this
  rw[this,(oq h).1,(oq h).2,fE]
  exact⟨_,rfl⟩
 ·have:=xf (a:=a) (b:=b) (c:=32) ha
  rw[←e,fE] at this
  rw[this,e,(lN ha).1,(lN ha).2]
  exact⟨_,rfl⟩
structure MkF(P:Program)(w:World)(K:PySem.W.Frag)(mg:Str→Option Value)(base:Heap)(CX:bd)(C:Addr)(k:Nat)(ps:List Str)(sp:Sp):Prop where
 ex:∃f fd,Mk K C f∧FnOk P w K mg base CX k f fd ps sp∧Binds K fd ps []
theorem sU{X:Cx}{CX:bd}{k j:Nat}{C:Addr}{ps:List Str}{sp:Sp}{E:XK}{x:Str}{p pos:Pos}(F:MkF X.prog X.w X.K X.mg X.base CX C k ps sp)(hr:Room j X.A)(hg:Gl X x)(hm:X.mg x=some (.ref C))(hx:cA CX X E)(hj:k+1≤j:=by decide)(hdb:(x == ("__debug__":Str))=false:=by decide):
 PE X (.Call (.Name x p) [] [] pos) (uE C sp [] E fJ):=by
 obtain⟨f,fd,M,F,hb⟩:=F.ex
 exact vY M F (hr.mono hj) hg hm hb .nil hx hdb
theorem wP{P:Program}{w:World}{K:PySem.W.Frag}{mg:Str→Option Value}{base:Heap}{CX:bd}{C:Addr}{k:Nat}{ps:List Str}{sp:Sp}(m:PySem.W.makesIn K C=true)(kp:PySem.W.keepIn K (.ref C)=true)(F:Mt P w K mg base CX C "__init__" k ps sp):MkF P w K mg base CX C k ps sp:=by
 obtain⟨f,fd,F,hm,hb⟩:=F.ex
 exact⟨f,fd,⟨m,hm.at_,hm.fn,kp⟩,F,hb⟩
def lD(pm:Params)(es:List (Str×Tok×Addr)):List DictEntry:=es.map fun e=>⟨PyData.keyHash pm e.1,.str e.1 e.2.1,.ref e.2.2⟩
theorem uJ{K:PySem.W.Frag}{P:Program}{w:World}{d:Addr}(es:List (Str×Tok×Addr)){o:Obj}(l:K.lookup d=some o){n:Nat}(ho:o={cls:=.type "dict",data:=.dict (lD w.params es).toArray n})(hs:(d == sysModules)=false)(nd:(es.map (·.1)).Nodup):DK K P w d (es.map fun e=>(.inr e.1,.ref e.2.2)):=by
 refine⟨hs,o,es.map fun e=>(.inr e.1,.ref e.2.2),l,?_,?_⟩
 ·induction es with
  | nil=>exact .nil
  | cons e es ih=>exact .cons ⟨rfl,rfl⟩ (by
   clear ih ho nd
   induction es with
   | nil=>exact .nil
   | cons e es ih=>exact .cons ⟨rfl,rfl⟩ ih)
 ·subst ho
  refine⟨_,_,⟨rfl,rfl,rfl⟩,rfl,?_,?_,?_⟩
  ·intro x hx
   have hx:x∈lD w.params es:=by simpa using hx
   unfold lD at hx
   obtain⟨e,he,rfl⟩:=List.mem_map.mp hx
   exact⟨.inr e.1,on P w e.1 e.2.1,rfl⟩
  ·have:∀l:List (Str×Tok×Addr),Pairs (bQ P w) (lD w.params l) (l.map fun e=>(.inr e.1,.ref e.2.2)):=fun l=>by
    induction l with
    | nil=>exact .nil
    | cons e l ih=>exact .cons (on P w e.1 e.2.1) rfl ih
   simpa using this es
  ·rw[List.map_map]
   have:∀l:List (Str×Tok×Addr),(l.map (·.1)).Nodup→(l.map ((fun x:az×Value=>x.1) ∘ fun e=>(.inr e.1,.ref e.2.2))).Nodup:=fun l=>by
    induction l with
    | nil=>exact fun _=>List.nodup_nil
    | cons e l ih=>
      intro h
      obtain⟨h1,h2⟩:=List.nodup_cons.mp h
      refine List.nodup_cons.mpr ⟨fun m=>h1 ?_,ih h2⟩
      obtain⟨e',he,ee⟩:=List.mem_map.mp m
      have:e'.1=e.1:=Sum.inr.inj ee
      exact List.mem_map.mpr ⟨e',he,this⟩
   exact this es nd
def wq(x:Str)(te:TE):TE:=fun σ H Q=>te σ H fun v H'=>∃i:Int,v=.int i∧i.natAbs.log2<1900∧Q (.str (Str.empty++x++Str.ofString (toString i))) H'
theorem lh{X:Cx}{x:Str}{e:Expr}{te:TE}{j:Nat}{p1 p2 pos:Pos}(he:PE X e te)(hl:x.length≤2000)(hs:evalEach [.Constant (.str x) j p1,.FormattedValue e (-1) none p2] X.env=[eval (.Constant (.str x) j p1) X.env,eval (.FormattedValue e (-1) none p2) X.env]:=by rfl):
 PE X (.JoinedStr [.Constant (.str x) j p1,.FormattedValue e (-1) none p2] pos) (wq x te):=by
 intro pins s σ H Q I h
 have l0:(Str.empty++x).length=x.length:=by rw[strLen_append];show 0+_=_;lia
 refine JoinedStr_many (joinParts_cons (Calls.Constant_str ⟨by rw[l0];show _≤2 ^ 24;lia,?_⟩))
 show wpAny _ _ (joinParts _ [eval (.FormattedValue e (-1) none p2) X.env]) _ _ _
 refine joinParts_cons (FormattedValue_plain (am (he pins _ σ H _ (I.tok _) h) fun v s1 ⟨y,H1,I1,ry,i,ey,hi,q⟩=>?_))
 subst ey
 obtain⟨k,rfl⟩:=ry
 refine formatField_int_small (by lia) ?_
 have li:=int_text_length_le (a:=i) (k:=1900) (by decide) hi
 have l1:(Str.empty++x++Str.ofString (toString i)).length≤4000:=by rw[strLen_append,l0,PySem.ofString_length];lia
 refine⟨by show _≤2 ^ 24;exact Nat.le_trans l1 (by decide),joinParts_nil ?_ (by show _≤2 ^ 24;exact Nat.le_trans l1 (by decide))⟩
 exact⟨.str (Str.empty++x++Str.ofString (toString i)),H1,I1.kept (h':=s1.heap) (t':=s1.toks+1+1+1) (fun _ _ q=>q),⟨_,rfl⟩,q⟩
structure PEw(X:Cx)(e:Expr)(t:TE):Prop where
 h:PE X e t
structure PAw(X:Cx)(es:List Expr)(t:TA):Prop where
 h:PA X es t
section
variable{X:Cx}{e a b:Expr}{es:List Expr}{te ta tb:TE}{t:TA}{pos:Pos}
theorem Ez:PAw X [] fJ:=⟨ac⟩
theorem fO(ha:PEw X e te)(hr:PAw X es t)(hs:starEach (e::es) X.env=(false,eval e X.env)::starEach es X.env:=by rfl):PAw X (e::es) (iA te t):=⟨aa ha.h hr.h hs⟩
theorem Eu(h:PAw X es t):PEw X (.List es pos) (kN t):=⟨aS h.h⟩
theorem fQ{x:Str}{j:Nat}:PEw X (.Constant (.str x) j pos) (tC (.str x)):=⟨ar⟩
end
section
variable{P:Program}{w:World}{K:PySem.W.Frag}{mg:Str→Option Value}{base:Heap}{x:Str}{k k1 k2:Nat}{ps:List Str}{sp sp1 sp2 sp':Sp}
theorem Fn.toX{CX:bd}(F:Fn P w K mg base ae x k ps sp):Fn P w K mg base CX x k ps sp:=by
 obtain⟨f,fd,F,h⟩:=F.ex
 refine⟨f,fd,⟨F.len,fun A outer s H args us vs Q E hr he hb hv hs=>codeAny_mono (F.run A outer s H args us vs Q E hr he hb hv hs) fun r s' hq=>?_⟩,h⟩
 match r,hq with
 | .ok (.ret _),hq=>exact hq
theorem Fn.or{CX:bd}(F1:Fn P w K mg base CX x k1 ps sp1)(F2:Fn P w K mg base CX x k2 ps sp2)(h1:k1≤k:=by decide)(h2:k2≤k:=by decide):Fn P w K mg base CX x k ps (fun vs H Q E=>sp1 vs H Q E∨sp2 vs H Q E):=by
 obtain⟨f,fd,F1,a1,a2,a3,oc,od,osl,l1⟩:=F1.ex
 obtain⟨f',fd',F2,b1,_,_,_,_,_,l2⟩:=F2.ex
 have e:=a1.symm.trans b1
 cases e
 have e:=l1.symm.trans l2
 cases e
 refine⟨f,fd,⟨fun vs H Q E h=>h.elim (F1.len vs H Q E) (F2.len vs H Q E),fun A outer s H args us vs Q E hr he hb hv hs=>?_⟩,a1,a2,a3,oc,od,osl,l1⟩
 rcases hs with hs | hs
 ·exact F1.run A outer s H args us vs Q E (hr.mono h1) he hb hv hs
 ·exact F2.run A outer s H args us vs Q E (hr.mono h2) he hb hv hs
end
section
variable{X:Cx}{e e1 e2:Expr}{te te1 te2:TE}{p pos:Pos}
def Er(te:TE):TE:=fun σ H Q=>te σ H fun v H'=>∃i:Int,v=.int i∧i.natAbs.log2<1900∧Q (.str (Str.ofString (toString i))) H'
theorem eC(hm:X.mg "str"=none)(ha:PE X e te)(hg:Gl X "str":=by rfl)(he:starEach [e] X.env=[(false,eval e X.env)]:=by rfl):PE X (.Call (.Name "str" p) [e] [] pos) (Er te):=
 iL (r:=r1 fun x H Q=>∃i:Int,x=.int i∧i.natAbs.log2<1900∧Q (.str (Str.ofString (toString i))) H) (eD fun pins s σ H x us Q I rv ⟨i,ex,hi,q⟩=>by
  subst ex
  obtain⟨u,rfl,t,rfl⟩:=eS rv
  exact PySem.P.str_of_int (Nat.lt_trans hi (by decide)) ⟨.str _,H,I.tok _,⟨_,rfl⟩,q⟩) hg hm j8 (aa ha ac (by exact he)) (he:=by exact he)
def Bb(te:TE):TE:=fun σ H Q=>te σ H fun v H'=>∃n:Int,v=.str (Str.ofString (toString n))∧0≤n∧n<1000∧Q (.int n) H'
theorem Al(hm:X.mg "int"=none)(ha:PE X e te)(hg:Gl X "int":=by rfl)(he:starEach [e] X.env=[(false,eval e X.env)]:=by rfl):PE X (.Call (.Name "int" p) [e] [] pos) (Bb te):=
 iL (r:=r1 fun x H Q=>∃n:Int,x=.str (Str.ofString (toString n))∧0≤n∧n<1000∧Q (.int n) H) (eD fun pins s σ H x us Q I rv ⟨n,ex,h0,h1,q⟩=>by
  subst ex
  obtain⟨u,rfl,t,rfl⟩:=eS rv
  exact PySem.W.KIN.call_num h0 (by lia) ⟨.int n,H,I.tok _,⟨_,rfl⟩,q⟩) hg hm u7 (aa ha ac (by exact he)) (he:=by exact he)
theorem oj:OpR X (binaryOp .Mult) (fun x y H Q=>∃(z:Str) (b:Bool),x=.str z∧y=.int (if b then 1 else 0)∧z.length≤sizeLine∧Q (.str (if b then z else Str.empty)) H):=by
 intro pins s σ H x y v u Q I rx ry h
 obtain⟨z,b,rfl,rfl,hz,q⟩:=h
 obtain⟨t,rfl⟩:=rx
 obtain⟨t',rfl⟩:=ry
 cases b with
 | false=>exact PySem.P.mul_str_none (by decide) (by decide) ⟨.str Str.empty,H,I.tok _,⟨_,rfl⟩,q⟩
 | true=>exact PySem.P.mul_str (by decide) (fun _ h=>by cases h) (fun _ h=>by cases h) ⟨.str z,H,I,⟨_,rfl⟩,q⟩
def A8(x:Str)(te1 te2:TE):TE:=fun σ H Q=>te1 σ H fun v H1=>∃i:Int,v=.int i∧i.natAbs.log2<1900∧te2 σ H1 fun u H2=>∃y:Str,u=.str y∧y.length≤100000∧Q (.str (Str.empty++Str.ofString (toString i)++x++y)) H2
theorem Ca{x:Str}{j:Nat}{p1 p2 p3 pos:Pos}(h1:PE X e1 te1)(h2:PE X e2 te2)(hl:x.length≤2000)(hs:evalEach [.FormattedValue e1 (-1) none p1,.Constant (.str x) j p2,.FormattedValue e2 (-1) none p3] X.env=[eval (.FormattedValue e1 (-1) none p1) X.env,eval (.Constant (.str x) j p2) X.env,eval (.FormattedValue e2 (-1) none p3) X.env]:=by rfl):
 PE X (.JoinedStr [.FormattedValue e1 (-1) none p1,.Constant (.str x) j p2,.FormattedValue e2 (-1) none p3] pos) (A8 x te1 te2):=by
 intro pins s σ H Q I h
 refine JoinedStr_many (joinParts_cons (FormattedValue_plain (am (h1 pins _ σ H _ I h) fun v s1 ⟨y,H1,I1,ry,i,ey,hi,q⟩=>?_)))
 subst ey
 obtain⟨k,rfl⟩:=ry
 refine formatField_int_small (by lia) ?_
 have li:=int_text_length_le (a:=i) (k:=1900) (by decide) hi
 have l1:(Str.empty++Str.ofString (toString i)).length≤2000:=by rw[strLen_append,PySem.ofString_length];show 0+_≤_;lia
 refine⟨by show _≤2 ^ 24;exact Nat.le_trans l1 (by decide),?_⟩
 show wpAny _ _ (joinParts _ [eval (.Constant (.str x) j p2) X.env,eval (.FormattedValue e2 (-1) none p3) X.env]) _ _ _
 have l2:(Str.empty++Str.ofString (toString i)++x).length≤4000:=by rw[strLen_append];lia
 refine joinParts_cons (Calls.Constant_str ⟨by show _≤2 ^ 24;exact Nat.le_trans l2 (by decide),?_⟩)
 show wpAny _ _ (joinParts _ [eval (.FormattedValue e2 (-1) none p3) X.env]) _ _ _
 have I1':Inv X pins σ H1 {s1 with toks:=s1.toks+1+1+1}:=I1.kept (h':=s1.heap) (t':=s1.toks+1+1+1) (fun _ _ q=>q)
 refine joinParts_cons (FormattedValue_plain (am (h2 pins _ σ H1 _ I1' q) fun v s2 ⟨y,H2,I2,ry,z,ey,hz,q2⟩=>?_))
 subst ey
 obtain⟨k2,rfl⟩:=ry
 refine formatField_str (fun t' tk=>?_) (by show _≤2 ^ 24;lia)
 have l3:(Str.empty++Str.ofString (toString i)++x++z).length≤104000:=by rw[strLen_append];lia
 refine⟨by show _≤2 ^ 24;exact Nat.le_trans l3 (by decide),joinParts_nil ?_ (by show _≤2 ^ 24;exact Nat.le_trans l3 (by decide))⟩
 exact⟨.str _,H2,I2.kept (h':=s2.heap) (t':=tk+1) (fun _ _ q=>q),⟨_,rfl⟩,q2⟩
end
def kT(P:Program)(w:World)(K:PySem.W.Frag)(mg:Str→Option Value)(base:Heap)(CX:bd)(k:Nat)(ps:List Str)(f:Addr)(sp:Sp):Prop:=∃fd,FnOk P w K mg base CX k f fd ps sp∧PySem.W.keepIn K (.ref f)=true∧Binds K fd ps []
theorem Fn.deed{P:Program}{w:World}{K:PySem.W.Frag}{mg:Str→Option Value}{base:Heap}{CX:bd}{x:Str}{k j:Nat}{ps:List Str}{f:Addr}{sp:Sp}(F:Fn P w K mg base CX x k ps sp)(hf:mg x=some (.ref f))(h:k≤j):kT P w K mg base CX j ps f sp:=by
 obtain⟨f',fd,F,a1,a2,a3,_⟩:=F.ex
 have e:=hf.symm.trans a1
 cases e
 exact⟨fd,F.mono h,a2,a3⟩
def CW(i:Nat)(D:Addr→Sp→Prop)(E:XK)(t:TA):TE:=fun σ H Q=>∃f sp,σ[i]?=some (some (.ref f))∧D f sp∧gU sp [] E t σ H Q
theorem vC{X:Cx}{CX:bd}{k j:Nat}{E:XK}{x:Str}{p pos:Pos}{e:Expr}{es:List Expr}{t:TA}{i:Nat}{D:Addr→Sp→Prop}(hv:PE X (.Name x p) (gf i))(F:∀f sp,D f sp→∃ps,kT X.prog X.w X.K X.mg X.base CX k ps f sp)(hr:Room j X.A)(hx:cA CX X E)(ha:PA X (e::es) t)(hj:k≤j:=by decide)
 (he:starEach (e::es) X.env=(false,eval e X.env)::starEach es X.env:=by rfl)(hpl:(backTo pos (starEach es X.env)).any (·.1)=false:=by rfl):
 PE X (.Call (.Name x p) (e::es) [] pos) (CW i D E t):=by
 intro pins s σ H Q I h
 obtain⟨f,sp,h1,hd,h2⟩:=h
 obtain⟨ps,fd,F,hk,hb⟩:=F f sp hd
 exact BM (y:=x) hv F hk hb hr hx ha hj he hpl pins s σ H Q I ⟨h1,h2⟩
end L2
namespace Ov
open PySem L2
theorem fsc_{N p:List Str}{sc:Scope}(a:sc.kind=.function:=by rfl)(b:sc.isCoroutine=false:=by rfl)(c:sc.isGenerator=false:=by rfl)(d:N.Nodup:=by decide+kernel)(e:N.take p.length=p:=by rfl)(f:∀x∈p,sc.names.lookup x=some .local∨sc.names.lookup x=some .cell:=by decide+kernel)(g:∀y∈sc.names,y.2≠.free:=by decide+kernel):FnScope N p sc:=⟨a,b,c,d,e,f,g⟩
def aH(i:Nat):Stmt:=PySem.Challenge.pw_overlaid_k46_a_desk_by_the_stages.main.body.getD i (.Pass ⟨0,0,0,0⟩)
def Low(t:List Nat):Prop:=∀c∈t,97≤c∧c≤122
theorem Low.cp{t:List Nat}(h:Low t):∀c∈t,c<0x110000:=fun c hc=>by have:=h c hc;lia
theorem Low.take{t:List Nat}(h:Low t)(n:Nat):Low (t.take n):=fun c hc=>h c (List.mem_of_mem_take hc)
theorem Low.drop{t:List Nat}(h:Low t)(n:Nat):Low (t.drop n):=fun c hc=>h c (List.mem_of_mem_drop hc)
theorem Low.app{t u:List Nat}(h:Low t)(g:Low u):Low (t++u):=fun c hc=>(List.mem_append.mp hc).elim (h c) (g c)
theorem Low.nil:Low []:=fun c hc=>by cases hc
theorem Low.set{t:List Nat}(h:Low t)(n c:Nat)(hc:97≤c∧c≤122):Low (t.set n c):=fun d hd=>by
 rcases List.mem_or_eq_of_mem_set hd with q | q
 ·exact h d q
 ·subst q;exact hc
theorem kn{p:Prop}[Decidable p](h:¬decide p=true):¬p:=fun z=>h (decide_eq_true z)
theorem sz{n:Nat}(h:n≤1000):n≤sizeLine:=Nat.le_of_lt (bD h)
theorem gd{n:Nat}(h:n≤5000):n≤sizeLine:=Nat.le_of_lt (ng h)
def aj(ks:List Nat):List V:=(ks.map fun(k:Nat)=>(k:Int)).map V.int
theorem oB(ks:List Nat)(i:Nat):aj (ks++[i])=aj ks++[V.int (0+(i:Int))]:=by
 simp[aj]
theorem aL(ks:List Nat):(aj ks).length=ks.length:=by simp[aj]
theorem kx{i:Nat}(p:Nat→Bool):((List.range i).filter p).length≤i:=by
 have:=List.length_filter_le p (List.range i)
 simpa using this
theorem vo{H:Hp}{l0 l1:Addr}{t u:List Nat}{Q:VK}(h0:H l0=some (.lst (t.map sg)))(h1:H l1=some (.lst (u.map sg)))(hz:t.length+u.length≤5000)(k:∀b,H b=none→Q (.ref b) (L2.upd H b (.lst ((t++u).map sg)))):lj (.ref l0) (.ref l1) H Q:=
 ⟨l0,l1,_,_,rfl,rfl,h0,h1,by rw[List.length_map,List.length_map];exact gd hz,fun b hb=>by have:=k b hb;rw[List.map_append] at this;exact this⟩
abbrev azS:Str:="abcdefghijklmnopqrstuvwxyz"
theorem mV:azS.length=26:=by decide+kernel
theorem Ac:∀c∈azS.cps.toList,97≤c∧c≤122:=by decide+kernel
theorem qN{r:Int}(r0:0≤r)(r1:r<26):∃c,bF azS.cps.toList r=some c∧97≤c∧c≤122:=by
 obtain⟨c,_,hm,e⟩:=pj azS.cps.toList r r0 (by have:=mV;simp only[Str.length] at this;simp;lia)
 exact⟨c,e,Ac c hm⟩
theorem eG{c:TT}{t u rest:TS}{D:Ends}{σ:St}{H:Hp}(T:St→Hp→Prop)(hr:∀σ' H',T σ' H'→rest D σ' H')(h:∀R:St→Hp→Prop,(∀σ' H',T σ' H'→R σ' H')→c σ H fun b H1=>if b=true then t {D with nx:=R} σ H1 else u {D with nx:=R} σ H1):ic (pf c t u) rest D σ H:=h (rest D) hr
theorem bU{te:TE}{i:Nat}{rest:TS}{D:Ends}{σ:St}{H:Hp}(h:te σ H fun x H1=>rest D (σ.set i (some x)) H1):ic (iH te (fM i)) rest D σ H:=h
theorem kF{v:V}{i:Nat}{rest:TS}{D:Ends}{σ:St}{H:Hp}(h:rest D (σ.set i (some v)) H):ic (iH (tC v) (fM i)) rest D σ H:=h
def aD(t u:List Nat):List Nat:=(List.range (t.length+1-u.length)).filter fun p=>decide ((t.drop p).take u.length=u)
theorem CL{a b:Nat}:(sg a=sg b)↔a=b:=by
 constructor
 ·intro h
  have:aI a=aI b:=V.str.inj h
  simpa [aI] using this
 ·intro h;rw[h]
theorem cG(ks:List Nat)(i:Nat):aj (ks++[i])=aj ks++[V.int (i:Int)]:=by simp[aj]
def EI(t u:List Nat)(p j:Nat):List Nat:=(List.range j).filter fun q=>!decide (t[p+q]?=u[q]?)
theorem sv(t u:List Nat)(i:Nat):((List.range (i+1)).filter fun p=>decide ((t.drop p).take u.length=u))=((List.range i).filter fun p=>decide ((t.drop p).take u.length=u))++(if(t.drop i).take u.length=u then [i] else []):=by
 rw[List.range_succ,List.filter_append]
 congr 1
 by_cases h:(t.drop i).take u.length=u <;> simp[h]
theorem kj(t u:List Nat):(aD t u).length≤t.length+1-u.length:=kx _
def gS:Sp:=fun vs H Q _=>∃(a b:Addr) (t u:List Nat),vs=[.ref a,.ref b]∧H a=some (.lst (t.map sg))∧H b=some (.lst (u.map sg))∧Low t∧Low u∧t.length≤900∧u.length≤900∧1≤u.length∧
 ∀(r:Addr) (H':Hp),H r=none→H' r=some (.lst (aj (aD t u)))→Same H H'→Q (.ref r) H'
abbrev og:Stmt:=aH 64
abbrev pJ:Stmt:=aH 65
abbrev ml:Stmt:=aH 66
def tI:Sp:=fun vs H Q _=>∃c k:Int,vs=[.int c,.int k]∧0≤k∧k≤1000∧∀r:Int,Q (.int r) H
def iT:Sp:=fun vs H Q _=>∃c k n:Int,vs=[.int c,.int k,.int n]∧0≤k∧k≤1000∧1≤n∧∀r:Int,0≤r→r<n→Q (.int r) H
def vn:Sp:=fun vs H Q _=>∃c b n s:Int,vs=[.int c,.int b,.int n,.int s]∧0≤b∧b≤400∧0≤n∧n≤400∧1≤s∧
 ∀(t:List Nat) (r:Addr) (H':Hp),H r=none→H' r=some (.lst (t.map sg))→Low t→t.length=n.toNat→Same H H'→Q (.ref r) H'
theorem kH{i:Int}(h0:0≤i)(h1:i<10 ^ 200):i.natAbs<2 ^ 1000:=by
 have h2:(i.natAbs:Int)=i:=Int.natAbs_of_nonneg h0
 have h3:(10:Int) ^ 200≤2 ^ 1000:=by decide+kernel
 have h4:((2 ^ 1000:Nat):Int)=(2:Int) ^ 1000:=by norm_cast
 lia
section
variable{P:Program}{w:World}{K:PySem.W.Frag}{mg:Str→Option Value}{base:Heap}
theorem scStir:FnScope ["cell","k","number"] ["cell","k"] (al og):=fsc_
theorem AL(M:Md K mg)(B:Bl mg)(F:FF K "_law_stir" og):Fn P w K mg base ae "_law_stir" 1 ["cell","k"] tI:=by
 refine aP M F scStir (fun _ _ _ _ _ _=>aZ fun _ _=>rfl) (fun vs H Q E h=>?_) (fun f cdv A outer s H vs Q E hr h=>?_)
 ·obtain⟨c,k,rfl,_⟩:=h;rfl
 ·obtain⟨c,n,rfl,n0,n1,k⟩:=h
  refine⟨_,(ad (aA (i:=2) scStir.nd rfl (.inl rfl) (aq bv (aq bv (aq ib (pv 0) (aq mG af af)) (aq oW af (pv 1))) af))
   (ah (aw (aq ib (aq Br (aq qR (aq qR (pv 2) (aq bv (pv 2) (aq oW af (pv 1)))) (aq bv (pv 2) af)) af) (aq mG af af))))),?_⟩
  have p60:(0:Int)<10 ^ Int.toNat 60:=by decide+kernel
  have m0:=Int.emod_nonneg c (show(10:Int) ^ Int.toNat 60≠0 by lia)
  have m1:=Int.emod_lt_of_pos c p60
  refine⟨_,rfl,_,_,rfl,rfl,⟨by decide,by decide,by decide⟩,_,_,rfl,rfl,p60,_,rfl,_,_,rfl,rfl,.inl ⟨by decide,by decide⟩,_,_,rfl,rfl,_,_,rfl,rfl,?_⟩
  have x0:0≤c % 10 ^ Int.toNat 60+3*n+1:=by lia
  have x1:c % 10 ^ Int.toNat 60+3*n+1<10 ^ 61:=by
   have:(10:Int) ^ Int.toNat 60+3*1000+1<10 ^ 61:=by decide+kernel
   lia
  refine⟨_,rfl,_,rfl,_,rfl,_,_,rfl,rfl,.inl ⟨by decide,by decide⟩,_,_,rfl,rfl,_,_,rfl,rfl,⟨kH x0 (by lia),kH (by lia) (by lia)⟩,_,rfl,_,_,rfl,rfl,_,_,rfl,rfl,⟨?_,kH (by lia) (by lia)⟩,?_⟩
  ·generalize c % 10 ^ Int.toNat 60+3*n+1=x at*
   refine kH (Int.mul_nonneg x0 (by lia)) ?_
   have h1:x*(x+2*n)≤10 ^ 61*(x+2*n):=Int.mul_le_mul_of_nonneg_right (by lia) (by lia)
   have h2:(10:Int) ^ 61*(x+2*n)≤10 ^ 61*(10 ^ 62):=Int.mul_le_mul_of_nonneg_left (by lia) (by lia)
   have h3:(10:Int) ^ 61*10 ^ 62<10 ^ 200:=by decide+kernel
   lia
  ·exact⟨_,_,rfl,rfl,⟨by decide,by decide⟩,_,_,rfl,rfl,⟨by decide,by decide,by decide⟩,_,_,rfl,rfl,(by show(0:Int)<10 ^ Int.toNat 40;decide+kernel),k _⟩
theorem xp:FnScope ["cell","k","many"] ["cell","k","many"] (al pJ):=fsc_
theorem Be(M:Md K mg)(B:Bl mg)(F:FF K "_law_digit" pJ)(F_law_stir:Fn P w K mg base ae "_law_stir" 1 ["cell","k"] tI):Fn P w K mg base ae "_law_digit" 2 ["cell","k","many"] iT:=by
 refine aP M F xp (fun _ _ _ _ _ _=>fW fun _ _ _=>rfl) (fun vs H Q E h=>?_) (fun f cdv A outer s H vs Q E hr h=>?_)
 ·obtain⟨c,k,n,rfl,_⟩:=h;rfl
 ·obtain⟨c,j,n,rfl,j0,j1,n1,k⟩:=h
  refine⟨_,(ad (aJ (aC rp (pv 0) (aq mG af af) (aB _)) (ah (aw (aq ib (aq ib (aq wu (pv 0) (aq oW af (pv 1))) af) (pv 2)))) aN)
   (ah (aw (aq ib (ai F_law_stir hr ak (aa (pv 0) (aa (pv 1) ac))) (pv 2))))),?_⟩
  refine⟨_,rfl,_,_,rfl,rfl,⟨by decide,by decide,by decide⟩,_,_,rfl,rfl,_,rfl,?_⟩
  refine bN (fun hc=>?_) (fun hc=>?_)
  ·refine⟨_,rfl,_,rfl,_,_,rfl,rfl,.inl ⟨by decide,by decide⟩,_,_,rfl,rfl,(by show 0≤16*j;lia),_,_,rfl,rfl,(by show(0:Int)<65536;decide),_,rfl,_,_,rfl,rfl,(by show 0<n;lia),?_⟩
   exact k _ (Int.emod_nonneg _ (by lia)) (Int.emod_lt_of_pos _ (by lia))
  ·refine⟨_,rfl,_,rfl,c,j,rfl,j0,j1,fun r=>⟨_,rfl,_,_,rfl,rfl,(by show 0<n;lia),?_⟩⟩
   exact k _ (Int.emod_nonneg _ (by lia)) (Int.emod_lt_of_pos _ (by lia))
theorem scWord:FnScope ["cell","begin","many","sorts","letters","off"] ["cell","begin","many","sorts"] (al ml):=fsc_
theorem Bd(M:Md K mg)(B:Bl mg)(F:FF K "_law_word" ml)(F_law_digit:Fn P w K mg base ae "_law_digit" 2 ["cell","k","many"] iT):Fn P w K mg base ae "_law_word" 3 ["cell","begin","many","sorts"] vn:=by
 refine aP M F scWord (fun _ _ _ _ _ _=>iB fun _ _ _ _=>rfl) (fun vs H Q E h=>?_) (fun f cdv A outer s H vs Q E hr h=>?_)
 ·obtain⟨c,b,n,s,rfl,_⟩:=h;rfl
 ·obtain⟨c,b,n,so,rfl,b0,b1,n0,n1,s1,k⟩:=h
  refine⟨_,(ad (aA (i:=4) scWord.nd rfl (.inr rfl) ar)
   (ad (aA (i:=5) scWord.nd rfl (.inr rfl) (ai F_law_digit hr ak (aa (pv 0) (aa (pv 1) (aa af ac)))))
   (ah (aw (ce ["cell","begin","many","sorts","letters","off"] rfl (iz (by rfl) B.range (aa (pv 2) ac)) (fun _=>by exact di) (fun _=>by exact(bh ox (pv 4) (aq ib (aq bv (pv 5) (ai F_law_digit hr ak (aa (pv 0) (aa (aq bv (aq bv (pv 1) af) (pv 6)) (aa (pv 3) ac))))) af) (fun _ _=>rfl)))))))),?_⟩
  have azl:=mV
  refine⟨_,rfl,_,rfl,c,b,26,rfl,b0,by lia,by decide,fun off o0 o1=>?_⟩
  refine⟨_,rfl,n,rfl,by lia,by lia,fun D hD cb=>?_⟩
  refine jp (lo:=0) (n:=n.toNat) (fun i ys H2=>∃t:List Nat,ys=t.map sg∧Low t∧t.length=i∧Same H H2∧H2 D=some (.lst ys)) (bD (by lia)) ?_ ?_ ?_ ?_
  ·exact⟨[],rfl,Low.nil,rfl,Same.upd hD,ag⟩
  ·rintro i ys H2 ⟨t,rfl,_,rfl,_⟩
   simp
  ·rintro i ys H2 hi ⟨t,rfl,lt,rfl,s2,hD2⟩
   refine dI ?_
   refine⟨_,rfl,_,rfl,_,rfl,_,rfl,_,_,rfl,rfl,_,rfl,_,_,rfl,rfl,_,rfl,c,_,so,rfl,by lia,by lia,s1,fun r r0 r1=>?_⟩
   have m0:=Int.emod_nonneg (off+r) (show(26:Int)≠0 by decide)
   have m1:=Int.emod_lt_of_pos (off+r) (show(0:Int)<26 by decide)
   obtain⟨ch,ec,c1,c2⟩:=qN m0 m1
   refine⟨_,_,rfl,rfl,_,_,rfl,rfl,(by show(0:Int)<26;decide),azS,_,ch,rfl,rfl,sz (by lia),ec,hD2,t++[ch],by simp,?_,by simp,?_,ag⟩
   ·exact lt.app fun d hd=>by rw[List.mem_singleton.mp hd];exact⟨c1,c2⟩
   ·intro b o e
    rw[ap (aK e hD)]
    exact s2 b o e
  ·rintro ys H2 ⟨t,rfl,lt,hl,s2,hD2⟩
   exact k t D H2 hD hD2 lt hl s2
end
abbrev lH:Stmt:=aH 12
abbrev md:Stmt:=aH 13
def qq:Sp:=fun vs H Q _=>∃c:Nat,vs=[sg c]∧97≤c∧c≤122∧Q (.bl true) H
def fS:Sp:=fun vs H Q _=>∃(a:Addr) (t:List Nat),vs=[.ref a]∧H a=some (.lst (t.map sg))∧Low t∧Q .non H
theorem Cf{c:Nat}(h:97≤c):(!decide ((aI c).cps.toList<(Str.ofString "a").cps.toList))=true:=by
 have e:(Str.ofString "a").cps.toList=[97]:=by decide+kernel
 rw[e]
 have:¬([c] < [97]):=fun q=>by
  cases q with
  | rel r=>lia
  | cons r=>cases r
 simp[this]
theorem Bu{c:Nat}(h:c≤122):(!decide ((Str.ofString "z").cps.toList<(aI c).cps.toList))=true:=by
 have e:(Str.ofString "z").cps.toList=[122]:=by decide+kernel
 rw[e]
 have:¬([122] < [c]):=fun q=>by
  cases q with
  | rel r=>lia
  | cons r=>cases r
 simp[this]
section
variable{P:Program}{w:World}{K:PySem.W.Frag}{mg:Str→Option Value}{base:Heap}
theorem uq:FnScope ["sign"] ["sign"] (al lH):=fsc_
theorem Co(M:Md K mg)(B:Bl mg)(F:FF K "is_sign" lH):Fn P w K mg base ae "is_sign" 1 ["sign"] qq:=by
 refine aP M F uq (fun _ _ _ _ _ _=>br fun _=>rfl) (fun vs H Q E h=>?_) (fun f cdv A outer s H vs Q E hr h=>?_)
 ·obtain⟨c,rfl,_⟩:=h;rfl
 ·obtain⟨c,rfl,c1,c2,k⟩:=h
  refine⟨_,(ah (aw (i9 (o9 B.isinst B.str j8 (pv 0)) (i9 (eh aW (lz B.len (pv 0)) af (aB _)) (km (me gQ gQ ar (pv 0) ar)))))),?_⟩
  refine⟨_,rfl,_,true,TyOf.str _,rfl,_,rfl,aE ?_⟩
  refine⟨_,rfl,_,rfl,sz (by show 1≤1000;decide),rfl,true,rfl,aE ?_⟩
  refine⟨_,rfl,_,_,rfl,rfl,_,rfl,?_⟩
  rw[Cf c1]
  refine aE ⟨_,_,rfl,rfl,?_⟩
  rw[Bu c2]
  exact k
theorem scCheck:FnScope ["text","sign"] ["text"] (al md):=fsc_
theorem Dc(M:Md K mg)(B:Bl mg)(F:FF K "check_signs" md)(Fis_sign:Fn P w K mg base ae "is_sign" 1 ["sign"] qq):Fn P w K mg base ae "check_signs" 2 ["text"] fS:=by
 refine aP M F scCheck (fun _ _ _ _ _ _=>br fun _=>rfl) (fun vs H Q E h=>?_) (fun f cdv A outer s H vs Q E hr h=>?_)
 ·obtain⟨a,t,rfl,_⟩:=h;rfl
 ·obtain⟨a,t,rfl,ha,lt,k⟩:=h
  refine⟨_,(ah (eB PassesOwn.never rfl (cq (pv 0)) (aT (i:=1) scCheck.nd rfl (.inl rfl))
   (ah (aJ (hZ (fY (ai Fis_sign hr ak (aa (pv 1) ac)))) (ah ia) aN)))),?_⟩
  refine⟨_,rfl,a,rfl,⟨_,SqL.of ha⟩,j7 (K:=K) (a:=a) (xs:=t.map sg) (fun i σ H2=>H2=H∧∃v,σ=[some (.ref a),v]) ⟨rfl,none,rfl⟩ (fun i σ H2 _ h2=>by rw[h2.1];exact SqL.of ha) ?_ ?_⟩
  ·rintro i x σ H2 hx ⟨rfl,v,rfl⟩
   rw[List.getElem?_map] at hx
   cases e:t[i]? with
   | none=>rw[e] at hx;cases hx
   | some c=>
     rw[e] at hx
     have:sg c=x:=Option.some.inj hx
     subst this
     have hc:=lt c (List.mem_of_getElem? e)
     exact⟨_,rfl,c,rfl,hc.1,hc.2,true,rfl,ao ⟨rfl,_,rfl⟩⟩
  ·rintro σ H2 ⟨rfl,_⟩
   exact k
end
abbrev ni:Stmt:=aH 14
abbrev lX:Stmt:=aH 21
def eX:Sp:=fun vs H Q _=>∃(a:Addr) (t:List Nat),vs=[.ref a]∧H a=some (.lst (t.map sg))∧Low t∧1≤t.length∧Q .non H
section
variable{P:Program}{w:World}{K:PySem.W.Frag}{mg:Str→Option Value}{base:Heap}
theorem x9:FnScope ["word"] ["word"] (al ni):=fsc_
theorem wx(M:Md K mg)(B:Bl mg)(F:FF K "check_word" ni)(Fcheck_signs:Fn P w K mg base ae "check_signs" 2 ["text"] fS):Fn P w K mg base ae "check_word" 3 ["word"] eX:=by
 refine aP M F x9 (fun _ _ _ _ _ _=>br fun _=>rfl) (fun vs H Q E h=>?_) (fun f cdv A outer s H vs Q E hr h=>?_)
 ·obtain⟨a,t,rfl,_⟩:=h;rfl
 ·obtain⟨a,t,rfl,ha,lt,t1,k⟩:=h
  refine⟨_,(ad (aJ (aC aW (aG B.len (pv 0)) af (aB _)) (ah ia) aN)
   (ah (aU (ai Fcheck_signs hr ak (aa (pv 0) ac))))),?_⟩
  refine⟨_,rfl,a,_,rfl,SqL.of ha,rfl,_,rfl,?_⟩
  rw[decide_eq_false (fun q=>by have:=V.int.inj q;rw[List.length_map] at this;lia)]
  exact ao ⟨_,rfl,a,t,rfl,ha,lt,k⟩
theorem scLiesAt:FnScope ["text","word","many"] ["text","word"] (al lX):=fsc_
theorem xN(M:Md K mg)(B:Bl mg)(F:FF K "lies_at" lX)(Fcheck_signs:Fn P w K mg base ae "check_signs" 2 ["text"] fS)(Fcheck_word:Fn P w K mg base ae "check_word" 3 ["word"] eX):Fn P w K mg base ae "lies_at" 4 ["text","word"] gS:=by
 refine aP M F scLiesAt (fun _ _ _ _ _ _=>aZ fun _ _=>rfl) (fun vs H Q E h=>?_) (fun f cdv A outer s H vs Q E hr h=>?_)
 ·obtain⟨a,b,t,u,rfl,_⟩:=h;rfl
 ·obtain⟨a,b,t,u,rfl,ha,hb,lt,lu,tl,ul,u1,k⟩:=h
  refine⟨_,(ad (aU (ai Fcheck_word hr ak (aa (pv 1) ac)))
   (ad (aU (ai Fcheck_signs hr ak (aa (pv 0) ac)))
   (ad (aA (i:=2) scLiesAt.nd rfl (.inr rfl) (aG B.len (pv 1)))
   (ah (aw (ce ["text","word","many"] rfl (iz (by rfl) B.range (aa (aq bv (aq bE (aG B.len (pv 0)) (pv 2)) af) ac)) (fun _=>by exact(fw (aC (jh (by exact hr)) (bT bR (pv 0) (bH (pv 3)) (bH (aq bv (pv 3) (pv 2)))) (pv 1) (aB _)))) (fun _=>by exact(pv 3)))))))),?_⟩
  refine⟨_,rfl,b,u,rfl,hb,lu,u1,?_⟩
  refine⟨_,rfl,a,t,rfl,ha,lt,?_⟩
  refine⟨_,rfl,b,_,rfl,SqL.of hb,?_⟩
  refine⟨_,rfl,a,_,rfl,SqL.of ha,_,rfl,_,_,rfl,rfl,_,_,rfl,rfl,_,rfl,by rw[List.length_map,List.length_map];lia,by rw[List.length_map,List.length_map];lia,fun D hD cb=>?_⟩
  rw[List.length_map,List.length_map,show((t.length:Int)-(u.length:Int)+1).toNat=t.length+1-u.length by lia]
  refine jp (lo:=0) (n:=t.length+1-u.length) (fun i ys H2=>ys=aj ((List.range i).filter fun p=>decide ((t.drop p).take u.length=u))∧Same H H2∧H2 D=some (.lst ys)) (bD (by lia)) ?_ ?_ ?_ ?_
  ·exact⟨rfl,Same.upd hD,ag⟩
  ·rintro i ys H2 ⟨rfl,_⟩
   rw[aL];exact kx _
  ·rintro i ys H2 hi ⟨rfl,s2,hD2⟩
   refine⟨_,rfl,_,rfl,_,rfl,_,rfl,_,rfl,_,_,rfl,rfl,_,rfl,a,_,rfl,SqL.of (s2 _ _ ha),fun p1 hp1=>?_⟩
   have s3:=s2.trans (Same.upd (o:=.lst (bA (t.map sg) (some (0+(i:Int))) (some (0+(i:Int)+(u.length:Int))))) hp1)
   refine⟨_,rfl,p1,b,(t.drop i).take u.length,u,rfl,rfl,SqL.of ?_,SqL.of (s3 _ _ hb),((lt.drop _).take _).cp,lu.cp,_,rfl,?_⟩
   ·rw[ag,dh,dC,m6 _ _ _ (by lia) (by lia),show(0+(i:Int)).toNat=i by lia,show(0+(i:Int)+(u.length:Int)).toNat-i=u.length by lia]
   ·have hD3:=(Same.upd (o:=.lst (bA (t.map sg) (some (0+(i:Int))) (some (0+(i:Int)+(u.length:Int))))) hp1) _ _ hD2
    refine bN (fun hc=>?_) (fun hc=>?_)
    ·have hc':(t.drop i).take u.length=u:=by simpa using hc
     refine⟨_,rfl,hD3,?_,?_,ag⟩
     ·rw[sv,if_pos hc',oB]
     ·intro b o e
      rw[ap (aK e hD)]
      exact s3 b o e
    ·have hc':¬(t.drop i).take u.length=u:=by simpa using hc
     refine⟨?_,s3,hD3⟩
     rw[sv,if_neg hc',List.append_nil]
  ·rintro ys H2 ⟨rfl,s2,hD2⟩
   exact k D H2 hD hD2 s2
end
def ends(t:List Nat):List Nat:=(List.range t.length).filter fun k=>decide (t.take k=t.drop (t.length-k))
def kZ:Sp:=fun vs H Q _=>∃(a:Addr) (t:List Nat),vs=[.ref a]∧H a=some (.lst (t.map sg))∧Low t∧t.length≤1000∧
 ∀(r:Addr) (H':Hp),H r=none→H' r=some (.lst (aj (ends t)))→Same H H'→Q (.ref r) H'
theorem uH{t:List Nat}{k:Nat}(h:k∈ends t):k<t.length:=by
 simp[ends] at h;exact h.1
theorem qg(t:List Nat):(ends t).length≤t.length:=kx _
theorem sL{t:List Nat}{i:Nat}:((List.range (i+1)).filter fun k=>decide (t.take k=t.drop (t.length-k)))=((List.range i).filter fun k=>decide (t.take k=t.drop (t.length-k)))++(if t.take i=t.drop (t.length-i) then [i] else []):=by
 rw[List.range_succ,List.filter_append]
 congr 1
 by_cases h:t.take i=t.drop (t.length-i) <;> simp[h]
abbrev mZ:Stmt:=aH 19
section
variable{P:Program}{w:World}{K:PySem.W.Frag}{mg:Str→Option Value}{base:Heap}
theorem scBorders:FnScope ["text","length"] ["text"] (al mZ):=fsc_
theorem yN(M:Md K mg)(B:Bl mg)(F:FF K "borders" mZ)(Fcheck_signs:Fn P w K mg base ae "check_signs" 2 ["text"] fS):Fn P w K mg base ae "borders" 3 ["text"] kZ:=by
 refine aP M F scBorders (fun _ _ _ _ _ _=>br fun _=>rfl) (fun vs H Q E h=>?_) (fun f cdv A outer s H vs Q E hr h=>?_)
 ·obtain⟨a,t,rfl,_⟩:=h;rfl
 ·obtain⟨a,t,rfl,ha,lt,hl,k⟩:=h
  refine⟨_,(ad (aU (ai Fcheck_signs hr ak (aa (pv 0) ac)))
   (ad (aA (i:=1) scBorders.nd rfl (.inr rfl) (aG B.len (pv 0)))
   (ah (aw (ce ["text","length"] rfl (iz (by rfl) B.range (aa (pv 1) ac)) (fun _=>by exact(fw (aC (jh (by exact hr)) (bT bR (pv 0) cm (bH (pv 2))) (bT bR (pv 0) (bH (aq bE (pv 1) (pv 2))) cm) (aB _)))) (fun _=>by exact(pv 2))))))),?_⟩
  refine⟨_,rfl,a,t,rfl,ha,lt,?_⟩
  refine⟨_,rfl,a,_,rfl,SqL.of ha,?_⟩
  refine⟨_,rfl,_,rfl,by rw[List.length_map];lia,by rw[List.length_map];lia,fun D hD b=>?_⟩
  rw[List.length_map,Int.toNat_natCast]
  refine jp (lo:=0) (n:=t.length) (fun i ys H2=>ys=aj ((List.range i).filter fun k=>decide (t.take k=t.drop (t.length-k)))∧Same H H2∧H2 D=some (.lst ys)) (bD hl) ?_ ?_ ?_ ?_
  ·exact⟨rfl,Same.upd hD,ag⟩
  ·rintro i ys H2 ⟨rfl,_⟩
   rw[aL];exact kx _
  ·rintro i ys H2 hi ⟨rfl,s2,hD2⟩
   refine⟨_,rfl,_,rfl,_,rfl,a,_,rfl,SqL.of (s2 _ _ ha),fun p1 hp1=>?_⟩
   have s3:=s2.trans (Same.upd (o:=.lst (bA (t.map sg) none (some (0+(i:Int))))) hp1)
   refine⟨_,rfl,_,rfl,_,rfl,_,_,rfl,rfl,_,rfl,a,_,rfl,SqL.of (s3 _ _ ha),fun p2 hp2=>?_⟩
   have n12:p1≠p2:=aK ag hp2
   refine⟨p1,p2,t.take i,t.drop (t.length-i),rfl,rfl,SqL.of ?_,SqL.of ?_,(lt.take _).cp,(lt.drop _).cp,_,rfl,?_⟩
   ·rw[ap n12,ag,dh,dC,je _ _ (by lia),show(0+(i:Int)).toNat=i by lia]
   ·rw[ag,dh,dC,kB _ _ (by lia),show((t.length:Int)-(0+(i:Int))).toNat=t.length-i by lia]
   ·have s4:=s3.trans (Same.upd (o:=.lst (bA (t.map sg) (some ((t.length:Int)-(0+(i:Int)))) none)) hp2)
    have hD4:=(Same.upd (H:=L2.upd H2 p1 _) (o:=.lst (bA (t.map sg) (some ((t.length:Int)-(0+(i:Int)))) none)) hp2) _ _ ((Same.upd (o:=.lst (bA (t.map sg) none (some (0+(i:Int))))) hp1) _ _ hD2)
    refine bN (fun hc=>?_) (fun hc=>?_)
    ·have hc':t.take i=t.drop (t.length-i):=by simpa using hc
     refine⟨_,rfl,hD4,?_,?_,ag⟩
     ·rw[sL,if_pos hc',oB]
     ·intro b o e
      rw[ap (aK e hD)]
      exact s4 b o e
    ·have hc':¬t.take i=t.drop (t.length-i):=by simpa using hc
     refine⟨?_,s4,hD4⟩
     rw[sL,if_neg hc',List.append_nil]
  ·rintro ys H2 ⟨rfl,s2,hD2⟩
   exact k D H2 hD hD2 s2
end
abbrev nE:Stmt:=aH 20
def oP(t:List Nat):List Nat:=(ends t).reverse.map (t.length - ·)
def qK:Sp:=fun vs H Q _=>∃(a:Addr) (t:List Nat),vs=[.ref a]∧H a=some (.lst (t.map sg))∧Low t∧t.length≤1000∧
 ∀(r:Addr) (H':Hp),H r=none→H' r=some (.lst (aj (oP t)))→Same H H'→Q (.ref r) H'
theorem zU{α:Type}(xs:List α)(i:Nat)(x:α)(h:xs[xs.length-1-i]?=some x)(hi:i<xs.length):xs.reverse.take (i+1)=xs.reverse.take i++[x]:=by
 rw[List.take_add_one,List.getElem?_reverse hi,h]
 rfl
section
variable{P:Program}{w:World}{K:PySem.W.Frag}{mg:Str→Option Value}{base:Heap}
theorem AM:FnScope ["text"] ["text"] (al nE):=fsc_
theorem z8(M:Md K mg)(B:Bl mg)(F:FF K "periods" nE)(Fborders:Fn P w K mg base ae "borders" 3 ["text"] kZ):Fn P w K mg base ae "periods" 4 ["text"] qK:=by
 refine aP M F AM (fun _ _ _ _ _ _=>br fun _=>rfl) (fun vs H Q E h=>?_) (fun f cdv A outer s H vs Q E hr h=>?_)
 ·obtain⟨a,t,rfl,_⟩:=h;rfl
 ·obtain⟨a,t,rfl,ha,lt,hl,k⟩:=h
  refine⟨_,(ah (aw (ce ["text"] rfl (mY B.rev (ai Fborders hr ak (aa (pv 0) ac))) (fun _=>by exact di) (fun _=>by exact(aq bE (aG B.len (pv 0)) (pv 1)))))),?_⟩
  refine⟨_,rfl,a,t,rfl,ha,lt,hl,fun r H1 hr0 hr1 s1=>?_⟩
  refine⟨r,_,rfl,SqL.of hr1,fun D hD b=>?_⟩
  have el:=qg t
  refine Dv (K:=K) (a:=r) (xs:=aj (ends t)) (fun i ys H2=>ys=aj (((ends t).reverse.take i).map (t.length - ·))∧Same H1 H2∧H2 D=some (.lst ys)) (by rw[aL];exact bD (by lia)) ?_ ?_ ?_ ?_ ?_
  ·exact⟨by simp[aj],Same.upd hD,ag⟩
  ·rintro i ys H2 ⟨rfl,_⟩
   rw[aL,List.length_map,List.length_take];lia
  ·rintro i ys H2 _ ⟨rfl,s2,_⟩;exact SqL.of (s2 _ _ hr1)
  ·rintro i x ys H2 hx hi ⟨rfl,s2,hD2⟩
   refine dI ?_
   rw[aL] at hx hi
   obtain⟨k,hk,rfl⟩:∃k,(ends t)[(ends t).length-1-i]?=some k∧x=V.int (k:Int):=by
    unfold aj at hx
    rw[List.map_map,List.getElem?_map] at hx
    cases q:(ends t)[(ends t).length-1-i]? with
    | none=>rw[q] at hx;cases hx
    | some k=>
      rw[q] at hx
      exact⟨k,rfl,(Option.some.inj hx).symm⟩
   have hk':=uH (List.mem_of_getElem? hk)
   refine⟨_,rfl,a,_,rfl,SqL.of (s2 _ _ (s1 _ _ ha)),_,rfl,_,_,rfl,rfl,hD2,?_,?_,ag⟩
   ·rw[zU _ _ _ hk hi,List.map_append,List.length_map]
    show aj _++[V.int ((t.length:Int)-(k:Int))]=aj (_++[t.length-k])
    rw[oB,Int.zero_add,Int.ofNat_sub (Nat.le_of_lt hk')]
   ·intro b o e
    rw[ap (aK e hD)]
    exact s2 b o e
  ·rintro ys H2 ⟨rfl,s2,hD2⟩
   refine k D H2 (s1.free hD) ?_ (s1.trans s2)
   rw[hD2,aL,List.take_of_length_le (by simp)]
   rfl
end
theorem tD{α:Type}{f:α→Bool}:∀{l:List α},(∀x∈l,f x=true)→l.takeWhile f=l
 | [],_=>rfl
 | x::l,h=>by
   rw[List.takeWhile_cons,h x List.mem_cons_self,if_pos rfl,tD fun y hy=>h y (List.mem_cons_of_mem _ hy)]
theorem uN{α:Type}{f:α→Bool}{y:α}:∀{l:List α},y∈l.takeWhile f→f y=true
 | [],h=>by cases h
 | x::l,h=>by
   rw[List.takeWhile_cons] at h
   cases q:f x with
   | false=>rw[q] at h;cases h
   | true=>
     rw[q,if_pos rfl] at h
     rcases List.mem_cons.mp h with rfl | h
     ·exact q
     ·exact uN h
def cov(ks:List Nat)(m i:Nat):Bool:=ks.any fun p=>decide (p≤i∧i<p+m)
def bj(n m:Nat)(ks:List Nat):Nat:=((List.range n).takeWhile (cov ks m)).length
theorem oS(n m:Nat)(ks:List Nat):bj n m ks≤n:=by
 unfold bj
 have:=(List.takeWhile_sublist (cov ks m) (l:=List.range n)).length_le
 simpa using this
theorem Bo{n x:Nat}{f:Nat→Bool}(hx:x≤n)(h1:∀i,i<x→f i=true)(h2:x<n→f x=false):((List.range n).takeWhile f).length=x:=by
 have e:List.range n=List.range x++(List.range (n-x)).map (x+ ·):=by
  rw[←List.range_add];congr 1;lia
 have a:(List.range x).takeWhile f=List.range x:=by
  apply tD
  intro i hi
  exact h1 i (by simpa using hi)
 rw[e,List.takeWhile_append,a]
 simp only[List.length_range,if_true]
 by_cases hlt:x<n
 ·obtain⟨d,hd⟩:∃d,n-x=d+1:=⟨n-x-1,by lia⟩
  rw[hd,List.range_succ_eq_map,List.map_cons,List.takeWhile_cons]
  simp[h2 hlt]
 ·have:n-x=0:=by lia
  rw[this];simp
theorem AE{n:Nat}{f:Nat→Bool}{i:Nat}(h:i<((List.range n).takeWhile f).length):f i=true:=by
 have hp:=List.takeWhile_prefix f (l:=List.range n)
 have e:((List.range n).takeWhile f)[i]?=(List.range n)[i]?:=by
  obtain⟨r,hr⟩:=hp
  conv=>rhs;rw[←hr]
  rw[List.getElem?_append_left h]
 have hi:i<n:=by
  have:=hp.length_le
  simp at this;lia
 have m:i∈(List.range n).takeWhile f:=by
  rw[List.mem_iff_getElem?]
  exact⟨i,by rw[e];simp[hi]⟩
 exact uN m
theorem kP{n m:Nat}{ks:List Nat}{i:Nat}(h:i<bj n m ks):cov ks m i=true:=AE h
theorem sq{n m x:Nat}{ks:List Nat}(hx:x≤n)(h1:∀i,i<x→cov ks m i=true)(h2:x<n→cov ks m x=false):bj n m ks=x:=Bo hx h1 h2
def fb(m:Nat):Nat→List Nat→Nat
 | reach,[]=>reach
 | reach,p::r=>if p>reach then reach else fb m (p+m) r
theorem cov_true{ks:List Nat}{m i:Nat}:cov ks m i=true↔∃p∈ks,p≤i∧i<p+m:=by
 unfold cov
 rw[List.any_eq_true]
 constructor
 ·rintro⟨p,hp,h⟩;exact⟨p,hp,of_decide_eq_true h⟩
 ·rintro⟨p,hp,h⟩;exact⟨p,hp,decide_eq_true h⟩
theorem qD{ks:List Nat}{m i:Nat}:cov ks m i=false↔∀p∈ks,¬(p≤i∧i<p+m):=by
 rw[←Bool.not_eq_true,cov_true]
 constructor
 ·intro h p hp q;exact h ⟨p,hp,q⟩
 ·rintro h ⟨p,hp,q⟩;exact h p hp q
theorem rD{m n:Nat}:∀(ks D:List Nat) (R:Nat),(D++ks).Pairwise (·< ·)→(∀p∈D,p+m≤R)→(∀i,i<R→cov D m i=true)→R≤n→(∀p∈ks,p+m≤n)→fb m R ks≤n∧(∀i,i<fb m R ks→cov (D++ks) m i=true)∧cov (D++ks) m (fb m R ks)=false
 | [],D,R,hs,hd,hc,hr,hk=>by
   rw[List.append_nil]
   refine⟨hr,hc,?_⟩
   rw[qD]
   intro p hp q
   have:=hd p hp
   simp only[fb] at q
   lia
 | p::r,D,R,hs,hd,hc,hr,hk=>by
   simp only[fb]
   have hsp:=List.pairwise_append.mp hs
   have hpr:=List.pairwise_cons.mp hsp.2.1
   by_cases h:p>R
   ·rw[if_pos h]
    refine⟨hr,fun i hi=>?_,?_⟩
    ·obtain⟨q,hq,z⟩:=cov_true.mp (hc i hi)
     exact cov_true.mpr ⟨q,List.mem_append_left _ hq,z⟩
    ·rw[qD]
     intro q hq z
     rcases List.mem_append.mp hq with hq | hq
     ·have:=hd q hq;lia
     ·rcases List.mem_cons.mp hq with rfl | hq
      ·lia
      ·have:=hpr.1 q hq;lia
   ·rw[if_neg h]
    have e:D++p::r=(D++[p])++r:=by simp
    rw[e] at hs ⊢
    refine rD r (D++[p]) (p+m) hs (fun q hq=>?_) (fun i hi=>?_) (hk p List.mem_cons_self) (fun q hq=>hk q (List.mem_cons_of_mem _ hq))
    ·rcases List.mem_append.mp hq with hq | hq
     ·have:=hsp.2.2 q hq p List.mem_cons_self;lia
     ·rw[List.mem_singleton.mp hq];lia
    ·by_cases hi2:i<R
     ·obtain⟨q,hq,z⟩:=cov_true.mp (hc i hi2)
      exact cov_true.mpr ⟨q,List.mem_append_left _ hq,z⟩
     ·exact cov_true.mpr ⟨p,by simp,by lia,hi⟩
theorem Cy{m n:Nat}{ks:List Nat}(hs:ks.Pairwise (·< ·))(hk:∀p∈ks,p+m≤n):fb m 0 ks=bj n m ks:=by
 obtain⟨h1,h2,h3⟩:=rD (m:=m) (n:=n) ks [] 0 (by simpa using hs) (by simp) (by simp) (Nat.zero_le _) hk
 rw[List.nil_append] at h2 h3
 exact(sq h1 h2 fun _=>h3).symm
theorem ja(t u:List Nat):(aD t u).Pairwise (·< ·):=by
 unfold aD
 exact List.Pairwise.filter _ List.pairwise_lt_range
theorem jf{t u:List Nat}{p:Nat}(h:p∈aD t u)(u1:1≤u.length):p+u.length≤t.length:=by
 unfold aD at h
 have:=(List.mem_filter.mp h).1
 simp at this
 lia
theorem fq{ks:List Nat}{i:Nat}{x:V}(h:(aj ks)[i]?=some x):∃k,ks[i]?=some k∧x=V.int (k:Int):=by
 unfold aj at h
 rw[List.map_map,List.getElem?_map] at h
 cases q:ks[i]? with
 | none=>rw[q] at h;cases h
 | some k=>rw[q] at h;exact⟨k,rfl,(Option.some.inj h).symm⟩
def bI(t u:List Nat):Bool:=decide (bj t.length u.length (aD t u)=t.length)
def bX(t:List Nat):List Nat:=((List.range t.length).map (·+1)).filter fun m=>bI t (t.take m)
theorem mem_lies{t u:List Nat}{p:Nat}:p∈aD t u↔p<t.length+1-u.length∧(t.drop p).take u.length=u:=by
 unfold aD
 rw[List.mem_filter]
 simp
theorem covers_iff{t u:List Nat}:bI t u=true↔∀i,i<t.length→∃p∈aD t u,p≤i∧i<p+u.length:=by
 unfold bI
 rw[decide_eq_true_eq]
 constructor
 ·intro h i hi
  exact cov_true.mp (kP (n:=t.length) (by lia))
 ·intro h
  exact sq (Nat.le_refl _) (fun i hi=>cov_true.mpr (h i hi)) (fun z=>absurd z (Nat.lt_irrefl _))
theorem wL{t:List Nat}:bI t t=true:=by
 rw[covers_iff]
 intro i hi
 exact⟨0,mem_lies.mpr ⟨by lia,by simp⟩,Nat.zero_le _,by lia⟩
theorem zq{t:List Nat}{m:Nat}(m1:1≤m)(mn:m<t.length)(h:bI t (t.take m)=true):t.take m=t.drop (t.length-m):=by
 have hl:(t.take m).length=m:=by rw[List.length_take];lia
 obtain⟨p,hp,h1,h2⟩:=covers_iff.mp h (t.length-1) (by lia)
 have hp':=mem_lies.mp hp
 rw[hl] at h2 hp'
 have e:p=t.length-m:=by lia
 have e2:(t.drop p).take m=t.drop p:=List.take_of_length_le (by rw[List.length_drop];lia)
 rw[e2] at hp'
 rw[←e,hp'.2]
theorem zW(t:List Nat):bX t=(List.range (t.length+1)).filter fun m=>decide (0<m) && bI t (t.take m):=by
 unfold bX
 rw[List.range_succ_eq_map,List.filter_cons_of_neg (by simp)]
 rw[List.filter_map,List.filter_map]
 congr 1
theorem Av(t:List Nat):(ends t++[t.length]).filter (fun m=>decide (0<m) && bI t (t.take m))=bX t:=by
 rw[zW,List.range_succ,List.filter_append,List.filter_append]
 congr 1
 unfold ends
 rw[List.filter_filter]
 apply List.filter_congr
 intro m hm
 have hm':m<t.length:=by simpa using hm
 by_cases h:decide (0<m) && bI t (t.take m)
 ·have h':=h
  rw[Bool.and_eq_true,decide_eq_true_eq] at h'
  rw[h,Bool.true_and,decide_eq_true (zq h'.1 hm' h'.2)]
 ·have h':(decide (0<m) && bI t (t.take m))=false:=by simpa using h
  rw[h',Bool.false_and]
theorem Dt{t:List Nat}(h:1≤t.length):t.length∈bX t:=by
 unfold bX
 rw[List.mem_filter]
 refine⟨?_,?_⟩
 ·simp;exact⟨t.length-1,by lia,by lia⟩
 ·rw[List.take_length];exact wL
theorem DV(t:List Nat):(bX t).length≤t.length:=by
 unfold bX
 have:=List.length_filter_le (fun m=>bI t (t.take m)) ((List.range t.length).map (·+1))
 simpa using this
theorem vp{t:List Nat}(h:1≤t.length):∃x r,bX t=x::r:=by
 have:=Dt h
 cases e:bX t with
 | nil=>rw[e] at this;cases this
 | cons x r=>exact⟨x,r,rfl⟩
theorem vJ{t:List Nat}{m:Nat}(h:m∈bX t):1≤m∧m≤t.length∧bI t (t.take m)=true:=by
 unfold bX at h
 rw[List.mem_filter] at h
 obtain⟨h1,h2⟩:=h
 simp at h1
 obtain⟨a,h3,h4⟩:=h1
 exact⟨by lia,by lia,h2⟩
abbrev kM:Stmt:=aH 15
abbrev i7:Stmt:=aH 23
def jT:Sp:=fun vs H Q _=>∃(a:Addr) (t:List Nat),vs=[.ref a]∧H a=some (.lst (t.map sg))∧1≤t.length∧Q .non H
def pC:Sp:=fun vs H Q _=>∃(a:Addr) (ks:List Nat) (m:Nat),vs=[.ref a,.int (m:Int)]∧H a=some (.lst (aj ks))∧Q (.int (fb m 0 ks:Nat)) H
section
variable{P:Program}{w:World}{K:PySem.W.Frag}{mg:Str→Option Value}{base:Heap}
theorem rP:FnScope ["text"] ["text"] (al kM):=fsc_
theorem xg(M:Md K mg)(B:Bl mg)(F:FF K "check_some" kM):Fn P w K mg base ae "check_some" 1 ["text"] jT:=by
 refine aP M F rP (fun _ _ _ _ _ _=>br fun _=>rfl) (fun vs H Q E h=>?_) (fun f cdv A outer s H vs Q E hr h=>?_)
 ·obtain⟨a,t,rfl,_⟩:=h;rfl
 ·obtain⟨a,t,rfl,ha,t1,k⟩:=h
  refine⟨_,(ah (aJ (aC aW (aG B.len (pv 0)) af (aB _)) (ah ia) aN)),?_⟩
  refine⟨_,rfl,a,_,rfl,SqL.of ha,rfl,_,rfl,?_⟩
  rw[decide_eq_false (fun q=>by have:=V.int.inj q;rw[List.length_map] at this;lia)]
  exact ao k
theorem scFirstBare:FnScope ["places","many","reach","place"] ["places","many"] (al i7):=fsc_
theorem xn(M:Md K mg)(B:Bl mg)(F:FF K "first_bare" i7):Fn P w K mg base ae "first_bare" 1 ["places","many"] pC:=by
 refine aP M F scFirstBare (fun _ _ _ _ _ _=>aZ fun _ _=>rfl) (fun vs H Q E h=>?_) (fun f cdv A outer s H vs Q E hr h=>?_)
 ·obtain⟨a,ks,m,rfl,_⟩:=h;rfl
 ·obtain⟨a,ks,m,rfl,ha,k⟩:=h
  refine⟨_,(ad (aA (i:=2) scFirstBare.nd rfl (.inl rfl) af)
   (ad (eB PassesOwn.never rfl (cq (pv 0)) (aT (i:=3) scFirstBare.nd rfl (.inl rfl))
   (ad (aJ (aC gM (pv 3) (pv 2) (aB _)) (ah (aw (pv 2))) aN)
   (ah (aA (i:=2) scFirstBare.nd rfl (.inl rfl) (aq bv (pv 3) (pv 1))))))
   (ah (aw (pv 2))))),?_⟩
  refine⟨_,rfl,a,rfl,⟨_,SqL.of ha⟩,j7 (K:=K) (a:=a) (xs:=aj ks) (fun i σ H2=>H2=H∧∃(R:Nat) (v3:Option V),σ=[some (.ref a),some (.int (m:Int)),some (.int (R:Int)),v3]∧fb m 0 ks=fb m R (ks.drop i)) ⟨rfl,0,none,rfl,rfl⟩ (fun i σ H2 _ h2=>by rw[h2.1];exact SqL.of ha) ?_ ?_⟩
  ·rintro i x σ H2 hx ⟨rfl,R,v3,rfl,e⟩
   obtain⟨p,hp,rfl⟩:=fq hx
   have ed:ks.drop i=p::ks.drop (i+1):=by
    obtain⟨h1,h2⟩:=List.getElem?_eq_some_iff.mp hp
    rw[List.drop_eq_getElem_cons h1,h2]
   rw[ed] at e
   refine⟨_,rfl,_,rfl,_,_,rfl,rfl,_,rfl,?_⟩
   refine bN (fun hc=>?_) (fun hc=>?_)
   ·have hc':R<p:=by simpa using hc
    refine⟨_,rfl,?_⟩
    have:fb m 0 ks=R:=by rw[e];simp only[fb];rw[if_pos hc']
    rw[this] at k
    exact k
   ·have hc':¬p>R:=by simpa using hc
    refine⟨_,rfl,_,rfl,_,_,rfl,rfl,rfl,p+m,some (.int (p:Int)),?_,?_⟩
    ·rw[Int.natCast_add]
     rfl
    ·rw[e];simp only[fb];rw[if_neg hc']
  ·rintro σ H2 ⟨rfl,R,v3,rfl,e⟩
   rw[aL,List.drop_length] at e
   simp only[fb] at e
   rw[e] at k
   exact⟨_,rfl,k⟩
end
abbrev kg:Stmt:=aH 24
def gs:Sp:=fun vs H Q _=>∃(a b:Addr) (t u:List Nat),vs=[.ref a,.ref b]∧H a=some (.lst (t.map sg))∧H b=some (.lst (u.map sg))∧Low t∧Low u∧1≤t.length∧t.length≤900∧u.length≤900∧1≤u.length∧
 (∀(r:Addr) (H':Hp),H r=none→Same H H'→bj t.length u.length (aD t u)<t.length→H' r=some (.tup [.str "bare",.int (bj t.length u.length (aD t u):Nat)])→Q (.ref r) H')∧
 (∀(r q:Addr) (H':Hp),H r=none→H q=none→Same H H'→bj t.length u.length (aD t u)=t.length→H' q=some (.lst (aj (aD t u)))→H' r=some (.tup [.str "covers",.ref q])→Q (.ref r) H')
section
variable{P:Program}{w:World}{K:PySem.W.Frag}{mg:Str→Option Value}{base:Heap}
theorem scCovered:FnScope ["text","word","places","bare"] ["text","word"] (al kg):=fsc_
theorem wQ(M:Md K mg)(B:Bl mg)(F:FF K "covered" kg)(Flies_at:Fn P w K mg base ae "lies_at" 4 ["text","word"] gS)(Fcheck_some:Fn P w K mg base ae "check_some" 1 ["text"] jT)(Ffirst_bare:Fn P w K mg base ae "first_bare" 1 ["places","many"] pC):Fn P w K mg base ae "covered" 5 ["text","word"] gs:=by
 refine aP M F scCovered (fun _ _ _ _ _ _=>aZ fun _ _=>rfl) (fun vs H Q E h=>?_) (fun f cdv A outer s H vs Q E hr h=>?_)
 ·obtain⟨a,b,t,u,rfl,_⟩:=h;rfl
 ·obtain⟨a,b,t,u,rfl,ha,hb,lt,lu,t1,tl,ul,u1,k1,k2⟩:=h
  refine⟨_,(ad (aA (i:=2) scCovered.nd rfl (.inl rfl) (ai Flies_at hr ak (aa (pv 0) (aa (pv 1) ac))))
   (ad (aU (ai Fcheck_some hr ak (aa (pv 0) ac)))
   (ad (aA (i:=3) scCovered.nd rfl (.inl rfl) (ai Ffirst_bare hr ak (aa (pv 2) (aa (aG B.len (pv 1)) ac))))
   (ad (aJ (aC dZ (pv 3) (aG B.len (pv 0)) (aB _)) (ah (aw (fV (aa ar (aa (pv 3) ac))))) aN)
   (ah (aw (fV (aa ar (aa (pv 2) ac))))))))),?_⟩
  refine⟨_,rfl,_,rfl,a,b,t,u,rfl,ha,hb,lt,lu,tl,ul,u1,fun q H1 hq0 hq1 s1=>?_⟩
  refine⟨_,rfl,a,t,rfl,s1 _ _ ha,t1,?_⟩
  refine⟨_,rfl,_,rfl,b,_,rfl,SqL.of (s1 _ _ hb),q,aD t u,u.length,by rw[List.length_map];rfl,hq1,?_⟩
  have ef:fb u.length 0 (aD t u)=bj t.length u.length (aD t u):=Cy (ja t u) fun p hp=>jf hp u1
  rw[ef]
  have hbl:=oS t.length u.length (aD t u)
  refine⟨_,rfl,_,rfl,a,_,rfl,SqL.of (s1 _ _ ha),_,_,rfl,rfl,_,rfl,?_⟩
  refine bN (fun hc=>?_) (fun hc=>?_)
  ·have hc':bj t.length u.length (aD t u)<t.length:=by simpa using hc
   exact⟨_,rfl,by show 2≤sizeLine;decide,fun r hr0=>k1 r _ (s1.free hr0) (s1.trans (Same.upd hr0)) hc' ag⟩
  ·have hc':¬bj t.length u.length (aD t u)<t.length:=by simpa using hc
   exact⟨_,rfl,by show 2≤sizeLine;decide,fun r hr0=>k2 r q _ (s1.free hr0) hq0 (s1.trans (Same.upd hr0)) (by lia) ((Same.upd hr0) _ _ hq1) ag⟩
end
abbrev kq:Stmt:=aH 25
def kR:Sp:=fun vs H Q _=>∃(a:Addr) (t:List Nat),vs=[.ref a]∧H a=some (.lst (t.map sg))∧Low t∧1≤t.length∧t.length≤900∧
 ∀(r:Addr) (H':Hp),H r=none→H' r=some (.lst (aj (bX t)))→Same H H'→Q (.ref r) H'
section
variable{P:Program}{w:World}{K:PySem.W.Frag}{mg:Str→Option Value}{base:Heap}
theorem scAllCovers:FnScope ["text","lengths"] ["text"] (al kq):=fsc_
theorem DA:(V.str (Str.ofString "bare")=V.str (Str.ofString "covers"))=False:=by
 apply eq_false
 intro h
 have:=V.str.inj h
 revert this
 decide+kernel
theorem zQ(M:Md K mg)(B:Bl mg)(F:FF K "all_covers" kq)(Fborders:Fn P w K mg base ae "borders" 3 ["text"] kZ)(Fcheck_some:Fn P w K mg base ae "check_some" 1 ["text"] jT)(Fcovered:Fn P w K mg base ae "covered" 5 ["text","word"] gs):Fn P w K mg base ae "all_covers" 6 ["text"] kR:=by
 refine aP M F scAllCovers (fun _ _ _ _ _ _=>br fun _=>rfl) (fun vs H Q E h=>?_) (fun f cdv A outer s H vs Q E hr h=>?_)
 ·obtain⟨a,t,rfl,_⟩:=h;rfl
 ·obtain⟨a,t,rfl,ha,lt,t1,tl,k⟩:=h
  refine⟨_,(ad (aA (i:=1) scAllCovers.nd rfl (.inl rfl) (aq dU (ai Fborders hr ak (aa (pv 0) ac)) (aS (aa (aG B.len (pv 0)) ac))))
   (ad (aU (ai Fcheck_some hr ak (aa (pv 0) ac)))
   (ah (aw (ce ["text","lengths"] rfl (cq (pv 1)) (fun _=>by exact(fw (PW.pt (dM (aC gM (pv 2) af (aB _)) (dX (aC aW (bh jF (ai Fcovered hr ak (aa (pv 0) (aa (bT bR (pv 0) cm (bH (pv 2))) ac))) af (fun _ _=>rfl)) ar (aB _))))))) (fun _=>by exact(pv 2))))))),?_⟩
  refine⟨_,rfl,a,t,rfl,ha,lt,by lia,fun b1 H1 hb0 hb1 s1=>?_⟩
  refine⟨_,rfl,a,_,rfl,SqL.of (s1 _ _ ha),by show 1≤sizeLine;decide,fun b2 hb2=>?_⟩
  have s2:=s1.trans (Same.upd (o:=.lst [V.int ((t.map sg).length:Nat)]) hb2)
  have el:=qg t
  refine⟨b1,b2,_,_,rfl,rfl,(Same.upd hb2) _ _ hb1,ag,by rw[aL];show(ends t).length+1≤sizeLine;exact sz (by lia),fun b3 hb3=>?_⟩
  have e3:aj (ends t)++[V.int ((t.map sg).length:Nat)]=aj (ends t++[t.length]):=by rw[cG,List.length_map]
  have s3:=s2.trans (Same.upd (o:=.lst (aj (ends t)++[V.int ((t.map sg).length:Nat)])) hb3)
  refine⟨_,rfl,a,t,rfl,s3 _ _ ha,t1,?_⟩
  have hb33:(L2.upd (L2.upd H1 b2 (.lst [V.int ((t.map sg).length:Nat)])) b3 (.lst (aj (ends t)++[V.int ((t.map sg).length:Nat)]))) b3=some (.lst (aj (ends t++[t.length]))):=by rw[ag,e3]
  generalize L2.upd (L2.upd H1 b2 (.lst [V.int ((t.map sg).length:Nat)])) b3 (.lst (aj (ends t)++[V.int ((t.map sg).length:Nat)]))=H3 at s3 hb33 ⊢
  refine⟨_,rfl,b3,rfl,⟨_,SqL.of hb33⟩,fun D hD cb=>?_⟩
  refine eI (K:=K) (a:=b3) (xs:=aj (ends t++[t.length])) (fun i ys H4=>ys=aj (((ends t++[t.length]).take i).filter fun m=>decide (0<m) && bI t (t.take m))∧Same H3 H4∧H4 D=some (.lst ys)) (by rw[aL,List.length_append];show(ends t).length+1<sizeLine;exact bD (by lia)) ?_ ?_ ?_ ?_ ?_
  ·exact⟨by simp[aj],Same.upd hD,ag⟩
  ·rintro i ys H4 ⟨rfl,_⟩
   rw[aL]
   have:=List.length_filter_le (fun m=>decide (0<m) && bI t (t.take m)) ((ends t++[t.length]).take i)
   rw[List.length_take] at this
   lia
  ·rintro i ys H4 _ ⟨rfl,s4,_⟩;exact SqL.of (s4 _ _ hb33)
  ·rintro i x ys H4 hx ⟨rfl,s4,hD4⟩
   obtain⟨m,hm,rfl⟩:=fq hx
   have hmn:m≤t.length:=by
    rcases List.mem_append.mp (List.mem_of_getElem? hm) with q | q
    ·exact Nat.le_of_lt (uH q)
    ·rw[List.mem_singleton.mp q];exact Nat.le_refl _
   have stp:((ends t++[t.length]).take (i+1)).filter (fun m=>decide (0<m) && bI t (t.take m))=((ends t++[t.length]).take i).filter (fun m=>decide (0<m) && bI t (t.take m))++(if(decide (0<m) && bI t (t.take m))=true then [m] else []):=by
    rw[List.take_add_one,hm,List.filter_append]
    congr 1
    by_cases h:(decide (0<m) && bI t (t.take m))=true
    ·simp[h]
    ·simp[h]
   have ha4:=s4 _ _ (s3 _ _ ha)
   refine⟨_,rfl,_,_,rfl,rfl,_,rfl,?_⟩
   by_cases h0:0<m
   ·rw[decide_eq_true (show(0:Int)<(m:Int) by lia)]
    refine aE ?_
    refine⟨_,rfl,_,rfl,_,rfl,_,rfl,a,_,rfl,SqL.of ha4,fun p1 hp1=>?_⟩
    have e1:bA (t.map sg) none (some (m:Int))=(t.take m).map sg:=by rw[dh,dC,je _ _ (by lia),Int.toNat_natCast]
    have s5:=Same.upd (o:=.lst (bA (t.map sg) none (some (m:Int)))) hp1
    have hlm:(t.take m).length=m:=by rw[List.length_take];lia
    have hp5:(L2.upd H4 p1 (.lst (bA (t.map sg) none (some (m:Int))))) p1=some (.lst ((t.take m).map sg)):=by rw[ag,e1]
    refine⟨a,p1,t,t.take m,rfl,s5 _ _ ha4,hp5,lt,lt.take _,t1,tl,by lia,by lia,?_,?_⟩
    ·intro r H6 hr0 s6 hlt hr6
     refine⟨r,_,_,_,rfl,rfl,SqT.of hr6,fh (j:=0) rfl,rfl,_,rfl,?_⟩
     rw[decide_eq_false (by rw[DA];exact fun z=>z)]
     refine ao ⟨?_,(s4.trans s5).trans s6,s6 _ _ (s5 _ _ hD4)⟩
     have hv:bI t (t.take m)=false:=by
      unfold bI;exact decide_eq_false (by lia)
     rw[stp,hv,Bool.and_false,if_neg Bool.false_ne_true,List.append_nil]
    ·intro r q H6 hr0 hq0 s6 hEq hq6 hr6
     refine⟨r,_,_,_,rfl,rfl,SqT.of hr6,fh (j:=0) rfl,rfl,_,rfl,?_⟩
     rw[decide_eq_true rfl]
     have hD6:=s6 _ _ (s5 _ _ hD4)
     refine aE ⟨_,rfl,hD6,?_,?_,ag⟩
     ·have hv:bI t (t.take m)=true:=by
       unfold bI;exact decide_eq_true hEq
      rw[stp,hv,decide_eq_true h0,Bool.and_self,if_pos rfl,cG]
     ·intro b o e
      rw[ap (aK e hD)]
      exact s6 _ _ (s5 _ _ (s4 b o e))
   ·rw[decide_eq_false (show¬(0:Int)<(m:Int) by lia)]
    refine ao (ao ⟨?_,s4,hD4⟩)
    rw[stp,decide_eq_false h0,Bool.false_and,if_neg Bool.false_ne_true,List.append_nil]
  ·rintro ys H4 ⟨rfl,s4,hD4⟩
   refine k D H4 (s3.free hD) ?_ (s3.trans s4)
   rw[hD4,aL,List.take_length,Av]
end
def bC(m:Nat)(ks:List Nat)(p:Nat):List Nat:=ks.filter fun q=>decide (p<q) && decide (q≤p+m)
theorem tZ{n m:Nat}{ks:List Nat}(n1:1≤n)(hc:bj n m ks=n):0∈ks:=by
 obtain⟨q,hq,z1,z2⟩:=cov_true.mp (kP (n:=n) (m:=m) (ks:=ks) (i:=0) (by lia))
 have:q=0:=by lia
 rw[←this];exact hq
def gO(L:List (List Nat)):List Nat:=(L.find? fun x=>L.all fun y=>decide (x.length≤y.length)).getD []
def fH(m:Nat)(ks:List Nat):Nat→Nat→List Nat
 | 0,p=>[p]
 | k+1,p=>p::gO ((bC m ks p).map (fH m ks k))
def bq(n m:Nat)(ks:List Nat)(p:Nat):List Nat:=fH m ks (n-p) p
theorem mem_near{m:Nat}{ks:List Nat}{p q:Nat}:q∈bC m ks p↔q∈ks∧p<q∧q≤p+m:=by
 unfold bC
 rw[List.mem_filter]
 simp
theorem nX{n m:Nat}{ks:List Nat}{p:Nat}(hk:∀q∈ks,q+m≤n)(h:n≤p+m):bC m ks p=[]:=by
 apply List.eq_nil_iff_forall_not_mem.mpr
 intro q hq
 obtain⟨h1,h2,_⟩:=mem_near.mp hq
 have:=hk q h1
 lia
theorem uL{n m:Nat}{ks:List Nat}(m1:1≤m)(hk:∀q∈ks,q+m≤n):∀(k j p:Nat),n-p≤k→n-p≤j→fH m ks k p=fH m ks j p
 | 0,0,p,_,_=>rfl
 | 0,j+1,p,h,_=>by
   simp only[fH]
   rw[nX hk (by lia)]
   rfl
 | k+1,0,p,_,h=>by
   simp only[fH]
   rw[nX hk (by lia)]
   rfl
 | k+1,j+1,p,h1,h2=>by
   simp only[fH]
   congr 2
   apply List.map_congr_left
   intro q hq
   obtain⟨_,h3,_⟩:=mem_near.mp hq
   exact uL m1 hk k j q (by lia) (by lia)
theorem wt{n m:Nat}{ks:List Nat}(m1:1≤m)(hk:∀q∈ks,q+m≤n){p:Nat}(hp:p<n):bq n m ks p=p::gO ((bC m ks p).map (bq n m ks)):=by
 unfold bq
 obtain⟨k,hk'⟩:∃k,n-p=k+1:=⟨n-p-1,by lia⟩
 rw[hk']
 simp only[fH]
 congr 2
 apply List.map_congr_left
 intro q hq
 obtain⟨_,h3,_⟩:=mem_near.mp hq
 exact uL m1 hk k (n-q) q (by lia) (by lia)
theorem sr{α:Type}{f:α→List Nat}{l:List α}(hne:l≠ []):∃pre x post,l=pre++x::post∧gO (l.map f)=f x∧(∀y∈l,(f x).length≤(f y).length)∧∀y∈pre,(f x).length<(f y).length:=by
 have hex:∃x∈l,∀y∈l,(f x).length≤(f y).length:=by
  induction l with
  | nil=>exact absurd rfl hne
  | cons a r ih=>
    by_cases hr:r=[]
    ·subst hr
     exact⟨a,List.mem_cons_self,fun y hy=>by rw[List.mem_singleton.mp hy];exact Nat.le_refl _⟩
    ·obtain⟨x,hx,h⟩:=ih hr
     by_cases hle:(f a).length≤(f x).length
     ·refine⟨a,List.mem_cons_self,fun y hy=>?_⟩
      rcases List.mem_cons.mp hy with q | q
      ·rw[q];exact Nat.le_refl _
      ·exact Nat.le_trans hle (h y q)
     ·refine⟨x,List.mem_cons_of_mem _ hx,fun y hy=>?_⟩
      rcases List.mem_cons.mp hy with q | q
      ·rw[q];lia
      ·exact h y q
 obtain⟨x0,hx0,h0⟩:=hex
 have hp:∀x∈l,((l.map f).all fun y=>decide ((f x).length≤y.length))=true↔∀y∈l,(f x).length≤(f y).length:=by
  intro x _
  rw[List.all_map,List.all_eq_true]
  constructor
  ·intro h y hy;simpa using h y hy
  ·intro h y hy;simpa using h y hy
 have hfm:gO (l.map f)=((l.find? fun x=>(l.map f).all fun y=>decide ((f x).length≤y.length)).map f).getD []:=by
  unfold gO
  rw[List.find?_map]
  rfl
 cases hfind:l.find? fun x=>(l.map f).all fun y=>decide ((f x).length≤y.length) with
 | none=>
   have:=List.find?_eq_none.mp hfind x0 hx0
   exact absurd ((hp x0 hx0).mpr h0) this
 | some x=>
   obtain⟨h1,pre,post,e,h2⟩:=List.find?_eq_some_iff_append.mp hfind
   have hx:x∈l:=by rw[e];simp
   have hmin:=(hp x hx).mp h1
   refine⟨pre,x,post,e,by rw[hfm,hfind];rfl,hmin,fun y hy=>?_⟩
   have hyl:y∈l:=by rw[e];exact List.mem_append_left _ hy
   have hn:=h2 y hy
   refine Nat.lt_of_not_le fun hle=>?_
   have:((l.map f).all fun z=>decide ((f y).length≤z.length))=true:=(hp y hyl).mpr fun z hz=>Nat.le_trans hle (hmin z hz)
   rw[this] at hn
   simp at hn
section
variable{n m:Nat}{ks:List Nat}
def kC(n m:Nat)(ks:List Nat)(p:Nat):Nat:=(bq n m ks p).length
structure Cvr(n m:Nat)(ks:List Nat):Prop where
 m1:1≤m
 srt:ks.Pairwise (·< ·)
 lim:∀q∈ks,q+m≤n
 cov:bj n m ks=n
theorem CP(C:Cvr n m ks){p:Nat}(h:p+m<n):bC m ks p≠ []:=by
 intro z
 obtain⟨q,hq,h1,h2⟩:=cov_true.mp (kP (n:=n) (m:=m) (ks:=ks) (i:=p+m) (by rw[C.cov];exact h))
 have:q∈bC m ks p:=mem_near.mpr ⟨hq,by lia,h1⟩
 rw[z] at this
 cases this
theorem jP(C:Cvr n m ks){p:Nat}(hp:p∈ks):bq n m ks p=p::gO ((bC m ks p).map (bq n m ks)):=wt C.m1 C.lim (by have:=C.lim p hp;have:=C.m1;lia)
theorem wz(C:Cvr n m ks){p:Nat}(hp:p∈ks)(h:n≤p+m):bq n m ks p=[p]:=by
 rw[jP C hp,nX C.lim h]
 rfl
theorem wj(C:Cvr n m ks){p:Nat}(hp:p∈ks)(h:p+m<n):∃pre q post,bC m ks p=pre++q::post∧bq n m ks p=p::bq n m ks q∧(∀y∈bC m ks p,kC n m ks q≤kC n m ks y)∧∀y∈pre,kC n m ks q<kC n m ks y:=by
 obtain⟨pre,q,post,e,h1,h2,h3⟩:=sr (f:=bq n m ks) (CP C h)
 exact⟨pre,q,post,e,by rw[jP C hp,h1],h2,h3⟩
theorem jH(C:Cvr n m ks):∀(d p:Nat),n-p≤d→p∈ks→∃r,bq n m ks p=p::r∧fb m (p+m) r=n∧(p::r).Pairwise (·< ·)∧∀x∈p::r,x∈ks
 | 0,p,hd,hp=>by have:=C.lim p hp;have:=C.m1;lia
 | d+1,p,hd,hp=>by
   have hp1:=C.lim p hp
   by_cases h:n≤p+m
   ·refine⟨[],wz C hp h,by simp only[fb];lia,by simp,fun x hx=>by rw[List.mem_singleton.mp hx];exact hp⟩
   ·obtain⟨pre,q,post,e,h1,h2,_⟩:=wj C hp (by lia)
    have hqn:q∈bC m ks p:=by rw[e];simp
    obtain⟨hq,hpq,hqm⟩:=mem_near.mp hqn
    obtain⟨r,e1,e2,e3,e4⟩:=jH C d q (by lia) hq
    refine⟨q::r,by rw[h1,e1],?_,?_,fun x hx=>?_⟩
    ·simp only[fb]
     rw[if_neg (by lia)]
     exact e2
    ·rw[List.pairwise_cons]
     refine⟨fun x hx=>?_,e3⟩
     rcases List.mem_cons.mp hx with z | z
     ·lia
     ·have:=(List.pairwise_cons.mp e3).1 x z;lia
    ·rcases List.mem_cons.mp hx with z | z
     ·rw[z];exact hp
     ·exact e4 x z
end
theorem nJ:∀{ks S:List Nat},ks.Pairwise (·< ·)→S.Pairwise (·< ·)→(∀x∈S,x∈ks)→S.Sublist ks
 | [],[],_,_,_=>.slnil
 | [],s::S,_,_,h=>by have:=h s List.mem_cons_self;cases this
 | k::ks,[],_,_,_=>List.nil_sublist _
 | k::ks,s::S,hk,hs,h=>by
   have hk':=List.pairwise_cons.mp hk
   have hs':=List.pairwise_cons.mp hs
   by_cases e:s=k
   ·subst e
    refine .cons₂ _ (nJ hk'.2 hs'.2 fun x hx=>?_)
    rcases List.mem_cons.mp (h x (List.mem_cons_of_mem _ hx)) with z | z
    ·have:=hs'.1 x hx;lia
    ·exact z
   ·have hsk:s∈ks:=by
     rcases List.mem_cons.mp (h s List.mem_cons_self) with z | z
     ·exact absurd z e
     ·exact z
    refine .cons _ (nJ hk'.2 hs fun x hx=>?_)
    rcases List.mem_cons.mp (h x hx) with z | z
    ·rcases List.mem_cons.mp hx with w | w
     ·rw[w];exact hsk
     ·have h1:=hs'.1 x w
      have h2:=hk'.1 s hsk
      lia
    ·exact z
theorem BT{ks:List Nat}(hs:ks.Pairwise (·< ·)){j q o:Nat}(hq:ks.reverse[j]?=some q)(ho:o∈ks)(hlt:q<o):o∈ks.reverse.take j:=by
 have hr:ks.reverse.Pairwise (·> ·):=List.pairwise_reverse.mpr hs
 have hm:o∈ks.reverse:=List.mem_reverse.mpr ho
 obtain⟨h1,h2⟩:=List.getElem?_eq_some_iff.mp hq
 rw[←List.take_append_drop j ks.reverse,List.drop_eq_getElem_cons h1,h2] at hm hr
 rcases List.mem_append.mp hm with h | h
 ·exact h
 ·rcases List.mem_cons.mp h with h | h
  ·lia
  ·have:=(List.pairwise_cons.mp (List.pairwise_append.mp hr).2.1).1 o h
   lia
theorem uQ{α:Type}{l:List α}{j:Nat}{x:α}(h:l[j]?=some x):l.take (j+1)=l.take j++[x]:=by
 rw[List.take_add_one,h];rfl
theorem CH{l:List Nat}{f:Nat→Bool}{i o:Nat}(h:l[i]?=some o):(l.take (i+1)).filter f=(l.take i).filter f++(if f o=true then [o] else []):=by
 rw[uQ h,List.filter_append]
 congr 1
 by_cases hf:f o=true <;> simp[hf]
theorem BO(ks:List Nat):(aj ks).reverse=aj ks.reverse:=by simp[aj]
abbrev lV:Stmt:=aH 27
abbrev kY:Stmt:=aH 28
def mz:Sp:=fun vs H Q _=>∃(a b:Addr) (t u:List Nat),vs=[.ref a,.ref b]∧H a=some (.lst (t.map sg))∧H b=some (.lst (u.map sg))∧Low t∧Low u∧1≤t.length∧t.length≤900∧u.length≤900∧1≤u.length∧bj t.length u.length (aD t u)=t.length∧∀(r:Addr) (H':Hp),H r=none→H' r=some (.lst (aj (bq t.length u.length (aD t u) 0)))→Same H H'→Q (.ref r) H'
theorem tR{n m:Nat}{ks:List Nat}(C:Cvr n m ks){p:Nat}(hp:p∈ks):(bq n m ks p).length≤ks.length:=by
 obtain⟨r,e,_,h3,h4⟩:=jH C _ p (Nat.le_refl _) hp
 rw[e]
 exact(nJ C.srt h3 h4).length_le
def DictL(H0 H:Hp)(w:Addr)(qs:List Nat)(f:Nat→List Nat):Prop:=∃kvs:List (az×V),H w=some (.dK kvs)∧kvs.length≤qs.length∧∀q∈qs,∃c:Addr,aY kvs (.inl (q:Int))=some (.ref c)∧H0 c=none∧H c=some (.lst (aj (f q)))
theorem DictL.get{H0 H:Hp}{w:Addr}{qs:List Nat}{f:Nat→List Nat}(h:DictL H0 H w qs f){q:Nat}(hq:q∈qs):∃c:Addr,DGet H w (.int (q:Int)) (some (.ref c))∧H0 c=none∧H c=some (.lst (aj (f q))):=by
 obtain⟨kvs,h1,_,h2⟩:=h
 obtain⟨c,e1,e2,e3⟩:=h2 q hq
 have:=DGet.k (k:=.inl (q:Int)) h1
 rw[e1] at this
 exact⟨c,this,e2,e3⟩
theorem DictL.same{H0 H H':Hp}{w:Addr}{qs:List Nat}{f:Nat→List Nat}(h:DictL H0 H w qs f)(s:Same H H'):DictL H0 H' w qs f:=by
 obtain⟨kvs,h1,h2,h3⟩:=h
 refine⟨kvs,s _ _ h1,h2,fun q hq=>?_⟩
 obtain⟨c,e1,e2,e3⟩:=h3 q hq
 exact⟨c,e1,e2,s _ _ e3⟩
theorem DictL.put{H0 H:Hp}{w c:Addr}{qs:List Nat}{f:Nat→List Nat}{q:Nat}{L:List Nat}(h:DictL H0 H w qs f)(hq:q∉qs)(hL:L=f q)(hl:qs.length<1000)(c0:H0 c=none)(hc:H c=some (.lst (aj L))):∃H',DPut H w (.int (q:Int)) (.ref c) H'∧DictL H0 H' w (qs++[q]) f∧∀b o,H b=some o→b≠w→H' b=some o:=by
 obtain⟨kvs,h1,h2,h3⟩:=h
 refine⟨_,DPut.k (k:=.inl (q:Int)) h1 (Nat.lt_of_le_of_lt h2 (Nat.lt_of_lt_of_le hl (by decide))),⟨_,ag,?_,fun p hp=>?_⟩,fun b o e ne=>by rw[ap ne];exact e⟩
 ·rw[List.length_append,List.length_singleton]
  have:=iu kvs (.inl (q:Int)) (.ref c)
  lia
 ·rw[nq]
  by_cases e:p=q
  ·subst e
   rw[if_pos rfl]
   refine⟨c,rfl,c0,?_⟩
   rw[ap (cR hc h1 (fun z=>nomatch z))]
   rw[←hL]
   exact hc
  ·have hp':p∈qs:=by
    rcases List.mem_append.mp hp with z | z
    ·exact z
    ·exact absurd (List.mem_singleton.mp z) e
   obtain⟨c',e1,e2,e3⟩:=h3 p hp'
   rw[if_neg (fun z=>e (by have:=Sum.inl.inj z;lia))]
   refine⟨c',e1,e2,?_⟩
   rw[ap (cR e3 h1 (fun z=>nomatch z))]
   exact e3
def oH:Sp:=fun vs H Q _=>∃(a:Addr) (ks:List Nat) (p m:Nat),vs=[.ref a,.int (p:Int),.int (m:Int)]∧H a=some (.lst (aj ks))∧ks.length≤950∧
 ∀(r:Addr) (H':Hp),H r=none→H' r=some (.lst (aj (bC m ks p)))→Same H H'→Q (.ref r) H'
theorem En(m:Nat)(ks:List Nat)(p:Nat):(bC m ks p).length≤ks.length:=List.length_filter_le _ _
theorem wN:(V.str (Str.ofString "covers")=V.str (Str.ofString "bare"))=False:=by
 apply eq_false
 intro h
 have:=V.str.inj h
 revert this
 decide+kernel
section
variable{P:Program}{w:World}{K:PySem.W.Frag}{mg:Str→Option Value}{base:Heap}
theorem Dk:FnScope ["places","place","many"] ["places","place","many"] (al lV):=fsc_
theorem DE(M:Md K mg)(B:Bl mg)(F:FF K "within_reach" lV):Fn P w K mg base ae "within_reach" 1 ["places","place","many"] oH:=by
 refine aP M F Dk (fun _ _ _ _ _ _=>fW fun _ _ _=>rfl) (fun vs H Q E h=>?_) (fun f cdv A outer s H vs Q E hr h=>?_)
 ·obtain⟨a,ks,p,m,rfl,_⟩:=h;rfl
 ·obtain⟨a,ks,p,m,rfl,ha,kl,k⟩:=h
  refine⟨_,(ah (aw (ce ["places","place","many"] rfl (cq (pv 0)) (fun _=>by exact(fw (jV dZ fU (pv 1) (pv 3) (aq bv (pv 1) (pv 2))))) (fun _=>by exact(pv 3))))),?_⟩
  refine⟨_,rfl,a,rfl,⟨_,SqL.of ha⟩,fun D hD cb=>?_⟩
  refine eI (K:=K) (a:=a) (xs:=aj ks) (fun i ys H3=>ys=aj ((ks.take i).filter fun o=>decide (p<o) && decide (o≤p+m))∧Same H H3∧H3 D=some (.lst ys)) (by rw[aL];exact bD (by lia)) ?_ ?_ ?_ ?_ ?_
  ·exact⟨rfl,Same.upd hD,ag⟩
  ·rintro i ys H3 ⟨rfl,_⟩
   rw[aL]
   exact Nat.le_trans (List.length_filter_le _ _) (by rw[List.length_take];lia)
  ·rintro i ys H3 _ ⟨_,s5,_⟩;exact SqL.of (s5 _ _ ha)
  ·rintro i x ys H3 hx ⟨rfl,s5,hD3⟩
   obtain⟨o,ho,rfl⟩:=fq hx
   refine⟨_,rfl,_,rfl,_,_,rfl,rfl,_,rfl,?_⟩
   have stp:=CH (f:=fun o=>decide (p<o) && decide (o≤p+m)) ho
   by_cases h1:p<o
   ·rw[decide_eq_true (show((p:Int)<(o:Int)) by lia)]
    refine aE ⟨_,rfl,_,rfl,_,_,rfl,rfl,_,_,rfl,rfl,_,rfl,?_⟩
    by_cases h2:o≤p+m
    ·rw[decide_eq_true (show((o:Int)≤(p:Int)+(m:Int)) by lia)]
     refine aE ⟨_,rfl,hD3,?_,?_,ag⟩
     ·rw[stp,if_pos (by simp[h1,h2]),cG]
     ·intro e o' z
      rw[ap (aK z hD)]
      exact s5 _ _ z
    ·rw[decide_eq_false (show¬((o:Int)≤(p:Int)+(m:Int)) by lia)]
     refine ao ⟨?_,s5,hD3⟩
     rw[stp,if_neg (by simp[h2]),List.append_nil]
   ·rw[decide_eq_false (show¬((p:Int)<(o:Int)) by lia)]
    refine ao ⟨_,rfl,ao ⟨?_,s5,hD3⟩⟩
    rw[stp,if_neg (by simp[h1]),List.append_nil]
  ·rintro ys H3 ⟨rfl,s5,hD3⟩
   rw[aL,List.take_length] at hD3
   exact k D H3 hD hD3 s5
theorem scFewest:FnScope ["text","word","kind","found","best","place","tails"] ["text","word"] (al kY):=fsc_
theorem wV(M:Md K mg)(B:Bl mg)(F:FF K "fewest_layings" kY)(Fcovered:Fn P w K mg base ae "covered" 5 ["text","word"] gs)(Fwithin_reach:Fn P w K mg base ae "within_reach" 1 ["places","place","many"] oH):Fn P w K mg base ae "fewest_layings" 6 ["text","word"] mz:=by
 refine aP M F scFewest (fun _ _ _ _ _ _=>aZ fun _ _=>rfl) (fun vs H Q E h=>?_) (fun f cdv A outer s H vs Q E hr h=>?_)
 ·obtain⟨a,b,t,u,rfl,_⟩:=h;rfl
 ·obtain⟨a,b,t,u,rfl,ha,hb,lt,lu,t1,tl,ul,u1,hcov0,k⟩:=h
  refine⟨_,(ad (dO (ai Fcovered hr ak (aa (pv 0) (aa (pv 1) ac))) (dG rfl (bo (aT (i:=2) scFewest.nd rfl (.inl rfl)) (bo (aT (i:=3) scFewest.nd rfl (.inl rfl)) dP))))
   (ad (aJ (aC aW (pv 2) ar (aB _)) (ah ia) aN)
   (ad (aA (i:=4) scFewest.nd rfl (.inr rfl) uC)
   (ad (eB PassesOwn.never rfl (mY B.rev (pv 3)) (aT (i:=5) scFewest.nd rfl (.inl rfl))
   (ad (kG (i:=6) ["text","word","kind","found","best","place","tails"] rfl scFewest.nd rfl (.inl rfl) (cq (ai Fwithin_reach hr ak (aa (pv 3) (aa (pv 5) (aa (aG B.len (pv 1)) ac))))) (fun _=>by exact di) (fun _=>by exact(fe (by exact cI hr) (pv 4) (pv 7) (fun _ _=>rfl))))
   (ah (pd (by exact cI hr) (pv 4) (pv 5) (aq dU (aS (aa (pv 5) ac)) (rZ rfl B.min B.len (pv 6) (aS ac))) rfl))))
   (ah (aw (fe (by exact cI hr) (pv 4) af (fun _ _=>rfl)))))))),?_⟩
  refine⟨_,rfl,_,rfl,a,b,t,u,rfl,ha,hb,lt,lu,t1,tl,ul,u1,?_⟩
  have hin:∀p∈aD t u,p+u.length≤t.length:=fun p hp=>jf hp u1
  have srt:=ja t u
  have ll:=kj t u
  refine⟨?_,?_⟩
  ·intro r H1 hr0 s1 hlt hr1
   refine⟨r,_,rfl,SqT.of hr1,rfl,_,_,rfl,_,_,rfl,rfl,?_⟩
   lia
  ·intro r fd H1 hr0 hf0 s1 hcov hf1 hr1
   refine⟨r,_,rfl,SqT.of hr1,rfl,_,_,rfl,_,_,rfl,rfl,?_⟩
   refine⟨_,rfl,rfl,_,rfl,?_⟩
   rw[decide_eq_false (by rw[wN];exact id)]
   refine ao ?_
   have k':=k
   have C:Cvr t.length u.length (aD t u):=⟨u1,srt,hin,hcov⟩
   have h0:=tZ t1 hcov
   generalize aD t u=ks at*
   intro w hw
   have s2:=Same.upd (o:=.dK []) hw
   have wn:H w=none:=s1.free hw
   refine⟨_,rfl,fd,_,rfl,SqL.of (s2 _ _ hf1),A0 (K:=K) (a:=fd) (xs:=aj ks) (fun j σ H2=>Same H H2∧H2 fd=some (.lst (aj ks))∧DictL H H2 w (ks.reverse.take j) (bq t.length u.length ks)∧∃v5 v6,σ=[some (.ref a),some (.ref b),some (.str "covers"),some (.ref fd),some (.ref w),v5,v6]) ?_ (fun j σ H2 _ h2=>SqL.of h2.2.1) ?_ ?_⟩
   ·refine⟨s1.trans s2,s2 _ _ hf1,⟨[],ag,Nat.le_refl _,fun q hq=>?_⟩,_,_,rfl⟩
    rw[List.take_zero] at hq;cases hq
   ·rintro j x σ H2 hx ⟨sH,hf2,hw2,v5,v6,rfl⟩
    rw[BO] at hx
    obtain⟨q,hq,rfl⟩:=fq hx
    have hqk:q∈ks:=List.mem_reverse.mp (List.mem_of_getElem? hq)
    have hjl:j<ks.length:=by have:=(List.getElem?_eq_some_iff.mp hq).1;rw[List.length_reverse] at this;exact this
    refine⟨_,rfl,_,rfl,_,rfl,b,_,rfl,SqL.of (sH _ _ hb),fd,ks,q,u.length,by rw[List.length_map];rfl,hf2,by lia,fun n H3 hn0 hn3 s4=>?_⟩
    refine⟨n,rfl,⟨_,SqL.of hn3⟩,fun D hD cb=>?_⟩
    have nl:=En u.length ks q
    have hw3:=hw2.same s4
    refine eI (K:=K) (a:=n) (xs:=aj (bC u.length ks q)) (fun i ys H4=>(∃cs:List Addr,ys=cs.map V.ref∧cs.length=i∧∀(k:Nat) (c:Addr) (o:Nat),cs[k]?=some c→(bC u.length ks q)[k]?=some o→H3 c=some (.lst (aj (bq t.length u.length ks o))))∧Same H3 H4∧H4 D=some (.lst ys)) (by rw[aL];exact bD (by lia)) ?_ ?_ ?_ ?_ ?_
    ·exact⟨⟨[],rfl,rfl,fun k c o h=>by simp at h⟩,Same.upd hD,ag⟩
    ·rintro i ys H4 ⟨⟨cs,rfl,hl,_⟩,_⟩
     rw[List.length_map,hl];exact Nat.le_refl _
    ·rintro i ys H4 _ ⟨_,s5,_⟩;exact SqL.of (s5 _ _ hn3)
    ·rintro i x ys H4 hx ⟨⟨cs,rfl,hl,hcs⟩,s5,hD4⟩
     obtain⟨o,ho,rfl⟩:=fq hx
     have hon:=List.mem_of_getElem? ho
     unfold bC at hon
     rw[List.mem_filter] at hon
     have hlt:q<o:=by have:=hon.2;simp at this;exact this.1
     obtain⟨kvs,z1,_,z3⟩:=id hw3
     obtain⟨c',e1,_,hc'⟩:=z3 o (BT srt hq hon.1 hlt)
     have dg:=DGet.k (k:=.inl (o:Int)) (s5 _ _ z1)
     rw[e1] at dg
     refine dI ⟨_,rfl,_,rfl,w,_,rfl,dg,hD4,⟨cs++[c'],by simp,by simp[hl],fun k c o' h1 h2=>?_⟩,?_,ag⟩
     ·by_cases hk:k<cs.length
      ·rw[List.getElem?_append_left hk] at h1
       exact hcs k c o' h1 h2
      ·rw[List.getElem?_append_right (by lia)] at h1
       have hz:k-cs.length=0:=by
        by_cases hz:k-cs.length=0
        ·exact hz
        ·rw[List.getElem?_eq_none (by simp;lia)] at h1;cases h1
       rw[hz] at h1
       have e1:c'=c:=Option.some.inj h1
       have hki:k=i:=by lia
       rw[hki,ho] at h2
       have e2:o=o':=Option.some.inj h2
       rw[←e1,←e2]
       exact hc'
     ·intro e o' z
      rw[ap (aK z hD)]
      exact s5 _ _ z
    ·rintro ys H4 ⟨⟨cs,rfl,hl,hcs⟩,s5,hD4⟩
     rw[aL] at hl
     have s45:=s4.trans s5
     have sH4:=sH.trans s45
     refine⟨_,rfl,by show 1≤sizeLine;decide,fun l1 hl1=>?_⟩
     have s6:=Same.upd (o:=.lst [V.int (q:Int)]) hl1
     refine⟨_,rfl,Nat.zero_le _,fun l2 hl2=>?_⟩
     have s7:=Same.upd (o:=.lst []) hl2
     have s67:=s6.trans s7
     have h17:=s7 _ _ (ag (H:=H4) (a:=l1) (o:=.lst [V.int (q:Int)]))
     have h27:=ag (H:=L2.upd H4 l1 (.lst [V.int (q:Int)])) (a:=l2) (o:=.lst [])
     generalize L2.upd (L2.upd H4 l1 (.lst [V.int (q:Int)])) l2 (.lst [])=H7 at s67 h17 h27 ⊢
     have s37:=s5.trans s67
     have hw7:=hw3.same s37
     have sH7:=sH4.trans s67
     have fin:∀(c:Addr) (L:List Nat),H7 c=some (.lst (aj L))→L.length≤950→q::L=bq t.length u.length ks q→lj (.ref l1) (.ref c) H7 fun x H8=>∃(H9:Hp),DPut H8 w (.int (q:Int)) x H9∧Same H H9∧H9 fd=some (.lst (aj ks))∧DictL H H9 w (ks.reverse.take (j+1)) (bq t.length u.length ks):=by
      intro c L hc hL hLF
      refine⟨l1,c,_,_,rfl,rfl,h17,hc,by rw[aL];exact sz (by show 1+L.length≤1000;lia),fun p hp=>?_⟩
      have e8:[V.int (q:Int)]++aj L=aj (q::L):=rfl
      rw[e8]
      have s8:=Same.upd (o:=.lst (aj (q::L))) hp
      have hqn:q∉ks.reverse.take j:=by
       intro z
       have nd:ks.reverse.Nodup:=(List.reverse_perm ks).nodup_iff.mpr (srt.imp fun h=>Nat.ne_of_lt h)
       have hsp:=List.take_append_drop j ks.reverse
       obtain⟨h1,h2⟩:=List.getElem?_eq_some_iff.mp hq
       rw[List.drop_eq_getElem_cons h1,h2] at hsp
       rw[←hsp,List.nodup_append] at nd
       exact nd.2.2 q z q List.mem_cons_self rfl
      obtain⟨H9,put,hw9,k9⟩:=(hw7.same s8).put (q:=q) (L:=q::L) hqn hLF (by rw[List.length_take,List.length_reverse];lia) (sH7.free hp) ag
      refine⟨H9,put,fun e o z=>k9 _ _ (s8 _ _ (sH7 _ _ z)) (aK z wn),k9 _ _ (s8 _ _ (s67 _ _ (s45 _ _ hf2))) (aK hf1 hw),by rw[uQ hq];exact hw9⟩
     refine⟨D,cs,(bC u.length ks q).map fun o=>aj (bq t.length u.length ks o),rfl,s67 _ _ hD4,by rw[List.length_map,hl],fun i c xs h1 h2=>?_,fun hnil=>?_,fun i c xi h1 h2 best=>?_⟩
     ·rw[List.getElem?_map] at h2
      cases eo:(bC u.length ks q)[i]? with
      | none=>rw[eo] at h2;cases h2
      | some o=>
        rw[eo] at h2
        rw[←Option.some.inj h2]
        exact s37 _ _ (hcs i c o h1 eo)
     ·obtain⟨c,rc⟩:∃c,c=l2:=⟨_,rfl⟩
      have hnn:bC u.length ks q=[]:=List.length_eq_zero_iff.mp (by rw[←hl,hnil];rfl)
      have fz:=fin l2 [] h27 (Nat.zero_le _) (by rw[jP C hqk,hnn];rfl)
      obtain⟨l0,b0,xs0,zs0,e1,e2,e3,e4,e5,e6⟩:=fz
      refine⟨l0,b0,xs0,zs0,e1,e2,e3,e4,e5,fun p hp=>?_⟩
      obtain⟨H9,put,r1,r2,r3⟩:=e6 p hp
      exact⟨_,rfl,_,rfl,w,H9,rfl,put,r1,r2,r3,_,_,rfl⟩
     ·rw[List.getElem?_map] at h2
      cases eo:(bC u.length ks q)[i]? with
      | none=>rw[eo] at h2;cases h2
      | some o=>
        have hon:=List.mem_of_getElem? eo
        unfold bC at hon
        rw[List.mem_filter] at hon
        have hlt:q<o:=by have:=hon.2;simp at this;exact this.1
        have hne:bC u.length ks q≠ []:=fun z=>by rw[z] at eo;simp at eo
        have exi:xi=aj (bq t.length u.length ks o):=by rw[eo] at h2;exact(Option.some.inj h2).symm
        obtain⟨pre,x0,post,e0,e1,e2,e3⟩:=sr (f:=bq t.length u.length ks) hne
        have hio:o=x0:=by
         have ix:(bC u.length ks q)[pre.length]?=some x0:=by rw[e0];simp
         have b0:=(best pre.length (aj (bq t.length u.length ks x0)) (by rw[List.getElem?_map,ix];rfl))
         rw[exi,aL,aL] at b0
         have hoi:=e2 o (List.mem_of_getElem? eo)
         rcases Nat.lt_trichotomy i pre.length with z | z | z
         ·have hop:o∈pre:=by
           rw[e0,List.getElem?_append_left z] at eo
           exact List.mem_of_getElem? eo
          have:=e3 o hop
          lia
         ·rw[z,ix] at eo;exact(Option.some.inj eo).symm
         ·have:=b0.2 z;lia
        have fz:=fin c (bq t.length u.length ks o) (s37 _ _ (hcs i c o h1 eo)) (by have:=tR C hon.1;lia) (by rw[jP C hqk,e1,hio])
        obtain⟨l0,b0,xs0,zs0,e1,e2,e3,e4,e5,e6⟩:=fz
        refine⟨l0,b0,xs0,zs0,e1,e2,e3,e4,e5,fun p hp=>?_⟩
        obtain⟨H9,put,r1,r2,r3⟩:=e6 p hp
        exact⟨_,rfl,_,rfl,w,H9,rfl,put,r1,r2,r3,_,_,rfl⟩
   ·rintro σ H2 ⟨sH,hf2,hw2,v5,v6,rfl⟩
    rw[aL,List.take_of_length_le (by rw[List.length_reverse];exact Nat.le_refl _)] at hw2
    obtain⟨c,dg,c0,hc⟩:=hw2.get (List.mem_reverse.mpr h0)
    exact⟨_,rfl,w,_,rfl,dg,k' c H2 c0 hc sH⟩
end
def aR(u:List Nat):List Nat:=((List.range u.length).map (·+1)).filter fun d=>decide (u.drop d=u.take (u.length-d))
theorem CQ{u:List Nat}{d:Nat}(hd:d≤u.length):u.drop d=u.take (u.length-d)↔∀q,q<u.length-d→u[d+q]?=u[q]?:=by
 constructor
 ·intro h q hq
  have:=congrArg (·[q]?) h
  have this:(u.drop d)[q]?=(u.take (u.length-d))[q]?:=this
  rw[List.getElem?_drop,List.getElem?_take_of_lt hq] at this
  exact this
 ·intro h
  apply List.ext_getElem?
  intro q
  by_cases hq:q<u.length-d
  ·rw[List.getElem?_drop,List.getElem?_take_of_lt hq];exact h q hq
  ·rw[List.getElem?_eq_none (by rw[List.length_drop];lia),List.getElem?_eq_none (by rw[List.length_take];lia)]
theorem tz(u:List Nat):(aR u).length≤u.length:=by
 unfold aR
 have:=List.length_filter_le (fun d=>decide (u.drop d=u.take (u.length-d))) ((List.range u.length).map (·+1))
 simpa using this
def mB:Sp:=fun vs H Q _=>∃(a:Addr) (u:List Nat),vs=[.ref a]∧H a=some (.lst (u.map sg))∧Low u∧1≤u.length∧u.length≤900∧
 ∀(r:Addr) (H':Hp),H r=none→H' r=some (.lst (aj (aR u)))→Same H H'→Q (.ref r) H'
theorem iO{t:List Nat}{n:Int}(h:0≤n):bA (t.map sg) none (some n)=(t.take n.toNat).map sg:=by rw[dh,dC,je _ _ h]
theorem mX{t:List Nat}{n:Int}(h:0≤n):bA (t.map sg) (some n) none=(t.drop n.toNat).map sg:=by rw[dh,dC,kB _ _ h]
abbrev lZ:Stmt:=aH 30
theorem zA(n:Nat):(List.range n).reverse.map (n - ·)=(List.range n).map (·+1):=by
 apply List.ext_getElem
 ·simp
 ·intro i h1 h2
  simp at h1 h2 ⊢
  lia
theorem Ap(t:List Nat):oP t=aR t:=by
 unfold oP ends aR
 rw[←List.filter_reverse,←zA,List.filter_map]
 congr 1
 apply List.filter_congr
 intro k hk
 have hk':k<t.length:=by simpa using hk
 show decide _=decide _
 have e:t.length-(t.length-k)=k:=by lia
 rw[e]
 exact decide_eq_decide.mpr ⟨fun h=>h.symm,fun h=>h.symm⟩
section
variable{P:Program}{w:World}{K:PySem.W.Frag}{mg:Str→Option Value}{base:Heap}
theorem Cz:FnScope ["word"] ["word"] (al lZ):=fsc_
theorem zY(M:Md K mg)(B:Bl mg)(F:FF K "shifts" lZ)(Fcheck_word:Fn P w K mg base ae "check_word" 3 ["word"] eX)(Fperiods:Fn P w K mg base ae "periods" 4 ["text"] qK):Fn P w K mg base ae "shifts" 5 ["word"] mB:=by
 refine aP M F Cz (fun _ _ _ _ _ _=>br fun _=>rfl) (fun vs H Q E h=>?_) (fun f cdv A outer s H vs Q E hr h=>?_)
 ·obtain⟨a,t,rfl,_⟩:=h;rfl
 ·obtain⟨a,t,rfl,ha,lt,t1,tl,k⟩:=h
  refine⟨_,(ad (aU (ai Fcheck_word hr ak (aa (pv 0) ac)))
   (ah (aw (ai Fperiods hr ak (aa (pv 0) ac))))),?_⟩
  refine⟨_,rfl,a,t,rfl,ha,lt,t1,?_⟩
  refine⟨_,rfl,a,t,rfl,ha,lt,by lia,fun r H1 hr0 hr1 s1=>k r H1 hr0 ?_ s1⟩
  rw[hr1,Ap]
end
def aX(t u:List Nat)(p:Nat):Nat→Nat
 | 0=>0
 | k+1=>aX t u p k+(if t[p+k]?=u[k]? then 0 else 1)
theorem mI(t u:List Nat)(p:Nat):∀k,aX t u p k≤k
 | 0=>Nat.le_refl _
 | k+1=>by
   have:=mI t u p k
   simp only[aX]
   split <;> lia
inductive Ch (S:List Nat):Nat→Nat→List Nat→Prop
 | one (p:Nat):Ch S p p [p]
 | cons {p s q:Nat} {l:List Nat}:s∈S→Ch S (p+s) q l→Ch S p q (p::l)
theorem Ch.head{S:List Nat}{p q:Nat}{l:List Nat}(h:Ch S p q l):∃r,l=p::r:=by
 cases h with
 | one=>exact⟨[],rfl⟩
 | cons _ _=>exact⟨_,rfl⟩
theorem Ch.le{S:List Nat}{p q:Nat}{l:List Nat}(h:Ch S p q l):p≤q:=by
 induction h with
 | one=>exact Nat.le_refl _
 | cons _ _ ih=>lia
theorem Ch.unsnoc{S:List Nat}{p q:Nat}{l:List Nat}(h:Ch S p q l):(p=q∧l=[p])∨∃s q' l',s∈S∧Ch S p q' l'∧q=q'+s∧l=l'++[q]:=by
 induction h with
 | one p=>exact .inl ⟨rfl,rfl⟩
 | @cons p s q l h1 h2 ih=>
   refine .inr ?_
   rcases ih with⟨e1,e2⟩ | ⟨s',q',l',hs,hc,e1,e2⟩
   ·subst e1 e2
    exact⟨s,p,[p],h1,Ch.one _,rfl,rfl⟩
   ·subst e1 e2
    exact⟨s',q',p::l',hs,Ch.cons h1 hc,rfl,rfl⟩
theorem Ch.last{S:List Nat}{p q:Nat}{l:List Nat}(h:Ch S p q l):∃r,l=r++[q]:=by
 rcases h.unsnoc with⟨e1,e2⟩ | ⟨s,q',l',_,_,_,e⟩
 ·subst e1 e2;exact⟨[],rfl⟩
 ·exact⟨l',e⟩
def aM(t u:List Nat):List Nat→Nat
 | []=>0
 | [p]=>aX t u p u.length
 | p::q::l=>aX t u p (q-p)+aM t u (q::l)
theorem hU{S t u:List Nat}{p s q:Nat}{l:List Nat}(h:Ch S (p+s) q l):aM t u (p::l)=aX t u p s+aM t u l:=by
 obtain⟨r,e⟩:=h.head
 subst e
 simp only[aM]
 rw[show p+s-p=s by lia]
def jY(u S:List Nat):Prop:=∀s∈S,1≤s∧s≤u.length∧∀q,q<u.length-s→u[s+q]?=u[q]?
abbrev il(l:List Nat):List Int:=l.map fun(x:Nat)=>(x:Int)
def cX(c k:Nat)(l:List Nat):K3:=((c:Int),(k:Int),il l)
theorem BD(a b c d:Int)(x y:List Int):bp (a,b,x) (c,d,y)=true↔a<c∨(a=c∧(b<d∨(b=d∧aF x y=true))):=by
 unfold bp
 simp only[aF]
 by_cases h1:a=c
 ·rw[if_pos h1]
  by_cases h2:b=d
  ·rw[if_pos h2]
   constructor
   ·intro h;exact .inr ⟨h1,.inr ⟨h2,h⟩⟩
   ·rintro(h | ⟨_,h | ⟨_,h⟩⟩)
    ·lia
    ·lia
    ·exact h
  ·rw[if_neg h2]
   constructor
   ·intro h;exact .inr ⟨h1,.inl (of_decide_eq_true h)⟩
   ·rintro(h | ⟨_,h | ⟨h,_⟩⟩)
    ·lia
    ·exact decide_eq_true h
    ·exact absurd h h2
 ·rw[if_neg h1]
  constructor
  ·intro h;exact .inl (of_decide_eq_true h)
  ·rintro(h | ⟨h,_⟩)
   ·exact decide_eq_true h
   ·exact absurd h h1
theorem kyN_lt{c k c' k':Nat}{l l':List Nat}:bp (cX c k l) (cX c' k' l')=true↔c<c'∨(c=c'∧(k<k'∨(k=k'∧aF (il l) (il l')=true))):=by
 unfold cX
 rw[BD]
 constructor
 ·rintro(h | ⟨h,h' | ⟨h',h''⟩⟩)
  ·exact .inl (by lia)
  ·exact .inr ⟨by lia,.inl (by lia)⟩
  ·exact .inr ⟨by lia,.inr ⟨by lia,h''⟩⟩
 ·rintro(h | ⟨h,h' | ⟨h',h''⟩⟩)
  ·exact .inl (by lia)
  ·exact .inr ⟨by lia,.inl (by lia)⟩
  ·exact .inr ⟨by lia,.inr ⟨by lia,h''⟩⟩
theorem uK:∀(xs ys:List Int),aF xs ys=true∨xs=ys∨aF ys xs=true
 | [],[]=>.inr (.inl rfl)
 | [],_::_=>.inl rfl
 | _::_,[]=>.inr (.inr rfl)
 | x::xs,y::ys=>by
   simp only[aF]
   by_cases e:x=y
   ·subst e
    rw[if_pos rfl,if_pos rfl]
    rcases uK xs ys with h | h | h
    ·exact .inl h
    ·exact .inr (.inl (by rw[h]))
    ·exact .inr (.inr h)
   ·rw[if_neg e,if_neg (Ne.symm e)]
    rcases Int.lt_or_gt_of_ne e with h | h
    ·exact .inl (decide_eq_true h)
    ·exact .inr (.inr (decide_eq_true h))
theorem xT(x y:K3):bp x y=true∨x=y∨bp y x=true:=by
 unfold bp
 rcases uK (x.1::x.2.1::x.2.2) (y.1::y.2.1::y.2.2) with h | h | h
 ·exact .inl h
 ·refine .inr (.inl ?_)
  injection h with h1 h
  injection h with h2 h3
  obtain⟨a,b,c⟩:=x
  obtain⟨a',b',c'⟩:=y
  simp only at h1 h2 h3
  subst h1 h2 h3
  rfl
 ·exact .inr (.inr h)
theorem vK{x y:K3}(h1:bp x y=false)(h2:bp y x=false):x=y:=by
 rcases xT x y with q | q | q
 ·rw[q] at h1;cases h1
 ·exact q
 ·rw[q] at h2;cases h2
theorem yD{a b:List Nat}(h:il a=il b):a=b:=by
 induction a generalizing b with
 | nil=>cases b with
   | nil=>rfl
   | cons y b=>cases h
 | cons x a ih=>cases b with
   | nil=>cases h
   | cons y b=>
     injection h with h1 h2
     have h1:(x:Int)=(y:Int):=h1
     rw[ih h2,show x=y by lia]
def ky(t u:List Nat)(w:Bool)(l:List Nat):K3:=cX (aM t u l) l.length (if w=true then l else [0])
def Least(S t u:List Nat)(w:Bool)(p q:Nat)(l:List Nat):Prop:=Ch S p q l∧∀l',Ch S p q l'→bp (ky t u w l') (ky t u w l)=false
theorem Least.uniq{S t u:List Nat}{p q:Nat}{l l':List Nat}(h:Least S t u true p q l)(h':Least S t u true p q l'):l=l':=by
 have e:=vK (h.2 l' h'.1) (h'.2 l h.1)
 unfold ky cX at e
 have e2:il (if(true:Bool)=true then l' else [0])=il (if(true:Bool)=true then l else [0]):=congrArg (fun z=>z.2.2) e
 rw[if_pos rfl,if_pos rfl] at e2
 exact(yD e2).symm
theorem vT{S t u:List Nat}{w:Bool}(p:Nat)(hS:jY u S):Least S t u w p p [p]:=by
 refine⟨Ch.one _,fun l' h=>?_⟩
 cases h with
 | one=>exact qW _
 | cons h1 h2=>have:=h2.le;have:=(hS _ h1).1;lia
theorem ww{S t u:List Nat}{p q s0:Nat}{l0:List Nat}(hpq:p<q)(h0:s0∈S)(L0:Least S t u true (p+s0) q l0)(all:∀s∈S,(∃l,Ch S (p+s) q l)→∃l,Least S t u true (p+s) q l∧bp (cX (aX t u p s+aM t u l) (l.length+1) [p+s]) (cX (aX t u p s0+aM t u l0) (l0.length+1) [p+s0])=false):Least S t u true p q (p::l0):=by
 refine⟨Ch.cons h0 L0.1,fun l' h=>?_⟩
 refine Bool.eq_false_iff.mpr fun z=>?_
 cases h with
 | one=>lia
 | @cons _ s _ l'' h1 h2=>
   unfold ky at z
   rw[hU h2,hU L0.1,if_pos rfl,if_pos rfl] at z
   have z':=kyN_lt.mp z
   simp only[List.length_cons] at z'
   have hcons:∀a b:List Nat,aF (il (p::a)) (il (p::b))=aF (il a) (il b):=fun a b=>by
    show aF ((p:Int)::il a) ((p:Int)::il b)=_
    simp only[aF];rw[if_pos trivial]
   rw[hcons] at z'
   by_cases es:s=s0
   ·subst es
    have:=L0.2 l'' h2
    have yes:bp (ky t u true l'') (ky t u true l0)=true:=by
     unfold ky
     rw[kyN_lt,if_pos rfl,if_pos rfl]
     rcases z' with z' | ⟨z',y | ⟨y,y'⟩⟩
     ·exact .inl (by lia)
     ·exact .inr ⟨by lia,.inl (by lia)⟩
     ·exact .inr ⟨by lia,.inr ⟨by lia,y'⟩⟩
    rw[yes] at this
    cases this
   ·obtain⟨l1,L1,c1⟩:=all s h1 ⟨l'',h2⟩
    have d1:=L1.2 l'' h2
    have n1:¬_:=fun y=>by rw[kyN_lt.mpr y] at c1;cases c1
    have n2:¬(aM t u l''<aM t u l1∨(aM t u l''=aM t u l1∧(l''.length<l1.length∨(l''.length=l1.length∧aF (il l'') (il l1)=true)))):=fun y=>by
     have:=kyN_lt.mpr y
     unfold ky at d1
     rw[if_pos rfl,if_pos rfl,this] at d1
     cases d1
    have hd:aF (il l'') (il l0)=true→p+s<p+s0:=fun y=>by
     obtain⟨r,e⟩:=h2.head
     obtain⟨r0,e0⟩:=L0.1.head
     subst e e0
     have y:aF (((p+s:Nat):Int)::il r) (((p+s0:Nat):Int)::il r0)=true:=y
     simp only[aF] at y
     rw[if_neg (by lia)] at y
     have:=of_decide_eq_true y
     lia
    have hd2:p+s<p+s0→aF (il [p+s]) (il [p+s0])=true:=fun y=>by
     show aF [((p+s:Nat):Int)] [((p+s0:Nat):Int)]=true
     simp only[aF]
     rw[if_neg (by lia)]
     exact decide_eq_true (by lia)
    rcases z' with z' | ⟨z',y | ⟨y,y'⟩⟩
    ·exact n1 (by
     by_cases q:aX t u p s+aM t u l1<aX t u p s0+aM t u l0
     ·exact .inl q
     ·exact absurd (show aM t u l''<aM t u l1 by lia) fun w=>n2 (.inl w))
    ·by_cases q:aM t u l''<aM t u l1
     ·exact n2 (.inl q)
     ·by_cases q2:aX t u p s+aM t u l1<aX t u p s0+aM t u l0
      ·exact n1 (.inl q2)
      ·have e1:aM t u l''=aM t u l1:=by lia
       by_cases q3:l''.length<l1.length
       ·exact n2 (.inr ⟨e1,.inl q3⟩)
       ·exact n1 (.inr ⟨by lia,.inl (by lia)⟩)
    ·by_cases q:aM t u l''<aM t u l1
     ·exact n2 (.inl q)
     ·by_cases q2:aX t u p s+aM t u l1<aX t u p s0+aM t u l0
      ·exact n1 (.inl q2)
      ·have e1:aM t u l''=aM t u l1:=by lia
       by_cases q3:l''.length<l1.length
       ·exact n2 (.inr ⟨e1,.inl q3⟩)
       ·by_cases q4:l1.length<l0.length
        ·exact n1 (.inr ⟨by lia,.inl (by lia)⟩)
        ·exact n1 (.inr ⟨by lia,.inr ⟨by lia,hd2 (hd y')⟩⟩)
abbrev mP:Stmt:=aH 31
def cg(t u:List Nat)(p n:Nat):List Nat:=(List.range n).map (aX t u p)
theorem nF(t u:List Nat)(p n:Nat):cg t u p (n+1)=cg t u p n++[aX t u p n]:=by unfold cg;rw[List.range_succ,List.map_append];rfl
theorem CU(t u:List Nat)(p n:Nat):(cg t u p n).length=n:=by unfold cg;simp
theorem Cu{t u:List Nat}{p n k:Nat}(h:k<n):(aj (cg t u p n))[k]?=some (.int (aX t u p k:Nat)):=by unfold cg aj;simp[h]
def pZ:Sp:=fun vs H Q _=>∃(a b:Addr) (t u:List Nat) (p:Nat),vs=[.ref a,.ref b,.int (p:Int)]∧H a=some (.lst (t.map sg))∧H b=some (.lst (u.map sg))∧t.length≤900∧p+u.length≤t.length∧
 ∀(r:Addr) (H':Hp),H r=none→H' r=some (.lst (aj (cg t u p (u.length+1))))→Same H H'→Q (.ref r) H'
theorem rX{t:List Nat}{i:Nat}{x:V}(h:(t.map sg)[i]?=some x):∃c,t[i]?=some c∧x=sg c:=by
 rw[List.getElem?_map] at h
 cases e:t[i]? with
 | none=>rw[e] at h;cases h
 | some c=>rw[e] at h;exact⟨c,rfl,(Option.some.inj h).symm⟩
theorem D6(c d:Nat):decide (sg c=sg d)=decide (c=d):=decide_eq_decide.mpr CL
section
variable{P:Program}{w:World}{K:PySem.W.Frag}{mg:Str→Option Value}{base:Heap}
theorem scWaf:FnScope ["text","word","place","numbers","sign","due"] ["text","word","place"] (al mP):=fsc_
theorem zH(M:Md K mg)(B:Bl mg)(F:FF K "wrong_among_first" mP):Fn P w K mg base ae "wrong_among_first" 1 ["text","word","place"] pZ:=by
 refine aP M F scWaf (fun _ _ _ _ _ _=>fW fun _ _ _=>rfl) (fun vs H Q E h=>?_) (fun f cdv A outer s H vs Q E hr h=>?_)
 ·obtain⟨a,b,t,u,p,rfl,_⟩:=h;rfl
 ·obtain⟨a,b,t,u,p,rfl,ha,hb,tl,pu,k⟩:=h
  refine⟨_,(ad (aA (i:=3) scWaf.nd rfl (.inl rfl) (aS (aa af ac)))
   (ad (eB PassesOwn.never rfl (xk B.zip (bT bR (pv 0) (bH (pv 2)) cm) (pv 1)) (dG rfl (bo (aT (i:=4) scWaf.nd rfl (.inl rfl)) (bo (aT (i:=5) scWaf.nd rfl (.inl rfl)) dP)))
   (ah (aU (cJ PySem.F.plainAttrs_list PySem.F.slot_list_append PySem.F.type_list_append iN (pv 3) (aa (aq bv (bh bO (pv 3) (gH ie af) (fun _ _=>rfl)) (iD (aC aW (pv 4) (pv 5) (aB _)) af af)) ac)))))
   (ah (aw (pv 3))))),?_⟩
  refine⟨by show 1≤sizeLine;decide,fun r hr0=>?_⟩
  have s0:=Same.upd (o:=.lst [V.int 0]) hr0
  have hr1:=ag (H:=H) (a:=r) (o:=.lst [V.int 0])
  generalize L2.upd H r (.lst [V.int 0])=H0 at s0 hr1 ⊢
  refine⟨_,rfl,_,rfl,_,rfl,a,_,rfl,SqL.of (s0 _ _ ha),fun q hq=>?_⟩
  have e1:bA (t.map sg) (some (p:Int)) none=(t.drop p).map sg:=by rw[mX (by lia)];rfl
  rw[e1]
  have s1:=Same.upd (o:=.lst ((t.drop p).map sg)) hq
  have hq1:=ag (H:=H0) (a:=q) (o:=.lst ((t.drop p).map sg))
  have hr2:=s1 _ _ hr1
  have sH:=s0.trans s1
  generalize L2.upd H0 q (.lst ((t.drop p).map sg))=H1 at s1 hq1 hr2 sH ⊢
  refine⟨_,rfl,q,b,_,_,rfl,rfl,hq1,sH _ _ hb,xz (a:=q) (b:=b) (xs:=(t.drop p).map sg) (ys:=u.map sg) (fun i σ H2=>Same H H2∧H2 q=some (.lst ((t.drop p).map sg))∧H2 r=some (.lst (aj (cg t u p (i+1))))∧∃v4 v5,σ=[some (.ref a),some (.ref b),some (.int (p:Int)),some (.ref r),v4,v5]) ?_ ?_ ?_ ?_⟩
  ·exact⟨sH,hq1,hr2,_,_,rfl⟩
  ·rintro i σ H2 _ ⟨s2,h2,_⟩
   exact⟨h2,s2 _ _ hb⟩
  ·rintro i x y pp σ H2 hx hy hpp ⟨s2,hq2,hr2,v4,v5,rfl⟩
   obtain⟨c,hc,rfl⟩:=rX hx
   obtain⟨d,hd,rfl⟩:=rX hy
   rw[List.getElem?_drop] at hc
   have s3:=Same.upd (o:=.tup [sg c,sg d]) hpp
   have hpp3:=ag (H:=H2) (a:=pp) (o:=.tup [sg c,sg d])
   have hq3:=s3 _ _ hq2
   have hr3:=s3 _ _ hr2
   have s23:=s2.trans s3
   generalize L2.upd H2 pp (.tup [sg c,sg d])=H3 at s3 hpp3 hq3 hr3 s23 ⊢
   have hil:i<u.length:=(List.getElem?_eq_some_iff.mp hd).1
   refine⟨pp,_,rfl,SqT.of hpp3,rfl,_,_,rfl,_,_,rfl,rfl,?_⟩
   have hla:bF (aj (cg t u p (i+1))) (-1)=some (.int (aX t u p i:Nat)):=by rw[nF,cG,oZ]
   have fin:∀e:Int,e=((if t[p+i]?=u[i]? then 0 else 1:Nat):Int)→Same H (L2.upd H3 r (.lst (aj (cg t u p (i+1))++[V.int ((aX t u p i:Nat)+e)])))∧(L2.upd H3 r (.lst (aj (cg t u p (i+1))++[V.int ((aX t u p i:Nat)+e)]))) q=some (.lst ((t.drop p).map sg))∧(L2.upd H3 r (.lst (aj (cg t u p (i+1))++[V.int ((aX t u p i:Nat)+e)]))) r=some (.lst (aj (cg t u p (i+1+1)))):=fun e he=>by
    refine⟨fun z o h=>by rw[ap (aK h hr0)];exact s23 _ _ h,?_,?_⟩
    ·rw[ap (fun z=>by subst z;rw[hr1] at hq;cases hq)];exact hq3
    ·rw[ag,nF t u p (i+1),cG,he]
     simp only[aX,Int.natCast_add]
   refine⟨_,rfl,.inl ⟨rfl,_,SqL.of hr3⟩,_,rfl,_,rfl,r,_,_,_,rfl,rfl,SqL.of hr3,hla,?_⟩
   refine⟨_,rfl,_,rfl,rfl,_,rfl,?_⟩
   have hz:(aj (cg t u p (i+1))).length<sizeLine:=by rw[aL,CU];exact bD (by lia)
   rw[D6]
   refine bN (fun hcd=>?_) (fun hcd=>?_)
   ·have hcd':c=d:=of_decide_eq_true hcd
    obtain⟨f1,f2,f3⟩:=fin 0 (by rw[hc,hd,hcd',if_pos rfl];rfl)
    exact⟨_,_,rfl,rfl,r,_,_,rfl,rfl,hr3,hz,f1,f2,f3,_,_,rfl⟩
   ·have hcd':¬c=d:=kn hcd
    obtain⟨f1,f2,f3⟩:=fin 1 (by rw[hc,hd,if_neg (fun z=>hcd' (Option.some.inj z))];rfl)
    exact⟨_,_,rfl,rfl,r,_,_,rfl,rfl,hr3,hz,f1,f2,f3,_,_,rfl⟩
  ·rintro σ H2 ⟨s2,hq2,hr2,v4,v5,rfl⟩
   have em:min ((t.drop p).map sg).length (u.map sg).length=u.length:=by
    rw[List.length_map,List.length_map,List.length_drop];lia
   rw[em] at hr2
   exact⟨_,rfl,k r H2 hr0 hr2 s2⟩
end
theorem kD(u:List Nat):jY u (aR u):=by
 intro s hs
 unfold aR at hs
 rw[List.mem_filter,List.mem_map] at hs
 obtain⟨⟨q,hq,rfl⟩,h2⟩:=hs
 rw[List.mem_range] at hq
 exact⟨by lia,by lia,(CQ (by lia)).mp (of_decide_eq_true h2)⟩
def lO:List Nat→Nat
 | []=>0
 | [p]=>p
 | _::q::_=>q
def BW(H0 H:Hp)(w:Addr)(t u:List Nat)(L lo:Nat):Prop:=∃kvs:List (az×V),H w=some (.dK kvs)∧kvs.length+lo≤L+1∧
 (∀p,lo≤p→p≤L→(∃l c,Least (aR u) t u true p L l∧aY kvs (.inl (p:Int))=some (.ref c)∧H0 c=none∧H c=some (.tup [.int (aM t u l:Nat),.int (l.length:Nat),.int (lO l:Nat)]))∨((∀l,¬Ch (aR u) p L l)∧aY kvs (.inl (p:Int))=none))∧
 ∀k:Int,(k<lo∨(L:Int)<k)→aY kvs (.inl k)=none
theorem BW.look{H0 H:Hp}{w:Addr}{t u:List Nat}{L lo:Nat}(h:BW H0 H w t u L lo){p:Nat}(hp:lo≤p):(∃l c,Least (aR u) t u true p L l∧DGet H w (.int (p:Int)) (some (.ref c))∧H0 c=none∧H c=some (.tup [.int (aM t u l:Nat),.int (l.length:Nat),.int (lO l:Nat)]))∨((∀l,¬Ch (aR u) p L l)∧DGet H w (.int (p:Int)) none):=by
 obtain⟨kvs,h1,_,h2,h3⟩:=h
 have D:=DGet.k (k:=.inl (p:Int)) h1
 by_cases hL:p≤L
 ·rcases h2 p hp hL with⟨l,c,e1,e2,e3,e4⟩ | ⟨e1,e2⟩
  ·rw[e2] at D;exact .inl ⟨l,c,e1,D,e3,e4⟩
  ·rw[e2] at D;exact .inr ⟨e1,D⟩
 ·rw[h3 p (.inr (by lia))] at D
  exact .inr ⟨fun l hl=>hL hl.le,D⟩
theorem BW.same{H0 H H':Hp}{w:Addr}{t u:List Nat}{L lo:Nat}(h:BW H0 H w t u L lo)(s:Same H H'):BW H0 H' w t u L lo:=by
 obtain⟨kvs,h1,h0,h2,h3⟩:=h
 refine⟨kvs,s _ _ h1,h0,fun p a b=>?_,h3⟩
 rcases h2 p a b with⟨l,c,e1,e2,e3,e4⟩ | e
 ·exact .inl ⟨l,c,e1,e2,e3,s _ _ e4⟩
 ·exact .inr e
theorem BW.skip{H0 H:Hp}{w:Addr}{t u:List Nat}{L p:Nat}(h:BW H0 H w t u L (p+1))(hn:∀l,¬Ch (aR u) p L l):BW H0 H w t u L p:=by
 obtain⟨kvs,h1,h0,h2,h3⟩:=h
 refine⟨kvs,h1,by lia,fun q a b=>?_,fun k hk=>h3 k (by lia)⟩
 by_cases e:q=p
 ·subst e;exact .inr ⟨hn,h3 q (.inl (by lia))⟩
 ·exact h2 q (by lia) b
theorem BW.put{H0 H:Hp}{w c:Addr}{t u:List Nat}{L p:Nat}{l:List Nat}(h:BW H0 H w t u L (p+1))(hpL:p≤L)(hL:L≤1000)(hl:Least (aR u) t u true p L l)(c0:H0 c=none)(hc:H c=some (.tup [.int (aM t u l:Nat),.int (l.length:Nat),.int (lO l:Nat)])):∃H',DPut H w (.int (p:Int)) (.ref c) H'∧BW H0 H' w t u L p∧∀b o,H b=some o→b≠w→H' b=some o:=by
 obtain⟨kvs,h1,h0,h2,h3⟩:=h
 refine⟨_,DPut.k (k:=.inl (p:Int)) h1 (ng (by lia)),⟨_,ag,?_,fun q a b=>?_,fun k hk=>?_⟩,fun b o e ne=>by rw[ap ne];exact e⟩
 ·have:=iu kvs (.inl (p:Int)) (.ref c)
  lia
 ·rw[nq]
  by_cases e:q=p
  ·subst e
   rw[if_pos rfl]
   refine .inl ⟨l,c,hl,rfl,c0,?_⟩
   rw[ap (cR hc h1 (fun z=>nomatch z))]
   exact hc
  ·rw[if_neg (fun z=>e (by have:=Sum.inl.inj z;lia))]
   rcases h2 q (by lia) b with⟨l',c',e1,e2,e3,e4⟩ | e'
   ·refine .inl ⟨l',c',e1,e2,e3,?_⟩
    rw[ap (cR e4 h1 (fun z=>nomatch z))]
    exact e4
   ·exact .inr e'
 ·rw[nq,if_neg (fun z=>by have:=Sum.inl.inj z;lia)]
  exact h3 k (by lia)
theorem Dn{k:Nat}{v:V}{j:Int}{σ:St}{H:Hp}{R:St→Hp→Prop}(e:v=.int j)(h:fM k (.int j) σ H R):fM k v σ H R:=by rw[e];exact h
abbrev mf:Stmt:=aH 32
def oX:Sp:=fun vs H Q _=>∃(a b:Addr) (t u:List Nat),vs=[.ref a,.ref b]∧H a=some (.lst (t.map sg))∧H b=some (.lst (u.map sg))∧Low u∧1≤u.length∧u.length≤t.length∧t.length≤900∧
 ∀(r:Addr) (H':Hp),H r=none→BW H H' r t u (t.length-u.length) 0→Same H H'→Q (.ref r) H'
theorem Df{ks:List Nat}{i:Nat}{x:V}(h:(aj ks)[i]?=some x):∃q,ks[i]?=some q∧x=.int (q:Int):=by
 unfold aj at h
 rw[List.map_map,List.getElem?_map] at h
 cases e:ks[i]? with
 | none=>rw[e] at h;cases h
 | some q=>rw[e] at h;exact⟨q,rfl,(Option.some.inj h).symm⟩
theorem Trips.same{isL:Bool}{H H':Hp}{cs:List Addr}{ks:List K3}(T:Trips isL H cs ks)(s:∀b xs,H b=some (.tup xs)→H' b=some (.tup xs))(s2:isL=true→∀b xs,H b=some (.lst xs)→(∃c k,c∈cs∧H c=some (.tup [.int k.1,.int k.2.1,.ref b])∧(k:K3)=k)→H' b=some (.lst xs)):Trips isL H' cs ks:=by
 refine⟨T.len,fun i c k hc hk=>?_⟩
 have h:=T.at_ i c k hc hk
 cases isL with
 | false=>
   obtain⟨d,e1,e2⟩:=h
   exact⟨d,e1,s _ _ e2⟩
 | true=>
   obtain⟨g,e1,e2⟩:=h
   exact⟨g,s _ _ e1,s2 rfl _ _ e2 ⟨c,k,List.mem_of_getElem? hc,e1,rfl⟩⟩
theorem Trips.nil{isL:Bool}{H:Hp}:Trips isL H [] []:=⟨rfl,fun i c k hc=>by simp at hc⟩
theorem Trips.snoc{isL:Bool}{H:Hp}{cs:List Addr}{ks:List K3}{c:Addr}{k:K3}(T:Trips isL H cs ks)(h:k6 isL H c k):Trips isL H (cs++[c]) (ks++[k]):=by
 refine⟨by simp[T.len],fun i c' k' hc hk=>?_⟩
 by_cases hi:i<cs.length
 ·rw[List.getElem?_append_left hi] at hc
  rw[List.getElem?_append_left (by rw[←T.len];exact hi)] at hk
  exact T.at_ i c' k' hc hk
 ·have e:i=cs.length:=by
   have:=(List.getElem?_eq_some_iff.mp hc).1
   rw[List.length_append,List.length_singleton] at this
   lia
  subst e
  rw[List.getElem?_append_right (Nat.le_refl _)] at hc
  rw[List.getElem?_append_right (by rw[T.len];exact Nat.le_refl _)] at hk
  simp at hc
  rw[T.len] at hk
  simp at hk
  subst hc hk
  exact h
theorem pE{α:Type}{l:List α}{j:Nat}{x:α}(h:l[j]?=some x):l.take (j+1)=l.take j++[x]:=by
 rw[List.take_add_one,h];rfl
section
variable{P:Program}{w:World}{K:PySem.W.Frag}{mg:Str→Option Value}{base:Heap}
theorem scBest:FnScope ["text","word","steps","last","best","place","wrong","ways","step","cost","many","behind"] ["text","word"] (al mf):=fsc_
theorem wR(M:Md K mg)(B:Bl mg)(F:FF K "best_ways" mf)(Fshifts:Fn P w K mg base ae "shifts" 5 ["word"] mB)(Fwrong_among_first:Fn P w K mg base ae "wrong_among_first" 1 ["text","word","place"] pZ):Fn P w K mg base ae "best_ways" 6 ["text","word"] oX:=by
 refine aP M F scBest (fun _ _ _ _ _ _=>aZ fun _ _=>rfl) (fun vs H Q E h=>?_) (fun f cdv A outer s H vs Q E hr h=>?_)
 ·obtain⟨a,b,t,u,rfl,_⟩:=h;rfl
 ·obtain⟨a,b,t,u,rfl,ha,hb,lu,u1,ut,tl,k⟩:=h
  refine⟨_,(ad (aA (i:=2) scBest.nd rfl (.inl rfl) (ai Fshifts hr ak (aa (pv 1) ac)))
   (ad (aA (i:=3) scBest.nd rfl (.inl rfl) (aq bE (aG B.len (pv 0)) (aG B.len (pv 1))))
   (ad (aA (i:=4) scBest.nd rfl (.inl rfl) (ED (vR (pv 3) (fV (aa (bh bO (ai Fwrong_among_first hr ak (aa (pv 0) (aa (pv 1) (aa (pv 3) ac)))) (gH ie af) (fun _ _=>rfl)) (aa af (aa (pv 3) ac)))) wY) rfl rfl (by simp) (by decide)))
   (ad (eB PassesOwn.never rfl (CT B.rev B.range (aa (pv 3) ac)) (aT (i:=5) scBest.nd rfl (.inl rfl))
   (ad (aA (i:=6) scBest.nd rfl (.inl rfl) (ai Fwrong_among_first hr ak (aa (pv 0) (aa (pv 1) (aa (pv 5) ac)))))
   (ad (aA (i:=7) scBest.nd rfl (.inl rfl) (aS ac))
   (ad (eB PassesOwn.never rfl (cq (pv 2)) (aT (i:=8) scBest.nd rfl (.inl rfl))
   (ah (aJ (aC (Ax (by exact hr)) (aq bv (pv 5) (pv 8)) (pv 4) (by with_unfolding_all rfl)) (ad (dO (fe (by exact cI hr) (pv 4) (aq bv (pv 5) (pv 8)) (fun _ _=>rfl)) (dG rfl (bo (aT (i:=9) scBest.nd rfl (.inl rfl)) (bo (aT (i:=10) scBest.nd rfl (.inl rfl)) (bo (aT (i:=11) scBest.nd rfl (.inl rfl)) dP)))))
   (ah (aU (cJ PySem.F.plainAttrs_list PySem.F.slot_list_append PySem.F.type_list_append iN (pv 7) (aa (fV (aa (aq bv (bh bO (pv 6) (pv 8) (fun _ _=>rfl)) (pv 9)) (aa (aq bv (pv 10) af) (aa (aq bv (pv 5) (pv 8)) ac)))) ac))))) aN)))
   (ah (aJ (pH (pv 7) (fun _=>rfl)) (ah (pd (by exact cI hr) (pv 4) (pv 5) (C1 rfl B.min hr (pv 7)) rfl)) aN))))))
   (ah (aw (pv 4))))))),?_⟩
  refine⟨_,rfl,b,u,rfl,hb,lu,u1,by lia,fun st H1 hst0 hst1 s1=>?_⟩
  refine⟨_,rfl,a,_,rfl,SqL.of (s1 _ _ ha),_,rfl,b,_,rfl,SqL.of (s1 _ _ hb),_,_,rfl,rfl,?_⟩
  obtain⟨L,hL⟩:∃L,L=t.length-u.length:=⟨_,rfl⟩
  have eL:(((t.map sg).length:Nat):Int)-(((u.map sg).length:Nat):Int)=(L:Int):=by rw[List.length_map,List.length_map];lia
  refine Dn (congrArg V.int eL) ?_
  rw[←hL] at k
  have hS:=kD u
  have sl:=tz u
  intro bw hbw
  have s2:=Same.upd (o:=.dK []) hbw
  refine⟨_,rfl,_,rfl,_,rfl,_,rfl,a,b,t,u,L,rfl,s2 _ _ (s1 _ _ ha),s2 _ _ (s1 _ _ hb),tl,by lia,fun wr H3 hwr0 hwr3 s3=>?_⟩
  have hla:bF (aj (cg t u L (u.length+1))) (-1)=some (.int (aX t u L u.length:Nat)):=by rw[nF,cG,oZ]
  refine⟨_,rfl,wr,_,_,_,rfl,rfl,SqL.of hwr3,hla,_,rfl,by show 3≤sizeLine;decide,fun g hg=>?_⟩
  have bwn:H bw=none:=s1.free hbw
  have hbw2:(L2.upd H1 bw (.dK [])) bw=some (.dK []):=ag
  have s4:=Same.upd (o:=.tup [V.int (aX t u L u.length:Nat),.int 1,.int (L:Int)]) hg
  have hg4:=ag (H:=H3) (a:=g) (o:=.tup [V.int (aX t u L u.length:Nat),.int 1,.int (L:Int)])
  have hbw4:=s4 _ _ (s3 _ _ hbw2)
  have gn:H g=none:=(s1.trans (s2.trans s3)).free hg
  have sH4:=(s1.trans (s2.trans s3)).trans s4
  have hst4:=s4 _ _ (s3 _ _ (s2 _ _ hst1))
  generalize L2.upd H3 g (.tup [V.int (aX t u L u.length:Nat),.int 1,.int (L:Int)])=H4 at s4 hg4 hbw4 sH4 hst4 ⊢
  refine⟨hbw4,[(.inl (L:Int),.ref g)],rfl,by show 1≤15;decide,?_⟩
  have emk:gJ [] [((.inl (L:Int):az),V.ref g)]=[(.inl (L:Int),V.ref g)]:=rfl
  rw[emk]
  have B0:BW H (L2.upd H4 bw (.dK [(.inl (L:Int),V.ref g)])) bw t u L L:=by
   refine⟨_,ag,by simp;lia,fun p h1 h2=>?_,fun kk hk=>?_⟩
   ·have e:p=L:=by lia
    subst e
    refine .inl ⟨[p],g,vT p hS,by rw[dD rfl],gn,?_⟩
    rw[ap (cR hg4 hbw4 (fun z=>nomatch z))]
    exact hg4
   ·rw[de (fun z=>by have:=Sum.inl.inj z;lia)];rfl
  have sH5:Same H (L2.upd H4 bw (.dK [(.inl (L:Int),V.ref g)])):=fun z o h=>by rw[ap (aK h bwn)];exact sH4 _ _ h
  have hst5:(L2.upd H4 bw (.dK [(.inl (L:Int),V.ref g)])) st=some (.lst (aj (aR u))):=by
   rw[ap (cR hst4 hbw4 (fun z=>nomatch z))];exact hst4
  generalize L2.upd H4 bw (.dK [(.inl (L:Int),V.ref g)])=H5 at B0 sH5 hst5 ⊢
  refine⟨_,rfl,L,rfl,Nat.lt_of_le_of_lt (show L≤900 by lia) (by decide),zO (n:=L) (fun i σ H6=>Same H H6∧H6 st=some (.lst (aj (aR u)))∧BW H H6 bw t u L (L-i)∧∃v5 v6 v7 v8 v9 v10 v11,σ=[some (.ref a),some (.ref b),some (.ref st),some (.int (L:Int)),some (.ref bw),v5,v6,v7,v8,v9,v10,v11]) ?_ ?_ ?_⟩
  ·exact⟨sH5,hst5,B0,_,_,_,_,_,_,_,rfl⟩
  ·rintro D2 i σ H6 nx hi ⟨s6,hst6,B6,v5,v6,v7,v8,v9,v10,v11,rfl⟩
   obtain⟨p,hp⟩:∃p,p=L-1-i:=⟨_,rfl⟩
   rw[show((L:Int)-1-(i:Int))=(p:Int) by lia]
   rw[show L-i=p+1 by lia] at B6
   refine⟨_,rfl,_,rfl,_,rfl,a,b,t,u,p,rfl,s6 _ _ ha,s6 _ _ hb,tl,by lia,fun wp H7 hwp0 hwp7 s7=>?_⟩
   have s67:=s6.trans s7
   have hst7:=s7 _ _ hst6
   have B7:=B6.same s7
   refine⟨Nat.zero_le _,fun wy hwy=>?_⟩
   have s8:=Same.upd (o:=.lst []) hwy
   have hwy8:=ag (H:=H7) (a:=wy) (o:=.lst [])
   have wyn:H wy=none:=s67.free hwy
   generalize L2.upd H7 wy (.lst [])=H8 at s8 hwy8 ⊢
   refine⟨_,rfl,st,rfl,⟨_,SqL.of (s8 _ _ hst7)⟩,yj (K:=K) (a:=st) (xs:=aj (aR u)) (fun j σ H9=>Same H7 H9∧∃(cs:List Addr) (ks:List K3),H9 wy=some (.lst (cs.map V.ref))∧Trips false H9 cs ks∧cs.length≤j∧(∀c∈cs,H c=none)∧
    (∀k∈ks,∃s∈aR u,∃l,Least (aR u) t u true (p+s) L l∧k=cX (aX t u p s+aM t u l) (l.length+1) [p+s])∧
    (∀s∈(aR u).take j,(∃l,Ch (aR u) (p+s) L l)→∃l,Least (aR u) t u true (p+s) L l∧cX (aX t u p s+aM t u l) (l.length+1) [p+s]∈ks)∧
    ∃v8 v9 v10 v11,σ=[some (.ref a),some (.ref b),some (.ref st),some (.int (L:Int)),some (.ref bw),some (.int (p:Int)),some (.ref wp),some (.ref wy),v8,v9,v10,v11]) ?_ ?_ ?_ ?_⟩
   ·exact⟨s8,[],[],hwy8,Trips.nil,Nat.le_refl _,(fun c hc=>by cases hc),(fun c hc=>by cases hc),(fun s hs=>by rw[List.take_zero] at hs;cases hs),_,_,_,_,rfl⟩
   ·rintro j σ H9 _ ⟨s9,_⟩
    exact SqL.of (s9 _ _ hst7)
   ·rintro D3 j x σ H9 nx3 hx ⟨s9,cs,ks,hwy9,T,cl,cn,A1,A2,v8,v9,v10,v11,rfl⟩
    obtain⟨s,hs,rfl⟩:=Df hx
    have hsm:=List.mem_of_getElem? hs
    have hjl:j<(aR u).length:=(List.getElem?_eq_some_iff.mp hs).1
    have B9:=B7.same s9
    have etk:=pE hs
    have sb:=hS s hsm
    have eps:(p:Int)+(s:Int)=((p+s:Nat):Int):=(Int.natCast_add p s).symm
    rcases B9.look (p:=p+s) (by lia) with⟨l,c,Ll,Dg,c0,hc9⟩ | ⟨no,Dg⟩
    ·rw[←eps] at Dg
     refine⟨_,rfl,_,rfl,_,_,rfl,rfl,_,rfl,bw,_,rfl,Dg,_,rfl,aE ?_⟩
     refine⟨_,rfl,_,rfl,_,rfl,_,_,rfl,rfl,bw,_,rfl,Dg,c,_,rfl,SqT.of hc9,rfl,_,_,rfl,_,_,rfl,_,_,rfl,rfl,?_⟩
     refine⟨_,rfl,.inl ⟨rfl,_,SqL.of hwy9⟩,_,rfl,_,rfl,wp,_,_,_,rfl,rfl,SqL.of (s9 _ _ hwp7),fh (Cu (show s<u.length+1 by lia)),_,rfl,_,_,rfl,rfl,_,rfl,_,_,rfl,rfl,_,rfl,_,rfl,_,_,rfl,rfl,by show 3≤sizeLine;decide,fun g hg=>?_⟩
     have s10:=Same.upd (o:=.tup [V.int ((aX t u p s:Nat)+(aM t u l:Nat)),.int ((l.length:Nat)+1),.int ((p:Int)+(s:Int))]) hg
     have hg10:=ag (H:=H9) (a:=g) (o:=.tup [V.int ((aX t u p s:Nat)+(aM t u l:Nat)),.int ((l.length:Nat)+1),.int ((p:Int)+(s:Int))])
     have hwy10:=s10 _ _ hwy9
     have gn:H g=none:=(s67.trans s9).free hg
     generalize L2.upd H9 g (.tup [V.int ((aX t u p s:Nat)+(aM t u l:Nat)),.int ((l.length:Nat)+1),.int ((p:Int)+(s:Int))])=H10 at s10 hg10 hwy10 ⊢
     refine⟨wy,_,_,rfl,rfl,hwy10,by rw[List.length_map];exact bD (by lia),nx3 _ _ ?_⟩
     have kp:∀z xs,H10 z=some (.tup xs)→(L2.upd H10 wy (.lst (cs.map V.ref++[V.ref g]))) z=some (.tup xs):=fun z xs h=>by rw[ap (cR h hwy10 (fun z=>nomatch z))];exact h
     refine⟨fun z o h=>?_,cs++[g],ks++[cX (aX t u p s+aM t u l) (l.length+1) [p+s]],?_,?_,by rw[List.length_append,List.length_singleton];lia,?_,?_,?_,_,_,_,_,rfl⟩
     ·rw[ap (aK h hwy)];exact s10 _ _ (s9 _ _ h)
     ·rw[ag,List.map_append];rfl
     ·refine Trips.snoc (Trips.same T (fun z xs h=>kp z xs (s10 _ _ h)) (fun z=>nomatch z)) ⟨((p+s:Nat):Int),rfl,kp _ _ ?_⟩
      rw[hg10]
      simp only[cX,Int.natCast_add]
      rfl
     ·intro c' hc'
      rcases List.mem_append.mp hc' with z | z
      ·exact cn c' z
      ·rw[List.mem_singleton.mp z];exact gn
     ·intro k hk
      rcases List.mem_append.mp hk with z | z
      ·exact A1 k z
      ·exact⟨s,hsm,l,Ll,List.mem_singleton.mp z⟩
     ·intro s' hs' ex
      rw[etk] at hs'
      rcases List.mem_append.mp hs' with z | z
      ·obtain⟨l',h1,h2⟩:=A2 s' z ex
       exact⟨l',h1,List.mem_append_left _ h2⟩
      ·rw[List.mem_singleton.mp z]
       exact⟨l,Ll,List.mem_append_right _ (List.mem_singleton.mpr rfl)⟩
    ·rw[←eps] at Dg
     refine⟨_,rfl,_,rfl,_,_,rfl,rfl,_,rfl,bw,_,rfl,Dg,_,rfl,ao (nx3 _ _ ?_)⟩
     refine⟨s9,cs,ks,hwy9,T,by lia,cn,A1,?_,_,_,_,_,rfl⟩
     intro s' hs' ex
     rw[etk] at hs'
     rcases List.mem_append.mp hs' with z | z
     ·exact A2 s' z ex
     ·rw[List.mem_singleton.mp z] at ex
      obtain⟨l,hl⟩:=ex
      exact absurd hl (no l)
   ·rintro σ H9 ⟨s9,cs,ks,hwy9,T,cl,cn,A1,A2,v8,v9,v10,v11,rfl⟩
    rw[aL,List.take_length] at A2
    have sH9:=s67.trans s9
    have hst9:=s9 _ _ hst7
    have B9:=B7.same s9
    cases cs with
    | nil=>
      refine⟨_,rfl,_,.inl ⟨_,SqL.of hwy9,rfl⟩,ao (nx _ _ ⟨sH9,hst9,?_,_,_,_,_,_,_,_,rfl⟩)⟩
      rw[show L-(i+1)=p by lia]
      refine B9.skip fun l hl=>?_
      have k0:ks=[]:=List.eq_nil_of_length_eq_zero (by rw[←T.len];rfl)
      cases hl with
      | one=>lia
      | @cons _ s _ l' h1 h2=>
        obtain⟨l'',_,hm⟩:=A2 s h1 ⟨l',h2⟩
        rw[k0] at hm
        cases hm
    | cons c0 cs'=>
      refine⟨_,rfl,_,.inl ⟨_,SqL.of hwy9,rfl⟩,aE ?_⟩
      refine⟨_,rfl,false,wy,c0::cs',ks,rfl,hwy9,T,by simp,fun q c kk hc hk hmin=>?_⟩
      obtain⟨s0,hs0,l0,L0,ek⟩:=A1 kk (List.mem_of_getElem? hk)
      obtain⟨d,ed,hc9⟩:=T.at_ q c kk hc hk
      subst ek
      have LL:Least (aR u) t u true p L (p::l0):=by
       refine ww (by lia) hs0 L0 fun s hs ex=>?_
       obtain⟨l,h1,h2⟩:=A2 s hs ex
       exact⟨l,h1,hmin _ h2⟩
      have ed':d=((p+s0:Nat):Int):=by
       have:[((p+s0:Nat):Int)]=[d]:=ed
       injection this with this _
       exact this.symm
      have hc9':H9 c=some (.tup [.int (aM t u (p::l0):Nat),.int ((p::l0).length:Nat),.int (lO (p::l0):Nat)]):=by
       rw[hc9,ed',hU L0.1,List.length_cons]
       obtain⟨r,er⟩:=L0.1.head
       subst er
       rfl
      obtain⟨H10,Dp,B10,k10⟩:=B9.put (by lia) (by lia) LL (cn c (List.mem_of_getElem? hc)) hc9'
      refine⟨_,rfl,_,rfl,bw,H10,rfl,Dp,nx _ _ ⟨fun z o h=>k10 _ _ (sH9 _ _ h) (aK h bwn),k10 _ _ hst9 ?_,?_,_,_,_,_,_,_,_,rfl⟩⟩
      ·obtain⟨kvs,h1,_⟩:=B9
       exact cR hst9 h1 (fun z=>nomatch z)
      ·rw[show L-(i+1)=p by lia];exact B10
  ·rintro σ H6 ⟨s6,hst6,B6,v5,v6,v7,v8,v9,v10,v11,rfl⟩
   rw[Nat.sub_self] at B6
   exact⟨_,rfl,k bw H6 bwn B6 s6⟩
end
theorem Ch.len_le{u S:List Nat}(hS:jY u S){p q:Nat}{l:List Nat}(h:Ch S p q l):l.length+p≤q+1:=by
 induction h with
 | one=>simp;lia
 | cons h1 h2 ih=>have:=(hS _ h1).1;rw[List.length_cons];lia
theorem Ch.le_all{S:List Nat}{p q:Nat}{l:List Nat}(h:Ch S p q l):∀x∈l,p≤x∧x≤q:=by
 induction h with
 | one p=>intro x hx;rw[List.mem_singleton.mp hx];exact⟨Nat.le_refl _,Nat.le_refl _⟩
 | @cons p s q l h1 h2 ih=>
   intro x hx
   rcases List.mem_cons.mp hx with e | e
   ·subst e;have:=h2.le;exact⟨Nat.le_refl _,by lia⟩
   ·have:=ih x e;exact⟨by lia,this.2⟩
structure Exs(K:PySem.W.Frag)(mg:Str→Option Value)(cCoverError cNoWord cNoSign cNoText cNoCover cNoChain cNoForm cNoNumber cNoneYet cTooMany:Addr):Prop where
 bCoverError:mg "CoverError"=some (.ref cCoverError)
 bNoWord:mg "NoWord"=some (.ref cNoWord)
 bNoSign:mg "NoSign"=some (.ref cNoSign)
 bNoText:mg "NoText"=some (.ref cNoText)
 bNoCover:mg "NoCover"=some (.ref cNoCover)
 bNoChain:mg "NoChain"=some (.ref cNoChain)
 bNoForm:mg "NoForm"=some (.ref cNoForm)
 bNoNumber:mg "NoNumber"=some (.ref cNoNumber)
 bNoneYet:mg "NoneYet"=some (.ref cNoneYet)
 bTooMany:mg "TooMany"=some (.ref cTooMany)
 nValueError:mg "ValueError"=none
 facts:excFacts K cCoverError [cNoWord,cNoSign,cNoText,cNoCover,cNoChain,cNoForm,cNoNumber,cNoneYet,cTooMany]=true
 nd:[cNoWord,cNoSign,cNoText,cNoCover,cNoChain,cNoForm,cNoNumber,cNoneYet,cTooMany].Nodup
theorem exs_mk{K:PySem.W.Frag}{mg:Str→Option Value}{c0 c1 c2 c3 c4 c5 c6 c7 c8 c9:Addr}(M:Md K mg)(a0:PySem.W.nsIn K mainGlobals "CoverError"=some (some (.ref c0)))(a1:PySem.W.nsIn K mainGlobals "NoWord"=some (some (.ref c1)))(a2:PySem.W.nsIn K mainGlobals "NoSign"=some (some (.ref c2)))(a3:PySem.W.nsIn K mainGlobals "NoText"=some (some (.ref c3)))(a4:PySem.W.nsIn K mainGlobals "NoCover"=some (some (.ref c4)))(a5:PySem.W.nsIn K mainGlobals "NoChain"=some (some (.ref c5)))(a6:PySem.W.nsIn K mainGlobals "NoForm"=some (some (.ref c6)))(a7:PySem.W.nsIn K mainGlobals "NoNumber"=some (some (.ref c7)))(a8:PySem.W.nsIn K mainGlobals "NoneYet"=some (some (.ref c8)))(a9:PySem.W.nsIn K mainGlobals "TooMany"=some (some (.ref c9)))(av:PySem.W.nsIn K mainGlobals "ValueError"=some none)(f:excFacts K c0 [c1,c2,c3,c4,c5,c6,c7,c8,c9]=true)(nd:[c1,c2,c3,c4,c5,c6,c7,c8,c9].Nodup):Exs K mg c0 c1 c2 c3 c4 c5 c6 c7 c8 c9:=
 ⟨M.ns _ _ a0,M.ns _ _ a1,M.ns _ _ a2,M.ns _ _ a3,M.ns _ _ a4,M.ns _ _ a5,M.ns _ _ a6,M.ns _ _ a7,M.ns _ _ a8,M.ns _ _ a9,M.ns _ _ av,f,nd⟩
abbrev jM:Stmt:=aH 16
abbrev ki:Stmt:=aH 33
theorem Least.tail{S t u:List Nat}{p q:Nat}{l:List Nat}(h:Least S t u true p q (p::l))(hl:l≠ []):∃s∈S,Least S t u true (p+s) q l:=by
 obtain⟨h1,h2⟩:=h
 cases h1 with
 | one=>exact absurd rfl hl
 | @cons _ s _ _ hs hc=>
   refine⟨s,hs,hc,fun l' h'=>?_⟩
   have:=h2 (p::l') (Ch.cons hs h')
   refine Bool.eq_false_iff.mpr fun z=>?_
   unfold ky at this z
   rw[if_pos rfl,if_pos rfl] at this z
   have z':=kyN_lt.mp z
   have hcons:aF (il (p::l')) (il (p::l))=aF (il l') (il l):=by
    show aF ((p:Int)::il l') ((p:Int)::il l)=_
    simp only[aF];rw[if_pos trivial]
   have yes:bp (cX (aM t u (p::l')) (p::l').length (p::l')) (cX (aM t u (p::l)) (p::l).length (p::l))=true:=by
    rw[kyN_lt,hU h',hU hc,hcons]
    simp only[List.length_cons]
    rcases z' with z' | ⟨z',y | ⟨y,y'⟩⟩
    ·exact .inl (by lia)
    ·exact .inr ⟨by lia,.inl (by lia)⟩
    ·exact .inr ⟨by lia,.inr ⟨by lia,y'⟩⟩
   rw[yes] at this
   cases this
def uv:Sp:=fun vs H Q _=>∃(a b:Addr) (t u:List Nat),vs=[.ref a,.ref b]∧H a=some (.lst (t.map sg))∧H b=some (.lst (u.map sg))∧Low t∧Low u∧1≤u.length∧u.length≤t.length∧Q .non H
def nY(cC:Addr):Sp:=fun vs H Q E=>∃(a b:Addr) (t u:List Nat),vs=[.ref a,.ref b]∧H a=some (.lst (t.map sg))∧H b=some (.lst (u.map sg))∧Low t∧Low u∧1≤u.length∧u.length≤t.length∧t.length≤900∧
 ((∀l,¬Ch (aR u) 0 (t.length-u.length) l)→∀H',Same H H'→E (.ref cC) none H')∧
 (∀l,Least (aR u) t u true 0 (t.length-u.length) l→∀(g c:Addr) (H':Hp),H g=none→H c=none→H' g=some (.tup [.int (aM t u l:Nat),.ref c])→H' c=some (.lst (aj l))→Same H H'→Q (.ref g) H')
section
variable{P:Program}{w:World}{K:PySem.W.Frag}{mg:Str→Option Value}{base:Heap}{cNoCover:Addr}
theorem ui:FnScope ["text","word"] ["text","word"] (al jM):=fsc_
theorem Dx(M:Md K mg)(B:Bl mg)(F:FF K "check_fits" jM)(Fcheck_signs:Fn P w K mg base ae "check_signs" 2 ["text"] fS)(Fcheck_word:Fn P w K mg base ae "check_word" 3 ["word"] eX):Fn P w K mg base ae "check_fits" 4 ["text","word"] uv:=by
 refine aP M F ui (fun _ _ _ _ _ _=>aZ fun _ _=>rfl) (fun vs H Q E h=>?_) (fun f cdv A outer s H vs Q E hr h=>?_)
 ·obtain⟨a,b,t,u,rfl,_⟩:=h;rfl
 ·obtain⟨a,b,t,u,rfl,ha,hb,lt,lu,u1,ut,k⟩:=h
  refine⟨_,(ad (aU (ai Fcheck_word hr ak (aa (pv 1) ac)))
   (ad (aU (ai Fcheck_signs hr ak (aa (pv 0) ac)))
   (ah (aJ (aC dZ (aG B.len (pv 0)) (aG B.len (pv 1)) (aB _)) (ah ia) aN)))),?_⟩
  refine⟨_,rfl,b,u,rfl,hb,lu,u1,?_⟩
  refine⟨_,rfl,a,t,rfl,ha,lt,?_⟩
  refine⟨_,rfl,a,_,rfl,SqL.of ha,_,rfl,b,_,rfl,SqL.of hb,_,_,rfl,rfl,_,rfl,?_⟩
  rw[decide_eq_false (by rw[List.length_map,List.length_map];lia)]
  exact ao k
theorem scFewW:FnScope ["text","word","best","chain","cost","many","behind"] ["text","word"] (al ki):=fsc_
theorem zV(M:Md K mg)(B:Bl mg)(F:FF K "fewest_wrong" ki)(ONoCover:Exc K mg "NoCover" cNoCover)(Fcheck_fits:Fn P w K mg base (au P w) "check_fits" 4 ["text","word"] uv)(Fbest_ways:Fn P w K mg base ae "best_ways" 6 ["text","word"] oX):Fn P w K mg base (au P w) "fewest_wrong" 7 ["text","word"] (nY cNoCover):=by
 refine bK M F scFewW (fun _ _ _ _ _ _=>aZ fun _ _=>rfl) (fun vs H Q E h=>?_) (fun f cdv A outer s H vs Q E hr h=>?_)
 ·obtain⟨a,b,t,u,rfl,_⟩:=h;rfl
 ·obtain⟨a,b,t,u,rfl,ha,hb,lt,lu,u1,ut,tl,k1,k2⟩:=h
  refine⟨_,(ad (aU (ai Fcheck_fits hr aV (aa (pv 0) (aa (pv 1) ac))))
   (ad (aA (i:=2) scFewW.nd rfl (.inl rfl) (ai Fbest_ways hr ak (aa (pv 0) (aa (pv 1) ac))))
   (ad (aJ (aC (tF (by exact hr)) af (pv 2) (by with_unfolding_all rfl)) (ah (eE ONoCover ar)) aN)
   (ad (aA (i:=3) scFewW.nd rfl (.inl rfl) (aS (aa af ac)))
   (ad (nV PassesOwn.leaving (aC dZ (bh bO (pv 3) (gH ie af) (fun _ _=>rfl)) (aq bE (aG B.len (pv 0)) (aG B.len (pv 1))) (aB _)) (ad (dO (fe (by exact cI hr) (pv 2) (bh bO (pv 3) (gH ie af) (fun _ _=>rfl)) (fun _ _=>rfl)) (dG rfl (bo (aT (i:=4) scFewW.nd rfl (.inl rfl)) (bo (aT (i:=5) scFewW.nd rfl (.inl rfl)) (bo (aT (i:=6) scFewW.nd rfl (.inl rfl)) dP)))))
   (ah (aU (cJ PySem.F.plainAttrs_list PySem.F.slot_list_append PySem.F.type_list_append iN (pv 3) (aa (pv 6) ac))))))
   (ah (aw (fV (aa (bh jF (fe (by exact cI hr) (pv 2) af (fun _ _=>rfl)) af (fun _ _=>rfl)) (aa (pv 3) ac)))))))))),?_⟩
  refine⟨_,rfl,_,rfl,a,b,t,u,rfl,ha,hb,lt,lu,u1,ut,?_⟩
  refine⟨_,rfl,_,rfl,a,b,t,u,rfl,ha,hb,lu,u1,ut,tl,fun r H1 hr0 B1 s1=>?_⟩
  obtain⟨L,hL⟩:∃L,L=t.length-u.length:=⟨_,rfl⟩
  rw[←hL] at k1 k2 B1
  have hS:=kD u
  rcases B1.look (p:=0) (Nat.le_refl _) with⟨l,c,Ll,Dg,c0,hc1⟩ | ⟨no,Dg⟩
  ·have Dg':DGet H1 r (.int 0) (some (.ref c)):=Dg
   refine⟨_,rfl,r,_,rfl,Dg',_,rfl,ao ?_⟩
   refine⟨by show 1≤sizeLine;decide,fun ch hch=>?_⟩
   have s2:=Same.upd (o:=.lst [V.int 0]) hch
   have hch2:=ag (H:=H1) (a:=ch) (o:=.lst [V.int 0])
   have chn:H ch=none:=s1.free hch
   generalize L2.upd H1 ch (.lst [V.int 0])=H2 at s2 hch2 ⊢
   have s12:=s1.trans s2
   refine⟨fun m σ H3=>∃(pre rest:List Nat) (p:Nat) (v4 v5 v6:Option V),m=rest.length∧l=pre++(p::rest)∧Least (aR u) t u true p L (p::rest)∧Same H1 H3∧H3 ch=some (.lst (aj (pre++[p])))∧σ=[some (.ref a),some (.ref b),some (.ref r),some (.ref ch),v4,v5,v6],⟨l.length-1,[],l.drop 1,0,none,none,none,by rw[List.length_drop],?_,?_,s2,hch2,rfl⟩,?_⟩
   ·obtain⟨r',e⟩:=Ll.1.head
    rw[e];rfl
   ·obtain⟨r',e⟩:=Ll.1.head
    have:0::l.drop 1=l:=by rw[e];rfl
    rw[this];exact Ll
   ·rintro m σ H3 ⟨pre,rest,p,v4,v5,v6,rfl,el,Lp,s3,hch3,rfl⟩
    have sH3:=s1.trans s3
    have hat:bF (aj (pre++[p])) (-1)=some (.int (p:Int)):=by rw[cG,oZ]
    refine⟨_,rfl,_,rfl,ch,_,_,_,rfl,rfl,SqL.of hch3,hat,_,rfl,a,_,rfl,SqL.of (sH3 _ _ ha),_,rfl,b,_,rfl,SqL.of (sH3 _ _ hb),_,_,rfl,rfl,_,_,rfl,rfl,_,rfl,?_⟩
    have pL:=Lp.1.le
    cases rest with
    | nil=>
      have e:p=L:=by
       obtain⟨r',e'⟩:=Lp.1.last
       cases r' with
       | nil=>injection e'
       | cons x xs=>injection e' with _ e';simp at e'
      rw[decide_eq_false (by rw[List.length_map,List.length_map];lia)]
      rcases(B1.same s3).look (p:=0) (Nat.le_refl _) with⟨l',c',Ll',Dg2,c0',hc3⟩ | ⟨no,_⟩
      ·have el':=Ll.uniq Ll'
       subst el'
       have Dg2':DGet H3 r (.int 0) (some (.ref c')):=Dg2
       refine ao ⟨_,rfl,r,_,rfl,Dg2',c',_,_,_,rfl,rfl,SqT.of hc3,fh (j:=0) rfl,_,rfl,by show 2≤sizeLine;decide,fun g hg=>?_⟩
       refine k2 l Ll g ch _ (sH3.free hg) chn ag ?_ (sH3.trans (Same.upd hg))
       rw[(Same.upd hg) _ _ hch3,el]
      ·exact absurd Ll.1 (no l)
    | cons q rest'=>
      obtain⟨s,hs,Lq⟩:=Lp.tail (by simp)
      have eq:p+s=q:=by
       obtain⟨r',e'⟩:=Lq.1.head
       injection e' with e' _
       exact e'.symm
      have qL:=Lq.1.le
      have s1':=(hS s hs).1
      rw[decide_eq_true (by rw[List.length_map,List.length_map];lia)]
      refine aE ⟨fun σ' H'=>∃m',m'<(q::rest').length∧∃(pre rest:List Nat) (p:Nat) (v4 v5 v6:Option V),m'=rest.length∧l=pre++(p::rest)∧Least (aR u) t u true p L (p::rest)∧Same H1 H'∧H' ch=some (.lst (aj (pre++[p])))∧σ'=[some (.ref a),some (.ref b),some (.ref r),some (.ref ch),v4,v5,v6],fun _ _ h=>h,?_⟩
      rcases(B1.same s3).look (p:=p) (Nat.zero_le _) with⟨l',c',Ll',Dg2,c0',hc3⟩ | ⟨no,_⟩
      ·have el':=Lp.uniq Ll'
       subst el'
       refine⟨_,rfl,_,rfl,_,rfl,ch,_,_,_,rfl,rfl,SqL.of hch3,hat,r,_,rfl,Dg2,c',_,rfl,SqT.of hc3,rfl,_,_,rfl,_,_,rfl,_,_,rfl,rfl,?_⟩
       have ll:=Ch.len_le hS Ll.1
       have hz:(aj (pre++[p])).length<sizeLine:=by
        rw[aL,List.length_append,List.length_singleton]
        have:pre.length≤l.length:=by rw[el,List.length_append];lia
        exact bD (by lia)
       refine⟨_,rfl,.inl ⟨rfl,_,SqL.of hch3⟩,_,rfl,ch,_,_,rfl,rfl,hch3,hz,rest'.length,by simp,pre++[p],rest',q,_,_,_,rfl,by rw[el,List.append_assoc];rfl,by rw[←eq] at Lq ⊢;exact Lq,fun z o h=>by rw[ap (aK h hch)];exact s3 _ _ h,?_,rfl⟩
       rw[ag,cG (pre++[p]) q]
       rfl
      ·exact absurd Lp.1 (no _)
  ·have Dg':DGet H1 r (.int 0) none:=Dg
   exact⟨_,rfl,r,_,rfl,Dg',_,rfl,aE ⟨rfl,k1 no H1 s1⟩⟩
end
def eF(m:Int):Int→List Int→Int
 | R,[]=>R
 | R,p::r=>if p>R then R else eF m (p+m) r
def cr(p:Int):Int:=if 0>p then 0 else p
def cZ(t u:List Nat)(p:Int):Int:=if(t.length:Int)<p+u.length then t.length else p+u.length
def iG(t u:List Nat)(p:Int):Bool:=decide ((t.drop (cr p).toNat).take ((cZ t u p).toNat-(cr p).toNat)=(u.drop (cr p-p).toNat).take ((cZ t u p-p).toNat-(cr p-p).toNat))
def fi(t u:List Nat)(lo:Int)(k:Nat):List Int:=((List.range k).map fun(i:Nat)=>lo+(i:Int)).filter (iG t u)
def jz(t u:List Nat)(lo hi:Int):Bool:=decide ((t.length:Int)≤eF u.length 0 (fi t u lo (hi+1-lo).toNat))
def g6(u:List Nat)(ahead:Bool):Int:=if ahead then 1-(u.length:Int) else 0
def jo(t u:List Nat)(behind:Bool):Int:=if behind then(t.length:Int)-1 else(t.length:Int)-u.length
abbrev ju:Stmt:=aH 40
abbrev pN:Stmt:=aH 41
abbrev nG:Stmt:=aH 42
abbrev lS:Stmt:=aH 44
abbrev lc:Stmt:=aH 45
abbrev jC:Stmt:=aH 46
def lm:Sp:=fun vs H Q _=>∃(a b:Addr) (t u:List Nat),vs=[.ref a,.ref b]∧H a=some (.lst (t.map sg))∧H b=some (.lst (u.map sg))∧Low t∧Low u∧1≤t.length∧1≤u.length∧Q .non H
def tO:Sp:=fun vs H Q _=>∃(a b:Addr) (t u:List Nat) (p:Int),vs=[.ref a,.ref b,.int p]∧H a=some (.lst (t.map sg))∧H b=some (.lst (u.map sg))∧Low t∧Low u∧1-(u.length:Int)≤p∧p<t.length∧
 ∀H',Same H H'→Q (.bl (iG t u p)) H'
def gN:Sp:=fun vs H Q _=>∃(a b:Addr) (t u:List Nat) (lo hi:Int),vs=[.ref a,.ref b,.int lo,.int hi]∧H a=some (.lst (t.map sg))∧H b=some (.lst (u.map sg))∧Low t∧Low u∧t.length≤900∧u.length≤900∧1-(u.length:Int)≤lo∧hi<t.length∧lo≤t.length∧ -900≤hi∧(hi+1-lo).toNat≤2000∧
 ∀(r:Addr) (H':Hp),H r=none→H' r=some (.lst ((fi t u lo (hi+1-lo).toNat).map V.int))→Same H H'→Q (.ref r) H'
def rJ:Sp:=fun vs H Q _=>∃(a:Addr) (ks:List Int) (m:Nat),vs=[.ref a,.int (m:Int)]∧H a=some (.lst (ks.map V.int))∧Q (.int (eF m 0 ks)) H
def gw:Sp:=fun vs H Q _=>∃(a b c:Addr) (t u:List Nat) (ks:List Int),vs=[.ref a,.ref b,.ref c]∧H a=some (.lst (t.map sg))∧H b=some (.lst (u.map sg))∧H c=some (.lst (ks.map V.int))∧Q (.bl (decide ((t.length:Int)≤eF u.length 0 ks))) H
def eU(ahead behind:Bool):Sp:=fun vs H Q _=>∃(a b:Addr) (t u:List Nat),vs=[.ref a,.ref b]∧H a=some (.lst (t.map sg))∧H b=some (.lst (u.map sg))∧Low t∧Low u∧1≤t.length∧1≤u.length∧t.length≤900∧u.length≤900∧
 ∀H',Same H H'→Q (.bl (jz t u (g6 u ahead) (jo t u behind))) H'
section
variable{P:Program}{w:World}{K:PySem.W.Frag}{mg:Str→Option Value}{base:Heap}
theorem tq:FnScope ["text","word"] ["text","word"] (al ju):=fsc_
theorem xW(M:Md K mg)(B:Bl mg)(F:FF K "check_both" ju)(Fcheck_signs:Fn P w K mg base ae "check_signs" 2 ["text"] fS)(Fcheck_word:Fn P w K mg base ae "check_word" 3 ["word"] eX)(Fcheck_some:Fn P w K mg base ae "check_some" 1 ["text"] jT):Fn P w K mg base ae "check_both" 4 ["text","word"] lm:=by
 refine aP M F tq (fun _ _ _ _ _ _=>aZ fun _ _=>rfl) (fun vs H Q E h=>?_) (fun f cdv A outer s H vs Q E hr h=>?_)
 ·obtain⟨a,b,t,u,rfl,_⟩:=h;rfl
 ·obtain⟨a,b,t,u,rfl,ha,hb,lt,lu,t1,u1,k⟩:=h
  refine⟨_,(ad (aU (ai Fcheck_word hr ak (aa (pv 1) ac)))
   (ad (aU (ai Fcheck_signs hr ak (aa (pv 0) ac)))
   (ah (aU (ai Fcheck_some hr ak (aa (pv 0) ac)))))),?_⟩
  exact⟨_,rfl,b,u,rfl,hb,lu,u1,_,rfl,a,t,rfl,ha,lt,_,rfl,a,t,rfl,ha,t1,k⟩
theorem scAgrees:FnScope ["text","word","place","begin","end"] ["text","word","place"] (al pN):=fsc_
theorem wk(M:Md K mg)(B:Bl mg)(F:FF K "agrees_at" pN):Fn P w K mg base ae "agrees_at" 1 ["text","word","place"] tO:=by
 refine aP M F scAgrees (fun _ _ _ _ _ _=>fW fun _ _ _=>rfl) (fun vs H Q E h=>?_) (fun f cdv A outer s H vs Q E hr h=>?_)
 ·obtain⟨a,b,t,u,p,rfl,_⟩:=h;rfl
 ·obtain⟨a,b,t,u,p,rfl,ha,hb,lt,lu,p1,p2,k⟩:=h
  refine⟨_,(ad (aA (i:=3) scAgrees.nd rfl (.inl rfl) (yo rfl B.max (pv 2) af))
   (ad (aA (i:=4) scAgrees.nd rfl (.inl rfl) (m8 rfl B.min (aq bv (pv 2) (aG B.len (pv 1))) (aG B.len (pv 0))))
   (ah (aw (eh (jh (by exact hr)) (bT bR (pv 0) (bH (pv 3)) (bH (pv 4))) (bT bR (pv 1) (bH (aq bE (pv 3) (pv 2))) (bH (aq bE (pv 4) (pv 2)))) (aB _)))))),?_⟩
  refine⟨_,rfl,_,_,rfl,rfl,?_⟩
  refine⟨_,rfl,_,rfl,b,_,rfl,SqL.of hb,_,_,rfl,rfl,_,rfl,a,_,rfl,SqL.of ha,_,_,rfl,rfl,?_⟩
  have b0:0≤cr p∧p≤cr p∧(cr p=0∨cr p=p):=by unfold cr;split <;> lia
  have e0:cZ t u p≤t.length∧cZ t u p≤p+u.length∧(cZ t u p=t.length∨cZ t u p=p+u.length):=by unfold cZ;split <;> lia
  have be:cr p≤cZ t u p:=by lia
  have ee:(if((t.map sg).length:Int)<p+((u.map sg).length:Int) then((t.map sg).length:Int) else p+((u.map sg).length:Int))=cZ t u p:=by
   rw[List.length_map,List.length_map];rfl
  rw[ee]
  refine⟨_,rfl,_,rfl,cr p,rfl,_,rfl,cZ t u p,rfl,a,_,rfl,SqL.of ha,fun l1 hl1=>?_⟩
  rw[dh,dC,m6 _ _ _ b0.1 be]
  have s1:=Same.upd (o:=.lst (((t.drop (cr p).toNat).take ((cZ t u p).toNat-(cr p).toNat)).map sg)) hl1
  refine⟨_,rfl,_,rfl,_,rfl,_,_,rfl,rfl,cr p-p,rfl,_,rfl,_,rfl,_,_,rfl,rfl,cZ t u p-p,rfl,b,_,rfl,SqL.of (s1 _ _ hb),fun l2 hl2=>?_⟩
  rw[dh,dC,m6 _ _ _ (by lia) (by lia)]
  have s2:=Same.upd (o:=.lst (((u.drop (cr p-p).toNat).take ((cZ t u p-p).toNat-(cr p-p).toNat)).map sg)) hl2
  exact⟨l1,l2,_,_,rfl,rfl,SqL.of (s2 _ _ ag),SqL.of ag,((lt.drop _).take _).cp,((lu.drop _).take _).cp,k _ (s1.trans s2)⟩
theorem w6(t u:List Nat)(lo:Int)(i:Nat):fi t u lo (i+1)=fi t u lo i++(if iG t u (lo+i)=true then [lo+(i:Int)] else []):=by
 unfold fi
 rw[List.range_succ,List.map_append,List.filter_append]
 congr 1
 by_cases h:iG t u (lo+i)=true <;> simp[h]
theorem zr(t u:List Nat)(lo:Int)(i:Nat):(fi t u lo i).length≤i:=by
 unfold fi
 have:=List.length_filter_le (iG t u) ((List.range i).map fun(i:Nat)=>lo+(i:Int))
 simpa using this
theorem yp:FnScope ["text","word","first","last"] ["text","word","first","last"] (al nG):=fsc_
theorem yS(M:Md K mg)(B:Bl mg)(F:FF K "agreeing_places" nG)(Fagrees_at:Fn P w K mg base ae "agrees_at" 1 ["text","word","place"] tO):Fn P w K mg base ae "agreeing_places" 2 ["text","word","first","last"] gN:=by
 refine aP M F yp (fun _ _ _ _ _ _=>iB fun _ _ _ _=>rfl) (fun vs H Q E h=>?_) (fun f cdv A outer s H vs Q E hr h=>?_)
 ·obtain⟨a,b,t,u,lo,hi,rfl,_⟩:=h;rfl
 ·obtain⟨a,b,t,u,lo,hi,rfl,ha,hb,lt,lu,tl,ul,l1,h1,l2,h2,hz,k⟩:=h
  refine⟨_,(ah (aw (ce ["text","word","first","last"] rfl (q9 (by rfl) B.range (aa (pv 2) (aa (aq bv (pv 3) af) ac))) (fun _=>by exact(fw (fY (ai Fagrees_at hr ak (aa (pv 0) (aa (pv 1) (aa (pv 4) ac))))))) (fun _=>by exact(pv 4))))),?_⟩
  refine⟨_,rfl,_,rfl,_,_,rfl,rfl,lo,hi+1,rfl,⟨by lia,by lia,by lia,by lia⟩,fun D hD cb=>?_⟩
  refine jp (lo:=lo) (n:=(hi+1-lo).toNat) (fun i ys H2=>ys=(fi t u lo i).map V.int∧Same H H2∧H2 D=some (.lst ys)) (ng (by lia)) ?_ ?_ ?_ ?_
  ·exact⟨rfl,Same.upd hD,ag⟩
  ·rintro i ys H2 ⟨rfl,_⟩
   rw[List.length_map];exact zr _ _ _ _
  ·rintro i ys H2 hi' ⟨rfl,s2,hD2⟩
   refine⟨_,rfl,_,rfl,_,rfl,a,b,t,u,lo+i,rfl,s2 _ _ ha,s2 _ _ hb,lt,lu,by lia,by lia,fun H3 s3=>⟨_,rfl,?_⟩⟩
   have hD3:=s3 _ _ hD2
   rw[w6]
   refine bN (fun hc=>?_) (fun hc=>?_)
   ·refine⟨_,rfl,hD3,?_,?_,ag⟩
    ·rw[if_pos hc,List.map_append];rfl
    ·intro b o e
     rw[ap (aK e hD)]
     exact s3 _ _ (s2 b o e)
   ·refine⟨?_,s2.trans s3,hD3⟩
    rw[if_neg hc,List.append_nil]
  ·rintro ys H2 ⟨rfl,s2,hD2⟩
   exact k D H2 hD hD2 s2
theorem scFirstBareI:FnScope ["places","many","reach","place"] ["places","many"] (al i7):=fsc_
theorem yr{ks:List Int}{i:Nat}{x:V}(h:(ks.map V.int)[i]?=some x):∃k,ks[i]?=some k∧x=V.int k:=by
 rw[List.getElem?_map] at h
 cases q:ks[i]? with
 | none=>rw[q] at h;cases h
 | some k=>rw[q] at h;exact⟨k,rfl,(Option.some.inj h).symm⟩
theorem vH(M:Md K mg)(B:Bl mg)(F:FF K "first_bare" i7):Fn P w K mg base ae "first_bare" 1 ["places","many"] rJ:=by
 refine aP M F scFirstBareI (fun _ _ _ _ _ _=>aZ fun _ _=>rfl) (fun vs H Q E h=>?_) (fun f cdv A outer s H vs Q E hr h=>?_)
 ·obtain⟨a,ks,m,rfl,_⟩:=h;rfl
 ·obtain⟨a,ks,m,rfl,ha,k⟩:=h
  refine⟨_,(ad (aA (i:=2) scFirstBareI.nd rfl (.inl rfl) af)
   (ad (eB PassesOwn.never rfl (cq (pv 0)) (aT (i:=3) scFirstBareI.nd rfl (.inl rfl))
   (ad (aJ (aC gM (pv 3) (pv 2) (aB _)) (ah (aw (pv 2))) aN)
   (ah (aA (i:=2) scFirstBareI.nd rfl (.inl rfl) (aq bv (pv 3) (pv 1))))))
   (ah (aw (pv 2))))),?_⟩
  refine⟨_,rfl,a,rfl,⟨_,SqL.of ha⟩,j7 (K:=K) (a:=a) (xs:=ks.map V.int) (fun i σ H2=>H2=H∧∃(R:Int) (v3:Option V),σ=[some (.ref a),some (.int (m:Int)),some (.int R),v3]∧eF m 0 ks=eF m R (ks.drop i)) ⟨rfl,0,none,rfl,rfl⟩ (fun i σ H2 _ h2=>by rw[h2.1];exact SqL.of ha) ?_ ?_⟩
  ·rintro i x σ H2 hx ⟨rfl,R,v3,rfl,e⟩
   obtain⟨p,hp,rfl⟩:=yr hx
   have ed:ks.drop i=p::ks.drop (i+1):=by
    obtain⟨h1,h2⟩:=List.getElem?_eq_some_iff.mp hp
    rw[List.drop_eq_getElem_cons h1,h2]
   rw[ed] at e
   refine⟨_,rfl,_,rfl,_,_,rfl,rfl,_,rfl,?_⟩
   refine bN (fun hc=>?_) (fun hc=>?_)
   ·have hc':p>R:=of_decide_eq_true hc
    refine⟨_,rfl,?_⟩
    have:eF m 0 ks=R:=by rw[e];simp only[eF];rw[if_pos hc']
    rw[this] at k
    exact k
   ·have hc':¬p>R:=kn hc
    refine⟨_,rfl,_,rfl,_,_,rfl,rfl,rfl,p+m,some (.int p),rfl,?_⟩
    rw[e];simp only[eF];rw[if_neg hc']
  ·rintro σ H2 ⟨rfl,R,v3,rfl,e⟩
   rw[List.length_map,List.drop_length] at e
   simp only[eF] at e
   rw[e] at k
   exact⟨_,rfl,k⟩
theorem y8:FnScope ["text","word","places"] ["text","word","places"] (al lS):=fsc_
theorem zX(M:Md K mg)(B:Bl mg)(F:FF K "leaves_none_bare" lS)(Ffirst_bare:Fn P w K mg base ae "first_bare" 1 ["places","many"] rJ):Fn P w K mg base ae "leaves_none_bare" 2 ["text","word","places"] gw:=by
 refine aP M F y8 (fun _ _ _ _ _ _=>fW fun _ _ _=>rfl) (fun vs H Q E h=>?_) (fun f cdv A outer s H vs Q E hr h=>?_)
 ·obtain⟨a,b,c,t,u,ks,rfl,_⟩:=h;rfl
 ·obtain⟨a,b,c,t,u,ks,rfl,ha,hb,hc,k⟩:=h
  refine⟨_,(ah (aw (eh rp (ai Ffirst_bare hr ak (aa (pv 2) (aa (aG B.len (pv 1)) ac))) (aG B.len (pv 0)) (aB _)))),?_⟩
  refine⟨_,rfl,_,rfl,b,_,rfl,SqL.of hb,c,ks,u.length,(by rw[List.length_map];rfl),hc,_,rfl,a,_,rfl,SqL.of ha,_,_,rfl,rfl,?_⟩
  rw[List.length_map]
  exact k
theorem t7:FnScope ["text","word"] ["text","word"] (al lc):=fsc_
theorem BR(M:Md K mg)(B:Bl mg)(F:FF K "rest_behind" lc)(Fcheck_both:Fn P w K mg base ae "check_both" 4 ["text","word"] lm)(Fleaves_none_bare:Fn P w K mg base ae "leaves_none_bare" 2 ["text","word","places"] gw)(Fagreeing_places:Fn P w K mg base ae "agreeing_places" 2 ["text","word","first","last"] gN):Fn P w K mg base ae "rest_behind" 5 ["text","word"] (eU false true):=by
 refine aP M F t7 (fun _ _ _ _ _ _=>aZ fun _ _=>rfl) (fun vs H Q E h=>?_) (fun f cdv A outer s H vs Q E hr h=>?_)
 ·obtain⟨a,b,t,u,rfl,_⟩:=h;rfl
 ·obtain⟨a,b,t,u,rfl,ha,hb,lt,lu,t1,u1,tl,ul,k⟩:=h
  refine⟨_,(ad (aU (ai Fcheck_both hr ak (aa (pv 0) (aa (pv 1) ac))))
   (ah (aw (ai Fleaves_none_bare hr ak (aa (pv 0) (aa (pv 1) (aa (ai Fagreeing_places hr ak (aa (pv 0) (aa (pv 1) (aa af (aa (aq bE (aG B.len (pv 0)) af) ac))))) ac))))))),?_⟩
  refine⟨_,rfl,_,rfl,a,b,t,u,rfl,ha,hb,lt,lu,t1,u1,?_⟩
  refine⟨_,rfl,_,rfl,_,rfl,_,rfl,_,rfl,a,_,rfl,SqL.of ha,_,_,rfl,rfl,a,b,t,u,0,(t.length:Int)-1,(by rw[List.length_map];rfl),ha,hb,lt,lu,tl,ul,by lia,by lia,by lia,by lia,by lia,fun r H' hr0 hr1 s1=>?_⟩
  exact⟨a,b,r,t,u,_,rfl,s1 _ _ ha,s1 _ _ hb,hr1,k H' s1⟩
theorem tm:FnScope ["text","word"] ["text","word"] (al jC):=fsc_
theorem DW(M:Md K mg)(B:Bl mg)(F:FF K "rest_ahead" jC)(Fcheck_both:Fn P w K mg base ae "check_both" 4 ["text","word"] lm)(Fleaves_none_bare:Fn P w K mg base ae "leaves_none_bare" 2 ["text","word","places"] gw)(Fagreeing_places:Fn P w K mg base ae "agreeing_places" 2 ["text","word","first","last"] gN):Fn P w K mg base ae "rest_ahead" 5 ["text","word"] (eU true false):=by
 refine aP M F tm (fun _ _ _ _ _ _=>aZ fun _ _=>rfl) (fun vs H Q E h=>?_) (fun f cdv A outer s H vs Q E hr h=>?_)
 ·obtain⟨a,b,t,u,rfl,_⟩:=h;rfl
 ·obtain⟨a,b,t,u,rfl,ha,hb,lt,lu,t1,u1,tl,ul,k⟩:=h
  refine⟨_,(ad (aU (ai Fcheck_both hr ak (aa (pv 0) (aa (pv 1) ac))))
   (ah (aw (ai Fleaves_none_bare hr ak (aa (pv 0) (aa (pv 1) (aa (ai Fagreeing_places hr ak (aa (pv 0) (aa (pv 1) (aa (aq bE af (aG B.len (pv 1))) (aa (aq bE (aG B.len (pv 0)) (aG B.len (pv 1))) ac))))) ac))))))),?_⟩
  refine⟨_,rfl,_,rfl,a,b,t,u,rfl,ha,hb,lt,lu,t1,u1,?_⟩
  refine⟨_,rfl,_,rfl,_,rfl,_,rfl,_,rfl,b,_,rfl,SqL.of hb,_,_,rfl,rfl,_,rfl,a,_,rfl,SqL.of ha,_,rfl,b,_,rfl,SqL.of hb,_,_,rfl,rfl,a,b,t,u,1-(u.length:Int),(t.length:Int)-u.length,(by rw[List.length_map,List.length_map];rfl),ha,hb,lt,lu,tl,ul,by lia,by lia,by lia,by lia,by lia,fun r H' hr0 hr1 s1=>?_⟩
  exact⟨a,b,r,t,u,_,rfl,s1 _ _ ha,s1 _ _ hb,hr1,k H' s1⟩
end
abbrev nu:Stmt:=aH 43
abbrev ln:Stmt:=aH 47
def nr:Sp:=fun vs H Q _=>∃(a b:Addr) (t u:List Nat),vs=[.ref a,.ref b]∧H a=some (.lst (t.map sg))∧H b=some (.lst (u.map sg))∧Low t∧Low u∧1≤t.length∧1≤u.length∧t.length≤900∧u.length≤900∧
 ∀(r:Addr) (H':Hp),H r=none→H' r=some (.lst ((fi t u (g6 u true) (jo t u true+1-g6 u true).toNat).map V.int))→Same H H'→Q (.ref r) H'
section
variable{P:Program}{w:World}{K:PySem.W.Frag}{mg:Str→Option Value}{base:Heap}
theorem AN:FnScope ["text","word"] ["text","word"] (al nu):=fsc_
theorem AW(M:Md K mg)(B:Bl mg)(F:FF K "places_with_rests" nu)(Fagreeing_places:Fn P w K mg base ae "agreeing_places" 2 ["text","word","first","last"] gN):Fn P w K mg base ae "places_with_rests" 3 ["text","word"] nr:=by
 refine aP M F AN (fun _ _ _ _ _ _=>aZ fun _ _=>rfl) (fun vs H Q E h=>?_) (fun f cdv A outer s H vs Q E hr h=>?_)
 ·obtain⟨a,b,t,u,rfl,_⟩:=h;rfl
 ·obtain⟨a,b,t,u,rfl,ha,hb,lt,lu,t1,u1,tl,ul,k⟩:=h
  refine⟨_,(ah (aw (ai Fagreeing_places hr ak (aa (pv 0) (aa (pv 1) (aa (aq bE af (aG B.len (pv 1))) (aa (aq bE (aG B.len (pv 0)) af) ac))))))),?_⟩
  refine⟨_,rfl,_,rfl,_,rfl,b,_,rfl,SqL.of hb,_,_,rfl,rfl,_,rfl,a,_,rfl,SqL.of ha,_,_,rfl,rfl,a,b,t,u,1-(u.length:Int),(t.length:Int)-1,(by rw[List.length_map,List.length_map];rfl),ha,hb,lt,lu,tl,ul,by lia,by lia,by lia,by lia,by lia,fun r H' hr0 hr1 s1=>?_⟩
  exact k r H' hr0 hr1 s1
theorem sZ:FnScope ["text","word"] ["text","word"] (al ln):=fsc_
theorem Aj(M:Md K mg)(B:Bl mg)(F:FF K "rest_both" ln)(Fcheck_both:Fn P w K mg base ae "check_both" 4 ["text","word"] lm)(Fleaves_none_bare:Fn P w K mg base ae "leaves_none_bare" 2 ["text","word","places"] gw)(Fplaces_with_rests:Fn P w K mg base ae "places_with_rests" 3 ["text","word"] nr):Fn P w K mg base ae "rest_both" 5 ["text","word"] (eU true true):=by
 refine aP M F sZ (fun _ _ _ _ _ _=>aZ fun _ _=>rfl) (fun vs H Q E h=>?_) (fun f cdv A outer s H vs Q E hr h=>?_)
 ·obtain⟨a,b,t,u,rfl,_⟩:=h;rfl
 ·obtain⟨a,b,t,u,rfl,ha,hb,lt,lu,t1,u1,tl,ul,k⟩:=h
  refine⟨_,(ad (aU (ai Fcheck_both hr ak (aa (pv 0) (aa (pv 1) ac))))
   (ah (aw (ai Fleaves_none_bare hr ak (aa (pv 0) (aa (pv 1) (aa (ai Fplaces_with_rests hr ak (aa (pv 0) (aa (pv 1) ac))) ac))))))),?_⟩
  refine⟨_,rfl,_,rfl,a,b,t,u,rfl,ha,hb,lt,lu,t1,u1,?_⟩
  refine⟨_,rfl,_,rfl,_,rfl,_,rfl,a,b,t,u,rfl,ha,hb,lt,lu,t1,u1,tl,ul,fun r H' hr0 hr1 s1=>?_⟩
  exact⟨a,b,r,t,u,_,rfl,s1 _ _ ha,s1 _ _ hb,hr1,k H' s1⟩
end
def Oc(w t:List Nat)(p:Nat):Prop:=∃a b,t=a++(w++b)∧a.length=p
def dJ(w:List Nat)(d:Nat):List Nat:=w.drop (w.length-d)
def gE(w:List Nat)(d:Nat):Prop:=1≤d∧d≤w.length∧w.drop d=w.take (w.length-d)
def Sg(w:List Nat)(d:Nat):Prop:=gE w d∧∀j,0<j→j<d→¬Oc w (w.take d++w) j
theorem Oc.le{w t:List Nat}{p:Nat}(h:Oc w t p):p+w.length≤t.length:=by
 obtain⟨a,b,rfl,rfl⟩:=h
 simp only[List.length_append];lia
theorem qI{w t:List Nat}{p:Nat}:Oc w t p↔p+w.length≤t.length∧(t.drop p).take w.length=w:=by
 constructor
 ·intro h
  refine⟨h.le,?_⟩
  obtain⟨a,b,rfl,rfl⟩:=h
  rw[List.drop_left,List.take_left]
 ·rintro⟨h1,h2⟩
  refine⟨t.take p,(t.drop p).drop w.length,?_,by rw[List.length_take];lia⟩
  have:=List.take_append_drop w.length (t.drop p)
  rw[h2] at this
  rw[this,List.take_append_drop]
theorem yO{w a t:List Nat}{p:Nat}:Oc w (a++t) (a.length+p)↔Oc w t p:=by
 constructor
 ·rintro⟨x,b,e,l⟩
  have hx:a <+:x:=by
   have:a <+:x++(w++b):=by rw[←e];exact List.prefix_append _ _
   exact List.prefix_of_prefix_length_le this (List.prefix_append _ _) (by lia)
  obtain⟨y,rfl⟩:=hx
  rw[List.append_assoc] at e
  refine⟨y,b,List.append_cancel_left e,?_⟩
  rw[List.length_append] at l;lia
 ·rintro⟨x,b,rfl,rfl⟩
  exact⟨a++x,b,by rw[List.append_assoc],by rw[List.length_append]⟩
theorem Oc.cut{w t z:List Nat}{p:Nat}(h:Oc w (t++z) p)(hl:p+w.length≤t.length):Oc w t p:=by
 rw[qI] at h ⊢
 refine⟨hl,?_⟩
 have e:=h.2
 rw[List.drop_append_of_le_length (by lia),List.take_append_of_le_length (by rw[List.length_drop];lia)] at e
 exact e
theorem qj{w:List Nat}{d:Nat}(h:gE w d):w.take d++w=w++dJ w d:=by
 obtain⟨_,_,h⟩:=h
 have e1:w=w.take d++w.take (w.length-d):=by rw[←h,List.take_append_drop]
 have e2:w.take (w.length-d)++dJ w d=w:=List.take_append_drop _ _
 calc w.take d++w=w.take d++(w.take (w.length-d)++dJ w d):=by rw[e2]
  _=(w.take d++w.take (w.length-d))++dJ w d:=by rw[List.append_assoc]
  _=w++dJ w d:=by rw[←e1]
def tx(w:List Nat):List Nat→List Nat
 | []=>w
 | d::ds=>w.take d++tx w ds
def cO(p:Nat):List Nat→List Nat
 | []=>[p]
 | d::ds=>p::cO (p+d) ds
theorem qZ{w:List Nat}:∀{ds:List Nat},(∀d∈ds,gE w d)→∃z,tx w ds=w++z
 | [],_=>⟨[],by simp[tx]⟩
 | d::ds,h=>by
   obtain⟨z,hz⟩:=qZ fun x hx=>h x (List.mem_cons_of_mem d hx)
   refine⟨dJ w d++z,?_⟩
   rw[tx,hz,←List.append_assoc,qj (h d List.mem_cons_self),List.append_assoc]
theorem qX:∀{ds:List Nat} {p x:Nat},x∈cO p ds→p≤x
 | [],p,x,h=>by rw[List.mem_singleton.mp h];exact Nat.le_refl _
 | d::ds,p,x,h=>by
   rcases List.mem_cons.mp h with e | e
   ·lia
   ·have:=qX e;lia
theorem qe:∀{ds:List Nat} {p:Nat},(∀d∈ds,1≤d)→(cO p ds).Pairwise (·< ·)
 | [],p,_=>by simp[cO]
 | d::ds,p,h=>by
   rw[cO,List.pairwise_cons]
   refine⟨fun x hx=>?_,qe fun x hx=>h x (List.mem_cons_of_mem _ hx)⟩
   have:=qX hx
   have:=h d List.mem_cons_self
   lia
theorem o8:∀{ds:List Nat} {p x:Nat},x∈cO p ds↔p≤x∧x-p∈cO 0 ds
 | [],p,x=>by simp only[cO,List.mem_singleton];lia
 | d::ds,p,x=>by
   simp only[cO,List.mem_cons]
   rw[o8 (p:=p+d) (x:=x),o8 (p:=0+d) (x:=x-p)]
   constructor
   ·rintro(h | ⟨h1,h2⟩)
    ·exact⟨by lia,.inl (by lia)⟩
    ·exact⟨by lia,.inr ⟨by lia,by rw[show x-p-(0+d)=x-(p+d) by lia];exact h2⟩⟩
   ·rintro⟨h1,h | ⟨h2,h3⟩⟩
    ·exact .inl (by lia)
    ·exact .inr ⟨by lia,by rw[show x-(p+d)=x-p-(0+d) by lia];exact h3⟩
theorem vc{w:List Nat}:∀{ds:List Nat},(∀d∈ds,Sg w d)→∀p,Oc w (tx w ds) p↔p∈cO 0 ds
 | [],_,p=>by
   simp only[tx,cO,List.mem_singleton]
   constructor
   ·intro h;have:=h.le;lia
   ·rintro rfl;exact⟨[],[],by simp,rfl⟩
 | d::ds,h,p=>by
   have hd:=h d List.mem_cons_self
   obtain⟨⟨d1,d2,d3⟩,d4⟩:=hd
   have ih:=vc fun x hx=>h x (List.mem_cons_of_mem d hx)
   have hl:(w.take d).length=d:=by rw[List.length_take];lia
   obtain⟨z,hz⟩:=qZ (w:=w) (ds:=ds) fun x hx=>(h x (List.mem_cons_of_mem d hx)).1
   rw[tx,cO,List.mem_cons,o8 (p:=0+d)]
   by_cases hp:d≤p
   ·have:Oc w (w.take d++tx w ds) p↔Oc w (tx w ds) (p-d):=by
     have:=yO (w:=w) (a:=w.take d) (t:=tx w ds) (p:=p-d)
     rw[hl,show d+(p-d)=p by lia] at this
     exact this
    rw[this,ih,Nat.zero_add]
    constructor
    ·intro q;exact .inr ⟨hp,q⟩
    ·rintro(q | q)
     ·lia
     ·exact q.2
   ·constructor
    ·intro q
     by_cases p0:p=0
     ·exact .inl p0
     ·exfalso
      rw[hz,←List.append_assoc] at q
      exact d4 p (by lia) (by lia) (q.cut (by rw[List.length_append,hl];lia))
    ·rintro(q | q)
     ·subst q
      rw[hz,←List.append_assoc,qj ⟨d1,d2,d3⟩]
      exact⟨[],dJ w d++z,by simp,rfl⟩
     ·lia
def cl(S:List Nat)(L:Nat):Nat→List Nat
 | 0=>List.replicate L 0++[1]
 | k+1=>cl S L k++[(S.map fun d=>(cl S L k).getD ((cl S L k).length-d) 0).sum]
theorem gq(S:List Nat)(L:Nat):∀k,(cl S L k).length=L+1+k
 | 0=>by simp[cl]
 | k+1=>by rw[cl,List.length_append,gq S L k];rfl
def cn(S:List Nat)(L n:Nat):Nat:=(cl S L n).getD n 0
theorem nZ{S:List Nat}{L k n:Nat}(h:n<L+1+k):∀j,(cl S L (k+j)).getD n 0=(cl S L k).getD n 0
 | 0=>rfl
 | j+1=>by
   rw[←Nat.add_assoc,cl,List.getD_eq_getElem?_getD,List.getElem?_append_left (by rw[gq];lia),←List.getD_eq_getElem?_getD]
   exact nZ h j
theorem iF{S:List Nat}{L k n:Nat}(h:n<L+1+k):(cl S L k).getD n 0=cn S L n:=by
 unfold cn
 rcases Nat.le_total k n with z | z
 ·have:=nZ (S:=S) h (n-k)
  rw[show k+(n-k)=n by lia] at this
  exact this.symm
 ·have:=nZ (S:=S) (L:=L) (k:=n) (n:=n) (by lia) (k-n)
  rw[show n+(k-n)=k by lia] at this
  exact this
theorem lK{S:List Nat}{L n:Nat}(h:n<L):cn S L n=0:=by
 rw[←iF (k:=0) (by lia),cl,List.getD_eq_getElem?_getD,List.getElem?_append_left (by rw[List.length_replicate];lia),List.getElem?_replicate,if_pos h]
 rfl
theorem mE{S:List Nat}{L:Nat}:cn S L L=1:=by
 rw[←iF (k:=0) (by lia),cl]
 simp[List.getD_eq_getElem?_getD]
theorem lQ{l:List Nat}{g h:Nat→Nat}(e:∀c∈l,g c=h c):(l.map g).sum=(l.map h).sum:=by rw[List.map_congr_left e]
theorem nA{S:List Nat}{L n:Nat}(hS:∀d∈S,1≤d)(h:L<n):cn S L n=(S.map fun d=>cn S L (n-d)).sum:=by
 obtain⟨k,rfl⟩:∃k,n=L+1+k:=⟨n-L-1,by lia⟩
 rw[←iF (k:=k+1) (by lia),cl,List.getD_eq_getElem?_getD,List.getElem?_append_right (by rw[gq];lia),gq,Nat.sub_self]
 show(S.map fun d=>(cl S L k).getD (L+1+k-d) 0).sum=_
 exact lQ fun d hd=>iF (by have:=hS d hd;lia)
theorem vV{S T:List Nat}{L:Nat}(hS:∀d∈S,1≤d)(p:S.Perm T):∀n,cn S L n=cn T L n:=by
 intro n
 induction n using Nat.strongRecOn with
 | ind n ih=>
   have hT:∀d∈T,1≤d:=fun d hd=>hS d (p.mem_iff.mpr hd)
   rcases Nat.lt_trichotomy n L with z | z | z
   ·rw[lK z,lK z]
   ·subst z;rw[mE,mE]
   ·rw[nA hS z,nA hT z,lQ (l:=S) (g:=fun d=>cn S L (n-d)) (h:=fun d=>cn T L (n-d)) fun d hd=>ih (n-d) (by have:=hS d hd;lia)]
    exact(p.map _).sum_nat
theorem tY:∀(m:Nat) (S:List Nat),S.Nodup→(∀d∈S,1≤d)→(S.map fun d=>if d≤m then 2 ^ (m-d) else 0).sum+1≤2 ^ m
 | 0,S,_,h1=>by
   have:(S.map fun d=>if d≤0 then 2 ^ (0-d) else 0).sum=(S.map fun _=>0).sum:=lQ fun d hd=>if_neg (by have:=h1 d hd;lia)
   rw[this]
   have:∀l:List Nat,(l.map fun _=>0).sum=0:=fun l=>by induction l <;> simp_all
   rw[this];simp
 | m+1,S,hn,h1=>by
   have key:∀l:List Nat,l.Nodup→(∀d∈l,1≤d)→(l.map fun d=>if d≤m+1 then 2 ^ (m+1-d) else 0).sum≤(if 1∈l then 2 ^ m else 0)+(((l.filter (·≠1)).map (·- 1)).map fun d=>if d≤m then 2 ^ (m-d) else 0).sum:=by
    intro l
    induction l with
    | nil=>intro _ _;simp
    | cons x r ih=>
      intro hn h1
      have hn':=(List.nodup_cons.mp hn)
      have ih':=ih hn'.2 fun d hd=>h1 d (List.mem_cons_of_mem _ hd)
      have x1:=h1 x List.mem_cons_self
      by_cases e:x=1
      ·subst e
       rw[if_neg hn'.1] at ih'
       rw[if_pos List.mem_cons_self,List.map_cons,List.sum_cons,if_pos (by lia),List.filter_cons_of_neg (by simp),show m+1-1=m by lia]
       lia
      ·have e1:(if 1∈x::r then 2 ^ m else 0)=(if 1∈r then 2 ^ m else 0):=by
        by_cases z:1∈r
        ·rw[if_pos z,if_pos (List.mem_cons_of_mem _ z)]
        ·rw[if_neg z,if_neg (fun q=>(List.mem_cons.mp q).elim (fun q=>e q.symm) z)]
       rw[e1,List.filter_cons_of_pos (by simpa using e),List.map_cons,List.sum_cons,List.map_cons,List.map_cons,List.sum_cons]
       have e2:(if x≤m+1 then 2 ^ (m+1-x) else 0)=(if x-1≤m then 2 ^ (m-(x-1)) else 0):=by
        by_cases z:x≤m+1
        ·rw[if_pos z,if_pos (by lia),show m+1-x=m-(x-1) by lia]
        ·rw[if_neg z,if_neg (by lia)]
       rw[e2];lia
   have k:=key S hn h1
   have ih:=tY m ((S.filter (·≠1)).map (·- 1)) ?_ ?_
   ·have:(if 1∈S then 2 ^ m else 0)≤2 ^ m:=by split <;> lia
    rw[Nat.pow_succ];lia
   ·have hf:(S.filter (·≠1)).Nodup:=hn.filter _
    rw[List.Nodup,List.pairwise_map]
    refine List.Pairwise.imp_of_mem ?_ hf
    intro a b ha hb hne z
    have:=h1 a (List.mem_filter.mp ha).1
    have:=h1 b (List.mem_filter.mp hb).1
    lia
   ·intro d hd
    obtain⟨a,ha,rfl⟩:=List.mem_map.mp hd
    have h2:=h1 a (List.mem_filter.mp ha).1
    have h3:a≠1:=by simpa using(List.mem_filter.mp ha).2
    lia
theorem yq{S:List Nat}{L:Nat}(hL:1≤L)(hS:∀d∈S,1≤d)(hn:S.Nodup):∀m,cn S L (L+m)≤2 ^ m:=by
 intro m
 induction m using Nat.strongRecOn with | ind m ih=>
  by_cases z:m=0
  ·subst z;rw[Nat.add_zero,mE];decide
  ·rw[nA hS (by lia)]
   have:(S.map fun d=>cn S L (L+m-d)).sum≤(S.map fun d=>if d≤m then 2 ^ (m-d) else 0).sum:=by
    have gen:∀l:List Nat,(∀d∈l,1≤d)→(l.map fun d=>cn S L (L+m-d)).sum≤(l.map fun d=>if d≤m then 2 ^ (m-d) else 0).sum:=by
     intro l
     induction l with
     | nil=>intro _;simp
     | cons x r ih2=>
       intro h1
       have x1:=h1 x List.mem_cons_self
       have:=ih2 fun d hd=>h1 d (List.mem_cons_of_mem _ hd)
       rw[List.map_cons,List.sum_cons,List.map_cons,List.sum_cons]
       have:cn S L (L+m-x)≤if x≤m then 2 ^ (m-x) else 0:=by
        by_cases q:x≤m
        ·rw[if_pos q,show L+m-x=L+(m-x) by lia];exact ih (m-x) (by lia)
        ·rw[if_neg q,lK (by lia)];exact Nat.le_refl _
       lia
    exact gen S hS
   have:=tY m S hn hS
   lia
def pre(S:List Nat)(d:Nat):List Nat:=S.takeWhile (·≠d)
def rk(S:List Nat)(L:Nat):List Nat→Nat
 | []=>0
 | d::ds=>((pre S d).map fun s=>cn S L (L+(d+ds.sum)-s)).sum+rk S L ds
section
variable{S:List Nat}{L:Nat}
end
section
variable{w S:List Nat}
def tT(w S:List Nat):Prop:=S.Pairwise fun a b=>aF (ba (dJ w b)) (ba (dJ w a))=false
end
theorem lies_oc{t u:List Nat}{p:Nat}:p∈aD t u↔Oc u t p:=by
 rw[qI]
 unfold aD
 rw[List.mem_filter]
 simp only[List.mem_range,decide_eq_true_eq]
 constructor
 ·rintro⟨h1,h2⟩;exact⟨by lia,h2⟩
 ·rintro⟨h1,h2⟩;exact⟨by lia,h2⟩
theorem qM:∀{a b:List Nat},a.Pairwise (·< ·)→b.Pairwise (·< ·)→(∀x,x∈a↔x∈b)→a=b
 | [],[],_,_,_=>rfl
 | [],y::b,_,_,h=>by have:=(h y).mpr List.mem_cons_self;cases this
 | x::a,[],_,_,h=>by have:=(h x).mp List.mem_cons_self;cases this
 | x::a,y::b,ha,hb,h=>by
   have ha':=List.pairwise_cons.mp ha
   have hb':=List.pairwise_cons.mp hb
   have e:x=y:=by
    rcases List.mem_cons.mp ((h x).mp List.mem_cons_self) with q | q
    ·exact q
    ·rcases List.mem_cons.mp ((h y).mpr List.mem_cons_self) with r | r
     ·exact r.symm
     ·have:=ha'.1 y r;have:=hb'.1 x q;lia
   subst e
   congr 1
   refine qM ha'.2 hb'.2 fun z=>?_
   have hz:=h z
   rw[List.mem_cons,List.mem_cons] at hz
   constructor
   ·intro q
    rcases hz.mp (.inr q) with r | r
    ·subst r;exact absurd (ha'.1 z q) (Nat.lt_irrefl _)
    ·exact r
   ·intro q
    rcases hz.mpr (.inr q) with r | r
    ·subst r;exact absurd (hb'.1 z q) (Nat.lt_irrefl _)
    ·exact r
theorem yI{u ds:List Nat}(h:∀d∈ds,Sg u d):aD (tx u ds) u=cO 0 ds:=
 qM (ja _ _) (qe fun d hd=>(h d hd).1.1) fun x=>by rw[lies_oc,vc h]
theorem mem_shifts{u:List Nat}{d:Nat}:d∈aR u↔gE u d:=by
 unfold aR gE
 rw[List.mem_filter,List.mem_map,decide_eq_true_eq]
 constructor
 ·rintro⟨⟨q,hq,rfl⟩,h⟩
  rw[List.mem_range] at hq
  exact⟨by lia,by lia,h⟩
 ·rintro⟨h1,h2,h3⟩
  exact⟨⟨d-1,by rw[List.mem_range];lia,by lia⟩,h3⟩
theorem tw{u:List Nat}{d:Nat}(h:gE u d):aD (u.take d++u) u=[0,d]↔Sg u d:=by
 have dl:(u.take d).length=d:=by rw[List.length_take];have:=h.2.1;lia
 constructor
 ·intro e
  refine⟨h,fun j j1 j2 hj=>?_⟩
  have:=lies_oc.mpr hj
  rw[e] at this
  simp at this;lia
 ·intro hs
  have:=yI (u:=u) (ds:=[d]) fun x hx=>by rw[List.mem_singleton.mp hx];exact hs
  rw[show tx u [d]=u.take d++u from rfl] at this
  rw[this];simp[cO]
def fG(u:List Nat):List Nat:=(aR u).filter fun d=>decide (aD (u.take d++u) u=[0,d])
theorem mem_singles{u:List Nat}{d:Nat}:d∈fG u↔Sg u d:=by
 unfold fG
 rw[List.mem_filter,mem_shifts,decide_eq_true_eq]
 constructor
 ·rintro⟨h1,h2⟩;exact(tw h1).mp h2
 ·intro h;exact⟨h.1,(tw h.1).mpr h⟩
theorem AC(u:List Nat):(fG u).Nodup:=by
 unfold fG aR
 refine List.Pairwise.filter _ (List.Pairwise.filter _ ?_)
 rw[List.pairwise_map]
 exact List.Pairwise.imp (fun h=>by lia) List.nodup_range
structure Stp(u S:List Nat):Prop where
 perm:S.Perm (fG u)
 key:tT u S
theorem Stp.mem{u S:List Nat}(h:Stp u S){d:Nat}:d∈S↔Sg u d:=h.perm.mem_iff.trans mem_singles
theorem Stp.one{u S:List Nat}(h:Stp u S):∀d∈S,1≤d:=fun d hd=>(h.mem.mp hd).1.1
theorem Stp.len{u S:List Nat}(h:Stp u S):S.length≤u.length:=by
 rw[h.perm.length_eq]
 refine Nat.le_trans (List.length_filter_le _ _) ?_
 refine Nat.le_trans (List.length_filter_le _ _) ?_
 simp
def fg(u:List Nat)(n:Nat):Nat:=cn (fG u) u.length n
theorem Stp.cn{u S:List Nat}(h:Stp u S)(n:Nat):cn S u.length n=fg u n:=vV h.one h.perm n
theorem CS{l:List Nat}{f:Nat→Bool}{i o:Nat}(h:l[i]?=some o):(l.take (i+1)).filter f=(l.take i).filter f++(if f o=true then [o] else []):=by
 rw[pE h,List.filter_append]
 congr 1
 by_cases hf:f o=true <;> simp[hf]
open PySem.Spec PyProof.Rows
structure FFC(K:PySem.W.Frag)(x:Str)(st:Stmt)(cc:Addr):Prop where
 ex:∃(f:Addr) (oc:Value) (od an:Option Addr) (osl:Array (Option Value)) (kV doc pm ct:Value),PySem.W.nsIn K mainGlobals x=some (some (.ref f))∧
  K.lookup f=some ⟨oc,od,.func (PySem.W.fnOf x x (cf st) (bG st) (al st) .none kV doc pm an (.ref cc) ct),osl⟩∧PySem.W.codeIn K (.ref cc) x=true∧PySem.W.keepIn K (.ref f)=true
theorem ffc_mk{K:PySem.W.Frag}{x:Str}{st:Stmt}{f cc:Addr}{oc:Value}{od an:Option Addr}{osl:Array (Option Value)}{kV doc pm ct:Value}(a:PySem.W.nsIn K mainGlobals x=some (some (.ref f)))(l:K.lookup f=some ⟨oc,od,.func (PySem.W.fnOf x x (cf st) (bG st) (al st) .none kV doc pm an (.ref cc) ct),osl⟩)(c:PySem.W.codeIn K (.ref cc) x=true)(k:PySem.W.keepIn K (.ref f)=true):FFC K x st cc:=⟨f,oc,od,an,osl,kV,doc,pm,ct,a,l,c,k⟩
theorem Cl{P:Program}{w:World}{K:PySem.W.Frag}{mg:Str→Option Value}{base:Heap}{x:Str}{st:Stmt}{N ps:List Str}{k:Nat}{sp:Sp}{cc:Addr}(M:Md K mg)(F:FFC K x st cc)(S:FnScope N ps (al st))(hbind:∀(kV doc pm:Value) (an:Option Addr) (cdv ct:Value) (us:List Value),us.length=ps.length→bindArgs (PySem.W.fnOf x x (cf st) (bG st) (al st) .none kV doc pm an cdv ct) ⟨us,[]⟩=pure (ps.zip us))(len:∀vs H Q E,sp vs H Q E→vs.length=ps.length)(hbody:∀(f:Addr) (A:Around) (outer:List Env) (s:Shared) (H:Hp) (vs:List V) (Q:VK) (E:XK),Room k (A.deeper (envOfC x (al st) s.heap.objs.size f (.ref cc)))→sp vs H Q E→∃t,PSs (bW ae P w K mg base N x (al st) f (.ref cc) A outer s H E).nox (bG st) t∧t {nx:=fun _ H'=>Q .non H',rt:=Q} (ck N vs) H):Fn P w K mg base ae x (k+1) ps sp:=by
 obtain⟨f,oc,od,an,osl,kV,doc,pm,ct,a,l,c,kk⟩:=F.ex
 have F1:=ir (st:=st) l c kk
 refine⟨f,_,jw l c S len (fun A outer s H vs Q E hr h=>?_),M.ns _ _ a,kk,F1.binds hbind,oc,od,osl,l⟩
 obtain⟨t,h1,q⟩:=hbody f A outer s H vs Q E hr h
 exact⟨t,h1.nox,q⟩
abbrev gY:Stmt:=aH 36
def AZ:Pos:=⟨125,29,125,65⟩
abbrev zT:Str:=(envOfC "single_steps" (al gY) 0 0 .none).qual++"<lambda>"
abbrev vh:Scope:={kind:=.function,names:=[(PySem.Str.ofString "step",.local),(PySem.Str.ofString "word",.free),(PySem.Str.ofString "len",.globalImplicit)],isGenerator:=false,isCoroutine:=false,more:=[]}
theorem Ee:LamSc "word" "step" vh:=⟨rfl,rfl,rfl,by decide+kernel,by decide+kernel,by decide+kernel,by decide+kernel⟩
abbrev yR(K:PySem.W.Frag):TE:=ue (uO K) (gf 0) (uW (gi (fk fun i j=>.int (i-j)) (sR K (gf 0)) (gf 1))) tU
abbrev TB(H:Hp)(pt:Addr):Prop:=Tab H pt AZ zT
theorem TB.ne{H:Hp}{pt a:Addr}{xs:List V}(h:TB H pt)(ha:H a=some (.lst xs)):a≠pt:=fun z=>by
 rw[z] at ha
 rcases h with t | ⟨c,t,_⟩ <;> (rw[ha] at t;cases t)
def nj(pt:Addr):Sp:=fun vs H Q _=>∃(a:Addr) (u:List Nat),vs=[.ref a]∧H a=some (.lst (u.map sg))∧Low u∧1≤u.length∧u.length≤400∧TB H pt∧
 ∀(r:Addr) (S:List Nat) (H':Hp),H r=none→H' r=some (.lst (aj S))→Stp u S→bz pt H H'→TB H' pt→Q (.ref r) H'
theorem Cp{S0:List Nat}{ms:List Int}(h:ms.Perm (S0.map fun(k:Nat)=>(k:Int))):∃S:List Nat,S.Perm S0∧ms=S.map fun(k:Nat)=>(k:Int):=by
 refine⟨ms.map Int.toNat,?_,?_⟩
 ·have:=h.map Int.toNat
  rw[List.map_map] at this
  have e:S0.map (Int.toNat ∘ fun(k:Nat)=>(k:Int))=S0:=by
   conv=>rhs;rw[←List.map_id S0]
   exact List.map_congr_left fun x _=>by simp
  rw[e] at this
  exact this
 ·rw[List.map_map]
  conv=>lhs;rw[←List.map_id ms]
  refine List.map_congr_left fun x hx=>?_
  obtain⟨k,_,rfl⟩:=List.mem_map.mp (h.mem_iff.mp hx)
  simp
theorem AA{a b:List Nat}(h:(a.map fun(k:Nat)=>(k:Int))=b.map fun(k:Nat)=>(k:Int)):a=b:=by
 have:=congrArg (List.map Int.toNat) h
 rw[List.map_map,List.map_map] at this
 have e:∀l:List Nat,l.map (Int.toNat ∘ fun(k:Nat)=>(k:Int))=l:=fun l=>by
  conv=>rhs;rw[←List.map_id l]
  exact List.map_congr_left fun x _=>by simp
 rw[e,e] at this
 exact this
section
variable{P:Program}{w:World}{K:PySem.W.Frag}{mg:Str→Option Value}{base:Heap}
theorem scSingle:FnScope ["word","steps"] ["word"] (al gY):=fsc_
theorem zF{cc pt:Addr}(M:Md K mg)(B:Bl mg)(nsorted:mg "sorted"=none)(C:PySem.W.CodeHd base cc pt)(hB:dH mg base)(F:FFC K "single_steps" gY cc)(Fshifts:Fn P w K mg base ae "shifts" 5 ["word"] mB)(Flies_at:Fn P w K mg base ae "lies_at" 4 ["text","word"] gS):Fn P w K mg base ae "single_steps" 6 ["word"] (nj pt):=by
 refine Cl M F scSingle (fun _ _ _ _ _ _=>br fun _=>rfl) (fun vs H Q E h=>?_) (fun f A outer s H vs Q E hr h=>?_)
 ·obtain⟨a,u,rfl,_⟩:=h;rfl
 ·obtain⟨a,u,rfl,ha,lu,u1,ul,T,k⟩:=h
  have hcl:∀cw,(bW ae P w K mg base ["word","steps"] "single_steps" (al gY) f (.ref cc) A outer s H E).nox.env.cells.lookup ("word":Str)=some cw→closureFor vh (bW ae P w K mg base ["word","steps"] "single_steps" (al gY) f (.ref cc) A outer s H E).nox.env=pure [(("word":Str),cw)]:=by
   intro cw e
   have e':some (s.heap.objs.size+1)=some cw:=e
   cases e'
   rfl
  refine⟨_,(ad (kG (i:=1) ["word","steps"] rfl scSingle.nd rfl (.inl rfl) (cq (ai Fshifts hr ak (aa (pv 0) ac))) (fun _=>by exact(fw (aC (tV (by exact hr)) (ai Flies_at hr ak (aa (aq dU (bT bR (pv 0) cm (bH (pv 2))) (pv 0)) (aa (pv 0) ac))) (aS (aa af (aa (pv 2) ac))) (aB _)))) (fun _=>by exact(pv 2)))
   (ah (aw (wU (iw:=0) (tb:=yR K) rfl nsorted hr rfl C hB Ee (by decide) rfl rfl hcl rfl (fun _ _ _ _ _ _=>rfl) (pv 1) (fun _ _ _ _ _ _ _=>(bT bR (pv 0) (bH (aq bE (aG B.len (pv 0)) (pv 1))) cm)))))),?_⟩
  have nap:=T.ne ha
  refine⟨_,rfl,a,u,rfl,ha,lu,u1,by lia,fun st H1 hst0 hst1 s1=>?_⟩
  refine⟨st,rfl,⟨_,SqL.of hst1⟩,fun D hD cb=>?_⟩
  have sl:=tz u
  refine eI (K:=K) (a:=st) (xs:=aj (aR u)) (fun i ys H2=>ys=aj (((aR u).take i).filter fun d=>decide (aD (u.take d++u) u=[0,d]))∧Same H1 H2∧H2 D=some (.lst ys)) (by rw[aL];exact bD (by lia)) ?_ ?_ ?_ ?_ ?_
  ·exact⟨rfl,Same.upd hD,ag⟩
  ·rintro i ys H2 ⟨rfl,_⟩
   rw[aL]
   exact Nat.le_trans (List.length_filter_le _ _) (by rw[List.length_take];lia)
  ·rintro i ys H2 _ ⟨_,s2,_⟩;exact SqL.of (s2 _ _ hst1)
  ·rintro i x ys H2 hx ⟨rfl,s2,hD2⟩
   obtain⟨d,hd,rfl⟩:=fq hx
   obtain⟨d1,d2,d3⟩:=mem_shifts.mp (List.mem_of_getElem? hd)
   have ha2:=s2 _ _ (s1 _ _ ha)
   refine⟨_,rfl,_,rfl,_,rfl,a,_,rfl,SqL.of ha2,fun q1 hq1=>?_⟩
   have e1:bA (u.map sg) none (some (d:Int))=(u.take d).map sg:=by
    rw[dh,dC,je _ _ (by lia),show((d:Nat):Int).toNat=d by lia]
   rw[e1]
   have s3:=Same.upd (o:=.lst ((u.take d).map sg)) hq1
   have hq3:=ag (H:=H2) (a:=q1) (o:=.lst ((u.take d).map sg))
   generalize L2.upd H2 q1 (.lst ((u.take d).map sg))=H3 at s3 hq3 ⊢
   refine⟨_,rfl,vo hq3 (s3 _ _ ha2) (by rw[List.length_take];lia) fun q2 hq2=>?_⟩
   have s4:=Same.upd (o:=.lst ((u.take d++u).map sg)) hq2
   have hq4:=ag (H:=H3) (a:=q2) (o:=.lst ((u.take d++u).map sg))
   generalize L2.upd H3 q2 (.lst ((u.take d++u).map sg))=H4 at s4 hq4 ⊢
   have s24:=s3.trans s4
   refine⟨_,rfl,q2,a,u.take d++u,u,rfl,hq4,s24 _ _ ha2,(lu.take _).app lu,lu,by rw[List.length_append,List.length_take];lia,by lia,u1,fun r5 H5 hr50 hr51 s5=>?_⟩
   refine⟨_,rfl,(by show 2≤sizeLine;decide),fun e0 he0=>?_⟩
   have s6:=Same.upd (o:=.lst [V.int 0,V.int (d:Int)]) he0
   have he6:=ag (H:=H5) (a:=e0) (o:=.lst [V.int 0,V.int (d:Int)])
   generalize L2.upd H5 e0 (.lst [V.int 0,V.int (d:Int)])=H6 at s6 he6 ⊢
   have s26:=s24.trans (s5.trans s6)
   refine⟨r5,e0,(aD (u.take d++u) u).map (fun(k:Nat)=>(k:Int)),[0,(d:Int)],rfl,rfl,SqL.of (s6 _ _ hr51),SqL.of he6,_,rfl,?_⟩
   have stp:=CS (f:=fun d=>decide (aD (u.take d++u) u=[0,d])) hd
   have hD6:=s26 _ _ hD2
   by_cases h1:aD (u.take d++u) u=[0,d]
   ·have h1':((aD (u.take d++u) u).map (fun(k:Nat)=>(k:Int))=[0,(d:Int)]):=by rw[h1];rfl
    rw[if_neg (by decide),decide_eq_true h1']
    refine aE ⟨_,rfl,hD6,?_,fun e o' z=>by rw[ap (aK z hD)];exact s26 _ _ (s2 _ _ z),ag⟩
    rw[stp,if_pos (by simpa using h1),cG]
   ·have h1':¬((aD (u.take d++u) u).map (fun(k:Nat)=>(k:Int))=[0,(d:Int)]):=fun z=>h1 (AA z)
    rw[if_neg (by decide),decide_eq_false h1']
    refine ao ⟨?_,s2.trans s26,hD6⟩
    rw[stp,if_neg (by simpa using h1),List.append_nil]
  ·rintro ys H2 ⟨rfl,s2,hD2⟩
   rw[aL,List.take_length] at hD2
   have nD:H D=none:=s1.free hD
   have T2:TB H2 pt:=Tab.same (Tab.same T s1) s2
   refine⟨_,rfl,D,(fG u).map fun(k:Nat)=>(k:Int),.ref a,fun n=>dJ u n.toNat,rfl,?_,?_,rfl,T2,fun n hn H3 k3=>?_,fun r ms H3 pm pw k3 tb hr0 hr1=>?_⟩
   ·exact hD2
   ·rw[List.length_map];exact Nat.le_trans (List.length_filter_le _ _) (by lia)
   ·obtain⟨d,hd,rfl⟩:=List.mem_map.mp hn
    have hdl:=(mem_singles.mp hd).1.2.1
    have ha2:=s2 _ _ (s1 _ _ ha)
    have ha3:=k3 _ _ ha2 nap
    refine⟨_,rfl,_,rfl,a,_,rfl,SqL.of ha3,_,rfl,_,_,rfl,rfl,_,rfl,a,_,rfl,SqL.of ha3,fun q1 hq1=>?_⟩
    have e1:bA (u.map sg) (some (((u.map sg).length:Nat)-(d:Int))) none=(dJ u d).map sg:=by
     rw[List.length_map,show((u.length:Int)-(d:Int))=((u.length-d:Nat):Int) by lia,mX (by lia)];rfl
    rw[e1]
    exact⟨q1,rfl,ag,Same.upd hq1⟩
   ·obtain⟨S,pS,rfl⟩:=Cp pm
    refine k r S H3 ((s1.trans s2).free hr0) hr1 ⟨pS,?_⟩ (fun c o h n=>k3 _ _ (s2 _ _ (s1 _ _ h)) n) (.inr tb)
    unfold tT
    rw[List.pairwise_map] at pw
    exact pw
end
end Ov
namespace Ov
open PySem L2
abbrev pT:Stmt:=aH 37
def mO:Sp:=fun vs H Q _=>∃(a b:Addr) (u S:List Nat) (n:Nat),vs=[.ref a,.ref b,.int (n:Int)]∧H a=some (.lst (u.map sg))∧H b=some (.lst (aj S))∧1≤u.length∧u.length≤400∧S.length≤400∧n≤300∧(∀d∈S,1≤d∧d≤u.length)∧
 ∀(r:Addr) (k:Nat) (H':Hp),H r=none→H' r=some (.lst (aj (cl S u.length k)))→n<u.length+1+k→Same H H'→Q (.ref r) H'
theorem t9{l:List Nat}{j:Nat}(h:j<l.length):bF (aj l) (j:Int)=some (.int ((l.getD j 0:Nat):Int)):=by
 refine fh ?_
 unfold aj
 rw[List.map_map,List.getElem?_map,List.getD_eq_getElem?_getD]
 simp[h]
theorem Ab(l:List Nat):(l.map fun(k:Nat)=>(k:Int)).sum=((l.sum:Nat):Int):=by
 induction l with
 | nil=>rfl
 | cons x r ih=>rw[List.map_cons,List.sum_cons,ih,List.sum_cons];lia
theorem CM{l:List Nat}{f:Nat→Nat}{i o:Nat}(h:l[i]?=some o):(l.take (i+1)).map f=(l.take i).map f++[f o]:=by
 rw[pE h,List.map_append];rfl
section
variable{P:Program}{w:World}{K:PySem.W.Frag}{mg:Str→Option Value}{base:Heap}
theorem scCounts:FnScope ["word","steps","length","counts"] ["word","steps","length"] (al pT):=fsc_
theorem Dj(M:Md K mg)(B:Bl mg)(F:FF K "counts_by_length" pT):Fn P w K mg base ae "counts_by_length" 1 ["word","steps","length"] mO:=by
 refine aP M F scCounts (fun _ _ _ _ _ _=>fW fun _ _ _=>rfl) (fun vs H Q E h=>?_) (fun f cdv A outer s H vs Q E hr h=>?_)
 ·obtain⟨a,b,u,S,n,rfl,_⟩:=h;rfl
 ·obtain⟨a,b,u,S,n,rfl,ha,hb,u1,ul,sl,nl,hS,k⟩:=h
  refine⟨_,(ad (aA (i:=3) scCounts.nd rfl (.inr rfl) (aq dU (ce ["word","steps","length","counts"] rfl (cq (pv 0)) (fun _=>by exact di) (fun _=>by exact af)) (aS (aa af ac))))
   (ad (nV PassesOwn.never (aC fU (aG B.len (pv 3)) (pv 2) (aB _)) (ah (aU (cJ PySem.F.plainAttrs_list PySem.F.slot_list_append PySem.F.type_list_append iN (pv 3) (aa (EA rfl B.sum (ce ["word","steps","length","counts"] rfl (cq (pv 1)) (fun _=>by exact di) (fun _=>by exact(bh bO (pv 3) (aq bE (aG B.len (pv 3)) (pv 4)) (fun _ _=>rfl))))) ac)))))
   (ah (aw (pv 3))))),?_⟩
  refine⟨_,rfl,a,rfl,⟨_,SqL.of ha⟩,fun D hD cb=>?_⟩
  refine eI (K:=K) (a:=a) (xs:=u.map sg) (fun i ys H2=>ys=aj (List.replicate i 0)∧Same H H2∧H2 D=some (.lst ys)) (by rw[List.length_map];exact bD (by lia)) ?_ ?_ ?_ ?_ ?_
  ·exact⟨rfl,Same.upd hD,ag⟩
  ·rintro i ys H2 ⟨rfl,_⟩
   rw[aL,List.length_replicate];exact Nat.le_refl _
  ·rintro i ys H2 _ ⟨_,s2,_⟩;exact SqL.of (s2 _ _ ha)
  ·rintro i x ys H2 hx ⟨rfl,s2,hD2⟩
   refine dI ⟨hD2,?_,fun e o' z=>by rw[ap (aK z hD)];exact s2 _ _ z,ag⟩
   rw[List.replicate_succ',cG];rfl
  ·rintro ys H2 ⟨rfl,s2,hD2⟩
   rw[List.length_map] at hD2
   refine⟨(by show 1≤sizeLine;decide),fun e0 he0=>?_⟩
   have s3:=Same.upd (o:=.lst [V.int 1]) he0
   have he3:=ag (H:=H2) (a:=e0) (o:=.lst [V.int 1])
   generalize L2.upd H2 e0 (.lst [V.int 1])=H3 at s3 he3 ⊢
   refine⟨D,e0,_,_,rfl,rfl,s3 _ _ hD2,he3,by rw[aL,List.length_replicate];exact Nat.le_of_lt (bD (by show u.length+1≤1000;lia)),fun c hc=>?_⟩
   have e4:aj (List.replicate u.length 0)++[V.int 1]=aj (cl S u.length 0):=by rw[cl,cG];rfl
   rw[e4]
   have s4:=Same.upd (o:=.lst (aj (cl S u.length 0))) hc
   have hc4:=ag (H:=H3) (a:=c) (o:=.lst (aj (cl S u.length 0)))
   have cn:H c=none:=(s2.trans s3).free hc
   generalize L2.upd H3 c (.lst (aj (cl S u.length 0)))=H4 at s4 hc4 ⊢
   have s04:=s2.trans (s3.trans s4)
   refine⟨fun m σ H5=>∃k:Nat,m+k=n+1∧σ=[some (.ref a),some (.ref b),some (.int (n:Int)),some (.ref c)]∧H5 c=some (.lst (aj (cl S u.length k)))∧Same H H5,⟨n+1,0,rfl,rfl,hc4,s04⟩,?_⟩
   rintro m σ H5 ⟨k0,mk,rfl,hc5,s5⟩
   refine⟨_,rfl,c,_,rfl,SqL.of hc5,_,rfl,_,_,rfl,rfl,_,rfl,?_⟩
   rw[aL,gq]
   refine bN (fun hcd=>?_) (fun hcd=>?_)
   ·have hcd':u.length+1+k0≤n:=by have:=of_decide_eq_true hcd;lia
    have cll:=gq S u.length k0
    refine⟨fun σ' H'=>∃m',m'<m∧∃k:Nat,m'+k=n+1∧σ'=[some (.ref a),some (.ref b),some (.int (n:Int)),some (.ref c)]∧H' c=some (.lst (aj (cl S u.length k)))∧Same H H',fun _ _ h=>h,?_⟩
    have hb5:=s5 _ _ hb
    refine⟨_,rfl,.inl ⟨rfl,_,SqL.of hc5⟩,_,rfl,b,rfl,⟨_,SqL.of hb5⟩,fun G hG cb2=>?_⟩
    refine eI (K:=K) (a:=b) (xs:=aj S) (fun i ys H6=>ys=aj ((S.take i).map fun d=>(cl S u.length k0).getD ((cl S u.length k0).length-d) 0)∧Same H5 H6∧H6 G=some (.lst ys)) (by rw[aL];exact bD (by lia)) ?_ ?_ ?_ ?_ ?_
    ·exact⟨rfl,Same.upd hG,ag⟩
    ·rintro i ys H6 ⟨rfl,_⟩
     rw[aL,List.length_map,List.length_take];lia
    ·rintro i ys H6 _ ⟨_,s6,_⟩;exact SqL.of (s6 _ _ hb5)
    ·rintro i x ys H6 hx ⟨rfl,s6,hG6⟩
     obtain⟨d,hd,rfl⟩:=fq hx
     obtain⟨d1,d2⟩:=hS d (List.mem_of_getElem? hd)
     have hc6:=s6 _ _ hc5
     have hat:bF (aj (cl S u.length k0)) (((aj (cl S u.length k0)).length:Int)-(d:Int))=some (.int (((cl S u.length k0).getD ((cl S u.length k0).length-d) 0:Nat):Int)):=by
      rw[aL,show(((cl S u.length k0).length:Int)-(d:Int))=(((cl S u.length k0).length-d:Nat):Int) by lia]
      exact t9 (by lia)
     refine dI ⟨_,rfl,_,rfl,c,_,rfl,SqL.of hc6,_,rfl,_,_,rfl,rfl,c,_,_,_,rfl,rfl,SqL.of hc6,hat,hG6,?_,fun e o' z=>by rw[ap (aK z hG)];exact s6 _ _ z,ag⟩
     rw[CM hd,cG]
    ·rintro ys H6 ⟨rfl,s6,hG6⟩
     rw[aL,List.take_length] at hG6
     refine⟨G,_,rfl,hG6,c,_,_,rfl,rfl,s6 _ _ hc5,by rw[aL,cll];exact bD (by lia),m-1,by lia,k0+1,by lia,rfl,?_,?_⟩
     ·rw[ag,Ab,cl,cG]
     ·intro e o' z
      rw[ap (aK z cn)]
      exact s6 _ _ (s5 _ _ z)
   ·have hcd':¬(((u.length+1+k0:Nat):Int)≤(n:Int)):=fun z=>hcd (decide_eq_true z)
    exact⟨_,rfl,k c k0 H5 cn hc5 (by lia) s5⟩
end
abbrev kb:Stmt:=aH 17
def tN:Sp:=fun vs H Q _=>∃a lo hi:Int,vs=[.int a,.int lo,.int hi]∧lo≤a∧a≤hi∧Q .non H
section
variable{P:Program}{w:World}{K:PySem.W.Frag}{mg:Str→Option Value}{base:Heap}
theorem uG:FnScope ["number","least","most"] ["number","least","most"] (al kb):=fsc_
theorem vG(M:Md K mg)(B:Bl mg)(F:FF K "check_within" kb):Fn P w K mg base ae "check_within" 1 ["number","least","most"] tN:=by
 refine aP M F uG (fun _ _ _ _ _ _=>fW fun _ _ _=>rfl) (fun vs H Q E h=>?_) (fun f cdv A outer s H vs Q E hr h=>?_)
 ·obtain⟨a,lo,hi,rfl,_⟩:=h;rfl
 ·obtain⟨a,lo,hi,rfl,h1,h2,k⟩:=h
  refine⟨_,(ah (aJ (hZ (jV fU fU (pv 1) (pv 0) (pv 2))) (ah ia) aN)),?_⟩
  refine⟨_,rfl,_,rfl,_,_,rfl,rfl,_,rfl,?_⟩
  rw[decide_eq_true h1]
  refine aE ⟨_,rfl,_,_,rfl,rfl,_,rfl,?_⟩
  rw[decide_eq_true h2]
  exact ao k
end
abbrev kI:Stmt:=aH 38
def pK(pt:Addr):Sp:=fun vs H Q _=>∃(a:Addr) (u:List Nat) (n:Nat),vs=[.ref a,.int (n:Int)]∧H a=some (.lst (u.map sg))∧Low u∧1≤u.length∧u.length≤400∧1≤n∧n≤200∧TB H pt∧
 ∀H',bz pt H H'→TB H' pt→Q (.int ((fg u n:Nat):Int)) H'
theorem Stp.le{u S:List Nat}(h:Stp u S):∀d∈S,1≤d∧d≤u.length:=fun d hd=>⟨(h.mem.mp hd).1.1,(h.mem.mp hd).1.2.1⟩
theorem wD{u S:List Nat}(h:Stp u S){k n:Nat}(hn:n<u.length+1+k):bF (aj (cl S u.length k)) (n:Int)=some (.int ((fg u n:Nat):Int)):=by
 rw[t9 (by rw[gq];exact hn),iF hn,h.cn]
section
variable{P:Program}{w:World}{K:PySem.W.Frag}{mg:Str→Option Value}{base:Heap}
theorem qQ:FnScope ["word","length"] ["word","length"] (al kI):=fsc_
theorem Ad{pt:Addr}(M:Md K mg)(B:Bl mg){uM:Value}(gMOST_LENGTH:mg "MOST_LENGTH"=some uM)(rMOST_LENGTH:RelV (.int 200) uM)(F:FF K "count_covered" kI)(Fcheck_word:Fn P w K mg base ae "check_word" 3 ["word"] eX)(Fcheck_within:Fn P w K mg base ae "check_within" 1 ["number","least","most"] tN)(Fsingle_steps:Fn P w K mg base ae "single_steps" 6 ["word"] (nj pt))(Fcounts_by_length:Fn P w K mg base ae "counts_by_length" 1 ["word","steps","length"] mO):Fn P w K mg base ae "count_covered" 7 ["word","length"] (pK pt):=by
 refine aP M F qQ (fun _ _ _ _ _ _=>aZ fun _ _=>rfl) (fun vs H Q E h=>?_) (fun f cdv A outer s H vs Q E hr h=>?_)
 ·obtain⟨a,u,n,rfl,_⟩:=h;rfl
 ·obtain⟨a,u,n,rfl,ha,lu,u1,ul,n1,n2,T,k⟩:=h
  refine⟨_,(ad (aU (ai Fcheck_word hr ak (aa (pv 0) ac)))
   (ad (aU (ai Fcheck_within hr ak (aa (pv 1) (aa af (aa (gv (v:=.int 200) (by rfl) gMOST_LENGTH rMOST_LENGTH) ac)))))
   (ah (aw (bh bO (ai Fcounts_by_length hr ak (aa (pv 0) (aa (ai Fsingle_steps hr ak (aa (pv 0) ac)) (aa (pv 1) ac)))) (pv 1) (fun _ _=>rfl)))))),?_⟩
  have nap:=T.ne ha
  refine⟨_,rfl,a,u,rfl,ha,lu,u1,?_⟩
  refine⟨_,rfl,_,_,_,rfl,by lia,by lia,?_⟩
  refine⟨_,rfl,_,rfl,a,u,rfl,ha,lu,u1,ul,T,fun r S H1 hr0 hr1 st k1 T1=>?_⟩
  refine⟨_,rfl,a,r,u,S,n,rfl,k1 _ _ ha nap,hr1,u1,ul,by have:=st.len;lia,by lia,st.le,fun c kk H2 hc0 hc2 hn s2=>?_⟩
  refine⟨_,rfl,c,_,_,_,rfl,rfl,SqL.of hc2,wD st hn,k H2 (fun e o h n=>s2 _ _ (k1 _ _ h n)) (T1.same s2)⟩
end
abbrev oo:Stmt:=aH 26
def pc:Sp:=fun vs H Q _=>∃(a:Addr) (t:List Nat),vs=[.ref a]∧H a=some (.lst (t.map sg))∧Low t∧1≤t.length∧t.length≤900∧∀H',Same H H'→Q (.int (((bX t).headD 0:Nat):Int)) H'
def dF(cT:Addr):Sp:=fun vs H _ E=>∃a:Addr,vs=[.ref a]∧H a=some (.lst [])∧∀H',Same H H'→E (.ref cT) none H'
def bL(cT:Addr):Sp:=fun vs H _ E=>∃(a b:Addr) (u:List Nat),vs=[.ref a,.ref b]∧H a=some (.lst [])∧H b=some (.lst (u.map sg))∧Low u∧1≤u.length∧u.length≤900∧∀H',Same H H'→E (.ref cT) none H'
def oi(cT cC:Addr):Sp:=fun vs H _ E=>∃(a b:Addr) (t u:List Nat),vs=[.ref a,.ref b]∧H a=some (.lst (t.map sg))∧H b=some (.lst (u.map sg))∧Low t∧Low u∧t.length≤900∧u.length≤900∧1≤u.length∧bj t.length u.length (aD t u)<t.length∧∀H',Same H H'→E (.ref cC) none H'
def i8(cT:Addr):Sp:=fun vs H _ E=>∃(a b:Addr) (t u:List Nat),vs=[.ref a,.ref b]∧H a=some (.lst (t.map sg))∧H b=some (.lst (u.map sg))∧Low t∧Low u∧t.length<u.length∧u.length≤900∧∀H',Same H H'→E (.ref cT) none H'
def rA(cN:Addr):Sp:=fun vs H _ E=>∃a lo hi:Int,vs=[.int a,.int lo,.int hi]∧¬(lo≤a∧a≤hi)∧lo.natAbs<1000∧hi.natAbs<1000∧E (.ref cN) none H
def mS(cN:Addr):Sp:=fun vs H _ E=>∃(a:Addr) (u:List Nat) (n:Nat),vs=[.ref a,.int (n:Int)]∧H a=some (.lst (u.map sg))∧Low u∧1≤u.length∧¬(1≤n∧n≤200)∧∀H',Same H H'→E (.ref cN) none H'
section
variable{P:Program}{w:World}{K:PySem.W.Frag}{mg:Str→Option Value}{base:Heap}{cNoText cNoCover cNoNumber:Addr}
theorem wC(M:Md K mg)(B:Bl mg)(F:FF K "check_some" kM)(ONoText:Exc K mg "NoText" cNoText):Fn P w K mg base (au P w) "check_some" 1 ["text"] (dF cNoText):=by
 refine bK M F rP (fun _ _ _ _ _ _=>br fun _=>rfl) (fun vs H Q E h=>?_) (fun f cdv A outer s H vs Q E hr h=>?_)
 ·obtain⟨a,rfl,_⟩:=h;rfl
 ·obtain⟨a,rfl,ha,k⟩:=h
  refine⟨_,(ah (aJ (aC aW (aG B.len (pv 0)) af (aB _)) (ah (eE ONoText ar)) aN)),?_⟩
  exact⟨_,rfl,a,_,rfl,SqL.of ha,rfl,_,rfl,aE ⟨rfl,k _ (Same.refl _)⟩⟩
theorem Ai(M:Md K mg)(B:Bl mg)(F:FF K "covered" kg)(Flies_at:Fn P w K mg base ae "lies_at" 4 ["text","word"] gS)(Fcheck_some:Fn P w K mg base (au P w) "check_some" 1 ["text"] (dF cNoText))(Ffirst_bare:Fn P w K mg base ae "first_bare" 1 ["places","many"] pC):Fn P w K mg base (au P w) "covered" 5 ["text","word"] (bL cNoText):=by
 refine bK M F scCovered (fun _ _ _ _ _ _=>aZ fun _ _=>rfl) (fun vs H Q E h=>?_) (fun f cdv A outer s H vs Q E hr h=>?_)
 ·obtain⟨a,b,u,rfl,_⟩:=h;rfl
 ·obtain⟨a,b,u,rfl,ha,hb,lu,u1,ul,k⟩:=h
  refine⟨_,(ad (aA (i:=2) scCovered.nd rfl (.inl rfl) (ai Flies_at hr ak (aa (pv 0) (aa (pv 1) ac))))
   (ad (aU (ai Fcheck_some hr aV (aa (pv 0) ac)))
   (ad (aA (i:=3) scCovered.nd rfl (.inl rfl) (ai Ffirst_bare hr ak (aa (pv 2) (aa (aG B.len (pv 1)) ac))))
   (ad (aJ (aC dZ (pv 3) (aG B.len (pv 0)) (aB _)) (ah (aw (fV (aa ar (aa (pv 3) ac))))) aN)
   (ah (aw (fV (aa ar (aa (pv 2) ac))))))))),?_⟩
  refine⟨_,rfl,_,rfl,a,b,[],u,rfl,ha,hb,Low.nil,lu,by decide,ul,u1,fun r H1 _ _ s1=>?_⟩
  exact⟨_,rfl,a,rfl,s1 _ _ ha,fun H2 s2=>k _ (s1.trans s2)⟩
theorem zM(M:Md K mg)(B:Bl mg)(F:FF K "all_covers" kq)(Fborders:Fn P w K mg base ae "borders" 3 ["text"] kZ)(Fcheck_some:Fn P w K mg base (au P w) "check_some" 1 ["text"] (dF cNoText))(Fcovered:Fn P w K mg base ae "covered" 5 ["text","word"] gs):Fn P w K mg base (au P w) "all_covers" 6 ["text"] (dF cNoText):=by
 refine bK M F scAllCovers (fun _ _ _ _ _ _=>br fun _=>rfl) (fun vs H Q E h=>?_) (fun f cdv A outer s H vs Q E hr h=>?_)
 ·obtain⟨a,rfl,_⟩:=h;rfl
 ·obtain⟨a,rfl,ha,k⟩:=h
  refine⟨_,(ad (aA (i:=1) scAllCovers.nd rfl (.inl rfl) (aq dU (ai Fborders hr ak (aa (pv 0) ac)) (aS (aa (aG B.len (pv 0)) ac))))
   (ad (aU (ai Fcheck_some hr aV (aa (pv 0) ac)))
   (ah (aw (ce ["text","lengths"] rfl (cq (pv 1)) (fun _=>by exact(fw (PW.pt (dM (aC gM (pv 2) af (aB _)) (dX (aC aW (bh jF (ai Fcovered hr ak (aa (pv 0) (aa (bT bR (pv 0) cm (bH (pv 2))) ac))) af (fun _ _=>rfl)) ar (aB _))))))) (fun _=>by exact(pv 2))))))),?_⟩
  refine⟨_,rfl,a,[],rfl,ha,Low.nil,by decide,fun b1 H1 hb0 hb1 s1=>?_⟩
  refine⟨_,rfl,a,_,rfl,SqL.of (s1 _ _ ha),by show 1≤sizeLine;decide,fun b2 hb2=>?_⟩
  have s2:=s1.trans (Same.upd (o:=.lst [V.int ((List.length ([]:List V):Nat):Int)]) hb2)
  refine⟨b1,b2,_,_,rfl,rfl,(Same.upd hb2) _ _ hb1,ag,by show 0+1≤sizeLine;decide,fun b3 hb3=>?_⟩
  have s3:=s2.trans (Same.upd (o:=.lst (aj (ends [])++[V.int ((List.length ([]:List V):Nat):Int)])) hb3)
  exact⟨_,rfl,a,rfl,s3 _ _ ha,fun H4 s4=>k _ (s3.trans s4)⟩
theorem AB:FnScope ["text"] ["text"] (al oo):=fsc_
theorem xK(M:Md K mg)(B:Bl mg)(F:FF K "shortest_cover" oo)(Fall_covers:Fn P w K mg base (au P w) "all_covers" 6 ["text"] (fun vs H Q E=>kR vs H Q E∨dF cNoText vs H Q E)):Fn P w K mg base (au P w) "shortest_cover" 7 ["text"] (fun vs H Q E=>pc vs H Q E∨dF cNoText vs H Q E):=by
 refine bK M F AB (fun _ _ _ _ _ _=>br fun _=>rfl) (fun vs H Q E h=>?_) (fun f cdv A outer s H vs Q E hr h=>?_)
 ·rcases h with⟨a,t,rfl,_⟩ | ⟨a,rfl,_⟩ <;> rfl
 ·refine⟨_,(ah (aw (bh bO (ai Fall_covers hr aV (aa (pv 0) ac)) af (fun _ _=>rfl)))),?_⟩
  rcases h with⟨a,t,rfl,ha,lt,t1,tl,k⟩ | ⟨a,rfl,ha,k⟩
  ·refine⟨_,rfl,.inl ⟨a,t,rfl,ha,lt,t1,tl,fun r H1 _ hr1 s1=>?_⟩⟩
   obtain⟨x,r',e⟩:=vp t1
   rw[e] at hr1 k
   exact⟨r,_,_,_,rfl,rfl,SqL.of hr1,fh (j:=0) rfl,k _ s1⟩
  ·exact⟨_,rfl,.inr ⟨a,rfl,ha,k⟩⟩
theorem yh(M:Md K mg)(B:Bl mg)(F:FF K "fewest_layings" kY)(ONoCover:Exc K mg "NoCover" cNoCover)(Fcovered:Fn P w K mg base (au P w) "covered" 5 ["text","word"] (fun vs H Q E=>gs vs H Q E∨bL cNoText vs H Q E))(Fwithin_reach:Fn P w K mg base ae "within_reach" 1 ["places","place","many"] oH):Fn P w K mg base (au P w) "fewest_layings" 6 ["text","word"] (fun vs H Q E=>bL cNoText vs H Q E∨oi cNoText cNoCover vs H Q E):=by
 refine bK M F scFewest (fun _ _ _ _ _ _=>aZ fun _ _=>rfl) (fun vs H Q E h=>?_) (fun f cdv A outer s H vs Q E hr h=>?_)
 ·rcases h with⟨a,b,u,rfl,_⟩ | ⟨a,b,t,u,rfl,_⟩ <;> rfl
 ·refine⟨_,(ad (dO (ai Fcovered hr aV (aa (pv 0) (aa (pv 1) ac))) (dG rfl (bo (aT (i:=2) scFewest.nd rfl (.inl rfl)) (bo (aT (i:=3) scFewest.nd rfl (.inl rfl)) dP))))
   (ad (aJ (aC aW (pv 2) ar (aB _)) (ah (eE ONoCover ar)) aN)
   (ad (aA (i:=4) scFewest.nd rfl (.inr rfl) uC)
   (ad (eB PassesOwn.leaving rfl (mY B.rev (pv 3)) (aT (i:=5) scFewest.nd rfl (.inl rfl))
   (ad (kG (i:=6) ["text","word","kind","found","best","place","tails"] rfl scFewest.nd rfl (.inl rfl) (cq (ai Fwithin_reach hr ak (aa (pv 3) (aa (pv 5) (aa (aG B.len (pv 1)) ac))))) (fun _=>by exact di) (fun _=>by exact(fe (by exact cI hr) (pv 4) (pv 7) (fun _ _=>rfl))))
   (ah (pd (by exact cI hr) (pv 4) (pv 5) (aq dU (aS (aa (pv 5) ac)) (rZ rfl B.min B.len (pv 6) (aS ac))) rfl))))
   (ah (aw (fe (by exact cI hr) (pv 4) af (fun _ _=>rfl)))))))),?_⟩
  rcases h with⟨a,b,u,rfl,ha,hb,lu,u1,ul,k⟩ | ⟨a,b,t,u,rfl,ha,hb,lt,lu,tl,ul,u1,hlt,k⟩
  ·exact⟨_,rfl,_,rfl,.inr ⟨a,b,u,rfl,ha,hb,lu,u1,ul,k⟩⟩
  ·refine⟨_,rfl,_,rfl,.inl ⟨a,b,t,u,rfl,ha,hb,lt,lu,by lia,tl,ul,u1,fun r H1 _ s1 _ hr1=>?_,fun r q H1 _ _ _ e=>by lia⟩⟩
   refine⟨r,_,rfl,SqT.of hr1,rfl,_,_,rfl,_,_,rfl,rfl,?_⟩
   exact⟨_,rfl,rfl,_,rfl,aE ⟨rfl,k _ s1⟩⟩
theorem x8(M:Md K mg)(B:Bl mg)(F:FF K "check_fits" jM)(ONoText:Exc K mg "NoText" cNoText)(Fcheck_signs:Fn P w K mg base ae "check_signs" 2 ["text"] fS)(Fcheck_word:Fn P w K mg base ae "check_word" 3 ["word"] eX):Fn P w K mg base (au P w) "check_fits" 4 ["text","word"] (i8 cNoText):=by
 refine bK M F ui (fun _ _ _ _ _ _=>aZ fun _ _=>rfl) (fun vs H Q E h=>?_) (fun f cdv A outer s H vs Q E hr h=>?_)
 ·obtain⟨a,b,t,u,rfl,_⟩:=h;rfl
 ·obtain⟨a,b,t,u,rfl,ha,hb,lt,lu,hl,ul,k⟩:=h
  refine⟨_,(ad (aU (ai Fcheck_word hr ak (aa (pv 1) ac)))
   (ad (aU (ai Fcheck_signs hr ak (aa (pv 0) ac)))
   (ah (aJ (aC dZ (aG B.len (pv 0)) (aG B.len (pv 1)) (aB _)) (ah (eE ONoText ar)) aN)))),?_⟩
  refine⟨_,rfl,b,u,rfl,hb,lu,by lia,_,rfl,a,t,rfl,ha,lt,?_⟩
  refine⟨_,rfl,a,_,rfl,SqL.of ha,_,rfl,b,_,rfl,SqL.of hb,_,_,rfl,rfl,_,rfl,?_⟩
  rw[List.length_map,List.length_map,decide_eq_true (show(t.length:Int)<(u.length:Int) by lia)]
  exact aE ⟨rfl,k _ (Same.refl _)⟩
theorem yK(M:Md K mg)(B:Bl mg)(F:FF K "fewest_wrong" ki)(ONoCover:Exc K mg "NoCover" cNoCover)(Fcheck_fits:Fn P w K mg base (au P w) "check_fits" 4 ["text","word"] (i8 cNoText))(Fbest_ways:Fn P w K mg base ae "best_ways" 6 ["text","word"] oX):Fn P w K mg base (au P w) "fewest_wrong" 7 ["text","word"] (i8 cNoText):=by
 refine bK M F scFewW (fun _ _ _ _ _ _=>aZ fun _ _=>rfl) (fun vs H Q E h=>?_) (fun f cdv A outer s H vs Q E hr h=>?_)
 ·obtain⟨a,b,t,u,rfl,_⟩:=h;rfl
 ·obtain⟨a,b,t,u,rfl,ha,hb,lt,lu,hl,ul,k⟩:=h
  refine⟨_,(ad (aU (ai Fcheck_fits hr aV (aa (pv 0) (aa (pv 1) ac))))
   (ad (aA (i:=2) scFewW.nd rfl (.inl rfl) (ai Fbest_ways hr ak (aa (pv 0) (aa (pv 1) ac))))
   (ad (aJ (aC (tF (by exact hr)) af (pv 2) (by with_unfolding_all rfl)) (ah (eE ONoCover ar)) aN)
   (ad (aA (i:=3) scFewW.nd rfl (.inl rfl) (aS (aa af ac)))
   (ad (nV PassesOwn.leaving (aC dZ (bh bO (pv 3) (gH ie af) (fun _ _=>rfl)) (aq bE (aG B.len (pv 0)) (aG B.len (pv 1))) (aB _)) (ad (dO (fe (by exact cI hr) (pv 2) (bh bO (pv 3) (gH ie af) (fun _ _=>rfl)) (fun _ _=>rfl)) (dG rfl (bo (aT (i:=4) scFewW.nd rfl (.inl rfl)) (bo (aT (i:=5) scFewW.nd rfl (.inl rfl)) (bo (aT (i:=6) scFewW.nd rfl (.inl rfl)) dP)))))
   (ah (aU (cJ PySem.F.plainAttrs_list PySem.F.slot_list_append PySem.F.type_list_append iN (pv 3) (aa (pv 6) ac))))))
   (ah (aw (fV (aa (bh jF (fe (by exact cI hr) (pv 2) af (fun _ _=>rfl)) af (fun _ _=>rfl)) (aa (pv 3) ac)))))))))),?_⟩
  exact⟨_,rfl,_,rfl,a,b,t,u,rfl,ha,hb,lt,lu,hl,ul,k⟩
theorem yU(M:Md K mg)(B:Bl mg)(F:FF K "check_both" ju)(Fcheck_signs:Fn P w K mg base ae "check_signs" 2 ["text"] fS)(Fcheck_word:Fn P w K mg base ae "check_word" 3 ["word"] eX)(Fcheck_some:Fn P w K mg base (au P w) "check_some" 1 ["text"] (dF cNoText)):Fn P w K mg base (au P w) "check_both" 4 ["text","word"] (bL cNoText):=by
 refine bK M F tq (fun _ _ _ _ _ _=>aZ fun _ _=>rfl) (fun vs H Q E h=>?_) (fun f cdv A outer s H vs Q E hr h=>?_)
 ·obtain⟨a,b,u,rfl,_⟩:=h;rfl
 ·obtain⟨a,b,u,rfl,ha,hb,lu,u1,ul,k⟩:=h
  refine⟨_,(ad (aU (ai Fcheck_word hr ak (aa (pv 1) ac)))
   (ad (aU (ai Fcheck_signs hr ak (aa (pv 0) ac)))
   (ah (aU (ai Fcheck_some hr aV (aa (pv 0) ac)))))),?_⟩
  exact⟨_,rfl,b,u,rfl,hb,lu,u1,_,rfl,a,[],rfl,ha,Low.nil,_,rfl,a,rfl,ha,k⟩
theorem BY(M:Md K mg)(B:Bl mg)(F:FF K "rest_behind" lc)(Fcheck_both:Fn P w K mg base (au P w) "check_both" 4 ["text","word"] (bL cNoText))(Fleaves_none_bare:Fn P w K mg base ae "leaves_none_bare" 2 ["text","word","places"] gw)(Fagreeing_places:Fn P w K mg base ae "agreeing_places" 2 ["text","word","first","last"] gN):Fn P w K mg base (au P w) "rest_behind" 5 ["text","word"] (bL cNoText):=by
 refine bK M F t7 (fun _ _ _ _ _ _=>aZ fun _ _=>rfl) (fun vs H Q E h=>?_) (fun f cdv A outer s H vs Q E hr h=>?_)
 ·obtain⟨a,b,u,rfl,_⟩:=h;rfl
 ·refine⟨_,(ad (aU (ai Fcheck_both hr aV (aa (pv 0) (aa (pv 1) ac))))
   (ah (aw (ai Fleaves_none_bare hr ak (aa (pv 0) (aa (pv 1) (aa (ai Fagreeing_places hr ak (aa (pv 0) (aa (pv 1) (aa af (aa (aq bE (aG B.len (pv 0)) af) ac))))) ac))))))),?_⟩
  obtain⟨a,b,u,rfl,h⟩:=h
  exact⟨_,rfl,_,rfl,a,b,u,rfl,h⟩
theorem AS(M:Md K mg)(B:Bl mg)(F:FF K "rest_ahead" jC)(Fcheck_both:Fn P w K mg base (au P w) "check_both" 4 ["text","word"] (bL cNoText))(Fleaves_none_bare:Fn P w K mg base ae "leaves_none_bare" 2 ["text","word","places"] gw)(Fagreeing_places:Fn P w K mg base ae "agreeing_places" 2 ["text","word","first","last"] gN):Fn P w K mg base (au P w) "rest_ahead" 5 ["text","word"] (bL cNoText):=by
 refine bK M F tm (fun _ _ _ _ _ _=>aZ fun _ _=>rfl) (fun vs H Q E h=>?_) (fun f cdv A outer s H vs Q E hr h=>?_)
 ·obtain⟨a,b,u,rfl,_⟩:=h;rfl
 ·refine⟨_,(ad (aU (ai Fcheck_both hr aV (aa (pv 0) (aa (pv 1) ac))))
   (ah (aw (ai Fleaves_none_bare hr ak (aa (pv 0) (aa (pv 1) (aa (ai Fagreeing_places hr ak (aa (pv 0) (aa (pv 1) (aa (aq bE af (aG B.len (pv 1))) (aa (aq bE (aG B.len (pv 0)) (aG B.len (pv 1))) ac))))) ac))))))),?_⟩
  obtain⟨a,b,u,rfl,h⟩:=h
  exact⟨_,rfl,_,rfl,a,b,u,rfl,h⟩
theorem x5(M:Md K mg)(B:Bl mg)(F:FF K "rest_both" ln)(Fcheck_both:Fn P w K mg base (au P w) "check_both" 4 ["text","word"] (bL cNoText))(Fleaves_none_bare:Fn P w K mg base ae "leaves_none_bare" 2 ["text","word","places"] gw)(Fplaces_with_rests:Fn P w K mg base ae "places_with_rests" 3 ["text","word"] nr):Fn P w K mg base (au P w) "rest_both" 5 ["text","word"] (bL cNoText):=by
 refine bK M F sZ (fun _ _ _ _ _ _=>aZ fun _ _=>rfl) (fun vs H Q E h=>?_) (fun f cdv A outer s H vs Q E hr h=>?_)
 ·obtain⟨a,b,u,rfl,_⟩:=h;rfl
 ·refine⟨_,(ad (aU (ai Fcheck_both hr aV (aa (pv 0) (aa (pv 1) ac))))
   (ah (aw (ai Fleaves_none_bare hr ak (aa (pv 0) (aa (pv 1) (aa (ai Fplaces_with_rests hr ak (aa (pv 0) (aa (pv 1) ac))) ac))))))),?_⟩
  obtain⟨a,b,u,rfl,h⟩:=h
  exact⟨_,rfl,_,rfl,a,b,u,rfl,h⟩
theorem yX(M:Md K mg)(B:Bl mg)(F:FF K "check_within" kb)(ONoNumber:Exc K mg "NoNumber" cNoNumber):Fn P w K mg base (au P w) "check_within" 1 ["number","least","most"] (rA cNoNumber):=by
 refine bK M F uG (fun _ _ _ _ _ _=>fW fun _ _ _=>rfl) (fun vs H Q E h=>?_) (fun f cdv A outer s H vs Q E hr h=>?_)
 ·obtain⟨a,lo,hi,rfl,_⟩:=h;rfl
 ·obtain⟨a,lo,hi,rfl,hn,l1,l2,k⟩:=h
  refine⟨_,(ah (aJ (hZ (jV fU fU (pv 1) (pv 0) (pv 2))) (ah (eE ONoNumber (BH (lC (rn (by decide+kernel)) (lC (qy (pv 1)) (lC (rn (by decide+kernel)) (lC (qy (pv 2)) xm)))) (by decide)))) aN)),?_⟩
  refine⟨_,rfl,_,rfl,_,_,rfl,rfl,_,rfl,?_⟩
  have fin:∀x:Int,x.natAbs<1000→x.natAbs.log2<1900:=fun x hx=>by
   have:x.natAbs<2 ^ 10:=by lia
   by_cases h0:x.natAbs=0
   ·rw[h0];decide
   ·have:=(Nat.log2_lt h0).mpr this;lia
  by_cases c1:lo≤a
  ·rw[decide_eq_true c1]
   refine aE ⟨_,rfl,_,_,rfl,rfl,_,rfl,?_⟩
   rw[decide_eq_false fun q=>hn ⟨c1,q⟩]
   exact aE ⟨_,rfl,lo,rfl,fin lo l1,_,rfl,hi,rfl,fin hi l2,fun z=>⟨rfl,k⟩⟩
  ·rw[decide_eq_false c1]
   exact ao ⟨_,rfl,aE ⟨_,rfl,lo,rfl,fin lo l1,_,rfl,hi,rfl,fin hi l2,fun z=>⟨rfl,k⟩⟩⟩
theorem wF{pt:Addr}(M:Md K mg)(B:Bl mg){uM:Value}(gMOST_LENGTH:mg "MOST_LENGTH"=some uM)(rMOST_LENGTH:RelV (.int 200) uM)(F:FF K "count_covered" kI)(Fcheck_word:Fn P w K mg base ae "check_word" 3 ["word"] eX)(Fcheck_within:Fn P w K mg base (au P w) "check_within" 1 ["number","least","most"] (rA cNoNumber))(Fsingle_steps:Fn P w K mg base ae "single_steps" 6 ["word"] (nj pt))(Fcounts_by_length:Fn P w K mg base ae "counts_by_length" 1 ["word","steps","length"] mO):Fn P w K mg base (au P w) "count_covered" 7 ["word","length"] (mS cNoNumber):=by
 refine bK M F qQ (fun _ _ _ _ _ _=>aZ fun _ _=>rfl) (fun vs H Q E h=>?_) (fun f cdv A outer s H vs Q E hr h=>?_)
 ·obtain⟨a,u,n,rfl,_⟩:=h;rfl
 ·obtain⟨a,u,n,rfl,ha,lu,u1,hn,k⟩:=h
  refine⟨_,(ad (aU (ai Fcheck_word hr ak (aa (pv 0) ac)))
   (ad (aU (ai Fcheck_within hr aV (aa (pv 1) (aa af (aa (gv (v:=.int 200) (by rfl) gMOST_LENGTH rMOST_LENGTH) ac)))))
   (ah (aw (bh bO (ai Fcounts_by_length hr ak (aa (pv 0) (aa (ai Fsingle_steps hr ak (aa (pv 0) ac)) (aa (pv 1) ac)))) (pv 1) (fun _ _=>rfl)))))),?_⟩
  refine⟨_,rfl,a,u,rfl,ha,lu,u1,?_⟩
  exact⟨_,rfl,_,_,_,rfl,by lia,by decide,by decide,k _ (Same.refl _)⟩
end
abbrev bP:=Except Addr Str
def outK(pt:Addr)(H:Hp)(o:bP)(Q:VK)(E:XK):Prop:=∀H',bz pt H H'→TB H' pt→match o with | .ok s=>Q (.str s) H' | .error c=>E (.ref c) none H'
theorem outK.ok{pt:Addr}{H H':Hp}{s:Str}{o:bP}{Q:VK}{E:XK}(h:outK pt H o Q E)(e:o=.ok s)(T:TB H pt)(s':Same H H'):Q (.str s) H':=by
 subst e;exact h H' (fun b o e _=>s' b o e) (T.same s')
theorem outK.er{pt c:Addr}{H H':Hp}{o:bP}{Q:VK}{E:XK}(h:outK pt H o Q E)(e:o=.error c)(T:TB H pt)(s':Same H H'):E (.ref c) none H':=by
 subst e;exact h H' (fun b o e _=>s' b o e) (T.same s')
def aQ(k:Nat):Str:=Str.ofString (toString (k:Int))
def dW(ks:List Nat):Str:=Txt.join (Str.ofString " ") (ks.map aQ)
structure Small(ks:List Nat):Prop where
 len:ks.length≤201
 le:∀k∈ks,k≤200
theorem iV{k:Nat}(h:k≤200):(aQ k).length≤202:=by
 have:=PyProof.Rows.len_str_of_int (k:Int)
 unfold aQ
 rw[Int.natAbs_natCast] at this
 lia
theorem uu{l:List Nat}{B:Nat}(h:∀x∈l,x≤B):l.sum≤l.length*B:=by
 induction l with
 | nil=>simp
 | cons a l ih=>
   have:=ih fun x hx=>h x (List.mem_cons_of_mem _ hx)
   have:=h a List.mem_cons_self
   rw[List.sum_cons,List.length_cons,Nat.add_mul]
   lia
theorem uR{ks:List Nat}(h:Small ks):((ks.map aQ).map (·.length)).sum+(ks.map aQ).length*(Str.ofString " ").length≤41000:=by
 have h1:=uu (l:=(ks.map aQ).map (·.length)) (B:=202) fun x hx=>by
  obtain⟨y,hy,rfl⟩:=List.mem_map.mp hx
  obtain⟨k,hk,rfl⟩:=List.mem_map.mp hy
  exact iV (h.le k hk)
 have hl:=h.len
 rw[List.length_map,List.length_map] at h1
 rw[List.length_map,show(Str.ofString " ").length=1 by decide+kernel]
 have:ks.length*202≤201*202:=Nat.mul_le_mul_right _ hl
 lia
theorem sK{ks:List Nat}(h:Small ks):JoinOk (Str.ofString " ") (ks.map aQ)=true:=PyProof.Rows.joinOk_of (Nat.le_trans (uR h) (by decide))
theorem nO{ks:List Nat}(h:Small ks):(dW ks).length≤41000:=by
 show(Builtin.Str.glued _ _).length≤_
 rw[StrLaws.glued_eq_join]
 exact Nat.le_trans (StrLaws.join_length_le _ _) (uR h)
theorem gF(x:Str):Str.empty++x=x:=by
 refine cd_inj.mpr ?_
 rw[cL];rfl
theorem nc(x:Str):x++Str.empty=x:=by
 refine cd_inj.mpr ?_
 rw[cL,show cd Str.empty=[] from rfl,List.append_nil]
def cV(t:List Nat):Str:=⟨t.toArray⟩
theorem kW(t:List Nat):Txt.join (Str.ofString "") (t.map aI)=cV t:=by
 have:∀t:List Nat,Str.join Str.empty (t.map aI)=⟨t.toArray⟩:=fun t=>by
  induction t with
  | nil=>rfl
  | cons c t ih=>
    cases t with
    | nil=>rfl
    | cons d r=>
      show aI c++Str.empty++Str.join Str.empty ((d::r).map aI)=_
      rw[ih]
      refine cd_inj.mpr ?_
      rw[cL,cL,eT,eT];rfl
 rw[show Str.ofString ""=Str.empty by decide+kernel]
 exact(StrLaws.glued_eq_join _ _).trans (this t)
theorem kO{t:List Nat}(h:t.length≤1000):JoinOk (Str.ofString "") (t.map aI)=true:=by
 have:((t.map aI).map (·.length)).sum=t.length:=by
  clear h
  induction t with
  | nil=>rfl
  | cons c t ih=>rw[List.map_cons,List.map_cons,List.sum_cons,ih,List.length_cons,show(aI c).length=1 from rfl];lia
 exact PyProof.Rows.joinOk_of (by rw[this,List.length_map,show(Str.ofString "").length=0 by decide+kernel];lia)
section
variable(cT cC cN:Addr)
def ig(t:List Nat):bP:=if t=[] then .error cT else .ok (dW (bX t))
def fB(t:List Nat):bP:=if t=[] then .error cT else .ok (cV (t.take ((bX t).headD 0)))
def gk(t u:List Nat):bP:=.ok (if aD t u=[] then Str.ofString "-" else dW (aD t u))
def dA(t u:List Nat):bP:=if t=[] then .error cT else if bj t.length u.length (aD t u)<t.length then .ok (Str.ofString "bare "++aQ (bj t.length u.length (aD t u))) else .ok (Str.ofString "covers "++aQ (aD t u).length)
def dm(t u:List Nat):bP:=if t=[] then .error cT else if bj t.length u.length (aD t u)<t.length then .error cC else .ok (dW (bq t.length u.length (aD t u) 0))
open Classical in
noncomputable def dr (t u:List Nat):bP:=if t.length<u.length then .error cT else if h:∃l,Least (aR u) t u true 0 (t.length-u.length) l then .ok (aQ (aM t u h.choose)++Str.ofString ": "++dW h.choose) else .error cC
def cD(b:Bool):Str:=if b then Str.ofString "yes" else Str.ofString "no"
def bu(t u:List Nat):List Bool:=[jz t u (g6 u false) (jo t u true),jz t u (g6 u true) (jo t u false),jz t u (g6 u true) (jo t u true)]
def fA(t u:List Nat):bP:=if t=[] then .error cT else .ok (Txt.join (Str.ofString " ") ((bu t u).map cD))
def gG(n:Nat)(u:List Nat):bP:=if 1≤n∧n≤200 then .ok (Str.ofString (toString ((fg u n:Nat):Int))) else .error cN
end
theorem rY{t:List Nat}(h:t.length≤200):Small (bX t):=⟨by have:=DV t;lia,fun k hk=>by have:=(vJ hk).2.1;lia⟩
theorem pP{t u:List Nat}(h:t.length≤200)(u1:1≤u.length):Small (aD t u):=⟨by have:=kj t u;lia,fun k hk=>by have:=jf hk u1;lia⟩
def im(pt:Addr)(f:List Nat→bP):Sp:=fun vs H Q E=>∃(a:Addr) (t:List Nat),vs=[.ref a]∧H a=some (.lst (t.map sg))∧Low t∧t.length≤200∧TB H pt∧outK pt H (f t) Q E
def dN(pt:Addr)(f:List Nat→List Nat→bP):Sp:=fun vs H Q E=>∃(a b:Addr) (t u:List Nat),vs=[.ref a,.ref b]∧H a=some (.lst (t.map sg))∧H b=some (.lst (u.map sg))∧Low t∧Low u∧t.length≤200∧1≤u.length∧u.length≤200∧TB H pt∧outK pt H (f t u) Q E
abbrev pR:Stmt:=aH 51
abbrev om:Stmt:=aH 52
abbrev oA:Stmt:=aH 53
abbrev mw:Stmt:=aH 54
abbrev pk:Stmt:=aH 55
abbrev mL:Stmt:=aH 56
abbrev nR:Stmt:=aH 57
abbrev oQ:Stmt:=aH 58
def jc:Sp:=fun vs H Q _=>∃(a:Addr) (ks:List Nat),vs=[.ref a]∧H a=some (.lst (aj ks))∧Small ks∧∀H',Same H H'→Q (.str (dW ks)) H'
theorem cP{k:Nat}(h:k<1000):((k:Int).natAbs).log2<1900:=by
 rw[Int.natAbs_natCast]
 by_cases h0:k=0
 ·subst h0;decide
 ·have:=(Nat.log2_lt h0).mpr (show k<2 ^ 10 by lia);lia
section
variable{P:Program}{w:World}{K:PySem.W.Frag}{mg:Str→Option Value}{base:Heap}{pt cNoText cNoCover cNoNumber:Addr}
theorem wg:FnScope ["numbers"] ["numbers"] (al pR):=fsc_
theorem El(M:Md K mg)(B:Bl mg)(F:FF K "with_blanks" pR):Fn P w K mg base ae "with_blanks" 1 ["numbers"] jc:=by
 refine aP M F wg (fun _ _ _ _ _ _=>br fun _=>rfl) (fun vs H Q E h=>?_) (fun f cdv A outer s H vs Q E hr h=>?_)
 ·obtain⟨a,ks,rfl,_⟩:=h;rfl
 ·obtain⟨a,ks,rfl,ha,sm,k⟩:=h
  refine⟨_,(ah (aw (cJ PySem.F.plainAttrs_str PySem.F.slot_str_join PySem.F.type_str_join fF ar (aa (ce ["numbers"] rfl (cq (pv 0)) (fun _=>by exact di) (fun _=>by exact(eC B.str (pv 1)))) ac)))),?_⟩
  have kl:=sm.len
  refine⟨rfl,_,rfl,a,rfl,⟨_,SqL.of ha⟩,fun D hD cb=>?_⟩
  refine eI (K:=K) (a:=a) (xs:=aj ks) (fun i ys H2=>ys=((ks.take i).map aQ).map V.str∧Same H H2∧H2 D=some (.lst ys)) (by rw[aL];exact bD (by lia)) ?_ ?_ ?_ ?_ ?_
  ·exact⟨rfl,Same.upd hD,ag⟩
  ·rintro i ys H2 ⟨rfl,_⟩
   rw[List.length_map,List.length_map,List.length_take];lia
  ·rintro i ys H2 _ ⟨_,s2,_⟩;exact SqL.of (s2 _ _ ha)
  ·rintro i x ys H2 hx ⟨rfl,s2,hD2⟩
   obtain⟨n,hn,rfl⟩:=fq hx
   have:=sm.le n (List.mem_of_getElem? hn)
   refine dI ⟨_,rfl,_,rfl,cP (by lia),hD2,?_,fun z o e=>?_,ag⟩
   ·rw[List.take_add_one,hn,List.map_append,List.map_append];rfl
   ·rw[ap (aK e hD)];exact s2 _ _ e
  ·rintro ys H2 ⟨rfl,s2,hD2⟩
   rw[List.take_of_length_le (by rw[aL];exact Nat.le_refl _)] at hD2
   exact⟨_,D,ks.map aQ,rfl,rfl,hD2,sK sm,k _ s2⟩
theorem wf:FnScope ["text"] ["text"] (al om):=fsc_
theorem Ci(M:Md K mg)(B:Bl mg)(F:FF K "tell_covers" om)(Fwith_blanks:Fn P w K mg base ae "with_blanks" 1 ["numbers"] jc)(Fall_covers:Fn P w K mg base (au P w) "all_covers" 6 ["text"] (fun vs H Q E=>kR vs H Q E∨dF cNoText vs H Q E)):Fn P w K mg base (au P w) "tell_covers" 8 ["text"] (im pt (ig cNoText)):=by
 refine bK M F wf (fun _ _ _ _ _ _=>br fun _=>rfl) (fun vs H Q E h=>?_) (fun f cdv A outer s H vs Q E hr h=>?_)
 ·obtain⟨a,t,rfl,_⟩:=h;rfl
 ·obtain⟨a,t,rfl,ha,lt,tl,T,k⟩:=h
  refine⟨_,(ah (aw (ai Fwith_blanks hr ak (aa (ai Fall_covers hr aV (aa (pv 0) ac)) ac)))),?_⟩
  by_cases ht:t=[]
  ·subst ht
   exact⟨_,rfl,.inr ⟨a,rfl,ha,fun H' s'=>k.er (if_pos rfl) T s'⟩⟩
  ·have t1:=List.length_pos_iff.mpr ht
   refine⟨_,rfl,.inl ⟨a,t,rfl,ha,lt,t1,by lia,fun r H1 _ hr1 s1=>?_⟩⟩
   exact⟨r,_,rfl,hr1,rY tl,fun H2 s2=>k.ok (if_neg ht) T (s1.trans s2)⟩
theorem BU:FnScope ["text"] ["text"] (al oA):=fsc_
theorem w5(M:Md K mg)(B:Bl mg)(F:FF K "tell_shortest" oA)(Fshortest_cover:Fn P w K mg base (au P w) "shortest_cover" 7 ["text"] (fun vs H Q E=>pc vs H Q E∨dF cNoText vs H Q E)):Fn P w K mg base (au P w) "tell_shortest" 8 ["text"] (im pt (fB cNoText)):=by
 refine bK M F BU (fun _ _ _ _ _ _=>br fun _=>rfl) (fun vs H Q E h=>?_) (fun f cdv A outer s H vs Q E hr h=>?_)
 ·obtain⟨a,t,rfl,_⟩:=h;rfl
 ·obtain⟨a,t,rfl,ha,lt,tl,T,k⟩:=h
  refine⟨_,(ah (aw (cJ PySem.F.plainAttrs_str PySem.F.slot_str_join PySem.F.type_str_join fF ar (aa (bT bR (pv 0) cm (bH (ai Fshortest_cover hr aV (aa (pv 0) ac)))) ac)))),?_⟩
  by_cases ht:t=[]
  ·subst ht
   exact⟨rfl,_,rfl,_,rfl,.inr ⟨a,rfl,ha,fun H' s'=>k.er (if_pos rfl) T s'⟩⟩
  ·have t1:=List.length_pos_iff.mpr ht
   refine⟨rfl,_,rfl,_,rfl,.inl ⟨a,t,rfl,ha,lt,t1,by lia,fun H1 s1=>?_⟩⟩
   refine⟨_,rfl,a,_,rfl,SqL.of (s1 _ _ ha),fun p hp=>?_⟩
   rw[iO (by lia)]
   rw[Int.toNat_natCast]
   have et:∀t:List Nat,t.map sg=(t.map aI).map V.str:=fun t=>by rw[List.map_map];rfl
   refine⟨_,p,(t.take ((bX t).headD 0)).map aI,rfl,rfl,by rw[ag,et],kO (by rw[List.length_take];lia),?_⟩
   rw[kW]
   exact k.ok (if_neg ht) T (s1.trans (Same.upd hp))
theorem scTP:FnScope ["text","word","places"] ["text","word"] (al mw):=fsc_
theorem BG(M:Md K mg)(B:Bl mg)(F:FF K "tell_places" mw)(Fwith_blanks:Fn P w K mg base ae "with_blanks" 1 ["numbers"] jc)(Flies_at:Fn P w K mg base ae "lies_at" 4 ["text","word"] gS):Fn P w K mg base ae "tell_places" 5 ["text","word"] (dN pt gk):=by
 refine aP M F scTP (fun _ _ _ _ _ _=>aZ fun _ _=>rfl) (fun vs H Q E h=>?_) (fun f cdv A outer s H vs Q E hr h=>?_)
 ·obtain⟨a,b,t,u,rfl,_⟩:=h;rfl
 ·obtain⟨a,b,t,u,rfl,ha,hb,lt,lu,tl,u1,ul,T,k⟩:=h
  refine⟨_,(ad (aA (i:=2) scTP.nd rfl (.inl rfl) (ai Flies_at hr ak (aa (pv 0) (aa (pv 1) ac))))
   (ah (aw (iD (pH (pv 2) (fun _=>rfl)) (ai Fwith_blanks hr ak (aa (pv 2) ac)) ar)))),?_⟩
  refine⟨_,rfl,_,rfl,a,b,t,u,rfl,ha,hb,lt,lu,by lia,by lia,u1,fun r H1 _ hr1 s1=>?_⟩
  refine⟨_,rfl,!(aj (aD t u)).isEmpty,.inl ⟨_,SqL.of hr1,rfl⟩,?_⟩
  by_cases hl:aD t u=[]
  ·rw[hl]
   exact ao (k.ok (by unfold gk;rw[if_pos hl]) T s1)
  ·rw[show(!(aj (aD t u)).isEmpty)=true by cases e:aD t u with | nil=>exact absurd e hl | cons _ _=>rfl]
   exact aE ⟨_,rfl,r,_,rfl,hr1,pP tl u1,fun H2 s2=>k.ok (by unfold gk;rw[if_neg hl]) T (s1.trans s2)⟩
theorem scTL:FnScope ["text","word","kind","found"] ["text","word"] (al pk):=fsc_
theorem Au(M:Md K mg)(B:Bl mg)(F:FF K "tell_laid" pk)(Fcovered:Fn P w K mg base (au P w) "covered" 5 ["text","word"] (fun vs H Q E=>gs vs H Q E∨bL cNoText vs H Q E)):Fn P w K mg base (au P w) "tell_laid" 8 ["text","word"] (dN pt (dA cNoText)):=by
 refine bK M F scTL (fun _ _ _ _ _ _=>aZ fun _ _=>rfl) (fun vs H Q E h=>?_) (fun f cdv A outer s H vs Q E hr h=>?_)
 ·obtain⟨a,b,t,u,rfl,_⟩:=h;rfl
 ·obtain⟨a,b,t,u,rfl,ha,hb,lt,lu,tl,u1,ul,T,k⟩:=h
  refine⟨_,(ad (dO (ai Fcovered hr aV (aa (pv 0) (aa (pv 1) ac))) (dG rfl (bo (aT (i:=2) scTL.nd rfl (.inl rfl)) (bo (aT (i:=3) scTL.nd rfl (.inl rfl)) dP))))
   (ah (aw (iD (aC aW (pv 2) ar (aB _)) (lh (pv 3) (by decide+kernel)) (lh (aG B.len (pv 3)) (by decide+kernel)))))),?_⟩
  by_cases ht:t=[]
  ·subst ht
   exact⟨_,rfl,_,rfl,.inr ⟨a,b,u,rfl,ha,hb,lu,u1,by lia,fun H' s'=>k.er (if_pos rfl) T s'⟩⟩
  ·have t1:=List.length_pos_iff.mpr ht
   refine⟨_,rfl,_,rfl,.inl ⟨a,b,t,u,rfl,ha,hb,lt,lu,t1,by lia,by lia,u1,fun r H1 _ s1 hlt hr1=>?_,fun r q H1 _ _ s1 e hq1 hr1=>?_⟩⟩
   ·refine⟨r,_,rfl,SqT.of hr1,rfl,_,_,rfl,_,_,rfl,rfl,?_⟩
    refine⟨_,rfl,rfl,_,rfl,aE ⟨_,rfl,_,rfl,cP (by lia),?_⟩⟩
    rw[gF]
    exact k.ok (by unfold dA;rw[if_neg ht,if_pos hlt];rfl) T s1
   ·refine⟨r,_,rfl,SqT.of hr1,rfl,_,_,rfl,_,_,rfl,rfl,?_⟩
    refine⟨_,rfl,rfl,_,rfl,?_⟩
    rw[decide_eq_false (show¬V.str "covers"=V.str "bare" by decide+kernel)]
    have ll:=kj t u
    refine ao ⟨_,rfl,q,_,rfl,SqL.of hq1,_,rfl,by rw[aL];exact cP (by lia),?_⟩
    rw[gF,aL]
    exact k.ok (by unfold dA;rw[if_neg ht,if_neg (by lia)];rfl) T s1
theorem EF:FnScope ["text","word"] ["text","word"] (al mL):=fsc_
theorem vg{t u:List Nat}(t1:1≤t.length)(tl:t.length≤200)(u1:1≤u.length)(h:bj t.length u.length (aD t u)=t.length):Small (bq t.length u.length (aD t u) 0):=by
 have C:Cvr t.length u.length (aD t u):=⟨u1,ja t u,fun q hq=>jf hq u1,h⟩
 have h0:0∈aD t u:=by
  obtain⟨q,hq,h1,_⟩:=cov_true.mp (kP (n:=t.length) (m:=u.length) (ks:=aD t u) (i:=0) (by lia))
  rwa[show q=0 by lia] at hq
 have sl:=pP tl u1
 obtain⟨r,e,_,_,hm⟩:=jH C _ 0 (Nat.le_refl _) h0
 refine⟨Nat.le_trans (tR C h0) sl.len,fun k hk=>sl.le k (hm k ?_)⟩
 rw[←e];exact hk
theorem uk{u S t:List Nat}{p q:Nat}{l:List Nat}(h:Ch S p q l):aM t u l+p≤q+u.length:=by
 induction h with
 | one p=>show aX t u p u.length+p≤_;have:=mI t u p u.length;lia
 | @cons p s q l hs hc ih=>rw[hU hc];have:=mI t u p s;lia
theorem DP(M:Md K mg)(B:Bl mg)(F:FF K "tell_fewest" mL)(Fwith_blanks:Fn P w K mg base ae "with_blanks" 1 ["numbers"] jc)(Ffewest_layings:Fn P w K mg base (au P w) "fewest_layings" 6 ["text","word"] (fun vs H Q E=>mz vs H Q E∨(bL cNoText vs H Q E∨oi cNoText cNoCover vs H Q E))):Fn P w K mg base (au P w) "tell_fewest" 8 ["text","word"] (dN pt (dm cNoText cNoCover)):=by
 refine bK M F EF (fun _ _ _ _ _ _=>aZ fun _ _=>rfl) (fun vs H Q E h=>?_) (fun f cdv A outer s H vs Q E hr h=>?_)
 ·obtain⟨a,b,t,u,rfl,_⟩:=h;rfl
 ·obtain⟨a,b,t,u,rfl,ha,hb,lt,lu,tl,u1,ul,T,k⟩:=h
  refine⟨_,(ah (aw (ai Fwith_blanks hr ak (aa (ai Ffewest_layings hr aV (aa (pv 0) (aa (pv 1) ac))) ac)))),?_⟩
  by_cases ht:t=[]
  ·subst ht
   exact⟨_,rfl,_,rfl,.inr (.inl ⟨a,b,u,rfl,ha,hb,lu,u1,by lia,fun H' s'=>k.er (if_pos rfl) T s'⟩)⟩
  ·have t1:=List.length_pos_iff.mpr ht
   by_cases hlt:bj t.length u.length (aD t u)<t.length
   ·exact⟨_,rfl,_,rfl,.inr (.inr ⟨a,b,t,u,rfl,ha,hb,lt,lu,by lia,by lia,u1,hlt,fun H' s'=>k.er (by unfold dm;rw[if_neg ht,if_pos hlt]) T s'⟩)⟩
   ·have e:bj t.length u.length (aD t u)=t.length:=by have:=oS t.length u.length (aD t u);lia
    refine⟨_,rfl,_,rfl,.inl ⟨a,b,t,u,rfl,ha,hb,lt,lu,t1,by lia,by lia,u1,e,fun r H1 _ hr1 s1=>?_⟩⟩
    exact⟨r,_,rfl,hr1,vg t1 tl u1 e,fun H2 s2=>k.ok (by unfold dm;rw[if_neg ht,if_neg hlt]) T (s1.trans s2)⟩
theorem scTW:FnScope ["text","word","cost","chain"] ["text","word"] (al nR):=fsc_
theorem qB{cT cC:Addr}{t u l:List Nat}(h:¬t.length<u.length)(hl:Least (aR u) t u true 0 (t.length-u.length) l):dr cT cC t u=.ok (aQ (aM t u l)++Str.ofString ": "++dW l):=by
 unfold dr
 have ex:∃l,Least (aR u) t u true 0 (t.length-u.length) l:=⟨l,hl⟩
 rw[if_neg h,dif_pos ex,ex.choose_spec.uniq hl]
theorem uZ{cT cC:Addr}{t u:List Nat}(h:¬t.length<u.length)(hl:∀l,¬Ch (aR u) 0 (t.length-u.length) l):dr cT cC t u=.error cC:=by
 unfold dr
 rw[if_neg h,dif_neg]
 rintro⟨l,q⟩
 exact hl l q.1
theorem Az(M:Md K mg)(B:Bl mg)(F:FF K "tell_wrong" nR)(Fwith_blanks:Fn P w K mg base ae "with_blanks" 1 ["numbers"] jc)(Ffewest_wrong:Fn P w K mg base (au P w) "fewest_wrong" 7 ["text","word"] (fun vs H Q E=>nY cNoCover vs H Q E∨i8 cNoText vs H Q E)):Fn P w K mg base (au P w) "tell_wrong" 8 ["text","word"] (dN pt (dr cNoText cNoCover)):=by
 refine bK M F scTW (fun _ _ _ _ _ _=>aZ fun _ _=>rfl) (fun vs H Q E h=>?_) (fun f cdv A outer s H vs Q E hr h=>?_)
 ·obtain⟨a,b,t,u,rfl,_⟩:=h;rfl
 ·obtain⟨a,b,t,u,rfl,ha,hb,lt,lu,tl,u1,ul,T,k⟩:=h
  refine⟨_,(ad (dO (ai Ffewest_wrong hr aV (aa (pv 0) (aa (pv 1) ac))) (dG rfl (bo (aT (i:=2) scTW.nd rfl (.inl rfl)) (bo (aT (i:=3) scTW.nd rfl (.inl rfl)) dP))))
   (ah (aw (Ca (pv 2) (ai Fwith_blanks hr ak (aa (pv 3) ac)) (by decide+kernel))))),?_⟩
  by_cases hs:t.length<u.length
  ·exact⟨_,rfl,_,rfl,.inr ⟨a,b,t,u,rfl,ha,hb,lt,lu,hs,by lia,fun H' s'=>k.er (by unfold dr;rw[if_pos hs]) T s'⟩⟩
  ·refine⟨_,rfl,_,rfl,.inl ⟨a,b,t,u,rfl,ha,hb,lt,lu,u1,by lia,by lia,fun hn H' s'=>k.er (uZ hs hn) T s',fun l hl g c H1 _ _ hg1 hc1 s1=>?_⟩⟩
   have hS:jY u (aR u):=kD u
   have sm:Small l:=⟨by have:=Ch.len_le hS hl.1;lia,fun x hx=>by have:=(Ch.le_all hl.1 x hx).2;lia⟩
   have cl:aM t u l<1000:=by have:=uk (t:=t) (u:=u) hl.1;lia
   refine⟨g,_,rfl,SqT.of hg1,rfl,_,_,rfl,_,_,rfl,rfl,?_⟩
   refine⟨_,rfl,_,rfl,cP cl,_,rfl,c,l,rfl,hc1,sm,fun H2 s2=>⟨_,rfl,Nat.le_trans (nO sm) (by decide),?_⟩⟩
   rw[gF]
   exact k.ok (qB hs hl) T (s1.trans s2)
theorem scTE:FnScope ["text","word","held"] ["text","word"] (al oQ):=fsc_
theorem sh(bs:List Bool)(h:bs.length≤3):JoinOk (Str.ofString " ") (bs.map cD)=true:=by
 refine PyProof.Rows.joinOk_of ?_
 have h1:=uu (l:=(bs.map cD).map (·.length)) (B:=3) fun x hx=>by
  obtain⟨y,hy,rfl⟩:=List.mem_map.mp hx
  obtain⟨b,_,rfl⟩:=List.mem_map.mp hy
  cases b <;> decide+kernel
 rw[List.length_map,List.length_map] at h1
 rw[List.length_map,show(Str.ofString " ").length=1 by decide+kernel]
 lia
theorem Cr(M:Md K mg)(B:Bl mg)(F:FF K "tell_ends" oQ)(Frest_behind:Fn P w K mg base (au P w) "rest_behind" 5 ["text","word"] (fun vs H Q E=>eU false true vs H Q E∨bL cNoText vs H Q E))(Frest_ahead:Fn P w K mg base (au P w) "rest_ahead" 5 ["text","word"] (fun vs H Q E=>eU true false vs H Q E∨bL cNoText vs H Q E))(Frest_both:Fn P w K mg base (au P w) "rest_both" 5 ["text","word"] (fun vs H Q E=>eU true true vs H Q E∨bL cNoText vs H Q E)):Fn P w K mg base (au P w) "tell_ends" 8 ["text","word"] (dN pt (fA cNoText)):=by
 refine bK M F scTE (fun _ _ _ _ _ _=>aZ fun _ _=>rfl) (fun vs H Q E h=>?_) (fun f cdv A outer s H vs Q E hr h=>?_)
 ·obtain⟨a,b,t,u,rfl,_⟩:=h;rfl
 ·obtain⟨a,b,t,u,rfl,ha,hb,lt,lu,tl,u1,ul,T,k⟩:=h
  refine⟨_,(ad (aA (i:=2) scTE.nd rfl (.inl rfl) (aS (aa (ai Frest_behind hr aV (aa (pv 0) (aa (pv 1) ac))) (aa (ai Frest_ahead hr aV (aa (pv 0) (aa (pv 1) ac))) (aa (ai Frest_both hr aV (aa (pv 0) (aa (pv 1) ac))) ac)))))
   (ah (aw (cJ PySem.F.plainAttrs_str PySem.F.slot_str_join PySem.F.type_str_join fF ar (aa (ce ["text","word","held"] rfl (cq (pv 2)) (fun _=>by exact di) (fun _=>by exact(iD (fY (pv 3)) ar ar))) ac))))),?_⟩
  by_cases ht:t=[]
  ·subst ht
   exact⟨_,rfl,_,rfl,.inr ⟨a,b,u,rfl,ha,hb,lu,u1,by lia,fun H' s'=>k.er (if_pos rfl) T s'⟩⟩
  ·have t1:=List.length_pos_iff.mpr ht
   refine⟨_,rfl,_,rfl,.inl ⟨a,b,t,u,rfl,ha,hb,lt,lu,t1,u1,by lia,by lia,fun H1 s1=>?_⟩⟩
   refine⟨_,rfl,_,rfl,.inl ⟨a,b,t,u,rfl,s1 _ _ ha,s1 _ _ hb,lt,lu,t1,u1,by lia,by lia,fun H2 s2=>?_⟩⟩
   have s02:=s1.trans s2
   refine⟨_,rfl,_,rfl,.inl ⟨a,b,t,u,rfl,s02 _ _ ha,s02 _ _ hb,lt,lu,t1,u1,by lia,by lia,fun H3 s3=>?_⟩⟩
   refine⟨by show 3≤sizeLine;decide,fun r hr0=>?_⟩
   have s04:=(s02.trans s3).trans (Same.upd (o:=.lst ((bu t u).map V.bl)) hr0)
   have hr4:(L2.upd H3 r (.lst ((bu t u).map V.bl))) r=some (.lst ((bu t u).map V.bl)):=ag
   change (fun H4=>_) (L2.upd H3 r (.lst ((bu t u).map V.bl)))
   generalize L2.upd H3 r (.lst ((bu t u).map V.bl))=H4 at s04 hr4 ⊢
   dsimp only
   refine⟨rfl,_,rfl,r,rfl,⟨_,SqL.of hr4⟩,fun D hD cb=>?_⟩
   refine eI (K:=K) (a:=r) (xs:=(bu t u).map V.bl) (fun i ys H5=>ys=(((bu t u).take i).map cD).map V.str∧Same H4 H5∧H5 D=some (.lst ys)) (show 3<sizeLine by decide) ?_ ?_ ?_ ?_ ?_
   ·exact⟨rfl,Same.upd hD,ag⟩
   ·rintro i ys H5 ⟨rfl,_⟩
    rw[List.length_map,List.length_map,List.length_take];lia
   ·rintro i ys H5 _ ⟨_,s5,_⟩;exact SqL.of (s5 _ _ hr4)
   ·rintro i x ys H5 hx ⟨rfl,s5,hD5⟩
    rw[List.getElem?_map] at hx
    cases eb:(bu t u)[i]? with
    | none=>rw[eb] at hx;cases hx
    | some bb=>
      rw[eb] at hx
      cases hx
      have fin:∀z:Str,z=cD bb→H5 D=some (.lst ((((bu t u).take i).map cD).map V.str))∧((((bu t u).take i).map cD).map V.str++[V.str z]=(((bu t u).take (i+1)).map cD).map V.str∧Same H4 (L2.upd H5 D (.lst ((((bu t u).take i).map cD).map V.str++[V.str z])))∧(L2.upd H5 D (.lst ((((bu t u).take i).map cD).map V.str++[V.str z]))) D=some (.lst ((((bu t u).take i).map cD).map V.str++[V.str z]))):=fun z hz=>by
       refine⟨hD5,?_,fun z o e=>?_,ag⟩
       ·rw[List.take_add_one,eb,List.map_append,List.map_append,hz];rfl
       ·rw[ap (aK e hD)];exact s5 _ _ e
      refine dI ⟨_,rfl,bb,rfl,?_⟩
      cases bb with
      | true=>exact aE (fin _ rfl)
      | false=>exact ao (fin _ rfl)
   ·rintro ys H5 ⟨rfl,s5,hD5⟩
    rw[List.take_of_length_le (by rw[List.length_map];exact Nat.le_refl _)] at hD5
    exact⟨_,D,(bu t u).map cD,rfl,rfl,hD5,sh _ (Nat.le_refl 3),k.ok (by unfold fA;rw[if_neg ht]) T (s04.trans s5)⟩
end
def fj(c:Nat):Bool:=decide (97≤c) && decide (c≤122)
def kz(cs:List Nat):Bool:=decide (cs≠ []) && cs.all fj
def cQ(c:Nat):Bool:=decide (48≤c) && decide (c≤57)
def jN(cs:List Nat):Bool:=decide (1≤cs.length) && decide (cs.length≤3) && cs.all cQ && (decide (cs=[48]) || decide (cs.head?≠some 48))
abbrev jb:List Nat:=[116,101,120,116]
abbrev iR:List Nat:=[119,111,114,100]
abbrev jt:List Nat:=[116,101,120,116,115]
def EJ:List (List Nat):=[[99,111,118,101,114,115],[115,104,111,114,116,101,115,116],[108,105,101,115],[108,97,105,100],[102,101,119,101,115,116],[119,114,111,110,103],[101,110,100,115]]
abbrev pB:Stmt:=jZ (aH 61) 0
abbrev nK:Stmt:=jZ (aH 61) 1
abbrev pM:Stmt:=jZ (aH 61) 2
def bY(t w:V):List (Str×V):=[("text",t),("word",w)]
theorem mT:¬(("text":Str)="word"):=by decide+kernel
theorem kJ(t w:V):bJ "word" w (bJ "text" t [])=bY t w:=by
 show(if("text":Str)="word" then [(("text":Str),w)] else(("text":Str),t)::bJ "word" w [])=bY t w
 rw[if_neg mT];rfl
theorem rB(t w v:V):bJ "text" v (bY t w)=bY v w:=by
 show(if("text":Str)="text" then _ else _)=_
 rw[if_pos rfl];rfl
theorem zz(t w v:V):bJ "word" v (bY t w)=bY t v:=by
 show(if("text":Str)="word" then _ else(("text":Str),t)::(if("word":Str)="word" then [(("word":Str),v)] else _))=bY t v
 rw[if_neg mT,if_pos rfl];rfl
theorem jy(t w:V):(bY t w).lookup ("text":Str)=some t:=by
 rw[←kJ,fZ,if_neg mT,fZ,if_pos rfl]
theorem oJ(t w:V):(bY t w).lookup ("word":Str)=some w:=by
 rw[←kJ,fZ,if_pos rfl]
theorem dk(t w:V){m:Str}(h1:¬m="word")(h2:¬m="text"):(bY t w).lookup m=none:=by
 rw[←kJ,fZ,if_neg h1,fZ,if_neg h2];rfl
structure DeskT(K:PySem.W.Frag)(mg:Str→Option Value)(C:Addr):Prop where
 cl:Cls K C
 nT:NoAttr K C "text"
 nW:NoAttr K C "word"
 g:mg "Desk"=some (.ref C)
def um(C:Addr):Sp:=fun vs H Q _=>∃(x dx:Addr),vs=[.ref x]∧H x=some (.ins C dx [])∧∀H':Hp,H' x=some (.ins C dx (bY .non .non))→bz x H H'→Q .non H'
def jS(C cNY:Addr)(b:Bool):Sp:=fun vs H Q E=>∃(x dx:Addr) (t w:V),vs=[.ref x]∧H x=some (.ins C dx (bY t w))∧((if b then t else w)=.non→E (.ref cNY) none H)∧((if b then t else w)≠ .non→Q (if b then t else w) H)
section
variable{P:Program}{w:World}{K:PySem.W.Frag}{mg:Str→Option Value}{base:Heap}
theorem wb:FnScope ["self"] ["self"] (al pB):=fsc_
theorem zI{C:Addr}(T:DeskT K mg C)(F:MF K C "__init__" "Desk.__init__" pB):Mt P w K mg base ae C "__init__" 1 ["self"] (um C):=by
 refine lJ F wb (fun _ _ _ _ _ _=>br fun _=>rfl) (fun vs H Q E h=>?_) (fun f cdv A outer s H vs Q E hr h=>?_)
 ·obtain⟨x,dx,rfl,_⟩:=h;rfl
 ·obtain⟨x,dx,rfl,hx,k⟩:=h
  refine⟨_,(ad (lL (pv 0) dj rfl)
   (ah (lL (pv 0) dj rfl))),?_⟩
  refine⟨_,rfl,x,C,dx,[],rfl,hx,T.cl,T.nT,(by show 0<1000;decide),_,rfl,x,C,dx,_,rfl,ag,T.cl,T.nW,(by show 1<1000;decide),?_⟩
  refine k _ (by rw[ag,kJ]) fun z o e n=>?_
  rw[ap n,ap n];exact e
theorem Cn:FnScope ["self"] ["self"] (al nK):=fsc_
theorem v2{C cNY:Addr}(T:DeskT K mg C)(ONoneYet:Exc K mg "NoneYet" cNY)(F:MF K C "told_text" "Desk.told_text" nK):Mt P w K mg base (au P w) C "told_text" 1 ["self"] (jS C cNY true):=by
 refine lJ F Cn (fun _ _ _ _ _ _=>br fun _=>rfl) (fun vs H Q E h=>?_) (fun f cdv A outer s H vs Q E hr h=>?_)
 ·obtain⟨x,dx,t,w,rfl,_⟩:=h;rfl
 ·obtain⟨x,dx,t,wd,rfl,hx,k1,k2⟩:=h
  refine⟨_,(ad (aJ (aC g0 (ij (pv 0) rfl) dj (aB _)) (ah (eE ONoneYet ar)) aN)
   (ah (aw (ij (pv 0) rfl)))),?_⟩
  refine⟨_,rfl,x,C,dx,_,_,rfl,hx,T.cl,T.nT,jy _ _,rfl,_,rfl,?_⟩
  by_cases h:t=.non
  ·rw[decide_eq_true h]
   exact aE ⟨rfl,k1 h⟩
  ·rw[decide_eq_false h]
   exact ao ⟨_,rfl,x,C,dx,_,_,rfl,hx,T.cl,T.nT,jy _ _,k2 h⟩
theorem Ar:FnScope ["self"] ["self"] (al pM):=fsc_
theorem Ct{C cNY:Addr}(T:DeskT K mg C)(ONoneYet:Exc K mg "NoneYet" cNY)(F:MF K C "told_word" "Desk.told_word" pM):Mt P w K mg base (au P w) C "told_word" 1 ["self"] (jS C cNY false):=by
 refine lJ F Ar (fun _ _ _ _ _ _=>br fun _=>rfl) (fun vs H Q E h=>?_) (fun f cdv A outer s H vs Q E hr h=>?_)
 ·obtain⟨x,dx,t,w,rfl,_⟩:=h;rfl
 ·obtain⟨x,dx,t,wd,rfl,hx,k1,k2⟩:=h
  refine⟨_,(ad (aJ (aC g0 (ij (pv 0) rfl) dj (aB _)) (ah (eE ONoneYet ar)) aN)
   (ah (aw (ij (pv 0) rfl)))),?_⟩
  refine⟨_,rfl,x,C,dx,_,_,rfl,hx,T.cl,T.nW,oJ _ _,rfl,_,rfl,?_⟩
  by_cases h:wd=.non
  ·rw[decide_eq_true h]
   exact aE ⟨rfl,k1 h⟩
  ·rw[decide_eq_false h]
   exact ao ⟨_,rfl,x,C,dx,_,_,rfl,hx,T.cl,T.nW,oJ _ _,k2 h⟩
end
abbrev mR:Stmt:=aH 49
abbrev oU:Stmt:=aH 50
def sM:Sp:=fun vs H Q _=>∃c:Nat,vs=[sg c]∧Q (.bl (fj c)) H
def Asc(x:Str):Prop:=x.cps.all (·< 128)=true∧x.length≤400
def ss:Sp:=fun vs H Q _=>∃x:Str,vs=[.str x]∧Asc x∧∀H',Same H H'→Q (.bl (kz (cd x))) H'
def rG:Sp:=fun vs H Q _=>∃x:Str,vs=[.str x]∧Asc x∧∀H',Same H H'→Q (.bl (jN (cd x))) H'
theorem uU{a b:Nat}:decide ([a] < [b])=decide (a<b):=by
 by_cases h:a<b
 ·rw[decide_eq_true h]
  exact decide_eq_true (List.Lex.rel h)
 ·rw[decide_eq_false h]
  refine decide_eq_false fun q=>?_
  cases q with
  | rel r=>exact h r
  | cons r=>cases r
theorem qd{c:Nat}{a:Nat}{x:Str}(e:x.cps.toList=[a]):(!decide ((aI c).cps.toList<x.cps.toList))=decide (a≤c):=by
 rw[e,show(aI c).cps.toList=[c] from rfl,uU]
 by_cases h:c<a
 ·rw[decide_eq_true h,decide_eq_false (by lia)];rfl
 ·rw[decide_eq_false h,decide_eq_true (by lia)];rfl
theorem sP{c:Nat}{a:Nat}{x:Str}(e:x.cps.toList=[a]):(!decide (x.cps.toList<(aI c).cps.toList))=decide (c≤a):=by
 rw[e,show(aI c).cps.toList=[c] from rfl,uU]
 by_cases h:a<c
 ·rw[decide_eq_true h,decide_eq_false (by lia)];rfl
 ·rw[decide_eq_false h,decide_eq_true (by lia)];rfl
theorem Cq:(Str.ofString "a").cps.toList=[97]:=by decide+kernel
theorem Bx:(Str.ofString "z").cps.toList=[122]:=by decide+kernel
theorem mh:(Str.ofString "0").cps.toList=[48]:=by decide+kernel
theorem Cb:(Str.ofString "9").cps.toList=[57]:=by decide+kernel
theorem sk(f:Nat→Bool)(l:List Nat):((l.map f).all id)=l.all f:=by
 induction l with
 | nil=>rfl
 | cons a l ih=>rw[List.map_cons,List.all_cons,List.all_cons,ih];rfl
theorem rT{l:List Nat}{i c:Nat}(h:l[i]?=some c):l.take (i+1)=l.take i++[c]:=by
 rw[List.take_add_one,h];rfl
section
variable{P:Program}{w:World}{K:PySem.W.Frag}{mg:Str→Option Value}{base:Heap}
theorem DI(M:Md K mg)(B:Bl mg)(F:FF K "is_sign" lH):Fn P w K mg base ae "is_sign" 1 ["sign"] sM:=by
 refine aP M F uq (fun _ _ _ _ _ _=>br fun _=>rfl) (fun vs H Q E h=>?_) (fun f cdv A outer s H vs Q E hr h=>?_)
 ·obtain⟨c,rfl,_⟩:=h;rfl
 ·obtain⟨c,rfl,k⟩:=h
  refine⟨_,(ah (aw (i9 (o9 B.isinst B.str j8 (pv 0)) (i9 (eh aW (lz B.len (pv 0)) af (aB _)) (km (me gQ gQ ar (pv 0) ar)))))),?_⟩
  refine⟨_,rfl,_,true,TyOf.str _,rfl,_,rfl,aE ?_⟩
  refine⟨_,rfl,_,rfl,sz (by show 1≤1000;decide),rfl,true,rfl,aE ?_⟩
  refine⟨_,rfl,_,_,rfl,rfl,_,rfl,?_⟩
  rw[qd Cq]
  unfold fj at k
  by_cases h:97≤c
  ·rw[decide_eq_true h] at k ⊢
   refine aE ⟨_,_,rfl,rfl,?_⟩
   rw[sP Bx]
   exact k
  ·rw[decide_eq_false h] at k ⊢
   exact ao k
theorem AH:FnScope ["row"] ["row"] (al mR):=fsc_
theorem yF(M:Md K mg)(B:Bl mg)(nall:mg "all"=none)(F:FF K "are_letters" mR)(Fis_sign:Fn P w K mg base ae "is_sign" 1 ["sign"] sM):Fn P w K mg base ae "are_letters" 2 ["row"] ss:=by
 refine aP M F AH (fun _ _ _ _ _ _=>br fun _=>rfl) (fun vs H Q E h=>?_) (fun f cdv A outer s H vs Q E hr h=>?_)
 ·obtain⟨x,rfl,_⟩:=h;rfl
 ·obtain⟨x,rfl,hx,k⟩:=h
  refine⟨_,(ah (aw (i9 (eh gM (lz B.len (pv 0)) af (aB _)) (km (va rfl nall (ce ["row"] rfl (uY (pv 0)) (fun _=>by exact di) (fun _=>by exact(ai Fis_sign hr ak (aa (pv 1) ac))))))))),?_⟩
  refine⟨_,rfl,_,rfl,sz (by have:=hx.2;lia),_,_,rfl,rfl,_,rfl,?_⟩
  unfold kz at k
  have el:decide ((x.length:Int)>0)=decide (cd x≠ []):=by
   rw[iM]
   cases cd x with
   | nil=>rfl
   | cons a l=>rw[decide_eq_true (List.cons_ne_nil _ _),decide_eq_true (by simp)]
  rw[el]
  by_cases h:cd x≠ []
  ·rw[decide_eq_true h] at k ⊢
   refine aE ?_
   refine⟨_,rfl,x,rfl,hx.1,fun D hD cb=>?_⟩
   refine tG (z:=x) (fun i ys H2=>ys=((cd x).take i).map (fun c=>V.bl (fj c))∧i≤(cd x).length∧Same H H2∧H2 D=some (.lst ys)) (by have:=hx.2;exact bD (by unfold Str.length at this;lia)) ?_ ?_ ?_ ?_
   ·exact⟨rfl,Nat.zero_le _,Same.upd hD,ag⟩
   ·rintro i ys H2 ⟨rfl,_⟩;rw[List.length_map,List.length_take];lia
   ·rintro i c ys H2 hc ⟨rfl,il,s2,hD2⟩
    have hc':(cd x)[i]?=some c:=by unfold cd;rw[Array.getElem?_toList];exact hc
    refine dI ⟨_,rfl,c,rfl,hD2,?_,(List.getElem?_eq_some_iff.mp hc').1,fun z o e=>?_,ag⟩
    ·rw[rT hc',List.map_append];rfl
    ·rw[ap (aK e hD)];exact s2 _ _ e
   ·rintro ys H2 ⟨rfl,_,s2,hD2⟩
    rw[List.take_of_length_le (by unfold cd;simp)] at hD2
    refine⟨D,(cd x).map fj,rfl,by rw[List.map_map];exact hD2,?_⟩
    rw[sk]
    exact k _ s2
  ·rw[decide_eq_false h] at k ⊢
   exact ao (k _ (Same.refl _))
theorem xJ:FnScope ["row"] ["row"] (al oU):=fsc_
theorem yL(M:Md K mg)(B:Bl mg)(nall:mg "all"=none)(F:FF K "is_length" oU):Fn P w K mg base ae "is_length" 1 ["row"] rG:=by
 refine aP M F xJ (fun _ _ _ _ _ _=>br fun _=>rfl) (fun vs H Q E h=>?_) (fun f cdv A outer s H vs Q E hr h=>?_)
 ·obtain⟨x,rfl,_⟩:=h;rfl
 ·obtain⟨x,rfl,hx,k⟩:=h
  refine⟨_,(ad (aJ (PW.pt (gR (hZ (jV fU fU af (lz B.len (pv 0)) af)) (gX (hZ (fY (va rfl nall (ce ["row"] rfl (uY (pv 0)) (fun _=>by exact di) (fun _=>by exact(me gQ gQ ar (pv 1) ar))))))))) (ah (aw eZ)) aN)
   (ah (aw (xq (eh aW (pv 0) ar (aB _)) (km (eh pW (bh ox (pv 0) af (fun _ _=>rfl)) ar (aB _))))))),?_⟩
  have xl:=iM x
  refine eG (fun σ H'=>σ=[some (.str x)]∧Same H H'∧1≤(cd x).length∧(cd x).length≤3∧(cd x).all cQ=true) ?_ fun R hR=>?_
  ·rintro σ H' ⟨rfl,s1,l1,l3,da⟩
   refine⟨_,rfl,rfl,_,rfl,?_⟩
   unfold jN at k
   rw[decide_eq_true l1,decide_eq_true l3,da,Bool.true_and,Bool.true_and,Bool.true_and] at k
   rw[gr,show cd (Str.ofString "0")=[48] from mh]
   by_cases h:cd x=[48]
   ·rw[decide_eq_true h,Bool.true_or] at k
    rw[decide_eq_true h]
    exact aE (k _ s1)
   ·rw[decide_eq_false h,Bool.false_or] at k
    rw[decide_eq_false h]
    refine ao ?_
    cases e:cd x with
    | nil=>rw[e] at l1;cases l1
    | cons a l=>
      rw[e] at k
      refine⟨_,rfl,x,_,a,rfl,rfl,sz (by have:=hx.2;lia),(show bF (cd x) ((0:Nat):Int)=some a from fh (by rw[e];rfl)),rfl,?_⟩
      have ek:(!decide (V.str ⟨#[a]⟩=V.str "0"))=decide (([a]++l).head?≠some 48):=by
       rw[gr,show cd (Str.ofString "0")=[48] from mh,show cd ⟨#[a]⟩=[a] from rfl]
       by_cases h:a=48
       ·subst h;simp
       ·simp[h]
      rw[ek]
      exact k _ s1
  ·unfold jN at k
   refine⟨_,rfl,x,rfl,sz (by have:=hx.2;lia),_,_,rfl,rfl,_,rfl,?_⟩
   rw[show decide (1≤(x.length:Int))=decide (1≤(cd x).length) by rw[xl];by_cases h:1≤(cd x).length <;> simp[h] <;> lia]
   by_cases l1:1≤(cd x).length
   ·rw[decide_eq_true l1] at k ⊢
    refine aE ⟨_,_,rfl,rfl,_,rfl,?_⟩
    rw[show decide ((x.length:Int)≤3)=decide ((cd x).length≤3) by rw[xl];by_cases h:(cd x).length≤3 <;> simp[h] <;> lia]
    by_cases l3:(cd x).length≤3
    ·rw[decide_eq_true l3] at k ⊢
     refine ao ?_
     refine⟨_,rfl,x,rfl,hx.1,fun D hD cb=>?_⟩
     refine tG (z:=x) (fun i ys H2=>ys=((cd x).take i).map (fun c=>V.bl (cQ c))∧i≤(cd x).length∧Same H H2∧H2 D=some (.lst ys)) (by have:=hx.2;exact bD (by unfold Str.length at this;lia)) ?_ ?_ ?_ ?_
     ·exact⟨rfl,Nat.zero_le _,Same.upd hD,ag⟩
     ·rintro i ys H2 ⟨rfl,_⟩;rw[List.length_map,List.length_take];lia
     ·rintro i c ys H2 hc ⟨rfl,il,s2,hD2⟩
      have hc':(cd x)[i]?=some c:=by unfold cd;rw[Array.getElem?_toList];exact hc
      have fin:∀b:Bool,b=cQ c→H2 D=some (.lst (((cd x).take i).map (fun c=>V.bl (cQ c))))∧(((cd x).take i).map (fun c=>V.bl (cQ c))++[V.bl b]=((cd x).take (i+1)).map (fun c=>V.bl (cQ c))∧i+1≤(cd x).length∧Same H (L2.upd H2 D (.lst (((cd x).take i).map (fun c=>V.bl (cQ c))++[V.bl b])))∧(L2.upd H2 D (.lst (((cd x).take i).map (fun c=>V.bl (cQ c))++[V.bl b]))) D=some (.lst (((cd x).take i).map (fun c=>V.bl (cQ c))++[V.bl b]))):=fun b hb=>by
       refine⟨hD2,?_,(List.getElem?_eq_some_iff.mp hc').1,fun z o e=>?_,ag⟩
       ·rw[rT hc',List.map_append,hb];rfl
       ·rw[ap (aK e hD)];exact s2 _ _ e
      refine dI ⟨_,rfl,_,_,rfl,rfl,_,rfl,?_⟩
      rw[qd mh]
      by_cases h:48≤c
      ·rw[decide_eq_true h]
       refine aE ⟨_,_,rfl,rfl,?_⟩
       rw[sP Cb]
       exact fin _ (by unfold cQ;rw[decide_eq_true h];rfl)
      ·rw[decide_eq_false h]
       exact ao (fin _ (by unfold cQ;rw[decide_eq_false h];rfl))
     ·rintro ys H2 ⟨rfl,_,s2,hD2⟩
      rw[List.take_of_length_le (by unfold cd;simp)] at hD2
      refine⟨D,(cd x).map cQ,rfl,by rw[List.map_map];exact hD2,?_⟩
      rw[sk]
      cases ea:(cd x).all cQ with
      | true=>exact⟨_,rfl,ao (hR _ _ ⟨rfl,s2,l1,l3,ea⟩)⟩
      | false=>
        rw[ea] at k
        exact⟨_,rfl,aE (k _ s2)⟩
    ·rw[decide_eq_false l3] at k ⊢
     exact aE (k _ (Same.refl _))
   ·rw[decide_eq_false l1] at k ⊢
    exact ao ⟨_,rfl,aE (k _ (Same.refl _))⟩
end
abbrev mK:Stmt:=jZ (aH 61) 3
def Hold(H:Hp)(v:V):Option (List Nat)→Prop
 | none=>v=.non
 | some l=>∃a,v=.ref a∧H a=some (.lst (l.map sg))
structure DS(C:Addr)(H:Hp)(x dx:Addr)(t w:V)(ot ow:Option (List Nat)):Prop where
 at_:H x=some (.ins C dx (bY t w))
 ht:Hold H t ot
 hw:Hold H w ow
 lt:∀l,ot=some l→Low l∧l.length≤200
 lw:∀l,ow=some l→Low l∧1≤l.length∧l.length≤200
theorem Hold.same{H H':Hp}{v:V}{o:Option (List Nat)}(h:Hold H v o)(s:Same H H'):Hold H' v o:=by
 cases o with
 | none=>exact h
 | some l=>obtain⟨a,e,q⟩:=h;exact⟨a,e,s _ _ q⟩
theorem DS.same{C:Addr}{H H':Hp}{x dx:Addr}{t w:V}{ot ow:Option (List Nat)}(h:DS C H x dx t w ot ow)(s:Same H H'):DS C H' x dx t w ot ow:=⟨s _ _ h.at_,h.ht.same s,h.hw.same s,h.lt,h.lw⟩
theorem TB.neI{H:Hp}{pt x C dx:Addr}{fs:List (Str×V)}(h:TB H pt)(hx:H x=some (.ins C dx fs)):x≠pt:=fun z=>by
 rw[z] at hx
 rcases h with t | ⟨c,t,_⟩ <;> (rw[hx] at t;cases t)
theorem TB.keepI{H H':Hp}{pt x C dx:Addr}{fs:List (Str×V)}(h:TB H pt)(hx:H x=some (.ins C dx fs))(k:bz x H H'):TB H' pt:=by
 have np:=h.neI hx
 rcases h with t | ⟨c,t1,t2⟩
 ·exact .inl (k _ _ t (Ne.symm np))
 ·refine .inr ⟨c,k _ _ t1 (Ne.symm np),k _ _ t2 fun e=>?_⟩
  rw[e,hx] at t2;cases t2
theorem DS.keep{C:Addr}{H H':Hp}{pt x dx:Addr}{t w:V}{ot ow:Option (List Nat)}(h:DS C H x dx t w ot ow)(T:TB H pt)(k:bz pt H H'):DS C H' x dx t w ot ow:=by
 have hold:∀{v o},Hold H v o→Hold H' v o:=fun{v o} q=>by
  cases o with
  | none=>exact q
  | some l=>obtain⟨a,e,q⟩:=q;exact⟨a,e,k _ _ q (T.ne q)⟩
 exact⟨k _ _ h.at_ (T.neI h.at_),hold h.ht,hold h.hw,h.lt,h.lw⟩
inductive Deed | cov | sho | lie | laid | few | wro | ends | tex (n:Nat)
def cB:Deed→Str
 | .cov=>"covers"
 | .sho=>"shortest"
 | .lie=>"lies"
 | .laid=>"laid"
 | .few=>"fewest"
 | .wro=>"wrong"
 | .ends=>"ends"
 | .tex n=>"texts "++aQ n
def jX:Deed→Prop
 | .tex n=>n<203
 | _=>True
noncomputable def bS (cT cC cN cY:Addr):Deed→Option (List Nat)→Option (List Nat)→bP
 | .cov,some t,_=>ig cT t
 | .sho,some t,_=>fB cT t
 | .lie,some t,some u=>gk t u
 | .laid,some t,some u=>dA cT t u
 | .few,some t,some u=>dm cT cC t u
 | .wro,some t,some u=>dr cT cC t u
 | .ends,some t,some u=>fA cT t u
 | .tex n,_,some u=>gG cN n u
 | _,_,_=>.error cY
def cK(t:List Nat):Str:=if t=[] then Str.ofString "-" else cV t
def pQ(pt C cT cC cN cY:Addr):Sp:=fun vs H Q E=>∃(x dx:Addr) (row:Str) (t w:V) (ot ow:Option (List Nat)),vs=[.ref x,.str row]∧DS C H x dx t w ot ow∧TB H pt∧
 ((∃l:List Nat,row=Str.ofString "text "++cK l∧Low l∧l.length≤200∧∀a H',H' x=some (.ins C dx (bY (.ref a) w))→H' a=some (.lst (l.map sg))→bz x H H'→Q (.str (Str.ofString "signs "++aQ l.length)) H')∨
  (∃l:List Nat,row=Str.ofString "word "++cV l∧Low l∧1≤l.length∧l.length≤200∧∀a H',H' x=some (.ins C dx (bY t (.ref a)))→H' a=some (.lst (l.map sg))→bz x H H'→Q (.str (Str.ofString "signs "++aQ l.length)) H')∨
  (∃d:Deed,row=cB d∧jX d∧outK pt H (bS cT cC cN cY d ot ow) Q E))
theorem j6:cd (Str.ofString "text")=jb:=by decide+kernel
theorem pi:cd (Str.ofString "word")=iR:=by decide+kernel
theorem nH:cd (Str.ofString "texts")=jt:=by decide+kernel
theorem iX:cd (Str.ofString "-")=[45]:=by decide+kernel
theorem DM:cd (Str.ofString "text ")=jb++[32]:=by decide+kernel
theorem xc:cd (Str.ofString "word ")=iR++[32]:=by decide+kernel
theorem tS:cd (Str.ofString "texts ")=jt++[32]:=by decide+kernel
theorem ip(t:List Nat):cd (cV t)=t:=eT t
theorem vA:∀n,n<203→jN (cd (aQ n))=true∧(cd (aQ n)).length≤3∧(cd (aQ n)).all (·< 128)=true:=by decide+kernel
theorem sW{l:List Nat}(h:Low l)(h1:1≤l.length):kz l=true:=by
 unfold kz
 rw[decide_eq_true (List.length_pos_iff.mp h1),Bool.true_and,List.all_eq_true]
 intro c hc
 have:=h c hc
 unfold fj
 rw[decide_eq_true this.1,decide_eq_true this.2];rfl
theorem Bt{s:Str}(h1:∀c∈cd s,c<128)(h2:(cd s).length≤400):Asc s:=by
 refine⟨?_,by rw[iM];exact h2⟩
 rw[Array.all_eq_true_iff_forall_mem]
 intro c hc
 exact decide_eq_true (h1 c (by unfold cd;simpa using hc))
theorem n8{a b:List Nat}{s:Str}(e:cd s=a++[32]++b)(ha:a=jb∨a=iR∨a=jt)(hb:∀c∈b,c<128)(hl:b.length≤200):Asc s∧bn (cd s)=a∧bB (cd s)=b:=by
 have h4:a.length≤5∧(∀c∈a,c<128)∧32∉a:=by rcases ha with rfl | rfl | rfl <;> decide
 have e':cd s=a++32::b:=by rw[e];simp
 refine⟨Bt (fun c hc=>?_) ?_,by rw[e'];exact(lN h4.2.2).1,by rw[e'];exact(lN h4.2.2).2⟩
 ·rw[e'] at hc
  rcases List.mem_append.mp hc with hc | hc
  ·exact h4.2.1 c hc
  ·rcases List.mem_cons.mp hc with rfl | hc
   ·decide
   ·exact hb c hc
 ·rw[e',List.length_append,List.length_cons];lia
theorem qm:∀d,(∀n,d≠ .tex n)→Asc (cB d)∧bn (cd (cB d))≠jb∧bn (cd (cB d))≠iR∧bn (cd (cB d))≠jt
 | .tex n,h=>absurd rfl (h n)
 | .cov,_ | .sho,_ | .lie,_ | .laid,_ | .few,_ | .wro,_ | .ends,_=>by refine⟨⟨?_,?_⟩,?_,?_,?_⟩ <;> decide+kernel
theorem qh(u:List Nat)(u1:1≤u.length){n:Nat}(h:n≤200):(((fg u n:Nat):Int).natAbs).log2<1900:=by
 rw[Int.natAbs_natCast]
 have b:fg u n≤2 ^ 200:=by
  by_cases hn:n<u.length
  ·unfold fg;rw[lK hn];exact Nat.zero_le _
  ·have:=yq (S:=fG u) u1 (fun d hd=>(mem_singles.mp hd).1.1) (AC u) (n-u.length)
   rw[show u.length+(n-u.length)=n by lia] at this
   exact Nat.le_trans this (Nat.pow_le_pow_right (by decide) (by lia))
 by_cases h0:fg u n=0
 ·rw[h0];decide
 ·have:=(Nat.log2_lt h0).mpr (show fg u n<2 ^ 201 from Nat.lt_of_le_of_lt b (Nat.pow_lt_pow_right (by decide) (by decide)))
  lia
theorem qG{l:List Nat}(h:Low l)(hl:l.length≤200):Asc (Str.ofString "text "++cK l)∧bn (cd (Str.ofString "text "++cK l))=jb∧bB (cd (Str.ofString "text "++cK l))=cd (cK l):=by
 refine n8 (by rw[cL,DM]) (.inl rfl) (fun c hc=>?_) ?_
 ·unfold cK at hc
  by_cases e:l=[]
  ·rw[if_pos e,iX] at hc
   rw[List.mem_singleton.mp hc];decide
  ·rw[if_neg e,ip] at hc
   have:=h c hc;lia
 ·unfold cK
  by_cases e:l=[]
  ·rw[if_pos e,iX];decide
  ·rw[if_neg e,ip];exact hl
theorem sf{l:List Nat}(h:Low l)(hl:l.length≤200):Asc (Str.ofString "word "++cV l)∧bn (cd (Str.ofString "word "++cV l))=iR∧bB (cd (Str.ofString "word "++cV l))=l:=
 n8 (by rw[cL,xc,ip]) (.inr (.inl rfl)) (fun c hc=>by have:=h c hc;lia) hl
theorem rW{n:Nat}(h:n<203):Asc (Str.ofString "texts "++aQ n)∧bn (cd (Str.ofString "texts "++aQ n))=jt∧bB (cd (Str.ofString "texts "++aQ n))=cd (aQ n):=by
 obtain⟨_,h2,h3⟩:=vA n h
 exact n8 (by rw[cL,tS]) (.inr (.inr rfl)) (fun c hc=>of_decide_eq_true (List.all_eq_true.mp h3 c hc)) (by lia)
theorem D9:∀(cs:List Nat),(bB cs).Sublist cs:=fun cs=>by
 unfold bB
 exact(List.drop_sublist _ _).trans (List.dropWhile_sublist _)
theorem Asc.rs{s:Str}(h:Asc s):Asc ⟨(bB (cd s)).toArray⟩:=by
 have sub:=D9 (cd s)
 constructor
 ·show((bB (cd s)).toArray).all _=true
  rw[Array.all_eq_true_iff_forall_mem]
  intro c hc
  have hc:c∈bB (cd s):=by simpa using hc
  have:=sub.subset hc
  have h1:=h.1
  rw[Array.all_eq_true_iff_forall_mem] at h1
  exact h1 c (by unfold cd at this;simpa using this)
 ·rw[pq]
  have:=sub.length_le
  have h2:=h.2
  rw[iM] at h2
  lia
section
variable(pt cT cC g1 g2 f1 f2 f3 f4 f5:Addr)
def D1(f:Addr)(sp:Sp):Prop:=(f=g1∧sp=im pt (ig cT))∨(f=g2∧sp=im pt (fB cT))
def D2(f:Addr)(sp:Sp):Prop:=(f=f1∧sp=dN pt gk)∨(f=f2∧sp=dN pt (dA cT))∨(f=f3∧sp=dN pt (dm cT cC))∨(f=f4∧sp=dN pt (dr cT cC))∨(f=f5∧sp=dN pt (fA cT))
def dR:List (az×V):=[(.inr "covers",.ref g1),(.inr "shortest",.ref g2)]
def fR:List (az×V):=[(.inr "lies",.ref f1),(.inr "laid",.ref f2),(.inr "fewest",.ref f3),(.inr "wrong",.ref f4),(.inr "ends",.ref f5)]
end
theorem bg{k:az}{v:V}{kvs:List (az×V)}{j:az}:aY ((k,v)::kvs) j=if k=j then some v else aY kvs j:=by
 unfold aY
 by_cases h:k=j
 ·rw[List.find?_cons_of_pos (p:=fun kv:az×V=>decide (kv.1=j)) (decide_eq_true h),if_pos h];rfl
 ·rw[List.find?_cons_of_neg (p:=fun kv:az×V=>decide (kv.1=j)) (fun z=>h (of_decide_eq_true z)),if_neg h]
theorem A9{pt cT cC cN cY g1 g2 f1 f2 f3 f4 f5:Addr}:∀d,(∀n,d≠ .tex n)→(∃g f,aY (dR g1 g2) (.inr (cB d))=some (.ref g)∧D1 pt cT g1 g2 g (im pt f)∧∀ot ow,bS cT cC cN cY d ot ow=match ot with | none=>.error cY | some t=>f t)∨
 (aY (dR g1 g2) (.inr (cB d))=none∧∃g f,aY (fR f1 f2 f3 f4 f5) (.inr (cB d))=some (.ref g)∧D2 pt cT cC f1 f2 f3 f4 f5 g (dN pt f)∧∀ot ow,bS cT cC cN cY d ot ow=match ot,ow with | some t,some u=>f t u | _,_=>.error cY)
 | .tex n,h=>absurd rfl (h n)
 | .cov,_=>.inl ⟨g1,ig cT,by unfold dR;rw[bg];exact if_pos rfl,.inl ⟨rfl,rfl⟩,fun ot ow=>by cases ot <;> rfl⟩
 | .sho,_=>.inl ⟨g2,fB cT,by unfold dR;rw[bg,if_neg (by decide+kernel),bg];exact if_pos rfl,.inr ⟨rfl,rfl⟩,fun ot ow=>by cases ot <;> rfl⟩
 | .lie,_=>.inr ⟨by unfold dR;rw[bg,if_neg (by decide+kernel),bg,if_neg (by decide+kernel)];rfl,f1,gk,by unfold fR;rw[bg];exact if_pos rfl,.inl ⟨rfl,rfl⟩,fun ot ow=>by cases ot <;> cases ow <;> rfl⟩
 | .laid,_=>.inr ⟨by unfold dR;rw[bg,if_neg (by decide+kernel),bg,if_neg (by decide+kernel)];rfl,f2,dA cT,by unfold fR;rw[bg,if_neg (by decide+kernel),bg];exact if_pos rfl,.inr (.inl ⟨rfl,rfl⟩),fun ot ow=>by cases ot <;> cases ow <;> rfl⟩
 | .few,_=>.inr ⟨by unfold dR;rw[bg,if_neg (by decide+kernel),bg,if_neg (by decide+kernel)];rfl,f3,dm cT cC,by unfold fR;rw[bg,if_neg (by decide+kernel),bg,if_neg (by decide+kernel),bg];exact if_pos rfl,.inr (.inr (.inl ⟨rfl,rfl⟩)),fun ot ow=>by cases ot <;> cases ow <;> rfl⟩
 | .wro,_=>.inr ⟨by unfold dR;rw[bg,if_neg (by decide+kernel),bg,if_neg (by decide+kernel)];rfl,f4,dr cT cC,by unfold fR;rw[bg,if_neg (by decide+kernel),bg,if_neg (by decide+kernel),bg,if_neg (by decide+kernel),bg];exact if_pos rfl,.inr (.inr (.inr (.inl ⟨rfl,rfl⟩))),fun ot ow=>by cases ot <;> cases ow <;> rfl⟩
 | .ends,_=>.inr ⟨by unfold dR;rw[bg,if_neg (by decide+kernel),bg,if_neg (by decide+kernel)];rfl,f5,fA cT,by unfold fR;rw[bg,if_neg (by decide+kernel),bg,if_neg (by decide+kernel),bg,if_neg (by decide+kernel),bg,if_neg (by decide+kernel),bg];exact if_pos rfl,.inr (.inr (.inr (.inr ⟨rfl,rfl⟩))),fun ot ow=>by cases ot <;> cases ow <;> rfl⟩
section
variable{P:Program}{w:World}{K:PySem.W.Frag}{mg:Str→Option Value}{base:Heap}{pt C cT cC cN cNF cY aOF_TEXT aOF_BOTH g1 g2 f1 f2 f3 f4 f5:Addr}
theorem scSay:FnScope ["self","row","name","blank","rest","deed"] ["self","row"] (al mK):=fsc_
theorem Ep(M:Md K mg)(B:Bl mg)(T:DeskT K mg C)(F:MF K C "say" "Desk.say" mK)(ONoForm:Exc K mg "NoForm" cNF)(Mtold_text:Mt P w K mg base (au P w) C "told_text" 1 ["self"] (jS C cY true))(Mtold_word:Mt P w K mg base (au P w) C "told_word" 1 ["self"] (jS C cY false))(Fare_letters:Fn P w K mg base ae "are_letters" 2 ["row"] ss)(Fis_length:Fn P w K mg base ae "is_length" 1 ["row"] rG)(Fcount_covered:Fn P w K mg base (au P w) "count_covered" 7 ["word","length"] (fun vs H Q E=>pK pt vs H Q E∨mS cN vs H Q E))
 (F1d:∀f sp,D1 pt cT g1 g2 f sp→∃ps,kT P w K mg base (au P w) 8 ps f sp)(F2d:∀f sp,D2 pt cT cC f1 f2 f3 f4 f5 f sp→∃ps,kT P w K mg base (au P w) 8 ps f sp)
 (gOF_TEXT:mg "OF_TEXT"=some (.ref aOF_TEXT))(gOF_BOTH:mg "OF_BOTH"=some (.ref aOF_BOTH))(dOF_TEXT:DK K P w aOF_TEXT (dR g1 g2))(dOF_BOTH:DK K P w aOF_BOTH (fR f1 f2 f3 f4 f5)):Mt P w K mg base (au P w) C "say" 9 ["self","row"] (pQ pt C cT cC cN cY):=by
 have cDesk:=T.cl
 refine lJ F scSay (fun _ _ _ _ _ _=>aZ fun _ _=>rfl) (fun vs H Q E h=>?_) (fun f cdv A outer s H vs Q E hr h=>?_)
 ·obtain⟨x,dx,row,t,wd,ot,ow,rfl,_⟩:=h;rfl
 ·obtain⟨x,dx,s0,t,wd,ot,ow,rfl,D,TT,h⟩:=h
  refine⟨_,(ad (aJ (hZ (fY (o9 B.isinst B.str j8 (pv 1)))) (ah (eE ONoForm ar)) aN)
   (ad (dO (cJ PySem.F.plainAttrs_str PySem.F.slot_str_partition PySem.F.type_str_partition zi (pv 1) (aa ar ac)) (dG rfl (bo (aT (i:=2) scSay.nd rfl (.inl rfl)) (bo (aT (i:=3) scSay.nd rfl (.inl rfl)) (bo (aT (i:=4) scSay.nd rfl (.inl rfl)) dP)))))
   (ad (aJ (PW.pt (dM (aC aW (pv 2) ar (aB _)) (dX (PW.pt (gR (aC aW (pv 4) ar (aB _)) (gX (fY (ai Fare_letters hr ak (aa (pv 4) ac))))))))) (ad (lL (pv 0) (iD (aC aW (pv 4) ar (aB _)) (aS ac) (rF rfl B.list (pv 4))) rfl)
   (ah (aw (lh (aG B.len (ij (pv 0) rfl)) (by decide+kernel))))) aN)
   (ad (aJ (PW.pt (dM (aC aW (pv 2) ar (aB _)) (dX (fY (ai Fare_letters hr ak (aa (pv 4) ac)))))) (ad (lL (pv 0) (rF rfl B.list (pv 4)) rfl)
   (ah (aw (lh (aG B.len (ij (pv 0) rfl)) (by decide+kernel))))) aN)
   (ad (aJ (PW.pt (dM (aC aW (pv 2) ar (aB _)) (dX (fY (ai Fis_length hr ak (aa (pv 4) ac)))))) (ah (aw (eC B.str (ai Fcount_covered hr aV (aa (jQ (pv 0) cDesk Mtold_word hr aV) (aa (Al B.int (pv 4)) ac)))))) aN)
   (ad (aJ (aC (sx dOF_TEXT) (pv 1) (gv (v:=.ref aOF_TEXT) (by rfl) gOF_TEXT rfl) (by with_unfolding_all rfl)) (ad (aA (i:=5) scSay.nd rfl (.inl rfl) (p9 dOF_TEXT (gv (v:=.ref aOF_TEXT) (by rfl) gOF_TEXT rfl) (pv 1) (fun _ _=>rfl)))
   (ah (aw (vC (pv 5) F1d hr aV (aa (jQ (pv 0) cDesk Mtold_text hr aV) ac))))) aN)
   (ad (aJ (aC (sx dOF_BOTH) (pv 1) (gv (v:=.ref aOF_BOTH) (by rfl) gOF_BOTH rfl) (by with_unfolding_all rfl)) (ad (aA (i:=5) scSay.nd rfl (.inl rfl) (p9 dOF_BOTH (gv (v:=.ref aOF_BOTH) (by rfl) gOF_BOTH rfl) (pv 1) (fun _ _=>rfl)))
   (ah (aw (vC (pv 5) F2d hr aV (aa (jQ (pv 0) cDesk Mtold_text hr aV) (aa (jQ (pv 0) cDesk Mtold_word hr aV) ac)))))) aN)
   (ah (eE ONoForm ar))))))))),?_⟩
  have asc:Asc s0:=by
   rcases h with⟨l,rfl,ll,l2,_⟩ | ⟨l,rfl,ll,l1,l2,_⟩ | ⟨d,rfl,od,_⟩
   ·exact(qG ll l2).1
   ·exact(sf ll l2).1
   ·cases d with
    | tex n=>exact(rW od).1
    | _=>exact(qm _ (by intro n;simp)).1
  refine⟨_,rfl,_,true,TyOf.str _,rfl,_,rfl,ao ?_⟩
  refine⟨_,rfl,rfl,s0," ",rfl,rfl,by decide+kernel,sz (by have:=asc.2;lia),fun q hq=>?_⟩
  obtain⟨mid,e3⟩:=Du s0
  rw[e3]
  have s1:=Same.upd (o:=.tup (List.map V.str [⟨(bn (cd s0)).toArray⟩,mid,⟨(bB (cd s0)).toArray⟩])) hq
  have hq1:=ag (H:=H) (a:=q) (o:=.tup (List.map V.str [⟨(bn (cd s0)).toArray⟩,mid,⟨(bB (cd s0)).toArray⟩]))
  generalize L2.upd H q (.tup (List.map V.str [⟨(bn (cd s0)).toArray⟩,mid,⟨(bB (cd s0)).toArray⟩]))=H1 at s1 hq1 ⊢
  refine⟨q,_,rfl,SqT.of hq1,rfl,_,_,rfl,_,_,rfl,_,_,rfl,rfl,?_⟩
  have ascR:=asc.rs
  have decN:∀z:Str,decide (V.str ⟨(bn (cd s0)).toArray⟩=V.str z)=decide (bn (cd s0)=cd z):=fun z=>by rw[gr,eT (bn (cd s0))]
  have decR:decide (V.str ⟨(bB (cd s0)).toArray⟩=V.str "-")=decide (bB (cd s0)=[45]):=by rw[gr,eT (bB (cd s0)),iX]
  have hx:=D.at_
  have hx1:=s1 _ _ hx
  have T1:=TT.same s1
  rcases h with⟨l,e,ll,l2,k⟩ | ⟨l,e,ll,l1,l2,k⟩ | ⟨d,e,od,k⟩
  ·obtain⟨_,e1,e2⟩:=qG ll l2
   rw[←e] at e1 e2
   refine⟨_,rfl,rfl,_,rfl,?_⟩
   rw[decN,j6,e1,decide_eq_true rfl]
   refine aE ⟨_,rfl,rfl,_,rfl,?_⟩
   rw[decR]
   by_cases hl:l=[]
   ·have e2':bB (cd s0)=[45]:=by rw[e2];unfold cK;rw[if_pos hl,iX]
    rw[decide_eq_true e2']
    refine aE (aE ⟨_,rfl,rfl,_,rfl,?_⟩)
    rw[decR,decide_eq_true e2']
    refine aE ⟨Nat.zero_le _,fun la hla=>?_⟩
    have s3:=s1.trans (Same.upd (o:=.lst []) hla)
    have hl3:(L2.upd H1 la (.lst [])) la=some (.lst (l.map sg)):=by rw[ag,hl];rfl
    generalize L2.upd H1 la (.lst [])=H3 at s3 hl3 ⊢
    have hx3:=s3 _ _ hx
    have nlx:la≠x:=cR hl3 hx3 (by intro z;cases z)
    refine⟨_,rfl,x,C,dx,_,rfl,hx3,T.cl,T.nT,(by show 2<1000;decide),?_⟩
    rw[rB]
    refine⟨_,rfl,x,C,dx,_,_,rfl,ag,T.cl,T.nT,jy _ _,la,_,rfl,SqL.of (by rw[ap nlx];exact hl3),_,rfl,by rw[List.length_map];exact cP (by lia),?_⟩
    rw[gF,List.length_map]
    refine k la _ ag (by rw[ap nlx];exact hl3) fun z o hz n=>?_
    rw[ap n];exact s3 _ _ hz
   ·have e2':bB (cd s0)=l:=by rw[e2];unfold cK;rw[if_neg hl,ip]
    have nd:l≠ [45]:=fun z=>by have:=ll 45 (by rw[z];simp);lia
    rw[e2',decide_eq_false nd]
    refine ao ⟨_,rfl,_,rfl,by rw[←e2'];exact ascR,fun H2 s2=>?_⟩
    rw[eT l,sW ll (List.length_pos_iff.mpr hl)]
    refine⟨_,rfl,aE ?_⟩
    refine⟨_,rfl,rfl,_,rfl,?_⟩
    rw[show decide (V.str ⟨l.toArray⟩=V.str "-")=false by rw[gr,eT l,iX,decide_eq_false nd]]
    refine ao ⟨_,rfl,_,rfl,sz (by rw[pq];lia),fun la hla=>?_⟩
    have s3:=(s1.trans s2).trans (Same.upd (o:=.lst (List.map sg (⟨l.toArray⟩:Str).cps.toList)) hla)
    have hl3:(L2.upd H2 la (.lst (List.map sg (⟨l.toArray⟩:Str).cps.toList))) la=some (.lst (l.map sg)):=by rw[ag]
    generalize L2.upd H2 la (.lst (List.map sg (⟨l.toArray⟩:Str).cps.toList))=H3 at s3 hl3 ⊢
    have hx3:=s3 _ _ hx
    have nlx:la≠x:=cR hl3 hx3 (by intro z;cases z)
    refine⟨_,rfl,x,C,dx,_,rfl,hx3,T.cl,T.nT,(by show 2<1000;decide),?_⟩
    rw[rB]
    refine⟨_,rfl,x,C,dx,_,_,rfl,ag,T.cl,T.nT,jy _ _,la,_,rfl,SqL.of (by rw[ap nlx];exact hl3),_,rfl,by rw[List.length_map];exact cP (by lia),?_⟩
    rw[gF,List.length_map]
    refine k la _ ag (by rw[ap nlx];exact hl3) fun z o hz n=>?_
    rw[ap n];exact s3 _ _ hz
  ·obtain⟨_,e1,e2⟩:=sf ll l2
   rw[←e] at e1 e2
   have d1:decide (V.str ⟨(bn (cd s0)).toArray⟩=V.str "text")=false:=by rw[decN,j6,e1];decide
   have d2:decide (V.str ⟨(bn (cd s0)).toArray⟩=V.str "word")=true:=by rw[decN,pi,e1];decide
   refine⟨_,rfl,rfl,_,rfl,?_⟩
   rw[d1]
   refine ao (ao ?_)
   refine⟨_,rfl,rfl,_,rfl,?_⟩
   rw[d2]
   refine aE ⟨_,rfl,_,rfl,ascR,fun H2 s2=>?_⟩
   rw[e2,eT l,sW ll l1]
   refine⟨_,rfl,aE ?_⟩
   refine⟨_,rfl,_,rfl,sz (by rw[pq];lia),fun la hla=>?_⟩
   have s3:=(s1.trans s2).trans (Same.upd (o:=.lst (List.map sg (⟨l.toArray⟩:Str).cps.toList)) hla)
   have hl3:(L2.upd H2 la (.lst (List.map sg (⟨l.toArray⟩:Str).cps.toList))) la=some (.lst (l.map sg)):=by rw[ag]
   generalize L2.upd H2 la (.lst (List.map sg (⟨l.toArray⟩:Str).cps.toList))=H3 at s3 hl3 ⊢
   have hx3:=s3 _ _ hx
   have nlx:la≠x:=cR hl3 hx3 (by intro z;cases z)
   refine⟨_,rfl,x,C,dx,_,rfl,hx3,T.cl,T.nW,(by show 2<1000;decide),?_⟩
   rw[zz]
   refine⟨_,rfl,x,C,dx,_,_,rfl,ag,T.cl,T.nW,oJ _ _,la,_,rfl,SqL.of (by rw[ap nlx];exact hl3),_,rfl,by rw[List.length_map];exact cP (by lia),?_⟩
   rw[gF,List.length_map]
   refine k la _ ag (by rw[ap nlx];exact hl3) fun z o hz n=>?_
   rw[ap n];exact s3 _ _ hz
  ·have nT:¬(("told_text":Str)="word")∧¬(("told_text":Str)="text")∧¬(("told_word":Str)="word")∧¬(("told_word":Str)="text"):=by decide+kernel
   by_cases hd:∃n,d=.tex n
   ·obtain⟨n,rfl⟩:=hd
    obtain⟨_,e1,e2⟩:=rW od
    rw[←(show s0=Str.ofString "texts "++aQ n from e)] at e1 e2
    have d1:decide (V.str ⟨(bn (cd s0)).toArray⟩=V.str "text")=false:=by rw[decN,j6,e1];decide
    have d2:decide (V.str ⟨(bn (cd s0)).toArray⟩=V.str "word")=false:=by rw[decN,pi,e1];decide
    have d3:decide (V.str ⟨(bn (cd s0)).toArray⟩=V.str "texts")=true:=by rw[decN,nH,e1];decide
    refine⟨_,rfl,rfl,_,rfl,?_⟩
    rw[d1]
    refine ao (ao ?_)
    refine⟨_,rfl,rfl,_,rfl,?_⟩
    rw[d2]
    refine ao (ao ?_)
    refine⟨_,rfl,rfl,_,rfl,?_⟩
    rw[d3]
    refine aE ⟨_,rfl,_,rfl,ascR,fun H2 s2=>?_⟩
    rw[eT (bB (cd s0)),e2,(vA n od).1]
    refine⟨_,rfl,aE ?_⟩
    have s02:=s1.trans s2
    have hx2:=s02 _ _ hx
    have T2:=TT.same s02
    refine⟨_,rfl,x,dx,_,rfl,hx2,dk _ _ nT.2.2.1 nT.2.2.2,x,dx,t,wd,rfl,hx2,fun ew=>?_,fun ew=>?_⟩
    ·cases ow with
     | none=>exact k.er (by cases ot <;> rfl) TT s02
     | some u=>obtain⟨b,rfl,_⟩:=D.hw;cases ew
    ·cases ow with
     | none=>exact absurd D.hw ew
     | some u=>
       obtain⟨b,rfl,hb⟩:=D.hw
       obtain⟨lu,u1,ul⟩:=D.lw u rfl
       have ea:bS cT cC cN cY (.tex n) ot (some u)=gG cN n u:=by cases ot <;> rfl
       rw[ea] at k
       have n1000:n<203:=od
       refine⟨_,rfl,(n:Int),by rw[fE];rfl,by lia,by lia,?_⟩
       by_cases hn:1≤n∧n≤200
       ·refine .inl ⟨b,u,n,rfl,s02 _ _ hb,lu,u1,by lia,hn.1,hn.2,T2,fun H3 k3 T3=>⟨_,rfl,qh u u1 hn.2,?_⟩⟩
        have:=k H3 (fun z o e n=>k3 _ _ (s02 _ _ e) n) T3
        unfold gG at this
        rw[if_pos hn] at this
        exact this
       ·exact .inr ⟨b,u,n,rfl,s02 _ _ hb,lu,u1,hn,fun H3 s3=>k.er (if_neg hn) TT (s02.trans s3)⟩
   ·have hp:∀n,d≠ .tex n:=fun n z=>hd ⟨n,z⟩
    obtain⟨_,p1,p2,p3⟩:=qm d hp
    rw[←e] at p1 p2 p3
    have d1:decide (V.str ⟨(bn (cd s0)).toArray⟩=V.str "text")=false:=by rw[decN,j6,decide_eq_false p1]
    have d2:decide (V.str ⟨(bn (cd s0)).toArray⟩=V.str "word")=false:=by rw[decN,pi,decide_eq_false p2]
    have d3:decide (V.str ⟨(bn (cd s0)).toArray⟩=V.str "texts")=false:=by rw[decN,nH,decide_eq_false p3]
    refine⟨_,rfl,rfl,_,rfl,?_⟩
    rw[d1]
    refine ao (ao ?_)
    refine⟨_,rfl,rfl,_,rfl,?_⟩
    rw[d2]
    refine ao (ao ?_)
    refine⟨_,rfl,rfl,_,rfl,?_⟩
    rw[d3]
    refine ao (ao ?_)
    rcases A9 (pt:=pt) (cT:=cT) (cC:=cC) (cN:=cN) (cY:=cY) (g1:=g1) (g2:=g2) (f1:=f1) (f2:=f2) (f3:=f3) (f4:=f4) (f5:=f5) d hp with⟨g,ff,v1,dd,ea⟩ | ⟨v0,g,ff,v1,dd,ea⟩
    ·rw[←e] at v1
     refine⟨_,rfl,rfl,.inr s0,rfl,_,rfl,?_⟩
     rw[v1]
     refine aE ?_
     refine⟨_,rfl,rfl,.inr s0,.ref g,rfl,v1,?_⟩
     refine⟨g,_,rfl,dd,_,rfl,x,dx,_,rfl,hx1,dk _ _ nT.1 nT.2.1,x,dx,t,wd,rfl,hx1,fun et=>?_,fun et=>?_⟩
     ·cases ot with
      | none=>exact k.er (ea none ow) TT s1
      | some l=>obtain⟨a,rfl,_⟩:=D.ht;cases et
     ·cases ot with
      | none=>exact absurd D.ht et
      | some l=>
        obtain⟨a,rfl,ha⟩:=D.ht
        obtain⟨ll,l2⟩:=D.lt l rfl
        refine⟨a,l,rfl,s1 _ _ ha,ll,l2,T1,fun H3 k3 T3=>?_⟩
        have:=k H3 (fun z o e n=>k3 _ _ (s1 _ _ e) n) T3
        rw[ea] at this
        exact this
    ·rw[←e] at v0 v1
     refine⟨_,rfl,rfl,.inr s0,rfl,_,rfl,?_⟩
     rw[v0]
     refine ao ?_
     refine⟨_,rfl,rfl,.inr s0,rfl,_,rfl,?_⟩
     rw[v1]
     refine aE ?_
     refine⟨_,rfl,rfl,.inr s0,.ref g,rfl,v1,?_⟩
     refine⟨g,_,rfl,dd,_,rfl,x,dx,_,rfl,hx1,dk _ _ nT.1 nT.2.1,x,dx,t,wd,rfl,hx1,fun et=>?_,fun et=>?_⟩
     ·cases ot with
      | none=>exact k.er ((ea none ow).trans rfl) TT s1
      | some l=>obtain⟨a,rfl,_⟩:=D.ht;cases et
     ·cases ot with
      | none=>exact absurd D.ht et
      | some l=>
        obtain⟨a,rfl,ha⟩:=D.ht
        obtain⟨ll,l2⟩:=D.lt l rfl
        refine⟨_,rfl,x,dx,_,rfl,hx1,dk _ _ nT.2.2.1 nT.2.2.2,x,dx,_,wd,rfl,hx1,fun ew=>?_,fun ew=>?_⟩
        ·cases ow with
         | none=>exact k.er ((ea (some l) none).trans rfl) TT s1
         | some u=>obtain⟨b,rfl,_⟩:=D.hw;cases ew
        ·cases ow with
         | none=>exact absurd D.hw ew
         | some u=>
           obtain⟨b,rfl,hb⟩:=D.hw
           obtain⟨lu,u1,ul⟩:=D.lw u rfl
           refine⟨a,b,l,u,rfl,s1 _ _ ha,s1 _ _ hb,ll,lu,l2,u1,ul,T1,fun H3 k3 T3=>?_⟩
           have:=k H3 (fun z o e n=>k3 _ _ (s1 _ _ e) n) T3
           rw[ea] at this
           exact this
end
abbrev ou:Stmt:=aH 68
def nyF:List Bool:=[false,false,false,false,false,false,false,false,true,false]
def gm(cW cS cT cM cH cC cF cN cY:Addr)(D:Addr):List Bool:=[D == cW,D == cS,D == cT,D == cM,D == cH,D == cC,D == cF,D == cN,D == cY,false]
def mv(fl:Addr→List Bool)(L:List Addr):Sp:=fun vs H Q _=>∃(e D:Addr),vs=[.ref e]∧H e=some (.ext (cx e (.ref D)))∧D∈L∧∀(r:Addr) (H':Hp),H r=none→H' r=some (.lst ((fl D).map V.bl))→Same H H'→Q (.ref r) H'
section
variable{P:Program}{w:World}{K:PySem.W.Frag}{mg:Str→Option Value}{base:Heap}{cCoverError cNoWord cNoSign cNoText cNoCover cNoChain cNoForm cNoNumber cNoneYet cTooMany:Addr}
theorem C3(nd:[cNoWord,cNoSign,cNoText,cNoCover,cNoChain,cNoForm,cNoNumber,cNoneYet,cTooMany].Nodup):gm cNoWord cNoSign cNoText cTooMany cNoChain cNoCover cNoForm cNoNumber cNoneYet cNoneYet=nyF:=by
 have ne:∀x y:Addr,x≠y→(x == y)=false:=fun x y q=>beq_eq_false_iff_ne.mpr q
 simp only[List.nodup_cons,List.mem_cons,List.not_mem_nil,or_false,not_or] at nd
 obtain⟨⟨_,_,_,_,a5,a6,a7,a8⟩,⟨_,_,_,b5,b6,b7,b8⟩,⟨_,_,c5,c6,c7,c8⟩,⟨_,d5,d6,d7,d8⟩,⟨e5,e6,e7,e8⟩,⟨f6,f7,f8⟩,⟨g7,g8⟩,h8,_⟩:=nd
 unfold gm
 rw[ne _ _ (Ne.symm a7),ne _ _ (Ne.symm b7),ne _ _ (Ne.symm c7),ne _ _ h8,ne _ _ (Ne.symm e7),ne _ _ (Ne.symm d7),ne _ _ (Ne.symm f7),ne _ _ (Ne.symm g7),beq_self_eq_true];rfl
theorem scClass:FnScope ["e","flags"] ["e"] (al ou):=fsc_
theorem yi(M:Md K mg)(B:Bl mg)(F:FF K "_law_class" ou)(S:Exs K mg cCoverError cNoWord cNoSign cNoText cNoCover cNoChain cNoForm cNoNumber cNoneYet cTooMany):FnH P w K mg base "_law_class" 1 ["e"] (mv (gm cNoWord cNoSign cNoText cTooMany cNoChain cNoCover cNoForm cNoNumber cNoneYet) [cNoWord,cNoSign,cNoText,cNoCover,cNoChain,cNoForm,cNoNumber,cNoneYet,cTooMany]):=by
 obtain⟨bCoverError,bNoWord,bNoSign,bNoText,bNoCover,bNoChain,bNoForm,bNoNumber,bNoneYet,bTooMany,nValueError,facts,nd⟩:=S
 refine xQ M F scClass (fun _ _ _ _ _ _=>br fun _=>rfl) (fun vs H Q E h=>?_) (fun f cdv A outer s H vs Q hr h=>?_)
 ·obtain⟨e,D,rfl,_⟩:=h;rfl
 ·obtain⟨e,D,rfl,hH,hm,k⟩:=h
  have hF:=excFacts.of facts D hm
  refine⟨_,(ad (aA (i:=1) scClass.nd rfl (.inl rfl) (aS (aa (fm B.isinst bNoWord (pv 0)) (aa (fm B.isinst bNoSign (pv 0)) (aa (fm B.isinst bNoText (pv 0)) (aa (fm B.isinst bTooMany (pv 0)) ac))))))
   (ad (aA (i:=1) scClass.nd rfl (.inl rfl) (aq dU (pv 1) (aS (aa (fm B.isinst bNoChain (pv 0)) (aa (fm B.isinst bNoCover (pv 0)) (aa (fm B.isinst bNoForm (pv 0)) (aa (fm B.isinst bNoNumber (pv 0)) ac)))))))
   (ah (aw (aq dU (pv 1) (aS (aa (fm B.isinst bNoneYet (pv 0)) (aa (Eh (xM B.isinst nValueError Da (pv 0))) ac)))))))),?_⟩
  refine bU ?_
  refine⟨_,rfl,e,D,_,rfl,hH,hF.kit,hF.one cNoWord (by simp),_,rfl,e,D,_,rfl,hH,hF.kit,hF.one cNoSign (by simp),_,rfl,e,D,_,rfl,hH,hF.kit,hF.one cNoText (by simp),_,rfl,e,D,_,rfl,hH,hF.kit,hF.one cTooMany (by simp),by show 4≤sizeLine;decide,fun l hl=>?_⟩
  have s1:=Same.upd (o:=.lst [V.bl (D == cNoWord),.bl (D == cNoSign),.bl (D == cNoText),.bl (D == cTooMany)]) hl
  have hl1:=ag (H:=H) (a:=l) (o:=.lst [V.bl (D == cNoWord),.bl (D == cNoSign),.bl (D == cNoText),.bl (D == cTooMany)])
  generalize L2.upd H l (.lst [V.bl (D == cNoWord),.bl (D == cNoSign),.bl (D == cNoText),.bl (D == cTooMany)])=H2 at s1 hl1 ⊢
  have hH2:=s1 _ _ hH
  refine bU ?_
  refine⟨_,rfl,_,rfl,e,D,_,rfl,hH2,hF.kit,hF.one cNoChain (by simp),_,rfl,e,D,_,rfl,hH2,hF.kit,hF.one cNoCover (by simp),_,rfl,e,D,_,rfl,hH2,hF.kit,hF.one cNoForm (by simp),_,rfl,e,D,_,rfl,hH2,hF.kit,hF.one cNoNumber (by simp),by show 4≤sizeLine;decide,fun l2 hl2=>?_⟩
  have s2:=Same.upd (o:=.lst [V.bl (D == cNoChain),.bl (D == cNoCover),.bl (D == cNoForm),.bl (D == cNoNumber)]) hl2
  have hl22:=ag (H:=H2) (a:=l2) (o:=.lst [V.bl (D == cNoChain),.bl (D == cNoCover),.bl (D == cNoForm),.bl (D == cNoNumber)])
  generalize L2.upd H2 l2 (.lst [V.bl (D == cNoChain),.bl (D == cNoCover),.bl (D == cNoForm),.bl (D == cNoNumber)])=H3 at s2 hl22 ⊢
  refine⟨l,l2,_,_,rfl,rfl,s2 _ _ hl1,hl22,by show 8≤sizeLine;decide,fun l3 hl3=>?_⟩
  have s3:=Same.upd (o:=.lst ([V.bl (D == cNoWord),.bl (D == cNoSign),.bl (D == cNoText),.bl (D == cTooMany)]++[V.bl (D == cNoChain),.bl (D == cNoCover),.bl (D == cNoForm),.bl (D == cNoNumber)])) hl3
  have hl33:=ag (H:=H3) (a:=l3) (o:=.lst ([V.bl (D == cNoWord),.bl (D == cNoSign),.bl (D == cNoText),.bl (D == cTooMany)]++[V.bl (D == cNoChain),.bl (D == cNoCover),.bl (D == cNoForm),.bl (D == cNoNumber)]))
  generalize L2.upd H3 l3 (.lst ([V.bl (D == cNoWord),.bl (D == cNoSign),.bl (D == cNoText),.bl (D == cTooMany)]++[V.bl (D == cNoChain),.bl (D == cNoCover),.bl (D == cNoForm),.bl (D == cNoNumber)]))=H4 at s3 hl33 ⊢
  have hH4:=s3 _ _ (s2 _ _ hH2)
  refine⟨_,rfl,_,rfl,e,D,_,rfl,hH4,hF.kit,hF.one cNoneYet (by simp),_,rfl,e,D,_,rfl,hH4,hF.kit,hF.val,_,rfl,by show 2≤sizeLine;decide,fun l4 hl4=>?_⟩
  have s4:=Same.upd (o:=.lst [V.bl (D == cNoneYet),.bl false]) hl4
  have hl44:=ag (H:=H4) (a:=l4) (o:=.lst [V.bl (D == cNoneYet),.bl false])
  refine⟨l3,l4,_,_,rfl,rfl,s4 _ _ hl33,hl44,by show 10≤sizeLine;decide,fun l5 hl5=>?_⟩
  have s14:=((s1.trans s2).trans s3).trans s4
  exact k l5 _ (s14.free hl5) ag (s14.trans (Same.upd hl5))
end
abbrev mU:Stmt:=aH 69
theorem qA{K:PySem.W.Frag}{C:Addr}{i:Nat}{tb:St→XK→TS}{th rest:TS}{D:Ends}{σ:St}{H:Hp}(T:St→Hp→Prop)(hr:∀σ' H',T σ' H'→rest D σ' H')(h:∀R:St→Hp→Prop,(∀σ' H',T σ' H'→R σ' H')→kU K C i tb th {D with nx:=R} σ H):ic (kU K C i tb th) rest D σ H:=h (rest D) hr
theorem lP{K:PySem.W.Frag}{C:Addr}{i:Nat}{tb:St→XK→TS}{th:TS}{D:Ends}{σ:St}{H:Hp}(Ex:XK)(hEx:∀cls o H',Ex cls o H'→PySem.W.exmOne K cls (.ref C)=some true∧∀e,H' e=none→th (D.drop i) (σ.set i (some (.ref e))) (L2.upd H' e (.ext (cx e cls))))(hb:∀Ex':XK,(∀cls o H',Ex cls o H'→Ex' cls o H')→tb σ Ex' D σ H):kU K C i tb th D σ H:=hb _ hEx
def Tells(fl:Addr→List Bool)(H:Hp)(v:V):bP→Prop
 | .ok s=>v=.str s
 | .error c=>∃r,v=.ref r∧H r=some (.lst ((fl c).map V.bl))
theorem Tells.keep{fl:Addr→List Bool}{H H':Hp}{v:V}{o:bP}{pt:Addr}(h:Tells fl H v o)(T:TB H pt)(k:bz pt H H'):Tells fl H' v o:=by
 cases o with
 | ok s=>exact h
 | error c=>obtain⟨r,e,q⟩:=h;exact⟨r,e,k _ _ q (T.ne q)⟩
def sE(fl:Addr→List Bool)(pt:Addr)(H:Hp)(o:bP)(Q:VK):Prop:=∀v H',bz pt H H'→TB H' pt→Tells fl H' v o→Q v H'
def qo(fl:Addr→List Bool)(pt C cT cC cN cY:Addr):Sp:=fun vs H Q _=>∃(x dx:Addr) (row:Str) (t w:V) (ot ow:Option (List Nat)),vs=[.ref x,.str row]∧DS C H x dx t w ot ow∧TB H pt∧
 ((∃l:List Nat,row=Str.ofString "text "++cK l∧Low l∧l.length≤200∧∀a H',H' x=some (.ins C dx (bY (.ref a) w))→H' a=some (.lst (l.map sg))→bz x H H'→Q (.str (Str.ofString "signs "++aQ l.length)) H')∨
  (∃l:List Nat,row=Str.ofString "word "++cV l∧Low l∧1≤l.length∧l.length≤200∧∀a H',H' x=some (.ins C dx (bY t (.ref a)))→H' a=some (.lst (l.map sg))→bz x H H'→Q (.str (Str.ofString "signs "++aQ l.length)) H')∨
  (∃d:Deed,row=cB d∧jX d∧sE fl pt H (bS cT cC cN cY d ot ow) Q))
theorem rN{cT cC cN cY c:Addr}:∀{d:Deed} {ot ow:Option (List Nat)},bS cT cC cN cY d ot ow=.error c→c=cT∨c=cC∨c=cN∨c=cY:=by
 intro d ot ow h
 have er:∀{a b:Addr},(Except.error a:bP)=.error b→b=a:=fun e=>(Except.error.inj e).symm
 unfold bS at h
 split at h
 ·unfold ig at h;split at h
  ·exact .inl (er h)
  ·cases h
 ·unfold fB at h;split at h
  ·exact .inl (er h)
  ·cases h
 ·cases h
 ·unfold dA at h;split at h
  ·exact .inl (er h)
  ·split at h <;> cases h
 ·unfold dm at h;split at h
  ·exact .inl (er h)
  ·split at h
   ·exact .inr (.inl (er h))
   ·cases h
 ·unfold dr at h;split at h
  ·exact .inl (er h)
  ·split at h
   ·cases h
   ·exact .inr (.inl (er h))
 ·unfold fA at h;split at h
  ·exact .inl (er h)
  ·cases h
 ·unfold gG at h;split at h
  ·cases h
  ·exact .inr (.inr (.inl (er h)))
 ·exact .inr (.inr (.inr (er h)))
section
variable{P:Program}{w:World}{K:PySem.W.Frag}{mg:Str→Option Value}{base:Heap}{pt C cCoverError cNoWord cNoSign cNoText cNoCover cNoChain cNoForm cNoNumber cNoneYet cTooMany:Addr}{fl:Addr→List Bool}
theorem scSaid:FnScope ["desk","row","found","e"] ["desk","row"] (al mU):=fsc_
theorem Dh(M:Md K mg)(B:Bl mg)(T:DeskT K mg C)(F:FF K "_law_said" mU)(S:Exs K mg cCoverError cNoWord cNoSign cNoText cNoCover cNoChain cNoForm cNoNumber cNoneYet cTooMany)(Msay:Mt P w K mg base (au P w) C "say" 9 ["self","row"] (pQ pt C cNoText cNoCover cNoNumber cNoneYet))(F_law_class:FnH P w K mg base "_law_class" 1 ["e"] (mv fl [cNoWord,cNoSign,cNoText,cNoCover,cNoChain,cNoForm,cNoNumber,cNoneYet,cTooMany])):Fn P w K mg base ae "_law_said" 10 ["desk","row"] (qo fl pt C cNoText cNoCover cNoNumber cNoneYet):=by
 have cDesk:=T.cl
 have bCoverError:=S.bCoverError
 have nS:¬(("say":Str)="word")∧¬(("say":Str)="text"):=by decide+kernel
 refine aP M F scSaid (fun _ _ _ _ _ _=>aZ fun _ _=>rfl) (fun vs H Q E h=>?_) (fun f cdv A outer s H vs Q E hr h=>?_)
 ·obtain⟨x,dx,row,t,wd,ot,ow,rfl,_⟩:=h;rfl
 ·obtain⟨x,dx,row,t,wd,ot,ow,rfl,D,TT,h⟩:=h
  refine⟨_,(ad (aA (i:=2) scSaid.nd rfl (.inl rfl) dj)
   (ad (tQ (i:=3) bCoverError scSaid.nd rfl rfl (fun _ _ _=>by exact(ah (aA (i:=2) scSaid.nd rfl (.inl rfl) (y7 (pv 0) cDesk Msay hr (aa (pv 1) ac)))))
   (fun _ _=>by exact(ah (aA (i:=2) scSaid.nd rfl (.inl rfl) (qc F_law_class (vt hr) (aa (pv 3) ac))))))
   (ah (aw (pv 2))))),?_⟩
  refine kF ?_
  refine qA (fun σ H'=>∃v,σ[2]?=some (some v)∧Q v H') (fun σ H' h=>?_) fun R hR=>?_
  ·obtain⟨v,hv,q⟩:=h
   exact⟨_,hv,q⟩
  have hx:=D.at_
  rcases h with⟨l,e,ll,l2,k⟩ | ⟨l,e,ll,l1,l2,k⟩ | ⟨d,e,od,k⟩
  ·refine lP (fun _ _ _=>False) (fun _ _ _ z=>z.elim) fun Ex hEx=>?_
   refine⟨rfl,_,rfl,x,dx,_,rfl,hx,dk _ _ nS.1 nS.2,_,rfl,x,dx,row,t,wd,ot,ow,rfl,D,TT,?_⟩
   exact .inl ⟨l,e,ll,l2,fun a H' h1 h2 h3=>hR _ _ ⟨_,rfl,k a H' h1 h2 h3⟩⟩
  ·refine lP (fun _ _ _=>False) (fun _ _ _ z=>z.elim) fun Ex hEx=>?_
   refine⟨rfl,_,rfl,x,dx,_,rfl,hx,dk _ _ nS.1 nS.2,_,rfl,x,dx,row,t,wd,ot,ow,rfl,D,TT,?_⟩
   exact .inr (.inl ⟨l,e,ll,l1,l2,fun a H' h1 h2 h3=>hR _ _ ⟨_,rfl,k a H' h1 h2 h3⟩⟩)
  ·refine lP (fun cls _ H'=>∃c,cls=.ref c∧bS cNoText cNoCover cNoNumber cNoneYet d ot ow=.error c∧bz pt H H'∧TB H' pt) ?_ fun Ex hEx=>?_
   ·rintro _ _ H' ⟨c,rfl,ea,k',T'⟩
    have hm:c∈[cNoWord,cNoSign,cNoText,cNoCover,cNoChain,cNoForm,cNoNumber,cNoneYet,cTooMany]:=by rcases rN ea with rfl | rfl | rfl | rfl <;> simp
    refine⟨(excFacts.of S.facts c hm).exm,fun e he=>?_⟩
    have se:=Same.upd (o:=.ext (cx e (.ref c))) he
    refine⟨_,rfl,e,c,rfl,ag,hm,fun r H2 hr0 hr2 s2=>hR _ _ ⟨.ref r,rfl,?_⟩⟩
    refine k _ _ (fun z o q n=>s2 _ _ (se _ _ (k' _ _ q n))) ((T'.same se).same s2) ?_
    rw[ea]
    exact⟨r,rfl,hr2⟩
   ·refine⟨rfl,_,rfl,x,dx,_,rfl,hx,dk _ _ nS.1 nS.2,_,rfl,x,dx,row,t,wd,ot,ow,rfl,D,TT,.inr (.inr ⟨d,e,od,fun H' k' T'=>?_⟩)⟩
    cases ea:bS cNoText cNoCover cNoNumber cNoneYet d ot ow with
    | ok z=>exact hR _ _ ⟨_,rfl,k _ _ k' T' (by rw[ea];rfl)⟩
    | error c=>exact hEx _ _ _ ⟨c,rfl,ea,k',T'⟩
end
abbrev mD:Stmt:=aH 70
abbrev pX:Stmt:=aH 71
def jK(ks:List Nat):Str:=if ks=[] then Str.ofString "-" else dW ks
def sY:Sp:=fun vs H Q _=>∃(a:Addr) (ks:List Nat),vs=[.ref a]∧H a=some (.lst (aj ks))∧Small ks∧∀H',Same H H'→Q (.str (jK ks)) H'
theorem Ay(ks:List Nat):dW ks++(if decide (ks.map (fun(k:Nat)=>(k:Int))=[]) then Str.ofString "-" else Str.empty)=jK ks:=by
 unfold jK
 cases ks with
 | nil=>rw[if_pos rfl,if_pos (by decide)];exact(by decide+kernel:dW []++Str.ofString "-"=Str.ofString "-")
 | cons a l=>rw[if_neg (List.cons_ne_nil _ _),if_neg (by simp),nc]
def eK:Deed→Str
 | .tex _=>"texts"
 | d=>cB d
def ka(d:Deed)(n:Int):Prop:=match d with | .tex m=>n=(m:Int)∧m<203 | _=>True
def mF:Deed→Option (List Nat)→Option (List Nat)→Prop
 | .cov,ot,_=>ot≠none
 | .sho,ot,_=>ot≠none
 | .tex _,_,ow=>ow≠none
 | _,ot,ow=>ot≠none∧ow≠none
structure Two(H:Hp)(t w:V)(ot ow:Option (List Nat)):Prop where
 ht:Hold H t ot
 hw:Hold H w ow
 lt:∀l,ot=some l→Low l∧l.length≤200
 lw:∀l,ow=some l→Low l∧1≤l.length∧l.length≤200
def r8(pt cT cC cN cY:Addr):Sp:=fun vs H Q E=>∃(d:Deed) (t w:V) (n:Int) (ot ow:Option (List Nat)),vs=[.str (eK d),t,w,.int n]∧ka d n∧Two H t w ot ow∧mF d ot ow∧TB H pt∧outK pt H (bS cT cC cN cY d ot ow) Q E
section
variable{P:Program}{w:World}{K:PySem.W.Frag}{mg:Str→Option Value}{base:Heap}{pt cT cC cN cY:Addr}
theorem yA:FnScope ["numbers"] ["numbers"] (al mD):=fsc_
theorem CO(M:Md K mg)(B:Bl mg)(F:FF K "_law_numbers" mD):Fn P w K mg base ae "_law_numbers" 2 ["numbers"] sY:=by
 refine aP M F yA (fun _ _ _ _ _ _=>br fun _=>rfl) (fun vs H Q E h=>?_) (fun f cdv A outer s H vs Q E hr h=>?_)
 ·obtain⟨a,ks,rfl,_⟩:=h;rfl
 ·obtain⟨a,ks,rfl,ha,sm,k⟩:=h
  refine⟨_,(ah (aw (aq df (cJ PySem.F.plainAttrs_str PySem.F.slot_str_join PySem.F.type_str_join fF ar (aa (ce ["numbers"] rfl (cq (pv 0)) (fun _=>by exact di) (fun _=>by exact(eC B.str (pv 1)))) ac)) (aq oj ar (jL B.int (eh (tV (by exact hr)) (pv 0) (aS ac) (aB _))))))),?_⟩
  have kl:=sm.len
  refine⟨rfl,_,rfl,a,rfl,⟨_,SqL.of ha⟩,fun D hD cb=>?_⟩
  refine eI (K:=K) (a:=a) (xs:=aj ks) (fun i ys H2=>ys=((ks.take i).map aQ).map V.str∧Same H H2∧H2 D=some (.lst ys)) (by rw[aL];exact bD (by lia)) ?_ ?_ ?_ ?_ ?_
  ·exact⟨rfl,Same.upd hD,ag⟩
  ·rintro i ys H2 ⟨rfl,_⟩
   rw[List.length_map,List.length_map,List.length_take];lia
  ·rintro i ys H2 _ ⟨_,s2,_⟩;exact SqL.of (s2 _ _ ha)
  ·rintro i x ys H2 hx ⟨rfl,s2,hD2⟩
   obtain⟨n,hn,rfl⟩:=fq hx
   have:=sm.le n (List.mem_of_getElem? hn)
   refine dI ⟨_,rfl,_,rfl,cP (by lia),hD2,?_,fun z o e=>?_,ag⟩
   ·rw[List.take_add_one,hn,List.map_append,List.map_append];rfl
   ·rw[ap (aK e hD)];exact s2 _ _ e
  ·rintro ys H2 ⟨rfl,s2,hD2⟩
   rw[List.take_of_length_le (by rw[aL];exact Nat.le_refl _)] at hD2
   refine⟨_,D,ks.map aQ,rfl,rfl,hD2,sK sm,?_⟩
   refine⟨_,rfl,Nat.zero_le _,fun l hl=>?_⟩
   have s3:=s2.trans (Same.upd (o:=.lst []) hl)
   refine⟨a,l,ks.map (fun(k:Nat)=>(k:Int)),[],rfl,rfl,SqL.of (s3 _ _ ha),SqL.of ag,_,rfl,?_⟩
   refine⟨_,_,rfl,rfl,sz (by decide+kernel),?_⟩
   refine⟨_,_,rfl,rfl,?_,?_⟩
   ·have h1:=nO sm
    have h2:∀b:Bool,(if b=true then Str.ofString "-" else Str.empty).length≤1:=fun b=>by cases b <;> decide+kernel
    exact Nat.le_trans (Nat.add_le_add h1 (h2 _)) (by decide)
   ·have:=k _ s3
    rw[←Ay] at this
    exact this
theorem vE{t u:List Nat}(t1:1≤t.length)(u1:1≤u.length)(h:bj t.length u.length (aD t u)=t.length):bq t.length u.length (aD t u) 0≠ []:=by
 have C:Cvr t.length u.length (aD t u):=⟨u1,ja t u,fun q hq=>jf hq u1,h⟩
 obtain⟨r,e,_⟩:=jH C _ 0 (Nat.le_refl _) (tZ t1 h)
 rw[e];exact List.cons_ne_nil _ _
theorem pA{ks:List Nat}(h:ks≠ []):jK ks=dW ks:=if_neg h
theorem scOf:FnScope ["row","text","word","length","kind","told","cost","chain"] ["row","text","word","length"] (al pX):=fsc_
theorem zw(M:Md K mg)(B:Bl mg)(F:FF K "_law_of" pX)(F_law_numbers:Fn P w K mg base ae "_law_numbers" 2 ["numbers"] sY)(Fall_covers:Fn P w K mg base (au P w) "all_covers" 6 ["text"] (fun vs H Q E=>kR vs H Q E∨dF cT vs H Q E))(Fshortest_cover:Fn P w K mg base (au P w) "shortest_cover" 7 ["text"] (fun vs H Q E=>pc vs H Q E∨dF cT vs H Q E))
 (Flies_at:Fn P w K mg base ae "lies_at" 4 ["text","word"] gS)(Fcovered:Fn P w K mg base (au P w) "covered" 5 ["text","word"] (fun vs H Q E=>gs vs H Q E∨bL cT vs H Q E))(Ffewest_layings:Fn P w K mg base (au P w) "fewest_layings" 6 ["text","word"] (fun vs H Q E=>mz vs H Q E∨(bL cT vs H Q E∨oi cT cC vs H Q E)))
 (Ffewest_wrong:Fn P w K mg base (au P w) "fewest_wrong" 7 ["text","word"] (fun vs H Q E=>nY cC vs H Q E∨i8 cT vs H Q E))(Frest_behind:Fn P w K mg base (au P w) "rest_behind" 5 ["text","word"] (fun vs H Q E=>eU false true vs H Q E∨bL cT vs H Q E))(Frest_ahead:Fn P w K mg base (au P w) "rest_ahead" 5 ["text","word"] (fun vs H Q E=>eU true false vs H Q E∨bL cT vs H Q E))
 (Frest_both:Fn P w K mg base (au P w) "rest_both" 5 ["text","word"] (fun vs H Q E=>eU true true vs H Q E∨bL cT vs H Q E))(Fcount_covered:Fn P w K mg base (au P w) "count_covered" 7 ["word","length"] (fun vs H Q E=>pK pt vs H Q E∨mS cN vs H Q E)):Fn P w K mg base (au P w) "_law_of" 8 ["row","text","word","length"] (r8 pt cT cC cN cY):=by
 refine bK M F scOf (fun _ _ _ _ _ _=>iB fun _ _ _ _=>rfl) (fun vs H Q E h=>?_) (fun f cdv A outer s H vs Q E hr h=>?_)
 ·obtain⟨d,t,wd,n,ot,ow,rfl,_⟩:=h;rfl
 ·obtain⟨d,tv,wv,n,ot,ow,rfl,hn,W,rd,T,k⟩:=h
  refine⟨_,(ad (aJ (aC aW (pv 0) ar (aB _)) (ah (aw (ai F_law_numbers hr ak (aa (ai Fall_covers hr aV (aa (pv 1) ac)) ac)))) aN)
   (ad (aJ (aC aW (pv 0) ar (aB _)) (ah (aw (cJ PySem.F.plainAttrs_str PySem.F.slot_str_join PySem.F.type_str_join fF ar (aa (bT bR (pv 1) cm (bH (ai Fshortest_cover hr aV (aa (pv 1) ac)))) ac)))) aN)
   (ad (aJ (aC aW (pv 0) ar (aB _)) (ah (aw (ai F_law_numbers hr ak (aa (ai Flies_at hr ak (aa (pv 1) (aa (pv 2) ac))) ac)))) aN)
   (ad (aJ (aC aW (pv 0) ar (aB _)) (ad (dO (ai Fcovered hr aV (aa (pv 1) (aa (pv 2) ac))) (dG rfl (bo (aT (i:=4) scOf.nd rfl (.inl rfl)) (bo (aT (i:=5) scOf.nd rfl (.inl rfl)) dP))))
   (ad (aJ (aC aW (pv 4) ar (aB _)) (ah (aw (aq df ar (eC B.str (aG B.len (pv 5)))))) aN)
   (ah (aw (aq df ar (eC B.str (pv 5))))))) aN)
   (ad (aJ (aC aW (pv 0) ar (aB _)) (ah (aw (ai F_law_numbers hr ak (aa (ai Ffewest_layings hr aV (aa (pv 1) (aa (pv 2) ac))) ac)))) aN)
   (ad (aJ (aC aW (pv 0) ar (aB _)) (ad (dO (ai Ffewest_wrong hr aV (aa (pv 1) (aa (pv 2) ac))) (dG rfl (bo (aT (i:=6) scOf.nd rfl (.inl rfl)) (bo (aT (i:=7) scOf.nd rfl (.inl rfl)) dP))))
   (ah (aw (aq df (aq df (eC B.str (pv 6)) ar) (ai F_law_numbers hr ak (aa (pv 7) ac)))))) aN)
   (ad (aJ (aC aW (pv 0) ar (aB _)) (ad (aA (i:=5) scOf.nd rfl (.inl rfl) (aS (aa (ai Frest_behind hr aV (aa (pv 1) (aa (pv 2) ac))) (aa (ai Frest_ahead hr aV (aa (pv 1) (aa (pv 2) ac))) (aa (ai Frest_both hr aV (aa (pv 1) (aa (pv 2) ac))) ac)))))
   (ah (aw (cJ PySem.F.plainAttrs_str PySem.F.slot_str_join PySem.F.type_str_join fF ar (aa (ce ["row","text","word","length","kind","told","cost","chain"] rfl (cq (pv 5)) (fun _=>by exact di) (fun _=>by exact(bh bO (aS (aa ar (aa ar ac))) (jL B.int (pv 8)) (fun _ _=>rfl)))) ac))))) aN)
   (ah (aw (eC B.str (ai Fcount_covered hr aV (aa (pv 2) (aa (pv 3) ac))))))))))))),?_⟩
  have ne:∀{a b:Str},¬cd a=cd b→decide (V.str a=V.str b)=false:=fun{a b} q=>by rw[gr,decide_eq_false q]
  cases d with
  | cov=>
    obtain⟨t,rfl⟩:=Option.ne_none_iff_exists'.mp rd
    obtain⟨a,rfl,ha⟩:=W.ht
    obtain⟨lt,tl⟩:=W.lt t rfl
    refine⟨_,rfl,rfl,_,rfl,aE ?_⟩
    have k:outK pt H (ig cT t) Q E:=k
    by_cases ht:t=[]
    ·subst ht
     exact⟨_,rfl,.inr ⟨a,rfl,ha,fun H' s'=>k.er (if_pos rfl) T s'⟩⟩
    ·have t1:=List.length_pos_iff.mpr ht
     refine⟨_,rfl,.inl ⟨a,t,rfl,ha,lt,t1,by lia,fun r H1 _ hr1 s1=>?_⟩⟩
     refine⟨r,_,rfl,hr1,rY tl,fun H2 s2=>?_⟩
     rw[pA (by obtain⟨x,r',e⟩:=vp t1;rw[e];exact List.cons_ne_nil _ _)]
     exact k.ok (if_neg ht) T (s1.trans s2)
  | sho=>
    obtain⟨t,rfl⟩:=Option.ne_none_iff_exists'.mp rd
    obtain⟨a,rfl,ha⟩:=W.ht
    obtain⟨lt,tl⟩:=W.lt t rfl
    refine⟨_,rfl,rfl,_,rfl,?_⟩
    rw[ne (by decide+kernel)]
    refine ao ?_
    refine⟨_,rfl,rfl,_,rfl,aE ?_⟩
    have k:outK pt H (fB cT t) Q E:=k
    by_cases ht:t=[]
    ·subst ht
     exact⟨rfl,_,rfl,_,rfl,.inr ⟨a,rfl,ha,fun H' s'=>k.er (if_pos rfl) T s'⟩⟩
    ·have t1:=List.length_pos_iff.mpr ht
     refine⟨rfl,_,rfl,_,rfl,.inl ⟨a,t,rfl,ha,lt,t1,by lia,fun H1 s1=>?_⟩⟩
     refine⟨_,rfl,a,_,rfl,SqL.of (s1 _ _ ha),fun p hp=>?_⟩
     rw[iO (by lia)]
     rw[Int.toNat_natCast]
     have et:∀t:List Nat,t.map sg=(t.map aI).map V.str:=fun t=>by rw[List.map_map];rfl
     refine⟨_,p,(t.take ((bX t).headD 0)).map aI,rfl,rfl,by rw[ag,et],kO (by rw[List.length_take];lia),?_⟩
     rw[kW]
     exact k.ok (if_neg ht) T (s1.trans (Same.upd hp))
  | lie=>
    obtain⟨t,rfl⟩:=Option.ne_none_iff_exists'.mp rd.1
    obtain⟨u,rfl⟩:=Option.ne_none_iff_exists'.mp rd.2
    obtain⟨a,rfl,ha⟩:=W.ht
    obtain⟨b,rfl,hb⟩:=W.hw
    obtain⟨lt,tl⟩:=W.lt t rfl
    obtain⟨lu,u1,ul⟩:=W.lw u rfl
    refine⟨_,rfl,rfl,_,rfl,?_⟩
    rw[ne (by decide+kernel)]
    refine ao ?_
    refine⟨_,rfl,rfl,_,rfl,?_⟩
    rw[ne (by decide+kernel)]
    refine ao ?_
    refine⟨_,rfl,rfl,_,rfl,aE ?_⟩
    have k:outK pt H (gk t u) Q E:=k
    refine⟨_,rfl,_,rfl,a,b,t,u,rfl,ha,hb,lt,lu,by lia,by lia,u1,fun r H1 _ hr1 s1=>?_⟩
    exact⟨r,_,rfl,hr1,pP tl u1,fun H2 s2=>k.ok rfl T (s1.trans s2)⟩
  | laid=>
    obtain⟨t,rfl⟩:=Option.ne_none_iff_exists'.mp rd.1
    obtain⟨u,rfl⟩:=Option.ne_none_iff_exists'.mp rd.2
    obtain⟨a,rfl,ha⟩:=W.ht
    obtain⟨b,rfl,hb⟩:=W.hw
    obtain⟨lt,tl⟩:=W.lt t rfl
    obtain⟨lu,u1,ul⟩:=W.lw u rfl
    refine⟨_,rfl,rfl,_,rfl,?_⟩
    rw[ne (by decide+kernel)]
    refine ao ?_
    refine⟨_,rfl,rfl,_,rfl,?_⟩
    rw[ne (by decide+kernel)]
    refine ao ?_
    refine⟨_,rfl,rfl,_,rfl,?_⟩
    rw[ne (by decide+kernel)]
    refine ao ?_
    refine⟨_,rfl,rfl,_,rfl,aE ?_⟩
    have k:outK pt H (dA cT t u) Q E:=k
    by_cases ht:t=[]
    ·subst ht
     exact⟨_,rfl,_,rfl,.inr ⟨a,b,u,rfl,ha,hb,lu,u1,by lia,fun H' s'=>k.er (if_pos rfl) T s'⟩⟩
    ·have t1:=List.length_pos_iff.mpr ht
     refine⟨_,rfl,_,rfl,.inl ⟨a,b,t,u,rfl,ha,hb,lt,lu,t1,by lia,by lia,u1,fun r H1 _ s1 hlt hr1=>?_,fun r q H1 _ _ s1 e hq1 hr1=>?_⟩⟩
     ·refine⟨r,_,rfl,SqT.of hr1,rfl,_,_,rfl,_,_,rfl,rfl,?_⟩
      refine⟨_,rfl,rfl,_,rfl,?_⟩
      rw[ne (by decide+kernel)]
      refine ao ⟨_,rfl,_,rfl,cP (by lia),_,_,rfl,rfl,gd (by have:=iV (k:=bj t.length u.length (aD t u)) (by lia);show(Str.ofString "bare ").length+(aQ _).length≤5000;rw[show(Str.ofString "bare ").length=5 by decide+kernel];lia),?_⟩
      exact k.ok (by unfold dA;rw[if_neg ht,if_pos hlt];rfl) T s1
     ·refine⟨r,_,rfl,SqT.of hr1,rfl,_,_,rfl,_,_,rfl,rfl,?_⟩
      refine⟨_,rfl,rfl,_,rfl,aE ?_⟩
      have ll:=kj t u
      refine⟨_,rfl,q,_,rfl,SqL.of hq1,_,rfl,by rw[aL];exact cP (by lia),?_⟩
      rw[aL]
      refine⟨_,_,rfl,rfl,gd (by have:=iV (k:=(aD t u).length) (by lia);show(Str.ofString "covers ").length+(aQ _).length≤5000;rw[show(Str.ofString "covers ").length=7 by decide+kernel];lia),?_⟩
      exact k.ok (by unfold dA;rw[if_neg ht,if_neg (by lia)];rfl) T s1
  | few=>
    obtain⟨t,rfl⟩:=Option.ne_none_iff_exists'.mp rd.1
    obtain⟨u,rfl⟩:=Option.ne_none_iff_exists'.mp rd.2
    obtain⟨a,rfl,ha⟩:=W.ht
    obtain⟨b,rfl,hb⟩:=W.hw
    obtain⟨lt,tl⟩:=W.lt t rfl
    obtain⟨lu,u1,ul⟩:=W.lw u rfl
    refine⟨_,rfl,rfl,_,rfl,?_⟩
    rw[ne (by decide+kernel)]
    refine ao ?_
    refine⟨_,rfl,rfl,_,rfl,?_⟩
    rw[ne (by decide+kernel)]
    refine ao ?_
    refine⟨_,rfl,rfl,_,rfl,?_⟩
    rw[ne (by decide+kernel)]
    refine ao ?_
    refine⟨_,rfl,rfl,_,rfl,?_⟩
    rw[ne (by decide+kernel)]
    refine ao ?_
    refine⟨_,rfl,rfl,_,rfl,aE ?_⟩
    have k:outK pt H (dm cT cC t u) Q E:=k
    by_cases ht:t=[]
    ·subst ht
     exact⟨_,rfl,_,rfl,.inr (.inl ⟨a,b,u,rfl,ha,hb,lu,u1,by lia,fun H' s'=>k.er (if_pos rfl) T s'⟩)⟩
    ·have t1:=List.length_pos_iff.mpr ht
     by_cases hlt:bj t.length u.length (aD t u)<t.length
     ·exact⟨_,rfl,_,rfl,.inr (.inr ⟨a,b,t,u,rfl,ha,hb,lt,lu,by lia,by lia,u1,hlt,fun H' s'=>k.er (by unfold dm;rw[if_neg ht,if_pos hlt]) T s'⟩)⟩
     ·have e:bj t.length u.length (aD t u)=t.length:=by have:=oS t.length u.length (aD t u);lia
      refine⟨_,rfl,_,rfl,.inl ⟨a,b,t,u,rfl,ha,hb,lt,lu,t1,by lia,by lia,u1,e,fun r H1 _ hr1 s1=>?_⟩⟩
      refine⟨r,_,rfl,hr1,vg t1 tl u1 e,fun H2 s2=>?_⟩
      rw[pA (vE t1 u1 e)]
      exact k.ok (by unfold dm;rw[if_neg ht,if_neg hlt]) T (s1.trans s2)
  | wro=>
    obtain⟨t,rfl⟩:=Option.ne_none_iff_exists'.mp rd.1
    obtain⟨u,rfl⟩:=Option.ne_none_iff_exists'.mp rd.2
    obtain⟨a,rfl,ha⟩:=W.ht
    obtain⟨b,rfl,hb⟩:=W.hw
    obtain⟨lt,tl⟩:=W.lt t rfl
    obtain⟨lu,u1,ul⟩:=W.lw u rfl
    refine⟨_,rfl,rfl,_,rfl,?_⟩
    rw[ne (by decide+kernel)]
    refine ao ?_
    refine⟨_,rfl,rfl,_,rfl,?_⟩
    rw[ne (by decide+kernel)]
    refine ao ?_
    refine⟨_,rfl,rfl,_,rfl,?_⟩
    rw[ne (by decide+kernel)]
    refine ao ?_
    refine⟨_,rfl,rfl,_,rfl,?_⟩
    rw[ne (by decide+kernel)]
    refine ao ?_
    refine⟨_,rfl,rfl,_,rfl,?_⟩
    rw[ne (by decide+kernel)]
    refine ao ?_
    refine⟨_,rfl,rfl,_,rfl,aE ?_⟩
    have k:outK pt H (dr cT cC t u) Q E:=k
    by_cases hs:t.length<u.length
    ·exact⟨_,rfl,_,rfl,.inr ⟨a,b,t,u,rfl,ha,hb,lt,lu,hs,by lia,fun H' s'=>k.er (by unfold dr;rw[if_pos hs]) T s'⟩⟩
    ·refine⟨_,rfl,_,rfl,.inl ⟨a,b,t,u,rfl,ha,hb,lt,lu,u1,by lia,by lia,fun hn H' s'=>k.er (uZ hs hn) T s',fun l hl g c H1 _ _ hg1 hc1 s1=>?_⟩⟩
     have sm:Small l:=⟨by have:=Ch.len_le (kD u) hl.1;lia,fun x hx=>by have:=(Ch.le_all hl.1 x hx).2;lia⟩
     have cl:aM t u l≤200:=by have:=uk (t:=t) (u:=u) hl.1;lia
     have nl:=iV cl
     have nm:=nO sm
     have L2:(Str.ofString ": ").length=2:=by decide+kernel
     refine⟨g,_,rfl,SqT.of hg1,rfl,_,_,rfl,_,_,rfl,rfl,?_⟩
     refine⟨_,rfl,_,rfl,cP (by lia),_,_,rfl,rfl,gd (by show(aQ _).length+_≤5000;lia),_,rfl,c,l,rfl,hc1,sm,fun H2 s2=>?_⟩
     rw[pA (by obtain⟨r,e⟩:=hl.1.head;rw[e];exact List.cons_ne_nil _ _)]
     refine⟨_,_,rfl,rfl,?_,?_⟩
     ·rw[strLen_append]
      exact Nat.le_trans (Nat.add_le_add (Nat.add_le_add (show(aQ (aM t u l)).length≤202 from nl) (Nat.le_of_eq L2)) nm) (by decide)
     exact k.ok (qB hs hl) T (s1.trans s2)
  | ends=>
    obtain⟨t,rfl⟩:=Option.ne_none_iff_exists'.mp rd.1
    obtain⟨u,rfl⟩:=Option.ne_none_iff_exists'.mp rd.2
    obtain⟨a,rfl,ha⟩:=W.ht
    obtain⟨b,rfl,hb⟩:=W.hw
    obtain⟨lt,tl⟩:=W.lt t rfl
    obtain⟨lu,u1,ul⟩:=W.lw u rfl
    refine⟨_,rfl,rfl,_,rfl,?_⟩
    rw[ne (by decide+kernel)]
    refine ao ?_
    refine⟨_,rfl,rfl,_,rfl,?_⟩
    rw[ne (by decide+kernel)]
    refine ao ?_
    refine⟨_,rfl,rfl,_,rfl,?_⟩
    rw[ne (by decide+kernel)]
    refine ao ?_
    refine⟨_,rfl,rfl,_,rfl,?_⟩
    rw[ne (by decide+kernel)]
    refine ao ?_
    refine⟨_,rfl,rfl,_,rfl,?_⟩
    rw[ne (by decide+kernel)]
    refine ao ?_
    refine⟨_,rfl,rfl,_,rfl,?_⟩
    rw[ne (by decide+kernel)]
    refine ao ?_
    refine⟨_,rfl,rfl,_,rfl,aE ?_⟩
    have k:outK pt H (fA cT t u) Q E:=k
    by_cases ht:t=[]
    ·subst ht
     exact⟨_,rfl,_,rfl,.inr ⟨a,b,u,rfl,ha,hb,lu,u1,by lia,fun H' s'=>k.er (if_pos rfl) T s'⟩⟩
    ·have t1:=List.length_pos_iff.mpr ht
     refine⟨_,rfl,_,rfl,.inl ⟨a,b,t,u,rfl,ha,hb,lt,lu,t1,u1,by lia,by lia,fun H1 s1=>?_⟩⟩
     refine⟨_,rfl,_,rfl,.inl ⟨a,b,t,u,rfl,s1 _ _ ha,s1 _ _ hb,lt,lu,t1,u1,by lia,by lia,fun H2 s2=>?_⟩⟩
     have s02:=s1.trans s2
     refine⟨_,rfl,_,rfl,.inl ⟨a,b,t,u,rfl,s02 _ _ ha,s02 _ _ hb,lt,lu,t1,u1,by lia,by lia,fun H3 s3=>?_⟩⟩
     refine⟨by show 3≤sizeLine;decide,fun r hr0=>?_⟩
     have s04:=(s02.trans s3).trans (Same.upd (o:=.lst ((bu t u).map V.bl)) hr0)
     have hr4:(L2.upd H3 r (.lst ((bu t u).map V.bl))) r=some (.lst ((bu t u).map V.bl)):=ag
     change (fun H4=>_) (L2.upd H3 r (.lst ((bu t u).map V.bl)))
     generalize L2.upd H3 r (.lst ((bu t u).map V.bl))=H4 at s04 hr4 ⊢
     dsimp only
     refine⟨rfl,_,rfl,r,rfl,⟨_,SqL.of hr4⟩,fun D hD cb=>?_⟩
     refine eI (K:=K) (a:=r) (xs:=(bu t u).map V.bl) (fun i ys H5=>ys=(((bu t u).take i).map cD).map V.str∧Same H4 H5∧H5 D=some (.lst ys)) (show 3<sizeLine by decide) ?_ ?_ ?_ ?_ ?_
     ·exact⟨rfl,Same.upd hD,ag⟩
     ·rintro i ys H5 ⟨rfl,_⟩
      rw[List.length_map,List.length_map,List.length_take];lia
     ·rintro i ys H5 _ ⟨_,s5,_⟩;exact SqL.of (s5 _ _ hr4)
     ·rintro i x ys H5 hx ⟨rfl,s5,hD5⟩
      rw[List.getElem?_map] at hx
      cases eb:(bu t u)[i]? with
      | none=>rw[eb] at hx;cases hx
      | some bb=>
        rw[eb] at hx
        cases hx
        refine dI ⟨by show 2≤sizeLine;decide,fun q hq=>?_⟩
        have s6:=Same.upd (o:=.lst [V.str "no",.str "yes"]) hq
        have hq6:=ag (H:=H5) (a:=q) (o:=.lst [V.str "no",.str "yes"])
        have hD6:=s6 _ _ hD5
        have s46:=s5.trans s6
        generalize L2.upd H5 q (.lst [V.str "no",.str "yes"])=H6 at s6 hq6 hD6 s46 ⊢
        refine⟨_,rfl,bb,rfl,q,_,_,.str (cD bb),rfl,rfl,SqL.of hq6,by cases bb <;> rfl,hD6,?_,fun z o e=>?_,ag⟩
        ·rw[List.take_add_one,eb,List.map_append,List.map_append];rfl
        ·rw[ap (aK e hD)];exact s46 _ _ e
     ·rintro ys H5 ⟨rfl,s5,hD5⟩
      rw[List.take_of_length_le (by rw[List.length_map];exact Nat.le_refl _)] at hD5
      exact⟨_,D,(bu t u).map cD,rfl,rfl,hD5,sh _ (Nat.le_refl 3),k.ok (by unfold fA;rw[if_neg ht]) T (s04.trans s5)⟩
  | tex m=>
    refine⟨_,rfl,rfl,_,rfl,?_⟩
    rw[ne (by show¬cd (Str.ofString "texts")=_;decide+kernel)]
    refine ao ?_
    refine⟨_,rfl,rfl,_,rfl,?_⟩
    rw[ne (by show¬cd (Str.ofString "texts")=_;decide+kernel)]
    refine ao ?_
    refine⟨_,rfl,rfl,_,rfl,?_⟩
    rw[ne (by show¬cd (Str.ofString "texts")=_;decide+kernel)]
    refine ao ?_
    refine⟨_,rfl,rfl,_,rfl,?_⟩
    rw[ne (by show¬cd (Str.ofString "texts")=_;decide+kernel)]
    refine ao ?_
    refine⟨_,rfl,rfl,_,rfl,?_⟩
    rw[ne (by show¬cd (Str.ofString "texts")=_;decide+kernel)]
    refine ao ?_
    refine⟨_,rfl,rfl,_,rfl,?_⟩
    rw[ne (by show¬cd (Str.ofString "texts")=_;decide+kernel)]
    refine ao ?_
    refine⟨_,rfl,rfl,_,rfl,?_⟩
    rw[ne (by show¬cd (Str.ofString "texts")=_;decide+kernel)]
    refine ao ?_
    obtain⟨u,rfl⟩:=Option.ne_none_iff_exists'.mp rd
    obtain⟨b,rfl,hb⟩:=W.hw
    obtain⟨lu,u1,ul⟩:=W.lw u rfl
    obtain⟨rfl,hm⟩:=hn
    have ea:bS cT cC cN cY (.tex m) ot (some u)=gG cN m u:=by cases ot <;> rfl
    rw[ea] at k
    by_cases hn:1≤m∧m≤200
    ·refine⟨_,rfl,_,rfl,.inl ⟨b,u,m,rfl,hb,lu,u1,by lia,hn.1,hn.2,T,fun H3 k3 T3=>⟨_,rfl,qh u u1 hn.2,?_⟩⟩⟩
     have:=k H3 k3 T3
     unfold gG at this
     rw[if_pos hn] at this
     exact this
    ·exact⟨_,rfl,_,rfl,.inr ⟨b,u,m,rfl,hb,lu,u1,hn,fun H3 s3=>k.er (if_neg hn) T s3⟩⟩
end
abbrev nM:Stmt:=aH 72
def rM(fl:Addr→List Bool)(pt cT cC cN cY:Addr):Sp:=fun vs H Q _=>∃(d:Deed) (t w:V) (n:Int) (ot ow:Option (List Nat)),vs=[.str (eK d),t,w,.int n]∧ka d n∧Two H t w ot ow∧TB H pt∧sE fl pt H (bS cT cC cN cY d ot ow) Q
theorem kc{σ:St}{H:Hp}{Q:VK}(k:∀r H',H' r=some (.lst (nyF.map V.bl))→Same H H'→Q (.ref r) H'):gi lj (gi qr (kN (iA (tC (.bl false)) fJ)) (tC (.int 8))) (kN (iA (tC (.bl true)) (iA (tC (.bl false)) fJ))) σ H Q:=by
 refine⟨by show 1≤sizeLine;decide,fun l hl=>?_⟩
 refine⟨l,8,_,rfl,rfl,ag,by decide,by decide,by show 8≤sizeLine;decide,fun p hp=>?_⟩
 refine⟨by show 2≤sizeLine;decide,fun l2 hl2=>?_⟩
 refine⟨p,l2,_,_,rfl,rfl,(Same.upd hl2) _ _ ag,ag,by show 10≤sizeLine;decide,fun r hr=>?_⟩
 exact k r _ ag ((((Same.upd hl).trans (Same.upd hp)).trans (Same.upd hl2)).trans (Same.upd hr))
theorem lF{H:Hp}{v:V}{o:Option (List Nat)}(h:Hold H v o):decide (v=.non)=decide (o=none):=by
 cases o with
 | none=>rw[show v=.non from h];rfl
 | some l=>obtain⟨a,rfl,_⟩:=h;rfl
def fu(d:Deed)(ot ow:Option (List Nat)):Bool:=match d with | .cov=>decide (ot=none) | .sho=>decide (ot=none) | .tex _=>decide (ow=none) | _=>false
def eW(d:Deed)(ot ow:Option (List Nat)):Bool:=match d with | .cov=>false | .sho=>false | .tex _=>false | _=>decide (ot=none) || decide (ow=none)
theorem BK{d:Deed}{ot ow:Option (List Nat)}(h1:fu d ot ow=false)(h2:eW d ot ow=false):mF d ot ow:=by
 cases d <;> simp[fu,eW,mF] at* <;> assumption
theorem A7{cT cC cN cY:Addr}{d:Deed}{ot ow:Option (List Nat)}(h:fu d ot ow=true∨eW d ot ow=true):bS cT cC cN cY d ot ow=.error cY:=by
 cases d <;> cases ot <;> cases ow <;> simp[fu,eW] at h <;> rfl
def eO:Deed→Bool | .cov=>true | .sho=>true | _=>false
def dq:Deed→Bool | .tex _=>true | _=>false
theorem yt{d:Deed}{ot ow:Option (List Nat)}:fu d ot ow=((eO d && decide (ot=none)) || (dq d && decide (ow=none))):=by cases d <;> simp[fu,eO,dq]
theorem wS{d:Deed}{ot ow:Option (List Nat)}:eW d ot ow=((!(eO d || dq d)) && (decide (ot=none) || decide (ow=none))):=by cases d <;> simp[eW,eO,dq]
theorem Bj:∀d,hW (.str (eK d)) [.str "covers",.str "shortest"]=eO d
 | .tex _=>(by decide+kernel:hW (.str "texts") [.str "covers",.str "shortest"]=false)
 | .cov | .sho | .lie | .laid | .few | .wro | .ends=>by decide+kernel
theorem CG:∀d,hW (.str (eK d)) [.str "covers",.str "shortest",.str "texts"]=(eO d || dq d)
 | .tex _=>(by decide+kernel:hW (.str "texts") [.str "covers",.str "shortest",.str "texts"]=true)
 | .cov | .sho | .lie | .laid | .few | .wro | .ends=>by decide+kernel
theorem oE:∀d,decide (V.str (eK d)=V.str "texts")=dq d
 | .tex _=>decide_eq_true rfl
 | .cov | .sho | .lie | .laid | .few | .wro | .ends=>by rw[gr];decide+kernel
section
variable{P:Program}{w:World}{K:PySem.W.Frag}{mg:Str→Option Value}{base:Heap}{pt C cCoverError cNoWord cNoSign cNoText cNoCover cNoChain cNoForm cNoNumber cNoneYet cTooMany:Addr}{fl:Addr→List Bool}
theorem scDue:FnScope ["row","text","word","length","found","e"] ["row","text","word","length"] (al nM):=fsc_
theorem BP(M:Md K mg)(B:Bl mg)(F:FF K "_law_due" nM)(S:Exs K mg cCoverError cNoWord cNoSign cNoText cNoCover cNoChain cNoForm cNoNumber cNoneYet cTooMany)(hfl:fl cNoneYet=nyF)(F_law_of:Fn P w K mg base (au P w) "_law_of" 8 ["row","text","word","length"] (r8 pt cNoText cNoCover cNoNumber cNoneYet))(F_law_class:FnH P w K mg base "_law_class" 1 ["e"] (mv fl [cNoWord,cNoSign,cNoText,cNoCover,cNoChain,cNoForm,cNoNumber,cNoneYet,cTooMany])):Fn P w K mg base ae "_law_due" 10 ["row","text","word","length"] (rM fl pt cNoText cNoCover cNoNumber cNoneYet):=by
 have bCoverError:=S.bCoverError
 refine aP M F scDue (fun _ _ _ _ _ _=>iB fun _ _ _ _=>rfl) (fun vs H Q E h=>?_) (fun f cdv A outer s H vs Q E hr h=>?_)
 ·obtain⟨d,t,wd,n,ot,ow,rfl,_⟩:=h;rfl
 ·obtain⟨d,tv,wv,n,ot,ow,rfl,hn,W,TT,k⟩:=h
  refine⟨_,(ad (aJ (PW.pt (gR (PW.pt (dM (aC xU (pv 0) (aS (aa ar (aa ar ac))) (by with_unfolding_all rfl)) (dX (aC g0 (pv 1) dj (aB _))))) (gX (PW.pt (dM (aC aW (pv 0) ar (aB _)) (dX (aC g0 (pv 2) dj (aB _)))))))) (ah (aw (aq dU (aq uf (aS (aa eZ ac)) af) (aS (aa eZ (aa eZ ac)))))) aN)
   (ad (aJ (PW.pt (dM (aC DL (pv 0) (aS (aa ar (aa ar (aa ar ac)))) (by with_unfolding_all rfl)) (dX (PW.pt (gR (aC g0 (pv 1) dj (aB _)) (gX (aC g0 (pv 2) dj (aB _)))))))) (ah (aw (aq dU (aq uf (aS (aa eZ ac)) af) (aS (aa eZ (aa eZ ac)))))) aN)
   (ad (aA (i:=4) scDue.nd rfl (.inl rfl) dj)
   (ad (tQ (i:=5) bCoverError scDue.nd rfl rfl (fun _ _ _=>by exact(ah (aA (i:=4) scDue.nd rfl (.inl rfl) (yx F_law_of hr (aa (pv 0) (aa (pv 1) (aa (pv 2) (aa (pv 3) ac))))))))
   (fun _ _=>by exact(ah (aA (i:=4) scDue.nd rfl (.inl rfl) (qc F_law_class (vt hr) (aa (pv 5) ac))))))
   (ah (aw (pv 4))))))),?_⟩
  have ret:(fu d ot ow=true∨eW d ot ow=true)→∀r H',H' r=some (.lst (nyF.map V.bl))→Same H H'→Q (.ref r) H':=fun hd r H' hr' s'=>by
   refine k _ _ (fun b o e _=>s' _ _ e) (TT.same s') ?_
   rw[A7 hd]
   exact⟨r,rfl,by rw[hfl];exact hr'⟩
  refine eG (fun σ H'=>σ=[some (.str (eK d)),some tv,some wv,some (.int n),none,none]∧Same H H'∧fu d ot ow=false) ?_ fun R hR=>?_
  rotate_left
  ·have n1:∀b c:Bool,eO d=b→dq d=c→fu d ot ow=((b && decide (ot=none)) || (c && decide (ow=none))):=fun b c hb hc=>by rw[yt,hb,hc]
   refine⟨_,rfl,by show 2≤sizeLine;decide,fun p hp=>?_⟩
   have s1:=Same.upd (o:=.lst [V.str "covers",.str "shortest"]) hp
   refine⟨p,_,rfl,.inl (SqL.of ag),rfl,rfl,_,rfl,?_⟩
   generalize L2.upd H p (.lst [V.str "covers",.str "shortest"])=H1 at s1 ⊢
   rw[Bj]
   cases hc:eO d with
   | true=>
     have ht:dq d=false:=by cases d <;> first | rfl | cases hc
     refine aE ⟨_,rfl,rfl,_,rfl,?_⟩
     rw[lF W.ht]
     cases ho:decide (ot=none) with
     | true=>exact aE (aE (kc fun r H' hr' s'=>ret (.inl (by rw[n1 _ _ hc ht,ho];rfl)) r H' hr' (s1.trans s')))
     | false=>
       refine ao ⟨_,rfl,rfl,_,rfl,?_⟩
       rw[oE,ht]
       exact ao (ao (hR _ _ ⟨rfl,s1,by rw[n1 _ _ hc ht,ho];rfl⟩))
   | false=>
     refine ao (ao ⟨_,rfl,rfl,_,rfl,?_⟩)
     rw[oE]
     cases ht:dq d with
     | true=>
       refine aE ⟨_,rfl,rfl,_,rfl,?_⟩
       rw[lF W.hw]
       cases ho:decide (ow=none) with
       | true=>exact aE (kc fun r H' hr' s'=>ret (.inl (by rw[n1 _ _ hc ht,ho];rfl)) r H' hr' (s1.trans s'))
       | false=>exact ao (hR _ _ ⟨rfl,s1,by rw[n1 _ _ hc ht,ho];rfl⟩)
     | false=>exact ao (ao (hR _ _ ⟨rfl,s1,by rw[n1 _ _ hc ht];rfl⟩))
  rintro σ H1 ⟨rfl,s1,n1⟩
  refine eG (fun σ H'=>σ=[some (.str (eK d)),some tv,some wv,some (.int n),none,none]∧Same H H'∧eW d ot ow=false) ?_ fun R hR=>?_
  rotate_left
  ·have n2:∀b:Bool,(eO d || dq d)=b→eW d ot ow=(!b && (decide (ot=none) || decide (ow=none))):=fun b hb=>by rw[wS,hb]
   refine⟨_,rfl,by show 3≤sizeLine;decide,fun p hp=>?_⟩
   have s2:=s1.trans (Same.upd (o:=.lst [V.str "covers",.str "shortest",.str "texts"]) hp)
   refine⟨p,_,rfl,.inl (SqL.of ag),rfl,rfl,_,rfl,?_⟩
   generalize L2.upd H1 p (.lst [V.str "covers",.str "shortest",.str "texts"])=H2 at s2 ⊢
   rw[CG]
   cases hc:(eO d || dq d) with
   | true=>exact ao (ao (hR _ _ ⟨rfl,s2,by rw[n2 _ hc];rfl⟩))
   | false=>
     refine aE ⟨_,rfl,rfl,_,rfl,?_⟩
     rw[lF W.ht]
     cases ho:decide (ot=none) with
     | true=>exact aE (aE (kc fun r H' hr' s'=>ret (.inr (by rw[n2 _ hc,ho];rfl)) r H' hr' (s2.trans s')))
     | false=>
       refine ao ⟨_,rfl,rfl,_,rfl,?_⟩
       rw[lF W.hw]
       cases hw:decide (ow=none) with
       | true=>exact aE (kc fun r H' hr' s'=>ret (.inr (by rw[n2 _ hc,ho,hw];rfl)) r H' hr' (s2.trans s'))
       | false=>exact ao (hR _ _ ⟨rfl,s2,by rw[n2 _ hc,ho,hw];rfl⟩)
  clear s1
  rintro σ H1 ⟨rfl,s1,n2⟩
  have rd:=BK n1 n2
  have W1:Two H1 tv wv ot ow:=⟨W.ht.same s1,W.hw.same s1,W.lt,W.lw⟩
  have T1:=TT.same s1
  refine kF ?_
  refine qA (fun σ H'=>∃v,σ[4]?=some (some v)∧Q v H') (fun σ H' h=>?_) fun R hR=>?_
  ·obtain⟨v,hv,q⟩:=h
   exact⟨_,hv,q⟩
  refine lP (fun cls _ H'=>∃c,cls=.ref c∧bS cNoText cNoCover cNoNumber cNoneYet d ot ow=.error c∧bz pt H H'∧TB H' pt) ?_ fun Ex hEx=>?_
  ·rintro _ _ H' ⟨c,rfl,ea,k',T'⟩
   have hm:c∈[cNoWord,cNoSign,cNoText,cNoCover,cNoChain,cNoForm,cNoNumber,cNoneYet,cTooMany]:=by rcases rN ea with rfl | rfl | rfl | rfl <;> simp
   refine⟨(excFacts.of S.facts c hm).exm,fun e he=>?_⟩
   have se:=Same.upd (o:=.ext (cx e (.ref c))) he
   refine⟨_,rfl,e,c,rfl,ag,hm,fun r H2 hr0 hr2 s2=>hR _ _ ⟨.ref r,rfl,?_⟩⟩
   refine k _ _ (fun z o q n=>s2 _ _ (se _ _ (k' _ _ q n))) ((T'.same se).same s2) ?_
   rw[ea]
   exact⟨r,rfl,hr2⟩
  ·refine⟨rfl,_,rfl,_,rfl,_,rfl,_,rfl,d,tv,wv,n,ot,ow,rfl,hn,W1,rd,T1,fun H' k' T'=>?_⟩
   have k'':bz pt H H':=fun z o e n=>k' _ _ (s1 _ _ e) n
   cases ea:bS cNoText cNoCover cNoNumber cNoneYet d ot ow with
   | ok z=>exact hR _ _ ⟨_,rfl,k _ _ k'' T' (by rw[ea];rfl)⟩
   | error c=>exact hEx _ _ _ ⟨c,rfl,ea,k'',T'⟩
end
abbrev my:Stmt:=aH 67
def qv:Sp:=fun vs H Q _=>∃(a:Addr) (u:List Nat) (c b n:Int),vs=[.ref a,.int c,.int b,.int n]∧H a=some (.lst (u.map sg))∧Low u∧1≤u.length∧u.length≤30∧0≤b∧b≤400∧0≤n∧n≤38∧
 ∀(t:List Nat) (r:Addr) (H':Hp),H r=none→H' r=some (.lst (t.map sg))→Low t→u.length≤t.length→t.length≤1200→Same H H'→Q (.ref r) H'
theorem Ek{ks:List Nat}{r:Int}(r0:0≤r)(r1:r<ks.length):∃k:Nat,k∈ks∧bF (aj ks) r=some (V.int (k:Int)):=by
 obtain⟨v,hv,hm,e⟩:=pj (aj ks) r r0 (by rw[aL];exact r1)
 unfold aj at hm
 rw[List.map_map] at hm
 obtain⟨k,hk,rfl⟩:=List.mem_map.mp hm
 exact⟨k,hk,e⟩
section
variable{P:Program}{w:World}{K:PySem.W.Frag}{mg:Str→Option Value}{base:Heap}
theorem scOverlaid:FnScope ["word","cell","begin","times","ways_on","text","k"] ["word","cell","begin","times"] (al my):=fsc_
theorem vN(M:Md K mg)(B:Bl mg)(F:FF K "_law_overlaid" my)(F_law_digit:Fn P w K mg base ae "_law_digit" 2 ["cell","k","many"] iT):Fn P w K mg base ae "_law_overlaid" 3 ["word","cell","begin","times"] qv:=by
 refine aP M F scOverlaid (fun _ _ _ _ _ _=>iB fun _ _ _ _=>rfl) (fun vs H Q E h=>?_) (fun f cdv A outer s H vs Q E hr h=>?_)
 ·obtain⟨a,u,c,b,n,rfl,_⟩:=h;rfl
 ·obtain⟨a,u,c,b,n,rfl,ha,lu,u1,ul,b0,b1,n0,n1,k⟩:=h
  refine⟨_,(ad (kG (i:=4) ["word","cell","begin","times","ways_on","text","k"] rfl scOverlaid.nd rfl (.inl rfl) (q9 (by rfl) B.range (aa af (aa (aq bv (aG B.len (pv 0)) af) ac))) (fun _=>by exact(fw (aC (jh (by exact hr)) (bT bR (pv 0) (bH (pv 7)) cm) (bT bR (pv 0) cm (bH (aq bE (aG B.len (pv 0)) (pv 7)))) (aB _)))) (fun _=>by exact(pv 7)))
   (ad (aA (i:=5) scOverlaid.nd rfl (.inl rfl) (DC B.list (pv 0)))
   (ad (eB PassesOwn.never rfl (iz (by rfl) B.range (aa (pv 3) ac)) (aT (i:=6) scOverlaid.nd rfl (.inl rfl))
   (ah (aA (i:=5) scOverlaid.nd rfl (.inl rfl) (aq dU (pv 5) (bT bR (pv 0) (bH (aq bE (aG B.len (pv 0)) (bh bO (pv 4) (ai F_law_digit hr ak (aa (pv 1) (aa (aq bv (pv 2) (pv 6)) (aa (aG B.len (pv 4)) ac)))) (fun _ _=>rfl)))) cm)))))
   (ah (aw (pv 5)))))),?_⟩
  refine⟨_,rfl,a,_,rfl,SqL.of ha,_,_,rfl,rfl,1,_,rfl,⟨by decide,by decide,by rw[List.length_map];lia,by rw[List.length_map];lia⟩,fun D hD cb=>?_⟩
  rw[List.length_map,show((u.length:Int)+1-1).toNat=u.length by lia]
  refine jp (lo:=1) (n:=u.length) (fun i ys H2=>∃ks:List Nat,ys=aj ks∧ks.length≤i∧(∀k∈ks,1≤k∧k≤u.length)∧(i=u.length→1≤ks.length)∧Same H H2∧H2 D=some (.lst ys)) (bD (by lia)) ?_ ?_ ?_ ?_
  ·exact⟨[],rfl,Nat.le_refl _,(fun k hk=>by cases hk),fun h=>by lia,Same.upd hD,ag⟩
  ·rintro i ys H2 ⟨ks,rfl,h,_⟩
   rw[aL];exact h
  ·rintro i ys H2 hi ⟨ks,rfl,kl,kr,_,s2,hD2⟩
   have ha2:=s2 _ _ ha
   refine⟨_,rfl,_,rfl,_,rfl,a,_,rfl,SqL.of ha2,fun p1 hp1=>?_⟩
   have s3:=s2.trans (Same.upd (o:=.lst (bA (u.map sg) (some (1+(i:Int))) none)) hp1)
   refine⟨_,rfl,_,rfl,a,_,rfl,SqL.of (s3 _ _ ha),_,rfl,_,_,rfl,rfl,_,rfl,a,_,rfl,SqL.of (s3 _ _ ha),fun p2 hp2=>?_⟩
   rw[List.length_map] at*
   have n12:p1≠p2:=aK ag hp2
   have s4:=s3.trans (Same.upd (o:=.lst (bA (u.map sg) none (some ((u.length:Int)-(1+(i:Int)))))) hp2)
   have hD4:=(Same.upd (o:=.lst (bA (u.map sg) none (some ((u.length:Int)-(1+(i:Int)))))) hp2) _ _ ((Same.upd (o:=.lst (bA (u.map sg) (some (1+(i:Int))) none)) hp1) _ _ hD2)
   refine⟨p1,p2,u.drop (i+1),u.take (u.length-(i+1)),rfl,rfl,SqL.of ?_,SqL.of ?_,(lu.drop _).cp,(lu.take _).cp,_,rfl,?_⟩
   ·rw[ap n12,ag,dh,dC,kB _ _ (by lia),show(1+(i:Int)).toNat=i+1 by lia]
   ·rw[ag,dh,dC,je _ _ (by lia),show((u.length:Int)-(1+(i:Int))).toNat=u.length-(i+1) by lia]
   ·refine bN (fun hc=>?_) (fun hc=>?_)
    ·refine⟨_,rfl,hD4,ks++[i+1],?_,by simp;lia,?_,fun _=>by simp,?_,ag⟩
     ·rw[cG,show(((i+1:Nat):Int))=1+(i:Int) by lia]
     ·intro k hk
      rcases List.mem_append.mp hk with q | q
      ·exact kr k q
      ·rw[List.mem_singleton.mp q];lia
     ·intro b o e
      rw[ap (aK e hD)]
      exact s4 b o e
    ·refine⟨ks,rfl,by lia,kr,fun he=>?_,s4,hD4⟩
     exfalso
     apply hc
     have e5:u.drop (i+1)=u.take (u.length-(i+1)):=by
      rw[show u.length-(i+1)=0 by lia,List.drop_eq_nil_of_le (by lia),List.take_zero]
     rw[e5];simp
  ·rintro ys H2 ⟨ks,rfl,kl,kr,k1,s2,hD2⟩
   have k1':=k1 rfl
   refine⟨_,rfl,a,_,rfl,SqL.of (s2 _ _ ha),fun r0 hr0=>?_⟩
   have s3:=s2.trans (Same.upd (o:=.lst (u.map sg)) hr0)
   have hD3:=(Same.upd (o:=.lst (u.map sg)) hr0) _ _ hD2
   have hr3:=ag (H:=H2) (a:=r0) (o:=.lst (u.map sg))
   generalize L2.upd H2 r0 (.lst (u.map sg))=H3 at*
   have fr0:H r0=none:=s2.free hr0
   refine⟨_,rfl,n,rfl,by lia,by lia,?_⟩
   refine uA (lo:=0) (n:=n.toNat) (fun i σ H4=>∃(t:List Nat) (r:Addr) (v6:Option V),σ=[some (.ref a),some (.int c),some (.int b),some (.int n),some (.ref D),some (.ref r),v6]∧H r=none∧H4 r=some (.lst (t.map sg))∧Low t∧u.length≤t.length∧t.length≤30*(i+1)∧Same H3 H4) ?_ ?_ ?_
   ·exact⟨u,r0,none,rfl,fr0,hr3,lu,Nat.le_refl _,by lia,Same.refl _⟩
   ·rintro i σ H4 hi ⟨t,r,v6,rfl,hrn,hr4,lt,t1,tl,s4⟩
    have ha4:=s4 _ _ (s3 _ _ ha)
    have hD4:=s4 _ _ hD3
    refine⟨_,rfl,_,rfl,_,rfl,a,_,rfl,SqL.of ha4,_,rfl,_,rfl,_,rfl,_,rfl,_,_,rfl,rfl,_,rfl,D,_,rfl,SqL.of hD4,c,_,_,rfl,by lia,by lia,by rw[aL];lia,fun x x0 x1=>?_⟩
    rw[aL] at x1
    obtain⟨d,hd,ed⟩:=Ek x0 x1
    have hd':=kr d hd
    refine⟨D,_,x,_,rfl,rfl,SqL.of hD4,ed,_,_,rfl,rfl,_,rfl,a,_,rfl,SqL.of ha4,fun p hp=>?_⟩
    rw[List.length_map] at*
    have e1:bA (u.map sg) (some ((u.length:Int)-(d:Int))) none=(u.drop (u.length-d)).map sg:=by
     rw[dh,dC,kB _ _ (by lia),show((u.length:Int)-(d:Int)).toNat=u.length-d by lia]
    rw[e1] at*
    have s5:=Same.upd (o:=.lst ((u.drop (u.length-d)).map sg)) hp
    refine vo (t:=t) (u:=u.drop (u.length-d)) (s5 _ _ hr4) ag (by rw[List.length_drop];lia) fun q hq=>?_
    have s6:=s5.trans (Same.upd (o:=.lst ((t++u.drop (u.length-d)).map sg)) hq)
    refine⟨t++u.drop (u.length-d),q,_,rfl,(s3.trans s4).free (s5.free hq),ag,lt.app (lu.drop _),by rw[List.length_append];lia,by rw[List.length_append,List.length_drop];lia,s4.trans s6⟩
   ·rintro σ H4 ⟨t,r,v6,rfl,hrn,hr4,lt,t1,tl,s4⟩
    exact⟨_,rfl,k t r H4 hrn hr4 lt t1 (by lia) (s3.trans s4)⟩
end
abbrev oM:Stmt:=aH 73
def uc:Sp:=fun vs H Q _=>∃c:Int,vs=[.int c]∧∀(t:List Nat) (a:Addr) (H':Hp),H a=none→H' a=some (.lst (t.map sg))→Low t→1≤t.length→t.length≤200→Same H H'→Q (.ref a) H'
theorem jj{xs:List Int}{d m:Int}(d0:0≤d)(d1:d<xs.length)(h:∀y∈xs,1≤y∧y≤m):∃y:Int,bF (xs.map V.int) d=some (V.int y)∧1≤y∧y≤m:=by
 obtain⟨v,_,hv,ev⟩:=pj (xs.map V.int) d d0 (by rw[List.length_map];exact d1)
 obtain⟨y,hy,rfl⟩:=List.mem_map.mp hv
 exact⟨y,ev,h y hy⟩
section
variable{P:Program}{w:World}{K:PySem.W.Frag}{mg:Str→Option Value}{base:Heap}
theorem scText:FnScope ["cell","many","word","text","cut"] ["cell"] (al oM):=fsc_
theorem Es(M:Md K mg)(B:Bl mg)(F:FF K "_law_text" oM)(F_law_digit:Fn P w K mg base ae "_law_digit" 2 ["cell","k","many"] iT)(F_law_word:Fn P w K mg base ae "_law_word" 3 ["cell","begin","many","sorts"] vn)(F_law_overlaid:Fn P w K mg base ae "_law_overlaid" 3 ["word","cell","begin","times"] qv):Fn P w K mg base ae "_law_text" 4 ["cell"] uc:=by
 refine aP M F scText (fun _ _ _ _ _ _=>br fun _=>rfl) (fun vs H Q E h=>?_) (fun f cdv A outer s H vs Q E hr h=>?_)
 ·obtain⟨c,rfl,_⟩:=h;rfl
 ·obtain⟨c,rfl,k⟩:=h
  refine⟨_,(ad (aA (i:=1) scText.nd rfl (.inl rfl) (aq bv af (ai F_law_digit hr ak (aa (pv 0) (aa af (aa (bh bO (aS (aa af (aa af (aa af (aa af ac))))) (ai F_law_digit hr ak (aa (pv 0) (aa af (aa af ac)))) (fun _ _=>rfl)) ac))))))
   (ad (aA (i:=2) scText.nd rfl (.inl rfl) (ai F_law_word hr ak (aa (pv 0) (aa af (aa (pv 1) (aa (bh bO (aS (aa af (aa af (aa af (aa af ac))))) (ai F_law_digit hr ak (aa (pv 0) (aa af (aa af ac)))) (fun _ _=>rfl)) ac))))))
   (ad (aA (i:=3) scText.nd rfl (.inl rfl) (ai F_law_overlaid hr ak (aa (pv 2) (aa (pv 0) (aa af (aa (ai F_law_digit hr ak (aa (pv 0) (aa af (aa (bh bO (aS (aa af (aa af (aa af (aa af ac))))) (ai F_law_digit hr ak (aa (pv 0) (aa af (aa af ac)))) (fun _ _=>rfl)) ac)))) ac))))))
   (ad (aA (i:=4) scText.nd rfl (.inl rfl) (ai F_law_digit hr ak (aa (pv 0) (aa af (aa af ac)))))
   (ad (aJ (aC aW (pv 4) af (aB _)) (ah (aA (i:=3) scText.nd rfl (.inl rfl) (bT bR (pv 3) (bH (ai F_law_digit hr ak (aa (pv 0) (aa af (aa (aG B.len (pv 2)) ac))))) cm))) aN)
   (ad (aJ (aC aW (pv 4) af (aB _)) (ah (aA (i:=3) scText.nd rfl (.inl rfl) (bT bR (pv 3) cm (bH (aq bE (aG B.len (pv 3)) (ai F_law_digit hr ak (aa (pv 0) (aa af (aa (aG B.len (pv 2)) ac))))))))) aN)
   (ad (aJ (aC aW (pv 4) af (aB _)) (ah (dO (bh ox ar (ai F_law_digit hr ak (aa (pv 0) (aa af (aa af ac)))) (fun _ _=>rfl)) (DR (pv 3) (ai F_law_digit hr ak (aa (pv 0) (aa af (aa (aG B.len (pv 3)) ac)))) AJ))) aN)
   (ah (aw (bT bR (pv 3) cm (bH af))))))))))),?_⟩
  refine bU ?_
  refine⟨_,rfl,by show 4≤sizeLine;decide,fun l0 hl0=>⟨_,rfl,c,46,4,rfl,by decide,by decide,by decide,fun x x0 x1=>?_⟩⟩
  have s1:=Same.upd (o:=.lst ([5,5,5,30].map V.int)) hl0
  obtain⟨y,ey,y0,y1⟩:=jj (xs:=[5,5,5,30]) (m:=30) x0 x1 (by decide)
  refine⟨l0,_,_,_,rfl,rfl,SqL.of ag,ey,c,1,y,rfl,by decide,by decide,y0,fun z z0 z1=>⟨_,_,rfl,rfl,?_⟩⟩
  change (fun H'=>_) (L2.upd H l0 (.lst ([5,5,5,30].map V.int)))
  generalize L2.upd H l0 (.lst ([5,5,5,30].map V.int))=H1 at s1 ⊢
  dsimp only
  refine bU ?_
  refine⟨_,rfl,_,rfl,by show 4≤sizeLine;decide,fun l1 hl1=>⟨_,rfl,c,2,4,rfl,by decide,by decide,by decide,fun x x0 x1=>?_⟩⟩
  have s2:=s1.trans (Same.upd (o:=.lst ([1,2,3,26].map V.int)) hl1)
  obtain⟨y2,ey2,y20,y21⟩:=jj (xs:=[1,2,3,26]) (m:=26) x0 x1 (by decide)
  refine⟨l1,_,_,_,rfl,rfl,SqL.of ag,ey2,c,10,1+z,y2,rfl,by decide,by decide,by lia,by lia,y20,fun u ur H3 hu0 hu3 lu ul s3=>?_⟩
  have s03:=s2.trans s3
  have ul:u.length=(1+z).toNat:=ul
  refine bU ?_
  refine⟨_,rfl,_,rfl,_,rfl,by show 4≤sizeLine;decide,fun l2 hl2=>⟨_,rfl,c,4,4,rfl,by decide,by decide,by decide,fun x x0 x1=>?_⟩⟩
  have s4:=s03.trans (Same.upd (o:=.lst ([5,5,5,39].map V.int)) hl2)
  have hu4:=(Same.upd (o:=.lst ([5,5,5,39].map V.int)) hl2) _ _ hu3
  obtain⟨y3,ey3,y30,y31⟩:=jj (xs:=[5,5,5,39]) (m:=39) x0 x1 (by decide)
  refine⟨l2,_,_,_,rfl,rfl,SqL.of ag,ey3,c,3,y3,rfl,by decide,by decide,y30,fun q q0 q1=>?_⟩
  refine⟨ur,u,c,50,q,rfl,hu4,lu,by lia,by lia,by decide,by decide,q0,by lia,fun t tr H5 ht0 ht5 lt ut tl s5=>?_⟩
  have s05:=s4.trans s5
  have hu5:=s5 _ _ hu4
  have tr0:=s4.free ht0
  refine bU ?_
  refine⟨_,rfl,c,5,4,rfl,by decide,by decide,by decide,fun cu cu0 cu1=>?_⟩
  refine eG (fun σ H'=>∃t' tr',σ=[some (.int c),some (.int (1+z)),some (.ref ur),some (.ref tr'),some (.int cu)]∧H tr'=none∧H' tr'=some (.lst (t'.map sg))∧H' ur=some (.lst (u.map sg))∧Low t'∧1≤t'.length∧t'.length≤1200∧(cu≠0→u.length≤t'.length)∧Same H H') ?_ fun R hR=>?_
  rotate_left
  ·refine⟨_,rfl,rfl,_,rfl,?_⟩
   refine bN (fun hc=>?_) fun _=>hR _ _ ⟨t,tr,rfl,tr0,ht5,hu5,lt,by lia,tl,fun _=>ut,s05⟩
   have hc:cu=0:=V.int.inj (of_decide_eq_true hc)
   refine⟨_,rfl,_,rfl,_,rfl,ur,_,rfl,SqL.of hu5,c,6,_,rfl,by decide,by decide,by rw[List.length_map];lia,fun j j0 j1=>?_⟩
   rw[List.length_map] at j1
   refine⟨j,rfl,tr,_,rfl,SqL.of ht5,fun p hp=>?_⟩
   rw[mX j0]
   have s6:=s05.trans (Same.upd (o:=.lst ((t.drop j.toNat).map sg)) hp)
   exact hR _ _ ⟨t.drop j.toNat,p,rfl,s05.free hp,ag,(Same.upd hp) _ _ hu5,lt.drop _,by rw[List.length_drop];lia,by rw[List.length_drop];lia,fun z=>absurd hc z,s6⟩
  clear ht5 lt ut tl s5 hu5 tr0 s05
  rintro σ H5 ⟨t,tr,rfl,tr0,ht5,hu5,lt,t1,tl,ut,s05⟩
  refine eG (fun σ H'=>∃t' tr',σ=[some (.int c),some (.int (1+z)),some (.ref ur),some (.ref tr'),some (.int cu)]∧H tr'=none∧H' tr'=some (.lst (t'.map sg))∧Low t'∧1≤t'.length∧t'.length≤1200∧Same H H') ?_ fun R hR=>?_
  rotate_left
  ·refine⟨_,rfl,rfl,_,rfl,?_⟩
   refine bN (fun hc=>?_) fun _=>hR _ _ ⟨t,tr,rfl,tr0,ht5,lt,t1,tl,s05⟩
   have hc:cu=1:=V.int.inj (of_decide_eq_true hc)
   have ut':=ut (by lia)
   refine⟨_,rfl,_,rfl,tr,_,rfl,SqL.of ht5,_,rfl,_,rfl,ur,_,rfl,SqL.of hu5,c,6,_,rfl,by decide,by decide,by rw[List.length_map];lia,fun j j0 j1=>?_⟩
   rw[List.length_map] at j1
   refine⟨_,_,rfl,rfl,_,rfl,tr,_,rfl,SqL.of ht5,fun p hp=>?_⟩
   rw[List.length_map,iO (by lia)]
   have s6:=s05.trans (Same.upd (o:=.lst ((t.take ((t.length:Int)-j).toNat).map sg)) hp)
   exact hR _ _ ⟨t.take ((t.length:Int)-j).toNat,p,rfl,s05.free hp,ag,lt.take _,by rw[List.length_take];lia,by rw[List.length_take];lia,s6⟩
  clear ht5 lt ut tl hu5 tr0 s05 t1
  rintro σ H5 ⟨t,tr,rfl,tr0,ht5,lt,t1,tl,s05⟩
  refine eG (fun σ H'=>∃t' tr',σ=[some (.int c),some (.int (1+z)),some (.ref ur),some (.ref tr'),some (.int cu)]∧H tr'=none∧H' tr'=some (.lst (t'.map sg))∧Low t'∧1≤t'.length∧t'.length≤1200∧Same H H') ?_ fun R hR=>?_
  rotate_left
  ·refine⟨_,rfl,rfl,_,rfl,?_⟩
   refine bN (fun hc=>?_) fun _=>hR _ _ ⟨t,tr,rfl,tr0,ht5,lt,t1,tl,s05⟩
   refine⟨_,rfl,c,8,26,rfl,by decide,by decide,by decide,fun x x0 x1=>?_⟩
   obtain⟨ch,ech,c97,c122⟩:=qN x0 x1
   refine⟨azS,x,ch,rfl,rfl,sz (by rw[mV];decide),ech,?_⟩
   refine⟨_,rfl,_,rfl,_,rfl,tr,_,rfl,SqL.of ht5,c,7,_,rfl,by decide,by decide,by rw[List.length_map];lia,fun j j0 j1=>?_⟩
   rw[List.length_map] at j1
   refine⟨tr,_,j,j.toNat,rfl,rfl,ht5,by rw[List.length_map];exact DG _ _ j0 j1,hR _ _ ⟨t.set j.toNat ch,tr,rfl,tr0,by rw[ag,List.map_set],lt.set _ _ ⟨c97,c122⟩,by rw[List.length_set];exact t1,by rw[List.length_set];exact tl,fun b o e=>?_⟩⟩
   rw[ap (aK e tr0)]
   exact s05 _ _ e
  clear ht5 lt tl tr0 s05 t1
  rintro σ H5 ⟨t,tr,rfl,tr0,ht5,lt,t1,tl,s05⟩
  refine⟨_,rfl,200,rfl,tr,_,rfl,SqL.of ht5,fun p hp=>?_⟩
  rw[iO (by decide)]
  exact k (t.take 200) p _ (s05.free hp) ag (lt.take _) (by rw[List.length_take];lia) (by rw[List.length_take];lia) (s05.trans (Same.upd hp))
end
abbrev mW:Stmt:=aH 63
def qt(K:PySem.W.Frag):Sp:=fun vs H Q _=>∃(a:Addr) (ns:List Int) (i:Nat),vs=[.ref a,.int (i:Int)]∧SqL K H a (ns.map V.int)∧∀c:Int,Q (.int c) H
section
variable{P:Program}{w:World}{K:PySem.W.Frag}{mg:Str→Option Value}{base:Heap}
theorem wm:FnScope ["script","k"] ["script","k"] (al mW):=fsc_
theorem BF(M:Md K mg)(B:Bl mg)(F:FF K "_law_cell_at" mW):Fn P w K mg base ae "_law_cell_at" 1 ["script","k"] (qt K):=by
 refine aP M F wm (fun _ _ _ _ _ _=>aZ fun _ _=>rfl) (fun vs H Q E h=>?_) (fun f cdv A outer s H vs Q E hr h=>?_)
 ·obtain⟨a,ns,i,rfl,_⟩:=h;rfl
 ·obtain⟨a,ns,i,rfl,hS,k⟩:=h
  refine⟨_,(ad (aJ (aC dZ (pv 1) (aG B.len (pv 0)) (aB _)) (ah (aw (bh bO (pv 0) (pv 1) (fun _ _=>rfl)))) aN)
   (ah (aw af))),?_⟩
  refine⟨_,rfl,_,rfl,a,_,rfl,hS,_,_,rfl,rfl,_,rfl,?_⟩
  refine bN (fun hc=>?_) (fun hc=>k 0)
  have hi:i<ns.length:=by have:=of_decide_eq_true hc;rw[List.length_map] at this;lia
  exact⟨_,rfl,_,rfl,a,_,_,_,rfl,rfl,hS,fh (v:=V.int ns[i]) (by rw[List.getElem?_map,List.getElem?_eq_getElem hi];rfl),k _⟩
end
theorem iQ{P:Program}{w:World}{X:Cx}:cA (au P w) X E0:=fun _ _ _ _ _ _ _ h=>by
 obtain⟨_,_,_,_,_,_,_,_,_,_,_,_,_,_,h⟩:=h
 exact h.elim
theorem Ck{X:Cx}{k:Nat}(hr:Room k X.A):OpR X (compareOp .NotEq) (fun x y H Q=>lY x y H Q∨fT X.K true x y H Q):=fun pins s σ H x y v u Q I rx ry h=>h.elim (pW pins s σ H x y v u Q I rx ry) (vm hr pins s σ H x y v u Q I rx ry)
theorem CN{c:TT}{t u:TS}{D:Ends}{σ:St}{H:Hp}(p:Prop)(hc:∀Q:Bool→Hp→Prop,Q true H→(p→Q false H)→c σ H Q)(ht:t D σ H)(hu:p→u D σ H):c σ H fun b H1=>if b=true then t D σ H1 else u D σ H1:=hc _ (aE ht) fun hp=>ao (hu hp)
theorem xV{c:TT}{t u:TS}{D:Ends}{σ:St}{H:Hp}(p:Prop)(hc:∀Q:Bool→Hp→Prop,Q true H→(p→Q false H)→c σ H Q)(ht:t D σ H)(hu:p→u D σ H):pf c t u D σ H:=hc _ (aE ht) fun hp=>ao (hu hp)
theorem rO{Q:Bool→Hp→Prop}{H:Hp}(h1:Q true H)(h2:Q false H):∀b,Q b H
 | true=>h1
 | false=>h2
theorem jm{K:PySem.W.Frag}{H H':Hp}{a p:Addr}{xs:List V}{u:HO}(h:SqL K H a xs)(hp:H p=some u)(h1:∀l,u≠ .lst l)(h2:∀o l,u≠ .frz o l)(k:bz p H H'):SqL K H' a xs:=by
 rcases h with(h | ⟨o,h⟩) | h
 ·exact .inl (.inl (k _ _ h fun e=>by rw[e,hp] at h;exact h1 _ (Option.some.inj h)))
 ·exact .inl (.inr ⟨o,k _ _ h fun e=>by rw[e,hp] at h;exact h2 _ _ (Option.some.inj h)⟩)
 ·exact .inr h
theorem Hold.keepI{H H':Hp}{x C dx:Addr}{fs:List (Str×V)}{v:V}{o:Option (List Nat)}(h:Hold H v o)(hx:H x=some (.ins C dx fs))(k:bz x H H'):Hold H' v o:=by
 cases o with
 | none=>exact h
 | some l=>obtain⟨a,e,q⟩:=h;exact⟨a,e,k _ _ q fun z=>by rw[z,hx] at q;cases q⟩
abbrev tA:List Nat:=[97,98,97,97,98,97,98,97]
abbrev tW:List Nat:=[97,98,97]
structure S46(K:PySem.W.Frag)(C pt a0:Addr)(ns:List Int)(x dx y dy:Addr)(H:Hp)(tv wv:V)(ot ow lt lw:Option (List Nat)):Prop where
 dx:∃t w,DS C H x dx t w ot ow
 dy:∃t w,DS C H y dy t w (some tA) (some tW)
 ne:x≠y
 tb:TB H pt
 two:Two H tv wv lt lw
 scr:SqL K H a0 (ns.map V.int)
section
variable{K:PySem.W.Frag}{C pt a0:Addr}{ns:List Int}{x dx y dy:Addr}{H H':Hp}{tv wv:V}{ot ow lt lw:Option (List Nat)}
theorem Two.same(h:Two H tv wv lt lw)(s:Same H H'):Two H' tv wv lt lw:=⟨h.ht.same s,h.hw.same s,h.lt,h.lw⟩
theorem S46.same(h:S46 K C pt a0 ns x dx y dy H tv wv ot ow lt lw)(s:Same H H'):S46 K C pt a0 ns x dx y dy H' tv wv ot ow lt lw:=by
 obtain⟨⟨t,w,d⟩,⟨t',w',d'⟩,ne,tb,two,scr⟩:=h
 exact⟨⟨t,w,d.same s⟩,⟨t',w',d'.same s⟩,ne,tb.same s,two.same s,s.seq scr⟩
theorem S46.keep(h:S46 K C pt a0 ns x dx y dy H tv wv ot ow lt lw)(k:bz pt H H')(T':TB H' pt):S46 K C pt a0 ns x dx y dy H' tv wv ot ow lt lw:=by
 obtain⟨⟨t,w,d⟩,⟨t',w',d'⟩,ne,tb,two,scr⟩:=h
 have hold:∀{v o},Hold H v o→Hold H' v o:=fun{v o} q=>by
  cases o with
  | none=>exact q
  | some l=>obtain⟨a,e,q⟩:=q;exact⟨a,e,k _ _ q (tb.ne q)⟩
 refine⟨⟨t,w,d.keep tb k⟩,⟨t',w',d'.keep tb k⟩,ne,T',⟨hold two.ht,hold two.hw,two.lt,two.lw⟩,?_⟩
 rcases tb with q | ⟨c,q,_⟩
 ·exact jm scr q (fun l z=>nomatch z) (fun o l z=>nomatch z) k
 ·exact jm scr q (fun l z=>nomatch z) (fun o l z=>nomatch z) k
theorem S46.told(h:S46 K C pt a0 ns x dx y dy H tv wv ot ow lt lw){t w:V}{ot' ow':Option (List Nat)}(k:bz x H H')(d:DS C H' x dx t w ot' ow'):S46 K C pt a0 ns x dx y dy H' tv wv ot' ow' lt lw:=by
 obtain⟨⟨t0,w0,d0⟩,⟨t',w',d'⟩,ne,tb,two,scr⟩:=h
 have hx:=d0.at_
 exact⟨⟨t,w,d⟩,⟨t',w',k _ _ d'.at_ (Ne.symm ne),d'.ht.keepI hx k,d'.hw.keepI hx k,d'.lt,d'.lw⟩,ne,tb.keepI hx k,⟨two.ht.keepI hx k,two.hw.keepI hx k,two.lt,two.lw⟩,jm scr hx (fun l z=>nomatch z) (fun o l z=>nomatch z) k⟩
theorem S46.law(h:S46 K C pt a0 ns x dx y dy H tv wv ot ow lt lw){tv' wv':V}{lt' lw':Option (List Nat)}(two:Two H tv' wv' lt' lw'):S46 K C pt a0 ns x dx y dy H tv' wv' ot ow lt' lw':=⟨h.dx,h.dy,h.ne,h.tb,two,h.scr⟩
end
theorem oO{pt:Addr}{H:Hp}{s:Str}{o:bP}{Q:VK}{E:XK}(e:o=.ok s)(h:∀H',bz pt H H'→TB H' pt→Q (.str s) H'):outK pt H o Q E:=by
 subst e;exact h
theorem vL{cT:Addr}:dA cT tA tW=.ok "covers 3":=by
 unfold dA
 rw[if_neg (by decide),if_neg (by decide+kernel)]
 exact congrArg _ (by decide+kernel)
theorem yg{cT cC:Addr}:dm cT cC tA tW=.ok "0 3 5":=by
 unfold dm
 rw[if_neg (by decide),if_neg (by decide+kernel)]
 exact congrArg _ (by decide+kernel)
theorem Eb{cT:Addr}:fB cT tA=.ok "aba":=by
 unfold fB
 rw[if_neg (by decide)]
 exact congrArg _ (by decide+kernel)
theorem xX{way len:Int}(h4:4≤way)(h12:way<12)(l0:0≤len)(l1:len<203):∃d,bF [V.str "covers",.str "shortest",.str "lies",.str "laid",.str "fewest",.str "wrong",.str "ends",.str "texts"] (way-4)=some (.str (eK d))∧ka d len∧jX d:=by
 rcases(show way=4∨way=5∨way=6∨way=7∨way=8∨way=9∨way=10∨way=11 by lia) with rfl | rfl | rfl | rfl | rfl | rfl | rfl | rfl
 ·exact⟨.cov,rfl,trivial,trivial⟩
 ·exact⟨.sho,rfl,trivial,trivial⟩
 ·exact⟨.lie,rfl,trivial,trivial⟩
 ·exact⟨.laid,rfl,trivial,trivial⟩
 ·exact⟨.few,rfl,trivial,trivial⟩
 ·exact⟨.wro,rfl,trivial,trivial⟩
 ·exact⟨.ends,rfl,trivial,trivial⟩
 ·exact⟨.tex len.toNat,rfl,⟨by lia,by lia⟩,(show len.toNat<203 by lia)⟩
theorem CF{d:Deed}{len:Int}(h:ka d len):eK d++(if dq d then Str.ofString " "++Str.ofString (toString len) else Str.empty)=cB d:=by
 cases d with
 | tex m=>
   obtain⟨rfl,_⟩:=h
   show Str.ofString "texts"++(Str.ofString " "++aQ m)=Str.ofString "texts "++aQ m
   refine cd_inj.mpr ?_
   rw[cL,cL,cL,tS,nH,show cd (Str.ofString " ")=[32] by decide+kernel,List.append_assoc]
 | _=>exact nc _
theorem Ew:∀d,(eK d).length≤8
 | .tex _=>(by decide+kernel:(Str.ofString "texts").length≤8)
 | .cov | .sho | .lie | .laid | .few | .wro | .ends=>by decide+kernel
theorem DH(a b c:Str):a++b++c=a++(b++c):=by
 refine cd_inj.mpr ?_
 rw[cL,cL,cL,cL,List.append_assoc]
abbrev oy:Stmt:=aH 74
def kt(K:PySem.W.Frag)(pt:Addr):Sp:=fun vs H Q _=>∃(a:Addr) (ns:List Int),vs=[.ref a]∧SqL K H a (ns.map V.int)∧ns.length≤63∧TB H pt∧∀H',TB H' pt→Q (.bl true) H'
def ym(fl:Addr→List Bool)(cT cC cN cY:Addr)(H:Hp)(ot ow lt lw:Option (List Nat))(row:Str)(dv:V):Prop:=
 (∃l:List Nat,row=Str.ofString "text "++cK l∧Low l∧l.length≤200∧lt=some l∧lw=ow∧dv=.str (Str.ofString "signs "++aQ l.length))∨
 (∃l:List Nat,row=Str.ofString "word "++cV l∧Low l∧1≤l.length∧l.length≤200∧lt=ot∧lw=some l∧dv=.str (Str.ofString "signs "++aQ l.length))∨
 (∃d:Deed,row=cB d∧jX d∧lt=ot∧lw=ow∧Tells fl H dv (bS cT cC cN cY d ot ow))
theorem pF{K:PySem.W.Frag}{fl:Addr→List Bool}{H:Hp}{v u:V}{o:bP}{Q:VK}(hf:∀c,(PyData.list ((fl c).map PyData.bool)).depth≤64∧PyData.eqv (.list ((fl c).map PyData.bool)) (.list ((fl c).map PyData.bool))=true)(h1:Tells fl H v o)(h2:Tells fl H u o)(q:Q (.bl false) H):lY v u H Q∨fT K true v u H Q:=by
 have bls:∀bs:List Bool,DatVs K H (bs.map PyData.bool) (bs.map V.bl):=fun bs=>by
  induction bs with
  | nil=>exact lU
  | cons b bs ih=>exact hO (zx b) ih
 cases o with
 | ok s=>
   rw[show v=.str s from h1,show u=.str s from h2]
   refine .inl ⟨rfl,?_⟩
   rw[decide_eq_true rfl];exact q
 | error c=>
   obtain⟨r,rfl,hr⟩:=h1
   obtain⟨r',rfl,hr'⟩:=h2
   refine .inr ⟨.list ((fl c).map PyData.bool),.list ((fl c).map PyData.bool),jD (SqL.of hr) (bls _),jD (SqL.of hr') (bls _),Nat.le_trans (Nat.min_le_left _ _) (hf c).1,?_⟩
   rw[(hf c).2];exact q
theorem xt(a b c d e f g h i:Addr)(D:Addr):(PyData.list ((gm a b c d e f g h i D).map PyData.bool)).depth≤64∧PyData.eqv (.list ((gm a b c d e f g h i D).map PyData.bool)) (.list ((gm a b c d e f g h i D).map PyData.bool))=true:=by
 unfold gm
 simp[PyData.depth,PyData.depthAll,PyData.eqv,PyData.eqvAll]
theorem rQ{l:List Nat}(h:l.length≤200):(Str.ofString "signs ").length+(aQ l.length).length≤sizeLine:=by
 have:=iV h
 exact sz (by rw[show(Str.ofString "signs ").length=6 by decide+kernel];lia)
theorem qS(l:List Nat):(cV l).length=l.length:=by rw[iM,ip]
theorem tM(t:List Nat):t.map sg=(t.map aI).map V.str:=by rw[List.map_map];rfl
theorem zm(l:List Nat):cV l++(if decide (l=[]) then Str.ofString "-" else Str.empty)=cK l:=by
 unfold cK
 by_cases h:l=[]
 ·subst h;rw[if_pos rfl,if_pos (by decide)];decide+kernel
 ·rw[if_neg h,if_neg (by simpa using h),nc]
theorem wT:Str.ofString "text abaababa"=Str.ofString "text "++cK tA:=by decide+kernel
theorem zp:Str.ofString "word aba"=Str.ofString "word "++cV tW:=by decide+kernel
theorem pU:Low tA:=by unfold Low;decide
theorem t8:Low tW:=by unfold Low;decide
theorem vS:Str.ofString "signs "++aQ tA.length=Str.ofString "signs 8":=by decide+kernel
theorem zn:Str.ofString "signs "++aQ tW.length=Str.ofString "signs 3":=by decide+kernel
theorem zu{K:PySem.W.Frag}{H:Hp}{p q:Addr}{Q:VK}(hp:H p=some (.lst [.str "covers 3",.str "0 3 5",.str "aba"]))(hq:H q=some (.lst [.str "covers 3",.str "0 3 5",.str "aba"]))(k:Q (.bl true) H):fT K false (.ref p) (.ref q) H Q:=by
 have d:∀r,H r=some (.lst [V.str "covers 3",.str "0 3 5",.str "aba"])→DatV K H (.list [.str "covers 3",.str "0 3 5",.str "aba"]) (.ref r):=fun r hr=>jD (SqL.of hr) (hO (iP _ (by decide+kernel)) (hO (iP _ (by decide+kernel)) (hO (iP _ (by decide+kernel)) lU)))
 refine⟨_,_,d p hp,d q hq,by simp[PyData.depth,PyData.depthAll],?_⟩
 rw[show PyData.eqv (.list [.str "covers 3",.str "0 3 5",.str "aba"]) (.list [.str "covers 3",.str "0 3 5",.str "aba"])=true by simp[PyData.eqv,PyData.eqvAll]]
 exact k
theorem C0{K:PySem.W.Frag}{H:Hp}{p q:Addr}{Q:VK}(hp:H p=some (.lst [.str "signs 8",.str "signs 3"]))(hq:H q=some (.lst [.str "signs 8",.str "signs 3"]))(k:Q (.bl false) H):fT K true (.ref p) (.ref q) H Q:=by
 have d:∀r,H r=some (.lst [V.str "signs 8",.str "signs 3"])→DatV K H (.list [.str "signs 8",.str "signs 3"]) (.ref r):=fun r hr=>jD (SqL.of hr) (hO (iP _ (by decide+kernel)) (hO (iP _ (by decide+kernel)) lU))
 refine⟨_,_,d p hp,d q hq,by simp[PyData.depth,PyData.depthAll],?_⟩
 rw[show PyData.eqv (.list [.str "signs 8",.str "signs 3"]) (.list [.str "signs 8",.str "signs 3"])=true by simp[PyData.eqv,PyData.eqvAll]]
 exact k
section
variable{P:Program}{w:World}{K:PySem.W.Frag}{mg:Str→Option Value}{base:Heap}{pt C cT cC cN cY:Addr}{fl:Addr→List Bool}
theorem scLaw:FnScope ["script","desk","beside","text","word","head","k","cell","way","length","row","due","some"] ["script"] (al oy):=fsc_
set_option maxHeartbeats 4000000 in
theorem Dw(M:Md K mg)(B:Bl mg)(T:DeskT K mg C)(F:FF K "law" oy)(hf:∀c,(PyData.list ((fl c).map PyData.bool)).depth≤64∧PyData.eqv (.list ((fl c).map PyData.bool)) (.list ((fl c).map PyData.bool))=true)(MkDesk:MkF P w K mg base ae C 1 ["self"] (um C))(F_law_cell_at:Fn P w K mg base ae "_law_cell_at" 1 ["script","k"] (qt K))(F_law_digit:Fn P w K mg base ae "_law_digit" 2 ["cell","k","many"] iT)(Msay:Mt P w K mg base (au P w) C "say" 9 ["self","row"] (pQ pt C cT cC cN cY))(F_law_text:Fn P w K mg base ae "_law_text" 4 ["cell"] uc)(F_law_due:Fn P w K mg base ae "_law_due" 10 ["row","text","word","length"] (rM fl pt cT cC cN cY))(F_law_said:Fn P w K mg base ae "_law_said" 10 ["desk","row"] (qo fl pt C cT cC cN cY)):Fn P w K mg base ae "law" 11 ["script"] (kt K pt):=by
 have cDesk:=T.cl
 have gDesk:=T.g
 have nS:¬(("say":Str)="word")∧¬(("say":Str)="text"):=by decide+kernel
 refine aP M F scLaw (fun _ _ _ _ _ _=>br fun _=>rfl) (fun vs H Q E h=>?_) (fun f cdv A outer s H vs Q E hr h=>?_)
 ·obtain⟨a,ns,rfl,_⟩:=h;rfl
 ·obtain⟨a0,ns,rfl,hS,hlen,TT,k⟩:=h
  refine⟨_,(ad (aA (i:=1) scLaw.nd rfl (.inl rfl) (sU MkDesk hr rfl gDesk ak))
   (ad (aA (i:=2) scLaw.nd rfl (.inl rfl) (sU MkDesk hr rfl gDesk ak))
   (ad (aA (i:=3) scLaw.nd rfl (.inl rfl) dj)
   (ad (aA (i:=4) scLaw.nd rfl (.inl rfl) dj)
   (ad (aJ (aC (vm (by exact hr)) (aS (aa (iS (pv 2) cDesk Msay hr iQ (aa ar ac)) (aa (iS (pv 2) cDesk Msay hr iQ (aa ar ac)) ac))) (aS (aa ar (aa ar ac))) (aB _)) (ah (aw eZ)) aN)
   (ad (aA (i:=5) scLaw.nd rfl (.inl rfl) (ai F_law_digit hr ak (aa (ai F_law_cell_at hr ak (aa (pv 0) (aa af ac))) (aa af (aa af ac)))))
   (ad (eB PassesOwn.never rfl (iz (by rfl) B.range (aa (m8 rfl B.min af (aq bv (aG B.len (pv 0)) af)) ac)) (aT (i:=6) scLaw.nd rfl (.inl rfl))
   (ad (aA (i:=7) scLaw.nd rfl (.inl rfl) (ai F_law_cell_at hr ak (aa (pv 0) (aa (pv 6) ac))))
   (ad (aA (i:=8) scLaw.nd rfl (.inl rfl) (ai F_law_digit hr ak (aa (pv 7) (aa af (aa af ac)))))
   (ad (aA (i:=9) scLaw.nd rfl (.inl rfl) (ai F_law_digit hr ak (aa (pv 7) (aa af (aa (bh bO (aS (aa af (aa af (aa af ac)))) (ai F_law_digit hr ak (aa (pv 7) (aa af (aa af ac)))) (fun _ _=>rfl)) ac)))))
   (ad (aJ (PW.pt (gR (aC dZ (pv 8) af (aB _)) (gX (PW.pt (dM (aC aW (pv 6) af (aB _)) (dX (aC dZ (pv 5) af (aB _)))))))) (ad (aA (i:=3) scLaw.nd rfl (.inl rfl) (ai F_law_text hr ak (aa (pv 7) ac)))
   (ad (aJ (aC aW (ai F_law_digit hr ak (aa (pv 7) (aa af (aa af ac)))) af (aB _)) (ah (aA (i:=3) scLaw.nd rfl (.inl rfl) (aS ac))) aN)
   (ad (aA (i:=10) scLaw.nd rfl (.inl rfl) (aq df (aq df ar (cJ PySem.F.plainAttrs_str PySem.F.slot_str_join PySem.F.type_str_join fF ar (aa (pv 3) ac))) (aq oj ar (jL B.int (eh (jh (by exact hr)) (pv 3) (aS ac) (aB _))))))
   (ah (aA (i:=11) scLaw.nd rfl (.inl rfl) (aq df ar (eC B.str (aG B.len (pv 3))))))))) (ah (aJ (PW.pt (gR (aC dZ (pv 8) af (aB _)) (gX (PW.pt (dM (aC aW (pv 6) af (aB _)) (dX (aC pW (pv 5) af (aB _)))))))) (ad (aA (i:=12) scLaw.nd rfl (.inl rfl) (ai F_law_text hr ak (aa (pv 7) ac)))
   (ad (aJ (PW.pt (dM (pH (pv 3) (fun _=>rfl)) (dX (aC gM (ai F_law_digit hr ak (aa (pv 7) (aa af (aa af ac)))) af (aB _))))) (ah (aA (i:=12) scLaw.nd rfl (.inl rfl) (pv 3))) aN)
   (ad (aA (i:=4) scLaw.nd rfl (.inl rfl) (bT bR (pv 12) cm (bH (aq bv af (ai F_law_digit hr ak (aa (pv 7) (aa af (aa (m8 rfl B.min (aG B.len (pv 12)) (bh bO (aS (aa af (aa af (aa af ac)))) (ai F_law_digit hr ak (aa (pv 7) (aa af (aa af ac)))) (fun _ _=>rfl))) ac))))))))
   (ad (aA (i:=10) scLaw.nd rfl (.inl rfl) (aq df ar (cJ PySem.F.plainAttrs_str PySem.F.slot_str_join PySem.F.type_str_join fF ar (aa (pv 4) ac))))
   (ah (aA (i:=11) scLaw.nd rfl (.inl rfl) (aq df ar (eC B.str (aG B.len (pv 4)))))))))) (ad (aA (i:=10) scLaw.nd rfl (.inl rfl) (bh bO (PEw.h (Eu (fO fQ (fO fQ (fO fQ (fO fQ (fO fQ (fO fQ (fO fQ (fO fQ Ez)))))))))) (aq bE (pv 8) af) (fun _ _=>rfl)))
   (ad (aA (i:=11) scLaw.nd rfl (.inl rfl) (ai F_law_due hr ak (aa (pv 10) (aa (pv 3) (aa (pv 4) (aa (pv 9) ac))))))
   (ah (aA (i:=10) scLaw.nd rfl (.inl rfl) (aq df (pv 10) (aq oj (aq df ar (eC B.str (pv 9))) (jL B.int (eh aW (pv 10) ar (aB _))))))))))))
   (ah (aJ (aC (Ck (by exact hr)) (ai F_law_said hr ak (aa (pv 1) (aa (pv 10) ac))) (pv 11) (aB _)) (ah (aw eZ)) aN)))))))
   (ah (aw (eh (nC (by exact hr)) (aS (aa (iS (pv 2) cDesk Msay hr iQ (aa ar ac)) (aa (iS (pv 2) cDesk Msay hr iQ (aa ar ac)) (aa (iS (pv 2) cDesk Msay hr iQ (aa ar ac)) ac)))) (aS (aa ar (aa ar (aa ar ac)))) (aB _))))))))))),?_⟩
  refine bU fun x dx hx hdx nx=>?_
  refine⟨x,dx,rfl,ag,fun H1 hx1 k1=>⟨rfl,?_⟩⟩
  have s01:Same H H1:=fun z o e=>k1 _ _ (by rw[ap (aK e hx),ap (aK e hdx)];exact e) (aK e hx)
  refine bU fun y dy hy hdy ny=>?_
  refine⟨y,dy,rfl,ag,fun H2 hy2 k2=>⟨rfl,?_⟩⟩
  have s12:Same H1 H2:=fun z o e=>k2 _ _ (by rw[ap (aK e hy),ap (aK e hdy)];exact e) (aK e hy)
  have hx2:=s12 _ _ hx1
  have nxy:x≠y:=aK hx1 hy
  have T2:TB H2 pt:=TT.same (s01.trans s12)
  have hS2:=(s01.trans s12).seq hS
  refine kF (kF ?_)
  refine eG (fun σ H'=>S46 K C pt a0 ns x dx y dy H' .non .non none none none none∧σ=[some (.ref a0),some (.ref x),some (.ref y),some .non,some .non,none,none,none,none,none,none,none,none]) ?_ fun R hR=>?_
  rotate_left
  ·have D2:DS C H2 y dy .non .non none none:=⟨hy2,rfl,rfl,fun _ z=>(nomatch z),fun _ z=>(nomatch z)⟩
   refine⟨_,rfl,y,dy,_,rfl,hy2,dk _ _ nS.1 nS.2,?_⟩
   refine⟨y,dy,Str.ofString "text abaababa",.non,.non,none,none,rfl,D2,T2,.inl ⟨tA,wT,pU,by decide,fun a H3 hy3 ha3 k3=>?_⟩⟩
   have T3:TB H3 pt:=TB.keepI T2 hy2 k3
   have hx3:=k3 _ _ hx2 nxy
   have hS3:=jm hS2 hy2 (fun l z=>(nomatch z)) (fun o l z=>(nomatch z)) k3
   have nay:a≠y:=cR ha3 hy3 (by intro z;cases z)
   have D3:DS C H3 y dy (.ref a) .non (some tA) none:=⟨hy3,⟨a,rfl,ha3⟩,rfl,fun l z=>by cases z;exact⟨pU,by decide⟩,fun _ z=>(nomatch z)⟩
   rw[vS]
   refine⟨_,rfl,y,dy,_,rfl,hy3,dk _ _ nS.1 nS.2,?_⟩
   refine⟨y,dy,Str.ofString "word aba",.ref a,.non,some tA,none,rfl,D3,T3,.inr (.inl ⟨tW,zp,t8,by decide,by decide,fun b H4 hy4 hb4 k4=>?_⟩)⟩
   have T4:TB H4 pt:=TB.keepI T3 hy3 k4
   have hx4:=k4 _ _ hx3 nxy
   have hS4:=jm hS3 hy3 (fun l z=>(nomatch z)) (fun o l z=>(nomatch z)) k4
   have D4:DS C H4 y dy (.ref a) (.ref b) (some tA) (some tW):=⟨hy4,⟨a,rfl,k4 _ _ ha3 nay⟩,⟨b,rfl,hb4⟩,fun l z=>by cases z;exact⟨pU,by decide⟩,fun l z=>by cases z;exact⟨t8,by decide,by decide⟩⟩
   rw[zn]
   refine⟨by show 2≤sizeLine;decide,fun p hp=>⟨by show 2≤sizeLine;decide,fun q hq=>?_⟩⟩
   have s4:=(Same.upd (o:=.lst [V.str "signs 8",.str "signs 3"]) hp).trans (Same.upd (o:=.lst [V.str "signs 8",.str "signs 3"]) hq)
   refine C0 ((Same.upd hq) _ _ ag) ag ⟨_,rfl,ao (hR _ _ ⟨?_,rfl⟩)⟩
   have S4:S46 K C pt a0 ns x dx y dy H4 .non .non none none none none:=⟨⟨_,_,hx4,rfl,rfl,fun _ z=>(nomatch z),fun _ z=>(nomatch z)⟩,⟨_,_,D4⟩,nxy,T4,⟨rfl,rfl,fun _ z=>(nomatch z),fun _ z=>(nomatch z)⟩,hS4⟩
   exact S4.same s4
  clear hx1 k1 s01 hy2 k2 s12 hx2 T2 hS2
  rintro σ H5 ⟨S5,rfl⟩
  refine bU ⟨_,rfl,a0,ns,0,rfl,S5.scr,fun c0=>⟨c0,44,4,rfl,by decide,by decide,by decide,fun head _ _=>?_⟩⟩
  refine Ag ⟨_,rfl,a0,_,rfl,S5.scr,_,_,rfl,rfl,_,_,rfl,rfl,_,rfl,?_⟩
  rw[List.length_map]
  refine⟨by split <;> lia,by split <;> lia,?_⟩
  refine uA (lo:=0) (fun i σ H'=>∃tv wv ot ow v6 v7 v8 v9 v10 v11 v12,S46 K C pt a0 ns x dx y dy H' tv wv ot ow ot ow∧σ=[some (.ref a0),some (.ref x),some (.ref y),some tv,some wv,some (.int head),v6,v7,v8,v9,v10,v11,v12]) ⟨.non,.non,none,none,none,none,none,none,none,none,none,S5,rfl⟩ ?_ ?_
  ·rintro i σ H6 hi ⟨tv,wv,ot,ow,v6,v7,v8,v9,v10,v11,v12,S6,rfl⟩
   rw[Int.zero_add]
   refine bU ⟨_,rfl,_,rfl,a0,ns,i,rfl,S6.scr,fun c=>?_⟩
   refine bU ⟨_,rfl,c,0,12,rfl,by decide,by decide,by decide,fun way w0 w1=>?_⟩
   refine bU ⟨_,rfl,by show 3≤sizeLine;decide,fun l hl=>⟨_,rfl,c,40,3,rfl,by decide,by decide,by decide,fun z z0 z1=>?_⟩⟩
   have s7:=Same.upd (o:=.lst ([12,40,203].map V.int)) hl
   obtain⟨m,em,m0,m1⟩:=jj (xs:=[12,40,203]) (m:=203) z0 z1 (by decide)
   refine⟨l,_,_,_,rfl,rfl,SqL.of ag,em,c,9,m,rfl,by decide,by decide,m0,fun len l0 l1=>?_⟩
   have S7:=S6.same s7
   change (fun H7=>_) (L2.upd H6 l (.lst ([12,40,203].map V.int)))
   generalize L2.upd H6 l (.lst ([12,40,203].map V.int))=H7 at S7 ⊢
   clear S6 s7 hl
   dsimp only
   refine eG (fun σ H'=>∃tv wv lt lw row dv v12,S46 K C pt a0 ns x dx y dy H' tv wv ot ow lt lw∧ym fl cT cC cN cY H' ot ow lt lw row dv∧σ=[some (.ref a0),some (.ref x),some (.ref y),some tv,some wv,some (.int head),some (.int (i:Int)),some (.int c),some (.int way),some (.int len),some (.str row),some dv,v12]) ?_ fun R hR=>?_
   rotate_left
   ·refine CN True (fun Q q1 q2=>⟨_,rfl,_,_,rfl,rfl,_,rfl,bN (fun _=>q1) fun _=>⟨_,rfl,rfl,_,rfl,bN (fun _=>⟨_,rfl,_,_,rfl,rfl,_,rfl,rO q1 (q2 trivial) _⟩) fun _=>q2 trivial⟩⟩) ?_ fun _=>?_
    ·refine bU ⟨_,rfl,c,rfl,fun t ta H8 ta0 hta8 ltt t1 tl s8=>?_⟩
     have S8:=S7.same s8
     refine eG (fun σ H'=>∃l la,S46 K C pt a0 ns x dx y dy H' (.ref la) wv ot ow (some l) ow∧Low l∧l.length≤200∧H' la=some (.lst (l.map sg))∧σ=[some (.ref a0),some (.ref x),some (.ref y),some (.ref la),some wv,some (.int head),some (.int (i:Int)),some (.int c),some (.int way),some (.int len),v10,v11,v12]) ?_ fun R2 hR2=>?_
     rotate_left
     ·refine⟨_,rfl,c,41,9,rfl,by decide,by decide,by decide,fun r _ _=>⟨rfl,_,rfl,?_⟩⟩
      refine bN (fun _=>⟨Nat.zero_le _,fun la hla=>hR2 _ _ ⟨[],la,?_,Low.nil,by decide,ag,rfl⟩⟩) fun _=>hR2 _ _ ⟨t,ta,?_,ltt,tl,hta8,rfl⟩
      ·have S9:=S8.same (Same.upd (o:=.lst []) hla)
       exact S9.law ⟨⟨la,rfl,ag⟩,S9.two.hw,fun l z=>by cases z;exact⟨Low.nil,by decide⟩,S9.two.lw⟩
      ·exact S8.law ⟨⟨ta,rfl,hta8⟩,S8.two.hw,fun l z=>by cases z;exact⟨ltt,tl⟩,S8.two.lw⟩
     rintro σ H9 ⟨l,la,S9,ll,l2,hla,rfl⟩
     have tL:=qS l
     have L5:(Str.ofString "text ").length=5:=by decide+kernel
     refine bU ⟨rfl,_,rfl,Str.ofString "",la,l.map aI,rfl,rfl,by rw[←tM];exact hla,kO (by lia),?_⟩
     rw[kW]
     refine⟨_,_,rfl,rfl,sz (by rw[L5,tL];lia),?_⟩
     refine⟨_,rfl,Nat.zero_le _,fun g hg=>?_⟩
     have s10:=Same.upd (o:=.lst []) hg
     refine⟨la,g,l,[],rfl,rfl,SqL.of (s10 _ _ hla),SqL.of ag,ll.cp,(fun c hc=>by cases hc),_,rfl,?_⟩
     refine⟨_,_,rfl,rfl,sz (by decide+kernel),?_⟩
     have h1:∀b:Bool,(if b=true then Str.ofString "-" else Str.empty).length≤1:=fun b=>by cases b <;> decide+kernel
     refine⟨_,_,rfl,rfl,sz (by rw[strLen_append,L5,tL];have:=h1 (decide (l=[]));exact Nat.le_trans (Nat.add_le_add_left this _) (by lia)),?_⟩
     refine⟨_,rfl,la,_,rfl,SqL.of (s10 _ _ hla),_,rfl,by rw[List.length_map];exact cP (by lia),?_⟩
     rw[List.length_map]
     refine⟨_,_,rfl,rfl,rQ l2,?_⟩
     refine hR _ _ ⟨.ref la,wv,some l,ow,_,_,v12,S9.same s10,.inl ⟨l,?_,ll,l2,rfl,rfl,rfl⟩,rfl⟩
     rw[DH]
     exact congrArg _ (zm l)
    ·refine xV (4≤way) (fun Q q1 q2=>⟨_,rfl,_,_,rfl,rfl,_,rfl,bN (fun _=>q1) fun hn=>⟨_,rfl,rfl,_,rfl,bN (fun _=>⟨_,rfl,rfl,_,rfl,rO q1 (q2 (by have:=kn hn;lia)) _⟩) fun _=>q2 (by have:=kn hn;lia)⟩⟩) ?_ fun h4=>?_
     ·refine bU ⟨_,rfl,c,rfl,fun t ta H8 ta0 hta8 ltt t1 tl s8=>?_⟩
      have S8:=S7.same s8
      refine eG (fun σ H'=>∃sl sa,S46 K C pt a0 ns x dx y dy H' tv wv ot ow ot ow∧Low sl∧1≤sl.length∧sl.length≤200∧H' sa=some (.lst (sl.map sg))∧σ=[some (.ref a0),some (.ref x),some (.ref y),some tv,some wv,some (.int head),some (.int (i:Int)),some (.int c),some (.int way),some (.int len),v10,v11,some (.ref sa)]) ?_ fun R2 hR2=>?_
      rotate_left
      ·have stay:R2 _ H8:=hR2 _ _ ⟨t,ta,S8,ltt,t1,tl,hta8,rfl⟩
       cases ot with
       | none=>
         have e:=S8.two.ht
         have e:tv=.non:=e
         subst e
         exact⟨_,rfl,false,rfl,ao (ao stay)⟩
       | some l=>
         obtain⟨a,rfl,ha⟩:=S8.two.ht
         obtain⟨ll,l2⟩:=S8.two.lt l rfl
         refine⟨_,rfl,!(l.map sg).isEmpty,.inl ⟨_,SqL.of ha,rfl⟩,?_⟩
         by_cases hl:l=[]
         ·subst hl
          exact ao (ao stay)
         ·rw[show(!(l.map sg).isEmpty)=true by cases l with | nil=>exact absurd rfl hl | cons _ _=>rfl]
          refine aE ⟨_,rfl,c,42,3,rfl,by decide,by decide,by decide,fun r _ _=>⟨_,_,rfl,rfl,_,rfl,?_⟩⟩
          exact bN (fun _=>⟨_,rfl,hR2 _ _ ⟨l,a,S8,ll,List.length_pos_iff.mpr hl,l2,ha,rfl⟩⟩) fun _=>stay
      rintro σ H9 ⟨sl,sa,S9,lsl,sl1,sl2,hsa,rfl⟩
      refine bU ⟨_,rfl,_,rfl,_,rfl,sa,_,rfl,SqL.of hsa,by show 3≤sizeLine;decide,fun g hg=>⟨_,rfl,c,45,3,rfl,by decide,by decide,by decide,fun z z0 z1=>?_⟩⟩
      have s10:=Same.upd (o:=.lst ([8,60,200].map V.int)) hg
      obtain⟨m',em',m0',m1'⟩:=jj (xs:=[8,60,200]) (m:=200) z0 z1 (by decide)
      refine⟨g,_,_,_,rfl,rfl,SqL.of ag,em',_,_,rfl,rfl,?_⟩
      rw[List.length_map]
      have hmin:1≤(if m'<(sl.length:Int) then m' else(sl.length:Int))∧(if m'<(sl.length:Int) then m' else(sl.length:Int))≤sl.length:=by split <;> lia
      generalize (if m'<(sl.length:Int) then m' else(sl.length:Int))=mm at hmin ⊢
      refine⟨c,43,mm,rfl,by decide,by decide,hmin.1,fun j j0 j1=>⟨_,_,rfl,rfl,_,rfl,sa,_,rfl,SqL.of (s10 _ _ hsa),fun p hp=>?_⟩⟩
      rw[iO (by lia)]
      have lp:(sl.take (1+j).toNat).length=(1+j).toNat:=by rw[List.length_take];lia
      have s11:=s10.trans (Same.upd (o:=.lst ((sl.take (1+j).toNat).map sg)) hp)
      have S11:=S9.same s11
      have hp11:=ag (H:=L2.upd H9 g (.lst ([8,60,200].map V.int))) (a:=p) (o:=.lst ((sl.take (1+j).toNat).map sg))
      change (fun H'=>_) (L2.upd (L2.upd H9 g (.lst ([8,60,200].map V.int))) p (.lst ((sl.take (1+j).toNat).map sg)))
      generalize L2.upd (L2.upd H9 g (.lst ([8,60,200].map V.int))) p (.lst ((sl.take (1+j).toNat).map sg))=H11 at S11 hp11 ⊢
      dsimp only
      have lu:=lsl.take (1+j).toNat
      generalize sl.take (1+j).toNat=u at lp S11 hp11 lu ⊢
      have u1:1≤u.length:=by lia
      have u2:u.length≤200:=by lia
      refine bU ⟨rfl,_,rfl,Str.ofString "",p,u.map aI,rfl,rfl,by rw[←tM];exact hp11,kO (by lia),?_⟩
      rw[kW]
      refine⟨_,_,rfl,rfl,sz (by rw[show(Str.ofString "word ").length=5 by decide+kernel,qS];lia),?_⟩
      refine⟨_,rfl,p,_,rfl,SqL.of hp11,_,rfl,by rw[List.length_map];exact cP (by lia),?_⟩
      rw[List.length_map]
      refine⟨_,_,rfl,rfl,rQ u2,?_⟩
      exact hR _ _ ⟨tv,.ref p,ot,some u,_,_,some (.ref sa),S11.law ⟨S11.two.ht,⟨p,rfl,hp11⟩,S11.two.lt,fun l z=>by cases z;exact⟨lu,u1,u2⟩⟩,.inr (.inl ⟨u,rfl,lu,u1,u2,rfl,rfl,rfl⟩),rfl⟩
     ·obtain⟨d,ed,hd,od⟩:=xX h4 w1 l0 (by lia:len<203)
      refine bU ⟨by show 8≤sizeLine;decide,fun g hg=>⟨_,rfl,_,_,rfl,rfl,g,_,_,_,rfl,rfl,SqL.of ag,ed,?_⟩⟩
      have S8:=S7.same (Same.upd (o:=.lst [V.str "covers",.str "shortest",.str "lies",.str "laid",.str "fewest",.str "wrong",.str "ends",.str "texts"]) hg)
      change (fun H'=>_) (L2.upd H7 g (.lst [V.str "covers",.str "shortest",.str "lies",.str "laid",.str "fewest",.str "wrong",.str "ends",.str "texts"]))
      generalize L2.upd H7 g (.lst [V.str "covers",.str "shortest",.str "lies",.str "laid",.str "fewest",.str "wrong",.str "ends",.str "texts"])=H8 at S8 ⊢
      dsimp only
      refine bU ⟨_,rfl,_,rfl,_,rfl,_,rfl,d,tv,wv,len,ot,ow,rfl,hd,S8.two,S8.tb,fun dv H9 k9 T9 tl9=>?_⟩
      have S9:=S8.keep k9 T9
      have ll:=PyProof.Rows.len_str_of_int len
      have nl:=Ew d
      have L1:(Str.ofString " ").length=1:=by decide+kernel
      have lg:len.natAbs.log2<1900:=by have:=cP (k:=len.toNat) (by lia);rwa[show((len.toNat:Nat):Int)=len by lia] at this
      refine⟨_,rfl,_,rfl,len,rfl,lg,_,_,rfl,rfl,sz (by rw[L1];lia),_,rfl,rfl,_,rfl,_,_,rfl,rfl,sz (by rw[strLen_append,L1];lia),?_⟩
      have h2:∀b:Bool,(if b=true then Str.ofString " "++Str.ofString (toString len) else Str.empty).length≤300:=fun b=>by
       cases b
       ·show Str.empty.length≤300;decide
       ·show(Str.ofString " "++Str.ofString (toString len)).length≤300
        rw[strLen_append,L1];lia
      refine⟨_,_,rfl,rfl,sz (Nat.le_trans (Nat.add_le_add nl (h2 _)) (by decide)),?_⟩
      refine hR _ _ ⟨tv,wv,ot,ow,_,dv,v12,S9,.inr (.inr ⟨d,?_,od,rfl,rfl,tl9⟩),rfl⟩
      rw[oE]
      exact CF hd
   ·rintro σ H8 ⟨tv',wv',lt,lw,row,dv,v12',S8,N8,rfl⟩
    obtain⟨dt,dw,D8⟩:=S8.dx
    rcases N8 with⟨l,e,ll,l2,e1,e2,e3⟩ | ⟨l,e,ll,l1',l2,e1,e2,e3⟩ | ⟨d,e,od,e1,e2,tl8⟩
    ·have e2:=e2.symm
     subst e1 e2 e3
     refine⟨_,rfl,_,rfl,x,dx,row,dt,dw,ot,ow,rfl,D8,S8.tb,.inl ⟨l,e,ll,l2,fun a H9 hx9 ha9 k9=>?_⟩⟩
     refine⟨_,rfl,pF hf (o:=.ok _) rfl rfl ⟨_,rfl,ao ⟨_,_,some l,ow,_,_,_,_,_,_,_,S8.told k9 ⟨hx9,⟨a,rfl,ha9⟩,D8.hw.keepI D8.at_ k9,fun l' z=>by cases z;exact⟨ll,l2⟩,D8.lw⟩,rfl⟩⟩⟩
    ·have e1:=e1.symm
     subst e1 e2 e3
     refine⟨_,rfl,_,rfl,x,dx,row,dt,dw,ot,ow,rfl,D8,S8.tb,.inr (.inl ⟨l,e,ll,l1',l2,fun a H9 hx9 ha9 k9=>?_⟩)⟩
     refine⟨_,rfl,pF hf (o:=.ok _) rfl rfl ⟨_,rfl,ao ⟨_,_,ot,some l,_,_,_,_,_,_,_,S8.told k9 ⟨hx9,D8.ht.keepI D8.at_ k9,⟨a,rfl,ha9⟩,D8.lt,fun l' z=>by cases z;exact⟨ll,l1',l2⟩⟩,rfl⟩⟩⟩
    ·have e1:=e1.symm
     have e2:=e2.symm
     subst e1 e2
     refine⟨_,rfl,_,rfl,x,dx,row,dt,dw,ot,ow,rfl,D8,S8.tb,.inr (.inr ⟨d,e,od,fun v H9 k9 T9 tl9=>?_⟩)⟩
     exact⟨_,rfl,pF hf tl9 (tl8.keep S8.tb k9) ⟨_,rfl,ao ⟨_,_,ot,ow,_,_,_,_,_,_,_,S8.keep k9 T9,rfl⟩⟩⟩
  ·rintro σ H6 ⟨tv,wv,ot,ow,v6,v7,v8,v9,v10,v11,v12,S6,rfl⟩
   obtain⟨bt,bw,Dy⟩:=S6.dy
   refine⟨_,rfl,y,dy,_,rfl,Dy.at_,dk _ _ nS.1 nS.2,?_⟩
   refine⟨y,dy,cB .laid,bt,bw,some tA,some tW,rfl,Dy,S6.tb,.inr (.inr ⟨.laid,rfl,trivial,oO (show bS cT cC cN cY .laid (some tA) (some tW)=_ from vL) fun H7 k7 T7=>?_⟩)⟩
   have D7:=Dy.keep S6.tb k7
   refine⟨_,rfl,y,dy,_,rfl,D7.at_,dk _ _ nS.1 nS.2,?_⟩
   refine⟨y,dy,cB .few,bt,bw,some tA,some tW,rfl,D7,T7,.inr (.inr ⟨.few,rfl,trivial,oO (show bS cT cC cN cY .few (some tA) (some tW)=_ from yg) fun H8 k8 T8=>?_⟩)⟩
   have D8:=D7.keep T7 k8
   refine⟨_,rfl,y,dy,_,rfl,D8.at_,dk _ _ nS.1 nS.2,?_⟩
   refine⟨y,dy,cB .sho,bt,bw,some tA,some tW,rfl,D8,T8,.inr (.inr ⟨.sho,rfl,trivial,oO (show bS cT cC cN cY .sho (some tA) (some tW)=_ from Eb) fun H9 k9 T9=>?_⟩)⟩
   refine⟨by show 3≤sizeLine;decide,fun p hp=>⟨by show 3≤sizeLine;decide,fun q hq=>?_⟩⟩
   have s9:=(Same.upd (o:=.lst [V.str "covers 3",.str "0 3 5",.str "aba"]) hp).trans (Same.upd (o:=.lst [V.str "covers 3",.str "0 3 5",.str "aba"]) hq)
   exact zu ((Same.upd hq) _ _ ag) ag (k _ (T9.same s9))
end
def pD(n:Int):Option (Option Value)→Bool
 | some (some (.int i _))=>decide (i=n)
 | _=>false
theorem yu{n:Int}{o:Option (Option Value)}(h:pD n o=true):∃u,o=some (some u)∧RelV (.int n) u:=by
 unfold pD at h
 split at h
 ·rename_i i t
  have e:i=n:=of_decide_eq_true h
  subst e
  exact⟨_,rfl,t,rfl⟩
 ·cases h
theorem DO{P:Program}{w:World}{K:PySem.W.Frag}{mg:Str→Option Value}{st:Stmt}{fa:Addr}{k:Nat}{sp:Sp}{CX:bd}(M:Md K mg)(F:FF K "law" st)(hfa:mg "law"=some (.ref fa))(hb:∀(kV doc pm:Value) (an:Option Addr) (cdv ct:Value) (s:Shared) (v:Value),BindsTo s (PySem.W.fnOf "law" "law" (cf st) (bG st) (al st) .none kV doc pm an cdv ct) ⟨[v],[]⟩ [("script",v)])(h:∀base:Heap,K.In base→dH mg base→Fn P w K mg base CX "law" k ["script"] sp):∃fd:FuncData,(∀(s:Shared) (v:Value),BindsTo s fd ⟨[v],[]⟩ [("script",v)])∧∀base:Heap,K.In base→base.Ns mainGlobals mg→dH mg base→FnOk P w K mg base CX k fa fd ["script"] sp:=by
 obtain⟨f,oc,od,an,osl,kV,doc,pm,cdv,ct,a,l,c,kk⟩:=F.ex
 have e:=hfa.symm.trans (M.ns _ _ a)
 cases e
 refine⟨_,hb kV doc pm an cdv ct,fun base hK _ hB=>?_⟩
 obtain⟨f',fd',F',hm',_,_,oc',od',osl',l'⟩:=(h base hK hB).ex
 have e:=hm'.symm.trans (M.ns _ _ a)
 cases e
 rw[l] at l'
 cases l'
 exact F'
theorem all_mk{P:Program}{w:World}{K:PySem.W.Frag}{h:Heap}{mg:Str→Option Value}{fa cc pt C dT dB g1 g2 h1 h2 h3 h4 h5:Addr}{nT nB:Nat}{k1 k2 t1 t2 t3 t4 t5:Tok}(X:K.In h)(G:h.Ns mainGlobals mg)(hfa:mg "law"=some (.ref fa))(hC:PySem.W.codeHdIn K cc pt=true)(f1:FF K "_law_cell_at" mW)(f2:FF K "_law_stir" og)(f3:FF K "_law_digit" pJ)(f4:FF K "_law_word" ml)(f5:FF K "_law_overlaid" my)(f6:FF K "_law_text" oM)(f7:FF K "is_sign" lH)(f8:FF K "check_signs" md)(f9:FF K "check_word" ni)(f10:FF K "check_some" kM)(f11:FF K "check_fits" jM)(f12:FF K "check_within" kb)(f13:FF K "check_both" ju)(f14:FF K "borders" mZ)(f15:FF K "periods" nE)(f16:FF K "lies_at" lX)(f17:FF K "first_bare" i7)(f18:FF K "covered" kg)(f19:FF K "all_covers" kq)(f20:FF K "shortest_cover" oo)(f21:FF K "within_reach" lV)(f22:FF K "fewest_layings" kY)(f23:FF K "shifts" lZ)(f24:FF K "wrong_among_first" mP)(f25:FF K "best_ways" mf)(f26:FF K "fewest_wrong" ki)(f27:FF K "counts_by_length" pT)(f28:FF K "count_covered" kI)(f29:FF K "agrees_at" pN)(f30:FF K "agreeing_places" nG)(f31:FF K "places_with_rests" nu)(f32:FF K "leaves_none_bare" lS)(f33:FF K "rest_behind" lc)(f34:FF K "rest_ahead" jC)(f35:FF K "rest_both" ln)(f36:FF K "are_letters" mR)(f37:FF K "is_length" oU)(f38:FF K "with_blanks" pR)(f39:FF K "tell_covers" om)(f40:FF K "tell_shortest" oA)(f41:FF K "tell_places" mw)(f42:FF K "tell_laid" pk)(f43:FF K "tell_fewest" mL)(f44:FF K "tell_wrong" nR)(f45:FF K "tell_ends" oQ)(f46:FF K "_law_class" ou)(f47:FF K "_law_said" mU)(f48:FF K "_law_numbers" mD)(f49:FF K "_law_of" pX)(f50:FF K "_law_due" nM)(f51:FF K "law" oy)(fC:FFC K "single_steps" gY cc)(x:Md K mg→∃c0 c1 c2 c3 c4 c5 c6 c7 c8 c9:Addr,Exs K mg c0 c1 c2 c3 c4 c5 c6 c7 c8 c9)(nso:PySem.W.nsIn K mainGlobals "sorted"=some none)(na:PySem.W.nsIn K mainGlobals "all"=some none)(nm:pD 200 (PySem.W.nsIn K mainGlobals "MOST_LENGTH")=true)(gD:PySem.W.nsIn K mainGlobals "Desk"=some (some (.ref C)))(q1:PySem.W.plainGet K C Str.empty=true)(q2:PySem.W.hasDictIn K C=true)(q3:PySem.W.plainOver K C=true)(q4:PySem.W.findIn K (.ref C) "__setattr__"=some (some (.builtin "object.__setattr__")))(q5:PySem.W.makesIn K C=true)(q6:PySem.W.keepIn K (.ref C)=true)(q7:PySem.W.findIn K (.ref C) "text"=some none)(q8:PySem.W.findIn K (.ref C) "word"=some none)(m1:MF K C "__init__" "Desk.__init__" pB)(m2:MF K C "told_text" "Desk.told_text" nK)(m3:MF K C "told_word" "Desk.told_word" pM)(m4:MF K C "say" "Desk.say" mK)(gT:PySem.W.nsIn K mainGlobals "OF_TEXT"=some (some (.ref dT)))(lT:K.lookup dT=some {cls:=.type "dict",data:=.dict #[⟨PyData.keyHash w.params "covers",.str "covers" k1,.ref g1⟩,⟨PyData.keyHash w.params "shortest",.str "shortest" k2,.ref g2⟩] nT})(sT:(dT == sysModules)=false)(gB:PySem.W.nsIn K mainGlobals "OF_BOTH"=some (some (.ref dB)))(lB:K.lookup dB=some {cls:=.type "dict",data:=.dict #[⟨PyData.keyHash w.params "lies",.str "lies" t1,.ref h1⟩,⟨PyData.keyHash w.params "laid",.str "laid" t2,.ref h2⟩,⟨PyData.keyHash w.params "fewest",.str "fewest" t3,.ref h3⟩,⟨PyData.keyHash w.params "wrong",.str "wrong" t4,.ref h4⟩,⟨PyData.keyHash w.params "ends",.str "ends" t5,.ref h5⟩] nB})(sB:(dB == sysModules)=false)(gl1:PySem.W.nsIn K mainGlobals "tell_covers"=some (some (.ref g1)))(gl2:PySem.W.nsIn K mainGlobals "tell_shortest"=some (some (.ref g2)))(gl3:PySem.W.nsIn K mainGlobals "tell_places"=some (some (.ref h1)))(gl4:PySem.W.nsIn K mainGlobals "tell_laid"=some (some (.ref h2)))(gl5:PySem.W.nsIn K mainGlobals "tell_fewest"=some (some (.ref h3)))(gl6:PySem.W.nsIn K mainGlobals "tell_wrong"=some (some (.ref h4)))(gl7:PySem.W.nsIn K mainGlobals "tell_ends"=some (some (.ref h5)))(b:Md K mg→Bl mg):∃fd:FuncData,(∀(s:Shared) (v:Value),BindsTo s fd ⟨[v],[]⟩ [("script",v)])∧∀base:Heap,K.In base→base.Ns mainGlobals mg→dH mg base→FnOk P w K mg base ae 11 fa fd ["script"] (kt K pt):=by
 have M:=DB X G
 have Bl:=b M
 obtain⟨c0,c1,c2,c3,c4,c5,c6,c7,c8,c9,S⟩:=x M
 obtain⟨uM,nm1,nm2⟩:=yu nm
 have nm3:=M.ns _ _ nm1
 have nsorted:mg "sorted"=none:=M.ns _ _ nso
 have nall:mg "all"=none:=M.ns _ _ na
 refine DO M f51 hfa (fun _ _ _ _ _ _ s v=>.of_eq rfl) fun base hK hB=>?_
 have CC:=PySem.W.codeHd_of_K hK hC
 have oT:Exc K mg "NoText" c3:=⟨S.bNoText,(excFacts.of S.facts c3 (by simp)).isIn⟩
 have oC:Exc K mg "NoCover" c4:=⟨S.bNoCover,(excFacts.of S.facts c4 (by simp)).isIn⟩
 have oF:Exc K mg "NoForm" c6:=⟨S.bNoForm,(excFacts.of S.facts c6 (by simp)).isIn⟩
 have oN:Exc K mg "NoNumber" c7:=⟨S.bNoNumber,(excFacts.of S.facts c7 (by simp)).isIn⟩
 have oY:Exc K mg "NoneYet" c8:=⟨S.bNoneYet,(excFacts.of S.facts c8 (by simp)).isIn⟩
 have T:DeskT K mg C:=⟨⟨q1,q2,q3,q4⟩,q7,q8,M.ns _ _ gD⟩
 have D1':DK K P w dT (dR g1 g2):=uJ (P:=P) (w:=w) [("covers",k1,g1),("shortest",k2,g2)] lT (n:=nT) rfl sT (show(["covers","shortest"]:List Str).Nodup by decide+kernel)
 have D2':DK K P w dB (fR h1 h2 h3 h4 h5):=uJ (P:=P) (w:=w) [("lies",t1,h1),("laid",t2,h2),("fewest",t3,h3),("wrong",t4,h4),("ends",t5,h5)] lB (n:=nB) rfl sB (show(["lies","laid","fewest","wrong","ends"]:List Str).Nodup by decide+kernel)
 have a1:=BF (P:=P) (w:=w) (base:=base) M Bl f1
 have a2:=AL (P:=P) (w:=w) (base:=base) M Bl f2
 have a3:=Be M Bl f3 a2
 have a4:=Bd M Bl f4 a3
 have a5:=vN M Bl f5 a3
 have a6:=Es M Bl f6 a3 a4 a5
 have b1:=Co (P:=P) (w:=w) (base:=base) M Bl f7
 have b1':=DI (P:=P) (w:=w) (base:=base) M Bl f7
 have b2:=Dc M Bl f8 b1
 have b3:=wx M Bl f9 b2
 have b4:=xg (P:=P) (w:=w) (base:=base) M Bl f10
 have b5:=wC (P:=P) (w:=w) (base:=base) M Bl f10 oT
 have b6:=Dx M Bl f11 b2 b3
 have b7:=x8 M Bl f11 oT b2 b3
 have b8:=vG (P:=P) (w:=w) (base:=base) M Bl f12
 have b9:=yX (P:=P) (w:=w) (base:=base) M Bl f12 oN
 have d1:=yN M Bl f14 b2
 have d2:=z8 M Bl f15 d1
 have d3:=xN M Bl f16 b2 b3
 have d4:=xn (P:=P) (w:=w) (base:=base) M Bl f17
 have d4':=vH (P:=P) (w:=w) (base:=base) M Bl f17
 have d5:=wQ M Bl f18 d3 b4 d4
 have d6:=Ai M Bl f18 d3 b5 d4
 have d7:=d5.toX (CX:=au P w) |>.or (k:=5) d6
 have d8:=zQ M Bl f19 d1 b4 d5
 have d9:=zM M Bl f19 d1 b5 d5
 have e1:=d8.toX (CX:=au P w) |>.or (k:=6) d9
 have e2:=xK M Bl f20 e1
 have e3:=DE (P:=P) (w:=w) (base:=base) M Bl f21
 have e4:=wV M Bl f22 d5 e3
 have e5:=yh M Bl f22 oC d7 e3
 have e6:=e4.toX (CX:=au P w) |>.or (k:=6) e5
 have i1:=zY M Bl f23 b3 d2
 have i2:=zH (P:=P) (w:=w) (base:=base) M Bl f24
 have i3:=wR M Bl f25 i1 i2
 have i4:=zV M Bl f26 oC b6.toX i3
 have i5:=yK M Bl f26 oC b7 i3
 have i6:=i4.or (k:=7) i5
 have j1:=zF M Bl nsorted CC hB fC i1 d3
 have j2:=Dj (P:=P) (w:=w) (base:=base) M Bl f27
 have j3:=Ad M Bl nm3 nm2 f28 b3 b8 j1 j2
 have j4:=wF M Bl nm3 nm2 f28 b3 b9 j1 j2
 have j5:=j3.toX (CX:=au P w) |>.or (k:=7) j4
 have l1:=xW M Bl f13 b2 b3 b4
 have l2:=yU M Bl f13 b2 b3 b5
 have l3:=wk (P:=P) (w:=w) (base:=base) M Bl f29
 have l4:=yS M Bl f30 l3
 have l5:=AW M Bl f31 l4
 have l6:=zX M Bl f32 d4'
 have l7:=BR M Bl f33 l1 l6 l4
 have l8:=BY M Bl f33 l2 l6 l4
 have l9:=l7.toX (CX:=au P w) |>.or (k:=5) l8
 have n1:=DW M Bl f34 l1 l6 l4
 have n2:=AS M Bl f34 l2 l6 l4
 have n3:=n1.toX (CX:=au P w) |>.or (k:=5) n2
 have n4:=Aj M Bl f35 l1 l6 l5
 have n5:=x5 M Bl f35 l2 l6 l5
 have n6:=n4.toX (CX:=au P w) |>.or (k:=5) n5
 have p1:=El (P:=P) (w:=w) (base:=base) M Bl f38
 have p2:=Ci (pt:=pt) M Bl f39 p1 e1
 have p3:=w5 (pt:=pt) M Bl f40 e2
 have p4:=BG (pt:=pt) M Bl f41 p1 d3
 have p5:=Au (pt:=pt) M Bl f42 d7
 have p6:=DP (pt:=pt) M Bl f43 p1 e6
 have p7:=Az (pt:=pt) M Bl f44 p1 i6
 have p8:=Cr (pt:=pt) M Bl f45 l9 n3 n6
 have r1:=yF M Bl nall f36 b1'
 have r2:=yL (P:=P) (w:=w) (base:=base) M Bl nall f37
 have s1:=zI (P:=P) (w:=w) (base:=base) T m1
 have s2:=v2 (P:=P) (w:=w) (base:=base) T oY m2
 have s3:=Ct (P:=P) (w:=w) (base:=base) T oY m3
 have s4:=Ep (cT:=c3) (cC:=c4) M Bl T m4 oF s2 s3 r1 r2 j5 (fun f sp h=>by
  rcases h with⟨rfl,rfl⟩ | ⟨rfl,rfl⟩
  ·exact⟨_,p2.deed (M.ns _ _ gl1) (by decide)⟩
  ·exact⟨_,p3.deed (M.ns _ _ gl2) (by decide)⟩) (fun f sp h=>by
  rcases h with⟨rfl,rfl⟩ | ⟨rfl,rfl⟩ | ⟨rfl,rfl⟩ | ⟨rfl,rfl⟩ | ⟨rfl,rfl⟩
  ·exact⟨_,p4.toX.deed (M.ns _ _ gl3) (by decide)⟩
  ·exact⟨_,p5.deed (M.ns _ _ gl4) (by decide)⟩
  ·exact⟨_,p6.deed (M.ns _ _ gl5) (by decide)⟩
  ·exact⟨_,p7.deed (M.ns _ _ gl6) (by decide)⟩
  ·exact⟨_,p8.deed (M.ns _ _ gl7) (by decide)⟩) (M.ns _ _ gT) (M.ns _ _ gB) D1' D2'
 have u1:=yi (P:=P) (w:=w) (base:=base) M Bl f46 S
 have u2:=Dh M Bl T f47 S s4 u1
 have u3:=CO (P:=P) (w:=w) (base:=base) M Bl f48
 have u4:=zw (cY:=c8) M Bl f49 u3 e1 e2 d3 d7 e6 i6 l9 n3 n6 j5
 have u5:=BP M Bl f50 S (C3 S.nd) u4 u1
 exact Dw M Bl T f51 (fun c=>xt _ _ _ _ _ _ _ _ _ c) (wP q5 q6 s1) a1 a3 s4 a6 u5 u2
theorem walk{l:PySem.W.OpenLaw}{q:Program}{loose:List Str}{XP:(Str→Option Value)→Heap→Prop}{YP:World→Heap→Prop}{d:DefRec}{K:Params→PySem.W.Frag}{c pt:Addr}(hn:l.most=some 63)(hdf:d.params.defaults=[])(hY:∀(w:World) (h:Heap),YP w h→(K w.params).In h)(hT:∀(w:World) (h:Heap),YP w h→h.get? pt=some (PySem.W.tabObj #[]))(hC:∀w:World,PySem.W.codeHdIn (K w.params) c pt=true)(hKP:∀w:World,(K w.params).lookup pt=none)(F:∀(w:World) (mg:Str→Option Value) (fa:Addr) (h:Heap),PySem.W.codeHdIn (K w.params) c pt=true→(K w.params).In h→h.Ns mainGlobals mg→mg d.name=some (.ref fa)→∃fd:FuncData,(∀(s:Shared) (u:Value),BindsTo s fd ⟨[u],[]⟩ [("script",u)])∧∀base:Heap,(K w.params).In base→base.Ns mainGlobals mg→dH mg base→FnOk l.prog w (K w.params) mg base ae 11 fa fd ["script"] (kt (K w.params) pt)):PySem.W.WalkO q loose XP YP l.row.toRowW d [] (fun f vs=>PySem.call f vs):=by
 refine L2.walk_tab (n:=63) (k:=11) (x:="script") (c:=c) (P:=pt) (CX:=fun _=>ae) (sp:=fun w=>kt (K w.params) pt) hn (by decide) hdf ⟨rfl,by decide,by decide⟩ hY hT hC hKP (fun w mg fa h=>F w mg fa h (hC w)) (fun _ _ a ns hl B hS=>⟨a,ns,rfl,hS,hl,.inl B.tab,fun H' T=>⟨rfl,?_⟩⟩) fun _ _ _ _ _ z=>z
 rcases T with t | ⟨c,t,_⟩
 ·exact⟨_,t⟩
 ·exact⟨_,t⟩
end Ov
noncomputable section
namespace PySem.W.Fast
def tw17065367983414595347:=Nat
def tw2849811448357423970:=Nat
def tw16931045669149790055:=Nat
def tw17075079778740755211:=Nat
def tw888434949634774855:=Nat
def tw12473375578685508016:=Nat
def tw8778620092019637068:=Nat
def tw12650972149044976934:=Nat
def tw4388988591788556605:=Nat
def tw17552810707705570289:=Nat
def tw4565855960973366706:=Nat
def tw13693422572127268471:=Nat
def tw11938454080900465533:=Nat
def tw9124179297403228169:=Nat
def tw3245728542614534441:=Nat
def tw9630947331717886873:=Nat
def tw906213727852905383:=Nat
def tw3920653435009201540:=Nat
def tw6377604346309955395:=Nat
def tw7291647764464565738:=Nat
def tw9218429414347494795:=Nat
def tw13265628411084562360:=Nat
def tw9857070264647451224:=Nat
def tw15755735935446278088:=Nat
def tw7845689690160783852:=Nat
def tw10615007038301083075:=Nat
def tw17837738621554004412:=Nat
def tw5151547463541031251:=Nat
def tw14069791851623742364:=Nat
def tw17634244814793144686:=Nat
def tw3144945933850817583:=Nat
def tw14044917946728871366:=Nat
def tw9569495205275205854:=Nat
def tw16579657479032079838:=Nat
def tw16926135209581986903:=Nat
def tw17967041472406181609:=Nat
def tw2180395232208067342:=Nat
def tw6290544940910381546:=Nat
def tw174126313307348627:=Nat
def tw14787533166795056993:=Nat
def tw17438882683456968941:=Nat
def tw9229755315137633266:=Nat
def tw13827793153629954864:=Nat
def tw5026059868848150475:=Nat
def tw18438936244264704976:=Nat
def tw8808223753498938479:=Nat
def tw2962102533175403910:=Nat
def tw11689336476293206746:=Nat
def tw15040259541285082901:=Nat
def tw12323792305718308347:=Nat
def tw2595379199124259894:=Nat
def tw10041298405471827953:=Nat
def tw17797169636167187915:=Nat
def tw16157736408358957718:=Nat
def tw1841421396896973799:=Nat
def tw16438938434350838507:=Nat
def tw14808730357383941899:=Nat
def tw5390875717681783893:=Nat
def tw16585066449986924447:=Nat
def tw16764769737140838402:=Nat
def tw5781283384273052037:=Nat
def tw9086074217545085335:=Nat
def tw583155956278312784:=Nat
def tw16723417617588328134:=Nat
def tw1647186374533132821:=Nat
def tw17724534152713287920:=Nat
def tw15563005814036775042:=Nat
def tw15959131543490041940:=Nat
def tw4326716692551109669:=Nat
def tw3168186101083373567:=Nat
def tw18424494865266629342:=Nat
def tw2612693845987216555:=Nat
def tw17858185660976362016:=Nat
def tw4781563773744290814:=Nat
def tw9212874166232344439:=Nat
def tw6382323281480066766:=Nat
def tw17189932343820436693:=Nat
def tw8269609914404324456:=Nat
def tw10952394047079431940:=Nat
def tw7824281227081952636:=Nat
def tw16758316193555545099:=Nat
def tw3771791112156834175:=Nat
def tw13620201499235861374:=Nat
def tw12749024232901817511:=Nat
def tw12587828785365846479:=Nat
def tw10377088171758933875:=Nat
def tw16088324957110654296:=Nat
def tw1371869259566297595:=Nat
def tw17680216421368689853:=Nat
def tw804104769518460275:=Nat
def tw14153222988832246673:=Nat
def tw16195473676185991136:=Nat
def tw2101143443717521211:=Nat
def tw14203371503327645192:=Nat
def tw2991426315243242112:=Nat
def tw9023231421510055350:=Nat
def tw9094880800442864418:=Nat
def tw14620278653613138068:=Nat
def tw8647071060958791441:=Nat
def tw6128062281818731591:=Nat
def tw9047959189041313516:=Nat
def tw636443403714572465:=Nat
def tw3749657351543024482:=Nat
def tw14546036864908375308:=Nat
def tw4727654496824982391:=Nat
def tw8009972144474510600:=Nat
def tw9553758166286086726:=Nat
def tw13352580807782962416:=Nat
def tw9471485420510122470:=Nat
def tw11474667443652109548:=Nat
def tw13965733880214113844:=Nat
def tw14106359340248759333:=Nat
def tw14701552877698255254:=Nat
def tw15055850082343509616:=Nat
def tw9023397809657547951:=Nat
def tw7892366327133969696:=Nat
def tw3066380297383259091:=Nat
def tw7447598719767814049:=Nat
def tw4665773552621676855:=Nat
def tw16933608888817686440:=Nat
def tw7983066573037085532:=Nat
def tw15834190826014854177:=Nat
def tw17733183994211198347:=Nat
def tw8185179375934314913:=Nat
def tw10519238636608035672:=Nat
def tw10267016505212761645:=Nat
def tw14188677643892980450:=Nat
def tw8735980654782893920:=Nat
def tw14764106076525506302:=Nat
def tw8165708794707608003:=Nat
def tw17036224286872119314:=Nat
def tw3405333386493599902:=Nat
def tw4370836480433601094:=Nat
def tw14750002861400807179:=Nat
def tw121725528733388153:=Nat
def tw3939768537149063599:=Nat
def tw1513368109891627767:=Nat
def tw14357442748563792801:=Nat
def tw4593921957009169841:=Nat
def tw13417834146322097760:=Nat
def tw12698662508830521076:=Nat
def tw5655731475815520666:=Nat
def tw4566883809356365052:=Nat
def tw11664513862174054926:=Nat
def tw12962872886525286082:=Nat
def tw17125632797543776601:=Nat
def tw8994601806179583757:=Nat
def tw3511664454797474710:=Nat
def tw266091659848680628:=Nat
def tw5474182860724663752:=Nat
def tw16577512007122104514:=Nat
def tw668739769276494745:=Nat
def tw15631109487912400623:=Nat
def tw370029036859241366:=Nat
def tw12860860191119610833:=Nat
def tw3526117669637861007:=Nat
def tw12770622674147183926:=Nat
def tw6997113694355492319:=Nat
def tw12930210755354868533:=Nat
def tw7855370218560227066:=Nat
def tw9920919950983438962:=Nat
def tw15282059146982867265:=Nat
def tw8552192822773879046:=Nat
def tw1346634212860036285:=Nat
def tw4445182534375345100:=Nat
def tw3982660962368737628:=Nat
def tw10481655074842600020:=Nat
def tw12062205515416171831:=Nat
def tw3588458121022241016:=Nat
def tw666544687730387064:=Nat
def tw6774672280150134941:=Nat
def tw878412336481941649:=Nat
def tw14116182994734391218:=Nat
def tw6463700433007063072:=Nat
def tw7954707752255393166:=Nat
def tw17520135508213803601:=Nat
def tw2375396229209425246:=Nat
def tw10952071736953241166:=Nat
def tw7449316991732520840:=Nat
def tw14146288115719196759:=Nat
def tw521128716977208993:=Nat
def tw14188516580506810783:=Nat
def tw15083776617668010365:=Nat
def tw11416400383355774353:=Nat
def tw11635360835692653996:=Nat
def tw15052763473391674659:=Nat
def tw7353775471196218643:=Nat
def tw17069450133410864983:=Nat
def tw16802984410789900434:=Nat
def tw18040510375972975431:=Nat
def tw17007662311466666919:=Nat
def tw4644348498775449793:=Nat
def tw1187378155720872343:=Nat
def tw22556997846686599:=Nat
def tw8225405359633554322:=Nat
def tw15936759507804245070:=Nat
def tw10997475693099109345:=Nat
def tw1416640814391992228:=Nat
def tw15303368666964163323:=Nat
def tw13159100296151701003:=Nat
def tw9133492449873122535:=Nat
def tw328711767117023968:=Nat
def tw15059472361769252371:=Nat
def tw15053181876732726162:=Nat
def tw13962518397184766539:=Nat
def tw1287148316060280316:=Nat
def tw2534545965580742886:=Nat
def tw3915406018884424579:=Nat
def tw3736035011855719380:=Nat
def tw17815061644707137218:=Nat
def tw9542388543164104682:=Nat
def tw3680207209894796177:=Nat
def tw937876435504494964:=Nat
def tw3182519134437669342:=Nat
def tw16578133798349963659:=Nat
def tw8765227808527242302:=Nat
def tw655011441310099938:=Nat
def tw1150394701821155975:=Nat
def tw13737188856778949122:=Nat
def tw13592485053801669863:=Nat
def tw9555520789189303836:=Nat
def tw5438478439930101448:=Nat
def tw10183210043806250623:=Nat
def tw12286163732743346213:=Nat
def tw3940302760818785449:=Nat
def tw2321276299165499174:=Nat
def tw7456036440022462438:=Nat
def tw7319725933939809755:=Nat
def tw12866690490834182488:=Nat
def tw16595845333382101080:=Nat
def tw17977387468971440151:=Nat
def tw15804274641534253056:=Nat
def tw9647257819998912161:=Nat
def tw9617382063301683799:=Nat
def tw9046366567712420454:=Nat
def tw15566747702896218216:=Nat
def tw17296927056709570217:=Nat
def tw3319113545488883769:=Nat
def tw947795329804217364:=Nat
def tw8544234460721516758:=Nat
def tw2315981394814967466:=Nat
def tw8931984230859410997:=Nat
def tw6761874996661264216:=Nat
def tw12284466116412743343:=Nat
def tw3774992781937041888:=Nat
def tw4249993315068009396:=Nat
def tw14101879981082427694:=Nat
def tw601344796095741341:=Nat
def tw11272976038104300837:=Nat
def tw8148531677690644961:=Nat
def tw11839175551976504931:=Nat
def tw1190353840269467811:=Nat
def tw348085507254712907:=Nat
def tw11910685154497053678:=Nat
def tw7330717125063308767:=Nat
def tw8194521580596789282:=Nat
def tw6989584994686107760:=Nat
def tw2937618430811791238:=Nat
def tw8183159898850927838:=Nat
def tw15562606519526783198:=Nat
def tw5766624413910346037:=Nat
def tw16087749505260573537:=Nat
def tw17061283459837506380:=Nat
def tw8388593534082817201:=Nat
def tw10186976987974826229:=Nat
def tw4330556349530108933:=Nat
def tw7521321728135783121:=Nat
def tw13184935364814843076:=Nat
def tw991671167839407890:=Nat
def tw12411484236711175413:=Nat
def tw17549476885789449354:=Nat
def tw1687222603249387980:=Nat
def tw5587879385293658399:=Nat
def tw9303078987829584430:=Nat
def tw2929891493160155909:=Nat
def tw439527565900483354:=Nat
def tw8228553530786986945:=Nat
def tw12488973748369617202:=Nat
def tw12983864358852712906:=Nat
def tw6457150861120222023:=Nat
def tw5230500733538671834:=Nat
def tw7711491675828656095:=Nat
def tw11883798415320645772:=Nat
def tw4856613854035916122:=Nat
def tw12556053052798105081:=Nat
def tw3527644369743974481:=Nat
def tw11900213008497053881:=Nat
def tw12362571796200674858:=Nat
def tw15029855814777208632:=Nat
def tw10030290933951501617:=Nat
def tw16371085018893187246:=Nat
def tw370367531702289299:=Nat
def tw17206398398968232401:=Nat
def tw6695878363747254514:=Nat
def tw2531367770337214911:=Nat
def tw10866801137355500898:=Nat
def tw4544406059753008199:=Nat
def tw11502459641466257157:=Nat
def tw3325789213987398727:=Nat
def tw370180550655802409:=Nat
def tw3804427935508785488:=Nat
def tw14481299352320341049:=Nat
def tw1800274908062160318:=Nat
def tw4948851619209493567:=Nat
def tw2552113401996055735:=Nat
def tw6296571258542867172:=Nat
def tw16048938764086509178:=Nat
def tw1473562089670809468:=Nat
def tw12549825563151422793:=Nat
def tw18251027375905480610:=Nat
def tw5425320995129403775:=Nat
def tw295255960335230185:=Nat
def tw14915986187589845714:=Nat
def tw2579296560957850362:=Nat
def tw4455475728078875714:=Nat
def tw8592994669323960109:=Nat
def tw8908071815932807185:=Nat
def tw457739397362608217:=Nat
def tw5031890876457143548:=Nat
def tw476813113428426475:=Nat
def tw6456258809322638291:=Nat
def tw8144717336464504488:=Nat
def tw18078975827389530466:=Nat
def tw16445244601297171480:=Nat
def tw16488325480897088631:=Nat
def tw9692204864434325952:=Nat
def tw10466046334956497663:=Nat
def tw1551233990489737544:=Nat
def tw1224182772889627209:=Nat
def tw1698493102591672898:=Nat
def tw5771886364681766911:=Nat
def tw15748340134917075319:=Nat
def tw1934996442518437169:=Nat
def tw1618444223193666863:=Nat
def tw6270667994978717225:=Nat
def tw5749346077664806838:=Nat
def tw8520208463127697298:=Nat
def tw9721631895293319190:=Nat
def tw3162902762396948464:=Nat
def tw11648385930837280295:=Nat
def tw16803108750321378492:=Nat
def tw10476544782872557668:=Nat
def tw2765482135368816733:=Nat
def tw9295313719828275740:=Nat
def tw1543428035539275182:=Nat
def tw4818141660104554884:=Nat
def tw4031595519833850134:=Nat
def tw16165690603817483287:=Nat
def tw10683308306022008449:=Nat
def tw13741303285360242658:=Nat
def tw8711165642625886614:=Nat
def tw911960572211179859:=Nat
def tw11029316939449515663:=Nat
def tw11447405136425229865:=Nat
def tw17151189143261194907:=Nat
def tw17402986170975210592:=Nat
def tw16321111332528452136:=Nat
def tw3994426022800214874:=Nat
def tw3428738190983160587:=Nat
def tw1035835593892874468:=Nat
def tw1995311488006076353:=Nat
def tw10831678490329875606:=Nat
def tw11538871035269769743:=Nat
def tw7500541980360715705:=Nat
def tw2882760165686911935:=Nat
def tw12400855846227968419:=Nat
def tw18371425339910509498:=Nat
def tw5968838082787631838:=Nat
def tw12887234650741788102:=Nat
def tw1808251017876240624:=Nat
def tw13693627220369553180:=Nat
def tw4347410910946046890:=Nat
def tw5269353207041043200:=Nat
def tw2808386950513413599:=Nat
def tw8508645085819628266:=Nat
def tw2875239490275158892:=Nat
def tw1540221513217537356:=Nat
def tw3743013779127233337:=Nat
def tw13665936103245097028:=Nat
def tw13518444544644546350:=Nat
def tw169372464925223613:=Nat
def tw16554643679031853811:=Nat
def tw5644753465725835479:=Nat
def tw16115301839420676091:=Nat
def tw739952504171696123:=Nat
def tw12348116927626065039:=Nat
def tw12841927512448037215:=Nat
def tw15794906514909506306:=Nat
def tw780310701848596940:=Nat
def tw3170090658764659624:=Nat
def tw5747280529056639312:=Nat
def tw10980258187881610962:=Nat
def tw6035046073922599462:=Nat
def tw5917315157466376651:=Nat
def tw7917991448358617033:=Nat
def tw3401930607979869334:=Nat
def tw16916193472224981154:=Nat
def tw6103097040589113946:=Nat
def tw2013981488254562833:=Nat
def tw5633612142964535948:=Nat
def tw10570942915293623531:=Nat
def tw195236682346859343:=Nat
def tw1143862055896726556:=Nat
def tw7335139901642954839:=Nat
def tw7946848667117362370:=Nat
def tw18343807570258913763:=Nat
def tw7763270091280979005:=Nat
def tw16124046112204021220:=Nat
def tw1525150569389300431:=Nat
def tw7646961141465132746:=Nat
def tw13803214331854336759:=Nat
def tw14160062202651220110:=Nat
def tw3556265985181783445:=Nat
def tw5575128727522932933:=Nat
def tw17102460144333309322:=Nat
def tw11413568913987552949:=Nat
def tw15238128875920648055:=Nat
def tw1847064311876309620:=Nat
def tw6773054247400939997:=Nat
def tw13410693235076270700:=Nat
def tw6162041324178255471:=Nat
def tw15912074324711038453:=Nat
def tw8042906100540969832:=Nat
def tw5743293740317282866:=Nat
def tw15342200186267310694:=Nat
def tw3552682007978153219:=Nat
def tw7897724827755411605:=Nat
def tw8957491928678589805:=Nat
def tw10801174799435457962:=Nat
def tw7776712571008314600:=Nat
def tw8575392624852701515:=Nat
def tw1737036349752332783:=Nat
def tw5316743071350422801:=Nat
def tw12611676570271350097:=Nat
def tw6238753353050612020:=Nat
def tw14271547290075211256:=Nat
def tw14985305788338248695:=Nat
def tw2435380053951062070:=Nat
def tw5786801759191438487:=Nat
def tw9878891080179626239:=Nat
def tw2031104036435014992:=Nat
def tw5599237428987952962:=Nat
def tw14876463698612998629:=Nat
def tw613784474941986886:=Nat
def tw11804115457843898509:=Nat
def tw1873326930775565106:=Nat
def tw14811569763781715806:=Nat
def tw1393633208929746783:=Nat
def tw526293662306536480:=Nat
def tw5357983142825768329:=Nat
def tw3607045798841086127:=Nat
def tw10725047054700644749:=Nat
def tw14292902543931649504:=Nat
def tw8060249272543316960:=Nat
def tw3014598118110570970:=Nat
def tw10006610354679816510:=Nat
def tw17940074033480993835:=Nat
def tw248121677896830415:=Nat
def tw9441437081655375830:=Nat
def tw13223440818370839477:=Nat
def tw1270337063947465062:=Nat
def tw1967596700006331256:=Nat
def tw6792903869065714436:=Nat
def tw769332189493255650:=Nat
def tw11913319038913754871:=Nat
def tw1434303760230593353:=Nat
def tw8145491839197211159:=Nat
def tw16303987526221599538:=Nat
def tw1926919634201090791:=Nat
def tw17093701272674450230:=Nat
def tw9030683956855288273:=Nat
def tw7327220482113370344:=Nat
def tw205575559731970063:=Nat
def tw13460344375085277022:=Nat
def tw16198977699847300322:=Nat
def tw15052041623464831653:=Nat
def tw4661273950338976205:=Nat
def tw6743486006208151588:=Nat
def tw9833276349070337556:=Nat
def tw14030100692513770781:=Nat
def tw487187054249022772:=Nat
def tw10596821642673993191:=Nat
def tw569158807175153323:=Nat
def tw16236409167830117658:=Nat
def tw3066351300374419725:=Nat
def tw2516127681331346209:=Nat
def tw15513395230649939632:=Nat
def tw5001651006324057553:=Nat
def tw9033834715267648660:=Nat
def tw5106241459300160433:=Nat
def tw18010144087465278694:=Nat
def tw13502589755437247060:=Nat
def tw11567292509189379890:=Nat
def tw18229632090119914321:=Nat
def tw5502539204560915607:=Nat
def tw6173567790657061163:=Nat
end PySem.W.Fast
end
open PySem PySem.W PyProof.Rows
set_option maxRecDepth 100000 in
set_option maxHeartbeats 0 in
theorem PySem.Challenge.cw_overlaid_k46_a_desk_by_the_stages_holds : PySem.Challenge.rw_overlaid_k46_a_desk_by_the_stages.Holds := by
 w_on;o_law;k_head;(case hw=>w_witness2)
 k_fill
 refine' Ov.walk (l:=PySem.Challenge.rw_overlaid_k46_a_desk_by_the_stages) rfl rfl (fun w h Y=>PySem.W.km_in_of Y) (fun w h Y=>PySem.W.km_tabs_of Y _ List.mem_cons_self) ?hC ?hKP ?F
 case F=>
  intro w mg fa h hc KX G hmg
  refine' Ov.all_mk KX G hmg hc ?f1 ?f2 ?f3 ?f4 ?f5 ?f6 ?f7 ?f8 ?f9 ?f10 ?f11 ?f12 ?f13 ?f14 ?f15 ?f16 ?f17 ?f18 ?f19 ?f20 ?f21 ?f22 ?f23 ?f24 ?f25 ?f26 ?f27 ?f28 ?f29 ?f30 ?f31 ?f32 ?f33 ?f34 ?f35 ?f36 ?f37 ?f38 ?f39 ?f40 ?f41 ?f42 ?f43 ?f44 ?f45 ?f46 ?f47 ?f48 ?f49 ?f50 ?f51 ?fC ?X ?Nsorted ?Nall ?NMOST ?gD ?q1 ?q2 ?q3 ?q4 ?q5 ?q6 ?q7 ?q8 ?m1 ?m2 ?m3 ?m4 ?gT ?lT ?sT ?gB ?lB ?sB ?gl1 ?gl2 ?gl3 ?gl4 ?gl5 ?gl6 ?gl7 ?B
  (case fC=>(refine' Ov.ffc_mk ?a ?l ?c ?k;(case a|l|c|k=>k_is)))
  (case f1|f2|f3|f4|f5|f6|f7|f8|f9|f10|f11|f12|f13|f14|f15|f16|f17|f18|f19|f20|f21|f22|f23|f24|f25|f26|f27|f28|f29|f30|f31|f32|f33|f34|f35|f36|f37|f38|f39|f40|f41|f42|f43|f44|f45|f46|f47|f48|f49|f50|f51=>(refine' L2.ff_mk ?a ?l ?c ?k;(case a|l|c|k=>k_is)))
  (case X=>(intro M;refine' ⟨_,_,_,_,_,_,_,_,_,_,Ov.exs_mk M ?a0 ?a1 ?a2 ?a3 ?a4 ?a5 ?a6 ?a7 ?a8 ?a9 ?av ?ef ?nd⟩;(case a0|a1|a2|a3|a4|a5|a6|a7|a8|a9|av=>k_is);(case ef=>kernel_rfl);(case nd=>decide)))
  (case Nsorted=>k_is)
  (case Nall=>k_is)
  (case NMOST=>kernel_rfl)
  (case gD|q1|q2|q3|q4|q5|q6|q7|q8=>k_is)
  (case m1|m2|m3|m4=>(refine' L2.mf_mk ?a ?i ?l ?c ?k;(case a|i|l|c|k=>k_is)))
  (case gT|lT|gB|lB=>k_is)
  (case sT=>rfl);(case sB=>rfl)
  (case gl1|gl2|gl3|gl4|gl5|gl6|gl7=>k_is)
  (case B=>(intro M;refine' L2.bl_of M ?b1 ?b2 ?b3 ?b4 ?b5 ?b6 ?b7 ?b8 ?b9 ?b10 ?b11 ?b12 ?b13 ?b14 ?b15;(case b1|b2|b3|b4|b5|b6|b7|b8|b9|b10|b11|b12|b13|b14|b15=>k_is)))
 case hC=>(intro w;kernel_rfl)
 case hKP=>(intro w;kernel_rfl)
